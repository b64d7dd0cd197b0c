import PyProof.Rows.All
import Wide.All
import OpenK.AllK
import Wide.FinOn
import Lean
import PyProof.EqAt
import PyProof.EqKinds
import PyProof.TupleCall
import PyProof.EnumMake
import PyProof.ZipIter
import PyProof.ExcClass2
import PyProof.ExcInit
import PyProof.ExcBaseAll.ValueError
import PyProof.FString2
import PyProof.ExcArgsOwn
import PyProof.InstStoreFacts
import ObjForm.Fk.InstStore
import ObjForm.Fk.InstLoad
import PyProof.StationsW
import PyProof.RulesAs
import PyProof.NsDelKeeps
import OpenK.KMore
import PyProof.IsiBase
import OpenK.KNot
import PyProof.Rows.RuleN_isinstance
import PyProof.NeData
import PyProof.P3In
import PyProof.StrWalks
import PyProof.ConsumeWalk
import PyProof.SliceStr2
import PyProof.MeetsStr
import KE.KItem
import KE.KUnpack
import KE.KRevSl
import PyProof.Rows.SetFrom
import PyProof.SetRoads
import PyProof.Rows.Range3
import PyProof.CallType
import PyProof.Rows.CallKwBuiltin
import PyProof.Rows.MinMaxN
import PyProof.SumWalkG
import PyProof.Rows.SeqMore
import PyProof.Rows.SortWalk
import PyProof.Rows.SumAny
import PyProof.Rows.SeqMore2
import KE.KSortTup
import PyProof.Rows.SortShellK
import PyProof.ReprRoads
import PyProof.ReprBulk
import PyProof.CallFns
import PyProof.NeKinds
import PyProof.Rows.StrJoinMade
import PyProof.StrCalls
import KE.KIntText
import PyProof.ReprDict
import PyProof.DictIter
import PyProof.Rows.DictUnroll
import PyProof.MeetsStr2
import PyProof.Rows.StrNews
import PyProof.StrLawsChain
import PyProof.Rows.StrItems
import PyProof.SeqRoads2
import PyProof.Rows.StrNews2
import PyProof.Rows.StrLawsPart
import PyProof.Rows.StrFirst
import PySem.Challenge.RW_wishdeal_k39_papers_refused
set_option compiler.extract_closed false
set_option Elab.async false
set_option linter.all false
set_option maxRecDepth 100000
set_option maxHeartbeats 4000000
noncomputable section
open Option renaming some→O,none→yL
open Bool renaming true→yM,false→yN
def yK.{u}{α:Sort u}{a:α}:a=a:=rfl
abbrev yP:=List Int
abbrev yX:=Option Int
abbrev yZ:=Option Bool
def Qa:type_of% @of_decide_eq_true:=@of_decide_eq_true
def Qp:type_of% @if_pos:=@if_pos
def QF:type_of% @decide_eq_false:=@decide_eq_false
def QH:type_of% @if_neg:=@if_neg
def QM:type_of% @decide_eq_true:=@decide_eq_true
def Jc:type_of% @of_decide_eq_false:=@of_decide_eq_false
def Jo:type_of% @decide_eq_true_eq:=@decide_eq_true_eq
def JZ:type_of% @decide_eq_decide:=@decide_eq_decide
def J6:type_of% @if_false:=@if_false
def Uh:type_of% @congrArg:=@congrArg
open PySem renaming wpAny_bind→Qb,wpAny_pure→Qf,wpAny_loadPart_at→Qq,wpAny_mono→Qy,wpAny_isSubtype_exc→QK,wpAny_truthy_bool→Q2,wpAny_field→Q5,mem_of_lookup→Q8,codeAny_call_builtin→Ja,wpAny_holding→Jl,wpAny_standAt→Jm,sizeLine_eq→Jn,wpAny_passesOwn→Jq,wpAny_Call_Name_kw→Jr,wpAny_typeNameOfWhole_keyiter→Js,wpAny_call_entry→JA,wpAny_execs_nil→JG,codeAny_mono→JH,wpAny_setField→JJ,wpAny_newObj_type→JN,wpAny_pyIter_list→JO,Value→Uj,Shared→Uk,Program→Ul,Addr→Um,FuncData→Uo,Expr→Up,sizeLine→Uq,wpAny→Ur,starEach→Us,compareOp→Ut,assignEach→UH,foldedSetIterable→UI
open List renaming length_map→Qd,getElem?_map→Qh,getElem?_eq_getElem→Qi,length_append→Qj,getElem?_set_ne→Qk,getElem?_eq_some_iff→Ql,mem_cons_of_mem→Qm,mem_cons_self→Qn,mem_of_getElem?→Qr,mem_cons→Qs,getElem?_append_left→Qu,mem_map→Qv,length_nil→Qw,getElem?_append_right→Qx,length_replicate→QB,getElem?_replicate→QC,length_cons→QD,getElem?_set_self→QG,map_cons→QI,all_eq_true→QL,mem_singleton→QN,mem_append→QO,map_append→QQ,nil_append→QR,append_assoc→QS,lookup_cons→QT,not_mem_nil→QU,mem_append_right→QX,contains_cons→QY,length_set→QZ,map_map→Q0,append_nil→Q3,size_toArray→Q4,filter_eq_self→Q9,length_singleton→Jd,flatten_cons→Je,take_succ_eq_append_getElem→Jf,getD_eq_getElem?_getD→Jg,zip_cons_cons→Jh,all_cons→Ji,length_take→Jk,nodup_append→Jp,mem_range→JC,mem_append_left→JK,length_zip→JP,length_drop→JS,pairwise_cons→JT,mem_replicate→JU,drop_eq_getElem_cons→JV,getElem?_cons_succ→JX,getElem_mem→JY,take_length→J0,map_replicate→J5,nodup_nil→J7,mem_of_mem_take→J8,of_mem_zip→Ua,range→Uu,replicate→Uv,Pairwise→UF
open PySem.Heap renaming get?_push_of_some→Qe,lt_size→Qg,get?_push_size→Qt,get?_update_other→QP,get?_update_self→Q7,size_push→Jx
open Nat renaming le_refl→Qo,lt_of_lt_of_le→QA,le_trans→QE,ne_of_lt→QJ,le_of_not_lt→Jb,ne_of_gt→Ju,lt_irrefl→Jz,le_succ→JM,zero_add→JR,zero_le→J4,le_of_lt→Ue
open Bool renaming and_eq_true→Qz,true_and→Jt,false_eq_true→JI,and_false→JL,or_true→Uf
open Option.some renaming inj→QW
open Int renaming emod_lt_of_pos→Q6,emod_nonneg→Jj,toNat_natCast→JD,le_refl→JW,le_antisymm→Ub,zero_add→Ug,not_lt→Ui
open PySem.F renaming slot_dict_keyiterator_next→Jv
open PySem.W.Fast renaming te1987589406359920131→Jw
open Array renaming getD_eq_getD_getElem?→Jy,getElem?_eq_some_iff→JB,getElem?_eq_getElem→JF,length_toList→J9
open PySem.W renaming kia_one→JE
open PyProof.Rows renaming callWith_type1→JQ
open Array.Perm renaming refl→Uc
open Prod.mk renaming inj→Ud
open PySem.PyData renaming list→Uw,bool→Ux,str→Uy,strOk→Uz,canLayAll0→UA,depth→UB,eqv→UC,shown→UG
open PySem.PassesOwn renaming never→UD
open PySem.Str renaming ofString→UE
abbrev yR:=List Uj
abbrev yS:=List Up
abbrev yT:=Option Uj
abbrev yU:=List Um
abbrev yY:=Option Um
abbrev L3:=List (List yP)
abbrev LO:=List yX
abbrev y0:=Option LO
abbrev LP:=List (Int×Int)
open PySem.W (Frag)
open PySem.PyData (int)
open List (replicate)
namespace DL
open PySem PySem.Spec PySem.W PyProof.Rows
def topRunT(tb:String->Option Builtin)(p:Ul)(w:World)(m:Nat)(ann:yT):Nat->SharedT->Thread->Option SharedT
 |0,_,_=>yL
 |n+1,s,t=>match through t,stepOk m ann t with
  |true,_=>O s
  |false,yN=>yL
  |false,yM=>match stepT (denote tb) p w s t with
   |some x=>topRunT tb p w m ann n x.1 x.2
   |none=>yL
theorem FH      : ∀{n}{s s'}{t},topRunT tb p w m ann n s t=O s'->topRun tb p w m ann n s.abs t=O s'.abs
 |0,_,_,_,h=>by cases h
 |n+1,s,s',t,h=>by
  rw[topRunT]at h;rw[topRun];cases ht:through t with
  |true=>simp_all
  |false=>
   rw[ht]at h;cases hk:stepOk m ann t with
   |false=>simp_all
   |true=>
    rw[hk]at h;dsimp only at h⊢;cases hs:stepT _ p w s t with
    |none=>rw[hs]at h;cases h
    |some x=>rw[hs]at h;rw[stepT_spec hs];exact FH h
def btOf(l:List Obj):BT:=(l.foldl (λ(x:BT×Nat) o=>(x.1.ins x.2 o,x.2+1)) (.nil,0)).1
noncomputable def T0 (w:World) (os:OsState):SharedT:=⟨btOf (boot_heap w.params).objs.toList,11,(boot_heap w.params).life,#[],boot_drawn,boot_toks,os⟩
def kX(w)(os):(T0 w os).abs=⟨boot_heap w.params,#[],boot_drawn,boot_toks,os⟩:=by kernel_rfl
def wI(w:World):((boot_heap w.params).isNs mainGlobals&&(#[]:Array GenState).size==0,(boot_heap w.params).objs.size,(boot_heap w.params).nsMap mainGlobals "__annotations__")=(yM,11,O (.ref 6)):=by kernel_rfl
noncomputable abbrev DD (p q:Ul) (loose:List Str) (Xt:Uk->Bool) (w:World) (t:SharedT):=
 ((staticsOk (importedModules p.main.body) (boot_heap w.params) t.abs.heap&&namesBound p t.abs.heap&&gensDone t.abs&&laidKept (boot_heap w.params) t.abs.heap),openSeen q loose (importedModules p.main.body) Xt yM t.abs)
abbrev VB0:yR:=[.type "ValueError", .type "Exception", .type "BaseException", .type "object"]
def OE:List Str:=["__setattr__", "__getattribute__", "__getattr__", "__class__", "part", "number", "row"]
def Vz(nm:Str):Str:=nm ++ "." ++ "__init__"
def xB(h:Heap)(nm:Str)(own:Bool):Bool:=match h.nsMap mainGlobals nm with
 |some (.ref C)=>(match h.get? C with
  |some ⟨.type t,_,.cls cd,sl⟩=>(t == "type")&&(cd.name==nm)&&cd.hasDict && !cd.hasDel&&(match sl.toList with | [_,_,_,_,k4,_]=>decide (k4=O (.builtin "ValueError.__new__"))|_=>yN)&&h.isNs cd.ns&&(OE.all λx=>(h.nsMap cd.ns x).isNone)&&(own || (h.nsMap cd.ns "__init__").isNone) &&
   (if nm = "DealError" then decide (cd.mro=.ref C::VB0)else match h.nsMap mainGlobals "DealError" with|some (.ref D)=>decide (cd.mro=.ref C::.ref D::VB0)|_=>yN)
  |_=>yN)
 |_=>yN
def xSh(h:Heap)(nm:Str):Option (Bool×FnShape):=match h.nsMap mainGlobals nm with
 |some (.ref C)=>(match h.get? C with
  |some ⟨_,_,.cls cd,_⟩=>(match h.fnAt cd.ns "__init__", h.shapeAt cd.ns "__init__" with|some (_,o,_),O sh=>O (decide (o.cls=.type "function"),sh)|_,_=>yL)
  |_=>yL)
 |_=>yL
def XI(st:Stmt):Stmt:=match st with
 |.ClassDef _ _ _ (m::_) _ _ _ _ _ _ _=>m
 |_=>.Pass ⟨0,0,0,0⟩
def Mm(s:Stmt):Arguments:=match s with
 |.FunctionDef _ a _ _ _ _ _ _ _ _=>a
 |_=>default
def Ml(s:Stmt):List Stmt:=match s with
 |.FunctionDef _ _ b _ _ _ _ _ _ _=>b
 |_=>[]
def MP(s:Stmt):Scope:=match s with
 |.FunctionDef _ _ _ _ _ _ sc _ _ _=>sc
 |_=>{kind:=.function,names:=[],isGenerator:=yN,isCoroutine:=yN}
def Tp(nm:Str)(st:Stmt):FnShape:=⟨"__init__", Vz nm,Mm st,.stmts (Ml st),MP st,mainGlobals,[],.none,.none,yL,.none,builtinsNs,yM⟩
abbrev XL0:=List (Str×Option Nat)
def xSeen(l:XL0)(s:Uk):Bool×List (Bool×Option (Bool×FnShape)):=(s.heap.isNs cStatics&&(s.heap.nsMap cStatics "thirdparty.any").isNone,l.map λc=>(xB s.heap c.1 c.2.isSome,if c.2.isSome then xSh s.heap c.1 else yL))
def xGood(p:Ul)(l:XL0):Bool×List (Bool×Option (Bool×FnShape)):=(yM,l.map λc=>(yM,c.2.map λi=>(yM,Tp c.1 (XI (p.main.body.getD i (.Pass ⟨0,0,0,0⟩))))))
def kW{α:Type}{Yf}{Ya:World->α}{p q:Ul}{loose:List Str}{Xt}{N M:Nat}(e:opening p=plainProg p.main.scope.names)(hN:Nat.ble 600 N=yM)(f:∀s,fenceModules? p s=O s)(le:Nat.ble M N=yM)
  (run:∀(w:World)(os:OsState),(topRunT treeTable p w 11 (O (.ref 6)) M (T0 w os) (topStub p)).map (λt=>(DD p q loose Xt w t,Yf t.abs))=O ((yM,openGood q loose),Ya w)):LeftO p q loose Xt Yf Ya N:=λw=>by
 obtain⟨⟨h,gs,d,k,os⟩,e0,e'⟩:=Option.map_eq_some_iff.mp (boot_open e hN f w);obtain⟨rfl,rfl,rfl,rfl⟩:h=boot_heap w.params/\gs=#[]/\d=boot_drawn/\k=boot_toks:=by simpa only[Prod.mk.injEq]using e'
 obtain⟨t,ht,l⟩:=Option.map_eq_some_iff.mp (run w os);have hr:=FH ht;rw[kX]at hr;have r:=topRun_mono (N-M) _ _ _ _ hr;rw[show M+(N-M)=N by have:=Nat.le_of_ble_eq_true le;lia]at r;obtain⟨l0,l3⟩:=Ud l;obtain⟨l1,l2⟩:=Ud l0;have z:=wI w;obtain⟨z1,z2,z3⟩:_/\_/\_:=by simpa only[Prod.mk.injEq]using z
 have tf:topFrom treeTable p w N ⟨boot_heap w.params,#[],boot_drawn,boot_toks,os⟩=O t.abs:=by
  unfold topFrom;rw[z1,z2,z3,r]
  show(match staticsOk _ _ t.abs.heap&&namesBound p t.abs.heap&&gensDone t.abs&&laidKept _ t.abs.heap with|true=>O t.abs|false=>yL)=_
  rw[l1]
 unfold openEnds;rw[e0]
 show(topFrom treeTable p w N _).map _=_
 rw[tf];exact Uh O (Prod.ext l2 l3)
end DL
open PySem in
lay_quick PySem.Challenge.pw_wishdeal_k39_papers_refused DL.topRunT PySem.W.openGood PySem.W.staticsOk PySem.W.namesBound PySem.W.laidKept PySem.W.xlAt DL.xSeen DL.xGood
namespace W
open PySem PySem.Spec DL
noncomputable abbrev p0:Ul:=PySem.Challenge.pw_wishdeal_k39_papers_refused
noncomputable def XH:List Nat:=[1,2,3,4,6,7,8,10,11,12,13,14,15,16,17,18,19,20,21,23,24,25,27,28,29,31,32,33,34,35,37,38,39,40,42,43,44,45,46,47,48,49,50,51,52,53,54,55,56,57,58,59,60,61,62,63,64,65,66]
noncomputable def ixL:List Nat:=[1,2,3,4,14,15,16,17,18,19,20,21,24,25,27,28,29,31,32,33,34,35,37,38,39,40,42,43,44,45,46,47,48,49,50,51,52,53,54,55,56,57,58,59,60,61,62,63,64,65,66]
abbrev q0:Ul:=PySem.W.view p0 XH
noncomputable def clsL:XL0:=[("DealError", O 6),("NoWishes", O 7),("NoAim", O 8)]
def DC:∀(w:World)(os:OsState),(PySem.W.Fast.tw10708255244068714335 PySem.W.Fast.tw14364793385576792824 PySem.W.Fast.tw5145009118067058506 w 11 (O (.ref 6)) 2502 (T0 w os) (PySem.W.topStub PySem.W.Fast.tw5145009118067058506)).map (λt=>(((PySem.W.Fast.tw13471830651028734593 (PySem.W.Fast.tw5923862056798008813 (Program.main PySem.W.Fast.tw5145009118067058506).body) (PySem.W.boot_heap w.params) t.abs.heap&&PySem.W.Fast.tw4683006035507612052 PySem.W.Fast.tw5145009118067058506 t.abs.heap&&PySem.W.gensDone t.abs&&PySem.W.Fast.tw16898566250750103049 (PySem.W.boot_heap w.params) t.abs.heap),PySem.W.Fast.tw4187177175401517315 (PySem.W.view PySem.W.Fast.tw5145009118067058506 XH) [] (PySem.W.Fast.tw5923862056798008813 (Program.main PySem.W.Fast.tw5145009118067058506).body) (λs=>PySem.W.Fast.tw4757257242682413121 (PySem.W.view PySem.W.Fast.tw5145009118067058506 XH) [] s&&PySem.W.recOk [] s) yM t.abs),PySem.W.Fast.tw11121216462471823999 clsL t.abs))=O ((yM,PySem.W.Fast.tw3486900944545009338 (PySem.W.view PySem.W.Fast.tw5145009118067058506 XH) []),PySem.W.Fast.tw18030470931243306169 PySem.W.Fast.tw5145009118067058506 clsL):=by intro w os;kernel_rfl
def DB:PySem.W.LeftO p0 q0 [] (λs=>PySem.W.xlAt q0 [] s&&PySem.W.recOk [] s) (xSeen clsL) (λ_=>xGood p0 clsL) 4904:=by
 refine kW (M:=2502) (by kernel_rfl) yK (λs=>by kernel_rfl) yK λw os=>?_
 have h:=DC w os;rw[←PySem.W.Fast.te10708255244068714335,←PySem.W.Fast.te14364793385576792824,←PySem.W.Fast.te4187177175401517315,←PySem.W.Fast.te5923862056798008813,←PySem.W.Fast.te13471830651028734593,←PySem.W.Fast.te4683006035507612052,←PySem.W.Fast.te16898566250750103049,←PySem.W.Fast.te4757257242682413121,←PySem.W.Fast.te3486900944545009338,←PySem.W.Fast.te11121216462471823999,←PySem.W.Fast.te18030470931243306169,←PySem.W.Fast.te5145009118067058506]at h;exact h
end W
namespace L2
open PySem PySem.Spec PyProof.Rows
abbrev Key:=Sum Int Str
abbrev yV:=List Key
noncomputable def Sn:Key->Uj->Bool
 |.inl k,v=>Value.isInt k v
 |.inr x,v=>Value.isStrOf x v
noncomputable def keyH(w:World):Key->Int
 |.inl k=>hashInt k
 |.inr x=>hashStr w x
def WX:∀{k}{v},Sn k v=yM->(∃i t,k=Sum.inl i/\v=Value.int i t)∨(∃x t,k=Sum.inr x/\v=Value.str x t)
 |.inl i,v,h=>by obtain⟨t,e⟩:=Value.isInt_shape   h;exact .inl ⟨i,t,rfl,e⟩
 |.inr x,v,h=>by obtain⟨t,e⟩:=Value.isStrOf_shape   h;exact .inr ⟨x,t,rfl,e⟩
def wH(i:Int)(t:Tok):Sn (.inl i) (.int i t)=yM:=by simp[Sn,Value.isInt]
def wG(x:Str)(t:Tok):Sn (.inr x) (.str x t)=yM:=by simp[Sn,Value.isStrOf]
def BB(a b):decide ((Sum.inl a:Key)=Sum.inl b)=(a==b):=by
 by_cases e:a=b
 .subst e;simp
 .simp_all
def BA(a b):decide ((Sum.inr a:Key)=Sum.inr b)=decide (a=b):=by simp_all
def Bz(a)(b):decide ((Sum.inl a:Key)=Sum.inr b)=yN:=QF (λq=>nomatch q)
def By(a)(b):decide ((Sum.inr a:Key)=Sum.inl b)=yN:=QF (λq=>nomatch q)
def Y4(prog:Ul)(w:World):PySem.KeyKind prog w Key where
 is:=Sn
 hash:=keyH w
 inj:=λv a b ha hb=>by
  rcases WX ha with ⟨i,t,rfl,rfl⟩|⟨x,t,rfl,rfl⟩
  .rcases WX hb with ⟨j,u,rfl,e⟩|⟨y,u,rfl,e⟩
   .injection e with e1 _;rw[e1]
   .exact nomatch e
  .rcases WX hb with ⟨j,u,rfl,e⟩|⟨y,u,rfl,e⟩
   .exact nomatch e
   .injection e with e1 _;rw[e1]
 byValue:=λk v h=>by rcases WX h with ⟨i,t,rfl,rfl⟩|⟨x,t,rfl,rfl⟩<;>rfl
 pyHash:=λhv h=>by
  rcases WX hv with ⟨i,t,rfl,rfl⟩|⟨x,t,rfl,rfl⟩
  .exact wpAny_pyHash_int h
  .exact wpAny_pyHash_str h
 eqBool:=λhu hv h=>by
  rcases WX hu with ⟨i,t,rfl,rfl⟩|⟨x,t,rfl,rfl⟩
  .rcases WX hv with ⟨j,u,rfl,rfl⟩|⟨y,u,rfl,rfl⟩
   .rw[BB]at h;exact wpAny_eqBool_int h
   .rw[Bz]at h;exact SeqAt.EqAt.int_str i t y u _ _ _ _ h
  .rcases WX hv with ⟨j,u,rfl,rfl⟩|⟨y,u,rfl,rfl⟩
   .rw[By]at h;exact SeqAt.EqAt.str_int x t j u _ _ _ _ h
   .rw[BA]at h;exact wpAny_eqBool_str h
 «strs»:=λk x t v h=>by
  rcases WX h with ⟨i,u,rfl,e⟩|⟨y,u,rfl,e⟩
  .exact nomatch e
  .injection e with e1 _
   subst e1;cases v<;>rfl
def wS(prog)(w)(i)(t):(Y4 prog w).is (.inl i) (.int i t)=yM:=wH i t
def yj(prog)(w)(x)(t):(Y4 prog w).is (.inr x) (.str x t)=yM:=wG x t
inductive V where
 |non|bl (b:Bool)|int (i:Int)|str (x:Str)|byt (b:Array UInt8)|flt (b:UInt64)|ref (a:Um)|ty (n:String)
 deriving DecidableEq
noncomputable def RelV:V->Uj->Prop
 |.non,u=>u=Value.none
 |.bl b,u=>u=Value.bool b
 |.int i,u=>∃t,u=Value.int i t
 |.str x,u=>∃t,u=Value.str x t
 |.byt b,u=>∃t,u=Value.bytes b t
 |.flt b,u=>∃t,u=Value.float b t
 |.ref a,u=>u=Value.ref a
 |.ty n,u=>u=Value.type n
abbrev Vals:List V->yR->Prop:=Paired RelV
def Vals.length{xs:List V}{us:yR}(r:Vals xs us):xs.length=us.length:=Paired.length r
theorem Vals.get:∀{xs}{us}{i:Nat}{x},Vals xs us->xs[i]?=O x->∃u,us[i]?=O u/\RelV x u
 |_,_,_,_,.nil,e=>by simp_all
 |_,_,0,_,.cons r _,e=>by simp at e;subst e;exact⟨_,rfl,r⟩
 |_,_,i+1,x,.cons _ t,e=>by obtain⟨u,h1,h2⟩:=Vals.get   t (by simpa using e);exact⟨u,by simpa using h1,h2⟩
theorem Vals.set   (r:RelV x u):∀{xs}{us}(i),Vals xs us->Vals (xs.set i x) (us.set i u)
 |_,_,_,.nil=>.nil
 |_,_,0,.cons _ t=>.cons r t
 |_,_,i+1,.cons q t=>.cons q (Vals.set r i t)
theorem Vals.append:∀{xs ys}{us ws},Vals xs us->Vals ys ws->Vals (xs++ys) (us++ws)
 |_,_,_,_,.nil,s=>s
 |_,_,_,_,.cons r t,s=>.cons r (Vals.append t s)
theorem Vals.take:∀{xs}{us}(n),Vals xs us->Vals (xs.take n) (us.take n)
 |_,_,0,_=>.nil
 |_,_,_+1,.nil=>.nil
 |_,_,n+1,.cons r t=>.cons r (Vals.take n t)
theorem Vals.drop:∀{xs}{us}(n),Vals xs us->Vals (xs.drop n) (us.drop n)
 |_,_,0,r=>r
 |_,_,_+1,.nil=>.nil
 |_,_,n+1,.cons _ t=>Vals.drop n t
def RelO:Option V->yT->Prop
 |some v,O u=>RelV v u
 |none,yL=>True
 |_,_=>False
def KV{κ:Type}:List (κ×V)->List (κ×Uj)->Prop:=Paired λ(p:κ×V) (q:κ×Uj)=>p.1=q.1/\RelV p.2 q.2
noncomputable def kV:Key->V
 |.inl i=>.int i
 |.inr x=>.str x
inductive HO where
  |lst (xs:List V)
  |tup (xs:List V)
  |dK (kvs:List (Key×V))|dT (kvs:List (yV×V))
  |set (S:Int->Bool) (n:Nat)
  |ins (C dx:Um) (fs:List (Str×V))
  |own (x:Um)
  |xd (fs:List (Str×V))
  |met (f x:Um)
  |rng (lo hi:Int)
  |frz (o:Obj) (u:HO)
  |tbl (ps:Array Uj)
  |ext (φ:Heap->Prop)
abbrev Hp:=Um->Option HO
noncomputable def upd(H:Hp)(a:Um)(o:HO):Hp:=λb=>if b=a then O o else H b
def Kz{H:Hp}{a:Um}{o:HO}:upd H a o a=O o:=by unfold upd;rw[Qp yK]
def Km{H:Hp}{a b:Um}{o:HO}(h:b≠a):upd H a o b=H b:=by unfold upd;rw[QH h]
def L9    : upd (upd H a o) a u=upd H a u:=by unfold upd;simp_all
def Mk{H:Hp}{a b}{o u}(h:H a=O o)(h':H b=O u)(d:o≠u):a≠b:=by intro e;subst e;rw[h]at h';exact d (QW h')
def ZO{H:Hp}{a b}{o}(h:H a=O o)(h':H b=yL):a≠b:=by
 lia
section
variable(P:Ul)(w:World)
def ZL(H:Hp)(h:Heap)(a:Um):HO->Prop
 |.lst xs=>xs.length<=Uq/\∃(its:yR)(n:Nat),Vals xs its/\h.get? a=O {cls:=.type "list", data:=.seq its.toArray n}
 |.tup xs=>xs.length<=Uq/\∃its:yR,Vals xs its/\IsTup h a its.toArray
 |.dK kvs=>kvs.length<=Uq/\(a==sysModules)=yN/\∃vs,KV kvs vs/\h.DictOf (Y4 P w) a vs
 |.dT kvs=>kvs.length<=Uq/\(a==sysModules)=yN/\∃xs:List (yV×Um×Uj),
   Paired (λ(p:yV×V) (q:yV×Um×Uj)=>p.1=q.1/\H q.2.1=O (.tup (p.1.map kV))/\RelV p.2 q.2.2) kvs xs /\
   ∃o es ep,h.get? a=O o/\o.ExactDict/\o.data=.dict es ep/\es.toList=xs.map (entryOfKey (tupleKind (Y4 P w)))/\(xs.map (·.1)).Nodup
 |.set S n=>h.SetOf (intKind P w) a S n
 |.ins C dx fs=>H dx=O (.own a)/\fs.length<=1000/\dx≠a/\h.get? a=O (PySem.W.instObj C dx) /\
   ∃mA,h.Ns1 dx mA/\(∀f,RelO (fs.lookup f) (mA f))/\PySem.Within mA (fs.map (·.1))
 |.own _=>∃o,h.get? a=O o
 |.xd fs=>∃mA,h.Ns1 a mA/\∀f,RelO (fs.lookup f) (mA f)
 |.rng lo hi=>∃t u v,h.get? a=O {cls:=.type "range", data:=.fields #[.int lo t,.int hi u,.int 1 v]}
 |.frz o u=>h.get? a=O o/\ZL H h a u
 |.tbl ps=>h.get? a=O {cls:=.none,data:=.fields ps}
 |.met f x=>h.get? a=O (PySem.W.methodObj (.ref f) (.ref x))
 |.ext φ=>φ h/\(∃o,h.get? a=O o)/\∀h1 h2:Heap,φ h1->(∀o,h1.get? a=O o->h2.get? a=O o)->φ h2
def HOk(H:Hp)(h:Heap):Prop:=∀a o,H a=O o->ZL P w H h a o
end
section
variable{P:Ul}{w:World}{H H':Hp}{h h':Heap}{a:Um}{o:HO}
def ZL.lt(x:ZL P w H h a o):a<h.objs.size:=by
 cases o with
 |lst xs=>obtain⟨_,_,_,_,e⟩:=x;exact Qg e
 |tup xs=>obtain⟨_,_,_,p⟩:=x;exact p.lt
 |dK kvs=>obtain⟨_,_,_,_,o,_,_,e,_⟩:=x;exact Qg e
 |dT kvs=>obtain⟨_,_,_,_,o,_,_,e,_⟩:=x;exact Qg e
 |set S n=>obtain⟨o,_,_,_,e,_⟩:=x;exact Qg e
 |ins C dx fs=>obtain⟨_,_,_,e,_⟩:=x;exact Qg e
 |own y=>obtain⟨_,e⟩:=x;exact Qg e
 |xd fs=>obtain⟨_,⟨_,_,_,e,_⟩,_⟩:=x;exact Qg e
 |rng lo hi=>obtain⟨_,_,_,e⟩:=x;exact Qg e
 |frz ob u=>obtain⟨e,_⟩:=x;exact Qg e
 |tbl ps=>exact Qg (x)
 |met f y=>exact Qg (x)
 |ext φ=>obtain⟨_,⟨_,e⟩,_⟩:=x;exact Qg e
theorem Paired.mapP   : ∀{l₁:List α}{l₂:List β},Paired F l₁ l₂->(∀a b,F a b->G a b)->Paired G l₁ l₂
 |_,_,.nil,_=>.nil
 |_,_,.cons r t,f=>.cons (f _ _ r) (Paired.mapP t f)
def ZL.stay(x:ZL P w H h a o)(k:∀b u,(b=a∨H b=O (.own a))->h.get? b=O u->h'.get? b=O u)
  (ho:∀b,H b=O (.own a)->H' b=O (.own a)) (ht:∀b xs,H b=O (.tup xs)->H' b=O (.tup xs)):ZL P w H' h' a o:=by
 induction o with
 |lst xs=>obtain⟨z,its,n,r,e⟩:=x;exact⟨z,its,n,r,k _ _ (.inl yK) e⟩
 |tup xs=>obtain⟨z,its,r,ob,e,c⟩:=x;exact⟨z,its,r,ob,k _ _ (.inl yK) e,c⟩
 |dK kvs=>obtain⟨z,y,vs,r,ob,es,ep,e,c⟩:=x;exact⟨z,y,vs,r,ob,es,ep,k _ _ (.inl yK) e,c⟩
 |dT kvs=>obtain⟨z,y,xs,r,ob,es,ep,e,c⟩:=x;exact⟨z,y,xs,Paired.mapP r λp q z=>⟨z.1,ht _ _ z.2.1,z.2.2⟩,ob,es,ep,k _ _ (.inl yK) e,c⟩
 |set S n=>obtain⟨ob,es,ep,t,e,c⟩:=x;exact⟨ob,es,ep,t,k _ _ (.inl yK) e,c⟩
 |ins C dx fs=>obtain⟨d,z,ne,e,mA,⟨od,es,ep,e2,c⟩,r⟩:=x;exact⟨ho _ d,z,ne,k _ _ (.inl yK) e,mA,⟨od,es,ep,k _ _ (.inr d) e2,c⟩,r⟩
 |own y=>obtain⟨ob,e⟩:=x;exact⟨ob,k _ _ (.inl yK) e⟩
 |xd fs=>obtain⟨mA,⟨od,es,ep,e,c⟩,r⟩:=x;exact⟨mA,⟨od,es,ep,k _ _ (.inl yK) e,c⟩,r⟩
 |rng lo hi=>obtain⟨t,u,v,e⟩:=x;exact⟨t,u,v,k _ _ (.inl yK) e⟩
 |frz ob u ih=>obtain⟨e,q⟩:=x;exact⟨k _ _ (.inl yK) e,ih q⟩
 |tbl ps=>have e   :=x;exact k a _ (.inl yK) e
 |met f y=>have e   :=x;exact k a _ (.inl yK) e
 |ext φ=>obtain⟨p,⟨o,e⟩,st⟩:=x;exact⟨st _ _ p λo q=>k _ _ (.inl yK) q,⟨o,k _ _ (.inl yK) e⟩,st⟩
def HOk.lt(x:HOk P w H h)(e:H a=O o):a<h.objs.size:=(x a o e).lt
def HOk.fresh(x:HOk P w H h)(e:h.objs.size<=a):H a=yL:=by
 cases q:H a with
 |none=>rfl
 |some u=>exact absurd (QA (x.lt q) e) (Jz _)
def HOk.kept(x:HOk P w H h)(k:∀b u,h.get? b=O u->h'.get? b=O u):HOk P w H h':=λa o e=>
 (x a o e).stay (λb u _ q=>k b u q) (λ_ q=>q) λ_ _ q=>q
def HOk.laid(x:HOk P w H h)(k:∀b u,h.get? b=O u->h'.get? b=O u)(hp:h.objs.size<=a)(new:ZL P w (upd H a o) h' a o):HOk P w (upd H a o) h':=λb u e=>by
 have hn:=x.fresh hp;by_cases hb:b=a
 .subst hb;rw[Kz]at e;simp_all
 .rw[Km hb]at e
  exact(x b u e).stay (λc v _ q=>k c v q) (λc q=>by rw[Km (ZO q hn)];exact q) λc xs q=>by rw[Km (ZO q hn)];exact q
end
def Rd(H:Hp)(a:Um)(u:HO):Prop:=H a=O u ∨ ∃o,H a=O (.frz o u)
def Rd.ok   {H}{h}{a}{u}(r:Rd H a u)(x:HOk P w H h):ZL P w H h a u:=by
 rcases r with r|⟨o,r⟩
 .exact x a u r
 .obtain⟨_,q⟩:=x a _ r
  exact q
noncomputable def Mut:Option HO->Prop
 |some (.lst _)=>True
 |some (.dK _)=>True
 |some (.dT _)=>True
 |some (.set _ _)=>True
 |some (.ins _ _ _)=>True
 |some (.ext _)=>True
 |_=>False
section
variable{P:Ul}{w:World}{H:Hp}{h h':Heap}{x e:Um}{o':HO}
def HOk.write(ok:HOk P w H h)(mu:Mut (H x))(he:e=x∨H e=O (.own x))(k:∀b u,b≠e->h.get? b=O u->h'.get? b=O u)(bp:∃u,h'.get? e=O u)
  (new:ZL P w (upd H x o') h' x o'):HOk P w (upd H x o') h':=λb u q=>by
 have nown:∀c y,H c=O (.own y)->c≠x:=λc y r z=>by subst z;rw[r]at mu;exact mu
 have ntup:∀c xs,H c=O (.tup xs)->c≠x:=λc xs r z=>by subst z;rw[r]at mu;exact mu
 by_cases hb:b=x
 .subst hb;rw[Kz]at q;simp_all
 .rw[Km hb]at q
  by_cases zT:b=e
  .have q':H b=O (.own x):=by
    rcases he with z|z
    .exact absurd (zT.trans z) hb
    .rw[zT];exact z
   rw[q]at q';cases q';obtain⟨v,hv⟩:=bp;exact⟨v,by simp_all⟩
  .refine(ok b u q).stay (λc v hc r=>k c v ?_ r) (λc r=>by rw[Km (nown c b r)];exact r) λc xs r=>by rw[Km (ntup c xs r)];exact r
   rcases hc with rfl|hc
   .exact zT
   grind
end
structure Un(fs ex:yU)(H H':Hp)(h h':Heap):Prop where
 keep:∀b o,h.get? b=O o->H b=yL->b∉fs->b∉ex->h'.get? b=O o
 slot:∀b o,h.get? b=O o->H b=yL->b∈fs->b∉ex->∃sl,h'.get? b=O {o with slots:=sl}
 free:∀b o,h.get? b=O o->H b=yL->b∉ex->H' b=yL
 there:∀b o,h.get? b=O o->b∉ex->∃o',h'.get? b=O o'
 tups:∀b xs,H b=O (.tup xs)->H' b=O (.tup xs)
 frzs:∀b o u,H b=O (.frz o u)->H' b=O (.frz o u)
 tbls:∀b ps,H b=O (.tbl ps)->∃more,H' b=O (.tbl (ps++more))
section
variable{fs fs' ex bz:yU}{H H1 H2:Hp}{h h1 h2 h':Heap}{a x e:Um}{o:HO}
def Un.any(u:Un fs ex H H1 h h1){b}{ob}(q:h.get? b=O ob)(n:H b=yL)(hx:b∉ex):∃sl,h1.get? b=O {ob with slots:=sl}:=by
 by_cases hb:b∈fs
 .exact u.slot b ob q n hb hx
 .exact⟨ob.slots,u.keep b ob q n hb hx⟩
def Un.kept(k:∀b u,h.get? b=O u->h'.get? b=O u):Un fs ex H H h h':=
 ⟨λb ob q _ _ _=>k b ob q,λb ob q _ _ _=>⟨ob.slots,k b ob q⟩,λ_ _ _ n _=>n,λb ob q _=>⟨ob,k b ob q⟩,λ_ _ q=>q,λ_ _ _ q=>q,λ_ ps q=>⟨#[],by simp_all⟩⟩
def Un.refl:Un fs ex H H h h:=Un.kept λ_ _ q=>q
def Un.laid(k:∀b u,h.get? b=O u->h'.get? b=O u)(hp:h.objs.size<=a)(hn:H a=yL):Un fs ex H (upd H a o) h h' where
 keep:=λb u q _ _ _=>k b u q
 slot:=λb u q _ _ _=>⟨u.slots,k b u q⟩
 free:=λb u q n _=>by rw[Km (QJ (QA (Qg q) hp))];exact n
 there:=λb u q _=>⟨u,k b u q⟩
 tups:=λb xs q=>by rw[Km (ZO q hn)];exact q
 frzs:=λb u xs q=>by rw[Km (ZO q hn)];exact q
 tbls:=λb ps q=>⟨#[],by rw[Km (ZO q hn),q];simp⟩
def Un.write(mu:Mut (H x))(he:e=x∨H e=O (.own x))(k:∀b u,b≠e->h.get? b=O u->h'.get? b=O u)(bp:∃u,h'.get? e=O u):Un fs ex H (upd H x o) h h':=by
 have hx:∀b,H b=yL->b≠x:=λb n z=>by subst z;rw[n]at mu;exact mu
 have hb:∀b,H b=yL->b≠e:=λb n z=>by simp_all
 have hm:∀b u,H b=O u->¬Mut (O u)->b≠x:=λb u q nm z=>by simp_all
 refine⟨λb u q n _ _=>k b u (hb b n) q,λb u q n _ _=>⟨u.slots,k b u (hb b n) q⟩,λb u q n _=>by rw[Km (hx b n)];exact n,λb u q _=>?_,
  λb xs q=>by rw[Km (hm b _ q λz=>z)];exact q,λb u xs q=>by rw[Km (hm b _ q λz=>z)];exact q,λb ps q=>⟨#[],by rw[Km (hm b _ q λz=>z),q];simp⟩⟩
 by_cases zT:b=e
 .simp_all
 .exact⟨u,k b u zT q⟩
end
noncomputable def trk(h:Heap)(H:Hp):yU:=(Uu h.objs.size).filter λa=>(H a).isSome
def Yy(h:Heap)(H:Hp):Heap:=PySem.W.hideAll h (trk h H)
def wF(h:Heap)(H:Hp):(Yy h H).objs.size=h.objs.size:=PySem.W.hideAll_size _ _
def kU  {H}{b}{o}(e:h.get? b=O o)(n:H b=yL):(Yy h H).get? b=O o:=
 PySem.W.hideAll_get _ e λhm=>by have q   :=(List.mem_filter.mp hm).2;simp_all
def AJ     (e:(Yy h H).get? b=O o):h.get? b=O o/\H b=yL:=by
 have e'   :=PySem.W.of_hideAll _ e;refine⟨e',?_⟩;cases q:H b with
 |none=>rfl
 |some x=>have hm:b∈trk h H:=List.mem_filter.mpr ⟨List.mem_range.mpr (Heap.lt_size e'),by simp_all⟩;have z:(Yy h H).get? b=yL:=PySem.W.hideAll_none _ hm;simp_all
structure Mod(K:Frag)(mg:Str->yT)(base:Heap):Prop where
 kin:K.In base
 glob:base.Ns mainGlobals mg
 blt:∃mb,base.Ns builtinsNs mb/\∀x:Str,x ≠ "__name__" -> mb x=bootBuiltins x
 nolimit:base.NoLimit
structure Cx where
 prog:Ul
 w:World
 K:Frag
 mg:Str->yT
 base:Heap
 A:Around
 N:List Str
 s₀:Uk
 H₀:Hp
 env:Env
 outer:List Env
 stack:List Env
 ex:yU
 fn:Str->Bool
 calm:Bool
 pn:List (Um×Obj)
 xe:Uj->Uk->Prop
noncomputable def frs(l:List Env):yU:=l.filterMap (·.frame)
abbrev Cx.fs(X:Cx):yU:=frs X.outer
def Vis(sc:Scope)(x:Str):Prop:=sc.names.lookup x=O .local∨sc.names.lookup x=O .cell∨sc.names.lookup x=O .free
def Loc(sc:Scope)(x:Str):Prop:=sc.names.lookup x=O .local∨sc.names.lookup x=O .cell
def Look(env:Env)(h:Heap)(m:Str->yT)(x:Str)(u:Uj):Prop:=
 (env.kindOf x=O .local/\m x=O u)∨((env.kindOf x=O .cell∨env.kindOf x=O .free)/\∃c,env.cells.lookup x=O c/\h.IsCell c (O u))
structure Cx.Ok(X:Cx):Prop where
 mod:Mod X.K X.mg X.base
 kind:X.env.scope.kind=.function
 glob:X.env.globals=mainGlobals
 blt:X.env.builtins=builtinsNs
 above:X.s₀.heap.objs.size<=X.env.locals
 inj:∀x y c,X.env.cells.lookup x=O c->X.env.cells.lookup y=O c->x=y
 has:∀x,(X.env.kindOf x=O .cell∨X.env.kindOf x=O .free)->∃c,X.env.cells.lookup x=O c
 cab:∀x c,X.fn x=yM->X.env.cells.lookup x=O c->X.s₀.heap.objs.size<=c
 hd:X.calm=yM->X.A.handled=yL
 frames:X.A.frames=O X.stack
 stk:X.stack=X.outer∨(X.stack=X.env::X.outer/\X.env.frame=O X.env.locals)
 exf:∀b∈X.ex,b≠X.env.locals/\∀x c,X.env.cells.lookup x=O c->c≠b
 bs:∀b o,X.base.get? b=O o->X.s₀.heap.get? b=O o/\X.H₀ b=yL
 bsz:X.base.objs.size<=X.s₀.heap.objs.size
 noex:∀b o,X.base.get? b=O o->b∉X.ex
 exfs:∀b∈X.ex,b∉X.fs
 funs:X.s₀.heap.FunFrames X.base X.outer
 frf:∀b∈X.fs,X.H₀ b=yL
structure Inv(X:Cx)(pins:List (Um×Obj))(σ:List (Option V))(H:Hp)(s:Uk):Prop where
 ok:X.Ok
 os:s.os=X.s₀.os
 bare:AllBare s.gens
 base:Un X.fs X.ex X.H₀ H X.s₀.heap s.heap
 loc:∃m,s.heap.Ns X.env.locals m/\∀(i:Nat)(x:Str)(v:V),X.N[i]?=O x->σ[i]?=O (O v)->Vis X.env.scope x->∃u,RelV v u/\Look X.env s.heap m x u
 cell:∀x c,X.env.cells.lookup x=O c->∃v,s.heap.IsCell c v
 free:H X.env.locals=yL
 freeC:∀x c,X.env.cells.lookup x=O c->H c=yL
 pin:∀p∈X.pn++pins,s.heap.get? p.1=O p.2/\H p.1=yL/\p.1≠X.env.locals/\p.1∉X.fs/\∀v,p.2.data≠.cell v
 hok:HOk X.prog X.w H s.heap
 len:σ.length=X.N.length
section
variable{X:Cx}{pins:List (Um×Obj)}{σ:List (Option V)}{H H':Hp}{s:Uk}{h':Heap}
def Cx.Ok.nofr(ok:X.Ok){b}{o}(e:X.base.get? b=O o):b∉X.fs:=λhb=>by
 have:=(ok.funs.mem hb).1
 lia
def Inv.bs(I:Inv X pins σ H s):∀b o,X.base.get? b=O o->s.heap.get? b=O o/\H b=yL:=λb o e=>
 ⟨I.base.keep b o (I.ok.bs b o e).1 (I.ok.bs b o e).2 (I.ok.nofr e) (I.ok.noex b o e),I.base.free b o (I.ok.bs b o e).1 (I.ok.bs b o e).2 (I.ok.noex b o e)⟩
def Inv.bk(I:Inv X pins σ H s):∀b o,X.base.get? b=O o->s.heap.get? b=O o:=λb o e=>(I.bs b o e).1
def Inv.mod(I:Inv X pins σ H s):Mod X.K X.mg X.base:=I.ok.mod
def Inv.kIn(I:Inv X pins σ H s):X.K.In s.heap:=I.ok.mod.kin.keeps I.bk
def Inv.fr(I:Inv X pins σ H s):∃m,Fr X.base X.env.locals s.heap m:=
 let ⟨m,hn,_⟩:=I.loc
 ⟨m,hn,I.bk,QE I.ok.bsz I.ok.above⟩
def Inv.lt(I:Inv X pins σ H s):X.env.locals<s.heap.objs.size:=let ⟨_,hn,_⟩:=I.loc;hn.lt
def Inv.sz(I:Inv X pins σ H s):X.s₀.heap.objs.size<=s.heap.objs.size:=QE I.ok.above (Ue I.lt)
def Inv.nofs(I:Inv X pins σ H s){a:Um}(h:s.heap.objs.size<=a):a∉X.fs:=λhb=>by obtain⟨_,o,ho,_⟩:=I.ok.funs.mem hb;exact absurd (QA (Qg ho) (QE I.sz h)) (Jz _)
def Inv.cne(I:Inv X pins σ H s):∀x c,X.env.cells.lookup x=O c->c≠X.env.locals:=λx c e z=>by
 obtain⟨v,o,ho,hd⟩:=I.cell x c e;obtain⟨m,⟨o',es,ep,ho',hd',_⟩,_⟩:=I.loc
 lia
def Inv.funs(I:Inv X pins σ H s):s.heap.FunFrames X.base X.outer:=by
 have all:∀(l:List Env),(∀b∈frs l,b∈X.fs)->X.s₀.heap.FunFrames X.base l->s.heap.FunFrames X.base l:=by
  intro l;induction l with
  |nil=>intro _ _;trivial
  |cons env r ih=>
   intro hs hl;obtain⟨hk,⟨L,o,hf,hn,ho,hd⟩,hr⟩:=hl;have hL   :=hs L (by unfold frs;rw[List.filterMap_cons,hf];exact Qn);obtain⟨sl,e⟩:=I.base.slot L o ho (I.ok.frf L hL) hL λz=>I.ok.exfs L z hL
   exact⟨hk,⟨L,_,hf,hn,e,hd⟩,ih (λb hb=>hs b (by unfold frs;rw[List.filterMap_cons,hf];exact Qm _ hb)) hr⟩
 exact all X.outer (λ_ hb=>hb) I.ok.funs
def Inv.stack(I:Inv X pins σ H s):s.heap.FunFrames X.base X.stack:=by
 rcases I.ok.stk with e|⟨e,hf⟩
 .rw[e];exact I.funs
 .rw[e]
  obtain⟨m,hn,_⟩:=I.loc;refine .cons (by rw[I.ok.kind];decide) hf hn ?_ I.funs;exact Heap.get?_none_of_le (QE I.ok.bsz I.ok.above)
def Inv.stkSub(I:Inv X pins σ H s):∀b∈frs X.stack,b∈X.env.locals::X.fs:=λb hb=>by
 rcases I.ok.stk with e|⟨e,hf⟩
 .rw[e]at hb;exact Qm _ hb
 .rw[e]at hb
  unfold frs at hb;rw[List.filterMap_cons,hf]at hb;exact hb
def Inv.stkFree(I:Inv X pins σ H s):∀b∈frs X.stack,H b=yL:=λb hb=>by
 rcases Qs.mp (I.stkSub b hb)with e|hb
 .rw[e];exact I.free
 .obtain⟨_,o,ho,_⟩:=I.ok.funs.mem hb
  exact I.base.free b o ho (I.ok.frf b hb) λz=>I.ok.exfs b z hb
def Inv.step  {t':Nat}{d':Drawn}{ch:yU}(I:Inv X pins σ H s)
  (hch:∀b∈ch,(b∈X.ex∨X.s₀.heap.objs.size<=b)/\b≠X.env.locals/\(∀x c,X.env.cells.lookup x=O c->c≠b)/\∀p∈X.pn++pins,p.1≠b)
  (keep:∀b o,b≠X.env.locals->b∉X.fs->b∉ch->s.heap.get? b=O o->H b=yL->h'.get? b=O o)
  (slot:∀b o,b≠X.env.locals->b∈X.fs->b∉ch->s.heap.get? b=O o->H b=yL->∃sl,h'.get? b=O {o with slots:=sl}) (free:∀b o,b∉ch->s.heap.get? b=O o->H b=yL->H' b=yL)
  (there:∀b o,b∉ch->s.heap.get? b=O o->∃o',h'.get? b=O o')
  (tups:∀b xs,H b=O (.tup xs)->H' b=O (.tup xs)) (frzs:∀b o u,H b=O (.frz o u)->H' b=O (.frz o u)) (tbls:∀b ps,H b=O (.tbl ps)->∃more,H' b=O (.tbl (ps++more)))
  (ns:∀m,s.heap.Ns X.env.locals m->h'.Ns X.env.locals m) (hok:HOk X.prog X.w H' h') (hg:AllBare g') :
  Inv X pins σ H' {s with heap:=h',gens:=g',drawn:=d',toks:=t'}:=by
 have neL:∀b o,X.s₀.heap.get? b=O o->b≠X.env.locals:=λb o e=>QJ (QA (Qg e) I.ok.above)
 have neC:∀b o,X.s₀.heap.get? b=O o->b∉X.ex->b∉ch:=λb o e hx hb=>by
  rcases(hch b hb).1 with z|z
  .exact hx z
  .exact absurd (QA (Qg e) z) (Jz _)
 have cellK:∀x c,X.env.cells.lookup x=O c->∀v,s.heap.IsCell c v->h'.IsCell c v:=λx c e v ⟨o,ho,hd⟩=>by
  have nch:c∉ch:=λz=>(hch c z).2.2.1 x c e yK
  by_cases hc:c∈X.fs
  .obtain⟨sl,q⟩:=slot c o (I.cne x c e) hc nch ho (I.freeC x c e)
   exact⟨_,q,hd⟩
  .exact⟨o,keep c o (I.cne x c e) hc nch ho (I.freeC x c e),hd⟩
 refine⟨I.ok,I.os,hg,⟨λb o e n hb hx=>?_,λb o e n hb hx=>?_,λb o e n hx=>?_,λb o e hx=>?_,λb xs e=>tups b xs (I.base.tups b xs e),λb o xs e=>frzs b o xs (I.base.frzs b o xs e),λb ps e=>?_⟩,?_,λx c e=>?_,?_,λx c e=>?_,λp hp=>?_,hok,I.len⟩
 .exact keep b o (neL b o e) hb (neC b o e hx) (I.base.keep b o e n hb hx) (I.base.free b o e n hx)
 .obtain⟨sl,e1⟩:=I.base.slot b o e n hb hx
  obtain⟨zR,e2⟩:=slot b _ (neL b o e) hb (neC b o e hx) e1 (I.base.free b o e n hx);exact⟨zR,e2⟩
 .obtain⟨o',e1⟩:=I.base.there b o e hx
  exact free b o' (neC b o e hx) e1 (I.base.free b o e n hx)
 .obtain⟨o',e1⟩:=I.base.there b o e hx
  exact there b o' (neC b o e hx) e1
 .obtain⟨m1,e1⟩:=I.base.tbls b ps e
  obtain⟨m2,e2⟩:=tbls b _ e1;exact⟨m1++m2,by rw[e2,Array.append_assoc]⟩
 .obtain⟨m,hn,hl⟩:=I.loc
  refine⟨m,ns m hn,λi x v e1 e2 e3=>?_⟩;obtain⟨u,r,l⟩:=hl i x v e1 e2 e3;refine⟨u,r,?_⟩;rcases l with l|⟨k,c,e,z⟩
  .exact .inl l
  .exact .inr ⟨k,c,e,cellK x c e _ z⟩
 .obtain⟨v,z⟩:=I.cell x c e
  exact⟨v,cellK x c e v z⟩
 .obtain⟨m,⟨o,_,_,ho,_⟩,_⟩:=I.loc
  exact free _ o (λz=>(hch _ z).2.1 yK) ho I.free
 .obtain⟨v,o,ho,hd⟩:=I.cell x c e
  exact free c o (λz=>(hch c z).2.2.1 x c e yK) ho (I.freeC x c e)
 .obtain⟨e,n,ne,nf,d⟩:=I.pin p hp
  have nch:p.1∉ch:=λz=>(hch p.1 z).2.2.2 p hp yK
  exact⟨keep p.1 p.2 ne nf nch e n,free p.1 p.2 nch e n,ne,nf,d⟩
def Inv.un  (I:Inv X pins σ H s)(u:Un X.fs [] H H' s.heap h')(hok:HOk X.prog X.w H' h'):Inv X pins σ H' {s with heap:=h',toks:=t'}:=by obtain⟨m,⟨o,es,ep,ho,r⟩,_⟩:=id I.loc;obtain⟨sl,hL⟩:=u.any ho I.free (by simp);exact I.step   (ch:=[]) (λ_ z=>nomatch z) (λb o _ hb _ e n=>u.keep b o e n hb (by simp)) (λb o _ hb _ e n=>u.slot b o e n hb (by simp)) (λb o _ e n=>u.free b o e n (by simp)) (λb o _ e=>u.there b o e (by simp)) u.tups u.frzs u.tbls (λm' hm=>by obtain⟨o',es',ep',ho',r'⟩:=hm;rw[ho]at ho';cases ho';exact⟨_,es',ep',hL,r'⟩) hok I.bare
def Inv.call   {d'}{ch}(I:Inv X pins σ H s)(u:Un (frs X.stack) ch H H' s.heap h')(hok:HOk X.prog X.w H' h')(hg:AllBare g')
  (hch:∀b∈ch,(b∈X.ex∨X.s₀.heap.objs.size<=b)/\b≠X.env.locals/\(∀x c,X.env.cells.lookup x=O c->c≠b)/\∀p∈X.pn++pins,p.1≠b) :
  Inv X pins σ H' {s with heap:=h',gens:=g',drawn:=d',toks:=t'}:=by
 obtain⟨m,⟨o,es,ep,ho,r⟩,_⟩:=id I.loc;obtain⟨sl,hL⟩:=u.any ho I.free λz=>(hch _ z).2.1 yK
 exact I.step  hch (λb o hL hb hc e n=>u.keep b o e n (λz=>(Qs.mp (I.stkSub b z)).elim hL hb) hc) (λb o _ _ hc e n=>u.any e n hc) (λb o hc e n=>u.free b o e n hc) (λb o hc e=>u.there b o e hc) u.tups u.frzs u.tbls (λm' hm=>by obtain⟨o',es',ep',ho',r'⟩:=hm;rw[ho]at ho';cases ho';exact⟨_,es',ep',hL,r'⟩) hok hg
def Inv.turned  {it}(I:Inv X pins σ H s)(k:∀b o,b≠it->s.heap.get? b=O o->h'.get? b=O o)(hn:H it=yL)(hL:it≠X.env.locals)
  (h1:it∈X.ex∨X.s₀.heap.objs.size<=it) (h2:∀x c,X.env.cells.lookup x=O c->c≠it) (h3:∀p∈X.pn++pins,p.1≠it):Inv X pins σ H {s with heap:=h',toks:=t'}:=by
 have nit:∀b u,H b=O u->b≠it:=λb u e z=>by rw[z,hn]at e;cases e
 refine I.step   (ch:=[it]) (λb hb=>?_) (λb o _ _ hc e _=>k b o (λz=>hc (by simp[z])) e) (λb o _ _ hc e _=>⟨o.slots,k b o (λz=>hc (by simp[z])) e⟩) (λ_ _ _ _ n=>n)
  (λb o hc e=>⟨o,k b o (λz=>hc (by simp[z])) e⟩) (λ_ _ e=>e) (λ_ _ _ e=>e) (λb ps e=>⟨#[],by rw[e];simp⟩) (λm hm=>?_) (λb u e=>?_) I.bare
 .have e   :=by simpa using hb
  subst e;exact⟨h1,hL,h2,h3⟩
 .obtain⟨o,es,ep,ho,r⟩:=hm
  exact⟨o,es,ep,k _ o (Ne.symm hL) ho,r⟩
 .refine(I.hok b u e).stay (λc v hc q=>k c v ?_ q) (λ_ q=>q) λ_ _ q=>q
  rcases hc with z|z
  .rw[z];exact nit b u e
  .exact nit c _ z
def Inv.tok(I:Inv X pins σ H s)(t):Inv X pins σ H {s with toks:=t}:=I.un   Un.refl I.hok
def Inv.kept  (I:Inv X pins σ H s)(k:∀b u,s.heap.get? b=O u->h'.get? b=O u):Inv X pins σ H {s with heap:=h',toks:=t'}:=I.un (Un.kept k) (I.hok.kept k)
def Inv.laid{a:Um}{o}{t'}(I:Inv X pins σ H s)(k:∀b u,s.heap.get? b=O u->h'.get? b=O u)(hp:s.heap.objs.size<=a)(new:ZL X.prog X.w (upd H a o) h' a o) :
  Inv X pins σ (upd H a o) {s with heap:=h',toks:=t'}:=I.un (Un.laid k hp (I.hok.fresh hp)) (I.hok.laid k hp new)
def Inv.write    (I:Inv X pins σ H s)(mu:Mut (H x))(he:e=x∨H e=O (.own x))(k:∀b u,b≠e->s.heap.get? b=O u->h'.get? b=O u)(bp:∃u,h'.get? e=O u)
  (new:ZL X.prog X.w (upd H x o) h' x o):Inv X pins σ (upd H x o) {s with heap:=h',toks:=t'}:=I.un (Un.write mu he k bp) (I.hok.write mu he k bp new)
def Inv.pins_of  (I:Inv X pins σ H s)(h:∀p∈pins',s.heap.get? p.1=O p.2/\H p.1=yL/\p.1≠X.env.locals/\p.1∉X.fs/\∀v,p.2.data≠.cell v):Inv X pins' σ H s:=
 ⟨I.ok,I.os,I.bare,I.base,I.loc,I.cell,I.free,I.freeC,λp hp=>(QO.mp hp).elim (λz=>I.pin p (JK _ z)) (h p),I.hok,I.len⟩
def He{N:List Str}(hN:N.Nodup){i j:Nat}{x}(a:N[i]?=O x)(b:N[j]?=O x):i=j:=by obtain⟨h1,e1⟩:=Ql.mp a;obtain⟨h2,e2⟩:=Ql.mp b;exact(List.getElem_inj hN).mp (e1.trans e2.symm)
def HX{M:Model}{A:Around}{E:Uj->Uk->Prop}{i:Nat}{x:Str}{v:V}{u:Uj}{Q:Unit->Uk->Prop}(I:Inv X pins σ H s)(hN:X.N.Nodup)(hi:X.N[i]?=O x)(hx:Loc X.env.scope x)(r:RelV v u)
  (h:∀s',Inv X pins (σ.set i (O v)) H s'->(∃a,Heap.SameBut a s.heap s'.heap/\(a=X.env.locals∨X.env.cells.lookup x=O a))->Q () s') (hf:X.fn x=yM∨X.env.scope.names.lookup x=O .local:=by first|exact .inl rfl|exact .inr rfl|assumption):Ur M A (storeName X.env x u) Q E s:=by
 obtain⟨m,hn,hl⟩:=id I.loc;have hcls:(X.env.scope.kind==.class || (X.env.scope.kind==.module&&X.env.locals != X.env.globals))=yN:=by rw[I.ok.kind];rfl
 have hiσ:i<σ.length:=by rw[I.len];exact(Ql.mp hi).1
 have cne:=I.cne
 have tracked:∀{a:Um}{h':Heap},(∃o,s.heap.get? a=O o/\H a=yL)->Heap.SameBut a s.heap h'->HOk X.prog X.w H h':=λ{a h'} ha hs b ob e=>by
  obtain⟨_,_,hfree⟩:=ha;refine(I.hok b ob e).stay (λc w' hc q=>(hs.2 c ?_).trans q) (λ_ q=>q) λ_ _ q=>q
  rintro rfl;rcases hc with rfl|hc
  .rw[hfree]at e;cases e
  .rw[hfree]at hc;cases hc
 rcases hx with hk|hk
 .refine wpAny_storeName_local hk hn (λh' hn' hs=>?_) hcls
  obtain⟨oL,_,_,hoL,_⟩:=id hn;refine h _ ⟨I.ok,I.os,I.bare,⟨λb o e n hb hx=>?_,λb o e n hb hx=>?_,I.base.free,λb o e hx=>?_,I.base.tups,I.base.frzs,I.base.tbls⟩,⟨_,hn',λj y v' e1 e2 e3=>?_⟩,λy c e=>?_,I.free,I.freeC,λp hp=>?_,tracked ⟨oL,hoL,I.free⟩ hs,by simpa using I.len⟩ ⟨_,hs,.inl yK⟩
  .exact(hs.2 b (QJ (QA (Qg e) I.ok.above))).trans (I.base.keep b o e n hb hx)
  .obtain⟨sl,e1⟩:=I.base.slot b o e n hb hx
   exact⟨sl,(hs.2 b (QJ (QA (Qg e) I.ok.above))).trans e1⟩
  .obtain⟨o',e1⟩:=I.base.there b o e hx
   exact⟨o',(hs.2 b (QJ (QA (Qg e) I.ok.above))).trans e1⟩
  .by_cases hj:j=i
   .subst hj
    rw[hi]at e1;cases e1;rw[QG hiσ]at e2;cases e2;exact⟨u,r,.inl ⟨hk,by simp⟩⟩
   .rw[Qk (Ne.symm hj)]at e2
    obtain⟨u',r',q⟩:=hl j y v' e1 e2 e3;refine⟨u',r',?_⟩;rcases q with ⟨k,e⟩|⟨k,c,e,z⟩
    .refine .inl ⟨k,?_⟩
     have:y≠x:=λe=>hj (He hN e1 (e ▸ hi))
     simp[this,e]
    .exact .inr ⟨k,c,e,z.sameBut hs (cne y c e)⟩
  .obtain⟨w',z⟩:=I.cell y c e
   exact⟨w',z.sameBut hs (cne y c e)⟩
  .obtain⟨e,n,ne,nf,d⟩:=I.pin p hp
   exact⟨(hs.2 p.1 ne).trans e,n,ne,nf,d⟩
 .have hfn:X.fn x=yM:=by
   rcases hf with z|z
   .exact z
   .rw[z]at hk;cases hk
  obtain⟨c,hc⟩:=I.ok.has x (.inl hk);obtain⟨w',z⟩:=I.cell x c hc;refine wpAny_storeName_cell I.ok.kind hk hc z (λh' hc' hs=>?_);obtain⟨oc,hoc,hocd⟩:=id z;refine h {s with heap:=h'} ⟨I.ok,I.os,I.bare,⟨λb o e n hb hx=>?_,λb o e n hb hx=>?_,I.base.free,λb o e hx=>?_,I.base.tups,I.base.frzs,I.base.tbls⟩,⟨m,hn.sameBut hs (Ne.symm (cne x c hc)),λj y v' e1 e2 e3=>?_⟩,λy c' e=>?_,I.free,I.freeC,λp hp=>?_,tracked ⟨oc,hoc,I.freeC x c hc⟩ hs,by simpa using I.len⟩ ⟨c,hs,.inr hc⟩
  .exact(hs.2 b (QJ (QA (Qg e) (I.ok.cab x c hfn hc)))).trans (I.base.keep b o e n hb hx)
  .obtain⟨sl,e1⟩:=I.base.slot b o e n hb hx
   exact⟨sl,(hs.2 b (QJ (QA (Qg e) (I.ok.cab x c hfn hc)))).trans e1⟩
  .obtain⟨o',e1⟩:=I.base.there b o e hx
   exact⟨o',(hs.2 b (QJ (QA (Qg e) (I.ok.cab x c hfn hc)))).trans e1⟩
  .by_cases hj:j=i
   .subst hj
    rw[hi]at e1;cases e1;rw[QG hiσ]at e2;cases e2;exact⟨u,r,.inr ⟨.inl hk,c,hc,hc'⟩⟩
   .rw[Qk (Ne.symm hj)]at e2
    obtain⟨u',r',q⟩:=hl j y v' e1 e2 e3;refine⟨u',r',?_⟩;rcases q with q|⟨k,c',e,z'⟩
    .exact .inl q
    .refine .inr ⟨k,c',e,z'.sameBut hs ?_⟩
     rintro rfl;exact hj (He hN e1 (I.ok.inj _ _ _ e hc ▸ hi))
  .by_cases hcc:c'=c
   .subst hcc;exact⟨_,hc'⟩
   .obtain⟨w2,z2⟩:=I.cell y c' e
    exact⟨w2,z2.sameBut hs hcc⟩
  .obtain⟨e,n,ne,nf,d⟩:=I.pin p hp
   refine⟨(hs.2 p.1 ?_).trans e,n,ne,nf,d⟩;intro q;rw[q,hoc]at e;have q':oc=p.2:=QW e;exact d w' (by rw[←q'];exact hocd)
def SH    {i}{x}{v}{u}{Q}(I:Inv X pins σ H s)(hN:X.N.Nodup)(hi:X.N[i]?=O x)(hx:Loc X.env.scope x)(r:RelV v u)
  (h:∀s',Inv X pins (σ.set i (O v)) H s'->Q () s') (hf:X.fn x=yM∨X.env.scope.names.lookup x=O .local:=by first|exact .inl rfl|exact .inr rfl|assumption):Ur M A (storeName X.env x u) Q E s:=
 HX I hN hi hx r (λs' I' _=>h s' I') hf
def Inv.call'  {ch}(I:Inv X pins σ H s)(ho:s'.os=s.os)(u:Un (frs X.stack) ch H H' s.heap s'.heap)(hok:HOk X.prog X.w H' s'.heap)(hg:AllBare s'.gens)
  (hch:∀b∈ch,(b∈X.ex∨X.s₀.heap.objs.size<=b)/\b≠X.env.locals/\(∀x c,X.env.cells.lookup x=O c->c≠b)/\∀p∈X.pn++pins,p.1≠b):Inv X pins σ H' s':=by
 obtain⟨h',g',d',t',o'⟩:=s';have e   :=ho;subst e;exact I.call    u hok hg hch
end
abbrev XK:=Uj->yY->Hp->Prop
abbrev St:=List (Option V)
abbrev VK:=V->Hp->Prop
abbrev TE:=St->Hp->VK->Prop
abbrev TT:=St->Hp->(Bool->Hp->Prop)->Prop
abbrev TA:=St->Hp->(List V->Hp->Prop)->Prop
structure Ends where
 nx:St->Hp->Prop
 rt:VK
 bk:St->Hp->Prop:=λ_ _=>False
 ct:St->Hp->Prop:=λ_ _=>False
abbrev TS:=Ends->St->Hp->Prop
def EP(X:Cx)(pins:List (Um×Obj))(σ:St)(Q:VK)(u:Uj)(s':Uk):Prop:=∃v H',Inv X pins σ H' s'/\RelV v u/\Q v H'
def TP(X:Cx)(pins:List (Um×Obj))(σ:St)(Q:Bool->Hp->Prop)(b:Bool)(s':Uk):Prop:=∃H',Inv X pins σ H' s'/\Q b H'
def AP(X:Cx)(pins:List (Um×Obj))(σ:St)(Q:List V->Hp->Prop)(us:yR)(s':Uk):Prop:=∃vs H',Inv X pins σ H' s'/\Vals vs us/\Q vs H'
def SP(X:Cx)(pins:List (Um×Obj))(D:Ends)(f:Flow)(s':Uk):Prop:=
 match f with
 |.next=>∃σ' H',Inv X pins σ' H' s'/\D.nx σ' H'
 |.brk=>∃σ' H',Inv X pins σ' H' s'/\D.bk σ' H'
 |.cont=>∃σ' H',Inv X pins σ' H' s'/\D.ct σ' H'
 |.ret u=>∃v σ' H',Inv X pins σ' H' s'/\RelV v u/\D.rt v H'
def PE(X:Cx)(e:Up)(t:TE):Prop:=
 ∀(pins:List (Um×Obj))(s:Uk)(σ:St)(H:Hp)(Q:VK),Inv X pins σ H s->t σ H Q->Ur (model X.prog X.w) X.A (eval e X.env) (EP X pins σ Q) X.xe s
def PT(X:Cx)(e:Up)(t:TT):Prop:=
 ∀(pins:List (Um×Obj))(s:Uk)(σ:St)(H:Hp)(Q:Bool->Hp->Prop),Inv X pins σ H s->t σ H Q->Ur (model X.prog X.w) X.A (isTrue e X.env (eval e X.env)) (TP X pins σ Q) X.xe s
def PW(X:Cx)(e:Up)(t:TT):Prop:=
 ∀(whole:Sem Uj)(pins:List (Um×Obj))(s:Uk)(σ:St)(H:Hp)(Q:Bool->Hp->Prop),Inv X pins σ H s->t σ H Q->Ur (model X.prog X.w) X.A (isTrue e X.env whole) (TP X pins σ Q) X.xe s
def PW.pt{X:Cx}{e:Up}{t:TT}(h:PW X e t):PT X e t:=h _
def PA(X:Cx)(es:yS)(t:TA):Prop:=
 ∀(pos:Pos)(pins:List (Um×Obj))(s:Uk)(σ:St)(H:Hp)(Q:List V->Hp->Prop),Inv X pins σ H s->t σ H Q->Ur (model X.prog X.w) X.A (spliced (backTo pos (Us es X.env))) (AP X pins σ Q) X.xe s
def PS(X:Cx)(st:Stmt)(t:TS):Prop:=
 ∀(pins:List (Um×Obj))(s:Uk)(σ:St)(H:Hp)(D:Ends),Inv X pins σ H s->t D σ H->Ur (model X.prog X.w) X.A (exec st X.env) (SP X pins D) X.xe s
def PSs(X:Cx)(st:List Stmt)(t:TS):Prop:=
 ∀(pins:List (Um×Obj))(s:Uk)(σ:St)(H:Hp)(D:Ends),Inv X pins σ H s->t D σ H->Ur (model X.prog X.w) X.A (execs st X.env) (SP X pins D) X.xe s
def thn  {t:Sem α}{Q Q'}{M}{A}{E}{s}(h:Ur M A t Q E s)(hQ:∀a s,Q a s->Q' a s):Ur M A t Q' E s:=Qy h hQ λ_ _ x=>x
section
variable{X:Cx}
def KI(i:Nat):TE:=λσ H Q=>∃v,σ[i]?=O (O v)/\Q v H
def tC(v:V):TE:=λ_ H Q=>Q v H
def MZ   {pos}(hN:X.N[i]?=O x)(hv:Vis X.env.scope x)(hd:(x==("__debug__" : Str))=yN:=by decide)(hcd:(x==("__classdict__" : Str))=yN:=by decide):PE X (.Name x pos) (KI i):=by
 intro pins s σ H Q I h;obtain⟨v,e,h⟩:=h;obtain⟨m,hn,hl⟩:=I.loc;obtain⟨u,r,l⟩:=hl i x v hN e hv;have fin:EP X pins σ Q u s:=⟨v,H,I,r,h⟩;rcases l with ⟨hk,hm⟩|⟨hk,c,hc,hcell⟩
 .exact wpAny_Name (wpAny_loadName_local I.ok.kind hk hn hm fin) hd
 .rcases hk with hk|hk
  .exact wpAny_Name (wpAny_loadName_cell I.ok.kind hk hc hcell fin) hd
  .exact wpAny_Name (wpAny_loadName_free I.ok.kind hk hc hcell fin hcd) hd
def Bx  : PE X (.Constant (.int i) j pos) (tC (.int i)):=λ_ _ _ H _ I h=>wpAny_Constant_int ⟨.int i,H,I.tok _,⟨_,rfl⟩,h⟩
def DA  : PE X (.Constant (.bool b) j pos) (tC (.bl b)):=λ_ _ _ H _ I h=>Constant_bool ⟨.bl b,H,I,rfl,h⟩
def Bw  : PE X (.Constant .none j pos) (tC .non):=λ_ _ _ H _ I h=>Constant_none ⟨.non,H,I,rfl,h⟩
def Pf  : PE X (.Constant (.str x) j pos) (tC (.str x)):=λ_ _ _ H _ I h=>Calls.Constant_str ⟨.str x,H,I.tok _,⟨_,rfl⟩,h⟩
def Gl(X:Cx)(x:Str):Prop:=X.env.kindOf x=O .globalImplicit
def VM  {pins}{s}{σ:St}{H}{x}{u}{pos}{Q}(I:Inv X pins σ H s)(hg:Gl X x)(hm:X.mg x=O u)(h:Q u s)
  (hd:(x==("__debug__" : Str))=yN:=by decide):Ur (model X.prog X.w) X.A (eval (.Name x pos) X.env) Q E s:=
 Calls.Name_function_global I.ok.kind hg (Calls.loadGlobal_global (by rw[I.ok.glob];exact I.mod.glob.keeps I.bk) hm h) hd
def WS{E}{pins}{s}{σ:St}{H}{x}{u}{pos}{Q}(I:Inv X pins σ H s)(hg:Gl X x)(hm:X.mg x=yL)(hv:bootBuiltins x=O u)(h:Q u s)
  (hn:x ≠ "__name__" :=by decide) (hd:(x==("__debug__" : Str))=yN:=by decide):Ur (model X.prog X.w) X.A (eval (.Name x pos) X.env) Q E s:=by
 obtain⟨mb,h1,h2⟩:=I.mod.blt;exact Calls.Name_function_global I.ok.kind hg (Calls.loadGlobal_builtin (by rw[I.ok.glob];exact I.mod.glob.keeps I.bk) hm (by rw[I.ok.blt];exact h1.keeps I.bk) ((h2 x hn).trans hv) h) hd
def L8   {u}{pos}(hg:Gl X x)(hm:X.mg x=O u)(r:RelV v u)(hd:(x==("__debug__" : Str))=yN:=by decide):PE X (.Name x pos) (tC v):=
 λ_ _ _ H _ I h=>VM I hg hm ⟨v,H,I,r,h⟩ hd
def L7   {u}{pos}(hg:Gl X x)(hm:X.mg x=yL)(hv:bootBuiltins x=O u)(r:RelV v u)(hn:x ≠ "__name__" :=by decide)(hd:(x==("__debug__" : Str))=yN:=by decide):PE X (.Name x pos) (tC v):=
 λ_ _ _ H _ I h=>WS I hg hm hv ⟨v,H,I,r,h⟩ hn hd
variable{a b:Up}{ta tb:TE}{pos:Pos}
def PC(X:Cx)(op:CmpOp)(a b:Up)(t:TE):Prop:=
 ∀(pins:List (Um×Obj))(s:Uk)(σ:St)(H:Hp)(Q:VK),Inv X pins σ H s->t σ H Q ->
  Ur (model X.prog X.w) X.A (eval a X.env) (λv s₁=>Ur (model X.prog X.w) X.A (eval b X.env) (λu s₂=>Ur (model X.prog X.w) X.A (Ut op v u) (EP X pins σ Q) X.xe s₂) X.xe s₁) X.xe s
def Hd(b){op}(h:op≠.In)(h2:op≠.NotIn):behindInMarks op b=yN:=by
 have e1:(op==CmpOp.In)=yN:=by lia
 have e2:(op==CmpOp.NotIn)=yN:=by lia
 cases b<;>simp[behindInMarks,e1,e2]
def tIsN(ta:TE):TE:=λσ H Q=>ta σ H λx H1=>Q (.bl (decide (x=.non))) H1
def Dy(ta:TE):TE:=λσ H Q=>ta σ H λx H1=>Q (.bl (!decide (x=.non))) H1
def RelV.none_iff   (r:RelV x v):(v==Value.none)=decide (x=.non):=by
 cases x with
 |non=>cases r;rfl
 |bl _=>cases r;rfl
 |int _=>obtain⟨t,rfl⟩:=r;rfl
 |str _=>obtain⟨t,rfl⟩:=r;rfl
 |byt _=>obtain⟨t,rfl⟩:=r;rfl
 |flt _=>obtain⟨t,rfl⟩:=r;rfl
 |ref _=>cases r;rfl
 |ty _=>cases r;rfl
def MY  (ha:PE X a ta):PC X .Is a (.Constant .none j pos') (tIsN ta):=by intro pins s σ H Q I h;refine thn (ha pins s σ H _ I h) λv s1 ⟨x,H1,I1,r1,q1⟩=>?_;exact Constant_none (is_none_gen ⟨.bl _,H1,I1,by rw[r1.none_iff];rfl,q1⟩)
def AI  (ha:PE X a ta):PC X .IsNot a (.Constant .none j pos') (Dy ta):=by intro pins s σ H Q I h;refine thn (ha pins s σ H _ I h) λv s1 ⟨x,H1,I1,r1,q1⟩=>?_;exact Constant_none (isnot_none_gen ⟨.bl _,H1,I1,by rw[r1.none_iff];rfl,q1⟩)
def tB(t:TE):TT:=λσ H Q=>t σ H λx H1=>∃c,x=.bl c/\Q c H1
def Bv   (h:PC X op a b t)(h1:behindInMarks op b=yN:=by first|exact Hd _ (by decide) (by decide)|rfl):PE X (.Compare a [op] [b] pos) t:=λpins s σ H Q I hw=>wpAny_Compare1 (h pins s σ H Q I hw) h1
def MX   (h:PC X op a b t)(h1:behindInMarks op b=yN:=by first|exact Hd _ (by decide) (by decide)|rfl):PT X (.Compare a [op] [b] pos) (tB t):=by intro pins s σ H Q I hw;refine wpAny_isTrue_Compare1 (thn (h pins s σ H _ I hw) λv s1 h1=>thn h1 λu s2 h2=>thn h2 λc s3 ⟨x,H1,I1,r1,q1⟩=>?_) h1;obtain⟨d,rfl,q⟩:=q1;cases r1;exact Q2 ⟨H1,I1,q⟩
def Bu   (h:PE X e t)(he:∀whole,isTrue e X.env whole=(do let v ←whole;standAt e.pos;holding [v] (truthy v)):=by intro _;rfl):PT X e (tB t):=by intro pins s σ H Q I hw;refine isTrue_plain (thn (h pins s σ H _ I hw) λv s1 ⟨x,H1,I1,r1,q1⟩=>?_) (he _);obtain⟨d,rfl,q⟩:=q1;cases r1;exact Q2 ⟨H1,I1,q⟩
variable{tA tB':TT}{rest:yS}
def tAnd(t u:TT):TT:=λσ H Q=>t σ H λc H1=>if c=yM then u σ H1 Q else Q yN H1
def tOr(t u:TT):TT:=λσ H Q=>t σ H λc H1=>if c=yM then Q yM H1 else u σ H1 Q
def tNot(t:TT):TT:=λσ H Q=>t σ H λc H1=>Q (!c) H1
def AH(ha:PT X a tA):PW X (.BoolOp .And [a] pos) tA:=by
 intro wh pins s σ H Q I h;refine isTrue_and (thn (ha pins s σ H Q I h) λc s1 e=>?_);cases c with
 |true=>exact isTrue_and_nil e
 |false=>exact e
def Bt(ha:PT X a tA):PW X (.BoolOp .Or [a] pos) tA:=by
 intro wh pins s σ H Q I h;refine isTrue_or (thn (ha pins s σ H Q I h) λc s1 e=>?_);cases c with
 |false=>exact isTrue_or_nil e
 |true=>exact e
def Bs(ha:PT X a tA)(hb:PW X (.BoolOp .And (b::rest) pos) tB'):PW X (.BoolOp .And (a::b::rest) pos) (tAnd tA tB'):=by
 intro wh pins s σ H Q I h;refine isTrue_and (thn (ha pins s σ H _ I h) λc s1 ⟨H1,I1,q1⟩=>?_);cases c with
 |true=>exact hb wh pins s1 σ H1 Q I1 q1
 |false=>exact⟨H1,I1,q1⟩
def Dx(ha:PT X a tA)(hb:PW X (.BoolOp .Or (b::rest) pos) tB'):PW X (.BoolOp .Or (a::b::rest) pos) (tOr tA tB'):=by
 intro wh pins s σ H Q I h;refine isTrue_or (thn (ha pins s σ H _ I h) λc s1 ⟨H1,I1,q1⟩=>?_);cases c with
 |true=>exact⟨H1,I1,q1⟩
 |false=>exact hb wh pins s1 σ H1 Q I1 q1
def Br(ha:PT X a tA):PT X (.UnaryOp .Not a pos) (tNot tA):=by intro pins s σ H Q I h;exact isTrue_not (ha pins s σ H _ I h)
def Dw(ta tb:TE):TE:=λσ H Q=>ta σ H λx H1=>∃c,x=.bl c/\if c=yM then tb σ H1 Q else Q (.bl yN) H1
def tOrV(ta tb:TE):TE:=λσ H Q=>ta σ H λx H1=>∃c,x=.bl c/\if c=yM then Q (.bl yM) H1 else tb σ H1 Q
def Dv(ta:TE):TE:=λσ H Q=>ta σ H λx H1=>∃c,x=.bl c/\Q (.bl (!c)) H1
def Bq  {t}(h:PE X a t):PE X (.BoolOp op [a] pos) t:=λpins s σ H Q I hw=>BoolOp_one (h pins s σ H Q I hw)
def Bp(ha:PE X a ta)(hb:PE X (.BoolOp .And (b::rest) pos) tb):PE X (.BoolOp .And (a::b::rest) pos) (Dw ta tb):=by
 intro pins s σ H Q I h;refine BoolOp_and (thn (ha pins s σ H _ I h) λv s1 ⟨x,H1,I1,r1,q1⟩=>?_);obtain⟨c,rfl,q1⟩:=q1;cases r1;refine Q2 ?_;cases c with
 |true=>exact hb pins s1 σ H1 Q I1 q1
 |false=>exact⟨.bl yN,H1,I1,rfl,q1⟩
def Du(ha:PE X a ta)(hb:PE X (.BoolOp .Or (b::rest) pos) tb):PE X (.BoolOp .Or (a::b::rest) pos) (tOrV ta tb):=by
 intro pins s σ H Q I h;refine BoolOp_or (thn (ha pins s σ H _ I h) λv s1 ⟨x,H1,I1,r1,q1⟩=>?_);obtain⟨c,rfl,q1⟩:=q1;cases r1;refine Q2 ?_;cases c with
 |false=>exact hb pins s1 σ H1 Q I1 q1
 |true=>exact⟨.bl yM,H1,I1,rfl,q1⟩
def Bo(ha:PE X a ta):PE X (.UnaryOp .Not a pos) (Dv ta):=by intro pins s σ H Q I h;refine UnaryOp_ (thn (ha pins s σ H _ I h) λv s1 ⟨x,H1,I1,r1,q1⟩=>?_);obtain⟨c,rfl,q1⟩:=q1;cases r1;exact not_of (Q2 ⟨.bl _,H1,I1,rfl,q1⟩)
def tIf(t:TT)(ta tb:TE):TE:=λσ H Q=>t σ H λc H1=>if c=yM then ta σ H1 Q else tb σ H1 Q
def kT  (hc:PT X c tA)(ha:PE X a ta)(hb:PE X b tb):PE X (.IfExp c a b pos) (tIf tA ta tb):=by
 intro pins s σ H Q I h;refine wpAny_IfExp (thn (hc pins s σ H _ I h) λd s1 ⟨H1,I1,q1⟩=>?_);cases d with
 |true=>exact ha pins s1 σ H1 Q I1 q1
 |false=>exact hb pins s1 σ H1 Q I1 q1
end
def SqL(K:Frag)(H:Hp)(a:Um)(xs:List V):Prop:=
 Rd H a (.lst xs) ∨
  ∃(o:Obj)(its:Array Uj)(n:Nat),K.lookup a=O o/\o.cls=.type "list" /\ o.dict=yL/\o.data=.seq its n/\its.size<=Uq/\Vals xs its.toList
def SqT(K:Frag)(H:Hp)(a:Um)(xs:List V):Prop:=
 Rd H a (.tup xs) ∨
  ∃(o:Obj)(its:Array Uj)(n:Nat),K.lookup a=O o/\o.cls=.type "tuple" /\ o.data=.seq its n/\its.size<=Uq/\Vals xs its.toList
noncomputable def absV:Uj->Option V
 |.none=>O .non
 |.bool b=>O (.bl b)
 |.int i _=>O (.int i)
 |.str x _=>O (.str x)
 |.bytes b _=>O (.byt b)
 |.float b _=>O (.flt b)
 |.ref a=>O (.ref a)
 |.type n=>O (.ty n)
 |_=>yL
def RelV.abs   (r:RelV x u):absV u=O x:=by
 cases x with
 |non=>cases r;rfl
 |bl _=>cases r;rfl
 |int _=>obtain⟨t,rfl⟩:=r;rfl
 |str _=>obtain⟨t,rfl⟩:=r;rfl
 |byt _=>obtain⟨t,rfl⟩:=r;rfl
 |flt _=>obtain⟨t,rfl⟩:=r;rfl
 |ref _=>cases r;rfl
 |ty _=>cases r;rfl
def RelV.inj  {u}(r:RelV x u)(q:RelV y u):x=y:=QW (r.abs.symm.trans q.abs)
theorem Vals.inj:∀{xs ys}{us},Vals xs us->Vals ys us->xs=ys
 |_,_,_,.nil,.nil=>rfl
 |_,_,_,.cons r t,.cons r' t'=>by rw[r.inj r',Vals.inj t t']
section
variable{X:Cx}{pins:List (Um×Obj)}{σ:St}{H:Hp}{s:Uk}{a:Um}{xs ys:List V}
def SqL.of{K:Frag}(h:H a=O (.lst xs)):SqL K H a xs:=.inl (.inl h)
def SqT.of{K:Frag}(h:H a=O (.tup xs)):SqT K H a xs:=.inl (.inl h)
def Inv.list(I:Inv X pins σ H s)(h:SqL X.K H a xs):∃its:yR,Vals xs its/\PlainL s.heap a its.toArray/\xs.length<=Uq:=by
 rcases h with h|⟨o,its,n,hk,hc,hd,hs,hz,r⟩
 .obtain⟨z,its,n,r,e⟩:=h.ok I.hok
  exact⟨its,r,⟨_,n,e,rfl,rfl,rfl⟩,z⟩
 .refine⟨its.toList,r,⟨o,n,I.kIn a o hk,hc,hd,by simpa using hs⟩,?_⟩
  have e:=r.length
  grind
def Inv.tuple(I:Inv X pins σ H s)(h:SqT X.K H a xs):∃its:yR,Vals xs its/\IsTup s.heap a its.toArray/\xs.length<=Uq:=by
 rcases h with h|⟨o,its,n,hk,hc,hs,hz,r⟩
 .obtain⟨z,its,r,p⟩:=h.ok I.hok
  exact⟨its,r,p,z⟩
 .refine⟨its.toList,r,⟨o,I.kIn a o hk,hc,n,by simpa using hs⟩,?_⟩
  have e:=r.length;simp_all
def Inv.list_inj(I:Inv X pins σ H s)(h:SqL X.K H a xs)(h':SqL X.K H a ys):xs=ys:=by
 obtain⟨its,r,⟨o,n,e,_,_,d⟩,_⟩:=I.list h;obtain⟨its',r',⟨o',n',e',_,_,d'⟩,_⟩:=I.list h';rw[e]at e';cases e';rw[d]at d';injection d' with d1 _;have   :=by simpa using congrArg Array.toList d1
 subst this;exact r.inj r'
def Inv.tuple_inj(I:Inv X pins σ H s)(h:SqT X.K H a xs)(h':SqT X.K H a ys):xs=ys:=by
 obtain⟨its,r,⟨o,e,_,n,d⟩,_⟩:=I.tuple h;obtain⟨its',r',⟨o',e',_,n',d'⟩,_⟩:=I.tuple h';rw[e]at e';cases e';rw[d]at d';injection d' with d1 _;have   :=by simpa using congrArg Array.toList d1
 subst this;exact r.inj r'
end
noncomputable abbrev Cx.wish(X:Cx)(E:Uj->Uk->Prop):Cx:={X with xe:=E}
abbrev Cx.nox(X:Cx):Cx:=X.wish λ_ _=>False
def Cx.Ok.wish{X:Cx}(ok:X.Ok)(E):(X.wish E).Ok:=
 ⟨ok.mod,ok.kind,ok.glob,ok.blt,ok.above,ok.inj,ok.has,ok.cab,ok.hd,ok.frames,ok.stk,ok.exf,ok.bs,ok.bsz,ok.noex,ok.exfs,ok.funs,ok.frf⟩
def Cx.Ok.unwish{X:Cx}{E}(ok:(X.wish E).Ok):X.Ok:=
 ⟨ok.mod,ok.kind,ok.glob,ok.blt,ok.above,ok.inj,ok.has,ok.cab,ok.hd,ok.frames,ok.stk,ok.exf,ok.bs,ok.bsz,ok.noex,ok.exfs,ok.funs,ok.frf⟩
section
variable{X:Cx}{pins:List (Um×Obj)}{σ:St}{H:Hp}{s:Uk}{E:Uj->Uk->Prop}
def Inv.wish(I:Inv X pins σ H s)(E):Inv (X.wish E) pins σ H s:=⟨I.ok.wish E,I.os,I.bare,I.base,I.loc,I.cell,I.free,I.freeC,I.pin,I.hok,I.len⟩
def Inv.unwish(I:Inv (X.wish E) pins σ H s):Inv X pins σ H s:=⟨I.ok.unwish,I.os,I.bare,I.base,I.loc,I.cell,I.free,I.freeC,I.pin,I.hok,I.len⟩
def SP.unwish    (h:SP (X.wish E) pins D f s'):SP X pins D f s':=by
 cases f with
 |next=>obtain⟨σ',H',I,q⟩:=h;exact⟨σ',H',I.unwish,q⟩
 |brk=>obtain⟨σ',H',I,q⟩:=h;exact⟨σ',H',I.unwish,q⟩
 |cont=>obtain⟨σ',H',I,q⟩:=h;exact⟨σ',H',I.unwish,q⟩
 |ret u=>obtain⟨v,σ',H',I,r,q⟩:=h;exact⟨v,σ',H',I.unwish,r,q⟩
def PSs.nox{st}{t}(h:PSs X.nox st t):PSs X st t:=λpins s σ H D I hw=>
 Qy (h pins s σ H D (I.wish _) hw) (λ_ _ q=>q.unwish) λ_ _ z=>False.elim z
end
section
variable{X:Cx}{st:Stmt}{rest:List Stmt}{t u:TS}{e:Up}{te:TE}{pos:Pos}
def Dt:TS:=λD σ H=>D.nx σ H
def W3(t u:TS):TS:=λD σ H=>t {D with nx:=u D} σ H
def A6:PSs X [] Dt:=λ_ _ σ H _ I h=>JG ⟨σ,H,I,h⟩
def Tj(h1:PS X st t)(h2:PSs X rest u):PSs X (st::rest) (W3 t u):=by
 intro pins s σ H D I h;refine wpAny_execs_cons (thn (h1 pins s σ H {D with nx:=u D} I h) λf s1 q=>?_);cases f with
 |next=>obtain⟨σ',H',I',q⟩:=q;exact h2 pins s1 σ' H' D I' q
 |ret v=>exact q
 |brk=>exact q
 |cont=>exact q
def Tg(h1:PS X st t):PSs X [st] t:=by
 intro pins s σ H D I h;refine wpAny_execs_cons (thn (h1 pins s σ H D I h) λf s1 q=>?_);cases f with
 |next=>exact JG q
 |ret v=>exact q
 |brk=>exact q
 |cont=>exact q
def Inv.quiet  {σ:St}{H}{s}(I:Inv X pins σ H s):interactive X.env=yN:=by simp[interactive,I.ok.kind]
def Mj(te:TE):TS:=λD σ H=>te σ H λ_ H1=>D.nx σ H1
def VL(he:PE X e te)(hs:swapsWith e yL pos.line X.env=pure yN:=by rfl):PS X (.Expr e pos) (Mj te):=by intro pins s σ H D I h;exact wpAny_Expr_any (thn (he pins s σ H _ I h) λv s1 ⟨x,H1,I1,r1,q1⟩=>⟨σ,H1,I1,q1⟩) I.quiet hs
def tRet(te:TE):TS:=λD σ H=>te σ H D.rt
def Pe(he:PE X e te):PS X (.Return (O e) pos) (tRet te):=by intro pins s σ H D I h;exact wpAny_Return_some (thn (he pins s σ H _ I h) λv s1 ⟨x,H1,I1,r1,q1⟩=>⟨x,σ,H1,I1,r1,q1⟩)
def tIfS(c:TT)(t u:TS):TS:=λD σ H=>c σ H λb H1=>if b=yM then t D σ H1 else u D σ H1
def Ds   {tc}(hc:PT X c tc)(ha:PSs X a t)(hb:PSs X b u):PS X (.If c a b pos) (tIfS tc t u):=by
 intro pins s σ H D I h;refine wpAny_If (thn (hc pins s σ H _ I h) λd s1 ⟨H1,I1,q1⟩=>?_);cases d with
 |true=>exact ha pins s1 σ H1 D I1 q1
 |false=>exact hb pins s1 σ H1 D I1 q1
end
abbrev TG:=V->St->Hp->(St->Hp->Prop)->Prop
abbrev TGs:=List V->St->Hp->(St->Hp->Prop)->Prop
def PG(X:Cx)(target:Up)(t:TG):Prop:=
 ∀(pins:List (Um×Obj))(s:Uk)(σ:St)(H:Hp)(v:V)(u:Uj)(Q:St->Hp->Prop),Inv X pins σ H s->RelV v u->t v σ H Q ->
  Ur (model X.prog X.w) X.A (assign target X.env u) (λ_ s'=>∃σ' H',Inv X pins σ' H' s'/\Q σ' H') X.xe s
def PGs(X:Cx)(ts:yS)(t:TGs):Prop:=
 ∀(pins:List (Um×Obj))(s:Uk)(σ:St)(H:Hp)(vs:List V)(us:yR)(Q:St->Hp->Prop),Inv X pins σ H s->Vals vs us->t vs σ H Q ->
  Ur (model X.prog X.w) X.A (assignInOrder ((UH ts X.env).map (·.2)) us) (λ_ s'=>∃σ' H',Inv X pins σ' H' s'/\Q σ' H') X.xe s
abbrev TIp:=V->V->Hp->VK->Prop
def PIp(X:Cx)(op:Operator)(t:TIp):Prop:=
 ∀(pins:List (Um×Obj))(s:Uk)(σ:St)(H:Hp)(x y:V)(v u:Uj)(Q:VK),Inv X pins σ H s->RelV x v->RelV y u->t x y H Q ->
  Ur (model X.prog X.w) X.A (inplaceOp op v u) (EP X pins σ Q) X.xe s
section
variable{X:Cx}{pos:Pos}
def Oq(i:Nat):TG:=λv σ H Q=>Q (σ.set i (O v)) H
def SE   (hN:X.N.Nodup)(hi:X.N[i]?=O x)(hx:Loc X.env.scope x)(hf:X.fn x=yM∨X.env.scope.names.lookup x=O .local:=by first|exact .inl rfl|exact .inr rfl|assumption):PG X (.Name x pos) (Oq i):=by intro pins s σ H v u Q I r h;exact wpAny_assign_Name (SH I hN hi hx r (λs' I'=>⟨_,H,I',h⟩) hf)
def gNil:TGs:=λvs σ H Q=>vs=[]/\Q σ H
def Dr(t:TG)(u:TGs):TGs:=λvs σ H Q=>∃v r,vs=v::r/\t v σ H λσ' H'=>u r σ' H' Q
def OV:PGs X [] gNil:=by intro pins s σ H vs us Q I r h;obtain⟨e,h⟩:=h;exact assignInOrder_nil ⟨σ,H,I,h⟩
def RS   {t}{u}(h1:PG X e t)(h2:PGs X es u)
  (hs:(UH (e::es) X.env).map (·.2)=assign e X.env::(UH es X.env).map (·.2):=by rfl):PGs X (e::es) (Dr t u):=by
 intro pins s σ H vs us Q I r h;obtain⟨v,vr,e1,h⟩:=h;subst e1;cases r with
 |cons r rr=>rw[hs];refine assignInOrder_cons (thn (h1 pins s σ H _ _ _ I r h) λ_ s1 ⟨σ1,H1,I1,q1⟩=>?_);exact h2 pins s1 σ1 H1 _ _ Q I1 rr q1
def gTup(K:Frag)(n:Nat)(t:TGs):TG:=λv σ H Q=>∃a xs,v=.ref a/\SqT K H a xs/\xs.length=n/\t xs σ H Q
def OD  {k}{t}{n}(hc:X.calm=yM)(h:PGs X es t)
  (hn:(UH es X.env).length=n:=by rfl) (hst:(UH es X.env).findIdx? (·.1)=yL:=by rfl):PG X (.Tuple es k pos) (gTup X.K n t):=by
 intro pins s σ H v u Q I r hw;obtain⟨a,xs,e1,hq,hl,hw⟩:=hw;subst e1;cases r;obtain⟨its,rv,ht,hz⟩:=I.tuple hq;refine assign_Tuple_tuple (I.ok.hd hc) ht (by simp[hn,←hl,rv.length]) hst λh' hx=>?_
 have I1   :=I.kept (t':=s.toks) λb o e=>hx b o (QJ (Qg e)) e;exact h pins _ σ H xs _ Q I1 (by simpa using rv) hw
def tAsg(te:TE)(g:TG):TS:=λD σ H=>te σ H λx H1=>g x σ H1 D.nx
def MW{tg e}{te}{g}(he:PE X e te)(hg:PG X tg g)(hs:swapsWithSole [tg] e pos.line X.env=pure yN:=by rfl)(hw:swappedStores [tg] e X.env=pure yL:=by rfl)
  (h1:(UH [tg] X.env).map (·.2)=[assign tg X.env]:=by rfl):PS X (.Assign [tg] e pos) (tAsg te g):=by
 intro pins s σ H D I h;refine wpAny_Assign_stores (thn (he pins s σ H _ I h) λv s1 ⟨x,H1,I1,r1,q1⟩=>?_) hs hw;rw[h1];exact thn (hg pins s1 σ H1 x v _ I1 r1 q1) λ_ s2 q=>q
def Pd      (hN:X.N.Nodup)(hi:X.N[i]?=O x)(hx:Loc X.env.scope x)(he:PE X e te)(hs:swapsWith e (O (.Name x pos')) pos.line X.env=pure yN:=by rfl)(hf:X.fn x=yM∨X.env.scope.names.lookup x=O .local:=by first|exact .inl rfl|exact .inr rfl|assumption) :
  PS X (.Assign [.Name x pos'] e pos) (tAsg te (Oq i)):=by
 intro pins s σ H D I h;refine wpAny_Assign_Name (thn (he pins s σ H _ I h) λv s1 ⟨y,H1,I1,r1,q1⟩=>?_) hs;exact SH I1 hN hi hx r1 (λs2 I2=>⟨_,H1,I2,q1⟩) hf
def tAug(i:Nat)(te:TE)(ti:TIp):TS:=λD σ H=>∃x,σ[i]?=O (O x)/\te σ H λy H1=>ti x y H1 λz H2=>D.nx (σ.set i (O z)) H2
def Bm  {x:Str}{e:Up}{te:TE}{op}{ti:TIp}{pos':Pos}(hN:X.N.Nodup)(hi:X.N[i]?=O x)(hx:Loc X.env.scope x)(he:PE X e te)(ho:PIp X op ti)(hf:X.fn x=yM∨X.env.scope.names.lookup x=O .local:=by first|exact .inl rfl|exact .inr rfl|assumption) :
  PS X (.AugAssign (.Name x pos') op e pos) (tAug i te ti):=by
 intro pins s σ H D I h;obtain⟨v,e1,h⟩:=h;obtain⟨m,hn,hl⟩:=I.loc;have vis:Vis X.env.scope x:=by rcases hx with k|k;exact .inl k;exact .inr (.inl k)
 obtain⟨u,r,l⟩:=hl i x v hi e1 vis;refine wpAny_AugAssign_Name ?_;have go:Ur (model X.prog X.w) X.A (eval e X.env) (λw s₂=>Ur (model X.prog X.w) X.A (inplaceOp op u w) (λr s₃=>Ur (model X.prog X.w) X.A (storeName X.env x r) (λ_=>SP X pins D .next) X.xe s₃) X.xe s₂) X.xe s:=by refine thn (he pins s σ H _ I h) λw s1 ⟨y,H1,I1,r1,q1⟩=>?_;refine thn (ho pins s1 σ H1 v y u w _ I1 r r1 q1) λz s2 ⟨zv,H2,I2,r2,q2⟩=>?_;exact SH I2 hN hi hx r2 (λs3 I3=>⟨_,H2,I3,q2⟩) hf
 rcases l with ⟨hk,hm⟩|⟨hk,c,hc,hcell⟩
 .exact wpAny_loadName_local I.ok.kind hk hn hm go
 .rcases hk with hk|hk
  .exact wpAny_loadName_cell I.ok.kind hk hc hcell go
  .rcases hx with k|k
   .have:X.env.scope.names.lookup x=O .free:=hk
    rw[k]at this;cases this
   .have:X.env.scope.names.lookup x=O .free:=hk
    rw[k]at this;cases this
end
section
variable{X:Cx}{pos:Pos}
noncomputable def Bl(c:TT)(tb:TS):TS:=λD σ H=>∃W:Nat->St->Hp->Prop,(∃m,W m σ H)/\∀m σ H,W m σ H ->
 c σ H λb H1=>if b=yM then ∃N:St->Hp->Prop,(∀σ' H',N σ' H'->∃m',m'<m/\W m' σ' H')/\tb {D with nx:=N,ct:=N,bk:=D.nx} σ H1 else D.nx σ H1
def kS   {tc}{tb}(hp:PassesOwn (model X.prog X.w) X.A X.env X.xe)(hc:PT X c tc)(hb:PSs X body tb):PS X (.While c body [] pos) (Bl tc tb):=by
 intro pins s σ H D I h;obtain⟨W,⟨m0,w0⟩,turn⟩:=h;refine wpAny_While (codeAny_whileLoop (λn s'=>∃σ' H',Inv X pins σ' H' s'/\W n σ' H') ?_ m0 ⟨σ,H,I,w0⟩);rintro n s1 ⟨σ1,H1,I1,w1⟩;refine Jq hp (thn (hc pins s1 σ1 H1 _ I1 (turn n σ1 H1 w1)) λb s2 ⟨H2,I2,q2⟩=>?_);cases b with
 |true=>
  obtain⟨N,hN,q2⟩:=q2;refine Jq hp (thn (hb pins s2 σ1 H2 _ I2 q2) λf s3 q3=>?_);cases f with
  |next=>obtain⟨σ3,H3,I3,n3⟩:=q3;obtain⟨m',hm,w3⟩:=hN σ3 H3 n3;exact⟨m',hm,σ3,H3,I3,w3⟩
  |cont=>obtain⟨σ3,H3,I3,n3⟩:=q3;obtain⟨m',hm,w3⟩:=hN σ3 H3 n3;exact⟨m',hm,σ3,H3,I3,w3⟩
  |brk=>exact q3
  |ret v=>exact q3
 |false=>exact JG ⟨σ1,H2,I2,q2⟩
end
structure It where
 go:Nat->Hp->Prop
 yld:Nat->Hp->V->Hp->Prop
 stop:Nat->Hp->Prop
def ZC(X:Cx)(pins:List (Um×Obj))(H:Hp)(b:Um):Prop:=
 H b=yL/\b≠X.env.locals/\b∉X.fs/\(b∈X.ex∨X.s₀.heap.objs.size<=b)/\(∀x c,X.env.cells.lookup x=O c->c≠b)/\∀p∈X.pn++pins,p.1≠b
def Inv.fpOk   {σ:St}{H H'}{s}{b:Um}(I:Inv X pins σ H s)(hb:s.heap.objs.size<=b)(hn:H' b=yL):ZC X pins H' b:=by
 refine⟨hn,Ju (QA I.lt hb),I.nofs hb,.inr (QE I.sz hb),λx c e z=>?_,λp hp z=>?_⟩
 .obtain⟨v,q⟩:=I.cell x c e
  exact absurd (QA q.lt (by rw[z];exact hb)) (Jz _)
 .exact absurd (QA (Qg (I.pin p hp).1) (by rw[z];exact hb)) (Jz _)
structure Turn(P:Ul)(w:World)(K:Frag)(tg:Up)(J:It)(fp:yU)(it:Um)(tn:Nat->Heap->Prop):Prop where
 mem:it∈fp
 obj:∀i h,tn i h->∀b∈fp,∃o,h.get? b=O o/\∀v,o.data≠.cell v
 keep:∀i h h',tn i h->(∀b∈fp,∀o,h.get? b=O o->h'.get? b=O o)->tn i h'
 item:∀(X:Cx),X.prog=P->X.w=w->X.K=K->X.calm=yM->∀(i:Nat)(pins:List (Um×Obj))(s:Uk)(σ:St)(H:Hp)(E:Uj->Uk->Prop),Inv X pins σ H s->(∀b∈fp,ZC X pins H b)->tn i s.heap->J.go i H ->
  Ur (model P w) X.A (pyNext (.ref it)) (λr s1=>∃u,r=O u /\
   Ur (model P w) X.A (letOwnedTupleGo tg (.ref it) u) (λ_ s2=>∃x H',Inv X pins σ H' s2/\RelV x u/\J.yld i H x H'/\tn (i+1) s2.heap/\∀b∈fp,H' b=yL) E s1) E s
 done:∀(X:Cx),X.prog=P->X.w=w->X.K=K->X.calm=yM->∀(i:Nat)(pins:List (Um×Obj))(s:Uk)(σ:St)(H:Hp)(E:Uj->Uk->Prop),Inv X pins σ H s->(∀b∈fp,ZC X pins H b)->tn i s.heap->J.stop i H ->
  Ur (model P w) X.A (pyNext (.ref it)) (λr s1=>r=yL/\Inv X pins σ H s1) E s
 self:∀(A:Around)(i:Nat)(s:Uk)(Q:Uj->Uk->Prop)(E:Uj->Uk->Prop),tn i s.heap->Q (.ref it) s->Ur (model P w) A (pyIter (.ref it)) Q E s
abbrev TI:=St->Hp->(It->Hp->Prop)->Prop
def PIE(X:Cx)(pins:List (Um×Obj))(σ:St)(tg:Up)(R:It->Hp->Prop)(itv:Uj)(s2:Uk):Prop:=
 ∃(it:Um)(fp:yU)(tn:Nat->Heap->Prop)(J:It)(H':Hp),itv=.ref it/\Inv X pins σ H' s2/\Turn X.prog X.w X.K tg J fp it tn/\tn 0 s2.heap/\(∀b∈fp,ZC X pins H' b)/\R J H'
def PI(X:Cx)(tg iter:Up)(wi:TI):Prop:=
 ∀(pins:List (Um×Obj))(s:Uk)(σ:St)(H:Hp)(R:It->Hp->Prop),Inv X pins σ H s->wi σ H R ->
  Ur (model X.prog X.w) X.A (eval iter X.env) (λv s1=>Ur (model X.prog X.w) X.A (pyIter v) (PIE X pins σ tg R) X.xe s1) X.xe s
def Rs  {A:Around}{E}{s:Uk}{tg:Up}{it:Um}{u:Uj}{o:Obj}{n:String}{vs}{Q}(ho:s.heap.get? it=O o)(hc:o.cls=.type n)(hd:o.data=.fields vs)
  (hn:["enumerate", "zip", "dict_itemiterator", "dict_reverseitemiterator", "odict_iterator", "itertools.zip_longest", "itertools.pairwise"].contains n=yN) (hQ:Q () s):Ur M A (letOwnedTupleGo tg (.ref it) u) Q E s:=by
 cases tg<;>first
  |exact Qf hQ
  |(cases u<;>first
    |exact Qf hQ
    |(
      refine Qb (wpAny_load ho ?_);rw[hc,hd];show Ur M A (if _=yM then _ else _) Q E s;rw[QH (by intro h;rw[hn]at h;cases h)];exact Qf hQ))
noncomputable def Itl(K:Frag)(a:Um):It:=
 ⟨λi H=>∃xs x,SqL K H a xs/\xs[i]?=O x,λi H x H'=>H'=H/\∀xs,SqL K H a xs->xs[i]?=O x,λi H=>∃xs,SqL K H a xs/\xs.length<=i⟩
noncomputable def Itt(K:Frag)(a:Um):It:=
 ⟨λi H=>∃xs x,SqT K H a xs/\xs[i]?=O x,λi H x H'=>H'=H/\∀xs,SqT K H a xs->xs[i]?=O x,λi H=>∃xs,SqT K H a xs/\xs.length<=i⟩
noncomputable def Itr(lo:Int)(n:Nat):It:=⟨λi _=>i<n,λi H x H'=>H'=H/\x=.int (lo+i),λi _=>n<=i⟩
def vh{P:Ul}{w:World}{K}{tg:Up}(a it:Um):Turn P w K tg (Itl K a) [it] it (λi h=>h.IsListIter it a i) where
 mem:=by simp
 obj:=λi h st b hb=>by
  have e:b=it:=by simpa using hb
  subst e;obtain⟨o,e,c,d⟩:=st;exact⟨o,e,λv z=>by rw[d]at z;cases z⟩
 keep:=λi h h' st k=>st.at λo e=>k it (by simp) o e
 item:=by
  intro X hP hw hK hc i pins s σ H E I hf st hg;subst hP hw hK;obtain⟨xs,x,hq,hx⟩:=hg;obtain⟨its,rv,p,hz⟩:=I.list hq;obtain⟨u,hu,ru⟩:=rv.get hx;obtain⟨f0,f1,f2,f3,f4,f5⟩:=hf it (by simp);refine wpAny_pyNext_list_item st p.isList (x:=u) (by simpa using hu) λh' st' sb=>?_
  have I1   :=I.turned (t':=s.toks) (λb o hb e=>(sb.2 b hb).trans e) f0 f1 f3 f4 f5;obtain⟨o,e,c,d⟩:=id st';exact⟨u,rfl,Rs  e c d (by decide) ⟨x,H,I1,ru,⟨rfl,λys hy=>by rw[I.list_inj hy hq];exact hx⟩,st',λb hb=>(hf b hb).1⟩⟩
 done:=by intro X hP hw hK hc i pins s σ H E I hf st hg;subst hP hw hK;obtain⟨xs,hq,hx⟩:=hg;obtain⟨its,rv,p,hz⟩:=I.list hq;obtain⟨f0,f1,f2,f3,f4,f5⟩:=hf it (by simp);have hl:=rv.length;exact wpAny_pyNext_list_end (I.ok.hd hc) st p.isList (by simp;omega) λh' eb=>⟨rfl,I.turned (t':=s.toks) (λb o hb e=>eb b o hb e) f0 f1 f3 f4 f5⟩
 self:=λ_ _ _ _ _ st h=>wpAny_pyIter_listiter st h
def wa{P:Ul}{w:World}{K:Frag}{tg:Up}(a it:Um):Turn P w K tg (Itt K a) [it] it (λi h=>h.IsTupleIter it a i) where
 mem:=by simp
 obj:=λi h st b hb=>by
  have e:b=it:=by simpa using hb
  subst e;obtain⟨o,e,c,d⟩:=st;exact⟨o,e,λv z=>by rw[d]at z;cases z⟩
 keep:=λi h h' st k=>st.at λo e=>k it (by simp) o e
 item:=by
  intro X hP hw hK hc i pins s σ H E I hf st hg;subst hP hw hK;obtain⟨xs,x,hq,hx⟩:=hg;obtain⟨its,rv,p,hz⟩:=I.tuple hq;obtain⟨u,hu,ru⟩:=rv.get hx;obtain⟨f0,f1,f2,f3,f4,f5⟩:=hf it (by simp);refine wpAny_pyNext_tuple_item st (p) (x:=u) (by simpa using hu) λh' st' sb=>?_
  have I1   :=I.turned (t':=s.toks) (λb o hb e=>(sb.2 b hb).trans e) f0 f1 f3 f4 f5;obtain⟨o,e,c,d⟩:=id st';exact⟨u,rfl,Rs  e c d (by decide) ⟨x,H,I1,ru,⟨rfl,λys hy=>by rw[I.tuple_inj hy hq];exact hx⟩,st',λb hb=>(hf b hb).1⟩⟩
 done:=by intro X hP hw hK hc i pins s σ H E I hf st hg;subst hP hw hK;obtain⟨xs,hq,hx⟩:=hg;obtain⟨its,rv,p,hz⟩:=I.tuple hq;obtain⟨f0,f1,f2,f3,f4,f5⟩:=hf it (by simp);have hl:=rv.length;exact wpAny_pyNext_tuple_end (I.ok.hd hc) st (p) (by simp;omega) λh' eb=>⟨rfl,I.turned (t':=s.toks) (λb o hb e=>eb b o hb e) f0 f1 f3 f4 f5⟩
 self:=λ_ _ _ _ _ st h=>wpAny_pyIter_tupleiter st h
def v8{P:Ul}{w:World}{K:Frag}{tg:Up}(it:Um)(lo:Int)(n:Nat):Turn P w K tg (Itr lo n) [it] it (λi h=>IsRangeIter h it (lo+(i:Nat)*1) ((n:Int)-(i:Nat)) 1) where
 mem:=by simp
 obj:=λi h st b hb=>by
  have e:b=it:=by simpa using hb
  subst e;exact⟨_,st,λv z=>by have z'   :=z;cases z'⟩
 keep:=λi h h' st k=>k it (by simp) _ st
 item:=by
  intro X hP hw hK hc i pins s σ H E I hf st hg;subst hP hw hK;obtain⟨f0,f1,f2,f3,f4,f5⟩:=hf it (by simp);have W:=Walks.range (prog:=X.prog) (w:=X.w) (I.ok.hd hc) it lo 1 n;refine W.item i s _ _ hg st λv h' tk hv st' kk=>?_
  obtain⟨t,rfl⟩:=hv;have I1:Inv X pins σ H {s with heap:=h',toks:=tk}:=I.turned (λb o hb e=>kk b o (by simpa using hb) e) f0 f1 f3 f4 f5;refine⟨_,rfl,Rs   st' yK yK (by decide) ⟨.int (lo+i),H,I1,⟨t,?_⟩,⟨rfl,rfl⟩,st',λb hb=>(hf b hb).1⟩⟩;rw[Int.mul_one]
 done:=by intro X hP hw hK hc i pins s σ H E I hf st hg;obtain⟨f0,f1,f2,f3,f4,f5⟩:=hf it (by simp);exact wpAny_pyNext_range_end (I.ok.hd hc) st (by have:n<=i:=hg;omega) λh' eb=>⟨rfl,I.turned (t':=s.toks) (λb o hb e=>eb b o hb e) f0 f1 f3 f4 f5⟩
 self:=λ_ _ _ _ _ st h=>wpAny_pyIter_rangeiter st h
section
variable{X:Cx}{tg:Up}
def Hc  {σ:St}{H:Hp}{s}{R}{E}{lo hi:Int}{t u v:Tok}{tk:Nat}(I:Inv X pins σ H s)(h1 : -(2 ^ 62)<=lo)(h2:lo<2 ^ 62)(h3 : -(2 ^ 62)<=hi)(h4:hi<2 ^ 62)
  (q:R (Itr lo (hi-lo).toNat) H):Ur (model X.prog X.w) X.A (pyIter (.ref s.heap.objs.size)) (PIE X pins σ tg R) E {s with heap:=s.heap.push {cls:=.type "range", data:=.fields #[.int lo t,.int hi u,.int 1 v]},toks:=tk}:=by
 refine wpAny_pyIter_range (IsRange.new ..) (small_one h1 h2 h3 h4) ?_;have I1:Inv X pins σ H {s with heap:=s.heap.push {cls:=.type "range", data:=.fields #[.int lo t,.int hi u,.int 1 v]},toks:=tk}:=I.kept λb o e=>Qe _ e
 refine⟨(s.heap.push {cls:=.type "range", data:=.fields #[.int lo t,.int hi u,.int 1 v]}).objs.size,[(s.heap.push {cls:=.type "range", data:=.fields #[.int lo t,.int hi u,.int 1 v]}).objs.size],_,_,H,rfl,
  I1.kept  λb o e=>Qe _ e,v8 _ lo (hi-lo).toNat,?_,λb hb=>?_,q⟩
 .have e1:lo+((0:Nat):Int)*1=lo:=by simp
  have e2:(((hi-lo).toNat:Nat):Int)-((0:Nat):Int)=Builtin.Range.rangeSize lo hi 1:=by rw[rangeSize_one];split<;>omega
  rw[e1,e2];exact Qt _ yK
 .have e:b=(s.heap.push {cls:=.type "range", data:=.fields #[.int lo t,.int hi u,.int 1 v]}).objs.size:=by simpa using hb
  subst e;exact I1.fpOk (Qo _) (I1.hok.fresh (Qo _))
def Dq(ta:TA):TI:=λσ H R=>ta σ H λvs H1=>∃j:Int,vs=[.int j] /\ -(2 ^ 62)<=j/\j<2 ^ 62/\R (Itr 0 j.toNat) H1
def Dp(ta:TA):TI:=λσ H R=>ta σ H λvs H1=>∃i j:Int,vs=[.int i,.int j]/\(-(2 ^ 62)<=i/\i<2 ^ 62 /\ -(2 ^ 62)<=j/\j<2 ^ 62)/\R (Itr i (j-i).toNat) H1
def vg    (hg:Gl X "range")(hm:X.mg "range" = yL)(ha:PA X [a] ta)(hs:Us [a] X.env=[(yN,eval a X.env)]:=by rfl):PI X tg (.Call (.Name "range" p) [a] [] pos) (Dq ta):=by
 intro pins s σ H R I h;refine Call_ (WS I hg hm boot_range (JQ (thn (ha pos pins s σ H _ I h) λus s1 ⟨vs,H1,I1,r1,q1⟩=>?_) hs yK));obtain⟨j,e,q1,q2,q⟩:=q1;subst e;cases r1 with
 |cons r rr=>cases rr;obtain⟨t,rfl⟩:=r;exact call_range_1 (Hc I1 (by omega) (by omega) q1 q2 (by simp_all))
def vf   {p pos}(hg:Gl X "range")(hm:X.mg "range" = yL)(ha:PA X [a,b] ta)(hs:Us [a,b] X.env=[(yN,eval a X.env),(yN,eval b X.env)]:=by rfl)(hs2:Us [b] X.env=[(yN,eval b X.env)]:=by rfl) :
  PI X tg (.Call (.Name "range" p) [a,b] [] pos) (Dp ta):=by
 intro pins s σ H R I h;refine Call_ (WS I hg hm boot_range (PyProof.Rows.callWith_type1 (thn (ha pos pins s σ H _ I h) λus s1 ⟨vs,H1,I1,r1,q1⟩=>?_) (by simp_all) (by rw[hs2];rfl)));obtain⟨i,j,e,⟨q1,q2,q3,q4⟩,q⟩:=q1;subst e;cases r1 with
 |cons r rr=>
  cases rr with
  |cons r' rr=>cases rr;obtain⟨t,rfl⟩:=r;obtain⟨t',rfl⟩:=r';exact call_range_2 (Hc I1 q1 q2 q3 q4 q)
noncomputable def tFor(wi:TI)(g:TG)(tb:TS):TS:=λD σ H=>wi σ H λJ H1=>∃W:Nat->Nat->St->Hp->Prop,(∃m,W 0 m σ H1)/\∀i m σ H,W i m σ H ->
 (J.stop i H/\D.nx σ H)∨(J.go i H/\∃N:St->Hp->Prop,(∀σ' H',N σ' H'->∃m',m'<m/\W (i+1) m' σ' H')/\∀x H',J.yld i H x H'->g x σ H' λσ2 H2=>tb {D with nx:=N,ct:=N,bk:=D.nx} σ2 H2)
noncomputable def Pc(fp:yU)(h:Heap):List (Um×Obj):=fp.filterMap λb=>(h.get? b).map λo=>(b,o)
def P8   {b}{o}(hb:b∈fp)(e:h.get? b=O o):(b,o)∈Pc fp h:=List.mem_filterMap.mpr ⟨b,hb,by simp_all⟩
def ve    (hp:p∈Pc fp h):p.1∈fp/\h.get? p.1=O p.2:=by
 obtain⟨b,hb,e⟩:=List.mem_filterMap.mp hp;cases q:h.get? b with
 |none=>simp_all
 |some o=>rw[q]at e;have e'   :=QW e;subst e';exact⟨hb,q⟩
def Inv.pinned  {σ:St}{H}{s}{fp}(I:Inv X pins σ H s)(hf:∀b∈fp,ZC X pins H b)(ho:∀b∈fp,∃o,s.heap.get? b=O o/\∀v,o.data≠.cell v):Inv X (pins++Pc fp s.heap) σ H s:=
 I.pins_of λp hp=>(QO.mp hp).elim (λz=>I.pin p (QX _ z)) λz=>by obtain⟨hb,e⟩:=ve z;obtain⟨f0,f1,f2,_⟩:=hf p.1 hb;obtain⟨o,e',d⟩:=ho p.1 hb;rw[e]at e';cases e';exact⟨e,f0,f1,f2,d⟩
def Inv.unpinned  {σ:St}{H}{s}(I:Inv X (pins++pl) σ H s):Inv X pins σ H s:=I.pins_of λp hp=>I.pin p (QX _ (JK _ hp))
def MV{iter:Up}{body:List Stmt}{wi:TI}{g:TG}{tb:TS}{pos:Pos}(hp:PassesOwn (model X.prog X.w) X.A X.env X.xe)(hc:X.calm=yM)(hi:PI X tg iter wi)(hg:PG X tg g)(hb:PSs X body tb)
  (hs:∀x,UI iter X.env x=pure x:=by intro _;rfl):PS X (.For tg iter body [] pos) (tFor wi g tb):=by
 intro pins s σ H D I h;refine wpAny_For (thn (hi pins s σ H _ I h) λv s1 h1=>thn h1 λitv s2 h2=>?_) hs;obtain⟨it,fp,tn,J,H2,e,I2,T,st2,f2,W,⟨m0,w0⟩,turn⟩:=h2;subst e;have stat:∀{H':Hp},(∀b∈fp,H' b=yL)->∀b∈fp,ZC X pins H' b:=λhn b hb=>⟨hn b hb,(f2 b hb).2⟩;refine codeAny_forLoop_any (λn s'=>∃i σ' H',Inv X pins σ' H' s'/\tn i s'.heap/\(∀b∈fp,H' b=yL)/\W i n σ' H') ?_ m0 ⟨0,σ,H2,I2,st2,λb hb=>(f2 b hb).1,w0⟩;rintro n s3 ⟨i,σ3,H3,I3,st3,fr3,w3⟩;rcases turn i n σ3 H3 w3 with ⟨stop,qn⟩|⟨go,N,hN,step⟩
 .refine Jq hp (thn (T.done X yK yK yK hc i pins s3 σ3 H3 X.xe I3 (stat fr3) st3 stop) λr s4 ⟨hr,I4⟩=>?_)
  subst hr;exact JG ⟨σ3,H3,I4,qn⟩
 .refine Jq hp (thn (T.item X yK yK yK hc i pins s3 σ3 H3 X.xe I3 (stat fr3) st3 go) λr s4 ⟨u,hr,h4⟩=>?_)
  subst hr;refine Jq hp (thn h4 λ_ s5 ⟨x,H5,I5,r5,y5,zZ,fr5⟩=>?_);have I5':=I5.pinned (stat fr5) (T.obj _ _ zZ);refine Jq hp (thn (hg _ s5 σ3 H5 x u _ I5' r5 (step x H5 y5)) λ_ s6 ⟨σ6,H6,I6,q6⟩=>?_);refine Jq hp (thn (hb _ s6 σ6 H6 _ I6 q6) λf s7 q7=>?_);have again:∀{σ7:St}{H7:Hp},Inv X _ σ7 H7 s7->N σ7 H7->∃m,m<n/\∃i σ' H',Inv X pins σ' H' s7/\tn i s7.heap/\(∀b∈fp,H' b=yL)/\W i m σ' H':=λ{σ7 H7} I7 n7=>by obtain⟨m',hm,w7⟩:=hN σ7 H7 n7;refine⟨m',hm,i+1,σ7,H7,I7.unpinned,T.keep _ _ _ zZ λb hb o e=>(I7.pin (b,o) (QX _ (QX _ (P8 hb e)))).1,λb hb=>?_,w7⟩;obtain⟨o,e,d⟩:=T.obj _ _ zZ b hb;exact(I7.pin (b,o) (QX _ (QX _ (P8 hb e)))).2.1
  cases f with
  |next=>obtain⟨σ7,H7,I7,n7⟩:=q7;exact again I7 n7
  |cont=>obtain⟨σ7,H7,I7,n7⟩:=q7;exact again I7 n7
  |brk=>obtain⟨σ7,H7,I7,q7⟩:=q7;exact⟨σ7,H7,I7.unpinned,q7⟩
  |ret v=>obtain⟨x7,σ7,H7,I7,r7,q7⟩:=q7;exact⟨x7,σ7,H7,I7.unpinned,r7,q7⟩
end
abbrev R2:=V->V->Hp->VK->Prop
def OpR(X:Cx)(f:Uj->Uj->Sem Uj)(r:R2):Prop:=
 ∀(pins:List (Um×Obj))(s:Uk)(σ:St)(H:Hp)(x y:V)(v u:Uj)(Q:VK),Inv X pins σ H s->RelV x v->RelV y u->r x y H Q ->
  Ur (model X.prog X.w) X.A (f v u) (EP X pins σ Q) X.xe s
def UnR(X:Cx)(f:Uj->Sem Uj)(r:V->Hp->VK->Prop):Prop:=
 ∀(pins:List (Um×Obj))(s:Uk)(σ:St)(H:Hp)(x:V)(v:Uj)(Q:VK),Inv X pins σ H s->RelV x v->r x H Q ->
  Ur (model X.prog X.w) X.A (f v) (EP X pins σ Q) X.xe s
def YD(X:Cx)(f:Uj)(r:List V->Hp->VK->Prop):Prop:=
 ∀(pins:List (Um×Obj))(s:Uk)(σ:St)(H:Hp)(xs:List V)(us:yR)(Q:VK),Inv X pins σ H s->Vals xs us->r xs H Q ->
  Ur (model X.prog X.w) X.A (call f us) (EP X pins σ Q) X.xe s
def tOp(r:R2)(ta tb:TE):TE:=λσ H Q=>ta σ H λx H1=>tb σ H1 λy H2=>r x y H2 Q
def tUn(r:V->Hp->VK->Prop)(ta:TE):TE:=λσ H Q=>ta σ H λx H1=>r x H1 Q
def rI(C:Int->Int->Prop)(g:Int->Int->V):R2:=λx y H Q=>∃i j,x=.int i/\y=.int j/\C i j/\Q (g i j) H
def rI0(g:Int->Int->V):R2:=λx y H Q=>∃i j,x=.int i/\y=.int j/\Q (g i j) H
def rU(g:Int->V):V->Hp->VK->Prop:=λx H Q=>∃i,x=.int i/\Q (g i) H
section
variable{X:Cx}{a b c:Up}{ta tb tc:TE}{pos:Pos}
def Sb(ha:PE X a ta)(hb:PE X b tb){pins}{s}{σ:St}{H}{R:V->V->Hp->Prop}(I:Inv X pins σ H s)
  (h:ta σ H λx H1=>tb σ H1 λy H2=>R x y H2) {Q} {f:Uj->Uj->Sem Uj}
  (hf:∀v u s2 x y H2,Inv X pins σ H2 s2->RelV x v->RelV y u->R x y H2->Ur (model X.prog X.w) X.A (f v u) Q X.xe s2) :
  Ur (model X.prog X.w) X.A (eval a X.env) (λv s₁=>Ur (model X.prog X.w) X.A (eval b X.env) (λu s₂=>Ur (model X.prog X.w) X.A (f v u) Q X.xe s₂) X.xe s₁) X.xe s:=by
 refine thn (ha pins s σ H _ I h) λv s1 ⟨x,H1,I1,r1,q1⟩=>?_;refine thn (hb pins s1 σ H1 _ I1 q1) λu s2 ⟨y,H2,I2,r2,q2⟩=>?_;exact hf v u s2 x y H2 I2 r1 r2 q2
def Mi   (ho:OpR X (binaryOp op) r)(ha:PE X a ta)(hb:PE X b tb):PE X (.BinOp a op b pos) (tOp r ta tb):=by intro pins s σ H Q I h;exact wpAny_BinOp (Sb ha hb I h λv u s2 x y H2 I2 rx ry q=>ho pins s2 σ H2 x y v u Q I2 rx ry q)
def Do   (ho:UnR X (unaryOp op) r)(ha:PE X a ta):PE X (.UnaryOp op a pos) (tUn r ta):=by intro pins s σ H Q I h;exact UnaryOp_ (thn (ha pins s σ H _ I h) λv s1 ⟨x,H1,I1,r1,q1⟩=>ho pins s1 σ H1 x v Q I1 r1 q1)
def opI  {C}{g:Int->Int->Int}
  (rule:∀(i j)(t u)(s)(Q)(E),C i j->Q (.int (g i j) s.toks) {s with toks:=s.toks+1}->Ur (model X.prog X.w) X.A (f (.int i t) (.int j u)) Q E s) :
  OpR X f (rI C λi j=>.int (g i j)):=by
 intro pins s σ H x y v u Q I rx ry h;obtain⟨i,j,rfl,rfl,hc,q⟩:=h;obtain⟨t,rfl⟩:=rx;obtain⟨t',rfl⟩:=ry;exact rule i j t t' s _ _ hc ⟨.int _,H,I.tok _,⟨_,rfl⟩,q⟩
def opI0  {g:Int->Int->Int}
  (rule:∀(i j)(t u)(s)(Q)(E),Q (.int (g i j) s.toks) {s with toks:=s.toks+1}->Ur (model X.prog X.w) X.A (f (.int i t) (.int j u)) Q E s) :
  OpR X f (rI0 λi j=>.int (g i j)):=by
 intro pins s σ H x y v u Q I rx ry h;obtain⟨i,j,rfl,rfl,q⟩:=h;obtain⟨t,rfl⟩:=rx;obtain⟨t',rfl⟩:=ry;exact rule i j t t' s _ _ ⟨.int _,H,I.tok _,⟨_,rfl⟩,q⟩
def W6  {g:Int->Int->Bool}
  (rule:∀(i j)(t u)(s)(Q)(E),Q (.bool (g i j)) s->Ur (model X.prog X.w) X.A (f (.int i t) (.int j u)) Q E s) :
  OpR X f (rI0 λi j=>.bl (g i j)):=by
 intro pins s σ H x y v u Q I rx ry h;obtain⟨i,j,rfl,rfl,q⟩:=h;obtain⟨t,rfl⟩:=rx;obtain⟨t',rfl⟩:=ry;exact rule i j t t' s _ _ ⟨.bl _,H,I,rfl,q⟩
def CPow(i j:Int):Prop:=0<=j/\j<=1000000/\i.natAbs<2 ^ 64
def CMul(i j:Int):Prop:=(-(2 ^ 64)<i/\i<2 ^ 64)∨(-(2 ^ 64)<j/\j<2 ^ 64)
def CMul.ok  (h:CMul i j):IntMulOk i j:=by
 rcases h with ⟨h1,h2⟩|⟨h1,h2⟩
 .exact .of_left (intBits_le_64 h1 h2)
 .exact .of_right (intBits_le_64 h1 h2)
def Bk:OpR X (binaryOp .Add) (rI0 λi j=>.int (i+j)):=opI0 λ_ _ _ _ _ _ _ q=>add_int q
def Bj:OpR X (binaryOp .Sub) (rI0 λi j=>.int (i-j)):=opI0 λ_ _ _ _ _ _ _ q=>sub_int q
def Bh:OpR X (binaryOp .Mult) (rI CMul λi j=>.int (i*j)):=opI λ_ _ _ _ _ _ _ hc q=>mul_int q hc.ok
def Bg:OpR X (binaryOp .Mod) (rI (λ_ j=>0<j) λi j=>.int (i % j)):=opI λi j _ _ _ _ _ hc q=>by exact mod_int' (by omega) (by rw[Int.fmod_eq_emod_of_nonneg i (by omega)];exact q)
def BI:OpR X (binaryOp .Pow) (rI CPow λi j=>.int (i ^ j.toNat)):=opI λ_ _ _ _ _ _ _ hc q=>pow_int_small hc.1 hc.2.1 hc.2.2 q
def A5:OpR X (inplaceOp .Mult) (rI CMul λi j=>.int (i*j)):=opI λ_ _ _ _ _ _ _ hc q=>imul_int q hc.ok
def unI  {g:Int->Int}
  (rule:∀(i)(t)(s)(Q)(E),Q (.int (g i) s.toks) {s with toks:=s.toks+1}->Ur (model X.prog X.w) X.A (f (.int i t)) Q E s) :
  UnR X f (rU λi=>.int (g i)):=by
 intro pins s σ H x v Q I rx h;obtain⟨i,rfl,q⟩:=h;obtain⟨t,rfl⟩:=rx;exact rule i t s _ _ ⟨.int _,H,I.tok _,⟨_,rfl⟩,q⟩
def BH:UnR X (unaryOp .USub) (rU λi=>.int (-i)):=unI λ_ _ _ _ _ q=>neg_int q
end
section
variable{X:Cx}{a b c:Up}{ta tb tc:TE}{pos:Pos}
def MU  {σ:St}{H}{s}{Q}{k k'}(I:Inv X pins σ H s)(q:Q (.bl k) H)(e:k=k'):EP X pins σ Q (.bool k') s:=by subst e;exact⟨.bl k,H,I,rfl,q⟩
def Dm:OpR X (Ut .Lt) (rI0 λi j=>.bl (decide (i<j))):=W6 λ_ _ _ _ _ _ _ q=>lt_int q
def Dl:OpR X (Ut .LtE) (rI0 λi j=>.bl (decide (i<=j))):=W6 λ_ _ _ _ _ _ _ q=>le_int q
def DW:OpR X (Ut .Gt) (rI0 λi j=>.bl (decide (j<i))):=W6 λ_ _ _ _ _ _ _ q=>gt_int q
def DV:OpR X (Ut .GtE) (rI0 λi j=>.bl (decide (j<=i))):=W6 λ_ _ _ _ _ _ _ q=>ge_int q
def vd:OpR X (Ut .In) (λx y H Q=>∃i j,x=.str i/\y=.str j/\Q (.bl (!(Builtin.Str.occurrences j i 0 j.length 1).isEmpty)) H):=by intro pins s σ H x y v u Q I rx ry h;obtain⟨i,j,rfl,rfl,q⟩:=h;obtain⟨t,rfl⟩:=rx;obtain⟨t',rfl⟩:=ry;exact in_str (MU I q yK)
def yo:OpR X (Ut .NotIn) (λx y H Q=>∃i j,x=.str i/\y=.str j/\Q (.bl (!(!(Builtin.Str.occurrences j i 0 j.length 1).isEmpty))) H):=by intro pins s σ H x y v u Q I rx ry h;obtain⟨i,j,rfl,rfl,q⟩:=h;obtain⟨t,rfl⟩:=rx;obtain⟨t',rfl⟩:=ry;exact notIn_str (MU I q yK)
def OpR.or   (h:OpR X f r)(h':OpR X f r'):OpR X f (λx y H Q=>r x y H Q∨r' x y H Q):=by
 intro pins s σ H x y v u Q I rx ry q;rcases q with q|q
 .exact h pins s σ H x y v u Q I rx ry q
 .exact h' pins s σ H x y v u Q I rx ry q
def BG(b){op}(h:op≠.In:=by decide)(h2:op≠.NotIn:=by decide):behindInMarks op b=yN:=by
 have e1:(op==CmpOp.In)=yN:=by lia
 have e2:(op==CmpOp.NotIn)=yN:=by lia
 cases b<;>simp[behindInMarks,e1,e2]
def LR   (ho:OpR X (Ut op) r)(ha:PE X a ta)(hb:PE X b tb)(hm:behindInMarks op b=yN):PE X (.Compare a [op] [b] pos) (tOp r ta tb):=by intro pins s σ H Q I h;exact wpAny_Compare1 (Sb ha hb I h λv u s2 x y H2 I2 rx ry q=>ho pins s2 σ H2 x y v u Q I2 rx ry q) hm
def Mq(t:TE):TT:=λσ H Q=>t σ H λx H'=>∃k,x=.bl k/\Q k H'
def OU   (ho:OpR X (Ut op) r)(ha:PE X a ta)(hb:PE X b tb)(hm:behindInMarks op b=yN):PT X (.Compare a [op] [b] pos) (Mq (tOp r ta tb)):=by
 intro pins s σ H Q I h
 refine wpAny_isTrue_Compare1 (thn (ha pins s σ H _ I h) λv s1 ⟨x,H1,I1,r1,q1⟩=>thn (hb pins s1 σ H1 _ I1 q1) λu s2 ⟨y,H2,I2,r2,q2⟩=>
  thn (ho pins s2 σ H2 x y v u _ I2 r1 r2 q2) λc s3 ⟨z,H3,I3,r3,k,e,q3⟩=>?_) hm
 subst e;cases r3;exact Q2 ⟨H3,I3,q3⟩
def MT(r r':R2)(ta tb tc:TE):TE:=λσ H Q=>ta σ H λx H1=>tb σ H1 λy H2=>r x y H2 λz H3=>∃k,z=.bl k /\
 (if k=yM then tc σ H3 λw' H4=>r' y w' H4 Q else Q (.bl yN) H3)
def kR  {r r'}(ho:OpR X (Ut op) r)(ho':OpR X (Ut op') r')(ha:PE X a ta)(hb:PE X b tb)(hc:PE X c tc)
  (hm:lastMarks [op,op'] [b,c]=yN:=by with_unfolding_all rfl):PE X (.Compare a [op,op'] [b,c] pos) (MT r r' ta tb tc):=by
 intro pins s σ H Q I h
 refine Compare_chain (thn (ha pins s σ H _ I h) λv s1 ⟨x,H1,I1,r1,q1⟩=>chain_link (thn (hb pins s1 σ H1 _ I1 q1) λu s2 ⟨y,H2,I2,r2,q2⟩=>
  thn (ho pins s2 σ H2 x y v u _ I2 r1 r2 q2) λd s3 ⟨z,H3,I3,r3,k,e,q3⟩=>?_)) hm
 subst e;cases r3;refine Q2 ?_;cases k with
 |false=>exact ite_ff ⟨.bl yN,H3,I3,rfl,q3⟩
 |true=>exact ite_tt (chain_last (thn (hc pins s3 σ H3 _ I3 q3) λw' s4 ⟨z',H4,I4,r4,q4⟩=>ho' pins s4 σ H4 y z' u w' Q I4 r2 r4 q4))
def kQ  {r r'}(ho:OpR X (Ut op) r)(ho':OpR X (Ut op') r')(ha:PE X a ta)(hb:PE X b tb)(hc:PE X c tc)
  (hm:lastMarks [op,op'] [b,c]=yN:=by with_unfolding_all rfl):PT X (.Compare a [op,op'] [b,c] pos) (Mq (MT r r' ta tb tc)):=by
 intro pins s σ H Q I h
 refine isTrue_chain (thn (ha pins s σ H _ I h) λv s1 ⟨x,H1,I1,r1,q1⟩=>test_link (thn (hb pins s1 σ H1 _ I1 q1) λu s2 ⟨y,H2,I2,r2,q2⟩=>
  thn (ho pins s2 σ H2 x y v u _ I2 r1 r2 q2) λd s3 ⟨z,H3,I3,r3,k,e,q3⟩=>?_)) hm
 subst e;cases r3;refine Q2 ?_;cases k with
 |false=>obtain⟨k',e',q'⟩:=q3;cases e';exact ite_ff ⟨H3,I3,q'⟩
 |true=>refine ite_tt (test_last (thn (hc pins s3 σ H3 _ I3 q3) λw' s4 ⟨z',H4,I4,r4,q4⟩=>thn (ho' pins s4 σ H4 y z' u w' _ I4 r2 r4 q4) λd' s5 ⟨z2,H5,I5,r5,k2,e2,q5⟩=>?_));subst e2;cases r5;exact Q2 ⟨H5,I5,q5⟩
def OB:(Uq:Nat)<2 ^ 63:=by rw[Jn];decide
def v7:OpR X (binaryOp .Add) (λx y H Q=>∃i j,x=.str i/\y=.str j/\i.length+j.length<=Uq/\Q (.str (i++j)) H):=by intro pins s σ H x y v u Q I rx ry h;obtain⟨i,j,rfl,rfl,hz,q⟩:=h;obtain⟨t,rfl⟩:=rx;obtain⟨t',rfl⟩:=ry;exact add_str (λt' tk=>⟨.str _,H,I.tok _,⟨_,rfl⟩,q⟩) hz
def Rj   (r:Vals [x] us):∃u,us=[u]/\RelV x u:=by
 cases r with
 |cons r1 r2=>cases r2;exact⟨_,rfl,r1⟩
def Op   (r:Vals [x,y] us):∃u w',us=[u,w']/\RelV x u/\RelV y w':=by
 cases r with
 |cons r1 r2=>
  cases r2 with
  |cons r3 r4=>cases r4;exact⟨_,_,rfl,r1,r3⟩
def vc(hc:X.calm=yM):YD X (.builtin "max") (λxs H Q=>∃i j,xs=[.int i,.int j]/\Q (.int (if j > i then j else i)) H):=by
 intro pins s σ H xs us Q I r h;obtain⟨i,j,rfl,q⟩:=h;obtain⟨u,w',rfl,⟨t,rfl⟩,⟨t',rfl⟩⟩:=Op r;refine max_two_ints (I.ok.hd hc) λh' tk k=>⟨_,H,I.kept k,?_,q⟩
 by_cases hj:j > i
 .rw[Qp hj,Qp hj];exact⟨_,rfl⟩
 .rw[QH hj,QH hj];exact⟨_,rfl⟩
def vb:YD X (.type "int") (λxs H Q=>(∃i,xs=[.int i]/\Q (.int i) H) ∨ ∃k,xs=[.bl k]/\Q (.int (if k then 1 else 0)) H):=by
 intro pins s σ H xs us Q I r h;rcases h with ⟨i,rfl,q⟩|⟨k,rfl,q⟩
 .obtain⟨u,rfl,t,rfl⟩:=Rj r
  exact call_int_int ⟨.int i,H,I,⟨_,rfl⟩,q⟩
 .obtain⟨u,rfl,r1⟩:=Rj r
  cases r1;exact call_int_bool ⟨.int _,H,I.tok _,⟨_,rfl⟩,q⟩
def LenV(K:Frag)(x:V)(H:Hp)(n:Nat):Prop:=
 match x with
 |.str y=>y.length<=Uq/\n=y.length
 |.byt y=>y.size<=Uq/\n=y.size
 |.ref p=>(∃xs,SqL K H p xs/\n=xs.length) ∨ ∃xs,SqT K H p xs/\n=xs.length
 |_=>False
def Hb:YD X (.builtin "len") (λxs H Q=>∃x n,xs=[x]/\LenV X.K x H n/\Q (.int n) H):=by
 intro pins s σ H xs us Q I r h;obtain⟨x,n,rfl,e,q⟩:=h;obtain⟨u,rfl,rx⟩:=Rj r;have hs   :=Jn;cases x with
 |str y=>obtain⟨t,rfl⟩:=rx;obtain⟨hy,e'⟩:y.length<=Uq/\n=y.length:=e;subst e';exact len_str (by omega) ⟨.int _,H,I.tok _,⟨_,rfl⟩,q⟩
 |byt y=>obtain⟨t,rfl⟩:=rx;obtain⟨hy,e'⟩:y.size<=Uq/\n=y.size:=e;subst e';exact PySem.W.len_bytes (by omega) ⟨.int _,H,I.tok _,⟨_,rfl⟩,q⟩
 |ref p=>
  cases rx;have e'   :=e;rcases e' with ⟨xs,hx,e'⟩|⟨xs,hx,e'⟩
  .subst e'
   obtain⟨its,r',pl,hz⟩:=I.list hx;have hlen:=r'.length;exact Calls.call_len_list pl.isList (by simp only[Q4];omega) ⟨.int xs.length,H,I.tok _,⟨_,by simp only[Q4];rw[hlen]⟩,q⟩
  .subst e'
   obtain⟨its,r',pl,hz⟩:=I.tuple hx;have hlen:=r'.length;exact len_tuple pl (by simp only[Q4];omega) ⟨.int xs.length,H,I.tok _,⟨_,by simp only[Q4];rw[hlen]⟩,q⟩
 |_=>exact(e).elim
end
noncomputable def ZS(f:Str)(v:V):List (Str×V)->List (Str×V)
 |[]=>[(f,v)]
 |(g,x)::r=>if g=f then(g,v)::r else(g,x)::ZS f v r
theorem NQ(f g:Str)(v:V):∀fs:List (Str×V),(ZS f v fs).lookup g=if g=f then O v else fs.lookup g
 |[]=>by
  show List.lookup g [(f,v)]=_;by_cases h:g=f
  .have hb   :=beq_iff_eq.mpr h
   simp only[List.lookup,hb,Qp h]
  .have hb   :=beq_eq_false_iff_ne.mpr h
   simp only[List.lookup,hb,QH h]
 |(k,x)::r=>by
  have ih:=NQ f g v r;rw[show ZS f v _=(if k=f then(k,v)::r else(k,x)::ZS f v r)from rfl];by_cases hk:k=f
  .rw[Qp hk]
   by_cases h:g=k
   .have hb   :=beq_iff_eq.mpr h
    simp only[List.lookup,hb,Qp (h.trans hk)]
   .have hb   :=beq_eq_false_iff_ne.mpr h
    simp only[List.lookup,hb,QH (λe:g=f=>h (e.trans hk.symm))]
  .rw[QH hk]
   by_cases h:g=k
   .have hb   :=beq_iff_eq.mpr h
    simp only[List.lookup,hb,QH (λe:g=f=>hk (h.symm.trans e))]
   .have hb   :=beq_eq_false_iff_ne.mpr h
    simp only[List.lookup,hb];exact ih
theorem Nv(f)(v):∀fs:List (Str×V),f∈(ZS f v fs).map (·.1)/\∀g,g∈fs.map (·.1)->g∈(ZS f v fs).map (·.1)
 |[]=>⟨by simp[ZS],λg h=>by simp_all⟩
 |(k,x)::r=>by
  obtain⟨i1,i2⟩:=Nv f v r;rw[show ZS f v _=(if k=f then(k,v)::r else(k,x)::ZS f v r)from rfl];by_cases hk:k=f
  .grind
  .rw[QH hk]
   refine⟨?_,λg h=>?_⟩
   .exact Qm _ i1
   .rcases Qs.mp h with e|e
    .exact List.mem_cons.mpr (.inl e)
    .exact Qm _ (i2 g e)
def RelO.some_of   (r:RelO (O v) o):∃u,o=O u/\RelV v u:=by
 cases o with
 |none=>exact(r).elim
 |some u=>exact⟨u,rfl,r⟩
section
variable{X:Cx}{pins:List (Um×Obj)}{σ:St}{H:Hp}{s:Uk}{a C dx:Um}{fs:List (Str×V)}{f:Str}{v:V}{A:Around}{E:Uj->Uk->Prop}
def A4   {env}{e}{f}{pos}{s}{Q}(hb:attributeBase e f env (eval e env)=eval e env)
  (h:Ur (model prog w) A (eval e env) (λo s₁=>Ur (model prog w) A (getAttr o f yM) Q E s₁) E s):Ur (model prog w) A (eval (.Attribute e f pos) env) Q E s:=
 Attribute_any_ h (by rw[arm_eval_Attribute,hb])
end
structure Room(k:Nat)(A:Around):Prop where
 hd:A.handled=yL
 dp:A.depth+3*k+5<recursionLimit
 un:A.units+16*k+200<cLine
 gd:A.guards=O []
def Room.mono{j k}{A}(r:Room k A)(h:j<=k):Room j A:=⟨r.hd,by have:=r.dp;omega,by have:=r.un;omega,r.gd⟩
def Room.deeper   (r:Room (k+1) A)(env):Room k (A.deeper env):=
 ⟨r.hd,by have:=r.dp;show A.depth+1+3*k+5<_;omega,by have:=r.un;show A.units+3+16*k+200<_;omega,r.gd⟩
def v6{A:Around}{C}{us}{kw}:(A.under (.builtin "type.__call__" ⟨.ref C::us,kw⟩)).depth=A.depth+1:=by
 first|rfl|lia
def v5{A:Around}{C}{us}{kw}:(A.under (.builtin "type.__call__" ⟨.ref C::us,kw⟩)).units=A.units+1:=by
 first|rfl|lia
def Room.make   (r:Room (k+1) A)(C)(us)(kw):Room k (A.under (.builtin "type.__call__" ⟨.ref C::us,kw⟩)):=
 ⟨r.hd,by have:=r.dp;rw[v6];omega,by have:=r.un;rw[v5];omega,(by first|exact r.gd|(exact r.gd))⟩
def Room.depth{k:Nat}{A:Around}(r:Room k A):A.depth<recursionLimit:=by have:=r.dp;omega
def Room.units{k:Nat}{A:Around}(r:Room k A):A.units+64<cLine:=by have:=r.un;omega
def tNil:TA:=λ_ H Q=>Q [] H
def DU(ta:TE)(tr:TA):TA:=λσ H Q=>ta σ H λx H1=>tr σ H1 λxs H2=>Q (x::xs) H2
section
variable{X:Cx}{e:Up}{es:yS}{te:TE}{t:TA}{pos:Pos}
def Xo:PA X [] tNil:=λ_ _ _ _ H Q I h=>Calls.spliced_nil ⟨[],H,I,.nil,h⟩
def Yd(ha:PE X e te)(hr:PA X es t)(hs:Us (e::es) X.env=(yN,eval e X.env)::Us es X.env:=by rfl):PA X (e::es) (DU te t):=by intro pos pins s σ H Q I h;rw[hs];refine Calls.spliced_cons (thn (ha pins s σ H _ I h) λu s1 ⟨x,H1,I1,r1,q1⟩=>?_);exact thn (hr pos pins s1 σ H1 _ I1 q1) λus s2 ⟨xs,H2,I2,r2,q2⟩=>⟨x::xs,H2,I2,.cons r1 r2,q2⟩
def tTup(t:TA):TE:=λσ H Q=>t σ H λxs H1=>xs.length<=Uq/\∀p,H1 p=yL->Q (.ref p) (upd H1 p (.tup xs))
def tLst(t:TA):TE:=λσ H Q=>t σ H λxs H1=>xs.length<=Uq/\∀p,H1 p=yL->Q (.ref p) (upd H1 p (.lst xs))
def OA  (h:PA X es t):PE X (.Tuple es x1 pos) (tTup t):=by intro pins s σ H Q I hq;refine wpAny_Tuple_spliced (thn (h pos pins s σ H _ I hq) λus s1 ⟨xs,H1,I1,r,z,q⟩=>⟨by rw[←r.length];exact z,?_⟩);have hf   :=I1.hok.fresh (Qo _);refine⟨.ref s1.heap.objs.size,upd H1 s1.heap.objs.size _,I1.laid  (λb u e=>Qe _ e) (Qo _) ?_,rfl,q _ hf⟩;exact⟨z,us,r,⟨_,Qt _ yK,rfl,_,rfl⟩⟩
def MS(h:PA X es t):PE X (.List es pos) (tLst t):=by intro pins s σ H Q I hq;refine wpAny_List_spliced (thn (h pos pins s σ H _ I hq) λus s1 ⟨xs,H1,I1,r,z,q⟩=>⟨by rw[←r.length];exact z,?_⟩);have hf   :=I1.hok.fresh (Qo _);refine⟨.ref s1.heap.objs.size,upd H1 s1.heap.objs.size _,I1.laid  (λb u e=>Qe _ e) (Qo _) ?_,rfl,q _ hf⟩;exact⟨z,us,0,r,Qt _ yK⟩
end
abbrev Sp:=List V->Hp->VK->XK->Prop
abbrev CXT:=List Env->Hp->Uk->XK->Uj->Uk->Prop
structure Env0(P:Ul)(w:World)(K:Frag)(mg:Str->yT)(base:Heap)(A:Around)(outer:List Env)(s:Uk)(H:Hp):Prop where
 frames:A.frames=O outer
 mod:Mod K mg base
 bs:∀b o,base.get? b=O o->s.heap.get? b=O o/\H b=yL
 bsz:base.objs.size<=s.heap.objs.size
 funs:s.heap.FunFrames base outer
 frf:∀b∈frs outer,H b=yL
 hok:HOk P w H s.heap
 bare:AllBare s.gens
def CE(outer:List Env)(P:Ul)(w:World)(H:Hp)(s:Uk)(Q:VK)(u:Uj)(s':Uk):Prop:=
 ∃v H',s'.os=s.os/\AllBare s'.gens/\Un (frs outer) [] H H' s.heap s'.heap/\HOk P w H' s'.heap/\RelV v u/\Q v H'
def CR(CX:CXT)(outer:List Env)(P:Ul)(w:World)(H:Hp)(s:Uk)(Q:VK)(E:XK)(r:Result)(s':Uk):Prop:=
 match r with
 |.ok (.ret u)=>CE outer P w H s Q u s'
 |.ok _=>False
 |.error e=>CX outer H s E e s'
structure FnOk(P:Ul)(w:World)(K:Frag)(mg:Str->yT)(base:Heap)(CX:CXT)(k:Nat)(f:Um)(fd:Uo)(ps:List Str)(sp:Sp):Prop where
 len:∀vs H Q E,sp vs H Q E->vs.length=ps.length
 run:∀(A:Around)(outer:List Env)(s:Uk)(H:Hp)(args:Args)(us:yR)(vs:List V)(Q:VK)(E:XK),Room k A->Env0 P w K mg base A outer s H->BindsTo s fd args (ps.zip us)->Vals vs us->sp vs H Q E ->
  codeAny (model P w) A (.call (.ref f) args) (CR CX outer P w H s Q E) s
def Env0.make  {w:World}{K}{mg}{base:Heap}{A:Around}{outer:List Env}{s:Uk}{H:Hp}(e:Env0 P w K mg base A outer s H)(C:Um)(us)(kw) :
  Env0 P w K mg base (A.under (.builtin "type.__call__" ⟨.ref C::us,kw⟩)) outer s H:=⟨by first|exact e.frames|(simpa[Code.envs,Code.isFrame,pushEnvs]using e.frames),e.mod,e.bs,e.bsz,e.funs,e.frf,e.hok,e.bare⟩
section
variable{X:Cx}{pins:List (Um×Obj)}{σ:St}{H:Hp}{s s':Uk}
def Inv.env0(I:Inv X pins σ H s):Env0 X.prog X.w X.K X.mg X.base X.A X.stack s H:=
 ⟨I.ok.frames,I.ok.mod,I.bs,QE I.ok.bsz I.sz,I.stack,I.stkFree,I.hok,I.bare⟩
def Inv.after   (I:Inv X pins σ H s)(h:CE X.stack X.prog X.w H s Q u s'):EP X pins σ Q u s':=by obtain⟨v,H',os,bare,un,hok,r,q⟩:=h;obtain⟨hh,g,d,t,os'⟩:=s';obtain rfl:os'=s.os:=os;exact⟨v,H',I.call      un hok bare (λb z=>absurd z (by simp)),r,q⟩
end
def Mp(sp:Sp)(dvs:List V)(E:XK)(t:TA):TE:=λσ H Q=>t σ H λvs H1=>sp (vs++dvs) H1 Q E
def YC(K:Frag)(fd:Uo)(ps:List Str)(ds:yR):Prop:=
 ∀(s:Uk)(us:yR),K.In s.heap->(us++ds).length=ps.length->BindsTo s fd ⟨us,[]⟩ (ps.zip (us++ds))
def YC.all{K}{fd}{ps}(h:∀us:yR,us.length=ps.length->bindArgs fd ⟨us,[]⟩=pure (ps.zip us)):YC K fd ps []:=λs us _ hl=>by rw[Q3]at hl⊢;exact .of_eq (h us hl)
def Oz(CX:CXT)(X:Cx)(E:XK):Prop:=∀(pins:List (Um×Obj))(σ:St)(H:Hp)(s:Uk)(e:Uj)(s':Uk),Inv X pins σ H s->CX X.stack H s E e s'->X.xe e s'
section
variable{X:Cx}{CX:CXT}{k:Nat}{f C:Um}{fd:Uo}{ps:List Str}{sp:Sp}{dvs:List V}{ds:yR}{E:XK}{x m:Str}{p pos apos:Pos}{e o:Up}{es:yS}{ta:TE}{t:TA}
def MR  {σ:St}{H:Hp}{s:Uk}{Q:VK}{us}{vs}(F:FnOk X.prog X.w X.K X.mg X.base CX k f fd ps sp)(hr:Room k X.A)(hb:YC X.K fd ps ds)(hd:Vals dvs ds)(hx:Oz CX X E)
  (I:Inv X pins σ H s) (r:Vals vs us) (h:sp (vs++dvs) H Q E):Ur (model X.prog X.w) X.A (call (.ref f) us) (EP X pins σ Q) X.xe s:=by
 have r2   :=r.append hd;have hl:(us++ds).length=ps.length:=by rw[←r2.length];exact F.len _ _ _ _ h
 refine wpAny_call (JH (F.run X.A X.stack s H ⟨us,[]⟩ _ _ Q E hr I.env0 (hb s us I.kIn hl) r2 h) λr s' hq=>?_);cases r with
 |error e=>exact hx pins σ H s e s' I hq
 |ok fl=>
  cases fl with
  |ret u=>exact I.after hq
  |next=>exact False.elim hq
  |brk=>exact False.elim hq
  |cont=>exact False.elim hq
def LQ(F:FnOk X.prog X.w X.K X.mg X.base CX k f fd ps sp)(hr:Room k X.A)(hg:Gl X x)(hm:X.mg x=O (.ref f))(hk:PySem.W.keepIn X.K (.ref f)=yM)(hb:YC X.K fd ps ds)(hd:Vals dvs ds)(hx:Oz CX X E)
  (ha:PA X (e::es) t) (hdb:(x==("__debug__" : Str))=yN:=by decide) (he:Us (e::es) X.env=(yN,eval e X.env)::Us es X.env:=by rfl) (hpl:(backTo pos (Us es X.env)).any (·.1)=yN:=by rfl) :
  PE X (.Call (.Name x p) (e::es) [] pos) (Mp sp dvs E t):=by
 intro pins s σ H Q I h;refine Jr (VM I hg hm ?_ hdb);refine PySem.W.callWith_K  I.ok.mod.kin hk (thn (ha pos pins s σ H _ I h) λus s1 ⟨vs,H1,I1,r,q⟩=>⟨I1.kIn,?_⟩) he hpl;exact MR F hr hb hd hx I1 r q
end
structure Tf(N P:List Str)(sc:Scope):Prop where
 kind:sc.kind=.function
 co:sc.isCoroutine=yN
 gen:sc.isGenerator=yN
 nd:N.Nodup
 pre:N.take P.length=P
 par:∀x∈P,sc.names.lookup x=O .local∨sc.names.lookup x=O .cell
 nofree:∀y∈sc.names,y.2≠.free
theorem HW{kindOf}{x}:∀{binds}{m},(∀v,(x,v)∉binds)->bindL kindOf binds m x=m x
 |[],_,_=>rfl
 |(n,v)::r,m,h=>by
  unfold bindL;rw[HW λw hw=>h w (Qm _ hw)];split
  .have:x≠n:=by rintro rfl;exact h v Qn
   simp[this]
  .rfl
theorem HV{kindOf}{x}:∀{binds}{m},(∀v,(x,v)∉binds)->bindC kindOf binds m x=m x
 |[],_,_=>rfl
 |(n,v)::r,m,h=>by
  unfold bindC;rw[HV λw hw=>h w (Qm _ hw)];split
  .rfl
  .have:x≠n:=by rintro rfl;exact h v Qn
   simp[this]
theorem HU{kindOf}{x}{v}:∀{P:List Str}{vs}{i:Nat}{m},P.Nodup->P[i]?=O x->vs[i]?=O v->kindOf x=O .local ->
  bindL kindOf (P.zip vs) m x=O v
 |[],_,_,_,_,h,_,_=>by simp at h
 |_::_,[],_,_,_,_,h,_=>by simp at h
 |p::P,w::vs,0,m,nd,h1,h2,hk=>by simp at h1 h2;subst h1;subst h2;show bindL kindOf ((p,w)::P.zip vs) m p=_;unfold bindL;rw[HW λv hv=>(List.nodup_cons.mp nd).1 (Ua hv).1,Qp hk];simp
 |p::P,w::vs,i+1,m,nd,h1,h2,hk=>by unfold bindL;exact HU  (List.nodup_cons.mp nd).2 (by simpa using h1) (by simpa using h2) hk
theorem HS{kindOf}{x}{v}:∀{P:List Str}{vs}{i:Nat}{m},P.Nodup->P[i]?=O x->vs[i]?=O v->kindOf x≠O .local ->
  bindC kindOf (P.zip vs) m x=O v
 |[],_,_,_,_,h,_,_=>by simp at h
 |_::_,[],_,_,_,_,h,_=>by simp at h
 |p::P,w::vs,0,m,nd,h1,h2,hk=>by simp at h1 h2;subst h1;subst h2;show bindC kindOf ((p,w)::P.zip vs) m p=_;unfold bindC;rw[HV λv hv=>(List.nodup_cons.mp nd).1 (Ua hv).1,QH hk];simp
 |p::P,w::vs,i+1,m,nd,h1,h2,hk=>by unfold bindC;exact HS  (List.nodup_cons.mp nd).2 (by simpa using h1) (by simpa using h2) hk
noncomputable def X0(N:List Str)(vs:List V):St:=vs.map O++Uv (N.length-vs.length) yL
noncomputable def Zl(CX:CXT)(P:Ul)(w:World)(K:Frag)(mg:Str->yT)(base:Heap)(N:List Str)(qual:Str)(scope:Scope)(f:Um)(cd:Uj)(A:Around)(outer:List Env)(s:Uk)(H:Hp)(E:XK):Cx where
 prog:=P
 w:=w
 K:=K
 mg:=mg
 base:=base
 A:=A.deeper (envOfC qual scope s.heap.objs.size f cd)
 N:=N
 s₀:=s
 H₀:=H
 env:=envOfC qual scope s.heap.objs.size f cd
 outer:=outer
 stack:=envOfC qual scope s.heap.objs.size f cd::outer
 ex:=[]
 calm:=yM
 fn:=λ_=>yM
 pn:=[]
 xe:=λe s'=>Ur (model P w) (A.deeper (envOfC qual scope s.heap.objs.size f cd)) (leaving (envOfC qual scope s.heap.objs.size f cd) e) (λ_ s''=>CX outer H s E e s'') (λe' s''=>CX outer H s E e' s'') s'
def Nk{sc:Scope}{n}{x}(h:sc.names.lookup x=O .cell):∃c,(cellsFrom n sc.names []).lookup x=O c:=by have q:=PySem.W.cellsFrom_some sc.names n [] (.inl h);exact Option.isSome_iff_exists.mp q
def va{CX:CXT}{P:Ul}{w:World}{K:Frag}{mg:Str->yT}{base:Heap}{N ps:List Str}{qual:Str}{scope:Scope}{f:Um}{cd:Uj}{A:Around}{outer:List Env}{s s1:Uk}{H:Hp}{E:XK}{us:yR}{vs:List V}
  (S:Tf N ps scope) (hd:A.handled=yL) (e0:Env0 P w K mg base A outer s H) (hl:vs.length=ps.length) (r:Vals vs us)
  (x:InCallC s s.heap.objs.size (bindL (envOfC qual scope s.heap.objs.size f cd).kindOf (ps.zip us) λ_=>yL) (cellsFrom (s.heap.objs.size+1) scope.names []) (bindC (envOfC qual scope s.heap.objs.size f cd).kindOf (ps.zip us) λ_=>yL) s1) :
  Inv (Zl CX P w K mg base N qual scope f cd A outer s H E) [] (X0 N vs) H s1:=by
 have hpl:ps.length<=N.length:=by have:=Uh List.length S.pre;rw[Jk]at this;omega
 obtain⟨h1,tk,rfl,hk⟩:=x.done;have noA:∀b:Um,b∉(Zl CX P w K mg base N qual scope f cd A outer s H E).ex:=λb z=>absurd (show b∈([]:yU)from z) (by simp)
 refine⟨⟨e0.mod,S.kind,rfl,rfl,Qo _,λy z c h1 h2=>?_,λy hy=>?_,λy c _ h=>?_,λ_=>hd,Around.frames_deeper e0.frames,.inr ⟨rfl,rfl⟩,λb z=>absurd z (noA b),e0.bs,e0.bsz,λb _ _=>noA b,λb z=>absurd z (noA b),e0.funs,e0.frf⟩,
  rfl,e0.bare,Un.kept hk,⟨_,x.toInCall.ns,λi y v h1 h2 h3=>?_⟩,λy c h=>⟨_,x.cell y c h⟩,e0.hok.fresh (Nat.le_refl _),λy c h=>?_,λp hp=>absurd (show p∈([]:List (Um×Obj))from hp) (by simp),e0.hok.kept hk,?_⟩
 .exact name_of_addr x.apart (Q8 h1) (Q8 h2)
 .rcases hy with hy|hy
  .exact Nk hy
  .exact absurd yK (S.nofree _ (Q8 hy))
 .exact Ue (x.above y c (Q8 h))
 .have hi:i<vs.length:=by
   unfold X0 at h2;by_cases hi:i<vs.length
   .exact hi
   .rw[List.getElem?_append_right (by simpa using hi)]at h2
    rw[QC]at h2;split at h2<;>cases h2
  have ha:vs[i]?=O v:=by
   unfold X0 at h2;rw[List.getElem?_append_left (by simpa using hi),List.getElem?_map]at h2;cases e:vs[i]? with
   |none=>rw[e]at h2;cases h2
   |some a=>rw[e]at h2;cases h2;rfl
  obtain⟨u,hu,rv⟩:=r.get ha;have hp:ps[i]?=O y:=by rw[←S.pre,List.getElem?_take_of_lt (by omega)];exact h1
  have ndP:ps.Nodup:=by rw[←S.pre];exact S.nd.sublist (List.take_sublist _ _)
  refine⟨u,rv,?_⟩;rcases S.par y (Qr hp)with k|k
  .exact .inl ⟨k,HU ndP hp hu k⟩
  .obtain⟨c,e⟩:=Nk  k
   refine .inr ⟨.inl k,c,e,?_⟩;have q:=x.cell y c e;rw[HS ndP hp hu (by show scope.names.lookup y≠_;rw[k];decide)]at q;exact q
 .exact e0.hok.fresh (Ue (x.above y c (Q8 h)))
 .unfold X0
  show _=N.length;rw[Qj,Qd,QB];omega
def Mo{CX:CXT}{P:Ul}{w:World}{K:Frag}{mg}{base:Heap}{k:Nat}{f:Um}{name qual:Str}{params:Arguments}{body:List Stmt}{scope:Scope}{dV kV doc pm cdv ct oc:Uj}{an od:yY}
  {osl} {N ps:List Str} {sp:Sp} (lk:K.lookup f=O ⟨oc,od,.func (PySem.W.fnOf name qual params body scope dV kV doc pm an cdv ct),osl⟩) (hcd:PySem.W.codeIn K cdv qual=yM) (S:Tf N ps scope)
  (len:∀vs H Q E,sp vs H Q E->vs.length=ps.length)
  (hbody:∀(A:Around)(outer:List Env)(s:Uk)(H:Hp)(vs:List V)(Q:VK)(E:XK),Room k (A.deeper (envOfC qual scope s.heap.objs.size f cdv))->sp vs H Q E ->
   ∃t,PSs (Zl CX P w K mg base N qual scope f cdv A outer s H E) body t/\t {nx:=λ_ H'=>Q .non H',rt:=Q} (X0 N vs) H) :
  FnOk P w K mg base CX (k+1) f (PySem.W.fnOf name qual params body scope dV kV doc pm an cdv ct) ps sp:=by
 refine⟨len,λA outer s H args us vs Q E hr e0 hb r aw=>?_⟩;have hl:=len _ _ _ _ aw;have KX:K.In s.heap:=e0.mod.kin.keeps λb o e=>(e0.bs b o e).1;have lim:s.heap.NoLimit:=e0.mod.nolimit.keeps λb o e=>(e0.bs b o e).1
 have hkind:∀y∈ps.zip us,scope.names.lookup y.1=O .local∨(scope.names.lookup y.1=O .cell/\((cellsFrom (s.heap.objs.size+1) scope.names []).lookup y.1).isSome=yM):=λ⟨n,v⟩ hy=>by
  rcases S.par n (Ua hy).1 with q|q
  .exact .inl q
  .exact .inr ⟨q,PySem.W.cellsFrom_some _ _ _ (.inl q)⟩
 refine codeAny_call_function hr.depth (KX _ _ lk) yK S.co S.gen yK (PySem.W.codeRec_of KX hcd) (hb _ _ _ _ ?_);refine wpAny_newFunctionEnv_cells S.kind hkind λenv he s1 x=>?_;subst he
 refine⟨lim.keeps x.toInCall.keep,codeAny_func ?_⟩;obtain⟨t,ht,hq⟩:=hbody A outer s H vs Q E (hr.deeper _) aw;have I:Inv (Zl CX P w K mg base N qual scope f cdv A outer s H E) [] (X0 N vs) H s1:=va S hr.hd e0 hl r x;refine Qy (ht [] s1 (X0 N vs) H _ I hq) (λfl s' hs=>?_) λe s' hs=>hs
 have fin:∀{σ':St}{H':Hp}{v:V}{u:Uj},Inv (Zl CX P w K mg base N qual scope f cdv A outer s H E) [] σ' H' s'->RelV v u->Q v H'->CE outer P w H s Q u s':=
  λ{σ' H' v u} J rv q=>⟨v,H',J.os,J.bare,J.base,J.hok,rv,q⟩
 cases fl with
 |ret u=>obtain⟨v,σ',H',J,rv,q⟩:=hs;exact fin J rv q
 |next=>obtain⟨σ',H',J,q⟩:=hs;exact fin (v:=V.non)  J yK q
 |brk=>obtain⟨_,_,_,q⟩:=hs;exact False.elim q
 |cont=>obtain⟨_,_,_,q⟩:=hs;exact False.elim q
section
variable{X:Cx}{x:Str}{p pos:Pos}{e:Up}{es:yS}{t:TA}{id T:String}{r:List V->Hp->VK->Prop}
def tCB(r:List V->Hp->VK->Prop)(t:TA):TE:=λσ H Q=>t σ H λvs H1=>r vs H1 Q
def RR(hc:YD X (.builtin id) r)(hg:Gl X x)(hm:X.mg x=yL)(hv:bootBuiltins x=O (.builtin id))(ha:PA X (e::es) t)(hn:x ≠ "__name__" :=by decide)(hdb:(x==("__debug__" : Str))=yN:=by decide)
  (he:Us (e::es) X.env=(yN,eval e X.env)::Us es X.env:=by rfl) (hpl:(backTo pos (Us es X.env)).any (·.1)=yN:=by rfl):PE X (.Call (.Name x p) (e::es) [] pos) (tCB r t):=by
 intro pins s σ H Q I h;refine Jr (WS I hg hm hv ?_ hn hdb);exact PyProof.Rows.callWith_builtin1 (thn (ha pos pins s σ H _ I h) λus s1 ⟨vs,H1,I1,r1,q1⟩=>hc pins s1 σ H1 vs us Q I1 r1 q1) he hpl
def Ob(hc:YD X (.type T) r)(hg:Gl X x)(hm:X.mg x=yL)(hv:bootBuiltins x=O (.type T))(ha:PA X (e::es) t)(hn:x ≠ "__name__" :=by decide)(hdb:(x==("__debug__" : Str))=yN:=by decide)
  (he:Us (e::es) X.env=(yN,eval e X.env)::Us es X.env:=by rfl) (hpl:(backTo pos (Us es X.env)).any (·.1)=yN:=by rfl):PE X (.Call (.Name x p) (e::es) [] pos) (tCB r t):=by
 intro pins s σ H Q I h;refine Jr (WS I hg hm hv ?_ hn hdb);exact JQ (thn (ha pos pins s σ H _ I h) λus s1 ⟨vs,H1,I1,r1,q1⟩=>hc pins s1 σ H1 vs us Q I1 r1 q1) he hpl
end
end L2
namespace HT
open PySem PyProof.Rows
section
variable{prog:Ul}{w:World}{A:Around}{E:Uj->Uk->Prop}{s:Uk}
noncomputable def sIx(n d:Nat):yX->Nat
 |none=>d
 |some v=>if v<0 then(v+(n:Int)).toNat else min v.toNat n
def Ha(n d:Nat):sIx n d yL=d:=rfl
def LN(n d k:Nat):sIx n d (O (k:Int))=min k n:=by
 show(if(k)<0 then((k)+(n:Int)).toNat else min (k:Int).toNat n)=min k n
 simp_all
end
end HT
namespace L2
open PySem PySem.Spec PyProof.Rows
abbrev TO:=St->Hp->(yX->Hp->Prop)->Prop
def PO(X:Cx)(e:Option Up)(t:TO):Prop:=
 ∀(pins:List (Um×Obj))(s:Uk)(σ:St)(H:Hp)(Q:yX->Hp->Prop),Inv X pins σ H s->t σ H Q ->
  Ur (model X.prog X.w) X.A (evalPart e X.env) (λu s'=>∃o H',Inv X pins σ H' s'/\IsPart u o/\Q o H') X.xe s
def A3:TO:=λ_ H Q=>Q yL H
def DT(t:TE):TO:=λσ H Q=>t σ H λx H1=>∃i,x=.int i/\Q (O i) H1
section
variable{X:Cx}{e:Up}{te:TE}{lo hi:Option Up}{tl th:TO}{pos p2:Pos}
def A1:PO X yL A3:=by intro pins s σ H Q I h;exact Qf ⟨yL,H,I,.none,h⟩
def A0(h:PE X e te):PO X (O e) (DT te):=by
 intro pins s σ H Q I hw;refine thn (h pins s σ H _ I hw) λu s1 ⟨x,H1,I1,r1,q1⟩=>?_
 obtain⟨i,rfl,q⟩:=q1;obtain⟨t,rfl⟩:=r1;exact⟨O i,H1,I1,.int i t,q⟩
def SlR(X:Cx)(r:V->yX->yX->Hp->VK->Prop):Prop:=
 ∀(pins:List (Um×Obj))(s:Uk)(σ:St)(H:Hp)(x:V)(v vl vu:Uj)(lo hi:yX)(sl:Um)(Q:VK),Inv X pins σ H s->RelV x v->s.heap.IsSliceOf sl vl vu .none->IsPart vl lo->IsPart vu hi->r x lo hi H Q ->
  ∃T id,typeLookup (.type T) "__getitem__" = pure (O (.builtin id))/\s.TypeIs v T/\Ur (model X.prog X.w) X.A (getItem v (.ref sl)) (EP X pins σ Q) X.xe s
def SlR.or  (h:SlR X r)(h':SlR X r'):SlR X (λx lo hi H Q=>r x lo hi H Q∨r' x lo hi H Q):=by
 intro pins s σ H x v vl vu lo hi sl Q I rx hs pl pu q;rcases q with q|q
 .exact h pins s σ H x v vl vu lo hi sl Q I rx hs pl pu q
 .exact h' pins s σ H x v vl vu lo hi sl Q I rx hs pl pu q
def tSl(r:V->yX->yX->Hp->VK->Prop)(te:TE)(tl th:TO):TE:=λσ H Q=>te σ H λx H1=>tl σ H1 λl H2=>th σ H2 λu H3=>r x l u H3 Q
def kP  (hr:SlR X r)(he:PE X e te)(hl:PO X lo tl)(hu:PO X hi th):PE X (.Subscript e (.Slice lo hi yL p2) pos) (tSl r te tl th):=by
 intro pins s σ H Q I h;refine Subscript_ (thn (he pins s σ H _ I h) λv s1 ⟨x,H1,I1,r1,q1⟩=>?_);refine wpAny_Slice (thn (hl pins s1 σ H1 _ I1 q1) λvl s2 ⟨l,H2,I2,pl,q2⟩=>thn (hu pins s2 σ H2 _ I2 q2) λvu s3 ⟨u,H3,I3,pu,q3⟩=>?_);refine Qf ?_;have I4:Inv X pins σ H3 {s3 with heap:=s3.heap.push {cls:=.type "slice", data:=.fields #[vl,vu,.none]}}:=I3.kept  λb ob q=>Qe _ q
 obtain⟨T,id,hT,ht,hg⟩:=hr pins {s3 with heap:=s3.heap.push {cls:=.type "slice", data:=.fields #[vl,vu,.none]}} σ H3 x v vl vu l u s3.heap.objs.size Q I4 r1 (Heap.IsSliceOf.new ..) pl pu q3;exact tail_any  ht hT hg (by with_unfolding_all rfl)
def Wg(xs:List V)(lo hi:yX):List V:=(xs.drop (HT.sIx xs.length 0 lo)).take (HT.sIx xs.length xs.length hi-HT.sIx xs.length 0 lo)
def yi(xs)(lo hi):(Wg xs lo hi).length<=xs.length:=by unfold Wg;rw[Jk,JS];omega
end
noncomputable def ixN(n:Nat)(i:Int):Option Nat:=if 0<=i then(if i<n then O i.toNat else yL)else if -(n:Int)<=i then O (i+n).toNat else yL
def atI{α:Type}(xs:List α)(i:Int):Option α:=(ixN xs.length i).bind λj=>xs[j]?
def AZ    (h:ixN n i=O j):seqIndex? i n=O j/\j<n /\ -(n:Int)<=i/\i<n:=by
 unfold ixN at h;by_cases h0:0<=i
 .rw[Qp h0]at h
  by_cases h1:i<n
  .rw[Qp h1]at h
   have e   :=QW h;exact⟨by rw[seqIndex_of h0 h1,e],by omega,by omega,h1⟩
  simp_all
 .rw[QH h0]at h
  by_cases h1 : -(n)<=i
  .rw[Qp h1]at h
   have e   :=QW h;exact⟨by rw[seqIndex_neg (by omega) h1,e],by omega,h1,by omega⟩
  .rw[QH h1]at h;cases h
def OT    {v:α}(h:atI xs i=O v):∃j,seqIndex? i xs.length=O j/\xs[j]?=O v/\j<xs.length /\ -(xs.length:Int)<=i/\i<xs.length:=by
 unfold atI at h;cases e:ixN xs.length i with
 |none=>simp_all
 |some j=>rw[e]at h;obtain⟨h1,h2,h3,h4⟩:=AZ e;exact⟨j,h1,h,h2,h3,h4⟩
def Zw   {j:Nat}{v:α}(h:xs[j]?=O v):atI xs (j:Int)=O v:=by
 have hj   :=(Ql.mp h).1;have e:ixN xs.length (j)=O j:=by unfold ixN;simp_all
 unfold atI;rw[e];exact h
def OS(b:Up):Prop:=∀o i,subscripted b yN o i=operate [o,i] (getItem o i)
def IxR(X:Cx)(r:R2):Prop:=
 ∀(value slice:Up)(pins:List (Um×Obj))(s:Uk)(σ:St)(H:Hp)(x y:V)(v u:Uj)(Q:VK),Inv X pins σ H s->RelV x v->RelV y u->r x y H Q ->
  subscripted slice yN v u=operate [v,u] (getItem v u)->Ur (model X.prog X.w) X.A (subscriptTail value slice v u) (EP X pins σ Q) X.xe s
def MtR(X:Cx)(id:String)(r:V->List V->Hp->VK->Prop):Prop:=
 ∀(pins:List (Um×Obj))(s:Uk)(σ:St)(H:Hp)(x:V)(xs:List V)(v:Uj)(us:yR)(Q:VK),Inv X pins σ H s->RelV x v->Vals xs us->r x xs H Q ->
  Ur (model X.prog X.w) X.A (call (.builtin id) (v::us)) (EP X pins σ Q) X.xe s
section
variable{X:Cx}{a b:Up}{ta tb:TE}{pos:Pos}
def IxR.or  (h:IxR X r)(h':IxR X r'):IxR X (λx y H Q=>r x y H Q∨r' x y H Q):=by
 intro value slice pins s σ H x y v u Q I rx ry q hs;rcases q with q|q
 .exact h value slice pins s σ H x y v u Q I rx ry q hs
 .exact h' value slice pins s σ H x y v u Q I rx ry q hs
def Mn  (hr:IxR X r)(ha:PE X a ta)(hb:PE X b tb)(hs:OS b):PE X (.Subscript a b pos) (tOp r ta tb):=by intro pins s σ H Q I h;exact Subscript_ (Sb ha hb I h λv u s2 x y H2 I2 rx ry q=>hr a b pins s2 σ H2 x y v u Q I2 rx ry q (hs _ _))
def rIxL(K:Frag):R2:=λx y H Q=>∃p xs i v,x=.ref p/\y=.int i/\SqL K H p xs/\atI xs i=O v/\Q v H
def rIxT(K:Frag):R2:=λx y H Q=>∃p xs i v,x=.ref p/\y=.int i/\SqT K H p xs/\atI xs i=O v/\Q v H
def rIxS:R2:=λx y H Q=>∃z i c,x=.str z/\y=.int i/\z.length<=Uq/\atI z.cps.toList i=O c/\Q (.str ⟨#[c]⟩) H
def AY:IxR X (rIxL X.K):=by
 intro value slice pins s σ H x y v u Q I rx ry h hs;obtain⟨p,xs,i,z,rfl,rfl,hq,he,q⟩:=h;cases rx;obtain⟨t,rfl⟩:=ry;obtain⟨its,r,pl,hz⟩:=I.list hq;obtain⟨j,h1,h2,h3,h4,h5⟩:=OT he;obtain⟨w,ew,aB⟩:=r.get h2;have hl:=r.length;have hn:=OB;have fin:EP X pins σ Q w s:=⟨z,H,I,aB,q⟩
 by_cases h0:0<=i
 .have hj   :=by
   rw[seqIndex_of h0 h5]at h1;exact QW h1
  exact item_listR pl.isList h0 (by omega) (by rw[hj];simpa using ew) fin hs
 .have hj:(i+(its.toArray.size:Int)).toNat=j:=by
   rw[seqIndex_neg (by omega) h4]at h1;rw[Q4,←hl];exact QW h1
  exact subscriptTail_builtinR (x:=w) pl.isList.typeIs slot_list_getitem.lookup
   (wpAny_getItem_list_neg  pl.isList (by omega) (by rw[List.size_toArray]<;>omega) (by omega) (by rw[hj];simpa using ew) ⟨rfl,fin⟩) hs
def BF:IxR X (rIxT X.K):=by
 intro value slice pins s σ H x y v u Q I rx ry h hs;obtain⟨p,xs,i,z,rfl,rfl,hq,he,q⟩:=h;cases rx;obtain⟨t,rfl⟩:=ry;obtain⟨its,r,pl,hz⟩:=I.tuple hq;obtain⟨j,h1,h2,h3,h4,h5⟩:=OT he;obtain⟨w,ew,aB⟩:=r.get h2;have hl:=r.length;have hn:=OB;have fin:EP X pins σ Q w s:=⟨z,H,I,aB,q⟩
 exact subscriptTail_builtinR  pl.typeIs slot_tuple_getitem.lookup
  (getItem_tuple   pl (by omega) (by omega) (by rw[List.size_toArray,←hl];exact h1) (by simpa using ew) ⟨rfl,fin⟩) hs
def BE:IxR X rIxS:=by
 intro value slice pins s σ H x y v u Q I rx ry h hs;obtain⟨z,i,c,rfl,rfl,hz,he,q⟩:=h;obtain⟨t,rfl⟩:=rx;obtain⟨t',rfl⟩:=ry;obtain⟨j,h1,h2,h3,h4,h5⟩:=OT he;have hl:z.cps.toList.length=z.length:=by simp[Str.length]
 rw[hl]at h1 h4 h5;have hn:=OB;exact tail_any (typeIs_str s z t) slot_str_getitem.lookup (getItem_str  (by have e1:decide (i < -(2 ^ 63:Int))=yN:=QF (by omega);have e2:decide (i ≥ 2 ^ 63)=yN:=QF (by omega);rw[e1,e2,Bool.or_false]) (by rw[h1];simpa using h2) ⟨.str ⟨#[c]⟩,H,I.tok _,⟨_,rfl⟩,q⟩) hs
def rIx(K:Frag):R2:=λx y H Q=>rIxL K x y H Q∨rIxT K x y H Q∨rIxS x y H Q
def MQ:IxR X (rIx X.K):=AY.or (BF.or BE)
def yn(lo hi)(n):(sliceBounds lo hi yL n).1=((HT.sIx n 0 lo:Nat):Int)/\(sliceBounds lo hi yL n).2.1=((HT.sIx n n hi:Nat):Int)/\(sliceBounds lo hi yL n).2.2=1:=by
 refine⟨?_,?_,rfl⟩
 .cases lo with
  |none=>simp[sliceBounds,HT.sIx]
  |some i=>
   simp only[sliceBounds,HT.sIx,Option.getD_none,show(1:Int) > 0 by decide,if_true];by_cases h:i<0
   .simp only[h,if_true]<;>omega
   .simp only[h,J6]<;>omega
 .cases hi with
  |none=>simp[sliceBounds,HT.sIx]
  |some i=>
   simp only[sliceBounds,HT.sIx,Option.getD_none,show(1:Int) > 0 by decide,if_true];by_cases h:i<0
   .simp only[h,if_true]<;>omega
   .simp only[h,J6]<;>omega
def yB(its:yR)(lo hi):slicePick its.toArray lo hi yL=((its.drop (HT.sIx its.length 0 lo)).take (HT.sIx its.length its.length hi-HT.sIx its.length 0 lo)).toArray:=by obtain⟨h1,h2,h3⟩:=yn lo hi its.toArray.size;unfold slicePick;rw[h1,h2,h3];simp only[sliceRange_one,pick_run]<;>rfl
def rSlL(K:Frag):V->yX->yX->Hp->VK->Prop:=λx lo hi H Q=>∃a xs,x=.ref a/\SqL K H a xs/\∀p,H p=yL->Q (.ref p) (upd H p (.lst (Wg xs lo hi)))
def AX:SlR X (rSlL X.K):=by intro pins s σ H x v vl vu lo hi sl Q I rx hs pl pu h;obtain⟨a,xs,rfl,hx,q⟩:=h;cases rx;obtain⟨its,r,ht,hz⟩:=I.list hx;have hlen:=r.length;refine⟨"list", _,slot_list_getitem.lookup,ht.isList.typeIs,?_⟩;refine wpAny_getItem_list_slice ht.isList hs pl pu .none (by simp) ?_ (by grind);rw[yB,←hlen];refine⟨.ref s.heap.objs.size,_,I.laid   (λb ob q=>Qe _ q) (Qo _) ?_,rfl,q _ (I.hok.fresh (Qo _))⟩;exact⟨QE (yi xs lo hi) hz,_,0,(r.drop _).take _,Qt _ yK⟩
def FG:YD X (.type "list") (λxs H Q=>∃p ys,xs=[.ref p]/\(SqL X.K H p ys∨SqT X.K H p ys)/\∀l,H l=yL->Q (.ref l) (upd H l (.lst ys))):=by
 intro pins s σ H xs us Q I r h;obtain⟨p,ys,rfl,hq,q⟩:=h;obtain⟨u,rfl,rx⟩:=Rj r;cases rx
 have fin:∀(its:yR),Vals ys its->ys.length<=Uq->∀(h':Heap)(c':Nat),_ ->
   h'.get? s.heap.objs.size=O {cls:=.type "list", dict:=yL,data:=.seq its.toArray c',slots:=#[]}->EP X pins σ Q _ {s with heap:=h'}:=λits r' hz h' c' kp e=>
  ⟨.ref s.heap.objs.size,_,I.laid  kp (Qo _) (show ZL X.prog X.w _ h' _ (.lst ys)from⟨hz,its,c',r',e⟩),rfl,q _ (I.hok.fresh (Qo _))⟩
 rcases hq with hq|hq
 .obtain⟨its,r',pl,hz⟩:=I.list hq
  have hlen:=r'.length;obtain⟨o,ho,hc,n,hd⟩:=pl.isList;exact call_list_seq p (.inl yK) ho hc hd (λh' c' kp e=>fin its r' hz h' c' kp e) (by simp_all)
 .obtain⟨its,r',pl,hz⟩:=I.tuple hq
  have hlen:=r'.length;obtain⟨o,ho,hc,n,hd⟩:=pl;exact call_list_seq p (.inr yK) ho hc hd (λh' c' kp e=>fin its r' hz h' c' kp e) (by simp_all)
def yA:YD X (.type "tuple") (λxs H Q=>∃p ys,xs=[.ref p]/\((SqL X.K H p ys/\∀l,H l=yL->Q (.ref l) (upd H l (.tup ys)))∨(SqT X.K H p ys/\Q (.ref p) H))):=by
 intro pins s σ H xs us Q I r h;obtain⟨p,ys,rfl,h⟩:=h;obtain⟨u,rfl,rx⟩:=Rj r;cases rx;rcases h with ⟨hq,q⟩|⟨hq,q⟩
 .obtain⟨its,r',pl,hz⟩:=I.list hq
  have hlen:=r'.length;refine call_tuple_list pl.isList (λh' kp=>?_) (by simp_all);have I1   :=I.kept (t':=s.toks) kp
  have I2   :=
   I1.laid (t':=s.toks) (λb o e=>Qe _ e) (Qo _) (show ZL X.prog X.w _ _ _ (.tup ys)from⟨hz,its,r',IsTup.new _ _⟩)
  exact⟨.ref h'.objs.size,_,I2,rfl,q _ (I1.hok.fresh (Qo _))⟩
 .obtain⟨its,r',pl,hz⟩:=I.tuple hq
  exact call_tuple_same pl ⟨.ref p,H,I,rfl,q⟩
def tyV(K:Frag)(T:String)(x:V)(H:Hp):Prop:=match x with
 |.str _=>T = "str"
 |.int _=>T = "int"
 |.ref p=>(T = "list" /\ ∃xs,SqL K H p xs)∨(T = "tuple" /\ ∃o,K.lookup p=O o/\o.cls=.type "tuple" /\ o.dict=yL) ∨
   (T = "dict" /\ ((∃kvs,H p=O (.dK kvs)) ∨ ∃kvs,H p=O (.dT kvs)))∨(T = "set" /\ ∃S n,H p=O (.set S n))
 |_=>False
def BD  {σ:St}{H:Hp}{s:Uk}{T:String}{x:V}{v:Uj}(I:Inv X pins σ H s)(r:RelV x v)(ty:tyV X.K T x H) :
  s.TypeIs v T/\∀a,v=.ref a->∃ob,s.heap.get? a=O ob/\ob.dict=yL:=by
 cases x with
 |str z=>obtain⟨t,rfl⟩:=r;cases (ty);exact⟨typeIs_str s z t,λ_ e=>nomatch e⟩
 |int i=>obtain⟨t,rfl⟩:=r;cases (ty);exact⟨typeIs_int s i t,λ_ e=>nomatch e⟩
 |ref p=>
  cases r;rcases ty with ⟨rfl,xs,hq⟩|⟨rfl,o,hk,hc,hd⟩|⟨rfl,hk⟩|⟨rfl,S,n,hk⟩
  .obtain⟨its,_,pl,_⟩:=I.list hq
   refine⟨pl.isList.typeIs,λa e=>?_⟩;cases e;obtain⟨o,n,e,c,hd,_⟩:=pl;exact⟨o,e,hd⟩
  .refine⟨⟨o,I.kIn p o hk,hc⟩,λa e=>?_⟩
   cases e;exact⟨o,I.kIn _ o hk,hd⟩
  .have z:∃o,s.heap.get? p=O o/\o.ExactDict:=by
    rcases hk with ⟨kvs,hk⟩|⟨kvs,hk⟩
    .obtain⟨_,_,_,_,o,_,_,e,ex,_⟩:=I.hok p _ hk
     exact⟨o,e,ex⟩
    .obtain⟨_,_,_,_,o,_,_,e,ex,_⟩:=I.hok p _ hk
     exact⟨o,e,ex⟩
   obtain⟨o,e,ex⟩:=z;refine⟨⟨o,e,ex.1⟩,λa e2=>?_⟩;cases e2;exact⟨o,e,ex.2.1⟩
  .obtain⟨o,_,_,_,e,ex,_⟩:=I.hok p _ hk
   refine⟨⟨o,e,ex.1⟩,λa e2=>?_⟩;cases e2;exact⟨o,e,ex.2.1⟩
 |_=>exact False.elim ty
def tBM(K:Frag)(T:String)(r:V->List V->Hp->VK->Prop)(to:TE)(t:TA):TE:=λσ H Q=>to σ H λx H1=>tyV K T x H1/\t σ H1 λxs H2=>r x xs H2 Q
variable{o e:Up}{es:yS}{to:TE}{t:TA}{name:Str}{apos cpos:Pos}{T id:String}{r:V->List V->Hp->VK->Prop}
def Pb(pa:PlainAttrs T)(slot:Slot T name id)(hty:typeOf (.builtin id)=pure (.type "method_descriptor"))(hm:MtR X id r)(ho:PE X o to)(ha:PA X (e::es) t)
  (hbase:attributeBase o name X.env (eval o X.env)=eval o X.env:=by rfl)
  (hfew:((backTo cpos (Us (e::es) X.env)).all (λx=>!x.1)&&(backToKw cpos (keywordEach [] X.env)).all (λx=>x.1.isSome)
   && decide ((e::es).length+([]:List Keyword).length+(if([]:List Keyword).isEmpty then 0 else 1)<30))=yM:=by rfl)
  (hline:(apos.endLine==cpos.line)=yM:=by rfl) (hs:Us (e::es) X.env=(yN,eval e X.env)::Us es X.env:=by rfl) (hplain:(backTo cpos (Us es X.env)).any (·.1)=yN:=by rfl) :
  PE X (.Call (.Attribute o name apos) (e::es) [] cpos) (tBM X.K T r to t):=by
 intro pins s σ H Q I h;refine wpAny_Call_method_late hbase hfew hline yK (thn (ho pins s σ H _ I h) λv s1 ⟨x,H1,I1,r1,ty,q1⟩=>?_);obtain⟨h1,h2⟩:=BD I1 r1 ty;refine⟨T,id,pa,slot,hty,h1,h2,?_⟩;have hA:=ha cpos pins s1 σ H1 _ I1 q1;rw[hs]at hA⊢;refine Calls.callWith_builtin (by show(yN || (backTo cpos _).any _)=yN;rw[hplain]<;>rfl) (Calls.evalArgs_plain ?_);exact thn hA λus s2 ⟨vs,H2,I2,r2,q2⟩=>hm pins s2 σ H2 x vs v us Q I2 r1 r2 q2
end
def MtM(X:Cx)(id:String)(r:V->List V->Hp->VK->Prop):Prop:=
 ∀(pins:List (Um×Obj))(s:Uk)(σ:St)(H:Hp)(x:V)(xs:List V)(v:Uj)(us:yR)(Q:VK),Inv X pins σ H s->RelV x v->Vals xs us->r x xs H Q ->
  Ur (model X.prog X.w) X.A (call (.builtin id) (v::us)) (EP X pins σ Q) X.xe s
def Vals.one:∀{x}{us},Vals [x] us->∃u,us=[u]/\RelV x u
 |_,_,.cons r .nil=>⟨_,rfl,r⟩
def Vals.two:∀{x y}{us},Vals [x,y] us->∃u v,us=[u,v]/\RelV x u/\RelV y v
 |_,_,_,.cons r (.cons q .nil)=>⟨_,_,rfl,r,q⟩
def Vals.reverse   (h:Vals xs us):Vals xs.reverse us.reverse:=by
 induction h with
 |nil=>exact .nil
 |cons r t ih=>rw[List.reverse_cons,List.reverse_cons];exact Vals.append ih (.cons r .nil)
theorem Vals.rep   (h:Vals xs us):∀k:Nat,Vals (Uv k xs).flatten (Uv k us).flatten
 |0=>.nil
 |k+1=>by exact Vals.append h (Vals.rep h k)
theorem HR(its):∀(k)(acc:yR),
  List.foldl (λx1 x2=>x1++x2) acc.toArray (Uv k its.toArray)=(acc++(Uv k its).flatten).toArray
 |0,acc=>by simp
 |k+1,acc=>by
  have e:acc.toArray++its.toArray=(acc++its).toArray:=by simp
  have e2:(acc++its)++(Uv k its).flatten=acc++(Uv (k+1) its).flatten:=by rw[List.replicate_succ,Je,QS]
  rw[←e2,←HR its k _,←e,List.replicate_succ,List.foldl_cons]
section
variable{X:Cx}{pins:List (Um×Obj)}{σ:St}{H:Hp}{s:Uk}{l b:Um}{xs ys zs:List V}
def Inv.lset{its its':yR}{n}{f}{t'}(I:Inv X pins σ H s)(hH:H l=O (.lst xs))
  (e:s.heap.get? l=O {cls:=.type "list", data:=.seq its.toArray n}) (hf:f its.toArray=its'.toArray) (hv:Vals ys its') (hz:ys.length<=Uq) :
  Inv X pins σ (upd H l (.lst ys)) {s with heap:=s.heap.update l (Obj.mapSeq f),toks:=t'}:=by
 have q:=PySem.IsL.update e f;rw[hf]at q;refine I.write   (by rw[hH];exact trivial) (.inl yK) (λb' u hb hu=>(QP s.heap _ (Ne.symm hb)).trans hu) ⟨_,q⟩ ?_;exact⟨hz,its',_,hv,q⟩
def Inv.lnew   (I:Inv X pins σ H s)(hv:Vals ys its)(hz:ys.length<=Uq) :
  Inv X pins σ (upd H s.heap.objs.size (.lst ys)) {s with heap:=s.heap.push {cls:=.type "list", data:=.seq its.toArray},toks:=t'}:=
 I.laid (λ_ _ q=>Qe _ q) (Qo _) ⟨hz,its,0,hv,Qt _ yK⟩
def Inv.fresh(I:Inv X pins σ H s):H s.heap.objs.size=yL:=I.hok.fresh (Qo _)
def Inv.lstM(I:Inv X pins σ H s)(hH:H l=O (.lst xs)):xs.length<=Uq/\∃(its:yR)(n:Nat),Vals xs its/\xs.length=its.length/\s.heap.get? l=O {cls:=.type "list", data:=.seq its.toArray n}:=by obtain⟨z,its,n,r,e⟩:=I.hok l _ hH;exact⟨z,its,n,r,r.length,e⟩
def Hx  (h:n<=Uq):Builtin.List.listTooLong n=yN:=by exact QF (by omega)
end
section
variable{X:Cx}
def AW:V->List V->Hp->VK->Prop:=λx vs H Q=>∃l xs y,x=.ref l/\vs=[y]/\H l=O (.lst xs)/\xs.length<Uq/\Q .non (upd H l (.lst (xs++[y])))
def Nu:MtM X "list.append" AW:=by
 intro pins s σ H x vs v us Q I rx rv h;obtain⟨l,xs,y,rfl,rfl,hH,hz,q⟩:=h;cases rx;obtain⟨u,rfl,ru⟩:=rv.one;obtain⟨z,its,n,r,hl,e⟩:=I.lstM hH;refine call_meets F.slot_list_append ⟨_,e,rfl⟩ F.entry_list_append (F.args_list_append_2 _ _) (PySem.list_append l its.toArray n u (by grind)) ⟨e,?_⟩;refine⟨.non,_,I.lset  hH e (by simp) (r.append (.cons ru .nil)) ?_,rfl,q⟩
 grind
def AV:V->List V->Hp->VK->Prop:=λx vs H Q=>∃l b xs zs,x=.ref l/\vs=[.ref b]/\H l=O (.lst xs)/\H b=O (.lst zs)/\xs.length+zs.length<=Uq/\Q .non (upd H l (.lst (xs++zs)))
def xZ:MtM X "list.extend" AV:=by
 intro pins s σ H x vs v us Q I rx rv h;obtain⟨l,b,xs,zs,rfl,rfl,hH,hB,hz,q⟩:=h;cases rx;obtain⟨u,rfl,ru⟩:=rv.one;cases ru;obtain⟨z,its,n,r,hl,e⟩:=I.lstM hH;obtain⟨z2,its2,n2,r2,hl2,e2⟩:=I.lstM hB;have hsz:its.toArray.size+its2.toArray.size<=Uq:=by grind
 have z9:¬(!its.toArray.isEmpty&&Builtin.List.listTooLong (its.toArray.size+its2.toArray.size))=yM:=by rw[Hx hsz,JL];exact Bool.false_ne_true
 refine call_meets F.slot_list_extend ⟨_,e,rfl⟩ F.entry_list_extend (F.args_list_extend_2 _ _)
  (AutoSeq1.list_extend_list_list_0 l its.toArray n b its2.toArray n2 z9 (by lia) (by omega)) ⟨e,e2,?_⟩
 refine⟨.non,_,I.lset  hH e (by simp) (r.append r2) ?_,rfl,q⟩;rw[Qj];omega
def AU{α:Type}(xs:List α)(k):(Uv k xs).flatten.length=k*xs.length:=by simp_all
end
section
variable{prog:Ul}{w:World}{A:Around}{E:Uj->Uk->Prop}{s:Uk}
set_option maxRecDepth 100000 in
end
end L2
namespace Att
open PySem PySem.W PySem.Calls PyProof.Rows
def yE   : ∀(ns)(vs),WellAll P h vs (ns.map WData.int)->IntsAre vs ns:=by
 intro ns;induction ns with
 |nil=>intro vs w;cases w;exact .nil
 |cons n ns ih=>
  intro vs w;cases w with
  |cons a b=>cases a;exact .cons _ _ (ih _ b)
def xY{l:OpenLaw}{n:Nat}(hn:l.most=O n){P}{h}{args}{vals}
  (hpre:l.row.toRowW.claim.pre args=yM) (hwl:WellAll P h vals args) :
  ∃a vs ns,vals=[Value.ref a]/\args=[WData.list (ns.map WData.int)]/\h.get? a=O {cls:=.type "list", data:=.seq vs.toArray}/\IntsAre vs ns/\ns.length<=n:=by
 have hsh:WShape.hasAll [] args [.list .int]=yM:=(pre_splitW hpre).1;have hc   :=(pre_splitW hpre).2;obtain⟨d,r,rfl,h1,h2⟩:=hasAllW_cons hsh;obtain rfl:=hasAllW_nil h2;obtain⟨xs,rfl,h3⟩:=hasW_list h1;obtain⟨ns,rfl⟩:=items_int h3
 have hlen   :=by
  have h4   :=by have h4:=(holds_andW hc).1;rw[hn]at h4;exact h4
  have h5:=condW_of h4 (w_not (w_lt w_lit (w_len_list (w_arg yK))))
  first
   |(exact absurd h5 _)
   |(simp at h5;omega)
 cases hwl with
 |cons w1 w2=>
  cases w2;cases w1 with
  |list ho hall=>exact⟨_,_,ns,rfl,rfl,ho,yE ns _ hall,hlen⟩
def xX(l:OpenLaw)(args):l.row.toRowW.claim.post args (.bool yM) args=yM:=
 postW_of
  (show WShape.has [] _ .bool=yM by first|rfl|decide|lia)
  (w_eq_bool (w_res yK) w_lit) yK
def attach_call{l:OpenLaw}{n:Nat}{q}{loose}{XP}{YP}{d}
  (hn:l.most=O n) (hdf:d.params.defaults=[])
  (call:∀(w:World)(s₀ s₁)(mg mb)(fa:Um)(o:Obj)(pm cd doc)(a:Um)(vs)(ns),
   Ground q loose [] XP w s₀ mg mb s₁.heap->YP w s₁.heap ->
   s₁.heap.get? fa=O o->o.data=.func (docDef d.name d.params d.body d.scope pm cd doc)->s₁.heap.CodeRec cd d.name->mg d.name=O (.ref fa) ->
   s₁.heap.get? a=O {cls:=.type "list", data:=.seq vs.toArray}->IntsAre vs ns->ns.length<=n->s₁.gens=#[] ->
   codeAny (model l.prog w) callerA (.call (.ref fa) ⟨[.ref a],[]⟩) (λr s'=>r=.ok (.ret (.bool yM))/\OldK s₁.heap s'.heap/\s'.os=s₁.os/\AllBare s'.gens) s₁) :
  WalkO q loose XP YP l.row.toRowW d [] (λf vs=>PySem.call f vs):=by
 intro w s₀ s₁ mg mb G Y fa o pm cd doc dV kV ho hd hcd hD hmg hg args vals as hpre hlay hrd hwl hlo;obtain rfl:dV=.none:=Dflts.none hD hdf;obtain rfl:kV=.none:=Dflts.noKw hD;obtain⟨a,vs,ns,rfl,rfl,hobj,hints,hlen⟩:=xY hn hpre hwl;refine enter_call (JH (call w s₀ s₁ mg mb fa o pm cd doc a vs ns G Y ho (fd_plain hd) hcd hmg hobj hints hlen hg) λr s' hq=>?_);obtain⟨rfl,h2,h3,h4⟩:=hq;exact⟨.inl ⟨.bool yM,.bool yM,[],rfl,λ_=>rfl,.bool yM,xX l _,λ_=>⟨List.Pairwise.nil,λ_ hm=>(nomatch hm)⟩⟩,h2,h3,h4⟩
end Att
namespace L2
open PySem PySem.Spec PyProof.Rows
theorem W0:∀{vs}{ns},IntsAre vs ns->Vals (ns.map V.int) vs
 |_,_,.nil=>.nil
 |_,_,.cons n t h=>.cons ⟨t,rfl⟩ (W0 h)
def Only(H:Hp):Prop:=∀b,H b=yL ∨ ∃o xs,H b=O (.frz o (.lst xs))
def kO{P:Ul}{w:World}{K:Frag}{mg mb:Str->yT}{CX:CXT}{k:Nat}{fa a:Um}{fd:Uo}{x:Str}{sp:Sp}{s₁:Uk}{vs:yR}{ns:yP}
  (KX:K.In s₁.heap) (hns:s₁.heap.Ns mainGlobals mg) (hb:s₁.heap.Ns builtinsNs mb) (hbb:∀x:Str,x ≠ "__name__" -> mb x=bootBuiltins x) (hlim:s₁.heap.NoLimit) (hg:s₁.gens=#[])
  (ha:s₁.heap.get? a=O {cls:=.type "list", data:=.seq vs.toArray}) (hi:IntsAre vs ns) (hl:ns.length<=Uq) (hr:Room k callerA)
  (F:∀base:Heap,K.In base->base.Ns mainGlobals mg->FnOk P w K mg base CX k fa fd [x] sp) (hbind:∀(s:Uk)(u:Uj),BindsTo s fd ⟨[u],[]⟩ [(x,u)])
  (aw:∀H:Hp,Only H->SqL K H a (ns.map V.int)->sp [.ref a] H (λv _=>v=.bl yM) λ_ _ _=>False)
  (hCX:∀H e s',CX [] H s₁ (λ_ _ _=>False) e s'->False) :
  codeAny (model P w) callerA (.call (.ref fa) ⟨[.ref a],[]⟩) (λr s'=>r=.ok (.ret (.bool yM))/\OldK s₁.heap s'.heap/\s'.os=s₁.os/\AllBare s'.gens) s₁:=by
 have rv:=W0 hi;have lenV:=hi.length
 have core:∀H:Hp,Only H->SqL K H a (ns.map V.int)->HOk P w H s₁.heap->(∀b,H b≠yL->b=a)->(H a≠yL->K.lookup a=yL) ->
   codeAny (model P w) callerA (.call (.ref fa) ⟨[.ref a],[]⟩) (λr s'=>r=.ok (.ret (.bool yM))/\OldK s₁.heap s'.heap/\s'.os=s₁.os/\AllBare s'.gens) s₁:=by
  intro H hO hS hok hA hK;have base_of:∀{b:Um}{o:Obj},s₁.heap.get? b=O o->H b=yL->(Yy s₁.heap H).get? b=O o:=λe n=>kU e n
  have noA:∀{b:Um}{o:Obj}{es:Array DictEntry}{ep:Nat},s₁.heap.get? b=O o->o.data=.dict es ep->H b=yL:=λ{b o es ep} e d=>by
   cases q:H b with
   |none=>rfl
   |some u=>have e':b=a:=hA b (by rw[q];simp);subst e';rw[ha]at e;cases e;have d'   :=d;cases d'
  have nsK:∀{b:Um}{m:Str->yT},s₁.heap.Ns b m->(Yy s₁.heap H).Ns b m:=λ{b m} ⟨o,es,ep,e,d,r⟩=>⟨o,es,ep,base_of e (noA e d),d,r⟩
  have hKb:K.In (Yy s₁.heap H):=λb o e=>base_of (KX b o e) (by
   cases q:H b with
   |none=>rfl
   |some u=>have e':b=a:=hA b (by rw[q];simp);subst e';rw[hK (by rw[q];simp)]at e;cases e)
  have hM:Mod K mg (Yy s₁.heap H):=⟨hKb,nsK hns,⟨mb,nsK hb,hbb⟩,let ⟨mc,h1,h2⟩:=hlim;⟨mc,nsK h1,h2⟩⟩
  have e0:Env0 P w K mg (Yy s₁.heap H) callerA [] s₁ H:=⟨rfl,hM,λb o e=>AJ e,Nat.le_of_eq (wF _ _),trivial,λb hb=>absurd (show b∈([]:yU)from hb) (by simp),hok,.of_eq hg⟩
  refine JH ((F _ hKb (nsK hns)).run callerA [] s₁ H ⟨[.ref a],[]⟩ [.ref a] [.ref a] _ _ hr e0 (hbind s₁ (.ref a)) (.cons yK .nil) (aw H hO hS)) λr s' h=>?_
  cases r with
  |error e=>exact(hCX H e s' h).elim
  |ok fl=>
   cases fl with
   |next=>exact False.elim h
   |brk=>exact False.elim h
   |cont=>exact False.elim h
   |ret u=>
    obtain⟨v,H',os,bare,un,hok',r',q⟩:=h;have q':v=.bl yM:=q;subst q';obtain rfl:u=Value.bool yM:=r';refine⟨rfl,OldK.of_keep λb o e=>?_,os,bare⟩;cases q:H b with
    |none=>exact un.keep b o e q (by intro z;exact absurd (show b∈([]:yU)from z) (by simp)) (by simp)
    |some u=>
     rcases hO b with z|⟨ob,xs,z⟩
     .rw[q]at z;cases z
     .have z2:=un.frzs b ob _ z
      obtain⟨e1,_⟩:=hok b _ z;obtain⟨e2,_⟩:=hok' b _ z2;rw[e]at e1;cases e1;exact e2
 cases hk:K.lookup a with
 |some o=>have e:=KX a o hk;rw[ha]at e;cases e;refine core (λ_=>yL) (λ_=>.inl yK) (.inr ⟨_,vs.toArray,_,hk,rfl,rfl,rfl,by rw[List.size_toArray,lenV];exact hl,by simpa using rv⟩) (λb u z=>by have z':(none:Option HO)=O u:=z;cases z') (λb z=>absurd yK z) λz=>absurd yK z
 |none=>
  refine core (λb=>if b=a then O _ else yL) (λb=>?_) (.inl (.inr ⟨{cls:=.type "list", data:=.seq vs.toArray},Qp yK⟩)) (λb u z=>?_) (λb z=>?_) λ_=>hk
  .by_cases hb:b=a
   .exact .inr ⟨_,_,Qp hb⟩
   .exact .inl (QH hb)
  .by_cases hb:b=a
   .have z':=(Qp hb).symm.trans z
    cases z';subst hb;exact⟨ha,by rw[Qd];exact hl,vs,_,rv,ha⟩
   .have z':=(QH hb).symm.trans z
    cases z'
  .by_cases hb:b=a
   .exact hb
   .exact absurd (QH hb) z
noncomputable def XQ(s:Stmt):Arguments:=match s with
 |.FunctionDef _ a _ _ _ _ _ _ _ _=>a
 |_=>{posonlyargs:=[],args:=[],vararg:=yL,kwonlyargs:=[],kw_defaults:=[],kwarg:=yL,defaults:=[]}
noncomputable def Yc(s:Stmt):List Stmt:=match s with
 |.FunctionDef _ _ b _ _ _ _ _ _ _=>b
 |_=>[]
noncomputable def K7(s:Stmt):Scope:=match s with
 |.FunctionDef _ _ _ _ _ _ sc _ _ _=>sc
 |_=>{kind:=.function,names:=[],isGenerator:=yN,isCoroutine:=yN}
abbrev CX0:CXT:=λ_ _ _ _ _ _=>False
abbrev E0:XK:=λ_ _ _=>False
def Oo{X:Cx}:Oz CX0 X E0:=λ_ _ _ _ _ _ _ h=>h.elim
structure Fun(K:Frag)(x qual:Str)(st:Stmt)(f:Um)(fd:Uo):Prop where
 ex:∃(oc:Uj)(od:yY)(kV doc pm:Uj)(an:yY)(cdv ct:Uj)(osl:Array yT),
  fd=PySem.W.fnOf x qual (XQ st) (Yc st) (K7 st) .none kV doc pm an cdv ct/\K.lookup f=O ⟨oc,od,.func fd,osl⟩/\PySem.W.codeIn K cdv qual=yM
 kp:PySem.W.keepIn K (.ref f)=yM
section
variable{P:Ul}{w:World}{K:Frag}{mg:Str->yT}{base:Heap}
def Fun.ok  {st}{f}{fd}{N ps}{k}{sp}(F:Fun K x qual st f fd)(S:Tf N ps (K7 st))(len:∀vs H Q E,sp vs H Q E->vs.length=ps.length)
  (hbody:∀(cdv)(A)(outer)(s)(H)(vs)(Q:VK)(E),Room k (A.deeper (envOfC qual (K7 st) s.heap.objs.size f cdv))->sp vs H Q E ->
   ∃t,PSs (Zl CX0 P w K mg base N qual (K7 st) f cdv A outer s H E).nox (Yc st) t/\t {nx:=λ_ H'=>Q .non H',rt:=Q} (X0 N vs) H):FnOk P w K mg base CX0 (k+1) f fd ps sp:=by
 obtain⟨oc,od,kV,doc,pm,an,cdv,ct,osl,rfl,lk,hcd⟩:=F.ex;refine Mo lk hcd S len λA outer s H vs Q E hr aw=>?_
 obtain⟨t,h,q⟩:=hbody cdv A outer s H vs Q E hr aw;exact⟨t,h.nox,q⟩
def Fun.binds  {st}{f}{fd}{ps}(F:Fun K x qual st f fd)
  (h:∀(kV doc pm)(an)(cdv ct)(us),us.length=ps.length->bindArgs (PySem.W.fnOf x qual (XQ st) (Yc st) (K7 st) .none kV doc pm an cdv ct) ⟨us,[]⟩=pure (ps.zip us)):YC K fd ps []:=by
 obtain⟨oc,od,kV,doc,pm,an,cdv,ct,osl,rfl,lk,hcd⟩:=F.ex;exact .all (h kV doc pm an cdv ct)
end
def Same(H H':Hp):Prop:=∀b o,H b=O o->H' b=O o
def Same.refl(H:Hp):Same H H:=λ_ _ h=>h
def Same.trans{H H1 H2:Hp}(a:Same H H1)(b:Same H1 H2):Same H H2:=λc o h=>b c o (a c o h)
def Same.free  (e:Same H H'){l}(h:H' l=Option.none):H l=Option.none:=by
 cases q:H l with
 |none=>rfl
 |some o=>rw[e l o q]at h;cases h
def Same.seq{K}{H H'}{a}{xs}(e:Same H H')(h:SqL K H a xs):SqL K H' a xs:=by
 rcases h with (h|⟨o,h⟩)|h
 .exact .inl (.inl (e _ _ h))
 .exact .inl (.inr ⟨o,e _ _ h⟩)
 .exact .inr h
section
variable{X:Cx}{pins:List (Um×Obj)}{σ:St}{H:Hp}{s:Uk}{h':Heap}
def Inv.turnedNew  {fp:yU}{p:Um}{o:HO}(I:Inv X pins σ H s)(hf:∀b∈fp,ZC X pins H b)
  (k:∀b o,b∉fp->s.heap.get? b=O o->h'.get? b=O o) (hp:s.heap.objs.size<=p) (new:ZL X.prog X.w (upd H p o) h' p o) :
  Inv X pins σ (upd H p o) {s with heap:=h',toks:=t'}:=by
 have hn   :=I.hok.fresh hp;have trk:∀b u,H b=O u->b∉fp:=λb u e z=>by rw[(hf b z).1]at e;cases e
 refine I.step   (ch:=fp) (λb hb=>?_) (λb o _ _ hc e _=>k b o hc e) (λb o _ _ hc e _=>⟨o.slots,k b o hc e⟩)
  (λb o _ e n=>by rw[Km (QJ (QA (Qg e) hp))];exact n) (λb o hc e=>⟨o,k b o hc e⟩)
  (λb xs e=>by rw[Km (ZO e hn)];exact e) (λb ob u e=>by rw[Km (ZO e hn)];exact e) (λb ps e=>⟨#[],by rw[Km (ZO e hn),e];simp⟩)
  (λm hm=>?_) (λb u e=>?_) I.bare
 .obtain⟨_,f1,_,f3,f4,f5⟩:=hf b hb
  exact⟨f3,f1,f4,f5⟩
 .obtain⟨ob,es,ep,ho,r⟩:=hm
  exact⟨ob,es,ep,k _ ob (λz=>(hf _ z).2.1 yK) ho,r⟩
 .by_cases hb:b=p
  .subst hb;rw[Kz]at e;cases e;exact new
  .rw[Km hb]at e
   refine(I.hok b u e).stay (λc v hc q=>k c v ?_ q) (λc q=>by rw[Km (ZO q hn)];exact q) λc xs q=>by rw[Km (ZO q hn)];exact q
   rcases hc with z|z
   .rw[z];exact trk b u e
   .exact trk c _ z
def Inv.turnedL  {fp:yU}(I:Inv X pins σ H s)(hf:∀b∈fp,ZC X pins H b)
  (k:∀b o,b∉fp->s.heap.get? b=O o->h'.get? b=O o):Inv X pins σ H {s with heap:=h',toks:=t'}:=by
 have trk:∀b u,H b=O u->b∉fp:=λb u e z=>by rw[(hf b z).1]at e;cases e
 refine I.step    (λb hb=>?_) (λb o _ _ hc e _=>k b o hc e) (λb o _ _ hc e _=>⟨o.slots,k b o hc e⟩)
  (λ_ _ _ _ n=>n) (λb o hc e=>⟨o,k b o hc e⟩) (λ_ _ e=>e) (λ_ _ _ e=>e) (λb ps e=>⟨#[],by simp_all⟩) (λm hm=>?_) (λb u e=>?_) I.bare
 .obtain⟨_,f1,_,f3,f4,f5⟩:=hf b hb
  exact⟨f3,f1,f4,f5⟩
 .obtain⟨ob,es,ep,ho,r⟩:=hm
  exact⟨ob,es,ep,k _ ob (λz=>(hf _ z).2.1 yK) ho,r⟩
 .refine(I.hok b u e).stay (λc v hc q=>k c v ?_ q) (λc q=>q) λc xs q=>q
  rcases hc with z|z
  .rw[z];exact trk b u e
  .exact trk c _ z
end
def Ite(K:Frag)(a:Um):It:=
 ⟨λi H=>∃xs x,SqL K H a xs/\xs[i]?=O x,
  λi H v H'=>∃p x,H p=yL/\v=.ref p/\(∀xs,SqL K H a xs->xs[i]?=O x)/\H'=upd H p (.tup [.int i,x]),
  λi H=>∃xs,SqL K H a xs/\xs.length<=i⟩
def xW{P:Ul}{w:World}{K:Frag}{elts:yS}{x1}{tp:Pos}(a e it:Um)(hne:e≠it) :
  Turn P w K (.Tuple elts x1 tp) (Ite K a) [e,it] e (λi h=>(∃old,IsEnum h e it i old)/\h.IsListIter it a i) where
 mem:=by simp
 obj:=λi h st b hb=>by
  obtain⟨⟨old,he⟩,o,ho,c,d⟩:=st;have hb':b=e∨b=it:=by simpa using hb
  rcases hb' with rfl|rfl
  .exact⟨_,he,λv z=>by have z'   :=z;cases z'⟩
  .exact⟨o,ho,λv z=>by rw[d]at z;cases z⟩
 keep:=λi h h' st k=>by obtain⟨⟨old,he⟩,hi⟩:=st;exact⟨⟨old,k e (by simp) _ he⟩,hi.at λo q=>k it (by simp) o q⟩
 item:=by
  intro X hP hw hK hc i pins s σ H E I hf st hg;subst hP hw hK;obtain⟨⟨old,he⟩,hi⟩:=st;obtain⟨xs,x,hq,hx⟩:=hg;obtain⟨its,rv,p,hz⟩:=I.list hq;obtain⟨u,hu,ru⟩:=rv.get hx;refine wpAny_pyNext_enum_item he hi p.isList (x:=u) (by simpa using hu) hne λh1 out hi1 ht hsz kk=>?_
  refine⟨_,rfl,wpAny_letOwnedTupleGo_enum out λh2 ag hs2=>?_⟩;have hel:e<s.heap.objs.size:=Qg he;have zL:Heap.SameBut e h1 h2:=hs2;have ht2   :=(zL.2 _ (Ju hel)).trans ht
  have kk2:∀b o,b∉[e,it]->s.heap.get? b=O o->h2.get? b=O o:=λb o hb q=>by
   have zT:b≠e:=λz=>hb (by simp[z])
   have hbi:b≠it:=λz=>hb (by simp[z])
   exact(zL.2 b zT).trans (kk b o zT hbi q)
  have hn:H s.heap.objs.size=yL:=I.hok.fresh (Qo _)
  have I2:Inv X pins σ (upd H s.heap.objs.size (.tup [.int i,x])) {s with heap:=h2,toks:=s.toks+1}:=
   I.turnedNew (fp:=[e,it]) hf kk2 (Qo _) ⟨by show 2<=Uq;decide,[.int i s.toks,u],.cons ⟨_,rfl⟩ (.cons ru .nil),⟨_,ht2,rfl,_,rfl⟩⟩
  refine⟨.ref s.heap.objs.size,_,I2,rfl,⟨_,x,hn,rfl,λys hy=>by rw[I.list_inj hy hq];exact hx,rfl⟩,⟨⟨u,?_⟩,?_⟩,λb hb=>?_⟩
  .have:=ag
   simpa using this
  .have hi2:h2.IsListIter it a (i+1):=hi1.at λo q=>(zL.2 it (Ne.symm hne)).trans q
   exact hi2
  .have fr:=(hf b hb)
   have hlt:b<s.heap.objs.size:=by
    have hb':b=e∨b=it:=by simpa using hb
    rcases hb' with rfl|rfl
    .exact hel
    .obtain⟨o,ho,_⟩:=hi;exact Qg ho
   rw[Km (QJ hlt)];exact fr.1
 done:=by intro X hP hw hK hc i pins s σ H E I hf st hg;subst hP hw hK;obtain⟨⟨old,he⟩,hi⟩:=st;obtain⟨xs,hq,hx⟩:=hg;obtain⟨its,rv,p,hz⟩:=I.list hq;have hl:=rv.length;exact wpAny_pyNext_enum_end (I.ok.hd hc) he hi p.isList (by simp;omega) λh' eb=>⟨rfl,I.turnedL (t':=s.toks) hf λb o hb q=>eb b o (λz=>hb (by simp[z])) q⟩
 self:=λ_ _ _ _ _ st h=>by obtain⟨⟨old,he⟩,_⟩:=st;exact wpAny_pyIter_enum he h
section
variable{X:Cx}
def DS(K:Frag)(ta:TA):TI:=λσ H R=>ta σ H λvs H1=>∃a xs,vs=[.ref a]/\SqL K H1 a xs/\R (Ite K a) H1
def AT   {p pos:Pos}{elts}{x1}{tp:Pos}(hg:Gl X "enumerate")(hm:X.mg "enumerate" = yL)(ha:PA X [a] ta)
  (hs:Us [a] X.env=[(yN,eval a X.env)]:=by rfl):PI X (.Tuple elts x1 tp) (.Call (.Name "enumerate" p) [a] [] pos) (DS X.K ta):=by
 intro pins s σ H R I h;refine Call_ (WS I hg hm boot_enumerate (JQ (thn (ha pos pins s σ H _ I h) λus s1 ⟨vs,H1,I1,r1,q1⟩=>?_) hs yK));obtain⟨l,xs,e,hq,q⟩:=q1;subst e;cases r1 with
 |cons r rr=>
  cases rr;cases (r);obtain⟨its,rv,pl,hz⟩:=I1.list hq;refine call_enumerate_list pl.isList λh' he hi hsz kk=>?_;have I2   :=I1.kept (t':=s1.toks) kk;refine wpAny_pyIter_enum he ?_
  refine⟨s1.heap.objs.size+1,[s1.heap.objs.size+1,s1.heap.objs.size],_,_,H1,rfl,I2,xW l _ _ (Nat.succ_ne_self _),⟨⟨_,he⟩,hi⟩,λb hb=>?_,q⟩;have hb'   :=by simpa using hb
  rcases hb' with rfl|rfl
  .exact I1.fpOk (JM _) (I1.hok.fresh (JM _))
  .exact I1.fpOk (Qo _) (I1.hok.fresh (Qo _))
end
section
variable{κ:Type}[DecidableEq κ]
noncomputable def ZQ(kvs:List (κ×V))(k:κ):Option V:=(kvs.find? λkv=>decide (kv.1=k)).map (·.2)
noncomputable def Zc(kvs:List (κ×V))(k:κ)(v:V):List (κ×V):=
 if(kvs.any λkv=>decide (kv.1=k))=yM then kvs.map (λkv=>if kv.1=k then(kv.1,v)else kv)else kvs++[(k,v)]
def Nj   {k:κ}(e:p.1=k):ZQ (p::r) k=O p.2:=by simp[ZQ,e]
def P6   {k:κ}(e:¬p.1=k):ZQ (p::r) k=ZQ r k:=by simp[ZQ,e]
theorem Ni(k):∀kvs:List (κ×V),(kvs.any λkv=>decide (kv.1=k))=(ZQ kvs k).isSome
 |[]=>rfl
 |p::r=>by
  rw[List.any_cons];by_cases e:p.1=k
  .simp only[Nj e,QM e,Bool.true_or,Option.isSome_some]
  .rw[P6 e,QF e];exact Ni k r
def NP(kvs)(k:κ)(v):(Zc kvs k v).length<=kvs.length+1:=by
 unfold Zc;split
 .simp_all
 simp_all
def jF  {k:κ}(v)(h:ZQ kvs k=yL):Zc kvs k v=kvs++[(k,v)]:=by unfold Zc;rw[Ni];simp_all
def RelO.isSome_eq   (r:RelO o u):o.isSome=u.isSome:=by
 cases o with
 |none=>cases u with
  |none=>rfl
  |some _=>exact(r).elim
 |some _=>cases u with
  |none=>exact(r).elim
  |some _=>rfl
def KV.any   (r:KV kvs vs)(k:κ):(kvs.any λkv=>decide (kv.1=k))=vs.any λkv=>decide (kv.1=k):=by
 induction r with
 |nil=>rfl
 |cons h t ih=>simp_all
def KV.repl   (r:KV kvs vs)(k:κ){y}{u}(ry:RelV y u) :
  KV (kvs.map λkv=>if kv.1=k then(kv.1,y)else kv) (vs.map λkv=>if kv.1=k then(kv.1,u)else kv):=by
 induction r with
 |nil=>exact .nil
 |@cons p q ps qs h t ih=>
  rw[QI,QI];refine .cons ?_ ih;obtain⟨h1,h2⟩:=h;by_cases e:p.1=k
  .rw[Qp e,Qp (h1.symm.trans e)];exact⟨h1,ry⟩
  .rw[QH e,QH (λz=>e (h1.trans z))];exact⟨h1,h2⟩
def KV.put   (r:KV kvs vs)(k:κ){y}{u}(ry:RelV y u):KV (Zc kvs k y) (stored vs k u):=by
 unfold Zc stored;rw[r.any k];by_cases e:(vs.any λkv=>decide (kv.1=k))=yM
 .rw[Qp e,Qp e];exact r.repl k ry
 .rw[QH e,QH e];exact Paired.snoc r ⟨rfl,ry⟩
def KV.length  {vs:List (κ×Uj)}(r:KV kvs vs):kvs.length=vs.length:=Paired.length r
end
def On   {k}{u}(r:RelV (kV k) u):(Y4 P w).is k u=yM:=by
 cases k with
 |inl i=>obtain⟨t,e⟩:=(r);subst e;exact wS P w i t
 |inr x=>obtain⟨t,e⟩:=(r);subst e;exact yj P w x t
theorem Nt   : ∀{ks}{us},Vals (ks.map kV) us->ItemsAre (Y4 P w) ks us
 |[],_,r=>by cases r;exact .nil
 |k::ks,_,r=>by
  cases r with
  |cons h t=>exact .cons (On h) (Nt t)
abbrev KT(H:Hp):List (yV×V)->List (yV×Um×Uj)->Prop:=Paired λp q=>p.1=q.1/\H q.2.1=O (.tup (p.1.map kV))/\RelV p.2 q.2.2
def KT.val    (r:KT H kvs xs)(k):RelO (ZQ kvs k) ((atKey xs k).map (·.2)):=by
 induction r with
 |nil=>exact True.intro
 |@cons p q ps qs h t ih=>
  obtain⟨h1,_,h2⟩:=h;by_cases e:p.1=k
  .have e'   :=h1.symm.trans e
   have b:atKey (q::qs) k=O q.2:=by simp[atKey,e']
   rw[Nj e,b];exact h2
  .have e':¬q.1=k:=λz=>e (h1.trans z)
   have b:atKey (q::qs) k=atKey qs k:=by simp[atKey,e']
   rw[P6 e];simp_all
def KT.repl    (r:KT H kvs xs)(k){y}{u}(ry:RelV y u) :
  KT H (kvs.map λkv=>if kv.1=k then(kv.1,y)else kv) (xs.map (putAt k u)):=by
 induction r with
 |nil=>exact .nil
 |@cons p q ps qs h t ih=>
  rw[QI];refine .cons ?_ ih;obtain⟨h1,h2,h3⟩:=h;unfold putAt;by_cases e:p.1=k
  .rw[Qp e,Qp (h1.symm.trans e)];exact⟨h1,h2,ry⟩
  .rw[QH e,QH (λz=>e (h1.trans z))];exact⟨h1,h2,h3⟩
def KT.put  {kvs}{xs}(r:KT H kvs xs)(k){b}{y:V}{u}(hb:H b=O (.tup (k.map kV)))(ry:RelV y u) :
  KT H (Zc kvs k y) (storedH xs k b u):=by
 have e:(kvs.any λkv=>decide (kv.1=k))=(atKey xs k).isSome:=by rw[Ni,(r.val k).isSome_eq,Option.isSome_map]
 unfold Zc storedH;rw[e];by_cases q:(atKey xs k).isSome=yM
 .rw[Qp q,Qp q];exact r.repl k ry
 .rw[QH q,QH q];exact Paired.snoc r ⟨rfl,hb,ry⟩
def KT.keeps  {kvs}{xs}(r:KT H kvs xs)(ht:∀b ys,H b=O (.tup ys)->H' b=O (.tup ys)):KT H' kvs xs:=
 Paired.mapP r λ_ _ z=>⟨z.1,ht _ _ z.2.1,z.2.2⟩
section
variable{P:Ul}{w:World}{H:Hp}{h:Heap}{a:Um}
def Md{u:HO}(ok:HOk P w H h)(e:Rd H a u):ZL P w H h a u:=e.ok ok
def DR  (ok:HOk P w H h)(e:Rd H a (.dK kvs)):kvs.length<=Uq/\(a==sysModules)=yN/\∃vs,KV kvs vs/\h.DictOf (Y4 P w) a vs:=
 Md ok e
def Mc  (ok:HOk P w H h)(e:H a=O (.dK kvs)):kvs.length<=Uq/\(a==sysModules)=yN/\∃vs,KV kvs vs/\h.DictOf (Y4 P w) a vs:=DR ok (.inl e)
def MN  (ok:HOk P w H h)(e:H a=O (.tup (ks.map kV))):(tupleKind (Y4 P w)).is h ks a:=by
 obtain⟨_,its,r,o,h1,h2,n,h3⟩:=(ok a _ e)
 exact⟨o,its.toArray,n,h1,h2,h3,by simpa using Nt r⟩
def Mb  (ok:HOk P w H h)(e:Rd H a (.dT kvs)):kvs.length<=Uq/\(a==sysModules)=yN /\
  ∃xs,KT H kvs xs/\h.DictOfH (tupleKind (Y4 P w)) a xs:=by
 obtain⟨z,y,xs,r,o,es,ep,h1,h2,h3,h4,h5⟩:=(Md ok e)
 refine⟨z,y,xs,r,o,es,ep,h1,h2,h3,h4,λx hx=>?_,h5⟩
 have all:∀{l:List _}{m:List _},KT H l m->∀x∈m,(tupleKind (Y4 P w)).is h x.1 x.2.1:=by
  intro l m q;induction q with
  |nil=>simp_all
  |@cons p q ps qs hq t ih=>
   intro x hx;rcases Qs.mp hx with e|hx
   .exact MN ok (by simp_all)
   .exact ih x hx
 exact all r x hx
def DQ  (ok:HOk P w H h)(e:H a=O (.dT kvs)):kvs.length<=Uq/\(a==sysModules)=yN /\
  ∃xs,KT H kvs xs/\h.DictOfH (tupleKind (Y4 P w)) a xs:=Mb ok (.inl e)
end
def DPut(H:Hp)(a:Um)(y v:V)(H':Hp):Prop:=
 (∃kvs k,H a=O (.dK kvs)/\y=kV k/\kvs.length<Uq/\H'=upd H a (.dK (Zc kvs k v))) ∨
 ∃kvs k b,H a=O (.dT kvs)/\y=.ref b/\H b=O (.tup (k.map kV))/\kvs.length<Uq/\H'=upd H a (.dT (Zc kvs k v))
def DPut.t    {k}{v}(e:H a=O (.dT kvs))(eb:H b=O (.tup (k.map kV)))(hl:kvs.length<Uq) :
  DPut H a (.ref b) v (upd H a (.dT (Zc kvs k v))):=.inr ⟨kvs,k,b,e,rfl,eb,hl,rfl⟩
section
variable{X:Cx}{pins:List (Um×Obj)}{σ:St}{H:Hp}{s:Uk}{a:Um}{y v:V}{u r:Uj}{o:Option V}{A:Around}{E:Uj->Uk->Prop}
def Inv.big(I:Inv X pins σ H s):sysModules<s.heap.objs.size:=by have h   :=(I.mod.glob.keeps I.bk).lt;exact Nat.lt_trans (by decide) h
def PB   {ob}(I:Inv X pins σ H s)(mu:Mut (H a))(hs:Heap.SameBut a s.heap h')(he:∃q,h'.get? a=O q)(new:ZL X.prog X.w (upd H a ob) h' a ob) :
  Inv X pins σ (upd H a ob) {s with heap:=h',toks:=t'}:=
 I.write   mu (.inl yK) (λb q hb z=>(hs.2 b hb).trans z) he new
def MM     {kvs}{vs}(z:kvs.length<=Uq)(hd:(a==sysModules)=yN)(rel:KV kvs vs)(dd:h'.DictOf (Y4 P w) a vs) :
  ZL P w H' h' a (.dK kvs):=⟨z,hd,vs,rel,dd⟩
def xV{H':Hp}{Q}(hu:A.units+1<cLine)(I:Inv X pins σ H s)(g:DPut H a y v H')(ry:RelV y u)(rv:RelV v r)(h:∀s',Inv X pins σ H' s'->Q () s') :
  Ur (model X.prog X.w) A (setItem (.ref a) u r) Q E s:=by
 rcases g with ⟨kvs,k,e,ey,l,eH⟩|⟨kvs,k,b,e,ey,eb,l,eH⟩
 .subst ey eH
  obtain⟨z,hd,vs,rel,dd⟩:=Mc I.hok e;have hz:vs.length<=Uq:=by rw[←rel.length];exact z
  have hl:(Zc kvs k v).length<=Uq:=by have:=NP kvs k v;omega
  refine wpAny_setItem_pairs (hsz:=hz) (On ry) dd λh' zr hs=>h _ ?_;have he:∃q,h'.get? a=O q:=let ⟨q,_,_,hq,_⟩:=zr;⟨q,hq⟩
  exact PB I (by rw[e];exact True.intro) hs he (MM hl hd (rel.put k rv) zr)
 .subst ey eH
  cases (ry);obtain⟨z,hd,xs,rel,dd⟩:=DQ I.hok e;have hz:xs.length<=Uq:=by rw[←Paired.length rel];exact z
  have hl:(Zc kvs k v).length<=Uq:=by have:=NP kvs k v;omega
  refine wpAny_setItem_heap (hsz:=hz) (tupleKind_room_in1 hu) (MN I.hok eb) dd λh' zr hs=>h _ ?_
  obtain⟨q,es,ep,hq,h2,h3,h4,_,h5⟩:=zr;refine PB I (by rw[e];exact True.intro) hs ⟨q,hq⟩ ⟨hl,hd,_,(rel.put k eb rv).keeps λc ys ec=>?_,q,es,ep,hq,h2,h3,h4,h5⟩;rw[Km (Mk ec e (λz=>nomatch z))];exact ec
end
def Sc(i:Up):Prop:=∀ov iv,subscripted i yN ov iv=operate [ov,iv] (getItem ov iv)
def AS    {E}{s}{env:Env}{value slice}{pos}{T id}{Q}
  (hl:typeLookup (.type T) "__getitem__" = pure (O (.builtin id))) (hs:Sc slice)
  (h:Ur (model prog w) A (eval value env) (λo s₁=>Ur (model prog w) A (eval slice env) (λi s₂=>s₂.TypeIs o T/\Ur (model prog w) A (getItem o i) Q E s₂) E s₁) E s) :
  Ur (model prog w) A (eval (.Subscript value slice pos) env) Q E s:=by
 refine Subscript_ (Qy h (λo s₁ h₁=>Qy h₁ (λi s₂ h₂=>?_) λ_ _ x=>x) λ_ _ x=>x);obtain⟨hT,h₂⟩:=h₂;refine Qb ?_;refine Qb (wpAny_specialOf hT hl ?_);have fin:Ur (model prog w) A (subscripted slice yN o i) (λr s₃=>Ur (model prog w) A (letTemporaryGo value o r >>= λ_=>pure r) Q E s₃) E s₂:=by rw[hs o i];exact wpAny_operating (Qy h₂ (λr s₃ h₃=>Qb (wpAny_letTemporaryGo (Qf h₃))) λ_ _ x=>x)
 first
  |exact Qf (Qb fin)
  |exact Qb _
  |exact Qb fin
def DP(td ty tv:TE):TS:=λD σ H=>tv σ H λv H1=>td σ H1 λx H2=>ty σ H2 λy H3=>∃a H4,x=.ref a/\DPut H3 a y v H4/\D.nx σ H4
section
variable{X:Cx}{o i e value:Up}{pos pos' tpos:Pos}{td ty tv:TE}
def AR(hu:X.A.units+1<cLine)(ho:PE X o td)(hi:PE X i ty)(hv:PE X value tv)(hs:swapsWith value (O (.Subscript o i pos')) pos.line X.env=pure yN) :
  PS X (.Assign [.Subscript o i pos'] value pos) (DP td ty tv):=by
 intro pins s σ H D I h;refine wpAny_Assign_Subscript (thn (hv pins s σ H _ I h) λr s1 ⟨v,H1,I1,rv,q1⟩=>thn (ho pins s1 σ H1 _ I1 q1) λu s2 ⟨x,H2,I2,rx,q2⟩=>thn (hi pins s2 σ H2 _ I2 q2) λiv s3 ⟨y,H3,I3,ry,a,H4,ex,g,q3⟩=>?_) hs;subst ex;obtain rfl:u=Value.ref a:=rx;exact xV hu I3 g ry rv λs4 I4=>⟨σ,H4,I4,q3⟩
end
def jE    (h:Heap)(hb:sysModules<h.objs.size):ZL P w H (h.push {cls:=.type "dict", data:=.dict #[]}) h.objs.size (.dK []):=
 ⟨J4 _,beq_eq_false_iff_ne.mpr (Ne.symm (QJ hb)),[],.nil,Heap.DictOf.new h⟩
def jD    (h:Heap)(hb:sysModules<h.objs.size):ZL P w H (h.push {cls:=.type "dict", data:=.dict #[]}) h.objs.size (.dT []):=
 ⟨J4 _,beq_eq_false_iff_ne.mpr (Ne.symm (QJ hb)),[],.nil,_,#[],0,Qt _ yK,⟨rfl,rfl,rfl⟩,rfl,rfl,J7⟩
def Cg:TE:=λ_ H Q=>∀p,H p=yL->Q (.ref p) (upd H p (.dT []))
section
variable{X:Cx}{pos:Pos}
def jC:PE X (.Dict [] [] pos) Cg:=λpins s σ H Q I h=>
 wpAny_Dict_empty ⟨.ref s.heap.objs.size,_,I.laid    (λ_ _ q=>Qe _ q) (Qo _) (jD s.heap I.big),rfl,h _ (I.hok.fresh (Qo _))⟩
end
def Po:List (TE×TE)->St->Hp->(List (V×V)->Hp->Prop)->Prop
 |[],_,H,Q=>Q [] H
 |(tk,tv)::r,σ,H,Q=>tk σ H λx H1=>tv σ H1 λy H2=>Po r σ H2 λps H3=>Q ((x,y)::ps) H3
abbrev VV:List (V×V)->List (Uj×Uj)->Prop:=Paired λp q=>RelV p.1 q.1/\RelV p.2 q.2
def PPs(X:Cx)(pos:Pos)(keys:List (Option Up))(values:yS)(trs:List (TE×TE)):Prop:=
 ∀(pins:List (Um×Obj))(s:Uk)(σ:St)(H:Hp)(Q:List (V×V)->Hp->Prop),Inv X pins σ H s->Po trs σ H Q ->
  Ur (model X.prog X.w) X.A (evalPairs (pairTrees keys values X.env pos)) (λvs s'=>∃ps H',Inv X pins σ H' s'/\VV ps vs/\Q ps H') X.xe s
def AQ   : PPs X pos [] [] []:=λpins s σ H Q I h=>pairTrees_nil_walk ⟨[],H,I,.nil,h⟩
def jB   {k v}{ks}{vs}{tk tv}{trs}(hk:PE X k tk)(hv:PE X v tv)(hr:PPs X pos ks vs trs) :
  PPs X pos (O k::ks) (v::vs) ((tk,tv)::trs):=λpins s σ H Q I h=>
 pairTrees_cons_walk (thn (hk pins s σ H _ I h) λu s1 ⟨x,H1,I1,rx,q1⟩=>thn (hv pins s1 σ H1 _ I1 q1) λw2 s2 ⟨y,H2,I2,ry,q2⟩=>
  thn (hr pins s2 σ H2 _ I2 q2) λws s3 ⟨ps,H3,I3,rel,q3⟩=>⟨(x,y)::ps,H3,I3,.cons ⟨rx,ry⟩ rel,q3⟩)
def VG(kvs more:List (Key×V)):List (Key×V):=more.foldl (λacc kv=>Zc acc kv.1 kv.2) kvs
def KV.merge:∀{more}{rs}{kvs}{vs},KV more rs->KV kvs vs->KV (VG kvs more) (merged vs rs):=by
 intro more rs kvs vs r;induction r generalizing kvs vs with
 |nil=>intro q;exact q
 |@cons p q ps qs h t ih=>
  intro r0;have e:KV (Zc kvs p.1 p.2) (stored vs q.1 q.2):=by have:=r0.put p.1 h.2;simp_all
  exact ih e
theorem F1:∀(more kvs),(VG kvs more).length<=kvs.length+more.length
 |[],kvs=>by show kvs.length<=kvs.length+0;omega
 |p::r,kvs=>by
  have h1:=F1 r (Zc kvs p.1 p.2);have h2:=NP kvs p.1 p.2
  show(VG _ r).length<=_
  grind
theorem Fp   : ∀{kvs}{ws},VV (kvs.map λkv=>(kV kv.1,kv.2)) ws->∃rs,Carries (Y4 P w) ws rs/\KV kvs rs
 |[],_,r=>by cases r;exact⟨[],True.intro,.nil⟩
 |p::kvs,_,r=>by
  cases r with
  |@cons a b as bs h t=>obtain⟨rs,c,q⟩:=Fp (P:=P) (w:=w) t;obtain⟨b1,b2⟩:=b;exact⟨(p.1,b2)::rs,⟨On h.1,rfl,c⟩,.cons ⟨rfl,h.2⟩ q⟩
end L2
namespace L2
open PySem PySem.Spec
def Tail(bmB bm:yR):Prop:=∀(X:String)(b:Bool),bmB.contains (.type X)=b->bm.contains (.type X)=b
def Tail.base{bmB:yR}:Tail bmB bmB:=λ_ _ h=>h
def Tail.own   (T:Tail bmB bm):Tail bmB (.ref D::bm):=λX b h=>by rw[QY,T X b h];rfl
section
variable{prog:Ul}{w:World}{A:Around}{E:Uj->Uk->Prop}{h:Heap}{g:Array GenState}{d:Drawn}{t:Nat}{os:OsState}{R:Result->Uk->Prop}
variable{nm q:Str}{C N:Um}{bs bm bmB:yR}{hdct:Bool}{sn:List Str}{sub:yR}{ab:Bool}{col:yZ}{dd:yY}{k0 k1 k2 k3 k5:yT}{B newId initId:String}
def v4{M:Model}(F:ExcBaseFacts B newId initId bmB)(T:Tail bmB bm){rest}{Q}(hC:h.get? C=O (excClassObj nm q C N bs bm hdct sn sub ab col dd k0 k1 k2 k3 k5 newId))
  (hq:Q () ⟨h,g,d,t,os⟩):Ur M A (checkBuiltinCall newId ⟨.ref C::rest,[]⟩) Q E ⟨h,g,d,t,os⟩:=by
 have bt:(Value.ref C::bm).contains (.type B)=yM:=by rw[QY,T _ _ F.hasB,Uf]
 have hstar:=F.noStar;simp only[checkBuiltinCall,F.newKind,F.newSplit,F.newRow]
 repeat (first|refine Qq hC ?_|(refine QK hC ?_;rw[bt])|refine wpAny_staticBase_exc hC ?_|refine wpAny_madeBy_exc hC ?_|simp only[J6] | wp_step)
 exact hq
def jA(F:ExcBaseFacts B newId initId bmB)(T:Tail bmB bm){rest:yR}(hC:h.get? C=O (excClassObj nm q C N bs bm hdct sn sub ab col dd k0 k1 k2 k3 k5 newId))
  (hq:R (.ok (.ret (.ref (h.objs.size+1)))) ⟨(h.push {cls:=.type "tuple", data:=.seq rest.toArray}).push
   {cls:=.ref C,data:=.fields #[.ref h.objs.size,.none,.none,.none,.bool yN,.none]},g,d,t,os⟩) (hrest:rest.length<=Uq) :
  codeAny (model prog w) A (.builtin newId ⟨.ref C::rest,[]⟩) R ⟨h,g,d,t,os⟩:=by
 have hends:=F.ends;have zS:(Value.ref C::bm).contains (.type B)=yM:=by rw[QY,T _ _ F.hasB,Uf]
 have hcA:(Value.ref C::bm).contains (.type "AttributeError")=yN:=by rw[QY,T _ _ F.noAttr];rfl
 have hcN:(Value.ref C::bm).contains (.type "NameError")=yN:=by rw[QY,T _ _ F.noName];rfl
 refine codeAny_builtinAt F.entry ?_;refine wpAt_bind ?_;refine wpAt_bind (wpAt_stack λp below=>wpAt_of_wpAny ?_)
 wp_walk
 refine wpAt_of_wpAny ?_;rw[F.owner]
 repeat (first|with_reducible refine wpAny_madeHere_exc F.canon hC ?_|with_reducible refine Qq hC ?_|(with_reducible refine QK hC ?_;first|rw[zS] | rw[hcA] | rw[hcN])|wp_step)
 rw[Jx];exact hq
def ML(M:Model)(C fI:Um)(h:Heap):Prop:=∀(A:Around)(E:Uj->Uk->Prop)(Q:yT->Uk->Prop)(h':Heap)(g:Array GenState)(d:Drawn)(t:Nat)(os:OsState),
 (∀b o,h.get? b=O o->h'.get? b=O o)->Q (O (.ref fI)) ⟨h',g,d,t,os⟩->Ur M A (typeLookup (.ref C) "__init__") Q E ⟨h',g,d,t,os⟩
def vZ(F:ExcBaseFacts B newId initId bmB)(T:Tail bmB bm){rest:yR}{fI:Um}{oI:Obj}{Q:Fin->Uk->Prop}
  (hC:h.get? C=O (excClassObj nm q C N bs bm hdct sn sub ab col dd k0 k1 k2 k3 k5 newId)) (hi:ML (model prog w) C fI h)
  (hfI:h.get? fI=O oI) (hfc:oI.cls=.type "function")
  (hq:∀h' e,Heap.MadeExcOf h h' e (.ref C) rest->h.objs.size<=e ->
   Ur (model prog w) A (call (.ref fI) (.ref e::rest)) (λr s'=>r=.none/\Q (.done (.ret (.ref e))) s') E ⟨h',g,d,t,os⟩) (hrest:rest.length<=Uq) :
  Ur (model prog w) A (Builtin.«type.__call__» ⟨.ref C::rest,[]⟩) Q E ⟨h,g,d,t,os⟩:=by
 repeat (first|with_reducible refine Qq hC ?_|with_reducible refine wpAny_madeBy_exc hC ?_|wp_step)
 refine codeAny_call_builtin_code (Code.quiet_builtin _ F.quiet) (v4 F T hC ?_);refine jA F T hC ?_ hrest;show Ur _ _ _ _ _ _
 have hC₁:=Qe {cls:=.ref C,data:=.fields #[.ref h.objs.size,.none,.none,.none,.bool yN,.none]}
  (Qe {cls:=.type "tuple", data:=.seq rest.toArray} hC)
 have hfI₁:=Qe {cls:=.ref C,data:=.fields #[.ref h.objs.size,.none,.none,.none,.bool yN,.none]}
  (Qe {cls:=.type "tuple", data:=.seq rest.toArray} hfI)
 have hget:((h.push {cls:=.type "tuple", data:=.seq rest.toArray}).push
   {cls:=.ref C,data:=.fields #[.ref h.objs.size,.none,.none,.none,.bool yN,.none]}).get? (h.objs.size+1)=O
   {cls:=.ref C,data:=.fields #[.ref h.objs.size,.none,.none,.none,.bool yN,.none]}:=by heap_get
 have hcC:(Value.ref C::bm).contains (.ref C)=yM:=by simp
 unfold isInstance
 repeat (first|with_reducible refine Qq hget ?_|(with_reducible refine QK hC₁ ?_;rw[hcC])|wp_step)
 refine hi _ _ _ _ _ _ _ _ (λb o hb=>Qe _ (Qe _ hb)) ?_;refine Jl (Qb ?_);unfold bindSpecial;refine Qb (wpAny_typeOf (T:= "function") ⟨_,hfI₁,hfc⟩ ?_);rw[Qp (by decide)];refine Qf (Qb (Qy (hq _ (h.objs.size+1) ⟨λb o hb=>Qe _ (Qe _ hb),Heap.get?_none_of_le (JM _),h.objs.size,hget,Heap.get?_none_of_le (Qo _),?_⟩ (JM _)) (λr s' hr=>?_) λ_ _ x=>x))
 .exact Qe _ (Heap.get?_push_at yK yK)
 .obtain⟨rfl,hQ⟩:=hr
  wp_walk
  exact hQ
def xU(F:ExcBaseFacts B newId initId bmB)(T:Tail bmB bm){rest:yR}{fI:Um}{oI:Obj}{Q}
  (hC:h.get? C=O (excClassObj nm q C N bs bm hdct sn sub ab col dd k0 k1 k2 k3 k5 newId)) (hi:ML (model prog w) C fI h)
  (hfI:h.get? fI=O oI) (hfc:oI.cls=.type "function")
  (hq:∀h' e,Heap.MadeExcOf h h' e (.ref C) rest->h.objs.size<=e ->
   Ur (model prog w) (A.under (.builtin "type.__call__" ⟨.ref C::rest,[]⟩)) (call (.ref fI) (.ref e::rest)) (λr s'=>r=.none/\Q (.ref e) s') E ⟨h',g,d,t,os⟩) (hrest:rest.length<=Uq) :
  Ur (model prog w) A (call (.ref C) rest) Q E ⟨h,g,d,t,os⟩:=by
 have f1:=tc_lookup;have f2:=tc_bind (.ref C);have hT:(⟨h,g,d,t,os⟩:Uk).TypeIs (.ref C) "type" :=⟨_,hC,rfl⟩
 refine wpAny_call (codeAny_of_tree ?_)
 repeat (any_goals (first|assumption|with_reducible refine Qq hC ?_|wp_step))
 refine⟨rfl,?_⟩;refine codeAny_call_builtin_at (Code.quiet_builtin _ (by decide +kernel)) entry_typeCall (wpAny_check_type_call_sub hC (vZ (hrest:=hrest) F T hC hi hfI hfc λh' e hm hz=>?_));exact hq h' e hm hz
end
def Zg(M:Model)(C:Um)(name:Str)(r:yT)(h:Heap):Prop:=∀(A:Around)(E:Uj->Uk->Prop)(Q:yT->Uk->Prop)(h':Heap)(g:Array GenState)(d:Drawn)(t:Nat)(os:OsState),
 (∀b o,h.get? b=O o->h'.get? b=O o)->Q r ⟨h',g,d,t,os⟩->Ur M A (typeLookup (.ref C) name) Q E ⟨h',g,d,t,os⟩
def Zg.keeps      (x:Zg M C name r h)(k:∀b o,h.get? b=O o->h'.get? b=O o):Zg M C name r h':=
 λA E Q h2 g d t os k2 q=>x A E Q h2 g d t os (λb o e=>k2 b o (k b o e)) q
def Zg.at    {Q}{C}{name}{r}{h}{g}{d}{t}{os}(x:Zg M C name r h)(q:Q r ⟨h,g,d,t,os⟩):Ur M A (typeLookup (.ref C) name) Q E ⟨h,g,d,t,os⟩:=
 x A E Q h g d t os (λ_ _ e=>e) q
section
variable{prog:Ul}{w:World}{A:Around}{E:Uj->Uk->Prop}{h:Heap}{g:Array GenState}{d:Drawn}{t:Nat}{os:OsState}{R:Result->Uk->Prop}
variable{nm q:Str}{C N x:Um}{bs bm bmB:yR}{hdct:Bool}{sn:List Str}{sub:yR}{ab:Bool}{col:yZ}{dd:yY}{k0 k1 k2 k3 k5:yT}{B newId sa owner:String}{mN mA:Str->yT}{name:Str}{v:Uj}
def Y5(M:Model)(l:yR)(name:Str)(r:yT)(h:Heap):Prop:=∀(A:Around)(E:Uj->Uk->Prop)(Q:yT->Uk->Prop)(h':Heap)(g:Array GenState)(d:Drawn)(t:Nat)(os:OsState),
 (∀b o,h.get? b=O o->h'.get? b=O o)->Q r ⟨h',g,d,t,os⟩->Ur M A (lookupAlong l name) Q E ⟨h',g,d,t,os⟩
def Y5.base  {y}(hm:mroOf (.type B)=pure bm)(hB:typeLookup (.type B) name=pure y):Y5 M bm name y h:=λA E Q h' g d t os k q=>by rw[typeLookup_eq,hm]at hB;have hrest:lookupAlong bm name=pure y:=hB;rw[hrest];exact Qf q
def Y5.hit  {D}{c0}{zr}{cd}{sl}(hD:h.get? D=O {cls:=c0,dict:=zr,data:=.cls cd,slots:=sl})(hn:h.Ns cd.ns mN)(hi:mN name=O v):Y5 M (.ref D::bm) name (O v) h:=λA E Q h' g d t os k q=>by rw[lookupAlong_cons];refine Qb (wpAny_classOwn_cls (k _ _ hD) (hn.keeps k) ?_);rw[hi];exact Qf q
def Y5.miss  {D}{r}{c0}{zr}{cd}{sl}(hD:h.get? D=O {cls:=c0,dict:=zr,data:=.cls cd,slots:=sl})(hn:h.Ns cd.ns mN)(hi:mN name=yL)(f:Y5 M bm name r h):Y5 M (.ref D::bm) name r h:=λA E Q h' g d t os k q=>by rw[lookupAlong_cons];refine Qb (wpAny_classOwn_cls (k _ _ hD) (hn.keeps k) ?_);rw[hi];exact f A E Q h' g d t os k q
def Zg.of   (hC:h.get? C=O (excClassObj nm q C N bs bm hdct sn sub ab col dd k0 k1 k2 k3 k5 newId))(f:Y5 M (.ref C::bm) name r h):Zg M C name r h:=λA E Q h' g d t os k q=>by rw[typeLookup_eq];exact Qb (wpAny_mroOf_exc (k _ _ hC) (f A E Q h' g d t os k q))
def xT{M:Model}{o:Obj}{nameV:Uj}{Q}(SF:StoreFacts B bmB sa owner)(T:Tail bmB bm)
  (hC:h.get? C=O (excClassObj nm q C N bs bm hdct sn sub ab col dd k0 k1 k2 k3 k5 newId)) (hx:h.get? x=O o) (hc:o.cls=.ref C) (hq:Q () ⟨h,g,d,t,os⟩) :
  Ur M A (checkBuiltinCall sa ⟨[.ref x,nameV,v],[]⟩) Q E ⟨h,g,d,t,os⟩:=by
 have zS:(Value.ref C::bm).contains (.type owner)=yM:=by rw[QY,T _ _ SF.hasOwner,Uf]
 have ha:=SF.args (.ref x) nameV v;simp only[checkBuiltinCall,SF.kind,SF.split]
 .unfold isInstance
  repeat (first|(with_reducible rw[hc])|(with_reducible refine QK hC ?_;rw[zS])|wp_step)
  cases hsig:Manifest.signature? sa with
  |none=>exact Qf hq
  |some sig=>simp only[argsOk,hsig]at ha;have h2   :=ha;show Ur M A (Bind.checkArgs sa sig ⟨[.ref x,nameV,v],[]⟩) Q E _;rw[h2];exact Qf hq
def yy{tk:Tok}{Q:PySem.Fin->Uk->Prop}{ns:List Str}(hpass:refuseLoop (.ref x) "__setattr__" bm=pure ())
  (hC:h.get? C=O (excClassObj nm q C N bs bm yM sn sub ab col dd k0 k1 k2 k3 k5 newId)) (hf:Zg (model prog w) C name yL h) (I:h.InstFk x C mA)
  (hq:∀h' tk',h'.InstFk x C (λy=>if y=name then O v else mA y) ->
   (∀b o,b≠x->(∀o₀ dx,h.get? x=O o₀->o₀.dict=O dx->b≠dx)->h.get? b=O o->h'.get? b=O o) ->
   (∀o₀,h.get? x=O o₀->∃o₁,h'.get? x=O o₁/\o₁.cls=o₀.cls/\o₁.data=o₀.data/\o₁.slots=o₀.slots/\∀dx,o₀.dict=O dx->o₁.dict=O dx)->(∀o₀ o₁ dx,h.get? x=O o₀->o₀.dict=yL->h'.get? x=O o₁->o₁.dict=O dx->h.objs.size<=dx)->Q (.done (.ret .none)) ⟨h',g,d,tk',os⟩) (hw:PySem.Within mA ns) (hsz:ns.length<=1000) :
  Ur (model prog w) A (Builtin.«object.__setattr__» ⟨[.ref x,.str name tk,v],[]⟩) Q E ⟨h,g,d,t,os⟩:=by
 obtain⟨o,hx,hc,hnc,hd⟩:=I;have hs2:ns.length<=Uq:=by rw[Jn];omega
 unfold Builtin.«object.__setattr__»
 repeat (first|rw[refuse_eq] | (rw[refuseLoop_ref,hpass])|(with_reducible refine Qq hx ?_;rw[hc])|with_reducible refine wpAny_mroOf_exc hC ?_|with_reducible refine hf.at ?_|wp_step)
 rcases hd with ⟨hdn,hmA⟩|⟨dx,zY,hne,hns,hed⟩
 ·
  rw[hdn,if_neg (by simp[typeHasDict])];split
  .rename_i hcd
   cases hcd
  split
  .rename_i c hcd
   exact absurd hcd (hnc c)
  .have hx₁:(h.push {cls:=.type "dict", data:=.dict #[]}).get? x=O o:=Qe _ hx
   have hxs:x≠h.objs.size:=QJ (Qg hx);refine Qb (wpAny_alloc' ?_);refine Qb (wpAny_update' hx₁ ?_);refine Qf ?_
   have hgd:((h.push {cls:=.type "dict", data:=.dict #[]}).update x λo=>{cls:=o.cls,dict:=O h.objs.size,data:=o.data,slots:=o.slots}).get? h.objs.size
     = O {cls:=.type "dict", data:=.dict #[]}:=
    (Heap.get?_update_ne _ _ _ _ hxs.symm).trans (Heap.get?_push_at yK yK)
   have hnd:((h.push {cls:=.type "dict", data:=.dict #[]}).update x λo=>{cls:=o.cls,dict:=O h.objs.size,data:=o.data,slots:=o.slots}).Ns h.objs.size (λ_=>yL):=
    ⟨_,#[],_,hgd,rfl,λe he=>absurd he (by simp),λ_=>rfl⟩
   show Ur _ _ (Builtin.ObjectAttr.storeInDict h.objs.size (.str name tk) name v) _ _ _;unfold Builtin.ObjectAttr.storeInDict Builtin.ObjectAttr.newKeyGuard;refine Qb (Qf (Qb (wpAny_nsSet1EFk (Heap.Ns1.of_empty hnd) λh' hn' hs zN=>?_)));obtain⟨oD,esD,epD,hoD,hdD,hcD⟩:=hn'.count (PySem.Within.cons name v PySem.Within.nil);refine Qb (wpAny_lookBehind hoD (by rw[hdD];exact pastItsLine_dict (QE hcD (by rw[QD,Qw,Jn];omega))) ?_)
   wp_walk
   have hx':h'.get? x=O {cls:=o.cls,dict:=O h.objs.size,data:=o.data,slots:=o.slots}:=?_
   refine hq h' _ ⟨{cls:=o.cls,dict:=O h.objs.size,data:=o.data,slots:=o.slots},hx',hc,hnc,.inr ⟨h.objs.size,rfl,hxs.symm,?_,(let ⟨od',e',c',d'⟩:=zN _ hgd;⟨od',e',c',d'⟩)⟩⟩ (λb ob hbx _ hb=>?_)
    (λo₀ h₀=>by obtain rfl:o=o₀:=QW (hx.symm.trans h₀);exact⟨_,hx',rfl,rfl,rfl,λdx e=>by rw[hdn]at e;cases e⟩)
    (λo₀ o₁ dx _ _ e1 e2=>by rw[hx']at e1;cases e1;cases e2;exact Qo _)
   .obtain⟨o',es,ep,e1,e2,e3,eu,e4⟩:=hn'
    exact⟨o',es,ep,e1,e2,e3,eu,λy=>by rw[e4 y];by_cases hy:y=name<;>simp[hy,hmA]⟩
   .exact(hs.2 b (QJ (Qg hb))).trans ((Heap.get?_update_ne _ _ _ _ hbx).trans (Qe _ hb))
   .refine(hs.2 x hxs).trans (Q7 _ hx₁ ?_)
    have hfr:=(Heap.get?_some_iff.mp hx).2;obtain⟨oc,od,odt,osl⟩:=o;cases odt<;>first|rfl|exact hfr
 ·
  rw[zY];refine Qf ?_;show Ur _ _ (Builtin.ObjectAttr.storeInDict dx (.str name tk) name v) _ _ _;unfold Builtin.ObjectAttr.storeInDict Builtin.ObjectAttr.newKeyGuard;refine Qb (Qf (Qb (wpAny_nsSet1EFk hns λh' hn' hs zN=>?_)));obtain⟨oD,esD,epD,hoD,hdD,hcD⟩:=hn'.count (PySem.Within.cons name v hw);refine Qb (wpAny_lookBehind hoD (by rw[hdD];exact pastItsLine_dict (QE hcD (by rw[QD,Jn];omega))) ?_)
  wp_walk
  refine hq h' _ ⟨o,(hs.2 x hne.symm).trans hx,hc,hnc,.inr ⟨dx,zY,hne,hn',(let ⟨od,e,c,dd⟩:=hed;let ⟨od',e',c',d'⟩:=zN od e;⟨od',e',c'.trans c,d'.trans dd⟩)⟩⟩ (λb ob _ hbd hb=>?_)
   (λo₀ h₀=>⟨o₀,(hs.2 x hne.symm).trans h₀,rfl,rfl,rfl,λ_ e=>e⟩)
   (λo₀ o₁ dx' e0 e1 _ _=>by rw[hx]at e0;cases e0;rw[zY]at e1;cases e1)
  exact(hs.2 b (hbd o dx hx zY)).trans hb
def Fb  {ns:List Str}(SF:StoreFacts B bmB sa owner)(T:Tail bmB bm)(hpass:refuseLoop (.ref x) "__setattr__" bm=pure ())
  (hC:h.get? C=O (excClassObj nm q C N bs bm yM sn sub ab col dd k0 k1 k2 k3 k5 newId)) (hfs:Zg (model prog w) C "__setattr__" (O (.builtin sa)) h) (hf:Zg (model prog w) C name yL h) (I:h.InstFk x C mA)
  (hq:∀h' tk',h'.InstFk x C (λy=>if y=name then O v else mA y) ->
   (∀b o,b≠x->(∀o₀ dx,h.get? x=O o₀->o₀.dict=O dx->b≠dx)->h.get? b=O o->h'.get? b=O o) ->
   (∀o₀,h.get? x=O o₀->∃o₁,h'.get? x=O o₁/\o₁.cls=o₀.cls/\o₁.data=o₀.data/\o₁.slots=o₀.slots/\∀dx,o₀.dict=O dx->o₁.dict=O dx)->(∀o₀ o₁ dx,h.get? x=O o₀->o₀.dict=yL->h'.get? x=O o₁->o₁.dict=O dx->h.objs.size<=dx)->Q () ⟨h',g,d,tk',os⟩) (hw:PySem.Within mA ns) (hsz:ns.length<=1000) :
  Ur (model prog w) A (setAttr (.ref x) name v) Q E ⟨h,g,d,t,os⟩:=by
 obtain⟨o,hx,hc,_⟩:=id I;have f3:=SF.slot.bind (.ref x)
 repeat (any_goals (first|assumption|(with_reducible rw[hc])|with_reducible refine hfs.at ?_|wp_step))
 refine Ja SF.slot.plain SF.entry (xT SF T hC hx hc (yy hpass hC hf I (λh' tk' I' hk hsame hnew=>?_) hw hsz))
 repeat (any_goals (first|assumption|wp_step))
 exact hq h' tk' I' hk hsame hnew
def Gn{M:Model}{o:Obj}{nameV:Uj}{Q:Unit->Uk->Prop}(T:Tail bmB bm)(hb:bmB.contains (.type "BaseException")=yM)(hC:h.get? C=O (excClassObj nm q C N bs bm hdct sn sub ab col dd k0 k1 k2 k3 k5 newId))
  (hx:h.get? x=O o) (hc:o.cls=.ref C) (hq:Q () ⟨h,g,d,t,os⟩):Ur M A (checkBuiltinCall "BaseException.__getattribute__" ⟨[.ref x,nameV],[]⟩) Q E ⟨h,g,d,t,os⟩:=by
 have hk:builtinKind "BaseException.__getattribute__" = O .slot:=by decide +kernel
 have hsplit:splitId "BaseException.__getattribute__" = O ("BaseException", "__getattribute__"):=by decide +kernel
 have zS:(Value.ref C::bm).contains (.type "BaseException")=yM:=by rw[QY,T _ _ hb];rfl
 have ha:=PySem.F.args_bexc_ga (.ref x) nameV;simp only[checkBuiltinCall,hk,hsplit];refine Qb ?_
 .unfold isInstance
  repeat (first|(with_reducible refine Qq hx ?_;rw[hc])|(with_reducible refine QK hC ?_;rw[zS])|wp_step)
  exact hq
def yh{tk:Tok}{Q:PySem.Fin->Uk->Prop}(hC:h.get? C=O (excClassObj nm q C N bs bm yM sn sub ab col dd k0 k1 k2 k3 k5 newId))(hf:Zg (model prog w) C name yL h)(I:h.InstFk x C mA)(hv:mA name=O v)(hq:Q (.done (.ret v)) ⟨h,g,d,t,os⟩) :
  Ur (model prog w) A (Builtin.«object.__getattribute__» ⟨[.ref x,.str name tk],[]⟩) Q E ⟨h,g,d,t,os⟩:=by
 obtain⟨o,hx,hc,hnc,hd⟩:=I;rcases hd with ⟨_,hmA⟩|⟨dx,zY,hne,hns,_⟩
 .rw[hmA name]at hv;cases hv
 unfold Builtin.«object.__getattribute__»
 repeat (first|(with_reducible refine Qq hx ?_;rw[hc])|with_reducible refine hf.at ?_|wp_step)
 split
 .rename_i c hcd
  exact absurd hcd (hnc c)
 unfold instanceDict
 repeat (first|(with_reducible refine Qq hx ?_;rw[hc])|with_reducible refine Qq hC ?_|wp_step)
 rw[zY]
 repeat (first|(with_reducible refine wpAny_nsGet hns.ns ?_;rw[hv])|wp_step)
 exact hq
def vY{expr:Bool}{Q:Uj->Uk->Prop}(FB:ExcAttrFacts B)(T:Tail bmB bm)(hb:bmB.contains (.type "BaseException")=yM)(hC:h.get? C=O (excClassObj nm q C N bs bm yM sn sub ab col dd k0 k1 k2 k3 k5 newId))
  (fg:Zg (model prog w) C "__getattribute__" (O (.builtin "BaseException.__getattribute__")) h) (fa:Zg (model prog w) C "__getattr__" none h) (hf:Zg (model prog w) C name yL h) (I:h.InstFk x C mA) (hv:mA name=O v) (hh:handedOut v=pure v) (hq:Q v ⟨h,g,d,t+1,os⟩) :
  Ur (model prog w) A (getAttr (.ref x) name expr) Q E ⟨h,g,d,t,os⟩:=by
 obtain⟨o,hx,hc,_⟩:=id I;have f3:=FB.ga.bind (.ref x);have hx0:(expr&&onTheHeap (Value.builtin "BaseException.__getattribute__"))=yN:=by cases expr<;>rfl
 have hx2:(Value.builtin "BaseException.__getattribute__" == Value.builtin "object.__getattribute__")=yN:=by decide +kernel
 have hx1:(onTheHeap (Value.ref C)&&Value.builtin "BaseException.__getattribute__" == Value.builtin "object.__getattribute__")=yN:=by rw[hx2];rfl
 unfold getAttr
 repeat (any_goals (first|assumption|(with_reducible refine Qq hx ?_;rw[hc])|with_reducible refine fg.at ?_|with_reducible refine fa.at ?_|wp_step))
 refine Ja FB.ga.plain PySem.F.entry_bexc_ga (Gn T hb hC hx hc (yh hC hf I hv ?_))
 repeat (any_goals (first|assumption|wp_step))
end
def W9   (f)(h:o.data=.fields vs):Obj.mapFields f o = {o with data:=.fields (f vs)}:=by obtain⟨c,d,dt,sl⟩:=o;cases h;rfl
def Tb(h:Heap)(e:Um)(vs:Array Uj)(fl:Uj):Prop:=∃T oT ts,vs[1]?=O (.ref T)/\T≠e/\h.get? T=O oT/\oT.data=.fields ts/\ts[3]?=O fl
def Fly(c:Bool)(h:Heap)(e:Um):Prop:=∃oe vs,h.get? e=O oe/\oe.data=.fields vs/\(vs[1]?=O .none∨Tb h e vs .none)/\(c=yM->vs[2]?=O .none)
def Fly.weak{c c1}{h}{e}(x:Fly c1 h e)(hcc:c=yM->c1=yM):Fly c h e:=let ⟨oe,vs,a,b,d,z⟩:=x;⟨oe,vs,a,b,d,λq=>z (hcc q)⟩
structure Pn(fs:yU)(e:Um)(h h':Heap):Prop where
 keep:∀b o,b≠e->b∉fs->h.get? b=O o->h'.get? b=O o
 slot:∀b o,b≠e->h.get? b=O o->∃sl,h'.get? b=O {o with slots:=sl}
 own:∀oe,h.get? e=O oe->∃vs,h'.get? e=O {oe with data:=.fields vs}
section
variable{M:Model}{A:Around}{E:Uj->Uk->Prop}{s:Uk}{base:Heap}{env:Env}{outer:List Env}{L e:Um}{c:Bool}
def newEntry{oe:Obj}{vs:Array Uj}{head:Uj}{hadNext:Bool}{Q:Unit->Uk->Prop}(hfr:A.frames=O (env::outer))(hl:s.heap.FunFrames base (env::outer))(hf:env.frame=O L)
  (he:s.heap.get? e=O oe) (hd:oe.data=.fields vs) (hsz:1<vs.size) (hc2:c=yM->vs[2]?=O .none)
  (h:∀h',Pn (frs (env::outer)) e s.heap h'->Fly c h' e->Q () {s with heap:=h'}) :
  Ur M A (do let a ←frameOf env;let pl ←entryPlaceOf L hadNext;let b ←EntryCells.newEntry head a .none (rawInt L) .none pl;setField (.ref e) 1 b) (λ_ s'=>Ur M A (setFlight (.ref e) yL) Q E s') E s:=by
 have hene:e∉(env::outer).filterMap (·.frame):=λhm=>by obtain⟨_,o,ho,hnf⟩:=hl.mem hm;rw[he]at ho;injection ho with ho;subst ho;exact hnf vs hd
 refine Qb (wpAny_frameOf_fun hfr hl hf λh₁ hs₁=>?_);refine Qb (wpAny_entryPlaceOf λpl hpl=>?_);unfold EntryCells.newEntry newFields;refine Qb (JN ?_ (hpl.sizeOk5 _ _ _ _ _));have he₁:h₁.get? e=O oe:=(hs₁.2.1 e hene).trans he;have he₂:=Qe (h:=h₁) {cls:=.type "traceback", dict:=yL,data:=.fields ([head,.ref L,.none,rawInt L,.none]++(if pl.isEmpty then Uv 6 Value.none else pl)).toArray} he₁;refine JJ he₂ hd hsz ?_;have aR:h₁.objs.size≠e:=Ju (Qg he₁);have hd₃:=Obj.data_mapFields hd (·.setIfInBounds 1 (Value.ref h₁.objs.size));have he₃:=Q7 (Obj.mapFields (·.setIfInBounds 1 (Value.ref h₁.objs.size))) he₂ (Obj.isFreed_of_fields hd₃)
 have hT₃:=(QP (h₁.push {cls:=.type "traceback", dict:=yL,data:=.fields ([head,.ref L,.none,rawInt L,.none]++(if pl.isEmpty then Uv 6 Value.none else pl)).toArray})
  (Obj.mapFields (·.setIfInBounds 1 (Value.ref h₁.objs.size))) (Ne.symm aR)).trans (Qt h₁ yK)
 unfold setFlight;refine wpAny_bind (wpAny_field he₃ hd₃ (x:=.ref h₁.objs.size) (by simp[hsz]) ?_);refine JJ hT₃ yK (by simp only[Q4,Qj,QD,Qw]<;>lia) (h _ ?_ ?_)
 .have keep:∀b o,b≠e->h₁.get? b=O o ->
    (((h₁.push {cls:=.type "traceback", dict:=yL,data:=.fields ([head,.ref L,.none,rawInt L,.none]++(if pl.isEmpty then Uv 6 Value.none else pl)).toArray}).update e (Obj.mapFields (·.setIfInBounds 1 (Value.ref h₁.objs.size)))).update h₁.objs.size
     (Obj.mapFields (·.setIfInBounds 3 ((none:yY).elim Value.none λf=>rawInt f)))).get? b=O o:=λb o zT hb=>by
   have aG:h₁.objs.size≠b:=Ju (Qg hb);rw[QP _ _ aG,QP _ _ (Ne.symm zT)];exact Qe _ hb
  refine⟨λb o hb hf hg=>keep b o hb ((hs₁.2.1 b hf).trans hg),λb o hb hg=>?_,λoe' z=>?_⟩
  .obtain⟨sl,hs⟩:=hs₁.2.2 b o hg
   exact⟨sl,keep b _ hb hs⟩
  .rw[he]at z;cases z
   exact⟨_,by rw[QP _ _ aR,he₃,W9 _ hd]⟩
 .refine⟨_,_,?_,hd₃,.inr ⟨h₁.objs.size,_,_,by simp[hsz],aR,Heap.get?_update_self _ hT₃ (Obj.isFreed_of_fields (Obj.data_mapFields rfl _)),Obj.data_mapFields rfl _,by first|(simp;done)|(rcases hpl with rfl|⟨_,_,_,_,_,_,_,rfl⟩<;>simp)⟩,?_⟩
  .rw[QP _ _ aR];exact he₃
  .intro z;rw[Array.getElem?_setIfInBounds_ne (by decide)];exact hc2 z
def Tv  (hfr:A.frames=O (env::outer))(hl:s.heap.FunFrames base (env::outer))(hf:env.frame=O L)(x:Fly c s.heap e)
  (h:∀h',Pn (frs (env::outer)) e s.heap h'->Fly c h' e->Q () {s with heap:=h'}):Ur M A (noteFrame (.ref e) env) (λ_ s'=>Ur M A (setFlight (.ref e) yL) Q E s') E s:=by
 obtain⟨oe,vs,he,hd,h1,h2⟩:=x;unfold noteFrame;simp only[hf];rcases h1 with h1|⟨T,oT,ts,h1,aR,hT,am,h3⟩
 .refine Qb (Q5 he hd h1 ?_)
  exact newEntry hfr hl hf he hd (JB.mp h1).1 h2 h
 .refine Qb (Q5 he hd h1 ?_)
  refine Qb (Q5 hT am h3 ?_);obtain⟨a9,hv3⟩:=JB.mp h3;refine Qb (JJ hT am a9 ?_)
  have same:∀b o,s.heap.get? b=O o->(s.heap.update T (Obj.mapFields (·.setIfInBounds 3 Value.none))).get? b=O o:=λb o hb=>by
   by_cases aG:b=T
   .subst aG
    rw[hT]at hb;cases hb;rw[Q7 _ hT (Obj.isFreed_of_fields (Obj.data_mapFields am _)),W9 _ am]
    have:ts.setIfInBounds 3 Value.none=ts:=by
     apply Array.ext_getElem?;intro i;rw[Array.getElem?_setIfInBounds];split
     .rename_i z
      subst z;exact h3.symm
     .rfl
    rw[this,←am]
   .rw[QP _ _ (Ne.symm aG)];exact hb
  exact newEntry hfr (hl.of_keeps λb o hb hnf=>⟨o,same b o hb,rfl⟩) hf (same e oe he) hd (JB.mp h1).1 h2
   λh' p t=>h h' ⟨λb o a c g=>p.keep b o a c (same b o g),λb o a g=>p.slot b o a (same b o g),λoe' z=>p.own oe' (same e oe' z)⟩ t
def Cf  (hfr:A.frames=O (env::outer))(hl:s.heap.FunFrames base (env::outer))(hf:env.frame=O L)(x:Fly c s.heap e)
  (h:∀h',Pn (frs (env::outer)) e s.heap h'->Fly c h' e->Q () {s with heap:=h'}):Ur M A (leaving env (.ref e)) Q E s:=by
 exact Qb (Tv hfr hl hf x h)
end
end L2
namespace L2
open PySem PySem.Spec PyProof.Rows PySem.Calls PyProof.V
noncomputable def XO(fr:Bool)(e C:Um)(dd:yY):Heap->Prop:=λh=>∃vs sl,h.get? e=O {cls:=.ref C,dict:=dd,data:=.fields vs,slots:=sl}/\(fr=yM->vs[1]?=O .none/\(∃t0,vs[0]?=O (.ref t0))/\vs[2]?=O .none/\4<vs.size)
def XO.ok    {h}{fr}{e C}{dd}(x:XO fr e C dd h):ZL P w H h e (.ext (XO fr e C dd)):=
 ⟨x,let ⟨_,_,q,_⟩:=x;⟨_,q⟩,λh1 h2 ⟨vs,sl,q,z⟩ k=>⟨vs,sl,k _ q,z⟩⟩
def XO.fly  {h}{e C}{dd}(x:XO yM e C dd h):Fly c h e:=let ⟨vs,_,q,z⟩:=x;⟨_,vs,q,rfl,.inl (z yK).1,λ_=>(z yK).2.2.1⟩
def XO.old  {fr}{e C}{dd}(x:XO fr e C dd h):XO yN e C dd h:=let ⟨vs,sl,q,_⟩:=x;⟨vs,sl,q,λz=>nomatch z⟩
def YW(c:Bool)(P:Ul)(w:World):CXT:=λouter H s E v s'=>∃e C dd H',v=.ref e/\s'.os=s.os/\AllBare s'.gens/\Un (frs outer) [] H H' s.heap s'.heap/\HOk P w H' s'.heap/\H' e=O (.ext (XO yN e C dd))/\Fly c s'.heap e/\E (.ref e) yL H'
abbrev CX1:=YW yM
section
variable{X:Cx}{pins:List (Um×Obj)}{σ:St}{H:Hp}{s:Uk}{e C:Um}{dd:yY}{h':Heap}
def Inv.passed(I:Inv X pins σ H s)(hx:H e=O (.ext (XO yN e C dd)))(p:Pn (frs X.stack) e s.heap h'):Inv X pins σ H {s with heap:=h'}:=by
 have ne:∀b,H b=yL->b≠e:=λb n z=>by rw[z,hx]at n;cases n
 refine I.call    (ch:=[]) ⟨λb o g n f _=>p.keep b o (ne b n) f g,λb o g n _ _=>p.slot b o (ne b n) g,λb o _ n _=>n,λb o g _=>?_,λ_ _ z=>z,λ_ _ _ z=>z,λb ps z=>⟨#[],by rw[z];simp⟩⟩ (λa o q=>?_) I.bare λb z=>absurd z (by simp)
 .by_cases hb:b=e
  .subst hb
   obtain⟨vs,z⟩:=p.own o g;exact⟨_,z⟩
  .obtain⟨sl,z⟩:=p.slot b o hb g
   exact⟨_,z⟩
 .by_cases ha:a=e
  .subst ha
   rw[hx]at q;cases q;obtain⟨⟨vs,sl,g,_⟩,_,_⟩:=I.hok a _ hx;obtain⟨vs',z⟩:=p.own _ g;exact XO.ok ⟨vs',sl,z,λz=>nomatch z⟩
  .refine(I.hok a o q).stay (λb u hb g=>p.keep b u ?_ (λz=>?_) g) (λ_ z=>z) λ_ _ z=>z
   .rcases hb with rfl|hb
    .exact ha
    .rintro rfl;rw[hx]at hb;cases hb
   .have n:=I.stkFree b z
    rcases hb with rfl|hb
    .rw[q]at n;cases n
    .rw[hb]at n;cases n
def Xu(c:Bool)(X:Cx)(KX:V->St->Hp->Prop):Prop:=∀(pins:List (Um×Obj))(σ:St)(H:Hp)(s:Uk)(e C:Um)(dd:yY),Inv X pins σ H s->H e=O (.ext (XO yN e C dd))->Fly c s.heap e->KX (.ref e) σ H->X.xe (.ref e) s
def jz    {K}{mg}{base}{N}{qual}{scope}{f}{cd}{A}{outer}{s₀}{H₀}{E} :
  Xu c (Zl (YW c P w) P w K mg base N qual scope f cd A outer s₀ H₀ E) λv _ H=>∃e,v=.ref e/\E (.ref e) yL H:=by
 intro pins σ H s e C dd I hx fl ⟨e',ee,hE⟩;cases ee;refine Cf  I.ok.frames I.stack yK fl λh' p fl'=>?_;have I':=I.passed hx p
 exact⟨e,C,dd,H,rfl,I'.os,I'.bare,I'.base,I'.hok,hx,fl',hE⟩
def Xu.pass  {KX}{E}{v}{s'}(hw:Xu c X KX)(hcc:c=yM->c1=yM)(I:Inv X pins σ H s)(h:YW c1 X.prog X.w X.stack H s E v s')(hk:∀e H,E (.ref e) yL H->KX (.ref e) σ H):X.xe v s':=by obtain⟨e,C,dd,H',rfl,os,bare,un,hok,hx,fl,hE⟩:=h;obtain⟨hh,g,d,t,os'⟩:=s';obtain rfl:os'=s.os:=os;exact hw pins σ H' _ e C dd (I.call      un hok bare (λb z=>absurd z (by simp))) hx (fl.weak hcc) (hk e H' hE)
end
noncomputable abbrev VB:yR:=[.type "ValueError", .type "Exception", .type "BaseException", .type "object"]
structure XCls(M:Model)(base:Heap)(C:Um)(bm:yR)(fI:Um):Prop where
 obj:∃nm q N bs sn sub ab col dd k0 k1 k2 k3 k5,base.get? C=O (excClassObj nm q C N bs bm yM sn sub ab col dd k0 k1 k2 k3 k5 "ValueError.__new__")
 tail:Tail VB bm
 init:Zg M C "__init__" (O (.ref fI)) base
 fn:∃o,base.get? fI=O o/\o.cls=.type "function"
 sa:Zg M C "__setattr__" (O (.builtin "object.__setattr__")) base
 ga:Zg M C "__getattribute__" (O (.builtin "BaseException.__getattribute__")) base
 gh:Zg M C "__getattr__" none base
 cl:Zg M C "__class__" (O (.builtin "object.__class__")) base
 pass:∀v,refuseLoop v "__setattr__" bm=pure ()
section
variable{X:Cx}{k:Nat}{f C:Um}{fd:Uo}{ps:List Str}{sp:Sp}{x:Str}{p pos cpos:Pos}{e:Up}{es:yS}{t:TA}{bm:yR}
def xS  {σ:St}{H:Hp}{s:Uk}{Q:VK}{us:yR}{vs:List V}(M:XCls (model X.prog X.w) X.base C bm f)(F:FnOk X.prog X.w X.K X.mg X.base CX0 k f fd ps sp)(hr:Room (k+1) X.A)(hb:YC X.K fd ps [])
  (I:Inv X pins σ H s) (r:Vals vs us) (hl:us.length<=Uq)
  (h:∀a,H a=yL->sp (.ref a::vs) (upd H a (.ext (XO yM a C yL))) (λv H2=>v=.non/\Q (.ref a) H2) E0) :
  Ur (model X.prog X.w) X.A (call (.ref C) us) (EP X pins σ Q) X.xe s:=by
 obtain⟨nm,q,N,bs,sn,sub,ab,col,dd,k0,k1,k2,k3,k5,hC⟩:=M.obj;obtain⟨oI,hfI,hfc⟩:=M.fn;obtain⟨hp,g,d,tk,os⟩:=s;refine xU PySem.F.excBase_ValueError M.tail (I.bk _ _ hC) (fI:=f) (M.init.keeps I.bk) (I.bk _ _ hfI) hfc (λh' a made hz=>?_) hl;obtain⟨t',he,htn,ht⟩:=made.there;have I2:Inv X pins σ (upd H a (.ext (XO yM a C yL))) ⟨h',g,d,tk,os⟩:=I.laid (t':=tk) made.keeps hz (XO.ok ⟨_,_,he,λ_=>⟨rfl,⟨_,rfl⟩,rfl,by simp⟩⟩);have hq:=h a (I.hok.fresh hz);have r2:Vals (V.ref a::vs) _:=.cons yK r;have hl2:(Value.ref a::us++[]).length=ps.length:=by have e:=r2.length;rw[F.len _ _ _ _ hq]at e;rw[Q3];exact e.symm
 refine wpAny_call (JH (F.run _ X.stack _ _ ⟨Value.ref a::us,[]⟩ _ _ _ E0 (hr.make C us []) (I2.env0.make C us []) (by have:=hb _ (Value.ref a::us) I2.kIn hl2;rwa[Q3]at this) r2 hq) λr s' zM=>?_);cases r with
 |error e=>exact zM.elim
 |ok fl=>
  cases fl with
  |ret u=>obtain⟨v,H',I3,rv,ev,q3⟩:=I2.after zM;subst ev;exact⟨rv,⟨V.ref a,H',I3,rfl,q3⟩⟩
  |next=>exact False.elim zM
  |brk=>exact False.elim zM
  |cont=>exact False.elim zM
def tMkX(C:Um)(sp:Sp)(t:TA):TE:=λσ H Q=>t σ H λvs H1=>vs.length<=Uq/\∀a,H1 a=yL->sp (.ref a::vs) (upd H1 a (.ext (XO yM a C yL))) (λv H2=>v=.non/\Q (.ref a) H2) E0
def jy(M:XCls (model X.prog X.w) X.base C bm f)(F:FnOk X.prog X.w X.K X.mg X.base CX0 k f fd ps sp)(hr:Room (k+1) X.A)(hg:Gl X x)(hm:X.mg x=O (.ref C))(hk:PySem.W.keepIn X.K (.ref C)=yM)(hb:YC X.K fd ps [])
  (ha:PA X (e::es) t) (hdb:(x==("__debug__" : Str))=yN:=by decide) (he:Us (e::es) X.env=(yN,eval e X.env)::Us es X.env:=by rfl) (hpl:(backTo pos (Us es X.env)).any (·.1)=yN:=by rfl) :
  PE X (.Call (.Name x p) (e::es) [] pos) (tMkX C sp t):=by
 intro pins s σ H Q I h;refine Jr (VM I hg hm ?_ hdb);refine PySem.W.callWith_K  I.ok.mod.kin hk (thn (ha pos pins s σ H _ I h) λus s1 ⟨vs,H1,I1,r,hl,q⟩=>⟨I1.kIn,?_⟩) he hpl;exact xS M F hr hb I1 r (by show us.length<=Uq;rw[←r.length];simp_all) q
def Ce(KC:Um->Prop)(te:TE)(KX:V->St->Hp->Prop):TS:=λ_ σ H=>te σ H λv H2=>∃a C dd,v=.ref a/\KC C/\H2 a=O (.ext (XO yM a C dd))/\KX (.ref a) σ (upd H2 a (.ext (XO yN a C dd)))
def xR  {A:Around}{E}{env:Env}{s:Uk}{Q}{y:Sem Uj}
  (hh:A.handled=yL) (h:Ur M A y (λv s₁=>∃a C dd vs sl nm q N bs bm hdct sn sub ab col zr k0 k1 k2 k3 k5 newId,v=.ref a/\bm.contains (.type "BaseException")=yM/\s₁.heap.get? C=O (excClassObj nm q C N bs bm hdct sn sub ab col zr k0 k1 k2 k3 k5 newId) /\
   s₁.heap.get? a=O {cls:=.ref C,dict:=dd,data:=.fields vs,slots:=sl}/\vs[1]?=O .none/\E (.ref a) s₁) E s) :
  Ur M A (raiseStmt env (O y) yL) Q E s:=by
 refine Qb (Qy h (λv s₁ h₁=>?_) λ_ _ x=>x);obtain⟨a,C,dd,vs,sl,nm,q,N,bs,bm,hdct,sn,sub,ab,col,zr,k0,k1,k2,k3,k5,newId,rfl,hbase,hC,he,h1,hE⟩:=h₁;have zS:(Value.ref C::bm).contains (.type "BaseException")=yM:=by rw[QY,hbase,Uf]
 repeat (first|with_reducible refine Q5 he yK h1 ?_|with_reducible refine Qq he ?_|with_reducible refine Qq hC ?_|(with_reducible refine QK hC ?_;rw[zS])|wp_step)
 exact wpAny_raiseNew_none hh hE
def Inv.aged  {σ:St}{H}{s}{a C}{dd}(I:Inv X pins σ H s)(hx:H a=O (.ext (XO yM a C dd))):Inv X pins σ (upd H a (.ext (XO yN a C dd))) s:=by obtain⟨x,_,_⟩:=I.hok a _ hx;have:=I.write    (t':=s.toks)  (by rw[hx];trivial) (.inl yK) (λ_ _ _ q=>q) (let ⟨_,_,q,_⟩:=x;⟨_,q⟩) (XO.ok x.old);simp_all
def jw  {KC}{te}{KX}{exc}(hc:X.calm=yM)(hcls:∀C,KC C->∃bm fI,XCls (model X.prog X.w) X.base C bm fI)(hw:Xu c X KX)(ht:PE X exc te):PS X (.Raise (O exc) yL pos) (Ce KC te KX):=by intro pins s σ H D I h;refine Qb (Jm ?_);refine xR (I.ok.hd hc) (Qb (thn (ht pins s σ H _ I h) λu s1 ⟨v,H2,I2,rv,a,C,dd,ev,kc,hx,kx⟩=>Qb (Jm (Qf ?_))));subst ev;obtain rfl:u=Value.ref a:=rv;obtain⟨bm,fI,M⟩:=hcls C kc;obtain⟨nm,q,N,bs,sn,sub,ab,col,zr,k0,k1,k2,k3,k5,hC⟩:=M.obj;obtain⟨⟨vs,sl,g,z⟩,_,_⟩:=I2.hok a _ hx;exact⟨a,C,dd,vs,sl,nm,q,N,bs,bm,yM,sn,sub,ab,col,zr,k0,k1,k2,k3,k5,_,rfl,M.tail _ _ yK,I2.bk _ _ hC,g,(z yK).1,hw pins σ _ s1 a C dd (I2.aged hx) Kz (XO.fly ⟨vs,sl,g,z⟩) kx⟩
end
section
variable{M:Model}{A:Around}{E:Uj->Uk->Prop}{h:Heap}{g:Array GenState}{d:Drawn}{t:Nat}{os:OsState}
variable{nm q zP q':Str}{C N D N' a:Um}{bs bm bs' bm':yR}{hdct ah:Bool}{sn sn':List Str}{sub sub':yR}{ab au:Bool}{col col':yZ}{dd zr:yY}{k0 k1 k2 k3 k5 j0 j1 j2 j3 j5:yT}{newId newId':String}
def Nh{o:Obj}{b:Bool}{Q}(hC:h.get? C=O (excClassObj nm q C N bs bm hdct sn sub ab col dd k0 k1 k2 k3 k5 newId))(hD:h.get? D=O (excClassObj zP q' D N' bs' bm' ah sn' sub' au col' zr j0 j1 j2 j3 j5 newId'))
  (hbase:bm'.contains (.type "BaseException")=yM) (ha:h.get? a=O o) (hc:o.cls=.ref C) (hb:(Value.ref C::bm).contains (.ref D)=b) (hq:Q b ⟨h,g,d,t,os⟩):Ur M A (excMatches (.ref a) (.ref D)) Q E ⟨h,g,d,t,os⟩:=by
 have zS:(Value.ref D::bm').contains (.type "BaseException")=yM:=by rw[QY,hbase,Uf]
 have f1:=tc_notTuple
 repeat (any_goals (first|assumption|(with_reducible rw[hc])|with_reducible refine Qq hD ?_|with_reducible refine Qq hC ?_|(with_reducible refine QK hD ?_;rw[zS])|(with_reducible refine QK hC ?_;rw[hb])|wp_step))
 cases b<;>(wp_walk;exact hq)
end
def Cd(sp:Sp)(KX:V->St->Hp->Prop)(t:TA):TE:=λσ H Q=>t σ H λvs H1=>sp vs H1 Q λv _ H'=>∀a,v=.ref a->KX (.ref a) σ H'
section
variable{X:Cx}{k:Nat}{f:Um}{fd:Uo}{ps:List Str}{sp:Sp}{x n:Str}{p pos np hpos:Pos}{e:Up}{es:yS}{t:TA}{KX:V->St->Hp->Prop}
def jv{c c1}(F:FnOk X.prog X.w X.K X.mg X.base (YW c1 X.prog X.w) k f fd ps sp)(hr:Room k X.A)(hg:Gl X x)(hm:X.mg x=O (.ref f))(hk:PySem.W.keepIn X.K (.ref f)=yM)(hb:YC X.K fd ps [])(hw:Xu c X KX)
  (ha:PA X (e::es) t) (hcc:c=yM->c1=yM:=by decide) (hdb:(x==("__debug__" : Str))=yN:=by decide) (he:Us (e::es) X.env=(yN,eval e X.env)::Us es X.env:=by rfl) (hpl:(backTo pos (Us es X.env)).any (·.1)=yN:=by rfl) :
  PE X (.Call (.Name x p) (e::es) [] pos) (Cd sp KX t):=by
 intro pins s σ H Q I h;refine Jr (VM I hg hm ?_ hdb);refine PySem.W.callWith_K  I.ok.mod.kin hk (thn (ha pos pins s σ H _ I h) λus s1 ⟨vs,H1,I1,r,q⟩=>⟨I1.kIn,?_⟩) he hpl;have hl:(us++[]).length=ps.length:=by rw[Q3,←r.length];exact F.len _ _ _ _ q
 refine wpAny_call (codeAny_mono (F.run X.A X.stack s1 H1 ⟨us,[]⟩ us vs Q _ hr I1.env0 (by have:=hb s1 us I1.kIn hl;simp_all) r q) λr s' hq=>?_);cases r with
 |error e=>exact hw.pass hcc (E:=λv _ H'=>∀a,v=.ref a->KX (.ref a) σ H') I1 hq λa H' z=>z a yK
 |ok fl=>
  cases fl with
  |ret u=>exact I1.after hq
  |next=>exact False.elim hq
  |brk=>exact False.elim hq
  |cont=>exact False.elim hq
noncomputable abbrev Cx.suite(X:Cx)(a:Um):Cx:={X with A:=X.A.mark (O (.ref a)),calm:=yN,xe:=λ_ _=>False}
def Cx.Ok.suite(ok:X.Ok)(a):(X.suite a).Ok:=
 ⟨ok.mod,ok.kind,ok.glob,ok.blt,ok.above,ok.inj,ok.has,ok.cab,λz=>(nomatch z),ok.frames,ok.stk,ok.exf,ok.bs,ok.bsz,ok.noex,ok.exfs,ok.funs,ok.frf⟩
def Inv.suite  {σ:St}{H}{s}(I:Inv X pins σ H s)(a):Inv (X.suite a) pins σ H s:=⟨I.ok.suite a,I.os,I.bare,I.base,I.loc,I.cell,I.free,I.freeC,I.pin,I.hok,I.len⟩
def Inv.unsuite  {σ σ':St}{H H':Hp}{s s'}{a}(I0:Inv X pins σ H s)(I:Inv (X.suite a) pins σ' H' s'):Inv X pins σ' H' s':=⟨I0.ok,I.os,I.bare,I.base,I.loc,I.cell,I.free,I.freeC,I.pin,I.hok,I.len⟩
def SL{pins:List (Um×Obj)}{σ:St}{H:Hp}{s:Uk}{i:Nat}{Q:Unit->Uk->Prop}{E:Uj->Uk->Prop}{A:Around}(I:Inv X pins σ H s)(hN:X.N.Nodup)(hi:X.N[i]?=O n)(hl:X.env.kindOf n=O .local)
  (h:∀s',Inv X pins (σ.set i yL) H s'->Q () s'):Ur (model X.prog X.w) A (do bindName X.env n .none;unbindBehindTheSuite X.env n pos) Q E s:=by
 have hcls:(X.env.scope.kind==.class || (X.env.scope.kind==.module&&X.env.locals != X.env.globals))=yN:=by rw[I.ok.kind];rfl
 refine Qb (wpAny_bindName (SH (v:=.non) (u:=.none) I hN hi (.inl hl) yK (λs1 I1=>?_) (.inr hl)));unfold unbindBehindTheSuite;refine wpAny_onRaise ?_;unfold unbindName;refine Qb (wpAny_point (Qb ?_));unfold deleteName;simp only[hl,hcls];rw[QH (by decide)];obtain⟨m,hn,hlk⟩:=id I1.loc;have hiσ:i<σ.length:=by rw[I.len];exact(Ql.mp hi).1
 refine Qb (wpAny_nsDel_keeps hn λh' v hn' hs=>?_)
 have hsome:(m n).isSome=yM:=by
  obtain⟨u,_,l⟩:=hlk i n .non hi (by rw[QG hiσ]) (.inl hl);rcases l with ⟨_,l⟩|⟨k,_⟩
  .rw[l];rfl
  .rcases k with k|k
   .rw[hl]at k;cases k
   .rw[hl]at k;cases k
 rw[hsome];refine Qf (wpAny_point (h _ ?_));have neL:∀b o,X.s₀.heap.get? b=O o->b≠X.env.locals:=λb o e=>QJ (QA (Qg e) I.ok.above)
 refine⟨I1.ok,I1.os,I1.bare,⟨λb o e n hb hx=>(hs.2 b (neL b o e)).trans (I1.base.keep b o e n hb hx),λb o e n hb hx=>?_,I1.base.free,λb o e hx=>?_,I1.base.tups,I1.base.frzs,I1.base.tbls⟩,⟨_,hn',λj y v' e1 e2 e3=>?_⟩,λy c e=>?_,I1.free,I1.freeC,λp hp=>?_,λb ob e=>?_,?_⟩
 .obtain⟨sl,e1⟩:=I1.base.slot b o e n hb hx
  exact⟨sl,(hs.2 b (neL b o e)).trans e1⟩
 .obtain⟨o',e1⟩:=I1.base.there b o e hx
  exact⟨o',(hs.2 b (neL b o e)).trans e1⟩
 .have hj:j≠i:=by
   rintro rfl;rw[QG hiσ]at e2;cases e2
  rw[Qk (Ne.symm hj)]at e2;obtain⟨u',r',q⟩:=hlk j y v' e1 (by rw[Qk (Ne.symm hj)];exact e2) e3;have hy:y≠n:=by rintro rfl;obtain⟨h1,h2⟩:=Ql.mp e1;obtain⟨h3,h4⟩:=Ql.mp hi;exact hj ((List.getElem_inj hN).mp (h2.trans h4.symm))
  refine⟨u',r',?_⟩;rcases q with ⟨q1,q2⟩|⟨k,c,e,z⟩
  .exact .inl ⟨q1,(QH hy).trans q2⟩
  .obtain⟨o,ho,hd⟩:=z
   exact .inr ⟨k,c,e,o,(hs.2 c (I1.cne y c e)).trans ho,hd⟩
 .obtain⟨v',o,ho,hd⟩:=I1.cell y c e
  exact⟨v',o,(hs.2 c (I1.cne y c e)).trans ho,hd⟩
 .obtain⟨a,b,c,d⟩:=I1.pin p hp
  exact⟨(hs.2 _ c).trans a,b,c,d⟩
 .refine(I1.hok b ob e).stay (λc w' hc q=>(hs.2 c ?_).trans q) (λ_ q=>q) λ_ _ q=>q
  rintro rfl;rcases hc with rfl|hc
  .rw[I1.free]at e;cases e
  .rw[I1.free]at hc;cases hc
 .rw[QZ];exact I.len
def Fo    {E}{s:Uk}{a:Um}{Q}(fl:Fly c s.heap a)(h:∀h',(∀b o,s.heap.get? b=O o->h'.get? b=O o)->Q () {s with heap:=h'}):Ur M A (setFlight (.ref a) yL) Q E s:=by
 obtain⟨oe,vs,he,hd,h1,_⟩:=fl;rcases h1 with h1|⟨T,oT,ts,h1,aR,hT,am,h3⟩
 .refine Qb (Q5 he hd h1 ?_)
  exact Qf (h s.heap λ_ _ q=>q)
 .obtain⟨a9,hv3⟩:=JB.mp h3
  refine Qb (Q5 he hd h1 ?_);refine JJ hT am a9 (h _ λb o hb=>?_);by_cases aG:b=T
  .subst aG
   rw[hT]at hb;cases hb;rw[Q7 _ hT (Obj.isFreed_of_fields (Obj.data_mapFields am _)),W9 _ am];have   :=Array.setIfInBounds_same _ _ _ h3;show O {oT with data:=.fields (ts.setIfInBounds 3 Value.none)}=_;rw[this,←am]
  .rw[QP _ _ (Ne.symm aG)];exact hb
def To(KC:Um->yR->Prop)(D:Um)(i:Nat)(ts:TS)(Dn:Ends):V->St->Hp->Prop:=λv σ H=>∃a C dd bm,v=.ref a/\KC C bm/\H a=O (.ext (XO yN a C dd))/\(Value.ref C::bm).contains (.ref D)=yM /\
 ts {nx:=λσ' H'=>Dn.nx (σ'.set i yL) H',rt:=Dn.rt,bk:=λσ' H'=>Dn.bk (σ'.set i yL) H',ct:=λσ' H'=>Dn.ct (σ'.set i yL) H'} (σ.set i (O (.ref a))) H
def tTry(KC:Um->yR->Prop)(D:Um)(i:Nat)(tb:(V->St->Hp->Prop)->TS)(ts:TS):TS:=λDn σ H=>tb (To KC D i ts Dn) Dn σ H
noncomputable abbrev Cx.tried(X:Cx)(W:Uj->Uk->Prop)(pins:List (Um×Obj)):Cx:={X with xe:=W,pn:=X.pn++pins}
def Inv.tried  {σ:St}{H}{s}(I:Inv X pins σ H s)(W):Inv (X.tried W pins) [] σ H s:=
 ⟨⟨I.ok.mod,I.ok.kind,I.ok.glob,I.ok.blt,I.ok.above,I.ok.inj,I.ok.has,I.ok.cab,I.ok.hd,I.ok.frames,I.ok.stk,I.ok.exf,I.ok.bs,I.ok.bsz,I.ok.noex,I.ok.exfs,I.ok.funs,I.ok.frf⟩,I.os,I.bare,I.base,I.loc,I.cell,I.free,I.freeC,λp hp=>I.pin p (by simpa using hp),I.hok,I.len⟩
def Inv.untried  {σ σ':St}{H H'}{s s'}{W}(I0:Inv X pins σ H s)(I:Inv (X.tried W pins) pins' σ' H' s'):Inv X pins σ' H' s':=
 ⟨I0.ok,I.os,I.bare,I.base,I.loc,I.cell,I.free,I.freeC,λp hp=>I.pin p (JK _ hp),I.hok,I.len⟩
def Cc  {D fD:Um}{bmD:yR}{i:Nat}{tb:(V->St->Hp->Prop)->TS}{ts:TS}{body suite:List Stmt}{b₀:Stmt}{st:List Env}(zp:X.stack=X.env::st)(hfr:X.env.frame=O X.env.locals)
  (hcls:∀C bm,KC C bm->∃fI,XCls (model X.prog X.w) X.base C bm fI) (hD:XCls (model X.prog X.w) X.base D bmD fD) (hg:Gl X x) (hm:X.mg x=O (.ref D)) (hN:X.N.Nodup) (hi:X.N[i]?=O n) (hl:X.env.kindOf n=O .local)
  (hb:∀(KX:V->St->Hp->Prop)(W:Uj->Uk->Prop)(pn:List (Um×Obj)),Xu yN (X.tried W pn) KX->PSs (X.tried W pn) body (tb KX)) (hs:∀a,PSs (X.suite a) (b₀::suite) ts) (hdb:(x==("__debug__" : Str))=yN:=by decide) :
  PS X (.Try body [.ExceptHandler (O (.Name x np)) (O n) (b₀::suite) hpos] [] [] pos) (tTry KC D i tb ts):=by
 intro pins s σ H Dn I h;refine wpAny_Try_except ?_
 let W:Uj->Uk->Prop:=λv s1=>∃a σ1 H1,v=.ref a/\Inv X pins σ1 H1 s1/\Fly yN s1.heap a/\To KC D i ts Dn (.ref a) σ1 H1
 have hw:Xu yN (X.tried W pins) (To KC D i ts Dn):=λpins' σ1 H1 s1 a C dd I1 hx fl hk=>⟨a,σ1,H1,rfl,I.untried I1,fl,hk⟩;refine Qy (hb _ W pins hw [] s σ H Dn (I.tried W) h) (λf s1 h1=>?_) λv s1 h1=>?_
 .cases f with
  |next=>obtain⟨σ',H',I',q⟩:=h1;exact JG ⟨σ',H',I.untried I',q⟩
  |brk=>obtain⟨σ',H',I',q⟩:=h1;exact⟨σ',H',I.untried I',q⟩
  |cont=>obtain⟨σ',H',I',q⟩:=h1;exact⟨σ',H',I.untried I',q⟩
  |ret u=>obtain⟨v,σ',H',I',r,q⟩:=h1;exact⟨v,σ',H',I.untried I',r,q⟩
 .obtain⟨a,σ1,H1,rfl,I1,fl,a',C,dd,bm,ea,kc,hx,hm',q⟩:=h1
  cases ea;obtain⟨fI,XC⟩:=hcls C bm kc;have hk:=I1.ok.frames;rw[zp]at hk;have hS:=I1.stack;rw[zp]at hS;refine Tv hk hS hfr fl λh2 p2 fl2=>?_;rw[←zp]at p2;have I2:=I1.passed hx p2;refine wpAny_handleBy_cons (codeAny_handlers_test ?_) (by intro q;cases q)
  refine VM (I2.suite a) hg hm ?_ hdb;obtain⟨nm,qn,N,bs,sn,sub,ab,col,aT,k0,k1,k2,k3,k5,hC⟩:=XC.obj;obtain⟨zP,qn',N',bs',sn',sub',au,col',dd2,j0,j1,j2,j3,j5,zI⟩:=hD.obj;obtain⟨⟨vs,sl,ga,_⟩,_,_⟩:=I2.hok a _ hx;refine Nh (I2.bk _ _ hC) (I2.bk _ _ zI) (hD.tail _ _ yK) ga yK hm' ?_;refine codeAny_handlers_suite_as (Fo fl2 λh3 k3=>?_);have I3:=I2.kept (t':=s1.toks) k3;refine SH (v:=.ref a) I3 hN hi (.inl hl) yK (λs4 I4=>?_) (.inr hl);refine Qy (hs a pins s4 _ H1 _ (I4.suite a) q) (λf s5 h5=>?_) λ_ _ z=>z.elim
  cases f with
  |next=>obtain⟨σ',H',I',q'⟩:=h5;exact SL (I3.unsuite I') hN hi hl λs6 I6=>⟨_,H',I6,q'⟩
  |brk=>obtain⟨σ',H',I',q'⟩:=h5;exact SL (I3.unsuite I') hN hi hl λs6 I6=>⟨_,H',I6,q'⟩
  |cont=>obtain⟨σ',H',I',q'⟩:=h5;exact SL (I3.unsuite I') hN hi hl λs6 I6=>⟨_,H',I6,q'⟩
  |ret u=>obtain⟨v,σ',H',I',r,q'⟩:=h5;exact SL (I3.unsuite I') hN hi hl λs6 I6=>⟨v,_,H',I6,r,q'⟩
end
section
variable{prog:Ul}{w:World}{A:Around}{E:Uj->Uk->Prop}{h:Heap}{g:Array GenState}{d:Drawn}{t:Nat}{os:OsState}
variable{nm q:Str}{C N a:Um}{bs bm bmB:yR}{hdct:Bool}{sn:List Str}{sub:yR}{ab:Bool}{col:yZ}{dd:yY}{k0 k1 k2 k3 k5:yT}{B newId initId nid:String}
def yg(F:ExcBaseFacts B nid initId bmB)(T:Tail bmB bm){M:Model}{oe:Obj}{rest:yR}{Q}
  (hC:h.get? C=O (excClassObj nm q C N bs bm hdct sn sub ab col dd k0 k1 k2 k3 k5 newId)) (he:h.get? a=O oe) (hcls:oe.cls=.ref C) (hq:Q () ⟨h,g,d,t,os⟩) :
  Ur M A (checkBuiltinCall initId ⟨.ref a::rest,[]⟩) Q E ⟨h,g,d,t,os⟩:=by
 have zS:(Value.ref C::bm).contains (.type B)=yM:=by rw[QY,T _ _ F.hasB,Uf]
 have hshort:=F.noStar;simp only[checkBuiltinCall,F.initKind,F.initSplit,F.initRow]
 repeat (first|(with_reducible rw[hcls])|with_reducible refine Qq hC ?_|(with_reducible refine QK hC ?_;rw[zS])|wp_step)
 rw[show ∀(x1 x2:String)(n:Nat),Bind.check ⟨.positional, "*", B,.self,[⟨"args", .varPos,yN⟩]⟩ x1 x2 n (List.map (λx=>x.fst) ({pos:=Value.ref a::rest}:Args).kw)=pure ()from
  λ_ _ n=>check_star_args _ _ _ _ _ _]
 exact Qf hq
def vX(F:ExcBaseFacts B nid initId bmB)(T:Tail bmB bm){oe:Obj}{vs:Array Uj}{u:Uj}{Q}
  (hC:h.get? C=O (excClassObj nm q C N bs bm hdct sn sub ab col dd k0 k1 k2 k3 k5 newId)) (he:h.get? a=O oe) (hcls:oe.cls=.ref C) (hd:oe.data=.fields vs) {t0:Um} (h0:vs[0]?=O (.ref t0))
  (hq:∀h',(∀b o,b≠a->h.get? b=O o->h'.get? b=O o)->(∃y,h'.get? a=O {oe with data:=.fields (vs.setIfInBounds 0 (.ref y))})->Q .none ⟨h',g,d,t,os⟩) :
  Ur (model prog w) A (call (.builtin initId) [.ref a,u]) Q E ⟨h,g,d,t,os⟩:=by
 refine wpAny_call (Ja F.init.plain F.initEntry (yg F T hC he hcls ?_));have he₂:(h.push {cls:=.type "tuple", data:=.seq #[u]}).get? a=O oe:=Qe _ he;have hz:0<vs.size:=(JB.mp h0).1
 repeat (first|with_reducible refine Q5 he₂ hd h0 ?_|with_reducible refine JJ he₂ hd hz ?_|wp_step)
 have he₃:=Q7 (Obj.mapFields (·.setIfInBounds 0 (Value.ref h.objs.size))) he₂ (Obj.isFreed_of_fields (Obj.data_mapFields hd _));refine hq _ (λb o hb g=>?_) ⟨_,by rw[he₃,W9 _ hd]⟩;rw[QP _ _ (Ne.symm hb)];exact Qe _ g
end
def AO:PySem.W.handedIn (.builtin "ValueError.__init__")=yM:=by decide +kernel
def Cb{h:Heap}:PySem.W.Frag.In [] h:=λa o z=>by cases z
def LM:typeOf (.type "ValueError")=pure (.type "type"):=by kernel_rfl
def AN:Manifest.isStub "ValueError" = yN:=by decide +kernel
def AM:PySem.W.findCls [] (.type "ValueError") (.type "type") "__init__" = O (.val (.builtin "ValueError.__init__")):=by kernel_rfl
section
variable{X:Cx}{k:Nat}{f D:Um}{fd:Uo}{ps:List Str}{sp:Sp}{x:Str}{p pos apos:Pos}{e:Up}{es:yS}{t:TA}
def MK(KC:Um->yR->Prop)(t:TA):TE:=λσ H Q=>t σ H λvs H1=>∃a C dd bm u,vs=[.ref a,u]/\KC C bm/\H1 a=O (.ext (XO yM a C dd))/\Q .non H1
def ju{KC:Um->yR->Prop}{pl:Sem Bool}(hcls:∀C bm,KC C bm->∃fI,XCls (model X.prog X.w) X.base C bm fI)(hg:Gl X "ValueError")(hm:X.mg "ValueError" = yL)(ha:PA X (e::es) t)
  (hst:Us (e::es) X.env=(yN,eval e X.env)::Us es X.env:=by rfl) (hpl:(backTo pos (Us es X.env)).any (·.1)=yN:=by rfl)
  (ht:eval (.Call (.Attribute (.Name "ValueError" p) "__init__" apos) (e::es) [] pos) X.env=(do
   let ov ←eval (.Name "ValueError" p) X.env
   standAt apos.atName
   let (f,first) ←holding [ov] (getMethod ov "__init__" pl)
   callWith pos f first (backTo pos (Us (e::es) X.env)) (backToKw pos (keywordEach [] X.env))):=by rfl) :
  PE X (.Call (.Attribute (.Name "ValueError" p) "__init__" apos) (e::es) [] pos) (MK KC t):=by
 intro pins s σ H Q I h;have hB:bootBuiltins "ValueError" = O (.type "ValueError"):=by decide +kernel
 refine PySem.W.methodCall_KW (pl:=pl) (WS I hg hm hB ?_) ht;obtain⟨m,Fm⟩:=I.fr;refine PySem.W.method_type (K:=[])  Fm Cb LM AN AM AO ?_;refine PyProof.Rows.callWith_builtin1 (thn (ha pos pins _ σ H _ (I.tok _) h) λus s1 ⟨vs,H1,I1,r1,a,C,dd,bm,u,ev,kc,hx,q⟩=>?_) hst hpl;subst ev;cases r1 with
 |cons ra r1=>
 cases r1 with
 |cons ru r1=>
 cases r1;have ra':_=Value.ref a:=ra;subst ra';obtain⟨fI,XC⟩:=hcls C bm kc;obtain⟨nm,qn,N,bs,sn,sub,ab,col,aT,k0,k1,k2,k3,k5,hC⟩:=XC.obj;obtain⟨⟨vs,sl,ga,z⟩,_,_⟩:=I1.hok a _ hx;obtain⟨z1,⟨t0,z0⟩,z2⟩:=z yK;obtain⟨hp,g,d,tk,os⟩:=s1;refine vX PySem.F.excBase_ValueError XC.tail (I1.bk _ _ hC) ga yK yK z0 λh' k ⟨y,hy⟩=>?_;have hw:=I1.write (x:=a) (e:=a) (o:=.ext (XO yM a C dd)) (t':=tk) (h':=h') (by rw[hx];trivial) (.inl yK) k ⟨_,hy⟩ (XO.ok ⟨_,sl,hy,λ_=>⟨by rw[Array.getElem?_setIfInBounds_ne (by decide)];exact z1,⟨y,by simp[(Array.getElem?_eq_some_iff.mp z0).1]⟩,by rw[Array.getElem?_setIfInBounds_ne (by decide)];exact z2.1,by rw[Array.size_setIfInBounds];exact z2.2⟩⟩)
 have e:upd H1 a (.ext (XO yM a C dd))=H1:=by
  funext b;by_cases hb:b=a
  .subst hb;rw[Kz,hx]
  .rw[Km hb]
 rw[e]at hw;exact⟨.non,H1,hw,rfl,q⟩
end
structure Ri(K:Frag)(D:Um)(m:Str)(f:Um):Prop where
 ga:PySem.W.specialIn K (.ref D) "__getattribute__" = O (O (.builtin "type.__getattribute__"))
 rd:PySem.W.readsIn K D (.type "type")=yM
 fd:PySem.W.findCls K (.ref D) (.type "type") m=O (.val (.ref f))
 kp:PySem.W.keepIn K (.ref f)=yM
section
variable{X:Cx}{k:Nat}{f D:Um}{fd:Uo}{ps:List Str}{sp:Sp}{x m:Str}{p pos apos:Pos}{e:Up}{es:yS}{t:TA}
def Hw{pl}(M:Ri X.K D m f)(F:FnOk X.prog X.w X.K X.mg X.base CX0 k f fd ps sp)(hr:Room k X.A)(hb:YC X.K fd ps [])(hg:Gl X x)(hm:X.mg x=O (.ref D))(ha:PA X (e::es) t)
  (hdb:(x==("__debug__" : Str))=yN:=by decide) (hst:Us (e::es) X.env=(yN,eval e X.env)::Us es X.env:=by rfl) (hpl:(backTo pos (Us es X.env)).any (·.1)=yN:=by rfl)
  (ht:eval (.Call (.Attribute (.Name x p) m apos) (e::es) [] pos) X.env=(do
   let ov ←eval (.Name x p) X.env
   standAt apos.atName
   let (f,first) ←holding [ov] (getMethod ov m pl)
   callWith pos f first (backTo pos (Us (e::es) X.env)) (backToKw pos (keywordEach [] X.env))):=by rfl) :
  PE X (.Call (.Attribute (.Name x p) m apos) (e::es) [] pos) (Mp sp [] E0 t):=by
 intro pins s σ H Q I h;refine PySem.W.methodCall_KW  (VM I hg hm ?_ hdb) ht;refine PySem.W.method_cls I.kIn M.ga (PySem.W.cls_value I.kIn M.rd M.fd yK ?_);refine PySem.W.callWith_K  I.ok.mod.kin M.kp (thn (ha pos pins _ σ H _ (I.tok _) h) λus s1 ⟨vs,H1,I1,r,q⟩=>⟨I1.kIn,?_⟩) hst hpl;exact MR F hr hb .nil Oo I1 r q
end
def XD(dx:Um)(fs:List (Str×V)):Heap->Prop:=λh=>∃mA,h.Ns1 dx mA/\h.ExactDictFk dx/\(∀f,RelO (fs.lookup f) (mA f))/\PySem.Within mA (fs.map (·.1))
def XD.ok    {h}{dx}{fs}(x:XD dx fs h):ZL P w H h dx (.ext (XD dx fs)):=
 ⟨x,let ⟨_,⟨o,_,_,q,_⟩,_⟩:=x;⟨o,q⟩,λh1 h2 ⟨mA,⟨o,es,ep,q,c⟩,⟨od,q2,c2⟩,r⟩ k=>⟨mA,⟨o,es,ep,k _ q,c⟩,⟨od,k _ q2,c2⟩,r⟩⟩
def XO.inst{h:Heap}{a C}{vs}{sl}(g:h.get? a=O {cls:=.ref C,dict:=yL,data:=.fields vs,slots:=sl}):h.InstFk a C λ_=>yL:=
 ⟨_,g,rfl,λ_ z=>(by cases z),.inl ⟨rfl,λ_=>rfl⟩⟩
section
variable{X:Cx}{pins:List (Um×Obj)}{σ:St}{H:Hp}{s:Uk}{a C dx:Um}{h':Heap}{t':Nat}
def Inv.xdict  (I:Inv X pins σ H s)(hx:H a=O (.ext (XO yM a C yL)))(k:∀b o,b≠a->s.heap.get? b=O o->h'.get? b=O o)(hz:s.heap.objs.size<=dx)(h1:XO yM a C (O dx) h')(h2:XD dx fs h') :
  Inv X pins σ (upd (upd H a (.ext (XO yM a C (O dx)))) dx (.ext (XD dx fs))) {s with heap:=h',toks:=t'}:=by
 have hn   :=I.hok.fresh hz;have ne:∀b,H b=yL->b≠a:=λb n z=>by rw[z,hx]at n;cases n
 have nd:∀b o,s.heap.get? b=O o->b≠dx:=λb o g z=>by subst z;exact absurd (Qg g) (Nat.not_lt.mpr hz)
 have oth:∀b,b≠a->b≠dx->upd (upd H a (.ext (XO yM a C (O dx)))) dx (.ext (XD dx fs)) b=H b:=λb h1 h2=>by rw[Km h2,Km h1]
 have trk:∀b u,H b=O u->b≠dx:=λb u q z=>by rw[z,hn]at q;cases q
 have nota:∀b(u:HO),H b=O u->(∀φ,u≠.ext φ)->b≠a:=λb u q n z=>by rw[z,hx]at q;cases q;exact n _ yK
 refine I.un (t':=t') ⟨λb o g n _ _=>k b o (ne b n) g,λb o g n _ _=>⟨o.slots,k b o (ne b n) g⟩,λb o g n _=>(oth b (ne b n) (nd b o g)).trans n,λb o g _=>?_,λb xs q=>?_,λb o u q=>?_,λb ps q=>⟨#[],?_⟩⟩ λb u q=>?_
 .by_cases hb:b=a
  .subst hb;obtain⟨_,_,z,_⟩:=h1;exact⟨_,z⟩
  .exact⟨o,k b o hb g⟩
 .exact(oth b (nota b _ q λ_ z=>by cases z) (trk b _ q)).trans q
 .exact(oth b (nota b _ q λ_ z=>by cases z) (trk b _ q)).trans q
 .rw[oth b (nota b _ q λ_ z=>by cases z) (trk b _ q),q];simp
 .by_cases hb:b=dx
  .subst hb;rw[Kz]at q;cases q;exact XD.ok h2
  .rw[Km hb]at q
   by_cases hb2:b=a
   .subst hb2;rw[Kz]at q;cases q;exact XO.ok h1
   .rw[Km hb2]at q
    refine(I.hok b u q).stay (λc v hc g=>k c v ?_ g) (λc r=>(oth c (nota c _ r λ_ z=>by cases z) (trk c _ r)).trans r) λc xs r=>(oth c (nota c _ r λ_ z=>by cases z) (trk c _ r)).trans r
    rcases hc with rfl|hc
    .exact hb2
    .exact nota c _ hc λ_ z=>by cases z
end
def R3(KC:Um->yR->Prop)(ta tv:TE)(f:Str):TS:=λD σ H=>tv σ H λy H1=>ta σ H1 λx H2=>∃a C bm,x=.ref a/\KC C bm /\
 ((H2 a=O (.ext (XO yM a C yL))/\∀dx,H2 dx=yL->dx≠a->D.nx σ (upd (upd H2 a (.ext (XO yM a C (O dx)))) dx (.ext (XD dx [(f,y)])))) ∨
  ∃dx fs,dx≠a/\H2 a=O (.ext (XO yM a C (O dx)))/\H2 dx=O (.ext (XD dx fs))/\fs.length<900/\D.nx σ (upd H2 dx (.ext (XD dx (ZS f y fs)))))
section
variable{X:Cx}{o value:Up}{f:Str}{pos pos':Pos}{ta tv:TE}{KC:Um->yR->Prop}
def OR(hcls:∀C bm,KC C bm->∃fI,XCls (model X.prog X.w) X.base C bm fI)(hf:∀C bm,KC C bm->Zg (model X.prog X.w) C f yL X.base)(ha:PE X o ta)(hv:PE X value tv)
  (hs:swapsWith value (O (.Attribute o f pos')) pos.line X.env=pure yN):PS X (.Assign [.Attribute o f pos'] value pos) (R3 KC ta tv f):=by
 intro pins s σ H D I h;refine plainObj_wpAny_Assign_Attribute (thn (hv pins s σ H _ I h) λu s1 ⟨y,H1,I1,ry,q⟩=>thn (ha pins s1 σ H1 _ I1 q) λov s2 ⟨x,H2,I2,rx,a,C,bm,ex,kc,q2⟩=>?_) hs;subst ex;obtain rfl:ov=Value.ref a:=rx;obtain⟨fI,XC⟩:=hcls C bm kc;obtain⟨nm,qn,N,bs,sn,sub,ab,col,aT,k0,k1,k2,k3,k5,hC⟩:=XC.obj;obtain⟨hp,g,d,tk,os⟩:=s2;rcases q2 with ⟨hx,q2⟩|⟨dx,fs,hne,hx,zY,hl,q2⟩
 .obtain⟨⟨vs,sl,ga,z⟩,_,_⟩:=I2.hok a _ hx
  refine Fb (ns:=[]) PySem.F.store_ValueError XC.tail (XC.pass _) (I2.bk _ _ hC) (XC.sa.keeps I2.bk) ((hf C bm kc).keeps I2.bk) (XO.inst ga) (λh' tk' i' hk hsame hnew=>?_) PySem.Within.nil (by decide);obtain⟨o1,g1,c1,d1,ak,_⟩:=hsame _ ga;obtain⟨o2,g2,_,_,dd⟩:=i';rw[g1]at g2;cases g2;rcases dd with ⟨_,dn⟩|⟨dx,zY,hne,hns,hex⟩
  .have:=dn f;simp at this
  .have hz:=hnew _ _ dx ga yK g1 zY
   have o1e:o1 = {cls:=.ref C,dict:=O dx,data:=.fields vs,slots:=sl}:=by obtain⟨oc,od,odt,osl⟩:=o1;cases c1;cases d1;cases ak;cases zY;rfl
   have I3:=I2.xdict (t':=tk') (dx:=dx) (fs:=[(f,y)]) hx (λb ob hb gb=>hk b ob hb (λo₀ dx' e1 e2=>by rw[ga]at e1;cases e1;cases e2) gb) hz ⟨vs,sl,by rw[g1,o1e],z⟩
    ⟨_,hns,hex,λg=>?_,λg hg=>?_⟩
   .exact⟨σ,_,I3,q2 dx (I2.hok.fresh hz) hne⟩
   .show RelO ((ZS f y []).lookup g) (if g=f then O u else yL)
    rw[NQ];by_cases e:g=f
    .rw[Qp e,Qp e];exact ry
    .rw[QH e,QH e];trivial
   .show g∈[f]
    by_cases e:g=f
    .rw[e];simp
    .exact absurd (QH e) hg
 .obtain⟨⟨vs,sl,ga,z⟩,_,_⟩:=I2.hok a _ hx
  obtain⟨⟨mA,hns,hex,hr,hwi⟩,_,_⟩:=I2.hok dx _ zY;refine Fb (ns:=fs.map (·.1)) PySem.F.store_ValueError XC.tail (XC.pass _) (I2.bk _ _ hC) (XC.sa.keeps I2.bk) ((hf C bm kc).keeps I2.bk) ⟨_,ga,rfl,λ_ z=>(by cases z),.inr ⟨dx,rfl,hne,hns,hex⟩⟩ (λh' tk' i' hk hsame hnew=>?_) hwi (by rw[Qd];omega);obtain⟨o1,g1,c1,d1,ak,dk⟩:=hsame _ ga;have hd1:=dk dx yK;obtain⟨o2,g2,_,_,dd⟩:=i';rw[g1]at g2;cases g2;rcases dd with ⟨dn,_⟩|⟨dx2,bq,hne2,bj,hex2⟩
  .rw[hd1]at dn;cases dn
  .rw[hd1]at bq
   cases bq;have o1e:o1 = {cls:=.ref C,dict:=O dx,data:=.fields vs,slots:=sl}:=by obtain⟨oc,od,odt,osl⟩:=o1;cases c1;cases d1;cases ak;cases hd1;rfl
   have I3:=I2.write (x:=dx) (e:=dx) (o:=.ext (XD dx (ZS f y fs))) (t':=tk') (h':=h') (by rw[zY];trivial) (.inl yK) (λb ob hb gb=>by
    by_cases hba:b=a
    .subst hba;rw[ga]at gb;cases gb;rw[g1,o1e]
    .exact hk b ob hba (λo₀ dx' e1 e2=>by rw[ga]at e1;cases e1;cases e2;exact hb) gb) (let ⟨o,_,_,q,_⟩:=bj;⟨o,q⟩) (XD.ok ⟨_,bj,hex2,λg=>?_,λg hg=>?_⟩)
   .exact⟨σ,_,I3,q2⟩
   .rw[NQ]
    by_cases e:g=f
    .rw[Qp e,Qp e];exact ry
    .rw[QH e,QH e];exact hr g
   .by_cases e:g=f
    .rw[e];exact(Nv f y fs).1
    .refine(Nv f y fs).2 g (hwi g λz=>hg ?_)
     show(if g=f then O u else mA g)=yL
     rw[QH e];exact z
end
inductive FmtV:V->Str->Prop
 |str (x:Str) (h:x.length<=Uq):FmtV (.str x) x
 |int (i:Int) (h:i.natAbs.log2<1920):FmtV (.int i) (toString i:String)
 |non:FmtV .non "None"
def tFmt(te:TE):TE:=λσ H Q=>te σ H λv H1=>∃y,FmtV v y/\Q (.str y) H1
def Om:List TE->Str->TE
 |[],acc=>λ_ H Q=>acc.length<=Uq/\Q (.str acc) H
 |te::r,acc=>λσ H Q=>te σ H λv H1=>∃y,v=.str y/\(acc++y).length<=Uq/\Om r (acc++y) σ H1 Q
inductive PEs(X:Cx):yS->List TE->Prop
 |nil:PEs X [] []
 |cons {e:Up} {es:yS} {t:TE} {ts:List TE}:PE X e t->PEs X es ts->PEs X (e::es) (t::ts)
section
variable{X:Cx}{value:Up}{te:TE}{pos:Pos}
def OC(h:PE X value te):PE X (.FormattedValue value (-1) yL pos) (tFmt te):=by
 intro pins s σ H Q I hq;refine wpAny_FormattedValue_plain (thn (h pins s σ H _ I hq) λu s1 ⟨v,H1,I1,rv,y,hy,q⟩=>?_);cases hy with
 |str x hx=>
  obtain⟨t,rfl⟩:=(rv)
  exact wpAny_formatField_str ⟨.str y,H1,I1,⟨_,rfl⟩,q⟩ ⟨.str y,H1,I1.tok _,⟨_,rfl⟩,q⟩ hx
 |int i hi=>
  obtain⟨t,rfl⟩:=(rv)
  exact wpAny_formatField_int hi ⟨.str _,H1,I1.tok _,⟨_,rfl⟩,q⟩
 |non=>obtain rfl:u=Value.none:=rv;exact wpAny_formatField_none ⟨.str _,H1,I1.tok _,⟨_,rfl⟩,q⟩
theorem Hv{E:Uj->Uk->Prop}:∀{es}{ts}{acc}{pins}{s}{σ:St}{H}{Q},PEs X es ts->Inv X pins σ H s->Om ts acc σ H Q ->
  Joins (model X.prog X.w) X.A X.xe (evalEach es X.env) acc (λout s1=>out.length<=Uq/\EP X pins σ Q (.str out s1.toks) {s1 with toks:=s1.toks+1}) s
 |_,_,acc,pins,s,σ,H,Q,.nil,I,⟨hl,q⟩=>⟨hl,.str acc,H,I.tok _,⟨_,rfl⟩,q⟩
 |_,_,acc,pins,s,σ,H,Q,.cons h r,I,hq=>thn (h pins s σ H _ I hq) λu s1 ⟨v,H1,I1,rv,y,ev,hl,q⟩=>by
  subst ev;obtain⟨t,rfl⟩:=(rv)
  exact⟨y,t,rfl,hl,Hv (E:=E) r I1 q⟩
def Gm  {rest}{ts}(h:PEs X (v1::v2::rest) ts):PE X (.JoinedStr (v1::v2::rest) pos) (Om ts Str.empty):=by intro pins s σ H Q I hq;exact wpAny_JoinedStr (Hv (E:=X.xe) h I hq)
end
def DO(KC:Um->yR->Prop)(ta:TE)(f:Str):TE:=λσ H Q=>ta σ H λx H1=>∃a C bm dx fs v fr,x=.ref a/\KC C bm/\H1 a=O (.ext (XO fr a C (O dx)))/\H1 dx=O (.ext (XD dx fs))/\fs.lookup f=O v/\Q v H1
def vW   (r:RelV v u):handedOut u=pure u:=by
 cases v with
 |non=>obtain rfl:u=_:=r;rfl
 |bl b=>obtain rfl:u=_:=r;rfl
 |int i=>obtain⟨t,rfl⟩:∃t,u=_:=r;rfl
 |str x=>obtain⟨t,rfl⟩:∃t,u=_:=r;rfl
 |byt b=>obtain⟨t,rfl⟩:∃t,u=_:=r;rfl
 |flt b=>obtain⟨t,rfl⟩:∃t,u=_:=r;rfl
 |ref a=>obtain rfl:u=_:=r;rfl
 |ty n=>obtain rfl:u=_:=r;rfl
section
variable{X:Cx}{e:Up}{f:Str}{pos:Pos}{ta:TE}{KC:Um->yR->Prop}
def AL(hcls:∀C bm,KC C bm->∃fI,XCls (model X.prog X.w) X.base C bm fI)(hf:∀C bm,KC C bm->Zg (model X.prog X.w) C f yL X.base)(he:PE X e ta)(hb:attributeBase e f X.env (eval e X.env)=eval e X.env):PE X (.Attribute e f pos) (DO KC ta f):=by
 intro pins s σ H Q I h;refine A4 hb (thn (he pins s σ H _ I h) λu s1 ⟨x,H1,I1,rx,a,C,bm,dx,fs,v,fr,ex,kc,hx,hd,hl,q⟩=>?_);subst ex;obtain rfl:u=Value.ref a:=rx;obtain⟨fI,XC⟩:=hcls C bm kc;obtain⟨nm,qn,N,bs,sn,sub,ab,col,aT,k0,k1,k2,k3,k5,hC⟩:=XC.obj;obtain⟨⟨vs,sl,ga,_⟩,_,_⟩:=I1.hok a _ hx;obtain⟨⟨mA,hns,hex,hr,hwi⟩,_,_⟩:=I1.hok dx _ hd
 have hne:dx≠a:=by
  rintro rfl;obtain⟨o,es,ep,g,d,_⟩:=hns
  lia
 have hr':=hr f;rw[hl]at hr';cases hm:mA f with
 |none=>rw[hm]at hr';exact hr'.elim
 |some u=>rw[hm]at hr';have ru   :=hr';exact vY PySem.F.excAttr_ValueError XC.tail yK (I1.bk _ _ hC) (XC.ga.keeps I1.bk) (XC.gh.keeps I1.bk) ((hf C bm kc).keeps I1.bk) ⟨_,ga,rfl,λ_ z=>(by cases z),.inr ⟨dx,rfl,hne,hns,hex⟩⟩ hm (vW ru) ⟨v,H1,I1.tok _,ru,q⟩
end
end L2
namespace L2
open PySem PySem.Spec
section
variable{prog:Ul}{w:World}{A:Around}{E:Uj->Uk->Prop}{h:Heap}{g:Array GenState}{d:Drawn}{t:Nat}{os:OsState}{R:Result->Uk->Prop}
variable{nm q:Str}{C N a:Um}{bs bm bmB:yR}{hdct:Bool}{sn:List Str}{sub:yR}{ab:Bool}{col:yZ}{dd:yY}{k0 k1 k2 k3 k5:yT}{newId:String}{o:Obj}
def vV(T:Tail bmB bm)(ho:bmB.contains (.type "object")=yM)(hC:h.get? C=O (excClassObj nm q C N bs bm hdct sn sub ab col dd k0 k1 k2 k3 k5 newId))(hx:h.get? a=O o)(hc:o.cls=.ref C)(hq:R (.ok (.ret (.ref C))) ⟨h,g,d,t,os⟩) :
  codeAny (model prog w) A (.call (.builtin "getset_descriptor.__get__") ⟨[.builtin "object.__class__", .ref a,.ref C],[]⟩) R ⟨h,g,d,t,os⟩:=by
 have hT5   :=PySem.F.typeOf_object_class;have zS:(Value.ref C::bm).contains (.type (".".intercalate ("object.__class__".cutAt '.').dropLast))=yM:=by rw[PySem.F.owner_object_class,QY,T _ _ ho];rfl
 refine Ja PySem.F.slot_gs_get.plain PySem.F.entry_gs_get (PySem.F.slot_gs_get.check _ _ _ _ _ _ _ _ hT5 (PySem.F.args_gs_get _ _ _) ?_)
 repeat (any_goals (first|assumption|(with_reducible rw[hc])|(with_reducible refine QK hC ?_;rw[zS])|wp_step))
 refine⟨Code.quiet_builtin _ (by decide +kernel),codeAny_builtin PySem.F.entry_object_class ?_⟩
 repeat (any_goals (first|assumption|(with_reducible rw[hc])|wp_step))
def yx  {Q}(T:Tail bmB bm)(ho:bmB.contains (.type "object")=yM)(hC:h.get? C=O (excClassObj nm q C N bs bm hdct sn sub ab col dd k0 k1 k2 k3 k5 newId))(fc:Zg (model prog w) C "__class__" (O (.builtin "object.__class__")) h)(hx:h.get? a=O o)(hc:o.cls=.ref C)(hq:Q (.done (.ret (.ref C))) ⟨h,g,d,t,os⟩) :
  Ur (model prog w) A (Builtin.«object.__getattribute__» ⟨[.ref a,.str "__class__" tk],[]⟩) Q E ⟨h,g,d,t,os⟩:=by
 have f5:=PySem.F.typeOf_object_class;have f6:=PySem.F.slot_gs_get.lookup;have f7:=PySem.F.slot_gs_set.lookup
 repeat (any_goals (first|assumption|(with_reducible rw[hc])|with_reducible refine fc.at ?_|wp_step))
 refine vV T ho hC hx hc ?_
 repeat (any_goals (first|assumption|wp_step))
def Fa  (FB:ExcAttrFacts "ValueError")(T:Tail VB bm)(hC:h.get? C=O (excClassObj nm q C N bs bm hdct sn sub ab col dd k0 k1 k2 k3 k5 newId))(fc:Zg (model prog w) C "__class__" (O (.builtin "object.__class__")) h)
  (fg:Zg (model prog w) C "__getattribute__" (O (.builtin "BaseException.__getattribute__")) h) (fa:Zg (model prog w) C "__getattr__" none h) (hx:h.get? a=O o) (hc:o.cls=.ref C) (hq:Q (O (.ref C)) ⟨h,g,d,t+1,os⟩) :
  Ur (model prog w) A (getAttr? (.ref a) "__class__") Q E ⟨h,g,d,t,os⟩:=by
 have f3:=FB.ga.bind (.ref a)
 repeat (any_goals (first|assumption|(with_reducible rw[hc])|with_reducible refine fg.at ?_|with_reducible refine fa.at ?_|wp_step))
 refine Ja FB.ga.plain PySem.F.entry_bexc_ga (Gn T yK hC hx hc (yx T yK hC fc hx hc ?_))
 repeat (any_goals (first|assumption|wp_step))
end
end L2
namespace L2
open PySem PySem.Spec PyProof.Rows
section
variable{prog:Ul}{w:World}{A:Around}{E:Uj->Uk->Prop}{h:Heap}{g:Array GenState}{d:Drawn}{t:Nat}{os:OsState}
variable{nm q zP q':Str}{C N D N' a:Um}{bs bm bs' bm':yR}{hdct ah:Bool}{sn sn':List Str}{sub sub':yR}{ab au:Bool}{col col':yZ}{dd zr:yY}{k0 k1 k2 k3 k5 j0 j1 j2 j3 j5:yT}{newId newId':String}{o:Obj}{b:Bool}
def AK{Q:Uj->Uk->Prop}(T:Tail VB bm)(hC:h.get? C=O (excClassObj nm q C N bs bm hdct sn sub ab col dd k0 k1 k2 k3 k5 newId))(hD:h.get? D=O (excClassObj zP q' D N' bs' bm' ah sn' sub' au col' zr j0 j1 j2 j3 j5 newId'))
  (fc:Zg (model prog w) C "__class__" (O (.builtin "object.__class__")) h) (fg:Zg (model prog w) C "__getattribute__" (O (.builtin "BaseException.__getattribute__")) h) (fa:Zg (model prog w) C "__getattr__" none h)
  (hx:h.get? a=O o) (hc:o.cls=.ref C) (hb:(Value.ref C::bm).contains (.ref D)=b) (hq:∀tk,Q (.bool b) ⟨h,g,d,tk,os⟩):Ur (model prog w) A (call (.builtin "isinstance") [.ref a,.ref D]) Q E ⟨h,g,d,t,os⟩:=by
 have f2:=tc_sub;refine call_isinstance_of ?_ (λz=>nomatch z);refine Qb ?_;unfold typeOf;refine Qb (Qq hx (Qf ?_));rw[hc];by_cases e:C=D
 .subst e
  have hb1:b=yM:=by rw[←hb];simp
  subst hb1;rw[if_pos (by simp)];exact Qb (wpAny_rule (Qf (hq t)))
 .rw[if_neg (by simp[e])]
  refine Qb (Qb (Qq hD (Qf ?_)));rw[Qp (show(Value.type "type" == Value.type "type")=yM by decide)]
  k_delta "plainIsInstance"
  unfold isType isInstance
  repeat (first|(with_reducible refine Qq hx ?_;rw[hc])|with_reducible refine Qq hD ?_|with_reducible refine Qq hC ?_|(with_reducible refine QK hC ?_;rw[hb])|wp_step)
  cases b with
  |true=>wp_walk;exact hq t
  |false=>
   rw[QH (by decide)];refine Qb (Fa PySem.F.excAttr_ValueError T hC fc fg fa hx hc ?_)
   repeat (first|with_reducible refine Qq hC ?_|(with_reducible refine QK hC ?_;rw[hb])|wp_step)
   exact hq _
def Ca{Q:Uj->Uk->Prop}{X:String}(T:Tail VB bm)(hC:h.get? C=O (excClassObj nm q C N bs bm hdct sn sub ab col dd k0 k1 k2 k3 k5 newId))(hX:typeOf (.type X)=pure (.type "type"))
  (fc:Zg (model prog w) C "__class__" (O (.builtin "object.__class__")) h) (fg:Zg (model prog w) C "__getattribute__" (O (.builtin "BaseException.__getattribute__")) h) (fa:Zg (model prog w) C "__getattr__" none h)
  (hx:h.get? a=O o) (hc:o.cls=.ref C) (hb:(Value.ref C::bm).contains (.type X)=b) (hq:∀tk,Q (.bool b) ⟨h,g,d,tk,os⟩):Ur (model prog w) A (call (.builtin "isinstance") [.ref a,.type X]) Q E ⟨h,g,d,t,os⟩:=by
 refine call_isinstance_of ?_ (λz=>nomatch z);refine Qb ?_;have ty:∀{M:Model}{A:Around}{Q:Uj->Uk->Prop}{E:Uj->Uk->Prop},Q (.ref C) ⟨h,g,d,t,os⟩->Ur M A (typeOf (.ref a)) Q E ⟨h,g,d,t,os⟩:=λq=>by unfold typeOf;refine Qb (Qq hx (Qf ?_));rw[hc];exact q
 refine ty ?_;rw[if_neg (by simp)];refine Qb (wpAny_of_eq hX ?_);rw[Qp (show _=yM by decide)]
 k_delta "plainIsInstance"
 unfold isType isInstance
 repeat (first|(with_reducible refine Qq hx ?_;rw[hc])|with_reducible refine Qq hC ?_|(with_reducible refine QK hC ?_;rw[hb])|wp_step)
 cases b with
 |true=>wp_walk;exact hq t
 |false=>
  rw[QH (by decide)];refine Qb (Fa PySem.F.excAttr_ValueError T hC fc fg fa hx hc ?_)
  repeat (first|with_reducible refine Qq hC ?_|(with_reducible refine QK hC ?_;rw[hb])|wp_step)
  exact hq _
end
def rIsX(KC:Um->yR->Prop):List V->Hp->VK->Prop:=λxs H Q=>∃a C dd bm fr c b,xs=[.ref a,c]/\KC C bm/\H a=O (.ext (XO fr a C dd)) /\
 ((∃D bm',c=.ref D/\KC D bm'/\(Value.ref C::bm).contains (.ref D)=b) ∨ ∃T,c=.ty T/\typeOf (.type T)=pure (.type "type")/\(Value.ref C::bm).contains (.type T)=b)/\Q (.bl b) H
def Hu  {KC}(hcls:∀C bm,KC C bm->∃fI,XCls (model X.prog X.w) X.base C bm fI):YD X (.builtin "isinstance") (rIsX KC):=by
 rintro pins s σ H xs us Q I r ⟨a,C,dd,bm,fr,c,b,rfl,kc,hx,hD,q⟩;cases r with
 |cons ra r=>
 cases r with
 |cons rc r=>
 cases r;have ra'   :=ra;subst ra';obtain⟨fI,XC⟩:=hcls C bm kc;obtain⟨nm,qn,N,bs,sn,sub,ab,col,aT,k0,k1,k2,k3,k5,hC⟩:=XC.obj;obtain⟨⟨vs,sl,ga,_⟩,_,_⟩:=I.hok a _ hx;rcases hD with ⟨D,bm',rfl,kd,hb⟩|⟨T,rfl,hT,hb⟩
 .have rc'   :=rc
  subst rc';obtain⟨fI',XD'⟩:=hcls D bm' kd;obtain⟨zP,qn',N',bs',sn',sub',au,col',dd2,j0,j1,j2,j3,j5,zI⟩:=XD'.obj;exact AK XC.tail (I.bk _ _ hC) (I.bk _ _ zI) (XC.cl.keeps I.bk) (XC.ga.keeps I.bk) (XC.gh.keeps I.bk) ga yK hb λtk'=>⟨.bl b,H,I.tok tk',rfl,q⟩
 .have rc'   :=rc
  subst rc';exact Ca XC.tail (I.bk _ _ hC) hT (XC.cl.keeps I.bk) (XC.ga.keeps I.bk) (XC.gh.keeps I.bk) ga yK hb λtk'=>⟨.bl b,H,I.tok tk',rfl,q⟩
def vB  {P}{w}{K}{mg}{base}{N}{qual}{scope}{f}{cd}{A}{outer}{s}{H}{E} :
  PassesOwn (model P w) (Zl CX P w K mg base N qual scope f cd A outer s H E).A (Zl CX P w K mg base N qual scope f cd A outer s H E).env (Zl CX P w K mg base N qual scope f cd A outer s H E).xe:=
 PassesOwn.leaving
def Pz(KC:Um->yR->Prop):Sp:=λvs H Q _=>∃a C dd bm x,vs=[.ref a,.str x]/\KC C bm/\H a=O (.ext (XO yM a C dd))/\Q .non H
def Py(KC:Um->yR->Prop)(fs:List Str):Sp:=λvs H Q _=>∃a C bm us,vs=.ref a::us/\us.length=fs.length/\KC C bm/\H a=O (.ext (XO yM a C yL))/\(∀u∈us,∃y,FmtV u y/\y.length<=4000) /\
 ∀dx,H dx=yL->dx≠a->Q .non (upd (upd H a (.ext (XO yM a C (O dx)))) dx (.ext (XD dx (fs.zip us))))
noncomputable def Yn(nm:Str):List Str:=if nm = "NoWishes" then ["part", "number"]else if nm = "NoAim" then ["part"]else if nm = "NoText" then ["row"]else []
noncomputable def R1(K:Frag)(nm:Str):yY:=match PySem.W.nsIn K mainGlobals nm with|some (O (.ref C))=>O C|_=>yL
def NmAt(K:Frag)(nm:Str)(C:Um):Prop:=∃o cd,K.lookup C=O o/\o.data=.cls cd/\cd.name=nm
structure ClsK(K:Frag)(nm:Str)(C:Um)(bm:yR):Prop where
 ad:R1 K nm=O C
 nmd:NmAt K nm C
 up:nm = "DealError" /\ bm=VB∨nm ≠ "DealError" /\ ∃D,R1 K "DealError" = O D/\bm=.ref D::VB/\NmAt K "DealError" D
 cls:∀(M:Model)(h:Heap),K.In h->∃fI,XCls M h C bm fI
 fld:∀(M:Model)(h:Heap),K.In h->∀f∈(["part", "number", "row"]:List Str),Zg M C f yL h
def KC(K:Frag):Um->yR->Prop:=λC bm=>∃nm,ClsK K nm C bm
section
variable{K:Frag}{nm x:Str}{C D:Um}{bm bm':yR}
def NmAt.ne(c:NmAt K nm C)(d:NmAt K x D)(h:x≠nm):C≠D:=λe=>by
 subst e;obtain⟨o,cd,h1,h2,h3⟩:=c;obtain⟨o',cd',g1,g2,g3⟩:=d
 lia
def ClsK.has(c:ClsK K nm C bm)(d:ClsK K x D bm'):(Value.ref C::bm).contains (.ref D)=(decide (x=nm) || decide (x = "DealError")):=by
 by_cases e:x=nm
 .subst e
  have:=c.ad.symm.trans d.ad;simp_all
 .have ne:=c.nmd.ne d.nmd e
  rw[QF e];have h0:(Value.ref D==Value.ref C)=yN:=by simp[Ne.symm ne]
  rw[QY,h0,Bool.false_or];by_cases e2:x = "DealError"
  .subst e2
   rcases c.up with ⟨z,_⟩|⟨_,D',g,rfl,_⟩
   .exact absurd z.symm e
   .have:=g.symm.trans d.ad
    simp_all
  .rw[QF e2]
   rcases c.up with ⟨_,rfl⟩|⟨_,D',g,rfl,n⟩
   .rfl
   .have ne2:=n.ne d.nmd e2
    have h1:(Value.ref D==Value.ref D')=yN:=by simp[Ne.symm ne2]
    rw[QY,h1];rfl
def ClsK.ty(c:ClsK K nm C bm)(T):(Value.ref C::bm).contains (.type T)=VB.contains (.type T):=by
 rcases c.up with ⟨_,rfl⟩|⟨_,D',g,rfl,n⟩
 .rfl
 .rfl
end
section
variable{X:Cx}{e:Up}{st:Stmt}{sts:List Stmt}{t:TE}{ts:TS}
def PE.kin(h:X.K.In X.base->PE X e t):PE X e t:=λpins s σ H Q I q=>h I.ok.mod.kin pins s σ H Q I q
def PS.kin(h:X.K.In X.base->PS X st ts):PS X st ts:=λpins s σ H Q I q=>h I.ok.mod.kin pins s σ H Q I q
def PSs.kin(h:X.K.In X.base->PSs X sts ts):PSs X sts ts:=λpins s σ H Q I q=>h I.ok.mod.kin pins s σ H Q I q
def WI(k:X.K.In X.base):∀C bm,KC X.K C bm->∃fI,XCls (model X.prog X.w) X.base C bm fI:=λ_ _ ⟨_,c⟩=>c.cls _ _ k
end
def Ma(nm:Str)(us:List V):Prop:=(Yn nm=[]/\∃x,us=[.str x])∨(Yn nm≠[]/\us.length=(Yn nm).length/\∀u∈us,∃y,FmtV u y/\y.length<=4000)
def N9(nm:Str)(C a:Um)(us:List V)(H:Hp)(dd:yY)(H':Hp):Prop:=
 (Yn nm=[]/\dd=yL/\H'=H)∨(Yn nm≠[]/\us.length=(Yn nm).length/\∃dx,dd=O dx/\H dx=yL/\dx≠a/\H'=upd (upd H a (.ext (XO yM a C (O dx)))) dx (.ext (XD dx ((Yn nm).zip us))))
def MJ(K:Frag)(nm:Str)(C:Um)(sp:Sp):Prop:=∀a us H Q,H a=O (.ext (XO yM a C yL))->Ma nm us->(∀dd H',N9 nm C a us H dd H'->Q .non H')->sp (.ref a::us) H Q E0
def MkX(P:Ul)(w:World)(K:Frag)(mg:Str->yT)(base:Heap)(nm:Str)(k:Nat):Prop:=
 ∃C bm f fd ps sp,mg nm=O (.ref C)/\PySem.W.keepIn K (.ref C)=yM/\ClsK K nm C bm/\(∀(M:Model)(h:Heap),K.In h->XCls M h C bm f)/\FnOk P w K mg base CX0 k f fd ps sp/\YC K fd ps []/\MJ K nm C sp
def jt{K}{nm}{C}{bm}(c:ClsK K nm C bm)(hf:Yn nm≠[]):MJ K nm C (Py (KC K) (Yn nm)):=λa us H Q h ar q=>by
 rcases ar with ⟨z,_⟩|⟨_,hl,hu⟩
 .exact absurd z hf
 .exact⟨a,C,bm,us,rfl,hl,⟨nm,c⟩,h,hu,λdx hd hne=>q _ _ (.inr ⟨hf,hl,dx,rfl,hd,hne,rfl⟩)⟩
end L2
namespace DL
open PySem PySem.Spec L2
open PyProof.Rows hiding St
abbrev D:=PyData
abbrev yO:=List D
abbrev yQ:=Option D
abbrev XW:=V->St->Hp->Prop
abbrev KX0:XW:=λ_ _ _=>False
def XFs(G:Hp)(dd:yY)(fs:List Str)(vs:List V):Prop:=match dd with
 |none=>fs=[]/\vs=[]
 |some dx=>fs.length=vs.length/\G dx=O (.ext (XD dx (fs.zip vs)))
def XFs.mono     (e:Same G G1)(h:XFs G dd fs vs):XFs G1 dd fs vs:=by
 cases dd with
 |none=>exact h
 |some dx=>exact⟨h.1,e _ _ h.2⟩
noncomputable def kD:Key->D
 |.inl i=>.int i
 |.inr x=>.str x
def tkD(k:yV):D:=.tuple (k.map kD)
def pdD(ks:List yV)(ds:yO):List (D×D):=(.bool yM,.none)::(ks.map tkD).zip ds
mutual
inductive Rep(K:Frag)(G:Hp):V->D->Prop where
 |non:Rep K G .non .none
 |bl (b:Bool):Rep K G (.bl b) (.bool b)
 |int (i:Int):Rep K G (.int i) (.int i)
 |str (x:Str):Rep K G (.str x) (.str x)
 |lst {a:Um} {vs:List V} {ds:yO} (h:SqL K G a vs) (r:Reps K G vs ds):Rep K G (.ref a) (.list ds)
 |tup {a:Um} {vs:List V} {ds:yO} (h:SqT K G a vs) (r:Reps K G vs ds):Rep K G (.ref a) (.tuple ds)
 |dic {a:Um} (h:G a=O (.dK [])):Rep K G (.ref a) (.dict [])
 |exc {a C:Um} {dd:yY} {bm:yR} {nm:Str} {vs:List V} {ds:yO} (c:ClsK K nm C bm) (h:G a=O (.ext (XO yN a C dd))) (hd:XFs G dd (Yn nm) vs) (r:Reps K G vs ds):Rep K G (.ref a) (.dict [(.none,.tuple [.str nm,.list ds])])
 |dct {a:Um} {ks:yV} {vs:List V} {ds:yO} {kvs:List (D×D)} (e:kvs=(ks.map kD).zip ds) (hne:ks≠[]) (hl:ks.length=ds.length) (h:G a=O (.dK (ks.zip vs))) (r:Reps K G vs ds):Rep K G (.ref a) (.dict kvs)
 |dtt {a:Um} {o:Obj} {ks:List yV} {vs:List V} {ds:yO} {kvs:List (D×D)} (e:kvs=pdD ks ds) (hl:ks.length=ds.length) (h:G a=O (.frz o (.dT (ks.zip vs)))) (r:Reps K G vs ds):Rep K G (.ref a) (.dict kvs)
inductive Reps(K:Frag)(G:Hp):List V->yO->Prop where
 |nil:Reps K G [] []
 |cons {v:V} {d:D} {vs:List V} {ds:yO} (h:Rep K G v d) (t:Reps K G vs ds):Reps K G (v::vs) (d::ds)
end
variable{K:Frag}{B G0 G G1 G2 H H1 H2:Hp}
def YB   (e:Same G G1)(h:SqT K G a xs):SqT K G1 a xs:=by
 rcases h with (h|⟨o,h⟩)|h
 .exact .inl (.inl (e _ _ h))
 .exact .inl (.inr ⟨o,e _ _ h⟩)
 .exact .inr h
def Rep.mono(e:Same G G1){v}{d}(r:Rep K G v d):Rep K G1 v d:=Rep.rec   .non .bl .int .str (λh _ r=>.lst (e.seq h) r) (λh _ r=>.tup (YB e h) r) (λh=>.dic (e _ _ h)) (λc h hd _ r=>.exc c (e _ _ h) (hd.mono e) r) (λz n l h _ r=>.dct z n l (e _ _ h) r) (λz l h _ r=>.dtt z l (e _ _ h) r) .nil (λ_ _=>.cons) r
def Reps.mono(e:Same G G1){vs}{ds}(r:Reps K G vs ds):Reps K G1 vs ds:=Reps.rec   .non .bl .int .str (λh _ r=>.lst (e.seq h) r) (λh _ r=>.tup (YB e h) r) (λh=>.dic (e _ _ h)) (λc h hd _ r=>.exc c (e _ _ h) (hd.mono e) r) (λz n l h _ r=>.dct z n l (e _ _ h) r) (λz l h _ r=>.dtt z l (e _ _ h) r) .nil (λ_ _=>.cons) r
def vA{ks:yV}{ds}{d:D}{r}(e:(.none,d)::r=(ks.map kD).zip ds):False:=by
 cases ks with
 |nil=>cases e
 |cons k ks=>
  cases ds with
  |nil=>cases e
  |cons d ds=>
   injection e with e1 _;injection e1 with e2 _
   cases k<;>cases e2
section
variable{v:V}{vs ws:List V}{ds es:yO}
def Rep.bl_inv{b:Bool}(h:Rep K G v (.bool b)):v=.bl b:=by cases h;rfl
def Rep.int_inv{i:Int}(h:Rep K G v (.int i)):v=.int i:=by cases h;rfl
def Rep.str_inv{x:Str}(h:Rep K G v (.str x)):v=.str x:=by cases h;rfl
def Rep.lst_inv(h:Rep K G v (.list ds)):∃a vs,v=.ref a/\SqL K G a vs/\Reps K G vs ds:=by
 cases h with
 |lst h r=>exact⟨_,_,rfl,h,r⟩
def Rep.tup_inv(h:Rep K G v (.tuple ds)):∃a vs,v=.ref a/\SqT K G a vs/\Reps K G vs ds:=by
 cases h with
 |tup h r=>exact⟨_,_,rfl,h,r⟩
def Rep.exc_inv{d:D}(h:Rep K G v (.dict [(.none,d)])):∃a C dd bm nm vs ds,v=.ref a/\d=.tuple [.str nm,.list ds]/\ClsK K nm C bm/\G a=O (.ext (XO yN a C dd))/\XFs G dd (Yn nm) vs/\Reps K G vs ds:=by
 cases h with
 |exc c h hd r=>exact⟨_,_,_,_,_,_,_,rfl,rfl,c,h,hd,r⟩
 |dct e _ _ _ _=>exact(vA e).elim
 |dtt e _ _ _=>exact nomatch (Ud (List.cons.inj e).1).1
theorem Reps.length:∀{vs}{ds},Reps K G vs ds->vs.length=ds.length
 |_,_,.nil=>rfl
 |_,_,.cons _ t=>by rw[QD,QD,Reps.length t]
theorem Reps.get:∀{vs}{ds}{i:Nat}{d},Reps K G vs ds->ds[i]?=O d->∃v,vs[i]?=O v/\Rep K G v d
 |_,_,_,_,.nil,e=>by simp_all
 |_,_,0,_,.cons h _,e=>by simp at e;subst e;exact⟨_,rfl,h⟩
 |_,_,i+1,d,.cons _ t,e=>by obtain⟨u,h1,h2⟩:=Reps.get   t (by simpa using e);exact⟨u,by simpa using h1,h2⟩
theorem Reps.append:∀{vs ws}{ds es},Reps K G vs ds->Reps K G ws es->Reps K G (vs++ws) (ds++es)
 |_,_,_,_,.nil,s=>s
 |_,_,_,_,.cons r t,s=>.cons r (Reps.append t s)
theorem Reps.take:∀{vs}{ds}(n),Reps K G vs ds->Reps K G (vs.take n) (ds.take n)
 |_,_,0,_=>by exact .nil
 |_,_,_+1,.nil=>.nil
 |_,_,n+1,.cons r t=>.cons r (Reps.take n t)
theorem Reps.drop:∀{vs}{ds}(n),Reps K G vs ds->Reps K G (vs.drop n) (ds.drop n)
 |_,_,0,r=>r
 |_,_,_+1,.nil=>.nil
 |_,_,n+1,.cons _ t=>Reps.drop n t
theorem Reps.reverse:∀{vs}{ds},Reps K G vs ds->Reps K G vs.reverse ds.reverse
 |_,_,.nil=>.nil
 |_,_,.cons r t=>by rw[List.reverse_cons,List.reverse_cons];exact Reps.append (Reps.reverse t) (.cons r .nil)
theorem Reps.set   (r:Rep K G v d):∀{vs}{ds}(i),Reps K G vs ds->Reps K G (vs.set i v) (ds.set i d)
 |_,_,_,.nil=>.nil
 |_,_,0,.cons _ t=>.cons r t
 |_,_,i+1,.cons q t=>.cons q (Reps.set r i t)
theorem Reps.ints:∀(ns:yP),Reps K G (ns.map V.int) (ns.map int)
 |[]=>.nil
 |n::ns=>.cons (.int n) (Reps.ints ns)
end
inductive MO where
 |l (vs:List V)|k (kvs:List (Key×V))|t (kvs:List (yV×V))|s (S:Int->Bool) (n:Nat)
noncomputable def MO.ho:MO->HO
 |.l vs=>.lst vs
 |.k kvs=>.dK kvs
 |.t kvs=>.dT kvs
 |.s S n=>.set S n
structure Ext(G H G' H':Hp):Prop where
 h:Same H H'
 g:Same G G'
 gh:Same G' H'
 np:∀a(u:MO),H a=O u.ho->G a=yL->G' a=yL
def Ext.refl(e:Same G H):Ext G H G H:=⟨.refl _,.refl _,e,λ_ _ _ q=>q⟩
def Ext.trans  (a:Ext G H G' H')(b:Ext G' H' G'' H''):Ext G H G'' H'':=
 ⟨a.h.trans b.h,a.g.trans b.g,b.gh,λx o e q=>b.np x o (a.h x _ e) (a.np x o e q)⟩
def Zj   (h:H p=yL):Same H (upd H p o):=λb u e=>by rw[Km (ZO e h)];exact e
def Ext.new   (e:Same G H)(h:H p=yL):Ext G H (upd G p o) (upd H p o):=by
 have hg   :=e.free h;refine⟨Zj h,Zj hg,λb u q=>?_,λa u q n=>?_⟩
 .by_cases z:b=p
  .subst z;rw[Kz]at q⊢;exact q
  .rw[Km z]at q⊢;exact e b u q
 .rw[Km (ZO q h)];exact n
def Ext.hid   (e:Same G H)(h:H p=yL):Ext G H G (upd H p o):=
 ⟨Zj h,.refl _,e.trans (Zj h),λ_ _ _ n=>n⟩
inductive Pat where
 |leaf|lst (p:Pat)|tup (ps:List Pat)|dic
mutual
inductive RepO(K:Frag)(G H:Hp):Pat->V->D->yU->Prop where
 |leaf {v:V} {d:D} (r:Rep K G v d):RepO K G H .leaf v d []
 |lst {p:Pat} {a:Um} {vs:List V} {ds:yO} {fp:yU} (h:H a=O (.lst vs)) (r:RepOl K G H p vs ds fp):RepO K G H (.lst p) (.ref a) (.list ds) (a::fp)
 |tup {ps:List Pat} {a:Um} {vs:List V} {ds:yO} {fp:yU} (h:H a=O (.tup vs)) (r:RepOs K G H ps vs ds fp):RepO K G H (.tup ps) (.ref a) (.tuple ds) fp
 |dic {a:Um} {ks:yV} {vs:List V} {ds:yO} {kvs:List (D×D)} (e:kvs=(ks.map kD).zip ds) (hl:ks.length=ds.length) (h:H a=O (.dK (ks.zip vs))) (r:Reps K G vs ds):RepO K G H .dic (.ref a) (.dict kvs) [a]
inductive RepOl(K:Frag)(G H:Hp):Pat->List V->yO->yU->Prop where
 |nil {p:Pat}:RepOl K G H p [] [] []
 |cons {p:Pat} {v:V} {d:D} {vs:List V} {ds:yO} {f1 f2:yU} (h:RepO K G H p v d f1) (t:RepOl K G H p vs ds f2):RepOl K G H p (v::vs) (d::ds) (f1++f2)
inductive RepOs(K:Frag)(G H:Hp):List Pat->List V->yO->yU->Prop where
 |nil:RepOs K G H [] [] [] []
 |cons {p:Pat} {ps:List Pat} {v:V} {d:D} {vs:List V} {ds:yO} {f1 f2:yU} (h:RepO K G H p v d f1) (t:RepOs K G H ps vs ds f2):RepOs K G H (p::ps) (v::vs) (d::ds) (f1++f2)
end
def XG(K:Frag)(G H:Hp)(M1:Pat->V->D->yU->Prop)(M2:Pat->List V->yO->yU->Prop)(M3:List Pat->List V->yO->yU->Prop):Prop:=
 (∀{p v d fp},RepO K G H p v d fp->M1 p v d fp)/\(∀{p vs ds fp},RepOl K G H p vs ds fp->M2 p vs ds fp)/\∀{ps vs ds fp},RepOs K G H ps vs ds fp->M3 ps vs ds fp
def RepO.ind3
  (c1:∀{v d},Rep K G v d->M1 .leaf v d []) (c2:∀{p a vs ds fp},H a=O (.lst vs)->M2 p vs ds fp->M1 (.lst p) (.ref a) (.list ds) (a::fp)) (c3:∀{ps a vs ds fp},H a=O (.tup vs)->M3 ps vs ds fp->M1 (.tup ps) (.ref a) (.tuple ds) fp)
  (c4:∀{a:Um}{ks:yV}{vs}{ds}{kvs},kvs=(ks.map kD).zip ds->ks.length=ds.length->H a=O (.dK (ks.zip vs))->Reps K G vs ds->M1 .dic (.ref a) (.dict kvs) [a])
  (c5:∀{p},M2 p [] [] []) (c6:∀{p v d vs ds f1 f2},M1 p v d f1->M2 p vs ds f2->M2 p (v::vs) (d::ds) (f1++f2)) (c7:M3 [] [] [] []) (c8:∀{p ps v d vs ds f1 f2},M1 p v d f1->M3 ps vs ds f2->M3 (p::ps) (v::vs) (d::ds) (f1++f2)) :
  XG K G H M1 M2 M3:=
 ⟨λh=>RepO.rec    c1 (λh _=>c2 h) (λh _=>c3 h) c4 c5 (λ_ _=>c6) c7 (λ_ _=>c8) h,
  λh=>RepOl.rec    c1 (λh _=>c2 h) (λh _=>c3 h) c4 c5 (λ_ _=>c6) c7 (λ_ _=>c8) h,
  λh=>RepOs.rec    c1 (λh _=>c2 h) (λh _=>c3 h) c4 c5 (λ_ _=>c6) c7 (λ_ _=>c8) h⟩
def RepO.mono3(sg:Same G G1)(sh:Same H H1):XG K G H (RepO K G1 H1) (RepOl K G1 H1) (RepOs K G1 H1):=
 RepO.ind3 (λr=>.leaf (r.mono sg)) (λh r=>.lst (sh _ _ h) r) (λh r=>.tup (sh _ _ h) r) (λe hl h r=>.dic e hl (sh _ _ h) (r.mono sg)) .nil .cons .nil .cons
def RepO.mono(sg:Same G G1)(sh:Same H H1){p}{v}{d}{fp}(r:RepO K G H p v d fp):RepO K G1 H1 p v d fp:=(RepO.mono3 sg sh).1 r
def RepO.upd3   (nt:∀vs,H a≠O (.tup vs)):XG K G H (λp v d fp=>a∉fp->RepO K G (upd H a o) p v d fp) (λp v d fp=>a∉fp->RepOl K G (upd H a o) p v d fp) (λp v d fp=>a∉fp->RepOs K G (upd H a o) p v d fp):=
 RepO.ind3
 (λr _=>.leaf r) (λh r n=>.lst (by rw[Km (λz=>n (by rw[z];exact List.mem_cons_self))];exact h) (r λz=>n (List.mem_cons_of_mem _ z))) (λh r n=>.tup (by rw[Km (λz=>by simp_all)];exact h) (r n))
 (λe hl h r n=>.dic e hl (by rw[Km (λz=>n (by rw[z];exact Qn))];exact h) r) (λ_=>.nil) (λh t n=>.cons (h λz=>n (JK _ z)) (t λz=>n (QX _ z))) (λ_=>.nil) (λh t n=>.cons (h λz=>n (JK _ z)) (t λz=>n (QX _ z)))
def RepO.upd   (nt:∀vs,H a≠O (.tup vs)){p}{v}{d}{fp}(r:RepO K G H p v d fp)(n:a∉fp):RepO K G (upd H a o) p v d fp:=(RepO.upd3 nt).1 r n
def RepO.rep3(gh:Same G H):XG K G H (λ_ v d _=>Rep K H v d) (λ_ v d _=>Reps K H v d) (λ_ v d _=>Reps K H v d):=
 RepO.ind3 (λr=>r.mono gh) (λh r=>.lst (SqL.of h) r) (λh r=>.tup (SqT.of h) r)
 (λ{a ks vs ds kvs} e hl h r=>by
  cases ks with
  |nil=>subst e;exact .dic h
  |cons k ks=>exact .dct e (λz=>by cases z) hl h (r.mono gh)) .nil .cons .nil .cons
def RepO.rep(gh:Same G H){p}{v}{d}{fp}(r:RepO K G H p v d fp):Rep K H v d:=(RepO.rep3 gh).1 r
def RepO.isl3:XG K G H (λ_ _ _ fp=>∀a∈fp,∃u:MO,H a=O u.ho) (λ_ _ _ fp=>∀a∈fp,∃u:MO,H a=O u.ho) (λ_ _ _ fp=>∀a∈fp,∃u:MO,H a=O u.ho):=
 RepO.ind3 (λ_ a m=>by cases m)
 (λh r b m=>(Qs.mp m).elim (λe=>⟨.l _,e ▸ h⟩) (r b)) (λ_ r=>r) (λ_ _ h _ b m=>⟨.k _,QN.mp m ▸ h⟩) (λa m=>by cases m) (λh t b m=>(QO.mp m).elim (h b) (t b)) (λa m=>by cases m) (λh t b m=>(QO.mp m).elim (h b) (t b))
def RepO.isl     (r:RepO K G H p v d fp):∀a∈fp,∃u:MO,H a=O u.ho:=RepO.isl3.1 r
def RepO.uniq3(sh:Same H H1):XG K G H (λp v _ fp=>∀d' fp',RepO K G1 H1 p v d' fp'->fp=fp') (λp v _ fp=>∀d' fp',RepOl K G1 H1 p v d' fp'->fp=fp') (λp v _ fp=>∀d' fp',RepOs K G1 H1 p v d' fp'->fp=fp'):=
 RepO.ind3
 (λ_ d' fp' h=>by cases h;rfl)
 (λh r d' fp' h'=>by
  cases h' with
  |lst h2 r2=>have e:=sh _ _ h;rw[h2]at e;cases e;rw[r _ _ r2])
 (λh r d' fp' h'=>by
  cases h' with
  |tup h2 r2=>have e:=sh _ _ h;rw[h2]at e;cases e;exact r _ _ r2)
 (λ_ _ _ _ d' fp' h=>by cases h;rfl) (λd' fp' h=>by cases h;rfl)
 (λh t d' fp' h'=>by
  cases h' with
  |cons h2 t2=>rw[h _ _ h2,t _ _ t2])
 (λd' fp' h=>by cases h;rfl)
 (λh t d' fp' h'=>by
  cases h' with
  |cons h2 t2=>rw[h _ _ h2,t _ _ t2])
def RepO.uniq(sh:Same H H1){p}{v}{d d'}{fp fp'}(r:RepO K G H p v d fp)(r':RepO K G1 H1 p v d' fp'):fp=fp':=(RepO.uniq3 sh).1 r _ _ r'
inductive Sl where
 |pub (d:D)|own (ds:yO)|deep (p:Pat) (d:D)
abbrev US:=List (Option Sl)
abbrev yW:=Option US
def DpOk(K:Frag)(B G H:Hp)(σ:St)(Z:US):Prop:=∃ω:Um->Nat,
 (∀(i:Nat) p d,Z[i]?=O (O (.deep p d))->∃v fp,σ[i]?=O (O v)/\RepO K G H p v d fp/\fp.Nodup/\∀a∈fp,B a=yL/\G a=yL/\ω a=i) /\
 (∀(i:Nat) ds a,Z[i]?=O (O (.own ds))->σ[i]?=O (O (.ref a))->ω a=i)
def DpOk.of  {Z}(h1:∀(i:Nat) p d,Z[i]?=O (O (.deep p d))->False)(h2:∀(i:Nat) ds,Z[i]?=O (O (.own ds))->False):DpOk K B G H σ Z:=
 ⟨λ_=>0,λi p d q=>(h1 i p d q).elim,λi ds a q=>(h2 i ds q).elim⟩
def DpOk.map  {σ σ1}{Z Z1}(k:DpOk K B G H σ Z)
  (h1:∀(i:Nat) p d,Z1[i]?=O (O (.deep p d))->Z[i]?=O (O (.deep p d))/\σ1[i]?=σ[i]?)
  (h2:∀(i:Nat) ds,Z1[i]?=O (O (.own ds))->∃es,Z[i]?=O (O (.own es))/\σ1[i]?=σ[i]?)
  (h3:∀(i:Nat) p d v fp,Z[i]?=O (O (.deep p d))->σ[i]?=O (O v)->RepO K G H p v d fp->(∀a∈fp,B a=yL/\G a=yL)->(∀(j:Nat) ds a,Z[j]?=O (O (.own ds))->σ[j]?=O (O (.ref a))->a∉fp)->RepO K G1 H1 p v d fp/\∀a∈fp,B1 a=yL/\G1 a=yL):DpOk K B1 G1 H1 σ1 Z1:=by
 obtain⟨ω,k1,k2⟩:=k;refine⟨ω,λi p d q=>?_,λi ds a q s=>?_⟩
 .obtain⟨q1,e1⟩:=h1 i p d q
  obtain⟨v,fp,s,r,n,w⟩:=k1 i p d q1;obtain⟨r1,w1⟩:=h3 i p d v fp q1 s r (λa m=>⟨(w a m).1,(w a m).2.1⟩) λj ds a qj sj m=>by have z1:=k2 j ds a qj sj;have z2:=(w a m).2.2;rw[z1]at z2;subst z2;rw[q1]at qj;cases qj
  exact⟨v,fp,by rw[e1];exact s,r1,n,λa m=>⟨(w1 a m).1,(w1 a m).2,(w a m).2.2⟩⟩
 .obtain⟨es,q1,e1⟩:=h2 i ds q
  rw[e1]at s;exact k2 i es a q1 s
structure EOk(K:Frag)(B G0 G H:Hp)(σ:St)(Z:US):Prop where
 bh:Same B H
 gh:Same G H
 g0:Same G0 G
 np:∀a(u:MO),B a=O u.ho->G0 a=yL->G a=yL
 len:Z.length=σ.length
 pub:∀(i:Nat) d,Z[i]?=O (O (.pub d))->∃v,σ[i]?=O (O v)/\Rep K G v d
 own:∀(i:Nat) ds,Z[i]?=O (O (.own ds))->∃a vs,σ[i]?=O (O (.ref a))/\B a=yL/\G a=yL/\H a=O (.lst vs)/\Reps K G vs ds
 sep:∀(i j:Nat) a ds es,Z[i]?=O (O (.own ds))->Z[j]?=O (O (.own es))->σ[i]?=O (O (.ref a))->σ[j]?=O (O (.ref a))->i=j
 dp:DpOk K B G H σ Z
def EOk.ext  {σ:St}{Z}(k:EOk K B G0 G H σ Z)(e:Ext G H G' H'):EOk K B G0 G' H' σ Z where
 bh:=k.bh.trans e.h
 gh:=e.gh
 g0:=k.g0.trans e.g
 np:=λa o q n=>e.np a o (k.bh a _ q) (k.np a o q n)
 len:=k.len
 pub:=λi d q=>let ⟨v,h1,h2⟩:=k.pub i d q;⟨v,h1,h2.mono e.g⟩
 own:=λi ds q=>let ⟨a,vs,h1,h2,h3,h4,h5⟩:=k.own i ds q;⟨a,vs,h1,h2,e.np a (.l _) h4 h3,e.h a _ h4,h5.mono e.g⟩
 sep:=k.sep
 dp:=k.dp.map (λ_ _ _ q=>⟨q,rfl⟩) (λ_ ds q=>⟨ds,q,rfl⟩) λi p d v fp q s r w n=>⟨r.mono e.g e.h,λa m=>let ⟨_,hl⟩:=r.isl a m;⟨(w a m).1,e.np a _ hl (w a m).2⟩⟩
def EOk.publish{σ:St}{Z:US}{i:Nat}{ds:yO}(k:EOk K B G0 G H σ Z)(h:Z[i]?=O (O (.own ds))) :
  ∃a G',σ[i]?=O (O (.ref a))/\Same G G'/\Rep K G' (.ref a) (.list ds)/\EOk K B G0 G' H σ (Z.set i (O (.pub (.list ds)))):=by
 obtain⟨a,vs,h1,h2,h3,h4,h5⟩:=k.own i ds h;have sg:Same G (upd G a (.lst vs)):=Zj h3;have hr:Rep K _ (.ref a) (.list ds):=.lst (SqL.of Kz) (h5.mono sg);refine⟨a,upd G a (.lst vs),h1,sg,hr,⟨k.bh,λb u q=>?_,k.g0.trans sg,λb o q n=>?_,by rw[QZ];exact k.len,λj d q=>?_,λj es q=>?_,λj l c es fs q1 q2 s1 s2=>?_,?_⟩⟩
 .by_cases z:b=a
  .subst z;rw[Kz]at q;cases q;exact h4
  .rw[Km z]at q;exact k.gh b u q
 .have z:b≠a:=λz=>by subst z;rw[h2]at q;cases q
  rw[Km z];exact k.np b o q n
 .by_cases z:i=j
  .subst z
   have hl:i<Z.length:=(Ql.mp h).1;rw[QG hl]at q;cases q;exact⟨.ref a,h1,hr⟩
  .rw[Qk z]at q
   obtain⟨v,g1,g2⟩:=k.pub j d q;exact⟨v,g1,g2.mono sg⟩
 .by_cases z:i=j
  .subst z
   have hl:i<Z.length:=(Ql.mp h).1;rw[QG hl]at q;cases q
  .rw[Qk z]at q
   obtain⟨b,ws,g1,g2,g3,g4,g5⟩:=k.own j es q;have zb:b≠a:=λe=>z (k.sep i j a ds es h q h1 (by rw[←e];exact g1))
   exact⟨b,ws,g1,g2,by rw[Km zb];exact g3,g4,g5.mono sg⟩
 .have nz:∀{m:Nat}{ts:yO},(Z.set i (O (Sl.pub (.list ds))))[m]?=O (O (.own ts))->Z[m]?=O (O (.own ts)):=λ{m ts} q=>by
   by_cases z:i=m
   .subst z
    have hl:i<Z.length:=(Ql.mp h).1;rw[QG hl]at q;cases q
   .rw[Qk z]at q;exact q
  exact k.sep j l c es fs (nz q1) (nz q2) s1 s2
 .have hl:i<Z.length:=(Ql.mp h).1
  have nz:∀{m:Nat}{s:Sl},(Z.set i (O (Sl.pub (.list ds))))[m]?=O (O s)->(∃d,s=.pub d)∨Z[m]?=O (O s):=λ{m s} q=>by
   by_cases z:i=m
   .subst z
    rw[QG hl]at q;cases q;exact .inl ⟨_,rfl⟩
   .rw[Qk z]at q;exact .inr q
  refine k.dp.map (λm p d q=>?_) (λm es q=>?_) λm p d v fp q s r w n=>⟨r.mono sg (.refl _),λb mb=>⟨(w b mb).1,?_⟩⟩
  .rcases nz q with ⟨_,e⟩|q
   .cases e
   .exact⟨q,rfl⟩
  .rcases nz q with ⟨_,e⟩|q
   .cases e
   .exact⟨es,q,rfl⟩
  .rw[Km (λz=>by subst z;exact n i ds b h h1 mb)];exact(w b mb).2
inductive Res(α:Type) where
 |ok (a:α) (Z:US)|bad
abbrev M(α:Type):=US->Res α
noncomputable def UM{α:Type}(a:α):M α:=λZ=>.ok a Z
noncomputable def U7{α:Type}(o:Option α):M α:=λZ=>match o with|some a=>.ok a Z|none=>.bad
noncomputable def U3{α β:Type}(f:M α)(k:α->M β):M β:=λZ=>match f Z with | .ok a Z'=>k a Z' | .bad=>.bad
section
variable(K:Frag)(B G0:Hp)
def aft{α γ:Type}(R:Hp->γ->α->Prop)(r:Res α)(G:Hp)(σ:St)(Q:γ->Hp->Prop):Prop:=
 match r with
 |.ok d Z'=>∀v G' H',EOk K B G0 G' H' σ Z'->Same G G'->R G' v d->Q v H'
 |.bad=>False
def tM{α γ:Type}(R:Hp->γ->α->Prop)(f:M α):St->Hp->(γ->Hp->Prop)->Prop:=λσ H Q=>
 ∃G Z,EOk K B G0 G H σ Z/\aft K B G0 R (f Z) G σ Q
abbrev tD(f:M D):TE:=tM K B G0 (Rep K) f
abbrev tDs(f:M yO):TA:=tM K B G0 (Reps K) f
abbrev tBo(f:M Bool):TT:=tM K B G0 (λ_ b c=>b=c) f
abbrev tOi(f:M yX):TO:=tM K B G0 (λ_ b c=>b=c) f
end
section
variable{K:Frag}{B G0:Hp}{α β γ δ ε:Type}{R:Hp->γ->α->Prop}{S:Hp->δ->β->Prop}{T:Hp->ε->α->Prop}{σ:St}{H:Hp}
def aft.mono  {G G'}{Q}(e:Same G G')(h:aft K B G0 R r G σ Q):aft K B G0 R r G' σ Q:=by
 cases r with
 |ok d Z=>exact λv G2 H2 k s q=>h v G2 H2 k (e.trans s) q
 |bad=>exact h
def aft.done   {G G' H H'}{v}{Q}(h:aft K B G0 R (.ok d Z) G σ Q)(k:EOk K B G0 G H σ Z)(e:Ext G H G' H')(r:R G' v d):Q v H':=
 h v G' H' (k.ext e) e.g r
def aft.now   {G H}{v}{Q}(h:aft K B G0 R (.ok d Z) G σ Q)(k:EOk K B G0 G H σ Z)(r:R G v d):Q v H:=
 h v G H k (.refl _) r
def aft.opt     (h:aft K B G0 R (U7 o Z) G σ Q):∃d,o=O d/\aft K B G0 R (.ok d Z) G σ Q:=by
 cases o with
 |none=>exact h.elim
 |some d=>exact⟨d,rfl,h⟩
def tM.bind    (h:tM K B G0 S (U3 f k) σ H Q) :
  tM K B G0 R f σ H (λv H1=>∃G Z d,EOk K B G0 G H1 σ Z/\R G v d/\aft K B G0 S (k d Z) G σ Q):=by
 obtain⟨G,Z,e,a⟩:=h;refine⟨G,Z,e,?_⟩;unfold U3 at a;cases q:f Z with
 |bad=>rw[q]at a;exact a.elim
 |ok d Z1=>rw[q]at a;exact λv G' H' e' s r=>⟨G',Z1,d,e',r,aft.mono s a⟩
def tM.bind2{α' γ'}{R':Hp->γ'->α'->Prop}{f}{g:α->M α'}{k:α->α'->M β}{Q}(mo:∀G G' v d,Same G G'->R G v d->R G' v d)
  (h:tM K B G0 S (U3 f λx=>U3 (g x) λy=>k x y) σ H Q) :
  tM K B G0 R f σ H (λv H1=>∃x,tM K B G0 R' (g x) σ H1 λu H2=>∃G Z y,EOk K B G0 G H2 σ Z/\R G v x/\R' G u y/\aft K B G0 S (k x y Z) G σ Q):=by
 obtain⟨G,Z,e,a⟩:=tM.bind  h;refine⟨G,Z,e,?_⟩;cases q:f Z with
 |bad=>rw[q]at a;exact a.elim
 |ok d Z1=>
  rw[q]at a;intro v G' H' e' s r;obtain⟨G2,Z2,d2,e2,r2,a2⟩:=a v G' H' e' s r;refine⟨d2,G2,Z2,e2,?_⟩;unfold U3 at a2;cases q2:g d2 Z2 with
  |bad=>rw[q2]at a2;exact a2.elim
  |ok d3 Z3=>rw[q2]at a2;exact λu G3 H3 e3 s3 r3=>⟨G3,Z3,d3,e3,mo _ _ _ _ s3 r2,r3,aft.mono s3 a2⟩
end
def L4{K}(G G')(v)(d)(e:Same G G')(r:Rep K G v d):Rep K G' v d:=r.mono e
def tM.two{K}{B G0}{β δ}{S}{σ}{H}{f g}{k:D->D->M β}{Q:δ->Hp->Prop}{P:V->V->Hp->Prop}
  (h:tM K B G0 S (U3 f λx=>U3 g λy=>k x y) σ H Q)
  (i:∀v u H2 G Z x y,EOk K B G0 G H2 σ Z->Rep K G v x->Rep K G u y->aft K B G0 S (k x y Z) G σ Q->P v u H2) :
  tD K B G0 f σ H (λv H1=>tD K B G0 g σ H1 λu H2=>P v u H2):=by
 obtain⟨G,Z,e,a⟩:=tM.bind2   L4 h;refine⟨G,Z,e,?_⟩;cases q:f Z with
 |bad=>rw[q]at a;exact a.elim
 |ok d Z1=>
  rw[q]at a;intro v G' H' e' s r;obtain⟨x,G2,Z2,e2,a2⟩:=a v G' H' e' s r;refine⟨G2,Z2,e2,?_⟩;cases q2:g Z2 with
  |bad=>rw[q2]at a2;exact a2.elim
  |ok d3 Z3=>rw[q2]at a2;intro u G3 H3 e3 s3 r3;obtain⟨G4,Z4,y,e4,r4,r5,a5⟩:=a2 u G3 H3 e3 s3 r3;exact i v u H3 G4 Z4 x y e4 r4 r5 a5
def tM.one{K}{B G0}{α β γ δ}{R}{S}{σ}{H}{f}{k:α->M β}{Q:δ->Hp->Prop}{P:γ->Hp->Prop}
  (h:tM K B G0 S (U3 f k) σ H Q) (i:∀v H2 G Z x,EOk K B G0 G H2 σ Z->R G v x->aft K B G0 S (k x Z) G σ Q->P v H2):tM K B G0 R f σ H P:=by
 obtain⟨G,Z,e,a⟩:=tM.bind  h;refine⟨G,Z,e,?_⟩;cases q:f Z with
 |bad=>rw[q]at a;exact a.elim
 |ok d Z1=>rw[q]at a;intro v G' H' e' s r;obtain⟨G2,Z2,d2,e2,r2,a2⟩:=a v G' H' e' s r;exact i v H' G2 Z2 d2 e2 r2 a2
section
variable{X:Cx}{B G0:Hp}{e a b:Up}{pos:Pos}
def Kp  (h:PE X e t)(i:∀σ H Q,t' σ H Q->t σ H Q):PE X e t':=λpins s σ H Q I q=>h pins s σ H Q I (i σ H Q q)
def YR  (h:PT X e t)(i:∀σ H Q,t' σ H Q->t σ H Q):PT X e t':=λpins s σ H Q I q=>h pins s σ H Q I (i σ H Q q)
def paof   (h:PA X es t)(i:∀σ H Q,t' σ H Q->t σ H Q):PA X es t':=λps pins s σ H Q I q=>h ps pins s σ H Q I (i σ H Q q)
def poof   (h:PO X eo t)(i:∀σ H Q,t' σ H Q->t σ H Q):PO X eo t':=λpins s σ H Q I q=>h pins s σ H Q I (i σ H Q q)
def K3{st}{t t'}(h:PS X st t)(i:∀D σ H,t' D σ H->t D σ H):PS X st t':=λpins s σ H D I q=>h pins s σ H D I (i D σ H q)
def Ro{st}{t t'}(h:PSs X st t)(i:∀D σ H,t' D σ H->t D σ H):PSs X st t':=λpins s σ H D I q=>h pins s σ H D I (i D σ H q)
noncomputable def UJ(i:Nat):M D:=λZ=>match Z[i]? with
 |some (O (.pub d))=>.ok d Z
 |some (O (.own ds))=>.ok (.list ds) (Z.set i (O (.pub (.list ds))))
 |_=>.bad
def V8  (h:PE X e (KI i)):PE X e (tD X.K B G0 (UJ i)):=Kp h λσ H Q ⟨G,Z,k,a⟩=>by
 unfold UJ at a;cases q:Z[i]? with
 |none=>rw[q]at a;exact a.elim
 |some o=>
  cases o with
  |none=>rw[q]at a;exact a.elim
  |some sl=>
   cases sl with
   |deep _ _=>rw[q]at a;exact a.elim
   |pub d=>rw[q]at a;obtain⟨v,h1,h2⟩:=k.pub i d q;exact⟨v,h1,a.now k h2⟩
   |own ds=>rw[q]at a;obtain⟨ad,G',h1,h2,h3,h4⟩:=k.publish q;exact⟨.ref ad,h1,a _ G' H h4 h2 h3⟩
def Pm   (h:PE X e (tC v))(r:∀G,Rep X.K G v d):PE X e (tD X.K B G0 (UM d)):=Kp h λσ H Q ⟨G,Z,k,a⟩=>a.now k (r G)
def D9   : PE X (.Constant (.int i) j pos) (tD X.K B G0 (UM (.int i))):=Pm Bx λ_=>.int i
def qf   : PE X (.Constant (.bool i) j pos) (tD X.K B G0 (UM (.bool i))):=Pm DA λ_=>.bl i
def qe{j}:PE X (.Constant .none j pos) (tD X.K B G0 (UM .none)):=Pm Bw λ_=>.non
def D8   : PE X (.Constant (.str x) j pos) (tD X.K B G0 (UM (.str x))):=Pm Pf λ_=>.str x
def UP{β:Type}(op:D->D->Option β)(f g:M D):M β:=U3 f λx=>U3 g λy=>U7 (op x y)
def OpD(X:Cx)(f:Uj->Uj->Sem Uj)(op:D->D->yQ):Prop:=
 ∃r:R2,OpR X f r/\∀v u G H x y d Q,Same G H->Rep X.K G v x->Rep X.K G u y->op x y=O d->(∀w G' H',Ext G H G' H'->Rep X.K G' w d->Q w H')->r v u H Q
def V2    (o:OpD X (binaryOp op) p)(ha:PE X a (tD X.K B G0 f))(hb:PE X b (tD X.K B G0 g)):PE X (.BinOp a op b pos) (tD X.K B G0 (UP p f g)):=by
 obtain⟨r,h,i⟩:=o;refine Kp (Mi h ha hb) λσ H Q q=>?_;refine tM.two q λv u H2 G Z x y k rx ry a=>?_
 obtain⟨d,e,a⟩:=a.opt;exact i v u G H2 x y d Q k.gh rx ry e λw G' H' ex rw=>a.done k ex rw
def OpD.or   (h:OpD X f p)(h':OpD X f q):OpD X f (λx y=>(p x y).orElse λ_=>q x y):=by
 obtain⟨r,h1,i1⟩:=h;obtain⟨r',h2,i2⟩:=h';refine⟨_,h1.or h2,λv u G H x y d Q s rx ry e k=>?_⟩;dsimp only at e;cases z:p x y with
 |some d'=>rw[z]at e;have e'   :=QW e;subst e';exact .inl (i1 v u G H x y d' Q s rx ry z k)
 |none=>rw[z]at e;exact .inr (i2 v u G H x y d Q s rx ry e k)
noncomputable def oII(g:Int->Int->yQ):D->D->yQ
 |.int i,.int j=>g i j
 |_,_=>yL
def L0   (e:oII g x y=O d):∃i j,x=.int i/\y=.int j/\g i j=O d:=by
 unfold oII at e;split at e
 .exact⟨_,_,rfl,rfl,e⟩
 simp_all
def OpD.int     (h:OpR X f (rI C g))(i:∀i j d,p i j=O d->C i j/\∀G,Rep X.K G (g i j) d):OpD X f (oII p):=by refine⟨_,h,λv u G H x y d Q s rx ry e k=>?_⟩;obtain⟨a,b,rfl,rfl,e⟩:=L0 e;obtain⟨c,r⟩:=i a b d e;exact⟨a,b,rx.int_inv,ry.int_inv,c,k _ G H (.refl s) (r G)⟩
def OpD.int0   {p:Int->Int->D}(h:OpR X f (rI0 g))(i:∀i j G,Rep X.K G (g i j) (p i j)):OpD X f (oII λi j=>O (p i j)):=by refine⟨_,h,λv u G H x y d Q s rx ry e k=>?_⟩;obtain⟨a,b,rfl,rfl,e⟩:=L0 e;cases e;exact⟨a,b,rx.int_inv,ry.int_inv,k _ G H (.refl s) (i a b G)⟩
end
section
variable{X:Cx}{B G0:Hp}{e a b c:Up}{pos:Pos}
def D7:OpD X (binaryOp .Add) (oII λi j=>O (.int (i+j))):=.int0 Bk λ_ _ _=>.int _
def D6:OpD X (binaryOp .Sub) (oII λi j=>O (.int (i-j))):=.int0 Bj λ_ _ _=>.int _
noncomputable def Xc(i j:Int):yQ:=if(-(2 ^ 64)<i/\i<2 ^ 64)∨(-(2 ^ 64)<j/\j<2 ^ 64)then O (.int (i*j))else yL
def qd:OpD X (binaryOp .Mult) (oII Xc):=.int Bh λi j d h=>by
 unfold Xc at h;split at h
 .rename_i c
  cases h;exact⟨c,λ_=>.int _⟩
 simp_all
noncomputable def T7(i j:Int):yQ:=if 0<j then O (.int (i % j))else yL
def D5:OpD X (binaryOp .Mod) (oII T7):=.int Bg λi j d h=>by
 unfold T7 at h;split at h
 .rename_i c
  cases h;exact⟨c,λ_=>.int _⟩
 simp_all
def js:OpR X (binaryOp .FloorDiv) (rI (λi j=>0<j/\j<2 ^ 200) λi j=>.int (i / j)):=opI λi j _ _ _ _ _ hc q=>by
 refine floordiv_int (by lia) (by rw[Int.fdiv_eq_ediv_of_nonneg i (by lia)];exact q) (.inl (PyProof.noPylong_of_log2 ?_));have h0:j.natAbs≠0:=by lia
 have:j.natAbs.log2<200:=(Nat.log2_lt h0).mpr (by lia)
 lia
noncomputable def T8(i j:Int):yQ:=if 0<j/\j<2 ^ 200 then O (.int (i / j))else yL
def D4:OpD X (binaryOp .FloorDiv) (oII T8):=.int js λi j d h=>by
 unfold T8 at h;split at h
 .rename_i c
  cases h;exact⟨c,λ_=>.int _⟩
 simp_all
noncomputable def T6(i j:Int):yQ:=if 0<=j/\j<=1000000/\i.natAbs<2 ^ 64 then O (.int (i ^ j.toNat))else yL
def D3:OpD X (binaryOp .Pow) (oII T6):=.int BI λi j d h=>by
 unfold T6 at h;split at h
 .rename_i c
  cases h;exact⟨c,λ_=>.int _⟩
 simp_all
def lim:(1000000:Nat)<=Uq:=by decide
noncomputable def Os:D->D->yQ
 |.str x,.str y=>if x.length+y.length<=1000000 then O (.str (x++y))else yL
 |_,_=>yL
def qc:OpD X (binaryOp .Add) Os:=by
 refine⟨_,v7,λv u G H x y d Q s rx ry e k=>?_⟩;unfold Os at e;split at e
 .split at e
  .rename_i c
   cases e;exact⟨_,_,rx.str_inv,ry.str_inv,QE c lim,k _ G H (.refl s) (.str _)⟩
  simp_all
 simp_all
def DN(K:Frag):R2:=λx y H Q=>∃l b xs zs,x=.ref l/\y=.ref b/\SqL K H l xs/\SqL K H b zs/\xs.length+zs.length<=Uq/\∀p,H p=yL->Q (.ref p) (upd H p (.lst (xs++zs)))
def qb:OpR X (binaryOp .Add) (DN X.K):=by
 intro pins s σ H x y v u Q I rx ry h;obtain⟨l,b,xs,zs,rfl,rfl,hH,hB,hz,q⟩:=h;cases rx;cases ry;obtain⟨its,r,⟨⟨c1,d1,t1,s1⟩,n1,e1,bD,bC,bA⟩,z1⟩:=I.list hH;obtain⟨its2,r2,⟨⟨c2,d2,t2,s2⟩,n2,e2,ec2,bB,et2⟩,z2⟩:=I.list hB;simp only at bD bC bA ec2 bB et2;subst bD bC bA ec2 bB et2;have hl:=r.length;have hl2:=r2.length;refine concat_meets ⟨_,e1,rfl⟩ ⟨_,e2,rfl⟩ noFill_list_add seq_list_add PySem.F.slot_list_add PySem.F.entry_list_add (PySem.F.args_list_add_2 _ _) (list_addW l b its.toArray its2.toArray n1 n2 yL yL s1 s2 (by grind)) ⟨e1,e2,?_⟩;have ea:its.toArray++its2.toArray=(its++its2).toArray:=by simp
 rw[ea];exact⟨.ref _,_,I.lnew  (r.append r2) (by simp_all),rfl,q _ I.fresh⟩
def EC(a)(t)(l)(items)(n)(sl) :
  Meets (Builtin.«int.__rmul__» ⟨[.int a t,.ref l],[]⟩) (λ_ R s=>s.heap.get? l=O {cls:=.type "list", dict:=yL,data:=.seq items n,slots:=sl}/\R (.ok (.ret Value.notImplemented)) s):=
 .of_wp λprog w A R s h=>by obtain⟨hl,h⟩:=h;wp_walk;exact⟨_,rfl,h⟩
def mulW(l)(items)(n:Nat)(x:Int)(u:Tok)(sl)(hc0:¬(!Builtin.List.listFitsIndex x)=yM)(hc1:¬items.size*x.toNat > (2 ^ 63-1) / 8)(hc2:¬Builtin.List.listTooLong (items.size*x.toNat)=yM) :
  Meets (Builtin.«list.__mul__» ⟨[.ref l,.int x u],[]⟩) (λ_ R s=>s.heap.get? l=O {cls:=.type "list", dict:=yL,data:=.seq items n,slots:=sl}/\R (.ok (.ret (Value.ref s.heap.objs.size))) {s with heap:=s.heap.push {cls:=Value.type "list", data:=Data.seq (List.foldl (λx1 x2=>x1++x2) #[] (Uv (if items.isEmpty=yM then 0 else x.toNat) items))},toks:=s.toks}):=
 .of_wp λprog w A R s h=>by
  obtain⟨hl,h⟩:=h;have hsz:=AutoListH.joined_fits hc2
  wp_walk;refine wpAny_ite_false (QF (Nat.not_lt.mpr hsz)) ?_;wp_walk;exact⟨_,rfl,h⟩
def EB(K:Frag):R2:=λx y H Q=>∃l k xs,x=.ref l/\y=.int k/\SqL K H l xs /\ -(2 ^ 63)<=k/\k<2 ^ 63/\xs.length*k.toNat<=Uq /\
 ∀p,H p=yL->Q (.ref p) (upd H p (.lst (Uv k.toNat xs).flatten))
def LZ:OpR X (binaryOp .Mult) (EB X.K):=by
 intro pins s σ H x y v u Q I rx ry h;obtain⟨l,k,xs,rfl,rfl,hH,h1,h2,hz,q⟩:=h;cases rx;obtain⟨t,rfl⟩:=ry;obtain⟨its,r,⟨⟨c1,d1,t1,sl⟩,n,e,bD,bC,bA⟩,z⟩:=I.list hH;simp only at bD bC bA;subst bD bC bA;have hl:=r.length;have hlen:its.toArray.size*k.toNat<=Uq:=by rw[Q4,←hl];exact hz
 have hcap:¬its.toArray.size*k.toNat > (2 ^ 63-1) / 8:=by
  have:(Uq:Nat)<=(2 ^ 63-1) / 8:=by decide
  lia
 have hfit:¬(!Builtin.List.listFitsIndex k)=yM:=by rw[fitsIndex_both h1 h2];exact Bool.false_ne_true
 have z9:¬Builtin.List.listTooLong (its.toArray.size*k.toNat)=yM:=by rw[Hx hlen];exact Bool.false_ne_true
 have hnew:List.foldl (λx1 x2=>x1++x2) #[] (Uv (if its.toArray.isEmpty=yM then 0 else k.toNat) its.toArray)=(Uv k.toNat its).flatten.toArray:=by
  have f0   :=λm=>by have:=HR its m [];rw[QR]at this;exact this
  rw[f0];cases its with
  |nil=>simp
  |cons a r'=>rw[if_neg (by simp)]
 refine wpAny_binaryOp_repeat_ref  (U:= "int") (by decide) ⟨_,e,rfl⟩ (λs'=>typeIs_int s' k t) noFill_list_mul F.fills_int_mul F.slot_int_rmul repeat_list F.slot_int_index.lookup
  (call_meets F.slot_int_rmul (typeIs_int s k t) F.entry_int_rmul (F.args_int_rmul_2 _ _) (EC k t l its.toArray n sl)
   ⟨e,rfl,⟨_,e,rfl⟩,call_meets F.slot_list_mul ⟨_,e,rfl⟩ F.entry_list_mul (F.args_list_mul_2 _ _) (mulW l its.toArray n k t sl hfit hcap z9) ⟨e,?_⟩⟩)
 rw[hnew];exact⟨.ref _,_,I.lnew  (r.rep k.toNat) (by rw[AU,Nat.mul_comm];exact hz),rfl,q _ I.fresh⟩
noncomputable def N8:D->D->yQ
 |.list x,.list y=>if x.length+y.length<=1000000 then O (.list (x++y))else yL
 |_,_=>yL
def qa:OpD X (binaryOp .Add) N8:=by
 refine⟨_,qb,λv u G H x y d Q s rx ry e k=>?_⟩;unfold N8 at e;split at e
 .split at e
  .rename_i c
   cases e;obtain⟨l,vs,rfl,h1,r1⟩:=rx.lst_inv;obtain⟨b,ws,rfl,h2,r2⟩:=ry.lst_inv;refine⟨l,b,vs,ws,rfl,rfl,s.seq h1,s.seq h2,by rw[r1.length,r2.length];exact QE c lim,λp hp=>k _ _ _ (Ext.new s hp) ?_⟩;exact .lst (SqL.of Kz) ((r1.append r2).mono (Zj (s.free hp)))
  simp_all
 simp_all
theorem Reps.rep{K}{G}{vs}{ds}(r:Reps K G vs ds):∀n:Nat,Reps K G (Uv n vs).flatten (Uv n ds).flatten
 |0=>.nil
 |n+1=>by exact r.append (r.rep n)
noncomputable def N7:D->D->yQ
 |.list x,.int k=>if -1000000<=k/\k<=1000000/\x.length*k.toNat<=1000000 then O (.list (Uv k.toNat x).flatten)else yL
 |_,_=>yL
def A9:OpD X (binaryOp .Mult) N7:=by
 refine⟨_,LZ,λv u G H x y d Q s rx ry e k=>?_⟩;unfold N7 at e;split at e
 .split at e
  .rename_i c
   cases e;obtain⟨l,vs,rfl,h1,r1⟩:=rx.lst_inv;refine⟨l,_,vs,rfl,ry.int_inv,s.seq h1,by lia,by lia,by rw[r1.length];exact QE c.2.2 lim,λp hp=>k _ _ _ (Ext.new s hp) ?_⟩;exact .lst (SqL.of Kz) ((r1.rep _).mono (Zj (s.free hp)))
  simp_all
 simp_all
noncomputable def U0:D->D->yQ
 |.int i,.int j=>O (.int (i+j))
 |.str x,.str y=>if x.length+y.length<=1000000 then O (.str (x++y))else yL
 |.list x,.list y=>if x.length+y.length<=1000000 then O (.list (x++y))else yL
 |_,_=>yL
noncomputable def K9:D->D->yQ
 |.int i,.int j=>O (.int (i-j))
 |_,_=>yL
def Ke:D->D->yQ
 |.int i,.int j=>Xc i j
 |.list x,.int k=>if -1000000<=k/\k<=1000000/\x.length*k.toNat<=1000000 then O (.list (Uv k.toNat x).flatten)else yL
 |_,_=>yL
def Za:D->D->yQ
 |.int i,.int j=>T7 i j
 |_,_=>yL
def Xb:D->D->yQ
 |.int i,.int j=>T8 i j
 |_,_=>yL
def Yx:D->D->yQ
 |.int i,.int j=>T6 i j
 |_,_=>yL
def OpD.congr   (h:OpD X f p)(e:∀x y,q x y=p x y):OpD X f q:=by
 have   :=by funext x y;exact e x y
 simp_all
def N6:OpD X (binaryOp .Add) U0:=(D7.or (qc.or qa)).congr λx y=>by cases x<;>cases y<;>first|rfl|(done)|(simp only[U0,Os];split<;>rfl)
def EA:OpD X (binaryOp .Sub) K9:=D6.congr λx y=>by cases x<;>cases y<;>rfl
def N5:OpD X (binaryOp .Mult) Ke:=(qd.or A9).congr λx y=>by cases x<;>cases y<;>first|rfl|(done)|(simp only[Option.orElse];split<;>first|rfl|assumption)
def Ez:OpD X (binaryOp .Mod) Za:=D5.congr λx y=>by cases x<;>cases y<;>rfl
def Ey:OpD X (binaryOp .FloorDiv) Xb:=D4.congr λx y=>by cases x<;>cases y<;>rfl
def Ex:OpD X (binaryOp .Pow) Yx:=D3.congr λx y=>by cases x<;>cases y<;>rfl
end
section
variable{X:Cx}{B G0:Hp}{e a b c:Up}{pos:Pos}
def OpB(X:Cx)(f:Uj->Uj->Sem Uj)(op:D->D->yZ):Prop:=
 ∃r:R2,OpR X f r/\∀v u G H x y d Q,Same G H->Rep X.K G v x->Rep X.K G u y->op x y=O d->Q (.bl d) H->r v u H Q
def OpB.or   (h:OpB X f p)(h':OpB X f q):OpB X f (λx y=>(p x y).orElse λ_=>q x y):=by
 obtain⟨r,h1,i1⟩:=h;obtain⟨r',h2,i2⟩:=h';refine⟨_,h1.or h2,λv u G H x y d Q s rx ry e k=>?_⟩;dsimp only at e;cases z:p x y with
 |some d'=>rw[z]at e;have e'   :=QW e;subst e';exact .inl (i1 v u G H x y d' Q s rx ry z k)
 |none=>rw[z]at e;exact .inr (i2 v u G H x y d Q s rx ry e k)
def OpB.congr   (h:OpB X f p)(e:∀x y,q x y=p x y):OpB X f q:=by
 have   :=by funext x y;exact e x y
 simp_all
def A8    (o:OpB X (Ut op) p)(ha:PE X a (tD X.K B G0 f))(hb:PE X b (tD X.K B G0 g))(hm:behindInMarks op b=yN) :
  PT X (.Compare a [op] [b] pos) (tBo X.K B G0 (UP p f g)):=by
 obtain⟨r,h,i⟩:=o;refine YR (OU h ha hb hm) λσ H Q q=>?_;refine tM.two q λv u H2 G Z x y k rx ry a=>?_
 obtain⟨d,e,a⟩:=a.opt;exact i v u G H2 x y d _ k.gh rx ry e ⟨d,rfl,a.now k yK⟩
def UY{α β:Type}(h:α->β)(f:M α):M β:=U3 f λx=>UM (h x)
def tM.map{K}{α β γ δ}{R}{S}{σ}{H}{h:α->β}{f}{Q}(j:γ->δ)(q:tM K B G0 S (UY h f) σ H Q)
  (i:∀G v x,R G v x->S G (j v) (h x)):tM K B G0 R f σ H (λv H'=>Q (j v) H'):=
 tM.one   q λv H2 G Z x k r a=>aft.now (a) k (i G v x r)
def tBo.val{K}{σ}{H}{f}{Q}(q:tD K B G0 (UY Ux f) σ H Q):tBo K B G0 f σ H (λb H'=>Q (.bl b) H'):=
 tM.map  V.bl q λG v x e=>by rw[e];exact .bl x
def A7    (o:OpB X (Ut op) p)(ha:PE X a (tD X.K B G0 f))(hb:PE X b (tD X.K B G0 g))(hm:behindInMarks op b=yN) :
  PE X (.Compare a [op] [b] pos) (tD X.K B G0 (UY Ux (UP p f g))):=by
 obtain⟨r,h,i⟩:=o;refine Kp (LR h ha hb hm) λσ H Q q=>?_;refine tM.two (tBo.val q) λv u H2 G Z x y k rx ry a=>?_
 obtain⟨d,e,a⟩:=a.opt;exact i v u G H2 x y d _ k.gh rx ry e (a.now k yK)
def Wz(p q:D->D->yZ)(f g h:M D):M Bool:=U3 f λx=>U3 g λy=>U3 (U7 (p x y)) λt=>if t=yM then U3 h λz=>U7 (q y z)else UM yN
def vw  {p q}{f g h}(o:OpB X (Ut op) p)(o':OpB X (Ut op') q)(ha:PE X a (tD X.K B G0 f))(hb:PE X b (tD X.K B G0 g))(hc:PE X c (tD X.K B G0 h))
  (hm:lastMarks [op,op'] [b,c]=yN:=by with_unfolding_all rfl):PT X (.Compare a [op,op'] [b,c] pos) (tBo X.K B G0 (Wz p q f g h)):=by
 obtain⟨r,h1,i⟩:=o;obtain⟨r',h2,i'⟩:=o';refine YR (kQ h1 h2 ha hb hc hm) λσ H Q w=>?_;refine tM.two w λv u H2 G Z x y k rx ry a=>?_
 cases z:p x y with
 |none=>rw[z]at a;exact a.elim
 |some t=>
  rw[z]at a;refine i v u G H2 x y t _ k.gh rx ry z ⟨t,rfl,?_⟩;cases t with
  |false=>exact⟨yN,rfl,aft.now a k yK⟩
  |true=>
   refine⟨G,Z,k,?_⟩;have a4:aft X.K B G0 _ ((U3 h λz=>U7 _) Z) G σ Q:=a;unfold U3 at a4;cases z2:h Z with
   |bad=>rw[z2]at a4;exact a4.elim
   |ok d Z1=>rw[z2]at a4;intro w G5 H5 k5 s5 r5;obtain⟨t2,e2,a6⟩:=a4.opt;exact i' u w G5 H5 y d t2 _ k5.gh (ry.mono s5) r5 e2 ⟨t2,rfl,a6 t2 G5 H5 k5 s5 yK⟩
def vv  {p q}{f g h}(o:OpB X (Ut op) p)(o':OpB X (Ut op') q)(ha:PE X a (tD X.K B G0 f))(hb:PE X b (tD X.K B G0 g))(hc:PE X c (tD X.K B G0 h))
  (hm:lastMarks [op,op'] [b,c]=yN:=by with_unfolding_all rfl):PE X (.Compare a [op,op'] [b,c] pos) (tD X.K B G0 (UY Ux (Wz p q f g h))):=by
 obtain⟨r,h1,i⟩:=o;obtain⟨r',h2,i'⟩:=o';refine Kp (kR h1 h2 ha hb hc hm) λσ H Q w=>?_;refine tM.two (tBo.val w) λv u H2 G Z x y k rx ry a=>?_
 cases z:p x y with
 |none=>rw[z]at a;exact a.elim
 |some t=>
  rw[z]at a;refine i v u G H2 x y t _ k.gh rx ry z ⟨t,rfl,?_⟩;cases t with
  |false=>exact aft.now (v:=yN) a k yK
  |true=>
   refine⟨G,Z,k,?_⟩;have a4:aft X.K B G0 _ ((U3 h λz=>U7 _) Z) G σ _:=a;unfold U3 at a4;cases z2:h Z with
   |bad=>rw[z2]at a4;exact a4.elim
   |ok d Z1=>rw[z2]at a4;intro w G5 H5 k5 s5 r5;obtain⟨t2,e2,a6⟩:=a4.opt;exact i' u w G5 H5 y d t2 _ k5.gh (ry.mono s5) r5 e2 (a6 t2 G5 H5 k5 s5 yK)
noncomputable def oIB(g:Int->Int->Bool):D->D->yZ
 |.int i,.int j=>O (g i j)
 |_,_=>yL
def OpB.int   (h:OpR X f (rI0 λi j=>.bl (g i j))):OpB X f (oIB g):=by
 refine⟨_,h,λv u G H x y d Q s rx ry e k=>?_⟩;unfold oIB at e;split at e
 .cases e
  exact⟨_,_,rx.int_inv,ry.int_inv,k⟩
 simp_all
def B_lt:OpB X (Ut .Lt) (oIB λi j=>decide (i<j)):=.int Dm
def B_le:OpB X (Ut .LtE) (oIB λi j=>decide (i<=j)):=.int Dl
def B_gt:OpB X (Ut .Gt) (oIB λi j=>decide (j<i)):=.int DW
def B_ge:OpB X (Ut .GtE) (oIB λi j=>decide (j<=i)):=.int DV
mutual
theorem Xv{pins:List (Um×Obj)}{s:Uk}{σ:St}{G H:Hp}(I:Inv X pins σ H s)(sg:Same G H):∀{v:V}{d:D}{u:Uj},Rep X.K G v d->RelV v u->d.canLay0=yM->∃as,Reads s.heap u d as
 |_,_,_,.non,r,_=>by cases r;exact⟨_,.none⟩
 |_,_,_,.bl b,r,_=>by cases r;exact⟨_,.bool b⟩
 |_,_,_,.int i,r,_=>by obtain⟨t,rfl⟩:=r;exact⟨_,.int i t⟩
 |_,_,_,.str x,r,_=>by obtain⟨t,rfl⟩:=r;exact⟨_,.str x t⟩
 |_,_,_,.lst h q,r,c=>by cases r;obtain⟨its,rv,⟨o,n,e,hc,_,hd⟩,hz⟩:=I.list (sg.seq h);obtain⟨as,ra⟩:=readsAll_of I sg q rv (show UA _=yM by simpa[PyData.canLay0]using c);exact⟨_,.list e hc hd (by simpa using ra)⟩
 |_,_,_,.tup h q,r,c=>by cases r;obtain⟨its,rv,p,hz⟩:=I.tuple (YB sg h);obtain⟨o,e,hc,n,hd⟩:=p;obtain⟨as,ra⟩:=readsAll_of I sg q rv (show UA _=yM by simpa[PyData.canLay0]using c);exact⟨_,.tuple e hc hd (by simpa using ra)⟩
 |_,_,_,.dic h,r,c=>by simp[PyData.canLay0]at c
 |_,_,_,.exc _ _ _ _,r,c=>by simp[PyData.canLay0]at c
 |_,_,_,.dct _ _ _ _ _,r,c=>by simp[PyData.canLay0]at c
 |_,_,_,.dtt _ _ _ _,r,c=>by simp[PyData.canLay0]at c
theorem readsAll_of{pins:List (Um×Obj)}{s:Uk}{σ:St}{G H:Hp}(I:Inv X pins σ H s)(sg:Same G H):∀{vs:List V}{ds:yO}{us:yR},Reps X.K G vs ds->Vals vs us->UA ds=yM->∃as,ReadsAll s.heap us ds as
 |_,_,_,.nil,r,_=>by cases r;exact⟨_,.nil⟩
 |_,_,_,.cons h t,r,c=>by
  cases r with
  |cons r1 r2=>have c':=c;rw[UA,Qz]at c';obtain⟨as,ra⟩:=Xv I sg h r1 c'.1;obtain⟨bs,rb⟩:=readsAll_of I sg t r2 c'.2;exact⟨_,.cons ra rb⟩
end
noncomputable def oEq(x y:D):yZ:=if x.canLay0=yM/\y.canLay0=yM/\x.depth<=60 then O (UC x y)else yL
noncomputable def oNe(x y:D):yZ:=if x.canLay0=yM/\y.canLay0=yM/\x.depth<=60 then O (!UC x y)else yL
def B_eq(hu:X.A.units+64<cLine):OpB X (Ut .Eq) oEq:=by
 refine⟨λv u H Q=>∃G x y d,Same G H/\Rep X.K G v x/\Rep X.K G u y/\oEq x y=O d/\Q _ H,?_,λv u G H x y d Q s rx ry e k=>⟨G,x,y,d,s,rx,ry,e,k⟩⟩;intro pins s σ H x y v u Q I rx ry ⟨G,dx,dy,d,sg,px,py,e,q⟩;unfold oEq at e;split at e
 .rename_i c
  cases e;obtain⟨as,ra⟩:=Xv I sg px rx c.1;obtain⟨bs,rb⟩:=Xv I sg py ry c.2.1;exact SeqAt.compareEq_reads ra rb c.1 c.2.1 (by lia) ⟨.bl _,H,I,rfl,q⟩
 simp_all
def B_ne(hu:X.A.units+64<cLine):OpB X (Ut .NotEq) oNe:=by
 refine⟨λv u H Q=>∃G x y d,Same G H/\Rep X.K G v x/\Rep X.K G u y/\oNe x y=O d/\Q _ H,?_,λv u G H x y d Q s rx ry e k=>⟨G,x,y,d,s,rx,ry,e,k⟩⟩;intro pins s σ H x y v u Q I rx ry ⟨G,dx,dy,d,sg,px,py,e,q⟩;unfold oNe at e;split at e
 .rename_i c
  cases e;obtain⟨as,ra⟩:=Xv I sg px rx c.1;obtain⟨bs,rb⟩:=Xv I sg py ry c.2.1;exact SeqAt.compareNe_reads ra rb c.1 c.2.1 (by have:=c.2.2;lia) ⟨.bl _,H,I,rfl,q⟩
 simp_all
noncomputable def isNon:D->Bool
 |.none=>yM
 |_=>yN
def Rep.isNon{K}{G}{v}{d}(r:Rep K G v d):DL.isNon d=decide (v=.non):=by cases r<;>simp[DL.isNon]
end
section
variable{X:Cx}{B G0:Hp}{e a b c:Up}{pos:Pos}{es rest:yS}
def tM.nx{K}{α β γ δ}{R}{S}{σ}{G H}{Z}{f}{g:α->M β}{Q:δ->Hp->Prop}{P:γ->Hp->Prop}
  (k:EOk K B G0 G H σ Z) (a:aft K B G0 S (U3 f g Z) G σ Q) (i:∀v H' G' Z' x,EOk K B G0 G' H' σ Z'->Same G G'->R G' v x->aft K B G0 S (g x Z') G' σ Q->P v H'):tM K B G0 R f σ H P:=by
 refine⟨G,Z,k,?_⟩;unfold U3 at a;cases q:f Z with
 |bad=>rw[q]at a;exact a.elim
 |ok d Z1=>rw[q]at a;exact λv G' H' e s r=>i v H' G' Z1 d e s r (aft.mono s a)
def Ze(f g:M Bool):M Bool:=U3 f λt=>if t=yM then g else UM yN
def mOr(f g:M Bool):M Bool:=U3 f λt=>if t=yM then UM yM else g
def U8(f:M Bool):M Bool:=UY (λt=>!t) f
def B9{K}{f g}{σ}{H}{Q}(q:tBo K B G0 (Ze f g) σ H Q):tAnd (tBo K B G0 f) (tBo K B G0 g) σ H Q:=
 tM.one  q λv H2 G Z x k r a=>by
  subst r;cases v with
  |true=>exact⟨G,Z,k,a⟩
  |false=>exact aft.now  a k yK
def DZ{K}{f g}{σ}{H}{Q}(q:tBo K B G0 (mOr f g) σ H Q):tOr (tBo K B G0 f) (tBo K B G0 g) σ H Q:=
 tM.one  q λv H2 G Z x k r a=>by
  subst r;cases v with
  |false=>exact⟨G,Z,k,a⟩
  |true=>exact aft.now  a k yK
def pwof  (h:PW X e t)(i:∀σ H Q,t' σ H Q->t σ H Q):PW X e t':=λwh pins s σ H Q I q=>h wh pins s σ H Q I (i σ H Q q)
def jr  (ha:PT X a (tBo X.K B G0 f)):PW X (.BoolOp .And [a] pos) (tBo X.K B G0 f):=AH ha
def B8{f:M Bool}(ha:PT X a (tBo X.K B G0 f)):PW X (.BoolOp .Or [a] pos) (tBo X.K B G0 f):=Bt ha
def B7  (ha:PT X a (tBo X.K B G0 f))(hb:PW X (.BoolOp .And (b::rest) pos) (tBo X.K B G0 g)):PW X (.BoolOp .And (a::b::rest) pos) (tBo X.K B G0 (Ze f g)):=pwof (Bs ha hb) λ_ _ _ q=>B9 q
def DY  (ha:PT X a (tBo X.K B G0 f))(hb:PW X (.BoolOp .Or (b::rest) pos) (tBo X.K B G0 g)):PW X (.BoolOp .Or (a::b::rest) pos) (tBo X.K B G0 (mOr f g)):=pwof (Dx ha hb) λ_ _ _ q=>DZ q
def B6  (ha:PT X a (tBo X.K B G0 f)):PT X (.UnaryOp .Not a pos) (tBo X.K B G0 (U8 f)):=YR (Br ha) λσ H Q q=>tM.map  _ q λ_ v x e=>by rw[e]
def KM(f:M D):M Bool:=U3 f λx=>match x with | .bool t=>UM t|_=>λ_=>.bad
def B5  (h:PE X e (tD X.K B G0 f))(he:∀whole,isTrue e X.env whole=(do let v ←whole;standAt e.pos;holding [v] (truthy v)):=by intro _;rfl):PT X e (tBo X.K B G0 (KM f)):=
 YR (Bu h he) λσ H Q q=>tM.one  q λv H2 G Z x k r a=>by
  cases x with
  |bool t=>exact⟨t,r.bl_inv,aft.now  a k yK⟩
  |_=>exact a.elim
def Xr(f g:M D):M D:=U3 f λx=>match x with | .bool yM=>g | .bool yN=>UM (.bool yN)|_=>λ_=>.bad
def Wd(f g:M D):M D:=U3 f λx=>match x with | .bool yM=>UM (.bool yM) | .bool yN=>g|_=>λ_=>.bad
def RZ(f:M D):M D:=U3 f λx=>match x with | .bool t=>UM (.bool (!t))|_=>λ_=>.bad
def B4  (ha:PE X a (tD X.K B G0 f))(hb:PE X (.BoolOp .And (b::rest) pos) (tD X.K B G0 g)):PE X (.BoolOp .And (a::b::rest) pos) (tD X.K B G0 (Xr f g)):=
 Kp (Bp ha hb) λσ H Q q=>tM.one  q λv H2 G Z x k r a=>by
  cases x with
  |bool t=>
   refine⟨t,r.bl_inv,?_⟩;cases t with
   |true=>exact⟨G,Z,k,a⟩
   |false=>exact aft.now a k (.bl yN)
  |_=>exact a.elim
def DX  (ha:PE X a (tD X.K B G0 f))(hb:PE X (.BoolOp .Or (b::rest) pos) (tD X.K B G0 g)):PE X (.BoolOp .Or (a::b::rest) pos) (tD X.K B G0 (Wd f g)):=
 Kp (Du ha hb) λσ H Q q=>tM.one  q λv H2 G Z x k r a=>by
  cases x with
  |bool t=>
   refine⟨t,r.bl_inv,?_⟩;cases t with
   |false=>exact⟨G,Z,k,a⟩
   |true=>exact aft.now a k (.bl yM)
  |_=>exact a.elim
def B3{op}{f:M D}(h:PE X a (tD X.K B G0 f)):PE X (.BoolOp op [a] pos) (tD X.K B G0 f):=Bq h
def B2  (ha:PE X a (tD X.K B G0 f)):PE X (.UnaryOp .Not a pos) (tD X.K B G0 (RZ f)):=
 Kp (Bo ha) λσ H Q q=>tM.one  q λv H2 G Z x k r a=>by
  cases x with
  |bool t=>exact⟨t,r.bl_inv,aft.now a k (.bl _)⟩
  |_=>exact a.elim
def mIf{α:Type}(f:M Bool)(g h:M α):M α:=U3 f λt=>if t=yM then g else h
def vq   (hc:PT X c (tBo X.K B G0 f))(ha:PE X a (tD X.K B G0 g))(hb:PE X b (tD X.K B G0 h)):PE X (.IfExp c a b pos) (tD X.K B G0 (mIf f g h)):=
 Kp (kT hc ha hb) λσ H Q q=>tM.one  q λv H2 G Z x k r a=>by
  subst r;cases v with
  |true=>exact⟨G,Z,k,a⟩
  |false=>exact⟨G,Z,k,a⟩
def B0   (ha:PE X a (tD X.K B G0 f)):PT X (.Compare a [.Is] [.Constant .none j p2] pos) (tBo X.K B G0 (UY isNon f)):=
 YR (MX (MY ha)) λσ H Q q=>tM.one  q λv H2 G Z x k r a=>⟨_,rfl,aft.now a k (by rw[r.isNon])⟩
def jq   (ha:PE X a (tD X.K B G0 f)):PT X (.Compare a [.IsNot] [.Constant .none j p2] pos) (tBo X.K B G0 (UY (λd=>!isNon d) f)):=
 YR (MX (AI ha)) λσ H Q q=>tM.one  q λv H2 G Z x k r a=>⟨_,rfl,aft.now a k (by dsimp only;rw[r.isNon])⟩
def BZ   (ha:PE X a (tD X.K B G0 f)):PE X (.Compare a [.Is] [.Constant .none j p2] pos) (tD X.K B G0 (UY (λd=>.bool (isNon d)) f)):=
 Kp (Bv (MY ha)) λσ H Q q=>tM.one  q λv H2 G Z x k r a=>aft.now a k (by dsimp only;rw[r.isNon];exact .bl _)
def UK:M yO:=UM []
def UL(f:M D)(g:M yO):M yO:=U3 f λx=>U3 g λxs=>UM (x::xs)
def OQ:PA X [] (tDs X.K B G0 UK):=paof Xo λσ H Q ⟨G,Z,k,a⟩=>aft.now a k .nil
def tM.twoA{K}{σ}{H}{f}{g}{β δ}{S}{k:D->yO->M β}{Q:δ->Hp->Prop}{P:V->List V->Hp->Prop}
  (h:tM K B G0 S (U3 f λx=>U3 g λy=>k x y) σ H Q)
  (i:∀v u H2 G Z x y,EOk K B G0 G H2 σ Z->Rep K G v x->Reps K G u y->aft K B G0 S (k x y Z) G σ Q->P v u H2) :
  tD K B G0 f σ H (λv H1=>tDs K B G0 g σ H1 λu H2=>P v u H2):=by
 obtain⟨G,Z,e,a⟩:=tM.bind2   L4 h;refine⟨G,Z,e,?_⟩;cases q:f Z with
 |bad=>rw[q]at a;exact a.elim
 |ok d Z1=>
  rw[q]at a;intro v G' H' e' s r;obtain⟨x,G2,Z2,e2,a2⟩:=a v G' H' e' s r;refine⟨G2,Z2,e2,?_⟩;cases q2:g Z2 with
  |bad=>rw[q2]at a2;exact a2.elim
  |ok d3 Z3=>rw[q2]at a2;intro u G3 H3 e3 s3 r3;obtain⟨G4,Z4,y,e4,r4,r5,a5⟩:=a2 u G3 H3 e3 s3 r3;exact i v u H3 G4 Z4 x y e4 r4 r5 a5
def Ti   (ha:PE X e (tD X.K B G0 f))(hr:PA X es (tDs X.K B G0 g))(hs:Us (e::es) X.env=(yN,eval e X.env)::Us es X.env:=by rfl) :
  PA X (e::es) (tDs X.K B G0 (UL f g)):=paof (Yd ha hr hs) λσ H Q q=>tM.twoA q λv u H2 G Z x y k r1 r2 a=>aft.now a k (.cons r1 r2)
def Ky(f:M yO):M D:=U3 f λxs=>if xs.length<=1000000 then UM (.tuple xs)else λ_=>.bad
def U1(f:M yO):M D:=U3 f λxs=>if xs.length<=1000000 then UM (.list xs)else λ_=>.bad
def LY  {f}(h:PA X es (tDs X.K B G0 f)):PE X (.Tuple es x1 pos) (tD X.K B G0 (Ky f)):=
 Kp (OA h) λσ H Q q=>tM.one  q λv H2 G Z x k r a=>by
  split at a
  .rename_i c
   refine⟨by rw[r.length];exact QE c lim,λp hp=>?_⟩;exact aft.done a k (Ext.new k.gh hp) (.tup (SqT.of Kz) (r.mono (Zj (k.gh.free hp))))
  .exact a.elim
def LX  (h:PA X es (tDs X.K B G0 f)):PE X (.List es pos) (tD X.K B G0 (U1 f)):=
 Kp (MS h) λσ H Q q=>tM.one  q λv H2 G Z x k r a=>by
  split at a
  .rename_i c
   refine⟨by rw[r.length];exact QE c lim,λp hp=>?_⟩;exact aft.done a k (Ext.new k.gh hp) (.lst (SqL.of Kz) (r.mono (Zj (k.gh.free hp))))
  .exact a.elim
def oIx:D->D->yQ
 |.list xs,.int i=>atI xs i
 |.tuple xs,.int i=>atI xs i
 |.str z,.int i=>if z.length<=1000000 then(atI z.cps.toList i).map λc=>.str ⟨#[c]⟩else yL
 |_,_=>yL
def Reps.atI{K}{G}{vs}{ds}{i}{d}(r:Reps K G vs ds)(h:L2.atI ds i=O d):∃v,L2.atI vs i=O v/\Rep K G v d:=by
 unfold L2.atI at h⊢;rw[r.length];cases z:ixN ds.length i with
 |none=>simp_all
 |some j=>rw[z]at h;exact r.get  h
def MI{K}{v u}{G H}{x y d:D}{Q}(s:Same G H)(rx:Rep K G v x)(ry:Rep K G u y)(e:oIx x y=O d)(k:∀w,Rep K G w d->Q w H):rIx K v u H Q:=by
 unfold oIx at e;split at e
 .obtain⟨l,vs,rfl,h1,r1⟩:=rx.lst_inv
  obtain⟨w,e1,r2⟩:=r1.atI e;exact .inl ⟨l,vs,_,w,rfl,ry.int_inv,s.seq h1,e1,k w r2⟩
 .obtain⟨l,vs,rfl,h1,r1⟩:=rx.tup_inv
  obtain⟨w,e1,r2⟩:=r1.atI e;exact .inr (.inl ⟨l,vs,_,w,rfl,ry.int_inv,YB s h1,e1,k w r2⟩)
 .split at e
  .rename_i z i hz
   cases q:L2.atI z.cps.toList i with
   |none=>rw[q]at e;cases e
   |some ch=>rw[q]at e;cases e;exact .inr (.inr ⟨z,i,ch,rx.str_inv,ry.int_inv,QE hz lim,q,k _ (.str _)⟩)
  .cases e
 .cases e
def CG  (ha:PE X a (tD X.K B G0 f))(hb:PE X b (tD X.K B G0 g))(hs:OS b):PE X (.Subscript a b pos) (tD X.K B G0 (UP oIx f g)):=
 Kp (Mn MQ ha hb hs) λσ H Q q=>tM.two q λv u H2 G Z x y k rx ry a=>by obtain⟨d,e,a⟩:=a.opt;exact MI k.gh rx ry e λw r=>a.now k r
def UU(i:Nat)(g:M D):M D:=λZ=>match Z[i]? with
 |some (O (.pub d))=>(U3 g λy=>U7 (oIx d y)) Z
 |some (O (.own _))=>(U3 g λy=>λZ'=>match Z'[i]? with|some (O (.own ds))=>U7 (oIx (.list ds) y) Z'|_=>.bad) Z
 |_=>.bad
def BY   (ha:PE X a (KI i))(hb:PE X b (tD X.K B G0 g))(hs:OS b):PE X (.Subscript a b pos) (tD X.K B G0 (UU i g)):=
 Kp (Mn MQ ha hb hs) λσ H Q ⟨G,Z,k,a⟩=>by
  unfold UU at a;cases q:Z[i]? with
  |none=>rw[q]at a;exact a.elim
  |some o=>
   cases o with
   |none=>rw[q]at a;exact a.elim
   |some sl=>
    cases sl with
    |deep _ _=>rw[q]at a;exact a.elim
    |pub d=>
     rw[q]at a;obtain⟨v,h1,h2⟩:=k.pub i d q;refine⟨v,h1,G,Z,k,?_⟩;dsimp only[U3]at a;cases z:g Z with
     |bad=>rw[z]at a;exact a.elim
     |ok y Z1=>rw[z]at a;intro u G' H' k' s' r';obtain⟨d',e',a'⟩:=aft.opt a;exact MI k'.gh (h2.mono s') r' e' λw r=>a' w G' H' k' s' r
    |own ds=>
     rw[q]at a;obtain⟨ad,vs,h1,h2,h3,h4,h5⟩:=k.own i ds q;refine⟨.ref ad,h1,G,Z,k,?_⟩;dsimp only[U3]at a;cases z:g Z with
     |bad=>rw[z]at a;exact a.elim
     |ok y Z1=>
      rw[z]at a;dsimp only at a;intro u G' H' k' s' r';cases z2:Z1[i]? with
      |none=>rw[z2]at a;exact a.elim
      |some o2=>
       cases o2 with
       |none=>rw[z2]at a;exact a.elim
       |some sl2=>
        cases sl2 with
        |deep _ _=>rw[z2]at a;exact a.elim
        |pub d2=>rw[z2]at a;exact a.elim
        |own es2=>
         rw[z2]at a;obtain⟨d',e',a'⟩:=aft.opt a;obtain⟨bH,vs',g1,g2,g3,g4,g5⟩:=k'.own i es2 z2;rw[h1]at g1;cases g1;cases y with
         |int j=>obtain⟨w,e1,r2⟩:=g5.atI e';exact .inl ⟨ad,vs',j,w,rfl,r'.int_inv,SqL.of g4,e1,a' w G' H' k' s' r2⟩
         |_=>cases e'
def cutD(xs:yO)(lo hi:yX):yO:=(xs.drop (HT.sIx xs.length 0 lo)).take (HT.sIx xs.length xs.length hi-HT.sIx xs.length 0 lo)
def Reps.cut{K}{G}{vs}{ds}(r:Reps K G vs ds)(lo hi):Reps K G (Wg vs lo hi) (cutD ds lo hi):=by unfold Wg cutD;rw[r.length];exact(r.drop _).take _
noncomputable def Z9:D->Option yX
 |.int i=>O (O i)
 |_=>yL
def jp:PO X yL (tOi X.K B G0 (UM yL)):=poof A1 λσ H Q ⟨G,Z,k,a⟩=>aft.now a k yK
def jo  (h:PE X e (tD X.K B G0 f)):PO X (O e) (tOi X.K B G0 (U3 f λx=>U7 (Z9 x))):=poof (A0 h) λσ H Q q=>tM.one  q λv H2 G Z x k r a=>by
 cases x with
 |int i=>exact⟨i,r.int_inv,aft.now  a k yK⟩
 |_=>exact a.elim
end
noncomputable def Xd:List (D×D)->Bool
 |(.none,_)::_=>yM
 |_=>yN
def Xw:D->String
 |.none=> "NoneType"
 |.bool _=> "bool"
 |.int _=> "int"
 |.str _=> "str"
 |.list _=> "list"
 |.tuple _=> "tuple"
 |.dict kvs=>if Xd kvs=yM then "" else "dict"
def Kk(d:D)(c:String):Bool:=Xw d==c || (Xw d == "bool" && c == "int")
def Wp:D->Bool
 |.dict kvs=>Xd kvs
 |_=>yN
def nty{kvs:List (D×D)}{c}(h:(("dict" == c) || ("" == c))=yN):Kk (.dict kvs) c=yN:=by
 obtain⟨h1,h2⟩:=Bool.or_eq_false_iff.mp h
 show((if Xd kvs=yM then "" else "dict")==c || ((if Xd kvs=yM then "" else "dict") == "bool" && c == "int"))=yN
 cases Xd kvs with
 |true=>rw[Qp yK,h2];rfl
 |false=>rw[QH (by decide),h1];rfl
def MH{ks:yV}{ds:yO}:Xw (.dict ((ks.map kD).zip ds)) = "dict" /\ Wp (.dict ((ks.map kD).zip ds))=yN:=by
 cases ks with
 |nil=>exact⟨rfl,rfl⟩
 |cons k ks=>
  cases ds with
  |nil=>exact⟨rfl,rfl⟩
  |cons d ds=>cases k<;>exact⟨rfl,rfl⟩
def BX(K)(d:D)(c)(nx:Wp d=yN)(hc:c = "int" ∨ c = "bool" ∨ c = "str" ∨ c = "list" ∨ c = "tuple" ∨ c = "dict"):PySem.W.kitOne K (.type (Xw d)) (.type c)=O (Kk d c):=by
 cases d with
 |dict kvs=>
  have e:Xw (.dict kvs) = "dict" :=by
   have nx:Xd kvs=yN:=nx
   show(if Xd kvs=yM then "" else "dict")=_
   rw[nx];rfl
  unfold Kk;rw[e];rcases hc with rfl|rfl|rfl|rfl|rfl|rfl<;>rfl
 |_=>rcases hc with rfl|rfl|rfl|rfl|rfl|rfl<;>rfl
section
variable{X:Cx}{B G0:Hp}{e a b c:Up}{pos:Pos}{es rest:yS}
def YK(X:Cx)(f:Uj)(p:yO->yQ):Prop:=
 ∃r,YD X f r/\∀vs G H ds d Q,Same G H->Reps X.K G vs ds->p ds=O d->(∀w G' H',Ext G H G' H'->Rep X.K G' w d->Q w H')->r vs H Q
def KH(p:yO->yQ)(f:M yO):M D:=U3 f λxs=>U7 (p xs)
def Th  {p2}{id}{p}{f}(hc:YK X (.builtin id) p)(hg:Gl X x)(hm:X.mg x=yL)(hv:bootBuiltins x=O (.builtin id))(ha:PA X (e::es) (tDs X.K B G0 f))(hn:x ≠ "__name__" :=by decide)(hdb:(x==("__debug__" : Str))=yN:=by decide)
  (he:Us (e::es) X.env=(yN,eval e X.env)::Us es X.env:=by rfl) (hpl:(backTo pos (Us es X.env)).any (·.1)=yN:=by rfl):PE X (.Call (.Name x p2) (e::es) [] pos) (tD X.K B G0 (KH p f)):=by
 obtain⟨r,h,i⟩:=hc;refine Kp (RR h hg hm hv ha hn hdb he hpl) λσ H Q q=>tM.one  q λv H2 G Z x k rr a=>?_
 obtain⟨d,e,a⟩:=a.opt;exact i v G H2 x d Q k.gh rr e λw G' H' ex rw=>a.done k ex rw
def Fn  {p2}{T}{p}{f}(hc:YK X (.type T) p)(hg:Gl X x)(hm:X.mg x=yL)(hv:bootBuiltins x=O (.type T))(ha:PA X (e::es) (tDs X.K B G0 f))(hn:x ≠ "__name__" :=by decide)(hdb:(x==("__debug__" : Str))=yN:=by decide)
  (he:Us (e::es) X.env=(yN,eval e X.env)::Us es X.env:=by rfl) (hpl:(backTo pos (Us es X.env)).any (·.1)=yN:=by rfl):PE X (.Call (.Name x p2) (e::es) [] pos) (tD X.K B G0 (KH p f)):=by
 obtain⟨r,h,i⟩:=hc;refine Kp (Ob h hg hm hv ha hn hdb he hpl) λσ H Q q=>tM.one  q λv H2 G Z x k rr a=>?_
 obtain⟨d,e,a⟩:=a.opt;exact i v G H2 x d Q k.gh rr e λw G' H' ex rw=>a.done k ex rw
def Reps.nil_inv{K:Frag}{G:Hp}{vs:List V}(r:Reps K G vs []):vs=[]:=by cases r;rfl
def Reps.one_inv{K}{G}{vs}{d}(r:Reps K G vs [d]):∃v,vs=[v]/\Rep K G v d:=by
 cases r with
 |cons h t=>cases t;exact⟨_,rfl,h⟩
def Reps.two_inv{K}{G}{vs}{d d'}(r:Reps K G vs [d,d']):∃v v',vs=[v,v']/\Rep K G v d/\Rep K G v' d':=by
 cases r with
 |cons h t=>obtain⟨v',rfl,r'⟩:=t.one_inv;exact⟨_,v',rfl,h,r'⟩
noncomputable def Kb:yO->yQ
 |[.list xs]=>O (.int xs.length)
 |[.tuple xs]=>O (.int xs.length)
 |[.str z]=>if z.length<=1000000 then O (.int z.length)else yL
 |_=>yL
def Ew:YK X (.builtin "len") Kb:=by
 refine⟨_,Hb,λvs G H ds d Q s r e k=>?_⟩;unfold Kb at e;split at e
 .cases e
  obtain⟨v,rfl,q⟩:=r.one_inv;obtain⟨l,ws,rfl,h1,r1⟩:=q.lst_inv;exact⟨.ref l,ws.length,rfl,.inl ⟨ws,s.seq h1,rfl⟩,by rw[r1.length];exact k _ G H (.refl s) (.int _)⟩
 .cases e
  obtain⟨v,rfl,q⟩:=r.one_inv;obtain⟨l,ws,rfl,h1,r1⟩:=q.tup_inv;exact⟨.ref l,ws.length,rfl,.inr ⟨ws,YB s h1,rfl⟩,by rw[r1.length];exact k _ G H (.refl s) (.int _)⟩
 .split at e
  .rename_i z hz
   cases e;obtain⟨v,rfl,q⟩:=r.one_inv;exact⟨.str z,z.length,by rw[q.str_inv],⟨QE hz lim,rfl⟩,k _ G H (.refl s) (.int _)⟩
  simp_all
 simp_all
noncomputable def Rn:yO->yQ
 |[.int i,.int j]=>O (.int (if j > i then j else i))
 |_=>yL
def CF(hc:X.calm=yM):YK X (.builtin "max") Rn:=by
 refine⟨_,vc hc,λvs G H ds d Q s r e k=>?_⟩;unfold Rn at e;split at e
 .cases e
  obtain⟨v,v',rfl,r1,r2⟩:=r.two_inv;exact⟨_,_,by rw[r1.int_inv,r2.int_inv],k _ G H (.refl s) (.int _)⟩
 simp_all
def KB(i:Nat):M D:=λZ=>match Z[i]? with
 |some (O (.pub d))=>U7 (Kb [d]) Z
 |some (O (.own ds))=>.ok (.int ds.length) Z
 |_=>.bad
def jn  {p2:Pos}(hg:Gl X "len")(hm:X.mg "len" = yL)(ha:PE X e (KI i))(he:Us [e] X.env=[(yN,eval e X.env)]:=by rfl):PE X (.Call (.Name "len" p2) [e] [] pos) (tD X.K B G0 (KB i)):=by
 refine Kp (RR Hb hg hm PySem.boot_len (Yd ha Xo (by rw[he];rfl)) (by decide) (by decide) (by rw[he];rfl) yK) λσ H Q ⟨G,Z,k,a⟩=>?_
 unfold KB at a;cases q:Z[i]? with
 |none=>rw[q]at a;exact a.elim
 |some o=>
  cases o with
  |none=>rw[q]at a;exact a.elim
  |some sl=>
   cases sl with
   |deep _ _=>rw[q]at a;exact a.elim
   |pub d=>
    rw[q]at a;obtain⟨v,h1,h2⟩:=k.pub i d q;refine⟨v,h1,?_⟩;obtain⟨d',e',a'⟩:=aft.opt a;show ∃x n,[v]=[x]/\LenV X.K x H n/\Q (.int n) H;unfold Kb at e';split at e'
    .rename_i xs he'
     injection he' with aD ag;subst aD;cases e'
     obtain⟨l,ws,rfl,g1,r1⟩:=h2.lst_inv;exact⟨.ref l,ws.length,rfl,.inl ⟨ws,k.gh.seq g1,rfl⟩,by rw[r1.length];exact a'.now k (.int _)⟩
    .rename_i xs he'
     injection he' with aD ag;subst aD;cases e'
     obtain⟨l,ws,rfl,g1,r1⟩:=h2.tup_inv;exact⟨.ref l,ws.length,rfl,.inr ⟨ws,YB k.gh g1,rfl⟩,by rw[r1.length];exact a'.now k (.int _)⟩
    .rename_i z he'
     injection he' with aD ag;subst aD
     split at e'
     .rename_i hz
      cases e';exact⟨.str z,z.length,by rw[h2.str_inv],⟨QE hz lim,rfl⟩,a'.now k (.int _)⟩
     .cases e'
    .cases e'
   |own ds=>rw[q]at a;obtain⟨ad,vs,h1,g2,g3,h4,h5⟩:=k.own i ds q;exact⟨.ref ad,h1,.ref ad,vs.length,rfl,.inl ⟨vs,SqL.of h4,rfl⟩,by rw[h5.length];exact aft.now a k (.int _)⟩
def BW  {s:Uk}{σ:St}{G H:Hp}{v:V}{u:Uj}{d:D}{cv:Uj}{t:Bool}{A:Around}{E}{Q}(I:Inv X pins σ H s)(sg:Same G H)(r:Rep X.K G v d)(rv:RelV v u)(nx:Wp d=yN)
  (ek:PySem.W.kitOne X.K (.type (Xw d)) cv=O t) (h:∀tk,Q (.bool t) {s with toks:=tk}):Ur (model X.prog X.w) A (call (.builtin "isinstance") [u,cv]) Q E s:=by
 cases r with
 |non=>cases rv;exact JE PySem.W.kitx_none I.kIn True.intro ek (λz=>nomatch z) h
 |bl y=>cases rv;exact JE PySem.W.kitx_bool I.kIn True.intro ek (λz=>nomatch z) h
 |int i=>obtain⟨t',rfl⟩:=rv;exact JE PySem.W.kitx_int I.kIn True.intro ek (λz=>nomatch z) h
 |str y=>obtain⟨t',rfl⟩:=rv;exact JE PySem.W.kitx_str I.kIn True.intro ek (λz=>nomatch z) h
 |lst hl _=>cases rv;obtain⟨its,r,⟨o,n,e,hc,_,hd⟩,hz⟩:=I.list (sg.seq hl);exact JE PySem.W.kitx_list I.kIn ⟨o,e,hc⟩ ek (λz=>nomatch z) h
 |tup hl _=>cases rv;obtain⟨its,r,p,hz⟩:=I.tuple (YB sg hl);obtain⟨o,e,hc,_⟩:=p;exact JE PySem.W.kitx_tuple I.kIn ⟨o,e,hc⟩ ek (λz=>nomatch z) h
 |@dic ad hd=>
  cases rv;obtain⟨_,_,vs,_,p⟩:=(I.hok ad _ (sg _ _ hd))
  obtain⟨o,es,ep,h1,h2,_⟩:=p;exact JE PySem.W.kitx_dict I.kIn ⟨o,h1,h2.1⟩ ek (λz=>nomatch z) h
 |exc _ _ _ _=>cases nx
 |@dct ad ks vs ds kvs e0 _ _ hd _=>
  cases rv;subst e0;rw[MH.1]at ek;obtain⟨_,_,vs,_,p⟩:=(I.hok ad _ (sg _ _ hd))
  obtain⟨o,es,ep,h1,h2,_⟩:=p;exact JE PySem.W.kitx_dict I.kIn ⟨o,h1,h2.1⟩ ek (λz=>nomatch z) h
 |@dtt ad ob ks vs ds kvs e0 _ hd _=>
  cases rv;subst e0;obtain⟨_,_,_,xs,_,o,es,ep,h1,h2,_⟩:=(I.hok ad _ (sg _ _ hd))
  exact JE PySem.W.kitx_dict I.kIn ⟨o,h1,h2.1⟩ ek (λz=>nomatch z) h
def BV(c)(hc:c = "int" ∨ c = "bool" ∨ c = "str" ∨ c = "list" ∨ c = "tuple" ∨ c = "dict"):typeOf (.type c)=pure (.type "type"):=by rcases hc with rfl|rfl|rfl|rfl|rfl|rfl<;>kernel_rfl
def jm:YD X (.builtin "isinstance") (λxs H Q=>∃v c G d,xs=[v,.ty c]/\Same G H/\Rep X.K G v d/\(c = "int" ∨ c = "bool" ∨ c = "str" ∨ c = "list" ∨ c = "tuple" ∨ c = "dict")/\Q (.bl (Kk d c)) H):=by
 intro pins s σ H xs us Q I r h;obtain⟨v,c,G,d,rfl,sg,rp,hc,q⟩:=h;obtain⟨u,w',rfl,r1,r2⟩:=Op r;cases (r2);by_cases nx:Wp d=yM
 .cases rp with
  |@exc a C dd bm nm vs ds ck hx hd rr=>
   refine Hu (WI I.ok.mod.kin) pins s σ H [.ref a,.ty c] [u,.type c] Q I r ⟨a,C,dd,bm,yN,.ty c,yN,rfl,⟨nm,ck⟩,sg _ _ hx,.inr ⟨c,rfl,BV c hc,?_⟩,?_⟩
   .rw[ck.ty];rcases hc with rfl|rfl|rfl|rfl|rfl|rfl<;>rfl
   .have e:Kk (.dict [(.none,.tuple [.str nm,.list ds])]) c=yN:=by rcases hc with rfl|rfl|rfl|rfl|rfl|rfl<;>rfl
    simp_all
  |dct e _ _ _ _=>subst e;rw[MH.2]at nx;simp_all
  |dtt e _ _ _=>subst e;cases nx
  |_=>cases nx
 .have nx   :=by simpa using nx
  exact BW I sg rp r1 nx (BX X.K d c nx hc) λtk=>⟨.bl _,H,I.tok tk,rfl,q⟩
def FS:bootBuiltins "isinstance" = O (.builtin "isinstance"):=by decide +kernel
def RU  {p2 p3}{c}(hc:c = "int" ∨ c = "bool" ∨ c = "str" ∨ c = "list" ∨ c = "tuple" ∨ c = "dict")(hg:Gl X "isinstance")(hm:X.mg "isinstance" = yL)(ae:Gl X (UE c))(hm2:X.mg (UE c)=yL)
  (hv2:bootBuiltins (UE c)=O (.type c)) (ha:PE X e (tD X.K B G0 f)) (hn2:(UE c) ≠ "__name__") (hd2:((UE c)==("__debug__" : Str))=yN)
  (hs:Us [e,.Name (UE c) p3] X.env=(yN,eval e X.env)::Us [.Name (UE c) p3] X.env:=by rfl)
  (hs2:Us [.Name (UE c) p3] X.env=[(yN,eval (.Name (UE c) p3) X.env)]:=by rfl) :
  PE X (.Call (.Name "isinstance" p2) [e,.Name (UE c) p3] [] pos) (tD X.K B G0 (UY (λd=>.bool (Kk d c)) f)):=by
 refine Kp (RR jm hg hm FS (Yd ha (Yd (L7 (v:=.ty c) ae hm2 hv2 yK hn2 hd2) Xo (by rfl)) hs) (by decide) (by decide) hs (by rfl)) λσ H Q q=>?_
 refine tM.one  q λv H2 G Z x k r a=>?_
 exact⟨v,c,G,x,rfl,k.gh,r,hc,aft.now a k (.bl _)⟩
end
def spD(K:Frag)(n:Nat)(F:yO->yQ):Sp:=λvs H Q _=>∃G ds d,vs.length=n/\Same G H/\Reps K G vs ds/\F ds=O d/\∀v G' H',Ext G H G' H'->Rep K G' v d->Q v H'
section
variable{K:Frag}{B G0 G H:Hp}{σ:St}{Z:US}
def EOk.exit(k:EOk K B G0 G H σ Z):Ext G0 B G H:=⟨k.bh,k.g0,k.gh,k.np⟩
def YH{α:Type}{l:List α}{i}{x y}(h:(l.set i x)[i]?=O y):y=x:=by
 by_cases hl:i<l.length
 .simp_all
 .simp_all
def DpOk.setOther   {y}(k:DpOk K B G H σ Z)(hy:∀s,y=O s->∃d,s=.pub d):DpOk K B G H (σ.set i x) (Z.set i y):=by
 have nz:∀{m:Nat}{s:Sl},(Z.set i y)[m]?=O (O s)->(∃d,s=.pub d)∨(Z[m]?=O _/\(σ.set i x)[m]?=σ[m]?):=λ{m s} q=>by
  by_cases z:i=m
  .subst z
   exact .inl (hy s (YH q).symm)
  .rw[Qk z]at q⊢;exact .inr ⟨q,rfl⟩
 refine k.map (λm p d q=>?_) (λm es q=>?_) λm p d v fp q s r w n=>⟨r,w⟩
 .rcases nz q with ⟨_,e⟩|q
  .cases e
  .exact q
 .rcases nz q with ⟨_,e⟩|q
  .cases e
  .exact⟨es,q⟩
def EOk.setPub  {v:V}{d}(k:EOk K B G0 G H σ Z)(r:Rep K G v d)(hi:i<Z.length):EOk K B G0 G H (σ.set i (O v)) (Z.set i (O (.pub d))) where
 bh:=k.bh
 gh:=k.gh
 g0:=k.g0
 np:=k.np
 len:=by rw[QZ,QZ];exact k.len
 pub:=λj d' q=>by
  by_cases z:i=j
  .subst z
   have:=YH q;cases this;exact⟨v,QG (by rw[←k.len];exact hi),r⟩
  .rw[Qk z]at q⊢
   exact k.pub j d' q
 own:=λj ds q=>by
  by_cases z:i=j
  .subst z
   have:=YH q;cases this
  .rw[Qk z]at q⊢
   exact k.own j ds q
 sep:=λj l c es fs q1 q2 s1 s2=>by
  have z1:i≠j:=λz=>by subst z;have:=YH q1;cases this
  have z2:i≠l:=λz=>by subst z;have:=YH q2;cases this
  rw[Qk z1]at q1 s1;rw[Qk z2]at q2 s2;exact k.sep j l c es fs q1 q2 s1 s2
 dp:=k.dp.setOther (λs e=>by cases e;exact⟨_,rfl⟩)
structure NewL(K:Frag)(B G H:Hp)(σ:St)(Z:US)(a:Um)(vs:List V)(ds:yO):Prop where
 b:B a=yL
 g:G a=yL
 h:H a=O (.lst vs)
 r:Reps K G vs ds
 f:∀(j:Nat) es,Z[j]?=O (O (.own es))->σ[j]?≠O (O (.ref a))
 dp:∀(j:Nat) p d v fp,Z[j]?=O (O (.deep p d))->σ[j]?=O (O v)->RepO K G H p v d fp->a∉fp
def EOk.freshD   (k:EOk K B G0 G H σ Z)(e:Same H H')(ha:H a=yL){G'}{j:Nat}{p}{d}{v}{fp}(q:Z[j]?=O (O (.deep p d)))(s:σ[j]?=O (O v))(r:RepO K G' H' p v d fp):a∉fp:=λm=>by
 obtain⟨ω,k1,k2⟩:=k.dp;obtain⟨v',fp',s',r',n,w⟩:=k1 j p d q;rw[s]at s';cases s';have u:=r'.uniq e r;subst u;obtain⟨ws,hl⟩:=r'.isl a m
 lia
def EOk.setOwn  {a:Um}{vs:List V}{ds:yO}(k:EOk K B G0 G H σ Z)(n:NewL K B G H σ Z a vs ds)(hi:i<Z.length):EOk K B G0 G H (σ.set i (O (.ref a))) (Z.set i (O (.own ds))) where
 bh:=k.bh
 gh:=k.gh
 g0:=k.g0
 np:=k.np
 len:=by rw[QZ,QZ];exact k.len
 pub:=λj d' q=>by
  by_cases z:i=j
  .subst z
   have:=YH q;cases this
  .rw[Qk z]at q⊢
   exact k.pub j d' q
 own:=λj es q=>by
  by_cases z:i=j
  .subst z
   have:=YH q;cases this;exact⟨a,vs,QG (by rw[←k.len];exact hi),n.b,n.g,n.h,n.r⟩
  .rw[Qk z]at q⊢
   exact k.own j es q
 sep:=λj l c es fs q1 q2 s1 s2=>by
  have hs:i<σ.length:=by rw[←k.len];exact hi
  by_cases z1:i=j
  .subst z1
   rw[QG hs]at s1;cases s1;by_cases z2:i=l
   .exact z2
   .rw[Qk z2]at q2 s2
    exact absurd s2 (n.f l fs q2)
  .by_cases z2:i=l
   .subst z2
    rw[QG hs]at s2;cases s2;rw[Qk z1]at q1 s1;exact absurd s1 (n.f j es q1)
   .rw[Qk z1]at q1 s1
    rw[Qk z2]at q2 s2;exact k.sep j l c es fs q1 q2 s1 s2
 dp:=by
  obtain⟨ω,k1,k2⟩:=k.dp;have hs:i<σ.length:=by rw[←k.len];exact hi
  refine⟨λb=>if b=a then i else ω b,λj p d q=>?_,λj es b q s=>?_⟩
  .by_cases z:i=j
   .subst z;have:=YH q;cases this
   .rw[Qk z]at q⊢
    obtain⟨v,fp,s,r,nn,w⟩:=k1 j p d q;refine⟨v,fp,s,r,nn,λb m=>⟨(w b m).1,(w b m).2.1,?_⟩⟩;dsimp only;rw[QH (λz=>n.dp j p d v fp q s r (by rw[←z];exact m))];exact(w b m).2.2
  .by_cases z:i=j
   .subst z
    rw[QG hs]at s;cases s;dsimp only;rw[Qp yK]
   .rw[Qk z]at q s
    dsimp only;rw[QH (λe=>n.f j es q (by rw[←e];exact s))];exact k2 j es b q s
def EOk.change  {a:Um}{vs:List V}{ds es:yO}(k:EOk K B G0 G H σ Z)(q:Z[i]?=O (O (.own ds)))(ha:σ[i]?=O (O (.ref a)))(r:Reps K G vs es) :
  EOk K B G0 G (upd H a (.lst vs)) σ (Z.set i (O (.own es))):=by
 obtain⟨a',ws,h1,h2,h3,h4,h5⟩:=k.own i ds q;rw[ha]at h1;cases h1;refine⟨λb o e=>?_,λb o e=>?_,k.g0,k.np,by rw[QZ];exact k.len,λj d' e=>?_,λj fs e=>?_,λj l c fs gs q1 q2 s1 s2=>?_,?_⟩
 .rw[Km (ZO e h2)];exact k.bh b o e
 .rw[Km (ZO e h3)];exact k.gh b o e
 .by_cases z:i=j
  .subst z
   have:=YH e;cases this
  .rw[Qk z]at e
   exact k.pub j d' e
 .by_cases z:i=j
  .subst z
   have:=YH e;cases this;exact⟨a,vs,ha,h2,h3,Kz,r⟩
  .rw[Qk z]at e
   obtain⟨c,us,g1,g2,g3,g4,g5⟩:=k.own j fs e;have zc:c≠a:=λw=>z (k.sep i j a ds fs q e ha (by rw[←w];exact g1))
   exact⟨c,us,g1,g2,g3,by rw[Km zc];exact g4,g5⟩
 .have f:∀{m:Nat}{ts:yO},(Z.set i (O (Sl.own es)))[m]?=O _->∃ts',Z[m]?=O (O (.own ts')):=λ{m ts} e=>by
   by_cases z:i=m
   .subst z;exact⟨ds,q⟩
   .rw[Qk z]at e;exact⟨ts,e⟩
  obtain⟨f1,w1⟩:=f q1;obtain⟨f2,w2⟩:=f q2;exact k.sep j l c f1 f2 w1 w2 s1 s2
 .refine k.dp.map (λj p d e=>?_) (λj fs e=>?_) λj p d v fp qj s rj w n=>⟨rj.upd (λ_ z=>by rw[h4]at z;cases z) (n i ds a q ha),w⟩
  .by_cases z:i=j
   .subst z;have:=YH e;cases this
   .rw[Qk z]at e;exact⟨e,rfl⟩
  .by_cases z:i=j
   .subst z;exact⟨ds,q,rfl⟩
   .rw[Qk z]at e;exact⟨fs,e,rfl⟩
end
inductive Out where
 |nx (Z:US)|rt (d:D)|bk (Z:US)|ct (Z:US)|ex (Z:US) (d:D)|ro (ds:yO)|bad
abbrev SM:=US->Out
section
variable(K:Frag)(B G0:Hp)(KX:XW)
def aftS(o:Out)(G1:Hp)(Dn:Ends):Prop:=
 match o with
 |.nx Z=>∀σ G H,EOk K B G0 G H σ Z->Same G1 G->Dn.nx σ H
 |.bk Z=>∀σ G H,EOk K B G0 G H σ Z->Same G1 G->Dn.bk σ H
 |.ct Z=>∀σ G H,EOk K B G0 G H σ Z->Same G1 G->Dn.ct σ H
 |.rt d=>∀v G H,Ext G0 B G H->Rep K G v d->Dn.rt v H
 |.ro ds=>∀a vs G H,Ext G0 B G H->B a=yL->G a=yL->H a=O (.lst vs)->Reps K G vs ds->Dn.rt (.ref a) H
 |.ex Z d=>∀v σ G H,EOk K B G0 G H σ Z->Same G1 G->Rep K G v d->KX v σ H
 |.bad=>False
def tS(g:SM):TS:=λDn σ H=>∃G Z,EOk K B G0 G H σ Z/\aftS K B G0 KX (g Z) G Dn
noncomputable def sB{α:Type}(f:M α)(g:α->SM):SM:=λZ=>match f Z with | .ok a Z'=>g a Z' | .bad=>.bad
end
section
variable{X:Cx}{B G0:Hp}{KX:XW}{e a b c:Up}{pos:Pos}{es rest:yS}{st:Stmt}{sts sts2:List Stmt}
def aftS.mono{K}{o}{G G'}{Dn}(e:Same G G')(h:aftS K B G0 KX o G Dn):aftS K B G0 KX o G' Dn:=by
 cases o with
 |nx Z=>exact λσ G2 H2 k s=>h σ G2 H2 k (e.trans s)
 |bk Z=>exact λσ G2 H2 k s=>h σ G2 H2 k (e.trans s)
 |ct Z=>exact λσ G2 H2 k s=>h σ G2 H2 k (e.trans s)
 |rt d=>exact h
 |ro ds=>exact h
 |ex Z d=>exact λv σ G2 H2 k s r=>h v σ G2 H2 k (e.trans s) r
 |bad=>exact h
def tS.bnd{K}{α γ}{R}{f:M α}{g}{Dn}{σ}{H}{P:γ->Hp->Prop}(q:tS K B G0 KX (sB f g) Dn σ H)
  (i:∀v H' G' Z' x,EOk K B G0 G' H' σ Z'->R G' v x->aftS K B G0 KX (g x Z') G' Dn->P v H'):tM K B G0 R f σ H P:=by
 obtain⟨G,Z,k,a⟩:=q;refine⟨G,Z,k,?_⟩;unfold sB at a;cases z:f Z with
 |bad=>rw[z]at a;exact a.elim
 |ok d Z1=>rw[z]at a;exact λv G' H' e s r=>i v H' G' Z1 d e r (aftS.mono s a)
noncomputable def sNx:SM:=λZ=>.nx Z
noncomputable def UQ(g h:SM):SM:=λZ=>match g Z with | .nx Z'=>h Z'|o=>o
def CD:PSs X [] (tS X.K B G0 KX sNx):=Ro A6 λD σ H ⟨G,Z,k,a⟩=>a σ G H k (.refl _)
def LW  (h1:PS X st (tS X.K B G0 KX g))(h2:PSs X sts (tS X.K B G0 KX h)):PSs X (st::sts) (tS X.K B G0 KX (UQ g h)):=Ro (Tj h1 h2) λD σ H ⟨G,Z,k,a⟩=>by
 refine⟨G,Z,k,?_⟩;unfold UQ at a;cases z:g Z with
 |nx Z1=>rw[z]at a;exact λσ' G' H' k' s'=>⟨G',Z1,k',aftS.mono s' a⟩
 |rt d=>rw[z]at a;exact a
 |ro ds=>rw[z]at a;exact a
 |bk Z1=>rw[z]at a;exact a
 |ct Z1=>rw[z]at a;exact a
 |ex Z1 d=>rw[z]at a;exact a
 |bad=>rw[z]at a;exact a.elim
def CC{g:SM}(h1:PS X st (tS X.K B G0 KX g)):PSs X [st] (tS X.K B G0 KX g):=Tg h1
noncomputable def X3:SM:=λ_=>.bad
def jl:PS X st (tS X.K B G0 KX X3):=λ_ _ _ _ _ _ ⟨_,_,_,a⟩=>a.elim
def UW(f:M D):SM:=sB f λd _=>.rt d
def CB  (h:PE X e (tD X.K B G0 f)):PS X (.Return (O e) pos) (tS X.K B G0 KX (UW f)):=K3 (Pe h) λD σ H q=>tS.bnd  q λv H' G' Z' x k r a=>a v G' H' k.exit r
def XZ(f:M D):SM:=sB f λ_ Z=>.nx Z
def BU  (h:PE X e (tD X.K B G0 f))(hs:swapsWith e yL pos.line X.env=pure yN:=by rfl):PS X (.Expr e pos) (tS X.K B G0 KX (XZ f)):=K3 (VL h hs) λD σ H q=>tS.bnd  q λv H' G' Z' x k r a=>a σ G' H' k (.refl _)
def sIf(f:M Bool)(g h:SM):SM:=sB f λt=>if t=yM then g else h
def Ev   (hc:PT X c (tBo X.K B G0 f))(ha:PSs X sts (tS X.K B G0 KX g))(hb:PSs X sts2 (tS X.K B G0 KX h)):PS X (.If c sts sts2 pos) (tS X.K B G0 KX (sIf f g h)):=
 K3 (Ds hc ha hb) λD σ H q=>tS.bnd  q λv H' G' Z' x k r a=>by
  subst r;cases v with
  |true=>exact⟨G',Z',k,a⟩
  |false=>exact⟨G',Z',k,a⟩
def tG(K:Frag)(B G0:Hp)(s:D->US->yW):TG:=λv σ H Q=>∃G Z d Z',EOk K B G0 G H σ Z/\Rep K G v d/\s d Z=O Z'/\∀σ' G' H',EOk K B G0 G' H' σ' Z'->Same G G'->Q σ' H'
def tGs(K:Frag)(B G0:Hp)(s:yO->US->yW):TGs:=λv σ H Q=>∃G Z d Z',EOk K B G0 G H σ Z/\Reps K G v d/\s d Z=O Z'/\∀σ' G' H',EOk K B G0 G' H' σ' Z'->Same G G'->Q σ' H'
def pgof  (h:PG X e t)(i:∀v σ H Q,t' v σ H Q->t v σ H Q):PG X e t':=λpins s σ H v u Q I r q=>h pins s σ H v u Q I r (i v σ H Q q)
def Mg  (h:PGs X es t)(i:∀v σ H Q,t' v σ H Q->t v σ H Q):PGs X es t':=λpins s σ H v u Q I r q=>h pins s σ H v u Q I r (i v σ H Q q)
noncomputable def gN(i:Nat):D->US->yW:=λd Z=>if i<Z.length then O (Z.set i (O (.pub d)))else yL
def LV  (h:PG X e (Oq i)):PG X e (tG X.K B G0 (gN i)):=pgof h λv σ H Q ⟨G,Z,d,Z',k,r,e,q⟩=>by
 unfold gN at e;split at e
 .rename_i hi
  cases e;exact q _ G H (k.setPub r hi) (.refl _)
 simp_all
noncomputable def gN0:yO->US->yW:=λd Z=>match d with | []=>O Z|_=>yL
noncomputable def gNC(s:D->US->yW)(t:yO->US->yW):yO->US->yW:=λds Z=>match ds with|d::r=>(s d Z).bind (t r) | []=>yL
def CA:PGs X [] (tGs X.K B G0 gN0):=Mg OV λv σ H Q ⟨G,Z,d,Z',k,r,e,q⟩=>by
 cases r with
 |nil=>cases e;exact⟨rfl,q σ G H k (.refl _)⟩
 |cons _ _=>cases e
def BS   (h1:PG X e (tG X.K B G0 s))(h2:PGs X es (tGs X.K B G0 t))
  (hs:(UH (e::es) X.env).map (·.2)=assign e X.env::(UH es X.env).map (·.2):=by rfl):PGs X (e::es) (tGs X.K B G0 (gNC s t)):=Mg (RS h1 h2 hs) λv σ H Q ⟨G,Z,d,Z',k,r,e,q⟩=>by
 cases r with
 |nil=>cases e
 |@cons w dw ws dws rw rt=>
  unfold gNC at e;dsimp only at e;cases z:s dw Z with
  |none=>simp_all
  |some Z1=>rw[z]at e;refine⟨w,ws,rfl,G,Z,dw,Z1,k,rw,z,λσ' G' H' k' s'=>?_⟩;exact⟨G',Z1,dws,Z',k',rt.mono s',e,λσ2 G2 H2 k2 s2=>q σ2 G2 H2 k2 (s'.trans s2)⟩
noncomputable def gT(n:Nat)(t:yO->US->yW):D->US->yW:=λd Z=>match d with | .tuple ds=>if ds.length=n then t ds Z else yL|_=>yL
def Cz{k1}{t}{n}(hc:X.calm=yM)(h:PGs X es (tGs X.K B G0 t))
  (hn:(UH es X.env).length=n:=by rfl) (hst:(UH es X.env).findIdx? (·.1)=yL:=by rfl):PG X (.Tuple es k1 pos) (tG X.K B G0 (gT n t)):=pgof (OD hc h hn hst) λv σ H Q ⟨G,Z,d,Z',k,r,e,q⟩=>by
 unfold gT at e;split at e
 .split at e
  .rename_i hl
   obtain⟨ad,vs,rfl,h1,r1⟩:=r.tup_inv;exact⟨ad,vs,rfl,YB k.gh h1,by rw[r1.length];exact hl,G,Z,_,Z',k,r1,e,q⟩
  simp_all
 simp_all
def KY(f:M D)(s:D->US->yW):SM:=sB f λd Z=>match s d Z with|some Z'=>.nx Z'|none=>.bad
def Cy  {f}{s}(he:PE X e (tD X.K B G0 f))(hg:PG X tg (tG X.K B G0 s))(hs:swapsWithSole [tg] e pos.line X.env=pure yN:=by rfl)(hw:swappedStores [tg] e X.env=pure yL:=by rfl)
  (h1:(UH [tg] X.env).map (·.2)=[assign tg X.env]:=by rfl):PS X (.Assign [tg] e pos) (tS X.K B G0 KX (KY f s)):=
 K3 (MW he hg hs hw h1) λD σ H q=>tS.bnd  q λv H' G' Z' x k r a=>by
  cases z:s x Z' with
  |none=>rw[z]at a;exact a.elim
  |some Z2=>rw[z]at a;exact⟨G',Z',x,Z2,k,r,z,λσ2 G2 H2 k2 s2=>a σ2 G2 H2 k2 s2⟩
def U2(i:Nat)(f:M D):SM:=KY f (gN i)
def Cw     (hN:X.N.Nodup)(hi:X.N[i]?=O x)(hx:Loc X.env.scope x)(he:PE X e (tD X.K B G0 f))(hs:swapsWith e (O (.Name x p2)) pos.line X.env=pure yN:=by rfl)
  (hf:X.fn x=yM∨X.env.scope.names.lookup x=O .local:=by first|exact .inl rfl|exact .inr rfl|assumption):PS X (.Assign [.Name x p2] e pos) (tS X.K B G0 KX (U2 i f)):=
 K3 (Pd hN hi hx he hs hf) λD σ H q=>tS.bnd  q λv H' G' Z' x k r a=>by
  unfold gN at a;split at a
  .rename_i Z2 hz
   split at hz
   .rename_i hi2
    cases hz;exact a _ G' H' (k.setPub r hi2) (.refl _)
   simp_all
  .exact a.elim
noncomputable def tL(K:Frag)(B G0:Hp)(f:M yO):TE:=λσ H Q=>∃G Z,EOk K B G0 G H σ Z/\match f Z with
 |.ok ds Z'=>∀a vs G' H',EOk K B G0 G' H' σ Z'->Same G G'->NewL K B G' H' σ Z' a vs ds->Q (.ref a) H'
 |.bad=>False
def K1(i:Nat)(f:M yO):SM:=sB f λds Z=>if i<Z.length then .nx (Z.set i (O (.own ds)))else .bad
def BR     (hN:X.N.Nodup)(hi:X.N[i]?=O x)(hx:Loc X.env.scope x)(he:PE X e (tL X.K B G0 f))(hs:swapsWith e (O (.Name x p2)) pos.line X.env=pure yN:=by rfl)
  (hf:X.fn x=yM∨X.env.scope.names.lookup x=O .local:=by first|exact .inl rfl|exact .inr rfl|assumption):PS X (.Assign [.Name x p2] e pos) (tS X.K B G0 KX (K1 i f)):=
 K3 (Pd hN hi hx he hs hf) λD σ H ⟨G,Z,k,a⟩=>by
  refine⟨G,Z,k,?_⟩;unfold K1 sB at a;cases z:f Z with
  |bad=>rw[z]at a;exact a.elim
  |ok ds Z1=>
   rw[z]at a;intro ad vs G' H' k' s' n;dsimp only at a;split at a
   .rename_i hl
    exact a _ G' H' (k'.setOwn n hl) s'
   .exact a.elim
def NewL.of{K}{G H}{σ}{Z}{p}{vs}{ds}(k:EOk K B G0 G H σ Z)(hp:H p=yL)(r:Reps K G vs ds):NewL K B G (upd H p (.lst vs)) σ Z p vs ds where
 b:=k.bh.free hp
 g:=k.gh.free hp
 h:=Kz
 r:=r
 f:=λj es q z=>by
  obtain⟨a,ws,h1,h2,h3,h4,h5⟩:=k.own j es q
  lia
 dp:=λj pt d v fp q s rr=>k.freshD (Zj hp) hp q s rr
def LU  (h:PA X es (tDs X.K B G0 f)):PE X (.List es pos) (tL X.K B G0 (U3 f λxs=>if xs.length<=1000000 then UM xs else λ_=>.bad)):=
 Kp (MS h) λσ H Q ⟨G,Z,k,a⟩=>by
  refine⟨G,Z,k,?_⟩;unfold U3 at a;cases z:f Z with
  |bad=>simp_all
  |ok ds Z1=>
   rw[z]at a;dsimp only at a;intro v G' H' k' s' r;by_cases c:ds.length<=1000000
   .rw[Qp c]at a
    refine⟨by rw[r.length];exact QE c lim,λp hp=>?_⟩;exact a p v G' _ (k'.ext (Ext.hid k'.gh hp)) s' (NewL.of k' hp r)
   simp_all
def Zy(i:Nat)(f:M D):SM:=λZ0=>match Z0[i]? with
 |some (O (.own _))=>sB f (λd Z=>match Z[i]? with
  |some (O (.own ds))=>if ds.length<1000000 then .nx (Z.set i (O (.own (ds++[d]))))else .bad
  |_=>.bad) Z0
 |_=>.bad
def Cv  {f:M D}{o:Up}{apos cpos:Pos}(ho:PE X o (KI i))(he:PE X e (tD X.K B G0 f))
  (hbase:attributeBase o "append" X.env (eval o X.env)=eval o X.env:=by rfl)
  (hfew:((backTo cpos (Us [e] X.env)).all (λx=>!x.1)&&(backToKw cpos (keywordEach [] X.env)).all (λx=>x.1.isSome)
   && decide ([e].length+([]:List Keyword).length+(if([]:List Keyword).isEmpty then 0 else 1)<30))=yM:=by rfl)
  (hline:(apos.endLine==cpos.line)=yM:=by rfl) (hs:Us [e] X.env=[(yN,eval e X.env)]:=by rfl)
  (hsw:swapsWith (.Call (.Attribute o "append" apos) [e] [] cpos) yL pos.line X.env=pure yN:=by rfl) :
  PS X (.Expr (.Call (.Attribute o "append" apos) [e] [] cpos) pos) (tS X.K B G0 KX (Zy i f)):=
 K3 (VL (Pb PySem.F.plainAttrs_list PySem.F.slot_list_append PySem.F.type_list_append Nu ho (Yd he Xo (by rw[hs];rfl)) hbase hfew hline (by rw[hs];rfl) yK) hsw) λD σ H ⟨G,Z,k,a⟩=>by
  unfold Zy at a;cases q0:Z[i]? with
  |none=>rw[q0]at a;exact a.elim
  |some o0=>
   cases o0 with
   |none=>rw[q0]at a;exact a.elim
   |some sl0=>
    cases sl0 with
    |deep _ _=>rw[q0]at a;exact a.elim
    |pub d=>rw[q0]at a;exact a.elim
    |own zJ=>
     rw[q0]at a;obtain⟨ad,vs0,h1,h2,h3,h4,h5⟩:=k.own i zJ q0;refine⟨.ref ad,h1,.inl ⟨rfl,_,SqL.of h4⟩,G,Z,k,?_⟩;unfold sB at a;cases z:f Z with
     |bad=>rw[z]at a;exact a.elim
     |ok d Z1=>
      rw[z]at a;dsimp only at a;intro v G' H' k' s' r';cases q:Z1[i]? with
      |none=>rw[q]at a;exact a.elim
      |some o=>
       cases o with
       |none=>rw[q]at a;exact a.elim
       |some sl=>
        cases sl with
        |deep _ _=>rw[q]at a;exact a.elim
        |pub d=>rw[q]at a;exact a.elim
        |own ds=>
         rw[q]at a;dsimp only at a;split at a
         .rename_i hl
          obtain⟨bH,vs,g1,g2,g3,g4,g5⟩:=k'.own i ds q;rw[h1]at g1;cases g1;refine⟨ad,vs,v,rfl,rfl,g4,by rw[g5.length];exact QA hl lim,?_⟩;exact a σ G' _ (k'.change q h1 (g5.append (.cons r' .nil))) s'
         .exact a.elim
end
structure Xq(K:Frag)(J:It)(ds:yO)(G1:Hp):Prop where
 go:∀i G H,Same G1 G->Same G H->i<ds.length->J.go i H
 stop:∀i G H,Same G1 G->Same G H->ds.length<=i->J.stop i H
 yld:∀i G H x H' d,Same G1 G->Same G H->ds[i]?=O d->J.yld i H x H'->∃G',Ext G H G' H'/\Rep K G' x d
noncomputable def iD(K:Frag)(B G0:Hp)(f:M yO):TI:=λσ H R=>∃G Z,EOk K B G0 G H σ Z/\match f Z with
 |.ok ds Z'=>∀J G' H',EOk K B G0 G' H' σ Z'->Same G G'->Xq K J ds G'->R J H'
 |.bad=>False
section
variable{X:Cx}{B G0:Hp}{KX:XW}{e a b c tg:Up}{pos:Pos}{es rest:yS}{st:Stmt}{sts sts2:List Stmt}
def Xa  (h:PI X tg e t)(i:∀σ H R,t' σ H R->t σ H R):PI X tg e t':=λpins s σ H R I q=>h pins s σ H R I (i σ H R q)
def tM.toI{K}{α γ}{R0}{f:M α}{g}{σ}{H}{R}{P:γ->Hp->Prop}(q:iD K B G0 (U3 f g) σ H R)
  (i:∀v H' G' Z' x,EOk K B G0 G' H' σ Z'->R0 G' v x->(match g x Z' with
   |.ok ds Z2=>∀J G2 H2,EOk K B G0 G2 H2 σ Z2->Same G' G2->Xq K J ds G2->R J H2
   |.bad=>False)->P v H'):tM K B G0 R0 f σ H P:=by
 obtain⟨G,Z,k,a⟩:=q;refine⟨G,Z,k,?_⟩;unfold U3 at a;cases z:f Z with
 |bad=>rw[z]at a;exact a.elim
 |ok d Z1=>
  rw[z]at a;intro v G' H' e s r;refine i v H' G' Z1 d e r ?_;dsimp only at a;cases z2:g d Z1 with
  |bad=>rw[z2]at a;exact a.elim
  |ok ds Z2=>rw[z2]at a;exact λJ G2 H2 k2 s2 it=>a J G2 H2 k2 (s.trans s2) it
def vU{K}{G1}{ad}{vs}{ds}(h:SqL K G1 ad vs)(r:Reps K G1 vs ds):Xq K (Itl K ad) ds G1 where
 go:=λi G H s1 s2 hi=>by
  have hi':i<vs.length:=by rw[r.length];simp_all
  exact⟨vs,vs[i],(s1.trans s2).seq h,Qi hi'⟩
 stop:=λi G H s1 s2 hi=>⟨vs,(s1.trans s2).seq h,by rw[r.length];simp_all⟩
 yld:=λi G H x H' d s1 s2 e y=>by obtain⟨rfl,y⟩:=y;obtain⟨v,e1,r1⟩:=r.get e;have:=y vs ((s1.trans s2).seq h);rw[e1]at this;cases this;exact⟨G,.refl s2,r1.mono s1⟩
noncomputable def Yp(lo hi:Int):yO:=(Uu (hi-lo).toNat).map λ(k:Nat)=>.int (lo+k)
def X7(lo hi):(Yp lo hi).length=(hi-lo).toNat:=by unfold Yp;simp_all
def GZ{K}{G1}(lo hi):Xq K (Itr lo (hi-lo).toNat) (Yp lo hi) G1 where
 go:=λi G H s1 s2 h=>by rw[X7]at h;exact h
 stop:=λi G H s1 s2 h=>by rw[X7]at h;exact h
 yld:=λi G H x H' d s1 s2 e y=>by
  obtain⟨rfl,rfl⟩:=y;unfold Yp at e;rw[Qh]at e;have hi:i<(Uu (hi-lo).toNat).length:=by refine Nat.lt_of_not_le λz=>?_;rw[List.getElem?_eq_none z]at e;cases e
  rw[Qi hi,List.getElem_range]at e;cases e;exact⟨G,.refl s2,.int _⟩
def Rm:yO->Option yO
 |[.int j]=>if j<=1000000 /\ -1000000<=j then O (Yp 0 j)else yL
 |_=>yL
def Rl:yO->Option yO
 |[.int i,.int j]=>if j<=1000000 /\ -1000000<=j/\i<=1000000 /\ -1000000<=i then O (Yp i j)else yL
 |_=>yL
def XY(f:M yO):M yO:=U3 f λx=>U7 (Rm x)
def Oh(f:M yO):M yO:=U3 f λx=>U7 (Rl x)
def vp   (hg:Gl X "range")(hm:X.mg "range" = yL)(ha:PA X [a] (tDs X.K B G0 f))(hs:Us [a] X.env=[(yN,eval a X.env)]:=by rfl) :
  PI X tg (.Call (.Name "range" p2) [a] [] pos) (iD X.K B G0 (XY f)):=Xa (vg hg hm ha hs) λσ H R q=>tM.toI  q λv H' G' Z' x k r a=>by
 cases z:Rm x with
 |none=>rw[z]at a;exact a.elim
 |some ds=>
  rw[z]at a;unfold Rm at z;split at z
  .split at z
   .rename_i j c
    cases z;obtain⟨w,rfl,r'⟩:=r.one_inv;refine⟨j,by rw[r'.int_inv],by lia,by lia,?_⟩;have it:=GZ (K:=X.K) (G1:=G') 0 j;rw[Int.sub_zero]at it;exact a _ G' H' k (.refl _) it
   simp_all
  simp_all
def vo  {p2}(hg:Gl X "range")(hm:X.mg "range" = yL)(ha:PA X [a,b] (tDs X.K B G0 f))(hs:Us [a,b] X.env=[(yN,eval a X.env),(yN,eval b X.env)]:=by rfl)(hs2:Us [b] X.env=[(yN,eval b X.env)]:=by rfl) :
  PI X tg (.Call (.Name "range" p2) [a,b] [] pos) (iD X.K B G0 (Oh f)):=Xa (vf hg hm ha hs hs2) λσ H R q=>tM.toI  q λv H' G' Z' x k r a=>by
 cases z:Rl x with
 |none=>rw[z]at a;exact a.elim
 |some ds=>
  rw[z]at a;unfold Rl at z;split at z
  .split at z
   .rename_i i j c
    cases z;obtain⟨w,w',rfl,r1,r2⟩:=r.two_inv;refine⟨i,j,by rw[r1.int_inv,r2.int_inv],⟨by lia,by lia,by lia,by lia⟩,?_⟩;exact a _ G' H' k (.refl _) (GZ i j)
   simp_all
  simp_all
noncomputable def Ym(n:Nat):yO->yO
 |[]=>[]
 |d::r=>.tuple [.int n,d]::Ym (n+1) r
theorem WY:∀(n)(ds),(Ym n ds).length=ds.length
 |_,[]=>rfl
 |n,d::r=>by rw[Ym,QD,QD,WY]
theorem Nr:∀(n)(ds)(i:Nat),(Ym n ds)[i]?=ds[i]?.map λd=>.tuple [.int ((n+i:Nat):Int),d]
 |_,[],i=>by simp[Ym]
 |n,d::r,0=>by simp[Ym]
 |n,d::r,i+1=>by
  rw[Ym,JX,JX,Nr _ r i];have:n+1+i=n+(i+1):=by lia
  rw[this]
def vT{K}{G1}{ad}{vs}{ds}(h:SqL K G1 ad vs)(r:Reps K G1 vs ds):Xq K (Ite K ad) (Ym 0 ds) G1 where
 go:=λi G H s1 s2 hi=>by
  rw[WY]at hi;have hi':i<vs.length:=by rw[r.length];exact hi
  exact⟨vs,vs[i],(s1.trans s2).seq h,Qi hi'⟩
 stop:=λi G H s1 s2 hi=>by rw[WY]at hi;exact⟨vs,(s1.trans s2).seq h,by rw[r.length];exact hi⟩
 yld:=λi G H x H' d s1 s2 e y=>by
  obtain⟨p,v,hp,rfl,y,rfl⟩:=y;rw[Nr]at e;cases z:ds[i]? with
  |none=>rw[z]at e;cases e
  |some d0=>rw[z]at e;cases e;obtain⟨w,e1,r1⟩:=r.get z;have:=y vs ((s1.trans s2).seq h);rw[e1]at this;cases this;refine⟨upd G p _,Ext.new s2 hp,.tup (SqT.of Kz) (.cons ?_ (.cons ((r1.mono s1).mono (Zj (s2.free hp))) .nil))⟩;rw[JR];exact .int _
def Rk:yO->Option yO
 |[.list ds]=>O (Ym 0 ds)
 |_=>yL
def Xp(f:M yO):M yO:=U3 f λx=>U7 (Rk x)
def BQ   {elts}{x1}{tp}(hg:Gl X "enumerate")(hm:X.mg "enumerate" = yL)(ha:PA X [a] (tDs X.K B G0 f))(hs:Us [a] X.env=[(yN,eval a X.env)]:=by rfl) :
  PI X (.Tuple elts x1 tp) (.Call (.Name "enumerate" p2) [a] [] pos) (iD X.K B G0 (Xp f)):=Xa (AT hg hm ha hs) λσ H R q=>tM.toI  q λv H' G' Z' x k r a=>by
 cases z:Rk x with
 |none=>rw[z]at a;exact a.elim
 |some ds=>
  unfold Rk at z;split at z
  .obtain⟨w,rfl,r'⟩:=r.one_inv
   obtain⟨ad,vs,rfl,h1,r1⟩:=r'.lst_inv;exact⟨ad,vs,rfl,k.gh.seq h1,a _ G' H' k (.refl _) (vT h1 r1)⟩
  simp_all
noncomputable def Zm(s:D->US->yW)(g:SM):yO->SM
 |[],Z=>.nx Z
 |d::r,Z=>match s d Z with
  |none=>.bad
  |some Z1=>match g Z1 with
   |.nx Z2=>Zm s g r Z2
   |.ct Z2=>Zm s g r Z2
   |.bk Z2=>.nx Z2
   |.rt d=>.rt d
   |.ro ds=>.ro ds
   |.ex Z2 d=>.ex Z2 d
   |.bad=>.bad
def Ko(f:M yO)(s:D->US->yW)(g:SM):SM:=sB f λds=>Zm s g ds
def Cu{iter:Up}{body:List Stmt}{f:M yO}{s}{g:SM}(hp:PassesOwn (model X.prog X.w) X.A X.env X.xe)(hc:X.calm=yM)(hi:PI X tg iter (iD X.K B G0 f))(hg:PG X tg (tG X.K B G0 s))(hb:PSs X body (tS X.K B G0 KX g))
  (hs:∀x,UI iter X.env x=pure x:=by intro _;rfl):PS X (.For tg iter body [] pos) (tS X.K B G0 KX (Ko f s g)):=
 K3 (MV hp hc hi hg hb hs) λDn σ H ⟨G,Z,k,a⟩=>by
  refine⟨G,Z,k,?_⟩;unfold Ko sB at a;cases z:f Z with
  |bad=>rw[z]at a;exact a.elim
  |ok ds Z1=>
   rw[z]at a;intro J G1 H1 k1 s1 it;refine⟨λi m σ' H'=>m=ds.length-i/\∃G' Z',EOk X.K B G0 G' H' σ' Z'/\Same G1 G'/\aftS X.K B G0 KX (Zm s g (ds.drop i) Z') G' Dn,⟨ds.length,by lia,G1,Z1,k1,.refl _,by rw[List.drop_zero];exact aftS.mono s1 a⟩,?_⟩;rintro i m σ' H' ⟨rfl,G',Z',k',s',a'⟩;by_cases hi:i<ds.length
   .right
    refine⟨it.go i G' H' s' k'.gh hi,λσ2 H2=>∃G2 Z2,EOk X.K B G0 G2 H2 σ2 Z2/\Same G1 G2/\aftS X.K B G0 KX _ G2 Dn,λσ2 H2 h2=>⟨ds.length-(i+1),by lia,rfl,h2⟩,λx H2 y=>?_⟩;obtain⟨G2,ex,rx⟩:=it.yld i G' H' x H2 ds[i] s' k'.gh (Qi hi) y;rw[JV hi,Zm]at a';cases z2:s ds[i] Z' with
    |none=>rw[z2]at a';exact a'.elim
    |some Z2=>
     rw[z2]at a';dsimp only at a';refine⟨G2,Z',ds[i],Z2,k'.ext ex,rx,z2,λσ3 G3 H3 k3 s3=>⟨G3,Z2,k3,?_⟩⟩;have s13:Same G1 G3:=(s'.trans ex.g).trans s3;cases z3:g Z2 with
     |nx Z3=>rw[z3]at a';exact λσ4 G4 H4 k4 s4=>⟨G4,Z3,k4,s13.trans s4,aftS.mono ((ex.g.trans s3).trans s4) a'⟩
     |ct Z3=>rw[z3]at a';exact λσ4 G4 H4 k4 s4=>⟨G4,Z3,k4,s13.trans s4,aftS.mono ((ex.g.trans s3).trans s4) a'⟩
     |bk Z3=>rw[z3]at a';exact λσ4 G4 H4 k4 s4=>a' σ4 G4 H4 k4 ((ex.g.trans s3).trans s4)
     |rt d=>rw[z3]at a';exact a'
     |ro ds=>rw[z3]at a';exact a'
     |ex Z3 d=>rw[z3]at a';exact λv σ4 G4 H4 k4 s4 r4=>a' v σ4 G4 H4 k4 ((ex.g.trans s3).trans s4) r4
     |bad=>rw[z3]at a';exact a'.elim
   .left
    rw[List.drop_eq_nil_of_le (by lia)]at a';exact⟨it.stop i G' H' s' k'.gh (by lia),a' σ' G' H' k' (.refl _)⟩
def jk    {ps}{F}{g}{x:Str}{p2:Pos}{n:Nat}(FK:FnOk X.prog X.w X.K X.mg X.base CX0 k f fd ps (spD X.K n F))(hr:Room k X.A)(hg:Gl X x)(hm:X.mg x=O (.ref f))(hk:PySem.W.keepIn X.K (.ref f)=yM)
  (hb:YC X.K fd ps []) (ha:PA X (e::es) (tDs X.K B G0 g)) (hn:(e::es).length=n) (hdb:(x==("__debug__" : Str))=yN:=by decide) (he:Us (e::es) X.env=(yN,eval e X.env)::Us es X.env:=by rfl) (hpl:(backTo pos (Us es X.env)).any (·.1)=yN:=by rfl) :
  PE X (.Call (.Name x p2) (e::es) [] pos) (tD X.K B G0 (U3 g λxs=>if xs.length=n then U7 (F xs)else λ_=>.bad)):=
 Kp (LQ FK hr hg hm hk hb .nil Oo ha hdb he hpl) λσ H Q q=>tM.one  q λv H2 G Z ds k r a=>by
  split at a
  .rename_i hl
   obtain⟨d,e,a⟩:=a.opt;exact⟨G,ds,d,by rw[Q3,r.length];exact hl,k.gh,by rw[Q3];exact r,e,λw G' H' ex rw=>a.done k ex rw⟩
  .exact a.elim
end
noncomputable def YG(N:List Str)(ds:yO):US:=(ds.map λd=>O (Sl.pub d))++Uv (N.length-ds.length) yL
def Ng{K}{N:List Str}{G H:Hp}{vs:List V}{ds:yO}(s:Same G H)(r:Reps K G vs ds):EOk K H G G H (L2.X0 N vs) (YG N ds) where
 bh:=.refl _
 gh:=s
 g0:=.refl _
 np:=λ_ _ _ n=>n
 len:=by unfold L2.X0 YG;rw[Qj,Qj,Qd,Qd,QB,QB,r.length]
 pub:=λi d q=>by
  unfold YG at q;unfold L2.X0;by_cases hi:i<ds.length
  .rw[Qu (by rw[Qd];exact hi),Qh]at q
   cases z:ds[i]? with
   |none=>rw[z]at q;cases q
   |some d'=>rw[z]at q;cases q;obtain⟨v,e1,r1⟩:=r.get z;refine⟨v,?_,r1⟩;rw[Qu (by rw[Qd,r.length];exact hi),Qh,e1];rfl
  .rw[Qx (by rw[Qd];lia),QC]at q
   split at q<;>cases q
 own:=λi es q=>by
  unfold YG at q;by_cases hi:i<ds.length
  .rw[Qu (by rw[Qd];exact hi),Qh]at q
   cases z:ds[i]? with
   |none=>rw[z]at q;cases q
   |some d'=>rw[z]at q;cases q
  .rw[Qx (by rw[Qd];lia),QC]at q
   split at q<;>cases q
 sep:=λi j a es fs q _ _ _=>by
  unfold YG at q;by_cases hi:i<ds.length
  .rw[Qu (by rw[Qd];exact hi),Qh]at q
   cases z:ds[i]? with
   |none=>rw[z]at q;cases q
   |some d'=>rw[z]at q;cases q
  .rw[Qx (by rw[Qd];lia),QC]at q
   split at q<;>cases q
 dp:=by
  have key:∀{i:Nat}{s:Sl},(YG N ds)[i]?=O (O s)->∃d,s=.pub d:=λ{i s} q=>by
   unfold YG at q;by_cases hi:i<ds.length
   .rw[Qu (by rw[Qd];exact hi),Qh]at q
    cases z:ds[i]? with
    |none=>rw[z]at q;cases q
    |some d'=>rw[z]at q;cases q;exact⟨_,rfl⟩
   .rw[Qx (by rw[Qd];lia),QC]at q
    split at q<;>cases q
  exact .of (λi p d q=>by obtain⟨_,e⟩:=key q;cases e) λi ds q=>by obtain⟨_,e⟩:=key q;cases e
def U9(N:List Str)(g:SM)(ds:yO):yQ:=match g (YG N ds)with
 |.rt d=>O d
 |.nx _=>O .none
 |_=>yL
def okD   {K}{mg}{base:Heap}{x qual:Str}{st:Stmt}{f:Um}{fd:Uo}{N ps}{k n:Nat}{g:SM}(F:Fun K x qual st f fd)(S:Tf N ps (K7 st))(hn:ps.length=n)
  (der:∀(cdv:Uj)(A:Around)(outer)(s:Uk)(H:Hp)(E:XK)(B G0:Hp),Room k (A.deeper (envOfC qual (K7 st) s.heap.objs.size f cdv)) ->
   PSs (Zl CX0 P w K mg base N qual (K7 st) f cdv A outer s H E).nox (Yc st) (tS K B G0 KX0 g)):FnOk P w K mg base CX0 (k+1) f fd ps (spD K n (U9 N g)):=by
 refine F.ok S (λvs H Q E h=>?_) (λcdv A outer s H vs Q E hr h=>?_)
 .obtain⟨_,_,_,hl,_⟩:=h
  rw[hl,hn]
 .obtain⟨G,ds,d,hl,sg,r,hF,q⟩:=h
  refine⟨_,der cdv A outer s H E H G hr,G,YG N ds,Ng sg r,?_⟩;unfold U9 at hF;cases z:g _ with
  |rt d'=>rw[z]at hF;cases hF;exact λv G' H' ex rr=>q v G' H' ex rr
  |nx Z=>rw[z]at hF;cases hF;exact λσ' G' H' k' _=>q .non G' H' k'.exit .non
  |ro ds=>rw[z]at hF;cases hF
  |bk Z=>rw[z]at hF;cases hF
  |ct Z=>rw[z]at hF;cases hF
  |ex Z d=>rw[z]at hF;cases hF
  |bad=>rw[z]at hF;cases hF
section
variable{X:Cx}{B G0:Hp}{e a b c tg:Up}{pos:Pos}{es rest:yS}
noncomputable def oNeg:D->yQ
 |.int i=>O (.int (-i))
 |_=>yL
def Yl(f:M D):M D:=U3 f λx=>U7 (oNeg x)
def BP  (h:PE X a (tD X.K B G0 f)):PE X (.UnaryOp .USub a pos) (tD X.K B G0 (Yl f)):=
 Kp (Do BH h) λσ H Q q=>tM.one  q λv H2 G Z x k r a=>by
  cases x with
  |int i=>exact⟨i,r.int_inv,aft.now a k (.int _)⟩
  |_=>exact a.elim
end
def Def(P:Ul)(w:World)(K:Frag)(mg:Str->yT)(base:Heap)(x:Str)(k n:Nat)(F:yO->yQ):Prop:=
 ∃(f:Um)(fd:Uo)(ps:List Str),mg x=O (.ref f)/\PySem.W.keepIn K (.ref f)=yM/\YC K fd ps []/\FnOk P w K mg base CX0 k f fd ps (spD K n F)
def UV(n:Nat)(F:yO->yQ)(g:M yO):M D:=U3 g λxs=>if xs.length=n then U7 (F xs)else λ_=>.bad
section
variable{X:Cx}{B G0:Hp}{e:Up}{pos:Pos}{es:yS}
def BO    {x}{p2}(d:Def X.prog X.w X.K X.mg X.base x k n F)(hr:Room k X.A)(hg:Gl X x)(ha:PA X (e::es) (tDs X.K B G0 g))(hn:(e::es).length=n:=by rfl)
  (hdb:(x==("__debug__" : Str))=yN:=by decide) (he:Us (e::es) X.env=(yN,eval e X.env)::Us es X.env:=by rfl) (hpl:(backTo pos (Us es X.env)).any (·.1)=yN:=by rfl) :
  PE X (.Call (.Name x p2) (e::es) [] pos) (tD X.K B G0 (UV n F g)):=by
 obtain⟨f,fd,ps,h1,h2,h3,h4⟩:=d;exact jk h4 hr hg h1 h2 h3 ha hn hdb he hpl
end
def Def.mk   {K}{mg}{base}{x}{k n}{F}{st}{f}{fd}{ps}(hm:mg x=O (.ref f))(FU:Fun K x x st f fd)(hb:YC K fd ps [])(ok:FnOk P w K mg base CX0 k f fd ps (spD K n F)) :
  Def P w K mg base x k n F:=⟨f,fd,ps,hm,FU.kp,hb,ok⟩
def Ct{K}{H}{a}{ns:yP}{F}{E}(hS:SqL K H a (ns.map V.int))(h:F [.list (ns.map int)]=O (.bool yM)):spD K 1 F [.ref a] H (λv _=>v=.bl yM) E:=
 ⟨H,[.list _],.bool yM,rfl,.refl _,.cons (.lst hS (Reps.ints ns)) .nil,h,λ_ _ _ _ r=>r.bl_inv⟩
end DL
namespace L2
open PySem PySem.Spec PyProof.Rows
theorem mem_of_lookup   : ∀{l:List (Str×NameKind)},l.lookup x=O k->(x,k)∈l
 |[],h=>by cases h
 |(y,j)::r,h=>by
  rw[QT]at h;split at h
  .simp_all
  .exact Qm _ (mem_of_lookup h)
theorem NM{env:Env}:∀(l:List (Str×NameKind))(acc:List (Str×Um)),(∀y∈l,y.2=.free->∃c,env.cells.lookup y.1=O c) ->
  ∃cl,(forIn l acc (λx r=>if(x.2==NameKind.free)=yM then(do let a ←cellOf env x.1;pure (ForInStep.yield ((x.1,a)::r)))else pure (ForInStep.yield r)):Sem (List (Str×Um)))=pure cl /\
   (∀x c,cl.lookup x=O c->acc.lookup x=O c∨env.cells.lookup x=O c)/\(∀y∈l,y.2=.free->∃c,cl.lookup y.1=O c)/\(∀x c,acc.lookup x=O c->∃c',cl.lookup x=O c')
 |[],acc,_=>⟨acc,rfl,λ_ _ h=>.inl h,λ_ h=>absurd h (by simp),λx c h=>⟨c,h⟩⟩
 |(n,k)::r,acc,h=>by
  by_cases hk:k=.free
  .subst hk
   obtain⟨c,hc⟩:=h (n,.free) Qn yK;obtain⟨cl,e,p1,p2,p3⟩:=NM r ((n,c)::acc) λy hy=>h y (Qm _ hy)
   have hco:cellOf env n=pure c:=by unfold cellOf;rw[hc]
   have key:∀x c',((n,c)::acc).lookup x=O c'->acc.lookup x=O c'∨env.cells.lookup x=O c':=λx c' q=>by
    rw[QT]at q;split at q
    .rename_i e1
     cases q;have:x=n:=by simpa using e1
     subst this;exact .inr hc
    .exact .inl q
   have own:((n,c)::acc).lookup n=O c:=by simp
   refine⟨cl,?_,λx c' q=>?_,λy hy hf=>?_,λx c' q=>?_⟩
   .rw[List.forIn_cons]
    have:(if(((n,NameKind.free):Str×NameKind).2==NameKind.free)=yM then(do let a ←cellOf env n;pure (ForInStep.yield ((n,a)::acc)))else pure (ForInStep.yield acc):Sem _)=pure (ForInStep.yield ((n,c)::acc)):=by rw[hco];rfl
    refine Eq.trans ?_ e;rw[this];rfl
   .rcases p1 x c' q with z|z
    .exact key x c' z
    .exact .inr z
   .rcases Qs.mp hy with z|z
    .subst z
     exact p3 n c own
    .exact p2 y z hf
   .by_cases hx:x=n
    .subst hx;exact p3 x c own
    .refine p3 x c' ?_
     have hb:(x==n)=yN:=by simpa using hx
     rw[QT,hb];exact q
  .obtain⟨cl,e,p1,p2,p3⟩:=NM r acc λy hy=>h y (Qm _ hy)
   refine⟨cl,?_,p1,λy hy hf=>?_,p3⟩
   .rw[List.forIn_cons]
    have hb:(k==NameKind.free)=yN:=by cases k<;>first|rfl|exact absurd yK hk
    refine Eq.trans ?_ e;dsimp only;rw[hb,QH (by decide)];rfl
   .rcases Qs.mp hy with z|z
    .subst z;exact absurd hf hk
    .exact p2 y z hf
def vS   (h:∀y∈scope.names,y.2=.free->∃c,env.cells.lookup y.1=O c) :
  ∃cl,closureFor scope env=pure cl/\(∀x c,cl.lookup x=O c->env.cells.lookup x=O c)/\∀y∈scope.names,y.2=.free->∃c,cl.lookup y.1=O c:=by
 obtain⟨cl,e,p1,p2,_⟩:=NM scope.names [] h;refine⟨cl,?_,λx c q=>(p1 x c q).elim (λz=>by cases z) id,p2⟩;have e2:((forIn scope.names [] (λx r=>if(x.2==NameKind.free)=yM then(do let a ←cellOf env x.1;pure (ForInStep.yield ((x.1,a)::r)))else pure (ForInStep.yield r)):Sem _) >>= λs=>pure s)=pure cl:=by rw[e];rfl
 exact e2
theorem GY{env:Env}{x}{k}:∀{names:List (Str×NameKind)},(names.map λ(n,k)=>if(k==NameKind.free&&env.scope.kind==.function&&env.kindOf n==O .cell)then(n,NameKind.cell)else(n,k)).lookup x=O k ->
  names.lookup x=O k∨(names.lookup x=O .free/\k=.cell)
 |[],h=>by cases h
 |(n,j)::r,h=>by
  have ih:=@GY env x k r;have h:List.lookup x ((if _=yM then(n,NameKind.cell)else(n,j))::_)=O k:=h;cases hx:x==n with
  |true=>
   by_cases hc:(j==NameKind.free&&env.scope.kind==.function&&env.kindOf n==O .cell)=yM
   .rw[Qp hc]at h
    simp only[QT,hx]at h⊢;cases h;simp only[Qz]at hc;have:j=.free:=by have:=hc.1.1;cases j<;>first|rfl|cases this
    subst this;exact .inr ⟨rfl,rfl⟩
   .rw[QH hc]at h
    simp only[QT,hx]at h⊢;exact .inl h
  |false=>
   by_cases hc:(j==NameKind.free&&env.scope.kind==.function&&env.kindOf n==O .cell)=yM
   .rw[Qp hc]at h
    simp only[QT,hx]at h⊢;exact ih h
   .rw[QH hc]at h
    simp only[QT,hx]at h⊢;exact ih h
theorem FF{env:Env}{x}:∀{names:List (Str×NameKind)},names.lookup x=O .free ->
  (names.map λ(n,k)=>if(k==NameKind.free&&env.scope.kind==.function&&env.kindOf n==O .cell)then(n,NameKind.cell)else(n,k)).lookup x=O .free ∨
  (names.map λ(n,k)=>if(k==NameKind.free&&env.scope.kind==.function&&env.kindOf n==O .cell)then(n,NameKind.cell)else(n,k)).lookup x=O .cell
 |[],h=>by cases h
 |(n,j)::r,h=>by
  have ih:=@FF env x r;show List.lookup x ((if _=yM then(n,NameKind.cell)else(n,j))::_)=_∨List.lookup x ((if _=yM then(n,NameKind.cell)else(n,j))::_)=_;cases hx:x==n with
  |true=>
   simp only[QT,hx]at h;cases h;by_cases hc:(NameKind.free==NameKind.free&&env.scope.kind==.function&&env.kindOf n==O .cell)=yM
   .rw[if_pos hc];simp[List.lookup_cons,hx]
   .rw[if_neg hc];simp[List.lookup_cons,hx]
  |false=>
   simp only[QT,hx]at h;by_cases hc:(j==NameKind.free&&env.scope.kind==.function&&env.kindOf n==O .cell)=yM
   .rw[Qp hc];simp only[QT,hx];exact ih h
   .rw[QH hc];simp only[QT,hx];exact ih h
theorem Tk{env:Env}{x}{k}(hk:k≠.free):∀{names:List (Str×NameKind)},names.lookup x=O k ->
  (names.map λ(n,k)=>if(k==NameKind.free&&env.scope.kind==.function&&env.kindOf n==O .cell)then(n,NameKind.cell)else(n,k)).lookup x=O k
 |[],h=>by cases h
 |(n,j)::r,h=>by
  have ih:=@Tk env x k hk r;show List.lookup x ((if _=yM then(n,NameKind.cell)else(n,j))::_)=_;cases hx:x==n with
  |true=>
   simp only[QT,hx]at h;cases h;have:(k==NameKind.free)=yN:=by cases k<;>first|rfl|exact absurd yK hk
   rw[if_neg (by rw[this];simp)];simp[List.lookup_cons,hx]
  |false=>
   simp only[QT,hx]at h;by_cases hc:(j==NameKind.free&&env.scope.kind==.function&&env.kindOf n==O .cell)=yM
   .rw[Qp hc];simp only[QT,hx];exact ih h
   .rw[QH hc];simp only[QT,hx];exact ih h
structure ClOk(env:Env)(scope:Scope)(cl:List (Str×Um))(L:Um)(h':Heap):Prop where
 old:∀x c,cl.lookup x=O c->env.cells.lookup x=O c∨(L<c/\h'.IsCell c yL)
 fre:∀x,scope.names.lookup x=O .free->∃c,cl.lookup x=O c/\env.cells.lookup x=O c
 cel:∀x,scope.names.lookup x=O .cell->∃c,cl.lookup x=O c/\L<c
 inj:∀x y c,cl.lookup x=O c->cl.lookup y=O c->L<c->x=y
theorem RX:∀(names)(n)(acc),cellsFrom n names acc=cellsFrom n names []++acc
 |[],_,_=>rfl
 |(x,k)::r,n,acc=>by
  unfold cellsFrom;split
  .rw[RX r _ _,RX r _ [(x,n)],QS];rfl
  .exact RX r n acc
theorem NU:∀(names)(n)(x)(c),(x,c)∈cellsFrom n names []->(x,NameKind.cell)∈names
 |[],_,_,_,h=>by cases h
 |(y,k)::r,n,x,c,h=>by
  unfold cellsFrom at h;split at h
  .rw[RX]at h
   rcases QO.mp h with h|h
   .exact Qm _ (NU r _ x c h)
   grind
  .exact Qm _ (NU r _ x c h)
def Cs{M:Model}{A:Around}{E}{scope:Scope}{env:Env}{aV:List (Str×Um)}{s:Uk}{Q:Env->Uk->Prop}(aU:∀x c,aV.lookup x=O c->env.cells.lookup x=O c)(cl2:∀y∈scope.names,y.2=.free->∃c,aV.lookup y.1=O c)(hn:∀y∈scope.names,scope.names.lookup y.1=O y.2)
  (hlt:∀x c,env.cells.lookup x=O c->c<s.heap.objs.size)
  (h:∀h' cl,h'.Ns s.heap.objs.size (λ_=>yL)->(∀b o,s.heap.get? b=O o->h'.get? b=O o)->ClOk env scope cl s.heap.objs.size h'->Q (newEnv scope s.heap.objs.size env.globals cl env.qual yL .none (O env) builtinsNs) {s with heap:=h'}) :
  Ur M A (newFunctionEnv scope env.globals aV [] env.qual yL .none (O env)) Q E s:=by
 simp only[newFunctionEnv,Option.isSome_some,if_true];refine Qb (wpAny_alloc ?_);refine wpAny_bind (wpAny_layCells _ (λname kind cells=>by cases hkc:kind==NameKind.cell<;>simp[hkc]) _ _ _ _ ?_);have ok:=cellsFrom_ok scope.names (s.heap.push {cls:=.type "dict", data:=.dict #[]}) (s.heap.objs.size+1) [] ⟨λ_ _ hm=>(nomatch hm),List.Pairwise.nil⟩ (by rw[Jx];exact Qo _);rw[Jx]at ok;rw[Jx ..];rw[List.forIn_nil];refine Qb (Qf (Qf (h _ _ ((Heap.Ns.new s.heap (.type "dict")).keeps (pushCells_keeps _ _)) (λb o e=>pushCells_keeps _ _ b o (Qe _ e)) ?_)));have look:∀x,(cellsFrom (s.heap.objs.size+1) scope.names aV).lookup x=((cellsFrom (s.heap.objs.size+1) scope.names []).lookup x).or (aV.lookup x):=λx=>by rw[RX,List.lookup_append]
 have own:∀x c,(cellsFrom (s.heap.objs.size+1) scope.names []).lookup x=O c->scope.names.lookup x=O .cell:=λx c e=>hn _ (NU _ _ _ _ (Q8 e))
 refine⟨λx c e=>?_,λx e=>?_,λx e=>?_,λx y c e1 e2 hc=>?_⟩
 .rw[look]at e
  cases z:(cellsFrom (s.heap.objs.size+1) scope.names []).lookup x with
  |none=>rw[z]at e;exact .inl (aU x c e)
  |some c'=>rw[z]at e;cases e;obtain⟨h1,h2⟩:=ok.empty x c (Q8 z);exact .inr ⟨h2,h1⟩
 .obtain⟨c,hc⟩:=cl2 (x,.free) (mem_of_lookup e) yK
  refine⟨c,?_,aU x c hc⟩;rw[look];cases z:(cellsFrom (s.heap.objs.size+1) scope.names []).lookup x with
  |none=>exact hc
  |some c'=>have:=own x c' z;rw[e]at this;cases this
 .obtain⟨c,hc⟩:=Nk  e
  refine⟨c,by rw[look,hc];rfl,(ok.empty x c (Q8 hc)).2⟩
 .rw[look]at e1 e2
  cases z1:(cellsFrom (s.heap.objs.size+1) scope.names []).lookup x with
  |none=>rw[z1]at e1;exact absurd (hlt x c (aU x c e1)) (Nat.lt_asymm hc)
  |some c1=>
  cases z2:(cellsFrom (s.heap.objs.size+1) scope.names []).lookup y with
  |none=>rw[z2]at e2;exact absurd (hlt y c (aU y c e2)) (Nat.lt_asymm hc)
  |some c2=>rw[z1]at e1;rw[z2]at e2;cases e1;cases e2;exact name_of_addr ok.apart (Q8 z1) (Q8 z2)
noncomputable def Cx.blk(X:Cx)(N':List Str)(scope:Scope)(cl:List (Str×Um))(C:Um)(s₀:Uk)(H₀:Hp)(ex:yU):Cx:=
 {X with N:=N',s₀:=s₀,H₀:=H₀,env:=compEnvC scope cl C X.env,outer:=X.stack,ex:=ex,fn:=λx=>scope.names.lookup x==O .cell,xe:=λ_ _=>False}
section
variable{X:Cx}{N':List Str}{scope:Scope}{cl:List (Str×Um)}{C:Um}{s₀:Uk}{H₀:Hp}{ex:yU}{x:Str}
noncomputable def visK:Option NameKind->Bool
 |some .local=>yM|some .free=>yM|some .cell=>yM|_=>yN
def BN(h:visK (scope.names.lookup x)=yM):Vis (X.blk N' scope cl C s₀ H₀ ex).env.scope x:=by
 cases z:scope.names.lookup x with
 |none=>rw[z]at h;cases h
 |some y=>
  rw[z]at h;cases y with
  | «local»=>exact .inl (Tk (by decide) z)
  |cell=>exact .inr (.inl (Tk (by decide) z))
  |free=>
   rcases FF  z with z|z
   .exact .inr (.inr z)
   .exact .inr (.inl z)
  |_=>cases h
noncomputable def locK:Option NameKind->Bool
 |some .local=>yM|some .cell=>yM|_=>yN
def LS(h:locK (scope.names.lookup x)=yM):Loc (X.blk N' scope cl C s₀ H₀ ex).env.scope x/\((X.blk N' scope cl C s₀ H₀ ex).fn x=yM∨(X.blk N' scope cl C s₀ H₀ ex).env.scope.names.lookup x=O .local):=by
 cases z:scope.names.lookup x with
 |none=>rw[z]at h;cases h
 |some y=>
  rw[z]at h;cases y with
  | «local»=>exact⟨.inl (Tk (by decide) z),.inr (Tk (by decide) z)⟩
  |cell=>exact⟨.inr (Tk (by decide) z),.inl (by show(scope.names.lookup x==O .cell)=yM;rw[z];rfl)⟩
  |_=>cases h
def Cr(h:scope.names.lookup x=O .globalImplicit):Gl (X.blk N' scope cl C s₀ H₀ ex) x:=Tk (by decide) h
end
noncomputable def RQ(names:List (Str×NameKind))(N N2:List Str)(k:Nat):Bool:=
 N2.length==N.length+k&&(Uu N2.length).all λi=>match N2[i]? with
  |none=>yM
  |some x=>match names.lookup x with
   |some .free=>N[i]?==O x
   |some .local=>decide (N.length<=i)&&decide (i<N.length+k)
   |some .cell=>decide (N.length<=i)&&decide (i<N.length+k)
   |_=>yM
def yw    (h:RQ names N N2 k=yM) :
  N2.length=N.length+k/\∀(i) x,N2[i]?=O x->(names.lookup x=O .free->N[i]?=O x)/\(names.lookup x=O .local∨names.lookup x=O .cell->N.length<=i/\i<N.length+k):=by
 unfold RQ at h;simp only[Qz,beq_iff_eq,QL,JC]at h;refine⟨h.1,λi x e=>?_⟩;have hi:=(Ql.mp e).1;have:=h.2 i hi;rw[e]at this;refine⟨λq=>?_,λq=>?_⟩
 .simp_all
 .rcases q with q|q<;>(simp only[q]at this;simpa using this)
def Inv.enter{X:Cx}{pins:List (Um×Obj)}{σ:St}{H:Hp}{s3:Uk}(I:Inv X pins σ H s3){scope:Scope}{cl:List (Str×Um)}{N2:List Str}{k:Nat}{h':Heap}{fp:yU}{t':Nat}{m0:Str->yT}
  (hb:RQ scope.names X.N N2 k=yM) (hkind:scope.kind=.function)
  (hfree:∀y∈scope.names,y.2=.free->X.env.scope.names.lookup y.1=O .cell∨X.env.scope.names.lookup y.1=O .free)
  (hc:ClOk X.env scope cl s3.heap.objs.size h')
  (hn:h'.Ns s3.heap.objs.size m0) (hk:∀b o,s3.heap.get? b=O o->h'.get? b=O o) (hf:∀b∈fp,ZC X pins H b) (hfo:∀b∈fp,∃o,s3.heap.get? b=O o) :
  Inv (X.blk N2 scope cl s3.heap.objs.size s3 H fp) pins (σ++Uv k yL) H {s3 with heap:=h',toks:=t'}:=by
 obtain⟨hl,hN⟩:=yw hb;have lt:∀b o,s3.heap.get? b=O o->b≠s3.heap.objs.size:=λb o e=>QJ (Qg e);have ofl:∀x,scope.names.lookup x=O .free->(x,NameKind.free)∈scope.names:=λx h=>mem_of_lookup h;have kinv:∀x kk,(X.blk N2 scope cl s3.heap.objs.size s3 H fp).env.scope.names.lookup x=O kk->scope.names.lookup x=O kk∨(scope.names.lookup x=O .free/\kk=.cell):=λx kk h=>GY (env:=X.env) h
 have isfc:∀x,(X.blk N2 scope cl s3.heap.objs.size s3 H fp).env.scope.names.lookup x=O .cell∨(X.blk N2 scope cl s3.heap.objs.size s3 H fp).env.scope.names.lookup x=O .free->scope.names.lookup x=O .free∨scope.names.lookup x=O .cell:=λx h=>by
  rcases h with h|h
  .rcases kinv x _ h with z|z
   .exact .inr z
   .exact .inl z.1
  .rcases kinv x _ h with z|z
   .exact .inl z
   .exact .inl z.1
 have lto   :=λx c e=>let ⟨_,q⟩:=I.cell x c e;q.lt
 have ok:(X.blk N2 scope cl s3.heap.objs.size s3 H fp).Ok:=
  {
   mod:=I.ok.mod
   kind:=hkind
   glob:=I.ok.glob
   blt:=I.ok.blt
   above:=Qo _
   inj:=λx y c a b=>by
    rcases hc.old x c a with q|⟨q,_⟩
    .rcases hc.old y c b with q'|⟨q',_⟩
     .exact I.ok.inj x y c q q'
     .exact absurd (lto x c q) (Nat.lt_asymm q')
    .exact hc.inj x y c a b q
   has:=λx h=>by
    rcases isfc x h with z|z
    .exact let ⟨c,e,_⟩:=hc.fre x z;⟨c,e⟩
    .exact let ⟨c,e,_⟩:=hc.cel x z;⟨c,e⟩
   cab:=λx c h e=>by
    have z:scope.names.lookup x=O .cell:=by have h:(scope.names.lookup x==O .cell)=yM:=h;simpa using h
    obtain⟨c',e',l⟩:=hc.cel x z;have e:cl.lookup x=O c:=e;rw[e]at e';cases e';exact Ue l
   hd:=I.ok.hd
   frames:=I.ok.frames
   stk:=.inl yK
   exf:=λb hb=>⟨let ⟨o,e⟩:=hfo b hb;lt b o e,λx c e=>by
    rcases hc.old x c e with q|⟨q,_⟩
    .exact(hf b hb).2.2.2.2.1 x c q
    .obtain⟨o,e'⟩:=hfo b hb
     exact Ju (Nat.lt_trans (Qg e') q)⟩
   bs:=I.bs
   bsz:=QE I.ok.bsz I.sz
   noex:=λb o e hb=>by
    rcases(hf b hb).2.2.2.1 with z|z
    .exact I.ok.noex b o e z
    .exact absurd (QA (Qg e) (QE I.ok.bsz z)) (Jz _)
   exfs:=λb hb hx=>by
    rcases Qs.mp (I.stkSub b hx)with z|z
    .exact(hf b hb).2.1 z
    .exact(hf b hb).2.2.1 z
   funs:=I.stack
   frf:=I.stkFree}
 refine⟨ok,rfl,I.bare,Un.kept hk,⟨m0,hn,λi x v e1 e2 e3=>?_⟩,λx c e=>?_,I.hok.fresh (Qo _),λx c e=>(hc.old x c e).elim (I.freeC x c) λq=>I.hok.fresh (Ue q.1),λp hp=>?_,I.hok.kept hk,?_⟩
 .have nl:¬_:=λz=>by
   obtain⟨g1,g2⟩:=(hN i x e1).2 z;rw[←I.len]at g1 g2;rw[Qx g1,QC]at e2;split at e2<;>cases e2
  have fr:scope.names.lookup x=O .free:=by
   rcases e3 with z|z
   .rcases kinv x _ z with q|q
    .exact absurd (.inl q) nl
    .cases q.2
   .rcases isfc x z with q|q
    .exact q
    .exact absurd (.inr q) nl
  have eN:=(hN i x e1).1 fr;have hi:i<σ.length:=by rw[I.len];exact(Ql.mp eN).1
  rw[Qu hi]at e2;obtain⟨m,hm,hlk⟩:=I.loc;have hkd:=hfree _ (ofl x fr) yK;obtain⟨u,r,l⟩:=hlk i x v eN e2 (.inr hkd);refine⟨u,r,.inr ⟨?_,?_⟩⟩
  .rcases e3 with z|z|z
   .rcases kinv x _ z with q|q
    .exact absurd (.inl q) nl
    .cases q.2
   .exact .inl z
   .exact .inr z
  .rcases l with l|⟨_,c,ec,z⟩
   .have:X.env.scope.names.lookup x=O .local:=l.1
    rcases hkd with q|q<;>(dsimp only at q;rw[this]at q;cases q)
   .obtain⟨c',ec',this⟩:=hc.fre x fr
    rw[ec]at this;cases this;obtain⟨o,ho,hd⟩:=z;exact⟨c,ec',o,hk c o ho,hd⟩
 .rcases hc.old x c e with q|⟨_,q⟩
  .obtain⟨v,o,ho,hd⟩:=I.cell x c q
   exact⟨v,o,hk c o ho,hd⟩
  .exact⟨_,q⟩
 .obtain⟨e,n,ne,nf,d⟩:=I.pin p hp
  refine⟨hk _ _ e,n,lt _ _ e,λz=>?_,d⟩;rcases Qs.mp (I.stkSub _ z)with q|q
  .exact ne q
  .exact nf q
 .rw[Qj,QB,I.len]
  exact hl.symm
abbrev nox:Uj->Uk->Prop:=λ_ _=>False
def RP(prog:Ul)(w:World)(A:Around)(tg:Up)(ifs:yS)(env:Env)(it:Uj)(code:Code)(W:(Uk->Prop)->Uk->Prop):Prop:=
 ∀(R:Result->Uk->Prop)(I:Nat->Uk->Prop)(n:Nat)(s:Uk),I n s ->
  (∀n s,I n s->Ur (model prog w) A (pyNext it) (λr s₁=>match r with
   |none=>R (.ok .next) s₁
   |some v=>Ur (model prog w) A (letOwnedTupleGo tg it v) (λ_ s₁'=>Ur (model prog w) A (assign tg env v) (λ_ s₂=>
     Ur (model prog w) A (forIn ifs yM λc r=>if r=yM then do let ok ←isTrue c env (eval c env);pure (ForInStep.yield ok)else pure (ForInStep.yield r)) (λok s₃=>
      if ok=yM then W (λs₅=>∃m,m<n/\I m s₅) s₃ else ∃m,m<n/\I m s₃) nox s₂) nox s₁') nox s₁) nox s)->codeAny (model prog w) A code R s
section
variable{prog:Ul}{w:World}{A:Around}{elt tg i:Up}{ifs:yS}{gens:List Comprehension}{scope:Scope}{pos:Pos}{it acc:Uj}{env:Env}{j:Nat}
def vn(hg:gens[j]?=O ⟨tg,i,ifs,0⟩)(hn:gens[j+1]?=yL):RP prog w A tg ifs env it (.compLoop (.ListComp elt gens scope pos) j it acc env)
  (λQ s=>Ur (model prog w) A (eval elt env) (λx s₄=>Ur (model prog w) A (call (.builtin "list.append") [acc,x]) (λ_ s₅=>Q s₅) nox s₄) nox s):=by
 intro R I n s h turn;refine codeAny_loop yK I (λn s hI=>?_) n h;refine wpAny_noted ?_;unfold compTurn;dsimp only;simp only[hg,hn];refine Qb (Jm (Qb (Qy (turn n s hI) (λr s₁ h₁=>?_) λ_ _ h'=>h'.elim)));cases r with
 |none=>exact Qf h₁
 |some v=>
  refine Qb (Qy h₁ (λ_ s₁' h₁'=>?_) λ_ _ h'=>h'.elim);refine Qb (Qy h₁' (λ_ s₂ h₂=>Qb (Qy h₂ (λok s₃ h₃=>?_) λ_ _ h'=>h'.elim)) λ_ _ h'=>h'.elim);cases ok with
  |false=>exact Qf ⟨rfl,h₃⟩
  |true=>exact Qb (Qb (Qy h₃ (λx s₄ h₄=>Qb (Qy h₄ (λ_ s₅ h₅=>Qf (Qf ⟨rfl,h₅⟩)) λ_ _ h'=>h'.elim)) λ_ _ h'=>h'.elim))
def vm  {ifs1:yS}(hg:gens[j]?=O ⟨tg,i,ifs,0⟩)(hn:gens[j+1]?=O ⟨ao,i1,ifs1,0⟩)(hs:∀x,UI i1 env x=pure x):RP prog w A tg ifs env it (.compLoop (.ListComp elt gens scope pos) j it acc env)
  (λQ s=>Ur (model prog w) A (eval i1 env) (λx s₄=>Ur (model prog w) A (pyIter x) (λzK s₅=>codeAny (model prog w) A (.compStart (.ListComp elt gens scope pos) (j+1) zK acc env)
   (λr s₆=>match r with | .ok _=>Q s₆ | .error _=>False) s₅) nox s₄) nox s):=by
 intro R I n s h turn;refine codeAny_loop yK I (λn s hI=>?_) n h;refine wpAny_noted ?_;unfold compTurn;dsimp only;simp only[hg,hn];refine Qb (Jm (Qb (Qy (turn n s hI) (λr s₁ h₁=>?_) λ_ _ h'=>h'.elim)));cases r with
 |none=>exact Qf h₁
 |some v=>
  refine Qb (Qy h₁ (λ_ s₁' h₁'=>?_) λ_ _ h'=>h'.elim);refine Qb (Qy h₁' (λ_ s₂ h₂=>Qb (Qy h₂ (λok s₃ h₃=>?_) λ_ _ h'=>h'.elim)) λ_ _ h'=>h'.elim);cases ok with
  |false=>exact Qf ⟨rfl,h₃⟩
  |true=>
   refine Qb (Qy h₃ (λx s₄ h₄=>Qb (Jm (Qb (wpAny_of_eq (hs x) (Qb (Jl (Qy h₄ (λzK s₅ h₅=>?_) λ_ _ h'=>h'.elim))))))) λ_ _ h'=>h'.elim);refine Qb (wpAny_runOwn (JH h₅ λr s₆ h₆=>?_));cases r with
   |ok f=>exact Qf ⟨rfl,h₆⟩
   |error x=>exact h₆.elim
def yv   (hg:gens[j]?=O ⟨tg,i,ifs,0⟩)
  (h0:codeAny (model prog w) A (.compLoop (.ListComp elt gens scope pos) j it acc env) R s)
  (h:Ur (model prog w) A (pyIter it) (λit' s'=>codeAny (model prog w) A (.compLoop (.ListComp elt gens scope pos) j it' acc env) R s') nox s) :
  codeAny (model prog w) A (.compStart (.ListComp elt gens scope pos) j it acc env) R s:=by
 refine codeAny_of_tree ?_;refine wpAny_notedAt ?_;unfold compStart;have hc:(clausesOf (.ListComp elt gens scope pos))[j]?=O ⟨tg,i,ifs,0⟩:=hg;simp only[hc];refine Qb (wpAny_askSetting (wpAny_ite ?_));split
 .first
   |exact Qb _
   |exact Qf (And.intro rfl h0)
 .first
   |exact Qb _
   |(refine Qb (wpAny_rule ?_);exact Qb (Jm (Qb (Qy h (λit' s' h'=>Qf (And.intro rfl h')) λ_ _ x=>x.elim))))
end
end L2
namespace DL
open PySem PySem.Spec L2
open PyProof.Rows hiding St
noncomputable def ZZ:Option Sl->Option Sl
 |some (.own _)=>yL
 |some (.deep _ _)=>yL
 |x=>x
def Kt(Z:US):US:=Z.map ZZ
def vj  {i:Nat}{d}(h:(Kt Z)[i]?=O (O (.pub d))):Z[i]?=O (O (.pub d)):=by
 unfold Kt at h;rw[Qh]at h;cases e:Z[i]? with
 |none=>simp_all
 |some o=>
  rw[e]at h;cases o with
  |none=>cases h
  |some sl=>cases sl with
   |pub d'=>cases h;rfl
   |own ds=>cases h
   |deep p d'=>cases h
def WZ  {i:Nat}{ds}(h:(Kt Z)[i]?=O (O (.own ds))):False:=by
 unfold Kt at h;rw[Qh]at h;cases e:Z[i]? with
 |none=>simp_all
 |some o=>
  rw[e]at h;cases o with
  |none=>cases h
  |some sl=>cases sl with
   |pub d'=>cases h
   |own ds=>cases h
   |deep p d'=>cases h
def NL  {i:Nat}{p}{d}(h:(Kt Z)[i]?=O (O (.deep p d))):False:=by
 unfold Kt at h;rw[Qh]at h;cases e:Z[i]? with
 |none=>simp_all
 |some o=>
  rw[e]at h;cases o with
  |none=>cases h
  |some sl=>cases sl<;>cases h
def K6(s:D->US->yW)(t:M Bool)(g:M D):yO->US->yO->Option yO
 |[],_,es=>O es
 |d::r,Z,es=>match s d Z with
  |none=>yL
  |some Z1=>match t Z1 with
   |.bad=>yL
   |.ok b Z2=>if b=yM then(match g Z2 with
     |.bad=>yL
     |.ok e Z3=>if es.length<1000000 then K6 s t g r (Kt Z3) (es++[e])else yL)
    else K6 s t g r (Kt Z2) es
def ZG(f:M yO)(k:Nat)(s:D->US->yW)(t:M Bool)(g:M D):M yO:=λZ=>match f Z with
 |.bad=>.bad
 |.ok ds Z1=>match K6 s t g ds (Kt Z1++Uv k yL) []with
  |none=>.bad
  |some es=>.ok es Z1
def Xf(X:Cx)(ifs:yS)(t:TT):Prop:=
 ∀(pins:List (Um×Obj))(s:Uk)(σ:St)(H:Hp)(Q:Bool->Hp->Prop),Inv X pins σ H s->t σ H Q ->
  Ur (model X.prog X.w) X.A (forIn ifs yM λc r=>if r=yM then do let ok ←isTrue c X.env (eval c X.env);pure (ForInStep.yield ok)else pure (ForInStep.yield r)) (TP X pins σ Q) X.xe s
section
variable{X:Cx}{B G0:Hp}
def BM:Xf X [] (tBo X.K B G0 (UM yM)):=λpins s σ H Q I ⟨G,Z,k,a⟩=>wpAny_tests_nil ⟨H,I,a yM G H k (.refl _) yK⟩
def BL   (h:PT X c (tBo X.K B G0 t)):Xf X [c] (tBo X.K B G0 t):=λpins s σ H Q I q=>wpAny_tests_one (h pins s σ H Q I q)
def EOk.rebase{K}{G H}{σ}{Z}(k:EOk K B G0 G H σ Z):EOk K H G G H σ (Kt Z) where
 bh:=.refl _
 gh:=k.gh
 g0:=.refl _
 np:=λ_ _ _ n=>n
 len:=by unfold Kt;rw[Qd];exact k.len
 pub:=λi d q=>k.pub i d (vj q)
 own:=λi ds q=>(WZ q).elim
 sep:=λi j a ds es q=>(WZ q).elim
 dp:=.of (λ_ _ _ q=>NL q) λ_ _ q=>WZ q
def EOk.more{K}{G H:Hp}{σ:St}{Z}(k:EOk K H G G H σ (Kt Z))(n:Nat):EOk K H G G H (σ++Uv n yL) (Kt Z++Uv n yL) where
 bh:=.refl _
 gh:=k.gh
 g0:=.refl _
 np:=λ_ _ _ n=>n
 len:=by rw[Qj,Qj,k.len,QB,QB]
 pub:=λi d q=>by
  by_cases hi:i<(Kt Z).length
  .rw[Qu hi]at q
   rw[Qu (by rw[←k.len];exact hi)];exact k.pub i d q
  .rw[Qx (Jb hi),QC]at q
   split at q<;>cases q
 own:=λi ds q=>by
  by_cases hi:i<(Kt Z).length
  .rw[Qu hi]at q
   exact(WZ q).elim
  .rw[Qx (Jb hi),QC]at q
   split at q<;>cases q
 sep:=λi j a ds es q=>by
  by_cases hi:i<(Kt Z).length
  .rw[Qu hi]at q
   exact(WZ q).elim
  .rw[Qx (Jb hi),QC]at q
   split at q<;>cases q
 dp:=by
  refine .of (λi p d q=>?_) λi ds q=>?_
  .by_cases hi:i<(Kt Z).length
   .rw[Qu hi]at q;exact NL q
   .rw[Qx (Jb hi),QC]at q;split at q<;>cases q
  .by_cases hi:i<(Kt Z).length
   .rw[Qu hi]at q;exact WZ q
   .rw[Qx (Jb hi),QC]at q;split at q<;>cases q
def EOk.beside{K}{G H}{σ}{Z}{a}{o}(k:EOk K B G0 G H σ Z)(hg:G a=yL):EOk K (upd H a o) G G (upd H a o) σ (Kt Z) where
 bh:=.refl _
 gh:=λb u e=>by rw[Km (λz=>by lia)];exact k.gh b u e
 g0:=.refl _
 np:=λ_ _ _ n=>n
 len:=k.rebase.len
 pub:=k.rebase.pub
 own:=λi ds q=>(WZ q).elim
 sep:=λi j a ds es q=>(WZ q).elim
 dp:=.of (λ_ _ _ q=>NL q) λ_ _ q=>WZ q
def lim1:1000000<=Uq:=lim
noncomputable def Eu:Option Sl->Option Sl
 |some (.own ds)=>O (.pub (.list ds))
 |some (.deep _ d)=>O (.pub d)
 |x=>x
def Yr(Z:US):US:=Z.map Eu
def vi  {i:Nat}{d}(h:(Yr Z)[i]?=O (O (.pub d))):Z[i]?=O (O (.pub d))∨(∃ds,d=.list ds/\Z[i]?=O (O (.own ds))) ∨ ∃p,Z[i]?=O (O (.deep p d)):=by
 unfold Yr at h;rw[Qh]at h;cases e:Z[i]? with
 |none=>simp_all
 |some o=>
  rw[e]at h;cases o with
  |none=>cases h
  |some sl=>cases sl with
   |pub d'=>cases h;exact .inl yK
   |own ds=>cases h;exact .inr (.inl ⟨ds,rfl,rfl⟩)
   |deep p d'=>cases h;exact .inr (.inr ⟨p,rfl⟩)
def Nq  {i:Nat}{ds}(h:(Yr Z)[i]?=O (O (.own ds))):False:=by
 unfold Yr at h;rw[Qh]at h;cases e:Z[i]? with
 |none=>simp_all
 |some o=>
  rw[e]at h;cases o with
  |none=>cases h
  |some sl=>cases sl with
   |pub d'=>cases h
   |own ds=>cases h
   |deep p d'=>cases h
def vR  {i:Nat}{p}{d}(h:(Yr Z)[i]?=O (O (.deep p d))):False:=by
 unfold Yr at h;rw[Qh]at h;cases e:Z[i]? with
 |none=>simp_all
 |some o=>
  rw[e]at h;cases o with
  |none=>cases h
  |some sl=>cases sl<;>cases h
noncomputable def flat:D->Bool
 |.none=>yM | .bool _=>yM | .int _=>yM | .str _=>yM|_=>yN
def Rep.flat{K}{G G'}{v}{d}(r:Rep K G v d)(h:DL.flat d=yM):Rep K G' v d:=by
 cases r with
 |non=>exact .non
 |bl b=>exact .bl b
 |int i=>exact .int i
 |str x=>exact .str x
 |lst _ _=>cases h
 |tup _ _=>cases h
 |dic _=>cases h
 |exc _ _ _ _=>cases h
 |dct _ _ _ _ _=>cases h
 |dtt _ _ _ _=>cases h
theorem Reps.flat{K}{G G'}:∀{vs}{ds},Reps K G vs ds->ds.all DL.flat=yM->Reps K G' vs ds
 |_,_,.nil,_=>.nil
 |_,_,.cons r t,h=>by rw[Ji,Qz]at h;exact .cons (r.flat h.1) (Reps.flat t h.2)
def EOk.lend{K}{B G0 G H:Hp}{σ:St}{Z:US}{D:Um}{o:HO}(k:EOk K B G0 G H σ Z)(hD:H D=yL)(n:Nat):EOk K (upd H D o) H H (upd H D o) (σ++Uv n yL) (Yr Z++Uv n yL) where
 bh:=.refl _
 gh:=Zj hD
 g0:=.refl _
 np:=λ_ _ _ n=>n
 len:=by unfold Yr;rw[Qj,Qj,Qd,k.len,QB,QB]
 pub:=λi d q=>by
  have hl:(Yr Z).length=Z.length:=by unfold Yr;rw[Qd]
  by_cases hi:i<(Yr Z).length
  .rw[Qu hi]at q
   rw[Qu (by rw[←k.len,←hl];exact hi)];rcases vi q with e|⟨ds,rfl,e⟩|⟨p,e⟩
   .obtain⟨v,h1,h2⟩:=k.pub i d e
    exact⟨v,h1,h2.mono k.gh⟩
   .obtain⟨a,vs,h1,h2,h3,h4,h5⟩:=k.own i ds e
    exact⟨.ref a,h1,.lst (SqL.of h4) (h5.mono k.gh)⟩
   .obtain⟨ω,k1,k2⟩:=k.dp
    obtain⟨v,fp,s,r,_⟩:=k1 i p d e;exact⟨v,s,r.rep k.gh⟩
  .rw[Qx (Jb hi),QC]at q
   split at q<;>cases q
 own:=λi ds q=>by
  by_cases hi:i<(Yr Z).length
  .rw[Qu hi]at q
   exact(Nq q).elim
  .rw[Qx (Jb hi),QC]at q
   split at q<;>cases q
 sep:=λi j a ds es q=>by
  by_cases hi:i<(Yr Z).length
  .rw[Qu hi]at q
   exact(Nq q).elim
  .rw[Qx (Jb hi),QC]at q
   split at q<;>cases q
 dp:=by
  refine .of (λi p d q=>?_) λi ds q=>?_
  .by_cases hi:i<(Yr Z).length
   .rw[Qu hi]at q;exact vR q
   .rw[Qx (Jb hi),QC]at q;split at q<;>cases q
  .by_cases hi:i<(Yr Z).length
   .rw[Qu hi]at q;exact Nq q
   .rw[Qx (Jb hi),QC]at q;split at q<;>cases q
def RC(f:M yO)(k:Nat)(s:D->US->yW)(t:M Bool)(g:M D):M yO:=λZ=>match f Z with
 |.bad=>.bad
 |.ok ds Z1=>match K6 s t g ds (Yr Z1++Uv k yL) []with
  |none=>.bad
  |some es=>if es.all flat=yM then .ok es Z1 else .bad
end
def YL(s:D->US->yW)(t:M Bool)(g:M D):yO->US->yO->Option (yO×US)
 |[],Z,es=>O (es,Z)
 |d::r,Z,es=>match s d Z with
  |none=>yL
  |some Z1=>match t Z1 with
   |.bad=>yL
   |.ok b Z2=>if b=yM then(match g Z2 with
     |.bad=>yL
     |.ok e Z3=>if es.length<1000000 then YL s t g r (Kt Z3) (es++[e])else yL)
    else YL s t g r (Kt Z2) es
def X2(s0:D->US->yW)(t0:M Bool)(f1:M yO)(s1:D->US->yW)(t1:M Bool)(g:M D):yO->US->yO->Option yO
 |[],_,es=>O es
 |d::r,Z,es=>match s0 d Z with
  |none=>yL
  |some Z1=>match t0 Z1 with
   |.bad=>yL
   |.ok b Z2=>if b=yM then(match f1 Z2 with
     |.bad=>yL
     |.ok ds Z3=>match YL s1 t1 g ds (Kt Z3) es with
      |none=>yL
      |some (es',Z4)=>X2 s0 t0 f1 s1 t1 g r Z4 es')
    else X2 s0 t0 f1 s1 t1 g r (Kt Z2) es
def V7(f:M yO)(k:Nat)(s:D->US->yW)(t:M Bool)(f1:M yO)(ak:D->US->yW)(t1':M Bool)(g:M D):M yO:=λZ=>match f Z with
 |.bad=>.bad
 |.ok ds Z1=>match X2 s t f1 ak t1' g ds (Kt Z1++Uv k yL) []with
  |none=>.bad
  |some es=>.ok es Z1
def Xn(s0:D->US->yW)(t0:M Bool)(f1:M yO)(Rd:yO->US->yO->Option (yO×US)):yO->US->yO->Option (yO×US)
 |[],Z,es=>O (es,Z)
 |d::r,Z,es=>match s0 d Z with
  |none=>yL
  |some Z1=>match t0 Z1 with
   |.bad=>yL
   |.ok b Z2=>if b=yM then(match f1 Z2 with
     |.bad=>yL
     |.ok ds Z3=>match Rd ds (Kt Z3) es with
      |none=>yL
      |some (es',Z4)=>Xn s0 t0 f1 Rd r Z4 es')
    else Xn s0 t0 f1 Rd r (Kt Z2) es
noncomputable def Tw(Rd:yO->US->yO->Option (yO×US))(ds:yO)(Z:US)(es:yO):Option yO:=(Rd ds Z es).map (·.1)
def RB(f:M yO)(k:Nat)(s:D->US->yW)(t:M Bool)(f1:M yO)(ak:D->US->yW)(t1':M Bool)(fx2:M yO)(s2':D->US->yW)(t2':M Bool)(g:M D):M yO:=λZ=>match f Z with
 |.bad=>.bad
 |.ok ds Z1=>match Tw (Xn s t f1 (Xn ak t1' fx2 (YL s2' t2' g))) ds (Kt Z1++Uv k yL) []with
  |none=>.bad
  |some es=>.ok es Z1
abbrev RdB:=US->yO->Option (yO×US)
def rL(g:M D):RdB:=λZ es=>match g Z with
 |.bad=>yL
 |.ok e Z3=>if es.length<1000000 then O (es++[e],Kt Z3)else yL
def cT(s:D->US->yW)(t:M Bool)(rd:RdB):yO->US->yO->Option (yO×US)
 |[],Z,es=>O (es,Z)
 |d::r,Z,es=>match s d Z with
  |none=>yL
  |some Z1=>match t Z1 with
   |.bad=>yL
   |.ok b Z2=>if b=yM then(match rd Z2 es with
     |none=>yL
     |some (es',Z')=>cT s t rd r Z' es')
    else cT s t rd r (Kt Z2) es
def rN(f:M yO)(s:D->US->yW)(t:M Bool)(rd:RdB):RdB:=λZ es=>match f Z with
 |.bad=>yL
 |.ok ds Z3=>cT s t rd ds (Kt Z3) es
structure Left(Y:Cx)(D':Um)(pins:List (Um×Obj))(H G:Hp)(es':yO)(Z':US)(σ':St)(H' G':Hp)(vs':List V)(s':Uk):Prop where
 inv:Inv Y pins σ' H' s'
 eok:EOk Y.K H' G' G' H' σ' Z'
 hh:∀a o,a≠D'->H a=O o->H' a=O o
 gg:Same G G'
 np:∀a(u:MO),a≠D'->H a=O u.ho->G a=yL->G' a=yL
 hd:H' D'=O (.lst vs')
 gd:G' D'=yL
 rp:Reps Y.K G' vs' es'
def Rr(Y:Cx)(D':Um)(W:(Uk->Prop)->Uk->Prop)(rd:RdB):Prop:=
 ∀(pins:List (Um×Obj))(sh:Uk)(σ:St)(B1 G1 H G:Hp)(Z Z':US)(vs:List V)(es es':yO)(Q:Uk->Prop),
  Inv Y pins σ H sh->EOk Y.K B1 G1 G H σ Z->B1 D'=O (.lst vs)->G1 D'=yL->Reps Y.K G1 vs es->rd Z es=O (es',Z') ->
  (∀σ' H' G' vs' s',Left Y D' pins B1 G1 es' Z' σ' H' G' vs' s'->Q s')->W Q sh
section
variable{Y:Cx}{D':Um}
def vH   (hx:Y.xe=nox)(he:∀B1 G1,PE Y elt (tD Y.K B1 G1 g)) :
  Rr Y D' (λQ s=>Ur (model Y.prog Y.w) Y.A (eval elt Y.env) (λx s₄=>Ur (model Y.prog Y.w) Y.A (call (.builtin "list.append") [.ref D',x]) (λ_ s₅=>Q s₅) nox s₄) nox s) (rL g):=by
 intro pins sh σ B1 G1 H G Z Z' vs es es' Q I k hD gD r z fin;unfold rL at z;cases zg:g Z with
 |bad=>simp_all
 |ok e Z4=>
 rw[zg]at z;dsimp only at z;split at z
 .cases z
  have h:=he B1 G1 pins sh σ H (λv H8=>∃G8,EOk Y.K B1 G1 G8 H8 σ Z4/\Rep Y.K G8 v e) I ⟨G,Z,k,by rw[zg];exact λv G8 H8 k8 _ q=>⟨G8,k8,q⟩⟩;rw[hx]at h;refine thn h λev s8 ⟨v,H8,I8,rv,G8,k8,r8⟩=>?_;have h2:=Nu pins s8 σ H8 (.ref D') [v] _ [ev] (λ_ H9=>H9=upd H8 D' _) I8 yK (.cons rv .nil) ⟨D',vs,v,rfl,rfl,k8.bh _ _ hD,by have:=lim1;rw[r.length];lia,rfl⟩
  rw[hx]at h2;refine thn h2 λ_ s9 ⟨_,H9,I9,_,e9⟩=>?_;subst e9;have g8:=k8.np _ (.l _) hD gD;exact fin σ _ G8 _ s9 ⟨I9,k8.beside g8,λa o z q=>by rw[Km z];exact k8.bh a o q,k8.g0,λa o _ q w=>k8.np a o q w,Kz,g8,(r.mono k8.g0).append (.cons r8 .nil)⟩
 simp_all
def Ht{tg:Up}{ifs:yS}{code:Code}{W:(Uk->Prop)->Uk->Prop}{s:D->US->yW}{t:M Bool}{rd:RdB}{it:Um}(hx:Y.xe=nox)(hc:Y.calm=yM)(rule:RP Y.prog Y.w Y.A tg ifs Y.env (.ref it) code W)
  (hg:∀B1 G1,PG Y tg (tG Y.K B1 G1 s)) (ht:∀B1 G1,Xf Y ifs (tBo Y.K B1 G1 t)) (hb:Rr Y D' W rd)
  {pins:List (Um×Obj)} {sh:Uk} {σ:St} {H G:Hp} {Z ZF:US} {fp:yU} {tn:Nat->Heap->Prop} {J:It} {ds es esF:yO} {vs:List V} {R:Result->Uk->Prop}
  (I:Inv Y pins σ H sh) (T:Turn Y.prog Y.w Y.K tg J fp it tn) (st:tn 0 sh.heap) (hf:∀b∈fp,ZC Y pins H b)
  (k:EOk Y.K H G G H σ Z) (its:Xq Y.K J ds G) (hD:H D'=O (.lst vs)) (gD:G D'=yL) (r:Reps Y.K G vs es) (zl:cT s t rd ds Z es=O (esF,ZF))
  (af:∀σ' H' G' vs' s',Left Y D' pins H G esF ZF σ' H' G' vs' s'->R (.ok .next) s'):codeAny (model Y.prog Y.w) Y.A code R sh:=by
 have stat:∀{H':Hp},(∀b∈fp,H' b=yL)->∀b∈fp,ZC Y pins H' b:=λhn b hb=>⟨hn b hb,(hf b hb).2⟩
 refine rule R (λn s'=>∃i σ' H' G' Z' vs' es',n=ds.length-i/\tn i s'.heap/\(∀b∈fp,H' b=yL)/\Left Y D' pins H G es' Z' σ' H' G' vs' s'/\cT s t rd (ds.drop i) Z' es'=O (esF,ZF)) ds.length sh
  ⟨0,σ,H,G,Z,vs,es,rfl,st,λb hb=>(hf b hb).1,⟨I,k,λ_ _ _ q=>q,.refl _,λ_ _ _ _ n=>n,hD,gD,r⟩,by rw[List.drop_zero];exact zl⟩ ?_
 rintro n s' ⟨i,σ',H',G',Z',vs',es',rfl,tn',fr',⟨I',k',aZ,aO,np',zI,gD',r'⟩,zc⟩;by_cases hlt:i<ds.length
 .rw[JV hlt,cT]at zc
  cases zs:s ds[i] Z' with
  |none=>rw[zs]at zc;cases zc
  |some Z2=>
  rw[zs]at zc;dsimp only at zc;cases zt:t Z2 with
  |bad=>rw[zt]at zc;cases zc
  |ok b Z3=>
  rw[zt]at zc;dsimp only at zc;refine thn (T.item Y yK yK yK hc i pins s' σ' H' nox I' (stat fr') tn' (its.go i G' H' aO k'.gh hlt)) λrr s4 ⟨u,hr,h4⟩=>?_;subst hr;refine thn h4 λ_ s5 ⟨x,H5,I5,r5,y5,zZ,fr5⟩=>?_
  obtain⟨G5,e5,rx⟩:=its.yld i G' H' x H5 ds[i] aO k'.gh (Qi hlt) y5;have h6:=hg H' G' _ s5 σ' H5 x u (λσ6 H6=>∃G6,EOk Y.K H' G' G6 H6 σ6 Z2) (I5.pinned (stat fr5) (T.obj _ _ zZ)) r5 ⟨G5,Z',ds[i],Z2,k'.ext e5,rx,zs,λσ6 G6 H6 k6 _=>⟨G6,k6⟩⟩;rw[hx]at h6;refine thn h6 λ_ s6 ⟨σ6,H6,I6,G6,k6⟩=>?_;have h7:=ht H' G' _ s6 σ6 H6 (λc H7=>c=b/\∃G7,EOk Y.K H' G' G7 H7 σ6 Z3) I6 ⟨G6,Z2,k6,by unfold aft;rw[zt];exact λc G7 H7 k7 _ q=>⟨q,G7,k7⟩⟩
  rw[hx]at h7;refine thn h7 λok s7 ⟨H7,I7,hb7,G7,k7⟩=>?_;subst hb7
  have again:∀{H9:Hp}{σ9:St}{s9:Uk},Inv Y (pins++Pc fp s5.heap) σ9 H9 s9->Inv Y pins σ9 H9 s9/\tn (i+1) s9.heap/\∀b∈fp,H9 b=yL:=λ{H9 σ9 s9} I9=>by refine⟨I9.unpinned,T.keep _ _ _ zZ λb hb o e=>(I9.pin (b,o) (QX _ (QX _ (P8 hb e)))).1,λb hb=>?_⟩;obtain⟨o,e,d⟩:=T.obj _ _ zZ b hb;exact(I9.pin (b,o) (QX _ (QX _ (P8 hb e)))).2.1
  have lt:ds.length-(i+1)<ds.length-i:=Nat.sub_lt_sub_left hlt (Nat.lt_succ_self i);cases ok with
  |false=>obtain⟨J1,J2,J3⟩:=again I7;exact⟨_,lt,i+1,σ6,H7,G7,Kt Z3,vs',es',rfl,J2,J3,⟨J1,k7.rebase,λa o z q=>k7.bh a o (aZ a o z q),aO.trans k7.g0,λa o z q w=>k7.np a o (aZ a _ z q) (np' a o z q w),k7.bh _ _ zI,k7.np _ (.l _) zI gD',r'.mono k7.g0⟩,zc⟩
  |true=>
   rw[Qp yK]at zc⊢;cases ze:rd Z3 es' with
   |none=>rw[ze]at zc;cases zc
   |some pr=>
   obtain⟨es1,Z5⟩:=pr;rw[ze]at zc;refine hb _ s7 σ6 H' G' H7 G7 Z3 Z5 vs' es' es1 _ I7 k7 zI gD' r' ze λσ9 H9 G9 vs9 s9 L=>?_
   obtain⟨J1,J2,J3⟩:=again L.inv;exact⟨_,lt,i+1,σ9,H9,G9,Z5,vs9,es1,rfl,J2,J3,⟨J1,L.eok,λa o z q=>L.hh a o z (aZ a o z q),aO.trans L.gg,λa o z q w=>L.np a o z (aZ a _ z q) (np' a o z q w),L.hd,L.gd,L.rp⟩,zc⟩
 .rw[List.drop_eq_nil_of_le (Jb hlt),cT]at zc
  cases zc;refine thn (T.done Y yK yK yK hc i pins s' σ' H' nox I' (stat fr') tn' (its.stop i G' H' aO k'.gh (Jb hlt))) λrr s4 ⟨hr,I6⟩=>?_
  subst hr;exact af σ' H' G' vs' s4 ⟨I6,k',aZ,aO,np',zI,gD',r'⟩
def vG{elt ao i1:Up}{ifs1}{gens}{scope:Scope}{pos:Pos}{j:Nat}{W:Uj->(Uk->Prop)->Uk->Prop}{f}{s}{t}{rd:RdB}(hx:Y.xe=nox)(hc:Y.calm=yM)
  (hn:gens[j+1]?=O ⟨ao,i1,ifs1,0⟩) (rule:∀zK,RP Y.prog Y.w Y.A ao ifs1 Y.env zK (.compLoop (.ListComp elt gens scope pos) (j+1) zK (.ref D') Y.env) (W zK))
  (hi:∀B1 G1,PI Y ao i1 (iD Y.K B1 G1 f)) (hg:∀B1 G1,PG Y ao (tG Y.K B1 G1 s)) (ht:∀B1 G1,Xf Y ifs1 (tBo Y.K B1 G1 t)) (hb:∀zK,Rr Y D' (W zK) rd) :
  Rr Y D' (λQ s=>Ur (model Y.prog Y.w) Y.A (eval i1 Y.env) (λx s₄=>Ur (model Y.prog Y.w) Y.A (pyIter x) (λzK s₅=>codeAny (model Y.prog Y.w) Y.A (.compStart (.ListComp elt gens scope pos) (j+1) zK (.ref D') Y.env)
   (λr s₆=>match r with | .ok _=>Q s₆ | .error _=>False) s₅) nox s₄) nox s) (rN f s t rd):=by
 intro pins sh σ B1 G1 H G Z Z' vs es es' Q I k hD gD r z fin;unfold rN at z;cases zf:f Z with
 |bad=>rw[zf]at z;cases z
 |ok ds Z3=>
 rw[zf]at z;have h:=hi B1 G1 pins sh σ H (λJ1 H8=>∃G8,EOk Y.K B1 G1 G8 H8 σ Z3/\Xq Y.K J1 ds G8) I ⟨G,Z,k,by rw[zf];exact λJ1 G8 H8 k8 _ q=>⟨G8,k8,q⟩⟩;rw[hx]at h;refine thn h λxv s8 h8=>thn h8 λitv s9 h9=>?_
 obtain⟨zK,fp1,tn1,J1,H9,rfl,I9,T1,st9,f9,G9,k9,its9⟩:=h9
 have loop:codeAny _ Y.A _ (λr s₆=>match r with | .ok _=>Q s₆ | .error _=>False) s9:=
  Ht hx hc (rule _) hg ht (hb _) I9 T1 st9 f9 k9.rebase its9 (k9.bh _ _ hD) (k9.np _ (.l _) hD gD) (r.mono k9.g0) z λσ' H' G' vs' s' L=>
   fin σ' H' G' vs' s' ⟨L.inv,L.eok,λa o z q=>L.hh a o z (k9.bh a o q),k9.g0.trans L.gg,λa o z q w=>L.np a o z (k9.bh a _ q) (k9.np a o q w),L.hd,L.gd,L.rp⟩
 exact yv hn loop (T1.self Y.A 0 _ _ _ st9 loop)
end
def Rq(Y:Cx)(e:Up)(j:Nat)(tg:Up)(ifs:yS)(rd:RdB):Prop:=
 ∀(D':Um)(it:Uj),∃W,RP Y.prog Y.w Y.A tg ifs Y.env it (.compLoop e j it (.ref D') Y.env) W/\Rr Y D' W rd
section
variable{Y:Cx}{elt tg i:Up}{ifs:yS}{gens:List Comprehension}{scope:Scope}{pos:Pos}{j:Nat}
def vF  (hx:Y.xe=nox)(hg:gens[j]?=O ⟨tg,i,ifs,0⟩)(hn:gens[j+1]?=yL)(he:∀B1 G1,PE Y elt (tD Y.K B1 G1 g)):Rq Y (.ListComp elt gens scope pos) j tg ifs (rL g):=
 λ_ _=>⟨_,vn hg hn,vH hx he⟩
def vE       (hx:Y.xe=nox)(hc:Y.calm=yM)(hg:gens[j]?=O ⟨tg,i,ifs,0⟩)(hn:gens[j+1]?=O ⟨ao,i1,ifs1,0⟩)(hs:∀x,UI i1 Y.env x=pure x)
  (hi:∀B1 G1,PI Y ao i1 (iD Y.K B1 G1 f)) (hgt:∀B1 G1,PG Y ao (tG Y.K B1 G1 s)) (ht:∀B1 G1,Xf Y ifs1 (tBo Y.K B1 G1 t)) (hb:Rq Y (.ListComp elt gens scope pos) (j+1) ao ifs1 rd):Rq Y (.ListComp elt gens scope pos) j tg ifs (rN f s t rd):=
 λD' _=>⟨_,vm hg hn hs,vG hx hc hn (λzK=>(Classical.choose_spec (hb D' zK)).1) hi hgt ht (λzK=>(Classical.choose_spec (hb D' zK)).2)⟩
end
def YT(l:Bool)(Z:US):US:=match l with|true=>Yr Z|false=>Kt Z
def entry{K}{B G0 G1 H2}{σ}{Z1}{D}(l)(k1:EOk K B G0 G1 H2 σ Z1)(hfr:H2 D=yL)(n) :
  ∃Gb,EOk K (upd H2 D (.lst [])) Gb Gb (upd H2 D (.lst [])) (σ++Uv n yL) (YT l Z1++Uv n yL)/\Same G1 Gb/\Gb D=yL /\
   ∀(G' H') vs es,(l=yM->es.all flat=yM)->Same Gb G'->Same H2 H'->Same G' H'->(∀a(u:MO),H2 a=O u.ho->Gb a=yL->G' a=yL)->G' D=yL->Reps K G' vs es->∃Gf,Ext G1 H2 Gf H'/\Gf D=yL/\Reps K Gf vs es:=by
 have gD   :=k1.gh.free hfr;cases l with
 |false=>exact⟨G1,(k1.beside gD).more n,.refl _,gD,λG' H' vs es _ g h gh np d r=>⟨G',⟨h,g,gh,np⟩,d,r⟩⟩
 |true=>exact⟨H2,k1.lend hfr n,k1.gh,hfr,λG' H' vs es fl _ h _ _ _ r=>⟨G1,⟨h,.refl _,k1.gh.trans h,λ_ _ _ n=>n⟩,gD,r.flat (fl yK)⟩⟩
def dCG(l:Bool)(f:M yO)(k:Nat)(s:D->US->yW)(t:M Bool)(rd:RdB):M yO:=λZ=>match f Z with
 |.bad=>.bad
 |.ok ds Z1=>match cT s t rd ds (YT l Z1++Uv k yL) []with
  |none=>.bad
  |some (es,_)=>if l=yM->es.all flat=yM then .ok es Z1 else .bad
def L5       {Z Z'}{es}(h:dCG l f k s t rd Z=.ok es Z'):∃ds ZF,f Z=.ok ds Z'/\cT s t rd ds (YT l Z'++Uv k yL) []=O (es,ZF)/\(l=yM->es.all flat=yM):=by
 unfold dCG at h;cases zf:f Z with
 |bad=>rw[zf]at h;cases h
 |ok ds Z1=>
 rw[zf]at h;dsimp only at h;cases zl:cT s t rd ds _ []with
 |none=>rw[zl]at h;cases h
 |some pr=>
 obtain⟨esF,ZF⟩:=pr;rw[zl]at h;dsimp only at h;split at h
 .rename_i hf
  cases h;exact⟨ds,ZF,rfl,zl,hf⟩
 .cases h
section
variable{X:Cx}{B G0:Hp}{KX:XW}
def YU(X:Cx)(N2:List Str)(scope:Scope)(e tg:Up)(ifs:yS)(s:D->US->yW)(t:M Bool)(rd:RdB):Prop:=
 ∀(cl:List (Str×Um))(C:Um)(s₀:Uk)(H₀:Hp)(ex:yU),(∀B' G',PG (X.blk N2 scope cl C s₀ H₀ ex) tg (tG X.K B' G' s))/\(∀B' G',Xf (X.blk N2 scope cl C s₀ H₀ ex) ifs (tBo X.K B' G' t))/\Rq (X.blk N2 scope cl C s₀ H₀ ex) e 0 tg ifs rd
structure Rp(SC scope:Scope)(N1 N2:List Str)(k:Nat):Prop where
 b:RQ scope.names N1 N2 k=yM
 kind:scope.kind=.function
 names:∀y∈scope.names,scope.names.lookup y.1=O y.2
 free:∀y∈scope.names,y.2=.free->SC.names.lookup y.1=O .cell∨SC.names.lookup y.1=O .free
def Hs{l:Bool}{tg elt iter:Up}{ifs:yS}{gs:List Comprehension}{scope:Scope}{pos pos':Pos}{N2:List Str}{k:Nat}{f:M yO}{s:D->US->yW}{t:M Bool}{rd:RdB}{use:Option (Uj->Sem Unit)}{Qc:Uj->Uk->Prop}(hc:X.calm=yM)
  (hi:PI X tg iter (iD X.K B G0 f)) (zd:YU X N2 scope (.ListComp elt (⟨tg,iter,ifs,0⟩::gs) scope pos) tg ifs s t rd) (hb:Rp X.env.scope scope X.N N2 k) (hs:∀x,UI iter X.env x=pure x)
  {pins:List (Um×Obj)} {s0:Uk} {σ:St} {G H:Hp} {Z Z1 ZF:US} {ds esF:yO} (I:Inv X pins σ H s0) (k0:EOk X.K B G0 G H σ Z) (zf:f Z=.ok ds Z1) (zl:cT s t rd ds (YT l Z1++Uv k yL) []=O (esF,ZF)) (hfl:l=yM->esF.all flat=yM)
  (af:∀(C D:Um)(vs:List V)(G' H':Hp)(s4:Uk)(m:Str->yT),Inv X pins σ H' s4->s4.heap.Ns C m->H' C=yL->C≠X.env.locals->X.s₀.heap.objs.size<=C->(∀x c,X.env.cells.lookup x=O c->c≠C)->(∀p∈X.pn++pins,p.1≠C) ->
   EOk X.K B G0 G' H' σ Z1->Same G G'->NewL X.K B G' H' σ Z1 D vs esF->compPost (model X.prog X.w) X.A X.xe use Qc (.ref D) C (.ok .next) s4) :
  Ur (model X.prog X.w) X.A (comprehension (.ListComp elt (⟨tg,iter,ifs,0⟩::gs) scope pos) scope X.env pos' (newList []) yN (eval iter X.env) use) Qc X.xe s0:=by
 obtain⟨aV,hcl,aU,cl2⟩:=vS (scope:=scope) (env:=X.env) λy hy hf=>I.ok.has y.1 (hb.free y hy hf)
 refine wpAny_comprehension_free (use:=use) yK hs hcl hb.kind (λy hy hl=>(hb.names y hy).trans (by rw[hl])) (thn (hi pins s0 σ H (λJ H1=>∃G1,EOk X.K B G0 G1 H1 σ Z1/\Same G G1/\Xq X.K J ds G1) I ⟨G,Z,k0,by rw[zf];exact λJ G1 H1 k1 s1 it=>⟨G1,k1,s1,it⟩⟩) λv s1 h1=>thn h1 λitv s2 h2=>?_);obtain⟨it,fp,tn,J,H2,rfl,I2,T,st2,f2,G1,k1,sg1,its⟩:=h2;refine JN (Cs aU cl2 hb.names (λx c e=>let ⟨_,q⟩:=I2.cell x c e;QA q.lt (by first|exact Qo _|(rw[Jx];exact JM _))) λh₁ cl hns₁ kept hco=>?_);dsimp only at hns₁ kept hco⊢;have hfr:H2 s2.heap.objs.size=yL:=I2.hok.fresh (Qo _)
 have I3:Inv X pins σ (upd H2 s2.heap.objs.size (.lst [])) {s2 with heap:=s2.heap.push {cls:=.type "list", dict:=yL,data:=.seq ([]:yR).toArray}}:=
  I2.laid (t':=s2.toks) (λb u e=>Qe _ e) (Qo _) ⟨J4 _,[],0,.nil,Qt _ yK⟩
 generalize hP:s2.heap.push {cls:=.type "list", dict:=yL,data:=.seq ([]:yR).toArray}=P at I3 hns₁ kept hco⊢;have old:∀b o,s2.heap.get? b=O o->P.get? b=O o:=λb o e=>hP ▸ Qe _ e;have fpo:∀b∈fp,∃o,s2.heap.get? b=O o:=λb hb=>let ⟨o,e,_⟩:=T.obj _ _ st2 b hb;⟨o,e⟩
 have fpD:∀b∈fp,b≠s2.heap.objs.size:=λb hb=>let ⟨o,e⟩:=fpo b hb;QJ (Qg e)
 have f3:∀b∈fp,ZC X pins (upd H2 s2.heap.objs.size (.lst [])) b:=λb hb=>⟨by rw[Km (fpD b hb)];exact(f2 b hb).1,(f2 b hb).2⟩
 have I4:=I3.enter (scope:=scope) (cl:=cl) (N2:=N2) (k:=k) (fp:=fp) (t':=s2.toks) hb.b hb.kind hb.free hco hns₁ kept f3 (λb hb=>let ⟨o,e⟩:=fpo b hb;⟨o,old b o e⟩);dsimp only at I4;obtain⟨Gb,kb,sgb,gbD,ex⟩:=entry l k1 hfr k;have sH:Same H2 (upd H2 s2.heap.objs.size (.lst [])):=Zj hfr;have hD3:upd H2 s2.heap.objs.size (.lst []) s2.heap.objs.size=O (.lst []):=Kz;generalize upd H2 s2.heap.objs.size (.lst [])=H3 at I3 I4 f3 kb sH hD3;generalize s2.heap.objs.size=D at *;have tn0:tn 0 h₁:=T.keep 0 _ _ st2 λb hb o e=>kept b o (old b o e)
 have stat:∀b∈fp,ZC (X.blk N2 scope cl P.objs.size {s2 with heap:=P} H3 fp) pins H3 b:=λb hb=>by
  obtain⟨z0,z1,z2,z3,z4,z5⟩:=f3 b hb;obtain⟨o,e⟩:=fpo b hb;refine⟨z0,QJ (Qg (old b o e)),λz=>?_,.inl hb,λx c q=>(hco.old x c q).elim (z4 x c) λw=>Ju (Nat.lt_trans (Qg (old b o e)) w.1),z5⟩;rcases Qs.mp (I3.stkSub b z)with q|q
  .exact z1 q
  .exact z2 q
 have neD:∀a o,H2 a=O o->a≠D:=λa o q z=>by subst z;rw[hfr]at q;cases q
 obtain⟨hg,ht,hcl'⟩:=zd cl P.objs.size {s2 with heap:=P} H3 fp;obtain⟨W,rule,body⟩:=hcl' D (.ref it)
 have loop:=Ht (Y:=X.blk N2 scope cl P.objs.size {s2 with heap:=P} H3 fp) (D':=D)  rfl hc rule hg ht body I4 T tn0 stat kb
  ⟨λi G H s1 s2 hi=>its.go i G H (sgb.trans s1) s2 hi,λi G H s1 s2 hi=>its.stop i G H (sgb.trans s1) s2 hi,λi G H x H' d s1 s2 e y=>its.yld i G H x H' d (sgb.trans s1) s2 e y⟩ hD3 gbD .nil zl λσ' H' G' vs' s4 L=>by
   obtain⟨m,hm,_⟩:=id L.inv.loc;have I7:Inv X pins σ H' s4:=I3.call' (ch:=fp) L.inv.os L.inv.base L.inv.hok L.inv.bare λb hb=>⟨(f3 b hb).2.2.2.1,(f3 b hb).2.1,(f3 b hb).2.2.2.2.1,(f3 b hb).2.2.2.2.2⟩
   obtain⟨Gf,eF,dF,rF⟩:=ex G' H' vs' esF hfl L.gg (λa o q=>L.hh a o (neD a o q) (sH a o q)) L.eok.gh (λa o q z=>L.np a o (neD a _ q) (sH a _ q) z) L.gd L.rp
   refine af P.objs.size D vs' Gf H' s4 m I7 hm L.inv.free (Ju I3.lt) I3.sz (λx c e z=>by obtain⟨_,q⟩:=I3.cell x c e;exact absurd q.lt (by rw[z];exact Jz _)) (λp hp z=>by have:=Qg (I3.pin p hp).1;exact absurd this (by rw[z];exact Jz _))
    (k1.ext eF) (sg1.trans eF.g) ⟨k1.bh.free hfr,dF,L.hd,rF,λj es' q z=>?_,λj pt d v fp q s r=>k1.freshD eF.h hfr q s r⟩
   obtain⟨a',ws,h1',h2',h3',h4',h5'⟩:=k1.own j es' q;rw[z]at h1';cases h1';rw[hfr]at h4';cases h4'
 exact codeAny_compStart_list loop (T.self X.A 0 _ _ _ tn0 loop)
def Et  {tg elt iter}{ifs}{gs}{scope}{pos}{N2}{k:Nat}{f}{s}{t}{rd:RdB}(hc:X.calm=yM)
  (hi:PI X tg iter (iD X.K B G0 f)) (zd:YU X N2 scope (.ListComp elt (⟨tg,iter,ifs,0⟩::gs) scope pos) tg ifs s t rd) (hb:Rp X.env.scope scope X.N N2 k) (hs:∀x,UI iter X.env x=pure x:=by intro _;rfl) :
  PE X (.ListComp elt (⟨tg,iter,ifs,0⟩::gs) scope pos) (tL X.K B G0 (dCG l f k s t rd)):=by
 intro pins s0 σ H Q I ⟨G,Z,k0,a⟩;cases z:dCG l f k s t rd Z with
 |bad=>rw[z]at a;exact a.elim
 |ok es Z1=>
 rw[z]at a;obtain⟨ds,ZF,zf,zl,hfl⟩:=L5 z;refine Hs hc hi zd hb hs I k0 zf zl hfl λC D vs G' H' s4 m I7 hm hC hL hz hcl hp k' s' n=>?_
 exact⟨m,hm,λh' sb=>⟨.ref D,H',I7.turned   (λb o hb e=>(sb.2 b hb).trans e) hC hL (.inr hz) hcl hp,rfl,a D vs G' H' k' s' n⟩⟩
def sD_g{l:Bool}{y:Str}{j:Nat}{py:Pos}{spos:Pos}{tg elt iter:Up}{ifs:yS}{gs}{scope:Scope}{pos:Pos}{N2:List Str}{k:Nat}{f:M yO}{s}{t:M Bool}{rd:RdB}(hN:X.N.Nodup)(hj:X.N[j]?=O y)(hy:X.env.scope.names.lookup y=O .local)(hc:X.calm=yM)
  (hi:PI X tg iter (iD X.K B G0 f)) (zd:YU X N2 scope (.ListComp elt (⟨tg,iter,ifs,0⟩::gs) scope pos) tg ifs s t rd) (hb:Rp X.env.scope scope X.N N2 k) (hs:∀x,UI iter X.env x=pure x:=by intro _;rfl)
  (hsw:swapsWith (.ListComp elt (⟨tg,iter,ifs,0⟩::gs) scope pos) (O (.Name y py)) spos.line X.env=pure yM:=by rfl) :
  PS X (.Assign [.Name y py] (.ListComp elt (⟨tg,iter,ifs,0⟩::gs) scope pos) spos) (tS X.K B G0 KX (K1 j (dCG l f k s t rd))):=by
 intro pins s0 σ H Dn I ⟨G,Z,k0,a⟩;unfold K1 sB at a;cases z:dCG l f k s t rd Z with
 |bad=>rw[z]at a;exact a.elim
 |ok es Z1=>
 rw[z]at a;dsimp only at a;by_cases hl:j<Z1.length
 .rw[Qp hl]at a
  obtain⟨ds,ZF,zf,zl,hfl⟩:=L5 z;rw[exec_Assign_Name_used _ _ _ _ hsw];refine Qb (Jm (Qb ?_));refine Qb (Qy (Hs   hc hi zd hb hs I k0 zf zl hfl λC D vs G' H' s4 m I7 hm hC hL hz hcl hp k' s' n=>?_) (λ_ s' hq=>Qf (Qf hq)) λ_ _ e=>e);refine wpAny_assign_Name (HX I7 hN hj (.inl hy) (v:=.ref D) yK (λs5 I8 ⟨ad,sb,hx⟩=>?_) (.inr hy))
  have hCa:C≠ad:=by
   rcases hx with e|e
   .rw[e];exact hL
   .exact Ne.symm (hcl y ad e)
  refine⟨m,hm.sameBut sb hCa,λh' av=>⟨_,H',I8.turned (t':=s5.toks) (it:=C) (λb o hb e=>(av.2 b hb).trans e) hC hL (.inr hz) hcl hp,?_⟩⟩;exact a _ G' H' (k'.setOwn n hl) s'
 .rw[QH hl]at a;exact a.elim
def Es{K}{f f'}(h:∀Z es Z',f Z=.ok es Z'->f' Z=.ok es Z'){σ}{H}{Q}(q:tL K B G0 f σ H Q):tL K B G0 f' σ H Q:=by
 obtain⟨G,Z,k,a⟩:=q;refine⟨G,Z,k,?_⟩;cases z:f Z with
 |bad=>simp_all
 |ok es Z'=>rw[z]at a;rw[h Z es Z' z];exact a
def Cq{K}{f f'}{j}(h:∀Z es Z',f Z=.ok es Z'->f' Z=.ok es Z'){Dn}{σ}{H}(q:tS K B G0 KX (K1 j f) Dn σ H):tS K B G0 KX (K1 j f') Dn σ H:=by
 obtain⟨G,Z,k,a⟩:=q;refine⟨G,Z,k,?_⟩;unfold K1 sB at a⊢;cases z:f Z with
 |bad=>rw[z]at a;exact a.elim
 |ok es Z'=>rw[z]at a;rw[h Z es Z' z];exact a
end
theorem P5    : ∀{ds}{Z:US}{es esF},K6 s t g ds Z es=O esF->∃ZF,cT s t (rL g) ds Z es=O (esF,ZF)
 |[],Z,es,esF,h=>by cases h;exact⟨Z,rfl⟩
 |d::r,Z,es,esF,h=>by
  rw[K6]at h;rw[cT];cases zs:s d Z with
  |none=>rw[zs]at h;cases h
  |some Z1=>
  rw[zs]at h;dsimp only at h⊢;cases zt:t Z1 with
  |bad=>rw[zt]at h;cases h
  |ok b Z2=>
  rw[zt]at h;dsimp only at h⊢;cases b with
  |false=>exact P5  h
  |true=>
   rw[Qp yK]at h⊢;unfold rL;cases zg:g Z2 with
   |bad=>rw[zg]at h;cases h
   |ok e Z3=>
   rw[zg]at h;dsimp only at h⊢;split at h
   .rename_i hl
    rw[Qp hl];exact P5  h
   .cases h
theorem Oa    : ∀{ds}{Z}{es},YL s t g ds Z es=cT s t (rL g) ds Z es
 |[],Z,es=>rfl
 |d::r,Z,es=>by
  rw[YL,cT];cases s d Z with
  |none=>rfl
  |some Z1=>
  dsimp only;cases t Z1 with
  |bad=>rfl
  |ok b Z2=>
  dsimp only;cases b with
  |false=>exact Oa
  |true=>
   rw[Qp yK,Qp yK];unfold rL;cases g Z2 with
   |bad=>rfl
   |ok e Z3=>
   dsimp only;split
   .exact Oa
   .rfl
theorem P9{s s1}{t t1}{f}{Rd}{rd}(hR:∀ds Z es,Rd ds Z es=cT s1 t1 rd ds Z es) :
  ∀{ds}{Z}{es},Xn s t f Rd ds Z es=cT s t (rN f s1 t1 rd) ds Z es
 |[],Z,es=>rfl
 |d::r,Z,es=>by
  rw[Xn,cT];cases s d Z with
  |none=>rfl
  |some Z1=>
  dsimp only;cases t Z1 with
  |bad=>rfl
  |ok b Z2=>
  dsimp only;cases b with
  |false=>exact P9 hR
  |true=>
   rw[Qp yK,Qp yK];unfold rN;cases f Z2 with
   |bad=>rfl
   |ok ds Z3=>
   dsimp only;rw[hR];cases cT s1 t1 rd ds _ es with
   |none=>rfl
   |some pr=>exact P9 hR
theorem Np  {t t1}{f}{g:M D}:∀{ds:yO}{Z:US}{es esF:yO},X2 s t f s1 t1 g ds Z es=O esF->∃ZF,cT s t (rN f s1 t1 (rL g)) ds Z es=O (esF,ZF)
 |[],Z,es,esF,h=>by cases h;exact⟨Z,rfl⟩
 |d::r,Z,es,esF,h=>by
  rw[X2]at h;rw[cT];cases zs:s d Z with
  |none=>rw[zs]at h;cases h
  |some Z1=>
  rw[zs]at h;dsimp only at h⊢;cases zt:t Z1 with
  |bad=>rw[zt]at h;cases h
  |ok b Z2=>
  rw[zt]at h;dsimp only at h⊢;cases b with
  |false=>exact Np  h
  |true=>
   rw[Qp yK]at h⊢;unfold rN;cases zg:f Z2 with
   |bad=>rw[zg]at h;cases h
   |ok ds Z3=>
   rw[zg]at h;dsimp only at h⊢;rw[←Oa];cases zl:YL s1 t1 g ds _ es with
   |none=>rw[zl]at h;cases h
   |some pr=>rw[zl]at h;exact Np  h
def jj      (Z)(es)(Z')(h:ZG f k s t g Z=.ok es Z'):dCG yN f k s t (rL g) Z=.ok es Z':=by
 unfold ZG at h;unfold dCG;cases zf:f Z with
 |bad=>simp_all
 |ok ds Z1=>
 rw[zf]at h;dsimp only[YT]at h⊢;cases zl:K6 s t g ds _ []with
 |none=>rw[zl]at h;cases h
 |some esF=>
 obtain⟨ZF,e⟩:=P5 zl;simp_all
def vD      (Z)(es)(Z')(h:RC f k s t g Z=.ok es Z'):dCG yM f k s t (rL g) Z=.ok es Z':=by
 unfold RC at h;unfold dCG;cases zf:f Z with
 |bad=>simp_all
 |ok ds Z1=>
 rw[zf]at h;dsimp only[YT]at h⊢;cases zl:K6 s t g ds _ []with
 |none=>rw[zl]at h;cases h
 |some esF=>
 rw[zl]at h;dsimp only at h;split at h
 .rename_i hf
  cases h;obtain⟨ZF,e⟩:=P5 zl;rw[e];exact Qp λ_=>hf
 simp_all
def vC  {k}{s s1}{t t1}{g}(Z)(es)(Z')(h:V7 f k s t f1 s1 t1 g Z=.ok es Z'):dCG yN f k s t (rN f1 s1 t1 (rL g)) Z=.ok es Z':=by
 unfold V7 at h;unfold dCG;cases zf:f Z with
 |bad=>simp_all
 |ok ds Z1=>
 rw[zf]at h;dsimp only[YT]at h⊢;cases zl:X2 s t f1 s1 t1 g ds _ []with
 |none=>rw[zl]at h;cases h
 |some esF=>
 obtain⟨ZF,e⟩:=Np zl;simp_all
def xw  {k}{s s1 s2}{t t1 t2}{g}(Z)(es)(Z')(h:RB f k s t f1 s1 t1 f2 s2 t2 g Z=.ok es Z'):dCG yN f k s t (rN f1 s1 t1 (rN f2 s2 t2 (rL g))) Z=.ok es Z':=by
 unfold RB at h;unfold dCG;cases zf:f Z with
 |bad=>simp_all
 |ok ds Z1=>
 rw[zf]at h;dsimp only[YT,Tw]at h⊢;rw[P9 λ_ _ _=>P9 λ_ _ _=>Oa]at h;cases zl:cT s t _ ds _ []with
 |none=>simp_all
 |some pr=>
 simp_all
def V6(q:Option NameKind->Bool)(SC scope:Scope)(N1 N2:List Str)(k:Nat):Bool:=
 RQ scope.names N1 N2 k&&decide (scope.kind=.function)&&(scope.names.all λy=>decide (scope.names.lookup y.1=O y.2))&&scope.names.all λy=>match y.2 with
  |.free=>q (SC.names.lookup y.1)
  |_=>yM
noncomputable def Ra:Option NameKind->Bool
 |some .cell=>yM|some .free=>yM|_=>yN
def vQ  {SC SC' scope}{N1 N2}{k}(h:V6 q SC scope N1 N2 k=yM)(f:∀x,q (SC.names.lookup x)=yM->SC'.names.lookup x=O .cell∨SC'.names.lookup x=O .free):Rp SC' scope N1 N2 k:=by unfold V6 at h;rw[Qz,Qz,Qz,QL,QL]at h;obtain⟨⟨⟨h1,h2⟩,h0⟩,h3⟩:=h;refine⟨h1,Qa h2,λy hy=>Qa (h0 y hy),λy hy e=>?_⟩;have:=h3 y hy;rw[e]at this;exact f _ this
def Lx    (h:V6 Ra SC scope N1 N2 k=yM):Rp SC scope N1 N2 k:=vQ h λx e=>by
 cases z:SC.names.lookup x with
 |none=>rw[z]at e;cases e
 |some y=>rw[z]at e;cases y<;>first|exact .inl rfl|exact .inr rfl|cases e
section
variable{X:Cx}{B G0:Hp}{KX:XW}
def Er  {tg elt iter}{ifs}{gs}{scope}{pos}{f}{s}{t}{rd}{F}(SC)(N1 N2)(k)(le:∀Z es Z',F Z=.ok es Z'->dCG l f k s t rd Z=.ok es Z')(hc:X.calm=yM)
  (hi:PI X tg iter (iD X.K B G0 f)) (zd:YU X N2 scope (.ListComp elt (⟨tg,iter,ifs,0⟩::gs) scope pos) tg ifs s t rd) (h1:X.env.scope=SC) (h2:X.N=N1) (hb:V6 Ra SC scope N1 N2 k=yM) (hs:∀x,UI iter X.env x=pure x:=by intro _;rfl) :
  PE X (.ListComp elt (⟨tg,iter,ifs,0⟩::gs) scope pos) (tL X.K B G0 F):=
 Kp (Et hc hi zd (by rw[h1,h2];exact Lx hb) hs) λ_ _ _ q=>Es le q
def sD_1   {j:Nat}{py:Pos}{spos:Pos}{tg elt iter:Up}{ifs}{gs}{scope}{pos:Pos}{f}{s}{t}{rd:RdB}{F}(SC:Scope)(N1 N2)(k:Nat)(le:∀Z es Z',F Z=.ok es Z'->dCG l f k s t rd Z=.ok es Z')(hN:X.N.Nodup)(hj:X.N[j]?=O y)(hy:X.env.scope.names.lookup y=O .local)(hc:X.calm=yM)
  (hi:PI X tg iter (iD X.K B G0 f)) (zd:YU X N2 scope (.ListComp elt (⟨tg,iter,ifs,0⟩::gs) scope pos) tg ifs s t rd) (h1:X.env.scope=SC) (h2:X.N=N1) (hb:V6 Ra SC scope N1 N2 k=yM) (hs:∀x,UI iter X.env x=pure x:=by intro _;rfl)
  (hsw:swapsWith (.ListComp elt (⟨tg,iter,ifs,0⟩::gs) scope pos) (O (.Name y py)) spos.line X.env=pure yM:=by rfl) :
  PS X (.Assign [.Name y py] (.ListComp elt (⟨tg,iter,ifs,0⟩::gs) scope pos) spos) (tS X.K B G0 KX (K1 j F)):=
 K3 (sD_g hN hj hy hc hi zd (by rw[h1,h2];exact Lx hb) hs hsw) λ_ _ _ q=>Cq le q
end
def ji   {s ak s2'}{t t1' t2'}{f1 f2}{g}{Z Z1 Z2}{ds es}(h1:f Z=.ok ds Z1)(h2:Xn s t f1 (Xn ak t1' f2 (YL s2' t2' g)) ds (Kt Z1++Uv k yL) []=O (es,Z2)) :
  RB f k s t f1 ak t1' f2 s2' t2' g Z=.ok es Z1:=by
 unfold RB;dsimp only[Tw];simp_all
section
variable{X:Cx}{B G0:Hp}{e a b c tg:Up}{pos:Pos}{es rest:yS}
def EOk.given{K}{G H:Hp}{σ:St}{Z:US}{a:Um}{vs}{ds:yO}(k:EOk K B G0 G H σ Z)(n:NewL K B G H σ Z a vs ds):EOk K B G0 (upd G a (.lst vs)) H σ Z where
 bh:=k.bh
 gh:=λb u q=>by
  by_cases z:b=a
  .subst z;rw[Kz]at q;cases q;exact n.h
  .rw[Km z]at q;exact k.gh b u q
 g0:=k.g0.trans (Zj n.g)
 np:=λb o q z=>by
  have zb:b≠a:=λz=>by subst z;rw[n.b]at q;cases q
  rw[Km zb];exact k.np b o q z
 len:=k.len
 pub:=λi d q=>let ⟨v,h1,h2⟩:=k.pub i d q;⟨v,h1,h2.mono (Zj n.g)⟩
 own:=λi ds q=>by
  obtain⟨b,ws,h1,h2,h3,h4,h5⟩:=k.own i ds q;have zb:b≠a:=λz=>by subst z;exact n.f i ds q h1
  exact⟨b,ws,h1,h2,by rw[Km zb];exact h3,h4,h5.mono (Zj n.g)⟩
 sep:=k.sep
 dp:=k.dp.map (λ_ _ _ q=>⟨q,rfl⟩) (λ_ ds q=>⟨ds,q,rfl⟩) λi p d v fp q s r w nn=>⟨r.mono (Zj n.g) (.refl _),λb m=>⟨(w b m).1,by rw[Km (λz=>n.dp i p d v fp q s r (by rw[←z];exact m))];exact(w b m).2⟩⟩
def BK  (h:PE X e (tL X.K B G0 f)):PE X e (tD X.K B G0 (UY Uw f)):=
 Kp h λσ H Q ⟨G,Z,k,a⟩=>by
  refine⟨G,Z,k,?_⟩;unfold UY U3 at a;cases z:f Z with
  |bad=>rw[z]at a;exact a.elim
  |ok ds Z1=>rw[z]at a;intro ad vs G' H' k' s' n;exact a _ _ H' (k'.given n) (s'.trans (Zj n.g)) (.lst (SqL.of Kz) (n.r.mono (Zj n.g)))
def j7(hc:X.calm=yM):YD X (.builtin "all") (λxs H Q=>∃l,∃bs:List Bool,xs=[.ref l]/\SqL X.K H l (bs.map V.bl)/\Q (.bl (bs.all id)) H):=by
 intro pins s σ H xs us Q I rx h;obtain⟨l,bs,rfl,hq,q⟩:=h;obtain⟨u,rfl,ru⟩:=rx.one;cases ru;obtain⟨its,rv,p,hz⟩:=I.list hq;have hl:=p.isList;have hlt:l<s.heap.objs.size:=by obtain⟨_,e,_⟩:=id hl;exact Qg e
 have key:∀(i:Nat) v,its.toArray[i]?=O v->∃t,bs[i]?=O t/\v=.bool t:=λi v e=>by
  have e   :=by simpa using e
  have hi:i<bs.length:=by
   have:=(Ql.mp e).1;have h2:=rv.length;rw[Qd]at h2
   lia
  obtain⟨u,e2,r2⟩:=rv.get (i:=i) (x:=.bl bs[i]) (by rw[Qh,Qi hi];rfl);rw[e]at e2;cases e2;exact⟨bs[i],Qi hi,r2⟩
 refine call_all_walk (JO hl ?_)
 refine⟨s.heap.objs.size,[s.heap.objs.size,l],[s.heap.objs.size],its.toArray.size,_,_,λi=>(bs[i]?).getD yM,rfl,Walks.list (A:=X.A.in1) (I.ok.hd hc) _ l (QJ hlt) its.toArray,
  ⟨⟨_,Qt _ yK,rfl,rfl⟩,hl.push _⟩,λi v s' Q' E' hP hQ=>?_,λh' tk hk=>?_⟩
 .obtain⟨b,e,rfl⟩:=key i v hP
  simp only[e]at hQ;exact Q2 hQ
 .have hn:its.toArray.size=bs.length:=by have:=rv.length;rw[List.length_map]at this;simp;lia
  have e:((Uu its.toArray.size).all λi=>(bs[i]?).getD yM)=bs.all id:=by
   rw[hn,Bool.eq_iff_iff,QL,QL];constructor
   .intro h b hb
    obtain⟨i,hi,e⟩:=List.getElem_of_mem hb;have:=h i (JC.mpr hi);simp only[Qi hi,Option.getD_some,e]at this;exact this
   .intro h i hi
    have hi':=JC.mp hi;simp only[Qi hi',Option.getD_some];exact h _ (JY hi')
  rw[e];exact⟨.bl (bs.all id),H,I.kept (t':=tk) λb x e=>hk b x (λhm=>by rw[QN.mp hm]at e;exact Jz _ (Qg e)) (Qe _ e),rfl,q⟩
noncomputable def VJ:yO->Option (List Bool)
 |[]=>O []
 |.bool b::r=>(VJ r).map (b :: ·)
 |_=>yL
theorem FE{K}{G}:∀{vs}{ds}{bs},Reps K G vs ds->VJ ds=O bs->vs=bs.map V.bl
 |_,_,bs,.nil,e=>by cases e;rfl
 |_,_,bs,.cons (d:=d) r t,e=>by
  cases d with
  |bool b=>
   unfold VJ at e;cases z:VJ _ with
   |none=>rw[z]at e;cases e
   |some cs=>rw[z]at e;cases e;rw[r.bl_inv,FE t z];rfl
  |_=>cases e
def ZH:yO->yQ
 |[.list ds]=>(VJ ds).map λbs=>.bool (bs.all id)
 |_=>yL
def Ep(hc:X.calm=yM):YK X (.builtin "all") ZH:=by
 refine⟨_,j7 hc,λvs G H ds d Q s r e k=>?_⟩;unfold ZH at e;split at e
 .rename_i ds
  cases z:VJ ds with
  |none=>simp_all
  |some bs=>rw[z]at e;cases e;obtain⟨v,rfl,q⟩:=r.one_inv;obtain⟨l,ws,rfl,h1,r1⟩:=q.lst_inv;have hw:=FE r1 z;subst hw;exact⟨l,bs,rfl,s.seq h1,k _ G H (.refl s) (.bl _)⟩
 simp_all
noncomputable def Its(x:Str):It:=⟨λi _=>i<x.cps.size,λi H v H'=>H'=H/\∃c,x.cps[i]?=O c/\v=.str ⟨#[c]⟩,λi _=>x.cps.size<=i⟩
def j6{P:Ul}{w:World}{K:Frag}{tg:Up}(x:Str)(t:Tok)(it:Um):Turn P w K tg (Its x) [it] it (λi h=>h.IsStrIter it (strIterType x) x t i) where
 mem:=by simp
 obj:=λi h st b hb=>by
  have e:b=it:=by simpa using hb
  subst e;obtain⟨o,e,c,d⟩:=st;exact⟨o,e,λv z=>by rw[d]at z;cases z⟩
 keep:=λi h h' st k=>by obtain⟨o,e,c,d⟩:=st;exact⟨o,k it (by simp) o e,c,d⟩
 item:=by
  intro X hP hw hK hc i pins s σ H E I hf st hg;subst hP hw hK;obtain⟨f0,f1,f2,f3,f4,f5⟩:=hf it (by simp);have hx:x.cps[i]?=O x.cps[i]:=JF hg
  have fin:∀h' tk(T:String),strIterType x=T->h'.IsStrIter it T x t (i+1)->Heap.SameBut it s.heap h'->["enumerate", "zip", "dict_itemiterator", "dict_reverseitemiterator", "odict_iterator", "itertools.zip_longest", "itertools.pairwise"].contains T=yN ->
    ∃u,O (Value.str ⟨#[x.cps[i]]⟩ s.toks)=O u/\Ur (model X.prog X.w) X.A (letOwnedTupleGo tg (.ref it) u) (λ_ s2=>∃v H',Inv X pins σ H' s2/\RelV v u/\(Its x).yld i H v H'/\s2.heap.IsStrIter it (strIterType x) x t (i+1)/\∀b∈[it],H' b=yL) E {s with heap:=h',toks:=tk}:=by
   intro h' tk T eT st' sb hn;have I1   :=I.turned (t':=tk) (λb o hb e=>(sb.2 b hb).trans e) f0 f1 f3 f4 f5;obtain⟨o,e,c,d⟩:=id st';refine⟨_,rfl,Rs  e c d hn ⟨.str ⟨#[x.cps[i]]⟩,H,I1,⟨_,rfl⟩,⟨rfl,_,hx,rfl⟩,by rw[eT];exact st',λb hb=>(hf b hb).1⟩⟩
  cases ha:x.cps.all (· < 128)with
  |true=>
   have eT:strIterType x = "str_ascii_iterator" :=by simp[strIterType,ha]
   rw[eT]at st;exact wpAny_pyNext_ascii_item st hx λh' st' sb=>fin h' _ _ eT st' sb (by decide)
  |false=>
   have eT:strIterType x = "str_iterator" :=by simp[strIterType,ha]
   rw[eT]at st;exact wpAny_pyNext_wide_item st hx λh' st' sb=>fin h' _ _ eT st' sb (by decide)
 done:=by
  intro X hP hw hK hc i pins s σ H E I hf st hg;subst hP hw hK;obtain⟨f0,f1,f2,f3,f4,f5⟩:=hf it (by simp);have hx:x.cps[i]?=yL:=Array.getElem?_eq_none hg;cases ha:x.cps.all (· < 128)with
  |true=>
   have eT:strIterType x = "str_ascii_iterator" :=by simp[strIterType,ha]
   rw[eT]at st;exact wpAny_pyNext_ascii_end (I.ok.hd hc) st hx λh' eb=>⟨rfl,I.turned (t':=s.toks) (λb o hb e=>eb b o hb e) f0 f1 f3 f4 f5⟩
  |false=>
   have eT:strIterType x = "str_iterator" :=by simp[strIterType,ha]
   rw[eT]at st;exact wpAny_pyNext_wide_end (I.ok.hd hc) st hx λh' eb=>⟨rfl,I.turned (t':=s.toks) (λb o hb e=>eb b o hb e) f0 f1 f3 f4 f5⟩
 self:=λA i s Q E st h=>by
  cases ha:x.cps.all (· < 128)with
  |true=>
   have eT:strIterType x = "str_ascii_iterator" :=by simp[strIterType,ha]
   rw[eT]at st;exact wpAny_pyIter_striter_ascii st h
  |false=>
   have eT:strIterType x = "str_iterator" :=by simp[strIterType,ha]
   rw[eT]at st;exact wpAny_pyIter_striter_wide st h
def iAny(K:Frag)(tl:TE):TI:=λσ H R=>tl σ H λx H1=>(∃a,x=.ref a/\(∃xs,SqL K H1 a xs)/\R (Itl K a) H1)∨(∃a,x=.ref a/\(∃xs,SqT K H1 a xs)/\R (Itt K a) H1) ∨ ∃z,x=.str z/\R (Its z) H1
def Cp{l:Up}{tl:TE}(hl:PE X l tl):PI X tg l (iAny X.K tl):=by
 intro pins s σ H R I h;refine thn (hl pins s σ H _ I h) λv s1 ⟨x,H1,I1,r1,q1⟩=>?_
 have fpOk:∀b∈[s1.heap.objs.size],ZC X pins H1 b:=λb hb=>by
  have e   :=by simpa using hb
  subst e;exact I1.fpOk (Qo _) (I1.hok.fresh (Qo _))
 rcases q1 with ⟨a,e,⟨xs,hq⟩,q⟩|⟨a,e,⟨xs,hq⟩,q⟩|⟨z,e,q⟩
 .subst e
  cases r1;obtain⟨its,rv,p,hz⟩:=I1.list hq;refine JO p.isList ?_;exact⟨s1.heap.objs.size,[s1.heap.objs.size],_,_,H1,rfl,I1.kept (t':=s1.toks) λb o e=>Qe _ e,vh a _,⟨_,Qt _ yK,rfl,rfl⟩,fpOk,q⟩
 .subst e
  cases r1;obtain⟨its,rv,p,hz⟩:=I1.tuple hq;refine wpAny_pyIter_tuple p ?_;exact⟨s1.heap.objs.size,[s1.heap.objs.size],_,_,H1,rfl,I1.kept (t':=s1.toks) λb o e=>Qe _ e,wa a _,⟨_,Qt _ yK,rfl,rfl⟩,fpOk,q⟩
 .subst e
  obtain⟨t,rfl⟩:=r1;refine wpAny_pyIter_strU ?_;exact⟨s1.heap.objs.size,[s1.heap.objs.size],_,_,H1,rfl,I1.kept (t':=s1.toks) λb o e=>Qe _ e,j6 z t _,⟨_,Qt _ yK,rfl,rfl⟩,fpOk,q⟩
noncomputable def RA(z:Str):yO:=z.cps.toList.map λc=>.str ⟨#[c]⟩
def OP:D->Option yO
 |.list ds=>O ds
 |.tuple ds=>O ds
 |.str z=>O (RA z)
 |_=>yL
def yf{K}{G1}{ad}{vs}{ds}(h:SqT K G1 ad vs)(r:Reps K G1 vs ds):Xq K (Itt K ad) ds G1 where
 go:=λi G H s1 s2 hi=>by
  have hi':i<vs.length:=by rw[r.length];simp_all
  exact⟨vs,vs[i],YB (s1.trans s2) h,Qi hi'⟩
 stop:=λi G H s1 s2 hi=>⟨vs,YB (s1.trans s2) h,by rw[r.length];simp_all⟩
 yld:=λi G H x H' d s1 s2 e y=>by obtain⟨rfl,y⟩:=y;obtain⟨v,e1,r1⟩:=r.get e;have:=y vs (YB (s1.trans s2) h);rw[e1]at this;cases this;exact⟨G,.refl s2,r1.mono s1⟩
def xu{K}{G1}{z}:Xq K (Its z) (RA z) G1 where
 go:=λi G H s1 s2 hi=>by unfold RA at hi;simpa[Its]using hi
 stop:=λi G H s1 s2 hi=>by unfold RA at hi;simpa[Its]using hi
 yld:=λi G H x H' d s1 s2 e y=>by
  obtain⟨rfl,c,hc,rfl⟩:=y;unfold RA at e;rw[Qh]at e;have:z.cps.toList[i]?=O c:=by simp_all
  rw[this]at e;cases e;exact⟨G,.refl s2,.str _⟩
def KP(f:M D):M yO:=U3 f λx=>U7 (OP x)
def MG  (h:PE X e (tD X.K B G0 f)):PI X tg e (iD X.K B G0 (KP f)):=Xa (Cp h) λσ H R q=>tM.toI  q λv H' G' Z' x k r a=>by
 cases x with
 |list ds=>obtain⟨ad,vs,rfl,h1,r1⟩:=r.lst_inv;exact .inl ⟨ad,rfl,⟨vs,k.gh.seq h1⟩,a _ G' H' k (.refl _) (vU h1 r1)⟩
 |tuple ds=>obtain⟨ad,vs,rfl,h1,r1⟩:=r.tup_inv;exact .inr (.inl ⟨ad,rfl,⟨vs,YB k.gh h1⟩,a _ G' H' k (.refl _) (yf h1 r1)⟩)
 |str z=>have:=r.str_inv;subst this;exact .inr (.inr ⟨z,rfl,a _ G' H' k (.refl _) xu⟩)
 |_=>exact a.elim
noncomputable def inS(i j:Str):Bool:=!(Builtin.Str.occurrences j i 0 j.length 1).isEmpty
def oInS:D->D->yZ
 |.str i,.str j=>O (inS i j)
 |_,_=>yL
def Mf:D->D->yZ
 |.str i,.str j=>O (!inS i j)
 |_,_=>yL
def Eo:OpB X (Ut .In) oInS:=⟨_,vd,λv u G H x y d Q s rx ry e k=>by
 unfold oInS at e;split at e
 .cases e
  have:=rx.str_inv;subst this;have:=ry.str_inv;subst this;exact⟨_,_,rfl,rfl,k⟩
 simp_all⟩
def Co:OpB X (Ut .NotIn) Mf:=⟨_,yo,λv u G H x y d Q s rx ry e k=>by
 unfold Mf at e;split at e
 .cases e
  have:=rx.str_inv;subst this;have:=ry.str_inv;subst this;exact⟨_,_,rfl,rfl,k⟩
 simp_all⟩
def En   (hg:Gl X x)(hm:∃t,X.mg x=O (.int i t))(hd:(x==("__debug__" : Str))=yN:=by decide):PE X (.Name x pos) (tD X.K B G0 (UM (.int i))):=by obtain⟨t,hm⟩:=hm;exact Kp (L8 (v:=.int i) hg hm ⟨t,rfl⟩ hd) λσ H Q ⟨G,Z,k,a⟩=>aft.now a k (.int _)
end
section
variable{X:Cx}{B G0:Hp}{KX:XW}{e o a b c tg i:Up}{pos p2:Pos}{es rest:yS}{te to ti:TE}
def Cn(te to ti:TE):TS:=λD σ H=>te σ H λv H1=>to σ H1 λx H2=>ti σ H2 λk H3=>∃l xs n,x=.ref l/\H3 l=O (.lst xs)/\k=.int n/\0<=n/\n<xs.length/\D.nx σ (upd H3 l (.lst (xs.set n.toNat v)))
def j4(he:PE X e te)(ho:PE X o to)(hi:PE X i ti)(hs:swapsWith e (O (.Subscript o i p2)) pos.line X.env=pure yN:=by rfl):PS X (.Assign [.Subscript o i p2] e pos) (Cn te to ti):=by
 intro pins s σ H D I h;refine wpAny_Assign_Subscript (thn (he pins s σ H _ I h) λv s1 ⟨x,H1,I1,r1,q1⟩=>thn (ho pins s1 σ H1 _ I1 q1) λov s2 ⟨y,H2,I2,r2,q2⟩=>thn (hi pins s2 σ H2 _ I2 q2) λiv s3 ⟨k,H3,I3,r3,q3⟩=>?_) hs;obtain⟨l,xs,n,rfl,hl,rfl,h0,h1,q⟩:=q3;cases r2;obtain⟨t,rfl⟩:=r3;obtain⟨z,its,m,r,hlen,ee⟩:=I3.lstM hl
 refine PySem.W.ki_setAt (items:=its.toArray) (n:=m) ee h0 (by
                                  have:Uq<2 ^ 63:=by decide
                                  lia) (by simp;lia) ?_
 refine⟨σ,_,I3.lset     hl ee (by simp) (r.set r1 n.toNat) (by rw[List.length_set];exact z),q⟩
def Ws(j:Nat)(g f:M D):SM:=sB f λd Z1=>match Z1[j]? with
 |some (O (.own _))=>sB g (λy Z2=>match y with
  |.int k=>(match Z2[j]? with
   |some (O (.own ds))=>if 0<=k/\k<ds.length then .nx (Z2.set j (O (.own (ds.set k.toNat d))))else .bad
   |_=>.bad)
  |_=>.bad) Z1
 |_=>.bad
def BJ  {f g:M D}(he:PE X e (tD X.K B G0 f))(ho:PE X o (KI j))(hi:PE X i (tD X.K B G0 g))(hs:swapsWith e (O (.Subscript o i p2)) pos.line X.env=pure yN:=by rfl) :
  PS X (.Assign [.Subscript o i p2] e pos) (tS X.K B G0 KX (Ws j g f)):=
 K3 (j4 he ho hi hs) λD σ H q=>tS.bnd  q λv H1 G1 Z1 d k r a=>by
  cases q0:Z1[j]? with
  |none=>rw[q0]at a;exact a.elim
  |some o0=>
   cases o0 with
   |none=>rw[q0]at a;exact a.elim
   |some sl0=>
    cases sl0 with
    |deep _ _=>rw[q0]at a;exact a.elim
    |pub d=>rw[q0]at a;exact a.elim
    |own zJ=>
     rw[q0]at a;obtain⟨ad,vs0,h1,h2,h3,h4,h5⟩:=k.own j zJ q0;refine⟨.ref ad,h1,G1,Z1,k,?_⟩;dsimp only at a;unfold sB at a;cases z:g Z1 with
     |bad=>rw[z]at a;exact a.elim
     |ok y Z2=>
      rw[z]at a;dsimp only at a;intro kv G' H' k' s' r';cases y with
      |int n=>
       cases q:Z2[j]? with
       |none=>rw[q]at a;exact a.elim
       |some oo=>
        cases oo with
        |none=>rw[q]at a;exact a.elim
        |some sl=>
         cases sl with
         |deep _ _=>rw[q]at a;exact a.elim
         |pub d=>rw[q]at a;exact a.elim
         |own ds=>
          rw[q]at a;dsimp only at a;split at a
          .rename_i hn
           obtain⟨bH,vs,g1,g2,g3,g4,g5⟩:=k'.own j ds q;rw[h1]at g1;cases g1;refine⟨ad,vs,n,rfl,g4,r'.int_inv,hn.1,by rw[g5.length];exact hn.2,?_⟩;exact a σ G' _ (k'.change q h1 (g5.set (r.mono s') n.toNat)) s'
          .exact a.elim
      |_=>exact a.elim
noncomputable def Xz(z:Str)(lo hi:yX):Str:=if(Builtin.Str.strSliceIndices lo hi 1 z.length).length=z.length then z else⟨((Builtin.Str.strSliceIndices lo hi 1 z.length).filterMap (z.cps[·]?)).toArray⟩
def Cm:SlR X (λx lo hi H Q=>∃z,x=.str z/\(Xz z lo hi).length<=Uq/\Q (.str (Xz z lo hi)) H):=by
 intro pins s σ H x v vl vu lo hi sl Q I rx hs pl pu h;obtain⟨z,rfl,hz,q⟩:=h;obtain⟨t,rfl⟩:=rx;refine⟨"str", _,F.slot_str_getitem.lookup,typeIs_str s z t,?_⟩
 obtain⟨l,el,e1⟩:∃l:Option (Int×Tok),vl=partValue l/\l.map (·.1)=lo:=by
  cases pl with
  |none=>exact⟨yL,rfl,rfl⟩
  |int k t'=>exact⟨O (k,t'),rfl,rfl⟩
 obtain⟨u,eu,e2⟩:∃u:Option _,vu=partValue u/\u.map (·.1)=hi:=by
  cases pu with
  |none=>exact⟨yL,rfl,rfl⟩
  |int k t'=>exact⟨O (k,t'),rfl,rfl⟩
 subst el eu;refine wpAny_getItem_str_slice (l:=l) (u:=u) (st:=yL) hs yK ?_;unfold sliceMade slicePicked;rw[e1,e2];unfold Xz at hz q;by_cases hw:(Builtin.Str.strSliceIndices lo hi 1 z.length).length=z.length
 .rw[Qp hw]at hz q
  rw[if_pos (by simp[hw])];exact⟨.str z,H,I,⟨t,rfl⟩,q⟩
 .rw[QH hw]at hz q
  rw[if_neg (by simp[hw])];exact⟨hz,.str _,H,I.tok _,⟨_,rfl⟩,q⟩
end
section
variable{X:Cx}{B G0:Hp}{KX:XW}{e o a b c tg i:Up}{pos p2:Pos}{es rest:yS}{te to ti:TE}
def pvb(i){x}{pos}{N'}{scope}{cl}{C}{s₀}{H₀}{ex}(hN:N'[i]?=O x:=by rfl)
  (h:visK (scope.names.lookup x)=yM:=by rfl) (hd:(x==("__debug__" : Str))=yN:=by decide) (hcd:(x==("__classdict__" : Str))=yN:=by decide) :
  PE (X.blk N' scope cl C s₀ H₀ ex) (.Name x pos) (KI i):=MZ hN (BN h) hd hcd
def W7:D->yX->yX->yQ
 |.list xs,lo,hi=>O (.list (DL.cutD xs lo hi))
 |.str z,lo,hi=>if(Xz z lo hi).length<=1000000 then O (.str (Xz z lo hi))else yL
 |_,_,_=>yL
def Zs(f:M D)(lo hi:M yX):M D:=U3 f λx=>U3 lo λl=>U3 hi λh=>U7 (W7 x l h)
def vP{lo hi:Option Up}{f:M D}{l h}(he:PE X e (tD X.K B G0 f))(hl:PO X lo (tOi X.K B G0 l))(hu:PO X hi (tOi X.K B G0 h)) :
  PE X (.Subscript e (.Slice lo hi yL p2) pos) (tD X.K B G0 (Zs f l h)):=
 Kp (kP (AX.or Cm) he hl hu) λσ H Q q=>by
  refine tM.one (R:=Rep X.K) q λv H2 G Z x k r a=>?_;refine tM.nx  k a λl' H3 G3 Z3 xl k3 s3 r3 a3=>?_;refine tM.nx  k3 a3 λh' H4 G4 Z4 xh k4 s4 r4 a4=>?_;subst r3 r4;unfold U7 W7 at a4
  cases x with
  |list xs=>obtain⟨ad,vs,rfl,h1,r1⟩:=((r.mono s3).mono s4).lst_inv;exact .inl ⟨ad,vs,rfl,k4.gh.seq h1,λp hp=>aft.done a4 k4 (Ext.new k4.gh hp) (.lst (SqL.of Kz) ((r1.cut l' h').mono (Zj (k4.gh.free hp))))⟩
  |str z=>
   dsimp only at a4;have:=r.str_inv;subst this;by_cases hc:(Xz z l' h').length<=1000000
   .rw[Qp hc]at a4
    exact .inr ⟨z,rfl,QE hc lim,aft.now a4 k4 (.str _)⟩
   .rw[QH hc]at a4;exact a4.elim
  |_=>exact a4.elim
end
section
variable{X:Cx}{B G0:Hp}{e o a b c tg:Up}{pos p2:Pos}{es rest:yS}{te to ti:TE}
def KF{β:Type}(p:D->D->Option β)(i:Nat)(g:M D):M β:=λZ=>match Z[i]? with
 |some (O (.pub d))=>(U3 g λy=>U7 (p d y)) Z
 |some (O (.own _))=>(U3 g λy=>λZ'=>match Z'[i]? with|some (O (.own ds))=>U7 (p (.list ds) y) Z'|_=>.bad) Z
 |_=>.bad
def Me{K}{σ:St}{H:Hp}{p}{r:R2}{i:Nat}{g:M D}{Q}{QV:VK}(hq:∀t H3,Q t H3->QV (.bl t) H3)(hr:∀v u G H x y d Q,Same G H->Rep K G v x->Rep K G u y->p x y=O d->Q (.bl d) H->r v u H Q)
  (q:tBo K B G0 (KF p i g) σ H Q):KI i σ H λx H1=>tD K B G0 g σ H1 λy H2=>r x y H2 QV:=by
 obtain⟨G,Z,k,a⟩:=q;unfold KF at a;cases q:Z[i]? with
 |none=>rw[q]at a;exact a.elim
 |some o=>
  cases o with
  |none=>rw[q]at a;exact a.elim
  |some sl=>
   cases sl with
   |deep _ _=>rw[q]at a;exact a.elim
   |pub d=>
    rw[q]at a;obtain⟨v,h1,h2⟩:=k.pub i d q;refine⟨v,h1,G,Z,k,?_⟩;dsimp only[U3]at a;cases z:g Z with
    |bad=>rw[z]at a;exact a.elim
    |ok y Z1=>rw[z]at a;intro u G' H' k' s' r';obtain⟨d',e',a'⟩:=aft.opt a;exact hr v u G' H' d y d' _ k'.gh (h2.mono s') r' e' (hq _ _ (a' d' G' H' k' s' yK))
   |own ds=>
    rw[q]at a;obtain⟨ad,vs,h1,h2,h3,h4,h5⟩:=k.own i ds q;refine⟨.ref ad,h1,G,Z,k,?_⟩;dsimp only[U3]at a;cases z:g Z with
    |bad=>rw[z]at a;exact a.elim
    |ok y Z1=>
     rw[z]at a;dsimp only at a;intro u G' H' k' s' r';cases q1:Z1[i]? with
     |none=>rw[q1]at a;exact a.elim
     |some oo=>
      cases oo with
      |none=>rw[q1]at a;exact a.elim
      |some sl1=>
       cases sl1 with
       |deep _ _=>rw[q1]at a;exact a.elim
       |pub d1=>rw[q1]at a;exact a.elim
       |own ds1=>
        rw[q1]at a;obtain⟨bH,ws,g1,g2,g3,g4,g5⟩:=k'.own i ds1 q1;rw[h1]at g1;cases g1;obtain⟨d',e',a'⟩:=aft.opt a;have sg:Same G' (upd G' ad (.lst ws)):=Zj g3
        have sh:Same (upd G' ad (.lst ws)) H':=λb o q=>by
         by_cases z:b=ad
         .subst z;rw[Kz]at q;cases q;exact g4
         .rw[Km z]at q;exact k'.gh b o q
        exact hr (.ref ad) u _ H' (.list ds1) y d' _ sh (.lst (SqL.of Kz) (g5.mono sg)) (r'.mono sg) e' (hq _ _ (a' d' G' H' k' s' yK))
def Ax     (o:OpB X (Ut op) p)(ha:PE X a (KI i))(hb:PE X b (tD X.K B G0 g))(hm:behindInMarks op b=yN) :
  PT X (.Compare a [op] [b] pos) (tBo X.K B G0 (KF p i g)):=by
 obtain⟨r,h,j⟩:=o;exact YR (OU h ha hb hm) λσ H Q q=>Me (λt H3 z=>⟨t,rfl,z⟩) j q
def Aw     (o:OpB X (Ut op) p)(ha:PE X a (KI i))(hb:PE X b (tD X.K B G0 g))(hm:behindInMarks op b=yN) :
  PE X (.Compare a [op] [b] pos) (tD X.K B G0 (UY Ux (KF p i g))):=by
 obtain⟨r,h,j⟩:=o;exact Kp (LR h ha hb hm) λσ H Q q=>Me (λt H3 z=>z) j (tBo.val q)
end
end DL
namespace L2
open PySem PySem.Spec PyProof.Rows
def Itz(K:Frag)(a b:Um):It:=
 ⟨λi H=>∃xs x ys y,SqL K H a xs/\xs[i]?=O x/\SqL K H b ys/\ys[i]?=O y,
  λi H v H'=>∃p x y,H p=yL/\v=.ref p/\(∀xs,SqL K H a xs->xs[i]?=O x)/\(∀ys,SqL K H b ys->ys[i]?=O y)/\H'=upd H p (.tup [x,y]),
  λi H=>∃xs ys,SqL K H a xs/\SqL K H b ys/\(xs.length<=i∨ys.length<=i)⟩
def jZ{P:Ul}{w:World}{K:Frag}{elts:yS}{x1}{tp:Pos}(a b z TI TO i1 i2:Um)(Dz:ZipApart z TI TO i1 i2 a b) :
  Turn P w K (.Tuple elts x1 tp) (Itz K a b) [z,TI,TO,i1,i2] z (λi h=>IsZip h z TI TO .none/\IsPair h TI (.ref i1) (.ref i2)/\(∃c d,IsPair h TO c d)/\h.IsListIter i1 a i/\h.IsListIter i2 b i) where
 mem:=by simp
 obj:=λi h st c hc=>by
  obtain⟨h1,h2,⟨c0,d0,h3⟩,⟨o4,h4,_,d4⟩,⟨o5,h5,_,d5⟩⟩:=st;have hc':c=z∨c=TI∨c=TO∨c=i1∨c=i2:=by simpa using hc
  rcases hc' with rfl|rfl|rfl|rfl|rfl
  .exact⟨_,h1,λv q=>by have q':Data.fields _=Data.cell v:=q;cases q'⟩
  .exact⟨_,h2,λv q=>by have q':Data.seq _ _=Data.cell v:=q;cases q'⟩
  .exact⟨_,h3,λv q=>by have q':Data.seq _ _=Data.cell v:=q;cases q'⟩
  .exact⟨o4,h4,λv q=>by rw[d4]at q;cases q⟩
  .exact⟨o5,h5,λv q=>by rw[d5]at q;cases q⟩
 keep:=λi h h' st k=>by obtain⟨h1,h2,⟨c0,d0,h3⟩,h4,h5⟩:=st;exact⟨k z (by simp) _ h1,k TI (by simp) _ h2,⟨c0,d0,k TO (by simp) _ h3⟩,h4.at λo q=>k i1 (by simp) o q,h5.at λo q=>k i2 (by simp) o q⟩
 item:=by
  intro X hP hw hK hc i pins s σ H E I hf st hg;subst hP hw hK;obtain⟨h1,h2,⟨c0,d0,h3⟩,h4,h5⟩:=st;obtain⟨xs,x,ys,y,hq,hx,zM,hy⟩:=hg;obtain⟨its,rv,p,hz⟩:=I.list hq;obtain⟨its',rv',p',hz'⟩:=I.list zM;obtain⟨u,hu,ru⟩:=rv.get hx;obtain⟨u',hu',ru'⟩:=rv'.get hy;refine wpAny_pyNext_zip_item Dz h1 h2 h3 h4 h5 p.isList p'.isList (x:=u) (y:=u') (by simpa using hu) (by simpa using hu') λh' g1 g3 g4 g5 gp gs gk=>?_
  refine⟨_,rfl,wpAny_letOwnedTupleGo_zip g1 λh2' gz sb=>?_⟩;have hzl:z<s.heap.objs.size:=Qg h1;have av:Heap.SameBut z h' h2':=sb;have gp2   :=(av.2 _ (Ju hzl)).trans gp
  have kk:∀c o,c∉[z,TI,TO,i1,i2]->s.heap.get? c=O o->h2'.get? c=O o:=λc o hc q=>by
   have n1:c≠z:=λe=>hc (by simp[e])
   have n3:c≠TO:=λe=>hc (by simp[e])
   have n4:c≠i1:=λe=>hc (by simp[e])
   have n5:c≠i2:=λe=>hc (by simp[e])
   exact(av.2 c n1).trans (gk c o n1 n3 n4 n5 q)
  have hn:H s.heap.objs.size=yL:=I.hok.fresh (Qo _)
  have I2:Inv X pins σ (upd H s.heap.objs.size (.tup [x,y])) {s with heap:=h2'}:=
   I.turnedNew (t':=s.toks) (fp:=[z,TI,TO,i1,i2]) hf kk (Qo _) ⟨by show 2<=Uq;decide,[u,u'],.cons ru (.cons ru' .nil),⟨_,gp2,rfl,_,rfl⟩⟩
  have gTI:IsPair h' TI (.ref i1) (.ref i2):=gk TI _ Dz.TIz Dz.TITO Dz.TIi1 Dz.TIi2 h2
  refine⟨.ref s.heap.objs.size,_,I2,rfl,⟨_,x,y,hn,rfl,λws hw=>by rw[I.list_inj hw hq];exact hx,λws hw=>by rw[I.list_inj hw zM];exact hy,rfl⟩,
   ⟨gz,(av.2 _ Dz.TIz).trans gTI,⟨u,u',(av.2 _ Dz.TOz).trans g3⟩,g4.at λo q=>(av.2 _ Dz.i1z).trans q,g5.at λo q=>(av.2 _ Dz.i2z).trans q⟩,λc hc=>?_⟩
  have hlt:c<s.heap.objs.size:=by
   have hc':c=z∨c=TI∨c=TO∨c=i1∨c=i2:=by simpa using hc
   rcases hc' with rfl|rfl|rfl|rfl|rfl
   .exact hzl
   .exact Qg h2
   .exact Qg h3
   .obtain⟨o,ho,_⟩:=h4;exact Qg ho
   .obtain⟨o,ho,_⟩:=h5;exact Qg ho
  rw[Km (QJ hlt)];exact(hf c hc).1
 done:=by
  intro X hP hw hK hc i pins s σ H E I hf st hg;subst hP hw hK;obtain⟨h1,h2,⟨c0,d0,h3⟩,h4,h5⟩:=st;obtain⟨xs,ys,hq,zM,hx⟩:=hg;obtain⟨its,rv,p,hz⟩:=I.list hq;obtain⟨its',rv',p',hz'⟩:=I.list zM;have hl:=rv.length;have hl':=rv'.length;refine wpAny_pyNext_zip_end (I.ok.hd hc) Dz h1 h2 h3 h4 h5 p.isList p'.isList ?_ λh' eb=>⟨rfl,I.turnedL (t':=s.toks) hf λc o hb q=>eb c o (λe=>hb (by simp[e])) (λe=>hb (by simp[e])) (λe=>hb (by simp[e])) (λe=>hb (by simp[e])) q⟩
  rcases hx with hx|hx
  .exact .inl (by simp;lia)
  .exact .inr (by simp;lia)
 self:=λ_ _ _ _ _ st h=>wpAny_pyIter_zip st.1 h
section
variable{X:Cx}
def iZip(K:Frag)(ta:TA):TI:=λσ H R=>ta σ H λvs H1=>∃a b xs ys,vs=[.ref a,.ref b]/\SqL K H1 a xs/\SqL K H1 b ys/\R (Itz K a b) H1
def Ck{a b:Up}{ta:TA}{p pos:Pos}{elts:yS}{x1}{tp:Pos}(hg:Gl X "zip")(hm:X.mg "zip" = yL)(ha:PA X [a,b] ta)
  (hs:Us [a,b] X.env=[(yN,eval a X.env),(yN,eval b X.env)]:=by rfl) (hs2:Us [b] X.env=[(yN,eval b X.env)]:=by rfl):PI X (.Tuple elts x1 tp) (.Call (.Name "zip" p) [a,b] [] pos) (iZip X.K ta):=by
 intro pins s σ H R I h;refine Call_ (WS I hg hm boot_zip (JQ (thn (ha pos pins s σ H _ I h) λus s1 ⟨vs,H1,I1,r1,q1⟩=>?_) (by rw[hs,hs2]) (by rw[hs2];rfl)));obtain⟨l1,l2,xs,ys,e,hq,zM,q⟩:=q1;subst e;cases r1 with
 |cons r rr=>
  cases rr with
  |cons r' rr=>
   cases rr;cases (r);cases (r');obtain⟨its,rv,pl,hz⟩:=I1.list hq;obtain⟨its',rv',pl',hz'⟩:=I1.list zM;have n1:l1<s1.heap.objs.size:=by obtain⟨_,e,_⟩:=id pl.isList;exact Qg e
   have n2:l2<s1.heap.objs.size:=by obtain⟨_,e,_⟩:=id pl'.isList;exact Qg e
   have ne:∀i j:Nat,i≠j->s1.heap.objs.size+i≠s1.heap.objs.size+j:=λi j h e=>h (Nat.add_left_cancel e);have m1:∀m:Nat,l1≠s1.heap.objs.size+m:=λm=>QJ (QA n1 (Nat.le_add_right _ _));have m2:∀m:Nat,l2≠s1.heap.objs.size+m:=λm=>QJ (QA n2 (Nat.le_add_right _ _));refine call_zip_2 pl.isList pl'.isList λh' g1 g2 g3 g4 g5 gs kk=>?_;have I2   :=I1.kept (t':=s1.toks) kk;refine wpAny_pyIter_zip g1 ?_
   refine⟨s1.heap.objs.size+4,[s1.heap.objs.size+4,s1.heap.objs.size+2,s1.heap.objs.size+3,s1.heap.objs.size,s1.heap.objs.size+1],_,_,H1,rfl,I2,
    jZ l1 l2 (s1.heap.objs.size+4) (s1.heap.objs.size+2) (s1.heap.objs.size+3) s1.heap.objs.size (s1.heap.objs.size+1) ⟨ne 2 4 (by decide),ne 3 4 (by decide),ne 0 4 (by decide),ne 1 4 (by decide),ne 2 3 (by decide),ne 2 0 (by decide),ne 2 1 (by decide),ne 3 0 (by decide),ne 3 1 (by decide),ne 0 1 (by decide),m1 4,m1 3,m1 0,m1 1,m2 4,m2 3,m2 0,m2 1⟩,⟨g1,g2,⟨_,_,g3⟩,g4,g5⟩,λc hc=>?_,q⟩
   have hc':s1.heap.objs.size<=c:=by
    have hc'   :=by simpa using hc
    rcases hc' with rfl|rfl|rfl|rfl|rfl<;>first|exact Nat.le_add_right _ _|exact Qo _
   exact I1.fpOk hc' (I1.hok.fresh hc')
end
end L2
namespace DL
open PySem PySem.Spec L2
open PyProof.Rows hiding St
section
variable{X:Cx}{B G0:Hp}{e a b c tg:Up}{pos:Pos}{es rest:yS}
noncomputable def Z7(xs ys:yO):yO:=(xs.zip ys).map λp=>.tuple [p.1,p.2]
def xq{K}{G1:Hp}{a b:Um}{vs ws:List V}{ds es:yO}(h:SqL K G1 a vs)(h':SqL K G1 b ws)(r:Reps K G1 vs ds)(r':Reps K G1 ws es):Xq K (Itz K a b) (Z7 ds es) G1 where
 go:=λi G H s1 s2 hi=>by
  unfold Z7 at hi;rw[Qd,JP]at hi;have hi1:i<vs.length:=by rw[r.length];lia
  have hi2:i<ws.length:=by rw[r'.length];lia
  exact⟨vs,vs[i],ws,ws[i],(s1.trans s2).seq h,Qi hi1,(s1.trans s2).seq h',Qi hi2⟩
 stop:=λi G H s1 s2 hi=>by
  unfold Z7 at hi;rw[Qd,JP]at hi;refine⟨vs,ws,(s1.trans s2).seq h,(s1.trans s2).seq h',?_⟩;rw[r.length,r'.length]
  lia
 yld:=λi G H x H' d s1 s2 e y=>by
  obtain⟨p,u,v,hp,rfl,y1,y2,rfl⟩:=y;have z1:=y1 vs ((s1.trans s2).seq h);have z2:=y2 ws ((s1.trans s2).seq h');unfold Z7 at e;rw[Qh]at e;cases q:(ds.zip es)[i]? with
  |none=>rw[q]at e;cases e
  |some pr=>rw[q]at e;cases e;rw[List.getElem?_zip_eq_some]at q;obtain⟨u',e1,r1⟩:=r.get q.1;obtain⟨v',e2,r2⟩:=r'.get q.2;rw[z1]at e1;rw[z2]at e2;cases e1;cases e2;exact⟨upd G p _,Ext.new s2 hp,.tup (SqT.of Kz) (.cons ((r1.mono s1).mono (Zj (s2.free hp))) (.cons ((r2.mono s1).mono (Zj (s2.free hp))) .nil))⟩
def Wb:yO->Option yO
 |[.list xs,.list ys]=>O (Z7 xs ys)
 |_=>yL
def jY  (h:Wb x=O l):∃xs ys,x=[.list xs,.list ys]/\l=Z7 xs ys:=by
 unfold Wb at h;split at h
 .cases h;exact⟨_,_,rfl,rfl⟩
 simp_all
def Wf(f:M yO):M yO:=U3 f λx=>U7 (Wb x)
def Cj  {p2}{elts}{x1}{tp}(hg:Gl X "zip")(hm:X.mg "zip" = yL)(ha:PA X [a,b] (tDs X.K B G0 f))(hs:Us [a,b] X.env=[(yN,eval a X.env),(yN,eval b X.env)]:=by rfl)(hs2:Us [b] X.env=[(yN,eval b X.env)]:=by rfl) :
  PI X (.Tuple elts x1 tp) (.Call (.Name "zip" p2) [a,b] [] pos) (iD X.K B G0 (Wf f)):=Xa (Ck hg hm ha hs hs2) λσ H R q=>tM.toI  q λv H' G' Z' x k r a=>by
 cases z:Wb x with
 |none=>rw[z]at a;exact a.elim
 |some l=>
  obtain⟨xs,ys,rfl,rfl⟩:=jY z;cases r with
  |cons r1 rr=>
   cases rr with
   |cons r2 rr=>cases rr;obtain⟨l1,vs,rfl,h1,q1⟩:=r1.lst_inv;obtain⟨l2,ws,rfl,h2,q2⟩:=r2.lst_inv;exact⟨l1,l2,vs,ws,rfl,k.gh.seq h1,k.gh.seq h2,a _ G' H' k (.refl _) (xq h1 h2 q1 q2)⟩
end
section
variable{X:Cx}{B G0:Hp}{e o a b c tg:Up}{pos p2 p3:Pos}{es rest:yS}{te to ti:TE}
def oIn:D->D->yZ
 |.str i,.str j=>O (inS i j)
 |x,.list xs=>if x.canLay0=yM/\UA xs=yM/\x.depth<=60 then O (xs.any λy=>UC y x)else yL
 |x,.tuple xs=>if x.canLay0=yM/\UA xs=yM/\x.depth<=60 then O (xs.any λy=>UC y x)else yL
 |_,_=>yL
def YS(x y:D):yZ:=(oIn x y).map λt=>!t
noncomputable def Xy(x y:D):yZ:=match y with
 |.list xs=>if x.canLay0=yM/\UA xs=yM/\x.depth<=60 then O (xs.any λy=>UC y x)else yL
 |.tuple xs=>if x.canLay0=yM/\UA xs=yM/\x.depth<=60 then O (xs.any λy=>UC y x)else yL
 |_=>yL
def Em(hu:X.A.units+64<cLine):OpB X (Ut .In) Xy:=by
 refine⟨λv u H Q=>∃G x y d,Same G H/\Rep X.K G v x/\Rep X.K G u y/\Xy x y=O d/\Q _ H,?_,λv u G H x y d Q s rx ry e k=>⟨G,x,y,d,s,rx,ry,e,k⟩⟩;intro pins s σ H x y v u Q I rx ry ⟨G,dx,dy,d,sg,px,py,e,q⟩;unfold Xy at e;split at e
 .split at e
  .rename_i c
   cases e;obtain⟨as,ra⟩:=Xv I sg px rx c.1;obtain⟨bs,rb⟩:=Xv I sg py ry (c.2.1);exact SeqAt.in_list_reads rb ra c.2.1 c.1 (by have:=c.2.2;lia) ⟨.bl _,H,I,rfl,q⟩
  simp_all
 .split at e
  .rename_i c
   cases e;obtain⟨as,ra⟩:=Xv I sg px rx c.1;obtain⟨bs,rb⟩:=Xv I sg py ry (c.2.1);exact SeqAt.in_tuple_reads rb ra c.2.1 c.1 (by have:=c.2.2;lia) ⟨.bl _,H,I,rfl,q⟩
  simp_all
 simp_all
def Ci(hu:X.A.units+64<cLine):OpB X (Ut .NotIn) (λx y=>(Xy x y).map λt=>!t):=by
 refine⟨λv u H Q=>∃G x y d,Same G H/\Rep X.K G v x/\Rep X.K G u y/\(Xy x y).map _=O d/\Q _ H,?_,λv u G H x y d Q s rx ry e k=>⟨G,x,y,d,s,rx,ry,e,k⟩⟩;intro pins s σ H x y v u Q I rx ry ⟨G,dx,dy,d,sg,px,py,e,q⟩;unfold Xy at e;split at e
 .split at e
  .rename_i c
   cases e;obtain⟨as,ra⟩:=Xv I sg px rx c.1;obtain⟨bs,rb⟩:=Xv I sg py ry (c.2.1);exact SeqAt.notIn_list_reads rb ra c.2.1 c.1 (by have:=c.2.2;lia) ⟨.bl _,H,I,rfl,q⟩
  simp_all
 .split at e
  .rename_i c
   cases e;obtain⟨as,ra⟩:=Xv I sg px rx c.1;obtain⟨bs,rb⟩:=Xv I sg py ry (c.2.1);exact SeqAt.notIn_tuple_reads rb ra c.2.1 c.1 (by have:=c.2.2;lia) ⟨.bl _,H,I,rfl,q⟩
  simp_all
 simp_all
def B_in(hu:X.A.units+64<cLine):OpB X (Ut .In) oIn:=(Eo.or (Em hu)).congr λx y=>by cases x<;>cases y<;>rfl
def El(hu:X.A.units+64<cLine):OpB X (Ut .NotIn) YS:=(Co.or (Ci hu)).congr λx y=>by cases x<;>cases y<;>rfl
def xp  {lo hi:Option Up}{st:Up}(he:PE X e te)(hl:PO X lo tl)(hu:PO X hi th)(hst:PO X (O st) ts):PE X (.Subscript e (.Slice lo hi (O st) p2) pos)
  (λσ H Q=>te σ H λx H1=>tl σ H1 λl H2=>th σ H2 λu H3=>ts σ H3 λt H4=>∃a xs,x=.ref a/\SqL X.K H4 a xs/\l=yL/\u=yL/\t=O (-1)/\∀p,H4 p=yL->Q (.ref p) (upd H4 p (.lst xs.reverse))):=by
 intro pins s σ H Q I h;refine Subscript_ (thn (he pins s σ H _ I h) λv s1 ⟨x,H1,I1,r1,q1⟩=>?_);refine wpAny_Slice (thn (hl pins s1 σ H1 _ I1 q1) λvl s2 ⟨l,H2,I2,pl,q2⟩=>thn (hu pins s2 σ H2 _ I2 q2) λvu s3 ⟨u,H3,I3,pu,q3⟩=>thn (hst pins s3 σ H3 _ I3 q3) λvt s4 ⟨t,H4,I4,pt,q4⟩=>?_);obtain⟨a,xs,rfl,hx,rfl,rfl,rfl,q⟩:=q4;cases r1;have I5:Inv X pins σ H4 {s4 with heap:=s4.heap.push {cls:=.type "slice", data:=.fields #[vl,vu,vt]}}:=I4.kept (t':=s4.toks) λb ob q=>Qe _ q
 obtain⟨its,r,ht,hz⟩:=I5.list hx;have hlen:=r.length;have hg:Ur (model X.prog X.w) X.A (getItem (.ref a) (.ref s4.heap.objs.size)) (EP X pins σ Q) X.xe {s4 with heap:=s4.heap.push {cls:=.type "slice", data:=.fields #[vl,vu,vt]}}:=by refine wpAny_getItem_list_slice ht.isList (Heap.IsSliceOf.new ..) pl pu pt (by simp) ?_ (by rw[List.size_toArray]<;>lia);rw[PySem.W.krv_pick];refine⟨.ref _,_,I5.laid   (λb ob q=>Qe _ q) (Qo _) ?_,rfl,q _ (I5.hok.fresh (Qo _))⟩;exact⟨by rw[List.length_reverse];exact hz,its.reverse,0,r.reverse,Qt _ yK⟩
 exact tail_any  ht.isList.typeIs slot_list_getitem.lookup hg (by with_unfolding_all rfl)
noncomputable def Tr:D->yX->yX->yX->yQ
 |.list xs,yL,yL,O i=>if i = -1 then O (.list xs.reverse)else yL
 |_,_,_,_=>yL
def Sa(f:M D)(lo hi st:M yX):M D:=U3 f λx=>U3 lo λl=>U3 hi λh=>U3 st λt=>U7 (Tr x l h t)
def Av{lo hi}{st:Up}{f:M D}{l h t}(he:PE X e (tD X.K B G0 f))(hl:PO X lo (tOi X.K B G0 l))(hu:PO X hi (tOi X.K B G0 h))(hst:PO X (O st) (tOi X.K B G0 t)) :
  PE X (.Subscript e (.Slice lo hi (O st) p2) pos) (tD X.K B G0 (Sa f l h t)):=
 Kp (xp he hl hu hst) λσ H Q q=>by
  refine tM.one  q λv H2 G Z x k r a=>?_;refine tM.nx  k a λl' H3 G3 Z3 xl k3 s3 r3 a3=>?_;refine tM.nx  k3 a3 λh' H4 G4 Z4 xh k4 s4 r4 a4=>?_;refine tM.nx  k4 a4 λt' H5 G5 Z5 xt k5 s5 r5 a5=>?_;subst r3 r4 r5
  cases x with
  |list xs=>
   cases l' with
   |some _=>exact a5.elim
   |none=>
   cases h' with
   |some _=>exact a5.elim
   |none=>
   cases t' with
   |none=>exact a5.elim
   |some i=>
   obtain⟨ad,vs,rfl,h1,r1⟩:=(((r.mono s3).mono s4).mono s5).lst_inv;by_cases hi:i = -1
   .subst hi
    exact⟨ad,vs,rfl,k5.gh.seq h1,rfl,rfl,rfl,λp hp=>aft.done a5 k5 (Ext.new k5.gh hp) (.lst (SqL.of Kz) (r1.reverse.mono (Zj (k5.gh.free hp))))⟩
   .unfold U7 Tr at a5
    dsimp only at a5;rw[QH hi]at a5;exact a5.elim
  |_=>exact a5.elim
noncomputable def VC:yO->Option yO
 |[.list xs]=>O xs
 |[.tuple xs]=>O xs
 |_=>yL
def Gk  (h:VC x=O l):x=[.list l]∨x=[.tuple l]:=by
 unfold VC at h;split at h
 .cases h;exact .inl yK
 .cases h;exact .inr yK
 simp_all
def GS:bootBuiltins "list" = O (.type "list"):=by decide +kernel
def jX  (hg:Gl X "list")(hm:X.mg "list" = yL)(ha:PA X [a] (tDs X.K B G0 f))(he:Us [a] X.env=(yN,eval a X.env)::Us [] X.env:=by rfl) :
  PE X (.Call (.Name "list" p2) [a] [] pos) (tL X.K B G0 (U3 f λxs=>U7 (VC xs))):=
 Kp (Ob FG hg hm GS ha (by decide) (by decide) he yK) λσ H Q ⟨G,Z,k,q⟩=>by
  refine⟨G,Z,k,?_⟩;unfold U3 at q;cases z:f Z with
  |bad=>simp_all
  |ok xs Z1=>
   rw[z]at q;dsimp only[]at q;intro vs G' H' k' s' r;cases z2:VC xs with
   |none=>rw[z2]at q;exact q.elim
   |some l=>
    rcases Gk z2 with rfl|rfl
    .obtain⟨v,rfl,q1⟩:=r.one_inv
     obtain⟨p,ws,rfl,h1,r1⟩:=q1.lst_inv;exact⟨p,ws,rfl,.inl (k'.gh.seq h1),λad hp=>q ad ws G' _ (k'.ext (Ext.hid k'.gh hp)) s' (NewL.of k' hp r1)⟩
    .obtain⟨v,rfl,q1⟩:=r.one_inv
     obtain⟨p,ws,rfl,h1,r1⟩:=q1.tup_inv;exact⟨p,ws,rfl,.inr (YB k'.gh h1),λad hp=>q ad ws G' _ (k'.ext (Ext.hid k'.gh hp)) s' (NewL.of k' hp r1)⟩
def VF(i:Nat):M yO:=λZ=>match Z[i]? with
 |some (O (.pub d))=>U7 (VC [d]) Z
 |some (O (.own ds))=>.ok ds Z
 |_=>.bad
def xo  (hg:Gl X "list")(hm:X.mg "list" = yL)(ho:PE X a (KI i))(he:Us [a] X.env=(yN,eval a X.env)::Us [] X.env:=by rfl) :
  PE X (.Call (.Name "list" p2) [a] [] pos) (tL X.K B G0 (VF i)):=
 Kp (Ob FG hg hm GS (Yd ho Xo he) (by decide) (by decide) he yK) λσ H Q ⟨G,Z,k,q⟩=>by
  unfold VF at q;cases z:Z[i]? with
  |none=>rw[z]at q;exact q.elim
  |some oo=>
   cases oo with
   |none=>rw[z]at q;exact q.elim
   |some sl=>
    cases sl with
    |deep _ _=>rw[z]at q;exact q.elim
    |own ds=>rw[z]at q;obtain⟨ad,vs,h1,h2,h3,h4,h5⟩:=k.own i ds z;exact⟨.ref ad,h1,ad,vs,rfl,.inl (SqL.of h4),λl hp=>q l vs G _ (k.ext (Ext.hid k.gh hp)) (.refl _) (NewL.of k hp h5)⟩
    |pub d=>
     rw[z]at q;dsimp only[U7]at q;obtain⟨v,h1,h2⟩:=k.pub i d z;cases z2:VC [d]with
     |none=>rw[z2]at q;exact q.elim
     |some l=>
      rcases Gk z2 with e|e
      .cases e
       obtain⟨p,ws,rfl,g1,r1⟩:=h2.lst_inv;exact⟨_,h1,p,ws,rfl,.inl (k.gh.seq g1),λad hp=>q ad ws G _ (k.ext (Ext.hid k.gh hp)) (.refl _) (NewL.of k hp r1)⟩
      .cases e
       obtain⟨p,ws,rfl,g1,r1⟩:=h2.tup_inv;exact⟨_,h1,p,ws,rfl,.inr (YB k.gh g1),λad hp=>q ad ws G _ (k.ext (Ext.hid k.gh hp)) (.refl _) (NewL.of k hp r1)⟩
noncomputable def SZ:yO->yQ
 |[.int i]=>O (.int i)
 |[.bool b]=>O (.int (if b then 1 else 0))
 |_=>yL
def Ch:YK X (.type "int") SZ:=by
 refine⟨_,vb,λvs G H ds d Q s r e k=>?_⟩;unfold SZ at e;split at e
 .cases e
  obtain⟨v,rfl,q⟩:=r.one_inv;rw[q.int_inv];exact .inl ⟨_,rfl,k _ G H (.refl s) (.int _)⟩
 .cases e
  obtain⟨v,rfl,q⟩:=r.one_inv;rw[q.bl_inv];exact .inr ⟨_,rfl,k _ G H (.refl s) (.int _)⟩
 simp_all
def Ek  {zs:List Str}(hg:Gl X x)(hm:∃ad o its n,X.mg x=O (.ref ad)/\X.K.lookup ad=O o/\o.cls=.type "tuple" /\ o.data=.seq its n/\its.size<=Uq/\Vals (zs.map V.str) its.toList)(hd:(x==("__debug__" : Str))=yN:=by decide) :
  PE X (.Name x pos) (tD X.K B G0 (UM (.tuple (zs.map Uy)))):=by
 obtain⟨ad,o,its,n,hm,h1,h2,h3,h4,h5⟩:=hm;refine Kp (L8 (v:=.ref ad) hg hm yK hd) λσ H Q ⟨G,Z,k,a⟩=>aft.now a k (.tup (.inr ⟨o,its,n,h1,h2,h3,h4,h5⟩) ?_)
 have:∀zs:List Str,Reps X.K G (zs.map V.str) (zs.map Uy):=λzs=>by
  induction zs with
  |nil=>exact .nil
  |cons z r ih=>exact .cons (.str _) ih
 simp_all
end
section
variable{X:Cx}{B G0:Hp}{e o a b c tg:Up}{pos p2 p3 p4:Pos}{es rest:yS}{te to ti:TE}
theorem W0:∀{ns}{us},Vals (ns.map V.int) us->PyProof.Rows.IntsAre us ns
 |[],_,.nil=>.nil
 |n::ns,_,.cons h t=>by obtain⟨tk,rfl⟩:=h;exact .cons n tk (W0 t)
noncomputable def V5(ns:yP):Nat:=(PyProof.Rows.firstMet (λi=>ns.getD i 0) ns.length).length
def xn(hc:X.calm=yM):YD X (.type "set") (λxs H Q=>∃l,∃ns:yP,xs=[.ref l]/\SqL X.K H l (ns.map V.int)/\ns.length+1<4096/\∀S p,H p=yL->Q (.ref p) (upd H p (.set S (V5 ns)))):=by
 intro pins s σ H xs us Q I rx h;obtain⟨l,ns,rfl,hq,hb,q⟩:=h;obtain⟨u,rfl,ru⟩:=rx.one;cases ru;obtain⟨its,rv,p,hz⟩:=I.list hq;have hi:=W0 rv;have hn:its.toArray.size=ns.length:=by have:=rv.length;grind
 refine call_set_list (I.ok.hd hc) p.isList  (by simpa using hi) (by rw[hn];exact hb) λh' tk hS hk=>?_
 rw[hn]at hS;refine⟨.ref s.heap.objs.size,_,I.laid  (λb o e=>hk b o (Qg e) e) (Qo _) (show ZL X.prog X.w _ h' _ (.set _ _)from hS),rfl,q _ _ (I.hok.fresh (Qo _))⟩
def xm:YD X (.builtin "len") (λxs H Q=>∃p S n,xs=[.ref p]/\H p=O (.set S n)/\Q (.int n) H):=by
 intro pins s σ H xs us Q I rx h;obtain⟨p,S,n,rfl,hp,q⟩:=h;obtain⟨u,rfl,ru⟩:=rx.one;cases ru;obtain⟨o,es,ep,t,h1,h2,h3,h4,h5,h6,h7,h8⟩:=(I.hok p _ hp)
 have hsb:scanBound=4096:=rfl;refine call_len_set h1 h2 h3 h7 (by lia) ?_;rw[h8];exact⟨.int n,H,I.tok _,⟨_,rfl⟩,q⟩
noncomputable def Ye:yO->Option yP
 |[]=>O []
 |.int i::r=>(Ye r).map (i :: ·)
 |_=>yL
theorem SV{K}{G}:∀{vs}{ds}{ns},Reps K G vs ds->Ye ds=O ns->vs=ns.map V.int
 |_,_,ns,.nil,e=>by cases e;rfl
 |_,_,ns,.cons (d:=d) r t,e=>by
  cases d with
  |int b=>
   unfold Ye at e;cases z:Ye _ with
   |none=>rw[z]at e;cases e
   |some cs=>rw[z]at e;cases e;rw[r.int_inv,SV t z];rfl
  |_=>cases e
def Tn(ns):Ye (ns.map int)=O ns:=by
 induction ns with
 |nil=>rfl
 |cons b r ih=>rw[QI,Ye,ih];rfl
def X4:yO->yQ
 |[.list ds]=>(match Ye ds with
  |some ns=>if ns.length+1<4096 then O (.int (V5 ns))else yL
  |none=>yL)
 |_=>yL
def ye   (h:X4 xs=O d):∃ds ns,xs=[.list ds]/\Ye ds=O ns/\ns.length+1<4096/\d=.int (V5 ns):=by
 unfold X4 at h;split at h
 .rename_i ds
  cases z:Ye ds with
  |none=>simp_all
  |some ns=>simp_all
 simp_all
def xk:bootBuiltins "set" = O (.type "set"):=by decide +kernel
def vO  (hc:X.calm=yM)(hg:Gl X "len")(hm:X.mg "len" = yL)(ae:Gl X "set")(hm2:X.mg "set" = yL)(ha:PA X [a] (tDs X.K B G0 f))(he:Us [a] X.env=(yN,eval a X.env)::Us [] X.env:=by rfl)
  (ag:Us [.Call (.Name "set" p2) [a] [] p3] X.env=(yN,eval (.Call (.Name "set" p2) [a] [] p3) X.env)::Us [] X.env:=by rfl) :
  PE X (.Call (.Name "len" p4) [.Call (.Name "set" p2) [a] [] p3] [] pos) (tD X.K B G0 (KH X4 f)):=
 Kp (RR xm hg hm boot_len (Yd (Ob (xn hc) ae hm2 xk ha (by decide) (by decide) he yK) Xo ag) (by decide) (by decide) ag yK) λσ H Q q=>tM.one  q λvs H2 G Z x k r a=>by obtain⟨d,e,a⟩:=a.opt;obtain⟨ds,ns,rfl,z,c,rfl⟩:=ye e;obtain⟨v,rfl,q1⟩:=r.one_inv;obtain⟨l,ws,rfl,h1,r1⟩:=q1.lst_inv;have:=SV r1 z;subst this;refine⟨l,ns,rfl,k.gh.seq h1,c,λS p hp=>⟨p,S,V5 ns,rfl,Kz,?_⟩⟩;exact aft.done a k (Ext.hid k.gh hp) (.int _)
end
end DL
namespace L2
open PySem PySem.Spec PyProof.Rows
end L2
namespace DL
open PySem PySem.Spec L2
open PyProof.Rows hiding St
end DL
namespace L2
open PySem PySem.Spec PyProof.Rows
section
variable{prog:Ul}{w:World}{A:Around}{E:Uj->Uk->Prop}{s:Uk}{M:Model}{env:Env}
def Au  {T}{args}{kws}{Q}(hp:args.any (·.1)=yN)(hk:kws.any (·.1.isNone)=yN)
  (h:Ur M A (evalArgs (.type T) yM args kws) (λa s1=>Ur M A (call (.type T) a.pos a.kw) Q E s1) E s):Ur M A (callWith pos (.type T) [] args kws) Q E s:=by
 refine Qb (Jl (Qy h (λa s1 h1=>Qb (Jm ?_)) λ_ _ z=>z));simp only[hp,hk];refine Qb (Qf ?_);exact Qb (Qy h1 (λr s2 hr=>Qb (Jl (wpAny_point (Qf hr)))) λ_ _ z=>z)
def jW(l:Um)(t:Tok)(items:Array Uj)(n:Nat)(dct:yY)(sl) :
  Meets (Builtin.«enumerate.__new__» ⟨[.type "enumerate", .ref l],[("start", .int 1 t)]⟩) (λ_ R s=>s.heap.get? l=O ⟨.type "list", dct,.seq items n,sl⟩ /\
   R (.ok (.ret (.ref (s.heap.push {cls:=.type "list_iterator", data:=.fields #[.ref l,.int 0 0]}).objs.size))) {s with heap:=(s.heap.push {cls:=.type "list_iterator", data:=.fields #[.ref l,.int 0 0]}).push {cls:=.type "enumerate", data:=.fields #[.none,.bool yN,.ref s.heap.objs.size,rawInt 1,.none,.none]}}):=
 .of_wp λprog w A R s h=>by
  obtain⟨hl,h⟩:=h;have hsub:=sub_enumerate;have hL:Heap.IsList _ l items:=⟨_,hl,rfl,n,rfl⟩
  wp_walk using AutoSeq1.wpAny_loadPart' hl
  refine wpAny_stack_any λst=>(Qf ?_);split
  .rename_i c _ _ _ _ _
   cases (c==Value.type "enumerate")<;>(wp_walk using(AutoSeq1.wpAny_loadPart' hl),(JO hL))<;>exact⟨_,rfl,h⟩
  ·(wp_walk using(AutoSeq1.wpAny_loadPart' hl),(JO hL));exact⟨_,rfl,h⟩
def yz{T newId initId:String}{Bn Bi:Builtin}{args:yR}{kw:List (Str×Uj)}{S:PySem.Spec}{Q Q1}(ft:TypeCalled T newId initId)
  (hct:checkTypeCall T ⟨args,kw⟩=pure ()) (hcn:checkBuiltinCall newId ⟨.type T::args,kw⟩=pure ()) (eN:entryFor table newId=O Bn) (eI:entryFor table initId=O Bi)
  (g:Meets (Bn ⟨.type T::args,kw⟩) S) (h:S A.in1 (wants Q1 E) s)
  (hnext:∀obj s1,Q1 obj s1->s1.TypeIs obj T/\argsOk initId ⟨obj::args,kw⟩/\∃Si,Meets (Bi ⟨obj::args,kw⟩) Si/\Si A.in1 (wants (λr s2=>r=.none/\Q obj s2) E) s1) :
  Ur (model prog w) A (call (.type T) args kw) Q E s:=by
 obtain⟨c,tl,hmro⟩:=ft.mro;have hmade:=ft.made;have hsub:=ft.sub;refine wpAny_call (codeAny_of_tree ?_);refine Qf ⟨Code.quiet_builtin _ (by decide +kernel),(codeAny_builtin F.entry_type_call ?_)⟩;have h1:=ft.notType;have h2:=ft.canCreate
 repeat' (any_goals (first|wp_step|assumption))
 refine JH (Ja ft.plain eN (wpAny_of_eq hcn (g prog w A.in1 _ s h))) λr s1 hr=>?_
 match r,hr with
 |.error e,hr=>exact hr
 |.ok (.ret obj),hr=>
  obtain⟨hT,hok,Si,gi,hsi⟩:=hnext _ _ hr;have hli:=ft.init.lookup;have hbi:=ft.init.bind obj
  repeat' (any_goals (first|wp_step|assumption))
  refine JH (Ja ft.init.plain eI (ft.init.check _ _ _ _ _ _ _ _ hT hok (gi prog w A.in1 _ s1 hsi))) λr2 s2 zW=>?_
  match r2,zW with
  |.error e,zW=>exact zW
  |.ok (.ret r),zW=>
   obtain⟨rfl,hq⟩:=zW
   repeat' (any_goals (first|wp_step|assumption))
  |.ok .next,zW=>exact zW.elim
  |.ok .brk,zW=>exact zW.elim
  |.ok .cont,zW=>exact zW.elim
 |.ok .next,hr=>exact hr.elim
 |.ok .brk,hr=>exact hr.elim
 |.ok .cont,hr=>exact hr.elim
def yd   {rest}{kw}(hl:typeLookup (.type T) "__init__" = pure (O (.builtin "object.__init__")))
  (hm:Bind.madeBy (.type T)=pure (O newId)) (hne:(O newId != O "object.__new__")=yM) :
  Meets (Builtin.«object.__init__» ⟨self::rest,kw⟩) (λ_ R s=>s.TypeIs self T/\R (.ok (.ret .none)) s):=by
 refine .of_wp λprog w A R s hs=>?_
 obtain⟨hT,hq⟩:=hs;cases rest with
 |nil=>
  cases kw with
  |nil=>exact Qf ⟨_,rfl,hq⟩
  |cons k kw=>(repeat' (any_goals (first|wp_step|assumption)));exact⟨_,rfl,hq⟩
 |cons a rest=>(repeat' (any_goals (first|wp_step|assumption)));exact⟨_,rfl,hq⟩
def yc(a)(t):checkTypeCall "enumerate" ⟨[a],[("start", .int 1 t)]⟩=pure ():=by kernel_rfl
def vN(a)(t):checkBuiltinCall "enumerate.__new__" ⟨[.type "enumerate", a],[("start", .int 1 t)]⟩=pure ():=by kernel_rfl
def yb(o a)(t):argsOk "object.__init__" ⟨[o,a],[("start", .int 1 t)]⟩:=by kernel_rfl
def vM{l:Um}{items:Array Uj}{t:Tok}{Q}(hL:s.heap.IsList l items)
  (h:∀h',IsEnum h' (s.heap.objs.size+1) s.heap.objs.size 1 .none->h'.IsListIter s.heap.objs.size l 0->(∀b o,s.heap.get? b=O o->h'.get? b=O o)->Q (.ref (s.heap.objs.size+1)) {s with heap:=h'}) :
  Ur (model prog w) A (call (.type "enumerate") [.ref l] [("start", .int 1 t)]) Q E s:=by
 obtain⟨⟨c,dct,dt,sl⟩,hl,hc,n,hd⟩:=hL;subst hc hd;have hz:(s.heap.push {cls:=.type "list_iterator", data:=.fields #[.ref l,.int 0 0]}).objs.size=s.heap.objs.size+1:=Jx ..;have he:IsEnum ((s.heap.push {cls:=.type "list_iterator", data:=.fields #[.ref l,.int 0 0]}).push {cls:=.type "enumerate", data:=.fields #[.none,.bool yN,.ref s.heap.objs.size,rawInt 1,.none,.none]}) (s.heap.objs.size+1) s.heap.objs.size 1 .none:=by rw[←hz];exact Qt _ yK
 refine yz F.called_enumerate (yc _ t) (vN _ t) F.entry_enumerate_new F.entry_object_init (jW l t items n dct sl) (Q1:=λobj s1=>s1.TypeIs obj "enumerate" /\ Q obj s1) ⟨hl,?_⟩ λobj s1 hq=>
  ⟨hq.1,yb obj _ t,_,yd F.called_enumerate.init.lookup F.called_enumerate.made (by decide),hq.1,rfl,hq.2⟩
 rw[hz];exact⟨⟨_,he,rfl⟩,h _ he ⟨_,Qe _ (Qt _ yK),rfl,rfl⟩ λb o x=>Qe _ (Qe _ x)⟩
end
section
variable{prog:Ul}{w:World}{A:Around}{E:Uj->Uk->Prop}{s:Uk}
def xj{en it l:Um}{i:Nat}{j:Int}{items:Array Uj}{x old:Uj}{Q:yT->Uk->Prop}(st:IsEnum s.heap en it j old)(li:s.heap.IsListIter it l i)(ls:s.heap.IsList l items)
  (at_:items[i]?=O x) (ne:en≠it)
  (k:∀h',IsEnumOut h' en it (j+1) x s.heap.objs.size->h'.IsListIter it l (i+1)->h'.get? s.heap.objs.size=O {cls:=.type "tuple", data:=.seq #[.int j s.toks,x]}->(∀b o,b≠en->b≠it->s.heap.get? b=O o->h'.get? b=O o) ->
   Q (O (.ref s.heap.objs.size)) {s with heap:=h',toks:=s.toks+1}):Ur (model prog w) A (pyNext (.ref en)) Q E s:=by
 have ty:s.TypeIs (.ref en) "enumerate" :=⟨_,st,rfl⟩
 have lt:en<s.heap.objs.size:=Qg st;unfold pyNext;refine Qb (wpAny_attempt (wpAny_callSpecial?_slot (name:=UE "__next__") ty F.slot_enumerate_next (JA F.slot_enumerate_next ty F.entry_enumerate_next ?_ (F.args_enumerate_next_1 _))));show Ur _ _ (field (.ref en) 2 >>= _) _ _ s;refine Qb (Q5 st yK (x:=.ref it) yK ?_);refine Qb (wpAny_nextOf_list_item li ls at_ λm1 li1 c1=>?_);have c1:Heap.SameBut it s.heap m1:=c1;have st1:IsEnum m1 en it j old:=(c1.2 en ne).trans st;show Ur _ _ (field (.ref en) 3 >>= _) _ _ {s with heap:=m1};refine Qb (Q5 st1 yK (x:=rawInt j) yK ?_);show Ur _ _ (field (.ref en) 4 >>= _) _ _ {s with heap:=m1};refine Qb (Q5 st1 yK (x:=.none) yK ?_);show Ur _ _ (mkInt j >>= _) _ _ {s with heap:=m1};refine Qb (wpAny_mkInt ?_);refine wpAny_bind (wpAny_setField_rec st1 (by simp) λm2 st2 c2=>?_);have c2:Heap.SameBut en m1 m2:=c2;have st2:IsEnum m2 en it (j+1) old:=st2;show Ur _ _ (setField (.ref en) 4 .none >>= _) _ _ {s with heap:=m2,toks:=s.toks+1};refine wpAny_bind (wpAny_setField_rec st2 (by simp) λm3 st3 c3=>?_);have c3:Heap.SameBut en m2 m3:=c3;have st3:IsEnum m3 en it (j+1) old:=st3;refine Qb (wpAny_newTuple ?_);have z3:m3.objs.size=s.heap.objs.size:=c3.1.trans (c2.1.trans c1.1);have st4:IsEnum (m3.push {cls:=.type "tuple", data:=.seq #[.int j s.toks,x]}) en it (j+1) old:=Qe _ (show IsEnum m3 en it (j+1) old from st3);have tp4:(m3.push {cls:=.type "tuple", data:=.seq #[.int j s.toks,x]}).get? s.heap.objs.size=O {cls:=.type "tuple", data:=.seq #[.int j s.toks,x]}:=by rw[←z3];exact Qt _ yK
 have kp4:∀b o,b≠en->b≠it->s.heap.get? b=O o->(m3.push {cls:=.type "tuple", data:=.seq #[.int j s.toks,x]}).get? b=O o:=λb o n1 n2 q=>Qe _ ((c3.2 b n1).trans ((c2.2 b n1).trans ((c1.2 b n2).trans q)))
 have li4:(m3.push {cls:=.type "tuple", data:=.seq #[.int j s.toks,x]}).IsListIter it l (i+1):=by obtain⟨o,q,r⟩:=li1;exact⟨o,Qe _ ((c3.2 it (Ne.symm ne)).trans ((c2.2 it (Ne.symm ne)).trans q)),r⟩
 generalize m3.push {cls:=.type "tuple", data:=.seq #[.int j s.toks,x]}=m4 at st4 tp4 kp4 li4;rw[z3];refine Qb ?_;unfold Builtin.SmallTypes.ownedTupleIsFree Builtin.SmallTypes.ownedTupleHandOut;refine Qb (Q5 st4 yK (x:=.none) yK (Qf ?_));simp only[if_true];refine wpAny_bind (wpAny_rule (wpAny_bind (wpAny_field st4 yK (x:=old) yK (wpAny_bind (wpAny_setField_rec st4 (by simp) λm5 zZ c5=>?_)))));have c5:Heap.SameBut en m4 m5:=c5;have zZ:IsEnum m5 en it (j+1) x:=zZ;refine wpAny_bind (wpAny_bind (wpAny_setField_rec zZ (by simp) λm6 st6 c6=>?_));have c6:Heap.SameBut en m5 m6:=c6;have st6:IsEnumOut m6 en it (j+1) x s.heap.objs.size:=st6;refine wpAny_setField_rec st6 (by simp) λm7 st7 c7=>?_
 have c7:Heap.SameBut en m6 m7:=c7;have st7:IsEnumOut m7 en it (j+1) x s.heap.objs.size:=st7;have up:∀b,b≠en->m7.get? b=m4.get? b:=λb n=>(c7.2 b n).trans ((c6.2 b n).trans (c5.2 b n));refine Qb (wpAny_letGo (Qf ⟨_,rfl,Qf (k m7 st7 ?_ ((up _ (Ju lt)).trans tp4) λb o n1 n2 q=>(up b n1).trans (kp4 b o n1 n2 q))⟩))
 obtain⟨o,q,r⟩:=li4;exact⟨o,(up it (Ne.symm ne)).trans q,r⟩
def xi  {i:Nat}{j:Int}{items:Array Uj}{old:Uj}{Q}(hh:A.handled=yL)(st:IsEnum s.heap en it j old)(li:s.heap.IsListIter it l i)(ls:s.heap.IsList l items)
  (at_:items[i]?=yL) (k:∀h',Heap.ExtBut it s.heap h'->Q yL {s with heap:=h'}):Ur (model prog w) A (pyNext (.ref en)) Q E s:=by
 have ty:s.TypeIs (.ref en) "enumerate" :=⟨_,st,rfl⟩
 refine Qb (wpAny_attempt (wpAny_callSpecial?_slot  ty F.slot_enumerate_next (JA F.slot_enumerate_next ty F.entry_enumerate_next ?_ (F.args_enumerate_next_1 _))));show Ur _ _ (field (.ref en) 2 >>= _) _ _ s;refine Qb (Q5 st yK  rfl (Qb  (wpAny_nextOf_list_end hh li ls at_ λh' z c y=>?_)));obtain⟨o,q,t⟩:=y;exact Qb (wpAny_isInstance  (b:=yM) ⟨o,q,t⟩ isSubtype_stop (Qf (k _ c)))
end
def Sd(K:Frag)(a:Um):It:=
 ⟨λi H=>∃xs x,SqL K H a xs/\xs[i]?=O x,
  λi H v H'=>∃p x,H p=yL/\v=.ref p/\(∀xs,SqL K H a xs->xs[i]?=O x)/\H'=upd H p (.tup [.int (1+(i:Int)),x]),
  λi H=>∃xs,SqL K H a xs/\xs.length<=i⟩
def vL{P:Ul}{w:World}{K:Frag}{elts:yS}{x1}{tp:Pos}(a e it:Um)(hne:e≠it) :
  Turn P w K (.Tuple elts x1 tp) (Sd K a) [e,it] e (λi h=>(∃old,IsEnum h e it (1+(i:Int)) old)/\h.IsListIter it a i) where
 mem:=by simp
 obj:=λi h st b hb=>by
  obtain⟨⟨old,he⟩,o,ho,c,d⟩:=st;have hb':b=e∨b=it:=by simpa using hb
  rcases hb' with rfl|rfl
  .exact⟨_,he,λv z=>by have z'   :=z;cases z'⟩
  .exact⟨o,ho,λv z=>by rw[d]at z;cases z⟩
 keep:=λi h h' st k=>by obtain⟨⟨old,he⟩,hi⟩:=st;exact⟨⟨old,k e (by simp) _ he⟩,hi.at λo q=>k it (by simp) o q⟩
 item:=by
  intro X hP hw hK hc i pins s σ H E I hf st hg;subst hP hw hK;obtain⟨⟨old,he⟩,hi⟩:=st;obtain⟨xs,x,hq,hx⟩:=hg;obtain⟨its,rv,p,hz⟩:=I.list hq;obtain⟨u,hu,ru⟩:=rv.get hx;refine xj he hi p.isList (x:=u) (by simpa using hu) hne λh1 out hi1 ht kk=>?_
  refine⟨_,rfl,wpAny_letOwnedTupleGo_enum out λh2 ag hs2=>?_⟩;have hel:e<s.heap.objs.size:=Qg he;have zL:Heap.SameBut e h1 h2:=hs2;have ht2   :=(zL.2 _ (Ju hel)).trans ht
  have kk2:∀b o,b∉[e,it]->s.heap.get? b=O o->h2.get? b=O o:=λb o hb q=>by
   have zT:b≠e:=λz=>hb (by simp[z])
   have hbi:b≠it:=λz=>hb (by simp[z])
   exact(zL.2 b zT).trans (kk b o zT hbi q)
  have hn:H s.heap.objs.size=yL:=I.hok.fresh (Qo _)
  have I2:Inv X pins σ (upd H s.heap.objs.size (.tup [.int (1+(i:Int)),x])) {s with heap:=h2,toks:=s.toks+1}:=
   I.turnedNew (fp:=[e,it]) hf kk2 (Qo _) ⟨by show 2<=Uq;decide,[.int (1+(i:Int)) s.toks,u],.cons ⟨_,rfl⟩ (.cons ru .nil),⟨_,ht2,rfl,_,rfl⟩⟩
  refine⟨.ref s.heap.objs.size,_,I2,rfl,⟨_,x,hn,rfl,λys hy=>by rw[I.list_inj hy hq];exact hx,rfl⟩,⟨⟨u,?_⟩,?_⟩,λb hb=>?_⟩
  .have e2:(1+((i+1:Nat):Int))=1+(i:Int)+1:=by lia
   rw[e2];exact ag
  .exact hi1.at λo q=>(zL.2 it (Ne.symm hne)).trans q
  .have hlt:b<s.heap.objs.size:=by
    have hb':b=e∨b=it:=by simpa using hb
    rcases hb' with rfl|rfl
    .exact hel
    .obtain⟨o,ho,_⟩:=hi;exact Qg ho
   rw[Km (QJ hlt)];exact(hf b hb).1
 done:=by intro X hP hw hK hc i pins s σ H E I hf st hg;subst hP hw hK;obtain⟨⟨old,he⟩,hi⟩:=st;obtain⟨xs,hq,hx⟩:=hg;obtain⟨its,rv,p,hz⟩:=I.list hq;have hl:=rv.length;exact xi (I.ok.hd hc) he hi p.isList (by simp;lia) λh' eb=>⟨rfl,I.turnedL (t':=s.toks) hf λb o hb q=>eb b o (λz=>hb (by simp[z])) q⟩
 self:=λ_ _ _ _ _ st h=>by obtain⟨⟨old,he⟩,_⟩:=st;exact wpAny_pyIter_enum he h
section
variable{X:Cx}
def jV{a:Up}{ta:TA}{p pos k1 k2:Pos}{j}{elts}{x1}{tp:Pos}(hg:Gl X "enumerate")(hm:X.mg "enumerate" = yL)(ha:PA X [a] ta)
  (hs:backTo pos (Us [a] X.env)=(yN,eval a X.env)::backTo pos (Us [] X.env):=by rfl) (hpl:(backTo pos (Us [a] X.env)).any (·.1)=yN:=by rfl) :
  PI X (.Tuple elts x1 tp) (.Call (.Name "enumerate" p) [a] [⟨O "start", .Constant (.int 1) j k1,k2⟩] pos) (λσ H R=>ta σ H λvs H1=>∃a xs,vs=[.ref a]/\SqL X.K H1 a xs/\R (Sd X.K a) H1):=by
 intro pins s σ H R I h;refine Jr (WS I hg hm boot_enumerate (Au hpl yK ?_));rw[hs];refine evalArgs_kwB yK ?_;rw[←hs];refine thn (ha pos pins s σ H _ I h) λus s1 ⟨vs,H1,I1,r1,q1⟩=>?_;refine kws_cons (wpAny_Constant_int (kws_nil ?_))
 obtain⟨l,xs,e,hq,q⟩:=q1;subst e;cases r1 with
 |cons r rr=>
  cases rr;cases (r);have I1':=I1.tok (s1.toks+1);obtain⟨its,rv,pl,hz⟩:=I1'.list hq;refine vM pl.isList λh' he hi kk=>?_;have I2   :=I1'.kept (t':=s1.toks+1) kk;refine wpAny_pyIter_enum he ?_
  refine⟨s1.heap.objs.size+1,[s1.heap.objs.size+1,s1.heap.objs.size],_,_,H1,rfl,I2,vL l _ _ (Nat.succ_ne_self _),⟨⟨_,he⟩,hi⟩,λb hb=>?_,q⟩;have hb'   :=by simpa using hb
  rcases hb' with rfl|rfl
  .exact I1.fpOk (JM _) (I1.hok.fresh (JM _))
  .exact I1.fpOk (Qo _) (I1.hok.fresh (Qo _))
end
end L2
namespace DL
open PySem PySem.Spec L2
open PyProof.Rows hiding St
section
variable{X:Cx}{B G0:Hp}{e a b c tg:Up}{pos:Pos}{es rest:yS}
def ya{K}{G1}{ad}{vs}{ds}(h:SqL K G1 ad vs)(r:Reps K G1 vs ds):Xq K (Sd K ad) (Ym 1 ds) G1 where
 go:=λi G H s1 s2 hi=>by
  rw[WY]at hi;have hi':i<vs.length:=by rw[r.length];exact hi
  exact⟨vs,vs[i],(s1.trans s2).seq h,Qi hi'⟩
 stop:=λi G H s1 s2 hi=>by rw[WY]at hi;exact⟨vs,(s1.trans s2).seq h,by rw[r.length];exact hi⟩
 yld:=λi G H x H' d s1 s2 e y=>by
  obtain⟨p,v,hp,rfl,y1,rfl⟩:=y;have z1:=y1 vs ((s1.trans s2).seq h);rw[Nr]at e;cases q:ds[i]? with
  |none=>rw[q]at e;cases e
  |some dd=>rw[q]at e;cases e;obtain⟨v',e1,r1⟩:=r.get q;rw[z1]at e1;cases e1;refine⟨upd G p _,Ext.new s2 hp,.tup (SqT.of Kz) (.cons ?_ (.cons ((r1.mono s1).mono (Zj (s2.free hp))) .nil))⟩;exact .int _
def Sy:yO->Option yO
 |[.list ds]=>O (Ym 1 ds)
 |_=>yL
def Oy(f:M yO):M yO:=U3 f λx=>U7 (Sy x)
def vK  (h:Sy x=O l):∃ds,x=[.list ds]/\l=Ym 1 ds:=by
 unfold Sy at h;split at h
 .simp_all
 simp_all
def jU  {p2 k1 k2}{j}{elts}{x1}{tp}(hg:Gl X "enumerate")(hm:X.mg "enumerate" = yL)(ha:PA X [a] (tDs X.K B G0 f))
  (hs:backTo pos (Us [a] X.env)=(yN,eval a X.env)::backTo pos (Us [] X.env):=by rfl) (hpl:(backTo pos (Us [a] X.env)).any (·.1)=yN:=by rfl) :
  PI X (.Tuple elts x1 tp) (.Call (.Name "enumerate" p2) [a] [⟨O "start", .Constant (.int 1) j k1,k2⟩] pos) (iD X.K B G0 (Oy f)):=Xa (jV hg hm ha hs hpl) λσ H R q=>tM.toI  q λv H' G' Z' x k r a=>by
 cases z:Sy x with
 |none=>rw[z]at a;exact a.elim
 |some l=>obtain⟨ds,rfl,rfl⟩:=vK z;obtain⟨v,rfl,q⟩:=r.one_inv;obtain⟨l,ws,rfl,h1,r1⟩:=q.lst_inv;exact⟨l,ws,rfl,k.gh.seq h1,a _ G' H' k (.refl _) (ya h1 r1)⟩
end
section
variable{X:Cx}
noncomputable def most:yP->Int
 |[]=>0
 |[n]=>n
 |n::r=>if most r > n then most r else n
theorem PZ:∀{ns},0<ns.length->most ns∈ns
 |[n],_=>List.mem_singleton.2 yK
 |n::m::r,_=>by
  have ih:=PZ (ns:=m::r) (Nat.succ_pos _);unfold most;split
  .exact Qm _ ih
  .exact Qn ..
theorem Px:∀{ns}{a},a∈ns->a<=most ns
 |[n],a,h=>by rw[List.mem_singleton.1 h];exact JW _
 |n::m::r,a,h=>by
  have ih:∀b,b∈m::r->b<=most _:=λb hb=>Px hb;unfold most;rcases Qs.1 h with e|h
  .subst e;split<;>lia
  .have:=ih a h;split<;>lia
def At  {M}(h1:M∈ns)(h2:∀a,a∈ns->a<=M):most ns=M:=
 Ub (h2 _ (PZ (List.length_pos_of_mem h1))) (Px h1)
def xg(hc:X.calm=yM):YD X (.builtin "max") (λxs H Q=>∃l,∃ns:yP,xs=[.ref l]/\SqL X.K H l (ns.map V.int)/\0<ns.length/\Q (.int (most ns)) H):=by
 intro pins s σ H xs us Q I rx h;obtain⟨l,ns,rfl,hq,hb,q⟩:=h;obtain⟨u,rfl,ru⟩:=rx.one;cases ru;obtain⟨its,rv,p,hz⟩:=I.list hq;have hi:=W0 rv;obtain⟨ys,e⟩:=hi.allInts.items;have hns:ns=ys.toList.map (·.1):=by rw[←hi.numsOf,←nums_intItems,←e]
 have hsz:0<ys.size:=by simp_all
 have hl:=p.isList;rw[e]at hl;refine max_intList (I.ok.hd hc) hl hsz λv h' tk hv hk=>?_
 obtain⟨t,rfl⟩:=intItems_at hv;obtain⟨h1,h2⟩:=argBest_gt (numAt ys) (ys.size-1);refine⟨.int _,H,I.kept hk,⟨t,?_⟩,q⟩;rw[At  ?_ ?_]
 .rw[hns,numAt_eq];exact getD_mem (by rw[Qd,J9];omega)
 .intro a ha
  rw[hns]at ha;obtain⟨j,hj,rfl⟩:=mem_getD ha;rw[Qd,J9]at hj;rw[←numAt_eq];exact h2 j (by omega)
def WH:yO->yQ
 |[.list ds]=>(match Ye ds with
  |some ns=>if 0<ns.length then O (.int (most ns))else yL
  |none=>yL)
 |_=>yL
def xf   (h:WH xs=O d):∃ds ns,xs=[.list ds]/\Ye ds=O ns/\0<ns.length/\d=.int (most ns):=by
 unfold WH at h;split at h
 .rename_i ds
  cases z:Ye ds with
  |none=>simp_all
  |some ns=>simp_all
 simp_all
def CQ(hc:X.calm=yM):YK X (.builtin "max") WH:=by refine⟨_,xg hc,λvs G H ds d Q s r e k=>?_⟩;obtain⟨ds,ns,rfl,z,c,rfl⟩:=xf e;obtain⟨v,rfl,q1⟩:=r.one_inv;obtain⟨l,ws,rfl,h1,r1⟩:=q1.lst_inv;have:=SV r1 z;subst this;exact⟨l,ns,rfl,s.seq h1,c,k _ G H (.refl s) (.int _)⟩
def Nf  (h:0<ns.length):WH [.list (ns.map .int)]=O (.int (most ns)):=by unfold WH;simp only[Tn,Qp h]
end
section
variable{prog:Ul}{w:World}{A:Around}{R:Result->Uk->Prop}{h0:Heap}{l I S:Um}{rs:List (Um×yR)}
def XA(h h':Heap):Prop:=∀b o,h.get? b=O o->h'.get? b=O o
def Ls1(h:Heap)(a:Um)(its:yR)(sl:Array yT):Prop:=∃n,h.get? a=O {cls:=.type "list", dict:=yL,data:=.seq its.toArray n,slots:=sl}
def Ls(h:Heap)(a:Um)(its:yR):Prop:=∃n sl,h.get? a=O {cls:=.type "list", dict:=yL,data:=.seq its.toArray n,slots:=sl}
def Ls.kept  {a}{its}(x:Ls h a its)(k:XA h h'):Ls h' a its:=by obtain⟨n,sl,e⟩:=x;exact⟨n,sl,k _ _ e⟩
def vJ(hh:A.in1.handled=yL)(hI:h0.objs.size<=I)(hS:h0.objs.size<=S)(hIS:S≠I)(hl:h0.IsList l (rs.map λp=>Value.ref p.1).toArray)(hr:∀p∈rs,Ls h0 p.1 p.2) :
  ∀(k i:Nat)(s:Uk)(t:Um)(acc:yR)(c:Nat)(sl:Array yT),rs.length-i=k->i<=rs.length->XA h0 s.heap->s.heap.IsListIter I l i ->
   s.heap.get? S=O {cls:=.type "list", dict:=yL,data:=.seq #[.ref t] c,slots:=#[]}->t≠S->t≠I->Ls1 s.heap t acc sl->acc.length+((rs.drop i).map (·.2)).flatten.length<=Uq ->
   (∀p h' tk zR,XA h0 h'->Ls1 h' p (acc++((rs.drop i).map (·.2)).flatten) zR->(p=t/\i=rs.length/\zR=sl∨h0.objs.size<=p/\zR=#[])->R (.ok (.ret (.ref p))) {s with heap:=h',toks:=tk}) ->
   codeAny (model prog w) A (.builtin "sum.loop" ⟨[.ref I,.ref S,rawInt 2,rawInt 0],[]⟩) R s:=by
 intro k;induction k with
 |zero=>
  intro i s t acc c sl hk hi hK hit hSS htS htI ht hz hR;have hin:i=rs.length:=by lia
  subst hin;refine codeAny_builtin F.entry_sum_loop ?_;rw[Around.under_plainId F.plain_sum_loop _];show Ur _ A.in1 (seqItems? (.ref S) >>= _) _ _ s;refine Qb (wpAny_seqItems hSS yK ?_);show Ur _ A.in1 (tryCatch (pyNext (.ref I)) _ >>= _) _ _ s;have hl':s.heap.IsList l (rs.map λp=>Value.ref p.1).toArray:=by obtain⟨o,e,r⟩:=hl;exact⟨o,hK _ _ e,r⟩
  refine wpAny_bind (wpAny_tryCatch (wpAny_pyNext_list_end hh hit hl' (by simp) λh' ex=>?_));refine Qf (hR t h' s.toks sl (λb o e=>?_) ?_ (.inl ⟨rfl,rfl,rfl⟩))
  .exact ex b o (QJ (QA (Qg e) hI)) (hK b o e)
  .obtain⟨n,e⟩:=ht
   rw[List.drop_length,List.map_nil,List.flatten_nil,Q3];exact⟨n,ex _ _ htI e⟩
 |succ k ih=>
  intro i s t acc c sl hk hi hK hit hSS htS htI ht hz hR;have hlt:i<rs.length:=by lia
  refine codeAny_builtin F.entry_sum_loop ?_;rw[Around.under_plainId F.plain_sum_loop _];show Ur _ A.in1 (seqItems? (.ref S) >>= _) _ _ s;refine Qb (wpAny_seqItems hSS yK ?_);show Ur _ A.in1 (tryCatch (pyNext (.ref I)) _ >>= _) _ _ s;have hl':s.heap.IsList l (rs.map λp=>Value.ref p.1).toArray:=by obtain⟨o,e,r⟩:=hl;exact⟨o,hK _ _ e,r⟩
  refine wpAny_bind (wpAny_tryCatch (wpAny_pyNext_list_item (x:=.ref (rs[i]'hlt).1) hit hl' (by simp[hlt]) λh' ac sb=>?_));refine Qb (wpAny_attempt (Jl ?_));have hm:rs[i]'hlt∈rs:=JY hlt;have hd:rs.drop i=rs[i]'hlt::rs.drop (i+1):=JV hlt;have hK':XA h0 h':=λb o e=>(sb.2 b (QJ (QA (Qg e) hI))).trans (hK b o e)
  obtain⟨n1,e1⟩:=ht;have e1':=(sb.2 t htI).trans e1;obtain⟨n2,s2,e2⟩:=(hr _ hm).kept hK';have bx:=(sb.2 S hIS).trans hSS;rw[hd,QI,Je,Qj]at hz;refine concat_meets ⟨_,e1',rfl⟩ ⟨_,e2,rfl⟩ noFill_list_add seq_list_add PySem.F.slot_list_add PySem.F.entry_list_add (PySem.F.args_list_add_2 _ _) (list_addW t _ acc.toArray _ n1 n2 yL yL sl s2 (by rw[Q4,Q4];lia)) ⟨e1',e2,?_⟩;have hlS:S<h'.objs.size:=Qg bx;have hlI:I<h'.objs.size:=by obtain⟨o,e,_⟩:=ac;exact Qg e
  have ea:acc.toArray++(rs[i]'hlt).2.toArray=(acc++(rs[i]'hlt).2).toArray:=by simp
  rw[ea];have hP:∀b o,h'.get? b=O o->(h'.push {cls:=Value.type "list", data:=Data.seq (acc++(rs[i]'hlt).2).toArray}).get? b=O o:=λb o e=>Qe _ e
  have hS1:=hP _ _ bx;have hNew:(h'.push {cls:=Value.type "list", data:=Data.seq (acc++(rs[i]'hlt).2).toArray}).get? h'.objs.size=O {cls:=Value.type "list", data:=Data.seq (acc++(rs[i]'hlt).2).toArray}:=Qt _ yK;show Ur _ A.in1 (updateSeq S (λ_=>#[.ref h'.objs.size]) >>= _) _ _ _;refine Qb (wpAny_updateSeq hS1 yK ?_);have hS2:=Q7 (Obj.mapSeq λ_=>#[Value.ref h'.objs.size]) hS1 yK;refine Qb (wpAny_letGo ?_);refine Qb (wpAny_updateSeq hS2 yK (Qf ⟨plainId_quiet F.plain_sum_loop _,?_⟩));have oth:∀b o,b≠S->(h'.push {cls:=Value.type "list", data:=Data.seq (acc++(rs[i]'hlt).2).toArray}).get? b=O o->(((h'.push {cls:=Value.type "list", data:=Data.seq (acc++(rs[i]'hlt).2).toArray}).update S (Obj.mapSeq λx=>#[Value.ref h'.objs.size])).update S (Obj.mapSeq λx=>#[Value.ref h'.objs.size])).get? b=O o:=λb o hb e=>(QP _ _ (Ne.symm hb)).trans ((QP _ _ (Ne.symm hb)).trans e)
  refine ih (i+1) _ h'.objs.size (acc++(rs[i]'hlt).2) _ #[] (by lia) hlt ?_ ?_ (Q7 _ hS2 yK) (Ju hlS) (Ju hlI) ?_ (by rw[Qj];lia) λp h'' tk zR hk'' hp hq=>?_
  .exact λb o e=>oth b o (QJ (QA (Qg e) hS)) (hP b o (hK' b o e))
  .obtain⟨o,e,r⟩:=ac
   exact⟨o,oth I o (Ne.symm hIS) (hP I o e),r⟩
  .exact⟨_,oth _ _ (Ju hlS) hNew⟩
  .refine hR p h'' tk zR hk'' ?_ (.inr ?_)
   .rw[hd,QI,Je,←QS];exact hp
   .rcases hq with ⟨rfl, -,e⟩|hq
    .exact⟨Ue (Nat.lt_of_le_of_lt hS hlS),e⟩
    .exact hq
end
section
variable{prog:Ul}{w:World}{A:Around}{E:Uj->Uk->Prop}{s:Uk}{l z:Um}{rs:List (Um×yR)}
def xb(a b:Uj):argsOk "sum" ⟨[a,b],[]⟩:=by unfold argsOk;kernel_rfl
def vI{Q:Uj->Uk->Prop}(hh:A.handled=yL)(hl:s.heap.IsList l (rs.map λp=>Value.ref p.1).toArray)(hr:∀p∈rs,Ls s.heap p.1 p.2)(hz:Ls s.heap z [])(hb:(rs.map (·.2)).flatten.length<=Uq)
  (h:∀p h' tk zR,XA s.heap h'->Ls1 h' p (rs.map (·.2)).flatten zR->(p=z/\rs=[]∨s.heap.objs.size<=p/\zR=#[])->Q (.ref p) {s with heap:=h',toks:=tk}) :
  Ur (model prog w) A (call (.builtin "sum") [.ref l,.ref z]) Q E s:=by
 refine call_function_tree F.kind_sum F.plain_sum F.entry_sum (xb _ _) ?_;unfold Builtin.«sum»;simp only[QD,Qw];rw[QH (by decide)];refine Qb (wpAny_of_eq (rfl) ?_);refine Qb (JO hl ?_);refine Qb (Qf ?_);obtain⟨n,sl,ez⟩:=id hz;have ty:∀h:Heap,h.get? z=O {cls:=.type "list", dict:=yL,data:=.seq [].toArray n,slots:=sl}->({s with heap:=h}:Uk).TypeIs (.ref z) "list" :=λh e=>⟨_,e,rfl⟩
 have ez':(s.heap.push {cls:=.type "list_iterator", data:=.fields #[.ref l,.int 0 0]}).get? z=_:=Qe _ ez;refine Qb (Qb (Qb (wpAny_isInstance (T:= "list") (b:=yN) (ty _ ez') F.sub_list_str ?_)));simp only[JI,J6];refine Qf (Qb (Qb (wpAny_isInstance (T:= "list") (b:=yN) (ty _ ez') F.sub_list_bytes ?_)));simp only[JI,J6];refine Qf (Qb (Qb (wpAny_isInstance (T:= "list") (b:=yN) (ty _ ez') F.sub_list_bytearray ?_)));simp only[JI,J6];refine Qf (Qf ?_);refine Qb (JN ?_);have hzs:=Qg ez;have s1:(s.heap.push {cls:=.type "list_iterator", data:=.fields #[.ref l,.int 0 0]}).objs.size=s.heap.objs.size+1:=Jx ..;have k2:XA s.heap ((s.heap.push {cls:=.type "list_iterator", data:=.fields #[.ref l,.int 0 0]}).push {cls:=.type "list", data:=.seq #[.ref z]}):=λb o e=>Qe _ (Qe _ e)
 refine Qf ⟨plainId_quiet F.plain_sum_loop _,vJ (h0:=s.heap) (l:=l) (I:=s.heap.objs.size)  (rs:=rs) hh (Qo _) (by rw[s1];exact JM _) (by rw[s1];exact Nat.succ_ne_self _) hl hr rs.length 0 _ z [] 0 sl yK (J4 _)
  k2 ⟨_,Heap.get?_push_of_some _ (Heap.get?_push_size _ yK),rfl,rfl⟩ (Heap.get?_push_size _ yK) (by rw[s1];exact Nat.ne_of_lt (Nat.lt_succ_of_lt hzs)) (Nat.ne_of_lt hzs) ⟨n,k2 _ _ ez⟩ (by simpa using hb) λp h' tk zR hk hp hq=>?_⟩
 exact h p h' tk zR hk (by simpa using hp) (hq.imp (λe=>⟨e.1,List.eq_nil_of_length_eq_zero e.2.1.symm⟩) id)
end
section
variable{X:Cx}{pins:List (Um×Obj)}{σ:St}{H:Hp}{s:Uk}
theorem Lw(I:Inv X pins σ H s):∀{rs:List (Um×List V)},(∀p∈rs,SqL X.K H p.1 p.2) ->
  ∃ts:List (Um×yR),(ts.map λp=>Value.ref p.1)=(rs.map λp=>Value.ref p.1)/\(∀p∈ts,Ls s.heap p.1 p.2)/\Vals (rs.map (·.2)).flatten (ts.map (·.2)).flatten
 |[],_=>⟨[],rfl,(λ_ h=>by cases h),(Paired.nil)⟩
 |p::rs,h=>by
  obtain⟨ts,e,hl,hv⟩:=Lw I λq hq=>h q (Qm _ hq)
  obtain⟨its,rv,⟨⟨c1,d1,t1,sl⟩,n,e1,ec,ed,et⟩,z⟩:=I.list (h p (Qn ..));simp only at ec ed et;subst ec ed et;refine⟨(p.1,its)::ts,by simp_all,λq hq=>?_,?_⟩
  .rcases Qs.1 hq with rfl|hq
   .exact⟨n,sl,e1⟩
   .exact hl q hq
  .exact rv.append hv
theorem Gj:∀{as:yU}{us},Vals (as.map V.ref) us->us=as.map Value.ref
 |[],_,.nil=>rfl
 |a::as,_,.cons h t=>by cases h;rw[Gj t];rfl
def xa(hc:X.calm=yM):YD X (.builtin "sum") (λxs H Q=>∃l z,∃rs:List (Um×List V),xs=[.ref l,.ref z]/\SqL X.K H l (rs.map λp=>V.ref p.1)/\(∀p∈rs,SqL X.K H p.1 p.2)/\SqL X.K H z []/\(rs.map (·.2)).flatten.length<=Uq /\
  (rs=[]->Q (.ref z) H)/\∀p,H p=yL->Q (.ref p) (upd H p (.lst (rs.map (·.2)).flatten))):=by
 intro pins s σ H xs us Q I rx h;obtain⟨l,z,rs,rfl,hq,hr,hz,hb,q0,q⟩:=h;obtain⟨u,u',rfl,ru,ru'⟩:=Op rx;cases ru;cases ru';obtain⟨its,rv,pl, -⟩:=I.list hq;obtain⟨ts,e,hl,hv⟩:=Lw I hr;have ei:its=ts.map λp=>Value.ref p.1:=by rw[e];have:=Gj   (by rw[Q0];exact rv);rw[this,Q0];rfl
 subst ei;obtain⟨zi,rz,⟨⟨c1,d1,t1,sl⟩,n,e1,ec,ed,et⟩, -⟩:=I.list hz;cases rz;simp only at ec ed et;subst ec ed et;have hlen:=hv.length;refine vI (I.ok.hd hc) pl.isList hl ⟨n,sl,e1⟩ (by lia) λp h' tk zR hk hp hq=>?_
 rcases hq with ⟨rfl,rfl⟩|⟨aQ,rfl⟩
 .have hr0:rs=[]:=by
   simp_all
  exact⟨.ref _,H,I.kept hk,rfl,q0 hr0⟩
 .obtain⟨m,ep⟩:=hp
  exact⟨.ref p,_,I.laid  hk aQ (show ZL X.prog X.w _ h' _ (.lst _)from⟨hb,_,m,hv,ep⟩),rfl,q p (I.hok.fresh aQ)⟩
noncomputable def WR:yO->Option (List yO)
 |[]=>O []
 |.list xs::r=>(WR r).map (xs :: ·)
 |_=>yL
theorem GX{K}{G}:∀{vs}{ds}{ls},Reps K G vs ds->WR ds=O ls ->
  ∃rs:List (Um×List V),vs=(rs.map λp=>V.ref p.1)/\(∀p∈rs,SqL K G p.1 p.2)/\Reps K G (rs.map (·.2)).flatten ls.flatten/\rs.length=ls.length
 |_,_,ls,.nil,e=>by cases e;exact⟨[],rfl,(λ_ h=>by cases h),.nil,rfl⟩
 |_,_,ls,.cons (d:=d) r t,e=>by
  cases d with
  |list xs=>
   unfold WR at e;cases z:WR _ with
   |none=>rw[z]at e;cases e
   |some cs=>
    rw[z]at e;cases e;obtain⟨rs,rfl,h1,h2,h3⟩:=GX t z;obtain⟨a,ws,rfl,h,rr⟩:=r.lst_inv;refine⟨(a,ws)::rs,rfl,λp hp=>?_,?_,Uh _ h3⟩
    .rcases Qs.1 hp with rfl|hp
     .exact h
     .exact h1 p hp
    .exact rr.append h2
  |_=>cases e
def wE(ls):WR (ls.map Uw)=O ls:=by
 induction ls with
 |nil=>rfl
 |cons b r ih=>rw[QI,WR,ih];rfl
def Su:yO->yQ
 |[.list ds,.list []]=>(match WR ds with
  |some ls=>if ls.flatten.length<=1000000 then O (.list ls.flatten)else yL
  |none=>yL)
 |_=>yL
def kZ   (h:Su xs=O d):∃ds ls,xs=[.list ds,.list []]/\WR ds=O ls/\ls.flatten.length<=1000000/\d=.list ls.flatten:=by
 unfold Su at h;split at h
 .rename_i ds
  cases z:WR ds with
  |none=>simp_all
  |some ls=>simp_all
 simp_all
def CP(hc:X.calm=yM):YK X (.builtin "sum") Su:=by
 refine⟨_,xa hc,λvs G H ds d Q s r e k=>?_⟩;obtain⟨ds,ls,rfl,z,c,rfl⟩:=kZ e;obtain⟨v,v',rfl,q1,q2⟩:=r.two_inv;obtain⟨l,ws,rfl,h1,r1⟩:=q1.lst_inv;obtain⟨a,ws2,rfl,h2,r2⟩:=q2.lst_inv;have:=r2.nil_inv;subst this;obtain⟨rs,rfl,g1,g2,g3⟩:=GX r1 z;refine⟨l,a,rs,rfl,s.seq h1,λp hp=>s.seq (g1 p hp),s.seq h2,?_,λe0=>?_,λp hp=>?_⟩
 .rw[g2.length];exact QE c lim
 .subst e0
  have   :=List.eq_nil_of_length_eq_zero g3.symm;subst this;exact k _ G H (.refl s) (.lst h2 .nil)
 .exact k _ _ _ (.new s hp) (.lst (SqL.of Kz) (g2.mono (Zj (s.free hp))))
end
section
variable{X:Cx}
noncomputable def Yq(ns:yP):yP:=ns.mergeSort λa b=>decide (a<=b)
def VY(ns:yP):(Yq ns).Perm ns:=List.mergeSort_perm ..
def Gi(ns):(Yq ns).Pairwise (· <= ·):=by have:=List.pairwise_mergeSort (le:=λa b   =>decide (a<=b)) (by intro a b c;simp;lia) (by intro a b;simp;lia) ns;exact this.imp (by simp)
theorem Lv:∀{a b:yP},a.Perm b->a.Pairwise (· <= ·)->b.Pairwise (· <= ·)->a=b
 |[],b,p,_,_=>by simp_all
 |x::a,[],p,_,_=>by simp_all
 |x::a,y::b,p,ha,hb=>by
  have hx:y<=x:=by
   rcases Qs.1 (p.mem_iff.1 (Qn ..))with e|e
   .exact Int.le_of_eq e.symm
   simp_all
  have hy:x<=y:=by
   rcases Qs.1 (p.mem_iff.2 (Qn ..))with e|e
   .exact Int.le_of_eq e.symm
   simp_all
  have e:=Ub hy hx;subst e;rw[Lv (List.Perm.cons_inv p) (JT.1 ha).2 (JT.1 hb).2]
theorem Gh:∀{us}{ns},PyProof.Rows.IntsAre us ns->Vals (ns.map V.int) us
 |_,_,.nil=>Paired.nil
 |_,_,.cons n t h=>Paired.cons ⟨t,rfl⟩ (Gh h)
def wD:YD X (.builtin "sorted") (λxs H Q=>∃l,∃ns:yP,xs=[.ref l]/\SqL X.K H l (ns.map V.int)/\ns.length<64/\∀p,H p=yL->Q (.ref p) (upd H p (.lst ((Yq ns).map V.int)))):=by
 intro pins s σ H xs us Q I rx h;obtain⟨l,ns,rfl,hq,hb,q⟩:=h;obtain⟨u,rfl,ru⟩:=rx.one;cases ru;obtain⟨its,rv,p,hz⟩:=I.list hq;have hi:=W0 rv;have hn:its.length=ns.length:=by have:=rv.length;simp_all
 refine sorted_ints p.isList hi (by lia) λout ns' a1 a2 a3=>?_
 obtain⟨e,he⟩:=sortedAll_at s.heap its out;have en   :=Lv (a2.trans (VY ns).symm) a3 (Gi ns);subst en;refine⟨.ref _,_,I.laid  (λb o=>sortedAll_old) (JM _) (show ZL X.prog X.w _ _ _ (.lst _)from⟨?_,out.toList,e,Gh a1,he⟩),rfl,q _ (I.hok.fresh (JM _))⟩;rw[Qd,(VY ns).length_eq];simp_all
def Sx:yO->yQ
 |[.list ds]=>(match Ye ds with
  |some ns=>if ns.length<64 then O (.list ((Yq ns).map .int))else yL
  |none=>yL)
 |_=>yL
def wC   (h:Sx xs=O d):∃ds ns,xs=[.list ds]/\Ye ds=O ns/\ns.length<64/\d=.list ((Yq ns).map .int):=by
 unfold Sx at h;split at h
 .rename_i ds
  cases z:Ye ds with
  |none=>simp_all
  |some ns=>simp_all
 simp_all
theorem Gg{K}{G}:∀ns:yP,Reps K G (ns.map V.int) (ns.map int)
 |[]=>.nil
 |n::r=>.cons (.int n) (Gg r)
def As:YK X (.builtin "sorted") Sx:=by refine⟨_,wD,λvs G H ds d Q s r e k=>?_⟩;obtain⟨ds,ns,rfl,z,c,rfl⟩:=wC e;obtain⟨v,rfl,q1⟩:=r.one_inv;obtain⟨l,ws,rfl,h1,r1⟩:=q1.lst_inv;have:=SV r1 z;subst this;exact⟨l,ns,rfl,s.seq h1,c,λp hp=>k _ _ _ (.new s hp) (.lst (SqL.of Kz) (Gg _))⟩
def kY  (h:ns.length<64):Sx [.list (ns.map .int)]=O (.list ((Yq ns).map .int)):=by unfold Sx;simp only[Tn,Qp h]
end
@[simp] theorem mBind_ok   {k:α->M β}{Z Z'}{x}(h:f Z=.ok x Z'):U3 f k Z=k x Z':=by unfold U3;rw[h]
theorem Ge   {P:Nat->US->Prop}{R:Out->Prop}:∀(ds)(n:Nat)(Z:US),P n Z ->
  (∀i d Z,ds[i]?=O d->P (n+i) Z->∃Z1,s d Z=O Z1/\((∃Z2,(g Z1=.nx Z2∨g Z1=.ct Z2)/\P (n+i+1) Z2)∨(∃x,g Z1=.rt x/\R (.rt x))∨(∃Z2,g Z1=.bk Z2/\R (.nx Z2))∨(∃Z2 x,g Z1=.ex Z2 x/\R (.ex Z2 x)) ∨ ∃x,g Z1=.ro x/\R (.ro x)))->(∀Z,P (n+ds.length) Z->R (.nx Z))->R (Zm s g ds Z)
 |[],n,Z,h,_,f=>f Z h
 |d::r,n,Z,h,st,f=>by
  obtain⟨Z1,e1,e2⟩:=st 0 d Z yK h;rw[Zm,e1];dsimp only;rcases e2 with ⟨Z2,e2,h2⟩|⟨x,e2,h2⟩|⟨Z2,e2,h2⟩|⟨Z2,x,e2,h2⟩|⟨x,e2,h2⟩
  .have goal:=Ge (R:=R) r (n+1) Z2 h2 (λi d' Z3 q p=>by
    have e:n+1+i=n+(i+1):=by lia
    rw[e]at p⊢;exact st (i+1) d' Z3 (by simpa using q) p) (λZ3 p=>f Z3 (by
    have e:n+1+r.length=n+(d::r).length:=by rw[QD];lia
    rw[e]at p;exact p))
   rcases e2 with e2|e2<;>(rw[e2];exact goal)
  .rw[e2];exact h2
  .rw[e2];exact h2
  .rw[e2];exact h2
  .rw[e2];exact h2
def VX{lo hi}{i:Nat}{d}(h:(Yp lo hi)[i]?=O d):d=.int (lo+i)/\(i:Int)<hi-lo:=by have hl   :=(Ql.mp h).1;rw[X7]at hl;unfold Yp at h;simp_all
section
variable{α β:Type}{Z Z1 Z2 Z3 Z':US}{f g h:M D}
def UR{a:α}:UM a Z=.ok a Z:=rfl
def UT:UK Z=.ok [] Z:=rfl
def ZE{o:Option α}{a:α}(h:o=O a):U7 o Z=.ok a Z:=by subst h;rfl
def KR{f}{k}{x:α}{r:Res β}(h:f Z=.ok x Z1)(h2:k x Z1=r):U3 f k Z=r:=by unfold U3;rw[h];exact h2
def Kx{f}{k:α->β}{x}(h:f Z=.ok x Z1):UY k f Z=.ok (k x) Z1:=by unfold UY U3;rw[h];rfl
def UO{i:Nat}{d:D}(h:Z[i]?=O (O (.pub d))):UJ i Z=.ok d Z:=by unfold UJ;rw[h]
def K2  {ds:yO}(h:Z[i]?=O (O (.own ds)))(h2:Z.set i (O (.pub (.list ds)))=Z'):UJ i Z=.ok (.list ds) Z':=by unfold UJ;simp_all
def UZ  {x y}{r:β}(h1:f Z=.ok x Z1)(h2:g Z1=.ok y Z2)(h3:op x y=O r):UP op f g Z=.ok r Z2:=by exact KR h1 (KR h2 (ZE h3))
def UN{g}{x}{xs}(h1:f Z=.ok x Z1)(h2:g Z1=.ok xs Z2):UL f g Z=.ok (x::xs) Z2:=by exact KR h1 (KR h2 yK)
def ZM{g}{xs:yO}(h1:g Z=.ok xs Z1)(h2:xs.length<=1000000):Ky g Z=.ok (.tuple xs) Z1:=by exact KR h1 (by rw[Qp h2];rfl)
def Kr{g}{xs:yO}(h1:g Z=.ok xs Z1)(h2:xs.length<=1000000):U1 g Z=.ok (.list xs) Z1:=by exact KR h1 (by rw[Qp h2];rfl)
def Yo{g}{xs:yO}(h1:g Z=.ok xs Z1)(h2:xs.length<=1000000):(U3 g λxs=>if xs.length<=1000000 then UM xs else λ_=>.bad) Z=.ok xs Z1:=
 KR h1 (by rw[Qp h2];rfl)
def Kd  {d y r}(h:Z[i]?=O (O (.pub d)))(h1:g Z=.ok y Z1)(h2:oIx d y=O r):UU i g Z=.ok r Z1:=by unfold UU;rw[h];exact KR h1 (ZE h2)
def Wy  {ds es:yO}{y r}(h:Z[i]?=O (O (.own ds)))(h1:g Z=.ok y Z1)(h3:Z1[i]?=O (O (.own es)))(h2:oIx (.list es) y=O r):UU i g Z=.ok r Z1:=by unfold UU;rw[h];exact KR h1 (by rw[h3];exact ZE h2)
def K0  {g}{xs}{r}(h1:g Z=.ok xs Z1)(h2:p xs=O r):KH p g Z=.ok r Z1:=by exact KR h1 (ZE h2)
def Kh   {g}{xs}{r}(h1:g Z=.ok xs Z1)(h2:xs.length=n)(h3:F xs=O r):UV n F g Z=.ok r Z1:=by exact KR h1 (by rw[Qp h2];exact ZE h3)
def VE  (h1:f Z=.ok (.int i) Z1):Yl f Z=.ok (.int (-i)) Z1:=by exact KR h1 yK
def KW   (h:Z[i]?=O (O (.pub d)))(h2:Kb [d]=O r):KB i Z=.ok r Z:=by unfold KB;rw[h];exact ZE h2
def Pw   (h:Z[i]?=O (O (.own ds))):KB i Z=.ok (.int ds.length) Z:=by unfold KB;rw[h]
def WQ{g}{i}{r}(h1:g Z=.ok [.int i] Z1)(h2:Rm [.int i]=O r):XY g Z=.ok r Z1:=by exact KR h1 (ZE h2)
def Ar{g}{i j}{r}(h1:g Z=.ok [.int i,.int j] Z1)(h2:Rl [.int i,.int j]=O r):Oh g Z=.ok r Z1:=by exact KR h1 (ZE h2)
def WC{g}{xs r}(h1:g Z=.ok xs Z1)(h2:Rk xs=O r):Xp g Z=.ok r Z1:=by exact KR h1 (ZE h2)
def Y9  (h1:f Z=.ok (.int i) Z1):(U3 f λx=>U7 (Z9 x)) Z=.ok (O i) Z1:=KR h1 yK
def Zr{f:M Bool}{t:Bool}(h1:f Z=.ok t Z1):U8 f Z=.ok (!t) Z1:=Kx h1
def ZN  (h1:f Z=.ok (.bool t) Z1):KM f Z=.ok t Z1:=by exact KR h1 yK
def Pl{f g}{t u}(h1:f Z=.ok t Z)(h2:t=yM->g Z=.ok u Z):Ze f g Z=.ok (t&&u) Z:=by
 refine KR h1 ?_;cases t with
 |true=>exact h2 yK
 |false=>rfl
def ZU  (h1:f Z=.ok (.bool t) Z)(h2:t=yM->g Z=.ok (.bool u) Z):Xr f g Z=.ok (.bool (t&&u)) Z:=by
 refine KR h1 ?_;cases t with
 |true=>exact h2 yK
 |false=>rfl
def Ox  (h1:f Z=.ok (.bool t) Z)(h2:t=yN->g Z=.ok (.bool u) Z):Wd f g Z=.ok (.bool (t || u)) Z:=by
 refine KR h1 ?_;cases t with
 |false=>exact h2 yK
 |true=>rfl
def OO  (h1:f Z=.ok (.bool t) Z1):RZ f Z=.ok (.bool (!t)) Z1:=by exact KR h1 yK
def CO{f}{g h:M α}{r}(h1:f Z=.ok yN Z1)(h2:h Z1=r):mIf f g h Z=r:=by exact KR h1 (by exact h2)
def Ej{f}{g h}{t}{x y:α}(h1:f Z=.ok t Z1)(h2:g Z1=.ok x Z1)(h3:h Z1=.ok y Z1):mIf f g h Z=.ok (if t=yM then x else y) Z1:=by
 refine KR h1 ?_;cases t with
 |true=>exact h2
 |false=>exact h3
def VW  {x y z}{t u}(h1:f Z=.ok x Z)(h2:g Z=.ok y Z)(h3:p x y=O t)(h4:t=yM->h Z=.ok z Z)(h5:t=yM->q y z=O u):Wz p q f g h Z=.ok (t&&u) Z:=by
 refine KR h1 (KR h2 (KR (ZE h3) ?_));cases t with
 |true=>exact KR (h4 yK) (ZE (h5 yK))
 |false=>rfl
def KO{i j:Int}:U0 (.int i) (.int j)=O (.int (i+j)):=rfl
def Yu{x y:yO}(h:x.length+y.length<=1000000):U0 (.list x) (.list y)=O (.list (x++y)):=by exact Qp h
def Y8{i j:Int}:K9 (.int i) (.int j)=O (.int (i-j)):=rfl
def WW  (h1 : -18446744073709551616<i)(h2:i<18446744073709551616):Ke (.int i) (.int j)=O (.int (i*j)):=by exact Qp (.inl ⟨by lia,by lia⟩)
def XU{i j}(h1 : -18446744073709551616<j)(h2:j<18446744073709551616):Ke (.int i) (.int j)=O (.int (i*j)):=by exact Qp (.inr ⟨by lia,by lia⟩)
def GR{x:yO}{k}(h : -1000000<=k/\k<=1000000/\x.length*k.toNat<=1000000):Ke (.list x) (.int k)=O (.list (Uv k.toNat x).flatten):=by exact Qp h
def Y3{i j}(h:0<j):Za (.int i) (.int j)=O (.int (i % j)):=by exact Qp h
def jT{i j}(h:0<j)(h2:j<2 ^ 200):Xb (.int i) (.int j)=O (.int (i / j)):=by exact Qp ⟨h,h2⟩
def Pv{i j}(h:0<j)(h2:j<18446744073709551616):Xb (.int i) (.int j)=O (.int (i / j)):=jT h (Int.lt_trans h2 (by decide))
def RF{i j}(h:0<=j/\j<=1000000/\i.natAbs<2 ^ 64):Yx (.int i) (.int j)=O (.int (i ^ j.toNat)):=by exact Qp h
def ZD  : oEq (.int i) (.int j)=O (decide (i=j)):=by
 congr 1
def KU{xs:yO}:Kb [.list xs]=O (.int xs.length):=rfl
def RM{xs:yO}:Kb [.tuple xs]=O (.int xs.length):=rfl
def Lu{i j:Int}:Rn [.int i,.int j]=O (.int (if j > i then j else i)):=rfl
def WV  (h1:j<=1000000)(h2 : -1000000<=j):Rm [.int j]=O (Yp 0 j):=by exact Qp ⟨h1,h2⟩
def jS{i j}(h1:j<=1000000)(h2 : -1000000<=j)(h3:i<=1000000)(h4 : -1000000<=i):Rl [.int i,.int j]=O (Yp i j):=by exact Qp ⟨h1,h2,h3,h4⟩
def WB{xs:yO}:Rk [.list xs]=O (Ym 0 xs):=rfl
def Gd{z:Str}:(Uy z).depth<=60:=by simp[UB]
def Kv  {d}(h1:f Z=.ok d Z1)(h2:i<Z1.length)(h3:Z1.set i (O (.pub d))=Z'):U2 i f Z=.nx Z':=by unfold U2 KY sB gN;simp_all
def Zv  {f}{ds}(h1:f Z=.ok ds Z1)(h2:i<Z1.length)(h3:Z1.set i (O (.own ds))=Z'):K1 i f Z=.nx Z':=by unfold K1 sB;simp_all
def Wx   {zJ ds}(h0:Z[i]?=O (O (.own zJ)))(h1:f Z=.ok d Z1)(h2:Z1[i]?=O (O (.own ds)))(h3:ds.length<1000000)(h4:Z1.set i (O (.own (ds++[d])))=Z'):Zy i f Z=.nx Z':=by unfold Zy sB;simp_all
def Xm   (h1:f Z=.ok d Z1)(h2:s d Z1=O Z'):KY f s Z=.nx Z':=by unfold KY sB;simp_all
def VI{d:D}(h1:f Z=.ok d Z1):XZ f Z=.nx Z1:=by unfold XZ sB;rw[h1]
def UX   (h:i<Z.length)(h2:Z.set i (O (.pub d))=Z'):gN i d Z=O Z':=by unfold gN;simp_all
def KE:gN0 [] Z=O Z:=rfl
def U6     (h1:s d Z=O Z1)(h2:t r Z1=O Z'):gNC s t (d::r) Z=O Z':=by unfold gNC;simp_all
def KD   {ds:yO}(h1:ds.length=n)(h2:t ds Z=O Z'):gT n t (.tuple ds) Z=O Z':=by unfold gT;simp_all
structure Ho(g:SM)(Z:US)(Q:Out->Prop):Prop where
 out:Q (g Z)
def Ei(h:SM)(Q:Out->Prop):Out->Prop
 |.nx Z'=>Ho h Z' Q
 |o=>Q o
structure V1(h:SM)(Q:Out->Prop)(o:Out):Prop where
 out:Ei h Q o
variable{Q:Out->Prop}{s t u:SM}
def Kg(h:Ho s Z (V1 t Q)):Ho (UQ s t) Z Q:=by
 have h:=h.out.out;constructor;unfold UQ;cases e:s Z with
 |nx o=>rw[e]at h;exact h.out
 |_=>rw[e]at h;exact h
def Ka(h1:s Z=.nx Z1)(h2:Ho t Z1 Q):Ho (UQ s t) Z Q:=by
 constructor;unfold UQ;rw[h1];exact h2.out
def KQ{o:Out}(h1:s Z=o)(h2:Q o):Ho s Z Q:=by constructor;rw[h1];exact h2
def Kn(h:Q (.nx Z)):Ho sNx Z Q:=⟨h⟩
def Kf{o:US}(h:Ho t o Q):V1 t Q (.nx o):=⟨h⟩
def Ks{d:D}(h:Q (.rt d)):V1 t Q (.rt d):=⟨h⟩
def U5{f}{b}(h1:f Z=.ok b Z1)(h2:b=yM->Ho s Z1 Q)(h3:b=yN->Ho t Z1 Q):Ho (sIf f s t) Z Q:=by
 constructor;unfold sIf sB;rw[h1];cases b with
 |true=>exact(h2 yK).out
 |false=>exact(h3 yK).out
def U4  (h1:f Z=.ok d Z1)(h2:Q (.rt d)):Ho (UW f) Z Q:=by constructor;unfold UW sB;simp_all
def SD{P:Out->Prop}(h:Ho s Z P)(k:∀o,P o->Q o):Ho s Z Q:=⟨k _ h.out⟩
def Eh(I:US->Prop)(Q:Out->Prop):Out->Prop
 |.nx Z | .ct Z=>I Z
 |.bk Z=>Q (.nx Z)
 |.rt d=>Q (.rt d)
 |.ex Z d=>Q (.ex Z d)
 |.ro ds=>Q (.ro ds)
 |.bad=>False
structure Ss(I:US->Prop)(Q:Out->Prop)(o:Out):Prop where
 out:Eh I Q o
def Yb{I:US->Prop}(h:I Z):Ss I Q (.nx Z):=⟨h⟩
def Y6{Z:US}{d:D}(h:Q (.ex Z d)):V1 t Q (.ex Z d):=⟨h⟩
def RL{I:US->Prop}{d:D}(h:Q (.rt d)):Ss I Q (.rt d):=⟨h⟩
def YF{f}{tg}{ds}(I:Nat->US->Prop)(h1:f Z=.ok ds Z1)(h0:I 0 Z1)
  (hst:∀i d Z,ds[i]?=O d->I i Z->∃Z2,tg d Z=O Z2/\Ho s Z2 (Ss (I (i+1)) Q)) (hend:∀Z,I ds.length Z->Q (.nx Z)):Ho (Ko f tg s) Z Q:=by
 constructor;unfold Ko sB;rw[h1];refine Ge   ds 0 Z1 h0 (λi d Z e p=>?_) (λZ p=>hend Z (by simp_all))
 rw[JR]at p;obtain⟨Z2,e2,q⟩:=hst i d Z e p;refine⟨Z2,e2,?_⟩;rw[JR];have q:=q.out.out;cases z:s Z2 with
 |nx o=>rw[z]at q;exact .inl ⟨o,.inl yK,q⟩
 |ct o=>rw[z]at q;exact .inl ⟨o,.inr yK,q⟩
 |rt o=>rw[z]at q;exact .inr (.inl ⟨o,rfl,q⟩)
 |bk o=>rw[z]at q;exact .inr (.inr (.inl ⟨o,rfl,q⟩))
 |ex o x=>rw[z]at q;exact .inr (.inr (.inr (.inl ⟨o,x,rfl,q⟩)))
 |ro o=>rw[z]at q;exact .inr (.inr (.inr (.inr ⟨o,rfl,q⟩)))
 |bad=>rw[z]at q;exact q.elim
def WO   {P:D->Prop}(h0:YG N ds=Z)(h:Ho s Z λo=>∃d,o=.rt d/\P d):∃d,U9 N s ds=O d/\P d:=by subst h0;obtain⟨d,e,p⟩:=h.out;refine⟨d,?_,p⟩;unfold U9;rw[e]
def KZ    (h0:YG N ds=Z)(h:Ho s Z λo=>o=.rt d):U9 N s ds=O d:=by obtain⟨d',e,p⟩:=WO  h0 (SD h λo e=>⟨d,e,rfl⟩);simp_all
end
section
variable{α β:Type}{Z Z1 Z2 Z3 Z':US}{f g h:M D}
def Ww  {x r}{a b}(h1:f Z=.ok x Z1)(h2:l Z1=.ok a Z2)(h3:u Z2=.ok b Z3)(h4:W7 x a b=O r):Zs f l u Z=.ok r Z3:=by exact KR h1 (KR h2 (KR h3 (ZE h4)))
def Zb{f g}(h1:f Z=.ok yM Z1):mOr f g Z=.ok yM Z1:=by exact KR h1 yK
def Zq{f g}{u}(h1:f Z=.ok yN Z1)(h2:g Z1=.ok u Z2):mOr f g Z=.ok u Z2:=by exact KR h1 (by exact h2)
def Lr{f g}(h1:f Z=.ok yN Z1):Ze f g Z=.ok yN Z1:=by exact KR h1 yK
def Lq{f g}{u}(h1:f Z=.ok yM Z1)(h2:g Z1=.ok u Z2):Ze f g Z=.ok u Z2:=by exact KR h1 (by exact h2)
def KS  {d}{t}(h:f Z=.ok d Z1)(ht:(!Kk d c)=t):U8 (KM (UY (λd=>.bool (Kk d c)) f)) Z=.ok t Z1:=by subst ht;exact Zr (ZN (Kx  h))
def Zx   (h1:f Z=.ok x Z1)(h2:OP x=O r):KP f Z=.ok r Z1:=by exact KR h1 (ZE h2)
def Zn  {i}{d y}{r:β}(h:Z[i]?=O (O (.pub d)))(h1:g Z=.ok y Z1)(h2:p d y=O r):KF p i g Z=.ok r Z1:=by unfold KF;rw[h];exact KR h1 (ZE h2)
def Hr  {i}{ds es}{y}{r:β}(h:Z[i]?=O (O (.own ds)))(h1:g Z=.ok y Z1)(h3:Z1[i]?=O (O (.own es)))(h2:p (.list es) y=O r):KF p i g Z=.ok r Z1:=by unfold KF;rw[h];exact KR h1 (by rw[h3];exact ZE h2)
def Z6{f}{k}{s}{t}{ds es}(h1:f Z=.ok ds Z1)(h2:K6 s t g ds (Kt Z1++Uv k yL) []=O es):ZG f k s t g Z=.ok es Z1:=by unfold ZG;simp_all
theorem XS   (p)(q)(I:US->Prop):∀(ds:yO)(Z:US)(es:yO),(∀d∈ds,∀Z,I Z->∃Z1,s d Z=O Z1/\t Z1=.ok (p d) Z1/\(p d=yM->g Z1=.ok (q d) Z1)/\I (Kt Z1))->I Z->es.length+ds.length<=1000000 ->
  K6 s t g ds Z es=O (es++(ds.filter p).map q)
 |[],Z,es,_,_,_=>by rw[K6];simp
 |d::r,Z,es,st,h0,hz=>by
  obtain⟨Z1,e1,e2,e3,h1⟩:=st d Qn Z h0;have ih:=λes' hz'=>XS p q I r _ es' (λd' hd=>st d' (Qm _ hd)) h1 hz';rw[QD]at hz;rw[K6,e1];dsimp only;rw[e2];dsimp only
  cases hp:p d with
  |true=>rw[Qp yK,e3 hp];dsimp only;rw[Qp (by lia),ih _ (by rw[Qj,Jd];lia),List.filter_cons_of_pos hp,QS];rfl
  |false=>rw[QH (by decide),ih _ (by lia),List.filter_cons_of_neg (by rw[hp];decide)]
def SB  {d}{k}{zJ ds}(h1:f Z=.ok d Z1)(h0:Z1[j]?=O (O (.own zJ)))(h2:g Z1=.ok (.int k) Z2)(h3:Z2[j]?=O (O (.own ds)))(h4:0<=k/\k<ds.length)(h5:Z2.set j (O (.own (ds.set k.toNat d)))=Z'):Ws j g f Z=.nx Z':=by unfold Ws sB;simp_all
def WA{xs:yO}{a b:yX}:W7 (.list xs) a b=O (.list (DL.cutD xs a b)):=rfl
def YM{xs:yO}:OP (.list xs)=O xs:=rfl
def w9(bs):VJ (bs.map Ux)=O bs:=by
 induction bs with
 |nil=>rfl
 |cons b r ih=>rw[QI,VJ,ih];rfl
def ON{bs:List Bool}:ZH [.list (bs.map Ux)]=O (.bool (bs.all id)):=by unfold ZH;dsimp only;rw[w9];rfl
end
section
variable{α β:Type}{Z Z1 Z2 Z3 Z4 Z':US}{f g h:M D}{s:SM}
def MF{g}{xs r}(h1:g Z=.ok xs Z1)(h2:Wb xs=O r):Wf g Z=.ok r Z1:=by exact KR h1 (ZE h2)
def CN  {xs:yO}(h1:f Z=.ok (.list xs) Z1)(h2:l Z1=.ok yL Z2)(h3:u Z2=.ok yL Z3)(h4:t Z3=.ok (O (-1)) Z4):Sa f l u t Z=.ok (.list xs.reverse) Z4:=by exact KR h1 (KR h2 (KR h3 (KR h4 (ZE (by unfold Tr;exact Qp yK)))))
def Nd    (h:Z[i]?=O (O (.pub d)))(h2:VC [d]=O ds):VF i Z=.ok ds Z:=by unfold VF;rw[h];exact ZE h2
def Rz   (h0:YG N ds=Z)(h:Ho s Z λo=>∃Z',o=.nx Z'):U9 N s ds=O .none:=by subst h0;obtain⟨Z',e⟩:=h.out;unfold U9;rw[e]
def XN  : oNe (.int i) (.int j)=O (!decide (i=j)):=by
 congr 1
def Nc{xs:yP}{a b:Int}(ha:0<=a)(hb:0<=b)(hl:b<=xs.length):DL.cutD (xs.map int) (O a) (O b)=((xs.drop a.toNat).take (b.toNat-a.toNat)).map int:=by
 unfold DL.cutD HT.sIx;dsimp only;rw[QH (by lia),QH (by lia),Qd,List.map_take];have e2:min b.toNat xs.length=b.toNat:=by lia
 rw[e2];by_cases hab:a.toNat<=xs.length
 .simp_all
 .have e3:b.toNat-a.toNat=0:=by lia
  grind
def Gc{xs ys:yP}:Z7 (xs.map int) (ys.map int)=(xs.zip ys).map λp=>.tuple [.int p.1,.int p.2]:=by unfold Z7;rw[List.zip_map,Q0];rfl
end
section
variable{Z Z1:US}
def jR   (h1:g Z=.ok xs Z1)(h2:Sy xs=O r):Oy g Z=.ok r Z1:=by exact KR h1 (ZE h2)
def xP{xs:yO}:Sy [.list xs]=O (Ym 1 xs):=rfl
end
section
variable{X:Cx}{B G0:Hp}{KX:XW}{e o a b c tg i:Up}{pos p2:Pos}{es rest:yS}
noncomputable def WN(f:M Bool)(g:SM):Nat->SM
 |0,_=>.bad
 |n+1,Z=>match f Z with
  |.bad=>.bad
  |.ok t Z1=>if t=yM then(match g Z1 with
   |.nx Z2=>WN f g n Z2
   |.ct Z2=>WN f g n Z2
   |.bk Z2=>.nx Z2
   |.rt d=>.rt d
   |.ro ds=>.ro ds
   |.ex Z2 d=>.ex Z2 d
   |.bad=>.bad)else .nx Z1
def jQ  {f}{g}(n)(hp:PassesOwn (model X.prog X.w) X.A X.env X.xe)(hc:PT X c (tBo X.K B G0 f))(hb:PSs X body (tS X.K B G0 KX g)):PS X (.While c body [] pos) (tS X.K B G0 KX (WN f g n)):=
 K3 (kS hp hc hb) λDn σ H ⟨G,Z,k,a⟩=>by
  refine⟨λm σ' H'=>∃G' Z',EOk X.K B G0 G' H' σ' Z'/\aftS X.K B G0 KX (WN f g m Z') G' Dn,⟨n,G,Z,k,a⟩,?_⟩;rintro m σ' H' ⟨G',Z',k',a'⟩;cases m with
  |zero=>exact a'.elim
  |succ m=>
   rw[WN]at a';refine⟨G',Z',k',?_⟩;cases z:f Z' with
   |bad=>rw[z]at a';exact a'.elim
   |ok t Z1=>
    rw[z]at a';dsimp only at a';intro v G1 H1 k1 s1 e1;subst e1;cases v with
    |false=>exact a' _ G1 H1 k1 s1
    |true=>
     refine⟨λσ2 H2=>∃G2 Z2,EOk X.K B G0 G2 H2 σ2 Z2/\aftS X.K B G0 KX _ G2 Dn,λσ2 H2 h2=>⟨m,Nat.lt_succ_self m,h2⟩,G1,Z1,k1,?_⟩;cases z2:g Z1 with
     |nx Z2=>rw[z2]at a';exact λσ4 G4 H4 k4 s4=>⟨G4,Z2,k4,aftS.mono (s1.trans s4) a'⟩
     |ct Z2=>rw[z2]at a';exact λσ4 G4 H4 k4 s4=>⟨G4,Z2,k4,aftS.mono (s1.trans s4) a'⟩
     |bk Z2=>rw[z2]at a';exact λσ4 G4 H4 k4 s4=>a' σ4 G4 H4 k4 (s1.trans s4)
     |rt d=>rw[z2]at a';exact a'
     |ro ds=>rw[z2]at a';exact a'
     |ex Z2 d=>rw[z2]at a';exact λv σ4 G4 H4 k4 s4 r4=>a' v σ4 G4 H4 k4 (s1.trans s4) r4
     |bad=>rw[z2]at a';exact a'.elim
def Xx(op:Int->Int->yQ)(j:Nat)(f:M D):SM:=λZ=>match Z[j]? with
 |some (O (.pub (.int a)))=>sB f (λy Z1=>match y with
  |.int b=>(match op a b with
   |some d=>if j<Z1.length then .nx (Z1.set j (O (.pub d)))else .bad
   |none=>.bad)
  |_=>.bad) Z
 |_=>.bad
def IpD(X:Cx)(op:Operator)(p:Int->Int->yQ):Prop:=∃ti,PIp X op ti/\∀i j d,p i j=O d->∃v:V,(∀G,Rep X.K G v d)/\∀H(Q:VK),Q v H->ti (.int i) (.int j) H Q
def Aq:IpD X .Mult Xc:=⟨_,A5,λi j d e=>by
 unfold Xc at e;split at e
 .rename_i h
  cases e;exact⟨_,λ_=>.int _,λH Q q=>⟨i,j,rfl,rfl,h,q⟩⟩
 simp_all⟩
def CM  {x:Str}{op}{p}{f:M D}{pos':Pos}(hN:X.N.Nodup)(hi:X.N[j]?=O x)(hx:Loc X.env.scope x)(ho:IpD X op p)(he:PE X e (tD X.K B G0 f))(hf:X.fn x=yM∨X.env.scope.names.lookup x=O .local:=by first|exact .inl rfl|exact .inr rfl|assumption) :
  PS X (.AugAssign (.Name x pos') op e pos) (tS X.K B G0 KX (Xx p j f)):=by
 obtain⟨ti,hti,hp⟩:=ho;refine K3 (Bm hN hi hx he hti hf) λDn σ H ⟨G,Z,k,a⟩=>?_;unfold Xx at a
 cases q:Z[j]? with
 |none=>rw[q]at a;exact a.elim
 |some o0=>
  cases o0 with
  |none=>rw[q]at a;exact a.elim
  |some sl=>
   cases sl with
   |deep _ _=>rw[q]at a;exact a.elim
   |own ds=>rw[q]at a;exact a.elim
   |pub d0=>
    rw[q]at a;cases d0 with
    |int i0=>
     dsimp only at a;obtain⟨v,h1,h2⟩:=k.pub j _ q;cases h2.int_inv;refine⟨.int i0,h1,G,Z,k,?_⟩;unfold sB at a;cases z:f Z with
     |bad=>rw[z]at a;exact a.elim
     |ok y Z1=>
      rw[z]at a;intro u G1 H1 k1 s1 r1;cases y with
      |int i1=>
       cases r1.int_inv;dsimp only at a;cases w:p i0 i1 with
       |none=>rw[w]at a;exact a.elim
       |some d=>
        rw[w]at a;dsimp only at a;split at a
        .rename_i hl
         obtain⟨v',rv,hq⟩:=hp i0 i1 d w;exact hq H1 _ (a _ G1 H1 (k1.setPub (rv G1) hl) s1)
        .exact a.elim
      |_=>exact a.elim
    |_=>exact a.elim
noncomputable def VA(Z:US)(j:Nat):Option yO:=match Z[j]? with
 |some (O (.own ds))=>O ds
 |_=>yL
def No    (h:VA Z j=O ds):Z[j]?=O (O (.own ds)):=by
 unfold VA at h;split at h
 .simp_all
 simp_all
def Hq    (h:Z[j]?=O (O (.own ds))):VA Z j=O ds:=by unfold VA;rw[h]
def Wa(j:Nat)(f:M yO):SM:=λZ=>match VA Z j with
 |none=>.bad
 |some _=>sB f (λes Z1=>match VA Z1 j with
  |some ds=>if ds.length+es.length<=1000000 then .nx (Z1.set j (O (.own (ds++es))))else .bad
  |none=>.bad) Z
def CL  {f}{apos cpos:Pos}(ho:PE X o (KI j))(he:PE X e (tL X.K B G0 f))
  (hbase:attributeBase o "extend" X.env (eval o X.env)=eval o X.env:=by rfl)
  (hfew:((backTo cpos (Us [e] X.env)).all (λx=>!x.1)&&(backToKw cpos (keywordEach [] X.env)).all (λx=>x.1.isSome)
   && decide ([e].length+([]:List Keyword).length+(if([]:List Keyword).isEmpty then 0 else 1)<30))=yM:=by rfl)
  (hline:(apos.endLine==cpos.line)=yM:=by rfl) (hs:Us [e] X.env=[(yN,eval e X.env)]:=by rfl)
  (hsw:swapsWith (.Call (.Attribute o "extend" apos) [e] [] cpos) yL pos.line X.env=pure yN:=by rfl) :
  PS X (.Expr (.Call (.Attribute o "extend" apos) [e] [] cpos) pos) (tS X.K B G0 KX (Wa j f)):=
 K3 (VL (Pb PySem.F.plainAttrs_list PySem.F.slot_list_extend PySem.F.type_list_extend xZ ho (Yd he Xo (by rw[hs];rfl)) hbase hfew hline (by rw[hs];rfl) yK) hsw) λD σ H ⟨G,Z,k,a⟩=>by
  unfold Wa at a;cases q0:VA Z j with
  |none=>rw[q0]at a;exact a.elim
  |some zJ=>
  rw[q0]at a;dsimp only at a;obtain⟨ad,vs0,h1,h2,h3,h4,h5⟩:=k.own j zJ (No q0);refine⟨.ref ad,h1,.inl ⟨rfl,_,SqL.of h4⟩,G,Z,k,?_⟩;unfold sB at a;cases z:f Z with
  |bad=>rw[z]at a;exact a.elim
  |ok es Z1=>
  rw[z]at a;dsimp only at a;intro b zs G1 H1 k1 s1 n1;cases q1:VA Z1 j with
  |none=>rw[q1]at a;exact a.elim
  |some ds=>
  rw[q1]at a;dsimp only at a;split at a
  .rename_i hl
   obtain⟨ad1,vs,g1,g2,g3,g4,g5⟩:=k1.own j ds (No q1);rw[h1]at g1;cases g1;refine⟨ad,b,vs,zs,rfl,rfl,g4,n1.h,by rw[g5.length,n1.r.length];exact QE hl lim,?_⟩;exact a σ G1 _ (k1.change (No q1) h1 (g5.append n1.r)) s1
  .exact a.elim
end
section
variable{X:Cx}{B G0:Hp}{e o a b c tg i:Up}{pos p2:Pos}{es rest:yS}
def xO(hc:X.calm=yM):YD X (.builtin "sum") (λxs H Q=>∃l,∃ns:yP,xs=[.ref l]/\SqL X.K H l (ns.map V.int)/\Q (.int ns.sum) H):=by
 intro pins s σ H xs us Q I rx h;obtain⟨l,ns,rfl,hq,q⟩:=h;obtain⟨u,rfl,ru⟩:=rx.one;cases ru;obtain⟨its,rv,p,hz⟩:=I.list hq;have hi:=W0 rv;obtain⟨ys,e⟩:=hi.allInts.items;have hns:ns=ys.toList.map (·.1):=by rw[←hi.numsOf,←nums_intItems,←e]
 have hl:=p.isList;rw[e]at hl;refine sum_intListG (I.ok.hd hc) hl λh' tk t' hk=>?_
 have e2:preSum (numAt ys) ys.size=ns.sum:=by rw[preSum_eq,List.take_of_length_le (by simp),hns]
 rw[e2];exact⟨.int ns.sum,H,I.kept hk,⟨t',rfl⟩,q⟩
def XX:yO->yQ
 |[.list ds]=>(Ye ds).map λns=>.int ns.sum
 |_=>yL
def xN   (h:XX xs=O d):∃ds ns,xs=[.list ds]/\Ye ds=O ns/\d=.int ns.sum:=by
 unfold XX at h;split at h
 .rename_i ds
  cases z:Ye ds with
  |none=>simp_all
  |some ns=>simp_all
 simp_all
def CJ(hc:X.calm=yM):YK X (.builtin "sum") XX:=by refine⟨_,xO hc,λvs G H ds d Q s r e k=>?_⟩;obtain⟨ds,ns,rfl,z,rfl⟩:=xN e;obtain⟨v,rfl,q1⟩:=r.one_inv;obtain⟨l,ws,rfl,h1,r1⟩:=q1.lst_inv;have:=SV r1 z;subst this;exact⟨l,ns,rfl,s.seq h1,k _ G H (.refl s) (.int _)⟩
def PY{ns:yP}:XX [.list (ns.map .int)]=O (.int ns.sum):=by unfold XX;dsimp only;rw[Tn];rfl
def xM:MtR X "list.index" (λv vs H Q=>∃l k,∃ns:yP,v=.ref l/\vs=[.int k]/\SqL X.K H l (ns.map V.int)/\PyData.layable0 (.list (ns.map .int))=yM/\k∈ns/\Q (.int (ns.idxOf k:Nat)) H):=by intro pins s σ H x vs v us Q I rx rv h;obtain⟨l,k,ns,rfl,rfl,hq,hl,hk,q⟩:=h;cases rx;obtain⟨u,rfl,ru⟩:=rv.one;obtain⟨t,rfl⟩:=ru;obtain⟨its,rv,p,hz⟩:=I.list hq;exact index_list_ints p.isList (W0 rv) hl hk ⟨.int _,H,I.tok _,⟨_,rfl⟩,q⟩
def SA(y:D)(xs:yO):yQ:=match y,xs with
 |.list ds,[.int k]=>(match Ye ds with
  |some ns=>if PyData.layable0 (.list (ns.map .int))=yM/\k∈ns then O (.int (ns.idxOf k:Nat))else yL
  |none=>yL)
 |_,_=>yL
def w8{ds xs:yO}{d}(h:SA (.list ds) xs=O d):∃k ns,xs=[.int k]/\Ye ds=O ns/\PyData.layable0 (.list (ns.map .int))=yM/\k∈ns/\d=.int (ns.idxOf k:Nat):=by
 unfold SA at h;split at h
 .rename_i ds' k e1
  cases e1;cases z:Ye ds with
  |none=>simp_all
  |some ns=>simp_all
 simp_all
def Pk(f:M D)(g:M yO):M D:=U3 f λy=>U3 g λxs=>U7 (match y with | .list ds=>SA (.list ds) xs|_=>yL)
def xL{apos cpos}{f}{g}(ho:PE X o (tD X.K B G0 f))(ha:PA X (e::es) (tDs X.K B G0 g))
  (hbase:attributeBase o "index" X.env (eval o X.env)=eval o X.env:=by rfl)
  (hfew:((backTo cpos (Us (e::es) X.env)).all (λx=>!x.1)&&(backToKw cpos (keywordEach [] X.env)).all (λx=>x.1.isSome)
   && decide ((e::es).length+([]:List Keyword).length+(if([]:List Keyword).isEmpty then 0 else 1)<30))=yM:=by rfl)
  (hline:(apos.endLine==cpos.line)=yM:=by rfl) (hs:Us (e::es) X.env=(yN,eval e X.env)::Us es X.env:=by rfl) (hplain:(backTo cpos (Us es X.env)).any (·.1)=yN:=by rfl) :
  PE X (.Call (.Attribute o "index" apos) (e::es) [] cpos) (tD X.K B G0 (Pk f g)):=
 Kp (Pb F.plainAttrs_list F.slot_list_index F.type_list_index xM ho ha hbase hfew hline hs hplain) λσ H Q q=>by
  refine tM.one  q λv H2 G Z y k r a=>?_
  cases y with
  |list ds=>
   obtain⟨l,ws,rfl,h1,r1⟩:=r.lst_inv;refine⟨.inl ⟨rfl,ws,k.gh.seq h1⟩,?_⟩;refine tM.nx  k a λxs H3 G3 Z3 es k3 s3 r3 a3=>?_
   obtain⟨d,e,a3⟩:=a3.opt;obtain⟨x,ns,rfl,z,hl,hk,rfl⟩:=w8 e;obtain⟨u,rfl,ru⟩:=r3.one_inv;have:=SV r1 z;subst this;exact⟨l,x,ns,rfl,by rw[ru.int_inv],k3.gh.seq (s3.seq h1),hl,hk,aft.now a3 k3 (.int _)⟩
  |_=>
   unfold U3 at a;cases z:g Z with
   |bad=>rw[z]at a;exact a.elim
   |ok xs Z1=>rw[z]at a;exact a.elim
def jP   {Z Z1 Z2}{ds:yO}{x d}(h1:f Z=.ok (.list ds) Z1)(h2:g Z1=.ok [x] Z2)(h3:SA (.list ds) [x]=O d):Pk f g Z=.ok d Z2:=by unfold Pk U3;rw[h1];dsimp only;rw[h2];dsimp only;rw[h3];rfl
def w6:bootBuiltins "tuple" = O (.type "tuple"):=by decide +kernel
end
end DL
namespace DL
open PySem PySem.Spec PySem.W PyProof.Rows
noncomputable def Kj{α:Type}(lt:Nat->Nat->Bool):KasT α->α
 |.ret a=>a
 |.ask i j k=>Kj lt (k (lt i j))
theorem SK   {f:α->KasT β}:∀t:KasT α,Kj lt (t.bind f)=Kj lt (f (Kj lt t))
 |.ret _=>rfl
 |.ask i j k=>by show Kj lt ((k _).bind f)=_;rw[SK];rfl
section
variable{key:Nat->Int}{p:Array Nat}
noncomputable def KA(key:Nat->Int)(p:Array Nat)(i:Nat):Int:=key (p.getD i 0)
def srt(key:Nat->Int)(p:Array Nat)(m:Nat):Prop:=∀i j,i<=j->j<m->KA key p i<=KA key p j
def dsc(key:Nat->Int)(p:Array Nat)(m:Nat):Prop:=∀i j,i<=j->j<m->KA key p j<=KA key p i
noncomputable abbrev kl(key:Nat->Int)(i j:Nat):Bool:=decide (key i<key j)
def Ga  (hk:k<p.size)(hd:d<=k):KA key (bubble p k d) i=if i=k-d then KA key p k else if k-d<i/\i<=k then KA key p (i-1)else KA key p i:=by
 unfold KA;simp only[Jy];rw[getElem?_bubble hk d hd]
 repeat' split
 all_goals rfl
def Ry{i j k}(hj:j<=p.size):KA key (kas_rev p i j) k=if i<=k/\k<j then KA key p (i+j-1-k)else KA key p k:=by
 unfold KA kas_rev;simp only[Jy];rw[getElem?_mirror_all hj]
 split<;>rfl
def Td{i j:Nat}:(kas_rev p i j).size=p.size:=mirror_size _ _ _ _
def WU{i j:Nat}:(kas_rev p i j).Perm p:=mirror_perm _ _ _ _
theorem Nb:∀(f n:Nat),1<=n->srt key p n->srt key p (Kj (kl key) (kas_asc p f n))/\n<=Kj (kl key) (kas_asc p f n)/\Kj (kl key) (kas_asc p f n)<=n+f /\
  (Kj (kl key) (kas_asc p f n)<n+f->KA key p (Kj (kl key) (kas_asc p f n))<KA key p (Kj (kl key) (kas_asc p f n)-1))
 |0,n,h1,hs=>⟨hs,Qo _,Qo _,λh=>absurd h (Jz _)⟩
 |f+1,n,h1,hs=>by
  unfold kas_asc Kj;cases c:kl key (p.getD n 0) _ with
  |true=>exact⟨hs,Qo _,by show n<=n+(f+1);lia,λ_=>Qa c⟩
  |false=>
   dsimp only;rw[QH (by decide)];have hle   :=Ui.mp (Jc c)
   obtain⟨a1,a2,a3,a4⟩:=Nb f (n+1) (by lia) (λi j hij hj=>by
    by_cases al:j=n
    .subst al
     by_cases hin:i=j
     .subst hin;exact JW _
     .exact Int.le_trans (hs i (j-1) (by lia) (by lia)) hle
    .exact hs i j hij (by lia))
   exact⟨a1,by lia,by lia,λh=>a4 (by lia)⟩
def eqs(key:Nat->Int)(p:Array Nat)(n q:Nat):Prop:=∀i,n-1-q<=i->i<n->KA key p i=KA key p (n-1)
theorem PV:∀(f:Nat)(p:Array Nat)(n q:Nat),1<=n->q+1<=n->n+f<=p.size->dsc key p n->eqs key p n q ->
  let r:=Kj (kl key) (kas_desc f p n q)
  r.1.Perm p/\r.1.size=p.size/\dsc key r.1 r.2.1/\eqs key r.1 r.2.1 r.2.2/\r.2.2+1<=r.2.1/\n<=r.2.1/\r.2.1<=n+f
 |0,p,n,q,h1,hq,hz,hd,he=>⟨Uc _,rfl,hd,he,hq,Qo _,Qo _⟩
 |f+1,p,n,q,h1,hq,hz,hd,he=>by
  intro r;have hr:r=Kj (kl key) (kas_desc (f+1) p n q):=rfl;unfold kas_desc Kj at hr;cases c:kl key (p.getD n 0) (p.getD (n-1) 0)with
  |true=>
   rw[c]at hr;(try dsimp only at hr);rw[if_pos yK]at hr;have hlt:KA key p n<KA key p (n-1):=Qa c
   have ext:∀p':Array Nat,(∀i,KA key p' i=KA key p i)->dsc key p' (n+1)/\eqs key p' (n+1) 0:=λp' hp=>⟨λi j hij hj=>by
     rw[hp,hp];by_cases al:j=n
     .subst al
      by_cases hin:i=j
      .subst hin;exact JW _
      .exact Int.le_trans (Int.le_of_lt hlt) (hd i (j-1) (by lia) (by lia))
     .exact hd i j hij (by lia),λi hi1 hi2=>by
     have:i=n:=by lia
     subst this;rfl⟩
   by_cases hq0:q > 0
   .rw[Qp hq0]at hr
    have same:∀i,KA key (kas_rev p (n-(q+1)) n) i=KA key p i:=λi=>by
     rw[Ry (by lia)];split
     .rw[he _ (by lia) (by lia),he i (by lia) (by lia)]
     .rfl
    obtain⟨d1,e1⟩:=ext _ same;obtain⟨a1,a2,a3,a4,a5,a6,a7⟩:=PV f (kas_rev p (n-(q+1)) n) (n+1) 0 (by lia) (by lia) (by rw[Td];lia) d1 e1;rw[←hr]at a1 a2 a3 a4 a5 a6 a7;exact⟨a1.trans WU,a2.trans Td,a3,a4,a5,by lia,by lia⟩
   .rw[QH hq0]at hr
    obtain⟨d1,e1⟩:=ext p λ_=>rfl
    obtain⟨a1,a2,a3,a4,a5,a6,a7⟩:=PV f p (n+1) 0 (by lia) (by lia) (by lia) d1 e1;rw[←hr]at a1 a2 a3 a4 a5 a6 a7;exact⟨a1,a2,a3,a4,a5,by lia,by lia⟩
  |false=>
   rw[c]at hr;(try dsimp only at hr);rw[if_neg (by decide)]at hr;unfold Kj at hr;have hle:KA key p (n-1)<=KA key p n:=Ui.mp (Jc c);cases d:kl key (p.getD (n-1) 0) (p.getD n 0)with
   |true=>rw[d]at hr;(try dsimp only at hr);rw[if_pos yK]at hr;unfold Kj at hr;rw[hr];exact⟨Uc _,rfl,hd,he,hq,Qo _,by show n<=n+(f+1);lia⟩
   |false=>
    rw[d]at hr;(try dsimp only at hr);rw[if_neg (by decide)]at hr;have hge:KA key p n<=KA key p (n-1):=Ui.mp (Jc d)
    obtain⟨a1,a2,a3,a4,a5,a6,a7⟩:=PV f p (n+1) (q+1) (by lia) (by lia) (by lia) (λi j hij hj=>by
     by_cases al:j=n
     .subst al
      by_cases hin:i=j
      .subst hin;exact JW _
      .exact Int.le_trans hge (hd i (j-1) (by lia) (by lia))
     .exact hd i j hij (by lia)) (λi hi1 hi2=>by
     have e0:KA key p n=KA key p (n-1):=Ub hge hle;rw[Nat.add_sub_cancel,e0];by_cases hin:i=n
     .subst hin;exact e0
     .exact he i (by lia) (by lia))
    rw[←hr]at a1 a2 a3 a4 a5 a6 a7;exact⟨a1,a2,a3,a4,a5,by lia,by lia⟩
def GQ  (h1:1<=n)(hn:n<=nrem)(hz:nrem<=p.size)(hd:dsc key p n) :
  let r:=Kj (kl key) (kas_tail3 n nrem p)
  r.2.Perm p/\r.2.size=p.size/\srt key r.2 r.1/\1<=r.1/\r.1<=nrem:=by
 intro r;have hr:r=Kj _ _:=rfl;unfold kas_tail3 at hr;rw[SK]at hr;have hs:srt key (kas_rev p 0 n) n:=λi j hij hj=>by rw[Ry (by lia),Ry (by lia),Qp (by lia),Qp (by lia)];exact hd _ _ (by lia) (by lia)
 obtain⟨a1,a2,a3,_⟩:=Nb   _ n h1 hs;rw[hr];exact⟨WU,Td,a1,by show 1<=Kj _ _;lia,by show Kj _ _<=_;lia⟩
def Fz{n nrem:Nat}(h1:1<=n)(hn:n+1<=nrem)(hz:nrem<=p.size)(hd:dsc key p (n+1)) :
  let r:=Kj (kl key) (kas_descPart n nrem p)
  r.2.Perm p/\r.2.size=p.size/\srt key r.2 r.1/\1<=r.1/\r.1<=nrem:=by
 intro r;have hr:r=Kj (kl key) _:=rfl;unfold kas_descPart at hr;rw[SK]at hr
 obtain⟨a1,a2,a3,a4,a5,a6,a7⟩:=PV (key:=key) (nrem-(n+1)) p (n+1) 0 (by lia) (by lia) (by lia) hd (λi hi1 hi2=>by
  have:i=n:=by lia
  subst this;rfl)
 generalize Kj (kl key) (kas_desc _ p (n+1) 0)=d at hr a1 a2 a3 a4 a5 a6 a7;obtain⟨p1,n1,q1⟩:=d;dsimp only at hr a1 a2 a3 a4 a5 a6 a7;by_cases hq:q1 > 0
 .rw[Qp hq]at hr
  have same:∀i,KA key (kas_rev p1 (n1-(q1+1)) n1) i=KA key p1 i:=λi=>by
   rw[Ry (by lia)];split
   .rw[a4 _ (by lia) (by lia),a4 i (by lia) (by lia)]
   .rfl
  obtain⟨b1,b2,b3,b4,b5⟩:=GQ (key:=key) (p:=kas_rev p1 (n1-(q1+1)) n1) (n:=n1) (nrem:=nrem) (by lia) (by lia) (by rw[Td];lia) (λi j hij hj=>by rw[same,same];exact a3 i j hij hj);rw[hr];exact⟨(b1.trans WU).trans a1,(b2.trans Td).trans a2,b3,b4,b5⟩
 .rw[QH hq]at hr
  obtain⟨b1,b2,b3,b4,b5⟩:=GQ (key:=key) (p:=p1) (n:=n1) (nrem:=nrem) (by lia) (by lia) (by lia) a3;rw[hr];exact⟨b1.trans a1,b2.trans a2,b3,b4,b5⟩
def wA{nrem:Nat}(h1:1<=nrem)(hz:nrem<=p.size) :
  let r:=Kj (kl key) (kas_count nrem p)
  r.2.Perm p/\r.2.size=p.size/\srt key r.2 r.1/\1<=r.1/\r.1<=nrem:=by
 intro r;have hr:r=Kj (kl key) (kas_count nrem p):=rfl;unfold kas_count at hr;rw[SK]at hr
 obtain⟨a1,a2,a3,a4⟩:=Nb (key:=key) (p:=p) (nrem-1) 1 (Qo _) (λi j hij hj=>by
  have:i=j:=by lia
  subst this;exact JW _)
 generalize Kj (kl key) (kas_asc p (nrem-1) 1)=n at hr a1 a2 a3 a4;by_cases hn:(n==nrem)=yM
 .rw[Qp hn]at hr
  unfold Kj at hr;rw[hr];exact⟨Uc _,rfl,a1,a2,by show n<=nrem;lia⟩
 .rw[QH hn]at hr
  have hlt:=a4 (by lia);by_cases hn1:n > 1
  .rw[Qp hn1]at hr
   unfold Kj at hr;cases c:kl key (p.getD 0 0) (p.getD (n-1) 0)with
   |true=>rw[c]at hr;(try dsimp only at hr);rw[if_pos yK]at hr;unfold Kj at hr;rw[hr];exact⟨Uc _,rfl,a1,a2,by show n<=nrem;lia⟩
   |false=>
    rw[c]at hr;(try dsimp only at hr);rw[if_neg (by decide)]at hr;have hge:KA key p (n-1)<=KA key p 0:=Ui.mp (Jc c);have all   :=λi hi=>Ub (Int.le_trans (a1 i (n-1) (by lia) (by lia)) hge) (a1 0 i (by lia) hi)
    have same:∀i,KA key (kas_rev p 0 n) i=KA key p i:=λi=>by
     rw[Ry (by lia)];split
     .rw[all _ (by lia),all i (by lia)]
     .rfl
    obtain⟨b1,b2,b3,b4,b5⟩:=Fz (key:=key) (p:=kas_rev p 0 n) (n:=n) (nrem:=nrem) a2 (by lia) (by rw[Td];exact hz) (λi j hij hj=>by
     rw[same,same];by_cases al:j=n
     .subst al
      by_cases hin:i=j
      .subst hin;exact JW _
      .rw[all i (by lia)]
       rw[all (j-1) (by lia)]at hlt;exact Int.le_of_lt hlt
     .rw[all i (by lia),all j (by lia)];exact JW _)
    rw[hr];exact⟨b1.trans WU,b2.trans Td,b3,b4,b5⟩
  .rw[QH hn1]at hr
   have:n=1:=by lia
   subst this
   obtain⟨b1,b2,b3,b4,b5⟩:=Fz (key:=key) (p:=p) (n:=1) (nrem:=nrem) (Qo _) (by lia) hz (λi j hij hj=>by
    by_cases hij2:i=j
    .subst hij2;exact JW _
    .have h0:i=0:=by lia
     have h1:j=1:=by lia
     subst h0;subst h1;exact Int.le_of_lt hlt)
   rw[hr];exact⟨b1,b2,b3,b4,b5⟩
theorem NK{k:Nat}(hs:srt key p k):∀(f l r:Nat),l<=r->r<=k->r-l<=f->(∀i,i<l->KA key p i<=KA key p k)->(∀i,r<=i->i<k->KA key p k<KA key p i) ->
  let m:=Kj (kl key) (kas_place p k f l r)
  m<=k/\(∀i,i<m->KA key p i<=KA key p k)/\(∀i,m<=i->i<k->KA key p k<KA key p i)
 |0,l,r,hlr,hrk,hf,h1,h2=>⟨by show l<=k;lia,h1,λi (hi:l<=i)=>h2 i (by lia)⟩
 |f+1,l,r,hlr,hrk,hf,h1,h2=>by
  intro m;have hm:m=Kj (kl key) _:=rfl;unfold kas_place at hm;by_cases hge:l ≥ r
  .rw[Qp hge]at hm
   unfold Kj at hm;rw[hm];exact⟨by lia,h1,λi hi=>h2 i (by lia)⟩
  .rw[QH hge]at hm
   unfold Kj at hm;cases c:kl key (p.getD k 0) (p.getD ((l+r) / 2) 0)with
   |true=>rw[c]at hm;rw[hm];have hlt   :=Qa c;exact NK hs f l ((l+r) / 2) (by lia) (by lia) (by lia) h1 λi hi hik=>Int.lt_of_lt_of_le hlt (hs _ _ hi hik)
   |false=>rw[c]at hm;(try dsimp only at hm);rw[hm];have hle   :=Ui.mp (Jc c);exact NK hs f ((l+r) / 2+1) r (by lia) hrk (by lia) (λi hi=>Int.le_trans (hs i ((l+r) / 2) (by lia) (by lia)) hle) h2
theorem Hn:∀(f:Nat)(p:Array Nat)(k:Nat),k+f<=p.size->srt key p k->let r:=Kj (kl key) (kas_bin f p k);r.Perm p/\r.size=p.size/\srt key r (k+f)
 |0,p,k,_,hs=>⟨Uc _,rfl,hs⟩
 |f+1,p,k,hz,hs=>by
  intro r;have hr:r=Kj (kl key) _:=rfl;unfold kas_bin at hr;rw[SK]at hr;obtain⟨a1,a2,a3⟩:=NK (key:=key) hs k 0 k (J4 _) (Qo _) (by omega) (λi hi=>by omega) (λi h1 h2=>by omega);generalize Kj (kl key) (kas_place p k k 0 k)=l at hr a1 a2 a3;have hk:k<p.size:=by omega
  obtain⟨b1,b2,b3⟩:=Hn f (bubble p k (k-l)) (k+1) (by rw[bubble_size];omega) (λi j hij hj=>by
   rw[Ga hk (by omega),Ga hk (by omega),show k-(k-l)=l by omega];by_cases hi:i=l
   .rw[Qp hi]
    by_cases zA:j=l
    .rw[Qp zA];exact JW _
    .rw[QH zA,Qp (by omega)]
     exact Int.le_of_lt (a3 (j-1) (by omega) (by omega))
   .rw[QH hi]
    by_cases hi2:l<i/\i<=k
    .rw[Qp hi2,QH (show ¬j=l by omega),Qp (by omega)]
     exact hs _ _ (by omega) (by omega)
    .rw[QH hi2]
     by_cases zA:j=l
     .rw[Qp zA];exact a2 i (by omega)
     .rw[QH zA]
      split
      .exact hs _ _ (by omega) (by omega)
      .exact hs _ _ (by omega) (by omega))
  rw[hr];exact⟨b1.trans (bubble_perm _ _ _),b2.trans (bubble_size _ _ _),by rw[show k+(f+1)=k+1+f by omega];exact b3⟩
def xK{n:Nat}(h1:1<=n):let r:=Kj (kl key) (kas_sort n);r.Perm (List.toArray (Uu n))/\r.size=n/\srt key r n:=by
 intro r;have hr:r=Kj (kl key) _:=rfl;unfold kas_sort at hr;rw[SK]at hr;have hsz:(List.toArray (Uu n)).size=n:=by simp
 obtain⟨a1,a2,a3,a4,a5⟩:=wA   (nrem:=n) h1 (by rw[hsz];exact Qo _);generalize Kj (kl key) (kas_count n _)=d at hr a1 a2 a3 a4 a5;by_cases hlt:d.1<n
 .rw[Qp hlt]at hr
  have hmax:max d.1 1=d.1:=by lia
  rw[hmax]at hr;obtain⟨b1,b2,b3⟩:=Hn  (n-d.1) d.2 d.1 (by lia) a3;rw[hr];exact⟨b1.trans a1,by lia,by rw[show d.1+(n-d.1)=n by lia]at b3;exact b3⟩
 .rw[QH hlt]at hr
  unfold Kj at hr;rw[hr];exact⟨a1,by lia,by rw[show d.1=n by lia]at a3;exact a3⟩
def Asks{α:Type}(N:Nat)(R:α->Prop):KasT α->Prop
 |.ret a=>R a
 |.ask i j k=>i<N/\j<N/\∀b,Asks N R (k b)
theorem Asks.bind   {R:α->Prop}{S:β->Prop}{f}(hf:∀a,R a->Asks N S (f a)):∀{t},Asks N R t->Asks N S (t.bind f)
 |.ret a,h=>hf a h
 |.ask _ _ k,⟨h1,h2,h3⟩=>⟨h1,h2,λb=>Asks.bind hf (h3 b)⟩
theorem Hm   {cmp}{s}{N}{R}(hc:∀i j C,i<N->j<N->C (lt i j) s->cmp i j C s):∀(t:KasT α)(Q),Asks N R t->Q (Kj lt t) s->t.kasWp cmp Q s
 |.ret _,_,_,h=>h
 |.ask i j k,Q,⟨h1,h2,h3⟩,h=>hc i j _ h1 h2 (Hm hc _ Q (h3 _) h)
def bnd(N:Nat)(p:Array Nat):Prop:=∀i,p.getD i 0<N
def SG  {p q}(hN:0<N)(h:bnd N p)(e:q.Perm p):bnd N q:=λi=>by
 rw[Jy];cases z:q[i]? with
 |none=>simp_all
 |some v=>have hm   :=Array.mem_of_getElem? z;have hm2   :=e.mem_iff.mp hm;obtain⟨j,hj,e2⟩:=Array.mem_iff_getElem.mp hm2;have:=h j;simp_all
section
variable{N:Nat}(hN:0<N)
include hN
theorem Na{p}(h:bnd N p):∀(f n),Asks N (λ_=>True) (kas_asc p f n)
 |0,_=>trivial
 |f+1,n=>⟨h _,h _,λb=>by
  cases b with
  |true=>trivial
  |false=>exact Na h f _⟩
theorem PU:∀(f)(p)(n q),bnd N p->Asks N (λr=>bnd N r.1) (kas_desc f p n q)
 |0,p,_,_,h=>h
 |f+1,p,n,q,h=>⟨h _,h _,λb=>by
  cases b with
  |true=>
   dsimp only;rw[Qp yK];split
   .exact PU f _ _ _ (SG hN h WU)
   .exact PU f _ _ _ h
  |false=>
   refine⟨h _,h _,λb=>?_⟩;cases b with
   |true=>exact h
   |false=>exact PU f _ _ _ h⟩
theorem GP{p}{n nrem}(h:bnd N p):Asks N (λr=>bnd N r.2) (kas_tail3 n nrem p):=
 Asks.bind   (S:=λr   =>bnd N r.2) (f:=λm=>.ret (m,kas_rev p 0 n)) (λ_ _=>SG   hN h WU) (Na hN (SG hN h WU) _ _)
theorem Fy{p}{n nrem}(h:bnd N p):Asks N (λr=>bnd N r.2) (kas_descPart n nrem p):=
 Asks.bind (λr hr=>by
  split
  .exact GP hN (SG hN hr WU)
  .exact GP hN hr) (PU hN _ _ _ _ h)
theorem wz{p}{nrem}(h:bnd N p):Asks N (λr=>bnd N r.2) (kas_count nrem p):=
 Asks.bind  (λn _=>by
  split
  .exact h
  .split
   .refine⟨h _,h _,λb=>?_⟩
    cases b with
    |true=>exact h
    |false=>exact Fy hN (SG hN h WU)
   .exact Fy hN h) (Na hN h _ _)
theorem NJ{p}(h:bnd N p)(k):∀(f l r),Asks N (λ_=>True) (kas_place p k f l r)
 |0,_,_=>trivial
 |f+1,l,r=>by
  unfold kas_place;split
  .trivial
  .refine⟨h _,h _,λb=>?_⟩
   cases b with
   |true=>exact NJ h k f _ _
   |false=>exact NJ h k f _ _
theorem Hl:∀(f)(p)(k),bnd N p->Asks N (λ_=>True) (kas_bin f p k)
 |0,_,_,_=>trivial
 |f+1,p,k,h=>Asks.bind  (λl _=>Hl f _ _ (SG hN h (bubble_perm _ _ _))) (NJ hN h k _ _ _)
end
def xJ  (hn:0<n):Asks n (λ_=>True) (kas_sort n):=by
 have hb:bnd n (List.toArray (Uu n)):=λi=>by
  by_cases hi:i<n
  .simp_all
  simp_all
 refine Asks.bind (λr hr=>?_) (wz hn hb);split
 .exact Hl hn _ _ _ hr
 .trivial
end
noncomputable def Kw(q:Int×Int):Int:=q.1*10000000+q.2
def okP(q:Int×Int):Prop:=-1000000<=q.2/\q.2<=1000000
def Ap  (hx:okP x)(hy:okP y):Kw x<Kw y ↔ (x.1<y.1∨x.1=y.1/\x.2<y.2):=by
 unfold Kw okP at *
 lia
def jO  (hx:okP x)(hy:okP y)(h:Kw x=Kw y):x=y:=by
 unfold Kw okP at *
 grind
section
variable{prog:Ul}{w:World}{A:Around}{E:Uj->Uk->Prop}{s:Uk}
def Pj(h:Heap)(v:Uj)(q:Int×Int):Prop:=∃a t u o n,v=.ref a/\h.get? a=O o/\o.cls=.type "tuple" /\ o.data=.seq #[.int q.1 t,.int q.2 u] n
def Ao{x y:Uj}{p q:Int×Int}{Q:Bool->Uk->Prop}(hx:Pj s.heap x p)(hy:Pj s.heap y q)(h:Q (decide (p.1<q.1∨p.1=q.1/\p.2<q.2)) s):Ur (model prog w) A (keyLt' (tuples' yM) x y) Q E s:=by
 obtain⟨a,t,u,o,n,rfl,e1,c1,d1⟩:=hx;obtain⟨b,t',u',o',n',rfl,e2,c2,d2⟩:=hy;refine kat_lt e1 d1 e2 d2 ?_;refine kat_cons (wpAny_eqBool_int ?_);by_cases h1:p.1=q.1
 .have e:(p.1==q.1)=yM:=by simpa using h1
  rw[e];refine kat_yes (kat_cons (wpAny_eqBool_int ?_));by_cases h2:p.2=q.2
  .have e:(p.2==q.2)=yM:=by simpa using h2
   rw[e];have:decide (p.1<q.1∨p.1=q.1/\p.2<q.2)=yN:=QF (by lia);rw[this]at h;exact h
  .have e:(p.2==q.2)=yN:=by simpa using h2
   rw[e];refine kat_no (kat_one _ _ (PyProof.Rows.lt_int ?_))
   have:decide (p.1<q.1∨p.1=q.1/\p.2<q.2)=decide (p.2<q.2):=by
    by_cases z:p.2<q.2
    .rw[QM z,QM (.inr ⟨h1,z⟩)]
    .rw[QF z,QF (by lia)]
   rw[this]at h;exact h
 .have e:(p.1==q.1)=yN:=by simpa using h1
  rw[e];refine kat_no (oneLt_int ?_)
  have:decide (p.1<q.1∨p.1=q.1/\p.2<q.2)=decide (p.1<q.1):=by
   by_cases z:p.1<q.1
   .rw[QM z,QM (.inl z)]
   .rw[QF z,QF (by lia)]
  rw[this]at h;exact h
def YO(h:Heap):yR->LP->Prop
 |[],[]=>True
 |v::vs,q::qs=>Pj h v q/\YO h vs qs
 |_,_=>False
theorem YO.get  : ∀{vs}{qs},YO h vs qs->vs.length=qs.length/\∀(i)(hi:i<vs.length),Pj h (vs.getD i .none) (qs.getD i (0,0))
 |[],[],_=>⟨rfl,λi hi=>absurd hi (Nat.not_lt_zero _)⟩
 |v::vs,q::qs,⟨h1,h2⟩=>by
  obtain⟨e,f⟩:=YO.get h2;refine⟨by simp_all,λi hi=>?_⟩;cases i with
  |zero=>exact h1
  |succ i=>exact f i (by simpa using hi)
theorem YO.tups  : ∀{vs}{qs},YO h vs qs->∃fs:yR,KatTups h vs fs/\fs.length=vs.length/\∀v∈fs,∃i t,v=.int i t
 |[],[],_=>⟨[],trivial,rfl,λ_ h=>by cases h⟩
 |v::vs,q::qs,⟨hp,h2⟩=>by
  obtain⟨a,t,u,o,n,rfl,e1,c1,d1⟩:=hp;obtain⟨fs,f1,f2,f3⟩:=YO.tups h2;refine⟨.int q.1 t::fs,.cons e1 c1 d1 yK f1,by simp_all,λv hv=>?_⟩;rcases Qs.mp hv with rfl|hv
  .exact⟨_,_,rfl⟩
  .exact f3 v hv
theorem YO.mono  (k:∀b o,h.get? b=O o->h'.get? b=O o):∀{vs}{qs},YO h vs qs->YO h' vs qs
 |[],[],_=>trivial
 |v::vs,q::qs,⟨hp,h2⟩=>by obtain⟨a,t,u,o,n,rfl,e1,c1,d1⟩:=hp;exact⟨⟨a,t,u,o,n,rfl,k _ _ e1,c1,d1⟩,YO.mono k h2⟩
def R6(qs:LP)(π:List Nat):Prop:=π.Perm (Uu qs.length)/\(π.map λi=>qs.getD i (0,0)).Pairwise λx y=>Kw x<=Kw y
def yD{a:Um}{vs:yR}{qs:LP}{n:Nat}{P:Fin->Uk->Prop}(ho:s.heap.get? a=O (seqObj "list" vs.toArray n))
  (hp:YO ((s.heap.update a (Obj.mapSeq λ_=>#[]))) vs qs) (hq:∀q∈qs,okP q) (h64:vs.length<64)
  (h:∀π:List Nat,R6 qs π->P (.done (.ret .none)) {s with heap:=sortedHeap s.heap a vs (List.toArray (π.map λi=>vs.getD i .none))}) :
  Ur (model prog w) A (Builtin.«list.sort» ⟨[.ref a],[]⟩) P E s:=by
 obtain⟨hl,hget⟩:=hp.get;rw[list_sort_plain];have ha:a<s.heap.objs.size:=Qg ho;refine Qb (listItems_at ho yK ?_);refine Qb (listUpdate_at ho yK ?_);obtain⟨e1,ho1⟩:∃e1,(s.heap.update a (Obj.mapSeq λ_=>#[])).get? a=O (seqObj "list" #[] e1):=⟨_,get?_update_seq ho (λ_=>#[])⟩
 refine Qb (seqEpoch_at ho1 yK ?_);refine Qb (wpAny_newTuple ?_);refine Qb (wpAny_newList ?_);refine Jl ?_;have ho6:(((s.heap.update a (Obj.mapSeq λ_=>#[])).push (seqObj "tuple" vs.toArray 0)).push (seqObj "list" #[] 0)).get? a=O (seqObj "list" #[] e1):=by rw[Heap.get?_push_ne _ _ _ (by rw[size_push',Heap.size_update];exact QJ (Nat.lt_succ_of_lt ha)),Heap.get?_push_ne _ _ _ (by rw[Heap.size_update];exact QJ ha)];exact ho1
 have hp6:YO (((s.heap.update a (Obj.mapSeq λ_=>#[])).push (seqObj "tuple" vs.toArray 0)).push (seqObj "list" #[] 0)) vs qs:=hp.mono λb o e=>Qe _ (Qe _ e)
 dsimp only;have hsz:vs.toArray.size=vs.length:=by simp
 by_cases h2:vs.toArray.size<2
 .rw[Qp h2,Qp h2]
  refine Qb (Qf ?_);rw[StateT.run_pure];refine Qb (Qf ?_);dsimp only;refine Qb (seqEpoch_at ho6 yK ?_);refine Qb (listUpdate_at ho6 yK ?_ (hsz2:=by rw[Array.size_map];show(pairsOf vs).size<=_;rw[pairsOf_size,Jn];lia));simp only[bne_self_eq_false,JI,J6]
  have hid:(arrOf (SortSt.mk' general' (vs.toArray.zip vs.toArray) #[] 7 yL)).map (·.2)=List.toArray ((Uu vs.length).map λi=>vs.getD i .none):=by
   show(vs.toArray.zip vs.toArray).map (·.2)=_
   apply Array.toList_inj.mp;apply List.ext_getElem?;intro i;simp only[Array.toList_map,Array.toList_zip,Qh,List.getElem?_zip_eq_some];by_cases hi:i<vs.length
   .simp[List.getElem?_zip_eq_some,hi,List.getElem?_range]
   .simp[hi]
  rw[hid];refine Qf (h (Uu vs.length) ⟨by rw[hl],?_⟩);rw[List.pairwise_map];rw[hsz]at h2
  rcases(show vs.length=0∨vs.length=1 by lia)with z|z<;>rw[z]
  .exact .nil
  .exact List.pairwise_singleton _ _
 .rw[QH h2,QH h2]
  rw[hsz]at h2;obtain⟨fs,f1,f2,f3⟩:=hp6.tups;refine Qb (kat_kind (T:=.type "int") f1 (by lia) (λv hv=>by obtain⟨i,t,rfl⟩:=f3 v hv;exact(show Looks _ _ (pure (Value.type "int")) _ from .now)) yK ?_)
  refine Qb (Qy (kat_run (ks:=vs) (G:=λp s'=>s' = {s with heap:=((s.heap.update a (Obj.mapSeq λ_=>#[])).push (seqObj "tuple" vs.toArray 0)).push (seqObj "list" #[] 0)}/\p=Kj (kl λi=>Kw (qs.getD i (0,0))) (kas_sort vs.length))
   (Q:=λst' s'=>s' = {s with heap:=((s.heap.update a (Obj.mapSeq λ_=>#[])).push (seqObj "tuple" vs.toArray 0)).push (seqObj "list" #[] 0)}/\failedOf st'=yL/\arrOf st'=(Kj (kl λi=>Kw (qs.getD i (0,0))) (kas_sort vs.length)).map (kas_item (vs.toArray.zip vs.toArray)))
   rfl (by lia) h64 (λp st' s' a1 a2 a3 a4=>⟨a4.1,a3,by rw[a2,a4.2]⟩) ?_) ?_ λ_ _ e=>e)
  .refine Hm (N:=vs.length) (R:=λ_=>True) (lt:=kl λi=>Kw (qs.getD i (0,0))) (λi j C hi hj hC=>?_) _ _ (xJ (by lia)) ⟨rfl,rfl⟩
   refine Ao (YO.get hp6 |>.2 i hi) (YO.get hp6 |>.2 j hj) ?_;have oi:okP (qs.getD i (0,0)):=hq _ (by rw[Jg,Qi (by lia)];exact JY _);have oj:okP (qs.getD j (0,0)):=hq _ (by rw[Jg,Qi (by lia)];exact JY _);have e:decide ((qs.getD i (0,0)).1<(qs.getD j (0,0)).1∨(qs.getD i (0,0)).1=(qs.getD j (0,0)).1/\(qs.getD i (0,0)).2<(qs.getD j (0,0)).2)=kl (λi=>Kw (qs.getD i (0,0))) i j:=by unfold kl;exact JZ.mpr (Ap oi oj).symm
   rw[e];exact hC
  .rintro⟨⟨⟩,st'⟩ s' ⟨rfl,hf,har⟩
   dsimp only;obtain⟨b1,b2,b3⟩:=xK (key:=λi=>Kw (qs.getD i (0,0))) (n:=vs.length) (by lia);generalize Kj (kl λi=>Kw (qs.getD i (0,0))) (kas_sort vs.length)=p at har b1 b2 b3;have hout:=kat_snds (ks:=vs) (vs:=vs) yK har;have hsz2:((arrOf st').map (·.2)).size=vs.length:=by rw[hout,Q4,Qd,J9,b2]
   refine Qb (seqEpoch_at ho6 yK ?_);refine Qb (listUpdate_at ho6 yK ?_ (hsz2:=by rw[hsz2,Jn];lia));rw[hf];simp only[bne_self_eq_false,JI,J6];rw[hout];refine Qf (h p.toList ⟨?_,?_⟩)
   .have:=Array.perm_iff_toList_perm.mp b1
    rw[←hl];exact this
   .rw[List.pairwise_map,List.pairwise_iff_getElem]
    intro i j hi hj hij;rw[J9,b2]at hi hj;have:=b3 i j (by lia) hj;unfold KA at this;rw[Jy,Jy,JF (by lia),JF (by lia)]at this;simpa using this
end
section
variable{prog:Ul}{w:World}{A:Around}{E:Uj->Uk->Prop}{s:Uk}
def yu{l:Um}{vs:yR}{qs:LP}{Q:Uj->Uk->Prop}(hl:s.heap.IsList l vs.toArray)(hp:YO s.heap vs qs)(hq:∀q∈qs,okP q)(h64:vs.length<64)
  (h:∀π:List Nat,R6 qs π->Q (.ref (s.heap.objs.size+1)) {s with heap:=sortedAll s.heap vs (List.toArray (π.map λi=>vs.getD i .none))}) :
  Ur (model prog w) A (call (.builtin "sorted") [.ref l]) Q E s:=by
 refine Calls.call_function_entry kind_sorted plain_sorted entry_sorted (args_sorted1 _) ?_;unfold Builtin.«sorted»;refine Qb  (Qf ?_);refine Qb (collect_list hl ?_);refine Qb (wpAny_newList ?_);have hsz:((s.heap.push (seqObj "list" #[] 0)).update s.heap.objs.size (Obj.mapSeq (· ++ vs.toArray))).objs.size=s.heap.objs.size+1:=by rw[Heap.size_update,size_push']
 have hoL:(((s.heap.push (seqObj "list" #[] 0)).update s.heap.objs.size (Obj.mapSeq (· ++ vs.toArray))).push (seqObj "list" vs.toArray 0)).get? (s.heap.objs.size+1)=O (seqObj "list" vs.toArray 0):=by rw[←hsz];exact Qt _ yK
 rw[hsz];refine Qb (Jl (JA slot_list_sort ⟨_,hoL,rfl⟩ entry_list_sort (yD (qs:=qs) hoL (hp.mono λb o e=>?_) hq h64 λπ a1=>⟨_,rfl,?_⟩) (args_list_sort _)))
 .have hlt:b<s.heap.objs.size:=Qg e
  dsimp only;have bn:(b:Nat)<s.heap.objs.size:=hlt;rw[Heap.get?_update_ne _ _ _ _ (QJ (Nat.lt_succ_of_lt bn)),Heap.get?_push_ne _ _ _ (by rw[hsz];exact QJ (Nat.lt_succ_of_lt bn)),Heap.get?_update_ne _ _ _ _ (QJ hlt),Heap.get?_push_ne _ _ _ (QJ hlt)];exact e
 .exact Qf ⟨_,rfl,h π a1⟩
end
end DL
namespace DL
open PySem PySem.Spec L2
open PyProof.Rows hiding St
section
variable{X:Cx}
theorem Hk   {σ:St}{H}(I:Inv X pins σ H s):∀{as:yU}{us}{qs},Vals (as.map V.ref) us->as.length=qs.length->(∀(i:Nat) a q,as[i]?=O a->qs[i]?=O q->SqT X.K H a [.int q.1,.int q.2])->YO s.heap us qs
 |[],_,[],.nil,_,_=>trivial
 |a::as,_,q::qs,.cons r t,hl,h=>by refine⟨?_,Hk I t (by simpa using hl) λi a q h1 h2=>h (i+1) a q (by simpa using h1) (by simpa using h2)⟩;cases r;obtain⟨its,rv,⟨o,e,c,n,d⟩,_⟩:=I.tuple (h 0 a q yK yK);obtain⟨u,v,rfl,r1,r2⟩:=rv.two;obtain⟨t1,rfl⟩:=r1;obtain⟨t2,rfl⟩:=r2;exact⟨a,t1,t2,o,n,rfl,e,c,by simpa using d⟩
theorem HZ{as:yU}{us}(r:Vals (as.map V.ref) us):∀(π:List Nat),(∀i∈π,i<as.length)->Vals (π.map λi=>V.ref (as.getD i 0)) (π.map λi=>us.getD i .none)
 |[],_=>.nil
 |i::π,h=>by
  refine .cons ?_ (HZ r π λj hj=>h j (Qm _ hj));have hi:=h i Qn;have e:(as.map V.ref)[i]?=O (.ref (as.getD i 0)):=by simp[List.getD,List.getElem?_eq_getElem hi]
  obtain⟨u,e2,ru⟩:=r.get e;simp only[List.getD,e2];exact ru
def wy:YD X (.builtin "sorted") (λxs H Q=>∃l,∃as:yU,∃qs:LP,xs=[.ref l]/\SqL X.K H l (as.map V.ref)/\as.length=qs.length/\(∀(i:Nat) a q,as[i]?=O a->qs[i]?=O q->SqT X.K H a [.int q.1,.int q.2])/\(∀q∈qs,okP q)/\qs.length<64 /\
  ∀π p,R6 qs π->H p=yL->Q (.ref p) (upd H p (.lst (π.map λi=>V.ref (as.getD i 0))))):=by
 intro pins s σ H xs us Q I rx h;obtain⟨l,as,qs,rfl,hq,hl,ht,ho,hb,q⟩:=h;obtain⟨u,rfl,ru⟩:=rx.one;cases ru;obtain⟨its,rv,p,hz⟩:=I.list hq;have hn:its.length=qs.length:=by have:=rv.length;rw[Qd]at this;lia
 refine yu (qs:=qs) p.isList (Hk I rv hl ht) ho (by lia) λπ hπ=>?_
 obtain⟨e,he⟩:=sortedAll_at s.heap its _
 have hπl:∀i∈π,i<as.length:=λi hi=>by
  have:=hπ.1.mem_iff.mp hi;rw[JC]at this
  lia
 refine⟨.ref _,_,I.laid  (λb o=>sortedAll_old) (JM _) (show ZL X.prog X.w _ _ _ (.lst _)from⟨?_,_,e,HZ rv π hπl,he⟩),rfl,q π _ hπ (I.hok.fresh (JM _))⟩;rw[Qd,hπ.1.length_eq,List.length_range];rw[Qd]at hz
 lia
noncomputable def Pi:D->Option (Int×Int)
 |.tuple [.int a,.int b]=>O (a,b)
 |_=>yL
def VU:yO->Option LP
 |[]=>O []
 |d::r=>(Pi d).bind λq=>(VU r).map (q :: ·)
noncomputable def Kl(q:Int×Int):D:=.tuple [.int q.1,.int q.2]
def xI   (h:Pi d=O q):d=Kl q:=by
 unfold Pi at h;split at h
 .cases h;rfl
 simp_all
theorem GW:∀{ds}{qs},VU ds=O qs->ds=qs.map Kl
 |[],qs,h=>by cases h;rfl
 |d::r,qs,h=>by
  unfold VU at h;cases z:Pi d with
  |none=>simp_all
  |some q=>
   rw[z]at h;cases z2:VU r with
   |none=>simp_all
   |some qs'=>rw[z2]at h;cases h;rw[xI z,GW z2];rfl
theorem FD:∀qs:LP,VU (qs.map Kl)=O qs
 |[]=>rfl
 |q::r=>by rw[QI,VU,FD r];rfl
def WG(qs:LP):LP:=qs.mergeSort λx y=>decide (Kw x<=Kw y)
def GO(qs:LP):(WG qs).Perm qs:=List.mergeSort_perm ..
def HY(qs):(WG qs).Pairwise λx y=>Kw x<=Kw y:=by have:=List.pairwise_mergeSort (le:=λx y   =>decide (Kw x<=Kw y)) (by intro a b c;simp;lia) (by intro a b;simp;lia) qs;exact this.imp (by simp)
theorem O9:∀{a b:LP},(∀x∈a,okP x)->a.Perm b->a.Pairwise (λx y=>Kw x<=Kw y)->b.Pairwise (λx y=>Kw x<=Kw y)->a=b
 |[],b,_,p,_,_=>by simp_all
 |x::a,[],_,p,_,_=>by simp_all
 |x::a,y::b,ok,p,ha,hb=>by
  have hx:Kw y<=Kw x:=by
   rcases Qs.1 (p.mem_iff.1 (Qn ..))with e|e
   .simp_all
   .exact(JT.1 hb).1 x e
  have hy:Kw x<=Kw y:=by
   rcases Qs.1 (p.mem_iff.2 (Qn ..))with e|e
   .simp_all
   .exact(JT.1 ha).1 y e
  have oky   :=ok y (p.mem_iff.2 (Qn ..));have e:=jO (ok x (Qn ..)) oky (Ub hy hx);subst e;rw[O9 (λz hz=>ok z (Qm _ hz)) (List.Perm.cons_inv p) (JT.1 ha).2 (JT.1 hb).2]
def jN   (ok:∀q∈qs,okP q)(h:R6 qs π):(π.map λi=>qs.getD i (0,0))=WG qs:=by
 have hp   :=by
  have h1:=h.1.map λi=>qs.getD i (0,0)
  have e:(Uu qs.length).map (λi=>qs.getD i (0,0))=qs:=by
   apply List.ext_getElem?;intro i;rw[Qh];by_cases hi:i<qs.length
   .rw[List.getElem?_range hi];simp[List.getD,List.getElem?_eq_getElem hi]
   .simp_all
  rw[e]at h1;exact h1
 exact O9 (λx hx=>ok x (hp.mem_iff.mp hx)) (hp.trans (GO qs).symm) h.2 (HY qs)
noncomputable def okPB(q:Int×Int):Bool:=decide (-1000000<=q.2/\q.2<=1000000)
def Rx:yO->yQ
 |[.list ds]=>(match VU ds with
  |some qs=>if qs.length<64/\qs.all okPB=yM then O (.list ((WG qs).map Kl))else yL
  |none=>yL)
 |_=>yL
def ww   (h:Rx xs=O d):∃qs:LP,xs=[.list (qs.map Kl)]/\qs.length<64/\(∀q∈qs,okP q)/\d=.list ((WG qs).map Kl):=by
 unfold Rx at h;split at h
 .rename_i ds
  cases z:VU ds with
  |none=>simp_all
  |some qs=>
   rw[z]at h;dsimp only at h;split at h
   .rename_i c
    cases h;exact⟨qs,by rw[GW z],c.1,λq hq=>(show -1000000<=q.2/\q.2<=1000000 from Qa (QL.mp c.2 q hq)),rfl⟩
   simp_all
 simp_all
theorem Gv{K}{G}:∀{vs}{qs:LP},Reps K G vs (qs.map Kl)->∃as:yU,vs=as.map V.ref/\as.length=qs.length/\∀(i:Nat) a q,as[i]?=O a->qs[i]?=O q->SqT K G a [.int q.1,.int q.2]
 |_,[],.nil=>⟨[],rfl,rfl,λi a q h=>by simp_all⟩
 |_,q::qs,.cons r t=>by
  obtain⟨as,rfl,hl,h⟩:=Gv t;obtain⟨a,ws,rfl,h1,r1⟩:=r.tup_inv;cases r1 with
  |cons ra rb=>
   obtain⟨v,rfl,rb'⟩:=rb.one_inv;refine⟨a::as,rfl,by simp_all,λi a' q' e1 e2=>?_⟩;cases i with
   |zero=>cases e1;cases e2;rw[ra.int_inv,rb'.int_inv]at h1;simp_all
   |succ i=>exact h i a' q' (by simpa using e1) (by simpa using e2)
def jM{K}{G}{a}{q}(h:SqT K G a [.int q.1,.int q.2]):Rep K G (.ref a) (Kl q):=.tup h (.cons (.int _) (.cons (.int _) .nil))
theorem Gu{K}{G}{as:yU}{qs:LP}(hl:as.length=qs.length)(h:∀(i:Nat) a q,as[i]?=O a->qs[i]?=O q->SqT K G a [.int q.1,.int q.2]):∀π:List Nat,(∀i∈π,i<qs.length)->Reps K G (π.map λi=>V.ref (as.getD i 0)) ((π.map λi=>qs.getD i (0,0)).map Kl)
 |[],_=>.nil
 |i::π,hb=>by
  refine .cons ?_ (Gu hl h π λj hj=>hb j (Qm _ hj));have hi:=hb i Qn;refine jM (h i _ _ ?_ ?_)
  .simp_all
  simp_all
def An:YK X (.builtin "sorted") Rx:=by refine⟨_,wy,λvs G H ds d Q s r e k=>?_⟩;obtain⟨qs,rfl,h64,ok,rfl⟩:=ww e;obtain⟨v,rfl,q1⟩:=r.one_inv;obtain⟨l,ws,rfl,h1,r1⟩:=q1.lst_inv;obtain⟨as,rfl,hl,ht⟩:=Gv r1;refine⟨l,as,qs,rfl,s.seq h1,hl,λi a q e1 e2=>YB s (ht i a q e1 e2),ok,h64,λπ p hπ hp=>?_⟩;have hb:∀i∈π,i<qs.length:=λi hi=>JC.mp (hπ.1.mem_iff.mp hi);have rr:=(Gu hl ht π hb).mono (Zj (s.free hp):Same G (upd G p (.lst (π.map λi=>V.ref (as.getD i 0)))));rw[jN ok hπ]at rr;exact k _ _ _ (Ext.new s hp) (.lst (SqL.of Kz) rr)
def YK.or   (h1:YK X f p)(h2:YK X f q):YK X f (λxs=>(p xs).orElse λ_=>q xs):=by
 obtain⟨r1,c1,k1⟩:=h1;obtain⟨r2,c2,k2⟩:=h2;refine⟨λxs H Q=>r1 xs H Q∨r2 xs H Q,λpins s σ H xs us Q I rx h=>?_,λvs G H ds d Q s r e k=>?_⟩
 .rcases h with h|h
  .exact c1 pins s σ H xs us Q I rx h
  .exact c2 pins s σ H xs us Q I rx h
 .dsimp only at e
  cases z:p ds with
  |some d'=>rw[z]at e;cases e;exact .inl (k1 vs G H ds _ Q s r z k)
  |none=>rw[z]at e;exact .inr (k2 vs G H ds _ Q s r e k)
def V0(xs:yO):yQ:=(Sx xs).orElse λ_=>Rx xs
def CI:YK X (.builtin "sorted") V0:=As.or An
def GN  (h:ns.length<64):V0 [.list (ns.map .int)]=O (.list ((Yq ns).map .int)):=by unfold V0;rw[kY h];rfl
def xH  (h:qs.length<64)(ok:∀q∈qs,okP q):V0 [.list (qs.map Kl)]=O (.list ((WG qs).map Kl)):=by
 cases qs with
 |nil=>
  have e1:WG []=[]:=by unfold WG;simp
  have e2:Yq []=[]:=by unfold Yq;simp
  have:=GN (ns:=[]) (by decide);rw[e2]at this;rw[e1];exact this
 |cons q r=>unfold V0;unfold Rx;dsimp only;rw[FD];exact Qp ⟨h,QL.mpr λq hq=>QM (ok q hq)⟩
end
section
variable{X:Cx}{B G0:Hp}{e o a b c tg:Up}{pos p2:Pos}{es rest:yS}{te to ti:TE}
def VZ{β:Type}(p:D->D->Option β)(f:M D)(j:Nat):M β:=U3 f λx=>λZ=>match Z[j]? with
 |some (O (.pub d))=>U7 (p x d) Z
 |some (O (.own ds))=>U7 (p x (.list ds)) Z
 |_=>.bad
def Eg{K}{σ}{H}{p}{r:R2}{j}{f}{Q}{QV}(hq:∀t H3,Q t H3->QV (.bl t) H3)
  (hr:∀v u G H x y d Q,Same G H->Rep K G v x->Rep K G u y->p x y=O d->Q (.bl d) H->r v u H Q)
  (q:tBo K B G0 (VZ p f j) σ H Q):tD K B G0 f σ H λx H1=>KI j σ H1 λy H2=>r x y H2 QV:=by
 refine tM.one  q λv H2 G Z x k rx a=>?_
 cases z:Z[j]? with
 |none=>rw[z]at a;exact a.elim
 |some o=>
  cases o with
  |none=>rw[z]at a;exact a.elim
  |some sl=>
   cases sl with
   |deep _ _=>rw[z]at a;exact a.elim
   |pub d=>rw[z]at a;obtain⟨d',e',a'⟩:=aft.opt a;obtain⟨u,h1,h2⟩:=k.pub j d z;exact⟨u,h1,hr v u G H2 x d d' _ k.gh rx h2 e' (hq _ _ (a' d' G H2 k (.refl _) yK))⟩
   |own ds=>rw[z]at a;obtain⟨d',e',a'⟩:=aft.opt a;obtain⟨ad,vs,h1,h2,h3,h4,h5⟩:=k.own j ds z;exact⟨.ref ad,h1,hr v _ H2 H2 x _ d' _ (.refl _) (rx.mono k.gh) (.lst (SqL.of h4) (h5.mono k.gh)) e' (hq _ _ (a' d' G H2 k (.refl _) yK))⟩
def Am    {f}(o:OpB X (Ut op) p)(ha:PE X a (tD X.K B G0 f))(hb:PE X b (KI j))(hm:behindInMarks op b=yN) :
  PT X (.Compare a [op] [b] pos) (tBo X.K B G0 (VZ p f j)):=by
 obtain⟨r,h,i⟩:=o;exact YR (OU h ha hb hm) λσ H Q q=>Eg (λt H3 z=>⟨t,rfl,z⟩) i q
def Nn   {f}{j}{Z Z1}{x}{ds}{r:β}(h1:f Z=.ok x Z1)(h2:Z1[j]?=O (O (.own ds)))(h3:p x (.list ds)=O r):VZ p f j Z=.ok r Z1:=by exact KR h1 (by rw[h2];exact ZE h3)
end
end DL
namespace HT
open PySem PyProof.Rows
end HT
namespace DL
open PySem PySem.Spec L2
open PyProof.Rows hiding St
section
variable{X:Cx}
noncomputable def Sr(x y:D):Option yO:=match x,y with
 |.list xs,.int k=>if -1000000<=k/\k<=1000000/\xs.length*k.toNat<=1000000 then O (Uv k.toNat xs).flatten else yL
 |_,_=>yL
def xG   (h:Sr x y=O ds):∃xs k,x=.list xs/\y=.int k/\(-1000000<=k/\k<=1000000/\xs.length*k.toNat<=1000000)/\ds=(Uv k.toNat xs).flatten:=by
 unfold Sr at h;split at h
 .simp_all
 simp_all
def Rh(f g:M D):M yO:=U3 f λx=>U3 g λy=>U7 (Sr x y)
def Al{f g}(ha:PE X a (tD X.K B G0 f))(hb:PE X b (tD X.K B G0 g)):PE X (.BinOp a .Mult b pos) (tL X.K B G0 (Rh f g)):=
 Kp (Mi LZ ha hb) λσ H Q ⟨G,Z,k,q⟩=>by
  refine⟨G,Z,k,?_⟩;unfold Rh U3 at q;cases z:f Z with
  |bad=>simp_all
  |ok x Z1=>
   rw[z]at q;dsimp only at q;intro v G1 H1 k1 s1 r1;refine⟨G1,Z1,k1,?_⟩;cases z2:g Z1 with
   |bad=>simp_all
   |ok y Z2=>
    rw[z2]at q;dsimp only[U7]at q;intro u G2 H2 k2 s2 r2;cases z3:Sr x y with
    |none=>simp_all
    |some ds=>rw[z3]at q;obtain⟨xs,i,rfl,rfl,c,rfl⟩:=xG z3;obtain⟨l,vs,rfl,h1,w⟩:=r1.lst_inv;exact⟨l,i,vs,rfl,r2.int_inv,k2.gh.seq (s2.seq h1),by lia,by lia,by rw[w.length];exact QE c.2.2 lim,λp hp=>q p _ G2 _ (k2.ext (Ext.hid k2.gh hp)) (s1.trans s2) (NewL.of k2 hp ((w.mono s2).rep _))⟩
def Ak  {Z Z1 Z2}{x}{n}(h1:f Z=.ok (.list [x]) Z1)(h2:g Z1=.ok (.int n) Z2)(h:n<=1000):Rh f g Z=.ok (Uv n x) Z2:=by
 unfold Rh U3;rw[h1];dsimp only;rw[h2];dsimp only[U7];have e:Sr (.list [x]) (.int n)=O (Uv n x):=by unfold Sr;dsimp only;rw[Qp ⟨by lia,by lia,by show 1*_<=_;lia⟩];simp_all
 rw[e]
end
end DL
namespace DL
open PySem
def lz0{P:yR->Prop}{us}(hl:us.length=0)(h:P []):P us:=by simp_all
def lzS{P:yR->Prop}{us}{n}(hl:us.length=n+1)(h:∀a r,r.length=n->P (a::r)):P us:=by
 cases us with
 |nil=>simp_all
 |cons a r=>exact h a r (Nat.succ.inj hl)
def lz1{P:yR->Prop}{us}(hl:us.length=1)(h:∀a,P [a]):P us:=lzS hl λa r e=>lz0 (P:=λr=>P _) e (h a)
def lz2{P:yR->Prop}{us}(hl:us.length=2)(h:∀a b,P [a,b]):P us:=lzS hl λa r e=>lz1 (P:=λr=>P _) e (h a)
def lz3{P:yR->Prop}{us}(hl:us.length=3)(h:∀a b c,P [a,b,c]):P us:=lzS hl λa r e=>lz2 (P:=λr=>P _) e (h a)
def lz4{P:yR->Prop}{us}(hl:us.length=4)(h:∀a b c d,P [a,b,c,d]):P us:=lzS hl λa r e=>lz3 (P:=λr=>P _) e (h a)
def lz5{P:yR->Prop}{us}(hl:us.length=5)(h:∀a b c d e,P [a,b,c,d,e]):P us:=lzS hl λa r e=>lz4 (P:=λr=>P _) e (h a)
def bz1  {ps:List Str}{us}(hl:us.length=1)(h:∀a,bindArgs fd {pos:=[a]}=pure (ps.zip [a])):bindArgs fd {pos:=us}=pure (ps.zip us):=lz1 (P:=λus=>bindArgs fd {pos:=us}=pure _) hl h
def bz2  {ps:List Str}{us}(hl:us.length=2)(h:∀a b,bindArgs fd {pos:=[a,b]}=pure (ps.zip [a,b])):bindArgs fd {pos:=us}=pure (ps.zip us):=lz2 (P:=λus=>bindArgs fd {pos:=us}=pure _) hl h
def bz3  {ps:List Str}{us}(hl:us.length=3)(h:∀a b c,bindArgs fd {pos:=[a,b,c]}=pure (ps.zip [a,b,c])):bindArgs fd {pos:=us}=pure (ps.zip us):=lz3 (P:=λus=>bindArgs fd {pos:=us}=pure _) hl h
def bz4  {ps:List Str}{us}(hl:us.length=4)(h:∀a b c d,bindArgs fd {pos:=[a,b,c,d]}=pure (ps.zip [a,b,c,d])):bindArgs fd {pos:=us}=pure (ps.zip us):=lz4 (P:=λus=>bindArgs fd {pos:=us}=pure _) hl h
def bz5  {ps:List Str}{us}(hl:us.length=5)(h:∀a b c d e,bindArgs fd {pos:=[a,b,c,d,e]}=pure (ps.zip [a,b,c,d,e])):bindArgs fd {pos:=us}=pure (ps.zip us):=lz5 (P:=λus=>bindArgs fd {pos:=us}=pure _) hl h
end DL
namespace DL
open PySem PySem.Spec L2
open PyProof.Rows hiding St
noncomputable def whole(h:Heap):Frag:=(Uu h.objs.size).filterMap λa=>(h.get? a).map λo=>(a,o)
theorem Gs{g:Um->Option Obj}{x}:∀l:yU,(l.filterMap λa=>(g a).map λo=>(a,o)).lookup x=if x∈l then g x else yL
 |[]=>rfl
 |y::l=>by
  have ih:=Gs (g:=g) (x:=x) l;by_cases e:x=y
  .subst e
   rw[Qp Qn];cases z:g x with
   |none=>rw[List.filterMap_cons_none (by simp_all),ih,z];split<;>rfl
   |some o=>simp_all
  .have m:(x∈y::l)=(x∈l):=by simp_all
   have b:(x==y)=yN:=by simpa using e
   have ih':(if x∈y::l then g x else yL)=_:=(by simp only[m];exact ih.symm)
   rw[ih'];cases z:g y with
   |none=>simp_all
   |some o=>rw[List.filterMap_cons_some (by rw[z];rfl),QT,b]
def YQ   : (whole h).lookup a=h.get? a:=by
 unfold whole;rw[Gs];split
 .rfl
 .rename_i n
  cases z:h.get? a with
  |none=>rfl
  |some o=>exact absurd (JC.mpr (Qg z)) n
def jL(h:Heap):(whole h).In h:=λa o e=>by rw[YQ]at e;exact e
noncomputable def Ef(st:Stmt):Option DefRec:=match st with
 |.FunctionDef name a b _ _ _ sc _ _ pos=>O ⟨name,a,b,sc,pos⟩
 |_=>yL
noncomputable def RE(st:Stmt):Option Str:=match st with
 |.FunctionDef name _ _ _ _ _ _ _ _ _=>O name
 |_=>yL
noncomputable def Ee(st:Stmt):Pos:=match st with
 |.FunctionDef _ _ _ _ _ _ _ _ _ pos=>pos
 |_=>⟨0,0,0,0⟩
noncomputable abbrev Ku(p:Ul)(i:Nat):Stmt:=p.main.body.getD i (.Pass ⟨0,0,0,0⟩)
def Tc(p:Ul)(ix:List Nat):List DefRec:=ix.filterMap λi=>Ef (Ku p i)
section
variable{p q:Ul}{loose:List Str}{mean:ExcName->yT}{mg mb:Str->yT}{h:Heap}{w:World}
def Ph  (T:Top q loose mean mg mb h)(e:recsOf q=Tc p ix)(i:Nat)(x:Str)(hi:ix.contains i=yM)(hn:RE (Ku p i)=O x):∃f fd,mg x=O (.ref f)/\Fun (whole h) x x (Ku p i) f fd:=by
 cases hs:Ku p i with
 |FunctionDef name a b _ _ _ sc _ _ pos=>
  rw[hs]at hn;cases hn;have hd:(⟨x,a,b,sc,pos⟩)∈recsOf q:=by rw[e];exact List.mem_filterMap.mpr ⟨i,by simpa using hi,by rw[hs];rfl⟩
  obtain⟨f,⟨oc,od,dt,osl⟩,pm,cd,doc,h1,h2,h3,h4⟩:=T.fn _ hd;subst h3;refine⟨f,_,h1,⟨⟨oc,od,.none,doc,pm,_,cd,_,osl,rfl,by rw[YQ];exact h2,?_⟩,?_⟩⟩
  .obtain⟨c,⟨_,_,dc,_⟩,vs,t,rfl,g1,g2,g3⟩:=h4
   subst g2;unfold PySem.W.codeIn;dsimp only;rw[YQ,g1];dsimp only;have g4:vs.toList[1]?=O (.str x t):=by rw[Array.getElem?_toList];exact g3
   cases hv:vs.toList with
   |nil=>rw[hv]at g4;cases g4
   |cons v0 r=>
    rw[hv]at g4;cases r with
    |nil=>cases g4
    |cons v1 r=>cases g4;exact beq_self_eq_true _
  .unfold PySem.W.keepIn
   dsimp only;rw[YQ,h2]
 |_=>rw[hs]at hn;cases hn
def xF{K}{x qual y}{st}{f}{fd}(F:Fun K x qual st f fd)
  (hb:∀(kV doc pm)(an)(cdv ct v),bindArgs (PySem.W.fnOf x qual (XQ st) (Yc st) (K7 st) .none kV doc pm an cdv ct) ⟨[v],[]⟩=pure [(y,v)]) (s) (v):BindsTo s fd ⟨[v],[]⟩ [(y,v)]:=by
 obtain⟨oc,od,kV,doc,pm,an,cdv,ct,osl,rfl,lk,hcd⟩:=F.ex;exact .of_eq (hb kV doc pm an cdv ct v)
noncomputable def R5(q:Ul)(loose:List Str)(x:Str):Bool:=
 !startupNames.contains x && !loose.contains x && !((recsOf q).map (·.name)).contains x && !((litsOf q).map (·.1)).contains x && !((clssOf q loose).map (·.name)).contains x
def YN(T:Top q loose mean mg mb h){xs:List Str}(e:xs.all (R5 q loose)=yM){x}(hx:x∈xs):mg x=yL:=by have:=QL.mp e x hx;unfold R5 at this;simp only[Qz,Bool.not_eq_true',List.contains_eq_mem,decide_eq_false_iff_not]at this;exact T.free x this.1.1.1.1 this.1.1.1.2 this.1.1.2 this.1.2 this.2
def PR(T:Top q loose mean mg mb h){x}{i}(e:valOf q x=O (.int i)):∃t,mg x=O (.int i t):=by obtain⟨v,h1,h2⟩:=T.const x _ e;have:=h2 h;cases this;exact⟨_,h1⟩
theorem Mh:∀{vs}{ss},StrsAre vs ss->Vals (ss.map V.str) vs
 |_,_,.nil=>.nil
 |_,_,.cons y t r=>.cons ⟨t,rfl⟩ (Mh r)
def xE(B:Tables q w mg h){x}{ss}(e:tupStrsOf q x=O ss)(hl:ss.length<=1000) :
  ∃ad o its n,mg x=O (.ref ad)/\(whole h).lookup ad=O o/\o.cls=.type "tuple" /\ o.data=.seq its n/\its.size<=Uq/\Vals (ss.map V.str) its.toList:=by
 obtain⟨a,vs,h1,⟨o,h2,h3,n,h4⟩,h5⟩:=B.tupS x ss e;have r:=Mh h5;refine⟨a,o,_,n,h1,by rw[YQ];exact h2,h3,h4,?_,r⟩;have:=r.length;rw[Qd]at this;have l:(1000)<=Uq:=by decide
 rw[Q4]
 lia
end
noncomputable def scOk(sc:Scope)(N gl:List Str):Bool:=(N.all λx=>match sc.names.lookup x with|some .local=>yM|some .cell=>yM|_=>yN)&&gl.all λx=>match sc.names.lookup x with|some .globalImplicit=>yM|_=>yN
def fnB(sc:Scope)(N gl:List Str):Bool:=decide (sc.kind=.function) && !sc.isCoroutine && !sc.isGenerator&&decide N.Nodup&&(sc.names.all λy=>match y.2 with | .free=>yN|_=>yM)&&scOk sc N gl
structure FnNm(sc:Scope)(N gl:List Str):Prop where
 kind:sc.kind=.function
 co:sc.isCoroutine=yN
 gen:sc.isGenerator=yN
 nd:N.Nodup
 nofree:∀y∈sc.names,y.2≠.free
 nm:∀x∈N,sc.names.lookup x=O .local∨sc.names.lookup x=O .cell
 gl:∀x∈gl,sc.names.lookup x=O .globalImplicit
def KG   (H:fnB sc N gl=yM):FnNm sc N gl:=by
 unfold fnB scOk at H;simp only[Qz,Jo,Bool.not_eq_true',QL]at H;obtain⟨⟨⟨⟨⟨h1,h2⟩,h3⟩,h4⟩,h5⟩,h6,h7⟩:=H;refine⟨h1,h2,h3,h4,λy hy e=>?_,λx hx=>?_,λx hx=>?_⟩
 .have:=h5 y hy;rw[e]at this;cases this
 .have:=h6 x hx
  split at this
  .rename_i e;exact .inl e
  .rename_i e;exact .inr e
  .simp_all
 .have:=h7 x hx
  split at this
  .rename_i e;exact e
  .simp_all
section
variable{sc:Scope}{N gl:List Str}{x:Str}
def nq(H:FnNm sc N gl):N.Nodup:=H.nd
def fq(H:FnNm sc N gl)(n):Tf N (N.take n) sc:=⟨H.kind,H.co,H.gen,H.nd,by grind,λx hx=>H.nm x (J8 hx),H.nofree⟩
def lq(H:FnNm sc N gl)(i:Nat)(h:N[i]?=O x:=by rfl):L2.Loc sc x:=H.nm x (Qr h)
def gq(H:FnNm sc N gl)(i:Nat)(h:gl[i]?=O x:=by rfl):sc.names.lookup x=O .globalImplicit:=H.gl x (Qr h)
def pq{X}{pos}(H:FnNm X.env.scope X.N gl)(i)(h:X.N[i]?=O x:=by rfl)(hd:(x==("__debug__" : Str))=yN:=by decide)(hc:(x==("__classdict__" : Str))=yN:=by decide):PE X (.Name x pos) (KI i):=
 MZ h ((H.nm x (Qr h)).elim .inl λz=>.inr (.inl z)) hd hc
end
def K5  {loose}{mean}{mg mb}{h}{ix}(P)(w)(base){ps}{k n:Nat}{F}(T:Top q loose mean mg mb h)(e:recsOf q=Tc p ix)(i:Nat)(x)(hi:ix.contains i=yM)(hn:RE (Ku p i)=O x)
  (ok:∀{f}{fd},Fun (whole h) x x (Ku p i) f fd->FnOk P w (whole h) mg base CX0 k f fd ps (spD (whole h) n F))
  (hb:∀(kV doc pm)(an)(cdv ct)(us),us.length=ps.length->bindArgs (PySem.W.fnOf x x (XQ (Ku p i)) (Yc (Ku p i)) (K7 (Ku p i)) .none kV doc pm an cdv ct) ⟨us,[]⟩=pure (ps.zip us)):Def P w (whole h) mg base x k n F:=by
 obtain⟨f,fd,m,FU⟩:=Ph T e i x hi hn;exact Def.mk m FU (FU.binds hb) (ok FU)
section
variable{X:Cx}{B G0:Hp}{e:Up}{pos:Pos}{es:yS}
def pdf{k kk n}{F}{g}{x}{p2}(d:Def X.prog X.w X.K X.mg X.base x k n F)(hr:Room kk X.A)(hg:Gl X x)(ha:PA X (e::es) (tDs X.K B G0 g))(hk:k<=kk:=by decide)(hn:(e::es).length=n:=by rfl)
  (hdb:(x==("__debug__" : Str))=yN:=by decide) (he:Us (e::es) X.env=(yN,eval e X.env)::Us es X.env:=by rfl) (hpl:(backTo pos (Us es X.env)).any (·.1)=yN:=by rfl) :
  PE X (.Call (.Name x p2) (e::es) [] pos) (tD X.K B G0 (UV n F g)):=BO d (hr.mono hk) hg ha hn hdb he hpl
end
def Ed  {loose}{mean}{mg mb}{h:Heap}{ix}{P}{w}{k:Nat}{F}{y:Str}{fa:Um}(T:Top q loose mean mg mb h)(e:recsOf q=Tc p ix)(i:Nat)(x:Str)(hi:ix.contains i=yM)(hn:RE (Ku p i)=O x)(hfa:mg x=O (.ref fa))
  (hb:∀(kV doc pm)(an)(cdv ct v),bindArgs (PySem.W.fnOf x x (XQ (Ku p i)) (Yc (Ku p i)) (K7 (Ku p i)) .none kV doc pm an cdv ct) ⟨[v],[]⟩=pure [(y,v)])
  (ok:∀(base:Heap){f:Um}{fd},Fun (whole h) x x (Ku p i) f fd->FnOk P w (whole h) mg base CX0 k f fd [y] (spD (whole h) 1 F)) :
  ∃fd:Uo,(∀(s)(v),BindsTo s fd ⟨[v],[]⟩ [(y,v)])/\∀base:Heap,FnOk P w (whole h) mg base CX0 k fa fd [y] (spD (whole h) 1 F):=by
 obtain⟨f,fd,m,FU⟩:=Ph T e i x hi hn;cases hfa.symm.trans m;exact⟨fd,xF FU hb,λbase=>ok base FU⟩
noncomputable def VD:D->Bool
 |.str x=>decide (x.length<=1000)
 |.int i=>decide (0<=i)&&decide (i<10 ^ 10)
 |.none=>yM
 |_=>yN
def WL(nm:Str)(ds:yO):Option yO:=match Yn nm with
 |[]=>(match ds with | [.str _]=>O [] | _=>yL)
 |f::fs=>if ds.length=(f::fs).length/\ds.all VD=yM then O ds else yL
noncomputable abbrev exD(nm:Str)(ds:yO):D:=.dict [(.none,.tuple [.str nm,.list ds])]
section
variable{K:Frag}{G H H':Hp}{nm:Str}{C a:Um}{bm:yR}{vs:List V}{ds fs:yO}{dd:yY}
def CH   (r:Rep K G v d)(h:VD d=yM):∃y,FmtV v y/\y.length<=4000:=by
 cases r with
 |non=>exact⟨_,.non,by decide⟩
 |bl b=>cases h
 |int i=>
  unfold VD at h;simp only[Qz,Jo]at h;have h64:i.natAbs<2 ^ 64:=by lia
  refine⟨_,.int i ?_,QE (toString_length_le h.1 (by decide) h.2) (by decide)⟩;by_cases z:i.natAbs=0
  .rw[z];decide
  .have:=(Nat.log2_lt z).mpr h64
   lia
 |str x=>have h:=Qa h;exact⟨x,.str x (QE h (by decide)),QE h (by decide)⟩
 |lst _ _=>cases h
 |tup _ _=>cases h
 |dic _=>cases h
 |exc _ _ _ _=>cases h
 |dct _ _ _ _ _=>cases h
 |dtt _ _ _ _=>cases h
theorem LA:∀{vs}{ds},Reps K G vs ds->ds.all VD=yM->∀u∈vs,∃y,FmtV u y/\y.length<=4000
 |_,_,.nil,_,u,hu=>by simp_all
 |_,_,.cons r t,h,u,hu=>by
  rw[Ji,Qz]at h;rcases Qs.mp hu with rfl|hu
  .exact CH r h.1
  .exact LA t h.2 u hu
def jK(r:Reps K G vs ds)(e:WL nm ds=O fs):Ma nm vs:=by
 unfold WL at e;split at e
 .rename_i hf
  split at e
  .obtain⟨v,rfl,q⟩:=r.one_inv
   exact .inl ⟨hf,_,by rw[q.str_inv]⟩
  simp_all
 .rename_i f l hf
  split at e
  .rename_i c
   refine .inr ⟨by simp_all,by rw[r.length,hf];exact c.1,LA r c.2⟩
  simp_all
def Aj(c:ClsK K nm C bm)(s:Same G H)(ha:H a=yL)(r:Reps K G vs ds)(e:WL nm ds=O fs)(p:N9 nm C a vs (upd H a (.ext (XO yM a C yL))) dd H') :
  ∃G',Ext G H G' (upd H' a (.ext (XO yN a C dd)))/\Rep K G' (.ref a) (exD nm fs)/\H' a=O (.ext (XO yM a C dd)):=by
 unfold WL at e;rcases p with ⟨hf,rfl,rfl⟩|⟨hf,hl,dx,rfl,hd,hne,rfl⟩
 .rw[hf]at e
  dsimp only at e;split at e
  .cases e
   refine⟨upd G a (.ext (XO yN a C yL)),?_,.exc (vs:=[]) c Kz ⟨hf,rfl⟩ .nil,Kz⟩;rw[L9];exact Ext.new s ha
  .cases e
 .split at e
  .rename_i hf';exact absurd hf' hf
  .split at e
   .cases e
    have hd'   :=by rw[Km hne]at hd;exact hd
    have eH:upd (upd (upd (upd H a (.ext (XO yM a C yL))) a (.ext (XO yM a C (O dx)))) dx (.ext (XD dx ((Yn nm).zip vs)))) a (.ext (XO yN a C (O dx)))=upd (upd H a (.ext (XO yN a C (O dx)))) dx (.ext (XD dx ((Yn nm).zip vs))):=by
     funext b;by_cases h1:b=a
     .subst h1;rw[Kz,Km (Ne.symm hne),Kz]
     .rw[Km h1]
      by_cases h2:b=dx
      .subst h2;rw[Kz,Kz]
      .rw[Km h2,Km h1,Km h1,Km h2,Km h1]
    have x1:Ext G H _ (upd H a (.ext (XO yN a C (O dx)))):=Ext.new s ha;have hd2:upd H a (.ext (XO yN a C (O dx))) dx=yL:=by rw[Km hne];exact hd'
    have x2:=x1.trans (Ext.new (o:=.ext (XD dx ((Yn nm).zip vs))) x1.gh hd2);exact⟨_,by rw[eH];exact x2,.exc (dd:=O dx) (vs:=vs) c (by rw[Km (Ne.symm hne)];exact Kz) ⟨hl.symm,Kz⟩ (r.mono x2.g),by rw[Km (Ne.symm hne)];exact Kz⟩
   .cases e
end
def Y2(nm:Str)(g:M yO):SM:=sB g λds Z=>match WL nm ds with|some fs=>.ex Z (exD nm fs)|none=>.bad
section
variable{X:Cx}{B G0:Hp}{KX:XW}{e a b c:Up}{pos p2 cpos:Pos}{es:yS}{st:Stmt}{sts:List Stmt}{nm x:Str}{k kk n:Nat}
def jJ{c:Bool}{g}(mk:MkX X.prog X.w X.K X.mg X.base nm k)(hr:Room kk X.A)(hc:X.calm=yM)(hw:Xu c X KX)(hg:Gl X nm)(ha:PA X (e::es) (tDs X.K B G0 g))(hk:k+1<=kk:=by decide)
  (hdb:(nm==("__debug__" : Str))=yN:=by decide) (he:Us (e::es) X.env=(yN,eval e X.env)::Us es X.env:=by rfl) (hpl:(backTo cpos (Us es X.env)).any (·.1)=yN:=by rfl) :
  PS X (.Raise (O (.Call (.Name nm p2) (e::es) [] cpos)) yL pos) (tS X.K B G0 KX (Y2 nm g)):=PS.kin λkin=>by
 obtain⟨C,bm,f,fd,ps,sp,hm,hkp,ck,xc,F,hb,aw⟩:=mk;refine K3 (jw (KC:=λC'=>C'=C) hc (λC' z=>by subst z;exact⟨bm,f,xc _ _ kin⟩) hw (jy (xc _ _ kin) F (hr.mono hk) hg hm hkp hb ha hdb he hpl)) λDn σ H q=>?_
 refine tS.bnd  q λvs H1 G1 Z1 ds k1 r a=>?_
 cases z:WL nm ds with
 |none=>rw[z]at a;exact a.elim
 |some fs=>
  rw[z]at a;have ar:=jK r z;refine⟨?_,λad had=>aw ad vs _ _ Kz ar λdd H' p=>⟨rfl,?_⟩⟩
  .rcases ar with ⟨_,x,rfl⟩|⟨_,hl,_⟩
   .exact(show 1<=Uq by decide)
   .rw[hl]
    unfold Yn;split
    .decide
    .split
     .decide
     .split<;>decide
  .obtain⟨G',ex,rp,hx⟩:=Aj ck k1.gh had r z p
   exact⟨ad,C,dd,rfl,rfl,hx,a (.ref ad) σ G' _ (k1.ext ex) ex.g rp⟩
inductive XR where
 |val (d:D)|exc (d:D)
noncomputable def spX(K:Frag)(n:Nat)(F:yO->Option XR):Sp:=λvs H Q E=>∃G ds r,vs.length=n/\Same G H/\Reps K G vs ds/\F ds=O r/\match r with
 |.val d=>∀v G' H',Ext G H G' H'->Rep K G' v d->Q v H'
 |.exc d=>∀ad G' H',Ext G H G' H'->Rep K G' (.ref ad) d->E (.ref ad) yL H'
def Oj(c:Bool)(P:Ul)(w:World)(K:Frag)(mg:Str->yT)(base:Heap)(x:Str)(k n:Nat)(F:yO->Option XR):Prop:=
 ∃(f:Um)(fd:Uo)(ps:List Str),mg x=O (.ref f)/\PySem.W.keepIn K (.ref f)=yM/\YC K fd ps []/\FnOk P w K mg base (YW c P w) k f fd ps (spX K n F)
abbrev ZK:=Oj yM
def aftX(K:Frag)(B G0:Hp)(KX:XW)(r:Res XR)(G:Hp)(σ:St)(Q:VK):Prop:=match r with
 |.ok (.val d) Z=>∀v G' H',EOk K B G0 G' H' σ Z->Same G G'->Rep K G' v d->Q v H'
 |.ok (.exc d) Z=>∀v G' H',EOk K B G0 G' H' σ Z->Same G G'->Rep K G' v d->KX v σ H'
 |.bad=>False
def tX(K:Frag)(B G0:Hp)(KX:XW)(f:M XR):TE:=λσ H Q=>∃G Z,EOk K B G0 G H σ Z/\aftX K B G0 KX (f Z) G σ Q
def Z8(n:Nat)(F:yO->Option XR)(g:M yO):M XR:=U3 g λxs=>if xs.length=n then U7 (F xs)else λ_=>.bad
def jI{c c1}{F}{g}(d:Oj c1 X.prog X.w X.K X.mg X.base x k n F)(hr:Room kk X.A)(hw:Xu c X KX)(hg:Gl X x)(ha:PA X (e::es) (tDs X.K B G0 g))(hk:k<=kk:=by decide)(hn:(e::es).length=n:=by rfl)(hcc:c=yM->c1=yM:=by decide)
  (hdb:(x==("__debug__" : Str))=yN:=by decide) (he:Us (e::es) X.env=(yN,eval e X.env)::Us es X.env:=by rfl) (hpl:(backTo pos (Us es X.env)).any (·.1)=yN:=by rfl) :
  PE X (.Call (.Name x p2) (e::es) [] pos) (tX X.K B G0 KX (Z8 n F g)):=by
 obtain⟨f,fd,ps,h1,h2,h3,h4⟩:=d;refine Kp (jv h4 (hr.mono hk) hg h1 h2 h3 hw ha hcc hdb he hpl) λσ H Q ⟨G,Z,k0,a⟩=>?_
 refine⟨G,Z,k0,?_⟩;unfold Z8 U3 at a;cases z:g Z with
 |bad=>rw[z]at a;exact a.elim
 |ok xs Z1=>
  rw[z]at a;dsimp only at a;intro vs G1 H1 k1 s1 r;by_cases hl:xs.length=n
  .rw[Qp hl]at a
   cases zF:F xs with
   |none=>rw[zF]at a;exact a.elim
   |some rr=>
    rw[zF]at a;refine⟨G1,xs,rr,by rw[r.length];exact hl,k1.gh,r,zF,?_⟩;cases rr with
    |val d=>exact λv G' H' ex rv=>a v G' H' (k1.ext ex) (s1.trans ex.g) rv
    |exc d=>intro bH G' H' ex rv ad ev;cases ev;exact a _ G' H' (k1.ext ex) (s1.trans ex.g) rv
  .rw[QH hl]at a;exact a.elim
noncomputable def sX(f:M XR)(g:D->SM):SM:=λZ=>match f Z with
 |.ok (.val d) Z'=>g d Z'
 |.ok (.exc d) Z'=>.ex Z' d
 |.bad=>.bad
def tS.bndX{K}{f}{g}{Dn}{σ}{H}{P:V->Hp->Prop}(q:tS K B G0 KX (sX f g) Dn σ H)
  (i:∀v H' G' Z' x,EOk K B G0 G' H' σ Z'->Rep K G' v x->aftS K B G0 KX (g x Z') G' Dn->P v H'):tX K B G0 KX f σ H P:=by
 obtain⟨G,Z,k,a⟩:=q;refine⟨G,Z,k,?_⟩;unfold sX at a;cases z:f Z with
 |bad=>rw[z]at a;exact a.elim
 |ok r Z1=>
  rw[z]at a;cases r with
  |val d=>exact λv G' H' e s r=>i v H' G' Z1 d e r (aftS.mono s a)
  |exc d=>exact λv G' H' e s r=>a v σ G' H' e s r
def jH  (h:PE X e (tX X.K B G0 KX f))(hs:swapsWith e yL pos.line X.env=pure yN:=by rfl):PS X (.Expr e pos) (tS X.K B G0 KX (sX f λ_ Z=>.nx Z)):=K3 (VL h hs) λD σ H q=>tS.bndX q λv H' G' Z' x k r a=>a σ G' H' k (.refl _)
def Ai  (h:PE X e (tX X.K B G0 KX f)):PS X (.Return (O e) pos) (tS X.K B G0 KX (sX f λd _=>.rt d)):=K3 (Pe h) λD σ H q=>tS.bndX q λv H' G' Z' x k r a=>a v G' H' k.exit r
def Ah    (hN:X.N.Nodup)(hi:X.N[i]?=O y)(hx:Loc X.env.scope y)(he:PE X e (tX X.K B G0 KX f))(hs:swapsWith e (O (.Name y p2)) pos.line X.env=pure yN:=by rfl)
  (hf:X.fn y=yM∨X.env.scope.names.lookup y=O .local:=by first|exact .inl rfl|exact .inr rfl|assumption):PS X (.Assign [.Name y p2] e pos) (tS X.K B G0 KX (sX f λd Z=>match gN i d Z with|some Z'=>.nx Z'|none=>.bad)):=
 K3 (Pd hN hi hx he hs hf) λD σ H q=>tS.bndX q λv H' G' Z' x k r a=>by
  unfold gN at a;split at a
  .rename_i Z2 hz
   split at hz
   .rename_i hi2
    cases hz;exact a _ G' H' (k.setPub r hi2) (.refl _)
   simp_all
  .exact a.elim
def Zp(N:List Str)(g:SM)(ds:yO):Option XR:=match g (YG N ds)with
 |.rt d=>O (.val d)
 |.nx _=>O (.val .none)
 |.ex _ d=>if Wp d=yM then O (.exc d)else yL
 |_=>yL
abbrev kxE(E:XK):XW:=λv _ H=>∃e,v=.ref e/\E (.ref e) yL H
def okX{c:Bool}{P:Ul}{w:World}{K}{mg}{base:Heap}{x qual:Str}{st:Stmt}{f:Um}{fd:Uo}{N ps:List Str}{k n:Nat}{g:SM}(F:Fun K x qual st f fd)(S:Tf N ps (K7 st))(hn:ps.length=n)
  (der:∀(cdv:Uj)(A:Around)(outer)(s:Uk)(H:Hp)(E:XK)(B G0:Hp),Room k (A.deeper (envOfC qual (K7 st) s.heap.objs.size f cdv)) ->
   PSs (Zl (YW c P w) P w K mg base N qual (K7 st) f cdv A outer s H E) (Yc st) (tS K B G0 (kxE E) g)):FnOk P w K mg base (YW c P w) (k+1) f fd ps (spX K n (Zp N g)):=by
 obtain⟨oc,od,kV,doc,pm,an,cdv,ct,osl,rfl,lk,hcd⟩:=F.ex;refine Mo lk hcd S (λvs H Q E h=>?_) λA outer s H vs Q E hr h=>?_
 .obtain⟨_,_,_,hl,_⟩:=h
  rw[hl,hn]
 .obtain⟨G,ds,r,hl,sg,rp,hF,q⟩:=h
  refine⟨_,der cdv A outer s H E H G hr,G,YG N ds,Ng sg rp,?_⟩;unfold Zp at hF;cases z:g _ with
  |rt d'=>rw[z]at hF;cases hF;exact λv G' H' ex rr=>q v G' H' ex rr
  |nx Z=>rw[z]at hF;cases hF;exact λσ' G' H' k' _=>q .non G' H' k'.exit .non
  |ex Z d=>
   rw[z]at hF;dsimp only at hF;split at hF
   .rename_i hx
    cases hF;intro v σ' G' H' k' _ rv
    obtain⟨ad,rfl⟩:∃ad,v=.ref ad:=by
     cases rv with
     |exc _ _ _ _=>exact⟨_,rfl⟩
     |dct _ _ _ _ _=>exact⟨_,rfl⟩
     |dtt _ _ _ _=>exact⟨_,rfl⟩
     |_=>cases hx
    exact⟨ad,rfl,q ad G' H' k'.exit rv⟩
   .cases hF
  |ro ds=>rw[z]at hF;cases hF
  |bk Z=>rw[z]at hF;cases hF
  |ct Z=>rw[z]at hF;cases hF
  |bad=>rw[z]at hF;cases hF
end
section
variable{K:Frag}{B G0 G H:Hp}{σ:St}{Z:US}
def EOk.unset  (k:EOk K B G0 G H σ Z):EOk K B G0 G H (σ.set i yL) (Z.set i yL) where
 bh:=k.bh
 gh:=k.gh
 g0:=k.g0
 np:=k.np
 len:=by rw[QZ,QZ];exact k.len
 pub:=λj d' q=>by
  by_cases z:i=j
  .subst z
   have:=YH q;cases this
  .rw[Qk z]at q⊢
   exact k.pub j d' q
 own:=λj ds q=>by
  by_cases z:i=j
  .subst z
   have:=YH q;cases this
  .rw[Qk z]at q⊢
   exact k.own j ds q
 sep:=λj l c es fs q1 q2 s1 s2=>by
  have z1:i≠j:=λz=>by subst z;have:=YH q1;cases this
  have z2:i≠l:=λz=>by subst z;have:=YH q2;cases this
  rw[Qk z1]at q1 s1;rw[Qk z2]at q2 s2;exact k.sep j l c es fs q1 q2 s1 s2
 dp:=k.dp.setOther (λs e=>by cases e)
end
def CK(K:Frag)(mg:Str->yT)(x:Str):Prop:=∃D bm,mg x=O (.ref D)/\ClsK K x D bm
noncomputable def Yt(x:Str):D->Bool
 |.dict [(.none,.tuple [.str nm,_])]=>decide (x=nm) || decide (x = "DealError")
 |_=>yN
def X9(i:Nat)(x:Str)(g h:SM):SM:=λZ=>match g Z with
 |.ex Z1 d=>if Yt x d=yM/\i<Z1.length then(match h (Z1.set i (O (.pub d)))with
  |.nx Z2=>.nx (Z2.set i yL)
  |.bk Z2=>.bk (Z2.set i yL)
  |.ct Z2=>.ct (Z2.set i yL)
  |.rt d2=>.rt d2
  |_=>.bad)else .bad
 |o=>o
section
variable{X:Cx}{B G0:Hp}{KX:XW}{e a b c:Up}{pos p2 cpos np hpos:Pos}{es:yS}{x n:Str}{k kk:Nat}
def xC{K}{G}{v}{d}{D'}{bmD}(r:Rep K G v d)(h:Yt x d=yM)(cD:ClsK K x D' bmD) :
  ∃a C dd bm,v=.ref a/\KC K C bm/\G a=O (.ext (XO yN a C dd))/\(Value.ref C::bm).contains (.ref D')=yM:=by
 unfold Yt at h;split at h
 .obtain⟨a,C,dd,bm,zP,vs,ds,rfl,e0,c,hx,_,_⟩:=r.exc_inv
  cases e0;exact⟨a,C,dd,bm,rfl,⟨_,c⟩,hx,by rw[c.has cD];exact h⟩
 simp_all
def Dk{i:Nat}{g h:SM}{body suite:List Stmt}{b₀:Stmt}{st:List Env}(cD:CK X.K X.mg x)(hg:Gl X x)(hN:X.N.Nodup)(hi:X.N[i]?=O n)(hl:X.env.kindOf n=O .local)
  (hb:∀(KX':XW)(W)(pn:List (Um×Obj)),Xu yN (X.tried W pn) KX'->PSs (X.tried W pn) body (tS X.K B G0 KX' g)) (hs:∀a,PSs (X.suite a) (b₀::suite) (tS X.K B G0 KX0 h))
  (zp:X.stack=X.env::st:=by rfl) (hfr:X.env.frame=O X.env.locals:=by rfl) (hdb:(x==("__debug__" : Str))=yN:=by decide) :
  PS X (.Try body [.ExceptHandler (O (.Name x np)) (O n) (b₀::suite) hpos] [] [] pos) (tS X.K B G0 KX (X9 i x g h)):=PS.kin λkin=>by
 obtain⟨D',bmD,hm,ck⟩:=cD;obtain⟨fD,xD⟩:=ck.cls (model X.prog X.w) X.base kin;refine K3 (Cc (KC:=KC X.K)   zp hfr (WI kin) xD hg hm hN hi hl hb hs hdb) λDn σ H ⟨G,Z,k,a⟩=>?_
 refine⟨G,Z,k,?_⟩;unfold X9 at a;cases z:g Z with
 |nx Z1=>rw[z]at a;exact a
 |rt d=>rw[z]at a;exact a
 |ro ds=>rw[z]at a;exact a
 |bk Z1=>rw[z]at a;exact a
 |ct Z1=>rw[z]at a;exact a
 |bad=>rw[z]at a;exact a.elim
 |ex Z1 d=>
  rw[z]at a;dsimp only at a;intro v σ1 G1 H1 k1 s1 r;by_cases hc:Yt x d=yM/\i<Z1.length
  .rw[Qp hc]at a
   obtain⟨ad,C,dd,bm,rfl,kc,hx,hct⟩:=xC r hc.1 ck;refine⟨ad,C,dd,bm,rfl,kc,k1.gh _ _ hx,hct,G1,_,k1.setPub r hc.2,?_⟩;cases z2:h _ with
   |nx Z2=>rw[z2]at a;exact λσ2 G2 H2 k2 s2=>a _ G2 H2 k2.unset (s1.trans s2)
   |bk Z2=>rw[z2]at a;exact λσ2 G2 H2 k2 s2=>a _ G2 H2 k2.unset (s1.trans s2)
   |ct Z2=>rw[z2]at a;exact λσ2 G2 H2 k2 s2=>a _ G2 H2 k2.unset (s1.trans s2)
   |rt d2=>rw[z2]at a;exact a
   |ex _ _=>rw[z2]at a;exact a.elim
   |ro _=>rw[z2]at a;exact a.elim
   |bad=>rw[z2]at a;exact a.elim
  .rw[QH hc]at a;exact a.elim
noncomputable def Ts:D->yQ
 |.dict [(.none,_)]=>O (.bool yM)
 |_=>yL
def Ag:bootBuiltins "ValueError" = O (.type "ValueError"):=by decide +kernel
def Af{f:M D}{p3:Pos}(hg:Gl X "isinstance")(hm:X.mg "isinstance" = yL)(ae:Gl X "ValueError")(hm2:X.mg "ValueError" = yL)(ha:PE X e (tD X.K B G0 f))
  (hs:Us [e,.Name "ValueError" p3] X.env=(yN,eval e X.env)::Us [.Name "ValueError" p3] X.env:=by rfl)
  (hs2:Us [.Name "ValueError" p3] X.env=[(yN,eval (.Name "ValueError" p3) X.env)]:=by rfl) :
  PE X (.Call (.Name "isinstance" p2) [e,.Name "ValueError" p3] [] pos) (tD X.K B G0 (U3 f λd=>U7 (Ts d))):=PE.kin λkin=>by
 refine Kp (RR (Hu (WI kin)) hg hm FS (Yd ha (Yd (L7 (v:=.ty "ValueError") ae hm2 Ag yK (by decide) (by decide)) Xo (by rfl)) hs) (by decide) (by decide) hs (by rfl)) λσ H Q q=>?_
 refine tM.one  q λv H2 G Z d k r a=>?_
 obtain⟨d',e',a'⟩:=aft.opt a;unfold Ts at e';split at e'
 .obtain⟨ad,C,dd,bm,zP,vs,ds,rfl,e0,c,hx,_,_⟩:=r.exc_inv
  cases e';exact⟨ad,C,dd,bm,yN,.ty "ValueError", yM,rfl,⟨_,c⟩,k.gh _ _ hx,.inr ⟨"ValueError", rfl,LM,by rw[c.ty];rfl⟩,a'.now k (.bl _)⟩
 .cases e'
def Wc(f:Str):D->yQ
 |.dict [(.none,.tuple [.str nm,.list ds])]=>((Yn nm).zip ds).lookup f
 |_=>yL
theorem GM{K}{G:Hp}{f}:∀{fs:List Str}{vs}{ds}{d:D},Reps K G vs ds->(fs.zip ds).lookup f=O d->f∈fs/\∃v,(fs.zip vs).lookup f=O v/\Rep K G v d
 |[],vs,ds,d,_,e=>by simp at e
 |g::fs,_,_,d,.nil,e=>by simp at e
 |g::fs,_,_,d,@Reps.cons _ _ v d0 vs ds r t,e=>by
  rw[Jh,QT]at e;rw[Jh,QT];cases z:f==g with
  |true=>rw[z]at e;cases e;exact⟨by rw[beq_iff_eq.mp z];exact Qn,v,rfl,r⟩
  |false=>rw[z]at e;obtain⟨h1,h2⟩:=GM t e;exact⟨Qm _ h1,h2⟩
def jG   (he:PE X e (tD X.K B G0 f))(hb:attributeBase e fl X.env (eval e X.env)=eval e X.env:=by rfl)(hq:fl∈(["part", "number", "row"]:List Str):=by decide) :
  PE X (.Attribute e fl pos) (tD X.K B G0 (U3 f λd=>U7 (Wc fl d))):=PE.kin λkin=>by
 refine Kp (AL (WI kin) (λC bm ⟨nm,c⟩=>c.fld _ _ kin fl hq) he hb) λσ H Q q=>?_;refine tM.one  q λv H2 G Z d k r a=>?_
 obtain⟨d',e',a'⟩:=aft.opt a;unfold Wc at e';split at e'
 .obtain⟨ad,C,dd,bm,zP,vs,ds,rfl,rfl',c,hx,hd,rr⟩:=r.exc_inv
  cases rfl';obtain⟨hm,w,e1,rw⟩:=GM rr e';cases dd with
  |none=>rw[hd.1]at hm;simp_all
  |some dx=>exact⟨ad,C,bm,dx,_,w,yN,rfl,⟨_,c⟩,k.gh _ _ hx,k.gh _ _ hd.2,e1,a'.now k rw⟩
 simp_all
end
def R4(o:Up)(name:Str)(apos:Pos)(args:yS)(pos:Pos):Prop:=∀env:Env,∃pl:Sem Bool,eval (.Call (.Attribute o name apos) args [] pos) env=(do
   let ov ←eval o env
   standAt apos.atName
   let (f,first) ←holding [ov] (getMethod ov name pl)
   callWith pos f first (backTo pos (Us args env)) (backToKw pos (keywordEach [] env)))
section
variable{P:Ul}{w:World}{K:Frag}{mg:Str->yT}{base:Heap}{st:Stmt}{f f0 D:Um}{fd aS:Uo}{q:Str}{p1 p2 p3 p4 p5 p6 p7 p8 p9 r1 r2 r3 r4 r5 r6 r7 r8 r9 q1 q2:Pos}{j1 j2:Nat}
def Ae(F:Fun K "__init__" q st f fd)(hn:FnNm (K7 st) ["self", "text"] ["ValueError"])(hm:mg "ValueError" = yL)
  (hb:Yc st=[.Expr (.Call (.Attribute (.Name "ValueError" p1) "__init__" p2) [.Name "self" p3,.Name "text" p4] [] p5) p6])
  (ht:R4 (.Name "ValueError" p1) "__init__" p2 [.Name "self" p3,.Name "text" p4] p5) :
  FnOk P w K mg base CX0 1 f fd ["self", "text"] (Pz (KC K)):=by
 refine F.ok (fq hn 2) (λvs H Q E ⟨a,C,dd,bm,x,e,_⟩=>by rw[e];rfl) λcdv A outer s H vs Q E hr ⟨a,C,dd,bm,x,e,kc,hx,hq⟩=>?_
 subst e;rw[hb];obtain⟨pl,ht⟩:=ht (Zl CX0 P w K mg base ["self", "text"] q _ f cdv A outer s H E).nox.env;refine⟨Mj (MK (KC K) _),PSs.kin λkin=>Tg (VL (ju  (WI kin) (gq hn 0) hm (Yd (pq hn 0) (Yd (pq hn 1) Xo)) (ht:=ht))),?_⟩;exact⟨_,rfl,_,rfl,a,C,dd,bm,_,rfl,kc,hx,hq⟩
def Ys(x y:Str):(x++y).length=x.length+y.length:=by exact Array.size_append
def Ad{t1 t2:Str}(M:Ri K D "__init__" f0)(F0:FnOk P w K mg base CX0 1 f0 aS ["self", "text"] (Pz (KC K)))(hb0:YC K aS ["self", "text"] [])(hm:mg "DealError" = O (.ref D))
  (F:Fun K "__init__" q st f fd) (hn:FnNm (K7 st) ["self", "part", "number"] ["DealError"])
  (hb:Yc st=[.Expr (.Call (.Attribute (.Name "DealError" p1) "__init__" p2) [.Name "self" p3,.JoinedStr [.Constant (.str t1) j1 p4,.FormattedValue (.Name "part" p5) (-1) yL p6,.Constant (.str t2) j2 p7,.FormattedValue (.Name "number" p8) (-1) yL p9] r1] [] r2) r3,
   .Assign [.Attribute (.Name "self" r4) "part" r5] (.Name "part" r6) r7,.Assign [.Attribute (.Name "self" r8) "number" r9] (.Name "number" q1) q2])
  (ht:R4 (.Name "DealError" p1) "__init__" p2 [.Name "self" p3,.JoinedStr [.Constant (.str t1) j1 p4,.FormattedValue (.Name "part" p5) (-1) yL p6,.Constant (.str t2) j2 p7,.FormattedValue (.Name "number" p8) (-1) yL p9] r1] r2)
  (hl1:t1.length<=1000) (hl2:t2.length<=1000) :
  FnOk P w K mg base CX0 2 f fd ["self", "part", "number"] (Py (KC K) ["part", "number"]):=by
 refine F.ok (fq hn 3) (λvs H Q E ⟨a,C,bm,us,e,hl,_⟩=>by rw[e,QD,hl];rfl) λcdv A outer s H vs Q E hr ⟨a,C,bm,us,e,hl,kc,hx,hf,hq⟩=>?_
 subst e
 match us,hl with
 |[u1,u2],_=>
 rw[hb];obtain⟨pl,ht⟩:=ht (Zl CX0 P w K mg base ["self", "part", "number"] q (K7 st) f cdv A outer s H E).nox.env;obtain⟨y1,f1,g1⟩:=hf u1 (by simp);obtain⟨y2,f2,g2⟩:=hf u2 (by simp)
 refine⟨W3 _ (W3 (R3 (KC K) (KI 0) (KI 1) "part") (R3 (KC K) (KI 0) (KI 2) "number")),
  PSs.kin λkin=>Tj (VL (Hw (pl:=pl) M F0 hr hb0 (gq hn 0) hm (Yd (pq hn 0) (Yd (Gm (.cons Pf (.cons (OC (pq hn 1)) (.cons Pf (.cons (OC (pq hn 2)) .nil))))) Xo)) (ht:=ht)))
   (Tj (OR (WI kin) (λC bm ⟨nm,c⟩=>c.fld _ _ kin "part" (by decide)) (pq hn 0) (pq hn 1) yK) (Tg (OR (WI kin) (λC bm ⟨nm,c⟩=>c.fld _ _ kin "number" (by decide)) (pq hn 0) (pq hn 2) yK))),?_⟩
 have e0:(Str.empty:Str).length=0:=rfl;have lz:(10000:Nat)<=Uq:=by decide
 refine⟨_,rfl,t1,rfl,by rw[Ys];lia,_,rfl,y1,f1,_,rfl,by rw[Ys,Ys];lia,t2,rfl,by rw[Ys,Ys,Ys];lia,_,rfl,y2,f2,_,rfl,by rw[Ys,Ys,Ys,Ys];lia,by rw[Ys,Ys,Ys,Ys];lia,?_⟩;refine⟨a,C,yL,bm,_,rfl,kc,hx,?_⟩;refine⟨_,rfl,_,rfl,a,C,bm,rfl,kc,.inl ⟨hx,λdx hd hne=>?_⟩⟩;refine⟨_,rfl,_,rfl,a,C,bm,rfl,kc,.inr ⟨dx,_,hne,by rw[Km (Ne.symm hne)];exact Kz,Kz,(show 1<900 by decide),?_⟩⟩;rw[L9];exact hq dx hd hne
def Ac{t1 g:Str}(M:Ri K D "__init__" f0)(F0:FnOk P w K mg base CX0 1 f0 aS ["self", "text"] (Pz (KC K)))(hb0:YC K aS ["self", "text"] [])(hm:mg "DealError" = O (.ref D))
  (F:Fun K "__init__" q st f fd) (hn:FnNm (K7 st) ["self", g] ["DealError"]) (hg:g∈(["part", "number", "row"]:List Str)) (hd1:(g==("__debug__" : Str))=yN:=by decide) (hd2:(g==("__classdict__" : Str))=yN:=by decide)
  (hb:Yc st=[.Expr (.Call (.Attribute (.Name "DealError" p1) "__init__" p2) [.Name "self" p3,.JoinedStr [.Constant (.str t1) j1 p4,.FormattedValue (.Name g p5) (-1) yL p6] r1] [] r2) r3,
   .Assign [.Attribute (.Name "self" r4) g r5] (.Name g r6) r7])
  (ht:R4 (.Name "DealError" p1) "__init__" p2 [.Name "self" p3,.JoinedStr [.Constant (.str t1) j1 p4,.FormattedValue (.Name g p5) (-1) yL p6] r1] r2)
  (hl1:t1.length<=1000) :
  FnOk P w K mg base CX0 2 f fd ["self", g] (Py (KC K) [g]):=by
 refine F.ok (fq hn 2) (λvs H Q E ⟨a,C,bm,us,e,hl,_⟩=>by rw[e,QD,hl];rfl) λcdv A outer s H vs Q E hr ⟨a,C,bm,us,e,hl,kc,hx,hf,hq⟩=>?_
 subst e
 match us,hl with
 |[u1],_=>
 rw[hb];obtain⟨pl,ht⟩:=ht (Zl CX0 P w K mg base ["self", g] q _ f cdv A outer s H E).nox.env;obtain⟨y1,f1,g1⟩:=hf u1 (by simp);have v1:∀{pos:Pos},PE (Zl CX0 P w K mg base ["self", g] q (K7 st) f cdv A outer s H E).nox (.Name g pos) (KI 1):=pq hn 1 yK hd1 hd2
 refine⟨W3 _ (R3 (KC K) (KI 0) (KI 1) g),
  PSs.kin λkin=>Tj (VL (Hw (pl:=pl) M F0 hr hb0 (gq hn 0) hm (Yd (pq hn 0) (Yd (Gm (.cons Pf (.cons (OC v1) .nil))) Xo)) (ht:=ht)))
   (Tg (OR (WI kin) (λC bm ⟨nm,c⟩=>c.fld _ _ kin g hg) (pq hn 0) v1 yK)),?_⟩
 have e0:(Str.empty:Str).length=0:=rfl;have lz:(10000:Nat)<=Uq:=by decide
 refine⟨_,rfl,t1,rfl,by rw[Ys];lia,_,rfl,y1,f1,_,rfl,by rw[Ys,Ys];lia,by rw[Ys,Ys];lia,?_⟩;refine⟨a,C,yL,bm,_,rfl,kc,hx,?_⟩;exact⟨_,rfl,_,rfl,a,C,bm,rfl,kc,.inl ⟨hx,λdx hd hne=>hq dx hd hne⟩⟩
end
structure XSt(h:Heap)(nm:Str)(own:Option Stmt)(C N:Um)(bm:yR)(mN:Str->yT):Prop where
 ad:h.nsMap mainGlobals nm=O (.ref C)
 obj:∃q bs sn sub ab col dd k0 k1 k2 k3 k5,h.get? C=O (excClassObj nm q C N bs bm yM sn sub ab col dd k0 k1 k2 k3 k5 "ValueError.__new__")
 ns:h.Ns N mN
 quiet:∀x∈OE,mN x=yL
 up:nm = "DealError" /\ bm=VB∨nm ≠ "DealError" /\ ∃D,h.nsMap mainGlobals "DealError" = O (.ref D)/\bm=.ref D::VB
 init:match own with
  |none=>mN "__init__" = yL
  |some st=>∃f o pm cd doc,mN "__init__" = O (.ref f)/\h.get? f=O o/\o.cls=.type "function" /\ o.data=.func (methDef "__init__" (Vz nm) (XQ st) (Yc st) (K7 st) pm cd doc)/\h.CodeRec cd (Vz nm)
section
variable{h h':Heap}{nm:Str}{own:Option Stmt}{C N:Um}{bm:yR}{mN:Str->yT}
def Fl    (e:h.nsMap a x=O v)(k:∀b o,h.get? b=O o->h'.get? b=O o):h'.nsMap a x=O v:=by
 unfold Heap.nsMap at e⊢;cases z:h.get? a with
 |none=>simp_all
 |some o=>rw[k _ _ z];rw[z]at e;exact e
def XSt.keeps(x:XSt h nm own C N bm mN)(k:∀b o,h.get? b=O o->h'.get? b=O o):XSt h' nm own C N bm mN where
 ad:=Fl x.ad k
 obj:=let ⟨q,bs,sn,sub,ab,col,dd,k0,k1,k2,k3,k5,e⟩:=x.obj;⟨q,bs,sn,sub,ab,col,dd,k0,k1,k2,k3,k5,k _ _ e⟩
 ns:=x.ns.keeps k
 quiet:=x.quiet
 up:=x.up.imp id λ⟨a,D,b,c⟩=>⟨a,D,Fl b k,c⟩
 init:=by
  have z:=x.init;cases own with
  |none=>exact z
  |some st=>obtain⟨f,o,pm,cd,doc,h1,h2,h3,h4,h5⟩:=z;exact⟨f,o,pm,cd,doc,h1,k _ _ h2,h3,h4,h5.keeps k⟩
def dA(st:Stmt):Mm st=XQ st:=by cases st<;>rfl
def dB(st:Stmt):Ml st=Yc st:=by cases st<;>rfl
def dS(st:Stmt):MP st=K7 st:=by cases st<;>rfl
structure XYP(p:Ul)(l:XL0)(h:Heap):Prop where
 st:∃mc,h.Ns cStatics mc/\mc "thirdparty.any" = yL
 cl:∀c∈l,∃C N bm mN,XSt h c.1 (c.2.map λi=>XI (Ku p i)) C N bm mN
def XYP.keeps   (x:XYP p l h)(k:∀b o,h.get? b=O o->h'.get? b=O o):XYP p l h':=
 ⟨let ⟨mc,a,b⟩:=x.st;⟨mc,a.keeps k,b⟩,λc hc=>let ⟨C,N,bm,mN,z⟩:=x.cl c hc;⟨C,N,bm,mN,z.keeps k⟩⟩
def Dj{st:Stmt}{n}(b:xB h nm n=yM)(hown:own=yL->n=yN)(hs:∀st,own=O st->xSh h nm=O (yM,Tp nm st)):∃C N bm mN,XSt h nm own C N bm mN:=by
 unfold xB at b;split at b
 .rename_i C hC
  split at b
  .rename_i t dd cd sl ho
   simp only[Qz,Bool.not_eq_true',beq_iff_eq,Bool.or_eq_true,QL,Option.isNone_iff_eq_none]at b;obtain⟨⟨⟨⟨⟨⟨⟨⟨b1,b2⟩,b3⟩,b4⟩,b5⟩,b6⟩,b7⟩,b8⟩,b9⟩:=b;obtain⟨cn,cb,cm,cns,cq,chd,csn,csub,cab,ccol,cdel⟩:=cd;simp only at b2 b3 b4 b6 b7 b8 b9;subst b1 b2 b3 b4;split at b5
   .rename_i k0 k1 k2 k3 k4 k5 hsl
    have b5:=Qa b5;subst b5;have hsl':sl=#[k0,k1,k2,k3,O (.builtin "ValueError.__new__"),k5]:=by rw[←Array.toList_inj,hsl]
    subst hsl'
    have key:∃bm,cm=.ref C::bm/\(cn = "DealError" /\ bm=VB∨cn ≠ "DealError" /\ ∃D,h.nsMap mainGlobals "DealError" = O (.ref D)/\bm=.ref D::VB):=by
     split at b9
     .rename_i e
      exact⟨VB,Qa b9,.inl ⟨e,rfl⟩⟩
     .rename_i e
      split at b9
      .rename_i D hD
       exact⟨.ref D::VB,Qa b9,.inr ⟨e,D,hD,rfl⟩⟩
      .cases b9
    obtain⟨bm,rfl,up⟩:=key;refine⟨C,cns,bm,h.nsMap cns,hC,⟨_,_,_,_,_,_,_,_,_,_,_,_,ho⟩,.of_isNs b6,b7,up,?_⟩;cases own with
    |none=>
     rcases b8 with b8|b8
     .rw[hown yK]at b8;cases b8
     .exact b8
    |some st=>
     have e:=hs st yK;unfold xSh at e;rw[hC]at e;dsimp only at e;rw[ho]at e;dsimp only at e;split at e
     .rename_i a o fd sh hf hsh
      simp only[Option.some.injEq,Prod.mk.injEq,Jo]at e;obtain⟨e1,rfl⟩:=e;obtain⟨g1,g2,g3⟩:=Heap.fnAt_spec hf;unfold Heap.shapeAt at hsh;rw[hf]at hsh;obtain⟨n,q,ps,b,sc,g,cl,df,kd,doc,pm,an,code,ct,bi⟩:=fd;simp only[Option.map_some,Tp,dA,dB,dS,Option.some.injEq,FnShape.mk.injEq]at hsh;obtain⟨rfl,rfl,rfl,rfl,rfl,rfl,rfl,rfl,rfl,rfl,rfl,rfl,hc⟩:=hsh;exact⟨a,o,pm,code,doc,g1,g2,e1,g3,.of_ok hc⟩
     .cases e
   .cases b5
  .cases b
 .cases b
def Di  {l}{s}(e:xSeen l s=xGood p l):XYP p l s.heap:=by
 obtain⟨e1,e2⟩:=Ud e;obtain⟨e1,e3⟩:=Bool.and_eq_true_iff.mp e1;refine⟨⟨_,.of_isNs e1,Option.isNone_iff_eq_none.mp e3⟩,λc hc=>?_⟩;have q:=List.map_inj_left.mp e2 c hc;obtain⟨q1,q2⟩:=Ud q;refine Dj (st:=.Pass ⟨0,0,0,0⟩) q1 (λz=>?_) λst z=>?_
 .simp_all
 .cases hz:c.2 with
  |none=>simp_all
  |some i=>simp_all
end
def ME:mroOf (.type "ValueError")=pure VB:=by kernel_rfl
def Ec:typeLookup (.type "ValueError") "__setattr__" = pure (O (.builtin "object.__setattr__")):=by kernel_rfl
def EZ:typeLookup (.type "ValueError") "__getattribute__" = pure (O (.builtin "BaseException.__getattribute__")):=by kernel_rfl
def EY:typeLookup (.type "ValueError") "__getattr__" = pure yL:=by kernel_rfl
def EX:typeLookup (.type "ValueError") "__class__" = pure (O (.builtin "object.__class__")):=by kernel_rfl
def Ab:typeLookup (.type "ValueError") "part" = pure yL:=by kernel_rfl
def xA:typeLookup (.type "ValueError") "number" = pure yL:=by kernel_rfl
def Dh:typeLookup (.type "ValueError") "row" = pure yL:=by kernel_rfl
def Lz(v:Uj):refuseLoop v "__setattr__" VB=pure ():=by kernel_rfl
section
variable{h h':Heap}{nm:Str}{own ownD:Option Stmt}{C N D ND:Um}{bm:yR}{mN mD:Str->yT}{M:Model}
def XSt.along(x:XSt h nm own C N bm mN)(xD:XSt h "DealError" ownD D ND VB mD){y}{r}(hy:y∈OE)(hB:typeLookup (.type "ValueError") y=pure r):Zg M C y r h:=by
 obtain⟨q,bs,sn,sub,ab,col,dd,k0,k1,k2,k3,k5,e⟩:=x.obj;obtain⟨q',bs',sn',sub',au,col',zr,k0',k1',k2',k3',k5',e'⟩:=xD.obj;refine Zg.of e (Y5.miss e x.ns (x.quiet y hy) ?_);rcases x.up with ⟨_,rfl⟩|⟨_,D',zI,rfl⟩
 .exact Y5.base ME hB
 .have:=zI.symm.trans xD.ad
  cases this;exact Y5.miss e' xD.ns (xD.quiet y hy) (Y5.base ME hB)
def XSt.tail(x:XSt h nm own C N bm mN):Tail VB bm:=by
 rcases x.up with ⟨_,rfl⟩|⟨_,D',_,rfl⟩
 .exact Tail.base
 .exact Tail.own Tail.base
def Pa(h:Heap)(own ownD:Option Stmt)(mN mD:Str->yT)(nm:Str)(f:Um):Prop:=match own with
 |some _=>mN "__init__" = O (.ref f)
 |none=>mD "__init__" = O (.ref f)
def XSt.xcls(x:XSt h nm own C N bm mN){std:Stmt}(xD:XSt h "DealError" (O std) D ND VB mD){f:Um}(hf:Pa h own (O std) mN mD nm f):XCls M h C bm f:=by
 have hD:=xD.init;obtain⟨fD,oD,pmD,cdD,docD,g1,g2,g3,g4,g5⟩:=hD;obtain⟨q,bs,sn,sub,ab,col,dd,k0,k1,k2,k3,k5,e⟩:=id x.obj;obtain⟨q',bs',sn',sub',au,col',zr,k0',k1',k2',k3',k5',e'⟩:=id xD.obj
 have fin:Zg M C "__init__" (O (.ref f)) h/\∃o,h.get? f=O o/\o.cls=.type "function" :=by
  have z:=x.init;unfold Pa at hf;cases own with
  |some st=>obtain⟨f',o,pm,cd,doc,h1,h2,h3,h4,h5⟩:=z;have hf:mN "__init__" = O (.ref f):=hf;rw[h1]at hf;cases hf;exact⟨Zg.of e (Y5.hit e x.ns h1),o,h2,h3⟩
  |none=>
   rw[g1]at hf;cases hf;refine⟨Zg.of e (Y5.miss e x.ns z ?_),oD,g2,g3⟩;rcases x.up with ⟨hn,rfl⟩|⟨_,D',zI,rfl⟩
   .subst hn
    have:=x.ad.symm.trans xD.ad;cases this;rw[e]at e';cases e';have:=x.ns.eq_nsMap.trans xD.ns.eq_nsMap.symm;rw[this]at z;rw[g1]at z;cases z
   .have:=zI.symm.trans xD.ad
    cases this;exact Y5.hit e' xD.ns g1
 refine⟨⟨nm,q,N,bs,sn,sub,ab,col,dd,k0,k1,k2,k3,k5,e⟩,x.tail,fin.1,fin.2,x.along xD (by decide) Ec,x.along xD (by decide) EZ,x.along xD (by decide) EY,x.along xD (by decide) EX,λv=>?_⟩;rcases x.up with ⟨_,rfl⟩|⟨_,D',_,rfl⟩
 .exact Lz v
 .rw[refuseLoop_ref];exact Lz v
def SU(k:(whole h).In h'):∀b o,h.get? b=O o->h'.get? b=O o:=λb o e=>k b o (by rw[YQ];exact e)
def NI  {a}(n:h.Ns a mA)(y):PySem.W.nsIn (whole h) a y=O (mA y):=by
 obtain⟨⟨oc,od,dt,os⟩,es,ep,ho,hd,hk,hf⟩:=n;subst hd;unfold PySem.W.nsIn;rw[YQ,ho];dsimp only;have:=hf y;unfold nsFind findBy at this;rw[←Array.find?_toList]at this;rw[←this];cases z:es.toList.find? _ with
 |some e=>rfl
 |none=>
  rw[QH]
  .rfl
  .rw[List.any_eq_true]
   rintro⟨e,he,hr⟩;obtain⟨n,t,hk⟩:=hk e (Array.mem_toList_iff.mp he);unfold DictEntry.refKey at hr;simp_all
def XSt.nmd(x:XSt h nm own C N bm mN):NmAt (whole h) nm C:=by obtain⟨q,bs,sn,sub,ab,col,dd,k0,k1,k2,k3,k5,e⟩:=x.obj;exact⟨_,_,by rw[YQ];exact e,rfl,rfl⟩
def Fk  (n:h.Ns mainGlobals mg)(e:h.nsMap mainGlobals nm=O (.ref C)):R1 (whole h) nm=O C:=by unfold R1;rw[NI n,n.eq_nsMap,e]
def XSt.clsK  (n:h.Ns mainGlobals mg)(x:XSt h nm own C N bm mN){std:Stmt}(xD:XSt h "DealError" (O std) D ND VB mD){f:Um}(hf:Pa h own (O std) mN mD nm f):ClsK (whole h) nm C bm where
 ad:=Fk n x.ad
 nmd:=x.nmd
 up:=x.up.imp id λ⟨a,D',b,c⟩=>⟨a,D',Fk n b,c,by have:=b.symm.trans xD.ad;cases this;exact xD.nmd⟩
 cls:=λM h' k=>⟨f,(x.keeps (SU k)).xcls (xD.keeps (SU k)) (by unfold Pa at hf⊢;cases own<;>exact hf)⟩
 fld:=λM h' k y hy=>by
  have z:=x.keeps (SU k);have zD:=xD.keeps (SU k);simp only[Qs,QU,or_false]at hy;rcases hy with rfl|rfl|rfl
  .exact z.along zD (by decide) Ab
  .exact z.along zD (by decide) xA
  .exact z.along zD (by decide) Dh
def XSt.keep(x:XSt h nm own C N bm mN):PySem.W.keepIn (whole h) (.ref C)=yM:=by obtain⟨q,bs,sn,sub,ab,col,dd,k0,k1,k2,k3,k5,e⟩:=x.obj;unfold PySem.W.keepIn;unfold PySem.W.specialIn PySem.W.typeIn;dsimp only;rw[YQ,e];kernel_rfl
def XSt.fun{st}(x:XSt h nm (O st) C N bm mN):∃f fd,mN "__init__" = O (.ref f)/\Fun (whole h) "__init__" (Vz nm) st f fd:=by
 obtain⟨f,⟨oc,od,dt,osl⟩,pm,cd,doc,h1,h2,h3,h4,h5⟩:=x.init;subst h4;refine⟨f,_,h1,⟨⟨oc,od,.none,doc,pm,_,cd,_,osl,rfl,by rw[YQ];exact h2,?_⟩,?_⟩⟩
 .obtain⟨c,⟨_,_,dc,_⟩,vs,t,rfl,g1,g2,g3⟩:=h5
  subst g2;unfold PySem.W.codeIn;dsimp only;rw[YQ,g1];dsimp only;have g4:vs.toList[1]?=O (.str (Vz nm) t):=by simp_all
  cases hv:vs.toList with
  |nil=>simp_all
  |cons v0 r=>
   rw[hv]at g4;cases r with
   |nil=>cases g4
   |cons v1 r=>cases g4;exact beq_self_eq_true _
 .unfold PySem.W.keepIn
  dsimp only;rw[YQ,h2]
def tf1{K}:PySem.W.findIn K (.type "type") "__init__" = O (O (.builtin "type.__init__")):=by kernel_rfl
def tf2{K}:PySem.W.specialIn K (.builtin "type.__init__") "__get__" = O (O (.builtin "wrapper_descriptor.__get__")):=by kernel_rfl
def tf3{K:Frag}:PySem.W.takesIn K (.builtin "type.__init__")=O yN:=by kernel_rfl
def tf4{K}:PySem.W.findIn K (.type "type") "__getattribute__" = O (O (.builtin "type.__getattribute__")):=by kernel_rfl
def tf5{K:Frag}:PySem.W.subIn K (.type "type") (.type "type")=O yM:=by kernel_rfl
def XSt.clsFn{st:Stmt}(x:XSt h "DealError" (O st) D ND VB mD)(hs:∃mc,h.Ns cStatics mc/\mc "thirdparty.any" = yL){f:Um}(hf:mD "__init__" = O (.ref f)):Ri (whole h) D "__init__" f:=by
 obtain⟨f',o,pm,cd,doc,h1,h2,h3,h4,h5⟩:=x.init;rw[h1]at hf;cases hf;obtain⟨q,bs,sn,sub,ab,col,dd,k0,k1,k2,k3,k5,e⟩:=x.obj;obtain⟨mc,hc1,hc2⟩:=hs;have tD:PySem.W.typeIn (whole h) (.ref D)=O (.type "type"):=by unfold PySem.W.typeIn;dsimp only;rw[YQ,e];rfl
 have tf:PySem.W.typeIn (whole h) (.ref f)=O (.type "function"):=by unfold PySem.W.typeIn;dsimp only;rw[YQ,h2];exact Uh O h3
 refine⟨?_,?_,?_,?_⟩
 .unfold PySem.W.specialIn
  rw[tD];exact tf4 (K:=whole h)
 .unfold PySem.W.readsIn
  rw[NI hc1,hc2,tD,tf4,tf5];rfl
 .unfold PySem.W.findCls
  rw[tf1];dsimp only[Option.bind_some];rw[tf2];dsimp only[Option.bind_some];rw[tf3];have hfi:PySem.W.findIn (whole h) (.ref D) "__init__" = O (O (.ref f)):=by unfold PySem.W.findIn;dsimp only;rw[YQ,e];dsimp only;unfold PySem.W.alongIn PySem.W.ownIn;dsimp only;rw[YQ,e];dsimp only;rw[NI x.ns,h1]
  rw[hfi];dsimp only[Option.bind_some];rw[tf];rfl
 .unfold PySem.W.keepIn
  dsimp only;rw[YQ,h2];obtain⟨oc,od,dt,osl⟩:=o;subst h4;rfl
end
section
variable{h:Heap}{mg:Str->yT}{p:Ul}{l:XL0}{i j:Nat}{c:Str×Option Nat}{p1 p2 p3 p4 p5 p6 p7 p8 p9 r1 r2 r3 r4 r5 r6 r7 r8 r9 q1 q2:Pos}{j1 j2:Nat}
structure Root(p:Ul)(h:Heap)(mg:Str->yT)(i:Nat)(D f:Um)(fd:Uo):Prop where
 at':mg "DealError" = O (.ref D)
 ex:∃ND mD,XSt h "DealError" (O (XI (Ku p i))) D ND VB mD/\mD "__init__" = O (.ref f)
 cf:Ri (whole h) D "__init__" f
 bd:YC (whole h) fd ["self", "text"] []
 ok:∀(P:Ul)(w:World)(base:Heap),FnOk P w (whole h) mg base CX0 1 f fd ["self", "text"] (Pz (KC (whole h)))
def XSt.root     (x:XSt h "DealError" own C N bm mN):bm=VB:=by
 rcases x.up with ⟨_,rfl⟩|⟨z,_⟩
 .rfl
 .exact absurd yK z
def Aa(n:h.Ns mainGlobals mg)(Y:XYP p l h)(hD:(((("DealError" : Str),O i):Str×Option Nat)∈l))(hm:mg "ValueError" = yL)(hn:FnNm (K7 (XI (Ku p i))) ["self", "text"] ["ValueError"])
  (hb:Yc (XI (Ku p i))=[.Expr (.Call (.Attribute (.Name "ValueError" p1) "__init__" p2) [.Name "self" p3,.Name "text" p4] [] p5) p6])
  (ht:R4 (.Name "ValueError" p1) "__init__" p2 [.Name "self" p3,.Name "text" p4] p5)
  (hbz:∀(kV doc pm)(an)(cdv ct)(us),us.length=(["self", "text"]:List Str).length->bindArgs (PySem.W.fnOf "__init__" (Vz "DealError") (XQ (XI (Ku p i))) (Yc (XI (Ku p i))) (K7 (XI (Ku p i))) .none kV doc pm an cdv ct) ⟨us,[]⟩=pure ((["self", "text"]:List Str).zip us)) :
  ∃D f fd,Root p h mg i D f fd:=by
 obtain⟨D,ND,bm,mD,x⟩:=Y.cl _ hD;have:=x.root;subst this;obtain⟨f,fd,hf,FU⟩:=XSt.fun  x;exact⟨D,f,fd,by rw[n.eq_nsMap];exact x.ad,⟨ND,mD,x,hf⟩,XSt.clsFn  x Y.st hf,FU.binds hbz,λP w base=>Ae FU hn hm hb ht⟩
def Oi(n:h.Ns mainGlobals mg)(Y:XYP p l h){D f}{fd}(R:Root p h mg i D f fd)(hc:c∈l):CK (whole h) mg c.1:=by
 obtain⟨C,N,bm,mN,x⟩:=Y.cl _ hc;obtain⟨ND,mD,xD,hf⟩:=R.ex;cases hz:c.2 with
 |none=>rw[hz]at x;exact⟨C,bm,by rw[n.eq_nsMap];exact x.ad,XSt.clsK n x xD  hf⟩
 |some k=>rw[hz]at x;obtain⟨f',o,pm,cd,doc,h1,h2⟩:=x.init;exact⟨C,bm,by rw[n.eq_nsMap];exact x.ad,XSt.clsK n x xD  h1⟩
def MD(n:h.Ns mainGlobals mg)(Y:XYP p l h){D f:Um}{fd}(R:Root p h mg i D f fd){nm:Str}(hc:(nm,O j)∈l)(hf:Yn nm≠[]){ps}(P)(w:World)(base:Heap)
  (hbz:∀(kV doc pm)(an)(cdv ct:Uj)(us),us.length=ps.length->bindArgs (PySem.W.fnOf "__init__" (Vz nm) (XQ (XI (Ku p j))) (Yc (XI (Ku p j))) (K7 (XI (Ku p j))) .none kV doc pm an cdv ct) ⟨us,[]⟩=pure (ps.zip us))
  (ok:∀{f':Um}{fd'},Fun (whole h) "__init__" (Vz nm) (XI (Ku p j)) f' fd'->FnOk P w (whole h) mg base CX0 2 f' fd' ps (Py (KC (whole h)) (Yn nm))):MkX P w (whole h) mg base nm 2:=by
 obtain⟨C,N,bm,mN,x⟩:=Y.cl _ hc;obtain⟨ND,mD,xD,hi⟩:=R.ex;obtain⟨f',fd',hf',FU⟩:=XSt.fun  x;have ck:=XSt.clsK n x xD  hf';exact⟨C,bm,f',fd',_,_,by rw[n.eq_nsMap];exact x.ad,x.keep,ck,λM h' k=>(x.keeps (SU k)).xcls (xD.keeps (SU k)) hf',ok FU,FU.binds hbz,jt ck hf⟩
end
def Wv  {q p}{loose}{mean}{mg mb}{h}{ix}(P)(w)(base){ps}{k n:Nat}{F}(T:Top q loose mean mg mb h)(e:recsOf q=Tc p ix)(i:Nat)(x:Str)(hi:ix.contains i=yM)(hn:RE (Ku p i)=O x)
  (ok:∀{f}{fd},Fun (whole h) x x (Ku p i) f fd->FnOk P w (whole h) mg base (YW cc P w) k f fd ps (spX (whole h) n F))
  (hb:∀(kV doc pm)(an)(cdv ct)(us),us.length=ps.length->bindArgs (PySem.W.fnOf x x (XQ (Ku p i)) (Yc (Ku p i)) (K7 (Ku p i)) .none kV doc pm an cdv ct) ⟨us,[]⟩=pure (ps.zip us)):Oj cc P w (whole h) mg base x k n F:=by
 obtain⟨f,fd,m,FU⟩:=Ph T e i x hi hn;exact⟨f,fd,ps,m,FU.kp,FU.binds hb,ok FU⟩
def xz{l:PySem.W.OpenLaw}{n k:Nat}{q}{loose}{XP}{YP}{d}{F}{x:Str}
  (hn:l.most=O n) (hn2:n<=Uq) (hdf:d.params.defaults=[]) (hr:Room k callerA)
  (hF:∀(w)(s₀)(mg mb)(fa)(h:Heap),PySem.W.Ground q loose [] XP w s₀ mg mb h->YP w h->mg d.name=O (.ref fa) ->
   ∃fd:Uo,(∀(s)(u),BindsTo s fd ⟨[u],[]⟩ [(x,u)])/\∀base:Heap,FnOk l.prog w (whole h) mg base CX0 k fa fd [x] (spD (whole h) 1 F))
  (hl:∀ns:yP,ns.length<=n->F [.list (ns.map int)]=O (.bool yM)) :
  PySem.W.WalkO q loose XP YP l.row.toRowW d [] (λf vs=>PySem.call f vs):=by
 refine Att.attach_call hn hdf λw s₀ s₁ mg mb fa o pm cd doc a vs ns G Y ho hd hcd hmg hobj hints hlen hg=>?_
 obtain⟨fd,hb,hF⟩:=hF w s₀ mg mb fa _ G Y hmg;exact kO (jL _) G.T.g G.T.b G.T.builtins G.T.nolimit hg hobj hints (QE hlen hn2) hr (λbase _ _=>hF base) hb (λH hO hS=>Ct hS (hl ns hlen)) λH e s' z=>z
section
variable{α β:Type}{Z Z1 Z2 Z3 Z':US}{f:M D}{s t:SM}{Q:Out->Prop}{d:D}{ds fs:yO}{nm x:Str}{o:Out}
def X5  (h1:g Z=.ok ds Z1)(h2:WL nm ds=O fs):Y2 nm g Z=.ex Z1 (exD nm fs):=by unfold Y2 sB;simp_all
def Sq{f}{g}(h1:f Z=.ok (.val d) Z1)(h2:g d Z1=o):sX f g Z=o:=by unfold sX;rw[h1];exact h2
def WK{f:M XR}{g:D->SM}(h1:f Z=.ok (.exc d) Z1):sX f g Z=.ex Z1 d:=by unfold sX;rw[h1]
def Y1   {g}{xs}{r}(h1:g Z=.ok xs Z1)(h2:xs.length=n)(h3:F xs=O r):Z8 n F g Z=.ok r Z1:=by exact KR h1 (by rw[Qp h2];exact ZE h3)
def AG  (h1:s Z=.ex Z1 d)(h2:Yt x d=yM)(h3:i<Z1.length)(h4:t (Z1.set i (O (.pub d)))=.nx Z2)(h5:Z2.set i yL=Z'):X9 i x s t Z=.nx Z':=by unfold X9;simp_all
def VT  {t}(h:f Z=.ok d Z1)(ht:Kk d c=t):UY (λd=>Ux (Kk d c)) f Z=.ok (Ux t) Z1:=by subst ht;exact Kx  h
def Pg  {kvs:List (D×D)}(h:f Z=.ok (.dict kvs) Z1)(hc:(("dict" == c) || ("" == c))=yN:=by decide):UY (λd=>Ux (Kk d c)) f Z=.ok (Ux yN) Z1:=VT h (nty hc)
def YE  {kvs:List (D×D)}(h:f Z=.ok (.dict kvs) Z1)(hc:(("dict" == c) || ("" == c))=yN:=by decide):U8 (KM (UY (λd=>.bool (Kk d c)) f)) Z=.ok yM Z1:=KS h (by rw[nty hc];rfl)
def Ve(r:XR):Out->Prop
 |.rt d=>r=.val d
 |.nx _=>r=.val .none
 |.ex _ d=>r=.exc d/\Wp d=yM
 |_=>False
def Wr   (h0:YG N ds=Z)(h:Ho s Z (Ve r)):Zp N s ds=O r:=by
 subst h0;have h:=h.out;unfold Zp;cases z:s _ with
 |rt d=>rw[z]at h;rw[h]
 |nx Z'=>rw[z]at h;rw[h]
 |ex Z' d=>rw[z]at h;dsimp only;rw[if_pos h.2,h.1]
 |ro _=>rw[z]at h;exact h.elim
 |bk Z'=>rw[z]at h;exact h.elim
 |ct Z'=>rw[z]at h;exact h.elim
 |bad=>rw[z]at h;exact h.elim
noncomputable def fb(p:D->Bool):Nat->yO->Option Nat
 |_,[]=>yL
 |k,x::r=>if p x=yM then fb p (k+1) r else O k
def EW:Out->Prop
 |.rt _=>True
 |.ex _ _=>True
 |_=>False
structure fbQ(p:D->Bool)(xs:yO)(I:US->Prop)(Q:Out->Prop)(x:D)(j:Nat)(o:Out):Prop where
 out:(p x=yM/\∃Z2,o=.nx Z2/\I Z2)∨(p x=yN/\EW o/\(fb p 0 xs=O j->Q o))
def R9   {I}{x}{j}(hp:p x=yM)(h:I Z):fbQ p xs I Q x j (.nx Z):=⟨.inl ⟨hp,Z,rfl,h⟩⟩
def N3    {x}{j}(hp:p x=yN)(h:fb p 0 xs=O j->Q (.rt d)):fbQ p xs I Q x j (.rt d):=⟨.inr ⟨hp,trivial,h⟩⟩
def N0    {x}{j}(hp:p x=yN)(h:fb p 0 xs=O j->Q (.ex Z d)):fbQ p xs I Q x j (.ex Z d):=⟨.inr ⟨hp,trivial,h⟩⟩
def PX{f:M yO}{sg}{xs:yO}(p:D->Bool)(I)(h1:f Z=.ok (Ym 0 xs) Z1)(h0:I Z1)
  (hst:∀x∈xs,∀(j:Nat) Z,j<xs.length->I Z->∃Z1,sg (.tuple [.int j,x]) Z=O Z1/\Ho s Z1 (fbQ p xs I Q x j))
  (hend:fb p 0 xs=yL->∀Z,I Z->Q (.nx Z)):Ho (Ko f sg s) Z Q:=by
 constructor;unfold Ko sB;rw[h1];have key:∀(ys:yO)(k:Nat)(Z:US),I Z->(∀x∈ys,x∈xs)->k+ys.length<=xs.length->fb p k ys=fb p 0 xs->Q (Zm sg s (Ym k ys) Z):=by
  intro ys;induction ys with
  |nil=>intro k Z hi _ _ he;exact hend he.symm Z hi
  |cons x r ih=>
   intro k Z hi hm hl he;rw[QD]at hl;obtain⟨Z2,e2,a1⟩:=hst x (hm x Qn) k Z (by lia) hi;rw[Ym,Zm,e2];dsimp only;rw[fb]at he;rcases a1.out.out with ⟨hp,Z3,e3,i3⟩|⟨hp,b1,b2⟩
   .rw[hp,Qp yK]at he
    rw[e3];exact ih (k+1) Z3 i3 (λy hy=>hm y (Qm _ hy)) (by lia) he
   .rw[hp]at he
    have b2:=b2 he.symm;cases z:s Z2 with
    |rt d=>rw[z]at b2;exact b2
    |ex Z' d=>rw[z]at b2;exact b2
    |nx Z'=>rw[z]at b1;exact b1.elim
    |ro _=>rw[z]at b1;exact b1.elim
    |bk Z'=>rw[z]at b1;exact b1.elim
    |ct Z'=>rw[z]at b1;exact b1.elim
    |bad=>rw[z]at b1;exact b1.elim
 exact key xs 0 Z1 h0 (λ_ h=>h) (by lia) yK
end
section
variable{X:Cx}{B G0:Hp}{KX:XW}{e o a b c:Up}{pos p2:Pos}{es rest:yS}
noncomputable def Rg:yO->yQ
 |[.list xs]=>O (.tuple xs)
 |[.tuple xs]=>O (.tuple xs)
 |_=>yL
def EV:YK X (.type "tuple") Rg:=by
 refine⟨_,yA,λvs G H ds d Q s r e k=>?_⟩;unfold Rg at e;split at e
 .cases e
  obtain⟨v,rfl,q⟩:=r.one_inv;obtain⟨l,ws,rfl,h1,r1⟩:=q.lst_inv;exact⟨l,ws,rfl,.inl ⟨s.seq h1,λp hp=>k _ _ _ (Ext.new s hp) (.tup (SqT.of Kz) (r1.mono (Zj (s.free hp))))⟩⟩
 .cases e
  obtain⟨v,rfl,q⟩:=r.one_inv;obtain⟨l,ws,rfl,h1,r1⟩:=q.tup_inv;exact⟨l,ws,rfl,.inr ⟨YB s h1,k _ G H (.refl s) (.tup h1 r1)⟩⟩
 simp_all
end
end DL
namespace L2
open PySem PySem.Spec PyProof.Rows
def Dg(trs:Um->List (TE×TE)):TE:=λσ H Q=>∀p,H p=yL->Po (trs p) σ (upd H p (.dK [])) λps H2=>H2 p=O (.dK [])/\∃kvs:List (Key×V),ps=kvs.map (λkv=>(kV kv.1,kv.2))/\kvs.length<=15/\Q (.ref p) (upd H2 p (.dK (VG [] kvs)))
def kg{X:Cx}{pos:Pos}{keys}{values}{trs}(h:∀p,PPs X pos keys values (trs p))(hall:keys.all (·.isSome)=yM)(hl:keys.length=values.length)(h0:keys≠[])
  (h15:keys.length<=15):PE X (.Dict keys values pos) (Dg trs):=by
 intro pins s σ H Q I q;have hn:=I.hok.fresh (Qo s.heap.objs.size);have I1:=I.laid    (t':=s.toks) (λ_ _ q=>Qe _ q) (Qo _) (jE s.heap I.big);refine wpAny_Dict_walk (knd:=Y4 X.prog X.w) hall hl h0 h15 (thn (h _ pins _ σ _ _ I1 (q _ hn)) λws s2 ⟨ps,H2,I2,rel,e,kvs,ep,lk,q2⟩=>?_);subst ep;obtain⟨rs,c,rk⟩:=Fp  (w:=X.w) rel;obtain⟨z,hd,vs0,r0,dd⟩:=Mc I2.hok e;cases r0;refine⟨rs,c,dd,λh' zr hs=>⟨.ref s.heap.objs.size,_,?_,rfl,q2⟩⟩;have hz:(VG [] kvs).length<=Uq:=by have h1:=F1 kvs [];rw[Qw]at h1;rw[Jn];lia
 have he:∃q,h'.get? s.heap.objs.size=O q:=let ⟨q,_,_,hq,_⟩:=zr;⟨q,hq⟩
 exact PB I2 (by rw[e];exact True.intro) hs he (MM hz hd (rk.merge .nil) zr)
def kf  {k:Key}{v}(h:k∉kvs.map (·.1)):Zc kvs k v=kvs++[(k,v)]:=by unfold Zc;simp_all
theorem GL:∀(more kvs),((kvs++more).map (·.1)).Nodup->VG kvs more=kvs++more
 |[],kvs,_=>by rw[Q3];rfl
 |p::r,kvs,h=>by
  have hn   :=by rw[QQ,Jp]at h;exact λz=>h.2.2 _ z p.1 (Qv.mpr ⟨p,Qn,rfl⟩) yK
  show VG (Zc kvs p.1 p.2) r=_;rw[kf hn,GL r _ (by rw[QS];exact h),QS];rfl
end L2
namespace DL
open PySem PySem.Spec L2
open PyProof.Rows hiding St
theorem Ly{α β γ:Type}(f):∀(ks:List α)(vs:List (γ×β)),vs.map (·.1)=ks.map f->vs=(ks.zip (vs.map (·.2))).map (λkv=>(f kv.1,kv.2))
 |[],[],_=>rfl
 |k::ks,(a,b)::vs,h=>by injection h with h1 h2;have h1:a=f k:=h1;rw[QI,Jh,QI,←Ly f ks vs h2,h1]
theorem Hj{α β:Type}:∀(ps:List (α×β)),(ps.map (·.1)).zip (ps.map (·.2))=ps
 |[]=>rfl
 |p::r=>by rw[QI,QI,Jh,Hj r]
def Sw:List (M D×M D)->M (List (D×D))
 |[]=>UM []
 |(f,g)::r=>U3 f λx=>U3 g λy=>U3 (Sw r) λps=>UM ((x,y)::ps)
noncomputable def R8:D->Option Key
 |.int i=>O (.inl i)
 |.str x=>O (.inr x)
 |_=>yL
def Wu:yO->Option yV
 |[]=>O []
 |d::r=>match R8 d,Wu r with
  |some k,O ks=>O (k::ks)
  |_,_=>yL
def NZ(ps:List (D×D)):yQ:=match Wu (ps.map (·.1))with
 |some ks=>if ks.Nodup/\ks.length<=15/\ks≠[]then O (.dict ps)else yL
 |none=>yL
def Rf(prs:List (M D×M D)):M D:=U3 (Sw prs) λps=>U7 (NZ ps)
def EU(K:Frag)(G:Hp)(vs:List (V×V))(ps:List (D×D)):Prop:=Reps K G (vs.map (·.1)) (ps.map (·.1))/\Reps K G (vs.map (·.2)) (ps.map (·.2))
section
variable{K:Frag}{B G0 G H:Hp}{σ:St}{Z:US}
def PK   (h:R8 d=O k):d=kD k:=by
 cases d with
 |int i=>cases h;rfl
 |str x=>cases h;rfl
 |_=>cases h
theorem Gr:∀{ds}{ks},Wu ds=O ks->ds=ks.map kD
 |[],_,h=>by cases h;rfl
 |d::r,ks,h=>by
  unfold Wu at h;split at h
  .rename_i k ks' h1 h2
   cases h;rw[QI,←PK h1,←Gr h2]
  simp_all
def Rep.key_inv   (r:Rep K G v (kD k)):v=kV k:=by
 cases k with
 |inl i=>exact r.int_inv
 |inr x=>exact r.str_inv
theorem Reps.keys_inv:∀{vs}{ks:yV},Reps K G vs (ks.map kD)->vs=ks.map kV
 |_,[],.nil=>rfl
 |_,k::ks,.cons h t=>by rw[h.key_inv,Reps.keys_inv t];rfl
theorem Gq:∀{prs}{G H}{Z}{Q},EOk K B G0 G H σ Z ->
  (match Sw prs Z with
   |.ok ps Z'=>∀vs G' H',EOk K B G0 G' H' σ Z'->Same G G'->EU K G' vs ps->Q vs H'
   |.bad=>False)->Po (prs.map λp=>(tD K B G0 p.1,tD K B G0 p.2)) σ H Q
 |[],G,H,Z,Q,k,a=>a [] G H k (.refl _) ⟨.nil,.nil⟩
 |(f,g)::r,G,H,Z,Q,k,a=>by
  refine⟨G,Z,k,?_⟩;unfold Sw U3 at a;show aft K B G0 _ (f Z) G σ _;cases z:f Z with
  |bad=>rw[z]at a;exact a.elim
  |ok x Z1=>
   rw[z]at a;dsimp only at a;intro v G1 H1 k1 s1 r1;refine⟨G1,Z1,k1,?_⟩;show aft K B G0 _ (g Z1) G1 σ _;cases z2:g Z1 with
   |bad=>rw[z2]at a;exact a.elim
   |ok y Z2=>
    rw[z2]at a;dsimp only at a;intro u G2 H2 k2 s2 r2;refine Gq  k2 ?_;cases z3:Sw r Z2 with
    |bad=>rw[z3]at a;exact a.elim
    |ok ps Z3=>rw[z3]at a;intro vs G3 H3 k3 s3 r3;exact a _ G3 H3 k3 ((s1.trans s2).trans s3) ⟨.cons ((r1.mono s2).mono s3) r3.1,.cons (r2.mono s3) r3.2⟩
def EOk.under  (k:EOk K B G0 G H σ Z)(hp:H p=yL):EOk K (upd B p (.dK [])) G0 G (upd H p (.dK [])) σ Z where
 bh:=λb o q=>by
  by_cases z:b=p
  .subst z;rw[Kz]at q⊢;exact q
  .rw[Km z]at q⊢;exact k.bh b o q
 gh:=k.gh.trans (Zj hp)
 g0:=k.g0
 np:=λa u q n=>by
  by_cases z:a=p
  .subst z;exact k.gh.free hp
  .rw[Km z]at q;exact k.np a u q n
 len:=k.len
 pub:=k.pub
 own:=λi ds q=>by obtain⟨a,vs,h1,h2,h3,h4,h5⟩:=k.own i ds q;have z   :=ZO h4 hp;exact⟨a,vs,h1,by rw[Km z];exact h2,h3,by rw[Km z];exact h4,h5⟩
 sep:=k.sep
 dp:=k.dp.map (λ_ _ _ q=>⟨q,rfl⟩) (λ_ ds q=>⟨ds,q,rfl⟩) λi pt d v fp q s r w n=>⟨r.mono (.refl _) (Zj hp),λb m=>let ⟨_,hl⟩:=r.isl b m;⟨by rw[Km (ZO hl hp)];exact(w b m).1,(w b m).2⟩⟩
def EOk.filled  {u:HO}(k:EOk K (upd B p (.dK [])) G0 G H σ Z)(hb:B p=yL)(h0:G0 p=yL):EOk K B G0 (upd G p u) (upd H p u) σ Z/\Same G (upd G p u)/\H p=O (.dK []):=by
 have hG   :=k.np p (.k []) Kz h0;have hH   :=k.bh p _ Kz;have sg:Same G (upd G p u):=Zj hG;refine⟨⟨λb o q=>?_,λb o q=>?_,k.g0.trans sg,λa w q n=>?_,k.len,λi d q=>?_,λi ds q=>?_,k.sep,k.dp.map (λ_ _ _ q=>⟨q,rfl⟩) (λ_ ds q=>⟨ds,q,rfl⟩) λi pt d v fp q s r w n=>?_⟩,sg,hH⟩
 .have z:b≠p:=ZO q hb
  rw[Km z];exact k.bh b o (by rw[Km z];exact q)
 .by_cases z:b=p
  .subst z;rw[Kz]at q⊢;exact q
  .rw[Km z]at q⊢;exact k.gh b o q
 .have z:a≠p:=ZO q hb
  rw[Km z];exact k.np a w (by rw[Km z];exact q) n
 .obtain⟨v,h1,h2⟩:=k.pub i d q
  exact⟨v,h1,h2.mono sg⟩
 .obtain⟨a,vs,h1,h2,h3,h4,h5⟩:=k.own i ds q
  have z:a≠p:=λe=>by subst e;rw[Kz]at h2;cases h2
  exact⟨a,vs,h1,by rw[Km z]at h2;exact h2,by rw[Km z];exact h3,by rw[Km z];exact h4,h5.mono sg⟩
 .have zz:∀b∈fp,b≠p:=λb m e=>by subst e;have:=(w b m).1;rw[Kz]at this;cases this
  refine⟨(r.mono sg (.refl _)).upd (λ_ e=>by rw[hH]at e;cases e) (λm=>zz p m yK),λb m=>?_⟩;have z:=zz b m;obtain⟨w1,w2⟩:=w b m;rw[Km z]at w1;exact⟨w1,by rw[Km z];exact w2⟩
end
section
variable{X:Cx}{B G0:Hp}{KX:XW}{e o a b c:Up}{pos p2:Pos}{es rest:yS}
structure DPs(X:Cx)(pos:Pos)(G0:Hp)(keys:List (Option Up))(values:yS)(prs:List (M D×M D)):Prop where
 out:∀B',PPs X pos keys values (prs.map λp=>(tD X.K B' G0 p.1,tD X.K B' G0 p.2))
def AF:DPs X pos G0 [] [] []:=⟨λ_=>AQ⟩
def ke    {f g}{prs}(hk:∀B',PE X k (tD X.K B' G0 f))(hv:∀B',PE X v (tD X.K B' G0 g))(hr:DPs X pos G0 ks vs prs):DPs X pos G0 (O k::ks) (v::vs) ((f,g)::prs):=
 ⟨λB'=>jB (hk B') (hv B') (hr.out B')⟩
def ka  {values:yS}{prs:List (M D×M D)}(h:DPs X pos G0 keys values prs)(hall:keys.all (·.isSome)=yM:=by rfl)(hl:keys.length=values.length:=by rfl)(h0:keys≠[]:=by simp)(h15:keys.length<=15:=by decide) :
  PE X (.Dict keys values pos) (tD X.K B G0 (Rf prs)):=by
 refine Kp (kg (trs:=λp=>prs.map λf=>(tD X.K (upd B p (.dK [])) G0 f.1,tD X.K (upd B p (.dK [])) G0 f.2)) (λp=>h.out _) hall hl h0 h15) λσ H Q ⟨G,Z,k,a⟩ p hp=>?_;refine Gq (k.under hp) ?_;unfold Rf U3 at a
 cases z:Sw prs Z with
 |bad=>rw[z]at a;exact a.elim
 |ok ps Z1=>
  rw[z]at a;intro vs G1 H1 k1 s1 r1;obtain⟨d,e1,a1⟩:=aft.opt a;unfold NZ at e1;split at e1
  .rename_i ks hk
   split at e1
   .rename_i hc
    cases e1;have ek:=Gr hk;have hv:=r1.1;rw[ek]at hv;have hv:=hv.keys_inv;have hlen   :=by have:=congrArg List.length ek;simpa using this.symm
    have hlv:vs.length=ks.length:=by have:=congrArg List.length hv;simpa using this
    have evs   :=by exact Ly kV ks vs hv
    obtain⟨f1,f2,f3⟩:=k1.filled  (k.bh.free hp) (k.g0.free (k.gh.free hp));refine⟨f3,ks.zip (vs.map (·.2)),evs,?_,?_⟩
    .rw[JP,Qd];lia
    .have em:VG [] (ks.zip (vs.map (·.2)))=ks.zip (vs.map (·.2)):=by
      rw[GL _ [] ?_,QR];rw[QR,List.map_fst_zip (by rw[Qd];lia)];exact hc.1
     rw[em];refine a1 (.ref p) _ _ f1 (s1.trans f2) (.dct (ks:=ks) (vs:=vs.map (·.2)) (ds:=ps.map (·.2)) ?_ hc.2.2 (by rw[Qd];exact hlen) Kz (r1.2.mono f2));rw[←ek,Hj]
   .cases e1
  .cases e1
end
end DL
namespace DL
open PySem PySem.Spec L2 PySem.SeqAt PySem.AutoSeq1
open PyProof.Rows hiding St
end DL
namespace DL
open PySem PySem.Spec L2
open PyProof.Rows hiding St
end DL
namespace L2
open PySem PySem.Spec PyProof.Rows
section
variable{prog:Ul}{w:World}{A:Around}{E:Uj->Uk->Prop}{s:Uk}{d it:Um}{o:Obj}{es:Array DictEntry}{ep i:Nat}
def AE  (hd:(d==sysModules)=yN)(ho:s.heap.get? d=O o)(hc:o.ExactDict)(hdat:o.data=.dict es ep)
  (hQ:Q (.ref s.heap.objs.size) {s with heap:=s.heap.push {cls:=.type "dict_keyiterator", data:=.fields #[.ref d,.int 0 0,.int es.size 0,.int ep 0]}}):Ur (model prog w) A (pyIter (.ref d)) Q E s:=by
 have hT:s.TypeIs (.ref d) "dict" :=⟨o,ho,hc.1⟩
 refine wpAny_pyIter_slot hT F.slot_dict_iter (JA F.slot_dict_iter hT F.entry_dict_iter ?_ (F.args_dict_iter_1 _));refine Qb ?_;refine Qb (wpAny_notOrdered_dict hT ?_);refine Qf ?_;show Ur _ _ (Builtin.Dict.showsAll d >>= _) _ _ s;unfold Builtin.Dict.showsAll;rw[QH (by rw[hd];exact Bool.false_ne_true)];refine Qb (Qf ?_);refine Qb (wpAny_dictEntries ho hdat (Qb (wpAny_dictEpoch ho hdat ?_)));refine wpAny_bind (wpAny_newObj_type (wpAny_pure ⟨_,rfl, "dict_keyiterator", _,⟨_,Heap.get?_push_size _ yK,rfl⟩,F.slot_dict_keyiterator_next.lookup,?_⟩));simpa[rawInt]using hQ
def AD{Q:yT->Uk->Prop}(hit:s.heap.IsKeyIter it d i es.size ep)(hod:s.heap.get? d=O o)(aE:o.data=.dict es ep)(hlt:i<es.size)
  (hQ:∀h',h'.IsKeyIter it d (i+1) es.size ep->Heap.SameBut it s.heap h'->Q (O es[i].key) {s with heap:=h'}):Ur (model prog w) A (pyNext (.ref it)) Q E s:=by
 obtain⟨oi,ho,hc,hd⟩:=id hit;unfold pyNext;refine Qb (wpAny_attempt (wpAny_callSpecial?_slot (name:=UE "__next__") hit.typeIs Jv (JA Jv hit.typeIs F.entry_dict_keyiterator_next ?_ (F.args_dict_keyiterator_next_1 _))));refine Qb (Qf (Qb (Qb ?_)))
 first|refine Qb (Js hit.typeIs (Qf (Qb (wpAny_fieldsOf ho hd ?_))))|refine Qb _
 have hown:Builtin.Dict_items.ownsTuple "dict_keyiterator" = yN:=(by decide)
 simp only[hown,JI,J6];refine Qb (Qf (Qb (wpAny_dictEntries hod aE ?_)));rw[if_neg (by simp)];refine wpAny_bind (wpAny_pure (wpAny_bind (wpAny_dictEpoch hod aE ?_)));rw[if_neg (by simp)];refine wpAny_pure ?_;simp only[show ¬((i:Int)<0)from by lia,J6,JD,JF hlt];refine Qb ?_
 first|refine Qb (Js hit.typeIs (Qf (Qb (wpAny_isOneOf_keyiter hit.typeIs ?_))))|refine Qb _
 show Ur _ _ (setField (.ref it) 1 (rawInt ((i:Int)+1)) >>= _) _ _ s;refine wpAny_bind (wpAny_setField ho hd (by simp) ?_);have ac:(s.heap.update it (Obj.mapFields (·.setIfInBounds 1 (rawInt ((i:Int)+1))))).IsKeyIter it d (i+1) es.size ep:=⟨_,Heap.get?_update_self _ ho (Obj.isFreed_of_fields (Obj.data_mapFields hd _)),(Obj.cls_mapFields ..).trans hc,by rw[Obj.data_mapFields hd];simp[rawInt]⟩
 refine Qb (Jl (Qb (wpAny_isOneOf_keyiter  ac.typeIs ?_)));show Ur _ _ (pure es[i].key) _ _ _;exact Qf (Qf ⟨_,rfl,Qf (hQ _ ac (Heap.SameBut.update ..))⟩)
def Df{Q:yT->Uk->Prop}(hh:A.handled=yL)(hit:s.heap.IsKeyIter it d i es.size ep)(hod:s.heap.get? d=O o)(aE:o.data=.dict es ep)(hge:es.size<=i)
  (hQ:∀h',Heap.ExtBut it s.heap h'->Q yL {s with heap:=h'}):Ur (model prog w) A (pyNext (.ref it)) Q E s:=by
 obtain⟨oi,ho,hc,hd⟩:=id hit;unfold pyNext;refine Qb (wpAny_attempt (wpAny_callSpecial?_slot (name:=UE "__next__") hit.typeIs Jv (JA Jv hit.typeIs F.entry_dict_keyiterator_next ?_ (F.args_dict_keyiterator_next_1 _))));refine Qb (Qf (Qb (Qb ?_)))
 first|refine Qb (Js hit.typeIs (Qf (Qb (wpAny_fieldsOf ho hd ?_))))|refine Qb _
 have hown:Builtin.Dict_items.ownsTuple "dict_keyiterator" = yN:=(by decide)
 simp only[hown,JI,J6];refine Qb (Qf (Qb (wpAny_dictEntries hod aE ?_)));rw[if_neg (by simp)];refine wpAny_bind (wpAny_pure (wpAny_bind (wpAny_dictEpoch hod aE ?_)));rw[if_neg (by simp)];refine wpAny_pure ?_;simp only[show ¬((i:Int)<0)from by lia,J6,JD,Array.getElem?_eq_none hge];refine Qb ?_
 first|refine Qb (Js hit.typeIs (Qf ?_))|refine Qb (wpAny_typeNameOf_keyiter hit.typeIs (Qf ?_))
 show Ur _ _ (setField (.ref it) 0 .none >>= _) _ _ s;refine Qb (JJ ho hd (by simp) ?_);refine Qb ?_;simp only[newExc,newTuple];refine Qb (JN ?_ (by size_fits));refine Qb (m:=firstArgMember _ _) (wpAny_of_eq (a:=Value.none) (by first|rfl|(simp only[firstArgMember];rfl)) ?_);refine JN ?_ (by size_fits);simp only[raiseNew];refine Qb (wpAny_handled ?_);rw[show A.in1.handled=yL from hh];refine Qb (Qf (wpAny_throw ?_));refine Qb (wpAny_isInstance (T:= "StopIteration") (b:=yM) ⟨_,Qt _ yK,rfl⟩ isSubtype_stop (Qf (hQ _ (((Heap.SameBut.update ..).extBut.push _).push _))))
end
theorem KT.get  : ∀{kvs}{xs}{i:Nat}{p},KT H kvs xs->kvs[i]?=O p->∃q,xs[i]?=O q/\p.1=q.1/\H q.2.1=O (.tup (p.1.map kV))/\RelV p.2 q.2.2
 |_,_,0,_,.cons h _,e=>by cases e;exact⟨_,rfl,h⟩
 |_,_,i+1,p,.cons _ t,e=>by obtain⟨q,h1,h2⟩:=KT.get   t (by simpa using e);exact⟨q,by simpa using h1,h2⟩
def Itf(o:Obj)(d:Um):It:=
 ⟨λi H=>∃kvs,H d=O (.frz o (.dT kvs))/\i<kvs.length,
  λi H v H'=>H'=H/\∃b,v=.ref b/\∀kvs,H d=O (.frz o (.dT kvs))->∃p,kvs[i]?=O p/\H b=O (.tup (p.1.map kV)),
  λi H=>∃kvs,H d=O (.frz o (.dT kvs))/\kvs.length<=i⟩
def KT.length    (r:KT H kvs xs):kvs.length=xs.length:=Paired.length r
def MC{X:Cx}{pins}{s:Uk}{σ:St}{H:Hp}{o:Obj}{es}{ep:Nat}{d:Um}{kvs}(hd:o.data=.dict es ep)(I:Inv X pins σ H s)(hq:H d=O (.frz o (.dT kvs))) :
  s.heap.get? d=O o/\o.ExactDict/\(d==sysModules)=yN/\es.size=kvs.length/\∀i(h:i<es.size),∃p b,kvs[i]?=O p/\es[i].key=.ref b/\H b=O (.tup (p.1.map kV)):=by
 obtain⟨hget,z,y,xs,rel,o',es',ep',h1,h2,h3,h4,h5⟩:=(I.hok d _ hq)
 rw[hget]at h1;cases h1;rw[hd]at h3;cases h3;have hl   :=by have:=Uh List.length h4;rw[Qd,←KT.length rel]at this;simpa using this
 refine⟨hget,h2,y,hl,λi h=>?_⟩;have hk:kvs[i]?=O kvs[i]:=Qi (by lia);obtain⟨q,hx,e1,e2,e3⟩:=KT.get rel hk;refine⟨_,q.2.1,hk,?_,e2⟩;have e:es.toList[i]?=O (entryOfKey (tupleKind (Y4 X.prog X.w)) q):=by rw[h4,Qh,hx];rfl
 have e':es.toList[i]?=O es[i]:=by rw[Array.getElem?_toList,JF h]
 rw[e']at e;rw[QW e];rfl
def wv{P:Ul}{w:World}{K:Frag}{tg:Up}{o:Obj}{es:Array DictEntry}{ep:Nat}(hd:o.data=.dict es ep)(d it:Um):Turn P w K tg (Itf o d) [it] it (λi h=>h.IsKeyIter it d i es.size ep) where
 mem:=by simp
 obj:=λi h st b hb=>by
  have e:b=it:=by simpa using hb
  subst e;obtain⟨o,e,c,d⟩:=st;exact⟨o,e,λv z=>by rw[d]at z;cases z⟩
 keep:=λi h h' st k=>by obtain⟨o,e,c,d⟩:=st;exact⟨o,k it (by simp) o e,c,d⟩
 item:=by
  intro X hP hw hK hc i pins s σ H E I hf st hg;subst hP hw hK;obtain⟨kvs,hq,hi⟩:=hg;obtain⟨hget,hx,hy,hl,hall⟩:=MC hd I hq;have hi':i<es.size:=by lia
  obtain⟨p,b,h1,h2,h3⟩:=hall i hi';obtain⟨f0,f1,f2,f3,f4,f5⟩:=hf it (by simp);refine AD st hget hd hi' λh' st' sb=>?_;have I1   :=I.turned (t':=s.toks) (λb o hb e=>(sb.2 b hb).trans e) f0 f1 f3 f4 f5
  obtain⟨o',e,c,d'⟩:=id st';refine⟨_,rfl,Rs  e c d' (by decide) ⟨.ref b,H,I1,by rw[h2];rfl,⟨rfl,b,rfl,λkvs' zM=>?_⟩,st',λb hb=>(hf b hb).1⟩⟩;rw[hq]at zM;cases zM;exact⟨p,h1,h3⟩
 done:=by intro X hP hw hK hc i pins s σ H E I hf st hg;obtain⟨kvs,hq,hi⟩:=hg;obtain⟨hget,hx,hy,hl,hall⟩:=MC hd I hq;obtain⟨f0,f1,f2,f3,f4,f5⟩:=hf it (by simp);exact Df (I.ok.hd hc) st hget hd (by lia) λh' eb=>⟨rfl,I.turned (t':=s.toks) (λb o hb e=>eb b o hb e) f0 f1 f3 f4 f5⟩
 self:=λ_ _ _ _ _ st h=>wpAny_pyIter_keyiter st h
section
variable{X:Cx}{tg:Up}
def iDct(tl:TE):TI:=λσ H R=>tl σ H λx H1=>∃a o kvs,x=.ref a/\H1 a=O (.frz o (.dT kvs))/\R (Itf o a) H1
def De   (hl:PE X l tl):PI X tg l (iDct tl):=by
 intro pins s σ H R I h;refine thn (hl pins s σ H _ I h) λv s1 ⟨x,H1,I1,r1,q1⟩=>?_
 obtain⟨a,o,kvs,e,hq,q⟩:=q1;subst e;cases r1;obtain⟨hget,z,y,xs,rel,o',es,ep,h1,h2,h3,_⟩:=(I1.hok a _ hq)
 rw[hget]at h1;cases h1;refine AE y hget h2 h3 ?_;refine⟨s1.heap.objs.size,[s1.heap.objs.size],_,_,H1,rfl,I1.kept  λb o e=>Qe _ e,wv h3 a _,⟨_,Qt _ yK,rfl,rfl⟩,λb hb=>?_,q⟩;have e   :=by simpa using hb
 subst e;exact I1.fpOk (Qo _) (I1.hok.fresh (Qo _))
def tFrz(te:TE):TE:=λσ H Q=>te σ H λv H1=>∃a kvs,v=.ref a/\H1 a=O (.dT kvs)/\∀o,Q v (upd H1 a (.frz o (.dT kvs)))
def Dd   (h:PE X e te):PE X e (tFrz te):=by
 intro pins s σ H Q I q;refine thn (h pins s σ H _ I q) λu s1 ⟨v,H1,I1,rv,a,kvs,ev,hq,q1⟩=>?_;subst ev
 obtain⟨z,y,xs,rel,o,es,ep,h1,h2⟩:=(I1.hok a _ hq)
 refine⟨.ref a,_,?_,rv,q1 o⟩;refine PB  I1 (by rw[hq];exact True.intro) (Heap.SameBut.refl _ _) ⟨o,h1⟩ ⟨h1,z,y,xs,KT.keeps rel λb ys e=>?_,o,es,ep,h1,h2⟩;rw[Km (Mk e hq (by simp_all))];exact e
def Dc(K:Frag)(td ty:TE):TE:=λσ H Q=>td σ H λx H1=>ty σ H1 λy H2=>∃a b kvs k v,x=.ref a/\y=.ref b/\Rd H2 a (.dT kvs)/\SqT K H2 b (k.map kV)/\ZQ kvs k=O v/\Q v H2
def j9   {td ty:TE}(hu:X.A.units+1<cLine)(ho:PE X o td)(hi:PE X i ty)(hs:Sc i):PE X (.Subscript o i pos) (Dc X.K td ty):=by intro pins s σ H Q I h;refine AS PySem.F.slot_dict_getitem.lookup hs (thn (ho pins s σ H _ I h) λu s1 ⟨x,H1,I1,rx,q1⟩=>thn (hi pins s1 σ H1 _ I1 q1) λiv s2 ⟨y,H2,I2,ry,a,b,kvs,k,v,ex,ey,e,eb,l,q2⟩=>?_);subst ex ey;obtain rfl:u=Value.ref a:=rx;obtain rfl:iv=Value.ref b:=ry;obtain⟨z,hd,xs,rel,dd⟩:=Mb I2.hok e;refine⟨dd.typeIs,?_⟩;obtain⟨w',hw,aB⟩:=RelO.some_of   (by rw[←l];exact rel.val k);obtain⟨p,hp,hp2⟩:=Option.map_eq_some_iff.mp hw;obtain⟨its,rv,⟨ob,g1,g2,n,g3⟩,hz⟩:=I2.tuple eb;refine wpAny_getItem_heap (tupleKind_room_in1 hu) ⟨ob,its.toArray,n,g1,g2,g3,by simpa using Nt rv⟩ dd hp ?_;rw[hp2];exact⟨v,H2,I2.tok _,aB,q2⟩
end
end L2
namespace DL
open PySem PySem.Spec L2
open PyProof.Rows hiding St
section
variable{K:Frag}{B G0 G H:Hp}{σ:St}{Z:US}
noncomputable def YJ(Z:US):Bool:=Z.all λs=>match s with|some (.own _)=>yN|some (.deep _ _)=>yN|_=>yM
def RO(h:YJ Z=yM){i:Nat}{ds}(q:Z[i]?=O (O (.own ds))):False:=by have:=QL.mp h _ (Qr q);simp_all
def wu(h:YJ Z=yM){i:Nat}{p}{d}(q:Z[i]?=O (O (.deep p d))):False:=by have:=QL.mp h _ (Qr q);simp_all
def DpOk.no(h:YJ Z=yM):DpOk K B G H σ Z:=.of (λ_ _ _ q=>wu h q) λ_ _ q=>RO h q
def Gp   (h:YJ Z=yM):YJ (Z.set i (O (.pub d)))=yM:=by
 unfold YJ;rw[QL];intro s hs;rcases List.mem_or_eq_of_mem_set hs with h1|h1
 .exact QL.mp h s h1
 simp_all
def EOk.rebaseN(k:EOk K B G0 G H σ Z)(h:YJ Z=yM):EOk K H G G H σ Z where
 bh:=.refl _
 gh:=k.gh
 g0:=.refl _
 np:=λ_ _ _ n=>n
 len:=k.len
 pub:=k.pub
 own:=λi ds q=>(RO h q).elim
 sep:=k.sep
 dp:=.no h
def EOk.heap  (k:EOk K B G0 G H σ Z)(h:YJ Z=yM)(g:Same G H'):EOk K H' G G H' σ Z where
 bh:=.refl _
 gh:=g
 g0:=.refl _
 np:=λ_ _ _ n=>n
 len:=k.len
 pub:=k.pub
 own:=λi ds q=>(RO h q).elim
 sep:=k.sep
 dp:=.no h
theorem NE:∀(k:yV),Reps K G (k.map kV) (k.map kD)
 |[]=>.nil
 |.inl i::r=>.cons (.int i) (NE r)
 |.inr x::r=>.cons (.str x) (NE r)
theorem keys_inv:∀{k:yV}{ws},Reps K G ws (k.map kD)->ws=k.map kV
 |[],_,.nil=>rfl
 |k::r,_,.cons h t=>by rw[QI,←keys_inv t,h.key_inv]
def j8   (gh:Same G H)(hb:H b=O (.tup ys)):∃G',Ext G H G' H/\SqT K G' b ys:=by
 cases q:G b with
 |some u=>have:=gh b u q;rw[hb]at this;cases this;exact⟨G,.refl gh,SqT.of q⟩
 |none=>
  refine⟨upd G b _,⟨.refl _,Zj q,λc u e=>?_,λc u e n=>?_⟩,SqT.of Kz⟩
  .by_cases z:c=b
   .subst z;rw[Kz]at e;simp_all
   .rw[Km z]at e;exact gh c u e
  .by_cases z:c=b
   .subst z;rw[hb]at e;cases u<;>cases e
   .rw[Km z];exact n
def xy{ad:Um}{o:Obj}{ks:List yV}{vs}(h:G ad=O (.frz o (.dT (ks.zip vs))))(hl:ks.length=vs.length):Xq K (Itf o ad) (ks.map tkD) G where
 go:=λi G1 H s1 s2 hi=>by rw[Qd]at hi;exact⟨_,s2 _ _ (s1 _ _ h),by rw[JP];lia⟩
 stop:=λi G1 H s1 s2 hi=>by rw[Qd]at hi;exact⟨_,s2 _ _ (s1 _ _ h),by rw[JP];lia⟩
 yld:=λi G1 H x H' d s1 s2 e y=>by
  obtain⟨rfl,b,rfl,y⟩:=y;obtain⟨p,hp,hb⟩:=y _ (s2 _ _ (s1 _ _ h));rw[Qh]at e;have hp1   :=by rw[List.getElem?_zip_eq_some]at hp;exact hp.1
  rw[hp1]at e;cases e;obtain⟨G',ex,sq⟩:=j8  s2 hb;exact⟨G',ex,.tup sq (NE p.1)⟩
def kOf:D->Option yV
 |.tuple ds=>Wu ds
 |_=>yL
noncomputable def unT:List (D×D)->Option yO
 |(.bool yM,.none)::r=>O (r.map (·.1))
 |_=>yL
def Re:D->Option yO
 |.dict kvs=>unT kvs
 |_=>yL
def R7(f:M D):M yO:=U3 f λx=>U7 (Re x)
def V4:D->D->yQ
 |.dict ((.bool yM,.none)::r),y=>match kOf y with
  |some k=>(r.find? λp=>decide (kOf p.1=O k)).map (·.2)
  |none=>yL
 |_,_=>yL
def Rep.prs_inv  {r:List (D×D)}(h:Rep K G v (.dict ((.bool yM,.none)::r))):∃(a:Um)(o:Obj)(ks:List yV)(vs:List V)(ds:yO),v=.ref a/\r=(ks.map tkD).zip ds/\ks.length=ds.length/\G a=O (.frz o (.dT (ks.zip vs)))/\Reps K G vs ds:=by
 cases h with
 |@dct ad ks vs ds _ e hne hl _ _=>
  cases ks with
  |nil=>exact absurd yK hne
  |cons k ks=>
   cases ds with
   |nil=>simp_all
   |cons d ds=>have e1:=(Ud (List.cons.inj e).1).1;cases k<;>cases e1
 |@dtt ad o ks vs ds _ e hl h r=>exact⟨ad,o,ks,vs,ds,rfl,(List.cons.inj e).2,hl,h,r⟩
theorem NH:∀(k),Wu (k.map kD)=O k
 |[]=>rfl
 |.inl i::r=>by show(match O (Sum.inl i),Wu _ with|some k,O ks=>O (k::ks)|_,_=>yL)=_;rw[NH r]
 |.inr x::r=>by show(match O (Sum.inr x),Wu _ with|some k,O ks=>O (k::ks)|_,_=>yL)=_;rw[NH r]
theorem GK:∀{ds}{k},Wu ds=O k->ds=k.map kD
 |[],_,h=>by cases h;rfl
 |d::r,k,h=>by
  rw[Wu]at h;split at h
  .rename_i k1 ks h1 h2
   cases h;rw[QI,←GK h2,←PK h1]
  simp_all
def Db(k:yV):kOf (tkD k)=O k:=NH k
theorem Hi  {d:D}:∀{ks:List yV}{vs:List V}{ds:yO},Reps K G vs ds->(((ks.map tkD).zip ds).find? λp=>decide (kOf p.1=O k)).map (·.2)=O d->∃v,ZQ (ks.zip vs) k=O v/\Rep K G v d
 |[],vs,ds,_,e=>by simp at e
 |q::ks,_,_,.nil,e=>by simp at e
 |q::ks,_,_,.cons (v:=v)  (ds:=ds) r t,e=>by
  rw[QI,Jh,List.find?_cons,Db]at e;rw[Jh];by_cases h:q=k
  .subst h
   simp only[decide_true]at e;cases e;exact⟨v,Nj yK,r⟩
  .have h':¬_:=λz=>h (QW z)
   simp only[h',decide_false]at e;rw[P6 (by exact h)];exact Hi t e
end
section
variable{X:Cx}{B G0:Hp}{KX:XW}{e a b c tg:Up}{pos:Pos}
def AC  (h:PE X e (tD X.K B G0 f)):PI X tg e (iD X.K B G0 (R7 f)):=Xa (De h) λσ H R q=>tM.toI  q λv H' G' Z' x k r a=>by
 cases z:Re x with
 |none=>rw[z]at a;exact a.elim
 |some ds=>
  rw[z]at a;unfold Re at z;split at z
  .unfold unT at z
   split at z
   .cases z
    obtain⟨ad,o,ks,vs,ds,rfl,rfl,hl,hg,rr⟩:=r.prs_inv;refine⟨ad,o,_,rfl,k.gh _ _ hg,a _ G' H' k (.refl _) ?_⟩;rw[List.map_fst_zip (by grind)];exact xy hg (by rw[rr.length];exact hl)
   simp_all
  simp_all
def AB(hu:X.A.units+64<cLine){f g}(ha:PE X a (tD X.K B G0 f))(hb:PE X b (tD X.K B G0 g))(hs:Sc b:=by intro _ _;rfl):PE X (.Subscript a b pos) (tD X.K B G0 (UP V4 f g)):=
 Kp (j9 (by lia) ha hb hs) λσ H Q q=>tM.two q λv u H2 G Z x y k rx ry a=>by
  obtain⟨d,e,a1⟩:=a.opt;unfold V4 at e;split at e
  .split at e
   .rename_i ky hk
    obtain⟨ad,o,ks,vs,ds,rfl,rfl,hl,hg,rr⟩:=rx.prs_inv;cases y with
    |tuple ys=>have hy:=GK hk;subst hy;obtain⟨bd,ws,rfl,hsq,aB⟩:=ry.tup_inv;have hws   :=keys_inv aB;subst hws;obtain⟨w,hw,rw2⟩:=Hi rr e;exact⟨ad,bd,_,ky,w,rfl,rfl,.inr ⟨o,k.gh _ _ hg⟩,YB k.gh hsq,hw,a1.now k rw2⟩
    |_=>cases hk
   simp_all
  simp_all
end
noncomputable def Rc(acc:List (yV×D))(k:yV):Bool:=acc.all λp=>decide (p.1≠k)
def qK   (h:Rc acc k=yM):k∉acc.map (·.1):=λz=>by obtain⟨p,hp,e⟩:=Qv.mp z;have:=Qa (QL.mp h p hp);exact this e
noncomputable def Tx:Option (Option Sl)->Bool
 |some yL=>yM
 |_=>yN
def AA  (h:Tx x=yM):x=O yL:=by
 unfold Tx at h;split at h
 .rfl
 simp_all
def X1(i1 i2:Nat)(g:M D):yO->List (yV×D)->US->Option (List (yV×D))
 |[],acc,_=>O acc
 |.tuple [x,y]::r,acc,Z=>match R8 x,R8 y with
  |some kx,O ky=>match g ((Z.set i1 (O (.pub x))).set i2 (O (.pub y)))with
   |.ok v Z'=>if acc.length<1000000/\Rc acc [kx,ky]=yM/\YJ Z'=yM then X1 i1 i2 g r (acc++[([kx,ky],v)]) Z' else yL
   |.bad=>yL
  |_,_=>yL
 |_::_,_,_=>yL
def Tq(acc:List (yV×D)):D:=.dict (pdD (acc.map (·.1)) (acc.map (·.2)))
def W4(j i1 i2:Nat)(f:M yO)(g:M D):SM:=λZ=>
 if YJ Z=yM/\Tx Z[j]?=yM/\i1<Z.length/\i2<Z.length then match f Z with
  |.ok ds Z1=>if YJ Z1=yM then match X1 i1 i2 g ds [] Z1 with
   |some acc=>.rt (Tq acc)
   |none=>.bad
   else .bad
  |.bad=>.bad
 else .bad
section
variable{X:Cx}{B G0:Hp}{KX:XW}{e a b c tg iter:Up}{pos:Pos}
def Da{j i1 i2:Nat}{x y z:Str}{f:M yO}{g:M D}{p1 p2 p3 p4 p5 p6 p7 p8 p9 pa pb pc pd pe:Pos}{k1 k2}
  (hu:X.A.units+64<cLine) (hp:PassesOwn (model X.prog X.w) X.A X.env X.xe) (hc:X.calm=yM) (hN:X.N.Nodup)
  (hj:X.N[j]?=O x) (h1:X.N[i1]?=O y) (h2:X.N[i2]?=O z) (hx:Loc X.env.scope x) (hy:Loc X.env.scope y) (hz:Loc X.env.scope z)
  (vx:∀q,PE X (.Name x q) (KI j)) (vy:∀q,PE X (.Name y q) (KI i1)) (vz:∀q,PE X (.Name z q) (KI i2))
  (n1:j≠i1) (n2:j≠i2) (n3:i1≠i2)
  (hi:∀B' G',PI X (.Tuple [.Name y p3,.Name z p4] k1 p5) iter (iD X.K B' G' f)) (hg:∀B' G',PE X e (tD X.K B' G' g))
  (hfx:X.fn x=yM∨X.env.scope.names.lookup x=O .local) (hfy:X.fn y=yM∨X.env.scope.names.lookup y=O .local) (hfz:X.fn z=yM∨X.env.scope.names.lookup z=O .local)
  (hs1:swapsWith (.Dict [] [] p2) (O (.Name x p1)) pa.line X.env=pure yN:=by rfl)
  (hs2:swapsWith e (O (.Subscript (.Name x p6) (.Tuple [.Name y p7,.Name z p8] k2 p9) pb)) pc.line X.env=pure yN:=by rfl)
  (a9:(UH [.Name y p3,.Name z p4] X.env).map (·.2)=assign (.Name y p3) X.env::(UH [.Name z p4] X.env).map (·.2):=by rfl)
  (hs4:(UH [.Name z p4] X.env).map (·.2)=assign (.Name z p4) X.env::(UH [] X.env).map (·.2):=by rfl)
  (hs5:(UH [.Name y p3,.Name z p4] X.env).length=2:=by rfl) (hs6:(UH [.Name y p3,.Name z p4] X.env).findIdx? (·.1)=yL:=by rfl)
  (hs7:Us [.Name y p7,.Name z p8] X.env=(yN,eval (.Name y p7) X.env)::Us [.Name z p8] X.env:=by rfl)
  (hs8:Us [.Name z p8] X.env=[(yN,eval (.Name z p8) X.env)]:=by rfl)
  (hs9:∀x,UI iter X.env x=pure x:=by intro _;rfl) :
  PSs X [.Assign [.Name x p1] (.Dict [] [] p2) pa,.For (.Tuple [.Name y p3,.Name z p4] k1 p5) iter [.Assign [.Subscript (.Name x p6) (.Tuple [.Name y p7,.Name z p8] k2 p9) pb] e pc] [] pd,.Return (O (.Name x pe)) pos] (tS X.K B G0 KX (W4 j i1 i2 f g)):=by
 have L1:=Pd (pos:=pa) hN hj hx (jC (X:=X) (pos:=p2)) hs1 hfx;have hi':PI X (.Tuple [.Name y p3,.Name z p4] k1 p5) iter (λσ H R=>∃B' G',iD X.K B' G' f σ H R):=λpins s σ H R I ⟨B',G',q⟩=>hi B' G' pins s σ H R I q;have hg':PE X e (λσ H Q=>∃B' G',tD X.K B' G' g σ H Q):=λpins s σ H Q I ⟨B',G',q⟩=>hg B' G' pins s σ H Q I q;have T:=OD (X:=X) (pos:=p5) (k:=k1) hc (RS (SE (pos:=p3) hN h1 hy hfy) (RS (SE (pos:=p4) hN h2 hz hfz) OV hs4) a9) hs5 hs6;have P:=AR (X:=X) (pos:=pc) (pos':=pb) (by lia) (vx p6) (OA (pos:=p9) (x1:=k2) (Yd (vy p7) (Yd (vz p8) Xo hs8) hs7)) hg' hs2
 have F:=MV (pos:=pd) hp hc hi' T (Tg P) hs9;have R:=Pe (pos:=pos) (Dd (vx pe));refine Ro (Tj L1 (Tj F (Tg R))) λDn σ H ⟨G,Z,k,a⟩=>?_;unfold W4 at a
 split at a
 case isFalse=>exact a.elim
 case isTrue bu=>
 obtain⟨c1,c2,c3,c4⟩:=bu;have c2:=AA c2;intro p hp0;show ∃B' G',iD X.K B' G' f (σ.set j (O (.ref p))) (upd H p (.dT [])) _;have hgp:G p=yL:=k.gh.free hp0
 have hbp:B p=yL:=by
  cases q:B p with
  |none=>rfl
  |some u=>have:=k.bh p u q;rw[hp0]at this;cases this
 have zA:j<Z.length:=(Ql.mp c2).1;have sgH:Same G (upd H p (.dT [])):=k.gh.trans (Zj hp0)
 have k1:EOk X.K (upd H p (.dT [])) G G (upd H p (.dT [])) (σ.set j (O (.ref p))) Z:=by
  refine⟨.refl _,sgH,.refl _,λ_ _ _ n=>n,by rw[QZ];exact k.len,λi d q=>?_,λi ds q=>(RO c1 q).elim,λi l ad es fs q _ _ _=>(RO c1 q).elim,.no c1⟩;have z:j≠i:=λz=>by subst z;rw[c2]at q;cases q
  rw[Qk z];exact k.pub i d q
 have hpj:(σ.set j (O (V.ref p)))[j]?=O (O (.ref p)):=QG (by rw[←k.len];exact zA);have ex0:Ext G0 B G (upd H p (.dT [])):=k.exit.trans (Ext.hid k.gh hp0);refine⟨_,_,G,Z,k1,?_⟩;cases zf:f Z with
 |bad=>rw[zf]at a;exact a.elim
 |ok ds Z1=>
 rw[zf]at a;dsimp only at a⊢;split at a
 case isFalse=>exact a.elim
 case isTrue c5=>
 cases zl:X1 i1 i2 g ds [] Z1 with
 |none=>rw[zl]at a;exact a.elim
 |some accF=>
 rw[zl]at a;dsimp only at a;intro J G1 H1 kk s1 it;have hp1:H1 p=O (.dT []):=kk.bh p _ Kz;have hg1:G1 p=yL:=kk.np p (.t []) Kz hgp
 refine⟨λi m σ' H'=>m=ds.length-i/\∃G' Z' acc vs,EOk X.K H' G' G' H' σ' Z'/\Same G1 G'/\YJ Z'=yM/\Z'.length=Z.length/\σ'[j]?=O (O (.ref p))/\H' p=O (.dT ((acc.map (·.1)).zip vs))/\Reps X.K G' vs (acc.map (·.2))/\G' p=yL/\Ext G0 B G' H'/\X1 i1 i2 g (ds.drop i) acc Z'=O accF,
  ⟨ds.length,by lia,G1,Z1,[],[],kk.rebaseN c5,.refl _,c5,by rw[kk.len,k1.len],hpj,hp1,.nil,hg1,ex0.trans kk.exit,by rw[List.drop_zero];exact zl⟩,?_⟩
 rintro i m σ' H' ⟨rfl,G',Z',acc,vs,k',s',c6,bG,ap,aQ,rv,hg'',bz,hl⟩;by_cases hi:i<ds.length
 .right
  refine⟨it.go i G' H' s' k'.gh hi,λσ2 H2=>∃G' Z' acc vs,EOk X.K H2 G' G' H2 σ2 Z'/\Same G1 G'/\YJ Z'=yM/\Z'.length=Z.length/\σ2[j]?=O (O (.ref p))/\H2 p=O (.dT ((acc.map (·.1)).zip vs))/\Reps X.K G' vs (acc.map (·.2))/\G' p=yL/\Ext G0 B G' H2/\X1 i1 i2 g (ds.drop (i+1)) acc Z'=O accF,λσ2 H2 h2=>⟨ds.length-(i+1),by lia,rfl,h2⟩,λxv H2 yl=>?_⟩;obtain⟨G2,ex,rx⟩:=it.yld i G' H' xv H2 ds[i] s' k'.gh (Qi hi) yl;rw[JV hi]at hl;generalize hdi:ds[i]=di at hl rx;unfold X1 at hl;split at hl
  .rename_i heq;cases heq
  .rename_i acc Z' _ _ _ dx dy r heq
   injection heq with aD ag;subst aD ag
   split at hl
   .rename_i kx ky hkx hky
    obtain⟨ad,ws,rfl,hsq,rws⟩:=rx.tup_inv;cases rws with
    |cons ra rws=>
    cases rws with
    |cons rb rws=>
    cases rws;rename_i v1 v2;have ev1:=PK hkx;have ev2:=PK hky;subst ev1 ev2;have ew1:=ra.key_inv;have ew2:=rb.key_inv;subst ew1 ew2;refine⟨ad,_,rfl,YB ex.gh hsq,rfl,_,_,rfl,_,_,rfl,rfl,?_⟩;have k2:EOk X.K H' G' G2 H2 σ' Z':=k'.ext ex;have k3:=(k2.setPub (i:=i1) ra (by rw[bG];exact c3)).setPub (i:=i2) rb (by rw[QZ,bG];exact c4);have c7:YJ ((Z'.set i1 (O (.pub (kD kx)))).set i2 (O (.pub (kD ky))))=yM:=Gp (Gp c6);have hs2:H2 p=O (.dT ((acc.map (·.1)).zip vs)):=ex.h p _ aQ;have ae:G2 p=yL:=ex.np p (.t _) aQ hg'';refine⟨_,_,G2,_,k3.rebaseN c7,?_⟩;cases zg:g ((Z'.set i1 (O (.pub (kD kx)))).set i2 (O (.pub (kD ky))))with
    |bad=>rw[zg]at hl;cases hl
    |ok dv Z4=>
    rw[zg]at hl;dsimp only at hl;split at hl
    case isFalse=>cases hl
    case isTrue hcc=>
    obtain⟨d1,d2,d3⟩:=hcc;have d2:=qK d2;intro v G4 H4 k4 s4 rv4;have lj:j<σ'.length:=(Ql.mp ap).1;have l1:i1<σ'.length:=by rw[←k'.len,bG];exact c3
    have l2:i2<σ'.length:=by rw[←k'.len,bG];exact c4
    refine⟨.ref p,by rw[Qk n2.symm,Qk n1.symm];exact ap,?_⟩;refine⟨_,by rw[Qk n3.symm];exact QG l1,_,QG (by rw[QZ];exact l2),(show 2<=Uq by decide),λq hq=>?_⟩;have hp4:H4 p=O (.dT ((acc.map (·.1)).zip vs)):=k4.bh p _ hs2;have hqp:p≠q:=ZO hp4 hq;have hg4:G4 p=yL:=k4.np p (.t _) hs2 ae;have hgq:G4 q=yL:=k4.gh.free hq;have hvl:vs.length=acc.length:=by rw[rv.length,Qd]
    have hnone:ZQ ((acc.map (·.1)).zip vs) [kx,ky]=yL:=by
     have key:∀(ks:List yV)(us:List V),[kx,ky]∉ks->ZQ (ks.zip us) [kx,ky]=yL:=by
      intro ks;induction ks with
      |nil=>intro us _;rfl
      |cons k0 kr ih=>
       intro us hn;cases us with
       |nil=>rfl
       |cons u0 ur=>rw[Jh,P6 (by intro z;exact hn (by rw[←z];exact Qn))];exact ih ur λz=>hn (Qm _ z)
     exact key _ _ d2
    refine⟨p,_,rfl,DPut.t (k:=[kx,ky]) (by rw[Km hqp];exact hp4) Kz (by rw[JP,Qd,Jn];lia),?_⟩;rw[jF _ hnone];have sg6:Same G4 (upd (upd H4 q (.tup [kV kx,kV ky])) p (.dT ((acc.map (·.1)).zip vs++[([kx,ky],v)]))):=λbb u e=>by rw[Km (ZO e hg4),Km (ZO e hgq)];exact k4.gh bb u e
    refine⟨G4,Z4,acc++[([kx,ky],dv)],vs++[v],k4.heap d3 sg6,(s'.trans ex.g).trans s4,d3,?_,?_,?_,?_,hg4,?_,hl⟩
    .rw[k4.len,QZ,QZ,←k'.len,bG]
    .rw[Qk n2.symm,Qk n1.symm];exact ap
    .rw[Kz,QQ,List.zip_append (by rw[Qd,hvl])];rfl
    .rw[QQ];exact Reps.append (rv.mono (ex.g.trans s4)) (.cons rv4 .nil)
    .have e4:Ext G0 B G4 H4:=(bz.trans ex).trans k4.exit
     refine⟨λbb u e=>?_,e4.g,sg6,e4.np⟩;have hb4:=e4.h bb u e;rw[Km (ZO e hbp),Km (ZO hb4 hq)];exact hb4
   .cases hl
  .cases hl
 .left
  refine⟨it.stop i G' H' s' k'.gh (by lia),.ref p,ap,p,_,rfl,aQ,λo=>?_⟩;rw[List.drop_eq_nil_of_le (by lia)]at hl;have hl:O acc=O accF:=hl;have hl:=QW hl;subst hl;refine a (.ref p) (upd G' p (.frz o (.dT ((acc.map (·.1)).zip vs)))) _ ⟨λbb u e=>?_,bz.g.trans (Zj hg''),λbb u e=>?_,λbb u e n=>?_⟩ ?_
  .rw[Km (ZO e hbp)];exact bz.h bb u e
  .by_cases zz:bb=p
   .subst zz;rw[Kz]at e⊢;exact e
   .rw[Km zz]at e⊢;exact k'.gh bb u e
  .rw[Km (ZO e hbp)];exact bz.np bb u e n
  .exact .dtt yK (by rw[Qd,Qd]) Kz (rv.mono (Zj hg''))
end
end DL
namespace L2
open PySem PySem.Spec PyProof.Rows
end L2
namespace DL
open PySem PySem.Spec L2
open PyProof.Rows hiding St
end DL
namespace L2
open PySem PySem.Spec PyProof.Rows
end L2
namespace DL
open PySem PySem.Spec L2
open PyProof.Rows hiding St
end DL
namespace L2
open PySem PySem.Spec PyProof.Rows
end L2
namespace DL
open PySem PySem.Spec L2
open PyProof.Rows hiding St
end DL
namespace L2
open PySem PySem.Spec PyProof.Rows
end L2
namespace DL
open PySem PySem.Spec L2
open PyProof.Rows hiding St
section
variable{K:Frag}{B G0 G H:Hp}{σ:St}{Z:US}
structure NewT(K:Frag)(B G H:Hp)(σ:St)(Z:US)(pt:Pat)(v:V)(d:D)(fp:yU):Prop where
 r:RepO K G H pt v d fp
 nd:fp.Nodup
 b:∀a∈fp,B a=yL/\G a=yL
 f:∀a∈fp,∀(j:Nat) es,Z[j]?=O (O (.own es))->σ[j]?≠O (O (.ref a))
 dp:∀a∈fp,∀(j:Nat) p d v fp',Z[j]?=O (O (.deep p d))->σ[j]?=O (O v)->RepO K G H p v d fp'->a∉fp'
def EOk.newT{G' H'}{pt}{v}{d}{fp}(k1:EOk K B G0 G H σ Z)(sh:Same H H')(r:RepO K G' H' pt v d fp)(nd:fp.Nodup)(fr:∀a∈fp,H a=yL/\G' a=yL):NewT K B G' H' σ Z pt v d fp where
 r:=r
 nd:=nd
 b:=λa m=>⟨k1.bh.free (fr a m).1,(fr a m).2⟩
 f:=λa m j es q w=>by obtain⟨b,us,g1,g2,g3,g4,g5⟩:=k1.own j es q;simp_all
 dp:=λa m j p d v fp' q s r=>k1.freshD sh (fr a m).1 q s r
def EOk.forget  (k:EOk K B G0 G H σ Z):EOk K B G0 G H σ (Z.set i yL):=by
 have nz:∀{m:Nat}{s:Sl},(Z.set i yL)[m]?=O (O s)->Z[m]?=O _:=λ{m s} q=>by
  by_cases z:i=m
  .subst z;have:=YH q;cases this
  .rw[Qk z]at q;exact q
 exact⟨k.bh,k.gh,k.g0,k.np,by rw[QZ];exact k.len,λj d q=>k.pub j d (nz q),λj ds q=>k.own j ds (nz q),λj l c es fs q1 q2 s1 s2=>k.sep j l c es fs (nz q1) (nz q2) s1 s2,
  k.dp.map (λm p d q=>⟨nz q,rfl⟩) (λm es q=>⟨es,nz q,rfl⟩) λm p d v fp q s r w n=>⟨r,w⟩⟩
theorem RepOl.leaf:∀{vs}{ds},Reps K G vs ds->RepOl K G H .leaf vs ds []
 |_,_,.nil=>.nil
 |_,_,.cons h t=>.cons   (.leaf h) (RepOl.leaf t)
end
noncomputable def tT(K:Frag)(B G0:Hp)(pt:Pat)(f:M D):TE:=λσ H Q=>∃G Z,EOk K B G0 G H σ Z/\match f Z with
 |.ok d Z'=>∀v fp G' H',EOk K B G0 G' H' σ Z'->Same G G'->NewT K B G' H' σ Z' pt v d fp->Q v H'
 |.bad=>False
noncomputable def spT(K:Frag)(n:Nat)(pt:Pat)(F:yO->yQ):Sp:=λvs H Q _=>∃G ds d,vs.length=n/\Same G H/\Reps K G vs ds/\F ds=O d/\∀v fp G' H',Ext G H G' H'->RepO K G' H' pt v d fp->fp.Nodup->(∀a∈fp,H a=yL/\G' a=yL)->Q v H'
noncomputable def tST(K:Frag)(B G0:Hp)(pt:Pat)(g:SM)(f:M D):TS:=λDn σ H=>∃G Z,EOk K B G0 G H σ Z/\match g Z with
 |.nx Z1=>(match f Z1 with
  |.ok d _=>∀v fp G' H',Ext G0 B G' H'->RepO K G' H' pt v d fp->fp.Nodup->(∀a∈fp,B a=yL/\G' a=yL)->Dn.rt v H'
  |.bad=>False)
 |_=>False
def Rb(N:List Str)(g:SM)(f:M D)(ds:yO):yQ:=match g (YG N ds)with
 |.nx Z=>(match f Z with
  |.ok r _=>O r
  |.bad=>yL)
 |_=>yL
def Sm(P:Ul)(w:World)(K:Frag)(mg:Str->yT)(base:Heap)(x:Str)(k n:Nat)(pt:Pat)(F:yO->yQ):Prop:=
 ∃(f:Um)(fd:Uo)(ps:List Str),mg x=O (.ref f)/\PySem.W.keepIn K (.ref f)=yM/\YC K fd ps []/\FnOk P w K mg base CX0 k f fd ps (spT K n pt F)
section
variable{X:Cx}{B G0:Hp}{KX:XW}{e o a b c:Up}{pos:Pos}{es:yS}{st:Stmt}{sts:List Stmt}{pt:Pat}
def E9  (h:PE X e (tT X.K B G0 pt f)):PSs X [.Return (O e) pos] (tST X.K B G0 pt sNx f):=Ro (Tg (Pe h)) λD σ H ⟨G,Z,k,a⟩=>by
 refine⟨G,Z,k,?_⟩;dsimp only[sNx]at a;cases z:f Z with
 |bad=>simp_all
 |ok ds Z'=>rw[z]at a;exact λv fp G' H' k' s' n=>a v fp G' H' k'.exit n.r n.nd n.b
def Az   (h1:PS X st (tS X.K B G0 KX0 g))(h2:PSs X sts (tST X.K B G0 pt h f)):PSs X (st::sts) (tST X.K B G0 pt (UQ g h) f):=Ro (Tj h1 h2) λD σ H ⟨G,Z,k,a⟩=>by
 refine⟨G,Z,k,?_⟩;unfold UQ at a;cases z:g Z with
 |nx Z1=>rw[z]at a;exact λσ' G' H' k' s'=>⟨G',Z1,k',a⟩
 |rt d=>simp_all
 |ro ds=>simp_all
 |bk Z1=>simp_all
 |ct Z1=>simp_all
 |ex Z1 d=>simp_all
 |bad=>simp_all
def okT   {K}{mg}{base:Heap}{x qual:Str}{st:Stmt}{f:Um}{fd}{N ps}{k n:Nat}{g:SM}{q:M D}(F:Fun K x qual st f fd)(S:Tf N ps (K7 st))(hn:ps.length=n)
  (der:∀(cdv:Uj)(A:Around)(outer)(s:Uk)(H:Hp)(E:XK)(B G0:Hp),Room k (A.deeper (envOfC qual (K7 st) s.heap.objs.size f cdv)) ->
   PSs (Zl CX0 P w K mg base N qual (K7 st) f cdv A outer s H E).nox (Yc st) (tST K B G0 pt g q)):FnOk P w K mg base CX0 (k+1) f fd ps (spT K n pt (Rb N g q)):=by
 refine F.ok S (λvs H Q E h=>?_) (λcdv A outer s H vs Q E hr h=>?_)
 .obtain⟨_,_,_,hl,_⟩:=h
  rw[hl,hn]
 .obtain⟨G,ds,d,hl,sg,r,hF,qq⟩:=h
  refine⟨_,der cdv A outer s H E H G hr,G,YG N ds,Ng sg r,?_⟩;unfold Rb at hF;cases z:g _ with
  |nx Z=>
   rw[z]at hF;dsimp only at hF⊢;cases z2:q Z with
   |bad=>rw[z2]at hF;cases hF
   |ok d' Z'=>rw[z2]at hF;cases hF;exact λv fp G' H' ex rr nd fr=>qq v fp G' H' ex rr nd fr
  |rt d'=>rw[z]at hF;cases hF
  |ro ds=>rw[z]at hF;cases hF
  |bk Z=>rw[z]at hF;cases hF
  |ct Z=>rw[z]at hF;cases hF
  |ex Z d=>rw[z]at hF;cases hF
  |bad=>rw[z]at hF;cases hF
def qJ{k kk n}{F}{g}{x:Str}{p2:Pos}(d:Sm X.prog X.w X.K X.mg X.base x k n pt F)(hr:Room kk X.A)(hg:Gl X x)(ha:PA X (e::es) (tDs X.K B G0 g))(hk:k<=kk:=by decide)(hn:(e::es).length=n:=by rfl)
  (hdb:(x==("__debug__" : Str))=yN:=by decide) (he:Us (e::es) X.env=(yN,eval e X.env)::Us es X.env:=by rfl) (hpl:(backTo pos (Us es X.env)).any (·.1)=yN:=by rfl) :
  PE X (.Call (.Name x p2) (e::es) [] pos) (tT X.K B G0 pt (UV n F g)):=by
 obtain⟨f,fd,ps,h1,h2,h3,h4⟩:=d;refine Kp (LQ h4 (hr.mono hk) hg h1 h2 h3 .nil Oo ha hdb he hpl) λσ H Q ⟨G,Z,kk0,a⟩=>?_
 refine⟨G,Z,kk0,?_⟩;unfold UV U3 at a;cases z:g Z with
 |bad=>rw[z]at a;exact a.elim
 |ok xs Z1=>
  rw[z]at a;dsimp only at a⊢;intro vs G1 H1 k1 s1 r1;by_cases hl:xs.length=n
  .rw[Qp hl]at a
   cases zf:F xs with
   |none=>rw[zf]at a;exact a.elim
   |some r=>rw[zf]at a;refine⟨G1,xs,r,by rw[Q3,r1.length];exact hl,k1.gh,by rw[Q3];exact r1,zf,λv fp G' H' ex rr nd fr=>?_⟩;exact a v fp G' H' (k1.ext ex) (s1.trans ex.g) (k1.newT ex.h rr nd fr)
  .rw[QH hl]at a
   exact a.elim
end
section
variable{K:Frag}{B G0 G H:Hp}{σ:St}{Z:US}
theorem RepOl.leaf_inv:∀{vs}{ds}{fp},RepOl K G H .leaf vs ds fp->Reps K G vs ds/\fp=[]
 |_,_,_,.nil=>⟨.nil,rfl⟩
 |_,_,_,.cons (.leaf r) t=>by obtain⟨r2,e⟩:=RepOl.leaf_inv t;subst e;exact⟨.cons r r2,rfl⟩
end
def E8  {loose}{mean}{mg mb}{h}{ix}(P)(w)(base){ps}{k n:Nat}{pt:Pat}{F}(T:PyProof.Rows.Top q loose mean mg mb h)(e:recsOf q=Tc p ix)(i:Nat)(x:Str)(hi:ix.contains i=yM)(hn:RE (Ku p i)=O x)
  (ok:∀{f:Um}{fd},Fun (whole h) x x (Ku p i) f fd->FnOk P w (whole h) mg base CX0 k f fd ps (spT (whole h) n pt F))
  (hb:∀(kV doc pm)(an)(cdv ct)(us),us.length=ps.length->bindArgs (PySem.W.fnOf x x (XQ (Ku p i)) (Yc (Ku p i)) (K7 (Ku p i)) .none kV doc pm an cdv ct) ⟨us,[]⟩=pure (ps.zip us)):Sm P w (whole h) mg base x k n pt F:=by
 obtain⟨f,fd,m,FU⟩:=Ph T e i x hi hn;exact⟨f,fd,ps,m,FU.kp,FU.binds hb,ok FU⟩
section
variable{Z Z1 Z2 Z':US}{pt:Pat}
def ET    {ds}{P:D->Prop}(h0:YG N ds=Z)(h:Ho g Z λo=>∃Z1,o=.nx Z1/\∃d Z2,f Z1=.ok d Z2/\P d):∃d,Rb N g f ds=O d/\P d:=by obtain⟨Z1,e,d,Z2,e2,p⟩:=h.out;refine⟨d,?_,p⟩;unfold Rb;simp_all
end
end DL
namespace L2
open PySem PySem.Spec PyProof.Rows PySem.Calls PyProof.V
section
variable{X:Cx}{x n:Str}{pos np hpos:Pos}{pins:List (Um×Obj)}{σ:St}{H:Hp}{s:Uk}{a C D fI fD:Um}{dd:yY}{bm bmD:yR}{rest:List ExceptHandler}{Q:Flow->Uk->Prop}
def ym   (I:Inv X pins σ H s)(hx:H a=O (.ext (XO yN a C dd)))(XC:XCls (model X.prog X.w) X.base C bm fI)(hD:XCls (model X.prog X.w) X.base D bmD fD)(hg:Gl X x)(hm:X.mg x=O (.ref D))
  (hb:(Value.ref C::bm).contains (.ref D)=yN) (h:Ur (model X.prog X.w) X.A (handleBy (.ref a) X.env rest) Q X.xe s) (hdb:(x==("__debug__" : Str))=yN:=by decide) :
  Ur (model X.prog X.w) X.A (handleBy (.ref a) X.env (.ExceptHandler (O (.Name x np)) name body hpos::rest)) Q X.xe s:=by
 refine wpAny_handleBy_cons (codeAny_handlers_test ?_) (by intro q;cases q);refine VM (I.suite a) hg hm ?_ hdb;obtain⟨nm,qn,N,bs,sn,sub,ab,col,aT,k0,k1,k2,k3,k5,hC⟩:=XC.obj;obtain⟨zP,qn',N',bs',sn',sub',au,col',dd2,j0,j1,j2,j3,j5,zI⟩:=hD.obj;obtain⟨⟨vs,sl,ga,_⟩,_,_⟩:=I.hok a _ hx;exact Nh (I.bk _ _ hC) (I.bk _ _ zI) (hD.tail _ _ yK) ga yK hb h
def GJ  {ts:TS}{suite}{b₀:Stmt}{Dn:Ends}(I:Inv X pins σ H s)(fl:Fly yN s.heap a)(hx:H a=O (.ext (XO yN a C dd)))(XC:XCls (model X.prog X.w) X.base C bm fI)(hD:XCls (model X.prog X.w) X.base D bmD fD)(hg:Gl X x)(hm:X.mg x=O (.ref D))
  (hN:X.N.Nodup) (hi:X.N[i]?=O n) (hl:X.env.kindOf n=O .local) (hs:∀a,PSs (X.suite a) (b₀::suite) ts) (hb:(Value.ref C::bm).contains (.ref D)=yM)
  (q:ts {nx:=λσ' H'=>Dn.nx (σ'.set i yL) H',rt:=Dn.rt,bk:=λσ' H'=>Dn.bk (σ'.set i yL) H',ct:=λσ' H'=>Dn.ct (σ'.set i yL) H'} (σ.set i (O (.ref a))) H) (hdb:(x==("__debug__" : Str))=yN:=by decide) :
  Ur (model X.prog X.w) X.A (handleBy (.ref a) X.env (.ExceptHandler (O (.Name x np)) (O n) (b₀::suite) hpos::rest)) (SP X pins Dn) X.xe s:=by
 refine wpAny_handleBy_cons (codeAny_handlers_test ?_) (by intro q;cases q);refine VM (I.suite a) hg hm ?_ hdb;obtain⟨nm,qn,N,bs,sn,sub,ab,col,aT,k0,k1,k2,k3,k5,hC⟩:=XC.obj;obtain⟨zP,qn',N',bs',sn',sub',au,col',dd2,j0,j1,j2,j3,j5,zI⟩:=hD.obj;obtain⟨⟨vs,sl,ga,_⟩,_,_⟩:=I.hok a _ hx;refine Nh (I.bk _ _ hC) (I.bk _ _ zI) (hD.tail _ _ yK) ga yK hb ?_;refine codeAny_handlers_suite_as (Fo fl λh3 k3=>?_);have I3:=I.kept (t':=s.toks) k3;refine SH (v:=.ref a) I3 hN hi (.inl hl) yK (λs4 I4=>?_) (.inr hl);refine Qy (hs a pins s4 _ H _ (I4.suite a) q) (λf s5 h5=>?_) λ_ _ z=>z.elim
 cases f with
 |ret u=>obtain⟨v,σ',H',I',r,q'⟩:=h5;exact SL (I3.unsuite I') hN hi hl λs6 I6=>⟨v,_,H',I6,r,q'⟩
 |_=>obtain⟨σ',H',I',q'⟩:=h5;exact SL (I3.unsuite I') hN hi hl λs6 I6=>⟨_,H',I6,q'⟩
def Ol(KC:Um->yR->Prop)(D1 D2:Um)(i:Nat)(t1 t2:TS)(Dn:Ends):V->St->Hp->Prop:=λv σ H=>∃a C dd bm,v=.ref a/\KC C bm/\H a=O (.ext (XO yN a C dd)) /\
 ∃t,((Value.ref C::bm).contains (.ref D1)=yM/\t=t1∨(Value.ref C::bm).contains (.ref D1)=yN/\(Value.ref C::bm).contains (.ref D2)=yM/\t=t2) /\
 t {nx:=λσ' H'=>Dn.nx (σ'.set i yL) H',rt:=Dn.rt,bk:=λσ' H'=>Dn.bk (σ'.set i yL) H',ct:=λσ' H'=>Dn.ct (σ'.set i yL) H'} (σ.set i (O (.ref a))) H
def Ay{KC}{D2 fD2:Um}{bmD2:yR}{x2:Str}{i:Nat}{tb:(V->St->Hp->Prop)->TS}{t1 t2:TS}{body aY aX:List Stmt}{b1 b2:Stmt}{st:List Env}{np2 z8:Pos}(zp:X.stack=X.env::st)(hfr:X.env.frame=O X.env.locals)
  (hcls:∀C bm,KC C bm->∃fI,XCls (model X.prog X.w) X.base C bm fI) (hD:XCls (model X.prog X.w) X.base D bmD fD) (hD2:XCls (model X.prog X.w) X.base D2 bmD2 fD2) (hg:Gl X x) (hm:X.mg x=O (.ref D)) (ae:Gl X x2) (hm2:X.mg x2=O (.ref D2)) (hN:X.N.Nodup) (hi:X.N[i]?=O n) (hl:X.env.kindOf n=O .local)
  (hb:∀(KX)(W)(pn:List (Um×Obj)),Xu yN (X.tried W pn) KX->PSs (X.tried W pn) body (tb KX)) (hs1:∀a,PSs (X.suite a) (b1::aY) t1) (hs2:∀a,PSs (X.suite a) (b2::aX) t2) (hdb:(x==("__debug__" : Str))=yN:=by decide) (ai:(x2==("__debug__" : Str))=yN:=by decide) :
  PS X (.Try body [.ExceptHandler (O (.Name x np)) (O n) (b1::aY) hpos,.ExceptHandler (O (.Name x2 np2)) (O n) (b2::aX) z8] [] [] pos) (λDn σ H=>tb (Ol KC D D2 i t1 t2 Dn) Dn σ H):=by
 intro pins s σ H Dn I h;refine wpAny_Try_except ?_
 let W:Uj->Uk->Prop:=λv s1=>∃a σ1 H1,v=.ref a/\Inv X pins σ1 H1 s1/\Fly yN s1.heap a/\Ol KC D D2 i t1 t2 Dn (.ref a) σ1 H1
 have hw:Xu yN (X.tried W pins) (Ol KC D D2 i t1 t2 Dn):=λpins' σ1 H1 s1 a C dd I1 hx fl hk=>⟨a,σ1,H1,rfl,I.untried I1,fl,hk⟩;refine Qy (hb _ W pins hw [] s σ H Dn (I.tried W) h) (λf s1 h1=>?_) λv s1 h1=>?_
 .cases f with
  |next=>obtain⟨σ',H',I',q⟩:=h1;exact JG ⟨σ',H',I.untried I',q⟩
  |ret u=>obtain⟨v,σ',H',I',r,q⟩:=h1;exact⟨v,σ',H',I.untried I',r,q⟩
  |_=>obtain⟨σ',H',I',q⟩:=h1;exact⟨σ',H',I.untried I',q⟩
 .obtain⟨a,σ1,H1,rfl,I1,fl,a',C,dd,bm,ea,kc,hx,t,ht,q⟩:=h1
  cases ea;obtain⟨fI,XC⟩:=hcls C bm kc;have hk:=I1.ok.frames;rw[zp]at hk;have hS:=I1.stack;rw[zp]at hS;refine Tv hk hS hfr fl λh2 p2 fl2=>?_;rw[←zp]at p2;have I2:=I1.passed hx p2;rcases ht with ⟨c1,rfl⟩|⟨c1,c2,rfl⟩
  .exact GJ I2 fl2 hx XC hD hg hm hN hi hl hs1 c1 q hdb
  .exact ym I2 hx XC hD hg hm c1 (GJ I2 fl2 hx XC hD2 ae hm2 hN hi hl hs2 c2 q ai) hdb
end
end L2
namespace DL
open PySem PySem.Spec L2
open PyProof.Rows hiding St
def WJ(i:Nat)(x1:Str)(h1:SM)(x2:Str)(h2:SM)(g:SM):SM:=λZ=>match g Z with
 |.ex Z1 d=>if(Yt x1 d=yM∨Yt x2 d=yM)/\i<Z1.length then(match (if Yt x1 d=yM then h1 else h2) (Z1.set i (O (.pub d)))with
  |.nx Z2=>.nx (Z2.set i yL)
  |.bk Z2=>.bk (Z2.set i yL)
  |.ct Z2=>.ct (Z2.set i yL)
  |.rt d2=>.rt d2
  |_=>.bad)else .bad
 |o=>o
section
variable{X:Cx}{B G0:Hp}{KX:XW}{e a b c:Up}{pos p2 cpos np np2 hpos z8:Pos}{es:yS}{x x2 n:Str}{k kk:Nat}
def Bf{i:Nat}{g h1 h2:SM}{body aY aX:List Stmt}{b1 b2:Stmt}{st:List Env}(cD:CK X.K X.mg x)(hg:Gl X x)(cD2:CK X.K X.mg x2)(ae:Gl X x2)(hN:X.N.Nodup)(hi:X.N[i]?=O n)(hl:X.env.kindOf n=O .local)
  (hb:∀(KX':XW)(W:Uj->Uk->Prop)(pn:List (Um×Obj)),Xu yN (X.tried W pn) KX'->PSs (X.tried W pn) body (tS X.K B G0 KX' g)) (hs1:∀a,PSs (X.suite a) (b1::aY) (tS X.K B G0 KX0 h1)) (hs2:∀a,PSs (X.suite a) (b2::aX) (tS X.K B G0 KX0 h2))
  (zp:X.stack=X.env::st:=by rfl) (hfr:X.env.frame=O X.env.locals:=by rfl) (hdb:(x==("__debug__" : Str))=yN:=by decide) (ai:(x2==("__debug__" : Str))=yN:=by decide) :
  PS X (.Try body [.ExceptHandler (O (.Name x np)) (O n) (b1::aY) hpos,.ExceptHandler (O (.Name x2 np2)) (O n) (b2::aX) z8] [] [] pos) (tS X.K B G0 KX (WJ i x h1 x2 h2 g)):=PS.kin λkin=>by
 obtain⟨D',bmD,hm,ck⟩:=cD;obtain⟨fD,xD⟩:=ck.cls (model X.prog X.w) X.base kin;obtain⟨D2,bmD2,hm2,ck2⟩:=cD2;obtain⟨fD2,xD2⟩:=ck2.cls (model X.prog X.w) X.base kin;refine K3 (Ay (KC:=KC X.K) (tb:=λKX'=>tS X.K B G0 KX' g) (t1:=tS X.K B G0 KX0 h1) (t2:=tS X.K B G0 KX0 h2) zp hfr (WI kin) xD xD2 hg hm ae hm2 hN hi hl hb hs1 hs2 hdb ai) λDn σ H ⟨G,Z,k,a⟩=>?_
 refine⟨G,Z,k,?_⟩;unfold WJ at a;cases z:g Z with
 |nx Z1=>rw[z]at a;exact a
 |rt d=>rw[z]at a;exact a
 |ro ds=>rw[z]at a;exact a
 |bk Z1=>rw[z]at a;exact a
 |ct Z1=>rw[z]at a;exact a
 |bad=>rw[z]at a;exact a.elim
 |ex Z1 d=>
  rw[z]at a;dsimp only at a;intro v σ1 G1 H1 k1 s1 r;by_cases hc:(Yt x d=yM∨Yt x2 d=yM)/\i<Z1.length
  .rw[Qp hc]at a
   obtain⟨d',hd⟩:∃d',d=.dict [(.none,d')]:=by rcases hc.1 with h|h<;>(unfold Yt at h;split at h;exact⟨_,rfl⟩;cases h)
   subst hd;obtain⟨ad,C,dd,bm,zP,vs,ds,rfl,e0,c,hx,_,_⟩:=r.exc_inv;subst e0;have u1:(Value.ref C::bm).contains (.ref D')=Yt x (.dict [(.none,.tuple [.str zP,.list ds])]):=by rw[c.has ck];rfl
   have u2:(Value.ref C::bm).contains (.ref D2)=Yt x2 (.dict [(.none,.tuple [.str zP,.list ds])]):=by rw[c.has ck2];rfl
   refine⟨ad,C,dd,bm,rfl,⟨_,c⟩,k1.gh _ _ hx,tS X.K B G0 KX0 (if Yt x (.dict [(.none,.tuple [.str zP,.list ds])])=yM then h1 else h2),?_,G1,_,k1.setPub r hc.2,?_⟩
   .cases zz:Yt x _ with
    |true=>exact .inl ⟨u1.trans zz,rfl⟩
    |false=>
     refine .inr ⟨u1.trans zz,?_,rfl⟩;rw[u2];rcases hc.1 with h|h
     .rw[zz]at h;cases h
     .exact h
   .cases z2:(if Yt x _=yM then h1 else h2) _ with
    |nx Z2=>rw[z2]at a;exact λσ2 G2 H2 k2 s2=>a _ G2 H2 k2.unset (s1.trans s2)
    |bk Z2=>rw[z2]at a;exact λσ2 G2 H2 k2 s2=>a _ G2 H2 k2.unset (s1.trans s2)
    |ct Z2=>rw[z2]at a;exact λσ2 G2 H2 k2 s2=>a _ G2 H2 k2.unset (s1.trans s2)
    |rt d2=>rw[z2]at a;exact a
    |ex _ _=>rw[z2]at a;exact a.elim
    |ro _=>rw[z2]at a;exact a.elim
    |bad=>rw[z2]at a;exact a.elim
  .rw[QH hc]at a;exact a.elim
noncomputable def V3(i:Nat)(f:M XR):SM:=λZ=>match Z[i]? with
 |some (O (.own _))=>(match f Z with
  |.ok (.val d) Z1=>(match Z1[i]? with
   |some (O (.own ds))=>if ds.length<1000000 then .nx (Z1.set i (O (.own (ds++[d]))))else .bad
   |_=>.bad)
  |.ok (.exc d) Z1=>.ex Z1 d
  |.bad=>.bad)
 |_=>.bad
def Be   {o:Up}{apos cpos:Pos}(ho:PE X o (KI i))(he:PE X e (tX X.K B G0 KX f))
  (hbase:attributeBase o "append" X.env (eval o X.env)=eval o X.env:=by rfl)
  (hfew:((backTo cpos (Us [e] X.env)).all (λx=>!x.1)&&(backToKw cpos (keywordEach [] X.env)).all (λx=>x.1.isSome)
   && decide ([e].length+([]:List Keyword).length+(if([]:List Keyword).isEmpty then 0 else 1)<30))=yM:=by rfl)
  (hline:(apos.endLine==cpos.line)=yM:=by rfl) (hs:Us [e] X.env=[(yN,eval e X.env)]:=by rfl)
  (hsw:swapsWith (.Call (.Attribute o "append" apos) [e] [] cpos) yL pos.line X.env=pure yN:=by rfl) :
  PS X (.Expr (.Call (.Attribute o "append" apos) [e] [] cpos) pos) (tS X.K B G0 KX (V3 i f)):=
 K3 (VL (Pb PySem.F.plainAttrs_list PySem.F.slot_list_append PySem.F.type_list_append Nu ho (Yd he Xo (by rw[hs];rfl)) hbase hfew hline (by rw[hs];rfl) yK) hsw) λD σ H ⟨G,Z,k,a⟩=>by
  unfold V3 at a;split at a
  .rename_i zJ q0
   obtain⟨ad,vs0,h1,h2,h3,h4,h5⟩:=k.own i zJ q0;refine⟨.ref ad,h1,.inl ⟨rfl,_,SqL.of h4⟩,G,Z,k,?_⟩;cases z:f Z with
   |bad=>rw[z]at a;exact a.elim
   |ok xr Z1=>
    rw[z]at a;cases xr with
    |exc d=>exact λv G' H' k' s' r'=>a v σ G' H' k' s' r'
    |val d=>
     dsimp only at a;split at a
     .rename_i ds q
      split at a
      .rename_i hl
       intro v G' H' k' s' r';obtain⟨bH,vs,g1,g2,g3,g4,g5⟩:=k'.own i ds q;rw[h1]at g1;cases g1;refine⟨ad,vs,v,rfl,rfl,g4,by rw[g5.length];exact QA hl lim,?_⟩;exact a σ G' _ (k'.change q h1 (g5.append (.cons r' .nil))) s'
      .exact a.elim
     .exact a.elim
  .exact a.elim
end
noncomputable abbrev PLL:Pat:=.tup [.lst .leaf,.lst .leaf]
noncomputable def RD(f:M yO)(j:Nat):M D:=λZ=>match f Z with
 |.ok ds Z1=>(match Z1[j]? with
  |some (O (.own es))=>.ok (.tuple [.list ds,.list es]) (Z1.set j yL)
  |_=>.bad)
 |.bad=>.bad
section
variable{X:Cx}{B G0:Hp}{KX:XW}{e e1 e2:Up}{pos:Pos}
def xx  {j:Nat}{k1}(h1:PE X e1 (tL X.K B G0 f))(h2:PE X e2 (KI j))(hs1:Us [e1,e2] X.env=(yN,eval e1 X.env)::Us [e2] X.env:=by rfl)(hs2:Us [e2] X.env=[(yN,eval e2 X.env)]:=by rfl) :
  PE X (.Tuple [e1,e2] k1 pos) (tT X.K B G0 PLL (RD f j)):=by
 refine Kp (OA (Yd h1 (Yd h2 Xo hs2) hs1)) λσ H Q ⟨G,Z,k,q⟩=>?_;unfold RD at q
 refine⟨G,Z,k,?_⟩;cases z1:f Z with
 |bad=>rw[z1]at q;exact q.elim
 |ok d1 Z1=>
 rw[z1]at q;dsimp only at q;split at q
 case h_2=>exact q.elim
 rename_i es d' Z' hq;split at hq
 case h_2=>cases hq
 rename_i es' ho;cases hq;intro a1 vs1 G1 H1 k1 s1 n1;obtain⟨b,ws,g1,g2,g3,g4,g5⟩:=k1.own j es' ho;obtain⟨ω,w1,w2⟩:=id k1.dp;have hwb:=w2 j es' b ho g1;have hne:a1≠b:=λz=>n1.f j es' ho (by rw[z];exact g1)
 refine⟨.ref b,g1,(show 2<=Uq by decide),λp hp=>?_⟩;have sh:Same H1 (upd H1 p (.tup [.ref a1,.ref b])):=Zj hp
 have nz:∀{m:Nat}{s:Sl},(Z1.set j yL)[m]?=O (O s)->Z1[m]?=O (O s)/\j≠m:=λ{m s} q=>by
  by_cases z:j=m
  .subst z;have:=YH q;cases this
  .rw[Qk z]at q;exact⟨q,z⟩
 have mem2:∀{c:Um},c∈[a1]++([b]++[])->c=a1∨c=b:=λm=>by simpa using m
 refine q (.ref p) _ G1 _ ((k1.forget).ext (Ext.hid k1.gh hp)) s1 ⟨.tup Kz (.cons (.lst (sh _ _ n1.h) (.leaf n1.r)) (.cons (.lst (sh _ _ g4) (.leaf g5)) .nil)),by simp[hne],λc m=>?_,λc m l es ho' w=>?_,λc m l p' d' v' fp' ho' w r m'=>?_⟩
 .rcases mem2 m with rfl|rfl
  .exact⟨n1.b,n1.g⟩
  .exact⟨g2,g3⟩
 .obtain⟨ho',z⟩:=nz ho'
  rcases mem2 m with rfl|rfl
  .exact n1.f l es ho' w
  .exact z (k1.sep j l c es' es ho ho' g1 w)
 .obtain⟨ho',z⟩:=nz ho'
  obtain⟨v2,fp2,s2,r2,n2,w2'⟩:=w1 l p' d' ho';rw[w]at s2;cases s2;have u:=r2.uniq sh r;subst u;rcases mem2 m with rfl|rfl
  .exact n1.dp l p' d' v' _ ho' w r2 m'
  .exact z (hwb.symm.trans (w2' c m').2.2)
def qI   {Z Z1}{ds es:yO}(h1:f Z=.ok ds Z1)(h2:Z1[j]?=O (O (.own es))):RD f j Z=.ok (.tuple [.list ds,.list es]) (Z1.set j yL):=by unfold RD;simp_all
def Sv(i j:Nat)(f:M D):SM:=sB f λd Z=>match d with
 |.tuple [.list d1,.list d2]=>if i≠j/\i<Z.length/\j<Z.length then .nx ((Z.set i (O (.own d1))).set j (O (.own d2)))else .bad
 |_=>.bad
def RepO.two_inv{K}{G H}{v}{d1 d2:yO}{fp}(r:RepO K G H PLL v (.tuple [.list d1,.list d2]) fp):∃p a b vs ws,v=.ref p/\H p=O (.tup [.ref a,.ref b])/\H a=O (.lst vs)/\H b=O (.lst ws)/\Reps K G vs d1/\Reps K G ws d2/\fp=[a,b]:=by
 cases r with
 |tup h rs=>
  cases rs with
  |cons r1 t=>
   cases t with
   |cons r2 t2=>
    cases t2;cases r1 with
    |lst h1 l1=>
     cases r2 with
     |lst h2 l2=>obtain⟨q1,rfl⟩:=RepOl.leaf_inv l1;obtain⟨q2,rfl⟩:=RepOl.leaf_inv l2;exact⟨_,_,_,_,_,rfl,h,h1,h2,q1,q2,rfl⟩
def qH{i j:Nat}{x y:Str}{f:M D}{px py pt:Pos}{kt}(hc:X.calm=yM)(hN:X.N.Nodup)(hi:X.N[i]?=O x)(hj:X.N[j]?=O y)(hx:Loc X.env.scope x)(hy:Loc X.env.scope y)(he:PE X e (tT X.K B G0 PLL f))
  (hs:swapsWithSole [.Tuple [.Name x px,.Name y py] kt pt] e pos.line X.env=pure yN:=by rfl) (hw:swappedStores [.Tuple [.Name x px,.Name y py] kt pt] e X.env=pure yL:=by rfl)
  (hf:X.fn x=yM∨X.env.scope.names.lookup x=O .local:=by first|exact .inl rfl|exact .inr rfl|assumption) (hf2:X.fn y=yM∨X.env.scope.names.lookup y=O .local:=by first|exact .inl rfl|exact .inr rfl|assumption) :
  PS X (.Assign [.Tuple [.Name x px,.Name y py] kt pt] e pos) (tS X.K B G0 KX (Sv i j f)):=by
 have G2:PG X (.Tuple [.Name x px,.Name y py] kt pt) (gTup X.K 2 _):=OD hc (RS (SE hN hi hx hf) (RS (SE hN hj hy hf2) OV));refine K3 (MW he G2 hs hw) λDn σ H ⟨G,Z,k,a⟩=>?_
 refine⟨G,Z,k,?_⟩;unfold Sv sB at a;cases z:f Z with
 |bad=>rw[z]at a;exact a.elim
 |ok d Z1=>
 rw[z]at a;dsimp only at a;split at a
 case h_2=>exact a.elim
 rename_i d1 d2;split at a
 case isFalse=>exact a.elim
 rename_i hl;obtain⟨hij,hil,zA⟩:=hl;intro v fp G' H' k' s' n;obtain⟨p,b1,b2,vs,ws,rfl,hp,h1,h2,r1,r2,rfl⟩:=n.r.two_inv;have hne:b1≠b2:=by have:=n.nd;simpa using this
 refine⟨p,_,rfl,SqT.of hp,rfl,_,_,rfl,_,_,rfl,rfl,?_⟩;have m1:b1∈[b1,b2]:=by simp
 have m2:b2∈[b1,b2]:=by simp
 have k5:=k'.setOwn (i:=i) (a:=b1) (vs:=vs) (ds:=d1) ⟨(n.b b1 m1).1,(n.b b1 m1).2,h1,r1,n.f b1 m1,n.dp b1 m1⟩ hil
 have k6:=k5.setOwn (i:=j) (a:=b2) (vs:=ws) (ds:=d2) ⟨(n.b b2 m2).1,(n.b b2 m2).2,h2,r2,λl es q w=>by
  by_cases zj:i=l
  .subst zj
   have hl':i<σ.length:=by rw[←k'.len];exact hil
   rw[QG hl']at w;cases w;exact hne yK
  .rw[Qk zj]at q w
   exact n.f b2 m2 l es q w,λl p' d' v' fp' q w r=>by
  by_cases zj:i=l
  .subst zj;have:=YH q;cases this
  .rw[Qk zj]at q w
   exact n.dp b2 m2 l p' d' v' fp' q w r⟩ (by rw[QZ];exact zA)
 exact a _ G' H' k6 s'
def qG  {f}{Z Z1 Z':US}{d1 d2}(h1:f Z=.ok (.tuple [.list d1,.list d2]) Z1)(hl:i≠j/\i<Z1.length/\j<Z1.length)(h3:(Z1.set i (O (.own d1))).set j (O (.own d2))=Z'):Sv i j f Z=.nx Z':=by unfold Sv sB;rw[h1];dsimp only;rw[if_pos hl,h3]
end
def ZI(g gX:SM):Prop:=∀Z,g Z≠.bad->gX Z=g Z
def ZY(F:yO->yQ)(FX:yO->Option XR):Prop:=∀ds d,F ds=O d->FX ds=O (.val d)
def YZ{g:SM}:ZI g g:=λ_ _=>rfl
def W2{g:SM}:ZI X3 g:=λ_ h=>absurd yK h
def Y0{a b c d}(h1:ZI a c)(h2:ZI b d):ZI (UQ a b) (UQ c d):=λZ h=>by
 unfold UQ at h⊢;cases z:a Z with
 |bad=>simp_all
 |nx Z'=>rw[z]at h;rw[h1 Z (by lia),z];exact h2 Z' h
 |_=>rw[h1 Z (by simp_all),z]
def WM  {a b c d}(h1:ZI a c)(h2:ZI b d):ZI (sIf f a b) (sIf f c d):=λZ h=>by
 unfold sIf sB at h⊢;cases z:f Z with
 |bad=>rfl
 |ok t Z1=>
  rw[z]at h;cases t with
  |true=>exact h1 Z1 h
  |false=>exact h2 Z1 h
theorem Nm  {g gX}(h:ZI g gX):∀(ds)(Z),Zm s g ds Z≠.bad->Zm s gX ds Z=Zm s g ds Z
 |[],Z,_=>rfl
 |d::r,Z,hb=>by
  rw[Zm]at hb⊢;rw[Zm];cases z:s d Z with
  |none=>rfl
  |some Z1=>
   rw[z]at hb;dsimp only at hb⊢;cases y:g Z1 with
   |bad=>simp_all
   |nx Z2=>rw[y]at hb;rw[h Z1 (by simp_all),y];exact Nm h r Z2 hb
   |ct Z2=>rw[y]at hb;rw[h Z1 (by simp_all),y];exact Nm h r Z2 hb
   |_=>rw[h Z1 (by rw[y];exact λe=>nomatch e),y]
def LK   {g gX}(h:ZI g gX):ZI (Ko f s g) (Ko f s gX):=λZ hb=>by
 unfold Ko sB at hb⊢;cases z:f Z with
 |bad=>rfl
 |ok ds Z1=>rw[z]at hb;exact Nm h ds Z1 hb
def WT      (h:ZY F FX):ZI (sB (UV n F a) k) (sX (Z8 n FX a) k):=λZ hb=>by
 unfold sB UV U3 at hb⊢;unfold sX Z8 U3;cases z:a Z with
 |bad=>rfl
 |ok xs Z1=>
  rw[z]at hb;dsimp only at hb⊢;by_cases c:xs.length=n
  .rw[Qp c]at hb⊢
   rw[Qp c];cases y:F xs with
   |none=>rw[y]at hb;exact absurd yK hb
   |some d=>rw[h xs d y];rfl
  simp_all
def WP  {g gX}(h:ZI g gX):ZY (U9 N g) (Zp N gX):=λds d e=>by
 unfold U9 at e;unfold Zp;cases z:g _ with
 |rt x=>rw[h _ (by rw[z];exact λe=>nomatch e)];simp_all
 |nx x=>rw[h _ (by simp_all)];simp_all
 |_=>simp_all
section
variable{X:Cx}
noncomputable def Tt:D->D->yZ
 |.list xs,.list ys=>if xs.length=ys.length then yL else O yN
 |_,_=>yL
def ES(hu:X.A.units+64<cLine):OpB X (Ut .Eq) Tt:=by
 refine⟨λv u H Q=>∃l m xs ys,v=.ref l/\u=.ref m/\SqL X.K H l xs/\SqL X.K H m ys/\xs.length≠ys.length/\Q (.bl yN) H,?_,λv u G H x y d Q s rx ry e k=>?_⟩
 .intro pins s σ H x y v u Q I rx ry h
  obtain⟨l,m,xs,ys,rfl,rfl,h1,h2,hne,q⟩:=h;cases rx;cases ry;obtain⟨its,r,p,z⟩:=I.list h1;obtain⟨its2,r2,p2,z2⟩:=I.list h2;refine SeqAt.eq_list_lengthsAt p.isList p2.isList ?_ (by lia) ⟨.bl yN,H,I,rfl,q⟩;rw[Q4,Q4,←r.length,←r2.length];simpa using hne
 .unfold Tt at e
  split at e
  .split at e
   .cases e
   .rename_i hl
    cases e;obtain⟨l,vs,rfl,h1,r1⟩:=rx.lst_inv;obtain⟨m,ws,rfl,h2,r2⟩:=ry.lst_inv;exact⟨l,m,vs,ws,rfl,rfl,s.seq h1,s.seq h2,by rw[r1.length,r2.length];exact hl,k⟩
  simp_all
def Tu(x y:D):yZ:=(Tt x y).orElse λ_=>oEq x y
def ER(hu:X.A.units+64<cLine):OpB X (Ut .Eq) Tu:=(ES hu).or (B_eq hu)
def LJ{xs:yO}:Tu (.list xs) (.list [])=O xs.isEmpty:=by
 cases xs with
 |nil=>kernel_rfl
 |cons x r=>rfl
end
noncomputable def tgN:Up->List Str
 |.Name x _=>[x]
 |.Tuple [.Name x _] _ _=>[x]
 |.Tuple [.Name x _,.Name y _] _ _=>[x,y]
 |.Tuple [.Name x _,.Name y _,.Name z _] _ _=>[x,y,z]
 |.Tuple [.Name x _,.Name y _,.Name z _,.Name u _] _ _=>[x,y,z,u]
 |_=>[]
noncomputable def adN(vs:List Str):List Str->List Str
 |[]=>vs
 |x::r=>adN (if vs.elem x then vs else vs++[x]) r
def Tz(vs:List Str):List Comprehension->List Str
 |[]=>vs
 |⟨tg,_,_,_⟩::r=>Tz (adN vs (tgN tg)) r
noncomputable def dotN(x:Str):Str:=("." : Str)++x
def blN(N:List Str)(gs:List Comprehension):List Str:=N.map (λx=>if(Tz [] gs).elem x then dotN x else x)++Tz [] gs
noncomputable def glN(sc:Scope):List Str:=sc.names.filterMap λy=>match y.2 with | .globalImplicit=>O y.1|_=>yL
abbrev NmF(s:Stmt)(N:List Str):Prop:=FnNm (K7 s) N (glN (K7 s))
def mq{α:Type}{l:List α}{x:α}(n:Nat)(h:l[n]?=O x):x∈l:=Qr h
section
variable{sc:Scope}{N gl:List Str}{x:Str}
def gA(H:FnNm sc N gl)(h:gl.elem x=yM):sc.names.lookup x=O .globalImplicit:=H.gl x (by simp_all)
end
section
variable{X:Cx}{B G0:Hp}{KX:XW}{e e1 e2 o a b c i:Up}{gl:List Str}{pos p2:Pos}{x:Str}{j:Nat}
def EQ(H:FnNm X.env.scope X.N gl)(hi:X.N[j]?=O x:=by rfl)(hf:X.fn x=yM∨X.env.scope.names.lookup x=O .local:=by first|exact .inl rfl|exact .inr rfl|assumption):PG X (.Name x pos) (tG X.K B G0 (gN j)):=LV (SE H.nd hi (lq H j hi) hf)
def E7{N'}{scope}{cl}{C}{s₀}{H₀}{ex}(hN:N'.Nodup:=by decide +kernel)(hi:N'[j]?=O x:=by rfl)(hl:locK (scope.names.lookup x)=yM:=by rfl):PG (X.blk N' scope cl C s₀ H₀ ex) (.Name x pos) (tG X.K B G0 (gN j)):=LV (SE hN hi (LS hl).1 (LS hl).2)
def aSet  (H:FnNm X.env.scope X.N gl)(he:PE X e (tD X.K B G0 f))(hi:X.N[j]?=O x:=by rfl)(hs:swapsWith e (O (.Name x p2)) pos.line X.env=pure yN:=by rfl)
  (hf:X.fn x=yM∨X.env.scope.names.lookup x=O .local:=by first|exact .inl rfl|exact .inr rfl|assumption):PS X (.Assign [.Name x p2] e pos) (tS X.K B G0 KX (U2 j f)):=Cw H.nd hi (lq H j hi) he hs hf
def NY  (H:FnNm X.env.scope X.N gl)(he:PE X e (tL X.K B G0 f))(hi:X.N[j]?=O x:=by rfl)(hs:swapsWith e (O (.Name x p2)) pos.line X.env=pure yN:=by rfl)
  (hf:X.fn x=yM∨X.env.scope.names.lookup x=O .local:=by first|exact .inl rfl|exact .inr rfl|assumption):PS X (.Assign [.Name x p2] e pos) (tS X.K B G0 KX (K1 j f)):=BR H.nd hi (lq H j hi) he hs hf
def EO  (H:FnNm X.env.scope X.N gl)(he:PE X e (tX X.K B G0 KX f))(hi:X.N[j]?=O x:=by rfl)(hs:swapsWith e (O (.Name x p2)) pos.line X.env=pure yN:=by rfl)
  (hf:X.fn x=yM∨X.env.scope.names.lookup x=O .local:=by first|exact .inl rfl|exact .inr rfl|assumption):PS X (.Assign [.Name x p2] e pos) (tS X.K B G0 KX (sX f λd Z=>match gN j d Z with|some Z'=>.nx Z'|none=>.bad)):=Ah H.nd hi (lq H j hi) he hs hf
def aAug    {pos'}(H:FnNm X.env.scope X.N gl)(ho:IpD X op p)(he:PE X e (tD X.K B G0 f))(hi:X.N[j]?=O x:=by rfl)(hf:X.fn x=yM∨X.env.scope.names.lookup x=O .local:=by first|exact .inl rfl|exact .inr rfl|assumption):PS X (.AugAssign (.Name x pos') op e pos) (tS X.K B G0 KX (Xx p j f)):=CM H.nd hi (lq H j hi) ho he hf
def E6{i j}{x y}{f}{px py pt}{kt}(hc:X.calm=yM)(H:FnNm X.env.scope X.N gl)(he:PE X e (tT X.K B G0 PLL f))(hi:X.N[i]?=O x:=by rfl)(hj:X.N[j]?=O y:=by rfl)
  (hs:swapsWithSole [.Tuple [.Name x px,.Name y py] kt pt] e pos.line X.env=pure yN:=by rfl) (hw:swappedStores [.Tuple [.Name x px,.Name y py] kt pt] e X.env=pure yL:=by rfl)
  (hf:X.fn x=yM∨X.env.scope.names.lookup x=O .local:=by first|exact .inl rfl|exact .inr rfl|assumption) (hf2:X.fn y=yM∨X.env.scope.names.lookup y=O .local:=by first|exact .inl rfl|exact .inr rfl|assumption) :
  PS X (.Assign [.Tuple [.Name x px,.Name y py] kt pt] e pos) (tS X.K B G0 KX (Sv i j f)):=qH hc H.nd hi hj (lq H i hi) (lq H j hj) he hs hw hf hf2
def EN  {tg elt iter}{ifs}{gs}{scope}{f}{s}{t}{rd}{F}{k}{SC}{N1}(H:FnNm SC N1 gl)(le:∀Z es Z',F Z=.ok es Z'->dCG l f k s t rd Z=.ok es Z')(hc:X.calm=yM)
  (hi:PI X tg iter (iD X.K B G0 f)) (zd:YU X (blN N1 (⟨tg,iter,ifs,0⟩::gs)) scope (.ListComp elt (⟨tg,iter,ifs,0⟩::gs) scope pos) tg ifs s t rd) (hb:V6 Ra SC scope N1 (blN N1 (⟨tg,iter,ifs,0⟩::gs)) k=yM) (h1:X.env.scope=SC:=by rfl) (h2:X.N=N1:=by rfl) (hs:∀x,UI iter X.env x=pure x:=by intro _;rfl) :
  PE X (.ListComp elt (⟨tg,iter,ifs,0⟩::gs) scope pos) (tL X.K B G0 F):=Er _ _ _ k le hc hi zd h1 h2 hb hs
def EM   {py spos:Pos}{tg elt iter:Up}{ifs}{gs}{scope:Scope}{f}{s}{t}{rd:RdB}{F}{k:Nat}{SC:Scope}{N1}(H:FnNm SC N1 gl)(le:∀Z es Z',F Z=.ok es Z'->dCG l f k s t rd Z=.ok es Z')(hc:X.calm=yM)
  (hi:PI X tg iter (iD X.K B G0 f)) (zd:YU X (blN N1 (⟨tg,iter,ifs,0⟩::gs)) scope (.ListComp elt (⟨tg,iter,ifs,0⟩::gs) scope pos) tg ifs s t rd) (hb:V6 Ra SC scope N1 (blN N1 (⟨tg,iter,ifs,0⟩::gs)) k=yM) (hj:N1[j]?=O y:=by rfl) (hy:SC.names.lookup y=O .local:=by rfl) (h1:X.env.scope=SC:=by rfl) (h2:X.N=N1:=by rfl) (hs:∀x,UI iter X.env x=pure x:=by intro _;rfl)
  (hsw:swapsWith (.ListComp elt (⟨tg,iter,ifs,0⟩::gs) scope pos) (O (.Name y py)) spos.line X.env=pure yM:=by rfl) :
  PS X (.Assign [.Name y py] (.ListComp elt (⟨tg,iter,ifs,0⟩::gs) scope pos) spos) (tS X.K B G0 KX (K1 j F)):=sD_1 _ _ _ k le (h2 ▸ H.nd) (h2 ▸ hj) (h1 ▸ hy) hc hi zd h1 h2 hb hs hsw
end
end DL
namespace DL
open PySem PySem.Spec L2
open PyProof.Rows hiding St
open Builtin Builtin.Str
end DL
namespace DL
open PySem PySem.Spec L2
open PyProof.Rows hiding St
end DL
namespace DL
open PySem PySem.Spec L2
open PyProof.Rows hiding St
open PySem.SeqRoads2 PySem.SeqAt
end DL
namespace DL
open PySem PySem.Spec L2
open PyProof.Rows hiding St
end DL
namespace L2
open PySem PySem.Spec PyProof.Rows
end L2
namespace DL
open PySem PySem.Spec L2
open PyProof.Rows hiding St
end DL
namespace DL
open PySem PySem.Spec L2
open PyProof.Rows hiding St
open PySem.SeqRoads2 PySem.SeqAt
end DL
namespace DL
open PySem PySem.Spec L2
open PyProof.Rows hiding St
section
variable{X:Cx}{B G0:Hp}{KX:XW}{e e':Up}{es es':yS}{st st':Stmt}{sts aA:List Stmt}{pos p2:Pos}{x:Str}{j:Nat}{gl:List Str}
def qF  (q:st::sts=aA)(h1:PS X st (tS X.K B G0 KX g))(h2:PSs X sts (tS X.K B G0 KX h)):PSs X aA (tS X.K B G0 KX (UQ g h)):=q ▸ LW h1 h2
def E5  (q:Stmt.Assign [.Name x p2] e pos=st')(H:FnNm X.env.scope X.N gl)(he:PE X e (tL X.K B G0 f))(hi:X.N[j]?=O x:=by rfl)(hs:swapsWith e (O (.Name x p2)) pos.line X.env=pure yN:=by rfl)
  (hf:X.fn x=yM∨X.env.scope.names.lookup x=O .local:=by first|exact .inl rfl|exact .inr rfl|assumption):PS X st' (tS X.K B G0 KX (K1 j f)):=q ▸ NY H he hi hs hf
def qE  (q:Expr.List es pos=e')(h:PA X es (tDs X.K B G0 f)):PE X e' (tL X.K B G0 (U3 f λxs=>if xs.length<=1000000 then UM xs else λ_=>.bad)):=q ▸ LU h
def xQ   (q:e::es=es')(ha:PE X e (tD X.K B G0 f))(hr:PA X es (tDs X.K B G0 g))(hs:Us (e::es) X.env=(yN,eval e X.env)::Us es X.env:=by rfl):PA X es' (tDs X.K B G0 (UL f g)):=q ▸ Ti ha hr hs
end
section
variable{X:Cx}{B G0:Hp}{KX:XW}{a b e e':Up}{es es':yS}{st st':Stmt}{sts aA:List Stmt}{pos p2:Pos}{x:Str}{j:Nat}{gl:List Str}
def EL  (q:Stmt.Assign [.Name x p2] e pos=st')(H:FnNm X.env.scope X.N gl)(he:PE X e (tD X.K B G0 f))(hi:X.N[j]?=O x:=by rfl)(hs:swapsWith e (O (.Name x p2)) pos.line X.env=pure yN:=by rfl)
  (hf:X.fn x=yM∨X.env.scope.names.lookup x=O .local:=by first|exact .inl rfl|exact .inr rfl|assumption):PS X st' (tS X.K B G0 KX (U2 j f)):=q ▸ aSet H he hi hs hf
def qD  (q:Expr.List es pos=e')(h:PA X es (tDs X.K B G0 f)):PE X e' (tD X.K B G0 (U1 f)):=q ▸ LX h
def qC   (q:Expr.Tuple es x1 pos=e')(h:PA X es (tDs X.K B G0 f)):PE X e' (tD X.K B G0 (Ky f)):=q ▸ LY h
def MB    (o:OpD X (binaryOp op) p)(q:Expr.BinOp a op b pos=e')(ha:PE X a (tD X.K B G0 f))(hb:PE X b (tD X.K B G0 g)):PE X e' (tD X.K B G0 (UP p f g)):=q ▸ V2 o ha hb
end
end DL
namespace L2
open PySem PySem.Spec PyProof.Rows PySem.Calls PyProof.V
end L2
namespace DL
open PySem PySem.Spec L2
open PyProof.Rows hiding St
end DL
namespace L2
open PySem PySem.Spec PyProof.Rows
end L2
namespace DL
open PySem PySem.Spec L2
open PyProof.Rows hiding St
end DL
namespace L2
open PySem PySem.Spec PyProof.Rows
end L2
namespace DL
open PySem PySem.Spec L2
open PyProof.Rows hiding St
end DL
namespace DL
open PySem PySem.Spec L2
open PyProof.Rows hiding St
open Builtin Builtin.Str
end DL
namespace DL
open PySem PySem.Spec L2
open PyProof.Rows hiding St
end DL
namespace W
open PySem PySem.Spec L2 DL
open PyProof.Rows hiding St
noncomputable def top(i:Nat):Stmt:=PySem.Challenge.pw_wishdeal_k39_papers_refused.main.body.getD i (.Pass ⟨0,0,0,0⟩)
abbrev GG(s:Stmt)(x:Str):Prop:=(K7 s).names.lookup x=O NameKind.globalImplicit
abbrev VV(s:Stmt)(x:Str):Prop:=L2.Vis (K7 s) x
abbrev LL(s:Stmt)(x:Str):Prop:=L2.Loc (K7 s) x
def vk{s:Stmt}{x:Str}(h:(K7 s).names.lookup x=O .local∨(K7 s).names.lookup x=O .cell∨(K7 s).names.lookup x=O .free):VV s x:=h
def lk{s:Stmt}{x:Str}(h:(K7 s).names.lookup x=O .local∨(K7 s).names.lookup x=O .cell):LL s x:=h
structure Txt(K:Frag)(mg:Str->yT):Prop where
 b_ValueError:mg "ValueError" = yL
 b_all:mg "all" = yL
 b_bool:mg "bool" = yL
 b_enumerate:mg "enumerate" = yL
 b_int:mg "int" = yL
 b_isinstance:mg "isinstance" = yL
 b_len:mg "len" = yL
 b_list:mg "list" = yL
 b_max:mg "max" = yL
 b_range:mg "range" = yL
 b_set:mg "set" = yL
 b_sorted:mg "sorted" = yL
 b_str:mg "str" = yL
 b_sum:mg "sum" = yL
 b_tuple:mg "tuple" = yL
 b_zip:mg "zip" = yL
 c_MOST_ASKERS:∃t,mg "MOST_ASKERS" = O (Value.int 7 t)
 c_MOST_COPIES:∃t,mg "MOST_COPIES" = O (Value.int 7 t)
 c_MOST_RANKS:∃t,mg "MOST_RANKS" = O (Value.int 5 t)
 c_MOST_THINGS:∃t,mg "MOST_THINGS" = O (Value.int 6 t)
 c_ORDERS:∃ad o its n,mg "ORDERS" = O (.ref ad)/\K.lookup ad=O o/\o.cls=.type "tuple" /\ o.data=.seq its n/\its.size<=Uq/\Vals ((["firsts", "full", "lasts"]:List Str).map V.str) its.toList
 x_DealError:CK K mg "DealError"
 x_NoAim:CK K mg "NoAim"
 x_NoWishes:CK K mg "NoWishes"
abbrev Sbm:Stmt:=top 54
noncomputable abbrev N_bm:List Str:=["_law_wishes_here", "_law_paper_here"]
def Hbm:NmF Sbm N_bm:=KG (by decide +kernel)
def g_bm:SM:=
 UW (UP U0 (KH XX (UL (UU 1 (UM (.int 1))) (UK))) (KH XX (UL (UY Uw (ZG (Wf (UL (UU 0 (UM (.int 0))) (UL (UU 1 (UM (.int 2))) (UK)))) 2 (gT 2 (gNC (gN 2) (gNC (gN 3) (gN0)))) (UM yM) (UP Ke (UJ 2) (UJ 3)))) (UK))))
def Vm:yO->yQ:=U9 N_bm g_bm
abbrev Sba:Stmt:=top 42
noncomputable abbrev N_ba:List Str:=["_law_script", "_law_k"]
def Hba:NmF Sba N_ba:=KG (by decide +kernel)
def g_ba:SM:=
 UQ (sIf (KF (oIB λi j=>decide (i<j)) 1 (KB 0))
 (UW (UU 0 (UJ 1)))
 (sNx))
 (UW (UM (.int 0)))
def Yz:yO->yQ:=U9 N_ba g_ba
abbrev Saa:Stmt:=top 1
noncomputable abbrev N_aa:List Str:=["thing"]
def Haa:NmF Saa N_aa:=KG (by decide +kernel)
def g_aa:SM:=
 UW (Xr (UY (λd=>.bool (Kk d "int")) (UJ 0)) (RZ (UY (λd=>.bool (Kk d "bool")) (UJ 0))))
def YA:yO->yQ:=U9 N_aa g_aa
abbrev Sad:Stmt:=top 4
noncomputable abbrev N_ad:List Str:=["thing", "many"]
def Had:NmF Sad N_ad:=KG (by decide +kernel)
def g_ad:SM:=
 UW (Xr (UV 1 YA (UL (UJ 0) (UK))) (UY Ux (Wz (oIB λi j=>decide (i<=j)) (oIB λi j=>decide (i<j)) (UM (.int 0)) (UJ 0) (UJ 1))))
def Zf:yO->yQ:=U9 N_ad g_ad
abbrev Saf:Stmt:=top 15
noncomputable abbrev N_af:List Str:=["thing", "things"]
def Haf:NmF Saf N_af:=KG (by decide +kernel)
def T4:SM:=
 UQ (sIf (mOr (U8 (KM (UY (λd=>.bool (Kk d "list")) (UJ 0)))) (UP oEq (KB 0) (UM (.int 0))))
 (UW (UM (.bool yN)))
 (sNx))
 (UW (KH ZH (UL (UY Uw (ZG (KP (UJ 0)) 1 (gN 2) (UM yM) (UV 2 Zf (UL (UJ 2) (UL (UJ 1) (UK)))))) (UK))))
def Xk:yO->yQ:=U9 N_af T4
abbrev Sag:Stmt:=top 16
noncomputable abbrev N_ag:List Str:=["thing", "things", "wished"]
def Hag:NmF Sag N_ag:=KG (by decide +kernel)
def Vc:SM:=
 UQ (sIf (mOr (U8 (KM (UY (λd=>.bool (Kk d "list")) (UJ 0)))) (UP (oIB λi j=>decide (j<i)) (KB 0) (UM (.int 5))))
 (UW (UM (.bool yN)))
 (sNx))
 (UQ (sIf (U8 (KM (KH ZH (UL (UY Uw (ZG (KP (UJ 0)) 1 (gN 3) (UM yM) (UV 2 Xk (UL (UJ 3) (UL (UJ 1) (UK)))))) (UK)))))
 (UW (UM (.bool yN)))
 (sNx))
 (UQ (K1 2 (V7 (KP (UJ 0)) 2 (gN 3) (UM yM) (KP (UJ 3)) (gN 4) (UM yM) (UJ 4)))
 (UW (UY Ux (UP oEq (KH X4 (UL (UJ 2) (UK))) (KB 2))))))
def Xj:yO->yQ:=U9 N_ag Vc
abbrev FR:Stmt:=top 17
noncomputable abbrev FQ:List Str:=["lists", "things", "asker", "ranks"]
def F7:NmF FR FQ:=KG (by decide +kernel)
def F2:SM:=
 sIf (U8 (KM (UV 2 Xj (UL (UJ 3) (UL (UJ 1) (UK))))))
 (Y2 "NoWishes" (UL (UM (.str "lists")) (UL (UJ 2) (UK))))
 (sNx)
def NR:SM:=
 UQ (sIf (mOr (U8 (KM (UY (λd=>.bool (Kk d "list")) (UJ 0)))) (U8 (Wz (oIB λi j=>decide (i<=j)) (oIB λi j=>decide (i<=j)) (UM (.int 1)) (KB 0) (UM (.int 7)))))
 (Y2 "NoWishes" (UL (UM (.str "lists")) (UL (UM .none) (UK))))
 (sNx))
 (Ko (Xp (UL (UJ 0) (UK))) (gT 2 (gNC (gN 2) (gNC (gN 3) (gN0)))) F2)
def RV:yO->Option XR:=Zp FQ NR
abbrev F6:Stmt:=top 14
noncomputable abbrev F5:List Str:=["copies", "number", "many"]
def F9:NmF F6 F5:=KG (by decide +kernel)
def F3:SM:=
 sIf (U8 (KM (UV 2 Zf (UL (UJ 2) (UL (UP U0 (UM (.int 7)) (UM (.int 1))) (UK))))))
 (Y2 "NoWishes" (UL (UM (.str "copies")) (UL (UJ 1) (UK))))
 (sNx)
def NV:SM:=
 UQ (sIf (mOr (U8 (KM (UY (λd=>.bool (Kk d "list")) (UJ 0)))) (U8 (Wz (oIB λi j=>decide (i<=j)) (oIB λi j=>decide (i<=j)) (UM (.int 1)) (KB 0) (UM (.int 6)))))
 (Y2 "NoWishes" (UL (UM (.str "copies")) (UL (UM .none) (UK))))
 (sNx))
 (Ko (Xp (UL (UJ 0) (UK))) (gT 2 (gNC (gN 1) (gNC (gN 2) (gN0)))) F3)
def RW:yO->Option XR:=Zp F5 NV
abbrev F4:Stmt:=top 18
noncomputable abbrev Eb:List Str:=["thing", "copies", "lists"]
def F8:NmF F4 Eb:=KG (by decide +kernel)
def NS:SM:=
 UQ (sIf (mOr (U8 (KM (UY (λd=>.bool (Kk d "tuple")) (UJ 0)))) (UP oNe (KB 0) (UM (.int 2))))
 (Y2 "NoWishes" (UL (UM (.str "wishes")) (UL (UM .none) (UK))))
 (sNx))
 (UQ (KY (UJ 0) (gT 2 (gNC (gN 1) (gNC (gN 2) (gN0)))))
 (UQ (sX (Z8 1 RW (UL (UJ 1) (UK))) λ_ Z=>.nx Z)
 (sX (Z8 2 RV (UL (UJ 2) (UL (KB 1) (UK)))) λ_ Z=>.nx Z)))
def X8:yO->Option XR:=Zp Eb NS
abbrev Fj:Stmt:=top 40
noncomputable abbrev Fi:List Str:=["wishes", "paper", "times", "asks", "prices"]
def FC:NmF Fj Fi:=KG (by decide +kernel)
def Fh:SM:=
 UQ (sX (Z8 1 X8 (UL (UJ 0) (UK))) λ_ Z=>.nx Z)
 (UQ (KY (UJ 1) (gT 3 (gNC (gN 2) (gNC (gN 3) (gNC (gN 4) (gN0))))))
 (UW (UP U0 (KH XX (UL (UJ 3) (UK))) (KH XX (UL (UY Uw (ZG (Wf (UL (UJ 4) (UL (UU 0 (UM (.int 0))) (UK)))) 2 (gT 2 (gNC (gN 5) (gNC (gN 6) (gN0)))) (UM yM) (UP Ke (UJ 5) (UJ 6)))) (UK))))))
def SJ:yO->Option XR:=Zp Fi Fh
abbrev Sab:Stmt:=top 2
noncomputable abbrev N_ab:List Str:=["thing"]
def Hab:NmF Sab N_ab:=KG (by decide +kernel)
def g_ab:SM:=
 UW (Xr (UV 1 YA (UL (UJ 0) (UK))) (UY Ux (KF (oIB λi j=>decide (j<=i)) 0 (UM (.int 0)))))
def Wo:yO->yQ:=U9 N_ab g_ab
abbrev Sac:Stmt:=top 3
noncomputable abbrev N_ac:List Str:=["things", "many"]
def Hac:NmF Sac N_ac:=KG (by decide +kernel)
def g_ac:SM:=
 UW (Xr (UY Ux (UP oEq (KB 0) (UJ 1))) (KH ZH (UL (UY Uw (ZG (KP (UJ 0)) 1 (gN 2) (UM yM) (UV 1 Wo (UL (UJ 2) (UK))))) (UK))))
def Vx:yO->yQ:=U9 N_ac g_ac
abbrev Saw:Stmt:=top 37
noncomputable abbrev N_aw:List Str:=["thing", "many"]
def Haw:NmF Saw N_aw:=KG (by decide +kernel)
def g_aw:SM:=
 UW (Xr (UY (λd=>.bool (Kk d "list")) (UJ 0)) (UV 2 Vx (UL (UJ 0) (UL (UJ 1) (UK)))))
def Xg:yO->yQ:=U9 N_aw g_aw
abbrev Sax:Stmt:=top 38
noncomputable abbrev N_ax:List Str:=["wishes", "thing", "copies", "lists", "times", "asks", "prices"]
def Hax:NmF Sax N_ax:=KG (by decide +kernel)
def TW:SM:=
 UQ (sIf (mOr (U8 (KM (UY (λd=>.bool (Kk d "tuple")) (UJ 1)))) (UP oNe (KB 1) (UM (.int 3))))
 (UW (UM (.bool yN)))
 (sNx))
 (UQ (KY (UJ 0) (gT 2 (gNC (gN 2) (gNC (gN 3) (gN0)))))
 (UQ (KY (UJ 1) (gT 3 (gNC (gN 4) (gNC (gN 5) (gNC (gN 6) (gN0))))))
 (UQ (sIf (mOr (U8 (KM (UV 1 YA (UL (UJ 4) (UK))))) (KF (oIB λi j=>decide (i<j)) 4 (UM (.int 1))))
 (UW (UM (.bool yN)))
 (sNx))
 (UW (Xr (UV 2 Xg (UL (UJ 5) (UL (KB 3) (UK)))) (UV 2 Xg (UL (UJ 6) (UL (KB 2) (UK)))))))))
def Wk:yO->yQ:=U9 N_ax TW
abbrev Sah:Stmt:=top 17
noncomputable abbrev N_ah:List Str:=["lists", "things", "asker", "ranks"]
def Hah:NmF Sah N_ah:=KG (by decide +kernel)
def Bd:SM:=
 sIf (U8 (KM (UV 2 Xj (UL (UJ 3) (UL (UJ 1) (UK))))))
 (X3)
 (sNx)
def T3:SM:=
 UQ (sIf (mOr (U8 (KM (UY (λd=>.bool (Kk d "list")) (UJ 0)))) (U8 (Wz (oIB λi j=>decide (i<=j)) (oIB λi j=>decide (i<=j)) (UM (.int 1)) (KB 0) (UM (.int 7)))))
 (X3)
 (sNx))
 (Ko (Xp (UL (UJ 0) (UK))) (gT 2 (gNC (gN 2) (gNC (gN 3) (gN0)))) Bd)
def Wm:yO->yQ:=U9 N_ah T3
abbrev Sae:Stmt:=top 14
noncomputable abbrev N_ae:List Str:=["copies", "number", "many"]
def Hae:NmF Sae N_ae:=KG (by decide +kernel)
def LI:SM:=
 sIf (U8 (KM (UV 2 Zf (UL (UJ 2) (UL (UP U0 (UM (.int 7)) (UM (.int 1))) (UK))))))
 (X3)
 (sNx)
def T5:SM:=
 UQ (sIf (mOr (U8 (KM (UY (λd=>.bool (Kk d "list")) (UJ 0)))) (U8 (Wz (oIB λi j=>decide (i<=j)) (oIB λi j=>decide (i<=j)) (UM (.int 1)) (KB 0) (UM (.int 6)))))
 (X3)
 (sNx))
 (Ko (Xp (UL (UJ 0) (UK))) (gT 2 (gNC (gN 1) (gNC (gN 2) (gN0)))) LI)
def Wn:yO->yQ:=U9 N_ae T5
abbrev Sai:Stmt:=top 18
noncomputable abbrev N_ai:List Str:=["thing", "copies", "lists"]
def Hai:NmF Sai N_ai:=KG (by decide +kernel)
def g_ai:SM:=
 UQ (sIf (mOr (U8 (KM (UY (λd=>.bool (Kk d "tuple")) (UJ 0)))) (UP oNe (KB 0) (UM (.int 2))))
 (X3)
 (sNx))
 (UQ (KY (UJ 0) (gT 2 (gNC (gN 1) (gNC (gN 2) (gN0)))))
 (UQ (XZ (UV 1 Wn (UL (UJ 1) (UK))))
 (XZ (UV 2 Wm (UL (UJ 2) (UL (KB 1) (UK)))))))
def YV:yO->yQ:=U9 N_ai g_ai
abbrev Sal:Stmt:=top 21
noncomputable abbrev N_al:List Str:=["wishes"]
def Hal:NmF Sal N_al:=KG (by decide +kernel)
def T2:SM:=
 UQ (XZ (UV 1 YV (UL (UJ 0) (UK))))
 (UW (KH V0 (UL (UY Uw (RB (Xp (UL (UU 0 (UM (.int 1))) (UK))) 4 (gT 2 (gNC (gN 1) (gNC (gN 2) (gN0)))) (UM yM) (KP (UJ 2)) (gN 3) (UM yM) (KP (UJ 3)) (gN 4) (UM yM) (Ky (UL (UJ 1) (UL (UJ 4) (UK)))))) (UK))))
def Wl:yO->yQ:=U9 N_al T2
abbrev Sar:Stmt:=top 31
noncomputable abbrev N_ar:List Str:=["base", "times", "told", "step"]
def Har:NmF Sar N_ar:=KG (by decide +kernel)
def Bc:SM:=
 Xx Xc 2 (UJ 0)
def g_ar:SM:=
 UQ (U2 2 (UM (.int 1)))
 (UQ (Ko (XY (UL (UJ 1) (UK))) (gN 3) Bc)
 (UW (UJ 2)))
def Zu:yO->yQ:=U9 N_ar g_ar
abbrev Sat:Stmt:=top 33
noncomputable abbrev N_at:List Str:=["turns", "base", "asker", "rank", "behind"]
def Hat:NmF Sat N_at:=KG (by decide +kernel)
def TY:SM:=
 UQ (sIf (KF YS 2 (UJ 0))
 (UW (UM (.int 0)))
 (sNx))
 (UQ (U2 4 (UP K9 (UP K9 (KB 0) (UM (.int 1))) (Pk (UJ 0) (UL (UJ 2) (UK)))))
 (UW (UP Ke (UP K9 (UJ 1) (UJ 3)) (UV 2 Zu (UL (UJ 1) (UL (UJ 4) (UK)))))))
def Vu:yO->yQ:=U9 N_at TY
abbrev Sas:Stmt:=top 32
abbrev N_as:List Str:=["order", "base", "most", "rank"]
def Has:NmF Sas N_as:=KG (by decide +kernel)
def TZ:SM:=
 UQ (sIf (KF oEq 0 (UM (.str "firsts")))
 (UW (UV 2 Zu (UL (UJ 1) (UL (UP K9 (UJ 2) (UJ 3)) (UK)))))
 (sNx))
 (UQ (sIf (KF oEq 0 (UM (.str "full")))
 (UW (UP U0 (UV 2 Zu (UL (UJ 1) (UL (UJ 2) (UK)))) (UV 2 Zu (UL (UJ 1) (UL (UP K9 (UJ 2) (UJ 3)) (UK))))))
 (sNx))
 (UW (UP K9 (UV 2 Zu (UL (UJ 1) (UL (UJ 2) (UK)))) (UV 2 Zu (UL (UJ 1) (UL (UP K9 (UJ 3) (UM (.int 1))) (UK)))))))
def Vv:yO->yQ:=U9 N_as TZ
abbrev Saj:Stmt:=top 19
noncomputable abbrev N_aj:List Str:=["ranks", "thing", "number", "rank"]
def Haj:NmF Saj N_aj:=KG (by decide +kernel)
def Bb:SM:=
 sIf (KF oIn 1 (UJ 3))
 (UW (UJ 2))
 (sNx)
def g_aj:SM:=
 UQ (Ko (Oy (UL (UJ 0) (UK))) (gT 2 (gNC (gN 2) (gNC (gN 3) (gN0)))) Bb)
 (UW (UM (.int 0)))
def Vw:yO->yQ:=U9 N_aj g_aj
abbrev Sau:Stmt:=top 34
abbrev N_au:List Str:=["wishes", "aim", "most", "asker", "thing", "order", "old", "turns", "lists", "rank", "base", "kept", "by_counts"]
def Hau:NmF Sau N_au:=KG (by decide +kernel)
def TX:SM:=
 UQ (KY (UJ 1) (gT 3 (gNC (gN 5) (gNC (gN 6) (gNC (gN 7) (gN0))))))
 (UQ (U2 8 (UU 0 (UM (.int 1))))
 (UQ (U2 9 (UV 2 Vw (UL (UU 8 (UJ 3)) (UL (UJ 4) (UK)))))
 (UQ (U2 10 (UP U0 (KB 8) (UM (.int 1))))
 (UQ (U2 11 (mIf (Ze (UY (λd=>!isNon d) (UJ 6)) (UP oEq (UU 6 (UJ 3)) (UJ 4))) (UM (.int 1)) (UM (.int 0))))
 (UQ (U2 12 (UP U0 (UP Ke (UV 4 Vv (UL (UJ 5) (UL (UJ 10) (UL (UJ 2) (UL (UJ 9) (UK)))))) (UJ 10)) (UJ 11)))
 (UW (UP U0 (UP Ke (UJ 12) (UV 2 Zu (UL (UP U0 (UJ 2) (UM (.int 1))) (UL (KB 7) (UK))))) (UV 4 Vu (UL (UJ 7) (UL (UP U0 (UJ 2) (UM (.int 1))) (UL (UJ 3) (UL (UJ 9) (UK)))))))))))))
def XE:yO->yQ:=U9 N_au TX
abbrev GI:Stmt:=top 20
noncomputable abbrev GH:List Str:=["wishes"]
def Fg:NmF GI GH:=KG (by decide +kernel)
def GF:SM:=
 UQ (sX (Z8 1 X8 (UL (UJ 0) (UK))) λ_ Z=>.nx Z)
 (UW (KH WH (UL (UY Uw (ZG (KP (UU 0 (UM (.int 1)))) 1 (gN 1) (UM yM) (KB 1))) (UK))))
def P7:yO->Option XR:=Zp GH GF
abbrev Sap:Stmt:=top 28
noncomputable abbrev N_ap:List Str:=["thing", "askers"]
def Hap:NmF Sap N_ap:=KG (by decide +kernel)
def Va:SM:=
 UQ (sIf (mOr (U8 (KM (UY (λd=>.bool (Kk d "list")) (UJ 0)))) (U8 (KM (KH ZH (UL (UY Uw (ZG (KP (UJ 0)) 1 (gN 2) (UM yM) (UV 2 Zf (UL (UJ 2) (UL (UJ 1) (UK)))))) (UK))))))
 (UW (UM (.bool yN)))
 (sNx))
 (UW (UY Ux (UP oEq (KH X4 (UL (UJ 0) (UK))) (KB 0))))
def Xh:yO->yQ:=U9 N_ap Va
abbrev Sao:Stmt:=top 27
noncomputable abbrev N_ao:List Str:=["thing", "askers", "things"]
def Hao:NmF Sao N_ao:=KG (by decide +kernel)
def Vb:SM:=
 UQ (sIf (UY isNon (UJ 0))
 (UW (UM (.bool yM)))
 (sNx))
 (UQ (sIf (mOr (U8 (KM (UY (λd=>.bool (Kk d "list")) (UJ 0)))) (UP oNe (KB 0) (UJ 1)))
 (UW (UM (.bool yN)))
 (sNx))
 (UW (KH ZH (UL (UY Uw (ZG (KP (UJ 0)) 1 (gN 3) (UM yM) (Wd (UY (λd=>.bool (isNon d)) (UJ 3)) (UV 2 Zf (UL (UJ 3) (UL (UJ 2) (UK))))))) (UK)))))
def Xi:yO->yQ:=U9 N_ao Vb
abbrev Sam:Stmt:=top 24
noncomputable abbrev N_am:List Str:=["thing"]
def Ham:NmF Sam N_am:=KG (by decide +kernel)
def g_am:SM:=
 UW (Xr (UY (λd=>.bool (Kk d "str")) (UJ 0)) (UY Ux (KF oIn 0 (UM (.tuple ((["firsts", "full", "lasts"]:List Str).map Uy))))))
def XF:yO->yQ:=U9 N_am g_am
abbrev FP:Stmt:=top 25
noncomputable abbrev FO:List Str:=["thing"]
def Ea:NmF FP FO:=KG (by decide +kernel)
def FN:SM:=
 sIf (U8 (KM (UV 1 XF (UL (UJ 0) (UK)))))
 (Y2 "NoAim" (UL (UM (.str "order")) (UK)))
 (sNx)
def SR:yO->Option XR:=Zp FO FN
abbrev FY:Stmt:=top 29
noncomputable abbrev FW:List Str:=["wishes", "thing", "copies", "lists", "order", "old", "turns"]
def FM:NmF FY FW:=KG (by decide +kernel)
def NT:SM:=
 UQ (sX (Z8 1 X8 (UL (UJ 0) (UK))) λ_ Z=>.nx Z)
 (UQ (sIf (mOr (U8 (KM (UY (λd=>.bool (Kk d "tuple")) (UJ 1)))) (UP oNe (KB 1) (UM (.int 3))))
 (Y2 "NoAim" (UL (UM (.str "aim")) (UK)))
 (sNx))
 (UQ (KY (UJ 0) (gT 2 (gNC (gN 2) (gNC (gN 3) (gN0)))))
 (UQ (KY (UJ 1) (gT 3 (gNC (gN 4) (gNC (gN 5) (gNC (gN 6) (gN0))))))
 (UQ (sX (Z8 1 SR (UL (UJ 4) (UK))) λ_ Z=>.nx Z)
 (UQ (sIf (U8 (KM (UV 3 Xi (UL (UJ 5) (UL (KB 3) (UL (KB 2) (UK)))))))
 (Y2 "NoAim" (UL (UM (.str "old")) (UK)))
 (sNx))
 (sIf (U8 (KM (UV 2 Xh (UL (UJ 6) (UL (KB 3) (UK))))))
 (Y2 "NoAim" (UL (UM (.str "turns")) (UK)))
 (sNx)))))))
def WD:yO->Option XR:=Zp FW NT
abbrev Fx:Stmt:=top 35
abbrev Fw:List Str:=["wishes", "aim", "most"]
def FV:NmF Fx Fw:=KG (by decide +kernel)
def Fv:SM:=
 UQ (sX (Z8 2 WD (UL (UJ 0) (UL (UJ 1) (UK)))) λ_ Z=>.nx Z)
 (UQ (sX (Z8 1 P7 (UL (UJ 0) (UK))) λd Z=>match gN 2 d Z with|some Z'=>.nx Z'|none=>.bad)
 (UW (UY Uw (ZG (KP (UV 1 Wl (UL (UJ 0) (UK)))) 2 (gT 2 (gNC (gN 3) (gNC (gN 4) (gN0)))) (UM yM) (Ky (UL (UJ 3) (UL (UJ 4) (UL (UV 5 XE (UL (UJ 0) (UL (UJ 1) (UL (UJ 2) (UL (UJ 3) (UL (UJ 4) (UK))))))) (UK)))))))))
def RY:yO->Option XR:=Zp Fw Fv
abbrev Fu:Stmt:=top 39
noncomputable abbrev Ft:List Str:=["wishes", "aim", "thing", "worths", "times", "asks", "prices"]
def FT:NmF Fu Ft:=KG (by decide +kernel)
def Fs:SM:=
 UQ (sX (Z8 2 RY (UL (UJ 0) (UL (UJ 1) (UK)))) λd Z=>match gN 3 d Z with|some Z'=>.nx Z'|none=>.bad)
 (UQ (sIf (U8 (KM (UV 2 Wk (UL (UJ 0) (UL (UJ 2) (UK))))))
 (UW (UM (.bool yN)))
 (sNx))
 (UQ (KY (UJ 2) (gT 3 (gNC (gN 4) (gNC (gN 5) (gNC (gN 6) (gN0))))))
 (UW (KH ZH (UL (UY Uw (ZG (KP (UJ 3)) 3 (gT 3 (gNC (gN 7) (gNC (gN 8) (gNC (gN 9) (gN0))))) (UM yM) (UY Ux (UP (oIB λi j=>decide (j<=i)) (UP U0 (UU 5 (UJ 7)) (UU 6 (UJ 8))) (UP Ke (UJ 4) (UJ 9)))))) (UK))))))
def SS:yO->Option XR:=Zp Ft Fs
abbrev Ff:Stmt:=top 61
noncomputable abbrev Fe:List Str:=["_law_way", "_law_wishes_here", "_law_aim_here", "_law_paper_here"]
def FA:NmF Ff Fe:=KG (by decide +kernel)
def Fd:SM:=
 UQ (sIf (KF oEq 0 (UM (.int 0)))
 (sX (Z8 3 SS (UL (UJ 1) (UL (UJ 2) (UL (UJ 3) (UK))))) λd _=>.rt d)
 (sNx))
 (sX (Z8 2 SJ (UL (UJ 1) (UL (UJ 3) (UK)))) λd _=>.rt d)
def XV:yO->Option XR:=Zp Fe Fd
abbrev Sbu:Stmt:=top 62
noncomputable abbrev N_bu:List Str:=["_law_way", "_law_wishes_here", "_law_aim_here", "_law_paper_here", "_law_found", "e"]
def Hbu:NmF Sbu N_bu:=KG (by decide +kernel)
def g_bu:SM:=
 UQ (K1 4 (U3 (UL (UM (.str "let")) (UK)) λxs=>if xs.length<=1000000 then UM xs else λ_=>.bad))
 (UQ (WJ 5 "NoAim" (K1 4 (U3 (UL (UM (.str "aim")) (UL (U3 (UJ 5) λd=>U7 (Wc "part" d)) (UK))) λxs=>if xs.length<=1000000 then UM xs else λ_=>.bad)) "NoWishes" (K1 4 (U3 (UL (UM (.str "wishes")) (UL (U3 (UJ 5) λd=>U7 (Wc "part" d)) (UL (U3 (UJ 5) λd=>U7 (Wc "number" d)) (UK)))) λxs=>if xs.length<=1000000 then UM xs else λ_=>.bad)) (V3 4 (Z8 4 XV (UL (UJ 0) (UL (UJ 1) (UL (UJ 2) (UL (UJ 3) (UK))))))))
 (UW (UJ 4)))
def ZT:yO->yQ:=U9 N_bu g_bu
abbrev Sbv:Stmt:=top 63
noncomputable abbrev N_bv:List Str:=["_law_way", "_law_wishes_here", "_law_aim_here", "_law_paper_here", "_law_found", "e"]
def Hbv:NmF Sbv N_bv:=KG (by decide +kernel)
def g_bv:SM:=
 UQ (U2 4 (UM (.bool yN)))
 (UQ (X9 5 "DealError" (sX (Z8 4 XV (UL (UJ 0) (UL (UJ 1) (UL (UJ 2) (UL (UJ 3) (UK)))))) λ_ Z=>.nx Z) (U2 4 (U3 (UJ 5) λd=>U7 (Ts d))))
 (UW (UJ 4)))
def Vi:yO->yQ:=U9 N_bv g_bv
abbrev Sbr:Stmt:=top 59
noncomputable abbrev N_br:List Str:=["_law_thing", "_law_most"]
def Hbr:NmF Sbr N_br:=KG (by decide +kernel)
def g_br:SM:=
 UW (Xr (UY (λd=>.bool (Kk d "int")) (UJ 0)) (Xr (RZ (UY (λd=>.bool (Kk d "bool")) (UJ 0))) (Xr (UY Ux (UP (oIB λi j=>decide (i<=j)) (UM (.int 0)) (UJ 0))) (UY Ux (KF (oIB λi j=>decide (i<j)) 0 (UJ 1))))))
def ZJ:yO->yQ:=U9 N_br g_br
abbrev Sbw:Stmt:=top 64
noncomputable abbrev N_bw:List Str:=["_law_ranks", "_law_many", "_law_seen", "_law_row", "_law_one"]
def Hbw:NmF Sbw N_bw:=KG (by decide +kernel)
def Xs:SM:=
 UQ (sIf (mOr (U8 (KM (UV 2 ZJ (UL (UJ 4) (UL (UJ 1) (UK)))))) (VZ oIn (UJ 4) 2))
 (UW (UM (.bool yN)))
 (sNx))
 (Zy 2 (UJ 4))
def Y7:SM:=
 UQ (sIf (mOr (U8 (KM (UY (λd=>.bool (Kk d "list")) (UJ 3)))) (KF Tu 3 (U1 (UK))))
 (UW (UM (.bool yN)))
 (sNx))
 (Ko (KP (UJ 3)) (gN 4) Xs)
def TD:SM:=
 UQ (sIf (mOr (U8 (KM (UY (λd=>.bool (Kk d "list")) (UJ 0)))) (UP (oIB λi j=>decide (j<i)) (KB 0) (UM (.int 5))))
 (UW (UM (.bool yN)))
 (sNx))
 (UQ (K1 2 (U3 (UK) λxs=>if xs.length<=1000000 then UM xs else λ_=>.bad))
 (UQ (Ko (KP (UJ 0)) (gN 3) Y7)
 (UW (UM (.bool yM)))))
def Vh:yO->yQ:=U9 N_bw TD
abbrev Sbx:Stmt:=top 65
noncomputable abbrev N_bx:List Str:=["_law_thing", "_law_copies", "_law_lists", "_law_number", "_law_many", "_law_ranks"]
def Hbx:NmF Sbx N_bx:=KG (by decide +kernel)
def LH:SM:=
 sIf (U8 (KM (UV 2 Vh (UL (UJ 5) (UL (KB 1) (UK))))))
 (UW (U1 (UL (UM (.str "lists")) (UL (UJ 3) (UK)))))
 (sNx)
def LG:SM:=
 sIf (U8 (KM (UV 2 ZJ (UL (UJ 4) (UL (UM (.int 8)) (UK))))))
 (UW (U1 (UL (UM (.str "copies")) (UL (UJ 3) (UK)))))
 (sNx)
def TC:SM:=
 UQ (sIf (mOr (U8 (KM (UY (λd=>.bool (Kk d "tuple")) (UJ 0)))) (UP oNe (KB 0) (UM (.int 2))))
 (UW (U1 (UL (UM (.str "wishes")) (UL (UM .none) (UK)))))
 (sNx))
 (UQ (KY (UJ 0) (gT 2 (gNC (gN 1) (gNC (gN 2) (gN0)))))
 (UQ (sIf (mOr (U8 (KM (UY (λd=>.bool (Kk d "list")) (UJ 1)))) (U8 (Wz (oIB λi j=>decide (i<=j)) (oIB λi j=>decide (i<=j)) (UM (.int 1)) (KB 1) (UM (.int 6)))))
 (UW (U1 (UL (UM (.str "copies")) (UL (UM .none) (UK)))))
 (sNx))
 (UQ (Ko (Xp (UL (UJ 1) (UK))) (gT 2 (gNC (gN 3) (gNC (gN 4) (gN0)))) LG)
 (UQ (sIf (mOr (U8 (KM (UY (λd=>.bool (Kk d "list")) (UJ 2)))) (U8 (Wz (oIB λi j=>decide (i<=j)) (oIB λi j=>decide (i<=j)) (UM (.int 1)) (KB 2) (UM (.int 7)))))
 (UW (U1 (UL (UM (.str "lists")) (UL (UM .none) (UK)))))
 (sNx))
 (UQ (Ko (Xp (UL (UJ 2) (UK))) (gT 2 (gNC (gN 3) (gNC (gN 5) (gN0)))) LH)
 (UW (U1 (UK))))))))
def Vg:yO->yQ:=U9 N_bx TC
abbrev Sbb:Stmt:=top 43
noncomputable abbrev N_bb:List Str:=["_law_cell", "_law_salt", "_law_sizes", "_law_number", "_law_left", "_law_found", "_law_k", "_law_one"]
def Hbb:NmF Sbb N_bb:=KG (by decide +kernel)
def O1:SM:=
 sIf (Ze (KF (oIB λi j=>decide (j<=i)) 3 (UP Yx (UM (.int 10)) (UM (.int 18)))) (KF (oIB λi j=>decide (j<i)) 4 (UM (.int 0))))
 (UQ (Zy 5 (UP Za (UJ 4) (UU 2 (UJ 6))))
 (U2 4 (UP Xb (UJ 4) (UU 2 (UJ 6)))))
 (UQ (U2 7 (UP Za (UP U0 (UP U0 (UP U0 (UJ 3) (UP Ke (UM (.int 7919)) (UJ 1))) (UP Ke (UP Ke (UM (.int 101)) (UJ 6)) (UJ 6))) (UJ 6)) (UM (.int 2147483647))))
 (UQ (U2 7 (UP Za (UP Ke (UJ 7) (UM (.int 48271))) (UM (.int 2147483647))))
 (UQ (U2 7 (UP Za (UP Ke (UP Za (UP Ke (UJ 7) (UJ 7)) (UM (.int 2147483629))) (UM (.int 48271))) (UM (.int 2147483647))))
 (Zy 5 (UP Za (UP Xb (UJ 7) (UM (.int 16))) (UU 2 (UJ 6)))))))
def g_bb:SM:=
 UQ (U2 3 (KH Rn (UL (UJ 0) (UL (UP K9 (Yl (UM (.int 1))) (UJ 0)) (UK)))))
 (UQ (U2 4 (UJ 3))
 (UQ (K1 5 (U3 (UK) λxs=>if xs.length<=1000000 then UM xs else λ_=>.bad))
 (UQ (Ko (XY (UL (KB 2) (UK))) (gN 6) O1)
 (UW (UJ 5)))))
def Zt:yO->yQ:=U9 N_bb g_bb
abbrev FL:Stmt:=top 50
noncomputable abbrev NN:List Str:=["_law_wishes_here", "_law_lists", "_law_ranks"]
def Fq:NmF FL NN:=KG (by decide +kernel)
def yF:SM:=
 Zy 1 (UY Uw (ZG (KP (UJ 2)) 1 (gN 3) (UM yM) (UY Uw (VF 3))))
def Od:SM:=
 UQ (K1 1 (U3 (UK) λxs=>if xs.length<=1000000 then UM xs else λ_=>.bad))
 (UQ (Ko (KP (UU 0 (UM (.int 1)))) (gN 2) yF)
 (sNx))
def FJ:M D:=
 RD (U3 (UL (UU 0 (UM (.int 0))) (UK)) λxs=>U7 (VC xs)) 1
def Oc:yO->yQ:=Rb NN Od FJ
abbrev Sbj:Stmt:=top 51
noncomputable abbrev N_bj:List Str:=["_law_wishes_here", "_law_cell", "_law_salt", "_law_digits", "_law_copies", "_law_lists", "_law_way", "_law_thing", "_law_asker"]
def Hbj:NmF Sbj N_bj:=KG (by decide +kernel)
def TQ:SM:=
 UQ (U2 3 (UV 3 Zt (UL (UJ 1) (UL (UJ 2) (UL (U1 (UL (UM (.int 11)) (UL (UM (.int 42)) (UL (UM (.int 42)) (UK))))) (UK))))))
 (UQ (Sv 4 5 (UV 1 Oc (UL (UJ 0) (UK))))
 (UQ (U2 6 (UU 3 (UM (.int 0))))
 (UQ (U2 7 (UP Za (UU 3 (UM (.int 1))) (KB 4)))
 (UQ (U2 8 (UP Za (UU 3 (UM (.int 2))) (KB 5)))
 (UQ (sIf (KF oEq 6 (UM (.int 0)))
 (UW (U1 (UL (UJ 4) (UL (UJ 5) (UK)))))
 (sNx))
 (UQ (sIf (KF oEq 6 (UM (.int 1)))
 (UW (Ky (UL (UJ 4) (UL (UJ 5) (UL (U1 (UK)) (UK))))))
 (sNx))
 (UQ (sIf (KF oEq 6 (UM (.int 2)))
 (UW (UP oIx (U1 (UL (UM .none) (UL (UM (.str "wishes")) (UL (UM (.int 3)) (UL (UJ 4) (UL (Ky (UL (U1 (UK)) (UL (U1 (UK)) (UK)))) (UL (Ky (UL (UJ 4) (UK))) (UK)))))))) (UP Za (UU 3 (UM (.int 1))) (UM (.int 6)))))
 (sNx))
 (UQ (sIf (KF oEq 6 (UM (.int 3)))
 (Ws 4 (UJ 7) (UP oIx (U1 (UL (Yl (UM (.int 1))) (UL (UM (.int 8)) (UL (UM (.bool yM)) (UL (UM .none) (UL (UM (.str "1")) (UL (UP Yx (UM (.int 10)) (UM (.int 40))) (UK)))))))) (UP Za (UU 3 (UM (.int 2))) (UM (.int 6)))))
 (sNx))
 (UQ (sIf (KF oEq 6 (UM (.int 4)))
 (K1 4 (U3 (UK) λxs=>if xs.length<=1000000 then UM xs else λ_=>.bad))
 (sNx))
 (UQ (sIf (KF oEq 6 (UM (.int 5)))
 (K1 5 (U3 (UK) λxs=>if xs.length<=1000000 then UM xs else λ_=>.bad))
 (sNx))
 (UQ (sIf (KF oEq 6 (UM (.int 6)))
 (Ws 5 (UJ 8) (U1 (UL (U1 (UL (KB 4) (UK))) (UK))))
 (sNx))
 (UQ (sIf (KF oEq 6 (UM (.int 7)))
 (Ws 5 (UJ 8) (U1 (UL (U1 (UL (UJ 7) (UK))) (UL (U1 (UL (UJ 7) (UK))) (UK)))))
 (sNx))
 (UQ (sIf (KF oEq 6 (UM (.int 8)))
 (Ws 5 (UJ 8) (U1 (UL (U1 (UL (UJ 7) (UK))) (UL (U1 (UK)) (UK)))))
 (sNx))
 (UQ (sIf (KF oEq 6 (UM (.int 9)))
 (Ws 5 (UJ 8) (U1 (UL (Ky (UL (UJ 7) (UK))) (UK))))
 (sNx))
 (UQ (sIf (KF oEq 6 (UM (.int 10)))
 (U2 5 (UP U0 (UJ 5) (UP Ke (U1 (UL (U1 (UK)) (UK))) (UM (.int 7)))))
 (sNx))
 (UW (Ky (UL (UJ 4) (UL (UJ 5) (UK))))))))))))))))))))
def Vo:yO->yQ:=U9 N_bj TQ
abbrev Sbs:Stmt:=top 60
noncomputable abbrev N_bs:List Str:=["_law_wishes_here", "_law_thing", "_law_one", "_law_at"]
def Hbs:NmF Sbs N_bs:=KG (by decide +kernel)
def O0:SM:=
 sIf (mOr (U8 (KM (UV 2 ZJ (UL (UJ 2) (UL (KH Kb (UL (UU 0 (UM (.int 1))) (UK))) (UK)))))) (KF oIn 2 (Zs (UU 1 (UM (.int 2))) (UM yL) (U3 (UJ 3) λx=>U7 (Z9 x)))))
 (UW (UM (.str "turns")))
 (sNx)
def LF:SM:=
 sIf (Ze (UY (λd=>!isNon d) (UJ 2)) (U8 (KM (UV 2 ZJ (UL (UJ 2) (UL (KH Kb (UL (UU 0 (UM (.int 0))) (UK))) (UK)))))))
 (UW (UM (.str "old")))
 (sNx)
def TF:SM:=
 UQ (sIf (mOr (U8 (KM (UY (λd=>.bool (Kk d "tuple")) (UJ 1)))) (UP oNe (KB 1) (UM (.int 3))))
 (UW (UM (.str "aim")))
 (sNx))
 (UQ (sIf (mOr (U8 (KM (UY (λd=>.bool (Kk d "str")) (UU 1 (UM (.int 0)))))) (UP YS (UU 1 (UM (.int 0))) (U1 (UL (UM (.str "firsts")) (UL (UM (.str "full")) (UL (UM (.str "lasts")) (UK)))))))
 (UW (UM (.str "order")))
 (sNx))
 (UQ (sIf (UY (λd=>!isNon d) (UU 1 (UM (.int 1))))
 (UQ (sIf (mOr (U8 (KM (UY (λd=>.bool (Kk d "list")) (UU 1 (UM (.int 1)))))) (UP oNe (KH Kb (UL (UU 1 (UM (.int 1))) (UK))) (KH Kb (UL (UU 0 (UM (.int 1))) (UK)))))
 (UW (UM (.str "old")))
 (sNx))
 (Ko (KP (UU 1 (UM (.int 1)))) (gN 2) LF))
 (sNx))
 (UQ (sIf (U8 (KM (UY (λd=>.bool (Kk d "list")) (UU 1 (UM (.int 2))))))
 (UW (UM (.str "turns")))
 (sNx))
 (UQ (Ko (Xp (UL (UU 1 (UM (.int 2))) (UK))) (gT 2 (gNC (gN 3) (gNC (gN 2) (gN0)))) O0)
 (UW (UM .none))))))
def Vj:yO->yQ:=U9 N_bs TF
abbrev Sbp:Stmt:=top 57
noncomputable abbrev N_bp:List Str:=["_law_askers", "_law_turns", "_law_way", "_law_place", "_law_odd", "_law_some", "_law_at"]
def Hbp:NmF Sbp N_bp:=KG (by decide +kernel)
def TJ:SM:=
 UQ (K1 5 (U3 (UL (UM .none) (UL (UM (.bool yM)) (UL (UM (.bool yN)) (UL (Yl (UM (.int 1))) (UL (UJ 0) (UL (UM (.str "0")) (UL (U1 (UL (UM (.int 0)) (UK))) (UL (Ky (UL (UM (.int 0)) (UK))) (UL (UP U0 (UJ 0) (UM (.int 7))) (UL (UP Yx (UM (.int 10)) (UM (.int 40))) (UK))))))))))) λxs=>if xs.length<=1000000 then UM xs else λ_=>.bad))
 (UQ (U2 6 (UP Za (UJ 3) (UP U0 (KB 1) (UM (.int 1)))))
 (UQ (sIf (KF oEq 2 (UM (.int 3)))
 (UW (UP U0 (UP U0 (Zs (UJ 1) (UM yL) (U3 (UJ 6) λx=>U7 (Z9 x))) (U1 (UL (UU 5 (UJ 4)) (UK)))) (Zs (UJ 1) (U3 (UJ 6) λx=>U7 (Z9 x)) (UM yL))))
 (sNx))
 (UQ (sIf (Ze (KF oEq 2 (UM (.int 4))) (KF oNe 1 (U1 (UK))))
 (UW (UP U0 (UP U0 (Zs (UJ 1) (UM yL) (U3 (UJ 6) λx=>U7 (Z9 x))) (U1 (UL (UU 1 (UP Za (UJ 4) (KB 1))) (UK)))) (Zs (UJ 1) (U3 (UJ 6) λx=>U7 (Z9 x)) (UM yL))))
 (sNx))
 (UQ (sIf (KF oEq 2 (UM (.int 5)))
 (UW (KH Rg (UL (UJ 1) (UK))))
 (sNx))
 (UQ (sIf (KF oEq 2 (UM (.int 6)))
 (UW (UU 5 (UJ 4)))
 (sNx))
 (UW (UY Uw (VF 1))))))))
def Wh:yO->yQ:=U9 N_bp TJ
abbrev Sbo:Stmt:=top 56
noncomputable abbrev N_bo:List Str:=["_law_wishes_here", "_law_old", "_law_way", "_law_place", "_law_odd", "_law_askers", "_law_things", "_law_some", "_law_row"]
def Hbo:NmF Sbo N_bo:=KG (by decide +kernel)
def TK:SM:=
 UQ (U2 5 (KH Kb (UL (UU 0 (UM (.int 1))) (UK))))
 (UQ (U2 6 (KH Kb (UL (UU 0 (UM (.int 0))) (UK))))
 (UQ (K1 7 (U3 (UL (UM .none) (UL (UM (.bool yM)) (UL (UM (.bool yN)) (UL (Yl (UM (.int 1))) (UL (UJ 6) (UL (UM (.str "0")) (UL (U1 (UL (UM (.int 0)) (UK))) (UL (Ky (UL (UM (.int 0)) (UK))) (UL (UP U0 (UJ 6) (UM (.int 7))) (UL (UP Yx (UM (.int 10)) (UM (.int 40))) (UK))))))))))) λxs=>if xs.length<=1000000 then UM xs else λ_=>.bad))
 (UQ (K1 8 (Rh (U1 (UL (UM .none) (UK))) (UJ 5)))
 (UQ (sIf (UY (λd=>!isNon d) (UJ 1))
 (K1 8 (VF 1))
 (sNx))
 (UQ (sIf (KF oEq 2 (UM (.int 3)))
 (UQ (Ws 8 (UP Za (UJ 3) (UJ 5)) (UU 7 (UJ 4)))
 (UW (UJ 8)))
 (sNx))
 (UQ (sIf (KF oEq 2 (UM (.int 4)))
 (UW (UP oIx (U1 (UL (Zs (UJ 8) (U3 (UM (.int 1)) λx=>U7 (Z9 x)) (UM yL)) (UL (UP U0 (UJ 8) (U1 (UL (UM .none) (UK)))) (UK)))) (UP Za (UJ 4) (UM (.int 2)))))
 (sNx))
 (UQ (sIf (KF oEq 2 (UM (.int 5)))
 (UW (KH Rg (UL (UJ 8) (UK))))
 (sNx))
 (UQ (sIf (KF oEq 2 (UM (.int 6)))
 (UW (UU 7 (UJ 4)))
 (sNx))
 (UW (UJ 1))))))))))
def XB:yO->yQ:=U9 N_bo TK
abbrev Sbq:Stmt:=top 58
noncomputable abbrev N_bq:List Str:=["_law_wishes_here", "_law_aim_here", "_law_cell", "_law_salt", "_law_digits", "_law_order", "_law_old", "_law_turns", "_law_words", "_law_some"]
def Hbq:NmF Sbq N_bq:=KG (by decide +kernel)
def TH:SM:=
 UQ (U2 4 (UV 3 Zt (UL (UJ 2) (UL (UJ 3) (UL (U1 (UL (UM (.int 4)) (UL (UM (.int 13)) (UL (UM (.int 7)) (UL (UM (.int 8)) (UL (UM (.int 10)) (UL (UM (.int 7)) (UL (UM (.int 8)) (UL (UM (.int 10)) (UL (UM (.int 6)) (UL (UM (.int 7)) (UK)))))))))))) (UK))))))
 (UQ (KY (UJ 1) (gT 3 (gNC (gN 5) (gNC (gN 6) (gNC (gN 7) (gN0))))))
 (UQ (sIf (UP oEq (UU 4 (UM (.int 0))) (UM (.int 1)))
 (UQ (K1 8 (U3 (UL (UM (.str "first")) (UL (UM (.str "Full")) (UL (UM (.str "")) (UL (UM (.str "lasts ")) (UL (UM (.str " full")) (UL (UM (.str "firstsfull")) (UL (UM (.str "FIRSTS")) (UL (UM (.str "l")) (UK))))))))) λxs=>if xs.length<=1000000 then UM xs else λ_=>.bad))
 (U2 5 (UP oIx (UP U0 (UJ 8) (U1 (UL (UM .none) (UL (UM (.int 1)) (UL (UM (.bool yM)) (UL (U1 (UL (UM (.str "full")) (UK))) (UL (Ky (UL (UM (.str "lasts")) (UK))) (UK)))))))) (UU 4 (UM (.int 1))))))
 (sNx))
 (UQ (U2 6 (UV 5 XB (UL (UJ 0) (UL (UJ 6) (UL (UU 4 (UM (.int 2))) (UL (UU 4 (UM (.int 3))) (UL (UU 4 (UM (.int 4))) (UK))))))))
 (UQ (U2 7 (UV 5 Wh (UL (KH Kb (UL (UU 0 (UM (.int 1))) (UK))) (UL (UJ 7) (UL (UU 4 (UM (.int 5))) (UL (UU 4 (UM (.int 6))) (UL (UU 4 (UM (.int 7))) (UK))))))))
 (UQ (sIf (UP oEq (UU 4 (UM (.int 8))) (UM (.int 1)))
 (UQ (K1 9 (U3 (UL (U1 (UL (UJ 5) (UL (UJ 6) (UL (UJ 7) (UK))))) (UL (Ky (UL (UJ 5) (UL (UJ 6) (UK)))) (UL (Ky (UL (UJ 5) (UL (UJ 6) (UL (UJ 7) (UL (UM .none) (UK)))))) (UK)))) λxs=>if xs.length<=1000000 then UM xs else λ_=>.bad))
 (UQ (U2 9 (UP U0 (UJ 9) (U1 (UL (UM .none) (UL (UJ 5) (UL (UM (.int 3)) (UL (Rf [(UM (.str "order"),UJ 5)]) (UK))))))))
 (UW (UU 9 (UU 4 (UM (.int 9)))))))
 (sNx))
 (UW (Ky (UL (UJ 5) (UL (UJ 6) (UL (UJ 7) (UK)))))))))))
def Vk:yO->yQ:=U9 N_bq TH
abbrev Sbf:Stmt:=top 47
noncomputable abbrev N_bf:List Str:=["_law_wishes_here", "_law_asker"]
def Hbf:NmF Sbf N_bf:=KG (by decide +kernel)
def g_bf:SM:=
 UW (KH V0 (UL (KH Su (UL (UP oIx (UU 0 (UM (.int 1))) (UJ 1)) (UL (U1 (UK)) (UK)))) (UK)))
def Vq:yO->yQ:=U9 N_bf g_bf
abbrev Sbk:Stmt:=top 52
noncomputable abbrev N_bk:List Str:=["_law_wishes_here", "_law_found", "_law_asker"]
def Hbk:NmF Sbk N_bk:=KG (by decide +kernel)
def LD:SM:=
 Wa 1 (ZG (KP (UV 2 Vq (UL (UJ 0) (UL (UJ 2) (UK))))) 1 (gN 3) (UM yM) (Ky (UL (UJ 2) (UL (UJ 3) (UK)))))
def TN:SM:=
 UQ (K1 1 (U3 (UK) λxs=>if xs.length<=1000000 then UM xs else λ_=>.bad))
 (UQ (Ko (XY (UL (KH Kb (UL (UU 0 (UM (.int 1))) (UK))) (UK))) (gN 2) LD)
 (UW (UJ 1)))
def Wi:yO->yQ:=U9 N_bk TN
abbrev Sbd:Stmt:=top 45
noncomputable abbrev N_bd:List Str:=["_law_wishes_here", "_law_asker", "_law_thing", "_law_k", "_law_row"]
def Hbd:NmF Sbd N_bd:=KG (by decide +kernel)
def Ba:SM:=
 sIf (KF oIn 2 (UJ 4))
 (UW (UP U0 (UJ 3) (UM (.int 1))))
 (sNx)
def g_bd:SM:=
 UQ (Ko (Xp (UL (UP oIx (UU 0 (UM (.int 1))) (UJ 1)) (UK))) (gT 2 (gNC (gN 3) (gNC (gN 4) (gN0)))) Ba)
 (UW (UM (.int 0)))
def Vs:yO->yQ:=U9 N_bd g_bd
abbrev Sbe:Stmt:=top 46
noncomputable abbrev N_be:List Str:=["_law_wishes_here"]
def Hbe:NmF Sbe N_be:=KG (by decide +kernel)
def g_be:SM:=
 UW (KH WH (UL (UY Uw (ZG (KP (UU 0 (UM (.int 1)))) 1 (gN 1) (UM yM) (KB 1))) (UK)))
def Vr:yO->yQ:=U9 N_be g_be
abbrev Sbh:Stmt:=top 49
noncomputable abbrev N_bh:List Str:=["_law_wishes_here", "_law_aim_here", "_law_asker", "_law_thing", "_law_order", "_law_old", "_law_turns", "_law_base", "_law_ranks", "_law_rank_here", "_law_powers", "_law_k", "_law_worth_here", "_law_pick", "_law_one"]
def Hbh:NmF Sbh N_bh:=KG (by decide +kernel)
def PH:SM:=
 UQ (U2 12 (UP Ke (UJ 12) (UP U0 (UJ 8) (UM (.int 1)))))
 (UQ (U2 13 (UP Ke (UJ 13) (UP U0 (UJ 8) (UM (.int 1)))))
 (sIf (KF oEq 14 (UJ 2))
 (U2 13 (UP K9 (UP U0 (UP U0 (UJ 13) (UJ 8)) (UM (.int 1))) (UJ 9)))
 (sNx)))
def LC:SM:=
 Zy 10 (UP Ke (UU 10 (Yl (UM (.int 1)))) (UJ 7))
def TR:SM:=
 UQ (KY (UJ 1) (gT 3 (gNC (gN 4) (gNC (gN 5) (gNC (gN 6) (gN0))))))
 (UQ (U2 7 (UP U0 (KH Kb (UL (UU 0 (UM (.int 1))) (UK))) (UM (.int 1))))
 (UQ (U2 8 (UV 1 Vr (UL (UJ 0) (UK))))
 (UQ (U2 9 (UV 3 Vs (UL (UJ 0) (UL (UJ 2) (UL (UJ 3) (UK))))))
 (UQ (K1 10 (U3 (UL (UM (.int 1)) (UK)) λxs=>if xs.length<=1000000 then UM xs else λ_=>.bad))
 (UQ (Ko (XY (UL (UJ 8) (UK))) (gN 11) LC)
 (UQ (U2 12 (UU 10 (UP K9 (UJ 8) (UJ 9))))
 (UQ (sIf (KF oEq 4 (UM (.str "full")))
 (U2 12 (UP U0 (UJ 12) (UU 10 (UJ 8))))
 (sNx))
 (UQ (sIf (KF oEq 4 (UM (.str "lasts")))
 (U2 12 (UP K9 (UU 10 (UJ 8)) (UU 10 (UP K9 (UJ 9) (UM (.int 1))))))
 (sNx))
 (UQ (U2 12 (UP Ke (UJ 12) (UJ 7)))
 (UQ (sIf (Ze (UY (λd=>!isNon d) (UJ 5)) (UP oEq (UU 5 (UJ 2)) (UJ 3)))
 (U2 12 (UP U0 (UJ 12) (UM (.int 1))))
 (sNx))
 (UQ (U2 13 (UM (.int 0)))
 (UQ (Ko (KP (UJ 6)) (gN 14) PH)
 (UW (UP U0 (UJ 12) (UJ 13)))))))))))))))
def Wj:yO->yQ:=U9 N_bh TR
abbrev Sbl:Stmt:=top 53
noncomputable abbrev N_bl:List Str:=["_law_wishes_here", "_law_aim_here", "_law_found", "_law_asker", "_law_thing"]
def Hbl:FnNm (K7 Sbl) N_bl ["_law_wishes_of", "_law_worth"]:=KG (by decide +kernel)
def TM:SM:=
 W4 2 3 4 (KP (UV 1 Wi (UL (UJ 0) (UK)))) (UV 4 Wj (UL (UJ 0) (UL (UJ 1) (UL (UJ 3) (UL (UJ 4) (UK))))))
def Vn:yO->yQ:=U9 N_bl TM
abbrev Sbn:Stmt:=top 55
noncomputable abbrev N_bn:List Str:=["_law_wishes_here", "_law_worths_here", "_law_cell", "_law_salt", "_law_lower", "_law_sizes", "_law_digits", "_law_times", "_law_things", "_law_prices", "_law_thing", "_law_some", "_law_price", "_law_asks", "_law_asker", "_law_wants", "_law_ask_here", "_law_more"]
def Hbn:NmF Sbn N_bn:=KG (by decide +kernel)
def LB:SM:=
 UQ (K1 15 (RC (R7 (UJ 1)) 1 (gN 18) (UP oEq (UU 18 (UM (.int 0))) (UJ 14)) (UP K9 (UP Ke (UJ 7) (UP V4 (UJ 1) (UJ 18))) (UU 9 (UU 18 (UM (.int 1)))))))
 (UQ (U2 16 (KH WH (UL (UP U0 (U1 (UL (UM (.int 0)) (UK))) (UJ 15)) (UK))))
 (UQ (U2 17 (UP oIx (U1 (UL (UM (.int 0)) (UL (UM (.int 0)) (UL (UM (.int 0)) (UL (UM (.int 0)) (UL (UM (.int 0)) (UL (UM (.int 0)) (UL (UM (.int 1)) (UL (UU 6 (UM (.int 1))) (UL (UP K9 (UM (.int 0)) (UJ 4)) (UK))))))))))) (UU 6 (UP U0 (UP U0 (UM (.int 2)) (UP Ke (UM (.int 2)) (UJ 8))) (UJ 14)))))
 (Zy 13 (UP U0 (UJ 16) (UJ 17)))))
def Lc:SM:=
 UQ (U2 11 (UP U0 (U1 (UL (UM (.int 0)) (UK))) (UY Uw (ZG (R7 (UJ 1)) 1 (gN 18) (UP oEq (UU 18 (UM (.int 1))) (UJ 10)) (UP Ke (UJ 7) (UP V4 (UJ 1) (UJ 18)))))))
 (UQ (U2 12 (UU 11 (UP Za (UU 6 (UP U0 (UP U0 (UM (.int 2)) (UJ 8)) (UJ 10))) (KB 11))))
 (Zy 9 (KH Rn (UL (UM (.int 0)) (UL (UP U0 (UJ 12) (UP oIx (U1 (UL (UM (.int 0)) (UL (UM (.int 0)) (UL (UM (.int 0)) (UL (Yl (UM (.int 1))) (UL (UM (.int 1)) (UL (UU 6 (UM (.int 1))) (UK)))))))) (UU 6 (UP U0 (UM (.int 2)) (UJ 10))))) (UK))))))
def TL:SM:=
 UQ (U2 5 (UP U0 (UP U0 (UP U0 (U1 (UL (UM (.int 3)) (UL (UP Yx (UM (.int 10)) (UM (.int 9))) (UK)))) (UP Ke (U1 (UL (UM (.int 6)) (UK))) (KH Kb (UL (UU 0 (UM (.int 0))) (UK))))) (UP Ke (U1 (UL (UM (.int 8)) (UK))) (KH Kb (UL (UU 0 (UM (.int 0))) (UK))))) (UP Ke (U1 (UL (UM (.int 9)) (UK))) (KH Kb (UL (UU 0 (UM (.int 1))) (UK))))))
 (UQ (U2 6 (UV 3 Zt (UL (UJ 2) (UL (UJ 3) (UL (UJ 5) (UK))))))
 (UQ (U2 7 (UP oIx (U1 (UL (UM (.int 1)) (UL (UM (.int 1)) (UL (UP U0 (UM (.int 2)) (UU 6 (UM (.int 1)))) (UK))))) (UU 6 (UM (.int 0)))))
 (UQ (U2 8 (KH Kb (UL (UU 0 (UM (.int 0))) (UK))))
 (UQ (K1 9 (U3 (UK) λxs=>if xs.length<=1000000 then UM xs else λ_=>.bad))
 (UQ (Ko (XY (UL (UJ 8) (UK))) (gN 10) Lc)
 (UQ (K1 13 (U3 (UK) λxs=>if xs.length<=1000000 then UM xs else λ_=>.bad))
 (UQ (Ko (XY (UL (KH Kb (UL (UU 0 (UM (.int 1))) (UK))) (UK))) (gN 14) LB)
 (UW (Ky (UL (UJ 7) (UL (UJ 13) (UL (UJ 9) (UK)))))))))))))
def Vl:yO->yQ:=U9 N_bn TL
abbrev Sbg:Stmt:=top 48
noncomputable abbrev N_bg:List Str:=["_law_wishes_here", "_law_cell", "_law_salt", "_law_askers", "_law_sizes", "_law_digits", "_law_old", "_law_turns", "_law_digit"]
def Hbg:NmF Sbg N_bg:=KG (by decide +kernel)
def OZ:SM:=
 U2 8 (UP Za (UP U0 (UJ 8) (UM (.int 1))) (UJ 3))
def Lb:SM:=
 UQ (WN (VZ oIn (UJ 8) 7) OZ 1000)
 (Zy 7 (UJ 8))
def TU:SM:=
 UQ (U2 3 (KH Kb (UL (UU 0 (UM (.int 1))) (UK))))
 (UQ (U2 4 (UP U0 (U1 (UL (UM (.int 3)) (UL (UM (.int 2)) (UL (UP U0 (UJ 3) (UM (.int 1))) (UK))))) (UP Ke (U1 (UL (UP U0 (KH Kb (UL (UU 0 (UM (.int 0))) (UK))) (UM (.int 1))) (UK))) (UJ 3))))
 (UQ (U2 5 (UV 3 Zt (UL (UJ 1) (UL (UJ 2) (UL (UP U0 (UJ 4) (UP Ke (U1 (UL (UJ 3) (UK))) (UJ 3))) (UK))))))
 (UQ (U2 6 (UM .none))
 (UQ (sIf (UP oEq (UU 5 (UM (.int 1))) (UM (.int 1)))
 (K1 6 (ZG (KP (Zs (UJ 5) (U3 (UM (.int 3)) λx=>U7 (Z9 x)) (U3 (UP U0 (UM (.int 3)) (UJ 3)) λx=>U7 (Z9 x)))) 1 (gN 9) (UM yM) (UP oIx (U1 (UL (UM .none) (UL (UP K9 (UJ 9) (UM (.int 1))) (UK)))) (KH SZ (UL (UY Ux (KF (oIB λi j=>decide (j<i)) 9 (UM (.int 0)))) (UK))))))
 (sNx))
 (UQ (K1 7 (U3 (UK) λxs=>if xs.length<=1000000 then UM xs else λ_=>.bad))
 (UQ (Ko (KP (Zs (UJ 5) (U3 (UP U0 (UM (.int 3)) (UJ 3)) λx=>U7 (Z9 x)) (U3 (UP U0 (UP U0 (UM (.int 3)) (UJ 3)) (UU 5 (UM (.int 2)))) λx=>U7 (Z9 x)))) (gN 8) Lb)
 (UW (Ky (UL (UP oIx (U1 (UL (UM (.str "firsts")) (UL (UM (.str "full")) (UL (UM (.str "lasts")) (UK))))) (UU 5 (UM (.int 0)))) (UL (UJ 6) (UL (UJ 7) (UK))))))))))))
def Vp:yO->yQ:=U9 N_bg TU
abbrev Sbc:Stmt:=top 44
noncomputable abbrev N_bc:List Str:=["_law_script", "_law_at", "_law_most_things", "_law_most_askers", "_law_most_ranks", "_law_sizes", "_law_digits", "_law_copies", "_law_lists", "_law_asker", "_law_cell", "_law_places", "_law_ranks", "_law_rank_here", "_law_row"]
def Hbc:NmF Sbc N_bc:=KG (by decide +kernel)
def OY:SM:=
 UQ (K1 14 (ZG (XY (UL (KB 7) (UK))) 1 (gN 15) (UP oEq (UU 11 (UJ 15)) (UJ 13)) (UJ 15)))
 (sIf (KF oNe 14 (U1 (UK)))
 (Zy 12 (UP oIx (U1 (UL (UJ 14) (UL (Sa (UJ 14) (UM yL) (UM yL) (U3 (Yl (UM (.int 1))) λx=>U7 (Z9 x))) (UK)))) (UU 11 (Yl (UM (.int 1))))))
 (sNx))
def OX:SM:=
 UQ (U2 10 (UV 2 Yz (UL (UJ 0) (UL (UP U0 (UP U0 (UJ 1) (UM (.int 1))) (UJ 9)) (UK)))))
 (UQ (U2 11 (UV 3 Zt (UL (UJ 10) (UL (UP U0 (UP U0 (UP Ke (UM (.int 11)) (UJ 1)) (UP Ke (UM (.int 3)) (UJ 9))) (UM (.int 1))) (UL (UP U0 (UP Ke (U1 (UL (UP U0 (UJ 4) (UM (.int 1))) (UK))) (UJ 2)) (U1 (UL (UM (.int 2)) (UK)))) (UK))))))
 (UQ (K1 12 (U3 (UK) λxs=>if xs.length<=1000000 then UM xs else λ_=>.bad))
 (UQ (Ko (Oh (UL (UM (.int 1)) (UL (UP U0 (UJ 4) (UM (.int 1))) (UK)))) (gN 13) OY)
 (Zy 8 (UJ 12)))))
def TV:SM:=
 UQ (U2 5 (UP U0 (U1 (UL (UJ 2) (UL (UJ 3) (UK)))) (UP Ke (U1 (UL (UM (.int 11)) (UK))) (UJ 2))))
 (UQ (U2 6 (UV 3 Zt (UL (UV 2 Yz (UL (UJ 0) (UL (UJ 1) (UK)))) (UL (UJ 1) (UL (UJ 5) (UK))))))
 (UQ (K1 7 (ZG (KP (Zs (UJ 6) (U3 (UM (.int 2)) λx=>U7 (Z9 x)) (U3 (UP U0 (UM (.int 3)) (UU 6 (UM (.int 0)))) λx=>U7 (Z9 x)))) 1 (gN 15) (UM yM) (UP oIx (U1 (UL (UM (.int 1)) (UL (UM (.int 1)) (UL (UM (.int 2)) (UL (UM (.int 0)) (UL (UM (.int 3)) (UL (UM (.int 7)) (UL (UM (.int 1)) (UL (UM (.int 4)) (UL (UM (.int 5)) (UL (UM (.int 6)) (UL (UM (.int 1)) (UK))))))))))))) (UJ 15))))
 (UQ (K1 8 (U3 (UK) λxs=>if xs.length<=1000000 then UM xs else λ_=>.bad))
 (UQ (Ko (XY (UL (UP U0 (UM (.int 1)) (UU 6 (UM (.int 1)))) (UK))) (gN 9) OX)
 (UW (Ky (UL (UJ 7) (UL (UJ 8) (UK)))))))))
def Vt:yO->yQ:=U9 N_bc TV
abbrev Sby:Stmt:=top 66
noncomputable abbrev N_by:List Str:=["_law_script", "_law_wishes_here", "_law_aim_here", "_law_paper_here", "_law_first", "_law_k", "_law_cell", "_law_digits", "_law_odd", "_law_given", "_law_part_here", "_law_bad", "_law_told_here"]
def Hby:NmF Sby N_by:=KG (by decide +kernel)
def La:SM:=
 UQ (U2 7 (UV 3 Zt (UL (UJ 6) (UL (UP U0 (UM (.int 31)) (UJ 5)) (UL (U1 (UL (UM (.int 2)) (UL (UM (.int 3)) (UL (UM (.int 2)) (UK))))) (UK))))))
 (UQ (U2 8 (UV 4 Vk (UL (UJ 1) (UL (UJ 2) (UL (UP Xb (UJ 6) (UM (.int 12))) (UL (UP U0 (UM (.int 40)) (UJ 5)) (UK)))))))
 (UQ (U2 9 (UP oIx (U1 (UL (UJ 3) (UL (UM .none) (UK)))) (UU 7 (UM (.int 2)))))
 (UQ (U2 10 (UV 2 Vj (UL (UJ 1) (UL (UJ 8) (UK)))))
 (UQ (U2 11 (UV 3 Vo (UL (UJ 1) (UL (UP Xb (UJ 6) (UM (.int 12))) (UL (UP U0 (UM (.int 50)) (UJ 5)) (UK))))))
 (UQ (U2 12 (UV 4 ZT (UL (UU 7 (UM (.int 0))) (UL (UJ 11) (UL (UJ 8) (UL (UJ 9) (UK)))))))
 (UQ (sIf (Ze (UP oEq (UU 7 (UM (.int 1))) (UM (.int 0))) (KF oNe 12 (UP U0 (U1 (UL (UM (.str "wishes")) (UK))) (UV 1 Vg (UL (UJ 11) (UK))))))
 (UW (UM (.bool yN)))
 (sNx))
 (UQ (sIf (Ze (UP oEq (UU 7 (UM (.int 1))) (UM (.int 1))) (U8 (KM (UV 4 Vi (UL (UU 7 (UM (.int 0))) (UL (UJ 11) (UL (UJ 8) (UL (UJ 9) (UK)))))))))
 (UW (UM (.bool yN)))
 (sNx))
 (UQ (sIf (Ze (UP oEq (UU 7 (UM (.int 1))) (UM (.int 2))) (UY (λd=>!isNon d) (UJ 10)))
 (sIf (UP oNe (UV 4 ZT (UL (UM (.int 0)) (UL (UJ 1) (UL (UJ 8) (UL (UJ 9) (UK)))))) (U1 (UL (UM (.str "aim")) (UL (UJ 10) (UK)))))
 (UW (UM (.bool yN)))
 (sNx))
 (sNx))
 (sIf (UP oNe (UV 4 ZT (UL (UU 7 (UM (.int 0))) (UL (UJ 1) (UL (UJ 2) (UL (UJ 3) (UK)))))) (UU 4 (UU 7 (UM (.int 0)))))
 (UW (UM (.bool yN)))
 (sNx))))))))))
def TB:SM:=
 UQ (U2 1 (UV 5 Vt (UL (UJ 0) (UL (UM (.int 1)) (UL (UM (.int 4)) (UL (UM (.int 5)) (UL (UM (.int 3)) (UK))))))))
 (UQ (U2 2 (UV 3 Vp (UL (UJ 1) (UL (UV 2 Yz (UL (UJ 0) (UL (UM (.int 0)) (UK)))) (UL (UM (.int 5)) (UK))))))
 (UQ (U2 3 (UV 5 Vl (UL (UJ 1) (UL (UV 2 Vn (UL (UJ 1) (UL (UJ 2) (UK)))) (UL (UV 2 Yz (UL (UJ 0) (UL (UM (.int 3)) (UK)))) (UL (UM (.int 2)) (UL (UM (.int 0)) (UK))))))))
 (UQ (K1 4 (ZG (XY (UL (UM (.int 2)) (UK))) 1 (gN 13) (UM yM) (UV 4 ZT (UL (UJ 13) (UL (UJ 1) (UL (UJ 2) (UL (UJ 3) (UK))))))))
 (UQ (Ko (Xp (UL (UP U0 (U1 (UL (UV 2 Yz (UL (UJ 0) (UL (UM (.int 2)) (UK)))) (UK))) (Zs (UJ 0) (U3 (UM (.int 7)) λx=>U7 (Z9 x)) (U3 (UM (.int 63)) λx=>U7 (Z9 x)))) (UK))) (gT 2 (gNC (gN 5) (gNC (gN 6) (gN0)))) La)
 (UW (UY Ux (KF oEq 4 (U1 (UL (U1 (UL (UM (.str "let")) (UL (UM (.bool yM)) (UK)))) (UL (U1 (UL (UM (.str "let")) (UL (UV 2 Vm (UL (UJ 1) (UL (UJ 3) (UK)))) (UK)))) (UK)))))))))))
def Vf:yO->yQ:=U9 N_by TB
noncomputable abbrev N_az:List Str:=["wishes", "paper", "times", "asks", "prices"]
def g_az:SM:=
 UQ (XZ (UV 1 YV (UL (UJ 0) (UK))))
 (UQ (KY (UJ 1) (gT 3 (gNC (gN 2) (gNC (gN 3) (gNC (gN 4) (gN0))))))
 (UW (UP U0 (KH XX (UL (UJ 3) (UK))) (KH XX (UL (UY Uw (ZG (Wf (UL (UJ 4) (UL (UU 0 (UM (.int 0))) (UK)))) 2 (gT 2 (gNC (gN 5) (gNC (gN 6) (gN0)))) (UM yM) (UP Ke (UJ 5) (UJ 6)))) (UK))))))
def F_az:yO->yQ:=U9 N_az g_az
noncomputable abbrev N_ak:List Str:=["wishes"]
def g_ak:SM:=
 UQ (XZ (UV 1 YV (UL (UJ 0) (UK))))
 (UW (KH WH (UL (UY Uw (ZG (KP (UU 0 (UM (.int 1)))) 1 (gN 1) (UM yM) (KB 1))) (UK))))
def Sk:yO->yQ:=U9 N_ak g_ak
noncomputable abbrev N_an:List Str:=["thing"]
def g_an:SM:=
 sIf (U8 (KM (UV 1 XF (UL (UJ 0) (UK)))))
 (X3)
 (sNx)
def Sj:yO->yQ:=U9 N_an g_an
noncomputable abbrev N_aq:List Str:=["wishes", "thing", "copies", "lists", "order", "old", "turns"]
def g_aq:SM:=
 UQ (XZ (UV 1 YV (UL (UJ 0) (UK))))
 (UQ (sIf (mOr (U8 (KM (UY (λd=>.bool (Kk d "tuple")) (UJ 1)))) (UP oNe (KB 1) (UM (.int 3))))
 (X3)
 (sNx))
 (UQ (KY (UJ 0) (gT 2 (gNC (gN 2) (gNC (gN 3) (gN0)))))
 (UQ (KY (UJ 1) (gT 3 (gNC (gN 4) (gNC (gN 5) (gNC (gN 6) (gN0))))))
 (UQ (XZ (UV 1 Sj (UL (UJ 4) (UK))))
 (UQ (sIf (U8 (KM (UV 3 Xi (UL (UJ 5) (UL (KB 3) (UL (KB 2) (UK)))))))
 (X3)
 (sNx))
 (sIf (U8 (KM (UV 2 Xh (UL (UJ 6) (UL (KB 3) (UK))))))
 (X3)
 (sNx)))))))
def Sg:yO->yQ:=U9 N_aq g_aq
abbrev N_av:List Str:=["wishes", "aim", "most"]
def g_av:SM:=
 UQ (XZ (UV 2 Sg (UL (UJ 0) (UL (UJ 1) (UK)))))
 (UQ (U2 2 (UV 1 Sk (UL (UJ 0) (UK))))
 (UW (UY Uw (ZG (KP (UV 1 Wl (UL (UJ 0) (UK)))) 2 (gT 2 (gNC (gN 3) (gNC (gN 4) (gN0)))) (UM yM) (Ky (UL (UJ 3) (UL (UJ 4) (UL (UV 5 XE (UL (UJ 0) (UL (UJ 1) (UL (UJ 2) (UL (UJ 3) (UL (UJ 4) (UK))))))) (UK)))))))))
def Sf:yO->yQ:=U9 N_av g_av
noncomputable abbrev N_ay:List Str:=["wishes", "aim", "thing", "worths", "times", "asks", "prices"]
def g_ay:SM:=
 UQ (U2 3 (UV 2 Sf (UL (UJ 0) (UL (UJ 1) (UK)))))
 (UQ (sIf (U8 (KM (UV 2 Wk (UL (UJ 0) (UL (UJ 2) (UK))))))
 (UW (UM (.bool yN)))
 (sNx))
 (UQ (KY (UJ 2) (gT 3 (gNC (gN 4) (gNC (gN 5) (gNC (gN 6) (gN0))))))
 (UW (KH ZH (UL (UY Uw (ZG (KP (UJ 3)) 3 (gT 3 (gNC (gN 7) (gNC (gN 8) (gNC (gN 9) (gN0))))) (UM yM) (UY Ux (UP (oIB λi j=>decide (j<=i)) (UP U0 (UU 5 (UJ 7)) (UU 6 (UJ 8))) (UP Ke (UJ 4) (UJ 9)))))) (UK))))))
def Se:yO->yQ:=U9 N_ay g_ay
set_option hygiene false in
local macro_rules | `(tactic| walk_at "g")=>`(tactic| first | exact gA nm rfl | exact Cr rfl)
set_option hygiene false in
local macro_rules | `(tactic| walk_at "v")=>`(tactic| first | exact pq nm _ | exact pvb _)
set_option hygiene false in
local macro_rules | `(tactic| walk_at "b")=>`(tactic| first | ((with_reducible show OpB _ (compareOp CmpOp.Eq) _);first | exact B_eq hu | exact ER hu) | ((with_reducible show OpB _ (compareOp CmpOp.NotEq) _);first | exact B_ne hu) | ((with_reducible show OpB _ (compareOp CmpOp.Lt) _);first | exact B_lt) | ((with_reducible show OpB _ (compareOp CmpOp.LtE) _);first | exact B_le) | ((with_reducible show OpB _ (compareOp CmpOp.Gt) _);first | exact B_gt) | ((with_reducible show OpB _ (compareOp CmpOp.GtE) _);first | exact B_ge) | ((with_reducible show OpB _ (compareOp CmpOp.In) _);first | exact B_in hu) | ((with_reducible show OpB _ (compareOp CmpOp.NotIn) _);first | exact El hu))
set_option hygiene false in
local macro_rules | `(tactic| walk_at "m")=>`(tactic| first | exact BG _ | exact rfl)
set_option hygiene false in
local macro_rules | `(tactic| walk_at "k")=>`(tactic| first | exact jj | exact vD | exact vC | exact xw)
set_option hygiene false in
local macro_rules | `(tactic| walk_at "w")=>`(tactic| first | exact PassesOwn.never | exact vB)
set_option hygiene false in
local macro_rules | `(tactic| walk_at "x")=>`(tactic| first | assumption | exact jz)
set_option hygiene false in
local macro_rules | `(tactic| walk_at "c")=>`(tactic| first | exact T.c_MOST_ASKERS | exact T.c_MOST_COPIES | exact T.c_MOST_RANKS | exact T.c_MOST_THINGS | exact T.c_ORDERS)
set_option hygiene false in
local macro_rules | `(tactic| walk_at "ck")=>`(tactic| first | exact T.x_DealError | exact T.x_NoAim | exact T.x_NoWishes)
section
variable{P:Ul}{w:World}{K:Frag}{mg:Str->yT}{base:Heap}{f:Um}{fd:Uo}(T:Txt K mg)
include T
theorem Kbl(aI:Def P w K mg base "_law_wishes_of" 2 1 Wi)(aJ:Def P w K mg base "_law_worth" 2 4 Wj)(F:Fun K "_law_worths" "_law_worths" Sbl f fd):FnOk P w K mg base CX0 3 f fd ["_law_wishes_here", "_law_aim_here"] (spD K 2 Vn):=
 okD (k:=2) (g:=TM) F (fq Hbl 2) yK λcdv A outer s H E B G0 hr=>
 have hu:=hr.units;have hgd:=hr.gd
 (Da (j:=2) (i1:=3) (i2:=4) hu UD yK (nq Hbl) yK yK yK (lq Hbl 2) (lq Hbl 3) (lq Hbl 4) (λ_=>(pq Hbl 2)) (λ_=>(pq Hbl 3)) (λ_=>(pq Hbl 4)) (by decide) (by decide) (by decide)
 (λB' G'=>(MG (pdf aI hr (gq Hbl 0) (Ti (V8 (pq Hbl 0)) OQ))))
 (λB' G'=>(pdf aJ hr (gq Hbl 1) (Ti (V8 (pq Hbl 0)) (Ti (V8 (pq Hbl 1)) (Ti (V8 (pq Hbl 3)) (Ti (V8 (pq Hbl 4)) OQ)))))) (by first|exact .inl rfl|exact .inr rfl|assumption) (by first|exact .inl rfl|exact .inr rfl|assumption) (by first|exact .inl rfl|exact .inr rfl|assumption))
end
def oks:((∀{P w K mg base f fd}(T:Txt K mg)(_:Fun K "_law_claim" "_law_claim" Sbm f fd),FnOk P w K mg base CX0 1 f fd ["_law_wishes_here", "_law_paper_here"] (spD K 2 Vm)) /\
 (∀{P w K mg base f fd}(T:Txt K mg)(_:Fun K "_law_cell_at" "_law_cell_at" Sba f fd),FnOk P w K mg base CX0 1 f fd ["_law_script", "_law_k"] (spD K 2 Yz)) /\
 (∀{P w K mg base f fd}(T:Txt K mg)(_:Fun K "is_whole" "is_whole" Saa f fd),FnOk P w K mg base CX0 1 f fd ["thing"] (spD K 1 YA)) /\
 (∀{P w K mg base f fd}(T:Txt K mg)(_:Def P w K mg base "is_whole" 1 1 YA)(_:Fun K "is_number_below" "is_number_below" Sad f fd),FnOk P w K mg base CX0 2 f fd ["thing", "many"] (spD K 2 Zf)) /\
 (∀{P w K mg base f fd}(T:Txt K mg)(_:Def P w K mg base "is_number_below" 2 2 Zf)(_:Fun K "is_rank" "is_rank" Saf f fd),FnOk P w K mg base CX0 3 f fd ["thing", "things"] (spD K 2 Xk)) /\
 (∀{P w K mg base f fd}(T:Txt K mg)(_:Def P w K mg base "is_rank" 3 2 Xk)(_:Fun K "is_asker_list" "is_asker_list" Sag f fd),FnOk P w K mg base CX0 4 f fd ["thing", "things"] (spD K 2 Xj)) /\
 (∀{P w K mg base f fd}(T:Txt K mg)(_:Def P w K mg base "is_asker_list" 4 2 Xj)(_:MkX P w K mg base "NoWishes" 2)(_:Fun K "look_at_lists" "look_at_lists" FR f fd),FnOk P w K mg base (CX1 P w) 5 f fd ["lists", "things"] (spX K 2 RV)) /\
 (∀{P w K mg base f fd}(T:Txt K mg)(_:Def P w K mg base "is_number_below" 2 2 Zf)(_:MkX P w K mg base "NoWishes" 2)(_:Fun K "look_at_copies" "look_at_copies" F6 f fd),FnOk P w K mg base (CX1 P w) 4 f fd ["copies"] (spX K 1 RW))) /\
 ((∀{P w K mg base f fd}(T:Txt K mg)(_:ZK P w K mg base "look_at_lists" 5 2 RV)(_:ZK P w K mg base "look_at_copies" 4 1 RW)(_:MkX P w K mg base "NoWishes" 2)(_:Fun K "look_at_wishes" "look_at_wishes" F4 f fd),FnOk P w K mg base (CX1 P w) 6 f fd ["thing"] (spX K 1 X8)) /\
 (∀{P w K mg base f fd}(T:Txt K mg)(_:ZK P w K mg base "look_at_wishes" 6 1 X8)(_:Fun K "claim_of" "claim_of" Fj f fd),FnOk P w K mg base (CX1 P w) 7 f fd ["wishes", "paper"] (spX K 2 SJ)) /\
 (∀{P w K mg base f fd}(T:Txt K mg)(_:Def P w K mg base "is_whole" 1 1 YA)(_:Fun K "is_number" "is_number" Sab f fd),FnOk P w K mg base CX0 2 f fd ["thing"] (spD K 1 Wo)) /\
 (∀{P w K mg base f fd}(T:Txt K mg)(_:Def P w K mg base "is_number" 2 1 Wo)(_:Fun K "are_numbers" "are_numbers" Sac f fd),FnOk P w K mg base CX0 3 f fd ["things", "many"] (spD K 2 Vx)) /\
 (∀{P w K mg base f fd}(T:Txt K mg)(_:Def P w K mg base "are_numbers" 3 2 Vx)(_:Fun K "is_number_list" "is_number_list" Saw f fd),FnOk P w K mg base CX0 4 f fd ["thing", "many"] (spD K 2 Xg)) /\
 (∀{P w K mg base f fd}(T:Txt K mg)(_:Def P w K mg base "is_number_list" 4 2 Xg)(_:Def P w K mg base "is_whole" 1 1 YA)(_:Fun K "has_paper_form" "has_paper_form" Sax f fd),FnOk P w K mg base CX0 5 f fd ["wishes", "thing"] (spD K 2 Wk)) /\
 (∀{P w K mg base f fd}(T:Txt K mg)(_:Def P w K mg base "is_asker_list" 4 2 Xj)(_:Fun K "look_at_lists" "look_at_lists" Sah f fd),FnOk P w K mg base CX0 5 f fd ["lists", "things"] (spD K 2 Wm)) /\
 (∀{P w K mg base f fd}(T:Txt K mg)(_:Def P w K mg base "is_number_below" 2 2 Zf)(_:Fun K "look_at_copies" "look_at_copies" Sae f fd),FnOk P w K mg base CX0 3 f fd ["copies"] (spD K 1 Wn))) /\
 ((∀{P w K mg base f fd}(T:Txt K mg)(_:Def P w K mg base "look_at_lists" 5 2 Wm)(_:Def P w K mg base "look_at_copies" 3 1 Wn)(_:Fun K "look_at_wishes" "look_at_wishes" Sai f fd),FnOk P w K mg base CX0 6 f fd ["thing"] (spD K 1 YV)) /\
 (∀{P w K mg base f fd}(T:Txt K mg)(_:Def P w K mg base "look_at_wishes" 6 1 YV)(_:Fun K "all_wishes" "all_wishes" Sal f fd),FnOk P w K mg base CX0 7 f fd ["wishes"] (spD K 1 Wl)) /\
 (∀{P w K mg base f fd}(T:Txt K mg)(_:Fun K "power" "power" Sar f fd),FnOk P w K mg base CX0 1 f fd ["base", "times"] (spD K 2 Zu)) /\
 (∀{P w K mg base f fd}(T:Txt K mg)(_:Def P w K mg base "power" 1 2 Zu)(_:Fun K "worth_by_turns" "worth_by_turns" Sat f fd),FnOk P w K mg base CX0 2 f fd ["turns", "base", "asker", "rank"] (spD K 4 Vu)) /\
 (∀{P w K mg base f fd}(T:Txt K mg)(_:Def P w K mg base "power" 1 2 Zu)(_:Fun K "worth_by_order" "worth_by_order" Sas f fd),FnOk P w K mg base CX0 2 f fd ["order", "base", "most", "rank"] (spD K 4 Vv)) /\
 (∀{P w K mg base f fd}(T:Txt K mg)(_:Fun K "rank_in" "rank_in" Saj f fd),FnOk P w K mg base CX0 1 f fd ["ranks", "thing"] (spD K 2 Vw)) /\
 (∀{P w K mg base f fd}(T:Txt K mg)(_:Def P w K mg base "power" 1 2 Zu)(_:Def P w K mg base "worth_by_turns" 2 4 Vu)(_:Def P w K mg base "worth_by_order" 2 4 Vv)(_:Def P w K mg base "rank_in" 1 2 Vw)(_:Fun K "worth_by_aim" "worth_by_aim" Sau f fd),FnOk P w K mg base CX0 3 f fd ["wishes", "aim", "most", "asker", "thing"] (spD K 5 XE)) /\
 (∀{P w K mg base f fd}(T:Txt K mg)(_:ZK P w K mg base "look_at_wishes" 6 1 X8)(_:Fun K "longest" "longest" GI f fd),FnOk P w K mg base (CX1 P w) 7 f fd ["wishes"] (spX K 1 P7))) /\
 ((∀{P w K mg base f fd}(T:Txt K mg)(_:Def P w K mg base "is_number_below" 2 2 Zf)(_:Fun K "is_turns" "is_turns" Sap f fd),FnOk P w K mg base CX0 3 f fd ["thing", "askers"] (spD K 2 Xh)) /\
 (∀{P w K mg base f fd}(T:Txt K mg)(_:Def P w K mg base "is_number_below" 2 2 Zf)(_:Fun K "is_old" "is_old" Sao f fd),FnOk P w K mg base CX0 3 f fd ["thing", "askers", "things"] (spD K 3 Xi)) /\
 (∀{P w K mg base f fd}(T:Txt K mg)(_:Fun K "is_order" "is_order" Sam f fd),FnOk P w K mg base CX0 1 f fd ["thing"] (spD K 1 XF)) /\
 (∀{P w K mg base f fd}(T:Txt K mg)(_:Def P w K mg base "is_order" 1 1 XF)(_:MkX P w K mg base "NoAim" 2)(_:Fun K "look_at_order" "look_at_order" FP f fd),FnOk P w K mg base (CX1 P w) 4 f fd ["thing"] (spX K 1 SR)) /\
 (∀{P w K mg base f fd}(T:Txt K mg)(_:Def P w K mg base "is_turns" 3 2 Xh)(_:Def P w K mg base "is_old" 3 3 Xi)(_:ZK P w K mg base "look_at_order" 4 1 SR)(_:ZK P w K mg base "look_at_wishes" 6 1 X8)(_:MkX P w K mg base "NoAim" 2)(_:Fun K "look_at_aim" "look_at_aim" FY f fd),FnOk P w K mg base (CX1 P w) 7 f fd ["wishes", "thing"] (spX K 2 WD)) /\
 (∀{P w K mg base f fd}(T:Txt K mg)(_:Def P w K mg base "all_wishes" 7 1 Wl)(_:Def P w K mg base "worth_by_aim" 3 5 XE)(_:ZK P w K mg base "longest" 7 1 P7)(_:ZK P w K mg base "look_at_aim" 7 2 WD)(_:Fun K "all_worths" "all_worths" Fx f fd),FnOk P w K mg base (CX1 P w) 8 f fd ["wishes", "aim"] (spX K 2 RY)) /\
 (∀{P w K mg base f fd}(T:Txt K mg)(_:Def P w K mg base "has_paper_form" 5 2 Wk)(_:ZK P w K mg base "all_worths" 8 2 RY)(_:Fun K "lets_paper" "lets_paper" Fu f fd),FnOk P w K mg base (CX1 P w) 9 f fd ["wishes", "aim", "thing"] (spX K 3 SS)) /\
 (∀{P w K mg base f fd}(T:Txt K mg)(_:ZK P w K mg base "claim_of" 7 2 SJ)(_:ZK P w K mg base "lets_paper" 9 3 SS)(_:Fun K "_law_ask" "_law_ask" Ff f fd),FnOk P w K mg base (CX1 P w) 10 f fd ["_law_way", "_law_wishes_here", "_law_aim_here", "_law_paper_here"] (spX K 4 XV))) /\
 ((∀{P w K mg base f fd}(T:Txt K mg)(_:ZK P w K mg base "_law_ask" 10 4 XV)(_:Fun K "_law_told" "_law_told" Sbu f fd),FnOk P w K mg base CX0 11 f fd ["_law_way", "_law_wishes_here", "_law_aim_here", "_law_paper_here"] (spD K 4 ZT)) /\
 (∀{P w K mg base f fd}(T:Txt K mg)(_:ZK P w K mg base "_law_ask" 10 4 XV)(_:Fun K "_law_by_base" "_law_by_base" Sbv f fd),FnOk P w K mg base CX0 11 f fd ["_law_way", "_law_wishes_here", "_law_aim_here", "_law_paper_here"] (spD K 4 Vi)) /\
 (∀{P w K mg base f fd}(T:Txt K mg)(_:Fun K "_law_number_below" "_law_number_below" Sbr f fd),FnOk P w K mg base CX0 1 f fd ["_law_thing", "_law_most"] (spD K 2 ZJ)) /\
 (∀{P w K mg base f fd}(T:Txt K mg)(_:Def P w K mg base "_law_number_below" 1 2 ZJ)(_:Fun K "_law_ranked" "_law_ranked" Sbw f fd),FnOk P w K mg base CX0 2 f fd ["_law_ranks", "_law_many"] (spD K 2 Vh)) /\
 (∀{P w K mg base f fd}(T:Txt K mg)(_:Def P w K mg base "_law_ranked" 2 2 Vh)(_:Def P w K mg base "_law_number_below" 1 2 ZJ)(_:Fun K "_law_fault" "_law_fault" Sbx f fd),FnOk P w K mg base CX0 3 f fd ["_law_thing"] (spD K 1 Vg)) /\
 (∀{P w K mg base f fd}(T:Txt K mg)(_:Fun K "_law_numbers" "_law_numbers" Sbb f fd),FnOk P w K mg base CX0 1 f fd ["_law_cell", "_law_salt", "_law_sizes"] (spD K 3 Zt)) /\
 (∀{P w K mg base f fd}(T:Txt K mg)(_:Fun K "_law_copy" "_law_copy" FL f fd),FnOk P w K mg base CX0 1 f fd ["_law_wishes_here"] (spT K 1 (PLL) Oc)) /\
 (∀{P w K mg base f fd}(T:Txt K mg)(_:Def P w K mg base "_law_numbers" 1 3 Zt)(_:Sm P w K mg base "_law_copy" 1 1 (PLL) Oc)(_:Fun K "_law_bad_wishes" "_law_bad_wishes" Sbj f fd),FnOk P w K mg base CX0 2 f fd ["_law_wishes_here", "_law_cell", "_law_salt"] (spD K 3 Vo))) /\
 ((∀{P w K mg base f fd}(T:Txt K mg)(_:Def P w K mg base "_law_number_below" 1 2 ZJ)(_:Fun K "_law_part" "_law_part" Sbs f fd),FnOk P w K mg base CX0 2 f fd ["_law_wishes_here", "_law_thing"] (spD K 2 Vj)) /\
 (∀{P w K mg base f fd}(T:Txt K mg)(_:Fun K "_law_odd_turns" "_law_odd_turns" Sbp f fd),FnOk P w K mg base CX0 1 f fd ["_law_askers", "_law_turns", "_law_way", "_law_place", "_law_odd"] (spD K 5 Wh)) /\
 (∀{P w K mg base f fd}(T:Txt K mg)(_:Fun K "_law_odd_old" "_law_odd_old" Sbo f fd),FnOk P w K mg base CX0 1 f fd ["_law_wishes_here", "_law_old", "_law_way", "_law_place", "_law_odd"] (spD K 5 XB)) /\
 (∀{P w K mg base f fd}(T:Txt K mg)(_:Def P w K mg base "_law_odd_turns" 1 5 Wh)(_:Def P w K mg base "_law_odd_old" 1 5 XB)(_:Def P w K mg base "_law_numbers" 1 3 Zt)(_:Fun K "_law_odd_aim" "_law_odd_aim" Sbq f fd),FnOk P w K mg base CX0 2 f fd ["_law_wishes_here", "_law_aim_here", "_law_cell", "_law_salt"] (spD K 4 Vk)) /\
 (∀{P w K mg base f fd}(T:Txt K mg)(_:Fun K "_law_wished" "_law_wished" Sbf f fd),FnOk P w K mg base CX0 1 f fd ["_law_wishes_here", "_law_asker"] (spD K 2 Vq)) /\
 (∀{P w K mg base f fd}(T:Txt K mg)(_:Def P w K mg base "_law_wished" 1 2 Vq)(_:Fun K "_law_wishes_of" "_law_wishes_of" Sbk f fd),FnOk P w K mg base CX0 2 f fd ["_law_wishes_here"] (spD K 1 Wi)) /\
 (∀{P w K mg base f fd}(T:Txt K mg)(_:Fun K "_law_rank" "_law_rank" Sbd f fd),FnOk P w K mg base CX0 1 f fd ["_law_wishes_here", "_law_asker", "_law_thing"] (spD K 3 Vs)) /\
 (∀{P w K mg base f fd}(T:Txt K mg)(_:Fun K "_law_longest" "_law_longest" Sbe f fd),FnOk P w K mg base CX0 1 f fd ["_law_wishes_here"] (spD K 1 Vr))) /\
 ((∀{P w K mg base f fd}(T:Txt K mg)(_:Def P w K mg base "_law_rank" 1 3 Vs)(_:Def P w K mg base "_law_longest" 1 1 Vr)(_:Fun K "_law_worth" "_law_worth" Sbh f fd),FnOk P w K mg base CX0 2 f fd ["_law_wishes_here", "_law_aim_here", "_law_asker", "_law_thing"] (spD K 4 Wj)) /\
 (∀{P w K mg base f fd}(T:Txt K mg)(_:Def P w K mg base "_law_numbers" 1 3 Zt)(_:Fun K "_law_paper" "_law_paper" Sbn f fd),FnOk P w K mg base CX0 2 f fd ["_law_wishes_here", "_law_worths_here", "_law_cell", "_law_salt", "_law_lower"] (spD K 5 Vl)) /\
 (∀{P w K mg base f fd}(T:Txt K mg)(_:Def P w K mg base "_law_numbers" 1 3 Zt)(_:Fun K "_law_aim" "_law_aim" Sbg f fd),FnOk P w K mg base CX0 2 f fd ["_law_wishes_here", "_law_cell", "_law_salt"] (spD K 3 Vp)) /\
 (∀{P w K mg base f fd}(T:Txt K mg)(_:Def P w K mg base "_law_numbers" 1 3 Zt)(_:Def P w K mg base "_law_cell_at" 1 2 Yz)(_:Fun K "_law_wishes" "_law_wishes" Sbc f fd),FnOk P w K mg base CX0 2 f fd ["_law_script", "_law_at", "_law_most_things", "_law_most_askers", "_law_most_ranks"] (spD K 5 Vt)) /\
 (∀{P w K mg base f fd}(T:Txt K mg)(_:Def P w K mg base "_law_claim" 1 2 Vm)(_:Def P w K mg base "_law_cell_at" 1 2 Yz)(_:Def P w K mg base "_law_told" 11 4 ZT)(_:Def P w K mg base "_law_by_base" 11 4 Vi)(_:Def P w K mg base "_law_fault" 3 1 Vg)(_:Def P w K mg base "_law_bad_wishes" 2 3 Vo)(_:Def P w K mg base "_law_part" 2 2 Vj)(_:Def P w K mg base "_law_odd_aim" 2 4 Vk)(_:Def P w K mg base "_law_numbers" 1 3 Zt)(_:Def P w K mg base "_law_worths" 3 2 Vn)(_:Def P w K mg base "_law_paper" 2 5 Vl)(_:Def P w K mg base "_law_aim" 2 3 Vp)(_:Def P w K mg base "_law_wishes" 2 5 Vt)(_:Fun K "law" "law" Sby f fd),FnOk P w K mg base CX0 12 f fd ["_law_script"] (spD K 1 Vf))):=by
 refine⟨⟨λT F=>okD (k:=0) (g:=g_bm) F (fq Hbm 2) yK λcdv A outer s H E B G0 hr=>have nm:=Hbm;?_,
 λT F=>okD (k:=0) (g:=g_ba) F (fq Hba 2) yK λcdv A outer s H E B G0 hr=>have nm:=Hba;?_,
 λT F=>okD (k:=0) (g:=g_aa) F (fq Haa 1) yK λcdv A outer s H E B G0 hr=>have nm:=Haa;?_,
 λT _ F=>okD (k:=1) (g:=g_ad) F (fq Had 2) yK λcdv A outer s H E B G0 hr=>have nm:=Had;?_,
 λT _ F=>okD (k:=2) (g:=T4) F (fq Haf 2) yK λcdv A outer s H E B G0 hr=>have nm:=Haf;?_,
 λT _ F=>okD (k:=3) (g:=Vc) F (fq Hag 2) yK λcdv A outer s H E B G0 hr=>have nm:=Hag;?_,
 λT _ _ F=>okX (k:=4) (g:=NR) F (fq F7 2) yK λcdv A outer s H E B G0 hr=>have nm:=F7;?_,
 λT _ _ F=>okX (k:=3) (g:=NV) F (fq F9 1) yK λcdv A outer s H E B G0 hr=>have nm:=F9;?_⟩,
 ⟨λT _ _ _ F=>okX (k:=5) (g:=NS) F (fq F8 1) yK λcdv A outer s H E B G0 hr=>have nm:=F8;?_,
 λT _ F=>okX (k:=6) (g:=Fh) F (fq FC 2) yK λcdv A outer s H E B G0 hr=>have nm:=FC;?_,
 λT _ F=>okD (k:=1) (g:=g_ab) F (fq Hab 1) yK λcdv A outer s H E B G0 hr=>have nm:=Hab;?_,
 λT _ F=>okD (k:=2) (g:=g_ac) F (fq Hac 2) yK λcdv A outer s H E B G0 hr=>have nm:=Hac;?_,
 λT _ F=>okD (k:=3) (g:=g_aw) F (fq Haw 2) yK λcdv A outer s H E B G0 hr=>have nm:=Haw;?_,
 λT _ _ F=>okD (k:=4) (g:=TW) F (fq Hax 2) yK λcdv A outer s H E B G0 hr=>have nm:=Hax;?_,
 λT _ F=>okD (k:=4) (g:=T3) F (fq Hah 2) yK λcdv A outer s H E B G0 hr=>have nm:=Hah;?_,
 λT _ F=>okD (k:=2) (g:=T5) F (fq Hae 1) yK λcdv A outer s H E B G0 hr=>have nm:=Hae;?_⟩,
 ⟨λT _ _ F=>okD (k:=5) (g:=g_ai) F (fq Hai 1) yK λcdv A outer s H E B G0 hr=>have nm:=Hai;?_,
 λT _ F=>okD (k:=6) (g:=T2) F (fq Hal 1) yK λcdv A outer s H E B G0 hr=>have nm:=Hal;?_,
 λT F=>okD (k:=0) (g:=g_ar) F (fq Har 2) yK λcdv A outer s H E B G0 hr=>have nm:=Har;?_,
 λT _ F=>okD (k:=1) (g:=TY) F (fq Hat 4) yK λcdv A outer s H E B G0 hr=>have nm:=Hat;?_,
 λT _ F=>okD (k:=1) (g:=TZ) F (fq Has 4) yK λcdv A outer s H E B G0 hr=>have nm:=Has;?_,
 λT F=>okD (k:=0) (g:=g_aj) F (fq Haj 2) yK λcdv A outer s H E B G0 hr=>have nm:=Haj;?_,
 λT _ _ _ _ F=>okD (k:=2) (g:=TX) F (fq Hau 5) yK λcdv A outer s H E B G0 hr=>have nm:=Hau;?_,
 λT _ F=>okX (k:=6) (g:=GF) F (fq Fg 1) yK λcdv A outer s H E B G0 hr=>have nm:=Fg;?_⟩,
 ⟨λT _ F=>okD (k:=2) (g:=Va) F (fq Hap 2) yK λcdv A outer s H E B G0 hr=>have nm:=Hap;?_,
 λT _ F=>okD (k:=2) (g:=Vb) F (fq Hao 3) yK λcdv A outer s H E B G0 hr=>have nm:=Hao;?_,
 λT F=>okD (k:=0) (g:=g_am) F (fq Ham 1) yK λcdv A outer s H E B G0 hr=>have nm:=Ham;?_,
 λT _ _ F=>okX (k:=3) (g:=FN) F (fq Ea 1) yK λcdv A outer s H E B G0 hr=>have nm:=Ea;?_,
 λT _ _ _ _ _ F=>okX (k:=6) (g:=NT) F (fq FM 2) yK λcdv A outer s H E B G0 hr=>have nm:=FM;?_,
 λT _ _ _ _ F=>okX (k:=7) (g:=Fv) F (fq FV 2) yK λcdv A outer s H E B G0 hr=>have nm:=FV;?_,
 λT _ _ F=>okX (k:=8) (g:=Fs) F (fq FT 3) yK λcdv A outer s H E B G0 hr=>have nm:=FT;?_,
 λT _ _ F=>okX (k:=9) (g:=Fd) F (fq FA 4) yK λcdv A outer s H E B G0 hr=>have nm:=FA;?_⟩,
 ⟨λT _ F=>okD (k:=10) (g:=g_bu) F (fq Hbu 4) yK λcdv A outer s H E B G0 hr=>have nm:=Hbu;?_,
 λT _ F=>okD (k:=10) (g:=g_bv) F (fq Hbv 4) yK λcdv A outer s H E B G0 hr=>have nm:=Hbv;?_,
 λT F=>okD (k:=0) (g:=g_br) F (fq Hbr 2) yK λcdv A outer s H E B G0 hr=>have nm:=Hbr;?_,
 λT _ F=>okD (k:=1) (g:=TD) F (fq Hbw 2) yK λcdv A outer s H E B G0 hr=>have nm:=Hbw;?_,
 λT _ _ F=>okD (k:=2) (g:=TC) F (fq Hbx 1) yK λcdv A outer s H E B G0 hr=>have nm:=Hbx;?_,
 λT F=>okD (k:=0) (g:=g_bb) F (fq Hbb 3) yK λcdv A outer s H E B G0 hr=>have nm:=Hbb;?_,
 λT F=>okT (k:=0) (g:=Od) F (fq Fq 1) yK λcdv A outer s H E B G0 hr=>have nm:=Fq;?_,
 λT _ _ F=>okD (k:=1) (g:=TQ) F (fq Hbj 3) yK λcdv A outer s H E B G0 hr=>have nm:=Hbj;?_⟩,
 ⟨λT _ F=>okD (k:=1) (g:=TF) F (fq Hbs 2) yK λcdv A outer s H E B G0 hr=>have nm:=Hbs;?_,
 λT F=>okD (k:=0) (g:=TJ) F (fq Hbp 5) yK λcdv A outer s H E B G0 hr=>have nm:=Hbp;?_,
 λT F=>okD (k:=0) (g:=TK) F (fq Hbo 5) yK λcdv A outer s H E B G0 hr=>have nm:=Hbo;?_,
 λT _ _ _ F=>okD (k:=1) (g:=TH) F (fq Hbq 4) yK λcdv A outer s H E B G0 hr=>have nm:=Hbq;?_,
 λT F=>okD (k:=0) (g:=g_bf) F (fq Hbf 2) yK λcdv A outer s H E B G0 hr=>have nm:=Hbf;?_,
 λT _ F=>okD (k:=1) (g:=TN) F (fq Hbk 1) yK λcdv A outer s H E B G0 hr=>have nm:=Hbk;?_,
 λT F=>okD (k:=0) (g:=g_bd) F (fq Hbd 3) yK λcdv A outer s H E B G0 hr=>have nm:=Hbd;?_,
 λT F=>okD (k:=0) (g:=g_be) F (fq Hbe 1) yK λcdv A outer s H E B G0 hr=>have nm:=Hbe;?_⟩,
 ⟨λT _ _ F=>okD (k:=1) (g:=TR) F (fq Hbh 4) yK λcdv A outer s H E B G0 hr=>have nm:=Hbh;?_,
 λT _ F=>okD (k:=1) (g:=TL) F (fq Hbn 5) yK λcdv A outer s H E B G0 hr=>have nm:=Hbn;?_,
 λT _ F=>okD (k:=1) (g:=TU) F (fq Hbg 3) yK λcdv A outer s H E B G0 hr=>have nm:=Hbg;?_,
 λT _ _ F=>okD (k:=1) (g:=TV) F (fq Hbc 5) yK λcdv A outer s H E B G0 hr=>have nm:=Hbc;?_,
 λT _ _ _ _ _ _ _ _ _ _ _ _ _ F=>okD (k:=11) (g:=TB) F (fq Hby 1) yK λcdv A outer s H E B G0 hr=>have nm:=Hby;?_⟩⟩<;>(have hu:=hr.units;have hgd:=hr.gd;repeat' (first|((with_reducible show PSs _ (Yc _) _);show PSs _ (_::_) _)|((with_reducible show PSs _ (Stmt.Assign _ _ _::_::_) _);generalize hS:(_::_:List Stmt)=sts;refine qF hS ?_ ?_)|((with_reducible show PS _ (Stmt.Assign [Expr.Name _ _] (Expr.List _ _) _) (tS _ _ _ _ (K1 _ _)));generalize hS:Stmt.Assign _ _ _=st;refine E5 hS nm ?_)|((with_reducible show PS _ (Stmt.Assign [Expr.Name _ _] (Expr.BinOp _ _ _ _) _) (tS _ _ _ _ (U2 _ _)));generalize hS:Stmt.Assign _ _ _=st;refine EL hS nm ?_)|((with_reducible show PE _ (Expr.List _ _) _);generalize hS:Expr.List _ _=e;first|refine qE hS ?_|refine qD hS ?_)|((with_reducible show PE _ (Expr.Tuple _ _ _) _);generalize hS:Expr.Tuple _ _ _=e;refine qC hS ?_)|((with_reducible show PE _ (Expr.BinOp _ Operator.Add _ _) (tD _ _ _ _));generalize hS:Expr.BinOp _ _ _ _=e;refine MB N6 hS ?_ ?_)|((with_reducible show PE _ (Expr.BinOp _ Operator.Mult _ _) (tD _ _ _ _));generalize hS:Expr.BinOp _ _ _ _=e;refine MB N5 hS ?_ ?_)|((with_reducible show PA _ (_::_) (tDs _ _ _ _));generalize hS:(_::_:yS)=es;refine xQ hS ?_ ?_)|((with_reducible show PE _ _ (tD _ _ _ _));first|first|((with_reducible show PE _ (Expr.Name _ _) _);first|exact V8 (pq nm _)|exact V8 (pvb _)|exact En (by walk_at "g") (by walk_at "c")|exact Ek (by walk_at "g") (by walk_at "c"))|((with_reducible show PE _ (Expr.Constant _ _ _) _);first|exact D9|exact qe|exact D8|exact qf)|((with_reducible show PE _ (Expr.Subscript _ _ _) _);first|refine BY (by walk_at "v") ?_ (λ_ _=>rfl)|refine vP ?_ ?_ ?_|refine Av ?_ ?_ ?_ ?_|refine CG ?_ ?_ (λ_ _=>rfl)|refine AB hu ?_ ?_)|((with_reducible show PE _ (Expr.BinOp _ Operator.Add _ _) _);first|refine V2 N6 ?_ ?_)|((with_reducible show PE _ (Expr.BinOp _ Operator.Sub _ _) _);first|refine V2 EA ?_ ?_)|((with_reducible show PE _ (Expr.BinOp _ Operator.Mult _ _) _);first|refine V2 N5 ?_ ?_)|((with_reducible show PE _ (Expr.BinOp _ Operator.Mod _ _) _);first|refine V2 Ez ?_ ?_)|((with_reducible show PE _ (Expr.BinOp _ Operator.FloorDiv _ _) _);first|refine V2 Ey ?_ ?_)|((with_reducible show PE _ (Expr.BinOp _ Operator.Pow _ _) _);first|refine V2 Ex ?_ ?_)|((with_reducible show PE _ (Expr.Call (Expr.Name "len" _) _ _ _) _);first|refine jn (by walk_at "g") T.b_len (by walk_at "v")|refine Th Ew (by walk_at "g") T.b_len boot_len ?_|refine vO yK (by walk_at "g") T.b_len (by walk_at "g") T.b_set ?_)|((with_reducible show PE _ (Expr.Call (Expr.Name "max" _) _ _ _) _);first|refine Th (CF yK) (by walk_at "g") T.b_max boot_max ?_|refine Th (CQ yK) (by walk_at "g") T.b_max boot_max ?_)|((with_reducible show PE _ (Expr.Call (Expr.Name "sorted" _) _ _ _) _);first|refine Th CI (by walk_at "g") T.b_sorted PyProof.Rows.boot_sorted ?_)|((with_reducible show PE _ (Expr.Call (Expr.Name "sum" _) _ _ _) _);first|refine Th (CJ yK) (by walk_at "g") T.b_sum PyProof.Rows.boot_sum ?_|refine Th (CP yK) (by walk_at "g") T.b_sum PyProof.Rows.boot_sum ?_)|((with_reducible show PE _ (Expr.Call (Expr.Name "all" _) _ _ _) _);first|refine Th (Ep yK) (by walk_at "g") T.b_all PyProof.Rows.boot_all ?_)|((with_reducible show PE _ (Expr.Call (Expr.Name "int" _) _ _ _) _);first|refine Fn Ch (by walk_at "g") T.b_int PyProof.Rows.boot_int ?_)|((with_reducible show PE _ (Expr.Call (Expr.Name "tuple" _) _ _ _) _);first|refine Fn EV (by walk_at "g") T.b_tuple w6 ?_)|((with_reducible show PE _ (Expr.Call (Expr.Name "isinstance" _) [_,Expr.Name "int" _] _ _) _);first|refine RU (c:= "int") (by decide) (by walk_at "g") T.b_isinstance (by walk_at "g") T.b_int (by decide +kernel) ?_ (by decide) (by decide))|((with_reducible show PE _ (Expr.Call (Expr.Name "isinstance" _) [_,Expr.Name "list" _] _ _) _);first|refine RU (c:= "list") (by decide) (by walk_at "g") T.b_isinstance (by walk_at "g") T.b_list (by decide +kernel) ?_ (by decide) (by decide))|((with_reducible show PE _ (Expr.Call (Expr.Name "isinstance" _) [_,Expr.Name "tuple" _] _ _) _);first|refine RU (c:= "tuple") (by decide) (by walk_at "g") T.b_isinstance (by walk_at "g") T.b_tuple (by decide +kernel) ?_ (by decide) (by decide))|((with_reducible show PE _ (Expr.Call (Expr.Name "isinstance" _) [_,Expr.Name "bool" _] _ _) _);first|refine RU (c:= "bool") (by decide) (by walk_at "g") T.b_isinstance (by walk_at "g") T.b_bool (by decide +kernel) ?_ (by decide) (by decide))|((with_reducible show PE _ (Expr.Call (Expr.Name "isinstance" _) [_,Expr.Name "str" _] _ _) _);first|refine RU (c:= "str") (by decide) (by walk_at "g") T.b_isinstance (by walk_at "g") T.b_str (by decide +kernel) ?_ (by decide) (by decide))|((with_reducible show PE _ (Expr.Call (Expr.Name "isinstance" _) _ _ _) _);first|refine Af (by walk_at "g") T.b_isinstance (by walk_at "g") T.b_ValueError ?_)|((with_reducible show PE _ (Expr.Call (Expr.Name _ _) _ _ _) _);first|refine pdf (by assumption) hr (by walk_at "g") ?_)|((with_reducible show PE _ (Expr.Call _ _ _ _) _);first|refine xL ?_ ?_)|refine LX ?_|refine LY ?_|((with_reducible show PE _ (Expr.Compare _ _ _ _) _);first|refine BZ ?_|refine Aw (by walk_at "b") (by walk_at "v") ?_ (by walk_at "m")|refine A7 (by walk_at "b") ?_ ?_ (by walk_at "m")|refine vv (by walk_at "b") (by walk_at "b") ?_ ?_ ?_)|refine BK ?_|refine BP ?_|refine B2 ?_|refine B4 ?_ ?_|refine DX ?_ ?_|refine B3 ?_|refine vq ?_ ?_ ?_|refine jG ?_|refine ka ?_)|((with_reducible show PA _ _ (tDs _ _ _ _));first|refine Ti ?_ ?_|exact OQ)|((with_reducible show PSs _ _ (tS _ _ _ _ _));first|refine LW ?_ ?_|refine CC ?_|exact CD|exact sD_nevers)|((with_reducible show PS _ _ _);first|((with_reducible show PS _ (Stmt.Assign [Expr.Name _ _] _ _) _);first|refine aSet nm ?_|refine EM nm (by walk_at "k") yK ?_ ?_ (by decide +kernel)|refine NY nm ?_|refine EO nm ?_)|((with_reducible show PS _ (Stmt.Assign _ _ _) _);first|refine Cy ?_ ?_|refine BJ ?_ (by walk_at "v") ?_|refine E6 yK nm ?_)|refine Ev ?_ ?_ ?_|refine CB ?_|refine Cu (by walk_at "w") yK ?_ ?_ ?_|((with_reducible show PS _ (Stmt.Expr _ _) _);first|refine Cv (by walk_at "v") ?_|refine CL (by walk_at "v") ?_|refine jH ?_|refine Be (by walk_at "v") ?_|refine BU ?_)|refine aAug nm Aq ?_|refine Ai ?_|exact jl|refine jJ (by assumption) hr yK (by walk_at "x") (by walk_at "g") ?_|refine jQ _ (by walk_at "w") ?_ ?_|refine Bf (by walk_at "ck") (by walk_at "g") (by walk_at "ck") (by walk_at "g") (nq nm) yK yK (λKX' W pn hw=>?_) (λa=>?_) (λa=>?_)|refine Dk (by walk_at "ck") (by walk_at "g") (nq nm) yK yK (λKX' W pn hw=>?_) (λa=>?_))|((with_reducible show PT _ _ _);first|((with_reducible show PT _ (Expr.Compare _ _ _ _) _);first|refine B0 ?_|refine jq ?_|refine Ax (by walk_at "b") (by walk_at "v") ?_ (by walk_at "m")|refine Am (by walk_at "b") ?_ (by walk_at "v") (by walk_at "m")|refine A8 (by walk_at "b") ?_ ?_ (by walk_at "m")|refine vw (by walk_at "b") (by walk_at "b") ?_ ?_ ?_)|((with_reducible show PT _ (Expr.BoolOp _ _ _) _);refine PW.pt ?_)|refine B6 ?_|refine B5 ?_)|((with_reducible show PW _ _ _);first|refine B7 ?_ ?_|refine DY ?_ ?_|refine jr ?_|refine B8 ?_)|((with_reducible show PE _ _ (tL _ _ _ _));first|refine EN nm (by walk_at "k") yK ?_ ?_ (by decide +kernel)|refine xo (by walk_at "g") T.b_list (by walk_at "v")|refine jX (by walk_at "g") T.b_list ?_|refine LU ?_|refine Al ?_ ?_)|((with_reducible show PI _ _ _ _);first|refine vp (by walk_at "g") T.b_range ?_|refine vo (by walk_at "g") T.b_range ?_|refine BQ (by walk_at "g") T.b_enumerate ?_|refine jU (by walk_at "g") T.b_enumerate ?_|refine Cj (by walk_at "g") T.b_zip ?_|refine AC ?_|refine MG ?_)|((with_reducible show PG _ _ _);first|exact EQ nm|exact E7|refine Cz yK ?_)|((with_reducible show PGs _ _ _);first|exact CA|refine BS ?_ ?_)|((with_reducible show PO _ _ _);first|exact jp|refine jo ?_)|((with_reducible show YU _ _ _ _ _ _ _ _ _);refine λcl C s0 H0 ex=>⟨λB' G'=>?_,λB' G'=>?_,?_⟩)|((with_reducible show Xf _ _ _);first|exact BM|refine BL ?_)|((with_reducible show Rq _ _ _ _ _ _);first|refine vF yK yK yK λB' G'=>?_|refine vE yK yK yK yK (λ_=>rfl) (λB' G'=>?_) (λB' G'=>?_) (λB' G'=>?_) ?_)|((with_reducible show PE _ _ (tX _ _ _ _ _));refine jI (by assumption) hr (by walk_at "x") (by walk_at "g") ?_)|((with_reducible show PE _ _ (tT _ _ _ _ _));first|refine qJ (by assumption) hr (by walk_at "g") ?_|exact peT_nil|exact peT_dnil|refine peT_disp ?_)|((with_reducible show DPs _ _ _ _ _ _);first|exact AF|refine ke (λB'=>?_) (λB'=>?_) ?_)|((with_reducible show PSs _ _ (tST _ _ _ _ _ _));first|refine E9 (xx ?_ (by walk_at "v"))|refine Az ?_ ?_)))
def KL:recsOf q0=Tc p0 ixL:=by show recsOf (PySem.W.view PySem.Challenge.pw_wishdeal_k39_papers_refused XH)=Tc PySem.Challenge.pw_wishdeal_k39_papers_refused ixL;rw[PySem.W.Fast.te3399658132070893891,PySem.W.Fast.te5145009118067058506];kernel_rfl
def YI:(["ValueError", "all", "bool", "enumerate", "int", "isinstance", "len", "list", "max", "range", "set", "sorted", "str", "sum", "tuple", "zip"]:List Str).all (R5 q0 (PySem.W.looseW q0 []))=yM:=by show List.all _ (R5 (PySem.W.view PySem.Challenge.pw_wishdeal_k39_papers_refused XH) (PySem.W.looseW (PySem.W.view PySem.Challenge.pw_wishdeal_k39_papers_refused XH) []))=yM;k_qdec
def yJ:valOf q0 "MOST_ASKERS" = O (.int 7):=by show valOf (PySem.W.view PySem.Challenge.pw_wishdeal_k39_papers_refused XH) _=_;rw[Jw,PySem.W.Fast.te5145009118067058506];kernel_rfl
def yI:valOf q0 "MOST_COPIES" = O (.int 7):=by show valOf (PySem.W.view PySem.Challenge.pw_wishdeal_k39_papers_refused XH) _=_;rw[Jw,PySem.W.Fast.te5145009118067058506];kernel_rfl
def yC:valOf q0 "MOST_RANKS" = O (.int 5):=by show valOf (PySem.W.view PySem.Challenge.pw_wishdeal_k39_papers_refused XH) _=_;rw[Jw,PySem.W.Fast.te5145009118067058506];kernel_rfl
def yH:valOf q0 "MOST_THINGS" = O (.int 6):=by show valOf (PySem.W.view PySem.Challenge.pw_wishdeal_k39_papers_refused XH) _=_;rw[Jw,PySem.W.Fast.te5145009118067058506];kernel_rfl
def kC:tupStrsOf q0 "ORDERS" = O (["firsts", "full", "lasts"]:List Str):=by show tupStrsOf (PySem.W.view PySem.Challenge.pw_wishdeal_k39_papers_refused XH) _=_;rw[PySem.W.Fast.te14491516231548247274,PySem.W.Fast.te5145009118067058506];kernel_rfl
def E4{l:PySem.W.OpenLaw}{w:World}{s0:Uk}{mg mb:Str->yT}{fa:Um}{h:Heap}{XP:(Str->yT)->Heap->Prop}(G:PySem.W.Ground q0 [] [] XP w s0 mg mb h)(Y:XYP p0 clsL h)(hfa:mg "law" = O (.ref fa)) :
  ∃fd:Uo,(∀(s:Uk)(v:Uj),BindsTo s fd ⟨[v],[]⟩ [("_law_script", v)])/\∀base:Heap,FnOk l.prog w (whole h) mg base CX0 12 fa fd ["_law_script"] (spD (whole h) 1 Vf):=by
 obtain⟨D0,f0,aS,R⟩:=Aa (i:=6) G.T.g Y (mq 0 yK) (YN G.T YI (mq 0 yK)) (KG (by decide +kernel)) yK (λ_=>⟨_,rfl⟩) (λ_ _ _ _ _ _ us hl=>bz2 (us:=us) hl λ_ _=>rfl);have T:Txt (whole h) mg:=⟨YN G.T YI (mq 0 yK),YN G.T YI (mq 1 yK),YN G.T YI (mq 2 yK),YN G.T YI (mq 3 yK),YN G.T YI (mq 4 yK),YN G.T YI (mq 5 yK),YN G.T YI (mq 6 yK),YN G.T YI (mq 7 yK),YN G.T YI (mq 8 yK),YN G.T YI (mq 9 yK),YN G.T YI (mq 10 yK),YN G.T YI (mq 11 yK),YN G.T YI (mq 12 yK),YN G.T YI (mq 13 yK),YN G.T YI (mq 14 yK),YN G.T YI (mq 15 yK),PR G.T yJ,PR G.T yI,PR G.T yC,PR G.T yH,xE G.B kC (by decide),Oi (c:=("DealError", O 6)) G.T.g Y R (mq 0 yK),Oi (c:=("NoAim", O 8)) G.T.g Y R (mq 2 yK),Oi (c:=("NoWishes", O 7)) G.T.g Y R (mq 1 yK)⟩
 refine Ed G.T KL 66 "law" rfl yK hfa (λ_ _ _ _ _ _ _=>rfl) λbase=>?_
 have y8:=MD (nm:= "NoWishes") (j:=7) (ps:=["self", "part", "number"]) G.T.g Y R (mq 1 yK) (by decide) l.prog w base (λ_ _ _ _ _ _ us hl=>bz3 (us:=us) hl λ_ _ _=>rfl) (λFU=>Ad R.cf (R.ok l.prog w base) R.bd R.at' FU (KG (by decide +kernel)) yK (λ_=>⟨_,rfl⟩) (by decide) (by decide));have zQ:=MD (nm:= "NoAim") (j:=8) (ps:=["self", "part"]) G.T.g Y R (mq 2 yK) (by decide) l.prog w base (λ_ _ _ _ _ _ us hl=>bz2 (us:=us) hl λ_ _=>rfl) (λFU=>Ac R.cf (R.ok l.prog w base) R.bd R.at' FU (KG (by decide +kernel)) (by decide) (by decide) (by decide) yK (λ_=>⟨_,rfl⟩) (by decide));have d_bm:=K5 l.prog w base G.T KL 54 "_law_claim" rfl yK (λF=>oks.1.1 T  F) λ_ _ _ _ _ _ us hl=>bz2 (us:=us) hl λ_ _=>rfl
 have bE:=K5 l.prog w base G.T KL 42 "_law_cell_at" rfl yK (λF=>oks.1.2.1 T  F) λ_ _ _ _ _ _ us hl=>bz2 (us:=us) hl λ_ _=>rfl
 have aL:=K5 l.prog w base G.T KL 1 "is_whole" rfl yK (λF=>oks.1.2.2.1 T  F) λ_ _ _ _ _ _ us hl=>bz1 (us:=us) hl λ_=>rfl
 have aj:=K5 l.prog w base G.T KL 4 "is_number_below" rfl yK (λF=>oks.1.2.2.2.1 T aL F) λ_ _ _ _ _ _ us hl=>bz2 (us:=us) hl λ_ _=>rfl
 have d_af:=K5 l.prog w base G.T KL 15 "is_rank" rfl yK (λF=>oks.1.2.2.2.2.1 T aj F) λ_ _ _ _ _ _ us hl=>bz2 (us:=us) hl λ_ _=>rfl
 have bF:=K5 l.prog w base G.T KL 16 "is_asker_list" rfl yK (λF=>oks.1.2.2.2.2.2.1 T d_af F) λ_ _ _ _ _ _ us hl=>bz2 (us:=us) hl λ_ _=>rfl
 have zk:=Wv l.prog w base G.T KL 17 "look_at_lists" rfl yK (λF=>oks.1.2.2.2.2.2.2.1 T bF y8 F) λ_ _ _ _ _ _ us hl=>bz2 (us:=us) hl λ_ _=>rfl
 have za:=Wv l.prog w base G.T KL 14 "look_at_copies" rfl yK (λF=>oks.1.2.2.2.2.2.2.2 T aj y8 F) λ_ _ _ _ _ _ us hl=>bz1 (us:=us) hl λ_=>rfl
 have y6:=Wv l.prog w base G.T KL 18 "look_at_wishes" rfl yK (λF=>oks.2.1.1 T zk za y8 F) λ_ _ _ _ _ _ us hl=>bz1 (us:=us) hl λ_=>rfl
 have zH:=Wv l.prog w base G.T KL 40 "claim_of" rfl yK (λF=>oks.2.1.2.1 T y6 F) λ_ _ _ _ _ _ us hl=>bz2 (us:=us) hl λ_ _=>rfl
 have d_ab:=K5 l.prog w base G.T KL 2 "is_number" rfl yK (λF=>oks.2.1.2.2.1 T aL F) λ_ _ _ _ _ _ us hl=>bz1 (us:=us) hl λ_=>rfl
 have d_ac:=K5 l.prog w base G.T KL 3 "are_numbers" rfl yK (λF=>oks.2.1.2.2.2.1 T d_ab F) λ_ _ _ _ _ _ us hl=>bz2 (us:=us) hl λ_ _=>rfl
 have d_aw:=K5 l.prog w base G.T KL 37 "is_number_list" rfl yK (λF=>oks.2.1.2.2.2.2.1 T d_ac F) λ_ _ _ _ _ _ us hl=>bz2 (us:=us) hl λ_ _=>rfl
 have d_ax:=K5 l.prog w base G.T KL 38 "has_paper_form" rfl yK (λF=>oks.2.1.2.2.2.2.2.1 T d_aw aL F) λ_ _ _ _ _ _ us hl=>bz2 (us:=us) hl λ_ _=>rfl
 have d_ah:=K5 l.prog w base G.T KL 17 "look_at_lists" rfl yK (λF=>oks.2.1.2.2.2.2.2.2.1 T bF F) λ_ _ _ _ _ _ us hl=>bz2 (us:=us) hl λ_ _=>rfl
 have d_ae:=K5 l.prog w base G.T KL 14 "look_at_copies" rfl yK (λF=>oks.2.1.2.2.2.2.2.2.2 T aj F) λ_ _ _ _ _ _ us hl=>bz1 (us:=us) hl λ_=>rfl
 have d_ai:=K5 l.prog w base G.T KL 18 "look_at_wishes" rfl yK (λF=>oks.2.2.1.1 T d_ah d_ae F) λ_ _ _ _ _ _ us hl=>bz1 (us:=us) hl λ_=>rfl
 have d_al:=K5 l.prog w base G.T KL 21 "all_wishes" rfl yK (λF=>oks.2.2.1.2.1 T d_ai F) λ_ _ _ _ _ _ us hl=>bz1 (us:=us) hl λ_=>rfl
 have aK:=K5 l.prog w base G.T KL 31 "power" rfl yK (λF=>oks.2.2.1.2.2.1 T  F) λ_ _ _ _ _ _ us hl=>bz2 (us:=us) hl λ_ _=>rfl
 have d_at:=K5 l.prog w base G.T KL 33 "worth_by_turns" rfl yK (λF=>oks.2.2.1.2.2.2.1 T aK F) λ_ _ _ _ _ _ us hl=>bz4 (us:=us) hl λ_ _ _ _=>rfl
 have d_as:=K5 l.prog w base G.T KL 32 "worth_by_order" rfl yK (λF=>oks.2.2.1.2.2.2.2.1 T aK F) λ_ _ _ _ _ _ us hl=>bz4 (us:=us) hl λ_ _ _ _=>rfl
 have d_aj:=K5 l.prog w base G.T KL 19 "rank_in" rfl yK (λF=>oks.2.2.1.2.2.2.2.2.1 T  F) λ_ _ _ _ _ _ us hl=>bz2 (us:=us) hl λ_ _=>rfl
 have d_au:=K5 l.prog w base G.T KL 34 "worth_by_aim" rfl yK (λF=>oks.2.2.1.2.2.2.2.2.2.1 T aK d_at d_as d_aj F) λ_ _ _ _ _ _ us hl=>bz5 (us:=us) hl λ_ _ _ _ _=>rfl
 have zO:=Wv l.prog w base G.T KL 20 "longest" rfl yK (λF=>oks.2.2.1.2.2.2.2.2.2.2 T y6 F) λ_ _ _ _ _ _ us hl=>bz1 (us:=us) hl λ_=>rfl
 have d_ap:=K5 l.prog w base G.T KL 28 "is_turns" rfl yK (λF=>oks.2.2.2.1.1 T aj F) λ_ _ _ _ _ _ us hl=>bz2 (us:=us) hl λ_ _=>rfl
 have d_ao:=K5 l.prog w base G.T KL 27 "is_old" rfl yK (λF=>oks.2.2.2.1.2.1 T aj F) λ_ _ _ _ _ _ us hl=>bz3 (us:=us) hl λ_ _ _=>rfl
 have d_am:=K5 l.prog w base G.T KL 24 "is_order" rfl yK (λF=>oks.2.2.2.1.2.2.1 T  F) λ_ _ _ _ _ _ us hl=>bz1 (us:=us) hl λ_=>rfl
 have zh:=Wv l.prog w base G.T KL 25 "look_at_order" rfl yK (λF=>oks.2.2.2.1.2.2.2.1 T d_am zQ F) λ_ _ _ _ _ _ us hl=>bz1 (us:=us) hl λ_=>rfl
 have zq:=Wv l.prog w base G.T KL 29 "look_at_aim" rfl yK (λF=>oks.2.2.2.1.2.2.2.2.1 T d_ap d_ao zh y6 zQ F) λ_ _ _ _ _ _ us hl=>bz2 (us:=us) hl λ_ _=>rfl
 have zx:=Wv l.prog w base G.T KL 35 "all_worths" rfl yK (λF=>oks.2.2.2.1.2.2.2.2.2.1 T d_al d_au zO zq F) λ_ _ _ _ _ _ us hl=>bz2 (us:=us) hl λ_ _=>rfl
 have zu:=Wv l.prog w base G.T KL 39 "lets_paper" rfl yK (λF=>oks.2.2.2.1.2.2.2.2.2.2.1 T d_ax zx F) λ_ _ _ _ _ _ us hl=>bz3 (us:=us) hl λ_ _ _=>rfl
 have zm:=Wv l.prog w base G.T KL 61 "_law_ask" rfl yK (λF=>oks.2.2.2.1.2.2.2.2.2.2.2 T zH zu F) λ_ _ _ _ _ _ us hl=>bz4 (us:=us) hl λ_ _ _ _=>rfl
 have d_bu:=K5 l.prog w base G.T KL 62 "_law_told" rfl yK (λF=>oks.2.2.2.2.1.1 T zm F) λ_ _ _ _ _ _ us hl=>bz4 (us:=us) hl λ_ _ _ _=>rfl
 have d_bv:=K5 l.prog w base G.T KL 63 "_law_by_base" rfl yK (λF=>oks.2.2.2.2.1.2.1 T zm F) λ_ _ _ _ _ _ us hl=>bz4 (us:=us) hl λ_ _ _ _=>rfl
 have aH:=K5 l.prog w base G.T KL 59 "_law_number_below" rfl yK (λF=>oks.2.2.2.2.1.2.2.1 T  F) λ_ _ _ _ _ _ us hl=>bz2 (us:=us) hl λ_ _=>rfl
 have d_bw:=K5 l.prog w base G.T KL 64 "_law_ranked" rfl yK (λF=>oks.2.2.2.2.1.2.2.2.1 T aH F) λ_ _ _ _ _ _ us hl=>bz2 (us:=us) hl λ_ _=>rfl
 have d_bx:=K5 l.prog w base G.T KL 65 "_law_fault" rfl yK (λF=>oks.2.2.2.2.1.2.2.2.2.1 T d_bw aH F) λ_ _ _ _ _ _ us hl=>bz1 (us:=us) hl λ_=>rfl
 have zU:=K5 l.prog w base G.T KL 43 "_law_numbers" rfl yK (λF=>oks.2.2.2.2.1.2.2.2.2.2.1 T  F) λ_ _ _ _ _ _ us hl=>bz3 (us:=us) hl λ_ _ _=>rfl
 have zC:=E8 l.prog w base G.T KL 50 "_law_copy" rfl yK (λF=>oks.2.2.2.2.1.2.2.2.2.2.2.1 T  F) λ_ _ _ _ _ _ us hl=>bz1 (us:=us) hl λ_=>rfl
 have d_bj:=K5 l.prog w base G.T KL 51 "_law_bad_wishes" rfl yK (λF=>oks.2.2.2.2.1.2.2.2.2.2.2.2 T zU zC F) λ_ _ _ _ _ _ us hl=>bz3 (us:=us) hl λ_ _ _=>rfl
 have d_bs:=K5 l.prog w base G.T KL 60 "_law_part" rfl yK (λF=>oks.2.2.2.2.2.1.1 T aH F) λ_ _ _ _ _ _ us hl=>bz2 (us:=us) hl λ_ _=>rfl
 have d_bp:=K5 l.prog w base G.T KL 57 "_law_odd_turns" rfl yK (λF=>oks.2.2.2.2.2.1.2.1 T  F) λ_ _ _ _ _ _ us hl=>bz5 (us:=us) hl λ_ _ _ _ _=>rfl
 have d_bo:=K5 l.prog w base G.T KL 56 "_law_odd_old" rfl yK (λF=>oks.2.2.2.2.2.1.2.2.1 T  F) λ_ _ _ _ _ _ us hl=>bz5 (us:=us) hl λ_ _ _ _ _=>rfl
 have d_bq:=K5 l.prog w base G.T KL 58 "_law_odd_aim" rfl yK (λF=>oks.2.2.2.2.2.1.2.2.2.1 T d_bp d_bo zU F) λ_ _ _ _ _ _ us hl=>bz4 (us:=us) hl λ_ _ _ _=>rfl
 have d_bf:=K5 l.prog w base G.T KL 47 "_law_wished" rfl yK (λF=>oks.2.2.2.2.2.1.2.2.2.2.1 T  F) λ_ _ _ _ _ _ us hl=>bz2 (us:=us) hl λ_ _=>rfl
 have aI:=K5 l.prog w base G.T KL 52 "_law_wishes_of" rfl yK (λF=>oks.2.2.2.2.2.1.2.2.2.2.2.1 T d_bf F) λ_ _ _ _ _ _ us hl=>bz1 (us:=us) hl λ_=>rfl
 have d_bd:=K5 l.prog w base G.T KL 45 "_law_rank" rfl yK (λF=>oks.2.2.2.2.2.1.2.2.2.2.2.2.1 T  F) λ_ _ _ _ _ _ us hl=>bz3 (us:=us) hl λ_ _ _=>rfl
 have d_be:=K5 l.prog w base G.T KL 46 "_law_longest" rfl yK (λF=>oks.2.2.2.2.2.1.2.2.2.2.2.2.2 T  F) λ_ _ _ _ _ _ us hl=>bz1 (us:=us) hl λ_=>rfl
 have aJ:=K5 l.prog w base G.T KL 49 "_law_worth" rfl yK (λF=>oks.2.2.2.2.2.2.1 T d_bd d_be F) λ_ _ _ _ _ _ us hl=>bz4 (us:=us) hl λ_ _ _ _=>rfl
 have d_bl:=K5 l.prog w base G.T KL 53 "_law_worths" rfl yK (λF=>Kbl T aI aJ F) λ_ _ _ _ _ _ us hl=>bz2 (us:=us) hl λ_ _=>rfl
 have d_bn:=K5 l.prog w base G.T KL 55 "_law_paper" rfl yK (λF=>oks.2.2.2.2.2.2.2.1 T zU F) λ_ _ _ _ _ _ us hl=>bz5 (us:=us) hl λ_ _ _ _ _=>rfl
 have d_bg:=K5 l.prog w base G.T KL 48 "_law_aim" rfl yK (λF=>oks.2.2.2.2.2.2.2.2.1 T zU F) λ_ _ _ _ _ _ us hl=>bz3 (us:=us) hl λ_ _ _=>rfl
 have d_bc:=K5 l.prog w base G.T KL 44 "_law_wishes" rfl yK (λF=>oks.2.2.2.2.2.2.2.2.2.1 T zU bE F) λ_ _ _ _ _ _ us hl=>bz5 (us:=us) hl λ_ _ _ _ _=>rfl
 exact λ{_ _} F=>oks.2.2.2.2.2.2.2.2.2.2 T d_bm bE d_bu d_bv d_bx d_bj d_bs d_bq zU d_bl d_bn d_bg d_bc F
abbrev d_by:DefRec:=⟨"law", XQ Sby,Yc Sby,K7 Sby,Ee Sby⟩
def walk{XP:(Str->yT)->Heap->Prop}(hlaw:∀ns:yP,ns.length<=63->Vf [.list (ns.map int)]=O (.bool yM)):PySem.W.WalkO q0 [] XP (λ_ h=>XYP p0 clsL h) (PySem.Challenge.rw_wishdeal_k39_papers_refused).row.toRowW d_by [] (λf vs=>PySem.call f vs):=
 xz (n:=63) (k:=12) (x:= "_law_script") yK (by decide) yK ⟨rfl,by decide,by decide,rfl⟩ (λ_ _ _ _ _ _ G Y hm=>E4 G Y hm) hlaw
def NX{f:M D}{Z Z1:US}{d:D}{t:Bool}(h:f Z=.ok d Z1)(ht:(!isNon d)=t):UY (λd=>!isNon d) f Z=.ok t Z1:=by subst ht;exact Kx (k:=λd=>!isNon d) h
def GE{sizes found:yP}{z d}(h:∀(j:Nat) d z,found[j]?=O d->sizes[j]?=O z->0<=d/\d<z)(hz:sizes[found.length]?=O z)(h0:0<=d/\d<z) :
  ∀(j:Nat) d' z',(found++[d])[j]?=O d'->sizes[j]?=O z'->0<=d'/\d'<z':=by
 intro j d' z' e1 e2;by_cases hj:j<found.length
 .rw[Qu hj]at e1
  exact h j d' z' e1 e2
 .by_cases bo:j=found.length
  .simp_all
  .rw[List.getElem?_eq_none (by rw[Qj,Jd];lia)]at e1
   cases e1
def inv(c s:Int)(sizes:yP)(n:Int)(i:Nat)(Z:US):Prop:=∃left found x6 x7,Z=[O (Sl.pub (.int c)),O (.pub (.int s)),O (.pub (.list (sizes.map .int))),O (.pub (.int n)),O (.pub (.int left)),O (.own ((found:yP).map .int)),x6,x7] /\
 found.length=i/\∀(j:Nat) d z,found[j]?=O d->sizes[j]?=O z->0<=d/\d<z
def kB{c s n:Int}{sizes:yP}(hs:∀x∈sizes,0<x/\x<18446744073709551616)(hl:sizes.length<=1000){i:Nat}{d:D}{Z:US}{Q:Out->Prop}(hi:(Yp 0 sizes.length)[i]?=O d)(h:inv c s sizes n i Z) :
  ∃Z2,gN 6 d Z=O Z2/\Ho O1 Z2 (Ss (inv c s sizes n (i+1)) Q):=by
 obtain⟨left,found,x6,x7,rfl,hf,hfd⟩:=h;obtain⟨rfl,hlt⟩:=VX hi;obtain⟨z,hz⟩:∃z,sizes[i]?=O z:=⟨sizes[i]'(by lia),Qi _⟩
 obtain⟨z1,z2⟩:=hs z (Qr hz);have hix:oIx (.list (sizes.map int)) (.int (0+(i:Int)))=O (.int z):=by rw[Ug];exact Zw (by rw[Qh,hz];rfl)
 generalize hk:(0:Int)+(i:Int)=k at hix⊢;have hk1:k<18446744073709551616:=by lia
 have hk2 : -18446744073709551616<k:=by lia
 have hlen:(found.map int).length<1000000:=by rw[Qd];lia
 have pw:Yx (.int 10) (.int 18)=O (.int 1000000000000000000):=by rw[RF (by decide)];rfl
 refine⟨_,UX (Qa yK) yK,?_⟩;unfold O1;apply U5
 case h1=>exact Pl (Zn yK (UZ UR UR pw) yK) λ_=>Zn yK UR yK
 case h2=>intro _;refine Ka (Wx yK (UZ (UO yK) (Kd yK (UO yK) hix) (Y3 (by lia))) yK hlen yK) ?_;refine KQ (Kv (UZ (UO yK) (Kd yK (UO yK) hix) (Pv (by lia) (by lia))) (Qa yK) yK) (Yb ?_);exact⟨_,found++[left % z],_,_,by rw[QQ];rfl,by rw[Qj,hf];rfl,GE hfd (by rw[hf];exact hz) ⟨Jj _ (by lia),Q6 _ z1⟩⟩
 case h3=>intro _;refine Ka (Kv (UZ (UZ (UZ (UZ (UO yK) (UZ UR (UO yK) (WW (by decide) (by decide))) KO) (UZ (UZ UR (UO yK) (WW (by decide) (by decide))) (UO yK) (XU hk2 hk1)) KO) (UO yK) KO) UR (Y3 (by decide))) (Qa yK) yK) ?_;refine Ka (Kv (UZ (UZ (UO yK) UR (XU (by decide) (by decide))) UR (Y3 (by decide))) (Qa yK) yK) ?_;refine Ka (Kv (UZ (UZ (UZ (UZ (UO yK) (UO yK) (XU (by lia) (by lia))) UR (Y3 (by decide))) UR (XU (by decide) (by decide))) UR (Y3 (by decide))) (Qa yK) yK) ?_;refine KQ (Wx yK (UZ (UZ (UO yK) UR (Pv (by decide) (by decide))) (Kd yK (UO yK) hix) (Y3 (by lia))) yK hlen yK) (Yb ?_);exact⟨_,found++[_ % z],_,_,by rw[QQ];rfl,by rw[Qj,hf];rfl,GE hfd (by rw[hf];exact hz) ⟨Jj _ (by lia),Q6 _ z1⟩⟩
def Tl(c s:Int){sizes:yP}(hs:∀x∈sizes,0<x/\x<18446744073709551616)(hl:sizes.length<=1000) :
  ∃r,Zt [.int c,.int s,.list (sizes.map int)]=O r/\∃ds:yP,r=.list (ds.map .int)/\ds.length=sizes.length/\∀(j:Nat) d z,ds[j]?=O d->sizes[j]?=O z->0<=d/\d<z:=by
 refine WO  rfl ?_;refine Ka (Kv (K0 (UN (UO yK) (UN (UZ (VE UR) (UO yK) Y8) UT)) Lu) (Qa yK) yK) ?_;refine Ka (Kv (UO yK) (Qa yK) yK) ?_;refine Ka (Zv (Yo UT (Qa yK)) (Qa yK) yK) ?_;apply Kg;apply YF  (inv c s sizes _)
 case h1=>exact WQ (UN (KW yK (by rw[KU,Qd])) UT) (WV (by lia) (by lia))
 case h0=>exact⟨_,[],yL,yL,rfl,rfl,λj d z e=>by cases e⟩
 case hst=>exact λi d Z e h=>kB hs hl e h
 case hend=>rintro Z ⟨left,found,x6,x7,rfl,hf,hfd⟩;rw[X7]at hf;exact Kf (U4 (K2 rfl rfl) ⟨_,rfl,found,rfl,by lia,hfd⟩)
mutual
theorem Nl:∀(d:PyData),d.canLay0=yM->UC d d=yM
 |.none,_=>rfl
 |.bool b,_=>by cases b<;>rfl
 |.int i,_=>by simp[UC]
 |.str s,_=>by simp[UC]
 |.list xs,h=>eqvAll_refl xs h
 |.tuple xs,h=>eqvAll_refl xs h
 |.dict _,h=>by cases h
theorem eqvAll_refl:∀(xs:List PyData),UA xs=yM->PyData.eqvAll xs xs=yM
 |[],_=>rfl
 |x::r,h=>by
  have h:(PyData.canLay0 x&&UA r)=yM:=h;rw[Qz]at h
  show(UC x x&&PyData.eqvAll r r)=yM
  rw[Nl x h.1,eqvAll_refl r h.2];rfl
end
theorem SQ:∀{xs:yO},(∀x∈xs,PyData.canLay0 x=yM)->UA xs=yM
 |[],_=>rfl
 |x::r,h=>by
  show(PyData.canLay0 x&&UA r)=yM
  rw[h x Qn,SQ λy hy=>h y (Qm _ hy)];rfl
theorem PQ  : ∀{xs:yO},(∀x∈xs,UB x<=n)->PyData.depthAll xs<=n
 |[],_=>by simp[PyData.depthAll]
 |x::r,h=>by
  have h1:=h x Qn;have h2:=PQ  λy hy=>h y (Qm _ hy);simp only[PyData.depthAll]
  lia
noncomputable def K4(r:yP):D:=.list (r.map int)
def KN(rs:List yP):D:=.list (rs.map K4)
def Kc(cs:yP)(ls:L3):D:=.tuple [.list (cs.map int),.list (ls.map KN)]
structure VQ(n:Nat)(rs:List yP):Prop where
 few:rs.length<=5
 some:∀r∈rs,r≠[]
 there:∀r∈rs,∀t∈r,0<=t/\t<n
 once:rs.flatten.Nodup
structure Good(cs:yP)(ls:L3):Prop where
 c1:1<=cs.length
 c6:cs.length<=6
 c7:∀c∈cs,0<=c/\c<8
 l1:1<=ls.length
 l7:ls.length<=7
 rk:∀rs∈ls,VQ cs.length rs
def qB(r):(K4 r).canLay0=yM:=SQ λx hx=>by obtain⟨y,_,rfl⟩:=Qv.mp hx;rfl
def M9(i:Int):(int i).depth<=1:=by simp[UB]
def OW  {xs:yO}(h:PyData.depthAll xs<=n):(Uw xs).depth<=n+1:=by simp only[UB];lia
def qA(r):(K4 r).depth<=2:=OW (PQ λx hx=>by obtain⟨y,_,rfl⟩:=Qv.mp hx;exact M9 y)
def kA(i):YA [.int i]=O (.bool yM):=by refine KZ  rfl ?_;exact U4 (ZU (Kx (UO yK)) (λ_=>OO (Kx (UO yK)))) yK
def PP  (h0:0<=i)(h1:i<m):Zf [.int i,.int m]=O (.bool yM):=by
 refine KZ  rfl ?_;have hb:(decide (0<=i)&&decide (i<m))=yM:=by simp_all
 refine U4 (ZU   (Kh (UN (UO yK) UT) yK (kA i)) (λ_=>?_)) yK;rw[←hb];exact Kx (VW UR (UO yK) yK (λ_=>UO yK) (λ_=>rfl))
def PN{α:Type}(l:List α):ZH [.list (l.map λ_=>.bool yM)]=O (.bool yM):=by
 have:(l.map λ_=>Ux yM)=(l.map λ_=>yM).map Ux:=by rw[Q0];rfl
 rw[this,ON];simp_all
def wq{r:yP}{n:Int}(hne:r≠[])(hl:r.length<=1000)(h:∀t∈r,0<=t/\t<n):Xk [K4 r,.int n]=O (.bool yM):=by
 refine KZ  rfl ?_;apply Kg;have hlen:Kb [K4 r]=O (.int r.length):=by unfold K4;rw[KU,Qd]
 have hp:0<r.length:=List.length_pos_iff.mpr hne;apply U5
 case h1=>exact Zq  (KS (UO yK) yK) (UZ (KW yK hlen) UR ZD)
 case h2=>intro hh;lia
 case h3=>
  intro _;refine Kn (Kf ?_)
  have hc:K6 (gN 2) (UM yM) (UV 2 Zf (UL (UJ 2) (UL (UJ 1) (UK)))) (r.map int) (Kt [O (.pub (K4 r)),O (.pub (.int n))]++Uv 1 yL) []=O (r.map λ_=>.bool yM):=by
   rw[XS (λ_=>yM) (λ_=>.bool yM) (λZ=>∃x,Z=[O (.pub (K4 r)),O (.pub (.int n)),x])]
   .rw[Q9.mpr (λ_ _=>rfl),QR,Q0];rfl
   .rintro d hm Z ⟨x,rfl⟩
    obtain⟨t,ht,rfl⟩:=Qv.mp hm;exact⟨_,UX (Qa yK) yK,rfl,λ_=>Kh (UN (UO yK) (UN (UO yK) UT)) yK (PP (h t ht).1 (h t ht).2),_,rfl⟩
   .exact⟨yL,rfl⟩
   .rw[Qd,Qw];lia
  exact U4 (K0 (UN (Kx (Z6 (Zx (UO yK) yK) hc)) UT) (PN r)) yK
theorem Go  (ha:ZZ a=a)(hb:ZZ b=b)(hc:ZZ c=c)(hx:ZZ x3=x3):∀(ds es:yO)(x4),es.length+ds.length<=1000000 ->
  ∃y,YL (gN 4) (UM yM) (UJ 4) ds [a,b,c,x3,x4] es=O (es++ds,[a,b,c,x3,y])
 |[],es,x4,_=>⟨x4,by rw[YL,Q3]⟩
 |d::r,es,x4,h=>by
  rw[QD]at h;obtain⟨y,e⟩:=Go ha hb hc hx r (es++[d]) _ (by rw[Qj,Jd];lia);refine⟨y,?_⟩;rw[YL];have h1:gN 4 d [a,b,c,x3,x4]=O [a,b,c,x3,O (.pub d)]:=UX (Qa yK) yK;rw[h1];dsimp only[UM];rw[Qp yK];have h2:UJ 4 [a,b,c,x3,O (.pub d)]=.ok d [a,b,c,x3,O (.pub d)]:=UO yK;rw[h2];dsimp only;rw[Qp (by lia)];have h3:Kt [a,b,c,x3,O (.pub d)]=[a,b,c,x3,O (.pub d)]:=by unfold Kt;simp only[QI,ha,hb,hc,hx];rfl
  rw[h3,e,QS];rfl
theorem NO{a b:D}:∀(rs:List yP)(es:yO)(x3 x4:Option Sl),es.length+rs.flatten.length<=1000000 ->
  X2 (gN 3) (UM yM) (KP (UJ 3)) (gN 4) (UM yM) (UJ 4) (rs.map K4) [O (.pub a),O (.pub b),yL,x3,x4] es=O (es++rs.flatten.map int)
 |[],es,_,_,_=>by rw[List.map_nil,X2];simp
 |r::rs,es,x3,x4,h=>by rw[Je,Qj]at h;rw[QI,X2];have h1:gN 3 (K4 r) [O (.pub a),O (.pub b),yL,x3,x4]=O [O (.pub a),O (.pub b),yL,O (.pub (K4 r)),x4]:=UX (Qa yK) yK;rw[h1];dsimp only[UM];rw[Qp yK];have h2:KP (UJ 3) [O (.pub a),O (.pub b),yL,O _,x4]=.ok (r.map int) [O (.pub a),O (.pub b),yL,O (.pub (K4 r)),x4]:=Zx (UO yK) yK;rw[h2];dsimp only;have h3:Kt [O (.pub a),O (.pub b),yL,O (.pub (K4 r)),x4]=[O (.pub a),O (.pub b),yL,O _,ZZ x4]:=rfl;rw[h3];obtain⟨y,e⟩:=Go (a:=O (.pub a)) (b:=O (.pub b)) (c:=yL) (x3:=O (.pub (K4 r))) yK yK yK yK (r.map int) es (ZZ x4) (by rw[Qd];lia);rw[e];dsimp only;have ih:=NO (a:=a) (b:=b) rs (es++r.map int) (O (.pub (K4 r))) y (by rw[Qj,Qd];lia);refine Eq.trans ih ?_;rw[Je,QQ,QS]
def NG  (h:ns.Nodup):V5 ns=ns.length:=by
 have:∀i,i<=ns.length->(PyProof.Rows.firstMet (λi=>ns.getD i 0) i).length=i:=by
  intro i;induction i with
  |zero=>intro _;rfl
  |succ i ih=>
   intro hi;rw[PyProof.Rows.firstMet_succ]
   have hany:(PyProof.Rows.firstMet (λi=>ns.getD i 0) i).any (· == ns.getD i 0)=yN:=by
    rw[PyProof.Rows.firstMet_any,List.any_eq_false];intro x hx;obtain⟨j,hj,rfl⟩:=Qv.mp hx;have hj:=JC.mp hj;intro e;have e   :=by simpa using e
    have l1:j<ns.length:=by lia
    have l2:i<ns.length:=by lia
    simp only[Qi l1,Qi l2]at e;exact absurd ((List.getElem_inj h).mp e) (by lia)
   unfold PyProof.Rows.step_dedup;rw[hany];rw[QH (by decide),Qj,ih (by lia)];rfl
 exact this ns.length (Qo _)
def yk{rs:List yP}{n:Nat}(g:VQ n rs)(hn:n<=6)(hf:rs.flatten.length<=1000):Xj [KN rs,.int n]=O (.bool yM):=by
 refine KZ (Z:=[O (.pub (KN rs)),O (.pub (.int n)),yL]) yK ?_;unfold Vc;have hlen:Kb [KN rs]=O (.int rs.length):=by unfold KN;rw[KU,Qd]
 have h5:=g.few;have bf:∀r∈rs,r.length<=1000:=λr hr=>QE (List.Sublist.length_le (List.sublist_flatten_of_mem hr)) hf;apply Kg;apply U5
 case h1=>exact Zq  (KS (UO yK) yK) (UZ (KW yK hlen) UR yK)
 case h2=>intro hh;lia
 case h3=>
  intro _;refine Kn (Kf ?_)
  have hc:K6 (gN 3) (UM yM) (UV 2 Xk (UL (UJ 3) (UL (UJ 1) (UK)))) (rs.map K4) (Kt [O (.pub (KN rs)),O (.pub (.int n)),yL]++Uv 1 yL) []=O (rs.map λ_=>.bool yM):=by
   rw[XS (λ_=>yM) (λ_=>.bool yM) (λZ=>∃x,Z=[O (.pub (KN rs)),O (.pub (.int n)),yL,x])]
   .rw[Q9.mpr (λ_ _=>rfl),QR,Q0];rfl
   .rintro d hm Z ⟨x,rfl⟩
    obtain⟨r,hr,rfl⟩:=Qv.mp hm;exact⟨_,UX (Qa yK) yK,rfl,λ_=>Kh (UN (UO yK) (UN (UO yK) UT)) yK (wq (g.some r hr) (bf r hr) (g.there r hr)),_,rfl⟩
   .exact⟨yL,rfl⟩
   .rw[Qd,Qw];lia
  apply Kg;apply U5
  case h1=>exact Zr (ZN (K0 (UN (Kx (Z6 (Zx (UO yK) yK) hc)) UT) (PN rs)))
  case h2=>intro hh;cases hh
  case h3=>
   intro _;refine Kn (Kf ?_);have h2:V7 (KP (UJ 0)) 2 (gN 3) (UM yM) (KP (UJ 3)) (gN 4) (UM yM) (UJ 4) [O (.pub (KN rs)),O (.pub (.int n)),yL]=.ok (rs.flatten.map int) [O (.pub (KN rs)),O (.pub (.int n)),yL]:=by unfold V7;have e1:KP (UJ 0) [O (.pub (KN rs)),O (.pub (.int n)),yL]=.ok (rs.map K4) [O (.pub (KN rs)),O (.pub (.int n)),yL]:=Zx (UO yK) yK;rw[e1];dsimp only;have e2:=NO (a:=KN rs) (b:=.int n) rs [] yL yL (by rw[Qw];lia);have e3:X2 (gN 3) (UM yM) (KP (UJ 3)) (gN 4) (UM yM) (UJ 4) (rs.map K4) (Kt [O (.pub (KN rs)),O (.pub (.int n)),yL]++Uv 2 yL) []=O ([]++rs.flatten.map int):=e2;rw[e3];rfl
   refine Ka (Zv h2 (Qa yK) yK) ?_;have hls:X4 [.list (rs.flatten.map int)]=O (.int rs.flatten.length):=by unfold X4;dsimp only;rw[Tn];dsimp only;rw[Qp (by lia),NG g.once]
   refine U4 (Kx (UZ (K0 (UN (K2 yK yK) UT) hls) (KW yK KU) ZD)) ?_;rw[Qd];simp
theorem VS  : ∀{xs}{k i:Nat},(Ym k xs)[i]?=O d->∃x,xs[i]?=O x/\d=.tuple [.int ((k+i:Nat):Int),x]
 |[],k,i,h=>by cases h
 |x::r,k,0,h=>by cases h;exact⟨x,rfl,rfl⟩
 |x::r,k,i+1,h=>by obtain⟨y,e,q⟩:=VS   (i:=i) h;exact⟨y,e,by rw[q];congr 4;lia⟩
theorem RK:∀(n:Nat)(l:yP),l.Nodup->(∀x∈l,0<=x/\x<n)->l.length<=n
 |0,[],_,_=>Qo _
 |0,x::r,_,h=>by have:=h x Qn;lia
 |n+1,l,hn,h=>by
  by_cases hm:(n:Int)∈l
  .have:=RK n (l.erase (n)) (hn.erase _) λx hx=>by
    have h1:=(List.Nodup.mem_erase_iff hn).mp hx;have h2:=h x h1.2
    lia
   simp_all
  .have:=RK n l hn λx hx=>by
    have h2:=h x hx;have h3:x≠(n):=λe=>hm (e ▸ hx)
    lia
   lia
def RJ   (g:VQ n rs):rs.flatten.length<=n:=RK n _ g.once λx hx=>by obtain⟨r,hr,hxr⟩:=List.mem_flatten.mp hx;exact g.there r hr x hxr
def kz{cs:yP}(h1:1<=cs.length)(h6:cs.length<=6)(h:∀c∈cs,0<=c/\c<8):Wn [.list (cs.map int)]=O .none:=by
 refine Rz  rfl ?_;unfold T5;have hlen:Kb [.list (cs.map int)]=O (.int cs.length):=by rw[KU,Qd]
 apply Kg;apply U5
 case h1=>exact Zq  (KS (UO yK) yK) (Zr (VW UR (KW yK hlen) yK (λ_=>UR) (λ_=>rfl)))
 case h2=>
  intro hh;have a1:(1:Int)<=(cs.length:Int):=by lia
  have a2:(cs.length:Int)<=6:=by lia
  simp[a1,a2]at hh
 case h3=>
  intro _;refine Kn (Kf ?_);apply YF (λ_ Z=>∃x1 x2,Z=[O _,x1,x2])
  case h1=>exact WC (UN (UO yK) UT) WB
  case h0=>exact⟨_,_,rfl⟩
  case hst=>
   rintro i d Z hi ⟨x1,x2,rfl⟩;obtain⟨x,hx,rfl⟩:=VS hi;obtain⟨c,hc,rfl⟩:=Qv.mp (Qr hx);refine⟨_,KD yK (U6 (UX (Qa yK) yK) (U6 (UX (Qa yK) yK) KE)),?_⟩;unfold LI;apply U5
   case h1=>exact Zr (ZN (Kh (UN (UO yK) (UN (UZ UR UR KO) UT)) yK (PP (h c hc).1 (by have:=(h c hc).2;lia))))
   case h2=>intro hh;cases hh
   case h3=>exact λ_=>Kn (Yb ⟨_,_,rfl⟩)
  case hend=>exact λZ ⟨x1,x2,e⟩=>⟨_,rfl⟩
def qz{ls:L3}{n:Nat}(hn:n<=6)(h1:1<=ls.length)(h7:ls.length<=7)(h:∀rs∈ls,VQ n rs):Wm [.list (ls.map KN),.int n]=O .none:=by
 refine Rz  rfl ?_;unfold T3;have hlen:Kb [.list (ls.map KN)]=O (.int ls.length):=by rw[KU,Qd]
 apply Kg;apply U5
 case h1=>exact Zq  (KS (UO yK) yK) (Zr (VW UR (KW yK hlen) yK (λ_=>UR) (λ_=>rfl)))
 case h2=>
  intro hh;have a1:(1:Int)<=(ls.length:Int):=by lia
  have a2:(ls.length:Int)<=7:=by lia
  simp[a1,a2]at hh
 case h3=>
  intro _;refine Kn (Kf ?_);apply YF (λ_ Z=>∃x2 x3,Z=[O _,O (.pub (.int n)),x2,x3])
  case h1=>exact WC (UN (UO yK) UT) WB
  case h0=>exact⟨_,_,rfl⟩
  case hst=>
   rintro i d Z hi ⟨x1,x2,rfl⟩;obtain⟨x,hx,rfl⟩:=VS hi;obtain⟨rs,hrs,rfl⟩:=Qv.mp (Qr hx);refine⟨_,KD yK (U6 (UX (Qa yK) yK) (U6 (UX (Qa yK) yK) KE)),?_⟩;have hfl:=RJ (h rs hrs);apply U5
   case h1=>exact Zr (ZN (Kh (UN (UO yK) (UN (UO yK) UT)) yK (yk (h rs hrs) hn (by lia))))
   case h2=>intro hh;cases hh
   case h3=>exact λ_=>Kn (Yb ⟨_,_,rfl⟩)
  case hend=>exact λZ ⟨x1,x2,e⟩=>⟨_,rfl⟩
def PM  {ls}(g:Good cs ls):YV [Kc cs ls]=O .none:=by
 refine Rz  rfl ?_;apply Kg;apply U5
 case h1=>exact Zq  (KS (UO yK) yK) (UZ (KW yK yK) UR XN)
 case h2=>intro hh;cases hh
 case h3=>
  intro _;refine Kn (Kf ?_);have hlen:Kb [.list (cs.map int)]=O (.int (cs.length:Nat)):=by rw[KU,Qd]
  refine Ka (Xm (UO yK) (KD yK (U6 (UX (Qa yK) yK) (U6 (UX (Qa yK) yK) KE)))) ?_;refine Ka (VI (Kh (UN (UO yK) UT) yK (kz g.c1 g.c6 g.c7))) ?_;exact KQ (VI (Kh (UN (UO yK) (UN (KW yK hlen) UT)) yK (qz g.c6 g.l1 g.l7 g.rk))) ⟨_,rfl⟩
theorem Hh:∀(xs ys:yP),PyData.eqvAll (xs.map int) (ys.map int)=decide (xs=ys)
 |[],[]=>rfl
 |[],y::ys=>by simp[PyData.eqvAll]
 |x::xs,[]=>by simp[PyData.eqvAll]
 |x::xs,y::ys=>by
  have ih:=Hh xs ys
  show(UC _ _&&PyData.eqvAll _ _)=_
  have:UC (.int x) (.int y)=decide _:=rfl;simp_all
def HQ  : oNe (.list (xs.map int)) (.list [])=O (!decide (xs=[])):=by
 unfold oNe;have h1   :=qB xs;have h3:(Uw (xs.map int)).depth<=60:=by have:=qA xs;unfold K4 at this;lia
 rw[Qp ⟨h1,rfl,h3⟩]
 congr 2
 exact Hh xs []
def M8{xs:yO}{x}(h:xs.getLast?=O x):oIx (.list xs) (.int (-1))=O x:=by
 have hl:xs≠[]:=by rintro rfl;cases h
 have hp   :=List.length_pos_iff.mpr hl;rw[List.getLast?_eq_getElem?]at h
 show(ixN xs.length _).bind _=_
 unfold ixN;rw[QH (by decide),Qp (by lia)];have e2:(-1+(xs.length:Int)).toNat=xs.length-1:=by lia
 rw[e2];exact h
def PF{xs:yP}{k}(h:k<xs.length):oIx (.list (xs.map int)) (.int k)=O (.int (xs.getD k 0)):=by refine Zw ?_;simp[List.getD,List.getElem?_eq_getElem h]
def RT(ns:yP)(k:Nat)(hl:ns.length<=1000):∃v,Yz [.list (ns.map int),.int k]=O (.int v):=by
 have hlen:Kb [.list (ns.map int)]=O (.int ns.length):=by rw[KU,Qd]
 by_cases h:k<ns.length
 .refine⟨ns.getD k 0,KZ  rfl ?_⟩
  apply Kg;apply U5
  case h1=>exact Zn yK (KW yK hlen) yK
  case h2=>exact λ_=>U4 (Kd yK (UO yK) (PF h)) (Ks yK)
  case h3=>lia
 .refine⟨0,KZ  rfl ?_⟩
  apply Kg;apply U5
  case h1=>exact Zn yK (KW yK hlen) yK
  case h2=>lia
  case h3=>exact λ_=>Kn (Kf (U4 UR yK))
noncomputable def tab:yP:=[1,1,2,0,3,7,1,4,5,6,1]
def MA  (h0:0<=z)(h1:z<11):oIx (.list (tab.map int)) (.int z)=O (.int (tab.getD z.toNat 0))/\0<=tab.getD z.toNat 0/\tab.getD z.toNat 0<8:=by
 have e:z=0∨z=1∨z=2∨z=3∨z=4∨z=5∨z=6∨z=7∨z=8∨z=9∨z=10:=by lia
 rcases e with rfl|rfl|rfl|rfl|rfl|rfl|rfl|rfl|rfl|rfl|rfl<;>exact⟨rfl,by decide,by decide⟩
structure Ta(n:Nat)(pl:yP)(j:Nat)(rs:List yP):Prop where
 few:rs.length<=j
 some:∀r∈rs,r≠[]
 there:∀r∈rs,∀t∈r,(0<=t/\t<n)/\pl.getD t.toNat 0<1+(j:Int)
 once:rs.flatten.Nodup
noncomputable def So(n:Nat)(pl:yP)(r:Int):yP:=((Uu n).filter λk=>decide (pl.getD k 0=r)).map λk:Nat=>(k:Int)
def wR(n)(pl)(r):(So n pl r).Nodup:=by refine List.Pairwise.map _ (λa b h e=>h (by lia)) ((List.nodup_range).filter _)
def HP    (h:t∈So n pl r):(0<=t/\t<n)/\pl.getD t.toNat 0=r:=by obtain⟨k,hk,rfl⟩:=Qv.mp h;simp_all
def Ta.add{n:Nat}{pl:yP}{j:Nat}{rs}{row}(g:Ta n pl j rs)(hne:row≠[])(hm:∀t∈row,t∈So n pl (1+(j:Int)))(hn:row.Nodup):Ta n pl (j+1) (rs++[row]) where
 few:=by rw[Qj,Jd];have:=g.few;lia
 some:=λr hr=>by
  rcases QO.mp hr with z|z
  .exact g.some r z
  .rw[QN.mp z];exact hne
 there:=λr hr t ht=>by
  rcases QO.mp hr with z|z
  .have:=g.there r z t ht;exact⟨this.1,by lia⟩
  .rw[QN.mp z]at ht
   have:=HP (hm t ht);exact⟨this.1,by lia⟩
 once:=by
  rw[List.flatten_append,List.flatten_singleton];refine List.nodup_append.mpr ⟨g.once,hn,λa ha b hb e=>?_⟩;subst e;obtain⟨r,hr,har⟩:=List.mem_flatten.mp ha;have h1:=(g.there r hr a har).2;have h2:=(HP (hm a hb)).2
  lia
def Ta.next    {rs}(g:Ta n pl j rs):Ta n pl (j+1) rs:=
 ⟨by have:=g.few;lia,g.some,λr hr t ht=>⟨(g.there r hr t ht).1,by have:=(g.there r hr t ht).2;lia⟩,g.once⟩
def M7{x:D}{m:Nat}(h:m<=1000):Ke (.list [x]) (.int m)=O (.list (Uv m x)):=by rw[GR ⟨by lia,by lia,by show 1*m<=_;lia⟩];simp_all
noncomputable def szG(T A:Nat):yP:=(T:Int)::(A:Int)::Uv T 11
noncomputable def Yv(T R:Nat):yP:=Uv T ((R:Int)+1)++[2]
def M6{T A:Nat}:(szG T A).length=T+2:=by unfold szG;simp
def Hg{T R:Nat}:(Yv T R).length=T+1:=by unfold Yv;simp
def E3  (h1:1<=T)(h2:T<=6)(h3:1<=A)(h4:A<=7):∀x∈szG T A,0<x/\x<18446744073709551616:=λx hx=>by
 unfold szG at hx
 grind
def C9{T R}(h:R<=5):∀x∈Yv T R,0<x/\x<18446744073709551616:=λx hx=>by unfold Yv at hx;simp only[QO,QN,JU]at hx;rcases hx with ⟨_,rfl⟩|rfl<;>lia
def ku{T R:Nat}:(Yv T R)[T]?=O 2:=by unfold Yv;simp
def E2{T A k}(h:k<T):(szG T A)[2+k]?=O 11:=by unfold szG;rw[show 2+k=k+1+1 by lia,JX,JX,QC,Qp h]
def Og(T A R:Nat)(S dz sz:D)(at_ n:Nat)(cs pl:yP)(ls:L3)(x9 zy:Option Sl)(j:Nat)(Z:US):Prop:=∃(rs:List yP)(aN zE:Option Sl),
 Z=[O (.pub S),O (.pub (.int at_)),O (.pub (.int (T:Nat))),O (.pub (.int (A:Nat))),O (.pub (.int (R:Nat))),O (.pub sz),O (.pub dz),O (.own (cs.map int)),O (.own (ls.map KN)),x9,zy,O (.pub (.list (pl.map int))),O (.own (rs.map K4)),aN,zE]/\Ta n pl j rs
def wp{T A R:Nat}{S dz sz:D}{at_ n:Nat}{cs pl:yP}{ls:L3}{v9 v10:D}{j:Nat}{d:D}{Z:US}{Q:Out->Prop}(hcs:cs.length=n)(hT:T<=6)(hR:R<=5)(hn:n<=T)(hpl:pl.length=T+1)(zG:pl.getD T 0=0∨pl.getD T 0=1)
  (hj:(Yp 1 ((R:Int)+1))[j]?=O d) (h:Og T A R S dz sz at_ n cs pl ls (O (.pub v9)) (O (.pub v10)) j Z) :
  ∃Z2,gN 13 d Z=O Z2/\Ho OY Z2 (Ss (Og T A R S dz sz at_ n cs pl ls (O (.pub v9)) (O (.pub v10)) (j+1)) Q):=by
 obtain⟨rs,aN,zE,rfl,g⟩:=h;obtain⟨rfl,hlt⟩:=VX hj;have hj5:j<R:=by lia
 refine⟨_,UX (Qa yK) yK,?_⟩;unfold OY
 have hrd:Yp 0 ((n:Nat):Int)=(Uu n).map λk=>.int (k:Int):=by
  unfold Yp;have:((n:Int)-0).toNat=n:=by lia
  rw[this];apply List.map_congr_left;intro k _;rw[Ug]
 have hc:K6 (gN 15) (UP oEq (UU 11 (UJ 15)) (UJ 13)) (UJ 15) (Yp 0 ((n:Nat):Int)) (Kt [O (.pub S),O (.pub (.int at_)),O (.pub (.int (T:Nat))),O (.pub (.int (A:Nat))),O (.pub (.int (R:Nat))),O (.pub sz),O (.pub dz),O (.own (cs.map int)),O (.own (ls.map KN)),O (.pub v9),O (.pub v10),O (.pub (.list (pl.map int))),O (.own (rs.map K4)),O (.pub (.int (1+(j:Int)))),zE]++Uv 1 yL) []=O ((So n pl (1+(j:Int))).map int):=by
  rw[hrd,XS (λd=>match d with | .int k=>decide (pl.getD k.toNat 0=1+(j:Int))|_=>yN) (λd=>d) (λZ=>∃x,Z=[O (.pub S),O (.pub (.int at_)),O (.pub (.int (T:Nat))),O (.pub (.int (A:Nat))),O (.pub (.int (R:Nat))),O (.pub sz),O (.pub dz),yL,yL,O (.pub v9),O (.pub v10),O (.pub (.list (pl.map int))),yL,O (.pub (.int (1+(j:Int)))),ZZ zE,x])]
  .rw[QR,List.map_id',List.filter_map]
   unfold So;rw[Q0];rfl
  .rintro d hm Z ⟨x,rfl⟩
   obtain⟨k,hk,rfl⟩:=Qv.mp hm;have hk:=JC.mp hk;refine⟨_,UX (Qa yK) yK,UZ (Kd yK (UO yK) (PF (by lia))) (UO yK) ZD,λ_=>UO yK,O (.pub (.int k)),?_⟩;unfold Kt;cases zE with
   |none=>rfl
   |some sl=>cases sl<;>rfl
  .exact⟨yL,rfl⟩
  .rw[Qd,List.length_range,Qw];lia
 have hlen:(cs.map int).length=n:=by rw[Qd,hcs]
 refine Ka (Zv (Z6 (WQ (UN (Pw yK) UT) (by rw[hlen];exact WV (by lia) (by lia))) hc) (Qa yK) yK) ?_;generalize be:So n pl (1+(j:Int))=row;apply U5
 case h1=>exact Hr yK (Kr UT (by decide)) yK HQ
 case h2=>
  intro hh;have hne:row≠[]:=by simpa using hh
  have hlx:oIx (.list (pl.map int)) (.int (-1))=O (.int (pl.getD T 0)):=M8 (by rw[List.getLast?_eq_getElem?,Qd,hpl,Qh,Nat.add_sub_cancel,Qi (show T<pl.length by lia)];simp[List.getD,List.getElem?_eq_getElem (show T<pl.length by lia)])
  obtain⟨z6,hix,z7⟩:∃z6:yP,oIx (.list [.list (row.map int),.list (row.map int).reverse]) (.int (pl.getD T 0))=O (K4 z6)/\(z6=row∨z6=row.reverse):=by
   rcases zG with e|e
   .rw[e];exact⟨row,rfl,.inl yK⟩
   .rw[e];exact⟨row.reverse,by show O (Uw (row.map int).reverse)=_;unfold K4;rw[List.map_reverse],.inr yK⟩
  have bf:(rs.map K4).length<1000000:=by rw[Qd];have:=g.few;lia
  refine KQ (Wx yK (UZ (Kr (UN (K2 yK yK) (UN (CN (UO yK) UR UR (Y9 (VE UR))) UT)) (Qa yK)) (Kd yK (VE UR) hlx) hix) yK bf yK) ?_;refine Yb ⟨rs++[z6],O (.pub (.int (1+(j:Int)))),O (.pub (.list (row.map int))),by rw[QQ];rfl,g.add ?_ ?_ ?_⟩
  .rcases z7 with e|e<;>rw[e]
   .exact hne
   .exact λz=>hne (List.reverse_eq_nil_iff.mp z)
  .intro t ht
   rw[be];rcases z7 with e|e<;>rw[e]at ht
   .exact ht
   .exact List.mem_reverse.mp ht
  .have hnd:=wR n pl (1+(j:Int))
   rw[be]at hnd;rcases z7 with e|e<;>rw[e]
   .exact hnd
   .exact(List.reverse_perm row).nodup_iff.mpr hnd
 case h3=>exact λ_=>Kn (Yb ⟨rs,_,_,rfl,g.next⟩)
def Of(T A R:Nat)(S dz sz:D)(at_ n:Nat)(cs:yP)(i:Nat)(Z:US):Prop:=∃(ls:L3)(x9 zy y7 zn aN zE:Option Sl),
 Z=[O (.pub S),O (.pub (.int at_)),O (.pub (.int (T:Nat))),O (.pub (.int (A:Nat))),O (.pub (.int (R:Nat))),O (.pub sz),O (.pub dz),O (.own (cs.map int)),O (.own (ls.map KN)),x9,zy,y7,zn,aN,zE]/\ls.length=i/\∀rs∈ls,VQ n rs/\rs.length<=R
def wQ{T A R:Nat}{ns:yP}{dz sz:D}{at_ n:Nat}{cs:yP}{i:Nat}{m:Int}{d:D}{Z:US}{Q:Out->Prop}(hns:ns.length<=1000)(hT:T<=6)(hR:R<=5)(hcs:cs.length=n)(hn:n<=T)(hm:m<=100)
  (hi:(Yp 0 m)[i]?=O d) (h:Of T A R (.list (ns.map int)) dz sz at_ n cs i Z) :
  ∃Z2,gN 9 d Z=O Z2/\Ho OX Z2 (Ss (Of T A R (.list (ns.map int)) dz sz at_ n cs (i+1)) Q):=by
 obtain⟨ls,x9,zy,y7,zn,aN,zE,rfl,hl,hg⟩:=h;obtain⟨rfl,hlt⟩:=VX hi;refine⟨_,UX (Qa yK) yK,?_⟩;unfold OX;obtain⟨v,hv⟩:=RT ns (at_+1+i) hns;have ev:((at_:Int)+1+(0+(i:Int)))=((at_+1+i:Nat):Int):=by lia
 rw[←ev]at hv;refine Ka (Kv (Kh (UN (UO yK) (UN (UZ (UZ (UO yK) UR KO) (UO yK) KO) UT)) yK hv) (Qa yK) yK) ?_;obtain⟨r,hF,pl,rfl,hpl,hpb⟩:=Tl v (11*(at_:Int)+3*(0+(i:Int))+1) (sizes:=Yv T R) (C9 hR) (by rw[Hg];lia);have hpl7:pl.length=T+1:=by rw[hpl,Hg]
 have hmul:Ke (.list [.int ((R:Int)+1)]) (.int (T:Nat))=O _:=M7 (by lia);have hadd:U0 (.list (Uv T (.int ((R:Int)+1)))) (.list [.int 2])=O (.list ((Yv T R).map int)):=by rw[Yu (by rw[QB];show T+1<=_;lia)];unfold Yv;rw[QQ,J5];rfl
 refine Ka (Kv (Kh (UN (UO yK) (UN (UZ (UZ (UZ UR (UO yK) (WW (by decide) (by decide))) (UZ UR (UO yK) (WW (by decide) (by decide))) KO) UR KO) (UN (UZ (UZ (Kr (UN (UZ (UO yK) UR KO) UT) (Qa yK)) (UO yK) hmul) (Kr (UN UR UT) (Qa yK)) hadd) UT))) yK hF) (Qa yK) yK) ?_;refine Ka (Zv (Yo UT (Qa yK)) (Qa yK) yK) ?_
 have zG:pl.getD T 0=0∨pl.getD T 0=1:=by
  have e:pl[T]?=O pl[T]:=Qi (by lia);have:=hpb T pl[T] 2 e ku;have e2:pl.getD T 0=pl[T]:=by simp[List.getD,e]
  rw[e2];lia
 apply Kg;apply YF (Og T A R (.list (ns.map int)) dz sz at_ n cs pl ls (O (.pub (.int (0+(i:Int))))) (O (.pub (.int v))))
 case h1=>exact Ar (UN UR (UN (UZ (UO yK) UR KO) UT)) (jS (by lia) (by lia) (by decide) (by decide))
 case h0=>exact⟨[],aN,zE,rfl,⟨Qo _,λ_ h=>(by cases h),λ_ h=>(by cases h),J7⟩⟩
 case hst=>exact λj d Z e h=>wp hcs hT hR hn hpl7 zG e h
 case hend=>
  rintro Z ⟨rs,y13,y14,rfl,g⟩;refine Kf ?_;have hl5:(Yp 1 ((R:Int)+1)).length=R:=by rw[X7];lia
  rw[hl5]at g;have zX:(ls.map KN).length<1000000:=by rw[Qd];lia
  refine KQ (Wx yK (K2 yK yK) yK zX yK) ?_;refine Yb ⟨ls++[rs],O (.pub (.int (0+(i:Int)))),O (.pub (.int v)),O (.pub (.list (pl.map int))),O (.pub (.list (rs.map K4))),y13,y14,by rw[QQ];rfl,by rw[Qj,hl];rfl,λx hx=>?_⟩;rcases QO.mp hx with z|z
  .exact hg x z
  .rw[QN.mp z];exact⟨⟨by have:=g.few;lia,g.some,λr hr t ht=>(g.there r hr t ht).1,g.once⟩,g.few⟩
def w5(T A R:Nat){ns:yP}(hns:ns.length<=1000)(at_:Nat)(hT1:1<=T:=by decide)(hT:T<=6:=by decide)(hA1:1<=A:=by decide)(hA:A<=7:=by decide)(hR:R<=5:=by decide):∃r,Vt [.list (ns.map int),.int at_,.int (T:Nat),.int (A:Nat),.int (R:Nat)]=O r/\∃cs ls,r=Kc cs ls/\Good cs ls/\cs.length<=T/\ls.length<=A/\∀rs∈ls,rs.length<=R:=by
 obtain⟨v,hv⟩:=RT ns at_ hns;obtain⟨r,hF,ds,rfl,hl,hd⟩:=Tl v at_ (sizes:=szG T A) (E3 hT1 hT hA1 hA) (by rw[M6];lia);have hl8:ds.length=T+2:=by rw[hl,M6]
 have at':∀(j:Nat)(k z:Int),k=j->(szG T A)[j]?=O z->∃d,oIx (.list (ds.map int)) (.int k)=O (.int d)/\ds[j]?=O d/\0<=d/\d<z:=λj k z hk hz=>by
  subst hk;have hj:j<ds.length:=by rw[hl];exact(Ql.mp hz).1
  have e:ds[j]?=O ds[j]:=Qi hj;obtain⟨p0,p1⟩:=hd j ds[j] z e hz;exact⟨ds[j],Zw (by rw[Qh,e];rfl),e,p0,p1⟩
 obtain⟨d0,x0,e0,p0,q0⟩:=at' 0 0 T yK yK;obtain⟨d1,x1,e1,p1,q1⟩:=at' 1 1 A yK yK;have hmul:Ke (.list [.int 11]) (.int (T:Nat))=O (.list (Uv T (.int 11))):=M7 (by lia);have hadd:U0 (.list [.int (T:Nat),.int (A:Nat)]) (.list (Uv T (.int 11)))=O (.list ((szG T A).map int)):=by rw[Yu (by rw[QB];show 2+T<=_;lia)];unfold szG;rw[QI,QI,J5];rfl
 obtain⟨n,hn⟩:∃n:Nat,1+d0=n:=⟨(1+d0).toNat,by lia⟩
 refine WO  rfl ?_;unfold TV;refine Ka (Kv (UZ (Kr (UN (UO yK) (UN (UO yK) UT)) (Qa yK)) (UZ (Kr (UN UR UT) (Qa yK)) (UO yK) hmul) hadd) (Qa yK) yK) ?_;refine Ka (Kv (Kh (UN (Kh (UN (UO yK) (UN (UO yK) UT)) yK hv) (UN (UO yK) (UN (UO yK) UT))) yK hF) (Qa yK) yK) ?_
 have aF:DL.cutD (ds.map int) (O 2) (O (3+d0))=((ds.drop 2).take n).map int:=by
  rw[Nc (by decide) (by lia) (by lia)];have:(3+d0).toNat-(2:Int).toNat=n:=by lia
  rw[this];rfl
 have ax:((ds.drop 2).take n).length=n:=by rw[Jk,JS,hl8];lia
 have each:∀z∈(ds.drop 2).take n,0<=z/\z<11:=λz hz=>by
  have hz:=J8 hz;obtain⟨k,hk,e⟩:=List.getElem_of_mem hz;rw[JS,hl8]at hk;rw[List.getElem_drop]at e;have e2:ds[2+k]?=O z:=by rw[←e];exact Qi _
  refine hd (2+k) z 11 e2 (E2 ?_)
  lia
 let cs:yP:=((ds.drop 2).take n).map λz=>tab.getD z.toNat 0
 have hcl:cs.length=n:=by show(List.map _ _).length=n;rw[Qd,ax]
 have hc:∀xs:List (Option Sl),Kt xs=xs->xs.length=15->K6 (gN 15) (UM yM) (UP oIx (U1 (UL (UM (.int 1)) (UL (UM (.int 1)) (UL (UM (.int 2)) (UL (UM (.int 0)) (UL (UM (.int 3)) (UL (UM (.int 7)) (UL (UM (.int 1)) (UL (UM (.int 4)) (UL (UM (.int 5)) (UL (UM (.int 6)) (UL (UM (.int 1)) (UK))))))))))))) (UJ 15)) (((ds.drop 2).take n).map int) (Kt xs++Uv 1 yL) []=O (cs.map int):=by
  intro xs hx a8;rw[hx,XS (λ_=>yM) (λd=>match d with | .int z=>.int (tab.getD z.toNat 0)|_=>.none) (λZ=>∃x,Z=xs++[x])]
  .rw[Q9.mpr (λ_ _=>rfl),QR,Q0]
   show _=O ((((ds.drop 2).take n).map λz=>tab.getD z.toNat 0).map int);rw[Q0];rfl
  .rintro d hm Z ⟨x,rfl⟩
   obtain⟨z,hz,rfl⟩:=Qv.mp hm;have ht:=MA (each z hz).1 (each z hz).2;have hset:(xs++[x]).set 15 (O (Sl.pub (.int z)))=xs++[O (.pub (.int z))]:=by rw[List.set_append_right _ _ (by lia),a8];rfl
   have hget:(xs++[O (Sl.pub (.int z))])[15]?=O (O (Sl.pub (.int z))):=by rw[Qx (by lia),a8];rfl
   refine⟨_,UX (by rw[Qj,a8];exact Qa yK) hset,rfl,λ_=>?_,O (.pub (.int z)),?_⟩
   .exact UZ (Kr (UN UR (UN UR (UN UR (UN UR (UN UR (UN UR (UN UR (UN UR (UN UR (UN UR (UN UR UT))))))))))) (Qa yK)) (UO hget) ht.1
   .unfold Kt at hx⊢
    rw[QQ,hx];rfl
  .exact⟨yL,rfl⟩
  .rw[Qd,ax,Qw];lia
 refine Ka (Zv (Z6 (Zx (Ww (UO yK) (Y9 UR) (Y9 (UZ UR (Kd yK UR x0) KO)) (by rw[WA,aF])) YM) (hc _ yK yK)) (Qa yK) yK) ?_;refine Ka (Zv (Yo UT (Qa yK)) (Qa yK) yK) ?_;apply Kg;apply YF (Of T A R (.list (ns.map int)) (.list (ds.map int)) (.list ((szG T A).map int)) at_ n cs)
 case h1=>exact WQ (UN (UZ UR (Kd yK UR x1) KO) UT) (WV (by lia) (by lia))
 case h0=>exact⟨[],_,_,_,_,_,_,rfl,rfl,λ_ h=>by cases h⟩
 case hst=>exact λi d Z e h=>wQ hns hT hR hcl (by lia) (by lia) e h
 case hend=>rintro Z ⟨ls,y9,y10,y11,y12,y13,y14,rfl,zX,hg⟩;rw[X7]at zX;refine Kf (U4 (ZM (UN (K2 rfl rfl) (UN (K2 rfl rfl) UT)) (Qa rfl)) ⟨_,rfl,cs,ls,rfl,⟨?_,by lia,by lia,λrs hrs=>(hg rs hrs).2⟩⟩);exact⟨by lia,by lia,λc hc=>by obtain⟨z,hz,rfl⟩:=Qv.mp hc;exact(MA (each z hz).1 (each z hz).2).2,by lia,by lia,λrs hrs=>by rw[hcl];exact(hg rs hrs).1⟩
noncomputable def Zo(t:Int)(rs:List yP):Nat:=if rs.findIdx (λr=>r.contains t)<rs.length then rs.findIdx (λr=>r.contains t)+1 else 0
def PD(t)(r):oIn (.int t) (K4 r)=O (r.contains t):=by
 have h1:UA (r.map int)=yM:=by
  induction r with
  |nil=>rfl
  |cons x r ih=>rw[QI];unfold UA;rw[ih];rfl
 unfold oIn K4;dsimp only;rw[Qp ⟨rfl,h1,J4 _⟩]
 congr 1
 rw[List.any_map];clear h1;induction r with
 |nil=>rfl
 |cons x r ih=>
  rw[List.any_cons]
  congr 1
  exact Bool.eq_iff_iff.2 ⟨λh=>beq_iff_eq.2 (beq_iff_eq.1 h).symm,λh=>beq_iff_eq.2 (beq_iff_eq.1 h).symm⟩
def HN  {rs}{i}{r}(hr:rs[i]?=O r)(h:r.contains t=yM)(hb:∀j r,j<i->rs[j]?=O r->r.contains t=yN):Zo t rs=1+i:=by obtain⟨hi,e⟩:=List.getElem?_eq_some_iff.1 hr;have hf   :=(List.findIdx_eq hi).2 ⟨by rw[e];exact h,λj hj=>hb j _ hj (Qi _)⟩;unfold Zo;rw[hf,Qp hi,Nat.add_comm]
def HM  {rs}(hb:∀j r,j<rs.length->rs[j]?=O r->r.contains t=yN):Zo t rs=0:=by
 have hf   :=List.findIdx_eq_length.2 λr hr=>by obtain⟨j,hj,e⟩:=List.mem_iff_getElem.1 hr;exact hb j r hj (by simp_all)
 unfold Zo;rw[hf,QH (Jz _)]
def wo(t:Int)(rs):Vw [KN rs,.int t]=O (.int (Zo t rs:Nat)):=by
 refine KZ  rfl ?_;apply Kg;apply YF (λi Z=>(∃x2 x3,Z=[O _,O (.pub (.int t)),x2,x3])/\∀j r,j<i->rs[j]?=O r->r.contains t=yN)
 case h1=>exact jR (UN (UO yK) UT) xP
 case h0=>exact⟨⟨_,_,rfl⟩,λj r h=>absurd h (Nat.not_lt_zero _)⟩
 case hst=>
  rintro i d Z hi ⟨⟨x2,x3,rfl⟩,hb⟩;obtain⟨x,hx,rfl⟩:=VS hi;rw[Qh]at hx;cases hr:rs[i]? with
  |none=>rw[hr]at hx;cases hx
  |some r=>
   rw[hr]at hx;cases hx;refine⟨_,KD yK (U6 (UX (Qa yK) yK) (U6 (UX (Qa yK) yK) KE)),?_⟩;apply U5
   case h1=>exact Zn yK (UO yK) (PD t r)
   case h2=>intro hh;refine U4 (UO yK) (RL ?_);rw[HN hr hh hb];exact⟨rfl⟩
   case h3=>
    intro hh;refine Kn (Yb ⟨⟨_,_,rfl⟩,λj r' hj hr'=>?_⟩);rcases Nat.lt_succ_iff_lt_or_eq.1 hj with h|rfl
    .exact hb j r' h hr'
    .rw[hr]at hr';cases hr';exact hh
 case hend=>rintro Z ⟨⟨x2,x3,rfl⟩,hb⟩;rw[WY,Qd]at hb;refine Kf ?_;rw[HM hb];exact U4 UR rfl
noncomputable def Zd:yX->D
 |none=>.none
 |some t=>.int t
def SY(ws:LO):D:=.list (ws.map Zd)
def GD   (h:t∈rs.flatten):Zo t rs≠0:=by unfold Zo;simp_all
def C8(a b):UC (Zd a) (Zd b)=decide (a=b):=by rw[Bool.eq_iff_iff];cases a<;>cases b<;>simp[Zd,UC]
def qy   {s}{t}{g}{Z Z1}{ds es}(h1:f Z=.ok ds Z1)(h2:K6 s t g ds (Yr Z1++Uv k yL) []=O es)(h3:es.all flat=yM):RC f k s t g Z=.ok es Z1:=by unfold RC;rw[h1];dsimp only;rw[h2];dsimp only;rw[if_pos h3]
def kq  {ls}{rs}{i:Nat}(hi:ls[i]?=O rs)(hl:rs.flatten.length<64):Vq [Kc cs ls,.int i]=O (.list ((Yq rs.flatten).map int)):=by
 refine KZ  rfl ?_;have i1:oIx (Kc cs ls) (.int 1)=O _:=Zw (j:=1) yK;have i2:oIx (.list (ls.map KN)) (.int i)=O (KN rs):=Zw (by rw[Qh,hi];rfl)
 have hs:Su [KN rs,.list []]=O (.list (rs.flatten.map int)):=by
  have e:KN rs=.list ((rs.map λr=>r.map int).map Uw):=by unfold KN;rw[Q0];rfl
  have e2:(rs.map λr=>r.map int).flatten=rs.flatten.map int:=by rw[List.map_flatten]
  rw[e];unfold Su;dsimp only;rw[wE];dsimp only;rw[e2,Qp (by rw[Qd];lia)]
 exact U4 (K0 (UN (K0 (UN (UZ (Kd yK UR i1) (UO yK) i2) (UN (Kr UT (Qa yK)) UT)) hs) UT) (GN hl)) yK
def Mz{os:LO}{k:Nat}(h):oIx (.list (os.map Zd)) (.int k)=O (Zd os[k]):=Zw (by simp_all)
theorem X6    (I:US->Prop):∀(ds qs:yO)(Z:US)(es:yO),qs.length=ds.length ->
  (∀(i:Nat) d e,ds[i]?=O d->qs[i]?=O e->∀Z,I Z->∃Z1,s d Z=O Z1/\t Z1=.ok yM Z1/\g Z1=.ok e Z1/\I (Kt Z1))->I Z->es.length+ds.length<=1000000->K6 s t g ds Z es=O (es++qs)
 |[],[],Z,es,_,_,_,_=>by rw[K6,Q3]
 |d::r,e::q,Z,es,hl,st,h0,hz=>by obtain⟨Z1,e1,e2,e3,h1⟩:=st 0 d e yK yK Z h0;rw[QD]at hz;rw[K6,e1];dsimp only;rw[e2];dsimp only;rw[Qp yK,e3];dsimp only;rw[if_pos (by lia),X6 I r q _ _ (by simpa using hl) (λi d' e' x y=>st (i+1) d' e' (by simpa using x) (by simpa using y)) h1 (by rw[List.length_append,List.length_singleton];lia),List.append_assoc];rfl
def lng(ls:L3):Nat:=(most (ls.map λrs=>(rs.length:Int))).toNat
def OM  (h:1<=ls.length):most (ls.map λrs=>(rs.length:Int))=(lng ls:Nat):=by
 have hm:most _∈ls.map λrs=>(rs.length):=PZ (by rw[Qd];lia)
 obtain⟨rs,_,e⟩:=Qv.mp hm;unfold lng
 lia
def My   (h:rs∈ls):rs.length<=lng ls:=by
 have h1:(_)<=most (ls.map λrs=>(rs.length)):=Px (Qv.mpr ⟨rs,h,rfl⟩);have h2:=OM  (List.length_pos_of_mem h)
 lia
def Ot   (h1:1<=ls.length)(h:∀rs∈ls,rs.length<=n):lng ls<=n:=by
 have hm:most _∈ls.map λrs=>(rs.length):=PZ (by rw[Qd];lia)
 obtain⟨rs,hr,e⟩:=Qv.mp hm;have:=h rs hr;unfold lng
 lia
def NC(t:Int)(rs:List yP):Zo t rs<=rs.length:=by
 unfold Zo
 split<;>lia
section
variable{cs:yP}{ls:L3}{ws:LO}
def WF:oIx (Kc cs ls) (.int 0)=O (.list (cs.map int)):=Zw (j:=0) yK
def YY:oIx (Kc cs ls) (.int 1)=O (.list (ls.map KN)):=Zw (j:=1) yK
def NW{i:Nat}{rs}(h:ls[i]?=O rs):oIx (.list (ls.map KN)) (.int i)=O (KN rs):=Zw (by simp_all)
def HL(rs):Kb [KN rs]=O (.int rs.length):=by unfold KN;rw[KU,Qd]
def wn(g:Good cs ls):Sk [Kc cs ls]=O (.int (lng ls:Nat)):=by
 refine KZ  rfl ?_;have hw:=PM g
 have hc:K6 (gN 1) (UM yM) (KB 1) (ls.map KN) (Kt [O (.pub (Kc cs ls))]++Uv 1 yL) []=O ((ls.map λrs=>(rs.length)).map int):=by
  refine X6 (λZ=>∃x,Z=[O _,x]) _ _ _ _ (by rw[Qd,Qd,Qd]) ?_ ⟨yL,rfl⟩ (by rw[Qd,Qw];have:=g.l7;lia);rintro i d e hd he Z ⟨x,rfl⟩;rw[Qh]at hd;rw[Qh,Qh]at he;cases hl:ls[i]? with
  |none=>rw[hl]at hd;cases hd
  |some rs=>
  rw[hl]at hd he;cases hd;cases he;exact⟨_,UX (Qa yK) yK,rfl,KW yK (HL rs),_,rfl⟩
 refine Ka (VI (Kh (UN (UO yK) UT) yK hw)) ?_;refine U4 (K0 (UN (Kx (Z6 (Zx (Kd yK UR YY) YM) hc)) UT) (Nf (by rw[Qd];have:=g.l1;lia))) ?_;rw[OM g.l1]
end
def Mx  : oEq (Zd a) (Zd b)=O (decide (a=b)):=by unfold oEq;rw[if_pos ⟨by cases a<;>rfl,by cases b<;>rfl,by cases a<;>simp[Zd,UB]⟩,C8]
theorem GC    (I:US->Prop):∀(ds qs:yO)(Z:US)(es:yO),qs.length=ds.length ->
  (∀(i:Nat) d e,ds[i]?=O d->qs[i]?=O e->∀Z,I Z->∃Z1,s d Z=O Z1/\t Z1=.ok yM Z1/\g Z1=.ok e Z1/\I (Kt Z1))->I Z->es.length+ds.length<=1000000->∃Z',YL s t g ds Z es=O (es++qs,Z')/\I Z'
 |[],[],Z,es,_,_,h0,_=>⟨Z,by rw[YL,Q3],h0⟩
 |d::r,e::q,Z,es,hl,st,h0,hz=>by obtain⟨Z1,e1,e2,e3,h1⟩:=st 0 d e yK yK Z h0;rw[QD]at hz;obtain⟨Z',e',h'⟩:=GC I r q _ (es++[e]) (by simpa using hl) (λi d' e' x y=>st (i+1) d' e' (by simpa using x) (by simpa using y)) h1 (by rw[List.length_append,List.length_singleton];lia);refine⟨Z',?_,h'⟩;rw[YL,e1];dsimp only;rw[e2];dsimp only;rw[Qp yK,e3];dsimp only;rw[Qp (by lia),e',QS];rfl
theorem NF    {Rd}(I:US->Prop):∀(ds:yO)(qs:List yO)(Z:US)(es:yO),qs.length=ds.length ->
  (∀(i:Nat) d q,ds[i]?=O d->qs[i]?=O q->∀Z es,I Z->es.length+q.length<=1000000->∃Z1 xs Z2 Z3,s d Z=O Z1/\t Z1=.ok yM Z1/\f Z1=.ok xs Z2/\Rd xs (Kt Z2) es=O (es++q,Z3)/\I Z3)->I Z->es.length+qs.flatten.length<=1000000->∃Z',Xn s t f Rd ds Z es=O (es++qs.flatten,Z')/\I Z'
 |[],[],Z,es,_,_,h0,_=>⟨Z,by rw[Xn,List.flatten_nil,Q3],h0⟩
 |d::r,q::qr,Z,es,hl,st,h0,hz=>by rw[Je,Qj]at hz;obtain⟨Z1,xs,Z2,Z3,e1,e2,e3,e4,h1⟩:=st 0 d q yK yK Z es h0 (by lia);obtain⟨Z',e',h'⟩:=NF I r qr Z3 (es++q) (by simpa using hl) (λi d' e' x y=>st (i+1) d' e' (by simpa using x) (by simpa using y)) h1 (by rw[List.length_append];lia);refine⟨Z',?_,h'⟩;rw[Xn,e1];dsimp only;rw[e2];dsimp only;rw[Qp yK,e3];dsimp only;rw[e4];dsimp only;rw[e',Je,QS]
noncomputable def Wq(i:Nat)(rs:List yP):LP:=rs.flatten.map λt=>((i:Int),t)
def ZR(k:Nat):L3->LP
 |[]=>[]
 |rs::ls=>Wq k rs++ZR (k+1) ls
def Kq(k:Nat):L3->LP
 |[]=>[]
 |rs::ls=>(Yq rs.flatten).map (λt=>((k:Int),t))++Kq (k+1) ls
theorem SO:∀(ls)(k),(Kq k ls).Perm (ZR k ls)
 |[],_=>.nil
 |rs::ls,k=>((VY rs.flatten).map _).append (SO ls _)
theorem O8:∀(ls)(k),∀q∈Kq k ls,(k:Int)<=q.1
 |[],_,q,h=>by cases h
 |rs::ls,k,q,h=>by
  rcases QO.mp h with h|h
  .obtain⟨t,_,rfl⟩:=Qv.mp h;exact JW _
  .have:=O8 ls _ q h;lia
theorem VR:∀{ls}{k}{q},q∈Kq k ls->∃i rs,ls[i]?=O rs/\q.1=((k+i:Nat):Int)/\q.2∈rs.flatten
 |[],_,q,h=>by cases h
 |rs::ls,k,q,h=>by
  rcases QO.mp h with h|h
  .obtain⟨t,ht,rfl⟩:=Qv.mp h
   exact⟨0,rs,rfl,rfl,(VY _).mem_iff.mp ht⟩
  .obtain⟨i,rs',h1,h2,h3⟩:=VR h
   exact⟨i+1,rs',by simpa using h1,by rw[h2];congr 1;lia,h3⟩
theorem Hf{n:Nat}(hn:n<=6):∀(ls:L3)(k),(∀rs∈ls,∀t∈rs.flatten,0<=t/\t<n)->(Kq k ls).Pairwise λx y=>Kw x<=Kw y
 |[],_,_=>.nil
 |rs::ls,k,h=>by
  refine List.pairwise_append.mpr ⟨?_,Hf hn ls _ λrs' hr=>h rs' (Qm _ hr),λx hx y hy=>?_⟩
  .rw[List.pairwise_map]
   refine(Gi rs.flatten).imp λ{a b} hab=>?_
   unfold Kw;simp_all
  .obtain⟨t,ht,rfl⟩:=Qv.mp hx
   have h1:=O8 ls _ y hy;have h2:=h rs Qn t ((VY _).mem_iff.mp ht);obtain⟨i,rs',g1,g2,g3⟩:=VR hy;have h3:=h rs' (Qm _ (Qr g1)) y.2 g3;unfold Kw
   lia
def VQ.flat   (g:VQ n rs):∀t∈rs.flatten,0<=t/\t<n:=λt ht=>by obtain⟨r,h1,h2⟩:=List.mem_flatten.mp ht;exact g.there r h1 t h2
section
variable{cs:yP}{ls:L3}
theorem O7(n):∀(ls)(k),(∀rs∈ls,rs.flatten.length<=n)->(ZR k ls).length<=ls.length*n
 |[],_,_=>by simp[ZR]
 |rs::ls,k,h=>by
  have h1:=O7 n ls (k+1) λr hr=>h r (Qm _ hr);have h2:=h rs Qn
  show(Wq k rs++ZR _ ls).length<=_
  rw[Qj,QD];unfold Wq;rw[Qd]
  lia
def wm(g:Good cs ls):WG (ZR 0 ls)=Kq 0 ls:=by
 have hf   :=λrs hr=>(g.rk rs hr).flat
 have ok:∀q∈Kq 0 ls,okP q:=λq hq=>by obtain⟨i,rs,h1,h2,h3⟩:=VR hq;have:=hf rs (Qr h1) q.2 h3;have:=g.c6;exact⟨by lia,by lia⟩
 exact(O9 ok ((SO ls 0).trans (GO _).symm) (Hf g.c6 ls 0 hf) (HY _)).symm
def E1(g:Good cs ls):∀q∈ZR 0 ls,okP q:=λq hq=>by obtain⟨i,rs,h1,h2,h3⟩:=VR ((SO ls 0).mem_iff.mpr hq);have:=(g.rk rs (Qr h1)).flat q.2 h3;have:=g.c6;exact⟨by lia,by lia⟩
def Pu(g:Good cs ls):(ZR 0 ls).length<=42:=by
 have h:=O7 6 ls 0 λrs hr=>QE (RJ (g.rk rs hr)) g.c6
 have:=g.l7
 lia
theorem OL:∀(ls)(k),((ls.zipIdx k).map λp=>(Wq p.2 p.1).map Kl).flatten=(ZR k ls).map Kl
 |[],_=>rfl
 |rs::ls,k=>by rw[List.zipIdx_cons,QI,Je,OL ls _];show _=(Wq k rs++ZR _ ls).map Kl;simp_all
def yt(g:Good cs ls):Wl [Kc cs ls]=O (.list ((Kq 0 ls).map Kl)):=by
 refine KZ (Z:=[O (.pub (Kc cs ls))]) yK ?_;unfold T2;refine Ka (VI (Kh (UN (UO yK) UT) yK (PM g))) ?_
 have hc:∃Z',Xn (gT 2 (gNC (gN 1) (gNC (gN 2) (gN0)))) (UM yM) (KP (UJ 2)) (Xn (gN 3) (UM yM) (KP (UJ 3)) (YL (gN 4) (UM yM) (Ky (UL (UJ 1) (UL (UJ 4) (UK)))))) (Ym 0 (ls.map KN)) (Kt [O (.pub (Kc cs ls))]++Uv 4 yL) []=O ((ZR 0 ls).map Kl,Z'):=by
  have key:=NF (s:=gT 2 (gNC (gN 1) (gNC (gN 2) (gN0)))) (t:=UM yM) (f:=KP (UJ 2)) (Rd:=Xn (gN 3) (UM yM) (KP (UJ 3)) (YL (gN 4) (UM yM) (Ky (UL (UJ 1) (UL (UJ 4) (UK))))))
   (λZ=>∃x1 x2 x3 x4,Z=[O (.pub (Kc cs ls)),x1,x2,x3,x4]) (Ym 0 (ls.map KN)) ((ls.zipIdx 0).map λp=>(Wq p.2 p.1).map Kl) (Kt [O (.pub (Kc cs ls))]++Uv 4 yL) [] (by rw[Qd,List.length_zipIdx,WY,Qd]) ?_ ⟨yL,yL,yL,yL,rfl⟩ (by rw[OL,Qd,Qw];have:=Pu g;lia)
  .obtain⟨Z',e,_⟩:=key
   rw[OL,QR]at e;exact⟨Z',e⟩
  rintro i d q hd hq Z es ⟨x1,x2,x3,x4,rfl⟩ hlen;obtain⟨z,hz,rfl⟩:=VS hd;rw[Qh]at hz;rw[Qh,List.getElem?_zipIdx]at hq;cases hls:ls[i]? with
  |none=>rw[hls]at hz;cases hz
  |some rs=>
  rw[hls]at hz hq;cases hz;cases hq;rw[JR]at *;dsimp only at hlen⊢
  have inner:=NF (s:=gN 3) (t:=UM yM) (f:=KP (UJ 3)) (Rd:=YL (gN 4) (UM yM) (Ky (UL (UJ 1) (UL (UJ 4) (UK)))))
   (λZ=>∃x3 x4,Z=[O (.pub (Kc cs ls)),O (.pub (.int i)),O (.pub (KN rs)),x3,x4]) (rs.map K4) (rs.map λr=>r.map λt=>Kl ((i:Int),t)) _ es (by rw[Qd,Qd]) ?_ ⟨ZZ x3,ZZ x4,rfl⟩ ?_
  .obtain⟨Z3,e3,y3,y4,h3⟩:=inner
   have ef:(rs.map λr=>r.map λt=>Kl ((i:Int),t)).flatten=(Wq i rs).map Kl:=by unfold Wq;rw[Q0,List.map_flatten];rfl
   rw[ef]at e3;exact⟨_,_,_,Z3,KD yK (U6 (UX (Qa yK) yK) (U6 (UX (Qa yK) yK) KE)),rfl,Zx (UO yK) yK,e3,_,_,_,_,h3⟩
  .rintro j d q hd hq Z es' ⟨y3,y4,rfl⟩ az
   rw[Qh]at hd hq;cases hr:rs[j]? with
   |none=>rw[hr]at hd;cases hd
   |some r=>
   rw[hr]at hd hq;cases hd;cases hq
   obtain⟨Z3,e3,z4,h3⟩:=GC (s:=gN 4) (t:=UM yM) (g:=Ky (UL (UJ 1) (UL (UJ 4) (UK)))) (λZ=>∃x4,Z=[O (.pub (Kc cs ls)),O (.pub (.int i)),O (.pub (KN rs)),O (.pub (K4 r)),x4]) (r.map int) (r.map λt=>Kl ((i:Int),t)) _ es' (by rw[Qd,Qd]) (by
    rintro m d e hd he Z ⟨x4,rfl⟩;rw[Qh]at hd he;cases hm:r[m]? with
    |none=>rw[hm]at hd;cases hd
    |some t=>
    rw[hm]at hd he;cases hd;cases he;exact⟨_,UX (Qa yK) yK,rfl,ZM (UN (UO yK) (UN (UO yK) UT)) (Qa yK),_,rfl⟩) ⟨ZZ y4,rfl⟩ (by rw[Qd]at az⊢;exact az)
   exact⟨_,_,_,Z3,UX (Qa yK) yK,rfl,Zx (UO yK) yK,e3,_,_,h3⟩
  .have ef:(rs.map λr=>r.map λt=>Kl ((i:Int),t)).flatten=(Wq i rs).map Kl:=by
    unfold Wq;rw[Q0,List.map_flatten];rfl
   rw[ef];exact hlen
 obtain⟨Z',hc⟩:=hc;have hs:=xH (qs:=ZR 0 ls) (by have:=Pu g;lia) (E1 g);rw[wm g]at hs;exact U4 (K0 (UN (Kx (ji (WC (UN (Kd yK UR YY) UT) WB) hc)) UT) hs) yK
end
inductive Ord where|firsts|full|lasts
noncomputable def Ord.tx:Ord->Str
 |.firsts=> "firsts" | .full=> "full" | .lasts=> "lasts"
noncomputable def Ord.isF:Ord->Bool
 |.firsts=>yM|_=>yN
noncomputable def Ord.isU:Ord->Bool
 |.full=>yM|_=>yN
def DM(o:Ord):oEq (.str o.tx) (.str "firsts")=O o.isF:=by cases o<;>decide +kernel
def Mw(o:Ord):oEq (.str o.tx) (.str "full")=O o.isU:=by cases o<;>decide +kernel
def yr(o:Ord):XF [.str o.tx]=O (.bool yM):=by
 refine KZ  rfl ?_;have h:oIn (.str o.tx) (.tuple ((["firsts", "full", "lasts"]:List Str).map Uy))=O yM:=by cases o<;>decide +kernel
 exact U4 (ZU (Kx  (UO yK)) (λ_=>Kx (Zn yK UR h))) yK
def ko(o:Ord):Sj [.str o.tx]=O .none:=by
 refine Rz  rfl ?_;apply U5
 case h1=>exact Zr (ZN (Kh (UN (UO yK) UT) yK (yr o)))
 case h2=>simp_all
 case h3=>exact λ_=>Kn ⟨_,rfl⟩
def Yj:y0->D
 |none=>.none
 |some ws=>SY ws
def KJ(o:Ord)(old:y0)(ts:yP):D:=.tuple [.str o.tx,Yj old,.list (ts.map int)]
structure XM(n m:Nat)(old:y0)(ts:yP):Prop where
 len:∀ws,old=O ws->ws.length=m
 old:∀ws t,old=O ws->O t∈ws->0<=t/\t<n
 once:ts.Nodup
 there:∀a∈ts,0<=a/\a<m
def XM.few  {old}{ts}(g:XM n m old ts):ts.length<=m:=RK m ts g.once g.there
def kn{n m:Nat}{old:y0}(h1:∀ws,old=O ws->ws.length=m)(h2:∀ws t,old=O ws->O t∈ws->0<=t/\t<n)(hm:m<=1000):Xi [Yj old,.int m,.int n]=O (.bool yM):=by
 refine KZ  rfl ?_;unfold Vb;apply Kg;cases old with
 |none=>
  apply U5
  case h1=>exact Kx (UO yK)
  case h2=>exact λ_=>U4 UR (Ks yK)
  case h3=>intro hh;cases hh
 |some ws=>
  have hl:=h1 ws yK;have hlen:Kb [SY ws]=O (.int m):=by unfold SY;rw[KU,Qd,hl]
  apply U5
  case h1=>exact Kx (UO yK)
  case h2=>intro hh;cases hh
  case h3=>
   intro _;refine Kn (Kf ?_);apply Kg;apply U5
   case h1=>exact Zq  (KS (UO yK) yK) (UZ (KW yK hlen) (UO yK) XN)
   case h2=>intro hh;simp at hh
   case h3=>
    intro _;refine Kn (Kf ?_)
    have hc:K6 (gN 3) (UM yM) (Wd (UY (λd=>.bool (isNon d)) (UJ 3)) (UV 2 Zf (UL (UJ 3) (UL (UJ 2) (UK))))) (ws.map Zd) (Kt [O (.pub (SY ws)),O (.pub (.int m)),O (.pub (.int n))]++Uv 1 yL) []=O (ws.map λ_=>.bool yM):=by
     refine X6 (λZ=>∃x,Z=[O (.pub (SY ws)),O (.pub (.int m)),O (.pub (.int n)),x]) _ _ _ _ (by simp only[Qd]) ?_ ⟨yL,rfl⟩ (by rw[Qd,Qw];lia);rintro i d e hd he Z ⟨x,rfl⟩;rw[Qh]at hd he;cases hw:ws[i]? with
     |none=>rw[hw]at hd;cases hd
     |some o=>
     rw[hw]at hd he;cases hd;cases he;refine⟨_,UX (Qa yK) yK,rfl,?_,_,rfl⟩;cases o with
     |none=>exact Ox (t:=yM) (u:=yM) (Kx  (x:=.none) (UO yK)) (λh=>nomatch h)
     |some t=>have hb:=h2 ws t yK (Qr hw);exact Ox (t:=yN) (u:=yM) (Kx (k:=λd=>Ux (isNon d)) (x:=.int t) (UO yK)) (λ_=>Kh (UN (UO yK) (UN (UO yK) UT)) yK (PP hb.1 hb.2))
    exact U4 (K0 (UN (Kx (Z6 (Zx (UO yK) yK) hc)) UT) (PN ws)) yK
def wP{m:Nat}{ts:yP}(h1:ts.Nodup)(h2:∀a∈ts,0<=a/\a<m)(hm:m<=1000):Xh [.list (ts.map int),.int m]=O (.bool yM):=by
 refine KZ  rfl ?_;unfold Va;have hl:=RK m ts h1 h2;apply Kg
 have hc:K6 (gN 2) (UM yM) (UV 2 Zf (UL (UJ 2) (UL (UJ 1) (UK)))) (ts.map int) (Kt [O (.pub (.list (ts.map int))),O (.pub (.int m))]++Uv 1 yL) []=O (ts.map λ_=>.bool yM):=by
  refine X6 (λZ=>∃x,Z=[O _,O (.pub (.int m)),x]) _ _ _ _ (by simp only[Qd]) ?_ ⟨yL,rfl⟩ (by rw[Qd,Qw];lia);rintro i d e hd he Z ⟨x,rfl⟩;rw[Qh]at hd he;cases hw:ts[i]? with
  |none=>rw[hw]at hd;cases hd
  |some t=>
  rw[hw]at hd he;cases hd;cases he;have hb:=h2 t (Qr hw);exact⟨_,UX (Qa yK) yK,rfl,Kh (UN (UO yK) (UN (UO yK) UT)) yK (PP hb.1 hb.2),_,rfl⟩
 apply U5
 case h1=>exact Zq  (KS (UO yK) yK) (Zr (ZN (K0 (UN (Kx (Z6 (Zx (UO yK) YM) hc)) UT) (PN ts))))
 case h2=>intro hh;cases hh
 case h3=>
  intro _;refine Kn (Kf ?_);have hs:X4 [.list (ts.map int)]=O (.int ts.length):=by unfold X4;dsimp only;rw[Tn];dsimp only;rw[Qp (by lia),NG h1]
  have hlen:Kb [.list (ts.map int)]=O (.int ts.length):=by rw[KU,Qd]
  refine U4 (Kx (UZ (K0 (UN (UO yK) UT) hs) (KW yK hlen) ZD)) ?_;simp
section
variable{cs:yP}{ls:L3}{o:Ord}{old:y0}{ts:yP}
def DK(g:Good cs ls)(ga:XM cs.length ls.length old ts):Sg [Kc cs ls,KJ o old ts]=O .none:=by
 refine Rz  rfl ?_;unfold g_aq;have l7:=g.l7;have c6:=g.c6;have zX:Kb [.list (ls.map KN)]=O (.int ls.length):=by rw[KU,Qd]
 have hlc:Kb [.list (cs.map int)]=O (.int cs.length):=by rw[KU,Qd]
 refine Ka (VI (Kh (UN (UO yK) UT) yK (PM g))) ?_;apply Kg;apply U5
 case h1=>exact Zq  (KS (UO yK) yK) (UZ (KW yK (show Kb [KJ o old ts]=O (.int 3)from rfl)) UR XN)
 case h2=>intro hh;simp at hh
 case h3=>
  intro _;refine Kn (Kf ?_);refine Ka (Xm (UO yK) (KD yK (U6 (UX (Qa yK) yK) (U6 (UX (Qa yK) yK) KE)))) ?_;refine Ka (Xm (UO yK) (KD yK (U6 (UX (Qa yK) yK) (U6 (UX (Qa yK) yK) (U6 (UX (Qa yK) yK) KE))))) ?_;refine Ka (VI (Kh (UN (UO yK) UT) yK (ko o))) ?_;apply Kg;apply U5
  case h1=>exact Zr (ZN (Kh (UN (UO yK) (UN (KW yK zX) (UN (KW yK hlc) UT))) yK (kn ga.len ga.old (by lia))))
  case h2=>intro hh;cases hh
  case h3=>
   intro _;refine Kn (Kf ?_);apply U5
   case h1=>exact Zr (ZN (Kh (UN (UO yK) (UN (KW yK zX) UT)) yK (wP ga.once ga.there (by lia))))
   case h2=>intro hh;cases hh
   case h3=>exact λ_=>Kn ⟨_,rfl⟩
end
def Pt{t:Int}{r:yP}:oIn (.int t) (.list (r.map int))=O (r.contains t):=PD t r
theorem GB{c s w sz dg x6:Option Sl}{m:Nat}{T:yP}(hm:0<m):∀(k fuel d:Nat),(∀j,j<k->(((d+j) % m:Nat):Int)∈T)->(((d+k) % m:Nat):Int)∉T->d<m->k<fuel ->
  WN (VZ oIn (UJ 8) 7) OZ fuel [w,c,s,O (.pub (.int m)),sz,dg,x6,O (.own (T.map int)),O (.pub (.int d))]=.nx [w,c,s,O (.pub (.int m)),sz,dg,x6,O (.own (T.map int)),O (.pub (.int (((d+k) % m:Nat):Int)))]
 |0,fuel+1,d,_,hn,hd,_=>by
  have e0:(d+0) % m=d:=by rw[Nat.add_zero];exact Nat.mod_eq_of_lt hd
  rw[e0]at hn⊢;have e:(T.contains (d:Int))=yN:=by simpa using hn
  rw[WN,Nn (r:=yN) (UO yK) yK (by rw[Pt,e])];rfl
 |k+1,fuel+1,d,hj,hn,hd,hf=>by
  have h0:=hj 0 (by lia);rw[Nat.add_zero,Nat.mod_eq_of_lt hd]at h0;have e:(T.contains (d:Int))=yM:=by simpa using h0
  rw[WN,Nn (r:=yM) (UO yK) yK (by rw[Pt,e])];dsimp only;rw[Qp yK]
  have hst:OZ [w,c,s,O (.pub (.int m)),sz,dg,x6,O (.own (T.map int)),O (.pub (.int d))]=.nx [w,c,s,O (.pub (.int m)),sz,dg,x6,O (.own (T.map int)),O (.pub (.int (((d+1) % m:Nat):Int)))]:=by
   refine Kv (UZ (UZ (UO yK) UR KO) (UO yK) (Y3 (by lia))) (Qa yK) ?_;have e1:((d+1:Nat):Int)=(d:Int)+1:=by lia
   have:((d:Int)+1) % (m:Int)=(((d+1) % m:Nat):Int):=by rw[Int.natCast_emod,e1]
   rw[this];rfl
  rw[hst];dsimp only;have e2:∀j,((d+1) % m+j) % m=(d+(j+1)) % m:=λj=>by rw[Nat.mod_add_mod];congr 1;lia
  have:=GB (c:=c) (s:=s) (w:=w) (sz:=sz) (dg:=dg) (x6:=x6) (T:=T) hm k fuel ((d+1) % m) (λj hjk=>by rw[e2];exact hj (j+1) (by lia)) (by rw[e2];exact hn) (Nat.mod_lt _ hm) (by lia);rw[e2]at this;exact this
theorem HK:∀(a b:yP),a.Nodup->(∀x∈a,x∈b)->a.length<=b.length
 |[],_,_,_=>J4 _
 |x::a,b,hn,h=>by
  have hx:=h x Qn;have hn':=List.nodup_cons.mp hn
  have:=HK a _ hn'.2 λy hy=>by
   have hne:y≠x:=λe=>hn'.1 (e ▸ hy)
   exact(List.mem_erase_of_ne hne).mpr (h y (Qm _ hy))
  rw[List.length_erase_of_mem hx]at this;have hp:=List.length_pos_of_mem hx;rw[QD]
  lia
def wl{m:Nat}{T:yP}(d:Nat)(hl:T.length<m)(hn:T.Nodup):∃k,k<m/\(∀j,j<k->(((d+j) % m:Nat):Int)∈T)/\(((d+k) % m:Nat):Int)∉T:=by
 have ex:∃k,k<m/\(((d+k) % m:Nat):Int)∉T:=by
  refine Classical.byContradiction λhno=>?_;have all   :=λk hk=>Classical.byContradiction λz=>hno ⟨k,hk,z⟩
  have hsub   :=λx hx=>by
   have h1:=all ((x+m-d % m) % m) (Nat.mod_lt _ (by lia));have e:(d+(x+m-d % m) % m) % m=x:=by have hdm:d % m<m:=Nat.mod_lt _ (by lia);rw[Nat.add_mod_mod,←Nat.mod_add_mod];rw[show d % m+(x+m-d % m)=x+m by lia,Nat.add_mod_right,Nat.mod_eq_of_lt hx]
   rw[e]at h1;exact h1
  have:=HK _ T (List.Pairwise.map _ (λa b h e=>h (by lia)) List.nodup_range) (λt ht=>by obtain⟨x,hx,rfl⟩:=Qv.mp ht;exact hsub x (JC.mp hx));rw[Qd,List.length_range]at this
  lia
 obtain⟨k,hk,hkn⟩:=ex;induction k using Nat.strongRecOn with
 |_ k ih=>
  by_cases h:∀j,j<k->(((d+j) % m:Nat):Int)∈T
  .exact⟨k,hk,h,hkn⟩
  .obtain⟨j,hj⟩:=Classical.not_forall.mp h
   obtain⟨hj1,bo⟩:=Classical.not_imp.mp hj;exact ih j hj1 (by lia) bo
def Rw{x:D}{m:Nat}(h:m<=1000):Ke (.list [x]) (.int m)=O (.list (Uv m x)):=by rw[GR ⟨by lia,by lia,by show 1*_<=_;lia⟩];simp_all
noncomputable def szA(n m:Nat):yP:=[3,2,(m:Int)+1]++Uv m ((n:Int)+1)++Uv m (m:Int)
def M5(n m):(szA n m).length=3+m+m:=by unfold szA;rw[Qj,Qj,QB,QB];rfl
def C7{n m j}(h:j<m):(szA n m)[3+j]?=O ((n:Int)+1):=by unfold szA;rw[List.getElem?_append_left (by rw[List.length_append,List.length_replicate];show 3+j<3+m;lia),List.getElem?_append_right (by simp_all)];show _[3+j-3]?=_;rw[Nat.add_sub_cancel_left,QC,Qp h]
def qx{n m j}(h:j<m):(szA n m)[3+m+j]?=O (m:Int):=by
 unfold szA;have e:([3,2,(m:Int)+1]++Uv m ((n:Int)+1)).length=3+m:=by rw[Qj,QB];rfl
 rw[List.getElem?_append_right (by simp_all),e,Nat.add_sub_cancel_left,List.getElem?_replicate,if_pos h]
section
variable{cs:yP}{ls:L3}
noncomputable def SX(d:Int):yX:=if 0<d then O (d-1)else yL
def qw(d):oIx (.list [.none,.int (d-1)]) (.int (if decide (0<d)=yM then 1 else 0))=O (Zd (SX d)):=by
 unfold SX;by_cases h:0<d
 .rw[QM h,Qp h];exact Zw  rfl
 .rw[QF h,QH h];exact Zw  rfl
def qv(g:Good cs ls)(c s:Int):∃r,Vp [Kc cs ls,.int c,.int s]=O r/\∃o old ts,r=KJ o old ts/\XM cs.length ls.length old ts:=by
 refine WO (Z:=[O (.pub (Kc cs ls)),O (.pub (.int c)),O (.pub (.int s)),yL,yL,yL,yL,yL,yL]) yK ?_;unfold TU;have l7:=g.l7;have l1:=g.l1;have c6:=g.c6;have c1:=g.c1;have zX:Kb [.list (ls.map KN)]=O (.int ls.length):=by rw[KU,Qd]
 have hlc:Kb [.list (cs.map int)]=O (.int cs.length):=by rw[KU,Qd]
 generalize hm:ls.length=m at *;generalize hn:cs.length=n at *;refine Ka (Kv (K0 (UN (Kd yK UR YY) UT) zX) (Qa yK) yK) ?_;have s1:U0 (.list [.int 3,.int 2,.int ((m:Int)+1)]) (.list (Uv m (.int ((n:Int)+1))))=O (.list (([3,2,(m:Int)+1]++Uv m ((n:Int)+1)).map int)):=by rw[Yu (by rw[QB];show 3+m<=_;lia),QQ,J5];rfl
 refine Ka (Kv (UZ (Kr (UN UR (UN UR (UN (UZ (UO yK) UR KO) UT))) (Qa yK)) (UZ (Kr (UN (UZ (K0 (UN (Kd yK UR WF) UT) hlc) UR KO) UT) (Qa yK)) (UO yK) (Rw (by lia))) s1) (Qa yK) yK) ?_;have s2:U0 (.list (([3,2,(m:Int)+1]++Uv m ((n:Int)+1)).map int)) (.list (Uv m (.int (m:Int))))=O (.list ((szA n m).map int)):=by rw[Yu (by rw[Qd,Qj,QB,QB];show 3+m+m<=_;lia)];unfold szA;rw[QQ (l₂:=Uv m (m:Int)),J5 (n:=m) (a:=(m:Int))]
 obtain⟨r,hF,dg,rfl,hdl,hdb⟩:=Tl c s (sizes:=szA n m) (λx hx=>by
  unfold szA at hx;rcases QO.mp hx with hx|hx
  .rcases QO.mp hx with hx|hx
   .have hx:x=3∨x=2∨x=(m:Int)+1:=by simpa using hx
    lia
   .rw[(JU.mp hx).2];lia
  .rw[(JU.mp hx).2];lia) (by rw[M5];lia)
 rw[M5]at hdl;refine Ka (Kv (Kh (UN (UO yK) (UN (UO yK) (UN (UZ (UO yK) (UZ (Kr (UN (UO yK) UT) (Qa yK)) (UO yK) (Rw (by lia))) s2) UT))) yK hF) (Qa yK) yK) ?_;have get:∀j,j<3+m+m->∃d,dg[j]?=O d:=λj hj=>⟨dg[j]'(by lia),Qi _⟩
 obtain⟨d0,e0⟩:=get 0 (by lia);obtain⟨d1,e1⟩:=get 1 (by lia);obtain⟨d2,e2⟩:=get 2 (by lia);have b0:=hdb 0 d0 3 e0 yK;have b1:=hdb 1 d1 2 e1 yK;have b2:=hdb 2 d2 ((m:Int)+1) e2 yK;have i0:oIx (.list (dg.map int)) (.int 0)=O (.int d0):=Zw (j:=0) (by rw[Qh,e0];rfl);have i1:oIx (.list (dg.map int)) (.int 1)=O (.int d1):=Zw (j:=1) (by rw[Qh,e1];rfl);have i2:oIx (.list (dg.map int)) (.int 2)=O (.int d2):=Zw (j:=2) (by rw[Qh,e2];rfl);refine Ka (Kv UR (Qa yK) yK) ?_
 let ol:yP:=(dg.drop 3).take m
 have oll:ol.length=m:=by show((dg.drop 3).take m).length=m;rw[Jk,JS];lia
 have olb:∀d∈ol,0<=d/\d<(n:Int)+1:=λd hd=>by
  obtain⟨j,hj,e⟩:=List.mem_iff_getElem.mp hd;have hjm:j<m:=by lia
  refine hdb (3+j) d _ ?_ (C7 hjm);have:ol[j]?=O d:=by rw[Qi hj,e]
  show dg[3+j]?=_;rw[←this];show _=((dg.drop 3).take m)[j]?;rw[List.getElem?_take,Qp hjm,List.getElem?_drop]
 have aF:DL.cutD (dg.map int) (O 3) (O (3+(m:Int)))=ol.map int:=by
  rw[Nc (by decide) (by lia) (by lia)];have t1:(3:Int).toNat=3:=rfl;have t2:(3+(m:Int)).toNat-(3:Int).toNat=m:=by lia
  rw[t2,t1]
 have step:Ho (sIf (UP oEq (UU 5 (UM (.int 1))) (UM (.int 1))) (K1 6 (ZG (KP (Zs (UJ 5) (U3 (UM (.int 3)) λx=>U7 (Z9 x)) (U3 (UP U0 (UM (.int 3)) (UJ 3)) λx=>U7 (Z9 x)))) 1 (gN 9) (UM yM) (UP oIx (U1 (UL (UM .none) (UL (UP K9 (UJ 9) (UM (.int 1))) (UK)))) (KH SZ (UL (UY Ux (KF (oIB λi j=>decide (j<i)) 9 (UM (.int 0)))) (UK)))))) (sNx))
   [O (.pub (Kc cs ls)),O (.pub (.int c)),O (.pub (.int s)),O (.pub (.int m)),O (.pub (.list (([3,2,(m:Int)+1]++Uv m ((n:Int)+1)).map int))),O (.pub (.list (dg.map int))),O (.pub .none),yL,yL]
   (λr=>∃old x6,r=.nx [O (.pub (Kc cs ls)),O (.pub (.int c)),O (.pub (.int s)),O (.pub (.int m)),O (.pub (.list (([3,2,(m:Int)+1]++Uv m ((n:Int)+1)).map int))),O (.pub (.list (dg.map int))),x6,yL,yL] /\
    (x6=O (.pub (Yj old)) ∨ ∃ws,old=O ws/\x6=O (.own (ws.map Zd)))/\(∀ws,old=O ws->ws.length=m)/\∀ws t,old=O ws->O t∈ws->0<=t/\t<n):=by
  have hc:∀a b:Option Sl,K6 (gN 9) (UM yM) (UP oIx (U1 (UL (UM .none) (UL (UP K9 (UJ 9) (UM (.int 1))) (UK)))) (KH SZ (UL (UY Ux (KF (oIB λi j=>decide (j<i)) 9 (UM (.int 0)))) (UK)))) (ol.map int) _ []=O ((ol.map SX).map Zd):=λ_ _=>by
   refine X6 (λZ=>∃x,Z=[O (.pub (Kc cs ls)),O (.pub (.int c)),O (.pub (.int s)),O (.pub (.int m)),O (.pub (.list (([3,2,(m:Int)+1]++Uv m ((n:Int)+1)).map int))),O (.pub (.list (dg.map int))),O (.pub .none),yL,yL,x]) _ _ _ _ (by simp only[Qd]) ?_ ⟨yL,rfl⟩ (by rw[Qd,Qw];lia);rintro i d e hd he Z ⟨x,rfl⟩;rw[Qh]at hd;rw[Qh,Qh]at he;cases hw:ol[i]? with
   |none=>rw[hw]at hd;cases hd
   |some z=>
   rw[hw]at hd he;cases hd;cases he;exact⟨_,UX (Qa yK) yK,rfl,UZ (Kr (UN UR (UN (UZ (UO yK) UR Y8) UT)) (Qa yK)) (K0 (UN (Kx (Zn yK UR yK)) UT) yK) (qw z),_,rfl⟩
  apply U5
  case h1=>exact UZ (Kd yK UR i1) UR ZD
  case h2=>
   intro _;refine KQ (Zv (Z6 (Zx (Ww (UO yK) (Y9 UR) (Y9 (UZ UR (UO yK) KO)) (by rw[WA,aF])) YM) (hc yL yL)) (Qa yK) yK) ?_;refine⟨O (ol.map SX),_,rfl,.inr ⟨_,rfl,rfl⟩,λws e=>?_,λws t e ht=>?_⟩
   .cases e;rw[Qd];exact oll
   .cases e
    obtain⟨d,hd,e⟩:=Qv.mp ht;have:=olb d hd;unfold SX at e;split at e
    .cases e;lia
    .cases e
  case h3=>exact λ_=>Kn ⟨yL,_,rfl,.inl yK,(λws e=>by cases e),(λws t e=>by cases e)⟩
 refine Kg (SD step λr hr=>?_);obtain⟨old,x6,rfl,hx6,hol,hob⟩:=hr;refine Kf ?_;refine Ka (Zv (Yo UT (Qa yK)) (Qa yK) yK) ?_;obtain⟨k2,rfl⟩:∃k:Nat,d2=k:=⟨d2.toNat,by lia⟩
 let tl:yP:=(dg.drop (3+m)).take k2
 have tll:tl.length=k2:=by show((dg.drop (3+m)).take k2).length=k2;rw[Jk,JS];lia
 have tlb:∀j d,tl[j]?=O d->0<=d/\d<(m:Int):=λj d hj=>by
  have zA:j<k2:=by have:=(Ql.mp hj).1;lia
  refine hdb (3+m+j) d _ ?_ (qx (by lia));rw[←hj];show _=((dg.drop (3+m)).take k2)[j]?;rw[List.getElem?_take,Qp zA,List.getElem?_drop]
 have br:DL.cutD (dg.map int) (O (3+(m:Int))) (O (3+(m:Int)+(k2:Int)))=tl.map int:=by
  rw[Nc (by lia) (by lia) (by lia)];have t1:(3+(m:Int)).toNat=3+m:=by lia
  have t2:(3+(m:Int)+(k2:Int)).toNat-(3+(m:Int)).toNat=k2:=by lia
  rw[t2,t1]
 apply Kg;apply YF (λi Z=>∃(T:yP)(x8:Option Sl),Z=[O (.pub (Kc cs ls)),O (.pub (.int c)),O (.pub (.int s)),O (.pub (.int m)),O (.pub (.list (([3,2,(m:Int)+1]++Uv m ((n:Int)+1)).map int))),O (.pub (.list (dg.map int))),x6,O (.own (T.map int)),x8]/\T.length=i/\T.Nodup/\∀a∈T,0<=a/\a<(m:Int))
 case h1=>exact Zx (Ww (UO yK) (Y9 (UZ UR (UO yK) KO)) (Y9 (UZ (UZ UR (UO yK) KO) (Kd yK UR i2) KO)) (by rw[WA,br])) YM
 case h0=>exact⟨[],_,rfl,rfl,J7,λ_ h=>by cases h⟩
 case hst=>
  rintro i d Z hi ⟨T,x8,rfl,hT,hTn,hTb⟩;rw[Qh]at hi;cases hw:tl[i]? with
  |none=>rw[hw]at hi;cases hi
  |some z=>
  rw[hw]at hi;cases hi;have hz:=tlb i z hw;have hil:i<k2:=by have:=(Ql.mp hw).1;lia
  obtain⟨zz,rfl⟩:∃k:Nat,z=k:=⟨z.toNat,by lia⟩
  refine⟨_,UX (Qa yK) yK,?_⟩;unfold Lb;obtain⟨k,hk,hk1,hk2⟩:=wl (m:=m) (T:=T) zz (by lia) hTn;refine Ka (GB (by lia) k 1000 zz hk1 hk2 (by lia) (by lia)) ?_;refine KQ (Wx yK (UO yK) yK (by rw[Qd];lia) yK) ?_;refine Yb ⟨T++[(((zz+k) % m:Nat):Int)],_,by rw[QQ (l₁:=T) (f:=int)];rfl,by rw[Qj,hT];rfl,?_,λa ha=>?_⟩
  .refine List.nodup_append.mpr ⟨hTn,List.nodup_cons.mpr ⟨(by simp),List.nodup_nil⟩,λa ha b hb e=>?_⟩
   rw[QN.mp hb]at e;exact hk2 (e ▸ ha)
  .rcases QO.mp ha with h|h
   .exact hTb a h
   .rw[QN.mp h]
    have:=Nat.mod_lt (zz+k) (show 0<m by lia);exact⟨by lia,by lia⟩
 case hend=>
  rintro Z ⟨T,x8,rfl,hT,hTn,hTb⟩;refine Kf ?_
  obtain⟨o,ho⟩:∃o:Ord,oIx (.list [.str "firsts", .str "full", .str "lasts"]) (.int d0)=O (.str o.tx):=by
   have:d0=0∨d0=1∨d0=2:=by lia
   rcases this with rfl|rfl|rfl
   .exact⟨.firsts,Zw (j:=0) yK⟩
   .exact⟨.full,Zw (j:=1) yK⟩
   .exact⟨.lasts,Zw (j:=2) yK⟩
  have ga:XM n m old T:=⟨hol,hob,hTn,hTb⟩;rcases hx6 with rfl|⟨ws,rfl,rfl⟩
  .exact U4 (ZM (UN (UZ (Kr (UN UR (UN UR (UN UR UT))) (Qa yK)) (Kd yK UR i0) ho) (UN (UO yK) (UN (K2 yK yK) UT))) (Qa yK)) ⟨_,rfl,o,_,T,rfl,ga⟩
  .exact U4 (ZM (UN (UZ (Kr (UN UR (UN UR (UN UR UT))) (Qa yK)) (Kd yK UR i0) ho) (UN (K2 yK yK) (UN (K2 yK yK) UT))) (Qa yK)) ⟨_,rfl,o,O ws,T,rfl,ga⟩
end
def C6  {j}{f}{Z Z1 Z':US}{a b}{d}(h0:Z[j]?=O (O (.pub (.int a))))(h1:f Z=.ok (.int b) Z1)(h2:op a b=O d)(h3:j<Z1.length)(h4:Z1.set j (O (.pub d))=Z'):Xx op j f Z=.nx Z':=by unfold Xx;dsimp only[sB];simp_all
def mulN{i j}(h : -1000<j/\j<1000):Xc i j=O (.int (i*j)):=by exact Qp (.inr ⟨by lia,by lia⟩)
def RI{b n:Int}(hb : -1000<b/\b<1000)(hn : -1000<=n/\n<=1000):Zu [.int b,.int n]=O (.int (b ^ n.toNat)):=by
 refine KZ  rfl ?_;refine Ka (Kv UR (Qa yK) yK) ?_;apply Kg;apply YF (λi Z=>∃x3,Z=[O _,O _,O (.pub (.int (b ^ i))),x3])
 case h1=>exact WQ (UN (UO yK) UT) (WV (by lia) (by lia))
 case h0=>exact⟨_,by rw[Int.pow_zero];rfl⟩
 case hst=>rintro i d Z hi ⟨x3,rfl⟩;refine⟨_,UX (Qa yK) yK,?_⟩;refine KQ (C6 yK (UO yK) (mulN hb) (Qa yK) yK) ?_;exact Yb ⟨_,by rw[Int.pow_succ];rfl⟩
 case hend=>
  rintro Z ⟨x3,rfl⟩;refine Kf (U4 (UO rfl) ?_);rw[X7]
  lia
noncomputable def Zz:Ord->Int->Int->Int->Int
 |.firsts,b,M,r=>b ^ (M-r).toNat
 |.full,b,M,r=>b ^ M.toNat+b ^ (M-r).toNat
 |.lasts,b,M,r=>b ^ M.toNat-b ^ (r-1).toNat
def wO(o:Ord){b M r:Int}(hb : -1000<b/\b<1000)(hM:0<=M/\M<=100)(hr:0<=r/\r<=100):Vv [.str o.tx,.int b,.int M,.int r]=O (.int (Zz o b M r)):=by
 refine KZ  rfl ?_;unfold TZ;have p1:Zu [.int b,.int (M-r)]=O (.int (b ^ (M-r).toNat)):=RI hb ⟨by lia,by lia⟩;have p2:Zu [.int b,.int M]=O (.int (b ^ M.toNat)):=RI hb ⟨by lia,by lia⟩;have p3:Zu [.int b,.int (r-1)]=O _:=RI hb ⟨by lia,by lia⟩;apply Kg;apply U5
 case h1=>exact Zn yK UR (DM o)
 case h2=>
  intro h;cases o with
  |firsts=>exact U4 (Kh (UN (UO yK) (UN (UZ (UO yK) (UO yK) Y8) UT)) yK p1) (Ks yK)
  |full=>cases h
  |lasts=>cases h
 case h3=>
  intro h;refine Kn (Kf ?_);apply Kg;apply U5
  case h1=>exact Zn yK UR (Mw o)
  case h2=>
   intro h';cases o with
   |full=>exact U4 (UZ (Kh (UN (UO yK) (UN (UO yK) UT)) yK p2) (Kh (UN (UO yK) (UN (UZ (UO yK) (UO yK) Y8) UT)) yK p1) KO) (Ks yK)
   |firsts=>cases h
   |lasts=>cases h'
  case h3=>
   intro h';refine Kn (Kf ?_);cases o with
   |firsts=>cases h
   |full=>cases h'
   |lasts=>exact U4 (UZ (Kh (UN (UO yK) (UN (UO yK) UT)) yK p2) (Kh (UN (UO yK) (UN (UZ (UO yK) UR Y8) UT)) yK p3) Y8) yK
noncomputable def Xl(ts:yP)(b i r:Int):Int:=if i∈ts then(b-r)*b ^ (ts.length-1-ts.idxOf i)else 0
theorem FI  : ∀{xs:yO},(∀x∈xs,PyData.weight x<=n)->PyData.weightAll xs<=xs.length*(n+1)
 |[],_=>by simp[PyData.weightAll]
 |x::xs,h=>by
  have h1:=h x Qn;have h2:=FI  λy hy=>h y (Qm _ hy);rw[PyData.weightAll,QD]
  lia
def wk  (h:0<=i/\i<1000):(int i).weight<=10:=by
 simp only[PyData.weight];split
 .lia
 .have h0:i.natAbs≠0:=by simp_all
  have:=(Nat.log2_lt h0 (k:=10)).mpr (by lia)
  lia
def w4{ts:yP}(h:∀a∈ts,0<=a/\a<1000)(hl:ts.length<=1000):PyData.layable0 (.list (ts.map int))=yM:=by
 unfold PyData.layable0;have h1:(Uw (ts.map int)).canLay0=yM:=SQ λx hx=>by obtain⟨y,_,rfl⟩:=Qv.mp hx;rfl
 have h2:(Uw (ts.map int)).depth<=64:=QE (OW (n:=1) (PQ λx hx=>by obtain⟨y,_,rfl⟩:=Qv.mp hx;exact M9 y)) (by decide)
 have h3:(Uw (ts.map int)).weight<=2 ^ 20:=by
  have:=FI  (xs:=ts.map int) λx hx=>by obtain⟨y,hy,rfl⟩:=Qv.mp hx;exact wk (h y hy)
  rw[Qd]at this;simp only[PyData.weight]
  lia
 rw[h1,QM h2,QM h3];rfl
def qu{ts:yP}{k}(hb:∀a∈ts,0<=a/\a<1000)(hl:ts.length<=1000)(h:k∈ts):SA (.list (ts.map int)) [.int k]=O (.int (ts.idxOf k:Nat)):=by unfold SA;dsimp only;rw[Tn];exact Qp ⟨w4 hb hl,h⟩
def qt  {r:yP}:YS (.int t) (.list (r.map int))=O (!r.contains t):=by unfold YS;rw[Pt];rfl
def wN  {b i r:Int}(hb : -1000<b/\b<1000)(hr : -1000<r/\r<1000)(hl:ts.length<=100)(ht:∀a∈ts,0<=a/\a<1000):Vu [.list (ts.map int),.int b,.int i,.int r]=O (.int (Xl ts b i r)):=by
 refine KZ  rfl ?_;unfold TY Xl;apply Kg;apply U5
 case h1=>exact Zn yK (UO yK) qt
 case h2=>
  intro h;have:¬i∈ts:=by simpa using h
  rw[QH this];exact U4 UR (Ks yK)
 case h3=>
  intro h;have hm:i∈ts:=by simpa using h
  rw[Qp hm];refine Kn (Kf ?_);have hi:=List.idxOf_lt_length_of_mem hm;have hlen:Kb [.list (ts.map int)]=O (.int ts.length):=by rw[KU,Qd]
  refine Ka (Kv (UZ (UZ (KW yK hlen) UR Y8) (jP (UO yK) (UN (UO yK) UT) (qu ht (by lia) hm)) Y8) (Qa yK) yK) ?_;have hp:=RI (b:=b) (n:=(ts.length:Int)-1-(ts.idxOf i:Nat)) hb ⟨by lia,by lia⟩;have e:((ts.length:Int)-1-(ts.idxOf i:Nat)).toNat=ts.length-1-ts.idxOf i:=by lia
  rw[e]at hp;exact U4 (UZ (UZ (UO yK) (UO yK) Y8) (Kh (UN (UO yK) (UN (UO yK) UT)) yK hp) (WW (by lia) (by lia))) yK
noncomputable def YX(old:y0)(i:Nat)(t:Int):Int:=match old with
 |none=>0
 |some ws=>if ws[i]?=O (O t)then 1 else 0
section
variable{cs:yP}{ls:L3}{o:Ord}{old:y0}{ts:yP}
def Yh(ls:L3)(o:Ord)(old:y0)(ts:yP)(i:Nat)(rs:List yP)(t:Int):Int:=
 (Zz o (ls.length+1) (lng ls) (Zo t rs)*(ls.length+1)+YX old i t)*((lng ls:Int)+1) ^ ts.length+Xl ts (lng ls+1) i (Zo t rs)
def HJ{b:Int}(h0:0<=b)(h:b<=8):∀{n k},n<=k->b ^ n<=8 ^ k:=λ{n k} hk=>by
 have e:b=((b.toNat)):=by lia
 rw[e];have h1:b.toNat ^ n<=8 ^ n:=Nat.pow_le_pow_left (by lia) n;have h2:8 ^ n<=8 ^ k:=Nat.pow_le_pow_right (by lia) hk
 lia
def km(g:Good cs ls)(ga:XM cs.length ls.length old ts){i:Nat}{rs:List yP}(hi:ls[i]?=O rs)(t:Int):XE [Kc cs ls,KJ o old ts,.int (lng ls:Nat),.int i,.int t]=O (.int (Yh ls o old ts i rs t)):=by
 have l7:=g.l7;have l1:=g.l1;have hL:lng ls<=5:=Ot l1 λrs h=>(g.rk rs h).few;have hrk:Zo t rs<=5:=by have:=NC t rs;have:=(g.rk rs (Qr hi)).few;lia
 have htl:=ga.few;have hlt:i<ls.length:=(Ql.mp hi).1;refine KZ (Z:=[O (.pub (Kc cs ls)),O (.pub (KJ o old ts)),O (.pub (.int (lng ls:Nat))),O (.pub (.int i)),O (.pub (.int t)),yL,yL,yL,yL,yL,yL,yL,yL]) yK ?_;unfold TX Yh;refine Ka (Xm (UO yK) (KD yK (U6 (UX (Qa yK) yK) (U6 (UX (Qa yK) yK) (U6 (UX (Qa yK) yK) KE))))) ?_;refine Ka (Kv (Kd yK UR YY) (Qa yK) yK) ?_;refine Ka (Kv (Kh (UN (Kd yK (UO yK) (NW hi)) (UN (UO yK) UT)) yK (wo t rs)) (Qa yK) yK) ?_;have zX:Kb [.list (ls.map KN)]=O (.int ls.length):=by rw[KU,Qd]
 have htl':Kb [.list (ts.map int)]=O (.int ts.length):=by rw[KU,Qd]
 refine Ka (Kv (UZ (KW yK zX) UR KO) (Qa yK) yK) ?_
 have hk:∀Z:US,Z[6]?=O (O (.pub (Yj old)))->Z[3]?=O (O (.pub (.int i)))->Z[4]?=O (O (.pub (.int t))) ->
   mIf (Ze (UY (λd=>!isNon d) (UJ 6)) (UP oEq (UU 6 (UJ 3)) (UJ 4))) (UM (int 1)) (UM (.int 0)) Z=.ok (.int (YX old i t)) Z:=λZ r6 r3 r4=>by
  cases old with
  |none=>exact CO (Lr (Kx (UO r6))) UR
  |some ws=>
   have hw:ws.length=ls.length:=ga.len ws yK;have hwi:ws[i]?=O ws[i]:=Qi (by lia);have hx:oIx (.list (ws.map Zd)) (.int i)=O (Zd ws[i]):=Mz (by lia)
   have ht:(Ze (UY (λd=>!isNon d) (UJ 6)) (UP oEq (UU 6 (UJ 3)) (UJ 4))) Z=.ok (decide (ws[i]=O t)) Z:=
    Lq (Kx (UO r6)) (UZ (Kd r6 (UO r3) hx) (UO r4) (Mx (b:=O t)))
   rw[Ej ht UR UR]
   congr 1
   unfold YX;dsimp only;rw[hwi];by_cases h:ws[i]=O t
   .rw[QM h,Qp yK,Qp (by rw[h])]
   .rw[QF h,QH (by decide),QH (λe=>h (QW e))]
 refine Ka (Kv (hk _ yK yK yK) (Qa yK) yK) ?_;have h1:=wO o (b:=(ls.length:Int)+1) (M:=(lng ls:Nat)) (r:=(Zo t rs:Nat)) ⟨by lia,by lia⟩ ⟨by lia,by lia⟩ ⟨by lia,by lia⟩;have h2:=RI (b:=(lng ls:Int)+1) (n:=(ts.length:Nat)) ⟨by lia,by lia⟩ ⟨by lia,by lia⟩;have h3:=wN (ts:=ts) (b:=(lng ls:Int)+1) (i:=i) (r:=(Zo t rs:Nat)) ⟨by lia,by lia⟩ ⟨by lia,by lia⟩ (by lia) (λa ha=>by have:=ga.there a ha;lia);rw[JD]at h2;refine Ka (Kv (UZ (UZ (Kh (UN (UO yK) (UN (UO yK) (UN (UO yK) (UN (UO yK) UT)))) yK h1) (UO yK) (XU (by lia) (by lia))) (UO yK) KO) (Qa yK) yK) ?_;have hp:((lng ls:Int)+1) ^ ts.length<=8 ^ 7:=HJ (by lia) (by lia) (by lia);exact U4 (UZ (UZ (UO yK) (Kh (UN (UZ (UO yK) UR KO) (UN (KW yK htl') UT)) yK h2) (XU (by lia) (by lia))) (Kh (UN (UO yK) (UN (UZ (UO yK) UR KO) (UN (UO yK) (UN (UO yK) UT)))) yK h3) KO) yK
end
theorem NB   {g:M D}(I:US->Prop):∀(ds:yO)(qs:List yQ)(Z:US)(es:yO),qs.length=ds.length ->
  (∀(i:Nat) d e,ds[i]?=O d->qs[i]?=O e->∀Z,I Z->∃Z1,s d Z=O Z1/\t Z1=.ok e.isSome Z1/\(∀x,e=O x->g Z1=.ok x Z1)/\I (Kt Z1))->I Z->es.length+ds.length<=1000000->K6 s t g ds Z es=O (es++qs.filterMap id)
 |[],[],Z,es,_,_,_,_=>by rw[K6];simp
 |d::r,e::q,Z,es,hl,st,h0,hz=>by
  obtain⟨Z1,e1,e2,e3,h1⟩:=st 0 d e yK yK Z h0;rw[QD]at hz;have ih:=λes' hz'=>NB I r q (Kt Z1) es' (by simpa using hl) (λi d' e' x y=>st (i+1) d' e' (by simpa using x) (by simpa using y)) h1 hz'
  rw[K6,e1];dsimp only;rw[e2];dsimp only;cases e with
  |none=>rw[ih es (by lia)];rfl
  |some x=>rw[Qp (show(O x).isSome=yM from rfl),e3 x yK];dsimp only;rw[Qp (by lia),ih (es++[x]) (by rw[Qj,Jd];lia),QS];rfl
section
variable{cs:yP}{ls:L3}{o:Ord}{old:y0}{ts:yP}{ws:LO}
def Zk(ls:L3)(o:Ord)(old:y0)(ts:yP)(a t:Int):Int:=Yh ls o old ts a.toNat (ls.getD a.toNat []) t
noncomputable def SW(V:Int->Int->Int)(q:Int×Int):D:=.tuple [.int q.1,.int q.2,.int (V q.1 q.2)]
def yq(g:Good cs ls)(ga:XM cs.length ls.length old ts):Sf [Kc cs ls,KJ o old ts]=O (.list ((Kq 0 ls).map (SW (Zk ls o old ts)))):=by
 refine KZ  rfl ?_;unfold g_av;refine Ka (VI (Kh (UN (UO yK) (UN (UO yK) UT)) yK (DK g ga))) ?_;refine Ka (Kv (Kh (UN (UO yK) UT) yK (wn g)) (Qa yK) yK) ?_;have few:(Kq 0 ls).length<=42:=by rw[(SO ls 0).length_eq];exact Pu g
 have hc:K6 (gT 2 (gNC (gN 3) (gNC (gN 4) (gN0)))) (UM yM) (Ky (UL (UJ 3) (UL (UJ 4) (UL (UV 5 XE (UL (UJ 0) (UL (UJ 1) (UL (UJ 2) (UL (UJ 3) (UL (UJ 4) (UK))))))) (UK))))) ((Kq 0 ls).map Kl) (Kt [O (.pub (Kc cs ls)),O (.pub (KJ o old ts)),O (.pub (.int (lng ls:Nat)))]++Uv 2 yL) []=O ((Kq 0 ls).map (SW (Zk ls o old ts))):=by
  refine X6 (λZ=>∃x y,Z=[O (.pub (Kc cs ls)),O (.pub (KJ o old ts)),O (.pub (.int (lng ls:Nat))),x,y]) _ _ _ _ (by simp only[Qd]) ?_ ⟨yL,yL,rfl⟩ (by rw[Qd,Qw];lia);rintro i d e hd he Z ⟨x,y,rfl⟩;rw[Qh]at hd he;cases hw:(Kq 0 ls)[i]? with
  |none=>rw[hw]at hd;cases hd
  |some q=>
  rw[hw]at hd he;cases hd;cases he;obtain⟨a,t⟩:=q;obtain⟨j,rs,hj,ha,ht⟩:=VR (Qr hw);have ha:a=(j:Int):=by rw[JR]at ha;exact ha
  subst ha;have hv:Zk ls o old ts j t=Yh ls o old ts j rs t:=by unfold Zk;rw[JD,Jg,hj];rfl
  refine⟨_,KD yK (U6 (UX (Qa yK) yK) (U6 (UX (Qa yK) yK) KE)),rfl,?_,_,_,rfl⟩;unfold SW;dsimp only;rw[hv];exact ZM (UN (UO yK) (UN (UO yK) (UN (Kh (UN (UO yK) (UN (UO yK) (UN (UO yK) (UN (UO yK) (UN (UO yK) UT))))) yK (km g ga hj t)) UT))) (Qa yK)
 exact U4 (Kx (Z6 (Zx (Kh (UN (UO yK) UT) yK (yt g)) YM) hc)) yK
end
section
variable{cs:yP}{ls:L3}{ws:LO}
def yG(g:Good cs ls):Vr [Kc cs ls]=O (.int (lng ls:Nat)):=by
 refine KZ  rfl ?_
 have hc:K6 (gN 1) (UM yM) (KB 1) (ls.map KN) (Kt [O (.pub (Kc cs ls))]++Uv 1 yL) []=O ((ls.map λrs=>(rs.length)).map int):=by
  refine X6 (λZ=>∃x,Z=[O _,x]) _ _ _ _ (by rw[Qd,Qd,Qd]) ?_ ⟨yL,rfl⟩ (by rw[Qd,Qw];have:=g.l7;lia);rintro i d e hd he Z ⟨x,rfl⟩;rw[Qh]at hd;rw[Qh,Qh]at he;cases hl:ls[i]? with
  |none=>rw[hl]at hd;cases hd
  |some rs=>
  rw[hl]at hd he;cases hd;cases he;exact⟨_,UX (Qa yK) yK,rfl,KW yK (HL rs),_,rfl⟩
 refine U4 (K0 (UN (Kx (Z6 (Zx (Kd yK UR YY) YM) hc)) UT) (Nf (by rw[Qd];have:=g.l1;lia))) ?_;rw[OM g.l1]
def wM{i:Nat}{rs:List yP}(h:ls[i]?=O rs)(t:Int):Vs [Kc cs ls,.int i,.int t]=O (.int (Zo t rs:Nat)):=by
 refine KZ  rfl ?_;apply Kg;apply YF (λi' Z=>(∃x2 x3,Z=[O (.pub (Kc cs ls)),O (.pub (.int i)),O (.pub (.int t)),x2,x3])/\∀j r,j<i'->rs[j]?=O r->r.contains t=yN)
 case h1=>exact WC (UN (UZ (Kd yK UR YY) (UO yK) (NW h)) UT) WB
 case h0=>exact⟨⟨_,_,rfl⟩,λj r h=>absurd h (Nat.not_lt_zero _)⟩
 case hst=>
  rintro k d Z hi ⟨⟨x2,x3,rfl⟩,hb⟩;obtain⟨x,hx,rfl⟩:=VS hi;rw[Qh]at hx;cases hr:rs[k]? with
  |none=>rw[hr]at hx;cases hx
  |some r=>
   rw[hr]at hx;cases hx;refine⟨_,KD yK (U6 (UX (Qa yK) yK) (U6 (UX (Qa yK) yK) KE)),?_⟩;apply U5
   case h1=>exact Zn yK (UO yK) (PD t r)
   case h2=>
    intro hh;refine U4 (UZ (UO yK) UR KO) (RL ?_);rw[HN hr hh hb];refine⟨?_⟩
    congr 2
    lia
   case h3=>
    intro hh;refine Kn (Yb ⟨⟨_,_,rfl⟩,λj r' hj e=>?_⟩);rcases Nat.lt_succ_iff_lt_or_eq.mp hj with hj|rfl
    .exact hb j r' hj e
    .rw[hr]at e;cases e;exact hh
 case hend=>rintro Z ⟨⟨x2,x3,rfl⟩,hb⟩;refine Kf (U4 UR ?_);rw[HM (λj r hj e=>hb j r (by rw[WY,Qd];exact hj) e)];rfl
end
def HF   : (DL.cutD xs a b).length<=xs.length:=by
 unfold DL.cutD;rw[Jk,JS]
 lia
def HE    (h:x∈DL.cutD xs a b):x∈xs:=by exact List.mem_of_mem_drop (J8 h)
def kj{ns:yP}{n}{a b}{i:Nat}{x:D}(h:(int n::DL.cutD (ns.map int) a b)[i]?=O x):∃c:Int,x=.int c:=by
 have hm:=Qr h;rcases Qs.mp hm with rfl|hm
 .exact⟨n,rfl⟩
 .obtain⟨c,_,rfl⟩:=Qv.mp (HE hm)
  exact⟨c,rfl⟩
def ki{ns:yP}{n}{a b}(h:ns.length<=1000):U0 (.list [.int n]) (.list (DL.cutD (ns.map int) a b))=O (.list (int n::DL.cutD (ns.map int) a b)):=Yu (by
 have:=HF (xs:=ns.map int) (a:=a) (b:=b);rw[Qd]at this;show 1+_<=_
 lia)
def qp(a b:Str):UC (.str a) (.str b)=(a==b):=rfl
theorem O6(z):∀(ys:List Str),((ys.map Uy).any λy=>UC y (.str z))=ys.contains z
 |[]=>rfl
 |y::r=>by
  rw[QI,List.any_cons,O6 z r,QY,qp];by_cases h:y=z
  .subst h;simp
  .have h1:(y==z)=yN:=by simpa using h
   have h2:(z==y)=yN:=by simpa using Ne.symm h
   rw[h1,h2]
theorem O5:∀{ys:List Str},(∀y∈ys,Uz y=yM)->UA (ys.map Uy)=yM
 |[],_=>rfl
 |y::r,h=>by
  show(Uz y&&UA _)=yM
  rw[h y Qn,O5 λx hx=>h x (Qm _ hx)];rfl
def qo  {ys:List Str}(hz:Uz z=yM)(hy:∀y∈ys,Uz y=yM):oIn (.str z) (.tuple (ys.map Uy))=O (ys.contains z):=by unfold oIn;dsimp only;rw[Qp ⟨hz,O5 hy,Gd⟩,O6]
def qm  {ys:List Str}(hz:Uz z=yM)(hy:∀y∈ys,Uz y=yM):oIn (.str z) (.list (ys.map Uy))=O (ys.contains z):=by unfold oIn;dsimp only;rw[Qp ⟨hz,O5 hy,Gd⟩,O6]
noncomputable def whB:D->Bool
 |.int _=>yM
 |_=>yN
noncomputable def Ki(n:Int):D->Bool
 |.int i=>decide (0<=i)&&decide (i<n)
 |_=>yN
def rkB(n:Int):D->Bool
 |.list (x::xs)=>(x::xs).all (Ki n)
 |_=>yN
noncomputable def whI:D->yX
 |.int i=>O i
 |_=>yL
def itI:D->yP
 |.list xs=>xs.filterMap whI
 |_=>[]
def flI(rs:yO):yP:=rs.flatMap itI
def ZB(n:Int):D->Bool
 |.list rs=>decide (rs.length<=5)&&(rs.all (rkB n)&&decide (flI rs).Nodup)
 |_=>yN
def W1(n)(rs:yO):ZB n (.list rs)=(decide (rs.length<=5)&&(rs.all (rkB n)&&decide (flI rs).Nodup)):=rfl
def SN(d):YA [d]=O (.bool (whB d)):=by
 cases d with
 |dict kvs=>exact KZ  rfl (U4 (ZU  (u:=yN) (Pg (UO yK)) λz=>by cases z) yK)
 |_=>rfl
def PL(d)(n):Zf [d,.int n]=O (.bool (Ki n d)):=by
 refine KZ  rfl ?_;cases d with
 |int i=>exact U4 (ZU   (Kh (UN (UO yK) UT) yK (SN _)) (λ_=>Kx (VW UR (UO yK) yK (λ_=>UO yK) (λ_=>rfl)))) yK
 |_=>exact U4 (ZU (t:=yN) (u:=yN) (Kh (UN (UO yK) UT) yK (SN _)) (λz=>by cases z)) yK
def O4   (h:Ki n d=yM):∃i,d=.int i/\0<=i/\i<n:=by
 cases d with
 |int i=>have h:(decide _&&decide _)=yM:=h;simp_all
 |_=>cases h
theorem PJ  : ∀{xs:yO},xs.all (Ki n)=yM->xs=(xs.filterMap whI).map int
 |[],_=>rfl
 |x::r,h=>by rw[Ji,Qz]at h;obtain⟨i,rfl,_⟩:=O4 h.1;have ih:=PJ h.2;show _=(i::r.filterMap whI).map int;rw[QI,←ih]
def DJ   (h:rkB n d=yM):d=.list ((itI d).map int):=by
 cases d with
 |list xs=>
  cases xs with
  |nil=>cases h
  |cons x r=>exact Uh Uw (PJ h)
 |_=>cases h
def RN  (xs:yO):ZH [.list (xs.map λd=>.bool (q d))]=O (.bool (xs.all q)):=by
 have:(xs.map λd=>Ux (q d))=(xs.map q).map Ux:=by rw[Q0];rfl
 rw[this,ON];simp_all
def wL{d:D}{n:Int}(hl:∀xs,d=.list xs->xs.length<=700):Xk [d,.int n]=O (.bool (rkB n d)):=by
 refine KZ  rfl ?_;unfold T4;apply Kg;cases d with
 |list xs=>
  have hl:=hl xs yK;apply U5 (b:=decide ((xs.length:Int)=0))
  case h1=>exact Zq  (KS (UO yK) yK) (UZ (KW yK KU) UR ZD)
  case h2=>intro hh;have e:xs=[]:=List.eq_nil_of_length_eq_zero (by lia);subst e;exact U4 UR (Ks yK)
  case h3=>
   intro hh;have hne:¬(xs.length:Int)=0:=by simpa using hh
   refine Kn (Kf ?_)
   have hc:K6 (gN 2) (UM yM) (UV 2 Zf (UL (UJ 2) (UL (UJ 1) (UK)))) xs (Kt [O (.pub (.list xs)),O (.pub (.int n))]++Uv 1 yL) []=O (xs.map λd=>.bool (Ki n d)):=by
    rw[XS (λ_=>yM) (λd=>.bool (Ki n d)) (λZ=>∃x,Z=[O (.pub (.list xs)),O (.pub (.int n)),x])]
    .rw[Q9.mpr (λ_ _=>rfl),QR]
    .rintro d hm Z ⟨x,rfl⟩
     exact⟨_,UX (Qa yK) yK,rfl,λ_=>Kh (UN (UO yK) (UN (UO yK) UT)) yK (PL d n),_,rfl⟩
    .exact⟨yL,rfl⟩
    .rw[Qw];lia
   refine U4 (K0 (UN (Kx (Z6 (Zx (UO yK) yK) hc)) UT) (RN xs)) ?_;cases xs with
   |nil=>exact absurd yK hne
   |cons x r=>rfl
 |dict kvs=>exact U5 (b:=yM) (Zb (YE (UO yK))) (λ_=>U4 UR (Ks yK)) (λz=>by cases z)
 |_=>exact U5 (b:=yM) (Zb (KS (UO yK) yK)) (λ_=>U4 UR (Ks yK)) (λz=>by cases z)
def kh{ns:yP}:∀i,(PyProof.Rows.firstMet (λi=>ns.getD i 0) i).length<=i:=by
 intro i;induction i with
 |zero=>exact Qo _
 |succ i ih=>
  rw[PyProof.Rows.firstMet_succ];unfold PyProof.Rows.step_dedup;split
  .lia
  simp_all
def wZ{ns:yP}(h:V5 ns=ns.length):ns.Nodup:=by
 have key:∀i,i<=ns.length->(PyProof.Rows.firstMet (λi=>ns.getD i 0) i).length=i->(ns.take i).Nodup:=by
  intro i;induction i with
  |zero=>intro _ _;simp
  |succ i ih=>
   intro hi e;rw[PyProof.Rows.firstMet_succ]at e;unfold PyProof.Rows.step_dedup at e;cases hany:(PyProof.Rows.firstMet _ i).any _ with
   |true=>
    rw[hany,Qp yK]at e;have:=kh (ns:=ns) i
    lia
   |false=>
    rw[hany,QH (by decide),Qj]at e;have e   :=by simpa using e
    have ih:=ih (by lia) e;rw[Jf (by lia),Jp];refine⟨ih,by simp,λa ha b hb=>?_⟩;rw[QN]at hb;subst hb;rw[PyProof.Rows.firstMet_any,List.any_eq_false]at hany;obtain⟨j,hj,rfl⟩:=List.mem_take_iff_getElem.mp ha;have hj':j<i:=by have:=hj;lia
    have:=hany (ns.getD j 0) (Qv.mpr ⟨j,JC.mpr hj',rfl⟩);have l1:j<ns.length:=by lia
    have l2:i<ns.length:=by lia
    simp only[List.getD,Qi l1,Qi l2,Option.getD_some,beq_iff_eq]at this;exact this
 have:=key ns.length (Qo _) h;rwa[J0]at this
def HI{ns:yP}(h:ns.length<=3500):∃u:Nat,X4 [.list (ns.map int)]=O (.int u)/\decide ((u:Int)=ns.length)=decide ns.Nodup:=by
 refine⟨V5 ns,?_,?_⟩
 .unfold X4
  dsimp only;rw[Tn];dsimp only;rw[Qp (by lia)]
 .by_cases e:ns.Nodup
  .rw[NG e,decide_eq_true e];simp
  .rw[QF e,QF]
   intro z;exact e (wZ (by lia))
def Vd(d:D):Prop:=∀rs,d=.list rs->∀xs,.list xs∈rs->xs.length<=700
theorem Fc  : ∀{rs},rs.all (rkB n)=yM->(∀xs,.list xs∈rs->xs.length<=700)->∃ls:List yP,rs=ls.map K4/\flI rs=ls.flatten/\ls.flatten.length<=700*rs.length
 |[],_,_=>⟨[],rfl,rfl,by simp⟩
 |d::r,h,hs=>by
  rw[Ji,Qz]at h;obtain⟨ls,e1,e2,e3⟩:=Fc h.2 λxs hx=>hs xs (Qm _ hx)
  have hd:=DJ h.1;have hl:=hs _ (by rw[←hd];exact Qn);rw[Qd]at hl;refine⟨itI d::ls,?_,?_,?_⟩
  .rw[QI,←e1]
   exact Uh (· :: r) hd
  .show itI d++flI r=_
   rw[e2,Je]
  .rw[Je,Qj,QD];lia
def wY{d:D}{n:Int}(hs:Vd d):Xj [d,.int n]=O (.bool (ZB n d)):=by
 refine KZ (Z:=[O (.pub d),O (.pub (.int n)),yL]) yK ?_;unfold Vc;apply Kg;cases d with
 |list rs=>
  have hs:=hs rs yK;apply U5 (b:=decide ((5:Int)<rs.length))
  case h1=>exact Zq (Z1:=[O (.pub (.list rs)),O (.pub (.int n)),yL]) (KS (UO yK) yK) (UZ (KW yK KU) UR yK)
  case h2=>
   intro hh;have:(5:Int)<(rs.length:Int):=by simpa using hh
   refine U4 UR (Ks ?_);rw[W1,QF (by lia:¬rs.length<=5)];rfl
  case h3=>
   intro hh;refine Kn (Kf ?_)
   have hc:K6 (gN 3) (UM yM) (UV 2 Xk (UL (UJ 3) (UL (UJ 1) (UK)))) rs (Kt [O (.pub (.list rs)),O (.pub (.int n)),yL]++Uv 1 yL) []=O (rs.map λd=>.bool (rkB n d)):=by
    rw[XS (λ_=>yM) (λd=>.bool (rkB n d)) (λZ=>∃x,Z=[O (.pub (.list rs)),O (.pub (.int n)),yL,x])]
    .rw[Q9.mpr (λ_ _=>rfl),QR]
    .rintro d hm Z ⟨x,rfl⟩
     exact⟨_,UX (Qa yK) yK,rfl,λ_=>Kh (UN (UO yK) (UN (UO yK) UT)) yK (wL (λxs e=>hs xs (by rw[←e];exact hm))),_,rfl⟩
    .exact⟨yL,rfl⟩
    .rw[Qw];lia
   apply Kg;apply U5
   case h1=>exact Zr (ZN (K0 (UN (Kx (Z6 (Zx (UO yK) yK) hc)) UT) (RN rs)))
   case h2=>
    intro hh;have e:rs.all (rkB n)=yN:=by simpa using hh
    refine U4 UR (Ks ?_);rw[W1,e,Bool.false_and,JL]
   case h3=>
    intro hh;have e:rs.all (rkB n)=yM:=by simpa using hh
    refine Kn (Kf ?_);obtain⟨ls,e1,e2,e3⟩:=Fc e hs;have hfl:ls.flatten.length<=3500:=by lia
    subst e1;have h2:V7 (KP (UJ 0)) 2 (gN 3) (UM yM) (KP (UJ 3)) (gN 4) (UM yM) (UJ 4) [O (.pub (.list (ls.map K4))),O (.pub (.int n)),yL]=.ok (ls.flatten.map int) [O (.pub (.list (ls.map K4))),O (.pub (.int n)),yL]:=by unfold V7;have e1:KP (UJ 0) [O (.pub (.list (ls.map K4))),O (.pub (.int n)),yL]=.ok (ls.map K4) [O (.pub (.list (ls.map K4))),O (.pub (.int n)),yL]:=Zx (UO yK) yK;rw[e1];dsimp only;have e2:=NO (a:=.list (ls.map K4)) (b:=.int n) ls [] yL yL (by rw[Qw];lia);have e3:X2 (gN 3) (UM yM) (KP (UJ 3)) (gN 4) (UM yM) (UJ 4) (ls.map K4) (Kt [O (.pub (.list (ls.map K4))),O (.pub (.int n)),yL]++Uv 2 yL) []=O ([]++ls.flatten.map int):=e2;rw[e3];rfl
    refine Ka (Zv h2 (Qa yK) yK) ?_;obtain⟨u,hu1,hu2⟩:=HI hfl;refine U4 (Kx (UZ (K0 (UN (K2 yK yK) UT) hu1) (KW yK KU) ZD)) ?_;rw[Qd,hu2];rw[W1,QM (by lia:(ls.map K4).length<=5),e,e2,Jt,Jt]
 |dict kvs=>exact U5 (b:=yM) (Zb (YE (UO yK))) (λ_=>U4 UR (Ks yK)) (λz=>by cases z)
 |_=>exact U5 (b:=yM) (Zb (KS (UO yK) yK)) (λ_=>U4 UR (Ks yK)) (λz=>by cases z)
def Zh:D->Option (Str×D)
 |.tuple [c,l]=>(match c with
  |.list cs=>if 1<=cs.length/\cs.length<=6 then(match fb (Ki 8) 0 cs with
    |some k=>O ("copies", .int k)
    |none=>(match l with
     |.list ls=>if 1<=ls.length/\ls.length<=7 then(match fb (ZB cs.length) 0 ls with
       |some k=>O ("lists", .int k)
       |none=>yL)else O ("lists", .none)
     |_=>O ("lists", .none)))else O ("copies", .none)
  |_=>O ("copies", .none))
 |_=>O ("wishes", .none)
def T9(o:Option (Str×D)):XR:=match o with
 |none=>.val .none
 |some (p,n)=>.exc (exD "NoWishes" [.str p,n])
def Te  {n}(h1:p.length<=1000)(h2:VD n=yM):WL "NoWishes" [.str p,n]=O [.str p,n]:=by have e:Yn "NoWishes" = (["part", "number"]:List Str):=rfl;unfold WL;have h3:VD (.str p)=yM:=QM h1;simp_all
def M4{j:Nat}(h:j<1000000):VD (.int j)=yM:=by
 unfold VD;simp only[Qz,Jo]
 constructor<;>lia
def Zi(c:D):Option (Str×D):=match c with
 |.list cs=>if 1<=cs.length/\cs.length<=6 then(match fb (Ki 8) 0 cs with
  |some k=>O ("copies", .int k)
  |none=>yL)else O ("copies", .none)
 |_=>O ("copies", .none)
def ZA(n:Int)(l:D):Option (Str×D):=match l with
 |.list ls=>if 1<=ls.length/\ls.length<=7 then(match fb (ZB n) 0 ls with
  |some k=>O ("lists", .int k)
  |none=>yL)else O ("lists", .none)
 |_=>O ("lists", .none)
def VP{m:Nat}{k}:(!(decide ((1:Int)<=m)&&decide ((m:Int)<=k)))=decide (¬(1<=m/\(m:Int)<=k)):=by
 lia
def C5(d:D):RW [d]=O (T9 (Zi d)):=by
 refine Wr (Z:=[O (.pub d),yL,yL]) yK ?_;unfold NV;apply Kg;cases d with
 |list cs=>
  apply U5
  case h1=>exact Zq  (KS (UO yK) yK) (Zr (VW UR (KW yK KU) yK (λ_=>UR) (λ_=>rfl)))
  case h2=>intro hh;rw[VP]at hh;have hh:=Qa hh;unfold Zi;dsimp only;rw[QH (by lia)];exact⟨rfl,rfl⟩
  case h3=>
   intro hh;rw[VP]at hh;have hh:=Jc hh;have hl:1<=cs.length/\cs.length<=6:=by lia
   have ed:Zi (.list cs)=(match fb (Ki 8) 0 cs with
    |some k=>O ("copies", .int k)
    |none=>yL):=by unfold Zi;dsimp only;rw[if_pos hl]
   refine Kn (Kf ?_);rw[ed];refine PX (xs:=cs) (Ki 8) (λZ=>∃x1 x2,Z=[O (.pub (.list cs)),x1,x2]) (WC (UN (UO yK) UT) WB) ⟨_,_,rfl⟩ ?_ ?_
   .rintro x hx j Z hj ⟨x1,x2,rfl⟩
    refine⟨_,KD yK (U6 (UX (Qa yK) yK) (U6 (UX (Qa yK) yK) KE)),?_⟩;unfold F3;refine U5 (Zr (ZN (Kh (UN (UO yK) (UN (UZ UR UR KO) UT)) yK (PL x 8)))) (λz=>?_) λz=>?_
    .refine KQ (X5 (UN UR (UN (UO yK) UT)) (Te (by decide) (M4 (by lia)))) (N0 (by simpa using z) λe=>?_)
     rw[e];exact⟨rfl,rfl⟩
    .exact Kn (R9 (by simpa using z) ⟨_,_,rfl⟩)
   .intro e Z _
    rw[e];rfl
 |dict kvs=>exact U5 (b:=yM) (Zb (YE (UO yK))) (λ_=>KQ (X5 (UN UR (UN UR UT)) (Te (by decide) yK)) (Y6 ⟨rfl,rfl⟩)) (λz=>by cases z)
 |_=>exact U5 (b:=yM) (Zb (KS (UO yK) yK)) (λ_=>KQ (X5 (UN UR (UN UR UT)) (Te (by decide) yK)) (Y6 ⟨rfl,rfl⟩)) (λz=>by cases z)
def DI{d:D}{n:Int}(hs:∀ls,d=.list ls->ls.length<=7->∀x∈ls,Vd x):RV [d,.int n]=O (T9 (ZA n d)):=by
 refine Wr (Z:=[O (.pub d),O (.pub (.int n)),yL,yL]) yK ?_;unfold NR;apply Kg;cases d with
 |list cs=>
  apply U5
  case h1=>exact Zq  (KS (UO yK) yK) (Zr (VW UR (KW yK KU) yK (λ_=>UR) (λ_=>rfl)))
  case h2=>intro hh;rw[VP]at hh;have hh:=Qa hh;unfold ZA;dsimp only;rw[QH (by lia)];exact⟨rfl,rfl⟩
  case h3=>
   intro hh;rw[VP]at hh;have hh:=Jc hh;have hl:1<=cs.length/\cs.length<=7:=by lia
   have hs:=hs cs yK hl.2
   have ed:ZA n (.list cs)=(match fb (ZB n) 0 cs with
    |some k=>O ("lists", .int k)
    |none=>yL):=by unfold ZA;dsimp only;rw[if_pos hl]
   refine Kn (Kf ?_);rw[ed];refine PX (xs:=cs) (ZB n) (λZ=>∃x1 x2,Z=[O (.pub (.list cs)),O (.pub (.int n)),x1,x2]) (WC (UN (UO yK) UT) WB) ⟨_,_,rfl⟩ ?_ ?_
   .rintro x hx j Z hj ⟨x1,x2,rfl⟩
    refine⟨_,KD yK (U6 (UX (Qa yK) yK) (U6 (UX (Qa yK) yK) KE)),?_⟩;unfold F2;refine U5 (Zr (ZN (Kh (UN (UO yK) (UN (UO yK) UT)) yK (wY (n:=n) (hs x hx))))) (λz=>?_) λz=>?_
    .refine KQ (X5 (UN UR (UN (UO yK) UT)) (Te (by decide) (M4 (by lia)))) (N0 (by simpa using z) λe=>?_)
     rw[e];exact⟨rfl,rfl⟩
    .exact Kn (R9 (by simpa using z) ⟨_,_,rfl⟩)
   .intro e Z _
    rw[e];rfl
 |dict kvs=>exact U5 (b:=yM) (Zb (YE (UO yK))) (λ_=>KQ (X5 (UN UR (UN UR UT)) (Te (by decide) yK)) (Y6 ⟨rfl,rfl⟩)) (λz=>by cases z)
 |_=>exact U5 (b:=yM) (Zb (KS (UO yK) yK)) (λ_=>KQ (X5 (UN UR (UN UR UT)) (Te (by decide) yK)) (Y6 ⟨rfl,rfl⟩)) (λz=>by cases z)
def Xe(d:D):Prop:=∀c ls,d=.tuple [c,.list ls]->ls.length<=7->∀x∈ls,Vd x
def VO(c l:D):Zh (.tuple [c,l])=(match Zi c with
  |some x=>O x
  |none=>(match c with | .list cs=>ZA cs.length l|_=>yL)):=by
 unfold Zh Zi ZA;cases c with
 |list cs=>
  dsimp only;by_cases h:1<=cs.length/\cs.length<=6
  .rw[Qp h,Qp h]
   cases fb _ 0 cs with
   |some k=>rfl
   |none=>cases l<;>rfl
  .rw[QH h,QH h]
 |_=>rfl
def M0{d:D}(hs:Xe d):X8 [d]=O (T9 (Zh d)):=by
 refine Wr (Z:=[O (.pub d),yL,yL]) yK ?_;unfold NS;apply Kg;have odd:∀{o:Out->Prop},Ho (Y2 "NoWishes" (UL (UM (.str "wishes")) (UL (UM .none) (UK)))) [O (.pub d),yL,yL] _:=KQ (X5 (UN UR (UN UR UT)) (Te (by decide) yK)) yK;cases d with
 |tuple xs=>
  by_cases hl:xs.length=2
  .obtain⟨c,l,rfl⟩:∃c l,xs=[c,l]:=by
    match xs,hl with
    |[c,l],_=>exact⟨c,l,rfl⟩
   apply U5
   case h1=>exact Zq (Z1:=[O (.pub (.tuple [c,l])),yL,yL]) (KS (UO yK) yK) (UZ (KW yK yK) UR XN)
   case h2=>intro hh;cases hh
   case h3=>
    intro _;refine Kn (Kf ?_);refine Ka (Xm (UO yK) (KD yK (U6 (UX (Qa yK) yK) (U6 (UX (Qa yK) yK) KE)))) ?_;rw[VO];have hc:=C5 c;cases z:Zi c with
    |some x=>obtain⟨p,n⟩:=x;rw[z]at hc;apply Kg;exact KQ (WK (Y1 (UN (UO yK) UT) yK hc)) (Y6 ⟨rfl,rfl⟩)
    |none=>
     rw[z]at hc
     obtain⟨cs,rfl⟩:∃cs,c=.list cs:=by
      unfold Zi at z;cases c with
      |list cs=>exact⟨cs,rfl⟩
      |_=>cases z
     refine Ka (Sq (Y1 (UN (UO yK) UT) yK hc) yK) ?_;have hL:=DI (d:=l) (n:=cs.length) (λls e=>hs (.list cs) ls (by rw[e]));dsimp only;cases z2:ZA cs.length l with
     |some x=>obtain⟨p,n⟩:=x;rw[z2]at hL;exact KQ (WK (Y1 (UN (UO yK) (UN (KW yK KU) UT)) yK hL)) ⟨rfl,rfl⟩
     |none=>rw[z2]at hL;exact KQ (Sq (Y1 (UN (UO yK) (UN (KW yK KU) UT)) yK hL) yK) yK
  .have hd:Zh (.tuple xs)=O (("wishes" : Str),(.none:D)):=by
    unfold Zh;split
    .rename_i h;cases h;exact absurd yK hl
    .rfl
   apply U5
   case h1=>exact Zq (Z1:=[O (.pub (.tuple xs)),yL,yL]) (KS (UO yK) yK) (UZ (KW yK RM) UR XN)
   case h2=>intro _;refine SD (odd (o:=λ_=>True)) λo e=>?_;subst e;exact Y6 (by rw[hd];exact⟨rfl,rfl⟩)
   case h3=>
    intro hh
    lia
 |dict kvs=>exact U5 (b:=yM) (Zb (YE (UO yK))) (λ_=>SD (odd (o:=λ_=>True)) λo e=>by subst e;exact Y6 ⟨rfl,rfl⟩) (λz=>by cases z)
 |_=>exact U5 (b:=yM) (Zb (KS (UO yK) yK)) (λ_=>SD (odd (o:=λ_=>True)) λo e=>by subst e;exact Y6 ⟨rfl,rfl⟩) (λz=>by cases z)
mutual
def wB(n:Nat):D->Bool
 |.list xs=>decide (xs.length<=n)&&wBs n xs
 |.tuple xs=>decide (xs.length<=n)&&wBs n xs
 |_=>yM
def wBs(n:Nat):yO->Bool
 |[]=>yM
 |x::r=>wB n x&&wBs n r
end
theorem OK  : ∀{xs},wBs n xs=yM ↔ ∀x∈xs,wB n x=yM
 |[]=>by simp[wBs]
 |x::r=>by rw[wBs,Bool.and_eq_true,OK];simp
def XJ  {xs:yO}:wB n (.list xs)=yM ↔ xs.length<=n/\∀x∈xs,wB n x=yM:=by rw[wB,Qz,Jo,OK]
def Rv  {xs:yO}:wB n (.tuple xs)=yM ↔ xs.length<=n/\∀x∈xs,wB n x=yM:=by rw[wB,Qz,Jo,OK]
mutual
theorem Sz{n m:Nat}(h:n<=m):∀(d:D),wB n d=yM->wB m d=yM
 |.list xs,e=>by rw[wB,Qz,Jo]at e⊢;exact⟨QE e.1 h,wBs_mono h xs e.2⟩
 |.tuple xs,e=>by rw[wB,Qz,Jo]at e⊢;exact⟨QE e.1 h,wBs_mono h xs e.2⟩
 |.none,_=>rfl
 |.bool _,_=>rfl
 |.int _,_=>rfl
 |.str _,_=>rfl
 |.dict _,_=>rfl
theorem wBs_mono{n m:Nat}(h:n<=m):∀(xs:yO),wBs n xs=yM->wBs m xs=yM
 |[],_=>rfl
 |x::r,e=>by rw[wBs,Qz]at e⊢;exact⟨Sz h x e.1,wBs_mono h r e.2⟩
end
def Lp  (h:wB 700 d=yM):Xe d:=λc ls e _ x hx rs e2 xs hxs=>by subst e;have h1:=(Rv.mp h).2 (.list ls) (by simp);have h2:=(XJ.mp h1).2 x hx;subst e2;exact(XJ.mp ((XJ.mp h2).2 _ hxs)).1
def HH   (g:Good cs ls):wB 7 (.list (cs.map int))=yM/\wB 7 (.list (ls.map KN))=yM:=by
 constructor
 .refine XJ.mpr ⟨by rw[Qd];have:=g.c6;lia,λx hx=>?_⟩
  obtain⟨i,_,rfl⟩:=Qv.mp hx;rfl
 .refine XJ.mpr ⟨by rw[Qd];exact g.l7,λx hx=>?_⟩
  obtain⟨rs,hrs,rfl⟩:=Qv.mp hx;have gr:=g.rk rs hrs;refine XJ.mpr ⟨by rw[Qd];have:=gr.few;lia,λy hy=>?_⟩;obtain⟨r,hr,rfl⟩:=Qv.mp hy;have h1   :=List.Sublist.length_le (List.sublist_flatten_of_mem hr);have h2:=RJ gr;have:=g.c6;refine XJ.mpr ⟨by rw[Qd];lia,λz hz=>?_⟩;obtain⟨i,_,rfl⟩:=Qv.mp hz;rfl
def Ps   {t u}(h1:f Z=.ok t Z)(h2:t=yM->g Z=.ok u Z)(h3:t=yN->u=yN):Ze f g Z=.ok u Z:=by
 have:=Pl h1 h2;cases t with
 |true=>exact this
 |false=>rw[h3 yK];exact this
def C4   {Z Z1 Z':US}{zJ ds es}(h0:Z[j]?=O (O (.own zJ)))(h1:f Z=.ok es Z1)(h2:Z1[j]?=O (O (.own ds)))(h3:ds.length+es.length<=1000000)(h4:Z1.set j (O (.own (ds++es)))=Z'):Wa j f Z=.nx Z':=by unfold Wa;rw[Hq h0];unfold sB;rw[h1];dsimp only;rw[Hq h2];simp_all
theorem HD:∀(a b)(k),Kq k (a++b)=Kq k a++Kq (k+a.length) b
 |[],b,k=>rfl
 |rs::a,b,k=>by show _++Kq _ (a++b)=_;rw[HD a b _];show _=(_++Kq _ a)++Kq (k+(a.length+1)) b;rw[QS,show k+1+a.length=k+(a.length+1)by lia]
def ql  (ls)(k)(h:∀rs∈ls,rs.flatten.length<=n):(Kq k ls).length<=ls.length*n:=by rw[(SO ls k).length_eq];exact O7 n ls k h
section
variable{cs:yP}{ls:L3}{o:Ord}{old:y0}{ts:yP}
def wX(g:Good cs ls):Wi [Kc cs ls]=O (.list ((Kq 0 ls).map Kl)):=by
 have l7:=g.l7;have c6:=g.c6;refine KZ  rfl ?_;unfold TN;refine Ka (Zv (Yo UT (Qa yK)) (Qa yK) yK) ?_;apply Kg;apply YF (λi Z=>∃x2,Z=[O (.pub (Kc cs ls)),O (.own ((Kq 0 (ls.take i)).map Kl)),x2])
 case h1=>exact WQ (UN (K0 (UN (Kd yK UR YY) UT) KU) UT) (WV (by rw[Qd];lia) (by lia))
 case h0=>exact⟨_,rfl⟩
 case hst=>
  rintro i d Z hi ⟨x2,rfl⟩;obtain⟨rfl,hlt⟩:=VX hi;rw[Qd]at hlt;have hls:ls[i]?=O ls[i]:=Qi (by lia);have gr:=g.rk _ (Qr hls);have hfl:=RJ gr;refine⟨_,UX (Qa yK) yK,?_⟩;unfold LD;rw[Ug];have hw:=kq (cs:=cs) hls (by lia)
  have hc:K6 (gN 3) (UM yM) (Ky (UL (UJ 2) (UL (UJ 3) (UK)))) ((Yq ls[i].flatten).map int) (Kt [O (.pub (Kc cs ls)),O (.own ((Kq 0 (ls.take i)).map Kl)),O (.pub (.int i))]++Uv 1 yL) []=O ((Yq ls[i].flatten).map λt=>Kl ((i:Int),t)):=by
   have hsl:(Yq ls[i].flatten).length<=6:=by rw[(VY _).length_eq];lia
   refine(X6 (λZ=>∃x,Z=[O (Sl.pub (Kc cs ls)),yL,O (Sl.pub (.int i)),x]) _ ((Yq ls[i].flatten).map λt=>Kl ((i:Int),t)) _ _ (by rw[Qd,Qd]) ?_ ⟨yL,rfl⟩ (by rw[Qd,Qw];lia)).trans (by rw[QR]);rintro j d e hd he Z ⟨x,rfl⟩;rw[Qh]at hd he;cases z:(Yq ls[i].flatten)[j]? with
   |none=>rw[z]at hd;cases hd
   |some t=>rw[z]at hd he;cases hd;cases he;exact⟨_,UX (Qa yK) yK,rfl,ZM (UN (UO yK) (UN (UO yK) UT)) (Qa yK),_,rfl⟩
  have ha:(Kq 0 (ls.take i)).length<=42:=by
   have:=ql (n:=6) (ls.take i) 0 λrs hrs=>by have:=RJ (g.rk rs (J8 hrs));lia
   rw[Jk]at this;have:min i ls.length<=7:=by lia
   lia
  refine KQ (C4 yK (Z6 (Zx (Kh (UN (UO yK) (UN (UO yK) UT)) yK hw) YM) hc) yK ?_ yK) (Yb ⟨O (.pub (.int i)),?_⟩)
  .rw[Qd,Qd,(VY _).length_eq];lia
  .have e:Kq 0 (ls.take (i+1))=Kq 0 (ls.take i)++(Yq ls[i].flatten).map λt=>((i:Int),t):=by
    rw[Jf (by lia),HD,Jk,Nat.min_eq_left (by lia),JR];show _++((Yq ls[i].flatten).map (λt=>((i:Int),t))++[])=_;rw[Q3]
   rw[e,QQ,Q0];rfl
 case hend=>rintro Z ⟨x2,rfl⟩;rw[X7,Qd];refine Kf (U4 (K2 rfl rfl) ?_);rw[show((ls.length:Int)-0).toNat=ls.length by lia,J0]
def GA  {b a r x:Int}(hn:(ts++[x]).Nodup):Xl (ts++[x]) b a r=Xl ts b a r*b+if x=a then b-r else 0:=by
 have hx   :=λz=>(Jp.mp hn).2.2 x z x (List.mem_singleton.mpr yK) yK;unfold Xl
 by_cases h:a∈ts
 .have hxa:¬x=a:=λe=>hx (e ▸ h)
  have hlt:=List.idxOf_lt_length_of_mem h;rw[Qp (JK _ h),Qp h,QH hxa,List.idxOf_append,Qp h,Qj,Jd,show ts.length+1-1-ts.idxOf a=(ts.length-1-ts.idxOf a)+1 by lia,Int.pow_succ,Int.add_zero,Int.mul_assoc]
 .rw[QH h,Int.zero_mul,Ug]
  by_cases e:x=a
  .subst e
   rw[if_pos (by simp),if_pos yK,List.idxOf_append,if_neg h,List.length_append,List.length_singleton,List.idxOf_cons_self,show ts.length+1-1-_=0 by lia,Int.pow_zero,Int.mul_one]
  .rw[if_neg (by simp[h];exact λz=>e z.symm),if_neg e]
noncomputable def pwL(b:Int)(n:Nat):yP:=(Uu (n+1)).map λj:Nat=>b ^ j
def Lo  {n j}(h:j<=n):(pwL b n)[j]?=O (b ^ j):=by unfold pwL;rw[Qh,List.getElem?_range (by lia)];rfl
def Ln   : (pwL b n).length=n+1:=by unfold pwL;simp_all
def qk   : pwL b (n+1)=pwL b n++[b ^ n*b]:=by unfold pwL;rw[List.range_succ,QQ,←Int.pow_succ];rfl
def Ow  {n:Nat}{k:Int}(h0:0<=k)(h:k<=n):oIx (.list ((pwL b n).map int)) (.int k)=O (.int (b ^ k.toNat)):=by
 have e:k=((k.toNat)):=by lia
 rw[e];refine Zw ?_;rw[Qh,Lo (by lia)];rfl
def qi{ws:LO}{i:Nat}{t}(h):oEq (Zd ws[i]) (.int t)=O (decide (ws[i]=O t)):=Mx (b:=O t)
noncomputable def Ord.isL:Ord->Bool
 |.lasts=>yM
 |_=>yN
def DH(o:Ord):oEq (.str o.tx) (.str "lasts")=O o.isL:=by cases o<;>decide +kernel
def wW(g:Good cs ls)(ga:XM cs.length ls.length old ts){i:Nat}{rs:List yP}(hi:ls[i]?=O rs){t:Int}(ht:t∈rs.flatten):Wj [Kc cs ls,KJ o old ts,.int i,.int t]=O (.int (Yh ls o old ts i rs t)):=by
 have l7:=g.l7;have l1:=g.l1;have hL:lng ls<=5:=Ot l1 λrs h=>(g.rk rs h).few;have hrs:rs∈ls:=Qr hi;have bf:=My hrs;have hrk:Zo t rs<=lng ls:=by have:=NC t rs;lia
 have hrp:1<=Zo t rs:=by have:=GD ht;lia
 have htl:=ga.few;have hlt:i<ls.length:=(Ql.mp hi).1;refine KZ (Z:=[O (.pub (Kc cs ls)),O (.pub (KJ o old ts)),O (.pub (.int i)),O (.pub (.int t)),yL,yL,yL,yL,yL,yL,yL,yL,yL,yL,yL]) yK ?_;unfold TR;refine Ka (Xm (UO yK) (KD yK (U6 (UX (Qa yK) yK) (U6 (UX (Qa yK) yK) (U6 (UX (Qa yK) yK) KE))))) ?_;have zX:Kb [.list (ls.map KN)]=O (.int ls.length):=by rw[KU,Qd]
 refine Ka (Kv (UZ (K0 (UN (Kd yK UR YY) UT) zX) UR KO) (Qa yK) yK) ?_;refine Ka (Kv (Kh (UN (UO yK) UT) yK (yG g)) (Qa yK) yK) ?_;refine Ka (Kv (Kh (UN (UO yK) (UN (UO yK) (UN (UO yK) UT))) yK (wM hi t)) (Qa yK) yK) ?_;refine Ka (Zv (Yo (UN UR UT) (Qa yK)) (Qa yK) yK) ?_
 let S0:Option Sl:=O (.pub (Kc cs ls))
 let S1:Option Sl:=O (.pub (KJ o old ts))
 let S2:Option Sl:=O (.pub (.int i))
 let S3:Option Sl:=O (.pub (.int t))
 let S4:Option Sl:=O (.pub (.str o.tx))
 let S5:Option Sl:=O (.pub (Yj old))
 let S6:Option Sl:=O (.pub (.list (ts.map int)))
 let b:Int:=(ls.length:Int)+1
 let M:Nat:=lng ls
 let r:Nat:=Zo t rs
 let S7:Option Sl:=O (.pub (.int b))
 let S8:Option Sl:=O (.pub (.int (M:Int)))
 let S9:Option Sl:=O (.pub (.int (r:Int)))
 apply Kg;apply YF (λj Z=>∃y7,Z=[S0,S1,S2,S3,S4,S5,S6,S7,S8,S9,O (.own ((pwL b j).map int)),y7,yL,yL,yL])
 case h1=>exact WQ (UN (UO yK) UT) (WV (by lia) (by lia))
 case h0=>exact⟨_,rfl⟩
 case hst=>
  rintro j d Z hj ⟨y7,rfl⟩;refine⟨_,UX (Qa yK) yK,?_⟩;unfold LC;obtain⟨_,zA⟩:=VX hj
  have zG:oIx (.list ((pwL b j).map int)) (.int (-1))=O (.int (b ^ j)):=M8 (by
   rw[List.getLast?_eq_getElem?,Qd,Ln,Qh,Nat.add_sub_cancel,Lo (Qo j)]
   rfl)
  refine KQ (Wx yK (UZ (Wy yK (VE UR) yK zG) (UO yK) (XU (by lia) (by lia))) yK (by rw[Qd,Ln];lia) yK) (Yb ⟨O (.pub d),?_⟩);rw[qk,QQ];rfl
 case hend=>
  rintro Z ⟨y7,rfl⟩;have er:(Yp 0 (M:Int)).length=M:=by rw[X7];lia
  rw[er];refine Kf ?_
  let S10:Option Sl:=O (.own ((pwL b M).map int))
  have e1:((M:Int)-(r:Int)).toNat=M-r:=by lia
  have p1:oIx (.list ((pwL b M).map int)) (.int ((M:Int)-(r:Int)))=O (.int (b ^ (M-r))):=by rw[Ow (by lia) (by lia),e1]
  have p2:oIx (.list ((pwL b M).map int)) (.int (M:Int))=O (.int (b ^ M)):=by rw[Ow (by lia) (by lia)];rfl
  have p3:oIx (.list ((pwL b M).map int)) (.int ((r:Int)-1))=O (.int (b ^ (r-1))):=by rw[Ow (by lia) (by lia),show((r:Int)-1).toNat=r-1 by lia]
  refine Ka (Z1:=[S0,S1,S2,S3,S4,S5,S6,S7,S8,S9,S10,y7,O (.pub (.int (b ^ (M-r)))),yL,yL]) (Kv (Wy yK (UZ (UO yK) (UO yK) Y8) yK p1) (Qa yK) yK) ?_
  have eo:Zz o b M r=match o with | .firsts=>b ^ (M-r) | .full=>b ^ (M-r)+b ^ M | .lasts=>b ^ M-b ^ (r-1):=by
   cases o with
   |firsts=>show b ^ ((M:Int)-(r:Int)).toNat=_;rw[e1]
   |full=>show b ^ ((M:Int)).toNat+b ^ ((M:Int)-(r:Int)).toNat=_;rw[e1,Int.add_comm];rfl
   |lasts=>show b ^ ((M:Int)).toNat-b ^ ((r:Int)-1).toNat=_;rw[show((r:Int)-1).toNat=r-1 by lia];rfl
  have done:∀w:Int,w=Zz o b M r->Ho (UQ (U2 12 (UP Ke (UJ 12) (UJ 7)))
    (UQ (sIf (Ze (UY (λd=>!isNon d) (UJ 5)) (UP oEq (UU 5 (UJ 2)) (UJ 3)))
    (U2 12 (UP U0 (UJ 12) (UM (.int 1))))
    (sNx))
    (UQ (U2 13 (UM (.int 0)))
    (UQ (Ko (KP (UJ 6)) (gN 14) PH)
    (UW (UP U0 (UJ 12) (UJ 13))))))) [S0,S1,S2,S3,S4,S5,S6,S7,S8,S9,S10,y7,O (.pub (.int w)),yL,yL] (λo'=>o'=.rt (.int (Yh ls o old ts i rs t))):=by
   rintro w rfl;refine Ka (Z1:=[S0,S1,S2,S3,S4,S5,S6,S7,S8,S9,S10,y7,O (.pub (.int (Zz o b M r*b))),yL,yL]) (Kv (UZ (UO rfl) (UO rfl) (XU (by lia) (by lia))) (Qa rfl) rfl) ?_
   have rest:∀v:Int,v=Zz o b M r*b+YX old i t->Ho (UQ (U2 13 (UM (.int 0)))
    (UQ (Ko (KP (UJ 6)) (gN 14) PH)
    (UW (UP U0 (UJ 12) (UJ 13))))) [S0,S1,S2,S3,S4,S5,S6,S7,S8,S9,S10,y7,O (.pub (.int v)),yL,yL] (λo'=>o'=.rt (.int (Yh ls o old ts i rs t))):=by
    intro v hv;refine Ka (Kv UR (Qa yK) yK) ?_;apply Kg;apply YF (λj Z=>∃zE,Z=[S0,S1,S2,S3,S4,S5,S6,S7,S8,S9,S10,y7,O (.pub (.int (v*((M:Int)+1) ^ j))),O (.pub (.int (Xl (ts.take j) ((M:Int)+1) i r))),zE])
    case h1=>exact Zx (UO yK) YM
    case h0=>exact⟨yL,by rw[Int.pow_zero,Int.mul_one];rfl⟩
    case hst=>
     rintro j d Z hj ⟨zE,rfl⟩;rw[Qh]at hj;cases hz:ts[j]? with
     |none=>rw[hz]at hj;cases hj
     |some a=>
     rw[hz]at hj;cases hj;have zA:j<ts.length:=(Ql.mp hz).1;have ha:ts[j]=a:=(Ql.mp hz).2;have hts:ts.take (j+1)=ts.take j++[a]:=by rw[Jf zA,ha]
     have hnd:(ts.take j++[a]).Nodup:=by rw[←hts];exact List.Nodup.sublist (List.take_sublist _ _) ga.once
     refine⟨_,UX (Qa yK) yK,?_⟩;unfold PH;refine Ka (Z1:=[S0,S1,S2,S3,S4,S5,S6,S7,S8,S9,S10,y7,O (.pub (.int (v*((M:Int)+1) ^ (j+1)))),O (.pub (.int (Xl (ts.take j) ((M:Int)+1) i r))),O (.pub (.int a))]) (Kv (UZ (UO yK) (UZ (UO yK) UR KO) (XU (by lia) (by lia))) (Qa yK) (by rw[Int.mul_assoc,←Int.pow_succ];rfl)) ?_;refine Ka (Z1:=[S0,S1,S2,S3,S4,S5,S6,S7,S8,S9,S10,y7,O (.pub (.int (v*((M:Int)+1) ^ (j+1)))),O (.pub (.int (Xl (ts.take j) ((M:Int)+1) i r*((M:Int)+1)))),O (.pub (.int a))]) (Kv (UZ (UO yK) (UZ (UO yK) UR KO) (XU (by lia) (by lia))) (Qa yK) yK) ?_;refine U5 (Zn yK (UO yK) ZD) (λhh=>?_) (λhh=>?_)
     .have e:a=(i:Int):=by simpa using hh
      refine KQ (Kv (UZ (UZ (UZ (UO yK) (UO yK) KO) UR KO) (UO yK) Y8) (Qa yK) yK) (Yb ⟨O (.pub (.int a)),?_⟩);rw[hts,GA hnd,Qp e];have:Xl (ts.take j) ((M:Int)+1) i r*((M:Int)+1)+(M:Int)+1-(r:Int)=Xl (ts.take j) ((M:Int)+1) i r*((M:Int)+1)+((M:Int)+1-(r:Int)):=by lia
      rw[←this];rfl
     .have e:¬a=(i:Int):=by simpa using hh
      refine Kn (Yb ⟨O (.pub (.int a)),?_⟩);rw[hts,GA hnd,QH e,Int.add_zero]
    case hend=>rintro Z ⟨zE,rfl⟩;refine Kf (U4 (UZ (UO rfl) (UO rfl) KO) ?_);rw[Qd,J0,hv];rfl
   have hkk:Ze (UY (λd=>!isNon d) (UJ 5)) (UP oEq (UU 5 (UJ 2)) (UJ 3)) [S0,S1,S2,S3,S4,S5,S6,S7,S8,S9,S10,y7,O (.pub (.int (Zz o b M r*b))),yL,yL]=.ok (decide (YX old i t=1)) [S0,S1,S2,S3,S4,S5,S6,S7,S8,S9,S10,y7,O (.pub (.int (Zz o b M r*b))),yL,yL]:=by
    cases old with
    |none=>exact Lr (Kx (k:=λd=>!isNon d) (x:=PyData.none) (UO yK))
    |some ws=>
     have hw:ws.length=ls.length:=ga.len ws yK;have hwi:ws[i]?=O ws[i]:=Qi (by lia);have hx:oIx (.list (ws.map Zd)) (.int i)=O (Zd ws[i]):=Mz (by lia)
     have e:decide (YX (O ws) i t=1)=decide (ws[i]=O t):=by
      refine JZ.mpr ?_
      show(if ws[i]?=O (O t)then(1:Int)else 0)=1 ↔ _
      rw[hwi];by_cases z:ws[i]=O t
      .rw[if_pos (by rw[z])];simp[z]
      .rw[if_neg (λy=>z (Option.some.inj y))];simp[z]
     rw[e];exact Lq (Kx (k:=λd=>!isNon d) (x:=Yj (O ws)) (UO yK)) (UZ (Kd yK (UO yK) hx) (UO yK) (qi (by lia)))
   apply Kg;refine U5 hkk (λhh=>?_) (λhh=>?_)
   .have e:YX old i t=1:=by simpa using hh
    exact KQ (Kv (UZ (UO yK) UR KO) (Qa yK) yK) (Kf (rest _ (by rw[e])))
   .have e:YX old i t=0:=by
     have hn:¬YX old i t=1:=by simpa using hh
     unfold YX at hn⊢;split at hn
     .rfl
     .split at hn
      .exact absurd yK hn
      .rename_i hz;rw[QH hz]
    exact Kn (Kf (rest _ (by rw[e,Int.add_zero])))
  have f2:=DH o;apply Kg;refine U5 (Zn yK UR (Mw o)) (λhh=>?_) (λhh=>?_)
  .cases o with
   |full=>refine KQ (Kv (UZ (UO yK) (Wy yK (UO yK) yK p2) KO) (Qa yK) yK) (Kf ?_);apply Kg;exact U5 (b:=yN) (Zn yK UR f2) (λz=>by cases z) λ_=>Kn (Kf (done _ eo.symm))
   |firsts=>cases hh
   |lasts=>cases hh
  .refine Kn (Kf ?_)
   apply Kg;refine U5 (Zn yK UR f2) (λh2=>?_) (λh2=>?_)
   .cases o with
    |lasts=>exact KQ (Kv (UZ (Wy yK (UO yK) yK p2) (Wy yK (UZ (UO yK) UR Y8) yK p3) Y8) (Qa yK) yK) (Kf (done _ eo.symm))
    |firsts=>cases h2
    |full=>cases h2
   .cases o with
    |firsts=>exact Kn (Kf (done _ eo.symm))
    |full=>cases hh
    |lasts=>cases h2
end
def Gz{α β:Type}{f:α->β}(hf:∀a b,f a=f b->a=b){l:List α}(h:l.Nodup):(l.map f).Nodup:=by unfold List.Nodup at h⊢;rw[List.pairwise_map];exact h.imp λhne e=>hne (hf _ _ e)
noncomputable def pk(q:Int×Int):yV:=[.inl q.1,.inl q.2]
def Mv  (h:pk a=pk b):a=b:=by injection h with h1 h2;injection h2 with h2 _;injection h1 with h1;injection h2 with h2;exact Prod.ext h1 h2
theorem HC{i1 i2:Nat}{g:M D}{V:Int×Int->D}(I:US->Prop):∀(qs:LP)(acc)(Z:US),I Z ->
  (∀q∈qs,∀Z,I Z->∃Z',g ((Z.set i1 (O (.pub (.int q.1)))).set i2 (O (.pub (.int q.2))))=.ok (V q) Z'/\YJ Z'=yM/\I Z')->acc.length+qs.length<=1000000->(acc.map (·.1)++qs.map pk).Nodup ->
  X1 i1 i2 g (qs.map Kl) acc Z=O (acc++qs.map λq=>(pk q,V q))
 |[],acc,Z,_,_,_,_=>by rw[List.map_nil,X1,List.map_nil,Q3]
 |q::r,acc,Z,h0,st,hl,hn=>by
  obtain⟨Z',e1,e2,e3⟩:=st q Qn Z h0;rw[QD]at hl
  have hk:Rc acc (pk q)=yM:=by
   unfold Rc;rw[QL];intro p hp;refine QM λz=>?_
   exact(Jp.mp hn).2.2 p.1 (Qv.mpr ⟨p,hp,rfl⟩) (pk q) (Qv.mpr ⟨q,Qn,rfl⟩) z
  have ih:=HC I r (acc++[(pk q,V q)]) Z' e3 (λq' hq=>st q' (Qm _ hq)) (by rw[Qj,Jd];lia) (by rw[QQ,QS];exact hn);show X1 i1 i2 g (.tuple [.int q.1,.int q.2]::r.map Kl) acc Z=_;rw[X1]
  show(match g _ with
   |.ok v Z'=>if acc.length<1000000/\Rc acc (pk q)=yM/\YJ Z'=yM then X1 i1 i2 g (r.map Kl) (acc++[(pk q,v)]) Z' else yL
   |.bad=>yL)=_
  rw[e1];dsimp only;rw[Qp ⟨by lia,hk,e2⟩,ih,QS];rfl
def wtD(V:Int->Int->Int)(qs:LP):D:=Tq (qs.map λq=>(pk q,.int (V q.1 q.2)))
def Mu(V)(qs):wtD V qs=.dict ((.bool yM,.none)::qs.map λq=>(Kl q,.int (V q.1 q.2))):=by unfold wtD Tq pdD;rw[Q0,Q0,Q0,List.zip_map',List.map_congr_left];intro q _;rfl
def Lm{V}{qs}:Re (wtD V qs)=O (qs.map Kl):=by rw[Mu];show O _=_;rw[Q0];rfl
def Mt{V}{qs}{q}(h:q∈qs):V4 (wtD V qs) (Kl q)=O (.int (V q.1 q.2)):=by
 rw[Mu]
 show((qs.map λq=>(Kl q,int _)).find? λp=>decide (kOf p.1=O (pk q))).map (·.2)=_
 have key:∀(l:List _),q∈l->(l.map λq=>(Kl q,int (V q.1 q.2))).find? (λp=>decide (kOf p.1=O (pk q)))=O (Kl q,.int (V q.1 q.2)):=by
  intro l;induction l with
  |nil=>intro h;cases h
  |cons a r ih=>
   intro h;rw[QI];by_cases e:a=q
   .subst e
    exact List.find?_cons_of_pos (QM yK)
   .rw[List.find?_cons_of_neg (by
     intro z;have z   :=Qa z;exact e (Mv (QW z)))]
    exact ih ((Qs.mp h).resolve_left λz=>e z.symm)
 rw[key qs h];rfl
def Ll   {x}{r}(h1:f Z=.ok x Z1)(h2:Re x=O r):R7 f Z=.ok r Z1:=by exact KR h1 (ZE h2)
theorem Gy:∀(ls)(k),(∀rs∈ls,rs.flatten.Nodup)->(Kq k ls).Nodup
 |[],_,_=>J7
 |rs::ls,k,h=>by
  show((Yq rs.flatten).map _++Kq _ ls).Nodup
  rw[Jp];refine⟨?_,Gy ls _ λr hr=>h r (Qm _ hr),λa ha b hb e=>?_⟩
  .exact Gz (λx y e=>(Ud e).2) ((VY _).nodup_iff.mpr (h rs Qn))
  .subst e
   obtain⟨t,_,rfl⟩:=Qv.mp ha;have:=O8 ls _ _ hb;simp at this
   lia
section
variable{cs:yP}{ls:L3}{o:Ord}{old:y0}{ts:yP}
def OJ(g:Good cs ls):(Kq 0 ls).length<=42:=by rw[(SO ls 0).length_eq];exact Pu g
def yp(g:Good cs ls)(ga:XM cs.length ls.length old ts):Vn [Kc cs ls,KJ o old ts]=O (wtD (Zk ls o old ts) (Kq 0 ls)):=by
 refine KZ (Z:=[O (.pub (Kc cs ls)),O (.pub (KJ o old ts)),yL,yL,yL]) yK ?_;unfold TM;constructor;have hf:KP (UV 1 Wi (UL (UJ 0) (UK))) [O (.pub (Kc cs ls)),O (.pub (KJ o old ts)),yL,yL,yL]=.ok ((Kq 0 ls).map Kl) [O (.pub (Kc cs ls)),O (.pub (KJ o old ts)),yL,yL,yL]:=Zx (Kh (UN (UO yK) UT) yK (wX g)) YM;have h42:=OJ g
 have hp:=HC (i1:=3) (i2:=4) (g:=UV 4 Wj (UL (UJ 0) (UL (UJ 1) (UL (UJ 3) (UL (UJ 4) (UK)))))) (V:=λq=>.int (Zk ls o old ts q.1 q.2))
  (λZ=>∃x y,Z=[O (.pub (Kc cs ls)),O (.pub (KJ o old ts)),yL,x,y]) (Kq 0 ls) [] [O (.pub (Kc cs ls)),O (.pub (KJ o old ts)),yL,yL,yL] ⟨_,_,rfl⟩ (λq hq Z ⟨x,y,e⟩=>by
   subst e;obtain⟨i,rs,h1,h2,h3⟩:=VR hq;rw[JR]at h2;refine⟨[O (.pub (Kc cs ls)),O (.pub (KJ o old ts)),yL,O (.pub (.int q.1)),O (.pub (.int q.2))],?_,rfl,_,_,rfl⟩;have hw:=wW (o:=o) g ga h1 h3
   have e:Zk ls o old ts q.1 q.2=Yh ls o old ts i rs q.2:=by
    unfold Zk;rw[h2,JD]
    congr 1
    simp[List.getD,h1]
   rw[e];refine Kh (UN (UO yK) (UN (UO yK) (UN (UO yK) (UN (UO yK) UT)))) yK ?_;rw[h2];exact hw) (by rw[Qw];lia) (by exact Gz (λa b e=>Mv e) (Gy ls 0 λrs hrs=>(g.rk rs hrs).once))
 unfold W4;rw[hf];dsimp only;rw[Qp (show YJ _=yM from rfl),hp];rfl
end
def VN{zs:yP}{k:Nat}{v}(h:zs[k]?=O v):oIx (.list (zs.map int)) (.int k)=O (.int v):=Zw (by simp_all)
def Pq{zs:yP}{k:Int}(h0:0<=k)(h1:k<zs.length):∃v∈zs,oIx (.list (zs.map int)) (.int k)=O (.int v):=by
 obtain⟨n,rfl⟩:∃n:Nat,k=n:=⟨k.toNat,by lia⟩
 have hl:n<zs.length:=by lia
 exact⟨zs[n],JY hl,VN (Qi hl)⟩
noncomputable def ZW(p:Int×Int->Bool)(f:Int×Int->Int)(qs:LP):yP:=qs.filterMap λq=>if p q then O (f q)else yL
theorem O3(p)(f):∀(qs),(qs.map λq=>if p q then O (int (f q))else yL).filterMap id=(ZW p f qs).map int
 |[]=>rfl
 |q::r=>by
  have ih:=O3 p f r;unfold ZW at ih⊢;cases h:p q with
  |true=>simp_all
  |false=>simp_all
def qh   {qs}{q}(h:q∈qs)(hp:p q=yM):f q∈ZW p f qs:=by unfold ZW;rw[List.mem_filterMap];exact⟨q,h,by rw[hp];rfl⟩
def HB    : (ZW p f qs).length<=qs.length:=List.length_filterMap_le _ _
def kN(l:yP):(l.map int).all flat=yM:=by rw[QL];intro x hx;obtain⟨y,_,rfl⟩:=Qv.mp hx;rfl
noncomputable def K8(tm:Int)(as ps:yP):D:=.tuple [.int tm,.list (as.map int),.list (ps.map int)]
structure Pap(n m:Nat)(V:Int->Int->Int)(qs:LP)(lo tm:Int)(as ps:yP):Prop where
 t1:1<=tm
 t2:tm<=1000000001
 la:as.length=m
 lp:ps.length=n
 pp:∀p∈ps,0<=p
 aa:∀a∈as, -lo<=a
 le:∀q∈qs,tm*V q.1 q.2<=as.getD q.1.toNat 0+ps.getD q.2.toNat 0+lo
noncomputable def szp(n m:Nat):yP:=[3,1000000000]++Uv n 6++Uv n 8++Uv m 9
def OI(n m):(szp n m).length=2+n+n+m:=by unfold szp;simp only[Qj,QB,QD,Qw]
def EK{n m j}(h:j<n):(szp n m)[2+j]?=O 6:=by unfold szp;rw[List.append_assoc,List.append_assoc,List.getElem?_append_right (by simp),List.getElem?_append_left (by simp_all)];rw[List.getElem?_replicate,if_pos (by simp_all)]
def EJ{n m j}(h:j<n):(szp n m)[2+n+j]?=O 8:=by unfold szp;rw[List.append_assoc,List.getElem?_append_right (by simp;lia),List.getElem?_append_left (by simp;lia)];rw[List.getElem?_replicate,if_pos (by simp;lia)]
def EI{n m j}(h:j<m):(szp n m)[2+n+n+j]?=O 9:=by unfold szp;rw[List.getElem?_append_right (by simp;lia),List.getElem?_replicate,if_pos (by simp;lia)]
section
variable{cs:yP}{ls:L3}
def wj(g:Good cs ls){V:Int->Int->Int}{qs:LP}(hq:∀q∈qs,(0<=q.1/\q.1<ls.length)/\0<=q.2/\q.2<cs.length)(hqs:qs.length<=1000)(c s:Int){lo:Int}(hlo:0<=lo) :
  ∃r,Vl [Kc cs ls,wtD V qs,.int c,.int s,.int lo]=O r/\∃tm as ps,r=K8 tm as ps/\Pap cs.length ls.length V qs lo tm as ps:=by
 have l7:=g.l7;have l1:=g.l1;have c6:=g.c6;have c1:=g.c1;refine WO (Z:=[O (.pub (Kc cs ls)),O (.pub (wtD V qs)),O (.pub (.int c)),O (.pub (.int s)),O (.pub (.int lo)),yL,yL,yL,yL,yL,yL,yL,yL,yL,yL,yL,yL,yL]) yK ?_;unfold TL;have hn:Kb [.list (cs.map int)]=O (.int cs.length):=by rw[KU,Qd]
 have hm:Kb [.list (ls.map KN)]=O (.int ls.length):=by rw[KU,Qd]
 have e0:∀Z:US,Z[0]?=O (O (.pub (Kc cs ls)))->UP U0 (UP U0 (UP U0 (U1 (UL (UM (.int 3)) (UL (UP Yx (UM (.int 10)) (UM (.int 9))) (UK)))) (UP Ke (U1 (UL (UM (.int 6)) (UK))) (KH Kb (UL (UU 0 (UM (.int 0))) (UK))))) (UP Ke (U1 (UL (UM (.int 8)) (UK))) (KH Kb (UL (UU 0 (UM (.int 0))) (UK))))) (UP Ke (U1 (UL (UM (.int 9)) (UK))) (KH Kb (UL (UU 0 (UM (.int 1))) (UK)))) Z=.ok (.list ((szp cs.length ls.length).map int)) Z:=by intro Z h0;have a1:=Rw (x:=.int 6) (m:=cs.length) (by lia);have a2:=Rw (x:=.int 8) (m:=cs.length) (by lia);have a3:=Rw (x:=.int 9) (m:=ls.length) (by lia);have b1:=UZ (Kr (UN UR (UN (UZ UR UR (RF (i:=10) (j:=9) (by decide))) UT)) (of_decide_eq_true yK)) (UZ (Kr (UN UR UT) (of_decide_eq_true yK)) (K0 (UN (Kd h0 UR WF) UT) hn) a1) (Yu (x:=[.int 3,.int (10 ^ (9:Int).toNat)]) (y:=Uv cs.length (.int 6)) (by simp;lia));have b2:=UZ b1 (UZ (Kr (UN UR UT) (of_decide_eq_true yK)) (K0 (UN (Kd h0 UR WF) UT) hn) a2) (Yu (by simp;lia));have b3:=UZ b2 (UZ (Kr (UN UR UT) (of_decide_eq_true yK)) (K0 (UN (Kd h0 UR YY) UT) hm) a3) (Yu (by simp;lia));refine Eq.trans b3 ?_;unfold szp;simp only[QQ,J5,QI,List.map_nil];rfl
 refine Ka (Kv (e0 _ yK) (Qa yK) yK) ?_;obtain⟨r,hF,dg,rfl,hdl,hdb⟩:=Tl c s (sizes:=szp cs.length ls.length) (λx hx=>by unfold szp at hx;simp only[QO,JU,Qs]at hx;rcases hx with (((rfl|rfl|hx)|⟨_,rfl⟩)|⟨_,rfl⟩)|⟨_,rfl⟩<;>first|lia|cases hx) (by rw[OI];lia);rw[OI]at hdl
 have dgt:∀{j:Nat}{z:Int},(szp cs.length ls.length)[j]?=O z->∃d,dg[j]?=O d/\0<=d/\d<z:=λ{j z} hz=>by
  have hj:j<dg.length:=by rw[hdl,←OI];exact(Ql.mp hz).1
  exact⟨dg[j],Qi hj,hdb j _ _ (Qi hj) hz⟩
 refine Ka (Kv (Kh (UN (UO yK) (UN (UO yK) (UN (UO yK) UT))) yK hF) (Qa yK) yK) ?_;obtain⟨d0,hd0,b0,b0'⟩:=dgt (j:=0) (z:=3) yK;obtain⟨d1,hd1,b1,b1'⟩:=dgt (j:=1) (z:=1000000000) yK;obtain⟨tm,htm,etm⟩:=Pq (zs:=[1,1,2+d1]) (k:=d0) b0 b0';have t12:1<=tm/\tm<=1000000001:=by simp only[Qs,QU,or_false]at htm;rcases htm with rfl|rfl|rfl<;>lia
 refine Ka (Kv (UZ (Kr (UN UR (UN UR (UN (UZ UR (Kd yK UR (VN hd1)) KO) UT))) (Qa yK)) (Kd yK UR (VN hd0)) etm) (Qa yK) yK) ?_;refine Ka (Kv (K0 (UN (Kd yK UR WF) UT) hn) (Qa yK) yK) ?_;refine Ka (Zv (Yo UT (Qa yK)) (Qa yK) yK) ?_
 let S0:Option Sl:=O (.pub (Kc cs ls))
 let S1:Option Sl:=O (.pub (wtD V qs))
 let S2:Option Sl:=O (.pub (.int c))
 let S3:Option Sl:=O (.pub (.int s))
 let S4:Option Sl:=O (.pub (.int lo))
 let S5:Option Sl:=O (.pub (.list ((szp cs.length ls.length).map int)))
 let S6:Option Sl:=O (.pub (.list (dg.map int)))
 let S7:Option Sl:=O (.pub (.int tm))
 let S8:Option Sl:=O (.pub (.int (cs.length:Int)))
 apply Kg;apply YF (λj Z=>∃(ps:yP)(zy y7 zn:Option Sl),Z=[S0,S1,S2,S3,S4,S5,S6,S7,S8,O (.own (ps.map int)),zy,y7,zn,yL,yL,yL,yL,yL]/\ps.length=j/\∀p∈ps,0<=p)
 case h1=>exact WQ (UN (UO yK) UT) (WV (by lia) (by lia))
 case h0=>exact⟨[],yL,yL,yL,rfl,rfl,λp h=>by cases h⟩
 case hst=>
  rintro j d Z hj ⟨ps,zy,y7,zn,rfl,hpl,hpp⟩;obtain⟨rfl,zA⟩:=VX hj;refine⟨_,UX (Qa yK) yK,?_⟩;unfold Lc;rw[Ug];have al:j<cs.length:=by lia
  have hc:K6 (gN 18) (UP oEq (UU 18 (UM (.int 1))) (UJ 10)) (UP Ke (UJ 7) (UP V4 (UJ 1) (UJ 18))) (qs.map Kl) (Kt [S0,S1,S2,S3,S4,S5,S6,S7,S8,O (.own (ps.map int)),O (.pub (.int j)),y7,zn,yL,yL,yL,yL,yL]++Uv 1 yL) []=O ((ZW (λq=>decide (q.2=(j:Int))) (λq=>tm*V q.1 q.2) qs).map int):=by
   rw[←O3];refine(NB (λZ=>∃y11 y12 x,Z=[S0,S1,S2,S3,S4,S5,S6,S7,S8,yL,O (.pub (.int j)),y11,y12,yL,yL,yL,yL,yL,x]) _ (qs.map λq=>if decide (q.2=(j:Int))then O (int (tm*V q.1 q.2))else yL) _ _ (by rw[Qd,Qd]) ?_ ⟨ZZ y7,ZZ zn,yL,rfl⟩ (by rw[Qd,Qw];lia)).trans (by rw[QR]);rintro i d e hd he Z ⟨y11,y12,x,rfl⟩;rw[Qh]at hd he;cases z:qs[i]? with
   |none=>rw[z]at hd;cases hd
   |some q=>
    rw[z]at hd he;cases hd;have he:(if decide (q.2=(j:Int))=yM then O (int (tm*V q.1 q.2))else yL)=e:=QW he;have ht:UP oEq (UU 18 (UM (.int 1))) (UJ 10) [S0,S1,S2,S3,S4,S5,S6,S7,S8,yL,O (.pub (.int j)),y11,y12,yL,yL,yL,yL,yL,O (.pub (Kl q))]=.ok (decide (q.2=(j:Int))) [S0,S1,S2,S3,S4,S5,S6,S7,S8,yL,O (.pub (.int j)),y11,y12,yL,yL,yL,yL,yL,O (.pub (Kl q))]:=UZ (Kd yK UR (Zw (j:=1) yK)) (UO yK) ZD;refine⟨_,UX (Qa yK) yK,?_,?_,ZZ y11,ZZ y12,_,rfl⟩
    .refine Eq.trans ht ?_
     rw[←he];cases decide (q.2=(j:Int))<;>rfl
    .intro v hv
     rw[hv]at he
     have:decide (q.2=(j:Int))=yM:=by
      cases h:decide (q.2=(j:Int))with
      |true=>rfl
      |false=>rw[h]at he;cases he
     rw[this]at he;cases he;exact UZ (UO yK) (UZ (UO yK) (UO yK) (Mt (Qr z))) (WW (by lia) (by lia))
  let zs:yP:=0::ZW (λq=>decide (q.2=(j:Int))) (λq=>tm*V q.1 q.2) qs
  have hzl:zs.length<=1001:=by have:=HB (p:=λq=>decide (q.2=(j:Int))) (f:=λq=>tm*V q.1 q.2) (qs:=qs);show _+1<=1001;lia
  have hz1:1<=zs.length:=Nat.succ_pos _;refine Ka (Z1:=[S0,S1,S2,S3,S4,S5,S6,S7,S8,O (.own (ps.map int)),O (.pub (.int j)),O (.pub (.list (zs.map int))),zn,yL,yL,yL,yL,yL]) (Kv (UZ (Kr (UN UR UT) (Qa yK)) (Kx (Z6 (Ll (UO yK) Lm) hc)) (Yu (by rw[Qd];have:([int 0]:yO).length=1:=rfl;have:(ZW (λq=>decide (q.2=(j:Int))) (λq=>tm*V q.1 q.2) qs).length+1=zs.length:=rfl;lia))) (Qa yK) yK) ?_;obtain⟨db,ai,bb,bb'⟩:=dgt (EJ (n:=cs.length) (m:=ls.length) al);obtain⟨pv,_,epv⟩:=Pq (zs:=zs) (k:=db % (zs.length:Int)) (Jj _ (by lia)) (Q6 _ (by lia))
  have hix:oIx (.list (dg.map int)) (.int (2+(cs.length:Int)+(j:Int)))=O (.int db):=by
   have e:(2+(cs.length:Int)+(j:Int))=((2+cs.length+j:Nat):Int):=by lia
   rw[e];exact VN ai
  refine Ka (Z1:=[S0,S1,S2,S3,S4,S5,S6,S7,S8,O (.own (ps.map int)),O (.pub (.int j)),O (.pub (.list (zs.map int))),O (.pub (.int pv)),yL,yL,yL,yL,yL]) (Kv (Kd yK (UZ (Kd yK (UZ (UZ UR (UO yK) KO) (UO yK) KO) hix) (KW yK (by rw[KU,Qd])) (Y3 (by lia))) epv) (Qa yK) yK) ?_;obtain⟨da,hda2,ba,ba'⟩:=dgt (EK (n:=cs.length) (m:=ls.length) al);obtain⟨mv,_,emv⟩:=Pq (zs:=[0,0,0, -1,1,d1]) (k:=da) ba ba'
  have hix2:oIx (.list (dg.map int)) (.int (2+(j:Int)))=O (.int da):=by
   have e:(2+(j:Int))=((2+j:Nat):Int):=by lia
   rw[e];exact VN hda2
  refine KQ (Wx yK (K0 (UN UR (UN (UZ (UO yK) (UZ (Kr (UN UR (UN UR (UN UR (UN (VE UR) (UN UR (UN (Kd yK UR (VN hd1)) UT)))))) (Qa yK)) (Kd yK (UZ UR (UO yK) KO) hix2) emv) KO) UT)) Lu) yK (by rw[Qd];lia) yK) (Yb ⟨ps++[if pv+mv > 0 then pv+mv else 0],O (.pub (.int j)),O (.pub (.list (zs.map int))),O (.pub (.int pv)),?_,?_,?_⟩)
  .rw[QQ];rfl
  .rw[Qj,hpl];rfl
  .intro p hp
   rcases QO.mp hp with h|h
   .exact hpp p h
   .rw[QN]at h
    subst h
    split<;>lia
 case hend=>
  rintro Z ⟨ps,zy,y7,zn,rfl,hpl,hpp⟩;rw[X7,show((cs.length:Int)-0).toNat=cs.length by lia]at hpl;refine Kf ?_;refine Ka (Zv (Yo UT (Qa yK)) (Qa yK) yK) ?_;apply Kg;apply YF (λj Z=>∃(as:yP)(zE x15 aW aM:Option Sl),Z=[S0,S1,S2,S3,S4,S5,S6,S7,S8,O (.own (ps.map int)),zy,y7,zn,O (.own (as.map int)),zE,x15,aW,aM]/\as.length=j/\(∀a∈as, -lo<=a)/\∀q∈qs,q.1.toNat<j->tm*V q.1 q.2<=as.getD q.1.toNat 0+ps.getD q.2.toNat 0+lo)
  case h1=>exact WQ (UN (K0 (UN (Kd yK UR YY) UT) hm) UT) (WV (by lia) (by lia))
  case h0=>exact⟨[],yL,yL,yL,yL,rfl,rfl,(λp h=>by cases h),λq _ h=>absurd h (Nat.not_lt_zero _)⟩
  case hst=>
   rintro j d Z hj ⟨as,zE,x15,aW,aM,rfl,hal,haa,hle⟩;obtain⟨rfl,zA⟩:=VX hj;refine⟨_,UX (Qa yK) yK,?_⟩;unfold LB;rw[Ug];have hjm:j<ls.length:=by lia
   let fw:Int×Int->Int:=λq=>tm*V q.1 q.2-ps.getD q.2.toNat 0
   have hc:K6 (gN 18) (UP oEq (UU 18 (UM (.int 0))) (UJ 14)) (UP K9 (UP Ke (UJ 7) (UP V4 (UJ 1) (UJ 18))) (UU 9 (UU 18 (UM (.int 1))))) (qs.map Kl) (Yr [S0,S1,S2,S3,S4,S5,S6,S7,S8,O (.own (ps.map int)),zy,y7,zn,O (.own (as.map int)),O (.pub (.int j)),x15,aW,aM]++Uv 1 yL) []=O ((ZW (λq=>decide (q.1=(j:Int))) fw qs).map int):=by
    rw[←O3];refine(NB (λZ=>∃y10 y11 y12 y13 y15 y16 y17 x,Z=[S0,S1,S2,S3,S4,S5,S6,S7,S8,O (.pub (.list (ps.map int))),y10,y11,y12,y13,O (.pub (.int j)),y15,y16,y17,x]) _ (qs.map λq=>if decide (q.1=(j:Int))then O (int (fw q))else yL) _ _ (by rw[Qd,Qd]) ?_ ⟨_,_,_,_,_,_,_,yL,rfl⟩ (by rw[Qd,Qw];lia)).trans (by rw[QR]);rintro i d e hd he Z ⟨y10,y11,y12,y13,y15,y16,y17,x,rfl⟩;rw[Qh]at hd he;cases z:qs[i]? with
    |none=>rw[z]at hd;cases hd
    |some q=>
     rw[z]at hd he;cases hd;have hqi:=Qr z;have he:(if decide (q.1=(j:Int))=yM then O (int (fw q))else yL)=e:=QW he;have ht:UP oEq (UU 18 (UM (.int 0))) (UJ 14) [S0,S1,S2,S3,S4,S5,S6,S7,S8,O (.pub (.list (ps.map int))),y10,y11,y12,y13,O (.pub (.int j)),y15,y16,y17,O (.pub (Kl q))]=.ok (decide (q.1=(j:Int))) [S0,S1,S2,S3,S4,S5,S6,S7,S8,O (.pub (.list (ps.map int))),y10,y11,y12,y13,O (.pub (.int j)),y15,y16,y17,O (.pub (Kl q))]:=UZ (Kd yK UR (Zw (j:=0) yK)) (UO yK) ZD;refine⟨_,UX (Qa yK) yK,?_,?_,ZZ y10,ZZ y11,ZZ y12,ZZ y13,ZZ y15,ZZ y16,ZZ y17,_,rfl⟩
     .refine Eq.trans ht ?_
      rw[←he];cases decide (q.1=(j:Int))<;>rfl
     .intro v hv
      rw[hv]at he
      have:decide (q.1=(j:Int))=yM:=by
       cases h:decide (q.1=(j:Int))with
       |true=>rfl
       |false=>rw[h]at he;cases he
      rw[this]at he;cases he;have hq2:=(hq q hqi).2
      have hpx:oIx (.list (ps.map int)) (.int q.2)=O (.int (ps.getD q.2.toNat 0)):=by
       have e:q.2=((q.2.toNat:Nat):Int):=by lia
       have:=PF (xs:=ps) (k:=q.2.toNat) (by lia);rw[←e]at this;exact this
      exact UZ (UZ (UO yK) (UZ (UO yK) (UO yK) (Mt hqi)) (WW (by lia) (by lia))) (Kd yK (Kd yK UR (Zw (j:=1) yK)) hpx) Y8
   let ws:yP:=ZW (λq=>decide (q.1=(j:Int))) fw qs
   have hwl:ws.length<=1000:=by have:=HB (p:=λq=>decide (q.1=(j:Int))) (f:=fw) (qs:=qs);show(ZW _ _ _).length<=1000;lia
   refine Ka (Z1:=[S0,S1,S2,S3,S4,S5,S6,S7,S8,O (.own (ps.map int)),zy,y7,zn,O (.own (as.map int)),O (.pub (.int j)),O (.own (ws.map int)),aW,aM]) (Zv (qy (Ll (UO yK) Lm) hc (kN _)) (Qa yK) yK) ?_;refine Ka (Z1:=[S0,S1,S2,S3,S4,S5,S6,S7,S8,O (.own (ps.map int)),zy,y7,zn,O (.own (as.map int)),O (.pub (.int j)),O (.pub (.list (ws.map int))),O (.pub (.int (most (0::ws)))),aM]) (Kv (K0 (UN (UZ (Kr (UN UR UT) (Qa yK)) (K2 yK yK) (Yu (by rw[Qd];have:([int 0]:yO).length=1:=rfl;lia))) UT) (Nf (ns:=0::ws) (Nat.succ_pos _))) (Qa yK) yK) ?_;obtain⟨dc,hdc2,bc,bc'⟩:=dgt (EI (n:=cs.length) (m:=ls.length) hjm);obtain⟨mv,hmv,emv⟩:=Pq (zs:=[0,0,0,0,0,0,1,d1,0-lo]) (k:=dc) bc bc'
   have hmv : -lo<=mv:=by
    simp only[Qs,QU,or_false]at hmv
    lia
   have hix:oIx (.list (dg.map int)) (.int (2+2*(cs.length:Int)+(j:Int)))=O (.int dc):=by
    have e:(2+2*(cs.length:Int)+(j:Int))=((2+cs.length+cs.length+j:Nat):Int):=by lia
    rw[e];exact VN hdc2
   refine Ka (Z1:=[S0,S1,S2,S3,S4,S5,S6,S7,S8,O (.own (ps.map int)),zy,y7,zn,O (.own (as.map int)),O (.pub (.int j)),O (.pub (.list (ws.map int))),O (.pub (.int (most (0::ws)))),O (.pub (.int mv))]) (Kv (UZ (Kr (UN UR (UN UR (UN UR (UN UR (UN UR (UN UR (UN UR (UN (Kd yK UR (VN hd1)) (UN (UZ UR (UO yK) Y8) UT))))))))) (Qa yK)) (Kd yK (UZ (UZ UR (UZ UR (UO yK) (WW (by lia) (by lia))) KO) (UO yK) KO) hix) emv) (Qa yK) yK) ?_;have ay:∀w∈0::ws,w<=most (0::ws):=λw hw=>Px hw;refine KQ (Wx yK (UZ (UO yK) (UO yK) KO) yK (by rw[Qd];lia) yK) (Yb ⟨as++[most (0::ws)+mv],_,_,_,_,(by rw[QQ];rfl),(by rw[Qj,hal];rfl),?_,?_⟩)
   .intro a ha
    rcases QO.mp ha with h|h
    .exact haa a h
    .rw[QN]at h
     have:=ay 0 Qn
     lia
   .intro q aP hqj
    by_cases hh:q.1.toNat<j
    .have:=hle q aP hh
     rw[Jg,Qu (by lia),←Jg];exact this
    .have hqe:q.1=(j:Int):=by have:=(hq q aP).1;lia
     have bo:q.1.toNat=as.length:=by lia
     have hg:(as++[most (0::ws)+mv]).getD q.1.toNat 0=most (0::ws)+mv:=by rw[Jg,Qx (by lia),bo,Nat.sub_self];rfl
     rw[hg];have:=ay (fw q) (Qm _ (qh aP (QM hqe)));have hfw:fw q=tm*V q.1 q.2-ps.getD q.2.toNat 0:=rfl
     lia
  case hend=>rintro Z ⟨as,zE,x15,aW,aM,rfl,hal,haa,hle⟩;rw[X7,show((ls.length:Int)-0).toNat=ls.length by lia]at hal hle;refine Kf (U4 (ZM (UN (UO yK) (UN (K2 yK yK) (UN (K2 yK yK) UT))) (Qa yK)) ⟨_,rfl,tm,as,ps,rfl,?_⟩);exact⟨t12.1,t12.2,hal,hpl,hpp,haa,λq aP=>hle q aP (by have:=(hq q aP).1;lia)⟩
end
noncomputable def Vy(ps cs:yP):yP:=(ps.zip cs).map λp=>p.1*p.2
theorem Gx:∀(ps cs),Vy ps cs=Vy cs ps
 |[],cs=>by cases cs<;>rfl
 |_::_,[]=>rfl
 |p::ps,c::cs=>by have ih:=Gx ps cs;unfold Vy at ih⊢;rw[Jh,Jh,QI,QI,ih,Int.mul_comm]
def Pp(cs as ps:yP):Int:=as.sum+(Vy ps cs).sum
section
variable{cs:yP}{ls:L3}{tm:Int}{as ps:yP}
def EH:oIx (K8 tm as ps) (.int 1)=O (.list (as.map int)):=Zw (j:=1) yK
def EG:oIx (K8 tm as ps) (.int 2)=O (.list (ps.map int)):=Zw (j:=2) yK
def wK(g:Good cs ls):F_az [Kc cs ls,K8 tm as ps]=O (.int (Pp cs as ps)):=by
 refine KZ  rfl ?_;refine Ka (VI (Kh (UN (UO yK) UT) yK (PM g))) ?_;refine Ka (Xm (UO yK) (KD yK (U6 (UX (Qa yK) yK) (U6 (UX (Qa yK) yK) (U6 (UX (Qa yK) yK) KE))))) ?_;have c6:=g.c6
 let S2:Option Sl:=O (.pub (.int tm))
 let S3:Option Sl:=O (.pub (.list (as.map int)))
 let S4:Option Sl:=O (.pub (.list (ps.map int)))
 have hc:K6 (gT 2 (gNC (gN 5) (gNC (gN 6) (gN0)))) (UM yM) (UP Ke (UJ 5) (UJ 6)) (Z7 (ps.map int) (cs.map int)) (Kt [O (.pub (Kc cs ls)),O (.pub (K8 tm as ps)),S2,S3,S4]++Uv 2 yL) []=O ((Vy ps cs).map int):=by
  rw[Gc,XS (λ_=>yM) (λd=>match d with | .tuple [.int a,.int b]=>.int (a*b)|_=>.none) (λZ=>∃x y,Z=[O (.pub (Kc cs ls)),O (.pub (K8 tm as ps)),S2,S3,S4,x,y])]
  .rw[Q9.mpr (λ_ _=>rfl),QR,Q0]
   unfold Vy;rw[Q0];rfl
  .rintro d hm Z ⟨x,y,rfl⟩
   obtain⟨p,hp,rfl⟩:=Qv.mp hm;have:=g.c7 p.2 (Ua hp).2;exact⟨_,KD yK (U6 (UX (Qa yK) yK) (U6 (UX (Qa yK) yK) KE)),rfl,λ_=>UZ (UO yK) (UO yK) (XU (by lia) (by lia)),_,_,rfl⟩
  .exact⟨yL,yL,rfl⟩
  .rw[Qd,Qw,JP];lia
 exact U4 (UZ (K0 (UN (UO yK) UT) PY) (K0 (UN (Kx (Z6 (MF (UN (UO yK) (UN (Kd yK UR WF) UT)) yK) hc)) UT) PY) KO) yK
end
def Lk   (g:Good cs ls):∀q∈Kq 0 ls,(0<=q.1/\q.1<ls.length)/\0<=q.2/\q.2<cs.length:=λq hq=>by
 obtain⟨i,rs,h1,h2,h3⟩:=VR hq;have:=(g.rk rs (Qr h1)).flat q.2 h3;have:=(Ql.mp h1).1
 lia
noncomputable def Yk:D->Bool
 |.int i=>decide (0<=i)
 |_=>yN
def nlB(n:Nat):D->Bool
 |.list xs=>decide (xs.length=n)&&xs.all Yk
 |_=>yN
noncomputable def W5:D->Bool
 |.int i=>decide (1<=i)
 |_=>yN
def Yi(n m:Nat):D->Bool
 |.tuple [t,a,p]=>W5 t&&(nlB m a&&nlB n p)
 |_=>yN
def W8(d:D)(k:Int):Int:=(itI d).getD k.toNat 0
def EF(V:Int->Int->Int)(qs:LP):D->Bool
 |.tuple [.int tm,a,p]=>qs.all λq=>decide (tm*V q.1 q.2<=W8 a q.1+W8 p q.2)
 |_=>yN
def We(n m:Nat)(V:Int->Int->Int)(qs:LP)(d:D):Bool:=Yi n m d&&EF V qs d
def ShP(d:D):Prop:=∀t a p,d=.tuple [t,a,p]->(∀xs,a=.list xs->xs.length<=1000)/\∀xs,p=.list xs->xs.length<=1000
def Ms  {f}{Z Z1}{d}{t}(h:f Z=.ok d Z1)(ht:Kk d c=t):UY (λd=>Ux (Kk d c)) f Z=.ok (.bool t) Z1:=by subst ht;exact Kx  h
def Lj   {b}(h:f Z=.ok (.bool b) Z1)(hb:b=yN):U8 (KM f) Z=.ok yM Z1:=by subst hb;exact Zr (ZN h)
def wf(d):Wo [d]=O (.bool (Yk d)):=by
 refine KZ  rfl ?_;cases d with
 |int i=>exact U4 (ZU   (Kh (UN (UO yK) UT) yK (SN _)) (λ_=>Kx (Zn yK UR yK))) yK
 |_=>exact U4 (ZU (t:=yN) (u:=yN) (Kh (UN (UO yK) UT) yK (SN _)) (λz=>by cases z)) yK
def wJ{xs:yO}{n}(hl:xs.length<=1000):Vx [.list xs,.int n]=O (.bool (decide ((xs.length:Int)=n)&&xs.all Yk)):=by
 refine KZ  rfl ?_
 have hc:K6 (gN 2) (UM yM) (UV 1 Wo (UL (UJ 2) (UK))) xs (Kt [O (.pub (.list xs)),O (.pub (.int n))]++Uv 1 yL) []=O (xs.map λd=>.bool (Yk d)):=by
  rw[XS _ _ (λZ=>∃x,Z=[O (.pub (.list xs)),O (.pub (.int n)),x])]
  .rw[Q9.mpr (λ_ _=>rfl),QR]
  .rintro d hm Z ⟨x,rfl⟩
   exact⟨_,UX (Qa yK) yK,rfl,λ_=>Kh (UN (UO yK) UT) yK (wf d),_,rfl⟩
  .exact⟨yL,rfl⟩
  .rw[Qw];lia
 exact U4 (ZU (Kx (UZ (KW yK KU) (UO yK) ZD)) (λ_=>K0 (UN (Kx (Z6 (Zx (UO yK) YM) hc)) UT) (RN xs))) yK
def FZ{d:D}{n:Nat}(hl:∀xs,d=.list xs->xs.length<=1000):Xg [d,.int n]=O (.bool (nlB n d)):=by
 refine KZ  rfl ?_;cases d with
 |list xs=>refine U4 (ZU (t:=yM) (Ms (UO yK) yK) (λ_=>Kh (UN (UO yK) (UN (UO yK) UT)) yK (wJ (hl xs yK)))) ?_;show Out.rt _=Out.rt (.bool (decide _&&xs.all Yk));rw[Jt,show decide _=decide (xs.length=n)from JZ.mpr (by lia)]
 |dict kvs=>exact U4 (ZU  (u:=yN) (Pg (UO yK)) λz=>by cases z) yK
 |_=>exact U4 (ZU (t:=yN) (u:=yN) (Ms (UO yK) yK) λz=>by cases z) yK
def qg{xs:yO}(h:xs.length=3):∃a b c,xs=[a,b,c]:=by
 match xs,h with
 |[a,b,c],_=>exact⟨a,b,c,rfl⟩
def jh  {xs:yO}(h:¬xs.length=3):Yi n m (.tuple xs)=yN:=by
 unfold Yi;split
 .simp_all
 .rfl
def jg  (h:W5 d=yM):∃i,d=.int i/\1<=i:=by
 cases d with
 |int i=>exact⟨i,rfl,Qa h⟩
 |_=>cases h
theorem HA:∀{xs:yO},xs.all Yk=yM->∃ns:yP,xs=ns.map int/\∀i∈ns,0<=i
 |[],_=>⟨[],rfl,λ_ h=>by cases h⟩
 |x::r,h=>by
  rw[Ji,Qz]at h;obtain⟨ns,rfl,hn⟩:=HA h.2;cases x with
  |int i=>exact⟨i::ns,rfl,λj hj=>by
    rcases Qs.mp hj with rfl|hj
    .exact Qa h.1
    simp_all⟩
  |_=>have z:=h.1;cases z
def Li   (h:nlB n d=yM):∃ns:yP,d=.list (ns.map int)/\ns.length=n/\∀i∈ns,0<=i:=by
 cases d with
 |list xs=>have h:(decide _&&xs.all Yk)=yM:=h;rw[Qz]at h;obtain⟨ns,rfl,hn⟩:=HA h.2;exact⟨ns,rfl,by have:=Qa h.1;rw[Qd]at this;exact this,hn⟩
 |_=>cases h
def jf   (h:Yi n m d=yM):∃tm as ps,d=K8 tm as ps/\1<=tm/\(as.length=m/\∀i∈as,0<=i)/\ps.length=n/\∀i∈ps,0<=i:=by
 unfold Yi at h;split at h
 .rw[Qz,Qz]at h
  obtain⟨i,rfl,hi⟩:=jg h.1;obtain⟨as,rfl,h1⟩:=Li h.2.1;obtain⟨ps,rfl,h2⟩:=Li h.2.2;exact⟨i,as,ps,rfl,hi,h1,h2⟩
 simp_all
def je(ns):itI (.list (ns.map int))=ns:=by
 show(ns.map int).filterMap whI=ns
 rw[List.filterMap_map];show ns.filterMap (λi=>O i)=ns;simp
def NA{ns:yP}{k}:W8 (.list (ns.map int)) k=ns.getD k.toNat 0:=by unfold W8;rw[je]
def Lh{ns:yP}{k:Int}(h0:0<=k)(h1:k<ns.length):oIx (.list (ns.map int)) (.int k)=O (.int (ns.getD k.toNat 0)):=by
 obtain⟨j,rfl⟩:∃j:Nat,k=j:=⟨k.toNat,by lia⟩
 exact PF (by lia)
section
variable{cs:yP}{ls:L3}{o:Ord}{old:y0}{ts:yP}
def jd{d:D}(hs:ShP d):Wk [Kc cs ls,d]=O (.bool (Yi cs.length ls.length d)):=by
 refine KZ (Z:=[O (.pub (Kc cs ls)),O (.pub d),yL,yL,yL,yL,yL]) yK ?_;unfold TW;apply Kg;cases d with
 |tuple xs=>
  refine U5 (b:=!decide (xs.length=3)) (Z1:=[O (.pub (Kc cs ls)),O (.pub (.tuple xs)),yL,yL,yL,yL,yL]) ?_ (λhh=>?_) (λhh=>?_)
  .refine(Zq (KS (UO yK) yK) (UZ (KW yK RM) UR XN)).trans ?_
   rw[show decide ((xs.length:Int)=3)=decide (xs.length=3)from JZ.mpr (by lia)]
  .have h3:¬xs.length=3:=by simpa using hh
   refine U4 UR (Ks ?_);rw[jh h3]
  .have h3:xs.length=3:=by simpa using hh
   obtain⟨t,a,p,rfl⟩:=qg h3;obtain⟨ha,hp⟩:=hs t a p yK;refine Kn (Kf ?_);refine Ka (Xm (UO yK) (KD yK (U6 (UX (Qa yK) yK) (U6 (UX (Qa yK) yK) KE)))) ?_;refine Ka (Xm (UO yK) (KD yK (U6 (UX (Qa yK) yK) (U6 (UX (Qa yK) yK) (U6 (UX (Qa yK) yK) KE))))) ?_;have af:W5 t=yM->Ho (UW (Xr (UV 2 Xg (UL (UJ 5) (UL (KB 3) (UK)))) (UV 2 Xg (UL (UJ 6) (UL (KB 2) (UK)))))) [O (.pub (Kc cs ls)),O (.pub (.tuple [t,a,p])),O (.pub (.list (cs.map int))),O (.pub (.list (ls.map KN))),O (.pub t),O (.pub a),O (.pub p)] (λo'=>o'=.rt (.bool (Yi cs.length ls.length (.tuple [t,a,p])))):=by intro h1;have h5:=FZ (n:=ls.length) ha;have h6:=FZ (n:=cs.length) hp;refine U4 (ZU (Kh (UN (UO yK) (UN (KW yK (by rw[KU,Qd])) UT)) yK h5) (λ_=>Kh (UN (UO yK) (UN (KW yK (by rw[KU,Qd])) UT)) yK h6)) ?_;show _=Out.rt (.bool (W5 t&&_));rw[h1];rfl
   apply Kg;cases t with
   |int i=>
    refine U5 (b:=decide (i<1)) (Zq (Zr (ZN (Kh (UN (UO yK) UT) yK (SN (.int i))))) (Zn yK UR yK)) (λhh=>?_) (λhh=>?_)
    .have:i<1:=Qa hh
     refine U4 UR (Ks ?_);show _=Out.rt (.bool (decide (1<=i)&&_));rw[QF (by lia)];rfl
    .exact Kn (Kf (af (QM (by lia))))
   |_=>exact U5 (b:=yM) (Zb (Lj (Kh (UN (UO yK) UT) yK (SN _)) yK)) (λ_=>U4 UR (Ks yK)) (λz=>by cases z)
 |dict kvs=>exact U5 (b:=yM) (Zb (YE (UO yK))) (λ_=>U4 UR (Ks yK)) (λz=>by cases z)
 |_=>exact U5 (b:=yM) (Zb (KS (UO yK) yK)) (λ_=>U4 UR (Ks yK)) (λz=>by cases z)
def jc(g:Good cs ls)(ga:XM cs.length ls.length old ts){q:Int×Int}(hq:q∈Kq 0 ls):0<=Zk ls o old ts q.1 q.2/\Zk ls o old ts q.1 q.2<18446744073709551616:=by
 obtain⟨i,rs,h1,h2,h3⟩:=VR hq;have l7:=g.l7;have l1:=g.l1;have hL:lng ls<=5:=Ot l1 λrs h=>(g.rk rs h).few;have bf:=My (Qr h1);have hr1:1<=Zo q.2 rs:=by have:=GD h3;lia
 have zW:Zo q.2 rs<=lng ls:=by have:=NC q.2 rs;lia
 have htl:=ga.few
 have e:Zk ls o old ts q.1 q.2=Yh ls o old ts i rs q.2:=by
  unfold Zk;rw[h2,JR,JD]
  congr 1
  simp[List.getD,h1]
 rw[e];unfold Yh;have pw:∀{b:Int}{n k:Nat},1<=b->b<=8->n<=k->1<=b ^ n/\b ^ n<=8 ^ k:=λ{b n k} h0 h8 hk=>⟨Int.pow_pos h0,HJ (by lia) h8 hk⟩
 have hb1:(1:Int)<=(ls.length:Int)+1:=by lia
 have bv:(ls.length:Int)+1<=8:=by lia
 have hM1:(1:Int)<=(lng ls:Int)+1:=by lia
 have hM8:(lng ls:Int)+1<=8:=by lia
 have a1:=pw hb1 bv (n:=lng ls) (k:=5) hL;have a2:=pw hb1 bv (n:=((lng ls:Int)-(Zo q.2 rs:Nat)).toNat) (k:=5) (by lia);have a3:=pw hb1 bv (n:=((Zo q.2 rs:Nat)-1:Int).toNat) (k:=5) (by lia)
 have a4:((ls.length:Int)+1) ^ ((Zo q.2 rs:Nat)-1:Int).toNat<=((ls.length:Int)+1) ^ lng ls:=by
  have:((Zo q.2 rs:Nat)-1:Int).toNat<=lng ls:=by lia
  obtain⟨k,hk⟩:=Nat.exists_eq_add_of_le this;rw[hk,Int.pow_add];have:=(pw hb1 bv (n:=k) (k:=5) (by lia)).1;have hm:=Int.mul_le_mul_of_nonneg_left this (show 0<=((ls.length:Int)+1) ^ ((Zo q.2 rs:Nat)-1:Int).toNat by lia);rw[Int.mul_one]at hm;exact hm
 have b1:0<=Zz o (ls.length+1) (lng ls) (Zo q.2 rs)/\Zz o (ls.length+1) (lng ls) (Zo q.2 rs)<=65536:=by
  cases o with
  |firsts=>show 0<=_ ^ _/\_ ^ _<=65536;lia
  |full=>show 0<=_ ^ ((lng ls:Int)).toNat+_ ^ _/\_ ^ ((lng ls:Int)).toNat+_ ^ _<=65536;rw[JD];lia
  |lasts=>show 0<=_ ^ ((lng ls:Int)).toNat-_ ^ _/\_ ^ ((lng ls:Int)).toNat-_ ^ _<=65536;rw[JD];lia
 have b2:0<=YX old i q.2/\YX old i q.2<=1:=by
  unfold YX;split
  .lia
  .split<;>lia
 have b3:=pw hM1 hM8 (n:=ts.length) (k:=7) (by lia)
 have b4:0<=Xl ts ((lng ls:Int)+1) i (Zo q.2 rs)/\Xl ts ((lng ls:Int)+1) i (Zo q.2 rs)<=8*8 ^ 7:=by
  unfold Xl;split
  .have b5:=pw hM1 hM8 (n:=ts.length-1-ts.idxOf (i:Int)) (k:=7) (by lia)
   refine⟨Int.mul_nonneg (by lia) (by lia),?_⟩;exact Int.mul_le_mul (by lia) b5.2 (by lia) (by decide)
  .exact⟨by lia,by decide⟩
 have c1:0<=Zz o (ls.length+1) (lng ls) (Zo q.2 rs)*(ls.length+1)+YX old i q.2/\Zz o (ls.length+1) (lng ls) (Zo q.2 rs)*(ls.length+1)+YX old i q.2<=600000:=by
  have d1:0<=Zz o (ls.length+1) (lng ls) (Zo q.2 rs)*((ls.length:Int)+1):=Int.mul_nonneg b1.1 (by lia);have d2   :=Int.mul_le_mul b1.2 bv (by lia) (by decide)
  lia
 have d3:0<=(Zz o (ls.length+1) (lng ls) (Zo q.2 rs)*(ls.length+1)+YX old i q.2)*((lng ls:Int)+1) ^ ts.length:=Int.mul_nonneg c1.1 (by lia);have d4   :=Int.mul_le_mul c1.2 b3.2 (by lia) (by decide)
 lia
def jb(g:Good cs ls)(ga:XM cs.length ls.length old ts){d:D}(hs:ShP d):Se [Kc cs ls,KJ o old ts,d]=O (.bool (We cs.length ls.length (Zk ls o old ts) (Kq 0 ls) d)):=by
 refine KZ  rfl ?_;unfold g_ay;refine Ka (Kv (Kh (UN (UO yK) (UN (UO yK) UT)) yK (yq g ga)) (Qa yK) yK) ?_;apply Kg;refine U5 (b:=!Yi cs.length ls.length d) (Zr (ZN (Kh (UN (UO yK) (UN (UO yK) UT)) yK (jd hs)))) (λhh=>?_) (λhh=>?_)
 .have e:Yi cs.length ls.length d=yN:=by simpa using hh
  refine U4 UR (Ks ?_);unfold We;rw[e];rfl
 .have e:Yi cs.length ls.length d=yM:=by simpa using hh
  obtain⟨tm,as,ps,rfl,h1,⟨h2,h2'⟩,h3,h3'⟩:=jf e;refine Kn (Kf ?_);refine Ka (Xm (UO yK) (KD yK (U6 (UX (Qa yK) yK) (U6 (UX (Qa yK) yK) (U6 (UX (Qa yK) yK) KE))))) ?_
  let S0:Option Sl:=O (.pub (Kc cs ls))
  let S1:Option Sl:=O (.pub (KJ o old ts))
  let S2:Option Sl:=O (.pub (K8 tm as ps))
  let S3:Option Sl:=O (.pub (.list ((Kq 0 ls).map (SW (Zk ls o old ts)))))
  let S4:Option Sl:=O (.pub (.int tm))
  let S5:Option Sl:=O (.pub (.list (as.map int)))
  let S6:Option Sl:=O (.pub (.list (ps.map int)))
  let tq:Int×Int->Bool:=λq=>decide (tm*Zk ls o old ts q.1 q.2<=as.getD q.1.toNat 0+ps.getD q.2.toNat 0)
  have h42:=OJ g
  have hc:K6 (gT 3 (gNC (gN 7) (gNC (gN 8) (gNC (gN 9) (gN0))))) (UM yM) (UY Ux (UP (oIB λi j=>decide (j<=i)) (UP U0 (UU 5 (UJ 7)) (UU 6 (UJ 8))) (UP Ke (UJ 4) (UJ 9)))) ((Kq 0 ls).map (SW (Zk ls o old ts))) (Kt [S0,S1,S2,S3,S4,S5,S6]++Uv 3 yL) []=O (((Kq 0 ls).map tq).map Ux):=by
   refine(X6 (λZ=>∃x y z,Z=[S0,S1,S2,S3,S4,S5,S6,x,y,z]) _ (((Kq 0 ls).map tq).map Ux) _ _ (by rw[Qd,Qd,Qd]) ?_ ⟨yL,yL,yL,rfl⟩ (by rw[Qd,Qw];lia)).trans (by rw[QR]);rintro j d e hd he Z ⟨x,y,z,rfl⟩;rw[Qh]at hd he;rw[Qh]at he;cases hz:(Kq 0 ls)[j]? with
   |none=>rw[hz]at hd;cases hd
   |some q=>rw[hz]at hd he;cases hd;cases he;have hq:=Qr hz;have hin:=Lk g q hq;have hb:=jc (o:=o) g ga hq;exact⟨_,KD yK (U6 (UX (Qa yK) yK) (U6 (UX (Qa yK) yK) (U6 (UX (Qa yK) yK) KE))),rfl,Kx (UZ (UZ (Kd yK (UO yK) (Lh hin.1.1 (by lia))) (Kd yK (UO yK) (Lh hin.2.1 (by lia))) KO) (UZ (UO yK) (UO yK) (XU (by lia) (by lia))) yK),_,_,_,rfl⟩
  refine U4 (K0 (UN (Kx (Z6 (Zx (UO yK) YM) hc)) UT) ON) ?_;unfold We;rw[e,Jt];rw[List.all_map]
  congr 3
  funext q;rw[NA,NA];rfl
end
def Hz(ns:yP):(ns.map int).all Yk=ns.all λi=>decide (0<=i):=by rw[List.all_map];rfl
def C3   (h1:as.length<=1000)(h2:ps.length<=1000):ShP (K8 tm as ps):=by
 intro t a p e;injection e with e;injection e with _ e;injection e with ea e;injection e with ep _;subst ea ep
 exact⟨λxs e=>by cases e;rw[Qd];exact h1,λxs e=>by cases e;rw[Qd];exact h2⟩
structure OkP(n m:Nat)(V:Int->Int->Int)(qs:LP)(tm:Int)(as ps:yP):Prop where
 t0:0<=tm
 la:as.length=m
 lp:ps.length=n
 aa:∀a∈as,0<=a
 pp:∀p∈ps,0<=p
 le:∀q∈qs,tm*V q.1 q.2<=as.getD q.1.toNat 0+ps.getD q.2.toNat 0
def C2  {V}{qs}{tm}{as ps}:We n m V qs (K8 tm as ps)=yM ↔ 1<=tm/\OkP n m V qs tm as ps:=by
 have e:We n m V qs (K8 tm as ps)=((decide _&&((decide _&&(as.map int).all Yk)&&(decide _&&(ps.map int).all Yk)))&&qs.all λq=>decide _):=rfl;rw[e,Hz,Hz,Qd,Qd];simp only[Qz,Jo,QL,NA];constructor
 .rintro⟨⟨h1,⟨h2,h3⟩,h4,h5⟩,h6⟩
  exact⟨h1,⟨by lia,h2,h4,h3,h5,h6⟩⟩
 .rintro⟨h1,h⟩
  exact⟨⟨h1,⟨h.la,h.aa⟩,h.lp,h.pp⟩,h.le⟩
def wV{cs:yP}{ls}{tm:Int}{as ps:yP}(g:Good cs ls):Vm [Kc cs ls,K8 tm as ps]=O (.int (Pp cs as ps)):=by
 refine KZ  rfl ?_;have c6:=g.c6
 have hc:K6 (gT 2 (gNC (gN 2) (gNC (gN 3) (gN0)))) (UM yM) (UP Ke (UJ 2) (UJ 3)) (Z7 (cs.map int) (ps.map int)) (Kt [O (.pub (Kc cs ls)),O (.pub (K8 tm as ps))]++Uv 2 yL) []=O ((Vy cs ps).map int):=by
  rw[Gc,XS (λ_=>yM) (λd=>match d with | .tuple [.int a,.int b]=>.int (a*b)|_=>.none) (λZ=>∃x y,Z=[O (.pub (Kc cs ls)),O (.pub (K8 tm as ps)),x,y])]
  .rw[Q9.mpr (λ_ _=>rfl),QR,Q0]
   unfold Vy;rw[Q0];rfl
  .rintro d hm Z ⟨x,y,rfl⟩
   obtain⟨p,hp,rfl⟩:=Qv.mp hm;have:=g.c7 p.1 (Ua hp).1;exact⟨_,KD yK (U6 (UX (Qa yK) yK) (U6 (UX (Qa yK) yK) KE)),rfl,λ_=>UZ (UO yK) (UO yK) (WW (by lia) (by lia)),_,_,rfl⟩
  .exact⟨yL,yL,rfl⟩
  .rw[Qd,Qw,JP];lia
 refine U4 (UZ (K0 (UN (Kd yK UR EH) UT) PY) (K0 (UN (Kx (Z6 (MF (UN (Kd yK UR WF) (UN (Kd yK UR EG) UT)) yK) hc)) UT) PY) KO) ?_;unfold Pp;rw[Gx]
mutual
def hW:D->Bool
 |.none | .bool _=>yM
 |.int i=>decide (i.natAbs<10 ^ 70)
 |.str z=>Uz z&&decide (z.length<=20)
 |.list xs | .tuple xs=>hWs xs
 |.dict kvs=>hWk kvs
def hWs:yO->Bool
 |[]=>yM
 |x::xs=>hW x&&hWs xs
def hWk:List (D×D)->Bool
 |[]=>yM
 |(.str z,v)::r=>Uz z&&(decide (z.length<=20)&&(hW v&&hWk r))
 |(.int i,v)::r=>decide (i.natAbs<10 ^ 70)&&(hW v&&hWk r)
 |_::_=>yN
end
theorem Pr:∀{xs},hWs xs=yM ↔ ∀x∈xs,hW x=yM
 |[]=>by simp[hWs]
 |x::r=>by rw[hWs,Bool.and_eq_true,Pr];simp
def Sh(k n:Nat)(d:D):Prop:=hW d=yM/\d.depth<=k/\d.bulk<=n
def Sh.mono{k m n p}{d}(h:Sh k n d)(h1:k<=m)(h2:n<=p):Sh m p d:=⟨h.1,QE h.2.1 h1,QE h.2.2 h2⟩
theorem Nz  : ∀{xs:yO},(∀x∈xs,x.depth<=k)->PyData.depthAll xs<=k
 |[],_=>by simp[PyData.depthAll]
 |x::r,h=>by
  have h1:=h x Qn;have h2:=Nz  λy hy=>h y (Qm _ hy);simp only[PyData.depthAll]
  lia
theorem O2  : ∀{xs:yO},(∀x∈xs,x.bulk<=n)->PyData.bulkAll xs<=xs.length*(n+1)
 |[],_=>by simp[PyData.bulkAll]
 |x::r,h=>by
  have h1:=h x Qn;have h2:=O2  λy hy=>h y (Qm _ hy);simp only[PyData.bulkAll,QD]
  lia
def RH  {xs:yO}(h:∀x∈xs,Sh k n x)(hl:xs.length<=m):Sh (k+1) (m*(n+1)) (.list xs):=by
 refine⟨by simpa[hW]using Pr.mpr λx hx=>(h x hx).1,?_,?_⟩
 .have:=Nz λx hx=>(h x hx).2.1
  simp only[UB]
  lia
 .have h1:=O2 λx hx=>(h x hx).2.2
  have h2:xs.length*_<=m*(n+1):=Nat.mul_le_mul_right _ hl;simp only[PyData.bulk]
  lia
def V9  {xs:yO}(h:∀x∈xs,Sh k n x)(hl:xs.length<=m):Sh (k+1) (m*(n+1)) (.tuple xs):=by
 refine⟨by simpa[hW]using Pr.mpr λx hx=>(h x hx).1,?_,?_⟩
 .have:=Nz λx hx=>(h x hx).2.1
  simp only[UB]
  lia
 .have h1:=O2 λx hx=>(h x hx).2.2
  have h2:xs.length*_<=m*(n+1):=Nat.mul_le_mul_right _ hl;simp only[PyData.bulk]
  lia
def Wt   (h:i.natAbs<10 ^ 70):Sh k n (.int i):=⟨by simpa only[hW]using QM h,by simp[UB],by simp[PyData.bulk]⟩
def VH{k n:Nat}:Sh k n .none:=⟨rfl,by simp[UB],by simp[PyData.bulk]⟩
def OH{k n:Nat}{b:Bool}:Sh k n (.bool b):=⟨rfl,by simp[UB],by simp[PyData.bulk]⟩
def Ru{k n}{z}(h:Uz z=yM)(h2:z.length<=20)(h3:z.length<=n):Sh k n (.str z):=⟨by simp[hW,h,h2],by simp[UB],h3⟩
theorem Ny  : ∀{xs:yO},x∈xs->x.bulk+1<=PyData.bulkAll xs
 |y::r,h=>by
  simp only[PyData.bulkAll];rcases Qs.mp h with rfl|h
  .lia
  .have:=Ny  h
   lia
noncomputable def ords:List Str:=["firsts", "full", "lasts"]
def Lg:∀y∈ords,Uz y=yM:=by decide +kernel
def ZX:D->Bool
 |.str z=>ords.contains z
 |_=>yN
def OkT(d:D):Prop:=∀z,d=.str z->Uz z=yM
def wU  (h:OkT d):XF [d]=O (.bool (ZX d)):=by
 refine KZ  rfl ?_;cases d with
 |str z=>exact U4 (ZU   (VT (UO yK) yK) λ_=>Kx (Zn yK UR (qo (h z yK) Lg))) yK
 |dict kvs=>exact U4 (ZU  (u:=yN) (Pg (UO yK)) λz=>by cases z) yK
 |_=>exact U4 (ZU (t:=yN) (u:=yN) (VT (UO yK) yK) λz=>by cases z) yK
def DG  (h:OkT d):SR [d]=O (if ZX d=yM then .val .none else .exc (exD "NoAim" [.str "order"])):=by
 refine Wr  rfl ?_;refine U5 (Zr (ZN (Kh (UN (UO yK) UT) yK (wU h)))) (λz=>?_) λz=>?_
 .have z   :=by simpa using z
  rw[z];exact KQ (X5  (UN UR UT) (by kernel_rfl)) ⟨rfl,rfl⟩
 .have z   :=by simpa using z
  rw[z];exact Kn yK
theorem OG  : ∀{xs}{k},(∀x∈xs,p x=yM)->fb p k xs=yL
 |[],_,_=>rfl
 |x::r,k,h=>by unfold fb;rw[Qp (h x Qn)];exact OG λy hy=>h y (Qm _ hy)
def C1(rs:List yP):flI (rs.map K4)=rs.flatten:=by
 unfold flI;induction rs with
 |nil=>rfl
 |cons r t ih=>
  rw[QI,List.flatMap_cons]
  congr 1
  show(r.map int).filterMap whI=r
  rw[List.filterMap_map];show r.filterMap (λi=>O i)=r;simp
def kM   (g:VQ n rs):ZB n (KN rs)=yM:=by
 show ZB n (.list _)=yM;rw[W1,C1,QM g.once,Qd,QM g.few];simp only[Jt,Bool.and_true,QL];intro x hx;obtain⟨r,hr,rfl⟩:=Qv.mp hx;have hn:=g.some r hr;have ht:=g.there r hr;cases r with
 |nil=>simp_all
 |cons i q=>
  show((int i::q.map int).all _)=yM
  rw[QL];intro y hy;have hy:y∈(i::q).map int:=hy;obtain⟨z,hz,rfl⟩:=Qv.mp hy;have:=ht z hz
  show(decide _&&decide _)=yM
  simp_all
def HG  {ls}(g:Good cs ls):Zh (Kc cs ls)=yL:=by
 show Zh (.tuple [.list _,.list _])=yL;rw[VO];have c1:=g.c1;have c6:=g.c6;have l1:=g.l1;have l7:=g.l7
 have e1:Zi (.list (cs.map int))=yL:=by
  unfold Zi;dsimp only;rw[Qp (by rw[Qd];lia),OG];intro x hx;obtain⟨i,hi,rfl⟩:=Qv.mp hx;have:=g.c7 i hi
  show(decide _&&decide (i<8))=yM
  rw[QM this.1,QM this.2];rfl
 rw[e1];unfold ZA;dsimp only;rw[Qp (by rw[Qd];lia),OG];intro x hx;obtain⟨rs,hrs,rfl⟩:=Qv.mp hx;rw[Qd];exact kM (g.rk rs hrs)
def EE   (g:Good cs ls):X8 [Kc cs ls]=O (.val .none):=by
 have wg:wB 448 (Kc cs ls)=yM:=by
  obtain⟨a1,a2⟩:=HH g
  exact Sz  (by decide) _ (Rv.mpr ⟨show 2<=7 by decide,λx hx=>by
   have hx   :=by simpa using hx
   rcases hx with rfl|rfl
   .exact a1
   .exact a2⟩)
 have hx:=M0 (Lp (Sz  (by decide) _ wg));rw[HG g]at hx;exact hx
def Yw(m n:Nat):D->Bool
 |.none=>yM
 |.list xs=>decide (xs.length=m)&&xs.all λx=>isNon x || Ki n x
 |_=>yN
def ZV(m:Nat):D->Bool
 |.list xs=>xs.all (Ki m)&&decide (xs.filterMap whI).Nodup
 |_=>yN
def ZP(n m:Nat):D->Option Str
 |.tuple [o,w,t]=>if ZX o=yM then(if Yw m n w=yM then(if ZV m t=yM then yL else O "turns")else O "old")else O "order"
 |_=>O "aim"
def SmA(d:D):Prop:=∀o w t,d=.tuple [o,w,t]->OkT o/\(∀xs,w=.list xs->xs.length<=700)/\∀xs,t=.list xs->xs.length<=700
def C0{d:D}{m n:Nat}(hl:∀xs,d=.list xs->xs.length<=700):Xi [d,.int m,.int n]=O (.bool (Yw m n d)):=by
 refine KZ (Z:=[O (.pub d),O (.pub (.int m)),O (.pub (.int n))]) yK ?_;unfold Vb;apply Kg;cases d with
 |none=>exact U5 (b:=yM) (Kx (k:=isNon) (x:=PyData.none) (UO yK)) (λ_=>U4 UR (Ks yK)) λz=>by cases z
 |list xs=>
  have hl:=hl xs yK;refine U5 (b:=yN)  (Kx (k:=isNon) (x:=Uw xs) (UO yK)) (λz=>by cases z) λ_=>Kn (Kf ?_)
  apply Kg;refine U5 (b:=!decide ((xs.length:Int)=(m:Int))) (Z1:=[O (.pub (.list xs)),O (.pub (.int m)),O (.pub (.int n))]) (Zq (KS (UO yK) yK) (UZ (KW yK KU) (UO yK) XN)) (λhh=>?_) (λhh=>?_)
  .have h3:¬(xs.length:Int)=(m:Int):=by simpa using hh
   refine U4 UR (Ks ?_);show _=Out.rt (.bool (decide (xs.length=m)&&_));rw[QF (by lia)];rfl
  .have h3:(xs.length:Int)=(m:Int):=by simpa using hh
   refine Kn (Kf ?_)
   have hc:K6 (gN 3) (UM yM) (Wd (UY (λd=>.bool (isNon d)) (UJ 3)) (UV 2 Zf (UL (UJ 3) (UL (UJ 2) (UK))))) xs (Kt [O (.pub (.list xs)),O (.pub (.int m)),O (.pub (.int n))]++Uv 1 yL) []=O (xs.map λd=>.bool (isNon d || Ki n d)):=by
    rw[XS (λ_=>yM) (λd=>.bool (isNon d || Ki n d)) (λZ=>∃x,Z=[O (.pub (.list xs)),O (.pub (.int m)),O (.pub (.int n)),x])]
    .rw[Q9.mpr (λ_ _=>rfl),QR]
    .rintro d hm Z ⟨x,rfl⟩
     exact⟨_,UX (Qa yK) yK,rfl,λ_=>Ox (Kx (k:=λd=>Ux (isNon d)) (UO yK)) (λ_=>Kh (UN (UO yK) (UN (UO yK) UT)) yK (PL d n)),_,rfl⟩
    .exact⟨yL,rfl⟩
    .rw[Qw];lia
   refine U4 (K0 (UN (Kx (Z6 (Zx (UO yK) YM) hc)) UT) (RN xs)) ?_;show _=Out.rt (.bool (decide (xs.length=m)&&_));rw[QM (by lia)];rfl
 |dict kvs=>
  refine U5 (b:=yN)  (Kx (k:=isNon) (x:=PyData.dict kvs) (UO yK)) (λz=>by cases z) λ_=>Kn (Kf ?_)
  apply Kg;exact U5 (b:=yM) (Zb (YE (UO yK))) (λ_=>U4 UR (Ks yK)) λz=>by cases z
 |bool b=>
  refine U5 (b:=yN) (Z1:=[O (.pub (.bool b)),O (.pub (.int m)),O (.pub (.int n))]) (Kx (k:=isNon) (x:=Ux b) (UO yK)) (λz=>by cases z) λ_=>Kn (Kf ?_)
  apply Kg;exact U5 (b:=yM) (Zb (KS (UO yK) yK)) (λ_=>U4 UR (Ks yK)) λz=>by cases z
 |int b=>
  refine U5 (b:=yN) (Z1:=[O (.pub (.int b)),O (.pub (.int m)),O (.pub (.int n))]) (Kx (k:=isNon) (x:=int b) (UO yK)) (λz=>by cases z) λ_=>Kn (Kf ?_)
  apply Kg;exact U5 (b:=yM) (Zb (KS (UO yK) yK)) (λ_=>U4 UR (Ks yK)) λz=>by cases z
 |str b=>
  refine U5 (b:=yN) (Z1:=[O (.pub (.str b)),O (.pub (.int m)),O (.pub (.int n))]) (Kx (k:=isNon) (x:=Uy b) (UO yK)) (λz=>by cases z) λ_=>Kn (Kf ?_)
  apply Kg;exact U5 (b:=yM) (Zb (KS (UO yK) yK)) (λ_=>U4 UR (Ks yK)) λz=>by cases z
 |tuple b=>
  refine U5 (b:=yN) (Z1:=[O (.pub (.tuple b)),O (.pub (.int m)),O (.pub (.int n))]) (Kx (k:=isNon) (x:=PyData.tuple b) (UO yK)) (λz=>by cases z) λ_=>Kn (Kf ?_)
  apply Kg;exact U5 (b:=yM) (Zb (KS (UO yK) yK)) (λ_=>U4 UR (Ks yK)) λz=>by cases z
def kL{d:D}{m:Nat}(hl:∀xs,d=.list xs->xs.length<=700):Xh [d,.int m]=O (.bool (ZV m d)):=by
 refine KZ (Z:=[O (.pub d),O (.pub (.int m))]) yK ?_;unfold Va;apply Kg;cases d with
 |list xs=>
  have hl:=hl xs yK
  have hc:K6 (gN 2) (UM yM) (UV 2 Zf (UL (UJ 2) (UL (UJ 1) (UK)))) xs (Kt [O (.pub (.list xs)),O (.pub (.int m))]++Uv 1 yL) []=O (xs.map λd=>.bool (Ki m d)):=by
   rw[XS (λ_=>yM) (λd=>.bool (Ki m d)) (λZ=>∃x,Z=[O (.pub (.list xs)),O (.pub (.int m)),x])]
   .rw[Q9.mpr (λ_ _=>rfl),QR]
   .rintro d hm Z ⟨x,rfl⟩
    exact⟨_,UX (Qa yK) yK,rfl,λ_=>Kh (UN (UO yK) (UN (UO yK) UT)) yK (PL d m),_,rfl⟩
   .exact⟨yL,rfl⟩
   .rw[Qw];lia
  refine U5 (b:=!xs.all (Ki m))  (Zq (KS (UO yK) yK) (Zr (ZN (K0 (UN (Kx (Z6 (Zx (UO yK) YM) hc)) UT) (RN xs))))) (λhh=>?_) (λhh=>?_)
  .have h3:xs.all (Ki m)=yN:=by simpa using hh
   refine U4 UR (Ks ?_);show _=Out.rt (.bool (xs.all (Ki m)&&_));rw[h3];rfl
  .have h3:xs.all (Ki m)=yM:=by simpa using hh
   refine Kn (Kf ?_);have e:=PJ h3;obtain⟨u,hu,hd⟩:=HI (ns:=xs.filterMap whI) (by have:=Uh List.length e;rw[Qd]at this;lia);rw[←e]at hu;refine U4 (Kx (UZ (K0 (UN (UO yK) UT) hu) (KW yK KU) ZD)) ?_;show Out.rt _=Out.rt (.bool (xs.all (Ki m)&&decide (xs.filterMap whI).Nodup));have el:xs.length=(xs.filterMap whI).length:=by have:=Uh List.length e;rw[Qd]at this;exact this
   rw[h3,Jt,←hd,el]
 |dict kvs=>exact U5 (b:=yM) (Zb (YE (UO yK))) (λ_=>U4 UR (Ks yK)) λz=>by cases z
 |_=>exact U5 (b:=yM) (Zb (KS (UO yK) yK)) (λ_=>U4 UR (Ks yK)) λz=>by cases z
def N4:Option Str->XR
 |none=>.val .none
 |some p=>.exc (exD "NoAim" [.str p])
def ja{cs:yP}{ls:L3}(g:Good cs ls){d:D}(hs:SmA d):WD [Kc cs ls,d]=O (N4 (ZP cs.length ls.length d)):=by
 refine Wr (Z:=[O (.pub (Kc cs ls)),O (.pub d),yL,yL,yL,yL,yL]) yK ?_;unfold NT;refine Ka (Sq (Y1 (UN (UO yK) UT) yK (EE g)) yK) ?_;apply Kg
 have bad:ZP cs.length ls.length d=O ("aim" : Str)->Ho (Y2 "NoAim" (UL (UM (.str "aim")) (UK))) [O (.pub (Kc cs ls)),O (.pub d),yL,yL,yL,yL,yL] (V1 (UQ (KY (UJ 0) (gT 2 (gNC (gN 2) (gNC (gN 3) (gN0)))))
   (UQ (KY (UJ 1) (gT 3 (gNC (gN 4) (gNC (gN 5) (gNC (gN 6) (gN0))))))
   (UQ (sX (Z8 1 SR (UL (UJ 4) (UK))) λ_ Z=>.nx Z)
   (UQ (sIf (U8 (KM (UV 3 Xi (UL (UJ 5) (UL (KB 3) (UL (KB 2) (UK)))))))
   (Y2 "NoAim" (UL (UM (.str "old")) (UK)))
   (sNx))
   (sIf (U8 (KM (UV 2 Xh (UL (UJ 6) (UL (KB 3) (UK))))))
   (Y2 "NoAim" (UL (UM (.str "turns")) (UK)))
   (sNx)))))) (Ve (N4 (ZP cs.length ls.length d)))):=λe=>by
  rw[e];exact KQ (X5 (fs:=[.str "aim"]) (UN UR UT) (by kernel_rfl)) (Y6 ⟨rfl,rfl⟩)
 cases d with
 |tuple xs=>
  refine U5 (b:=!decide (xs.length=3)) (Z1:=[O (.pub (Kc cs ls)),O (.pub (.tuple xs)),yL,yL,yL,yL,yL]) ?_ (λhh=>?_) (λhh=>?_)
  .refine(Zq (KS (UO yK) yK) (UZ (KW yK RM) UR XN)).trans ?_
   rw[show decide ((xs.length:Int)=3)=decide (xs.length=3)from JZ.mpr (by lia)]
  .have h3:¬xs.length=3:=by simpa using hh
   refine bad ?_;unfold ZP;split
   .rename_i heq;cases heq;exact absurd yK h3
   .rfl
  .have h3:xs.length=3:=by simpa using hh
   obtain⟨o,w,t,rfl⟩:∃a b c,xs=[a,b,c]:=by
    match xs,h3 with
    |[a,b,c],_=>exact⟨a,b,c,rfl⟩
   obtain⟨ho,hw,ht⟩:=hs o w t yK;refine Kn (Kf ?_);refine Ka (Xm (UO yK) (KD yK (U6 (UX (Qa yK) yK) (U6 (UX (Qa yK) yK) KE)))) ?_;refine Ka  (Xm (UO yK) (KD yK (U6 (UX (Qa yK) yK) (U6 (UX (Qa yK) yK) (U6 (UX (Qa yK) yK) KE))))) ?_;have hox:=DG ho;apply Kg;cases zo:ZX o with
   |false=>
    rw[zo]at hox;have e:ZP cs.length ls.length (.tuple [o,w,t])=O ("order" : Str):=by show(if ZX o=yM then _ else _)=_;rw[zo];rfl
    rw[e];exact KQ (WK (Y1 (UN (UO yK) UT) yK hox)) (Y6 ⟨rfl,rfl⟩)
   |true=>
    rw[zo]at hox;refine KQ (Sq (Y1 (UN (UO yK) UT) yK hox) yK) (Kf ?_);apply Kg;refine U5 (b:=!Yw ls.length cs.length w)  (Zr (ZN (Kh (UN (UO yK) (UN (KW yK (by rw[KU,Qd])) (UN (KW yK (by rw[KU,Qd])) UT))) yK (C0 hw)))) (λhh=>?_) (λhh=>?_)
    .have zw:Yw ls.length cs.length w=yN:=by simpa using hh
     have e:ZP cs.length ls.length (.tuple [o,w,t])=O ("old" : Str):=by show(if ZX o=yM then(if Yw ls.length cs.length w=yM then _ else _)else _)=_;rw[zo,zw];rfl
     rw[e];exact KQ (X5 (fs:=[.str "old"]) (UN UR UT) (by kernel_rfl)) (Y6 ⟨rfl,rfl⟩)
    .have zw:Yw ls.length cs.length w=yM:=by simpa using hh
     refine Kn (Kf ?_);have e:ZP cs.length ls.length (.tuple [o,w,t])=if ZV ls.length t=yM then yL else O ("turns" : Str):=by show(if ZX o=yM then(if Yw ls.length cs.length w=yM then _ else _)else _)=_;rw[zo,zw];rfl
     rw[e];refine U5 (b:=!ZV ls.length t)  (Zr (ZN (Kh (UN (UO yK) (UN (KW yK (by rw[KU,Qd])) UT)) yK (kL ht)))) (λhh=>?_) (λhh=>?_)
     .have zt:ZV ls.length t=yN:=by simpa using hh
      rw[zt];exact KQ (X5 (fs:=[.str "turns"]) (UN UR UT) (by kernel_rfl)) ⟨rfl,rfl⟩
     .have zt:ZV ls.length t=yM:=by simpa using hh
      rw[zt];exact Kn yK
 |dict kvs=>exact U5 (b:=yM) (Zb (YE (UO yK))) (λ_=>bad yK) λz=>by cases z
 |_=>exact U5 (b:=yM) (Zb (KS (UO yK) yK)) (λ_=>bad yK) λz=>by cases z
def SI(d:D)(n:Int):ZJ [d,.int n]=O (.bool (Ki n d)):=by
 refine KZ  rfl ?_;cases d with
 |int i=>exact U4 (ZU (t:=yM)  (VT (UO yK) yK) λ_=>ZU (t:=yM)  (OO (t:=yN) (VT (UO yK) yK)) λ_=>ZU (Kx (UZ UR (UO yK) yK)) λ_=>Kx (Zn yK (UO yK) yK)) yK
 |bool b=>exact U4 (ZU (t:=yM)  (VT (UO yK) yK) λ_=>ZU (t:=yN) (u:=yN) (OO (t:=yM) (VT (UO yK) yK)) λz=>by cases z) yK
 |dict kvs=>exact U4 (ZU  (u:=yN) (Pg (UO yK)) λz=>by cases z) yK
 |_=>exact U4 (ZU (t:=yN) (u:=yN) (VT (UO yK) yK) λz=>by cases z) yK
noncomputable def WE:Option Str->D
 |none=>.none
 |some p=>.str p
def q9  (h:Uz z=yM):YS (.str z) (.list [.str "firsts", .str "full", .str "lasts"])=O (!ords.contains z):=by unfold YS;rw[show(Uw [.str "firsts", .str "full", .str "lasts"])=.list (ords.map Uy)from rfl,qm h Lg];rfl
def CZ  {k:Nat}(h:k<=xs.length):DL.cutD xs yL (O (k:Int))=xs.take k:=by unfold DL.cutD;rw[HT.LN,HT.Ha,List.drop_zero,Nat.sub_zero,Nat.min_eq_left h]
section
variable{cs:yP}{ls:L3}
def Gw{o w t:D}{x2 x3:Option Sl}(l7:ls.length<=7)(ht:∀xs,t=.list xs->xs.length<=700):Ho (UQ (sIf (U8 (KM (UY (λd=>.bool (Kk d "list")) (UU 1 (UM (.int 2))))))
   (UW (UM (.str "turns")))
   (sNx))
   (UQ (Ko (Xp (UL (UU 1 (UM (.int 2))) (UK))) (gT 2 (gNC (gN 3) (gNC (gN 2) (gN0)))) O0)
   (UW (UM .none)))) [O (.pub (Kc cs ls)),O (.pub (.tuple [o,w,t])),x2,x3] (λo'=>o'=.rt (WE (if ZV ls.length t=yM then yL else O ("turns" : Str)))):=by
 have i2:oIx (.tuple [o,w,t]) (.int 2)=O t:=Zw (j:=2) yK;have hm:Kb [.list (ls.map KN)]=O (.int ls.length):=by rw[KU,Qd]
 apply Kg;cases t with
 |list xs=>
  have hl:=ht xs yK;refine U5 (b:=yN) (Z1:=[O (.pub (Kc cs ls)),O (.pub (.tuple [o,w,.list xs])),x2,x3]) (KS (Kd yK UR i2) yK) (λz=>by cases z) λ_=>Kn (Kf ?_)
  apply Kg;apply YF (λj Z=>(∃y2 y3,Z=[O (.pub (Kc cs ls)),O (.pub (.tuple [o,w,.list xs])),y2,y3])/\(xs.take j).all (Ki ls.length)=yM/\((xs.take j).filterMap whI).Nodup)
  case h1=>exact WC (UN (Kd yK UR i2) UT) WB
  case h0=>exact⟨⟨_,_,rfl⟩,rfl,J7⟩
  case hst=>
   rintro j d Z hj ⟨⟨y2,y3,rfl⟩,ha,hn⟩;obtain⟨x,hx,rfl⟩:=VS hj;rw[JR];have zA:j<xs.length:=(Ql.mp hx).1;have hxj:xs[j]=x:=(Ql.mp hx).2;have hts:xs.take (j+1)=xs.take j++[x]:=by rw[Jf zA,hxj]
   refine⟨_,KD yK (U6 (UX (Qa yK) yK) (U6 (UX (Qa yK) yK) KE)),?_⟩;unfold O0;have zB:ZV ls.length (.list xs)=(xs.all (Ki ls.length)&&decide (xs.filterMap whI).Nodup):=rfl;cases hb:Ki ls.length x with
   |false=>
    have e:ZV ls.length (.list xs)=yN:=by rw[zB,show xs.all (Ki ls.length)=yN from Bool.eq_false_iff.mpr λh=>by have:=QL.mp h x (Qr hx);rw[hb]at this;cases this];rfl
    refine U5 (b:=yM) (Z1:=[O (.pub (Kc cs ls)),O (.pub (.tuple [o,w,.list xs])),O (.pub x),O (.pub (.int j))]) (Zb (Lj (Kh (UN (UO yK) (UN (K0 (UN (Kd yK UR YY) UT) hm) UT)) yK (SI x _)) hb)) (λ_=>U4 UR (RL (Ks ?_))) λz=>by cases z
    rw[e];rfl
   |true=>
    obtain⟨i,rfl,_⟩:=O4 hb;have ei:=PJ ha;have hin:oIn (.int i) (.list (xs.take j))=O (((xs.take j).filterMap whI).contains i):=by rw[ei];have:=Pt (t:=i) (r:=(xs.take j).filterMap whI);rw[←ei]at this⊢;exact this
    have hsl:Zs (UU 1 (UM (.int 2))) (UM yL) (U3 (UJ 3) λx=>U7 (Z9 x)) [O (.pub (Kc cs ls)),O (.pub (.tuple [o,w,.list xs])),O (.pub (.int i)),O (.pub (.int j))]=.ok (.list (xs.take j)) [O (.pub (Kc cs ls)),O (.pub (.tuple [o,w,.list xs])),O (.pub (.int i)),O (.pub (.int j))]:=Ww (Kd yK UR i2) UR (Y9 (UO yK)) (by rw[WA,CZ (by lia)]);refine U5 (b:=((xs.take j).filterMap whI).contains i)  (Zq (Zr (t:=yM) (ZN (Kh (UN (UO yK) (UN (K0 (UN (Kd yK UR YY) UT) hm) UT)) yK ((SI (.int i) _).trans (by rw[hb]))))) (Zn yK hsl hin)) (λhh=>?_) (λhh=>?_)
    .have hmem:i∈(xs.take j).filterMap whI:=by simpa using hh
     have e:ZV ls.length (.list xs)=yN:=by rw[zB,QF,JL];intro hnd;have hsub:((xs.take (j+1)).filterMap whI).Nodup:=List.Nodup.sublist (List.Sublist.filterMap _ (List.take_sublist _ _)) hnd;rw[hts,List.filterMap_append]at hsub;exact(List.nodup_append.mp hsub).2.2 i hmem i (by simp[whI]) yK
     refine U4 UR (RL (Ks ?_));rw[e];rfl
    .have hmem:¬i∈(xs.take j).filterMap whI:=by simpa using hh
     refine Kn (Yb ⟨⟨_,_,rfl⟩,?_,?_⟩)
     .rw[hts,List.all_append,ha]
      simp[hb]
     .rw[hts,List.filterMap_append,Jp]
      refine⟨hn,by simp[whI],λa ha' b hb' e=>?_⟩;have:b=i:=by simpa[whI]using hb'
      rw[e,this]at ha';exact hmem ha'
  case hend=>
   rintro Z ⟨⟨y2,y3,rfl⟩,ha,hn⟩;rw[WY,J0]at ha hn;refine Kf (U4 UR ?_);have e:ZV ls.length (.list xs)=yM:=by show(xs.all (Ki ls.length)&&decide (xs.filterMap whI).Nodup)=yM;rw[ha,QM hn];rfl
   rw[e];rfl
 |dict kvs=>exact U5 (b:=yM) (YE (Kd yK UR i2)) (λ_=>U4 UR (Ks yK)) λz=>by cases z
 |_=>exact U5 (b:=yM) (KS (Kd yK UR i2) yK) (λ_=>U4 UR (Ks yK)) λz=>by cases z
def wT(l7:ls.length<=7){d:D}(hs:SmA d):Vj [Kc cs ls,d]=O (WE (ZP cs.length ls.length d)):=by
 refine KZ (Z:=[O (.pub (Kc cs ls)),O (.pub d),yL,yL]) yK ?_;unfold TF;have hn:Kb [.list (cs.map int)]=O (.int cs.length):=by rw[KU,Qd]
 have hm:Kb [.list (ls.map KN)]=O (.int ls.length):=by rw[KU,Qd]
 apply Kg;cases d with
 |tuple xs=>
  refine U5 (b:=!decide (xs.length=3)) (Z1:=[O (.pub (Kc cs ls)),O (.pub (.tuple xs)),yL,yL]) ?_ (λhh=>?_) (λhh=>?_)
  .refine(Zq (KS (UO yK) yK) (UZ (KW yK RM) UR XN)).trans ?_
   rw[show decide ((xs.length:Int)=3)=decide (xs.length=3)from JZ.mpr (by lia)]
  .have h3:¬xs.length=3:=by simpa using hh
   refine U4 UR (Ks ?_)
   have e:ZP cs.length ls.length (.tuple xs)=O ("aim" : Str):=by
    unfold ZP;split
    .rename_i heq;cases heq;exact absurd yK h3
    .rfl
   rw[e];rfl
  .have h3:xs.length=3:=by simpa using hh
   obtain⟨o,w,t,rfl⟩:∃a b c,xs=[a,b,c]:=by
    match xs,h3 with
    |[a,b,c],_=>exact⟨a,b,c,rfl⟩
   obtain⟨ho,hw,ht⟩:=hs o w t yK;have i0:oIx (.tuple [o,w,t]) (.int 0)=O o:=Zw (j:=0) yK;have i1:oIx (.tuple [o,w,t]) (.int 1)=O w:=Zw (j:=1) yK;have hap:ZP cs.length ls.length (.tuple [o,w,t])=if ZX o=yM then _ else O ("order" : Str):=rfl
   refine Kn (Kf ?_)
   let R:US:=[O (.pub (Kc cs ls)),O (.pub (.tuple [o,w,t])),yL,yL]
   have hot:mOr (U8 (KM (UY (λd=>.bool (Kk d "str")) (UU 1 (UM (.int 0)))))) (UP YS (UU 1 (UM (.int 0))) (U1 (UL (UM (.str "firsts")) (UL (UM (.str "full")) (UL (UM (.str "lasts")) (UK)))))) R=.ok (!ZX o) R:=by
    cases o with
    |str z=>exact Zq (KS (Kd yK UR i0) yK) (UZ (Kd yK UR i0) (Kr (UN UR (UN UR (UN UR UT))) (Qa yK)) (q9 (ho z yK)))
    |dict kvs=>exact Zb (YE (Kd yK UR i0))
    |_=>exact Zb (KS (Kd yK UR i0) yK)
   apply Kg;refine U5 (Z1:=R) hot (λhh=>?_) (λhh=>?_)
   .have zo:ZX o=yN:=by simpa using hh
    refine U4 UR (Ks ?_);rw[hap,zo];rfl
   .have zo:ZX o=yM:=by simpa using hh
    refine Kn (Kf ?_);rw[hap,zo,Qp yK];apply Kg;cases hnw:isNon w with
    |true=>
     cases w with
     |none=>
      refine U5 (b:=yN) (Z1:=R) (Kx (k:=λd=>!isNon d) (x:=PyData.none) (Kd yK UR i1)) (λz=>by cases z) λ_=>Kn (Kf ?_)
      rw[show Yw ls.length cs.length .none=yM from rfl,Qp yK];exact Gw l7 ht
     |_=>cases hnw
    |false=>
     refine U5 (b:=yM) (Z1:=R) ((Kx (k:=λd=>!isNon d) (x:=w) (Kd yK UR i1)).trans (by rw[hnw];rfl)) (λ_=>?_) λz=>by cases z
     apply Kg;cases w with
     |none=>cases hnw
     |list ys=>
      have hl:=hw ys yK;have zB:Yw ls.length cs.length (.list ys)=(decide (ys.length=ls.length)&&ys.all λx=>isNon x || Ki cs.length x):=rfl;refine U5 (b:=!decide ((ys.length:Int)=(ls.length:Int))) (Z1:=R) (Zq (KS (Kd yK UR i1) yK) (UZ (K0 (UN (Kd yK UR i1) UT) KU) (K0 (UN (Kd yK UR YY) UT) hm) XN)) (λhh=>?_) (λhh=>?_)
      .have h3:¬(ys.length:Int)=(ls.length:Int):=by simpa using hh
       refine U4 UR (Ks (Ks ?_));rw[zB,QF (by lia)];rfl
      .have h3:(ys.length:Int)=(ls.length:Int):=by simpa using hh
       refine Kn (Kf ?_);apply YF (λj Z=>(∃y2,Z=[O (.pub (Kc cs ls)),O (.pub (.tuple [o,.list ys,t])),y2,yL])/\∀x∈ys.take j,(isNon x || Ki cs.length x)=yM)
       case h1=>exact Zx (Kd yK UR i1) YM
       case h0=>exact⟨⟨_,rfl⟩,λx h=>by simp at h⟩
       case hst=>
        rintro j d Z hj ⟨⟨y2,rfl⟩,hb⟩;have zA:j<ys.length:=(Ql.mp hj).1;have hxj:ys[j]=d:=(Ql.mp hj).2;refine⟨_,UX (Qa yK) yK,?_⟩;unfold LF;have htest:Ze (UY (λd=>!isNon d) (UJ 2)) (U8 (KM (UV 2 ZJ (UL (UJ 2) (UL (KH Kb (UL (UU 0 (UM (.int 0))) (UK))) (UK)))))) [O (.pub (Kc cs ls)),O (.pub (.tuple [o,.list ys,t])),O (.pub d),yL]=.ok (!(isNon d || Ki cs.length d)) [O (.pub (Kc cs ls)),O (.pub (.tuple [o,.list ys,t])),O (.pub d),yL]:=by rw[Bool.not_or];exact Pl (Kx (k:=λd=>!isNon d) (UO yK)) (λ_=>Zr (ZN (Kh (UN (UO yK) (UN (K0 (UN (Kd yK UR WF) UT) hn) UT)) yK (SI d _))))
        refine U5 (Z1:=[O (.pub (Kc cs ls)),O (.pub (.tuple [o,.list ys,t])),O (.pub d),yL]) htest (λhh=>?_) (λhh=>?_)
        .have zb:(isNon d || Ki cs.length d)=yN:=by simpa using hh
         refine U4 UR (RL (Ks ?_));rw[zB,show(ys.all λx=>isNon x || Ki cs.length x)=yN from Bool.eq_false_iff.mpr λh=>(by have:=QL.mp h d (Qr hj);rw[zb]at this;cases this),JL];rfl
        .have zb:(isNon d || Ki cs.length d)=yM:=by
          cases z:(isNon d || Ki cs.length d)with
          |true=>rfl
          |false=>rw[z]at hh;cases hh
         refine Kn (Yb ⟨⟨_,rfl⟩,λx hx=>?_⟩);rw[Jf zA,hxj]at hx;rcases QO.mp hx with h|h
         .exact hb x h
         .rw[QN.mp h];exact zb
       case hend=>rintro Z ⟨⟨y2,rfl⟩,hb⟩;rw[J0]at hb;refine Kf ?_;rw[zB,QM (by lia),QL.mpr hb,Jt,Qp rfl];exact Gw l7 ht
     |dict kvs=>exact U5 (b:=yM) (Zb (YE (Kd yK UR i1))) (λ_=>U4 UR (Ks (Ks yK))) λz=>by cases z
     |_=>exact U5 (b:=yM) (Zb (KS (Kd yK UR i1) yK)) (λ_=>U4 UR (Ks (Ks yK))) λz=>by cases z
 |dict kvs=>exact U5 (b:=yM) (Zb (YE (UO yK))) (λ_=>U4 UR (Ks yK)) λz=>by cases z
 |_=>exact U5 (b:=yM) (Zb (KS (UO yK) yK)) (λ_=>U4 UR (Ks yK)) λz=>by cases z
end
def DF   (h:Sh k n d)(hn:n<=700):SmA d:=by
 rintro o w t rfl;obtain⟨h1,h2,h3⟩:=h
 have lenb:∀ys , ys.length<=PyData.bulkAll ys:=λys=>by
  induction ys with
  |nil=>exact J4 _
  |cons y r ih=>simp only[PyData.bulkAll,QD];lia
 simp only[PyData.bulk]at h3;refine⟨λz e=>?_,λxs e=>?_,λxs e=>?_⟩
 .subst e
  have:=Pr.mp (by simpa[hW]using h1) (.str z) (by simp);have   :=by simpa[hW]using this
  exact this.1
 .subst e
  have:=Ny (x:=.list xs) (xs:=[o,.list xs,t]) (by simp);simp only[PyData.bulk]at this;have:=lenb xs
  lia
 .subst e
  have:=Ny (x:=.list xs) (xs:=[o,w,.list xs]) (by simp);simp only[PyData.bulk]at this;have:=lenb xs
  lia
def ixS{xs:yO}{n:Nat}{i:Int}(h0:0<=i)(h1:i<n)(hl:xs.length=n):∃x∈xs,oIx (.list xs) (.int i)=O x:=by
 obtain⟨k,rfl⟩:∃k:Nat,i=k:=⟨i.toNat,by lia⟩
 have hk:k<xs.length:=by lia
 exact⟨xs[k],JY hk,Zw (Qi hk)⟩
def Ov    (h:∀x∈xs,Sh k n x):∀x∈DL.cutD xs a b,Sh k n x:=λx hx=>h x (HE hx)
def Lf  (h:0<=v/\v<=100):∀x∈([.none,.bool yM,.bool yN,.int (-1),.int v,.str "0", .list [.int 0],.tuple [.int 0],.int (v+7),.int (10 ^ (40:Int).toNat)]:yO),Sh 2 1 x:=λx hx=>by
 simp only[Qs,QU,or_false]at hx;rcases hx with rfl|rfl|rfl|rfl|rfl|rfl|rfl|rfl|rfl|rfl
 .exact VH
 .exact OH
 .exact OH
 .exact Wt (by lia)
 .exact Wt (by lia)
 .exact Ru (by decide +kernel) (by decide +kernel) (by decide +kernel)
 .exact RH  (n:=0) (m:=1) (λy hy=>by rw[QN.mp hy];exact Wt (by lia)) (by decide)
 .exact V9  (n:=0) (m:=1) (λy hy=>by rw[QN.mp hy];exact Wt (by lia)) (by decide)
 .exact Wt (by lia)
 .exact Wt (by decide +kernel)
def CY  {a:Nat}(h:a<=xs.length):(DL.cutD xs yL (O (a:Int))).length+(DL.cutD xs (O (a:Int)) yL).length=xs.length:=by
 unfold DL.cutD;simp only[HT.LN,HT.Ha,Jk,JS]
 lia
section
variable{cs:yP}{ls:L3}
def Le(g:Good cs ls){old:D}{row:yO}(ho:old=.none∨old=.list row)(hr:∀x∈row,Sh 2 1 x)(hl:old=.list row->row.length=ls.length){w p o:Int}(hb:0<=o/\o<10):∃r,XB [Kc cs ls,old,.int w,.int p,.int o]=O r/\Sh 3 20 r:=by
 have l7:=g.l7;have l1:=g.l1;have c6:=g.c6;refine WO  rfl ?_;unfold TK;have hn:Kb [.list (cs.map int)]=O (.int cs.length):=by rw[KU,Qd]
 have hm:Kb [.list (ls.map KN)]=O (.int ls.length):=by rw[KU,Qd]
 let X:yO:=[.none,.bool yM,.bool yN,.int (-1),.int (cs.length:Int),.str "0", .list [.int 0],.tuple [.int 0],.int ((cs.length:Int)+7),.int (10 ^ (40:Int).toNat)]
 let S0:Option Sl:=O (.pub (Kc cs ls))
 let S1:Option Sl:=O (.pub old)
 let S2:Option Sl:=O (.pub (.int w))
 let S3:Option Sl:=O (.pub (.int p))
 let S4:Option Sl:=O (.pub (.int o))
 let S5:Option Sl:=O (.pub (.int (ls.length:Int)))
 let S6:Option Sl:=O (.pub (.int (cs.length:Int)))
 refine Ka (Z1:=[S0,S1,S2,S3,S4,S5,yL,yL,yL]) (Kv (K0 (UN (Kd yK UR YY) UT) hm) (Qa yK) yK) ?_;refine Ka (Z1:=[S0,S1,S2,S3,S4,S5,S6,yL,yL]) (Kv (K0 (UN (Kd yK UR WF) UT) hn) (Qa yK) yK) ?_;refine Ka (Z1:=[S0,S1,S2,S3,S4,S5,S6,O (.own X),yL]) (Zv (Yo (UN UR (UN UR (UN UR (UN (VE UR) (UN (UO yK) (UN UR (UN (Kr (UN UR UT) (Qa yK)) (UN (ZM (UN UR UT) (Qa yK)) (UN (UZ (UO yK) UR KO) (UN (UZ UR UR (RF (by decide))) UT)))))))))) (Qa yK)) (Qa yK) yK) ?_;obtain⟨x,zV,hx⟩:=ixS (xs:=X) (n:=10) hb.1 hb.2 yK;have wx:Sh 2 1 x:=Lf ⟨by lia,by lia⟩ x zV;refine Ka (Z1:=[S0,S1,S2,S3,S4,S5,S6,O (.own X),O (.own (Uv ls.length .none))]) (Zv (Ak (Kr (UN UR UT) (Qa yK)) (UO yK) (by lia)) (Qa yK) yK) ?_;have lst:∀{ys:yO},(∀y∈ys,Sh 2 1 y)->ys.length<=8->Sh 3 20 (.list ys):=λ{ys} h hl=>(RH h hl).mono (by decide) (by decide)
 have sold:Sh 3 20 old:=by
  rcases ho with rfl|rfl
  .exact VH
  .exact lst hr (by have:=hl yK;lia)
 have rest:∀ys:yO,(∀y∈ys,Sh 2 1 y)->ys.length=ls.length->Ho (UQ (sIf (KF oEq 2 (UM (.int 3)))
   (UQ (Ws 8 (UP Za (UJ 3) (UJ 5)) (UU 7 (UJ 4)))
   (UW (UJ 8)))
   (sNx))
   (UQ (sIf (KF oEq 2 (UM (.int 4)))
   (UW (UP oIx (U1 (UL (Zs (UJ 8) (U3 (UM (.int 1)) λx=>U7 (Z9 x)) (UM yL)) (UL (UP U0 (UJ 8) (U1 (UL (UM .none) (UK)))) (UK)))) (UP Za (UJ 4) (UM (.int 2)))))
   (sNx))
   (UQ (sIf (KF oEq 2 (UM (.int 5)))
   (UW (KH Rg (UL (UJ 8) (UK))))
   (sNx))
   (UQ (sIf (KF oEq 2 (UM (.int 6)))
   (UW (UU 7 (UJ 4)))
   (sNx))
   (UW (UJ 1)))))) [S0,S1,S2,S3,S4,S5,S6,O (.own X),O (.own ys)] (λo=>∃d,o=.rt d/\Sh 3 20 d):=by
  intro ys hy hyl
  let R:US:=[S0,S1,S2,S3,S4,S5,S6,O (.own X),O (.own ys)]
  apply Kg;refine U5 (Z1:=R) (Zn yK UR ZD) (λ_=>?_) (λ_=>Kn (Kf ?_))
  .have hm0:0<=p % (ls.length:Int):=Jj _ (by lia)
   have hm1:p % (ls.length:Int)<ls.length:=Q6 _ (by lia);refine Ka (SB (Wy yK (UO yK) yK hx) yK (UZ (UO yK) (UO yK) (Y3 (by lia))) yK ⟨hm0,by lia⟩ yK) ?_;refine U4 (K2 yK yK) (Ks ⟨_,rfl,lst (λy hy'=>?_) (by rw[QZ];lia)⟩);rcases List.mem_or_eq_of_mem_set hy' with h|h
   .exact hy y h
   .rw[h];exact wx
  apply Kg;refine U5 (Z1:=R) (Zn yK UR ZD) (λ_=>?_) (λ_=>Kn (Kf ?_))
  .let Y:yO:=[.list (DL.cutD ys (O 1) yL),.list (ys++[.none])]
   obtain⟨y,aC,hyx⟩:=ixS (xs:=Y) (n:=2) (i:=o % 2) (Jj _ (by decide)) (Q6 _ (by decide)) yK;refine U4 (UZ (Kr (UN (Ww (K2 yK yK) (Y9 UR) UR WA) (UN (UZ (UO yK) (Kr (UN UR UT) (Qa yK)) (Yu (by show _+1<=_;lia))) UT)) (Qa yK)) (UZ (UO yK) UR (Y3 (by decide))) hyx) (Ks ⟨_,rfl,?_⟩);simp only[Y,Qs,QU,or_false]at aC;rcases aC with rfl|rfl
   .exact lst (Ov hy) (by have:=HF (xs:=ys) (a:=O 1) (b:=yL);lia)
   .refine lst (λz hz=>?_) (by rw[Qj];show _+1<=8;lia)
    rcases QO.mp hz with hz|hz
    .exact hy z hz
    .rw[QN.mp hz];exact VH
  apply Kg;refine U5 (Z1:=R) (Zn yK UR ZD) (λ_=>U4 (K0 (UN (K2 yK yK) UT) yK) (Ks ⟨_,rfl,(V9 hy (m:=8) (by lia)).mono (by decide) (by decide)⟩)) (λ_=>Kn (Kf ?_));apply Kg;refine U5 (Z1:=R) (Zn yK UR ZD) (λ_=>U4 (Wy yK (UO yK) yK hx) (Ks ⟨_,rfl,wx.mono (by decide) (by decide)⟩)) (λ_=>Kn (Kf ?_));exact U4 (UO yK) ⟨_,rfl,sold⟩
 apply Kg;rcases ho with rfl|rfl
 .refine U5 (b:=yN) (Z1:=[S0,O (.pub .none),S2,S3,S4,S5,S6,O (.own X),O (.own (Uv ls.length .none))]) (Kx (k:=λd=>!isNon d) (x:=PyData.none) (UO yK)) (λz=>by cases z) λ_=>Kn (Kf (rest _ (λy hy=>?_) QB))
  rw[(JU.mp hy).2];exact VH
 .refine U5 (b:=yM) (Z1:=[S0,O (.pub (.list row)),S2,S3,S4,S5,S6,O (.own X),O (.own (Uv ls.length .none))]) (Kx (k:=λd=>!isNon d) (x:=Uw row) (UO yK)) (λ_=>?_) λz=>by cases z
  exact KQ (Zv (Nd yK yK) (Qa yK) yK) (Kf (rest row hr (hl yK)))
def kK{m:Nat}(hm:m<=7){ts:yP}(ht:∀a∈ts,0<=a/\a<m)(hl:ts.length<=7){w p o:Int}(hb:0<=o/\o<10):∃r,Wh [.int m,.list (ts.map int),.int w,.int p,.int o]=O r/\Sh 3 20 r:=by
 refine WO  rfl ?_;unfold TJ;have big:(200:Nat)<10 ^ 70:=by decide +kernel
 let X:yO:=[.none,.bool yM,.bool yN,.int (-1),.int (m:Int),.str "0", .list [.int 0],.tuple [.int 0],.int ((m:Int)+7),.int (10 ^ (40:Int).toNat)]
 let S0:Option Sl:=O (.pub (.int m))
 let S1:Option Sl:=O (.pub (.list (ts.map int)))
 let S2:Option Sl:=O (.pub (.int w))
 let S3:Option Sl:=O (.pub (.int p))
 let S4:Option Sl:=O (.pub (.int o))
 refine Ka (Z1:=[S0,S1,S2,S3,S4,O (.own X),yL]) (Zv (Yo (UN UR (UN UR (UN UR (UN (VE UR) (UN (UO yK) (UN UR (UN (Kr (UN UR UT) (Qa yK)) (UN (ZM (UN UR UT) (Qa yK)) (UN (UZ (UO yK) UR KO) (UN (UZ UR UR (RF (by decide))) UT)))))))))) (Qa yK)) (Qa yK) yK) ?_;obtain⟨x,zV,hx⟩:=ixS (xs:=X) (n:=10) hb.1 hb.2 yK;have wx:Sh 2 1 x:=Lf ⟨by lia,by lia⟩ x zV;have hlen:(ts.map int).length=ts.length:=Qd _;have hts:∀y∈ts.map int,Sh 2 1 y:=λy hy=>by obtain⟨a,ha,rfl⟩:=Qv.mp hy;have:=ht a ha;exact Wt (by lia)
 have lst:∀{ys:yO},(∀y∈ys,Sh 2 1 y)->ys.length<=8->Sh 3 20 (.list ys):=λ{ys} h hl=>(RH h hl).mono (by decide) (by decide)
 have hm0:0<=p % ((ts.map int).length+1:Int):=Jj _ (by lia);have hm1:p % ((ts.map int).length+1:Int)<(ts.map int).length+1:=Q6 _ (by lia);obtain⟨a,ha⟩:∃a:Nat,p % ((ts.map int).length+1:Int)=a:=⟨(p % ((ts.map int).length+1:Int)).toNat,by lia⟩
 rw[ha]at hm0 hm1;have h2:=CY (xs:=ts.map int) (a:=a) (by lia)
 let S6:Option Sl:=O (.pub (.int (a:Int)))
 let R:US:=[S0,S1,S2,S3,S4,O (.own X),S6]
 refine Ka (Z1:=R) (Kv (UZ (UO yK) (UZ (KW yK KU) UR KO) (Y3 (by lia))) (Qa yK) (by rw[ha];rfl)) ?_
 have ins:∀z:D,Sh 2 1 z->Sh 3 20 (.list (DL.cutD (ts.map int) yL (O (a:Int))++[z]++DL.cutD (ts.map int) (O (a:Int)) yL)):=λz hz=>lst (λy hy=>by
  rcases QO.mp hy with hy|hy
  .rcases QO.mp hy with hy|hy
   .exact Ov hts y hy
   .rw[QN.mp hy];exact hz
  .exact Ov hts y hy) (by rw[Qj,Qj];show _+1+_<=8;lia)
 apply Kg;refine U5 (Z1:=R) (Zn yK UR ZD) (λ_=>?_) (λ_=>Kn (Kf ?_))
 .exact U4 (UZ (UZ (Ww (UO yK) UR (Y9 (UO yK)) WA) (Kr (UN (Wy yK (UO yK) yK hx) UT) (Qa yK)) (Yu (by show _+1<=_;lia))) (Ww (UO yK) (Y9 (UO yK)) UR WA) (Yu (by rw[Qj];show _+1+_<=_;lia))) (Ks ⟨_,rfl,ins x wx⟩)
 apply Kg;refine U5 (b:=decide (w=4) && !decide (ts=[])) (Z1:=R) (Pl (Zn yK UR ZD) (λ_=>Zn yK (Kr UT (by decide)) HQ)) (λhh=>?_) (λ_=>Kn (Kf ?_))
 .have hne:ts≠[]:=by
   rw[Qz]at hh;simpa using hh.2
  have hpos:0<ts.length:=List.length_pos_iff.mpr hne;obtain⟨y,aC,hy⟩:=ixS (xs:=ts.map int) (n:=ts.length) (i:=o % ((ts.map int).length:Nat)) (Jj _ (by lia)) (by have:=Q6 o (b:=((ts.map int).length:Nat)) (by lia);lia) hlen;exact U4 (UZ (UZ (Ww (UO yK) UR (Y9 (UO yK)) WA) (Kr (UN (Kd yK (UZ (UO yK) (KW yK KU) (Y3 (by lia))) hy) UT) (Qa yK)) (Yu (by show _+1<=_;lia))) (Ww (UO yK) (Y9 (UO yK)) UR WA) (Yu (by rw[Qj];show _+1+_<=_;lia))) (Ks ⟨_,rfl,ins y (hts y aC)⟩)
 apply Kg;refine U5 (Z1:=R) (Zn yK UR ZD) (λ_=>U4 (K0 (UN (UO yK) UT) yK) (Ks ⟨_,rfl,(V9 hts (m:=8) (by lia)).mono (by decide) (by decide)⟩)) (λ_=>Kn (Kf ?_));apply Kg;refine U5 (Z1:=R) (Zn yK UR ZD) (λ_=>U4 (Wy yK (UO yK) yK hx) (Ks ⟨_,rfl,wx.mono (by decide) (by decide)⟩)) (λ_=>Kn (Kf ?_));exact U4 (Kx (Nd yK yK)) ⟨_,rfl,lst hts (by lia)⟩
def ED  (h:Sh 3 20 x):Sh 5 150 (.dict [(.str "order", x)]):=by
 refine⟨?_,?_,?_⟩
 .have e:Uz (UE "order")=yM:=by decide +kernel
  have e2:(UE "order").length<=20:=by decide +kernel
  simp[hW,hWk,h.1,e,e2]
 .have:=h.2.1
  simp only[UB,PyData.depthKv]
  lia
 .have:=h.2.2
  have e2:(Uy (UE "order")).bulk=5:=by decide +kernel
  simp only[PyData.bulk,PyData.bulkKv]at e2⊢
  lia
end
section
variable{cs:yP}{ls:L3}{o:Ord}{old:y0}{ts:yP}
def CW(g:Good cs ls)(ga:XM cs.length ls.length old ts)(c s:Int):∃r,Vk [Kc cs ls,KJ o old ts,.int c,.int s]=O r/\Sh 5 150 r:=by
 have l7:=g.l7;have c6:=g.c6;have big:(200:Nat)<10 ^ 70:=by decide +kernel
 refine WO (Z:=[O (.pub (Kc cs ls)),O (.pub (KJ o old ts)),O (.pub (.int c)),O (.pub (.int s)),yL,yL,yL,yL,yL,yL]) yK ?_;unfold TH;obtain⟨r,hF,dg,rfl,hdl,hdb⟩:=Tl c s (sizes:=[4,13,7,8,10,7,8,10,6,7]) (by decide) (by decide);have hdl:dg.length=10:=hdl
 have dgt:∀{j:Nat}{z:Int},([4,13,7,8,10,7,8,10,6,7]:yP)[j]?=O z->∃d,oIx (.list (dg.map int)) (.int j)=O (.int d)/\0<=d/\d<z:=λ{j z} hz=>by
  have hj:j<dg.length:=by rw[hdl];exact(Ql.mp hz).1
  exact⟨dg[j],Zw (by rw[Qh,Qi hj];rfl),hdb j _ _ (Qi hj) hz⟩
 obtain⟨d0,e0,_⟩:=dgt (j:=0) (z:=4) yK;obtain⟨d1,e1,b1⟩:=dgt (j:=1) (z:=13) yK;obtain⟨d2,e2,b2⟩:=dgt (j:=2) (z:=7) yK;obtain⟨d3,e3,b3⟩:=dgt (j:=3) (z:=8) yK;obtain⟨d4,e4,b4⟩:=dgt (j:=4) (z:=10) yK;obtain⟨d5,e5,b5⟩:=dgt (j:=5) (z:=7) yK;obtain⟨d6,e6,b6⟩:=dgt (j:=6) (z:=8) yK;obtain⟨d7,e7,b7⟩:=dgt (j:=7) (z:=10) yK;obtain⟨d8,e8,_⟩:=dgt (j:=8) (z:=6) yK;obtain⟨d9,e9,b9⟩:=dgt (j:=9) (z:=7) yK
 let P0:Option Sl:=O (.pub (Kc cs ls))
 let P1:Option Sl:=O (.pub (KJ o old ts))
 let P2:Option Sl:=O (.pub (.int c))
 let P3:Option Sl:=O (.pub (.int s))
 let P4:Option Sl:=O (.pub (.list (dg.map int)))
 let T:Option Sl:=O (.pub (.list (ts.map int)))
 refine Ka (Z1:=[P0,P1,P2,P3,P4,yL,yL,yL,yL,yL]) (Kv (Kh (UN (UO yK) (UN (UO yK) (UN (Kr (UN UR (UN UR (UN UR (UN UR (UN UR (UN UR (UN UR (UN UR (UN UR (UN UR UT)))))))))) (Qa yK)) UT))) yK hF) (Qa yK) yK) ?_;refine Ka (Z1:=[P0,P1,P2,P3,P4,O (.pub (.str o.tx)),O (.pub (Yj old)),T,yL,yL]) (Xm (UO yK) (KD yK (U6 (UX (Qa yK) yK) (U6 (UX (Qa yK) yK) (U6 (UX (Qa yK) yK) KE))))) ?_
 obtain⟨A,hA,sA⟩:∃A,XB [Kc cs ls,Yj old,.int d2,.int d3,.int d4]=O A/\Sh 3 20 A:=by
  cases old with
  |none=>exact Le g (row:=[]) (.inl yK) (λx h=>by cases h) (λe=>by cases e) b4
  |some ws=>
   refine Le g (row:=ws.map Zd) (.inr yK) (λx hx=>?_) (λ_=>by rw[Qd];exact ga.len ws yK) b4;obtain⟨w,hw,rfl⟩:=Qv.mp hx;cases w with
   |none=>exact VH
   |some t=>have:=ga.old ws t yK hw;exact Wt (by lia)
 obtain⟨B,hB,sB⟩:=kK (m:=ls.length) l7 (ts:=ts) ga.there (by have:=ga.few;lia) (w:=d5) (p:=d6) b7;have hm:Kb [.list (ls.map KN)]=O (.int ls.length):=by rw[KU,Qd]
 have rest:∀(t:D)(x8:Option Sl),Sh 3 20 t->Ho (UQ (U2 6 (UV 5 XB (UL (UJ 0) (UL (UJ 6) (UL (UU 4 (UM (.int 2))) (UL (UU 4 (UM (.int 3))) (UL (UU 4 (UM (.int 4))) (UK))))))))
   (UQ (U2 7 (UV 5 Wh (UL (KH Kb (UL (UU 0 (UM (.int 1))) (UK))) (UL (UJ 7) (UL (UU 4 (UM (.int 5))) (UL (UU 4 (UM (.int 6))) (UL (UU 4 (UM (.int 7))) (UK))))))))
   (UQ (sIf (UP oEq (UU 4 (UM (.int 8))) (UM (.int 1)))
   (UQ (K1 9 (U3 (UL (U1 (UL (UJ 5) (UL (UJ 6) (UL (UJ 7) (UK))))) (UL (Ky (UL (UJ 5) (UL (UJ 6) (UK)))) (UL (Ky (UL (UJ 5) (UL (UJ 6) (UL (UJ 7) (UL (UM .none) (UK)))))) (UK)))) λxs=>if xs.length<=1000000 then UM xs else λ_=>.bad))
   (UQ (U2 9 (UP U0 (UJ 9) (U1 (UL (UM .none) (UL (UJ 5) (UL (UM (.int 3)) (UL (Rf [(UM (.str "order"),UJ 5)]) (UK))))))))
   (UW (UU 9 (UU 4 (UM (.int 9)))))))
   (sNx))
   (UW (Ky (UL (UJ 5) (UL (UJ 6) (UL (UJ 7) (UK))))))))) [P0,P1,P2,P3,P4,O (.pub t),O (.pub (Yj old)),T,x8,yL] (λo=>∃d,o=.rt d/\Sh 5 150 d):=by
  intro t x8 st;refine Ka (Z1:=[P0,P1,P2,P3,P4,O (.pub t),O (.pub A),T,x8,yL]) (Kv (Kh (UN (UO yK) (UN (UO yK) (UN (Kd yK UR e2) (UN (Kd yK UR e3) (UN (Kd yK UR e4) UT))))) yK hA) (Qa yK) yK) ?_;refine Ka (Z1:=[P0,P1,P2,P3,P4,O (.pub t),O (.pub A),O (.pub B),x8,yL]) (Kv (Kh (UN (K0 (UN (Kd yK UR YY) UT) hm) (UN (UO yK) (UN (Kd yK UR e5) (UN (Kd yK UR e6) (UN (Kd yK UR e7) UT))))) yK hB) (Qa yK) yK) ?_;have t3:∀x∈[t,A,B],Sh 3 20 x:=λx hx=>by simp only[Qs,QU,or_false]at hx;rcases hx with rfl|rfl|rfl<;>assumption
  let R:US:=[P0,P1,P2,P3,P4,O (.pub t),O (.pub A),O (.pub B),x8,yL]
  apply Kg;refine U5 (Z1:=R) (UZ (Kd yK UR e8) UR ZD) (λ_=>?_) (λ_=>Kn (Kf ?_))
  .refine Ka (Z1:=[P0,P1,P2,P3,P4,O (.pub t),O (.pub A),O (.pub B),x8,O (.own [.list [t,A,B],.tuple [t,A],.tuple [t,A,B,.none]])]) (Zv (Yo (UN (Kr (UN (UO yK) (UN (UO yK) (UN (UO yK) UT))) (Qa yK)) (UN (ZM (UN (UO yK) (UN (UO yK) UT)) (Qa yK)) (UN (ZM (UN (UO yK) (UN (UO yK) (UN (UO yK) (UN UR UT)))) (Qa yK)) UT))) (Qa yK)) (Qa yK) yK) ?_
   let Y:yO:=[.list [t,A,B],.tuple [t,A],.tuple [t,A,B,.none],.none,t,.int 3,.dict [(.str "order", t)]]
   have aE:Rf [(UM (.str "order"),UJ 5)] [P0,P1,P2,P3,P4,O (.pub t),O (.pub A),O (.pub B),x8,O (.pub (.list [.list [t,A,B],.tuple [t,A],.tuple [t,A,B,.none]]))]=.ok (.dict [(.str "order", t)]) [P0,P1,P2,P3,P4,O (.pub t),O (.pub A),O (.pub B),x8,O (.pub (.list [.list [t,A,B],.tuple [t,A],.tuple [t,A,B,.none]]))]:=rfl;refine Ka (Z1:=[P0,P1,P2,P3,P4,O (.pub t),O (.pub A),O (.pub B),x8,O (.pub (.list Y))]) (Kv (UZ (K2 yK yK) (Kr (UN UR (UN (UO yK) (UN UR (UN aE UT)))) (Qa yK)) (Yu (Qa yK))) (Qa yK) yK) ?_;obtain⟨y,aC,hy⟩:=ixS (xs:=Y) (n:=7) b9.1 b9.2 yK;refine U4 (Kd rfl (Kd rfl UR e9) hy) (Ks ⟨_,rfl,?_⟩);simp only[Y,Qs,QU,or_false]at aC;rcases aC with rfl|rfl|rfl|rfl|rfl|rfl|rfl
   .exact(RH t3 (m:=3) (Qo _)).mono (by decide) (by decide)
   .exact(V9 (λx hx=>t3 x (by simp only[Qs,QU,or_false]at hx⊢;rcases hx with rfl|rfl<;>simp)) (m:=2) (Qo _)).mono (by decide) (by decide)
   .refine(V9 (k:=3) (n:=20) (m:=4) (λx hx=>?_) (Qo _)).mono (by decide) (by decide)
    simp only[Qs,QU,or_false]at hx;rcases hx with rfl|rfl|rfl|rfl
    .exact st
    .exact sA
    .exact sB
    .exact VH
   .exact VH
   .exact st.mono (by decide) (by decide)
   .exact Wt (by lia)
   .exact ED st
  .exact U4 (ZM (UN (UO yK) (UN (UO yK) (UN (UO yK) UT))) (Qa yK)) ⟨_,rfl,(V9 t3 (m:=3) (Qo _)).mono (by decide) (by decide)⟩
 have so:Sh 3 20 (.str o.tx):=by cases o<;>exact Ru (by decide +kernel) (by decide +kernel) (by decide +kernel)
 apply Kg;refine U5 (Z1:=[P0,P1,P2,P3,P4,O (.pub (.str o.tx)),O (.pub (Yj old)),T,yL,yL]) (UZ (Kd yK UR e0) UR ZD) (λ_=>?_) (λ_=>Kn (Kf (rest _ _ so)))
 let W:yO:=[.str "first", .str "Full", .str "", .str "lasts ", .str " full", .str "firstsfull", .str "FIRSTS", .str "l"]
 let X:yO:=W++[.none,.int 1,.bool yM,.list [.str "full"],.tuple [.str "lasts"]]
 obtain⟨x,zV,hx⟩:=ixS (xs:=X) (n:=13) b1.1 b1.2 yK;refine KQ (Kv (UZ (UZ (K2 rfl rfl) (Kr (UN UR (UN UR (UN UR (UN (Kr (UN UR UT) (Qa rfl)) (UN (ZM (UN UR UT) (Qa rfl)) UT))))) (Qa rfl)) (Yu (Qa rfl))) (Kd rfl UR e1) hx) (Qa rfl) rfl) (Kf (rest x _ ?_));have sx:∀z:Str,Uz z=yM->z.length<=20->Sh 1 20 (.str z):=λz h1 h2=>Ru h1 h2 h2;simp only[X,W,QO,Qs,QU,or_false]at zV;rcases zV with (rfl|rfl|rfl|rfl|rfl|rfl|rfl|rfl)|rfl|rfl|rfl|rfl|rfl
 .exact(sx _ (by decide +kernel) (by decide +kernel)).mono (by decide) (by decide)
 .exact(sx _ (by decide +kernel) (by decide +kernel)).mono (by decide) (by decide)
 .exact(sx _ (by decide +kernel) (by decide +kernel)).mono (by decide) (by decide)
 .exact(sx _ (by decide +kernel) (by decide +kernel)).mono (by decide) (by decide)
 .exact(sx _ (by decide +kernel) (by decide +kernel)).mono (by decide) (by decide)
 .exact(sx _ (by decide +kernel) (by decide +kernel)).mono (by decide) (by decide)
 .exact(sx _ (by decide +kernel) (by decide +kernel)).mono (by decide) (by decide)
 .exact(sx _ (by decide +kernel) (by decide +kernel)).mono (by decide) (by decide)
 .exact VH
 .exact Wt (by lia)
 .exact OH
 .exact(RH (k:=1) (n:=10) (m:=1) (λy hy=>by rw[QN.mp hy];exact Ru (by decide +kernel) (by decide +kernel) (by decide +kernel)) (by decide)).mono (by decide) (by decide)
 .exact(V9 (k:=1) (n:=10) (m:=1) (λy hy=>by rw[QN.mp hy];exact Ru (by decide +kernel) (by decide +kernel) (by decide +kernel)) (by decide)).mono (by decide) (by decide)
end
def CV  (d):PyData.canLay0 (WE (ZP n m d))=yM/\(WE (ZP n m d)).depth<=1/\(isNon (WE (ZP n m d))=yN->Kk (WE (ZP n m d)) "str" = yM):=by
 have h:ZP n m d=yL∨ZP n m d=O ("aim" : Str)∨ZP n m d=O ("order" : Str)∨ZP n m d=O ("old" : Str)∨ZP n m d=O ("turns" : Str):=by
  unfold ZP;split
  .split
   .split
    .split
     .exact .inl yK
     .exact .inr (.inr (.inr (.inr yK)))
    .exact .inr (.inr (.inr (.inl yK)))
   .exact .inr (.inr (.inl yK))
  .exact .inr (.inl yK)
 rcases h with e|e|e|e|e<;>rw[e]<;>refine⟨by decide +kernel,by simp[WE,UB],λz=>?_⟩
 .cases z
 all_goals rfl
noncomputable def fauD(o:Option (Str×D)):D:=match o with
 |none=>.list []
 |some (p,n)=>.list [.str p,n]
theorem GV{a c:D}{n:Int}:∀(xs:yO)(ss:yP)(x4:Option Sl),ss.Nodup->ss.length+xs.length<=100000 ->
  ((xs.all (Ki n)&&decide (ss++xs.filterMap whI).Nodup)=yM/\∃y,Zm (gN 4) Xs xs [O (.pub a),O (.pub (.int n)),O (.own (ss.map int)),O (.pub c),x4]=.nx [O (.pub a),O (.pub (.int n)),O (.own ((ss++xs.filterMap whI).map int)),O (.pub c),y]) ∨
  ((xs.all (Ki n)&&decide (ss++xs.filterMap whI).Nodup)=yN/\Zm (gN 4) Xs xs [O (.pub a),O (.pub (.int n)),O (.own (ss.map int)),O (.pub c),x4]=.rt (.bool yN))
 |[],ss,x4,hn,_=>.inl ⟨by simp[hn],x4,by rw[Zm];simp⟩
 |x::r,ss,x4,hn,hl=>by
  rw[QD]at hl;have h1:gN 4 x [O (.pub a),O (.pub (.int n)),O (.own (ss.map int)),O (.pub c),x4]=O [O (.pub a),O (.pub (.int n)),O (.own (ss.map int)),O (.pub c),O (.pub x)]:=UX (Qa yK) yK;have bad:Ki n x=yN->Xs [O (.pub a),O (.pub (.int n)),O (.own (ss.map int)),O (.pub c),O (.pub x)]=.rt (.bool yN)->Zm (gN 4) Xs (x::r) [O (.pub a),O (.pub (.int n)),O (.own (ss.map int)),O (.pub c),x4]=.rt (.bool yN):=λ_ e=>by rw[Zm,h1];dsimp only;rw[e]
  cases hb:Ki n x with
  |false=>
   refine .inr ⟨by rw[Ji,hb];rfl,bad hb ?_⟩
   have:Ho Xs [O (.pub a),O (.pub (.int n)),O (.own (ss.map int)),O (.pub c),O (.pub x)] (λo=>o=.rt (.bool yN)):=by
    unfold Xs;apply Kg;have hww:ZJ [x,.int n]=O (.bool yN):=by rw[SI,hb]
    exact U5 (b:=yM) (Zb (Zr (ZN (t:=yN) (Kh (UN (UO yK) (UN (UO yK) UT)) yK hww)))) (λ_=>U4 UR (Ks yK)) λz=>by cases z
   exact this.out
  |true=>
   obtain⟨i,rfl,h0,h1'⟩:=O4 hb;have ew:(int i::r).filterMap whI=i::r.filterMap whI:=rfl;rw[ew];have hww:ZJ [.int i,.int n]=O (.bool yM):=by rw[SI,hb]
   have test:mOr (U8 (KM (UV 2 ZJ (UL (UJ 4) (UL (UJ 1) (UK)))))) (VZ oIn (UJ 4) 2) [O (.pub a),O (.pub (.int n)),O (.own (ss.map int)),O (.pub c),O (.pub (.int i))]=.ok (ss.contains i) [O (.pub a),O (.pub (.int n)),O (.own (ss.map int)),O (.pub c),O (.pub (.int i))]:=
    Zq (Zr (ZN (t:=yM) (Kh (UN (UO yK) (UN (UO yK) UT)) yK hww))) (Nn (UO yK) yK (PD i ss))
   cases hc:ss.contains i with
   |true=>
    rw[hc]at test;have hm:i∈ss:=by simpa using hc
    refine .inr ⟨?_,?_⟩
    .rw[QF,JL]
     intro z;rw[Jp]at z;exact z.2.2 i hm i Qn yK
    .have:Ho Xs [O (.pub a),O (.pub (.int n)),O (.own (ss.map int)),O (.pub c),O (.pub (.int i))] (λo=>o=.rt (.bool yN)):=by
      apply Kg;exact U5 test (λ_=>U4 UR (Ks yK)) λz=>by cases z
     rw[Zm,h1];dsimp only;rw[this.out]
   |false=>
    rw[hc]at test;have hm:¬i∈ss:=by simpa using hc
    have hn':(ss++[i]).Nodup:=by rw[Jp];exact⟨hn,by simp,λx hx y hy=>by rw[List.mem_singleton]at hy;subst hy;exact λe=>hm (e ▸ hx)⟩
    have:Ho Xs [O (.pub a),O (.pub (.int n)),O (.own (ss.map int)),O (.pub c),O (.pub (.int i))] (λo=>o=.nx [O (.pub a),O (.pub (.int n)),O (.own ((ss++[i]).map int)),O (.pub c),O (.pub (.int i))]):=by
     unfold Xs;apply Kg;refine U5 test (λz=>by cases z) λ_=>Kn (Kf ?_)
     exact KQ (Wx yK (UO yK) yK (by rw[Qd];lia) (by rw[QQ];rfl)) yK
    have st:Zm (gN 4) Xs (.int i::r) [O (.pub a),O (.pub (.int n)),O (.own (ss.map int)),O (.pub c),x4]=Zm (gN 4) Xs r [O (.pub a),O (.pub (.int n)),O (.own ((ss++[i]).map int)),O (.pub c),O (.pub (.int i))]:=by rw[Zm,h1];dsimp only;rw[this.out]
    have ea:ss++i::r.filterMap whI=(ss++[i])++r.filterMap whI:=by rw[QS];rfl
    rw[st,ea,Ji,hb,Jt];exact GV r (ss++[i]) _ hn' (by rw[Qj,Jd];lia)
theorem GU{a:D}{n:Int}:∀(rs:yO)(ss:yP)(x3 x4:Option Sl),(∀xs,.list xs∈rs->xs.length<=700)->ss.Nodup->ss.length+700*rs.length<=100000 ->
  ((rs.all (rkB n)&&decide (ss++flI rs).Nodup)=yM/\∃y z,Zm (gN 3) Y7 rs [O (.pub a),O (.pub (.int n)),O (.own (ss.map int)),x3,x4]=.nx [O (.pub a),O (.pub (.int n)),O (.own ((ss++flI rs).map int)),y,z]) ∨
  ((rs.all (rkB n)&&decide (ss++flI rs).Nodup)=yN/\Zm (gN 3) Y7 rs [O (.pub a),O (.pub (.int n)),O (.own (ss.map int)),x3,x4]=.rt (.bool yN))
 |[],ss,x3,x4,_,hn,_=>.inl ⟨by simp[flI,hn],x3,x4,by rw[Zm];simp[flI]⟩
 |x::r,ss,x3,x4,hs,hn,hl=>by
  rw[QD]at hl;have h1:gN 3 x [O (.pub a),O (.pub (.int n)),O (.own (ss.map int)),x3,x4]=O [O (.pub a),O (.pub (.int n)),O (.own (ss.map int)),O (.pub x),x4]:=UX (Qa yK) yK;have ef:flI (x::r)=itI x++flI r:=rfl
  have odd:∀(hx:rkB n x=yN)(hq:Ho Y7 [O (.pub a),O (.pub (.int n)),O (.own (ss.map int)),O (.pub x),x4] (λo=>o=.rt (.bool yN))),((x::r).all (rkB n)&&decide (ss++flI (x::r)).Nodup)=yN/\Zm (gN 3) Y7 (x::r) [O (.pub a),O (.pub (.int n)),O (.own (ss.map int)),x3,x4]=.rt (.bool yN):=λhx hq=>
   ⟨by rw[List.all_cons,hx];rfl,by rw[Zm,h1];dsimp only;rw[hq.out]⟩
  cases x with
  |list xs=>
   have a8:=hs xs Qn;cases xs with
   |nil=>refine .inr (odd yK ?_);unfold Y7;apply Kg;exact U5 (b:=yM) (Zq (KS (UO yK) yK) (Zn yK (Kr UT (Qa yK)) LJ)) (λ_=>U4 UR (Ks yK)) λz=>by cases z
   |cons x0 xr=>
    have enter   :=by
     have:Ho Y7 [O (.pub a),O (.pub (.int n)),O (.own (ss.map int)),O (.pub (.list (x0::xr))),x4] (λo=>o=Zm (gN 4) Xs (x0::xr) [O (.pub a),O (.pub (.int n)),O (.own (ss.map int)),O (.pub (.list (x0::xr))),x4]):=by
      unfold Y7;apply Kg;refine U5 (b:=yN) (Zq (KS (UO yK) yK) (Zn yK (Kr UT (Qa yK)) LJ)) (λz=>by cases z) λ_=>Kn (Kf ?_)
      constructor;unfold Ko sB
      have e:KP (UJ 3) [O (.pub a),O (.pub (.int n)),O (.own (ss.map int)),O (.pub (.list (x0::xr))),x4]=.ok (x0::xr) [O (.pub a),O (.pub (.int n)),O (.own (ss.map int)),O (.pub (.list (x0::xr))),x4]:=Zx (UO yK) yK;rw[e]
     exact this.out
    have er:rkB n (.list (x0::xr))=(x0::xr).all (Ki n):=rfl;have ei:itI (.list (x0::xr))=(x0::xr).filterMap whI:=rfl;rcases GV (a:=a) (c:=.list (x0::xr)) (n:=n) (x0::xr) ss x4 hn (by lia)with ⟨e,y,h⟩|⟨e,h⟩
    .rw[Qz]at e
     have hn2:=Qa e.2;have st:Zm (gN 3) Y7 (.list (x0::xr)::r) [O (.pub a),O (.pub (.int n)),O (.own (ss.map int)),x3,x4]=Zm (gN 3) Y7 r [O (.pub a),O (.pub (.int n)),O (.own ((ss++(x0::xr).filterMap whI).map int)),O (.pub (.list (x0::xr))),y]:=by rw[Zm,h1];dsimp only;rw[enter,h]
     have hlf:((x0::xr).filterMap whI).length<=700:=QE (List.length_filterMap_le _ _) a8;rw[st,Ji,er,e.1,Jt,ef,ei,←QS];exact GU r _ _ _ (λxs hx=>hs xs (Qm _ hx)) hn2 (by rw[Qj];lia)
    .refine .inr ⟨?_,by rw[Zm,h1];dsimp only;rw[enter,h]⟩
     rw[Ji,er,ef,ei];cases e1:(x0::xr).all (Ki n)with
     |false=>rfl
     |true=>rw[e1,Jt]at e;have e:=Jc e;rw[Jt,QF,JL];intro z;rw[←QS]at z;exact e (Jp.mp z).1
  |dict kvs=>refine .inr (odd yK ?_);unfold Y7;apply Kg;exact U5 (b:=yM) (Zb (YE (UO yK))) (λ_=>U4 UR (Ks yK)) λz=>by cases z
  |_=>refine .inr (odd yK ?_);unfold Y7;apply Kg;exact U5 (b:=yM) (Zb (KS (UO yK) yK)) (λ_=>U4 UR (Ks yK)) λz=>by cases z
def we{d:D}{n:Int}(hs:Vd d):Vh [d,.int n]=O (.bool (ZB n d)):=by
 refine KZ  rfl ?_;unfold TD;apply Kg;cases d with
 |list rs=>
  have hs:=hs rs yK;apply U5 (b:=decide ((5:Int)<rs.length))
  case h1=>exact Zq  (KS (UO yK) yK) (UZ (KW yK KU) UR yK)
  case h2=>intro hh;refine U4 UR (Ks ?_);rw[W1,QF (by lia:¬rs.length<=5)];rfl
  case h3=>
   intro hh;refine Kn (Kf ?_);refine Ka (Zv (Yo UT (J4 _)) (Qa yK) yK) ?_;apply Kg;constructor;rw[W1,QM (by lia:rs.length<=5),Jt];have e:KP (UJ 0) [O (.pub (.list rs)),O (.pub (.int n)),O (.own []),yL,yL]=.ok rs [O (.pub (.list rs)),O (.pub (.int n)),O (.own []),yL,yL]:=Zx (UO yK) yK;have e0:Ko (KP (UJ 0)) (gN 3) Y7 [O (.pub (.list rs)),O (.pub (.int n)),O (.own []),yL,yL]=Zm (gN 3) Y7 rs [O (.pub (.list rs)),O (.pub (.int n)),O (.own (([]:yP).map int)),yL,yL]:=by unfold Ko sB;rw[e];rfl
   show V1 _ _ (Ko (KP (UJ 0)) (gN 3) Y7 [O (.pub (.list rs)),O (.pub (.int n)),O (.own []),yL,yL]);rw[e0];rcases GU (a:=.list rs) (n:=n) rs [] yL yL hs J7 (by rw[Qw];lia)with ⟨q,y,z,h⟩|⟨q,h⟩
   .rw[QR]at q
    rw[h,q];exact Kf (U4 UR yK)
   .rw[QR]at q
    rw[h,q];exact Ks yK
 |dict kvs=>exact U5 (b:=yM) (Zb (YE (UO yK))) (λ_=>U4 UR (Ks yK)) (λz=>by cases z)
 |_=>exact U5 (b:=yM) (Zb (KS (UO yK) yK)) (λ_=>U4 UR (Ks yK)) (λz=>by cases z)
def kJ{d:D}(hs:Xe d):Vg [d]=O (fauD (Zh d)):=by
 refine KZ (Z:=[O (.pub d),yL,yL,yL,yL,yL]) yK ?_;unfold TC;apply Kg;cases d with
 |tuple xs=>
  by_cases hl:xs.length=2
  .obtain⟨c,l,rfl⟩:∃c l,xs=[c,l]:=by
    match xs,hl with
    |[c,l],_=>exact⟨c,l,rfl⟩
   apply U5
   case h1=>exact Zq (Z1:=[O (.pub (.tuple [c,l])),yL,yL,yL,yL,yL]) (KS (UO yK) yK) (UZ (KW yK yK) UR XN)
   case h2=>intro hh;cases hh
   case h3=>
    intro _;refine Kn (Kf ?_);refine Ka (Xm (UO yK) (KD yK (U6 (UX (Qa yK) yK) (U6 (UX (Qa yK) yK) KE)))) ?_;rw[VO];apply Kg;cases c with
    |list cs=>
     apply U5
     case h1=>exact Zq (KS (UO yK) yK) (Zr (VW UR (KW yK KU) yK (λ_=>UR) (λ_=>rfl)))
     case h2=>
      intro hh;rw[VP]at hh;have hh:=Qa hh;refine U4 (Kr (UN UR (UN UR UT)) (Qa yK)) (Ks ?_);have:Zi (.list cs)=O (("copies" : Str),(.none:D)):=by unfold Zi;dsimp only;rw[if_neg (by lia)]
      rw[this];rfl
     case h3=>
      intro hh;rw[VP]at hh;have hh:=Jc hh;have hl:1<=cs.length/\cs.length<=6:=by lia
      have ed:Zi (.list cs)=(match fb (Ki 8) 0 cs with
       |some k=>O ("copies", .int k)
       |none=>yL):=by unfold Zi;dsimp only;rw[if_pos hl]
      refine Kn (Kf ?_);apply Kg;refine PX (xs:=cs) (Ki 8) (λZ=>∃x3 x4,Z=[O (.pub (.tuple [.list cs,l])),O (.pub (.list cs)),O (.pub l),x3,x4,yL]) (WC (UN (UO yK) UT) WB) ⟨_,_,rfl⟩ ?_ ?_
      .rintro x hx j Z hj ⟨x3,x4,rfl⟩
       refine⟨_,KD yK (U6 (UX (Qa yK) yK) (U6 (UX (Qa yK) yK) KE)),?_⟩;unfold LG;refine U5 (Zr (ZN (Kh (UN (UO yK) (UN UR UT)) yK (SI x 8)))) (λz=>?_) λz=>?_
       .refine U4 (Kr (UN UR (UN (UO yK) UT)) (of_decide_eq_true yK)) (N3 (by simpa using z) λe=>Ks ?_)
        rw[ed,e];rfl
       .exact Kn (R9 (by simpa using z) ⟨_,_,rfl⟩)
      .rintro e Z ⟨x3,x4,rfl⟩
       rw[ed,e];dsimp only;refine Kf ?_;apply Kg;cases l with
       |list ls=>
        apply U5
        case h1=>exact Zq (KS (UO yK) yK) (Zr (VW UR (KW yK KU) yK (λ_=>UR) (λ_=>rfl)))
        case h2=>
         intro hh;rw[VP]at hh;have hh:=Qa hh;refine U4 (Kr (UN UR (UN UR UT)) (Qa yK)) (Ks ?_);have:ZA cs.length (.list ls)=O (("lists" : Str),(.none:D)):=by unfold ZA;dsimp only;rw[if_neg (by lia)]
         rw[this];rfl
        case h3=>
         intro hh;rw[VP]at hh;have hh:=Jc hh;have hl2:1<=ls.length/\ls.length<=7:=by lia
         have bB:ZA cs.length (.list ls)=(match fb (ZB cs.length) 0 ls with
          |some k=>O ("lists", .int k)
          |none=>yL):=by unfold ZA;dsimp only;rw[if_pos hl2]
         have hsx:=hs (.list cs) ls yK hl2.2;refine Kn (Kf ?_);apply Kg;refine PX (xs:=ls) (ZB cs.length) (λZ=>∃x3 x5,Z=[O (.pub (.tuple [.list cs,.list ls])),O (.pub (.list cs)),O (.pub (.list ls)),x3,x4,x5]) (WC (UN (UO yK) UT) WB) ⟨_,_,rfl⟩ ?_ ?_
         .rintro x hx j Z hj ⟨x3,x5,rfl⟩
          refine⟨_,KD yK (U6 (UX (Qa yK) yK) (U6 (UX (Qa yK) yK) KE)),?_⟩;unfold LH;refine U5 (Zr (ZN (Kh (UN (UO yK) (UN (KW yK KU) UT)) yK (we (n:=cs.length) (hsx x hx))))) (λz=>?_) λz=>?_
          .refine U4 (Kr (UN UR (UN (UO yK) UT)) (of_decide_eq_true yK)) (N3 (by simpa using z) λe=>Ks ?_)
           rw[bB,e];rfl
          .exact Kn (R9 (by simpa using z) ⟨_,_,rfl⟩)
         .rintro e Z ⟨x3,x5,rfl⟩
          refine Kf (U4 (Kr UT (Qa yK)) ?_);rw[bB,e];rfl
       |dict kvs=>exact U5 (b:=yM) (Zb (YE (UO yK))) (λ_=>U4 (Kr (UN UR (UN UR UT)) (Qa yK)) (Ks yK)) (λz=>by cases z)
       |_=>exact U5 (b:=yM) (Zb (KS (UO yK) yK)) (λ_=>U4 (Kr (UN UR (UN UR UT)) (Qa yK)) (Ks yK)) (λz=>by cases z)
    |dict kvs=>exact U5 (b:=yM) (Zb (YE (UO yK))) (λ_=>U4 (Kr (UN UR (UN UR UT)) (Qa yK)) (Ks yK)) (λz=>by cases z)
    |_=>exact U5 (b:=yM) (Zb (KS (UO yK) yK)) (λ_=>U4 (Kr (UN UR (UN UR UT)) (Qa yK)) (Ks yK)) (λz=>by cases z)
  .have hd:Zh (.tuple xs)=O (("wishes" : Str),(.none:D)):=by
    unfold Zh;split
    .rename_i h;cases h;exact absurd yK hl
    .rfl
   apply U5
   case h1=>exact Zq (Z1:=[O (.pub (.tuple xs)),yL,yL,yL,yL,yL]) (KS (UO yK) yK) (UZ (KW yK RM) UR XN)
   case h2=>intro _;exact U4 (Kr (UN UR (UN UR UT)) (Qa yK)) (Ks (by rw[hd];rfl))
   case h3=>
    intro hh;have:(xs.length:Int)=2:=by simpa using hh
    lia
 |dict kvs=>exact U5 (b:=yM) (Zb (YE (UO yK))) (λ_=>U4 (Kr (UN UR (UN UR UT)) (Qa yK)) (Ks yK)) (λz=>by cases z)
 |_=>exact U5 (b:=yM) (Zb (KS (UO yK) yK)) (λ_=>U4 (Kr (UN UR (UN UR UT)) (Qa yK)) (Ks yK)) (λz=>by cases z)
def Yg  {k w}{s t}{Z}{Q}(h:Z[i]?=O (O (.pub (.int w))))(hne:w≠k)(ht:Ho t Z Q):Ho (UQ (sIf (KF oEq i (UM (.int k))) s sNx) t) Z Q:=by apply Kg;exact U5  (Zn h UR (by rw[ZD,QF hne])) (λz=>by cases z) λ_=>Kn (Kf ht)
def XT  {k w}{s t u}{Z}{Q}(h:Z[i]?=O (O (.pub (.int w))))(he:w=k)(hs:Ho s Z (V1 t Q)):Ho (UQ (sIf (KF oEq i (UM (.int k))) s u) t) Z Q:=by apply Kg;exact U5  (Zn h UR (by rw[ZD,QM he])) (λ_=>hs) λz=>by cases z
theorem Oe   (hp:p x=yN):∀{xs}{k},x∈xs->∃j,fb p k xs=O j
 |[],_,h=>by cases h
 |y::r,k,h=>by
  rw[fb];cases hy:p y with
  |false=>exact⟨k,QH (by decide)⟩
  |true=>
   rcases Qs.mp h with rfl|h
   .simp_all
   .exact Oe hp h
section
variable{cs:yP}{ls:L3}
def q8(g:Good cs ls):Oc [Kc cs ls]=O (Kc cs ls):=by
 have l7:=g.l7
 obtain⟨d,e,rfl⟩:=ET (P:=λd=>d=Kc cs ls) (N:=NN) (g:=Od) (f:=FJ) (ds:=[Kc cs ls])  rfl (by
  unfold Od;refine Ka (Zv (Yo UT (Qa yK)) (Qa yK) yK) ?_;apply Kg;apply YF (λi Z=>∃x2,Z=[O (.pub (Kc cs ls)),O (.own ((ls.take i).map KN)),x2])
  case h1=>exact Zx (Kd yK UR YY) YM
  case h0=>exact⟨_,rfl⟩
  case hst=>
   rintro i d Z hi ⟨x2,rfl⟩;rw[Qh]at hi;cases hw:ls[i]? with
   |none=>rw[hw]at hi;cases hi
   |some rs=>
   rw[hw]at hi;cases hi;have hrs:rs.length<=5:=(g.rk rs (Qr hw)).few;refine⟨_,UX (Qa yK) yK,?_⟩
   have hc:∀x1:Option Sl,K6 (gN 3) (UM yM) (UY Uw (VF 3)) (rs.map K4) (Kt [O (.pub (Kc cs ls)),x1,O (.pub (KN rs))]++Uv 1 yL) []=O (rs.map K4):=λx1=>by
    refine X6 (λZ=>∃a x,Z=[O (.pub (Kc cs ls)),a,O (.pub (KN rs)),x]) _ _ _ _ yK ?_ ⟨_,yL,rfl⟩ (by rw[Qd,Qw];lia);rintro j d e hd he Z ⟨a,x,rfl⟩;rw[hd]at he;cases he;rw[Qh]at hd;cases hwj:rs[j]? with
    |none=>rw[hwj]at hd;cases hd
    |some r=>
    rw[hwj]at hd;cases hd;exact⟨_,UX (Qa yK) yK,rfl,Kx (Nd yK (rfl)),_,_,rfl⟩
   refine KQ (Wx yK (Kx (Z6 (Zx (UO yK) YM) (hc _))) yK (by rw[Qd,Jk];lia) yK) ?_;refine Yb ⟨O (.pub (KN rs)),?_⟩;rw[List.take_succ,hw,QQ];rfl
  case hend=>rintro Z ⟨x2,rfl⟩;rw[Qd,J0];exact Kf (Kn ⟨_,rfl,_,_,qI (KR (UN (Kd rfl UR WF) UT) (ZE (rfl))) rfl,rfl⟩))
 exact e
def Nx(g:Good cs ls):Zi (.list (cs.map int))=yL:=by
 have h:=HG g;unfold Kc at h;rw[VO]at h;cases hc:Zi _ with
 |none=>rfl
 |some x=>simp_all
def kI(g:Good cs ls){xs:yO}{x}(hx:x∈xs)(hb:ZB cs.length x=yN):∃p n,Zh (.tuple [.list (cs.map int),.list xs])=O (p,n):=by
 rw[VO,Nx g];unfold ZA;dsimp only;split
 .obtain⟨j,e⟩:=Oe (p:=ZB ((cs.map int).length))  (by rw[Qd];exact hb)  hx
  rw[e];exact⟨_,_,rfl⟩
 .exact⟨_,_,rfl⟩
def Ld{α:Type}{xs:List α}{k}{x}(h:k<xs.length):x∈xs.set k x:=List.mem_iff_getElem?.mpr ⟨k,QG h⟩
def Mr  {xs:yO}{x}(h:wB n (.list xs)=yM)(hx:wB n x=yM):wB n (.list (xs.set k x))=yM:=by
 obtain⟨h1,h2⟩:=XJ.mp h;refine XJ.mpr ⟨by simp_all,λy hy=>?_⟩;rcases List.mem_or_eq_of_mem_set hy with hy|rfl
 .exact h2 y hy
 .exact hx
def Rt   (h:wB n x=yM)(h2:wB n y=yM)(hn:2<=n):wB n (.tuple [x,y])=yM:=Rv.mpr ⟨hn,λz hz=>by simp only[Qs,QU,or_false]at hz;rcases hz with rfl|rfl<;>assumption⟩
def qZ(g:Good cs ls)(c s:Int):∃r,Vo [Kc cs ls,.int c,.int s]=O r/\wB 14 r=yM/\∃p n,Zh r=O (p,n):=by
 have l7:=g.l7;have l1:=g.l1;have c6:=g.c6;have c1:=g.c1;obtain⟨w1,w2⟩:=HH g;have w1:=Sz (by decide:7<=14) _ w1;have w2:=Sz (by decide:7<=14) _ w2;refine WO (Z:=[O (.pub (Kc cs ls)),O (.pub (.int c)),O (.pub (.int s)),yL,yL,yL,yL,yL,yL]) yK ?_;unfold TQ;obtain⟨r,hF,dg,rfl,hdl,hdb⟩:=Tl c s (sizes:=[11,42,42]) (by decide) (by decide)
 match dg,hdl with
 |[a,b,d],_=>
 obtain⟨a0,a1⟩:=hdb 0 a 11 yK yK;obtain⟨b0,_⟩:=hdb 1 b 42 yK yK;obtain⟨d0,_⟩:=hdb 2 d 42 yK yK;have m0:0<=b % (cs.length:Int)/\b % (cs.length:Int)<cs.length:=⟨Jj _ (by lia),Q6 _ (by lia)⟩
 have k0:0<=d % (ls.length:Int)/\d % (ls.length:Int)<ls.length:=⟨Jj _ (by lia),Q6 _ (by lia)⟩
 generalize hm:b % (cs.length:Int)=m at m0;generalize hk:d % (ls.length:Int)=k at k0
 let P0:Option Sl:=O (.pub (Kc cs ls))
 let P1:Option Sl:=O (.pub (.int c))
 let P2:Option Sl:=O (.pub (.int s))
 let P3:Option Sl:=O (.pub (.list [.int a,.int b,.int d]))
 let C:yO:=cs.map int
 let L:yO:=ls.map KN
 have hC:C.length=cs.length:=Qd _;have hL:L.length=ls.length:=Qd _;refine Ka (Z1:=[P0,P1,P2,P3,yL,yL,yL,yL,yL]) (Kv (Kh (UN (UO yK) (UN (UO yK) (UN (Kr (UN UR (UN UR (UN UR UT))) (Qa yK)) UT))) yK hF) (Qa yK) yK) ?_;refine Ka (Z1:=[P0,P1,P2,P3,O (.own C),O (.own L),yL,yL,yL]) (qG (Kh (UN (UO yK) UT) yK (q8 g)) ⟨by decide,Qa yK,Qa yK⟩ yK) ?_;refine Ka (Z1:=[P0,P1,P2,P3,O (.own C),O (.own L),O (.pub (.int a)),yL,yL]) (Kv (Kd yK UR yK) (Qa yK) yK) ?_;refine Ka (Z1:=[P0,P1,P2,P3,O (.own C),O (.own L),O (.pub (.int a)),O (.pub (.int m)),yL]) (Kv (UZ (Kd yK UR yK) (Pw yK) (by rw[hC,Y3 (by lia),hm])) (Qa yK) yK) ?_;refine Ka (Z1:=[P0,P1,P2,P3,O (.own C),O (.own L),O (.pub (.int a)),O (.pub (.int m)),O (.pub (.int k))]) (Kv (UZ (Kd yK UR yK) (Pw yK) (by rw[hL,Y3 (by lia),hk])) (Qa yK) yK) ?_;have wi:∀i:Int,wB 14 (.int i)=yM:=λ_=>rfl;have wt:∀i:Int,wB 14 (.list [.int i])=yM:=λ_=>by kernel_rfl
 have fin:∀{x:D},wB 14 (.list L)=yM->wB 14 x=yM->ZB cs.length x=yN->wB 14 (.tuple [.list C,.list (L.set k.toNat x)])=yM/\∃p n,Zh (.tuple [.list C,.list (L.set k.toNat x)])=O (p,n):=λ{x} h1 h2 h3=>
  ⟨Rt w1 (Mr h1 h2) (by decide),kI g (Ld (by rw[hL];lia)) h3⟩
 have cases11:a=0∨a=1∨a=2∨a=3∨a=4∨a=5∨a=6∨a=7∨a=8∨a=9∨a=10:=by lia
 rcases cases11 with rfl|rfl|rfl|rfl|rfl|rfl|rfl|rfl|rfl|rfl|rfl
 .refine XT yK yK (U4 (Kr (UN (K2 yK yK) (UN (K2 yK yK) UT)) (Qa yK)) (Ks ⟨_,rfl,XJ.mpr ⟨Qa yK,λz hz=>?_⟩,_,_,rfl⟩))
  simp only[Qs,QU,or_false]at hz;rcases hz with rfl|rfl<;>assumption
 .refine Yg yK (by decide) (XT yK yK (U4 (ZM (UN (K2 yK yK) (UN (K2 yK yK) (UN (Kr UT (Qa yK)) UT))) (Qa yK)) (Ks ⟨_,rfl,Rv.mpr ⟨Qa yK,λz hz=>?_⟩,_,_,rfl⟩)))
  simp only[Qs,QU,or_false]at hz;rcases hz with rfl|rfl|rfl
  .exact w1
  .exact w2
  .rfl
 .let X:yO:=[.none,.str "wishes", .int 3,.list C,.tuple [.list [],.list []],.tuple [.list C]]
  obtain⟨x,zV,hx⟩:=ixS (xs:=X) (n:=6) (i:=b % 6) (Jj _ (by decide)) (Q6 _ (by decide)) yK;refine Yg yK (by decide) (Yg yK (by decide) (XT yK yK (U4 (UZ (Kr (UN UR (UN UR (UN UR (UN (K2 yK yK) (UN (ZM (UN (Kr UT (Qa yK)) (UN (Kr UT (Qa yK)) UT)) (Qa yK)) (UN (ZM (UN (UO yK) UT) (Qa yK)) UT)))))) (Qa yK)) (UZ (Kd yK UR yK) UR (Y3 (by decide))) hx) (Ks ⟨_,rfl,?_⟩))));simp only[X,Qs,QU,or_false]at zV;rcases zV with rfl|rfl|rfl|rfl|rfl|rfl
  .exact⟨rfl,_,_,rfl⟩
  .exact⟨rfl,_,_,rfl⟩
  .exact⟨rfl,_,_,rfl⟩
  .exact⟨w1,_,_,rfl⟩
  .exact⟨by kernel_rfl,_,_,rfl⟩
  .exact⟨Rv.mpr ⟨Qa yK,λz hz=>by rw[QN.mp hz];exact w1⟩,_,_,rfl⟩
 .let X:yO:=[.int (-1),.int 8,.bool yM,.none,.str "1", .int (10 ^ (40:Int).toNat)]
  obtain⟨x,zV,hx⟩:=ixS (xs:=X) (n:=6) (i:=d % 6) (Jj _ (by decide)) (Q6 _ (by decide)) yK
  have hxx:wB 14 x=yM/\Ki 8 x=yN:=by
   simp only[X,Qs,QU,or_false]at zV;rcases zV with rfl|rfl|rfl|rfl|rfl|rfl
   all_goals first|exact⟨rfl,rfl⟩|exact⟨rfl,by kernel_rfl⟩
  refine Yg yK (by decide) (Yg yK (by decide) (Yg yK (by decide) (XT yK yK (KQ (SB (UZ (Kr (UN (VE UR) (UN UR (UN UR (UN UR (UN UR (UN (UZ UR UR (RF (by decide))) UT)))))) (Qa yK)) (UZ (Kd yK UR yK) UR (Y3 (by decide))) hx) yK (UO yK) yK ⟨m0.1,by rw[hC];exact m0.2⟩ yK) (Kf ?_)))))
  repeat (refine Yg yK (by decide) ?_)
  refine U4 (ZM (UN (K2 yK yK) (UN (K2 yK yK) UT)) (Qa yK)) ⟨_,rfl,Rt (Mr w1 hxx.1) w2 (by decide),?_⟩;rw[VO]
  have:∃p n,Zi (.list (C.set m.toNat x))=O (p,n):=by
   unfold Zi;dsimp only;split
   .obtain⟨j,e⟩:=Oe (p:=Ki 8) (x:=x) hxx.2 (k:=0) (Ld (xs:=C) (k:=m.toNat) (by rw[hC];lia))
    rw[e];exact⟨_,_,rfl⟩
   .exact⟨_,_,rfl⟩
  obtain⟨p,n,e⟩:=this;rw[e];exact⟨_,_,rfl⟩
 .repeat (refine Yg yK (by decide) ?_)
  refine XT yK yK (KQ (Zv (Yo UT (Qa yK)) (Qa yK) yK) (Kf ?_))
  repeat (refine Yg yK (by decide) ?_)
  exact U4 (ZM (UN (K2 yK yK) (UN (K2 yK yK) UT)) (Qa yK)) ⟨_,rfl,Rt yK w2 (by decide),_,_,rfl⟩
 .repeat (refine Yg yK (by decide) ?_)
  refine XT yK yK (KQ (Zv (Yo UT (Qa yK)) (Qa yK) yK) (Kf ?_))
  repeat (refine Yg yK (by decide) ?_)
  refine U4 (ZM (UN (K2 yK yK) (UN (K2 yK yK) UT)) (Qa yK)) ⟨_,rfl,Rt w1 yK (by decide),?_⟩;rw[VO,Nx g];exact⟨_,_,rfl⟩
 .repeat (refine Yg yK (by decide) ?_)
  refine XT yK yK (KQ (SB (Kr (UN (Kr (UN (Pw yK) UT) (Qa yK)) UT) (Qa yK)) yK (UO yK) yK ⟨k0.1,by rw[hL];exact k0.2⟩ yK) (Kf ?_))
  repeat (refine Yg yK (by decide) ?_)
  refine U4 (ZM (UN (K2 yK yK) (UN (K2 yK yK) UT)) (Qa yK)) ⟨_,rfl,fin w2 (by kernel_rfl) ?_⟩;rw[hC,W1]
  have:rkB cs.length (.list [.int (cs.length:Int)])=yN:=by
   show([int (cs.length:Int)].all (Ki cs.length))=yN
   rw[Ji]
   have:Ki cs.length (.int (cs.length:Int))=yN:=by
    show(decide (0<=(cs.length:Int))&&decide ((cs.length:Int)<cs.length))=yN
    rw[QF (by lia:¬(cs.length:Int)<cs.length),JL]
   rw[this];rfl
  rw[Ji,this];rfl
 .repeat (refine Yg yK (by decide) ?_)
  refine XT yK yK (KQ (SB (Kr (UN (Kr (UN (UO yK) UT) (Qa yK)) (UN (Kr (UN (UO yK) UT) (Qa yK)) UT)) (Qa yK)) yK (UO yK) yK ⟨k0.1,by rw[hL];exact k0.2⟩ yK) (Kf ?_))
  repeat (refine Yg yK (by decide) ?_)
  refine U4 (ZM (UN (K2 yK yK) (UN (K2 yK yK) UT)) (Qa yK)) ⟨_,rfl,fin w2 (by kernel_rfl) ?_⟩;rw[W1];have:flI [.list [.int m],.list [.int m]]=[m,m]:=rfl;rw[this,decide_eq_false (p:=[m,m].Nodup) (by simp),Bool.and_false,Bool.and_false]
 .repeat (refine Yg yK (by decide) ?_)
  refine XT yK yK (KQ (SB (Kr (UN (Kr (UN (UO yK) UT) (Qa yK)) (UN (Kr UT (Qa yK)) UT)) (Qa yK)) yK (UO yK) yK ⟨k0.1,by rw[hL];exact k0.2⟩ yK) (Kf ?_))
  repeat (refine Yg yK (by decide) ?_)
  refine U4 (ZM (UN (K2 yK yK) (UN (K2 yK yK) UT)) (Qa yK)) ⟨_,rfl,fin w2 (by kernel_rfl) ?_⟩;rw[W1];have:([.list [.int m],.list []]:yO).all (rkB cs.length)=yN:=by rw[Ji,Ji,show rkB cs.length (.list [])=yN from rfl,Bool.false_and,JL]
  rw[this,Bool.false_and,JL]
 .repeat (refine Yg yK (by decide) ?_)
  refine XT yK yK (KQ (SB (Kr (UN (ZM (UN (UO yK) UT) (Qa yK)) UT) (Qa yK)) yK (UO yK) yK ⟨k0.1,by rw[hL];exact k0.2⟩ yK) (Kf ?_))
  repeat (refine Yg yK (by decide) ?_)
  exact U4 (ZM (UN (K2 yK yK) (UN (K2 yK yK) UT)) (Qa yK)) ⟨_,rfl,fin w2 (by kernel_rfl) yK⟩
 .repeat (refine Yg yK (by decide) ?_)
  have em:Ke (.list [.list []]) (.int 7)=O (.list (Uv 7 (.list []))):=by kernel_rfl
  refine XT yK yK (KQ (Kv (UZ (K2 yK yK) (UZ (Kr (UN (Kr UT (Qa yK)) UT) (Qa yK)) UR em) (Yu (by rw[hL,QB];lia))) (Qa yK) yK) (Kf ?_));refine U4 (ZM (UN (K2 yK yK) (UN (UO yK) UT)) (Qa yK)) ⟨_,rfl,Rt w1 (XJ.mpr ⟨by rw[Qj,hL,QB];lia,λz hz=>?_⟩) (by decide),?_⟩
  .rcases QO.mp hz with hz|hz
   .exact(XJ.mp w2).2 z hz
   .rw[(JU.mp hz).2];rfl
  .rw[VO,Nx g]
   dsimp only;unfold ZA;dsimp only;rw[QH (by rw[Qj,hL,QB];lia)];exact⟨_,_,rfl⟩
end
section
variable{i:Nat}{x1 x2:Str}{h1 h2 g:SM}{Z Z1 Z2 Z':US}{d:D}{ds zJ:yO}
def qY(e:g Z=.nx Z1):WJ i x1 h1 x2 h2 g Z=.nx Z1:=by unfold WJ;rw[e]
def qX(e:g Z=.ex Z1 d)(u:Yt x1 d=yM)(hi:i<Z1.length)(h:h1 (Z1.set i (O (.pub d)))=.nx Z2)(e2:Z2.set i yL=Z'):WJ i x1 h1 x2 h2 g Z=.nx Z':=by unfold WJ;simp_all
def qW(e:g Z=.ex Z1 d)(u1:Yt x1 d=yN)(u:Yt x2 d=yM)(hi:i<Z1.length)(h:h2 (Z1.set i (O (.pub d)))=.nx Z2)(e2:Z2.set i yL=Z'):WJ i x1 h1 x2 h2 g Z=.nx Z':=by unfold WJ;simp_all
def qV  (h0:Z[i]?=O (O (.own zJ)))(e:f Z=.ok (.val d) Z1)(h3:Z1[i]?=O (O (.own ds)))(hl:ds.length<1000000)(h4:Z1.set i (O (.own (ds++[d])))=Z'):V3 i f Z=.nx Z':=by unfold V3;simp_all
def Hy  (h0:Z[i]?=O (O (.own zJ)))(e:f Z=.ok (.exc d) Z1):V3 i f Z=.ex Z1 d:=by unfold V3;simp_all
end
def GT     {Z}(hs:Xe d)(h:Zh d=O (p,n))(h0:Z[0]?=O (O (.pub d))):Ho (UQ (sX (Z8 1 X8 (UL (UJ 0) (UK))) λ_ Z=>.nx Z) g) Z (Ve (.exc (exD "NoWishes" [.str p,n]))):=by have hx:=M0 hs;rw[h]at hx;apply Kg;exact KQ (WK (Y1 (UN (UO h0) UT) yK hx)) (Y6 ⟨rfl,rfl⟩)
def CU  {p}{n}(hs:Xe d)(h:Zh d=O (p,n)):WD [d,a]=O (.exc (exD "NoWishes" [.str p,n])):=
 Wr  rfl (GT hs h yK)
def kH   {Z}(h:WD [d,a]=O (.exc E))(hE:Wp E=yM)(h0:Z[0]?=O (O (.pub d)))(h1:Z[1]?=O (O (.pub a))):Ho (UQ (sX (Z8 2 WD (UL (UJ 0) (UL (UJ 1) (UK)))) λ_ Z=>.nx Z) g) Z (Ve (.exc E)):=by apply Kg;exact KQ (WK (Y1 (UN (UO h0) (UN (UO h1) UT)) yK h)) (Y6 ⟨rfl,hE⟩)
def qU   {n:D}(h:Zh d=O (p,n)):PyData.canLay0 (.tuple [.str p,n])=yM/\UB (.tuple [.str p,n])<=60:=by
 have key:(p = "wishes" ∨ p = "copies" ∨ p = "lists")/\(n=.none ∨ ∃k:Nat,n=.int k):=by
  unfold Zh at h;split at h
  .split at h
   .split at h
    .split at h
     .cases h;exact⟨.inr (.inl yK),.inr ⟨_,rfl⟩⟩
     .split at h
      .split at h
       .split at h
        .cases h;exact⟨.inr (.inr yK),.inr ⟨_,rfl⟩⟩
        .cases h
       .cases h;exact⟨.inr (.inr yK),.inl yK⟩
      .cases h;exact⟨.inr (.inr yK),.inl yK⟩
    .cases h;exact⟨.inr (.inl yK),.inl yK⟩
   .cases h;exact⟨.inr (.inl yK),.inl yK⟩
  .cases h;exact⟨.inl yK,.inl yK⟩
 obtain⟨rfl|rfl|rfl,rfl|⟨k,rfl⟩⟩:=key<;>exact⟨by kernel_rfl,by simp[UB,PyData.depthAll]⟩
def kG:ZY Wn RW:=WP (Y0 (WM W2 YZ) (LK (WM W2 YZ)))
def qT:ZY Wm RV:=WP (Y0 (WM W2 YZ) (LK (WM W2 YZ)))
def Nw:ZY YV X8:=WP (Y0 (WM W2 YZ) (Y0 YZ (Y0 (WT kG) (WT qT))))
def qS:ZY Sj SR:=WP (WM W2 YZ)
def DE:ZY Sg WD:=WP (Y0 (WT Nw) (Y0 (WM W2 YZ) (Y0 YZ (Y0 YZ (Y0 (WT qS) (Y0 (WM W2 YZ) (WM W2 YZ)))))))
def wd:ZY Sk P7:=WP (Y0 (WT Nw) YZ)
def kF:ZY Sf RY:=WP (Y0 (WT DE) (Y0 (WT wd) YZ))
def CT:ZY Se SS:=WP (Y0 (WT kF) YZ)
def qR:ZY F_az SJ:=WP (Y0 (WT Nw) YZ)
def OF  (h1:d.canLay0=yM)(h2:d.depth<=60):oNe d d=O yN:=by unfold oNe;rw[Qp ⟨h1,h1,h2⟩];rw[Nl _ h1];rfl
def CS  (h1:d.canLay0=yM)(h2:d.depth<=60):oEq d d=O yM:=by unfold oEq;rw[Qp ⟨h1,h1,h2⟩];rw[Nl _ h1]
section
variable{d a E p:D}
def wc(h:WD [d,a]=O (.exc E))(hE:Wp E=yM):RY [d,a]=O (.exc E):=
 Wr  rfl (kH h hE yK yK)
def L6(h:WD [d,a]=O (.exc E))(hE:Wp E=yM):SS [d,a,p]=O (.exc E):=by refine Wr  rfl ?_;apply Kg;exact KQ (WK (Y1 (UN (UO yK) (UN (UO yK) UT)) yK (wc h hE))) (Y6 ⟨rfl,hE⟩)
def kE   (hs:Xe d)(h:Zh d=O (q,n)):SJ [d,p]=O (.exc (exD "NoWishes" [.str q,n])):=
 Wr  rfl (GT hs h yK)
def Ou  {r:XR}(hE:∀E,r=.exc E->Wp E=yM)(h0:k=0->SS [d,a,p]=O r)(h1:k≠0->SJ [d,p]=O r):XV [.int k,d,a,p]=O r:=by
 refine Wr  rfl ?_;by_cases z0:k=0
 .refine XT yK z0 ?_
  have e:=Y1 (n:=3) (Z:=[O (.pub (.int k)),O _,O (.pub a),O (.pub p)]) (UN (UO (i:=1) yK) (UN (UO (i:=2) yK) (UN (UO (i:=3) yK) UT))) yK (h0 z0);cases hr:r with
  |val v=>subst hr;exact KQ (Sq e yK) (Ks yK)
  |exc E'=>subst hr;exact KQ (WK e) (Y6 ⟨rfl,hE _ yK⟩)
 .refine Yg yK z0 ?_
  have e:=Y1 (n:=2) (Z:=[O (.pub (.int k)),O _,O (.pub a),O (.pub p)]) (UN (UO (i:=1) yK) (UN (UO (i:=3) yK) UT)) yK (h1 z0);cases hr:r with
  |val v=>subst hr;exact KQ (Sq e yK) yK
  |exc E'=>subst hr;exact KQ (WK e) ⟨rfl,hE _ yK⟩
def qQ   (h:XV [.int k,d,a,p]=O (.val v)):ZT [.int k,d,a,p]=O (.list [.str "let", v]):=by refine KZ  rfl ?_;refine Ka (Zv (Yo (UN UR UT) (Qa yK)) (Qa yK) yK) ?_;refine Ka (qY (qV yK (Y1 (UN (UO yK) (UN (UO yK) (UN (UO yK) (UN (UO yK) UT)))) yK h) yK (Qa yK) yK)) ?_;exact U4 (K2 yK yK) yK
def qP   (h:XV [.int k,d,a,p]=O (.exc (exD "NoAim" [.str q]))):ZT [.int k,d,a,p]=O (.list [.str "aim", .str q]):=by refine KZ  rfl ?_;refine Ka (Zv (Yo (UN UR UT) (Qa yK)) (Qa yK) yK) ?_;refine Ka (qX (Hy yK (Y1 (UN (UO yK) (UN (UO yK) (UN (UO yK) (UN (UO yK) UT)))) yK h)) yK (Qa yK) (Zv (Yo (UN UR (UN (KR (UO yK) (ZE yK)) UT)) (Qa yK)) (Qa yK) yK) yK) ?_;exact U4 (K2 yK yK) yK
def qO   {n:D}(h:XV [.int k,d,a,p]=O (.exc (exD "NoWishes" [.str q,n]))):ZT [.int k,d,a,p]=O (.list [.str "wishes", .str q,n]):=by refine KZ  rfl ?_;refine Ka (Zv (Yo (UN UR UT) (Qa yK)) (Qa yK) yK) ?_;refine Ka (qW (Hy yK (Y1 (UN (UO yK) (UN (UO yK) (UN (UO yK) (UN (UO yK) UT)))) yK h)) yK yK (Qa yK) (Zv (Yo (UN UR (UN (KR (UO yK) (ZE yK)) (UN (KR (UO yK) (ZE yK)) UT))) (Qa yK)) (Qa yK) yK) yK) ?_;exact U4 (K2 yK yK) yK
def qN    (h:XV [.int k,d,a,p]=O (.exc (exD "NoWishes" [.str q,n]))):Vi [.int k,d,a,p]=O (.bool yM):=by refine KZ  rfl ?_;refine Ka (Kv UR (Qa yK) yK) ?_;refine Ka (AG (WK (Y1 (UN (UO yK) (UN (UO yK) (UN (UO yK) (UN (UO yK) UT)))) yK h)) yK (Qa yK) (Kv (KR (UO yK) (ZE yK)) (Qa yK) yK) yK) ?_;exact U4 (UO yK) yK
end
def qM    (h:ZP n m d=O p):Uz p=yM:=by obtain⟨p1,_,_⟩:=CV   d;rw[h]at p1;exact p1
def BC{xs:yO}:UA xs=yM->∀z∈xs,z.canLay0=yM:=by
 induction xs with
 |nil=>simp_all
 |cons y r ih=>
  intro hh z hz;simp only[UA,Qz]at hh;rcases Qs.mp hz with rfl|hz
  .exact hh.1
  .exact ih hh.2 z hz
def RG(b:D)(h:b=.bool yM ∨ ∃i:Int,b=.int i):PyData.canLay0 (.list [.str "let", b])=yM/\(Uw [.str "let", b]).depth<=20:=by rcases h with rfl|⟨i,rfl⟩<;>exact⟨by kernel_rfl,by simp[UB,PyData.depthAll]⟩
def qL:∀ns:yP,ns.length<=63->Vf [.list (ns.map int)]=O (.bool yM):=by
 intro ns hns;refine KZ (Z:=[O (.pub (.list (ns.map int))),yL,yL,yL,yL,yL,yL,yL,yL,yL,yL,yL,yL]) yK ?_;unfold TB;obtain⟨r,hr,cs,ls,rfl,g,_⟩:=w5 4 5 3 (ns:=ns) (by lia) 1;have l7:=g.l7;have c6:=g.c6
 let S0:Option Sl:=O (.pub (.list (ns.map int)))
 let S1:Option Sl:=O (.pub (Kc cs ls))
 refine Ka (Z1:=[S0,S1,yL,yL,yL,yL,yL,yL,yL,yL,yL,yL,yL]) (Kv (Kh (UN (UO yK) (UN UR (UN UR (UN UR (UN UR UT))))) yK hr) (Qa yK) yK) ?_;obtain⟨v,hv⟩:=RT ns 0 (by lia);obtain⟨r,ha,o,old,ts,rfl,ga⟩:=qv g v 5
 let S2:Option Sl:=O (.pub (KJ o old ts))
 refine Ka (Z1:=[S0,S1,S2,yL,yL,yL,yL,yL,yL,yL,yL,yL,yL]) (Kv (Kh (UN (UO yK) (UN (Kh (UN (UO yK) (UN UR UT)) yK hv) (UN UR UT))) yK ha) (Qa yK) yK) ?_;obtain⟨v3,hv3⟩:=RT ns 3 (by lia);obtain⟨r,hpp,tm,as,ps,rfl,pp⟩:=wj (V:=Zk ls o old ts) g (Lk g) (by have:=OJ g;lia) v3 2 (lo:=0) (by decide)
 let S3:Option Sl:=O (.pub (K8 tm as ps))
 refine Ka (Z1:=[S0,S1,S2,S3,yL,yL,yL,yL,yL,yL,yL,yL,yL]) (Kv (Kh (UN (UO yK) (UN (Kh (UN (UO yK) (UN (UO yK) UT)) yK (yp g ga)) (UN (Kh (UN (UO yK) (UN UR UT)) yK hv3) (UN UR (UN UR UT))))) yK hpp) (Qa yK) yK) ?_;have hla:=pp.la;have hlp:=pp.lp;have hlet:Se [Kc cs ls,KJ o old ts,K8 tm as ps]=O (.bool yM):=by rw[jb (o:=o) g ga (d:=K8 tm as ps) (C3 (by lia) (by lia)),C2.mpr ⟨pp.t1,⟨by have:=pp.t1;lia,pp.la,pp.lp,λa h=>by have:=pp.aa a h;lia,pp.pp,λq h=>by have:=pp.le q h;lia⟩⟩]
 let cl:D:=.int (Pp cs as ps)
 let V:Int->D:=λk=>if k=0 then .bool yM else cl
 have hV:∀k,XV [.int k,Kc cs ls,KJ o old ts,K8 tm as ps]=O (.val (V k)):=λk=>
  Ou (λE e=>by cases e) (λz=>by have:=CT _ _ hlet;rw[this];simp only[V,Qp z]) λz=>by have:=qR _ _ (wK (tm:=tm) (as:=as) (ps:=ps) g);rw[this];simp only[V,QH z,cl]
 have hT:∀k:Int,ZT [.int k,Kc cs ls,KJ o old ts,K8 tm as ps]=O (.list [.str "let", V k]):=λk=>qQ (hV k)
 have hVl:∀k,PyData.canLay0 (.list [.str "let", V k])=yM/\(Uw [.str "let", V k]).depth<=20:=λk=>by
  refine RG _ ?_;by_cases z:k=0
  .exact .inl (Qp z)
  .exact .inr ⟨_,QH z⟩
 let fst:yO:=[.list [.str "let", .bool yM],.list [.str "let", cl]]
 have hc:K6 (gN 13) (UM yM) (UV 4 ZT (UL (UJ 13) (UL (UJ 1) (UL (UJ 2) (UL (UJ 3) (UK)))))) (Yp 0 2) (Kt [S0,S1,S2,S3,yL,yL,yL,yL,yL,yL,yL,yL,yL]++Uv 1 yL) []=O fst:=by
  refine X6 (λZ=>∃x,Z=[S0,S1,S2,S3,yL,yL,yL,yL,yL,yL,yL,yL,yL,x]) (Yp 0 2) fst _ _ yK ?_ ⟨yL,rfl⟩ (by decide);rintro j d e hj he Z ⟨x,rfl⟩;obtain⟨rfl,bo⟩:=VX hj
  have he':e=.list [.str "let", V (0+(j:Int))]:=by
   have:j=0∨j=1:=by lia
   rcases this with rfl|rfl<;>(cases he;rfl)
  subst he';exact⟨_,UX (Qa yK) yK,rfl,Kh (UN (UO yK) (UN (UO yK) (UN (UO yK) (UN (UO yK) UT)))) yK (hT _),_,rfl⟩
 refine Ka (Z1:=[S0,S1,S2,S3,O (.own fst),yL,yL,yL,yL,yL,yL,yL,yL]) (Zv (Z6 (WQ (UN UR UT) (WV (by decide) (by decide))) hc) (Qa yK) yK) ?_;obtain⟨v2,hv2⟩:=RT ns 2 (by lia);apply Kg;apply YF (λ_ Z=>∃x5 x6 x7 x8 x9 zy y7 zn,Z=[S0,S1,S2,S3,O (.own fst),x5,x6,x7,x8,x9,zy,y7,zn])
 case h1=>exact WC (UN (UZ (Kr (UN (Kh (UN (UO yK) (UN UR UT)) yK hv2) UT) (Qa yK)) (Ww (UO yK) (Y9 UR) (Y9 UR) WA) (ki (by lia))) UT) WB
 case h0=>exact⟨_,_,_,_,_,_,_,_,rfl⟩
 case hst=>
  rintro i d Z hi ⟨x5,x6,x7,x8,x9,zy,y7,zn,rfl⟩;obtain⟨x,hx,rfl⟩:=VS hi;obtain⟨c,rfl⟩:=kj hx;rw[JR];refine⟨_,KD yK (U6 (UX (Qa yK) yK) (U6 (UX (Qa yK) yK) KE)),?_⟩;unfold La
  let S5:Option Sl:=O (.pub (.int i))
  let S6:Option Sl:=O (.pub (.int c))
  obtain⟨r,hF,dg,rfl,hdl,hdb⟩:=Tl c (31+(i:Int)) (sizes:=[2,3,2]) (by decide) (by decide)
  match dg,hdl with
  |[a,b,e],_=>
  obtain⟨a0,a2⟩:=hdb 0 a 2 yK yK;obtain⟨e0,e2⟩:=hdb 2 e 2 yK yK
  let S7:Option Sl:=O (.pub (.list [.int a,.int b,.int e]))
  let W:Option Sl:=O (.own fst)
  refine Ka (Z1:=[S0,S1,S2,S3,W,S5,S6,S7,x8,x9,zy,y7,zn]) (Kv (Kh (UN (UO yK) (UN (UZ UR (UO yK) KO) (UN (Kr (UN UR (UN UR (UN UR UT))) (Qa yK)) UT))) yK hF) (Qa yK) yK) ?_;obtain⟨od,hod,sh⟩:=CW (o:=o) g ga (c / 12) (40+(i:Int));have hs:SmA od:=DF sh (by decide)
  let S8:Option Sl:=O (.pub od)
  refine Ka (Z1:=[S0,S1,S2,S3,W,S5,S6,S7,S8,x9,zy,y7,zn]) (Kv (Kh (UN (UO yK) (UN (UO yK) (UN (UZ (UO yK) UR (Pv (by decide) (by decide))) (UN (UZ UR (UO yK) KO) UT)))) yK hod) (Qa yK) yK) ?_
  obtain⟨gv,hgv⟩:∃gv,oIx (.list [K8 tm as ps,.none]) (.int e)=O gv:=by
   have:e=0∨e=1:=by lia
   rcases this with rfl|rfl
   .exact⟨_,rfl⟩
   .exact⟨_,rfl⟩
  let S9:Option Sl:=O (.pub gv)
  refine Ka (Z1:=[S0,S1,S2,S3,W,S5,S6,S7,S8,S9,zy,y7,zn]) (Kv (UZ (Kr (UN (UO yK) (UN UR UT)) (Qa yK)) (Kd yK UR yK) hgv) (Qa yK) yK) ?_
  let S10:Option Sl:=O (.pub (WE (ZP cs.length ls.length od)))
  refine Ka (Z1:=[S0,S1,S2,S3,W,S5,S6,S7,S8,S9,S10,y7,zn]) (Kv (Kh (UN (UO yK) (UN (UO yK) UT)) yK (wT l7 hs)) (Qa yK) yK) ?_;obtain⟨bd,hbd,wb,p,n,aq⟩:=qZ g (c / 12) (50+(i:Int));have hsm:Xe bd:=Lp (Sz (by decide) bd wb)
  let S11:Option Sl:=O (.pub bd)
  refine Ka (Z1:=[S0,S1,S2,S3,W,S5,S6,S7,S8,S9,S10,S11,zn]) (Kv (Kh (UN (UO yK) (UN (UZ (UO yK) UR (Pv (by decide) (by decide))) (UN (UZ UR (UO yK) KO) UT))) yK hbd) (Qa yK) yK) ?_;have bw:∀k:Int,XV [.int k,bd,od,gv]=O (.exc (exD "NoWishes" [.str p,n])):=λk=>Ou (λE e=>by cases e;rfl) (λ_=>L6 (CU hsm aq) yK) λ_=>kE hsm aq
  let tw:D:=.list [.str "wishes", .str p,n]
  refine Ka (Z1:=[S0,S1,S2,S3,W,S5,S6,S7,S8,S9,S10,S11,O (.pub tw)]) (Kv (Kh (UN (Kd yK UR yK) (UN (UO yK) (UN (UO yK) (UN (UO yK) UT)))) yK (qO (bw a))) (Qa yK) yK) ?_;have hf:=kJ hsm;rw[aq]at hf;have hadd:U0 (.list [.str "wishes"]) (fauD (O (p,n)))=O tw:=Yu (Qa yK);obtain⟨y1,y2⟩:=qU aq
  have hne:oNe tw tw=O yN:=by
   refine OF (SQ λx hx=>?_) ?_
   .rcases Qs.mp hx with rfl|hx
    .kernel_rfl
    .exact BC (xs:=[.str p,n]) y1 x hx
   .simp only[tw,UB,PyData.depthAll]at y2⊢
    lia
  apply Kg;refine U5 (b:=yN) (Z1:=[S0,S1,S2,S3,W,S5,S6,S7,S8,S9,S10,S11,O (.pub tw)]) ?_ (λz=>by cases z) λ_=>Kn (Kf ?_)
  .exact Ps (t:=decide (b=0)) (UZ (Kd yK UR yK) UR ZD) (λ_=>Zn yK (UZ (Kr (UN UR UT) (Qa yK)) (Kh (UN (UO yK) UT) yK hf) hadd) hne) λ_=>rfl
  apply Kg;refine U5 (b:=yN) (Z1:=[S0,S1,S2,S3,W,S5,S6,S7,S8,S9,S10,S11,O (.pub tw)]) ?_ (λz=>by cases z) λ_=>Kn (Kf ?_)
  .exact Ps (t:=decide (b=1)) (UZ (Kd yK UR yK) UR ZD) (λ_=>Zr (ZN (t:=yM) (Kh (UN (Kd yK UR yK) (UN (UO yK) (UN (UO yK) (UN (UO yK) UT)))) yK (qN (bw a))))) λ_=>rfl
  apply Kg;refine SD (P:=λq=>q=.nx [S0,S1,S2,S3,W,S5,S6,S7,S8,S9,S10,S11,O (.pub tw)]) ?_ λq e=>?_
  .cases bg:ZP cs.length ls.length od with
   |none=>
    refine U5 (b:=yN) (Z1:=[S0,S1,S2,S3,W,S5,S6,S7,S8,S9,S10,S11,O (.pub tw)]) ?_ (λz=>by cases z) λ_=>Kn yK
    exact Ps (t:=decide (b=2)) (UZ (Kd yK UR yK) UR ZD) (λ_=>NX (UO yK) (by rw[bg];rfl)) λ_=>rfl
   |some q=>
    refine U5 (b:=decide (b=2)) (Z1:=[S0,S1,S2,S3,W,S5,S6,S7,S8,S9,S10,S11,O (.pub tw)]) ?_ (λ_=>?_) λ_=>Kn yK
    .exact Ps (t:=decide (b=2)) (UZ (Kd yK UR yK) UR ZD) (λz=>NX (UO yK) (by rw[bg,z];rfl)) λz=>z
    have hx:=ja g hs;rw[bg]at hx;have ht:ZT [.int 0,Kc cs ls,od,gv]=O (.list [.str "aim", .str q]):=qP (Ou (λE e=>by cases e;rfl) (λ_=>L6 hx yK) λz=>absurd yK z)
    have hne:oNe (.list [.str "aim", .str q]) (.list [.str "aim", .str q])=O yN:=by
     refine OF (SQ λx hx=>?_) (by simp[UB,PyData.depthAll]);simp only[Qs,QU,or_false]at hx;rcases hx with rfl|rfl
     .kernel_rfl
     .exact qM bg
    have e10:WE (ZP cs.length ls.length od)=.str q:=by rw[bg];rfl
    exact U5 (b:=yN) (UZ (Kh (UN UR (UN (UO yK) (UN (UO yK) (UN (UO yK) UT)))) yK ht) (Kr (UN UR (UN (UO yK) UT)) (Qa yK)) (by rw[e10];exact hne)) (λz=>by cases z) λ_=>Kn yK
  .subst e
   refine Kf ?_
   have hix:oIx (.list fst) (.int a)=O (.list [.str "let", V a]):=by
    have:a=0∨a=1:=by lia
    rcases this with rfl|rfl
    .rfl
    .rfl
   obtain⟨q1,q2⟩:=hVl a;exact U5 (b:=yN) (UZ (Kh (UN (Kd yK UR yK) (UN (UO yK) (UN (UO yK) (UN (UO yK) UT)))) yK (hT a)) (Wy yK (Kd yK UR yK) yK hix) (OF q1 (by lia))) (λz=>by cases z) λ_=>Kn (Yb ⟨_,_,_,_,_,_,_,_,rfl⟩)
 case hend=>
  rintro Z ⟨x5,x6,x7,x8,x9,zy,y7,zn,rfl⟩;refine Kf ?_
  have heq:oEq (.list fst) (.list fst)=O yM:=by
   refine CS (SQ λx hx=>?_) (QE (OW (n:=20) (PQ λx hx=>?_)) (by decide))
   .simp only[fst,Qs,QU,or_false]at hx
    rcases hx with rfl|rfl
    .exact(RG _ (.inl yK)).1
    .exact(RG _ (.inr ⟨_,rfl⟩)).1
   .simp only[fst,Qs,QU,or_false]at hx
    rcases hx with rfl|rfl
    .exact(RG _ (.inl yK)).2
    .exact(RG _ (.inr ⟨_,rfl⟩)).2
  exact U4 (Kx (Hr yK (Kr (UN (Kr (UN UR (UN UR UT)) (Qa yK)) (UN (Kr (UN UR (UN (Kh (UN (UO yK) (UN (UO yK) UT)) yK (wV g)) UT)) (Qa yK)) UT)) (Qa yK)) yK heq)) yK
end W
open PySem PySem.W PyProof.Rows
set_option maxRecDepth 100000 in
set_option maxHeartbeats 0 in
theorem PySem.Challenge.cw_wishdeal_k39_papers_refused_holds : PySem.Challenge.rw_wishdeal_k39_papers_refused.Holds := by
 w_on;o_law
 refine holds_open (q:=W.q0) (loose:=[]) (Xt:=λs=>xlAt W.q0 [] s&&recOk [] s) (XP:=XL W.q0 []) (Yf:=DL.xSeen W.clsL) (Ya:=λ_=>DL.xGood W.p0 W.clsL) (YP:=λ_ h=>DL.XYP W.p0 W.clsL h) (N:=4904) (d:=W.d_by) (kwd:=[])
  W.DB (λ_ _ e=>DL.Di e) (λ_ _ _ y k=>y.keeps k) (λs e=>xl_of s (Bool.and_eq_true_iff.mp e).1) XL.keeps (by rfl) (by rfl) (by rfl)
  (λs e=>recFacts_of (Bool.and_eq_true_iff.mp e).2) (by rfl) (by assumption) (by decide +kernel) ⟨rfl,rfl,rfl,rfl,rfl,by decide +kernel⟩ ?hw (W.walk W.qL)
 case hw=>w_witness2


import PyProof.Rows.All
import Wide.All
import OpenK.AllK
import Wide.FinOn
import Lean
import PyProof.EqAt
import PyProof.EqKinds
import PyProof.TupleCall
import PyProof.EnumMake
import PyProof.ZipIter
import PyProof.ExcClass2
import PyProof.ExcInit
import PyProof.ExcBaseAll.ValueError
import PyProof.FString2
import PyProof.ExcArgsOwn
import PyProof.InstStoreFacts
import ObjForm.Fk.InstStore
import ObjForm.Fk.InstLoad
import PyProof.StationsW
import PyProof.RulesAs
import PyProof.NsDelKeeps
import OpenK.KMore
import PyProof.IsiBase
import OpenK.KNot
import PyProof.Rows.RuleN_isinstance
import PyProof.NeData
import PyProof.P3In
import PyProof.StrWalks
import PyProof.ConsumeWalk
import PyProof.SliceStr2
import PyProof.MeetsStr
import KE.KItem
import KE.KUnpack
import KE.KRevSl
import PyProof.Rows.SetFrom
import PyProof.SetRoads
import PyProof.Rows.Range3
import PyProof.CallType
import PyProof.Rows.CallKwBuiltin
import PyProof.Rows.MinMaxN
import PyProof.SumWalkG
import PyProof.Rows.SeqMore
import PyProof.Rows.SortWalk
import PyProof.Rows.SumAny
import PyProof.Rows.SeqMore2
import KE.KSortTup
import PyProof.Rows.SortShellK
import PyProof.ReprRoads
import PyProof.ReprBulk
import PyProof.CallFns
import PyProof.NeKinds
import PyProof.Rows.StrJoinMade
import PyProof.StrCalls
import KE.KIntText
import PyProof.ReprDict
import PyProof.DictIter
import PyProof.Rows.DictUnroll
import PyProof.MeetsStr2
import PyProof.Rows.StrNews
import PyProof.StrLawsChain
import PyProof.Rows.StrItems
import PyProof.SeqRoads2
import PySem.Challenge.RW_wishdeal_k28_ways_done
set_option compiler.extract_closed false
set_option Elab.async false
set_option linter.all false
set_option maxRecDepth 100000
set_option maxHeartbeats 4000000
open Option renaming some→ju,none→jw
open Bool renaming true→jx,false→jy
theorem jv.{u}{α:Sort u}{a:α}:a=a:=rfl
abbrev jA:=List Int
abbrev jD:=Option Int
abbrev jJ:=Option Bool
abbrev jK:=List Nat
theorem Qa:type_of% @of_decide_eq_true:=@of_decide_eq_true
theorem Qo:type_of% @if_pos:=@if_pos
theorem Qx:type_of% @decide_eq_false:=@decide_eq_false
theorem QC:type_of% @if_neg:=@if_neg
theorem QJ:type_of% @decide_eq_true:=@decide_eq_true
theorem Ja:type_of% @decide_eq_true_eq:=@decide_eq_true_eq
theorem JJ:type_of% @of_decide_eq_false:=@of_decide_eq_false
theorem JV:type_of% @congrArg:=@congrArg
theorem Ua:type_of% @if_false:=@if_false
open List renaming length_map→Qb,getElem?_eq_getElem→Qe,getElem?_map→Qf,getElem?_eq_some_iff→Qh,length_append→Qi,mem_cons→Ql,getElem?_set_ne→Qm,mem_of_getElem?→Qp,getElem?_append_left→Qr,getElem?_append_right→Qs,mem_cons_self→Qt,mem_map→Qu,getElem?_replicate→Qw,mem_singleton→Qy,length_replicate→QB,mem_cons_of_mem→QD,mem_append_right→QF,getElem?_set_self→QG,size_toArray→QI,length_nil→QM,map_cons→QN,mem_append→QO,length_singleton→QQ,length_cons→QR,map_append→QT,flatten_cons→QU,lookup_cons→QW,getD_eq_getElem?_getD→QX,contains_cons→Q2,replicate_succ→Q4,getElem_mem→Q5,length_set→Q6,append_nil→Q7,map_map→Jb,all_eq_true→Jc,mem_range→Je,length_take→Jh,length_range→Ji,pairwise_cons→Jm,mem_append_left→Jo,length_reverse→Ju,getElem?_eq_none→Jx,nil_append→JD,length_drop→JG,mem_flatten→JH,drop_eq_getElem_cons→JL,append_assoc→JN,getElem?_cons_succ→JP,take_length→JR,mem_replicate→JT,mem_of_mem_take→JW,nodup_cons→JY,nodup_nil→J5,take_succ→J6,mem_reverse→J7,mem_filter→Uc,range→Up,replicate→Uq,Pairwise→UA
open PySem renaming wpAny_bind→Qd,wpAny_pure→Qk,wpAny_loadPart_at→Qn,wpAny_mono→Qv,wpAny_isSubtype_exc→QK,wpAny_truthy_bool→QY,wpAny_standAt→Q3,wpAny_field→Q8,wpAny_passesOwn→Jj,wpAny_Call_Name_kw→Jk,codeAny_mono→Jl,codeAny_call_builtin→Jp,wpAny_holding→Js,wpAny_pyIter_list→JC,mem_of_lookup→JO,Value→Ue,Shared→Uf,Program→Ug,Addr→Uh,FuncData→Ui,Expr→Uj,sizeLine→Uk,wpAny→Ul,starEach→Um,compareOp→Uo,assignEach→UC,foldedSetIterable→UD
open PySem.Heap renaming get?_push_of_some→Qg,lt_size→Qj,get?_push_size→QA,get?_update_other→QL,get?_update_self→Jd
open Nat renaming le_refl→Qq,lt_of_lt_of_le→QE,ne_of_lt→QH,le_trans→QP,le_of_not_lt→QZ,lt_irrefl→Jg,zero_add→Jr,ne_of_gt→Jz,le_succ→JF,not_lt_zero→J4,zero_le→Ub
open Option.some renaming inj→Qz
open Bool renaming and_eq_true→QS,false_eq_true→Jy,or_eq_false_iff→JB,false_ne_true→JI,not_eq_false'→JK,not_eq_true'→JU,false_or→J8
open Int renaming toNat_natCast→Q0,emod_lt_of_pos→Jf,emod_nonneg→Jw,le_refl→JA,zero_add→JS,toNat_of_nonneg→JX,le_antisymm→JZ,not_lt→Ud
open Array renaming getD_eq_getD_getElem?→Q9,getElem?_eq_some_iff→Jq,length_toList→Jt,getElem?_eq_getElem→JM
open PySem.W.Fast renaming te1987589406359920131→Jn
open PySem.W renaming kia_one→Jv
open PyProof.Rows renaming callWith_type1→JE
open Option renaming getD_some→JQ
open Array.Perm renaming refl→J0
open Prod.mk renaming inj→J9
open PySem.PyData renaming list→Ur,bool→Us,str→Ut,strOk→Uu,canLayAll0→Uv,depth→Uw,eqv→Ux,shown→UB
open PySem.PassesOwn renaming never→Uy
open PySem.Str renaming ofString→Uz
abbrev jB:=List Ue
abbrev jE:=Option Ue
abbrev jF:=List Uj
abbrev jH:=List Uh
abbrev jI:=Option Uh
abbrev L3:=List (List jA)
abbrev LO:=List jD
abbrev jL:=Option LO
abbrev LP:=List (Int×Int)
open PySem.W (Frag)
open PySem.PyData (int)
open List (replicate)
namespace DL
open PySem PySem.Spec PySem.W PyProof.Rows
def topRunT(tb:String->Option Builtin)(p:Ug)(w:World)(m:Nat)(ann:jE):Nat->SharedT->Thread->Option SharedT
 |0,_,_=>jw
 |n+1,s,t=>match through t,stepOk m ann t with
  |true,_=>ju s
  |false,jy=>jw
  |false,jx=>match stepT (denote tb) p w s t with
   |some x=>topRunT tb p w m ann n x.1 x.2
   |none=>jw
theorem Lr{tb:String->Option Builtin}{p:Ug}{w:World}{m:Nat}{ann:jE}:∀{n:Nat}{s s':SharedT}{t:Thread},topRunT tb p w m ann n s t=ju s'->topRun tb p w m ann n s.abs t=ju s'.abs
 |0,_,_,_,h=>by cases h
 |n+1,s,s',t,h=>by
  rw[topRunT]at h;rw[topRun];cases ht:through t with
  |true=>rw[ht]at h;cases h;rfl
  |false=>
   rw[ht]at h;cases hk:stepOk m ann t with
   |false=>rw[hk]at h;cases h
   |true=>
    rw[hk]at h;dsimp only at h⊢;cases hs:stepT (denote tb) p w s t with
    |none=>rw[hs]at h;cases h
    |some x=>rw[hs]at h;rw[stepT_spec hs];exact Lr h
def btOf(l:List Obj):BT:=(l.foldl (λ(x:BT×Nat) o=>(x.1.ins x.2 o,x.2+1)) (.nil,0)).1
noncomputable def T0 (w:World) (os:OsState):SharedT:=⟨btOf (boot_heap w.params).objs.toList,11,(boot_heap w.params).life,#[],boot_drawn,boot_toks,os⟩
theorem CG(w:World)(os:OsState):(T0 w os).abs=⟨boot_heap w.params,#[],boot_drawn,boot_toks,os⟩:=by kernel_rfl
theorem AQ(w:World):((boot_heap w.params).isNs mainGlobals&&(#[]:Array GenState).size==0,(boot_heap w.params).objs.size,(boot_heap w.params).nsMap mainGlobals "__annotations__")=(jx,11,ju (.ref 6)):=by kernel_rfl
noncomputable abbrev Hg (p q:Ug) (loose:List Str) (Xt:Uf->Bool) (w:World) (t:SharedT):=
 ((staticsOk (importedModules p.main.body) (boot_heap w.params) t.abs.heap&&namesBound p t.abs.heap&&gensDone t.abs&&laidKept (boot_heap w.params) t.abs.heap),openSeen q loose (importedModules p.main.body) Xt jx t.abs)
abbrev VB0:jB:=[.type "ValueError", .type "Exception", .type "BaseException", .type "object"]
def Pa:List Str:=["__setattr__", "__getattribute__", "__getattr__", "__class__", "part", "number", "row"]
def Tq(nm:Str):Str:=nm ++ "." ++ "__init__"
def xB(h:Heap)(nm:Str)(own:Bool):Bool:=match h.nsMap mainGlobals nm with
 |some (.ref C)=>(match h.get? C with
  |some ⟨.type t,_,.cls cd,sl⟩=>(t == "type")&&(cd.name==nm)&&cd.hasDict && !cd.hasDel&&(match sl.toList with | [_,_,_,_,k4,_]=>decide (k4=ju (.builtin "ValueError.__new__"))|_=>jy)&&h.isNs cd.ns&&(Pa.all λx=>(h.nsMap cd.ns x).isNone)&&(own || (h.nsMap cd.ns "__init__").isNone) &&
   (if nm = "DealError" then decide (cd.mro=.ref C::VB0)else match h.nsMap mainGlobals "DealError" with|some (.ref D)=>decide (cd.mro=.ref C::.ref D::VB0)|_=>jy)
  |_=>jy)
 |_=>jy
def xSh(h:Heap)(nm:Str):Option (Bool×FnShape):=match h.nsMap mainGlobals nm with
 |some (.ref C)=>(match h.get? C with
  |some ⟨_,_,.cls cd,_⟩=>(match h.fnAt cd.ns "__init__", h.shapeAt cd.ns "__init__" with|some (_,o,_),ju sh=>ju (decide (o.cls=.type "function"),sh)|_,_=>jw)
  |_=>jw)
 |_=>jw
def XM(st:Stmt):Stmt:=match st with
 |.ClassDef _ _ _ (m::_) _ _ _ _ _ _ _=>m
 |_=>.Pass ⟨0,0,0,0⟩
def Oy(s:Stmt):Arguments:=match s with
 |.FunctionDef _ a _ _ _ _ _ _ _ _=>a
 |_=>default
def Ox(s:Stmt):List Stmt:=match s with
 |.FunctionDef _ _ b _ _ _ _ _ _ _=>b
 |_=>[]
def O3(s:Stmt):Scope:=match s with
 |.FunctionDef _ _ _ _ _ _ sc _ _ _=>sc
 |_=>{kind:=.function,names:=[],isGenerator:=jy,isCoroutine:=jy}
def Vk(nm:Str)(st:Stmt):FnShape:=⟨"__init__", Tq nm,Oy st,.stmts (Ox st),O3 st,mainGlobals,[],.none,.none,jw,.none,builtinsNs,jx⟩
abbrev XL0:=List (Str×Option Nat)
def xSeen(l:XL0)(s:Uf):Bool×List (Bool×Option (Bool×FnShape)):=(s.heap.isNs cStatics&&(s.heap.nsMap cStatics "thirdparty.any").isNone,l.map λc=>(xB s.heap c.1 c.2.isSome,if c.2.isSome then xSh s.heap c.1 else jw))
def xGood(p:Ug)(l:XL0):Bool×List (Bool×Option (Bool×FnShape)):=(jx,l.map λc=>(jx,c.2.map λi=>(jx,Vk c.1 (XM (p.main.body.getD i (.Pass ⟨0,0,0,0⟩))))))
theorem CF{α:Type}{Yf:Uf->α}{Ya:World->α}{p q:Ug}{loose:List Str}{Xt:Uf->Bool}{N M:Nat}(e:opening p=plainProg p.main.scope.names)(hN:Nat.ble 600 N=jx)(f:∀s,fenceModules? p s=ju s)(le:Nat.ble M N=jx)
  (run:∀(w:World)(os:OsState),(topRunT treeTable p w 11 (ju (.ref 6)) M (T0 w os) (topStub p)).map (λt=>(Hg p q loose Xt w t,Yf t.abs))=ju ((jx,openGood q loose),Ya w)):LeftO p q loose Xt Yf Ya N:=λw=>by
 obtain⟨⟨h,gs,d,k,os⟩,e0,e'⟩:=Option.map_eq_some_iff.mp (boot_open e hN f w);have e':(h,gs,d,k)=(boot_heap w.params,#[],boot_drawn,boot_toks):=e';obtain⟨rfl,rfl,rfl,rfl⟩:h=boot_heap w.params/\gs=#[]/\d=boot_drawn/\k=boot_toks:=by simpa only[Prod.mk.injEq]using e'
 obtain⟨t,ht,l⟩:=Option.map_eq_some_iff.mp (run w os);have hr:=Lr ht;rw[CG]at hr;have r:=topRun_mono (N-M) _ _ _ _ hr;rw[show M+(N-M)=N by have:=Nat.le_of_ble_eq_true le;omega]at r;obtain⟨l0,l3⟩:=J9 l;obtain⟨l1,l2⟩:=J9 l0;have z:=AQ w;obtain⟨z1,z2,z3⟩:_/\_/\_:=by simpa only[Prod.mk.injEq]using z
 have tf:topFrom treeTable p w N ⟨boot_heap w.params,#[],boot_drawn,boot_toks,os⟩=ju t.abs:=by
  unfold topFrom;dsimp only;rw[z1,z2,z3,r]
  show(match staticsOk (importedModules p.main.body) (boot_heap w.params) t.abs.heap&&namesBound p t.abs.heap&&gensDone t.abs&&laidKept (boot_heap w.params) t.abs.heap with|true=>ju t.abs|false=>jw)=_
  rw[l1]
 unfold openEnds;rw[e0]
 show(topFrom treeTable p w N _).map _=_
 rw[tf];exact JV ju (Prod.ext l2 l3)
end DL
open PySem in
lay_quick PySem.Challenge.pw_wishdeal_k28_ways_done DL.topRunT PySem.W.openGood PySem.W.staticsOk PySem.W.namesBound PySem.W.laidKept PySem.W.xlAt DL.xSeen DL.xGood
namespace W
open PySem PySem.Spec DL
abbrev p0:Ug:=PySem.Challenge.pw_wishdeal_k28_ways_done
def Y3:jK:=[1,2,4,5,6,7,8,9,10,11,12,13,14,15,16,17,19,20,21,22,23,24,25,26,27,28,29,31,33,34,35,37,38,39,41,42,43,44,45,47,48,49,50,51,52,54,55,56,57,58,59,60,61,62,63,64,65,66,67,68,69,70,71,72]
def ixL:jK:=[1,2,23,24,25,26,27,28,29,31,34,35,37,38,39,41,42,43,44,45,47,48,49,50,51,52,54,55,56,57,58,59,60,61,62,63,64,65,66,67,68,69,70,71,72]
abbrev q0:Ug:=PySem.W.view p0 Y3
def clsL:XL0:=[("DealError", ju 4),("NoWishes", ju 5),("NoAim", ju 6),("NoText", ju 7),("NoWay", jw),("NoPlace", jw),("NoChange", jw),("NoNumbering", jw),("NoJoin", jw),("NoBook", jw),("NoDeed", jw),("NoRow", jw),("NoName", jw),("TooMany", jw)]
theorem Hf:∀(w:World)(os:OsState),(PySem.W.Fast.tw10708255244068714335 PySem.W.Fast.tw14364793385576792824 PySem.W.Fast.tw10268351428289722193 w 11 (ju (.ref 6)) 4693 (T0 w os) (PySem.W.topStub PySem.W.Fast.tw10268351428289722193)).map (λt=>(((PySem.W.Fast.tw13471830651028734593 (PySem.W.Fast.tw5923862056798008813 (Program.main PySem.W.Fast.tw10268351428289722193).body) (PySem.W.boot_heap w.params) t.abs.heap&&PySem.W.Fast.tw4683006035507612052 PySem.W.Fast.tw10268351428289722193 t.abs.heap&&PySem.W.gensDone t.abs&&PySem.W.Fast.tw16898566250750103049 (PySem.W.boot_heap w.params) t.abs.heap),PySem.W.Fast.tw4187177175401517315 (PySem.W.view PySem.W.Fast.tw10268351428289722193 Y3) [] (PySem.W.Fast.tw5923862056798008813 (Program.main PySem.W.Fast.tw10268351428289722193).body) (λs=>PySem.W.Fast.tw4757257242682413121 (PySem.W.view PySem.W.Fast.tw10268351428289722193 Y3) [] s&&PySem.W.recOk [] s) jx t.abs),PySem.W.Fast.tw11121216462471823999 clsL t.abs))=ju ((jx,PySem.W.Fast.tw3486900944545009338 (PySem.W.view PySem.W.Fast.tw10268351428289722193 Y3) []),PySem.W.Fast.tw18030470931243306169 PySem.W.Fast.tw10268351428289722193 clsL):=by intro w os;kernel_rfl
theorem He:PySem.W.LeftO p0 q0 [] (λs=>PySem.W.xlAt q0 [] s&&PySem.W.recOk [] s) (xSeen clsL) (λ_=>xGood p0 clsL) 9286:=by
 refine CF (M:=4693) (by kernel_rfl) jv (λs=>by kernel_rfl) jv λw os=>?_
 have h:=Hf w os;rw[←PySem.W.Fast.te10708255244068714335,←PySem.W.Fast.te14364793385576792824,←PySem.W.Fast.te4187177175401517315,←PySem.W.Fast.te5923862056798008813,←PySem.W.Fast.te13471830651028734593,←PySem.W.Fast.te4683006035507612052,←PySem.W.Fast.te16898566250750103049,←PySem.W.Fast.te4757257242682413121,←PySem.W.Fast.te3486900944545009338,←PySem.W.Fast.te11121216462471823999,←PySem.W.Fast.te18030470931243306169,←PySem.W.Fast.te10268351428289722193]at h;exact h
end W
namespace L2
open PySem PySem.Spec PyProof.Rows
abbrev Key:=Sum Int Str
def Ow:Key->Ue->Bool
 |.inl k,v=>Value.isInt k v
 |.inr x,v=>Value.isStrOf x v
def keyH(w:World):Key->Int
 |.inl k=>hashInt k
 |.inr x=>hashStr w x
theorem Wa:∀{k:Key}{v:Ue},Ow k v=jx->(∃i t,k=Sum.inl i/\v=Value.int i t)∨(∃x t,k=Sum.inr x/\v=Value.str x t)
 |.inl i,v,h=>by obtain⟨t,e⟩:=Value.isInt_shape (k:=i) (v:=v) h;exact .inl ⟨i,t,rfl,e⟩
 |.inr x,v,h=>by obtain⟨t,e⟩:=Value.isStrOf_shape (x:=x) (v:=v) h;exact .inr ⟨x,t,rfl,e⟩
theorem Fp(a b:Int):decide ((Sum.inl a:Key)=Sum.inl b)=(a==b):=by
 by_cases e:a=b
 .subst e;simp
 .have h:¬(Sum.inl a:Key)=Sum.inl b:=λq=>e (Sum.inl.inj q)
  rw[Qx h];exact(beq_eq_false_iff_ne.mpr e).symm
theorem Fo(a b:Str):decide ((Sum.inr a:Key)=Sum.inr b)=decide (a=b):=by
 by_cases e:a=b
 .subst e;simp
 .have h:¬(Sum.inr a:Key)=Sum.inr b:=λq=>e (Sum.inr.inj q)
  rw[Qx h,Qx e]
theorem Fn(a:Int)(b:Str):decide ((Sum.inl a:Key)=Sum.inr b)=jy:=Qx (λq=>nomatch q)
theorem Fl(a:Str)(b:Int):decide ((Sum.inr a:Key)=Sum.inl b)=jy:=Qx (λq=>nomatch q)
def N6(prog:Ug)(w:World):PySem.KeyKind prog w Key where
 is:=Ow
 hash:=keyH w
 inj:=λv a b ha hb=>by
  rcases Wa ha with ⟨i,t,rfl,rfl⟩|⟨x,t,rfl,rfl⟩
  .rcases Wa hb with ⟨j,u,rfl,e⟩|⟨y,u,rfl,e⟩
   .injection e with e1 _;rw[e1]
   .exact nomatch e
  .rcases Wa hb with ⟨j,u,rfl,e⟩|⟨y,u,rfl,e⟩
   .exact nomatch e
   .injection e with e1 _;rw[e1]
 byValue:=λk v h=>by rcases Wa h with ⟨i,t,rfl,rfl⟩|⟨x,t,rfl,rfl⟩<;>rfl
 pyHash:=λhv h=>by
  rcases Wa hv with ⟨i,t,rfl,rfl⟩|⟨x,t,rfl,rfl⟩
  .exact wpAny_pyHash_int h
  .exact wpAny_pyHash_str h
 eqBool:=λhu hv h=>by
  rcases Wa hu with ⟨i,t,rfl,rfl⟩|⟨x,t,rfl,rfl⟩
  .rcases Wa hv with ⟨j,u,rfl,rfl⟩|⟨y,u,rfl,rfl⟩
   .rw[Fp]at h;exact wpAny_eqBool_int h
   .rw[Fn]at h;exact SeqAt.EqAt.int_str i t y u _ _ _ _ h
  .rcases Wa hv with ⟨j,u,rfl,rfl⟩|⟨y,u,rfl,rfl⟩
   .rw[Fl]at h;exact SeqAt.EqAt.str_int x t j u _ _ _ _ h
   .rw[Fo]at h;exact wpAny_eqBool_str h
 «strs»:=λk x t v h=>by
  rcases Wa h with ⟨i,u,rfl,e⟩|⟨y,u,rfl,e⟩
  .exact nomatch e
  .injection e with e1 _
   subst e1;cases v<;>rfl
inductive V where
 |non|bl (b:Bool)|int (i:Int)|str (x:Str)|byt (b:Array UInt8)|flt (b:UInt64)|ref (a:Uh)|ty (n:String)
 deriving DecidableEq
def RelV:V->Ue->Prop
 |.non,u=>u=Value.none
 |.bl b,u=>u=Value.bool b
 |.int i,u=>∃t,u=Value.int i t
 |.str x,u=>∃t,u=Value.str x t
 |.byt b,u=>∃t,u=Value.bytes b t
 |.flt b,u=>∃t,u=Value.float b t
 |.ref a,u=>u=Value.ref a
 |.ty n,u=>u=Value.type n
abbrev Vals:List V->jB->Prop:=Paired RelV
theorem Vals.length{xs:List V}{us:jB}(r:Vals xs us):xs.length=us.length:=Paired.length r
theorem Vals.get:∀{xs:List V}{us:jB}{i:Nat}{x:V},Vals xs us->xs[i]?=ju x->∃u,us[i]?=ju u/\RelV x u
 |_,_,_,_,.nil,e=>by simp at e
 |_,_,0,_,.cons r _,e=>by simp at e;subst e;exact⟨_,rfl,r⟩
 |_,_,i+1,x,.cons _ t,e=>by obtain⟨u,h1,h2⟩:=Vals.get (i:=i) (x:=x) t (by simpa using e);exact⟨u,by simpa using h1,h2⟩
theorem Vals.set{x:V}{u:Ue}(r:RelV x u):∀{xs:List V}{us:jB}(i:Nat),Vals xs us->Vals (xs.set i x) (us.set i u)
 |_,_,_,.nil=>.nil
 |_,_,0,.cons _ t=>.cons r t
 |_,_,i+1,.cons q t=>.cons q (Vals.set r i t)
theorem Vals.append:∀{xs ys:List V}{us ws:jB},Vals xs us->Vals ys ws->Vals (xs++ys) (us++ws)
 |_,_,_,_,.nil,s=>s
 |_,_,_,_,.cons r t,s=>.cons r (Vals.append t s)
theorem Vals.take:∀{xs:List V}{us:jB}(n:Nat),Vals xs us->Vals (xs.take n) (us.take n)
 |_,_,0,_=>.nil
 |_,_,_+1,.nil=>.nil
 |_,_,n+1,.cons r t=>.cons r (Vals.take n t)
theorem Vals.drop:∀{xs:List V}{us:jB}(n:Nat),Vals xs us->Vals (xs.drop n) (us.drop n)
 |_,_,0,r=>r
 |_,_,_+1,.nil=>.nil
 |_,_,n+1,.cons _ t=>Vals.drop n t
def Ta:Option V->jE->Prop
 |some v,ju u=>RelV v u
 |none,jw=>True
 |_,_=>False
def KV{κ:Type}:List (κ×V)->List (κ×Ue)->Prop:=Paired λ(p:κ×V) (q:κ×Ue)=>p.1=q.1/\RelV p.2 q.2
def kV:Key->V
 |.inl i=>.int i
 |.inr x=>.str x
inductive HO where
  |lst (xs:List V)
  |tup (xs:List V)
  |dK (kvs:List (Key×V))|dT (kvs:List (List Key×V))
  |set (S:Int->Bool) (n:Nat)
  |ins (C dx:Uh) (fs:List (Str×V))
  |own (x:Uh)
  |xd (fs:List (Str×V))
  |met (f x:Uh)
  |rng (lo hi:Int)
  |frz (o:Obj) (u:HO)
  |tbl (ps:Array Ue)
  |ext (φ:Heap->Prop)
abbrev Hp:=Uh->Option HO
def upd(H:Hp)(a:Uh)(o:HO):Hp:=λb=>if b=a then ju o else H b
theorem KP{H:Hp}{a:Uh}{o:HO}:upd H a o a=ju o:=by unfold upd;rw[Qo jv]
theorem Kn{H:Hp}{a b:Uh}{o:HO}(h:b≠a):upd H a o b=H b:=by unfold upd;rw[QC h]
theorem E4{H:Hp}{a:Uh}{o u:HO}:upd (upd H a o) a u=upd H a u:=by funext b;unfold upd;split<;>rfl
theorem YI{H:Hp}{a b:Uh}{o:HO}(h:H a=ju o)(h':H b=jw):a≠b:=by intro e;subst e;rw[h]at h';cases h'
section
variable(P:Ug)(w:World)
def Zx(H:Hp)(h:Heap)(a:Uh):HO->Prop
 |.lst xs=>xs.length<=Uk/\∃(its:jB)(n:Nat),Vals xs its/\h.get? a=ju {cls:=.type "list", data:=.seq its.toArray n}
 |.tup xs=>xs.length<=Uk/\∃its:jB,Vals xs its/\IsTup h a its.toArray
 |.dK kvs=>kvs.length<=Uk/\(a==sysModules)=jy/\∃vs,KV kvs vs/\h.DictOf (N6 P w) a vs
 |.dT kvs=>kvs.length<=Uk/\(a==sysModules)=jy/\∃xs:List (List Key×Uh×Ue),
   Paired (λ(p:List Key×V) (q:List Key×Uh×Ue)=>p.1=q.1/\H q.2.1=ju (.tup (p.1.map kV))/\RelV p.2 q.2.2) kvs xs /\
   ∃o es ep,h.get? a=ju o/\o.ExactDict/\o.data=.dict es ep/\es.toList=xs.map (entryOfKey (tupleKind (N6 P w)))/\(xs.map (·.1)).Nodup
 |.set S n=>h.SetOf (intKind P w) a S n
 |.ins C dx fs=>H dx=ju (.own a)/\fs.length<=1000/\dx≠a/\h.get? a=ju (PySem.W.instObj C dx) /\
   ∃mA,h.Ns1 dx mA/\(∀f,Ta (fs.lookup f) (mA f))/\PySem.Within mA (fs.map (·.1))
 |.own _=>∃o,h.get? a=ju o
 |.xd fs=>∃mA,h.Ns1 a mA/\∀f,Ta (fs.lookup f) (mA f)
 |.rng lo hi=>∃t u v,h.get? a=ju {cls:=.type "range", data:=.fields #[.int lo t,.int hi u,.int 1 v]}
 |.frz o u=>h.get? a=ju o/\Zx H h a u
 |.tbl ps=>h.get? a=ju {cls:=.none,data:=.fields ps}
 |.met f x=>h.get? a=ju (PySem.W.methodObj (.ref f) (.ref x))
 |.ext φ=>φ h/\(∃o,h.get? a=ju o)/\∀h1 h2:Heap,φ h1->(∀o,h1.get? a=ju o->h2.get? a=ju o)->φ h2
def HOk(H:Hp)(h:Heap):Prop:=∀a o,H a=ju o->Zx P w H h a o
end
section
variable{P:Ug}{w:World}{H H':Hp}{h h':Heap}{a:Uh}{o:HO}
theorem Zx.lt(x:Zx P w H h a o):a<h.objs.size:=by
 cases o with
 |lst xs=>obtain⟨_,_,_,_,e⟩:=x;exact Qj e
 |tup xs=>obtain⟨_,_,_,p⟩:=x;exact p.lt
 |dK kvs=>obtain⟨_,_,_,_,o,_,_,e,_⟩:=x;exact Qj e
 |dT kvs=>obtain⟨_,_,_,_,o,_,_,e,_⟩:=x;exact Qj e
 |set S n=>obtain⟨o,_,_,_,e,_⟩:=x;exact Qj e
 |ins C dx fs=>obtain⟨_,_,_,e,_⟩:=x;exact Qj e
 |own y=>obtain⟨_,e⟩:=x;exact Qj e
 |xd fs=>obtain⟨_,⟨_,_,_,e,_⟩,_⟩:=x;exact Qj e
 |rng lo hi=>obtain⟨_,_,_,e⟩:=x;exact Qj e
 |frz ob u=>obtain⟨e,_⟩:=x;exact Qj e
 |tbl ps=>exact Qj (show h.get? a=ju _ from x)
 |met f y=>exact Qj (show h.get? a=ju _ from x)
 |ext φ=>obtain⟨_,⟨_,e⟩,_⟩:=x;exact Qj e
theorem Paired.mapP{α β:Type}{F G:α->β->Prop}:∀{l₁:List α}{l₂:List β},Paired F l₁ l₂->(∀a b,F a b->G a b)->Paired G l₁ l₂
 |_,_,.nil,_=>.nil
 |_,_,.cons r t,f=>.cons (f _ _ r) (Paired.mapP t f)
theorem Zx.stay(x:Zx P w H h a o)(k:∀b u,(b=a∨H b=ju (.own a))->h.get? b=ju u->h'.get? b=ju u)
  (ho:∀b,H b=ju (.own a)->H' b=ju (.own a)) (ht:∀b xs,H b=ju (.tup xs)->H' b=ju (.tup xs)):Zx P w H' h' a o:=by
 induction o with
 |lst xs=>obtain⟨z,its,n,r,e⟩:=x;exact⟨z,its,n,r,k _ _ (.inl jv) e⟩
 |tup xs=>obtain⟨z,its,r,ob,e,c⟩:=x;exact⟨z,its,r,ob,k _ _ (.inl jv) e,c⟩
 |dK kvs=>obtain⟨z,y,vs,r,ob,es,ep,e,c⟩:=x;exact⟨z,y,vs,r,ob,es,ep,k _ _ (.inl jv) e,c⟩
 |dT kvs=>obtain⟨z,y,xs,r,ob,es,ep,e,c⟩:=x;exact⟨z,y,xs,Paired.mapP r λp q z=>⟨z.1,ht _ _ z.2.1,z.2.2⟩,ob,es,ep,k _ _ (.inl jv) e,c⟩
 |set S n=>obtain⟨ob,es,ep,t,e,c⟩:=x;exact⟨ob,es,ep,t,k _ _ (.inl jv) e,c⟩
 |ins C dx fs=>obtain⟨d,z,ne,e,mA,⟨od,es,ep,e2,c⟩,r⟩:=x;exact⟨ho _ d,z,ne,k _ _ (.inl jv) e,mA,⟨od,es,ep,k _ _ (.inr d) e2,c⟩,r⟩
 |own y=>obtain⟨ob,e⟩:=x;exact⟨ob,k _ _ (.inl jv) e⟩
 |xd fs=>obtain⟨mA,⟨od,es,ep,e,c⟩,r⟩:=x;exact⟨mA,⟨od,es,ep,k _ _ (.inl jv) e,c⟩,r⟩
 |rng lo hi=>obtain⟨t,u,v,e⟩:=x;exact⟨t,u,v,k _ _ (.inl jv) e⟩
 |frz ob u ih=>obtain⟨e,q⟩:=x;exact⟨k _ _ (.inl jv) e,ih q⟩
 |tbl ps=>have e:h.get? a=ju {cls:=.none,data:=.fields ps}:=x;show h'.get? a=ju {cls:=.none,data:=.fields ps};exact k a _ (.inl jv) e
 |met f y=>have e:h.get? a=ju (PySem.W.methodObj (.ref f) (.ref y)):=x;show h'.get? a=ju (PySem.W.methodObj (.ref f) (.ref y));exact k a _ (.inl jv) e
 |ext φ=>obtain⟨p,⟨o,e⟩,st⟩:=x;exact⟨st _ _ p λo q=>k _ _ (.inl jv) q,⟨o,k _ _ (.inl jv) e⟩,st⟩
theorem HOk.lt(x:HOk P w H h)(e:H a=ju o):a<h.objs.size:=(x a o e).lt
theorem HOk.fresh(x:HOk P w H h)(e:h.objs.size<=a):H a=jw:=by
 cases q:H a with
 |none=>rfl
 |some u=>exact absurd (QE (x.lt q) e) (Jg _)
theorem HOk.kept(x:HOk P w H h)(k:∀b u,h.get? b=ju u->h'.get? b=ju u):HOk P w H h':=λa o e=>
 (x a o e).stay (λb u _ q=>k b u q) (λ_ q=>q) λ_ _ q=>q
theorem HOk.laid(x:HOk P w H h)(k:∀b u,h.get? b=ju u->h'.get? b=ju u)(hp:h.objs.size<=a)(new:Zx P w (upd H a o) h' a o):HOk P w (upd H a o) h':=λb u e=>by
 have hn:=x.fresh hp;by_cases hb:b=a
 .subst hb;rw[KP]at e;cases e;exact new
 .rw[Kn hb]at e
  exact(x b u e).stay (λc v _ q=>k c v q) (λc q=>by rw[Kn (YI q hn)];exact q) λc xs q=>by rw[Kn (YI q hn)];exact q
end
def Rd(H:Hp)(a:Uh)(u:HO):Prop:=H a=ju u ∨ ∃o,H a=ju (.frz o u)
theorem Rd.ok{P:Ug}{w:World}{H:Hp}{h:Heap}{a:Uh}{u:HO}(r:Rd H a u)(x:HOk P w H h):Zx P w H h a u:=by
 rcases r with r|⟨o,r⟩
 .exact x a u r
 .obtain⟨_,q⟩:=x a _ r
  exact q
def Mut:Option HO->Prop
 |some (.lst _)=>True
 |some (.dK _)=>True
 |some (.dT _)=>True
 |some (.set _ _)=>True
 |some (.ins _ _ _)=>True
 |some (.ext _)=>True
 |_=>False
section
variable{P:Ug}{w:World}{H:Hp}{h h':Heap}{x e:Uh}{o':HO}
theorem HOk.write(ok:HOk P w H h)(mu:Mut (H x))(he:e=x∨H e=ju (.own x))(k:∀b u,b≠e->h.get? b=ju u->h'.get? b=ju u)(xJ:∃u,h'.get? e=ju u)
  (new:Zx P w (upd H x o') h' x o'):HOk P w (upd H x o') h':=λb u q=>by
 have nown:∀c y,H c=ju (.own y)->c≠x:=λc y r z=>by subst z;rw[r]at mu;exact mu
 have ntup:∀c xs,H c=ju (.tup xs)->c≠x:=λc xs r z=>by subst z;rw[r]at mu;exact mu
 by_cases hb:b=x
 .subst hb;rw[KP]at q;cases q;exact new
 .rw[Kn hb]at q
  by_cases j9:b=e
  .have q':H b=ju (.own x):=by
    rcases he with z|z
    .exact absurd (j9.trans z) hb
    .rw[j9];exact z
   rw[q]at q';cases q';obtain⟨v,hv⟩:=xJ;exact⟨v,by rw[j9];exact hv⟩
  .refine(ok b u q).stay (λc v hc r=>k c v ?_ r) (λc r=>by rw[Kn (nown c b r)];exact r) λc xs r=>by rw[Kn (ntup c xs r)];exact r
   rcases hc with rfl|hc
   .exact j9
   .rintro rfl
    rcases he with z|z
    .exact nown c b hc z
    .rw[hc]at z;cases z;exact hb jv
end
structure Un(fs ex:jH)(H H':Hp)(h h':Heap):Prop where
 keep:∀b o,h.get? b=ju o->H b=jw->b∉fs->b∉ex->h'.get? b=ju o
 slot:∀b o,h.get? b=ju o->H b=jw->b∈fs->b∉ex->∃sl,h'.get? b=ju {o with slots:=sl}
 free:∀b o,h.get? b=ju o->H b=jw->b∉ex->H' b=jw
 there:∀b o,h.get? b=ju o->b∉ex->∃o',h'.get? b=ju o'
 tups:∀b xs,H b=ju (.tup xs)->H' b=ju (.tup xs)
 frzs:∀b o u,H b=ju (.frz o u)->H' b=ju (.frz o u)
 tbls:∀b ps,H b=ju (.tbl ps)->∃more,H' b=ju (.tbl (ps++more))
section
variable{fs fs' ex ex':jH}{H H1 H2:Hp}{h h1 h2 h':Heap}{a x e:Uh}{o:HO}
theorem Un.any(u:Un fs ex H H1 h h1){b:Uh}{ob:Obj}(q:h.get? b=ju ob)(n:H b=jw)(hx:b∉ex):∃sl,h1.get? b=ju {ob with slots:=sl}:=by
 by_cases hb:b∈fs
 .exact u.slot b ob q n hb hx
 .exact⟨ob.slots,u.keep b ob q n hb hx⟩
theorem Un.kept(k:∀b u,h.get? b=ju u->h'.get? b=ju u):Un fs ex H H h h':=
 ⟨λb ob q _ _ _=>k b ob q,λb ob q _ _ _=>⟨ob.slots,k b ob q⟩,λ_ _ _ n _=>n,λb ob q _=>⟨ob,k b ob q⟩,λ_ _ q=>q,λ_ _ _ q=>q,λ_ ps q=>⟨#[],by rw[q];simp⟩⟩
theorem Un.refl:Un fs ex H H h h:=Un.kept λ_ _ q=>q
theorem Un.laid(k:∀b u,h.get? b=ju u->h'.get? b=ju u)(hp:h.objs.size<=a)(hn:H a=jw):Un fs ex H (upd H a o) h h' where
 keep:=λb u q _ _ _=>k b u q
 slot:=λb u q _ _ _=>⟨u.slots,k b u q⟩
 free:=λb u q n _=>by rw[Kn (QH (QE (Qj q) hp))];exact n
 there:=λb u q _=>⟨u,k b u q⟩
 tups:=λb xs q=>by rw[Kn (YI q hn)];exact q
 frzs:=λb u xs q=>by rw[Kn (YI q hn)];exact q
 tbls:=λb ps q=>⟨#[],by rw[Kn (YI q hn),q];simp⟩
theorem Un.write(mu:Mut (H x))(he:e=x∨H e=ju (.own x))(k:∀b u,b≠e->h.get? b=ju u->h'.get? b=ju u)(xJ:∃u,h'.get? e=ju u):Un fs ex H (upd H x o) h h':=by
 have hx:∀b,H b=jw->b≠x:=λb n z=>by subst z;rw[n]at mu;exact mu
 have hb:∀b,H b=jw->b≠e:=λb n z=>by
  subst z;rcases he with r|r
  .exact hx b n r
  .rw[n]at r;cases r
 have hm:∀b u,H b=ju u->¬Mut (ju u)->b≠x:=λb u q nm z=>by subst z;rw[q]at mu;exact nm mu
 refine⟨λb u q n _ _=>k b u (hb b n) q,λb u q n _ _=>⟨u.slots,k b u (hb b n) q⟩,λb u q n _=>by rw[Kn (hx b n)];exact n,λb u q _=>?_,
  λb xs q=>by rw[Kn (hm b _ q λz=>z)];exact q,λb u xs q=>by rw[Kn (hm b _ q λz=>z)];exact q,λb ps q=>⟨#[],by rw[Kn (hm b _ q λz=>z),q];simp⟩⟩
 by_cases j9:b=e
 .subst j9;exact xJ
 .exact⟨u,k b u j9 q⟩
end
def trk(h:Heap)(H:Hp):jH:=(Up h.objs.size).filter λa=>(H a).isSome
def ZT(h:Heap)(H:Hp):Heap:=PySem.W.hideAll h (trk h H)
theorem AO(h:Heap)(H:Hp):(ZT h H).objs.size=h.objs.size:=PySem.W.hideAll_size _ _
theorem CD{h:Heap}{H:Hp}{b:Uh}{o:Obj}(e:h.get? b=ju o)(n:H b=jw):(ZT h H).get? b=ju o:=
 PySem.W.hideAll_get _ e λhm=>by have q:(H b).isSome=jx:=(Uc.mp hm).2;rw[n]at q;simp at q
theorem E3{h:Heap}{H:Hp}{b:Uh}{o:Obj}(e:(ZT h H).get? b=ju o):h.get? b=ju o/\H b=jw:=by
 have e':h.get? b=ju o:=PySem.W.of_hideAll (trk h H) e;refine⟨e',?_⟩;cases q:H b with
 |none=>rfl
 |some x=>have hm:b∈trk h H:=List.mem_filter.mpr ⟨List.mem_range.mpr (Heap.lt_size e'),by simp[q]⟩;have z:(ZT h H).get? b=jw:=PySem.W.hideAll_none (trk h H) hm;rw[z]at e;cases e
structure Mod(K:Frag)(mg:Str->jE)(base:Heap):Prop where
 kin:K.In base
 glob:base.Ns mainGlobals mg
 blt:∃mb,base.Ns builtinsNs mb/\∀x:Str,x ≠ "__name__" -> mb x=bootBuiltins x
 nolimit:base.NoLimit
structure Cx where
 prog:Ug
 w:World
 K:Frag
 mg:Str->jE
 base:Heap
 A:Around
 N:List Str
 s₀:Uf
 H₀:Hp
 env:Env
 outer:List Env
 stack:List Env
 ex:jH
 fn:Str->Bool
 calm:Bool
 pn:List (Uh×Obj)
 xe:Ue->Uf->Prop
def frs(l:List Env):jH:=l.filterMap (·.frame)
abbrev Cx.fs(X:Cx):jH:=frs X.outer
def Vis(sc:Scope)(x:Str):Prop:=sc.names.lookup x=ju .local∨sc.names.lookup x=ju .cell∨sc.names.lookup x=ju .free
def Loc(sc:Scope)(x:Str):Prop:=sc.names.lookup x=ju .local∨sc.names.lookup x=ju .cell
def Look(env:Env)(h:Heap)(m:Str->jE)(x:Str)(u:Ue):Prop:=
 (env.kindOf x=ju .local/\m x=ju u)∨((env.kindOf x=ju .cell∨env.kindOf x=ju .free)/\∃c,env.cells.lookup x=ju c/\h.IsCell c (ju u))
structure Cx.Ok(X:Cx):Prop where
 mod:Mod X.K X.mg X.base
 kind:X.env.scope.kind=.function
 glob:X.env.globals=mainGlobals
 blt:X.env.builtins=builtinsNs
 above:X.s₀.heap.objs.size<=X.env.locals
 inj:∀x y c,X.env.cells.lookup x=ju c->X.env.cells.lookup y=ju c->x=y
 has:∀x,(X.env.kindOf x=ju .cell∨X.env.kindOf x=ju .free)->∃c,X.env.cells.lookup x=ju c
 cab:∀x c,X.fn x=jx->X.env.cells.lookup x=ju c->X.s₀.heap.objs.size<=c
 hd:X.calm=jx->X.A.handled=jw
 frames:X.A.frames=ju X.stack
 stk:X.stack=X.outer∨(X.stack=X.env::X.outer/\X.env.frame=ju X.env.locals)
 exf:∀b∈X.ex,b≠X.env.locals/\∀x c,X.env.cells.lookup x=ju c->c≠b
 bs:∀b o,X.base.get? b=ju o->X.s₀.heap.get? b=ju o/\X.H₀ b=jw
 bsz:X.base.objs.size<=X.s₀.heap.objs.size
 noex:∀b o,X.base.get? b=ju o->b∉X.ex
 exfs:∀b∈X.ex,b∉X.fs
 funs:X.s₀.heap.FunFrames X.base X.outer
 frf:∀b∈X.fs,X.H₀ b=jw
structure Inv(X:Cx)(pins:List (Uh×Obj))(σ:List (Option V))(H:Hp)(s:Uf):Prop where
 ok:X.Ok
 os:s.os=X.s₀.os
 bare:AllBare s.gens
 base:Un X.fs X.ex X.H₀ H X.s₀.heap s.heap
 loc:∃m,s.heap.Ns X.env.locals m/\∀(i:Nat)(x:Str)(v:V),X.N[i]?=ju x->σ[i]?=ju (ju v)->Vis X.env.scope x->∃u,RelV v u/\Look X.env s.heap m x u
 cell:∀x c,X.env.cells.lookup x=ju c->∃v,s.heap.IsCell c v
 free:H X.env.locals=jw
 freeC:∀x c,X.env.cells.lookup x=ju c->H c=jw
 pin:∀p∈X.pn++pins,s.heap.get? p.1=ju p.2/\H p.1=jw/\p.1≠X.env.locals/\p.1∉X.fs/\∀v,p.2.data≠.cell v
 hok:HOk X.prog X.w H s.heap
 len:σ.length=X.N.length
section
variable{X:Cx}{pins:List (Uh×Obj)}{σ:List (Option V)}{H H':Hp}{s:Uf}{h':Heap}
theorem Cx.Ok.nofr(ok:X.Ok){b:Uh}{o:Obj}(e:X.base.get? b=ju o):b∉X.fs:=λhb=>by have:=(ok.funs.mem hb).1;rw[e]at this;cases this
theorem Inv.bs(I:Inv X pins σ H s):∀b o,X.base.get? b=ju o->s.heap.get? b=ju o/\H b=jw:=λb o e=>
 ⟨I.base.keep b o (I.ok.bs b o e).1 (I.ok.bs b o e).2 (I.ok.nofr e) (I.ok.noex b o e),I.base.free b o (I.ok.bs b o e).1 (I.ok.bs b o e).2 (I.ok.noex b o e)⟩
theorem Inv.bk(I:Inv X pins σ H s):∀b o,X.base.get? b=ju o->s.heap.get? b=ju o:=λb o e=>(I.bs b o e).1
theorem Inv.mod(I:Inv X pins σ H s):Mod X.K X.mg X.base:=I.ok.mod
theorem Inv.kIn(I:Inv X pins σ H s):X.K.In s.heap:=I.ok.mod.kin.keeps I.bk
theorem Inv.fr(I:Inv X pins σ H s):∃m,Fr X.base X.env.locals s.heap m:=
 let ⟨m,hn,_⟩:=I.loc
 ⟨m,hn,I.bk,QP I.ok.bsz I.ok.above⟩
theorem Inv.lt(I:Inv X pins σ H s):X.env.locals<s.heap.objs.size:=let ⟨_,hn,_⟩:=I.loc;hn.lt
theorem Inv.sz(I:Inv X pins σ H s):X.s₀.heap.objs.size<=s.heap.objs.size:=QP I.ok.above (Nat.le_of_lt I.lt)
theorem Inv.nofs(I:Inv X pins σ H s){a:Uh}(h:s.heap.objs.size<=a):a∉X.fs:=λhb=>by obtain⟨_,o,ho,_⟩:=I.ok.funs.mem hb;exact absurd (QE (Qj ho) (QP I.sz h)) (Jg _)
theorem Inv.cne(I:Inv X pins σ H s):∀x c,X.env.cells.lookup x=ju c->c≠X.env.locals:=λx c e z=>by obtain⟨v,o,ho,hd⟩:=I.cell x c e;obtain⟨m,⟨o',es,ep,ho',hd',_⟩,_⟩:=I.loc;rw[z,ho']at ho;cases ho;rw[hd']at hd;cases hd
theorem Inv.funs(I:Inv X pins σ H s):s.heap.FunFrames X.base X.outer:=by
 have all:∀(l:List Env),(∀b∈frs l,b∈X.fs)->X.s₀.heap.FunFrames X.base l->s.heap.FunFrames X.base l:=by
  intro l;induction l with
  |nil=>intro _ _;trivial
  |cons env r ih=>
   intro hs hl;obtain⟨hk,⟨L,o,hf,hn,ho,hd⟩,hr⟩:=hl;have hL:L∈X.fs:=hs L (by unfold frs;rw[List.filterMap_cons,hf];exact Qt);obtain⟨sl,e⟩:=I.base.slot L o ho (I.ok.frf L hL) hL λz=>I.ok.exfs L z hL
   exact⟨hk,⟨L,_,hf,hn,e,hd⟩,ih (λb hb=>hs b (by unfold frs;rw[List.filterMap_cons,hf];exact QD _ hb)) hr⟩
 exact all X.outer (λ_ hb=>hb) I.ok.funs
theorem Inv.stack(I:Inv X pins σ H s):s.heap.FunFrames X.base X.stack:=by
 rcases I.ok.stk with e|⟨e,hf⟩
 .rw[e];exact I.funs
 .rw[e]
  obtain⟨m,hn,_⟩:=I.loc;refine .cons (by rw[I.ok.kind];decide) hf hn ?_ I.funs;exact Heap.get?_none_of_le (QP I.ok.bsz I.ok.above)
theorem Inv.stkSub(I:Inv X pins σ H s):∀b∈frs X.stack,b∈X.env.locals::X.fs:=λb hb=>by
 rcases I.ok.stk with e|⟨e,hf⟩
 .rw[e]at hb;exact QD _ hb
 .rw[e]at hb
  unfold frs at hb;rw[List.filterMap_cons,hf]at hb;exact hb
theorem Inv.stkFree(I:Inv X pins σ H s):∀b∈frs X.stack,H b=jw:=λb hb=>by
 rcases Ql.mp (I.stkSub b hb)with e|hb
 .rw[e];exact I.free
 .obtain⟨_,o,ho,_⟩:=I.ok.funs.mem hb
  exact I.base.free b o ho (I.ok.frf b hb) λz=>I.ok.exfs b z hb
theorem Inv.step{g':Array GenState}{t':Nat}{d':Drawn}{ch:jH}(I:Inv X pins σ H s)
  (hch:∀b∈ch,(b∈X.ex∨X.s₀.heap.objs.size<=b)/\b≠X.env.locals/\(∀x c,X.env.cells.lookup x=ju c->c≠b)/\∀p∈X.pn++pins,p.1≠b)
  (keep:∀b o,b≠X.env.locals->b∉X.fs->b∉ch->s.heap.get? b=ju o->H b=jw->h'.get? b=ju o)
  (slot:∀b o,b≠X.env.locals->b∈X.fs->b∉ch->s.heap.get? b=ju o->H b=jw->∃sl,h'.get? b=ju {o with slots:=sl}) (free:∀b o,b∉ch->s.heap.get? b=ju o->H b=jw->H' b=jw)
  (there:∀b o,b∉ch->s.heap.get? b=ju o->∃o',h'.get? b=ju o')
  (tups:∀b xs,H b=ju (.tup xs)->H' b=ju (.tup xs)) (frzs:∀b o u,H b=ju (.frz o u)->H' b=ju (.frz o u)) (tbls:∀b ps,H b=ju (.tbl ps)->∃more,H' b=ju (.tbl (ps++more)))
  (ns:∀m,s.heap.Ns X.env.locals m->h'.Ns X.env.locals m) (hok:HOk X.prog X.w H' h') (hg:AllBare g') :
  Inv X pins σ H' {s with heap:=h',gens:=g',drawn:=d',toks:=t'}:=by
 have neL:∀b o,X.s₀.heap.get? b=ju o->b≠X.env.locals:=λb o e=>QH (QE (Qj e) I.ok.above)
 have neC:∀b o,X.s₀.heap.get? b=ju o->b∉X.ex->b∉ch:=λb o e hx hb=>by
  rcases(hch b hb).1 with z|z
  .exact hx z
  .exact absurd (QE (Qj e) z) (Jg _)
 have cellK:∀x c,X.env.cells.lookup x=ju c->∀v,s.heap.IsCell c v->h'.IsCell c v:=λx c e v ⟨o,ho,hd⟩=>by
  have nch:c∉ch:=λz=>(hch c z).2.2.1 x c e jv
  by_cases hc:c∈X.fs
  .obtain⟨sl,q⟩:=slot c o (I.cne x c e) hc nch ho (I.freeC x c e)
   exact⟨_,q,hd⟩
  .exact⟨o,keep c o (I.cne x c e) hc nch ho (I.freeC x c e),hd⟩
 refine⟨I.ok,I.os,hg,⟨λb o e n hb hx=>?_,λb o e n hb hx=>?_,λb o e n hx=>?_,λb o e hx=>?_,λb xs e=>tups b xs (I.base.tups b xs e),λb o xs e=>frzs b o xs (I.base.frzs b o xs e),λb ps e=>?_⟩,?_,λx c e=>?_,?_,λx c e=>?_,λp hp=>?_,hok,I.len⟩
 .exact keep b o (neL b o e) hb (neC b o e hx) (I.base.keep b o e n hb hx) (I.base.free b o e n hx)
 .obtain⟨sl,e1⟩:=I.base.slot b o e n hb hx
  obtain⟨km,e2⟩:=slot b _ (neL b o e) hb (neC b o e hx) e1 (I.base.free b o e n hx);exact⟨km,e2⟩
 .obtain⟨o',e1⟩:=I.base.there b o e hx
  exact free b o' (neC b o e hx) e1 (I.base.free b o e n hx)
 .obtain⟨o',e1⟩:=I.base.there b o e hx
  exact there b o' (neC b o e hx) e1
 .obtain⟨m1,e1⟩:=I.base.tbls b ps e
  obtain⟨m2,e2⟩:=tbls b _ e1;exact⟨m1++m2,by rw[e2,Array.append_assoc]⟩
 .obtain⟨m,hn,hl⟩:=I.loc
  refine⟨m,ns m hn,λi x v e1 e2 e3=>?_⟩;obtain⟨u,r,l⟩:=hl i x v e1 e2 e3;refine⟨u,r,?_⟩;rcases l with l|⟨k,c,e,z⟩
  .exact .inl l
  .exact .inr ⟨k,c,e,cellK x c e _ z⟩
 .obtain⟨v,z⟩:=I.cell x c e
  exact⟨v,cellK x c e v z⟩
 .obtain⟨m,⟨o,_,_,ho,_⟩,_⟩:=I.loc
  exact free _ o (λz=>(hch _ z).2.1 jv) ho I.free
 .obtain⟨v,o,ho,hd⟩:=I.cell x c e
  exact free c o (λz=>(hch c z).2.2.1 x c e jv) ho (I.freeC x c e)
 .obtain⟨e,n,ne,nf,d⟩:=I.pin p hp
  have nch:p.1∉ch:=λz=>(hch p.1 z).2.2.2 p hp jv
  exact⟨keep p.1 p.2 ne nf nch e n,free p.1 p.2 nch e n,ne,nf,d⟩
theorem Inv.un{t':Nat}(I:Inv X pins σ H s)(u:Un X.fs [] H H' s.heap h')(hok:HOk X.prog X.w H' h'):Inv X pins σ H' {s with heap:=h',toks:=t'}:=by obtain⟨m,⟨o,es,ep,ho,r⟩,_⟩:=id I.loc;obtain⟨sl,hL⟩:=u.any ho I.free (by simp);exact I.step (g':=s.gens) (d':=s.drawn) (ch:=[]) (λ_ z=>nomatch z) (λb o _ hb _ e n=>u.keep b o e n hb (by simp)) (λb o _ hb _ e n=>u.slot b o e n hb (by simp)) (λb o _ e n=>u.free b o e n (by simp)) (λb o _ e=>u.there b o e (by simp)) u.tups u.frzs u.tbls (λm' hm=>by obtain⟨o',es',ep',ho',r'⟩:=hm;rw[ho]at ho';cases ho';exact⟨_,es',ep',hL,r'⟩) hok I.bare
theorem Inv.call{g':Array GenState}{t':Nat}{d':Drawn}{ch:jH}(I:Inv X pins σ H s)(u:Un (frs X.stack) ch H H' s.heap h')(hok:HOk X.prog X.w H' h')(hg:AllBare g')
  (hch:∀b∈ch,(b∈X.ex∨X.s₀.heap.objs.size<=b)/\b≠X.env.locals/\(∀x c,X.env.cells.lookup x=ju c->c≠b)/\∀p∈X.pn++pins,p.1≠b) :
  Inv X pins σ H' {s with heap:=h',gens:=g',drawn:=d',toks:=t'}:=by
 obtain⟨m,⟨o,es,ep,ho,r⟩,_⟩:=id I.loc;obtain⟨sl,hL⟩:=u.any ho I.free λz=>(hch _ z).2.1 jv
 exact I.step (ch:=ch) hch (λb o hL hb hc e n=>u.keep b o e n (λz=>(Ql.mp (I.stkSub b z)).elim hL hb) hc) (λb o _ _ hc e n=>u.any e n hc) (λb o hc e n=>u.free b o e n hc) (λb o hc e=>u.there b o e hc) u.tups u.frzs u.tbls (λm' hm=>by obtain⟨o',es',ep',ho',r'⟩:=hm;rw[ho]at ho';cases ho';exact⟨_,es',ep',hL,r'⟩) hok hg
theorem Inv.turned{t':Nat}{it:Uh}(I:Inv X pins σ H s)(k:∀b o,b≠it->s.heap.get? b=ju o->h'.get? b=ju o)(hn:H it=jw)(hL:it≠X.env.locals)
  (h1:it∈X.ex∨X.s₀.heap.objs.size<=it) (h2:∀x c,X.env.cells.lookup x=ju c->c≠it) (h3:∀p∈X.pn++pins,p.1≠it):Inv X pins σ H {s with heap:=h',toks:=t'}:=by
 have nit:∀b u,H b=ju u->b≠it:=λb u e z=>by rw[z,hn]at e;cases e
 refine I.step (g':=s.gens) (d':=s.drawn) (ch:=[it]) (λb hb=>?_) (λb o _ _ hc e _=>k b o (λz=>hc (by simp[z])) e) (λb o _ _ hc e _=>⟨o.slots,k b o (λz=>hc (by simp[z])) e⟩) (λ_ _ _ _ n=>n)
  (λb o hc e=>⟨o,k b o (λz=>hc (by simp[z])) e⟩) (λ_ _ e=>e) (λ_ _ _ e=>e) (λb ps e=>⟨#[],by rw[e];simp⟩) (λm hm=>?_) (λb u e=>?_) I.bare
 .have e:b=it:=by simpa using hb
  subst e;exact⟨h1,hL,h2,h3⟩
 .obtain⟨o,es,ep,ho,r⟩:=hm
  exact⟨o,es,ep,k _ o (Ne.symm hL) ho,r⟩
 .refine(I.hok b u e).stay (λc v hc q=>k c v ?_ q) (λ_ q=>q) λ_ _ q=>q
  rcases hc with z|z
  .rw[z];exact nit b u e
  .exact nit c _ z
theorem Inv.tok(I:Inv X pins σ H s)(t:Nat):Inv X pins σ H {s with toks:=t}:=I.un (h':=s.heap) (t':=t) Un.refl I.hok
theorem Inv.kept{t':Nat}(I:Inv X pins σ H s)(k:∀b u,s.heap.get? b=ju u->h'.get? b=ju u):Inv X pins σ H {s with heap:=h',toks:=t'}:=I.un (Un.kept k) (I.hok.kept k)
theorem Inv.laid{a:Uh}{o:HO}{t':Nat}(I:Inv X pins σ H s)(k:∀b u,s.heap.get? b=ju u->h'.get? b=ju u)(hp:s.heap.objs.size<=a)(new:Zx X.prog X.w (upd H a o) h' a o) :
  Inv X pins σ (upd H a o) {s with heap:=h',toks:=t'}:=I.un (Un.laid k hp (I.hok.fresh hp)) (I.hok.laid k hp new)
theorem Inv.write{x e:Uh}{o:HO}{t':Nat}(I:Inv X pins σ H s)(mu:Mut (H x))(he:e=x∨H e=ju (.own x))(k:∀b u,b≠e->s.heap.get? b=ju u->h'.get? b=ju u)(xJ:∃u,h'.get? e=ju u)
  (new:Zx X.prog X.w (upd H x o) h' x o):Inv X pins σ (upd H x o) {s with heap:=h',toks:=t'}:=I.un (Un.write mu he k xJ) (I.hok.write mu he k xJ new)
theorem Inv.pins_of{pins':List (Uh×Obj)}(I:Inv X pins σ H s)(h:∀p∈pins',s.heap.get? p.1=ju p.2/\H p.1=jw/\p.1≠X.env.locals/\p.1∉X.fs/\∀v,p.2.data≠.cell v):Inv X pins' σ H s:=
 ⟨I.ok,I.os,I.bare,I.base,I.loc,I.cell,I.free,I.freeC,λp hp=>(QO.mp hp).elim (λz=>I.pin p (Jo _ z)) (h p),I.hok,I.len⟩
theorem MC{N:List Str}(hN:N.Nodup){i j:Nat}{x:Str}(a:N[i]?=ju x)(b:N[j]?=ju x):i=j:=by obtain⟨h1,e1⟩:=Qh.mp a;obtain⟨h2,e2⟩:=Qh.mp b;exact(List.getElem_inj hN).mp (e1.trans e2.symm)
theorem MK{M:Model}{A:Around}{E:Ue->Uf->Prop}{i:Nat}{x:Str}{v:V}{u:Ue}{Q:Unit->Uf->Prop}(I:Inv X pins σ H s)(hN:X.N.Nodup)(hi:X.N[i]?=ju x)(hx:Loc X.env.scope x)(r:RelV v u)
  (h:∀s',Inv X pins (σ.set i (ju v)) H s'->(∃a,Heap.SameBut a s.heap s'.heap/\(a=X.env.locals∨X.env.cells.lookup x=ju a))->Q () s') (hf:X.fn x=jx∨X.env.scope.names.lookup x=ju .local:=by first|exact .inl rfl|exact .inr rfl|assumption):Ul M A (storeName X.env x u) Q E s:=by
 obtain⟨m,hn,hl⟩:=id I.loc;have hcls:(X.env.scope.kind==.class || (X.env.scope.kind==.module&&X.env.locals != X.env.globals))=jy:=by rw[I.ok.kind];rfl
 have hiσ:i<σ.length:=by rw[I.len];exact(Qh.mp hi).1
 have cne:=I.cne
 have tracked:∀{a:Uh}{h':Heap},(∃o,s.heap.get? a=ju o/\H a=jw)->Heap.SameBut a s.heap h'->HOk X.prog X.w H h':=λ{a h'} ha hs b ob e=>by
  obtain⟨_,_,hfree⟩:=ha;refine(I.hok b ob e).stay (λc w' hc q=>(hs.2 c ?_).trans q) (λ_ q=>q) λ_ _ q=>q
  rintro rfl;rcases hc with rfl|hc
  .rw[hfree]at e;cases e
  .rw[hfree]at hc;cases hc
 rcases hx with hk|hk
 .refine wpAny_storeName_local hk hn (λh' hn' hs=>?_) hcls
  obtain⟨oL,_,_,xU,_⟩:=id hn;refine h _ ⟨I.ok,I.os,I.bare,⟨λb o e n hb hx=>?_,λb o e n hb hx=>?_,I.base.free,λb o e hx=>?_,I.base.tups,I.base.frzs,I.base.tbls⟩,⟨_,hn',λj y v' e1 e2 e3=>?_⟩,λy c e=>?_,I.free,I.freeC,λp hp=>?_,tracked ⟨oL,xU,I.free⟩ hs,by simpa using I.len⟩ ⟨_,hs,.inl jv⟩
  .exact(hs.2 b (QH (QE (Qj e) I.ok.above))).trans (I.base.keep b o e n hb hx)
  .obtain⟨sl,e1⟩:=I.base.slot b o e n hb hx
   exact⟨sl,(hs.2 b (QH (QE (Qj e) I.ok.above))).trans e1⟩
  .obtain⟨o',e1⟩:=I.base.there b o e hx
   exact⟨o',(hs.2 b (QH (QE (Qj e) I.ok.above))).trans e1⟩
  .by_cases hj:j=i
   .subst hj
    rw[hi]at e1;cases e1;rw[QG hiσ]at e2;cases e2;exact⟨u,r,.inl ⟨hk,by simp⟩⟩
   .rw[Qm (Ne.symm hj)]at e2
    obtain⟨u',r',q⟩:=hl j y v' e1 e2 e3;refine⟨u',r',?_⟩;rcases q with ⟨k,e⟩|⟨k,c,e,z⟩
    .refine .inl ⟨k,?_⟩
     have:y≠x:=λe=>hj (MC hN e1 (e ▸ hi))
     simp[this,e]
    .exact .inr ⟨k,c,e,z.sameBut hs (cne y c e)⟩
  .obtain⟨w',z⟩:=I.cell y c e
   exact⟨w',z.sameBut hs (cne y c e)⟩
  .obtain⟨e,n,ne,nf,d⟩:=I.pin p hp
   exact⟨(hs.2 p.1 ne).trans e,n,ne,nf,d⟩
 .have hfn:X.fn x=jx:=by
   rcases hf with z|z
   .exact z
   .rw[z]at hk;cases hk
  obtain⟨c,hc⟩:=I.ok.has x (.inl hk);obtain⟨w',z⟩:=I.cell x c hc;refine wpAny_storeName_cell I.ok.kind hk hc z (λh' hc' hs=>?_);obtain⟨oc,hoc,hocd⟩:=id z;refine h {s with heap:=h'} ⟨I.ok,I.os,I.bare,⟨λb o e n hb hx=>?_,λb o e n hb hx=>?_,I.base.free,λb o e hx=>?_,I.base.tups,I.base.frzs,I.base.tbls⟩,⟨m,hn.sameBut hs (Ne.symm (cne x c hc)),λj y v' e1 e2 e3=>?_⟩,λy c' e=>?_,I.free,I.freeC,λp hp=>?_,tracked ⟨oc,hoc,I.freeC x c hc⟩ hs,by simpa using I.len⟩ ⟨c,hs,.inr hc⟩
  .exact(hs.2 b (QH (QE (Qj e) (I.ok.cab x c hfn hc)))).trans (I.base.keep b o e n hb hx)
  .obtain⟨sl,e1⟩:=I.base.slot b o e n hb hx
   exact⟨sl,(hs.2 b (QH (QE (Qj e) (I.ok.cab x c hfn hc)))).trans e1⟩
  .obtain⟨o',e1⟩:=I.base.there b o e hx
   exact⟨o',(hs.2 b (QH (QE (Qj e) (I.ok.cab x c hfn hc)))).trans e1⟩
  .by_cases hj:j=i
   .subst hj
    rw[hi]at e1;cases e1;rw[QG hiσ]at e2;cases e2;exact⟨u,r,.inr ⟨.inl hk,c,hc,hc'⟩⟩
   .rw[Qm (Ne.symm hj)]at e2
    obtain⟨u',r',q⟩:=hl j y v' e1 e2 e3;refine⟨u',r',?_⟩;rcases q with q|⟨k,c',e,z'⟩
    .exact .inl q
    .refine .inr ⟨k,c',e,z'.sameBut hs ?_⟩
     rintro rfl;exact hj (MC hN e1 (I.ok.inj _ _ _ e hc ▸ hi))
  .by_cases hcc:c'=c
   .subst hcc;exact⟨_,hc'⟩
   .obtain⟨w2,z2⟩:=I.cell y c' e
    exact⟨w2,z2.sameBut hs hcc⟩
  .obtain⟨e,n,ne,nf,d⟩:=I.pin p hp
   refine⟨(hs.2 p.1 ?_).trans e,n,ne,nf,d⟩;intro q;rw[q,hoc]at e;have q':oc=p.2:=Qz e;exact d w' (by rw[←q'];exact hocd)
theorem Sx{M:Model}{A:Around}{E:Ue->Uf->Prop}{i:Nat}{x:Str}{v:V}{u:Ue}{Q:Unit->Uf->Prop}(I:Inv X pins σ H s)(hN:X.N.Nodup)(hi:X.N[i]?=ju x)(hx:Loc X.env.scope x)(r:RelV v u)
  (h:∀s',Inv X pins (σ.set i (ju v)) H s'->Q () s') (hf:X.fn x=jx∨X.env.scope.names.lookup x=ju .local:=by first|exact .inl rfl|exact .inr rfl|assumption):Ul M A (storeName X.env x u) Q E s:=
 MK I hN hi hx r (λs' I' _=>h s' I') hf
theorem Inv.call'{s':Uf}{ch:jH}(I:Inv X pins σ H s)(ho:s'.os=s.os)(u:Un (frs X.stack) ch H H' s.heap s'.heap)(hok:HOk X.prog X.w H' s'.heap)(hg:AllBare s'.gens)
  (hch:∀b∈ch,(b∈X.ex∨X.s₀.heap.objs.size<=b)/\b≠X.env.locals/\(∀x c,X.env.cells.lookup x=ju c->c≠b)/\∀p∈X.pn++pins,p.1≠b):Inv X pins σ H' s':=by
 obtain⟨h',g',d',t',o'⟩:=s';have e:o'=s.os:=ho;subst e;exact I.call (g':=g') (t':=t') (d':=d') u hok hg hch
end
abbrev XK:=Ue->jI->Hp->Prop
abbrev St:=List (Option V)
abbrev VK:=V->Hp->Prop
abbrev TE:=St->Hp->VK->Prop
abbrev TT:=St->Hp->(Bool->Hp->Prop)->Prop
abbrev TA:=St->Hp->(List V->Hp->Prop)->Prop
structure Ends where
 nx:St->Hp->Prop
 rt:VK
 bk:St->Hp->Prop:=λ_ _=>False
 ct:St->Hp->Prop:=λ_ _=>False
abbrev TS:=Ends->St->Hp->Prop
def EP(X:Cx)(pins:List (Uh×Obj))(σ:St)(Q:VK)(u:Ue)(s':Uf):Prop:=∃v H',Inv X pins σ H' s'/\RelV v u/\Q v H'
def TP(X:Cx)(pins:List (Uh×Obj))(σ:St)(Q:Bool->Hp->Prop)(b:Bool)(s':Uf):Prop:=∃H',Inv X pins σ H' s'/\Q b H'
def AP(X:Cx)(pins:List (Uh×Obj))(σ:St)(Q:List V->Hp->Prop)(us:jB)(s':Uf):Prop:=∃vs H',Inv X pins σ H' s'/\Vals vs us/\Q vs H'
def SP(X:Cx)(pins:List (Uh×Obj))(D:Ends)(f:Flow)(s':Uf):Prop:=
 match f with
 |.next=>∃σ' H',Inv X pins σ' H' s'/\D.nx σ' H'
 |.brk=>∃σ' H',Inv X pins σ' H' s'/\D.bk σ' H'
 |.cont=>∃σ' H',Inv X pins σ' H' s'/\D.ct σ' H'
 |.ret u=>∃v σ' H',Inv X pins σ' H' s'/\RelV v u/\D.rt v H'
def PE(X:Cx)(e:Uj)(t:TE):Prop:=
 ∀(pins:List (Uh×Obj))(s:Uf)(σ:St)(H:Hp)(Q:VK),Inv X pins σ H s->t σ H Q->Ul (model X.prog X.w) X.A (eval e X.env) (EP X pins σ Q) X.xe s
def PT(X:Cx)(e:Uj)(t:TT):Prop:=
 ∀(pins:List (Uh×Obj))(s:Uf)(σ:St)(H:Hp)(Q:Bool->Hp->Prop),Inv X pins σ H s->t σ H Q->Ul (model X.prog X.w) X.A (isTrue e X.env (eval e X.env)) (TP X pins σ Q) X.xe s
def PW(X:Cx)(e:Uj)(t:TT):Prop:=
 ∀(whole:Sem Ue)(pins:List (Uh×Obj))(s:Uf)(σ:St)(H:Hp)(Q:Bool->Hp->Prop),Inv X pins σ H s->t σ H Q->Ul (model X.prog X.w) X.A (isTrue e X.env whole) (TP X pins σ Q) X.xe s
theorem PW.pt{X:Cx}{e:Uj}{t:TT}(h:PW X e t):PT X e t:=h _
def PA(X:Cx)(es:jF)(t:TA):Prop:=
 ∀(pos:Pos)(pins:List (Uh×Obj))(s:Uf)(σ:St)(H:Hp)(Q:List V->Hp->Prop),Inv X pins σ H s->t σ H Q->Ul (model X.prog X.w) X.A (spliced (backTo pos (Um es X.env))) (AP X pins σ Q) X.xe s
def PS(X:Cx)(st:Stmt)(t:TS):Prop:=
 ∀(pins:List (Uh×Obj))(s:Uf)(σ:St)(H:Hp)(D:Ends),Inv X pins σ H s->t D σ H->Ul (model X.prog X.w) X.A (exec st X.env) (SP X pins D) X.xe s
def PSs(X:Cx)(st:List Stmt)(t:TS):Prop:=
 ∀(pins:List (Uh×Obj))(s:Uf)(σ:St)(H:Hp)(D:Ends),Inv X pins σ H s->t D σ H->Ul (model X.prog X.w) X.A (execs st X.env) (SP X pins D) X.xe s
theorem thn{α:Type}{t:Sem α}{Q Q':α->Uf->Prop}{M:Model}{A:Around}{E:Ue->Uf->Prop}{s:Uf}(h:Ul M A t Q E s)(hQ:∀a s,Q a s->Q' a s):Ul M A t Q' E s:=Qv h hQ λ_ _ x=>x
section
variable{X:Cx}
def KT(i:Nat):TE:=λσ H Q=>∃v,σ[i]?=ju (ju v)/\Q v H
def tC(v:V):TE:=λ_ H Q=>Q v H
theorem O2{i:Nat}{x:Str}{pos:Pos}(hN:X.N[i]?=ju x)(hv:Vis X.env.scope x)(hd:(x==("__debug__" : Str))=jy:=by decide)(hcd:(x==("__classdict__" : Str))=jy:=by decide):PE X (.Name x pos) (KT i):=by
 intro pins s σ H Q I h;obtain⟨v,e,h⟩:=h;obtain⟨m,hn,hl⟩:=I.loc;obtain⟨u,r,l⟩:=hl i x v hN e hv;have fin:EP X pins σ Q u s:=⟨v,H,I,r,h⟩;rcases l with ⟨hk,hm⟩|⟨hk,c,hc,hcell⟩
 .exact wpAny_Name (wpAny_loadName_local I.ok.kind hk hn hm fin) hd
 .rcases hk with hk|hk
  .exact wpAny_Name (wpAny_loadName_cell I.ok.kind hk hc hcell fin) hd
  .exact wpAny_Name (wpAny_loadName_free I.ok.kind hk hc hcell fin hcd) hd
theorem Fk{i j pos}:PE X (.Constant (.int i) j pos) (tC (.int i)):=λ_ _ _ H _ I h=>wpAny_Constant_int ⟨.int i,H,I.tok _,⟨_,rfl⟩,h⟩
theorem Hd{b j pos}:PE X (.Constant (.bool b) j pos) (tC (.bl b)):=λ_ _ _ H _ I h=>Constant_bool ⟨.bl b,H,I,rfl,h⟩
theorem Fj{j pos}:PE X (.Constant .none j pos) (tC .non):=λ_ _ _ H _ I h=>Constant_none ⟨.non,H,I,rfl,h⟩
theorem Fi{x j pos}:PE X (.Constant (.str x) j pos) (tC (.str x)):=λ_ _ _ H _ I h=>Calls.Constant_str ⟨.str x,H,I.tok _,⟨_,rfl⟩,h⟩
def Gl(X:Cx)(x:Str):Prop:=X.env.kindOf x=ju .globalImplicit
theorem Su{E:Ue->Uf->Prop}{pins:List (Uh×Obj)}{s:Uf}{σ:St}{H:Hp}{x:Str}{u:Ue}{pos:Pos}{Q:Ue->Uf->Prop}(I:Inv X pins σ H s)(hg:Gl X x)(hm:X.mg x=ju u)(h:Q u s)
  (hd:(x==("__debug__" : Str))=jy:=by decide):Ul (model X.prog X.w) X.A (eval (.Name x pos) X.env) Q E s:=
 Calls.Name_function_global I.ok.kind hg (Calls.loadGlobal_global (by rw[I.ok.glob];exact I.mod.glob.keeps I.bk) hm h) hd
theorem WP{E:Ue->Uf->Prop}{pins:List (Uh×Obj)}{s:Uf}{σ:St}{H:Hp}{x:Str}{u:Ue}{pos:Pos}{Q:Ue->Uf->Prop}(I:Inv X pins σ H s)(hg:Gl X x)(hm:X.mg x=jw)(hv:bootBuiltins x=ju u)(h:Q u s)
  (hn:x ≠ "__name__" :=by decide) (hd:(x==("__debug__" : Str))=jy:=by decide):Ul (model X.prog X.w) X.A (eval (.Name x pos) X.env) Q E s:=by
 obtain⟨mb,h1,h2⟩:=I.mod.blt;exact Calls.Name_function_global I.ok.kind hg (Calls.loadGlobal_builtin (by rw[I.ok.glob];exact I.mod.glob.keeps I.bk) hm (by rw[I.ok.blt];exact h1.keeps I.bk) ((h2 x hn).trans hv) h) hd
theorem Pl{x:Str}{v:V}{u:Ue}{pos:Pos}(hg:Gl X x)(hm:X.mg x=ju u)(r:RelV v u)(hd:(x==("__debug__" : Str))=jy:=by decide):PE X (.Name x pos) (tC v):=
 λ_ _ _ H _ I h=>Su I hg hm ⟨v,H,I,r,h⟩ hd
theorem N5{x:Str}{v:V}{u:Ue}{pos:Pos}(hg:Gl X x)(hm:X.mg x=jw)(hv:bootBuiltins x=ju u)(r:RelV v u)(hn:x ≠ "__name__" :=by decide)(hd:(x==("__debug__" : Str))=jy:=by decide):PE X (.Name x pos) (tC v):=
 λ_ _ _ H _ I h=>WP I hg hm hv ⟨v,H,I,r,h⟩ hn hd
variable{a b:Uj}{ta tb:TE}{pos:Pos}
def PC(X:Cx)(op:CmpOp)(a b:Uj)(t:TE):Prop:=
 ∀(pins:List (Uh×Obj))(s:Uf)(σ:St)(H:Hp)(Q:VK),Inv X pins σ H s->t σ H Q ->
  Ul (model X.prog X.w) X.A (eval a X.env) (λv s₁=>Ul (model X.prog X.w) X.A (eval b X.env) (λu s₂=>Ul (model X.prog X.w) X.A (Uo op v u) (EP X pins σ Q) X.xe s₂) X.xe s₁) X.xe s
theorem MB(b:Uj){op:CmpOp}(h:op≠.In)(h2:op≠.NotIn):behindInMarks op b=jy:=by
 have e1:(op==CmpOp.In)=jy:=by cases op<;>first|rfl|exact absurd jv h
 have e2:(op==CmpOp.NotIn)=jy:=by cases op<;>first|rfl|exact absurd jv h2
 cases b<;>simp[behindInMarks,e1,e2]
def tIsN(ta:TE):TE:=λσ H Q=>ta σ H λx H1=>Q (.bl (decide (x=.non))) H1
def Hc(ta:TE):TE:=λσ H Q=>ta σ H λx H1=>Q (.bl (!decide (x=.non))) H1
theorem RelV.none_iff{x:V}{v:Ue}(r:RelV x v):(v==Value.none)=decide (x=.non):=by
 cases x with
 |non=>cases r;rfl
 |bl _=>cases r;rfl
 |int _=>obtain⟨t,rfl⟩:=r;rfl
 |str _=>obtain⟨t,rfl⟩:=r;rfl
 |byt _=>obtain⟨t,rfl⟩:=r;rfl
 |flt _=>obtain⟨t,rfl⟩:=r;rfl
 |ref _=>cases r;rfl
 |ty _=>cases r;rfl
theorem O1{j pos'}(ha:PE X a ta):PC X .Is a (.Constant .none j pos') (tIsN ta):=by intro pins s σ H Q I h;refine thn (ha pins s σ H _ I h) λv s1 ⟨x,H1,I1,r1,q1⟩=>?_;exact Constant_none (is_none_gen ⟨.bl _,H1,I1,by rw[r1.none_iff];rfl,q1⟩)
theorem N4{j pos'}(ha:PE X a ta):PC X .IsNot a (.Constant .none j pos') (Hc ta):=by intro pins s σ H Q I h;refine thn (ha pins s σ H _ I h) λv s1 ⟨x,H1,I1,r1,q1⟩=>?_;exact Constant_none (isnot_none_gen ⟨.bl _,H1,I1,by rw[r1.none_iff];rfl,q1⟩)
def tB(t:TE):TT:=λσ H Q=>t σ H λx H1=>∃c,x=.bl c/\Q c H1
theorem O0{op:CmpOp}{t:TE}(h:PC X op a b t)(h1:behindInMarks op b=jy:=by first|exact MB _ (by decide) (by decide)|rfl):PE X (.Compare a [op] [b] pos) t:=λpins s σ H Q I hw=>wpAny_Compare1 (h pins s σ H Q I hw) h1
theorem OZ{op:CmpOp}{t:TE}(h:PC X op a b t)(h1:behindInMarks op b=jy:=by first|exact MB _ (by decide) (by decide)|rfl):PT X (.Compare a [op] [b] pos) (tB t):=by intro pins s σ H Q I hw;refine wpAny_isTrue_Compare1 (thn (h pins s σ H _ I hw) λv s1 h1=>thn h1 λu s2 h2=>thn h2 λc s3 ⟨x,H1,I1,r1,q1⟩=>?_) h1;obtain⟨d,rfl,q⟩:=q1;cases r1;exact QY ⟨H1,I1,q⟩
theorem Fh{e:Uj}{t:TE}(h:PE X e t)(he:∀whole,isTrue e X.env whole=(do let v ←whole;standAt e.pos;holding [v] (truthy v)):=by intro _;rfl):PT X e (tB t):=by intro pins s σ H Q I hw;refine isTrue_plain (thn (h pins s σ H _ I hw) λv s1 ⟨x,H1,I1,r1,q1⟩=>?_) (he _);obtain⟨d,rfl,q⟩:=q1;cases r1;exact QY ⟨H1,I1,q⟩
variable{tA tB':TT}{rest:jF}
def tAnd(t u:TT):TT:=λσ H Q=>t σ H λc H1=>if c=jx then u σ H1 Q else Q jy H1
def tOr(t u:TT):TT:=λσ H Q=>t σ H λc H1=>if c=jx then Q jx H1 else u σ H1 Q
def tNot(t:TT):TT:=λσ H Q=>t σ H λc H1=>Q (!c) H1
theorem E2(ha:PT X a tA):PW X (.BoolOp .And [a] pos) tA:=by
 intro wh pins s σ H Q I h;refine isTrue_and (thn (ha pins s σ H Q I h) λc s1 e=>?_);cases c with
 |true=>exact isTrue_and_nil e
 |false=>exact e
theorem Fg(ha:PT X a tA):PW X (.BoolOp .Or [a] pos) tA:=by
 intro wh pins s σ H Q I h;refine isTrue_or (thn (ha pins s σ H Q I h) λc s1 e=>?_);cases c with
 |false=>exact isTrue_or_nil e
 |true=>exact e
theorem Ff(ha:PT X a tA)(hb:PW X (.BoolOp .And (b::rest) pos) tB'):PW X (.BoolOp .And (a::b::rest) pos) (tAnd tA tB'):=by
 intro wh pins s σ H Q I h;refine isTrue_and (thn (ha pins s σ H _ I h) λc s1 ⟨H1,I1,q1⟩=>?_);cases c with
 |true=>exact hb wh pins s1 σ H1 Q I1 q1
 |false=>exact⟨H1,I1,q1⟩
theorem Hb(ha:PT X a tA)(hb:PW X (.BoolOp .Or (b::rest) pos) tB'):PW X (.BoolOp .Or (a::b::rest) pos) (tOr tA tB'):=by
 intro wh pins s σ H Q I h;refine isTrue_or (thn (ha pins s σ H _ I h) λc s1 ⟨H1,I1,q1⟩=>?_);cases c with
 |true=>exact⟨H1,I1,q1⟩
 |false=>exact hb wh pins s1 σ H1 Q I1 q1
theorem Fe(ha:PT X a tA):PT X (.UnaryOp .Not a pos) (tNot tA):=by intro pins s σ H Q I h;exact isTrue_not (ha pins s σ H (λc H1=>Q (!c) H1) I h)
def Ha(ta tb:TE):TE:=λσ H Q=>ta σ H λx H1=>∃c,x=.bl c/\if c=jx then tb σ H1 Q else Q (.bl jy) H1
def tOrV(ta tb:TE):TE:=λσ H Q=>ta σ H λx H1=>∃c,x=.bl c/\if c=jx then Q (.bl jx) H1 else tb σ H1 Q
def L9(ta:TE):TE:=λσ H Q=>ta σ H λx H1=>∃c,x=.bl c/\Q (.bl (!c)) H1
theorem Fd{op}{t:TE}(h:PE X a t):PE X (.BoolOp op [a] pos) t:=λpins s σ H Q I hw=>BoolOp_one (h pins s σ H Q I hw)
theorem Fc(ha:PE X a ta)(hb:PE X (.BoolOp .And (b::rest) pos) tb):PE X (.BoolOp .And (a::b::rest) pos) (Ha ta tb):=by
 intro pins s σ H Q I h;refine BoolOp_and (thn (ha pins s σ H _ I h) λv s1 ⟨x,H1,I1,r1,q1⟩=>?_);obtain⟨c,rfl,q1⟩:=q1;cases r1;refine QY ?_;cases c with
 |true=>exact hb pins s1 σ H1 Q I1 q1
 |false=>exact⟨.bl jy,H1,I1,rfl,q1⟩
theorem L8(ha:PE X a ta)(hb:PE X (.BoolOp .Or (b::rest) pos) tb):PE X (.BoolOp .Or (a::b::rest) pos) (tOrV ta tb):=by
 intro pins s σ H Q I h;refine BoolOp_or (thn (ha pins s σ H _ I h) λv s1 ⟨x,H1,I1,r1,q1⟩=>?_);obtain⟨c,rfl,q1⟩:=q1;cases r1;refine QY ?_;cases c with
 |false=>exact hb pins s1 σ H1 Q I1 q1
 |true=>exact⟨.bl jx,H1,I1,rfl,q1⟩
theorem Fb(ha:PE X a ta):PE X (.UnaryOp .Not a pos) (L9 ta):=by intro pins s σ H Q I h;refine UnaryOp_ (thn (ha pins s σ H _ I h) λv s1 ⟨x,H1,I1,r1,q1⟩=>?_);obtain⟨c,rfl,q1⟩:=q1;cases r1;exact not_of (QY ⟨.bl (!c),H1,I1,rfl,q1⟩)
def tIf(t:TT)(ta tb:TE):TE:=λσ H Q=>t σ H λc H1=>if c=jx then ta σ H1 Q else tb σ H1 Q
theorem CC{c:Uj}(hc:PT X c tA)(ha:PE X a ta)(hb:PE X b tb):PE X (.IfExp c a b pos) (tIf tA ta tb):=by
 intro pins s σ H Q I h;refine wpAny_IfExp (thn (hc pins s σ H _ I h) λd s1 ⟨H1,I1,q1⟩=>?_);cases d with
 |true=>exact ha pins s1 σ H1 Q I1 q1
 |false=>exact hb pins s1 σ H1 Q I1 q1
end
def SqL(K:Frag)(H:Hp)(a:Uh)(xs:List V):Prop:=
 Rd H a (.lst xs) ∨
  ∃(o:Obj)(its:Array Ue)(n:Nat),K.lookup a=ju o/\o.cls=.type "list" /\ o.dict=jw/\o.data=.seq its n/\its.size<=Uk/\Vals xs its.toList
def SqT(K:Frag)(H:Hp)(a:Uh)(xs:List V):Prop:=
 Rd H a (.tup xs) ∨
  ∃(o:Obj)(its:Array Ue)(n:Nat),K.lookup a=ju o/\o.cls=.type "tuple" /\ o.data=.seq its n/\its.size<=Uk/\Vals xs its.toList
def absV:Ue->Option V
 |.none=>ju .non
 |.bool b=>ju (.bl b)
 |.int i _=>ju (.int i)
 |.str x _=>ju (.str x)
 |.bytes b _=>ju (.byt b)
 |.float b _=>ju (.flt b)
 |.ref a=>ju (.ref a)
 |.type n=>ju (.ty n)
 |_=>jw
theorem RelV.abs{x:V}{u:Ue}(r:RelV x u):absV u=ju x:=by
 cases x with
 |non=>cases r;rfl
 |bl _=>cases r;rfl
 |int _=>obtain⟨t,rfl⟩:=r;rfl
 |str _=>obtain⟨t,rfl⟩:=r;rfl
 |byt _=>obtain⟨t,rfl⟩:=r;rfl
 |flt _=>obtain⟨t,rfl⟩:=r;rfl
 |ref _=>cases r;rfl
 |ty _=>cases r;rfl
theorem RelV.inj{x y:V}{u:Ue}(r:RelV x u)(q:RelV y u):x=y:=Qz (r.abs.symm.trans q.abs)
theorem Vals.inj:∀{xs ys:List V}{us:jB},Vals xs us->Vals ys us->xs=ys
 |_,_,_,.nil,.nil=>rfl
 |_,_,_,.cons r t,.cons r' t'=>by rw[r.inj r',Vals.inj t t']
section
variable{X:Cx}{pins:List (Uh×Obj)}{σ:St}{H:Hp}{s:Uf}{a:Uh}{xs ys:List V}
theorem SqL.of{K:Frag}(h:H a=ju (.lst xs)):SqL K H a xs:=.inl (.inl h)
theorem SqT.of{K:Frag}(h:H a=ju (.tup xs)):SqT K H a xs:=.inl (.inl h)
theorem Inv.list(I:Inv X pins σ H s)(h:SqL X.K H a xs):∃its:jB,Vals xs its/\PlainL s.heap a its.toArray/\xs.length<=Uk:=by
 rcases h with h|⟨o,its,n,hk,hc,hd,hs,hz,r⟩
 .obtain⟨z,its,n,r,e⟩:=h.ok I.hok
  exact⟨its,r,⟨_,n,e,rfl,rfl,rfl⟩,z⟩
 .refine⟨its.toList,r,⟨o,n,I.kIn a o hk,hc,hd,by simpa using hs⟩,?_⟩
  have e:=r.length;simp only[Jt]at e;omega
theorem Inv.tuple(I:Inv X pins σ H s)(h:SqT X.K H a xs):∃its:jB,Vals xs its/\IsTup s.heap a its.toArray/\xs.length<=Uk:=by
 rcases h with h|⟨o,its,n,hk,hc,hs,hz,r⟩
 .obtain⟨z,its,r,p⟩:=h.ok I.hok
  exact⟨its,r,p,z⟩
 .refine⟨its.toList,r,⟨o,I.kIn a o hk,hc,n,by simpa using hs⟩,?_⟩
  have e:=r.length;simp only[Jt]at e;omega
theorem Inv.list_inj(I:Inv X pins σ H s)(h:SqL X.K H a xs)(h':SqL X.K H a ys):xs=ys:=by
 obtain⟨its,r,⟨o,n,e,_,_,d⟩,_⟩:=I.list h;obtain⟨its',r',⟨o',n',e',_,_,d'⟩,_⟩:=I.list h';rw[e]at e';cases e';rw[d]at d';injection d' with d1 _
 have:its=its':=by simpa using congrArg Array.toList d1
 subst this;exact r.inj r'
theorem Inv.tuple_inj(I:Inv X pins σ H s)(h:SqT X.K H a xs)(h':SqT X.K H a ys):xs=ys:=by
 obtain⟨its,r,⟨o,e,_,n,d⟩,_⟩:=I.tuple h;obtain⟨its',r',⟨o',e',_,n',d'⟩,_⟩:=I.tuple h';rw[e]at e';cases e';rw[d]at d';injection d' with d1 _
 have:its=its':=by simpa using congrArg Array.toList d1
 subst this;exact r.inj r'
end
abbrev Cx.wish(X:Cx)(E:Ue->Uf->Prop):Cx:={X with xe:=E}
abbrev Cx.nox(X:Cx):Cx:=X.wish λ_ _=>False
theorem Cx.Ok.wish{X:Cx}(ok:X.Ok)(E:Ue->Uf->Prop):(X.wish E).Ok:=
 ⟨ok.mod,ok.kind,ok.glob,ok.blt,ok.above,ok.inj,ok.has,ok.cab,ok.hd,ok.frames,ok.stk,ok.exf,ok.bs,ok.bsz,ok.noex,ok.exfs,ok.funs,ok.frf⟩
theorem Cx.Ok.unwish{X:Cx}{E:Ue->Uf->Prop}(ok:(X.wish E).Ok):X.Ok:=
 ⟨ok.mod,ok.kind,ok.glob,ok.blt,ok.above,ok.inj,ok.has,ok.cab,ok.hd,ok.frames,ok.stk,ok.exf,ok.bs,ok.bsz,ok.noex,ok.exfs,ok.funs,ok.frf⟩
section
variable{X:Cx}{pins:List (Uh×Obj)}{σ:St}{H:Hp}{s:Uf}{E:Ue->Uf->Prop}
theorem Inv.wish(I:Inv X pins σ H s)(E:Ue->Uf->Prop):Inv (X.wish E) pins σ H s:=⟨I.ok.wish E,I.os,I.bare,I.base,I.loc,I.cell,I.free,I.freeC,I.pin,I.hok,I.len⟩
theorem Inv.unwish(I:Inv (X.wish E) pins σ H s):Inv X pins σ H s:=⟨I.ok.unwish,I.os,I.bare,I.base,I.loc,I.cell,I.free,I.freeC,I.pin,I.hok,I.len⟩
theorem SP.unwish{D:Ends}{f:Flow}{s':Uf}(h:SP (X.wish E) pins D f s'):SP X pins D f s':=by
 cases f with
 |next=>obtain⟨σ',H',I,q⟩:=h;exact⟨σ',H',I.unwish,q⟩
 |brk=>obtain⟨σ',H',I,q⟩:=h;exact⟨σ',H',I.unwish,q⟩
 |cont=>obtain⟨σ',H',I,q⟩:=h;exact⟨σ',H',I.unwish,q⟩
 |ret u=>obtain⟨v,σ',H',I,r,q⟩:=h;exact⟨v,σ',H',I.unwish,r,q⟩
theorem PSs.nox{st:List Stmt}{t:TS}(h:PSs X.nox st t):PSs X st t:=λpins s σ H D I hw=>
 Qv (h pins s σ H D (I.wish _) hw) (λ_ _ q=>q.unwish) λ_ _ z=>False.elim z
end
section
variable{X:Cx}{st:Stmt}{rest:List Stmt}{t u:TS}{e:Uj}{te:TE}{pos:Pos}
def L7:TS:=λD σ H=>D.nx σ H
def tSeq(t u:TS):TS:=λD σ H=>t {D with nx:=u D} σ H
theorem E1:PSs X [] L7:=λ_ _ σ H _ I h=>wpAny_execs_nil ⟨σ,H,I,h⟩
theorem MA(h1:PS X st t)(h2:PSs X rest u):PSs X (st::rest) (tSeq t u):=by
 intro pins s σ H D I h;refine wpAny_execs_cons (thn (h1 pins s σ H {D with nx:=u D} I h) λf s1 q=>?_);cases f with
 |next=>obtain⟨σ',H',I',q⟩:=q;exact h2 pins s1 σ' H' D I' q
 |ret v=>exact q
 |brk=>exact q
 |cont=>exact q
theorem Pk(h1:PS X st t):PSs X [st] t:=by
 intro pins s σ H D I h;refine wpAny_execs_cons (thn (h1 pins s σ H D I h) λf s1 q=>?_);cases f with
 |next=>exact wpAny_execs_nil q
 |ret v=>exact q
 |brk=>exact q
 |cont=>exact q
theorem Inv.quiet{pins:List (Uh×Obj)}{σ:St}{H:Hp}{s:Uf}(I:Inv X pins σ H s):interactive X.env=jy:=by simp[interactive,I.ok.kind]
def Ov(te:TE):TS:=λD σ H=>te σ H λ_ H1=>D.nx σ H1
theorem Ru(he:PE X e te)(hs:swapsWith e jw pos.line X.env=pure jy:=by rfl):PS X (.Expr e pos) (Ov te):=by intro pins s σ H D I h;exact wpAny_Expr_any (thn (he pins s σ H _ I h) λv s1 ⟨x,H1,I1,r1,q1⟩=>⟨σ,H1,I1,q1⟩) I.quiet hs
def tRet(te:TE):TS:=λD σ H=>te σ H D.rt
theorem OY(he:PE X e te):PS X (.Return (ju e) pos) (tRet te):=by intro pins s σ H D I h;exact wpAny_Return_some (thn (he pins s σ H _ I h) λv s1 ⟨x,H1,I1,r1,q1⟩=>⟨x,σ,H1,I1,r1,q1⟩)
def tIfS(c:TT)(t u:TS):TS:=λD σ H=>c σ H λb H1=>if b=jx then t D σ H1 else u D σ H1
theorem L6{c:Uj}{a b:List Stmt}{tc:TT}(hc:PT X c tc)(ha:PSs X a t)(hb:PSs X b u):PS X (.If c a b pos) (tIfS tc t u):=by
 intro pins s σ H D I h;refine wpAny_If (thn (hc pins s σ H _ I h) λd s1 ⟨H1,I1,q1⟩=>?_);cases d with
 |true=>exact ha pins s1 σ H1 D I1 q1
 |false=>exact hb pins s1 σ H1 D I1 q1
end
abbrev TG:=V->St->Hp->(St->Hp->Prop)->Prop
abbrev TGs:=List V->St->Hp->(St->Hp->Prop)->Prop
def PG(X:Cx)(target:Uj)(t:TG):Prop:=
 ∀(pins:List (Uh×Obj))(s:Uf)(σ:St)(H:Hp)(v:V)(u:Ue)(Q:St->Hp->Prop),Inv X pins σ H s->RelV v u->t v σ H Q ->
  Ul (model X.prog X.w) X.A (assign target X.env u) (λ_ s'=>∃σ' H',Inv X pins σ' H' s'/\Q σ' H') X.xe s
def PGs(X:Cx)(ts:jF)(t:TGs):Prop:=
 ∀(pins:List (Uh×Obj))(s:Uf)(σ:St)(H:Hp)(vs:List V)(us:jB)(Q:St->Hp->Prop),Inv X pins σ H s->Vals vs us->t vs σ H Q ->
  Ul (model X.prog X.w) X.A (assignInOrder ((UC ts X.env).map (·.2)) us) (λ_ s'=>∃σ' H',Inv X pins σ' H' s'/\Q σ' H') X.xe s
abbrev TIp:=V->V->Hp->VK->Prop
def PIp(X:Cx)(op:Operator)(t:TIp):Prop:=
 ∀(pins:List (Uh×Obj))(s:Uf)(σ:St)(H:Hp)(x y:V)(v u:Ue)(Q:VK),Inv X pins σ H s->RelV x v->RelV y u->t x y H Q ->
  Ul (model X.prog X.w) X.A (inplaceOp op v u) (EP X pins σ Q) X.xe s
section
variable{X:Cx}{pos:Pos}
def R1(i:Nat):TG:=λv σ H Q=>Q (σ.set i (ju v)) H
theorem N3{i:Nat}{x:Str}(hN:X.N.Nodup)(hi:X.N[i]?=ju x)(hx:Loc X.env.scope x)(hf:X.fn x=jx∨X.env.scope.names.lookup x=ju .local:=by first|exact .inl rfl|exact .inr rfl|assumption):PG X (.Name x pos) (R1 i):=by intro pins s σ H v u Q I r h;exact wpAny_assign_Name (Sx I hN hi hx r (λs' I'=>⟨_,H,I',h⟩) hf)
def gNil:TGs:=λvs σ H Q=>vs=[]/\Q σ H
def L5(t:TG)(u:TGs):TGs:=λvs σ H Q=>∃v r,vs=v::r/\t v σ H λσ' H'=>u r σ' H' Q
theorem EZ:PGs X [] gNil:=by intro pins s σ H vs us Q I r h;obtain⟨e,h⟩:=h;subst e;cases r;exact assignInOrder_nil ⟨σ,H,I,h⟩
theorem CB{e:Uj}{es:jF}{t:TG}{u:TGs}(h1:PG X e t)(h2:PGs X es u)
  (hs:(UC (e::es) X.env).map (·.2)=assign e X.env::(UC es X.env).map (·.2):=by rfl):PGs X (e::es) (L5 t u):=by
 intro pins s σ H vs us Q I r h;obtain⟨v,vr,e1,h⟩:=h;subst e1;cases r with
 |cons r rr=>rw[hs];refine assignInOrder_cons (thn (h1 pins s σ H _ _ _ I r h) λ_ s1 ⟨σ1,H1,I1,q1⟩=>?_);exact h2 pins s1 σ1 H1 _ _ Q I1 rr q1
def gTup(K:Frag)(n:Nat)(t:TGs):TG:=λv σ H Q=>∃a xs,v=.ref a/\SqT K H a xs/\xs.length=n/\t xs σ H Q
theorem Fa{es:jF}{k:Nat}{t:TGs}{n:Nat}(hc:X.calm=jx)(h:PGs X es t)
  (hn:(UC es X.env).length=n:=by rfl) (hst:(UC es X.env).findIdx? (·.1)=jw:=by rfl):PG X (.Tuple es k pos) (gTup X.K n t):=by
 intro pins s σ H v u Q I r hw;obtain⟨a,xs,e1,hq,hl,hw⟩:=hw;subst e1;cases r;obtain⟨its,rv,ht,hz⟩:=I.tuple hq;refine assign_Tuple_tuple (I.ok.hd hc) ht (by simp[hn,←hl,rv.length]) hst λh' hx=>?_
 have I1:Inv X pins σ H {s with heap:=h'}:=I.kept (t':=s.toks) λb o e=>hx b o (QH (Qj e)) e;exact h pins _ σ H xs _ Q I1 (by simpa using rv) hw
def tAsg(te:TE)(g:TG):TS:=λD σ H=>te σ H λx H1=>g x σ H1 D.nx
theorem GZ{tg e:Uj}{te:TE}{g:TG}(he:PE X e te)(hg:PG X tg g)(hs:swapsWithSole [tg] e pos.line X.env=pure jy:=by rfl)(hw:swappedStores [tg] e X.env=pure jw:=by rfl)
  (h1:(UC [tg] X.env).map (·.2)=[assign tg X.env]:=by rfl):PS X (.Assign [tg] e pos) (tAsg te g):=by
 intro pins s σ H D I h;refine wpAny_Assign_stores (thn (he pins s σ H _ I h) λv s1 ⟨x,H1,I1,r1,q1⟩=>?_) hs hw;rw[h1];exact thn (hg pins s1 σ H1 x v _ I1 r1 q1) λ_ s2 q=>q
theorem OX{i:Nat}{x:Str}{e:Uj}{te:TE}{pos':Pos}(hN:X.N.Nodup)(hi:X.N[i]?=ju x)(hx:Loc X.env.scope x)(he:PE X e te)(hs:swapsWith e (ju (.Name x pos')) pos.line X.env=pure jy:=by rfl)(hf:X.fn x=jx∨X.env.scope.names.lookup x=ju .local:=by first|exact .inl rfl|exact .inr rfl|assumption) :
  PS X (.Assign [.Name x pos'] e pos) (tAsg te (R1 i)):=by
 intro pins s σ H D I h;refine wpAny_Assign_Name (thn (he pins s σ H _ I h) λv s1 ⟨y,H1,I1,r1,q1⟩=>?_) hs;exact Sx I1 hN hi hx r1 (λs2 I2=>⟨_,H1,I2,q1⟩) hf
def tAug(i:Nat)(te:TE)(ti:TIp):TS:=λD σ H=>∃x,σ[i]?=ju (ju x)/\te σ H λy H1=>ti x y H1 λz H2=>D.nx (σ.set i (ju z)) H2
theorem GY{i:Nat}{x:Str}{e:Uj}{te:TE}{op:Operator}{ti:TIp}{pos':Pos}(hN:X.N.Nodup)(hi:X.N[i]?=ju x)(hx:Loc X.env.scope x)(he:PE X e te)(ho:PIp X op ti)(hf:X.fn x=jx∨X.env.scope.names.lookup x=ju .local:=by first|exact .inl rfl|exact .inr rfl|assumption) :
  PS X (.AugAssign (.Name x pos') op e pos) (tAug i te ti):=by
 intro pins s σ H D I h;obtain⟨v,e1,h⟩:=h;obtain⟨m,hn,hl⟩:=I.loc;have vis:Vis X.env.scope x:=by rcases hx with k|k;exact .inl k;exact .inr (.inl k)
 obtain⟨u,r,l⟩:=hl i x v hi e1 vis;refine wpAny_AugAssign_Name ?_;have go:Ul (model X.prog X.w) X.A (eval e X.env) (λw s₂=>Ul (model X.prog X.w) X.A (inplaceOp op u w) (λr s₃=>Ul (model X.prog X.w) X.A (storeName X.env x r) (λ_=>SP X pins D .next) X.xe s₃) X.xe s₂) X.xe s:=by refine thn (he pins s σ H _ I h) λw s1 ⟨y,H1,I1,r1,q1⟩=>?_;refine thn (ho pins s1 σ H1 v y u w _ I1 r r1 q1) λz s2 ⟨zv,H2,I2,r2,q2⟩=>?_;exact Sx I2 hN hi hx r2 (λs3 I3=>⟨_,H2,I3,q2⟩) hf
 rcases l with ⟨hk,hm⟩|⟨hk,c,hc,hcell⟩
 .exact wpAny_loadName_local I.ok.kind hk hn hm go
 .rcases hk with hk|hk
  .exact wpAny_loadName_cell I.ok.kind hk hc hcell go
  .rcases hx with k|k
   .have:X.env.scope.names.lookup x=ju .free:=hk
    rw[k]at this;cases this
   .have:X.env.scope.names.lookup x=ju .free:=hk
    rw[k]at this;cases this
end
section
variable{X:Cx}{pos:Pos}
def GX(c:TT)(tb:TS):TS:=λD σ H=>∃W:Nat->St->Hp->Prop,(∃m,W m σ H)/\∀m σ H,W m σ H ->
 c σ H λb H1=>if b=jx then ∃N:St->Hp->Prop,(∀σ' H',N σ' H'->∃m',m'<m/\W m' σ' H')/\tb {D with nx:=N,ct:=N,bk:=D.nx} σ H1 else D.nx σ H1
theorem CA{c:Uj}{body:List Stmt}{tc:TT}{tb:TS}(hp:PassesOwn (model X.prog X.w) X.A X.env X.xe)(hc:PT X c tc)(hb:PSs X body tb):PS X (.While c body [] pos) (GX tc tb):=by
 intro pins s σ H D I h;obtain⟨W,⟨m0,w0⟩,turn⟩:=h;refine wpAny_While (codeAny_whileLoop (λn s'=>∃σ' H',Inv X pins σ' H' s'/\W n σ' H') ?_ m0 ⟨σ,H,I,w0⟩);rintro n s1 ⟨σ1,H1,I1,w1⟩;refine Jj hp (thn (hc pins s1 σ1 H1 _ I1 (turn n σ1 H1 w1)) λb s2 ⟨H2,I2,q2⟩=>?_);cases b with
 |true=>
  obtain⟨N,hN,q2⟩:=q2;rw[Qo jv];refine Jj hp (thn (hb pins s2 σ1 H2 _ I2 q2) λf s3 q3=>?_);cases f with
  |next=>obtain⟨σ3,H3,I3,n3⟩:=q3;obtain⟨m',hm,w3⟩:=hN σ3 H3 n3;exact⟨m',hm,σ3,H3,I3,w3⟩
  |cont=>obtain⟨σ3,H3,I3,n3⟩:=q3;obtain⟨m',hm,w3⟩:=hN σ3 H3 n3;exact⟨m',hm,σ3,H3,I3,w3⟩
  |brk=>exact q3
  |ret v=>exact q3
 |false=>rw[QC JI];exact wpAny_execs_nil ⟨σ1,H2,I2,q2⟩
end
structure It where
 go:Nat->Hp->Prop
 yld:Nat->Hp->V->Hp->Prop
 stop:Nat->Hp->Prop
def KY(X:Cx)(pins:List (Uh×Obj))(H:Hp)(b:Uh):Prop:=
 H b=jw/\b≠X.env.locals/\b∉X.fs/\(b∈X.ex∨X.s₀.heap.objs.size<=b)/\(∀x c,X.env.cells.lookup x=ju c->c≠b)/\∀p∈X.pn++pins,p.1≠b
theorem Inv.fpOk{X:Cx}{pins:List (Uh×Obj)}{σ:St}{H H':Hp}{s:Uf}{b:Uh}(I:Inv X pins σ H s)(hb:s.heap.objs.size<=b)(hn:H' b=jw):KY X pins H' b:=by
 refine⟨hn,Jz (QE I.lt hb),I.nofs hb,.inr (QP I.sz hb),λx c e z=>?_,λp hp z=>?_⟩
 .obtain⟨v,q⟩:=I.cell x c e
  exact absurd (QE q.lt (by rw[z];exact hb)) (Jg _)
 .exact absurd (QE (Qj (I.pin p hp).1) (by rw[z];exact hb)) (Jg _)
structure Turn(P:Ug)(w:World)(K:Frag)(tg:Uj)(J:It)(fp:jH)(it:Uh)(tn:Nat->Heap->Prop):Prop where
 mem:it∈fp
 obj:∀i h,tn i h->∀b∈fp,∃o,h.get? b=ju o/\∀v,o.data≠.cell v
 keep:∀i h h',tn i h->(∀b∈fp,∀o,h.get? b=ju o->h'.get? b=ju o)->tn i h'
 item:∀(X:Cx),X.prog=P->X.w=w->X.K=K->X.calm=jx->∀(i:Nat)(pins:List (Uh×Obj))(s:Uf)(σ:St)(H:Hp)(E:Ue->Uf->Prop),Inv X pins σ H s->(∀b∈fp,KY X pins H b)->tn i s.heap->J.go i H ->
  Ul (model P w) X.A (pyNext (.ref it)) (λr s1=>∃u,r=ju u /\
   Ul (model P w) X.A (letOwnedTupleGo tg (.ref it) u) (λ_ s2=>∃x H',Inv X pins σ H' s2/\RelV x u/\J.yld i H x H'/\tn (i+1) s2.heap/\∀b∈fp,H' b=jw) E s1) E s
 done:∀(X:Cx),X.prog=P->X.w=w->X.K=K->X.calm=jx->∀(i:Nat)(pins:List (Uh×Obj))(s:Uf)(σ:St)(H:Hp)(E:Ue->Uf->Prop),Inv X pins σ H s->(∀b∈fp,KY X pins H b)->tn i s.heap->J.stop i H ->
  Ul (model P w) X.A (pyNext (.ref it)) (λr s1=>r=jw/\Inv X pins σ H s1) E s
 self:∀(A:Around)(i:Nat)(s:Uf)(Q:Ue->Uf->Prop)(E:Ue->Uf->Prop),tn i s.heap->Q (.ref it) s->Ul (model P w) A (pyIter (.ref it)) Q E s
abbrev TI:=St->Hp->(It->Hp->Prop)->Prop
def PIE(X:Cx)(pins:List (Uh×Obj))(σ:St)(tg:Uj)(R:It->Hp->Prop)(itv:Ue)(s2:Uf):Prop:=
 ∃(it:Uh)(fp:jH)(tn:Nat->Heap->Prop)(J:It)(H':Hp),itv=.ref it/\Inv X pins σ H' s2/\Turn X.prog X.w X.K tg J fp it tn/\tn 0 s2.heap/\(∀b∈fp,KY X pins H' b)/\R J H'
def PI(X:Cx)(tg iter:Uj)(wi:TI):Prop:=
 ∀(pins:List (Uh×Obj))(s:Uf)(σ:St)(H:Hp)(R:It->Hp->Prop),Inv X pins σ H s->wi σ H R ->
  Ul (model X.prog X.w) X.A (eval iter X.env) (λv s1=>Ul (model X.prog X.w) X.A (pyIter v) (PIE X pins σ tg R) X.xe s1) X.xe s
theorem SQ{M:Model}{A:Around}{E:Ue->Uf->Prop}{s:Uf}{tg:Uj}{it:Uh}{u:Ue}{o:Obj}{n:String}{vs:Array Ue}{Q:Unit->Uf->Prop}(ho:s.heap.get? it=ju o)(hc:o.cls=.type n)(hd:o.data=.fields vs)
  (hn:["enumerate", "zip", "dict_itemiterator", "dict_reverseitemiterator", "odict_iterator", "itertools.zip_longest", "itertools.pairwise"].contains n=jy) (hQ:Q () s):Ul M A (letOwnedTupleGo tg (.ref it) u) Q E s:=by
 unfold letOwnedTupleGo
 cases tg<;>first
  |exact Qk hQ
  |(cases u<;>first
    |exact Qk hQ
    |(
      refine Qd (wpAny_load ho ?_);rw[hc,hd];show Ul M A (if(["enumerate", "zip", "dict_itemiterator", "dict_reverseitemiterator", "odict_iterator", "itertools.zip_longest", "itertools.pairwise"].contains n&&vs[0]?==ju (rawInt _))=jx then _ else _) Q E s;rw[QC (by intro h;rw[hn,Bool.false_and]at h;cases h)];exact Qk hQ))
def Itl(K:Frag)(a:Uh):It:=
 ⟨λi H=>∃xs x,SqL K H a xs/\xs[i]?=ju x,λi H x H'=>H'=H/\∀xs,SqL K H a xs->xs[i]?=ju x,λi H=>∃xs,SqL K H a xs/\xs.length<=i⟩
def Itt(K:Frag)(a:Uh):It:=
 ⟨λi H=>∃xs x,SqT K H a xs/\xs[i]?=ju x,λi H x H'=>H'=H/\∀xs,SqT K H a xs->xs[i]?=ju x,λi H=>∃xs,SqT K H a xs/\xs.length<=i⟩
def Itr(lo:Int)(n:Nat):It:=⟨λi _=>i<n,λi H x H'=>H'=H/\x=.int (lo+i),λi _=>n<=i⟩
theorem AN{P:Ug}{w:World}{K:Frag}{tg:Uj}(a it:Uh):Turn P w K tg (Itl K a) [it] it (λi h=>h.IsListIter it a i) where
 mem:=by simp
 obj:=λi h st b hb=>by
  have e:b=it:=by simpa using hb
  subst e;obtain⟨o,e,c,d⟩:=st;exact⟨o,e,λv z=>by rw[d]at z;cases z⟩
 keep:=λi h h' st k=>st.at λo e=>k it (by simp) o e
 item:=by
  intro X hP hw hK hc i pins s σ H E I hf st hg;subst hP hw hK;obtain⟨xs,x,hq,hx⟩:=hg;obtain⟨its,rv,p,hz⟩:=I.list hq;obtain⟨u,hu,ru⟩:=rv.get hx;obtain⟨f0,f1,f2,f3,f4,f5⟩:=hf it (by simp);refine wpAny_pyNext_list_item st p.isList (x:=u) (by simpa using hu) λh' st' sb=>?_
  have I1:Inv X pins σ H {s with heap:=h'}:=I.turned (t':=s.toks) (λb o hb e=>(sb.2 b hb).trans e) f0 f1 f3 f4 f5;obtain⟨o,e,c,d⟩:=id st';exact⟨u,rfl,SQ (s:={s with heap:=h'}) e c d (by decide) ⟨x,H,I1,ru,⟨rfl,λys hy=>by rw[I.list_inj hy hq];exact hx⟩,st',λb hb=>(hf b hb).1⟩⟩
 done:=by intro X hP hw hK hc i pins s σ H E I hf st hg;subst hP hw hK;obtain⟨xs,hq,hx⟩:=hg;obtain⟨its,rv,p,hz⟩:=I.list hq;obtain⟨f0,f1,f2,f3,f4,f5⟩:=hf it (by simp);have hl:=rv.length;exact wpAny_pyNext_list_end (I.ok.hd hc) st p.isList (by simp;omega) λh' eb=>⟨rfl,I.turned (t':=s.toks) (λb o hb e=>eb b o hb e) f0 f1 f3 f4 f5⟩
 self:=λ_ _ _ _ _ st h=>wpAny_pyIter_listiter st h
theorem ql{P:Ug}{w:World}{K:Frag}{tg:Uj}(a it:Uh):Turn P w K tg (Itt K a) [it] it (λi h=>h.IsTupleIter it a i) where
 mem:=by simp
 obj:=λi h st b hb=>by
  have e:b=it:=by simpa using hb
  subst e;obtain⟨o,e,c,d⟩:=st;exact⟨o,e,λv z=>by rw[d]at z;cases z⟩
 keep:=λi h h' st k=>st.at λo e=>k it (by simp) o e
 item:=by
  intro X hP hw hK hc i pins s σ H E I hf st hg;subst hP hw hK;obtain⟨xs,x,hq,hx⟩:=hg;obtain⟨its,rv,p,hz⟩:=I.tuple hq;obtain⟨u,hu,ru⟩:=rv.get hx;obtain⟨f0,f1,f2,f3,f4,f5⟩:=hf it (by simp);refine wpAny_pyNext_tuple_item st (show s.heap.IsTuple a its.toArray from p) (x:=u) (by simpa using hu) λh' st' sb=>?_
  have I1:Inv X pins σ H {s with heap:=h'}:=I.turned (t':=s.toks) (λb o hb e=>(sb.2 b hb).trans e) f0 f1 f3 f4 f5;obtain⟨o,e,c,d⟩:=id st';exact⟨u,rfl,SQ (s:={s with heap:=h'}) e c d (by decide) ⟨x,H,I1,ru,⟨rfl,λys hy=>by rw[I.tuple_inj hy hq];exact hx⟩,st',λb hb=>(hf b hb).1⟩⟩
 done:=by intro X hP hw hK hc i pins s σ H E I hf st hg;subst hP hw hK;obtain⟨xs,hq,hx⟩:=hg;obtain⟨its,rv,p,hz⟩:=I.tuple hq;obtain⟨f0,f1,f2,f3,f4,f5⟩:=hf it (by simp);have hl:=rv.length;exact wpAny_pyNext_tuple_end (I.ok.hd hc) st (show s.heap.IsTuple a its.toArray from p) (by simp;omega) λh' eb=>⟨rfl,I.turned (t':=s.toks) (λb o hb e=>eb b o hb e) f0 f1 f3 f4 f5⟩
 self:=λ_ _ _ _ _ st h=>wpAny_pyIter_tupleiter st h
theorem qk{P:Ug}{w:World}{K:Frag}{tg:Uj}(it:Uh)(lo:Int)(n:Nat):Turn P w K tg (Itr lo n) [it] it (λi h=>IsRangeIter h it (lo+(i:Nat)*1) ((n:Int)-(i:Nat)) 1) where
 mem:=by simp
 obj:=λi h st b hb=>by
  have e:b=it:=by simpa using hb
  subst e;exact⟨_,st,λv z=>by have z':Data.fields _=Data.cell v:=z;cases z'⟩
 keep:=λi h h' st k=>k it (by simp) _ st
 item:=by
  intro X hP hw hK hc i pins s σ H E I hf st hg;subst hP hw hK;obtain⟨f0,f1,f2,f3,f4,f5⟩:=hf it (by simp);have W:=Walks.range (prog:=X.prog) (w:=X.w) (I.ok.hd hc) it lo 1 n;refine W.item i s _ _ hg st λv h' tk hv st' kk=>?_
  obtain⟨t,rfl⟩:=hv;have I1:Inv X pins σ H {s with heap:=h',toks:=tk}:=I.turned (λb o hb e=>kk b o (by simpa using hb) e) f0 f1 f3 f4 f5;refine⟨_,rfl,SQ (s:={s with heap:=h',toks:=tk}) (n:= "range_iterator") st' jv jv (by decide) ⟨.int (lo+i),H,I1,⟨t,?_⟩,⟨rfl,rfl⟩,st',λb hb=>(hf b hb).1⟩⟩;rw[Int.mul_one]
 done:=by intro X hP hw hK hc i pins s σ H E I hf st hg;subst hP hw hK;obtain⟨f0,f1,f2,f3,f4,f5⟩:=hf it (by simp);exact wpAny_pyNext_range_end (I.ok.hd hc) st (by have:n<=i:=hg;omega) λh' eb=>⟨rfl,I.turned (t':=s.toks) (λb o hb e=>eb b o hb e) f0 f1 f3 f4 f5⟩
 self:=λ_ _ _ _ _ st h=>wpAny_pyIter_rangeiter st h
section
variable{X:Cx}{tg:Uj}
theorem Mz{pins:List (Uh×Obj)}{σ:St}{H:Hp}{s:Uf}{R:It->Hp->Prop}{E:Ue->Uf->Prop}{lo hi:Int}{t u v:Tok}{tk:Nat}(I:Inv X pins σ H s)(h1 : -(2 ^ 62)<=lo)(h2:lo<2 ^ 62)(h3 : -(2 ^ 62)<=hi)(h4:hi<2 ^ 62)
  (q:R (Itr lo (hi-lo).toNat) H):Ul (model X.prog X.w) X.A (pyIter (.ref s.heap.objs.size)) (PIE X pins σ tg R) E {s with heap:=s.heap.push {cls:=.type "range", data:=.fields #[.int lo t,.int hi u,.int 1 v]},toks:=tk}:=by
 refine wpAny_pyIter_range (IsRange.new ..) (small_one h1 h2 h3 h4) ?_;have I1:Inv X pins σ H {s with heap:=s.heap.push {cls:=.type "range", data:=.fields #[.int lo t,.int hi u,.int 1 v]},toks:=tk}:=I.kept λb o e=>Qg _ e
 refine⟨(s.heap.push {cls:=.type "range", data:=.fields #[.int lo t,.int hi u,.int 1 v]}).objs.size,[(s.heap.push {cls:=.type "range", data:=.fields #[.int lo t,.int hi u,.int 1 v]}).objs.size],_,_,H,rfl,
  I1.kept (t':=tk) λb o e=>Qg _ e,qk _ lo (hi-lo).toNat,?_,λb hb=>?_,q⟩
 .have e1:lo+((0:Nat):Int)*1=lo:=by simp
  have e2:(((hi-lo).toNat:Nat):Int)-((0:Nat):Int)=Builtin.Range.rangeSize lo hi 1:=by rw[rangeSize_one];split<;>omega
  show IsRangeIter _ _ (lo+((0:Nat):Int)*1) ((((hi-lo).toNat:Nat):Int)-((0:Nat):Int)) 1;rw[e1,e2];exact QA _ jv
 .have e:b=(s.heap.push {cls:=.type "range", data:=.fields #[.int lo t,.int hi u,.int 1 v]}).objs.size:=by simpa using hb
  subst e;exact I1.fpOk (Qq _) (I1.hok.fresh (Qq _))
def L4(ta:TA):TI:=λσ H R=>ta σ H λvs H1=>∃j:Int,vs=[.int j] /\ -(2 ^ 62)<=j/\j<2 ^ 62/\R (Itr 0 j.toNat) H1
def L1(ta:TA):TI:=λσ H R=>ta σ H λvs H1=>∃i j:Int,vs=[.int i,.int j]/\(-(2 ^ 62)<=i/\i<2 ^ 62 /\ -(2 ^ 62)<=j/\j<2 ^ 62)/\R (Itr i (j-i).toNat) H1
theorem AM{a:Uj}{ta:TA}{p pos:Pos}(hg:Gl X "range")(hm:X.mg "range" = jw)(ha:PA X [a] ta)(hs:Um [a] X.env=[(jy,eval a X.env)]:=by rfl):PI X tg (.Call (.Name "range" p) [a] [] pos) (L4 ta):=by
 intro pins s σ H R I h;refine Call_ (WP I hg hm boot_range (JE (thn (ha pos pins s σ H _ I h) λus s1 ⟨vs,H1,I1,r1,q1⟩=>?_) hs jv));obtain⟨j,e,q1,q2,q⟩:=q1;subst e;cases r1 with
 |cons r rr=>cases rr;obtain⟨t,rfl⟩:=r;exact call_range_1 (Mz I1 (by omega) (by omega) q1 q2 (by simpa using q))
theorem AL{a b:Uj}{ta:TA}{p pos:Pos}(hg:Gl X "range")(hm:X.mg "range" = jw)(ha:PA X [a,b] ta)(hs:Um [a,b] X.env=[(jy,eval a X.env),(jy,eval b X.env)]:=by rfl)(hs2:Um [b] X.env=[(jy,eval b X.env)]:=by rfl) :
  PI X tg (.Call (.Name "range" p) [a,b] [] pos) (L1 ta):=by
 intro pins s σ H R I h;refine Call_ (WP I hg hm boot_range (JE (thn (ha pos pins s σ H _ I h) λus s1 ⟨vs,H1,I1,r1,q1⟩=>?_) (by rw[hs,hs2]) (by rw[hs2];rfl)));obtain⟨i,j,e,⟨q1,q2,q3,q4⟩,q⟩:=q1;subst e;cases r1 with
 |cons r rr=>
  cases rr with
  |cons r' rr=>cases rr;obtain⟨t,rfl⟩:=r;obtain⟨t',rfl⟩:=r';exact call_range_2 (Mz I1 q1 q2 q3 q4 q)
def tFor(wi:TI)(g:TG)(tb:TS):TS:=λD σ H=>wi σ H λJ H1=>∃W:Nat->Nat->St->Hp->Prop,(∃m,W 0 m σ H1)/\∀i m σ H,W i m σ H ->
 (J.stop i H/\D.nx σ H)∨(J.go i H/\∃N:St->Hp->Prop,(∀σ' H',N σ' H'->∃m',m'<m/\W (i+1) m' σ' H')/\∀x H',J.yld i H x H'->g x σ H' λσ2 H2=>tb {D with nx:=N,ct:=N,bk:=D.nx} σ2 H2)
def Tz(fp:jH)(h:Heap):List (Uh×Obj):=fp.filterMap λb=>(h.get? b).map λo=>(b,o)
theorem TU{fp:jH}{h:Heap}{b:Uh}{o:Obj}(hb:b∈fp)(e:h.get? b=ju o):(b,o)∈Tz fp h:=List.mem_filterMap.mpr ⟨b,hb,by rw[e];rfl⟩
theorem AK{fp:jH}{h:Heap}{p:Uh×Obj}(hp:p∈Tz fp h):p.1∈fp/\h.get? p.1=ju p.2:=by
 obtain⟨b,hb,e⟩:=List.mem_filterMap.mp hp;cases q:h.get? b with
 |none=>rw[q]at e;cases e
 |some o=>rw[q]at e;have e':(b,o)=p:=Qz e;subst e';exact⟨hb,q⟩
theorem Inv.pinned{pins:List (Uh×Obj)}{σ:St}{H:Hp}{s:Uf}{fp:jH}(I:Inv X pins σ H s)(hf:∀b∈fp,KY X pins H b)(ho:∀b∈fp,∃o,s.heap.get? b=ju o/\∀v,o.data≠.cell v):Inv X (pins++Tz fp s.heap) σ H s:=
 I.pins_of λp hp=>(QO.mp hp).elim (λz=>I.pin p (QF _ z)) λz=>by obtain⟨hb,e⟩:=AK z;obtain⟨f0,f1,f2,_⟩:=hf p.1 hb;obtain⟨o,e',d⟩:=ho p.1 hb;rw[e]at e';cases e';exact⟨e,f0,f1,f2,d⟩
theorem Inv.unpinned{pins pl:List (Uh×Obj)}{σ:St}{H:Hp}{s:Uf}(I:Inv X (pins++pl) σ H s):Inv X pins σ H s:=I.pins_of λp hp=>I.pin p (QF _ (Jo _ hp))
theorem GW{iter:Uj}{body:List Stmt}{wi:TI}{g:TG}{tb:TS}{pos:Pos}(hp:PassesOwn (model X.prog X.w) X.A X.env X.xe)(hc:X.calm=jx)(hi:PI X tg iter wi)(hg:PG X tg g)(hb:PSs X body tb)
  (hs:∀x,UD iter X.env x=pure x:=by intro _;rfl):PS X (.For tg iter body [] pos) (tFor wi g tb):=by
 intro pins s σ H D I h;refine wpAny_For (thn (hi pins s σ H _ I h) λv s1 h1=>thn h1 λitv s2 h2=>?_) hs;obtain⟨it,fp,tn,J,H2,e,I2,T,st2,f2,W,⟨m0,w0⟩,turn⟩:=h2;subst e;have stat:∀{H':Hp},(∀b∈fp,H' b=jw)->∀b∈fp,KY X pins H' b:=λhn b hb=>⟨hn b hb,(f2 b hb).2⟩;refine codeAny_forLoop_any (λn s'=>∃i σ' H',Inv X pins σ' H' s'/\tn i s'.heap/\(∀b∈fp,H' b=jw)/\W i n σ' H') ?_ m0 ⟨0,σ,H2,I2,st2,λb hb=>(f2 b hb).1,w0⟩;rintro n s3 ⟨i,σ3,H3,I3,st3,fr3,w3⟩;rcases turn i n σ3 H3 w3 with ⟨stop,qn⟩|⟨go,N,hN,step⟩
 .refine Jj hp (thn (T.done X jv jv jv hc i pins s3 σ3 H3 X.xe I3 (stat fr3) st3 stop) λr s4 ⟨hr,I4⟩=>?_)
  subst hr;exact wpAny_execs_nil ⟨σ3,H3,I4,qn⟩
 .refine Jj hp (thn (T.item X jv jv jv hc i pins s3 σ3 H3 X.xe I3 (stat fr3) st3 go) λr s4 ⟨u,hr,h4⟩=>?_)
  subst hr;refine Jj hp (thn h4 λ_ s5 ⟨x,H5,I5,r5,y5,j4,vi⟩=>?_);have I5':=I5.pinned (stat vi) (T.obj _ _ j4);refine Jj hp (thn (hg _ s5 σ3 H5 x u _ I5' r5 (step x H5 y5)) λ_ s6 ⟨σ6,H6,I6,q6⟩=>?_);refine Jj hp (thn (hb _ s6 σ6 H6 _ I6 q6) λf s7 q7=>?_);have again:∀{σ7:St}{H7:Hp},Inv X (pins++Tz fp s5.heap) σ7 H7 s7->N σ7 H7->∃m,m<n/\∃i σ' H',Inv X pins σ' H' s7/\tn i s7.heap/\(∀b∈fp,H' b=jw)/\W i m σ' H':=λ{σ7 H7} I7 n7=>by obtain⟨m',hm,w7⟩:=hN σ7 H7 n7;refine⟨m',hm,i+1,σ7,H7,I7.unpinned,T.keep _ _ _ j4 λb hb o e=>(I7.pin (b,o) (QF _ (QF _ (TU hb e)))).1,λb hb=>?_,w7⟩;obtain⟨o,e,d⟩:=T.obj _ _ j4 b hb;exact(I7.pin (b,o) (QF _ (QF _ (TU hb e)))).2.1
  cases f with
  |next=>obtain⟨σ7,H7,I7,n7⟩:=q7;exact again I7 n7
  |cont=>obtain⟨σ7,H7,I7,n7⟩:=q7;exact again I7 n7
  |brk=>obtain⟨σ7,H7,I7,q7⟩:=q7;exact⟨σ7,H7,I7.unpinned,q7⟩
  |ret v=>obtain⟨x7,σ7,H7,I7,r7,q7⟩:=q7;exact⟨x7,σ7,H7,I7.unpinned,r7,q7⟩
end
abbrev R2:=V->V->Hp->VK->Prop
def OpR(X:Cx)(f:Ue->Ue->Sem Ue)(r:R2):Prop:=
 ∀(pins:List (Uh×Obj))(s:Uf)(σ:St)(H:Hp)(x y:V)(v u:Ue)(Q:VK),Inv X pins σ H s->RelV x v->RelV y u->r x y H Q ->
  Ul (model X.prog X.w) X.A (f v u) (EP X pins σ Q) X.xe s
def UnR(X:Cx)(f:Ue->Sem Ue)(r:V->Hp->VK->Prop):Prop:=
 ∀(pins:List (Uh×Obj))(s:Uf)(σ:St)(H:Hp)(x:V)(v:Ue)(Q:VK),Inv X pins σ H s->RelV x v->r x H Q ->
  Ul (model X.prog X.w) X.A (f v) (EP X pins σ Q) X.xe s
def ZQ(X:Cx)(f:Ue)(r:List V->Hp->VK->Prop):Prop:=
 ∀(pins:List (Uh×Obj))(s:Uf)(σ:St)(H:Hp)(xs:List V)(us:jB)(Q:VK),Inv X pins σ H s->Vals xs us->r xs H Q ->
  Ul (model X.prog X.w) X.A (call f us) (EP X pins σ Q) X.xe s
def tOp(r:R2)(ta tb:TE):TE:=λσ H Q=>ta σ H λx H1=>tb σ H1 λy H2=>r x y H2 Q
def tUn(r:V->Hp->VK->Prop)(ta:TE):TE:=λσ H Q=>ta σ H λx H1=>r x H1 Q
def rI(C:Int->Int->Prop)(g:Int->Int->V):R2:=λx y H Q=>∃i j,x=.int i/\y=.int j/\C i j/\Q (g i j) H
def rI0(g:Int->Int->V):R2:=λx y H Q=>∃i j,x=.int i/\y=.int j/\Q (g i j) H
def rU(g:Int->V):V->Hp->VK->Prop:=λx H Q=>∃i,x=.int i/\Q (g i) H
section
variable{X:Cx}{a b c:Uj}{ta tb tc:TE}{pos:Pos}
theorem V9(ha:PE X a ta)(hb:PE X b tb){pins:List (Uh×Obj)}{s:Uf}{σ:St}{H:Hp}{R:V->V->Hp->Prop}(I:Inv X pins σ H s)
  (h:ta σ H λx H1=>tb σ H1 λy H2=>R x y H2) {Q:Ue->Uf->Prop} {f:Ue->Ue->Sem Ue}
  (hf:∀v u s2 x y H2,Inv X pins σ H2 s2->RelV x v->RelV y u->R x y H2->Ul (model X.prog X.w) X.A (f v u) Q X.xe s2) :
  Ul (model X.prog X.w) X.A (eval a X.env) (λv s₁=>Ul (model X.prog X.w) X.A (eval b X.env) (λu s₂=>Ul (model X.prog X.w) X.A (f v u) Q X.xe s₂) X.xe s₁) X.xe s:=by
 refine thn (ha pins s σ H _ I h) λv s1 ⟨x,H1,I1,r1,q1⟩=>?_;refine thn (hb pins s1 σ H1 _ I1 q1) λu s2 ⟨y,H2,I2,r2,q2⟩=>?_;exact hf v u s2 x y H2 I2 r1 r2 q2
theorem OF{op:Operator}{r:R2}(ho:OpR X (binaryOp op) r)(ha:PE X a ta)(hb:PE X b tb):PE X (.BinOp a op b pos) (tOp r ta tb):=by intro pins s σ H Q I h;exact wpAny_BinOp (V9 ha hb I h λv u s2 x y H2 I2 rx ry q=>ho pins s2 σ H2 x y v u Q I2 rx ry q)
theorem L0{op:UnaryOp}{r:V->Hp->VK->Prop}(ho:UnR X (unaryOp op) r)(ha:PE X a ta):PE X (.UnaryOp op a pos) (tUn r ta):=by intro pins s σ H Q I h;exact UnaryOp_ (thn (ha pins s σ H _ I h) λv s1 ⟨x,H1,I1,r1,q1⟩=>ho pins s1 σ H1 x v Q I1 r1 q1)
theorem opI{f:Ue->Ue->Sem Ue}{C:Int->Int->Prop}{g:Int->Int->Int}
  (rule:∀(i j:Int)(t u:Tok)(s:Uf)(Q:Ue->Uf->Prop)(E:Ue->Uf->Prop),C i j->Q (.int (g i j) s.toks) {s with toks:=s.toks+1}->Ul (model X.prog X.w) X.A (f (.int i t) (.int j u)) Q E s) :
  OpR X f (rI C λi j=>.int (g i j)):=by
 intro pins s σ H x y v u Q I rx ry h;obtain⟨i,j,rfl,rfl,hc,q⟩:=h;obtain⟨t,rfl⟩:=rx;obtain⟨t',rfl⟩:=ry;exact rule i j t t' s _ _ hc ⟨.int (g i j),H,I.tok _,⟨_,rfl⟩,q⟩
theorem opI0{f:Ue->Ue->Sem Ue}{g:Int->Int->Int}
  (rule:∀(i j:Int)(t u:Tok)(s:Uf)(Q:Ue->Uf->Prop)(E:Ue->Uf->Prop),Q (.int (g i j) s.toks) {s with toks:=s.toks+1}->Ul (model X.prog X.w) X.A (f (.int i t) (.int j u)) Q E s) :
  OpR X f (rI0 λi j=>.int (g i j)):=by
 intro pins s σ H x y v u Q I rx ry h;obtain⟨i,j,rfl,rfl,q⟩:=h;obtain⟨t,rfl⟩:=rx;obtain⟨t',rfl⟩:=ry;exact rule i j t t' s _ _ ⟨.int (g i j),H,I.tok _,⟨_,rfl⟩,q⟩
theorem Wc{f:Ue->Ue->Sem Ue}{g:Int->Int->Bool}
  (rule:∀(i j:Int)(t u:Tok)(s:Uf)(Q:Ue->Uf->Prop)(E:Ue->Uf->Prop),Q (.bool (g i j)) s->Ul (model X.prog X.w) X.A (f (.int i t) (.int j u)) Q E s) :
  OpR X f (rI0 λi j=>.bl (g i j)):=by
 intro pins s σ H x y v u Q I rx ry h;obtain⟨i,j,rfl,rfl,q⟩:=h;obtain⟨t,rfl⟩:=rx;obtain⟨t',rfl⟩:=ry;exact rule i j t t' s _ _ ⟨.bl (g i j),H,I,rfl,q⟩
def CPow(i j:Int):Prop:=0<=j/\j<=1000000/\i.natAbs<2 ^ 64
def CMul(i j:Int):Prop:=(-(2 ^ 64)<i/\i<2 ^ 64)∨(-(2 ^ 64)<j/\j<2 ^ 64)
theorem CMul.ok{i j:Int}(h:CMul i j):IntMulOk i j:=by
 rcases h with ⟨h1,h2⟩|⟨h1,h2⟩
 .exact .of_left (intBits_le_64 h1 h2)
 .exact .of_right (intBits_le_64 h1 h2)
theorem FO:OpR X (binaryOp .Add) (rI0 λi j=>.int (i+j)):=opI0 λ_ _ _ _ _ _ _ q=>add_int q
theorem FN:OpR X (binaryOp .Sub) (rI0 λi j=>.int (i-j)):=opI0 λ_ _ _ _ _ _ _ q=>sub_int q
theorem FM:OpR X (binaryOp .Mult) (rI CMul λi j=>.int (i*j)):=opI λ_ _ _ _ _ _ _ hc q=>mul_int q hc.ok
theorem FL:OpR X (binaryOp .Mod) (rI (λ_ j=>0<j) λi j=>.int (i % j)):=opI λi j _ _ _ _ _ hc q=>by have h1:(0:Int)<j:=hc;exact mod_int' (by omega) (by rw[Int.fmod_eq_emod_of_nonneg i (by omega)];exact q)
theorem FJ:OpR X (binaryOp .Pow) (rI CPow λi j=>.int (i ^ j.toNat)):=opI λ_ _ _ _ _ _ _ hc q=>pow_int_small hc.1 hc.2.1 hc.2.2 q
theorem EY:OpR X (inplaceOp .Mult) (rI CMul λi j=>.int (i*j)):=opI λ_ _ _ _ _ _ _ hc q=>imul_int q hc.ok
theorem unI{f:Ue->Sem Ue}{g:Int->Int}
  (rule:∀(i:Int)(t:Tok)(s:Uf)(Q:Ue->Uf->Prop)(E:Ue->Uf->Prop),Q (.int (g i) s.toks) {s with toks:=s.toks+1}->Ul (model X.prog X.w) X.A (f (.int i t)) Q E s) :
  UnR X f (rU λi=>.int (g i)):=by
 intro pins s σ H x v Q I rx h;obtain⟨i,rfl,q⟩:=h;obtain⟨t,rfl⟩:=rx;exact rule i t s _ _ ⟨.int (g i),H,I.tok _,⟨_,rfl⟩,q⟩
theorem FI:UnR X (unaryOp .USub) (rU λi=>.int (-i)):=unI λ_ _ _ _ _ q=>neg_int q
end
section
variable{X:Cx}{a b c:Uj}{ta tb tc:TE}{pos:Pos}
theorem R9{pins:List (Uh×Obj)}{σ:St}{H:Hp}{s:Uf}{Q:VK}{k k':Bool}(I:Inv X pins σ H s)(q:Q (.bl k) H)(e:k=k'):EP X pins σ Q (.bool k') s:=by subst e;exact⟨.bl k,H,I,rfl,q⟩
theorem LZ:OpR X (Uo .Lt) (rI0 λi j=>.bl (decide (i<j))):=Wc λ_ _ _ _ _ _ _ q=>lt_int q
theorem LY:OpR X (Uo .LtE) (rI0 λi j=>.bl (decide (i<=j))):=Wc λ_ _ _ _ _ _ _ q=>le_int q
theorem LX:OpR X (Uo .Gt) (rI0 λi j=>.bl (decide (j<i))):=Wc λ_ _ _ _ _ _ _ q=>gt_int q
theorem LW:OpR X (Uo .GtE) (rI0 λi j=>.bl (decide (j<=i))):=Wc λ_ _ _ _ _ _ _ q=>ge_int q
theorem AJ:OpR X (Uo .In) (λx y H Q=>∃i j,x=.str i/\y=.str j/\Q (.bl (!(Builtin.Str.occurrences j i 0 j.length 1).isEmpty)) H):=by intro pins s σ H x y v u Q I rx ry h;obtain⟨i,j,rfl,rfl,q⟩:=h;obtain⟨t,rfl⟩:=rx;obtain⟨t',rfl⟩:=ry;exact in_str (R9 I q jv)
theorem qZ:OpR X (Uo .NotIn) (λx y H Q=>∃i j,x=.str i/\y=.str j/\Q (.bl (!(!(Builtin.Str.occurrences j i 0 j.length 1).isEmpty))) H):=by intro pins s σ H x y v u Q I rx ry h;obtain⟨i,j,rfl,rfl,q⟩:=h;obtain⟨t,rfl⟩:=rx;obtain⟨t',rfl⟩:=ry;exact notIn_str (R9 I q jv)
theorem OpR.or{f:Ue->Ue->Sem Ue}{r r':R2}(h:OpR X f r)(h':OpR X f r'):OpR X f (λx y H Q=>r x y H Q∨r' x y H Q):=by
 intro pins s σ H x y v u Q I rx ry q;rcases q with q|q
 .exact h pins s σ H x y v u Q I rx ry q
 .exact h' pins s σ H x y v u Q I rx ry q
theorem FH(b:Uj){op:CmpOp}(h:op≠.In:=by decide)(h2:op≠.NotIn:=by decide):behindInMarks op b=jy:=by
 have e1:(op==CmpOp.In)=jy:=by cases op<;>first|rfl|exact absurd jv h
 have e2:(op==CmpOp.NotIn)=jy:=by cases op<;>first|rfl|exact absurd jv h2
 cases b<;>simp[behindInMarks,e1,e2]
theorem Pj{op:CmpOp}{r:R2}(ho:OpR X (Uo op) r)(ha:PE X a ta)(hb:PE X b tb)(hm:behindInMarks op b=jy):PE X (.Compare a [op] [b] pos) (tOp r ta tb):=by intro pins s σ H Q I h;exact wpAny_Compare1 (V9 ha hb I h λv u s2 x y H2 I2 rx ry q=>ho pins s2 σ H2 x y v u Q I2 rx ry q) hm
def OE(t:TE):TT:=λσ H Q=>t σ H λx H'=>∃k,x=.bl k/\Q k H'
theorem Pi{op:CmpOp}{r:R2}(ho:OpR X (Uo op) r)(ha:PE X a ta)(hb:PE X b tb)(hm:behindInMarks op b=jy):PT X (.Compare a [op] [b] pos) (OE (tOp r ta tb)):=by
 intro pins s σ H Q I h
 refine wpAny_isTrue_Compare1 (thn (ha pins s σ H _ I h) λv s1 ⟨x,H1,I1,r1,q1⟩=>thn (hb pins s1 σ H1 _ I1 q1) λu s2 ⟨y,H2,I2,r2,q2⟩=>
  thn (ho pins s2 σ H2 x y v u _ I2 r1 r2 q2) λc s3 ⟨z,H3,I3,r3,k,e,q3⟩=>?_) hm
 subst e;cases r3;exact QY ⟨H3,I3,q3⟩
def OW(r r':R2)(ta tb tc:TE):TE:=λσ H Q=>ta σ H λx H1=>tb σ H1 λy H2=>r x y H2 λz H3=>∃k,z=.bl k /\
 (if k=jx then tc σ H3 λw' H4=>r' y w' H4 Q else Q (.bl jy) H3)
theorem Cz{op op':CmpOp}{r r':R2}(ho:OpR X (Uo op) r)(ho':OpR X (Uo op') r')(ha:PE X a ta)(hb:PE X b tb)(hc:PE X c tc)
  (hm:lastMarks [op,op'] [b,c]=jy:=by with_unfolding_all rfl):PE X (.Compare a [op,op'] [b,c] pos) (OW r r' ta tb tc):=by
 intro pins s σ H Q I h
 refine Compare_chain (thn (ha pins s σ H _ I h) λv s1 ⟨x,H1,I1,r1,q1⟩=>chain_link (thn (hb pins s1 σ H1 _ I1 q1) λu s2 ⟨y,H2,I2,r2,q2⟩=>
  thn (ho pins s2 σ H2 x y v u _ I2 r1 r2 q2) λd s3 ⟨z,H3,I3,r3,k,e,q3⟩=>?_)) hm
 subst e;cases r3;refine QY ?_;cases k with
 |false=>exact ite_ff ⟨.bl jy,H3,I3,rfl,q3⟩
 |true=>exact ite_tt (chain_last (thn (hc pins s3 σ H3 _ I3 q3) λw' s4 ⟨z',H4,I4,r4,q4⟩=>ho' pins s4 σ H4 y z' u w' Q I4 r2 r4 q4))
theorem Cy{op op':CmpOp}{r r':R2}(ho:OpR X (Uo op) r)(ho':OpR X (Uo op') r')(ha:PE X a ta)(hb:PE X b tb)(hc:PE X c tc)
  (hm:lastMarks [op,op'] [b,c]=jy:=by with_unfolding_all rfl):PT X (.Compare a [op,op'] [b,c] pos) (OE (OW r r' ta tb tc)):=by
 intro pins s σ H Q I h
 refine isTrue_chain (thn (ha pins s σ H _ I h) λv s1 ⟨x,H1,I1,r1,q1⟩=>test_link (thn (hb pins s1 σ H1 _ I1 q1) λu s2 ⟨y,H2,I2,r2,q2⟩=>
  thn (ho pins s2 σ H2 x y v u _ I2 r1 r2 q2) λd s3 ⟨z,H3,I3,r3,k,e,q3⟩=>?_)) hm
 subst e;cases r3;refine QY ?_;cases k with
 |false=>obtain⟨k',e',q'⟩:=q3;cases e';exact ite_ff ⟨H3,I3,q'⟩
 |true=>refine ite_tt (test_last (thn (hc pins s3 σ H3 _ I3 q3) λw' s4 ⟨z',H4,I4,r4,q4⟩=>thn (ho' pins s4 σ H4 y z' u w' _ I4 r2 r4 q4) λd' s5 ⟨z2,H5,I5,r5,k2,e2,q5⟩=>?_));subst e2;cases r5;exact QY ⟨H5,I5,q5⟩
theorem Rl:(Uk:Nat)<2 ^ 63:=by rw[sizeLine_eq];decide
theorem qi:OpR X (binaryOp .Add) (λx y H Q=>∃i j,x=.str i/\y=.str j/\i.length+j.length<=Uk/\Q (.str (i++j)) H):=by intro pins s σ H x y v u Q I rx ry h;obtain⟨i,j,rfl,rfl,hz,q⟩:=h;obtain⟨t,rfl⟩:=rx;obtain⟨t',rfl⟩:=ry;exact add_str (λt' tk=>⟨.str (i++j),H,I.tok _,⟨_,rfl⟩,q⟩) hz
theorem Tp{x:V}{us:jB}(r:Vals [x] us):∃u,us=[u]/\RelV x u:=by
 cases r with
 |cons r1 r2=>cases r2;exact⟨_,rfl,r1⟩
theorem RZ{x y:V}{us:jB}(r:Vals [x,y] us):∃u w',us=[u,w']/\RelV x u/\RelV y w':=by
 cases r with
 |cons r1 r2=>
  cases r2 with
  |cons r3 r4=>cases r4;exact⟨_,_,rfl,r1,r3⟩
theorem AI(hc:X.calm=jx):ZQ X (.builtin "max") (λxs H Q=>∃i j,xs=[.int i,.int j]/\Q (.int (if j > i then j else i)) H):=by
 intro pins s σ H xs us Q I r h;obtain⟨i,j,rfl,q⟩:=h;obtain⟨u,w',rfl,⟨t,rfl⟩,⟨t',rfl⟩⟩:=RZ r;refine max_two_ints (I.ok.hd hc) λh' tk k=>⟨_,H,I.kept k,?_,q⟩
 by_cases hj:j > i
 .rw[Qo hj,Qo hj];exact⟨_,rfl⟩
 .rw[QC hj,QC hj];exact⟨_,rfl⟩
theorem AH:ZQ X (.type "int") (λxs H Q=>(∃i,xs=[.int i]/\Q (.int i) H) ∨ ∃k,xs=[.bl k]/\Q (.int (if k then 1 else 0)) H):=by
 intro pins s σ H xs us Q I r h;rcases h with ⟨i,rfl,q⟩|⟨k,rfl,q⟩
 .obtain⟨u,rfl,t,rfl⟩:=Tp r
  exact call_int_int ⟨.int i,H,I,⟨_,rfl⟩,q⟩
 .obtain⟨u,rfl,r1⟩:=Tp r
  cases r1;exact call_int_bool ⟨.int (if k then 1 else 0),H,I.tok _,⟨_,rfl⟩,q⟩
theorem qY:ZQ X (.type "str") (λxs H Q=>∃i,xs=[.int i]/\i.natAbs.log2<1920/\Q (.str (toString i)) H):=by intro pins s σ H xs us Q I r h;obtain⟨i,rfl,hz,q⟩:=h;obtain⟨u,rfl,t,rfl⟩:=Tp r;exact PySem.P.str_of_int hz ⟨.str _,H,I.tok _,⟨_,rfl⟩,q⟩
def LenV(K:Frag)(x:V)(H:Hp)(n:Nat):Prop:=
 match x with
 |.str y=>y.length<=Uk/\n=y.length
 |.byt y=>y.size<=Uk/\n=y.size
 |.ref p=>(∃xs,SqL K H p xs/\n=xs.length) ∨ ∃xs,SqT K H p xs/\n=xs.length
 |_=>False
theorem Mn:ZQ X (.builtin "len") (λxs H Q=>∃x n,xs=[x]/\LenV X.K x H n/\Q (.int n) H):=by
 intro pins s σ H xs us Q I r h;obtain⟨x,n,rfl,e,q⟩:=h;obtain⟨u,rfl,rx⟩:=Tp r;have hl:=Rl;have hs:Uk=16777216:=sizeLine_eq;cases x with
 |str y=>obtain⟨t,rfl⟩:=rx;obtain⟨hy,e'⟩:y.length<=Uk/\n=y.length:=e;subst e';exact len_str (by omega) ⟨.int _,H,I.tok _,⟨_,rfl⟩,q⟩
 |byt y=>obtain⟨t,rfl⟩:=rx;obtain⟨hy,e'⟩:y.size<=Uk/\n=y.size:=e;subst e';exact PySem.W.len_bytes (by omega) ⟨.int _,H,I.tok _,⟨_,rfl⟩,q⟩
 |ref p=>
  cases rx;have e':(∃xs,SqL X.K H p xs/\n=xs.length) ∨ ∃xs,SqT X.K H p xs/\n=xs.length:=e;rcases e' with ⟨xs,hx,e'⟩|⟨xs,hx,e'⟩
  .subst e'
   obtain⟨its,r',pl,hz⟩:=I.list hx;have hlen:=r'.length;exact Calls.call_len_list pl.isList (by simp only[QI];omega) ⟨.int xs.length,H,I.tok _,⟨_,by simp only[QI];rw[hlen]⟩,q⟩
  .subst e'
   obtain⟨its,r',pl,hz⟩:=I.tuple hx;have hlen:=r'.length;exact len_tuple pl (by simp only[QI];omega) ⟨.int xs.length,H,I.tok _,⟨_,by simp only[QI];rw[hlen]⟩,q⟩
 |_=>exact(show False from e).elim
end
structure Room(k:Nat)(A:Around):Prop where
 hd:A.handled=jw
 dp:A.depth+3*k+5<recursionLimit
 un:A.units+16*k+200<cLine
 gd:A.guards=ju []
theorem Room.mono{j k:Nat}{A:Around}(r:Room k A)(h:j<=k):Room j A:=⟨r.hd,by have:=r.dp;omega,by have:=r.un;omega,r.gd⟩
theorem Room.deeper{k:Nat}{A:Around}(r:Room (k+1) A)(env:Env):Room k (A.deeper env):=
 ⟨r.hd,by have:=r.dp;show A.depth+1+3*k+5<_;omega,by have:=r.un;show A.units+3+16*k+200<_;omega,r.gd⟩
theorem qh{A:Around}{C:Uh}{us:jB}{kw:List (Str×Ue)}:(A.under (.builtin "type.__call__" ⟨.ref C::us,kw⟩)).depth=A.depth+1:=by
 first|rfl|simp[Around.under,Code.weight,Code.isCreation,Code.isGuard,Code.isCaller,Code.frames,Code.isFrame,guardIds]
theorem qg{A:Around}{C:Uh}{us:jB}{kw:List (Str×Ue)}:(A.under (.builtin "type.__call__" ⟨.ref C::us,kw⟩)).units=A.units+1:=by
 first|rfl|simp[Around.under,Code.cUnits,Code.frames,Code.isFrame]
theorem Room.make{k:Nat}{A:Around}(r:Room (k+1) A)(C:Uh)(us:jB)(kw:List (Str×Ue)):Room k (A.under (.builtin "type.__call__" ⟨.ref C::us,kw⟩)):=
 ⟨r.hd,by have:=r.dp;rw[qh];omega,by have:=r.un;rw[qg];omega,(by first|exact r.gd|(simp[Around.under,guardIds];exact r.gd))⟩
theorem Room.depth{k:Nat}{A:Around}(r:Room k A):A.depth<recursionLimit:=by have:=r.dp;omega
theorem Room.units{k:Nat}{A:Around}(r:Room k A):A.units+64<cLine:=by have:=r.un;omega
def tNil:TA:=λ_ H Q=>Q [] H
def RY(ta:TE)(tr:TA):TA:=λσ H Q=>ta σ H λx H1=>tr σ H1 λxs H2=>Q (x::xs) H2
section
variable{X:Cx}{e:Uj}{es:jF}{te:TE}{t:TA}{pos:Pos}
theorem Xh:PA X [] tNil:=λ_ _ _ _ H Q I h=>Calls.spliced_nil ⟨[],H,I,.nil,h⟩
theorem Yo(ha:PE X e te)(hr:PA X es t)(hs:Um (e::es) X.env=(jy,eval e X.env)::Um es X.env:=by rfl):PA X (e::es) (RY te t):=by intro pos pins s σ H Q I h;rw[hs];show Ul _ _ (spliced ((jy,eval e X.env)::backTo pos (Um es X.env))) _ _ s;refine Calls.spliced_cons (thn (ha pins s σ H _ I h) λu s1 ⟨x,H1,I1,r1,q1⟩=>?_);exact thn (hr pos pins s1 σ H1 _ I1 q1) λus s2 ⟨xs,H2,I2,r2,q2⟩=>⟨x::xs,H2,I2,.cons r1 r2,q2⟩
def tTup(t:TA):TE:=λσ H Q=>t σ H λxs H1=>xs.length<=Uk/\∀p,H1 p=jw->Q (.ref p) (upd H1 p (.tup xs))
def tLst(t:TA):TE:=λσ H Q=>t σ H λxs H1=>xs.length<=Uk/\∀p,H1 p=jw->Q (.ref p) (upd H1 p (.lst xs))
theorem FG{x1}(h:PA X es t):PE X (.Tuple es x1 pos) (tTup t):=by intro pins s σ H Q I hq;refine wpAny_Tuple_spliced (thn (h pos pins s σ H _ I hq) λus s1 ⟨xs,H1,I1,r,z,q⟩=>⟨by rw[←r.length];exact z,?_⟩);have hf:H1 s1.heap.objs.size=jw:=I1.hok.fresh (Qq _);refine⟨.ref s1.heap.objs.size,upd H1 s1.heap.objs.size (.tup xs),I1.laid (t':=s1.toks) (λb u e=>Qg _ e) (Qq _) ?_,rfl,q _ hf⟩;exact⟨z,us,r,⟨_,QA _ jv,rfl,_,rfl⟩⟩
theorem OV(h:PA X es t):PE X (.List es pos) (tLst t):=by intro pins s σ H Q I hq;refine wpAny_List_spliced (thn (h pos pins s σ H _ I hq) λus s1 ⟨xs,H1,I1,r,z,q⟩=>⟨by rw[←r.length];exact z,?_⟩);have hf:H1 s1.heap.objs.size=jw:=I1.hok.fresh (Qq _);refine⟨.ref s1.heap.objs.size,upd H1 s1.heap.objs.size (.lst xs),I1.laid (t':=s1.toks) (λb u e=>Qg _ e) (Qq _) ?_,rfl,q _ hf⟩;exact⟨z,us,0,r,QA _ jv⟩
end
abbrev Sp:=List V->Hp->VK->XK->Prop
abbrev CXT:=List Env->Hp->Uf->XK->Ue->Uf->Prop
structure Env0(P:Ug)(w:World)(K:Frag)(mg:Str->jE)(base:Heap)(A:Around)(outer:List Env)(s:Uf)(H:Hp):Prop where
 frames:A.frames=ju outer
 mod:Mod K mg base
 bs:∀b o,base.get? b=ju o->s.heap.get? b=ju o/\H b=jw
 bsz:base.objs.size<=s.heap.objs.size
 funs:s.heap.FunFrames base outer
 frf:∀b∈frs outer,H b=jw
 hok:HOk P w H s.heap
 bare:AllBare s.gens
def CE(outer:List Env)(P:Ug)(w:World)(H:Hp)(s:Uf)(Q:VK)(u:Ue)(s':Uf):Prop:=
 ∃v H',s'.os=s.os/\AllBare s'.gens/\Un (frs outer) [] H H' s.heap s'.heap/\HOk P w H' s'.heap/\RelV v u/\Q v H'
def CR(CX:CXT)(outer:List Env)(P:Ug)(w:World)(H:Hp)(s:Uf)(Q:VK)(E:XK)(r:Result)(s':Uf):Prop:=
 match r with
 |.ok (.ret u)=>CE outer P w H s Q u s'
 |.ok _=>False
 |.error e=>CX outer H s E e s'
structure FnOk(P:Ug)(w:World)(K:Frag)(mg:Str->jE)(base:Heap)(CX:CXT)(k:Nat)(f:Uh)(fd:Ui)(ps:List Str)(sp:Sp):Prop where
 len:∀vs H Q E,sp vs H Q E->vs.length=ps.length
 run:∀(A:Around)(outer:List Env)(s:Uf)(H:Hp)(args:Args)(us:jB)(vs:List V)(Q:VK)(E:XK),Room k A->Env0 P w K mg base A outer s H->BindsTo s fd args (ps.zip us)->Vals vs us->sp vs H Q E ->
  codeAny (model P w) A (.call (.ref f) args) (CR CX outer P w H s Q E) s
theorem Env0.make{P:Ug}{w:World}{K:Frag}{mg:Str->jE}{base:Heap}{A:Around}{outer:List Env}{s:Uf}{H:Hp}(e:Env0 P w K mg base A outer s H)(C:Uh)(us:jB)(kw:List (Str×Ue)) :
  Env0 P w K mg base (A.under (.builtin "type.__call__" ⟨.ref C::us,kw⟩)) outer s H:=⟨by first|exact e.frames|(simpa[Around.under,Code.envs,Code.isFrame,pushEnvs]using e.frames),e.mod,e.bs,e.bsz,e.funs,e.frf,e.hok,e.bare⟩
section
variable{X:Cx}{pins:List (Uh×Obj)}{σ:St}{H:Hp}{s s':Uf}
theorem Inv.env0(I:Inv X pins σ H s):Env0 X.prog X.w X.K X.mg X.base X.A X.stack s H:=
 ⟨I.ok.frames,I.ok.mod,I.bs,QP I.ok.bsz I.sz,I.stack,I.stkFree,I.hok,I.bare⟩
theorem Inv.after{Q:VK}{u:Ue}(I:Inv X pins σ H s)(h:CE X.stack X.prog X.w H s Q u s'):EP X pins σ Q u s':=by obtain⟨v,H',os,bare,un,hok,r,q⟩:=h;obtain⟨hh,g,d,t,os'⟩:=s';obtain rfl:os'=s.os:=os;exact⟨v,H',I.call (h':=hh) (g':=g) (d':=d) (t':=t) (ch:=[]) un hok bare (λb z=>absurd z (by simp)),r,q⟩
end
def LV(sp:Sp)(dvs:List V)(E:XK)(t:TA):TE:=λσ H Q=>t σ H λvs H1=>sp (vs++dvs) H1 Q E
def Yq(K:Frag)(fd:Ui)(ps:List Str)(ds:jB):Prop:=
 ∀(s:Uf)(us:jB),K.In s.heap->(us++ds).length=ps.length->BindsTo s fd ⟨us,[]⟩ (ps.zip (us++ds))
theorem Yq.all{K:Frag}{fd:Ui}{ps:List Str}(h:∀us:jB,us.length=ps.length->bindArgs fd ⟨us,[]⟩=pure (ps.zip us)):Yq K fd ps []:=λs us _ hl=>by rw[Q7]at hl⊢;exact .of_eq (h us hl)
def R8(CX:CXT)(X:Cx)(E:XK):Prop:=∀(pins:List (Uh×Obj))(σ:St)(H:Hp)(s:Uf)(e:Ue)(s':Uf),Inv X pins σ H s->CX X.stack H s E e s'->X.xe e s'
section
variable{X:Cx}{CX:CXT}{k:Nat}{f C:Uh}{fd:Ui}{ps:List Str}{sp:Sp}{dvs:List V}{ds:jB}{E:XK}{x m:Str}{p pos apos:Pos}{e o:Uj}{es:jF}{ta:TE}{t:TA}
theorem FF{pins:List (Uh×Obj)}{σ:St}{H:Hp}{s:Uf}{Q:VK}{us:jB}{vs:List V}(F:FnOk X.prog X.w X.K X.mg X.base CX k f fd ps sp)(hr:Room k X.A)(hb:Yq X.K fd ps ds)(hd:Vals dvs ds)(hx:R8 CX X E)
  (I:Inv X pins σ H s) (r:Vals vs us) (h:sp (vs++dvs) H Q E):Ul (model X.prog X.w) X.A (call (.ref f) us) (EP X pins σ Q) X.xe s:=by
 have r2:Vals (vs++dvs) (us++ds):=r.append hd;have hl:(us++ds).length=ps.length:=by rw[←r2.length];exact F.len _ _ _ _ h
 refine wpAny_call (Jl (F.run X.A X.stack s H ⟨us,[]⟩ (us++ds) (vs++dvs) Q E hr I.env0 (hb s us I.kIn hl) r2 h) λr s' hq=>?_);cases r with
 |error e=>exact hx pins σ H s e s' I hq
 |ok fl=>
  cases fl with
  |ret u=>exact I.after hq
  |next=>exact False.elim hq
  |brk=>exact False.elim hq
  |cont=>exact False.elim hq
theorem Ph(F:FnOk X.prog X.w X.K X.mg X.base CX k f fd ps sp)(hr:Room k X.A)(hg:Gl X x)(hm:X.mg x=ju (.ref f))(hk:PySem.W.keepIn X.K (.ref f)=jx)(hb:Yq X.K fd ps ds)(hd:Vals dvs ds)(hx:R8 CX X E)
  (ha:PA X (e::es) t) (hdb:(x==("__debug__" : Str))=jy:=by decide) (he:Um (e::es) X.env=(jy,eval e X.env)::Um es X.env:=by rfl) (hpl:(backTo pos (Um es X.env)).any (·.1)=jy:=by rfl) :
  PE X (.Call (.Name x p) (e::es) [] pos) (LV sp dvs E t):=by
 intro pins s σ H Q I h;refine Jk (Su I hg hm ?_ hdb);refine PySem.W.callWith_K (h₀:=X.base) I.ok.mod.kin hk (thn (ha pos pins s σ H _ I h) λus s1 ⟨vs,H1,I1,r,q⟩=>⟨I1.kIn,?_⟩) he hpl;exact FF F hr hb hd hx I1 r q
end
structure Vg(N P:List Str)(sc:Scope):Prop where
 kind:sc.kind=.function
 co:sc.isCoroutine=jy
 gen:sc.isGenerator=jy
 nd:N.Nodup
 pre:N.take P.length=P
 par:∀x∈P,sc.names.lookup x=ju .local∨sc.names.lookup x=ju .cell
 nofree:∀y∈sc.names,y.2≠.free
theorem MJ{kindOf:Str->Option NameKind}{x:Str}:∀{binds:List (Str×Ue)}{m:Str->jE},(∀v,(x,v)∉binds)->bindL kindOf binds m x=m x
 |[],_,_=>rfl
 |(n,v)::r,m,h=>by
  unfold bindL;rw[MJ λw hw=>h w (QD _ hw)];split
  .have:x≠n:=by rintro rfl;exact h v Qt
   simp[this]
  .rfl
theorem MI{kindOf:Str->Option NameKind}{x:Str}:∀{binds:List (Str×Ue)}{m:Str->jE},(∀v,(x,v)∉binds)->bindC kindOf binds m x=m x
 |[],_,_=>rfl
 |(n,v)::r,m,h=>by
  unfold bindC;rw[MI λw hw=>h w (QD _ hw)];split
  .rfl
  .have:x≠n:=by rintro rfl;exact h v Qt
   simp[this]
theorem MH{kindOf:Str->Option NameKind}{x:Str}{v:Ue}:∀{P:List Str}{vs:jB}{i:Nat}{m:Str->jE},P.Nodup->P[i]?=ju x->vs[i]?=ju v->kindOf x=ju .local ->
  bindL kindOf (P.zip vs) m x=ju v
 |[],_,_,_,_,h,_,_=>by simp at h
 |_::_,[],_,_,_,_,h,_=>by simp at h
 |p::P,w::vs,0,m,nd,h1,h2,hk=>by simp at h1 h2;subst h1;subst h2;show bindL kindOf ((p,w)::P.zip vs) m p=_;unfold bindL;rw[MJ λv hv=>(JY.mp nd).1 (List.of_mem_zip hv).1,Qo hk];simp
 |p::P,w::vs,i+1,m,nd,h1,h2,hk=>by show bindL kindOf ((p,w)::P.zip vs) m x=_;unfold bindL;exact MH (i:=i) (List.nodup_cons.mp nd).2 (by simpa using h1) (by simpa using h2) hk
theorem MG{kindOf:Str->Option NameKind}{x:Str}{v:Ue}:∀{P:List Str}{vs:jB}{i:Nat}{m:Str->jE},P.Nodup->P[i]?=ju x->vs[i]?=ju v->kindOf x≠ju .local ->
  bindC kindOf (P.zip vs) m x=ju v
 |[],_,_,_,_,h,_,_=>by simp at h
 |_::_,[],_,_,_,_,h,_=>by simp at h
 |p::P,w::vs,0,m,nd,h1,h2,hk=>by simp at h1 h2;subst h1;subst h2;show bindC kindOf ((p,w)::P.zip vs) m p=_;unfold bindC;rw[MI λv hv=>(JY.mp nd).1 (List.of_mem_zip hv).1,QC hk];simp
 |p::P,w::vs,i+1,m,nd,h1,h2,hk=>by show bindC kindOf ((p,w)::P.zip vs) m x=_;unfold bindC;exact MG (i:=i) (List.nodup_cons.mp nd).2 (by simpa using h1) (by simpa using h2) hk
def Xb(N:List Str)(vs:List V):St:=vs.map ju++Uq (N.length-vs.length) jw
def ZG(CX:CXT)(P:Ug)(w:World)(K:Frag)(mg:Str->jE)(base:Heap)(N:List Str)(qual:Str)(scope:Scope)(f:Uh)(cd:Ue)(A:Around)(outer:List Env)(s:Uf)(H:Hp)(E:XK):Cx where
 prog:=P
 w:=w
 K:=K
 mg:=mg
 base:=base
 A:=A.deeper (envOfC qual scope s.heap.objs.size f cd)
 N:=N
 s₀:=s
 H₀:=H
 env:=envOfC qual scope s.heap.objs.size f cd
 outer:=outer
 stack:=envOfC qual scope s.heap.objs.size f cd::outer
 ex:=[]
 calm:=jx
 fn:=λ_=>jx
 pn:=[]
 xe:=λe s'=>Ul (model P w) (A.deeper (envOfC qual scope s.heap.objs.size f cd)) (leaving (envOfC qual scope s.heap.objs.size f cd) e) (λ_ s''=>CX outer H s E e s'') (λe' s''=>CX outer H s E e' s'') s'
theorem Mm{sc:Scope}{n:Nat}{x:Str}(h:sc.names.lookup x=ju .cell):∃c,(cellsFrom n sc.names []).lookup x=ju c:=by have q:=PySem.W.cellsFrom_some sc.names n [] (.inl h);exact Option.isSome_iff_exists.mp q
theorem A9{CX:CXT}{P:Ug}{w:World}{K:Frag}{mg:Str->jE}{base:Heap}{N ps:List Str}{qual:Str}{scope:Scope}{f:Uh}{cd:Ue}{A:Around}{outer:List Env}{s s1:Uf}{H:Hp}{E:XK}{us:jB}{vs:List V}
  (S:Vg N ps scope) (hd:A.handled=jw) (e0:Env0 P w K mg base A outer s H) (hl:vs.length=ps.length) (r:Vals vs us)
  (x:InCallC s s.heap.objs.size (bindL (envOfC qual scope s.heap.objs.size f cd).kindOf (ps.zip us) λ_=>jw) (cellsFrom (s.heap.objs.size+1) scope.names []) (bindC (envOfC qual scope s.heap.objs.size f cd).kindOf (ps.zip us) λ_=>jw) s1) :
  Inv (ZG CX P w K mg base N qual scope f cd A outer s H E) [] (Xb N vs) H s1:=by
 have hpl:ps.length<=N.length:=by have:=JV List.length S.pre;rw[Jh]at this;omega
 obtain⟨h1,tk,rfl,hk⟩:=x.done;have noA:∀b:Uh,b∉(ZG CX P w K mg base N qual scope f cd A outer s H E).ex:=λb z=>absurd (show b∈([]:jH)from z) (by simp)
 refine⟨⟨e0.mod,S.kind,rfl,rfl,Qq _,λy z c h1 h2=>?_,λy hy=>?_,λy c _ h=>?_,λ_=>hd,Around.frames_deeper e0.frames,.inr ⟨rfl,rfl⟩,λb z=>absurd z (noA b),e0.bs,e0.bsz,λb _ _=>noA b,λb z=>absurd z (noA b),e0.funs,e0.frf⟩,
  rfl,e0.bare,Un.kept hk,⟨_,x.toInCall.ns,λi y v h1 h2 h3=>?_⟩,λy c h=>⟨_,x.cell y c h⟩,e0.hok.fresh (Nat.le_refl _),λy c h=>?_,λp hp=>absurd (show p∈([]:List (Uh×Obj))from hp) (by simp),e0.hok.kept hk,?_⟩
 .exact name_of_addr x.apart (JO h1) (JO h2)
 .have hy:scope.names.lookup y=ju .cell∨scope.names.lookup y=ju .free:=hy
  rcases hy with hy|hy
  .exact Mm hy
  .exact absurd jv (S.nofree _ (JO hy))
 .exact Nat.le_of_lt (x.above y c (JO h))
 .have hi:i<vs.length:=by
   unfold Xb at h2;by_cases hi:i<vs.length
   .exact hi
   .rw[List.getElem?_append_right (by simpa using hi)]at h2
    rw[Qw]at h2;split at h2<;>cases h2
  have ha:vs[i]?=ju v:=by
   unfold Xb at h2;rw[List.getElem?_append_left (by simpa using hi),List.getElem?_map]at h2;cases e:vs[i]? with
   |none=>rw[e]at h2;cases h2
   |some a=>rw[e]at h2;cases h2;rfl
  obtain⟨u,hu,rv⟩:=r.get ha;have hp:ps[i]?=ju y:=by rw[←S.pre,List.getElem?_take_of_lt (by omega)];exact h1
  have ndP:ps.Nodup:=by rw[←S.pre];exact S.nd.sublist (List.take_sublist _ _)
  refine⟨u,rv,?_⟩;rcases S.par y (Qp hp)with k|k
  .exact .inl ⟨k,MH ndP hp hu k⟩
  .obtain⟨c,e⟩:=Mm (n:=s.heap.objs.size+1) k
   refine .inr ⟨.inl k,c,e,?_⟩;have q:=x.cell y c e;rw[MG ndP hp hu (by show scope.names.lookup y≠_;rw[k];decide)]at q;exact q
 .exact e0.hok.fresh (Nat.le_of_lt (x.above y c (JO h)))
 .unfold Xb
  show _=N.length;rw[Qi,Qb,QB];omega
theorem OD{CX:CXT}{P:Ug}{w:World}{K:Frag}{mg:Str->jE}{base:Heap}{k:Nat}{f:Uh}{name qual:Str}{params:Arguments}{body:List Stmt}{scope:Scope}{dV kV doc pm cdv ct oc:Ue}{an od:jI}
  {osl:Array jE} {N ps:List Str} {sp:Sp} (lk:K.lookup f=ju ⟨oc,od,.func (PySem.W.fnOf name qual params body scope dV kV doc pm an cdv ct),osl⟩) (hcd:PySem.W.codeIn K cdv qual=jx) (S:Vg N ps scope)
  (len:∀vs H Q E,sp vs H Q E->vs.length=ps.length)
  (hbody:∀(A:Around)(outer:List Env)(s:Uf)(H:Hp)(vs:List V)(Q:VK)(E:XK),Room k (A.deeper (envOfC qual scope s.heap.objs.size f cdv))->sp vs H Q E ->
   ∃t,PSs (ZG CX P w K mg base N qual scope f cdv A outer s H E) body t/\t {nx:=λ_ H'=>Q .non H',rt:=Q} (Xb N vs) H) :
  FnOk P w K mg base CX (k+1) f (PySem.W.fnOf name qual params body scope dV kV doc pm an cdv ct) ps sp:=by
 refine⟨len,λA outer s H args us vs Q E hr e0 hb r xa=>?_⟩;have hl:=len _ _ _ _ xa;have KX:K.In s.heap:=e0.mod.kin.keeps λb o e=>(e0.bs b o e).1;have lim:s.heap.NoLimit:=e0.mod.nolimit.keeps λb o e=>(e0.bs b o e).1
 have hkind:∀y∈ps.zip us,scope.names.lookup y.1=ju .local∨(scope.names.lookup y.1=ju .cell/\((cellsFrom (s.heap.objs.size+1) scope.names []).lookup y.1).isSome=jx):=λ⟨n,v⟩ hy=>by
  rcases S.par n (List.of_mem_zip hy).1 with q|q
  .exact .inl q
  .exact .inr ⟨q,PySem.W.cellsFrom_some _ _ _ (.inl q)⟩
 refine codeAny_call_function hr.depth (KX _ _ lk) jv S.co S.gen jv (PySem.W.codeRec_of KX hcd) (hb _ _ _ _ ?_);refine wpAny_newFunctionEnv_cells S.kind hkind λenv he s1 x=>?_;subst he
 refine⟨lim.keeps x.toInCall.keep,codeAny_func ?_⟩;obtain⟨t,ht,hq⟩:=hbody A outer s H vs Q E (hr.deeper _) xa;have I:Inv (ZG CX P w K mg base N qual scope f cdv A outer s H E) [] (Xb N vs) H s1:=A9 S hr.hd e0 hl r x;refine Qv (ht [] s1 (Xb N vs) H _ I hq) (λfl s' hs=>?_) λe s' hs=>hs
 have fin:∀{σ':St}{H':Hp}{v:V}{u:Ue},Inv (ZG CX P w K mg base N qual scope f cdv A outer s H E) [] σ' H' s'->RelV v u->Q v H'->CE outer P w H s Q u s':=
  λ{σ' H' v u} J rv q=>⟨v,H',J.os,J.bare,J.base,J.hok,rv,q⟩
 cases fl with
 |ret u=>obtain⟨v,σ',H',J,rv,q⟩:=hs;exact fin J rv q
 |next=>obtain⟨σ',H',J,q⟩:=hs;exact fin (v:=V.non) (u:=Value.none) J jv q
 |brk=>obtain⟨_,_,_,q⟩:=hs;exact False.elim q
 |cont=>obtain⟨_,_,_,q⟩:=hs;exact False.elim q
section
variable{X:Cx}{x:Str}{p pos:Pos}{e:Uj}{es:jF}{t:TA}{id T:String}{r:List V->Hp->VK->Prop}
def tCB(r:List V->Hp->VK->Prop)(t:TA):TE:=λσ H Q=>t σ H λvs H1=>r vs H1 Q
theorem Ve(hc:ZQ X (.builtin id) r)(hg:Gl X x)(hm:X.mg x=jw)(hv:bootBuiltins x=ju (.builtin id))(ha:PA X (e::es) t)(hn:x ≠ "__name__" :=by decide)(hdb:(x==("__debug__" : Str))=jy:=by decide)
  (he:Um (e::es) X.env=(jy,eval e X.env)::Um es X.env:=by rfl) (hpl:(backTo pos (Um es X.env)).any (·.1)=jy:=by rfl):PE X (.Call (.Name x p) (e::es) [] pos) (tCB r t):=by
 intro pins s σ H Q I h;refine Jk (WP I hg hm hv ?_ hn hdb);exact PyProof.Rows.callWith_builtin1 (thn (ha pos pins s σ H _ I h) λus s1 ⟨vs,H1,I1,r1,q1⟩=>hc pins s1 σ H1 vs us Q I1 r1 q1) he hpl
theorem RM(hc:ZQ X (.type T) r)(hg:Gl X x)(hm:X.mg x=jw)(hv:bootBuiltins x=ju (.type T))(ha:PA X (e::es) t)(hn:x ≠ "__name__" :=by decide)(hdb:(x==("__debug__" : Str))=jy:=by decide)
  (he:Um (e::es) X.env=(jy,eval e X.env)::Um es X.env:=by rfl) (hpl:(backTo pos (Um es X.env)).any (·.1)=jy:=by rfl):PE X (.Call (.Name x p) (e::es) [] pos) (tCB r t):=by
 intro pins s σ H Q I h;refine Jk (WP I hg hm hv ?_ hn hdb);exact JE (thn (ha pos pins s σ H _ I h) λus s1 ⟨vs,H1,I1,r1,q1⟩=>hc pins s1 σ H1 vs us Q I1 r1 q1) he hpl
end
end L2
namespace HT
open PySem PyProof.Rows
section
variable{prog:Ug}{w:World}{A:Around}{E:Ue->Uf->Prop}{s:Uf}
def sIx(n d:Nat):jD->Nat
 |none=>d
 |some v=>if v<0 then(v+(n:Int)).toNat else min v.toNat n
end
end HT
namespace L2
open PySem PySem.Spec PyProof.Rows
abbrev TO:=St->Hp->(jD->Hp->Prop)->Prop
def PO(X:Cx)(e:Option Uj)(t:TO):Prop:=
 ∀(pins:List (Uh×Obj))(s:Uf)(σ:St)(H:Hp)(Q:jD->Hp->Prop),Inv X pins σ H s->t σ H Q ->
  Ul (model X.prog X.w) X.A (evalPart e X.env) (λu s'=>∃o H',Inv X pins σ H' s'/\IsPart u o/\Q o H') X.xe s
def EX:TO:=λ_ H Q=>Q jw H
def LU(t:TE):TO:=λσ H Q=>t σ H λx H1=>∃i,x=.int i/\Q (ju i) H1
section
variable{X:Cx}{e:Uj}{te:TE}{lo hi:Option Uj}{tl th:TO}{pos p2:Pos}
theorem Du:PO X jw EX:=by intro pins s σ H Q I h;rw[evalPart_none];exact Qk ⟨jw,H,I,.none,h⟩
theorem Dt(h:PE X e te):PO X (ju e) (LU te):=by
 intro pins s σ H Q I hw;rw[evalPart_some];refine thn (h pins s σ H _ I hw) λu s1 ⟨x,H1,I1,r1,q1⟩=>?_
 obtain⟨i,rfl,q⟩:=q1;obtain⟨t,rfl⟩:=r1;exact⟨ju i,H1,I1,.int i t,q⟩
def SlR(X:Cx)(r:V->jD->jD->Hp->VK->Prop):Prop:=
 ∀(pins:List (Uh×Obj))(s:Uf)(σ:St)(H:Hp)(x:V)(v vl vu:Ue)(lo hi:jD)(sl:Uh)(Q:VK),Inv X pins σ H s->RelV x v->s.heap.IsSliceOf sl vl vu .none->IsPart vl lo->IsPart vu hi->r x lo hi H Q ->
  ∃T id,typeLookup (.type T) "__getitem__" = pure (ju (.builtin id))/\s.TypeIs v T/\Ul (model X.prog X.w) X.A (getItem v (.ref sl)) (EP X pins σ Q) X.xe s
theorem SlR.or{r r':V->jD->jD->Hp->VK->Prop}(h:SlR X r)(h':SlR X r'):SlR X (λx lo hi H Q=>r x lo hi H Q∨r' x lo hi H Q):=by
 intro pins s σ H x v vl vu lo hi sl Q I rx hs pl pu q;rcases q with q|q
 .exact h pins s σ H x v vl vu lo hi sl Q I rx hs pl pu q
 .exact h' pins s σ H x v vl vu lo hi sl Q I rx hs pl pu q
def tSl(r:V->jD->jD->Hp->VK->Prop)(te:TE)(tl th:TO):TE:=λσ H Q=>te σ H λx H1=>tl σ H1 λl H2=>th σ H2 λu H3=>r x l u H3 Q
theorem Cw{r:V->jD->jD->Hp->VK->Prop}(hr:SlR X r)(he:PE X e te)(hl:PO X lo tl)(hu:PO X hi th):PE X (.Subscript e (.Slice lo hi jw p2) pos) (tSl r te tl th):=by
 intro pins s σ H Q I h;refine Subscript_ (thn (he pins s σ H _ I h) λv s1 ⟨x,H1,I1,r1,q1⟩=>?_);refine wpAny_Slice (thn (hl pins s1 σ H1 _ I1 q1) λvl s2 ⟨l,H2,I2,pl,q2⟩=>thn (hu pins s2 σ H2 _ I2 q2) λvu s3 ⟨u,H3,I3,pu,q3⟩=>?_);rw[evalPart_none];refine Qk ?_;have I4:Inv X pins σ H3 {s3 with heap:=s3.heap.push {cls:=.type "slice", data:=.fields #[vl,vu,.none]}}:=I3.kept (t':=s3.toks) λb ob q=>Qg _ q
 obtain⟨T,id,hT,ht,hg⟩:=hr pins {s3 with heap:=s3.heap.push {cls:=.type "slice", data:=.fields #[vl,vu,.none]}} σ H3 x v vl vu l u s3.heap.objs.size Q I4 r1 (Heap.IsSliceOf.new ..) pl pu q3;show Ul (model X.prog X.w) X.A (subscriptTail e (.Slice lo hi jw p2) v (.ref s3.heap.objs.size)) (EP X pins σ Q) X.xe {s3 with heap:=s3.heap.push {cls:=.type "slice", data:=.fields #[vl,vu,.none]}};exact tail_any (ops:=[.ref s3.heap.objs.size,v]) ht hT hg (by with_unfolding_all rfl)
def YS(xs:List V)(lo hi:jD):List V:=(xs.drop (HT.sIx xs.length 0 lo)).take (HT.sIx xs.length xs.length hi-HT.sIx xs.length 0 lo)
theorem qE(xs:List V)(lo hi:jD):(YS xs lo hi).length<=xs.length:=by unfold YS;rw[Jh,JG];omega
end
def ixN(n:Nat)(i:Int):Option Nat:=if 0<=i then(if i<n then ju i.toNat else jw)else if -(n:Int)<=i then ju (i+n).toNat else jw
def atI{α:Type}(xs:List α)(i:Int):Option α:=(ixN xs.length i).bind λj=>xs[j]?
theorem Ds{n:Nat}{i:Int}{j:Nat}(h:ixN n i=ju j):seqIndex? i n=ju j/\j<n /\ -(n:Int)<=i/\i<n:=by
 unfold ixN at h;by_cases h0:0<=i
 .rw[Qo h0]at h
  by_cases h1:i<n
  .rw[Qo h1]at h
   have e:i.toNat=j:=Qz h;exact⟨by rw[seqIndex_of h0 h1,e],by omega,by omega,h1⟩
  .rw[QC h1]at h;cases h
 .rw[QC h0]at h
  by_cases h1 : -(n:Int)<=i
  .rw[Qo h1]at h
   have e:(i+n).toNat=j:=Qz h;exact⟨by rw[seqIndex_neg (by omega) h1,e],by omega,h1,by omega⟩
  .rw[QC h1]at h;cases h
theorem Pg{α:Type}{xs:List α}{i:Int}{v:α}(h:atI xs i=ju v):∃j,seqIndex? i xs.length=ju j/\xs[j]?=ju v/\j<xs.length /\ -(xs.length:Int)<=i/\i<xs.length:=by
 unfold atI at h;cases e:ixN xs.length i with
 |none=>rw[e]at h;cases h
 |some j=>rw[e]at h;obtain⟨h1,h2,h3,h4⟩:=Ds e;exact⟨j,h1,h,h2,h3,h4⟩
theorem KE{α:Type}{xs:List α}{j:Nat}{v:α}(h:xs[j]?=ju v):atI xs (j:Int)=ju v:=by
 have hj:j<xs.length:=(Qh.mp h).1;have e:ixN xs.length (j:Int)=ju j:=by unfold ixN;rw[if_pos (by omega),if_pos (by omega)];simp
 unfold atI;rw[e];exact h
def Pf(b:Uj):Prop:=∀o i,subscripted b jy o i=operate [o,i] (getItem o i)
def IxR(X:Cx)(r:R2):Prop:=
 ∀(value slice:Uj)(pins:List (Uh×Obj))(s:Uf)(σ:St)(H:Hp)(x y:V)(v u:Ue)(Q:VK),Inv X pins σ H s->RelV x v->RelV y u->r x y H Q ->
  subscripted slice jy v u=operate [v,u] (getItem v u)->Ul (model X.prog X.w) X.A (subscriptTail value slice v u) (EP X pins σ Q) X.xe s
def MtR(X:Cx)(id:String)(r:V->List V->Hp->VK->Prop):Prop:=
 ∀(pins:List (Uh×Obj))(s:Uf)(σ:St)(H:Hp)(x:V)(xs:List V)(v:Ue)(us:jB)(Q:VK),Inv X pins σ H s->RelV x v->Vals xs us->r x xs H Q ->
  Ul (model X.prog X.w) X.A (call (.builtin id) (v::us)) (EP X pins σ Q) X.xe s
section
variable{X:Cx}{a b:Uj}{ta tb:TE}{pos:Pos}
theorem IxR.or{r r':R2}(h:IxR X r)(h':IxR X r'):IxR X (λx y H Q=>r x y H Q∨r' x y H Q):=by
 intro value slice pins s σ H x y v u Q I rx ry q hs;rcases q with q|q
 .exact h value slice pins s σ H x y v u Q I rx ry q hs
 .exact h' value slice pins s σ H x y v u Q I rx ry q hs
theorem OC{r:R2}(hr:IxR X r)(ha:PE X a ta)(hb:PE X b tb)(hs:Pf b):PE X (.Subscript a b pos) (tOp r ta tb):=by intro pins s σ H Q I h;exact Subscript_ (V9 ha hb I h λv u s2 x y H2 I2 rx ry q=>hr a b pins s2 σ H2 x y v u Q I2 rx ry q (hs _ _))
def rIxL(K:Frag):R2:=λx y H Q=>∃p xs i v,x=.ref p/\y=.int i/\SqL K H p xs/\atI xs i=ju v/\Q v H
def rIxT(K:Frag):R2:=λx y H Q=>∃p xs i v,x=.ref p/\y=.int i/\SqT K H p xs/\atI xs i=ju v/\Q v H
def rIxS:R2:=λx y H Q=>∃z i c,x=.str z/\y=.int i/\z.length<=Uk/\atI z.cps.toList i=ju c/\Q (.str ⟨#[c]⟩) H
theorem Dr:IxR X (rIxL X.K):=by
 intro value slice pins s σ H x y v u Q I rx ry h hs;obtain⟨p,xs,i,z,rfl,rfl,hq,he,q⟩:=h;cases rx;obtain⟨t,rfl⟩:=ry;obtain⟨its,r,pl,hz⟩:=I.list hq;obtain⟨j,h1,h2,h3,h4,h5⟩:=Pg he;obtain⟨w,ew,xQ⟩:=r.get h2;have hl:=r.length;have hn:=Rl;have fin:EP X pins σ Q w s:=⟨z,H,I,xQ,q⟩
 by_cases h0:0<=i
 .have hj:i.toNat=j:=by
   rw[seqIndex_of h0 h5]at h1;exact Qz h1
  exact item_listR pl.isList h0 (by omega) (by rw[hj];simpa using ew) fin hs
 .have hj:(i+(its.toArray.size:Int)).toNat=j:=by
   rw[seqIndex_neg (by omega) h4]at h1;rw[QI,←hl];exact Qz h1
  exact subscriptTail_builtinR (x:=w) pl.isList.typeIs slot_list_getitem.lookup
   (wpAny_getItem_list_neg (Q:=λr s'=>r=w/\EP X pins σ Q r s') pl.isList (by omega) (by rw[List.size_toArray]<;>omega) (by omega) (by rw[hj];simpa using ew) ⟨rfl,fin⟩) hs
theorem FE:IxR X (rIxT X.K):=by
 intro value slice pins s σ H x y v u Q I rx ry h hs;obtain⟨p,xs,i,z,rfl,rfl,hq,he,q⟩:=h;cases rx;obtain⟨t,rfl⟩:=ry;obtain⟨its,r,pl,hz⟩:=I.tuple hq;obtain⟨j,h1,h2,h3,h4,h5⟩:=Pg he;obtain⟨w,ew,xQ⟩:=r.get h2;have hl:=r.length;have hn:=Rl;have fin:EP X pins σ Q w s:=⟨z,H,I,xQ,q⟩
 exact subscriptTail_builtinR (x:=w) pl.typeIs slot_tuple_getitem.lookup
  (getItem_tuple (j:=j) (Q:=λr s'=>r=w/\EP X pins σ Q r s') pl (by omega) (by omega) (by rw[List.size_toArray,←hl];exact h1) (by simpa using ew) ⟨rfl,fin⟩) hs
theorem FD:IxR X rIxS:=by
 intro value slice pins s σ H x y v u Q I rx ry h hs;obtain⟨z,i,c,rfl,rfl,hz,he,q⟩:=h;obtain⟨t,rfl⟩:=rx;obtain⟨t',rfl⟩:=ry;obtain⟨j,h1,h2,h3,h4,h5⟩:=Pg he;have hl:z.cps.toList.length=z.length:=by simp[Str.length]
 rw[hl]at h1 h4 h5;have hn:=Rl;exact tail_any (typeIs_str s z t) slot_str_getitem.lookup (getItem_str (c:=c) (by have e1:decide (i < -(2 ^ 63:Int))=jy:=Qx (by omega);have e2:decide (i ≥ 2 ^ 63)=jy:=Qx (by omega);rw[e1,e2,Bool.or_false]) (by rw[h1];simpa using h2) ⟨.str ⟨#[c]⟩,H,I.tok _,⟨_,rfl⟩,q⟩) hs
def rIx(K:Frag):R2:=λx y H Q=>rIxL K x y H Q∨rIxT K x y H Q∨rIxS x y H Q
theorem OU:IxR X (rIx X.K):=Dr.or (FE.or FD)
theorem qX(lo hi:jD)(n:Nat):(sliceBounds lo hi jw n).1=((HT.sIx n 0 lo:Nat):Int)/\(sliceBounds lo hi jw n).2.1=((HT.sIx n n hi:Nat):Int)/\(sliceBounds lo hi jw n).2.2=1:=by
 refine⟨?_,?_,rfl⟩
 .cases lo with
  |none=>simp[sliceBounds,HT.sIx]
  |some i=>
   simp only[sliceBounds,HT.sIx,Option.getD_none,show(1:Int) > 0 by decide,if_true];by_cases h:i<0
   .simp only[h,if_true]<;>omega
   .simp only[h,Ua]<;>omega
 .cases hi with
  |none=>simp[sliceBounds,HT.sIx]
  |some i=>
   simp only[sliceBounds,HT.sIx,Option.getD_none,show(1:Int) > 0 by decide,if_true];by_cases h:i<0
   .simp only[h,if_true]<;>omega
   .simp only[h,Ua]<;>omega
theorem jo(its:jB)(lo hi:jD):slicePick its.toArray lo hi jw=((its.drop (HT.sIx its.length 0 lo)).take (HT.sIx its.length its.length hi-HT.sIx its.length 0 lo)).toArray:=by obtain⟨h1,h2,h3⟩:=qX lo hi its.toArray.size;unfold slicePick;rw[h1,h2,h3];simp only[sliceRange_one,pick_run,QI]<;>rfl
def rSlL(K:Frag):V->jD->jD->Hp->VK->Prop:=λx lo hi H Q=>∃a xs,x=.ref a/\SqL K H a xs/\∀p,H p=jw->Q (.ref p) (upd H p (.lst (YS xs lo hi)))
theorem Dq:SlR X (rSlL X.K):=by intro pins s σ H x v vl vu lo hi sl Q I rx hs pl pu h;obtain⟨a,xs,rfl,hx,q⟩:=h;cases rx;obtain⟨its,r,ht,hz⟩:=I.list hx;have hlen:=r.length;refine⟨"list", _,slot_list_getitem.lookup,ht.isList.typeIs,?_⟩;refine wpAny_getItem_list_slice ht.isList hs pl pu .none (by simp) ?_ (by rw[List.size_toArray]<;>omega);rw[jo,←hlen];refine⟨.ref s.heap.objs.size,_,I.laid (t':=s.toks) (o:=.lst (YS xs lo hi)) (λb ob q=>Qg _ q) (Qq _) ?_,rfl,q _ (I.hok.fresh (Qq _))⟩;exact⟨QP (qE xs lo hi) hz,_,0,(r.drop (HT.sIx xs.length 0 lo)).take (HT.sIx xs.length xs.length hi-HT.sIx xs.length 0 lo),QA _ jv⟩
theorem Lq:ZQ X (.type "list") (λxs H Q=>∃p ys,xs=[.ref p]/\(SqL X.K H p ys∨SqT X.K H p ys)/\∀l,H l=jw->Q (.ref l) (upd H l (.lst ys))):=by
 intro pins s σ H xs us Q I r h;obtain⟨p,ys,rfl,hq,q⟩:=h;obtain⟨u,rfl,rx⟩:=Tp r;cases rx
 have fin:∀(its:jB),Vals ys its->ys.length<=Uk->∀(h':Heap)(c':Nat),(∀b o',s.heap.get? b=ju o'->h'.get? b=ju o') ->
   h'.get? s.heap.objs.size=ju {cls:=.type "list", dict:=jw,data:=.seq its.toArray c',slots:=#[]}->EP X pins σ Q (.ref s.heap.objs.size) {s with heap:=h'}:=λits r' hz h' c' kp e=>
  ⟨.ref s.heap.objs.size,_,I.laid (t':=s.toks) kp (Qq _) (show Zx X.prog X.w _ h' _ (.lst ys)from⟨hz,its,c',r',e⟩),rfl,q _ (I.hok.fresh (Qq _))⟩
 rcases hq with hq|hq
 .obtain⟨its,r',pl,hz⟩:=I.list hq
  have hlen:=r'.length;obtain⟨o,ho,hc,n,hd⟩:=pl.isList;exact call_list_seq p (.inl jv) ho hc hd (λh' c' kp e=>fin its r' hz h' c' kp e) (by simp only[QI]<;>omega)
 .obtain⟨its,r',pl,hz⟩:=I.tuple hq
  have hlen:=r'.length;obtain⟨o,ho,hc,n,hd⟩:=pl;exact call_list_seq p (.inr jv) ho hc hd (λh' c' kp e=>fin its r' hz h' c' kp e) (by simp only[QI]<;>omega)
theorem jn:ZQ X (.type "tuple") (λxs H Q=>∃p ys,xs=[.ref p]/\((SqL X.K H p ys/\∀l,H l=jw->Q (.ref l) (upd H l (.tup ys)))∨(SqT X.K H p ys/\Q (.ref p) H))):=by
 intro pins s σ H xs us Q I r h;obtain⟨p,ys,rfl,h⟩:=h;obtain⟨u,rfl,rx⟩:=Tp r;cases rx;rcases h with ⟨hq,q⟩|⟨hq,q⟩
 .obtain⟨its,r',pl,hz⟩:=I.list hq
  have hlen:=r'.length;refine call_tuple_list pl.isList (λh' kp=>?_) (by simp only[QI]<;>omega);have I1:Inv X pins σ H {s with heap:=h'}:=I.kept (t':=s.toks) kp
  have I2:Inv X pins σ (upd H h'.objs.size (.tup ys)) {s with heap:=h'.push {cls:=.type "tuple", data:=.seq its.toArray}}:=
   I1.laid (t':=s.toks) (λb o e=>Qg _ e) (Qq _) (show Zx X.prog X.w _ _ _ (.tup ys)from⟨hz,its,r',IsTup.new _ _⟩)
  exact⟨.ref h'.objs.size,_,I2,rfl,q _ (I1.hok.fresh (Qq _))⟩
 .obtain⟨its,r',pl,hz⟩:=I.tuple hq
  exact call_tuple_same pl ⟨.ref p,H,I,rfl,q⟩
def tyV(K:Frag)(T:String)(x:V)(H:Hp):Prop:=match x with
 |.str _=>T = "str"
 |.int _=>T = "int"
 |.ref p=>(T = "list" /\ ∃xs,SqL K H p xs)∨(T = "tuple" /\ ∃o,K.lookup p=ju o/\o.cls=.type "tuple" /\ o.dict=jw) ∨
   (T = "dict" /\ ((∃kvs,H p=ju (.dK kvs)) ∨ ∃kvs,H p=ju (.dT kvs)))∨(T = "set" /\ ∃S n,H p=ju (.set S n))
 |_=>False
theorem FC{pins:List (Uh×Obj)}{σ:St}{H:Hp}{s:Uf}{T:String}{x:V}{v:Ue}(I:Inv X pins σ H s)(r:RelV x v)(ty:tyV X.K T x H) :
  s.TypeIs v T/\∀a,v=.ref a->∃ob,s.heap.get? a=ju ob/\ob.dict=jw:=by
 cases x with
 |str z=>obtain⟨t,rfl⟩:=r;cases (show T = "str" from ty);exact⟨typeIs_str s z t,λ_ e=>nomatch e⟩
 |int i=>obtain⟨t,rfl⟩:=r;cases (show T = "int" from ty);exact⟨typeIs_int s i t,λ_ e=>nomatch e⟩
 |ref p=>
  cases r;rcases ty with ⟨rfl,xs,hq⟩|⟨rfl,o,hk,hc,hd⟩|⟨rfl,hk⟩|⟨rfl,S,n,hk⟩
  .obtain⟨its,_,pl,_⟩:=I.list hq
   refine⟨pl.isList.typeIs,λa e=>?_⟩;cases e;obtain⟨o,n,e,c,hd,_⟩:=pl;exact⟨o,e,hd⟩
  .refine⟨⟨o,I.kIn p o hk,hc⟩,λa e=>?_⟩
   cases e;exact⟨o,I.kIn _ o hk,hd⟩
  .have z:∃o,s.heap.get? p=ju o/\o.ExactDict:=by
    rcases hk with ⟨kvs,hk⟩|⟨kvs,hk⟩
    .obtain⟨_,_,_,_,o,_,_,e,ex,_⟩:=I.hok p _ hk
     exact⟨o,e,ex⟩
    .obtain⟨_,_,_,_,o,_,_,e,ex,_⟩:=I.hok p _ hk
     exact⟨o,e,ex⟩
   obtain⟨o,e,ex⟩:=z;refine⟨⟨o,e,ex.1⟩,λa e2=>?_⟩;cases e2;exact⟨o,e,ex.2.1⟩
  .obtain⟨o,_,_,_,e,ex,_⟩:=I.hok p _ hk
   refine⟨⟨o,e,ex.1⟩,λa e2=>?_⟩;cases e2;exact⟨o,e,ex.2.1⟩
 |_=>exact False.elim ty
def tBM(K:Frag)(T:String)(r:V->List V->Hp->VK->Prop)(to:TE)(t:TA):TE:=λσ H Q=>to σ H λx H1=>tyV K T x H1/\t σ H1 λxs H2=>r x xs H2 Q
variable{o e:Uj}{es:jF}{to:TE}{t:TA}{name:Str}{apos cpos:Pos}{T id:String}{r:V->List V->Hp->VK->Prop}
theorem SO(pa:PlainAttrs T)(slot:Slot T name id)(hty:typeOf (.builtin id)=pure (.type "method_descriptor"))(hm:MtR X id r)(ho:PE X o to)(ha:PA X (e::es) t)
  (hbase:attributeBase o name X.env (eval o X.env)=eval o X.env:=by rfl)
  (hfew:((backTo cpos (Um (e::es) X.env)).all (λx=>!x.1)&&(backToKw cpos (keywordEach [] X.env)).all (λx=>x.1.isSome)
   && decide ((e::es).length+([]:List Keyword).length+(if([]:List Keyword).isEmpty then 0 else 1)<30))=jx:=by rfl)
  (hline:(apos.endLine==cpos.line)=jx:=by rfl) (hs:Um (e::es) X.env=(jy,eval e X.env)::Um es X.env:=by rfl) (hplain:(backTo cpos (Um es X.env)).any (·.1)=jy:=by rfl) :
  PE X (.Call (.Attribute o name apos) (e::es) [] cpos) (tBM X.K T r to t):=by
 intro pins s σ H Q I h;refine wpAny_Call_method_late hbase hfew hline jv (thn (ho pins s σ H _ I h) λv s1 ⟨x,H1,I1,r1,ty,q1⟩=>?_);obtain⟨h1,h2⟩:=FC I1 r1 ty;refine⟨T,id,pa,slot,hty,h1,h2,?_⟩;have hA:=ha cpos pins s1 σ H1 _ I1 q1;rw[hs]at hA⊢;refine Calls.callWith_builtin (by show(jy || (backTo cpos (Um es X.env)).any (·.1))=jy;rw[hplain]<;>rfl) (Calls.evalArgs_plain ?_);exact thn hA λus s2 ⟨vs,H2,I2,r2,q2⟩=>hm pins s2 σ H2 x vs v us Q I2 r1 r2 q2
end
def MtM(X:Cx)(id:String)(r:V->List V->Hp->VK->Prop):Prop:=
 ∀(pins:List (Uh×Obj))(s:Uf)(σ:St)(H:Hp)(x:V)(xs:List V)(v:Ue)(us:jB)(Q:VK),Inv X pins σ H s->RelV x v->Vals xs us->r x xs H Q ->
  Ul (model X.prog X.w) X.A (call (.builtin id) (v::us)) (EP X pins σ Q) X.xe s
theorem Vals.one:∀{x:V}{us:jB},Vals [x] us->∃u,us=[u]/\RelV x u
 |_,_,.cons r .nil=>⟨_,rfl,r⟩
theorem Vals.two:∀{x y:V}{us:jB},Vals [x,y] us->∃u v,us=[u,v]/\RelV x u/\RelV y v
 |_,_,_,.cons r (.cons q .nil)=>⟨_,_,rfl,r,q⟩
theorem Vals.reverse{xs:List V}{us:jB}(h:Vals xs us):Vals xs.reverse us.reverse:=by
 induction h with
 |nil=>exact .nil
 |cons r t ih=>rw[List.reverse_cons,List.reverse_cons];exact Vals.append ih (.cons r .nil)
theorem Vals.rep{xs:List V}{us:jB}(h:Vals xs us):∀k:Nat,Vals (Uq k xs).flatten (Uq k us).flatten
 |0=>.nil
 |k+1=>by rw[Q4,Q4,QU,QU];exact Vals.append h (Vals.rep h k)
theorem MF(its:jB):∀(k:Nat)(acc:jB),
  List.foldl (λx1 x2=>x1++x2) acc.toArray (Uq k its.toArray)=(acc++(Uq k its).flatten).toArray
 |0,acc=>by simp
 |k+1,acc=>by
  have e:acc.toArray++its.toArray=(acc++its).toArray:=by simp
  have e2:(acc++its)++(Uq k its).flatten=acc++(Uq (k+1) its).flatten:=by rw[Q4,QU,JN]
  rw[←e2,←MF its k (acc++its),←e,Q4,List.foldl_cons]
section
variable{X:Cx}{pins:List (Uh×Obj)}{σ:St}{H:Hp}{s:Uf}{l b:Uh}{xs ys zs:List V}
theorem Inv.lset{its its':jB}{n:Nat}{f:Array Ue->Array Ue}{t':Nat}(I:Inv X pins σ H s)(hH:H l=ju (.lst xs))
  (e:s.heap.get? l=ju {cls:=.type "list", data:=.seq its.toArray n}) (hf:f its.toArray=its'.toArray) (hv:Vals ys its') (hz:ys.length<=Uk) :
  Inv X pins σ (upd H l (.lst ys)) {s with heap:=s.heap.update l (Obj.mapSeq f),toks:=t'}:=by
 have q:=PySem.IsL.update e f;rw[hf]at q;refine I.write (x:=l) (e:=l) (by rw[hH];exact trivial) (.inl jv) (λb' u hb hu=>(QL s.heap (Obj.mapSeq f) (Ne.symm hb)).trans hu) ⟨_,q⟩ ?_;exact⟨hz,its',_,hv,q⟩
theorem Inv.lnew{its:jB}{t':Nat}(I:Inv X pins σ H s)(hv:Vals ys its)(hz:ys.length<=Uk) :
  Inv X pins σ (upd H s.heap.objs.size (.lst ys)) {s with heap:=s.heap.push {cls:=.type "list", data:=.seq its.toArray},toks:=t'}:=
 I.laid (λ_ _ q=>Qg _ q) (Qq _) ⟨hz,its,0,hv,QA _ jv⟩
theorem Inv.fresh(I:Inv X pins σ H s):H s.heap.objs.size=jw:=I.hok.fresh (Qq _)
theorem Inv.lstM(I:Inv X pins σ H s)(hH:H l=ju (.lst xs)):xs.length<=Uk/\∃(its:jB)(n:Nat),Vals xs its/\xs.length=its.length/\s.heap.get? l=ju {cls:=.type "list", data:=.seq its.toArray n}:=by obtain⟨z,its,n,r,e⟩:=I.hok l _ hH;exact⟨z,its,n,r,r.length,e⟩
theorem Ba{n:Nat}(h:n<=Uk):Builtin.List.listTooLong n=jy:=by unfold Builtin.List.listTooLong;exact Qx (by omega)
end
section
variable{X:Cx}
def Dp:V->List V->Hp->VK->Prop:=λx vs H Q=>∃l xs y,x=.ref l/\vs=[y]/\H l=ju (.lst xs)/\xs.length<Uk/\Q .non (upd H l (.lst (xs++[y])))
theorem ME:MtM X "list.append" Dp:=by intro pins s σ H x vs v us Q I rx rv h;obtain⟨l,xs,y,rfl,rfl,hH,hz,q⟩:=h;cases rx;obtain⟨u,rfl,ru⟩:=rv.one;obtain⟨z,its,n,r,hl,e⟩:=I.lstM hH;refine call_meets F.slot_list_append ⟨_,e,rfl⟩ F.entry_list_append (F.args_list_append_2 _ _) (PySem.list_append l its.toArray n u (by rw[QI];omega)) ⟨e,?_⟩;refine⟨.non,_,I.lset (its':=its++[u]) hH e (by simp) (r.append (.cons ru .nil)) ?_,rfl,q⟩;rw[Qi,QQ];omega
theorem Do{α:Type}(xs:List α)(k:Nat):(Uq k xs).flatten.length=k*xs.length:=by
 induction k with
 |zero=>simp
 |succ k ih=>rw[Q4,QU,Qi,ih,Nat.succ_mul,Nat.add_comm]
end
section
variable{prog:Ug}{w:World}{A:Around}{E:Ue->Uf->Prop}{s:Uf}
set_option maxRecDepth 100000 in
end
end L2
namespace Att
open PySem PySem.W PySem.Calls PyProof.Rows
theorem jr{P:Params}{h:Heap}:∀(ns:jA)(vs:jB),WellAll P h vs (ns.map WData.int)->IntsAre vs ns:=by
 intro ns;induction ns with
 |nil=>intro vs w;rw[List.map_nil]at w;cases w;exact .nil
 |cons n ns ih=>
  intro vs w;rw[QN]at w;cases w with
  |cons a b=>cases a;exact .cons _ _ (ih _ b)
theorem A8{l:OpenLaw}{n:Nat}(hn:l.most=ju n){P:Params}{h:Heap}{args:List WData}{vals:jB}
  (hpre:l.row.toRowW.claim.pre args=jx) (jU:WellAll P h vals args) :
  ∃a vs ns,vals=[Value.ref a]/\args=[WData.list (ns.map WData.int)]/\h.get? a=ju {cls:=.type "list", data:=.seq vs.toArray}/\IntsAre vs ns/\ns.length<=n:=by
 have hsh:WShape.hasAll [] args [.list .int]=jx:=(pre_splitW hpre).1;have hc:l.pre.holds [] {args:=args}=jx:=(pre_splitW hpre).2;obtain⟨d,r,rfl,h1,h2⟩:=hasAllW_cons hsh;obtain rfl:=hasAllW_nil h2;obtain⟨xs,rfl,h3⟩:=hasW_list h1;obtain⟨ns,rfl⟩:=items_int h3
 have hlen:ns.length<=n:=by
  unfold OpenLaw.pre at hc;have h4:(WTm.not (.lt (.lit (.int (n:Int))) (.len (.arg 0)))).holds [] {args:=[.list (ns.map .int)]}=jx:=by have h4:=(holds_andW hc).1;rw[hn]at h4;exact h4
  have h5:=condW_of h4 (w_not (w_lt w_lit (w_len_list (w_arg jv))));rw[Qb]at h5;refine QZ λq=>?_;have q':(n:Int)<((ns.length:Nat):Int):=by omega
  first
   |(rw[QJ q']at h5;exact absurd h5 (by decide))
   |(simp at h5;omega)
 cases jU with
 |cons w1 w2=>
  cases w2;cases w1 with
  |list ho hall=>exact⟨_,_,ns,rfl,rfl,ho,jr ns _ hall,hlen⟩
theorem A7(l:OpenLaw)(args:List WData):l.row.toRowW.claim.post args (.bool jx) args=jx:=
 postW_of (r:=l.row.toRowW) (X:=(jx==jx))
  (show WShape.has [] (.bool jx) .bool=jx by first|rfl|decide|simp[WShape.has,WShape.arms,WShape.armsAll])
  (show(WTm.eq .res (.lit (.bool jx))).value [] {args:=args,res:=ju (.bool jx),after:=args}=ju (.bool (jx==jx))from w_eq_bool (w_res jv) w_lit) jv
theorem attach_call{l:OpenLaw}{n:Nat}{q:Ug}{loose:List Str}{XP:(Str->jE)->Heap->Prop}{YP:World->Heap->Prop}{d:DefRec}
  (hn:l.most=ju n) (hdf:d.params.defaults=[])
  (call:∀(w:World)(s₀ s₁:Uf)(mg mb:Str->jE)(fa:Uh)(o:Obj)(pm cd doc:Ue)(a:Uh)(vs:jB)(ns:jA),
   Ground q loose [] XP w s₀ mg mb s₁.heap->YP w s₁.heap ->
   s₁.heap.get? fa=ju o->o.data=.func (docDef d.name d.params d.body d.scope pm cd doc)->s₁.heap.CodeRec cd d.name->mg d.name=ju (.ref fa) ->
   s₁.heap.get? a=ju {cls:=.type "list", data:=.seq vs.toArray}->IntsAre vs ns->ns.length<=n->s₁.gens=#[] ->
   codeAny (model l.prog w) callerA (.call (.ref fa) ⟨[.ref a],[]⟩) (λr s'=>r=.ok (.ret (.bool jx))/\OldK s₁.heap s'.heap/\s'.os=s₁.os/\AllBare s'.gens) s₁) :
  WalkO q loose XP YP l.row.toRowW d [] (λf vs=>PySem.call f vs):=by
 intro w s₀ s₁ mg mb G Y fa o pm cd doc dV kV ho hd hcd hD hmg hg args vals as hpre hlay hrd jU hlo;obtain rfl:dV=.none:=Dflts.none hD hdf;obtain rfl:kV=.none:=Dflts.noKw hD;obtain⟨a,vs,ns,rfl,rfl,hobj,hints,hlen⟩:=A8 hn hpre jU;refine enter_call (Jl (call w s₀ s₁ mg mb fa o pm cd doc a vs ns G Y ho (fd_plain hd) hcd hmg hobj hints hlen hg) λr s' hq=>?_);obtain⟨rfl,h2,h3,h4⟩:=hq;exact⟨.inl ⟨.bool jx,.bool jx,[],rfl,λ_=>rfl,.bool jx,A7 l _,λ_=>⟨List.Pairwise.nil,λ_ hm=>(nomatch hm)⟩⟩,h2,h3,h4⟩
end Att
namespace L2
open PySem PySem.Spec PyProof.Rows
theorem X9:∀{vs:jB}{ns:jA},IntsAre vs ns->Vals (ns.map V.int) vs
 |_,_,.nil=>.nil
 |_,_,.cons n t h=>.cons ⟨t,rfl⟩ (X9 h)
def Only(H:Hp):Prop:=∀b,H b=jw ∨ ∃o xs,H b=ju (.frz o (.lst xs))
theorem C9{P:Ug}{w:World}{K:Frag}{mg mb:Str->jE}{CX:CXT}{k:Nat}{fa a:Uh}{fd:Ui}{x:Str}{sp:Sp}{s₁:Uf}{vs:jB}{ns:jA}
  (KX:K.In s₁.heap) (hns:s₁.heap.Ns mainGlobals mg) (hb:s₁.heap.Ns builtinsNs mb) (hbb:∀x:Str,x ≠ "__name__" -> mb x=bootBuiltins x) (hlim:s₁.heap.NoLimit) (hg:s₁.gens=#[])
  (ha:s₁.heap.get? a=ju {cls:=.type "list", data:=.seq vs.toArray}) (hi:IntsAre vs ns) (hl:ns.length<=Uk) (hr:Room k callerA)
  (F:∀base:Heap,K.In base->base.Ns mainGlobals mg->FnOk P w K mg base CX k fa fd [x] sp) (hbind:∀(s:Uf)(u:Ue),BindsTo s fd ⟨[u],[]⟩ [(x,u)])
  (xa:∀H:Hp,Only H->SqL K H a (ns.map V.int)->sp [.ref a] H (λv _=>v=.bl jx) λ_ _ _=>False)
  (hCX:∀H e s',CX [] H s₁ (λ_ _ _=>False) e s'->False) :
  codeAny (model P w) callerA (.call (.ref fa) ⟨[.ref a],[]⟩) (λr s'=>r=.ok (.ret (.bool jx))/\OldK s₁.heap s'.heap/\s'.os=s₁.os/\AllBare s'.gens) s₁:=by
 have rv:=X9 hi;have lenV:=hi.length
 have core:∀H:Hp,Only H->SqL K H a (ns.map V.int)->HOk P w H s₁.heap->(∀b,H b≠jw->b=a)->(H a≠jw->K.lookup a=jw) ->
   codeAny (model P w) callerA (.call (.ref fa) ⟨[.ref a],[]⟩) (λr s'=>r=.ok (.ret (.bool jx))/\OldK s₁.heap s'.heap/\s'.os=s₁.os/\AllBare s'.gens) s₁:=by
  intro H hO hS hok hA hK;have base_of:∀{b:Uh}{o:Obj},s₁.heap.get? b=ju o->H b=jw->(ZT s₁.heap H).get? b=ju o:=λe n=>CD e n
  have noA:∀{b:Uh}{o:Obj}{es:Array DictEntry}{ep:Nat},s₁.heap.get? b=ju o->o.data=.dict es ep->H b=jw:=λ{b o es ep} e d=>by
   cases q:H b with
   |none=>rfl
   |some u=>have e':b=a:=hA b (by rw[q];simp);subst e';rw[ha]at e;cases e;have d':Data.seq vs.toArray _=Data.dict es ep:=d;cases d'
  have nsK:∀{b:Uh}{m:Str->jE},s₁.heap.Ns b m->(ZT s₁.heap H).Ns b m:=λ{b m} ⟨o,es,ep,e,d,r⟩=>⟨o,es,ep,base_of e (noA e d),d,r⟩
  have hKb:K.In (ZT s₁.heap H):=λb o e=>base_of (KX b o e) (by
   cases q:H b with
   |none=>rfl
   |some u=>have e':b=a:=hA b (by rw[q];simp);subst e';rw[hK (by rw[q];simp)]at e;cases e)
  have hM:Mod K mg (ZT s₁.heap H):=⟨hKb,nsK hns,⟨mb,nsK hb,hbb⟩,let ⟨mc,h1,h2⟩:=hlim;⟨mc,nsK h1,h2⟩⟩
  have e0:Env0 P w K mg (ZT s₁.heap H) callerA [] s₁ H:=⟨rfl,hM,λb o e=>E3 e,Nat.le_of_eq (AO _ _),trivial,λb hb=>absurd (show b∈([]:jH)from hb) (by simp),hok,.of_eq hg⟩
  refine Jl ((F _ hKb (nsK hns)).run callerA [] s₁ H ⟨[.ref a],[]⟩ [.ref a] [.ref a] _ _ hr e0 (hbind s₁ (.ref a)) (.cons jv .nil) (xa H hO hS)) λr s' h=>?_
  cases r with
  |error e=>exact(hCX H e s' h).elim
  |ok fl=>
   cases fl with
   |next=>exact False.elim h
   |brk=>exact False.elim h
   |cont=>exact False.elim h
   |ret u=>
    obtain⟨v,H',os,bare,un,hok',r',q⟩:=h;have q':v=.bl jx:=q;subst q';obtain rfl:u=Value.bool jx:=r';refine⟨rfl,OldK.of_keep λb o e=>?_,os,bare⟩;cases q:H b with
    |none=>exact un.keep b o e q (by intro z;exact absurd (show b∈([]:jH)from z) (by simp)) (by simp)
    |some u=>
     rcases hO b with z|⟨ob,xs,z⟩
     .rw[q]at z;cases z
     .have z2:=un.frzs b ob _ z
      obtain⟨e1,_⟩:=hok b _ z;obtain⟨e2,_⟩:=hok' b _ z2;rw[e]at e1;cases e1;exact e2
 cases hk:K.lookup a with
 |some o=>have e:=KX a o hk;rw[ha]at e;cases e;refine core (λ_=>jw) (λ_=>.inl jv) (.inr ⟨_,vs.toArray,_,hk,rfl,rfl,rfl,by rw[List.size_toArray,lenV];exact hl,by simpa using rv⟩) (λb u z=>by have z':(none:Option HO)=ju u:=z;cases z') (λb z=>absurd jv z) λz=>absurd jv z
 |none=>
  refine core (λb=>if b=a then ju (.frz {cls:=.type "list", data:=.seq vs.toArray} (.lst (ns.map V.int)))else jw) (λb=>?_) (.inl (.inr ⟨{cls:=.type "list", data:=.seq vs.toArray},Qo jv⟩)) (λb u z=>?_) (λb z=>?_) λ_=>hk
  .by_cases hb:b=a
   .exact .inr ⟨_,_,Qo hb⟩
   .exact .inl (QC hb)
  .by_cases hb:b=a
   .have z':=(Qo hb).symm.trans z
    cases z';subst hb;exact⟨ha,by rw[Qb];exact hl,vs,_,rv,ha⟩
   .have z':=(QC hb).symm.trans z
    cases z'
  .by_cases hb:b=a
   .exact hb
   .exact absurd (QC hb) z
def Xk(s:Stmt):Arguments:=match s with
 |.FunctionDef _ a _ _ _ _ _ _ _ _=>a
 |_=>{posonlyargs:=[],args:=[],vararg:=jw,kwonlyargs:=[],kw_defaults:=[],kwarg:=jw,defaults:=[]}
def Z9(s:Stmt):List Stmt:=match s with
 |.FunctionDef _ _ b _ _ _ _ _ _ _=>b
 |_=>[]
def KZ(s:Stmt):Scope:=match s with
 |.FunctionDef _ _ _ _ _ _ sc _ _ _=>sc
 |_=>{kind:=.function,names:=[],isGenerator:=jy,isCoroutine:=jy}
abbrev CX0:CXT:=λ_ _ _ _ _ _=>False
abbrev E0:XK:=λ_ _ _=>False
theorem R3{X:Cx}:R8 CX0 X E0:=λ_ _ _ _ _ _ _ h=>h.elim
structure Fun(K:Frag)(x qual:Str)(st:Stmt)(f:Uh)(fd:Ui):Prop where
 ex:∃(oc:Ue)(od:jI)(kV doc pm:Ue)(an:jI)(cdv ct:Ue)(osl:Array jE),
  fd=PySem.W.fnOf x qual (Xk st) (Z9 st) (KZ st) .none kV doc pm an cdv ct/\K.lookup f=ju ⟨oc,od,.func fd,osl⟩/\PySem.W.codeIn K cdv qual=jx
 kp:PySem.W.keepIn K (.ref f)=jx
section
variable{P:Ug}{w:World}{K:Frag}{mg:Str->jE}{base:Heap}
theorem Fun.ok{x qual:Str}{st:Stmt}{f:Uh}{fd:Ui}{N ps:List Str}{k:Nat}{sp:Sp}(F:Fun K x qual st f fd)(S:Vg N ps (KZ st))(len:∀vs H Q E,sp vs H Q E->vs.length=ps.length)
  (hbody:∀(cdv:Ue)(A:Around)(outer:List Env)(s:Uf)(H:Hp)(vs:List V)(Q:VK)(E:XK),Room k (A.deeper (envOfC qual (KZ st) s.heap.objs.size f cdv))->sp vs H Q E ->
   ∃t,PSs (ZG CX0 P w K mg base N qual (KZ st) f cdv A outer s H E).nox (Z9 st) t/\t {nx:=λ_ H'=>Q .non H',rt:=Q} (Xb N vs) H):FnOk P w K mg base CX0 (k+1) f fd ps sp:=by
 obtain⟨oc,od,kV,doc,pm,an,cdv,ct,osl,rfl,lk,hcd⟩:=F.ex;refine OD lk hcd S len λA outer s H vs Q E hr xa=>?_
 obtain⟨t,h,q⟩:=hbody cdv A outer s H vs Q E hr xa;exact⟨t,h.nox,q⟩
theorem Fun.binds{x qual:Str}{st:Stmt}{f:Uh}{fd:Ui}{ps:List Str}(F:Fun K x qual st f fd)
  (h:∀(kV doc pm:Ue)(an:jI)(cdv ct:Ue)(us:jB),us.length=ps.length->bindArgs (PySem.W.fnOf x qual (Xk st) (Z9 st) (KZ st) .none kV doc pm an cdv ct) ⟨us,[]⟩=pure (ps.zip us)):Yq K fd ps []:=by
 obtain⟨oc,od,kV,doc,pm,an,cdv,ct,osl,rfl,lk,hcd⟩:=F.ex;exact .all (h kV doc pm an cdv ct)
end
def Same(H H':Hp):Prop:=∀b o,H b=ju o->H' b=ju o
theorem Same.refl(H:Hp):Same H H:=λ_ _ h=>h
theorem Same.trans{H H1 H2:Hp}(a:Same H H1)(b:Same H1 H2):Same H H2:=λc o h=>b c o (a c o h)
theorem Same.free{H H':Hp}(e:Same H H'){l:Uh}(h:H' l=Option.none):H l=Option.none:=by
 cases q:H l with
 |none=>rfl
 |some o=>rw[e l o q]at h;cases h
theorem Same.seq{K:Frag}{H H':Hp}{a:Uh}{xs:List V}(e:Same H H')(h:SqL K H a xs):SqL K H' a xs:=by
 rcases h with (h|⟨o,h⟩)|h
 .exact .inl (.inl (e _ _ h))
 .exact .inl (.inr ⟨o,e _ _ h⟩)
 .exact .inr h
section
variable{X:Cx}{pins:List (Uh×Obj)}{σ:St}{H:Hp}{s:Uf}{h':Heap}
theorem Inv.turnedNew{t':Nat}{fp:jH}{p:Uh}{o:HO}(I:Inv X pins σ H s)(hf:∀b∈fp,KY X pins H b)
  (k:∀b o,b∉fp->s.heap.get? b=ju o->h'.get? b=ju o) (hp:s.heap.objs.size<=p) (new:Zx X.prog X.w (upd H p o) h' p o) :
  Inv X pins σ (upd H p o) {s with heap:=h',toks:=t'}:=by
 have hn:H p=jw:=I.hok.fresh hp;have trk:∀b u,H b=ju u->b∉fp:=λb u e z=>by rw[(hf b z).1]at e;cases e
 refine I.step (g':=s.gens) (d':=s.drawn) (ch:=fp) (λb hb=>?_) (λb o _ _ hc e _=>k b o hc e) (λb o _ _ hc e _=>⟨o.slots,k b o hc e⟩)
  (λb o _ e n=>by rw[Kn (QH (QE (Qj e) hp))];exact n) (λb o hc e=>⟨o,k b o hc e⟩)
  (λb xs e=>by rw[Kn (YI e hn)];exact e) (λb ob u e=>by rw[Kn (YI e hn)];exact e) (λb ps e=>⟨#[],by rw[Kn (YI e hn),e];simp⟩)
  (λm hm=>?_) (λb u e=>?_) I.bare
 .obtain⟨_,f1,_,f3,f4,f5⟩:=hf b hb
  exact⟨f3,f1,f4,f5⟩
 .obtain⟨ob,es,ep,ho,r⟩:=hm
  exact⟨ob,es,ep,k _ ob (λz=>(hf _ z).2.1 jv) ho,r⟩
 .by_cases hb:b=p
  .subst hb;rw[KP]at e;cases e;exact new
  .rw[Kn hb]at e
   refine(I.hok b u e).stay (λc v hc q=>k c v ?_ q) (λc q=>by rw[Kn (YI q hn)];exact q) λc xs q=>by rw[Kn (YI q hn)];exact q
   rcases hc with z|z
   .rw[z];exact trk b u e
   .exact trk c _ z
theorem Inv.turnedL{t':Nat}{fp:jH}(I:Inv X pins σ H s)(hf:∀b∈fp,KY X pins H b)
  (k:∀b o,b∉fp->s.heap.get? b=ju o->h'.get? b=ju o):Inv X pins σ H {s with heap:=h',toks:=t'}:=by
 have trk:∀b u,H b=ju u->b∉fp:=λb u e z=>by rw[(hf b z).1]at e;cases e
 refine I.step (g':=s.gens) (d':=s.drawn) (ch:=fp) (λb hb=>?_) (λb o _ _ hc e _=>k b o hc e) (λb o _ _ hc e _=>⟨o.slots,k b o hc e⟩)
  (λ_ _ _ _ n=>n) (λb o hc e=>⟨o,k b o hc e⟩) (λ_ _ e=>e) (λ_ _ _ e=>e) (λb ps e=>⟨#[],by rw[e];simp⟩) (λm hm=>?_) (λb u e=>?_) I.bare
 .obtain⟨_,f1,_,f3,f4,f5⟩:=hf b hb
  exact⟨f3,f1,f4,f5⟩
 .obtain⟨ob,es,ep,ho,r⟩:=hm
  exact⟨ob,es,ep,k _ ob (λz=>(hf _ z).2.1 jv) ho,r⟩
 .refine(I.hok b u e).stay (λc v hc q=>k c v ?_ q) (λc q=>q) λc xs q=>q
  rcases hc with z|z
  .rw[z];exact trk b u e
  .exact trk c _ z
end
def Ite(K:Frag)(a:Uh):It:=
 ⟨λi H=>∃xs x,SqL K H a xs/\xs[i]?=ju x,
  λi H v H'=>∃p x,H p=jw/\v=.ref p/\(∀xs,SqL K H a xs->xs[i]?=ju x)/\H'=upd H p (.tup [.int i,x]),
  λi H=>∃xs,SqL K H a xs/\xs.length<=i⟩
theorem A6{P:Ug}{w:World}{K:Frag}{elts:jF}{x1}{tp:Pos}(a e it:Uh)(hne:e≠it) :
  Turn P w K (.Tuple elts x1 tp) (Ite K a) [e,it] e (λi h=>(∃old,IsEnum h e it i old)/\h.IsListIter it a i) where
 mem:=by simp
 obj:=λi h st b hb=>by
  obtain⟨⟨old,he⟩,o,ho,c,d⟩:=st;have hb':b=e∨b=it:=by simpa using hb
  rcases hb' with rfl|rfl
  .exact⟨_,he,λv z=>by have z':Data.fields _=Data.cell v:=z;cases z'⟩
  .exact⟨o,ho,λv z=>by rw[d]at z;cases z⟩
 keep:=λi h h' st k=>by obtain⟨⟨old,he⟩,hi⟩:=st;exact⟨⟨old,k e (by simp) _ he⟩,hi.at λo q=>k it (by simp) o q⟩
 item:=by
  intro X hP hw hK hc i pins s σ H E I hf st hg;subst hP hw hK;obtain⟨⟨old,he⟩,hi⟩:=st;obtain⟨xs,x,hq,hx⟩:=hg;obtain⟨its,rv,p,hz⟩:=I.list hq;obtain⟨u,hu,ru⟩:=rv.get hx;refine wpAny_pyNext_enum_item he hi p.isList (x:=u) (by simpa using hu) hne λh1 out hi1 ht hsz kk=>?_
  refine⟨_,rfl,wpAny_letOwnedTupleGo_enum out λh2 kR hs2=>?_⟩;have hel:e<s.heap.objs.size:=Qj he;have j6:Heap.SameBut e h1 h2:=hs2;have ht2:h2.get? s.heap.objs.size=ju {cls:=.type "tuple", data:=.seq #[.int i s.toks,u]}:=(j6.2 _ (Jz hel)).trans ht
  have kk2:∀b o,b∉[e,it]->s.heap.get? b=ju o->h2.get? b=ju o:=λb o hb q=>by
   have j9:b≠e:=λz=>hb (by simp[z])
   have hbi:b≠it:=λz=>hb (by simp[z])
   exact(j6.2 b j9).trans (kk b o j9 hbi q)
  have hn:H s.heap.objs.size=jw:=I.hok.fresh (Qq _)
  have I2:Inv X pins σ (upd H s.heap.objs.size (.tup [.int i,x])) {s with heap:=h2,toks:=s.toks+1}:=
   I.turnedNew (fp:=[e,it]) hf kk2 (Qq _) ⟨by show 2<=Uk;decide,[.int i s.toks,u],.cons ⟨_,rfl⟩ (.cons ru .nil),⟨_,ht2,rfl,_,rfl⟩⟩
  refine⟨.ref s.heap.objs.size,_,I2,rfl,⟨_,x,hn,rfl,λys hy=>by rw[I.list_inj hy hq];exact hx,rfl⟩,⟨⟨u,?_⟩,?_⟩,λb hb=>?_⟩
  .have:=kR
   simpa using this
  .have hi2:h2.IsListIter it a (i+1):=hi1.at λo q=>(j6.2 it (Ne.symm hne)).trans q
   exact hi2
  .have fr:=(hf b hb)
   have hlt:b<s.heap.objs.size:=by
    have hb':b=e∨b=it:=by simpa using hb
    rcases hb' with rfl|rfl
    .exact hel
    .obtain⟨o,ho,_⟩:=hi;exact Qj ho
   rw[Kn (QH hlt)];exact fr.1
 done:=by intro X hP hw hK hc i pins s σ H E I hf st hg;subst hP hw hK;obtain⟨⟨old,he⟩,hi⟩:=st;obtain⟨xs,hq,hx⟩:=hg;obtain⟨its,rv,p,hz⟩:=I.list hq;have hl:=rv.length;exact wpAny_pyNext_enum_end (I.ok.hd hc) he hi p.isList (by simp;omega) λh' eb=>⟨rfl,I.turnedL (t':=s.toks) hf λb o hb q=>eb b o (λz=>hb (by simp[z])) q⟩
 self:=λ_ _ _ _ _ st h=>by obtain⟨⟨old,he⟩,_⟩:=st;exact wpAny_pyIter_enum he h
section
variable{X:Cx}
def LS(K:Frag)(ta:TA):TI:=λσ H R=>ta σ H λvs H1=>∃a xs,vs=[.ref a]/\SqL K H1 a xs/\R (Ite K a) H1
theorem Dm{a:Uj}{ta:TA}{p pos:Pos}{elts:jF}{x1}{tp:Pos}(hg:Gl X "enumerate")(hm:X.mg "enumerate" = jw)(ha:PA X [a] ta)
  (hs:Um [a] X.env=[(jy,eval a X.env)]:=by rfl):PI X (.Tuple elts x1 tp) (.Call (.Name "enumerate" p) [a] [] pos) (LS X.K ta):=by
 intro pins s σ H R I h;refine Call_ (WP I hg hm boot_enumerate (JE (thn (ha pos pins s σ H _ I h) λus s1 ⟨vs,H1,I1,r1,q1⟩=>?_) hs jv));obtain⟨l,xs,e,hq,q⟩:=q1;subst e;cases r1 with
 |cons r rr=>
  cases rr;cases (show _=Value.ref l from r);obtain⟨its,rv,pl,hz⟩:=I1.list hq;refine call_enumerate_list pl.isList λh' he hi hsz kk=>?_;have I2:Inv X pins σ H1 {s1 with heap:=h'}:=I1.kept (t':=s1.toks) kk;refine wpAny_pyIter_enum he ?_
  refine⟨s1.heap.objs.size+1,[s1.heap.objs.size+1,s1.heap.objs.size],_,_,H1,rfl,I2,A6 l _ _ (Nat.succ_ne_self _),⟨⟨_,he⟩,hi⟩,λb hb=>?_,q⟩;have hb':b=s1.heap.objs.size+1∨b=s1.heap.objs.size:=by simpa using hb
  rcases hb' with rfl|rfl
  .exact I1.fpOk (JF _) (I1.hok.fresh (JF _))
  .exact I1.fpOk (Qq _) (I1.hok.fresh (Qq _))
end
end L2
namespace L2
open PySem PySem.Spec
def Tail(bmB bm:jB):Prop:=∀(X:String)(b:Bool),bmB.contains (.type X)=b->bm.contains (.type X)=b
theorem Tail.base{bmB:jB}:Tail bmB bmB:=λ_ _ h=>h
theorem Tail.own{bmB bm:jB}{D:Uh}(T:Tail bmB bm):Tail bmB (.ref D::bm):=λX b h=>by rw[Q2,T X b h];rfl
section
variable{prog:Ug}{w:World}{A:Around}{E:Ue->Uf->Prop}{h:Heap}{g:Array GenState}{d:Drawn}{t:Nat}{os:OsState}{R:Result->Uf->Prop}
variable{nm q:Str}{C N:Uh}{bs bm bmB:jB}{hdct:Bool}{sn:List Str}{sub:jB}{ab:Bool}{col:jJ}{dd:jI}{k0 k1 k2 k3 k5:jE}{B newId initId:String}
theorem qf{M:Model}(F:ExcBaseFacts B newId initId bmB)(T:Tail bmB bm){rest:jB}{Q:Unit->Uf->Prop}(hC:h.get? C=ju (excClassObj nm q C N bs bm hdct sn sub ab col dd k0 k1 k2 k3 k5 newId))
  (hq:Q () ⟨h,g,d,t,os⟩):Ul M A (checkBuiltinCall newId ⟨.ref C::rest,[]⟩) Q E ⟨h,g,d,t,os⟩:=by
 have vf:(Value.ref C::bm).contains (.type B)=jx:=by rw[Q2,T _ _ F.hasB,Bool.or_true]
 have hstar:=F.noStar;simp only[checkBuiltinCall,F.newKind,F.newSplit,F.newRow]
 repeat (first|refine Qn hC ?_|(refine QK hC ?_;rw[vf])|refine wpAny_staticBase_exc hC ?_|refine wpAny_madeBy_exc hC ?_|simp only[bne_self_eq_false,Jy,Ua] | wp_step)
 exact hq
theorem C8(F:ExcBaseFacts B newId initId bmB)(T:Tail bmB bm){rest:jB}(hC:h.get? C=ju (excClassObj nm q C N bs bm hdct sn sub ab col dd k0 k1 k2 k3 k5 newId))
  (hq:R (.ok (.ret (.ref (h.objs.size+1)))) ⟨(h.push {cls:=.type "tuple", data:=.seq rest.toArray}).push
   {cls:=.ref C,data:=.fields #[.ref h.objs.size,.none,.none,.none,.bool jy,.none]},g,d,t,os⟩) (hrest:rest.length<=Uk) :
  codeAny (model prog w) A (.builtin newId ⟨.ref C::rest,[]⟩) R ⟨h,g,d,t,os⟩:=by
 have hends:=F.ends;have kN:(Value.ref C::bm).contains (.type B)=jx:=by rw[Q2,T _ _ F.hasB,Bool.or_true]
 have hcA:(Value.ref C::bm).contains (.type "AttributeError")=jy:=by rw[Q2,T _ _ F.noAttr];rfl
 have hcN:(Value.ref C::bm).contains (.type "NameError")=jy:=by rw[Q2,T _ _ F.noName];rfl
 refine codeAny_builtinAt F.entry ?_;unfold Builtin.«BaseException.__new__»;refine wpAt_bind ?_;show wpAt _ _ _ (stack >>= _) _ _ _;refine wpAt_bind (wpAt_stack λp below=>wpAt_of_wpAny ?_)
 wp_walk
 refine wpAt_of_wpAny ?_;rw[F.owner]
 repeat (first|with_reducible refine wpAny_madeHere_exc F.canon hC ?_|with_reducible refine Qn hC ?_|(with_reducible refine QK hC ?_;first|rw[kN] | rw[hcA] | rw[hcN])|wp_step)
 show R _ _;rw[Heap.size_push];exact hq
def OT(M:Model)(C fI:Uh)(h:Heap):Prop:=∀(A:Around)(E:Ue->Uf->Prop)(Q:jE->Uf->Prop)(h':Heap)(g:Array GenState)(d:Drawn)(t:Nat)(os:OsState),
 (∀b o,h.get? b=ju o->h'.get? b=ju o)->Q (ju (.ref fI)) ⟨h',g,d,t,os⟩->Ul M A (typeLookup (.ref C) "__init__") Q E ⟨h',g,d,t,os⟩
theorem qe(F:ExcBaseFacts B newId initId bmB)(T:Tail bmB bm){rest:jB}{fI:Uh}{oI:Obj}{Q:Fin->Uf->Prop}
  (hC:h.get? C=ju (excClassObj nm q C N bs bm hdct sn sub ab col dd k0 k1 k2 k3 k5 newId)) (hi:OT (model prog w) C fI h)
  (hfI:h.get? fI=ju oI) (hfc:oI.cls=.type "function")
  (hq:∀h' e,Heap.MadeExcOf h h' e (.ref C) rest->h.objs.size<=e ->
   Ul (model prog w) A (call (.ref fI) (.ref e::rest)) (λr s'=>r=.none/\Q (.done (.ret (.ref e))) s') E ⟨h',g,d,t,os⟩) (hrest:rest.length<=Uk) :
  Ul (model prog w) A (Builtin.«type.__call__» ⟨.ref C::rest,[]⟩) Q E ⟨h,g,d,t,os⟩:=by
 repeat (first|with_reducible refine Qn hC ?_|with_reducible refine wpAny_madeBy_exc hC ?_|wp_step)
 refine codeAny_call_builtin_code (Code.quiet_builtin _ F.quiet) (qf F T hC ?_);refine C8 F T hC ?_ hrest;show Ul _ _ _ _ _ _
 have hC₁:=Qg {cls:=.ref C,data:=.fields #[.ref h.objs.size,.none,.none,.none,.bool jy,.none]}
  (Qg {cls:=.type "tuple", data:=.seq rest.toArray} hC)
 have hfI₁:=Qg {cls:=.ref C,data:=.fields #[.ref h.objs.size,.none,.none,.none,.bool jy,.none]}
  (Qg {cls:=.type "tuple", data:=.seq rest.toArray} hfI)
 have hget:((h.push {cls:=.type "tuple", data:=.seq rest.toArray}).push
   {cls:=.ref C,data:=.fields #[.ref h.objs.size,.none,.none,.none,.bool jy,.none]}).get? (h.objs.size+1)=ju
   {cls:=.ref C,data:=.fields #[.ref h.objs.size,.none,.none,.none,.bool jy,.none]}:=by heap_get
 have hcC:(Value.ref C::bm).contains (.ref C)=jx:=by simp
 unfold isInstance
 repeat (first|with_reducible refine Qn hget ?_|(with_reducible refine QK hC₁ ?_;rw[hcC])|wp_step)
 show Ul _ _ (typeLookup (.ref C) _) _ _ _;refine hi _ _ _ _ _ _ _ _ (λb o hb=>Qg _ (Qg _ hb)) ?_;refine Js (Qd ?_);unfold bindSpecial;refine Qd (wpAny_typeOf (T:= "function") ⟨_,hfI₁,hfc⟩ ?_);rw[Qo (by decide)];refine Qk (Qd (Qv (hq _ (h.objs.size+1) ⟨λb o hb=>Qg _ (Qg _ hb),Heap.get?_none_of_le (JF _),h.objs.size,hget,Heap.get?_none_of_le (Qq _),?_⟩ (JF _)) (λr s' hr=>?_) λ_ _ x=>x))
 .exact Qg _ (Heap.get?_push_at jv jv)
 .obtain⟨rfl,hQ⟩:=hr
  wp_walk
  exact hQ
theorem A5(F:ExcBaseFacts B newId initId bmB)(T:Tail bmB bm){rest:jB}{fI:Uh}{oI:Obj}{Q:Ue->Uf->Prop}
  (hC:h.get? C=ju (excClassObj nm q C N bs bm hdct sn sub ab col dd k0 k1 k2 k3 k5 newId)) (hi:OT (model prog w) C fI h)
  (hfI:h.get? fI=ju oI) (hfc:oI.cls=.type "function")
  (hq:∀h' e,Heap.MadeExcOf h h' e (.ref C) rest->h.objs.size<=e ->
   Ul (model prog w) (A.under (.builtin "type.__call__" ⟨.ref C::rest,[]⟩)) (call (.ref fI) (.ref e::rest)) (λr s'=>r=.none/\Q (.ref e) s') E ⟨h',g,d,t,os⟩) (hrest:rest.length<=Uk) :
  Ul (model prog w) A (call (.ref C) rest) Q E ⟨h,g,d,t,os⟩:=by
 have f1:=tc_lookup;have f2:=tc_bind (.ref C);have hT:(⟨h,g,d,t,os⟩:Uf).TypeIs (.ref C) "type" :=⟨_,hC,rfl⟩
 refine wpAny_call (codeAny_of_tree ?_);show Ul _ _ (callAny (.ref C) _) _ _ _
 repeat (any_goals (first|assumption|with_reducible refine Qn hC ?_|wp_step))
 refine⟨rfl,?_⟩;refine codeAny_call_builtin_at (Code.quiet_builtin _ (by decide +kernel)) entry_typeCall (wpAny_check_type_call_sub hC (qe (hrest:=hrest) F T hC hi hfI hfc λh' e hm hz=>?_));exact hq h' e hm hz
end
def Zi(M:Model)(C:Uh)(name:Str)(r:jE)(h:Heap):Prop:=∀(A:Around)(E:Ue->Uf->Prop)(Q:jE->Uf->Prop)(h':Heap)(g:Array GenState)(d:Drawn)(t:Nat)(os:OsState),
 (∀b o,h.get? b=ju o->h'.get? b=ju o)->Q r ⟨h',g,d,t,os⟩->Ul M A (typeLookup (.ref C) name) Q E ⟨h',g,d,t,os⟩
theorem Zi.keeps{M:Model}{C:Uh}{name:Str}{r:jE}{h h':Heap}(x:Zi M C name r h)(k:∀b o,h.get? b=ju o->h'.get? b=ju o):Zi M C name r h':=
 λA E Q h2 g d t os k2 q=>x A E Q h2 g d t os (λb o e=>k2 b o (k b o e)) q
theorem Zi.at{M:Model}{A:Around}{E:Ue->Uf->Prop}{Q:jE->Uf->Prop}{C:Uh}{name:Str}{r:jE}{h:Heap}{g:Array GenState}{d:Drawn}{t:Nat}{os:OsState}(x:Zi M C name r h)(q:Q r ⟨h,g,d,t,os⟩):Ul M A (typeLookup (.ref C) name) Q E ⟨h,g,d,t,os⟩:=
 x A E Q h g d t os (λ_ _ e=>e) q
section
variable{prog:Ug}{w:World}{A:Around}{E:Ue->Uf->Prop}{h:Heap}{g:Array GenState}{d:Drawn}{t:Nat}{os:OsState}{R:Result->Uf->Prop}
variable{nm q:Str}{C N x:Uh}{bs bm bmB:jB}{hdct:Bool}{sn:List Str}{sub:jB}{ab:Bool}{col:jJ}{dd:jI}{k0 k1 k2 k3 k5:jE}{B newId sa owner:String}{mN mA:Str->jE}{name:Str}{v:Ue}
def Yp(M:Model)(l:jB)(name:Str)(r:jE)(h:Heap):Prop:=∀(A:Around)(E:Ue->Uf->Prop)(Q:jE->Uf->Prop)(h':Heap)(g:Array GenState)(d:Drawn)(t:Nat)(os:OsState),
 (∀b o,h.get? b=ju o->h'.get? b=ju o)->Q r ⟨h',g,d,t,os⟩->Ul M A (lookupAlong l name) Q E ⟨h',g,d,t,os⟩
theorem Yp.base{M:Model}{y:jE}(hm:mroOf (.type B)=pure bm)(hB:typeLookup (.type B) name=pure y):Yp M bm name y h:=λA E Q h' g d t os k q=>by rw[typeLookup_eq,hm]at hB;have hrest:lookupAlong bm name=pure y:=hB;rw[hrest];exact Qk q
theorem Yp.hit{M:Model}{D:Uh}{c0:Ue}{kf:jI}{cd:ClassData}{sl:Array jE}(hD:h.get? D=ju {cls:=c0,dict:=kf,data:=.cls cd,slots:=sl})(hn:h.Ns cd.ns mN)(hi:mN name=ju v):Yp M (.ref D::bm) name (ju v) h:=λA E Q h' g d t os k q=>by rw[lookupAlong_cons];refine Qd (wpAny_classOwn_cls (k _ _ hD) (hn.keeps k) ?_);rw[hi];exact Qk q
theorem Yp.miss{M:Model}{D:Uh}{r:jE}{c0:Ue}{kf:jI}{cd:ClassData}{sl:Array jE}(hD:h.get? D=ju {cls:=c0,dict:=kf,data:=.cls cd,slots:=sl})(hn:h.Ns cd.ns mN)(hi:mN name=jw)(f:Yp M bm name r h):Yp M (.ref D::bm) name r h:=λA E Q h' g d t os k q=>by rw[lookupAlong_cons];refine Qd (wpAny_classOwn_cls (k _ _ hD) (hn.keeps k) ?_);rw[hi];exact f A E Q h' g d t os k q
theorem Zi.of{M:Model}{r:jE}(hC:h.get? C=ju (excClassObj nm q C N bs bm hdct sn sub ab col dd k0 k1 k2 k3 k5 newId))(f:Yp M (.ref C::bm) name r h):Zi M C name r h:=λA E Q h' g d t os k q=>by rw[typeLookup_eq];exact Qd (wpAny_mroOf_exc (k _ _ hC) (f A E Q h' g d t os k q))
theorem A4{M:Model}{o:Obj}{nameV:Ue}{Q:Unit->Uf->Prop}(T:Tail bmB bm)(hb:bmB.contains (.type "BaseException")=jx)(hC:h.get? C=ju (excClassObj nm q C N bs bm hdct sn sub ab col dd k0 k1 k2 k3 k5 newId))
  (hx:h.get? x=ju o) (hc:o.cls=.ref C) (hq:Q () ⟨h,g,d,t,os⟩):Ul M A (checkBuiltinCall "BaseException.__getattribute__" ⟨[.ref x,nameV],[]⟩) Q E ⟨h,g,d,t,os⟩:=by
 have hk:builtinKind "BaseException.__getattribute__" = ju .slot:=by decide +kernel
 have hsplit:splitId "BaseException.__getattribute__" = ju ("BaseException", "__getattribute__"):=by decide +kernel
 have kN:(Value.ref C::bm).contains (.type "BaseException")=jx:=by rw[Q2,T _ _ hb];rfl
 have ha:=PySem.F.args_bexc_ga (.ref x) nameV;simp only[checkBuiltinCall,hk,hsplit];refine Qd ?_
 .unfold isInstance
  repeat (first|(with_reducible refine Qn hx ?_;rw[hc])|(with_reducible refine QK hC ?_;rw[kN])|wp_step)
  exact hq
end
theorem Wf{o:Obj}{vs:Array Ue}(f:Array Ue->Array Ue)(h:o.data=.fields vs):Obj.mapFields f o = {o with data:=.fields (f vs)}:=by obtain⟨c,d,dt,sl⟩:=o;cases h;rfl
def Tb(h:Heap)(e:Uh)(vs:Array Ue)(fl:Ue):Prop:=∃T oT ts,vs[1]?=ju (.ref T)/\T≠e/\h.get? T=ju oT/\oT.data=.fields ts/\ts[3]?=ju fl
def Fly(h:Heap)(e:Uh):Prop:=∃oe vs,h.get? e=ju oe/\oe.data=.fields vs/\(vs[1]?=ju .none∨Tb h e vs .none)
structure Rk(fs:jH)(e:Uh)(h h':Heap):Prop where
 keep:∀b o,b≠e->b∉fs->h.get? b=ju o->h'.get? b=ju o
 slot:∀b o,b≠e->h.get? b=ju o->∃sl,h'.get? b=ju {o with slots:=sl}
 own:∀oe,h.get? e=ju oe->∃vs,h'.get? e=ju {oe with data:=.fields vs}
section
variable{M:Model}{A:Around}{E:Ue->Uf->Prop}{s:Uf}{base:Heap}{env:Env}{outer:List Env}{L e:Uh}
theorem newEntry{oe:Obj}{vs:Array Ue}{head:Ue}{hadNext:Bool}{Q:Unit->Uf->Prop}(hfr:A.frames=ju (env::outer))(hl:s.heap.FunFrames base (env::outer))(hf:env.frame=ju L)
  (he:s.heap.get? e=ju oe) (hd:oe.data=.fields vs) (hsz:1<vs.size)
  (h:∀h',Rk (frs (env::outer)) e s.heap h'->Fly h' e->Q () {s with heap:=h'}) :
  Ul M A (do let a ←frameOf env;let pl ←entryPlaceOf L hadNext;let b ←EntryCells.newEntry head a .none (rawInt L) .none pl;setField (.ref e) 1 b) (λ_ s'=>Ul M A (setFlight (.ref e) jw) Q E s') E s:=by
 have hene:e∉(env::outer).filterMap (·.frame):=λhm=>by obtain⟨_,o,ho,hnf⟩:=hl.mem hm;rw[he]at ho;injection ho with ho;subst ho;exact hnf vs hd
 refine Qd (wpAny_frameOf_fun hfr hl hf λh₁ hs₁=>?_);refine Qd (wpAny_entryPlaceOf λpl hpl=>?_);unfold EntryCells.newEntry newFields;refine Qd (wpAny_newObj_type ?_ (hpl.sizeOk5 _ _ _ _ _));have he₁:h₁.get? e=ju oe:=(hs₁.2.1 e hene).trans he;have he₂:=Qg (h:=h₁) {cls:=.type "traceback", dict:=jw,data:=.fields ([head,.ref L,.none,rawInt L,.none]++(if pl.isEmpty then Uq 6 Value.none else pl)).toArray} he₁;refine wpAny_setField he₂ hd hsz ?_;have xL:h₁.objs.size≠e:=Jz (Qj he₁);have hd₃:=Obj.data_mapFields hd (·.setIfInBounds 1 (Value.ref h₁.objs.size));have he₃:=Jd (Obj.mapFields (·.setIfInBounds 1 (Value.ref h₁.objs.size))) he₂ (Obj.isFreed_of_fields hd₃)
 have hT₃:=(QL (h₁.push {cls:=.type "traceback", dict:=jw,data:=.fields ([head,.ref L,.none,rawInt L,.none]++(if pl.isEmpty then Uq 6 Value.none else pl)).toArray})
  (Obj.mapFields (·.setIfInBounds 1 (Value.ref h₁.objs.size))) (Ne.symm xL)).trans (QA h₁ jv)
 unfold setFlight;refine wpAny_bind (wpAny_field he₃ hd₃ (x:=.ref h₁.objs.size) (by simp[hsz]) ?_);rw[if_pos (show(Value.ref h₁.objs.size != Value.none)=jx from by simp)];refine wpAny_setField hT₃ jv (by simp only[QI,Qi,QR,QM]<;>omega) (h _ ?_ ?_)
 .have keep:∀b o,b≠e->h₁.get? b=ju o ->
    (((h₁.push {cls:=.type "traceback", dict:=jw,data:=.fields ([head,.ref L,.none,rawInt L,.none]++(if pl.isEmpty then Uq 6 Value.none else pl)).toArray}).update e (Obj.mapFields (·.setIfInBounds 1 (Value.ref h₁.objs.size)))).update h₁.objs.size
     (Obj.mapFields (·.setIfInBounds 3 ((none:jI).elim Value.none λf=>rawInt f)))).get? b=ju o:=λb o j9 hb=>by
   have xC:h₁.objs.size≠b:=Jz (Qj hb);rw[QL _ _ xC,QL _ _ (Ne.symm j9)];exact Qg _ hb
  refine⟨λb o hb hf hg=>keep b o hb ((hs₁.2.1 b hf).trans hg),λb o hb hg=>?_,λoe' z=>?_⟩
  .obtain⟨sl,hs⟩:=hs₁.2.2 b o hg
   exact⟨sl,keep b _ hb hs⟩
  .rw[he]at z;cases z
   exact⟨_,by rw[QL _ _ xL,he₃,Wf _ hd]⟩
 .refine⟨_,_,?_,hd₃,.inr ⟨h₁.objs.size,_,_,by simp[hsz],xL,Heap.get?_update_self _ hT₃ (Obj.isFreed_of_fields (Obj.data_mapFields rfl _)),Obj.data_mapFields rfl _,by first|(simp;done)|(rcases hpl with rfl|⟨_,_,_,_,_,_,_,rfl⟩<;>simp)⟩⟩
  rw[QL _ _ xL];exact he₃
theorem note{Q:Unit->Uf->Prop}(hfr:A.frames=ju (env::outer))(hl:s.heap.FunFrames base (env::outer))(hf:env.frame=ju L)(x:Fly s.heap e)
  (h:∀h',Rk (frs (env::outer)) e s.heap h'->Fly h' e->Q () {s with heap:=h'}):Ul M A (noteFrame (.ref e) env) (λ_ s'=>Ul M A (setFlight (.ref e) jw) Q E s') E s:=by
 obtain⟨oe,vs,he,hd,h1⟩:=x;unfold noteFrame;simp only[hf];rcases h1 with h1|⟨T,oT,ts,h1,xL,hT,kP,h3⟩
 .refine Qd (Q8 he hd h1 ?_)
  rw[QC (by decide)];exact newEntry hfr hl hf he hd (Jq.mp h1).1 h
 .refine Qd (Q8 he hd h1 ?_)
  rw[if_pos (show(Value.ref T != Value.none)=jx from by simp)];refine Qd (Q8 hT kP h3 ?_);rw[if_neg (show ¬((Value.none==rawInt L)=jx)from by simp[rawInt])];obtain⟨hs3,hv3⟩:=Jq.mp h3;refine Qd (wpAny_setField hT kP hs3 ?_)
  have same:∀b o,s.heap.get? b=ju o->(s.heap.update T (Obj.mapFields (·.setIfInBounds 3 Value.none))).get? b=ju o:=λb o hb=>by
   by_cases xC:b=T
   .subst xC
    rw[hT]at hb;cases hb;rw[Jd _ hT (Obj.isFreed_of_fields (Obj.data_mapFields kP _)),Wf _ kP]
    have:ts.setIfInBounds 3 Value.none=ts:=by
     apply Array.ext_getElem?;intro i;rw[Array.getElem?_setIfInBounds];split
     .rename_i z
      subst z;exact h3.symm
     .rfl
    rw[this,←kP]
   .rw[QL _ _ (Ne.symm xC)];exact hb
  exact newEntry hfr (hl.of_keeps λb o hb hnf=>⟨o,same b o hb,rfl⟩) hf (same e oe he) hd (Jq.mp h1).1
   λh' p t=>h h' ⟨λb o a c g=>p.keep b o a c (same b o g),λb o a g=>p.slot b o a (same b o g),λoe' z=>p.own oe' (same e oe' z)⟩ t
theorem FA{Q:Unit->Uf->Prop}(hfr:A.frames=ju (env::outer))(hl:s.heap.FunFrames base (env::outer))(hf:env.frame=ju L)(x:Fly s.heap e)
  (h:∀h',Rk (frs (env::outer)) e s.heap h'->Fly h' e->Q () {s with heap:=h'}):Ul M A (leaving env (.ref e)) Q E s:=by
 unfold leaving;exact Qd (note hfr hl hf x h)
end
end L2
namespace L2
open PySem PySem.Spec PyProof.Rows PySem.Calls PyProof.V
def XO(fr:Bool)(e C:Uh)(dd:jI):Heap->Prop:=λh=>∃vs sl,h.get? e=ju {cls:=.ref C,dict:=dd,data:=.fields vs,slots:=sl}/\(fr=jx->vs[1]?=ju .none/\∃t0,vs[0]?=ju (.ref t0))
theorem XO.ok{P:Ug}{w:World}{H:Hp}{h:Heap}{fr:Bool}{e C:Uh}{dd:jI}(x:XO fr e C dd h):Zx P w H h e (.ext (XO fr e C dd)):=
 ⟨x,let ⟨_,_,q,_⟩:=x;⟨_,q⟩,λh1 h2 ⟨vs,sl,q,z⟩ k=>⟨vs,sl,k _ q,z⟩⟩
theorem XO.fly{h:Heap}{e C:Uh}{dd:jI}(x:XO jx e C dd h):Fly h e:=let ⟨vs,_,q,z⟩:=x;⟨_,vs,q,rfl,.inl (z jv).1⟩
theorem XO.old{h:Heap}{fr:Bool}{e C:Uh}{dd:jI}(x:XO fr e C dd h):XO jy e C dd h:=let ⟨vs,sl,q,_⟩:=x;⟨vs,sl,q,λz=>nomatch z⟩
def CX1(P:Ug)(w:World):CXT:=λouter H s E v s'=>∃e C dd H',v=.ref e/\s'.os=s.os/\AllBare s'.gens/\Un (frs outer) [] H H' s.heap s'.heap/\HOk P w H' s'.heap/\H' e=ju (.ext (XO jy e C dd))/\Fly s'.heap e/\E (.ref e) jw H'
section
variable{X:Cx}{pins:List (Uh×Obj)}{σ:St}{H:Hp}{s:Uf}{e C:Uh}{dd:jI}{h':Heap}
theorem Inv.passed(I:Inv X pins σ H s)(hx:H e=ju (.ext (XO jy e C dd)))(p:Rk (frs X.stack) e s.heap h'):Inv X pins σ H {s with heap:=h'}:=by
 have ne:∀b,H b=jw->b≠e:=λb n z=>by rw[z,hx]at n;cases n
 refine I.call (g':=s.gens) (t':=s.toks) (d':=s.drawn) (ch:=[]) ⟨λb o g n f _=>p.keep b o (ne b n) f g,λb o g n _ _=>p.slot b o (ne b n) g,λb o _ n _=>n,λb o g _=>?_,λ_ _ z=>z,λ_ _ _ z=>z,λb ps z=>⟨#[],by rw[z];simp⟩⟩ (λa o q=>?_) I.bare λb z=>absurd z (by simp)
 .by_cases hb:b=e
  .subst hb
   obtain⟨vs,z⟩:=p.own o g;exact⟨_,z⟩
  .obtain⟨sl,z⟩:=p.slot b o hb g
   exact⟨_,z⟩
 .by_cases ha:a=e
  .subst ha
   rw[hx]at q;cases q;obtain⟨⟨vs,sl,g,_⟩,_,_⟩:=I.hok a _ hx;obtain⟨vs',z⟩:=p.own _ g;exact XO.ok ⟨vs',sl,z,λz=>nomatch z⟩
  .refine(I.hok a o q).stay (λb u hb g=>p.keep b u ?_ (λz=>?_) g) (λ_ z=>z) λ_ _ z=>z
   .rcases hb with rfl|hb
    .exact ha
    .rintro rfl;rw[hx]at hb;cases hb
   .have n:=I.stkFree b z
    rcases hb with rfl|hb
    .rw[q]at n;cases n
    .rw[hb]at n;cases n
def XG(X:Cx)(KX:V->St->Hp->Prop):Prop:=∀(pins:List (Uh×Obj))(σ:St)(H:Hp)(s:Uf)(e C:Uh)(dd:jI),Inv X pins σ H s->H e=ju (.ext (XO jy e C dd))->Fly s.heap e->KX (.ref e) σ H->X.xe (.ref e) s
theorem C7{P:Ug}{w:World}{K:Frag}{mg:Str->jE}{base:Heap}{N:List Str}{qual:Str}{scope:Scope}{f:Uh}{cd:Ue}{A:Around}{outer:List Env}{s₀:Uf}{H₀:Hp}{E:XK} :
  XG (ZG (CX1 P w) P w K mg base N qual scope f cd A outer s₀ H₀ E) λv _ H=>∃e,v=.ref e/\E (.ref e) jw H:=by
 intro pins σ H s e C dd I hx fl ⟨e',ee,hE⟩;cases ee;refine FA (L:=s₀.heap.objs.size) I.ok.frames I.stack jv fl λh' p fl'=>?_;have I':=I.passed hx p
 exact⟨e,C,dd,H,rfl,I'.os,I'.bare,I'.base,I'.hok,hx,fl',hE⟩
theorem XG.pass{KX:V->St->Hp->Prop}{E:XK}{v:Ue}{s':Uf}(hw:XG X KX)(I:Inv X pins σ H s)(h:CX1 X.prog X.w X.stack H s E v s')(hk:∀e H,E (.ref e) jw H->KX (.ref e) σ H):X.xe v s':=by obtain⟨e,C,dd,H',rfl,os,bare,un,hok,hx,fl,hE⟩:=h;obtain⟨hh,g,d,t,os'⟩:=s';obtain rfl:os'=s.os:=os;exact hw pins σ H' _ e C dd (I.call (h':=hh) (g':=g) (d':=d) (t':=t) (ch:=[]) un hok bare (λb z=>absurd z (by simp))) hx fl (hk e H' hE)
end
abbrev VB:jB:=[.type "ValueError", .type "Exception", .type "BaseException", .type "object"]
structure XCls(M:Model)(base:Heap)(C:Uh)(bm:jB)(fI:Uh):Prop where
 obj:∃nm q N bs sn sub ab col dd k0 k1 k2 k3 k5,base.get? C=ju (excClassObj nm q C N bs bm jx sn sub ab col dd k0 k1 k2 k3 k5 "ValueError.__new__")
 tail:Tail VB bm
 init:Zi M C "__init__" (ju (.ref fI)) base
 fn:∃o,base.get? fI=ju o/\o.cls=.type "function"
 sa:Zi M C "__setattr__" (ju (.builtin "object.__setattr__")) base
 ga:Zi M C "__getattribute__" (ju (.builtin "BaseException.__getattribute__")) base
 gh:Zi M C "__getattr__" none base
 cl:Zi M C "__class__" (ju (.builtin "object.__class__")) base
 pass:∀v,refuseLoop v "__setattr__" bm=pure ()
section
variable{X:Cx}{k:Nat}{f C:Uh}{fd:Ui}{ps:List Str}{sp:Sp}{x:Str}{p pos cpos:Pos}{e:Uj}{es:jF}{t:TA}{bm:jB}
theorem A3{pins:List (Uh×Obj)}{σ:St}{H:Hp}{s:Uf}{Q:VK}{us:jB}{vs:List V}(M:XCls (model X.prog X.w) X.base C bm f)(F:FnOk X.prog X.w X.K X.mg X.base CX0 k f fd ps sp)(hr:Room (k+1) X.A)(hb:Yq X.K fd ps [])
  (I:Inv X pins σ H s) (r:Vals vs us) (hl:us.length<=Uk)
  (h:∀a,H a=jw->sp (.ref a::vs) (upd H a (.ext (XO jx a C jw))) (λv H2=>v=.non/\Q (.ref a) H2) E0) :
  Ul (model X.prog X.w) X.A (call (.ref C) us) (EP X pins σ Q) X.xe s:=by
 obtain⟨nm,q,N,bs,sn,sub,ab,col,dd,k0,k1,k2,k3,k5,hC⟩:=M.obj;obtain⟨oI,hfI,hfc⟩:=M.fn;obtain⟨hp,g,d,tk,os⟩:=s;refine A5 PySem.F.excBase_ValueError M.tail (I.bk _ _ hC) (fI:=f) (M.init.keeps I.bk) (I.bk _ _ hfI) hfc (λh' a made hz=>?_) hl;obtain⟨t',he,htn,ht⟩:=made.there;have I2:Inv X pins σ (upd H a (.ext (XO jx a C jw))) ⟨h',g,d,tk,os⟩:=I.laid (t':=tk) made.keeps hz (XO.ok ⟨_,_,he,λ_=>⟨rfl,_,rfl⟩⟩);have hq:=h a (I.hok.fresh hz);have r2:Vals (V.ref a::vs) (Value.ref a::us):=.cons jv r;have hl2:(Value.ref a::us++[]).length=ps.length:=by have e:=r2.length;rw[F.len _ _ _ _ hq]at e;rw[Q7];exact e.symm
 refine wpAny_call (Jl (F.run _ X.stack _ _ ⟨Value.ref a::us,[]⟩ (Value.ref a::us) _ _ E0 (hr.make C us []) (I2.env0.make C us []) (by have:=hb _ (Value.ref a::us) I2.kIn hl2;rwa[Q7]at this) r2 hq) λr s' ko=>?_);cases r with
 |error e=>exact ko.elim
 |ok fl=>
  cases fl with
  |ret u=>obtain⟨v,H',I3,rv,ev,q3⟩:=I2.after ko;subst ev;exact⟨rv,⟨V.ref a,H',I3,rfl,q3⟩⟩
  |next=>exact False.elim ko
  |brk=>exact False.elim ko
  |cont=>exact False.elim ko
def tMkX(C:Uh)(sp:Sp)(t:TA):TE:=λσ H Q=>t σ H λvs H1=>vs.length<=Uk/\∀a,H1 a=jw->sp (.ref a::vs) (upd H1 a (.ext (XO jx a C jw))) (λv H2=>v=.non/\Q (.ref a) H2) E0
theorem C6(M:XCls (model X.prog X.w) X.base C bm f)(F:FnOk X.prog X.w X.K X.mg X.base CX0 k f fd ps sp)(hr:Room (k+1) X.A)(hg:Gl X x)(hm:X.mg x=ju (.ref C))(hk:PySem.W.keepIn X.K (.ref C)=jx)(hb:Yq X.K fd ps [])
  (ha:PA X (e::es) t) (hdb:(x==("__debug__" : Str))=jy:=by decide) (he:Um (e::es) X.env=(jy,eval e X.env)::Um es X.env:=by rfl) (hpl:(backTo pos (Um es X.env)).any (·.1)=jy:=by rfl) :
  PE X (.Call (.Name x p) (e::es) [] pos) (tMkX C sp t):=by
 intro pins s σ H Q I h;refine Jk (Su I hg hm ?_ hdb);refine PySem.W.callWith_K (h₀:=X.base) I.ok.mod.kin hk (thn (ha pos pins s σ H _ I h) λus s1 ⟨vs,H1,I1,r,hl,q⟩=>⟨I1.kIn,?_⟩) he hpl;exact A3 M F hr hb I1 r (by show us.length<=Uk;rw[←r.length];exact hl) q
def Fz(KC:Uh->Prop)(te:TE)(KX:V->St->Hp->Prop):TS:=λ_ σ H=>te σ H λv H2=>∃a C dd,v=.ref a/\KC C/\H2 a=ju (.ext (XO jx a C dd))/\KX (.ref a) σ (upd H2 a (.ext (XO jy a C dd)))
theorem A2{M:Model}{A:Around}{E:Ue->Uf->Prop}{env:Env}{s:Uf}{Q:Flow->Uf->Prop}{y:Sem Ue}
  (hh:A.handled=jw) (h:Ul M A y (λv s₁=>∃a C dd vs sl nm q N bs bm hdct sn sub ab col kf k0 k1 k2 k3 k5 newId,v=.ref a/\bm.contains (.type "BaseException")=jx/\s₁.heap.get? C=ju (excClassObj nm q C N bs bm hdct sn sub ab col kf k0 k1 k2 k3 k5 newId) /\
   s₁.heap.get? a=ju {cls:=.ref C,dict:=dd,data:=.fields vs,slots:=sl}/\vs[1]?=ju .none/\E (.ref a) s₁) E s) :
  Ul M A (raiseStmt env (ju y) jw) Q E s:=by
 unfold raiseStmt;refine Qd (Qv h (λv s₁ h₁=>?_) λ_ _ x=>x);obtain⟨a,C,dd,vs,sl,nm,q,N,bs,bm,hdct,sn,sub,ab,col,kf,k0,k1,k2,k3,k5,newId,rfl,hbase,hC,he,h1,hE⟩:=h₁;have kN:(Value.ref C::bm).contains (.type "BaseException")=jx:=by rw[Q2,hbase,Bool.or_true]
 obtain⟨hp,g,d,tk,os⟩:=s₁
 repeat (first|with_reducible refine Q8 he jv h1 ?_|with_reducible refine Qn he ?_|with_reducible refine Qn hC ?_|(with_reducible refine QK hC ?_;rw[kN])|wp_step)
 exact wpAny_raiseNew_none hh hE
theorem Inv.aged{pins:List (Uh×Obj)}{σ:St}{H:Hp}{s:Uf}{a C:Uh}{dd:jI}(I:Inv X pins σ H s)(hx:H a=ju (.ext (XO jx a C dd))):Inv X pins σ (upd H a (.ext (XO jy a C dd))) s:=by obtain⟨x,_,_⟩:=I.hok a _ hx;have:=I.write (x:=a) (e:=a) (o:=.ext (XO jy a C dd)) (t':=s.toks) (h':=s.heap) (by rw[hx];trivial) (.inl jv) (λ_ _ _ q=>q) (let ⟨_,_,q,_⟩:=x;⟨_,q⟩) (XO.ok x.old);exact this
theorem C5{KC:Uh->Prop}{te:TE}{KX:V->St->Hp->Prop}{exc:Uj}(hc:X.calm=jx)(hcls:∀C,KC C->∃bm fI,XCls (model X.prog X.w) X.base C bm fI)(hw:XG X KX)(ht:PE X exc te):PS X (.Raise (ju exc) jw pos) (Fz KC te KX):=by intro pins s σ H D I h;rw[arm_exec_Raise];refine Qd (Q3 ?_);show Ul _ _ (raiseStmt X.env (ju (do let v ←eval exc X.env;standAt pos;pure v)) jw) _ _ _;refine A2 (I.ok.hd hc) (Qd (thn (ht pins s σ H _ I h) λu s1 ⟨v,H2,I2,rv,a,C,dd,ev,kc,hx,kx⟩=>Qd (Q3 (Qk ?_))));subst ev;obtain rfl:u=Value.ref a:=rv;obtain⟨bm,fI,M⟩:=hcls C kc;obtain⟨nm,q,N,bs,sn,sub,ab,col,kf,k0,k1,k2,k3,k5,hC⟩:=M.obj;obtain⟨⟨vs,sl,g,z⟩,_,_⟩:=I2.hok a _ hx;exact⟨a,C,dd,vs,sl,nm,q,N,bs,bm,jx,sn,sub,ab,col,kf,k0,k1,k2,k3,k5,_,rfl,M.tail _ _ jv,I2.bk _ _ hC,g,(z jv).1,hw pins σ _ s1 a C dd (I2.aged hx) KP (XO.fly ⟨vs,sl,g,z⟩) kx⟩
end
section
variable{M:Model}{A:Around}{E:Ue->Uf->Prop}{h:Heap}{g:Array GenState}{d:Drawn}{t:Nat}{os:OsState}
variable{nm q kZ q':Str}{C N D N' a:Uh}{bs bm bs' bm':jB}{hdct kM:Bool}{sn sn':List Str}{sub sub':jB}{ab xH:Bool}{col col':jJ}{dd kf:jI}{k0 k1 k2 k3 k5 j0 j1 j2 j3 j5:jE}{newId newId':String}
theorem C4{o:Obj}{b:Bool}{Q:Bool->Uf->Prop}(hC:h.get? C=ju (excClassObj nm q C N bs bm hdct sn sub ab col dd k0 k1 k2 k3 k5 newId))(hD:h.get? D=ju (excClassObj kZ q' D N' bs' bm' kM sn' sub' xH col' kf j0 j1 j2 j3 j5 newId'))
  (hbase:bm'.contains (.type "BaseException")=jx) (ha:h.get? a=ju o) (hc:o.cls=.ref C) (hb:(Value.ref C::bm).contains (.ref D)=b) (hq:Q b ⟨h,g,d,t,os⟩):Ul M A (excMatches (.ref a) (.ref D)) Q E ⟨h,g,d,t,os⟩:=by
 have kN:(Value.ref D::bm').contains (.type "BaseException")=jx:=by rw[Q2,hbase,Bool.or_true]
 have f1:=tc_notTuple;have f2:=tc_sub;have hT:(⟨h,g,d,t,os⟩:Uf).TypeIs (.ref D) "type" :=⟨_,hD,rfl⟩
 unfold excMatches
 repeat (any_goals (first|assumption|(with_reducible refine Qn ha ?_;rw[hc])|with_reducible refine Qn hD ?_|with_reducible refine Qn hC ?_|(with_reducible refine QK hD ?_;rw[kN])|(with_reducible refine QK hC ?_;rw[hb])|wp_step))
 cases b<;>(wp_walk;exact hq)
end
def Fy(sp:Sp)(KX:V->St->Hp->Prop)(t:TA):TE:=λσ H Q=>t σ H λvs H1=>sp vs H1 Q λv _ H'=>∀a,v=.ref a->KX (.ref a) σ H'
section
variable{X:Cx}{k:Nat}{f:Uh}{fd:Ui}{ps:List Str}{sp:Sp}{x n:Str}{p pos np hpos:Pos}{e:Uj}{es:jF}{t:TA}{KX:V->St->Hp->Prop}
theorem C3(F:FnOk X.prog X.w X.K X.mg X.base (CX1 X.prog X.w) k f fd ps sp)(hr:Room k X.A)(hg:Gl X x)(hm:X.mg x=ju (.ref f))(hk:PySem.W.keepIn X.K (.ref f)=jx)(hb:Yq X.K fd ps [])(hw:XG X KX)
  (ha:PA X (e::es) t) (hdb:(x==("__debug__" : Str))=jy:=by decide) (he:Um (e::es) X.env=(jy,eval e X.env)::Um es X.env:=by rfl) (hpl:(backTo pos (Um es X.env)).any (·.1)=jy:=by rfl) :
  PE X (.Call (.Name x p) (e::es) [] pos) (Fy sp KX t):=by
 intro pins s σ H Q I h;refine Jk (Su I hg hm ?_ hdb);refine PySem.W.callWith_K (h₀:=X.base) I.ok.mod.kin hk (thn (ha pos pins s σ H _ I h) λus s1 ⟨vs,H1,I1,r,q⟩=>⟨I1.kIn,?_⟩) he hpl;have hl:(us++[]).length=ps.length:=by rw[Q7,←r.length];exact F.len _ _ _ _ q
 refine wpAny_call (Jl (F.run X.A X.stack s1 H1 ⟨us,[]⟩ us vs Q _ hr I1.env0 (by have:=hb s1 us I1.kIn hl;rwa[Q7]at this) r q) λr s' hq=>?_);cases r with
 |error e=>exact hw.pass (E:=λv _ H'=>∀a,v=.ref a->KX (.ref a) σ H') I1 hq λa H' z=>z a jv
 |ok fl=>
  cases fl with
  |ret u=>exact I1.after hq
  |next=>exact False.elim hq
  |brk=>exact False.elim hq
  |cont=>exact False.elim hq
abbrev Cx.suite(X:Cx)(a:Uh):Cx:={X with A:=X.A.mark (ju (.ref a)),calm:=jy,xe:=λ_ _=>False}
theorem Cx.Ok.suite(ok:X.Ok)(a:Uh):(X.suite a).Ok:=
 ⟨ok.mod,ok.kind,ok.glob,ok.blt,ok.above,ok.inj,ok.has,ok.cab,λz=>(nomatch z),ok.frames,ok.stk,ok.exf,ok.bs,ok.bsz,ok.noex,ok.exfs,ok.funs,ok.frf⟩
theorem Inv.suite{pins:List (Uh×Obj)}{σ:St}{H:Hp}{s:Uf}(I:Inv X pins σ H s)(a:Uh):Inv (X.suite a) pins σ H s:=⟨I.ok.suite a,I.os,I.bare,I.base,I.loc,I.cell,I.free,I.freeC,I.pin,I.hok,I.len⟩
theorem Inv.unsuite{pins:List (Uh×Obj)}{σ σ':St}{H H':Hp}{s s':Uf}{a:Uh}(I0:Inv X pins σ H s)(I:Inv (X.suite a) pins σ' H' s'):Inv X pins σ' H' s':=⟨I0.ok,I.os,I.bare,I.base,I.loc,I.cell,I.free,I.freeC,I.pin,I.hok,I.len⟩
theorem RL{pins:List (Uh×Obj)}{σ:St}{H:Hp}{s:Uf}{i:Nat}{Q:Unit->Uf->Prop}{E:Ue->Uf->Prop}{A:Around}(I:Inv X pins σ H s)(hN:X.N.Nodup)(hi:X.N[i]?=ju n)(hl:X.env.kindOf n=ju .local)
  (h:∀s',Inv X pins (σ.set i jw) H s'->Q () s'):Ul (model X.prog X.w) A (do bindName X.env n .none;unbindBehindTheSuite X.env n pos) Q E s:=by
 have hcls:(X.env.scope.kind==.class || (X.env.scope.kind==.module&&X.env.locals != X.env.globals))=jy:=by rw[I.ok.kind];rfl
 refine Qd (wpAny_bindName (Sx (v:=.non) (u:=.none) I hN hi (.inl hl) jv (λs1 I1=>?_) (.inr hl)));unfold unbindBehindTheSuite;refine wpAny_onRaise ?_;unfold unbindName;refine Qd (wpAny_point (Qd ?_));unfold deleteName;simp only[hl,hcls];rw[QC (by decide)];obtain⟨m,hn,xn⟩:=id I1.loc;have hiσ:i<σ.length:=by rw[I.len];exact(Qh.mp hi).1
 refine Qd (wpAny_nsDel_keeps hn λh' v hn' hs=>?_)
 have hsome:(m n).isSome=jx:=by
  obtain⟨u,_,l⟩:=xn i n .non hi (by rw[QG hiσ]) (.inl hl);rcases l with ⟨_,l⟩|⟨k,_⟩
  .rw[l];rfl
  .rcases k with k|k
   .rw[hl]at k;cases k
   .rw[hl]at k;cases k
 rw[hsome];simp only[if_true,Bool.not_true,Jy,Ua];refine Qk (wpAny_point (h _ ?_));obtain⟨oL,_,_,xU,_⟩:=id hn;have neL:∀b o,X.s₀.heap.get? b=ju o->b≠X.env.locals:=λb o e=>QH (QE (Qj e) I.ok.above)
 refine⟨I1.ok,I1.os,I1.bare,⟨λb o e n hb hx=>(hs.2 b (neL b o e)).trans (I1.base.keep b o e n hb hx),λb o e n hb hx=>?_,I1.base.free,λb o e hx=>?_,I1.base.tups,I1.base.frzs,I1.base.tbls⟩,⟨_,hn',λj y v' e1 e2 e3=>?_⟩,λy c e=>?_,I1.free,I1.freeC,λp hp=>?_,λb ob e=>?_,?_⟩
 .obtain⟨sl,e1⟩:=I1.base.slot b o e n hb hx
  exact⟨sl,(hs.2 b (neL b o e)).trans e1⟩
 .obtain⟨o',e1⟩:=I1.base.there b o e hx
  exact⟨o',(hs.2 b (neL b o e)).trans e1⟩
 .have hj:j≠i:=by
   rintro rfl;rw[QG hiσ]at e2;cases e2
  rw[Qm (Ne.symm hj)]at e2;obtain⟨u',r',q⟩:=xn j y v' e1 (by rw[Qm (Ne.symm hj)];exact e2) e3;have hy:y≠n:=by rintro rfl;obtain⟨h1,h2⟩:=Qh.mp e1;obtain⟨h3,h4⟩:=Qh.mp hi;exact hj ((List.getElem_inj hN).mp (h2.trans h4.symm))
  refine⟨u',r',?_⟩;rcases q with ⟨q1,q2⟩|⟨k,c,e,z⟩
  .exact .inl ⟨q1,(QC hy).trans q2⟩
  .obtain⟨o,ho,hd⟩:=z
   exact .inr ⟨k,c,e,o,(hs.2 c (I1.cne y c e)).trans ho,hd⟩
 .obtain⟨v',o,ho,hd⟩:=I1.cell y c e
  exact⟨v',o,(hs.2 c (I1.cne y c e)).trans ho,hd⟩
 .obtain⟨a,b,c,d⟩:=I1.pin p hp
  exact⟨(hs.2 _ c).trans a,b,c,d⟩
 .refine(I1.hok b ob e).stay (λc w' hc q=>(hs.2 c ?_).trans q) (λ_ q=>q) λ_ _ q=>q
  rintro rfl;rcases hc with rfl|hc
  .rw[I1.free]at e;cases e
  .rw[I1.free]at hc;cases hc
 .rw[Q6];exact I.len
theorem qd{M:Model}{A:Around}{E:Ue->Uf->Prop}{s:Uf}{a:Uh}{Q:Unit->Uf->Prop}(fl:Fly s.heap a)(h:∀h',(∀b o,s.heap.get? b=ju o->h'.get? b=ju o)->Q () {s with heap:=h'}):Ul M A (setFlight (.ref a) jw) Q E s:=by
 obtain⟨oe,vs,he,hd,h1⟩:=fl;unfold setFlight;rcases h1 with h1|⟨T,oT,ts,h1,xL,hT,kP,h3⟩
 .refine Qd (Q8 he hd h1 ?_)
  rw[QC (by decide)];exact Qk (h s.heap λ_ _ q=>q)
 .obtain⟨hs3,hv3⟩:=Jq.mp h3
  refine Qd (Q8 he hd h1 ?_);rw[if_pos (show(Value.ref T != Value.none)=jx from by simp)];refine wpAny_setField hT kP hs3 (h _ λb o hb=>?_);by_cases xC:b=T
  .subst xC
   rw[hT]at hb;cases hb;rw[Jd _ hT (Obj.isFreed_of_fields (Obj.data_mapFields kP _)),Wf _ kP];have:ts.setIfInBounds 3 Value.none=ts:=Array.setIfInBounds_same _ _ _ h3;show ju {oT with data:=.fields (ts.setIfInBounds 3 Value.none)}=_;rw[this,←kP]
  .rw[QL _ _ (Ne.symm xC)];exact hb
def Vj(KC:Uh->jB->Prop)(D:Uh)(i:Nat)(ts:TS)(Dn:Ends):V->St->Hp->Prop:=λv σ H=>∃a C dd bm,v=.ref a/\KC C bm/\H a=ju (.ext (XO jy a C dd))/\(Value.ref C::bm).contains (.ref D)=jx /\
 ts {nx:=λσ' H'=>Dn.nx (σ'.set i jw) H',rt:=Dn.rt,bk:=λσ' H'=>Dn.bk (σ'.set i jw) H',ct:=λσ' H'=>Dn.ct (σ'.set i jw) H'} (σ.set i (ju (.ref a))) H
def tTry(KC:Uh->jB->Prop)(D:Uh)(i:Nat)(tb:(V->St->Hp->Prop)->TS)(ts:TS):TS:=λDn σ H=>tb (Vj KC D i ts Dn) Dn σ H
abbrev Cx.tried(X:Cx)(W:Ue->Uf->Prop)(pins:List (Uh×Obj)):Cx:={X with xe:=W,pn:=X.pn++pins}
theorem Inv.tried{pins:List (Uh×Obj)}{σ:St}{H:Hp}{s:Uf}(I:Inv X pins σ H s)(W:Ue->Uf->Prop):Inv (X.tried W pins) [] σ H s:=
 ⟨⟨I.ok.mod,I.ok.kind,I.ok.glob,I.ok.blt,I.ok.above,I.ok.inj,I.ok.has,I.ok.cab,I.ok.hd,I.ok.frames,I.ok.stk,I.ok.exf,I.ok.bs,I.ok.bsz,I.ok.noex,I.ok.exfs,I.ok.funs,I.ok.frf⟩,I.os,I.bare,I.base,I.loc,I.cell,I.free,I.freeC,λp hp=>I.pin p (by simpa using hp),I.hok,I.len⟩
theorem Inv.untried{pins pins':List (Uh×Obj)}{σ σ':St}{H H':Hp}{s s':Uf}{W:Ue->Uf->Prop}(I0:Inv X pins σ H s)(I:Inv (X.tried W pins) pins' σ' H' s'):Inv X pins σ' H' s':=
 ⟨I0.ok,I.os,I.bare,I.base,I.loc,I.cell,I.free,I.freeC,λp hp=>I.pin p (Jo _ hp),I.hok,I.len⟩
theorem Fx{KC:Uh->jB->Prop}{D fD:Uh}{bmD:jB}{i:Nat}{tb:(V->St->Hp->Prop)->TS}{ts:TS}{body suite:List Stmt}{b₀:Stmt}{st:List Env}(kG:X.stack=X.env::st)(hfr:X.env.frame=ju X.env.locals)
  (hcls:∀C bm,KC C bm->∃fI,XCls (model X.prog X.w) X.base C bm fI) (hD:XCls (model X.prog X.w) X.base D bmD fD) (hg:Gl X x) (hm:X.mg x=ju (.ref D)) (hN:X.N.Nodup) (hi:X.N[i]?=ju n) (hl:X.env.kindOf n=ju .local)
  (hb:∀(KX:V->St->Hp->Prop)(W:Ue->Uf->Prop)(pn:List (Uh×Obj)),XG (X.tried W pn) KX->PSs (X.tried W pn) body (tb KX)) (hs:∀a,PSs (X.suite a) (b₀::suite) ts) (hdb:(x==("__debug__" : Str))=jy:=by decide) :
  PS X (.Try body [.ExceptHandler (ju (.Name x np)) (ju n) (b₀::suite) hpos] [] [] pos) (tTry KC D i tb ts):=by
 intro pins s σ H Dn I h;refine wpAny_Try_except ?_
 let W:Ue->Uf->Prop:=λv s1=>∃a σ1 H1,v=.ref a/\Inv X pins σ1 H1 s1/\Fly s1.heap a/\Vj KC D i ts Dn (.ref a) σ1 H1
 have hw:XG (X.tried W pins) (Vj KC D i ts Dn):=λpins' σ1 H1 s1 a C dd I1 hx fl hk=>⟨a,σ1,H1,rfl,I.untried I1,fl,hk⟩;refine Qv (hb _ W pins hw [] s σ H Dn (I.tried W) h) (λf s1 h1=>?_) λv s1 h1=>?_
 .cases f with
  |next=>obtain⟨σ',H',I',q⟩:=h1;exact wpAny_execs_nil ⟨σ',H',I.untried I',q⟩
  |brk=>obtain⟨σ',H',I',q⟩:=h1;exact⟨σ',H',I.untried I',q⟩
  |cont=>obtain⟨σ',H',I',q⟩:=h1;exact⟨σ',H',I.untried I',q⟩
  |ret u=>obtain⟨v,σ',H',I',r,q⟩:=h1;exact⟨v,σ',H',I.untried I',r,q⟩
 .obtain⟨a,σ1,H1,rfl,I1,fl,a',C,dd,bm,ea,kc,hx,hm',q⟩:=h1
  cases ea;obtain⟨fI,XC⟩:=hcls C bm kc;have hk:=I1.ok.frames;rw[kG]at hk;have hS:=I1.stack;rw[kG]at hS;refine note hk hS hfr fl λh2 p2 fl2=>?_;rw[←kG]at p2;have I2:=I1.passed hx p2;refine wpAny_handleBy_cons (codeAny_handlers_test ?_) (by intro q;cases q)
  refine Su (I2.suite a) hg hm ?_ hdb;obtain⟨nm,qn,N,bs,sn,sub,ab,col,dd1,k0,k1,k2,k3,k5,hC⟩:=XC.obj;obtain⟨kZ,qn',N',bs',sn',sub',xH,col',dd2,j0,j1,j2,j3,j5,jV⟩:=hD.obj;obtain⟨⟨vs,sl,ga,_⟩,_,_⟩:=I2.hok a _ hx;refine C4 (I2.bk _ _ hC) (I2.bk _ _ jV) (hD.tail _ _ jv) ga jv hm' ?_;refine codeAny_handlers_suite_as (qd fl2 λh3 k3=>?_);have I3:=I2.kept (t':=s1.toks) k3;refine Sx (v:=.ref a) I3 hN hi (.inl hl) jv (λs4 I4=>?_) (.inr hl);refine Qv (hs a pins s4 _ H1 _ (I4.suite a) q) (λf s5 h5=>?_) λ_ _ z=>z.elim
  cases f with
  |next=>obtain⟨σ',H',I',q'⟩:=h5;exact RL (I3.unsuite I') hN hi hl λs6 I6=>⟨_,H',I6,q'⟩
  |brk=>obtain⟨σ',H',I',q'⟩:=h5;exact RL (I3.unsuite I') hN hi hl λs6 I6=>⟨_,H',I6,q'⟩
  |cont=>obtain⟨σ',H',I',q'⟩:=h5;exact RL (I3.unsuite I') hN hi hl λs6 I6=>⟨_,H',I6,q'⟩
  |ret u=>obtain⟨v,σ',H',I',r,q'⟩:=h5;exact RL (I3.unsuite I') hN hi hl λs6 I6=>⟨v,_,H',I6,r,q'⟩
end
section
variable{prog:Ug}{w:World}{A:Around}{E:Ue->Uf->Prop}{h:Heap}{g:Array GenState}{d:Drawn}{t:Nat}{os:OsState}
variable{nm q:Str}{C N a:Uh}{bs bm bmB:jB}{hdct:Bool}{sn:List Str}{sub:jB}{ab:Bool}{col:jJ}{dd:jI}{k0 k1 k2 k3 k5:jE}{B newId initId nid:String}
theorem qD(F:ExcBaseFacts B nid initId bmB)(T:Tail bmB bm){M:Model}{oe:Obj}{rest:jB}{Q:Unit->Uf->Prop}
  (hC:h.get? C=ju (excClassObj nm q C N bs bm hdct sn sub ab col dd k0 k1 k2 k3 k5 newId)) (he:h.get? a=ju oe) (hcls:oe.cls=.ref C) (hq:Q () ⟨h,g,d,t,os⟩) :
  Ul M A (checkBuiltinCall initId ⟨.ref a::rest,[]⟩) Q E ⟨h,g,d,t,os⟩:=by
 have kN:(Value.ref C::bm).contains (.type B)=jx:=by rw[Q2,T _ _ F.hasB,Bool.or_true]
 have hshort:=F.noStar;simp only[checkBuiltinCall,F.initKind,F.initSplit,F.initRow]
 repeat (first|(with_reducible refine Qn he ?_;rw[hcls])|with_reducible refine Qn hC ?_|(with_reducible refine QK hC ?_;rw[kN])|wp_step)
 refine wpAny_onRaise ?_
 rw[show ∀(x1 x2:String)(n:Nat),Bind.check ⟨.positional, "*", B,.self,[⟨"args", .varPos,jy⟩]⟩ x1 x2 n (List.map (λx=>x.fst) ({pos:=Value.ref a::rest}:Args).kw)=pure ()from
  λ_ _ n=>check_star_args _ _ _ _ _ _]
 exact Qk hq
theorem qc(F:ExcBaseFacts B nid initId bmB)(T:Tail bmB bm){oe:Obj}{vs:Array Ue}{u:Ue}{Q:Ue->Uf->Prop}
  (hC:h.get? C=ju (excClassObj nm q C N bs bm hdct sn sub ab col dd k0 k1 k2 k3 k5 newId)) (he:h.get? a=ju oe) (hcls:oe.cls=.ref C) (hd:oe.data=.fields vs) {t0:Uh} (h0:vs[0]?=ju (.ref t0))
  (hq:∀h',(∀b o,b≠a->h.get? b=ju o->h'.get? b=ju o)->(∃y,h'.get? a=ju {oe with data:=.fields (vs.setIfInBounds 0 (.ref y))})->Q .none ⟨h',g,d,t,os⟩) :
  Ul (model prog w) A (call (.builtin initId) [.ref a,u]) Q E ⟨h,g,d,t,os⟩:=by
 refine wpAny_call (Jp F.init.plain F.initEntry (qD F T hC he hcls ?_));have he₂:(h.push {cls:=.type "tuple", data:=.seq #[u]}).get? a=ju oe:=Qg _ he;have hz:0<vs.size:=(Jq.mp h0).1
 repeat (first|with_reducible refine Q8 he₂ hd h0 ?_|with_reducible refine wpAny_setField he₂ hd hz ?_|wp_step)
 have he₃:=Jd (Obj.mapFields (·.setIfInBounds 0 (Value.ref h.objs.size))) he₂ (Obj.isFreed_of_fields (Obj.data_mapFields hd _));refine hq _ (λb o hb g=>?_) ⟨_,by rw[he₃,Wf _ hd]⟩;rw[QL _ _ (Ne.symm hb)];exact Qg _ g
end
theorem Dl:PySem.W.handedIn (.builtin "ValueError.__init__")=jx:=by decide +kernel
theorem Fw{h:Heap}:PySem.W.Frag.In [] h:=λa o z=>by cases z
theorem N7:typeOf (.type "ValueError")=pure (.type "type"):=by kernel_rfl
theorem Dk:Manifest.isStub "ValueError" = jy:=by decide +kernel
theorem Dj:PySem.W.findCls [] (.type "ValueError") (.type "type") "__init__" = ju (.val (.builtin "ValueError.__init__")):=by kernel_rfl
section
variable{X:Cx}{k:Nat}{f D:Uh}{fd:Ui}{ps:List Str}{sp:Sp}{x:Str}{p pos apos:Pos}{e:Uj}{es:jF}{t:TA}
def OS(KC:Uh->jB->Prop)(t:TA):TE:=λσ H Q=>t σ H λvs H1=>∃a C dd bm u,vs=[.ref a,u]/\KC C bm/\H1 a=ju (.ext (XO jx a C dd))/\Q .non H1
theorem C0{KC:Uh->jB->Prop}{pl:Sem Bool}(hcls:∀C bm,KC C bm->∃fI,XCls (model X.prog X.w) X.base C bm fI)(hg:Gl X "ValueError")(hm:X.mg "ValueError" = jw)(ha:PA X (e::es) t)
  (hst:Um (e::es) X.env=(jy,eval e X.env)::Um es X.env:=by rfl) (hpl:(backTo pos (Um es X.env)).any (·.1)=jy:=by rfl)
  (ht:eval (.Call (.Attribute (.Name "ValueError" p) "__init__" apos) (e::es) [] pos) X.env=(do
   let ov ←eval (.Name "ValueError" p) X.env
   standAt apos.atName
   let (f,first) ←holding [ov] (getMethod ov "__init__" pl)
   callWith pos f first (backTo pos (Um (e::es) X.env)) (backToKw pos (keywordEach [] X.env))):=by rfl) :
  PE X (.Call (.Attribute (.Name "ValueError" p) "__init__" apos) (e::es) [] pos) (OS KC t):=by
 intro pins s σ H Q I h;have hB:bootBuiltins "ValueError" = ju (.type "ValueError"):=by decide +kernel
 refine PySem.W.methodCall_KW (pl:=pl) (WP I hg hm hB ?_) ht;obtain⟨m,Fm⟩:=I.fr;refine PySem.W.method_type (K:=[]) (v:=.builtin "ValueError.__init__") Fm Fw N7 Dk Dj Dl ?_;refine PyProof.Rows.callWith_builtin1 (thn (ha pos pins _ σ H _ (I.tok _) h) λus s1 ⟨vs,H1,I1,r1,a,C,dd,bm,u,ev,kc,hx,q⟩=>?_) hst hpl;subst ev;cases r1 with
 |cons ra r1=>
 cases r1 with
 |cons ru r1=>
 cases r1;have ra':_=Value.ref a:=ra;subst ra';obtain⟨fI,XC⟩:=hcls C bm kc;obtain⟨nm,qn,N,bs,sn,sub,ab,col,dd1,k0,k1,k2,k3,k5,hC⟩:=XC.obj;obtain⟨⟨vs,sl,ga,z⟩,_,_⟩:=I1.hok a _ hx;obtain⟨z1,t0,z0⟩:=z jv;obtain⟨hp,g,d,tk,os⟩:=s1;refine qc PySem.F.excBase_ValueError XC.tail (I1.bk _ _ hC) ga jv jv z0 λh' k ⟨y,hy⟩=>?_;have hw:=I1.write (x:=a) (e:=a) (o:=.ext (XO jx a C dd)) (t':=tk) (h':=h') (by rw[hx];trivial) (.inl jv) k ⟨_,hy⟩ (XO.ok ⟨_,sl,hy,λ_=>⟨by rw[Array.getElem?_setIfInBounds_ne (by decide)];exact z1,y,by simp[(Array.getElem?_eq_some_iff.mp z0).1]⟩⟩)
 have e:upd H1 a (.ext (XO jx a C dd))=H1:=by
  funext b;by_cases hb:b=a
  .subst hb;rw[KP,hx]
  .rw[Kn hb]
 rw[e]at hw;exact⟨.non,H1,hw,rfl,q⟩
end
structure OB(K:Frag)(D:Uh)(m:Str)(f:Uh):Prop where
 ga:PySem.W.specialIn K (.ref D) "__getattribute__" = ju (ju (.builtin "type.__getattribute__"))
 rd:PySem.W.readsIn K D (.type "type")=jx
 fd:PySem.W.findCls K (.ref D) (.type "type") m=ju (.val (.ref f))
 kp:PySem.W.keepIn K (.ref f)=jx
def XD(dx:Uh)(fs:List (Str×V)):Heap->Prop:=λh=>∃mA,h.Ns1 dx mA/\h.ExactDictFk dx/\(∀f,Ta (fs.lookup f) (mA f))/\PySem.Within mA (fs.map (·.1))
inductive FmtV:V->Str->Prop
 |str (x:Str) (h:x.length<=Uk):FmtV (.str x) x
 |int (i:Int) (h:i.natAbs.log2<1920):FmtV (.int i) (toString i:String)
 |non:FmtV .non "None"
end L2
namespace L2
open PySem PySem.Spec
section
variable{prog:Ug}{w:World}{A:Around}{E:Ue->Uf->Prop}{h:Heap}{g:Array GenState}{d:Drawn}{t:Nat}{os:OsState}{R:Result->Uf->Prop}
variable{nm q:Str}{C N a:Uh}{bs bm bmB:jB}{hdct:Bool}{sn:List Str}{sub:jB}{ab:Bool}{col:jJ}{dd:jI}{k0 k1 k2 k3 k5:jE}{newId:String}{o:Obj}
theorem qb(T:Tail bmB bm)(ho:bmB.contains (.type "object")=jx)(hC:h.get? C=ju (excClassObj nm q C N bs bm hdct sn sub ab col dd k0 k1 k2 k3 k5 newId))(hx:h.get? a=ju o)(hc:o.cls=.ref C)(hq:R (.ok (.ret (.ref C))) ⟨h,g,d,t,os⟩) :
  codeAny (model prog w) A (.call (.builtin "getset_descriptor.__get__") ⟨[.builtin "object.__class__", .ref a,.ref C],[]⟩) R ⟨h,g,d,t,os⟩:=by
 have hT5:(⟨h,g,d,t,os⟩:Uf).TypeIs (.builtin "object.__class__") "getset_descriptor" :=PySem.F.typeOf_object_class;have kN:(Value.ref C::bm).contains (.type (".".intercalate ("object.__class__".cutAt '.').dropLast))=jx:=by rw[PySem.F.owner_object_class,Q2,T _ _ ho];rfl
 refine Jp PySem.F.slot_gs_get.plain PySem.F.entry_gs_get (PySem.F.slot_gs_get.check _ _ _ _ _ _ _ _ hT5 (PySem.F.args_gs_get _ _ _) ?_)
 repeat (any_goals (first|assumption|(with_reducible refine Qn hx ?_;rw[hc])|(with_reducible refine QK hC ?_;rw[kN])|wp_step))
 refine⟨Code.quiet_builtin _ (by decide +kernel),codeAny_builtin PySem.F.entry_object_class ?_⟩;unfold Builtin.«object.__class__»
 repeat (any_goals (first|assumption|(with_reducible refine Qn hx ?_;rw[hc])|wp_step))
theorem qW{tk:Tok}{Q:PySem.Fin->Uf->Prop}(T:Tail bmB bm)(ho:bmB.contains (.type "object")=jx)(hC:h.get? C=ju (excClassObj nm q C N bs bm hdct sn sub ab col dd k0 k1 k2 k3 k5 newId))(fc:Zi (model prog w) C "__class__" (ju (.builtin "object.__class__")) h)(hx:h.get? a=ju o)(hc:o.cls=.ref C)(hq:Q (.done (.ret (.ref C))) ⟨h,g,d,t,os⟩) :
  Ul (model prog w) A (Builtin.«object.__getattribute__» ⟨[.ref a,.str "__class__" tk],[]⟩) Q E ⟨h,g,d,t,os⟩:=by
 have hT5:(⟨h,g,d,t,os⟩:Uf).TypeIs (.builtin "object.__class__") "getset_descriptor" :=PySem.F.typeOf_object_class;have f5:=PySem.F.typeOf_object_class;have f6:=PySem.F.slot_gs_get.lookup;have f7:=PySem.F.slot_gs_set.lookup
 repeat (any_goals (first|assumption|(with_reducible refine Qn hx ?_;rw[hc])|with_reducible refine fc.at ?_|wp_step))
 refine qb T ho hC hx hc ?_
 repeat (any_goals (first|assumption|wp_step))
theorem Lz{Q:jE->Uf->Prop}(FB:ExcAttrFacts "ValueError")(T:Tail VB bm)(hC:h.get? C=ju (excClassObj nm q C N bs bm hdct sn sub ab col dd k0 k1 k2 k3 k5 newId))(fc:Zi (model prog w) C "__class__" (ju (.builtin "object.__class__")) h)
  (fg:Zi (model prog w) C "__getattribute__" (ju (.builtin "BaseException.__getattribute__")) h) (fa:Zi (model prog w) C "__getattr__" none h) (hx:h.get? a=ju o) (hc:o.cls=.ref C) (hq:Q (ju (.ref C)) ⟨h,g,d,t+1,os⟩) :
  Ul (model prog w) A (getAttr? (.ref a) "__class__") Q E ⟨h,g,d,t,os⟩:=by
 have f3:=FB.ga.bind (.ref a);have hx0:(jy&&onTheHeap (Value.builtin "BaseException.__getattribute__"))=jy:=rfl;have hx2:(Value.builtin "BaseException.__getattribute__" == Value.builtin "object.__getattribute__")=jy:=by decide +kernel
 have hx1:(onTheHeap (Value.ref C)&&Value.builtin "BaseException.__getattribute__" == Value.builtin "object.__getattribute__")=jy:=by rw[hx2];rfl
 unfold getAttr? getAttrBy?;refine Qd (wpAny_mkText (Qd (wpAny_attempt ?_)))
 repeat (any_goals (first|assumption|(with_reducible refine Qn hx ?_;rw[hc])|with_reducible refine fg.at ?_|with_reducible refine fa.at ?_|wp_step))
 refine Jp FB.ga.plain PySem.F.entry_bexc_ga (A4 T jv hC hx hc (qW T jv hC fc hx hc ?_))
 repeat (any_goals (first|assumption|wp_step))
end
end L2
namespace L2
open PySem PySem.Spec PyProof.Rows
section
variable{prog:Ug}{w:World}{A:Around}{E:Ue->Uf->Prop}{h:Heap}{g:Array GenState}{d:Drawn}{t:Nat}{os:OsState}
variable{nm q kZ q':Str}{C N D N' a:Uh}{bs bm bs' bm':jB}{hdct kM:Bool}{sn sn':List Str}{sub sub':jB}{ab xH:Bool}{col col':jJ}{dd kf:jI}{k0 k1 k2 k3 k5 j0 j1 j2 j3 j5:jE}{newId newId':String}{o:Obj}{b:Bool}
theorem Di{Q:Ue->Uf->Prop}(T:Tail VB bm)(hC:h.get? C=ju (excClassObj nm q C N bs bm hdct sn sub ab col dd k0 k1 k2 k3 k5 newId))(hD:h.get? D=ju (excClassObj kZ q' D N' bs' bm' kM sn' sub' xH col' kf j0 j1 j2 j3 j5 newId'))
  (fc:Zi (model prog w) C "__class__" (ju (.builtin "object.__class__")) h) (fg:Zi (model prog w) C "__getattribute__" (ju (.builtin "BaseException.__getattribute__")) h) (fa:Zi (model prog w) C "__getattr__" none h)
  (hx:h.get? a=ju o) (hc:o.cls=.ref C) (hb:(Value.ref C::bm).contains (.ref D)=b) (hq:∀tk,Q (.bool b) ⟨h,g,d,tk,os⟩):Ul (model prog w) A (call (.builtin "isinstance") [.ref a,.ref D]) Q E ⟨h,g,d,t,os⟩:=by
 have hT:(⟨h,g,d,t,os⟩:Uf).TypeIs (.ref D) "type" :=⟨_,hD,rfl⟩
 have f2:=tc_sub;refine call_isinstance_of ?_ (λz=>nomatch z);unfold Builtin.«isinstance.nested»;refine Qd ?_;unfold typeOf;refine Qd (Qn hx (Qk ?_));rw[hc];by_cases e:C=D
 .subst e
  have hb1:b=jx:=by rw[←hb];simp
  subst hb1;rw[if_pos (by simp)];exact Qd (wpAny_rule (Qk (hq t)))
 .rw[if_neg (by simp[e])]
  refine Qd (Qd (Qn hD (Qk ?_)));rw[Qo (show(Value.type "type" == Value.type "type")=jx by decide)]
  k_delta "plainIsInstance"
  unfold isType isInstance
  repeat (first|(with_reducible refine Qn hx ?_;rw[hc])|with_reducible refine Qn hD ?_|with_reducible refine Qn hC ?_|(with_reducible refine QK hC ?_;rw[hb])|wp_step)
  cases b with
  |true=>wp_walk;exact hq t
  |false=>
   rw[QC (by decide)];refine Qd (Lz PySem.F.excAttr_ValueError T hC fc fg fa hx hc ?_)
   repeat (first|with_reducible refine Qn hC ?_|(with_reducible refine QK hC ?_;rw[hb])|wp_step)
   exact hq _
theorem Fv{Q:Ue->Uf->Prop}{X:String}(T:Tail VB bm)(hC:h.get? C=ju (excClassObj nm q C N bs bm hdct sn sub ab col dd k0 k1 k2 k3 k5 newId))(hX:typeOf (.type X)=pure (.type "type"))
  (fc:Zi (model prog w) C "__class__" (ju (.builtin "object.__class__")) h) (fg:Zi (model prog w) C "__getattribute__" (ju (.builtin "BaseException.__getattribute__")) h) (fa:Zi (model prog w) C "__getattr__" none h)
  (hx:h.get? a=ju o) (hc:o.cls=.ref C) (hb:(Value.ref C::bm).contains (.type X)=b) (hq:∀tk,Q (.bool b) ⟨h,g,d,tk,os⟩):Ul (model prog w) A (call (.builtin "isinstance") [.ref a,.type X]) Q E ⟨h,g,d,t,os⟩:=by
 refine call_isinstance_of ?_ (λz=>nomatch z);unfold Builtin.«isinstance.nested»;refine Qd ?_;have ty:∀{M:Model}{A:Around}{Q:Ue->Uf->Prop}{E:Ue->Uf->Prop},Q (.ref C) ⟨h,g,d,t,os⟩->Ul M A (typeOf (.ref a)) Q E ⟨h,g,d,t,os⟩:=λq=>by unfold typeOf;refine Qd (Qn hx (Qk ?_));rw[hc];exact q
 refine ty ?_;rw[if_neg (by simp)];refine Qd (wpAny_of_eq hX ?_);rw[Qo (show(Value.type "type" == Value.type "type")=jx by decide)]
 k_delta "plainIsInstance"
 unfold isType isInstance
 repeat (first|(with_reducible refine Qn hx ?_;rw[hc])|with_reducible refine Qn hC ?_|(with_reducible refine QK hC ?_;rw[hb])|wp_step)
 cases b with
 |true=>wp_walk;exact hq t
 |false=>
  rw[QC (by decide)];refine Qd (Lz PySem.F.excAttr_ValueError T hC fc fg fa hx hc ?_)
  repeat (first|with_reducible refine Qn hC ?_|(with_reducible refine QK hC ?_;rw[hb])|wp_step)
  exact hq _
end
def rIsX(KC:Uh->jB->Prop):List V->Hp->VK->Prop:=λxs H Q=>∃a C dd bm fr c b,xs=[.ref a,c]/\KC C bm/\H a=ju (.ext (XO fr a C dd)) /\
 ((∃D bm',c=.ref D/\KC D bm'/\(Value.ref C::bm).contains (.ref D)=b) ∨ ∃T,c=.ty T/\typeOf (.type T)=pure (.type "type")/\(Value.ref C::bm).contains (.type T)=b)/\Q (.bl b) H
theorem PV{X:Cx}{KC:Uh->jB->Prop}(hcls:∀C bm,KC C bm->∃fI,XCls (model X.prog X.w) X.base C bm fI):ZQ X (.builtin "isinstance") (rIsX KC):=by
 rintro pins s σ H xs us Q I r ⟨a,C,dd,bm,fr,c,b,rfl,kc,hx,hD,q⟩;cases r with
 |cons ra r=>
 cases r with
 |cons rc r=>
 cases r;have ra':_=Value.ref a:=ra;subst ra';obtain⟨fI,XC⟩:=hcls C bm kc;obtain⟨nm,qn,N,bs,sn,sub,ab,col,dd1,k0,k1,k2,k3,k5,hC⟩:=XC.obj;obtain⟨⟨vs,sl,ga,_⟩,_,_⟩:=I.hok a _ hx;obtain⟨hp,g,d,tk,os⟩:=s;rcases hD with ⟨D,bm',rfl,kd,hb⟩|⟨T,rfl,hT,hb⟩
 .have rc':_=Value.ref D:=rc
  subst rc';obtain⟨fI',XD'⟩:=hcls D bm' kd;obtain⟨kZ,qn',N',bs',sn',sub',xH,col',dd2,j0,j1,j2,j3,j5,jV⟩:=XD'.obj;exact Di XC.tail (I.bk _ _ hC) (I.bk _ _ jV) (XC.cl.keeps I.bk) (XC.ga.keeps I.bk) (XC.gh.keeps I.bk) ga jv hb λtk'=>⟨.bl b,H,I.tok tk',rfl,q⟩
 .have rc':_=Value.type T:=rc
  subst rc';exact Fv XC.tail (I.bk _ _ hC) hT (XC.cl.keeps I.bk) (XC.ga.keeps I.bk) (XC.gh.keeps I.bk) ga jv hb λtk'=>⟨.bl b,H,I.tok tk',rfl,q⟩
def Pe(KC:Uh->jB->Prop):Sp:=λvs H Q _=>∃a C dd bm x,vs=[.ref a,.str x]/\KC C bm/\H a=ju (.ext (XO jx a C dd))/\Q .non H
def Ym(nm:Str):List Str:=if nm = "NoWishes" then ["part", "number"]else if nm = "NoAim" then ["part"]else if nm = "NoText" then ["row"]else []
def Ra(K:Frag)(nm:Str):jI:=match PySem.W.nsIn K mainGlobals nm with|some (ju (.ref C))=>ju C|_=>jw
def NmAt(K:Frag)(nm:Str)(C:Uh):Prop:=∃o cd,K.lookup C=ju o/\o.data=.cls cd/\cd.name=nm
structure ClsK(K:Frag)(nm:Str)(C:Uh)(bm:jB):Prop where
 ad:Ra K nm=ju C
 nmd:NmAt K nm C
 up:nm = "DealError" /\ bm=VB∨nm ≠ "DealError" /\ ∃D,Ra K "DealError" = ju D/\bm=.ref D::VB/\NmAt K "DealError" D
 cls:∀(M:Model)(h:Heap),K.In h->∃fI,XCls M h C bm fI
 fld:∀(M:Model)(h:Heap),K.In h->∀f∈(["part", "number", "row"]:List Str),Zi M C f jw h
def KC(K:Frag):Uh->jB->Prop:=λC bm=>∃nm,ClsK K nm C bm
section
variable{K:Frag}{nm x:Str}{C D:Uh}{bm bm':jB}
theorem NmAt.ne(c:NmAt K nm C)(d:NmAt K x D)(h:x≠nm):C≠D:=λe=>by subst e;obtain⟨o,cd,h1,h2,h3⟩:=c;obtain⟨o',cd',g1,g2,g3⟩:=d;rw[h1]at g1;cases g1;rw[h2]at g2;cases g2;exact h (g3.symm.trans h3)
theorem ClsK.has(c:ClsK K nm C bm)(d:ClsK K x D bm'):(Value.ref C::bm).contains (.ref D)=(decide (x=nm) || decide (x = "DealError")):=by
 by_cases e:x=nm
 .subst e
  have:=c.ad.symm.trans d.ad;cases this;simp
 .have ne:=c.nmd.ne d.nmd e
  rw[Qx e,J8];have h0:(Value.ref D==Value.ref C)=jy:=by simp[Ne.symm ne]
  rw[Q2,h0,J8];by_cases e2:x = "DealError"
  .subst e2
   rcases c.up with ⟨z,_⟩|⟨_,D',g,rfl,_⟩
   .exact absurd z.symm e
   .have:=g.symm.trans d.ad
    cases this;simp
  .rw[Qx e2]
   rcases c.up with ⟨_,rfl⟩|⟨_,D',g,rfl,n⟩
   .rfl
   .have ne2:=n.ne d.nmd e2
    have h1:(Value.ref D==Value.ref D')=jy:=by simp[Ne.symm ne2]
    rw[Q2,h1,J8];rfl
theorem ClsK.ty(c:ClsK K nm C bm)(T:String):(Value.ref C::bm).contains (.type T)=VB.contains (.type T):=by
 rcases c.up with ⟨_,rfl⟩|⟨_,D',g,rfl,n⟩
 .rfl
 .rfl
end
section
variable{X:Cx}{e:Uj}{st:Stmt}{sts:List Stmt}{t:TE}{ts:TS}
theorem PE.kin(h:X.K.In X.base->PE X e t):PE X e t:=λpins s σ H Q I q=>h I.ok.mod.kin pins s σ H Q I q
theorem PS.kin(h:X.K.In X.base->PS X st ts):PS X st ts:=λpins s σ H Q I q=>h I.ok.mod.kin pins s σ H Q I q
theorem PSs.kin(h:X.K.In X.base->PSs X sts ts):PSs X sts ts:=λpins s σ H Q I q=>h I.ok.mod.kin pins s σ H Q I q
theorem Se(k:X.K.In X.base):∀C bm,KC X.K C bm->∃fI,XCls (model X.prog X.w) X.base C bm fI:=λ_ _ ⟨_,c⟩=>c.cls _ _ k
end
def OA(nm:Str)(us:List V):Prop:=(Ym nm=[]/\∃x,us=[.str x])∨(Ym nm≠[]/\us.length=(Ym nm).length/\∀u∈us,∃y,FmtV u y/\y.length<=4000)
def Oz(nm:Str)(C a:Uh)(us:List V)(H:Hp)(dd:jI)(H':Hp):Prop:=
 (Ym nm=[]/\dd=jw/\H'=H)∨(Ym nm≠[]/\us.length=(Ym nm).length/\∃dx,dd=ju dx/\H dx=jw/\dx≠a/\H'=upd (upd H a (.ext (XO jx a C (ju dx)))) dx (.ext (XD dx ((Ym nm).zip us))))
def OR(K:Frag)(nm:Str)(C:Uh)(sp:Sp):Prop:=∀a us H Q,H a=ju (.ext (XO jx a C jw))->OA nm us->(∀dd H',Oz nm C a us H dd H'->Q .non H')->sp (.ref a::us) H Q E0
def MkX(P:Ug)(w:World)(K:Frag)(mg:Str->jE)(base:Heap)(nm:Str)(k:Nat):Prop:=
 ∃C bm f fd ps sp,mg nm=ju (.ref C)/\PySem.W.keepIn K (.ref C)=jx/\ClsK K nm C bm/\(∀(M:Model)(h:Heap),K.In h->XCls M h C bm f)/\FnOk P w K mg base CX0 k f fd ps sp/\Yq K fd ps []/\OR K nm C sp
theorem CZ{K:Frag}{nm:Str}{C:Uh}{bm:jB}(c:ClsK K nm C bm)(hf:Ym nm=[]):OR K nm C (Pe (KC K)):=λa us H Q h ar q=>by
 rcases ar with ⟨_,x,rfl⟩|⟨z,_⟩
 .exact⟨a,C,jw,bm,x,rfl,⟨nm,c⟩,h,q jw H (.inl ⟨hf,rfl,rfl⟩)⟩
 .exact absurd hf z
end L2
namespace DL
open PySem PySem.Spec L2
open PyProof.Rows hiding St
abbrev D:=PyData
abbrev jz:=List D
abbrev jC:=Option D
abbrev XW:=V->St->Hp->Prop
abbrev KX0:XW:=λ_ _ _=>False
def XFs(G:Hp)(dd:jI)(fs:List Str)(vs:List V):Prop:=match dd with
 |none=>fs=[]/\vs=[]
 |some dx=>fs.length=vs.length/\G dx=ju (.ext (XD dx (fs.zip vs)))
theorem XFs.mono{G G1:Hp}{dd:jI}{fs:List Str}{vs:List V}(e:Same G G1)(h:XFs G dd fs vs):XFs G1 dd fs vs:=by
 cases dd with
 |none=>exact h
 |some dx=>exact⟨h.1,e _ _ h.2⟩
def kD:Key->D
 |.inl i=>.int i
 |.inr x=>.str x
def tkD(k:List Key):D:=.tuple (k.map kD)
def pdD(ks:List (List Key))(ds:jz):List (D×D):=(.bool jx,.none)::(ks.map tkD).zip ds
mutual
inductive Rep(K:Frag)(G:Hp):V->D->Prop where
 |non:Rep K G .non .none
 |bl (b:Bool):Rep K G (.bl b) (.bool b)
 |int (i:Int):Rep K G (.int i) (.int i)
 |str (x:Str):Rep K G (.str x) (.str x)
 |lst {a:Uh} {vs:List V} {ds:jz} (h:SqL K G a vs) (r:Reps K G vs ds):Rep K G (.ref a) (.list ds)
 |tup {a:Uh} {vs:List V} {ds:jz} (h:SqT K G a vs) (r:Reps K G vs ds):Rep K G (.ref a) (.tuple ds)
 |dic {a:Uh} (h:G a=ju (.dK [])):Rep K G (.ref a) (.dict [])
 |exc {a C:Uh} {dd:jI} {bm:jB} {nm:Str} {vs:List V} {ds:jz} (c:ClsK K nm C bm) (h:G a=ju (.ext (XO jy a C dd))) (hd:XFs G dd (Ym nm) vs) (r:Reps K G vs ds):Rep K G (.ref a) (.dict [(.none,.tuple [.str nm,.list ds])])
 |dct {a:Uh} {ks:List Key} {vs:List V} {ds:jz} {kvs:List (D×D)} (e:kvs=(ks.map kD).zip ds) (hne:ks≠[]) (hl:ks.length=ds.length) (h:G a=ju (.dK (ks.zip vs))) (r:Reps K G vs ds):Rep K G (.ref a) (.dict kvs)
 |dtt {a:Uh} {o:Obj} {ks:List (List Key)} {vs:List V} {ds:jz} {kvs:List (D×D)} (e:kvs=pdD ks ds) (hl:ks.length=ds.length) (h:G a=ju (.frz o (.dT (ks.zip vs)))) (r:Reps K G vs ds):Rep K G (.ref a) (.dict kvs)
inductive Reps(K:Frag)(G:Hp):List V->jz->Prop where
 |nil:Reps K G [] []
 |cons {v:V} {d:D} {vs:List V} {ds:jz} (h:Rep K G v d) (t:Reps K G vs ds):Reps K G (v::vs) (d::ds)
end
variable{K:Frag}{B G0 G G1 G2 H H1 H2:Hp}
theorem Yl{a:Uh}{xs:List V}(e:Same G G1)(h:SqT K G a xs):SqT K G1 a xs:=by
 rcases h with (h|⟨o,h⟩)|h
 .exact .inl (.inl (e _ _ h))
 .exact .inl (.inr ⟨o,e _ _ h⟩)
 .exact .inr h
theorem Rep.mono(e:Same G G1){v:V}{d:D}(r:Rep K G v d):Rep K G1 v d:=Rep.rec (motive_1:=λv d _=>Rep K G1 v d) (motive_2:=λvs ds _=>Reps K G1 vs ds) .non .bl .int .str (λh _ r=>.lst (e.seq h) r) (λh _ r=>.tup (Yl e h) r) (λh=>.dic (e _ _ h)) (λc h hd _ r=>.exc c (e _ _ h) (hd.mono e) r) (λz n l h _ r=>.dct z n l (e _ _ h) r) (λz l h _ r=>.dtt z l (e _ _ h) r) .nil (λ_ _=>.cons) r
theorem Reps.mono(e:Same G G1){vs:List V}{ds:jz}(r:Reps K G vs ds):Reps K G1 vs ds:=Reps.rec (motive_1:=λv d _=>Rep K G1 v d) (motive_2:=λvs ds _=>Reps K G1 vs ds) .non .bl .int .str (λh _ r=>.lst (e.seq h) r) (λh _ r=>.tup (Yl e h) r) (λh=>.dic (e _ _ h)) (λc h hd _ r=>.exc c (e _ _ h) (hd.mono e) r) (λz n l h _ r=>.dct z n l (e _ _ h) r) (λz l h _ r=>.dtt z l (e _ _ h) r) .nil (λ_ _=>.cons) r
theorem BY{ks:List Key}{ds:jz}{d:D}{r:List (D×D)}(e:(.none,d)::r=(ks.map kD).zip ds):False:=by
 cases ks with
 |nil=>cases e
 |cons k ks=>
  cases ds with
  |nil=>cases e
  |cons d ds=>
   rw[QN,List.zip_cons_cons]at e;injection e with e1 _;injection e1 with e2 _
   cases k<;>cases e2
section
variable{v:V}{vs ws:List V}{ds es:jz}
theorem Rep.bl_inv{b:Bool}(h:Rep K G v (.bool b)):v=.bl b:=by cases h;rfl
theorem Rep.int_inv{i:Int}(h:Rep K G v (.int i)):v=.int i:=by cases h;rfl
theorem Rep.str_inv{x:Str}(h:Rep K G v (.str x)):v=.str x:=by cases h;rfl
theorem Rep.lst_inv(h:Rep K G v (.list ds)):∃a vs,v=.ref a/\SqL K G a vs/\Reps K G vs ds:=by
 cases h with
 |lst h r=>exact⟨_,_,rfl,h,r⟩
theorem Rep.tup_inv(h:Rep K G v (.tuple ds)):∃a vs,v=.ref a/\SqT K G a vs/\Reps K G vs ds:=by
 cases h with
 |tup h r=>exact⟨_,_,rfl,h,r⟩
theorem Rep.exc_inv{d:D}(h:Rep K G v (.dict [(.none,d)])):∃a C dd bm nm vs ds,v=.ref a/\d=.tuple [.str nm,.list ds]/\ClsK K nm C bm/\G a=ju (.ext (XO jy a C dd))/\XFs G dd (Ym nm) vs/\Reps K G vs ds:=by
 cases h with
 |exc c h hd r=>exact⟨_,_,_,_,_,_,_,rfl,rfl,c,h,hd,r⟩
 |dct e _ _ _ _=>exact(BY e).elim
 |dtt e _ _ _=>exact nomatch (J9 (List.cons.inj e).1).1
theorem Reps.length:∀{vs:List V}{ds:jz},Reps K G vs ds->vs.length=ds.length
 |_,_,.nil=>rfl
 |_,_,.cons _ t=>by rw[QR,QR,Reps.length t]
theorem Reps.get:∀{vs:List V}{ds:jz}{i:Nat}{d:D},Reps K G vs ds->ds[i]?=ju d->∃v,vs[i]?=ju v/\Rep K G v d
 |_,_,_,_,.nil,e=>by simp at e
 |_,_,0,_,.cons h _,e=>by simp at e;subst e;exact⟨_,rfl,h⟩
 |_,_,i+1,d,.cons _ t,e=>by obtain⟨u,h1,h2⟩:=Reps.get (i:=i) (d:=d) t (by simpa using e);exact⟨u,by simpa using h1,h2⟩
theorem Reps.append:∀{vs ws:List V}{ds es:jz},Reps K G vs ds->Reps K G ws es->Reps K G (vs++ws) (ds++es)
 |_,_,_,_,.nil,s=>s
 |_,_,_,_,.cons r t,s=>.cons r (Reps.append t s)
theorem Reps.take:∀{vs:List V}{ds:jz}(n:Nat),Reps K G vs ds->Reps K G (vs.take n) (ds.take n)
 |_,_,0,_=>by rw[List.take_zero,List.take_zero];exact .nil
 |_,_,_+1,.nil=>.nil
 |_,_,n+1,.cons r t=>.cons r (Reps.take n t)
theorem Reps.drop:∀{vs:List V}{ds:jz}(n:Nat),Reps K G vs ds->Reps K G (vs.drop n) (ds.drop n)
 |_,_,0,r=>r
 |_,_,_+1,.nil=>.nil
 |_,_,n+1,.cons _ t=>Reps.drop n t
theorem Reps.reverse:∀{vs:List V}{ds:jz},Reps K G vs ds->Reps K G vs.reverse ds.reverse
 |_,_,.nil=>.nil
 |_,_,.cons r t=>by rw[List.reverse_cons,List.reverse_cons];exact Reps.append (Reps.reverse t) (.cons r .nil)
theorem Reps.set{v:V}{d:D}(r:Rep K G v d):∀{vs:List V}{ds:jz}(i:Nat),Reps K G vs ds->Reps K G (vs.set i v) (ds.set i d)
 |_,_,_,.nil=>.nil
 |_,_,0,.cons _ t=>.cons r t
 |_,_,i+1,.cons q t=>.cons q (Reps.set r i t)
theorem Reps.ints:∀(ns:jA),Reps K G (ns.map V.int) (ns.map int)
 |[]=>.nil
 |n::ns=>.cons (.int n) (Reps.ints ns)
end
inductive MO where
 |l (vs:List V)|k (kvs:List (Key×V))|t (kvs:List (List Key×V))|s (S:Int->Bool) (n:Nat)
def MO.ho:MO->HO
 |.l vs=>.lst vs
 |.k kvs=>.dK kvs
 |.t kvs=>.dT kvs
 |.s S n=>.set S n
structure Ext(G H G' H':Hp):Prop where
 h:Same H H'
 g:Same G G'
 gh:Same G' H'
 np:∀a(u:MO),H a=ju u.ho->G a=jw->G' a=jw
theorem Ext.refl(e:Same G H):Ext G H G H:=⟨.refl _,.refl _,e,λ_ _ _ q=>q⟩
theorem Ext.trans{G' H' G'' H'':Hp}(a:Ext G H G' H')(b:Ext G' H' G'' H''):Ext G H G'' H'':=
 ⟨a.h.trans b.h,a.g.trans b.g,b.gh,λx o e q=>b.np x o (a.h x _ e) (a.np x o e q)⟩
theorem Zj{p:Uh}{o:HO}(h:H p=jw):Same H (upd H p o):=λb u e=>by rw[Kn (YI e h)];exact e
theorem Ext.new{p:Uh}{o:HO}(e:Same G H)(h:H p=jw):Ext G H (upd G p o) (upd H p o):=by
 have hg:G p=jw:=e.free h;refine⟨Zj h,Zj hg,λb u q=>?_,λa u q n=>?_⟩
 .by_cases z:b=p
  .subst z;rw[KP]at q⊢;exact q
  .rw[Kn z]at q⊢;exact e b u q
 .rw[Kn (YI q h)];exact n
theorem Ext.hid{p:Uh}{o:HO}(e:Same G H)(h:H p=jw):Ext G H G (upd H p o):=
 ⟨Zj h,.refl _,e.trans (Zj h),λ_ _ _ n=>n⟩
inductive Pat where
 |leaf|lst (p:Pat)|tup (ps:List Pat)|dic
mutual
inductive RepO(K:Frag)(G H:Hp):Pat->V->D->jH->Prop where
 |leaf {v:V} {d:D} (r:Rep K G v d):RepO K G H .leaf v d []
 |lst {p:Pat} {a:Uh} {vs:List V} {ds:jz} {fp:jH} (h:H a=ju (.lst vs)) (r:RepOl K G H p vs ds fp):RepO K G H (.lst p) (.ref a) (.list ds) (a::fp)
 |tup {ps:List Pat} {a:Uh} {vs:List V} {ds:jz} {fp:jH} (h:H a=ju (.tup vs)) (r:RepOs K G H ps vs ds fp):RepO K G H (.tup ps) (.ref a) (.tuple ds) fp
 |dic {a:Uh} {ks:List Key} {vs:List V} {ds:jz} {kvs:List (D×D)} (e:kvs=(ks.map kD).zip ds) (hl:ks.length=ds.length) (h:H a=ju (.dK (ks.zip vs))) (r:Reps K G vs ds):RepO K G H .dic (.ref a) (.dict kvs) [a]
inductive RepOl(K:Frag)(G H:Hp):Pat->List V->jz->jH->Prop where
 |nil {p:Pat}:RepOl K G H p [] [] []
 |cons {p:Pat} {v:V} {d:D} {vs:List V} {ds:jz} {f1 f2:jH} (h:RepO K G H p v d f1) (t:RepOl K G H p vs ds f2):RepOl K G H p (v::vs) (d::ds) (f1++f2)
inductive RepOs(K:Frag)(G H:Hp):List Pat->List V->jz->jH->Prop where
 |nil:RepOs K G H [] [] [] []
 |cons {p:Pat} {ps:List Pat} {v:V} {d:D} {vs:List V} {ds:jz} {f1 f2:jH} (h:RepO K G H p v d f1) (t:RepOs K G H ps vs ds f2):RepOs K G H (p::ps) (v::vs) (d::ds) (f1++f2)
end
def Y1(K:Frag)(G H:Hp)(M1:Pat->V->D->jH->Prop)(M2:Pat->List V->jz->jH->Prop)(M3:List Pat->List V->jz->jH->Prop):Prop:=
 (∀{p v d fp},RepO K G H p v d fp->M1 p v d fp)/\(∀{p vs ds fp},RepOl K G H p vs ds fp->M2 p vs ds fp)/\∀{ps vs ds fp},RepOs K G H ps vs ds fp->M3 ps vs ds fp
theorem RepO.ind3{M1:Pat->V->D->jH->Prop}{M2:Pat->List V->jz->jH->Prop}{M3:List Pat->List V->jz->jH->Prop}
  (c1:∀{v d},Rep K G v d->M1 .leaf v d []) (c2:∀{p a vs ds fp},H a=ju (.lst vs)->M2 p vs ds fp->M1 (.lst p) (.ref a) (.list ds) (a::fp)) (c3:∀{ps a vs ds fp},H a=ju (.tup vs)->M3 ps vs ds fp->M1 (.tup ps) (.ref a) (.tuple ds) fp)
  (c4:∀{a:Uh}{ks:List Key}{vs:List V}{ds:jz}{kvs:List (D×D)},kvs=(ks.map kD).zip ds->ks.length=ds.length->H a=ju (.dK (ks.zip vs))->Reps K G vs ds->M1 .dic (.ref a) (.dict kvs) [a])
  (c5:∀{p},M2 p [] [] []) (c6:∀{p v d vs ds f1 f2},M1 p v d f1->M2 p vs ds f2->M2 p (v::vs) (d::ds) (f1++f2)) (c7:M3 [] [] [] []) (c8:∀{p ps v d vs ds f1 f2},M1 p v d f1->M3 ps vs ds f2->M3 (p::ps) (v::vs) (d::ds) (f1++f2)) :
  Y1 K G H M1 M2 M3:=
 ⟨λh=>RepO.rec (motive_1:=λp v d fp _=>M1 p v d fp) (motive_2:=λp v d fp _=>M2 p v d fp) (motive_3:=λp v d fp _=>M3 p v d fp) c1 (λh _=>c2 h) (λh _=>c3 h) c4 c5 (λ_ _=>c6) c7 (λ_ _=>c8) h,
  λh=>RepOl.rec (motive_1:=λp v d fp _=>M1 p v d fp) (motive_2:=λp v d fp _=>M2 p v d fp) (motive_3:=λp v d fp _=>M3 p v d fp) c1 (λh _=>c2 h) (λh _=>c3 h) c4 c5 (λ_ _=>c6) c7 (λ_ _=>c8) h,
  λh=>RepOs.rec (motive_1:=λp v d fp _=>M1 p v d fp) (motive_2:=λp v d fp _=>M2 p v d fp) (motive_3:=λp v d fp _=>M3 p v d fp) c1 (λh _=>c2 h) (λh _=>c3 h) c4 c5 (λ_ _=>c6) c7 (λ_ _=>c8) h⟩
theorem RepO.mono3(sg:Same G G1)(sh:Same H H1):Y1 K G H (RepO K G1 H1) (RepOl K G1 H1) (RepOs K G1 H1):=
 RepO.ind3 (λr=>.leaf (r.mono sg)) (λh r=>.lst (sh _ _ h) r) (λh r=>.tup (sh _ _ h) r) (λe hl h r=>.dic e hl (sh _ _ h) (r.mono sg)) .nil .cons .nil .cons
theorem RepO.mono(sg:Same G G1)(sh:Same H H1){p:Pat}{v:V}{d:D}{fp:jH}(r:RepO K G H p v d fp):RepO K G1 H1 p v d fp:=(RepO.mono3 sg sh).1 r
theorem RepO.upd3{a:Uh}{o:HO}(nt:∀vs,H a≠ju (.tup vs)):Y1 K G H (λp v d fp=>a∉fp->RepO K G (upd H a o) p v d fp) (λp v d fp=>a∉fp->RepOl K G (upd H a o) p v d fp) (λp v d fp=>a∉fp->RepOs K G (upd H a o) p v d fp):=
 RepO.ind3
 (λr _=>.leaf r) (λh r n=>.lst (by rw[Kn (λz=>n (by rw[z];exact Qt))];exact h) (r λz=>n (QD _ z))) (λh r n=>.tup (by rw[Kn (λz=>by subst z;exact nt _ h)];exact h) (r n))
 (λe hl h r n=>.dic e hl (by rw[Kn (λz=>n (by rw[z];exact Qt))];exact h) r) (λ_=>.nil) (λh t n=>.cons (h λz=>n (Jo _ z)) (t λz=>n (QF _ z))) (λ_=>.nil) (λh t n=>.cons (h λz=>n (Jo _ z)) (t λz=>n (QF _ z)))
theorem RepO.upd{a:Uh}{o:HO}(nt:∀vs,H a≠ju (.tup vs)){p:Pat}{v:V}{d:D}{fp:jH}(r:RepO K G H p v d fp)(n:a∉fp):RepO K G (upd H a o) p v d fp:=(RepO.upd3 nt).1 r n
theorem RepO.rep3(gh:Same G H):Y1 K G H (λ_ v d _=>Rep K H v d) (λ_ v d _=>Reps K H v d) (λ_ v d _=>Reps K H v d):=
 RepO.ind3 (λr=>r.mono gh) (λh r=>.lst (SqL.of h) r) (λh r=>.tup (SqT.of h) r)
 (λ{a ks vs ds kvs} e hl h r=>by
  cases ks with
  |nil=>subst e;exact .dic h
  |cons k ks=>exact .dct e (λz=>by cases z) hl h (r.mono gh)) .nil .cons .nil .cons
theorem RepO.rep(gh:Same G H){p:Pat}{v:V}{d:D}{fp:jH}(r:RepO K G H p v d fp):Rep K H v d:=(RepO.rep3 gh).1 r
theorem RepO.isl3:Y1 K G H (λ_ _ _ fp=>∀a∈fp,∃u:MO,H a=ju u.ho) (λ_ _ _ fp=>∀a∈fp,∃u:MO,H a=ju u.ho) (λ_ _ _ fp=>∀a∈fp,∃u:MO,H a=ju u.ho):=
 RepO.ind3 (λ_ a m=>by cases m)
 (λh r b m=>(Ql.mp m).elim (λe=>⟨.l _,e ▸ h⟩) (r b)) (λ_ r=>r) (λ_ _ h _ b m=>⟨.k _,Qy.mp m ▸ h⟩) (λa m=>by cases m) (λh t b m=>(QO.mp m).elim (h b) (t b)) (λa m=>by cases m) (λh t b m=>(QO.mp m).elim (h b) (t b))
theorem RepO.isl{p:Pat}{v:V}{d:D}{fp:jH}(r:RepO K G H p v d fp):∀a∈fp,∃u:MO,H a=ju u.ho:=RepO.isl3.1 r
theorem RepO.uniq3(sh:Same H H1):Y1 K G H (λp v _ fp=>∀d' fp',RepO K G1 H1 p v d' fp'->fp=fp') (λp v _ fp=>∀d' fp',RepOl K G1 H1 p v d' fp'->fp=fp') (λp v _ fp=>∀d' fp',RepOs K G1 H1 p v d' fp'->fp=fp'):=
 RepO.ind3
 (λ_ d' fp' h=>by cases h;rfl)
 (λh r d' fp' h'=>by
  cases h' with
  |lst h2 r2=>have e:=sh _ _ h;rw[h2]at e;cases e;rw[r _ _ r2])
 (λh r d' fp' h'=>by
  cases h' with
  |tup h2 r2=>have e:=sh _ _ h;rw[h2]at e;cases e;exact r _ _ r2)
 (λ_ _ _ _ d' fp' h=>by cases h;rfl) (λd' fp' h=>by cases h;rfl)
 (λh t d' fp' h'=>by
  cases h' with
  |cons h2 t2=>rw[h _ _ h2,t _ _ t2])
 (λd' fp' h=>by cases h;rfl)
 (λh t d' fp' h'=>by
  cases h' with
  |cons h2 t2=>rw[h _ _ h2,t _ _ t2])
theorem RepO.uniq(sh:Same H H1){p:Pat}{v:V}{d d':D}{fp fp':jH}(r:RepO K G H p v d fp)(r':RepO K G1 H1 p v d' fp'):fp=fp':=(RepO.uniq3 sh).1 r _ _ r'
inductive Sl where
 |pub (d:D)|own (ds:jz)|deep (p:Pat) (d:D)
abbrev UF:=List (Option Sl)
abbrev jG:=Option UF
def DpOk(K:Frag)(B G H:Hp)(σ:St)(Z:UF):Prop:=∃ω:Uh->Nat,
 (∀(i:Nat) p d,Z[i]?=ju (ju (.deep p d))->∃v fp,σ[i]?=ju (ju v)/\RepO K G H p v d fp/\fp.Nodup/\∀a∈fp,B a=jw/\G a=jw/\ω a=i) /\
 (∀(i:Nat) ds a,Z[i]?=ju (ju (.own ds))->σ[i]?=ju (ju (.ref a))->ω a=i)
theorem DpOk.of{σ:St}{Z:UF}(h1:∀(i:Nat) p d,Z[i]?=ju (ju (.deep p d))->False)(h2:∀(i:Nat) ds,Z[i]?=ju (ju (.own ds))->False):DpOk K B G H σ Z:=
 ⟨λ_=>0,λi p d q=>(h1 i p d q).elim,λi ds a q=>(h2 i ds q).elim⟩
theorem DpOk.map{B1:Hp}{σ σ1:St}{Z Z1:UF}(k:DpOk K B G H σ Z)
  (h1:∀(i:Nat) p d,Z1[i]?=ju (ju (.deep p d))->Z[i]?=ju (ju (.deep p d))/\σ1[i]?=σ[i]?)
  (h2:∀(i:Nat) ds,Z1[i]?=ju (ju (.own ds))->∃es,Z[i]?=ju (ju (.own es))/\σ1[i]?=σ[i]?)
  (h3:∀(i:Nat) p d v fp,Z[i]?=ju (ju (.deep p d))->σ[i]?=ju (ju v)->RepO K G H p v d fp->(∀a∈fp,B a=jw/\G a=jw)->(∀(j:Nat) ds a,Z[j]?=ju (ju (.own ds))->σ[j]?=ju (ju (.ref a))->a∉fp)->RepO K G1 H1 p v d fp/\∀a∈fp,B1 a=jw/\G1 a=jw):DpOk K B1 G1 H1 σ1 Z1:=by
 obtain⟨ω,k1,k2⟩:=k;refine⟨ω,λi p d q=>?_,λi ds a q s=>?_⟩
 .obtain⟨q1,e1⟩:=h1 i p d q
  obtain⟨v,fp,s,r,n,w⟩:=k1 i p d q1;obtain⟨r1,w1⟩:=h3 i p d v fp q1 s r (λa m=>⟨(w a m).1,(w a m).2.1⟩) λj ds a qj sj m=>by have z1:=k2 j ds a qj sj;have z2:=(w a m).2.2;rw[z1]at z2;subst z2;rw[q1]at qj;cases qj
  exact⟨v,fp,by rw[e1];exact s,r1,n,λa m=>⟨(w1 a m).1,(w1 a m).2,(w a m).2.2⟩⟩
 .obtain⟨es,q1,e1⟩:=h2 i ds q
  rw[e1]at s;exact k2 i es a q1 s
structure EOk(K:Frag)(B G0 G H:Hp)(σ:St)(Z:UF):Prop where
 bh:Same B H
 gh:Same G H
 g0:Same G0 G
 np:∀a(u:MO),B a=ju u.ho->G0 a=jw->G a=jw
 len:Z.length=σ.length
 pub:∀(i:Nat) d,Z[i]?=ju (ju (.pub d))->∃v,σ[i]?=ju (ju v)/\Rep K G v d
 own:∀(i:Nat) ds,Z[i]?=ju (ju (.own ds))->∃a vs,σ[i]?=ju (ju (.ref a))/\B a=jw/\G a=jw/\H a=ju (.lst vs)/\Reps K G vs ds
 sep:∀(i j:Nat) a ds es,Z[i]?=ju (ju (.own ds))->Z[j]?=ju (ju (.own es))->σ[i]?=ju (ju (.ref a))->σ[j]?=ju (ju (.ref a))->i=j
 dp:DpOk K B G H σ Z
theorem EOk.ext{G' H':Hp}{σ:St}{Z:UF}(k:EOk K B G0 G H σ Z)(e:Ext G H G' H'):EOk K B G0 G' H' σ Z where
 bh:=k.bh.trans e.h
 gh:=e.gh
 g0:=k.g0.trans e.g
 np:=λa o q n=>e.np a o (k.bh a _ q) (k.np a o q n)
 len:=k.len
 pub:=λi d q=>let ⟨v,h1,h2⟩:=k.pub i d q;⟨v,h1,h2.mono e.g⟩
 own:=λi ds q=>let ⟨a,vs,h1,h2,h3,h4,h5⟩:=k.own i ds q;⟨a,vs,h1,h2,e.np a (.l _) h4 h3,e.h a _ h4,h5.mono e.g⟩
 sep:=k.sep
 dp:=k.dp.map (λ_ _ _ q=>⟨q,rfl⟩) (λ_ ds q=>⟨ds,q,rfl⟩) λi p d v fp q s r w n=>⟨r.mono e.g e.h,λa m=>let ⟨_,hl⟩:=r.isl a m;⟨(w a m).1,e.np a _ hl (w a m).2⟩⟩
theorem EOk.publish{σ:St}{Z:UF}{i:Nat}{ds:jz}(k:EOk K B G0 G H σ Z)(h:Z[i]?=ju (ju (.own ds))) :
  ∃a G',σ[i]?=ju (ju (.ref a))/\Same G G'/\Rep K G' (.ref a) (.list ds)/\EOk K B G0 G' H σ (Z.set i (ju (.pub (.list ds)))):=by
 obtain⟨a,vs,h1,h2,h3,h4,h5⟩:=k.own i ds h;have sg:Same G (upd G a (.lst vs)):=Zj h3;have hr:Rep K (upd G a (.lst vs)) (.ref a) (.list ds):=.lst (SqL.of KP) (h5.mono sg);refine⟨a,upd G a (.lst vs),h1,sg,hr,⟨k.bh,λb u q=>?_,k.g0.trans sg,λb o q n=>?_,by rw[Q6];exact k.len,λj d q=>?_,λj es q=>?_,λj l c es fs q1 q2 s1 s2=>?_,?_⟩⟩
 .by_cases z:b=a
  .subst z;rw[KP]at q;cases q;exact h4
  .rw[Kn z]at q;exact k.gh b u q
 .have z:b≠a:=λz=>by subst z;rw[h2]at q;cases q
  rw[Kn z];exact k.np b o q n
 .by_cases z:i=j
  .subst z
   have hl:i<Z.length:=(Qh.mp h).1;rw[QG hl]at q;cases q;exact⟨.ref a,h1,hr⟩
  .rw[Qm z]at q
   obtain⟨v,g1,g2⟩:=k.pub j d q;exact⟨v,g1,g2.mono sg⟩
 .by_cases z:i=j
  .subst z
   have hl:i<Z.length:=(Qh.mp h).1;rw[QG hl]at q;cases q
  .rw[Qm z]at q
   obtain⟨b,ws,g1,g2,g3,g4,g5⟩:=k.own j es q;have zb:b≠a:=λe=>z (k.sep i j a ds es h q h1 (by rw[←e];exact g1))
   exact⟨b,ws,g1,g2,by rw[Kn zb];exact g3,g4,g5.mono sg⟩
 .have nz:∀{m:Nat}{ts:jz},(Z.set i (ju (Sl.pub (.list ds))))[m]?=ju (ju (.own ts))->Z[m]?=ju (ju (.own ts)):=λ{m ts} q=>by
   by_cases z:i=m
   .subst z
    have hl:i<Z.length:=(Qh.mp h).1;rw[QG hl]at q;cases q
   .rw[Qm z]at q;exact q
  exact k.sep j l c es fs (nz q1) (nz q2) s1 s2
 .have hl:i<Z.length:=(Qh.mp h).1
  have nz:∀{m:Nat}{s:Sl},(Z.set i (ju (Sl.pub (.list ds))))[m]?=ju (ju s)->(∃d,s=.pub d)∨Z[m]?=ju (ju s):=λ{m s} q=>by
   by_cases z:i=m
   .subst z
    rw[QG hl]at q;cases q;exact .inl ⟨_,rfl⟩
   .rw[Qm z]at q;exact .inr q
  refine k.dp.map (λm p d q=>?_) (λm es q=>?_) λm p d v fp q s r w n=>⟨r.mono sg (.refl _),λb mb=>⟨(w b mb).1,?_⟩⟩
  .rcases nz q with ⟨_,e⟩|q
   .cases e
   .exact⟨q,rfl⟩
  .rcases nz q with ⟨_,e⟩|q
   .cases e
   .exact⟨es,q,rfl⟩
  .rw[Kn (λz=>by subst z;exact n i ds b h h1 mb)];exact(w b mb).2
inductive Res(α:Type) where
 |ok (a:α) (Z:UF)|bad
abbrev M(α:Type):=UF->Res α
def UL{α:Type}(a:α):M α:=λZ=>.ok a Z
def UW{α:Type}(o:Option α):M α:=λZ=>match o with|some a=>.ok a Z|none=>.bad
def UZ{α β:Type}(f:M α)(k:α->M β):M β:=λZ=>match f Z with | .ok a Z'=>k a Z' | .bad=>.bad
section
variable(K:Frag)(B G0:Hp)
def aft{α γ:Type}(R:Hp->γ->α->Prop)(r:Res α)(G:Hp)(σ:St)(Q:γ->Hp->Prop):Prop:=
 match r with
 |.ok d Z'=>∀v G' H',EOk K B G0 G' H' σ Z'->Same G G'->R G' v d->Q v H'
 |.bad=>False
def tM{α γ:Type}(R:Hp->γ->α->Prop)(f:M α):St->Hp->(γ->Hp->Prop)->Prop:=λσ H Q=>
 ∃G Z,EOk K B G0 G H σ Z/\aft K B G0 R (f Z) G σ Q
abbrev tD(f:M D):TE:=tM K B G0 (Rep K) f
abbrev tDs(f:M jz):TA:=tM K B G0 (Reps K) f
abbrev tBo(f:M Bool):TT:=tM K B G0 (λ_ b c=>b=c) f
abbrev tOi(f:M jD):TO:=tM K B G0 (λ_ b c=>b=c) f
end
section
variable{K:Frag}{B G0:Hp}{α β γ δ ε:Type}{R:Hp->γ->α->Prop}{S:Hp->δ->β->Prop}{T:Hp->ε->α->Prop}{σ:St}{H:Hp}
theorem aft.mono{r:Res α}{G G':Hp}{Q:γ->Hp->Prop}(e:Same G G')(h:aft K B G0 R r G σ Q):aft K B G0 R r G' σ Q:=by
 cases r with
 |ok d Z=>exact λv G2 H2 k s q=>h v G2 H2 k (e.trans s) q
 |bad=>exact h
theorem aft.done{d:α}{Z:UF}{G G' H H':Hp}{v:γ}{Q:γ->Hp->Prop}(h:aft K B G0 R (.ok d Z) G σ Q)(k:EOk K B G0 G H σ Z)(e:Ext G H G' H')(r:R G' v d):Q v H':=
 h v G' H' (k.ext e) e.g r
theorem aft.now{d:α}{Z:UF}{G H:Hp}{v:γ}{Q:γ->Hp->Prop}(h:aft K B G0 R (.ok d Z) G σ Q)(k:EOk K B G0 G H σ Z)(r:R G v d):Q v H:=
 h v G H k (.refl _) r
theorem aft.opt{o:Option α}{Z:UF}{G:Hp}{Q:γ->Hp->Prop}(h:aft K B G0 R (UW o Z) G σ Q):∃d,o=ju d/\aft K B G0 R (.ok d Z) G σ Q:=by
 cases o with
 |none=>exact h.elim
 |some d=>exact⟨d,rfl,h⟩
theorem tM.bind{f:M α}{k:α->M β}{Q:δ->Hp->Prop}(h:tM K B G0 S (UZ f k) σ H Q) :
  tM K B G0 R f σ H (λv H1=>∃G Z d,EOk K B G0 G H1 σ Z/\R G v d/\aft K B G0 S (k d Z) G σ Q):=by
 obtain⟨G,Z,e,a⟩:=h;refine⟨G,Z,e,?_⟩;unfold UZ at a;cases q:f Z with
 |bad=>rw[q]at a;exact a.elim
 |ok d Z1=>rw[q]at a;exact λv G' H' e' s r=>⟨G',Z1,d,e',r,aft.mono s a⟩
theorem tM.bind2{α' γ':Type}{R':Hp->γ'->α'->Prop}{f:M α}{g:α->M α'}{k:α->α'->M β}{Q:δ->Hp->Prop}(mo:∀G G' v d,Same G G'->R G v d->R G' v d)
  (h:tM K B G0 S (UZ f λx=>UZ (g x) λy=>k x y) σ H Q) :
  tM K B G0 R f σ H (λv H1=>∃x,tM K B G0 R' (g x) σ H1 λu H2=>∃G Z y,EOk K B G0 G H2 σ Z/\R G v x/\R' G u y/\aft K B G0 S (k x y Z) G σ Q):=by
 obtain⟨G,Z,e,a⟩:=tM.bind (R:=R) h;refine⟨G,Z,e,?_⟩;cases q:f Z with
 |bad=>rw[q]at a;exact a.elim
 |ok d Z1=>
  rw[q]at a;intro v G' H' e' s r;obtain⟨G2,Z2,d2,e2,r2,a2⟩:=a v G' H' e' s r;refine⟨d2,G2,Z2,e2,?_⟩;unfold UZ at a2;cases q2:g d2 Z2 with
  |bad=>rw[q2]at a2;exact a2.elim
  |ok d3 Z3=>rw[q2]at a2;exact λu G3 H3 e3 s3 r3=>⟨G3,Z3,d3,e3,mo _ _ _ _ s3 r2,r3,aft.mono s3 a2⟩
end
theorem NS{K:Frag}(G G':Hp)(v:V)(d:D)(e:Same G G')(r:Rep K G v d):Rep K G' v d:=r.mono e
theorem tM.two{K:Frag}{B G0:Hp}{β δ:Type}{S:Hp->δ->β->Prop}{σ:St}{H:Hp}{f g:M D}{k:D->D->M β}{Q:δ->Hp->Prop}{P:V->V->Hp->Prop}
  (h:tM K B G0 S (UZ f λx=>UZ g λy=>k x y) σ H Q)
  (i:∀v u H2 G Z x y,EOk K B G0 G H2 σ Z->Rep K G v x->Rep K G u y->aft K B G0 S (k x y Z) G σ Q->P v u H2) :
  tD K B G0 f σ H (λv H1=>tD K B G0 g σ H1 λu H2=>P v u H2):=by
 obtain⟨G,Z,e,a⟩:=tM.bind2 (R:=Rep K) (R':=Rep K) NS h;refine⟨G,Z,e,?_⟩;cases q:f Z with
 |bad=>rw[q]at a;exact a.elim
 |ok d Z1=>
  rw[q]at a;intro v G' H' e' s r;obtain⟨x,G2,Z2,e2,a2⟩:=a v G' H' e' s r;refine⟨G2,Z2,e2,?_⟩;cases q2:g Z2 with
  |bad=>rw[q2]at a2;exact a2.elim
  |ok d3 Z3=>rw[q2]at a2;intro u G3 H3 e3 s3 r3;obtain⟨G4,Z4,y,e4,r4,r5,a5⟩:=a2 u G3 H3 e3 s3 r3;exact i v u H3 G4 Z4 x y e4 r4 r5 a5
theorem tM.one{K:Frag}{B G0:Hp}{α β γ δ:Type}{R:Hp->γ->α->Prop}{S:Hp->δ->β->Prop}{σ:St}{H:Hp}{f:M α}{k:α->M β}{Q:δ->Hp->Prop}{P:γ->Hp->Prop}
  (h:tM K B G0 S (UZ f k) σ H Q) (i:∀v H2 G Z x,EOk K B G0 G H2 σ Z->R G v x->aft K B G0 S (k x Z) G σ Q->P v H2):tM K B G0 R f σ H P:=by
 obtain⟨G,Z,e,a⟩:=tM.bind (R:=R) h;refine⟨G,Z,e,?_⟩;cases q:f Z with
 |bad=>rw[q]at a;exact a.elim
 |ok d Z1=>rw[q]at a;intro v G' H' e' s r;obtain⟨G2,Z2,d2,e2,r2,a2⟩:=a v G' H' e' s r;exact i v H' G2 Z2 d2 e2 r2 a2
section
variable{X:Cx}{B G0:Hp}{e a b:Uj}{pos:Pos}
theorem U7{t t':TE}(h:PE X e t)(i:∀σ H Q,t' σ H Q->t σ H Q):PE X e t':=λpins s σ H Q I q=>h pins s σ H Q I (i σ H Q q)
theorem ZS{t t':TT}(h:PT X e t)(i:∀σ H Q,t' σ H Q->t σ H Q):PT X e t':=λpins s σ H Q I q=>h pins s σ H Q I (i σ H Q q)
theorem Xp{es:jF}{t t':TA}(h:PA X es t)(i:∀σ H Q,t' σ H Q->t σ H Q):PA X es t':=λps pins s σ H Q I q=>h ps pins s σ H Q I (i σ H Q q)
theorem poof{eo:Option Uj}{t t':TO}(h:PO X eo t)(i:∀σ H Q,t' σ H Q->t σ H Q):PO X eo t':=λpins s σ H Q I q=>h pins s σ H Q I (i σ H Q q)
theorem Zb{st:Stmt}{t t':TS}(h:PS X st t)(i:∀D σ H,t' D σ H->t D σ H):PS X st t':=λpins s σ H D I q=>h pins s σ H D I (i D σ H q)
theorem SZ{st:List Stmt}{t t':TS}(h:PSs X st t)(i:∀D σ H,t' D σ H->t D σ H):PSs X st t':=λpins s σ H D I q=>h pins s σ H D I (i D σ H q)
def UE(i:Nat):M D:=λZ=>match Z[i]? with
 |some (ju (.pub d))=>.ok d Z
 |some (ju (.own ds))=>.ok (.list ds) (Z.set i (ju (.pub (.list ds))))
 |_=>.bad
theorem OQ{i:Nat}(h:PE X e (KT i)):PE X e (tD X.K B G0 (UE i)):=U7 h λσ H Q ⟨G,Z,k,a⟩=>by
 unfold UE at a;cases q:Z[i]? with
 |none=>rw[q]at a;exact a.elim
 |some o=>
  cases o with
  |none=>rw[q]at a;exact a.elim
  |some sl=>
   cases sl with
   |deep _ _=>rw[q]at a;exact a.elim
   |pub d=>rw[q]at a;obtain⟨v,h1,h2⟩:=k.pub i d q;exact⟨v,h1,a.now k h2⟩
   |own ds=>rw[q]at a;obtain⟨ad,G',h1,h2,h3,h4⟩:=k.publish q;exact⟨.ref ad,h1,a (.ref ad) G' H h4 h2 h3⟩
theorem Rj{v:V}{d:D}(h:PE X e (tC v))(r:∀G,Rep X.K G v d):PE X e (tD X.K B G0 (UL d)):=U7 h λσ H Q ⟨G,Z,k,a⟩=>a.now k (r G)
theorem Fu{i:Int}{j}:PE X (.Constant (.int i) j pos) (tD X.K B G0 (UL (.int i))):=Rj Fk λ_=>.int i
theorem Dh{i:Bool}{j}:PE X (.Constant (.bool i) j pos) (tD X.K B G0 (UL (.bool i))):=Rj Hd λ_=>.bl i
theorem Dg{j}:PE X (.Constant .none j pos) (tD X.K B G0 (UL .none)):=Rj Fj λ_=>.non
theorem FZ{x:Str}{j}:PE X (.Constant (.str x) j pos) (tD X.K B G0 (UL (.str x))):=Rj Fi λ_=>.str x
def UJ{β:Type}(op:D->D->Option β)(f g:M D):M β:=UZ f λx=>UZ g λy=>UW (op x y)
def OpD(X:Cx)(f:Ue->Ue->Sem Ue)(op:D->D->jC):Prop:=
 ∃r:R2,OpR X f r/\∀v u G H x y d Q,Same G H->Rep X.K G v x->Rep X.K G u y->op x y=ju d->(∀w G' H',Ext G H G' H'->Rep X.K G' w d->Q w H')->r v u H Q
theorem To{op:Operator}{p:D->D->jC}{f g:M D}(o:OpD X (binaryOp op) p)(ha:PE X a (tD X.K B G0 f))(hb:PE X b (tD X.K B G0 g)):PE X (.BinOp a op b pos) (tD X.K B G0 (UJ p f g)):=by
 obtain⟨r,h,i⟩:=o;refine U7 (OF h ha hb) λσ H Q q=>?_;refine tM.two q λv u H2 G Z x y k rx ry a=>?_
 obtain⟨d,e,a⟩:=a.opt;exact i v u G H2 x y d Q k.gh rx ry e λw G' H' ex rw=>a.done k ex rw
theorem OpD.or{f:Ue->Ue->Sem Ue}{p q:D->D->jC}(h:OpD X f p)(h':OpD X f q):OpD X f (λx y=>(p x y).orElse λ_=>q x y):=by
 obtain⟨r,h1,i1⟩:=h;obtain⟨r',h2,i2⟩:=h';refine⟨_,h1.or h2,λv u G H x y d Q s rx ry e k=>?_⟩;dsimp only at e;cases z:p x y with
 |some d'=>rw[z]at e;have e':d'=d:=Qz e;subst e';exact .inl (i1 v u G H x y d' Q s rx ry z k)
 |none=>rw[z]at e;exact .inr (i2 v u G H x y d Q s rx ry e k)
def oII(g:Int->Int->jC):D->D->jC
 |.int i,.int j=>g i j
 |_,_=>jw
theorem NR{g:Int->Int->jC}{x y d:D}(e:oII g x y=ju d):∃i j,x=.int i/\y=.int j/\g i j=ju d:=by
 unfold oII at e;split at e
 .exact⟨_,_,rfl,rfl,e⟩
 .cases e
theorem OpD.int{f:Ue->Ue->Sem Ue}{C:Int->Int->Prop}{g:Int->Int->V}{p:Int->Int->jC}(h:OpR X f (rI C g))(i:∀i j d,p i j=ju d->C i j/\∀G,Rep X.K G (g i j) d):OpD X f (oII p):=by refine⟨_,h,λv u G H x y d Q s rx ry e k=>?_⟩;obtain⟨a,b,rfl,rfl,e⟩:=NR e;obtain⟨c,r⟩:=i a b d e;exact⟨a,b,rx.int_inv,ry.int_inv,c,k _ G H (.refl s) (r G)⟩
theorem OpD.int0{f:Ue->Ue->Sem Ue}{g:Int->Int->V}{p:Int->Int->D}(h:OpR X f (rI0 g))(i:∀i j G,Rep X.K G (g i j) (p i j)):OpD X f (oII λi j=>ju (p i j)):=by refine⟨_,h,λv u G H x y d Q s rx ry e k=>?_⟩;obtain⟨a,b,rfl,rfl,e⟩:=NR e;cases e;exact⟨a,b,rx.int_inv,ry.int_inv,k _ G H (.refl s) (i a b G)⟩
end
section
variable{X:Cx}{B G0:Hp}{e a b c:Uj}{pos:Pos}
theorem FY:OpD X (binaryOp .Add) (oII λi j=>ju (.int (i+j))):=.int0 FO λ_ _ _=>.int _
theorem FX:OpD X (binaryOp .Sub) (oII λi j=>ju (.int (i-j))):=.int0 FN λ_ _ _=>.int _
def ZN(i j:Int):jC:=if(-(2 ^ 64)<i/\i<2 ^ 64)∨(-(2 ^ 64)<j/\j<2 ^ 64)then ju (.int (i*j))else jw
theorem Df:OpD X (binaryOp .Mult) (oII ZN):=.int FM λi j d h=>by
 unfold ZN at h;split at h
 .rename_i c
  cases h;exact⟨c,λ_=>.int _⟩
 .cases h
def Wk(i j:Int):jC:=if 0<j then ju (.int (i % j))else jw
theorem FW:OpD X (binaryOp .Mod) (oII Wk):=.int FL λi j d h=>by
 unfold Wk at h;split at h
 .rename_i c
  cases h;exact⟨c,λ_=>.int _⟩
 .cases h
theorem CY:OpR X (binaryOp .FloorDiv) (rI (λi j=>0<j/\j<2 ^ 64) λi j=>.int (i / j)):=opI λi j _ _ _ _ _ hc q=>by
 have h1:(0:Int)<j:=hc.1;have h2:j<2 ^ 64:=hc.2;refine floordiv_int (by omega) (by rw[Int.fdiv_eq_ediv_of_nonneg i (by omega)];exact q) (.inl (PyProof.noPylong_of_log2 ?_));have h0:j.natAbs≠0:=by omega
 have:j.natAbs.log2<64:=(Nat.log2_lt h0).mpr (by omega);omega
def Wl(i j:Int):jC:=if 0<j/\j<2 ^ 64 then ju (.int (i / j))else jw
theorem FV:OpD X (binaryOp .FloorDiv) (oII Wl):=.int CY λi j d h=>by
 unfold Wl at h;split at h
 .rename_i c
  cases h;exact⟨c,λ_=>.int _⟩
 .cases h
def Wj(i j:Int):jC:=if 0<=j/\j<=1000000/\i.natAbs<2 ^ 64 then ju (.int (i ^ j.toNat))else jw
theorem FT:OpD X (binaryOp .Pow) (oII Wj):=.int FJ λi j d h=>by
 unfold Wj at h;split at h
 .rename_i c
  cases h;exact⟨c,λ_=>.int _⟩
 .cases h
theorem lim:(1000000:Nat)<=Uk:=by decide
def SY:D->D->jC
 |.str x,.str y=>if x.length+y.length<=1000000 then ju (.str (x++y))else jw
 |_,_=>jw
theorem De:OpD X (binaryOp .Add) SY:=by
 refine⟨_,qi,λv u G H x y d Q s rx ry e k=>?_⟩;unfold SY at e;split at e
 .split at e
  .rename_i c
   cases e;exact⟨_,_,rx.str_inv,ry.str_inv,QP c lim,k _ G H (.refl s) (.str _)⟩
  .cases e
 .cases e
def LR(K:Frag):R2:=λx y H Q=>∃l b xs zs,x=.ref l/\y=.ref b/\SqL K H l xs/\SqL K H b zs/\xs.length+zs.length<=Uk/\∀p,H p=jw->Q (.ref p) (upd H p (.lst (xs++zs)))
theorem NQ:OpR X (binaryOp .Add) (LR X.K):=by
 intro pins s σ H x y v u Q I rx ry h;obtain⟨l,b,xs,zs,rfl,rfl,hH,hB,hz,q⟩:=h;cases rx;cases ry;obtain⟨its,r,⟨⟨c1,d1,t1,s1⟩,n1,e1,vo,vn,vm⟩,z1⟩:=I.list hH;obtain⟨its2,r2,⟨⟨c2,d2,t2,s2⟩,n2,e2,ec2,ed2,et2⟩,z2⟩:=I.list hB;simp only at vo vn vm ec2 ed2 et2;subst vo vn vm ec2 ed2 et2;have hl:=r.length;have hl2:=r2.length;refine concat_meets ⟨_,e1,rfl⟩ ⟨_,e2,rfl⟩ noFill_list_add seq_list_add PySem.F.slot_list_add PySem.F.entry_list_add (PySem.F.args_list_add_2 _ _) (list_addW l b its.toArray its2.toArray n1 n2 jw jw s1 s2 (by rw[QI,QI];omega)) ⟨e1,e2,?_⟩;have ea:its.toArray++its2.toArray=(its++its2).toArray:=by simp
 rw[ea];exact⟨.ref _,_,I.lnew (t':=s.toks) (r.append r2) (by rw[Qi];omega),rfl,q _ I.fresh⟩
theorem LQ(a:Int)(t:Tok)(l:Uh)(items:Array Ue)(n:Nat)(sl:Array jE) :
  Meets (Builtin.«int.__rmul__» ⟨[.int a t,.ref l],[]⟩) (λ_ R s=>s.heap.get? l=ju {cls:=.type "list", dict:=jw,data:=.seq items n,slots:=sl}/\R (.ok (.ret Value.notImplemented)) s):=
 .of_wp λprog w A R s h=>by obtain⟨hp,g,d,tk,os⟩:=s;obtain⟨hl,h⟩:=h;wp_walk;exact⟨_,rfl,h⟩
theorem mulW(l:Uh)(items:Array Ue)(n:Nat)(x:Int)(u:Tok)(sl:Array jE)(hc0:¬(!Builtin.List.listFitsIndex x)=jx)(hc1:¬items.size*x.toNat > (2 ^ 63-1) / 8)(hc2:¬Builtin.List.listTooLong (items.size*x.toNat)=jx) :
  Meets (Builtin.«list.__mul__» ⟨[.ref l,.int x u],[]⟩) (λ_ R s=>s.heap.get? l=ju {cls:=.type "list", dict:=jw,data:=.seq items n,slots:=sl}/\R (.ok (.ret (Value.ref s.heap.objs.size))) {s with heap:=s.heap.push {cls:=Value.type "list", data:=Data.seq (List.foldl (λx1 x2=>x1++x2) #[] (Uq (if items.isEmpty=jx then 0 else x.toNat) items))},toks:=s.toks}):=
 .of_wp λprog w A R s h=>by
  obtain⟨hp,g,d,tk,os⟩:=s;obtain⟨hl,h⟩:=h;have hsz:=AutoListH.joined_fits hc2
  wp_walk;refine wpAny_ite_false (Qx (Nat.not_lt.mpr hsz)) ?_;wp_walk;exact⟨_,rfl,h⟩
def LN(K:Frag):R2:=λx y H Q=>∃l k xs,x=.ref l/\y=.int k/\SqL K H l xs /\ -(2 ^ 63)<=k/\k<2 ^ 63/\xs.length*k.toNat<=Uk /\
 ∀p,H p=jw->Q (.ref p) (upd H p (.lst (Uq k.toNat xs).flatten))
theorem Dd:OpR X (binaryOp .Mult) (LN X.K):=by
 intro pins s σ H x y v u Q I rx ry h;obtain⟨l,k,xs,rfl,rfl,hH,h1,h2,hz,q⟩:=h;cases rx;obtain⟨t,rfl⟩:=ry;obtain⟨its,r,⟨⟨c1,d1,t1,sl⟩,n,e,vo,vn,vm⟩,z⟩:=I.list hH;simp only at vo vn vm;subst vo vn vm;have hl:=r.length;have hlen:its.toArray.size*k.toNat<=Uk:=by rw[QI,←hl];exact hz
 have hcap:¬its.toArray.size*k.toNat > (2 ^ 63-1) / 8:=by
  have:(Uk:Nat)<=(2 ^ 63-1) / 8:=by decide
  omega
 have hfit:¬(!Builtin.List.listFitsIndex k)=jx:=by rw[fitsIndex_both h1 h2];exact JI
 have xX:¬Builtin.List.listTooLong (its.toArray.size*k.toNat)=jx:=by rw[Ba hlen];exact JI
 have hnew:List.foldl (λx1 x2=>x1++x2) #[] (Uq (if its.toArray.isEmpty=jx then 0 else k.toNat) its.toArray)=(Uq k.toNat its).flatten.toArray:=by
  have f0:∀m:Nat,List.foldl (λx1 x2=>x1++x2) #[] (Uq m its.toArray)=(Uq m its).flatten.toArray:=λm=>by have:=MF its m [];rw[JD]at this;exact this
  rw[f0];cases its with
  |nil=>simp
  |cons a r'=>rw[if_neg (by simp)]
 refine wpAny_binaryOp_repeat_ref (T:= "list") (U:= "int") (by decide) ⟨_,e,rfl⟩ (λs'=>typeIs_int s' k t) noFill_list_mul F.fills_int_mul F.slot_int_rmul repeat_list F.slot_int_index.lookup
  (call_meets F.slot_int_rmul (typeIs_int s k t) F.entry_int_rmul (F.args_int_rmul_2 _ _) (LQ k t l its.toArray n sl)
   ⟨e,rfl,⟨_,e,rfl⟩,call_meets F.slot_list_mul ⟨_,e,rfl⟩ F.entry_list_mul (F.args_list_mul_2 _ _) (mulW l its.toArray n k t sl hfit hcap xX) ⟨e,?_⟩⟩)
 rw[hnew];exact⟨.ref _,_,I.lnew (t':=s.toks) (r.rep k.toNat) (by rw[Do,Nat.mul_comm];exact hz),rfl,q _ I.fresh⟩
def SX:D->D->jC
 |.list x,.list y=>if x.length+y.length<=1000000 then ju (.list (x++y))else jw
 |_,_=>jw
theorem Dc:OpD X (binaryOp .Add) SX:=by
 refine⟨_,NQ,λv u G H x y d Q s rx ry e k=>?_⟩;unfold SX at e;split at e
 .split at e
  .rename_i c
   cases e;obtain⟨l,vs,rfl,h1,r1⟩:=rx.lst_inv;obtain⟨b,ws,rfl,h2,r2⟩:=ry.lst_inv;refine⟨l,b,vs,ws,rfl,rfl,s.seq h1,s.seq h2,by rw[r1.length,r2.length];exact QP c lim,λp hp=>k _ _ _ (Ext.new s hp) ?_⟩;exact .lst (SqL.of KP) ((r1.append r2).mono (Zj (s.free hp)))
  .cases e
 .cases e
theorem Reps.rep{K:Frag}{G:Hp}{vs:List V}{ds:jz}(r:Reps K G vs ds):∀n:Nat,Reps K G (Uq n vs).flatten (Uq n ds).flatten
 |0=>.nil
 |n+1=>by rw[Q4,Q4,QU,QU];exact r.append (r.rep n)
def SS:D->D->jC
 |.list x,.int k=>if -1000000<=k/\k<=1000000/\x.length*k.toNat<=1000000 then ju (.list (Uq k.toNat x).flatten)else jw
 |_,_=>jw
theorem Db:OpD X (binaryOp .Mult) SS:=by
 refine⟨_,Dd,λv u G H x y d Q s rx ry e k=>?_⟩;unfold SS at e;split at e
 .split at e
  .rename_i c
   cases e;obtain⟨l,vs,rfl,h1,r1⟩:=rx.lst_inv;refine⟨l,_,vs,rfl,ry.int_inv,s.seq h1,by omega,by omega,by rw[r1.length];exact QP c.2.2 lim,λp hp=>k _ _ _ (Ext.new s hp) ?_⟩;exact .lst (SqL.of KP) ((r1.rep _).mono (Zj (s.free hp)))
  .cases e
 .cases e
def UU:D->D->jC
 |.int i,.int j=>ju (.int (i+j))
 |.str x,.str y=>if x.length+y.length<=1000000 then ju (.str (x++y))else jw
 |.list x,.list y=>if x.length+y.length<=1000000 then ju (.list (x++y))else jw
 |_,_=>jw
def Ks:D->D->jC
 |.int i,.int j=>ju (.int (i-j))
 |_,_=>jw
def U9:D->D->jC
 |.int i,.int j=>ZN i j
 |.list x,.int k=>if -1000000<=k/\k<=1000000/\x.length*k.toNat<=1000000 then ju (.list (Uq k.toNat x).flatten)else jw
 |_,_=>jw
def KS:D->D->jC
 |.int i,.int j=>Wk i j
 |_,_=>jw
def Yw:D->D->jC
 |.int i,.int j=>Wl i j
 |_,_=>jw
def Xq:D->D->jC
 |.int i,.int j=>Wj i j
 |_,_=>jw
theorem OpD.congr{f:Ue->Ue->Sem Ue}{p q:D->D->jC}(h:OpD X f p)(e:∀x y,q x y=p x y):OpD X f q:=by
 have:q=p:=by funext x y;exact e x y
 rw[this];exact h
theorem LM:OpD X (binaryOp .Add) UU:=(FY.or (De.or Dc)).congr λx y=>by cases x<;>cases y<;>first|rfl|(simp only[UU,oII,SY,SX,Option.orElse];done)|(simp only[UU,oII,SY,SX,Option.orElse];split<;>rfl)
theorem HJ:OpD X (binaryOp .Sub) Ks:=FX.congr λx y=>by cases x<;>cases y<;>rfl
theorem HI:OpD X (binaryOp .Mult) U9:=(Df.or Db).congr λx y=>by cases x<;>cases y<;>first|rfl|(simp only[U9,oII,SS,Option.orElse];done)|(simp only[U9,oII,SS,Option.orElse];split<;>first|rfl|assumption)
theorem HH:OpD X (binaryOp .Mod) KS:=FW.congr λx y=>by cases x<;>cases y<;>rfl
theorem HG:OpD X (binaryOp .FloorDiv) Yw:=FV.congr λx y=>by cases x<;>cases y<;>rfl
theorem HF:OpD X (binaryOp .Pow) Xq:=FT.congr λx y=>by cases x<;>cases y<;>rfl
end
section
variable{X:Cx}{B G0:Hp}{e a b c:Uj}{pos:Pos}
def OpB(X:Cx)(f:Ue->Ue->Sem Ue)(op:D->D->jJ):Prop:=
 ∃r:R2,OpR X f r/\∀v u G H x y d Q,Same G H->Rep X.K G v x->Rep X.K G u y->op x y=ju d->Q (.bl d) H->r v u H Q
theorem OpB.or{f:Ue->Ue->Sem Ue}{p q:D->D->jJ}(h:OpB X f p)(h':OpB X f q):OpB X f (λx y=>(p x y).orElse λ_=>q x y):=by
 obtain⟨r,h1,i1⟩:=h;obtain⟨r',h2,i2⟩:=h';refine⟨_,h1.or h2,λv u G H x y d Q s rx ry e k=>?_⟩;dsimp only at e;cases z:p x y with
 |some d'=>rw[z]at e;have e':d'=d:=Qz e;subst e';exact .inl (i1 v u G H x y d' Q s rx ry z k)
 |none=>rw[z]at e;exact .inr (i2 v u G H x y d Q s rx ry e k)
theorem OpB.congr{f:Ue->Ue->Sem Ue}{p q:D->D->jJ}(h:OpB X f p)(e:∀x y,q x y=p x y):OpB X f q:=by
 have:q=p:=by funext x y;exact e x y
 rw[this];exact h
theorem Da{op:CmpOp}{p:D->D->jJ}{f g:M D}(o:OpB X (Uo op) p)(ha:PE X a (tD X.K B G0 f))(hb:PE X b (tD X.K B G0 g))(hm:behindInMarks op b=jy) :
  PT X (.Compare a [op] [b] pos) (tBo X.K B G0 (UJ p f g)):=by
 obtain⟨r,h,i⟩:=o;refine ZS (Pi h ha hb hm) λσ H Q q=>?_;refine tM.two q λv u H2 G Z x y k rx ry a=>?_
 obtain⟨d,e,a⟩:=a.opt;exact i v u G H2 x y d _ k.gh rx ry e ⟨d,rfl,a.now k jv⟩
def UT{α β:Type}(h:α->β)(f:M α):M β:=UZ f λx=>UL (h x)
theorem tM.map{K:Frag}{α β γ δ:Type}{R:Hp->γ->α->Prop}{S:Hp->δ->β->Prop}{σ:St}{H:Hp}{h:α->β}{f:M α}{Q:δ->Hp->Prop}(j:γ->δ)(q:tM K B G0 S (UT h f) σ H Q)
  (i:∀G v x,R G v x->S G (j v) (h x)):tM K B G0 R f σ H (λv H'=>Q (j v) H'):=
 tM.one (R:=R) (f:=f) q λv H2 G Z x k r a=>aft.now (show aft K B G0 S (.ok (h x) Z) G σ Q from a) k (i G v x r)
theorem tBo.val{K:Frag}{σ:St}{H:Hp}{f:M Bool}{Q:VK}(q:tD K B G0 (UT Us f) σ H Q):tBo K B G0 f σ H (λb H'=>Q (.bl b) H'):=
 tM.map (R:=λ_ b c=>b=c) V.bl q λG v x e=>by rw[e];exact .bl x
theorem E9{op:CmpOp}{p:D->D->jJ}{f g:M D}(o:OpB X (Uo op) p)(ha:PE X a (tD X.K B G0 f))(hb:PE X b (tD X.K B G0 g))(hm:behindInMarks op b=jy) :
  PE X (.Compare a [op] [b] pos) (tD X.K B G0 (UT Us (UJ p f g))):=by
 obtain⟨r,h,i⟩:=o;refine U7 (Pj h ha hb hm) λσ H Q q=>?_;refine tM.two (tBo.val q) λv u H2 G Z x y k rx ry a=>?_
 obtain⟨d,e,a⟩:=a.opt;exact i v u G H2 x y d _ k.gh rx ry e (a.now k jv)
def W9(p q:D->D->jJ)(f g h:M D):M Bool:=UZ f λx=>UZ g λy=>UZ (UW (p x y)) λt=>if t=jx then UZ h λz=>UW (q y z)else UL jy
theorem BX{op op':CmpOp}{p q:D->D->jJ}{f g h:M D}(o:OpB X (Uo op) p)(o':OpB X (Uo op') q)(ha:PE X a (tD X.K B G0 f))(hb:PE X b (tD X.K B G0 g))(hc:PE X c (tD X.K B G0 h))
  (hm:lastMarks [op,op'] [b,c]=jy:=by with_unfolding_all rfl):PT X (.Compare a [op,op'] [b,c] pos) (tBo X.K B G0 (W9 p q f g h)):=by
 obtain⟨r,h1,i⟩:=o;obtain⟨r',h2,i'⟩:=o';refine ZS (Cy h1 h2 ha hb hc hm) λσ H Q w=>?_;refine tM.two w λv u H2 G Z x y k rx ry a=>?_
 cases z:p x y with
 |none=>rw[z]at a;exact a.elim
 |some t=>
  rw[z]at a;refine i v u G H2 x y t _ k.gh rx ry z ⟨t,rfl,?_⟩;cases t with
  |false=>rw[QC JI];exact⟨jy,rfl,aft.now a k jv⟩
  |true=>
   rw[Qo jv];refine⟨G,Z,k,?_⟩;have a4:aft X.K B G0 (λ_ (b:Bool) c=>b=c) ((UZ h λz=>UW (q y z)) Z) G σ Q:=a;unfold UZ at a4;cases z2:h Z with
   |bad=>rw[z2]at a4;exact a4.elim
   |ok d Z1=>rw[z2]at a4;intro w G5 H5 k5 s5 r5;obtain⟨t2,e2,a6⟩:=a4.opt;exact i' u w G5 H5 y d t2 _ k5.gh (ry.mono s5) r5 e2 ⟨t2,rfl,a6 t2 G5 H5 k5 s5 jv⟩
theorem BW{op op':CmpOp}{p q:D->D->jJ}{f g h:M D}(o:OpB X (Uo op) p)(o':OpB X (Uo op') q)(ha:PE X a (tD X.K B G0 f))(hb:PE X b (tD X.K B G0 g))(hc:PE X c (tD X.K B G0 h))
  (hm:lastMarks [op,op'] [b,c]=jy:=by with_unfolding_all rfl):PE X (.Compare a [op,op'] [b,c] pos) (tD X.K B G0 (UT Us (W9 p q f g h))):=by
 obtain⟨r,h1,i⟩:=o;obtain⟨r',h2,i'⟩:=o';refine U7 (Cz h1 h2 ha hb hc hm) λσ H Q w=>?_;refine tM.two (tBo.val w) λv u H2 G Z x y k rx ry a=>?_
 cases z:p x y with
 |none=>rw[z]at a;exact a.elim
 |some t=>
  rw[z]at a;refine i v u G H2 x y t _ k.gh rx ry z ⟨t,rfl,?_⟩;cases t with
  |false=>rw[QC JI];exact aft.now (v:=jy) a k jv
  |true=>
   rw[Qo jv];refine⟨G,Z,k,?_⟩;have a4:aft X.K B G0 (λ_ (b:Bool) c=>b=c) ((UZ h λz=>UW (q y z)) Z) G σ (λb H'=>Q (.bl b) H'):=a;unfold UZ at a4;cases z2:h Z with
   |bad=>rw[z2]at a4;exact a4.elim
   |ok d Z1=>rw[z2]at a4;intro w G5 H5 k5 s5 r5;obtain⟨t2,e2,a6⟩:=a4.opt;exact i' u w G5 H5 y d t2 _ k5.gh (ry.mono s5) r5 e2 (a6 t2 G5 H5 k5 s5 jv)
def oIB(g:Int->Int->Bool):D->D->jJ
 |.int i,.int j=>ju (g i j)
 |_,_=>jw
theorem OpB.int{f:Ue->Ue->Sem Ue}{g:Int->Int->Bool}(h:OpR X f (rI0 λi j=>.bl (g i j))):OpB X f (oIB g):=by
 refine⟨_,h,λv u G H x y d Q s rx ry e k=>?_⟩;unfold oIB at e;split at e
 .cases e
  exact⟨_,_,rx.int_inv,ry.int_inv,k⟩
 .cases e
theorem B_lt:OpB X (Uo .Lt) (oIB λi j=>decide (i<j)):=.int LZ
theorem B_le:OpB X (Uo .LtE) (oIB λi j=>decide (i<=j)):=.int LY
theorem B_gt:OpB X (Uo .Gt) (oIB λi j=>decide (j<i)):=.int LX
theorem B_ge:OpB X (Uo .GtE) (oIB λi j=>decide (j<=i)):=.int LW
mutual
theorem Yt{pins:List (Uh×Obj)}{s:Uf}{σ:St}{G H:Hp}(I:Inv X pins σ H s)(sg:Same G H):∀{v:V}{d:D}{u:Ue},Rep X.K G v d->RelV v u->d.canLay0=jx->∃as,Reads s.heap u d as
 |_,_,_,.non,r,_=>by cases r;exact⟨_,.none⟩
 |_,_,_,.bl b,r,_=>by cases r;exact⟨_,.bool b⟩
 |_,_,_,.int i,r,_=>by obtain⟨t,rfl⟩:=r;exact⟨_,.int i t⟩
 |_,_,_,.str x,r,_=>by obtain⟨t,rfl⟩:=r;exact⟨_,.str x t⟩
 |_,_,_,.lst h q,r,c=>by cases r;obtain⟨its,rv,⟨o,n,e,hc,_,hd⟩,hz⟩:=I.list (sg.seq h);obtain⟨as,ra⟩:=readsAll_of I sg q rv (show Uv _=jx by simpa[PyData.canLay0]using c);exact⟨_,.list e hc hd (by simpa using ra)⟩
 |_,_,_,.tup h q,r,c=>by cases r;obtain⟨its,rv,p,hz⟩:=I.tuple (Yl sg h);obtain⟨o,e,hc,n,hd⟩:=p;obtain⟨as,ra⟩:=readsAll_of I sg q rv (show Uv _=jx by simpa[PyData.canLay0]using c);exact⟨_,.tuple e hc hd (by simpa using ra)⟩
 |_,_,_,.dic h,r,c=>by simp[PyData.canLay0]at c
 |_,_,_,.exc _ _ _ _,r,c=>by simp[PyData.canLay0]at c
 |_,_,_,.dct _ _ _ _ _,r,c=>by simp[PyData.canLay0]at c
 |_,_,_,.dtt _ _ _ _,r,c=>by simp[PyData.canLay0]at c
theorem readsAll_of{pins:List (Uh×Obj)}{s:Uf}{σ:St}{G H:Hp}(I:Inv X pins σ H s)(sg:Same G H):∀{vs:List V}{ds:jz}{us:jB},Reps X.K G vs ds->Vals vs us->Uv ds=jx->∃as,ReadsAll s.heap us ds as
 |_,_,_,.nil,r,_=>by cases r;exact⟨_,.nil⟩
 |_,_,_,.cons h t,r,c=>by
  cases r with
  |cons r1 r2=>have c':=c;rw[Uv,QS]at c';obtain⟨as,ra⟩:=Yt I sg h r1 c'.1;obtain⟨bs,rb⟩:=readsAll_of I sg t r2 c'.2;exact⟨_,.cons ra rb⟩
end
def oEq(x y:D):jJ:=if x.canLay0=jx/\y.canLay0=jx/\x.depth<=60 then ju (Ux x y)else jw
def oNe(x y:D):jJ:=if x.canLay0=jx/\y.canLay0=jx/\x.depth<=60 then ju (!Ux x y)else jw
theorem B_eq(hu:X.A.units+64<cLine):OpB X (Uo .Eq) oEq:=by
 refine⟨λv u H Q=>∃G x y d,Same G H/\Rep X.K G v x/\Rep X.K G u y/\oEq x y=ju d/\Q (.bl d) H,?_,λv u G H x y d Q s rx ry e k=>⟨G,x,y,d,s,rx,ry,e,k⟩⟩;intro pins s σ H x y v u Q I rx ry ⟨G,dx,dy,d,sg,px,py,e,q⟩;unfold oEq at e;split at e
 .rename_i c
  cases e;obtain⟨as,ra⟩:=Yt I sg px rx c.1;obtain⟨bs,rb⟩:=Yt I sg py ry c.2.1;exact SeqAt.compareEq_reads ra rb c.1 c.2.1 (by have:=c.2.2;omega) ⟨.bl _,H,I,rfl,q⟩
 .cases e
theorem B_ne(hu:X.A.units+64<cLine):OpB X (Uo .NotEq) oNe:=by
 refine⟨λv u H Q=>∃G x y d,Same G H/\Rep X.K G v x/\Rep X.K G u y/\oNe x y=ju d/\Q (.bl d) H,?_,λv u G H x y d Q s rx ry e k=>⟨G,x,y,d,s,rx,ry,e,k⟩⟩;intro pins s σ H x y v u Q I rx ry ⟨G,dx,dy,d,sg,px,py,e,q⟩;unfold oNe at e;split at e
 .rename_i c
  cases e;obtain⟨as,ra⟩:=Yt I sg px rx c.1;obtain⟨bs,rb⟩:=Yt I sg py ry c.2.1;exact SeqAt.compareNe_reads ra rb c.1 c.2.1 (by have:=c.2.2;omega) ⟨.bl _,H,I,rfl,q⟩
 .cases e
def isNon:D->Bool
 |.none=>jx
 |_=>jy
theorem Rep.isNon{K:Frag}{G:Hp}{v:V}{d:D}(r:Rep K G v d):DL.isNon d=decide (v=.non):=by cases r<;>simp[DL.isNon]
end
section
variable{X:Cx}{B G0:Hp}{e a b c:Uj}{pos:Pos}{es rest:jF}
theorem tM.nx{K:Frag}{α β γ δ:Type}{R:Hp->γ->α->Prop}{S:Hp->δ->β->Prop}{σ:St}{G H:Hp}{Z:UF}{f:M α}{g:α->M β}{Q:δ->Hp->Prop}{P:γ->Hp->Prop}
  (k:EOk K B G0 G H σ Z) (a:aft K B G0 S (UZ f g Z) G σ Q) (i:∀v H' G' Z' x,EOk K B G0 G' H' σ Z'->Same G G'->R G' v x->aft K B G0 S (g x Z') G' σ Q->P v H'):tM K B G0 R f σ H P:=by
 refine⟨G,Z,k,?_⟩;unfold UZ at a;cases q:f Z with
 |bad=>rw[q]at a;exact a.elim
 |ok d Z1=>rw[q]at a;exact λv G' H' e s r=>i v H' G' Z1 d e s r (aft.mono s a)
def KH(f g:M Bool):M Bool:=UZ f λt=>if t=jx then g else UL jy
def mOr(f g:M Bool):M Bool:=UZ f λt=>if t=jx then UL jx else g
def Ka(f:M Bool):M Bool:=UT (λt=>!t) f
theorem E8{K:Frag}{f g:M Bool}{σ:St}{H:Hp}{Q:Bool->Hp->Prop}(q:tBo K B G0 (KH f g) σ H Q):tAnd (tBo K B G0 f) (tBo K B G0 g) σ H Q:=
 tM.one (R:=λ_ b c=>b=c) q λv H2 G Z x k r a=>by
  have r:v=x:=r;subst r;cases v with
  |true=>exact⟨G,Z,k,a⟩
  |false=>exact aft.now (v:=jy) a k jv
theorem FS{K:Frag}{f g:M Bool}{σ:St}{H:Hp}{Q:Bool->Hp->Prop}(q:tBo K B G0 (mOr f g) σ H Q):tOr (tBo K B G0 f) (tBo K B G0 g) σ H Q:=
 tM.one (R:=λ_ b c=>b=c) q λv H2 G Z x k r a=>by
  have r:v=x:=r;subst r;cases v with
  |false=>exact⟨G,Z,k,a⟩
  |true=>exact aft.now (v:=jx) a k jv
theorem pwof{t t':TT}(h:PW X e t)(i:∀σ H Q,t' σ H Q->t σ H Q):PW X e t':=λwh pins s σ H Q I q=>h wh pins s σ H Q I (i σ H Q q)
theorem CW{f:M Bool}(ha:PT X a (tBo X.K B G0 f)):PW X (.BoolOp .And [a] pos) (tBo X.K B G0 f):=E2 ha
theorem E7{f:M Bool}(ha:PT X a (tBo X.K B G0 f)):PW X (.BoolOp .Or [a] pos) (tBo X.K B G0 f):=Fg ha
theorem E6{f g:M Bool}(ha:PT X a (tBo X.K B G0 f))(hb:PW X (.BoolOp .And (b::rest) pos) (tBo X.K B G0 g)):PW X (.BoolOp .And (a::b::rest) pos) (tBo X.K B G0 (KH f g)):=pwof (Ff ha hb) λ_ _ _ q=>E8 q
theorem FR{f g:M Bool}(ha:PT X a (tBo X.K B G0 f))(hb:PW X (.BoolOp .Or (b::rest) pos) (tBo X.K B G0 g)):PW X (.BoolOp .Or (a::b::rest) pos) (tBo X.K B G0 (mOr f g)):=pwof (Hb ha hb) λ_ _ _ q=>FS q
theorem E5{f:M Bool}(ha:PT X a (tBo X.K B G0 f)):PT X (.UnaryOp .Not a pos) (tBo X.K B G0 (Ka f)):=ZS (Fe ha) λσ H Q q=>tM.map (R:=λ_ b c=>b=c) (λt=>!t) q λ_ v x e=>by rw[e]
def KR(f:M D):M Bool:=UZ f λx=>match x with | .bool t=>UL t|_=>λ_=>.bad
theorem DE{f:M D}(h:PE X e (tD X.K B G0 f))(he:∀whole,isTrue e X.env whole=(do let v ←whole;standAt e.pos;holding [v] (truthy v)):=by intro _;rfl):PT X e (tBo X.K B G0 (KR f)):=
 ZS (Fh h he) λσ H Q q=>tM.one (R:=Rep X.K) q λv H2 G Z x k r a=>by
  cases x with
  |bool t=>exact⟨t,r.bl_inv,aft.now (v:=t) a k jv⟩
  |_=>exact a.elim
def XF(f g:M D):M D:=UZ f λx=>match x with | .bool jx=>g | .bool jy=>UL (.bool jy)|_=>λ_=>.bad
def Yy(f g:M D):M D:=UZ f λx=>match x with | .bool jx=>UL (.bool jx) | .bool jy=>g|_=>λ_=>.bad
def Sb(f:M D):M D:=UZ f λx=>match x with | .bool t=>UL (.bool (!t))|_=>λ_=>.bad
theorem DD{f g:M D}(ha:PE X a (tD X.K B G0 f))(hb:PE X (.BoolOp .And (b::rest) pos) (tD X.K B G0 g)):PE X (.BoolOp .And (a::b::rest) pos) (tD X.K B G0 (XF f g)):=
 U7 (Fc ha hb) λσ H Q q=>tM.one (R:=Rep X.K) q λv H2 G Z x k r a=>by
  cases x with
  |bool t=>
   refine⟨t,r.bl_inv,?_⟩;cases t with
   |true=>exact⟨G,Z,k,a⟩
   |false=>exact aft.now a k (.bl jy)
  |_=>exact a.elim
theorem FQ{f g:M D}(ha:PE X a (tD X.K B G0 f))(hb:PE X (.BoolOp .Or (b::rest) pos) (tD X.K B G0 g)):PE X (.BoolOp .Or (a::b::rest) pos) (tD X.K B G0 (Yy f g)):=
 U7 (L8 ha hb) λσ H Q q=>tM.one (R:=Rep X.K) q λv H2 G Z x k r a=>by
  cases x with
  |bool t=>
   refine⟨t,r.bl_inv,?_⟩;cases t with
   |false=>exact⟨G,Z,k,a⟩
   |true=>exact aft.now a k (.bl jx)
  |_=>exact a.elim
theorem DC{op}{f:M D}(h:PE X a (tD X.K B G0 f)):PE X (.BoolOp op [a] pos) (tD X.K B G0 f):=Fd h
theorem DB{f:M D}(ha:PE X a (tD X.K B G0 f)):PE X (.UnaryOp .Not a pos) (tD X.K B G0 (Sb f)):=
 U7 (Fb ha) λσ H Q q=>tM.one (R:=Rep X.K) q λv H2 G Z x k r a=>by
  cases x with
  |bool t=>exact⟨t,r.bl_inv,aft.now a k (.bl _)⟩
  |_=>exact a.elim
def mIf{α:Type}(f:M Bool)(g h:M α):M α:=UZ f λt=>if t=jx then g else h
theorem BV{f:M Bool}{g h:M D}(hc:PT X c (tBo X.K B G0 f))(ha:PE X a (tD X.K B G0 g))(hb:PE X b (tD X.K B G0 h)):PE X (.IfExp c a b pos) (tD X.K B G0 (mIf f g h)):=
 U7 (CC hc ha hb) λσ H Q q=>tM.one (R:=λ_ b c=>b=c) q λv H2 G Z x k r a=>by
  have r:v=x:=r;subst r;cases v with
  |true=>exact⟨G,Z,k,a⟩
  |false=>exact⟨G,Z,k,a⟩
theorem DA{f:M D}{j p2}(ha:PE X a (tD X.K B G0 f)):PT X (.Compare a [.Is] [.Constant .none j p2] pos) (tBo X.K B G0 (UT isNon f)):=
 ZS (OZ (O1 ha)) λσ H Q q=>tM.one (R:=Rep X.K) q λv H2 G Z x k r a=>⟨_,rfl,aft.now a k (by rw[r.isNon])⟩
theorem CV{f:M D}{j p2}(ha:PE X a (tD X.K B G0 f)):PT X (.Compare a [.IsNot] [.Constant .none j p2] pos) (tBo X.K B G0 (UT (λd=>!isNon d) f)):=
 ZS (OZ (N4 ha)) λσ H Q q=>tM.one (R:=Rep X.K) q λv H2 G Z x k r a=>⟨_,rfl,aft.now a k (by dsimp only;rw[r.isNon])⟩
theorem Dz{f:M D}{j p2}(ha:PE X a (tD X.K B G0 f)):PE X (.Compare a [.Is] [.Constant .none j p2] pos) (tD X.K B G0 (UT (λd=>.bool (isNon d)) f)):=
 U7 (O0 (O1 ha)) λσ H Q q=>tM.one (R:=Rep X.K) q λv H2 G Z x k r a=>aft.now a k (by dsimp only;rw[r.isNon];exact .bl _)
theorem CU{f:M D}{j p2}(ha:PE X a (tD X.K B G0 f)):PE X (.Compare a [.IsNot] [.Constant .none j p2] pos) (tD X.K B G0 (UT (λd=>.bool (!isNon d)) f)):=
 U7 (O0 (N4 ha)) λσ H Q q=>tM.one (R:=Rep X.K) q λv H2 G Z x k r a=>aft.now a k (by dsimp only;rw[r.isNon];exact .bl _)
def UG:M jz:=UL []
def UI(f:M D)(g:M jz):M jz:=UZ f λx=>UZ g λxs=>UL (x::xs)
theorem Dy:PA X [] (tDs X.K B G0 UG):=Xp Xh λσ H Q ⟨G,Z,k,a⟩=>aft.now a k .nil
theorem tM.twoA{K:Frag}{σ:St}{H:Hp}{f:M D}{g:M jz}{β δ:Type}{S:Hp->δ->β->Prop}{k:D->jz->M β}{Q:δ->Hp->Prop}{P:V->List V->Hp->Prop}
  (h:tM K B G0 S (UZ f λx=>UZ g λy=>k x y) σ H Q)
  (i:∀v u H2 G Z x y,EOk K B G0 G H2 σ Z->Rep K G v x->Reps K G u y->aft K B G0 S (k x y Z) G σ Q->P v u H2) :
  tD K B G0 f σ H (λv H1=>tDs K B G0 g σ H1 λu H2=>P v u H2):=by
 obtain⟨G,Z,e,a⟩:=tM.bind2 (R:=Rep K) (R':=Reps K) NS h;refine⟨G,Z,e,?_⟩;cases q:f Z with
 |bad=>rw[q]at a;exact a.elim
 |ok d Z1=>
  rw[q]at a;intro v G' H' e' s r;obtain⟨x,G2,Z2,e2,a2⟩:=a v G' H' e' s r;refine⟨G2,Z2,e2,?_⟩;cases q2:g Z2 with
  |bad=>rw[q2]at a2;exact a2.elim
  |ok d3 Z3=>rw[q2]at a2;intro u G3 H3 e3 s3 r3;obtain⟨G4,Z4,y,e4,r4,r5,a5⟩:=a2 u G3 H3 e3 s3 r3;exact i v u H3 G4 Z4 x y e4 r4 r5 a5
theorem Ml{f:M D}{g:M jz}(ha:PE X e (tD X.K B G0 f))(hr:PA X es (tDs X.K B G0 g))(hs:Um (e::es) X.env=(jy,eval e X.env)::Um es X.env:=by rfl) :
  PA X (e::es) (tDs X.K B G0 (UI f g)):=Xp (Yo ha hr hs) λσ H Q q=>tM.twoA q λv u H2 G Z x y k r1 r2 a=>aft.now a k (.cons r1 r2)
def Kp(f:M jz):M D:=UZ f λxs=>if xs.length<=1000000 then UL (.tuple xs)else λ_=>.bad
def U2(f:M jz):M D:=UZ f λxs=>if xs.length<=1000000 then UL (.list xs)else λ_=>.bad
theorem Dx{x1}{f:M jz}(h:PA X es (tDs X.K B G0 f)):PE X (.Tuple es x1 pos) (tD X.K B G0 (Kp f)):=
 U7 (FG h) λσ H Q q=>tM.one (R:=Reps X.K) q λv H2 G Z x k r a=>by
  split at a
  .rename_i c
   refine⟨by rw[r.length];exact QP c lim,λp hp=>?_⟩;exact aft.done a k (Ext.new k.gh hp) (.tup (SqT.of KP) (r.mono (Zj (k.gh.free hp))))
  .exact a.elim
theorem Dw{f:M jz}(h:PA X es (tDs X.K B G0 f)):PE X (.List es pos) (tD X.K B G0 (U2 f)):=
 U7 (OV h) λσ H Q q=>tM.one (R:=Reps X.K) q λv H2 G Z x k r a=>by
  split at a
  .rename_i c
   refine⟨by rw[r.length];exact QP c lim,λp hp=>?_⟩;exact aft.done a k (Ext.new k.gh hp) (.lst (SqL.of KP) (r.mono (Zj (k.gh.free hp))))
  .exact a.elim
def oIx:D->D->jC
 |.list xs,.int i=>atI xs i
 |.tuple xs,.int i=>atI xs i
 |.str z,.int i=>if z.length<=1000000 then(atI z.cps.toList i).map λc=>.str ⟨#[c]⟩else jw
 |_,_=>jw
theorem Reps.atI{K:Frag}{G:Hp}{vs:List V}{ds:jz}{i:Int}{d:D}(r:Reps K G vs ds)(h:L2.atI ds i=ju d):∃v,L2.atI vs i=ju v/\Rep K G v d:=by
 unfold L2.atI at h⊢;rw[r.length];cases z:ixN ds.length i with
 |none=>rw[z]at h;cases h
 |some j=>rw[z]at h;exact r.get (i:=j) h
theorem OP{K:Frag}{v u:V}{G H:Hp}{x y d:D}{Q:VK}(s:Same G H)(rx:Rep K G v x)(ry:Rep K G u y)(e:oIx x y=ju d)(k:∀w,Rep K G w d->Q w H):rIx K v u H Q:=by
 unfold oIx at e;split at e
 .obtain⟨l,vs,rfl,h1,r1⟩:=rx.lst_inv
  obtain⟨w,e1,r2⟩:=r1.atI e;exact .inl ⟨l,vs,_,w,rfl,ry.int_inv,s.seq h1,e1,k w r2⟩
 .obtain⟨l,vs,rfl,h1,r1⟩:=rx.tup_inv
  obtain⟨w,e1,r2⟩:=r1.atI e;exact .inr (.inl ⟨l,vs,_,w,rfl,ry.int_inv,Yl s h1,e1,k w r2⟩)
 .split at e
  .rename_i z i hz
   cases q:L2.atI z.cps.toList i with
   |none=>rw[q]at e;cases e
   |some ch=>rw[q]at e;cases e;exact .inr (.inr ⟨z,i,ch,rx.str_inv,ry.int_inv,QP hz lim,q,k _ (.str _)⟩)
  .cases e
 .cases e
theorem FP{f g:M D}(ha:PE X a (tD X.K B G0 f))(hb:PE X b (tD X.K B G0 g))(hs:Pf b):PE X (.Subscript a b pos) (tD X.K B G0 (UJ oIx f g)):=
 U7 (OC OU ha hb hs) λσ H Q q=>tM.two q λv u H2 G Z x y k rx ry a=>by obtain⟨d,e,a⟩:=a.opt;exact OP k.gh rx ry e λw r=>a.now k r
def UR(i:Nat)(g:M D):M D:=λZ=>match Z[i]? with
 |some (ju (.pub d))=>(UZ g λy=>UW (oIx d y)) Z
 |some (ju (.own _))=>(UZ g λy=>λZ'=>match Z'[i]? with|some (ju (.own ds))=>UW (oIx (.list ds) y) Z'|_=>.bad) Z
 |_=>.bad
theorem Dv{i:Nat}{g:M D}(ha:PE X a (KT i))(hb:PE X b (tD X.K B G0 g))(hs:Pf b):PE X (.Subscript a b pos) (tD X.K B G0 (UR i g)):=
 U7 (OC OU ha hb hs) λσ H Q ⟨G,Z,k,a⟩=>by
  unfold UR at a;cases q:Z[i]? with
  |none=>rw[q]at a;exact a.elim
  |some o=>
   cases o with
   |none=>rw[q]at a;exact a.elim
   |some sl=>
    cases sl with
    |deep _ _=>rw[q]at a;exact a.elim
    |pub d=>
     rw[q]at a;obtain⟨v,h1,h2⟩:=k.pub i d q;refine⟨v,h1,G,Z,k,?_⟩;dsimp only[UZ]at a;cases z:g Z with
     |bad=>rw[z]at a;exact a.elim
     |ok y Z1=>rw[z]at a;intro u G' H' k' s' r';obtain⟨d',e',a'⟩:=aft.opt a;exact OP k'.gh (h2.mono s') r' e' λw r=>a' w G' H' k' s' r
    |own ds=>
     rw[q]at a;obtain⟨ad,vs,h1,h2,h3,h4,h5⟩:=k.own i ds q;refine⟨.ref ad,h1,G,Z,k,?_⟩;dsimp only[UZ]at a;cases z:g Z with
     |bad=>rw[z]at a;exact a.elim
     |ok y Z1=>
      rw[z]at a;dsimp only at a;intro u G' H' k' s' r';cases z2:Z1[i]? with
      |none=>rw[z2]at a;exact a.elim
      |some o2=>
       cases o2 with
       |none=>rw[z2]at a;exact a.elim
       |some sl2=>
        cases sl2 with
        |deep _ _=>rw[z2]at a;exact a.elim
        |pub d2=>rw[z2]at a;exact a.elim
        |own es2=>
         rw[z2]at a;obtain⟨d',e',a'⟩:=aft.opt a;obtain⟨ad',vs',g1,g2,g3,g4,g5⟩:=k'.own i es2 z2;rw[h1]at g1;cases g1;unfold oIx at e';cases y with
         |int j=>obtain⟨w,e1,r2⟩:=g5.atI e';exact .inl ⟨ad,vs',j,w,rfl,r'.int_inv,SqL.of g4,e1,a' w G' H' k' s' r2⟩
         |_=>cases e'
def cutD(xs:jz)(lo hi:jD):jz:=(xs.drop (HT.sIx xs.length 0 lo)).take (HT.sIx xs.length xs.length hi-HT.sIx xs.length 0 lo)
theorem Reps.cut{K:Frag}{G:Hp}{vs:List V}{ds:jz}(r:Reps K G vs ds)(lo hi:jD):Reps K G (YS vs lo hi) (cutD ds lo hi):=by unfold YS cutD;rw[r.length];exact(r.drop _).take _
def Zf:D->Option jD
 |.int i=>ju (ju i)
 |_=>jw
theorem CT:PO X jw (tOi X.K B G0 (UL jw)):=poof Du λσ H Q ⟨G,Z,k,a⟩=>aft.now a k jv
theorem CS{f:M D}(h:PE X e (tD X.K B G0 f)):PO X (ju e) (tOi X.K B G0 (UZ f λx=>UW (Zf x))):=poof (Dt h) λσ H Q q=>tM.one (R:=Rep X.K) q λv H2 G Z x k r a=>by
 cases x with
 |int i=>exact⟨i,r.int_inv,aft.now (v:=ju i) a k jv⟩
 |_=>exact a.elim
end
def Yz:List (D×D)->Bool
 |(.none,_)::_=>jx
 |_=>jy
def YM:D->String
 |.none=> "NoneType"
 |.bool _=> "bool"
 |.int _=> "int"
 |.str _=> "str"
 |.list _=> "list"
 |.tuple _=> "tuple"
 |.dict kvs=>if Yz kvs=jx then "" else "dict"
def Ki(d:D)(c:String):Bool:=YM d==c || (YM d == "bool" && c == "int")
def W3:D->Bool
 |.dict kvs=>Yz kvs
 |_=>jy
theorem nty{kvs:List (D×D)}{c:String}(h:(("dict" == c) || ("" == c))=jy):Ki (.dict kvs) c=jy:=by
 obtain⟨h1,h2⟩:=Bool.or_eq_false_iff.mp h
 show((if Yz kvs=jx then "" else "dict")==c || ((if Yz kvs=jx then "" else "dict") == "bool" && c == "int"))=jy
 cases Yz kvs with
 |true=>rw[Qo jv,h2];rfl
 |false=>rw[QC (by decide),h1];rfl
theorem OO{ks:List Key}{ds:jz}:YM (.dict ((ks.map kD).zip ds)) = "dict" /\ W3 (.dict ((ks.map kD).zip ds))=jy:=by
 cases ks with
 |nil=>exact⟨rfl,rfl⟩
 |cons k ks=>
  cases ds with
  |nil=>exact⟨rfl,rfl⟩
  |cons d ds=>cases k<;>exact⟨rfl,rfl⟩
theorem Eo(K:Frag)(d:D)(c:String)(nx:W3 d=jy)(hc:c = "int" ∨ c = "bool" ∨ c = "str" ∨ c = "list" ∨ c = "tuple" ∨ c = "dict"):PySem.W.kitOne K (.type (YM d)) (.type c)=ju (Ki d c):=by
 cases d with
 |dict kvs=>
  have e:YM (.dict kvs) = "dict" :=by
   have nx:Yz kvs=jy:=nx
   show(if Yz kvs=jx then "" else "dict")=_
   rw[nx];rfl
  unfold Ki;rw[e];rcases hc with rfl|rfl|rfl|rfl|rfl|rfl<;>rfl
 |_=>rcases hc with rfl|rfl|rfl|rfl|rfl|rfl<;>rfl
section
variable{X:Cx}{B G0:Hp}{e a b c:Uj}{pos:Pos}{es rest:jF}
def ZW(X:Cx)(f:Ue)(p:jz->jC):Prop:=
 ∃r,ZQ X f r/\∀vs G H ds d Q,Same G H->Reps X.K G vs ds->p ds=ju d->(∀w G' H',Ext G H G' H'->Rep X.K G' w d->Q w H')->r vs H Q
def Zg(p:jz->jC)(f:M jz):M D:=UZ f λxs=>UW (p xs)
theorem Vi{x:Str}{p2:Pos}{id:String}{p:jz->jC}{f:M jz}(hc:ZW X (.builtin id) p)(hg:Gl X x)(hm:X.mg x=jw)(hv:bootBuiltins x=ju (.builtin id))(ha:PA X (e::es) (tDs X.K B G0 f))(hn:x ≠ "__name__" :=by decide)(hdb:(x==("__debug__" : Str))=jy:=by decide)
  (he:Um (e::es) X.env=(jy,eval e X.env)::Um es X.env:=by rfl) (hpl:(backTo pos (Um es X.env)).any (·.1)=jy:=by rfl):PE X (.Call (.Name x p2) (e::es) [] pos) (tD X.K B G0 (Zg p f)):=by
 obtain⟨r,h,i⟩:=hc;refine U7 (Ve h hg hm hv ha hn hdb he hpl) λσ H Q q=>tM.one (R:=Reps X.K) q λv H2 G Z x k rr a=>?_
 obtain⟨d,e,a⟩:=a.opt;exact i v G H2 x d Q k.gh rr e λw G' H' ex rw=>a.done k ex rw
theorem P8{x:Str}{p2:Pos}{T:String}{p:jz->jC}{f:M jz}(hc:ZW X (.type T) p)(hg:Gl X x)(hm:X.mg x=jw)(hv:bootBuiltins x=ju (.type T))(ha:PA X (e::es) (tDs X.K B G0 f))(hn:x ≠ "__name__" :=by decide)(hdb:(x==("__debug__" : Str))=jy:=by decide)
  (he:Um (e::es) X.env=(jy,eval e X.env)::Um es X.env:=by rfl) (hpl:(backTo pos (Um es X.env)).any (·.1)=jy:=by rfl):PE X (.Call (.Name x p2) (e::es) [] pos) (tD X.K B G0 (Zg p f)):=by
 obtain⟨r,h,i⟩:=hc;refine U7 (RM h hg hm hv ha hn hdb he hpl) λσ H Q q=>tM.one (R:=Reps X.K) q λv H2 G Z x k rr a=>?_
 obtain⟨d,e,a⟩:=a.opt;exact i v G H2 x d Q k.gh rr e λw G' H' ex rw=>a.done k ex rw
theorem Reps.nil_inv{K:Frag}{G:Hp}{vs:List V}(r:Reps K G vs []):vs=[]:=by cases r;rfl
theorem Reps.one_inv{K:Frag}{G:Hp}{vs:List V}{d:D}(r:Reps K G vs [d]):∃v,vs=[v]/\Rep K G v d:=by
 cases r with
 |cons h t=>cases t;exact⟨_,rfl,h⟩
theorem Reps.two_inv{K:Frag}{G:Hp}{vs:List V}{d d':D}(r:Reps K G vs [d,d']):∃v v',vs=[v,v']/\Rep K G v d/\Rep K G v' d':=by
 cases r with
 |cons h t=>obtain⟨v',rfl,r'⟩:=t.one_inv;exact⟨_,v',rfl,h,r'⟩
def U5:jz->jC
 |[.list xs]=>ju (.int xs.length)
 |[.tuple xs]=>ju (.int xs.length)
 |[.str z]=>if z.length<=1000000 then ju (.int z.length)else jw
 |_=>jw
theorem Oj:ZW X (.builtin "len") U5:=by
 refine⟨_,Mn,λvs G H ds d Q s r e k=>?_⟩;unfold U5 at e;split at e
 .cases e
  obtain⟨v,rfl,q⟩:=r.one_inv;obtain⟨l,ws,rfl,h1,r1⟩:=q.lst_inv;exact⟨.ref l,ws.length,rfl,.inl ⟨ws,s.seq h1,rfl⟩,by rw[r1.length];exact k _ G H (.refl s) (.int _)⟩
 .cases e
  obtain⟨v,rfl,q⟩:=r.one_inv;obtain⟨l,ws,rfl,h1,r1⟩:=q.tup_inv;exact⟨.ref l,ws.length,rfl,.inr ⟨ws,Yl s h1,rfl⟩,by rw[r1.length];exact k _ G H (.refl s) (.int _)⟩
 .split at e
  .rename_i z hz
   cases e;obtain⟨v,rfl,q⟩:=r.one_inv;exact⟨.str z,z.length,by rw[q.str_inv],⟨QP hz lim,rfl⟩,k _ G H (.refl s) (.int _)⟩
  .cases e
 .cases e
def SR:jz->jC
 |[.int i,.int j]=>ju (.int (if j > i then j else i))
 |_=>jw
theorem Gs(hc:X.calm=jx):ZW X (.builtin "max") SR:=by
 refine⟨_,AI hc,λvs G H ds d Q s r e k=>?_⟩;unfold SR at e;split at e
 .cases e
  obtain⟨v,v',rfl,r1,r2⟩:=r.two_inv;exact⟨_,_,by rw[r1.int_inv,r2.int_inv],k _ G H (.refl s) (.int _)⟩
 .cases e
def Sa:jz->jC
 |[.int i]=>if i.natAbs.log2<1920 then ju (.str (toString i))else jw
 |_=>jw
theorem Gr:ZW X (.type "str") Sa:=by
 refine⟨_,qY,λvs G H ds d Q s r e k=>?_⟩;unfold Sa at e;split at e
 .split at e
  .rename_i hz
   cases e;obtain⟨v,rfl,q⟩:=r.one_inv;exact⟨_,by rw[q.int_inv],hz,k _ G H (.refl s) (.str _)⟩
  .cases e
 .cases e
def Kv(i:Nat):M D:=λZ=>match Z[i]? with
 |some (ju (.pub d))=>UW (U5 [d]) Z
 |some (ju (.own ds))=>.ok (.int ds.length) Z
 |_=>.bad
theorem CQ{i:Nat}{p2:Pos}(hg:Gl X "len")(hm:X.mg "len" = jw)(ha:PE X e (KT i))(he:Um [e] X.env=[(jy,eval e X.env)]:=by rfl):PE X (.Call (.Name "len" p2) [e] [] pos) (tD X.K B G0 (Kv i)):=by
 refine U7 (Ve Mn hg hm PySem.boot_len (Yo ha Xh (by rw[he];rfl)) (by decide) (by decide) (by rw[he];rfl) jv) λσ H Q ⟨G,Z,k,a⟩=>?_
 unfold Kv at a;cases q:Z[i]? with
 |none=>rw[q]at a;exact a.elim
 |some o=>
  cases o with
  |none=>rw[q]at a;exact a.elim
  |some sl=>
   cases sl with
   |deep _ _=>rw[q]at a;exact a.elim
   |pub d=>
    rw[q]at a;obtain⟨v,h1,h2⟩:=k.pub i d q;refine⟨v,h1,?_⟩;obtain⟨d',e',a'⟩:=aft.opt a;obtain⟨r,hr,ir⟩:=@Oj X;show ∃x n,[v]=[x]/\LenV X.K x H n/\Q (.int n) H;unfold U5 at e';split at e'
    .rename_i xs he'
     injection he' with vd kR;subst vd;cases e'
     obtain⟨l,ws,rfl,g1,r1⟩:=h2.lst_inv;exact⟨.ref l,ws.length,rfl,.inl ⟨ws,k.gh.seq g1,rfl⟩,by rw[r1.length];exact a'.now k (.int _)⟩
    .rename_i xs he'
     injection he' with vd kR;subst vd;cases e'
     obtain⟨l,ws,rfl,g1,r1⟩:=h2.tup_inv;exact⟨.ref l,ws.length,rfl,.inr ⟨ws,Yl k.gh g1,rfl⟩,by rw[r1.length];exact a'.now k (.int _)⟩
    .rename_i z he'
     injection he' with vd kR;subst vd
     split at e'
     .rename_i hz
      cases e';exact⟨.str z,z.length,by rw[h2.str_inv],⟨QP hz lim,rfl⟩,a'.now k (.int _)⟩
     .cases e'
    .cases e'
   |own ds=>rw[q]at a;obtain⟨ad,vs,h1,g2,g3,h4,h5⟩:=k.own i ds q;exact⟨.ref ad,h1,.ref ad,vs.length,rfl,.inl ⟨vs,SqL.of h4,rfl⟩,by rw[h5.length];exact aft.now a k (.int _)⟩
theorem En{pins:List (Uh×Obj)}{s:Uf}{σ:St}{G H:Hp}{v:V}{u:Ue}{d:D}{cv:Ue}{t:Bool}{A:Around}{E:Ue->Uf->Prop}{Q:Ue->Uf->Prop}(I:Inv X pins σ H s)(sg:Same G H)(r:Rep X.K G v d)(rv:RelV v u)(nx:W3 d=jy)
  (ek:PySem.W.kitOne X.K (.type (YM d)) cv=ju t) (h:∀tk,Q (.bool t) {s with toks:=tk}):Ul (model X.prog X.w) A (call (.builtin "isinstance") [u,cv]) Q E s:=by
 cases r with
 |non=>cases rv;exact Jv PySem.W.kitx_none I.kIn True.intro ek (λz=>nomatch z) h
 |bl y=>cases rv;exact Jv PySem.W.kitx_bool I.kIn True.intro ek (λz=>nomatch z) h
 |int i=>obtain⟨t',rfl⟩:=rv;exact Jv PySem.W.kitx_int I.kIn True.intro ek (λz=>nomatch z) h
 |str y=>obtain⟨t',rfl⟩:=rv;exact Jv PySem.W.kitx_str I.kIn True.intro ek (λz=>nomatch z) h
 |lst hl _=>cases rv;obtain⟨its,r,⟨o,n,e,hc,_,hd⟩,hz⟩:=I.list (sg.seq hl);exact Jv PySem.W.kitx_list I.kIn ⟨o,e,hc⟩ ek (λz=>nomatch z) h
 |tup hl _=>cases rv;obtain⟨its,r,p,hz⟩:=I.tuple (Yl sg hl);obtain⟨o,e,hc,_⟩:=p;exact Jv PySem.W.kitx_tuple I.kIn ⟨o,e,hc⟩ ek (λz=>nomatch z) h
 |@dic ad hd=>
  cases rv;obtain⟨_,_,vs,_,p⟩:=(show Zx X.prog X.w H s.heap ad (.dK [])from I.hok ad _ (sg _ _ hd))
  obtain⟨o,es,ep,h1,h2,_⟩:=p;exact Jv PySem.W.kitx_dict I.kIn ⟨o,h1,h2.1⟩ ek (λz=>nomatch z) h
 |exc _ _ _ _=>cases nx
 |@dct ad ks vs ds kvs e0 _ _ hd _=>
  cases rv;subst e0;rw[OO.1]at ek;obtain⟨_,_,vs,_,p⟩:=(show Zx X.prog X.w H s.heap ad (.dK (ks.zip _))from I.hok ad _ (sg _ _ hd))
  obtain⟨o,es,ep,h1,h2,_⟩:=p;exact Jv PySem.W.kitx_dict I.kIn ⟨o,h1,h2.1⟩ ek (λz=>nomatch z) h
 |@dtt ad ob ks vs ds kvs e0 _ hd _=>
  cases rv;subst e0;obtain⟨_,_,_,xs,_,o,es,ep,h1,h2,_⟩:=(show Zx X.prog X.w H s.heap ad (.frz ob (.dT (ks.zip _)))from I.hok ad _ (sg _ _ hd))
  exact Jv PySem.W.kitx_dict I.kIn ⟨o,h1,h2.1⟩ ek (λz=>nomatch z) h
theorem Em(c:String)(hc:c = "int" ∨ c = "bool" ∨ c = "str" ∨ c = "list" ∨ c = "tuple" ∨ c = "dict"):typeOf (.type c)=pure (.type "type"):=by rcases hc with rfl|rfl|rfl|rfl|rfl|rfl<;>kernel_rfl
theorem CP:ZQ X (.builtin "isinstance") (λxs H Q=>∃v c G d,xs=[v,.ty c]/\Same G H/\Rep X.K G v d/\(c = "int" ∨ c = "bool" ∨ c = "str" ∨ c = "list" ∨ c = "tuple" ∨ c = "dict")/\Q (.bl (Ki d c)) H):=by
 intro pins s σ H xs us Q I r h;obtain⟨v,c,G,d,rfl,sg,rp,hc,q⟩:=h;obtain⟨u,w',rfl,r1,r2⟩:=RZ r;cases (show w'=Value.type c from r2);by_cases nx:W3 d=jx
 .cases rp with
  |@exc a C dd bm nm vs ds ck hx hd rr=>
   refine PV (Se I.ok.mod.kin) pins s σ H [.ref a,.ty c] [u,.type c] Q I r ⟨a,C,dd,bm,jy,.ty c,jy,rfl,⟨nm,ck⟩,sg _ _ hx,.inr ⟨c,rfl,Em c hc,?_⟩,?_⟩
   .rw[ck.ty];rcases hc with rfl|rfl|rfl|rfl|rfl|rfl<;>rfl
   .have e:Ki (.dict [(.none,.tuple [.str nm,.list ds])]) c=jy:=by rcases hc with rfl|rfl|rfl|rfl|rfl|rfl<;>rfl
    rw[e]at q;exact q
  |dct e _ _ _ _=>subst e;rw[OO.2]at nx;cases nx
  |dtt e _ _ _=>subst e;cases nx
  |_=>cases nx
 .have nx:W3 d=jy:=by simpa using nx
  exact En I sg rp r1 nx (Eo X.K d c nx hc) λtk=>⟨.bl _,H,I.tok tk,rfl,q⟩
theorem Of:bootBuiltins "isinstance" = ju (.builtin "isinstance"):=by decide +kernel
theorem SF{f:M D}{p2 p3:Pos}{c:String}(hc:c = "int" ∨ c = "bool" ∨ c = "str" ∨ c = "list" ∨ c = "tuple" ∨ c = "dict")(hg:Gl X "isinstance")(hm:X.mg "isinstance" = jw)(xw:Gl X (Uz c))(hm2:X.mg (Uz c)=jw)
  (hv2:bootBuiltins (Uz c)=ju (.type c)) (ha:PE X e (tD X.K B G0 f)) (hn2:(Uz c) ≠ "__name__") (hd2:((Uz c)==("__debug__" : Str))=jy)
  (hs:Um [e,.Name (Uz c) p3] X.env=(jy,eval e X.env)::Um [.Name (Uz c) p3] X.env:=by rfl)
  (hs2:Um [.Name (Uz c) p3] X.env=[(jy,eval (.Name (Uz c) p3) X.env)]:=by rfl) :
  PE X (.Call (.Name "isinstance" p2) [e,.Name (Uz c) p3] [] pos) (tD X.K B G0 (UT (λd=>.bool (Ki d c)) f)):=by
 refine U7 (Ve CP hg hm Of (Yo ha (Yo (N5 (v:=.ty c) xw hm2 hv2 jv hn2 hd2) Xh (by rw[hs2];rfl)) hs) (by decide) (by decide) hs (by rw[hs2];rfl)) λσ H Q q=>?_
 refine tM.one (R:=Rep X.K) q λv H2 G Z x k r a=>?_
 exact⟨v,c,G,x,rfl,k.gh,r,hc,aft.now a k (.bl _)⟩
end
def spD(K:Frag)(n:Nat)(F:jz->jC):Sp:=λvs H Q _=>∃G ds d,vs.length=n/\Same G H/\Reps K G vs ds/\F ds=ju d/\∀v G' H',Ext G H G' H'->Rep K G' v d->Q v H'
section
variable{K:Frag}{B G0 G H:Hp}{σ:St}{Z:UF}
theorem EOk.exit(k:EOk K B G0 G H σ Z):Ext G0 B G H:=⟨k.bh,k.g0,k.gh,k.np⟩
theorem Yb{α:Type}{l:List α}{i:Nat}{x y:α}(h:(l.set i x)[i]?=ju y):y=x:=by
 by_cases hl:i<l.length
 .rw[QG hl]at h;cases h;rfl
 .rw[Jx (by rw[Q6];omega)]at h;cases h
theorem DpOk.setOther{i:Nat}{x:Option V}{y:Option Sl}(k:DpOk K B G H σ Z)(hy:∀s,y=ju s->∃d,s=.pub d):DpOk K B G H (σ.set i x) (Z.set i y):=by
 have nz:∀{m:Nat}{s:Sl},(Z.set i y)[m]?=ju (ju s)->(∃d,s=.pub d)∨(Z[m]?=ju (ju s)/\(σ.set i x)[m]?=σ[m]?):=λ{m s} q=>by
  by_cases z:i=m
  .subst z
   exact .inl (hy s (Yb q).symm)
  .rw[Qm z]at q⊢;exact .inr ⟨q,rfl⟩
 refine k.map (λm p d q=>?_) (λm es q=>?_) λm p d v fp q s r w n=>⟨r,w⟩
 .rcases nz q with ⟨_,e⟩|q
  .cases e
  .exact q
 .rcases nz q with ⟨_,e⟩|q
  .cases e
  .exact⟨es,q⟩
theorem EOk.setPub{i:Nat}{v:V}{d:D}(k:EOk K B G0 G H σ Z)(r:Rep K G v d)(hi:i<Z.length):EOk K B G0 G H (σ.set i (ju v)) (Z.set i (ju (.pub d))) where
 bh:=k.bh
 gh:=k.gh
 g0:=k.g0
 np:=k.np
 len:=by rw[Q6,Q6];exact k.len
 pub:=λj d' q=>by
  by_cases z:i=j
  .subst z
   have:=Yb q;cases this;exact⟨v,QG (by rw[←k.len];exact hi),r⟩
  .rw[Qm z]at q⊢
   exact k.pub j d' q
 own:=λj ds q=>by
  by_cases z:i=j
  .subst z
   have:=Yb q;cases this
  .rw[Qm z]at q⊢
   exact k.own j ds q
 sep:=λj l c es fs q1 q2 s1 s2=>by
  have z1:i≠j:=λz=>by subst z;have:=Yb q1;cases this
  have z2:i≠l:=λz=>by subst z;have:=Yb q2;cases this
  rw[Qm z1]at q1 s1;rw[Qm z2]at q2 s2;exact k.sep j l c es fs q1 q2 s1 s2
 dp:=k.dp.setOther (λs e=>by cases e;exact⟨_,rfl⟩)
structure NewL(K:Frag)(B G H:Hp)(σ:St)(Z:UF)(a:Uh)(vs:List V)(ds:jz):Prop where
 b:B a=jw
 g:G a=jw
 h:H a=ju (.lst vs)
 r:Reps K G vs ds
 f:∀(j:Nat) es,Z[j]?=ju (ju (.own es))->σ[j]?≠ju (ju (.ref a))
 dp:∀(j:Nat) p d v fp,Z[j]?=ju (ju (.deep p d))->σ[j]?=ju (ju v)->RepO K G H p v d fp->a∉fp
theorem EOk.freshD{H':Hp}{a:Uh}(k:EOk K B G0 G H σ Z)(e:Same H H')(ha:H a=jw){G':Hp}{j:Nat}{p:Pat}{d:D}{v:V}{fp:jH}(q:Z[j]?=ju (ju (.deep p d)))(s:σ[j]?=ju (ju v))(r:RepO K G' H' p v d fp):a∉fp:=λm=>by obtain⟨ω,k1,k2⟩:=k.dp;obtain⟨v',fp',s',r',n,w⟩:=k1 j p d q;rw[s]at s';cases s';have u:=r'.uniq e r;subst u;obtain⟨ws,hl⟩:=r'.isl a m;rw[ha]at hl;cases hl
theorem EOk.setOwn{i:Nat}{a:Uh}{vs:List V}{ds:jz}(k:EOk K B G0 G H σ Z)(n:NewL K B G H σ Z a vs ds)(hi:i<Z.length):EOk K B G0 G H (σ.set i (ju (.ref a))) (Z.set i (ju (.own ds))) where
 bh:=k.bh
 gh:=k.gh
 g0:=k.g0
 np:=k.np
 len:=by rw[Q6,Q6];exact k.len
 pub:=λj d' q=>by
  by_cases z:i=j
  .subst z
   have:=Yb q;cases this
  .rw[Qm z]at q⊢
   exact k.pub j d' q
 own:=λj es q=>by
  by_cases z:i=j
  .subst z
   have:=Yb q;cases this;exact⟨a,vs,QG (by rw[←k.len];exact hi),n.b,n.g,n.h,n.r⟩
  .rw[Qm z]at q⊢
   exact k.own j es q
 sep:=λj l c es fs q1 q2 s1 s2=>by
  have hs:i<σ.length:=by rw[←k.len];exact hi
  by_cases z1:i=j
  .subst z1
   rw[QG hs]at s1;cases s1;by_cases z2:i=l
   .exact z2
   .rw[Qm z2]at q2 s2
    exact absurd s2 (n.f l fs q2)
  .by_cases z2:i=l
   .subst z2
    rw[QG hs]at s2;cases s2;rw[Qm z1]at q1 s1;exact absurd s1 (n.f j es q1)
   .rw[Qm z1]at q1 s1
    rw[Qm z2]at q2 s2;exact k.sep j l c es fs q1 q2 s1 s2
 dp:=by
  obtain⟨ω,k1,k2⟩:=k.dp;have hs:i<σ.length:=by rw[←k.len];exact hi
  refine⟨λb=>if b=a then i else ω b,λj p d q=>?_,λj es b q s=>?_⟩
  .by_cases z:i=j
   .subst z;have:=Yb q;cases this
   .rw[Qm z]at q⊢
    obtain⟨v,fp,s,r,nn,w⟩:=k1 j p d q;refine⟨v,fp,s,r,nn,λb m=>⟨(w b m).1,(w b m).2.1,?_⟩⟩;dsimp only;rw[QC (λz=>n.dp j p d v fp q s r (by rw[←z];exact m))];exact(w b m).2.2
  .by_cases z:i=j
   .subst z
    rw[QG hs]at s;cases s;dsimp only;rw[Qo jv]
   .rw[Qm z]at q s
    dsimp only;rw[QC (λe=>n.f j es q (by rw[←e];exact s))];exact k2 j es b q s
theorem EOk.change{i:Nat}{a:Uh}{vs:List V}{ds es:jz}(k:EOk K B G0 G H σ Z)(q:Z[i]?=ju (ju (.own ds)))(ha:σ[i]?=ju (ju (.ref a)))(r:Reps K G vs es) :
  EOk K B G0 G (upd H a (.lst vs)) σ (Z.set i (ju (.own es))):=by
 obtain⟨a',ws,h1,h2,h3,h4,h5⟩:=k.own i ds q;rw[ha]at h1;cases h1;have hi:i<Z.length:=(Qh.mp q).1;refine⟨λb o e=>?_,λb o e=>?_,k.g0,k.np,by rw[Q6];exact k.len,λj d' e=>?_,λj fs e=>?_,λj l c fs gs q1 q2 s1 s2=>?_,?_⟩
 .rw[Kn (YI e h2)];exact k.bh b o e
 .rw[Kn (YI e h3)];exact k.gh b o e
 .by_cases z:i=j
  .subst z
   have:=Yb e;cases this
  .rw[Qm z]at e
   exact k.pub j d' e
 .by_cases z:i=j
  .subst z
   have:=Yb e;cases this;exact⟨a,vs,ha,h2,h3,KP,r⟩
  .rw[Qm z]at e
   obtain⟨c,us,g1,g2,g3,g4,g5⟩:=k.own j fs e;have zc:c≠a:=λw=>z (k.sep i j a ds fs q e ha (by rw[←w];exact g1))
   exact⟨c,us,g1,g2,g3,by rw[Kn zc];exact g4,g5⟩
 .have f:∀{m:Nat}{ts:jz},(Z.set i (ju (Sl.own es)))[m]?=ju (ju (.own ts))->∃ts',Z[m]?=ju (ju (.own ts')):=λ{m ts} e=>by
   by_cases z:i=m
   .subst z;exact⟨ds,q⟩
   .rw[Qm z]at e;exact⟨ts,e⟩
  obtain⟨f1,w1⟩:=f q1;obtain⟨f2,w2⟩:=f q2;exact k.sep j l c f1 f2 w1 w2 s1 s2
 .refine k.dp.map (λj p d e=>?_) (λj fs e=>?_) λj p d v fp qj s rj w n=>⟨rj.upd (λ_ z=>by rw[h4]at z;cases z) (n i ds a q ha),w⟩
  .by_cases z:i=j
   .subst z;have:=Yb e;cases this
   .rw[Qm z]at e;exact⟨e,rfl⟩
  .by_cases z:i=j
   .subst z;exact⟨ds,q,rfl⟩
   .rw[Qm z]at e;exact⟨fs,e,rfl⟩
end
inductive Out where
 |nx (Z:UF)|rt (d:D)|bk (Z:UF)|ct (Z:UF)|ex (Z:UF) (d:D)|ro (ds:jz)|bad
abbrev SM:=UF->Out
section
variable(K:Frag)(B G0:Hp)(KX:XW)
def aftS(o:Out)(G1:Hp)(Dn:Ends):Prop:=
 match o with
 |.nx Z=>∀σ G H,EOk K B G0 G H σ Z->Same G1 G->Dn.nx σ H
 |.bk Z=>∀σ G H,EOk K B G0 G H σ Z->Same G1 G->Dn.bk σ H
 |.ct Z=>∀σ G H,EOk K B G0 G H σ Z->Same G1 G->Dn.ct σ H
 |.rt d=>∀v G H,Ext G0 B G H->Rep K G v d->Dn.rt v H
 |.ro ds=>∀a vs G H,Ext G0 B G H->B a=jw->G a=jw->H a=ju (.lst vs)->Reps K G vs ds->Dn.rt (.ref a) H
 |.ex Z d=>∀v σ G H,EOk K B G0 G H σ Z->Same G1 G->Rep K G v d->KX v σ H
 |.bad=>False
def tS(g:SM):TS:=λDn σ H=>∃G Z,EOk K B G0 G H σ Z/\aftS K B G0 KX (g Z) G Dn
def sB{α:Type}(f:M α)(g:α->SM):SM:=λZ=>match f Z with | .ok a Z'=>g a Z' | .bad=>.bad
end
section
variable{X:Cx}{B G0:Hp}{KX:XW}{e a b c:Uj}{pos:Pos}{es rest:jF}{st:Stmt}{sts sts2:List Stmt}
theorem aftS.mono{K:Frag}{o:Out}{G G':Hp}{Dn:Ends}(e:Same G G')(h:aftS K B G0 KX o G Dn):aftS K B G0 KX o G' Dn:=by
 cases o with
 |nx Z=>exact λσ G2 H2 k s=>h σ G2 H2 k (e.trans s)
 |bk Z=>exact λσ G2 H2 k s=>h σ G2 H2 k (e.trans s)
 |ct Z=>exact λσ G2 H2 k s=>h σ G2 H2 k (e.trans s)
 |rt d=>exact h
 |ro ds=>exact h
 |ex Z d=>exact λv σ G2 H2 k s r=>h v σ G2 H2 k (e.trans s) r
 |bad=>exact h
theorem tS.bnd{K:Frag}{α γ:Type}{R:Hp->γ->α->Prop}{f:M α}{g:α->SM}{Dn:Ends}{σ:St}{H:Hp}{P:γ->Hp->Prop}(q:tS K B G0 KX (sB f g) Dn σ H)
  (i:∀v H' G' Z' x,EOk K B G0 G' H' σ Z'->R G' v x->aftS K B G0 KX (g x Z') G' Dn->P v H'):tM K B G0 R f σ H P:=by
 obtain⟨G,Z,k,a⟩:=q;refine⟨G,Z,k,?_⟩;unfold sB at a;cases z:f Z with
 |bad=>rw[z]at a;exact a.elim
 |ok d Z1=>rw[z]at a;exact λv G' H' e s r=>i v H' G' Z1 d e r (aftS.mono s a)
def sNx:SM:=λZ=>.nx Z
def UM(g h:SM):SM:=λZ=>match g Z with | .nx Z'=>h Z'|o=>o
theorem Gq:PSs X [] (tS X.K B G0 KX sNx):=SZ E1 λD σ H ⟨G,Z,k,a⟩=>a σ G H k (.refl _)
theorem NP{g h:SM}(h1:PS X st (tS X.K B G0 KX g))(h2:PSs X sts (tS X.K B G0 KX h)):PSs X (st::sts) (tS X.K B G0 KX (UM g h)):=SZ (MA h1 h2) λD σ H ⟨G,Z,k,a⟩=>by
 refine⟨G,Z,k,?_⟩;unfold UM at a;cases z:g Z with
 |nx Z1=>rw[z]at a;exact λσ' G' H' k' s'=>⟨G',Z1,k',aftS.mono s' a⟩
 |rt d=>rw[z]at a;exact a
 |ro ds=>rw[z]at a;exact a
 |bk Z1=>rw[z]at a;exact a
 |ct Z1=>rw[z]at a;exact a
 |ex Z1 d=>rw[z]at a;exact a
 |bad=>rw[z]at a;exact a.elim
theorem Gp{g:SM}(h1:PS X st (tS X.K B G0 KX g)):PSs X [st] (tS X.K B G0 KX g):=Pk h1
def Y4:SM:=λ_=>.bad
theorem CO:PS X st (tS X.K B G0 KX Y4):=λ_ _ _ _ _ _ ⟨_,_,_,a⟩=>a.elim
def UX(f:M D):SM:=sB f λd _=>.rt d
theorem Go{f:M D}(h:PE X e (tD X.K B G0 f)):PS X (.Return (ju e) pos) (tS X.K B G0 KX (UX f)):=Zb (OY h) λD σ H q=>tS.bnd (R:=Rep X.K) q λv H' G' Z' x k r a=>a v G' H' k.exit r
def Xa(f:M D):SM:=sB f λ_ Z=>.nx Z
theorem El{f:M D}(h:PE X e (tD X.K B G0 f))(hs:swapsWith e jw pos.line X.env=pure jy:=by rfl):PS X (.Expr e pos) (tS X.K B G0 KX (Xa f)):=Zb (Ru h hs) λD σ H q=>tS.bnd (R:=Rep X.K) q λv H' G' Z' x k r a=>a σ G' H' k (.refl _)
def sIf(f:M Bool)(g h:SM):SM:=sB f λt=>if t=jx then g else h
theorem HE{f:M Bool}{g h:SM}(hc:PT X c (tBo X.K B G0 f))(ha:PSs X sts (tS X.K B G0 KX g))(hb:PSs X sts2 (tS X.K B G0 KX h)):PS X (.If c sts sts2 pos) (tS X.K B G0 KX (sIf f g h)):=
 Zb (L6 hc ha hb) λD σ H q=>tS.bnd (R:=λ_ b c=>b=c) q λv H' G' Z' x k r a=>by
  have r:v=x:=r;subst r;cases v with
  |true=>exact⟨G',Z',k,a⟩
  |false=>exact⟨G',Z',k,a⟩
def tG(K:Frag)(B G0:Hp)(s:D->UF->jG):TG:=λv σ H Q=>∃G Z d Z',EOk K B G0 G H σ Z/\Rep K G v d/\s d Z=ju Z'/\∀σ' G' H',EOk K B G0 G' H' σ' Z'->Same G G'->Q σ' H'
def tGs(K:Frag)(B G0:Hp)(s:jz->UF->jG):TGs:=λv σ H Q=>∃G Z d Z',EOk K B G0 G H σ Z/\Reps K G v d/\s d Z=ju Z'/\∀σ' G' H',EOk K B G0 G' H' σ' Z'->Same G G'->Q σ' H'
theorem pgof{t t':TG}(h:PG X e t)(i:∀v σ H Q,t' v σ H Q->t v σ H Q):PG X e t':=λpins s σ H v u Q I r q=>h pins s σ H v u Q I r (i v σ H Q q)
theorem Oi{t t':TGs}(h:PGs X es t)(i:∀v σ H Q,t' v σ H Q->t v σ H Q):PGs X es t':=λpins s σ H v u Q I r q=>h pins s σ H v u Q I r (i v σ H Q q)
def gN(i:Nat):D->UF->jG:=λd Z=>if i<Z.length then ju (Z.set i (ju (.pub d)))else jw
theorem NO{i:Nat}(h:PG X e (R1 i)):PG X e (tG X.K B G0 (gN i)):=pgof h λv σ H Q ⟨G,Z,d,Z',k,r,e,q⟩=>by
 unfold gN at e;split at e
 .rename_i hi
  cases e;exact q _ G H (k.setPub r hi) (.refl _)
 .cases e
def gN0:jz->UF->jG:=λd Z=>match d with | []=>ju Z|_=>jw
def gNC(s:D->UF->jG)(t:jz->UF->jG):jz->UF->jG:=λds Z=>match ds with|d::r=>(s d Z).bind (t r) | []=>jw
theorem Gn:PGs X [] (tGs X.K B G0 gN0):=Oi EZ λv σ H Q ⟨G,Z,d,Z',k,r,e,q⟩=>by
 cases r with
 |nil=>cases e;exact⟨rfl,q σ G H k (.refl _)⟩
 |cons _ _=>cases e
theorem Ek{s:D->UF->jG}{t:jz->UF->jG}(h1:PG X e (tG X.K B G0 s))(h2:PGs X es (tGs X.K B G0 t))
  (hs:(UC (e::es) X.env).map (·.2)=assign e X.env::(UC es X.env).map (·.2):=by rfl):PGs X (e::es) (tGs X.K B G0 (gNC s t)):=Oi (CB h1 h2 hs) λv σ H Q ⟨G,Z,d,Z',k,r,e,q⟩=>by
 cases r with
 |nil=>cases e
 |@cons w dw ws dws rw rt=>
  unfold gNC at e;dsimp only at e;cases z:s dw Z with
  |none=>rw[z]at e;cases e
  |some Z1=>rw[z]at e;refine⟨w,ws,rfl,G,Z,dw,Z1,k,rw,z,λσ' G' H' k' s'=>?_⟩;exact⟨G',Z1,dws,Z',k',rt.mono s',e,λσ2 G2 H2 k2 s2=>q σ2 G2 H2 k2 (s'.trans s2)⟩
def gT(n:Nat)(t:jz->UF->jG):D->UF->jG:=λd Z=>match d with | .tuple ds=>if ds.length=n then t ds Z else jw|_=>jw
theorem Gm{k1:Nat}{t:jz->UF->jG}{n:Nat}(hc:X.calm=jx)(h:PGs X es (tGs X.K B G0 t))
  (hn:(UC es X.env).length=n:=by rfl) (hst:(UC es X.env).findIdx? (·.1)=jw:=by rfl):PG X (.Tuple es k1 pos) (tG X.K B G0 (gT n t)):=pgof (Fa hc h hn hst) λv σ H Q ⟨G,Z,d,Z',k,r,e,q⟩=>by
 unfold gT at e;split at e
 .split at e
  .rename_i hl
   obtain⟨ad,vs,rfl,h1,r1⟩:=r.tup_inv;exact⟨ad,vs,rfl,Yl k.gh h1,by rw[r1.length];exact hl,G,Z,_,Z',k,r1,e,q⟩
  .cases e
 .cases e
def Zl(f:M D)(s:D->UF->jG):SM:=sB f λd Z=>match s d Z with|some Z'=>.nx Z'|none=>.bad
theorem Gk{tg:Uj}{f:M D}{s:D->UF->jG}(he:PE X e (tD X.K B G0 f))(hg:PG X tg (tG X.K B G0 s))(hs:swapsWithSole [tg] e pos.line X.env=pure jy:=by rfl)(hw:swappedStores [tg] e X.env=pure jw:=by rfl)
  (h1:(UC [tg] X.env).map (·.2)=[assign tg X.env]:=by rfl):PS X (.Assign [tg] e pos) (tS X.K B G0 KX (Zl f s)):=
 Zb (GZ he hg hs hw h1) λD σ H q=>tS.bnd (R:=Rep X.K) q λv H' G' Z' x k r a=>by
  cases z:s x Z' with
  |none=>rw[z]at a;exact a.elim
  |some Z2=>rw[z]at a;exact⟨G',Z',x,Z2,k,r,z,λσ2 G2 H2 k2 s2=>a σ2 G2 H2 k2 s2⟩
def U0(i:Nat)(f:M D):SM:=Zl f (gN i)
theorem Gj{i:Nat}{x:Str}{f:M D}{p2:Pos}(hN:X.N.Nodup)(hi:X.N[i]?=ju x)(hx:Loc X.env.scope x)(he:PE X e (tD X.K B G0 f))(hs:swapsWith e (ju (.Name x p2)) pos.line X.env=pure jy:=by rfl)
  (hf:X.fn x=jx∨X.env.scope.names.lookup x=ju .local:=by first|exact .inl rfl|exact .inr rfl|assumption):PS X (.Assign [.Name x p2] e pos) (tS X.K B G0 KX (U0 i f)):=
 Zb (OX hN hi hx he hs hf) λD σ H q=>tS.bnd (R:=Rep X.K) q λv H' G' Z' x k r a=>by
  unfold gN at a;split at a
  .rename_i Z2 hz
   split at hz
   .rename_i hi2
    cases hz;exact a _ G' H' (k.setPub r hi2) (.refl _)
   .cases hz
  .exact a.elim
def tL(K:Frag)(B G0:Hp)(f:M jz):TE:=λσ H Q=>∃G Z,EOk K B G0 G H σ Z/\match f Z with
 |.ok ds Z'=>∀a vs G' H',EOk K B G0 G' H' σ Z'->Same G G'->NewL K B G' H' σ Z' a vs ds->Q (.ref a) H'
 |.bad=>False
def KM(i:Nat)(f:M jz):SM:=sB f λds Z=>if i<Z.length then .nx (Z.set i (ju (.own ds)))else .bad
theorem Ej{i:Nat}{x:Str}{f:M jz}{p2:Pos}(hN:X.N.Nodup)(hi:X.N[i]?=ju x)(hx:Loc X.env.scope x)(he:PE X e (tL X.K B G0 f))(hs:swapsWith e (ju (.Name x p2)) pos.line X.env=pure jy:=by rfl)
  (hf:X.fn x=jx∨X.env.scope.names.lookup x=ju .local:=by first|exact .inl rfl|exact .inr rfl|assumption):PS X (.Assign [.Name x p2] e pos) (tS X.K B G0 KX (KM i f)):=
 Zb (OX hN hi hx he hs hf) λD σ H ⟨G,Z,k,a⟩=>by
  refine⟨G,Z,k,?_⟩;unfold KM sB at a;cases z:f Z with
  |bad=>rw[z]at a;exact a.elim
  |ok ds Z1=>
   rw[z]at a;intro ad vs G' H' k' s' n;dsimp only at a;split at a
   .rename_i hl
    exact a _ G' H' (k'.setOwn n hl) s'
   .exact a.elim
theorem NewL.of{K:Frag}{G H:Hp}{σ:St}{Z:UF}{p:Uh}{vs:List V}{ds:jz}(k:EOk K B G0 G H σ Z)(hp:H p=jw)(r:Reps K G vs ds):NewL K B G (upd H p (.lst vs)) σ Z p vs ds where
 b:=k.bh.free hp
 g:=k.gh.free hp
 h:=KP
 r:=r
 f:=λj es q z=>by obtain⟨a,ws,h1,h2,h3,h4,h5⟩:=k.own j es q;rw[z]at h1;cases h1;rw[hp]at h4;cases h4
 dp:=λj pt d v fp q s rr=>k.freshD (Zj hp) hp q s rr
theorem NN{f:M jz}(h:PA X es (tDs X.K B G0 f)):PE X (.List es pos) (tL X.K B G0 (UZ f λxs=>if xs.length<=1000000 then UL xs else λ_=>.bad)):=
 U7 (OV h) λσ H Q ⟨G,Z,k,a⟩=>by
  refine⟨G,Z,k,?_⟩;unfold UZ at a;cases z:f Z with
  |bad=>rw[z]at a;exact a.elim
  |ok ds Z1=>
   rw[z]at a;dsimp only at a;intro v G' H' k' s' r;by_cases c:ds.length<=1000000
   .rw[Qo c]at a
    refine⟨by rw[r.length];exact QP c lim,λp hp=>?_⟩;exact a p v G' _ (k'.ext (Ext.hid k'.gh hp)) s' (NewL.of k' hp r)
   .rw[QC c]at a;exact a.elim
def Za(i:Nat)(f:M D):SM:=λZ0=>match Z0[i]? with
 |some (ju (.own _))=>sB f (λd Z=>match Z[i]? with
  |some (ju (.own ds))=>if ds.length<1000000 then .nx (Z.set i (ju (.own (ds++[d]))))else .bad
  |_=>.bad) Z0
 |_=>.bad
theorem Gi{i:Nat}{f:M D}{o:Uj}{apos cpos:Pos}(ho:PE X o (KT i))(he:PE X e (tD X.K B G0 f))
  (hbase:attributeBase o "append" X.env (eval o X.env)=eval o X.env:=by rfl)
  (hfew:((backTo cpos (Um [e] X.env)).all (λx=>!x.1)&&(backToKw cpos (keywordEach [] X.env)).all (λx=>x.1.isSome)
   && decide ([e].length+([]:List Keyword).length+(if([]:List Keyword).isEmpty then 0 else 1)<30))=jx:=by rfl)
  (hline:(apos.endLine==cpos.line)=jx:=by rfl) (hs:Um [e] X.env=[(jy,eval e X.env)]:=by rfl)
  (hsw:swapsWith (.Call (.Attribute o "append" apos) [e] [] cpos) jw pos.line X.env=pure jy:=by rfl) :
  PS X (.Expr (.Call (.Attribute o "append" apos) [e] [] cpos) pos) (tS X.K B G0 KX (Za i f)):=
 Zb (Ru (SO PySem.F.plainAttrs_list PySem.F.slot_list_append PySem.F.type_list_append ME ho (Yo he Xh (by rw[hs];rfl)) hbase hfew hline (by rw[hs];rfl) jv) hsw) λD σ H ⟨G,Z,k,a⟩=>by
  unfold Za at a;cases q0:Z[i]? with
  |none=>rw[q0]at a;exact a.elim
  |some o0=>
   cases o0 with
   |none=>rw[q0]at a;exact a.elim
   |some sl0=>
    cases sl0 with
    |deep _ _=>rw[q0]at a;exact a.elim
    |pub d=>rw[q0]at a;exact a.elim
    |own xG=>
     rw[q0]at a;obtain⟨ad,vs0,h1,h2,h3,h4,h5⟩:=k.own i xG q0;refine⟨.ref ad,h1,.inl ⟨rfl,_,SqL.of h4⟩,G,Z,k,?_⟩;unfold sB at a;cases z:f Z with
     |bad=>rw[z]at a;exact a.elim
     |ok d Z1=>
      rw[z]at a;dsimp only at a;intro v G' H' k' s' r';cases q:Z1[i]? with
      |none=>rw[q]at a;exact a.elim
      |some o=>
       cases o with
       |none=>rw[q]at a;exact a.elim
       |some sl=>
        cases sl with
        |deep _ _=>rw[q]at a;exact a.elim
        |pub d=>rw[q]at a;exact a.elim
        |own ds=>
         rw[q]at a;dsimp only at a;split at a
         .rename_i hl
          obtain⟨ad',vs,g1,g2,g3,g4,g5⟩:=k'.own i ds q;rw[h1]at g1;cases g1;refine⟨ad,vs,v,rfl,rfl,g4,by rw[g5.length];exact QE hl lim,?_⟩;exact a σ G' _ (k'.change q h1 (g5.append (.cons r' .nil))) s'
         .exact a.elim
end
structure YL(K:Frag)(J:It)(ds:jz)(G1:Hp):Prop where
 go:∀i G H,Same G1 G->Same G H->i<ds.length->J.go i H
 stop:∀i G H,Same G1 G->Same G H->ds.length<=i->J.stop i H
 yld:∀i G H x H' d,Same G1 G->Same G H->ds[i]?=ju d->J.yld i H x H'->∃G',Ext G H G' H'/\Rep K G' x d
def iD(K:Frag)(B G0:Hp)(f:M jz):TI:=λσ H R=>∃G Z,EOk K B G0 G H σ Z/\match f Z with
 |.ok ds Z'=>∀J G' H',EOk K B G0 G' H' σ Z'->Same G G'->YL K J ds G'->R J H'
 |.bad=>False
section
variable{X:Cx}{B G0:Hp}{KX:XW}{e a b c tg:Uj}{pos:Pos}{es rest:jF}{st:Stmt}{sts sts2:List Stmt}
theorem Xo{t t':TI}(h:PI X tg e t)(i:∀σ H R,t' σ H R->t σ H R):PI X tg e t':=λpins s σ H R I q=>h pins s σ H R I (i σ H R q)
theorem tM.toI{K:Frag}{α γ:Type}{R0:Hp->γ->α->Prop}{f:M α}{g:α->M jz}{σ:St}{H:Hp}{R:It->Hp->Prop}{P:γ->Hp->Prop}(q:iD K B G0 (UZ f g) σ H R)
  (i:∀v H' G' Z' x,EOk K B G0 G' H' σ Z'->R0 G' v x->(match g x Z' with
   |.ok ds Z2=>∀J G2 H2,EOk K B G0 G2 H2 σ Z2->Same G' G2->YL K J ds G2->R J H2
   |.bad=>False)->P v H'):tM K B G0 R0 f σ H P:=by
 obtain⟨G,Z,k,a⟩:=q;refine⟨G,Z,k,?_⟩;unfold UZ at a;cases z:f Z with
 |bad=>rw[z]at a;exact a.elim
 |ok d Z1=>
  rw[z]at a;intro v G' H' e s r;refine i v H' G' Z1 d e r ?_;dsimp only at a;cases z2:g d Z1 with
  |bad=>rw[z2]at a;exact a.elim
  |ok ds Z2=>rw[z2]at a;exact λJ G2 H2 k2 s2 it=>a J G2 H2 k2 (s.trans s2) it
theorem qa{K:Frag}{G1:Hp}{ad:Uh}{vs:List V}{ds:jz}(h:SqL K G1 ad vs)(r:Reps K G1 vs ds):YL K (Itl K ad) ds G1 where
 go:=λi G H s1 s2 hi=>by
  have hi':i<vs.length:=by rw[r.length];exact hi
  exact⟨vs,vs[i],(s1.trans s2).seq h,Qe hi'⟩
 stop:=λi G H s1 s2 hi=>⟨vs,(s1.trans s2).seq h,by rw[r.length];exact hi⟩
 yld:=λi G H x H' d s1 s2 e y=>by obtain⟨rfl,y⟩:=y;obtain⟨v,e1,r1⟩:=r.get e;have:=y vs ((s1.trans s2).seq h);rw[e1]at this;cases this;exact⟨G,.refl s2,r1.mono s1⟩
def Zv(lo hi:Int):jz:=(Up (hi-lo).toNat).map λ(k:Nat)=>.int (lo+k)
theorem YJ(lo hi:Int):(Zv lo hi).length=(hi-lo).toNat:=by unfold Zv;rw[Qb,Ji]
theorem Ly{K:Frag}{G1:Hp}(lo hi:Int):YL K (Itr lo (hi-lo).toNat) (Zv lo hi) G1 where
 go:=λi G H s1 s2 h=>by rw[YJ]at h;exact h
 stop:=λi G H s1 s2 h=>by rw[YJ]at h;exact h
 yld:=λi G H x H' d s1 s2 e y=>by
  obtain⟨rfl,rfl⟩:=y;unfold Zv at e;rw[Qf]at e;have hi:i<(Up (hi-lo).toNat).length:=by refine Nat.lt_of_not_le λz=>?_;rw[Jx z]at e;cases e
  rw[Qe hi,List.getElem_range]at e;cases e;exact⟨G,.refl s2,.int _⟩
def Tn:jz->Option jz
 |[.int j]=>if j<=1000000 /\ -1000000<=j then ju (Zv 0 j)else jw
 |_=>jw
def Tu:jz->Option jz
 |[.int i,.int j]=>if j<=1000000 /\ -1000000<=j/\i<=1000000 /\ -1000000<=i then ju (Zv i j)else jw
 |_=>jw
def Y2(f:M jz):M jz:=UZ f λx=>UW (Tn x)
def Tt(f:M jz):M jz:=UZ f λx=>UW (Tu x)
theorem BU{f:M jz}{p2:Pos}(hg:Gl X "range")(hm:X.mg "range" = jw)(ha:PA X [a] (tDs X.K B G0 f))(hs:Um [a] X.env=[(jy,eval a X.env)]:=by rfl) :
  PI X tg (.Call (.Name "range" p2) [a] [] pos) (iD X.K B G0 (Y2 f)):=Xo (AM hg hm ha hs) λσ H R q=>tM.toI (R0:=Reps X.K) q λv H' G' Z' x k r a=>by
 cases z:Tn x with
 |none=>rw[z]at a;exact a.elim
 |some ds=>
  rw[z]at a;unfold Tn at z;split at z
  .split at z
   .rename_i j c
    cases z;obtain⟨w,rfl,r'⟩:=r.one_inv;refine⟨j,by rw[r'.int_inv],by omega,by omega,?_⟩;have it:=Ly (K:=X.K) (G1:=G') 0 j;rw[Int.sub_zero]at it;exact a _ G' H' k (.refl _) it
   .cases z
  .cases z
theorem BS{f:M jz}{p2:Pos}(hg:Gl X "range")(hm:X.mg "range" = jw)(ha:PA X [a,b] (tDs X.K B G0 f))(hs:Um [a,b] X.env=[(jy,eval a X.env),(jy,eval b X.env)]:=by rfl)(hs2:Um [b] X.env=[(jy,eval b X.env)]:=by rfl) :
  PI X tg (.Call (.Name "range" p2) [a,b] [] pos) (iD X.K B G0 (Tt f)):=Xo (AL hg hm ha hs hs2) λσ H R q=>tM.toI (R0:=Reps X.K) q λv H' G' Z' x k r a=>by
 cases z:Tu x with
 |none=>rw[z]at a;exact a.elim
 |some ds=>
  rw[z]at a;unfold Tu at z;split at z
  .split at z
   .rename_i i j c
    cases z;obtain⟨w,w',rfl,r1,r2⟩:=r.two_inv;refine⟨i,j,by rw[r1.int_inv,r2.int_inv],⟨by omega,by omega,by omega,by omega⟩,?_⟩;exact a _ G' H' k (.refl _) (Ly i j)
   .cases z
  .cases z
def ZZ(n:Nat):jz->jz
 |[]=>[]
 |d::r=>.tuple [.int n,d]::ZZ (n+1) r
theorem Y6:∀(n:Nat)(ds:jz),(ZZ n ds).length=ds.length
 |_,[]=>rfl
 |n,d::r=>by rw[ZZ,QR,QR,Y6]
theorem Ob:∀(n:Nat)(ds:jz)(i:Nat),(ZZ n ds)[i]?=ds[i]?.map λd=>.tuple [.int ((n+i:Nat):Int),d]
 |_,[],i=>by simp[ZZ]
 |n,d::r,0=>by simp[ZZ]
 |n,d::r,i+1=>by
  rw[ZZ,JP,JP,Ob (n+1) r i];have:n+1+i=n+(i+1):=by omega
  rw[this]
theorem qu{K:Frag}{G1:Hp}{ad:Uh}{vs:List V}{ds:jz}(h:SqL K G1 ad vs)(r:Reps K G1 vs ds):YL K (Ite K ad) (ZZ 0 ds) G1 where
 go:=λi G H s1 s2 hi=>by
  rw[Y6]at hi;have hi':i<vs.length:=by rw[r.length];exact hi
  exact⟨vs,vs[i],(s1.trans s2).seq h,Qe hi'⟩
 stop:=λi G H s1 s2 hi=>by rw[Y6]at hi;exact⟨vs,(s1.trans s2).seq h,by rw[r.length];exact hi⟩
 yld:=λi G H x H' d s1 s2 e y=>by
  obtain⟨p,v,hp,rfl,y,rfl⟩:=y;rw[Ob]at e;cases z:ds[i]? with
  |none=>rw[z]at e;cases e
  |some d0=>rw[z]at e;cases e;obtain⟨w,e1,r1⟩:=r.get z;have:=y vs ((s1.trans s2).seq h);rw[e1]at this;cases this;refine⟨upd G p (.tup [.int i,v]),Ext.new s2 hp,.tup (SqT.of KP) (.cons ?_ (.cons ((r1.mono s1).mono (Zj (s2.free hp))) .nil))⟩;rw[Jr];exact .int _
def T9:jz->Option jz
 |[.list ds]=>ju (ZZ 0 ds)
 |_=>jw
def Y9(f:M jz):M jz:=UZ f λx=>UW (T9 x)
theorem Ei{f:M jz}{p2:Pos}{elts:jF}{x1}{tp:Pos}(hg:Gl X "enumerate")(hm:X.mg "enumerate" = jw)(ha:PA X [a] (tDs X.K B G0 f))(hs:Um [a] X.env=[(jy,eval a X.env)]:=by rfl) :
  PI X (.Tuple elts x1 tp) (.Call (.Name "enumerate" p2) [a] [] pos) (iD X.K B G0 (Y9 f)):=Xo (Dm hg hm ha hs) λσ H R q=>tM.toI (R0:=Reps X.K) q λv H' G' Z' x k r a=>by
 cases z:T9 x with
 |none=>rw[z]at a;exact a.elim
 |some ds=>
  rw[z]at a;unfold T9 at z;split at z
  .cases z
   obtain⟨w,rfl,r'⟩:=r.one_inv;obtain⟨ad,vs,rfl,h1,r1⟩:=r'.lst_inv;exact⟨ad,vs,rfl,k.gh.seq h1,a _ G' H' k (.refl _) (qu h1 r1)⟩
  .cases z
def WK(s:D->UF->jG)(g:SM):jz->SM
 |[],Z=>.nx Z
 |d::r,Z=>match s d Z with
  |none=>.bad
  |some Z1=>match g Z1 with
   |.nx Z2=>WK s g r Z2
   |.ct Z2=>WK s g r Z2
   |.bk Z2=>.nx Z2
   |.rt d=>.rt d
   |.ro ds=>.ro ds
   |.ex Z2 d=>.ex Z2 d
   |.bad=>.bad
def Km(f:M jz)(s:D->UF->jG)(g:SM):SM:=sB f λds=>WK s g ds
theorem Gh{iter:Uj}{body:List Stmt}{f:M jz}{s:D->UF->jG}{g:SM}(hp:PassesOwn (model X.prog X.w) X.A X.env X.xe)(hc:X.calm=jx)(hi:PI X tg iter (iD X.K B G0 f))(hg:PG X tg (tG X.K B G0 s))(hb:PSs X body (tS X.K B G0 KX g))
  (hs:∀x,UD iter X.env x=pure x:=by intro _;rfl):PS X (.For tg iter body [] pos) (tS X.K B G0 KX (Km f s g)):=
 Zb (GW hp hc hi hg hb hs) λDn σ H ⟨G,Z,k,a⟩=>by
  refine⟨G,Z,k,?_⟩;unfold Km sB at a;cases z:f Z with
  |bad=>rw[z]at a;exact a.elim
  |ok ds Z1=>
   rw[z]at a;dsimp only at a⊢;intro J G1 H1 k1 s1 it;refine⟨λi m σ' H'=>m=ds.length-i/\∃G' Z',EOk X.K B G0 G' H' σ' Z'/\Same G1 G'/\aftS X.K B G0 KX (WK s g (ds.drop i) Z') G' Dn,⟨ds.length,by omega,G1,Z1,k1,.refl _,by rw[List.drop_zero];exact aftS.mono s1 a⟩,?_⟩;rintro i m σ' H' ⟨rfl,G',Z',k',s',a'⟩;by_cases hi:i<ds.length
   .right
    refine⟨it.go i G' H' s' k'.gh hi,λσ2 H2=>∃G2 Z2,EOk X.K B G0 G2 H2 σ2 Z2/\Same G1 G2/\aftS X.K B G0 KX (WK s g (ds.drop (i+1)) Z2) G2 Dn,λσ2 H2 h2=>⟨ds.length-(i+1),by omega,rfl,h2⟩,λx H2 y=>?_⟩;obtain⟨G2,ex,rx⟩:=it.yld i G' H' x H2 ds[i] s' k'.gh (Qe hi) y;rw[JL hi,WK]at a';cases z2:s ds[i] Z' with
    |none=>rw[z2]at a';exact a'.elim
    |some Z2=>
     rw[z2]at a';dsimp only at a';refine⟨G2,Z',ds[i],Z2,k'.ext ex,rx,z2,λσ3 G3 H3 k3 s3=>⟨G3,Z2,k3,?_⟩⟩;have s13:Same G1 G3:=(s'.trans ex.g).trans s3;cases z3:g Z2 with
     |nx Z3=>rw[z3]at a';exact λσ4 G4 H4 k4 s4=>⟨G4,Z3,k4,s13.trans s4,aftS.mono ((ex.g.trans s3).trans s4) a'⟩
     |ct Z3=>rw[z3]at a';exact λσ4 G4 H4 k4 s4=>⟨G4,Z3,k4,s13.trans s4,aftS.mono ((ex.g.trans s3).trans s4) a'⟩
     |bk Z3=>rw[z3]at a';exact λσ4 G4 H4 k4 s4=>a' σ4 G4 H4 k4 ((ex.g.trans s3).trans s4)
     |rt d=>rw[z3]at a';exact a'
     |ro ds=>rw[z3]at a';exact a'
     |ex Z3 d=>rw[z3]at a';exact λv σ4 G4 H4 k4 s4 r4=>a' v σ4 G4 H4 k4 ((ex.g.trans s3).trans s4) r4
     |bad=>rw[z3]at a';exact a'.elim
   .left
    rw[List.drop_eq_nil_of_le (by omega)]at a';exact⟨it.stop i G' H' s' k'.gh (by omega),a' σ' G' H' k' (.refl _)⟩
theorem CN{k:Nat}{f:Uh}{fd:Ui}{ps:List Str}{F:jz->jC}{g:M jz}{x:Str}{p2:Pos}{n:Nat}(FK:FnOk X.prog X.w X.K X.mg X.base CX0 k f fd ps (spD X.K n F))(hr:Room k X.A)(hg:Gl X x)(hm:X.mg x=ju (.ref f))(hk:PySem.W.keepIn X.K (.ref f)=jx)
  (hb:Yq X.K fd ps []) (ha:PA X (e::es) (tDs X.K B G0 g)) (hn:(e::es).length=n) (hdb:(x==("__debug__" : Str))=jy:=by decide) (he:Um (e::es) X.env=(jy,eval e X.env)::Um es X.env:=by rfl) (hpl:(backTo pos (Um es X.env)).any (·.1)=jy:=by rfl) :
  PE X (.Call (.Name x p2) (e::es) [] pos) (tD X.K B G0 (UZ g λxs=>if xs.length=n then UW (F xs)else λ_=>.bad)):=
 U7 (Ph FK hr hg hm hk hb .nil R3 ha hdb he hpl) λσ H Q q=>tM.one (R:=Reps X.K) q λv H2 G Z ds k r a=>by
  split at a
  .rename_i hl
   obtain⟨d,e,a⟩:=a.opt;exact⟨G,ds,d,by rw[Q7,r.length];exact hl,k.gh,by rw[Q7];exact r,e,λw G' H' ex rw=>a.done k ex rw⟩
  .exact a.elim
end
def ZI(N:List Str)(ds:jz):UF:=(ds.map λd=>ju (Sl.pub d))++Uq (N.length-ds.length) jw
theorem PU{K:Frag}{N:List Str}{G H:Hp}{vs:List V}{ds:jz}(s:Same G H)(r:Reps K G vs ds):EOk K H G G H (L2.Xb N vs) (ZI N ds) where
 bh:=.refl _
 gh:=s
 g0:=.refl _
 np:=λ_ _ _ n=>n
 len:=by unfold L2.Xb ZI;rw[Qi,Qi,Qb,Qb,QB,QB,r.length]
 pub:=λi d q=>by
  unfold ZI at q;unfold L2.Xb;by_cases hi:i<ds.length
  .rw[Qr (by rw[Qb];exact hi),Qf]at q
   cases z:ds[i]? with
   |none=>rw[z]at q;cases q
   |some d'=>rw[z]at q;cases q;obtain⟨v,e1,r1⟩:=r.get z;refine⟨v,?_,r1⟩;rw[Qr (by rw[Qb,r.length];exact hi),Qf,e1];rfl
  .rw[Qs (by rw[Qb];omega),Qw]at q
   split at q<;>cases q
 own:=λi es q=>by
  unfold ZI at q;by_cases hi:i<ds.length
  .rw[Qr (by rw[Qb];exact hi),Qf]at q
   cases z:ds[i]? with
   |none=>rw[z]at q;cases q
   |some d'=>rw[z]at q;cases q
  .rw[Qs (by rw[Qb];omega),Qw]at q
   split at q<;>cases q
 sep:=λi j a es fs q _ _ _=>by
  unfold ZI at q;by_cases hi:i<ds.length
  .rw[Qr (by rw[Qb];exact hi),Qf]at q
   cases z:ds[i]? with
   |none=>rw[z]at q;cases q
   |some d'=>rw[z]at q;cases q
  .rw[Qs (by rw[Qb];omega),Qw]at q
   split at q<;>cases q
 dp:=by
  have key:∀{i:Nat}{s:Sl},(ZI N ds)[i]?=ju (ju s)->∃d,s=.pub d:=λ{i s} q=>by
   unfold ZI at q;by_cases hi:i<ds.length
   .rw[Qr (by rw[Qb];exact hi),Qf]at q
    cases z:ds[i]? with
    |none=>rw[z]at q;cases q
    |some d'=>rw[z]at q;cases q;exact⟨_,rfl⟩
   .rw[Qs (by rw[Qb];omega),Qw]at q
    split at q<;>cases q
  exact .of (λi p d q=>by obtain⟨_,e⟩:=key q;cases e) λi ds q=>by obtain⟨_,e⟩:=key q;cases e
def U1(N:List Str)(g:SM)(ds:jz):jC:=match g (ZI N ds)with
 |.rt d=>ju d
 |.nx _=>ju .none
 |_=>jw
theorem okD{P:Ug}{w:World}{K:Frag}{mg:Str->jE}{base:Heap}{x qual:Str}{st:Stmt}{f:Uh}{fd:Ui}{N ps:List Str}{k n:Nat}{g:SM}(F:Fun K x qual st f fd)(S:Vg N ps (KZ st))(hn:ps.length=n)
  (der:∀(cdv:Ue)(A:Around)(outer:List Env)(s:Uf)(H:Hp)(E:XK)(B G0:Hp),Room k (A.deeper (envOfC qual (KZ st) s.heap.objs.size f cdv)) ->
   PSs (ZG CX0 P w K mg base N qual (KZ st) f cdv A outer s H E).nox (Z9 st) (tS K B G0 KX0 g)):FnOk P w K mg base CX0 (k+1) f fd ps (spD K n (U1 N g)):=by
 refine F.ok S (λvs H Q E h=>?_) (λcdv A outer s H vs Q E hr h=>?_)
 .obtain⟨_,_,_,hl,_⟩:=h
  rw[hl,hn]
 .obtain⟨G,ds,d,hl,sg,r,hF,q⟩:=h
  refine⟨_,der cdv A outer s H E H G hr,G,ZI N ds,PU sg r,?_⟩;unfold U1 at hF;cases z:g (ZI N ds)with
  |rt d'=>rw[z]at hF;cases hF;exact λv G' H' ex rr=>q v G' H' ex rr
  |nx Z=>rw[z]at hF;cases hF;exact λσ' G' H' k' _=>q .non G' H' k'.exit .non
  |ro ds=>rw[z]at hF;cases hF
  |bk Z=>rw[z]at hF;cases hF
  |ct Z=>rw[z]at hF;cases hF
  |ex Z d=>rw[z]at hF;cases hF
  |bad=>rw[z]at hF;cases hF
section
variable{X:Cx}{B G0:Hp}{e a b c tg:Uj}{pos:Pos}{es rest:jF}
def oNeg:D->jC
 |.int i=>ju (.int (-i))
 |_=>jw
def Zp(f:M D):M D:=UZ f λx=>UW (oNeg x)
theorem Eh{f:M D}(h:PE X a (tD X.K B G0 f)):PE X (.UnaryOp .USub a pos) (tD X.K B G0 (Zp f)):=
 U7 (L0 FI h) λσ H Q q=>tM.one (R:=Rep X.K) q λv H2 G Z x k r a=>by
  cases x with
  |int i=>exact⟨i,r.int_inv,aft.now a k (.int _)⟩
  |_=>exact a.elim
end
def Def(P:Ug)(w:World)(K:Frag)(mg:Str->jE)(base:Heap)(x:Str)(k n:Nat)(F:jz->jC):Prop:=
 ∃(f:Uh)(fd:Ui)(ps:List Str),mg x=ju (.ref f)/\PySem.W.keepIn K (.ref f)=jx/\Yq K fd ps []/\FnOk P w K mg base CX0 k f fd ps (spD K n F)
def UV(n:Nat)(F:jz->jC)(g:M jz):M D:=UZ g λxs=>if xs.length=n then UW (F xs)else λ_=>.bad
section
variable{X:Cx}{B G0:Hp}{e:Uj}{pos:Pos}{es:jF}
theorem Eg{k n:Nat}{F:jz->jC}{g:M jz}{x:Str}{p2:Pos}(d:Def X.prog X.w X.K X.mg X.base x k n F)(hr:Room k X.A)(hg:Gl X x)(ha:PA X (e::es) (tDs X.K B G0 g))(hn:(e::es).length=n:=by rfl)
  (hdb:(x==("__debug__" : Str))=jy:=by decide) (he:Um (e::es) X.env=(jy,eval e X.env)::Um es X.env:=by rfl) (hpl:(backTo pos (Um es X.env)).any (·.1)=jy:=by rfl) :
  PE X (.Call (.Name x p2) (e::es) [] pos) (tD X.K B G0 (UV n F g)):=by
 obtain⟨f,fd,ps,h1,h2,h3,h4⟩:=d;exact CN h4 hr hg h1 h2 h3 ha hn hdb he hpl
end
theorem Def.mk{P:Ug}{w:World}{K:Frag}{mg:Str->jE}{base:Heap}{x:Str}{k n:Nat}{F:jz->jC}{st:Stmt}{f:Uh}{fd:Ui}{ps:List Str}(hm:mg x=ju (.ref f))(FU:Fun K x x st f fd)(hb:Yq K fd ps [])(ok:FnOk P w K mg base CX0 k f fd ps (spD K n F)) :
  Def P w K mg base x k n F:=⟨f,fd,ps,hm,FU.kp,hb,ok⟩
theorem Gg{K:Frag}{H:Hp}{a:Uh}{ns:jA}{F:jz->jC}{E:XK}(hS:SqL K H a (ns.map V.int))(h:F [.list (ns.map int)]=ju (.bool jx)):spD K 1 F [.ref a] H (λv _=>v=.bl jx) E:=
 ⟨H,[.list (ns.map int)],.bool jx,rfl,.refl _,.cons (.lst hS (Reps.ints ns)) .nil,h,λ_ _ _ _ r=>r.bl_inv⟩
end DL
namespace L2
open PySem PySem.Spec PyProof.Rows
theorem mem_of_lookup{x:Str}{k:NameKind}:∀{l:List (Str×NameKind)},l.lookup x=ju k->(x,k)∈l
 |[],h=>by cases h
 |(y,j)::r,h=>by
  rw[QW]at h;split at h
  .rename_i e
   cases h;have:x=y:=by simpa using e
   rw[this];exact Qt
  .exact QD _ (mem_of_lookup h)
theorem P7{env:Env}:∀(l:List (Str×NameKind))(acc:List (Str×Uh)),(∀y∈l,y.2=.free->∃c,env.cells.lookup y.1=ju c) ->
  ∃cl,(forIn l acc (λx r=>if(x.2==NameKind.free)=jx then(do let a ←cellOf env x.1;pure (ForInStep.yield ((x.1,a)::r)))else pure (ForInStep.yield r)):Sem (List (Str×Uh)))=pure cl /\
   (∀x c,cl.lookup x=ju c->acc.lookup x=ju c∨env.cells.lookup x=ju c)/\(∀y∈l,y.2=.free->∃c,cl.lookup y.1=ju c)/\(∀x c,acc.lookup x=ju c->∃c',cl.lookup x=ju c')
 |[],acc,_=>⟨acc,rfl,λ_ _ h=>.inl h,λ_ h=>absurd h (by simp),λx c h=>⟨c,h⟩⟩
 |(n,k)::r,acc,h=>by
  by_cases hk:k=.free
  .subst hk
   obtain⟨c,hc⟩:=h (n,.free) Qt jv;obtain⟨cl,e,p1,p2,p3⟩:=P7 r ((n,c)::acc) λy hy=>h y (QD _ hy)
   have hco:cellOf env n=pure c:=by unfold cellOf;rw[hc]
   have key:∀x c',((n,c)::acc).lookup x=ju c'->acc.lookup x=ju c'∨env.cells.lookup x=ju c':=λx c' q=>by
    rw[QW]at q;split at q
    .rename_i e1
     cases q;have:x=n:=by simpa using e1
     subst this;exact .inr hc
    .exact .inl q
   have own:((n,c)::acc).lookup n=ju c:=by rw[List.lookup_cons];simp
   refine⟨cl,?_,λx c' q=>?_,λy hy hf=>?_,λx c' q=>?_⟩
   .rw[List.forIn_cons]
    have:(if(((n,NameKind.free):Str×NameKind).2==NameKind.free)=jx then(do let a ←cellOf env n;pure (ForInStep.yield ((n,a)::acc)))else pure (ForInStep.yield acc):Sem _)=pure (ForInStep.yield ((n,c)::acc)):=by rw[Qo (show((n,NameKind.free).snd==NameKind.free)=jx from rfl),hco];rfl
    refine Eq.trans ?_ e;dsimp only at this⊢;rw[this];rfl
   .rcases p1 x c' q with z|z
    .exact key x c' z
    .exact .inr z
   .rcases Ql.mp hy with z|z
    .subst z
     exact p3 n c own
    .exact p2 y z hf
   .by_cases hx:x=n
    .subst hx;exact p3 x c own
    .refine p3 x c' ?_
     have hb:(x==n)=jy:=by simpa using hx
     rw[QW,hb];exact q
  .obtain⟨cl,e,p1,p2,p3⟩:=P7 r acc λy hy=>h y (QD _ hy)
   refine⟨cl,?_,p1,λy hy hf=>?_,p3⟩
   .rw[List.forIn_cons]
    have hb:(k==NameKind.free)=jy:=by cases k<;>first|rfl|exact absurd jv hk
    refine Eq.trans ?_ e;dsimp only;rw[hb,QC (by decide)];rfl
   .rcases Ql.mp hy with z|z
    .subst z;exact absurd hf hk
    .exact p2 y z hf
theorem Le{scope:Scope}{env:Env}(h:∀y∈scope.names,y.2=.free->∃c,env.cells.lookup y.1=ju c) :
  ∃cl,closureFor scope env=pure cl/\(∀x c,cl.lookup x=ju c->env.cells.lookup x=ju c)/\∀y∈scope.names,y.2=.free->∃c,cl.lookup y.1=ju c:=by
 obtain⟨cl,e,p1,p2,_⟩:=P7 scope.names [] h;refine⟨cl,?_,λx c q=>(p1 x c q).elim (λz=>by cases z) id,p2⟩;have e2:((forIn scope.names [] (λx r=>if(x.2==NameKind.free)=jx then(do let a ←cellOf env x.1;pure (ForInStep.yield ((x.1,a)::r)))else pure (ForInStep.yield r)):Sem (List (Str×Uh))) >>= λs=>pure s)=pure cl:=by rw[e];rfl
 exact e2
theorem Lx{env:Env}{x:Str}{k:NameKind}:∀{names:List (Str×NameKind)},(names.map λ(n,k)=>if(k==NameKind.free&&env.scope.kind==.function&&env.kindOf n==ju .cell)then(n,NameKind.cell)else(n,k)).lookup x=ju k ->
  names.lookup x=ju k∨(names.lookup x=ju .free/\k=.cell)
 |[],h=>by cases h
 |(n,j)::r,h=>by
  have ih:=@Lx env x k r;have h:List.lookup x ((if(j==NameKind.free&&env.scope.kind==.function&&env.kindOf n==ju .cell)=jx then(n,NameKind.cell)else(n,j))::_)=ju k:=h;cases hx:x==n with
  |true=>
   by_cases hc:(j==NameKind.free&&env.scope.kind==.function&&env.kindOf n==ju .cell)=jx
   .rw[Qo hc]at h
    simp only[QW,hx]at h⊢;cases h;simp only[QS]at hc;have:j=.free:=by have:=hc.1.1;cases j<;>first|rfl|cases this
    subst this;exact .inr ⟨rfl,rfl⟩
   .rw[QC hc]at h
    simp only[QW,hx]at h⊢;exact .inl h
  |false=>
   by_cases hc:(j==NameKind.free&&env.scope.kind==.function&&env.kindOf n==ju .cell)=jx
   .rw[Qo hc]at h
    simp only[QW,hx]at h⊢;exact ih h
   .rw[QC hc]at h
    simp only[QW,hx]at h⊢;exact ih h
theorem Lp{env:Env}{x:Str}:∀{names:List (Str×NameKind)},names.lookup x=ju .free ->
  (names.map λ(n,k)=>if(k==NameKind.free&&env.scope.kind==.function&&env.kindOf n==ju .cell)then(n,NameKind.cell)else(n,k)).lookup x=ju .free ∨
  (names.map λ(n,k)=>if(k==NameKind.free&&env.scope.kind==.function&&env.kindOf n==ju .cell)then(n,NameKind.cell)else(n,k)).lookup x=ju .cell
 |[],h=>by cases h
 |(n,j)::r,h=>by
  have ih:=@Lp env x r;show List.lookup x ((if(j==NameKind.free&&env.scope.kind==.function&&env.kindOf n==ju .cell)=jx then(n,NameKind.cell)else(n,j))::_)=_∨List.lookup x ((if(j==NameKind.free&&env.scope.kind==.function&&env.kindOf n==ju .cell)=jx then(n,NameKind.cell)else(n,j))::_)=_;cases hx:x==n with
  |true=>
   simp only[QW,hx]at h;cases h;by_cases hc:(NameKind.free==NameKind.free&&env.scope.kind==.function&&env.kindOf n==ju .cell)=jx
   .rw[if_pos hc];simp[List.lookup_cons,hx]
   .rw[if_neg hc];simp[List.lookup_cons,hx]
  |false=>
   simp only[QW,hx]at h;by_cases hc:(j==NameKind.free&&env.scope.kind==.function&&env.kindOf n==ju .cell)=jx
   .rw[Qo hc];simp only[QW,hx];exact ih h
   .rw[QC hc];simp only[QW,hx];exact ih h
theorem Ld{env:Env}{x:Str}:∀{names:List (Str×NameKind)},names.lookup x=ju .globalImplicit ->
  (names.map λ(n,k)=>if(k==NameKind.free&&env.scope.kind==.function&&env.kindOf n==ju .cell)then(n,NameKind.cell)else(n,k)).lookup x=ju .globalImplicit
 |[],h=>by cases h
 |(n,j)::r,h=>by
  have ih:=@Ld env x r;show List.lookup x ((if(j==NameKind.free&&env.scope.kind==.function&&env.kindOf n==ju .cell)=jx then(n,NameKind.cell)else(n,j))::_)=_;cases hx:x==n with
  |true=>simp only[QW,hx]at h;cases h;rw[if_neg (by simp)];simp[List.lookup_cons,hx]
  |false=>
   simp only[QW,hx]at h;by_cases hc:(j==NameKind.free&&env.scope.kind==.function&&env.kindOf n==ju .cell)=jx
   .rw[Qo hc];simp only[QW,hx];exact ih h
   .rw[QC hc];simp only[QW,hx];exact ih h
def Cx.blk(X:Cx)(N':List Str)(scope:Scope)(cl:List (Str×Uh))(C:Uh)(s₀:Uf)(H₀:Hp)(ex:jH):Cx:=
 {X with N:=N',s₀:=s₀,H₀:=H₀,env:=compEnvC scope cl C X.env,outer:=X.stack,ex:=ex,fn:=λ_=>jy,xe:=λ_ _=>False}
section
variable{X:Cx}{N':List Str}{scope:Scope}{cl:List (Str×Uh)}{C:Uh}{s₀:Uf}{H₀:Hp}{ex:jH}{x:Str}
theorem Ef(h:scope.names.lookup x=ju .local∨scope.names.lookup x=ju .free):Vis (X.blk N' scope cl C s₀ H₀ ex).env.scope x:=by
 rcases h with h|h
 .exact .inl (lookup_relabel_local h)
 .rcases Lp (env:=X.env) h with z|z
  .exact .inr (.inr z)
  .exact .inr (.inl z)
theorem Ee(h:scope.names.lookup x=ju .local):Loc (X.blk N' scope cl C s₀ H₀ ex).env.scope x:=.inl (lookup_relabel_local h)
theorem Ge(h:scope.names.lookup x=ju .local):(X.blk N' scope cl C s₀ H₀ ex).env.scope.names.lookup x=ju .local:=lookup_relabel_local h
theorem Gd(h:scope.names.lookup x=ju .globalImplicit):Gl (X.blk N' scope cl C s₀ H₀ ex) x:=Ld h
end
def Sw(names:List (Str×NameKind))(N N2:List Str)(k:Nat):Bool:=
 N2.length==N.length+k&&(Up N2.length).all λi=>match N2[i]? with
  |none=>jx
  |some x=>match names.lookup x with
   |some .free=>N[i]?==ju x
   |some .local=>decide (N.length<=i)&&decide (i<N.length+k)
   |some .cell=>jy
   |_=>jx
theorem qV{names:List (Str×NameKind)}{N N2:List Str}{k:Nat}(h:Sw names N N2 k=jx) :
  N2.length=N.length+k/\∀(i:Nat) x,N2[i]?=ju x->(names.lookup x=ju .free->N[i]?=ju x)/\(names.lookup x=ju .local->N.length<=i/\i<N.length+k):=by
 unfold Sw at h;simp only[QS,beq_iff_eq,Jc,Je]at h;refine⟨h.1,λi x e=>?_⟩;have hi:=(Qh.mp e).1;have:=h.2 i hi;rw[e]at this;refine⟨λq=>?_,λq=>?_⟩
 .simp only[q]at this
  simpa using this
 .simp only[q]at this
  simpa using this
theorem Inv.enter{X:Cx}{pins:List (Uh×Obj)}{σ:St}{H:Hp}{s3:Uf}(I:Inv X pins σ H s3){scope:Scope}{cl:List (Str×Uh)}{N2:List Str}{k:Nat}{h':Heap}{fp:jH}{t':Nat}{m0:Str->jE}
  (hb:Sw scope.names X.N N2 k=jx) (hkind:scope.kind=.function) (hcell:∀y∈scope.names,y.2≠.cell)
  (hfree:∀y∈scope.names,y.2=.free->X.env.scope.names.lookup y.1=ju .cell∨X.env.scope.names.lookup y.1=ju .free)
  (kB:∀x c,cl.lookup x=ju c->X.env.cells.lookup x=ju c) (xM:∀y∈scope.names,y.2=.free->∃c,cl.lookup y.1=ju c)
  (hn:h'.Ns s3.heap.objs.size m0) (hk:∀b o,s3.heap.get? b=ju o->h'.get? b=ju o) (hf:∀b∈fp,KY X pins H b) (hfo:∀b∈fp,∃o,s3.heap.get? b=ju o) :
  Inv (X.blk N2 scope cl s3.heap.objs.size s3 H fp) pins (σ++Uq k jw) H {s3 with heap:=h',toks:=t'}:=by
 obtain⟨hl,hN⟩:=qV hb;have lt:∀b o,s3.heap.get? b=ju o->b≠s3.heap.objs.size:=λb o e=>QH (Qj e);have ofl:∀x,scope.names.lookup x=ju .free->(x,NameKind.free)∈scope.names:=λx h=>mem_of_lookup h;have kinv:∀x kk,(X.blk N2 scope cl s3.heap.objs.size s3 H fp).env.scope.names.lookup x=ju kk->scope.names.lookup x=ju kk∨(scope.names.lookup x=ju .free/\kk=.cell):=λx kk h=>Lx (env:=X.env) h
 have isfree:∀x,(X.blk N2 scope cl s3.heap.objs.size s3 H fp).env.scope.names.lookup x=ju .cell∨(X.blk N2 scope cl s3.heap.objs.size s3 H fp).env.scope.names.lookup x=ju .free->scope.names.lookup x=ju .free:=λx h=>by
  rcases h with h|h
  .rcases kinv x _ h with z|z
   .exact absurd jv (hcell _ (mem_of_lookup z))
   .exact z.1
  .rcases kinv x _ h with z|z
   .exact z
   .exact z.1
 have ok:(X.blk N2 scope cl s3.heap.objs.size s3 H fp).Ok:=
  {
   mod:=I.ok.mod
   kind:=hkind
   glob:=I.ok.glob
   blt:=I.ok.blt
   above:=Qq _
   inj:=λx y c a b=>I.ok.inj x y c (kB x c a) (kB y c b)
   has:=λx h=>xM (x,.free) (ofl x (isfree x h)) jv
   cab:=λx c h=>by cases h
   hd:=I.ok.hd
   frames:=I.ok.frames
   stk:=.inl jv
   exf:=λb hb=>⟨let ⟨o,e⟩:=hfo b hb;lt b o e,λx c e=>(hf b hb).2.2.2.2.1 x c (kB x c e)⟩
   bs:=I.bs
   bsz:=QP I.ok.bsz I.sz
   noex:=λb o e hb=>by
    rcases(hf b hb).2.2.2.1 with z|z
    .exact I.ok.noex b o e z
    .exact absurd (QE (Qj e) (QP I.ok.bsz z)) (Jg _)
   exfs:=λb hb hx=>by
    rcases Ql.mp (I.stkSub b hx)with z|z
    .exact(hf b hb).2.1 z
    .exact(hf b hb).2.2.1 z
   funs:=I.stack
   frf:=I.stkFree}
 refine⟨ok,rfl,I.bare,Un.kept hk,⟨m0,hn,λi x v e1 e2 e3=>?_⟩,λx c e=>?_,I.hok.fresh (Qq _),λx c e=>I.freeC x c (kB x c e),λp hp=>?_,I.hok.kept hk,?_⟩
 .have nl:scope.names.lookup x≠ju .local:=λz=>by
   obtain⟨g1,g2⟩:=(hN i x e1).2 z;rw[←I.len]at g1 g2;rw[Qs g1,Qw]at e2;split at e2<;>cases e2
  have fr:scope.names.lookup x=ju .free:=by
   rcases e3 with z|z|z
   .rcases kinv x _ z with q|q
    .exact absurd q nl
    .cases q.2
   .exact isfree x (.inl z)
   .exact isfree x (.inr z)
  have eN:=(hN i x e1).1 fr;have hi:i<σ.length:=by rw[I.len];exact(Qh.mp eN).1
  rw[Qr hi]at e2;obtain⟨m,hm,xn⟩:=I.loc;have hkd:=hfree _ (ofl x fr) jv;obtain⟨u,r,l⟩:=xn i x v eN e2 (.inr hkd);refine⟨u,r,.inr ⟨?_,?_⟩⟩
  .rcases e3 with z|z|z
   .rcases kinv x _ z with q|q
    .exact absurd q nl
    .cases q.2
   .exact .inl z
   .exact .inr z
  .rcases l with l|⟨_,c,ec,z⟩
   .have:X.env.scope.names.lookup x=ju .local:=l.1
    rcases hkd with q|q<;>(dsimp only at q;rw[this]at q;cases q)
   .obtain⟨c',ec'⟩:=xM _ (ofl x fr) jv
    have:=kB _ _ ec';dsimp only at this ec';rw[ec]at this;cases this;obtain⟨o,ho,hd⟩:=z;exact⟨c,ec',o,hk c o ho,hd⟩
 .obtain⟨v,o,ho,hd⟩:=I.cell x c (kB x c e)
  exact⟨v,o,hk c o ho,hd⟩
 .obtain⟨e,n,ne,nf,d⟩:=I.pin p hp
  refine⟨hk _ _ e,n,lt _ _ e,λz=>?_,d⟩;rcases Ql.mp (I.stkSub _ z)with q|q
  .exact ne q
  .exact nf q
 .rw[Qi,QB,I.len]
  exact hl.symm
abbrev nox:Ue->Uf->Prop:=λ_ _=>False
def Vd(prog:Ug)(w:World)(A:Around)(tg:Uj)(ifs:jF)(env:Env)(it:Ue)(code:Code)(W:(Uf->Prop)->Uf->Prop):Prop:=
 ∀(R:Result->Uf->Prop)(I:Nat->Uf->Prop)(n:Nat)(s:Uf),I n s ->
  (∀n s,I n s->Ul (model prog w) A (pyNext it) (λr s₁=>match r with
   |none=>R (.ok .next) s₁
   |some v=>Ul (model prog w) A (letOwnedTupleGo tg it v) (λ_ s₁'=>Ul (model prog w) A (assign tg env v) (λ_ s₂=>
     Ul (model prog w) A (forIn ifs jx λc r=>if r=jx then do let ok ←isTrue c env (eval c env);pure (ForInStep.yield ok)else pure (ForInStep.yield r)) (λok s₃=>
      if ok=jx then W (λs₅=>∃m,m<n/\I m s₅) s₃ else ∃m,m<n/\I m s₃) nox s₂) nox s₁') nox s₁) nox s)->codeAny (model prog w) A code R s
section
variable{prog:Ug}{w:World}{A:Around}{elt tg i:Uj}{ifs:jF}{gens:List Comprehension}{scope:Scope}{pos:Pos}{it acc:Ue}{env:Env}{j:Nat}
theorem BR(hg:gens[j]?=ju ⟨tg,i,ifs,0⟩)(hn:gens[j+1]?=jw):Vd prog w A tg ifs env it (.compLoop (.ListComp elt gens scope pos) j it acc env)
  (λQ s=>Ul (model prog w) A (eval elt env) (λx s₄=>Ul (model prog w) A (call (.builtin "list.append") [acc,x]) (λ_ s₅=>Q s₅) nox s₄) nox s):=by
 intro R I n s h turn;refine codeAny_loop jv I (λn s hI=>?_) n h;show Ul _ A ((compTurn (.ListComp elt gens scope pos) j it acc env).onRaise (λx=>do noteFrame x env;theTreesLotGoes x)) _ _ s;refine wpAny_noted ?_;unfold compTurn;dsimp only;simp only[hg,hn];refine Qd (Q3 (Qd (Qv (turn n s hI) (λr s₁ h₁=>?_) λ_ _ h'=>h'.elim)));cases r with
 |none=>exact Qk h₁
 |some v=>
  refine Qd (Qv h₁ (λ_ s₁' h₁'=>?_) λ_ _ h'=>h'.elim);refine Qd (Qv h₁' (λ_ s₂ h₂=>Qd (Qv h₂ (λok s₃ h₃=>?_) λ_ _ h'=>h'.elim)) λ_ _ h'=>h'.elim);cases ok with
  |false=>exact Qk ⟨rfl,h₃⟩
  |true=>exact Qd (Qd (Qv h₃ (λx s₄ h₄=>Qd (Qv h₄ (λ_ s₅ h₅=>Qk (Qk ⟨rfl,h₅⟩)) λ_ _ h'=>h'.elim)) λ_ _ h'=>h'.elim))
theorem BQ{kC i1:Uj}{ifs1:jF}(hg:gens[j]?=ju ⟨tg,i,ifs,0⟩)(hn:gens[j+1]?=ju ⟨kC,i1,ifs1,0⟩)(hs:∀x,UD i1 env x=pure x):Vd prog w A tg ifs env it (.compLoop (.ListComp elt gens scope pos) j it acc env)
  (λQ s=>Ul (model prog w) A (eval i1 env) (λx s₄=>Ul (model prog w) A (pyIter x) (λjW s₅=>codeAny (model prog w) A (.compStart (.ListComp elt gens scope pos) (j+1) jW acc env)
   (λr s₆=>match r with | .ok _=>Q s₆ | .error _=>False) s₅) nox s₄) nox s):=by
 intro R I n s h turn;refine codeAny_loop jv I (λn s hI=>?_) n h;show Ul _ A ((compTurn (.ListComp elt gens scope pos) j it acc env).onRaise (λx=>do noteFrame x env;theTreesLotGoes x)) _ _ s;refine wpAny_noted ?_;unfold compTurn;dsimp only;simp only[hg,hn];refine Qd (Q3 (Qd (Qv (turn n s hI) (λr s₁ h₁=>?_) λ_ _ h'=>h'.elim)));cases r with
 |none=>exact Qk h₁
 |some v=>
  refine Qd (Qv h₁ (λ_ s₁' h₁'=>?_) λ_ _ h'=>h'.elim);refine Qd (Qv h₁' (λ_ s₂ h₂=>Qd (Qv h₂ (λok s₃ h₃=>?_) λ_ _ h'=>h'.elim)) λ_ _ h'=>h'.elim);cases ok with
  |false=>exact Qk ⟨rfl,h₃⟩
  |true=>
   refine Qd (Qv h₃ (λx s₄ h₄=>Qd (Q3 (Qd (wpAny_of_eq (hs x) (Qd (Js (Qv h₄ (λjW s₅ h₅=>?_) λ_ _ h'=>h'.elim))))))) λ_ _ h'=>h'.elim);refine Qd (wpAny_runOwn (Jl h₅ λr s₆ h₆=>?_));cases r with
   |ok f=>exact Qk ⟨rfl,h₆⟩
   |error x=>exact h₆.elim
theorem qU{R:Result->Uf->Prop}{s:Uf}(hg:gens[j]?=ju ⟨tg,i,ifs,0⟩)
  (h0:codeAny (model prog w) A (.compLoop (.ListComp elt gens scope pos) j it acc env) R s)
  (h:Ul (model prog w) A (pyIter it) (λit' s'=>codeAny (model prog w) A (.compLoop (.ListComp elt gens scope pos) j it' acc env) R s') nox s) :
  codeAny (model prog w) A (.compStart (.ListComp elt gens scope pos) j it acc env) R s:=by
 refine codeAny_of_tree ?_;show Ul _ _ ((compStart (.ListComp elt gens scope pos) j it acc env).onRaise (λx=>do noteFrame x env;standAt theWindowsPlace)) _ _ s;refine wpAny_notedAt ?_;unfold compStart;have hc:(clausesOf (.ListComp elt gens scope pos))[j]?=ju ⟨tg,i,ifs,0⟩:=hg;simp only[hc];show Ul _ _ (ask >>= _) _ _ s;refine Qd (wpAny_askSetting (wpAny_ite ?_));split
 .first
   |exact Qd (Qk (Qk (And.intro rfl h0)))
   |exact Qk (And.intro rfl h0)
 .first
   |exact Qd (wpAny_rule (Qd (Q3 (Qd (Qv h (λit' s' h'=>Qk (And.intro rfl h')) λ_ _ x=>x.elim)))))
   |(refine Qd (wpAny_rule ?_);show Ul _ _ (standAt _ >>= _) _ _ s;exact Qd (Q3 (Qd (Qv h (λit' s' h'=>Qk (And.intro rfl h')) λ_ _ x=>x.elim))))
end
end L2
namespace DL
open PySem PySem.Spec L2
open PyProof.Rows hiding St
def XE:Option Sl->Option Sl
 |some (.own _)=>jw
 |some (.deep _ _)=>jw
 |x=>x
def Kf(Z:UF):UF:=Z.map XE
theorem BP{Z:UF}{i:Nat}{d:D}(h:(Kf Z)[i]?=ju (ju (.pub d))):Z[i]?=ju (ju (.pub d)):=by
 unfold Kf at h;rw[Qf]at h;cases e:Z[i]? with
 |none=>rw[e]at h;cases h
 |some o=>
  rw[e]at h;cases o with
  |none=>cases h
  |some sl=>cases sl with
   |pub d'=>cases h;rfl
   |own ds=>cases h
   |deep p d'=>cases h
theorem X8{Z:UF}{i:Nat}{ds:jz}(h:(Kf Z)[i]?=ju (ju (.own ds))):False:=by
 unfold Kf at h;rw[Qf]at h;cases e:Z[i]? with
 |none=>rw[e]at h;cases h
 |some o=>
  rw[e]at h;cases o with
  |none=>cases h
  |some sl=>cases sl with
   |pub d'=>cases h
   |own ds=>cases h
   |deep p d'=>cases h
theorem P6{Z:UF}{i:Nat}{p:Pat}{d:D}(h:(Kf Z)[i]?=ju (ju (.deep p d))):False:=by
 unfold Kf at h;rw[Qf]at h;cases e:Z[i]? with
 |none=>rw[e]at h;cases h
 |some o=>
  rw[e]at h;cases o with
  |none=>cases h
  |some sl=>cases sl<;>cases h
def KB(s:D->UF->jG)(t:M Bool)(g:M D):jz->UF->jz->Option jz
 |[],_,es=>ju es
 |d::r,Z,es=>match s d Z with
  |none=>jw
  |some Z1=>match t Z1 with
   |.bad=>jw
   |.ok b Z2=>if b=jx then(match g Z2 with
     |.bad=>jw
     |.ok e Z3=>if es.length<1000000 then KB s t g r (Kf Z3) (es++[e])else jw)
    else KB s t g r (Kf Z2) es
def Zw(f:M jz)(k:Nat)(s:D->UF->jG)(t:M Bool)(g:M D):M jz:=λZ=>match f Z with
 |.bad=>.bad
 |.ok ds Z1=>match KB s t g ds (Kf Z1++Uq k jw) []with
  |none=>.bad
  |some es=>.ok es Z1
def ZU(X:Cx)(ifs:jF)(t:TT):Prop:=
 ∀(pins:List (Uh×Obj))(s:Uf)(σ:St)(H:Hp)(Q:Bool->Hp->Prop),Inv X pins σ H s->t σ H Q ->
  Ul (model X.prog X.w) X.A (forIn ifs jx λc r=>if r=jx then do let ok ←isTrue c X.env (eval c X.env);pure (ForInStep.yield ok)else pure (ForInStep.yield r)) (TP X pins σ Q) X.xe s
section
variable{X:Cx}{B G0:Hp}
theorem Ed:ZU X [] (tBo X.K B G0 (UL jx)):=λpins s σ H Q I ⟨G,Z,k,a⟩=>wpAny_tests_nil ⟨H,I,a jx G H k (.refl _) jv⟩
theorem Ec{c:Uj}{t:M Bool}(h:PT X c (tBo X.K B G0 t)):ZU X [c] (tBo X.K B G0 t):=λpins s σ H Q I q=>wpAny_tests_one (h pins s σ H Q I q)
theorem EOk.rebase{K:Frag}{G H:Hp}{σ:St}{Z:UF}(k:EOk K B G0 G H σ Z):EOk K H G G H σ (Kf Z) where
 bh:=.refl _
 gh:=k.gh
 g0:=.refl _
 np:=λ_ _ _ n=>n
 len:=by unfold Kf;rw[Qb];exact k.len
 pub:=λi d q=>k.pub i d (BP q)
 own:=λi ds q=>(X8 q).elim
 sep:=λi j a ds es q=>(X8 q).elim
 dp:=.of (λ_ _ _ q=>P6 q) λ_ _ q=>X8 q
theorem EOk.more{K:Frag}{G H:Hp}{σ:St}{Z:UF}(k:EOk K H G G H σ (Kf Z))(n:Nat):EOk K H G G H (σ++Uq n jw) (Kf Z++Uq n jw) where
 bh:=.refl _
 gh:=k.gh
 g0:=.refl _
 np:=λ_ _ _ n=>n
 len:=by rw[Qi,Qi,k.len,QB,QB]
 pub:=λi d q=>by
  by_cases hi:i<(Kf Z).length
  .rw[Qr hi]at q
   rw[Qr (by rw[←k.len];exact hi)];exact k.pub i d q
  .rw[Qs (QZ hi),Qw]at q
   split at q<;>cases q
 own:=λi ds q=>by
  by_cases hi:i<(Kf Z).length
  .rw[Qr hi]at q
   exact(X8 q).elim
  .rw[Qs (QZ hi),Qw]at q
   split at q<;>cases q
 sep:=λi j a ds es q=>by
  by_cases hi:i<(Kf Z).length
  .rw[Qr hi]at q
   exact(X8 q).elim
  .rw[Qs (QZ hi),Qw]at q
   split at q<;>cases q
 dp:=by
  refine .of (λi p d q=>?_) λi ds q=>?_
  .by_cases hi:i<(Kf Z).length
   .rw[Qr hi]at q;exact P6 q
   .rw[Qs (QZ hi),Qw]at q;split at q<;>cases q
  .by_cases hi:i<(Kf Z).length
   .rw[Qr hi]at q;exact X8 q
   .rw[Qs (QZ hi),Qw]at q;split at q<;>cases q
theorem EOk.beside{K:Frag}{G H:Hp}{σ:St}{Z:UF}{a:Uh}{o:HO}(k:EOk K B G0 G H σ Z)(hg:G a=jw):EOk K (upd H a o) G G (upd H a o) σ (Kf Z) where
 bh:=.refl _
 gh:=λb u e=>by rw[Kn (λz=>by subst z;rw[hg]at e;cases e)];exact k.gh b u e
 g0:=.refl _
 np:=λ_ _ _ n=>n
 len:=k.rebase.len
 pub:=k.rebase.pub
 own:=λi ds q=>(X8 q).elim
 sep:=λi j a ds es q=>(X8 q).elim
 dp:=.of (λ_ _ _ q=>P6 q) λ_ _ q=>X8 q
theorem lim1:1000000<=Uk:=lim
def RT:Option Sl->Option Sl
 |some (.own ds)=>ju (.pub (.list ds))
 |some (.deep _ d)=>ju (.pub d)
 |x=>x
def K7(Z:UF):UF:=Z.map RT
theorem MD{Z:UF}{i:Nat}{d:D}(h:(K7 Z)[i]?=ju (ju (.pub d))):Z[i]?=ju (ju (.pub d))∨(∃ds,d=.list ds/\Z[i]?=ju (ju (.own ds))) ∨ ∃p,Z[i]?=ju (ju (.deep p d)):=by
 unfold K7 at h;rw[Qf]at h;cases e:Z[i]? with
 |none=>rw[e]at h;cases h
 |some o=>
  rw[e]at h;cases o with
  |none=>cases h
  |some sl=>cases sl with
   |pub d'=>cases h;exact .inl jv
   |own ds=>cases h;exact .inr (.inl ⟨ds,rfl,rfl⟩)
   |deep p d'=>cases h;exact .inr (.inr ⟨p,rfl⟩)
theorem TX{Z:UF}{i:Nat}{ds:jz}(h:(K7 Z)[i]?=ju (ju (.own ds))):False:=by
 unfold K7 at h;rw[Qf]at h;cases e:Z[i]? with
 |none=>rw[e]at h;cases h
 |some o=>
  rw[e]at h;cases o with
  |none=>cases h
  |some sl=>cases sl with
   |pub d'=>cases h
   |own ds=>cases h
   |deep p d'=>cases h
theorem Lc{Z:UF}{i:Nat}{p:Pat}{d:D}(h:(K7 Z)[i]?=ju (ju (.deep p d))):False:=by
 unfold K7 at h;rw[Qf]at h;cases e:Z[i]? with
 |none=>rw[e]at h;cases h
 |some o=>
  rw[e]at h;cases o with
  |none=>cases h
  |some sl=>cases sl<;>cases h
def flat:D->Bool
 |.none=>jx | .bool _=>jx | .int _=>jx | .str _=>jx|_=>jy
theorem Rep.flat{K:Frag}{G G':Hp}{v:V}{d:D}(r:Rep K G v d)(h:DL.flat d=jx):Rep K G' v d:=by
 cases r with
 |non=>exact .non
 |bl b=>exact .bl b
 |int i=>exact .int i
 |str x=>exact .str x
 |lst _ _=>cases h
 |tup _ _=>cases h
 |dic _=>cases h
 |exc _ _ _ _=>cases h
 |dct _ _ _ _ _=>cases h
 |dtt _ _ _ _=>cases h
theorem Reps.flat{K:Frag}{G G':Hp}:∀{vs:List V}{ds:jz},Reps K G vs ds->ds.all DL.flat=jx->Reps K G' vs ds
 |_,_,.nil,_=>.nil
 |_,_,.cons r t,h=>by rw[List.all_cons,QS]at h;exact .cons (r.flat h.1) (Reps.flat t h.2)
theorem EOk.lend{K:Frag}{B G0 G H:Hp}{σ:St}{Z:UF}{D:Uh}{o:HO}(k:EOk K B G0 G H σ Z)(hD:H D=jw)(n:Nat):EOk K (upd H D o) H H (upd H D o) (σ++Uq n jw) (K7 Z++Uq n jw) where
 bh:=.refl _
 gh:=Zj hD
 g0:=.refl _
 np:=λ_ _ _ n=>n
 len:=by unfold K7;rw[Qi,Qi,Qb,k.len,QB,QB]
 pub:=λi d q=>by
  have hl:(K7 Z).length=Z.length:=by unfold K7;rw[Qb]
  by_cases hi:i<(K7 Z).length
  .rw[Qr hi]at q
   rw[Qr (by rw[←k.len,←hl];exact hi)];rcases MD q with e|⟨ds,rfl,e⟩|⟨p,e⟩
   .obtain⟨v,h1,h2⟩:=k.pub i d e
    exact⟨v,h1,h2.mono k.gh⟩
   .obtain⟨a,vs,h1,h2,h3,h4,h5⟩:=k.own i ds e
    exact⟨.ref a,h1,.lst (SqL.of h4) (h5.mono k.gh)⟩
   .obtain⟨ω,k1,k2⟩:=k.dp
    obtain⟨v,fp,s,r,_⟩:=k1 i p d e;exact⟨v,s,r.rep k.gh⟩
  .rw[Qs (QZ hi),Qw]at q
   split at q<;>cases q
 own:=λi ds q=>by
  by_cases hi:i<(K7 Z).length
  .rw[Qr hi]at q
   exact(TX q).elim
  .rw[Qs (QZ hi),Qw]at q
   split at q<;>cases q
 sep:=λi j a ds es q=>by
  by_cases hi:i<(K7 Z).length
  .rw[Qr hi]at q
   exact(TX q).elim
  .rw[Qs (QZ hi),Qw]at q
   split at q<;>cases q
 dp:=by
  refine .of (λi p d q=>?_) λi ds q=>?_
  .by_cases hi:i<(K7 Z).length
   .rw[Qr hi]at q;exact Lc q
   .rw[Qs (QZ hi),Qw]at q;split at q<;>cases q
  .by_cases hi:i<(K7 Z).length
   .rw[Qr hi]at q;exact TX q
   .rw[Qs (QZ hi),Qw]at q;split at q<;>cases q
def Tx(f:M jz)(k:Nat)(s:D->UF->jG)(t:M Bool)(g:M D):M jz:=λZ=>match f Z with
 |.bad=>.bad
 |.ok ds Z1=>match KB s t g ds (K7 Z1++Uq k jw) []with
  |none=>.bad
  |some es=>if es.all flat=jx then .ok es Z1 else .bad
end
def X1(s:D->UF->jG)(t:M Bool)(g:M D):jz->UF->jz->Option (jz×UF)
 |[],Z,es=>ju (es,Z)
 |d::r,Z,es=>match s d Z with
  |none=>jw
  |some Z1=>match t Z1 with
   |.bad=>jw
   |.ok b Z2=>if b=jx then(match g Z2 with
     |.bad=>jw
     |.ok e Z3=>if es.length<1000000 then X1 s t g r (Kf Z3) (es++[e])else jw)
    else X1 s t g r (Kf Z2) es
def Xg(s0:D->UF->jG)(t0:M Bool)(f1:M jz)(s1:D->UF->jG)(t1:M Bool)(g:M D):jz->UF->jz->Option jz
 |[],_,es=>ju es
 |d::r,Z,es=>match s0 d Z with
  |none=>jw
  |some Z1=>match t0 Z1 with
   |.bad=>jw
   |.ok b Z2=>if b=jx then(match f1 Z2 with
     |.bad=>jw
     |.ok ds Z3=>match X1 s1 t1 g ds (Kf Z3) es with
      |none=>jw
      |some (es',Z4)=>Xg s0 t0 f1 s1 t1 g r Z4 es')
    else Xg s0 t0 f1 s1 t1 g r (Kf Z2) es
def Sg(f:M jz)(k:Nat)(s:D->UF->jG)(t:M Bool)(f1:M jz)(s1':D->UF->jG)(t1':M Bool)(g:M D):M jz:=λZ=>match f Z with
 |.bad=>.bad
 |.ok ds Z1=>match Xg s t f1 s1' t1' g ds (Kf Z1++Uq k jw) []with
  |none=>.bad
  |some es=>.ok es Z1
abbrev RdB:=UF->jz->Option (jz×UF)
def rL(g:M D):RdB:=λZ es=>match g Z with
 |.bad=>jw
 |.ok e Z3=>if es.length<1000000 then ju (es++[e],Kf Z3)else jw
def cT(s:D->UF->jG)(t:M Bool)(rd:RdB):jz->UF->jz->Option (jz×UF)
 |[],Z,es=>ju (es,Z)
 |d::r,Z,es=>match s d Z with
  |none=>jw
  |some Z1=>match t Z1 with
   |.bad=>jw
   |.ok b Z2=>if b=jx then(match rd Z2 es with
     |none=>jw
     |some (es',Z')=>cT s t rd r Z' es')
    else cT s t rd r (Kf Z2) es
def rN(f:M jz)(s:D->UF->jG)(t:M Bool)(rd:RdB):RdB:=λZ es=>match f Z with
 |.bad=>jw
 |.ok ds Z3=>cT s t rd ds (Kf Z3) es
structure Left(Y:Cx)(D':Uh)(pins:List (Uh×Obj))(H G:Hp)(es':jz)(Z':UF)(σ':St)(H' G':Hp)(vs':List V)(s':Uf):Prop where
 inv:Inv Y pins σ' H' s'
 eok:EOk Y.K H' G' G' H' σ' Z'
 hh:∀a o,a≠D'->H a=ju o->H' a=ju o
 gg:Same G G'
 np:∀a(u:MO),a≠D'->H a=ju u.ho->G a=jw->G' a=jw
 hd:H' D'=ju (.lst vs')
 gd:G' D'=jw
 rp:Reps Y.K G' vs' es'
def T8(Y:Cx)(D':Uh)(W:(Uf->Prop)->Uf->Prop)(rd:RdB):Prop:=
 ∀(pins:List (Uh×Obj))(sh:Uf)(σ:St)(B1 G1 H G:Hp)(Z Z':UF)(vs:List V)(es es':jz)(Q:Uf->Prop),
  Inv Y pins σ H sh->EOk Y.K B1 G1 G H σ Z->B1 D'=ju (.lst vs)->G1 D'=jw->Reps Y.K G1 vs es->rd Z es=ju (es',Z') ->
  (∀σ' H' G' vs' s',Left Y D' pins B1 G1 es' Z' σ' H' G' vs' s'->Q s')->W Q sh
section
variable{Y:Cx}{D':Uh}
theorem BO{elt:Uj}{g:M D}(hx:Y.xe=nox)(he:∀B1 G1,PE Y elt (tD Y.K B1 G1 g)) :
  T8 Y D' (λQ s=>Ul (model Y.prog Y.w) Y.A (eval elt Y.env) (λx s₄=>Ul (model Y.prog Y.w) Y.A (call (.builtin "list.append") [.ref D',x]) (λ_ s₅=>Q s₅) nox s₄) nox s) (rL g):=by
 intro pins sh σ B1 G1 H G Z Z' vs es es' Q I k hD gD r z fin;unfold rL at z;cases zg:g Z with
 |bad=>rw[zg]at z;cases z
 |ok e Z4=>
 rw[zg]at z;dsimp only at z;split at z
 .rename_i hle
  cases z;have h:=he B1 G1 pins sh σ H (λv H8=>∃G8,EOk Y.K B1 G1 G8 H8 σ Z4/\Rep Y.K G8 v e) I ⟨G,Z,k,by unfold aft;rw[zg];exact λv G8 H8 k8 _ q=>⟨G8,k8,q⟩⟩;rw[hx]at h;refine thn h λev s8 ⟨v,H8,I8,rv,G8,k8,r8⟩=>?_;have h2:=ME pins s8 σ H8 (.ref D') [v] (.ref D') [ev] (λ_ H9=>H9=upd H8 D' (.lst (vs++[v]))) I8 jv (.cons rv .nil) ⟨D',vs,v,rfl,rfl,k8.bh _ _ hD,by have:=lim1;rw[r.length];omega,rfl⟩
  rw[hx]at h2;refine thn h2 λ_ s9 ⟨_,H9,I9,_,e9⟩=>?_;subst e9;have g8:=k8.np _ (.l _) hD gD;exact fin σ _ G8 _ s9 ⟨I9,k8.beside g8,λa o z q=>by rw[Kn z];exact k8.bh a o q,k8.g0,λa o _ q w=>k8.np a o q w,KP,g8,(r.mono k8.g0).append (.cons r8 .nil)⟩
 .cases z
theorem Mk{tg:Uj}{ifs:jF}{code:Code}{W:(Uf->Prop)->Uf->Prop}{s:D->UF->jG}{t:M Bool}{rd:RdB}{it:Uh}(hx:Y.xe=nox)(hc:Y.calm=jx)(rule:Vd Y.prog Y.w Y.A tg ifs Y.env (.ref it) code W)
  (hg:∀B1 G1,PG Y tg (tG Y.K B1 G1 s)) (ht:∀B1 G1,ZU Y ifs (tBo Y.K B1 G1 t)) (hb:T8 Y D' W rd)
  {pins:List (Uh×Obj)} {sh:Uf} {σ:St} {H G:Hp} {Z ZF:UF} {fp:jH} {tn:Nat->Heap->Prop} {J:It} {ds es esF:jz} {vs:List V} {R:Result->Uf->Prop}
  (I:Inv Y pins σ H sh) (T:Turn Y.prog Y.w Y.K tg J fp it tn) (st:tn 0 sh.heap) (hf:∀b∈fp,KY Y pins H b)
  (k:EOk Y.K H G G H σ Z) (its:YL Y.K J ds G) (hD:H D'=ju (.lst vs)) (gD:G D'=jw) (r:Reps Y.K G vs es) (zl:cT s t rd ds Z es=ju (esF,ZF))
  (kL:∀σ' H' G' vs' s',Left Y D' pins H G esF ZF σ' H' G' vs' s'->R (.ok .next) s'):codeAny (model Y.prog Y.w) Y.A code R sh:=by
 have stat:∀{H':Hp},(∀b∈fp,H' b=jw)->∀b∈fp,KY Y pins H' b:=λhn b hb=>⟨hn b hb,(hf b hb).2⟩
 refine rule R (λn s'=>∃i σ' H' G' Z' vs' es',n=ds.length-i/\tn i s'.heap/\(∀b∈fp,H' b=jw)/\Left Y D' pins H G es' Z' σ' H' G' vs' s'/\cT s t rd (ds.drop i) Z' es'=ju (esF,ZF)) ds.length sh
  ⟨0,σ,H,G,Z,vs,es,rfl,st,λb hb=>(hf b hb).1,⟨I,k,λ_ _ _ q=>q,.refl _,λ_ _ _ _ n=>n,hD,gD,r⟩,by rw[List.drop_zero];exact zl⟩ ?_
 rintro n s' ⟨i,σ',H',G',Z',vs',es',rfl,xO,vj,⟨I',k',kE,kn,xg,jV,gD',r'⟩,zc⟩;by_cases hlt:i<ds.length
 .rw[JL hlt,cT]at zc
  cases zs:s ds[i] Z' with
  |none=>rw[zs]at zc;cases zc
  |some Z2=>
  rw[zs]at zc;dsimp only at zc;cases zt:t Z2 with
  |bad=>rw[zt]at zc;cases zc
  |ok b Z3=>
  rw[zt]at zc;dsimp only at zc;refine thn (T.item Y jv jv jv hc i pins s' σ' H' nox I' (stat vj) xO (its.go i G' H' kn k'.gh hlt)) λrr s4 ⟨u,hr,h4⟩=>?_;subst hr;refine thn h4 λ_ s5 ⟨x,H5,I5,r5,y5,j4,vi⟩=>?_
  obtain⟨G5,e5,rx⟩:=its.yld i G' H' x H5 ds[i] kn k'.gh (Qe hlt) y5;have h6:=hg H' G' _ s5 σ' H5 x u (λσ6 H6=>∃G6,EOk Y.K H' G' G6 H6 σ6 Z2) (I5.pinned (stat vi) (T.obj _ _ j4)) r5 ⟨G5,Z',ds[i],Z2,k'.ext e5,rx,zs,λσ6 G6 H6 k6 _=>⟨G6,k6⟩⟩;rw[hx]at h6;refine thn h6 λ_ s6 ⟨σ6,H6,I6,G6,k6⟩=>?_;have h7:=ht H' G' _ s6 σ6 H6 (λc H7=>c=b/\∃G7,EOk Y.K H' G' G7 H7 σ6 Z3) I6 ⟨G6,Z2,k6,by unfold aft;rw[zt];exact λc G7 H7 k7 _ q=>⟨q,G7,k7⟩⟩
  rw[hx]at h7;refine thn h7 λok s7 ⟨H7,I7,hb7,G7,k7⟩=>?_;subst hb7
  have again:∀{H9:Hp}{σ9:St}{s9:Uf},Inv Y (pins++Tz fp s5.heap) σ9 H9 s9->Inv Y pins σ9 H9 s9/\tn (i+1) s9.heap/\∀b∈fp,H9 b=jw:=λ{H9 σ9 s9} I9=>by refine⟨I9.unpinned,T.keep _ _ _ j4 λb hb o e=>(I9.pin (b,o) (QF _ (QF _ (TU hb e)))).1,λb hb=>?_⟩;obtain⟨o,e,d⟩:=T.obj _ _ j4 b hb;exact(I9.pin (b,o) (QF _ (QF _ (TU hb e)))).2.1
  have lt:ds.length-(i+1)<ds.length-i:=Nat.sub_lt_sub_left hlt (Nat.lt_succ_self i);cases ok with
  |false=>rw[QC (by decide)]at zc⊢;obtain⟨J1,J2,J3⟩:=again I7;exact⟨_,lt,i+1,σ6,H7,G7,Kf Z3,vs',es',rfl,J2,J3,⟨J1,k7.rebase,λa o z q=>k7.bh a o (kE a o z q),kn.trans k7.g0,λa o z q w=>k7.np a o (kE a _ z q) (xg a o z q w),k7.bh _ _ jV,k7.np _ (.l _) jV gD',r'.mono k7.g0⟩,zc⟩
  |true=>
   rw[Qo jv]at zc⊢;cases ze:rd Z3 es' with
   |none=>rw[ze]at zc;cases zc
   |some pr=>
   obtain⟨es1,Z5⟩:=pr;rw[ze]at zc;refine hb _ s7 σ6 H' G' H7 G7 Z3 Z5 vs' es' es1 _ I7 k7 jV gD' r' ze λσ9 H9 G9 vs9 s9 L=>?_
   obtain⟨J1,J2,J3⟩:=again L.inv;exact⟨_,lt,i+1,σ9,H9,G9,Z5,vs9,es1,rfl,J2,J3,⟨J1,L.eok,λa o z q=>L.hh a o z (kE a o z q),kn.trans L.gg,λa o z q w=>L.np a o z (kE a _ z q) (xg a o z q w),L.hd,L.gd,L.rp⟩,zc⟩
 .rw[List.drop_eq_nil_of_le (QZ hlt),cT]at zc
  cases zc;refine thn (T.done Y jv jv jv hc i pins s' σ' H' nox I' (stat vj) xO (its.stop i G' H' kn k'.gh (QZ hlt))) λrr s4 ⟨hr,I6⟩=>?_
  subst hr;exact kL σ' H' G' vs' s4 ⟨I6,k',kE,kn,xg,jV,gD',r'⟩
theorem BN{elt kC i1:Uj}{ifs1:jF}{gens:List Comprehension}{scope:Scope}{pos:Pos}{j:Nat}{W:Ue->(Uf->Prop)->Uf->Prop}{f:M jz}{s:D->UF->jG}{t:M Bool}{rd:RdB}(hx:Y.xe=nox)(hc:Y.calm=jx)
  (hn:gens[j+1]?=ju ⟨kC,i1,ifs1,0⟩) (rule:∀jW,Vd Y.prog Y.w Y.A kC ifs1 Y.env jW (.compLoop (.ListComp elt gens scope pos) (j+1) jW (.ref D') Y.env) (W jW))
  (hi:∀B1 G1,PI Y kC i1 (iD Y.K B1 G1 f)) (hg:∀B1 G1,PG Y kC (tG Y.K B1 G1 s)) (ht:∀B1 G1,ZU Y ifs1 (tBo Y.K B1 G1 t)) (hb:∀jW,T8 Y D' (W jW) rd) :
  T8 Y D' (λQ s=>Ul (model Y.prog Y.w) Y.A (eval i1 Y.env) (λx s₄=>Ul (model Y.prog Y.w) Y.A (pyIter x) (λjW s₅=>codeAny (model Y.prog Y.w) Y.A (.compStart (.ListComp elt gens scope pos) (j+1) jW (.ref D') Y.env)
   (λr s₆=>match r with | .ok _=>Q s₆ | .error _=>False) s₅) nox s₄) nox s) (rN f s t rd):=by
 intro pins sh σ B1 G1 H G Z Z' vs es es' Q I k hD gD r z fin;unfold rN at z;cases zf:f Z with
 |bad=>rw[zf]at z;cases z
 |ok ds Z3=>
 rw[zf]at z;have h:=hi B1 G1 pins sh σ H (λJ1 H8=>∃G8,EOk Y.K B1 G1 G8 H8 σ Z3/\YL Y.K J1 ds G8) I ⟨G,Z,k,by rw[zf];exact λJ1 G8 H8 k8 _ q=>⟨G8,k8,q⟩⟩;rw[hx]at h;refine thn h λxv s8 h8=>thn h8 λitv s9 h9=>?_
 obtain⟨jW,fp1,tn1,J1,H9,rfl,I9,T1,st9,f9,G9,k9,its9⟩:=h9
 have loop:codeAny (model Y.prog Y.w) Y.A (.compLoop (.ListComp elt gens scope pos) (j+1) (.ref jW) (.ref D') Y.env) (λr s₆=>match r with | .ok _=>Q s₆ | .error _=>False) s9:=
  Mk hx hc (rule (.ref jW)) hg ht (hb _) I9 T1 st9 f9 k9.rebase its9 (k9.bh _ _ hD) (k9.np _ (.l _) hD gD) (r.mono k9.g0) z λσ' H' G' vs' s' L=>
   fin σ' H' G' vs' s' ⟨L.inv,L.eok,λa o z q=>L.hh a o z (k9.bh a o q),k9.g0.trans L.gg,λa o z q w=>L.np a o z (k9.bh a _ q) (k9.np a o q w),L.hd,L.gd,L.rp⟩
 exact qU hn loop (T1.self Y.A 0 _ _ _ st9 loop)
end
def T7(Y:Cx)(e:Uj)(j:Nat)(tg:Uj)(ifs:jF)(rd:RdB):Prop:=
 ∀(D':Uh)(it:Ue),∃W,Vd Y.prog Y.w Y.A tg ifs Y.env it (.compLoop e j it (.ref D') Y.env) W/\T8 Y D' W rd
section
variable{Y:Cx}{elt tg i:Uj}{ifs:jF}{gens:List Comprehension}{scope:Scope}{pos:Pos}{j:Nat}
theorem BM{g:M D}(hx:Y.xe=nox)(hg:gens[j]?=ju ⟨tg,i,ifs,0⟩)(hn:gens[j+1]?=jw)(he:∀B1 G1,PE Y elt (tD Y.K B1 G1 g)):T7 Y (.ListComp elt gens scope pos) j tg ifs (rL g):=
 λ_ _=>⟨_,BR hg hn,BO hx he⟩
theorem BL{kC i1:Uj}{ifs1:jF}{f:M jz}{s:D->UF->jG}{t:M Bool}{rd:RdB}(hx:Y.xe=nox)(hc:Y.calm=jx)(hg:gens[j]?=ju ⟨tg,i,ifs,0⟩)(hn:gens[j+1]?=ju ⟨kC,i1,ifs1,0⟩)(hs:∀x,UD i1 Y.env x=pure x)
  (hi:∀B1 G1,PI Y kC i1 (iD Y.K B1 G1 f)) (hgt:∀B1 G1,PG Y kC (tG Y.K B1 G1 s)) (ht:∀B1 G1,ZU Y ifs1 (tBo Y.K B1 G1 t)) (hb:T7 Y (.ListComp elt gens scope pos) (j+1) kC ifs1 rd):T7 Y (.ListComp elt gens scope pos) j tg ifs (rN f s t rd):=
 λD' _=>⟨_,BQ hg hn hs,BN hx hc hn (λjW=>(Classical.choose_spec (hb D' jW)).1) hi hgt ht (λjW=>(Classical.choose_spec (hb D' jW)).2)⟩
end
def Ye(l:Bool)(Z:UF):UF:=match l with|true=>K7 Z|false=>Kf Z
theorem entry{K:Frag}{B G0 G1 H2:Hp}{σ:St}{Z1:UF}{D:Uh}(l:Bool)(k1:EOk K B G0 G1 H2 σ Z1)(hfr:H2 D=jw)(n:Nat) :
  ∃Gb,EOk K (upd H2 D (.lst [])) Gb Gb (upd H2 D (.lst [])) (σ++Uq n jw) (Ye l Z1++Uq n jw)/\Same G1 Gb/\Gb D=jw /\
   ∀(G' H':Hp) vs es,(l=jx->es.all flat=jx)->Same Gb G'->Same H2 H'->Same G' H'->(∀a(u:MO),H2 a=ju u.ho->Gb a=jw->G' a=jw)->G' D=jw->Reps K G' vs es->∃Gf,Ext G1 H2 Gf H'/\Gf D=jw/\Reps K Gf vs es:=by
 have gD:G1 D=jw:=k1.gh.free hfr;cases l with
 |false=>exact⟨G1,(k1.beside gD).more n,.refl _,gD,λG' H' vs es _ g h gh np d r=>⟨G',⟨h,g,gh,np⟩,d,r⟩⟩
 |true=>exact⟨H2,k1.lend hfr n,k1.gh,hfr,λG' H' vs es fl _ h _ _ _ r=>⟨G1,⟨h,.refl _,k1.gh.trans h,λ_ _ _ n=>n⟩,gD,r.flat (fl jv)⟩⟩
def dCG(l:Bool)(f:M jz)(k:Nat)(s:D->UF->jG)(t:M Bool)(rd:RdB):M jz:=λZ=>match f Z with
 |.bad=>.bad
 |.ok ds Z1=>match cT s t rd ds (Ye l Z1++Uq k jw) []with
  |none=>.bad
  |some (es,_)=>if l=jx->es.all flat=jx then .ok es Z1 else .bad
theorem NM{l:Bool}{f:M jz}{k:Nat}{s:D->UF->jG}{t:M Bool}{rd:RdB}{Z Z':UF}{es:jz}(h:dCG l f k s t rd Z=.ok es Z'):∃ds ZF,f Z=.ok ds Z'/\cT s t rd ds (Ye l Z'++Uq k jw) []=ju (es,ZF)/\(l=jx->es.all flat=jx):=by
 unfold dCG at h;cases zf:f Z with
 |bad=>rw[zf]at h;cases h
 |ok ds Z1=>
 rw[zf]at h;dsimp only at h;cases zl:cT s t rd ds (Ye l Z1++Uq k jw) []with
 |none=>rw[zl]at h;cases h
 |some pr=>
 obtain⟨esF,ZF⟩:=pr;rw[zl]at h;dsimp only at h;split at h
 .rename_i hf
  cases h;exact⟨ds,ZF,rfl,zl,hf⟩
 .cases h
section
variable{X:Cx}{B G0:Hp}{KX:XW}
def Yh(X:Cx)(N2:List Str)(scope:Scope)(e tg:Uj)(ifs:jF)(s:D->UF->jG)(t:M Bool)(rd:RdB):Prop:=
 ∀(cl:List (Str×Uh))(C:Uh)(s₀:Uf)(H₀:Hp)(ex:jH),(∀B' G',PG (X.blk N2 scope cl C s₀ H₀ ex) tg (tG X.K B' G' s))/\(∀B' G',ZU (X.blk N2 scope cl C s₀ H₀ ex) ifs (tBo X.K B' G' t))/\T7 (X.blk N2 scope cl C s₀ H₀ ex) e 0 tg ifs rd
structure Ts(SC scope:Scope)(N1 N2:List Str)(k:Nat):Prop where
 b:Sw scope.names N1 N2 k=jx
 kind:scope.kind=.function
 cell:∀y∈scope.names,y.2≠.cell
 names:∀y∈scope.names,y.2=.local->scope.names.lookup y.1=ju .local
 free:∀y∈scope.names,y.2=.free->SC.names.lookup y.1=ju .cell∨SC.names.lookup y.1=ju .free
theorem Mj{l:Bool}{tg elt iter:Uj}{ifs:jF}{gs:List Comprehension}{scope:Scope}{pos pos':Pos}{N2:List Str}{k:Nat}{f:M jz}{s:D->UF->jG}{t:M Bool}{rd:RdB}{use:Option (Ue->Sem Unit)}{Qc:Ue->Uf->Prop}(hc:X.calm=jx)
  (hi:PI X tg iter (iD X.K B G0 f)) (jN:Yh X N2 scope (.ListComp elt (⟨tg,iter,ifs,0⟩::gs) scope pos) tg ifs s t rd) (hb:Ts X.env.scope scope X.N N2 k) (hs:∀x,UD iter X.env x=pure x)
  {pins:List (Uh×Obj)} {s0:Uf} {σ:St} {G H:Hp} {Z Z1 ZF:UF} {ds esF:jz} (I:Inv X pins σ H s0) (k0:EOk X.K B G0 G H σ Z) (zf:f Z=.ok ds Z1) (zl:cT s t rd ds (Ye l Z1++Uq k jw) []=ju (esF,ZF)) (hfl:l=jx->esF.all flat=jx)
  (kL:∀(C D:Uh)(vs:List V)(G' H':Hp)(s4:Uf)(m:Str->jE),Inv X pins σ H' s4->s4.heap.Ns C m->H' C=jw->C≠X.env.locals->X.s₀.heap.objs.size<=C->(∀x c,X.env.cells.lookup x=ju c->c≠C)->(∀p∈X.pn++pins,p.1≠C) ->
   EOk X.K B G0 G' H' σ Z1->Same G G'->NewL X.K B G' H' σ Z1 D vs esF->compPost (model X.prog X.w) X.A X.xe use Qc (.ref D) C (.ok .next) s4) :
  Ul (model X.prog X.w) X.A (comprehension (.ListComp elt (⟨tg,iter,ifs,0⟩::gs) scope pos) scope X.env pos' (newList []) jy (eval iter X.env) use) Qc X.xe s0:=by
 obtain⟨cl,hcl,kB,xM⟩:=Le (scope:=scope) (env:=X.env) λy hy hf=>I.ok.has y.1 (hb.free y hy hf)
 refine wpAny_comprehension_free (use:=use) jv hs hcl hb.kind hb.names (thn (hi pins s0 σ H (λJ H1=>∃G1,EOk X.K B G0 G1 H1 σ Z1/\Same G G1/\YL X.K J ds G1) I ⟨G,Z,k0,by rw[zf];exact λJ G1 H1 k1 s1 it=>⟨G1,k1,s1,it⟩⟩) λv s1 h1=>thn h1 λitv s2 h2=>?_);obtain⟨it,fp,tn,J,H2,rfl,I2,T,st2,f2,G1,k1,sg1,its⟩:=h2;refine wpAny_newObj_type (wpAny_newFunctionEnv hb.cell (by intro y hy;simp at hy) (λh₁ hns₁ hsb₁=>?_) hb.kind);dsimp only at hns₁ hsb₁⊢;have hfr:H2 s2.heap.objs.size=jw:=I2.hok.fresh (Qq _)
 have I3:Inv X pins σ (upd H2 s2.heap.objs.size (.lst [])) {s2 with heap:=s2.heap.push {cls:=.type "list", dict:=jw,data:=.seq ([]:jB).toArray}}:=
  I2.laid (t':=s2.toks) (λb u e=>Qg _ e) (Qq _) ⟨Ub _,[],0,.nil,QA _ jv⟩
 generalize hP:s2.heap.push {cls:=.type "list", dict:=jw,data:=.seq ([]:jB).toArray}=P at I3 hns₁ hsb₁⊢;have old:∀b o,s2.heap.get? b=ju o->P.get? b=ju o:=λb o e=>hP ▸ Qg _ e;have kept:∀b o,P.get? b=ju o->h₁.get? b=ju o:=λb o e=>hsb₁.extBut b o (QH (Qj e)) (Qg _ e);have fpo:∀b∈fp,∃o,s2.heap.get? b=ju o:=λb hb=>let ⟨o,e,_⟩:=T.obj _ _ st2 b hb;⟨o,e⟩
 have fpD:∀b∈fp,b≠s2.heap.objs.size:=λb hb=>let ⟨o,e⟩:=fpo b hb;QH (Qj e)
 have f3:∀b∈fp,KY X pins (upd H2 s2.heap.objs.size (.lst [])) b:=λb hb=>⟨by rw[Kn (fpD b hb)];exact(f2 b hb).1,(f2 b hb).2⟩
 have I4:=I3.enter (scope:=scope) (cl:=cl) (N2:=N2) (k:=k) (fp:=fp) (t':=s2.toks+([]:List (Str×Ue)).length) hb.b hb.kind hb.cell hb.free kB xM hns₁ kept f3 (λb hb=>let ⟨o,e⟩:=fpo b hb;⟨o,old b o e⟩);dsimp only at I4;obtain⟨Gb,kb,sgb,gbD,ex⟩:=entry l k1 hfr k;have sH:Same H2 (upd H2 s2.heap.objs.size (.lst [])):=Zj hfr;have vh:upd H2 s2.heap.objs.size (.lst []) s2.heap.objs.size=ju (.lst []):=KP;generalize upd H2 s2.heap.objs.size (.lst [])=H3 at I3 I4 f3 kb sH vh;generalize s2.heap.objs.size=D at *;have xN:tn 0 h₁:=T.keep 0 _ _ st2 λb hb o e=>kept b o (old b o e)
 have stat:∀b∈fp,KY (X.blk N2 scope cl P.objs.size {s2 with heap:=P} H3 fp) pins H3 b:=λb hb=>by
  obtain⟨z0,z1,z2,z3,z4,z5⟩:=f3 b hb;obtain⟨o,e⟩:=fpo b hb;refine⟨z0,QH (Qj (old b o e)),λz=>?_,.inl hb,λx c q=>z4 x c (kB x c q),z5⟩;rcases Ql.mp (I3.stkSub b z)with q|q
  .exact z1 q
  .exact z2 q
 have neD:∀a o,H2 a=ju o->a≠D:=λa o q z=>by subst z;rw[hfr]at q;cases q
 obtain⟨hg,ht,hcl'⟩:=jN cl P.objs.size {s2 with heap:=P} H3 fp;obtain⟨W,rule,body⟩:=hcl' D (.ref it)
 have loop:=Mk (Y:=X.blk N2 scope cl P.objs.size {s2 with heap:=P} H3 fp) (D':=D) (R:=compPost (model X.prog X.w) X.A X.xe use Qc (.ref D) P.objs.size) jv hc rule hg ht body I4 T xN stat kb
  ⟨λi G H s1 s2 hi=>its.go i G H (sgb.trans s1) s2 hi,λi G H s1 s2 hi=>its.stop i G H (sgb.trans s1) s2 hi,λi G H x H' d s1 s2 e y=>its.yld i G H x H' d (sgb.trans s1) s2 e y⟩ vh gbD .nil zl λσ' H' G' vs' s4 L=>by
   obtain⟨m,hm,_⟩:=id L.inv.loc;have I7:Inv X pins σ H' s4:=I3.call' (ch:=fp) L.inv.os L.inv.base L.inv.hok L.inv.bare λb hb=>⟨(f3 b hb).2.2.2.1,(f3 b hb).2.1,(f3 b hb).2.2.2.2.1,(f3 b hb).2.2.2.2.2⟩
   obtain⟨Gf,eF,dF,rF⟩:=ex G' H' vs' esF hfl L.gg (λa o q=>L.hh a o (neD a o q) (sH a o q)) L.eok.gh (λa o q z=>L.np a o (neD a _ q) (sH a _ q) z) L.gd L.rp
   refine kL P.objs.size D vs' Gf H' s4 m I7 hm L.inv.free (Jz I3.lt) I3.sz (λx c e z=>by obtain⟨_,q⟩:=I3.cell x c e;exact absurd q.lt (by rw[z];exact Jg _)) (λp hp z=>by have:=Qj (I3.pin p hp).1;exact absurd this (by rw[z];exact Jg _))
    (k1.ext eF) (sg1.trans eF.g) ⟨k1.bh.free hfr,dF,L.hd,rF,λj es' q z=>?_,λj pt d v fp q s r=>k1.freshD eF.h hfr q s r⟩
   obtain⟨a',ws,h1',h2',h3',h4',h5'⟩:=k1.own j es' q;rw[z]at h1';cases h1';rw[hfr]at h4';cases h4'
 exact codeAny_compStart_list loop (T.self X.A 0 _ _ _ xN loop)
theorem HD{l:Bool}{tg elt iter:Uj}{ifs:jF}{gs:List Comprehension}{scope:Scope}{pos:Pos}{N2:List Str}{k:Nat}{f:M jz}{s:D->UF->jG}{t:M Bool}{rd:RdB}(hc:X.calm=jx)
  (hi:PI X tg iter (iD X.K B G0 f)) (jN:Yh X N2 scope (.ListComp elt (⟨tg,iter,ifs,0⟩::gs) scope pos) tg ifs s t rd) (hb:Ts X.env.scope scope X.N N2 k) (hs:∀x,UD iter X.env x=pure x:=by intro _;rfl) :
  PE X (.ListComp elt (⟨tg,iter,ifs,0⟩::gs) scope pos) (tL X.K B G0 (dCG l f k s t rd)):=by
 intro pins s0 σ H Q I ⟨G,Z,k0,a⟩;cases z:dCG l f k s t rd Z with
 |bad=>rw[z]at a;exact a.elim
 |ok es Z1=>
 rw[z]at a;obtain⟨ds,ZF,zf,zl,hfl⟩:=NM z;rw[eval_ListComp];refine Mj hc hi jN hb hs I k0 zf zl hfl λC D vs G' H' s4 m I7 hm hC hL hz hcl hp k' s' n=>?_
 exact⟨m,hm,λh' sb=>⟨.ref D,H',I7.turned (t':=s4.toks) (it:=C) (λb o hb e=>(sb.2 b hb).trans e) hC hL (.inr hz) hcl hp,rfl,a D vs G' H' k' s' n⟩⟩
theorem sD_g{l:Bool}{y:Str}{j:Nat}{py:Pos}{spos:Pos}{tg elt iter:Uj}{ifs:jF}{gs:List Comprehension}{scope:Scope}{pos:Pos}{N2:List Str}{k:Nat}{f:M jz}{s:D->UF->jG}{t:M Bool}{rd:RdB}(hN:X.N.Nodup)(hj:X.N[j]?=ju y)(hy:X.env.scope.names.lookup y=ju .local)(hc:X.calm=jx)
  (hi:PI X tg iter (iD X.K B G0 f)) (jN:Yh X N2 scope (.ListComp elt (⟨tg,iter,ifs,0⟩::gs) scope pos) tg ifs s t rd) (hb:Ts X.env.scope scope X.N N2 k) (hs:∀x,UD iter X.env x=pure x:=by intro _;rfl)
  (hsw:swapsWith (.ListComp elt (⟨tg,iter,ifs,0⟩::gs) scope pos) (ju (.Name y py)) spos.line X.env=pure jx:=by rfl) :
  PS X (.Assign [.Name y py] (.ListComp elt (⟨tg,iter,ifs,0⟩::gs) scope pos) spos) (tS X.K B G0 KX (KM j (dCG l f k s t rd))):=by
 intro pins s0 σ H Dn I ⟨G,Z,k0,a⟩;unfold KM sB at a;cases z:dCG l f k s t rd Z with
 |bad=>rw[z]at a;exact a.elim
 |ok es Z1=>
 rw[z]at a;dsimp only at a;by_cases hl:j<Z1.length
 .rw[Qo hl]at a
  obtain⟨ds,ZF,zf,zl,hfl⟩:=NM z;rw[exec_Assign_Name_used _ _ _ _ hsw];refine Qd (Q3 (Qd ?_));show Ul _ X.A (do let _ ←comprehension (.ListComp elt (⟨tg,iter,ifs,0⟩::gs) scope pos) scope X.env _ (newList []) jy (eval iter X.env) (ju (assign (.Name y py) X.env))) _ _ s0;refine Qd (Qv (Mj (use:=ju (assign (.Name y py) X.env)) (Qc:=λ_ s'=>SP X pins Dn .next s') hc hi jN hb hs I k0 zf zl hfl λC D vs G' H' s4 m I7 hm hC hL hz hcl hp k' s' n=>?_) (λ_ s' hq=>Qk (Qk hq)) λ_ _ e=>e);show Ul _ X.A (assign (.Name y py) X.env (.ref D)) _ _ s4;refine wpAny_assign_Name (MK I7 hN hj (.inl hy) (v:=.ref D) jv (λs5 I8 ⟨ad,sb,hx⟩=>?_) (.inr hy))
  have hCa:C≠ad:=by
   rcases hx with e|e
   .rw[e];exact hL
   .exact Ne.symm (hcl y ad e)
  refine⟨m,hm.sameBut sb hCa,λh' sb'=>⟨_,H',I8.turned (t':=s5.toks) (it:=C) (λb o hb e=>(sb'.2 b hb).trans e) hC hL (.inr hz) hcl hp,?_⟩⟩;exact a _ G' H' (k'.setOwn n hl) s'
 .rw[QC hl]at a;exact a.elim
theorem HC{K:Frag}{f f':M jz}(h:∀Z es Z',f Z=.ok es Z'->f' Z=.ok es Z'){σ:St}{H:Hp}{Q:VK}(q:tL K B G0 f σ H Q):tL K B G0 f' σ H Q:=by
 obtain⟨G,Z,k,a⟩:=q;refine⟨G,Z,k,?_⟩;cases z:f Z with
 |bad=>rw[z]at a;exact a.elim
 |ok es Z'=>rw[z]at a;rw[h Z es Z' z];exact a
theorem Gc{K:Frag}{f f':M jz}{j:Nat}(h:∀Z es Z',f Z=.ok es Z'->f' Z=.ok es Z'){Dn:_}{σ:St}{H:Hp}(q:tS K B G0 KX (KM j f) Dn σ H):tS K B G0 KX (KM j f') Dn σ H:=by
 obtain⟨G,Z,k,a⟩:=q;refine⟨G,Z,k,?_⟩;unfold KM sB at a⊢;cases z:f Z with
 |bad=>rw[z]at a;exact a.elim
 |ok es Z'=>rw[z]at a;rw[h Z es Z' z];exact a
end
theorem RK{s:D->UF->jG}{t:M Bool}{g:M D}:∀{ds:jz}{Z:UF}{es esF:jz},KB s t g ds Z es=ju esF->∃ZF,cT s t (rL g) ds Z es=ju (esF,ZF)
 |[],Z,es,esF,h=>by rw[KB]at h;cases h;exact⟨Z,rfl⟩
 |d::r,Z,es,esF,h=>by
  rw[KB]at h;rw[cT];cases zs:s d Z with
  |none=>rw[zs]at h;cases h
  |some Z1=>
  rw[zs]at h;dsimp only at h⊢;cases zt:t Z1 with
  |bad=>rw[zt]at h;cases h
  |ok b Z2=>
  rw[zt]at h;dsimp only at h⊢;cases b with
  |false=>exact RK (ds:=r) h
  |true=>
   rw[Qo jv]at h⊢;unfold rL;cases zg:g Z2 with
   |bad=>rw[zg]at h;cases h
   |ok e Z3=>
   rw[zg]at h;dsimp only at h⊢;split at h
   .rename_i hl
    rw[Qo hl];exact RK (ds:=r) h
   .cases h
theorem Oa{s:D->UF->jG}{t:M Bool}{g:M D}:∀{ds:jz}{Z:UF}{es:jz},X1 s t g ds Z es=cT s t (rL g) ds Z es
 |[],Z,es=>rfl
 |d::r,Z,es=>by
  rw[X1,cT];cases s d Z with
  |none=>rfl
  |some Z1=>
  dsimp only;cases t Z1 with
  |bad=>rfl
  |ok b Z2=>
  dsimp only;cases b with
  |false=>exact Oa (ds:=r)
  |true=>
   rw[Qo jv,Qo jv];unfold rL;cases g Z2 with
   |bad=>rfl
   |ok e Z3=>
   dsimp only;split
   .exact Oa (ds:=r)
   .rfl
theorem P9{s s1:D->UF->jG}{t t1:M Bool}{f:M jz}{g:M D}:∀{ds:jz}{Z:UF}{es esF:jz},Xg s t f s1 t1 g ds Z es=ju esF->∃ZF,cT s t (rN f s1 t1 (rL g)) ds Z es=ju (esF,ZF)
 |[],Z,es,esF,h=>by rw[Xg]at h;cases h;exact⟨Z,rfl⟩
 |d::r,Z,es,esF,h=>by
  rw[Xg]at h;rw[cT];cases zs:s d Z with
  |none=>rw[zs]at h;cases h
  |some Z1=>
  rw[zs]at h;dsimp only at h⊢;cases zt:t Z1 with
  |bad=>rw[zt]at h;cases h
  |ok b Z2=>
  rw[zt]at h;dsimp only at h⊢;cases b with
  |false=>exact P9 (ds:=r) h
  |true=>
   rw[Qo jv]at h⊢;unfold rN;cases zg:f Z2 with
   |bad=>rw[zg]at h;cases h
   |ok ds Z3=>
   rw[zg]at h;dsimp only at h⊢;rw[←Oa];cases zl:X1 s1 t1 g ds (Kf Z3) es with
   |none=>rw[zl]at h;cases h
   |some pr=>rw[zl]at h;exact P9 (ds:=r) h
theorem Bl{f:M jz}{k:Nat}{s:D->UF->jG}{t:M Bool}{g:M D}(Z:UF)(es:jz)(Z':UF)(h:Zw f k s t g Z=.ok es Z'):dCG jy f k s t (rL g) Z=.ok es Z':=by
 unfold Zw at h;unfold dCG;cases zf:f Z with
 |bad=>rw[zf]at h;cases h
 |ok ds Z1=>
 rw[zf]at h;dsimp only[Ye]at h⊢;cases zl:KB s t g ds (Kf Z1++Uq k jw) []with
 |none=>rw[zl]at h;cases h
 |some esF=>
 rw[zl]at h;cases h;obtain⟨ZF,e⟩:=RK zl;rw[e];exact Qo λz=>by cases z
theorem BK{f:M jz}{k:Nat}{s:D->UF->jG}{t:M Bool}{g:M D}(Z:UF)(es:jz)(Z':UF)(h:Tx f k s t g Z=.ok es Z'):dCG jx f k s t (rL g) Z=.ok es Z':=by
 unfold Tx at h;unfold dCG;cases zf:f Z with
 |bad=>rw[zf]at h;cases h
 |ok ds Z1=>
 rw[zf]at h;dsimp only[Ye]at h⊢;cases zl:KB s t g ds (K7 Z1++Uq k jw) []with
 |none=>rw[zl]at h;cases h
 |some esF=>
 rw[zl]at h;dsimp only at h;split at h
 .rename_i hf
  cases h;obtain⟨ZF,e⟩:=RK zl;rw[e];exact Qo λ_=>hf
 .cases h
theorem Ag{f f1:M jz}{k:Nat}{s s1:D->UF->jG}{t t1:M Bool}{g:M D}(Z:UF)(es:jz)(Z':UF)(h:Sg f k s t f1 s1 t1 g Z=.ok es Z'):dCG jy f k s t (rN f1 s1 t1 (rL g)) Z=.ok es Z':=by
 unfold Sg at h;unfold dCG;cases zf:f Z with
 |bad=>rw[zf]at h;cases h
 |ok ds Z1=>
 rw[zf]at h;dsimp only[Ye]at h⊢;cases zl:Xg s t f1 s1 t1 g ds (Kf Z1++Uq k jw) []with
 |none=>rw[zl]at h;cases h
 |some esF=>
 rw[zl]at h;cases h;obtain⟨ZF,e⟩:=P9 zl;rw[e];exact Qo λz=>by cases z
def WO(q:Option NameKind->Bool)(SC scope:Scope)(N1 N2:List Str)(k:Nat):Bool:=
 Sw scope.names N1 N2 k&&decide (scope.kind=.function)&&scope.names.all λy=>match y.2 with
  |.cell=>jy
  |.local=>decide (scope.names.lookup y.1=ju .local)
  |.free=>q (SC.names.lookup y.1)
  |_=>jx
def Tr:Option NameKind->Bool
 |some .cell=>jx|some .free=>jx|_=>jy
theorem qt{q:Option NameKind->Bool}{SC SC' scope:Scope}{N1 N2:List Str}{k:Nat}(h:WO q SC scope N1 N2 k=jx)(f:∀x,q (SC.names.lookup x)=jx->SC'.names.lookup x=ju .cell∨SC'.names.lookup x=ju .free):Ts SC' scope N1 N2 k:=by
 unfold WO at h;rw[QS,QS,Jc]at h;obtain⟨⟨h1,h2⟩,h3⟩:=h;refine⟨h1,Qa h2,λy hy e=>?_,λy hy e=>?_,λy hy e=>?_⟩
 .have:=h3 y hy;rw[e]at this;cases this
 .have:=h3 y hy;rw[e]at this;exact Qa this
 .have:=h3 y hy;rw[e]at this;exact f _ this
theorem Pd{SC scope:Scope}{N1 N2:List Str}{k:Nat}(h:WO Tr SC scope N1 N2 k=jx):Ts SC scope N1 N2 k:=qt h λx e=>by
 cases z:SC.names.lookup x with
 |none=>rw[z]at e;cases e
 |some y=>rw[z]at e;cases y<;>first|exact .inl rfl|exact .inr rfl|cases e
section
variable{X:Cx}{B G0:Hp}{KX:XW}
theorem HB{l:Bool}{tg elt iter:Uj}{ifs:jF}{gs:List Comprehension}{scope:Scope}{pos:Pos}{f:M jz}{s:D->UF->jG}{t:M Bool}{rd:RdB}{F:M jz}(SC:Scope)(N1 N2:List Str)(k:Nat)(le:∀Z es Z',F Z=.ok es Z'->dCG l f k s t rd Z=.ok es Z')(hc:X.calm=jx)
  (hi:PI X tg iter (iD X.K B G0 f)) (jN:Yh X N2 scope (.ListComp elt (⟨tg,iter,ifs,0⟩::gs) scope pos) tg ifs s t rd) (h1:X.env.scope=SC) (h2:X.N=N1) (hb:WO Tr SC scope N1 N2 k=jx) (hs:∀x,UD iter X.env x=pure x:=by intro _;rfl) :
  PE X (.ListComp elt (⟨tg,iter,ifs,0⟩::gs) scope pos) (tL X.K B G0 F):=
 U7 (HD hc hi jN (by rw[h1,h2];exact Pd hb) hs) λ_ _ _ q=>HC le q
theorem sD_1{l:Bool}{y:Str}{j:Nat}{py:Pos}{spos:Pos}{tg elt iter:Uj}{ifs:jF}{gs:List Comprehension}{scope:Scope}{pos:Pos}{f:M jz}{s:D->UF->jG}{t:M Bool}{rd:RdB}{F:M jz}(SC:Scope)(N1 N2:List Str)(k:Nat)(le:∀Z es Z',F Z=.ok es Z'->dCG l f k s t rd Z=.ok es Z')(hN:X.N.Nodup)(hj:X.N[j]?=ju y)(hy:X.env.scope.names.lookup y=ju .local)(hc:X.calm=jx)
  (hi:PI X tg iter (iD X.K B G0 f)) (jN:Yh X N2 scope (.ListComp elt (⟨tg,iter,ifs,0⟩::gs) scope pos) tg ifs s t rd) (h1:X.env.scope=SC) (h2:X.N=N1) (hb:WO Tr SC scope N1 N2 k=jx) (hs:∀x,UD iter X.env x=pure x:=by intro _;rfl)
  (hsw:swapsWith (.ListComp elt (⟨tg,iter,ifs,0⟩::gs) scope pos) (ju (.Name y py)) spos.line X.env=pure jx:=by rfl) :
  PS X (.Assign [.Name y py] (.ListComp elt (⟨tg,iter,ifs,0⟩::gs) scope pos) spos) (tS X.K B G0 KX (KM j F)):=
 Zb (sD_g hN hj hy hc hi jN (by rw[h1,h2];exact Pd hb) hs hsw) λ_ _ _ q=>Gc le q
end
section
variable{X:Cx}{B G0:Hp}{e a b c tg:Uj}{pos:Pos}{es rest:jF}
theorem EOk.given{K:Frag}{G H:Hp}{σ:St}{Z:UF}{a:Uh}{vs:List V}{ds:jz}(k:EOk K B G0 G H σ Z)(n:NewL K B G H σ Z a vs ds):EOk K B G0 (upd G a (.lst vs)) H σ Z where
 bh:=k.bh
 gh:=λb u q=>by
  by_cases z:b=a
  .subst z;rw[KP]at q;cases q;exact n.h
  .rw[Kn z]at q;exact k.gh b u q
 g0:=k.g0.trans (Zj n.g)
 np:=λb o q z=>by
  have zb:b≠a:=λz=>by subst z;rw[n.b]at q;cases q
  rw[Kn zb];exact k.np b o q z
 len:=k.len
 pub:=λi d q=>let ⟨v,h1,h2⟩:=k.pub i d q;⟨v,h1,h2.mono (Zj n.g)⟩
 own:=λi ds q=>by
  obtain⟨b,ws,h1,h2,h3,h4,h5⟩:=k.own i ds q;have zb:b≠a:=λz=>by subst z;exact n.f i ds q h1
  exact⟨b,ws,h1,h2,by rw[Kn zb];exact h3,h4,h5.mono (Zj n.g)⟩
 sep:=k.sep
 dp:=k.dp.map (λ_ _ _ q=>⟨q,rfl⟩) (λ_ ds q=>⟨ds,q,rfl⟩) λi p d v fp q s r w nn=>⟨r.mono (Zj n.g) (.refl _),λb m=>⟨(w b m).1,by rw[Kn (λz=>n.dp i p d v fp q s r (by rw[←z];exact m))];exact(w b m).2⟩⟩
theorem Eb{f:M jz}(h:PE X e (tL X.K B G0 f)):PE X e (tD X.K B G0 (UT Ur f)):=
 U7 h λσ H Q ⟨G,Z,k,a⟩=>by
  refine⟨G,Z,k,?_⟩;unfold UT UZ at a;cases z:f Z with
  |bad=>rw[z]at a;exact a.elim
  |ok ds Z1=>rw[z]at a;intro ad vs G' H' k' s' n;exact a (.ref ad) _ H' (k'.given n) (s'.trans (Zj n.g)) (.lst (SqL.of KP) (n.r.mono (Zj n.g)))
theorem Bk(hc:X.calm=jx):ZQ X (.builtin "all") (λxs H Q=>∃l,∃bs:List Bool,xs=[.ref l]/\SqL X.K H l (bs.map V.bl)/\Q (.bl (bs.all id)) H):=by
 intro pins s σ H xs us Q I rx h;obtain⟨l,bs,rfl,hq,q⟩:=h;obtain⟨u,rfl,ru⟩:=rx.one;cases ru;obtain⟨its,rv,p,hz⟩:=I.list hq;have hl:=p.isList;have hlt:l<s.heap.objs.size:=by obtain⟨_,e,_⟩:=id hl;exact Qj e
 have key:∀(i:Nat) v,its.toArray[i]?=ju v->∃t,bs[i]?=ju t/\v=.bool t:=λi v e=>by
  have e:its[i]?=ju v:=by simpa using e
  have hi:i<bs.length:=by have:=(Qh.mp e).1;have h2:=rv.length;rw[Qb]at h2;omega
  obtain⟨u,e2,r2⟩:=rv.get (i:=i) (x:=.bl bs[i]) (by rw[Qf,Qe hi];rfl);rw[e]at e2;cases e2;exact⟨bs[i],Qe hi,r2⟩
 refine call_all_walk (JC hl ?_)
 refine⟨s.heap.objs.size,[s.heap.objs.size,l],[s.heap.objs.size],its.toArray.size,_,_,λi=>(bs[i]?).getD jx,rfl,Walks.list (A:=X.A.in1) (I.ok.hd hc) _ l (QH hlt) its.toArray,
  ⟨⟨_,QA _ jv,rfl,rfl⟩,hl.push _⟩,λi v s' Q' E' hP hQ=>?_,λh' tk hk=>?_⟩
 .obtain⟨b,e,rfl⟩:=key i v hP
  simp only[e,JQ]at hQ;exact QY hQ
 .have hn:its.toArray.size=bs.length:=by have:=rv.length;rw[List.length_map]at this;simp;omega
  have e:((Up its.toArray.size).all λi=>(bs[i]?).getD jx)=bs.all id:=by
   rw[hn,Bool.eq_iff_iff,Jc,Jc];constructor
   .intro h b hb
    obtain⟨i,hi,e⟩:=List.getElem_of_mem hb;have:=h i (Je.mpr hi);simp only[Qe hi,JQ,e]at this;exact this
   .intro h i hi
    have hi':=Je.mp hi;simp only[Qe hi',JQ];exact h _ (Q5 hi')
  rw[e];exact⟨.bl (bs.all id),H,I.kept (t':=tk) λb x e=>hk b x (λhm=>by rw[Qy.mp hm]at e;exact Jg _ (Qj e)) (Qg _ e),rfl,q⟩
def Xj:jz->Option (List Bool)
 |[]=>ju []
 |.bool b::r=>(Xj r).map (b :: ·)
 |_=>jw
theorem Oe{K:Frag}{G:Hp}:∀{vs:List V}{ds:jz}{bs:List Bool},Reps K G vs ds->Xj ds=ju bs->vs=bs.map V.bl
 |_,_,bs,.nil,e=>by cases e;rfl
 |_,_,bs,.cons (d:=d) r t,e=>by
  cases d with
  |bool b=>
   unfold Xj at e;cases z:Xj _ with
   |none=>rw[z]at e;cases e
   |some cs=>rw[z]at e;cases e;rw[r.bl_inv,Oe t z];rfl
  |_=>cases e
def ZE:jz->jC
 |[.list ds]=>(Xj ds).map λbs=>.bool (bs.all id)
 |_=>jw
theorem HA(hc:X.calm=jx):ZW X (.builtin "all") ZE:=by
 refine⟨_,Bk hc,λvs G H ds d Q s r e k=>?_⟩;unfold ZE at e;split at e
 .rename_i ds
  cases z:Xj ds with
  |none=>rw[z]at e;cases e
  |some bs=>rw[z]at e;cases e;obtain⟨v,rfl,q⟩:=r.one_inv;obtain⟨l,ws,rfl,h1,r1⟩:=q.lst_inv;have hw:=Oe r1 z;subst hw;exact⟨l,bs,rfl,s.seq h1,k _ G H (.refl s) (.bl _)⟩
 .cases e
def Its(x:Str):It:=⟨λi _=>i<x.cps.size,λi H v H'=>H'=H/\∃c,x.cps[i]?=ju c/\v=.str ⟨#[c]⟩,λi _=>x.cps.size<=i⟩
theorem Bj{P:Ug}{w:World}{K:Frag}{tg:Uj}(x:Str)(t:Tok)(it:Uh):Turn P w K tg (Its x) [it] it (λi h=>h.IsStrIter it (strIterType x) x t i) where
 mem:=by simp
 obj:=λi h st b hb=>by
  have e:b=it:=by simpa using hb
  subst e;obtain⟨o,e,c,d⟩:=st;exact⟨o,e,λv z=>by rw[d]at z;cases z⟩
 keep:=λi h h' st k=>by obtain⟨o,e,c,d⟩:=st;exact⟨o,k it (by simp) o e,c,d⟩
 item:=by
  intro X hP hw hK hc i pins s σ H E I hf st hg;subst hP hw hK;obtain⟨f0,f1,f2,f3,f4,f5⟩:=hf it (by simp);have hx:x.cps[i]?=ju x.cps[i]:=JM hg
  have fin:∀h' tk(T:String),strIterType x=T->h'.IsStrIter it T x t (i+1)->Heap.SameBut it s.heap h'->["enumerate", "zip", "dict_itemiterator", "dict_reverseitemiterator", "odict_iterator", "itertools.zip_longest", "itertools.pairwise"].contains T=jy ->
    ∃u,ju (Value.str ⟨#[x.cps[i]]⟩ s.toks)=ju u/\Ul (model X.prog X.w) X.A (letOwnedTupleGo tg (.ref it) u) (λ_ s2=>∃v H',Inv X pins σ H' s2/\RelV v u/\(Its x).yld i H v H'/\s2.heap.IsStrIter it (strIterType x) x t (i+1)/\∀b∈[it],H' b=jw) E {s with heap:=h',toks:=tk}:=by
   intro h' tk T eT st' sb hn;have I1:Inv X pins σ H {s with heap:=h',toks:=tk}:=I.turned (t':=tk) (λb o hb e=>(sb.2 b hb).trans e) f0 f1 f3 f4 f5;obtain⟨o,e,c,d⟩:=id st';refine⟨_,rfl,SQ (s:={s with heap:=h',toks:=tk}) e c d hn ⟨.str ⟨#[x.cps[i]]⟩,H,I1,⟨_,rfl⟩,⟨rfl,_,hx,rfl⟩,by rw[eT];exact st',λb hb=>(hf b hb).1⟩⟩
  cases ha:x.cps.all (· < 128)with
  |true=>
   have eT:strIterType x = "str_ascii_iterator" :=by simp[strIterType,ha]
   rw[eT]at st;exact wpAny_pyNext_ascii_item st hx λh' st' sb=>fin h' _ _ eT st' sb (by decide)
  |false=>
   have eT:strIterType x = "str_iterator" :=by simp[strIterType,ha]
   rw[eT]at st;exact wpAny_pyNext_wide_item st hx λh' st' sb=>fin h' _ _ eT st' sb (by decide)
 done:=by
  intro X hP hw hK hc i pins s σ H E I hf st hg;subst hP hw hK;obtain⟨f0,f1,f2,f3,f4,f5⟩:=hf it (by simp);have hx:x.cps[i]?=jw:=Array.getElem?_eq_none hg;cases ha:x.cps.all (· < 128)with
  |true=>
   have eT:strIterType x = "str_ascii_iterator" :=by simp[strIterType,ha]
   rw[eT]at st;exact wpAny_pyNext_ascii_end (I.ok.hd hc) st hx λh' eb=>⟨rfl,I.turned (t':=s.toks) (λb o hb e=>eb b o hb e) f0 f1 f3 f4 f5⟩
  |false=>
   have eT:strIterType x = "str_iterator" :=by simp[strIterType,ha]
   rw[eT]at st;exact wpAny_pyNext_wide_end (I.ok.hd hc) st hx λh' eb=>⟨rfl,I.turned (t':=s.toks) (λb o hb e=>eb b o hb e) f0 f1 f3 f4 f5⟩
 self:=λA i s Q E st h=>by
  cases ha:x.cps.all (· < 128)with
  |true=>
   have eT:strIterType x = "str_ascii_iterator" :=by simp[strIterType,ha]
   rw[eT]at st;exact wpAny_pyIter_striter_ascii st h
  |false=>
   have eT:strIterType x = "str_iterator" :=by simp[strIterType,ha]
   rw[eT]at st;exact wpAny_pyIter_striter_wide st h
def iAny(K:Frag)(tl:TE):TI:=λσ H R=>tl σ H λx H1=>(∃a,x=.ref a/\(∃xs,SqL K H1 a xs)/\R (Itl K a) H1)∨(∃a,x=.ref a/\(∃xs,SqT K H1 a xs)/\R (Itt K a) H1) ∨ ∃z,x=.str z/\R (Its z) H1
theorem Ga{l:Uj}{tl:TE}(hl:PE X l tl):PI X tg l (iAny X.K tl):=by
 intro pins s σ H R I h;refine thn (hl pins s σ H _ I h) λv s1 ⟨x,H1,I1,r1,q1⟩=>?_
 have fpOk:∀b∈[s1.heap.objs.size],KY X pins H1 b:=λb hb=>by
  have e:b=s1.heap.objs.size:=by simpa using hb
  subst e;exact I1.fpOk (Qq _) (I1.hok.fresh (Qq _))
 rcases q1 with ⟨a,e,⟨xs,hq⟩,q⟩|⟨a,e,⟨xs,hq⟩,q⟩|⟨z,e,q⟩
 .subst e
  cases r1;obtain⟨its,rv,p,hz⟩:=I1.list hq;refine JC p.isList ?_;exact⟨s1.heap.objs.size,[s1.heap.objs.size],_,_,H1,rfl,I1.kept (t':=s1.toks) λb o e=>Qg _ e,AN a _,⟨_,QA _ jv,rfl,rfl⟩,fpOk,q⟩
 .subst e
  cases r1;obtain⟨its,rv,p,hz⟩:=I1.tuple hq;refine wpAny_pyIter_tuple p ?_;exact⟨s1.heap.objs.size,[s1.heap.objs.size],_,_,H1,rfl,I1.kept (t':=s1.toks) λb o e=>Qg _ e,ql a _,⟨_,QA _ jv,rfl,rfl⟩,fpOk,q⟩
 .subst e
  obtain⟨t,rfl⟩:=r1;refine wpAny_pyIter_strU ?_;exact⟨s1.heap.objs.size,[s1.heap.objs.size],_,_,H1,rfl,I1.kept (t':=s1.toks) λb o e=>Qg _ e,Bj z t _,⟨_,QA _ jv,rfl,rfl⟩,fpOk,q⟩
def Sf(z:Str):jz:=z.cps.toList.map λc=>.str ⟨#[c]⟩
def Pc:D->Option jz
 |.list ds=>ju ds
 |.tuple ds=>ju ds
 |.str z=>ju (Sf z)
 |_=>jw
theorem qC{K:Frag}{G1:Hp}{ad:Uh}{vs:List V}{ds:jz}(h:SqT K G1 ad vs)(r:Reps K G1 vs ds):YL K (Itt K ad) ds G1 where
 go:=λi G H s1 s2 hi=>by
  have hi':i<vs.length:=by rw[r.length];exact hi
  exact⟨vs,vs[i],Yl (s1.trans s2) h,Qe hi'⟩
 stop:=λi G H s1 s2 hi=>⟨vs,Yl (s1.trans s2) h,by rw[r.length];exact hi⟩
 yld:=λi G H x H' d s1 s2 e y=>by obtain⟨rfl,y⟩:=y;obtain⟨v,e1,r1⟩:=r.get e;have:=y vs (Yl (s1.trans s2) h);rw[e1]at this;cases this;exact⟨G,.refl s2,r1.mono s1⟩
theorem Af{K:Frag}{G1:Hp}{z:Str}:YL K (Its z) (Sf z) G1 where
 go:=λi G H s1 s2 hi=>by unfold Sf at hi;simpa[Its]using hi
 stop:=λi G H s1 s2 hi=>by unfold Sf at hi;simpa[Its]using hi
 yld:=λi G H x H' d s1 s2 e y=>by
  obtain⟨rfl,c,hc,rfl⟩:=y;unfold Sf at e;rw[Qf]at e;have:z.cps.toList[i]?=ju c:=by simpa using hc
  rw[this]at e;cases e;exact⟨G,.refl s2,.str _⟩
def KU(f:M D):M jz:=UZ f λx=>UW (Pc x)
theorem HZ{f:M D}(h:PE X e (tD X.K B G0 f)):PI X tg e (iD X.K B G0 (KU f)):=Xo (Ga h) λσ H R q=>tM.toI (R0:=Rep X.K) q λv H' G' Z' x k r a=>by
 cases x with
 |list ds=>obtain⟨ad,vs,rfl,h1,r1⟩:=r.lst_inv;exact .inl ⟨ad,rfl,⟨vs,k.gh.seq h1⟩,a _ G' H' k (.refl _) (qa h1 r1)⟩
 |tuple ds=>obtain⟨ad,vs,rfl,h1,r1⟩:=r.tup_inv;exact .inr (.inl ⟨ad,rfl,⟨vs,Yl k.gh h1⟩,a _ G' H' k (.refl _) (qC h1 r1)⟩)
 |str z=>have:=r.str_inv;subst this;exact .inr (.inr ⟨z,rfl,a _ G' H' k (.refl _) Af⟩)
 |_=>exact a.elim
theorem Inv.big{pins:List (Uh×Obj)}{σ:St}{H:Hp}{s:Uf}(I:Inv X pins σ H s):sysModules<s.heap.objs.size:=by have h:mainGlobals<s.heap.objs.size:=(I.mod.glob.keeps I.bk).lt;exact Nat.lt_trans (by decide) h
theorem Bh{P:Ug}{w:World}{H:Hp}(h:Heap)(hb:sysModules<h.objs.size):Zx P w H (h.push {cls:=.type "dict", data:=.dict #[]}) h.objs.size (.dK []):=
 ⟨Ub _,beq_eq_false_iff_ne.mpr (Ne.symm (QH hb)),[],.nil,Heap.DictOf.new h⟩
theorem Ea:PE X (.Dict [] [] pos) (λσ H Q=>∀d,H d=jw->Q (.ref d) (upd H d (.dK []))):=λpins s σ H Q I h=>
 wpAny_Dict_empty ⟨.ref s.heap.objs.size,_,I.laid (a:=s.heap.objs.size) (o:=.dK []) (t':=s.toks) (λ_ _ q=>Qg _ q) (Qq _) (Bh s.heap (Inv.big I)),rfl,h _ (I.hok.fresh (Qq _))⟩
theorem F9:PE X (.Dict [] [] pos) (tD X.K B G0 (UL (.dict []))):=U7 Ea λσ H Q ⟨G,Z,k,a⟩ d hd=>aft.done a k (Ext.new k.gh hd) (.dic KP)
def inS(i j:Str):Bool:=!(Builtin.Str.occurrences j i 0 j.length 1).isEmpty
def oInS:D->D->jJ
 |.str i,.str j=>ju (inS i j)
 |_,_=>jw
def Oh:D->D->jJ
 |.str i,.str j=>ju (!inS i j)
 |_,_=>jw
theorem Hz:OpB X (Uo .In) oInS:=⟨_,AJ,λv u G H x y d Q s rx ry e k=>by
 unfold oInS at e;split at e
 .cases e
  have:=rx.str_inv;subst this;have:=ry.str_inv;subst this;exact⟨_,_,rfl,rfl,k⟩
 .cases e⟩
theorem HY:OpB X (Uo .NotIn) Oh:=⟨_,qZ,λv u G H x y d Q s rx ry e k=>by
 unfold Oh at e;split at e
 .cases e
  have:=rx.str_inv;subst this;have:=ry.str_inv;subst this;exact⟨_,_,rfl,rfl,k⟩
 .cases e⟩
theorem Hy{x:Str}{i:Int}(hg:Gl X x)(hm:∃t,X.mg x=ju (.int i t))(hd:(x==("__debug__" : Str))=jy:=by decide):PE X (.Name x pos) (tD X.K B G0 (UL (.int i))):=by obtain⟨t,hm⟩:=hm;exact U7 (Pl (v:=.int i) hg hm ⟨t,rfl⟩ hd) λσ H Q ⟨G,Z,k,a⟩=>aft.now a k (.int _)
end
section
variable{X:Cx}{B G0:Hp}{KX:XW}{e o a b c tg i:Uj}{pos p2:Pos}{es rest:jF}{te to ti:TE}
def HX(te to ti:TE):TS:=λD σ H=>te σ H λv H1=>to σ H1 λx H2=>ti σ H2 λk H3=>∃l xs n,x=.ref l/\H3 l=ju (.lst xs)/\k=.int n/\0<=n/\n<xs.length/\D.nx σ (upd H3 l (.lst (xs.set n.toNat v)))
theorem Bg(he:PE X e te)(ho:PE X o to)(hi:PE X i ti)(hs:swapsWith e (ju (.Subscript o i p2)) pos.line X.env=pure jy:=by rfl):PS X (.Assign [.Subscript o i p2] e pos) (HX te to ti):=by
 intro pins s σ H D I h;refine wpAny_Assign_Subscript (thn (he pins s σ H _ I h) λv s1 ⟨x,H1,I1,r1,q1⟩=>thn (ho pins s1 σ H1 _ I1 q1) λov s2 ⟨y,H2,I2,r2,q2⟩=>thn (hi pins s2 σ H2 _ I2 q2) λiv s3 ⟨k,H3,I3,r3,q3⟩=>?_) hs;obtain⟨l,xs,n,rfl,hl,rfl,h0,h1,q⟩:=q3;cases r2;obtain⟨t,rfl⟩:=r3;obtain⟨z,its,m,r,hlen,ee⟩:=I3.lstM hl
 refine PySem.W.ki_setAt (items:=its.toArray) (n:=m) ee h0 (by
                                  have:Uk<2 ^ 63:=by decide
                                  omega) (by simp;omega) ?_
 refine⟨σ,_,I3.lset (t':=s3.toks) (its:=its) (its':=its.set n.toNat v) (f:=(·.setIfInBounds n.toNat v)) hl ee (by simp) (r.set r1 n.toNat) (by rw[List.length_set];exact z),q⟩
def W2(j:Nat)(g f:M D):SM:=sB f λd Z1=>match Z1[j]? with
 |some (ju (.own _))=>sB g (λy Z2=>match y with
  |.int k=>(match Z2[j]? with
   |some (ju (.own ds))=>if 0<=k/\k<ds.length then .nx (Z2.set j (ju (.own (ds.set k.toNat d))))else .bad
   |_=>.bad)
  |_=>.bad) Z1
 |_=>.bad
theorem F8{j:Nat}{f g:M D}(he:PE X e (tD X.K B G0 f))(ho:PE X o (KT j))(hi:PE X i (tD X.K B G0 g))(hs:swapsWith e (ju (.Subscript o i p2)) pos.line X.env=pure jy:=by rfl) :
  PS X (.Assign [.Subscript o i p2] e pos) (tS X.K B G0 KX (W2 j g f)):=
 Zb (Bg he ho hi hs) λD σ H q=>tS.bnd (R:=Rep X.K) q λv H1 G1 Z1 d k r a=>by
  cases q0:Z1[j]? with
  |none=>rw[q0]at a;exact a.elim
  |some o0=>
   cases o0 with
   |none=>rw[q0]at a;exact a.elim
   |some sl0=>
    cases sl0 with
    |deep _ _=>rw[q0]at a;exact a.elim
    |pub d=>rw[q0]at a;exact a.elim
    |own xG=>
     rw[q0]at a;obtain⟨ad,vs0,h1,h2,h3,h4,h5⟩:=k.own j xG q0;refine⟨.ref ad,h1,G1,Z1,k,?_⟩;dsimp only at a;unfold sB at a;cases z:g Z1 with
     |bad=>rw[z]at a;exact a.elim
     |ok y Z2=>
      rw[z]at a;dsimp only at a;intro kv G' H' k' s' r';cases y with
      |int n=>
       dsimp only at a;cases q:Z2[j]? with
       |none=>rw[q]at a;exact a.elim
       |some oo=>
        cases oo with
        |none=>rw[q]at a;exact a.elim
        |some sl=>
         cases sl with
         |deep _ _=>rw[q]at a;exact a.elim
         |pub d=>rw[q]at a;exact a.elim
         |own ds=>
          rw[q]at a;dsimp only at a;split at a
          .rename_i hn
           obtain⟨ad',vs,g1,g2,g3,g4,g5⟩:=k'.own j ds q;rw[h1]at g1;cases g1;refine⟨ad,vs,n,rfl,g4,r'.int_inv,hn.1,by rw[g5.length];exact hn.2,?_⟩;exact a σ G' _ (k'.change q h1 (g5.set (r.mono s') n.toNat)) s'
          .exact a.elim
      |_=>exact a.elim
def YT(z:Str)(lo hi:jD):Str:=if(Builtin.Str.strSliceIndices lo hi 1 z.length).length=z.length then z else⟨((Builtin.Str.strSliceIndices lo hi 1 z.length).filterMap (z.cps[·]?)).toArray⟩
theorem HW:SlR X (λx lo hi H Q=>∃z,x=.str z/\(YT z lo hi).length<=Uk/\Q (.str (YT z lo hi)) H):=by
 intro pins s σ H x v vl vu lo hi sl Q I rx hs pl pu h;obtain⟨z,rfl,hz,q⟩:=h;obtain⟨t,rfl⟩:=rx;refine⟨"str", _,F.slot_str_getitem.lookup,typeIs_str s z t,?_⟩
 obtain⟨l,el,e1⟩:∃l:Option (Int×Tok),vl=partValue l/\l.map (·.1)=lo:=by
  cases pl with
  |none=>exact⟨jw,rfl,rfl⟩
  |int k t'=>exact⟨ju (k,t'),rfl,rfl⟩
 obtain⟨u,eu,e2⟩:∃u:Option (Int×Tok),vu=partValue u/\u.map (·.1)=hi:=by
  cases pu with
  |none=>exact⟨jw,rfl,rfl⟩
  |int k t'=>exact⟨ju (k,t'),rfl,rfl⟩
 subst el eu;refine wpAny_getItem_str_slice (l:=l) (u:=u) (st:=jw) hs jv ?_;unfold sliceMade slicePicked;rw[e1,e2];unfold YT at hz q;by_cases hw:(Builtin.Str.strSliceIndices lo hi 1 z.length).length=z.length
 .rw[Qo hw]at hz q
  rw[if_pos (by simp[hw])];exact⟨.str z,H,I,⟨t,rfl⟩,q⟩
 .rw[QC hw]at hz q
  rw[if_neg (by simp[hw])];exact⟨hz,.str _,H,I.tok _,⟨_,rfl⟩,q⟩
end
section
variable{X:Cx}{B G0:Hp}{KX:XW}{e o a b c tg i:Uj}{pos p2:Pos}{es rest:jF}{te to ti:TE}
theorem pvb(i:Nat){x:Str}{pos:Pos}{N':List Str}{scope:Scope}{cl:List (Str×Uh)}{C:Uh}{s₀:Uf}{H₀:Hp}{ex:jH}(hN:N'[i]?=ju x:=by rfl)
  (h:scope.names.lookup x=ju .local∨scope.names.lookup x=ju .free:=by first|exact .inl rfl|exact .inr jv) (hd:(x==("__debug__" : Str))=jy:=by decide) (hcd:(x==("__classdict__" : Str))=jy:=by decide) :
  PE (X.blk N' scope cl C s₀ H₀ ex) (.Name x pos) (KT i):=O2 hN (Ef h) hd hcd
def Wd:D->jD->jD->jC
 |.list xs,lo,hi=>ju (.list (DL.cutD xs lo hi))
 |.str z,lo,hi=>if(YT z lo hi).length<=1000000 then ju (.str (YT z lo hi))else jw
 |_,_,_=>jw
def KD(f:M D)(lo hi:M jD):M D:=UZ f λx=>UZ lo λl=>UZ hi λh=>UW (Wd x l h)
theorem qr{lo hi:Option Uj}{f:M D}{l h:M jD}(he:PE X e (tD X.K B G0 f))(hl:PO X lo (tOi X.K B G0 l))(hu:PO X hi (tOi X.K B G0 h)) :
  PE X (.Subscript e (.Slice lo hi jw p2) pos) (tD X.K B G0 (KD f l h)):=
 U7 (Cw (Dq.or HW) he hl hu) λσ H Q q=>by
  refine tM.one (R:=Rep X.K) q λv H2 G Z x k r a=>?_;refine tM.nx (R:=λ_ b c=>b=c) k a λl' H3 G3 Z3 xl k3 s3 r3 a3=>?_;refine tM.nx (R:=λ_ b c=>b=c) k3 a3 λh' H4 G4 Z4 xh k4 s4 r4 a4=>?_;have r3:l'=xl:=r3;have r4:h'=xh:=r4;subst r3 r4;unfold UW Wd at a4
  cases x with
  |list xs=>obtain⟨ad,vs,rfl,h1,r1⟩:=((r.mono s3).mono s4).lst_inv;exact .inl ⟨ad,vs,rfl,k4.gh.seq h1,λp hp=>aft.done a4 k4 (Ext.new k4.gh hp) (.lst (SqL.of KP) ((r1.cut l' h').mono (Zj (k4.gh.free hp))))⟩
  |str z=>
   dsimp only at a4;have:=r.str_inv;subst this;by_cases hc:(YT z l' h').length<=1000000
   .rw[Qo hc]at a4
    exact .inr ⟨z,rfl,QP hc lim,aft.now a4 k4 (.str _)⟩
   .rw[QC hc]at a4;exact a4.elim
  |_=>exact a4.elim
end
section
variable{X:Cx}{B G0:Hp}{e o a b c tg:Uj}{pos p2:Pos}{es rest:jF}{te to ti:TE}
def KL{β:Type}(p:D->D->Option β)(i:Nat)(g:M D):M β:=λZ=>match Z[i]? with
 |some (ju (.pub d))=>(UZ g λy=>UW (p d y)) Z
 |some (ju (.own _))=>(UZ g λy=>λZ'=>match Z'[i]? with|some (ju (.own ds))=>UW (p (.list ds) y) Z'|_=>.bad) Z
 |_=>.bad
theorem Og{K:Frag}{σ:St}{H:Hp}{p:D->D->jJ}{r:R2}{i:Nat}{g:M D}{Q:Bool->Hp->Prop}{QV:VK}(hq:∀t H3,Q t H3->QV (.bl t) H3)(hr:∀v u G H x y d Q,Same G H->Rep K G v x->Rep K G u y->p x y=ju d->Q (.bl d) H->r v u H Q)
  (q:tBo K B G0 (KL p i g) σ H Q):KT i σ H λx H1=>tD K B G0 g σ H1 λy H2=>r x y H2 QV:=by
 obtain⟨G,Z,k,a⟩:=q;unfold KL at a;cases q:Z[i]? with
 |none=>rw[q]at a;exact a.elim
 |some o=>
  cases o with
  |none=>rw[q]at a;exact a.elim
  |some sl=>
   cases sl with
   |deep _ _=>rw[q]at a;exact a.elim
   |pub d=>
    rw[q]at a;obtain⟨v,h1,h2⟩:=k.pub i d q;refine⟨v,h1,G,Z,k,?_⟩;dsimp only[UZ]at a;cases z:g Z with
    |bad=>rw[z]at a;exact a.elim
    |ok y Z1=>rw[z]at a;intro u G' H' k' s' r';obtain⟨d',e',a'⟩:=aft.opt a;exact hr v u G' H' d y d' _ k'.gh (h2.mono s') r' e' (hq _ _ (a' d' G' H' k' s' jv))
   |own ds=>
    rw[q]at a;obtain⟨ad,vs,h1,h2,h3,h4,h5⟩:=k.own i ds q;refine⟨.ref ad,h1,G,Z,k,?_⟩;dsimp only[UZ]at a;cases z:g Z with
    |bad=>rw[z]at a;exact a.elim
    |ok y Z1=>
     rw[z]at a;dsimp only at a;intro u G' H' k' s' r';cases q1:Z1[i]? with
     |none=>rw[q1]at a;exact a.elim
     |some oo=>
      cases oo with
      |none=>rw[q1]at a;exact a.elim
      |some sl1=>
       cases sl1 with
       |deep _ _=>rw[q1]at a;exact a.elim
       |pub d1=>rw[q1]at a;exact a.elim
       |own ds1=>
        rw[q1]at a;dsimp only at a;obtain⟨ad',ws,g1,g2,g3,g4,g5⟩:=k'.own i ds1 q1;rw[h1]at g1;cases g1;obtain⟨d',e',a'⟩:=aft.opt a;have sg:Same G' (upd G' ad (.lst ws)):=Zj g3
        have sh:Same (upd G' ad (.lst ws)) H':=λb o q=>by
         by_cases z:b=ad
         .subst z;rw[KP]at q;cases q;exact g4
         .rw[Kn z]at q;exact k'.gh b o q
        exact hr (.ref ad) u _ H' (.list ds1) y d' _ sh (.lst (SqL.of KP) (g5.mono sg)) (r'.mono sg) e' (hq _ _ (a' d' G' H' k' s' jv))
theorem F7{op:CmpOp}{p:D->D->jJ}{i:Nat}{g:M D}(o:OpB X (Uo op) p)(ha:PE X a (KT i))(hb:PE X b (tD X.K B G0 g))(hm:behindInMarks op b=jy) :
  PT X (.Compare a [op] [b] pos) (tBo X.K B G0 (KL p i g)):=by
 obtain⟨r,h,j⟩:=o;exact ZS (Pi h ha hb hm) λσ H Q q=>Og (λt H3 z=>⟨t,rfl,z⟩) j q
theorem F6{op:CmpOp}{p:D->D->jJ}{i:Nat}{g:M D}(o:OpB X (Uo op) p)(ha:PE X a (KT i))(hb:PE X b (tD X.K B G0 g))(hm:behindInMarks op b=jy) :
  PE X (.Compare a [op] [b] pos) (tD X.K B G0 (UT Us (KL p i g))):=by
 obtain⟨r,h,j⟩:=o;exact U7 (Pj h ha hb hm) λσ H Q q=>Og (λt H3 z=>z) j (tBo.val q)
end
end DL
namespace L2
open PySem PySem.Spec PyProof.Rows
end L2
namespace DL
open PySem PySem.Spec L2
open PyProof.Rows hiding St
section
variable{X:Cx}{B G0:Hp}{e o a b c tg:Uj}{pos p2 p3:Pos}{es rest:jF}{te to ti:TE}
def oIn:D->D->jJ
 |.str i,.str j=>ju (inS i j)
 |x,.list xs=>if x.canLay0=jx/\Uv xs=jx/\x.depth<=60 then ju (xs.any λy=>Ux y x)else jw
 |x,.tuple xs=>if x.canLay0=jx/\Uv xs=jx/\x.depth<=60 then ju (xs.any λy=>Ux y x)else jw
 |_,_=>jw
def Zn(x y:D):jJ:=(oIn x y).map λt=>!t
def YQ(x y:D):jJ:=match y with
 |.list xs=>if x.canLay0=jx/\Uv xs=jx/\x.depth<=60 then ju (xs.any λy=>Ux y x)else jw
 |.tuple xs=>if x.canLay0=jx/\Uv xs=jx/\x.depth<=60 then ju (xs.any λy=>Ux y x)else jw
 |_=>jw
theorem Hx(hu:X.A.units+64<cLine):OpB X (Uo .In) YQ:=by
 refine⟨λv u H Q=>∃G x y d,Same G H/\Rep X.K G v x/\Rep X.K G u y/\YQ x y=ju d/\Q (.bl d) H,?_,λv u G H x y d Q s rx ry e k=>⟨G,x,y,d,s,rx,ry,e,k⟩⟩;intro pins s σ H x y v u Q I rx ry ⟨G,dx,dy,d,sg,px,py,e,q⟩;unfold YQ at e;split at e
 .split at e
  .rename_i c
   cases e;obtain⟨as,ra⟩:=Yt I sg px rx c.1;obtain⟨bs,rb⟩:=Yt I sg py ry (show Uv _=jx from c.2.1);exact SeqAt.in_list_reads rb ra c.2.1 c.1 (by have:=c.2.2;omega) ⟨.bl _,H,I,rfl,q⟩
  .cases e
 .split at e
  .rename_i c
   cases e;obtain⟨as,ra⟩:=Yt I sg px rx c.1;obtain⟨bs,rb⟩:=Yt I sg py ry (show Uv _=jx from c.2.1);exact SeqAt.in_tuple_reads rb ra c.2.1 c.1 (by have:=c.2.2;omega) ⟨.bl _,H,I,rfl,q⟩
  .cases e
 .cases e
theorem HV(hu:X.A.units+64<cLine):OpB X (Uo .NotIn) (λx y=>(YQ x y).map λt=>!t):=by
 refine⟨λv u H Q=>∃G x y d,Same G H/\Rep X.K G v x/\Rep X.K G u y/\(YQ x y).map (λt=>!t)=ju d/\Q (.bl d) H,?_,λv u G H x y d Q s rx ry e k=>⟨G,x,y,d,s,rx,ry,e,k⟩⟩;intro pins s σ H x y v u Q I rx ry ⟨G,dx,dy,d,sg,px,py,e,q⟩;unfold YQ at e;split at e
 .split at e
  .rename_i c
   cases e;obtain⟨as,ra⟩:=Yt I sg px rx c.1;obtain⟨bs,rb⟩:=Yt I sg py ry (show Uv _=jx from c.2.1);exact SeqAt.notIn_list_reads rb ra c.2.1 c.1 (by have:=c.2.2;omega) ⟨.bl _,H,I,rfl,q⟩
  .cases e
 .split at e
  .rename_i c
   cases e;obtain⟨as,ra⟩:=Yt I sg px rx c.1;obtain⟨bs,rb⟩:=Yt I sg py ry (show Uv _=jx from c.2.1);exact SeqAt.notIn_tuple_reads rb ra c.2.1 c.1 (by have:=c.2.2;omega) ⟨.bl _,H,I,rfl,q⟩
  .cases e
 .cases e
theorem B_in(hu:X.A.units+64<cLine):OpB X (Uo .In) oIn:=(Hz.or (Hx hu)).congr λx y=>by cases x<;>cases y<;>rfl
theorem Hw(hu:X.A.units+64<cLine):OpB X (Uo .NotIn) Zn:=(HY.or (HV hu)).congr λx y=>by cases x<;>cases y<;>rfl
theorem Ae{tl th ts:TO}{lo hi:Option Uj}{st:Uj}(he:PE X e te)(hl:PO X lo tl)(hu:PO X hi th)(hst:PO X (ju st) ts):PE X (.Subscript e (.Slice lo hi (ju st) p2) pos)
  (λσ H Q=>te σ H λx H1=>tl σ H1 λl H2=>th σ H2 λu H3=>ts σ H3 λt H4=>∃a xs,x=.ref a/\SqL X.K H4 a xs/\l=jw/\u=jw/\t=ju (-1)/\∀p,H4 p=jw->Q (.ref p) (upd H4 p (.lst xs.reverse))):=by
 intro pins s σ H Q I h;refine Subscript_ (thn (he pins s σ H _ I h) λv s1 ⟨x,H1,I1,r1,q1⟩=>?_);refine wpAny_Slice (thn (hl pins s1 σ H1 _ I1 q1) λvl s2 ⟨l,H2,I2,pl,q2⟩=>thn (hu pins s2 σ H2 _ I2 q2) λvu s3 ⟨u,H3,I3,pu,q3⟩=>thn (hst pins s3 σ H3 _ I3 q3) λvt s4 ⟨t,H4,I4,pt,q4⟩=>?_);obtain⟨a,xs,rfl,hx,rfl,rfl,rfl,q⟩:=q4;cases r1;have I5:Inv X pins σ H4 {s4 with heap:=s4.heap.push {cls:=.type "slice", data:=.fields #[vl,vu,vt]}}:=I4.kept (t':=s4.toks) λb ob q=>Qg _ q
 obtain⟨its,r,ht,hz⟩:=I5.list hx;have hlen:=r.length;have hg:Ul (model X.prog X.w) X.A (getItem (.ref a) (.ref s4.heap.objs.size)) (EP X pins σ Q) X.xe {s4 with heap:=s4.heap.push {cls:=.type "slice", data:=.fields #[vl,vu,vt]}}:=by refine wpAny_getItem_list_slice ht.isList (Heap.IsSliceOf.new ..) pl pu pt (by simp) ?_ (by rw[List.size_toArray]<;>omega);rw[PySem.W.krv_pick];refine⟨.ref _,_,I5.laid (t':=s4.toks) (o:=.lst xs.reverse) (λb ob q=>Qg _ q) (Qq _) ?_,rfl,q _ (I5.hok.fresh (Qq _))⟩;exact⟨by rw[Ju];exact hz,its.reverse,0,r.reverse,QA _ jv⟩
 show Ul (model X.prog X.w) X.A (subscriptTail e (.Slice lo hi (ju st) p2) (.ref a) (.ref s4.heap.objs.size)) (EP X pins σ Q) X.xe {s4 with heap:=s4.heap.push {cls:=.type "slice", data:=.fields #[vl,vu,vt]}};exact tail_any (ops:=[.ref a,.ref s4.heap.objs.size]) ht.isList.typeIs slot_list_getitem.lookup hg (by with_unfolding_all rfl)
def We:D->jD->jD->jD->jC
 |.list xs,jw,jw,ju i=>if i = -1 then ju (.list xs.reverse)else jw
 |_,_,_,_=>jw
def YR(f:M D)(lo hi st:M jD):M D:=UZ f λx=>UZ lo λl=>UZ hi λh=>UZ st λt=>UW (We x l h t)
theorem F5{lo hi:Option Uj}{st:Uj}{f:M D}{l h t:M jD}(he:PE X e (tD X.K B G0 f))(hl:PO X lo (tOi X.K B G0 l))(hu:PO X hi (tOi X.K B G0 h))(hst:PO X (ju st) (tOi X.K B G0 t)) :
  PE X (.Subscript e (.Slice lo hi (ju st) p2) pos) (tD X.K B G0 (YR f l h t)):=
 U7 (Ae he hl hu hst) λσ H Q q=>by
  refine tM.one (R:=Rep X.K) q λv H2 G Z x k r a=>?_;refine tM.nx (R:=λ_ b c=>b=c) k a λl' H3 G3 Z3 xl k3 s3 r3 a3=>?_;refine tM.nx (R:=λ_ b c=>b=c) k3 a3 λh' H4 G4 Z4 xh k4 s4 r4 a4=>?_;refine tM.nx (R:=λ_ b c=>b=c) k4 a4 λt' H5 G5 Z5 xt k5 s5 r5 a5=>?_;have r3:l'=xl:=r3;have r4:h'=xh:=r4;have r5:t'=xt:=r5;subst r3 r4 r5
  cases x with
  |list xs=>
   cases l' with
   |some _=>exact a5.elim
   |none=>
   cases h' with
   |some _=>exact a5.elim
   |none=>
   cases t' with
   |none=>exact a5.elim
   |some i=>
   obtain⟨ad,vs,rfl,h1,r1⟩:=(((r.mono s3).mono s4).mono s5).lst_inv;by_cases hi:i = -1
   .subst hi
    exact⟨ad,vs,rfl,k5.gh.seq h1,rfl,rfl,rfl,λp hp=>aft.done a5 k5 (Ext.new k5.gh hp) (.lst (SqL.of KP) (r1.reverse.mono (Zj (k5.gh.free hp))))⟩
   .unfold UW We at a5
    dsimp only at a5;rw[QC hi]at a5;exact a5.elim
  |_=>unfold UW We at a5;exact a5.elim
def YD:jz->Option jz
 |[.list xs]=>ju xs
 |[.tuple xs]=>ju xs
 |_=>jw
theorem M4{x l:jz}(h:YD x=ju l):x=[.list l]∨x=[.tuple l]:=by
 unfold YD at h;split at h
 .cases h;exact .inl jv
 .cases h;exact .inr jv
 .cases h
theorem Lb:bootBuiltins "list" = ju (.type "list"):=by decide +kernel
theorem Bf{f:M jz}(hg:Gl X "list")(hm:X.mg "list" = jw)(ha:PA X [a] (tDs X.K B G0 f))(he:Um [a] X.env=(jy,eval a X.env)::Um [] X.env:=by rfl) :
  PE X (.Call (.Name "list" p2) [a] [] pos) (tL X.K B G0 (UZ f λxs=>UW (YD xs))):=
 U7 (RM Lq hg hm Lb ha (by decide) (by decide) he jv) λσ H Q ⟨G,Z,k,q⟩=>by
  refine⟨G,Z,k,?_⟩;unfold UZ at q;cases z:f Z with
  |bad=>rw[z]at q;exact q.elim
  |ok xs Z1=>
   rw[z]at q;dsimp only[UW]at q;intro vs G' H' k' s' r;cases z2:YD xs with
   |none=>rw[z2]at q;exact q.elim
   |some l=>
    rw[z2]at q;rcases M4 z2 with rfl|rfl
    .obtain⟨v,rfl,q1⟩:=r.one_inv
     obtain⟨p,ws,rfl,h1,r1⟩:=q1.lst_inv;exact⟨p,ws,rfl,.inl (k'.gh.seq h1),λad hp=>q ad ws G' _ (k'.ext (Ext.hid k'.gh hp)) s' (NewL.of k' hp r1)⟩
    .obtain⟨v,rfl,q1⟩:=r.one_inv
     obtain⟨p,ws,rfl,h1,r1⟩:=q1.tup_inv;exact⟨p,ws,rfl,.inr (Yl k'.gh h1),λad hp=>q ad ws G' _ (k'.ext (Ext.hid k'.gh hp)) s' (NewL.of k' hp r1)⟩
def X4(i:Nat):M jz:=λZ=>match Z[i]? with
 |some (ju (.pub d))=>UW (YD [d]) Z
 |some (ju (.own ds))=>.ok ds Z
 |_=>.bad
theorem Ad{i:Nat}(hg:Gl X "list")(hm:X.mg "list" = jw)(ho:PE X a (KT i))(he:Um [a] X.env=(jy,eval a X.env)::Um [] X.env:=by rfl) :
  PE X (.Call (.Name "list" p2) [a] [] pos) (tL X.K B G0 (X4 i)):=
 U7 (RM Lq hg hm Lb (Yo ho Xh he) (by decide) (by decide) he jv) λσ H Q ⟨G,Z,k,q⟩=>by
  unfold X4 at q;cases z:Z[i]? with
  |none=>rw[z]at q;exact q.elim
  |some oo=>
   cases oo with
   |none=>rw[z]at q;exact q.elim
   |some sl=>
    cases sl with
    |deep _ _=>rw[z]at q;exact q.elim
    |own ds=>rw[z]at q;dsimp only at q;obtain⟨ad,vs,h1,h2,h3,h4,h5⟩:=k.own i ds z;exact⟨.ref ad,h1,ad,vs,rfl,.inl (SqL.of h4),λl hp=>q l vs G _ (k.ext (Ext.hid k.gh hp)) (.refl _) (NewL.of k hp h5)⟩
    |pub d=>
     rw[z]at q;dsimp only[UW]at q;obtain⟨v,h1,h2⟩:=k.pub i d z;cases z2:YD [d]with
     |none=>rw[z2]at q;exact q.elim
     |some l=>
      rw[z2]at q;dsimp only at q;rcases M4 z2 with e|e
      .cases e
       obtain⟨p,ws,rfl,g1,r1⟩:=h2.lst_inv;exact⟨_,h1,p,ws,rfl,.inl (k.gh.seq g1),λad hp=>q ad ws G _ (k.ext (Ext.hid k.gh hp)) (.refl _) (NewL.of k hp r1)⟩
      .cases e
       obtain⟨p,ws,rfl,g1,r1⟩:=h2.tup_inv;exact⟨_,h1,p,ws,rfl,.inr (Yl k.gh g1),λad hp=>q ad ws G _ (k.ext (Ext.hid k.gh hp)) (.refl _) (NewL.of k hp r1)⟩
def Sc:jz->jC
 |[.int i]=>ju (.int i)
 |[.bool b]=>ju (.int (if b then 1 else 0))
 |_=>jw
theorem HU:ZW X (.type "int") Sc:=by
 refine⟨_,AH,λvs G H ds d Q s r e k=>?_⟩;unfold Sc at e;split at e
 .cases e
  obtain⟨v,rfl,q⟩:=r.one_inv;rw[q.int_inv];exact .inl ⟨_,rfl,k _ G H (.refl s) (.int _)⟩
 .cases e
  obtain⟨v,rfl,q⟩:=r.one_inv;rw[q.bl_inv];exact .inr ⟨_,rfl,k _ G H (.refl s) (.int _)⟩
 .cases e
theorem Hv{x:Str}{zs:List Str}(hg:Gl X x)(hm:∃ad o its n,X.mg x=ju (.ref ad)/\X.K.lookup ad=ju o/\o.cls=.type "tuple" /\ o.data=.seq its n/\its.size<=Uk/\Vals (zs.map V.str) its.toList)(hd:(x==("__debug__" : Str))=jy:=by decide) :
  PE X (.Name x pos) (tD X.K B G0 (UL (.tuple (zs.map Ut)))):=by
 obtain⟨ad,o,its,n,hm,h1,h2,h3,h4,h5⟩:=hm;refine U7 (Pl (v:=.ref ad) hg hm jv hd) λσ H Q ⟨G,Z,k,a⟩=>aft.now a k (.tup (.inr ⟨o,its,n,h1,h2,h3,h4,h5⟩) ?_)
 have:∀zs:List Str,Reps X.K G (zs.map V.str) (zs.map Ut):=λzs=>by
  induction zs with
  |nil=>exact .nil
  |cons z r ih=>exact .cons (.str _) ih
 exact this zs
end
section
variable{X:Cx}{B G0:Hp}{e o a b c tg:Uj}{pos p2 p3 p4:Pos}{es rest:jF}{te to ti:TE}
theorem X9:∀{ns:jA}{us:jB},Vals (ns.map V.int) us->PyProof.Rows.IntsAre us ns
 |[],_,.nil=>.nil
 |n::ns,_,.cons h t=>by obtain⟨tk,rfl⟩:=h;exact .cons n tk (X9 t)
def ZA(ns:jA):Nat:=(PyProof.Rows.firstMet (λi=>ns.getD i 0) ns.length).length
theorem Ac(hc:X.calm=jx):ZQ X (.type "set") (λxs H Q=>∃l,∃ns:jA,xs=[.ref l]/\SqL X.K H l (ns.map V.int)/\ns.length+1<4096/\∀S p,H p=jw->Q (.ref p) (upd H p (.set S (ZA ns)))):=by
 intro pins s σ H xs us Q I rx h;obtain⟨l,ns,rfl,hq,hb,q⟩:=h;obtain⟨u,rfl,ru⟩:=rx.one;cases ru;obtain⟨its,rv,p,hz⟩:=I.list hq;have hi:=X9 rv;have hn:its.toArray.size=ns.length:=by have:=rv.length;rw[List.length_map]at this;simp;omega
 refine call_set_list (I.ok.hd hc) p.isList (ns:=ns) (by simpa using hi) (by rw[hn];exact hb) λh' tk hS hk=>?_
 rw[hn]at hS;refine⟨.ref s.heap.objs.size,_,I.laid (t':=tk) (λb o e=>hk b o (Qj e) e) (Qq _) (show Zx X.prog X.w _ h' _ (.set _ (ZA ns))from hS),rfl,q _ _ (I.hok.fresh (Qq _))⟩
theorem M0:ZQ X (.builtin "len") (λxs H Q=>∃p S n,xs=[.ref p]/\H p=ju (.set S n)/\Q (.int n) H):=by
 intro pins s σ H xs us Q I rx h;obtain⟨p,S,n,rfl,hp,q⟩:=h;obtain⟨u,rfl,ru⟩:=rx.one;cases ru;obtain⟨o,es,ep,t,h1,h2,h3,h4,h5,h6,h7,h8⟩:=(show s.heap.SetOf (intKind X.prog X.w) p S n from I.hok p _ hp)
 have hsb:scanBound=4096:=rfl;refine call_len_set h1 h2 h3 h7 (by omega) ?_;rw[h8];exact⟨.int n,H,I.tok _,⟨_,rfl⟩,q⟩
def ZK:jz->Option jA
 |[]=>ju []
 |.int i::r=>(ZK r).map (i :: ·)
 |_=>jw
theorem TW{K:Frag}{G:Hp}:∀{vs:List V}{ds:jz}{ns:jA},Reps K G vs ds->ZK ds=ju ns->vs=ns.map V.int
 |_,_,ns,.nil,e=>by cases e;rfl
 |_,_,ns,.cons (d:=d) r t,e=>by
  cases d with
  |int b=>
   unfold ZK at e;cases z:ZK _ with
   |none=>rw[z]at e;cases e
   |some cs=>rw[z]at e;cases e;rw[r.int_inv,TW t z];rfl
  |_=>cases e
theorem TR(ns:jA):ZK (ns.map int)=ju ns:=by
 induction ns with
 |nil=>rfl
 |cons b r ih=>rw[QN,ZK,ih];rfl
def X0:jz->jC
 |[.list ds]=>(match ZK ds with
  |some ns=>if ns.length+1<4096 then ju (.int (ZA ns))else jw
  |none=>jw)
 |_=>jw
theorem qB{xs:jz}{d:D}(h:X0 xs=ju d):∃ds ns,xs=[.list ds]/\ZK ds=ju ns/\ns.length+1<4096/\d=.int (ZA ns):=by
 unfold X0 at h;split at h
 .rename_i ds
  cases z:ZK ds with
  |none=>rw[z]at h;cases h
  |some ns=>
   rw[z]at h;dsimp only at h;split at h
   .rename_i c
    cases h;exact⟨ds,ns,rfl,z,c,rfl⟩
   .cases h
 .cases h
theorem Ab:bootBuiltins "set" = ju (.type "set"):=by decide +kernel
theorem qp{f:M jz}(hc:X.calm=jx)(hg:Gl X "len")(hm:X.mg "len" = jw)(xw:Gl X "set")(hm2:X.mg "set" = jw)(ha:PA X [a] (tDs X.K B G0 f))(he:Um [a] X.env=(jy,eval a X.env)::Um [] X.env:=by rfl)
  (kR:Um [.Call (.Name "set" p2) [a] [] p3] X.env=(jy,eval (.Call (.Name "set" p2) [a] [] p3) X.env)::Um [] X.env:=by rfl) :
  PE X (.Call (.Name "len" p4) [.Call (.Name "set" p2) [a] [] p3] [] pos) (tD X.K B G0 (Zg X0 f)):=
 U7 (Ve M0 hg hm boot_len (Yo (RM (Ac hc) xw hm2 Ab ha (by decide) (by decide) he jv) Xh kR) (by decide) (by decide) kR jv) λσ H Q q=>tM.one (R:=Reps X.K) q λvs H2 G Z x k r a=>by obtain⟨d,e,a⟩:=a.opt;obtain⟨ds,ns,rfl,z,c,rfl⟩:=qB e;obtain⟨v,rfl,q1⟩:=r.one_inv;obtain⟨l,ws,rfl,h1,r1⟩:=q1.lst_inv;have:=TW r1 z;subst this;refine⟨l,ns,rfl,k.gh.seq h1,c,λS p hp=>⟨p,S,ZA ns,rfl,KP,?_⟩⟩;exact aft.done a k (Ext.hid k.gh hp) (.int _)
end
end DL
namespace L2
open PySem PySem.Spec PyProof.Rows
end L2
namespace DL
open PySem PySem.Spec L2
open PyProof.Rows hiding St
end DL
namespace L2
open PySem PySem.Spec PyProof.Rows
section
variable{prog:Ug}{w:World}{A:Around}{E:Ue->Uf->Prop}{s:Uf}{M:Model}{env:Env}
theorem F4{pos:Pos}{T:String}{args:List (Bool×Sem Ue)}{kws:List (Option Str×Sem Ue)}{Q:Ue->Uf->Prop}(hp:args.any (·.1)=jy)(hk:kws.any (·.1.isNone)=jy)
  (h:Ul M A (evalArgs (.type T) jx args kws) (λa s1=>Ul M A (call (.type T) a.pos a.kw) Q E s1) E s):Ul M A (callWith pos (.type T) [] args kws) Q E s:=by
 unfold callWith;refine Qd (Js (Qv h (λa s1 h1=>Qd (Q3 ?_)) λ_ _ z=>z));simp only[hp,hk,J8];refine Qd (Qk ?_);exact Qd (Qv h1 (λr s2 hr=>Qd (Js (wpAny_point (Qk hr)))) λ_ _ z=>z)
theorem Be(l:Uh)(t:Tok)(items:Array Ue)(n:Nat)(dct:jI)(sl:Array jE) :
  Meets (Builtin.«enumerate.__new__» ⟨[.type "enumerate", .ref l],[("start", .int 1 t)]⟩) (λ_ R s=>s.heap.get? l=ju ⟨.type "list", dct,.seq items n,sl⟩ /\
   R (.ok (.ret (.ref (s.heap.push {cls:=.type "list_iterator", data:=.fields #[.ref l,.int 0 0]}).objs.size))) {s with heap:=(s.heap.push {cls:=.type "list_iterator", data:=.fields #[.ref l,.int 0 0]}).push {cls:=.type "enumerate", data:=.fields #[.none,.bool jy,.ref s.heap.objs.size,rawInt 1,.none,.none]}}):=
 .of_wp λprog w A R s h=>by
  obtain⟨hp,g,d,tk,os⟩:=s;obtain⟨hl,h⟩:=h;have hsub:=sub_enumerate;have hL:Heap.IsList (Shared.heap ⟨hp,g,d,tk,os⟩) l items:=⟨_,hl,rfl,n,rfl⟩
  wp_walk using AutoSeq1.wpAny_loadPart' hl
  refine wpAny_stack_any λst=>(Qk ?_);split
  .rename_i c _ _ _ _ _
   cases (c==Value.type "enumerate")<;>(wp_walk using(AutoSeq1.wpAny_loadPart' hl),(JC hL))<;>exact⟨_,rfl,h⟩
  ·(wp_walk using(AutoSeq1.wpAny_loadPart' hl),(JC hL));exact⟨_,rfl,h⟩
theorem jm{T newId initId:String}{Bn Bi:Builtin}{args:jB}{kw:List (Str×Ue)}{S:PySem.Spec}{Q Q1:Ue->Uf->Prop}(ft:TypeCalled T newId initId)
  (hct:checkTypeCall T ⟨args,kw⟩=pure ()) (hcn:checkBuiltinCall newId ⟨.type T::args,kw⟩=pure ()) (eN:entryFor table newId=ju Bn) (eI:entryFor table initId=ju Bi)
  (g:Meets (Bn ⟨.type T::args,kw⟩) S) (h:S A.in1 (wants Q1 E) s)
  (hnext:∀obj s1,Q1 obj s1->s1.TypeIs obj T/\argsOk initId ⟨obj::args,kw⟩/\∃Si,Meets (Bi ⟨obj::args,kw⟩) Si/\Si A.in1 (wants (λr s2=>r=.none/\Q obj s2) E) s1) :
  Ul (model prog w) A (call (.type T) args kw) Q E s:=by
 obtain⟨c,tl,hmro⟩:=ft.mro;have hmade:=ft.made;have hsub:=ft.sub;refine wpAny_call (codeAny_of_tree ?_);show Ul _ _ (callAny (.type T) _) _ _ _;refine Qk ⟨Code.quiet_builtin _ (by decide +kernel),(codeAny_builtin F.entry_type_call ?_)⟩;rw[Around.under_plain (weight_type_call_type T args kw) (units_type_call_type T args kw)];have h1:=ft.notType;have h2:=ft.canCreate
 repeat' (any_goals (first|wp_step|assumption))
 refine Jl (Jp ft.plain eN (wpAny_of_eq hcn (g prog w A.in1 _ s h))) λr s1 hr=>?_
 match r,hr with
 |.error e,hr=>exact hr
 |.ok (.ret obj),hr=>
  obtain⟨hT,hok,Si,gi,hsi⟩:=hnext _ _ hr;have hli:=ft.init.lookup;have hbi:=ft.init.bind obj
  repeat' (any_goals (first|wp_step|assumption))
  refine Jl (Jp ft.init.plain eI (ft.init.check _ _ _ _ _ _ _ _ hT hok (gi prog w A.in1 _ s1 hsi))) λr2 s2 j7=>?_
  match r2,j7 with
  |.error e,j7=>exact j7
  |.ok (.ret r),j7=>
   obtain⟨rfl,hq⟩:=j7
   repeat' (any_goals (first|wp_step|assumption))
  |.ok .next,j7=>exact j7.elim
  |.ok .brk,j7=>exact j7.elim
  |.ok .cont,j7=>exact j7.elim
 |.ok .next,hr=>exact hr.elim
 |.ok .brk,hr=>exact hr.elim
 |.ok .cont,hr=>exact hr.elim
theorem qA{T newId:String}{self:Ue}{rest:jB}{kw:List (Str×Ue)}(hl:typeLookup (.type T) "__init__" = pure (ju (.builtin "object.__init__")))
  (hm:Bind.madeBy (.type T)=pure (ju newId)) (hne:(ju newId != ju "object.__new__")=jx) :
  Meets (Builtin.«object.__init__» ⟨self::rest,kw⟩) (λ_ R s=>s.TypeIs self T/\R (.ok (.ret .none)) s):=by
 refine .of_wp λprog w A R s hs=>?_
 obtain⟨hT,hq⟩:=hs;cases rest with
 |nil=>
  cases kw with
  |nil=>exact Qk ⟨_,rfl,hq⟩
  |cons k kw=>(repeat' (any_goals (first|wp_step|assumption)));exact⟨_,rfl,hq⟩
 |cons a rest=>(repeat' (any_goals (first|wp_step|assumption)));exact⟨_,rfl,hq⟩
theorem qz(a:Ue)(t:Tok):checkTypeCall "enumerate" ⟨[a],[("start", .int 1 t)]⟩=pure ():=by kernel_rfl
theorem qo(a:Ue)(t:Tok):checkBuiltinCall "enumerate.__new__" ⟨[.type "enumerate", a],[("start", .int 1 t)]⟩=pure ():=by kernel_rfl
theorem qy(o a:Ue)(t:Tok):argsOk "object.__init__" ⟨[o,a],[("start", .int 1 t)]⟩:=by unfold argsOk;kernel_rfl
theorem qm{l:Uh}{items:Array Ue}{t:Tok}{Q:Ue->Uf->Prop}(hL:s.heap.IsList l items)
  (h:∀h',IsEnum h' (s.heap.objs.size+1) s.heap.objs.size 1 .none->h'.IsListIter s.heap.objs.size l 0->(∀b o,s.heap.get? b=ju o->h'.get? b=ju o)->Q (.ref (s.heap.objs.size+1)) {s with heap:=h'}) :
  Ul (model prog w) A (call (.type "enumerate") [.ref l] [("start", .int 1 t)]) Q E s:=by
 obtain⟨⟨c,dct,dt,sl⟩,hl,hc,n,hd⟩:=hL;replace hc:c=.type "list" :=hc;replace hd:dt=.seq items n:=hd;subst hc hd;have hz:(s.heap.push {cls:=.type "list_iterator", data:=.fields #[.ref l,.int 0 0]}).objs.size=s.heap.objs.size+1:=Heap.size_push ..;have he:IsEnum ((s.heap.push {cls:=.type "list_iterator", data:=.fields #[.ref l,.int 0 0]}).push {cls:=.type "enumerate", data:=.fields #[.none,.bool jy,.ref s.heap.objs.size,rawInt 1,.none,.none]}) (s.heap.objs.size+1) s.heap.objs.size 1 .none:=by rw[←hz];exact QA _ jv
 refine jm F.called_enumerate (qz _ t) (qo _ t) F.entry_enumerate_new F.entry_object_init (Be l t items n dct sl) (Q1:=λobj s1=>s1.TypeIs obj "enumerate" /\ Q obj s1) ⟨hl,?_⟩ λobj s1 hq=>
  ⟨hq.1,qy obj _ t,_,qA F.called_enumerate.init.lookup F.called_enumerate.made (by decide),hq.1,rfl,hq.2⟩
 show _/\_;rw[hz];exact⟨⟨_,he,rfl⟩,h _ he ⟨_,Qg _ (QA _ jv),rfl,rfl⟩ λb o x=>Qg _ (Qg _ x)⟩
end
section
variable{prog:Ug}{w:World}{A:Around}{E:Ue->Uf->Prop}{s:Uf}
theorem Aa{en it l:Uh}{i:Nat}{j:Int}{items:Array Ue}{x old:Ue}{Q:jE->Uf->Prop}(st:IsEnum s.heap en it j old)(li:s.heap.IsListIter it l i)(ls:s.heap.IsList l items)
  (at_:items[i]?=ju x) (ne:en≠it)
  (k:∀h',IsEnumOut h' en it (j+1) x s.heap.objs.size->h'.IsListIter it l (i+1)->h'.get? s.heap.objs.size=ju {cls:=.type "tuple", data:=.seq #[.int j s.toks,x]}->(∀b o,b≠en->b≠it->s.heap.get? b=ju o->h'.get? b=ju o) ->
   Q (ju (.ref s.heap.objs.size)) {s with heap:=h',toks:=s.toks+1}):Ul (model prog w) A (pyNext (.ref en)) Q E s:=by
 have ty:s.TypeIs (.ref en) "enumerate" :=⟨_,st,rfl⟩
 have lt:en<s.heap.objs.size:=Qj st;unfold pyNext;refine Qd (wpAny_attempt (wpAny_callSpecial?_slot (name:=Uz "__next__") ty F.slot_enumerate_next (wpAny_call_entry F.slot_enumerate_next ty F.entry_enumerate_next ?_ (F.args_enumerate_next_1 _))));show Ul _ _ (field (.ref en) 2 >>= _) _ _ s;refine Qd (Q8 st jv (x:=.ref it) jv ?_);refine Qd (wpAny_nextOf_list_item li ls at_ λm1 li1 c1=>?_);have c1:Heap.SameBut it s.heap m1:=c1;have st1:IsEnum m1 en it j old:=(c1.2 en ne).trans st;show Ul _ _ (field (.ref en) 3 >>= _) _ _ {s with heap:=m1};refine Qd (Q8 st1 jv (x:=rawInt j) jv ?_);show Ul _ _ (field (.ref en) 4 >>= _) _ _ {s with heap:=m1};refine Qd (Q8 st1 jv (x:=.none) jv ?_);show Ul _ _ (mkInt j >>= _) _ _ {s with heap:=m1};refine Qd (wpAny_mkInt ?_);show Ul _ _ (setField (.ref en) 3 (rawInt (j+1)) >>= _) _ _ {s with heap:=m1,toks:=s.toks+1};refine wpAny_bind (wpAny_setField_rec st1 (by simp) λm2 st2 c2=>?_);have c2:Heap.SameBut en m1 m2:=c2;have st2:IsEnum m2 en it (j+1) old:=st2;show Ul _ _ (setField (.ref en) 4 .none >>= _) _ _ {s with heap:=m2,toks:=s.toks+1};refine wpAny_bind (wpAny_setField_rec st2 (by simp) λm3 st3 c3=>?_);have c3:Heap.SameBut en m2 m3:=c3;have st3:IsEnum m3 en it (j+1) old:=st3;show Ul _ _ (newTuple [.int j s.toks,x] >>= _) _ _ {s with heap:=m3,toks:=s.toks+1};refine Qd (wpAny_newTuple ?_);have z3:m3.objs.size=s.heap.objs.size:=c3.1.trans (c2.1.trans c1.1);have st4:IsEnum (m3.push {cls:=.type "tuple", data:=.seq #[.int j s.toks,x]}) en it (j+1) old:=Qg _ (show IsEnum m3 en it (j+1) old from st3);have tp4:(m3.push {cls:=.type "tuple", data:=.seq #[.int j s.toks,x]}).get? s.heap.objs.size=ju {cls:=.type "tuple", data:=.seq #[.int j s.toks,x]}:=by rw[←z3];exact QA _ jv
 have kp4:∀b o,b≠en->b≠it->s.heap.get? b=ju o->(m3.push {cls:=.type "tuple", data:=.seq #[.int j s.toks,x]}).get? b=ju o:=λb o n1 n2 q=>Qg _ ((c3.2 b n1).trans ((c2.2 b n1).trans ((c1.2 b n2).trans q)))
 have li4:(m3.push {cls:=.type "tuple", data:=.seq #[.int j s.toks,x]}).IsListIter it l (i+1):=by obtain⟨o,q,r⟩:=li1;exact⟨o,Qg _ ((c3.2 it (Ne.symm ne)).trans ((c2.2 it (Ne.symm ne)).trans q)),r⟩
 generalize m3.push {cls:=.type "tuple", data:=.seq #[.int j s.toks,x]}=m4 at st4 tp4 kp4 li4;show Ul _ _ (Builtin.SmallTypes.ownedTupleIsFree (.ref en) >>= _) _ _ {s with heap:=m4,toks:=s.toks+1};rw[z3];refine Qd ?_;unfold Builtin.SmallTypes.ownedTupleIsFree Builtin.SmallTypes.ownedTupleHandOut;refine Qd (Q8 st4 jv (x:=.none) jv (Qk ?_));simp only[if_true];refine wpAny_bind (wpAny_rule (wpAny_bind (wpAny_field st4 jv (x:=old) jv (wpAny_bind (wpAny_setField_rec st4 (by simp) λm5 j4 c5=>?_)))));have c5:Heap.SameBut en m4 m5:=c5;have j4:IsEnum m5 en it (j+1) x:=j4;refine wpAny_bind (wpAny_bind (wpAny_setField_rec j4 (by simp) λm6 st6 c6=>?_));have c6:Heap.SameBut en m5 m6:=c6;have st6:IsEnumOut m6 en it (j+1) x s.heap.objs.size:=st6;refine wpAny_setField_rec st6 (by simp) λm7 st7 c7=>?_
 have c7:Heap.SameBut en m6 m7:=c7;have st7:IsEnumOut m7 en it (j+1) x s.heap.objs.size:=st7;have up:∀b,b≠en->m7.get? b=m4.get? b:=λb n=>(c7.2 b n).trans ((c6.2 b n).trans (c5.2 b n));refine Qd (wpAny_letGo (Qk ⟨_,rfl,Qk (k m7 st7 ?_ ((up _ (Jz lt)).trans tp4) λb o n1 n2 q=>(up b n1).trans (kp4 b o n1 n2 q))⟩))
 obtain⟨o,q,r⟩:=li4;exact⟨o,(up it (Ne.symm ne)).trans q,r⟩
theorem B9{en it l:Uh}{i:Nat}{j:Int}{items:Array Ue}{old:Ue}{Q:jE->Uf->Prop}(hh:A.handled=jw)(st:IsEnum s.heap en it j old)(li:s.heap.IsListIter it l i)(ls:s.heap.IsList l items)
  (at_:items[i]?=jw) (k:∀h',Heap.ExtBut it s.heap h'->Q jw {s with heap:=h'}):Ul (model prog w) A (pyNext (.ref en)) Q E s:=by
 have ty:s.TypeIs (.ref en) "enumerate" :=⟨_,st,rfl⟩
 unfold pyNext;refine Qd (wpAny_attempt (wpAny_callSpecial?_slot (name:=Uz "__next__") ty F.slot_enumerate_next (wpAny_call_entry F.slot_enumerate_next ty F.entry_enumerate_next ?_ (F.args_enumerate_next_1 _))));show Ul _ _ (field (.ref en) 2 >>= _) _ _ s;refine Qd (Q8 st jv (x:=.ref it) jv (Qd (m:=Builtin.SmallTypes.nextOf (.ref it)) (wpAny_nextOf_list_end hh li ls at_ λh' z c y=>?_)));obtain⟨o,q,t⟩:=y;exact Qd (wpAny_isInstance (T:= "StopIteration") (b:=jx) ⟨o,q,t⟩ isSubtype_stop (Qk (k _ c)))
end
def Td(K:Frag)(a:Uh):It:=
 ⟨λi H=>∃xs x,SqL K H a xs/\xs[i]?=ju x,
  λi H v H'=>∃p x,H p=jw/\v=.ref p/\(∀xs,SqL K H a xs->xs[i]?=ju x)/\H'=upd H p (.tup [.int (1+(i:Int)),x]),
  λi H=>∃xs,SqL K H a xs/\xs.length<=i⟩
theorem AG{P:Ug}{w:World}{K:Frag}{elts:jF}{x1}{tp:Pos}(a e it:Uh)(hne:e≠it) :
  Turn P w K (.Tuple elts x1 tp) (Td K a) [e,it] e (λi h=>(∃old,IsEnum h e it (1+(i:Int)) old)/\h.IsListIter it a i) where
 mem:=by simp
 obj:=λi h st b hb=>by
  obtain⟨⟨old,he⟩,o,ho,c,d⟩:=st;have hb':b=e∨b=it:=by simpa using hb
  rcases hb' with rfl|rfl
  .exact⟨_,he,λv z=>by have z':Data.fields _=Data.cell v:=z;cases z'⟩
  .exact⟨o,ho,λv z=>by rw[d]at z;cases z⟩
 keep:=λi h h' st k=>by obtain⟨⟨old,he⟩,hi⟩:=st;exact⟨⟨old,k e (by simp) _ he⟩,hi.at λo q=>k it (by simp) o q⟩
 item:=by
  intro X hP hw hK hc i pins s σ H E I hf st hg;subst hP hw hK;obtain⟨⟨old,he⟩,hi⟩:=st;obtain⟨xs,x,hq,hx⟩:=hg;obtain⟨its,rv,p,hz⟩:=I.list hq;obtain⟨u,hu,ru⟩:=rv.get hx;refine Aa he hi p.isList (x:=u) (by simpa using hu) hne λh1 out hi1 ht kk=>?_
  refine⟨_,rfl,wpAny_letOwnedTupleGo_enum out λh2 kR hs2=>?_⟩;have hel:e<s.heap.objs.size:=Qj he;have j6:Heap.SameBut e h1 h2:=hs2;have ht2:h2.get? s.heap.objs.size=ju {cls:=.type "tuple", data:=.seq #[.int (1+(i:Int)) s.toks,u]}:=(j6.2 _ (Jz hel)).trans ht
  have kk2:∀b o,b∉[e,it]->s.heap.get? b=ju o->h2.get? b=ju o:=λb o hb q=>by
   have j9:b≠e:=λz=>hb (by simp[z])
   have hbi:b≠it:=λz=>hb (by simp[z])
   exact(j6.2 b j9).trans (kk b o j9 hbi q)
  have hn:H s.heap.objs.size=jw:=I.hok.fresh (Qq _)
  have I2:Inv X pins σ (upd H s.heap.objs.size (.tup [.int (1+(i:Int)),x])) {s with heap:=h2,toks:=s.toks+1}:=
   I.turnedNew (fp:=[e,it]) hf kk2 (Qq _) ⟨by show 2<=Uk;decide,[.int (1+(i:Int)) s.toks,u],.cons ⟨_,rfl⟩ (.cons ru .nil),⟨_,ht2,rfl,_,rfl⟩⟩
  refine⟨.ref s.heap.objs.size,_,I2,rfl,⟨_,x,hn,rfl,λys hy=>by rw[I.list_inj hy hq];exact hx,rfl⟩,⟨⟨u,?_⟩,?_⟩,λb hb=>?_⟩
  .have e2:(1+((i+1:Nat):Int))=1+(i:Int)+1:=by omega
   rw[e2];exact kR
  .exact hi1.at λo q=>(j6.2 it (Ne.symm hne)).trans q
  .have hlt:b<s.heap.objs.size:=by
    have hb':b=e∨b=it:=by simpa using hb
    rcases hb' with rfl|rfl
    .exact hel
    .obtain⟨o,ho,_⟩:=hi;exact Qj ho
   rw[Kn (QH hlt)];exact(hf b hb).1
 done:=by intro X hP hw hK hc i pins s σ H E I hf st hg;subst hP hw hK;obtain⟨⟨old,he⟩,hi⟩:=st;obtain⟨xs,hq,hx⟩:=hg;obtain⟨its,rv,p,hz⟩:=I.list hq;have hl:=rv.length;exact B9 (I.ok.hd hc) he hi p.isList (by simp;omega) λh' eb=>⟨rfl,I.turnedL (t':=s.toks) hf λb o hb q=>eb b o (λz=>hb (by simp[z])) q⟩
 self:=λ_ _ _ _ _ st h=>by obtain⟨⟨old,he⟩,_⟩:=st;exact wpAny_pyIter_enum he h
section
variable{X:Cx}
theorem Bd{a:Uj}{ta:TA}{p pos k1 k2:Pos}{j}{elts:jF}{x1}{tp:Pos}(hg:Gl X "enumerate")(hm:X.mg "enumerate" = jw)(ha:PA X [a] ta)
  (hs:backTo pos (Um [a] X.env)=(jy,eval a X.env)::backTo pos (Um [] X.env):=by rfl) (hpl:(backTo pos (Um [a] X.env)).any (·.1)=jy:=by rfl) :
  PI X (.Tuple elts x1 tp) (.Call (.Name "enumerate" p) [a] [⟨ju "start", .Constant (.int 1) j k1,k2⟩] pos) (λσ H R=>ta σ H λvs H1=>∃a xs,vs=[.ref a]/\SqL X.K H1 a xs/\R (Td X.K a) H1):=by
 intro pins s σ H R I h;refine Jk (WP I hg hm boot_enumerate (F4 hpl jv ?_));rw[hs];refine evalArgs_kwB jv ?_;rw[←hs];refine thn (ha pos pins s σ H _ I h) λus s1 ⟨vs,H1,I1,r1,q1⟩=>?_;refine kws_cons (wpAny_Constant_int (kws_nil ?_))
 obtain⟨l,xs,e,hq,q⟩:=q1;subst e;cases r1 with
 |cons r rr=>
  cases rr;cases (show _=Value.ref l from r);have I1':=I1.tok (s1.toks+1);obtain⟨its,rv,pl,hz⟩:=I1'.list hq;refine qm pl.isList λh' he hi kk=>?_;have I2:Inv X pins σ H1 {s1 with heap:=h',toks:=s1.toks+1}:=I1'.kept (t':=s1.toks+1) kk;refine wpAny_pyIter_enum he ?_
  refine⟨s1.heap.objs.size+1,[s1.heap.objs.size+1,s1.heap.objs.size],_,_,H1,rfl,I2,AG l _ _ (Nat.succ_ne_self _),⟨⟨_,he⟩,hi⟩,λb hb=>?_,q⟩;have hb':b=s1.heap.objs.size+1∨b=s1.heap.objs.size:=by simpa using hb
  rcases hb' with rfl|rfl
  .exact I1.fpOk (JF _) (I1.hok.fresh (JF _))
  .exact I1.fpOk (Qq _) (I1.hok.fresh (Qq _))
end
end L2
namespace DL
open PySem PySem.Spec L2
open PyProof.Rows hiding St
section
variable{X:Cx}{B G0:Hp}{e a b c tg:Uj}{pos:Pos}{es rest:jF}
theorem qx{K:Frag}{G1:Hp}{ad:Uh}{vs:List V}{ds:jz}(h:SqL K G1 ad vs)(r:Reps K G1 vs ds):YL K (Td K ad) (ZZ 1 ds) G1 where
 go:=λi G H s1 s2 hi=>by
  rw[Y6]at hi;have hi':i<vs.length:=by rw[r.length];exact hi
  exact⟨vs,vs[i],(s1.trans s2).seq h,Qe hi'⟩
 stop:=λi G H s1 s2 hi=>by rw[Y6]at hi;exact⟨vs,(s1.trans s2).seq h,by rw[r.length];exact hi⟩
 yld:=λi G H x H' d s1 s2 e y=>by
  obtain⟨p,v,hp,rfl,y1,rfl⟩:=y;have z1:=y1 vs ((s1.trans s2).seq h);rw[Ob]at e;cases q:ds[i]? with
  |none=>rw[q]at e;cases e
  |some dd=>
   rw[q]at e;cases e;obtain⟨v',e1,r1⟩:=r.get q;rw[z1]at e1;cases e1;refine⟨upd G p (.tup [.int (1+(i:Int)),v]),Ext.new s2 hp,.tup (SqT.of KP) (.cons ?_ (.cons ((r1.mono s1).mono (Zj (s2.free hp))) .nil))⟩;have:((1+i:Nat):Int)=1+(i:Int):=by omega
   rw[this];exact .int _
def Tw:jz->Option jz
 |[.list ds]=>ju (ZZ 1 ds)
 |_=>jw
def Ri(f:M jz):M jz:=UZ f λx=>UW (Tw x)
theorem AF{x l:jz}(h:Tw x=ju l):∃ds,x=[.list ds]/\l=ZZ 1 ds:=by
 unfold Tw at h;split at h
 .cases h;exact⟨_,rfl,rfl⟩
 .cases h
theorem Bc{f:M jz}{p2 k1 k2:Pos}{j}{elts:jF}{x1}{tp:Pos}(hg:Gl X "enumerate")(hm:X.mg "enumerate" = jw)(ha:PA X [a] (tDs X.K B G0 f))
  (hs:backTo pos (Um [a] X.env)=(jy,eval a X.env)::backTo pos (Um [] X.env):=by rfl) (hpl:(backTo pos (Um [a] X.env)).any (·.1)=jy:=by rfl) :
  PI X (.Tuple elts x1 tp) (.Call (.Name "enumerate" p2) [a] [⟨ju "start", .Constant (.int 1) j k1,k2⟩] pos) (iD X.K B G0 (Ri f)):=Xo (Bd hg hm ha hs hpl) λσ H R q=>tM.toI (R0:=Reps X.K) q λv H' G' Z' x k r a=>by
 cases z:Tw x with
 |none=>rw[z]at a;exact a.elim
 |some l=>rw[z]at a;obtain⟨ds,rfl,rfl⟩:=AF z;obtain⟨v,rfl,q⟩:=r.one_inv;obtain⟨l,ws,rfl,h1,r1⟩:=q.lst_inv;exact⟨l,ws,rfl,k.gh.seq h1,a _ G' H' k (.refl _) (qx h1 r1)⟩
end
section
variable{X:Cx}
def most:jA->Int
 |[]=>0
 |[n]=>n
 |n::r=>if most r > n then most r else n
theorem RJ:∀{ns:jA},0<ns.length->most ns∈ns
 |[n],_=>List.mem_singleton.2 jv
 |n::m::r,_=>by
  have ih:=RJ (ns:=m::r) (Nat.succ_pos _);unfold most;split
  .exact QD _ ih
  .exact Qt ..
theorem Pb:∀{ns:jA}{a:Int},a∈ns->a<=most ns
 |[n],a,h=>by rw[List.mem_singleton.1 h];exact JA _
 |n::m::r,a,h=>by
  have ih:∀b,b∈m::r->b<=most (m::r):=λb hb=>Pb hb;unfold most;rcases Ql.1 h with e|h
  .subst e;split<;>omega
  .have:=ih a h;split<;>omega
theorem F3{ns:jA}{M:Int}(h1:M∈ns)(h2:∀a,a∈ns->a<=M):most ns=M:=
 JZ (h2 _ (RJ (List.length_pos_of_mem h1))) (Pb h1)
theorem B8(hc:X.calm=jx):ZQ X (.builtin "max") (λxs H Q=>∃l,∃ns:jA,xs=[.ref l]/\SqL X.K H l (ns.map V.int)/\0<ns.length/\Q (.int (most ns)) H):=by
 intro pins s σ H xs us Q I rx h;obtain⟨l,ns,rfl,hq,hb,q⟩:=h;obtain⟨u,rfl,ru⟩:=rx.one;cases ru;obtain⟨its,rv,p,hz⟩:=I.list hq;have hi:=X9 rv;obtain⟨ys,e⟩:=hi.allInts.items;have hns:ns=ys.toList.map (·.1):=by rw[←hi.numsOf,←nums_intItems,←e]
 have hsz:0<ys.size:=by rw[hns,Qb,Jt]at hb;exact hb
 have hl:=p.isList;rw[e]at hl;refine max_intList (I.ok.hd hc) hl hsz λv h' tk hv hk=>?_
 obtain⟨t,rfl⟩:=intItems_at hv;obtain⟨h1,h2⟩:=argBest_gt (numAt ys) (ys.size-1);refine⟨.int (most ns),H,I.kept hk,⟨t,?_⟩,q⟩;rw[F3 (M:=_) ?_ ?_]
 .rw[hns,numAt_eq];exact getD_mem (by rw[Qb,Jt];omega)
 .intro a ha
  rw[hns]at ha;obtain⟨j,hj,rfl⟩:=mem_getD ha;rw[Qb,Jt]at hj;rw[←numAt_eq];exact h2 j (by omega)
def W1:jz->jC
 |[.list ds]=>(match ZK ds with
  |some ns=>if 0<ns.length then ju (.int (most ns))else jw
  |none=>jw)
 |_=>jw
theorem B7{xs:jz}{d:D}(h:W1 xs=ju d):∃ds ns,xs=[.list ds]/\ZK ds=ju ns/\0<ns.length/\d=.int (most ns):=by
 unfold W1 at h;split at h
 .rename_i ds
  cases z:ZK ds with
  |none=>rw[z]at h;cases h
  |some ns=>
   rw[z]at h;dsimp only at h;split at h
   .rename_i c
    cases h;exact⟨ds,ns,rfl,z,c,rfl⟩
   .cases h
 .cases h
theorem GO(hc:X.calm=jx):ZW X (.builtin "max") W1:=by refine⟨_,B8 hc,λvs G H ds d Q s r e k=>?_⟩;obtain⟨ds,ns,rfl,z,c,rfl⟩:=B7 e;obtain⟨v,rfl,q1⟩:=r.one_inv;obtain⟨l,ws,rfl,h1,r1⟩:=q1.lst_inv;have:=TW r1 z;subst this;exact⟨l,ns,rfl,s.seq h1,c,k _ G H (.refl s) (.int _)⟩
theorem Mi{ns:jA}(h:0<ns.length):W1 [.list (ns.map .int)]=ju (.int (most ns)):=by unfold W1;simp only[TR,Qo h]
end
section
variable{X:Cx}{B G0:Hp}{e o:Uj}{es:jF}
theorem qw{h:Heap}{vs:jB}{xs:jz}{as:jH}{d:D}(rs:ReadsAll h vs xs as)(hxs:Uv xs=jx) :
  vs.countP (λy=>Ux (SeqAt.readOf h y) d)=xs.countP (λy=>Ux y d):=by
 have key:xs=vs.map (SeqAt.readOf h):=(SeqAt.readsAll_map xs vs as hxs rs).symm;rw[key,List.countP_map];rfl
def WV(y x:D):jC:=match y with
 |.list ds=>if x.canLay0=jx/\Uv ds=jx/\x.depth<=60 then ju (.int (ds.countP λy=>Ux y x))else jw
 |_=>jw
theorem Bb(hu:X.A.units+64<cLine):MtR X "list.count" (λv vs H Q=>∃G u y x d,vs=[u]/\Same G H/\Rep X.K G v y/\Rep X.K G u x/\WV y x=ju (.int d)/\Q (.int d) H):=by
 intro pins s σ H x xs v us Q I rx rs h;obtain⟨G,u,dy,dx,d,rfl,sg,py,px,e,q⟩:=h;obtain⟨w,rfl,xQ⟩:=rs.one;unfold WV at e;split at e
 .rename_i ds
  split at e
  .rename_i c
   obtain⟨bs,rb⟩:=Yt I sg py rx (show Uv _=jx from c.2.1);obtain⟨as,ra⟩:=Yt I sg px xQ c.1;cases rb with
   |list h1 h2 h3 h4=>rename_i l ob its cs n;obtain⟨cls,dd,data,sl⟩:=ob;simp only at h2 h3;subst h2 h3;refine call_meets F.slot_list_count ⟨_,h1,rfl⟩ F.entry_list_count (F.args_list_count_2 _ _) (SeqAt.list_countAt _ _ _ dd sl _ (λy=>Ux (SeqAt.readOf s.heap y) dx)) ⟨h1,SeqAt.items_eqAt h4 ra c.2.1 c.1 (by have:=c.2.2;omega),?_⟩;rw[qw h4 c.2.1];cases e;exact⟨.int _,H,I.tok _,⟨_,rfl⟩,q⟩
  .cases e
 .cases e
def Rt(y:D)(xs:jz):jC:=match xs with
 |[x]=>WV y x
 |_=>jw
theorem qv{ds xs:jz}{d:D}(h:Rt (.list ds) xs=ju d):∃x n,xs=[x]/\d=.int n/\WV (.list ds) x=ju (.int n):=by
 unfold Rt at h;split at h
 .rename_i x
  have h':=h;unfold WV at h;dsimp only at h;split at h
  .cases h;exact⟨x,_,rfl,rfl,h'⟩
  .cases h
 .cases h
def X3(f:M D)(g:M jz):M D:=UZ f λy=>UZ g λxs=>UW (match y with | .list ds=>Rt (.list ds) xs|_=>jw)
theorem B6{apos cpos:Pos}{f:M D}{g:M jz}(hu:X.A.units+64<cLine)(ho:PE X o (tD X.K B G0 f))(ha:PA X (e::es) (tDs X.K B G0 g))
  (hbase:attributeBase o "count" X.env (eval o X.env)=eval o X.env:=by rfl)
  (hfew:((backTo cpos (Um (e::es) X.env)).all (λx=>!x.1)&&(backToKw cpos (keywordEach [] X.env)).all (λx=>x.1.isSome)
   && decide ((e::es).length+([]:List Keyword).length+(if([]:List Keyword).isEmpty then 0 else 1)<30))=jx:=by rfl)
  (hline:(apos.endLine==cpos.line)=jx:=by rfl) (hs:Um (e::es) X.env=(jy,eval e X.env)::Um es X.env:=by rfl) (hplain:(backTo cpos (Um es X.env)).any (·.1)=jy:=by rfl) :
  PE X (.Call (.Attribute o "count" apos) (e::es) [] cpos) (tD X.K B G0 (X3 f g)):=
 U7 (SO F.plainAttrs_list F.slot_list_count F.type_list_count (Bb hu) ho ha hbase hfew hline hs hplain) λσ H Q q=>by
  refine tM.one (R:=Rep X.K) q λv H2 G Z y k r a=>?_
  cases y with
  |list ds=>
   obtain⟨l,ws,rfl,h1,r1⟩:=r.lst_inv;refine⟨.inl ⟨rfl,ws,k.gh.seq h1⟩,?_⟩;refine tM.nx (R:=Reps X.K) k a λxs H3 G3 Z3 es k3 s3 r3 a3=>?_
   obtain⟨d,e,a3⟩:=a3.opt;obtain⟨x,n,rfl,rfl,e'⟩:=qv e;obtain⟨u,rfl,ru⟩:=r3.one_inv;exact⟨G3,u,.list ds,x,n,rfl,k3.gh,r.mono s3,ru,e',aft.now a3 k3 (.int _)⟩
  |_=>
   unfold UZ at a;cases z:g Z with
   |bad=>rw[z]at a;exact a.elim
   |ok xs Z1=>rw[z]at a;exact a.elim
theorem PR{f:M D}{g:M jz}{Z Z1 Z2:UF}{ds:jz}{x d:D}(h1:f Z=.ok (.list ds) Z1)(h2:g Z1=.ok [x] Z2)(h3:WV (.list ds) x=ju d):X3 f g Z=.ok d Z2:=by unfold X3 UZ;rw[h1];dsimp only;rw[h2];dsimp only[Rt];rw[h3];rfl
end
section
variable{prog:Ug}{w:World}{A:Around}{R:Result->Uf->Prop}{h0:Heap}{l I S:Uh}{rs:List (Uh×jB)}
def YW(h h':Heap):Prop:=∀b o,h.get? b=ju o->h'.get? b=ju o
def Ls1(h:Heap)(a:Uh)(its:jB)(sl:Array jE):Prop:=∃n,h.get? a=ju {cls:=.type "list", dict:=jw,data:=.seq its.toArray n,slots:=sl}
def Ls(h:Heap)(a:Uh)(its:jB):Prop:=∃n sl,h.get? a=ju {cls:=.type "list", dict:=jw,data:=.seq its.toArray n,slots:=sl}
theorem Ls.kept{h h':Heap}{a:Uh}{its:jB}(x:Ls h a its)(k:YW h h'):Ls h' a its:=by obtain⟨n,sl,e⟩:=x;exact⟨n,sl,k _ _ e⟩
theorem AE(hh:A.in1.handled=jw)(hI:h0.objs.size<=I)(hS:h0.objs.size<=S)(hIS:S≠I)(hl:h0.IsList l (rs.map λp=>Value.ref p.1).toArray)(hr:∀p∈rs,Ls h0 p.1 p.2) :
  ∀(k i:Nat)(s:Uf)(t:Uh)(acc:jB)(c:Nat)(sl:Array jE),rs.length-i=k->i<=rs.length->YW h0 s.heap->s.heap.IsListIter I l i ->
   s.heap.get? S=ju {cls:=.type "list", dict:=jw,data:=.seq #[.ref t] c,slots:=#[]}->t≠S->t≠I->Ls1 s.heap t acc sl->acc.length+((rs.drop i).map (·.2)).flatten.length<=Uk ->
   (∀p h' tk km,YW h0 h'->Ls1 h' p (acc++((rs.drop i).map (·.2)).flatten) km->(p=t/\i=rs.length/\km=sl∨h0.objs.size<=p/\km=#[])->R (.ok (.ret (.ref p))) {s with heap:=h',toks:=tk}) ->
   codeAny (model prog w) A (.builtin "sum.loop" ⟨[.ref I,.ref S,rawInt 2,rawInt 0],[]⟩) R s:=by
 intro k;induction k with
 |zero=>
  intro i s t acc c sl hk hi hK hit hSS htS htI ht hz hR;have hin:i=rs.length:=by omega
  subst hin;refine codeAny_builtin F.entry_sum_loop ?_;rw[Around.under_plainId F.plain_sum_loop _];show Ul _ A.in1 (seqItems? (.ref S) >>= _) _ _ s;refine Qd (wpAny_seqItems hSS jv ?_);show Ul _ A.in1 (tryCatch (pyNext (.ref I)) _ >>= _) _ _ s;have hl':s.heap.IsList l (rs.map λp=>Value.ref p.1).toArray:=by obtain⟨o,e,r⟩:=hl;exact⟨o,hK _ _ e,r⟩
  refine wpAny_bind (wpAny_tryCatch (wpAny_pyNext_list_end hh hit hl' (by simp) λh' ex=>?_));refine Qk (hR t h' s.toks sl (λb o e=>?_) ?_ (.inl ⟨rfl,rfl,rfl⟩))
  .exact ex b o (QH (QE (Qj e) hI)) (hK b o e)
  .obtain⟨n,e⟩:=ht
   rw[List.drop_length,List.map_nil,List.flatten_nil,Q7];exact⟨n,ex _ _ htI e⟩
 |succ k ih=>
  intro i s t acc c sl hk hi hK hit hSS htS htI ht hz hR;have hlt:i<rs.length:=by omega
  refine codeAny_builtin F.entry_sum_loop ?_;rw[Around.under_plainId F.plain_sum_loop _];show Ul _ A.in1 (seqItems? (.ref S) >>= _) _ _ s;refine Qd (wpAny_seqItems hSS jv ?_);show Ul _ A.in1 (tryCatch (pyNext (.ref I)) _ >>= _) _ _ s;have hl':s.heap.IsList l (rs.map λp=>Value.ref p.1).toArray:=by obtain⟨o,e,r⟩:=hl;exact⟨o,hK _ _ e,r⟩
  refine wpAny_bind (wpAny_tryCatch (wpAny_pyNext_list_item (x:=.ref (rs[i]'hlt).1) hit hl' (by simp[hlt]) λh' vb sb=>?_));show Ul _ A.in1 ((holding [Value.ref (rs[i]'hlt).1] (binaryOp .Add (.ref t) (.ref (rs[i]'hlt).1))).attempt >>= _) _ _ _;refine Qd (wpAny_attempt (Js ?_));have hm:rs[i]'hlt∈rs:=Q5 hlt;have hd:rs.drop i=rs[i]'hlt::rs.drop (i+1):=JL hlt;have hK':YW h0 h':=λb o e=>(sb.2 b (QH (QE (Qj e) hI))).trans (hK b o e)
  obtain⟨n1,e1⟩:=ht;have e1':=(sb.2 t htI).trans e1;obtain⟨n2,s2,e2⟩:=(hr _ hm).kept hK';have vg:=(sb.2 S hIS).trans hSS;rw[hd,QN,QU,Qi]at hz;refine concat_meets ⟨_,e1',rfl⟩ ⟨_,e2,rfl⟩ noFill_list_add seq_list_add PySem.F.slot_list_add PySem.F.entry_list_add (PySem.F.args_list_add_2 _ _) (list_addW t _ acc.toArray _ n1 n2 jw jw sl s2 (by rw[QI,QI];omega)) ⟨e1',e2,?_⟩;have hlS:S<h'.objs.size:=Qj vg;have hlI:I<h'.objs.size:=by obtain⟨o,e,_⟩:=vb;exact Qj e
  have ea:acc.toArray++(rs[i]'hlt).2.toArray=(acc++(rs[i]'hlt).2).toArray:=by simp
  rw[ea];have hP:∀b o,h'.get? b=ju o->(h'.push {cls:=Value.type "list", data:=Data.seq (acc++(rs[i]'hlt).2).toArray}).get? b=ju o:=λb o e=>Qg _ e
  have hS1:=hP _ _ vg;have hNew:(h'.push {cls:=Value.type "list", data:=Data.seq (acc++(rs[i]'hlt).2).toArray}).get? h'.objs.size=ju {cls:=Value.type "list", data:=Data.seq (acc++(rs[i]'hlt).2).toArray}:=QA _ jv;show Ul _ A.in1 (updateSeq S (λ_=>#[.ref h'.objs.size]) >>= _) _ _ _;refine Qd (wpAny_updateSeq hS1 jv ?_);have hS2:=Jd (Obj.mapSeq λ_=>#[Value.ref h'.objs.size]) hS1 jv;refine Qd (wpAny_letGo ?_);refine Qd (wpAny_updateSeq hS2 jv (Qk ⟨plainId_quiet F.plain_sum_loop _,?_⟩));have oth:∀b o,b≠S->(h'.push {cls:=Value.type "list", data:=Data.seq (acc++(rs[i]'hlt).2).toArray}).get? b=ju o->(((h'.push {cls:=Value.type "list", data:=Data.seq (acc++(rs[i]'hlt).2).toArray}).update S (Obj.mapSeq λx=>#[Value.ref h'.objs.size])).update S (Obj.mapSeq λx=>#[Value.ref h'.objs.size])).get? b=ju o:=λb o hb e=>(QL _ _ (Ne.symm hb)).trans ((QL _ _ (Ne.symm hb)).trans e)
  refine ih (i+1) _ h'.objs.size (acc++(rs[i]'hlt).2) _ #[] (by omega) hlt ?_ ?_ (Jd _ hS2 jv) (Jz hlS) (Jz hlI) ?_ (by rw[Qi];omega) λp h'' tk km hk'' hp hq=>?_
  .exact λb o e=>oth b o (QH (QE (Qj e) hS)) (hP b o (hK' b o e))
  .obtain⟨o,e,r⟩:=vb
   exact⟨o,oth I o (Ne.symm hIS) (hP I o e),r⟩
  .exact⟨_,oth _ _ (Jz hlS) hNew⟩
  .refine hR p h'' tk km hk'' ?_ (.inr ?_)
   .rw[hd,QN,QU,←JN];exact hp
   .rcases hq with ⟨rfl, -,e⟩|hq
    .exact⟨Nat.le_of_lt (Nat.lt_of_le_of_lt hS hlS),e⟩
    .exact hq
end
section
variable{prog:Ug}{w:World}{A:Around}{E:Ue->Uf->Prop}{s:Uf}{l z:Uh}{rs:List (Uh×jB)}
theorem B5(a b:Ue):argsOk "sum" ⟨[a,b],[]⟩:=by unfold argsOk;kernel_rfl
theorem AD{Q:Ue->Uf->Prop}(hh:A.handled=jw)(hl:s.heap.IsList l (rs.map λp=>Value.ref p.1).toArray)(hr:∀p∈rs,Ls s.heap p.1 p.2)(hz:Ls s.heap z [])(hb:(rs.map (·.2)).flatten.length<=Uk)
  (h:∀p h' tk km,YW s.heap h'->Ls1 h' p (rs.map (·.2)).flatten km->(p=z/\rs=[]∨s.heap.objs.size<=p/\km=#[])->Q (.ref p) {s with heap:=h',toks:=tk}) :
  Ul (model prog w) A (call (.builtin "sum") [.ref l,.ref z]) Q E s:=by
 refine call_function_tree F.kind_sum F.plain_sum F.entry_sum (B5 _ _) ?_;unfold Builtin.«sum»;simp only[QR,QM];rw[QC (by decide)];refine Qd (wpAny_of_eq (show Builtin.Builtins.bindParams "sum" ["start"] 0 ⟨[.ref z],[]⟩=pure [ju (.ref z)]from rfl) ?_);refine Qd (JC hl ?_);refine Qd (Qk ?_);obtain⟨n,sl,ez⟩:=id hz;have ty:∀h:Heap,h.get? z=ju {cls:=.type "list", dict:=jw,data:=.seq [].toArray n,slots:=sl}->({s with heap:=h}:Uf).TypeIs (.ref z) "list" :=λh e=>⟨_,e,rfl⟩
 have ez':(s.heap.push {cls:=.type "list_iterator", data:=.fields #[.ref l,.int 0 0]}).get? z=_:=Qg _ ez;simp only[List.forIn_cons,List.forIn_nil];refine Qd (Qd (Qd (wpAny_isInstance (T:= "list") (b:=jy) (ty _ ez') F.sub_list_str ?_)));simp only[Jy,Ua];refine Qk (Qd (Qd (wpAny_isInstance (T:= "list") (b:=jy) (ty _ ez') F.sub_list_bytes ?_)));simp only[Jy,Ua];refine Qk (Qd (Qd (wpAny_isInstance (T:= "list") (b:=jy) (ty _ ez') F.sub_list_bytearray ?_)));simp only[Jy,Ua];refine Qk (Qk ?_);refine Qd (wpAny_newObj_type ?_);have hzs:=Qj ez;have s1:(s.heap.push {cls:=.type "list_iterator", data:=.fields #[.ref l,.int 0 0]}).objs.size=s.heap.objs.size+1:=Heap.size_push ..;have k2:YW s.heap ((s.heap.push {cls:=.type "list_iterator", data:=.fields #[.ref l,.int 0 0]}).push {cls:=.type "list", data:=.seq #[.ref z]}):=λb o e=>Qg _ (Qg _ e)
 refine Qk ⟨plainId_quiet F.plain_sum_loop _,AE (h0:=s.heap) (l:=l) (I:=s.heap.objs.size) (S:=(s.heap.push {cls:=.type "list_iterator", data:=.fields #[.ref l,.int 0 0]}).objs.size) (rs:=rs) hh (Qq _) (by rw[s1];exact JF _) (by rw[s1];exact Nat.succ_ne_self _) hl hr rs.length 0 _ z [] 0 sl jv (Ub _)
  k2 ⟨_,Heap.get?_push_of_some _ (Heap.get?_push_size _ jv),rfl,rfl⟩ (Heap.get?_push_size _ jv) (by rw[s1];exact Nat.ne_of_lt (Nat.lt_succ_of_lt hzs)) (Nat.ne_of_lt hzs) ⟨n,k2 _ _ ez⟩ (by simpa using hb) λp h' tk km hk hp hq=>?_⟩
 exact h p h' tk km hk (by simpa using hp) (hq.imp (λe=>⟨e.1,List.eq_nil_of_length_eq_zero e.2.1.symm⟩) id)
end
section
variable{X:Cx}{pins:List (Uh×Obj)}{σ:St}{H:Hp}{s:Uf}
theorem NZ(I:Inv X pins σ H s):∀{rs:List (Uh×List V)},(∀p∈rs,SqL X.K H p.1 p.2) ->
  ∃ts:List (Uh×jB),(ts.map λp=>Value.ref p.1)=(rs.map λp=>Value.ref p.1)/\(∀p∈ts,Ls s.heap p.1 p.2)/\Vals (rs.map (·.2)).flatten (ts.map (·.2)).flatten
 |[],_=>⟨[],rfl,(λ_ h=>by cases h),(show Vals [] []from Paired.nil)⟩
 |p::rs,h=>by
  obtain⟨ts,e,hl,hv⟩:=NZ I λq hq=>h q (QD _ hq)
  obtain⟨its,rv,⟨⟨c1,d1,t1,sl⟩,n,e1,ec,ed,et⟩,z⟩:=I.list (h p (Qt ..));simp only at ec ed et;subst ec ed et;refine⟨(p.1,its)::ts,by rw[QN,QN,e],λq hq=>?_,?_⟩
  .rcases Ql.1 hq with rfl|hq
   .exact⟨n,sl,e1⟩
   .exact hl q hq
  .rw[QN,QN,QU,QU]
   exact rv.append hv
theorem MZ:∀{as:jH}{us:jB},Vals (as.map V.ref) us->us=as.map Value.ref
 |[],_,.nil=>rfl
 |a::as,_,.cons h t=>by cases h;rw[MZ t];rfl
theorem B4(hc:X.calm=jx):ZQ X (.builtin "sum") (λxs H Q=>∃l z,∃rs:List (Uh×List V),xs=[.ref l,.ref z]/\SqL X.K H l (rs.map λp=>V.ref p.1)/\(∀p∈rs,SqL X.K H p.1 p.2)/\SqL X.K H z []/\(rs.map (·.2)).flatten.length<=Uk /\
  (rs=[]->Q (.ref z) H)/\∀p,H p=jw->Q (.ref p) (upd H p (.lst (rs.map (·.2)).flatten))):=by
 intro pins s σ H xs us Q I rx h;obtain⟨l,z,rs,rfl,hq,hr,hz,hb,q0,q⟩:=h;obtain⟨u,u',rfl,ru,ru'⟩:=RZ rx;cases ru;cases ru';obtain⟨its,rv,pl, -⟩:=I.list hq;obtain⟨ts,e,hl,hv⟩:=NZ I hr;have ei:its=ts.map λp=>Value.ref p.1:=by rw[e];have:=MZ (as:=rs.map (·.1)) (us:=its) (by rw[Jb];exact rv);rw[this,Jb];rfl
 subst ei;obtain⟨zi,rz,⟨⟨c1,d1,t1,sl⟩,n,e1,ec,ed,et⟩, -⟩:=I.list hz;cases rz;simp only at ec ed et;subst ec ed et;have hlen:=hv.length;refine AD (I.ok.hd hc) pl.isList hl ⟨n,sl,e1⟩ (by omega) λp h' tk km hk hp hq=>?_
 rcases hq with ⟨rfl,rfl⟩|⟨kO,rfl⟩
 .have hr0:rs=[]:=by
   cases rs with
   |nil=>rfl
   |cons a b=>cases e
  exact⟨.ref _,H,I.kept hk,rfl,q0 hr0⟩
 .obtain⟨m,ep⟩:=hp
  exact⟨.ref p,_,I.laid (t':=tk) hk kO (show Zx X.prog X.w _ h' _ (.lst _)from⟨hb,_,m,hv,ep⟩),rfl,q p (I.hok.fresh kO)⟩
def X2:jz->Option (List jz)
 |[]=>ju []
 |.list xs::r=>(X2 r).map (xs :: ·)
 |_=>jw
theorem Lw{K:Frag}{G:Hp}:∀{vs:List V}{ds:jz}{ls:List jz},Reps K G vs ds->X2 ds=ju ls ->
  ∃rs:List (Uh×List V),vs=(rs.map λp=>V.ref p.1)/\(∀p∈rs,SqL K G p.1 p.2)/\Reps K G (rs.map (·.2)).flatten ls.flatten/\rs.length=ls.length
 |_,_,ls,.nil,e=>by cases e;exact⟨[],rfl,(λ_ h=>by cases h),.nil,rfl⟩
 |_,_,ls,.cons (d:=d) r t,e=>by
  cases d with
  |list xs=>
   unfold X2 at e;cases z:X2 _ with
   |none=>rw[z]at e;cases e
   |some cs=>
    rw[z]at e;cases e;obtain⟨rs,rfl,h1,h2,h3⟩:=Lw t z;obtain⟨a,ws,rfl,h,rr⟩:=r.lst_inv;refine⟨(a,ws)::rs,rfl,λp hp=>?_,?_,JV (· + 1) h3⟩
    .rcases Ql.1 hp with rfl|hp
     .exact h
     .exact h1 p hp
    .rw[QN,QU,QU]
     exact rr.append h2
  |_=>cases e
theorem AC(ls:List jz):X2 (ls.map Ur)=ju ls:=by
 induction ls with
 |nil=>rfl
 |cons b r ih=>rw[QN,X2,ih];rfl
def Tl:jz->jC
 |[.list ds,.list []]=>(match X2 ds with
  |some ls=>if ls.flatten.length<=1000000 then ju (.list ls.flatten)else jw
  |none=>jw)
 |_=>jw
theorem B3{xs:jz}{d:D}(h:Tl xs=ju d):∃ds ls,xs=[.list ds,.list []]/\X2 ds=ju ls/\ls.flatten.length<=1000000/\d=.list ls.flatten:=by
 unfold Tl at h;split at h
 .rename_i ds
  cases z:X2 ds with
  |none=>rw[z]at h;cases h
  |some ls=>
   rw[z]at h;dsimp only at h;split at h
   .rename_i c
    cases h;exact⟨ds,ls,rfl,z,c,rfl⟩
   .cases h
 .cases h
theorem GN(hc:X.calm=jx):ZW X (.builtin "sum") Tl:=by
 refine⟨_,B4 hc,λvs G H ds d Q s r e k=>?_⟩;obtain⟨ds,ls,rfl,z,c,rfl⟩:=B3 e;obtain⟨v,v',rfl,q1,q2⟩:=r.two_inv;obtain⟨l,ws,rfl,h1,r1⟩:=q1.lst_inv;obtain⟨a,ws2,rfl,h2,r2⟩:=q2.lst_inv;have:=r2.nil_inv;subst this;obtain⟨rs,rfl,g1,g2,g3⟩:=Lw r1 z;refine⟨l,a,rs,rfl,s.seq h1,λp hp=>s.seq (g1 p hp),s.seq h2,?_,λe0=>?_,λp hp=>?_⟩
 .rw[g2.length];exact QP c lim
 .subst e0
  have:ls=[]:=List.eq_nil_of_length_eq_zero g3.symm;subst this;exact k _ G H (.refl s) (.lst h2 .nil)
 .exact k _ _ _ (.new s hp) (.lst (SqL.of KP) (g2.mono (Zj (s.free hp))))
end
section
variable{X:Cx}
def ZL(ns:jA):jA:=ns.mergeSort λa b=>decide (a<=b)
theorem Y7(ns:jA):(ZL ns).Perm ns:=List.mergeSort_perm ..
theorem B2(ns:jA):(ZL ns).Pairwise (· <= ·):=by have:=List.pairwise_mergeSort (le:=λa b:Int=>decide (a<=b)) (by intro a b c;simp;omega) (by intro a b;simp;omega) ns;exact this.imp (by simp)
theorem NY:∀{a b:jA},a.Perm b->a.Pairwise (· <= ·)->b.Pairwise (· <= ·)->a=b
 |[],b,p,_,_=>by rw[List.nil_perm.1 p]
 |x::a,[],p,_,_=>by have:=p.length_eq;simp at this
 |x::a,y::b,p,ha,hb=>by
  have hx:y<=x:=by
   rcases Ql.1 (p.mem_iff.1 (Qt ..))with e|e
   .exact Int.le_of_eq e.symm
   .exact(Jm.1 hb).1 x e
  have hy:x<=y:=by
   rcases Ql.1 (p.mem_iff.2 (Qt ..))with e|e
   .exact Int.le_of_eq e.symm
   .exact(Jm.1 ha).1 y e
  have e:=JZ hy hx;subst e;rw[NY (List.Perm.cons_inv p) (Jm.1 ha).2 (Jm.1 hb).2]
theorem MY:∀{us:jB}{ns:jA},PyProof.Rows.IntsAre us ns->Vals (ns.map V.int) us
 |_,_,.nil=>Paired.nil
 |_,_,.cons n t h=>Paired.cons ⟨t,rfl⟩ (MY h)
theorem AB:ZQ X (.builtin "sorted") (λxs H Q=>∃l,∃ns:jA,xs=[.ref l]/\SqL X.K H l (ns.map V.int)/\ns.length<64/\∀p,H p=jw->Q (.ref p) (upd H p (.lst ((ZL ns).map V.int)))):=by
 intro pins s σ H xs us Q I rx h;obtain⟨l,ns,rfl,hq,hb,q⟩:=h;obtain⟨u,rfl,ru⟩:=rx.one;cases ru;obtain⟨its,rv,p,hz⟩:=I.list hq;have hi:=X9 rv;have hn:its.length=ns.length:=by have:=rv.length;rw[Qb]at this;omega
 refine sorted_ints p.isList hi (by omega) λout ns' a1 a2 a3=>?_
 obtain⟨e,he⟩:=sortedAll_at s.heap its out;have en:ns'=ZL ns:=NY (a2.trans (Y7 ns).symm) a3 (B2 ns);subst en;refine⟨.ref (s.heap.objs.size+1),_,I.laid (t':=s.toks) (λb o=>sortedAll_old) (JF _) (show Zx X.prog X.w _ _ _ (.lst ((ZL ns).map V.int))from⟨?_,out.toList,e,MY a1,he⟩),rfl,q _ (I.hok.fresh (JF _))⟩;rw[Qb,(Y7 ns).length_eq];rw[Qb]at hz;exact hz
def Tv:jz->jC
 |[.list ds]=>(match ZK ds with
  |some ns=>if ns.length<64 then ju (.list ((ZL ns).map .int))else jw
  |none=>jw)
 |_=>jw
theorem AA{xs:jz}{d:D}(h:Tv xs=ju d):∃ds ns,xs=[.list ds]/\ZK ds=ju ns/\ns.length<64/\d=.list ((ZL ns).map .int):=by
 unfold Tv at h;split at h
 .rename_i ds
  cases z:ZK ds with
  |none=>rw[z]at h;cases h
  |some ns=>
   rw[z]at h;dsimp only at h;split at h
   .rename_i c
    cases h;exact⟨ds,ns,rfl,z,c,rfl⟩
   .cases h
 .cases h
theorem MX{K:Frag}{G:Hp}:∀ns:jA,Reps K G (ns.map V.int) (ns.map int)
 |[]=>.nil
 |n::r=>.cons (.int n) (MX r)
theorem F2:ZW X (.builtin "sorted") Tv:=by refine⟨_,AB,λvs G H ds d Q s r e k=>?_⟩;obtain⟨ds,ns,rfl,z,c,rfl⟩:=AA e;obtain⟨v,rfl,q1⟩:=r.one_inv;obtain⟨l,ws,rfl,h1,r1⟩:=q1.lst_inv;have:=TW r1 z;subst this;exact⟨l,ns,rfl,s.seq h1,c,λp hp=>k _ _ _ (.new s hp) (.lst (SqL.of KP) (MX _))⟩
theorem B0{ns:jA}(h:ns.length<64):Tv [.list (ns.map .int)]=ju (.list ((ZL ns).map .int)):=by unfold Tv;simp only[TR,Qo h]
end
@[simp] theorem mBind_ok{α β:Type}{f:M α}{k:α->M β}{Z Z':UF}{x:α}(h:f Z=.ok x Z'):UZ f k Z=k x Z':=by unfold UZ;rw[h]
theorem MW{s:D->UF->jG}{g:SM}{P:Nat->UF->Prop}{R:Out->Prop}:∀(ds:jz)(n:Nat)(Z:UF),P n Z ->
  (∀i d Z,ds[i]?=ju d->P (n+i) Z->∃Z1,s d Z=ju Z1/\((∃Z2,(g Z1=.nx Z2∨g Z1=.ct Z2)/\P (n+i+1) Z2)∨(∃x,g Z1=.rt x/\R (.rt x))∨(∃Z2,g Z1=.bk Z2/\R (.nx Z2))∨(∃Z2 x,g Z1=.ex Z2 x/\R (.ex Z2 x)) ∨ ∃x,g Z1=.ro x/\R (.ro x)))->(∀Z,P (n+ds.length) Z->R (.nx Z))->R (WK s g ds Z)
 |[],n,Z,h,_,f=>f Z h
 |d::r,n,Z,h,st,f=>by
  obtain⟨Z1,e1,e2⟩:=st 0 d Z jv h;rw[WK,e1];dsimp only;rcases e2 with ⟨Z2,e2,h2⟩|⟨x,e2,h2⟩|⟨Z2,e2,h2⟩|⟨Z2,x,e2,h2⟩|⟨x,e2,h2⟩
  .have goal:=MW (R:=R) r (n+1) Z2 h2 (λi d' Z3 q p=>by
    have e:n+1+i=n+(i+1):=by omega
    rw[e]at p⊢;exact st (i+1) d' Z3 (by simpa using q) p) (λZ3 p=>f Z3 (by
    have e:n+1+r.length=n+(d::r).length:=by rw[QR];omega
    rw[e]at p;exact p))
   rcases e2 with e2|e2<;>(rw[e2];exact goal)
  .rw[e2];exact h2
  .rw[e2];exact h2
  .rw[e2];exact h2
  .rw[e2];exact h2
theorem XN{lo hi:Int}{i:Nat}{d:D}(h:(Zv lo hi)[i]?=ju d):d=.int (lo+i)/\(i:Int)<hi-lo:=by have hl:i<(Zv lo hi).length:=(Qh.mp h).1;rw[YJ]at hl;unfold Zv at h;rw[Qf,Qe (by rw[Ji];exact hl),List.getElem_range]at h;cases h;exact⟨rfl,by omega⟩
theorem GM{α:Type}{xs:List α}{i:Int}{v:α}(h0:0<=i)(h:xs[i.toNat]?=ju v):atI xs i=ju v:=by have:=KE (xs:=xs) (j:=i.toNat) h;rw[JX h0]at this;exact this
section
variable{α β:Type}{Z Z1 Z2 Z3 Z':UF}{f g h:M D}
theorem UN{a:α}:UL a Z=.ok a Z:=rfl
theorem UP:UG Z=.ok [] Z:=rfl
theorem ZH{o:Option α}{a:α}(h:o=ju a):UW o Z=.ok a Z:=by subst h;rfl
theorem Ky{f:M α}{k:α->M β}{x:α}{r:Res β}(h:f Z=.ok x Z1)(h2:k x Z1=r):UZ f k Z=r:=by unfold UZ;rw[h];exact h2
theorem Kr{f:M α}{k:α->β}{x:α}(h:f Z=.ok x Z1):UT k f Z=.ok (k x) Z1:=by unfold UT UZ;rw[h];rfl
theorem UH{i:Nat}{d:D}(h:Z[i]?=ju (ju (.pub d))):UE i Z=.ok d Z:=by unfold UE;rw[h]
theorem Z8{i:Nat}{ds:jz}(h:Z[i]?=ju (ju (.own ds)))(h2:Z.set i (ju (.pub (.list ds)))=Z'):UE i Z=.ok (.list ds) Z':=by unfold UE;rw[h];subst h2;rfl
theorem US{op:D->D->Option β}{x y:D}{r:β}(h1:f Z=.ok x Z1)(h2:g Z1=.ok y Z2)(h3:op x y=ju r):UJ op f g Z=.ok r Z2:=by unfold UJ;exact Ky h1 (Ky h2 (ZH h3))
theorem UK{g:M jz}{x:D}{xs:jz}(h1:f Z=.ok x Z1)(h2:g Z1=.ok xs Z2):UI f g Z=.ok (x::xs) Z2:=by unfold UI;exact Ky h1 (Ky h2 jv)
theorem Zs{g:M jz}{xs:jz}(h1:g Z=.ok xs Z1)(h2:xs.length<=1000000):Kp g Z=.ok (.tuple xs) Z1:=by unfold Kp;exact Ky h1 (by rw[Qo h2];rfl)
theorem KQ{g:M jz}{xs:jz}(h1:g Z=.ok xs Z1)(h2:xs.length<=1000000):U2 g Z=.ok (.list xs) Z1:=by unfold U2;exact Ky h1 (by rw[Qo h2];rfl)
theorem XU{g:M jz}{xs:jz}(h1:g Z=.ok xs Z1)(h2:xs.length<=1000000):(UZ g λxs=>if xs.length<=1000000 then UL xs else λ_=>.bad) Z=.ok xs Z1:=
 Ky h1 (by rw[Qo h2];rfl)
theorem Kk{i:Nat}{d y r:D}(h:Z[i]?=ju (ju (.pub d)))(h1:g Z=.ok y Z1)(h2:oIx d y=ju r):UR i g Z=.ok r Z1:=by unfold UR;rw[h];exact Ky h1 (ZH h2)
theorem Xf{i:Nat}{ds es:jz}{y r:D}(h:Z[i]?=ju (ju (.own ds)))(h1:g Z=.ok y Z1)(h3:Z1[i]?=ju (ju (.own es)))(h2:oIx (.list es) y=ju r):UR i g Z=.ok r Z1:=by unfold UR;rw[h];exact Ky h1 (by rw[h3];exact ZH h2)
theorem ZB{p:jz->jC}{g:M jz}{xs:jz}{r:D}(h1:g Z=.ok xs Z1)(h2:p xs=ju r):Zg p g Z=.ok r Z1:=by unfold Zg;exact Ky h1 (ZH h2)
theorem Kb{n:Nat}{F:jz->jC}{g:M jz}{xs:jz}{r:D}(h1:g Z=.ok xs Z1)(h2:xs.length=n)(h3:F xs=ju r):UV n F g Z=.ok r Z1:=by unfold UV;exact Ky h1 (by rw[Qo h2];exact ZH h3)
theorem XJ{i:Int}(h1:f Z=.ok (.int i) Z1):Zp f Z=.ok (.int (-i)) Z1:=by unfold Zp;exact Ky h1 jv
theorem Kz{i:Nat}{d r:D}(h:Z[i]?=ju (ju (.pub d)))(h2:U5 [d]=ju r):Kv i Z=.ok r Z:=by unfold Kv;rw[h];exact ZH h2
theorem NX{i:Nat}{ds:jz}(h:Z[i]?=ju (ju (.own ds))):Kv i Z=.ok (.int ds.length) Z:=by unfold Kv;rw[h]
theorem XZ{g:M jz}{i:Int}{r:jz}(h1:g Z=.ok [.int i] Z1)(h2:Tn [.int i]=ju r):Y2 g Z=.ok r Z1:=by unfold Y2;exact Ky h1 (ZH h2)
theorem Px{g:M jz}{i j:Int}{r:jz}(h1:g Z=.ok [.int i,.int j] Z1)(h2:Tu [.int i,.int j]=ju r):Tt g Z=.ok r Z1:=by unfold Tt;exact Ky h1 (ZH h2)
theorem WU{g:M jz}{xs r:jz}(h1:g Z=.ok xs Z1)(h2:T9 xs=ju r):Y9 g Z=.ok r Z1:=by unfold Y9;exact Ky h1 (ZH h2)
theorem Yr{i:Int}(h1:f Z=.ok (.int i) Z1):(UZ f λx=>UW (Zf x)) Z=.ok (ju i) Z1:=Ky h1 jv
theorem Zr{f:M Bool}{t:Bool}(h1:f Z=.ok t Z1):Ka f Z=.ok (!t) Z1:=Kr h1
theorem ZC{t:Bool}(h1:f Z=.ok (.bool t) Z1):KR f Z=.ok t Z1:=by unfold KR;exact Ky h1 jv
theorem Rh{f g:M Bool}{t u:Bool}(h1:f Z=.ok t Z)(h2:t=jx->g Z=.ok u Z):KH f g Z=.ok (t&&u) Z:=by
 unfold KH;refine Ky h1 ?_;cases t with
 |true=>rw[Qo jv];exact h2 jv
 |false=>rfl
theorem Tk{f g:M Bool}{t u:Bool}(h1:f Z=.ok t Z)(h2:t=jy->g Z=.ok u Z):mOr f g Z=.ok (t || u) Z:=by
 unfold mOr;refine Ky h1 ?_;cases t with
 |false=>rw[QC (by decide)];exact h2 jv
 |true=>rfl
theorem XT{t u:Bool}(h1:f Z=.ok (.bool t) Z)(h2:t=jx->g Z=.ok (.bool u) Z):XF f g Z=.ok (.bool (t&&u)) Z:=by
 unfold XF;refine Ky h1 ?_;cases t with
 |true=>exact h2 jv
 |false=>rfl
theorem Sq{t u:Bool}(h1:f Z=.ok (.bool t) Z)(h2:t=jy->g Z=.ok (.bool u) Z):Yy f g Z=.ok (.bool (t || u)) Z:=by
 unfold Yy;refine Ky h1 ?_;cases t with
 |false=>exact h2 jv
 |true=>rfl
theorem F1{t:Bool}(h1:f Z=.ok (.bool t) Z1):Sb f Z=.ok (.bool (!t)) Z1:=by unfold Sb;exact Ky h1 jv
theorem GL{f:M Bool}{g h:M α}{r:Res α}(h1:f Z=.ok jy Z1)(h2:h Z1=r):mIf f g h Z=r:=by unfold mIf;exact Ky h1 (by rw[QC (by decide)];exact h2)
theorem Hu{f:M Bool}{g h:M α}{t:Bool}{x y:α}(h1:f Z=.ok t Z1)(h2:g Z1=.ok x Z1)(h3:h Z1=.ok y Z1):mIf f g h Z=.ok (if t=jx then x else y) Z1:=by
 unfold mIf;refine Ky h1 ?_;cases t with
 |true=>rw[Qo jv,Qo jv];exact h2
 |false=>rw[QC (by decide),QC (by decide)];exact h3
theorem RI{p q:D->D->jJ}{x y z:D}{t u:Bool}(h1:f Z=.ok x Z)(h2:g Z=.ok y Z)(h3:p x y=ju t)(h4:t=jx->h Z=.ok z Z)(h5:t=jx->q y z=ju u):W9 p q f g h Z=.ok (t&&u) Z:=by
 unfold W9;refine Ky h1 (Ky h2 (Ky (ZH h3) ?_));cases t with
 |true=>rw[Qo jv];exact Ky (h4 jv) (ZH (h5 jv))
 |false=>rfl
theorem KI{i j:Int}:UU (.int i) (.int j)=ju (.int (i+j)):=rfl
theorem Ys{x y:jz}(h:x.length+y.length<=1000000):UU (.list x) (.list y)=ju (.list (x++y)):=by unfold UU;exact Qo h
theorem ZM{i j:Int}:Ks (.int i) (.int j)=ju (.int (i-j)):=rfl
theorem Xl{i j:Int}(h1 : -18446744073709551616<i)(h2:i<18446744073709551616):U9 (.int i) (.int j)=ju (.int (i*j)):=by unfold U9 ZN;exact Qo (.inl ⟨by omega,by omega⟩)
theorem XS{i j:Int}(h1 : -18446744073709551616<j)(h2:j<18446744073709551616):U9 (.int i) (.int j)=ju (.int (i*j)):=by unfold U9 ZN;exact Qo (.inr ⟨by omega,by omega⟩)
theorem RN{x:jz}{k:Int}(h : -1000000<=k/\k<=1000000/\x.length*k.toNat<=1000000):U9 (.list x) (.int k)=ju (.list (Uq k.toNat x).flatten):=by unfold U9;exact Qo h
theorem Z7{i j:Int}(h:0<j):KS (.int i) (.int j)=ju (.int (i % j)):=by unfold KS Wk;exact Qo h
theorem Rs{i j:Int}(h:0<j)(h2:j<18446744073709551616):Yw (.int i) (.int j)=ju (.int (i / j)):=by unfold Yw Wl;exact Qo ⟨h,h2⟩
theorem F0{i j:Int}(h:0<=j/\j<=1000000/\i.natAbs<2 ^ 64):Xq (.int i) (.int j)=ju (.int (i ^ j.toNat)):=by unfold Xq Wj;exact Qo h
theorem Xe{p:Int->Int->Bool}{i j:Int}:oIB p (.int i) (.int j)=ju (p i j):=rfl
theorem WT{i j:Int}:oEq (.int i) (.int j)=ju (decide (i=j)):=by unfold oEq;rw[if_pos ⟨rfl,rfl,by simp[Uw]⟩];congr 1
theorem K1{xs:jz}:U5 [.list xs]=ju (.int xs.length):=rfl
theorem WX{xs:jz}:U5 [.tuple xs]=ju (.int xs.length):=rfl
theorem EN{i j:Int}:SR [.int i,.int j]=ju (.int (if j > i then j else i)):=rfl
theorem X6{j:Int}(h1:j<=1000000)(h2 : -1000000<=j):Tn [.int j]=ju (Zv 0 j):=by unfold Tn;exact Qo ⟨h1,h2⟩
theorem PQ{i j:Int}(h1:j<=1000000)(h2 : -1000000<=j)(h3:i<=1000000)(h4 : -1000000<=i):Tu [.int i,.int j]=ju (Zv i j):=by unfold Tu;exact Qo ⟨h1,h2,h3,h4⟩
theorem W0{xs:jz}:T9 [.list xs]=ju (ZZ 0 xs):=rfl
theorem Kl{i:Nat}{d:D}(h1:f Z=.ok d Z1)(h2:i<Z1.length)(h3:Z1.set i (ju (.pub d))=Z'):U0 i f Z=.nx Z':=by unfold U0 Zl sB gN;rw[h1];dsimp only;rw[if_pos h2];subst h3;rfl
theorem Zy{i:Nat}{f:M jz}{ds:jz}(h1:f Z=.ok ds Z1)(h2:i<Z1.length)(h3:Z1.set i (ju (.own ds))=Z'):KM i f Z=.nx Z':=by unfold KM sB;rw[h1];dsimp only;rw[if_pos h2];subst h3;rfl
theorem Xd{i:Nat}{d:D}{xG ds:jz}(h0:Z[i]?=ju (ju (.own xG)))(h1:f Z=.ok d Z1)(h2:Z1[i]?=ju (ju (.own ds)))(h3:ds.length<1000000)(h4:Z1.set i (ju (.own (ds++[d])))=Z'):Za i f Z=.nx Z':=by unfold Za sB;rw[h0];dsimp only;rw[h1];dsimp only;rw[h2];dsimp only;rw[if_pos h3];subst h4;rfl
theorem WN{d:D}{s:D->UF->jG}(h1:f Z=.ok d Z1)(h2:s d Z1=ju Z'):Zl f s Z=.nx Z':=by unfold Zl sB;rw[h1];dsimp only;rw[h2]
theorem WS{d:D}(h1:f Z=.ok d Z1):Xa f Z=.nx Z1:=by unfold Xa sB;rw[h1]
theorem UY{i:Nat}{d:D}(h:i<Z.length)(h2:Z.set i (ju (.pub d))=Z'):gN i d Z=ju Z':=by unfold gN;rw[Qo h,h2]
theorem KG:gN0 [] Z=ju Z:=rfl
theorem U4{s:D->UF->jG}{t:jz->UF->jG}{d:D}{r:jz}(h1:s d Z=ju Z1)(h2:t r Z1=ju Z'):gNC s t (d::r) Z=ju Z':=by unfold gNC;dsimp only;rw[h1];exact h2
theorem KF{n:Nat}{t:jz->UF->jG}{ds:jz}(h1:ds.length=n)(h2:t ds Z=ju Z'):gT n t (.tuple ds) Z=ju Z':=by unfold gT;dsimp only;rw[if_pos h1];exact h2
structure Ho(g:SM)(Z:UF)(Q:Out->Prop):Prop where
 out:Q (g Z)
def Ht(h:SM)(Q:Out->Prop):Out->Prop
 |.nx Z'=>Ho h Z' Q
 |o=>Q o
structure SN(h:SM)(Q:Out->Prop)(o:Out):Prop where
 out:Ht h Q o
variable{Q:Out->Prop}{s t u:SM}
theorem Kg(h:Ho s Z (SN t Q)):Ho (UM s t) Z Q:=by
 have h:=h.out.out;constructor;unfold UM;cases e:s Z with
 |nx o=>rw[e]at h;exact h.out
 |_=>rw[e]at h;exact h
theorem U3(h1:s Z=.nx Z1)(h2:Ho t Z1 Q):Ho (UM s t) Z Q:=by
 constructor;unfold UM;rw[h1];exact h2.out
theorem ZD{o:Out}(h1:s Z=o)(h2:Q o):Ho s Z Q:=by constructor;rw[h1];exact h2
theorem Ko(h:Q (.nx Z)):Ho sNx Z Q:=⟨h⟩
theorem Kj{o:UF}(h:Ho t o Q):SN t Q (.nx o):=⟨h⟩
theorem KO{d:D}(h:Q (.rt d)):SN t Q (.rt d):=⟨h⟩
theorem Kd{f:M Bool}{b:Bool}(h1:f Z=.ok b Z1)(h2:b=jx->Ho s Z1 Q)(h3:b=jy->Ho t Z1 Q):Ho (sIf f s t) Z Q:=by
 constructor;unfold sIf sB;rw[h1];dsimp only
 cases b with
 |true=>rw[Qo jv];exact(h2 jv).out
 |false=>rw[QC (by decide)];exact(h3 jv).out
theorem Kc{d:D}(h1:f Z=.ok d Z1)(h2:Q (.rt d)):Ho (UX f) Z Q:=by constructor;unfold UX sB;rw[h1];exact h2
theorem NW{P:Out->Prop}(h:Ho s Z P)(k:∀o,P o->Q o):Ho s Z Q:=⟨k _ h.out⟩
def Hs(I:UF->Prop)(Q:Out->Prop):Out->Prop
 |.nx Z | .ct Z=>I Z
 |.bk Z=>Q (.nx Z)
 |.rt d=>Q (.rt d)
 |.ex Z d=>Q (.ex Z d)
 |.ro ds=>Q (.ro ds)
 |.bad=>False
structure W6(I:UF->Prop)(Q:Out->Prop)(o:Out):Prop where
 out:Hs I Q o
theorem Zh{I:UF->Prop}(h:I Z):W6 I Q (.nx Z):=⟨h⟩
theorem DZ{Z:UF}{d:D}(h:Q (.ex Z d)):SN t Q (.ex Z d):=⟨h⟩
theorem YF{I:UF->Prop}{d:D}(h:Q (.rt d)):W6 I Q (.rt d):=⟨h⟩
theorem Zu{f:M jz}{tg:D->UF->jG}{ds:jz}(I:Nat->UF->Prop)(h1:f Z=.ok ds Z1)(h0:I 0 Z1)
  (hst:∀i d Z,ds[i]?=ju d->I i Z->∃Z2,tg d Z=ju Z2/\Ho s Z2 (W6 (I (i+1)) Q)) (hend:∀Z,I ds.length Z->Q (.nx Z)):Ho (Km f tg s) Z Q:=by
 constructor;unfold Km sB;rw[h1];dsimp only
 refine MW (P:=I) (R:=Q) ds 0 Z1 h0 (λi d Z e p=>?_) (λZ p=>hend Z (by rw[Jr]at p;exact p));rw[Jr]at p;obtain⟨Z2,e2,q⟩:=hst i d Z e p;refine⟨Z2,e2,?_⟩;rw[Jr];have q:=q.out.out;cases z:s Z2 with
 |nx o=>rw[z]at q;exact .inl ⟨o,.inl jv,q⟩
 |ct o=>rw[z]at q;exact .inl ⟨o,.inr jv,q⟩
 |rt o=>rw[z]at q;exact .inr (.inl ⟨o,rfl,q⟩)
 |bk o=>rw[z]at q;exact .inr (.inr (.inl ⟨o,rfl,q⟩))
 |ex o x=>rw[z]at q;exact .inr (.inr (.inr (.inl ⟨o,x,rfl,q⟩)))
 |ro o=>rw[z]at q;exact .inr (.inr (.inr (.inr ⟨o,rfl,q⟩)))
 |bad=>rw[z]at q;exact q.elim
theorem XI{N:List Str}{ds:jz}{P:D->Prop}(h0:ZI N ds=Z)(h:Ho s Z λo=>∃d,o=.rt d/\P d):∃d,U1 N s ds=ju d/\P d:=by subst h0;obtain⟨d,e,p⟩:=h.out;refine⟨d,?_,p⟩;unfold U1;rw[e]
theorem K3{N:List Str}{ds:jz}{d:D}(h0:ZI N ds=Z)(h:Ho s Z λo=>o=.rt d):U1 N s ds=ju d:=by obtain⟨d',e,p⟩:=XI (P:=λx=>x=d) h0 (NW h λo e=>⟨d,e,rfl⟩);rw[e,p]
end
section
variable{α β:Type}{Z Z1 Z2 Z3 Z':UF}{f g h:M D}
theorem WR{l u:M jD}{x r:D}{a b:jD}(h1:f Z=.ok x Z1)(h2:l Z1=.ok a Z2)(h3:u Z2=.ok b Z3)(h4:Wd x a b=ju r):KD f l u Z=.ok r Z3:=by unfold KD;exact Ky h1 (Ky h2 (Ky h3 (ZH h4)))
theorem YH{f g:M Bool}(h1:f Z=.ok jx Z1):mOr f g Z=.ok jx Z1:=by unfold mOr;exact Ky h1 jv
theorem K9{f g:M Bool}{u:Bool}(h1:f Z=.ok jy Z1)(h2:g Z1=.ok u Z2):mOr f g Z=.ok u Z2:=by unfold mOr;exact Ky h1 (by rw[QC (by decide)];exact h2)
theorem NV{f g:M Bool}(h1:f Z=.ok jy Z1):KH f g Z=.ok jy Z1:=by unfold KH;exact Ky h1 jv
theorem NU{f g:M Bool}{u:Bool}(h1:f Z=.ok jx Z1)(h2:g Z1=.ok u Z2):KH f g Z=.ok u Z2:=by unfold KH;exact Ky h1 (by rw[Qo jv];exact h2)
theorem Zz{c:String}{d:D}{t:Bool}(h:f Z=.ok d Z1)(ht:(!Ki d c)=t):Ka (KR (UT (λd=>.bool (Ki d c)) f)) Z=.ok t Z1:=by subst ht;exact Zr (ZC (Kr (k:=λd=>Us (Ki d c)) h))
theorem Zt{x:D}{r:jz}(h1:f Z=.ok x Z1)(h2:Pc x=ju r):KU f Z=.ok r Z1:=by unfold KU;exact Ky h1 (ZH h2)
theorem K8{p:D->D->Option β}{i:Nat}{d y:D}{r:β}(h:Z[i]?=ju (ju (.pub d)))(h1:g Z=.ok y Z1)(h2:p d y=ju r):KL p i g Z=.ok r Z1:=by unfold KL;rw[h];exact Ky h1 (ZH h2)
theorem RH{p:D->D->Option β}{i:Nat}{ds es:jz}{y:D}{r:β}(h:Z[i]?=ju (ju (.own ds)))(h1:g Z=.ok y Z1)(h3:Z1[i]?=ju (ju (.own es)))(h2:p (.list es) y=ju r):KL p i g Z=.ok r Z1:=by unfold KL;rw[h];exact Ky h1 (by rw[h3];exact ZH h2)
theorem ZX{f:M jz}{k:Nat}{s:D->UF->jG}{t:M Bool}{ds es:jz}(h1:f Z=.ok ds Z1)(h2:KB s t g ds (Kf Z1++Uq k jw) []=ju es):Zw f k s t g Z=.ok es Z1:=by unfold Zw;rw[h1];dsimp only;rw[h2]
theorem X7{s:D->UF->jG}{t:M Bool}(p:D->Bool)(q:D->D)(I:UF->Prop):∀(ds:jz)(Z:UF)(es:jz),(∀d∈ds,∀Z,I Z->∃Z1,s d Z=ju Z1/\t Z1=.ok (p d) Z1/\(p d=jx->g Z1=.ok (q d) Z1)/\I (Kf Z1))->I Z->es.length+ds.length<=1000000 ->
  KB s t g ds Z es=ju (es++(ds.filter p).map q)
 |[],Z,es,_,_,_=>by rw[KB];simp
 |d::r,Z,es,st,h0,hz=>by
  obtain⟨Z1,e1,e2,e3,h1⟩:=st d Qt Z h0;have ih:=λes' hz'=>X7 p q I r (Kf Z1) es' (λd' hd=>st d' (QD _ hd)) h1 hz';rw[QR]at hz;rw[KB,e1];dsimp only;rw[e2];dsimp only
  cases hp:p d with
  |true=>rw[Qo jv,e3 hp];dsimp only;rw[Qo (by omega),ih _ (by rw[Qi,QQ];omega),List.filter_cons_of_pos hp,QN,JN];rfl
  |false=>rw[QC (by decide),ih _ (by omega),List.filter_cons_of_neg (by rw[hp];decide)]
theorem Rr{j:Nat}{d:D}{k:Int}{xG ds:jz}(h1:f Z=.ok d Z1)(h0:Z1[j]?=ju (ju (.own xG)))(h2:g Z1=.ok (.int k) Z2)(h3:Z2[j]?=ju (ju (.own ds)))(h4:0<=k/\k<ds.length)(h5:Z2.set j (ju (.own (ds.set k.toNat d)))=Z'):W2 j g f Z=.nx Z':=by unfold W2 sB;rw[h1];dsimp only;rw[h0];dsimp only;rw[h2];dsimp only;rw[h3];dsimp only;rw[if_pos h4];subst h5;rfl
theorem WZ{xs:jz}{a b:jD}:Wd (.list xs) a b=ju (.list (DL.cutD xs a b)):=rfl
theorem ZP{xs:jz}:Pc (.list xs)=ju xs:=rfl
theorem qP(bs:List Bool):Xj (bs.map Us)=ju bs:=by
 induction bs with
 |nil=>rfl
 |cons b r ih=>rw[QN,Xj,ih];rfl
theorem NT{bs:List Bool}:ZE [.list (bs.map Us)]=ju (.bool (bs.all id)):=by unfold ZE;dsimp only;rw[qP];rfl
end
section
variable{α β:Type}{Z Z1 Z2 Z3 Z4 Z':UF}{f g h:M D}{s:SM}
theorem R7{l u t:M jD}{xs:jz}(h1:f Z=.ok (.list xs) Z1)(h2:l Z1=.ok jw Z2)(h3:u Z2=.ok jw Z3)(h4:t Z3=.ok (ju (-1)) Z4):YR f l u t Z=.ok (.list xs.reverse) Z4:=by unfold YR;exact Ky h1 (Ky h2 (Ky h3 (Ky h4 (ZH (by unfold We;exact Qo jv)))))
theorem SD{i:Nat}{d:D}{ds:jz}(h:Z[i]?=ju (ju (.pub d)))(h2:YD [d]=ju ds):X4 i Z=.ok ds Z:=by unfold X4;rw[h];exact ZH h2
theorem So{N:List Str}{ds:jz}(h0:ZI N ds=Z)(h:Ho s Z λo=>∃Z',o=.nx Z'):U1 N s ds=ju .none:=by subst h0;obtain⟨Z',e⟩:=h.out;unfold U1;rw[e]
theorem YG{i j:Int}:oNe (.int i) (.int j)=ju (!decide (i=j)):=by unfold oNe;rw[if_pos ⟨rfl,rfl,by simp[Uw]⟩];congr 1
theorem DY{xs:jA}{j:Nat}{v:Int}:(xs.map int).set j (.int v)=(xs.set j v).map int:=by rw[List.map_set]
theorem PP{xs:jA}{a b:Int}(ha:0<=a)(hb:0<=b)(hl:b<=xs.length):DL.cutD (xs.map int) (ju a) (ju b)=((xs.drop a.toNat).take (b.toNat-a.toNat)).map int:=by
 unfold DL.cutD HT.sIx;dsimp only;rw[QC (by omega),QC (by omega),Qb,List.map_take,List.map_drop];have e2:min b.toNat xs.length=b.toNat:=by omega
 rw[e2];by_cases hab:a.toNat<=xs.length
 .have e1:min a.toNat xs.length=a.toNat:=by omega
  rw[e1]
 .have e3:b.toNat-a.toNat=0:=by omega
  have e4:b.toNat-min a.toNat xs.length=0:=by omega
  rw[e3,e4,List.take_zero,List.take_zero]
end
section
variable{Z Z1:UF}
theorem DX{g:M jz}{xs r:jz}(h1:g Z=.ok xs Z1)(h2:Tw xs=ju r):Ri g Z=.ok r Z1:=by unfold Ri;exact Ky h1 (ZH h2)
theorem BZ{xs:jz}:Tw [.list xs]=ju (ZZ 1 xs):=rfl
end
section
variable{X:Cx}{B G0:Hp}{KX:XW}{e o a b c tg i:Uj}{pos p2:Pos}{es rest:jF}
def XH(f:M Bool)(g:SM):Nat->SM
 |0,_=>.bad
 |n+1,Z=>match f Z with
  |.bad=>.bad
  |.ok t Z1=>if t=jx then(match g Z1 with
   |.nx Z2=>XH f g n Z2
   |.ct Z2=>XH f g n Z2
   |.bk Z2=>.nx Z2
   |.rt d=>.rt d
   |.ro ds=>.ro ds
   |.ex Z2 d=>.ex Z2 d
   |.bad=>.bad)else .nx Z1
theorem DW{body:List Stmt}{f:M Bool}{g:SM}(n:Nat)(hp:PassesOwn (model X.prog X.w) X.A X.env X.xe)(hc:PT X c (tBo X.K B G0 f))(hb:PSs X body (tS X.K B G0 KX g)):PS X (.While c body [] pos) (tS X.K B G0 KX (XH f g n)):=
 Zb (CA hp hc hb) λDn σ H ⟨G,Z,k,a⟩=>by
  refine⟨λm σ' H'=>∃G' Z',EOk X.K B G0 G' H' σ' Z'/\aftS X.K B G0 KX (XH f g m Z') G' Dn,⟨n,G,Z,k,a⟩,?_⟩;rintro m σ' H' ⟨G',Z',k',a'⟩;cases m with
  |zero=>exact a'.elim
  |succ m=>
   rw[XH]at a';refine⟨G',Z',k',?_⟩;cases z:f Z' with
   |bad=>rw[z]at a';exact a'.elim
   |ok t Z1=>
    rw[z]at a';dsimp only at a';intro v G1 H1 k1 s1 e1;subst e1;cases v with
    |false=>rw[QC JI]at a'⊢;exact a' _ G1 H1 k1 s1
    |true=>
     rw[Qo jv]at a'⊢;refine⟨λσ2 H2=>∃G2 Z2,EOk X.K B G0 G2 H2 σ2 Z2/\aftS X.K B G0 KX (XH f g m Z2) G2 Dn,λσ2 H2 h2=>⟨m,Nat.lt_succ_self m,h2⟩,G1,Z1,k1,?_⟩;cases z2:g Z1 with
     |nx Z2=>rw[z2]at a';exact λσ4 G4 H4 k4 s4=>⟨G4,Z2,k4,aftS.mono (s1.trans s4) a'⟩
     |ct Z2=>rw[z2]at a';exact λσ4 G4 H4 k4 s4=>⟨G4,Z2,k4,aftS.mono (s1.trans s4) a'⟩
     |bk Z2=>rw[z2]at a';exact λσ4 G4 H4 k4 s4=>a' σ4 G4 H4 k4 (s1.trans s4)
     |rt d=>rw[z2]at a';exact a'
     |ro ds=>rw[z2]at a';exact a'
     |ex Z2 d=>rw[z2]at a';exact λv σ4 G4 H4 k4 s4 r4=>a' v σ4 G4 H4 k4 (s1.trans s4) r4
     |bad=>rw[z2]at a';exact a'.elim
def YN(op:Int->Int->jC)(j:Nat)(f:M D):SM:=λZ=>match Z[j]? with
 |some (ju (.pub (.int a)))=>sB f (λy Z1=>match y with
  |.int b=>(match op a b with
   |some d=>if j<Z1.length then .nx (Z1.set j (ju (.pub d)))else .bad
   |none=>.bad)
  |_=>.bad) Z
 |_=>.bad
def IpD(X:Cx)(op:Operator)(p:Int->Int->jC):Prop:=∃ti,PIp X op ti/\∀i j d,p i j=ju d->∃v:V,(∀G,Rep X.K G v d)/\∀H(Q:VK),Q v H->ti (.int i) (.int j) H Q
theorem EM:IpD X .Mult ZN:=⟨_,EY,λi j d e=>by
 unfold ZN at e;split at e
 .rename_i h
  cases e;exact⟨_,λ_=>.int _,λH Q q=>⟨i,j,rfl,rfl,h,q⟩⟩
 .cases e⟩
theorem GK{j:Nat}{x:Str}{op:Operator}{p:Int->Int->jC}{f:M D}{pos':Pos}(hN:X.N.Nodup)(hi:X.N[j]?=ju x)(hx:Loc X.env.scope x)(ho:IpD X op p)(he:PE X e (tD X.K B G0 f))(hf:X.fn x=jx∨X.env.scope.names.lookup x=ju .local:=by first|exact .inl rfl|exact .inr rfl|assumption) :
  PS X (.AugAssign (.Name x pos') op e pos) (tS X.K B G0 KX (YN p j f)):=by
 obtain⟨ti,hti,hp⟩:=ho;refine Zb (GY hN hi hx he hti hf) λDn σ H ⟨G,Z,k,a⟩=>?_;unfold YN at a
 cases q:Z[j]? with
 |none=>rw[q]at a;exact a.elim
 |some o0=>
  cases o0 with
  |none=>rw[q]at a;exact a.elim
  |some sl=>
   cases sl with
   |deep _ _=>rw[q]at a;exact a.elim
   |own ds=>rw[q]at a;exact a.elim
   |pub d0=>
    rw[q]at a;cases d0 with
    |int i0=>
     dsimp only at a;obtain⟨v,h1,h2⟩:=k.pub j _ q;cases h2.int_inv;refine⟨.int i0,h1,G,Z,k,?_⟩;unfold sB at a;cases z:f Z with
     |bad=>rw[z]at a;exact a.elim
     |ok y Z1=>
      rw[z]at a;dsimp only at a;intro u G1 H1 k1 s1 r1;cases y with
      |int i1=>
       cases r1.int_inv;dsimp only at a;cases w:p i0 i1 with
       |none=>rw[w]at a;exact a.elim
       |some d=>
        rw[w]at a;dsimp only at a;split at a
        .rename_i hl
         obtain⟨v',rv,hq⟩:=hp i0 i1 d w;exact hq H1 _ (a _ G1 H1 (k1.setPub (rv G1) hl) s1)
        .exact a.elim
      |_=>exact a.elim
    |_=>exact a.elim
end
section
variable{X:Cx}{B G0:Hp}{e o a b c tg i:Uj}{pos p2:Pos}{es rest:jF}
theorem Ao(hc:X.calm=jx):ZQ X (.builtin "sum") (λxs H Q=>∃l,∃ns:jA,xs=[.ref l]/\SqL X.K H l (ns.map V.int)/\Q (.int ns.sum) H):=by
 intro pins s σ H xs us Q I rx h;obtain⟨l,ns,rfl,hq,q⟩:=h;obtain⟨u,rfl,ru⟩:=rx.one;cases ru;obtain⟨its,rv,p,hz⟩:=I.list hq;have hi:=X9 rv;obtain⟨ys,e⟩:=hi.allInts.items;have hns:ns=ys.toList.map (·.1):=by rw[←hi.numsOf,←nums_intItems,←e]
 have hl:=p.isList;rw[e]at hl;refine sum_intListG (I.ok.hd hc) hl λh' tk t' hk=>?_
 have e2:preSum (numAt ys) ys.size=ns.sum:=by rw[preSum_eq,List.take_of_length_le (by simp),hns]
 rw[e2];exact⟨.int ns.sum,H,I.kept hk,⟨t',rfl⟩,q⟩
def Tj:jz->jC
 |[.list ds]=>(ZK ds).map λns=>.int ns.sum
 |_=>jw
theorem An{xs:jz}{d:D}(h:Tj xs=ju d):∃ds ns,xs=[.list ds]/\ZK ds=ju ns/\d=.int ns.sum:=by
 unfold Tj at h;split at h
 .rename_i ds
  cases z:ZK ds with
  |none=>rw[z]at h;cases h
  |some ns=>rw[z]at h;cases h;exact⟨ds,ns,rfl,z,rfl⟩
 .cases h
theorem GJ(hc:X.calm=jx):ZW X (.builtin "sum") Tj:=by refine⟨_,Ao hc,λvs G H ds d Q s r e k=>?_⟩;obtain⟨ds,ns,rfl,z,rfl⟩:=An e;obtain⟨v,rfl,q1⟩:=r.one_inv;obtain⟨l,ws,rfl,h1,r1⟩:=q1.lst_inv;have:=TW r1 z;subst this;exact⟨l,ns,rfl,s.seq h1,k _ G H (.refl s) (.int _)⟩
theorem DV{ns:jA}:Tj [.list (ns.map .int)]=ju (.int ns.sum):=by unfold Tj;dsimp only;rw[TR];rfl
theorem Am:MtR X "list.index" (λv vs H Q=>∃l k,∃ns:jA,v=.ref l/\vs=[.int k]/\SqL X.K H l (ns.map V.int)/\PyData.layable0 (.list (ns.map .int))=jx/\k∈ns/\Q (.int (ns.idxOf k:Nat)) H):=by intro pins s σ H x vs v us Q I rx rv h;obtain⟨l,k,ns,rfl,rfl,hq,hl,hk,q⟩:=h;cases rx;obtain⟨u,rfl,ru⟩:=rv.one;obtain⟨t,rfl⟩:=ru;obtain⟨its,rv,p,hz⟩:=I.list hq;exact index_list_ints p.isList (X9 rv) hl hk ⟨.int _,H,I.tok _,⟨_,rfl⟩,q⟩
def TD(y:D)(xs:jz):jC:=match y,xs with
 |.list ds,[.int k]=>(match ZK ds with
  |some ns=>if PyData.layable0 (.list (ns.map .int))=jx/\k∈ns then ju (.int (ns.idxOf k:Nat))else jw
  |none=>jw)
 |_,_=>jw
theorem qO{ds xs:jz}{d:D}(h:TD (.list ds) xs=ju d):∃k ns,xs=[.int k]/\ZK ds=ju ns/\PyData.layable0 (.list (ns.map .int))=jx/\k∈ns/\d=.int (ns.idxOf k:Nat):=by
 unfold TD at h;split at h
 .rename_i ds' k e1
  cases e1;cases z:ZK ds with
  |none=>rw[z]at h;cases h
  |some ns=>
   rw[z]at h;dsimp only at h;split at h
   .rename_i c
    cases h;exact⟨k,ns,rfl,rfl,c.1,c.2,rfl⟩
   .cases h
 .cases h
def Rg(f:M D)(g:M jz):M D:=UZ f λy=>UZ g λxs=>UW (match y with | .list ds=>TD (.list ds) xs|_=>jw)
theorem Al{apos cpos:Pos}{f:M D}{g:M jz}(ho:PE X o (tD X.K B G0 f))(ha:PA X (e::es) (tDs X.K B G0 g))
  (hbase:attributeBase o "index" X.env (eval o X.env)=eval o X.env:=by rfl)
  (hfew:((backTo cpos (Um (e::es) X.env)).all (λx=>!x.1)&&(backToKw cpos (keywordEach [] X.env)).all (λx=>x.1.isSome)
   && decide ((e::es).length+([]:List Keyword).length+(if([]:List Keyword).isEmpty then 0 else 1)<30))=jx:=by rfl)
  (hline:(apos.endLine==cpos.line)=jx:=by rfl) (hs:Um (e::es) X.env=(jy,eval e X.env)::Um es X.env:=by rfl) (hplain:(backTo cpos (Um es X.env)).any (·.1)=jy:=by rfl) :
  PE X (.Call (.Attribute o "index" apos) (e::es) [] cpos) (tD X.K B G0 (Rg f g)):=
 U7 (SO F.plainAttrs_list F.slot_list_index F.type_list_index Am ho ha hbase hfew hline hs hplain) λσ H Q q=>by
  refine tM.one (R:=Rep X.K) q λv H2 G Z y k r a=>?_
  cases y with
  |list ds=>
   obtain⟨l,ws,rfl,h1,r1⟩:=r.lst_inv;refine⟨.inl ⟨rfl,ws,k.gh.seq h1⟩,?_⟩;refine tM.nx (R:=Reps X.K) k a λxs H3 G3 Z3 es k3 s3 r3 a3=>?_
   obtain⟨d,e,a3⟩:=a3.opt;obtain⟨x,ns,rfl,z,hl,hk,rfl⟩:=qO e;obtain⟨u,rfl,ru⟩:=r3.one_inv;have:=TW r1 z;subst this;exact⟨l,x,ns,rfl,by rw[ru.int_inv],k3.gh.seq (s3.seq h1),hl,hk,aft.now a3 k3 (.int _)⟩
  |_=>
   unfold UZ at a;cases z:g Z with
   |bad=>rw[z]at a;exact a.elim
   |ok xs Z1=>rw[z]at a;exact a.elim
theorem DU{f:M D}{g:M jz}{Z Z1 Z2:UF}{ds:jz}{x d:D}(h1:f Z=.ok (.list ds) Z1)(h2:g Z1=.ok [x] Z2)(h3:TD (.list ds) [x]=ju d):Rg f g Z=.ok d Z2:=by unfold Rg UZ;rw[h1];dsimp only;rw[h2];dsimp only;rw[h3];rfl
theorem qN:bootBuiltins "tuple" = ju (.type "tuple"):=by decide +kernel
end
end DL
namespace DL
open PySem PySem.Spec PySem.W PyProof.Rows
def U8{α:Type}(lt:Nat->Nat->Bool):KasT α->α
 |.ret a=>a
 |.ask i j k=>U8 lt (k (lt i j))
theorem TJ{α β:Type}{lt:Nat->Nat->Bool}{f:α->KasT β}:∀t:KasT α,U8 lt (t.bind f)=U8 lt (f (U8 lt t))
 |.ret _=>rfl
 |.ask i j k=>by show U8 lt ((k (lt i j)).bind f)=_;rw[TJ];rfl
section
variable{key:Nat->Int}{p:Array Nat}
def KA(key:Nat->Int)(p:Array Nat)(i:Nat):Int:=key (p.getD i 0)
def srt(key:Nat->Int)(p:Array Nat)(m:Nat):Prop:=∀i j,i<=j->j<m->KA key p i<=KA key p j
def dsc(key:Nat->Int)(p:Array Nat)(m:Nat):Prop:=∀i j,i<=j->j<m->KA key p j<=KA key p i
abbrev kl(key:Nat->Int)(i j:Nat):Bool:=decide (key i<key j)
theorem MV{k d i:Nat}(hk:k<p.size)(hd:d<=k):KA key (bubble p k d) i=if i=k-d then KA key p k else if k-d<i/\i<=k then KA key p (i-1)else KA key p i:=by
 unfold KA;simp only[Q9];rw[getElem?_bubble hk d hd]
 repeat' split
 all_goals rfl
theorem Sn{i j k:Nat}(hj:j<=p.size):KA key (kas_rev p i j) k=if i<=k/\k<j then KA key p (i+j-1-k)else KA key p k:=by
 unfold KA kas_rev;simp only[Q9];rw[getElem?_mirror_all hj]
 split<;>rfl
theorem Vc{i j:Nat}:(kas_rev p i j).size=p.size:=mirror_size _ _ _ _
theorem X5{i j:Nat}:(kas_rev p i j).Perm p:=mirror_perm _ _ _ _
theorem PN:∀(f n:Nat),1<=n->srt key p n->srt key p (U8 (kl key) (kas_asc p f n))/\n<=U8 (kl key) (kas_asc p f n)/\U8 (kl key) (kas_asc p f n)<=n+f /\
  (U8 (kl key) (kas_asc p f n)<n+f->KA key p (U8 (kl key) (kas_asc p f n))<KA key p (U8 (kl key) (kas_asc p f n)-1))
 |0,n,h1,hs=>⟨hs,Qq _,Qq _,λh=>absurd h (Jg _)⟩
 |f+1,n,h1,hs=>by
  unfold kas_asc U8;cases c:kl key (p.getD n 0) (p.getD (n-1) 0)with
  |true=>dsimp only;rw[Qo jv];exact⟨hs,Qq _,by show n<=n+(f+1);omega,λ_=>Qa c⟩
  |false=>
   dsimp only;rw[QC (by decide)];have hle:KA key p (n-1)<=KA key p n:=Ud.mp (JJ c)
   obtain⟨a1,a2,a3,a4⟩:=PN f (n+1) (by omega) (λi j hij hj=>by
    by_cases xp:j=n
    .subst xp
     by_cases hin:i=j
     .subst hin;exact JA _
     .exact Int.le_trans (hs i (j-1) (by omega) (by omega)) hle
    .exact hs i j hij (by omega))
   exact⟨a1,by omega,by omega,λh=>a4 (by omega)⟩
def eqs(key:Nat->Int)(p:Array Nat)(n q:Nat):Prop:=∀i,n-1-q<=i->i<n->KA key p i=KA key p (n-1)
theorem RQ:∀(f:Nat)(p:Array Nat)(n q:Nat),1<=n->q+1<=n->n+f<=p.size->dsc key p n->eqs key p n q ->
  let r:=U8 (kl key) (kas_desc f p n q)
  r.1.Perm p/\r.1.size=p.size/\dsc key r.1 r.2.1/\eqs key r.1 r.2.1 r.2.2/\r.2.2+1<=r.2.1/\n<=r.2.1/\r.2.1<=n+f
 |0,p,n,q,h1,hq,hz,hd,he=>⟨J0 _,rfl,hd,he,hq,Qq _,Qq _⟩
 |f+1,p,n,q,h1,hq,hz,hd,he=>by
  intro r;have hr:r=U8 (kl key) (kas_desc (f+1) p n q):=rfl;unfold kas_desc U8 at hr;cases c:kl key (p.getD n 0) (p.getD (n-1) 0)with
  |true=>
   rw[c]at hr;(try dsimp only at hr);rw[if_pos jv]at hr;have hlt:KA key p n<KA key p (n-1):=Qa c
   have ext:∀p':Array Nat,(∀i,KA key p' i=KA key p i)->dsc key p' (n+1)/\eqs key p' (n+1) 0:=λp' hp=>⟨λi j hij hj=>by
     rw[hp,hp];by_cases xp:j=n
     .subst xp
      by_cases hin:i=j
      .subst hin;exact JA _
      .exact Int.le_trans (Int.le_of_lt hlt) (hd i (j-1) (by omega) (by omega))
     .exact hd i j hij (by omega),λi hi1 hi2=>by
     have:i=n:=by omega
     subst this;rfl⟩
   by_cases hq0:q > 0
   .rw[Qo hq0]at hr
    have same:∀i,KA key (kas_rev p (n-(q+1)) n) i=KA key p i:=λi=>by
     rw[Sn (by omega)];split
     .rw[he _ (by omega) (by omega),he i (by omega) (by omega)]
     .rfl
    obtain⟨d1,e1⟩:=ext _ same;obtain⟨a1,a2,a3,a4,a5,a6,a7⟩:=RQ f (kas_rev p (n-(q+1)) n) (n+1) 0 (by omega) (by omega) (by rw[Vc];omega) d1 e1;rw[←hr]at a1 a2 a3 a4 a5 a6 a7;exact⟨a1.trans X5,a2.trans Vc,a3,a4,a5,by omega,by omega⟩
   .rw[QC hq0]at hr
    obtain⟨d1,e1⟩:=ext p λ_=>rfl
    obtain⟨a1,a2,a3,a4,a5,a6,a7⟩:=RQ f p (n+1) 0 (by omega) (by omega) (by omega) d1 e1;rw[←hr]at a1 a2 a3 a4 a5 a6 a7;exact⟨a1,a2,a3,a4,a5,by omega,by omega⟩
  |false=>
   rw[c]at hr;(try dsimp only at hr);rw[if_neg (by decide)]at hr;unfold U8 at hr;have hle:KA key p (n-1)<=KA key p n:=Ud.mp (JJ c);cases d:kl key (p.getD (n-1) 0) (p.getD n 0)with
   |true=>rw[d]at hr;(try dsimp only at hr);rw[if_pos jv]at hr;unfold U8 at hr;rw[hr];exact⟨J0 _,rfl,hd,he,hq,Qq _,by show n<=n+(f+1);omega⟩
   |false=>
    rw[d]at hr;(try dsimp only at hr);rw[if_neg (by decide)]at hr;have hge:KA key p n<=KA key p (n-1):=Ud.mp (JJ d)
    obtain⟨a1,a2,a3,a4,a5,a6,a7⟩:=RQ f p (n+1) (q+1) (by omega) (by omega) (by omega) (λi j hij hj=>by
     by_cases xp:j=n
     .subst xp
      by_cases hin:i=j
      .subst hin;exact JA _
      .exact Int.le_trans hge (hd i (j-1) (by omega) (by omega))
     .exact hd i j hij (by omega)) (λi hi1 hi2=>by
     have e0:KA key p n=KA key p (n-1):=JZ hge hle;show KA key p i=KA key p (n+1-1);rw[Nat.add_sub_cancel,e0];by_cases hin:i=n
     .subst hin;exact e0
     .exact he i (by omega) (by omega))
    rw[←hr]at a1 a2 a3 a4 a5 a6 a7;exact⟨a1,a2,a3,a4,a5,by omega,by omega⟩
theorem La{n nrem:Nat}(h1:1<=n)(hn:n<=nrem)(hz:nrem<=p.size)(hd:dsc key p n) :
  let r:=U8 (kl key) (kas_tail3 n nrem p)
  r.2.Perm p/\r.2.size=p.size/\srt key r.2 r.1/\1<=r.1/\r.1<=nrem:=by
 intro r;have hr:r=U8 (kl key) (kas_tail3 n nrem p):=rfl;unfold kas_tail3 at hr;rw[TJ]at hr;have hs:srt key (kas_rev p 0 n) n:=λi j hij hj=>by rw[Sn (by omega),Sn (by omega),Qo (by omega),Qo (by omega)];exact hd _ _ (by omega) (by omega)
 obtain⟨a1,a2,a3,_⟩:=PN (key:=key) (p:=kas_rev p 0 n) (nrem-n) n h1 hs;rw[hr];exact⟨X5,Vc,a1,by show 1<=U8 _ _;omega,by show U8 _ _<=_;omega⟩
theorem LK{n nrem:Nat}(h1:1<=n)(hn:n+1<=nrem)(hz:nrem<=p.size)(hd:dsc key p (n+1)) :
  let r:=U8 (kl key) (kas_descPart n nrem p)
  r.2.Perm p/\r.2.size=p.size/\srt key r.2 r.1/\1<=r.1/\r.1<=nrem:=by
 intro r;have hr:r=U8 (kl key) (kas_descPart n nrem p):=rfl;unfold kas_descPart at hr;rw[TJ]at hr
 obtain⟨a1,a2,a3,a4,a5,a6,a7⟩:=RQ (key:=key) (nrem-(n+1)) p (n+1) 0 (by omega) (by omega) (by omega) hd (λi hi1 hi2=>by
  have:i=n:=by omega
  subst this;rfl)
 generalize U8 (kl key) (kas_desc (nrem-(n+1)) p (n+1) 0)=d at hr a1 a2 a3 a4 a5 a6 a7;obtain⟨p1,n1,q1⟩:=d;dsimp only at hr a1 a2 a3 a4 a5 a6 a7;by_cases hq:q1 > 0
 .rw[Qo hq]at hr
  have same:∀i,KA key (kas_rev p1 (n1-(q1+1)) n1) i=KA key p1 i:=λi=>by
   rw[Sn (by omega)];split
   .rw[a4 _ (by omega) (by omega),a4 i (by omega) (by omega)]
   .rfl
  obtain⟨b1,b2,b3,b4,b5⟩:=La (key:=key) (p:=kas_rev p1 (n1-(q1+1)) n1) (n:=n1) (nrem:=nrem) (by omega) (by omega) (by rw[Vc];omega) (λi j hij hj=>by rw[same,same];exact a3 i j hij hj);rw[hr];exact⟨(b1.trans X5).trans a1,(b2.trans Vc).trans a2,b3,b4,b5⟩
 .rw[QC hq]at hr
  obtain⟨b1,b2,b3,b4,b5⟩:=La (key:=key) (p:=p1) (n:=n1) (nrem:=nrem) (by omega) (by omega) (by omega) a3;rw[hr];exact⟨b1.trans a1,b2.trans a2,b3,b4,b5⟩
theorem Az{nrem:Nat}(h1:1<=nrem)(hz:nrem<=p.size) :
  let r:=U8 (kl key) (kas_count nrem p)
  r.2.Perm p/\r.2.size=p.size/\srt key r.2 r.1/\1<=r.1/\r.1<=nrem:=by
 intro r;have hr:r=U8 (kl key) (kas_count nrem p):=rfl;unfold kas_count at hr;rw[TJ]at hr
 obtain⟨a1,a2,a3,a4⟩:=PN (key:=key) (p:=p) (nrem-1) 1 (Qq _) (λi j hij hj=>by
  have:i=j:=by omega
  subst this;exact JA _)
 generalize U8 (kl key) (kas_asc p (nrem-1) 1)=n at hr a1 a2 a3 a4;by_cases hn:(n==nrem)=jx
 .rw[Qo hn]at hr
  unfold U8 at hr;rw[hr];exact⟨J0 _,rfl,a1,a2,by show n<=nrem;omega⟩
 .rw[QC hn]at hr
  have hne:n≠nrem:=by simpa using hn
  have hlt:=a4 (by omega);by_cases hn1:n > 1
  .rw[Qo hn1]at hr
   unfold U8 at hr;cases c:kl key (p.getD 0 0) (p.getD (n-1) 0)with
   |true=>rw[c]at hr;(try dsimp only at hr);rw[if_pos jv]at hr;unfold U8 at hr;rw[hr];exact⟨J0 _,rfl,a1,a2,by show n<=nrem;omega⟩
   |false=>
    rw[c]at hr;(try dsimp only at hr);rw[if_neg (by decide)]at hr;have hge:KA key p (n-1)<=KA key p 0:=Ud.mp (JJ c);have all:∀i,i<n->KA key p i=KA key p 0:=λi hi=>JZ (Int.le_trans (a1 i (n-1) (by omega) (by omega)) hge) (a1 0 i (by omega) hi)
    have same:∀i,KA key (kas_rev p 0 n) i=KA key p i:=λi=>by
     rw[Sn (by omega)];split
     .rw[all _ (by omega),all i (by omega)]
     .rfl
    obtain⟨b1,b2,b3,b4,b5⟩:=LK (key:=key) (p:=kas_rev p 0 n) (n:=n) (nrem:=nrem) a2 (by omega) (by rw[Vc];exact hz) (λi j hij hj=>by
     rw[same,same];by_cases xp:j=n
     .subst xp
      by_cases hin:i=j
      .subst hin;exact JA _
      .rw[all i (by omega)]
       rw[all (j-1) (by omega)]at hlt;exact Int.le_of_lt hlt
     .rw[all i (by omega),all j (by omega)];exact JA _)
    rw[hr];exact⟨b1.trans X5,b2.trans Vc,b3,b4,b5⟩
  .rw[QC hn1]at hr
   have:n=1:=by omega
   subst this
   obtain⟨b1,b2,b3,b4,b5⟩:=LK (key:=key) (p:=p) (n:=1) (nrem:=nrem) (Qq _) (by omega) hz (λi j hij hj=>by
    by_cases hij2:i=j
    .subst hij2;exact JA _
    .have h0:i=0:=by omega
     have h1:j=1:=by omega
     subst h0;subst h1;exact Int.le_of_lt hlt)
   rw[hr];exact⟨b1,b2,b3,b4,b5⟩
theorem P4{k:Nat}(hs:srt key p k):∀(f l r:Nat),l<=r->r<=k->r-l<=f->(∀i,i<l->KA key p i<=KA key p k)->(∀i,r<=i->i<k->KA key p k<KA key p i) ->
  let m:=U8 (kl key) (kas_place p k f l r)
  m<=k/\(∀i,i<m->KA key p i<=KA key p k)/\(∀i,m<=i->i<k->KA key p k<KA key p i)
 |0,l,r,hlr,hrk,hf,h1,h2=>⟨by show l<=k;omega,h1,λi (hi:l<=i)=>h2 i (by omega)⟩
 |f+1,l,r,hlr,hrk,hf,h1,h2=>by
  intro m;have hm:m=U8 (kl key) (kas_place p k (f+1) l r):=rfl;unfold kas_place at hm;by_cases hge:l ≥ r
  .rw[Qo hge]at hm
   unfold U8 at hm;rw[hm];exact⟨by omega,h1,λi hi=>h2 i (by omega)⟩
  .rw[QC hge]at hm
   unfold U8 at hm;cases c:kl key (p.getD k 0) (p.getD ((l+r) / 2) 0)with
   |true=>rw[c]at hm;(try dsimp only at hm);rw[if_pos jv]at hm;rw[hm];have hlt:KA key p k<KA key p ((l+r) / 2):=Qa c;exact P4 hs f l ((l+r) / 2) (by omega) (by omega) (by omega) h1 λi hi hik=>Int.lt_of_lt_of_le hlt (hs _ _ hi hik)
   |false=>rw[c]at hm;(try dsimp only at hm);rw[if_neg (by decide)]at hm;rw[hm];have hle:KA key p ((l+r) / 2)<=KA key p k:=Ud.mp (JJ c);exact P4 hs f ((l+r) / 2+1) r (by omega) hrk (by omega) (λi hi=>Int.le_trans (hs i ((l+r) / 2) (by omega) (by omega)) hle) h2
theorem Mh:∀(f:Nat)(p:Array Nat)(k:Nat),k+f<=p.size->srt key p k->let r:=U8 (kl key) (kas_bin f p k);r.Perm p/\r.size=p.size/\srt key r (k+f)
 |0,p,k,_,hs=>⟨J0 _,rfl,hs⟩
 |f+1,p,k,hz,hs=>by
  intro r;have hr:r=U8 (kl key) (kas_bin (f+1) p k):=rfl;unfold kas_bin at hr;rw[TJ]at hr;obtain⟨a1,a2,a3⟩:=P4 (key:=key) hs k 0 k (Ub _) (Qq _) (by omega) (λi hi=>by omega) (λi h1 h2=>by omega);generalize U8 (kl key) (kas_place p k k 0 k)=l at hr a1 a2 a3;have hk:k<p.size:=by omega
  obtain⟨b1,b2,b3⟩:=Mh f (bubble p k (k-l)) (k+1) (by rw[bubble_size];omega) (λi j hij hj=>by
   rw[MV hk (by omega),MV hk (by omega),show k-(k-l)=l by omega];by_cases hi:i=l
   .rw[Qo hi]
    by_cases kA:j=l
    .rw[Qo kA];exact JA _
    .rw[QC kA,Qo (by omega)]
     exact Int.le_of_lt (a3 (j-1) (by omega) (by omega))
   .rw[QC hi]
    by_cases hi2:l<i/\i<=k
    .rw[Qo hi2,QC (show ¬j=l by omega),Qo (by omega)]
     exact hs _ _ (by omega) (by omega)
    .rw[QC hi2]
     by_cases kA:j=l
     .rw[Qo kA];exact a2 i (by omega)
     .rw[QC kA]
      split
      .exact hs _ _ (by omega) (by omega)
      .exact hs _ _ (by omega) (by omega))
  rw[hr];exact⟨b1.trans (bubble_perm _ _ _),b2.trans (bubble_size _ _ _),by rw[show k+(f+1)=k+1+f by omega];exact b3⟩
theorem Ak{n:Nat}(h1:1<=n):let r:=U8 (kl key) (kas_sort n);r.Perm (List.toArray (Up n))/\r.size=n/\srt key r n:=by
 intro r;have hr:r=U8 (kl key) (kas_sort n):=rfl;unfold kas_sort at hr;rw[TJ]at hr;have hsz:(List.toArray (Up n)).size=n:=by simp
 obtain⟨a1,a2,a3,a4,a5⟩:=Az (key:=key) (p:=List.toArray (Up n)) (nrem:=n) h1 (by rw[hsz];exact Qq _);generalize U8 (kl key) (kas_count n (List.toArray (Up n)))=d at hr a1 a2 a3 a4 a5;by_cases hlt:d.1<n
 .rw[Qo hlt]at hr
  have hmax:max d.1 1=d.1:=by omega
  rw[hmax]at hr;obtain⟨b1,b2,b3⟩:=Mh (key:=key) (n-d.1) d.2 d.1 (by omega) a3;rw[hr];exact⟨b1.trans a1,by omega,by rw[show d.1+(n-d.1)=n by omega]at b3;exact b3⟩
 .rw[QC hlt]at hr
  unfold U8 at hr;rw[hr];exact⟨a1,by omega,by rw[show d.1=n by omega]at a3;exact a3⟩
def Asks{α:Type}(N:Nat)(R:α->Prop):KasT α->Prop
 |.ret a=>R a
 |.ask i j k=>i<N/\j<N/\∀b,Asks N R (k b)
theorem Asks.bind{α β:Type}{N:Nat}{R:α->Prop}{S:β->Prop}{f:α->KasT β}(hf:∀a,R a->Asks N S (f a)):∀{t:KasT α},Asks N R t->Asks N S (t.bind f)
 |.ret a,h=>hf a h
 |.ask _ _ k,⟨h1,h2,h3⟩=>⟨h1,h2,λb=>Asks.bind hf (h3 b)⟩
theorem Mg{α:Type}{lt:Nat->Nat->Bool}{cmp:Nat->Nat->(Bool->Uf->Prop)->Uf->Prop}{s:Uf}{N:Nat}{R:α->Prop}(hc:∀i j C,i<N->j<N->C (lt i j) s->cmp i j C s):∀(t:KasT α)(Q:α->Uf->Prop),Asks N R t->Q (U8 lt t) s->t.kasWp cmp Q s
 |.ret _,_,_,h=>h
 |.ask i j k,Q,⟨h1,h2,h3⟩,h=>hc i j _ h1 h2 (Mg hc (k (lt i j)) Q (h3 _) h)
def bnd(N:Nat)(p:Array Nat):Prop:=∀i,p.getD i 0<N
theorem TN{N:Nat}{p q:Array Nat}(hN:0<N)(h:bnd N p)(e:q.Perm p):bnd N q:=λi=>by
 rw[Q9];cases z:q[i]? with
 |none=>exact hN
 |some v=>have hm:v∈q:=Array.mem_of_getElem? z;have hm2:v∈p:=e.mem_iff.mp hm;obtain⟨j,hj,e2⟩:=Array.mem_iff_getElem.mp hm2;have:=h j;rw[Q9,JM hj,e2]at this;exact this
section
variable{N:Nat}(hN:0<N)
include hN
theorem PM{p:Array Nat}(h:bnd N p):∀(f n:Nat),Asks N (λ_=>True) (kas_asc p f n)
 |0,_=>trivial
 |f+1,n=>⟨h _,h _,λb=>by
  cases b with
  |true=>(try dsimp only);rw[if_pos jv];trivial
  |false=>(try dsimp only);rw[if_neg (by decide)];exact PM h f (n+1)⟩
theorem RP:∀(f:Nat)(p:Array Nat)(n q:Nat),bnd N p->Asks N (λr=>bnd N r.1) (kas_desc f p n q)
 |0,p,_,_,h=>h
 |f+1,p,n,q,h=>⟨h _,h _,λb=>by
  cases b with
  |true=>
   dsimp only;rw[Qo jv];split
   .exact RP f _ _ _ (TN hN h X5)
   .exact RP f _ _ _ h
  |false=>
   dsimp only;rw[QC (by decide)];refine⟨h _,h _,λb=>?_⟩;cases b with
   |true=>(try dsimp only);rw[if_pos jv];exact h
   |false=>(try dsimp only);rw[if_neg (by decide)];exact RP f _ _ _ h⟩
theorem Lo{p:Array Nat}{n nrem:Nat}(h:bnd N p):Asks N (λr=>bnd N r.2) (kas_tail3 n nrem p):=
 Asks.bind (N:=N) (R:=λ_=>True) (S:=λr:Nat×Array Nat=>bnd N r.2) (f:=λm=>.ret (m,kas_rev p 0 n)) (λ_ _=>TN (p:=p) (q:=kas_rev p 0 n) hN h X5) (PM hN (TN hN h X5) _ _)
theorem LJ{p:Array Nat}{n nrem:Nat}(h:bnd N p):Asks N (λr=>bnd N r.2) (kas_descPart n nrem p):=
 Asks.bind (λr hr=>by
  split
  .exact Lo hN (TN hN hr X5)
  .exact Lo hN hr) (RP hN _ _ _ _ h)
theorem Ay{p:Array Nat}{nrem:Nat}(h:bnd N p):Asks N (λr=>bnd N r.2) (kas_count nrem p):=
 Asks.bind (R:=λ_=>True) (λn _=>by
  split
  .exact h
  .split
   .refine⟨h _,h _,λb=>?_⟩
    cases b with
    |true=>(try dsimp only);rw[if_pos jv];exact h
    |false=>(try dsimp only);rw[if_neg (by decide)];exact LJ hN (TN hN h X5)
   .exact LJ hN h) (PM hN h _ _)
theorem P3{p:Array Nat}(h:bnd N p)(k:Nat):∀(f l r:Nat),Asks N (λ_=>True) (kas_place p k f l r)
 |0,_,_=>trivial
 |f+1,l,r=>by
  unfold kas_place;split
  .trivial
  .refine⟨h _,h _,λb=>?_⟩
   cases b with
   |true=>(try dsimp only);rw[if_pos jv];exact P3 h k f _ _
   |false=>(try dsimp only);rw[if_neg (by decide)];exact P3 h k f _ _
theorem Mf:∀(f:Nat)(p:Array Nat)(k:Nat),bnd N p->Asks N (λ_=>True) (kas_bin f p k)
 |0,_,_,_=>trivial
 |f+1,p,k,h=>Asks.bind (R:=λ_=>True) (λl _=>Mf f _ _ (TN hN h (bubble_perm _ _ _))) (P3 hN h k _ _ _)
end
theorem Aj{n:Nat}(hn:0<n):Asks n (λ_=>True) (kas_sort n):=by
 have hb:bnd n (List.toArray (Up n)):=λi=>by
  rw[Q9];by_cases hi:i<n
  .simp[hi]
  .simp[hi,hn]
 refine Asks.bind (λr hr=>?_) (Ay hn hb);split
 .exact Mf hn _ _ _ hr
 .trivial
end
def Kq(q:Int×Int):Int:=q.1*10000000+q.2
def okP(q:Int×Int):Prop:=-1000000<=q.2/\q.2<=1000000
theorem EL{x y:Int×Int}(hx:okP x)(hy:okP y):Kq x<Kq y ↔ (x.1<y.1∨x.1=y.1/\x.2<y.2):=by unfold Kq okP at *;omega
theorem DT{x y:Int×Int}(hx:okP x)(hy:okP y)(h:Kq x=Kq y):x=y:=by
 unfold Kq okP at *;have h1:x.1=y.1:=by omega
 have h2:x.2=y.2:=by omega
 exact Prod.ext h1 h2
section
variable{prog:Ug}{w:World}{A:Around}{E:Ue->Uf->Prop}{s:Uf}
def Rf(h:Heap)(v:Ue)(q:Int×Int):Prop:=∃a t u o n,v=.ref a/\h.get? a=ju o/\o.cls=.type "tuple" /\ o.data=.seq #[.int q.1 t,.int q.2 u] n
theorem EK{x y:Ue}{p q:Int×Int}{Q:Bool->Uf->Prop}(hx:Rf s.heap x p)(hy:Rf s.heap y q)(h:Q (decide (p.1<q.1∨p.1=q.1/\p.2<q.2)) s):Ul (model prog w) A (keyLt' (tuples' jx) x y) Q E s:=by
 obtain⟨a,t,u,o,n,rfl,e1,c1,d1⟩:=hx;obtain⟨b,t',u',o',n',rfl,e2,c2,d2⟩:=hy;refine kat_lt e1 d1 e2 d2 ?_;show KatLex prog w A jx _ Q [(Value.int p.1 t,Value.int q.1 t'),(Value.int p.2 u,Value.int q.2 u')] 0 s;refine kat_cons (wpAny_eqBool_int ?_);by_cases h1:p.1=q.1
 .have e:(p.1==q.1)=jx:=by simpa using h1
  rw[e];refine kat_yes (kat_cons (wpAny_eqBool_int ?_));by_cases h2:p.2=q.2
  .have e:(p.2==q.2)=jx:=by simpa using h2
   rw[e];refine kat_yes (kat_nil ?_);have:decide (p.1<q.1∨p.1=q.1/\p.2<q.2)=jy:=Qx (by omega);rw[this]at h;exact h
  .have e:(p.2==q.2)=jy:=by simpa using h2
   rw[e];refine kat_no (kat_one _ _ (PyProof.Rows.lt_int ?_))
   have:decide (p.1<q.1∨p.1=q.1/\p.2<q.2)=decide (p.2<q.2):=by
    by_cases z:p.2<q.2
    .rw[QJ z,QJ (.inr ⟨h1,z⟩)]
    .rw[Qx z,Qx (by omega)]
   rw[this]at h;exact h
 .have e:(p.1==q.1)=jy:=by simpa using h1
  rw[e];refine kat_no (oneLt_int ?_)
  have:decide (p.1<q.1∨p.1=q.1/\p.2<q.2)=decide (p.1<q.1):=by
   by_cases z:p.1<q.1
   .rw[QJ z,QJ (.inl z)]
   .rw[Qx z,Qx (by omega)]
  rw[this]at h;exact h
def Z6(h:Heap):jB->LP->Prop
 |[],[]=>True
 |v::vs,q::qs=>Rf h v q/\Z6 h vs qs
 |_,_=>False
theorem Z6.get{h:Heap}:∀{vs:jB}{qs:LP},Z6 h vs qs->vs.length=qs.length/\∀(i:Nat)(hi:i<vs.length),Rf h (vs.getD i .none) (qs.getD i (0,0))
 |[],[],_=>⟨rfl,λi hi=>absurd hi (J4 _)⟩
 |v::vs,q::qs,⟨h1,h2⟩=>by
  obtain⟨e,f⟩:=Z6.get h2;refine⟨by simp[e],λi hi=>?_⟩;cases i with
  |zero=>exact h1
  |succ i=>exact f i (by simpa using hi)
theorem Z6.tups{h:Heap}:∀{vs:jB}{qs:LP},Z6 h vs qs->∃fs:jB,KatTups h vs fs/\fs.length=vs.length/\∀v∈fs,∃i t,v=.int i t
 |[],[],_=>⟨[],trivial,rfl,λ_ h=>by cases h⟩
 |v::vs,q::qs,⟨hp,h2⟩=>by
  obtain⟨a,t,u,o,n,rfl,e1,c1,d1⟩:=hp;obtain⟨fs,f1,f2,f3⟩:=Z6.tups h2;refine⟨.int q.1 t::fs,.cons e1 c1 d1 jv f1,by simp[f2],λv hv=>?_⟩;rcases Ql.mp hv with rfl|hv
  .exact⟨_,_,rfl⟩
  .exact f3 v hv
theorem Z6.mono{h h':Heap}(k:∀b o,h.get? b=ju o->h'.get? b=ju o):∀{vs:jB}{qs:LP},Z6 h vs qs->Z6 h' vs qs
 |[],[],_=>trivial
 |v::vs,q::qs,⟨hp,h2⟩=>by obtain⟨a,t,u,o,n,rfl,e1,c1,d1⟩:=hp;exact⟨⟨a,t,u,o,n,rfl,k _ _ e1,c1,d1⟩,Z6.mono k h2⟩
def SL(qs:LP)(π:jK):Prop:=π.Perm (Up qs.length)/\(π.map λi=>qs.getD i (0,0)).Pairwise λx y=>Kq x<=Kq y
theorem jt{a:Uh}{vs:jB}{qs:LP}{n:Nat}{P:Fin->Uf->Prop}(ho:s.heap.get? a=ju (seqObj "list" vs.toArray n))
  (hp:Z6 ((s.heap.update a (Obj.mapSeq λ_=>#[]))) vs qs) (hq:∀q∈qs,okP q) (h64:vs.length<64)
  (h:∀π:jK,SL qs π->P (.done (.ret .none)) {s with heap:=sortedHeap s.heap a vs (List.toArray (π.map λi=>vs.getD i .none))}) :
  Ul (model prog w) A (Builtin.«list.sort» ⟨[.ref a],[]⟩) P E s:=by
 obtain⟨hl,hget⟩:=hp.get;rw[list_sort_plain];have ha:a<s.heap.objs.size:=Qj ho;refine Qd (listItems_at ho jv ?_);refine Qd (listUpdate_at ho jv ?_);obtain⟨e1,ho1⟩:∃e1,(s.heap.update a (Obj.mapSeq λ_=>#[])).get? a=ju (seqObj "list" #[] e1):=⟨_,get?_update_seq ho (λ_=>#[])⟩
 refine Qd (seqEpoch_at ho1 jv ?_);refine Qd (wpAny_newTuple ?_);refine Qd (wpAny_newList ?_);refine Js ?_;have ho6:(((s.heap.update a (Obj.mapSeq λ_=>#[])).push (seqObj "tuple" vs.toArray 0)).push (seqObj "list" #[] 0)).get? a=ju (seqObj "list" #[] e1):=by rw[Heap.get?_push_ne _ _ _ (by rw[size_push',Heap.size_update];exact QH (Nat.lt_succ_of_lt ha)),Heap.get?_push_ne _ _ _ (by rw[Heap.size_update];exact QH ha)];exact ho1
 have hp6:Z6 (((s.heap.update a (Obj.mapSeq λ_=>#[])).push (seqObj "tuple" vs.toArray 0)).push (seqObj "list" #[] 0)) vs qs:=hp.mono λb o e=>Qg _ (Qg _ e)
 show Ul (model prog w) A _ P E {s with heap:=((s.heap.update a (Obj.mapSeq λ_=>#[])).push (seqObj "tuple" vs.toArray 0)).push (seqObj "list" #[] 0)};dsimp only;have hsz:vs.toArray.size=vs.length:=by simp
 by_cases h2:vs.toArray.size<2
 .rw[Qo h2,Qo h2]
  refine Qd (Qk ?_);rw[StateT.run_pure];refine Qd (Qk ?_);dsimp only;refine Qd (seqEpoch_at ho6 jv ?_);refine Qd (listUpdate_at ho6 jv ?_ (hsz2:=by rw[Array.size_map];show(pairsOf vs).size<=_;rw[pairsOf_size,sizeLine_eq];omega));simp only[bne_self_eq_false,Jy,Ua]
  have hid:(arrOf (SortSt.mk' general' (vs.toArray.zip vs.toArray) #[] 7 jw)).map (·.2)=List.toArray ((Up vs.length).map λi=>vs.getD i .none):=by
   show(vs.toArray.zip vs.toArray).map (·.2)=_
   apply Array.toList_inj.mp;apply List.ext_getElem?;intro i;simp only[Array.toList_map,Array.toList_zip,Qf,List.getElem?_zip_eq_some];by_cases hi:i<vs.length
   .simp[List.getElem?_zip_eq_some,hi,List.getElem?_range]
   .simp[hi]
  rw[hid];refine Qk (h (Up vs.length) ⟨by rw[hl],?_⟩);rw[List.pairwise_map];rw[hsz]at h2
  rcases(show vs.length=0∨vs.length=1 by omega)with z|z<;>rw[z]
  .exact .nil
  .exact List.pairwise_singleton _ _
 .rw[QC h2,QC h2]
  rw[hsz]at h2;obtain⟨fs,f1,f2,f3⟩:=hp6.tups;refine Qd (kat_kind (T:=.type "int") f1 (by omega) (λv hv=>by obtain⟨i,t,rfl⟩:=f3 v hv;exact(show Looks _ _ (pure (Value.type "int")) _ from .now)) jv ?_)
  refine Qd (Qv (kat_run (ks:=vs) (G:=λp s'=>s' = {s with heap:=((s.heap.update a (Obj.mapSeq λ_=>#[])).push (seqObj "tuple" vs.toArray 0)).push (seqObj "list" #[] 0)}/\p=U8 (kl λi=>Kq (qs.getD i (0,0))) (kas_sort vs.length))
   (Q:=λst' s'=>s' = {s with heap:=((s.heap.update a (Obj.mapSeq λ_=>#[])).push (seqObj "tuple" vs.toArray 0)).push (seqObj "list" #[] 0)}/\failedOf st'=jw/\arrOf st'=(U8 (kl λi=>Kq (qs.getD i (0,0))) (kas_sort vs.length)).map (kas_item (vs.toArray.zip vs.toArray)))
   rfl (by omega) h64 (λp st' s' a1 a2 a3 a4=>⟨a4.1,a3,by rw[a2,a4.2]⟩) ?_) ?_ λ_ _ e=>e)
  .refine Mg (N:=vs.length) (R:=λ_=>True) (lt:=kl λi=>Kq (qs.getD i (0,0))) (λi j C hi hj hC=>?_) _ _ (Aj (by omega)) ⟨rfl,rfl⟩
   refine EK (Z6.get hp6 |>.2 i hi) (Z6.get hp6 |>.2 j hj) ?_;have oi:okP (qs.getD i (0,0)):=hq _ (by rw[QX,Qe (by omega)];exact Q5 _);have oj:okP (qs.getD j (0,0)):=hq _ (by rw[QX,Qe (by omega)];exact Q5 _);have e:decide ((qs.getD i (0,0)).1<(qs.getD j (0,0)).1∨(qs.getD i (0,0)).1=(qs.getD j (0,0)).1/\(qs.getD i (0,0)).2<(qs.getD j (0,0)).2)=kl (λi=>Kq (qs.getD i (0,0))) i j:=by unfold kl;exact decide_eq_decide.mpr (EL oi oj).symm
   rw[e];exact hC
  .rintro⟨⟨⟩,st'⟩ s' ⟨rfl,hf,har⟩
   dsimp only;obtain⟨b1,b2,b3⟩:=Ak (key:=λi=>Kq (qs.getD i (0,0))) (n:=vs.length) (by omega);generalize U8 (kl λi=>Kq (qs.getD i (0,0))) (kas_sort vs.length)=p at har b1 b2 b3;have hout:=kat_snds (ks:=vs) (vs:=vs) jv har;have hsz2:((arrOf st').map (·.2)).size=vs.length:=by rw[hout,QI,Qb,Jt,b2]
   refine Qd (seqEpoch_at ho6 jv ?_);refine Qd (listUpdate_at ho6 jv ?_ (hsz2:=by rw[hsz2,sizeLine_eq];omega));rw[hf];simp only[bne_self_eq_false,Jy,Ua];rw[hout];refine Qk (h p.toList ⟨?_,?_⟩)
   .have:=Array.perm_iff_toList_perm.mp b1
    rw[←hl];exact this
   .rw[List.pairwise_map,List.pairwise_iff_getElem]
    intro i j hi hj hij;rw[Jt,b2]at hi hj;have:=b3 i j (by omega) hj;unfold KA at this;rw[Q9,Q9,JM (by omega),JM (by omega)]at this;simpa using this
end
section
variable{prog:Ug}{w:World}{A:Around}{E:Ue->Uf->Prop}{s:Uf}
theorem jb{l:Uh}{vs:jB}{qs:LP}{Q:Ue->Uf->Prop}(hl:s.heap.IsList l vs.toArray)(hp:Z6 s.heap vs qs)(hq:∀q∈qs,okP q)(h64:vs.length<64)
  (h:∀π:jK,SL qs π->Q (.ref (s.heap.objs.size+1)) {s with heap:=sortedAll s.heap vs (List.toArray (π.map λi=>vs.getD i .none))}) :
  Ul (model prog w) A (call (.builtin "sorted") [.ref l]) Q E s:=by
 refine Calls.call_function_entry kind_sorted plain_sorted entry_sorted (args_sorted1 _) ?_;unfold Builtin.«sorted»;refine Qd (m:=checkCount "sorted" 1 1 _) (Qk ?_);refine Qd (collect_list hl ?_);refine Qd (wpAny_newList ?_);have hsz:((s.heap.push (seqObj "list" #[] 0)).update s.heap.objs.size (Obj.mapSeq (· ++ vs.toArray))).objs.size=s.heap.objs.size+1:=by rw[Heap.size_update,size_push']
 have xU:(((s.heap.push (seqObj "list" #[] 0)).update s.heap.objs.size (Obj.mapSeq (· ++ vs.toArray))).push (seqObj "list" vs.toArray 0)).get? (s.heap.objs.size+1)=ju (seqObj "list" vs.toArray 0):=by rw[←hsz];exact QA _ jv
 show Ul _ _ _ _ _ {s with heap:=((s.heap.push (seqObj "list" #[] 0)).update s.heap.objs.size (Obj.mapSeq (· ++ vs.toArray))).push (seqObj "list" vs.toArray 0)};rw[hsz];refine Qd (Js (wpAny_call_entry slot_list_sort ⟨_,xU,rfl⟩ entry_list_sort (jt (qs:=qs) xU (hp.mono λb o e=>?_) hq h64 λπ a1=>⟨_,rfl,?_⟩) (args_list_sort _)))
 .have hlt:b<s.heap.objs.size:=Qj e
  dsimp only;have xV:(b:Nat)<s.heap.objs.size:=hlt;rw[Heap.get?_update_ne _ _ _ _ (QH (Nat.lt_succ_of_lt xV)),Heap.get?_push_ne _ _ _ (by rw[hsz];exact QH (Nat.lt_succ_of_lt xV)),Heap.get?_update_ne _ _ _ _ (QH hlt),Heap.get?_push_ne _ _ _ (QH hlt)];exact e
 .exact Qk ⟨_,rfl,h π a1⟩
end
end DL
namespace DL
open PySem PySem.Spec L2
open PyProof.Rows hiding St
section
variable{X:Cx}
theorem Me{pins:List (Uh×Obj)}{s:Uf}{σ:St}{H:Hp}(I:Inv X pins σ H s):∀{as:jH}{us:jB}{qs:LP},Vals (as.map V.ref) us->as.length=qs.length->(∀(i:Nat) a q,as[i]?=ju a->qs[i]?=ju q->SqT X.K H a [.int q.1,.int q.2])->Z6 s.heap us qs
 |[],_,[],.nil,_,_=>trivial
 |a::as,_,q::qs,.cons r t,hl,h=>by refine⟨?_,Me I t (by simpa using hl) λi a q h1 h2=>h (i+1) a q (by simpa using h1) (by simpa using h2)⟩;cases r;obtain⟨its,rv,⟨o,e,c,n,d⟩,_⟩:=I.tuple (h 0 a q jv jv);obtain⟨u,v,rfl,r1,r2⟩:=rv.two;obtain⟨t1,rfl⟩:=r1;obtain⟨t2,rfl⟩:=r2;exact⟨a,t1,t2,o,n,rfl,e,c,by simpa using d⟩
theorem MU{as:jH}{us:jB}(r:Vals (as.map V.ref) us):∀(π:jK),(∀i∈π,i<as.length)->Vals (π.map λi=>V.ref (as.getD i 0)) (π.map λi=>us.getD i .none)
 |[],_=>.nil
 |i::π,h=>by
  refine .cons ?_ (MU r π λj hj=>h j (QD _ hj));have hi:=h i Qt;have e:(as.map V.ref)[i]?=ju (.ref (as.getD i 0)):=by rw[List.getElem?_map,List.getElem?_eq_getElem hi];simp[List.getD,List.getElem?_eq_getElem hi]
  obtain⟨u,e2,ru⟩:=r.get e;simp only[List.getD,e2,JQ];exact ru
theorem Ax:ZQ X (.builtin "sorted") (λxs H Q=>∃l,∃as:jH,∃qs:LP,xs=[.ref l]/\SqL X.K H l (as.map V.ref)/\as.length=qs.length/\(∀(i:Nat) a q,as[i]?=ju a->qs[i]?=ju q->SqT X.K H a [.int q.1,.int q.2])/\(∀q∈qs,okP q)/\qs.length<64 /\
  ∀π p,SL qs π->H p=jw->Q (.ref p) (upd H p (.lst (π.map λi=>V.ref (as.getD i 0))))):=by
 intro pins s σ H xs us Q I rx h;obtain⟨l,as,qs,rfl,hq,hl,ht,ho,hb,q⟩:=h;obtain⟨u,rfl,ru⟩:=rx.one;cases ru;obtain⟨its,rv,p,hz⟩:=I.list hq;have hn:its.length=qs.length:=by have:=rv.length;rw[Qb]at this;omega
 refine jb (qs:=qs) p.isList (Me I rv hl ht) ho (by omega) λπ hπ=>?_
 obtain⟨e,he⟩:=sortedAll_at s.heap its (List.toArray (π.map λi=>its.getD i .none));have hπl:∀i∈π,i<as.length:=λi hi=>by have:=hπ.1.mem_iff.mp hi;rw[Je]at this;omega
 refine⟨.ref (s.heap.objs.size+1),_,I.laid (t':=s.toks) (λb o=>sortedAll_old) (JF _) (show Zx X.prog X.w _ _ _ (.lst (π.map λi=>V.ref (as.getD i 0)))from⟨?_,_,e,MU rv π hπl,he⟩),rfl,q π _ hπ (I.hok.fresh (JF _))⟩;rw[Qb,hπ.1.length_eq,Ji];rw[Qb]at hz;omega
def Re:D->Option (Int×Int)
 |.tuple [.int a,.int b]=>ju (a,b)
 |_=>jw
def TM:jz->Option LP
 |[]=>ju []
 |d::r=>(Re d).bind λq=>(TM r).map (q :: ·)
def Yg(q:Int×Int):D:=.tuple [.int q.1,.int q.2]
theorem Ai{d:D}{q:Int×Int}(h:Re d=ju q):d=Yg q:=by
 unfold Re at h;split at h
 .cases h;rfl
 .cases h
theorem LG:∀{ds:jz}{qs:LP},TM ds=ju qs->ds=qs.map Yg
 |[],qs,h=>by cases h;rfl
 |d::r,qs,h=>by
  unfold TM at h;cases z:Re d with
  |none=>rw[z]at h;cases h
  |some q=>
   rw[z]at h;cases z2:TM r with
   |none=>rw[z2]at h;cases h
   |some qs'=>rw[z2]at h;cases h;rw[Ai z,LG z2];rfl
def Sd(qs:LP):LP:=qs.mergeSort λx y=>decide (Kq x<=Kq y)
theorem Aw(qs:LP):(Sd qs).Perm qs:=List.mergeSort_perm ..
theorem Ah(qs:LP):(Sd qs).Pairwise λx y=>Kq x<=Kq y:=by have:=List.pairwise_mergeSort (le:=λx y:Int×Int=>decide (Kq x<=Kq y)) (by intro a b c;simp;omega) (by intro a b;simp;omega) qs;exact this.imp (by simp)
theorem Md:∀{a b:LP},(∀x∈a,okP x)->a.Perm b->a.Pairwise (λx y=>Kq x<=Kq y)->b.Pairwise (λx y=>Kq x<=Kq y)->a=b
 |[],b,_,p,_,_=>by rw[List.nil_perm.1 p]
 |x::a,[],_,p,_,_=>by have:=p.length_eq;simp at this
 |x::a,y::b,ok,p,ha,hb=>by
  have hx:Kq y<=Kq x:=by
   rcases Ql.1 (p.mem_iff.1 (Qt ..))with e|e
   .rw[e];exact JA _
   .exact(Jm.1 hb).1 x e
  have hy:Kq x<=Kq y:=by
   rcases Ql.1 (p.mem_iff.2 (Qt ..))with e|e
   .rw[e];exact JA _
   .exact(Jm.1 ha).1 y e
  have oky:okP y:=ok y (p.mem_iff.2 (Qt ..));have e:=DT (ok x (Qt ..)) oky (JZ hy hx);subst e;rw[Md (λz hz=>ok z (QD _ hz)) (List.Perm.cons_inv p) (Jm.1 ha).2 (Jm.1 hb).2]
theorem DS{qs:LP}{π:jK}(ok:∀q∈qs,okP q)(h:SL qs π):(π.map λi=>qs.getD i (0,0))=Sd qs:=by
 have hp:(π.map λi=>qs.getD i (0,0)).Perm qs:=by
  have h1:=h.1.map λi=>qs.getD i (0,0)
  have e:(Up qs.length).map (λi=>qs.getD i (0,0))=qs:=by
   apply List.ext_getElem?;intro i;rw[Qf];by_cases hi:i<qs.length
   .rw[List.getElem?_range hi,List.getElem?_eq_getElem hi];simp[List.getD,List.getElem?_eq_getElem hi]
   .rw[Jx (by rw[Ji];omega),Jx (by omega)];rfl
  rw[e]at h1;exact h1
 exact Md (λx hx=>ok x (hp.mem_iff.mp hx)) (hp.trans (Aw qs).symm) h.2 (Ah qs)
def okPB(q:Int×Int):Bool:=decide (-1000000<=q.2/\q.2<=1000000)
def Rc:jz->jC
 |[.list ds]=>(match TM ds with
  |some qs=>if qs.length<64/\qs.all okPB=jx then ju (.list ((Sd qs).map Yg))else jw
  |none=>jw)
 |_=>jw
theorem Av{xs:jz}{d:D}(h:Rc xs=ju d):∃qs:LP,xs=[.list (qs.map Yg)]/\qs.length<64/\(∀q∈qs,okP q)/\d=.list ((Sd qs).map Yg):=by
 unfold Rc at h;split at h
 .rename_i ds
  cases z:TM ds with
  |none=>rw[z]at h;cases h
  |some qs=>
   rw[z]at h;dsimp only at h;split at h
   .rename_i c
    cases h;exact⟨qs,by rw[LG z],c.1,λq hq=>(show -1000000<=q.2/\q.2<=1000000 from Qa (Jc.mp c.2 q hq)),rfl⟩
   .cases h
 .cases h
theorem MT{K:Frag}{G:Hp}:∀{vs:List V}{qs:LP},Reps K G vs (qs.map Yg)->∃as:jH,vs=as.map V.ref/\as.length=qs.length/\∀(i:Nat) a q,as[i]?=ju a->qs[i]?=ju q->SqT K G a [.int q.1,.int q.2]
 |_,[],.nil=>⟨[],rfl,rfl,λi a q h=>by simp at h⟩
 |_,q::qs,.cons r t=>by
  obtain⟨as,rfl,hl,h⟩:=MT t;obtain⟨a,ws,rfl,h1,r1⟩:=r.tup_inv;cases r1 with
  |cons ra rb=>
   obtain⟨v,rfl,rb'⟩:=rb.one_inv;refine⟨a::as,rfl,by simp[hl],λi a' q' e1 e2=>?_⟩;cases i with
   |zero=>cases e1;cases e2;rw[ra.int_inv,rb'.int_inv]at h1;exact h1
   |succ i=>exact h i a' q' (by simpa using e1) (by simpa using e2)
theorem DR{K:Frag}{G:Hp}{a:Uh}{q:Int×Int}(h:SqT K G a [.int q.1,.int q.2]):Rep K G (.ref a) (Yg q):=.tup h (.cons (.int _) (.cons (.int _) .nil))
theorem MS{K:Frag}{G:Hp}{as:jH}{qs:LP}(hl:as.length=qs.length)(h:∀(i:Nat) a q,as[i]?=ju a->qs[i]?=ju q->SqT K G a [.int q.1,.int q.2]):∀π:jK,(∀i∈π,i<qs.length)->Reps K G (π.map λi=>V.ref (as.getD i 0)) ((π.map λi=>qs.getD i (0,0)).map Yg)
 |[],_=>.nil
 |i::π,hb=>by
  refine .cons ?_ (MS hl h π λj hj=>hb j (QD _ hj));have hi:=hb i Qt;refine DR (h i _ _ ?_ ?_)
  .rw[List.getElem?_eq_getElem (by omega)];simp[List.getD,List.getElem?_eq_getElem (show i<as.length by omega)]
  .rw[List.getElem?_eq_getElem hi];simp[List.getD,List.getElem?_eq_getElem hi]
theorem EJ:ZW X (.builtin "sorted") Rc:=by refine⟨_,Ax,λvs G H ds d Q s r e k=>?_⟩;obtain⟨qs,rfl,h64,ok,rfl⟩:=Av e;obtain⟨v,rfl,q1⟩:=r.one_inv;obtain⟨l,ws,rfl,h1,r1⟩:=q1.lst_inv;obtain⟨as,rfl,hl,ht⟩:=MT r1;refine⟨l,as,qs,rfl,s.seq h1,hl,λi a q e1 e2=>Yl s (ht i a q e1 e2),ok,h64,λπ p hπ hp=>?_⟩;have hb:∀i∈π,i<qs.length:=λi hi=>Je.mp (hπ.1.mem_iff.mp hi);have rr:=(MS hl ht π hb).mono (Zj (s.free hp):Same G (upd G p (.lst (π.map λi=>V.ref (as.getD i 0)))));rw[DS ok hπ]at rr;exact k _ _ _ (Ext.new s hp) (.lst (SqL.of KP) rr)
theorem ZW.or{f:Ue}{p q:jz->jC}(h1:ZW X f p)(h2:ZW X f q):ZW X f (λxs=>(p xs).orElse λ_=>q xs):=by
 obtain⟨r1,c1,k1⟩:=h1;obtain⟨r2,c2,k2⟩:=h2;refine⟨λxs H Q=>r1 xs H Q∨r2 xs H Q,λpins s σ H xs us Q I rx h=>?_,λvs G H ds d Q s r e k=>?_⟩
 .rcases h with h|h
  .exact c1 pins s σ H xs us Q I rx h
  .exact c2 pins s σ H xs us Q I rx h
 .dsimp only at e
  cases z:p ds with
  |some d'=>rw[z]at e;cases e;exact .inl (k1 vs G H ds _ Q s r z k)
  |none=>rw[z]at e;exact .inr (k2 vs G H ds _ Q s r e k)
def SK(xs:jz):jC:=(Tv xs).orElse λ_=>Rc xs
theorem GI:ZW X (.builtin "sorted") SK:=F2.or EJ
theorem Au{ns:jA}(h:ns.length<64):SK [.list (ns.map .int)]=ju (.list ((ZL ns).map .int)):=by unfold SK;rw[B0 h];rfl
end
section
variable{X:Cx}{B G0:Hp}{e o a b c tg:Uj}{pos p2:Pos}{es rest:jF}{te to ti:TE}
def YK{β:Type}(p:D->D->Option β)(f:M D)(j:Nat):M β:=UZ f λx=>λZ=>match Z[j]? with
 |some (ju (.pub d))=>UW (p x d) Z
 |some (ju (.own ds))=>UW (p x (.list ds)) Z
 |_=>.bad
theorem Oq{K:Frag}{σ:St}{H:Hp}{p:D->D->jJ}{r:R2}{j:Nat}{f:M D}{Q:Bool->Hp->Prop}{QV:VK}(hq:∀t H3,Q t H3->QV (.bl t) H3)
  (hr:∀v u G H x y d Q,Same G H->Rep K G v x->Rep K G u y->p x y=ju d->Q (.bl d) H->r v u H Q)
  (q:tBo K B G0 (YK p f j) σ H Q):tD K B G0 f σ H λx H1=>KT j σ H1 λy H2=>r x y H2 QV:=by
 refine tM.one (R:=Rep K) q λv H2 G Z x k rx a=>?_
 cases z:Z[j]? with
 |none=>rw[z]at a;exact a.elim
 |some o=>
  cases o with
  |none=>rw[z]at a;exact a.elim
  |some sl=>
   cases sl with
   |deep _ _=>rw[z]at a;exact a.elim
   |pub d=>rw[z]at a;dsimp only at a;obtain⟨d',e',a'⟩:=aft.opt a;obtain⟨u,h1,h2⟩:=k.pub j d z;exact⟨u,h1,hr v u G H2 x d d' _ k.gh rx h2 e' (hq _ _ (a' d' G H2 k (.refl _) jv))⟩
   |own ds=>rw[z]at a;dsimp only at a;obtain⟨d',e',a'⟩:=aft.opt a;obtain⟨ad,vs,h1,h2,h3,h4,h5⟩:=k.own j ds z;exact⟨.ref ad,h1,hr v (.ref ad) H2 H2 x (.list ds) d' _ (.refl _) (rx.mono k.gh) (.lst (SqL.of h4) (h5.mono k.gh)) e' (hq _ _ (a' d' G H2 k (.refl _) jv))⟩
theorem EI{op:CmpOp}{p:D->D->jJ}{j:Nat}{f:M D}(o:OpB X (Uo op) p)(ha:PE X a (tD X.K B G0 f))(hb:PE X b (KT j))(hm:behindInMarks op b=jy) :
  PT X (.Compare a [op] [b] pos) (tBo X.K B G0 (YK p f j)):=by
 obtain⟨r,h,i⟩:=o;exact ZS (Pi h ha hb hm) λσ H Q q=>Oq (λt H3 z=>⟨t,rfl,z⟩) i q
theorem EH{op:CmpOp}{p:D->D->jJ}{j:Nat}{f:M D}(o:OpB X (Uo op) p)(ha:PE X a (tD X.K B G0 f))(hb:PE X b (KT j))(hm:behindInMarks op b=jy) :
  PE X (.Compare a [op] [b] pos) (tD X.K B G0 (UT Us (YK p f j))):=by
 obtain⟨r,h,i⟩:=o;exact U7 (Pj h ha hb hm) λσ H Q q=>Oq (λt H3 z=>z) i (tBo.val q)
theorem N0{β:Type}{p:D->D->Option β}{f:M D}{j:Nat}{Z Z1:UF}{x d:D}{r:β}(h1:f Z=.ok x Z1)(h2:Z1[j]?=ju (ju (.pub d)))(h3:p x d=ju r):YK p f j Z=.ok r Z1:=by unfold YK;exact Ky h1 (by rw[h2];exact ZH h3)
theorem RG{β:Type}{p:D->D->Option β}{f:M D}{j:Nat}{Z Z1:UF}{x:D}{ds:jz}{r:β}(h1:f Z=.ok x Z1)(h2:Z1[j]?=ju (ju (.own ds)))(h3:p x (.list ds)=ju r):YK p f j Z=.ok r Z1:=by unfold YK;exact Ky h1 (by rw[h2];exact ZH h3)
end
def Yu(K:Frag)(B G0:Hp)(f:M jz):TA:=λσ H Q=>∃G Z,EOk K B G0 G H σ Z/\match f Z with
 |.ok ds Z'=>∀vs G' H',EOk K B G0 G' H' σ Z'->Same G G'->Reps K H' vs ds->Q vs H'
 |.bad=>False
def Xc(Z:UF)(j:Nat):jC:=match Z[j]? with
 |some (ju (.pub d))=>ju d
 |some (ju (.own ds))=>ju (.list ds)
 |some (ju (.deep _ d))=>ju d
 |_=>jw
theorem EOk.tree{K:Frag}{B G0 G H:Hp}{σ:St}{Z:UF}{j:Nat}{d:D}(k:EOk K B G0 G H σ Z)(h:Xc Z j=ju d):∃v,σ[j]?=ju (ju v)/\Rep K H v d:=by
 unfold Xc at h;split at h
 .rename_i d' e
  cases h;obtain⟨v,h1,h2⟩:=k.pub j _ e;exact⟨v,h1,h2.mono k.gh⟩
 .rename_i ds e
  cases h;obtain⟨a,vs,h1,h2,h3,h4,h5⟩:=k.own j ds e;exact⟨.ref a,h1,.lst (SqL.of h4) (h5.mono k.gh)⟩
 .rename_i p d' e
  cases h;obtain⟨ω,k1,k2⟩:=k.dp;obtain⟨v,fp,s,r,_⟩:=k1 j p _ e;exact⟨v,s,r.rep k.gh⟩
 .cases h
def WQ(j:Nat)(g:M jz):M jz:=λZ=>match Xc Z j with
 |none=>.bad
 |some _=>(UZ g λxs=>λZ'=>match Xc Z' j with
  |some d=>.ok (d::xs) Z'
  |none=>.bad) Z
def Ti(n:Nat)(F:jz->jC)(g:M jz):M D:=UZ g λxs=>if xs.length=n then(match F xs with
 |some d=>if flat d=jx then UL d else λ_=>.bad
 |none=>λ_=>.bad)else λ_=>.bad
section
variable{X:Cx}{B G0:Hp}{e o a b c tg:Uj}{pos p2:Pos}{es rest:jF}
theorem EG:PA X [] (Yu X.K B G0 UG):=Xp Xh λσ H Q ⟨G,Z,k,a⟩=>a [] G H k (.refl _) .nil
theorem DQ{f:M D}{g:M jz}(ha:PE X e (tD X.K B G0 f))(hr:PA X es (Yu X.K B G0 g))(hs:Um (e::es) X.env=(jy,eval e X.env)::Um es X.env:=by rfl) :
  PA X (e::es) (Yu X.K B G0 (UI f g)):=Xp (Yo ha hr hs) λσ H Q ⟨G,Z,k,a⟩=>by
 refine⟨G,Z,k,?_⟩;unfold UI UZ at a;cases z:f Z with
 |bad=>rw[z]at a;exact a.elim
 |ok d Z1=>
 rw[z]at a;dsimp only at a;intro v G1 H1 k1 s1 r1;refine⟨G1,Z1,k1,?_⟩;cases z2:g Z1 with
 |bad=>rw[z2]at a;exact a.elim
 |ok xs Z2=>
 rw[z2]at a;dsimp only[UL]at a;intro vs G2 H2 k2 s2 r2;exact a (v::vs) G2 H2 k2 (s1.trans s2) (.cons ((r1.mono s2).mono k2.gh) r2)
theorem Bx{j:Nat}{g:M jz}(ha:PE X e (KT j))(hr:PA X es (Yu X.K B G0 g))(hs:Um (e::es) X.env=(jy,eval e X.env)::Um es X.env:=by rfl) :
  PA X (e::es) (Yu X.K B G0 (WQ j g)):=Xp (Yo ha hr hs) λσ H Q ⟨G,Z,k,a⟩=>by
 unfold WQ at a;cases z0:Xc Z j with
 |none=>rw[z0]at a;exact a.elim
 |some d0=>
 rw[z0]at a;obtain⟨v,hv,_⟩:=k.tree z0;refine⟨v,hv,G,Z,k,?_⟩;dsimp only[UZ]at a;cases z2:g Z with
 |bad=>rw[z2]at a;exact a.elim
 |ok xs Z2=>
 rw[z2]at a;dsimp only at a;intro vs G2 H2 k2 s2 r2;cases z:Xc Z2 j with
 |none=>rw[z]at a;exact a.elim
 |some d=>
 rw[z]at a;obtain⟨v',hv',rv⟩:=k2.tree z;rw[hv]at hv';cases hv';exact a (v::vs) G2 H2 k2 s2 (.cons rv r2)
theorem DP{k n:Nat}{F:jz->jC}{g:M jz}{x:Str}{p2:Pos}(d:Def X.prog X.w X.K X.mg X.base x k n F)(hr:Room k X.A)(hg:Gl X x)(ha:PA X (e::es) (Yu X.K B G0 g))(hn:(e::es).length=n:=by rfl)
  (hdb:(x==("__debug__" : Str))=jy:=by decide) (he:Um (e::es) X.env=(jy,eval e X.env)::Um es X.env:=by rfl) (hpl:(backTo pos (Um es X.env)).any (·.1)=jy:=by rfl) :
  PE X (.Call (.Name x p2) (e::es) [] pos) (tD X.K B G0 (Ti n F g)):=by
 obtain⟨f,fd,ps,h1,h2,h3,FK⟩:=d;refine U7 (Ph FK hr hg h1 h2 h3 .nil R3 ha hdb he hpl) λσ H Q ⟨G,Z,k,a⟩=>⟨G,Z,k,?_⟩;unfold Ti UZ at a
 cases z:g Z with
 |bad=>rw[z]at a;exact a.elim
 |ok ds Z1=>
 rw[z]at a;dsimp only at a;intro vs G1 H1 k1 s1 r1;by_cases hl:ds.length=n
 .rw[Qo hl]at a
  cases zF:F ds with
  |none=>rw[zF]at a;exact a.elim
  |some d=>
  rw[zF]at a;dsimp only at a;by_cases hf:flat d=jx
  .rw[Qo hf]at a
   refine⟨H1,ds,d,by rw[Q7,r1.length];exact hl,.refl _,by rw[Q7];exact r1,zF,λv G2 H2 ex rv=>?_⟩;exact a v G1 H2 (k1.ext ⟨ex.h,.refl _,k1.gh.trans ex.h,λ_ _ _ n=>n⟩) s1 (rv.flat hf)
  .rw[QC hf]at a;exact a.elim
 .rw[QC hl]at a;exact a.elim
theorem RF{j:Nat}{g:M jz}{Z Z1:UF}{xs:jz}{d0 d:D}(h0:Xc Z j=ju d0)(h1:g Z=.ok xs Z1)(h2:Xc Z1 j=ju d):WQ j g Z=.ok (d::xs) Z1:=by unfold WQ;rw[h0];dsimp only[UZ];rw[h1];dsimp only;rw[h2]
theorem Nn{n:Nat}{F:jz->jC}{g:M jz}{Z Z1:UF}{xs:jz}{r:D}(h1:g Z=.ok xs Z1)(h2:xs.length=n)(h3:F xs=ju r)(h4:flat r=jx:=by rfl):Ti n F g Z=.ok r Z1:=by unfold Ti;exact Ky h1 (by rw[if_pos h2,h3];dsimp only;rw[if_pos h4];rfl)
end
end DL
namespace HT
open PySem PyProof.Rows
end HT
namespace DL
open PySem PySem.Spec L2
open PyProof.Rows hiding St
end DL
namespace DL
open PySem
theorem lz0{P:jB->Prop}{us:jB}(hl:us.length=0)(h:P []):P us:=by
 cases us with
 |nil=>exact h
 |cons a r=>cases hl
theorem lzS{P:jB->Prop}{us:jB}{n:Nat}(hl:us.length=n+1)(h:∀a r,r.length=n->P (a::r)):P us:=by
 cases us with
 |nil=>cases hl
 |cons a r=>exact h a r (Nat.succ.inj hl)
theorem lz1{P:jB->Prop}{us:jB}(hl:us.length=1)(h:∀a,P [a]):P us:=lzS hl λa r e=>lz0 (P:=λr=>P (a::r)) e (h a)
theorem lz2{P:jB->Prop}{us:jB}(hl:us.length=2)(h:∀a b,P [a,b]):P us:=lzS hl λa r e=>lz1 (P:=λr=>P (a::r)) e (h a)
theorem lz3{P:jB->Prop}{us:jB}(hl:us.length=3)(h:∀a b c,P [a,b,c]):P us:=lzS hl λa r e=>lz2 (P:=λr=>P (a::r)) e (h a)
theorem lz4{P:jB->Prop}{us:jB}(hl:us.length=4)(h:∀a b c d,P [a,b,c,d]):P us:=lzS hl λa r e=>lz3 (P:=λr=>P (a::r)) e (h a)
theorem lz5{P:jB->Prop}{us:jB}(hl:us.length=5)(h:∀a b c d e,P [a,b,c,d,e]):P us:=lzS hl λa r e=>lz4 (P:=λr=>P (a::r)) e (h a)
theorem bz1{fd:Ui}{ps:List Str}{us:jB}(hl:us.length=1)(h:∀a,bindArgs fd {pos:=[a]}=pure (ps.zip [a])):bindArgs fd {pos:=us}=pure (ps.zip us):=lz1 (P:=λus=>bindArgs fd {pos:=us}=pure (ps.zip us)) hl h
theorem bz2{fd:Ui}{ps:List Str}{us:jB}(hl:us.length=2)(h:∀a b,bindArgs fd {pos:=[a,b]}=pure (ps.zip [a,b])):bindArgs fd {pos:=us}=pure (ps.zip us):=lz2 (P:=λus=>bindArgs fd {pos:=us}=pure (ps.zip us)) hl h
theorem bz3{fd:Ui}{ps:List Str}{us:jB}(hl:us.length=3)(h:∀a b c,bindArgs fd {pos:=[a,b,c]}=pure (ps.zip [a,b,c])):bindArgs fd {pos:=us}=pure (ps.zip us):=lz3 (P:=λus=>bindArgs fd {pos:=us}=pure (ps.zip us)) hl h
theorem bz4{fd:Ui}{ps:List Str}{us:jB}(hl:us.length=4)(h:∀a b c d,bindArgs fd {pos:=[a,b,c,d]}=pure (ps.zip [a,b,c,d])):bindArgs fd {pos:=us}=pure (ps.zip us):=lz4 (P:=λus=>bindArgs fd {pos:=us}=pure (ps.zip us)) hl h
theorem bz5{fd:Ui}{ps:List Str}{us:jB}(hl:us.length=5)(h:∀a b c d e,bindArgs fd {pos:=[a,b,c,d,e]}=pure (ps.zip [a,b,c,d,e])):bindArgs fd {pos:=us}=pure (ps.zip us):=lz5 (P:=λus=>bindArgs fd {pos:=us}=pure (ps.zip us)) hl h
end DL
namespace DL
open PySem PySem.Spec L2
open PyProof.Rows hiding St
def whole(h:Heap):Frag:=(Up h.objs.size).filterMap λa=>(h.get? a).map λo=>(a,o)
theorem MR{g:Uh->Option Obj}{x:Uh}:∀l:jH,(l.filterMap λa=>(g a).map λo=>(a,o)).lookup x=if x∈l then g x else jw
 |[]=>rfl
 |y::l=>by
  have ih:=MR (g:=g) (x:=x) l;by_cases e:x=y
  .subst e
   rw[Qo Qt];cases z:g x with
   |none=>rw[List.filterMap_cons_none (by rw[z];rfl),ih,z];split<;>rfl
   |some o=>rw[List.filterMap_cons_some (by rw[z];rfl),QW,beq_self_eq_true]
  .have m:(x∈y::l)=(x∈l):=by simp[List.mem_cons,e]
   have b:(x==y)=jy:=by simpa using e
   have ih':(if x∈y::l then g x else jw)=_:=(by simp only[m];exact ih.symm)
   rw[ih'];cases z:g y with
   |none=>rw[List.filterMap_cons_none (by rw[z];rfl)]
   |some o=>rw[List.filterMap_cons_some (by rw[z];rfl),QW,b]
theorem ZY{h:Heap}{a:Uh}:(whole h).lookup a=h.get? a:=by
 unfold whole;rw[MR];split
 .rfl
 .rename_i n
  cases z:h.get? a with
  |none=>rfl
  |some o=>exact absurd (Je.mpr (Qj z)) n
theorem DO(h:Heap):(whole h).In h:=λa o e=>by rw[ZY]at e;exact e
def Hr(st:Stmt):Option DefRec:=match st with
 |.FunctionDef name a b _ _ _ sc _ _ pos=>ju ⟨name,a,b,sc,pos⟩
 |_=>jw
def Sm(st:Stmt):Option Str:=match st with
 |.FunctionDef name _ _ _ _ _ _ _ _ _=>ju name
 |_=>jw
def Hq(st:Stmt):Pos:=match st with
 |.FunctionDef _ _ _ _ _ _ _ _ _ pos=>pos
 |_=>⟨0,0,0,0⟩
abbrev Kh(p:Ug)(i:Nat):Stmt:=p.main.body.getD i (.Pass ⟨0,0,0,0⟩)
def Va(p:Ug)(ix:jK):List DefRec:=ix.filterMap λi=>Hr (Kh p i)
section
variable{p q:Ug}{loose:List Str}{mean:ExcName->jE}{mg mb:Str->jE}{h:Heap}{w:World}
theorem Rb{ix:jK}(T:Top q loose mean mg mb h)(e:recsOf q=Va p ix)(i:Nat)(x:Str)(hi:ix.contains i=jx)(hn:Sm (Kh p i)=ju x):∃f fd,mg x=ju (.ref f)/\Fun (whole h) x x (Kh p i) f fd:=by
 cases hs:Kh p i with
 |FunctionDef name a b _ _ _ sc _ _ pos=>
  rw[hs]at hn;cases hn;have hd:(⟨x,a,b,sc,pos⟩:DefRec)∈recsOf q:=by rw[e];exact List.mem_filterMap.mpr ⟨i,by simpa using hi,by rw[hs];rfl⟩
  obtain⟨f,⟨oc,od,dt,osl⟩,pm,cd,doc,h1,h2,h3,h4⟩:=T.fn _ hd;have h3:dt=_:=h3;subst h3;refine⟨f,_,h1,⟨⟨oc,od,.none,doc,pm,_,cd,_,osl,rfl,by rw[ZY];exact h2,?_⟩,?_⟩⟩
  .obtain⟨c,⟨_,_,dc,_⟩,vs,t,rfl,g1,g2,g3⟩:=h4
   have g2:dc=_:=g2;subst g2;unfold PySem.W.codeIn;dsimp only;rw[ZY,g1];dsimp only;have g4:vs.toList[1]?=ju (.str x t):=by rw[Array.getElem?_toList];exact g3
   cases hv:vs.toList with
   |nil=>rw[hv]at g4;cases g4
   |cons v0 r=>
    rw[hv]at g4;cases r with
    |nil=>cases g4
    |cons v1 r=>cases g4;exact beq_self_eq_true _
  .unfold PySem.W.keepIn
   dsimp only;rw[ZY,h2]
 |_=>rw[hs]at hn;cases hn
theorem Bw{K:Frag}{x qual y:Str}{st:Stmt}{f:Uh}{fd:Ui}(F:Fun K x qual st f fd)
  (hb:∀(kV doc pm:Ue)(an:jI)(cdv ct v:Ue),bindArgs (PySem.W.fnOf x qual (Xk st) (Z9 st) (KZ st) .none kV doc pm an cdv ct) ⟨[v],[]⟩=pure [(y,v)]) (s:Uf) (v:Ue):BindsTo s fd ⟨[v],[]⟩ [(y,v)]:=by
 obtain⟨oc,od,kV,doc,pm,an,cdv,ct,osl,rfl,lk,hcd⟩:=F.ex;exact .of_eq (hb kV doc pm an cdv ct v)
def SJ(q:Ug)(loose:List Str)(x:Str):Bool:=
 !startupNames.contains x && !loose.contains x && !((recsOf q).map (·.name)).contains x && !((litsOf q).map (·.1)).contains x && !((clssOf q loose).map (·.name)).contains x
theorem Yn(T:Top q loose mean mg mb h){xs:List Str}(e:xs.all (SJ q loose)=jx){x:Str}(hx:x∈xs):mg x=jw:=by have:=Jc.mp e x hx;unfold SJ at this;simp only[QS,JU,List.contains_eq_mem,decide_eq_false_iff_not]at this;exact T.free x this.1.1.1.1 this.1.1.1.2 this.1.1.2 this.1.2 this.2
theorem RO(T:Top q loose mean mg mb h){x:Str}{i:Int}(e:valOf q x=ju (.int i)):∃t,mg x=ju (.int i t):=by obtain⟨v,h1,h2⟩:=T.const x _ e;have:=h2 h;cases this;exact⟨_,h1⟩
theorem Op:∀{vs:jB}{ss:List Str},StrsAre vs ss->Vals (ss.map V.str) vs
 |_,_,.nil=>.nil
 |_,_,.cons y t r=>.cons ⟨t,rfl⟩ (Op r)
theorem Bv(B:Tables q w mg h){x:Str}{ss:List Str}(e:tupStrsOf q x=ju ss)(hl:ss.length<=1000) :
  ∃ad o its n,mg x=ju (.ref ad)/\(whole h).lookup ad=ju o/\o.cls=.type "tuple" /\ o.data=.seq its n/\its.size<=Uk/\Vals (ss.map V.str) its.toList:=by
 obtain⟨a,vs,h1,⟨o,h2,h3,n,h4⟩,h5⟩:=B.tupS x ss e;have r:=Op h5;refine⟨a,o,_,n,h1,by rw[ZY];exact h2,h3,h4,?_,r⟩;have:=r.length;rw[Qb]at this;have l:(1000:Nat)<=Uk:=by decide
 rw[QI];omega
end
def scOk(sc:Scope)(N gl:List Str):Bool:=(N.all λx=>match sc.names.lookup x with|some .local=>jx|some .cell=>jx|_=>jy)&&gl.all λx=>match sc.names.lookup x with|some .globalImplicit=>jx|_=>jy
def fnB(sc:Scope)(N gl:List Str):Bool:=decide (sc.kind=.function) && !sc.isCoroutine && !sc.isGenerator&&decide N.Nodup&&(sc.names.all λy=>match y.2 with | .free=>jy|_=>jx)&&scOk sc N gl
structure FnNm(sc:Scope)(N gl:List Str):Prop where
 kind:sc.kind=.function
 co:sc.isCoroutine=jy
 gen:sc.isGenerator=jy
 nd:N.Nodup
 nofree:∀y∈sc.names,y.2≠.free
 nm:∀x∈N,sc.names.lookup x=ju .local∨sc.names.lookup x=ju .cell
 gl:∀x∈gl,sc.names.lookup x=ju .globalImplicit
theorem Kw{sc:Scope}{N gl:List Str}(H:fnB sc N gl=jx):FnNm sc N gl:=by
 unfold fnB scOk at H;simp only[QS,Ja,JU,Jc]at H;obtain⟨⟨⟨⟨⟨h1,h2⟩,h3⟩,h4⟩,h5⟩,h6,h7⟩:=H;refine⟨h1,h2,h3,h4,λy hy e=>?_,λx hx=>?_,λx hx=>?_⟩
 .have:=h5 y hy;rw[e]at this;cases this
 .have:=h6 x hx
  split at this
  .rename_i e;exact .inl e
  .rename_i e;exact .inr e
  .cases this
 .have:=h7 x hx
  split at this
  .rename_i e;exact e
  .cases this
section
variable{sc:Scope}{N gl:List Str}{x:Str}
theorem nq(H:FnNm sc N gl):N.Nodup:=H.nd
theorem fq(H:FnNm sc N gl)(n:Nat):Vg N (N.take n) sc:=⟨H.kind,H.co,H.gen,H.nd,by rw[Jh,List.take_eq_take_iff];omega,λx hx=>H.nm x (JW hx),H.nofree⟩
theorem lq(H:FnNm sc N gl)(i:Nat)(h:N[i]?=ju x:=by rfl):L2.Loc sc x:=H.nm x (Qp h)
theorem gq(H:FnNm sc N gl)(i:Nat)(h:gl[i]?=ju x:=by rfl):sc.names.lookup x=ju .globalImplicit:=H.gl x (Qp h)
theorem pq{X:Cx}{pos:Pos}(H:FnNm X.env.scope X.N gl)(i:Nat)(h:X.N[i]?=ju x:=by rfl)(hd:(x==("__debug__" : Str))=jy:=by decide)(hc:(x==("__classdict__" : Str))=jy:=by decide):PE X (.Name x pos) (KT i):=
 O2 h ((H.nm x (Qp h)).elim .inl λz=>.inr (.inl z)) hd hc
end
theorem KJ{q p:Ug}{loose:List Str}{mean:ExcName->jE}{mg mb:Str->jE}{h:Heap}{ix:jK}(P:Ug)(w:World)(base:Heap){ps:List Str}{k n:Nat}{F:jz->jC}(T:Top q loose mean mg mb h)(e:recsOf q=Va p ix)(i:Nat)(x:Str)(hi:ix.contains i=jx)(hn:Sm (Kh p i)=ju x)
  (ok:∀{f:Uh}{fd:Ui},Fun (whole h) x x (Kh p i) f fd->FnOk P w (whole h) mg base CX0 k f fd ps (spD (whole h) n F))
  (hb:∀(kV doc pm:Ue)(an:jI)(cdv ct:Ue)(us:jB),us.length=ps.length->bindArgs (PySem.W.fnOf x x (Xk (Kh p i)) (Z9 (Kh p i)) (KZ (Kh p i)) .none kV doc pm an cdv ct) ⟨us,[]⟩=pure (ps.zip us)):Def P w (whole h) mg base x k n F:=by
 obtain⟨f,fd,m,FU⟩:=Rb T e i x hi hn;exact Def.mk m FU (FU.binds hb) (ok FU)
section
variable{X:Cx}{B G0:Hp}{e:Uj}{pos:Pos}{es:jF}
theorem pdf{k kk n:Nat}{F:jz->jC}{g:M jz}{x:Str}{p2:Pos}(d:Def X.prog X.w X.K X.mg X.base x k n F)(hr:Room kk X.A)(hg:Gl X x)(ha:PA X (e::es) (tDs X.K B G0 g))(hk:k<=kk:=by decide)(hn:(e::es).length=n:=by rfl)
  (hdb:(x==("__debug__" : Str))=jy:=by decide) (he:Um (e::es) X.env=(jy,eval e X.env)::Um es X.env:=by rfl) (hpl:(backTo pos (Um es X.env)).any (·.1)=jy:=by rfl) :
  PE X (.Call (.Name x p2) (e::es) [] pos) (tD X.K B G0 (UV n F g)):=Eg d (hr.mono hk) hg ha hn hdb he hpl
end
theorem Hn{q p:Ug}{loose:List Str}{mean:ExcName->jE}{mg mb:Str->jE}{h:Heap}{ix:jK}{P:Ug}{w:World}{k:Nat}{F:jz->jC}{y:Str}{fa:Uh}(T:Top q loose mean mg mb h)(e:recsOf q=Va p ix)(i:Nat)(x:Str)(hi:ix.contains i=jx)(hn:Sm (Kh p i)=ju x)(hfa:mg x=ju (.ref fa))
  (hb:∀(kV doc pm:Ue)(an:jI)(cdv ct v:Ue),bindArgs (PySem.W.fnOf x x (Xk (Kh p i)) (Z9 (Kh p i)) (KZ (Kh p i)) .none kV doc pm an cdv ct) ⟨[v],[]⟩=pure [(y,v)])
  (ok:∀(base:Heap){f:Uh}{fd:Ui},Fun (whole h) x x (Kh p i) f fd->FnOk P w (whole h) mg base CX0 k f fd [y] (spD (whole h) 1 F)) :
  ∃fd:Ui,(∀(s:Uf)(v:Ue),BindsTo s fd ⟨[v],[]⟩ [(y,v)])/\∀base:Heap,FnOk P w (whole h) mg base CX0 k fa fd [y] (spD (whole h) 1 F):=by
 obtain⟨f,fd,m,FU⟩:=Rb T e i x hi hn;cases hfa.symm.trans m;exact⟨fd,Bw FU hb,λbase=>ok base FU⟩
def T4:D->Bool
 |.str x=>decide (x.length<=1000)
 |.int i=>decide (0<=i)&&decide (i<10 ^ 10)
 |.none=>jx
 |_=>jy
def W5(nm:Str)(ds:jz):Option jz:=match Ym nm with
 |[]=>(match ds with | [.str _]=>ju [] | _=>jw)
 |f::fs=>if ds.length=(f::fs).length/\ds.all T4=jx then ju ds else jw
abbrev exD(nm:Str)(ds:jz):D:=.dict [(.none,.tuple [.str nm,.list ds])]
section
variable{K:Frag}{G H H':Hp}{nm:Str}{C a:Uh}{bm:jB}{vs:List V}{ds fs:jz}{dd:jI}
theorem GH{v:V}{d:D}(r:Rep K G v d)(h:T4 d=jx):∃y,FmtV v y/\y.length<=4000:=by
 cases r with
 |non=>exact⟨_,.non,by decide⟩
 |bl b=>cases h
 |int i=>
  unfold T4 at h;simp only[QS,Ja]at h;have h64:i.natAbs<2 ^ 64:=by have:=h.2;have:=h.1;omega
  refine⟨_,.int i ?_,QP (toString_length_le h.1 (by decide:0<10) h.2) (by decide)⟩;by_cases z:i.natAbs=0
  .rw[z];decide
  .have:=(Nat.log2_lt z).mpr h64
   omega
 |str x=>unfold T4 at h;have h:=Qa h;exact⟨x,.str x (QP h (by decide)),QP h (by decide)⟩
 |lst _ _=>cases h
 |tup _ _=>cases h
 |dic _=>cases h
 |exc _ _ _ _=>cases h
 |dct _ _ _ _ _=>cases h
 |dtt _ _ _ _=>cases h
theorem Nm:∀{vs:List V}{ds:jz},Reps K G vs ds->ds.all T4=jx->∀u∈vs,∃y,FmtV u y/\y.length<=4000
 |_,_,.nil,_,u,hu=>by cases hu
 |_,_,.cons r t,h,u,hu=>by
  rw[List.all_cons,QS]at h;rcases Ql.mp hu with rfl|hu
  .exact GH r h.1
  .exact Nm t h.2 u hu
theorem DN(r:Reps K G vs ds)(e:W5 nm ds=ju fs):OA nm vs:=by
 unfold W5 at e;split at e
 .rename_i hf
  split at e
  .obtain⟨v,rfl,q⟩:=r.one_inv
   exact .inl ⟨hf,_,by rw[q.str_inv]⟩
  .cases e
 .rename_i f l hf
  split at e
  .rename_i c
   refine .inr ⟨by rw[hf];simp,by rw[r.length,hf];exact c.1,Nm r c.2⟩
  .cases e
theorem EF(c:ClsK K nm C bm)(s:Same G H)(ha:H a=jw)(r:Reps K G vs ds)(e:W5 nm ds=ju fs)(p:Oz nm C a vs (upd H a (.ext (XO jx a C jw))) dd H') :
  ∃G',Ext G H G' (upd H' a (.ext (XO jy a C dd)))/\Rep K G' (.ref a) (exD nm fs)/\H' a=ju (.ext (XO jx a C dd)):=by
 unfold W5 at e;rcases p with ⟨hf,rfl,rfl⟩|⟨hf,hl,dx,rfl,hd,hne,rfl⟩
 .rw[hf]at e
  dsimp only at e;split at e
  .cases e
   refine⟨upd G a (.ext (XO jy a C jw)),?_,.exc (vs:=[]) c KP ⟨hf,rfl⟩ .nil,KP⟩;rw[E4];exact Ext.new s ha
  .cases e
 .split at e
  .rename_i hf';exact absurd hf' hf
  .rename_i f l hf'
   split at e
   .cases e
    have hd':H dx=jw:=by rw[Kn hne]at hd;exact hd
    have eH:upd (upd (upd (upd H a (.ext (XO jx a C jw))) a (.ext (XO jx a C (ju dx)))) dx (.ext (XD dx ((Ym nm).zip vs)))) a (.ext (XO jy a C (ju dx)))=upd (upd H a (.ext (XO jy a C (ju dx)))) dx (.ext (XD dx ((Ym nm).zip vs))):=by
     funext b;by_cases h1:b=a
     .subst h1;rw[KP,Kn (Ne.symm hne),KP]
     .rw[Kn h1]
      by_cases h2:b=dx
      .subst h2;rw[KP,KP]
      .rw[Kn h2,Kn h1,Kn h1,Kn h2,Kn h1]
    have x1:Ext G H (upd G a (.ext (XO jy a C (ju dx)))) (upd H a (.ext (XO jy a C (ju dx)))):=Ext.new s ha;have hd2:upd H a (.ext (XO jy a C (ju dx))) dx=jw:=by rw[Kn hne];exact hd'
    have x2:=x1.trans (Ext.new (o:=.ext (XD dx ((Ym nm).zip vs))) x1.gh hd2);exact⟨_,by rw[eH];exact x2,.exc (dd:=ju dx) (vs:=vs) c (by rw[Kn (Ne.symm hne)];exact KP) ⟨hl.symm,KP⟩ (r.mono x2.g),by rw[Kn (Ne.symm hne)];exact KP⟩
   .cases e
end
def Rq(nm:Str)(g:M jz):SM:=sB g λds Z=>match W5 nm ds with|some fs=>.ex Z (exD nm fs)|none=>.bad
section
variable{X:Cx}{B G0:Hp}{KX:XW}{e a b c:Uj}{pos p2 cpos:Pos}{es:jF}{st:Stmt}{sts:List Stmt}{nm x:Str}{k kk n:Nat}
theorem DM{g:M jz}(mk:MkX X.prog X.w X.K X.mg X.base nm k)(hr:Room kk X.A)(hc:X.calm=jx)(hw:XG X KX)(hg:Gl X nm)(ha:PA X (e::es) (tDs X.K B G0 g))(hk:k+1<=kk:=by decide)
  (hdb:(nm==("__debug__" : Str))=jy:=by decide) (he:Um (e::es) X.env=(jy,eval e X.env)::Um es X.env:=by rfl) (hpl:(backTo cpos (Um es X.env)).any (·.1)=jy:=by rfl) :
  PS X (.Raise (ju (.Call (.Name nm p2) (e::es) [] cpos)) jw pos) (tS X.K B G0 KX (Rq nm g)):=PS.kin λkin=>by
 obtain⟨C,bm,f,fd,ps,sp,hm,hkp,ck,xc,F,hb,xa⟩:=mk;refine Zb (C5 (KC:=λC'=>C'=C) hc (λC' z=>by subst z;exact⟨bm,f,xc _ _ kin⟩) hw (C6 (xc _ _ kin) F (hr.mono hk) hg hm hkp hb ha hdb he hpl)) λDn σ H q=>?_
 refine tS.bnd (R:=Reps X.K) q λvs H1 G1 Z1 ds k1 r a=>?_
 cases z:W5 nm ds with
 |none=>rw[z]at a;exact a.elim
 |some fs=>
  rw[z]at a;have ar:=DN r z;refine⟨?_,λad had=>xa ad vs _ _ KP ar λdd H' p=>⟨rfl,?_⟩⟩
  .rcases ar with ⟨_,x,rfl⟩|⟨_,hl,_⟩
   .exact(show 1<=Uk by decide)
   .rw[hl]
    unfold Ym;split
    .decide
    .split
     .decide
     .split<;>decide
  .obtain⟨G',ex,rp,hx⟩:=EF ck k1.gh had r z p
   exact⟨ad,C,dd,rfl,rfl,hx,a (.ref ad) σ G' _ (k1.ext ex) ex.g rp⟩
inductive XR where
 |val (d:D)|exc (d:D)
def spX(K:Frag)(n:Nat)(F:jz->Option XR):Sp:=λvs H Q E=>∃G ds r,vs.length=n/\Same G H/\Reps K G vs ds/\F ds=ju r/\match r with
 |.val d=>∀v G' H',Ext G H G' H'->Rep K G' v d->Q v H'
 |.exc d=>∀ad G' H',Ext G H G' H'->Rep K G' (.ref ad) d->E (.ref ad) jw H'
def Te(P:Ug)(w:World)(K:Frag)(mg:Str->jE)(base:Heap)(x:Str)(k n:Nat)(F:jz->Option XR):Prop:=
 ∃(f:Uh)(fd:Ui)(ps:List Str),mg x=ju (.ref f)/\PySem.W.keepIn K (.ref f)=jx/\Yq K fd ps []/\FnOk P w K mg base (CX1 P w) k f fd ps (spX K n F)
def aftX(K:Frag)(B G0:Hp)(KX:XW)(r:Res XR)(G:Hp)(σ:St)(Q:VK):Prop:=match r with
 |.ok (.val d) Z=>∀v G' H',EOk K B G0 G' H' σ Z->Same G G'->Rep K G' v d->Q v H'
 |.ok (.exc d) Z=>∀v G' H',EOk K B G0 G' H' σ Z->Same G G'->Rep K G' v d->KX v σ H'
 |.bad=>False
def tX(K:Frag)(B G0:Hp)(KX:XW)(f:M XR):TE:=λσ H Q=>∃G Z,EOk K B G0 G H σ Z/\aftX K B G0 KX (f Z) G σ Q
def TZ(n:Nat)(F:jz->Option XR)(g:M jz):M XR:=UZ g λxs=>if xs.length=n then UW (F xs)else λ_=>.bad
theorem DK{F:jz->Option XR}{g:M jz}(d:Te X.prog X.w X.K X.mg X.base x k n F)(hr:Room kk X.A)(hw:XG X KX)(hg:Gl X x)(ha:PA X (e::es) (tDs X.K B G0 g))(hk:k<=kk:=by decide)(hn:(e::es).length=n:=by rfl)
  (hdb:(x==("__debug__" : Str))=jy:=by decide) (he:Um (e::es) X.env=(jy,eval e X.env)::Um es X.env:=by rfl) (hpl:(backTo pos (Um es X.env)).any (·.1)=jy:=by rfl) :
  PE X (.Call (.Name x p2) (e::es) [] pos) (tX X.K B G0 KX (TZ n F g)):=by
 obtain⟨f,fd,ps,h1,h2,h3,h4⟩:=d;refine U7 (C3 h4 (hr.mono hk) hg h1 h2 h3 hw ha hdb he hpl) λσ H Q ⟨G,Z,k0,a⟩=>?_
 refine⟨G,Z,k0,?_⟩;unfold TZ UZ at a;cases z:g Z with
 |bad=>rw[z]at a;exact a.elim
 |ok xs Z1=>
  rw[z]at a;dsimp only at a;intro vs G1 H1 k1 s1 r;by_cases hl:xs.length=n
  .rw[Qo hl]at a
   cases zF:F xs with
   |none=>rw[zF]at a;exact a.elim
   |some rr=>
    rw[zF]at a;refine⟨G1,xs,rr,by rw[r.length];exact hl,k1.gh,r,zF,?_⟩;cases rr with
    |val d=>exact λv G' H' ex rv=>a v G' H' (k1.ext ex) (s1.trans ex.g) rv
    |exc d=>intro ad' G' H' ex rv ad ev;cases ev;exact a _ G' H' (k1.ext ex) (s1.trans ex.g) rv
  .rw[QC hl]at a;exact a.elim
def sX(f:M XR)(g:D->SM):SM:=λZ=>match f Z with
 |.ok (.val d) Z'=>g d Z'
 |.ok (.exc d) Z'=>.ex Z' d
 |.bad=>.bad
theorem tS.bndX{K:Frag}{f:M XR}{g:D->SM}{Dn:Ends}{σ:St}{H:Hp}{P:V->Hp->Prop}(q:tS K B G0 KX (sX f g) Dn σ H)
  (i:∀v H' G' Z' x,EOk K B G0 G' H' σ Z'->Rep K G' v x->aftS K B G0 KX (g x Z') G' Dn->P v H'):tX K B G0 KX f σ H P:=by
 obtain⟨G,Z,k,a⟩:=q;refine⟨G,Z,k,?_⟩;unfold sX at a;cases z:f Z with
 |bad=>rw[z]at a;exact a.elim
 |ok r Z1=>
  rw[z]at a;cases r with
  |val d=>exact λv G' H' e s r=>i v H' G' Z1 d e r (aftS.mono s a)
  |exc d=>exact λv G' H' e s r=>a v σ G' H' e s r
theorem DJ{f:M XR}(h:PE X e (tX X.K B G0 KX f))(hs:swapsWith e jw pos.line X.env=pure jy:=by rfl):PS X (.Expr e pos) (tS X.K B G0 KX (sX f λ_ Z=>.nx Z)):=Zb (Ru h hs) λD σ H q=>tS.bndX q λv H' G' Z' x k r a=>a σ G' H' k (.refl _)
def Xn(N:List Str)(g:SM)(ds:jz):Option XR:=match g (ZI N ds)with
 |.rt d=>ju (.val d)
 |.nx _=>ju (.val .none)
 |.ex _ d=>if W3 d=jx then ju (.exc d)else jw
 |_=>jw
abbrev kxE(E:XK):XW:=λv _ H=>∃e,v=.ref e/\E (.ref e) jw H
theorem okX{P:Ug}{w:World}{K:Frag}{mg:Str->jE}{base:Heap}{x qual:Str}{st:Stmt}{f:Uh}{fd:Ui}{N ps:List Str}{k n:Nat}{g:SM}(F:Fun K x qual st f fd)(S:Vg N ps (KZ st))(hn:ps.length=n)
  (der:∀(cdv:Ue)(A:Around)(outer:List Env)(s:Uf)(H:Hp)(E:XK)(B G0:Hp),Room k (A.deeper (envOfC qual (KZ st) s.heap.objs.size f cdv)) ->
   PSs (ZG (CX1 P w) P w K mg base N qual (KZ st) f cdv A outer s H E) (Z9 st) (tS K B G0 (kxE E) g)):FnOk P w K mg base (CX1 P w) (k+1) f fd ps (spX K n (Xn N g)):=by
 obtain⟨oc,od,kV,doc,pm,an,cdv,ct,osl,rfl,lk,hcd⟩:=F.ex;refine OD lk hcd S (λvs H Q E h=>?_) λA outer s H vs Q E hr h=>?_
 .obtain⟨_,_,_,hl,_⟩:=h
  rw[hl,hn]
 .obtain⟨G,ds,r,hl,sg,rp,hF,q⟩:=h
  refine⟨_,der cdv A outer s H E H G hr,G,ZI N ds,PU sg rp,?_⟩;unfold Xn at hF;cases z:g (ZI N ds)with
  |rt d'=>rw[z]at hF;cases hF;exact λv G' H' ex rr=>q v G' H' ex rr
  |nx Z=>rw[z]at hF;cases hF;exact λσ' G' H' k' _=>q .non G' H' k'.exit .non
  |ex Z d=>
   rw[z]at hF;dsimp only at hF;split at hF
   .rename_i hx
    cases hF;intro v σ' G' H' k' _ rv
    obtain⟨ad,rfl⟩:∃ad,v=.ref ad:=by
     cases rv with
     |exc _ _ _ _=>exact⟨_,rfl⟩
     |dct _ _ _ _ _=>exact⟨_,rfl⟩
     |dtt _ _ _ _=>exact⟨_,rfl⟩
     |_=>cases hx
    exact⟨ad,rfl,q ad G' H' k'.exit rv⟩
   .cases hF
  |ro ds=>rw[z]at hF;cases hF
  |bk Z=>rw[z]at hF;cases hF
  |ct Z=>rw[z]at hF;cases hF
  |bad=>rw[z]at hF;cases hF
end
section
variable{K:Frag}{B G0 G H:Hp}{σ:St}{Z:UF}
theorem EOk.unset{i:Nat}(k:EOk K B G0 G H σ Z):EOk K B G0 G H (σ.set i jw) (Z.set i jw) where
 bh:=k.bh
 gh:=k.gh
 g0:=k.g0
 np:=k.np
 len:=by rw[Q6,Q6];exact k.len
 pub:=λj d' q=>by
  by_cases z:i=j
  .subst z
   have:=Yb q;cases this
  .rw[Qm z]at q⊢
   exact k.pub j d' q
 own:=λj ds q=>by
  by_cases z:i=j
  .subst z
   have:=Yb q;cases this
  .rw[Qm z]at q⊢
   exact k.own j ds q
 sep:=λj l c es fs q1 q2 s1 s2=>by
  have z1:i≠j:=λz=>by subst z;have:=Yb q1;cases this
  have z2:i≠l:=λz=>by subst z;have:=Yb q2;cases this
  rw[Qm z1]at q1 s1;rw[Qm z2]at q2 s2;exact k.sep j l c es fs q1 q2 s1 s2
 dp:=k.dp.setOther (λs e=>by cases e)
end
def CK(K:Frag)(mg:Str->jE)(x:Str):Prop:=∃D bm,mg x=ju (.ref D)/\ClsK K x D bm
def Sk(x:Str):D->Bool
 |.dict [(.none,.tuple [.str nm,_])]=>decide (x=nm) || decide (x = "DealError")
 |_=>jy
def Xm(i:Nat)(x:Str)(g h:SM):SM:=λZ=>match g Z with
 |.ex Z1 d=>if Sk x d=jx/\i<Z1.length then(match h (Z1.set i (ju (.pub d)))with
  |.nx Z2=>.nx (Z2.set i jw)
  |.bk Z2=>.bk (Z2.set i jw)
  |.ct Z2=>.ct (Z2.set i jw)
  |.rt d2=>.rt d2
  |_=>.bad)else .bad
 |o=>o
section
variable{X:Cx}{B G0:Hp}{KX:XW}{e a b c:Uj}{pos p2 cpos np hpos:Pos}{es:jF}{x n:Str}{k kk:Nat}
theorem Bu{K:Frag}{G:Hp}{v:V}{d:D}{D':Uh}{bmD:jB}(r:Rep K G v d)(h:Sk x d=jx)(cD:ClsK K x D' bmD) :
  ∃a C dd bm,v=.ref a/\KC K C bm/\G a=ju (.ext (XO jy a C dd))/\(Value.ref C::bm).contains (.ref D')=jx:=by
 unfold Sk at h;split at h
 .obtain⟨a,C,dd,bm,kZ,vs,ds,rfl,e0,c,hx,_,_⟩:=r.exc_inv
  cases e0;exact⟨a,C,dd,bm,rfl,⟨_,c⟩,hx,by rw[c.has cD];exact h⟩
 .cases h
theorem GF{i:Nat}{g h:SM}{body suite:List Stmt}{b₀:Stmt}{st:List Env}(cD:CK X.K X.mg x)(hg:Gl X x)(hN:X.N.Nodup)(hi:X.N[i]?=ju n)(hl:X.env.kindOf n=ju .local)
  (hb:∀(KX':XW)(W:Ue->Uf->Prop)(pn:List (Uh×Obj)),XG (X.tried W pn) KX'->PSs (X.tried W pn) body (tS X.K B G0 KX' g)) (hs:∀a,PSs (X.suite a) (b₀::suite) (tS X.K B G0 KX0 h))
  (kG:X.stack=X.env::st:=by rfl) (hfr:X.env.frame=ju X.env.locals:=by rfl) (hdb:(x==("__debug__" : Str))=jy:=by decide) :
  PS X (.Try body [.ExceptHandler (ju (.Name x np)) (ju n) (b₀::suite) hpos] [] [] pos) (tS X.K B G0 KX (Xm i x g h)):=PS.kin λkin=>by
 obtain⟨D',bmD,hm,ck⟩:=cD;obtain⟨fD,xD⟩:=ck.cls (model X.prog X.w) X.base kin;refine Zb (Fx (KC:=KC X.K) (tb:=λKX'=>tS X.K B G0 KX' g) (ts:=tS X.K B G0 KX0 h) kG hfr (Se kin) xD hg hm hN hi hl hb hs hdb) λDn σ H ⟨G,Z,k,a⟩=>?_
 refine⟨G,Z,k,?_⟩;unfold Xm at a;cases z:g Z with
 |nx Z1=>rw[z]at a;exact a
 |rt d=>rw[z]at a;exact a
 |ro ds=>rw[z]at a;exact a
 |bk Z1=>rw[z]at a;exact a
 |ct Z1=>rw[z]at a;exact a
 |bad=>rw[z]at a;exact a.elim
 |ex Z1 d=>
  rw[z]at a;dsimp only at a;intro v σ1 G1 H1 k1 s1 r;by_cases hc:Sk x d=jx/\i<Z1.length
  .rw[Qo hc]at a
   obtain⟨ad,C,dd,bm,rfl,kc,hx,hct⟩:=Bu r hc.1 ck;refine⟨ad,C,dd,bm,rfl,kc,k1.gh _ _ hx,hct,G1,_,k1.setPub r hc.2,?_⟩;cases z2:h (Z1.set i (ju (.pub d)))with
   |nx Z2=>rw[z2]at a;exact λσ2 G2 H2 k2 s2=>a _ G2 H2 k2.unset (s1.trans s2)
   |bk Z2=>rw[z2]at a;exact λσ2 G2 H2 k2 s2=>a _ G2 H2 k2.unset (s1.trans s2)
   |ct Z2=>rw[z2]at a;exact λσ2 G2 H2 k2 s2=>a _ G2 H2 k2.unset (s1.trans s2)
   |rt d2=>rw[z2]at a;exact a
   |ex _ _=>rw[z2]at a;exact a.elim
   |ro _=>rw[z2]at a;exact a.elim
   |bad=>rw[z2]at a;exact a.elim
  .rw[QC hc]at a;exact a.elim
def Zc(x:Str):D->jC
 |.dict [(.none,.tuple [.str nm,_])]=>ju (.bool (decide (x=nm) || decide (x = "DealError")))
 |_=>jw
theorem EE{f:M D}{p3:Pos}(cD:CK X.K X.mg x)(hg:Gl X "isinstance")(hm:X.mg "isinstance" = jw)(xw:Gl X x)(ha:PE X e (tD X.K B G0 f))(hdb:(x==("__debug__" : Str))=jy:=by decide)
  (hs:Um [e,.Name x p3] X.env=(jy,eval e X.env)::Um [.Name x p3] X.env:=by rfl)
  (hs2:Um [.Name x p3] X.env=[(jy,eval (.Name x p3) X.env)]:=by rfl) :
  PE X (.Call (.Name "isinstance" p2) [e,.Name x p3] [] pos) (tD X.K B G0 (UZ f λd=>UW (Zc x d))):=PE.kin λkin=>by
 obtain⟨D',bmD,hm2,ck⟩:=cD;refine U7 (Ve (PV (Se kin)) hg hm Of (Yo ha (Yo (Pl (v:=.ref D') xw hm2 jv hdb) Xh (by rw[hs2];rfl)) hs) (by decide) (by decide) hs (by rw[hs2];rfl)) λσ H Q q=>?_
 refine tM.one (R:=Rep X.K) q λv H2 G Z d k r a=>?_
 obtain⟨d',e',a'⟩:=aft.opt a;unfold Zc at e';split at e'
 .obtain⟨ad,C,dd,bm,kZ,vs,ds,rfl,e0,c,hx,_,_⟩:=r.exc_inv
  cases e0;cases e';exact⟨ad,C,dd,bm,jy,.ref D',_,rfl,⟨_,c⟩,k.gh _ _ hx,.inl ⟨D',bmD,rfl,⟨_,ck⟩,c.has ck⟩,a'.now k (.bl _)⟩
 .cases e'
def Vl:D->jC
 |.dict [(.none,_)]=>ju (.bool jx)
 |_=>jw
theorem ED:bootBuiltins "ValueError" = ju (.type "ValueError"):=by decide +kernel
theorem EC{f:M D}{p3:Pos}(hg:Gl X "isinstance")(hm:X.mg "isinstance" = jw)(xw:Gl X "ValueError")(hm2:X.mg "ValueError" = jw)(ha:PE X e (tD X.K B G0 f))
  (hs:Um [e,.Name "ValueError" p3] X.env=(jy,eval e X.env)::Um [.Name "ValueError" p3] X.env:=by rfl)
  (hs2:Um [.Name "ValueError" p3] X.env=[(jy,eval (.Name "ValueError" p3) X.env)]:=by rfl) :
  PE X (.Call (.Name "isinstance" p2) [e,.Name "ValueError" p3] [] pos) (tD X.K B G0 (UZ f λd=>UW (Vl d))):=PE.kin λkin=>by
 refine U7 (Ve (PV (Se kin)) hg hm Of (Yo ha (Yo (N5 (v:=.ty "ValueError") xw hm2 ED jv (by decide) (by decide)) Xh (by rw[hs2];rfl)) hs) (by decide) (by decide) hs (by rw[hs2];rfl)) λσ H Q q=>?_
 refine tM.one (R:=Rep X.K) q λv H2 G Z d k r a=>?_
 obtain⟨d',e',a'⟩:=aft.opt a;unfold Vl at e';split at e'
 .obtain⟨ad,C,dd,bm,kZ,vs,ds,rfl,e0,c,hx,_,_⟩:=r.exc_inv
  cases e0;cases e';exact⟨ad,C,dd,bm,jy,.ty "ValueError", jx,rfl,⟨_,c⟩,k.gh _ _ hx,.inr ⟨"ValueError", rfl,N7,by rw[c.ty];rfl⟩,a'.now k (.bl _)⟩
 .cases e'
end
def Oo(o:Uj)(name:Str)(apos:Pos)(args:jF)(pos:Pos):Prop:=∀env:Env,∃pl:Sem Bool,eval (.Call (.Attribute o name apos) args [] pos) env=(do
   let ov ←eval o env
   standAt apos.atName
   let (f,first) ←holding [ov] (getMethod ov name pl)
   callWith pos f first (backTo pos (Um args env)) (backToKw pos (keywordEach [] env)))
section
variable{P:Ug}{w:World}{K:Frag}{mg:Str->jE}{base:Heap}{st:Stmt}{f f0 D:Uh}{fd fd0:Ui}{q:Str}{p1 p2 p3 p4 p5 p6 p7 p8 p9 r1 r2 r3 r4 r5 r6 r7 r8 r9 q1 q2:Pos}{j1 j2:Nat}
theorem EB(F:Fun K "__init__" q st f fd)(hn:FnNm (KZ st) ["self", "text"] ["ValueError"])(hm:mg "ValueError" = jw)
  (hb:Z9 st=[.Expr (.Call (.Attribute (.Name "ValueError" p1) "__init__" p2) [.Name "self" p3,.Name "text" p4] [] p5) p6])
  (ht:Oo (.Name "ValueError" p1) "__init__" p2 [.Name "self" p3,.Name "text" p4] p5) :
  FnOk P w K mg base CX0 1 f fd ["self", "text"] (Pe (KC K)):=by
 refine F.ok (fq hn 2) (λvs H Q E ⟨a,C,dd,bm,x,e,_⟩=>by rw[e];rfl) λcdv A outer s H vs Q E hr ⟨a,C,dd,bm,x,e,kc,hx,hq⟩=>?_
 subst e;rw[hb];obtain⟨pl,ht⟩:=ht (ZG CX0 P w K mg base ["self", "text"] q (KZ st) f cdv A outer s H E).nox.env;refine⟨Ov (OS (KC K) (RY (KT 0) (RY (KT 1) tNil))),PSs.kin λkin=>Pk (Ru (C0 (pl:=pl) (Se kin) (gq hn 0) hm (Yo (pq hn 0) (Yo (pq hn 1) Xh)) (ht:=ht))),?_⟩;exact⟨_,rfl,_,rfl,a,C,dd,bm,_,rfl,kc,hx,hq⟩
end
structure XSt(h:Heap)(nm:Str)(own:Option Stmt)(C N:Uh)(bm:jB)(mN:Str->jE):Prop where
 ad:h.nsMap mainGlobals nm=ju (.ref C)
 obj:∃q bs sn sub ab col dd k0 k1 k2 k3 k5,h.get? C=ju (excClassObj nm q C N bs bm jx sn sub ab col dd k0 k1 k2 k3 k5 "ValueError.__new__")
 ns:h.Ns N mN
 quiet:∀x∈Pa,mN x=jw
 up:nm = "DealError" /\ bm=VB∨nm ≠ "DealError" /\ ∃D,h.nsMap mainGlobals "DealError" = ju (.ref D)/\bm=.ref D::VB
 init:match own with
  |none=>mN "__init__" = jw
  |some st=>∃f o pm cd doc,mN "__init__" = ju (.ref f)/\h.get? f=ju o/\o.cls=.type "function" /\ o.data=.func (methDef "__init__" (Tq nm) (Xk st) (Z9 st) (KZ st) pm cd doc)/\h.CodeRec cd (Tq nm)
section
variable{h h':Heap}{nm:Str}{own:Option Stmt}{C N:Uh}{bm:jB}{mN:Str->jE}
theorem LF{a:Uh}{x:Str}{v:Ue}(e:h.nsMap a x=ju v)(k:∀b o,h.get? b=ju o->h'.get? b=ju o):h'.nsMap a x=ju v:=by
 unfold Heap.nsMap at e⊢;cases z:h.get? a with
 |none=>rw[z]at e;cases e
 |some o=>rw[k _ _ z];rw[z]at e;exact e
theorem XSt.keeps(x:XSt h nm own C N bm mN)(k:∀b o,h.get? b=ju o->h'.get? b=ju o):XSt h' nm own C N bm mN where
 ad:=LF x.ad k
 obj:=let ⟨q,bs,sn,sub,ab,col,dd,k0,k1,k2,k3,k5,e⟩:=x.obj;⟨q,bs,sn,sub,ab,col,dd,k0,k1,k2,k3,k5,k _ _ e⟩
 ns:=x.ns.keeps k
 quiet:=x.quiet
 up:=x.up.imp id λ⟨a,D,b,c⟩=>⟨a,D,LF b k,c⟩
 init:=by
  have z:=x.init;cases own with
  |none=>exact z
  |some st=>obtain⟨f,o,pm,cd,doc,h1,h2,h3,h4,h5⟩:=z;exact⟨f,o,pm,cd,doc,h1,k _ _ h2,h3,h4,h5.keeps k⟩
theorem dA(st:Stmt):Oy st=Xk st:=by cases st<;>rfl
theorem dB(st:Stmt):Ox st=Z9 st:=by cases st<;>rfl
theorem dS(st:Stmt):O3 st=KZ st:=by cases st<;>rfl
structure XYP(p:Ug)(l:XL0)(h:Heap):Prop where
 st:∃mc,h.Ns cStatics mc/\mc "thirdparty.any" = jw
 cl:∀c∈l,∃C N bm mN,XSt h c.1 (c.2.map λi=>XM (Kh p i)) C N bm mN
theorem XYP.keeps{p:Ug}{l:XL0}(x:XYP p l h)(k:∀b o,h.get? b=ju o->h'.get? b=ju o):XYP p l h':=
 ⟨let ⟨mc,a,b⟩:=x.st;⟨mc,a.keeps k,b⟩,λc hc=>let ⟨C,N,bm,mN,z⟩:=x.cl c hc;⟨C,N,bm,mN,z.keeps k⟩⟩
theorem GE{st:Stmt}{n:Bool}(b:xB h nm n=jx)(hown:own=jw->n=jy)(hs:∀st,own=ju st->xSh h nm=ju (jx,Vk nm st)):∃C N bm mN,XSt h nm own C N bm mN:=by
 unfold xB at b;split at b
 .rename_i C hC
  split at b
  .rename_i t dd cd sl ho
   simp only[QS,JU,beq_iff_eq,Bool.or_eq_true,Jc,Option.isNone_iff_eq_none]at b;obtain⟨⟨⟨⟨⟨⟨⟨⟨b1,b2⟩,b3⟩,b4⟩,b5⟩,b6⟩,b7⟩,b8⟩,b9⟩:=b;obtain⟨cn,cb,cm,cns,cq,chd,csn,csub,cab,ccol,cdel⟩:=cd;simp only at b2 b3 b4 b6 b7 b8 b9;subst b1 b2 b3 b4;split at b5
   .rename_i k0 k1 k2 k3 k4 k5 hsl
    have b5:=Qa b5;subst b5;have hsl':sl=#[k0,k1,k2,k3,ju (.builtin "ValueError.__new__"),k5]:=by rw[←Array.toList_inj,hsl]
    subst hsl'
    have key:∃bm,cm=.ref C::bm/\(cn = "DealError" /\ bm=VB∨cn ≠ "DealError" /\ ∃D,h.nsMap mainGlobals "DealError" = ju (.ref D)/\bm=.ref D::VB):=by
     split at b9
     .rename_i e
      exact⟨VB,Qa b9,.inl ⟨e,rfl⟩⟩
     .rename_i e
      split at b9
      .rename_i D hD
       exact⟨.ref D::VB,Qa b9,.inr ⟨e,D,hD,rfl⟩⟩
      .cases b9
    obtain⟨bm,rfl,up⟩:=key;refine⟨C,cns,bm,h.nsMap cns,hC,⟨_,_,_,_,_,_,_,_,_,_,_,_,ho⟩,.of_isNs b6,b7,up,?_⟩;cases own with
    |none=>
     rcases b8 with b8|b8
     .rw[hown jv]at b8;cases b8
     .exact b8
    |some st=>
     have e:=hs st jv;unfold xSh at e;rw[hC]at e;dsimp only at e;rw[ho]at e;dsimp only at e;split at e
     .rename_i a o fd sh hf hsh
      simp only[Option.some.injEq,Prod.mk.injEq,Ja]at e;obtain⟨e1,rfl⟩:=e;obtain⟨g1,g2,g3⟩:=Heap.fnAt_spec hf;unfold Heap.shapeAt at hsh;rw[hf]at hsh;obtain⟨n,q,ps,b,sc,g,cl,df,kd,doc,pm,an,code,ct,bi⟩:=fd;simp only[Option.map_some,Vk,dA,dB,dS,Option.some.injEq,FnShape.mk.injEq]at hsh;obtain⟨rfl,rfl,rfl,rfl,rfl,rfl,rfl,rfl,rfl,rfl,rfl,rfl,hc⟩:=hsh;exact⟨a,o,pm,code,doc,g1,g2,e1,g3,.of_ok hc⟩
     .cases e
   .cases b5
  .cases b
 .cases b
theorem GD{p:Ug}{l:XL0}{s:Uf}(e:xSeen l s=xGood p l):XYP p l s.heap:=by
 unfold xSeen xGood at e;obtain⟨e1,e2⟩:=J9 e;obtain⟨e1,e3⟩:=Bool.and_eq_true_iff.mp e1;refine⟨⟨_,.of_isNs e1,Option.isNone_iff_eq_none.mp e3⟩,λc hc=>?_⟩;have q:=List.map_inj_left.mp e2 c hc;obtain⟨q1,q2⟩:=J9 q;refine GE (st:=.Pass ⟨0,0,0,0⟩) q1 (λz=>?_) λst z=>?_
 .cases hz:c.2 with
  |none=>rfl
  |some i=>rw[hz]at z;cases z
 .cases hz:c.2 with
  |none=>rw[hz]at z;cases z
  |some i=>rw[hz]at z q2;cases z;exact q2
end
theorem ON:mroOf (.type "ValueError")=pure VB:=by kernel_rfl
theorem Hm:typeLookup (.type "ValueError") "__setattr__" = pure (ju (.builtin "object.__setattr__")):=by kernel_rfl
theorem Hl:typeLookup (.type "ValueError") "__getattribute__" = pure (ju (.builtin "BaseException.__getattribute__")):=by kernel_rfl
theorem Hk:typeLookup (.type "ValueError") "__getattr__" = pure jw:=by kernel_rfl
theorem Hj:typeLookup (.type "ValueError") "__class__" = pure (ju (.builtin "object.__class__")):=by kernel_rfl
theorem EA:typeLookup (.type "ValueError") "part" = pure jw:=by kernel_rfl
theorem Bt:typeLookup (.type "ValueError") "number" = pure jw:=by kernel_rfl
theorem GC:typeLookup (.type "ValueError") "row" = pure jw:=by kernel_rfl
theorem Nl(v:Ue):refuseLoop v "__setattr__" VB=pure ():=by kernel_rfl
section
variable{h h':Heap}{nm:Str}{own ownD:Option Stmt}{C N D ND:Uh}{bm:jB}{mN mD:Str->jE}{M:Model}
theorem XSt.along(x:XSt h nm own C N bm mN)(xD:XSt h "DealError" ownD D ND VB mD){y:Str}{r:jE}(hy:y∈Pa)(hB:typeLookup (.type "ValueError") y=pure r):Zi M C y r h:=by
 obtain⟨q,bs,sn,sub,ab,col,dd,k0,k1,k2,k3,k5,e⟩:=x.obj;obtain⟨q',bs',sn',sub',xH,col',kf,k0',k1',k2',k3',k5',e'⟩:=xD.obj;refine Zi.of e (Yp.miss e x.ns (x.quiet y hy) ?_);rcases x.up with ⟨_,rfl⟩|⟨_,D',jV,rfl⟩
 .exact Yp.base ON hB
 .have:=jV.symm.trans xD.ad
  cases this;exact Yp.miss e' xD.ns (xD.quiet y hy) (Yp.base ON hB)
theorem XSt.tail(x:XSt h nm own C N bm mN):Tail VB bm:=by
 rcases x.up with ⟨_,rfl⟩|⟨_,D',_,rfl⟩
 .exact Tail.base
 .exact Tail.own Tail.base
def SI(h:Heap)(own ownD:Option Stmt)(mN mD:Str->jE)(nm:Str)(f:Uh):Prop:=match own with
 |some _=>mN "__init__" = ju (.ref f)
 |none=>mD "__init__" = ju (.ref f)
theorem XSt.xcls(x:XSt h nm own C N bm mN){std:Stmt}(xD:XSt h "DealError" (ju std) D ND VB mD){f:Uh}(hf:SI h own (ju std) mN mD nm f):XCls M h C bm f:=by
 have hD:=xD.init;obtain⟨fD,oD,pmD,cdD,docD,g1,g2,g3,g4,g5⟩:=hD;obtain⟨q,bs,sn,sub,ab,col,dd,k0,k1,k2,k3,k5,e⟩:=id x.obj;obtain⟨q',bs',sn',sub',xH,col',kf,k0',k1',k2',k3',k5',e'⟩:=id xD.obj
 have fin:Zi M C "__init__" (ju (.ref f)) h/\∃o,h.get? f=ju o/\o.cls=.type "function" :=by
  have z:=x.init;unfold SI at hf;cases own with
  |some st=>obtain⟨f',o,pm,cd,doc,h1,h2,h3,h4,h5⟩:=z;have hf:mN "__init__" = ju (.ref f):=hf;rw[h1]at hf;cases hf;exact⟨Zi.of e (Yp.hit e x.ns h1),o,h2,h3⟩
  |none=>
   have hf:mD "__init__" = ju (.ref f):=hf;have z:mN "__init__" = jw:=z;rw[g1]at hf;cases hf;refine⟨Zi.of e (Yp.miss e x.ns z ?_),oD,g2,g3⟩;rcases x.up with ⟨hn,rfl⟩|⟨_,D',jV,rfl⟩
   .subst hn
    have:=x.ad.symm.trans xD.ad;cases this;rw[e]at e';cases e';have:=x.ns.eq_nsMap.trans xD.ns.eq_nsMap.symm;rw[this]at z;rw[g1]at z;cases z
   .have:=jV.symm.trans xD.ad
    cases this;exact Yp.hit e' xD.ns g1
 refine⟨⟨nm,q,N,bs,sn,sub,ab,col,dd,k0,k1,k2,k3,k5,e⟩,x.tail,fin.1,fin.2,x.along xD (by decide) Hm,x.along xD (by decide) Hl,x.along xD (by decide) Hk,x.along xD (by decide) Hj,λv=>?_⟩;rcases x.up with ⟨_,rfl⟩|⟨_,D',_,rfl⟩
 .exact Nl v
 .rw[refuseLoop_ref];exact Nl v
theorem TV(k:(whole h).In h'):∀b o,h.get? b=ju o->h'.get? b=ju o:=λb o e=>k b o (by rw[ZY];exact e)
theorem P2{mA:Str->jE}{a:Uh}(n:h.Ns a mA)(y:Str):PySem.W.nsIn (whole h) a y=ju (mA y):=by
 obtain⟨⟨oc,od,dt,os⟩,es,ep,ho,hd,hk,hf⟩:=n;have hd:dt=_:=hd;subst hd;unfold PySem.W.nsIn;rw[ZY,ho];dsimp only;have:=hf y;unfold nsFind findBy at this;rw[←Array.find?_toList]at this;dsimp only at this;rw[←this];cases z:es.toList.find? (·.key.isStr y)with
 |some e=>rfl
 |none=>
  dsimp only;rw[QC]
  .rfl
  .rw[List.any_eq_true]
   rintro⟨e,he,hr⟩;obtain⟨n,t,hk⟩:=hk e (Array.mem_toList_iff.mp he);unfold DictEntry.refKey at hr;rw[hk]at hr;cases hr
theorem XSt.nmd(x:XSt h nm own C N bm mN):NmAt (whole h) nm C:=by obtain⟨q,bs,sn,sub,ab,col,dd,k0,k1,k2,k3,k5,e⟩:=x.obj;exact⟨_,_,by rw[ZY];exact e,rfl,rfl⟩
theorem LD{mg:Str->jE}(n:h.Ns mainGlobals mg)(e:h.nsMap mainGlobals nm=ju (.ref C)):Ra (whole h) nm=ju C:=by unfold Ra;rw[P2 n,n.eq_nsMap,e]
theorem XSt.clsK{mg:Str->jE}(n:h.Ns mainGlobals mg)(x:XSt h nm own C N bm mN){std:Stmt}(xD:XSt h "DealError" (ju std) D ND VB mD){f:Uh}(hf:SI h own (ju std) mN mD nm f):ClsK (whole h) nm C bm where
 ad:=LD n x.ad
 nmd:=x.nmd
 up:=x.up.imp id λ⟨a,D',b,c⟩=>⟨a,D',LD n b,c,by have:=b.symm.trans xD.ad;cases this;exact xD.nmd⟩
 cls:=λM h' k=>⟨f,(x.keeps (TV k)).xcls (xD.keeps (TV k)) (by unfold SI at hf⊢;cases own<;>exact hf)⟩
 fld:=λM h' k y hy=>by
  have z:=x.keeps (TV k);have zD:=xD.keeps (TV k);simp only[Ql,List.not_mem_nil,or_false]at hy;rcases hy with rfl|rfl|rfl
  .exact z.along zD (by decide) EA
  .exact z.along zD (by decide) Bt
  .exact z.along zD (by decide) GC
theorem XSt.keep(x:XSt h nm own C N bm mN):PySem.W.keepIn (whole h) (.ref C)=jx:=by obtain⟨q,bs,sn,sub,ab,col,dd,k0,k1,k2,k3,k5,e⟩:=x.obj;unfold PySem.W.keepIn;dsimp only;rw[ZY,e];dsimp only;unfold PySem.W.specialIn PySem.W.typeIn;dsimp only;rw[ZY,e];kernel_rfl
theorem XSt.fun{st:Stmt}(x:XSt h nm (ju st) C N bm mN):∃f fd,mN "__init__" = ju (.ref f)/\Fun (whole h) "__init__" (Tq nm) st f fd:=by
 obtain⟨f,⟨oc,od,dt,osl⟩,pm,cd,doc,h1,h2,h3,h4,h5⟩:=x.init;have h4:dt=_:=h4;subst h4;refine⟨f,_,h1,⟨⟨oc,od,.none,doc,pm,_,cd,_,osl,rfl,by rw[ZY];exact h2,?_⟩,?_⟩⟩
 .obtain⟨c,⟨_,_,dc,_⟩,vs,t,rfl,g1,g2,g3⟩:=h5
  have g2:dc=_:=g2;subst g2;unfold PySem.W.codeIn;dsimp only;rw[ZY,g1];dsimp only;have g4:vs.toList[1]?=ju (.str (Tq nm) t):=by rw[Array.getElem?_toList];exact g3
  cases hv:vs.toList with
  |nil=>rw[hv]at g4;cases g4
  |cons v0 r=>
   rw[hv]at g4;cases r with
   |nil=>cases g4
   |cons v1 r=>cases g4;exact beq_self_eq_true _
 .unfold PySem.W.keepIn
  dsimp only;rw[ZY,h2]
theorem tf1{K:Frag}:PySem.W.findIn K (.type "type") "__init__" = ju (ju (.builtin "type.__init__")):=by kernel_rfl
theorem tf2{K:Frag}:PySem.W.specialIn K (.builtin "type.__init__") "__get__" = ju (ju (.builtin "wrapper_descriptor.__get__")):=by kernel_rfl
theorem tf3{K:Frag}:PySem.W.takesIn K (.builtin "type.__init__")=ju jy:=by kernel_rfl
theorem tf4{K:Frag}:PySem.W.findIn K (.type "type") "__getattribute__" = ju (ju (.builtin "type.__getattribute__")):=by kernel_rfl
theorem tf5{K:Frag}:PySem.W.subIn K (.type "type") (.type "type")=ju jx:=by kernel_rfl
theorem XSt.clsFn{st:Stmt}(x:XSt h "DealError" (ju st) D ND VB mD)(hs:∃mc,h.Ns cStatics mc/\mc "thirdparty.any" = jw){f:Uh}(hf:mD "__init__" = ju (.ref f)):OB (whole h) D "__init__" f:=by
 obtain⟨f',o,pm,cd,doc,h1,h2,h3,h4,h5⟩:=x.init;rw[h1]at hf;cases hf;obtain⟨q,bs,sn,sub,ab,col,dd,k0,k1,k2,k3,k5,e⟩:=x.obj;obtain⟨mc,hc1,hc2⟩:=hs;have tD:PySem.W.typeIn (whole h) (.ref D)=ju (.type "type"):=by unfold PySem.W.typeIn;dsimp only;rw[ZY,e];rfl
 have tf:PySem.W.typeIn (whole h) (.ref f)=ju (.type "function"):=by unfold PySem.W.typeIn;dsimp only;rw[ZY,h2];exact JV ju h3
 refine⟨?_,?_,?_,?_⟩
 .unfold PySem.W.specialIn
  rw[tD];exact tf4 (K:=whole h)
 .unfold PySem.W.readsIn
  rw[P2 hc1,hc2,tD,tf4,tf5];rfl
 .unfold PySem.W.findCls
  rw[tf1];dsimp only[Option.bind_some];rw[tf2];dsimp only[Option.bind_some];rw[tf3];dsimp only[Option.bind_some];have hfi:PySem.W.findIn (whole h) (.ref D) "__init__" = ju (ju (.ref f)):=by unfold PySem.W.findIn;dsimp only;rw[ZY,e];dsimp only;unfold PySem.W.alongIn PySem.W.ownIn;dsimp only;rw[ZY,e];dsimp only;rw[P2 x.ns,h1]
  rw[hfi];dsimp only[Option.bind_some];rw[QC (show ¬Builtin.heldUnderItsOwnName "__init__" (.ref f)=jx from λz=>by cases z),tf];rfl
 .unfold PySem.W.keepIn
  dsimp only;rw[ZY,h2];obtain⟨oc,od,dt,osl⟩:=o;have h4:dt=_:=h4;subst h4;rfl
end
section
variable{h:Heap}{mg:Str->jE}{p:Ug}{l:XL0}{i j:Nat}{c:Str×Option Nat}{p1 p2 p3 p4 p5 p6 p7 p8 p9 r1 r2 r3 r4 r5 r6 r7 r8 r9 q1 q2:Pos}{j1 j2:Nat}
structure Root(p:Ug)(h:Heap)(mg:Str->jE)(i:Nat)(D f:Uh)(fd:Ui):Prop where
 at':mg "DealError" = ju (.ref D)
 ex:∃ND mD,XSt h "DealError" (ju (XM (Kh p i))) D ND VB mD/\mD "__init__" = ju (.ref f)
 cf:OB (whole h) D "__init__" f
 bd:Yq (whole h) fd ["self", "text"] []
 ok:∀(P:Ug)(w:World)(base:Heap),FnOk P w (whole h) mg base CX0 1 f fd ["self", "text"] (Pe (KC (whole h)))
theorem XSt.root{own:Option Stmt}{C N:Uh}{bm:jB}{mN:Str->jE}(x:XSt h "DealError" own C N bm mN):bm=VB:=by
 rcases x.up with ⟨_,rfl⟩|⟨z,_⟩
 .rfl
 .exact absurd jv z
theorem Ez(n:h.Ns mainGlobals mg)(Y:XYP p l h)(hD:(((("DealError" : Str),ju i):Str×Option Nat)∈l))(hm:mg "ValueError" = jw)(hn:FnNm (KZ (XM (Kh p i))) ["self", "text"] ["ValueError"])
  (hb:Z9 (XM (Kh p i))=[.Expr (.Call (.Attribute (.Name "ValueError" p1) "__init__" p2) [.Name "self" p3,.Name "text" p4] [] p5) p6])
  (ht:Oo (.Name "ValueError" p1) "__init__" p2 [.Name "self" p3,.Name "text" p4] p5)
  (hbz:∀(kV doc pm:Ue)(an:jI)(cdv ct:Ue)(us:jB),us.length=(["self", "text"]:List Str).length->bindArgs (PySem.W.fnOf "__init__" (Tq "DealError") (Xk (XM (Kh p i))) (Z9 (XM (Kh p i))) (KZ (XM (Kh p i))) .none kV doc pm an cdv ct) ⟨us,[]⟩=pure ((["self", "text"]:List Str).zip us)) :
  ∃D f fd,Root p h mg i D f fd:=by
 obtain⟨D,ND,bm,mD,x⟩:=Y.cl _ hD;have:=x.root;subst this;obtain⟨f,fd,hf,FU⟩:=XSt.fun (st:=XM (Kh p i)) x;exact⟨D,f,fd,by rw[n.eq_nsMap];exact x.ad,⟨ND,mD,x,hf⟩,XSt.clsFn (st:=XM (Kh p i)) x Y.st hf,FU.binds hbz,λP w base=>EB FU hn hm hb ht⟩
theorem YE(n:h.Ns mainGlobals mg)(Y:XYP p l h){D f:Uh}{fd:Ui}(R:Root p h mg i D f fd)(hc:c∈l):CK (whole h) mg c.1:=by
 obtain⟨C,N,bm,mN,x⟩:=Y.cl _ hc;obtain⟨ND,mD,xD,hf⟩:=R.ex;cases hz:c.2 with
 |none=>rw[hz]at x;exact⟨C,bm,by rw[n.eq_nsMap];exact x.ad,XSt.clsK n x xD (f:=f) hf⟩
 |some k=>rw[hz]at x;obtain⟨f',o,pm,cd,doc,h1,h2⟩:=x.init;exact⟨C,bm,by rw[n.eq_nsMap];exact x.ad,XSt.clsK n x xD (f:=f') h1⟩
theorem GB(n:h.Ns mainGlobals mg)(Y:XYP p l h){D f:Uh}{fd:Ui}(R:Root p h mg i D f fd){nm:Str}(hc:(nm,jw)∈l)(hf:Ym nm=[])(P:Ug)(w:World)(base:Heap):MkX P w (whole h) mg base nm 1:=by obtain⟨C,N,bm,mN,x⟩:=Y.cl _ hc;obtain⟨ND,mD,xD,hi⟩:=R.ex;have ck:=XSt.clsK n x xD (f:=f) hi;exact⟨C,bm,f,fd,_,_,by rw[n.eq_nsMap];exact x.ad,x.keep,ck,λM h' k=>(x.keeps (TV k)).xcls (xD.keeps (TV k)) hi,R.ok P w base,R.bd,CZ ck hf⟩
end
theorem GA{q p:Ug}{loose:List Str}{mean:ExcName->jE}{mg mb:Str->jE}{h:Heap}{ix:jK}(P:Ug)(w:World)(base:Heap){ps:List Str}{k n:Nat}{F:jz->Option XR}(T:Top q loose mean mg mb h)(e:recsOf q=Va p ix)(i:Nat)(x:Str)(hi:ix.contains i=jx)(hn:Sm (Kh p i)=ju x)
  (ok:∀{f:Uh}{fd:Ui},Fun (whole h) x x (Kh p i) f fd->FnOk P w (whole h) mg base (CX1 P w) k f fd ps (spX (whole h) n F))
  (hb:∀(kV doc pm:Ue)(an:jI)(cdv ct:Ue)(us:jB),us.length=ps.length->bindArgs (PySem.W.fnOf x x (Xk (Kh p i)) (Z9 (Kh p i)) (KZ (Kh p i)) .none kV doc pm an cdv ct) ⟨us,[]⟩=pure (ps.zip us)):Te P w (whole h) mg base x k n F:=by
 obtain⟨f,fd,m,FU⟩:=Rb T e i x hi hn;exact⟨f,fd,ps,m,FU.kp,FU.binds hb,ok FU⟩
theorem Bs{l:PySem.W.OpenLaw}{n k:Nat}{q:Ug}{loose:List Str}{XP:(Str->jE)->Heap->Prop}{YP:World->Heap->Prop}{d:DefRec}{F:jz->jC}{x:Str}
  (hn:l.most=ju n) (hn2:n<=Uk) (hdf:d.params.defaults=[]) (hr:Room k callerA)
  (hF:∀(w:World)(s₀:Uf)(mg mb:Str->jE)(fa:Uh)(h:Heap),PySem.W.Ground q loose [] XP w s₀ mg mb h->YP w h->mg d.name=ju (.ref fa) ->
   ∃fd:Ui,(∀(s:Uf)(u:Ue),BindsTo s fd ⟨[u],[]⟩ [(x,u)])/\∀base:Heap,FnOk l.prog w (whole h) mg base CX0 k fa fd [x] (spD (whole h) 1 F))
  (hl:∀ns:jA,ns.length<=n->F [.list (ns.map int)]=ju (.bool jx)) :
  PySem.W.WalkO q loose XP YP l.row.toRowW d [] (λf vs=>PySem.call f vs):=by
 refine Att.attach_call hn hdf λw s₀ s₁ mg mb fa o pm cd doc a vs ns G Y ho hd hcd hmg hobj hints hlen hg=>?_
 obtain⟨fd,hb,hF⟩:=hF w s₀ mg mb fa _ G Y hmg;exact C9 (DO _) G.T.g G.T.b G.T.builtins G.T.nolimit hg hobj hints (QP hlen hn2) hr (λbase _ _=>hF base) hb (λH hO hS=>Gg hS (hl ns hlen)) λH e s' z=>z
section
variable{α β:Type}{Z Z1 Z2 Z3 Z':UF}{f:M D}{s t:SM}{Q:Out->Prop}{d:D}{ds fs:jz}{nm x:Str}{o:Out}
theorem DI{g:M jz}(h1:g Z=.ok ds Z1)(h2:W5 nm ds=ju fs):Rq nm g Z=.ex Z1 (exD nm fs):=by unfold Rq sB;rw[h1];dsimp only;rw[h2]
theorem Hi{f:M XR}{g:D->SM}(h1:f Z=.ok (.exc d) Z1):sX f g Z=.ex Z1 d:=by unfold sX;rw[h1]
theorem Ey{n:Nat}{F:jz->Option XR}{g:M jz}{xs:jz}{r:XR}(h1:g Z=.ok xs Z1)(h2:xs.length=n)(h3:F xs=ju r):TZ n F g Z=.ok r Z1:=by unfold TZ;exact Ky h1 (by rw[Qo h2];exact ZH h3)
theorem Ex{i:Nat}(h1:s Z=.ex Z1 d)(h2:Sk x d=jx)(h3:i<Z1.length)(h4:t (Z1.set i (ju (.pub d)))=.nx Z2)(h5:Z2.set i jw=Z'):Xm i x s t Z=.nx Z':=by unfold Xm;rw[h1];dsimp only;rw[if_pos ⟨h2,h3⟩,h4,←h5]
theorem DH{c:String}{t:Bool}(h:f Z=.ok d Z1)(ht:Ki d c=t):UT (λd=>Us (Ki d c)) f Z=.ok (Us t) Z1:=by subst ht;exact Kr (k:=λd=>Us (Ki d c)) h
theorem OM{c:String}{kvs:List (D×D)}(h:f Z=.ok (.dict kvs) Z1)(hc:(("dict" == c) || ("" == c))=jy:=by decide):UT (λd=>Us (Ki d c)) f Z=.ok (Us jy) Z1:=DH h (nty hc)
theorem Rp{c:String}{kvs:List (D×D)}(h:f Z=.ok (.dict kvs) Z1)(hc:(("dict" == c) || ("" == c))=jy:=by decide):Ka (KR (UT (λd=>.bool (Ki d c)) f)) Z=.ok jx Z1:=Zz h (by rw[nty hc];rfl)
def OutX(r:XR):Out->Prop
 |.rt d=>r=.val d
 |.nx _=>r=.val .none
 |.ex _ d=>r=.exc d/\W3 d=jx
 |_=>False
theorem HS{N:List Str}{r:XR}(h0:ZI N ds=Z)(h:Ho s Z (OutX r)):Xn N s ds=ju r:=by
 subst h0;have h:=h.out;unfold Xn;cases z:s (ZI N ds)with
 |rt d=>rw[z]at h;rw[show r=.val d from h]
 |nx Z'=>rw[z]at h;rw[show r=.val .none from h]
 |ex Z' d=>rw[z]at h;dsimp only;rw[if_pos h.2,h.1]
 |ro _=>rw[z]at h;exact h.elim
 |bk Z'=>rw[z]at h;exact h.elim
 |ct Z'=>rw[z]at h;exact h.elim
 |bad=>rw[z]at h;exact h.elim
end
section
variable{X:Cx}{B G0:Hp}{KX:XW}{e o a b c:Uj}{pos p2:Pos}{es rest:jF}
def RV:jz->jC
 |[.list xs]=>ju (.tuple xs)
 |[.tuple xs]=>ju (.tuple xs)
 |_=>jw
theorem HR:ZW X (.type "tuple") RV:=by
 refine⟨_,jn,λvs G H ds d Q s r e k=>?_⟩;unfold RV at e;split at e
 .cases e
  obtain⟨v,rfl,q⟩:=r.one_inv;obtain⟨l,ws,rfl,h1,r1⟩:=q.lst_inv;exact⟨l,ws,rfl,.inl ⟨s.seq h1,λp hp=>k _ _ _ (Ext.new s hp) (.tup (SqT.of KP) (r1.mono (Zj (s.free hp))))⟩⟩
 .cases e
  obtain⟨v,rfl,q⟩:=r.one_inv;obtain⟨l,ws,rfl,h1,r1⟩:=q.tup_inv;exact⟨l,ws,rfl,.inr ⟨Yl s h1,k _ G H (.refl s) (.tup h1 r1)⟩⟩
 .cases e
end
end DL
namespace L2
open PySem PySem.Spec PyProof.Rows
end L2
namespace DL
open PySem PySem.Spec L2
open PyProof.Rows hiding St
end DL
namespace DL
open PySem PySem.Spec L2 PySem.SeqAt PySem.AutoSeq1
open PyProof.Rows hiding St
end DL
namespace DL
open PySem PySem.Spec L2
open PyProof.Rows hiding St
end DL
namespace L2
open PySem PySem.Spec PyProof.Rows
end L2
namespace DL
open PySem PySem.Spec L2
open PyProof.Rows hiding St
section
variable{X:Cx}
def SG:D->D->jJ
 |.bool c,.bool b=>ju (!(c==b))
 |_,_=>jw
theorem Ew:OpR X (Uo .IsNot) (λx y H Q=>∃c b,x=.bl c/\y=.bl b/\Q (.bl (!(c==b))) H):=by intro pins s σ H x y v u Q I rx ry h;obtain⟨c,b,rfl,rfl,q⟩:=h;cases rx;cases ry;unfold Uo;refine Qd (wpAny_of_eq (a:=(c==b)) (by cases c<;>cases b<;>rfl) (Qk (R9 I q jv)))
theorem Gz:OpB X (Uo .IsNot) SG:=⟨_,Ew,λv u G H x y d Q s rx ry e q=>by
 unfold SG at e;split at e
 .cases e;exact⟨_,_,rx.bl_inv,ry.bl_inv,q⟩
 .cases e⟩
end
end DL
namespace L2
open PySem PySem.Spec PyProof.Rows
end L2
namespace DL
open PySem PySem.Spec L2
open PyProof.Rows hiding St
def spO(K:Frag)(n:Nat)(F:jz->Option jz):Sp:=λvs H Q _=>∃G ds r,vs.length=n/\Same G H/\Reps K G vs ds/\F ds=ju r/\∀a ws G' H',Ext G H G' H'->H a=jw->G' a=jw->H' a=ju (.lst ws)->Reps K G' ws r->Q (.ref a) H'
def tSO(K:Frag)(B G0:Hp)(g:SM)(f:M jz):TS:=λDn σ H=>∃G Z,EOk K B G0 G H σ Z/\match g Z with
 |.nx Z1=>(match f Z1 with
  |.ok ds _=>∀a vs G' H',Ext G0 B G' H'->B a=jw->G' a=jw->H' a=ju (.lst vs)->Reps K G' vs ds->Dn.rt (.ref a) H'
  |.bad=>False)
 |.ro ds=>∀a vs G' H',Ext G0 B G' H'->B a=jw->G' a=jw->H' a=ju (.lst vs)->Reps K G' vs ds->Dn.rt (.ref a) H'
 |_=>False
section
variable{X:Cx}{B G0:Hp}{e:Uj}{pos:Pos}{es:jF}{st:Stmt}{sts:List Stmt}
theorem Gy{f:M jz}(h:PE X e (tL X.K B G0 f)):PSs X [.Return (ju e) pos] (tSO X.K B G0 sNx f):=SZ (Pk (OY h)) λD σ H ⟨G,Z,k,a⟩=>by
 refine⟨G,Z,k,?_⟩;dsimp only[sNx]at a;cases z:f Z with
 |bad=>rw[z]at a;exact a.elim
 |ok ds Z'=>rw[z]at a;exact λad vs G' H' k' s' n=>a ad vs G' H' k'.exit n.b n.g n.h n.r
theorem Ev{g h:SM}{f:M jz}(h1:PS X st (tS X.K B G0 KX0 g))(h2:PSs X sts (tSO X.K B G0 h f)):PSs X (st::sts) (tSO X.K B G0 (UM g h) f):=SZ (MA h1 h2) λD σ H ⟨G,Z,k,a⟩=>by
 refine⟨G,Z,k,?_⟩;unfold UM at a;cases z:g Z with
 |nx Z1=>rw[z]at a;exact λσ' G' H' k' s'=>⟨G',Z1,k',a⟩
 |rt d=>rw[z]at a;exact a.elim
 |ro ds=>rw[z]at a;exact a
 |bk Z1=>rw[z]at a;exact a.elim
 |ct Z1=>rw[z]at a;exact a.elim
 |ex Z1 d=>rw[z]at a;exact a.elim
 |bad=>rw[z]at a;exact a.elim
def YO(N:List Str)(g:SM)(f:M jz)(ds:jz):Option jz:=match g (ZI N ds)with
 |.nx Z=>(match f Z with
  |.ok r _=>ju r
  |.bad=>jw)
 |.ro ds=>ju ds
 |_=>jw
theorem okO{P:Ug}{w:World}{K:Frag}{mg:Str->jE}{base:Heap}{x qual:Str}{st:Stmt}{f:Uh}{fd:Ui}{N ps:List Str}{k n:Nat}{g:SM}{q:M jz}(F:Fun K x qual st f fd)(S:Vg N ps (KZ st))(hn:ps.length=n)
  (der:∀(cdv:Ue)(A:Around)(outer:List Env)(s:Uf)(H:Hp)(E:XK)(B G0:Hp),Room k (A.deeper (envOfC qual (KZ st) s.heap.objs.size f cdv)) ->
   PSs (ZG CX0 P w K mg base N qual (KZ st) f cdv A outer s H E).nox (Z9 st) (tSO K B G0 g q)):FnOk P w K mg base CX0 (k+1) f fd ps (spO K n (YO N g q)):=by
 refine F.ok S (λvs H Q E h=>?_) (λcdv A outer s H vs Q E hr h=>?_)
 .obtain⟨_,_,_,hl,_⟩:=h
  rw[hl,hn]
 .obtain⟨G,ds,d,hl,sg,r,hF,qq⟩:=h
  refine⟨_,der cdv A outer s H E H G hr,G,ZI N ds,PU sg r,?_⟩;unfold YO at hF;cases z:g (ZI N ds)with
  |nx Z=>
   rw[z]at hF;dsimp only at hF⊢;cases z2:q Z with
   |bad=>rw[z2]at hF;cases hF
   |ok d' Z'=>rw[z2]at hF;cases hF;exact λa vs G' H' ex hb hg hh rr=>qq a vs G' H' ex hb hg hh rr
  |rt d'=>rw[z]at hF;cases hF
  |ro d'=>rw[z]at hF;cases hF;exact λa vs G' H' ex hb hg hh rr=>qq a vs G' H' ex hb hg hh rr
  |bk Z=>rw[z]at hF;cases hF
  |ct Z=>rw[z]at hF;cases hF
  |ex Z d=>rw[z]at hF;cases hF
  |bad=>rw[z]at hF;cases hF
def WJ(P:Ug)(w:World)(K:Frag)(mg:Str->jE)(base:Heap)(x:Str)(k n:Nat)(F:jz->Option jz):Prop:=
 ∃(f:Uh)(fd:Ui)(ps:List Str),mg x=ju (.ref f)/\PySem.W.keepIn K (.ref f)=jx/\Yq K fd ps []/\FnOk P w K mg base CX0 k f fd ps (spO K n F)
def Th(n:Nat)(F:jz->Option jz)(g:M jz):M jz:=UZ g λxs=>if xs.length=n then UW (F xs)else λ_=>.bad
theorem Br{k kk n:Nat}{F:jz->Option jz}{g:M jz}{x:Str}{p2:Pos}(d:WJ X.prog X.w X.K X.mg X.base x k n F)(hr:Room kk X.A)(hg:Gl X x)(ha:PA X (e::es) (tDs X.K B G0 g))(hk:k<=kk:=by decide)(hn:(e::es).length=n:=by rfl)
  (hdb:(x==("__debug__" : Str))=jy:=by decide) (he:Um (e::es) X.env=(jy,eval e X.env)::Um es X.env:=by rfl) (hpl:(backTo pos (Um es X.env)).any (·.1)=jy:=by rfl) :
  PE X (.Call (.Name x p2) (e::es) [] pos) (tL X.K B G0 (Th n F g)):=by
 obtain⟨f,fd,ps,h1,h2,h3,h4⟩:=d;refine U7 (Ph h4 (hr.mono hk) hg h1 h2 h3 .nil R3 ha hdb he hpl) λσ H Q ⟨G,Z,kk0,a⟩=>?_
 refine⟨G,Z,kk0,?_⟩;unfold Th UZ at a;cases z:g Z with
 |bad=>rw[z]at a;exact a.elim
 |ok xs Z1=>
  rw[z]at a;dsimp only at a⊢;intro vs G1 H1 k1 s1 r1;by_cases hl:xs.length=n
  .rw[Qo hl]at a
   unfold UW at a;cases zf:F xs with
   |none=>rw[zf]at a;exact a.elim
   |some r=>
    rw[zf]at a;dsimp only at a;refine⟨G1,xs,r,by rw[Q7,r1.length];exact hl,k1.gh,by rw[Q7];exact r1,zf,λad ws G' H' ex hh hg' hH rr=>?_⟩;refine a ad ws G' H' (k1.ext ex) (s1.trans ex.g) ⟨?_,hg',hH,rr,λj es q w=>?_,λj pt d v fp q s r=>k1.freshD ex.h hh q s r⟩
    .cases q:B ad with
     |none=>rfl
     |some u=>have:=k1.bh ad u q;rw[hh]at this;cases this
    .obtain⟨b,us,g1,g2,g3,g4,g5⟩:=k1.own j es q
     rw[g1]at w;cases w;rw[hh]at g4;cases g4
  .rw[QC hl]at a
   exact a.elim
end
theorem OL{q p:Ug}{loose:List Str}{mean:ExcName->jE}{mg mb:Str->jE}{h:Heap}{ix:jK}(P:Ug)(w:World)(base:Heap){ps:List Str}{k n:Nat}{F:jz->Option jz}(T:PyProof.Rows.Top q loose mean mg mb h)(e:recsOf q=Va p ix)(i:Nat)(x:Str)(hi:ix.contains i=jx)(hn:Sm (Kh p i)=ju x)
  (ok:∀{f:Uh}{fd:Ui},Fun (whole h) x x (Kh p i) f fd->FnOk P w (whole h) mg base CX0 k f fd ps (spO (whole h) n F))
  (hb:∀(kV doc pm:Ue)(an:jI)(cdv ct:Ue)(us:jB),us.length=ps.length->bindArgs (PySem.W.fnOf x x (Xk (Kh p i)) (Z9 (Kh p i)) (KZ (Kh p i)) .none kV doc pm an cdv ct) ⟨us,[]⟩=pure (ps.zip us)):WJ P w (whole h) mg base x k n F:=by
 obtain⟨f,fd,m,FU⟩:=Rb T e i x hi hn;exact⟨f,fd,ps,m,FU.kp,FU.binds hb,ok FU⟩
theorem Nk{n:Nat}{F:jz->Option jz}{g:M jz}{Z Z1:UF}{xs r:jz}(h1:g Z=.ok xs Z1)(h2:xs.length=n)(h3:F xs=ju r):Th n F g Z=.ok r Z1:=by unfold Th UZ;rw[h1];dsimp only;rw[Qo h2,h3];rfl
theorem On{N:List Str}{g:SM}{f:M jz}{ds r:jz}{Z Z1 Z2:UF}(h0:ZI N ds=Z)(h1:g Z=.nx Z1)(h2:f Z1=.ok r Z2):YO N g f ds=ju r:=by subst h0;unfold YO;rw[h1];dsimp only;rw[h2]
end DL
namespace L2
open PySem PySem.Spec PyProof.Rows
end L2
namespace DL
open PySem PySem.Spec L2
open PyProof.Rows hiding St
theorem EOk.lent{K:Frag}{B G0 G H:Hp}{σ:St}{Z:UF}(k:EOk K B G0 G H σ Z):EOk K H H H H σ (K7 Z) where
 bh:=.refl _
 gh:=.refl _
 g0:=.refl _
 np:=λ_ _ e n=>by rw[n]at e;cases e
 len:=by unfold K7;rw[Qb];exact k.len
 pub:=λi d e=>by
  rcases MD e with e2|⟨ds,rfl,e2⟩|⟨p,e2⟩
  .exact k.tree (by unfold Xc;rw[e2])
  .exact k.tree (by unfold Xc;rw[e2])
  .exact k.tree (by unfold Xc;rw[e2])
 own:=λi ds e=>(TX e).elim
 sep:=λi j a ds es e=>(TX e).elim
 dp:=.of (λ_ _ _ q=>Lc q) λ_ _ q=>TX q
theorem EOk.back{K:Frag}{B G0 G H H':Hp}{σ:St}{Z:UF}(k:EOk K B G0 G H σ Z)(e:Same H H'):EOk K B G0 G H' σ Z:=k.ext ⟨e,.refl _,k.gh.trans e,λ_ _ _ n=>n⟩
def Tg(f:M Bool):M Bool:=λZ=>match f (K7 Z)with
 |.ok b _=>.ok b Z
 |.bad=>.bad
section
variable{X:Cx}{B G0:Hp}{KX:XW}{e a b c tg iter:Uj}{pos:Pos}
theorem DG{f:M Bool}(h:∀B' G',PT X e (tBo X.K B' G' f)):PT X e (tBo X.K B G0 (Tg f)):=by
 have h':PT X e (λσ H Q=>∃B' G',tBo X.K B' G' f σ H Q):=λpins s σ H Q I ⟨B',G',q⟩=>h B' G' pins s σ H Q I q;refine ZS h' λσ H Q ⟨G,Z,k,a⟩=>⟨H,H,H,K7 Z,k.lent,?_⟩;unfold Tg at a
 cases z:f (K7 Z)with
 |bad=>rw[z]at a;exact a.elim
 |ok t Z'=>rw[z]at a;dsimp only at a⊢;exact λv G' H' k' s' r=>a v G H' (k.back k'.bh) (.refl _) r
end
theorem Eu{f:M Bool}{Z Z':UF}{b:Bool}(h:f (K7 Z)=.ok b Z'):Tg f Z=.ok b Z:=by unfold Tg;rw[h]
end DL
namespace L2
open PySem PySem.Spec PyProof.Rows
end L2
namespace DL
open PySem PySem.Spec L2
open PyProof.Rows hiding St
end DL
namespace L2
open PySem PySem.Spec PyProof.Rows
end L2
namespace DL
open PySem PySem.Spec L2
open PyProof.Rows hiding St
section
variable{K:Frag}{B G0 G H:Hp}{σ:St}{Z:UF}
theorem EOk.forget{i:Nat}(k:EOk K B G0 G H σ Z):EOk K B G0 G H σ (Z.set i jw):=by
 have nz:∀{m:Nat}{s:Sl},(Z.set i jw)[m]?=ju (ju s)->Z[m]?=ju (ju s):=λ{m s} q=>by
  by_cases z:i=m
  .subst z;have:=Yb q;cases this
  .rw[Qm z]at q;exact q
 exact⟨k.bh,k.gh,k.g0,k.np,by rw[Q6];exact k.len,λj d q=>k.pub j d (nz q),λj ds q=>k.own j ds (nz q),λj l c es fs q1 q2 s1 s2=>k.sep j l c es fs (nz q1) (nz q2) s1 s2,
  k.dp.map (λm p d q=>⟨nz q,rfl⟩) (λm es q=>⟨es,nz q,rfl⟩) λm p d v fp q s r w n=>⟨r,w⟩⟩
end
def isT:Option HO->Bool
 |some (.tup _)=>jx
 |some (.frz _ (.tup _))=>jx
 |_=>jy
theorem Gx{u:MO}:isT (ju u.ho)=jy:=by cases u<;>rfl
def Zm(fp:jH)(G H:Hp):Hp:=λb=>if b∈fp∨isT (H b)=jx then H b else G b
section
variable{K:Frag}{B G0 G H:Hp}{fp:jH}
theorem Bq(gh:Same G H):Same G (Zm fp G H):=λb o e=>by
 unfold Zm;split
 .exact gh b o e
 .exact e
theorem Et(gh:Same G H):Same (Zm fp G H) H:=λb o e=>by
 unfold Zm at e;split at e
 .exact e
 .exact gh b o e
theorem Nj{b:Uh}(h:b∈fp∨isT (H b)=jx):Zm fp G H b=H b:=by unfold Zm;rw[Qo h]
theorem Ni{b:Uh}(h:b∉fp)(h2:isT (H b)=jy):Zm fp G H b=G b:=by
 unfold Zm;rw[QC];rintro(z|z)
 .exact h z
 .rw[h2]at z;cases z
theorem Ext.pubT{G' H':Hp}(ex:Ext G H G' H')(fr:∀a∈fp,H a=jw):Ext G H (Zm fp G' H') H':=
 ⟨ex.h,ex.g.trans (Bq ex.gh),Et ex.gh,λa u e n=>by rw[Ni (λm=>by rw[fr a m]at e;cases e) (by rw[ex.h a _ e];exact Gx)];exact ex.np a u e n⟩
def nl0:D->Bool
 |.tuple ds=>ds.all flat
 |d=>flat d
theorem Rep.nl{G' G2 H':Hp}{v:V}{d:D}(r:Rep K G' v d)(h:nl0 d=jx)(gh:Same G' H'):Rep K (Zm fp G2 H') v d:=by
 cases r with
 |tup hs rr=>
  refine .tup ?_ (rr.flat h);rcases hs with (hs|⟨o,hs⟩)|hs
  .have:=gh _ _ hs
   exact .inl (.inl ((Nj (.inr (by rw[this];rfl))).trans this))
  .have:=gh _ _ hs
   exact .inl (.inr ⟨o,(Nj (.inr (by rw[this];rfl))).trans this⟩)
  .exact .inr hs
 |non=>exact .non
 |bl b=>exact .bl b
 |int i=>exact .int i
 |str x=>exact .str x
 |lst _ _=>cases h
 |dic _=>cases h
 |exc _ _ _ _=>cases h
 |dct _ _ _ _ _=>cases h
 |dtt _ _ _ _=>cases h
theorem Reps.nl{G' G2 H':Hp}(gh:Same G' H'):∀{vs:List V}{ds:jz},Reps K G' vs ds->ds.all nl0=jx->Reps K (Zm fp G2 H') vs ds
 |_,_,.nil,_=>.nil
 |_,_,.cons r t,h=>by rw[List.all_cons,QS]at h;exact .cons (r.nl h.1 gh) (Reps.nl gh t h.2)
end
def Sj(f:M jz):M jz:=λZ=>match f (K7 Z)with
 |.ok ds _=>if ds.all nl0=jx then .ok ds Z else .bad
 |.bad=>.bad
section
variable{X:Cx}{B G0:Hp}{KX:XW}{e o a b c:Uj}{pos:Pos}{es:jF}{pt:Pat}
theorem DF{f:M jz}(h:∀B' G',PE X e (tL X.K B' G' f)):PE X e (tL X.K B G0 (Sj f)):=by
 have h':PE X e (λσ H Q=>∃B' G',tL X.K B' G' f σ H Q):=λpins s σ H Q I ⟨B',G',q⟩=>h B' G' pins s σ H Q I q;refine U7 h' λσ H Q ⟨G,Z,k,a⟩=>⟨H,H,H,K7 Z,k.lent,?_⟩;unfold Sj at a
 cases z:f (K7 Z)with
 |bad=>rw[z]at a;exact a.elim
 |ok ds Z'=>
  rw[z]at a;dsimp only at a⊢;by_cases hf:ds.all nl0=jx
  .rw[Qo hf]at a
   intro ad vs G' H' k' s' n;have ex:Ext G H G H':=⟨k'.bh,.refl _,k.gh.trans k'.bh,λ_ _ _ n=>n⟩;have ex2:Ext G H (Zm [] G H') H':=ex.pubT (λa m=>by cases m);refine a ad vs (Zm [] G H') H' (k.ext ex2) ex2.g ⟨k.bh.free n.b,?_,n.h,n.r.nl k'.gh hf,λj es q w=>?_,λj pt d v fp q s r=>k.freshD k'.bh n.b q s r⟩
   .rw[Ni (by simp) (by rw[n.h];rfl)]
    exact k.gh.free n.b
   .obtain⟨b,us,g1,g2,g3,g4,g5⟩:=k.own j es q
    rw[g1]at w;cases w;rw[n.b]at g4;cases g4
  .rw[QC hf]at a;exact a.elim
end
section
variable{Z Z1 Z2 Z':UF}{pt:Pat}
theorem Ct{f:M jz}{ds:jz}(h:f (K7 Z)=.ok ds Z')(hf:ds.all nl0=jx):Sj f Z=.ok ds Z:=by unfold Sj;rw[h];dsimp only;rw[if_pos hf]
end
def Yx(i:Nat):M jz:=λZ=>match Z[i]? with
 |some (ju (.own ds))=>.ok ds (Z.set i jw)
 |_=>.bad
section
variable{X:Cx}{B G0:Hp}{e:Uj}
theorem Es{i:Nat}(h:PE X e (KT i)):PE X e (tL X.K B G0 (Yx i)):=U7 h λσ H Q ⟨G,Z,k,q⟩=>by
 cases ho:Z[i]? with
 |none=>unfold Yx at q;rw[ho]at q;exact q.elim
 |some oo=>
 cases oo with
 |none=>unfold Yx at q;rw[ho]at q;exact q.elim
 |some sl=>
 cases sl with
 |pub d=>unfold Yx at q;rw[ho]at q;exact q.elim
 |deep p d=>unfold Yx at q;rw[ho]at q;exact q.elim
 |own ds=>
 unfold Yx at q;rw[ho]at q;dsimp only at q;obtain⟨ad,vs,h1,h2,h3,h4,h5⟩:=k.own i ds ho;obtain⟨ω,k1,k2⟩:=id k.dp;have hw:=k2 i ds ad ho h1
 have nz:∀{m:Nat}{s:Sl},(Z.set i jw)[m]?=ju (ju s)->Z[m]?=ju (ju s)/\i≠m:=λ{m s} q=>by
  by_cases z:i=m
  .subst z;have:=Yb q;cases this
  .rw[Qm z]at q;exact⟨q,z⟩
 refine⟨.ref ad,h1,q ad vs G H k.forget (.refl _) ⟨h2,h3,h4,h5,λj es e w=>?_,λj p d v fp e w r m=>?_⟩⟩
 .obtain⟨e,z⟩:=nz e
  exact z (k.sep i j ad ds es ho e h1 w)
 .obtain⟨e,z⟩:=nz e
  obtain⟨v',fp',s',r',n',w'⟩:=k1 j p d e;rw[w]at s';cases s';have u:=r'.uniq (.refl _) r;subst u;exact z (hw.symm.trans (w' ad m).2.2)
end
def Vo(x y:D):Option jz:=match x,y with
 |.list x,.list y=>if x.length+y.length<=1000000 then ju (x++y)else jw
 |_,_=>jw
def Xr(f g:M D):M jz:=UZ f λx=>UZ g λy=>UW (Vo x y)
section
variable{X:Cx}{B G0:Hp}{e o a b c:Uj}{pos:Pos}{es:jF}
theorem Er{f g:M D}(ha:PE X a (tD X.K B G0 f))(hb:PE X b (tD X.K B G0 g)):PE X (.BinOp a .Add b pos) (tL X.K B G0 (Xr f g)):=
 U7 (OF NQ ha hb) λσ H Q ⟨G,Z,k,q⟩=>by
  refine⟨G,Z,k,?_⟩;unfold Xr UZ at q;cases z:f Z with
  |bad=>rw[z]at q;exact q.elim
  |ok x Z1=>
   rw[z]at q;dsimp only at q;intro v G1 H1 k1 s1 r1;refine⟨G1,Z1,k1,?_⟩;cases z2:g Z1 with
   |bad=>rw[z2]at q;exact q.elim
   |ok y Z2=>
    rw[z2]at q;dsimp only[UW]at q;intro u G2 H2 k2 s2 r2;cases x with
    |list xs=>
     cases y with
     |list ys=>
      by_cases c:xs.length+ys.length<=1000000
      .have e:Vo (.list xs) (.list ys)=ju (xs++ys):=Qo c
       rw[e]at q;obtain⟨l,vs,rfl,h1,w1⟩:=r1.lst_inv;obtain⟨m,us,rfl,h2,w2⟩:=r2.lst_inv;exact⟨l,m,vs,us,rfl,rfl,k2.gh.seq (s2.seq h1),k2.gh.seq h2,by rw[w1.length,w2.length];exact QP c lim,λp hp=>q p _ G2 _ (k2.ext (Ext.hid k2.gh hp)) (s1.trans s2) (NewL.of k2 hp ((w1.mono s2).append w2))⟩
      .have e:Vo (.list xs) (.list ys)=jw:=QC c
       rw[e]at q;exact q.elim
     |_=>exact q.elim
    |_=>exact q.elim
end
end DL
namespace L2
open PySem PySem.Spec PyProof.Rows PySem.Calls PyProof.V
end L2
namespace DL
open PySem PySem.Spec L2
open PyProof.Rows hiding St
section
variable{X:Cx}
def Vm:D->D->jJ
 |.list xs,.list ys=>if xs.length=ys.length then jw else ju jy
 |_,_=>jw
theorem HQ(hu:X.A.units+64<cLine):OpB X (Uo .Eq) Vm:=by
 refine⟨λv u H Q=>∃l m xs ys,v=.ref l/\u=.ref m/\SqL X.K H l xs/\SqL X.K H m ys/\xs.length≠ys.length/\Q (.bl jy) H,?_,λv u G H x y d Q s rx ry e k=>?_⟩
 .intro pins s σ H x y v u Q I rx ry h
  obtain⟨l,m,xs,ys,rfl,rfl,h1,h2,hne,q⟩:=h;cases rx;cases ry;obtain⟨its,r,p,z⟩:=I.list h1;obtain⟨its2,r2,p2,z2⟩:=I.list h2;refine SeqAt.eq_list_lengthsAt p.isList p2.isList ?_ (by omega) ⟨.bl jy,H,I,rfl,q⟩;rw[QI,QI,←r.length,←r2.length];simpa using hne
 .unfold Vm at e
  split at e
  .split at e
   .cases e
   .rename_i hl
    cases e;obtain⟨l,vs,rfl,h1,r1⟩:=rx.lst_inv;obtain⟨m,ws,rfl,h2,r2⟩:=ry.lst_inv;exact⟨l,m,vs,ws,rfl,rfl,s.seq h1,s.seq h2,by rw[r1.length,r2.length];exact hl,k⟩
  .cases e
def Vn(x y:D):jJ:=(Vm x y).orElse λ_=>oEq x y
theorem HP(hu:X.A.units+64<cLine):OpB X (Uo .Eq) Vn:=(HQ hu).or (B_eq hu)
theorem Ep{xs:jz}:Vn (.list xs) (.list [])=ju xs.isEmpty:=by
 cases xs with
 |nil=>kernel_rfl
 |cons x r=>rfl
end
def tgN:Uj->List Str
 |.Name x _=>[x]
 |.Tuple [.Name x _] _ _=>[x]
 |.Tuple [.Name x _,.Name y _] _ _=>[x,y]
 |.Tuple [.Name x _,.Name y _,.Name z _] _ _=>[x,y,z]
 |.Tuple [.Name x _,.Name y _,.Name z _,.Name u _] _ _=>[x,y,z,u]
 |_=>[]
def adN(vs:List Str):List Str->List Str
 |[]=>vs
 |x::r=>adN (if vs.elem x then vs else vs++[x]) r
def Vq(vs:List Str):List Comprehension->List Str
 |[]=>vs
 |⟨tg,_,_,_⟩::r=>Vq (adN vs (tgN tg)) r
def dotN(x:Str):Str:=("." : Str)++x
def blN(N:List Str)(gs:List Comprehension):List Str:=N.map (λx=>if(Vq [] gs).elem x then dotN x else x)++Vq [] gs
def glN(sc:Scope):List Str:=sc.names.filterMap λy=>match y.2 with | .globalImplicit=>ju y.1|_=>jw
abbrev NmF(s:Stmt)(N:List Str):Prop:=FnNm (KZ s) N (glN (KZ s))
theorem mq{α:Type}{l:List α}{x:α}(n:Nat)(h:l[n]?=ju x):x∈l:=Qp h
section
variable{sc:Scope}{N gl:List Str}{x:Str}
theorem gA(H:FnNm sc N gl)(h:gl.elem x=jx):sc.names.lookup x=ju .globalImplicit:=H.gl x (by simpa using h)
end
section
variable{X:Cx}{B G0:Hp}{KX:XW}{e e1 e2 o a b c i:Uj}{gl:List Str}{pos p2:Pos}{x:Str}{j:Nat}
theorem HN(H:FnNm X.env.scope X.N gl)(hi:X.N[j]?=ju x:=by rfl)(hf:X.fn x=jx∨X.env.scope.names.lookup x=ju .local:=by first|exact .inl rfl|exact .inr rfl|assumption):PG X (.Name x pos) (tG X.K B G0 (gN j)):=NO (N3 H.nd hi (lq H j hi) hf)
theorem Gw{N':List Str}{scope:Scope}{cl:List (Str×Uh)}{C:Uh}{s₀:Uf}{H₀:Hp}{ex:jH}(hN:N'.Nodup:=by decide +kernel)(hi:N'[j]?=ju x:=by rfl)(hl:scope.names.lookup x=ju .local:=by rfl):PG (X.blk N' scope cl C s₀ H₀ ex) (.Name x pos) (tG X.K B G0 (gN j)):=NO (N3 hN hi (Ee hl) (.inr (Ge hl)))
theorem aSet{f:M D}(H:FnNm X.env.scope X.N gl)(he:PE X e (tD X.K B G0 f))(hi:X.N[j]?=ju x:=by rfl)(hs:swapsWith e (ju (.Name x p2)) pos.line X.env=pure jy:=by rfl)
  (hf:X.fn x=jx∨X.env.scope.names.lookup x=ju .local:=by first|exact .inl rfl|exact .inr rfl|assumption):PS X (.Assign [.Name x p2] e pos) (tS X.K B G0 KX (U0 j f)):=Gj H.nd hi (lq H j hi) he hs hf
theorem Om{f:M jz}(H:FnNm X.env.scope X.N gl)(he:PE X e (tL X.K B G0 f))(hi:X.N[j]?=ju x:=by rfl)(hs:swapsWith e (ju (.Name x p2)) pos.line X.env=pure jy:=by rfl)
  (hf:X.fn x=jx∨X.env.scope.names.lookup x=ju .local:=by first|exact .inl rfl|exact .inr rfl|assumption):PS X (.Assign [.Name x p2] e pos) (tS X.K B G0 KX (KM j f)):=Ej H.nd hi (lq H j hi) he hs hf
theorem aAug{op:Operator}{p:Int->Int->jC}{f:M D}{pos':Pos}(H:FnNm X.env.scope X.N gl)(ho:IpD X op p)(he:PE X e (tD X.K B G0 f))(hi:X.N[j]?=ju x:=by rfl)(hf:X.fn x=jx∨X.env.scope.names.lookup x=ju .local:=by first|exact .inl rfl|exact .inr rfl|assumption):PS X (.AugAssign (.Name x pos') op e pos) (tS X.K B G0 KX (YN p j f)):=GK H.nd hi (lq H j hi) ho he hf
theorem HM{l:Bool}{tg elt iter:Uj}{ifs:jF}{gs:List Comprehension}{scope:Scope}{f:M jz}{s:D->UF->jG}{t:M Bool}{rd:RdB}{F:M jz}{k:Nat}{SC:Scope}{N1:List Str}(H:FnNm SC N1 gl)(le:∀Z es Z',F Z=.ok es Z'->dCG l f k s t rd Z=.ok es Z')(hc:X.calm=jx)
  (hi:PI X tg iter (iD X.K B G0 f)) (jN:Yh X (blN N1 (⟨tg,iter,ifs,0⟩::gs)) scope (.ListComp elt (⟨tg,iter,ifs,0⟩::gs) scope pos) tg ifs s t rd) (hb:WO Tr SC scope N1 (blN N1 (⟨tg,iter,ifs,0⟩::gs)) k=jx) (h1:X.env.scope=SC:=by rfl) (h2:X.N=N1:=by rfl) (hs:∀x,UD iter X.env x=pure x:=by intro _;rfl) :
  PE X (.ListComp elt (⟨tg,iter,ifs,0⟩::gs) scope pos) (tL X.K B G0 F):=HB _ _ _ k le hc hi jN h1 h2 hb hs
theorem HL{l:Bool}{y:Str}{py spos:Pos}{tg elt iter:Uj}{ifs:jF}{gs:List Comprehension}{scope:Scope}{f:M jz}{s:D->UF->jG}{t:M Bool}{rd:RdB}{F:M jz}{k:Nat}{SC:Scope}{N1:List Str}(H:FnNm SC N1 gl)(le:∀Z es Z',F Z=.ok es Z'->dCG l f k s t rd Z=.ok es Z')(hc:X.calm=jx)
  (hi:PI X tg iter (iD X.K B G0 f)) (jN:Yh X (blN N1 (⟨tg,iter,ifs,0⟩::gs)) scope (.ListComp elt (⟨tg,iter,ifs,0⟩::gs) scope pos) tg ifs s t rd) (hb:WO Tr SC scope N1 (blN N1 (⟨tg,iter,ifs,0⟩::gs)) k=jx) (hj:N1[j]?=ju y:=by rfl) (hy:SC.names.lookup y=ju .local:=by rfl) (h1:X.env.scope=SC:=by rfl) (h2:X.N=N1:=by rfl) (hs:∀x,UD iter X.env x=pure x:=by intro _;rfl)
  (hsw:swapsWith (.ListComp elt (⟨tg,iter,ifs,0⟩::gs) scope pos) (ju (.Name y py)) spos.line X.env=pure jx:=by rfl) :
  PS X (.Assign [.Name y py] (.ListComp elt (⟨tg,iter,ifs,0⟩::gs) scope pos) spos) (tS X.K B G0 KX (KM j F)):=sD_1 _ _ _ k le (h2 ▸ H.nd) (h2 ▸ hj) (h1 ▸ hy) hc hi jN h1 h2 hb hs hsw
end
end DL
namespace DL
open PySem PySem.Spec L2
open PyProof.Rows hiding St
open Builtin Builtin.Str
end DL
namespace DL
open PySem PySem.Spec L2
open PyProof.Rows hiding St
end DL
namespace DL
open PySem PySem.Spec L2
open PyProof.Rows hiding St
open PySem.SeqRoads2 PySem.SeqAt
end DL
namespace DL
open PySem PySem.Spec L2
open PyProof.Rows hiding St
end DL
namespace L2
open PySem PySem.Spec PyProof.Rows
section
variable{prog:Ug}{w:World}{A:Around}{elt tg i:Uj}{ifs:jF}{gens:List Comprehension}{scope:Scope}{pos:Pos}{it acc:Ue}{env:Env}{j:Nat}
theorem At(hg:gens[j]?=ju ⟨tg,i,ifs,0⟩)(hn:gens[j+1]?=jw):Vd prog w A tg ifs env it (.compLoop (.SetComp elt gens scope pos) j it acc env)
  (λQ s=>Ul (model prog w) A (eval elt env) (λx s₄=>Ul (model prog w) A (call (.builtin "set.add") [acc,x]) (λ_ s₅=>Q s₅) nox s₄) nox s):=by
 intro R I n s h turn;refine codeAny_loop jv I (λn s hI=>?_) n h;show Ul _ A ((compTurn (.SetComp elt gens scope pos) j it acc env).onRaise (λx=>do noteFrame x env;theTreesLotGoes x)) _ _ s;refine wpAny_noted ?_;unfold compTurn;dsimp only;simp only[hg,hn];refine Qd (Q3 (Qd (Qv (turn n s hI) (λr s₁ h₁=>?_) λ_ _ h'=>h'.elim)));cases r with
 |none=>exact Qk h₁
 |some v=>
  refine Qd (Qv h₁ (λ_ s₁' h₁'=>?_) λ_ _ h'=>h'.elim);refine Qd (Qv h₁' (λ_ s₂ h₂=>Qd (Qv h₂ (λok s₃ h₃=>?_) λ_ _ h'=>h'.elim)) λ_ _ h'=>h'.elim);cases ok with
  |false=>exact Qk ⟨rfl,h₃⟩
  |true=>exact Qd (Qd (Qv h₃ (λx s₄ h₄=>Qd (Q3 (Qd (Qv h₄ (λ_ s₅ h₅=>Qk (Qk ⟨rfl,h₅⟩)) λ_ _ h'=>h'.elim)))) λ_ _ h'=>h'.elim))
theorem Bp{R:Result->Uf->Prop}{s:Uf}{target iter:Uj}{rest:List Comprehension}
  (h0:codeAny (model prog w) A (.compLoop (.SetComp elt (⟨target,iter,ifs,0⟩::rest) scope pos) 0 it acc env) R s)
  (h:Ul (model prog w) A (pyIter it) (λit' s'=>codeAny (model prog w) A (.compLoop (.SetComp elt (⟨target,iter,ifs,0⟩::rest) scope pos) 0 it' acc env) R s')
   (notedBy (model prog w) A env λx s'=>R (.error x) s') s) :
  codeAny (model prog w) A (.compStart (.SetComp elt (⟨target,iter,ifs,0⟩::rest) scope pos) 0 it acc env) R s:=by
 refine codeAny_of_tree ?_;show Ul _ _ ((compStart (.SetComp elt (⟨target,iter,ifs,0⟩::rest) scope pos) 0 it acc env).onRaise (λx=>do noteFrame x env;standAt theWindowsPlace)) _ _ s;refine wpAny_notedAt ?_;unfold compStart;show Ul _ _ (ask >>= _) _ _ s;refine Qd (wpAny_askSetting (wpAny_ite ?_));split
 .first
   |exact Qk (And.intro rfl h0)
   |exact Qd (Qk (Qk (And.intro rfl h0)))
 .refine Qd (wpAny_rule ?_)
  show Ul _ _ (standAt iter.pos >>= _) _ _ s;exact Qd (Q3 (Qd (Qv h (λit' s' h'=>Qk (And.intro rfl h')) λ_ _ x=>x)))
end
end L2
namespace DL
open PySem PySem.Spec L2
open PyProof.Rows hiding St
theorem LC(ns:jA):ZA ns=(ns.foldl step_dedup []).length:=by
 unfold ZA firstMet
 congr 2
 apply List.ext_getElem
 .simp
 .intro i h1 h2
  simp[List.getD_eq_getElem?_getD,h2]
theorem Mc(z:Int):∀(ns σ:jA),(ns.foldl step_dedup σ).any (· == z)=(σ.any (· == z) || ns.any (· == z))
 |[],σ=>by simp
 |x::r,σ=>by
  rw[List.foldl_cons,Mc z r,step_any,List.any_cons,Bool.or_assoc]
  congr 2
  by_cases h:z=x
  .subst h;simp
  .have h':x≠z:=λq=>h q.symm
   simp[h,h']
theorem qM(ns:jA)(i:Int):ZA (ns++[i])=if ns.any (· == i)=jx then ZA ns else ZA ns+1:=by rw[LC,LC,List.foldl_append,List.foldl_cons,List.foldl_nil,step_length,Mc];simp
theorem Od:∀(ns:jA),ZA ns<=ns.length:=λns=>by unfold ZA;exact firstMet_length_le _ _
def Zk(ns:jA):HO:=.set (λz=>ns.any (· == z)) (ZA ns)
def cTS(s:D->UF->jG)(t:M Bool)(g:M D):jz->UF->jA->Option jA
 |[],_,ns=>ju ns
 |d::r,Z,ns=>match s d Z with
  |none=>jw
  |some Z1=>match t Z1 with
   |.bad=>jw
   |.ok b Z2=>if b=jx then(match g Z2 with
     |.ok (.int i) Z3=>if ns.length+1<4096 then cTS s t g r (Kf Z3) (ns++[i])else jw
     |_=>jw)
    else cTS s t g r (Kf Z2) ns
def TY(f:M jz)(k:Nat)(s:D->UF->jG)(t:M Bool)(g:M D):M jA:=λZ=>match f Z with
 |.bad=>.bad
 |.ok ds Z1=>match cTS s t g ds (Kf Z1++Uq k jw) []with
  |none=>.bad
  |some ns=>.ok ns Z1
structure Ol(Y:Cx)(D':Uh)(pins:List (Uh×Obj))(H G:Hp)(ns:jA)(Z':UF)(σ':St)(H' G':Hp)(s':Uf):Prop where
 inv:Inv Y pins σ' H' s'
 eok:EOk Y.K H' G' G' H' σ' Z'
 hh:∀a o,a≠D'->H a=ju o->H' a=ju o
 gg:Same G G'
 np:∀a(u:MO),a≠D'->H a=ju u.ho->G a=jw->G' a=jw
 hd:H' D'=ju (Zk ns)
 gd:G' D'=jw
section
variable{Y:Cx}{D':Uh}
theorem Cs{pins:List (Uh×Obj)}{σ:St}{H:Hp}{s:Uf}{ns:jA}{i:Int}{ev:Ue}(I:Inv Y pins σ H s)(hD:H D'=ju (Zk ns))(hb:ns.length+1<4096)(rv:RelV (.int i) ev) :
  Ul (model Y.prog Y.w) Y.A (call (.builtin "set.add") [.ref D',ev]) (λ_ s'=>Inv Y pins σ (upd H D' (Zk (ns++[i]))) s') nox s:=by
 obtain⟨tk,rfl⟩:=rv;have hS:s.heap.SetOf (intKind Y.prog Y.w) D' (λz=>ns.any (· == z)) (ZA ns):=I.hok _ _ hD;refine call_set_add (knd:=intKind Y.prog Y.w) (k:=i) (by simp[intKind,Value.isInt]) jv hS (by have:=Od ns;have hsb:scanBound=4096:=rfl;omega) λh' sb hS'=>?_
 refine I.write (x:=D') (e:=D') (o:=Zk (ns++[i])) (t':=s.toks+1) (by rw[hD];exact trivial) (.inl jv) (λb u hb' e=>(sb.2 b hb').trans e) ?_ ?_
 .obtain⟨o,_,_,_,e,_⟩:=hS';exact⟨o,e⟩
 .show h'.SetOf (intKind Y.prog Y.w) D' (λz=>(ns++[i]).any (· == z)) (ZA (ns++[i]))
  rw[qM]
  have:(λz=>(ns++[i]).any (· == z))=λk'=>ns.any (· == k') || decide (k'=i):=by
   funext z;rw[List.any_append,List.any_cons,List.any_nil,Bool.or_false]
   congr 1
   by_cases h:z=i
   .subst h;simp
   .simp[h];exact λq=>h q.symm
  rw[this];exact hS'
theorem Cr{tg elt:Uj}{ifs:jF}{code:Code}{s:D->UF->jG}{t:M Bool}{g:M D}{it:Uh}(hx:Y.xe=nox)(hc:Y.calm=jx)
  (rule:Vd Y.prog Y.w Y.A tg ifs Y.env (.ref it) code (λQ s=>Ul (model Y.prog Y.w) Y.A (eval elt Y.env) (λx s₄=>Ul (model Y.prog Y.w) Y.A (call (.builtin "set.add") [.ref D',x]) (λ_ s₅=>Q s₅) nox s₄) nox s))
  (hg:∀B1 G1,PG Y tg (tG Y.K B1 G1 s)) (ht:∀B1 G1,ZU Y ifs (tBo Y.K B1 G1 t)) (he:∀B1 G1,PE Y elt (tD Y.K B1 G1 g))
  {pins:List (Uh×Obj)} {sh:Uf} {σ:St} {H G:Hp} {Z:UF} {fp:jH} {tn:Nat->Heap->Prop} {J:It} {ds:jz} {ns nsF:jA} {R:Result->Uf->Prop}
  (I:Inv Y pins σ H sh) (T:Turn Y.prog Y.w Y.K tg J fp it tn) (st:tn 0 sh.heap) (hf:∀b∈fp,KY Y pins H b)
  (k:EOk Y.K H G G H σ Z) (its:YL Y.K J ds G) (hD:H D'=ju (Zk ns)) (gD:G D'=jw) (zl:cTS s t g ds Z ns=ju nsF)
  (kL:∀Z' σ' H' G' s',Ol Y D' pins H G nsF Z' σ' H' G' s'->R (.ok .next) s'):codeAny (model Y.prog Y.w) Y.A code R sh:=by
 have stat:∀{H':Hp},(∀b∈fp,H' b=jw)->∀b∈fp,KY Y pins H' b:=λhn b hb=>⟨hn b hb,(hf b hb).2⟩
 refine rule R (λn s'=>∃i σ' H' G' Z' ns',n=ds.length-i/\tn i s'.heap/\(∀b∈fp,H' b=jw)/\Ol Y D' pins H G ns' Z' σ' H' G' s'/\cTS s t g (ds.drop i) Z' ns'=ju nsF) ds.length sh
  ⟨0,σ,H,G,Z,ns,rfl,st,λb hb=>(hf b hb).1,⟨I,k,λ_ _ _ q=>q,.refl _,λ_ _ _ _ n=>n,hD,gD⟩,by rw[List.drop_zero];exact zl⟩ ?_
 rintro n s' ⟨i,σ',H',G',Z',ns',rfl,xO,vj,⟨I',k',kE,kn,xg,jV,gD'⟩,zc⟩;by_cases hlt:i<ds.length
 .rw[JL hlt,cTS]at zc
  cases zs:s ds[i] Z' with
  |none=>rw[zs]at zc;cases zc
  |some Z2=>
  rw[zs]at zc;dsimp only at zc;cases zt:t Z2 with
  |bad=>rw[zt]at zc;cases zc
  |ok b Z3=>
  rw[zt]at zc;dsimp only at zc;refine thn (T.item Y jv jv jv hc i pins s' σ' H' nox I' (stat vj) xO (its.go i G' H' kn k'.gh hlt)) λrr s4 ⟨u,hr,h4⟩=>?_;subst hr;refine thn h4 λ_ s5 ⟨x,H5,I5,r5,y5,j4,vi⟩=>?_
  obtain⟨G5,e5,rx⟩:=its.yld i G' H' x H5 ds[i] kn k'.gh (Qe hlt) y5;have h6:=hg H' G' _ s5 σ' H5 x u (λσ6 H6=>∃G6,EOk Y.K H' G' G6 H6 σ6 Z2) (I5.pinned (stat vi) (T.obj _ _ j4)) r5 ⟨G5,Z',ds[i],Z2,k'.ext e5,rx,zs,λσ6 G6 H6 k6 _=>⟨G6,k6⟩⟩;rw[hx]at h6;refine thn h6 λ_ s6 ⟨σ6,H6,I6,G6,k6⟩=>?_;have h7:=ht H' G' _ s6 σ6 H6 (λc H7=>c=b/\∃G7,EOk Y.K H' G' G7 H7 σ6 Z3) I6 ⟨G6,Z2,k6,by unfold aft;rw[zt];exact λc G7 H7 k7 _ q=>⟨q,G7,k7⟩⟩
  rw[hx]at h7;refine thn h7 λok s7 ⟨H7,I7,hb7,G7,k7⟩=>?_;subst hb7
  have again:∀{H9:Hp}{σ9:St}{s9:Uf},Inv Y (pins++Tz fp s5.heap) σ9 H9 s9->Inv Y pins σ9 H9 s9/\tn (i+1) s9.heap/\∀b∈fp,H9 b=jw:=λ{H9 σ9 s9} I9=>by refine⟨I9.unpinned,T.keep _ _ _ j4 λb hb o e=>(I9.pin (b,o) (QF _ (QF _ (TU hb e)))).1,λb hb=>?_⟩;obtain⟨o,e,d⟩:=T.obj _ _ j4 b hb;exact(I9.pin (b,o) (QF _ (QF _ (TU hb e)))).2.1
  have lt:ds.length-(i+1)<ds.length-i:=Nat.sub_lt_sub_left hlt (Nat.lt_succ_self i);cases ok with
  |false=>rw[QC (by decide)]at zc⊢;obtain⟨J1,J2,J3⟩:=again I7;exact⟨_,lt,i+1,σ6,H7,G7,Kf Z3,ns',rfl,J2,J3,⟨J1,k7.rebase,λa o z q=>k7.bh a o (kE a o z q),kn.trans k7.g0,λa o z q w=>k7.np a o (kE a _ z q) (xg a o z q w),k7.bh _ _ jV,k7.np _ (.s _ _) jV gD'⟩,zc⟩
  |true=>
   rw[Qo jv]at zc⊢;split at zc
   .rename_i z Z4 zg
    split at zc
    .rename_i hle
     have h8:=he H' G' _ s7 σ6 H7 (λv H8=>∃G8,EOk Y.K H' G' G8 H8 σ6 Z4/\Rep Y.K G8 v (.int z)) I7 ⟨G7,Z3,k7,by unfold aft;rw[zg];exact λv G8 H8 k8 _ q=>⟨G8,k8,q⟩⟩;rw[hx]at h8;refine thn h8 λev s8 ⟨v,H8,I8,rv,G8,k8,r8⟩=>?_
     have:v=.int z:=r8.int_inv;subst this;refine thn (Cs I8 (k8.bh _ _ jV) hle rv) λ_ s9 I9=>?_
     obtain⟨J1,J2,J3⟩:=again I9;have g8:=k8.np _ (.s _ _) jV gD';exact⟨_,lt,i+1,σ6,_,G8,_,_,rfl,J2,J3,⟨J1,k8.beside g8,λa o z q=>by rw[Kn z];exact k8.bh a o (kE a o z q),kn.trans k8.g0,λa o z q w=>k8.np a o (kE a _ z q) (xg a o z q w),KP,g8⟩,zc⟩
    .cases zc
   .cases zc
 .rw[List.drop_eq_nil_of_le (QZ hlt),cTS]at zc
  cases zc;refine thn (T.done Y jv jv jv hc i pins s' σ' H' nox I' (stat vj) xO (its.stop i G' H' kn k'.gh (QZ hlt))) λrr s4 ⟨hr,I6⟩=>?_
  subst hr;exact kL Z' σ' H' G' s4 ⟨I6,k',kE,kn,xg,jV,gD'⟩
end
section
variable{X:Cx}{B G0:Hp}
def RU(X:Cx)(N2:List Str)(scope:Scope)(elt tg:Uj)(ifs:jF)(s:D->UF->jG)(t:M Bool)(g:M D):Prop:=
 ∀(cl:List (Str×Uh))(C:Uh)(s₀:Uf)(H₀:Hp)(ex:jH),(∀B' G',PG (X.blk N2 scope cl C s₀ H₀ ex) tg (tG X.K B' G' s))/\(∀B' G',ZU (X.blk N2 scope cl C s₀ H₀ ex) ifs (tBo X.K B' G' t))/\∀B' G',PE (X.blk N2 scope cl C s₀ H₀ ex) elt (tD X.K B' G' g)
def tSC(K:Frag)(B G0:Hp)(f:M jA):TE:=λσ H Q=>∃G Z,EOk K B G0 G H σ Z/\match f Z with
 |.bad=>False
 |.ok ns Z1=>∀D G' H',EOk K B G0 G' H' σ Z1->Same G G'->H' D=ju (Zk ns)->Q (.ref D) H'
theorem EW{tg elt iter:Uj}{ifs:jF}{scope:Scope}{pos:Pos}{N2:List Str}{k:Nat}{f:M jz}{s:D->UF->jG}{t:M Bool}{g:M D}(hc:X.calm=jx)
  (hi:PI X tg iter (iD X.K B G0 f)) (jN:RU X N2 scope elt tg ifs s t g) (hb:Ts X.env.scope scope X.N N2 k) (hs:∀x,UD iter X.env x=pure x:=by intro _;rfl) :
  PE X (.SetComp elt [⟨tg,iter,ifs,0⟩] scope pos) (tSC X.K B G0 (TY f k s t g)):=by
 intro pins s0 σ H Q I ⟨G,Z,k0,a⟩;unfold TY at a;cases zf:f Z with
 |bad=>rw[zf]at a;exact a.elim
 |ok ds Z1=>
 rw[zf]at a;dsimp only at a;cases zl:cTS s t g ds (Kf Z1++Uq k jw) []with
 |none=>rw[zl]at a;exact a.elim
 |some nsF=>
 rw[zl]at a;dsimp only at a;show Ul _ X.A (comprehension (.SetComp elt [⟨tg,iter,ifs,0⟩] scope pos) scope X.env _ (newSet (.type "set")) jy (eval iter X.env) jw) _ _ s0;obtain⟨cl,hcl,kB,xM⟩:=Le (scope:=scope) (env:=X.env) λy hy hf=>I.ok.has y.1 (hb.free y hy hf)
 refine wpAny_comprehension_free jv hs hcl hb.kind hb.names (thn (hi pins s0 σ H (λJ H1=>∃G1,EOk X.K B G0 G1 H1 σ Z1/\Same G G1/\YL X.K J ds G1) I ⟨G,Z,k0,by rw[zf];exact λJ G1 H1 k1 s1 it=>⟨G1,k1,s1,it⟩⟩) λv s1 h1=>thn h1 λitv s2 h2=>?_);obtain⟨it,fp,tn,J,H2,rfl,I2,T,st2,f2,G1,k1,sg1,its⟩:=h2;refine wpAny_newSet_of (knd:=intKind X.prog X.w) λled hS=>wpAny_newFunctionEnv hb.cell (by intro y hy;simp at hy) (λh₁ hns₁ hsb₁=>?_) hb.kind
 dsimp only at hns₁ hsb₁⊢;have hfr:H2 s2.heap.objs.size=jw:=I2.hok.fresh (Qq _)
 have I3:Inv X pins σ (upd H2 s2.heap.objs.size (Zk [])) {s2 with heap:=s2.heap.push {cls:=.type "set", dict:=jw,data:=.set #[] 0 (.fresh 0 0 led)}}:=
  I2.laid (t':=s2.toks) (λb u e=>Qg _ e) (Qq _) (show Heap.SetOf _ _ _ _ _ from hS)
 generalize hP:s2.heap.push {cls:=.type "set", dict:=jw,data:=.set #[] 0 (.fresh 0 0 led)}=P at I3 hns₁ hsb₁⊢;have old:∀b o,s2.heap.get? b=ju o->P.get? b=ju o:=λb o e=>hP ▸ Qg _ e;have kept:∀b o,P.get? b=ju o->h₁.get? b=ju o:=λb o e=>hsb₁.extBut b o (QH (Qj e)) (Qg _ e);have fpo:∀b∈fp,∃o,s2.heap.get? b=ju o:=λb hb=>let ⟨o,e,_⟩:=T.obj _ _ st2 b hb;⟨o,e⟩
 have fpD:∀b∈fp,b≠s2.heap.objs.size:=λb hb=>let ⟨o,e⟩:=fpo b hb;QH (Qj e)
 have f3:∀b∈fp,KY X pins (upd H2 s2.heap.objs.size (Zk [])) b:=λb hb=>⟨by rw[Kn (fpD b hb)];exact(f2 b hb).1,(f2 b hb).2⟩
 have I4:=I3.enter (scope:=scope) (cl:=cl) (N2:=N2) (k:=k) (fp:=fp) (t':=s2.toks+([]:List (Str×Ue)).length) hb.b hb.kind hb.cell hb.free kB xM hns₁ kept f3 (λb hb=>let ⟨o,e⟩:=fpo b hb;⟨o,old b o e⟩);dsimp only at I4;have gD:G1 s2.heap.objs.size=jw:=k1.gh.free hfr;have kb:EOk X.K _ G1 G1 _ _ _:=(k1.beside (o:=Zk []) gD).more k;have sH:Same H2 (upd H2 s2.heap.objs.size (Zk [])):=Zj hfr;have vh:upd H2 s2.heap.objs.size (Zk []) s2.heap.objs.size=ju (Zk []):=KP;generalize upd H2 s2.heap.objs.size (Zk [])=H3 at I3 I4 f3 kb sH vh;generalize s2.heap.objs.size=D at *;have xN:tn 0 h₁:=T.keep 0 _ _ st2 λb hb o e=>kept b o (old b o e)
 have stat:∀b∈fp,KY (X.blk N2 scope cl P.objs.size {s2 with heap:=P} H3 fp) pins H3 b:=λb hb=>by
  obtain⟨z0,z1,z2,z3,z4,z5⟩:=f3 b hb;obtain⟨o,e⟩:=fpo b hb;refine⟨z0,QH (Qj (old b o e)),λz=>?_,.inl hb,λx c q=>z4 x c (kB x c q),z5⟩;rcases Ql.mp (I3.stkSub b z)with q|q
  .exact z1 q
  .exact z2 q
 have neD:∀a o,H2 a=ju o->a≠D:=λa o q z=>by subst z;rw[hfr]at q;cases q
 obtain⟨hg,ht,he⟩:=jN cl P.objs.size {s2 with heap:=P} H3 fp
 have loop:=Cr (Y:=X.blk N2 scope cl P.objs.size {s2 with heap:=P} H3 fp) (D':=D) (R:=compPost (model X.prog X.w) X.A X.xe jw (EP X pins σ Q) (.ref D) P.objs.size) jv hc (At (elt:=elt) (gens:=[⟨tg,iter,ifs,0⟩]) (scope:=scope) (pos:=pos) (j:=0) (i:=iter) jv jv) hg ht he I4 T xN stat kb its vh gD zl λZ' σ' H' G' s4 L=>by
   obtain⟨m,hm,_⟩:=id L.inv.loc;have I7:Inv X pins σ H' s4:=I3.call' (ch:=fp) L.inv.os L.inv.base L.inv.hok L.inv.bare λb hb=>⟨(f3 b hb).2.2.2.1,(f3 b hb).2.1,(f3 b hb).2.2.2.2.1,(f3 b hb).2.2.2.2.2⟩;have eF:Ext G1 H2 G' H':=⟨λa o q=>L.hh a o (neD a o q) (sH a o q),L.gg,L.eok.gh,λa o q z=>L.np a o (neD a _ q) (sH a _ q) z⟩
   refine⟨m,hm,λh' sb=>⟨.ref D,H',I7.turned (t':=s4.toks) (it:=P.objs.size) (λb o hb e=>(sb.2 b hb).trans e) L.inv.free (Jz I3.lt) (.inr I3.sz) (λx c e z=>by obtain⟨_,q⟩:=I3.cell x c e;exact absurd q.lt (by rw[z];exact Jg _)) (λp hp z=>by have:=Qj (I3.pin p hp).1;exact absurd this (by rw[z];exact Jg _)),rfl,a D G' H' (k1.ext eF) (sg1.trans eF.g) L.hd⟩⟩
 exact Bp loop (T.self X.A 0 _ _ _ xN loop)
def Sh(f:M jz)(k:Nat)(s:D->UF->jG)(t:M Bool)(g:M D):M D:=λZ=>match TY f k s t g Z with
 |.bad=>.bad
 |.ok ns Z1=>.ok (.int (ZA ns)) Z1
theorem Gv{tg elt iter:Uj}{ifs:jF}{scope:Scope}{pos p3 p4:Pos}{k:Nat}{f:M jz}{s:D->UF->jG}{t:M Bool}{g:M D}{SC:Scope}{N1 gl:List Str}(H:FnNm SC N1 gl)(hg:Gl X "len")(hm:X.mg "len" = jw)(hc:X.calm=jx)
  (hi:PI X tg iter (iD X.K B G0 f)) (jN:RU X (blN N1 [⟨tg,iter,ifs,0⟩]) scope elt tg ifs s t g) (hb:WO Tr SC scope N1 (blN N1 [⟨tg,iter,ifs,0⟩]) k=jx) (h1:X.env.scope=SC:=by rfl) (h2:X.N=N1:=by rfl) (hs:∀x,UD iter X.env x=pure x:=by intro _;rfl)
  (he:Um [.SetComp elt [⟨tg,iter,ifs,0⟩] scope p3] X.env=(jy,eval (.SetComp elt [⟨tg,iter,ifs,0⟩] scope p3) X.env)::Um [] X.env:=by rfl) :
  PE X (.Call (.Name "len" p4) [.SetComp elt [⟨tg,iter,ifs,0⟩] scope p3] [] pos) (tD X.K B G0 (Sh f k s t g)):=
 U7 (Ve M0 hg hm boot_len (Yo (EW hc hi jN (by rw[h1,h2];exact Pd hb) hs) Xh he) (by decide) (by decide) he jv) λσ Hh Q ⟨G,Z,k0,q⟩=>⟨G,Z,k0,by
  unfold Sh aft at q;cases z:TY f k s t g Z with
  |bad=>rw[z]at q;exact q.elim
  |ok ns Z1=>rw[z]at q;exact λD G' H' k' sg hd=>⟨D,_,_,rfl,hd,q (.int (ZA ns)) G' H' k' sg (.int _)⟩⟩
theorem Oc{s:D->UF->jG}{t:M Bool}{g:M D}:∀{ds:jz}{Z:UF}{es esF:jz},KB s t g ds Z es=ju esF->∃r,esF=es++r
 |[],Z,es,esF,h=>by rw[KB]at h;cases h;exact⟨[],by simp⟩
 |d::r,Z,es,esF,h=>by
  rw[KB]at h;cases zs:s d Z with
  |none=>rw[zs]at h;cases h
  |some Z1=>
  rw[zs]at h;dsimp only at h;cases zt:t Z1 with
  |bad=>rw[zt]at h;cases h
  |ok b Z2=>
  rw[zt]at h;dsimp only at h;cases b with
  |false=>exact Oc (ds:=r) h
  |true=>
   rw[Qo jv]at h;cases zg:g Z2 with
   |bad=>rw[zg]at h;cases h
   |ok e Z3=>
   rw[zg]at h;dsimp only at h;split at h
   .obtain⟨z,hz⟩:=Oc (ds:=r) h
    exact⟨e::z,by rw[hz];simp⟩
   .cases h
theorem intI:∀{a b:jA},a.map int=b.map int->a=b
 |[],[],_=>rfl
 |[],_::_,h=>by cases h
 |_::_,[],h=>by cases h
 |_::_,_::_,h=>by rw[QN,QN]at h;injection h with h1 h2;rw[PyData.int.inj h1,intI h2]
theorem R6{s:D->UF->jG}{t:M Bool}{g:M D}:∀{ds:jz}{Z:UF}{ns nsF:jA},KB s t g ds Z (ns.map int)=ju (nsF.map int)->nsF.length<4096->cTS s t g ds Z ns=ju nsF/\ns.length<=nsF.length
 |[],Z,ns,nsF,h,hl=>by rw[KB]at h;have h:=Qz h;have:ns=nsF:=intI h;subst this;exact⟨rfl,Qq _⟩
 |d::r,Z,ns,nsF,h,hl=>by
  rw[KB]at h;rw[cTS];cases zs:s d Z with
  |none=>rw[zs]at h;cases h
  |some Z1=>
  rw[zs]at h;dsimp only at h⊢;cases zt:t Z1 with
  |bad=>rw[zt]at h;cases h
  |ok b Z2=>
  rw[zt]at h;dsimp only at h⊢;cases b with
  |false=>exact R6 (ds:=r) h hl
  |true=>
   rw[Qo jv]at h⊢;cases zg:g Z2 with
   |bad=>rw[zg]at h;cases h
   |ok e Z3=>
   rw[zg]at h;dsimp only at h⊢;split at h
   .obtain⟨z,hz⟩:=Oc h
    have:∃i,e=.int i:=by
     have m:e∈nsF.map int:=by rw[hz];simp
     obtain⟨i,_,rfl⟩:=Qu.mp m;exact⟨i,rfl⟩
    obtain⟨i,rfl⟩:=this;rw[show ns.map int++[.int i]=(ns++[i]).map int by simp]at h;obtain⟨h1,h2⟩:=R6 (ds:=r) h hl;rw[Qi,QQ]at h2;dsimp only;rw[Qo (by omega)];exact⟨h1,by omega⟩
   .cases h
theorem Cq{f:M jz}{k:Nat}{s:D->UF->jG}{t:M Bool}{g:M D}{ns:jA}{Z Z1:UF}(h:Zw f k s t g Z=.ok (ns.map int) Z1)(hl:ns.length<4096):Sh f k s t g Z=.ok (.int (ZA ns)) Z1:=by
 unfold Zw at h;unfold Sh TY;cases zf:f Z with
 |bad=>rw[zf]at h;cases h
 |ok ds Z2=>
 rw[zf]at h;dsimp only at h⊢;cases zl:KB s t g ds (Kf Z2++Uq k jw) []with
 |none=>rw[zl]at h;cases h
 |some esF=>
 rw[zl]at h;dsimp only at h;cases h;rw[(R6 (ns:=[]) zl hl).1]
end
end DL
namespace DL
open PySem PySem.Spec L2
open PyProof.Rows hiding St
open PySem.SeqRoads2 PySem.SeqAt
def Wg(z:Bool):Ue->Bool
 |.bool x=>x==z
 |_=>jy
theorem Pw:∀{ts:List Bool}{us:jB}{i:Nat}{v:Ue},Vals (ts.map V.bl) us->us[i]?=ju v->∃x,ts[i]?=ju x/\v=.bool x
 |[],_,_,_,.nil,e=>by cases e
 |x::ts,_,0,_,.cons h _,e=>by cases e;cases h;exact⟨x,rfl,rfl⟩
 |x::ts,_,i+1,_,.cons _ r,e=>Pw (i:=i) r e
theorem Bo{X:Cx}:MtR X "list.index" (λv vs H Q=>∃l z,∃ts:List Bool,v=.ref l/\vs=[.bl z]/\SqL X.K H l (ts.map V.bl)/\z∈ts/\Q (.int (ts.idxOf z:Nat)) H):=by
 intro pins s σ H x vs v us Q I rx rv h;obtain⟨l,z,ts,rfl,rfl,hq,hk,q⟩:=h;cases rx;obtain⟨u,rfl,ru⟩:=rv.one;cases ru;obtain⟨its,rv,p,hz⟩:=I.list hq;obtain⟨⟨cls,dd,data,sl⟩,ho,hc,n,hd⟩:=id p.isList;simp only at hc hd;subst hc hd;have hlen:ts.length=its.length:=by have:=rv.length;rwa[Qb]at this
 have hj:ts.idxOf z<ts.length:=List.idxOf_lt_length_iff.mpr hk;have hsz:its.length<=Uk:=by rw[←hlen];rw[Qb]at hz;exact hz
 have hS:(Uk:Int)<2 ^ 63-1:=by decide
 have tx:∀(i:Nat)(hi:i<its.length)(hi':i<ts.length),Wg z its[i]=(ts[i]==z):=λi hi hi'=>by obtain⟨x,e1,e2⟩:=Pw rv (Qe hi);rw[Qe hi']at e1;cases e1;rw[e2];rfl
 refine call_meets PySem.F.slot_list_index ⟨_,ho,rfl⟩ PySem.F.entry_list_index (PySem.F.args_list_index_2 _ _)
  (list_indexAt l its.toArray n dd sl (.bool z) (Wg z) (ts.idxOf z) (by simpa[←hlen]using hj) (by omega) ?_ ?_) ⟨ho,λy hy=>?_,⟨.int _,H,I.tok _,⟨_,rfl⟩,q⟩⟩
 .show Wg z its[ts.idxOf z]=jx
  rw[tx _ (by omega) hj];simpa using List.getElem_idxOf hj
 .intro j hjs hlt
  have hjs:j<its.length:=by simpa using hjs
  show Wg z its[j]=jy;rw[tx j hjs (by omega)];have:=List.not_of_lt_findIdx (p:=(· == z)) (xs:=ts) hlt;simpa using this
 .have hm:y∈its:=by simpa using hy
  obtain⟨i,hi,e⟩:=List.getElem_of_mem hm;obtain⟨x,e1,e2⟩:=Pw rv (Qe hi);rw[e]at e2;subst e2;exact EqAt.bool_bool _ _
def Pv(y:D)(xs:jz):jC:=match y,xs with
 |.list ds,[.bool k]=>(match Xj ds with
  |some ns=>if k∈ns then ju (.int (ns.idxOf k:Nat))else jw
  |none=>jw)
 |_,_=>jw
theorem qL{ds xs:jz}{d:D}(h:Pv (.list ds) xs=ju d):∃k ns,xs=[.bool k]/\Xj ds=ju ns/\k∈ns/\d=.int (ns.idxOf k:Nat):=by
 unfold Pv at h;split at h
 .rename_i ds' k e1
  cases e1;cases z:Xj ds with
  |none=>rw[z]at h;cases h
  |some ns=>
   rw[z]at h;dsimp only at h;split at h
   .rename_i c
    cases h;exact⟨k,ns,rfl,rfl,c,rfl⟩
   .cases h
 .cases h
def Nh(f:M D)(g:M jz):M D:=UZ f λy=>UZ g λxs=>UW (match y with | .list ds=>Pv (.list ds) xs|_=>jw)
section
variable{X:Cx}{B G0:Hp}{e o:Uj}{es:jF}
theorem As{apos cpos:Pos}{f:M D}{g:M jz}(ho:PE X o (tD X.K B G0 f))(ha:PA X (e::es) (tDs X.K B G0 g))
  (hbase:attributeBase o "index" X.env (eval o X.env)=eval o X.env:=by rfl)
  (hfew:((backTo cpos (Um (e::es) X.env)).all (λx=>!x.1)&&(backToKw cpos (keywordEach [] X.env)).all (λx=>x.1.isSome)
   && decide ((e::es).length+([]:List Keyword).length+(if([]:List Keyword).isEmpty then 0 else 1)<30))=jx:=by rfl)
  (hline:(apos.endLine==cpos.line)=jx:=by rfl) (hs:Um (e::es) X.env=(jy,eval e X.env)::Um es X.env:=by rfl) (hplain:(backTo cpos (Um es X.env)).any (·.1)=jy:=by rfl) :
  PE X (.Call (.Attribute o "index" apos) (e::es) [] cpos) (tD X.K B G0 (Nh f g)):=
 U7 (SO F.plainAttrs_list F.slot_list_index F.type_list_index Bo ho ha hbase hfew hline hs hplain) λσ H Q q=>by
  refine tM.one (R:=Rep X.K) q λv H2 G Z y k r a=>?_
  cases y with
  |list ds=>
   obtain⟨l,ws,rfl,h1,r1⟩:=r.lst_inv;refine⟨.inl ⟨rfl,ws,k.gh.seq h1⟩,?_⟩;refine tM.nx (R:=Reps X.K) k a λxs H3 G3 Z3 es k3 s3 r3 a3=>?_
   obtain⟨d,e,a3⟩:=a3.opt;obtain⟨x,ns,rfl,z,hk,rfl⟩:=qL e;obtain⟨u,rfl,ru⟩:=r3.one_inv;have:=Oe r1 z;subst this;exact⟨l,x,ns,rfl,by rw[ru.bl_inv],k3.gh.seq (s3.seq h1),hk,aft.now a3 k3 (.int _)⟩
  |_=>
   unfold UZ at a;cases z:g Z with
   |bad=>rw[z]at a;exact a.elim
   |ok xs Z1=>rw[z]at a;exact a.elim
end
end DL
namespace DL
open PySem PySem.Spec L2
open PyProof.Rows hiding St
section
variable{X:Cx}{B G0:Hp}{KX:XW}{e e':Uj}{es es':jF}{st st':Stmt}{sts xP:List Stmt}{pos p2:Pos}{x:Str}{j:Nat}{gl:List Str}
theorem Cp{g h:SM}(q:st::sts=xP)(h1:PS X st (tS X.K B G0 KX g))(h2:PSs X sts (tS X.K B G0 KX h)):PSs X xP (tS X.K B G0 KX (UM g h)):=q ▸ NP h1 h2
theorem Gu{f:M jz}(q:Stmt.Assign [.Name x p2] e pos=st')(H:FnNm X.env.scope X.N gl)(he:PE X e (tL X.K B G0 f))(hi:X.N[j]?=ju x:=by rfl)(hs:swapsWith e (ju (.Name x p2)) pos.line X.env=pure jy:=by rfl)
  (hf:X.fn x=jx∨X.env.scope.names.lookup x=ju .local:=by first|exact .inl rfl|exact .inr rfl|assumption):PS X st' (tS X.K B G0 KX (KM j f)):=q ▸ Om H he hi hs hf
theorem Co{f:M jz}(q:Expr.List es pos=e')(h:PA X es (tDs X.K B G0 f)):PE X e' (tL X.K B G0 (UZ f λxs=>if xs.length<=1000000 then UL xs else λ_=>.bad)):=q ▸ NN h
theorem Bm{f:M D}{g:M jz}(q:e::es=es')(ha:PE X e (tD X.K B G0 f))(hr:PA X es (tDs X.K B G0 g))(hs:Um (e::es) X.env=(jy,eval e X.env)::Um es X.env:=by rfl):PA X es' (tDs X.K B G0 (UI f g)):=q ▸ Ml ha hr hs
end
end DL
namespace W
open PySem PySem.Spec L2 DL
open PyProof.Rows hiding St
def top(i:Nat):Stmt:=PySem.Challenge.pw_wishdeal_k28_ways_done.main.body.getD i (.Pass ⟨0,0,0,0⟩)
abbrev GG(s:Stmt)(x:Str):Prop:=(KZ s).names.lookup x=ju NameKind.globalImplicit
abbrev VV(s:Stmt)(x:Str):Prop:=L2.Vis (KZ s) x
abbrev LL(s:Stmt)(x:Str):Prop:=L2.Loc (KZ s) x
theorem vk{s:Stmt}{x:Str}(h:(KZ s).names.lookup x=ju .local∨(KZ s).names.lookup x=ju .cell∨(KZ s).names.lookup x=ju .free):VV s x:=h
theorem lk{s:Stmt}{x:Str}(h:(KZ s).names.lookup x=ju .local∨(KZ s).names.lookup x=ju .cell):LL s x:=h
structure Txt(K:Frag)(mg:Str->jE):Prop where
 b_ValueError:mg "ValueError" = jw
 b_all:mg "all" = jw
 b_bool:mg "bool" = jw
 b_enumerate:mg "enumerate" = jw
 b_int:mg "int" = jw
 b_isinstance:mg "isinstance" = jw
 b_len:mg "len" = jw
 b_list:mg "list" = jw
 b_max:mg "max" = jw
 b_range:mg "range" = jw
 b_set:mg "set" = jw
 b_sorted:mg "sorted" = jw
 b_str:mg "str" = jw
 b_sum:mg "sum" = jw
 b_tuple:mg "tuple" = jw
 c_MOST_ASKERS:∃t,mg "MOST_ASKERS" = ju (Value.int 7 t)
 c_MOST_COPIES:∃t,mg "MOST_COPIES" = ju (Value.int 7 t)
 c_MOST_RANKS:∃t,mg "MOST_RANKS" = ju (Value.int 5 t)
 c_MOST_THINGS:∃t,mg "MOST_THINGS" = ju (Value.int 6 t)
 c_ORDERS:∃ad o its n,mg "ORDERS" = ju (.ref ad)/\K.lookup ad=ju o/\o.cls=.type "tuple" /\ o.data=.seq its n/\its.size<=Uk/\Vals ((["firsts", "full", "lasts"]:List Str).map V.str) its.toList
 x_DealError:CK K mg "DealError"
 x_NoAim:CK K mg "NoAim"
 x_NoBook:CK K mg "NoBook"
 x_NoChange:CK K mg "NoChange"
 x_NoDeed:CK K mg "NoDeed"
 x_NoJoin:CK K mg "NoJoin"
 x_NoName:CK K mg "NoName"
 x_NoNumbering:CK K mg "NoNumbering"
 x_NoPlace:CK K mg "NoPlace"
 x_NoRow:CK K mg "NoRow"
 x_NoText:CK K mg "NoText"
 x_NoWay:CK K mg "NoWay"
 x_NoWishes:CK K mg "NoWishes"
 x_TooMany:CK K mg "TooMany"
abbrev Sba:Stmt:=top 54
abbrev N_ba:List Str:=["_law_script", "_law_k"]
theorem Hba:NmF Sba N_ba:=Kw (by decide +kernel)
def Wh:SM:=
 UM (sIf (KL (oIB λi j=>decide (i<j)) 1 (Kv 0))
 (UX (UR 0 (UE 1)))
 (sNx))
 (UX (UL (.int 0)))
def Yi:jz->jC:=U1 N_ba Wh
abbrev Sbn:Stmt:=top 67
abbrev N_bn:List Str:=["_law_way", "_law_dealing", "_law_number", "_law_at", "_law_asker", "_law_what", "_law_place", "_law_some", "_law_things"]
theorem Hbn:NmF Sbn N_bn:=Kw (by decide +kernel)
def Vv:SM:=
 UM (U0 3 (UJ KS (UE 2) (Kv 0)))
 (UM (Zl (UR 0 (UE 3)) (gT 2 (gNC (gN 4) (gNC (gN 5) (gN0)))))
 (UM (U0 6 (UJ KS (UJ Yw (UE 2) (UL (.int 7))) (UL (.int 8))))
 (UM (KM 7 (UZ (UI (Kp (UI (UE 4) (UG))) (UI (Kp (UI (UE 4) (UI (UE 5) (UI (UL (.int 0)) (UG))))) (UI (U2 (UI (UE 4) (UI (UE 5) (UG)))) (UI (Kp (UI (UE 5) (UI (UE 4) (UG)))) (UI (Kp (UI (UL (.bool jx)) (UI (UE 5) (UG)))) (UI (Kp (UI (UE 4) (UI (UL (.bool jy)) (UG)))) (UI (Kp (UI (Zg Sa (UI (UE 4) (UG))) (UI (UE 5) (UG)))) (UG)))))))) λxs=>if xs.length<=1000000 then UL xs else λ_=>.bad))
 (UM (U0 7 (UJ UU (UE 7) (U2 (UI (Kp (UI (Zp (UL (.int 1))) (UI (UE 5) (UG)))) (UI (Kp (UI (Kv 1) (UI (UE 5) (UG)))) (UI (Kp (UI (UE 4) (UI (Zp (UL (.int 1))) (UG)))) (UI (Kp (UI (UE 4) (UI (UL (.int 6)) (UG)))) (UI (Kp (UI (UE 4) (UI (UL .none) (UG)))) (UI (Kp (UI (UE 4) (UI (UR 1 (UE 4)) (UG)))) (UG))))))))))
 (UM (U0 7 (UJ UU (UE 7) (U2 (UI (Kp (UI (UJ KS (UE 6) (Kv 1)) (UI (UE 5) (UG)))) (UI (Kp (UI (UE 4) (UI (UE 6) (UG)))) (UI (UL .none) (UI (UE 4) (UI (UL (.str "")) (UI (Kp (UI (UE 4) (UI (U2 (UI (UE 5) (UG))) (UG)))) (UI (Kp (UI (UJ oIx (U2 (UI (Kp (UI (UE 4) (UG))) (UI (U2 (UI (UE 4) (UG))) (UG)))) (UJ KS (UE 6) (UL (.int 2)))) (UI (UE 5) (UG)))) (UG)))))))))))
 (UM (KM 8 (Zw (KU (UE 7)) 1 (gN 9) (UL jx) (UJ UU (UJ UU (KD (UE 0) (UL jw) (UZ (UE 3) λx=>UW (Zf x))) (U2 (UI (UE 9) (UG)))) (KD (UE 0) (UZ (UJ UU (UE 3) (UL (.int 1))) λx=>UW (Zf x)) (UL jw)))))
 (UM (U0 8 (UJ UU (UE 8) (U2 (UI (UJ UU (KD (UE 0) (UL jw) (UZ (UE 3) λx=>UW (Zf x))) (KD (UE 0) (UZ (UJ UU (UE 3) (UL (.int 1))) λx=>UW (Zf x)) (UL jw))) (UI (UJ UU (KD (UE 0) (UL jw) (UZ (UJ UU (UE 3) (UL (.int 1))) λx=>UW (Zf x))) (KD (UE 0) (UZ (UE 3) λx=>UW (Zf x)) (UL jw))) (UI (YR (UE 0) (UL jw) (UL jw) (UZ (Zp (UL (.int 1))) λx=>UW (Zf x))) (UI (UJ UU (KD (UE 0) (UZ (UE 3) λx=>UW (Zf x)) (UL jw)) (KD (UE 0) (UL jw) (UZ (UE 3) λx=>UW (Zf x)))) (UI (KD (UE 0) (UL jw) (UZ (UJ UU (UE 3) (UL (.int 1))) λx=>UW (Zf x))) (UG)))))))))
 (UM (U0 8 (UJ UU (UE 8) (U2 (UI (UJ UU (UE 0) (U2 (UI (Kp (UI (UJ KS (UE 6) (Kv 1)) (UI (UL .none) (UG)))) (UG)))) (UI (UJ UU (U2 (UI (Kp (UI (UJ KS (UE 6) (Kv 1)) (UI (UE 5) (UG)))) (UG))) (UE 0)) (UI (Zg RV (UI (UE 0) (UG))) (UI (UL .none) (UG))))))))
 (UX (UJ oIx (UJ UU (UE 8) (U2 (UI (U2 (UG)) (UI (UL (.dict [])) (UG))))) (UJ KS (UJ Yw (UE 2) (UL (.int 61))) (UL (.int 31)))))))))))))
def Wq:jz->jC:=U1 N_bn Vv
abbrev Sbf:Stmt:=top 59
abbrev N_bf:List Str:=["_law_wishes_here", "_law_asker"]
theorem Hbf:NmF Sbf N_bf:=Kw (by decide +kernel)
def VD:SM:=
 UX (Zg SK (UI (Zg Tl (UI (UJ oIx (UR 0 (UL (.int 1))) (UE 1)) (UI (U2 (UG)) (UG)))) (UG)))
def ZO:jz->jC:=U1 N_bf VD
abbrev Sbl:Stmt:=top 65
abbrev N_bl:List Str:=["_law_thing"]
theorem Hbl:NmF Sbl N_bl:=Kw (by decide +kernel)
def g_bl:SM:=
 UX (XF (UT (λd=>.bool (Ki d "int")) (UE 0)) (Sb (UT (λd=>.bool (Ki d "bool")) (UE 0))))
def ZV:jz->jC:=U1 N_bl g_bl
abbrev Sbm:Stmt:=top 66
abbrev N_bm:List Str:=["_law_wishes_here", "_law_dealing", "_law_thing", "_law_askers", "_law_step", "_law_asker", "_law_what", "_law_k", "_law_last"]
theorem Hbm:NmF Sbm N_bm:=Kw (by decide +kernel)
def Ng:SM:=
 sIf (mOr (UT isNon (UJ oIx (UR 2 (UJ Ks (UE 7) (UL (.int 1)))) (UL (.int 1)))) (UJ oNe (UR 1 (UJ oIx (UR 2 (UE 7)) (UL (.int 0)))) (UJ oIx (UR 2 (UJ Ks (UE 7) (UL (.int 1)))) (UL (.int 1)))))
 (UX (UL (.bool jy)))
 (sNx)
def Nf:SM:=
 UM (sIf (mOr (Ka (KR (UT (λd=>.bool (Ki d "tuple")) (UE 4)))) (mOr (UJ oNe (Kv 4) (UL (.int 2))) (Ka (KR (UV 1 ZV (UI (UR 4 (UL (.int 0))) (UG)))))))
 (UX (UL (.bool jy)))
 (sNx))
 (UM (Zl (UE 4) (gT 2 (gNC (gN 5) (gNC (gN 6) (gN0)))))
 (UM (sIf (mOr (KL (oIB λi j=>decide (i<j)) 5 (UL (.int 0))) (mOr (KL (oIB λi j=>decide (j<=i)) 5 (Kv 1)) (mOr (YK oIn (UE 5) 3) (KL oEq 6 (UR 1 (UE 5))))))
 (UX (UL (.bool jy)))
 (sNx))
 (UM (sIf (KH (UT (λd=>!isNon d) (UE 6)) (Ka (KR (UV 1 ZV (UI (UE 6) (UG))))))
 (UX (UL (.bool jy)))
 (sNx))
 (UM (sIf (KH (UT (λd=>!isNon d) (UE 6)) (KL Zn 6 (UV 2 ZO (UI (UE 0) (UI (UE 5) (UG))))))
 (UX (UL (.bool jy)))
 (sNx))
 (Za 3 (UE 5))))))
def Vw:SM:=
 UM (sIf (mOr (Ka (KR (UT (λd=>.bool (Ki d "list")) (UE 2)))) (KL Vn 2 (U2 (UG))))
 (UX (UL (.bool jy)))
 (sNx))
 (UM (KM 3 (UZ (UG) λxs=>if xs.length<=1000000 then UL xs else λ_=>.bad))
 (UM (Km (KU (UE 2)) (gN 4) Nf)
 (UM (Km (Tt (UI (UL (.int 1)) (UI (Kv 2) (UG)))) (gN 7) Ng)
 (UM (U0 8 (UJ oIx (UR 2 (Zp (UL (.int 1)))) (UL (.int 1))))
 (UM (sIf (mOr (UT isNon (UE 8)) (KL oEq 8 (UR 1 (UJ oIx (UR 2 (UL (.int 0))) (UL (.int 0))))))
 (UX (UL (.bool jx)))
 (sNx))
 (UX (UT Us (UJ (oIB λi j=>decide (i<j)) (X3 (UE 1) (UI (UE 8) (UG))) (UJ oIx (UR 0 (UL (.int 0))) (UE 8))))))))))
def Xs:jz->jC:=U1 N_bm Vw
abbrev Sbo:Stmt:=top 68
abbrev N_bo:List Str:=["_law_caught", "_law_words", "_law_names"]
theorem Hbo:NmF Sbo N_bo:=Kw (by decide +kernel)
def g_bo:SM:=
 UM (KM 1 (UZ (UI (UZ (UE 0) λd=>UW (Zc "NoWishes" d)) (UI (UZ (UE 0) λd=>UW (Zc "NoAim" d)) (UI (UZ (UE 0) λd=>UW (Zc "NoWay" d)) (UG)))) λxs=>if xs.length<=1000000 then UL xs else λ_=>.bad))
 (UM (KM 1 (Xr (UE 1) (U2 (UI (UZ (UE 0) λd=>UW (Zc "NoNumbering" d)) (UI (UZ (UE 0) λd=>UW (Zc "NoJoin" d)) (UI (UZ (UE 0) λd=>UW (Zc "NoBook" d)) (UG)))))))
 (UM (KM 1 (Xr (UE 1) (U2 (UI (UZ (UE 0) λd=>UW (Zc "NoChange" d)) (UI (UZ (UE 0) λd=>UW (Zc "NoDeed" d)) (UI (UZ (UE 0) λd=>UW (Zc "NoName" d)) (UG)))))))
 (UM (KM 1 (Xr (UE 1) (U2 (UI (UZ (UE 0) λd=>UW (Zc "NoPlace" d)) (UI (UZ (UE 0) λd=>UW (Zc "NoRow" d)) (UI (UZ (UE 0) λd=>UW (Zc "NoText" d)) (UG)))))))
 (UM (Za 1 (UZ (UE 0) λd=>UW (Zc "TooMany" d)))
 (UM (sIf (mOr (UJ oNe (X3 (UE 1) (UI (UL (.bool jx)) (UG))) (UL (.int 1))) (Ka (KR (UZ (UE 0) λd=>UW (Vl d)))))
 (UX (UL (.str "none")))
 (sNx))
 (UM (KM 2 (UZ (UI (UL (.str "wishes")) (UI (UL (.str "aim")) (UI (UL (.str "way")) (UI (UL (.str "numbering")) (UI (UL (.str "join")) (UI (UL (.str "book")) (UI (UL (.str "change")) (UI (UL (.str "deed")) (UI (UL (.str "name")) (UI (UL (.str "place")) (UI (UL (.str "row")) (UI (UL (.str "text")) (UG))))))))))))) λxs=>if xs.length<=1000000 then UL xs else λ_=>.bad))
 (UX (UJ oIx (UJ UU (UE 2) (U2 (UI (UL (.str "many")) (UG)))) (Nh (UE 1) (UI (UL (.bool jx)) (UG)))))))))))
def Wp:jz->jC:=U1 N_bo g_bo
abbrev Sax:Stmt:=top 50
abbrev N_ax:List Str:=["dealing", "way", "told", "asker", "taken"]
theorem Hax:NmF Sax N_ax:=Kw (by decide +kernel)
def Nd:SM:=
 W2 2 (UE 3) (UE 4)
def VL:SM:=
 UM (KM 2 (X4 0))
 (UM (Km (KU (UE 1)) (gT 2 (gNC (gN 3) (gNC (gN 4) (gN0)))) Nd)
 (UX (UE 2)))
def YY:jz->jC:=U1 N_ax VL
abbrev Sav:Stmt:=top 48
abbrev N_av:List Str:=["dealing", "takings", "place", "taken"]
theorem Hav:NmF Sav N_av:=Kw (by decide +kernel)
def Nc:SM:=
 UM (U0 3 (UJ oIx (UR 1 (UJ Ks (UE 2) (UL (.int 1)))) (UL (.int 1))))
 (sIf (mOr (UT isNon (UE 3)) (UJ oNe (UR 0 (UJ oIx (UR 1 (UE 2)) (UL (.int 0)))) (UE 3)))
 (UX (UL (.bool jy)))
 (sNx))
def VN:SM:=
 UM (Km (Tt (UI (UL (.int 1)) (UI (Kv 1) (UG)))) (gN 2) Nc)
 (UX (UL (.bool jx)))
def Xw:jz->jC:=U1 N_av VN
abbrev Saa:Stmt:=top 1
abbrev N_aa:List Str:=["thing"]
theorem Haa:NmF Saa N_aa:=Kw (by decide +kernel)
def V8:SM:=
 UX (XF (UT (λd=>.bool (Ki d "int")) (UE 0)) (Sb (UT (λd=>.bool (Ki d "bool")) (UE 0))))
def YB:jz->jC:=U1 N_aa V8
abbrev Sah:Stmt:=top 28
abbrev N_ah:List Str:=["ranks", "thing", "number", "rank"]
theorem Hah:NmF Sah N_ah:=Kw (by decide +kernel)
def NK:SM:=
 sIf (KL oIn 1 (UE 3))
 (UX (UE 2))
 (sNx)
def V2:SM:=
 UM (Km (Ri (UI (UE 0) (UG))) (gT 2 (gNC (gN 2) (gNC (gN 3) (gN0)))) NK)
 (UX (UL (.int 0)))
def Y0:jz->jC:=U1 N_ah V2
abbrev Sab:Stmt:=top 2
abbrev N_ab:List Str:=["thing", "many"]
theorem Hab:NmF Sab N_ab:=Kw (by decide +kernel)
def Wi:SM:=
 UX (XF (UV 1 YB (UI (UE 0) (UG))) (UT Us (W9 (oIB λi j=>decide (i<=j)) (oIB λi j=>decide (i<j)) (UL (.int 0)) (UE 0) (UE 1))))
def K5:jz->jC:=U1 N_ab Wi
abbrev Sau:Stmt:=top 47
abbrev N_au:List Str:=["lists", "dealing", "thing", "asker", "taken"]
theorem Hau:NmF Sau N_au:=Kw (by decide +kernel)
def VO:SM:=
 UM (sIf (mOr (Ka (KR (UT (λd=>.bool (Ki d "tuple")) (UE 2)))) (UJ oNe (Kv 2) (UL (.int 2))))
 (UX (UL (.bool jy)))
 (sNx))
 (UM (Zl (UE 2) (gT 2 (gNC (gN 3) (gNC (gN 4) (gN0)))))
 (UM (sIf (Ka (KR (UV 2 K5 (UI (UE 3) (UI (Kv 0) (UG))))))
 (UX (UL (.bool jy)))
 (sNx))
 (UM (sIf (UT isNon (UE 4))
 (UX (UT (λd=>.bool (!isNon d)) (UR 1 (UE 3))))
 (sNx))
 (UX (XF (UV 1 YB (UI (UE 4) (UG))) (XF (UT Us (KL oNe 4 (UR 1 (UE 3)))) (UT Us (UJ (oIB λi j=>decide (j<i)) (UV 2 Y0 (UI (UR 0 (UE 3)) (UI (UE 4) (UG)))) (UL (.int 0))))))))))
def Xx:jz->jC:=U1 N_au VO
abbrev Sad:Stmt:=top 24
abbrev N_ad:List Str:=["thing", "things"]
theorem Had:NmF Sad N_ad:=Kw (by decide +kernel)
def V6:SM:=
 UM (sIf (mOr (Ka (KR (UT (λd=>.bool (Ki d "list")) (UE 0)))) (UJ oEq (Kv 0) (UL (.int 0))))
 (UX (UL (.bool jy)))
 (sNx))
 (UX (Zg ZE (UI (UT Ur (Zw (KU (UE 0)) 1 (gN 2) (UL jx) (UV 2 K5 (UI (UE 2) (UI (UE 1) (UG)))))) (UG))))
def XA:jz->jC:=U1 N_ad V6
abbrev Sae:Stmt:=top 25
abbrev N_ae:List Str:=["thing", "things", "wished"]
theorem Hae:NmF Sae N_ae:=Kw (by decide +kernel)
def V5:SM:=
 UM (sIf (mOr (Ka (KR (UT (λd=>.bool (Ki d "list")) (UE 0)))) (UJ (oIB λi j=>decide (j<i)) (Kv 0) (UL (.int 5))))
 (UX (UL (.bool jy)))
 (sNx))
 (UM (sIf (Ka (KR (Zg ZE (UI (UT Ur (Zw (KU (UE 0)) 1 (gN 3) (UL jx) (UV 2 XA (UI (UE 3) (UI (UE 1) (UG)))))) (UG)))))
 (UX (UL (.bool jy)))
 (sNx))
 (UM (KM 2 (Sg (KU (UE 0)) 2 (gN 3) (UL jx) (KU (UE 3)) (gN 4) (UL jx) (UE 4)))
 (UX (UT Us (UJ oEq (Zg X0 (UI (UE 2) (UG))) (Kv 2))))))
def WH:jz->jC:=U1 N_ae V5
abbrev Saf:Stmt:=top 26
abbrev N_af:List Str:=["lists", "things", "asker", "ranks"]
theorem Haf:NmF Saf N_af:=Kw (by decide +kernel)
def NJ:SM:=
 sIf (Ka (KR (UV 2 WH (UI (UE 3) (UI (UE 1) (UG))))))
 (Y4)
 (sNx)
def V4:SM:=
 UM (sIf (mOr (Ka (KR (UT (λd=>.bool (Ki d "list")) (UE 0)))) (Ka (W9 (oIB λi j=>decide (i<=j)) (oIB λi j=>decide (i<=j)) (UL (.int 1)) (Kv 0) (UL (.int 7)))))
 (Y4)
 (sNx))
 (Km (Y9 (UI (UE 0) (UG))) (gT 2 (gNC (gN 2) (gNC (gN 3) (gN0)))) NJ)
def WG:jz->jC:=U1 N_af V4
abbrev Sac:Stmt:=top 23
abbrev N_ac:List Str:=["copies", "number", "many"]
theorem Hac:NmF Sac N_ac:=Kw (by decide +kernel)
def NI:SM:=
 sIf (Ka (KR (UV 2 K5 (UI (UE 2) (UI (UJ UU (UL (.int 7)) (UL (.int 1))) (UG))))))
 (Y4)
 (sNx)
def V7:SM:=
 UM (sIf (mOr (Ka (KR (UT (λd=>.bool (Ki d "list")) (UE 0)))) (Ka (W9 (oIB λi j=>decide (i<=j)) (oIB λi j=>decide (i<=j)) (UL (.int 1)) (Kv 0) (UL (.int 6)))))
 (Y4)
 (sNx))
 (Km (Y9 (UI (UE 0) (UG))) (gT 2 (gNC (gN 1) (gNC (gN 2) (gN0)))) NI)
def WI:jz->jC:=U1 N_ac V7
abbrev Sag:Stmt:=top 27
abbrev N_ag:List Str:=["thing", "copies", "lists"]
theorem Hag:NmF Sag N_ag:=Kw (by decide +kernel)
def V3:SM:=
 UM (sIf (mOr (Ka (KR (UT (λd=>.bool (Ki d "tuple")) (UE 0)))) (UJ oNe (Kv 0) (UL (.int 2))))
 (Y4)
 (sNx))
 (UM (Zl (UE 0) (gT 2 (gNC (gN 1) (gNC (gN 2) (gN0)))))
 (UM (Xa (UV 1 WI (UI (UE 1) (UG))))
 (Xa (UV 2 WG (UI (UE 2) (UI (Kv 1) (UG)))))))
def Yj:jz->jC:=U1 N_ag V3
abbrev Saj:Stmt:=top 31
abbrev N_aj:List Str:=["wishes", "dealing"]
theorem Haj:NmF Saj N_aj:=Kw (by decide +kernel)
def V0:SM:=
 UM (Xa (UV 1 Yj (UI (UE 0) (UG))))
 (UX (UT Ur (Zw (Y9 (UI (UR 0 (UL (.int 0))) (UG))) 2 (gT 2 (gNC (gN 2) (gNC (gN 3) (gN0)))) (UL jx) (UJ Ks (UE 3) (X3 (UE 1) (UI (UE 2) (UG)))))))
def WE:jz->jC:=U1 N_aj V0
abbrev Saw:Stmt:=top 49
abbrev N_aw:List Str:=["wishes", "dealing", "thing", "left", "last"]
theorem Haw:NmF Saw N_aw:=Kw (by decide +kernel)
def VM:SM:=
 UM (U0 3 (UV 2 WE (UI (UE 0) (UI (UE 1) (UG)))))
 (UM (sIf (mOr (Ka (KR (UT (λd=>.bool (Ki d "list")) (UE 2)))) (UJ oEq (Kv 2) (UL (.int 0))))
 (UX (UL (.bool jy)))
 (sNx))
 (UM (sIf (Ka (KR (Zg ZE (UI (UT Ur (Zw (KU (UE 2)) 1 (gN 5) (UL jx) (UV 3 Xx (UI (UR 0 (UL (.int 1))) (UI (UE 1) (UI (UE 5) (UG))))))) (UG)))))
 (UX (UL (.bool jy)))
 (sNx))
 (UM (sIf (mOr (UJ oNe (Sh (KU (UE 2)) 2 (gT 2 (gNC (gN 5) (gNC (gN 6) (gN0)))) (UL jx) (UE 5)) (Kv 2)) (Ka (KR (UV 2 Xw (UI (UE 1) (UI (UE 2) (UG)))))))
 (UX (UL (.bool jy)))
 (sNx))
 (UM (U0 4 (UJ oIx (UR 2 (Zp (UL (.int 1)))) (UL (.int 1))))
 (UX (Yy (UT (λd=>.bool (isNon d)) (UE 4)) (Yy (UT Us (UJ (oIB λi j=>decide (j<i)) (UR 3 (UE 4)) (UL (.int 0)))) (UT Us (UJ oEq (UR 1 (UJ oIx (UR 2 (UL (.int 0))) (UL (.int 0)))) (UE 4))))))))))
def Zd:jz->jC:=U1 N_aw VM
abbrev NH:Stmt:=top 51
abbrev NG:List Str:=["wishes", "dealing", "way"]
theorem Mb:NmF NH NG:=Kw (by decide +kernel)
def Pu:SM:=
 UM (sIf (Ka (KR (UV 3 Zd (UI (UE 0) (UI (UE 1) (UI (UE 2) (UG)))))))
 (Rq "NoWay" (UI (UL (.str "no way for the dealing")) (UG)))
 (sNx))
 (UX (UV 2 YY (UI (UE 1) (UI (UE 2) (UG)))))
def RA:jz->Option XR:=Xn NG Pu
abbrev Sbp:Stmt:=top 69
abbrev N_bp:List Str:=["_law_wishes_here", "_law_dealing", "_law_thing", "_law_kept", "e"]
theorem Hbp:NmF Sbp N_bp:=Kw (by decide +kernel)
def Vu:SM:=
 UM (U0 3 (UL .none))
 (UM (Xm 4 "DealError" (sX (TZ 3 RA (UI (UE 0) (UI (UE 1) (UI (UE 2) (UG))))) λ_ Z=>.nx Z) (U0 3 (UE 4)))
 (UX (UT Us (UJ oEq (UV 1 Wp (UI (UE 3) (UG))) (UL (.str "way"))))))
def YX:jz->jC:=U1 N_bp Vu
abbrev Say:Stmt:=top 51
abbrev N_ay:List Str:=["wishes", "dealing", "way"]
theorem Hay:NmF Say N_ay:=Kw (by decide +kernel)
def VJ:SM:=
 UM (sIf (Ka (KR (UV 3 Zd (UI (UE 0) (UI (UE 1) (UI (UE 2) (UG)))))))
 (Y4)
 (sNx))
 (UX (UV 2 YY (UI (UE 1) (UI (UE 2) (UG)))))
def YA:jz->jC:=U1 N_ay VJ
abbrev Sap:Stmt:=top 41
abbrev N_ap:List Str:=["base", "times", "told", "step"]
theorem Hap:NmF Sap N_ap:=Kw (by decide +kernel)
def NF:SM:=
 YN ZN 2 (UE 0)
def VT:SM:=
 UM (U0 2 (UL (.int 1)))
 (UM (Km (Y2 (UI (UE 1) (UG))) (gN 3) NF)
 (UX (UE 2)))
def Ze:jz->jC:=U1 N_ap VT
abbrev Sar:Stmt:=top 43
abbrev N_ar:List Str:=["turns", "base", "asker", "rank", "behind"]
theorem Har:NmF Sar N_ar:=Kw (by decide +kernel)
def VR:SM:=
 UM (sIf (KL Zn 2 (UE 0))
 (UX (UL (.int 0)))
 (sNx))
 (UM (U0 4 (UJ Ks (UJ Ks (Kv 0) (UL (.int 1))) (Rg (UE 0) (UI (UE 2) (UG)))))
 (UX (UJ U9 (UJ Ks (UE 1) (UE 3)) (UV 2 Ze (UI (UE 1) (UI (UE 4) (UG)))))))
def Wy:jz->jC:=U1 N_ar VR
abbrev Saq:Stmt:=top 42
abbrev N_aq:List Str:=["order", "base", "most", "rank"]
theorem Haq:NmF Saq N_aq:=Kw (by decide +kernel)
def VS:SM:=
 UM (sIf (KL oEq 0 (UL (.str "firsts")))
 (UX (UV 2 Ze (UI (UE 1) (UI (UJ Ks (UE 2) (UE 3)) (UG)))))
 (sNx))
 (UM (sIf (KL oEq 0 (UL (.str "full")))
 (UX (UJ UU (UV 2 Ze (UI (UE 1) (UI (UE 2) (UG)))) (UV 2 Ze (UI (UE 1) (UI (UJ Ks (UE 2) (UE 3)) (UG))))))
 (sNx))
 (UX (UJ Ks (UV 2 Ze (UI (UE 1) (UI (UE 2) (UG)))) (UV 2 Ze (UI (UE 1) (UI (UJ Ks (UE 3) (UL (.int 1))) (UG)))))))
def Wz:jz->jC:=U1 N_aq VS
abbrev Sas:Stmt:=top 44
abbrev N_as:List Str:=["wishes", "aim", "most", "asker", "thing", "order", "old", "turns", "lists", "rank", "base", "kept", "by_counts"]
theorem Has:NmF Sas N_as:=Kw (by decide +kernel)
def VQ:SM:=
 UM (Zl (UE 1) (gT 3 (gNC (gN 5) (gNC (gN 6) (gNC (gN 7) (gN0))))))
 (UM (U0 8 (UR 0 (UL (.int 1))))
 (UM (U0 9 (UV 2 Y0 (UI (UR 8 (UE 3)) (UI (UE 4) (UG)))))
 (UM (U0 10 (UJ UU (Kv 8) (UL (.int 1))))
 (UM (U0 11 (mIf (KH (UT (λd=>!isNon d) (UE 6)) (UJ oEq (UR 6 (UE 3)) (UE 4))) (UL (.int 1)) (UL (.int 0))))
 (UM (U0 12 (UJ UU (UJ U9 (UV 4 Wz (UI (UE 5) (UI (UE 10) (UI (UE 2) (UI (UE 9) (UG)))))) (UE 10)) (UE 11)))
 (UX (UJ UU (UJ U9 (UE 12) (UV 2 Ze (UI (UJ UU (UE 2) (UL (.int 1))) (UI (Kv 7) (UG))))) (UV 4 Wy (UI (UE 7) (UI (UJ UU (UE 2) (UL (.int 1))) (UI (UE 3) (UI (UE 9) (UG)))))))))))))
def Xz:jz->jC:=U1 N_as VQ
abbrev Sai:Stmt:=top 29
abbrev N_ai:List Str:=["wishes"]
theorem Hai:NmF Sai N_ai:=Kw (by decide +kernel)
def V1:SM:=
 UM (Xa (UV 1 Yj (UI (UE 0) (UG))))
 (UX (Zg W1 (UI (UT Ur (Zw (KU (UR 0 (UL (.int 1)))) 1 (gN 1) (UL jx) (Kv 1))) (UG))))
def WF:jz->jC:=U1 N_ai V1
abbrev San:Stmt:=top 38
abbrev N_an:List Str:=["thing", "askers"]
theorem Han:NmF San N_an:=Kw (by decide +kernel)
def VW:SM:=
 UM (sIf (mOr (Ka (KR (UT (λd=>.bool (Ki d "list")) (UE 0)))) (Ka (KR (Zg ZE (UI (UT Ur (Zw (KU (UE 0)) 1 (gN 2) (UL jx) (UV 2 K5 (UI (UE 2) (UI (UE 1) (UG)))))) (UG))))))
 (UX (UL (.bool jy)))
 (sNx))
 (UX (UT Us (UJ oEq (Zg X0 (UI (UE 0) (UG))) (Kv 0))))
def WA:jz->jC:=U1 N_an VW
abbrev Sam:Stmt:=top 37
abbrev N_am:List Str:=["thing", "askers", "things"]
theorem Ham:NmF Sam N_am:=Kw (by decide +kernel)
def VX:SM:=
 UM (sIf (UT isNon (UE 0))
 (UX (UL (.bool jx)))
 (sNx))
 (UM (sIf (mOr (Ka (KR (UT (λd=>.bool (Ki d "list")) (UE 0)))) (UJ oNe (Kv 0) (UE 1)))
 (UX (UL (.bool jy)))
 (sNx))
 (UX (Zg ZE (UI (UT Ur (Zw (KU (UE 0)) 1 (gN 3) (UL jx) (Yy (UT (λd=>.bool (isNon d)) (UE 3)) (UV 2 K5 (UI (UE 3) (UI (UE 2) (UG))))))) (UG)))))
def WB:jz->jC:=U1 N_am VX
abbrev Sak:Stmt:=top 34
abbrev N_ak:List Str:=["thing"]
theorem Hak:NmF Sak N_ak:=Kw (by decide +kernel)
def VZ:SM:=
 UX (XF (UT (λd=>.bool (Ki d "str")) (UE 0)) (UT Us (KL oIn 0 (UL (.tuple ((["firsts", "full", "lasts"]:List Str).map Ut))))))
def WD:jz->jC:=U1 N_ak VZ
abbrev Sal:Stmt:=top 35
abbrev N_al:List Str:=["thing"]
theorem Hal:NmF Sal N_al:=Kw (by decide +kernel)
def VY:SM:=
 sIf (Ka (KR (UV 1 WD (UI (UE 0) (UG)))))
 (Y4)
 (sNx)
def WC:jz->jC:=U1 N_al VY
abbrev Sao:Stmt:=top 39
abbrev N_ao:List Str:=["wishes", "thing", "copies", "lists", "order", "old", "turns"]
theorem Hao:NmF Sao N_ao:=Kw (by decide +kernel)
def VU:SM:=
 UM (Xa (UV 1 Yj (UI (UE 0) (UG))))
 (UM (sIf (mOr (Ka (KR (UT (λd=>.bool (Ki d "tuple")) (UE 1)))) (UJ oNe (Kv 1) (UL (.int 3))))
 (Y4)
 (sNx))
 (UM (Zl (UE 0) (gT 2 (gNC (gN 2) (gNC (gN 3) (gN0)))))
 (UM (Zl (UE 1) (gT 3 (gNC (gN 4) (gNC (gN 5) (gNC (gN 6) (gN0))))))
 (UM (Xa (UV 1 WC (UI (UE 4) (UG))))
 (UM (sIf (Ka (KR (UV 3 WB (UI (UE 5) (UI (Kv 3) (UI (Kv 2) (UG)))))))
 (Y4)
 (sNx))
 (sIf (Ka (KR (UV 2 WA (UI (UE 6) (UI (Kv 3) (UG))))))
 (Y4)
 (sNx)))))))
def YZ:jz->jC:=U1 N_ao VU
abbrev Sat:Stmt:=top 45
abbrev N_at:List Str:=["wishes", "aim", "dealing", "most"]
theorem Hat:NmF Sat N_at:=Kw (by decide +kernel)
def VP:SM:=
 UM (Xa (UV 2 YZ (UI (UE 0) (UI (UE 1) (UG)))))
 (UM (U0 3 (UV 1 WF (UI (UE 0) (UG))))
 (UX (Zg Tj (UI (UT Ur (Zw (Y9 (UI (UE 2) (UG))) 2 (gT 2 (gNC (gN 4) (gNC (gN 5) (gN0)))) (UT (λd=>!isNon d) (UE 5)) (UV 5 Xz (UI (UE 0) (UI (UE 1) (UI (UE 3) (UI (UE 4) (UI (UE 5) (UG))))))))) (UG)))))
def Xy:jz->jC:=U1 N_at VP
abbrev Saz:Stmt:=top 52
abbrev N_az:List Str:=["wishes", "aim", "dealing", "way"]
theorem Haz:NmF Saz N_az:=Kw (by decide +kernel)
def VI:SM:=
 UM (Xa (UV 2 YZ (UI (UE 0) (UI (UE 1) (UG)))))
 (UX (UJ Ks (UV 3 Xy (UI (UE 0) (UI (UE 1) (UI (UV 3 YA (UI (UE 0) (UI (UE 2) (UI (UE 3) (UG))))) (UG))))) (UV 3 Xy (UI (UE 0) (UI (UE 1) (UI (UE 2) (UG)))))))
def Xv:jz->jC:=U1 N_az VI
abbrev Sbd:Stmt:=top 57
abbrev N_bd:List Str:=["_law_wishes_here", "_law_asker", "_law_thing", "_law_k", "_law_row"]
theorem Hbd:NmF Sbd N_bd:=Kw (by decide +kernel)
def NE:SM:=
 sIf (KL oIn 2 (UE 4))
 (UX (UJ UU (UE 3) (UL (.int 1))))
 (sNx)
def VF:SM:=
 UM (Km (Y9 (UI (UJ oIx (UR 0 (UL (.int 1))) (UE 1)) (UG))) (gT 2 (gNC (gN 3) (gNC (gN 4) (gN0)))) NE)
 (UX (UL (.int 0)))
def Ww:jz->jC:=U1 N_bd VF
abbrev Sbe:Stmt:=top 58
abbrev N_be:List Str:=["_law_wishes_here"]
theorem Hbe:NmF Sbe N_be:=Kw (by decide +kernel)
def VE:SM:=
 UX (Zg W1 (UI (UT Ur (Zw (KU (UR 0 (UL (.int 1)))) 1 (gN 1) (UL jx) (Kv 1))) (UG)))
def Wv:jz->jC:=U1 N_be VE
abbrev Sbi:Stmt:=top 62
abbrev N_bi:List Str:=["_law_wishes_here", "_law_aim_here", "_law_asker", "_law_thing", "_law_order", "_law_old", "_law_turns", "_law_base", "_law_ranks", "_law_rank_here", "_law_powers", "_law_k", "_law_worth_here", "_law_pick", "_law_one"]
theorem Hbi:NmF Sbi N_bi:=Kw (by decide +kernel)
def Rz:SM:=
 UM (U0 12 (UJ U9 (UE 12) (UJ UU (UE 8) (UL (.int 1)))))
 (UM (U0 13 (UJ U9 (UE 13) (UJ UU (UE 8) (UL (.int 1)))))
 (sIf (KL oEq 14 (UE 2))
 (U0 13 (UJ Ks (UJ UU (UJ UU (UE 13) (UE 8)) (UL (.int 1))) (UE 9)))
 (sNx)))
def NC:SM:=
 Za 10 (UJ U9 (UR 10 (Zp (UL (.int 1)))) (UE 7))
def Vz:SM:=
 UM (Zl (UE 1) (gT 3 (gNC (gN 4) (gNC (gN 5) (gNC (gN 6) (gN0))))))
 (UM (U0 7 (UJ UU (Zg U5 (UI (UR 0 (UL (.int 1))) (UG))) (UL (.int 1))))
 (UM (U0 8 (UV 1 Wv (UI (UE 0) (UG))))
 (UM (U0 9 (UV 3 Ww (UI (UE 0) (UI (UE 2) (UI (UE 3) (UG))))))
 (UM (KM 10 (UZ (UI (UL (.int 1)) (UG)) λxs=>if xs.length<=1000000 then UL xs else λ_=>.bad))
 (UM (Km (Y2 (UI (UE 8) (UG))) (gN 11) NC)
 (UM (U0 12 (UR 10 (UJ Ks (UE 8) (UE 9))))
 (UM (sIf (KL oEq 4 (UL (.str "full")))
 (U0 12 (UJ UU (UE 12) (UR 10 (UE 8))))
 (sNx))
 (UM (sIf (KL oEq 4 (UL (.str "lasts")))
 (U0 12 (UJ Ks (UR 10 (UE 8)) (UR 10 (UJ Ks (UE 9) (UL (.int 1))))))
 (sNx))
 (UM (U0 12 (UJ U9 (UE 12) (UE 7)))
 (UM (sIf (KH (UT (λd=>!isNon d) (UE 5)) (UJ oEq (UR 5 (UE 2)) (UE 3)))
 (U0 12 (UJ UU (UE 12) (UL (.int 1))))
 (sNx))
 (UM (U0 13 (UL (.int 0)))
 (UM (Km (KU (UE 6)) (gN 14) Rz)
 (UX (UJ UU (UE 12) (UE 13)))))))))))))))
def Ws:jz->jC:=U1 N_bi Vz
abbrev Sbj:Stmt:=top 63
abbrev N_bj:List Str:=["_law_wishes_here", "_law_aim_here", "_law_dealing", "_law_total", "_law_asker", "_law_thing"]
theorem Hbj:NmF Sbj N_bj:=Kw (by decide +kernel)
def NB:SM:=
 sIf (UT (λd=>!isNon d) (UE 5))
 (U0 3 (UJ UU (UE 3) (UV 4 Ws (UI (UE 0) (UI (UE 1) (UI (UE 4) (UI (UE 5) (UG))))))))
 (sNx)
def Vy:SM:=
 UM (U0 3 (UL (.int 0)))
 (UM (Km (Y9 (UI (UE 2) (UG))) (gT 2 (gNC (gN 4) (gNC (gN 5) (gN0)))) NB)
 (UX (UE 3)))
def Xu:jz->jC:=U1 N_bj Vy
abbrev Sbq:Stmt:=top 70
abbrev N_bq:List Str:=["_law_wishes_here", "_law_found", "_law_asker", "_law_thing", "_law_over"]
theorem Hbq:NmF Sbq N_bq:=Kw (by decide +kernel)
def NA:SM:=
 UM (sIf (KH (UT (λd=>!isNon d) (UE 3)) (Ka (KR (UV 1 ZV (UI (UE 3) (UG))))))
 (UX (UL (.bool jy)))
 (sNx))
 (sIf (KH (UT (λd=>!isNon d) (UE 3)) (KL Zn 3 (UV 2 ZO (UI (UE 0) (UI (UE 2) (UG))))))
 (UX (UL (.bool jy)))
 (sNx))
def Vt:SM:=
 UM (sIf (mOr (Ka (KR (UT (λd=>.bool (Ki d "list")) (UE 1)))) (UJ oNe (Kv 1) (Zg U5 (UI (UR 0 (UL (.int 1))) (UG)))))
 (UX (UL (.bool jy)))
 (sNx))
 (UM (Km (Y9 (UI (UE 1) (UG))) (gT 2 (gNC (gN 2) (gNC (gN 3) (gN0)))) NA)
 (UM (KM 4 (Zw (Y2 (UI (Zg U5 (UI (UR 0 (UL (.int 0))) (UG))) (UG))) 1 (gN 5) (UJ (oIB λi j=>decide (j<i)) (X3 (UE 1) (UI (UE 5) (UG))) (UJ oIx (UR 0 (UL (.int 0))) (UE 5))) (UE 5)))
 (UX (UT Us (KL oEq 4 (U2 (UG)))))))
def Wo:jz->jC:=U1 N_bq Vt
abbrev Lv:Stmt:=top 50
abbrev Lu:List Str:=["dealing", "way", "told", "asker", "taken"]
theorem LI:NmF Lv Lu:=Kw (by decide +kernel)
def LH:SM:=
 W2 2 (UE 3) (UE 4)
def SE:SM:=
 UM (KM 2 (X4 0))
 (UM (Km (KU (UE 1)) (gT 2 (gNC (gN 3) (gNC (gN 4) (gN0)))) LH)
 (sNx))
def jq:M jz:=
 Yx 2
def RR:jz->Option jz:=YO Lu SE jq
abbrev Nz:Stmt:=top 51
abbrev Ny:List Str:=["wishes", "dealing", "way"]
theorem Ma:NmF Nz Ny:=Kw (by decide +kernel)
def Ry:SM:=
 UM (sIf (Ka (KR (UV 3 Zd (UI (UE 0) (UI (UE 1) (UI (UE 2) (UG)))))))
 (Y4)
 (sNx))
 (sNx)
def EV:M jz:=
 Th 2 RR (UI (UE 1) (UI (UE 2) (UG)))
def Rx:jz->Option jz:=YO Ny Ry EV
abbrev Sbr:Stmt:=top 71
abbrev N_br:List Str:=["_law_wishes_here", "_law_aim_here", "_law_dealing", "_law_way", "_law_handed", "_law_due", "_law_asker", "_law_what", "_law_found", "_law_more", "_law_gained", "_law_back"]
theorem Hbr:NmF Sbr N_br:=Kw (by decide +kernel)
def Nx:SM:=
 W2 5 (UE 6) (UE 7)
def Vs:SM:=
 UM (KM 4 (UZ (UI (UT Ur (X4 2)) (UI (UT Ur (X4 3)) (UG))) λxs=>if xs.length<=1000000 then UL xs else λ_=>.bad))
 (UM (KM 5 (X4 2))
 (UM (Km (KU (UE 3)) (gT 2 (gNC (gN 6) (gNC (gN 7) (gN0)))) Nx)
 (UM (KM 8 (Th 3 Rx (UI (UE 0) (UI (UR 4 (UL (.int 0))) (UI (UR 4 (UL (.int 1))) (UG))))))
 (UM (sIf (Tg (mOr (YK oNe (UE 8) 5) (mOr (Ka (KR (UV 2 Wo (UI (UE 0) (UI (UE 8) (UG)))))) (KL oNe 4 (U2 (UI (UE 2) (UI (UE 3) (UG))))))))
 (UX (UL (.bool jy)))
 (sNx))
 (UM (U0 9 (UJ Ks (UV 3 Xu (UI (UE 0) (UI (UE 1) (UI (UE 5) (UG))))) (UV 3 Xu (UI (UE 0) (UI (UE 1) (UI (UE 2) (UG)))))))
 (UM (U0 10 (UV 4 Xv (UI (UE 0) (UI (UE 1) (UI (UR 4 (UL (.int 0))) (UI (UR 4 (UL (.int 1))) (UG)))))))
 (UM (sIf (mOr (Ka (KR (UV 1 ZV (UI (UE 10) (UG))))) (mOr (KL oNe 10 (UE 9)) (KL oNe 4 (U2 (UI (UE 2) (UI (UE 3) (UG)))))))
 (UX (UL (.bool jy)))
 (sNx))
 (UM (KM 11 (Zw (KU (YR (UE 3) (UL jw) (UL jw) (UZ (Zp (UL (.int 1))) λx=>UW (Zf x)))) 2 (gT 2 (gNC (gN 12) (gNC (gN 13) (gN0)))) (UL jx) (Kp (UI (UE 12) (UI (UR 2 (UE 12)) (UG))))))
 (UM (sIf (mOr (UJ SG (Ti 3 Zd (UI (UE 0) (WQ 5 (WQ 11 (UG))))) (UL (.bool jx))) (UJ oNe (UV 3 YA (UI (UE 0) (UI (UE 5) (UI (UE 11) (UG))))) (UE 2)))
 (UX (UL (.bool jy)))
 (sNx))
 (UM (Za 8 (UL .none))
 (UX (XF (UT Us (UJ oEq (Ti 4 Xv (UI (UE 0) (UI (UE 1) (WQ 5 (WQ 11 (UG)))))) (UJ Ks (UL (.int 0)) (UE 9)))) (UT Us (YK oEq (UV 3 YA (UI (UE 0) (UI (UE 2) (UI (UE 3) (UG))))) 5))))))))))))))
def Wn:jz->jC:=U1 N_br Vs
abbrev Sbb:Stmt:=top 55
abbrev N_bb:List Str:=["_law_cell", "_law_salt", "_law_sizes", "_law_number", "_law_left", "_law_found", "_law_k", "_law_one"]
theorem Hbb:NmF Sbb N_bb:=Kw (by decide +kernel)
def Pt:SM:=
 sIf (KH (KL (oIB λi j=>decide (j<=i)) 3 (UJ Xq (UL (.int 10)) (UL (.int 18)))) (KL (oIB λi j=>decide (j<i)) 4 (UL (.int 0))))
 (UM (Za 5 (UJ KS (UE 4) (UR 2 (UE 6))))
 (U0 4 (UJ Yw (UE 4) (UR 2 (UE 6)))))
 (UM (U0 7 (UJ KS (UJ UU (UJ UU (UJ UU (UE 3) (UJ U9 (UL (.int 7919)) (UE 1))) (UJ U9 (UJ U9 (UL (.int 101)) (UE 6)) (UE 6))) (UE 6)) (UL (.int 2147483647))))
 (UM (U0 7 (UJ KS (UJ U9 (UE 7) (UL (.int 48271))) (UL (.int 2147483647))))
 (UM (U0 7 (UJ KS (UJ U9 (UJ KS (UJ U9 (UE 7) (UE 7)) (UL (.int 2147483629))) (UL (.int 48271))) (UL (.int 2147483647))))
 (Za 5 (UJ KS (UJ Yw (UE 7) (UL (.int 16))) (UR 2 (UE 6)))))))
def VH:SM:=
 UM (U0 3 (Zg SR (UI (UE 0) (UI (UJ Ks (Zp (UL (.int 1))) (UE 0)) (UG)))))
 (UM (U0 4 (UE 3))
 (UM (KM 5 (UZ (UG) λxs=>if xs.length<=1000000 then UL xs else λ_=>.bad))
 (UM (Km (Y2 (UI (Kv 2) (UG))) (gN 6) Pt)
 (UX (UE 5)))))
def Zq:jz->jC:=U1 N_bb VH
abbrev Sbg:Stmt:=top 60
abbrev N_bg:List Str:=["_law_wishes_here", "_law_cell", "_law_salt", "_law_askers", "_law_digits", "_law_old", "_law_turns", "_law_digit"]
theorem Hbg:NmF Sbg N_bg:=Kw (by decide +kernel)
def Rw:SM:=
 U0 7 (UJ KS (UJ UU (UE 7) (UL (.int 1))) (UE 3))
def Nw:SM:=
 UM (XH (YK oIn (UE 7) 6) Rw 1000)
 (Za 6 (UE 7))
def VC:SM:=
 UM (U0 3 (Zg U5 (UI (UR 0 (UL (.int 1))) (UG))))
 (UM (U0 4 (UV 3 Zq (UI (UE 1) (UI (UE 2) (UI (UJ UU (UJ UU (U2 (UI (UL (.int 3)) (UI (UL (.int 2)) (UI (UJ UU (UE 3) (UL (.int 1))) (UG))))) (UJ U9 (U2 (UI (UJ UU (Zg U5 (UI (UR 0 (UL (.int 0))) (UG))) (UL (.int 1))) (UG))) (UE 3))) (UJ U9 (U2 (UI (UE 3) (UG))) (UE 3))) (UG))))))
 (UM (U0 5 (UL .none))
 (UM (sIf (UJ oEq (UR 4 (UL (.int 1))) (UL (.int 1)))
 (KM 5 (Zw (KU (KD (UE 4) (UZ (UL (.int 3)) λx=>UW (Zf x)) (UZ (UJ UU (UL (.int 3)) (UE 3)) λx=>UW (Zf x)))) 1 (gN 8) (UL jx) (UJ oIx (U2 (UI (UL .none) (UI (UJ Ks (UE 8) (UL (.int 1))) (UG)))) (Zg Sc (UI (UT Us (KL (oIB λi j=>decide (j<i)) 8 (UL (.int 0)))) (UG))))))
 (sNx))
 (UM (KM 6 (UZ (UG) λxs=>if xs.length<=1000000 then UL xs else λ_=>.bad))
 (UM (Km (KU (KD (UE 4) (UZ (UJ UU (UL (.int 3)) (UE 3)) λx=>UW (Zf x)) (UZ (UJ UU (UJ UU (UL (.int 3)) (UE 3)) (UR 4 (UL (.int 2)))) λx=>UW (Zf x)))) (gN 7) Nw)
 (UX (Kp (UI (UJ oIx (U2 (UI (UL (.str "firsts")) (UI (UL (.str "full")) (UI (UL (.str "lasts")) (UG))))) (UR 4 (UL (.int 0)))) (UI (UE 5) (UI (UE 6) (UG)))))))))))
def Wu:jz->jC:=U1 N_bg VC
abbrev Sbk:Stmt:=top 64
abbrev N_bk:List Str:=["_law_wishes_here", "_law_dealing", "_law_cell", "_law_salt", "_law_digits", "_law_way", "_law_asker", "_law_k", "_law_some", "_law_what", "_law_used", "_law_holders"]
theorem Hbk:NmF Sbk N_bk:=Kw (by decide +kernel)
def Nv:SM:=
 UM (U0 8 (UJ UU (UT Ur (Zw (KU (UV 2 ZO (UI (UE 0) (UI (UE 6) (UG))))) 1 (gN 12) (KL oNe 12 (UR 1 (UE 6))) (UE 12))) (U2 (UI (UL .none) (UG)))))
 (UM (U0 9 (UR 8 (UJ KS (UR 4 (UJ UU (UL (.int 1)) (UJ U9 (UL (.int 2)) (UE 7)))) (Kv 8))))
 (UM (Za 5 (Kp (UI (UE 6) (UI (UE 9) (UG)))))
 (UM (KM 10 (Sj (Zw (KU (UE 5)) 1 (gN 12) (UL jx) (UR 12 (UL (.int 0))))))
 (UM (KM 11 (Tx (Y2 (UI (Kv 1) (UG))) 1 (gN 12) (KH (UJ oEq (UR 1 (UE 12)) (UE 9)) (KL Zn 12 (UE 10))) (UE 12)))
 (UM (sIf (mOr (UT isNon (UE 9)) (mOr (KL oEq 11 (U2 (UG))) (UJ (oIB λi j=>decide (i<j)) (UR 4 (UJ UU (UL (.int 2)) (UJ U9 (UL (.int 2)) (UE 7)))) (UL (.int 9)))))
 (UX (UE 5))
 (sNx))
 (U0 6 (UR 11 (UJ KS (UR 4 (UJ UU (UL (.int 2)) (UJ U9 (UL (.int 2)) (UE 7)))) (Kv 11)))))))))
def Vx:SM:=
 UM (U0 4 (UV 3 Zq (UI (UE 2) (UI (UE 3) (UI (UJ UU (U2 (UI (Kv 1) (UG))) (UJ U9 (U2 (UI (UL (.int 61)) (UI (UL (.int 53)) (UG)))) (UL (.int 7)))) (UG))))))
 (UM (KM 5 (UZ (UG) λxs=>if xs.length<=1000000 then UL xs else λ_=>.bad))
 (UM (U0 6 (UR 4 (UL (.int 0))))
 (UM (Km (Y2 (UI (UL (.int 7)) (UG))) (gN 7) Nv)
 (UX (UE 5)))))
def Wr:jz->jC:=U1 N_bk Vx
abbrev Sbh:Stmt:=top 61
abbrev N_bh:List Str:=["_law_wishes_here", "_law_cell", "_law_salt", "_law_left", "_law_digits", "_law_found", "_law_asker", "_law_some", "_law_thing"]
theorem Hbh:NmF Sbh N_bh:=Kw (by decide +kernel)
def Ps:SM:=
 UM (U0 7 (UJ UU (UT Ur (Tx (KU (UV 2 ZO (UI (UE 0) (UI (UE 6) (UG))))) 1 (gN 9) (UJ (oIB λi j=>decide (j<i)) (UR 3 (UE 9)) (UL (.int 0))) (UE 9))) (U2 (UI (UL .none) (UG)))))
 (UM (U0 8 (UR 7 (UJ KS (UR 4 (UE 6)) (Kv 7))))
 (UM (sIf (UT (λd=>!isNon d) (UE 8))
 (W2 3 (UE 8) (UJ Ks (UR 3 (UE 8)) (UL (.int 1))))
 (sNx))
 (Za 5 (UE 8))))
def VA:SM:=
 UM (KM 3 (UZ (UI (UR 0 (UL (.int 0))) (UG)) λxs=>UW (YD xs)))
 (UM (U0 4 (UV 3 Zq (UI (UE 1) (UI (UE 2) (UI (UJ U9 (U2 (UI (UL (.int 61)) (UG))) (Zg U5 (UI (UR 0 (UL (.int 1))) (UG)))) (UG))))))
 (UM (KM 5 (UZ (UG) λxs=>if xs.length<=1000000 then UL xs else λ_=>.bad))
 (UM (Km (Y2 (UI (Zg U5 (UI (UR 0 (UL (.int 1))) (UG))) (UG))) (gN 6) Ps)
 (UX (UE 5)))))
def Wt:jz->jC:=U1 N_bh VA
abbrev Sbc:Stmt:=top 56
abbrev N_bc:List Str:=["_law_script", "_law_at", "_law_most_things", "_law_most_askers", "_law_most_ranks", "_law_digits", "_law_copies", "_law_lists", "_law_asker", "_law_cell", "_law_places", "_law_ranks", "_law_rank_here", "_law_row"]
theorem Hbc:NmF Sbc N_bc:=Kw (by decide +kernel)
def Pr:SM:=
 UM (KM 13 (Zw (Y2 (UI (Kv 6) (UG))) 1 (gN 14) (UJ oEq (UR 10 (UE 14)) (UE 12)) (UE 14)))
 (sIf (KL oNe 13 (U2 (UG)))
 (Za 11 (UJ oIx (U2 (UI (UE 13) (UI (YR (UE 13) (UL jw) (UL jw) (UZ (Zp (UL (.int 1))) λx=>UW (Zf x))) (UG)))) (UR 10 (Zp (UL (.int 1))))))
 (sNx))
def Pq:SM:=
 UM (U0 9 (UV 2 Yi (UI (UE 0) (UI (UJ UU (UJ UU (UE 1) (UL (.int 1))) (UE 8)) (UG)))))
 (UM (U0 10 (UV 3 Zq (UI (UE 9) (UI (UJ UU (UJ UU (UJ U9 (UL (.int 11)) (UE 1)) (UJ U9 (UL (.int 3)) (UE 8))) (UL (.int 1))) (UI (UJ UU (UJ U9 (U2 (UI (UJ UU (UE 4) (UL (.int 1))) (UG))) (UE 2)) (U2 (UI (UL (.int 2)) (UG)))) (UG))))))
 (UM (KM 11 (UZ (UG) λxs=>if xs.length<=1000000 then UL xs else λ_=>.bad))
 (UM (Km (Tt (UI (UL (.int 1)) (UI (UJ UU (UE 4) (UL (.int 1))) (UG)))) (gN 12) Pr)
 (Za 7 (UE 11)))))
def VG:SM:=
 UM (U0 5 (UV 3 Zq (UI (UV 2 Yi (UI (UE 0) (UI (UE 1) (UG)))) (UI (UE 1) (UI (UJ UU (U2 (UI (UE 2) (UI (UE 3) (UG)))) (UJ U9 (U2 (UI (UL (.int 11)) (UG))) (UE 2))) (UG))))))
 (UM (KM 6 (Zw (KU (KD (UE 5) (UZ (UL (.int 2)) λx=>UW (Zf x)) (UZ (UJ UU (UL (.int 3)) (UR 5 (UL (.int 0)))) λx=>UW (Zf x)))) 1 (gN 14) (UL jx) (UJ oIx (U2 (UI (UL (.int 1)) (UI (UL (.int 1)) (UI (UL (.int 2)) (UI (UL (.int 0)) (UI (UL (.int 3)) (UI (UL (.int 7)) (UI (UL (.int 1)) (UI (UL (.int 4)) (UI (UL (.int 5)) (UI (UL (.int 6)) (UI (UL (.int 1)) (UG))))))))))))) (UE 14))))
 (UM (KM 7 (UZ (UG) λxs=>if xs.length<=1000000 then UL xs else λ_=>.bad))
 (UM (Km (Y2 (UI (UJ UU (UL (.int 1)) (UR 5 (UL (.int 1)))) (UG))) (gN 8) Pq)
 (UX (Kp (UI (UE 6) (UI (UE 7) (UG))))))))
def Wx:jz->jC:=U1 N_bc VG
abbrev Sbs:Stmt:=top 72
abbrev N_bs:List Str:=["_law_script", "_law_wishes_here", "_law_dealing", "_law_thing", "_law_k", "_law_cell", "_law_way", "_law_aim_here", "_law_digit"]
theorem Hbs:NmF Sbs N_bs:=Kw (by decide +kernel)
def Nu:SM:=
 sIf (Ka (KR (UV 3 Xs (UI (UE 1) (UI (UE 2) (UI (UE 3) (UG)))))))
 (sIf (Ka (KR (UV 3 YX (UI (UE 1) (UI (UE 2) (UI (UE 3) (UG)))))))
 (UX (UL (.bool jy)))
 (sNx))
 (sIf (Ka (KR (UV 4 Wn (UI (UE 1) (UI (UE 7) (UI (UE 2) (UI (UE 3) (UG))))))))
 (UX (UL (.bool jy)))
 (sNx))
def Nt:SM:=
 UM (U0 6 (UV 4 Wr (UI (UE 1) (UI (UE 2) (UI (UE 5) (UI (UJ UU (UL (.int 20)) (UE 4)) (UG)))))))
 (UM (U0 7 (UV 3 Wu (UI (UE 1) (UI (UE 5) (UI (UJ UU (UL (.int 60)) (UE 4)) (UG))))))
 (UM (U0 8 (UJ UU (UJ oIx (UV 3 Zq (UI (UE 5) (UI (UJ UU (UL (.int 100)) (UE 4)) (UI (U2 (UI (UJ U9 (UJ U9 (UL (.int 61)) (UL (.int 31))) (UL (.int 8))) (UG))) (UG))))) (UL (.int 0))) (UJ U9 (UL (.int 7)) (UE 4))))
 (Km (KU (U2 (UI (UE 6) (UI (UV 3 Wq (UI (UE 6) (UI (UE 2) (UI (UE 8) (UG))))) (UG))))) (gN 3) Nu)))
def Nr:SM:=
 sIf (Ka (KR (UV 3 YX (UI (UE 1) (UI (UE 2) (UI (UE 3) (UG)))))))
 (UX (UL (.bool jy)))
 (sNx)
def Vr:SM:=
 UM (U0 1 (UV 5 Wx (UI (UE 0) (UI (UL (.int 0)) (UI (UL (.int 6)) (UI (UL (.int 7)) (UI (UL (.int 5)) (UG))))))))
 (UM (U0 2 (UV 3 Wt (UI (UE 1) (UI (UV 2 Yi (UI (UE 0) (UI (UL (.int 8)) (UG)))) (UI (UL (.int 8)) (UG))))))
 (UM (Km (KU (U2 (UI (UL .none) (UI (U2 (UG)) (UI (Kp (UG)) (UI (UL (.dict [])) (UI (UL (.str "way")) (UI (UL (.int 0)) (UG))))))))) (gN 3) Nr)
 (UM (Km (Y9 (UI (UJ UU (U2 (UI (UV 2 Yi (UI (UE 0) (UI (UL (.int 0)) (UG)))) (UG))) (KD (UE 0) (UZ (UL (.int 9)) λx=>UW (Zf x)) (UZ (UL (.int 30)) λx=>UW (Zf x)))) (UG))) (gT 2 (gNC (gN 4) (gNC (gN 5) (gN0)))) Nt)
 (UX (UL (.bool jx))))))
def Wm:jz->jC:=U1 N_bs Vr
set_option hygiene false in
local macro_rules | `(tactic| walk_at "g")=>`(tactic| first | exact gA nm rfl | exact Gd rfl)
set_option hygiene false in
local macro_rules | `(tactic| walk_at "v")=>`(tactic| first | exact pq nm _ | exact pvb _)
set_option hygiene false in
local macro_rules | `(tactic| walk_at "b")=>`(tactic| first | ((with_reducible show OpB _ (compareOp CmpOp.Eq) _);first | exact B_eq hu | exact HP hu) | ((with_reducible show OpB _ (compareOp CmpOp.NotEq) _);first | exact B_ne hu) | ((with_reducible show OpB _ (compareOp CmpOp.Lt) _);first | exact B_lt) | ((with_reducible show OpB _ (compareOp CmpOp.LtE) _);first | exact B_le) | ((with_reducible show OpB _ (compareOp CmpOp.Gt) _);first | exact B_gt) | ((with_reducible show OpB _ (compareOp CmpOp.GtE) _);first | exact B_ge) | ((with_reducible show OpB _ (compareOp CmpOp.In) _);first | exact B_in hu) | ((with_reducible show OpB _ (compareOp CmpOp.NotIn) _);first | exact Hw hu) | ((with_reducible show OpB _ (compareOp CmpOp.IsNot) _);first | exact Gz))
set_option hygiene false in
local macro_rules | `(tactic| walk_at "m")=>`(tactic| first | exact FH _ | exact rfl)
set_option hygiene false in
local macro_rules | `(tactic| walk_at "k")=>`(tactic| first | exact Bl | exact BK | exact Ag)
set_option hygiene false in
local macro_rules | `(tactic| walk_at "w")=>`(tactic| first | exact PassesOwn.never)
set_option hygiene false in
local macro_rules | `(tactic| walk_at "x")=>`(tactic| first | assumption | exact C7)
set_option hygiene false in
local macro_rules | `(tactic| walk_at "c")=>`(tactic| first | exact T.c_MOST_ASKERS | exact T.c_MOST_COPIES | exact T.c_MOST_RANKS | exact T.c_MOST_THINGS | exact T.c_ORDERS)
set_option hygiene false in
local macro_rules | `(tactic| walk_at "ck")=>`(tactic| first | exact T.x_DealError | exact T.x_NoAim | exact T.x_NoBook | exact T.x_NoChange | exact T.x_NoDeed | exact T.x_NoJoin | exact T.x_NoName | exact T.x_NoNumbering | exact T.x_NoPlace | exact T.x_NoRow | exact T.x_NoText | exact T.x_NoWay | exact T.x_NoWishes | exact T.x_TooMany)
set_option hygiene false in
local macro_rules | `(tactic| walk_at "e")=>`(tactic| first | ((with_reducible show PE _ (Expr.Call (Expr.Name _ _) [Expr.SetComp _ _ _ _] _ _) _);first | refine Gv nm (by walk_at "g") T.b_len rfl ?_ ?_ (by decide +kernel)) | ((with_reducible show PE _ (Expr.Name _ _) _);first | exact OQ (pq nm _) | exact OQ (pvb _) | exact Hy (by walk_at "g") (by walk_at "c") | exact Hv (by walk_at "g") (by walk_at "c")) | ((with_reducible show PE _ (Expr.Constant _ _ _) _);first | exact Fu | exact Dg | exact FZ | exact Dh) | ((with_reducible show PE _ (Expr.Subscript _ _ _) _);first | refine Dv (by walk_at "v") ?_ (fun _ _=>rfl) | refine qr ?_ ?_ ?_ | refine F5 ?_ ?_ ?_ ?_ | refine FP ?_ ?_ (fun _ _=>rfl)) | ((with_reducible show PE _ (Expr.BinOp _ Operator.Add _ _) _);first | refine To LM ?_ ?_) | ((with_reducible show PE _ (Expr.BinOp _ Operator.Sub _ _) _);first | refine To HJ ?_ ?_) | ((with_reducible show PE _ (Expr.BinOp _ Operator.Mult _ _) _);first | refine To HI ?_ ?_) | ((with_reducible show PE _ (Expr.BinOp _ Operator.Mod _ _) _);first | refine To HH ?_ ?_) | ((with_reducible show PE _ (Expr.BinOp _ Operator.FloorDiv _ _) _);first | refine To HG ?_ ?_) | ((with_reducible show PE _ (Expr.BinOp _ Operator.Pow _ _) _);first | refine To HF ?_ ?_) | ((with_reducible show PE _ (Expr.Call (Expr.Name "len" _) _ _ _) _);first | refine CQ (by walk_at "g") T.b_len (by walk_at "v") | refine Vi Oj (by walk_at "g") T.b_len boot_len ?_ | refine qp rfl (by walk_at "g") T.b_len (by walk_at "g") T.b_set ?_) | ((with_reducible show PE _ (Expr.Call (Expr.Name "max" _) _ _ _) _);first | refine Vi (Gs rfl) (by walk_at "g") T.b_max boot_max ?_ | refine Vi (GO rfl) (by walk_at "g") T.b_max boot_max ?_) | ((with_reducible show PE _ (Expr.Call (Expr.Name "sorted" _) _ _ _) _);first | refine Vi GI (by walk_at "g") T.b_sorted PyProof.Rows.boot_sorted ?_) | ((with_reducible show PE _ (Expr.Call (Expr.Name "sum" _) _ _ _) _);first | refine Vi (GJ rfl) (by walk_at "g") T.b_sum PyProof.Rows.boot_sum ?_ | refine Vi (GN rfl) (by walk_at "g") T.b_sum PyProof.Rows.boot_sum ?_) | ((with_reducible show PE _ (Expr.Call (Expr.Name "all" _) _ _ _) _);first | refine Vi (HA rfl) (by walk_at "g") T.b_all PyProof.Rows.boot_all ?_) | ((with_reducible show PE _ (Expr.Call (Expr.Name "int" _) _ _ _) _);first | refine P8 HU (by walk_at "g") T.b_int PyProof.Rows.boot_int ?_) | ((with_reducible show PE _ (Expr.Call (Expr.Name "str" _) _ _ _) _);first | refine P8 Gr (by walk_at "g") T.b_str PyProof.Rows.boot_str ?_) | ((with_reducible show PE _ (Expr.Call (Expr.Name "tuple" _) _ _ _) _);first | refine P8 HR (by walk_at "g") T.b_tuple qN ?_) | ((with_reducible show PE _ (Expr.Call (Expr.Name "isinstance" _) [_,Expr.Name "int" _] _ _) _);first | refine SF (c := "int") (by decide) (by walk_at "g") T.b_isinstance (by walk_at "g") T.b_int (by decide +kernel) ?_ (by decide) (by decide)) | ((with_reducible show PE _ (Expr.Call (Expr.Name "isinstance" _) [_,Expr.Name "list" _] _ _) _);first | refine SF (c := "list") (by decide) (by walk_at "g") T.b_isinstance (by walk_at "g") T.b_list (by decide +kernel) ?_ (by decide) (by decide)) | ((with_reducible show PE _ (Expr.Call (Expr.Name "isinstance" _) [_,Expr.Name "tuple" _] _ _) _);first | refine SF (c := "tuple") (by decide) (by walk_at "g") T.b_isinstance (by walk_at "g") T.b_tuple (by decide +kernel) ?_ (by decide) (by decide)) | ((with_reducible show PE _ (Expr.Call (Expr.Name "isinstance" _) [_,Expr.Name "bool" _] _ _) _);first | refine SF (c := "bool") (by decide) (by walk_at "g") T.b_isinstance (by walk_at "g") T.b_bool (by decide +kernel) ?_ (by decide) (by decide)) | ((with_reducible show PE _ (Expr.Call (Expr.Name "isinstance" _) [_,Expr.Name "str" _] _ _) _);first | refine SF (c := "str") (by decide) (by walk_at "g") T.b_isinstance (by walk_at "g") T.b_str (by decide +kernel) ?_ (by decide) (by decide)) | ((with_reducible show PE _ (Expr.Call (Expr.Name "isinstance" _) _ _ _) _);first | refine EC (by walk_at "g") T.b_isinstance (by walk_at "g") T.b_ValueError ?_ | refine EE (by walk_at "ck") (by walk_at "g") T.b_isinstance (by walk_at "g") ?_) | ((with_reducible show PE _ (Expr.Call (Expr.Name _ _) _ _ _) _);first | refine pdf (by assumption) hr (by walk_at "g") ?_ | refine DP (by assumption) (hr.mono (by decide)) (by walk_at "g") ?_) | ((with_reducible show PE _ (Expr.Call _ _ _ _) _);first | refine B6 hu ?_ ?_ | refine Al ?_ ?_ | refine As ?_ ?_) | refine Dw ?_ | refine Dx ?_ | ((with_reducible show PE _ (Expr.Compare _ _ _ _) _);first | refine Dz ?_ | refine CU ?_ | refine F6 (by walk_at "b") (by walk_at "v") ?_ (by walk_at "m") | refine EH (by walk_at "b") ?_ (by walk_at "v") (by walk_at "m") | refine E9 (by walk_at "b") ?_ ?_ (by walk_at "m") | refine BW (by walk_at "b") (by walk_at "b") ?_ ?_ ?_) | refine Eb ?_ | refine Eh ?_ | refine DB ?_ | refine DD ?_ ?_ | refine FQ ?_ ?_ | refine DC ?_ | refine BV ?_ ?_ ?_ | exact F9)
set_option hygiene false in
local macro_rules | `(tactic| walk_at "t")=>`(tactic| first | ((with_reducible show PT _ _ (tBo _ _ _ (Tg _)));refine DG fun B' G'=>?_) | ((with_reducible show PT _ (Expr.Compare _ _ _ _) _);first | refine DA ?_ | refine CV ?_ | refine F7 (by walk_at "b") (by walk_at "v") ?_ (by walk_at "m") | refine EI (by walk_at "b") ?_ (by walk_at "v") (by walk_at "m") | refine Da (by walk_at "b") ?_ ?_ (by walk_at "m") | refine BX (by walk_at "b") (by walk_at "b") ?_ ?_ ?_) | ((with_reducible show PT _ (Expr.BoolOp _ _ _) _);refine PW.pt ?_) | refine E5 ?_ | refine DE ?_)
set_option hygiene false in
local macro_rules | `(tactic| walk_at "l")=>`(tactic| first | refine HM nm (by walk_at "k") rfl ?_ ?_ (by decide +kernel) | refine Ad (by walk_at "g") T.b_list (by walk_at "v") | refine Bf (by walk_at "g") T.b_list ?_ | refine NN ?_ | refine Br (by assumption) hr (by walk_at "g") ?_ | refine Er ?_ ?_ | refine DF fun B' G'=>?_ | refine Es (by walk_at "v"))
set_option hygiene false in
local macro_rules | `(tactic| walk_at "i")=>`(tactic| first | refine BU (by walk_at "g") T.b_range ?_ | refine BS (by walk_at "g") T.b_range ?_ | refine Ei (by walk_at "g") T.b_enumerate ?_ | refine Bc (by walk_at "g") T.b_enumerate ?_ | refine HZ ?_)
set_option hygiene false in
local macro_rules | `(tactic| walk_at "s")=>`(tactic| first | ((with_reducible show PS _ (Stmt.Assign [Expr.Name _ _] _ _) _);first | refine aSet nm ?_ | refine HL nm (by walk_at "k") rfl ?_ ?_ (by decide +kernel) | refine Om nm ?_) | ((with_reducible show PS _ (Stmt.Assign _ _ _) _);first | refine Gk ?_ ?_ | refine F8 ?_ (by walk_at "v") ?_) | refine HE ?_ ?_ ?_ | refine Go ?_ | refine Gh (by walk_at "w") rfl ?_ ?_ ?_ | ((with_reducible show PS _ (Stmt.Expr _ _) _);first | refine Gi (by walk_at "v") ?_ | refine DJ ?_ | refine El ?_) | refine aAug nm EM ?_ | exact CO | refine DM (by assumption) hr rfl (by walk_at "x") (by walk_at "g") ?_ | refine DW _ (by walk_at "w") ?_ ?_ | refine GF (by walk_at "ck") (by walk_at "g") (nq nm) rfl rfl (fun KX' W pn hw=>?_) (fun a=>?_))
set_option hygiene false in
local macro_rules | `(tactic| walk_at "d")=>`(tactic| (have hu:=hr.units;have hgd:=hr.gd;repeat' (first | ((with_reducible show PSs _ (Stmt.Assign _ (Expr.List (Expr.Constant _ _ _ :: Expr.Constant _ _ _ :: Expr.Constant _ _ _ :: Expr.Constant _ _ _ :: Expr.Constant _ _ _ :: Expr.Constant _ _ _ :: Expr.Constant _ _ _ :: Expr.Constant _ _ _ :: _) _) _ :: _) _);generalize hS:(_ :: _:List Stmt)=sts;refine Cp hS ?_ ?_) | ((with_reducible show PS _ (Stmt.Assign _ (Expr.List (Expr.Constant _ _ _ :: Expr.Constant _ _ _ :: Expr.Constant _ _ _ :: Expr.Constant _ _ _ :: Expr.Constant _ _ _ :: Expr.Constant _ _ _ :: Expr.Constant _ _ _ :: Expr.Constant _ _ _ :: _) _) _) _);generalize hS:Stmt.Assign _ _ _=st;refine Gu hS nm ?_) | ((with_reducible show PE _ (Expr.List (Expr.Constant _ _ _ :: Expr.Constant _ _ _ :: Expr.Constant _ _ _ :: Expr.Constant _ _ _ :: Expr.Constant _ _ _ :: Expr.Constant _ _ _ :: Expr.Constant _ _ _ :: Expr.Constant _ _ _ :: _) _) (tL _ _ _ _));generalize hS:Expr.List _ _=e;refine Co hS ?_) | ((with_reducible show PA _ (Expr.Constant _ _ _ :: Expr.Constant _ _ _ :: Expr.Constant _ _ _ :: Expr.Constant _ _ _ :: _) (tDs _ _ _ _));generalize hS:(_ :: _:List Expr)=es;refine Bm hS ?_ ?_) | ((with_reducible show PE _ _ (tD _ _ _ _));first | walk_at "e") | ((with_reducible show PA _ _ (tDs _ _ _ _));first | refine Ml ?_ ?_ | exact Dy) | ((with_reducible show PSs _ _ (tS _ _ _ _ _));first | refine NP ?_ ?_ | refine Gp ?_ | exact Gq | exact sD_nevers) | ((with_reducible show PS _ _ _);walk_at "s") | ((with_reducible show PT _ _ _);walk_at "t") | ((with_reducible show PW _ _ _);first | refine E6 ?_ ?_ | refine FR ?_ ?_ | refine CW ?_ | refine E7 ?_) | ((with_reducible show PE _ _ (tL _ _ _ _));walk_at "l") | ((with_reducible show PI _ _ _ _);walk_at "i") | ((with_reducible show PG _ _ _);first | exact HN nm | exact Gw | refine Gm rfl ?_) | ((with_reducible show PGs _ _ _);first | exact Gn | refine Ek ?_ ?_) | ((with_reducible show PO _ _ _);first | exact CT | refine CS ?_) | ((with_reducible show RU _ _ _ _ _ _ _ _ _);refine fun cl C s0 H0 ex=>⟨fun B' G'=>?_,fun B' G'=>?_,fun B' G'=>?_⟩) | ((with_reducible show Yh _ _ _ _ _ _ _ _ _);refine fun cl C s0 H0 ex=>⟨fun B' G'=>?_,fun B' G'=>?_,?_⟩) | ((with_reducible show ZU _ _ _);first | exact Ed | refine Ec ?_) | ((with_reducible show T7 _ _ _ _ _ _);first | refine BM rfl rfl rfl fun B' G'=>?_ | refine BL rfl rfl rfl rfl (fun _=>rfl) (fun B' G'=>?_) (fun B' G'=>?_) (fun B' G'=>?_) ?_) | ((with_reducible show PE _ _ (tX _ _ _ _ _));refine DK (by assumption) hr (by walk_at "x") (by walk_at "g") ?_) | ((with_reducible show PA _ _ (Yu _ _ _ _));first | exact EG | refine Bx (by walk_at "v") ?_ | refine DQ ?_ ?_) | ((with_reducible show PSs _ _ (tSO _ _ _ _ _));first | refine Gy ?_ | refine Ev ?_ ?_))))
section
variable{P:Ug}{w:World}{K:Frag}{mg:Str->jE}{base:Heap}{f:Uh}{fd:Ui}(T:Txt K mg)
include T
theorem Kba(F:Fun K "_law_cell_at" "_law_cell_at" Sba f fd):FnOk P w K mg base CX0 1 f fd ["_law_script", "_law_k"] (spD K 2 Yi):=
 okD (k:=0) (g:=Wh) F (fq Hba 2) jv λcdv A outer s H E B G0 hr=>
 have nm:=Hba
 by walk_at "d"
theorem Kbn(F:Fun K "_law_bent" "_law_bent" Sbn f fd):FnOk P w K mg base CX0 1 f fd ["_law_way", "_law_dealing", "_law_number"] (spD K 3 Wq):=
 okD (k:=0) (g:=Vv) F (fq Hbn 3) jv λcdv A outer s H E B G0 hr=>
 have nm:=Hbn
 by walk_at "d"
theorem Kbf(F:Fun K "_law_wished" "_law_wished" Sbf f fd):FnOk P w K mg base CX0 1 f fd ["_law_wishes_here", "_law_asker"] (spD K 2 ZO):=
 okD (k:=0) (g:=VD) F (fq Hbf 2) jv λcdv A outer s H E B G0 hr=>
 have nm:=Hbf
 by walk_at "d"
theorem Kbl(F:Fun K "_law_whole_number" "_law_whole_number" Sbl f fd):FnOk P w K mg base CX0 1 f fd ["_law_thing"] (spD K 1 ZV):=
 okD (k:=0) (g:=g_bl) F (fq Hbl 1) jv λcdv A outer s H E B G0 hr=>
 have nm:=Hbl
 by walk_at "d"
theorem Kbm(jY:Def P w K mg base "_law_wished" 1 2 ZO)(ku:Def P w K mg base "_law_whole_number" 1 1 ZV)(F:Fun K "_law_is_way" "_law_is_way" Sbm f fd):FnOk P w K mg base CX0 2 f fd ["_law_wishes_here", "_law_dealing", "_law_thing"] (spD K 3 Xs):=
 okD (k:=1) (g:=Vw) F (fq Hbm 3) jv λcdv A outer s H E B G0 hr=>
 have nm:=Hbm
 by walk_at "d"
theorem Kbo(F:Fun K "_law_word" "_law_word" Sbo f fd):FnOk P w K mg base CX0 1 f fd ["_law_caught"] (spD K 1 Wp):=
 okD (k:=0) (g:=g_bo) F (fq Hbo 1) jv λcdv A outer s H E B G0 hr=>
 have nm:=Hbo
 by walk_at "d"
theorem Kax(F:Fun K "behind_way" "behind_way" Sax f fd):FnOk P w K mg base CX0 1 f fd ["dealing", "way"] (spD K 2 YY):=
 okD (k:=0) (g:=VL) F (fq Hax 2) jv λcdv A outer s H E B G0 hr=>
 have nm:=Hax
 by walk_at "d"
theorem Kav(F:Fun K "is_linked" "is_linked" Sav f fd):FnOk P w K mg base CX0 1 f fd ["dealing", "takings"] (spD K 2 Xw):=
 okD (k:=0) (g:=VN) F (fq Hav 2) jv λcdv A outer s H E B G0 hr=>
 have nm:=Hav
 by walk_at "d"
theorem Kaa(F:Fun K "is_whole" "is_whole" Saa f fd):FnOk P w K mg base CX0 1 f fd ["thing"] (spD K 1 YB):=
 okD (k:=0) (g:=V8) F (fq Haa 1) jv λcdv A outer s H E B G0 hr=>
 have nm:=Haa
 by walk_at "d"
theorem Kah(F:Fun K "rank_in" "rank_in" Sah f fd):FnOk P w K mg base CX0 1 f fd ["ranks", "thing"] (spD K 2 Y0):=
 okD (k:=0) (g:=V2) F (fq Hah 2) jv λcdv A outer s H E B G0 hr=>
 have nm:=Hah
 by walk_at "d"
theorem Kab(kY:Def P w K mg base "is_whole" 1 1 YB)(F:Fun K "is_number_below" "is_number_below" Sab f fd):FnOk P w K mg base CX0 2 f fd ["thing", "many"] (spD K 2 K5):=
 okD (k:=1) (g:=Wi) F (fq Hab 2) jv λcdv A outer s H E B G0 hr=>
 have nm:=Hab
 by walk_at "d"
theorem Kau(kY:Def P w K mg base "is_whole" 1 1 YB)(kX:Def P w K mg base "rank_in" 1 2 Y0)(jS:Def P w K mg base "is_number_below" 2 2 K5)(F:Fun K "is_taking" "is_taking" Sau f fd):FnOk P w K mg base CX0 3 f fd ["lists", "dealing", "thing"] (spD K 3 Xx):=
 okD (k:=2) (g:=VO) F (fq Hau 3) jv λcdv A outer s H E B G0 hr=>
 have nm:=Hau
 by walk_at "d"
theorem Kad(jS:Def P w K mg base "is_number_below" 2 2 K5)(F:Fun K "is_rank" "is_rank" Sad f fd):FnOk P w K mg base CX0 3 f fd ["thing", "things"] (spD K 2 XA):=
 okD (k:=2) (g:=V6) F (fq Had 2) jv λcdv A outer s H E B G0 hr=>
 have nm:=Had
 by walk_at "d"
theorem Kae(vW:Def P w K mg base "is_rank" 3 2 XA)(F:Fun K "is_asker_list" "is_asker_list" Sae f fd):FnOk P w K mg base CX0 4 f fd ["thing", "things"] (spD K 2 WH):=
 okD (k:=3) (g:=V5) F (fq Hae 2) jv λcdv A outer s H E B G0 hr=>
 have nm:=Hae
 by walk_at "d"
theorem Kaf(vV:Def P w K mg base "is_asker_list" 4 2 WH)(F:Fun K "look_at_lists" "look_at_lists" Saf f fd):FnOk P w K mg base CX0 5 f fd ["lists", "things"] (spD K 2 WG):=
 okD (k:=4) (g:=V4) F (fq Haf 2) jv λcdv A outer s H E B G0 hr=>
 have nm:=Haf
 by walk_at "d"
theorem Kac(jS:Def P w K mg base "is_number_below" 2 2 K5)(F:Fun K "look_at_copies" "look_at_copies" Sac f fd):FnOk P w K mg base CX0 3 f fd ["copies"] (spD K 1 WI):=
 okD (k:=2) (g:=V7) F (fq Hac 1) jv λcdv A outer s H E B G0 hr=>
 have nm:=Hac
 by walk_at "d"
theorem Kag(vU:Def P w K mg base "look_at_lists" 5 2 WG)(vX:Def P w K mg base "look_at_copies" 3 1 WI)(F:Fun K "look_at_wishes" "look_at_wishes" Sag f fd):FnOk P w K mg base CX0 6 f fd ["thing"] (spD K 1 Yj):=
 okD (k:=5) (g:=V3) F (fq Hag 1) jv λcdv A outer s H E B G0 hr=>
 have nm:=Hag
 by walk_at "d"
theorem Kaj(kz:Def P w K mg base "look_at_wishes" 6 1 Yj)(F:Fun K "copies_left" "copies_left" Saj f fd):FnOk P w K mg base CX0 7 f fd ["wishes", "dealing"] (spD K 2 WE):=
 okD (k:=6) (g:=V0) F (fq Haj 2) jv λcdv A outer s H E B G0 hr=>
 have nm:=Haj
 by walk_at "d"
theorem Kaw(vI:Def P w K mg base "is_linked" 1 2 Xw)(vJ:Def P w K mg base "is_taking" 3 3 Xx)(vS:Def P w K mg base "copies_left" 7 2 WE)(F:Fun K "is_way" "is_way" Saw f fd):FnOk P w K mg base CX0 8 f fd ["wishes", "dealing", "thing"] (spD K 3 Zd):=
 okD (k:=7) (g:=VM) F (fq Haw 3) jv λcdv A outer s H E B G0 hr=>
 have nm:=Haw
 by walk_at "d"
theorem Cn(kU:Def P w K mg base "behind_way" 1 2 YY)(jZ:Def P w K mg base "is_way" 8 3 Zd)(ka:MkX P w K mg base "NoWay" 1)(F:Fun K "done" "done" NH f fd):FnOk P w K mg base (CX1 P w) 9 f fd ["wishes", "dealing", "way"] (spX K 3 RA):=
 okX (k:=8) (g:=Pu) F (fq Mb 3) jv λcdv A outer s H E B G0 hr=>
 have nm:=Mb
 by walk_at "d"
theorem Kbp(vw:Def P w K mg base "_law_word" 1 1 Wp)(kg:Te P w K mg base "done" 9 3 RA)(F:Fun K "_law_refused" "_law_refused" Sbp f fd):FnOk P w K mg base CX0 10 f fd ["_law_wishes_here", "_law_dealing", "_law_thing"] (spD K 3 YX):=
 okD (k:=9) (g:=Vu) F (fq Hbp 3) jv λcdv A outer s H E B G0 hr=>
 have nm:=Hbp
 by walk_at "d"
theorem Kay(kU:Def P w K mg base "behind_way" 1 2 YY)(jZ:Def P w K mg base "is_way" 8 3 Zd)(F:Fun K "done" "done" Say f fd):FnOk P w K mg base CX0 9 f fd ["wishes", "dealing", "way"] (spD K 3 YA):=
 okD (k:=8) (g:=VJ) F (fq Hay 3) jv λcdv A outer s H E B G0 hr=>
 have nm:=Hay
 by walk_at "d"
theorem Kap(F:Fun K "power" "power" Sap f fd):FnOk P w K mg base CX0 1 f fd ["base", "times"] (spD K 2 Ze):=
 okD (k:=0) (g:=VT) F (fq Hap 2) jv λcdv A outer s H E B G0 hr=>
 have nm:=Hap
 by walk_at "d"
theorem Kar(ky:Def P w K mg base "power" 1 2 Ze)(F:Fun K "worth_by_turns" "worth_by_turns" Sar f fd):FnOk P w K mg base CX0 2 f fd ["turns", "base", "asker", "rank"] (spD K 4 Wy):=
 okD (k:=1) (g:=VR) F (fq Har 4) jv λcdv A outer s H E B G0 hr=>
 have nm:=Har
 by walk_at "d"
theorem Kaq(ky:Def P w K mg base "power" 1 2 Ze)(F:Fun K "worth_by_order" "worth_by_order" Saq f fd):FnOk P w K mg base CX0 2 f fd ["order", "base", "most", "rank"] (spD K 4 Wz):=
 okD (k:=1) (g:=VS) F (fq Haq 4) jv λcdv A outer s H E B G0 hr=>
 have nm:=Haq
 by walk_at "d"
theorem Kas(ky:Def P w K mg base "power" 1 2 Ze)(vM:Def P w K mg base "worth_by_turns" 2 4 Wy)(vN:Def P w K mg base "worth_by_order" 2 4 Wz)(kX:Def P w K mg base "rank_in" 1 2 Y0)(F:Fun K "worth_by_aim" "worth_by_aim" Sas f fd):FnOk P w K mg base CX0 3 f fd ["wishes", "aim", "most", "asker", "thing"] (spD K 5 Xz):=
 okD (k:=2) (g:=VQ) F (fq Has 5) jv λcdv A outer s H E B G0 hr=>
 have nm:=Has
 by walk_at "d"
theorem Kai(kz:Def P w K mg base "look_at_wishes" 6 1 Yj)(F:Fun K "longest" "longest" Sai f fd):FnOk P w K mg base CX0 7 f fd ["wishes"] (spD K 1 WF):=
 okD (k:=6) (g:=V1) F (fq Hai 1) jv λcdv A outer s H E B G0 hr=>
 have nm:=Hai
 by walk_at "d"
theorem Kan(jS:Def P w K mg base "is_number_below" 2 2 K5)(F:Fun K "is_turns" "is_turns" San f fd):FnOk P w K mg base CX0 3 f fd ["thing", "askers"] (spD K 2 WA):=
 okD (k:=2) (g:=VW) F (fq Han 2) jv λcdv A outer s H E B G0 hr=>
 have nm:=Han
 by walk_at "d"
theorem Kam(jS:Def P w K mg base "is_number_below" 2 2 K5)(F:Fun K "is_old" "is_old" Sam f fd):FnOk P w K mg base CX0 3 f fd ["thing", "askers", "things"] (spD K 3 WB):=
 okD (k:=2) (g:=VX) F (fq Ham 3) jv λcdv A outer s H E B G0 hr=>
 have nm:=Ham
 by walk_at "d"
theorem Kak(F:Fun K "is_order" "is_order" Sak f fd):FnOk P w K mg base CX0 1 f fd ["thing"] (spD K 1 WD):=
 okD (k:=0) (g:=VZ) F (fq Hak 1) jv λcdv A outer s H E B G0 hr=>
 have nm:=Hak
 by walk_at "d"
theorem Kal(vR:Def P w K mg base "is_order" 1 1 WD)(F:Fun K "look_at_order" "look_at_order" Sal f fd):FnOk P w K mg base CX0 2 f fd ["thing"] (spD K 1 WC):=
 okD (k:=1) (g:=VY) F (fq Hal 1) jv λcdv A outer s H E B G0 hr=>
 have nm:=Hal
 by walk_at "d"
theorem Kao(vO:Def P w K mg base "is_turns" 3 2 WA)(vP:Def P w K mg base "is_old" 3 3 WB)(vQ:Def P w K mg base "look_at_order" 2 1 WC)(kz:Def P w K mg base "look_at_wishes" 6 1 Yj)(F:Fun K "look_at_aim" "look_at_aim" Sao f fd):FnOk P w K mg base CX0 7 f fd ["wishes", "thing"] (spD K 2 YZ):=
 okD (k:=6) (g:=VU) F (fq Hao 2) jv λcdv A outer s H E B G0 hr=>
 have nm:=Hao
 by walk_at "d"
theorem Kat(vL:Def P w K mg base "worth_by_aim" 3 5 Xz)(vT:Def P w K mg base "longest" 7 1 WF)(kW:Def P w K mg base "look_at_aim" 7 2 YZ)(F:Fun K "worth_of" "worth_of" Sat f fd):FnOk P w K mg base CX0 8 f fd ["wishes", "aim", "dealing"] (spD K 3 Xy):=
 okD (k:=7) (g:=VP) F (fq Hat 3) jv λcdv A outer s H E B G0 hr=>
 have nm:=Hat
 by walk_at "d"
theorem Kaz(kT:Def P w K mg base "done" 9 3 YA)(vK:Def P w K mg base "worth_of" 8 3 Xy)(kW:Def P w K mg base "look_at_aim" 7 2 YZ)(F:Fun K "gain_of" "gain_of" Saz f fd):FnOk P w K mg base CX0 10 f fd ["wishes", "aim", "dealing", "way"] (spD K 4 Xv):=
 okD (k:=9) (g:=VI) F (fq Haz 4) jv λcdv A outer s H E B G0 hr=>
 have nm:=Haz
 by walk_at "d"
theorem Kbd(F:Fun K "_law_rank" "_law_rank" Sbd f fd):FnOk P w K mg base CX0 1 f fd ["_law_wishes_here", "_law_asker", "_law_thing"] (spD K 3 Ww):=
 okD (k:=0) (g:=VF) F (fq Hbd 3) jv λcdv A outer s H E B G0 hr=>
 have nm:=Hbd
 by walk_at "d"
theorem Kbe(F:Fun K "_law_longest" "_law_longest" Sbe f fd):FnOk P w K mg base CX0 1 f fd ["_law_wishes_here"] (spD K 1 Wv):=
 okD (k:=0) (g:=VE) F (fq Hbe 1) jv λcdv A outer s H E B G0 hr=>
 have nm:=Hbe
 by walk_at "d"
theorem Kbi(vF:Def P w K mg base "_law_rank" 1 3 Ww)(vE:Def P w K mg base "_law_longest" 1 1 Wv)(F:Fun K "_law_worth" "_law_worth" Sbi f fd):FnOk P w K mg base CX0 2 f fd ["_law_wishes_here", "_law_aim_here", "_law_asker", "_law_thing"] (spD K 4 Ws):=
 okD (k:=1) (g:=Vz) F (fq Hbi 4) jv λcdv A outer s H E B G0 hr=>
 have nm:=Hbi
 by walk_at "d"
theorem Kbj(vB:Def P w K mg base "_law_worth" 2 4 Ws)(F:Fun K "_law_whole" "_law_whole" Sbj f fd):FnOk P w K mg base CX0 3 f fd ["_law_wishes_here", "_law_aim_here", "_law_dealing"] (spD K 3 Xu):=
 okD (k:=2) (g:=Vy) F (fq Hbj 3) jv λcdv A outer s H E B G0 hr=>
 have nm:=Hbj
 by walk_at "d"
theorem Kbq(jY:Def P w K mg base "_law_wished" 1 2 ZO)(ku:Def P w K mg base "_law_whole_number" 1 1 ZV)(F:Fun K "_law_is_dealing" "_law_is_dealing" Sbq f fd):FnOk P w K mg base CX0 2 f fd ["_law_wishes_here", "_law_found"] (spD K 2 Wo):=
 okD (k:=1) (g:=Vt) F (fq Hbq 2) jv λcdv A outer s H E B G0 hr=>
 have nm:=Hbq
 by walk_at "d"
theorem jl(F:Fun K "behind_way" "behind_way" Lv f fd):FnOk P w K mg base CX0 1 f fd ["dealing", "way"] (spO K 2 RR):=
 okO (k:=0) (g:=SE) F (fq LI 2) jv λcdv A outer s H E B G0 hr=>
 have nm:=LI
 by walk_at "d"
theorem Cm(jZ:Def P w K mg base "is_way" 8 3 Zd)(jO:WJ P w K mg base "behind_way" 1 2 RR)(F:Fun K "done" "done" Nz f fd):FnOk P w K mg base CX0 9 f fd ["wishes", "dealing", "way"] (spO K 3 Rx):=
 okO (k:=8) (g:=Ry) F (fq Ma 3) jv λcdv A outer s H E B G0 hr=>
 have nm:=Ma
 by walk_at "d"
theorem Kbr(vH:Def P w K mg base "gain_of" 10 4 Xv)(kT:Def P w K mg base "done" 9 3 YA)(jZ:Def P w K mg base "is_way" 8 3 Zd)(ku:Def P w K mg base "_law_whole_number" 1 1 ZV)(vA:Def P w K mg base "_law_whole" 3 3 Xu)(vq:Def P w K mg base "_law_is_dealing" 2 2 Wo)(kh:WJ P w K mg base "done" 9 3 Rx)(F:Fun K "_law_right" "_law_right" Sbr f fd):FnOk P w K mg base CX0 11 f fd ["_law_wishes_here", "_law_aim_here", "_law_dealing", "_law_way"] (spD K 4 Wn):=
 okD (k:=10) (g:=Vs) F (fq Hbr 4) jv λcdv A outer s H E B G0 hr=>
 have nm:=Hbr
 by walk_at "d"
theorem Kbb(F:Fun K "_law_numbers" "_law_numbers" Sbb f fd):FnOk P w K mg base CX0 1 f fd ["_law_cell", "_law_salt", "_law_sizes"] (spD K 3 Zq):=
 okD (k:=0) (g:=VH) F (fq Hbb 3) jv λcdv A outer s H E B G0 hr=>
 have nm:=Hbb
 by walk_at "d"
theorem Kbg(jR:Def P w K mg base "_law_numbers" 1 3 Zq)(F:Fun K "_law_aim" "_law_aim" Sbg f fd):FnOk P w K mg base CX0 2 f fd ["_law_wishes_here", "_law_cell", "_law_salt"] (spD K 3 Wu):=
 okD (k:=1) (g:=VC) F (fq Hbg 3) jv λcdv A outer s H E B G0 hr=>
 have nm:=Hbg
 by walk_at "d"
theorem Kbk(jY:Def P w K mg base "_law_wished" 1 2 ZO)(jR:Def P w K mg base "_law_numbers" 1 3 Zq)(F:Fun K "_law_chain" "_law_chain" Sbk f fd):FnOk P w K mg base CX0 2 f fd ["_law_wishes_here", "_law_dealing", "_law_cell", "_law_salt"] (spD K 4 Wr):=
 okD (k:=1) (g:=Vx) F (fq Hbk 4) jv λcdv A outer s H E B G0 hr=>
 have nm:=Hbk
 by walk_at "d"
theorem Kbh(jY:Def P w K mg base "_law_wished" 1 2 ZO)(jR:Def P w K mg base "_law_numbers" 1 3 Zq)(F:Fun K "_law_dealt" "_law_dealt" Sbh f fd):FnOk P w K mg base CX0 2 f fd ["_law_wishes_here", "_law_cell", "_law_salt"] (spD K 3 Wt):=
 okD (k:=1) (g:=VA) F (fq Hbh 3) jv λcdv A outer s H E B G0 hr=>
 have nm:=Hbh
 by walk_at "d"
theorem Kbc(jR:Def P w K mg base "_law_numbers" 1 3 Zq)(kS:Def P w K mg base "_law_cell_at" 1 2 Yi)(F:Fun K "_law_wishes" "_law_wishes" Sbc f fd):FnOk P w K mg base CX0 2 f fd ["_law_script", "_law_at", "_law_most_things", "_law_most_askers", "_law_most_ranks"] (spD K 5 Wx):=
 okD (k:=1) (g:=VG) F (fq Hbc 5) jv λcdv A outer s H E B G0 hr=>
 have nm:=Hbc
 by walk_at "d"
theorem Kbs(kS:Def P w K mg base "_law_cell_at" 1 2 Yi)(vx:Def P w K mg base "_law_bent" 1 3 Wq)(vy:Def P w K mg base "_law_is_way" 2 3 Xs)(vv:Def P w K mg base "_law_refused" 10 3 YX)(vp:Def P w K mg base "_law_right" 11 4 Wn)(jR:Def P w K mg base "_law_numbers" 1 3 Zq)(vD:Def P w K mg base "_law_aim" 2 3 Wu)(vz:Def P w K mg base "_law_chain" 2 4 Wr)(vC:Def P w K mg base "_law_dealt" 2 3 Wt)(vG:Def P w K mg base "_law_wishes" 2 5 Wx)(F:Fun K "law" "law" Sbs f fd):FnOk P w K mg base CX0 12 f fd ["_law_script"] (spD K 1 Wm):=
 okD (k:=11) (g:=Vr) F (fq Hbs 1) jv λcdv A outer s H E B G0 hr=>
 have nm:=Hbs
 by walk_at "d"
end
theorem Kx:recsOf q0=Va p0 ixL:=by show recsOf (PySem.W.view PySem.Challenge.pw_wishdeal_k28_ways_done Y3)=Va PySem.Challenge.pw_wishdeal_k28_ways_done ixL;rw[PySem.W.Fast.te3399658132070893891,PySem.W.Fast.te10268351428289722193];kernel_rfl
theorem Yk:(["ValueError", "all", "bool", "enumerate", "int", "isinstance", "len", "list", "max", "range", "set", "sorted", "str", "sum", "tuple"]:List Str).all (SJ q0 (PySem.W.looseW q0 []))=jx:=by show List.all _ (SJ (PySem.W.view PySem.Challenge.pw_wishdeal_k28_ways_done Y3) (PySem.W.looseW (PySem.W.view PySem.Challenge.pw_wishdeal_k28_ways_done Y3) []))=jx;k_qdec
theorem jk:valOf q0 "MOST_ASKERS" = ju (.int 7):=by show valOf (PySem.W.view PySem.Challenge.pw_wishdeal_k28_ways_done Y3) _=_;rw[Jn,PySem.W.Fast.te10268351428289722193];kernel_rfl
theorem jj:valOf q0 "MOST_COPIES" = ju (.int 7):=by show valOf (PySem.W.view PySem.Challenge.pw_wishdeal_k28_ways_done Y3) _=_;rw[Jn,PySem.W.Fast.te10268351428289722193];kernel_rfl
theorem jp:valOf q0 "MOST_RANKS" = ju (.int 5):=by show valOf (PySem.W.view PySem.Challenge.pw_wishdeal_k28_ways_done Y3) _=_;rw[Jn,PySem.W.Fast.te10268351428289722193];kernel_rfl
theorem ji:valOf q0 "MOST_THINGS" = ju (.int 6):=by show valOf (PySem.W.view PySem.Challenge.pw_wishdeal_k28_ways_done Y3) _=_;rw[Jn,PySem.W.Fast.te10268351428289722193];kernel_rfl
theorem BC:tupStrsOf q0 "ORDERS" = ju (["firsts", "full", "lasts"]:List Str):=by show tupStrsOf (PySem.W.view PySem.Challenge.pw_wishdeal_k28_ways_done Y3) _=_;rw[PySem.W.Fast.te14491516231548247274,PySem.W.Fast.te10268351428289722193];kernel_rfl
theorem GV{l:PySem.W.OpenLaw}{w:World}{s0:Uf}{mg mb:Str->jE}{fa:Uh}{h:Heap}{XP:(Str->jE)->Heap->Prop}(G:PySem.W.Ground q0 [] [] XP w s0 mg mb h)(Y:XYP p0 clsL h)(hfa:mg "law" = ju (.ref fa)) :
  ∃fd:Ui,(∀(s:Uf)(v:Ue),BindsTo s fd ⟨[v],[]⟩ [("_law_script", v)])/\∀base:Heap,FnOk l.prog w (whole h) mg base CX0 12 fa fd ["_law_script"] (spD (whole h) 1 Wm):=by
 obtain⟨D0,f0,fd0,R⟩:=Ez (i:=4) G.T.g Y (mq 0 jv) (Yn G.T Yk (mq 0 jv)) (Kw (by decide +kernel)) jv (λ_=>⟨_,rfl⟩) (λ_ _ _ _ _ _ us hl=>bz2 (us:=us) hl λ_ _=>rfl);have T:Txt (whole h) mg:=⟨Yn G.T Yk (mq 0 jv),Yn G.T Yk (mq 1 jv),Yn G.T Yk (mq 2 jv),Yn G.T Yk (mq 3 jv),Yn G.T Yk (mq 4 jv),Yn G.T Yk (mq 5 jv),Yn G.T Yk (mq 6 jv),Yn G.T Yk (mq 7 jv),Yn G.T Yk (mq 8 jv),Yn G.T Yk (mq 9 jv),Yn G.T Yk (mq 10 jv),Yn G.T Yk (mq 11 jv),Yn G.T Yk (mq 12 jv),Yn G.T Yk (mq 13 jv),Yn G.T Yk (mq 14 jv),RO G.T jk,RO G.T jj,RO G.T jp,RO G.T ji,Bv G.B BC (by decide),YE (c:=("DealError", ju 4)) G.T.g Y R (mq 0 jv),YE (c:=("NoAim", ju 6)) G.T.g Y R (mq 2 jv),YE (c:=("NoBook", jw)) G.T.g Y R (mq 9 jv),YE (c:=("NoChange", jw)) G.T.g Y R (mq 6 jv),YE (c:=("NoDeed", jw)) G.T.g Y R (mq 10 jv),YE (c:=("NoJoin", jw)) G.T.g Y R (mq 8 jv),YE (c:=("NoName", jw)) G.T.g Y R (mq 12 jv),YE (c:=("NoNumbering", jw)) G.T.g Y R (mq 7 jv),YE (c:=("NoPlace", jw)) G.T.g Y R (mq 5 jv),YE (c:=("NoRow", jw)) G.T.g Y R (mq 11 jv),YE (c:=("NoText", ju 7)) G.T.g Y R (mq 3 jv),YE (c:=("NoWay", jw)) G.T.g Y R (mq 4 jv),YE (c:=("NoWishes", ju 5)) G.T.g Y R (mq 1 jv),YE (c:=("TooMany", jw)) G.T.g Y R (mq 13 jv)⟩
 refine Hn G.T Kx 72 "law" rfl jv hfa (λ_ _ _ _ _ _ _=>rfl) λbase=>?_
 have ka:=GB (nm:= "NoWay") G.T.g Y R (mq 4 jv) jv l.prog w base;have kS:=KJ l.prog w base G.T Kx 54 "_law_cell_at" rfl jv (λF=>Kba T  F) λ_ _ _ _ _ _ us hl=>bz2 (us:=us) hl λ_ _=>rfl
 have vx:=KJ l.prog w base G.T Kx 67 "_law_bent" rfl jv (λF=>Kbn T  F) λ_ _ _ _ _ _ us hl=>bz3 (us:=us) hl λ_ _ _=>rfl
 have jY:=KJ l.prog w base G.T Kx 59 "_law_wished" rfl jv (λF=>Kbf T  F) λ_ _ _ _ _ _ us hl=>bz2 (us:=us) hl λ_ _=>rfl
 have ku:=KJ l.prog w base G.T Kx 65 "_law_whole_number" rfl jv (λF=>Kbl T  F) λ_ _ _ _ _ _ us hl=>bz1 (us:=us) hl λ_=>rfl
 have vy:=KJ l.prog w base G.T Kx 66 "_law_is_way" rfl jv (λF=>Kbm T jY ku F) λ_ _ _ _ _ _ us hl=>bz3 (us:=us) hl λ_ _ _=>rfl
 have vw:=KJ l.prog w base G.T Kx 68 "_law_word" rfl jv (λF=>Kbo T  F) λ_ _ _ _ _ _ us hl=>bz1 (us:=us) hl λ_=>rfl
 have kU:=KJ l.prog w base G.T Kx 50 "behind_way" rfl jv (λF=>Kax T  F) λ_ _ _ _ _ _ us hl=>bz2 (us:=us) hl λ_ _=>rfl
 have vI:=KJ l.prog w base G.T Kx 48 "is_linked" rfl jv (λF=>Kav T  F) λ_ _ _ _ _ _ us hl=>bz2 (us:=us) hl λ_ _=>rfl
 have kY:=KJ l.prog w base G.T Kx 1 "is_whole" rfl jv (λF=>Kaa T  F) λ_ _ _ _ _ _ us hl=>bz1 (us:=us) hl λ_=>rfl
 have kX:=KJ l.prog w base G.T Kx 28 "rank_in" rfl jv (λF=>Kah T  F) λ_ _ _ _ _ _ us hl=>bz2 (us:=us) hl λ_ _=>rfl
 have jS:=KJ l.prog w base G.T Kx 2 "is_number_below" rfl jv (λF=>Kab T kY F) λ_ _ _ _ _ _ us hl=>bz2 (us:=us) hl λ_ _=>rfl
 have vJ:=KJ l.prog w base G.T Kx 47 "is_taking" rfl jv (λF=>Kau T kY kX jS F) λ_ _ _ _ _ _ us hl=>bz3 (us:=us) hl λ_ _ _=>rfl
 have vW:=KJ l.prog w base G.T Kx 24 "is_rank" rfl jv (λF=>Kad T jS F) λ_ _ _ _ _ _ us hl=>bz2 (us:=us) hl λ_ _=>rfl
 have vV:=KJ l.prog w base G.T Kx 25 "is_asker_list" rfl jv (λF=>Kae T vW F) λ_ _ _ _ _ _ us hl=>bz2 (us:=us) hl λ_ _=>rfl
 have vU:=KJ l.prog w base G.T Kx 26 "look_at_lists" rfl jv (λF=>Kaf T vV F) λ_ _ _ _ _ _ us hl=>bz2 (us:=us) hl λ_ _=>rfl
 have vX:=KJ l.prog w base G.T Kx 23 "look_at_copies" rfl jv (λF=>Kac T jS F) λ_ _ _ _ _ _ us hl=>bz1 (us:=us) hl λ_=>rfl
 have kz:=KJ l.prog w base G.T Kx 27 "look_at_wishes" rfl jv (λF=>Kag T vU vX F) λ_ _ _ _ _ _ us hl=>bz1 (us:=us) hl λ_=>rfl
 have vS:=KJ l.prog w base G.T Kx 31 "copies_left" rfl jv (λF=>Kaj T kz F) λ_ _ _ _ _ _ us hl=>bz2 (us:=us) hl λ_ _=>rfl
 have jZ:=KJ l.prog w base G.T Kx 49 "is_way" rfl jv (λF=>Kaw T vI vJ vS F) λ_ _ _ _ _ _ us hl=>bz3 (us:=us) hl λ_ _ _=>rfl
 have kg:=GA l.prog w base G.T Kx 51 "done" rfl jv (λF=>Cn T kU jZ ka F) λ_ _ _ _ _ _ us hl=>bz3 (us:=us) hl λ_ _ _=>rfl
 have vv:=KJ l.prog w base G.T Kx 69 "_law_refused" rfl jv (λF=>Kbp T vw kg F) λ_ _ _ _ _ _ us hl=>bz3 (us:=us) hl λ_ _ _=>rfl
 have kT:=KJ l.prog w base G.T Kx 51 "done" rfl jv (λF=>Kay T kU jZ F) λ_ _ _ _ _ _ us hl=>bz3 (us:=us) hl λ_ _ _=>rfl
 have ky:=KJ l.prog w base G.T Kx 41 "power" rfl jv (λF=>Kap T  F) λ_ _ _ _ _ _ us hl=>bz2 (us:=us) hl λ_ _=>rfl
 have vM:=KJ l.prog w base G.T Kx 43 "worth_by_turns" rfl jv (λF=>Kar T ky F) λ_ _ _ _ _ _ us hl=>bz4 (us:=us) hl λ_ _ _ _=>rfl
 have vN:=KJ l.prog w base G.T Kx 42 "worth_by_order" rfl jv (λF=>Kaq T ky F) λ_ _ _ _ _ _ us hl=>bz4 (us:=us) hl λ_ _ _ _=>rfl
 have vL:=KJ l.prog w base G.T Kx 44 "worth_by_aim" rfl jv (λF=>Kas T ky vM vN kX F) λ_ _ _ _ _ _ us hl=>bz5 (us:=us) hl λ_ _ _ _ _=>rfl
 have vT:=KJ l.prog w base G.T Kx 29 "longest" rfl jv (λF=>Kai T kz F) λ_ _ _ _ _ _ us hl=>bz1 (us:=us) hl λ_=>rfl
 have vO:=KJ l.prog w base G.T Kx 38 "is_turns" rfl jv (λF=>Kan T jS F) λ_ _ _ _ _ _ us hl=>bz2 (us:=us) hl λ_ _=>rfl
 have vP:=KJ l.prog w base G.T Kx 37 "is_old" rfl jv (λF=>Kam T jS F) λ_ _ _ _ _ _ us hl=>bz3 (us:=us) hl λ_ _ _=>rfl
 have vR:=KJ l.prog w base G.T Kx 34 "is_order" rfl jv (λF=>Kak T  F) λ_ _ _ _ _ _ us hl=>bz1 (us:=us) hl λ_=>rfl
 have vQ:=KJ l.prog w base G.T Kx 35 "look_at_order" rfl jv (λF=>Kal T vR F) λ_ _ _ _ _ _ us hl=>bz1 (us:=us) hl λ_=>rfl
 have kW:=KJ l.prog w base G.T Kx 39 "look_at_aim" rfl jv (λF=>Kao T vO vP vQ kz F) λ_ _ _ _ _ _ us hl=>bz2 (us:=us) hl λ_ _=>rfl
 have vK:=KJ l.prog w base G.T Kx 45 "worth_of" rfl jv (λF=>Kat T vL vT kW F) λ_ _ _ _ _ _ us hl=>bz3 (us:=us) hl λ_ _ _=>rfl
 have vH:=KJ l.prog w base G.T Kx 52 "gain_of" rfl jv (λF=>Kaz T kT vK kW F) λ_ _ _ _ _ _ us hl=>bz4 (us:=us) hl λ_ _ _ _=>rfl
 have vF:=KJ l.prog w base G.T Kx 57 "_law_rank" rfl jv (λF=>Kbd T  F) λ_ _ _ _ _ _ us hl=>bz3 (us:=us) hl λ_ _ _=>rfl
 have vE:=KJ l.prog w base G.T Kx 58 "_law_longest" rfl jv (λF=>Kbe T  F) λ_ _ _ _ _ _ us hl=>bz1 (us:=us) hl λ_=>rfl
 have vB:=KJ l.prog w base G.T Kx 62 "_law_worth" rfl jv (λF=>Kbi T vF vE F) λ_ _ _ _ _ _ us hl=>bz4 (us:=us) hl λ_ _ _ _=>rfl
 have vA:=KJ l.prog w base G.T Kx 63 "_law_whole" rfl jv (λF=>Kbj T vB F) λ_ _ _ _ _ _ us hl=>bz3 (us:=us) hl λ_ _ _=>rfl
 have vq:=KJ l.prog w base G.T Kx 70 "_law_is_dealing" rfl jv (λF=>Kbq T jY ku F) λ_ _ _ _ _ _ us hl=>bz2 (us:=us) hl λ_ _=>rfl
 have jO:=OL l.prog w base G.T Kx 50 "behind_way" rfl jv (λF=>jl T  F) λ_ _ _ _ _ _ us hl=>bz2 (us:=us) hl λ_ _=>rfl
 have kh:=OL l.prog w base G.T Kx 51 "done" rfl jv (λF=>Cm T jZ jO F) λ_ _ _ _ _ _ us hl=>bz3 (us:=us) hl λ_ _ _=>rfl
 have vp:=KJ l.prog w base G.T Kx 71 "_law_right" rfl jv (λF=>Kbr T vH kT jZ ku vA vq kh F) λ_ _ _ _ _ _ us hl=>bz4 (us:=us) hl λ_ _ _ _=>rfl
 have jR:=KJ l.prog w base G.T Kx 55 "_law_numbers" rfl jv (λF=>Kbb T  F) λ_ _ _ _ _ _ us hl=>bz3 (us:=us) hl λ_ _ _=>rfl
 have vD:=KJ l.prog w base G.T Kx 60 "_law_aim" rfl jv (λF=>Kbg T jR F) λ_ _ _ _ _ _ us hl=>bz3 (us:=us) hl λ_ _ _=>rfl
 have vz:=KJ l.prog w base G.T Kx 64 "_law_chain" rfl jv (λF=>Kbk T jY jR F) λ_ _ _ _ _ _ us hl=>bz4 (us:=us) hl λ_ _ _ _=>rfl
 have vC:=KJ l.prog w base G.T Kx 61 "_law_dealt" rfl jv (λF=>Kbh T jY jR F) λ_ _ _ _ _ _ us hl=>bz3 (us:=us) hl λ_ _ _=>rfl
 have vG:=KJ l.prog w base G.T Kx 56 "_law_wishes" rfl jv (λF=>Kbc T jR kS F) λ_ _ _ _ _ _ us hl=>bz5 (us:=us) hl λ_ _ _ _ _=>rfl
 exact λ{_ _} F=>Kbs T kS vx vy vv vp jR vD vz vC vG F
abbrev d_bs:DefRec:=⟨"law", Xk Sbs,Z9 Sbs,KZ Sbs,Hq Sbs⟩
theorem walk{XP:(Str->jE)->Heap->Prop}(hlaw:∀ns:jA,ns.length<=63->Wm [.list (ns.map int)]=ju (.bool jx)):PySem.W.WalkO q0 [] XP (λ_ h=>XYP p0 clsL h) (PySem.Challenge.rw_wishdeal_k28_ways_done).row.toRowW d_bs [] (λf vs=>PySem.call f vs):=
 Bs (n:=63) (k:=12) (x:= "_law_script") jv (by decide) jv ⟨rfl,by decide,by decide,rfl⟩ (λ_ _ _ _ _ _ G Y hm=>GV G Y hm) hlaw
theorem Tf{f:M D}{Z Z1:UF}{d:D}{t:Bool}(h:f Z=.ok d Z1)(ht:(!isNon d)=t):UT (λd=>!isNon d) f Z=.ok t Z1:=by subst ht;exact Kr (k:=λd=>!isNon d) h
theorem Ln{sizes found:jA}{z d:Int}(h:∀(j:Nat) d z,found[j]?=ju d->sizes[j]?=ju z->0<=d/\d<z)(hz:sizes[found.length]?=ju z)(h0:0<=d/\d<z) :
  ∀(j:Nat) d' z',(found++[d])[j]?=ju d'->sizes[j]?=ju z'->0<=d'/\d'<z':=by
 intro j d' z' e1 e2;by_cases hj:j<found.length
 .rw[Qr hj]at e1
  exact h j d' z' e1 e2
 .by_cases va:j=found.length
  .subst va
   rw[hz]at e2;cases e2;rw[Qs (Qq _),Nat.sub_self,List.getElem?_cons_zero]at e1;cases e1;exact h0
  .rw[Jx (by rw[Qi,QQ];omega)]at e1
   cases e1
abbrev pb(d:D):Option Sl:=ju (.pub d)
def inv(c s:Int)(sizes:jA)(n:Int)(i:Nat)(Z:UF):Prop:=∃left found x6 x7,Z=[ju (Sl.pub (.int c)),pb (.int s),pb (.list (sizes.map .int)),pb (.int n),pb (.int left),ju (.own ((found:jA).map .int)),x6,x7] /\
 found.length=i/\∀(j:Nat) d z,found[j]?=ju d->sizes[j]?=ju z->0<=d/\d<z
theorem BB{c s n:Int}{sizes:jA}(hs:∀x∈sizes,0<x/\x<18446744073709551616)(hl:sizes.length<=1000){i:Nat}{d:D}{Z:UF}{Q:Out->Prop}(hi:(Zv 0 sizes.length)[i]?=ju d)(h:inv c s sizes n i Z) :
  ∃Z2,gN 6 d Z=ju Z2/\Ho Pt Z2 (W6 (inv c s sizes n (i+1)) Q):=by
 obtain⟨left,found,x6,x7,rfl,hf,hfd⟩:=h;obtain⟨rfl,hlt⟩:=XN hi;obtain⟨z,hz⟩:∃z,sizes[i]?=ju z:=⟨sizes[i]'(by omega),Qe _⟩
 obtain⟨z1,z2⟩:=hs z (Qp hz);have hix:oIx (.list (sizes.map int)) (.int (0+(i:Int)))=ju (.int z):=by rw[JS];exact KE (by rw[Qf,hz];rfl)
 generalize hk:(0:Int)+(i:Int)=k at hix⊢;have xo:k<18446744073709551616:=by omega
 have hk2 : -18446744073709551616<k:=by omega
 have hlen:(found.map int).length<1000000:=by rw[Qb];omega
 have pw:Xq (.int 10) (.int 18)=ju (.int 1000000000000000000):=by rw[F0 (by decide)];rfl
 refine⟨_,UY (Qa jv) jv,?_⟩;unfold Pt;apply Kd
 case h1=>exact Rh (K8 jv (US UN UN pw) jv) λ_=>K8 jv UN jv
 case h2=>intro _;refine U3 (Xd jv (US (UH jv) (Kk jv (UH jv) hix) (Z7 (by omega))) jv hlen jv) ?_;refine ZD (Kl (US (UH jv) (Kk jv (UH jv) hix) (Rs (by omega) (by omega))) (Qa jv) jv) (Zh ?_);exact⟨_,found++[left % z],_,_,by rw[QT];rfl,by rw[Qi,hf];rfl,Ln hfd (by rw[hf];exact hz) ⟨Jw _ (by omega),Jf _ z1⟩⟩
 case h3=>intro _;refine U3 (Kl (US (US (US (US (UH jv) (US UN (UH jv) (Xl (by decide) (by decide))) KI) (US (US UN (UH jv) (Xl (by decide) (by decide))) (UH jv) (XS hk2 xo)) KI) (UH jv) KI) UN (Z7 (by decide))) (Qa jv) jv) ?_;refine U3 (Kl (US (US (UH jv) UN (XS (by decide) (by decide))) UN (Z7 (by decide))) (Qa jv) jv) ?_;refine U3 (Kl (US (US (US (US (UH jv) (UH jv) (XS (by omega) (by omega))) UN (Z7 (by decide))) UN (XS (by decide) (by decide))) UN (Z7 (by decide))) (Qa jv) jv) ?_;refine ZD (Xd jv (US (US (UH jv) UN (Rs (by decide) (by decide))) (Kk jv (UH jv) hix) (Z7 (by omega))) jv hlen jv) (Zh ?_);exact⟨_,found++[_ % z],_,_,by rw[QT];rfl,by rw[Qi,hf];rfl,Ln hfd (by rw[hf];exact hz) ⟨Jw _ (by omega),Jf _ z1⟩⟩
theorem TQ(c s:Int){sizes:jA}(hs:∀x∈sizes,0<x/\x<18446744073709551616)(hl:sizes.length<=1000) :
  ∃r,Zq [.int c,.int s,.list (sizes.map int)]=ju r/\∃ds:jA,r=.list (ds.map .int)/\ds.length=sizes.length/\∀(j:Nat) d z,ds[j]?=ju d->sizes[j]?=ju z->0<=d/\d<z:=by
 refine XI (Z:=[pb (.int c),pb (.int s),pb (.list (sizes.map int)),jw,jw,jw,jw,jw]) jv ?_;unfold VH;refine U3 (Kl (ZB (UK (UH jv) (UK (US (XJ UN) (UH jv) ZM) UP)) EN) (Qa jv) jv) ?_;refine U3 (Kl (UH jv) (Qa jv) jv) ?_;refine U3 (Zy (XU UP (Qa jv)) (Qa jv) jv) ?_;apply Kg;apply Zu (ds:=Zv 0 sizes.length) (inv c s sizes (if -1-c > c then -1-c else c))
 case h1=>exact XZ (UK (Kz jv (by rw[K1,Qb])) UP) (X6 (by omega) (by omega))
 case h0=>exact⟨_,[],jw,jw,rfl,rfl,λj d z e=>by cases e⟩
 case hst=>exact λi d Z e h=>BB hs hl e h
 case hend=>rintro Z ⟨left,found,x6,x7,rfl,hf,hfd⟩;rw[YJ]at hf;exact Kj (Kc (Z8 rfl rfl) ⟨_,rfl,found,rfl,by omega,hfd⟩)
mutual
theorem RE:∀(d:PyData),d.canLay0=jx->Ux d d=jx
 |.none,_=>rfl
 |.bool b,_=>by cases b<;>rfl
 |.int i,_=>by simp[Ux]
 |.str s,_=>by simp[Ux]
 |.list xs,h=>eqvAll_refl xs h
 |.tuple xs,h=>eqvAll_refl xs h
 |.dict _,h=>by cases h
theorem eqvAll_refl:∀(xs:List PyData),Uv xs=jx->PyData.eqvAll xs xs=jx
 |[],_=>rfl
 |x::r,h=>by
  have h:(PyData.canLay0 x&&Uv r)=jx:=h;rw[QS]at h
  show(Ux x x&&PyData.eqvAll r r)=jx
  rw[RE x h.1,eqvAll_refl r h.2];rfl
end
theorem TH:∀{xs:jz},(∀x∈xs,PyData.canLay0 x=jx)->Uv xs=jx
 |[],_=>rfl
 |x::r,h=>by
  show(PyData.canLay0 x&&Uv r)=jx
  rw[h x Qt,TH λy hy=>h y (QD _ hy)];rfl
theorem TF{n:Nat}:∀{xs:jz},(∀x∈xs,Uw x<=n)->PyData.depthAll xs<=n
 |[],_=>by simp[PyData.depthAll]
 |x::r,h=>by have h1:=h x Qt;have h2:=TF (n:=n) λy hy=>h y (QD _ hy);simp only[PyData.depthAll];omega
def K6(r:jA):D:=.list (r.map int)
def Ku(rs:List jA):D:=.list (rs.map K6)
def Ke(cs:jA)(ls:L3):D:=.tuple [.list (cs.map int),.list (ls.map Ku)]
structure Vh(n:Nat)(rs:List jA):Prop where
 few:rs.length<=5
 some:∀r∈rs,r≠[]
 there:∀r∈rs,∀t∈r,0<=t/\t<n
 once:rs.flatten.Nodup
structure Good(cs:jA)(ls:L3):Prop where
 c1:1<=cs.length
 c6:cs.length<=6
 c7:∀c∈cs,0<=c/\c<8
 l1:1<=ls.length
 l7:ls.length<=7
 rk:∀rs∈ls,Vh cs.length rs
theorem N9(r:jA):(K6 r).canLay0=jx:=TH λx hx=>by obtain⟨y,_,rfl⟩:=Qu.mp hx;rfl
theorem Nq(i:Int):(int i).depth<=1:=by simp[Uw]
theorem Sv{n:Nat}{xs:jz}(h:PyData.depthAll xs<=n):(Ur xs).depth<=n+1:=by simp only[Uw];omega
theorem N8(r:jA):(K6 r).depth<=2:=Sv (TF λx hx=>by obtain⟨y,_,rfl⟩:=Qu.mp hx;exact Nq y)
theorem BA(i:Int):YB [.int i]=ju (.bool jx):=by refine K3 (Z:=[pb (.int i)]) jv ?_;unfold V8;exact Kc (XT (Kr (UH jv)) (λ_=>F1 (Kr (UH jv)))) jv
theorem RD{i m:Int}(h0:0<=i)(h1:i<m):K5 [.int i,.int m]=ju (.bool jx):=by
 refine K3 (Z:=[pb (.int i),pb (.int m)]) jv ?_;unfold Wi;have hb:(decide (0<=i)&&decide (i<m))=jx:=by simp[h0,h1]
 refine Kc (XT (t:=jx) (u:=jx) (Kb (UK (UH jv) UP) jv (BA i)) (λ_=>?_)) jv;rw[←hb];exact Kr (RI UN (UH jv) jv (λ_=>UH jv) (λ_=>rfl))
theorem RC{α:Type}(l:List α):ZE [.list (l.map λ_=>.bool jx)]=ju (.bool jx):=by
 have:(l.map λ_=>Us jx)=(l.map λ_=>jx).map Us:=by rw[Jb];rfl
 rw[this,NT]
 congr 2
 rw[List.all_map];induction l with
 |nil=>rfl
 |cons x r ih=>simpa using ih
theorem Ar{r:jA}{n:Int}(hne:r≠[])(hl:r.length<=1000)(h:∀t∈r,0<=t/\t<n):XA [K6 r,.int n]=ju (.bool jx):=by
 refine K3 (Z:=[pb (K6 r),pb (.int n)]) jv ?_;unfold V6;apply Kg;have hlen:U5 [K6 r]=ju (.int r.length):=by unfold K6;rw[K1,Qb]
 have hp:0<r.length:=List.length_pos_iff.mpr hne;apply Kd
 case h1=>exact K9 (Z1:=[pb (K6 r),pb (.int n)]) (Zz (UH jv) jv) (US (Kz jv hlen) UN WT)
 case h2=>
       intro hh;have:(r.length:Int)=0:=by simpa using hh
       omega
 case h3=>
  intro _;refine Ko (Kj ?_)
  have hc:KB (gN 2) (UL jx) (UV 2 K5 (UI (UE 2) (UI (UE 1) (UG)))) (r.map int) (Kf [pb (K6 r),pb (.int n)]++Uq 1 jw) []=ju (r.map λ_=>.bool jx):=by
   rw[X7 (λ_=>jx) (λ_=>.bool jx) (λZ=>∃x,Z=[pb (K6 r),pb (.int n),x])]
   .rw[List.filter_eq_self.mpr (λ_ _=>rfl),JD,Jb];rfl
   .rintro d hm Z ⟨x,rfl⟩
    obtain⟨t,ht,rfl⟩:=Qu.mp hm;exact⟨_,UY (Qa jv) jv,rfl,λ_=>Kb (UK (UH jv) (UK (UH jv) UP)) jv (RD (h t ht).1 (h t ht).2),_,rfl⟩
   .exact⟨jw,rfl⟩
   .rw[Qb,QM];omega
  exact Kc (ZB (UK (Kr (ZX (Zt (UH jv) jv) hc)) UP) (RC r)) jv
theorem MQ{a b c x3:Option Sl}(ha:XE a=a)(hb:XE b=b)(hc:XE c=c)(hx:XE x3=x3):∀(ds es:jz)(x4:Option Sl),es.length+ds.length<=1000000 ->
  ∃y,X1 (gN 4) (UL jx) (UE 4) ds [a,b,c,x3,x4] es=ju (es++ds,[a,b,c,x3,y])
 |[],es,x4,_=>⟨x4,by rw[X1,Q7]⟩
 |d::r,es,x4,h=>by
  rw[QR]at h;obtain⟨y,e⟩:=MQ ha hb hc hx r (es++[d]) (ju (.pub d)) (by rw[Qi,QQ];omega);refine⟨y,?_⟩;rw[X1];have h1:gN 4 d [a,b,c,x3,x4]=ju [a,b,c,x3,pb d]:=UY (Qa jv) jv;rw[h1];dsimp only[UL];rw[Qo jv];have h2:UE 4 [a,b,c,x3,pb d]=.ok d [a,b,c,x3,pb d]:=UH jv;rw[h2];dsimp only;rw[Qo (by omega)];have h3:Kf [a,b,c,x3,pb d]=[a,b,c,x3,pb d]:=by unfold Kf;simp only[QN,List.map_nil,ha,hb,hc,hx];rfl
  rw[h3,e,JN];rfl
theorem LB{a b:D}:∀(rs:List jA)(es:jz)(x3 x4:Option Sl),es.length+rs.flatten.length<=1000000 ->
  Xg (gN 3) (UL jx) (KU (UE 3)) (gN 4) (UL jx) (UE 4) (rs.map K6) [pb a,pb b,jw,x3,x4] es=ju (es++rs.flatten.map int)
 |[],es,_,_,_=>by rw[List.map_nil,Xg];simp
 |r::rs,es,x3,x4,h=>by rw[QU,Qi]at h;rw[QN,Xg];have h1:gN 3 (K6 r) [pb a,pb b,jw,x3,x4]=ju [pb a,pb b,jw,pb (K6 r),x4]:=UY (Qa jv) jv;rw[h1];dsimp only[UL];rw[Qo jv];have h2:KU (UE 3) [pb a,pb b,jw,pb (K6 r),x4]=.ok (r.map int) [pb a,pb b,jw,pb (K6 r),x4]:=Zt (UH jv) jv;rw[h2];dsimp only;have h3:Kf [pb a,pb b,jw,pb (K6 r),x4]=[pb a,pb b,jw,pb (K6 r),XE x4]:=rfl;rw[h3];obtain⟨y,e⟩:=MQ (a:=ju (.pub a)) (b:=ju (.pub b)) (c:=jw) (x3:=ju (.pub (K6 r))) jv jv jv jv (r.map int) es (XE x4) (by rw[Qb];omega);rw[e];dsimp only;have ih:=LB (a:=a) (b:=b) rs (es++r.map int) (ju (.pub (K6 r))) y (by rw[Qi,Qb];omega);refine Eq.trans ih ?_;rw[QU,QT,JN]
theorem P1{ns:jA}(h:ns.Nodup):ZA ns=ns.length:=by
 unfold ZA
 have:∀i,i<=ns.length->(PyProof.Rows.firstMet (λi=>ns.getD i 0) i).length=i:=by
  intro i;induction i with
  |zero=>intro _;rfl
  |succ i ih=>
   intro hi;rw[PyProof.Rows.firstMet_succ]
   have hany:(PyProof.Rows.firstMet (λi=>ns.getD i 0) i).any (· == ns.getD i 0)=jy:=by
    rw[PyProof.Rows.firstMet_any,List.any_eq_false];intro x hx;obtain⟨j,hj,rfl⟩:=Qu.mp hx;have hj:=Je.mp hj;intro e;have e:ns.getD j 0=ns.getD i 0:=by simpa using e
    have l1:j<ns.length:=by omega
    have l2:i<ns.length:=by omega
    simp only[List.getD,Qe l1,Qe l2,JQ]at e;exact absurd ((List.getElem_inj h).mp e) (by omega)
   unfold PyProof.Rows.step_dedup;rw[hany];rw[QC (by decide),Qi,ih (by omega)];rfl
 exact this ns.length (Qq _)
theorem qK{rs:List jA}{n:Nat}(g:Vh n rs)(hn:n<=6)(hf:rs.flatten.length<=1000):WH [Ku rs,.int n]=ju (.bool jx):=by
 refine K3 (Z:=[pb (Ku rs),pb (.int n),jw]) jv ?_;unfold V5;have hlen:U5 [Ku rs]=ju (.int rs.length):=by unfold Ku;rw[K1,Qb]
 have h5:=g.few;have hrl:∀r∈rs,r.length<=1000:=λr hr=>QP (List.Sublist.length_le (List.sublist_flatten_of_mem hr)) hf;apply Kg;apply Kd
 case h1=>exact K9 (Z1:=[pb (Ku rs),pb (.int n),jw]) (Zz (UH jv) jv) (US (Kz jv hlen) UN jv)
 case h2=>
       intro hh;have:(5:Int)<(rs.length:Int):=by simpa using hh
       omega
 case h3=>
  intro _;refine Ko (Kj ?_)
  have hc:KB (gN 3) (UL jx) (UV 2 XA (UI (UE 3) (UI (UE 1) (UG)))) (rs.map K6) (Kf [pb (Ku rs),pb (.int n),jw]++Uq 1 jw) []=ju (rs.map λ_=>.bool jx):=by
   rw[X7 (λ_=>jx) (λ_=>.bool jx) (λZ=>∃x,Z=[pb (Ku rs),pb (.int n),jw,x])]
   .rw[List.filter_eq_self.mpr (λ_ _=>rfl),JD,Jb];rfl
   .rintro d hm Z ⟨x,rfl⟩
    obtain⟨r,hr,rfl⟩:=Qu.mp hm;exact⟨_,UY (Qa jv) jv,rfl,λ_=>Kb (UK (UH jv) (UK (UH jv) UP)) jv (Ar (g.some r hr) (hrl r hr) (g.there r hr)),_,rfl⟩
   .exact⟨jw,rfl⟩
   .rw[Qb,QM];omega
  apply Kg;apply Kd
  case h1=>exact Zr (ZC (ZB (UK (Kr (ZX (Zt (UH jv) jv) hc)) UP) (RC rs)))
  case h2=>intro hh;cases hh
  case h3=>
   intro _;refine Ko (Kj ?_);have h2:Sg (KU (UE 0)) 2 (gN 3) (UL jx) (KU (UE 3)) (gN 4) (UL jx) (UE 4) [pb (Ku rs),pb (.int n),jw]=.ok (rs.flatten.map int) [pb (Ku rs),pb (.int n),jw]:=by unfold Sg;have e1:KU (UE 0) [pb (Ku rs),pb (.int n),jw]=.ok (rs.map K6) [pb (Ku rs),pb (.int n),jw]:=Zt (UH jv) jv;rw[e1];dsimp only;have e2:=LB (a:=Ku rs) (b:=.int n) rs [] jw jw (by rw[QM];omega);have e3:Xg (gN 3) (UL jx) (KU (UE 3)) (gN 4) (UL jx) (UE 4) (rs.map K6) (Kf [pb (Ku rs),pb (.int n),jw]++Uq 2 jw) []=ju ([]++rs.flatten.map int):=e2;rw[e3];rfl
   refine U3 (Zy h2 (Qa jv) jv) ?_;have hls:X0 [.list (rs.flatten.map int)]=ju (.int rs.flatten.length):=by unfold X0;dsimp only;rw[TR];dsimp only;rw[Qo (by omega),P1 g.once]
   refine Kc (Kr (US (ZB (UK (Z8 jv jv) UP) hls) (Kz jv K1) WT)) ?_;rw[Qb];simp
theorem XQ{d:D}:∀{xs:jz}{k i:Nat},(ZZ k xs)[i]?=ju d->∃x,xs[i]?=ju x/\d=.tuple [.int ((k+i:Nat):Int),x]
 |[],k,i,h=>by cases h
 |x::r,k,0,h=>by cases h;exact⟨x,rfl,rfl⟩
 |x::r,k,i+1,h=>by obtain⟨y,e,q⟩:=XQ (xs:=r) (k:=k+1) (i:=i) h;exact⟨y,e,by rw[q];congr 4;omega⟩
theorem TL:∀(n:Nat)(l:jA),l.Nodup->(∀x∈l,0<=x/\x<n)->l.length<=n
 |0,[],_,_=>Qq _
 |0,x::r,_,h=>by have:=h x Qt;omega
 |n+1,l,hn,h=>by
  by_cases hm:(n:Int)∈l
  .have:=TL n (l.erase (n:Int)) (hn.erase _) λx hx=>by
    have h1:=(List.Nodup.mem_erase_iff hn).mp hx;have h2:=h x h1.2;have h3:=h1.1;omega
   rw[List.length_erase_of_mem hm]at this;omega
  .have:=TL n l hn λx hx=>by
    have h2:=h x hx;have h3:x≠(n:Int):=λe=>hm (e ▸ hx);omega
   omega
theorem Ss{n:Nat}{rs:List jA}(g:Vh n rs):rs.flatten.length<=n:=TL n _ g.once λx hx=>by obtain⟨r,hr,hxr⟩:=JH.mp hx;exact g.there r hr x hxr
theorem Bz{cs:jA}(h1:1<=cs.length)(h6:cs.length<=6)(h:∀c∈cs,0<=c/\c<8):WI [.list (cs.map int)]=ju .none:=by
 refine So (Z:=[pb (.list (cs.map int)),jw,jw]) jv ?_;unfold V7;have hlen:U5 [.list (cs.map int)]=ju (.int cs.length):=by rw[K1,Qb]
 apply Kg;apply Kd
 case h1=>exact K9 (Z1:=[pb (.list (cs.map int)),jw,jw]) (Zz (UH jv) jv) (Zr (RI UN (Kz jv hlen) jv (λ_=>UN) (λ_=>rfl)))
 case h2=>
  intro hh;have a1:(1:Int)<=(cs.length:Int):=by omega
  have a2:(cs.length:Int)<=6:=by omega
  simp[a1,a2]at hh
 case h3=>
  intro _;refine Ko (Kj ?_);apply Zu (λ_ Z=>∃x1 x2,Z=[pb (.list (cs.map int)),x1,x2])
  case h1=>exact WU (UK (UH jv) UP) W0
  case h0=>exact⟨_,_,rfl⟩
  case hst=>
   rintro i d Z hi ⟨x1,x2,rfl⟩;obtain⟨x,hx,rfl⟩:=XQ hi;obtain⟨c,hc,rfl⟩:=Qu.mp (Qp hx);refine⟨_,KF jv (U4 (UY (Qa jv) jv) (U4 (UY (Qa jv) jv) KG)),?_⟩;unfold NI;apply Kd
   case h1=>exact Zr (ZC (Kb (UK (UH jv) (UK (US UN UN KI) UP)) jv (RD (h c hc).1 (by have:=(h c hc).2;omega))))
   case h2=>intro hh;cases hh
   case h3=>exact λ_=>Ko (Zh ⟨_,_,rfl⟩)
  case hend=>exact λZ ⟨x1,x2,e⟩=>⟨_,rfl⟩
theorem Ck{ls:L3}{n:Nat}(hn:n<=6)(h1:1<=ls.length)(h7:ls.length<=7)(h:∀rs∈ls,Vh n rs):WG [.list (ls.map Ku),.int n]=ju .none:=by
 refine So (Z:=[pb (.list (ls.map Ku)),pb (.int n),jw,jw]) jv ?_;unfold V4;have hlen:U5 [.list (ls.map Ku)]=ju (.int ls.length):=by rw[K1,Qb]
 apply Kg;apply Kd
 case h1=>exact K9 (Z1:=[pb (.list (ls.map Ku)),pb (.int n),jw,jw]) (Zz (UH jv) jv) (Zr (RI UN (Kz jv hlen) jv (λ_=>UN) (λ_=>rfl)))
 case h2=>
  intro hh;have a1:(1:Int)<=(ls.length:Int):=by omega
  have a2:(ls.length:Int)<=7:=by omega
  simp[a1,a2]at hh
 case h3=>
  intro _;refine Ko (Kj ?_);apply Zu (λ_ Z=>∃x2 x3,Z=[pb (.list (ls.map Ku)),pb (.int n),x2,x3])
  case h1=>exact WU (UK (UH jv) UP) W0
  case h0=>exact⟨_,_,rfl⟩
  case hst=>
   rintro i d Z hi ⟨x1,x2,rfl⟩;obtain⟨x,hx,rfl⟩:=XQ hi;obtain⟨rs,hrs,rfl⟩:=Qu.mp (Qp hx);refine⟨_,KF jv (U4 (UY (Qa jv) jv) (U4 (UY (Qa jv) jv) KG)),?_⟩;unfold NJ;have hfl:=Ss (h rs hrs);apply Kd
   case h1=>exact Zr (ZC (Kb (UK (UH jv) (UK (UH jv) UP)) jv (qK (h rs hrs) hn (by omega))))
   case h2=>intro hh;cases hh
   case h3=>exact λ_=>Ko (Zh ⟨_,_,rfl⟩)
  case hend=>exact λZ ⟨x1,x2,e⟩=>⟨_,rfl⟩
theorem PL{cs:jA}{ls:L3}(g:Good cs ls):Yj [Ke cs ls]=ju .none:=by
 refine So (Z:=[pb (Ke cs ls),jw,jw]) jv ?_;unfold V3;apply Kg;apply Kd
 case h1=>exact K9 (Z1:=[pb (Ke cs ls),jw,jw]) (Zz (UH jv) jv) (US (Kz jv jv) UN YG)
 case h2=>intro hh;cases hh
 case h3=>
  intro _;refine Ko (Kj ?_);have hlen:U5 [.list (cs.map int)]=ju (.int (cs.length:Nat)):=by rw[K1,Qb]
  refine U3 (WN (UH jv) (KF jv (U4 (UY (Qa jv) jv) (U4 (UY (Qa jv) jv) KG)))) ?_;refine U3 (WS (Kb (UK (UH jv) UP) jv (Bz g.c1 g.c6 g.c7))) ?_;exact ZD (WS (Kb (UK (UH jv) (UK (Kz jv hlen) UP)) jv (Ck g.c6 g.l1 g.l7 g.rk))) ⟨_,rfl⟩
theorem Mw:∀(xs ys:jA),PyData.eqvAll (xs.map int) (ys.map int)=decide (xs=ys)
 |[],[]=>rfl
 |[],y::ys=>by simp[PyData.eqvAll]
 |x::xs,[]=>by simp[PyData.eqvAll]
 |x::xs,y::ys=>by
  have ih:=Mw xs ys
  show(Ux (.int x) (.int y)&&PyData.eqvAll (xs.map int) (ys.map int))=_
  rw[ih];have:Ux (.int x) (.int y)=decide (x=y):=rfl;rw[this,Bool.eq_iff_iff];simp
theorem By{xs:jA}:oNe (.list (xs.map int)) (.list [])=ju (!decide (xs=[])):=by
 unfold oNe;have h1:(Ur (xs.map int)).canLay0=jx:=N9 xs;have h3:(Ur (xs.map int)).depth<=60:=by have:=N8 xs;unfold K6 at this;omega
 rw[Qo ⟨h1,rfl,h3⟩]
 congr 2
 exact Mw xs []
theorem Rv{xs:jz}{x:D}(h:xs.getLast?=ju x):oIx (.list xs) (.int (-1))=ju x:=by
 unfold oIx atI;have hl:xs≠[]:=by rintro rfl;cases h
 have hp:0<xs.length:=List.length_pos_iff.mpr hl;rw[List.getLast?_eq_getElem?]at h
 show(ixN xs.length (-1)).bind _=_
 unfold ixN;rw[QC (by decide),Qo (by omega)];have e2:(-1+(xs.length:Int)).toNat=xs.length-1:=by omega
 simp only[Option.bind_some];rw[e2];exact h
theorem Pp{xs:jA}{k:Nat}(h:k<xs.length):oIx (.list (xs.map int)) (.int k)=ju (.int (xs.getD k 0)):=by refine KE ?_;rw[Qf,Qe h];simp[List.getD,List.getElem?_eq_getElem h]
theorem RS(ns:jA)(k:Nat)(hl:ns.length<=1000):∃v,Yi [.list (ns.map int),.int k]=ju (.int v):=by
 have hlen:U5 [.list (ns.map int)]=ju (.int ns.length):=by rw[K1,Qb]
 by_cases h:k<ns.length
 .refine⟨ns.getD k 0,K3 (Z:=[pb (.list (ns.map int)),pb (.int k)]) jv ?_⟩
  unfold Wh;apply Kg;apply Kd
  case h1=>exact K8 jv (Kz jv hlen) jv
  case h2=>exact λ_=>Kc (Kk jv (UH jv) (Pp h)) (KO jv)
  case h3=>
        intro hh;have:¬(k:Int)<(ns.length:Int):=by simpa using hh
        omega
 .refine⟨0,K3 (Z:=[pb (.list (ns.map int)),pb (.int k)]) jv ?_⟩
  unfold Wh;apply Kg;apply Kd
  case h1=>exact K8 jv (Kz jv hlen) jv
  case h2=>
        intro hh;have:(k:Int)<(ns.length:Int):=by simpa using hh
        omega
  case h3=>exact λ_=>Ko (Kj (Kc UN jv))
def tab:jA:=[1,1,2,0,3,7,1,4,5,6,1]
theorem OK{z:Int}(h0:0<=z)(h1:z<11):oIx (.list (tab.map int)) (.int z)=ju (.int (tab.getD z.toNat 0))/\0<=tab.getD z.toNat 0/\tab.getD z.toNat 0<8:=by
 have e:z=0∨z=1∨z=2∨z=3∨z=4∨z=5∨z=6∨z=7∨z=8∨z=9∨z=10:=by omega
 rcases e with rfl|rfl|rfl|rfl|rfl|rfl|rfl|rfl|rfl|rfl|rfl<;>exact⟨rfl,by decide,by decide⟩
structure W8(n:Nat)(pl:jA)(j:Nat)(rs:List jA):Prop where
 few:rs.length<=j
 some:∀r∈rs,r≠[]
 there:∀r∈rs,∀t∈r,(0<=t/\t<n)/\pl.getD t.toNat 0<1+(j:Int)
 once:rs.flatten.Nodup
def WL(n:Nat)(pl:jA)(r:Int):jA:=((Up n).filter λk=>decide (pl.getD k 0=r)).map λk:Nat=>(k:Int)
theorem qJ(n:Nat)(pl:jA)(r:Int):(WL n pl r).Nodup:=by unfold WL;refine List.Pairwise.map _ (λa b h e=>h (by omega)) ((List.nodup_range).filter _)
theorem MP{n:Nat}{pl:jA}{r t:Int}(h:t∈WL n pl r):(0<=t/\t<n)/\pl.getD t.toNat 0=r:=by
 unfold WL at h;obtain⟨k,hk,rfl⟩:=Qu.mp h;have hk:=Uc.mp hk;have h1:=Je.mp hk.1;have h2:pl.getD k 0=r:=by simpa using hk.2
 exact⟨⟨by omega,by omega⟩,by rw[Q0];exact h2⟩
theorem W8.add{n:Nat}{pl:jA}{j:Nat}{rs:List jA}{row:jA}(g:W8 n pl j rs)(hne:row≠[])(hm:∀t∈row,t∈WL n pl (1+(j:Int)))(hn:row.Nodup):W8 n pl (j+1) (rs++[row]) where
 few:=by rw[Qi,QQ];have:=g.few;omega
 some:=λr hr=>by
  rcases QO.mp hr with z|z
  .exact g.some r z
  .rw[Qy.mp z];exact hne
 there:=λr hr t ht=>by
  rcases QO.mp hr with z|z
  .have:=g.there r z t ht;exact⟨this.1,by omega⟩
  .rw[Qy.mp z]at ht
   have:=MP (hm t ht);exact⟨this.1,by omega⟩
 once:=by rw[List.flatten_append,List.flatten_singleton];refine List.nodup_append.mpr ⟨g.once,hn,λa ha b hb e=>?_⟩;subst e;obtain⟨r,hr,har⟩:=JH.mp ha;have h1:=(g.there r hr a har).2;have h2:=(MP (hm a hb)).2;omega
theorem W8.next{n:Nat}{pl:jA}{j:Nat}{rs:List jA}(g:W8 n pl j rs):W8 n pl (j+1) rs:=
 ⟨by have:=g.few;omega,g.some,λr hr t ht=>⟨(g.there r hr t ht).1,by have:=(g.there r hr t ht).2;omega⟩,g.once⟩
theorem Np{x:D}{m:Nat}(h:m<=1000):U9 (.list [x]) (.int m)=ju (.list (Uq m x)):=by
 rw[RN ⟨by omega,by omega,by rw[Q0];show 1*m<=_;omega⟩,Q0]
 congr 2
 induction m with
 |zero=>rfl
 |succ m ih=>rw[Q4,QU,ih (by omega)];rfl
def szG(T A:Nat):jA:=(T:Int)::(A:Int)::Uq T 11
def ZR(T R:Nat):jA:=Uq T ((R:Int)+1)++[2]
theorem No{T A:Nat}:(szG T A).length=T+2:=by unfold szG;simp
theorem Mv{T R:Nat}:(ZR T R).length=T+1:=by unfold ZR;simp
theorem GU{T A:Nat}(h1:1<=T)(h2:T<=6)(h3:1<=A)(h4:A<=7):∀x∈szG T A,0<x/\x<18446744073709551616:=λx hx=>by unfold szG at hx;simp only[Ql,JT]at hx;rcases hx with rfl|rfl|⟨_,rfl⟩<;>omega
theorem EU{T R:Nat}(h:R<=5):∀x∈ZR T R,0<x/\x<18446744073709551616:=λx hx=>by unfold ZR at hx;simp only[List.mem_append,Qy,JT]at hx;rcases hx with ⟨_,rfl⟩|rfl<;>omega
theorem BJ{T R:Nat}:(ZR T R)[T]?=ju 2:=by unfold ZR;simp
theorem GT{T A k:Nat}(h:k<T):(szG T A)[2+k]?=ju 11:=by unfold szG;rw[show 2+k=k+1+1 by omega,JP,JP,Qw,Qo h]
def RX(T A R:Nat)(S dz:D)(at_ n:Nat)(cs pl:jA)(ls:L3)(x9 kj:Option Sl)(j:Nat)(Z:UF):Prop:=∃(rs:List jA)(xI ki:Option Sl),
 Z=[pb S,pb (.int at_),pb (.int (T:Nat)),pb (.int (A:Nat)),pb (.int (R:Nat)),pb dz,ju (.own (cs.map int)),ju (.own (ls.map Ku)),x9,kj,pb (.list (pl.map int)),ju (.own (rs.map K6)),xI,ki]/\W8 n pl j rs
theorem Aq{T A R:Nat}{S dz:D}{at_ n:Nat}{cs pl:jA}{ls:L3}{v9 v10:D}{j:Nat}{d:D}{Z:UF}{Q:Out->Prop}(hcs:cs.length=n)(hT:T<=6)(hR:R<=5)(hn:n<=T)(hpl:pl.length=T+1)(jX:pl.getD T 0=0∨pl.getD T 0=1)
  (hj:(Zv 1 ((R:Int)+1))[j]?=ju d) (h:RX T A R S dz at_ n cs pl ls (ju (.pub v9)) (ju (.pub v10)) j Z) :
  ∃Z2,gN 12 d Z=ju Z2/\Ho Pr Z2 (W6 (RX T A R S dz at_ n cs pl ls (ju (.pub v9)) (ju (.pub v10)) (j+1)) Q):=by
 obtain⟨rs,xI,ki,rfl,g⟩:=h;obtain⟨rfl,hlt⟩:=XN hj;have hj5:j<R:=by omega
 refine⟨_,UY (Qa jv) jv,?_⟩;unfold Pr
 have hrd:Zv 0 ((n:Nat):Int)=(Up n).map λk=>.int (k:Int):=by
  unfold Zv;have:((n:Int)-0).toNat=n:=by omega
  rw[this];apply List.map_congr_left;intro k _;rw[JS]
 have hc:KB (gN 14) (UJ oEq (UR 10 (UE 14)) (UE 12)) (UE 14) (Zv 0 ((n:Nat):Int)) (Kf [pb S,pb (.int at_),pb (.int (T:Nat)),pb (.int (A:Nat)),pb (.int (R:Nat)),pb dz,ju (.own (cs.map int)),ju (.own (ls.map Ku)),pb v9,pb v10,pb (.list (pl.map int)),ju (.own (rs.map K6)),pb (.int (1+(j:Int))),ki]++Uq 1 jw) []=ju ((WL n pl (1+(j:Int))).map int):=by
  rw[hrd,X7 (λd=>match d with | .int k=>decide (pl.getD k.toNat 0=1+(j:Int))|_=>jy) (λd=>d) (λZ=>∃x,Z=[pb S,pb (.int at_),pb (.int (T:Nat)),pb (.int (A:Nat)),pb (.int (R:Nat)),pb dz,jw,jw,pb v9,pb v10,pb (.list (pl.map int)),jw,pb (.int (1+(j:Int))),XE ki,x])]
  .rw[JD,List.map_id',List.filter_map]
   unfold WL;rw[Jb];rfl
  .rintro d hm Z ⟨x,rfl⟩
   obtain⟨k,hk,rfl⟩:=Qu.mp hm;have hk:=Je.mp hk;refine⟨_,UY (Qa jv) jv,US (Kk jv (UH jv) (Pp (by omega))) (UH jv) WT,λ_=>UH jv,pb (.int k),?_⟩;unfold Kf;cases ki with
   |none=>rfl
   |some sl=>cases sl<;>rfl
  .exact⟨jw,rfl⟩
  .rw[Qb,Ji,QM];omega
 have hlen:(cs.map int).length=n:=by rw[Qb,hcs]
 refine U3 (Zy (ZX (XZ (UK (NX jv) UP) (by rw[hlen];exact X6 (by omega) (by omega))) hc) (Qa jv) jv) ?_;generalize xS:WL n pl (1+(j:Int))=row;apply Kd
 case h1=>exact RH jv (KQ UP (by decide)) jv By
 case h2=>
  intro hh;have hne:row≠[]:=by simpa using hh
  have hlx:oIx (.list (pl.map int)) (.int (-1))=ju (.int (pl.getD T 0)):=Rv (by rw[List.getLast?_eq_getElem?,Qb,hpl,Qf,Nat.add_sub_cancel,Qe (show T<pl.length by omega)];simp[List.getD,List.getElem?_eq_getElem (show T<pl.length by omega)])
  obtain⟨kF,hix,kH⟩:∃kF:jA,oIx (.list [.list (row.map int),.list (row.map int).reverse]) (.int (pl.getD T 0))=ju (K6 kF)/\(kF=row∨kF=row.reverse):=by
   rcases jX with e|e
   .rw[e];exact⟨row,rfl,.inl jv⟩
   .rw[e];exact⟨row.reverse,by show ju (Ur (row.map int).reverse)=_;unfold K6;rw[List.map_reverse],.inr jv⟩
  have hrl:(rs.map K6).length<1000000:=by rw[Qb];have:=g.few;omega
  refine ZD (Xd jv (US (KQ (UK (Z8 jv jv) (UK (R7 (UH jv) UN UN (Yr (XJ UN))) UP)) (Qa jv)) (Kk jv (XJ UN) hlx) hix) jv hrl jv) ?_;refine Zh ⟨rs++[kF],pb (.int (1+(j:Int))),pb (.list (row.map int)),by rw[QT];rfl,g.add ?_ ?_ ?_⟩
  .rcases kH with e|e<;>rw[e]
   .exact hne
   .exact λz=>hne (List.reverse_eq_nil_iff.mp z)
  .intro t ht
   rw[xS];rcases kH with e|e<;>rw[e]at ht
   .exact ht
   .exact J7.mp ht
  .have hnd:=qJ n pl (1+(j:Int))
   rw[xS]at hnd;rcases kH with e|e<;>rw[e]
   .exact hnd
   .exact(List.reverse_perm row).nodup_iff.mpr hnd
 case h3=>exact λ_=>Ko (Zh ⟨rs,_,_,rfl,g.next⟩)
def RW(T A R:Nat)(S dz:D)(at_ n:Nat)(cs:jA)(i:Nat)(Z:UF):Prop:=∃(ls:L3)(x9 kj jP x12 xI ki:Option Sl),
 Z=[pb S,pb (.int at_),pb (.int (T:Nat)),pb (.int (A:Nat)),pb (.int (R:Nat)),pb dz,ju (.own (cs.map int)),ju (.own (ls.map Ku)),x9,kj,jP,x12,xI,ki]/\ls.length=i/\∀rs∈ls,Vh n rs/\rs.length<=R
theorem qI{T A R:Nat}{ns:jA}{dz:D}{at_ n:Nat}{cs:jA}{i:Nat}{m:Int}{d:D}{Z:UF}{Q:Out->Prop}(hns:ns.length<=1000)(hT:T<=6)(hR:R<=5)(hcs:cs.length=n)(hn:n<=T)(hm:m<=100)
  (hi:(Zv 0 m)[i]?=ju d) (h:RW T A R (.list (ns.map int)) dz at_ n cs i Z) :
  ∃Z2,gN 8 d Z=ju Z2/\Ho Pq Z2 (W6 (RW T A R (.list (ns.map int)) dz at_ n cs (i+1)) Q):=by
 obtain⟨ls,x9,kj,jP,x12,xI,ki,rfl,hl,hg⟩:=h;obtain⟨rfl,hlt⟩:=XN hi;refine⟨_,UY (Qa jv) jv,?_⟩;unfold Pq;obtain⟨v,hv⟩:=RS ns (at_+1+i) hns;have ev:((at_:Int)+1+(0+(i:Int)))=((at_+1+i:Nat):Int):=by omega
 rw[←ev]at hv;refine U3 (Kl (Kb (UK (UH jv) (UK (US (US (UH jv) UN KI) (UH jv) KI) UP)) jv hv) (Qa jv) jv) ?_;obtain⟨r,hF,pl,rfl,hpl,hpb⟩:=TQ v (11*(at_:Int)+3*(0+(i:Int))+1) (sizes:=ZR T R) (EU hR) (by rw[Mv];omega);have hpl7:pl.length=T+1:=by rw[hpl,Mv]
 have hmul:U9 (.list [.int ((R:Int)+1)]) (.int (T:Nat))=ju (.list (Uq T (.int ((R:Int)+1)))):=Np (by omega);have hadd:UU (.list (Uq T (.int ((R:Int)+1)))) (.list [.int 2])=ju (.list ((ZR T R).map int)):=by rw[Ys (by rw[QB];show T+1<=_;omega)];unfold ZR;rw[QT,List.map_replicate];rfl
 refine U3 (Kl (Kb (UK (UH jv) (UK (US (US (US UN (UH jv) (Xl (by decide) (by decide))) (US UN (UH jv) (Xl (by decide) (by decide))) KI) UN KI) (UK (US (US (KQ (UK (US (UH jv) UN KI) UP) (Qa jv)) (UH jv) hmul) (KQ (UK UN UP) (Qa jv)) hadd) UP))) jv hF) (Qa jv) jv) ?_;refine U3 (Zy (XU UP (Qa jv)) (Qa jv) jv) ?_
 have jX:pl.getD T 0=0∨pl.getD T 0=1:=by
  have e:pl[T]?=ju pl[T]:=Qe (by omega);have:=hpb T pl[T] 2 e BJ;have e2:pl.getD T 0=pl[T]:=by simp[List.getD,e]
  rw[e2];omega
 apply Kg;apply Zu (RX T A R (.list (ns.map int)) dz at_ n cs pl ls (ju (.pub (.int (0+(i:Int))))) (ju (.pub (.int v))))
 case h1=>exact Px (UK UN (UK (US (UH jv) UN KI) UP)) (PQ (by omega) (by omega) (by decide) (by decide))
 case h0=>exact⟨[],xI,ki,rfl,⟨Qq _,λ_ h=>(by cases h),λ_ h=>(by cases h),J5⟩⟩
 case hst=>exact λj d Z e h=>Aq hcs hT hR hn hpl7 jX e h
 case hend=>
  rintro Z ⟨rs,y13,y14,rfl,g⟩;refine Kj ?_;have hl5:(Zv 1 ((R:Int)+1)).length=R:=by rw[YJ];omega
  rw[hl5]at g;have ke:(ls.map Ku).length<1000000:=by rw[Qb];omega
  refine ZD (Xd jv (Z8 jv jv) jv ke jv) ?_;refine Zh ⟨ls++[rs],pb (.int (0+(i:Int))),pb (.int v),pb (.list (pl.map int)),pb (.list (rs.map K6)),y13,y14,by rw[QT];rfl,by rw[Qi,hl];rfl,λx hx=>?_⟩;rcases QO.mp hx with z|z
  .exact hg x z
  .rw[Qy.mp z];exact⟨⟨by have:=g.few;omega,g.some,λr hr t ht=>(g.there r hr t ht).1,g.once⟩,g.few⟩
theorem ja(T A R:Nat){ns:jA}(hns:ns.length<=1000)(at_:Nat)(hT1:1<=T:=by decide)(hT:T<=6:=by decide)(hA1:1<=A:=by decide)(hA:A<=7:=by decide)(hR:R<=5:=by decide):∃r,Wx [.list (ns.map int),.int at_,.int (T:Nat),.int (A:Nat),.int (R:Nat)]=ju r/\∃cs ls,r=Ke cs ls/\Good cs ls/\cs.length<=T/\ls.length<=A/\∀rs∈ls,rs.length<=R:=by
 obtain⟨v,hv⟩:=RS ns at_ hns;obtain⟨r,hF,ds,rfl,hl,hd⟩:=TQ v at_ (sizes:=szG T A) (GU hT1 hT hA1 hA) (by rw[No];omega);have hl8:ds.length=T+2:=by rw[hl,No]
 have at':∀(j:Nat)(k z:Int),k=j->(szG T A)[j]?=ju z->∃d,oIx (.list (ds.map int)) (.int k)=ju (.int d)/\ds[j]?=ju d/\0<=d/\d<z:=λj k z hk hz=>by
  subst hk;have hj:j<ds.length:=by rw[hl];exact(Qh.mp hz).1
  have e:ds[j]?=ju ds[j]:=Qe hj;obtain⟨p0,p1⟩:=hd j ds[j] z e hz;exact⟨ds[j],KE (by rw[Qf,e];rfl),e,p0,p1⟩
 obtain⟨d0,x0,e0,p0,q0⟩:=at' 0 0 T jv jv;obtain⟨d1,x1,e1,p1,q1⟩:=at' 1 1 A jv jv;have hmul:U9 (.list [.int 11]) (.int (T:Nat))=ju (.list (Uq T (.int 11))):=Np (by omega);have hadd:UU (.list [.int (T:Nat),.int (A:Nat)]) (.list (Uq T (.int 11)))=ju (.list ((szG T A).map int)):=by rw[Ys (by rw[QB];show 2+T<=_;omega)];unfold szG;rw[QN,QN,List.map_replicate];rfl
 obtain⟨n,hn⟩:∃n:Nat,1+d0=n:=⟨(1+d0).toNat,by omega⟩
 refine XI (Z:=[pb (.list (ns.map int)),pb (.int at_),pb (.int (T:Nat)),pb (.int (A:Nat)),pb (.int (R:Nat)),jw,jw,jw,jw,jw,jw,jw,jw,jw]) jv ?_;unfold VG;refine U3 (Kl (Kb (UK (Kb (UK (UH jv) (UK (UH jv) UP)) jv hv) (UK (UH jv) (UK (US (KQ (UK (UH jv) (UK (UH jv) UP)) (Qa jv)) (US (KQ (UK UN UP) (Qa jv)) (UH jv) hmul) hadd) UP))) jv hF) (Qa jv) jv) ?_
 have xx:DL.cutD (ds.map int) (ju 2) (ju (3+d0))=((ds.drop 2).take n).map int:=by
  rw[PP (by decide) (by omega) (by omega)];have:(3+d0).toNat-(2:Int).toNat=n:=by omega
  rw[this];rfl
 have xb:((ds.drop 2).take n).length=n:=by rw[Jh,JG,hl8];omega
 have each:∀z∈(ds.drop 2).take n,0<=z/\z<11:=λz hz=>by
  have hz:=JW hz;obtain⟨k,hk,e⟩:=List.getElem_of_mem hz;rw[JG,hl8]at hk;rw[List.getElem_drop]at e;have e2:ds[2+k]?=ju z:=by rw[←e];exact Qe _
  refine hd (2+k) z 11 e2 (GT ?_);omega
 let cs:jA:=((ds.drop 2).take n).map λz=>tab.getD z.toNat 0
 have hcl:cs.length=n:=by show(List.map _ _).length=n;rw[Qb,xb]
 have hc:∀xs:List (Option Sl),Kf xs=xs->xs.length=14->KB (gN 14) (UL jx) (UJ oIx (U2 (UI (UL (.int 1)) (UI (UL (.int 1)) (UI (UL (.int 2)) (UI (UL (.int 0)) (UI (UL (.int 3)) (UI (UL (.int 7)) (UI (UL (.int 1)) (UI (UL (.int 4)) (UI (UL (.int 5)) (UI (UL (.int 6)) (UI (UL (.int 1)) (UG))))))))))))) (UE 14)) (((ds.drop 2).take n).map int) (Kf xs++Uq 1 jw) []=ju (cs.map int):=by
  intro xs hx hxl;rw[hx,X7 (λ_=>jx) (λd=>match d with | .int z=>.int (tab.getD z.toNat 0)|_=>.none) (λZ=>∃x,Z=xs++[x])]
  .rw[List.filter_eq_self.mpr (λ_ _=>rfl),JD,Jb]
   show _=ju ((((ds.drop 2).take n).map λz=>tab.getD z.toNat 0).map int);rw[Jb];rfl
  .rintro d hm Z ⟨x,rfl⟩
   obtain⟨z,hz,rfl⟩:=Qu.mp hm;have ht:=OK (each z hz).1 (each z hz).2;have hset:(xs++[x]).set 14 (ju (Sl.pub (.int z)))=xs++[pb (.int z)]:=by rw[List.set_append_right _ _ (by omega),hxl];rfl
   have hget:(xs++[ju (Sl.pub (.int z))])[14]?=ju (ju (Sl.pub (.int z))):=by rw[Qs (by omega),hxl];rfl
   refine⟨_,UY (by rw[Qi,hxl];exact Qa jv) hset,rfl,λ_=>?_,pb (.int z),?_⟩
   .exact US (KQ (UK UN (UK UN (UK UN (UK UN (UK UN (UK UN (UK UN (UK UN (UK UN (UK UN (UK UN UP))))))))))) (Qa jv)) (UH hget) ht.1
   .unfold Kf at hx⊢
    rw[QT,hx];rfl
  .exact⟨jw,rfl⟩
  .rw[Qb,xb,QM];omega
 refine U3 (Zy (ZX (Zt (WR (UH jv) (Yr UN) (Yr (US UN (Kk jv UN x0) KI)) (by rw[WZ,xx])) ZP) (hc _ jv jv)) (Qa jv) jv) ?_;refine U3 (Zy (XU UP (Qa jv)) (Qa jv) jv) ?_;apply Kg;apply Zu (RW T A R (.list (ns.map int)) (.list (ds.map int)) at_ n cs)
 case h1=>exact XZ (UK (US UN (Kk jv UN x1) KI) UP) (X6 (by omega) (by omega))
 case h0=>exact⟨[],_,_,_,_,_,_,rfl,rfl,λ_ h=>by cases h⟩
 case hst=>exact λi d Z e h=>qI hns hT hR hcl (by omega) (by omega) e h
 case hend=>rintro Z ⟨ls,y9,y10,y11,y12,y13,y14,rfl,ke,hg⟩;rw[YJ]at ke;refine Kj (Kc (Zs (UK (Z8 rfl rfl) (UK (Z8 rfl rfl) UP)) (Qa rfl)) ⟨_,rfl,cs,ls,rfl,⟨?_,by omega,by omega,λrs hrs=>(hg rs hrs).2⟩⟩);exact⟨by omega,by omega,λc hc=>by obtain⟨z,hz,rfl⟩:=Qu.mp hc;exact(OK (each z hz).1 (each z hz).2).2,by omega,by omega,λrs hrs=>by rw[hcl];exact(hg rs hrs).1⟩
def ZJ(t:Int)(rs:List jA):Nat:=if rs.findIdx (λr=>r.contains t)<rs.length then rs.findIdx (λr=>r.contains t)+1 else 0
theorem ET(a b:Int):Ux (.int a) (.int b)=(a==b):=by simp[Ux]
theorem Po(t:Int)(r:jA):oIn (.int t) (K6 r)=ju (r.contains t):=by
 have h1:Uv (r.map int)=jx:=by
  induction r with
  |nil=>rfl
  |cons x r ih=>rw[QN];unfold Uv;rw[ih];rfl
 unfold oIn K6;dsimp only;rw[Qo ⟨rfl,h1,Ub _⟩]
 congr 1
 rw[List.any_map];clear h1;induction r with
 |nil=>rfl
 |cons x r ih=>
  rw[List.any_cons,ih,Q2]
  congr 1
  show Ux (.int x) (.int t)=(t==x);rw[ET];exact Bool.eq_iff_iff.2 ⟨λh=>beq_iff_eq.2 (beq_iff_eq.1 h).symm,λh=>beq_iff_eq.2 (beq_iff_eq.1 h).symm⟩
theorem MN{t:Int}{rs:List jA}{i:Nat}{r:jA}(hr:rs[i]?=ju r)(h:r.contains t=jx)(hb:∀j r,j<i->rs[j]?=ju r->r.contains t=jy):ZJ t rs=1+i:=by obtain⟨hi,e⟩:=List.getElem?_eq_some_iff.1 hr;have hf:rs.findIdx (λr=>r.contains t)=i:=(List.findIdx_eq hi).2 ⟨by rw[e];exact h,λj hj=>hb j _ hj (Qe (Nat.lt_trans hj hi))⟩;unfold ZJ;rw[hf,Qo hi,Nat.add_comm]
theorem MM{t:Int}{rs:List jA}(hb:∀j r,j<rs.length->rs[j]?=ju r->r.contains t=jy):ZJ t rs=0:=by
 have hf:rs.findIdx (λr=>r.contains t)=rs.length:=List.findIdx_eq_length.2 λr hr=>by obtain⟨j,hj,e⟩:=List.mem_iff_getElem.1 hr;exact hb j r hj (by rw[Qe hj,e])
 unfold ZJ;rw[hf,QC (Jg _)]
theorem Lm(t:Int)(rs:List jA):Y0 [Ku rs,.int t]=ju (.int (ZJ t rs:Nat)):=by
 refine K3 (Z:=[pb (Ku rs),pb (.int t),jw,jw]) jv ?_;unfold V2;apply Kg;apply Zu (λi Z=>(∃x2 x3,Z=[pb (Ku rs),pb (.int t),x2,x3])/\∀j r,j<i->rs[j]?=ju r->r.contains t=jy)
 case h1=>exact DX (UK (UH jv) UP) BZ
 case h0=>exact⟨⟨_,_,rfl⟩,λj r h=>absurd h (J4 _)⟩
 case hst=>
  rintro i d Z hi ⟨⟨x2,x3,rfl⟩,hb⟩;obtain⟨x,hx,rfl⟩:=XQ hi;rw[Qf]at hx;cases hr:rs[i]? with
  |none=>rw[hr]at hx;cases hx
  |some r=>
   rw[hr]at hx;cases hx;refine⟨_,KF jv (U4 (UY (Qa jv) jv) (U4 (UY (Qa jv) jv) KG)),?_⟩;unfold NK;apply Kd
   case h1=>exact K8 jv (UH jv) (Po t r)
   case h2=>intro hh;refine Kc (UH jv) (YF ?_);rw[MN hr hh hb];exact⟨rfl⟩
   case h3=>
    intro hh;refine Ko (Zh ⟨⟨_,_,rfl⟩,λj r' hj hr'=>?_⟩);rcases Nat.lt_succ_iff_lt_or_eq.1 hj with h|rfl
    .exact hb j r' h hr'
    .rw[hr]at hr';cases hr';exact hh
 case hend=>rintro Z ⟨⟨x2,x3,rfl⟩,hb⟩;rw[Y6,Qb]at hb;refine Kj ?_;rw[MM hb];exact Kc UN rfl
def UO:jD->D
 |none=>.none
 |some t=>.int t
def U6(ws:LO):D:=.list (ws.map UO)
structure Deal(cs:jA)(ls:L3)(ws:LO):Prop where
 len:ws.length=ls.length
 wish:∀(i:Nat) t rs,ws[i]?=ju (ju t)->ls[i]?=ju rs->t∈rs.flatten
 cop:∀(k:Nat) c,cs[k]?=ju c->((ws.count (ju (k:Int)):Nat):Int)<=c
theorem Ll{t:Int}{rs:List jA}(h:t∈rs.flatten):ZJ t rs≠0:=by obtain⟨r,hr,ht⟩:=JH.mp h;have:rs.findIdx (λr=>r.contains t)<rs.length:=List.findIdx_lt_length_of_exists ⟨r,hr,by simpa using ht⟩;unfold ZJ;rw[Qo this];omega
theorem WY(ws:LO):Uv (ws.map UO)=jx:=TH λx hx=>by obtain⟨y,_,rfl⟩:=Qu.mp hx;cases y<;>rfl
theorem Pn(a b:jD):Ux (UO a) (UO b)=decide (a=b):=by rw[Bool.eq_iff_iff];cases a<;>cases b<;>simp[UO,Ux]
theorem P0{ws:LO}{k:Int}:WV (U6 ws) (.int k)=ju (.int (ws.count (ju k):Nat)):=by
 unfold U6 WV;dsimp only;rw[if_pos ⟨rfl,WY ws,by simp[Uw]⟩]
 congr 3
 induction ws with
 |nil=>rfl
 |cons w r ih=>
  rw[QN,List.countP_cons,List.count_cons,ih]
  congr 1
  have:=Pn w (ju k);have e:UO (ju k)=.int k:=rfl;rw[e]at this;rw[this];cases w with
  |none=>simp
  |some z=>simp
theorem Mu{f:M jz}{k:Nat}{s:D->UF->jG}{t:M Bool}{g:M D}{Z Z1:UF}{ds es:jz}(h1:f Z=.ok ds Z1)(h2:KB s t g ds (K7 Z1++Uq k jw) []=ju es)(h3:es.all flat=jx):Tx f k s t g Z=.ok es Z1:=by unfold Tx;rw[h1];dsimp only;rw[h2];dsimp only;rw[if_pos h3]
theorem RB{cs:jA}{ls:L3}{rs:List jA}{i:Nat}(hi:ls[i]?=ju rs)(hl:rs.flatten.length<64):ZO [Ke cs ls,.int i]=ju (.list ((ZL rs.flatten).map int)):=by
 refine K3 (Z:=[pb (Ke cs ls),pb (.int i)]) jv ?_;unfold VD;have i1:oIx (Ke cs ls) (.int 1)=ju (.list (ls.map Ku)):=KE (j:=1) jv;have i2:oIx (.list (ls.map Ku)) (.int i)=ju (Ku rs):=KE (by rw[Qf,hi];rfl)
 have hs:Tl [Ku rs,.list []]=ju (.list (rs.flatten.map int)):=by
  have e:Ku rs=.list ((rs.map λr=>r.map int).map Ur):=by unfold Ku;rw[Jb];rfl
  have e2:(rs.map λr=>r.map int).flatten=rs.flatten.map int:=by rw[List.map_flatten]
  rw[e];unfold Tl;dsimp only;rw[AC];dsimp only;rw[e2,Qo (by rw[Qb];omega)]
 exact Kc (ZB (UK (ZB (UK (US (Kk jv UN i1) (UH jv) i2) (UK (KQ UP (Qa jv)) UP)) hs) UP) (Au hl)) jv
structure Vf(cs:jA)(ls:L3)(lf:jA)(ws:LO):Prop where
 wish:∀(i:Nat) t rs,ws[i]?=ju (ju t)->ls[i]?=ju rs->t∈rs.flatten
 len:lf.length=cs.length
 cop:∀(k:Nat) c,cs[k]?=ju c->lf[k]?=ju (c-((ws.count (ju (k:Int)):Nat):Int))/\0<=c-((ws.count (ju (k:Int)):Nat):Int)
theorem ML{ls:L3}{ws:LO}{o:jD}{rs:List jA}(h:∀(i:Nat) t rs,ws[i]?=ju (ju t)->ls[i]?=ju rs->t∈rs.flatten)(hi:ls[ws.length]?=ju rs)(ho:∀t,o=ju t->t∈rs.flatten) :
  ∀(i:Nat) t rs,(ws++[o])[i]?=ju (ju t)->ls[i]?=ju rs->t∈rs.flatten:=by
 intro j t rs' e1 e2;by_cases hj:j<ws.length
 .rw[Qr hj]at e1;exact h j t rs' e1 e2
 .by_cases va:j=ws.length
  .subst va
   rw[hi]at e2;cases e2;rw[Qs (Qq _),Nat.sub_self,List.getElem?_cons_zero]at e1;cases e1;exact ho t jv
  .rw[Jx (by rw[Qi,QQ];omega)]at e1
   cases e1
theorem Vf.none{cs:jA}{ls:L3}{lf:jA}{ws:LO}{rs:List jA}(d:Vf cs ls lf ws)(hi:ls[ws.length]?=ju rs):Vf cs ls lf (ws++[Option.none]) where
 wish:=ML d.wish hi λt e=>by cases e
 len:=d.len
 cop:=λk c e=>by rw[List.count_append];simpa using d.cop k c e
theorem Vf.give{cs:jA}{ls:L3}{lf:jA}{ws:LO}{rs:List jA}{t v:Int}(d:Vf cs ls lf ws)(hi:ls[ws.length]?=ju rs)(ht:t∈rs.flatten)(h0:0<=t)(hv:lf[t.toNat]?=ju v)(hp:0<v):Vf cs ls (lf.set t.toNat (v-1)) (ws++[ju t]) where
 wish:=ML d.wish hi λt' e=>by cases e;exact ht
 len:=by rw[Q6];exact d.len
 cop:=λk c e=>by
  obtain⟨h1,h2⟩:=d.cop k c e;rw[List.count_append];by_cases hk:t=(k:Int)
  .subst hk
   rw[Q0]at hv⊢;rw[h1]at hv;cases hv;have hl:k<lf.length:=(Qh.mp h1).1;rw[QG hl];simp only[List.count_singleton_self];refine⟨by congr 1;omega,by omega⟩
  .have hne:t.toNat≠k:=by omega
   rw[Qm hne];have:List.count (ju (k:Int)) [ju t]=0:=by rw[List.count_eq_zero];intro z;have:=Qy.mp z;exact hk (Qz this).symm
   rw[this];exact⟨h1,h2⟩
theorem Rn{os:LO}{k:Nat}(h:k<os.length):oIx (.list (os.map UO)) (.int k)=ju (UO os[k]):=KE (by rw[Qf,Qe h];rfl)
theorem Mt{ws:LO}{o:jD}:(ws++[o]).map UO=ws.map UO++[UO o]:=by rw[QT];rfl
def Vp(cs:jA)(ls:L3)(c s:D)(dg:jA)(i:Nat)(Z:UF):Prop:=∃(lf:jA)(ws:LO)(x6 x7 x8:Option Sl),
 Z=[pb (Ke cs ls),pb c,pb s,ju (.own (lf.map int)),pb (.list (dg.map int)),ju (.own (ws.map UO)),x6,x7,x8]/\ws.length=i/\Vf cs ls lf ws
theorem Ap{cs:jA}{ls:L3}{c s:D}{dg:jA}{i:Nat}{d:D}{Z:UF}{Q:Out->Prop}(g:Good cs ls)(hdl:dg.length=ls.length)(hd0:∀x∈dg,0<=x)(hi:(Zv 0 ls.length)[i]?=ju d)(h:Vp cs ls c s dg i Z) :
  ∃Z2,gN 6 d Z=ju Z2/\Ho Ps Z2 (W6 (Vp cs ls c s dg (i+1)) Q):=by
 obtain⟨lf,ws,x6,x7,x8,rfl,hw,dl⟩:=h;obtain⟨rfl,hlt⟩:=XN hi;have jT:i<ls.length:=by omega
 have hls:ls[i]?=ju ls[i]:=Qe jT;have gr:=g.rk _ (Qp hls);have hfl:=Ss gr;refine⟨_,UY (Qa jv) jv,?_⟩;unfold Ps;rw[JS];generalize hrs:ls[i]=rs at *;have hmem:∀t∈ZL rs.flatten,t∈rs.flatten:=λt ht=>(Y7 _).mem_iff.mp ht
 have hthere:∀t∈rs.flatten,0<=t/\t<lf.length:=λt ht=>by obtain⟨r,hr,htr⟩:=JH.mp ht;have:=gr.there r hr t htr;rw[dl.len];exact this
 let L:=(ZL rs.flatten).filter λt=>decide (0<lf.getD t.toNat 0)
 have hc:KB (gN 9) (UJ (oIB λi j=>decide (j<i)) (UR 3 (UE 9)) (UL (.int 0))) (UE 9) ((ZL rs.flatten).map int) (K7 [pb (Ke cs ls),pb c,pb s,ju (.own (lf.map int)),pb (.list (dg.map int)),ju (.own (ws.map UO)),pb (.int (i:Int)),x7,x8]++Uq 1 jw) []=ju (L.map int):=by
  rw[X7 (λd=>match d with | .int t=>decide (0<lf.getD t.toNat 0)|_=>jy) (λd=>d) (λZ=>∃x y7 y8,Z=[pb (Ke cs ls),pb c,pb s,pb (.list (lf.map int)),pb (.list (dg.map int)),pb (.list (ws.map UO)),pb (.int (i:Int)),y7,y8,x])]
  .rw[JD,List.map_id',List.filter_map]
   rfl
  .rintro d hm Z ⟨x,y7,y8,rfl⟩
   obtain⟨t,ht,rfl⟩:=Qu.mp hm;obtain⟨h0,h1⟩:=hthere t (hmem t ht);obtain⟨k,rfl⟩:∃k:Nat,t=k:=⟨t.toNat,by omega⟩
   refine⟨_,UY (Qa jv) jv,US (Kk jv (UH jv) (Pp (by omega))) UN jv,λ_=>UH jv,pb (.int k),XE y7,XE y8,rfl⟩
  .exact⟨jw,RT x7,RT x8,rfl⟩
  .rw[Qb,QM,(Y7 _).length_eq];have:=g.c6;omega
 have hLl:L.length<=6:=by have:L.length<=(ZL rs.flatten).length:=List.length_filter_le _ _;rw[(Y7 _).length_eq]at this;have:=g.c6;omega
 have hadd:UU (.list (L.map int)) (.list [.none])=ju (.list ((L.map ju++[jw]).map UO)):=by rw[Ys (by rw[Qb];show L.length+1<=_;omega),QT,Jb];rfl
 refine U3 (Kl (US (Kr (Mu (Zt (Kb (UK (UH jv) (UK (UH jv) UP)) jv (RB (cs:=cs) hls (by have:=g.c6;omega))) ZP) hc (by rw[List.all_map,Jc];exact λ_ _=>rfl))) (KQ (UK UN UP) (Qa jv)) hadd) (Qa jv) jv) ?_;have xk:(L.map ju++[jw]:LO).length=L.length+1:=by rw[Qi,Qb];rfl
 have hlen:U5 [.list ((L.map ju++[jw]:LO).map UO)]=ju (.int ((L.length+1:Nat):Int)):=by rw[K1,Qb,xk]
 have hdi:dg[i]?=ju dg[i]:=Qe (by omega);have hx0:=hd0 _ (Qp hdi);have hix:oIx (.list (dg.map int)) (.int (i:Int))=ju (.int dg[i]):=KE (by rw[Qf,hdi];rfl);have hm0:0<=dg[i] % ((L.length+1:Nat):Int):=Jw _ (by omega);have hm1:dg[i] % ((L.length+1:Nat):Int)<((L.length+1:Nat):Int):=Jf _ (by omega);obtain⟨k,hk⟩:∃k:Nat,dg[i] % ((L.length+1:Nat):Int)=k:=⟨(dg[i] % ((L.length+1:Nat):Int)).toNat,by omega⟩
 have kJ:k<(L.map ju++[jw]:LO).length:=by rw[xk];omega
 have jQ:=Rn (os:=L.map ju++[jw]) kJ;rw[←hk]at jQ;generalize ho:(L.map ju++[jw]:LO)[k]=o at jQ;refine U3 (Kl (Kk jv (US (Kk jv (UH jv) hix) (Kz jv hlen) (Z7 (by omega))) jQ) (Qa jv) jv) ?_;have jU:(ws.map UO).length<1000000:=by rw[Qb];have:=g.l7;omega
 have xW:ls[ws.length]?=ju rs:=by rw[hw];exact hls
 cases o with
 |none=>
  apply Kg;apply Kd
  case h1=>exact Tf (UH jv) jv
  case h2=>intro hh;cases hh
  case h3=>intro _;refine Ko (Kj ?_);refine ZD (Xd jv (UH jv) jv jU jv) ?_;exact Zh ⟨lf,ws++[jw],_,_,_,by rw[Mt (ws:=ws)];rfl,by rw[Qi,hw];rfl,dl.none xW⟩
 |some t=>
  have htL:t∈L:=by
   have hm:ju t∈(L.map ju++[jw]:LO):=ho ▸ Q5 kJ;rcases QO.mp hm with z|z
   .obtain⟨t',h1,h2⟩:=Qu.mp z
    cases h2;exact h1
   .cases Qy.mp z
  obtain⟨htm,htp⟩:=Uc.mp htL;have htf:=hmem t htm;obtain⟨h0,h1⟩:=hthere t htf;have hv:lf[t.toNat]?=ju lf[t.toNat]:=Qe (by omega);have hvd:lf.getD t.toNat 0=lf[t.toNat]:=by simp[List.getD,hv]
  have hpos:0<lf[t.toNat]:=by rw[hvd]at htp;simpa using htp
  have hvx:oIx (.list (lf.map int)) (.int t)=ju (.int lf[t.toNat]):=GM h0 (by rw[Qf,hv];rfl);apply Kg;apply Kd
  case h1=>exact Tf (UH jv) jv
  case h2=>intro _;refine ZD (Rr (US (Xf jv (UH jv) jv hvx) UN ZM) jv (UH jv) jv ⟨h0,by rw[Qb];exact h1⟩ jv) ?_;refine Kj ?_;refine ZD (Xd jv (UH jv) jv jU jv) ?_;exact Zh ⟨lf.set t.toNat (lf[t.toNat]-1),ws++[ju t],_,_,_,by rw[Mt (ws:=ws),←DY];rfl,by rw[Qi,hw];rfl,dl.give xW htf h0 hv hpos⟩
  case h3=>intro hh;cases hh
theorem A0{cs:jA}{ls:L3}(g:Good cs ls)(c s:Int):∃r,Wt [Ke cs ls,.int c,.int s]=ju r/\∃ws,r=U6 ws/\Deal cs ls ws:=by
 refine XI (Z:=[pb (Ke cs ls),pb (.int c),pb (.int s),jw,jw,jw,jw,jw,jw]) jv ?_;unfold VA;have i0:oIx (Ke cs ls) (.int 0)=ju (.list (cs.map int)):=KE (j:=0) jv;have i1:oIx (Ke cs ls) (.int 1)=ju (.list (ls.map Ku)):=KE (j:=1) jv;have hlen:U5 [.list (ls.map Ku)]=ju (.int ls.length):=by rw[K1,Qb]
 refine U3 (Zy (Ky (UK (Kk jv UN i0) UP) (ZH (show YD [.list (cs.map int)]=ju (cs.map int)from rfl))) (Qa jv) jv) ?_
 have hmul:U9 (.list [.int 61]) (.int ls.length)=ju (.list ((Uq ls.length (61:Int)).map int)):=by
  rw[RN ⟨by omega,by have:=g.l7;omega,by show 1*_<=_;have:=g.l7;omega⟩]
  congr 2
  rw[Q0];generalize ls.length=n;induction n with
  |zero=>rfl
  |succ n ih=>rw[Q4,QU,ih,Q4,QN];rfl
 obtain⟨r,hF,dg,rfl,hdl,hdb⟩:=TQ c s (sizes:=Uq ls.length (61:Int)) (λx hx=>by rw[(JT.mp hx).2];decide) (by rw[QB];have:=g.l7;omega);rw[QB]at hdl;refine U3 (Kl (Kb (UK (UH jv) (UK (UH jv) (UK (US (KQ (UK UN UP) (Qa jv)) (ZB (UK (Kk jv UN i1) UP) hlen) hmul) UP))) jv hF) (Qa jv) jv) ?_;refine U3 (Zy (XU UP (Qa jv)) (Qa jv) jv) ?_;apply Kg;apply Zu (Vp cs ls (.int c) (.int s) dg)
 case h1=>exact XZ (UK (ZB (UK (Kk jv UN i1) UP) hlen) UP) (X6 (by have:=g.l7;omega) (by omega))
 case h0=>exact⟨cs,[],_,_,_,rfl,rfl,⟨λ_ _ _ h=>(by cases h),rfl,λk c e=>by have:=g.c7 c (Qp e);simp only[List.count_nil];exact⟨by rw[e];congr 1;omega,by omega⟩⟩⟩
 case hst=>exact λi d Z e h=>Ap g hdl (λx hx=>by obtain⟨j,hj,e⟩:=List.mem_iff_getElem.mp hx;exact(hdb j x 61 (by rw[Qe hj,e]) (by rw[Qw,Qo (by omega)])).1) e h
 case hend=>rintro Z ⟨lf,ws,x6,x7,x8,rfl,hw,dl⟩;rw[YJ]at hw;refine Kj (Kc (Z8 rfl rfl) ⟨_,rfl,ws,rfl,⟨by omega,dl.wish,λk c e=>by have:=(dl.cop k c e).2;omega⟩⟩)
theorem PY(ws:LO):(U6 ws).depth<=2:=Sv (TF λx hx=>by obtain⟨y,_,rfl⟩:=Qu.mp hx;cases y<;>simp[UO,Uw])
theorem Y5{s:D->UF->jG}{t:M Bool}{g:M D}(I:UF->Prop):∀(ds qs:jz)(Z:UF)(es:jz),qs.length=ds.length ->
  (∀(i:Nat) d e,ds[i]?=ju d->qs[i]?=ju e->∀Z,I Z->∃Z1,s d Z=ju Z1/\t Z1=.ok jx Z1/\g Z1=.ok e Z1/\I (Kf Z1))->I Z->es.length+ds.length<=1000000->KB s t g ds Z es=ju (es++qs)
 |[],[],Z,es,_,_,_,_=>by rw[KB,Q7]
 |d::r,e::q,Z,es,hl,st,h0,hz=>by obtain⟨Z1,e1,e2,e3,h1⟩:=st 0 d e jv jv Z h0;rw[QR]at hz;rw[KB,e1];dsimp only;rw[e2];dsimp only;rw[Qo jv,e3];dsimp only;rw[if_pos (by omega),Y5 I r q (Kf Z1) (es++[e]) (by simpa using hl) (λi d' e' x y=>st (i+1) d' e' (by simpa using x) (by simpa using y)) h1 (by rw[List.length_append,List.length_singleton];omega),List.append_assoc];rfl
def lng(ls:L3):Nat:=(most (ls.map λrs=>(rs.length:Int))).toNat
def W4(cs:jA)(ws:LO):jA:=(Up cs.length).map λk:Nat=>cs.getD k 0-((ws.count (ju (k:Int)):Nat):Int)
theorem Pm{ls:L3}(h:1<=ls.length):most (ls.map λrs=>(rs.length:Int))=(lng ls:Nat):=by
 have hm:most (ls.map λrs=>(rs.length:Int))∈ls.map λrs=>(rs.length:Int):=RJ (by rw[Qb];omega)
 obtain⟨rs,_,e⟩:=Qu.mp hm;unfold lng;omega
theorem GS{ls:L3}{rs:List jA}(h:rs∈ls):rs.length<=lng ls:=by have h1:((rs.length:Nat):Int)<=most (ls.map λrs=>(rs.length:Int)):=Pb (Qu.mpr ⟨rs,h,rfl⟩);have h2:=Pm (ls:=ls) (List.length_pos_of_mem h);omega
theorem OJ{ls:L3}{n:Nat}(h1:1<=ls.length)(h:∀rs∈ls,rs.length<=n):lng ls<=n:=by
 have hm:most (ls.map λrs=>(rs.length:Int))∈ls.map λrs=>(rs.length:Int):=RJ (by rw[Qb];omega)
 obtain⟨rs,hr,e⟩:=Qu.mp hm;have:=h rs hr;unfold lng;omega
theorem M9(t:Int)(rs:List jA):ZJ t rs<=rs.length:=by
 unfold ZJ
 split<;>omega
section
variable{cs:jA}{ls:L3}{ws:LO}
theorem T6:oIx (Ke cs ls) (.int 0)=ju (.list (cs.map int)):=KE (j:=0) jv
theorem WM:oIx (Ke cs ls) (.int 1)=ju (.list (ls.map Ku)):=KE (j:=1) jv
theorem Ou{i:Nat}{rs:List jA}(h:ls[i]?=ju rs):oIx (.list (ls.map Ku)) (.int i)=ju (Ku rs):=KE (by rw[Qf,h];rfl)
theorem M8(rs:List jA):U5 [Ku rs]=ju (.int rs.length):=by unfold Ku;rw[K1,Qb]
theorem AZ(g:Good cs ls):WF [Ke cs ls]=ju (.int (lng ls:Nat)):=by
 refine K3 (Z:=[pb (Ke cs ls)]) jv ?_;unfold V1;have hw:=PL g
 have hc:KB (gN 1) (UL jx) (Kv 1) (ls.map Ku) (Kf [pb (Ke cs ls)]++Uq 1 jw) []=ju ((ls.map λrs=>(rs.length:Int)).map int):=by
  refine Y5 (λZ=>∃x,Z=[pb (Ke cs ls),x]) _ _ _ _ (by rw[Qb,Qb,Qb]) ?_ ⟨jw,rfl⟩ (by rw[Qb,QM];have:=g.l7;omega);rintro i d e hd he Z ⟨x,rfl⟩;rw[Qf]at hd;rw[Qf,Qf]at he;cases hl:ls[i]? with
  |none=>rw[hl]at hd;cases hd
  |some rs=>
  rw[hl]at hd he;cases hd;cases he;exact⟨_,UY (Qa jv) jv,rfl,Kz jv (M8 rs),_,rfl⟩
 refine U3 (WS (Kb (UK (UH jv) UP) jv hw)) ?_;refine Kc (ZB (UK (Kr (ZX (Zt (Kk jv UN WM) ZP) hc)) UP) (Mi (by rw[Qb];have:=g.l1;omega))) ?_;rw[Pm g.l1]
theorem jh(g:Good cs ls):WE [Ke cs ls,U6 ws]=ju (.list ((W4 cs ws).map int)):=by
 refine K3 (Z:=[pb (Ke cs ls),pb (U6 ws)]) jv ?_;unfold V0;have hw:=PL g
 have hc:KB (gT 2 (gNC (gN 2) (gNC (gN 3) (gN0)))) (UL jx) (UJ Ks (UE 3) (X3 (UE 1) (UI (UE 2) (UG)))) (ZZ 0 (cs.map int)) (Kf [pb (Ke cs ls),pb (U6 ws)]++Uq 2 jw) []=ju ((W4 cs ws).map int):=by
  refine Y5 (λZ=>∃x y,Z=[pb (Ke cs ls),pb (U6 ws),x,y]) _ _ _ _ (by unfold W4;rw[Qb,Qb,Ji,Y6,Qb]) ?_ ⟨jw,jw,rfl⟩ (by rw[Y6,Qb,QM];have:=g.c6;omega);rintro i d e hd he Z ⟨x,y,rfl⟩;obtain⟨z,hz,rfl⟩:=XQ hd;rw[Qf]at hz;cases hci:cs[i]? with
  |none=>rw[hci]at hz;cases hz
  |some c=>
  rw[hci]at hz;cases hz;have jT:i<cs.length:=(Qh.mp hci).1;unfold W4 at he;rw[Qf,Qf,Qe (by rw[Ji];exact jT),List.getElem_range]at he;cases he;rw[Jr];have e:cs.getD i 0=c:=by simp[List.getD,hci]
  dsimp only;rw[e];exact⟨_,KF jv (U4 (UY (Qa jv) jv) (U4 (UY (Qa jv) jv) KG)),rfl,US (UH jv) (PR (UH jv) (UK (UH jv) UP) P0) ZM,_,_,rfl⟩
 refine U3 (WS (Kb (UK (UH jv) UP) jv hw)) ?_;exact Kc (Kr (ZX (WU (UK (Kk jv UN T6) UP) W0) hc)) jv
end
theorem W7{a b:jD}:oEq (UO a) (UO b)=ju (decide (a=b)):=by unfold oEq;rw[if_pos ⟨by cases a<;>rfl,by cases b<;>rfl,by cases a<;>simp[UO,Uw]⟩,Pn]
theorem Rm{a b:jD}:oNe (UO a) (UO b)=ju (!decide (a=b)):=by unfold oNe;rw[if_pos ⟨by cases a<;>rfl,by cases b<;>rfl,by cases a<;>simp[UO,Uw]⟩,Pn]
section
variable{cs:jA}{ls:L3}{ws:LO}{a:Nat}{o had:jD}{rs:List jA}{t:Int}
theorem AY(h:ZJ t rs≠0):t∈rs.flatten:=by
 unfold ZJ at h;split at h
 .rename_i hl
  have:=List.findIdx_getElem (w:=hl);exact List.mem_flatten.mpr ⟨_,List.getElem_mem hl,by simpa using this⟩
 .exact absurd jv h
end
def Kt(k:Nat):L3->LP
 |[]=>[]
 |rs::ls=>(ZL rs.flatten).map (λt=>((k:Int),t))++Kt (k+1) ls
theorem Ms:∀(ls:L3)(k:Nat),∀q∈Kt k ls,(k:Int)<=q.1
 |[],_,q,h=>by cases h
 |rs::ls,k,q,h=>by
  rcases QO.mp h with h|h
  .obtain⟨t,_,rfl⟩:=Qu.mp h;exact JA _
  .have:=Ms ls (k+1) q h;omega
theorem Vb:∀{ls:L3}{k:Nat}{q:Int×Int},q∈Kt k ls->∃i rs,ls[i]?=ju rs/\q.1=((k+i:Nat):Int)/\q.2∈rs.flatten
 |[],_,q,h=>by cases h
 |rs::ls,k,q,h=>by
  rcases QO.mp h with h|h
  .obtain⟨t,ht,rfl⟩:=Qu.mp h
   exact⟨0,rs,rfl,rfl,(Y7 _).mem_iff.mp ht⟩
  .obtain⟨i,rs',h1,h2,h3⟩:=Vb h
   exact⟨i+1,rs',by simpa using h1,by rw[h2];congr 1;omega,h3⟩
theorem PX:∀{ls:L3}{k i:Nat}{rs:List jA}{t:Int},ls[i]?=ju rs->t∈rs.flatten->(((k+i:Nat):Int),t)∈Kt k ls
 |rs::ls,k,0,rs',t,h,ht=>by cases h;exact Jo _ (Qu.mpr ⟨t,(Y7 _).mem_iff.mpr ht,rfl⟩)
 |rs::ls,k,i+1,rs',t,h,ht=>by have:=PX (ls:=ls) (k:=k+1) (i:=i) (by simpa using h) ht;rw[show k+1+i=k+(i+1)by omega]at this;exact QF _ this
theorem Vh.flat{n:Nat}{rs:List jA}(g:Vh n rs):∀t∈rs.flatten,0<=t/\t<n:=λt ht=>by obtain⟨r,h1,h2⟩:=JH.mp ht;exact g.there r h1 t h2
inductive Ord where|firsts|full|lasts
def Ord.tx:Ord->Str
 |.firsts=> "firsts" | .full=> "full" | .lasts=> "lasts"
def Ord.isF:Ord->Bool
 |.firsts=>jx|_=>jy
def Ord.isU:Ord->Bool
 |.full=>jx|_=>jy
theorem GR(o:Ord):oEq (.str o.tx) (.str "firsts")=ju o.isF:=by cases o<;>decide +kernel
theorem OI(o:Ord):oEq (.str o.tx) (.str "full")=ju o.isU:=by cases o<;>decide +kernel
theorem q9(o:Ord):WD [.str o.tx]=ju (.bool jx):=by
 refine K3 (Z:=[pb (.str o.tx)]) jv ?_;unfold VZ;have h:oIn (.str o.tx) (.tuple ((["firsts", "full", "lasts"]:List Str).map Ut))=ju jx:=by cases o<;>decide +kernel
 exact Kc (XT (Kr (k:=λd=>Us (Ki d "str")) (UH jv)) (λ_=>Kr (K8 jv UN h))) jv
theorem BI(o:Ord):WC [.str o.tx]=ju .none:=by
 refine So (Z:=[pb (.str o.tx)]) jv ?_;unfold VY;apply Kd
 case h1=>exact Zr (ZC (Kb (UK (UH jv) UP) jv (q9 o)))
 case h2=>intro h;cases h
 case h3=>exact λ_=>Ko ⟨_,rfl⟩
def Yv:jL->D
 |none=>.none
 |some ws=>U6 ws
def KN(o:Ord)(old:jL)(ts:jA):D:=.tuple [.str o.tx,Yv old,.list (ts.map int)]
structure Xi(n m:Nat)(old:jL)(ts:jA):Prop where
 len:∀ws,old=ju ws->ws.length=m
 old:∀ws t,old=ju ws->ju t∈ws->0<=t/\t<n
 once:ts.Nodup
 there:∀a∈ts,0<=a/\a<m
theorem Xi.few{n m:Nat}{old:jL}{ts:jA}(g:Xi n m old ts):ts.length<=m:=TL m ts g.once g.there
theorem BH{n m:Nat}{old:jL}(h1:∀ws,old=ju ws->ws.length=m)(h2:∀ws t,old=ju ws->ju t∈ws->0<=t/\t<n)(hm:m<=1000):WB [Yv old,.int m,.int n]=ju (.bool jx):=by
 refine K3 (Z:=[pb (Yv old),pb (.int m),pb (.int n)]) jv ?_;unfold VX;apply Kg;cases old with
 |none=>
  apply Kd
  case h1=>exact Kr (UH jv)
  case h2=>exact λ_=>Kc UN (KO jv)
  case h3=>intro hh;cases hh
 |some ws=>
  have hl:=h1 ws jv;have hlen:U5 [U6 ws]=ju (.int m):=by unfold U6;rw[K1,Qb,hl]
  apply Kd
  case h1=>exact Kr (UH jv)
  case h2=>intro hh;cases hh
  case h3=>
   intro _;refine Ko (Kj ?_);apply Kg;apply Kd
   case h1=>exact K9 (Z1:=[pb (U6 ws),pb (.int m),pb (.int n)]) (Zz (UH jv) jv) (US (Kz jv hlen) (UH jv) YG)
   case h2=>intro hh;simp at hh
   case h3=>
    intro _;refine Ko (Kj ?_)
    have hc:KB (gN 3) (UL jx) (Yy (UT (λd=>.bool (isNon d)) (UE 3)) (UV 2 K5 (UI (UE 3) (UI (UE 2) (UG))))) (ws.map UO) (Kf [pb (U6 ws),pb (.int m),pb (.int n)]++Uq 1 jw) []=ju (ws.map λ_=>.bool jx):=by
     refine Y5 (λZ=>∃x,Z=[pb (U6 ws),pb (.int m),pb (.int n),x]) _ _ _ _ (by simp only[Qb]) ?_ ⟨jw,rfl⟩ (by rw[Qb,QM];omega);rintro i d e hd he Z ⟨x,rfl⟩;rw[Qf]at hd he;cases hw:ws[i]? with
     |none=>rw[hw]at hd;cases hd
     |some o=>
     rw[hw]at hd he;cases hd;cases he;refine⟨_,UY (Qa jv) jv,rfl,?_,_,rfl⟩;cases o with
     |none=>exact Sq (t:=jx) (u:=jx) (Kr (k:=λd=>Us (isNon d)) (x:=.none) (UH jv)) (λh=>nomatch h)
     |some t=>have hb:=h2 ws t jv (Qp hw);exact Sq (t:=jy) (u:=jx) (Kr (k:=λd=>Us (isNon d)) (x:=.int t) (UH jv)) (λ_=>Kb (UK (UH jv) (UK (UH jv) UP)) jv (RD hb.1 hb.2))
    exact Kc (ZB (UK (Kr (ZX (Zt (UH jv) jv) hc)) UP) (RC ws)) jv
theorem qH{m:Nat}{ts:jA}(h1:ts.Nodup)(h2:∀a∈ts,0<=a/\a<m)(hm:m<=1000):WA [.list (ts.map int),.int m]=ju (.bool jx):=by
 refine K3 (Z:=[pb (.list (ts.map int)),pb (.int m)]) jv ?_;unfold VW;have hl:=TL m ts h1 h2;apply Kg
 have hc:KB (gN 2) (UL jx) (UV 2 K5 (UI (UE 2) (UI (UE 1) (UG)))) (ts.map int) (Kf [pb (.list (ts.map int)),pb (.int m)]++Uq 1 jw) []=ju (ts.map λ_=>.bool jx):=by
  refine Y5 (λZ=>∃x,Z=[pb (.list (ts.map int)),pb (.int m),x]) _ _ _ _ (by simp only[Qb]) ?_ ⟨jw,rfl⟩ (by rw[Qb,QM];omega);rintro i d e hd he Z ⟨x,rfl⟩;rw[Qf]at hd he;cases hw:ts[i]? with
  |none=>rw[hw]at hd;cases hd
  |some t=>
  rw[hw]at hd he;cases hd;cases he;have hb:=h2 t (Qp hw);exact⟨_,UY (Qa jv) jv,rfl,Kb (UK (UH jv) (UK (UH jv) UP)) jv (RD hb.1 hb.2),_,rfl⟩
 apply Kd
 case h1=>exact K9 (Z1:=[pb (.list (ts.map int)),pb (.int m)]) (Zz (UH jv) jv) (Zr (ZC (ZB (UK (Kr (ZX (Zt (UH jv) ZP) hc)) UP) (RC ts))))
 case h2=>intro hh;cases hh
 case h3=>
  intro _;refine Ko (Kj ?_);have hs:X0 [.list (ts.map int)]=ju (.int ts.length):=by unfold X0;dsimp only;rw[TR];dsimp only;rw[Qo (by omega),P1 h1]
  have hlen:U5 [.list (ts.map int)]=ju (.int ts.length):=by rw[K1,Qb]
  refine Kc (Kr (US (ZB (UK (UH jv) UP) hs) (Kz jv hlen) WT)) ?_;simp
section
variable{cs:jA}{ls:L3}{o:Ord}{old:jL}{ts:jA}
theorem OH(g:Good cs ls)(ga:Xi cs.length ls.length old ts):YZ [Ke cs ls,KN o old ts]=ju .none:=by
 refine So (Z:=[pb (Ke cs ls),pb (KN o old ts),jw,jw,jw,jw,jw]) jv ?_;unfold VU;have l7:=g.l7;have c6:=g.c6;have ke:U5 [.list (ls.map Ku)]=ju (.int ls.length):=by rw[K1,Qb]
 have xZ:U5 [.list (cs.map int)]=ju (.int cs.length):=by rw[K1,Qb]
 refine U3 (WS (Kb (UK (UH jv) UP) jv (PL g))) ?_;apply Kg;apply Kd
 case h1=>exact K9 (Z1:=[pb (Ke cs ls),pb (KN o old ts),jw,jw,jw,jw,jw]) (Zz (UH jv) jv) (US (Kz jv (show U5 [KN o old ts]=ju (.int 3)from rfl)) UN YG)
 case h2=>intro hh;simp at hh
 case h3=>
  intro _;refine Ko (Kj ?_);refine U3 (WN (UH jv) (KF jv (U4 (UY (Qa jv) jv) (U4 (UY (Qa jv) jv) KG)))) ?_;refine U3 (WN (UH jv) (KF jv (U4 (UY (Qa jv) jv) (U4 (UY (Qa jv) jv) (U4 (UY (Qa jv) jv) KG))))) ?_;refine U3 (WS (Kb (UK (UH jv) UP) jv (BI o))) ?_;apply Kg;apply Kd
  case h1=>exact Zr (ZC (Kb (UK (UH jv) (UK (Kz jv ke) (UK (Kz jv xZ) UP))) jv (BH ga.len ga.old (by omega))))
  case h2=>intro hh;cases hh
  case h3=>
   intro _;refine Ko (Kj ?_);apply Kd
   case h1=>exact Zr (ZC (Kb (UK (UH jv) (UK (Kz jv ke) UP)) jv (qH ga.once ga.there (by omega))))
   case h2=>intro hh;cases hh
   case h3=>exact λ_=>Ko ⟨_,rfl⟩
end
theorem WW{t:Int}{r:jA}:oIn (.int t) (.list (r.map int))=ju (r.contains t):=Po t r
theorem M7:∀(a b:jA),a.Nodup->(∀x∈a,x∈b)->a.length<=b.length
 |[],_,_,_=>Ub _
 |x::a,b,hn,h=>by
  have hx:=h x Qt;have hn':=JY.mp hn
  have:=M7 a (b.erase x) hn'.2 λy hy=>by
   have hne:y≠x:=λe=>hn'.1 (e ▸ hy)
   exact(List.mem_erase_of_ne hne).mpr (h y (QD _ hy))
  rw[List.length_erase_of_mem hx]at this;have hp:=List.length_pos_of_mem hx;rw[QR];omega
theorem AX{m:Nat}{T:jA}(d:Nat)(hl:T.length<m)(hn:T.Nodup):∃k,k<m/\(∀j,j<k->(((d+j) % m:Nat):Int)∈T)/\(((d+k) % m:Nat):Int)∉T:=by
 have ex:∃k,k<m/\(((d+k) % m:Nat):Int)∉T:=by
  refine Classical.byContradiction λhno=>?_;have all:∀k,k<m->(((d+k) % m:Nat):Int)∈T:=λk hk=>Classical.byContradiction λz=>hno ⟨k,hk,z⟩
  have hsub:∀x:Nat,x<m->((x:Nat):Int)∈T:=λx hx=>by
   have h1:=all ((x+m-d % m) % m) (Nat.mod_lt _ (by omega));have e:(d+(x+m-d % m) % m) % m=x:=by have hdm:d % m<m:=Nat.mod_lt _ (by omega);rw[Nat.add_mod_mod,←Nat.mod_add_mod];rw[show d % m+(x+m-d % m)=x+m by omega,Nat.add_mod_right,Nat.mod_eq_of_lt hx]
   rw[e]at h1;exact h1
  have:=M7 ((Up m).map λx:Nat=>(x:Int)) T (List.Pairwise.map _ (λa b h e=>h (by omega)) List.nodup_range) (λt ht=>by obtain⟨x,hx,rfl⟩:=Qu.mp ht;exact hsub x (Je.mp hx));rw[Qb,Ji]at this;omega
 obtain⟨k,hk,hkn⟩:=ex;induction k using Nat.strongRecOn with
 |_ k ih=>
  by_cases h:∀j,j<k->(((d+j) % m:Nat):Int)∈T
  .exact⟨k,hk,h,hkn⟩
  .obtain⟨j,hj⟩:=Classical.not_forall.mp h
   obtain⟨hj1,va⟩:=Classical.not_imp.mp hj;exact ih j hj1 (by omega) va
theorem OG{x:D}{m:Nat}(h:m<=1000):U9 (.list [x]) (.int m)=ju (.list (Uq m x)):=by
 rw[RN ⟨by omega,by omega,by show 1*_<=_;omega⟩]
 congr 2
 rw[Q0];clear h;induction m with
 |zero=>rfl
 |succ n ih=>rw[Q4,QU,ih,Q4];rfl
def szA(n m:Nat):jA:=[3,2,(m:Int)+1]++Uq m ((n:Int)+1)++Uq m (m:Int)
theorem NL(n m:Nat):(szA n m).length=3+m+m:=by unfold szA;rw[Qi,Qi,QB,QB];rfl
theorem ES{n m j:Nat}(h:j<m):(szA n m)[3+j]?=ju ((n:Int)+1):=by
 unfold szA;rw[Qr (by rw[Qi,QB];show 3+j<3+m;omega),Qs (by show 3<=3+j;omega)]
 show(Uq m ((n:Int)+1))[3+j-3]?=_
 rw[Nat.add_sub_cancel_left,Qw,Qo h]
theorem Cj{n m j:Nat}(h:j<m):(szA n m)[3+m+j]?=ju (m:Int):=by
 unfold szA;have e:([3,2,(m:Int)+1]++Uq m ((n:Int)+1)).length=3+m:=by rw[Qi,QB];rfl
 rw[Qs (by rw[e];omega),e,Nat.add_sub_cancel_left,Qw,Qo h]
section
variable{cs:jA}{ls:L3}
def T5(d:Int):jD:=if 0<d then ju (d-1)else jw
theorem Ci(d:Int):oIx (.list [.none,.int (d-1)]) (.int (if decide (0<d)=jx then 1 else 0))=ju (UO (T5 d)):=by
 unfold T5;by_cases h:0<d
 .rw[QJ h,Qo jv,Qo h];exact KE (j:=1) jv
 .rw[Qx h,QC (by decide),QC h];exact KE (j:=0) jv
end
theorem ER{op:Int->Int->jC}{j:Nat}{f:M D}{Z Z1 Z':UF}{a b:Int}{d:D}(h0:Z[j]?=ju (ju (.pub (.int a))))(h1:f Z=.ok (.int b) Z1)(h2:op a b=ju d)(h3:j<Z1.length)(h4:Z1.set j (ju (.pub d))=Z'):YN op j f Z=.nx Z':=by unfold YN;rw[h0];dsimp only[sB];rw[h1];dsimp only;rw[h2];dsimp only;rw[Qo h3,h4]
theorem mulN{i j:Int}(h : -1000<j/\j<1000):ZN i j=ju (.int (i*j)):=by unfold ZN;exact Qo (.inr ⟨by omega,by omega⟩)
theorem Sr{b n:Int}(hb : -1000<b/\b<1000)(hn : -1000<=n/\n<=1000):Ze [.int b,.int n]=ju (.int (b ^ n.toNat)):=by
 refine K3 (Z:=[pb (.int b),pb (.int n),jw,jw]) jv ?_;unfold VT;refine U3 (Kl UN (Qa jv) jv) ?_;apply Kg;apply Zu (λi Z=>∃x3,Z=[pb (.int b),pb (.int n),pb (.int (b ^ i)),x3])
 case h1=>exact XZ (UK (UH jv) UP) (X6 (by omega) (by omega))
 case h0=>exact⟨_,by rw[Int.pow_zero];rfl⟩
 case hst=>rintro i d Z hi ⟨x3,rfl⟩;refine⟨_,UY (Qa jv) jv,?_⟩;unfold NF;refine ZD (ER jv (UH jv) (mulN hb) (Qa jv) jv) ?_;exact Zh ⟨_,by rw[Int.pow_succ];rfl⟩
 case hend=>
  rintro Z ⟨x3,rfl⟩;refine Kj (Kc (UH rfl) ?_);rw[YJ]
  congr 4
  omega
def Yd:Ord->Int->Int->Int->Int
 |.firsts,b,M,r=>b ^ (M-r).toNat
 |.full,b,M,r=>b ^ M.toNat+b ^ (M-r).toNat
 |.lasts,b,M,r=>b ^ M.toNat-b ^ (r-1).toNat
theorem qG(o:Ord){b M r:Int}(hb : -1000<b/\b<1000)(hM:0<=M/\M<=100)(hr:0<=r/\r<=100):Wz [.str o.tx,.int b,.int M,.int r]=ju (.int (Yd o b M r)):=by
 refine K3 (Z:=[pb (.str o.tx),pb (.int b),pb (.int M),pb (.int r)]) jv ?_;unfold VS;have p1:Ze [.int b,.int (M-r)]=ju (.int (b ^ (M-r).toNat)):=Sr hb ⟨by omega,by omega⟩;have p2:Ze [.int b,.int M]=ju (.int (b ^ M.toNat)):=Sr hb ⟨by omega,by omega⟩;have p3:Ze [.int b,.int (r-1)]=ju (.int (b ^ (r-1).toNat)):=Sr hb ⟨by omega,by omega⟩;apply Kg;apply Kd
 case h1=>exact K8 jv UN (GR o)
 case h2=>
  intro h;cases o with
  |firsts=>exact Kc (Kb (UK (UH jv) (UK (US (UH jv) (UH jv) ZM) UP)) jv p1) (KO jv)
  |full=>cases h
  |lasts=>cases h
 case h3=>
  intro h;refine Ko (Kj ?_);apply Kg;apply Kd
  case h1=>exact K8 jv UN (OI o)
  case h2=>
   intro h';cases o with
   |full=>exact Kc (US (Kb (UK (UH jv) (UK (UH jv) UP)) jv p2) (Kb (UK (UH jv) (UK (US (UH jv) (UH jv) ZM) UP)) jv p1) KI) (KO jv)
   |firsts=>cases h
   |lasts=>cases h'
  case h3=>
   intro h';refine Ko (Kj ?_);cases o with
   |firsts=>cases h
   |full=>cases h'
   |lasts=>exact Kc (US (Kb (UK (UH jv) (UK (UH jv) UP)) jv p2) (Kb (UK (UH jv) (UK (US (UH jv) UN ZM) UP)) jv p3) ZM) jv
def Y8(ts:jA)(b i r:Int):Int:=if i∈ts then(b-r)*b ^ (ts.length-1-ts.idxOf i)else 0
theorem LA{n:Nat}:∀{xs:jz},(∀x∈xs,PyData.weight x<=n)->PyData.weightAll xs<=xs.length*(n+1)
 |[],_=>by simp[PyData.weightAll]
 |x::xs,h=>by have h1:=h x Qt;have h2:=LA (xs:=xs) λy hy=>h y (QD _ hy);rw[PyData.weightAll,QR,Nat.succ_mul];omega
theorem AW{i:Int}(h:0<=i/\i<1000):(int i).weight<=10:=by
 simp only[PyData.weight];split
 .omega
 .rename_i hne
  have h0:i.natAbs≠0:=by intro e;exact hne (by simpa using e)
  have:=(Nat.log2_lt h0 (k:=10)).mpr (by omega);omega
theorem jf{ts:jA}(h:∀a∈ts,0<=a/\a<1000)(hl:ts.length<=1000):PyData.layable0 (.list (ts.map int))=jx:=by
 unfold PyData.layable0;have h1:(Ur (ts.map int)).canLay0=jx:=TH λx hx=>by obtain⟨y,_,rfl⟩:=Qu.mp hx;rfl
 have h2:(Ur (ts.map int)).depth<=64:=QP (Sv (n:=1) (TF λx hx=>by obtain⟨y,_,rfl⟩:=Qu.mp hx;exact Nq y)) (by decide)
 have h3:(Ur (ts.map int)).weight<=2 ^ 20:=by
  have:=LA (n:=10) (xs:=ts.map int) λx hx=>by obtain⟨y,hy,rfl⟩:=Qu.mp hx;exact AW (h y hy)
  rw[Qb]at this;simp only[PyData.weight];omega
 rw[h1,QJ h2,QJ h3];rfl
theorem Ch{ts:jA}{k:Int}(hb:∀a∈ts,0<=a/\a<1000)(hl:ts.length<=1000)(h:k∈ts):TD (.list (ts.map int)) [.int k]=ju (.int (ts.idxOf k:Nat)):=by unfold TD;dsimp only;rw[TR];dsimp only;exact Qo ⟨jf hb hl,h⟩
theorem Cg{t:Int}{r:jA}:Zn (.int t) (.list (r.map int))=ju (!r.contains t):=by unfold Zn;rw[WW];rfl
theorem qF{ts:jA}{b i r:Int}(hb : -1000<b/\b<1000)(hr : -1000<r/\r<1000)(hl:ts.length<=100)(ht:∀a∈ts,0<=a/\a<1000):Wy [.list (ts.map int),.int b,.int i,.int r]=ju (.int (Y8 ts b i r)):=by
 refine K3 (Z:=[pb (.list (ts.map int)),pb (.int b),pb (.int i),pb (.int r),jw]) jv ?_;unfold VR Y8;apply Kg;apply Kd
 case h1=>exact K8 jv (UH jv) Cg
 case h2=>
  intro h;have:¬i∈ts:=by simpa using h
  rw[QC this];exact Kc UN (KO jv)
 case h3=>
  intro h;have hm:i∈ts:=by simpa using h
  rw[Qo hm];refine Ko (Kj ?_);have hi:=List.idxOf_lt_length_of_mem hm;have hlen:U5 [.list (ts.map int)]=ju (.int ts.length):=by rw[K1,Qb]
  refine U3 (Kl (US (US (Kz jv hlen) UN ZM) (DU (UH jv) (UK (UH jv) UP) (Ch ht (by omega) hm)) ZM) (Qa jv) jv) ?_;have hp:=Sr (b:=b) (n:=(ts.length:Int)-1-(ts.idxOf i:Nat)) hb ⟨by omega,by omega⟩;have e:((ts.length:Int)-1-(ts.idxOf i:Nat)).toNat=ts.length-1-ts.idxOf i:=by omega
  rw[e]at hp;exact Kc (US (US (UH jv) (UH jv) ZM) (Kb (UK (UH jv) (UK (UH jv) UP)) jv hp) (Xl (by omega) (by omega))) jv
def XB(old:jL)(i:Nat)(t:Int):Int:=match old with
 |none=>0
 |some ws=>if ws[i]?=ju (ju t)then 1 else 0
section
variable{cs:jA}{ls:L3}{o:Ord}{old:jL}{ts:jA}
def K4(ls:L3)(o:Ord)(old:jL)(ts:jA)(i:Nat)(rs:List jA)(t:Int):Int:=
 (Yd o (ls.length+1) (lng ls) (ZJ t rs)*(ls.length+1)+XB old i t)*((lng ls:Int)+1) ^ ts.length+Y8 ts (lng ls+1) i (ZJ t rs)
theorem BG{b:Int}(h0:0<=b)(h:b<=8):∀{n k:Nat},n<=k->b ^ n<=8 ^ k:=λ{n k} hk=>by
 have e:b=((b.toNat:Nat):Int):=by omega
 rw[e];have h1:b.toNat ^ n<=8 ^ n:=Nat.pow_le_pow_left (by omega) n;have h2:8 ^ n<=8 ^ k:=Nat.pow_le_pow_right (by omega) hk;have h3:((b.toNat ^ n:Nat):Int)<=((8 ^ k:Nat):Int):=by omega
 rw[Int.natCast_pow,Int.natCast_pow]at h3;exact h3
theorem BF(g:Good cs ls)(ga:Xi cs.length ls.length old ts){i:Nat}{rs:List jA}(hi:ls[i]?=ju rs)(t:Int):Xz [Ke cs ls,KN o old ts,.int (lng ls:Nat),.int i,.int t]=ju (.int (K4 ls o old ts i rs t)):=by
 have l7:=g.l7;have l1:=g.l1;have hL:lng ls<=5:=OJ l1 λrs h=>(g.rk rs h).few;have hrk:ZJ t rs<=5:=by have:=M9 t rs;have:=(g.rk rs (Qp hi)).few;omega
 have htl:=ga.few;have hlt:i<ls.length:=(Qh.mp hi).1;refine K3 (Z:=[pb (Ke cs ls),pb (KN o old ts),pb (.int (lng ls:Nat)),pb (.int i),pb (.int t),jw,jw,jw,jw,jw,jw,jw,jw]) jv ?_;unfold VQ K4;refine U3 (WN (UH jv) (KF jv (U4 (UY (Qa jv) jv) (U4 (UY (Qa jv) jv) (U4 (UY (Qa jv) jv) KG))))) ?_;refine U3 (Kl (Kk jv UN WM) (Qa jv) jv) ?_;refine U3 (Kl (Kb (UK (Kk jv (UH jv) (Ou hi)) (UK (UH jv) UP)) jv (Lm t rs)) (Qa jv) jv) ?_;have ke:U5 [.list (ls.map Ku)]=ju (.int ls.length):=by rw[K1,Qb]
 have htl':U5 [.list (ts.map int)]=ju (.int ts.length):=by rw[K1,Qb]
 refine U3 (Kl (US (Kz jv ke) UN KI) (Qa jv) jv) ?_
 have hk:∀Z:UF,Z[6]?=ju (ju (.pub (Yv old)))->Z[3]?=ju (ju (.pub (.int i)))->Z[4]?=ju (ju (.pub (.int t))) ->
   mIf (KH (UT (λd=>!isNon d) (UE 6)) (UJ oEq (UR 6 (UE 3)) (UE 4))) (UL (int 1)) (UL (.int 0)) Z=.ok (.int (XB old i t)) Z:=λZ r6 r3 r4=>by
  cases old with
  |none=>exact GL (NV (Kr (UH r6))) UN
  |some ws=>
   have hw:ws.length=ls.length:=ga.len ws jv;have hwi:ws[i]?=ju ws[i]:=Qe (by omega);have hx:oIx (.list (ws.map UO)) (.int i)=ju (UO ws[i]):=Rn (by omega)
   have ht:(KH (UT (λd=>!isNon d) (UE 6)) (UJ oEq (UR 6 (UE 3)) (UE 4))) Z=.ok (decide (ws[i]=ju t)) Z:=
    NU (Kr (UH r6)) (US (Kk r6 (UH r3) hx) (UH r4) (W7 (b:=ju t)))
   rw[Hu ht UN UN]
   congr 1
   unfold XB;dsimp only;rw[hwi];by_cases h:ws[i]=ju t
   .rw[QJ h,Qo jv,Qo (by rw[h])]
   .rw[Qx h,QC (by decide),QC (λe=>h (Qz e))]
 refine U3 (Kl (hk _ jv jv jv) (Qa jv) jv) ?_;have h1:=qG o (b:=(ls.length:Int)+1) (M:=(lng ls:Nat)) (r:=(ZJ t rs:Nat)) ⟨by omega,by omega⟩ ⟨by omega,by omega⟩ ⟨by omega,by omega⟩;have h2:=Sr (b:=(lng ls:Int)+1) (n:=(ts.length:Nat)) ⟨by omega,by omega⟩ ⟨by omega,by omega⟩;have h3:=qF (ts:=ts) (b:=(lng ls:Int)+1) (i:=i) (r:=(ZJ t rs:Nat)) ⟨by omega,by omega⟩ ⟨by omega,by omega⟩ (by omega) (λa ha=>by have:=ga.there a ha;omega);rw[Q0]at h2;refine U3 (Kl (US (US (Kb (UK (UH jv) (UK (UH jv) (UK (UH jv) (UK (UH jv) UP)))) jv h1) (UH jv) (XS (by omega) (by omega))) (UH jv) KI) (Qa jv) jv) ?_;have hp:((lng ls:Int)+1) ^ ts.length<=8 ^ 7:=BG (by omega) (by omega) (by omega);have hp0:0<=((lng ls:Int)+1) ^ ts.length:=Int.pow_nonneg (by omega);exact Kc (US (US (UH jv) (Kb (UK (US (UH jv) UN KI) (UK (Kz jv htl') UP)) jv h2) (XS (by omega) (by omega))) (Kb (UK (UH jv) (UK (US (UH jv) UN KI) (UK (UH jv) (UK (UH jv) UP)))) jv h3) KI) jv
end
theorem M6{s:D->UF->jG}{t:M Bool}{g:M D}(I:UF->Prop):∀(ds:jz)(qs:List jC)(Z:UF)(es:jz),qs.length=ds.length ->
  (∀(i:Nat) d e,ds[i]?=ju d->qs[i]?=ju e->∀Z,I Z->∃Z1,s d Z=ju Z1/\t Z1=.ok e.isSome Z1/\(∀x,e=ju x->g Z1=.ok x Z1)/\I (Kf Z1))->I Z->es.length+ds.length<=1000000->KB s t g ds Z es=ju (es++qs.filterMap id)
 |[],[],Z,es,_,_,_,_=>by rw[KB];simp
 |d::r,e::q,Z,es,hl,st,h0,hz=>by
  obtain⟨Z1,e1,e2,e3,h1⟩:=st 0 d e jv jv Z h0;rw[QR]at hz;have ih:=λes' hz'=>M6 I r q (Kf Z1) es' (by simpa using hl) (λi d' e' x y=>st (i+1) d' e' (by simpa using x) (by simpa using y)) h1 hz'
  rw[KB,e1];dsimp only;rw[e2];dsimp only;cases e with
  |none=>rw[if_neg (show ¬(none:jC).isSome=jx by simp),ih es (by omega)];rfl
  |some x=>rw[Qo (show(ju x).isSome=jx from rfl),e3 x jv];dsimp only;rw[Qo (by omega),ih (es++[x]) (by rw[Qi,QQ];omega),JN];rfl
def Zo(W:Nat->List jA->Int->Int):Nat->L3->LO->LO
 |k,rs::ls,o::r=>(o.map (W k rs))::Zo W (k+1) ls r
 |_,_,_=>[]
theorem PJ{W:Nat->List jA->Int->Int}:∀{k:Nat}{ls:L3}{ws:LO},ws.length=ls.length->(Zo W k ls ws).length=ws.length
 |_,[],[],_=>rfl
 |_,_::_,_::_,h=>by rw[Zo,List.length_cons,PJ (by simpa using h),List.length_cons]
theorem PH{W:Nat->List jA->Int->Int}:∀{k i:Nat}{ls:L3}{ws:LO}{rs:List jA}{o:jD},ls[i]?=ju rs->ws[i]?=ju o->(Zo W k ls ws)[i]?=ju (o.map (W (k+i) rs))
 |k,0,r::ls,o::ws,_,_,h1,h2=>by cases h1;cases h2;rfl
 |k,i+1,r::ls,o::ws,rs,o',h1,h2=>by rw[Zo,List.getElem?_cons_succ,PH (k:=k+1) (rs:=rs) (o:=o') (by simpa using h1) (by simpa using h2),Nat.add_right_comm,Nat.add_assoc]
def KW(l:LO):Int:=(l.filterMap id).sum
theorem BE{o:jD}{l:LO}:KW (o::l)=o.getD 0+KW l:=by
 cases o with
 |none=>show KW l=0+KW l;omega
 |some x=>show(x::l.filterMap id).sum=_;rw[List.sum_cons];rfl
theorem qT{a b:LO}:KW (a++b)=KW a+KW b:=by unfold KW;rw[List.filterMap_append,List.sum_append]
theorem Cf(l:LO):(l.map (Option.map int)).filterMap id=(l.filterMap id).map int:=by
 induction l with
 |nil=>rfl
 |cons o r ih=>cases o with
  |none=>exact ih
  |some x=>show int x::_=int x::_;rw[ih]
section
variable{cs:jA}{ls:L3}{o:Ord}{old:jL}{ts:jA}{ws:LO}
theorem Lg(g:Good cs ls)(ga:Xi cs.length ls.length old ts)(hl:ws.length=ls.length):Xy [Ke cs ls,KN o old ts,U6 ws]=ju (.int (KW (Zo (K4 ls o old ts) 0 ls ws))):=by
 refine K3 (Z:=[pb (Ke cs ls),pb (KN o old ts),pb (U6 ws),jw]) jv ?_;unfold VP;refine U3 (WS (Kb (UK (UH jv) (UK (UH jv) UP)) jv (OH g ga))) ?_;refine U3 (Kl (Kb (UK (UH jv) UP) jv (AZ g)) (Qa jv) jv) ?_;have l7:=g.l7
 have hc:KB (gT 2 (gNC (gN 4) (gNC (gN 5) (gN0)))) (UT (λd=>!isNon d) (UE 5)) (UV 5 Xz (UI (UE 0) (UI (UE 1) (UI (UE 3) (UI (UE 4) (UI (UE 5) (UG))))))) (ZZ 0 (ws.map UO)) (Kf [pb (Ke cs ls),pb (KN o old ts),pb (U6 ws),pb (.int (lng ls:Nat))]++Uq 2 jw) []=ju (((Zo (K4 ls o old ts) 0 ls ws).filterMap id).map int):=by
  rw[←Cf];refine M6 (λZ=>∃x y,Z=[pb (Ke cs ls),pb (KN o old ts),pb (U6 ws),pb (.int (lng ls:Nat)),x,y]) _ _ _ _ (by rw[Qb,PJ hl,Y6,Qb]) ?_ ⟨jw,jw,rfl⟩ (by rw[Y6,Qb,QM];omega);rintro i d e hd he Z ⟨x,y,rfl⟩;obtain⟨z,hz,rfl⟩:=XQ hd;rw[Qf]at hz;cases hwi:ws[i]? with
  |none=>rw[hwi]at hz;cases hz
  |some w=>
  rw[hwi]at hz;cases hz;have jT:i<ls.length:=by have:=(Qh.mp hwi).1;omega
  have hls:ls[i]?=ju ls[i]:=Qe jT;rw[Qf,PH hls hwi]at he;cases he;rw[Jr];refine⟨_,KF jv (U4 (UY (Qa jv) jv) (U4 (UY (Qa jv) jv) KG)),?_,?_,_,_,rfl⟩
  .cases w with
   |none=>exact Kr (k:=λd=>!isNon d) (x:=PyData.none) (UH jv)
   |some t=>exact Kr (k:=λd=>!isNon d) (x:=int t) (UH jv)
  .intro v hv
   cases w with
   |none=>cases hv
   |some t=>cases hv;exact Kb (UK (UH jv) (UK (UH jv) (UK (UH jv) (UK (UH jv) (UK (UH jv) UP))))) jv (BF g ga hls t)
 exact Kc (ZB (UK (Kr (ZX (WU (UK (UH jv) UP) W0) hc)) UP) DV) jv
end
theorem Lf{c s w dg x6:Option Sl}{m:Nat}{T:jA}(hm:0<m):∀(k fuel d:Nat),(∀j,j<k->(((d+j) % m:Nat):Int)∈T)->(((d+k) % m:Nat):Int)∉T->d<m->k<fuel ->
  XH (YK oIn (UE 7) 6) Rw fuel [w,c,s,pb (.int m),dg,x6,ju (.own (T.map int)),pb (.int d)]=.nx [w,c,s,pb (.int m),dg,x6,ju (.own (T.map int)),pb (.int (((d+k) % m:Nat):Int))]
 |0,fuel+1,d,_,hn,hd,_=>by
  have e0:(d+0) % m=d:=by rw[Nat.add_zero];exact Nat.mod_eq_of_lt hd
  rw[e0]at hn⊢;have e:(T.contains (d:Int))=jy:=by simpa using hn
  rw[XH,RG (r:=jy) (UH jv) jv (by rw[WW,e])];rfl
 |k+1,fuel+1,d,hj,hn,hd,hf=>by
  have h0:=hj 0 (by omega);rw[Nat.add_zero,Nat.mod_eq_of_lt hd]at h0;have e:(T.contains (d:Int))=jx:=by simpa using h0
  rw[XH,RG (r:=jx) (UH jv) jv (by rw[WW,e])];dsimp only;rw[Qo jv]
  have hst:Rw [w,c,s,pb (.int m),dg,x6,ju (.own (T.map int)),pb (.int d)]=.nx [w,c,s,pb (.int m),dg,x6,ju (.own (T.map int)),pb (.int (((d+1) % m:Nat):Int))]:=by
   unfold Rw;refine Kl (US (US (UH jv) UN KI) (UH jv) (Z7 (by omega))) (Qa jv) ?_;have e1:((d+1:Nat):Int)=(d:Int)+1:=by omega
   have:((d:Int)+1) % (m:Int)=(((d+1) % m:Nat):Int):=by rw[Int.natCast_emod,e1]
   rw[this];rfl
  rw[hst];dsimp only;have e2:∀j,((d+1) % m+j) % m=(d+(j+1)) % m:=λj=>by rw[Nat.mod_add_mod];congr 1;omega
  have:=Lf (c:=c) (s:=s) (w:=w) (dg:=dg) (x6:=x6) (T:=T) hm k fuel ((d+1) % m) (λj hjk=>by rw[e2];exact hj (j+1) (by omega)) (by rw[e2];exact hn) (Nat.mod_lt _ hm) (by omega);rw[e2]at this;exact this
section
variable{cs:jA}{ls:L3}
theorem BD(g:Good cs ls)(c s:Int):∃r,Wu [Ke cs ls,.int c,.int s]=ju r/\∃o old ts,r=KN o old ts/\Xi cs.length ls.length old ts:=by
 refine XI (Z:=[pb (Ke cs ls),pb (.int c),pb (.int s),jw,jw,jw,jw,jw]) jv ?_;unfold VC;have l7:=g.l7;have l1:=g.l1;have c6:=g.c6;have c1:=g.c1;have ke:U5 [.list (ls.map Ku)]=ju (.int ls.length):=by rw[K1,Qb]
 have xZ:U5 [.list (cs.map int)]=ju (.int cs.length):=by rw[K1,Qb]
 generalize hm:ls.length=m at *;generalize hn:cs.length=n at *;refine U3 (Kl (ZB (UK (Kk jv UN WM) UP) ke) (Qa jv) jv) ?_;have s1:UU (.list [.int 3,.int 2,.int ((m:Int)+1)]) (.list (Uq m (.int ((n:Int)+1))))=ju (.list (([3,2,(m:Int)+1]++Uq m ((n:Int)+1)).map int)):=by rw[Ys (by rw[QB];show 3+m<=_;omega),QT,List.map_replicate];rfl
 have s2:UU (.list (([3,2,(m:Int)+1]++Uq m ((n:Int)+1)).map int)) (.list (Uq m (.int (m:Int))))=ju (.list ((szA n m).map int)):=by rw[Ys (by rw[Qb,Qi,QB,QB];show 3+m+m<=_;omega)];unfold szA;rw[QT (l₂:=Uq m (m:Int)),List.map_replicate (n:=m) (a:=(m:Int))]
 obtain⟨r,hF,dg,rfl,hdl,hdb⟩:=TQ c s (sizes:=szA n m) (λx hx=>by
  unfold szA at hx;rcases QO.mp hx with hx|hx
  .rcases QO.mp hx with hx|hx
   .have hx:x=3∨x=2∨x=(m:Int)+1:=by simpa using hx
    omega
   .rw[(JT.mp hx).2];omega
  .rw[(JT.mp hx).2];omega) (by rw[NL];omega)
 rw[NL]at hdl;refine U3 (Kl (Kb (UK (UH jv) (UK (UH jv) (UK (US (US (KQ (UK UN (UK UN (UK (US (UH jv) UN KI) UP))) (Qa jv)) (US (KQ (UK (US (ZB (UK (Kk jv UN T6) UP) xZ) UN KI) UP) (Qa jv)) (UH jv) (OG (by omega))) s1) (US (KQ (UK (UH jv) UP) (Qa jv)) (UH jv) (OG (by omega))) s2) UP))) jv hF) (Qa jv) jv) ?_;have get:∀j,j<3+m+m->∃d,dg[j]?=ju d:=λj hj=>⟨dg[j]'(by omega),Qe _⟩
 obtain⟨d0,e0⟩:=get 0 (by omega);obtain⟨d1,e1⟩:=get 1 (by omega);obtain⟨d2,e2⟩:=get 2 (by omega);have b0:=hdb 0 d0 3 e0 jv;have b1:=hdb 1 d1 2 e1 jv;have b2:=hdb 2 d2 ((m:Int)+1) e2 jv;have i0:oIx (.list (dg.map int)) (.int 0)=ju (.int d0):=KE (j:=0) (by rw[Qf,e0];rfl);have i1:oIx (.list (dg.map int)) (.int 1)=ju (.int d1):=KE (j:=1) (by rw[Qf,e1];rfl);have i2:oIx (.list (dg.map int)) (.int 2)=ju (.int d2):=KE (j:=2) (by rw[Qf,e2];rfl);refine U3 (Kl UN (Qa jv) jv) ?_
 let ol:jA:=(dg.drop 3).take m
 have oll:ol.length=m:=by show((dg.drop 3).take m).length=m;rw[Jh,JG];omega
 have olb:∀d∈ol,0<=d/\d<(n:Int)+1:=λd hd=>by
  obtain⟨j,hj,e⟩:=List.mem_iff_getElem.mp hd;have hjm:j<m:=by omega
  refine hdb (3+j) d _ ?_ (ES hjm);have:ol[j]?=ju d:=by rw[Qe hj,e]
  show dg[3+j]?=_;rw[←this];show _=((dg.drop 3).take m)[j]?;rw[List.getElem?_take,Qo hjm,List.getElem?_drop]
 have xx:DL.cutD (dg.map int) (ju 3) (ju (3+(m:Int)))=ol.map int:=by
  rw[PP (by decide) (by omega) (by omega)];have t1:(3:Int).toNat=3:=rfl;have t2:(3+(m:Int)).toNat-(3:Int).toNat=m:=by omega
  rw[t2,t1]
 have step:Ho (sIf (UJ oEq (UR 4 (UL (.int 1))) (UL (.int 1))) (KM 5 (Zw (KU (KD (UE 4) (UZ (UL (.int 3)) λx=>UW (Zf x)) (UZ (UJ UU (UL (.int 3)) (UE 3)) λx=>UW (Zf x)))) 1 (gN 8) (UL jx) (UJ oIx (U2 (UI (UL .none) (UI (UJ Ks (UE 8) (UL (.int 1))) (UG)))) (Zg Sc (UI (UT Us (KL (oIB λi j=>decide (j<i)) 8 (UL (.int 0)))) (UG)))))) (sNx))
   [pb (Ke cs ls),pb (.int c),pb (.int s),pb (.int m),pb (.list (dg.map int)),ju (.pub .none),jw,jw]
   (λr=>∃old x6,r=.nx [pb (Ke cs ls),pb (.int c),pb (.int s),pb (.int m),pb (.list (dg.map int)),x6,jw,jw] /\
    (x6=ju (.pub (Yv old)) ∨ ∃ws,old=ju ws/\x6=ju (.own (ws.map UO)))/\(∀ws,old=ju ws->ws.length=m)/\∀ws t,old=ju ws->ju t∈ws->0<=t/\t<n):=by
  have hc:∀a b:Option Sl,KB (gN 8) (UL jx) (UJ oIx (U2 (UI (UL .none) (UI (UJ Ks (UE 8) (UL (.int 1))) (UG)))) (Zg Sc (UI (UT Us (KL (oIB λi j=>decide (j<i)) 8 (UL (.int 0)))) (UG)))) (ol.map int) (Kf [pb (Ke cs ls),pb (.int c),pb (.int s),pb (.int m),pb (.list (dg.map int)),ju (.pub .none),jw,jw]++Uq 1 jw) []=ju ((ol.map T5).map UO):=λ_ _=>by
   refine Y5 (λZ=>∃x,Z=[pb (Ke cs ls),pb (.int c),pb (.int s),pb (.int m),pb (.list (dg.map int)),ju (.pub .none),jw,jw,x]) _ _ _ _ (by simp only[Qb]) ?_ ⟨jw,rfl⟩ (by rw[Qb,QM];omega);rintro i d e hd he Z ⟨x,rfl⟩;rw[Qf]at hd;rw[Qf,Qf]at he;cases hw:ol[i]? with
   |none=>rw[hw]at hd;cases hd
   |some z=>
   rw[hw]at hd he;cases hd;cases he;exact⟨_,UY (Qa jv) jv,rfl,US (KQ (UK UN (UK (US (UH jv) UN ZM) UP)) (Qa jv)) (ZB (UK (Kr (K8 jv UN jv)) UP) jv) (Ci z),_,rfl⟩
  apply Kd
  case h1=>exact US (Kk jv UN i1) UN WT
  case h2=>
   intro _;refine ZD (Zy (ZX (Zt (WR (UH jv) (Yr UN) (Yr (US UN (UH jv) KI)) (by rw[WZ,xx])) ZP) (hc jw jw)) (Qa jv) jv) ?_;refine⟨ju (ol.map T5),_,rfl,.inr ⟨_,rfl,rfl⟩,λws e=>?_,λws t e ht=>?_⟩
   .cases e;rw[Qb];exact oll
   .cases e
    obtain⟨d,hd,e⟩:=Qu.mp ht;have:=olb d hd;unfold T5 at e;split at e
    .cases e;omega
    .cases e
  case h3=>exact λ_=>Ko ⟨jw,_,rfl,.inl jv,(λws e=>by cases e),(λws t e=>by cases e)⟩
 refine Kg (NW step λr hr=>?_);obtain⟨old,x6,rfl,hx6,xk,hob⟩:=hr;refine Kj ?_;refine U3 (Zy (XU UP (Qa jv)) (Qa jv) jv) ?_;obtain⟨k2,rfl⟩:∃k:Nat,d2=k:=⟨d2.toNat,by omega⟩
 let tl:jA:=(dg.drop (3+m)).take k2
 have tll:tl.length=k2:=by show((dg.drop (3+m)).take k2).length=k2;rw[Jh,JG];omega
 have tlb:∀j d,tl[j]?=ju d->0<=d/\d<(m:Int):=λj d hj=>by
  have kA:j<k2:=by have:=(Qh.mp hj).1;omega
  refine hdb (3+m+j) d _ ?_ (Cj (by omega));rw[←hj];show _=((dg.drop (3+m)).take k2)[j]?;rw[List.getElem?_take,Qo kA,List.getElem?_drop]
 have ve:DL.cutD (dg.map int) (ju (3+(m:Int))) (ju (3+(m:Int)+(k2:Int)))=tl.map int:=by
  rw[PP (by omega) (by omega) (by omega)];have t1:(3+(m:Int)).toNat=3+m:=by omega
  have t2:(3+(m:Int)+(k2:Int)).toNat-(3+(m:Int)).toNat=k2:=by omega
  rw[t2,t1]
 apply Kg;apply Zu (λi Z=>∃(T:jA)(x8:Option Sl),Z=[pb (Ke cs ls),pb (.int c),pb (.int s),pb (.int m),pb (.list (dg.map int)),x6,ju (.own (T.map int)),x8]/\T.length=i/\T.Nodup/\∀a∈T,0<=a/\a<(m:Int))
 case h1=>exact Zt (WR (UH jv) (Yr (US UN (UH jv) KI)) (Yr (US (US UN (UH jv) KI) (Kk jv UN i2) KI)) (by rw[WZ,ve])) ZP
 case h0=>exact⟨[],_,rfl,rfl,J5,λ_ h=>by cases h⟩
 case hst=>
  rintro i d Z hi ⟨T,x8,rfl,hT,hTn,hTb⟩;rw[Qf]at hi;cases hw:tl[i]? with
  |none=>rw[hw]at hi;cases hi
  |some z=>
  rw[hw]at hi;cases hi;have hz:=tlb i z hw;have jT:i<k2:=by have:=(Qh.mp hw).1;omega
  obtain⟨zz,rfl⟩:∃k:Nat,z=k:=⟨z.toNat,by omega⟩
  refine⟨_,UY (Qa jv) jv,?_⟩;unfold Nw;obtain⟨k,hk,xo,hk2⟩:=AX (m:=m) (T:=T) zz (by omega) hTn;refine U3 (Lf (by omega) k 1000 zz xo hk2 (by omega) (by omega)) ?_;refine ZD (Xd jv (UH jv) jv (by rw[Qb];omega) jv) ?_;refine Zh ⟨T++[(((zz+k) % m:Nat):Int)],_,by rw[QT (l₁:=T) (f:=int)];rfl,by rw[Qi,hT];rfl,?_,λa ha=>?_⟩
  .refine List.nodup_append.mpr ⟨hTn,List.nodup_cons.mpr ⟨(by simp),List.nodup_nil⟩,λa ha b hb e=>?_⟩
   rw[Qy.mp hb]at e;exact hk2 (e ▸ ha)
  .rcases QO.mp ha with h|h
   .exact hTb a h
   .rw[Qy.mp h]
    have:=Nat.mod_lt (zz+k) (show 0<m by omega);exact⟨by omega,by omega⟩
 case hend=>
  rintro Z ⟨T,x8,rfl,hT,hTn,hTb⟩;refine Kj ?_
  obtain⟨o,ho⟩:∃o:Ord,oIx (.list [.str "firsts", .str "full", .str "lasts"]) (.int d0)=ju (.str o.tx):=by
   have:d0=0∨d0=1∨d0=2:=by omega
   rcases this with rfl|rfl|rfl
   .exact⟨.firsts,KE (j:=0) jv⟩
   .exact⟨.full,KE (j:=1) jv⟩
   .exact⟨.lasts,KE (j:=2) jv⟩
  have ga:Xi n m old T:=⟨xk,hob,hTn,hTb⟩;rcases hx6 with rfl|⟨ws,rfl,rfl⟩
  .exact Kc (Zs (UK (US (KQ (UK UN (UK UN (UK UN UP))) (Qa jv)) (Kk jv UN i0) ho) (UK (UH jv) (UK (Z8 jv jv) UP))) (Qa jv)) ⟨_,rfl,o,_,T,rfl,ga⟩
  .exact Kc (Zs (UK (US (KQ (UK UN (UK UN (UK UN UP))) (Qa jv)) (Kk jv UN i0) ho) (UK (Z8 jv jv) (UK (Z8 jv jv) UP))) (Qa jv)) ⟨_,rfl,o,ju ws,T,rfl,ga⟩
end
section
variable{cs:jA}{ls:L3}{ws:LO}
theorem jg(g:Good cs ls):Wv [Ke cs ls]=ju (.int (lng ls:Nat)):=by
 refine K3 (Z:=[pb (Ke cs ls)]) jv ?_;unfold VE
 have hc:KB (gN 1) (UL jx) (Kv 1) (ls.map Ku) (Kf [pb (Ke cs ls)]++Uq 1 jw) []=ju ((ls.map λrs=>(rs.length:Int)).map int):=by
  refine Y5 (λZ=>∃x,Z=[pb (Ke cs ls),x]) _ _ _ _ (by rw[Qb,Qb,Qb]) ?_ ⟨jw,rfl⟩ (by rw[Qb,QM];have:=g.l7;omega);rintro i d e hd he Z ⟨x,rfl⟩;rw[Qf]at hd;rw[Qf,Qf]at he;cases hl:ls[i]? with
  |none=>rw[hl]at hd;cases hd
  |some rs=>
  rw[hl]at hd he;cases hd;cases he;exact⟨_,UY (Qa jv) jv,rfl,Kz jv (M8 rs),_,rfl⟩
 refine Kc (ZB (UK (Kr (ZX (Zt (Kk jv UN WM) ZP) hc)) UP) (Mi (by rw[Qb];have:=g.l1;omega))) ?_;rw[Pm g.l1]
theorem qS{i:Nat}{rs:List jA}(h:ls[i]?=ju rs)(t:Int):Ww [Ke cs ls,.int i,.int t]=ju (.int (ZJ t rs:Nat)):=by
 refine K3 (Z:=[pb (Ke cs ls),pb (.int i),pb (.int t),jw,jw]) jv ?_;unfold VF;apply Kg;apply Zu (λi' Z=>(∃x2 x3,Z=[pb (Ke cs ls),pb (.int i),pb (.int t),x2,x3])/\∀j r,j<i'->rs[j]?=ju r->r.contains t=jy)
 case h1=>exact WU (UK (US (Kk jv UN WM) (UH jv) (Ou h)) UP) W0
 case h0=>exact⟨⟨_,_,rfl⟩,λj r h=>absurd h (J4 _)⟩
 case hst=>
  rintro k d Z hi ⟨⟨x2,x3,rfl⟩,hb⟩;obtain⟨x,hx,rfl⟩:=XQ hi;rw[Qf]at hx;cases hr:rs[k]? with
  |none=>rw[hr]at hx;cases hx
  |some r=>
   rw[hr]at hx;cases hx;refine⟨_,KF jv (U4 (UY (Qa jv) jv) (U4 (UY (Qa jv) jv) KG)),?_⟩;unfold NE;apply Kd
   case h1=>exact K8 jv (UH jv) (Po t r)
   case h2=>
    intro hh;refine Kc (US (UH jv) UN KI) (YF ?_);rw[MN hr hh hb];refine⟨?_⟩
    congr 2
    omega
   case h3=>
    intro hh;refine Ko (Zh ⟨⟨_,_,rfl⟩,λj r' hj e=>?_⟩);rcases Nat.lt_succ_iff_lt_or_eq.mp hj with hj|rfl
    .exact hb j r' hj e
    .rw[hr]at e;cases e;exact hh
 case hend=>rintro Z ⟨⟨x2,x3,rfl⟩,hb⟩;refine Kj (Kc UN ?_);rw[MM (λj r hj e=>hb j r (by rw[Y6,Qb];exact hj) e)];rfl
end
theorem Ce{xs:jz}{a b:jD}:(DL.cutD xs a b).length<=xs.length:=by unfold DL.cutD;rw[Jh,JG];omega
theorem Cd{xs:jz}{a b:jD}{x:D}(h:x∈DL.cutD xs a b):x∈xs:=by unfold DL.cutD at h;exact List.mem_of_mem_drop (JW h)
theorem CM{ns:jA}{n:Int}{a b:jD}{i:Nat}{x:D}(h:(int n::DL.cutD (ns.map int) a b)[i]?=ju x):∃c:Int,x=.int c:=by
 have hm:=Qp h;rcases Ql.mp hm with rfl|hm
 .exact⟨n,rfl⟩
 .obtain⟨c,_,rfl⟩:=Qu.mp (Cd hm)
  exact⟨c,rfl⟩
theorem CL{ns:jA}{n:Int}{a b:jD}(h:ns.length<=1000):UU (.list [.int n]) (.list (DL.cutD (ns.map int) a b))=ju (.list (int n::DL.cutD (ns.map int) a b)):=Ys (by
 have:=Ce (xs:=ns.map int) (a:=a) (b:=b);rw[Qb]at this;show 1+_<=_
 omega)
def whB:D->Bool
 |.int _=>jx
 |_=>jy
def YU(n:Int):D->Bool
 |.int i=>decide (0<=i)&&decide (i<n)
 |_=>jy
def whI:D->jD
 |.int i=>ju i
 |_=>jw
theorem PK(d:D):YB [d]=ju (.bool (whB d)):=by
 cases d with
 |dict kvs=>exact K3 (Z:=[pb (.dict kvs)]) jv (Kc (XT (t:=jy) (u:=jy) (OM (UH jv)) λz=>by cases z) jv)
 |_=>rfl
theorem CJ(d:D)(n:Int):K5 [d,.int n]=ju (.bool (YU n d)):=by
 refine K3 (Z:=[pb d,pb (.int n)]) jv ?_;unfold Wi;cases d with
 |int i=>exact Kc (XT (t:=jx) (u:=decide (0<=i)&&decide (i<n)) (Kb (UK (UH jv) UP) jv (PK (.int i))) (λ_=>Kr (RI UN (UH jv) jv (λ_=>UH jv) (λ_=>rfl)))) jv
 |_=>exact Kc (XT (t:=jy) (u:=jy) (Kb (UK (UH jv) UP) jv (PK _)) (λz=>by cases z)) jv
theorem Mr{n:Int}{d:D}(h:YU n d=jx):∃i,d=.int i/\0<=i/\i<n:=by
 cases d with
 |int i=>have h:(decide (0<=i)&&decide (i<n))=jx:=h;simp only[QS,Ja]at h;exact⟨i,rfl,h⟩
 |_=>cases h
theorem CI{q:D->Bool}(xs:jz):ZE [.list (xs.map λd=>.bool (q d))]=ju (.bool (xs.all q)):=by
 have:(xs.map λd=>Us (q d))=(xs.map q).map Us:=by rw[Jb];rfl
 rw[this,NT]
 congr 2
 rw[List.all_map];rfl
theorem Od{ns:jA}:∀i,(PyProof.Rows.firstMet (λi=>ns.getD i 0) i).length<=i:=by
 intro i;induction i with
 |zero=>exact Qq _
 |succ i ih=>
  rw[PyProof.Rows.firstMet_succ];unfold PyProof.Rows.step_dedup;split
  .omega
  .rw[Qi,QQ];omega
theorem je{ns:jA}(h:ZA ns=ns.length):ns.Nodup:=by
 unfold ZA at h
 have key:∀i,i<=ns.length->(PyProof.Rows.firstMet (λi=>ns.getD i 0) i).length=i->(ns.take i).Nodup:=by
  intro i;induction i with
  |zero=>intro _ _;simp
  |succ i ih=>
   intro hi e;rw[PyProof.Rows.firstMet_succ]at e;unfold PyProof.Rows.step_dedup at e;cases hany:(PyProof.Rows.firstMet (λi=>ns.getD i 0) i).any (· == ns.getD i 0)with
   |true=>rw[hany,Qo jv]at e;have:=Od (ns:=ns) i;omega
   |false=>
    rw[hany,QC (by decide),Qi]at e;have e:(PyProof.Rows.firstMet (λi=>ns.getD i 0) i).length=i:=by simpa using e
    have ih:=ih (by omega) e;rw[List.take_succ_eq_append_getElem (by omega),List.nodup_append];refine⟨ih,by simp,λa ha b hb=>?_⟩;rw[Qy]at hb;subst hb;rw[PyProof.Rows.firstMet_any,List.any_eq_false]at hany;obtain⟨j,hj,rfl⟩:=List.mem_take_iff_getElem.mp ha;have hj':j<i:=by have:=hj;omega
    have:=hany (ns.getD j 0) (Qu.mpr ⟨j,Je.mpr hj',rfl⟩);have l1:j<ns.length:=by omega
    have l2:i<ns.length:=by omega
    simp only[List.getD,Qe l1,Qe l2,JQ,beq_iff_eq]at this;exact this
 have:=key ns.length (Qq _) h;rwa[JR]at this
theorem EQ{i:Int}(h0:0<=i)(h1:i<1000000000000000000):Sa [.int i]=ju (.str (toString i)):=by
 unfold Sa;refine Qo ?_;by_cases z:i.natAbs=0
 .rw[z];decide
 .have:i.natAbs<2 ^ 64:=by omega
  have:=(Nat.log2_lt z).mpr this;omega
theorem Pz{f g:M Bool}{Z:UF}{t u:Bool}(h1:f Z=.ok t Z)(h2:t=jx->g Z=.ok u Z)(h3:t=jy->u=jy):KH f g Z=.ok u Z:=by
 have:=Rh h1 h2;cases t with
 |true=>exact this
 |false=>rw[h3 jv];exact this
section
variable{cs:jA}{ls:L3}{o:Ord}{old:jL}{ts:jA}
theorem Lk{ts:jA}{b a r x:Int}(hn:(ts++[x]).Nodup):Y8 (ts++[x]) b a r=Y8 ts b a r*b+if x=a then b-r else 0:=by
 have hx:x∉ts:=λz=>(List.nodup_append.mp hn).2.2 x z x (List.mem_singleton.mpr jv) jv;unfold Y8
 by_cases h:a∈ts
 .have hxa:¬x=a:=λe=>hx (e ▸ h)
  have hlt:=List.idxOf_lt_length_of_mem h;rw[Qo (Jo _ h),Qo h,QC hxa,List.idxOf_append,Qo h,Qi,QQ,show ts.length+1-1-ts.idxOf a=(ts.length-1-ts.idxOf a)+1 by omega,Int.pow_succ,Int.add_zero,Int.mul_assoc]
 .rw[QC h,Int.zero_mul,JS]
  by_cases e:x=a
  .subst e
   rw[if_pos (by simp),if_pos jv,List.idxOf_append,if_neg h,List.length_append,List.length_singleton,List.idxOf_cons_self,show ts.length+1-1-(0+ts.length)=0 by omega,Int.pow_zero,Int.mul_one]
  .rw[if_neg (by simp[h];exact λz=>e z.symm),if_neg e]
def pwL(b:Int)(n:Nat):jA:=(Up (n+1)).map λj:Nat=>b ^ j
theorem Nb{b:Int}{n j:Nat}(h:j<=n):(pwL b n)[j]?=ju (b ^ j):=by unfold pwL;rw[Qf,List.getElem?_range (by omega)];rfl
theorem Na{b:Int}{n:Nat}:(pwL b n).length=n+1:=by unfold pwL;rw[Qb,Ji]
theorem Cc{b:Int}{n:Nat}:pwL b (n+1)=pwL b n++[b ^ n*b]:=by unfold pwL;rw[List.range_succ,QT,←Int.pow_succ];rfl
theorem R5{b:Int}{n:Nat}{k:Int}(h0:0<=k)(h:k<=n):oIx (.list ((pwL b n).map int)) (.int k)=ju (.int (b ^ k.toNat)):=by
 have e:k=((k.toNat:Nat):Int):=by omega
 rw[e];refine KE ?_;rw[Qf,Nb (by omega)];rfl
theorem Cb{ws:LO}{i:Nat}{t:Int}(h:i<ws.length):oEq (UO ws[i]) (.int t)=ju (decide (ws[i]=ju t)):=W7 (b:=ju t)
def Ord.isL:Ord->Bool
 |.lasts=>jx
 |_=>jy
theorem GQ(o:Ord):oEq (.str o.tx) (.str "lasts")=ju o.isL:=by cases o<;>decide +kernel
theorem jd(g:Good cs ls)(ga:Xi cs.length ls.length old ts){i:Nat}{rs:List jA}(hi:ls[i]?=ju rs){t:Int}(ht:t∈rs.flatten):Ws [Ke cs ls,KN o old ts,.int i,.int t]=ju (.int (K4 ls o old ts i rs t)):=by
 have l7:=g.l7;have l1:=g.l1;have hL:lng ls<=5:=OJ l1 λrs h=>(g.rk rs h).few;have hrs:rs∈ls:=Qp hi;have hrl:=GS hrs;have hrk:ZJ t rs<=lng ls:=by have:=M9 t rs;omega
 have hrp:1<=ZJ t rs:=by have:=Ll ht;omega
 have htl:=ga.few;have hlt:i<ls.length:=(Qh.mp hi).1;refine K3 (Z:=[pb (Ke cs ls),pb (KN o old ts),pb (.int i),pb (.int t),jw,jw,jw,jw,jw,jw,jw,jw,jw,jw,jw]) jv ?_;unfold Vz;refine U3 (WN (UH jv) (KF jv (U4 (UY (Qa jv) jv) (U4 (UY (Qa jv) jv) (U4 (UY (Qa jv) jv) KG))))) ?_;have ke:U5 [.list (ls.map Ku)]=ju (.int ls.length):=by rw[K1,Qb]
 refine U3 (Kl (US (ZB (UK (Kk jv UN WM) UP) ke) UN KI) (Qa jv) jv) ?_;refine U3 (Kl (Kb (UK (UH jv) UP) jv (jg g)) (Qa jv) jv) ?_;refine U3 (Kl (Kb (UK (UH jv) (UK (UH jv) (UK (UH jv) UP))) jv (qS hi t)) (Qa jv) jv) ?_;refine U3 (Zy (XU (UK UN UP) (Qa jv)) (Qa jv) jv) ?_
 let S0:Option Sl:=ju (.pub (Ke cs ls))
 let S1:Option Sl:=ju (.pub (KN o old ts))
 let S2:Option Sl:=ju (.pub (.int i))
 let S3:Option Sl:=ju (.pub (.int t))
 let S4:Option Sl:=ju (.pub (.str o.tx))
 let S5:Option Sl:=ju (.pub (Yv old))
 let S6:Option Sl:=ju (.pub (.list (ts.map int)))
 let b:Int:=(ls.length:Int)+1
 let M:Nat:=lng ls
 let r:Nat:=ZJ t rs
 let S7:Option Sl:=ju (.pub (.int b))
 let S8:Option Sl:=ju (.pub (.int (M:Int)))
 let S9:Option Sl:=ju (.pub (.int (r:Int)))
 apply Kg;apply Zu (λj Z=>∃jP,Z=[S0,S1,S2,S3,S4,S5,S6,S7,S8,S9,ju (.own ((pwL b j).map int)),jP,jw,jw,jw])
 case h1=>exact XZ (UK (UH jv) UP) (X6 (by omega) (by omega))
 case h0=>exact⟨_,rfl⟩
 case hst=>
  rintro j d Z hj ⟨jP,rfl⟩;refine⟨_,UY (Qa jv) jv,?_⟩;unfold NC;obtain⟨_,kA⟩:=XN hj
  have jX:oIx (.list ((pwL b j).map int)) (.int (-1))=ju (.int (b ^ j)):=Rv (by
   rw[List.getLast?_eq_getElem?,Qb,Na,Qf,Nat.add_sub_cancel,Nb (Qq j)]
   rfl)
  refine ZD (Xd jv (US (Xf jv (XJ UN) jv jX) (UH jv) (XS (by omega) (by omega))) jv (by rw[Qb,Na];omega) jv) (Zh ⟨ju (.pub d),?_⟩);rw[Cc,QT];rfl
 case hend=>
  rintro Z ⟨jP,rfl⟩;have er:(Zv 0 (M:Int)).length=M:=by rw[YJ];omega
  rw[er];refine Kj ?_
  let S10:Option Sl:=ju (.own ((pwL b M).map int))
  have e1:((M:Int)-(r:Int)).toNat=M-r:=by omega
  have p1:oIx (.list ((pwL b M).map int)) (.int ((M:Int)-(r:Int)))=ju (.int (b ^ (M-r))):=by rw[R5 (by omega) (by omega),e1]
  have p2:oIx (.list ((pwL b M).map int)) (.int (M:Int))=ju (.int (b ^ M)):=by rw[R5 (by omega) (by omega)];rfl
  have p3:oIx (.list ((pwL b M).map int)) (.int ((r:Int)-1))=ju (.int (b ^ (r-1))):=by rw[R5 (by omega) (by omega),show((r:Int)-1).toNat=r-1 by omega]
  refine U3 (Z1:=[S0,S1,S2,S3,S4,S5,S6,S7,S8,S9,S10,jP,pb (.int (b ^ (M-r))),jw,jw]) (Kl (Xf jv (US (UH jv) (UH jv) ZM) jv p1) (Qa jv) jv) ?_
  have eo:Yd o b M r=match o with | .firsts=>b ^ (M-r) | .full=>b ^ (M-r)+b ^ M | .lasts=>b ^ M-b ^ (r-1):=by
   cases o with
   |firsts=>show b ^ ((M:Int)-(r:Int)).toNat=_;rw[e1]
   |full=>show b ^ ((M:Int)).toNat+b ^ ((M:Int)-(r:Int)).toNat=_;rw[e1,Int.add_comm];rfl
   |lasts=>show b ^ ((M:Int)).toNat-b ^ ((r:Int)-1).toNat=_;rw[show((r:Int)-1).toNat=r-1 by omega];rfl
  have done:∀w:Int,w=Yd o b M r->Ho (UM (U0 12 (UJ U9 (UE 12) (UE 7)))
    (UM (sIf (KH (UT (λd=>!isNon d) (UE 5)) (UJ oEq (UR 5 (UE 2)) (UE 3)))
    (U0 12 (UJ UU (UE 12) (UL (.int 1))))
    (sNx))
    (UM (U0 13 (UL (.int 0)))
    (UM (Km (KU (UE 6)) (gN 14) Rz)
    (UX (UJ UU (UE 12) (UE 13))))))) [S0,S1,S2,S3,S4,S5,S6,S7,S8,S9,S10,jP,pb (.int w),jw,jw] (λo'=>o'=.rt (.int (K4 ls o old ts i rs t))):=by
   rintro w rfl;refine U3 (Z1:=[S0,S1,S2,S3,S4,S5,S6,S7,S8,S9,S10,jP,pb (.int (Yd o b M r*b)),jw,jw]) (Kl (US (UH rfl) (UH rfl) (XS (by omega) (by omega))) (Qa rfl) rfl) ?_
   have rest:∀v:Int,v=Yd o b M r*b+XB old i t->Ho (UM (U0 13 (UL (.int 0)))
    (UM (Km (KU (UE 6)) (gN 14) Rz)
    (UX (UJ UU (UE 12) (UE 13))))) [S0,S1,S2,S3,S4,S5,S6,S7,S8,S9,S10,jP,pb (.int v),jw,jw] (λo'=>o'=.rt (.int (K4 ls o old ts i rs t))):=by
    intro v hv;refine U3 (Kl UN (Qa jv) jv) ?_;apply Kg;apply Zu (λj Z=>∃ki,Z=[S0,S1,S2,S3,S4,S5,S6,S7,S8,S9,S10,jP,pb (.int (v*((M:Int)+1) ^ j)),pb (.int (Y8 (ts.take j) ((M:Int)+1) i r)),ki])
    case h1=>exact Zt (UH jv) ZP
    case h0=>exact⟨jw,by rw[Int.pow_zero,Int.mul_one];rfl⟩
    case hst=>
     rintro j d Z hj ⟨ki,rfl⟩;rw[Qf]at hj;cases hz:ts[j]? with
     |none=>rw[hz]at hj;cases hj
     |some a=>
     rw[hz]at hj;cases hj;have kA:j<ts.length:=(Qh.mp hz).1;have ha:ts[j]=a:=(Qh.mp hz).2;have hts:ts.take (j+1)=ts.take j++[a]:=by rw[List.take_succ_eq_append_getElem kA,ha]
     have hnd:(ts.take j++[a]).Nodup:=by rw[←hts];exact List.Nodup.sublist (List.take_sublist _ _) ga.once
     refine⟨_,UY (Qa jv) jv,?_⟩;unfold Rz;refine U3 (Z1:=[S0,S1,S2,S3,S4,S5,S6,S7,S8,S9,S10,jP,pb (.int (v*((M:Int)+1) ^ (j+1))),pb (.int (Y8 (ts.take j) ((M:Int)+1) i r)),pb (.int a)]) (Kl (US (UH jv) (US (UH jv) UN KI) (XS (by omega) (by omega))) (Qa jv) (by rw[Int.mul_assoc,←Int.pow_succ];rfl)) ?_;refine U3 (Z1:=[S0,S1,S2,S3,S4,S5,S6,S7,S8,S9,S10,jP,pb (.int (v*((M:Int)+1) ^ (j+1))),pb (.int (Y8 (ts.take j) ((M:Int)+1) i r*((M:Int)+1))),pb (.int a)]) (Kl (US (UH jv) (US (UH jv) UN KI) (XS (by omega) (by omega))) (Qa jv) jv) ?_;refine Kd (K8 jv (UH jv) WT) (λhh=>?_) (λhh=>?_)
     .have e:a=(i:Int):=by simpa using hh
      refine ZD (Kl (US (US (US (UH jv) (UH jv) KI) UN KI) (UH jv) ZM) (Qa jv) jv) (Zh ⟨ju (.pub (.int a)),?_⟩);rw[hts,Lk hnd,Qo e];have:Y8 (ts.take j) ((M:Int)+1) i r*((M:Int)+1)+(M:Int)+1-(r:Int)=Y8 (ts.take j) ((M:Int)+1) i r*((M:Int)+1)+((M:Int)+1-(r:Int)):=by omega
      rw[←this];rfl
     .have e:¬a=(i:Int):=by simpa using hh
      refine Ko (Zh ⟨ju (.pub (.int a)),?_⟩);rw[hts,Lk hnd,QC e,Int.add_zero]
    case hend=>rintro Z ⟨ki,rfl⟩;refine Kj (Kc (US (UH rfl) (UH rfl) KI) ?_);rw[Qb,JR,hv];rfl
   have hkk:KH (UT (λd=>!isNon d) (UE 5)) (UJ oEq (UR 5 (UE 2)) (UE 3)) [S0,S1,S2,S3,S4,S5,S6,S7,S8,S9,S10,jP,pb (.int (Yd o b M r*b)),jw,jw]=.ok (decide (XB old i t=1)) [S0,S1,S2,S3,S4,S5,S6,S7,S8,S9,S10,jP,pb (.int (Yd o b M r*b)),jw,jw]:=by
    cases old with
    |none=>exact NV (Kr (k:=λd=>!isNon d) (x:=PyData.none) (UH jv))
    |some ws=>
     have hw:ws.length=ls.length:=ga.len ws jv;have hwi:ws[i]?=ju ws[i]:=Qe (by omega);have hx:oIx (.list (ws.map UO)) (.int i)=ju (UO ws[i]):=Rn (by omega)
     have e:decide (XB (ju ws) i t=1)=decide (ws[i]=ju t):=by
      refine decide_eq_decide.mpr ?_
      show(if ws[i]?=ju (ju t)then(1:Int)else 0)=1 ↔ _
      rw[hwi];by_cases z:ws[i]=ju t
      .rw[if_pos (by rw[z])];simp[z]
      .rw[if_neg (λy=>z (Option.some.inj y))];simp[z]
     rw[e];exact NU (Kr (k:=λd=>!isNon d) (x:=Yv (ju ws)) (UH jv)) (US (Kk jv (UH jv) hx) (UH jv) (Cb (by omega)))
   apply Kg;refine Kd hkk (λhh=>?_) (λhh=>?_)
   .have e:XB old i t=1:=by simpa using hh
    exact ZD (Kl (US (UH jv) UN KI) (Qa jv) jv) (Kj (rest _ (by rw[e])))
   .have e:XB old i t=0:=by
     have hn:¬XB old i t=1:=by simpa using hh
     unfold XB at hn⊢;split at hn
     .rfl
     .split at hn
      .exact absurd jv hn
      .rename_i hz;rw[QC hz]
    exact Ko (Kj (rest _ (by rw[e,Int.add_zero])))
  have f2:=GQ o;apply Kg;refine Kd (K8 jv UN (OI o)) (λhh=>?_) (λhh=>?_)
  .cases o with
   |full=>refine ZD (Kl (US (UH jv) (Xf jv (UH jv) jv p2) KI) (Qa jv) jv) (Kj ?_);apply Kg;exact Kd (b:=jy) (K8 jv UN f2) (λz=>by cases z) λ_=>Ko (Kj (done _ eo.symm))
   |firsts=>cases hh
   |lasts=>cases hh
  .refine Ko (Kj ?_)
   apply Kg;refine Kd (K8 jv UN f2) (λh2=>?_) (λh2=>?_)
   .cases o with
    |lasts=>exact ZD (Kl (US (Xf jv (UH jv) jv p2) (Xf jv (US (UH jv) UN ZM) jv p3) ZM) (Qa jv) jv) (Kj (done _ eo.symm))
    |firsts=>cases h2
    |full=>cases h2
   .cases o with
    |firsts=>exact Ko (Kj (done _ eo.symm))
    |full=>cases hh
    |lasts=>cases h2
end
theorem AV{α β:Type}{f:α->β}(hf:∀a b,f a=f b->a=b){l:List α}(h:l.Nodup):(l.map f).Nodup:=by unfold List.Nodup at h⊢;rw[List.pairwise_map];exact h.imp λhne e=>hne (hf _ _ e)
theorem Lj:∀(ls:L3)(k:Nat),(∀rs∈ls,rs.flatten.Nodup)->(Kt k ls).Nodup
 |[],_,_=>J5
 |rs::ls,k,h=>by
  show((ZL rs.flatten).map (λt=>((k:Int),t))++Kt (k+1) ls).Nodup
  rw[List.nodup_append];refine⟨?_,Lj ls (k+1) λr hr=>h r (QD _ hr),λa ha b hb e=>?_⟩
  .exact AV (λx y e=>(J9 e).2) ((Y7 _).nodup_iff.mpr (h rs Qt))
  .subst e
   obtain⟨t,_,rfl⟩:=Qu.mp ha;have:=Ms ls (k+1) _ hb;simp at this;omega
theorem EO{cs:jA}{ls:L3}(g:Good cs ls):∀q∈Kt 0 ls,(0<=q.1/\q.1<ls.length)/\0<=q.2/\q.2<cs.length:=λq hq=>by obtain⟨i,rs,h1,h2,h3⟩:=Vb hq;have:=(g.rk rs (Qp h1)).flat q.2 h3;have:=(Qh.mp h1).1;omega
structure XX(cs:jA)(qs:LP)(m:Nat)(ws:LO):Prop where
 len:ws.length=m
 wish:∀(i:Nat) t,ws[i]?=ju (ju t)->((i:Int),t)∈qs
 cop:∀(k:Nat) c,cs[k]?=ju c->((ws.count (ju (k:Int)):Nat):Int)<=c
structure Ot(n m:Nat)(qs:LP):Prop where
 nd:qs.Nodup
 lo:∀q∈qs,0<=q.1/\q.1<m/\0<=q.2/\q.2<n
def UQ(p:Nat×jD):D:=.tuple [.int (p.1:Nat),UO p.2]
theorem CH{ws:LO}{tk:List (Nat×jD)}(h:∀p∈tk,p.1<ws.length):YY [U6 ws,.list (tk.map UQ)]=ju (U6 (tk.foldl (λd p=>d.set p.1 p.2) ws)):=by
 refine K3 (Z:=[pb (U6 ws),pb (.list (tk.map UQ)),jw,jw,jw]) jv ?_;unfold VL;refine U3 (Zy (SD jv (show YD [U6 ws]=ju (ws.map UO)from rfl)) (Qa jv) jv) ?_
 have hlen:∀(R:List (Nat×jD))(d:LO),(R.foldl (λd p=>d.set p.1 p.2) d).length=d.length:=λR=>by
  induction R with
  |nil=>intro d;rfl
  |cons p R ih=>intro d;rw[List.foldl_cons,ih,Q6]
 apply Kg;apply Zu (λk Z=>∃x3 x4,Z=[pb (U6 ws),pb (.list (tk.map UQ)),ju (.own (((tk.take k).foldl (λd p=>d.set p.1 p.2) ws).map UO)),x3,x4])
 case h1=>exact Zt (UH jv) ZP
 case h0=>exact⟨_,_,rfl⟩
 case hst=>
  rintro k d Z hk ⟨x3,x4,rfl⟩;rw[Qf]at hk;cases hq:tk[k]? with
  |none=>rw[hq]at hk;cases hk
  |some p=>
  rw[hq]at hk;cases hk;have hpl:=h p (Qp hq);have xj:tk.take (k+1)=tk.take k++[p]:=by rw[J6,hq];rfl
  refine⟨_,KF jv (U4 (UY (Qa jv) jv) (U4 (UY (Qa jv) jv) KG)),?_⟩;unfold Nd;refine ZD (Rr (UH jv) jv (UH jv) jv ⟨Int.natCast_nonneg _,by rw[Qb,hlen];omega⟩ jv) (Zh ⟨ju (.pub (.int (p.1:Nat))),pb (UO p.2),?_⟩);rw[xj,List.foldl_append];show [_,_,ju (Sl.own ((((tk.take k).foldl (λd p=>d.set p.1 p.2) ws).map UO).set ((p.1:Int)).toNat (UO p.2))),_,_]=[_,_,ju (Sl.own ((((tk.take k).foldl (λd p=>d.set p.1 p.2) ws).set p.1 p.2).map UO)),_,_];rw[Q0,List.map_set]
 case hend=>rintro Z ⟨x3,x4,rfl⟩;refine Kj (Kc (Z8 rfl rfl) ?_);rw[Qb,JR];rfl
section
variable{cs:jA}{ls:L3}{ws:LO}{qs:LP}{V:Int->Int->Int}
theorem AU(g:Good cs ls):Ot cs.length ls.length (Kt 0 ls) where
 nd:=Lj ls 0 λrs hr=>(g.rk rs hr).once
 lo:=λq hq=>by have:=EO g q hq;exact⟨this.1.1,this.1.2,this.2.1,this.2.2⟩
end
def Os(cs:jA)(ws:LO)(t:Nat):Prop:=∃c,cs[t]?=ju c/\((ws.count (ju (t:Int)):Nat):Int)<c
structure WayQ(cs:jA)(qs:LP)(ws:LO)(W:List (Nat×jD)):Prop where
 ne:W≠[]
 mv:∀p∈W,∃o,ws[p.1]?=ju o/\p.2≠o/\∀t,p.2=ju t->((p.1:Int),t)∈qs
 nd:(W.map Prod.fst).Nodup
 lnk:∀(k:Nat) p q,W[k]?=ju p->W[k+1]?=ju q->p.2≠jw/\ws[q.1]?=ju p.2
 fin:∀p q,W.head?=ju p->W.getLast?=ju q->q.2=jw∨ws[p.1]?=ju q.2 ∨ ∃t:Nat,q.2=ju (t:Int)/\Os cs ws t
section
variable{cs:jA}{ls:L3}{ws:LO}{o:Ord}{old:jL}{ts:jA}
theorem M5(h:XX cs (Kt 0 ls) ls.length ws):Deal cs ls ws where
 len:=h.len
 wish:=λi t rs hw hrs=>by
  obtain⟨i',rs',h1,h2,h3⟩:=Vb (h.wish i t hw);have h2:(i:Int)=((0+i':Nat):Int):=h2;have hii:i=i':=by omega
  subst hii;rw[hrs]at h1;cases h1;exact h3
 cop:=h.cop
end
section
variable{cs:jA}{ls:L3}{o:Ord}{old:jL}{ts:jA}{ws:LO}
theorem Ca(du:Deal cs ls ws):XX cs (Kt 0 ls) ls.length ws:=⟨du.len,λi t h=>by
 have jT:i<ls.length:=by have:=(Qh.mp h).1;have:=du.len;omega
 have hrs:ls[i]?=ju ls[i]:=Qe jT;have:=PX (k:=0) hrs (du.wish i t _ h hrs);rwa[Jr]at this,du.cop⟩
end
def K2(W:List (Nat×jD))(ws:LO):LO:=W.foldl (λd p=>d.set p.1 p.2) ws
theorem Sz:∀(W:List (Nat×jD))(ws:LO),(K2 W ws).length=ws.length
 |[],_=>rfl
 |p::W,ws=>(Sz W _).trans (by rw[Q6])
theorem Sy{i:Nat}:∀(W:List (Nat×jD))(ws:LO),i∉W.map Prod.fst->(K2 W ws)[i]?=ws[i]?
 |[],_,_=>rfl
 |p::W,ws,h=>by rw[QN,Ql,not_or]at h;exact(Sy W _ h.2).trans (Qm (λe=>h.1 e.symm))
theorem TK:∀(W:List (Nat×jD))(ws:LO),(W.map Prod.fst).Nodup->∀p∈W,p.1<ws.length->(K2 W ws)[p.1]?=ju p.2
 |[],_,_,_,h,_=>by cases h
 |p::W,ws,hn,q,h,hl=>by
  rw[QN,JY]at hn;cases h with
  |head=>exact(Sy W _ hn.1).trans (by rw[QG hl])
  |tail _ h=>exact TK W _ hn.2 q h (by rw[Q6];exact hl)
theorem O9{x o o':jD}{ws:LO}{i:Nat}(h:ws[i]?=ju o):(ws.set i o').count x+(if o=x then 1 else 0)=ws.count x+(if o'=x then 1 else 0):=by
 obtain⟨hl,e⟩:=Qh.mp h;have hc:=List.count_set (a:=o') (b:=x) (l:=ws) hl;rw[e]at hc
 have h1:0<ws.count x∨o≠x:=by
  by_cases hx:o=x
  .exact .inl (List.count_pos_iff.mpr (hx ▸ e ▸ Q5 hl))
  .exact .inr hx
 rw[hc];by_cases h2:o=x<;>by_cases h3:o'=x<;>simp[h2,h3]<;>first|omega|(rcases h1 with h1|h1<;>first|omega|exact absurd h2 h1)
theorem O8(x:jD):∀(R:List (Nat×jD))(p:Nat×jD)(ws:LO)(o:jD),ws[p.1]?=ju o->((p::R).map Prod.fst).Nodup->(∀(k:Nat) a b,(p::R)[k]?=ju a->(p::R)[k+1]?=ju b->ws[b.1]?=ju a.2)->∀l,(p::R).getLast?=ju l->(K2 (p::R) ws).count x+(if o=x then 1 else 0)=ws.count x+(if l.2=x then 1 else 0)
 |[],p,ws,o,h,_,_,l,hl=>by cases hl;exact O9 h
 |q::R,p,ws,o,h,hn,hk,l,hl=>by
  have hn':=hn;rw[QN,JY]at hn';have hq:∀b∈q::R,p.1≠b.1:=λb hb e=>hn'.1 (e ▸ Qu.mpr ⟨b,hb,rfl⟩);have h1:=O9 (x:=x) (o':=p.2) h
  have h2:=O8 x R q (ws.set p.1 p.2) p.2 (by rw[Qm (hq q Qt)];exact hk 0 p q jv jv) hn'.2 (λk a b ha hb=>by rw[Qm (hq b (Qp hb))];exact hk (k+1) a b ha hb) l (by rw[List.getLast?_cons_cons]at hl;exact hl);have e:K2 (p::q::R) ws=K2 (q::R) (ws.set p.1 p.2):=rfl;rw[e];omega
section
variable{cs:jA}{ls:L3}{ws:LO}{W:List (Nat×jD)}{qs:LP}
theorem O7(h:WayQ cs qs ws W):∃p R l o,W=p::R/\W.getLast?=ju l/\ws[p.1]?=ju o/\∀x,(K2 W ws).count x+(if o=x then 1 else 0)=ws.count x+(if l.2=x then 1 else 0):=by
 cases hW:W with
 |nil=>exact absurd hW h.ne
 |cons p R=>
  subst hW;obtain⟨o,ho,_⟩:=h.mv p Qt;cases hl:(p::R).getLast? with
  |none=>rw[List.getLast?_eq_none_iff]at hl;cases hl
  |some l=>exact⟨p,R,l,o,rfl,rfl,ho,λx=>O8 x R p ws o ho h.nd (λk a b ha hb=>(h.lnk k a b ha hb).2) l hl⟩
theorem XV(h:WayQ cs qs ws W){p:Nat×jD}(hp:p∈W):p.1<ws.length:=by obtain⟨o,ho,_⟩:=h.mv p hp;exact(Qh.mp ho).1
theorem O6{m:Nat}(hd:XX cs qs m ws)(h:WayQ cs qs ws W):XX cs qs m (K2 W ws) where
 len:=(Sz W ws).trans hd.len
 wish:=λi t e=>by
  by_cases hi:i∈W.map Prod.fst
  .obtain⟨p,hp,rfl⟩:=Qu.mp hi
   rw[TK W ws h.nd p hp (XV h hp)]at e;obtain⟨o,_,_,hq⟩:=h.mv p hp;exact hq t (Qz e)
  .rw[Sy W ws hi]at e
   exact hd.wish i t e
 cop:=λk c hc=>by
  obtain⟨p,R,l,o,hW,hl,ho,xy⟩:=O7 h;have h1:=xy (ju (k:Int));have h2:=hd.cop k c hc;by_cases hx:l.2=ju (k:Int)
  .rw[Qo hx]at h1
   rcases h.fin p l (by rw[hW];rfl) hl with e|e|⟨t,e,c',hc',hlt⟩
   .rw[e]at hx;cases hx
   .rw[ho,hx]at e
    rw[Qo (Qz e)]at h1;omega
   .rw[hx]at e
    have e:k=t:=by have:=Qz e;omega
    subst e;rw[hc]at hc';cases hc';split at h1<;>omega
  .rw[QC hx]at h1
   split at h1<;>omega
def YC(ws:LO)(W:List (Nat×jD)):List (Nat×jD):=W.reverse.map λp=>(p.1,ws.getD p.1 jw)
theorem PF:(YC ws W).map Prod.fst=(W.map Prod.fst).reverse:=by unfold YC;rw[Jb,List.map_reverse];rfl
theorem D9{q:Nat×jD}(h:q∈YC ws W):∃p∈W,q=(p.1,ws.getD p.1 jw):=by obtain⟨p,hp,e⟩:=Qu.mp h;exact⟨p,J7.mp hp,e.symm⟩
theorem XY{i:Nat}{o:jD}(h:ws[i]?=ju o):ws.getD i jw=o:=by rw[QX,h];rfl
theorem Ft{m:Nat}(hp:Ot cs.length m qs)(hd:XX cs qs m ws)(h:WayQ cs qs ws W):WayQ cs qs (K2 W ws) (YC ws W) where
 ne:=λe=>h.ne (by have:=JV List.length e;unfold YC at this;rw[Qb,Ju]at this;exact List.length_eq_zero_iff.mp this)
 mv:=λq hq=>by
  obtain⟨p,hp,rfl⟩:=D9 hq;obtain⟨o,ho,hne,_⟩:=h.mv p hp;refine⟨p.2,TK W ws h.nd p hp (XV h hp),?_,λt e=>?_⟩
  .show ws.getD p.1 jw≠p.2
   rw[XY ho];exact λe=>hne e.symm
  .have e:ws.getD p.1 jw=ju t:=e
   rw[XY ho]at e;exact hd.wish p.1 t (e ▸ ho)
 nd:=by rw[PF];exact(List.reverse_perm _).nodup_iff.mpr h.nd
 lnk:=λk a b ha hb=>by
  unfold YC at ha hb;rw[Qf]at ha hb;cases ha':W.reverse[k]? with
  |none=>rw[ha']at ha;cases ha
  |some q=>
  cases hb':W.reverse[k+1]? with
  |none=>rw[hb']at hb;cases hb
  |some p=>
  rw[ha']at ha;rw[hb']at hb;cases ha;cases hb;have l1:k+1<W.length:=by have:=(Qh.mp hb').1;rwa[Ju]at this
  rw[List.getElem?_reverse (by omega)]at ha' hb';have e1:W.length-1-k=(W.length-1-(k+1))+1:=by omega
  rw[e1]at ha';obtain⟨h1,h2⟩:=h.lnk _ p q hb' ha';have h3:=TK W ws h.nd p (Qp hb') (XV h (Qp hb'));refine⟨?_,?_⟩
  .show ws.getD q.1 jw≠jw
   rw[XY h2];exact h1
  .show(K2 W ws)[p.1]?=ju (ws.getD q.1 jw)
   rw[XY h2];exact h3
 fin:=λa b ha hb=>by
  obtain⟨p,R,l,o,hW,hl,ho,xy⟩:=O7 h;have ea:a=(l.1,ws.getD l.1 jw):=by unfold YC at ha;rw[List.head?_map,List.head?_reverse,hl]at ha;exact(Qz ha).symm
  have eb:b=(p.1,ws.getD p.1 jw):=by unfold YC at hb;rw[List.getLast?_map,List.getLast?_reverse,hW]at hb;exact(Qz hb).symm
  subst ea;subst eb;have hlm:l∈W:=List.mem_of_getLast? hl;show ws.getD p.1 jw=jw∨(K2 W ws)[l.1]?=ju (ws.getD p.1 jw) ∨ ∃t:Nat,ws.getD p.1 jw=ju (t:Int)/\Os cs (K2 W ws) t;rw[XY ho,TK W ws h.nd l hlm (XV h hlm)];cases o with
  |none=>exact .inl jv
  |some t=>
   right;by_cases e:l.2=ju t
   .exact .inl (JV ju e)
   .right
    obtain⟨_,_,h0,hn⟩:=hp.lo _ (hd.wish p.1 t ho);have h0:0<=t:=h0;have hn:t<cs.length:=hn;refine⟨t.toNat,by rw[JX h0],cs[t.toNat]'(by omega),Qe _,?_⟩;have hx:((t.toNat:Nat):Int)=t:=JX h0;have h1:=xy (ju t);have h2:=hd.cop t.toNat _ (Qe (by omega));rw[hx]at h2⊢;rw[Qo jv,QC e]at h1;omega
theorem Fs(h:WayQ cs qs ws W):K2 (YC ws W) (K2 W ws)=ws:=by
 refine List.ext_getElem? λi=>?_
 by_cases hi:i∈W.map Prod.fst
 .obtain⟨p,hp,rfl⟩:=Qu.mp hi
  obtain⟨o,ho,_⟩:=h.mv p hp;have hm:(p.1,ws.getD p.1 jw)∈YC ws W:=Qu.mpr ⟨p,List.mem_reverse.mpr hp,rfl⟩;have:=TK (YC ws W) (K2 W ws) (by rw[PF];exact(List.reverse_perm _).nodup_iff.mpr h.nd) _ hm (by rw[Sz];exact XV (p:=p) h hp);rw[this,ho];exact JV ju (XY ho)
 .rw[Sy _ _ (by rw[PF,List.mem_reverse];exact hi),Sy _ _ hi]
end
def oD:D->Option jD
 |.none=>ju jw
 |.int u=>ju (ju u)
 |_=>jw
theorem TC(o:jD):oD (UO o)=ju o:=by cases o<;>rfl
theorem HK{t:D}{o:jD}(h:oD t=ju o):t=UO o:=by cases t<;>cases h<;>rfl
def moB(ls:L3)(ws:LO)(i:Nat)(t:D):Bool:=
 match oD t with
 |some o=>!decide (o=ws.getD i jw)&&o.all (λu=>decide (u∈(ls.getD i []).flatten))
 |none=>jy
def Yc(ls:L3)(ws:LO):D->Bool
 |.tuple [a,t]=>YU ls.length a&&moB ls ws ((whI a).getD 0).toNat t
 |_=>jy
def MvQ(qs:LP)(ws:LO)(p:Nat×jD):Prop:=∃o,ws[p.1]?=ju o/\p.2≠o/\∀t,p.2=ju t->((p.1:Int),t)∈qs
section
variable{cs:jA}{ls:L3}{ws:LO}{W:List (Nat×jD)}
theorem R4(hl:ws.length=ls.length){i:Nat}(hi:i<ls.length){o:jD}:moB ls ws i (UO o)=jx ↔ MvQ (Kt 0 ls) ws (i,o):=by
 have hw:ws[i]?=ju (ws[i]'(by omega)):=Qe _;have hs:ls[i]?=ju ls[i]:=Qe hi;have e1:ws.getD i jw=ws[i]'(by omega):=by rw[QX,hw];rfl
 have e2:ls.getD i []=ls[i]:=by rw[QX,hs];rfl
 unfold moB;rw[TC,e1,e2];constructor
 .intro h
  have h:(!decide (o=ws[i]'(by omega))&&o.all (λu=>decide (u∈ls[i].flatten)))=jx:=h;rw[QS]at h;refine⟨_,hw,λe=>?_,λt e=>?_⟩
  .rw[QJ e]at h;cases h.1
  .have e:o=ju t:=e
   subst e;have:=Qa (show decide (t∈ls[i].flatten)=jx from h.2);have:=PX (k:=0) hs this;rw[Jr]at this;exact this
 .rintro⟨o',h1,h2,h3⟩
  rw[hw]at h1;cases h1
  show(!decide (o=ws[i]'(by omega))&&o.all (λu=>decide (u∈ls[i].flatten)))=jx
  rw[Qx h2];cases o with
  |none=>rfl
  |some t=>
   obtain⟨j,rs,hj,e,hm⟩:=Vb (h3 t jv);have e:i=j:=by have:((i:Nat):Int)=((0+j:Nat):Int):=e;omega
   subst e;rw[hs]at hj;cases hj;exact QJ hm
theorem O5(hl:ws.length=ls.length){p:Nat×jD}:Yc ls ws (UQ p)=jx ↔ MvQ (Kt 0 ls) ws p:=by
 show((decide ((0:Int)<=(p.1:Nat))&&decide (((p.1:Nat):Int)<ls.length))&&moB ls ws (((p.1:Nat):Int)).toNat (UO p.2))=jx ↔ _
 rw[Q0,QS,QS,Ja,Ja];constructor
 .rintro⟨⟨_,h⟩,h2⟩
  exact(R4 hl (by omega)).mp h2
 .intro h
  obtain⟨o,ho,_⟩:=id h;have:=(Qh.mp ho).1;exact⟨⟨by omega,by omega⟩,(R4 hl (by omega)).mpr h⟩
theorem D8{x:D}(h:Yc ls ws x=jx):∃p,x=UQ p:=by
 cases x with
 |tuple xs=>
  rcases xs with _|⟨a,_|⟨t,_|⟨u,r⟩⟩⟩
  .cases h
  .cases h
  .have h:(YU ls.length a&&moB ls ws ((whI a).getD 0).toNat t)=jx:=h
   rw[QS]at h;obtain⟨i,rfl,h0,_⟩:=Mr h.1;have h2:=h.2;unfold moB at h2;cases ho:oD t with
   |none=>rw[ho]at h2;cases h2
   |some o=>refine⟨(i.toNat,o),?_⟩;rw[HK ho];show _=PyData.tuple [.int ((i.toNat:Nat):Int),UO o];rw[JX h0]
  .cases h
 |_=>cases h
theorem Mq(hl:ws.length=ls.length):∀{xs:jz},xs.all (Yc ls ws)=jx->∃W:List (Nat×jD),xs=W.map UQ/\∀p∈W,MvQ (Kt 0 ls) ws p
 |[],_=>⟨[],rfl,λ_ h=>by cases h⟩
 |x::r,h=>by
  rw[List.all_cons,QS]at h;obtain⟨p,rfl⟩:=D8 h.1;obtain⟨W,rfl,hW⟩:=Mq hl h.2;refine⟨p::W,rfl,λq hq=>?_⟩;cases hq with
  |head=>exact(O5 hl).mp h.1
  |tail _ hq=>exact hW q hq
theorem q8(g:Good cs ls)(hl:ws.length=ls.length)(x:D):Xx [.list (ls.map Ku),U6 ws,x]=ju (.bool (Yc ls ws x)):=by
 have l7:=g.l7
 let S0:Option Sl:=ju (.pub (.list (ls.map Ku)))
 let S1:Option Sl:=ju (.pub (U6 ws))
 let S2:Option Sl:=ju (.pub x)
 refine K3 (Z:=[S0,S1,S2,jw,jw]) jv ?_;unfold VO;have hlen:U5 [.list (ls.map Ku)]=ju (.int ls.length):=by rw[K1,Qb]
 apply Kg;cases x with
 |dict kvs=>exact Kd (b:=jx) (YH (Rp (UH jv))) (λ_=>Kc UN (KO jv)) λz=>by cases z
 |tuple xs=>
  rcases xs with _|⟨a,_|⟨t,_|⟨u,r⟩⟩⟩
  .exact Kd (b:=jx) (K9 (Zz (UH jv) jv) (US (Kz jv WX) UN YG)) (λ_=>Kc UN (KO jv)) λz=>by cases z
  .exact Kd (b:=jx) (K9 (Zz (UH jv) jv) (US (Kz jv WX) UN YG)) (λ_=>Kc UN (KO jv)) λz=>by cases z
  .refine Kd (b:=jy) (K9 (Zz (UH jv) jv) (US (Kz jv WX) UN YG)) (λz=>by cases z) λ_=>Ko (Kj ?_)
   let S3:Option Sl:=ju (.pub a)
   let S4:Option Sl:=ju (.pub t)
   refine U3 (Z1:=[S0,S1,S2,S3,S4]) (WN (UH jv) (KF jv (U4 (UY (Qa jv) jv) (U4 (UY (Qa jv) jv) KG)))) ?_;have e0:Yc ls ws (.tuple [a,t])=(YU ls.length a&&moB ls ws ((whI a).getD 0).toNat t):=rfl;apply Kg;refine Kd (b:=!YU ls.length a) (Z1:=[S0,S1,S2,S3,S4]) (Zr (ZC (Kb (UK (UH jv) (UK (Kz jv hlen) UP)) jv (CJ a ls.length)))) (λz=>Kc UN (KO ?_)) λz=>Ko (Kj ?_)
   .rw[JU]at z
    rw[e0,z];rfl
   rw[JK]at z;rw[e0,z,Bool.true_and];obtain⟨i,rfl,h0,h1⟩:=Mr z;obtain⟨n,rfl⟩:∃n:Nat,i=n:=⟨i.toNat,by omega⟩
   show Ho _ _ λo=>o=.rt (.bool (moB ls ws (((n:Nat):Int)).toNat t));rw[Q0];have hn:n<ls.length:=by omega
   have hw:ws[n]?=ju (ws[n]'(by omega)):=Qe _;have hs:ls[n]?=ju ls[n]:=Qe hn;have hix:oIx (U6 ws) (.int ((n:Nat):Int))=ju (UO (ws[n]'(by omega))):=KE (by rw[Qf,hw];rfl);have hix2:oIx (.list (ls.map Ku)) (.int ((n:Nat):Int))=ju (Ku ls[n]):=KE (by rw[Qf,hs];rfl);have e1:ws.getD n jw=ws[n]'(by omega):=by rw[QX,hw];rfl
   have e2:ls.getD n []=ls[n]:=by rw[QX,hs];rfl
   apply Kg;refine Kd (b:=isNon t) (Z1:=[S0,S1,S2,S3,S4]) (Kr (k:=isNon) (UH jv)) (λz=>?_) λz=>Ko (Kj ?_)
   .have ht:t=.none:=by cases t<;>first|rfl|cases z
    subst ht;refine Kc (Kr (k:=λd=>Us (!isNon d)) (Kk jv (UH jv) hix)) (KO ?_);have:moB ls ws n .none=(!decide (jw=ws.getD n jw)&&jx):=rfl;rw[this,e1,Bool.and_true];cases ws[n]'(by omega)<;>rfl
   .have hm:moB ls ws n t=(whB t&&((oD t).any λo=>!decide (o=ws.getD n jw)&&o.all (λu=>decide (u∈(ls.getD n []).flatten)))):=by
     unfold moB;cases t<;>first|rfl|cases z
    rw[hm,e1,e2];refine Kc (XT (Kb (UK (UH jv) UP) jv (PK t)) λz2=>?_) jv;cases t with
    |int u=>
     refine XT (t:=!decide (ju u=ws[n]'(by omega))) (Kr (K8 jv (Kk jv (UH jv) hix) (Rm (a:=ju u)))) λ_=>?_
     have hr:decide ((0:Int)<(ZJ u ls[n]:Nat))=decide (u∈ls[n].flatten):=by
      by_cases hm:u∈ls[n].flatten
      .rw[QJ hm,QJ (by have:=Ll hm;omega)]
      .rw[Qx hm,Qx (λh=>hm (AY (by omega)))]
     rw[show(Option.all (λu=>decide (u∈ls[n].flatten)) (ju u))=decide (u∈ls[n].flatten)from rfl,←hr];exact Kr (US (Kb (UK (Kk jv (UH jv) hix2) (UK (UH jv) UP)) jv (Lm u ls[n])) UN jv)
    |_=>cases z2
  .refine Kd (b:=jx) (K9 (Zz (UH jv) jv) (US (Kz jv WX) UN (by rw[YG,Qx (by rw[QR,QR,QR];omega)];rfl))) (λ_=>Kc UN (KO jv)) λz=>by cases z
 |_=>exact Kd (b:=jx) (YH (Zz (UH jv) jv)) (λ_=>Kc UN (KO jv)) λz=>by cases z
def Tc(ws:LO)(W:List (Nat×jD)):Prop:=∀(k:Nat) p q,W[k]?=ju p->W[k+1]?=ju q->p.2≠jw/\ws[q.1]?=ju p.2
theorem jc(hw:∀p∈W,p.1<ws.length)(hl:W.length<=1000):∃b,Xw [U6 ws,.list (W.map UQ)]=ju (.bool b)/\(b=jx ↔ Tc ws W):=by
 let S0:Option Sl:=ju (.pub (U6 ws))
 let S1:Option Sl:=ju (.pub (.list (W.map UQ)))
 have key:∃r,Xw [U6 ws,.list (W.map UQ)]=ju r/\∃b,r=.bool b/\(b=jx ↔ Tc ws W):=by
  refine XI (Z:=[S0,S1,jw,jw]) jv ?_;unfold VN;have hlen:U5 [.list (W.map UQ)]=ju (.int W.length):=by rw[K1,Qb]
  apply Kg;apply Zu (λi Z=>(∃x2 x3,Z=[S0,S1,x2,x3])/\∀(k:Nat) p q,k<i->W[k]?=ju p->W[k+1]?=ju q->p.2≠jw/\ws[q.1]?=ju p.2)
  case h1=>exact Px (UK UN (UK (Kz jv hlen) UP)) (PQ (by omega) (by omega) (by omega) (by omega))
  case h0=>exact⟨⟨_,_,rfl⟩,λk _ _ h=>absurd h (J4 k)⟩
  case hst=>
   rintro k d Z hk ⟨⟨x2,x3,rfl⟩,hin⟩;obtain⟨rfl,kJ⟩:=XN hk;have xo:k+1<W.length:=by omega
   have hp:W[k]?=ju W[k]:=Qe _;have hq:W[k+1]?=ju W[k+1]:=Qe xo;have e1:(1:Int)+(k:Nat)=((k+1:Nat):Int):=by omega
   refine⟨_,UY (Qa jv) jv,?_⟩;rw[e1];unfold Nc
   have kr:oIx (.list (W.map UQ)) (.int (((k+1:Nat):Int)-1))=ju (UQ W[k]):=by
    have e:(((k+1:Nat):Int)-1)=((k:Nat):Int):=by omega
    rw[e];exact KE (by rw[Qf,hp];rfl)
   have kK:oIx (.list (W.map UQ)) (.int ((k+1:Nat):Int))=ju (UQ W[k+1]):=KE (by rw[Qf,hq];rfl);have jU:=hw W[k+1] (Q5 _);have xi:ws[(W[k+1]).1]?=ju (ws[(W[k+1]).1]'(jU)):=Qe _;have j8:oIx (U6 ws) (.int (((W[k+1]).1:Nat):Int))=ju (UO (ws[(W[k+1]).1]'(jU))):=KE (by rw[Qf,xi];rfl)
   let S2:Option Sl:=ju (.pub (.int ((k+1:Nat):Int)))
   let S3:Option Sl:=ju (.pub (UO (W[k]).2))
   refine U3 (Z1:=[S0,S1,S2,S3]) (Kl (US (Kk jv (US (UH jv) UN ZM) kr) UN (show oIx (UQ W[k]) (.int 1)=ju (UO (W[k]).2)from rfl)) (Qa jv) jv) ?_;refine Kd (b:=isNon (UO (W[k]).2) || !decide (ws[(W[k+1]).1]'(jU)=(W[k]).2)) (Z1:=[S0,S1,S2,S3]) (Tk (Kr (k:=isNon) (UH jv)) λ_=>US (Kk jv (US (Kk jv (UH jv) kK) UN (show oIx (UQ W[k+1]) (.int 0)=ju (.int ((W[k+1]).1:Nat))from rfl)) j8) (UH jv) Rm) (λz=>Kc UN (YF ?_)) λz=>Ko (Zh ⟨⟨_,_,rfl⟩,?_⟩)
   .refine⟨_,rfl,jy,rfl,λh=>(by cases h),λh=>?_⟩
    obtain⟨h1,h2⟩:=h k _ _ hp hq;rw[xi]at h2;rw[QJ (Qz h2)]at z;cases h3:(W[k]).2 with
    |none=>exact absurd h3 h1
    |some t=>rw[h3]at z;cases z
   .rw[JB]at z
    intro j p q hj kO ko;by_cases e:j=k
    .subst e
     rw[hp]at kO;rw[hq]at ko;cases kO;cases ko;refine⟨λe=>?_,?_⟩
     .rw[e]at z;cases z.1
     .rw[xi]
      by_cases e:ws[(W[j+1]).1]'(jU)=(W[j]).2
      .exact JV ju e
      .rw[Qx e]at z;cases z.2
    .exact hin j p q (by omega) kO ko
  case hend=>rintro Z ⟨⟨x2,x3,rfl⟩,hin⟩;refine Kj (Kc UN ⟨_,rfl,jx,rfl,λ_=>?_,λ_=>rfl⟩);intro k p q hp hq;refine hin k p q ?_ hp hq;have:=(Qh.mp hq).1;rw[YJ];omega
 obtain⟨r,h,b,rfl,hb⟩:=key;exact⟨b,h,hb⟩
def IsW(cs:jA)(ls:L3)(ws:LO)(d:D):Prop:=∃W,d=.list (W.map UQ)/\WayQ cs (Kt 0 ls) ws W
theorem PD{W U:List (Nat×jD)}(h:W.map UQ=U.map UQ):W=U:=by
 refine List.map_inj_right (f:=UQ) (λp q e=>?_) |>.mp h
 obtain⟨a,x⟩:=p;obtain⟨b,y⟩:=q;have e:PyData.tuple [.int (a:Nat),UO x]=.tuple [.int (b:Nat),UO y]:=e;injection e with e;injection e with e1 e2;injection e1 with e1;injection e2 with e2
 have:x=y:=by have:=JV oD e2;rw[TC,TC]at this;exact Qz this
 rw[this,Int.ofNat.inj e1]
theorem Li(g:Good cs ls)(hl:ws.length=ls.length){d:D}(hs:∀xs,d=.list xs->xs.length<=1000):∃b,Zd [Ke cs ls,U6 ws,d]=ju (.bool b)/\(b=jx ↔ IsW cs ls ws d):=by
 have l7:=g.l7
 let S0:Option Sl:=ju (.pub (Ke cs ls))
 let S1:Option Sl:=ju (.pub (U6 ws))
 let S2:Option Sl:=ju (.pub d)
 let S3:Option Sl:=ju (.pub (.list ((W4 cs ws).map int)))
 have key:∃r,Zd [Ke cs ls,U6 ws,d]=ju r/\∃b,r=.bool b/\(b=jx ↔ IsW cs ls ws d):=by
  refine XI (Z:=[S0,S1,S2,jw,jw]) jv ?_;unfold VM;refine U3 (Z1:=[S0,S1,S2,S3,jw]) (Kl (Kb (UK (UH jv) (UK (UH jv) UP)) jv (jh g)) (Qa jv) jv) ?_;have no:∀{d:D},(¬IsW cs ls ws d)->∃d1:D,Out.rt (.bool jy)=.rt d1/\∃b,d1=.bool b/\(b=jx ↔ IsW cs ls ws d):=λh=>⟨_,rfl,jy,rfl,(λz=>by cases z),λz=>absurd z h⟩
  apply Kg;cases d with
  |dict kvs=>exact Kd (b:=jx) (YH (Rp (UH jv))) (λ_=>Kc UN (KO (no λ⟨W,e,_⟩=>by cases e))) λz=>by cases z
  |list xs=>
   have hx:=hs xs jv;have hlen:U5 [.list xs]=ju (.int xs.length):=K1;refine Kd (b:=decide ((xs.length:Int)=0)) (Z1:=[S0,S1,S2,S3,jw]) (K9 (Zz (UH jv) jv) (US (Kz jv hlen) UN WT)) (λz=>Kc UN (KO (no λ⟨W,e,hW⟩=>hW.ne ?_))) λz=>Ko (Kj ?_)
   .have:=Qa z
    injection e with e;rw[e,Qb]at this;exact List.length_eq_zero_iff.mp (by omega)
   have hne:xs≠[]:=λe=>by rw[e]at z;cases z
   apply Kg;have hc:KB (gN 5) (UL jx) (UV 3 Xx (UI (UR 0 (UL (.int 1))) (UI (UE 1) (UI (UE 5) (UG))))) xs (Kf [S0,S1,S2,S3,jw]++Uq 1 jw) []=ju (xs.map λx=>.bool (Yc ls ws x)):=by refine Y5 (λZ=>∃x,Z=[S0,S1,S2,S3,jw,x]) _ _ _ _ (by rw[Qb]) ?_ ⟨jw,rfl⟩ (by rw[QM];omega);rintro j y e hj he Z ⟨x,rfl⟩;rw[Qf,hj]at he;cases he;exact⟨_,UY (Qa jv) jv,rfl,Kb (UK (Kk jv UN WM) (UK (UH jv) (UK (UH jv) UP))) jv (q8 g hl y),_,rfl⟩
   refine Kd (b:=!xs.all (Yc ls ws)) (Z1:=[S0,S1,S2,S3,jw]) (Zr (ZC (ZB (UK (Kr (ZX (Zt (UH jv) ZP) hc)) UP) (CI xs)))) (λz=>Kc UN (KO (no λ⟨W,e,hW⟩=>?_))) λz=>Ko (Kj ?_)
   .injection e with e
    subst e;rw[JU]at z;have:(W.map UQ).all (Yc ls ws)=jx:=List.all_eq_true.mpr λx hx=>by obtain⟨p,hp,rfl⟩:=Qu.mp hx;exact(O5 hl).mpr (hW.mv p hp)
    rw[this]at z;cases z
   rw[JK]at z;obtain⟨W,rfl,kq⟩:=Mq hl z;rw[Qb]at hx;have kt:W≠[]:=λe=>hne (by rw[e];rfl)
   have hlt:∀p∈W,p.1<ws.length:=λp hp=>by obtain⟨o,ho,_⟩:=kq p hp;exact(Qh.mp ho).1
   have isw:IsW cs ls ws (.list (W.map UQ)) ↔ WayQ cs (Kt 0 ls) ws W:=⟨λ⟨U,e,hU⟩=>by injection e with e;rw[PD e];exact hU,λh=>⟨W,rfl,h⟩⟩
   let ns:jA:=W.map λp=>((p.1:Nat):Int)
   have hnl:ns.length=W.length:=Qb _
   have hnd:ns.Nodup ↔ (W.map Prod.fst).Nodup:=by
    have e:ns=(W.map Prod.fst).map λn:Nat=>(n:Int):=by rw[Jb];rfl
    rw[e];exact⟨λh=>(List.pairwise_map.mp h).imp λh e=>h (by rw[e]),λh=>List.Pairwise.map _ (λa b h e=>h (by omega)) h⟩
   have hc2:KB (gT 2 (gNC (gN 5) (gNC (gN 6) (gN0)))) (UL jx) (UE 5) (W.map UQ) (Kf [S0,S1,S2,S3,jw]++Uq 2 jw) []=ju (ns.map int):=by
    refine Y5 (λZ=>∃x y,Z=[S0,S1,S2,S3,jw,x,y]) _ _ _ _ (by rw[Qb,Qb,Qb]) ?_ ⟨jw,jw,rfl⟩ (by rw[Qb,QM];omega);rintro j y e hj he Z ⟨x,y',rfl⟩;rw[Qf]at hj;rw[Qf,Qf]at he;cases hp:W[j]? with
    |none=>rw[hp]at hj;cases hj
    |some p=>
    rw[hp]at hj he;cases hj;cases he;exact⟨_,KF jv (U4 (UY (Qa jv) jv) (U4 (UY (Qa jv) jv) KG)),rfl,UH jv,_,_,rfl⟩
   have hun:decide (((ZA ns:Nat):Int)=((W.map UQ).length:Nat))=decide (W.map Prod.fst).Nodup:=by
    rw[Qb,←hnl];by_cases h:(W.map Prod.fst).Nodup
    .rw[QJ h,P1 (hnd.mpr h),QJ jv]
    .rw[Qx h,Qx (λe=>h (hnd.mp (je (by omega))))]
   obtain⟨lb,hlb,xn⟩:=jc hlt hx;apply Kg;refine Kd (b:=!decide (W.map Prod.fst).Nodup || !lb) (Z1:=[S0,S1,S2,S3,jw]) (Tk (US (Cq (ZX (Zt (UH jv) ZP) hc2) (by omega)) (Kz jv hlen) (by rw[YG,hun])) λ_=>Zr (ZC (Kb (UK (UH jv) (UK (UH jv) UP)) jv hlb))) (λz=>Kc UN (KO (no λh=>?_))) λz=>Ko (Kj ?_)
   .have h:=isw.mp h
    rw[QJ h.nd,xn.mpr h.lnk]at z;cases z
   rw[JB,JK,JK]at z;have nd:=Qa z.1;have lnk:=xn.mp z.2
   obtain⟨p0,r0,xF⟩:∃p r,W=p::r:=by
    cases hW':W with
    |nil=>exact absurd hW' kt
    |cons x r=>exact⟨x,r,rfl⟩
   obtain⟨q,kQ⟩:∃q,W.getLast?=ju q:=by
    cases h:W.getLast? with
    |none=>exact absurd (List.getLast?_eq_none_iff.mp h) kt
    |some q=>exact⟨q,rfl⟩
   have vc:W.head?=ju p0:=by rw[xF];rfl
   have hqm:q∈W:=List.mem_of_getLast? kQ;have xT:p0∈W:=by rw[xF];exact Qt
   have xr:oIx (.list (W.map UQ)) (.int (-1))=ju (UQ q):=Rv (by rw[List.getLast?_map,kQ];rfl);have xu:oIx (.list (W.map UQ)) (.int 0)=ju (UQ p0):=KE (j:=0) (by rw[xF];rfl)
   let S4:Option Sl:=ju (.pub (UO q.2))
   refine U3 (Z1:=[S0,S1,S2,S3,S4]) (Kl (US (Kk jv (XJ UN) xr) UN (show oIx (UQ q) (.int 1)=ju (UO q.2)from rfl)) (Qa jv) jv) ?_;obtain⟨o0,xm,_⟩:=kq p0 xT;have j8:oIx (U6 ws) (.int ((p0.1:Nat):Int))=ju (UO o0):=KE (by rw[Qf,xm];rfl);have tw:UT Us (UJ oEq (UR 1 (UJ oIx (UR 2 (UL (.int 0))) (UL (.int 0)))) (UE 4)) [S0,S1,S2,S3,S4]=.ok (.bool (decide (o0=q.2))) [S0,S1,S2,S3,S4]:=Kr (US (Kk jv (US (Kk jv UN xu) UN (show oIx (UQ p0) (.int 0)=ju (.int (p0.1:Nat))from rfl)) j8) (UH jv) W7);have kI:∀{p' q':Nat×jD},W.head?=ju p'->W.getLast?=ju q'->p'=p0/\q'=q:=λh1 h2=>by rw[vc]at h1;rw[kQ]at h2;exact⟨(Qz h1).symm,(Qz h2).symm⟩
   cases hq2:q.2 with
   |none=>refine Kc (Sq (t:=jx) (u:=jx) (Kr (k:=λd=>Us (isNon d)) (x:=UO q.2) (UH jv) |>.trans (by rw[hq2];rfl)) λz=>by cases z) ⟨_,rfl,jx,rfl,λ_=>isw.mpr ⟨kt,kq,nd,lnk,λp' q' h1 h2=>?_⟩,λ_=>rfl⟩;obtain⟨rfl,rfl⟩:=kI h1 h2;exact .inl hq2
   |some t=>
    obtain⟨_,_,_,hqq⟩:=kq q hqm;obtain⟨i,rs,hi,_,hmem⟩:=Vb (hqq t hq2);obtain⟨r,hr1,j7⟩:=JH.mp hmem;have hr:=(g.rk rs (Qp hi)).there r hr1 t j7;obtain⟨n,rfl⟩:∃n:Nat,t=n:=⟨t.toNat,by omega⟩
    have hn:n<cs.length:=by omega
    have hixl:oIx (.list ((W4 cs ws).map int)) (.int ((n:Nat):Int))=ju (.int (cs[n]-((ws.count (ju (n:Int)):Nat):Int))):=KE (by
     unfold W4;rw[Qf,Qf,List.getElem?_range hn];show ju (int (cs.getD n 0-_))=_;rw[QX,Qe hn]
     rfl)
    refine Kc (Sq (t:=jy) (u:=decide (0<cs[n]-((ws.count (ju (n:Int)):Nat):Int)) || decide (o0=q.2)) (Kr (k:=λd=>Us (isNon d)) (x:=UO q.2) (UH jv) |>.trans (by rw[hq2];rfl)) λ_=>Sq (Kr (US (Kk jv (UH jv) (by rw[hq2];exact hixl)) UN Xe)) λ_=>tw) ⟨_,rfl,_,rfl,?_⟩;rw[J8,Bool.or_eq_true,Ja,Ja,isw];constructor
    .intro h
     refine⟨kt,kq,nd,lnk,λp' q' h1 h2=>?_⟩;obtain⟨rfl,rfl⟩:=kI h1 h2;rcases h with h|h
     .exact .inr (.inr ⟨n,hq2,_,Qe hn,by omega⟩)
     .exact .inr (.inl (by rw[xm,h]))
    .intro h
     rcases h.fin p0 q vc kQ with e|e|⟨t',e,c,hc,hlt⟩
     .rw[hq2]at e;cases e
     .rw[xm]at e
      exact .inr (Qz e)
     .rw[hq2]at e
      have e:n=t':=by have:=Qz e;omega
      subst e;rw[Qe hn]at hc;cases hc;exact .inl (by omega)
  |_=>exact Kd (b:=jx) (YH (Zz (UH jv) jv)) (λ_=>Kc UN (KO (no λ⟨W,e,_⟩=>by cases e))) λz=>by cases z
 obtain⟨r,h,b,rfl,hb⟩:=key;exact⟨b,h,hb⟩
end
def SmI(x:D):Prop:=∀a t,x=.tuple [a,t]->t.canLay0=jx/\t.depth<=60
section
variable{cs:jA}{ls:L3}{ws:LO}{W:List (Nat×jD)}
theorem Ro(d:D):ZV [d]=ju (.bool (whB d)):=by
 cases d with
 |dict kvs=>exact K3 (Z:=[pb (.dict kvs)]) jv (Kc (XT (t:=jy) (u:=jy) (OM (UH jv)) λz=>by cases z) jv)
 |_=>rfl
theorem D7{t:D}{o:jD}(h:t.canLay0=jx/\t.depth<=60):∃b,oEq t (UO o)=ju b:=by unfold oEq;exact⟨_,Qo ⟨h.1,by cases o<;>rfl,h.2⟩⟩
theorem qR(g:Good cs ls)(hl:ws.length=ls.length){d:D}(hs:∀xs,d=.list xs->xs.length<=1000/\∀x∈xs,SmI x):∃b,Xs [Ke cs ls,U6 ws,d]=ju (.bool b)/\(b=jx ↔ IsW cs ls ws d):=by
 have l7:=g.l7;have c6:=g.c6
 let S0:Option Sl:=ju (.pub (Ke cs ls))
 let S1:Option Sl:=ju (.pub (U6 ws))
 let S2:Option Sl:=ju (.pub d)
 have jM:U5 [U6 ws]=ju (.int ws.length):=by unfold U6;rw[K1,Qb]
 have key:∃r,Xs [Ke cs ls,U6 ws,d]=ju r/\∃b,r=.bool b/\(b=jx ↔ IsW cs ls ws d):=by
  refine XI (Z:=[S0,S1,S2,jw,jw,jw,jw,jw,jw]) jv ?_;unfold Vw;have no:∀{d:D},(¬IsW cs ls ws d)->∃d1:D,Out.rt (.bool jy)=.rt d1/\∃b,d1=.bool b/\(b=jx ↔ IsW cs ls ws d):=λh=>⟨_,rfl,jy,rfl,(λz=>by cases z),λz=>absurd z h⟩
  apply Kg;cases d with
  |dict kvs=>exact Kd (b:=jx) (YH (Rp (UH jv))) (λ_=>Kc UN (KO (no λ⟨W,e,_⟩=>by cases e))) λz=>by cases z
  |list xs=>
   obtain⟨hx,hsm⟩:=hs xs jv;have hlen:U5 [.list xs]=ju (.int xs.length):=K1;refine Kd (b:=xs.isEmpty) (Z1:=[S0,S1,S2,jw,jw,jw,jw,jw,jw]) (K9 (Zz (UH jv) jv) (K8 jv (KQ UP (Qa jv)) Ep)) (λz=>Kc UN (KO (no λ⟨W,e,hW⟩=>hW.ne ?_))) λz=>Ko (Kj ?_)
   .injection e with e
    rw[List.isEmpty_iff]at z;rw[z]at e;exact List.map_eq_nil_iff.mp e.symm
   have hne:xs≠[]:=λe=>by rw[e]at z;cases z
   refine U3 (Z1:=[S0,S1,S2,ju (.own []),jw,jw,jw,jw,jw]) (Zy (XU UP (Qa jv)) (Qa jv) jv) ?_;apply Kg;apply Zu (λk Z=>∃(W:List (Nat×jD))(x4 x5 x6:Option Sl),Z=[S0,S1,S2,ju (.own ((W.map λp=>((p.1:Nat):Int)).map int)),x4,x5,x6,jw,jw]/\xs.take k=W.map UQ/\(∀p∈W,MvQ (Kt 0 ls) ws p)/\(W.map Prod.fst).Nodup)
   case h1=>exact Zt (UH jv) ZP
   case h0=>exact⟨[],jw,jw,jw,rfl,rfl,λ_ h=>(by cases h),J5⟩
   case hst=>
    rintro k x Z hk ⟨W,x4,x5,x6,rfl,htk,kq,hnd⟩;have kJ:k<xs.length:=(Qh.mp hk).1;have hxm:x∈xs:=Qp hk;have xj:xs.take (k+1)=xs.take k++[x]:=by rw[J6,hk];rfl
    have xK:W.length=k:=by have:=JV List.length htk;rw[Jh,Qb]at this;omega
    let A:jA:=W.map λp=>((p.1:Nat):Int)
    let SA:Option Sl:=ju (.own (A.map int))
    let S4:Option Sl:=ju (.pub x)
    refine⟨_,UY (Qa jv) jv,?_⟩;unfold Nf
    have it:IsW cs ls ws (.list xs)->∃p,x=UQ p/\MvQ (Kt 0 ls) ws p/\p.1∉W.map Prod.fst:=λ⟨U,e,hU⟩=>by
     injection e with e;rw[e,Qf]at hk
     cases hp:U[k]? with
     |none=>rw[hp]at hk;cases hk
     |some p=>
      rw[hp]at hk;cases hk;refine⟨p,rfl,hU.mv p (Qp hp),λhm=>?_⟩;have hWU:W=U.take k:=PD (by rw[←htk,e,List.map_take]);have:(U.map Prod.fst)[k]?=ju p.1:=by rw[Qf,hp];rfl
      rw[hWU,List.map_take]at hm;obtain⟨j,hj⟩:=List.mem_iff_getElem?.mp hm;have hjk:j<k:=by have:=(Qh.mp hj).1;rw[Jh]at this;omega
      rw[List.getElem?_take_of_lt hjk]at hj;obtain⟨l1,e1⟩:=Qh.mp hj;obtain⟨l2,e2⟩:=Qh.mp this;have:=(List.getElem_inj hU.nd).mp (e1.trans e2.symm);omega
    cases x with
    |dict kvs=>apply Kg;exact Kd (b:=jx) (YH (Rp (UH jv))) (λ_=>Kc UN (KO (YF (KO (no λh=>by obtain⟨p,e,_⟩:=it h;cases e))))) λz=>by cases z
    |tuple ys=>
     apply Kg;rcases ys with _|⟨a,_|⟨t,_|⟨u,r⟩⟩⟩
     .exact Kd (b:=jx) (K9 (Zz (UH jv) jv) (YH (US (Kz jv WX) UN YG))) (λ_=>Kc UN (KO (YF (KO (no λh=>by obtain⟨p,e,_⟩:=it h;cases e))))) λz=>by cases z
     .exact Kd (b:=jx) (K9 (Zz (UH jv) jv) (YH (US (Kz jv WX) UN YG))) (λ_=>Kc UN (KO (YF (KO (no λh=>by obtain⟨p,e,_⟩:=it h;cases e))))) λz=>by cases z
     .refine Kd (b:=!whB a) (K9 (Zz (UH jv) jv) (K9 (US (Kz jv WX) UN YG) (Zr (ZC (Kb (UK (Kk jv UN (show oIx (.tuple [a,t]) (.int 0)=ju a from rfl)) UP) jv (Ro a)))))) (λz=>Kc UN (KO (YF (KO (no λh=>?_))))) λz=>Ko (Kj ?_)
      .obtain⟨p,e,_⟩:=it h
       injection e with e;injection e with e _;rw[e]at z;cases z
      cases a with
      |int i=>
       let S5:Option Sl:=ju (.pub (.int i))
       let S6:Option Sl:=ju (.pub t)
       let R:UF:=[S0,S1,S2,SA,S4,S5,S6,jw,jw]
       refine U3 (Z1:=R) (WN (UH jv) (KF jv (U4 (UY (Qa jv) jv) (U4 (UY (Qa jv) jv) KG)))) ?_;obtain⟨sm1,sm2⟩:=hsm _ hxm _ _ jv
       have key2:∃b,mOr (KL (oIB λi j=>decide (i<j)) 5 (UL (.int 0))) (mOr (KL (oIB λi j=>decide (j<=i)) 5 (Kv 1)) (mOr (YK oIn (UE 5) 3) (KL oEq 6 (UR 1 (UE 5))))) R=.ok b R/\(b=jx->¬IsW cs ls ws (.list xs))/\(b=jy->∃n:Nat,i=n/\n<ws.length/\n∉W.map Prod.fst/\∀o,t=UO o->o≠ws.getD n jw):=by
        by_cases h1:i<0
        .refine⟨jx,YH (K8 jv UN (by rw[Xe,QJ h1])),λ_ h=>?_,λz=>by cases z⟩
         obtain⟨p,e,_⟩:=it h;injection e with e;injection e with e _;injection e with e;omega
        obtain⟨n,rfl⟩:∃n:Nat,i=n:=⟨i.toNat,by omega⟩
        by_cases h2:(ws.length:Int)<=n
        .refine⟨jx,K9 (K8 jv UN (by rw[Xe,Qx h1])) (YH (K8 jv (Kz jv jM) (by rw[Xe,QJ h2]))),λ_ h=>?_,λz=>by cases z⟩
         obtain⟨p,e,⟨o,ho,_⟩,_⟩:=it h;injection e with e;injection e with e _;injection e with e
         have:=(Qh.mp ho).1;omega
        by_cases h3:A.contains (n:Int)=jx
        .refine⟨jx,K9 (K8 jv UN (by rw[Xe,Qx h1])) (K9 (K8 jv (Kz jv jM) (by rw[Xe,Qx h2])) (YH (RG (UH jv) jv (by rw[WW,h3])))),λ_ h=>?_,λz=>by cases z⟩
         obtain⟨p,e,_,hp⟩:=it h;injection e with e;injection e with e _;injection e with e;have e:n=p.1:=by omega
         subst e;obtain⟨q,hq,e⟩:=List.mem_map.mp (show((p.1:Nat):Int)∈A by simpa using h3);exact hp (Qu.mpr ⟨q,hq,by omega⟩)
        have hn:n<ws.length:=by omega
        have hw:ws[n]?=ju ws[n]:=Qe hn;have hix:oIx (U6 ws) (.int ((n:Nat):Int))=ju (UO ws[n]):=KE (by rw[Qf,hw];rfl);obtain⟨b,hb⟩:=D7 (o:=ws[n]) ⟨sm1,sm2⟩;refine⟨b,K9 (K8 jv UN (by rw[Xe,decide_eq_false h1])) (K9 (K8 jv (Kz jv jM) (by rw[Xe,decide_eq_false h2])) (K9 (RG (UH jv) jv (by rw[WW];simpa using h3)) (K8 jv (Kk jv (UH jv) hix) hb))),λzb h=>?_,λzb=>⟨n,rfl,hn,λhm=>h3 ?_,λo e=>?_⟩⟩
        .obtain⟨p,e,⟨o,ho,hne,_⟩,_⟩:=it h
         injection e with e;injection e with e e2;injection e with e;injection e2 with e2;have e:n=p.1:=by omega
         subst e;rw[e2,W7,zb]at hb;rw[hw]at ho;cases ho;exact hne (Qa (Qz hb))
        .obtain⟨q,hq,e⟩:=Qu.mp hm
         have:((n:Nat):Int)∈A:=Qu.mpr ⟨q,hq,by omega⟩;simpa using this
        .rw[e,W7,zb]at hb
         rw[XY hw];exact JJ (Qz hb)
       obtain⟨b2,hb2,hT,hF⟩:=key2;apply Kg;refine Kd hb2 (λz=>Kc UN (KO (YF (KO (no (hT z)))))) λz=>Ko (Kj ?_)
       obtain⟨n,rfl,hn,hnm,ho⟩:=hF z;have nn:UT (λd=>!isNon d) (UE 6) R=.ok (!isNon t) R:=Tf (UH jv) jv;have hnl:n<ls.length:=by omega
       have hs':ls[n]?=ju ls[n]:=Qe hnl;apply Kg;refine Kd (b:=!isNon t && !whB t) (Z1:=R) (Rh nn λ_=>Zr (ZC (Kb (UK (UH jv) UP) jv (Ro t)))) (λz=>Kc UN (KO (YF (KO (no λh=>?_))))) λz=>Ko (Kj ?_)
       .obtain⟨p,e,_⟩:=it h
        injection e with e;injection e with _ e;injection e with e;rw[e]at z
        cases h2:p.2<;>rw[h2]at z<;>cases z
       obtain⟨o,rfl⟩:∃o,t=UO o:=by
        cases t with
        |none=>exact⟨jw,rfl⟩
        |int u=>exact⟨ju u,rfl⟩
        |_=>cases z
       have hfl:ls[n].flatten.length<64:=by have:=Ss (g.rk ls[n] (Q5 hnl));omega
       apply Kg;refine Kd (b:=!o.all λu=>decide (u∈ls[n].flatten)) (Z1:=R) (Pz nn (λz=>?_) λz=>?_) (λz=>Kc UN (KO (YF (KO (no λh=>?_))))) λz=>Ko (Kj ?_)
       .cases o with
        |none=>cases z
        |some u=>exact K8 jv (Kb (UK (UH jv) (UK (UH jv) UP)) jv (RB hs' hfl)) (by
          show Zn (.int u) _=_;unfold Zn;rw[WW];show ju (!(ZL ls[n].flatten).contains u)=ju (!decide (u∈ls[n].flatten))
          congr 2
          rw[Bool.eq_iff_iff,Ja,List.contains_iff_mem];exact(Y7 ls[n].flatten).mem_iff)
       .cases o with
        |none=>rfl
        |some u=>cases z
       .obtain⟨p,e,⟨o',ho',_,hq⟩,_⟩:=it h
        injection e with e;injection e with e e2;injection e with e;injection e2 with e2;have e:n=p.1:=by omega
        subst e;have e2:o=p.2:=by have:=JV oD e2;rw[TC,TC]at this;exact Qz this
        subst e2;cases h2:p.2 with
        |none=>rw[h2]at z;cases z
        |some u=>
         obtain⟨j,rs,hj,e,hm⟩:=Vb (hq u h2);have e:p.1=j:=by have:((p.1:Nat):Int)=((0+j:Nat):Int):=e;omega
         subst e;rw[hs']at hj;cases hj;rw[h2]at z;have z:(!decide (u∈ls[p.1].flatten))=jx:=z;rw[QJ hm]at z;cases z
       have hmn:MvQ (Kt 0 ls) ws (n,o):=(R4 hl hnl).mp (by
        unfold moB;rw[TC]
        show(!decide (o=ws.getD n jw)&&o.all λu=>decide (u∈(ls.getD n []).flatten))=jx
        rw[Qx (ho o jv),QX,hs'];rw[JK]at z;exact z)
       refine ZD (Xd jv (UH jv) jv (by rw[Qb,Qb];omega) jv) (Zh ⟨W++[(n,o)],S4,S5,S6,?_,?_,λp hp=>?_,?_⟩)
       .rw[QT,QT];rfl
       .rw[xj,htk,QT];rfl
       .rcases QO.mp hp with hp|hp
        .exact kq p hp
        .cases Qy.mp hp;exact hmn
       .rw[QT]
        exact List.nodup_append.mpr ⟨hnd,List.nodup_cons.mpr ⟨(λh=>by cases h),J5⟩,λa ha b hb e=>by cases Qy.mp hb;have e:a=n:=e;subst e;exact hnm ha⟩
      |_=>cases z
     .exact Kd (b:=jx) (K9 (Zz (UH jv) jv) (YH (US (Kz jv WX) UN (by rw[YG,Qx (by rw[QR,QR,QR];omega)];rfl)))) (λ_=>Kc UN (KO (YF (KO (no λh=>by obtain⟨p,e,_⟩:=it h;cases e))))) λz=>by cases z
    |_=>apply Kg;exact Kd (b:=jx) (YH (Zz (UH jv) jv)) (λ_=>Kc UN (KO (YF (KO (no λh=>by obtain⟨p,e,_⟩:=it h;cases e))))) λz=>by cases z
   case hend=>
    rintro Z ⟨W,x4,x5,x6,rfl,htk,kq,hnd⟩;refine Kj ?_;rw[JR]at htk;subst htk;rw[Qb]at hx;have kt:W≠[]:=λe=>hne (by rw[e];rfl)
    have hlt:∀p∈W,p.1<ws.length:=λp hp=>by obtain⟨o,ho,_⟩:=kq p hp;exact(Qh.mp ho).1
    have isw:IsW cs ls ws (.list (W.map UQ)) ↔ WayQ cs (Kt 0 ls) ws W:=⟨λ⟨U,e,hU⟩=>by injection e with e;rw[PD e];exact hU,λh=>⟨W,rfl,h⟩⟩
    let SA:Option Sl:=ju (.own ((W.map λp=>((p.1:Nat):Int)).map int))
    have xY:U5 [.list (W.map UQ)]=ju (.int W.length):=by rw[K1,Qb]
    apply Kg;apply Zu (λi Z=>(∃x7,Z=[S0,S1,S2,SA,x4,x5,x6,x7,jw])/\∀(k:Nat) p q,k<i->W[k]?=ju p->W[k+1]?=ju q->p.2≠jw/\ws[q.1]?=ju p.2)
    case h1=>exact Px (UK UN (UK (Kz jv xY) UP)) (PQ (by omega) (by omega) (by omega) (by omega))
    case h0=>exact⟨⟨_,rfl⟩,λk _ _ h=>absurd h (J4 k)⟩
    case hst=>
     rintro k d Z hk ⟨⟨x7,rfl⟩,hin⟩;obtain⟨rfl,kJ⟩:=XN hk;have xo:k+1<W.length:=by omega
     have hp:W[k]?=ju W[k]:=Qe _;have hq:W[k+1]?=ju W[k+1]:=Qe xo;have e1:(1:Int)+(k:Nat)=((k+1:Nat):Int):=by omega
     refine⟨_,UY (Qa jv) jv,?_⟩;rw[e1];unfold Ng
     have kr:oIx (.list (W.map UQ)) (.int (((k+1:Nat):Int)-1))=ju (UQ W[k]):=by
      have e:(((k+1:Nat):Int)-1)=((k:Nat):Int):=by omega
      rw[e];exact KE (by rw[Qf,hp];rfl)
     have kK:oIx (.list (W.map UQ)) (.int ((k+1:Nat):Int))=ju (UQ W[k+1]):=KE (by rw[Qf,hq];rfl);have jU:=hlt W[k+1] (Q5 _);have xi:ws[(W[k+1]).1]?=ju (ws[(W[k+1]).1]'(jU)):=Qe _;have j8:oIx (U6 ws) (.int (((W[k+1]).1:Nat):Int))=ju (UO (ws[(W[k+1]).1]'(jU))):=KE (by rw[Qf,xi];rfl)
     let S7:Option Sl:=ju (.pub (.int ((k+1:Nat):Int)))
     refine Kd (b:=isNon (UO (W[k]).2) || !decide (ws[(W[k+1]).1]'(jU)=(W[k]).2)) (Z1:=[S0,S1,S2,SA,x4,x5,x6,S7,jw]) (Tk (Kr (k:=isNon) (US (Kk jv (US (UH jv) UN ZM) kr) UN (show oIx (UQ W[k]) (.int 1)=ju (UO (W[k]).2)from rfl))) λ_=>US (Kk jv (US (Kk jv (UH jv) kK) UN (show oIx (UQ W[k+1]) (.int 0)=ju (.int ((W[k+1]).1:Nat))from rfl)) j8) (US (Kk jv (US (UH jv) UN ZM) kr) UN (show oIx (UQ W[k]) (.int 1)=ju (UO (W[k]).2)from rfl)) Rm) (λz=>Kc UN (YF (KO (no λh=>?_)))) λz=>Ko (Zh ⟨⟨_,rfl⟩,?_⟩)
     .obtain⟨h1,h2⟩:=(isw.mp h).lnk k _ _ hp hq
      rw[xi]at h2;rw[QJ (Qz h2)]at z;cases h3:(W[k]).2 with
      |none=>exact absurd h3 h1
      |some t=>rw[h3]at z;cases z
     .rw[JB]at z
      intro j p q hj kO ko;by_cases e:j=k
      .subst e
       rw[hp]at kO;rw[hq]at ko;cases kO;cases ko;refine⟨λe=>?_,?_⟩
       .rw[e]at z;cases z.1
       .rw[xi]
        by_cases e:ws[(W[j+1]).1]'(jU)=(W[j]).2
        .exact JV ju e
        .rw[Qx e]at z;cases z.2
      .exact hin j p q (by omega) kO ko
    case hend=>
     rintro Z ⟨⟨x7,rfl⟩,hin⟩;refine Kj ?_
     have lnk:Tc ws W:=λk p q hp hq=>hin k p q (by
      have:=(Qh.mp hq).1;rw[YJ]
      omega) hp hq
     obtain⟨p0,r0,xF⟩:∃p r,W=p::r:=by
      cases hW':W with
      |nil=>exact absurd hW' kt
      |cons x r=>exact⟨x,r,rfl⟩
     obtain⟨q,kQ⟩:∃q,W.getLast?=ju q:=by
      cases h:W.getLast? with
      |none=>exact absurd (List.getLast?_eq_none_iff.mp h) kt
      |some q=>exact⟨q,rfl⟩
     have vc:W.head?=ju p0:=by rw[xF];rfl
     have hqm:q∈W:=List.mem_of_getLast? kQ;have xT:p0∈W:=by rw[xF];exact Qt
     have xr:oIx (.list (W.map UQ)) (.int (-1))=ju (UQ q):=Rv (by rw[List.getLast?_map,kQ];rfl);have xu:oIx (.list (W.map UQ)) (.int 0)=ju (UQ p0):=KE (j:=0) (by rw[xF];rfl)
     let S8:Option Sl:=ju (.pub (UO q.2))
     let R:UF:=[S0,S1,S2,SA,x4,x5,x6,x7,S8]
     refine U3 (Z1:=R) (Kl (US (Kk jv (XJ UN) xr) UN (show oIx (UQ q) (.int 1)=ju (UO q.2)from rfl)) (Qa jv) jv) ?_;obtain⟨o0,xm,_⟩:=kq p0 xT;have j8:oIx (U6 ws) (.int ((p0.1:Nat):Int))=ju (UO o0):=KE (by rw[Qf,xm];rfl);have kI:∀{p' q':Nat×jD},W.head?=ju p'->W.getLast?=ju q'->p'=p0/\q'=q:=λh1 h2=>by rw[vc]at h1;rw[kQ]at h2;exact⟨(Qz h1).symm,(Qz h2).symm⟩
     apply Kg;refine Kd (b:=isNon (UO q.2) || decide (q.2=o0)) (Z1:=R) (Tk (Kr (k:=isNon) (UH jv)) λ_=>K8 jv (Kk jv (US (Kk jv UN xu) UN (show oIx (UQ p0) (.int 0)=ju (.int (p0.1:Nat))from rfl)) j8) W7) (λz=>Kc UN (KO ⟨_,rfl,jx,rfl,λ_=>isw.mpr ⟨kt,kq,hnd,lnk,λp' q' h1 h2=>?_⟩,λ_=>rfl⟩)) λz=>Ko (Kj ?_)
     .obtain⟨rfl,rfl⟩:=kI h1 h2
      rw[Bool.or_eq_true,Ja]at z;rcases z with z|z
      .refine .inl ?_
       cases h2:q'.2 with
       |none=>rfl
       |some t=>rw[h2]at z;cases z
      .exact .inr (.inl (by rw[xm,z]))
     rw[JB]at z;cases hq2:q.2 with
     |none=>rw[hq2]at z;cases z.1
     |some t=>
     obtain⟨_,_,_,hqq⟩:=kq q hqm;obtain⟨i,rs,hi,_,hmem⟩:=Vb (hqq t hq2);obtain⟨r,hr1,j7⟩:=JH.mp hmem;have hr:=(g.rk rs (Qp hi)).there r hr1 t j7;obtain⟨n,rfl⟩:∃n:Nat,t=n:=⟨t.toNat,by omega⟩
     have hn:n<cs.length:=by omega
     have hixc:oIx (.list (cs.map int)) (.int ((n:Nat):Int))=ju (.int cs[n]):=KE (by rw[Qf,Qe hn];rfl);have h8:R[8]?=ju (ju (.pub (.int ((n:Nat):Int)))):=by show ju (ju (Sl.pub (UO q.2)))=_;rw[hq2];rfl
     refine Kc (Kr (US (PR (UH jv) (UK (UH h8) UP) P0) (US (Kk jv UN T6) (UH h8) hixc) Xe)) ⟨_,rfl,_,rfl,?_⟩;rw[Ja,isw];constructor
     .intro h
      refine⟨kt,kq,hnd,lnk,λp' q' h1 h2=>?_⟩;obtain⟨rfl,rfl⟩:=kI h1 h2;exact .inr (.inr ⟨n,hq2,_,Qe hn,h⟩)
     .intro h
      rcases h.fin p0 q vc kQ with e|e|⟨t',e,c,hc,hlt⟩
      .rw[hq2]at e;cases e
      .rw[xm]at e
       rw[QJ (Qz e).symm]at z;cases z.2
      .rw[hq2]at e
       have e:n=t':=by have:=Qz e;omega
       subst e;rw[Qe hn]at hc;cases hc;exact hlt
  |_=>exact Kd (b:=jx) (YH (Zz (UH jv) jv)) (λ_=>Kc UN (KO (no λ⟨W,e,_⟩=>by cases e))) λz=>by cases z
 obtain⟨r,h,b,rfl,hb⟩:=key;exact⟨b,h,hb⟩
end
section
variable{cs:jA}{ls:L3}{ws:LO}{W:List (Nat×jD)}{o:Ord}{old:jL}{ts:jA}
theorem D6:Wp [exD "NoWay" []]=ju (.str "way"):=by kernel_rfl
theorem AT{w dl d:D}(hb:Zd [w,dl,d]=ju (.bool jy)):YX [w,dl,d]=ju (.bool jx):=by
 let S0:Option Sl:=ju (.pub w)
 let S1:Option Sl:=ju (.pub dl)
 let S2:Option Sl:=ju (.pub d)
 let E:D:=exD "NoWay" []
 have hX:RA [w,dl,d]=ju (.exc E):=by refine HS (Z:=[S0,S1,S2]) jv ?_;unfold Pu;apply Kg;exact Kd (b:=jx) (Z1:=[S0,S1,S2]) (Zr (ZC (Kb (UK (UH jv) (UK (UH jv) (UK (UH jv) UP))) jv hb))) (λ_=>ZD (DI (fs:=[]) (UK UN UP) (by kernel_rfl)) (DZ ⟨rfl,rfl⟩)) λz=>by cases z
 refine K3 (Z:=[S0,S1,S2,jw,jw]) jv ?_;unfold Vu;refine U3 (Kl UN (Qa jv) jv) ?_;refine U3 (Z1:=[S0,S1,S2,pb E,jw]) (Ex (Hi (Ey (UK (UH jv) (UK (UH jv) (UK (UH jv) UP))) jv hX)) jv (Qa jv) (Kl (UH jv) (Qa jv) jv) jv) ?_;exact Kc (Kr (US (Kb (UK (UH jv) UP) jv D6) UN (show oEq (.str "way") (.str "way")=ju jx by kernel_rfl))) jv
theorem My(g:Good cs ls)(ga:Xi cs.length ls.length old ts)(dl:Deal cs ls ws):Xu [Ke cs ls,KN o old ts,U6 ws]=ju (.int (KW (Zo (K4 ls o old ts) 0 ls ws))):=by
 let S0:Option Sl:=ju (.pub (Ke cs ls))
 let S1:Option Sl:=ju (.pub (KN o old ts))
 let S2:Option Sl:=ju (.pub (U6 ws))
 have hl:=dl.len
 let G:=Zo (K4 ls o old ts) 0 ls ws
 refine K3 (Z:=[S0,S1,S2,jw,jw,jw]) jv ?_;unfold Vy;refine U3 (Kl UN (Qa jv) jv) ?_;apply Kg;apply Zu (λk Z=>∃x4 x5,Z=[S0,S1,S2,pb (.int (KW (G.take k))),x4,x5])
 case h1=>exact WU (UK (UH jv) UP) W0
 case h0=>exact⟨_,_,rfl⟩
 case hst=>
  rintro k d Z hk ⟨x4,x5,rfl⟩;obtain⟨x,hx,rfl⟩:=XQ hk;rw[Jr];rw[Qf]at hx;cases hp:ws[k]? with
  |none=>rw[hp]at hx;cases hx
  |some w=>
  rw[hp]at hx;cases hx;have kJ:k<ls.length:=by have:=(Qh.mp hp).1;omega
  have hs:ls[k]?=ju ls[k]:=Qe kJ;have hG:G[k]?=ju (w.map (K4 ls o old ts k ls[k])):=by have:=PH (W:=K4 ls o old ts) (k:=0) hs hp;rw[Jr]at this;exact this
  have xR:KW (G.take (k+1))=KW (G.take k)+(w.map (K4 ls o old ts k ls[k])).getD 0:=by
   rw[J6,hG,qT]
   congr 1
   exact(BE (l:=[])).trans (Int.add_zero _)
  refine⟨_,KF jv (U4 (UY (Qa jv) jv) (U4 (UY (Qa jv) jv) KG)),?_⟩;unfold NB;cases w with
  |none=>
   refine Kd (b:=jy) (Tf (d:=.none) (UH jv) jv) (λz=>by cases z) λ_=>Ko (Zh ⟨ju (.pub (.int (k:Nat))),ju (.pub .none),?_⟩)
   rw[xR];show _=[S0,S1,S2,pb (.int (KW (G.take k)+0)),_,_];rw[Int.add_zero];rfl
  |some t=>
   refine Kd (b:=jx) (Tf (d:=.int t) (UH jv) jv) (λ_=>ZD (Kl (US (UH jv) (Kb (UK (UH jv) (UK (UH jv) (UK (UH jv) (UK (UH jv) UP)))) jv (jd g ga hs (dl.wish k t _ hp hs))) KI) (Qa jv) jv) (Zh ⟨ju (.pub (.int (k:Nat))),pb (.int t),?_⟩)) λz=>by cases z
   rw[xR];rfl
 case hend=>rintro Z ⟨x4,x5,rfl⟩;refine Kj (Kc (UH rfl) ?_);rw[Y6,Qb,List.take_of_length_le (by rw[PJ hl];omega)]
theorem AS{tk:List (Nat×jD)}(h:∀p∈tk,p.1<ws.length):RR [U6 ws,.list (tk.map UQ)]=ju ((K2 tk ws).map UO):=by
 let S0:Option Sl:=ju (.pub (U6 ws))
 let S1:Option Sl:=ju (.pub (.list (tk.map UQ)))
 have key:∃x3 x4,SE [S0,S1,jw,jw,jw]=.nx [S0,S1,ju (.own ((K2 tk ws).map UO)),x3,x4]:=by
  have:Ho SE [S0,S1,jw,jw,jw] λout=>∃x3 x4,out=.nx [S0,S1,ju (.own ((K2 tk ws).map UO)),x3,x4]:=by
   unfold SE;refine U3 (Zy (SD jv (show YD [U6 ws]=ju (ws.map UO)from rfl)) (Qa jv) jv) ?_;apply Kg;apply Zu (λk Z=>∃x3 x4,Z=[S0,S1,ju (.own ((K2 (tk.take k) ws).map UO)),x3,x4])
   case h1=>exact Zt (UH jv) ZP
   case h0=>exact⟨_,_,rfl⟩
   case hst=>
    rintro k d Z hk ⟨x3,x4,rfl⟩;rw[Qf]at hk;cases hq:tk[k]? with
    |none=>rw[hq]at hk;cases hk
    |some p=>
    rw[hq]at hk;cases hk;have hpl:=h p (Qp hq);have xj:K2 (tk.take (k+1)) ws=(K2 (tk.take k) ws).set p.1 p.2:=by rw[J6,hq];unfold K2;rw[List.foldl_append];rfl
    refine⟨_,KF jv (U4 (UY (Qa jv) jv) (U4 (UY (Qa jv) jv) KG)),?_⟩;unfold LH;refine ZD (Rr (UH jv) jv (UH jv) jv ⟨Int.natCast_nonneg _,by rw[Qb,Sz];omega⟩ jv) (Zh ⟨ju (.pub (.int (p.1:Nat))),pb (UO p.2),?_⟩);rw[xj,List.map_set];show [_,_,ju (Sl.own (((K2 (tk.take k) ws).map UO).set ((p.1:Int)).toNat (UO p.2))),_,_]=_;rw[Q0]
   case hend=>rintro Z ⟨x3,x4,rfl⟩;rw[Qb,JR];exact Kj (Ko ⟨_,_,rfl⟩)
  exact this.out
 obtain⟨x3,x4,h1⟩:=key;exact On jv h1 jv
theorem D5(h:∀p∈W,p.1<ws.length)(hb:Zd [Ke cs ls,U6 ws,.list (W.map UQ)]=ju (.bool jx)):Rx [Ke cs ls,U6 ws,.list (W.map UQ)]=ju ((K2 W ws).map UO):=by
 let S0:Option Sl:=ju (.pub (Ke cs ls))
 let S1:Option Sl:=ju (.pub (U6 ws))
 let S2:Option Sl:=ju (.pub (.list (W.map UQ)))
 have key:Ho Ry [S0,S1,S2] λout=>out=.nx [S0,S1,S2]:=by unfold Ry;apply Kg;exact Kd (b:=jy) (Z1:=[S0,S1,S2]) (Zr (ZC (Kb (UK (UH jv) (UK (UH jv) (UK (UH jv) UP))) jv hb))) (λz=>by cases z) λ_=>Ko (Kj (Ko jv))
 exact On jv key.out (Nk (UK (UH jv) (UK (UH jv) UP)) jv (AS h))
theorem Py(h:∀p∈W,p.1<ws.length)(hb:Zd [Ke cs ls,U6 ws,.list (W.map UQ)]=ju (.bool jx)):YA [Ke cs ls,U6 ws,.list (W.map UQ)]=ju (U6 (K2 W ws)):=by
 let S0:Option Sl:=ju (.pub (Ke cs ls))
 let S1:Option Sl:=ju (.pub (U6 ws))
 let S2:Option Sl:=ju (.pub (.list (W.map UQ)))
 refine K3 (Z:=[S0,S1,S2]) jv ?_;unfold VJ;apply Kg;exact Kd (b:=jy) (Z1:=[S0,S1,S2]) (Zr (ZC (Kb (UK (UH jv) (UK (UH jv) (UK (UH jv) UP))) jv hb))) (λz=>by cases z) λ_=>Ko (Kj (Kc (Kb (UK (UH jv) (UK (UH jv) UP)) jv (CH h)) jv))
theorem PZ(g:Good cs ls)(hd:XX cs (Kt 0 ls) ls.length ws)(h:WayQ cs (Kt 0 ls) ws W):Zd [Ke cs ls,U6 ws,.list (W.map UQ)]=ju (.bool jx)/\W.length<=7:=by
 have l7:=g.l7;have hl:=hd.len
 have xK:W.length<=7:=by
  have h1:=TL ws.length (W.map λp=>((p.1:Nat):Int)) (by
   have e:(W.map λp=>((p.1:Nat):Int))=(W.map Prod.fst).map λn:Nat=>(n:Int):=by rw[Jb];rfl
   rw[e];exact List.Pairwise.map _ (λa b h e=>h (by omega)) h.nd) (λa ha=>by
   obtain⟨p,hp,rfl⟩:=Qu.mp ha;have:=XV h hp
   omega)
  rw[Qb]at h1;omega
 obtain⟨b,hb,hi⟩:=Li g hd.len (d:=.list (W.map UQ)) (λxs e=>by injection e with e;rw[←e,Qb];omega);rw[hi.mpr ⟨W,rfl,h⟩]at hb;exact⟨hb,xK⟩
theorem O4(g:Good cs ls)(ga:Xi cs.length ls.length old ts)(hd:XX cs (Kt 0 ls) ls.length ws)(h:WayQ cs (Kt 0 ls) ws W):Xv [Ke cs ls,KN o old ts,U6 ws,.list (W.map UQ)]=ju (.int (KW (Zo (K4 ls o old ts) 0 ls (K2 W ws))-KW (Zo (K4 ls o old ts) 0 ls ws))):=by
 let S0:Option Sl:=ju (.pub (Ke cs ls))
 let S1:Option Sl:=ju (.pub (KN o old ts))
 let S2:Option Sl:=ju (.pub (U6 ws))
 let S3:Option Sl:=ju (.pub (.list (W.map UQ)))
 refine K3 (Z:=[S0,S1,S2,S3]) jv ?_;unfold VI;refine U3 (Z1:=[S0,S1,S2,S3]) (WS (Kb (UK (UH jv) (UK (UH jv) UP)) jv (OH g ga))) ?_;exact Kc (US (Kb (UK (UH jv) (UK (UH jv) (UK (Kb (UK (UH jv) (UK (UH jv) (UK (UH jv) UP))) jv (Py (λp hp=>XV h hp) (PZ g hd h).1)) UP))) jv (Lg g ga (O6 hd h).len)) (Kb (UK (UH jv) (UK (UH jv) (UK (UH jv) UP))) jv (Lg g ga hd.len)) ZM) jv
theorem D4(W:List (Nat×jD)):(Ur (W.map UQ)).canLay0=jx:=TH λx hx=>by obtain⟨q,_,rfl⟩:=Qu.mp hx;obtain⟨i,_|t⟩:=q<;>rfl
theorem D3(W:List (Nat×jD)):(Ur (W.map UQ)).depth<=3:=by have:=Sv (n:=2) (xs:=W.map UQ) (TF λx hx=>by obtain⟨q,_,rfl⟩:=Qu.mp hx;obtain⟨i,_|t⟩:=q<;>simp[UQ,UO,Uw,PyData.depthAll]);omega
theorem Mp:oNe (U6 ws) (U6 ws)=ju jy:=by unfold oNe;rw[Qo ⟨WY ws,WY ws,by have:=PY ws;omega⟩,RE (U6 ws) (WY ws)];rfl
theorem Mx:oNe (.list [U6 ws,.list (W.map UQ)]) (.list [U6 ws,.list (W.map UQ)])=ju jy:=by
 have h1:(Ur [U6 ws,.list (W.map UQ)]).canLay0=jx:=TH λx hx=>by
  have hx:x=U6 ws∨x=.list (W.map UQ):=by simpa using hx
  rcases hx with rfl|rfl
  .exact WY _
  .exact D4 _
 have h2:PyData.depthAll [U6 ws,.list (W.map UQ)]<=3:=TF λx hx=>by
  have hx:x=U6 ws∨x=.list (W.map UQ):=by simpa using hx
  rcases hx with rfl|rfl
  .have:=PY ws;omega
  .exact D3 _
 unfold oNe;rw[Qo ⟨h1,h1,by have:=Sv h2;omega⟩,RE _ h1];rfl
theorem js(g:Good cs ls)(dl:Deal cs ls ws):Wo [Ke cs ls,U6 ws]=ju (.bool jx):=by
 let S0:Option Sl:=ju (.pub (Ke cs ls))
 let S1:Option Sl:=ju (.pub (U6 ws))
 refine K3 (Z:=[S0,S1,jw,jw,jw]) jv ?_;unfold Vt;have l7:=g.l7;have c6:=g.c6;have hl:=dl.len;have ke:U5 [.list (ls.map Ku)]=ju (.int ls.length):=by rw[K1,Qb]
 have xZ:U5 [.list (cs.map int)]=ju (.int cs.length):=by rw[K1,Qb]
 have hul:U5 [U6 ws]=ju (.int ws.length):=by unfold U6;rw[K1,Qb]
 have hne:oNe (.int ws.length) (.int ls.length)=ju jy:=by rw[YG,hl,QJ jv];rfl
 apply Kg;refine Kd (b:=jy) (Z1:=[S0,S1,jw,jw,jw]) (K9 (Zz (UH jv) jv) (US (Kz jv hul) (ZB (UK (Kk jv UN WM) UP) ke) hne)) (λz=>by cases z) λ_=>Ko (Kj ?_)
 apply Kg;apply Zu (λi Z=>∃x2 x3:jC,Z=[S0,S1,x2.map Sl.pub,x3.map Sl.pub,jw])
 case h1=>exact WU (UK (UH jv) UP) W0
 case h0=>exact⟨jw,jw,rfl⟩
 case hst=>
  rintro i d Z hi ⟨x2,x3,rfl⟩;obtain⟨z,hz,rfl⟩:=XQ hi;rw[Qf]at hz;cases hwi:ws[i]? with
  |none=>rw[hwi]at hz;cases hz
  |some w=>
  rw[hwi]at hz;cases hz;have jT:i<ls.length:=by have:=(Qh.mp hwi).1;omega
  have hls:ls[i]?=ju ls[i]:=Qe jT;rw[Jr];refine⟨_,KF jv (U4 (UY (Qa jv) jv) (U4 (UY (Qa jv) jv) KG)),?_⟩;unfold NA
  let R:UF:=[S0,S1,pb (.int (i:Nat)),pb (UO w),jw]
  have nn:UT (λd=>!isNon d) (UE 3) R=.ok (!isNon (UO w)) R:=Tf (UH jv) jv;have hfl:ls[i].flatten.length<64:=by have:=Ss (g.rk ls[i] (Q5 jT));omega
  apply Kg;refine Kd (b:=jy) (Z1:=R) (Pz nn (λz=>?_) λ_=>rfl) (λz=>by cases z) λ_=>Ko (Kj ?_)
  .cases w with
   |none=>cases z
   |some t=>exact Zr (ZC (t:=jx) (Kb (UK (UH jv) UP) jv (Ro (.int t))))
  refine Kd (b:=jy) (Z1:=R) (Pz nn (λz=>?_) λ_=>rfl) (λz=>by cases z) λ_=>Ko (Zh ⟨ju _,ju _,rfl⟩)
  cases w with
  |none=>cases z
  |some t=>exact K8 jv (Kb (UK (UH jv) (UK (UH jv) UP)) jv (RB hls hfl)) (by show Zn (.int t) _=_;unfold Zn;rw[WW];have:(ZL ls[i].flatten).contains t=jx:=List.contains_iff_mem.mpr ((Y7 ls[i].flatten).mem_iff.mpr (dl.wish i t _ hwi hls));rw[this];rfl)
 case hend=>
  rintro Z ⟨x2,x3,rfl⟩;refine Kj ?_
  have hc:KB (gN 5) (UJ (oIB λi j=>decide (j<i)) (X3 (UE 1) (UI (UE 5) (UG))) (UJ oIx (UR 0 (UL (.int 0))) (UE 5))) (UE 5) (Zv 0 cs.length) (Kf [S0,S1,x2.map Sl.pub,x3.map Sl.pub,jw]++Uq 1 jw) []=ju (([]:jA).map int):=by
   rw[X7 (λ_=>jy) (λd=>d) (λZ=>∃y2 y3 x,Z=[S0,S1,y2,y3,jw,x]),List.filter_eq_nil_iff.mpr (λ_ _ h=>by cases h)]
   .rfl
   .rintro d hm Z ⟨y2,y3,x,rfl⟩
    obtain⟨k,hk⟩:=List.mem_iff_getElem?.mp hm;obtain⟨rfl,kJ⟩:=XN hk;rw[JS];have hkc:k<cs.length:=by omega
    have hix:oIx (.list (cs.map int)) (.int ((k:Nat):Int))=ju (.int cs[k]):=KE (by rw[Qf,Qe hkc];rfl);have:=dl.cop k _ (Qe hkc);exact⟨_,UY (Qa jv) jv,US (PR (UH jv) (UK (UH jv) UP) P0) (US (Kk jv UN T6) (UH jv) hix) (by rw[Xe,Qx (by omega)]),(λz=>by cases z),_,_,_,rfl⟩
   .exact⟨_,_,jw,rfl⟩
   .rw[YJ,QM];omega
  refine U3 (Z1:=[S0,S1,x2.map Sl.pub,x3.map Sl.pub,ju (.own (([]:jA).map int))]) (Zy (ZX (XZ (UK (ZB (UK (Kk jv UN T6) UP) xZ) UP) (X6 (by omega) (by omega))) hc) (Qa jv) jv) ?_;exact Kc (Kr (RH jv (KQ UP (Qa jv)) jv (show oEq (.list []) (.list [])=ju jx by kernel_rfl))) jv
theorem Cv(g:Good cs ls)(ga:Xi cs.length ls.length old ts)(hd:XX cs (Kt 0 ls) ls.length ws)(h:WayQ cs (Kt 0 ls) ws W):Wn [Ke cs ls,KN o old ts,U6 ws,.list (W.map UQ)]=ju (.bool jx):=by
 have hlt:∀p∈W,p.1<ws.length:=λp hp=>XV h hp
 obtain⟨hb,xK⟩:=PZ g hd h;have hd2:=O6 hd h;have h2:=Ft (AU g) hd h;obtain⟨hb2,hWl2⟩:=PZ g hd2 h2;have xf:=Fs h;have dl:=M5 hd;have dl2:=M5 hd2
 let us:=K2 W ws
 let S0:Option Sl:=ju (.pub (Ke cs ls))
 let S1:Option Sl:=ju (.pub (KN o old ts))
 let S2:Option Sl:=ju (.pub (U6 ws))
 let S3:Option Sl:=ju (.pub (.list (W.map UQ)))
 let hand:jz:=[U6 ws,.list (W.map UQ)]
 let S4:Option Sl:=ju (.own hand)
 let S5:Option Sl:=ju (.own (us.map UO))
 let P5:Option Sl:=ju (.pub (U6 us))
 let S8:Option Sl:=ju (.own (us.map UO))
 let more:=KW (Zo (K4 ls o old ts) 0 ls us)-KW (Zo (K4 ls o old ts) 0 ls ws)
 let S9:Option Sl:=ju (.pub (.int more))
 let back:=(YC ws W).map UQ
 refine K3 (Z:=[S0,S1,S2,S3,jw,jw,jw,jw,jw,jw,jw,jw]) jv ?_;unfold Vs;refine U3 (Z1:=[S0,S1,S2,S3,S4,jw,jw,jw,jw,jw,jw,jw]) (Zy (XU (UK (Kr (SD jv (show YD [U6 ws]=ju (ws.map UO)from rfl))) (UK (Kr (SD jv (show YD [.list (W.map UQ)]=ju (W.map UQ)from rfl))) UP)) (Qa jv)) (Qa jv) jv) ?_;refine U3 (Zy (SD jv (show YD [U6 ws]=ju (ws.map UO)from rfl)) (Qa jv) jv) ?_;apply Kg;apply Zu (λk Z=>∃x6 x7,Z=[S0,S1,S2,S3,S4,ju (.own ((K2 (W.take k) ws).map UO)),x6,x7,jw,jw,jw,jw])
 case h1=>exact Zt (UH jv) ZP
 case h0=>exact⟨_,_,rfl⟩
 case hst=>
  rintro k d Z hk ⟨x3,x4,rfl⟩;rw[Qf]at hk;cases hq:W[k]? with
  |none=>rw[hq]at hk;cases hk
  |some p=>
  rw[hq]at hk;cases hk;have hpl:=hlt p (Qp hq);have xj:K2 (W.take (k+1)) ws=(K2 (W.take k) ws).set p.1 p.2:=by rw[J6,hq];unfold K2;rw[List.foldl_append];rfl
  refine⟨_,KF jv (U4 (UY (Qa jv) jv) (U4 (UY (Qa jv) jv) KG)),?_⟩;unfold Nx;refine ZD (Rr (UH jv) jv (UH jv) jv ⟨Int.natCast_nonneg _,by rw[Qb,Sz];omega⟩ jv) (Zh ⟨ju (.pub (.int (p.1:Nat))),pb (UO p.2),?_⟩);rw[xj,List.map_set];show [_,_,_,_,_,ju (Sl.own (((K2 (W.take k) ws).map UO).set ((p.1:Int)).toNat (UO p.2))),_,_,_,_,_,_]=_;rw[Q0]
 case hend=>
  rintro Z ⟨x6,x7,rfl⟩;rw[Qb,JR];refine Kj ?_;have i0:oIx (.list hand) (.int 0)=ju (U6 ws):=rfl;have i1:oIx (.list hand) (.int 1)=ju (.list (W.map UQ)):=rfl;refine U3 (Z1:=[S0,S1,S2,S3,S4,S5,x6,x7,S8,jw,jw,jw]) (Zy (Nk (UK (UH rfl) (UK (Xf rfl UN rfl i0) (UK (Xf rfl UN rfl i1) UP))) rfl (D5 hlt hb)) (Qa rfl) rfl) ?_;apply Kg;refine Kd (b:=jy) (Z1:=[S0,S1,S2,S3,S4,S5,x6,x7,S8,jw,jw,jw]) (Eu (K9 (N0 (UH rfl) rfl Mp) (K9 (Zr (ZC (t:=jx) (Kb (UK (UH rfl) (UK (UH rfl) UP)) rfl (js g dl2)))) (K8 rfl (KQ (UK (UH rfl) (UK (UH rfl) UP)) (Qa rfl)) Mx)))) (λz=>by cases z) λ_=>Ko (Kj ?_)
  refine U3 (Z1:=[S0,S1,S2,S3,S4,P5,x6,x7,S8,S9,jw,jw]) (Kl (US (Kb (UK (UH jv) (UK (UH jv) (UK (Z8 jv jv) UP))) jv (My g ga dl2)) (Kb (UK (UH jv) (UK (UH jv) (UK (UH jv) UP))) jv (My g ga dl)) ZM) (Qa jv) jv) ?_;refine U3 (Z1:=[S0,S1,S2,S3,S4,P5,x6,x7,S8,S9,S9,jw]) (Kl (Kb (UK (UH jv) (UK (UH jv) (UK (Xf jv UN jv i0) (UK (Xf jv UN jv i1) UP)))) jv (O4 g ga hd h)) (Qa jv) jv) ?_;apply Kg;refine Kd (b:=jy) (Z1:=[S0,S1,S2,S3,S4,P5,x6,x7,S8,S9,S9,jw]) (K9 (Zr (ZC (t:=jx) (Kb (UK (UH jv) UP) jv (Ro (.int more))))) (K9 (K8 jv (UH jv) (by rw[YG,QJ jv];rfl)) (RH jv (KQ (UK (UH jv) (UK (UH jv) UP)) (Qa jv)) jv Mx))) (λz=>by cases z) λ_=>Ko (Kj ?_)
  have hc:KB (gT 2 (gNC (gN 12) (gNC (gN 13) (gN0)))) (UL jx) (Kp (UI (UE 12) (UI (UR 2 (UE 12)) (UG)))) (W.map UQ).reverse (Kf [S0,S1,S2,S3,S4,P5,x6,x7,S8,S9,S9,jw]++Uq 2 jw) []=ju back:=by
   refine Y5 (λZ=>∃y4 y6 y7 y8 y11 x y,Z=[S0,S1,S2,S3,y4,P5,y6,y7,y8,S9,S9,y11,x,y]) _ _ _ _ (by rw[Qb,Ju,Qb];unfold YC;rw[Qb,Ju]) ?_ ⟨_,_,_,_,_,jw,jw,rfl⟩ (by rw[Ju,Qb,QM];omega);rintro j y e hj he Z ⟨y4,y6,y7,y8,y11,x,y',rfl⟩;rw[←List.map_reverse,Qf]at hj;unfold YC at he;rw[Qf,Qf]at he;cases hp:W.reverse[j]? with
   |none=>rw[hp]at hj;cases hj
   |some p=>
   rw[hp]at hj he;cases hj;cases he;have xT:p∈W:=J7.mp (Qp hp);have hix:oIx (U6 ws) (.int ((p.1:Nat):Int))=ju (UO (ws.getD p.1 jw)):=by have hw:ws[p.1]?=ju (ws[p.1]'(hlt p xT)):=Qe _;rw[XY hw];exact KE (by rw[Qf,hw];rfl)
   exact⟨_,KF jv (U4 (UY (Qa jv) jv) (U4 (UY (Qa jv) jv) KG)),rfl,Zs (UK (UH jv) (UK (Kk jv (UH jv) hix) UP)) (Qa jv),_,_,_,_,_,_,_,rfl⟩
  let SB:Option Sl:=ju (.own back)
  let PB:Option Sl:=ju (.pub (.list back))
  refine U3 (Z1:=[S0,S1,S2,S3,S4,P5,x6,x7,S8,S9,S9,SB]) (Zy (ZX (Zt (R7 (UH jv) UN UN (Yr (XJ UN))) ZP) hc) (Qa jv) jv) ?_;have hnb:SG (.bool jx) (.bool jx)=ju jy:=rfl;have hdn:=Py (λp hp=>XV h2 hp) hb2;rw[xf]at hdn;apply Kg;refine Kd (b:=jy) (Z1:=[S0,S1,S2,S3,S4,P5,x6,x7,S8,S9,S9,PB]) (K9 (US (Nn (UK (UH jv) (RF jv (RF jv UP jv) jv)) jv hb2) UN hnb) (US (Kb (UK (UH jv) (UK (UH jv) (UK (Z8 jv jv) UP))) jv hdn) (UH jv) Mp)) (λz=>by cases z) λ_=>Ko (Kj ?_)
  refine U3 (Z1:=[S0,S1,S2,S3,S4,P5,x6,x7,ju (.own (us.map UO++[.none])),S9,S9,PB]) (Xd jv UN jv (by have:=g.l7;have:=hd2.len;rw[Qb];show(K2 W ws).length<_;omega) jv) ?_;have hgb:=O4 (o:=o) g ga hd2 h2;rw[xf]at hgb;have he:oEq (U6 us) (U6 us)=ju jx:=by unfold oEq;rw[Qo ⟨WY us,WY us,by have:=PY us;omega⟩,RE (U6 us) (WY us)]
  refine Kc (XT (t:=jx) (u:=jx) (Kr (k:=Us) (US (Nn (UK (UH jv) (UK (UH jv) (RF jv (RF jv UP jv) jv))) jv hgb) (US UN (UH jv) ZM) ?_)) λ_=>Kr (N0 (Kb (UK (UH jv) (UK (UH jv) (UK (UH jv) UP))) jv (Py hlt hb)) jv he)) jv;rw[WT,QJ (by unfold more us;omega)]
end
section
variable{cs:jA}{ls:L3}{ws:LO}{W:List (Nat×jD)}
theorem GP{xs:jA}:oEq (.list (xs.map int)) (.list [])=ju xs.isEmpty:=by have h1:(Ur (xs.map int)).canLay0=jx:=N9 xs;unfold oEq;rw[Qo ⟨h1,rfl,by have:=N8 xs;unfold K6 at this;omega⟩];cases xs<;>rfl
def szC(n:Nat):jA:=(n:Int)::[61,53,61,53,61,53,61,53,61,53,61,53,61,53]
theorem AR(g:Good cs ls)(hl:ws.length=ls.length)(c s:Int):∃r,Wr [Ke cs ls,U6 ws,.int c,.int s]=ju r/\∃W:List (Nat×jD),r=.list (W.map UQ)/\W≠[]/\W.length<=7/\∀p∈W,p.1<ws.length:=by
 have l7:=g.l7;have l1:=g.l1;have c6:=g.c6
 let S0:Option Sl:=ju (.pub (Ke cs ls))
 let S1:Option Sl:=ju (.pub (U6 ws))
 let S2:Option Sl:=ju (.pub (.int c))
 let S3:Option Sl:=ju (.pub (.int s))
 refine XI (Z:=[S0,S1,S2,S3,jw,jw,jw,jw,jw,jw,jw,jw]) jv ?_;unfold Vx;have jM:U5 [U6 ws]=ju (.int ws.length):=by unfold U6;rw[K1,Qb]
 obtain⟨r,hF,dg,rfl,hdl,hdb⟩:=TQ c s (sizes:=szC ws.length) (λx hx=>by
  rcases Ql.mp hx with rfl|hx
  .omega
  .exact(by decide:∀x∈([61,53,61,53,61,53,61,53,61,53,61,53,61,53]:jA),0<x/\x<18446744073709551616) x hx) (Qa jv)
 have hdl:dg.length=15:=hdl;have hmul:U9 (.list [.int 61,.int 53]) (.int 7)=ju (.list ((szC ws.length).tail.map int)):=(RN (by decide)).trans jv;have hadd:UU (.list [.int ws.length]) (.list ((szC ws.length).tail.map int))=ju (.list ((szC ws.length).map int)):=(Ys (Qa jv)).trans jv
 let S4:Option Sl:=ju (.pub (.list (dg.map int)))
 refine U3 (Z1:=[S0,S1,S2,S3,S4,jw,jw,jw,jw,jw,jw,jw]) (Kl (Kb (UK (UH jv) (UK (UH jv) (UK (US (KQ (UK (Kz jv jM) UP) (Qa jv)) (US (KQ (UK UN (UK UN UP)) (Qa jv)) UN hmul) hadd) UP))) jv hF) (Qa jv) jv) ?_;refine U3 (Zy (XU UP (Qa jv)) (Qa jv) jv) ?_;have hdi:∀(j:Nat)(hj:j<15),oIx (.list (dg.map int)) (.int (j:Int))=ju (.int (dg[j]'(by omega))):=λj hj=>KE (by rw[Qf,Qe (by omega)];rfl)
 have h0:=hdb 0 (dg[0]'(by omega)) ws.length (Qe _) jv;obtain⟨a0,ha0⟩:∃a:Nat,dg[0]'(by omega)=a:=⟨(dg[0]'(by omega)).toNat,by omega⟩
 have h00:=hdi 0 (by decide);rw[ha0]at h00 h0;refine U3 (Kl (Kk jv UN h00) (Qa jv) jv) ?_;apply Kg;apply Zu (λk Z=>∃(W:List (Nat×jD))(a:Nat)(x7 x8 x9 kj jP:Option Sl),Z=[S0,S1,S2,S3,S4,ju (.own (W.map UQ)),pb (.int (a:Nat)),x7,x8,x9,kj,jP]/\W.length=k/\a<ws.length/\∀p∈W,p.1<ws.length)
 case h1=>exact XZ (UK UN UP) (X6 (by decide) (by decide))
 case h0=>exact⟨[],a0,_,_,_,_,_,rfl,rfl,by omega,λ_ h=>by cases h⟩
 case hst=>
  rintro k d Z hk ⟨W,a,x7,x8,x9,kj,jP,rfl,xE,ha,hW⟩;obtain⟨rfl,hk7⟩:=XN hk;have hk7:k<7:=by omega
  rw[JS];refine⟨_,UY (Qa jv) jv,?_⟩;unfold Nv;have hal:a<ls.length:=by omega
  have hls:ls[a]?=ju ls[a]:=Qe hal;have hw:ws[a]?=ju ws[a]:=Qe ha;have hfl:=Ss (g.rk ls[a] (Q5 hal));have xq:oIx (U6 ws) (.int ((a:Nat):Int))=ju (UO ws[a]):=KE (by rw[Qf,hw];rfl)
  let SW:Option Sl:=ju (.own (W.map UQ))
  let S6:Option Sl:=ju (.pub (.int (a:Nat)))
  let S7:Option Sl:=ju (.pub (.int (k:Nat)))
  let L:=(ZL ls[a].flatten).filter λt=>!decide (ju t=ws[a])
  have hc:KB (gN 12) (KL oNe 12 (UR 1 (UE 6))) (UE 12) ((ZL ls[a].flatten).map int) (Kf [S0,S1,S2,S3,S4,SW,S6,S7,x8,x9,kj,jP]++Uq 1 jw) []=ju (L.map int):=by
   rw[X7 (λd=>match d with | .int t=>!decide (ju t=ws[a])|_=>jy) (λd=>d) (λZ=>∃y5 y8 y9 y10 y11 x,Z=[S0,S1,S2,S3,S4,y5,S6,S7,y8,y9,y10,y11,x])]
   .rw[JD,List.map_id',List.filter_map]
    rfl
   .rintro d hm Z ⟨y5,y8,y9,y10,y11,x,rfl⟩
    obtain⟨t,ht,rfl⟩:=Qu.mp hm;exact⟨_,UY (Qa jv) jv,K8 jv (Kk jv (UH jv) xq) (Rm (a:=ju t)),λ_=>UH jv,_,_,_,_,_,_,rfl⟩
   .exact⟨_,_,_,_,_,jw,rfl⟩
   .rw[Qb,QM,(Y7 _).length_eq];omega
  have hLl:L.length<=6:=by have:L.length<=(ZL ls[a].flatten).length:=List.length_filter_le _ _;rw[(Y7 _).length_eq]at this;omega
  have hadd:UU (.list (L.map int)) (.list [.none])=ju (.list ((L.map ju++[jw]).map UO)):=by rw[Ys (by rw[Qb];show L.length+1<=_;omega),QT,Jb];rfl
  have xk:(L.map ju++[jw]:LO).length=L.length+1:=by rw[Qi,Qb];rfl
  have hlen:U5 [.list ((L.map ju++[jw]:LO).map UO)]=ju (.int ((L.length+1:Nat):Int)):=by rw[K1,Qb,xk]
  let S8:Option Sl:=ju (.pub (.list ((L.map ju++[jw]:LO).map UO)))
  refine U3 (Z1:=[S0,S1,S2,S3,S4,SW,S6,S7,S8,x9,kj,jP]) (Kl (US (Kr (ZX (Zt (Kb (UK (UH jv) (UK (UH jv) UP)) jv (RB (cs:=cs) hls (by omega))) ZP) hc)) (KQ (UK UN UP) (Qa jv)) hadd) (Qa jv) jv) ?_;have hd1:=hdi (1+2*k) (by omega);have hd2:=hdi (2+2*k) (by omega);have xA:((1+2*k:Nat):Int)=1+2*(k:Int):=by omega
  have xz:((2+2*k:Nat):Int)=2+2*(k:Int):=by omega
  rw[xA]at hd1;rw[xz]at hd2;generalize dg[1+2*k]'(by omega)=z1 at hd1;generalize dg[2+2*k]'(by omega)=z2 at hd2;have hm0:0<=z1 % ((L.length+1:Nat):Int):=Jw _ (by omega);have hm1:z1 % ((L.length+1:Nat):Int)<((L.length+1:Nat):Int):=Jf _ (by omega);obtain⟨j,hj⟩:∃j:Nat,z1 % ((L.length+1:Nat):Int)=j:=⟨(z1 % ((L.length+1:Nat):Int)).toNat,by omega⟩
  have kA:j<(L.map ju++[jw]:LO).length:=by rw[xk];omega
  have jQ:=Rn (os:=L.map ju++[jw]) kA;rw[←hj]at jQ;generalize (L.map ju++[jw]:LO)[j]=o at jQ
  let S9:Option Sl:=ju (.pub (UO o))
  refine U3 (Z1:=[S0,S1,S2,S3,S4,SW,S6,S7,S8,S9,kj,jP]) (Kl (Kk jv (US (Kk jv (US UN (US UN (UH jv) (Xl (by decide) (by decide))) KI) hd1) (Kz jv hlen) (Z7 (by omega))) jQ) (Qa jv) jv) ?_
  let V:=W++[(a,o)]
  let SV:Option Sl:=ju (.own (V.map UQ))
  have hVl:V.length=k+1:=by unfold V;rw[Qi,xE];rfl
  have hV:∀p∈V,p.1<ws.length:=λp hp=>by
   rcases QO.mp hp with hp|hp
   .exact hW p hp
   .cases Qy.mp hp;exact ha
  refine U3 (Z1:=[S0,S1,S2,S3,S4,SV,S6,S7,S8,S9,kj,jP]) (Xd jv (Zs (UK (UH jv) (UK (UH jv) UP)) (Qa jv)) jv (by rw[Qb];omega) (by unfold SV V;rw[QT];rfl)) ?_
  let U:jA:=V.map λp=>((p.1:Nat):Int)
  have hc2:KB (gN 12) (UL jx) (UR 12 (UL (.int 0))) (V.map UQ) (Kf (K7 [S0,S1,S2,S3,S4,SV,S6,S7,S8,S9,kj,jP])++Uq 1 jw) []=ju (U.map int):=by
   refine Y5 (λZ=>∃y10 y11 x,Z=[S0,S1,S2,S3,S4,pb (.list (V.map UQ)),S6,S7,S8,S9,y10,y11,x]) _ _ _ _ (by rw[Qb,Qb,Qb]) ?_ ⟨_,_,jw,rfl⟩ (by rw[Qb,QM];omega);rintro j d e hj he Z ⟨y10,y11,x,rfl⟩;rw[Qf]at hj;rw[Qf,Qf]at he;cases hqj:V[j]? with
   |none=>rw[hqj]at hj;cases hj
   |some q=>
   rw[hqj]at hj he;cases hj;cases he;exact⟨_,UY (Qa jv) jv,rfl,Kk jv UN (show oIx (UQ q) (.int 0)=ju (.int (q.1:Nat))from rfl),_,_,_,rfl⟩
  let SU:Option Sl:=ju (.own (U.map int))
  refine U3 (Z1:=[S0,S1,S2,S3,S4,SV,S6,S7,S8,S9,SU,jP]) (Zy (Ct (ZX (Zt (UH jv) ZP) hc2) (by rw[List.all_map,Jc];exact λ_ _=>rfl)) (Qa jv) jv) ?_
  let pH:D->Bool:=λd=>match d with | .int t=>decide (ws.getD t.toNat jw=o) && !(U.contains t)|_=>jy
  let N:jK:=(Up ws.length).filter λi=>pH (.int (0+(i:Int)))
  have hN:∀i∈N,i<ws.length:=λi hi=>Je.mp (Uc.mp hi).1
  have hc3:KB (gN 12) (KH (UJ oEq (UR 1 (UE 12)) (UE 9)) (KL Zn 12 (UE 10))) (UE 12) (Zv 0 ws.length) (K7 [S0,S1,S2,S3,S4,SV,S6,S7,S8,S9,SU,jP]++Uq 1 jw) []=ju ((N.map λi:Nat=>(i:Int)).map int):=by
   rw[X7 pH (λd=>d) (λZ=>∃y11 x,Z=[S0,S1,S2,S3,S4,pb (.list (V.map UQ)),S6,S7,S8,S9,pb (.list (U.map int)),y11,x])]
   .rw[JD,List.map_id',Zv,List.filter_map,Jb]
    show ju (List.map _ (List.filter _ (Up ((ws.length:Int)-0).toNat)))=_;rw[Int.sub_zero,Q0]
    congr 1
    refine List.map_congr_left λi _=>?_;show int (0+(i:Int))=.int (i:Int);rw[JS]
   .rintro d hm Z ⟨y11,x,rfl⟩
    obtain⟨i,hi⟩:=List.mem_iff_getElem?.mp hm;obtain⟨rfl,jT⟩:=XN hi;rw[JS];have hiw:i<ws.length:=by omega
    have hw':ws[i]?=ju ws[i]:=Qe hiw;have hix:oIx (U6 ws) (.int ((i:Nat):Int))=ju (UO ws[i]):=KE (by rw[Qf,hw'];rfl)
    have hp:pH (.int (i:Int))=(decide (ws[i]=o) && !(U.contains (i:Int))):=by
     show(decide (ws.getD ((i:Int)).toNat jw=o)&&_)=_
     rw[Q0,XY hw']
    refine⟨_,UY (Qa jv) jv,?_,λ_=>UH jv,_,_,rfl⟩;rw[hp];exact Rh (US (Kk jv (UH jv) hix) (UH jv) W7) λ_=>K8 jv (UH jv) (by unfold Zn;rw[WW];rfl)
   .exact⟨_,jw,rfl⟩
   .rw[YJ,QM];omega
  let SH:Option Sl:=ju (.own ((N.map λi:Nat=>(i:Int)).map int))
  let R:UF:=[S0,S1,S2,S3,S4,SV,S6,S7,S8,S9,SU,SH]
  refine U3 (Z1:=R) (Zy (Mu (XZ (UK (Kz jv jM) UP) (X6 (by omega) (by omega))) hc3 (by rw[List.all_map,Jc];exact λ_ _=>rfl)) (Qa jv) jv) ?_;apply Kg;refine Kd (b:=isNon (UO o) || ((N.map λi:Nat=>(i:Int)).isEmpty || decide (z2<9))) (Z1:=R) (Tk (Kr (k:=isNon) (UH jv)) λ_=>Tk (RH jv (KQ UP (Qa jv)) jv GP) λ_=>US (Kk jv (US UN (US UN (UH jv) (Xl (by decide) (by decide))) KI) hd2) UN Xe) (λz=>Kc (Z8 jv jv) (KO (YF (KO ⟨_,rfl,V,rfl,(λe=>by rw[e]at hVl;cases hVl),by omega,hV⟩)))) λz=>Ko (Kj ?_)
  rw[JB,JB]at z;have hN0:N.length≠0:=λe=>by rw[List.length_eq_zero_iff.mp e]at z;cases z.2.1
  have hn0:0<=z2 % (N.length:Int):=Jw _ (by omega);have hn1:z2 % (N.length:Int)<N.length:=Jf _ (by omega);obtain⟨i,hi⟩:∃i:Nat,z2 % (N.length:Int)=i:=⟨(z2 % (N.length:Int)).toNat,by omega⟩
  have jT:i<N.length:=by omega
  have hixN:oIx (.list ((N.map λi:Nat=>(i:Int)).map int)) (.int (z2 % (N.length:Int)))=ju (.int ((N[i]:Nat):Int)):=by rw[hi];exact KE (by rw[Qf,Qf,Qe jT];rfl)
  refine ZD (Kl (Xf jv (US (Kk jv (US UN (US UN (UH jv) (Xl (by decide) (by decide))) KI) hd2) (NX jv) (by rw[Qb,Qb];exact Z7 (by omega))) jv hixN) (Qa jv) jv) (Zh ⟨V,N[i],S7,S8,S9,SU,SH,rfl,hVl,hN _ (Q5 jT),hV⟩)
 case hend=>rintro Z ⟨W,a,x7,x8,x9,kj,jP,rfl,xE,ha,hW⟩;rw[YJ]at xE;have xE:W.length=7:=xE;exact Kj (Kc (Z8 rfl rfl) ⟨_,rfl,W,rfl,(λe=>by rw[e]at xE;cases xE),by omega,hW⟩)
end
section
variable{cs:jA}{ls:L3}{ws:LO}{W:List (Nat×jD)}
theorem K0{a t:D}(h:t.canLay0=jx/\t.depth<=60):SmI (.tuple [a,t]):=λa' t' e=>by injection e with e;injection e with _ e;injection e with e;rw[←e];exact h
theorem TB{x:D}(h:∀a t,x≠.tuple [a,t]):SmI x:=λa t e=>absurd e (h a t)
theorem smO(o:jD):(UO o).canLay0=jx/\(UO o).depth<=60:=by cases o<;>exact⟨rfl,by simp[UO,Uw]⟩
theorem smOl(o:jD):(Ur [UO o]).canLay0=jx/\(Ur [UO o]).depth<=60:=by cases o<;>exact⟨rfl,by simp[UO,Uw,PyData.depthAll]⟩
theorem Wb(i:Int):(int i).canLay0=jx/\(int i).depth<=60:=⟨rfl,by simp[Uw]⟩
theorem smT(p:Nat×jD):SmI (UQ p):=K0 (smO p.2)
def YV(d:D):Prop:=∀xs,d=.list xs->xs.length<=1000/\∀x∈xs,SmI x
theorem Mo{xs:jz}(h1:xs.length<=1000)(h2:∀x∈xs,SmI x):YV (.list xs):=λys e=>by injection e with e;rw[←e];exact⟨h1,h2⟩
theorem smW{V:List (Nat×jD)}:∀x∈V.map UQ,SmI x:=λx hx=>by obtain⟨p,_,rfl⟩:=Qu.mp hx;exact smT p
theorem qQ(kt:W≠[])(xK:W.length<=7)(hW:∀p∈W,p.1<ws.length)(hws:ws.length<=7){n:Int}(hn:0<=n):∃r,Wq [.list (W.map UQ),U6 ws,.int n]=ju r/\YV r:=by
 have hpos:0<W.length:=List.length_pos_iff.mpr kt
 let S0:Option Sl:=ju (.pub (.list (W.map UQ)))
 let S1:Option Sl:=ju (.pub (U6 ws))
 let S2:Option Sl:=ju (.pub (.int n))
 refine XI (Z:=[S0,S1,S2,jw,jw,jw,jw,jw,jw]) jv ?_;unfold Vv;have hlen:U5 [.list (W.map UQ)]=ju (.int W.length):=by rw[K1,Qb]
 have jM:U5 [U6 ws]=ju (.int ws.length):=by unfold U6;rw[K1,Qb]
 have h0:0<=n % (W.length:Int):=Jw _ (by omega);have h1:n % (W.length:Int)<W.length:=Jf _ (by omega);obtain⟨a,ha⟩:∃a:Nat,n % (W.length:Int)=a:=⟨(n % (W.length:Int)).toNat,by omega⟩
 have hal:a<W.length:=by omega
 let S3:Option Sl:=ju (.pub (.int (a:Nat)))
 refine U3 (Z1:=[S0,S1,S2,S3,jw,jw,jw,jw,jw]) (Kl (US (UH jv) (Kz jv hlen) (by rw[Z7 (by omega),ha])) (Qa jv) jv) ?_;have hWa:W[a]?=ju W[a]:=Qe hal;have hix:oIx (.list (W.map UQ)) (.int ((a:Nat):Int))=ju (UQ W[a]):=KE (by rw[Qf,hWa];rfl);have jT:(W[a]).1<ws.length:=hW _ (Q5 hal);generalize W[a]=q at hix jT;obtain⟨i,o⟩:=q;have jT:i<ws.length:=jT
 let S4:Option Sl:=ju (.pub (.int (i:Nat)))
 let S5:Option Sl:=ju (.pub (UO o))
 refine U3 (Z1:=[S0,S1,S2,S3,S4,S5,jw,jw,jw]) (WN (Kk jv (UH jv) hix) (KF jv (U4 (UY (Qa jv) jv) (U4 (UY (Qa jv) jv) KG)))) ?_;have h2:0<=n / 7 % 8:=Jw _ (by decide);have h3:n / 7 % 8<8:=Jf _ (by decide);generalize hpl:n / 7 % 8=pl at h2 h3
 let S6:Option Sl:=ju (.pub (.int pl))
 refine U3 (Z1:=[S0,S1,S2,S3,S4,S5,S6,jw,jw]) (Kl (US (US (UH jv) UN (Rs (by decide) (by decide))) UN (by rw[Z7 (by decide),hpl])) (Qa jv) jv) ?_;have hstr:=EQ (i:=(i:Int)) (by omega) (by omega);have hw:ws[i]?=ju ws[i]:=Qe jT;have xq:oIx (U6 ws) (.int ((i:Nat):Int))=ju (UO ws[i]):=KE (by rw[Qf,hw];rfl)
 let I:D:=.int (i:Nat)
 let O:D:=UO o
 let T1:jz:=[.tuple [I],.tuple [I,O,.int 0],.list [I,O],.tuple [O,I],.tuple [.bool jx,O],.tuple [I,.bool jy],.tuple [.str (toString (i:Int)),O]]
 let T2:jz:=[.tuple [.int (-1),O],.tuple [.int ws.length,O],.tuple [I,.int (-1)],.tuple [I,.int 6],.tuple [I,.none],.tuple [I,UO ws[i]]]
 have hm2:0<=pl % 2:=Jw _ (by decide);have hm3:pl % 2<2:=Jf _ (by decide)
 obtain⟨X,hX⟩:∃X,oIx (.list [.tuple [I],.list [I]]) (.int (pl % 2))=ju X:=by
  have:pl % 2=0∨pl % 2=1:=by omega
  rcases this with e|e<;>rw[e]<;>exact⟨_,rfl⟩
 let T3:jz:=[.tuple [.int (pl % (ws.length:Int)),O],.tuple [I,.int pl],.none,I,.str "", .tuple [I,.list [O]],.tuple [X,O]]
 have smo:=smO o
 have hT:∀x∈T1++T2++T3,SmI x:=λx hx=>by
  rcases QO.mp hx with hx|hx
  .rcases QO.mp hx with hx|hx
   .rcases Ql.mp hx with rfl|hx
    .exact TB λ_ _ e=>by injection e with e;injection e with _ e;cases e
    rcases Ql.mp hx with rfl|hx
    .exact TB λ_ _ e=>by injection e with e;injection e with _ e;injection e with _ e;cases e
    rcases Ql.mp hx with rfl|hx
    .exact TB λ_ _ e=>by cases e
    rcases Ql.mp hx with rfl|hx
    .exact K0 (Wb _)
    rcases Ql.mp hx with rfl|hx
    .exact K0 smo
    rcases Ql.mp hx with rfl|hx
    .exact K0 ⟨rfl,by simp[Uw]⟩
    .cases Qy.mp hx
     exact K0 smo
   .rcases Ql.mp hx with rfl|hx
    .exact K0 smo
    rcases Ql.mp hx with rfl|hx
    .exact K0 smo
    rcases Ql.mp hx with rfl|hx
    .exact K0 (Wb _)
    rcases Ql.mp hx with rfl|hx
    .exact K0 (Wb _)
    rcases Ql.mp hx with rfl|hx
    .exact K0 (smO jw)
    .cases Qy.mp hx
     exact K0 (smO _)
  .rcases Ql.mp hx with rfl|hx
   .exact K0 smo
   rcases Ql.mp hx with rfl|hx
   .exact K0 (Wb _)
   rcases Ql.mp hx with rfl|hx
   .exact TB λ_ _ e=>by cases e
   rcases Ql.mp hx with rfl|hx
   .exact TB λa t (e:int (i:Nat)=.tuple [a,t])=>by cases e
   rcases Ql.mp hx with rfl|hx
   .exact TB λ_ _ e=>by cases e
   rcases Ql.mp hx with rfl|hx
   .exact K0 (smOl o)
   .cases Qy.mp hx
    exact K0 smo
 refine U3 (Z1:=[S0,S1,S2,S3,S4,S5,S6,ju (.own T1),jw]) (Zy (XU (UK (Zs (UK (UH jv) UP) (Qa jv)) (UK (Zs (UK (UH jv) (UK (UH jv) (UK UN UP))) (Qa jv)) (UK (KQ (UK (UH jv) (UK (UH jv) UP)) (Qa jv)) (UK (Zs (UK (UH jv) (UK (UH jv) UP)) (Qa jv)) (UK (Zs (UK UN (UK (UH jv) UP)) (Qa jv)) (UK (Zs (UK (UH jv) (UK UN UP)) (Qa jv)) (UK (Zs (UK (ZB (UK (UH jv) UP) hstr) (UK (UH jv) UP)) (Qa jv)) UP))))))) (Qa jv)) (Qa jv) jv) ?_;refine U3 (Z1:=[S0,S1,S2,S3,S4,S5,S6,pb (.list (T1++T2)),jw]) (Kl (US (Z8 jv jv) (KQ (UK (Zs (UK (XJ UN) (UK (UH jv) UP)) (Qa jv)) (UK (Zs (UK (Kz jv jM) (UK (UH jv) UP)) (Qa jv)) (UK (Zs (UK (UH jv) (UK (XJ UN) UP)) (Qa jv)) (UK (Zs (UK (UH jv) (UK UN UP)) (Qa jv)) (UK (Zs (UK (UH jv) (UK UN UP)) (Qa jv)) (UK (Zs (UK (UH jv) (UK (Kk jv (UH jv) xq) UP)) (Qa jv)) UP)))))) (Qa jv)) (Ys (Qa jv))) (Qa jv) jv) ?_;refine U3 (Z1:=[S0,S1,S2,S3,S4,S5,S6,pb (.list (T1++T2++T3)),jw]) (Kl (US (UH jv) (KQ (UK (Zs (UK (US (UH jv) (Kz jv jM) (Z7 (by omega))) (UK (UH jv) UP)) (Qa jv)) (UK (Zs (UK (UH jv) (UK (UH jv) UP)) (Qa jv)) (UK UN (UK (UH jv) (UK UN (UK (Zs (UK (UH jv) (UK (KQ (UK (UH jv) UP) (Qa jv)) UP)) (Qa jv)) (UK (Zs (UK (US (KQ (UK (Zs (UK (UH jv) UP) (Qa jv)) (UK (KQ (UK (UH jv) UP) (Qa jv)) UP)) (Qa jv)) (US (UH jv) UN (Z7 (by decide))) hX) (UK (UH jv) UP)) (Qa jv)) UP))))))) (Qa jv)) (Ys (Qa jv))) (Qa jv) jv) ?_;have hTl:(T1++T2++T3).length=20:=rfl;generalize T1++T2++T3=T at hT hTl
 have cl:∀l u,(DL.cutD (W.map UQ) l u).length<=7:=λl u=>by
  have:(DL.cutD (W.map UQ) l u).length<=(W.map UQ).length:=by unfold DL.cutD;rw[Jh,JG];omega
  rw[Qb]at this;omega
 have cs':∀l u,∀x∈DL.cutD (W.map UQ) l u,SmI x:=λl u x hx=>smW x (by unfold DL.cutD at hx;exact List.mem_of_mem_drop (JW hx))
 have ap:∀{x y:jz},x.length<=8->y.length<=8->UU (.list x) (.list y)=ju (.list (x++y)):=λh1 h2=>Ys (by omega)
 have apl:∀{x y:jz},(∀z∈x,SmI z)->(∀z∈y,SmI z)->∀z∈x++y,SmI z:=λh1 h2 z hz=>(QO.mp hz).elim (h1 z) (h2 z);have okl:∀{x:jz},x.length<=30->(∀z∈x,SmI z)->YV (.list x):=λh1 h2=>Mo (by omega) h2
 obtain⟨A,la,sa,eA⟩:∃A:jz,A.length<=7/\(∀x∈A,SmI x)/\∀{Z:UF},Z[0]?=ju S0->Z[3]?=ju S3->KD (UE 0) (UL jw) (UZ (UE 3) λx=>UW (Zf x)) Z=.ok (.list A) Z:=⟨_,cl _ _,cs' _ _,λr0 r3=>WR (UH r0) UN (Yr (UH r3)) WZ⟩
 obtain⟨A1,la1,sa1,eA1⟩:∃A:jz,A.length<=7/\(∀x∈A,SmI x)/\∀{Z:UF},Z[0]?=ju S0->Z[3]?=ju S3->KD (UE 0) (UL jw) (UZ (UJ UU (UE 3) (UL (.int 1))) λx=>UW (Zf x)) Z=.ok (.list A) Z:=⟨_,cl _ _,cs' _ _,λr0 r3=>WR (UH r0) UN (Yr (US (UH r3) UN KI)) WZ⟩
 obtain⟨B,lb,sb,eB⟩:∃A:jz,A.length<=7/\(∀x∈A,SmI x)/\∀{Z:UF},Z[0]?=ju S0->Z[3]?=ju S3->KD (UE 0) (UZ (UE 3) λx=>UW (Zf x)) (UL jw) Z=.ok (.list A) Z:=⟨_,cl _ _,cs' _ _,λr0 r3=>WR (UH r0) (Yr (UH r3)) UN WZ⟩
 obtain⟨B1,lb1,sb1,eB1⟩:∃A:jz,A.length<=7/\(∀x∈A,SmI x)/\∀{Z:UF},Z[0]?=ju S0->Z[3]?=ju S3->KD (UE 0) (UZ (UJ UU (UE 3) (UL (.int 1))) λx=>UW (Zf x)) (UL jw) Z=.ok (.list A) Z:=⟨_,cl _ _,cs' _ _,λr0 r3=>WR (UH r0) (Yr (US (UH r3) UN KI)) UN WZ⟩
 let fx:D->D:=λx=>.list (A++[x]++B1)
 have hc:KB (gN 9) (UL jx) (UJ UU (UJ UU (KD (UE 0) (UL jw) (UZ (UE 3) λx=>UW (Zf x))) (U2 (UI (UE 9) (UG)))) (KD (UE 0) (UZ (UJ UU (UE 3) (UL (.int 1))) λx=>UW (Zf x)) (UL jw))) T (Kf [S0,S1,S2,S3,S4,S5,S6,pb (.list T),jw]++Uq 1 jw) []=ju (T.map fx):=by refine Y5 (λZ=>∃x,Z=[S0,S1,S2,S3,S4,S5,S6,pb (.list T),jw,x]) _ _ _ _ (by rw[Qb]) ?_ ⟨jw,rfl⟩ (by rw[hTl];decide);rintro j y e hj he Z ⟨x,rfl⟩;rw[Qf,hj]at he;cases he;exact⟨_,UY (Qa jv) jv,rfl,US (US (eA jv jv) (KQ (UK (UH jv) UP) (Qa jv)) (ap (by omega) (Qa jv))) (eB1 jv jv) (Ys (by rw[Qi,QQ];omega)),_,rfl⟩
 have hfl:(T.map fx).length=20:=by rw[Qb,hTl]
 have hfT:∀x∈T.map fx,YV x:=λx hx=>by obtain⟨y,hy,rfl⟩:=Qu.mp hx;exact okl (by rw[Qi,Qi,QQ];omega) (apl (apl sa λz hz=>by cases Qy.mp hz;exact hT y hy) sb1)
 generalize T.map fx=F at hc hfl hfT
 let R:UF:=[S0,S1,S2,S3,S4,S5,S6,pb (.list T),ju (.own F)]
 refine U3 (Z1:=R) (Zy (ZX (Zt (UH jv) ZP) hc) (Qa jv) jv) ?_
 let C1:jz:=[.list (A++B1),.list (A1++B),.list (W.map UQ).reverse,.list (B++A),.list A1]
 let D1:jz:=F++C1
 refine U3 (Z1:=[S0,S1,S2,S3,S4,S5,S6,pb (.list T),pb (.list D1)]) (Kl (US (Z8 jv jv) (KQ (UK (US (eA jv jv) (eB1 jv jv) (ap (by omega) (by omega))) (UK (US (eA1 jv jv) (eB jv jv) (ap (by omega) (by omega))) (UK (R7 (UH jv) UN UN (Yr (XJ UN))) (UK (US (eB jv jv) (eA jv jv) (ap (by omega) (by omega))) (UK (eA1 jv jv) UP))))) (Qa jv)) (Ys (by rw[hfl];show 20+5<=_;omega))) (Qa jv) jv) ?_
 let C2:jz:=[.list (W.map UQ++[.tuple [.int (pl % (ws.length:Int)),.none]]),.list ([.tuple [.int (pl % (ws.length:Int)),O]]++W.map UQ),.tuple (W.map UQ),.none]
 let D2:jz:=D1++C2
 have lw:(W.map UQ).length<=8:=by rw[Qb];omega
 refine U3 (Z1:=[S0,S1,S2,S3,S4,S5,S6,pb (.list T),pb (.list D2)]) (Kl (US (UH jv) (KQ (UK (US (UH jv) (KQ (UK (Zs (UK (US (UH jv) (Kz jv jM) (Z7 (by omega))) (UK UN UP)) (Qa jv)) UP) (Qa jv)) (ap lw (Qa jv))) (UK (US (KQ (UK (Zs (UK (US (UH jv) (Kz jv jM) (Z7 (by omega))) (UK (UH jv) UP)) (Qa jv)) UP) (Qa jv)) (UH jv) (ap (Qa jv) lw)) (UK (ZB (UK (UH jv) UP) jv) (UK UN UP)))) (Qa jv)) (Ys (by rw[Qi,hfl];show 20+5+4<=_;omega))) (Qa jv) jv) ?_;have sw:∀x∈W.map UQ,SmI x:=smW
 have hD:∀x∈D2++[Ur [],.dict []],YV x:=λx hx=>by
  rcases QO.mp hx with hx|hx
  .rcases QO.mp hx with hx|hx
   .rcases QO.mp hx with hx|hx
    .exact hfT x hx
    .rcases Ql.mp hx with rfl|hx
     .exact okl (by rw[Qi];omega) (apl sa sb1)
     rcases Ql.mp hx with rfl|hx
     .exact okl (by rw[Qi];omega) (apl sa1 sb)
     rcases Ql.mp hx with rfl|hx
     .exact okl (by rw[Ju];omega) λz hz=>sw z (J7.mp hz)
     rcases Ql.mp hx with rfl|hx
     .exact okl (by rw[Qi];omega) (apl sb sa)
     .cases Qy.mp hx
      exact okl (by omega) sa1
   .rcases Ql.mp hx with rfl|hx
    .exact okl (by rw[Qi,QQ];omega) (apl sw λz hz=>by cases Qy.mp hz;exact K0 (smO jw))
    rcases Ql.mp hx with rfl|hx
    .exact okl (by rw[Qi,QQ];omega) (apl (λz hz=>by cases Qy.mp hz;exact K0 smo) sw)
    rcases Ql.mp hx with rfl|hx
    .exact λ_ e=>by cases e
    .cases Qy.mp hx
     exact λ_ e=>by cases e
  .rcases Ql.mp hx with rfl|hx
   .exact okl (by decide) λz hz=>by cases hz
   .cases Qy.mp hx
    exact λ_ e=>by cases e
 have k0:0<=n / 61 % 31:=Jw _ (by decide);have k1:n / 61 % 31<31:=Jf _ (by decide);obtain⟨k,hk⟩:∃k:Nat,n / 61 % 31=k:=⟨(n / 61 % 31).toNat,by omega⟩
 have hDl:(D2++[Ur [],.dict []]).length=31:=by rw[Qi,Qi,Qi,hfl];rfl
 have kJ:k<(D2++[Ur [],.dict []]).length:=by omega
 have kr:oIx (.list (D2++[Ur [],.dict []])) (.int (n / 61 % 31))=ju ((D2++[Ur [],.dict []])[k]):=by rw[hk];exact KE (Qe kJ)
 exact Kc (US (US (UH jv) (KQ (UK (KQ UP (Qa jv)) (UK UN UP)) (Qa jv)) (Ys (by rw[Qi,Qi,hfl];show 20+5+4+2<=_;omega))) (US (US (UH jv) UN (Rs (by decide) (by decide))) UN (Z7 (by decide))) kr) ⟨_,rfl,hD _ (Q5 kJ)⟩
theorem Fq{d:D}(h:∀W:List (Nat×jD),W≠[]->d≠.list (W.map UQ)):¬IsW cs ls ws d:=λ⟨W,e,hW⟩=>h W hW.ne e
theorem Lh(g:Good cs ls)(hd:XX cs (Kt 0 ls) ls.length ws){d:D}(hs:∀xs,d=.list xs->xs.length<=1000)(h:¬IsW cs ls ws d):YX [Ke cs ls,U6 ws,d]=ju (.bool jx):=by
 obtain⟨b,hb,hi⟩:=Li g hd.len hs;cases b with
 |true=>exact absurd (hi.mp jv) h
 |false=>exact AT hb
theorem Cu:∀ns:jA,ns.length<=63->Wm [.list (ns.map int)]=ju (.bool jx):=by
 intro ns hns
 let S0:Option Sl:=ju (.pub (.list (ns.map int)))
 refine K3 (Z:=[S0,jw,jw,jw,jw,jw,jw,jw,jw]) jv ?_;unfold Vr;obtain⟨r,hr,cs,ls,rfl,g,_⟩:=ja 6 7 5 (ns:=ns) (by omega) 0;have l7:=g.l7
 let S1:Option Sl:=ju (.pub (Ke cs ls))
 refine U3 (Z1:=[S0,S1,jw,jw,jw,jw,jw,jw,jw]) (Kl (Kb (UK (UH jv) (UK UN (UK UN (UK UN (UK UN UP))))) jv hr) (Qa jv) jv) ?_;obtain⟨v8,hv8⟩:=RS ns 8 (by omega);obtain⟨r,hd0,ws,rfl,dl⟩:=A0 g v8 8
 let S2:Option Sl:=ju (.pub (U6 ws))
 have hd:=Ca dl;have jU:=dl.len;refine U3 (Z1:=[S0,S1,S2,jw,jw,jw,jw,jw,jw]) (Kl (Kb (UK (UH jv) (UK (Kb (UK (UH jv) (UK UN UP)) jv hv8) (UK UN UP))) jv hd0) (Qa jv) jv) ?_;apply Kg;apply Zu (ds:=[.none,.list [],.tuple [],.dict [],.str "way", .int 0]) (λ_ Z=>∃x,Z=[S0,S1,S2,x,jw,jw,jw,jw,jw])
 case h1=>exact Zt (KQ (UK UN (UK (KQ UP (Qa jv)) (UK (Zs UP (Qa jv)) (UK UN (UK UN (UK UN UP)))))) (Qa jv)) ZP
 case h0=>exact⟨_,rfl⟩
 case hst=>
  rintro i d Z hi ⟨x,rfl⟩
  have hno:(∀xs,d=.list xs->xs.length<=1000)/\¬IsW cs ls ws d:=by
   have hm:=Qp hi;refine⟨λxs e=>?_,Fq λW hW e=>?_⟩
   .rw[e]at hm
    rcases Ql.mp hm with z|hm
    .cases z
    rcases Ql.mp hm with z|hm
    .injection z with z;rw[z];decide
    rcases Ql.mp hm with z|hm
    .cases z
    rcases Ql.mp hm with z|hm
    .cases z
    rcases Ql.mp hm with z|hm
    .cases z
    .cases Qy.mp hm
   .rw[e]at hm
    rcases Ql.mp hm with z|hm
    .cases z
    rcases Ql.mp hm with z|hm
    .injection z with z;exact hW (List.map_eq_nil_iff.mp z)
    rcases Ql.mp hm with z|hm
    .cases z
    rcases Ql.mp hm with z|hm
    .cases z
    rcases Ql.mp hm with z|hm
    .cases z
    .cases Qy.mp hm
  refine⟨_,UY (Qa jv) jv,?_⟩;unfold Nr;exact Kd (b:=jy) (Zr (ZC (t:=jx) (Kb (UK (UH jv) (UK (UH jv) (UK (UH jv) UP))) jv (Lh g hd hno.1 hno.2)))) (λz=>by cases z) λ_=>Ko (Zh ⟨_,rfl⟩)
 case hend=>
  rintro Z ⟨x3,rfl⟩;refine Kj ?_;obtain⟨v0,hv0⟩:=RS ns 0 (by omega);apply Kg;apply Zu (λ_ Z=>∃x3 x4 x5 x6 x7 x8,Z=[S0,S1,S2,x3,x4,x5,x6,x7,x8])
  case h1=>exact WU (UK (US (KQ (UK (Kb (UK (UH jv) (UK UN UP)) jv hv0) UP) (Qa jv)) (WR (UH jv) (Yr UN) (Yr UN) WZ) (CL (by omega))) UP) W0
  case h0=>exact⟨_,_,_,_,_,_,rfl⟩
  case hst=>
   rintro i d Z hi ⟨x3,x4,x5,x6,x7,x8,rfl⟩;obtain⟨x,hx,rfl⟩:=XQ hi;obtain⟨c,rfl⟩:=CM hx;rw[Jr];refine⟨_,KF jv (U4 (UY (Qa jv) jv) (U4 (UY (Qa jv) jv) KG)),?_⟩;unfold Nt
   let S4:Option Sl:=ju (.pub (.int (i:Nat)))
   let S5:Option Sl:=ju (.pub (.int c))
   obtain⟨r,hch,W,rfl,kt,xK,hW⟩:=AR g jU c (20+(i:Nat))
   let S6:Option Sl:=ju (.pub (.list (W.map UQ)))
   refine U3 (Z1:=[S0,S1,S2,x3,S4,S5,S6,x7,x8]) (Kl (Kb (UK (UH jv) (UK (UH jv) (UK (UH jv) (UK (US UN (UH jv) KI) UP)))) jv hch) (Qa jv) jv) ?_;obtain⟨r,ha,o,old,ts,rfl,ga⟩:=BD g c (60+(i:Nat))
   let S7:Option Sl:=ju (.pub (KN o old ts))
   refine U3 (Z1:=[S0,S1,S2,x3,S4,S5,S6,S7,x8]) (Kl (Kb (UK (UH jv) (UK (UH jv) (UK (US UN (UH jv) KI) UP))) jv ha) (Qa jv) jv) ?_;obtain⟨r,hnum,dg,rfl,hdl,hdb⟩:=TQ c (100+(i:Nat)) (sizes:=[61*31*8]) (by decide) (by decide)
   obtain⟨z,rfl⟩:∃z,dg=[z]:=by
    rcases dg with _|⟨z,_|⟨y,r⟩⟩
    .cases hdl
    .exact⟨z,rfl⟩
    .cases hdl
   have hz:=hdb 0 z _ jv jv
   let S8:Option Sl:=ju (.pub (.int (z+7*(i:Nat))))
   refine U3 (Z1:=[S0,S1,S2,x3,S4,S5,S6,S7,S8]) (Kl (US (US (Kb (UK (UH jv) (UK (US UN (UH jv) KI) (UK (KQ (UK (US (US UN UN (Xl (by decide) (by decide))) UN (Xl (by decide) (by decide))) UP) (Qa jv)) UP))) jv hnum) UN (show oIx (.list ([z].map int)) (.int 0)=ju (.int z)from rfl)) (US UN (UH jv) (Xl (by decide) (by decide))) KI) (Qa jv) jv) ?_;obtain⟨B,hB,hBo⟩:=qQ kt xK hW (by omega) (n:=z+7*(i:Nat)) (by omega);apply Zu (ds:=[.list (W.map UQ),B]) (λ_ Z=>∃x3,Z=[S0,S1,S2,x3,S4,S5,S6,S7,S8])
   case h1=>exact Zt (KQ (UK (UH jv) (UK (Kb (UK (UH jv) (UK (UH jv) (UK (UH jv) UP))) jv hB) UP)) (Qa jv)) ZP
   case h0=>exact⟨_,rfl⟩
   case hst=>
    rintro j d Z hj ⟨y3,rfl⟩
    have hok:YV d:=by
     rcases Ql.mp (Qp hj)with rfl|hm
     .exact Mo (by rw[Qb];omega) smW
     .cases Qy.mp hm
      exact hBo
    refine⟨_,UY (Qa jv) jv,?_⟩;unfold Nu;obtain⟨b,hb,hib⟩:=qR g hd.len hok;refine Kd (b:=!b) (Z1:=[S0,S1,S2,pb d,S4,S5,S6,S7,S8]) (Zr (ZC (Kb (UK (UH jv) (UK (UH jv) (UK (UH jv) UP))) jv hb))) (λhz=>?_) λhz=>?_
    .exact Kd (b:=jy) (Zr (ZC (t:=jx) (Kb (UK (UH jv) (UK (UH jv) (UK (UH jv) UP))) jv (Lh g hd (λxs e=>(hok xs e).1) λh=>by rw[hib.mpr h]at hz;cases hz)))) (λz=>by cases z) λ_=>Ko (Zh ⟨_,rfl⟩)
    .rw[JK]at hz
     obtain⟨U,rfl,hU⟩:=hib.mp hz;exact Kd (b:=jy) (Zr (ZC (t:=jx) (Kb (UK (UH jv) (UK (UH jv) (UK (UH jv) (UK (UH jv) UP)))) jv (Cv g ga hd hU)))) (λz=>by cases z) λ_=>Ko (Zh ⟨_,rfl⟩)
   case hend=>rintro Z ⟨y3,rfl⟩;exact Zh ⟨_,_,_,_,_,_,rfl⟩
  case hend=>rintro Z ⟨x3,x4,x5,x6,x7,x8,rfl⟩;exact Kj (Kc UN rfl)
end
end W
open PySem PySem.W PyProof.Rows
set_option maxRecDepth 100000 in
set_option maxHeartbeats 0 in
theorem PySem.Challenge.cw_wishdeal_k28_ways_done_holds : PySem.Challenge.rw_wishdeal_k28_ways_done.Holds := by
 w_on;o_law
 refine holds_open (q:=W.q0) (loose:=[]) (Xt:=λs=>xlAt W.q0 [] s&&recOk [] s) (XP:=XL W.q0 []) (Yf:=DL.xSeen W.clsL) (Ya:=λ_=>DL.xGood W.p0 W.clsL) (YP:=λ_ h=>DL.XYP W.p0 W.clsL h) (N:=9286) (d:=W.d_bs) (kwd:=[])
  W.He (λ_ _ e=>DL.GD e) (λ_ _ _ y k=>y.keeps k) (λs e=>xl_of s (Bool.and_eq_true_iff.mp e).1) XL.keeps (by rfl) (by rfl) (by rfl)
  (λs e=>recFacts_of (Bool.and_eq_true_iff.mp e).2) (by rfl) (by assumption) (by decide +kernel) ⟨rfl,rfl,rfl,rfl,rfl,by decide +kernel⟩ ?hw (W.walk W.Cu)
 case hw=>w_witness2


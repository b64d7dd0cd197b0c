import PyProof.Rows.All
import Wide.All
import OpenK.AllK
import Wide.FinOn
import Lean
import PyProof.EqAt
import PyProof.EqKinds
import PyProof.TupleCall
import PyProof.EnumMake
import PyProof.ZipIter
import PyProof.ExcClass2
import PyProof.ExcInit
import PyProof.ExcBaseAll.ValueError
import PyProof.FString2
import PyProof.ExcArgsOwn
import PyProof.InstStoreFacts
import ObjForm.Fk.InstStore
import ObjForm.Fk.InstLoad
import PyProof.StationsW
import PyProof.RulesAs
import PyProof.NsDelKeeps
import OpenK.KMore
import PyProof.IsiBase
import OpenK.KNot
import PyProof.Rows.RuleN_isinstance
import PyProof.NeData
import PyProof.P3In
import PyProof.StrWalks
import PyProof.ConsumeWalk
import PyProof.SliceStr2
import PyProof.MeetsStr
import KE.KItem
import KE.KUnpack
import KE.KRevSl
import PyProof.Rows.SetFrom
import PyProof.SetRoads
import PyProof.Rows.Range3
import PyProof.CallType
import PyProof.Rows.CallKwBuiltin
import PyProof.Rows.MinMaxN
import PyProof.SumWalkG
import PyProof.Rows.SeqMore
import PyProof.Rows.SortWalk
import PyProof.Rows.SumAny
import PyProof.Rows.SeqMore2
import KE.KSortTup
import PyProof.Rows.SortShellK
import PyProof.ReprRoads
import PyProof.ReprBulk
import PyProof.CallFns
import PyProof.NeKinds
import PyProof.Rows.StrJoinMade
import PyProof.StrCalls
import KE.KIntText
import PyProof.ReprDict
import PyProof.DictIter
import PyProof.Rows.DictUnroll
import PyProof.MeetsStr2
import PyProof.Rows.StrNews
import PyProof.StrLawsChain
import PyProof.Rows.StrItems
import PyProof.SeqRoads2
import PySem.Challenge.RW_wishdeal_k80_beside_one_another
set_option compiler.extract_closed false
set_option Elab.async false
set_option linter.all false
set_option maxRecDepth 100000
set_option maxHeartbeats 4000000
open Option renaming some→O,none→AW
open Bool renaming true→AX,false→AY
theorem AV.{u}{α:Sort u}{a:α}:a=a:=rfl
abbrev A1:=List Int
abbrev A8:=List Nat
abbrev A9:=Option Int
abbrev qb:=Option Bool
theorem Qa:type_of% @of_decide_eq_true:=@of_decide_eq_true
theorem Qp:type_of% @if_pos:=@if_pos
theorem Qy:type_of% @decide_eq_false:=@decide_eq_false
theorem Qz:type_of% @if_neg:=@if_neg
theorem QG:type_of% @decide_eq_true:=@decide_eq_true
theorem Q5:type_of% @decide_eq_true_eq:=@decide_eq_true_eq
theorem JA:type_of% @of_decide_eq_false:=@of_decide_eq_false
theorem J6:type_of% @congrArg:=@congrArg
theorem J9:type_of% @if_false:=@if_false
open PySem renaming wpAny_bind→Qb,wpAny_pure→Qi,wpAny_loadPart_at→Qk,wpAny_mono→QB,wpAny_isSubtype_exc→QH,wpAny_field→Q4,wpAny_truthy_bool→Q6,wpAny_standAt→Q7,wpAny_setField→Q8,mem_of_lookup→Ja,wpAny_holding→Jl,wpAny_Call_Name_kw→Jm,codeAny_call_builtin→Js,wpAny_execs_nil→Jw,codeAny_mono→Jy,sizeLine_eq→JC,wpAny_newObj_type→JD,Value→Ub,Shared→Uc,Program→Ud,Addr→Ue,FuncData→Uf,Expr→Ug,sizeLine→Uh,wpAny→Ui,starEach→Uj,compareOp→Uk,assignEach→Uz,foldedSetIterable→UA
open List renaming length_map→Qd,mem_cons_self→Qg,length_append→Qh,mem_cons_of_mem→Qj,getElem?_set_ne→Ql,getElem?_eq_getElem→Qm,mem_append_right→Qo,getElem?_eq_some_iff→Qr,mem_map→Qs,mem_append_left→Qu,getElem?_append_left→Qv,getElem?_append_right→Qx,getElem?_map→QC,mem_append→QE,getElem?_replicate→QF,nodup_append→QI,getElem?_set_self→QJ,length_cons→QK,mem_singleton→QL,mem_cons→QM,map_cons→QN,length_nil→QO,append_nil→QR,flatten_cons→QS,size_toArray→QT,lookup_cons→QU,length_set→QW,mem_of_getElem?→QX,length_replicate→QY,length_singleton→QZ,contains_cons→Q1,all_eq_true→Q2,map_append→Q3,replicate_succ→Jb,map_map→Jc,nodup_cons→Jf,append_assoc→Ji,pairwise_cons→Jo,mem_range→Jt,getElem?_eq_none→Jx,all_cons→JB,nil_append→JF,sublist_flatten_of_mem→JH,length_take→JI,drop_eq_getElem_cons→JJ,reverse_cons→JL,map_nil→JM,filter_eq_self→JQ,getElem?_cons_succ→JR,getElem_mem→JT,zip_cons_cons→JV,length_range→JW,length_drop→JY,take_length→J0,range→Ul,replicate→Um,Pairwise→Ux
open PySem.Heap renaming get?_push_of_some→Qe,lt_size→Qf,get?_update_other→Qn,get?_push_size→QD,get?_update_self→QP,size_push→Jq
open Nat renaming le_refl→Qq,le_trans→Qt,lt_of_lt_of_le→QA,ne_of_lt→QQ,le_of_not_lt→Q0,ne_of_gt→Jk,lt_irrefl→Jn,le_succ→Jr,zero_le→JX,le_of_lt→J7
open Bool renaming and_eq_true→Qw,false_eq_true→Jz,or_true→JZ,true_and→J8
open Array renaming getD_eq_getD_getElem?→Q9,getElem?_eq_some_iff→Jd,getElem?_setIfInBounds_ne→Jv,getElem?_eq_getElem→JK,length_toList→J4
open Option.some renaming inj→Je
open PySem.Obj renaming data_mapFields→Jg,isFreed_of_fields→Jh
open PySem.F renaming plainAttrs_list→Jj,slot_list_append→JO,type_list_append→JP
open PySem.W.Fast renaming te1987589406359920131→Jp
open PySem.W renaming kia_one→Ju,callWith_K→JU
open Int renaming toNat_natCast→JE,le_refl→JN,not_lt→Ua
open PyProof.Rows renaming callWith_type1→JG
open Option renaming getD_some→JS
open Array.Perm renaming refl→J5
open PySem.PyData renaming list→Uo,bool→Up,str→Uq,strOk→Ur,canLayAll0→Us,depth→Ut,eqv→Uu,shown→Uy
open PySem.PassesOwn renaming never→Uv
open PySem.Str renaming ofString→Uw
abbrev A0:=List Ub
abbrev A3:=Option Ub
abbrev A4:=List Ug
abbrev A5:=List Ue
abbrev qa:=Option Ue
abbrev L3:=List (List A1)
abbrev LO:=List A9
abbrev LP:=List (Int×Int)
open PySem.W (Frag)
open PySem.PyData (int)
open List (replicate)
namespace DL
open PySem PySem.Spec PySem.W PyProof.Rows
def topRunT(tb:String->Option Builtin)(p:Ud)(w:World)(m:Nat)(ann:A3):Nat->SharedT->Thread->Option SharedT
 |0,_,_=>AW
 |n+1,s,t=>match through t,stepOk m ann t with
  |true,_=>O s
  |false,AY=>AW
  |false,AX=>match stepT (denote tb) p w s t with
   |some x=>topRunT tb p w m ann n x.1 x.2
   |none=>AW
theorem NY{tb:String->Option Builtin}{p:Ud}{w:World}{m:Nat}{ann:A3}:∀{n:Nat}{s s':SharedT}{t:Thread},topRunT tb p w m ann n s t=O s'->topRun tb p w m ann n s.abs t=O s'.abs
 |0,_,_,_,h=>by cases h
 |n+1,s,s',t,h=>by
  rw[topRunT]at h;rw[topRun];cases ht:through t with
  |true=>rw[ht]at h;cases h;rfl
  |false=>
   rw[ht]at h;cases hk:stepOk m ann t with
   |false=>rw[hk]at h;cases h
   |true=>
    rw[hk]at h;dsimp only at h⊢;cases hs:stepT (denote tb) p w s t with
    |none=>rw[hs]at h;cases h
    |some x=>rw[hs]at h;rw[stepT_spec hs];exact NY h
def btOf(l:List Obj):BT:=(l.foldl (λ(x:BT×Nat) o=>(x.1.ins x.2 o,x.2+1)) (.nil,0)).1
noncomputable def T0 (w:World) (os:OsState):SharedT:=⟨btOf (boot_heap w.params).objs.toList,11,(boot_heap w.params).life,#[],boot_drawn,boot_toks,os⟩
theorem Cm(w:World)(os:OsState):(T0 w os).abs=⟨boot_heap w.params,#[],boot_drawn,boot_toks,os⟩:=by kernel_rfl
theorem BN(w:World):((boot_heap w.params).isNs mainGlobals&&(#[]:Array GenState).size==0,(boot_heap w.params).objs.size,(boot_heap w.params).nsMap mainGlobals "__annotations__")=(AX,11,O (.ref 6)):=by kernel_rfl
noncomputable abbrev Hv (p q:Ud) (loose:List Str) (Xt:Uc->Bool) (w:World) (t:SharedT):=
 ((staticsOk (importedModules p.main.body) (boot_heap w.params) t.abs.heap&&namesBound p t.abs.heap&&gensDone t.abs&&laidKept (boot_heap w.params) t.abs.heap),openSeen q loose (importedModules p.main.body) Xt AX t.abs)
abbrev VB0:A0:=[.type "ValueError", .type "Exception", .type "BaseException", .type "object"]
def SW:List Str:=["__setattr__", "__getattribute__", "__getattr__", "__class__", "part", "number", "row"]
def X8(nm:Str):Str:=nm ++ "." ++ "__init__"
def xB(h:Heap)(nm:Str)(own:Bool):Bool:=match h.nsMap mainGlobals nm with
 |some (.ref C)=>(match h.get? C with
  |some ⟨.type t,_,.cls cd,sl⟩=>(t == "type")&&(cd.name==nm)&&cd.hasDict && !cd.hasDel&&(match sl.toList with | [_,_,_,_,k4,_]=>decide (k4=O (.builtin "ValueError.__new__"))|_=>AY)&&h.isNs cd.ns&&(SW.all λx=>(h.nsMap cd.ns x).isNone)&&(own || (h.nsMap cd.ns "__init__").isNone) &&
   (if nm = "DealError" then decide (cd.mro=.ref C::VB0)else match h.nsMap mainGlobals "DealError" with|some (.ref D)=>decide (cd.mro=.ref C::.ref D::VB0)|_=>AY)
  |_=>AY)
 |_=>AY
def xSh(h:Heap)(nm:Str):Option (Bool×FnShape):=match h.nsMap mainGlobals nm with
 |some (.ref C)=>(match h.get? C with
  |some ⟨_,_,.cls cd,_⟩=>(match h.fnAt cd.ns "__init__", h.shapeAt cd.ns "__init__" with|some (_,o,_),O sh=>O (decide (o.cls=.type "function"),sh)|_,_=>AW)
  |_=>AW)
 |_=>AW
def Z3(st:Stmt):Stmt:=match st with
 |.ClassDef _ _ _ (m::_) _ _ _ _ _ _ _=>m
 |_=>.Pass ⟨0,0,0,0⟩
def Pr(s:Stmt):Arguments:=match s with
 |.FunctionDef _ a _ _ _ _ _ _ _ _=>a
 |_=>default
def Pq(s:Stmt):List Stmt:=match s with
 |.FunctionDef _ _ b _ _ _ _ _ _ _=>b
 |_=>[]
def PU(s:Stmt):Scope:=match s with
 |.FunctionDef _ _ _ _ _ _ sc _ _ _=>sc
 |_=>{kind:=.function,names:=[],isGenerator:=AY,isCoroutine:=AY}
def WR(nm:Str)(st:Stmt):FnShape:=⟨"__init__", X8 nm,Pr st,.stmts (Pq st),PU st,mainGlobals,[],.none,.none,AW,.none,builtinsNs,AX⟩
abbrev XL0:=List (Str×Option Nat)
def xSeen(l:XL0)(s:Uc):Bool×List (Bool×Option (Bool×FnShape)):=(s.heap.isNs cStatics&&(s.heap.nsMap cStatics "thirdparty.any").isNone,l.map λc=>(xB s.heap c.1 c.2.isSome,if c.2.isSome then xSh s.heap c.1 else AW))
def xGood(p:Ud)(l:XL0):Bool×List (Bool×Option (Bool×FnShape)):=(AX,l.map λc=>(AX,c.2.map λi=>(AX,WR c.1 (Z3 (p.main.body.getD i (.Pass ⟨0,0,0,0⟩))))))
theorem Ck{α:Type}{Yf:Uc->α}{Ya:World->α}{p q:Ud}{loose:List Str}{Xt:Uc->Bool}{N M:Nat}(e:opening p=plainProg p.main.scope.names)(hN:Nat.ble 600 N=AX)(f:∀s,fenceModules? p s=O s)(le:Nat.ble M N=AX)
  (run:∀(w:World)(os:OsState),(topRunT treeTable p w 11 (O (.ref 6)) M (T0 w os) (topStub p)).map (λt=>(Hv p q loose Xt w t,Yf t.abs))=O ((AX,openGood q loose),Ya w)):LeftO p q loose Xt Yf Ya N:=λw=>by
 obtain⟨⟨h,gs,d,k,os⟩,e0,e'⟩:=Option.map_eq_some_iff.mp (boot_open e hN f w);have e':(h,gs,d,k)=(boot_heap w.params,#[],boot_drawn,boot_toks):=e';obtain⟨rfl,rfl,rfl,rfl⟩:h=boot_heap w.params/\gs=#[]/\d=boot_drawn/\k=boot_toks:=by simpa only[Prod.mk.injEq]using e'
 obtain⟨t,ht,l⟩:=Option.map_eq_some_iff.mp (run w os);have hr:=NY ht;rw[Cm]at hr;have r:=topRun_mono (N-M) _ _ _ _ hr;rw[show M+(N-M)=N by have:=Nat.le_of_ble_eq_true le;lia]at r;obtain⟨l0,l3⟩:=Prod.mk.inj l;obtain⟨l1,l2⟩:=Prod.mk.inj l0;have z:=BN w;obtain⟨z1,z2,z3⟩:_/\_/\_:=by simpa only[Prod.mk.injEq]using z
 have tf:topFrom treeTable p w N ⟨boot_heap w.params,#[],boot_drawn,boot_toks,os⟩=O t.abs:=by
  unfold topFrom;dsimp only;rw[z1,z2,z3,r]
  show(match staticsOk (importedModules p.main.body) (boot_heap w.params) t.abs.heap&&namesBound p t.abs.heap&&gensDone t.abs&&laidKept (boot_heap w.params) t.abs.heap with|true=>O t.abs|false=>AW)=_
  rw[l1]
 unfold openEnds;rw[e0]
 show(topFrom treeTable p w N _).map _=_
 rw[tf];exact J6 O (Prod.ext l2 l3)
end DL
open PySem in
lay_quick PySem.Challenge.pw_wishdeal_k80_beside_one_another DL.topRunT PySem.W.openGood PySem.W.staticsOk PySem.W.namesBound PySem.W.laidKept PySem.W.xlAt DL.xSeen DL.xGood
namespace W
open PySem PySem.Spec DL
noncomputable abbrev p0:Ud:=PySem.Challenge.pw_wishdeal_k80_beside_one_another
noncomputable def YF:A8:=[1,2,3,4,5,6,7,8,9,10,11,12,13,14,16,17,19,20,21,22,23,24,25,26,27,28,30,31,33,34,35,36,37,38,39,40,41,42,43,44]
noncomputable def ixL:A8:=[16,17,23,24,25,26,27,28,30,31,33,34,35,36,37,38,39,40,41,42,43,44]
noncomputable abbrev q0:Ud:=PySem.W.view p0 YF
noncomputable def clsL:XL0:=[("DealError", O 1),("NoWishes", O 2),("NoAim", O 3),("NoText", O 4),("NoWay", AW),("NoPlace", AW),("NoChange", AW),("NoNumbering", AW),("NoJoin", AW),("NoBook", AW),("NoDeed", AW),("NoRow", AW),("NoName", AW),("TooMany", AW)]
theorem Hu:∀(w:World)(os:OsState),(PySem.W.Fast.tw10708255244068714335 PySem.W.Fast.tw14364793385576792824 PySem.W.Fast.tw7055594940939615636 w 11 (O (.ref 6)) 3935 (T0 w os) (PySem.W.topStub PySem.W.Fast.tw7055594940939615636)).map (λt=>(((PySem.W.Fast.tw13471830651028734593 (PySem.W.Fast.tw5923862056798008813 (Program.main PySem.W.Fast.tw7055594940939615636).body) (PySem.W.boot_heap w.params) t.abs.heap&&PySem.W.Fast.tw4683006035507612052 PySem.W.Fast.tw7055594940939615636 t.abs.heap&&PySem.W.gensDone t.abs&&PySem.W.Fast.tw16898566250750103049 (PySem.W.boot_heap w.params) t.abs.heap),PySem.W.Fast.tw4187177175401517315 (PySem.W.view PySem.W.Fast.tw7055594940939615636 YF) [] (PySem.W.Fast.tw5923862056798008813 (Program.main PySem.W.Fast.tw7055594940939615636).body) (λs=>PySem.W.Fast.tw4757257242682413121 (PySem.W.view PySem.W.Fast.tw7055594940939615636 YF) [] s&&PySem.W.recOk [] s) AX t.abs),PySem.W.Fast.tw11121216462471823999 clsL t.abs))=O ((AX,PySem.W.Fast.tw3486900944545009338 (PySem.W.view PySem.W.Fast.tw7055594940939615636 YF) []),PySem.W.Fast.tw18030470931243306169 PySem.W.Fast.tw7055594940939615636 clsL):=by intro w os;kernel_rfl
theorem Ht:PySem.W.LeftO p0 q0 [] (λs=>PySem.W.xlAt q0 [] s&&PySem.W.recOk [] s) (xSeen clsL) (λ_=>xGood p0 clsL) 7770:=by
 refine Ck (M:=3935) (by kernel_rfl) AV (λs=>by kernel_rfl) AV λw os=>?_
 have h:=Hu w os;rw[←PySem.W.Fast.te10708255244068714335,←PySem.W.Fast.te14364793385576792824,←PySem.W.Fast.te4187177175401517315,←PySem.W.Fast.te5923862056798008813,←PySem.W.Fast.te13471830651028734593,←PySem.W.Fast.te4683006035507612052,←PySem.W.Fast.te16898566250750103049,←PySem.W.Fast.te4757257242682413121,←PySem.W.Fast.te3486900944545009338,←PySem.W.Fast.te11121216462471823999,←PySem.W.Fast.te18030470931243306169,←PySem.W.Fast.te7055594940939615636]at h;exact h
end W
namespace L2
open PySem PySem.Spec PyProof.Rows
abbrev Key:=Sum Int Str
noncomputable def Pi:Key->Ub->Bool
 |.inl k,v=>Value.isInt k v
 |.inr x,v=>Value.isStrOf x v
noncomputable def keyH(w:World):Key->Int
 |.inl k=>hashInt k
 |.inr x=>hashStr w x
theorem Xp:∀{k:Key}{v:Ub},Pi k v=AX->(∃i t,k=Sum.inl i/\v=Value.int i t)∨(∃x t,k=Sum.inr x/\v=Value.str x t)
 |.inl i,v,h=>by obtain⟨t,e⟩:=Value.isInt_shape (k:=i) (v:=v) h;exact .inl ⟨i,t,rfl,e⟩
 |.inr x,v,h=>by obtain⟨t,e⟩:=Value.isStrOf_shape (x:=x) (v:=v) h;exact .inr ⟨x,t,rfl,e⟩
theorem HX(a b:Int):decide ((Sum.inl a:Key)=Sum.inl b)=(a==b):=by
 by_cases e:a=b
 .subst e;simp
 .have h:¬(Sum.inl a:Key)=Sum.inl b:=λq=>e (Sum.inl.inj q)
  rw[Qy h];exact(beq_eq_false_iff_ne.mpr e).symm
theorem HW(a b:Str):decide ((Sum.inr a:Key)=Sum.inr b)=decide (a=b):=by
 by_cases e:a=b
 .subst e;simp
 .have h:¬(Sum.inr a:Key)=Sum.inr b:=λq=>e (Sum.inr.inj q)
  rw[Qy h,Qy e]
theorem HV(a:Int)(b:Str):decide ((Sum.inl a:Key)=Sum.inr b)=AY:=Qy (λq=>nomatch q)
theorem HU(a:Str)(b:Int):decide ((Sum.inr a:Key)=Sum.inl b)=AY:=Qy (λq=>nomatch q)
noncomputable def OF(prog:Ud)(w:World):PySem.KeyKind prog w Key where
 is:=Pi
 hash:=keyH w
 inj:=λv a b ha hb=>by
  rcases Xp ha with ⟨i,t,rfl,rfl⟩|⟨x,t,rfl,rfl⟩
  .rcases Xp hb with ⟨j,u,rfl,e⟩|⟨y,u,rfl,e⟩
   .injection e with e1 _;rw[e1]
   .exact nomatch e
  .rcases Xp hb with ⟨j,u,rfl,e⟩|⟨y,u,rfl,e⟩
   .exact nomatch e
   .injection e with e1 _;rw[e1]
 byValue:=λk v h=>by rcases Xp h with ⟨i,t,rfl,rfl⟩|⟨x,t,rfl,rfl⟩<;>rfl
 pyHash:=λhv h=>by
  rcases Xp hv with ⟨i,t,rfl,rfl⟩|⟨x,t,rfl,rfl⟩
  .exact wpAny_pyHash_int h
  .exact wpAny_pyHash_str h
 eqBool:=λhu hv h=>by
  rcases Xp hu with ⟨i,t,rfl,rfl⟩|⟨x,t,rfl,rfl⟩
  .rcases Xp hv with ⟨j,u,rfl,rfl⟩|⟨y,u,rfl,rfl⟩
   .rw[HX]at h;exact wpAny_eqBool_int h
   .rw[HV]at h;exact SeqAt.EqAt.int_str i t y u _ _ _ _ h
  .rcases Xp hv with ⟨j,u,rfl,rfl⟩|⟨y,u,rfl,rfl⟩
   .rw[HU]at h;exact SeqAt.EqAt.str_int x t j u _ _ _ _ h
   .rw[HW]at h;exact wpAny_eqBool_str h
 «strs»:=λk x t v h=>by
  rcases Xp h with ⟨i,u,rfl,e⟩|⟨y,u,rfl,e⟩
  .exact nomatch e
  .injection e with e1 _
   subst e1;cases v<;>rfl
inductive V where
 |non|bl (b:Bool)|int (i:Int)|str (x:Str)|byt (b:Array UInt8)|flt (b:UInt64)|ref (a:Ue)|ty (n:String)
 deriving DecidableEq
noncomputable def RelV:V->Ub->Prop
 |.non,u=>u=Value.none
 |.bl b,u=>u=Value.bool b
 |.int i,u=>∃t,u=Value.int i t
 |.str x,u=>∃t,u=Value.str x t
 |.byt b,u=>∃t,u=Value.bytes b t
 |.flt b,u=>∃t,u=Value.float b t
 |.ref a,u=>u=Value.ref a
 |.ty n,u=>u=Value.type n
noncomputable abbrev Vals:List V->A0->Prop:=Paired RelV
theorem Vals.length{xs:List V}{us:A0}(r:Vals xs us):xs.length=us.length:=Paired.length r
theorem Vals.get:∀{xs:List V}{us:A0}{i:Nat}{x:V},Vals xs us->xs[i]?=O x->∃u,us[i]?=O u/\RelV x u
 |_,_,_,_,.nil,e=>by simp at e
 |_,_,0,_,.cons r _,e=>by simp at e;subst e;exact⟨_,rfl,r⟩
 |_,_,i+1,x,.cons _ t,e=>by obtain⟨u,h1,h2⟩:=Vals.get (i:=i) (x:=x) t (by simpa using e);exact⟨u,by simpa using h1,h2⟩
theorem Vals.set{x:V}{u:Ub}(r:RelV x u):∀{xs:List V}{us:A0}(i:Nat),Vals xs us->Vals (xs.set i x) (us.set i u)
 |_,_,_,.nil=>.nil
 |_,_,0,.cons _ t=>.cons r t
 |_,_,i+1,.cons q t=>.cons q (Vals.set r i t)
theorem Vals.append:∀{xs ys:List V}{us ws:A0},Vals xs us->Vals ys ws->Vals (xs++ys) (us++ws)
 |_,_,_,_,.nil,s=>s
 |_,_,_,_,.cons r t,s=>.cons r (Vals.append t s)
theorem Vals.take:∀{xs:List V}{us:A0}(n:Nat),Vals xs us->Vals (xs.take n) (us.take n)
 |_,_,0,_=>.nil
 |_,_,_+1,.nil=>.nil
 |_,_,n+1,.cons r t=>.cons r (Vals.take n t)
theorem Vals.drop:∀{xs:List V}{us:A0}(n:Nat),Vals xs us->Vals (xs.drop n) (us.drop n)
 |_,_,0,r=>r
 |_,_,_+1,.nil=>.nil
 |_,_,n+1,.cons _ t=>Vals.drop n t
noncomputable def YU:Option V->A3->Prop
 |some v,O u=>RelV v u
 |none,AW=>True
 |_,_=>False
noncomputable def KV{κ:Type}:List (κ×V)->List (κ×Ub)->Prop:=Paired λ(p:κ×V) (q:κ×Ub)=>p.1=q.1/\RelV p.2 q.2
noncomputable def kV:Key->V
 |.inl i=>.int i
 |.inr x=>.str x
inductive HO where
  |lst (xs:List V)
  |tup (xs:List V)
  |dK (kvs:List (Key×V))|dT (kvs:List (List Key×V))
  |set (S:Int->Bool) (n:Nat)
  |ins (C dx:Ue) (fs:List (Str×V))
  |own (x:Ue)
  |xd (fs:List (Str×V))
  |met (f x:Ue)
  |rng (lo hi:Int)
  |frz (o:Obj) (u:HO)
  |tbl (ps:Array Ub)
  |ext (φ:Heap->Prop)
abbrev Hp:=Ue->Option HO
noncomputable def upd(H:Hp)(a:Ue)(o:HO):Hp:=λb=>if b=a then O o else H b
theorem U7{H:Hp}{a:Ue}{o:HO}:upd H a o a=O o:=by unfold upd;rw[Qp AV]
theorem UW{H:Hp}{a b:Ue}{o:HO}(h:b≠a):upd H a o b=H b:=by unfold upd;rw[Qz h]
theorem OE{H:Hp}{a:Ue}{o u:HO}:upd (upd H a o) a u=upd H a u:=by funext b;unfold upd;split<;>rfl
theorem ZE{H:Hp}{a b:Ue}{o:HO}(h:H a=O o)(h':H b=AW):a≠b:=by intro e;subst e;rw[h]at h';cases h'
section
variable(P:Ud)(w:World)
noncomputable def K4(H:Hp)(h:Heap)(a:Ue):HO->Prop
 |.lst xs=>xs.length<=Uh/\∃(its:A0)(n:Nat),Vals xs its/\h.get? a=O {cls:=.type "list", data:=.seq its.toArray n}
 |.tup xs=>xs.length<=Uh/\∃its:A0,Vals xs its/\IsTup h a its.toArray
 |.dK kvs=>kvs.length<=Uh/\(a==sysModules)=AY/\∃vs,KV kvs vs/\h.DictOf (OF P w) a vs
 |.dT kvs=>kvs.length<=Uh/\(a==sysModules)=AY/\∃xs:List (List Key×Ue×Ub),
   Paired (λ(p:List Key×V) (q:List Key×Ue×Ub)=>p.1=q.1/\H q.2.1=O (.tup (p.1.map kV))/\RelV p.2 q.2.2) kvs xs /\
   ∃o es ep,h.get? a=O o/\o.ExactDict/\o.data=.dict es ep/\es.toList=xs.map (entryOfKey (tupleKind (OF P w)))/\(xs.map (·.1)).Nodup
 |.set S n=>h.SetOf (intKind P w) a S n
 |.ins C dx fs=>H dx=O (.own a)/\fs.length<=1000/\dx≠a/\h.get? a=O (PySem.W.instObj C dx) /\
   ∃mA,h.Ns1 dx mA/\(∀f,YU (fs.lookup f) (mA f))/\PySem.Within mA (fs.map (·.1))
 |.own _=>∃o,h.get? a=O o
 |.xd fs=>∃mA,h.Ns1 a mA/\∀f,YU (fs.lookup f) (mA f)
 |.rng lo hi=>∃t u v,h.get? a=O {cls:=.type "range", data:=.fields #[.int lo t,.int hi u,.int 1 v]}
 |.frz o u=>h.get? a=O o/\K4 H h a u
 |.tbl ps=>h.get? a=O {cls:=.none,data:=.fields ps}
 |.met f x=>h.get? a=O (PySem.W.methodObj (.ref f) (.ref x))
 |.ext φ=>φ h/\(∃o,h.get? a=O o)/\∀h1 h2:Heap,φ h1->(∀o,h1.get? a=O o->h2.get? a=O o)->φ h2
def HOk(H:Hp)(h:Heap):Prop:=∀a o,H a=O o->K4 P w H h a o
end
section
variable{P:Ud}{w:World}{H H':Hp}{h h':Heap}{a:Ue}{o:HO}
theorem K4.lt(x:K4 P w H h a o):a<h.objs.size:=by
 cases o with
 |lst xs=>obtain⟨_,_,_,_,e⟩:=x;exact Qf e
 |tup xs=>obtain⟨_,_,_,p⟩:=x;exact p.lt
 |dK kvs=>obtain⟨_,_,_,_,o,_,_,e,_⟩:=x;exact Qf e
 |dT kvs=>obtain⟨_,_,_,_,o,_,_,e,_⟩:=x;exact Qf e
 |set S n=>obtain⟨o,_,_,_,e,_⟩:=x;exact Qf e
 |ins C dx fs=>obtain⟨_,_,_,e,_⟩:=x;exact Qf e
 |own y=>obtain⟨_,e⟩:=x;exact Qf e
 |xd fs=>obtain⟨_,⟨_,_,_,e,_⟩,_⟩:=x;exact Qf e
 |rng lo hi=>obtain⟨_,_,_,e⟩:=x;exact Qf e
 |frz ob u=>obtain⟨e,_⟩:=x;exact Qf e
 |tbl ps=>exact Qf (show h.get? a=O _ from x)
 |met f y=>exact Qf (show h.get? a=O _ from x)
 |ext φ=>obtain⟨_,⟨_,e⟩,_⟩:=x;exact Qf e
theorem Paired.mapP{α β:Type}{F G:α->β->Prop}:∀{l₁:List α}{l₂:List β},Paired F l₁ l₂->(∀a b,F a b->G a b)->Paired G l₁ l₂
 |_,_,.nil,_=>.nil
 |_,_,.cons r t,f=>.cons (f _ _ r) (Paired.mapP t f)
theorem K4.stay(x:K4 P w H h a o)(k:∀b u,(b=a∨H b=O (.own a))->h.get? b=O u->h'.get? b=O u)
  (ho:∀b,H b=O (.own a)->H' b=O (.own a)) (ht:∀b xs,H b=O (.tup xs)->H' b=O (.tup xs)):K4 P w H' h' a o:=by
 induction o with
 |lst xs=>obtain⟨z,its,n,r,e⟩:=x;exact⟨z,its,n,r,k _ _ (.inl AV) e⟩
 |tup xs=>obtain⟨z,its,r,ob,e,c⟩:=x;exact⟨z,its,r,ob,k _ _ (.inl AV) e,c⟩
 |dK kvs=>obtain⟨z,y,vs,r,ob,es,ep,e,c⟩:=x;exact⟨z,y,vs,r,ob,es,ep,k _ _ (.inl AV) e,c⟩
 |dT kvs=>obtain⟨z,y,xs,r,ob,es,ep,e,c⟩:=x;exact⟨z,y,xs,Paired.mapP r λp q z=>⟨z.1,ht _ _ z.2.1,z.2.2⟩,ob,es,ep,k _ _ (.inl AV) e,c⟩
 |set S n=>obtain⟨ob,es,ep,t,e,c⟩:=x;exact⟨ob,es,ep,t,k _ _ (.inl AV) e,c⟩
 |ins C dx fs=>obtain⟨d,z,ne,e,mA,⟨od,es,ep,e2,c⟩,r⟩:=x;exact⟨ho _ d,z,ne,k _ _ (.inl AV) e,mA,⟨od,es,ep,k _ _ (.inr d) e2,c⟩,r⟩
 |own y=>obtain⟨ob,e⟩:=x;exact⟨ob,k _ _ (.inl AV) e⟩
 |xd fs=>obtain⟨mA,⟨od,es,ep,e,c⟩,r⟩:=x;exact⟨mA,⟨od,es,ep,k _ _ (.inl AV) e,c⟩,r⟩
 |rng lo hi=>obtain⟨t,u,v,e⟩:=x;exact⟨t,u,v,k _ _ (.inl AV) e⟩
 |frz ob u ih=>obtain⟨e,q⟩:=x;exact⟨k _ _ (.inl AV) e,ih q⟩
 |tbl ps=>have e:h.get? a=O {cls:=.none,data:=.fields ps}:=x;show h'.get? a=O {cls:=.none,data:=.fields ps};exact k a _ (.inl AV) e
 |met f y=>have e:h.get? a=O (PySem.W.methodObj (.ref f) (.ref y)):=x;show h'.get? a=O (PySem.W.methodObj (.ref f) (.ref y));exact k a _ (.inl AV) e
 |ext φ=>obtain⟨p,⟨o,e⟩,st⟩:=x;exact⟨st _ _ p λo q=>k _ _ (.inl AV) q,⟨o,k _ _ (.inl AV) e⟩,st⟩
theorem HOk.lt(x:HOk P w H h)(e:H a=O o):a<h.objs.size:=(x a o e).lt
theorem HOk.fresh(x:HOk P w H h)(e:h.objs.size<=a):H a=AW:=by
 cases q:H a with
 |none=>rfl
 |some u=>exact absurd (QA (x.lt q) e) (Jn _)
theorem HOk.kept(x:HOk P w H h)(k:∀b u,h.get? b=O u->h'.get? b=O u):HOk P w H h':=λa o e=>
 (x a o e).stay (λb u _ q=>k b u q) (λ_ q=>q) λ_ _ q=>q
theorem HOk.laid(x:HOk P w H h)(k:∀b u,h.get? b=O u->h'.get? b=O u)(hp:h.objs.size<=a)(new:K4 P w (upd H a o) h' a o):HOk P w (upd H a o) h':=λb u e=>by
 have hn:=x.fresh hp;by_cases hb:b=a
 .subst hb;rw[U7]at e;cases e;exact new
 .rw[UW hb]at e
  exact(x b u e).stay (λc v _ q=>k c v q) (λc q=>by rw[UW (ZE q hn)];exact q) λc xs q=>by rw[UW (ZE q hn)];exact q
end
def Rd(H:Hp)(a:Ue)(u:HO):Prop:=H a=O u ∨ ∃o,H a=O (.frz o u)
theorem Rd.ok{P:Ud}{w:World}{H:Hp}{h:Heap}{a:Ue}{u:HO}(r:Rd H a u)(x:HOk P w H h):K4 P w H h a u:=by
 rcases r with r|⟨o,r⟩
 .exact x a u r
 .obtain⟨_,q⟩:=x a _ r
  exact q
noncomputable def Mut:Option HO->Prop
 |some (.lst _)=>True
 |some (.dK _)=>True
 |some (.dT _)=>True
 |some (.set _ _)=>True
 |some (.ins _ _ _)=>True
 |some (.ext _)=>True
 |_=>False
section
variable{P:Ud}{w:World}{H:Hp}{h h':Heap}{x e:Ue}{o':HO}
theorem HOk.write(ok:HOk P w H h)(mu:Mut (H x))(he:e=x∨H e=O (.own x))(k:∀b u,b≠e->h.get? b=O u->h'.get? b=O u)(jz:∃u,h'.get? e=O u)
  (new:K4 P w (upd H x o') h' x o'):HOk P w (upd H x o') h':=λb u q=>by
 have nown:∀c y,H c=O (.own y)->c≠x:=λc y r z=>by subst z;rw[r]at mu;exact mu
 have ntup:∀c xs,H c=O (.tup xs)->c≠x:=λc xs r z=>by subst z;rw[r]at mu;exact mu
 by_cases hb:b=x
 .subst hb;rw[U7]at q;cases q;exact new
 .rw[UW hb]at q
  by_cases qC:b=e
  .have q':H b=O (.own x):=by
    rcases he with z|z
    .exact absurd (qC.trans z) hb
    .rw[qC];exact z
   rw[q]at q';cases q';obtain⟨v,hv⟩:=jz;exact⟨v,by rw[qC];exact hv⟩
  .refine(ok b u q).stay (λc v hc r=>k c v ?_ r) (λc r=>by rw[UW (nown c b r)];exact r) λc xs r=>by rw[UW (ntup c xs r)];exact r
   rcases hc with rfl|hc
   .exact qC
   .rintro rfl
    rcases he with z|z
    .exact nown c b hc z
    .rw[hc]at z;cases z;exact hb AV
end
structure Un(fs ex:A5)(H H':Hp)(h h':Heap):Prop where
 keep:∀b o,h.get? b=O o->H b=AW->b∉fs->b∉ex->h'.get? b=O o
 slot:∀b o,h.get? b=O o->H b=AW->b∈fs->b∉ex->∃sl,h'.get? b=O {o with slots:=sl}
 free:∀b o,h.get? b=O o->H b=AW->b∉ex->H' b=AW
 there:∀b o,h.get? b=O o->b∉ex->∃o',h'.get? b=O o'
 tups:∀b xs,H b=O (.tup xs)->H' b=O (.tup xs)
 frzs:∀b o u,H b=O (.frz o u)->H' b=O (.frz o u)
 tbls:∀b ps,H b=O (.tbl ps)->∃more,H' b=O (.tbl (ps++more))
section
variable{fs fs' ex ex':A5}{H H1 H2:Hp}{h h1 h2 h':Heap}{a x e:Ue}{o:HO}
theorem Un.any(u:Un fs ex H H1 h h1){b:Ue}{ob:Obj}(q:h.get? b=O ob)(n:H b=AW)(hx:b∉ex):∃sl,h1.get? b=O {ob with slots:=sl}:=by
 by_cases hb:b∈fs
 .exact u.slot b ob q n hb hx
 .exact⟨ob.slots,u.keep b ob q n hb hx⟩
theorem Un.kept(k:∀b u,h.get? b=O u->h'.get? b=O u):Un fs ex H H h h':=
 ⟨λb ob q _ _ _=>k b ob q,λb ob q _ _ _=>⟨ob.slots,k b ob q⟩,λ_ _ _ n _=>n,λb ob q _=>⟨ob,k b ob q⟩,λ_ _ q=>q,λ_ _ _ q=>q,λ_ ps q=>⟨#[],by rw[q];simp⟩⟩
theorem Un.refl:Un fs ex H H h h:=Un.kept λ_ _ q=>q
theorem Un.laid(k:∀b u,h.get? b=O u->h'.get? b=O u)(hp:h.objs.size<=a)(hn:H a=AW):Un fs ex H (upd H a o) h h' where
 keep:=λb u q _ _ _=>k b u q
 slot:=λb u q _ _ _=>⟨u.slots,k b u q⟩
 free:=λb u q n _=>by rw[UW (QQ (QA (Qf q) hp))];exact n
 there:=λb u q _=>⟨u,k b u q⟩
 tups:=λb xs q=>by rw[UW (ZE q hn)];exact q
 frzs:=λb u xs q=>by rw[UW (ZE q hn)];exact q
 tbls:=λb ps q=>⟨#[],by rw[UW (ZE q hn),q];simp⟩
theorem Un.write(mu:Mut (H x))(he:e=x∨H e=O (.own x))(k:∀b u,b≠e->h.get? b=O u->h'.get? b=O u)(jz:∃u,h'.get? e=O u):Un fs ex H (upd H x o) h h':=by
 have hx:∀b,H b=AW->b≠x:=λb n z=>by subst z;rw[n]at mu;exact mu
 have hb:∀b,H b=AW->b≠e:=λb n z=>by
  subst z;rcases he with r|r
  .exact hx b n r
  .rw[n]at r;cases r
 have hm:∀b u,H b=O u->¬Mut (O u)->b≠x:=λb u q nm z=>by subst z;rw[q]at mu;exact nm mu
 refine⟨λb u q n _ _=>k b u (hb b n) q,λb u q n _ _=>⟨u.slots,k b u (hb b n) q⟩,λb u q n _=>by rw[UW (hx b n)];exact n,λb u q _=>?_,
  λb xs q=>by rw[UW (hm b _ q λz=>z)];exact q,λb u xs q=>by rw[UW (hm b _ q λz=>z)];exact q,λb ps q=>⟨#[],by rw[UW (hm b _ q λz=>z),q];simp⟩⟩
 by_cases qC:b=e
 .subst qC;exact jz
 .exact⟨u,k b u qC q⟩
end
noncomputable def trk(h:Heap)(H:Hp):A5:=(Ul h.objs.size).filter λa=>(H a).isSome
noncomputable def Zu(h:Heap)(H:Hp):Heap:=PySem.W.hideAll h (trk h H)
theorem BM(h:Heap)(H:Hp):(Zu h H).objs.size=h.objs.size:=PySem.W.hideAll_size _ _
theorem CM{h:Heap}{H:Hp}{b:Ue}{o:Obj}(e:h.get? b=O o)(n:H b=AW):(Zu h H).get? b=O o:=
 PySem.W.hideAll_get _ e λhm=>by have q:(H b).isSome=AX:=(List.mem_filter.mp hm).2;rw[n]at q;simp at q
theorem Dm{h:Heap}{H:Hp}{b:Ue}{o:Obj}(e:(Zu h H).get? b=O o):h.get? b=O o/\H b=AW:=by
 have e':h.get? b=O o:=PySem.W.of_hideAll (trk h H) e;refine⟨e',?_⟩;cases q:H b with
 |none=>rfl
 |some x=>have hm:b∈trk h H:=List.mem_filter.mpr ⟨List.mem_range.mpr (Heap.lt_size e'),by simp[q]⟩;have z:(Zu h H).get? b=AW:=PySem.W.hideAll_none (trk h H) hm;rw[z]at e;cases e
structure Mod(K:Frag)(mg:Str->A3)(base:Heap):Prop where
 kin:K.In base
 glob:base.Ns mainGlobals mg
 blt:∃mb,base.Ns builtinsNs mb/\∀x:Str,x ≠ "__name__" -> mb x=bootBuiltins x
 nolimit:base.NoLimit
structure Cx where
 prog:Ud
 w:World
 K:Frag
 mg:Str->A3
 base:Heap
 A:Around
 N:List Str
 s₀:Uc
 H₀:Hp
 env:Env
 outer:List Env
 stack:List Env
 ex:A5
 fn:Str->Bool
 calm:Bool
 pn:List (Ue×Obj)
 xe:Ub->Uc->Prop
noncomputable def frs(l:List Env):A5:=l.filterMap (·.frame)
noncomputable abbrev Cx.fs(X:Cx):A5:=frs X.outer
def Vis(sc:Scope)(x:Str):Prop:=sc.names.lookup x=O .local∨sc.names.lookup x=O .cell∨sc.names.lookup x=O .free
def Loc(sc:Scope)(x:Str):Prop:=sc.names.lookup x=O .local∨sc.names.lookup x=O .cell
def Look(env:Env)(h:Heap)(m:Str->A3)(x:Str)(u:Ub):Prop:=
 (env.kindOf x=O .local/\m x=O u)∨((env.kindOf x=O .cell∨env.kindOf x=O .free)/\∃c,env.cells.lookup x=O c/\h.IsCell c (O u))
structure Cx.Ok(X:Cx):Prop where
 mod:Mod X.K X.mg X.base
 kind:X.env.scope.kind=.function
 glob:X.env.globals=mainGlobals
 blt:X.env.builtins=builtinsNs
 above:X.s₀.heap.objs.size<=X.env.locals
 inj:∀x y c,X.env.cells.lookup x=O c->X.env.cells.lookup y=O c->x=y
 has:∀x,(X.env.kindOf x=O .cell∨X.env.kindOf x=O .free)->∃c,X.env.cells.lookup x=O c
 cab:∀x c,X.fn x=AX->X.env.cells.lookup x=O c->X.s₀.heap.objs.size<=c
 hd:X.calm=AX->X.A.handled=AW
 frames:X.A.frames=O X.stack
 stk:X.stack=X.outer∨(X.stack=X.env::X.outer/\X.env.frame=O X.env.locals)
 exf:∀b∈X.ex,b≠X.env.locals/\∀x c,X.env.cells.lookup x=O c->c≠b
 bs:∀b o,X.base.get? b=O o->X.s₀.heap.get? b=O o/\X.H₀ b=AW
 bsz:X.base.objs.size<=X.s₀.heap.objs.size
 noex:∀b o,X.base.get? b=O o->b∉X.ex
 exfs:∀b∈X.ex,b∉X.fs
 funs:X.s₀.heap.FunFrames X.base X.outer
 frf:∀b∈X.fs,X.H₀ b=AW
structure Inv(X:Cx)(pins:List (Ue×Obj))(σ:List (Option V))(H:Hp)(s:Uc):Prop where
 ok:X.Ok
 os:s.os=X.s₀.os
 bare:AllBare s.gens
 base:Un X.fs X.ex X.H₀ H X.s₀.heap s.heap
 loc:∃m,s.heap.Ns X.env.locals m/\∀(i:Nat)(x:Str)(v:V),X.N[i]?=O x->σ[i]?=O (O v)->Vis X.env.scope x->∃u,RelV v u/\Look X.env s.heap m x u
 cell:∀x c,X.env.cells.lookup x=O c->∃v,s.heap.IsCell c v
 free:H X.env.locals=AW
 freeC:∀x c,X.env.cells.lookup x=O c->H c=AW
 pin:∀p∈X.pn++pins,s.heap.get? p.1=O p.2/\H p.1=AW/\p.1≠X.env.locals/\p.1∉X.fs/\∀v,p.2.data≠.cell v
 hok:HOk X.prog X.w H s.heap
 len:σ.length=X.N.length
section
variable{X:Cx}{pins:List (Ue×Obj)}{σ:List (Option V)}{H H':Hp}{s:Uc}{h':Heap}
theorem Cx.Ok.nofr(ok:X.Ok){b:Ue}{o:Obj}(e:X.base.get? b=O o):b∉X.fs:=λhb=>by have:=(ok.funs.mem hb).1;rw[e]at this;cases this
theorem Inv.bs(I:Inv X pins σ H s):∀b o,X.base.get? b=O o->s.heap.get? b=O o/\H b=AW:=λb o e=>
 ⟨I.base.keep b o (I.ok.bs b o e).1 (I.ok.bs b o e).2 (I.ok.nofr e) (I.ok.noex b o e),I.base.free b o (I.ok.bs b o e).1 (I.ok.bs b o e).2 (I.ok.noex b o e)⟩
theorem Inv.bk(I:Inv X pins σ H s):∀b o,X.base.get? b=O o->s.heap.get? b=O o:=λb o e=>(I.bs b o e).1
theorem Inv.mod(I:Inv X pins σ H s):Mod X.K X.mg X.base:=I.ok.mod
theorem Inv.kIn(I:Inv X pins σ H s):X.K.In s.heap:=I.ok.mod.kin.keeps I.bk
theorem Inv.fr(I:Inv X pins σ H s):∃m,Fr X.base X.env.locals s.heap m:=
 let ⟨m,hn,_⟩:=I.loc
 ⟨m,hn,I.bk,Qt I.ok.bsz I.ok.above⟩
theorem Inv.lt(I:Inv X pins σ H s):X.env.locals<s.heap.objs.size:=let ⟨_,hn,_⟩:=I.loc;hn.lt
theorem Inv.sz(I:Inv X pins σ H s):X.s₀.heap.objs.size<=s.heap.objs.size:=Qt I.ok.above (J7 I.lt)
theorem Inv.nofs(I:Inv X pins σ H s){a:Ue}(h:s.heap.objs.size<=a):a∉X.fs:=λhb=>by obtain⟨_,o,ho,_⟩:=I.ok.funs.mem hb;exact absurd (QA (Qf ho) (Qt I.sz h)) (Jn _)
theorem Inv.cne(I:Inv X pins σ H s):∀x c,X.env.cells.lookup x=O c->c≠X.env.locals:=λx c e z=>by obtain⟨v,o,ho,hd⟩:=I.cell x c e;obtain⟨m,⟨o',es,ep,ho',hd',_⟩,_⟩:=I.loc;rw[z,ho']at ho;cases ho;rw[hd']at hd;cases hd
theorem Inv.funs(I:Inv X pins σ H s):s.heap.FunFrames X.base X.outer:=by
 have all:∀(l:List Env),(∀b∈frs l,b∈X.fs)->X.s₀.heap.FunFrames X.base l->s.heap.FunFrames X.base l:=by
  intro l;induction l with
  |nil=>intro _ _;trivial
  |cons env r ih=>
   intro hs hl;obtain⟨hk,⟨L,o,hf,hn,ho,hd⟩,hr⟩:=hl;have hL:L∈X.fs:=hs L (by unfold frs;rw[List.filterMap_cons,hf];exact Qg);obtain⟨sl,e⟩:=I.base.slot L o ho (I.ok.frf L hL) hL λz=>I.ok.exfs L z hL
   exact⟨hk,⟨L,_,hf,hn,e,hd⟩,ih (λb hb=>hs b (by unfold frs;rw[List.filterMap_cons,hf];exact Qj _ hb)) hr⟩
 exact all X.outer (λ_ hb=>hb) I.ok.funs
theorem Inv.stack(I:Inv X pins σ H s):s.heap.FunFrames X.base X.stack:=by
 rcases I.ok.stk with e|⟨e,hf⟩
 .rw[e];exact I.funs
 .rw[e]
  obtain⟨m,hn,_⟩:=I.loc;refine .cons (by rw[I.ok.kind];decide) hf hn ?_ I.funs;exact Heap.get?_none_of_le (Qt I.ok.bsz I.ok.above)
theorem Inv.stkSub(I:Inv X pins σ H s):∀b∈frs X.stack,b∈X.env.locals::X.fs:=λb hb=>by
 rcases I.ok.stk with e|⟨e,hf⟩
 .rw[e]at hb;exact Qj _ hb
 .rw[e]at hb
  unfold frs at hb;rw[List.filterMap_cons,hf]at hb;exact hb
theorem Inv.stkFree(I:Inv X pins σ H s):∀b∈frs X.stack,H b=AW:=λb hb=>by
 rcases QM.mp (I.stkSub b hb)with e|hb
 .rw[e];exact I.free
 .obtain⟨_,o,ho,_⟩:=I.ok.funs.mem hb
  exact I.base.free b o ho (I.ok.frf b hb) λz=>I.ok.exfs b z hb
theorem Inv.step{g':Array GenState}{t':Nat}{d':Drawn}{ch:A5}(I:Inv X pins σ H s)
  (hch:∀b∈ch,(b∈X.ex∨X.s₀.heap.objs.size<=b)/\b≠X.env.locals/\(∀x c,X.env.cells.lookup x=O c->c≠b)/\∀p∈X.pn++pins,p.1≠b)
  (keep:∀b o,b≠X.env.locals->b∉X.fs->b∉ch->s.heap.get? b=O o->H b=AW->h'.get? b=O o)
  (slot:∀b o,b≠X.env.locals->b∈X.fs->b∉ch->s.heap.get? b=O o->H b=AW->∃sl,h'.get? b=O {o with slots:=sl}) (free:∀b o,b∉ch->s.heap.get? b=O o->H b=AW->H' b=AW)
  (there:∀b o,b∉ch->s.heap.get? b=O o->∃o',h'.get? b=O o')
  (tups:∀b xs,H b=O (.tup xs)->H' b=O (.tup xs)) (frzs:∀b o u,H b=O (.frz o u)->H' b=O (.frz o u)) (tbls:∀b ps,H b=O (.tbl ps)->∃more,H' b=O (.tbl (ps++more)))
  (ns:∀m,s.heap.Ns X.env.locals m->h'.Ns X.env.locals m) (hok:HOk X.prog X.w H' h') (hg:AllBare g') :
  Inv X pins σ H' {s with heap:=h',gens:=g',drawn:=d',toks:=t'}:=by
 have neL:∀b o,X.s₀.heap.get? b=O o->b≠X.env.locals:=λb o e=>QQ (QA (Qf e) I.ok.above)
 have neC:∀b o,X.s₀.heap.get? b=O o->b∉X.ex->b∉ch:=λb o e hx hb=>by
  rcases(hch b hb).1 with z|z
  .exact hx z
  .exact absurd (QA (Qf e) z) (Jn _)
 have cellK:∀x c,X.env.cells.lookup x=O c->∀v,s.heap.IsCell c v->h'.IsCell c v:=λx c e v ⟨o,ho,hd⟩=>by
  have nch:c∉ch:=λz=>(hch c z).2.2.1 x c e AV
  by_cases hc:c∈X.fs
  .obtain⟨sl,q⟩:=slot c o (I.cne x c e) hc nch ho (I.freeC x c e)
   exact⟨_,q,hd⟩
  .exact⟨o,keep c o (I.cne x c e) hc nch ho (I.freeC x c e),hd⟩
 refine⟨I.ok,I.os,hg,⟨λb o e n hb hx=>?_,λb o e n hb hx=>?_,λb o e n hx=>?_,λb o e hx=>?_,λb xs e=>tups b xs (I.base.tups b xs e),λb o xs e=>frzs b o xs (I.base.frzs b o xs e),λb ps e=>?_⟩,?_,λx c e=>?_,?_,λx c e=>?_,λp hp=>?_,hok,I.len⟩
 .exact keep b o (neL b o e) hb (neC b o e hx) (I.base.keep b o e n hb hx) (I.base.free b o e n hx)
 .obtain⟨sl,e1⟩:=I.base.slot b o e n hb hx
  obtain⟨qD,e2⟩:=slot b _ (neL b o e) hb (neC b o e hx) e1 (I.base.free b o e n hx);exact⟨qD,e2⟩
 .obtain⟨o',e1⟩:=I.base.there b o e hx
  exact free b o' (neC b o e hx) e1 (I.base.free b o e n hx)
 .obtain⟨o',e1⟩:=I.base.there b o e hx
  exact there b o' (neC b o e hx) e1
 .obtain⟨m1,e1⟩:=I.base.tbls b ps e
  obtain⟨m2,e2⟩:=tbls b _ e1;exact⟨m1++m2,by rw[e2,Array.append_assoc]⟩
 .obtain⟨m,hn,hl⟩:=I.loc
  refine⟨m,ns m hn,λi x v e1 e2 e3=>?_⟩;obtain⟨u,r,l⟩:=hl i x v e1 e2 e3;refine⟨u,r,?_⟩;rcases l with l|⟨k,c,e,z⟩
  .exact .inl l
  .exact .inr ⟨k,c,e,cellK x c e _ z⟩
 .obtain⟨v,z⟩:=I.cell x c e
  exact⟨v,cellK x c e v z⟩
 .obtain⟨m,⟨o,_,_,ho,_⟩,_⟩:=I.loc
  exact free _ o (λz=>(hch _ z).2.1 AV) ho I.free
 .obtain⟨v,o,ho,hd⟩:=I.cell x c e
  exact free c o (λz=>(hch c z).2.2.1 x c e AV) ho (I.freeC x c e)
 .obtain⟨e,n,ne,nf,d⟩:=I.pin p hp
  have nch:p.1∉ch:=λz=>(hch p.1 z).2.2.2 p hp AV
  exact⟨keep p.1 p.2 ne nf nch e n,free p.1 p.2 nch e n,ne,nf,d⟩
theorem Inv.un{t':Nat}(I:Inv X pins σ H s)(u:Un X.fs [] H H' s.heap h')(hok:HOk X.prog X.w H' h'):Inv X pins σ H' {s with heap:=h',toks:=t'}:=by obtain⟨m,⟨o,es,ep,ho,r⟩,_⟩:=id I.loc;obtain⟨sl,hL⟩:=u.any ho I.free (by simp);exact I.step (g':=s.gens) (d':=s.drawn) (ch:=[]) (λ_ z=>nomatch z) (λb o _ hb _ e n=>u.keep b o e n hb (by simp)) (λb o _ hb _ e n=>u.slot b o e n hb (by simp)) (λb o _ e n=>u.free b o e n (by simp)) (λb o _ e=>u.there b o e (by simp)) u.tups u.frzs u.tbls (λm' hm=>by obtain⟨o',es',ep',ho',r'⟩:=hm;rw[ho]at ho';cases ho';exact⟨_,es',ep',hL,r'⟩) hok I.bare
theorem Inv.call{g':Array GenState}{t':Nat}{d':Drawn}{ch:A5}(I:Inv X pins σ H s)(u:Un (frs X.stack) ch H H' s.heap h')(hok:HOk X.prog X.w H' h')(hg:AllBare g')
  (hch:∀b∈ch,(b∈X.ex∨X.s₀.heap.objs.size<=b)/\b≠X.env.locals/\(∀x c,X.env.cells.lookup x=O c->c≠b)/\∀p∈X.pn++pins,p.1≠b) :
  Inv X pins σ H' {s with heap:=h',gens:=g',drawn:=d',toks:=t'}:=by
 obtain⟨m,⟨o,es,ep,ho,r⟩,_⟩:=id I.loc;obtain⟨sl,hL⟩:=u.any ho I.free λz=>(hch _ z).2.1 AV
 exact I.step (ch:=ch) hch (λb o hL hb hc e n=>u.keep b o e n (λz=>(QM.mp (I.stkSub b z)).elim hL hb) hc) (λb o _ _ hc e n=>u.any e n hc) (λb o hc e n=>u.free b o e n hc) (λb o hc e=>u.there b o e hc) u.tups u.frzs u.tbls (λm' hm=>by obtain⟨o',es',ep',ho',r'⟩:=hm;rw[ho]at ho';cases ho';exact⟨_,es',ep',hL,r'⟩) hok hg
theorem Inv.turned{t':Nat}{it:Ue}(I:Inv X pins σ H s)(k:∀b o,b≠it->s.heap.get? b=O o->h'.get? b=O o)(hn:H it=AW)(hL:it≠X.env.locals)
  (h1:it∈X.ex∨X.s₀.heap.objs.size<=it) (h2:∀x c,X.env.cells.lookup x=O c->c≠it) (h3:∀p∈X.pn++pins,p.1≠it):Inv X pins σ H {s with heap:=h',toks:=t'}:=by
 have nit:∀b u,H b=O u->b≠it:=λb u e z=>by rw[z,hn]at e;cases e
 refine I.step (g':=s.gens) (d':=s.drawn) (ch:=[it]) (λb hb=>?_) (λb o _ _ hc e _=>k b o (λz=>hc (by simp[z])) e) (λb o _ _ hc e _=>⟨o.slots,k b o (λz=>hc (by simp[z])) e⟩) (λ_ _ _ _ n=>n)
  (λb o hc e=>⟨o,k b o (λz=>hc (by simp[z])) e⟩) (λ_ _ e=>e) (λ_ _ _ e=>e) (λb ps e=>⟨#[],by rw[e];simp⟩) (λm hm=>?_) (λb u e=>?_) I.bare
 .have e:b=it:=by simpa using hb
  subst e;exact⟨h1,hL,h2,h3⟩
 .obtain⟨o,es,ep,ho,r⟩:=hm
  exact⟨o,es,ep,k _ o (Ne.symm hL) ho,r⟩
 .refine(I.hok b u e).stay (λc v hc q=>k c v ?_ q) (λ_ q=>q) λ_ _ q=>q
  rcases hc with z|z
  .rw[z];exact nit b u e
  .exact nit c _ z
theorem Inv.tok(I:Inv X pins σ H s)(t:Nat):Inv X pins σ H {s with toks:=t}:=I.un (h':=s.heap) (t':=t) Un.refl I.hok
theorem Inv.kept{t':Nat}(I:Inv X pins σ H s)(k:∀b u,s.heap.get? b=O u->h'.get? b=O u):Inv X pins σ H {s with heap:=h',toks:=t'}:=I.un (Un.kept k) (I.hok.kept k)
theorem Inv.laid{a:Ue}{o:HO}{t':Nat}(I:Inv X pins σ H s)(k:∀b u,s.heap.get? b=O u->h'.get? b=O u)(hp:s.heap.objs.size<=a)(new:K4 X.prog X.w (upd H a o) h' a o) :
  Inv X pins σ (upd H a o) {s with heap:=h',toks:=t'}:=I.un (Un.laid k hp (I.hok.fresh hp)) (I.hok.laid k hp new)
theorem Inv.write{x e:Ue}{o:HO}{t':Nat}(I:Inv X pins σ H s)(mu:Mut (H x))(he:e=x∨H e=O (.own x))(k:∀b u,b≠e->s.heap.get? b=O u->h'.get? b=O u)(jz:∃u,h'.get? e=O u)
  (new:K4 X.prog X.w (upd H x o) h' x o):Inv X pins σ (upd H x o) {s with heap:=h',toks:=t'}:=I.un (Un.write mu he k jz) (I.hok.write mu he k jz new)
theorem Inv.pins_of{pins':List (Ue×Obj)}(I:Inv X pins σ H s)(h:∀p∈pins',s.heap.get? p.1=O p.2/\H p.1=AW/\p.1≠X.env.locals/\p.1∉X.fs/\∀v,p.2.data≠.cell v):Inv X pins' σ H s:=
 ⟨I.ok,I.os,I.bare,I.base,I.loc,I.cell,I.free,I.freeC,λp hp=>(QE.mp hp).elim (λz=>I.pin p (Qu _ z)) (h p),I.hok,I.len⟩
theorem OT{N:List Str}(hN:N.Nodup){i j:Nat}{x:Str}(a:N[i]?=O x)(b:N[j]?=O x):i=j:=by obtain⟨h1,e1⟩:=Qr.mp a;obtain⟨h2,e2⟩:=Qr.mp b;exact(List.getElem_inj hN).mp (e1.trans e2.symm)
theorem NQ{M:Model}{A:Around}{E:Ub->Uc->Prop}{i:Nat}{x:Str}{v:V}{u:Ub}{Q:Unit->Uc->Prop}(I:Inv X pins σ H s)(hN:X.N.Nodup)(hi:X.N[i]?=O x)(hx:Loc X.env.scope x)(r:RelV v u)
  (h:∀s',Inv X pins (σ.set i (O v)) H s'->(∃a,Heap.SameBut a s.heap s'.heap/\(a=X.env.locals∨X.env.cells.lookup x=O a))->Q () s') (hf:X.fn x=AX∨X.env.scope.names.lookup x=O .local:=by first|exact .inl rfl|exact .inr rfl|assumption):Ui M A (storeName X.env x u) Q E s:=by
 obtain⟨m,hn,hl⟩:=id I.loc;have hcls:(X.env.scope.kind==.class || (X.env.scope.kind==.module&&X.env.locals != X.env.globals))=AY:=by rw[I.ok.kind];rfl
 have hiσ:i<σ.length:=by rw[I.len];exact(Qr.mp hi).1
 have cne:=I.cne
 have tracked:∀{a:Ue}{h':Heap},(∃o,s.heap.get? a=O o/\H a=AW)->Heap.SameBut a s.heap h'->HOk X.prog X.w H h':=λ{a h'} ha hs b ob e=>by
  obtain⟨_,_,hfree⟩:=ha;refine(I.hok b ob e).stay (λc w' hc q=>(hs.2 c ?_).trans q) (λ_ q=>q) λ_ _ q=>q
  rintro rfl;rcases hc with rfl|hc
  .rw[hfree]at e;cases e
  .rw[hfree]at hc;cases hc
 rcases hx with hk|hk
 .refine wpAny_storeName_local hk hn (λh' hn' hs=>?_) hcls
  obtain⟨oL,_,_,jI,_⟩:=id hn;refine h _ ⟨I.ok,I.os,I.bare,⟨λb o e n hb hx=>?_,λb o e n hb hx=>?_,I.base.free,λb o e hx=>?_,I.base.tups,I.base.frzs,I.base.tbls⟩,⟨_,hn',λj y v' e1 e2 e3=>?_⟩,λy c e=>?_,I.free,I.freeC,λp hp=>?_,tracked ⟨oL,jI,I.free⟩ hs,by simpa using I.len⟩ ⟨_,hs,.inl AV⟩
  .exact(hs.2 b (QQ (QA (Qf e) I.ok.above))).trans (I.base.keep b o e n hb hx)
  .obtain⟨sl,e1⟩:=I.base.slot b o e n hb hx
   exact⟨sl,(hs.2 b (QQ (QA (Qf e) I.ok.above))).trans e1⟩
  .obtain⟨o',e1⟩:=I.base.there b o e hx
   exact⟨o',(hs.2 b (QQ (QA (Qf e) I.ok.above))).trans e1⟩
  .by_cases hj:j=i
   .subst hj
    rw[hi]at e1;cases e1;rw[QJ hiσ]at e2;cases e2;exact⟨u,r,.inl ⟨hk,by simp⟩⟩
   .rw[Ql (Ne.symm hj)]at e2
    obtain⟨u',r',q⟩:=hl j y v' e1 e2 e3;refine⟨u',r',?_⟩;rcases q with ⟨k,e⟩|⟨k,c,e,z⟩
    .refine .inl ⟨k,?_⟩
     have:y≠x:=λe=>hj (OT hN e1 (e ▸ hi))
     simp[this,e]
    .exact .inr ⟨k,c,e,z.sameBut hs (cne y c e)⟩
  .obtain⟨w',z⟩:=I.cell y c e
   exact⟨w',z.sameBut hs (cne y c e)⟩
  .obtain⟨e,n,ne,nf,d⟩:=I.pin p hp
   exact⟨(hs.2 p.1 ne).trans e,n,ne,nf,d⟩
 .have hfn:X.fn x=AX:=by
   rcases hf with z|z
   .exact z
   .rw[z]at hk;cases hk
  obtain⟨c,hc⟩:=I.ok.has x (.inl hk);obtain⟨w',z⟩:=I.cell x c hc;refine wpAny_storeName_cell I.ok.kind hk hc z (λh' hc' hs=>?_);obtain⟨oc,hoc,hocd⟩:=id z;refine h {s with heap:=h'} ⟨I.ok,I.os,I.bare,⟨λb o e n hb hx=>?_,λb o e n hb hx=>?_,I.base.free,λb o e hx=>?_,I.base.tups,I.base.frzs,I.base.tbls⟩,⟨m,hn.sameBut hs (Ne.symm (cne x c hc)),λj y v' e1 e2 e3=>?_⟩,λy c' e=>?_,I.free,I.freeC,λp hp=>?_,tracked ⟨oc,hoc,I.freeC x c hc⟩ hs,by simpa using I.len⟩ ⟨c,hs,.inr hc⟩
  .exact(hs.2 b (QQ (QA (Qf e) (I.ok.cab x c hfn hc)))).trans (I.base.keep b o e n hb hx)
  .obtain⟨sl,e1⟩:=I.base.slot b o e n hb hx
   exact⟨sl,(hs.2 b (QQ (QA (Qf e) (I.ok.cab x c hfn hc)))).trans e1⟩
  .obtain⟨o',e1⟩:=I.base.there b o e hx
   exact⟨o',(hs.2 b (QQ (QA (Qf e) (I.ok.cab x c hfn hc)))).trans e1⟩
  .by_cases hj:j=i
   .subst hj
    rw[hi]at e1;cases e1;rw[QJ hiσ]at e2;cases e2;exact⟨u,r,.inr ⟨.inl hk,c,hc,hc'⟩⟩
   .rw[Ql (Ne.symm hj)]at e2
    obtain⟨u',r',q⟩:=hl j y v' e1 e2 e3;refine⟨u',r',?_⟩;rcases q with q|⟨k,c',e,z'⟩
    .exact .inl q
    .refine .inr ⟨k,c',e,z'.sameBut hs ?_⟩
     rintro rfl;exact hj (OT hN e1 (I.ok.inj _ _ _ e hc ▸ hi))
  .by_cases hcc:c'=c
   .subst hcc;exact⟨_,hc'⟩
   .obtain⟨w2,z2⟩:=I.cell y c' e
    exact⟨w2,z2.sameBut hs hcc⟩
  .obtain⟨e,n,ne,nf,d⟩:=I.pin p hp
   refine⟨(hs.2 p.1 ?_).trans e,n,ne,nf,d⟩;intro q;rw[q,hoc]at e;have q':oc=p.2:=Je e;exact d w' (by rw[←q'];exact hocd)
theorem Se{M:Model}{A:Around}{E:Ub->Uc->Prop}{i:Nat}{x:Str}{v:V}{u:Ub}{Q:Unit->Uc->Prop}(I:Inv X pins σ H s)(hN:X.N.Nodup)(hi:X.N[i]?=O x)(hx:Loc X.env.scope x)(r:RelV v u)
  (h:∀s',Inv X pins (σ.set i (O v)) H s'->Q () s') (hf:X.fn x=AX∨X.env.scope.names.lookup x=O .local:=by first|exact .inl rfl|exact .inr rfl|assumption):Ui M A (storeName X.env x u) Q E s:=
 NQ I hN hi hx r (λs' I' _=>h s' I') hf
theorem Inv.call'{s':Uc}{ch:A5}(I:Inv X pins σ H s)(ho:s'.os=s.os)(u:Un (frs X.stack) ch H H' s.heap s'.heap)(hok:HOk X.prog X.w H' s'.heap)(hg:AllBare s'.gens)
  (hch:∀b∈ch,(b∈X.ex∨X.s₀.heap.objs.size<=b)/\b≠X.env.locals/\(∀x c,X.env.cells.lookup x=O c->c≠b)/\∀p∈X.pn++pins,p.1≠b):Inv X pins σ H' s':=by
 obtain⟨h',g',d',t',o'⟩:=s';have e:o'=s.os:=ho;subst e;exact I.call (g':=g') (t':=t') (d':=d') u hok hg hch
end
abbrev XK:=Ub->qa->Hp->Prop
abbrev St:=List (Option V)
abbrev VK:=V->Hp->Prop
abbrev TE:=St->Hp->VK->Prop
abbrev TT:=St->Hp->(Bool->Hp->Prop)->Prop
abbrev TA:=St->Hp->(List V->Hp->Prop)->Prop
structure Ends where
 nx:St->Hp->Prop
 rt:VK
 bk:St->Hp->Prop:=λ_ _=>False
 ct:St->Hp->Prop:=λ_ _=>False
abbrev TS:=Ends->St->Hp->Prop
def EP(X:Cx)(pins:List (Ue×Obj))(σ:St)(Q:VK)(u:Ub)(s':Uc):Prop:=∃v H',Inv X pins σ H' s'/\RelV v u/\Q v H'
def TP(X:Cx)(pins:List (Ue×Obj))(σ:St)(Q:Bool->Hp->Prop)(b:Bool)(s':Uc):Prop:=∃H',Inv X pins σ H' s'/\Q b H'
def AP(X:Cx)(pins:List (Ue×Obj))(σ:St)(Q:List V->Hp->Prop)(us:A0)(s':Uc):Prop:=∃vs H',Inv X pins σ H' s'/\Vals vs us/\Q vs H'
def SP(X:Cx)(pins:List (Ue×Obj))(D:Ends)(f:Flow)(s':Uc):Prop:=
 match f with
 |.next=>∃σ' H',Inv X pins σ' H' s'/\D.nx σ' H'
 |.brk=>∃σ' H',Inv X pins σ' H' s'/\D.bk σ' H'
 |.cont=>∃σ' H',Inv X pins σ' H' s'/\D.ct σ' H'
 |.ret u=>∃v σ' H',Inv X pins σ' H' s'/\RelV v u/\D.rt v H'
def PE(X:Cx)(e:Ug)(t:TE):Prop:=
 ∀(pins:List (Ue×Obj))(s:Uc)(σ:St)(H:Hp)(Q:VK),Inv X pins σ H s->t σ H Q->Ui (model X.prog X.w) X.A (eval e X.env) (EP X pins σ Q) X.xe s
def PT(X:Cx)(e:Ug)(t:TT):Prop:=
 ∀(pins:List (Ue×Obj))(s:Uc)(σ:St)(H:Hp)(Q:Bool->Hp->Prop),Inv X pins σ H s->t σ H Q->Ui (model X.prog X.w) X.A (isTrue e X.env (eval e X.env)) (TP X pins σ Q) X.xe s
def PW(X:Cx)(e:Ug)(t:TT):Prop:=
 ∀(whole:Sem Ub)(pins:List (Ue×Obj))(s:Uc)(σ:St)(H:Hp)(Q:Bool->Hp->Prop),Inv X pins σ H s->t σ H Q->Ui (model X.prog X.w) X.A (isTrue e X.env whole) (TP X pins σ Q) X.xe s
theorem PW.pt{X:Cx}{e:Ug}{t:TT}(h:PW X e t):PT X e t:=h _
def PA(X:Cx)(es:A4)(t:TA):Prop:=
 ∀(pos:Pos)(pins:List (Ue×Obj))(s:Uc)(σ:St)(H:Hp)(Q:List V->Hp->Prop),Inv X pins σ H s->t σ H Q->Ui (model X.prog X.w) X.A (spliced (backTo pos (Uj es X.env))) (AP X pins σ Q) X.xe s
def PS(X:Cx)(st:Stmt)(t:TS):Prop:=
 ∀(pins:List (Ue×Obj))(s:Uc)(σ:St)(H:Hp)(D:Ends),Inv X pins σ H s->t D σ H->Ui (model X.prog X.w) X.A (exec st X.env) (SP X pins D) X.xe s
def PSs(X:Cx)(st:List Stmt)(t:TS):Prop:=
 ∀(pins:List (Ue×Obj))(s:Uc)(σ:St)(H:Hp)(D:Ends),Inv X pins σ H s->t D σ H->Ui (model X.prog X.w) X.A (execs st X.env) (SP X pins D) X.xe s
theorem thn{α:Type}{t:Sem α}{Q Q':α->Uc->Prop}{M:Model}{A:Around}{E:Ub->Uc->Prop}{s:Uc}(h:Ui M A t Q E s)(hQ:∀a s,Q a s->Q' a s):Ui M A t Q' E s:=QB h hQ λ_ _ x=>x
section
variable{X:Cx}
noncomputable def Kd(i:Nat):TE:=λσ H Q=>∃v,σ[i]?=O (O v)/\Q v H
noncomputable def tC(v:V):TE:=λ_ H Q=>Q v H
theorem PR{i:Nat}{x:Str}{pos:Pos}(hN:X.N[i]?=O x)(hv:Vis X.env.scope x)(hd:(x==("__debug__" : Str))=AY:=by decide)(hcd:(x==("__classdict__" : Str))=AY:=by decide):PE X (.Name x pos) (Kd i):=by
 intro pins s σ H Q I h;obtain⟨v,e,h⟩:=h;obtain⟨m,hn,hl⟩:=I.loc;obtain⟨u,r,l⟩:=hl i x v hN e hv;have fin:EP X pins σ Q u s:=⟨v,H,I,r,h⟩;rcases l with ⟨hk,hm⟩|⟨hk,c,hc,hcell⟩
 .exact wpAny_Name (wpAny_loadName_local I.ok.kind hk hn hm fin) hd
 .rcases hk with hk|hk
  .exact wpAny_Name (wpAny_loadName_cell I.ok.kind hk hc hcell fin) hd
  .exact wpAny_Name (wpAny_loadName_free I.ok.kind hk hc hcell fin hcd) hd
theorem V1{i j pos}:PE X (.Constant (.int i) j pos) (tC (.int i)):=λ_ _ _ H _ I h=>wpAny_Constant_int ⟨.int i,H,I.tok _,⟨_,rfl⟩,h⟩
theorem Hs{b j pos}:PE X (.Constant (.bool b) j pos) (tC (.bl b)):=λ_ _ _ H _ I h=>Constant_bool ⟨.bl b,H,I,rfl,h⟩
theorem HS{j pos}:PE X (.Constant .none j pos) (tC .non):=λ_ _ _ H _ I h=>Constant_none ⟨.non,H,I,rfl,h⟩
theorem TY{x j pos}:PE X (.Constant (.str x) j pos) (tC (.str x)):=λ_ _ _ H _ I h=>Calls.Constant_str ⟨.str x,H,I.tok _,⟨_,rfl⟩,h⟩
def Gl(X:Cx)(x:Str):Prop:=X.env.kindOf x=O .globalImplicit
theorem Xh{E:Ub->Uc->Prop}{pins:List (Ue×Obj)}{s:Uc}{σ:St}{H:Hp}{x:Str}{u:Ub}{pos:Pos}{Q:Ub->Uc->Prop}(I:Inv X pins σ H s)(hg:Gl X x)(hm:X.mg x=O u)(h:Q u s)
  (hd:(x==("__debug__" : Str))=AY:=by decide):Ui (model X.prog X.w) X.A (eval (.Name x pos) X.env) Q E s:=
 Calls.Name_function_global I.ok.kind hg (Calls.loadGlobal_global (by rw[I.ok.glob];exact I.mod.glob.keeps I.bk) hm h) hd
theorem Ww{E:Ub->Uc->Prop}{pins:List (Ue×Obj)}{s:Uc}{σ:St}{H:Hp}{x:Str}{u:Ub}{pos:Pos}{Q:Ub->Uc->Prop}(I:Inv X pins σ H s)(hg:Gl X x)(hm:X.mg x=AW)(hv:bootBuiltins x=O u)(h:Q u s)
  (hn:x ≠ "__name__" :=by decide) (hd:(x==("__debug__" : Str))=AY:=by decide):Ui (model X.prog X.w) X.A (eval (.Name x pos) X.env) Q E s:=by
 obtain⟨mb,h1,h2⟩:=I.mod.blt;exact Calls.Name_function_global I.ok.kind hg (Calls.loadGlobal_builtin (by rw[I.ok.glob];exact I.mod.glob.keeps I.bk) hm (by rw[I.ok.blt];exact h1.keeps I.bk) ((h2 x hn).trans hv) h) hd
theorem OD{x:Str}{v:V}{u:Ub}{pos:Pos}(hg:Gl X x)(hm:X.mg x=O u)(r:RelV v u)(hd:(x==("__debug__" : Str))=AY:=by decide):PE X (.Name x pos) (tC v):=
 λ_ _ _ H _ I h=>Xh I hg hm ⟨v,H,I,r,h⟩ hd
theorem OC{x:Str}{v:V}{u:Ub}{pos:Pos}(hg:Gl X x)(hm:X.mg x=AW)(hv:bootBuiltins x=O u)(r:RelV v u)(hn:x ≠ "__name__" :=by decide)(hd:(x==("__debug__" : Str))=AY:=by decide):PE X (.Name x pos) (tC v):=
 λ_ _ _ H _ I h=>Ww I hg hm hv ⟨v,H,I,r,h⟩ hn hd
variable{a b:Ug}{ta tb:TE}{pos:Pos}
def PC(X:Cx)(op:CmpOp)(a b:Ug)(t:TE):Prop:=
 ∀(pins:List (Ue×Obj))(s:Uc)(σ:St)(H:Hp)(Q:VK),Inv X pins σ H s->t σ H Q ->
  Ui (model X.prog X.w) X.A (eval a X.env) (λv s₁=>Ui (model X.prog X.w) X.A (eval b X.env) (λu s₂=>Ui (model X.prog X.w) X.A (Uk op v u) (EP X pins σ Q) X.xe s₂) X.xe s₁) X.xe s
theorem CL(b:Ug){op:CmpOp}(h:op≠.In)(h2:op≠.NotIn):behindInMarks op b=AY:=by
 have e1:(op==CmpOp.In)=AY:=by cases op<;>first|rfl|exact absurd AV h
 have e2:(op==CmpOp.NotIn)=AY:=by cases op<;>first|rfl|exact absurd AV h2
 cases b<;>simp[behindInMarks,e1,e2]
noncomputable def tIsN(ta:TE):TE:=λσ H Q=>ta σ H λx H1=>Q (.bl (decide (x=.non))) H1
noncomputable def Hr(ta:TE):TE:=λσ H Q=>ta σ H λx H1=>Q (.bl (!decide (x=.non))) H1
theorem RelV.none_iff{x:V}{v:Ub}(r:RelV x v):(v==Value.none)=decide (x=.non):=by
 cases x with
 |non=>cases r;rfl
 |bl _=>cases r;rfl
 |int _=>obtain⟨t,rfl⟩:=r;rfl
 |str _=>obtain⟨t,rfl⟩:=r;rfl
 |byt _=>obtain⟨t,rfl⟩:=r;rfl
 |flt _=>obtain⟨t,rfl⟩:=r;rfl
 |ref _=>cases r;rfl
 |ty _=>cases r;rfl
theorem HR{j pos'}(ha:PE X a ta):PC X .Is a (.Constant .none j pos') (tIsN ta):=by intro pins s σ H Q I h;refine thn (ha pins s σ H _ I h) λv s1 ⟨x,H1,I1,r1,q1⟩=>?_;exact Constant_none (is_none_gen ⟨.bl _,H1,I1,by rw[r1.none_iff];rfl,q1⟩)
theorem Dl{j pos'}(ha:PE X a ta):PC X .IsNot a (.Constant .none j pos') (Hr ta):=by intro pins s σ H Q I h;refine thn (ha pins s σ H _ I h) λv s1 ⟨x,H1,I1,r1,q1⟩=>?_;exact Constant_none (isnot_none_gen ⟨.bl _,H1,I1,by rw[r1.none_iff];rfl,q1⟩)
noncomputable def tB(t:TE):TT:=λσ H Q=>t σ H λx H1=>∃c,x=.bl c/\Q c H1
theorem PQ{op:CmpOp}{t:TE}(h:PC X op a b t)(h1:behindInMarks op b=AY:=by first|exact CL _ (by decide) (by decide)|rfl):PT X (.Compare a [op] [b] pos) (tB t):=by intro pins s σ H Q I hw;refine wpAny_isTrue_Compare1 (thn (h pins s σ H _ I hw) λv s1 h1=>thn h1 λu s2 h2=>thn h2 λc s3 ⟨x,H1,I1,r1,q1⟩=>?_) h1;obtain⟨d,rfl,q⟩:=q1;cases r1;exact Q6 ⟨H1,I1,q⟩
theorem HQ{e:Ug}{t:TE}(h:PE X e t)(he:∀whole,isTrue e X.env whole=(do let v ←whole;standAt e.pos;holding [v] (truthy v)):=by intro _;rfl):PT X e (tB t):=by intro pins s σ H Q I hw;refine isTrue_plain (thn (h pins s σ H _ I hw) λv s1 ⟨x,H1,I1,r1,q1⟩=>?_) (he _);obtain⟨d,rfl,q⟩:=q1;cases r1;exact Q6 ⟨H1,I1,q⟩
variable{tA tB':TT}{rest:A4}
noncomputable def tAnd(t u:TT):TT:=λσ H Q=>t σ H λc H1=>if c=AX then u σ H1 Q else Q AY H1
noncomputable def tOr(t u:TT):TT:=λσ H Q=>t σ H λc H1=>if c=AX then Q AX H1 else u σ H1 Q
noncomputable def tNot(t:TT):TT:=λσ H Q=>t σ H λc H1=>Q (!c) H1
theorem Dk(ha:PT X a tA):PW X (.BoolOp .And [a] pos) tA:=by
 intro wh pins s σ H Q I h;refine isTrue_and (thn (ha pins s σ H Q I h) λc s1 e=>?_);cases c with
 |true=>exact isTrue_and_nil e
 |false=>exact e
theorem HP(ha:PT X a tA):PW X (.BoolOp .Or [a] pos) tA:=by
 intro wh pins s σ H Q I h;refine isTrue_or (thn (ha pins s σ H Q I h) λc s1 e=>?_);cases c with
 |false=>exact isTrue_or_nil e
 |true=>exact e
theorem HN(ha:PT X a tA)(hb:PW X (.BoolOp .And (b::rest) pos) tB'):PW X (.BoolOp .And (a::b::rest) pos) (tAnd tA tB'):=by
 intro wh pins s σ H Q I h;refine isTrue_and (thn (ha pins s σ H _ I h) λc s1 ⟨H1,I1,q1⟩=>?_);cases c with
 |true=>exact hb wh pins s1 σ H1 Q I1 q1
 |false=>exact⟨H1,I1,q1⟩
theorem M9(ha:PT X a tA)(hb:PW X (.BoolOp .Or (b::rest) pos) tB'):PW X (.BoolOp .Or (a::b::rest) pos) (tOr tA tB'):=by
 intro wh pins s σ H Q I h;refine isTrue_or (thn (ha pins s σ H _ I h) λc s1 ⟨H1,I1,q1⟩=>?_);cases c with
 |true=>exact⟨H1,I1,q1⟩
 |false=>exact hb wh pins s1 σ H1 Q I1 q1
theorem HM(ha:PT X a tA):PT X (.UnaryOp .Not a pos) (tNot tA):=by intro pins s σ H Q I h;exact isTrue_not (ha pins s σ H (λc H1=>Q (!c) H1) I h)
noncomputable def M8(ta tb:TE):TE:=λσ H Q=>ta σ H λx H1=>∃c,x=.bl c/\if c=AX then tb σ H1 Q else Q (.bl AY) H1
noncomputable def M7(ta:TE):TE:=λσ H Q=>ta σ H λx H1=>∃c,x=.bl c/\Q (.bl (!c)) H1
theorem HL{op}{t:TE}(h:PE X a t):PE X (.BoolOp op [a] pos) t:=λpins s σ H Q I hw=>BoolOp_one (h pins s σ H Q I hw)
theorem HK(ha:PE X a ta)(hb:PE X (.BoolOp .And (b::rest) pos) tb):PE X (.BoolOp .And (a::b::rest) pos) (M8 ta tb):=by
 intro pins s σ H Q I h;refine BoolOp_and (thn (ha pins s σ H _ I h) λv s1 ⟨x,H1,I1,r1,q1⟩=>?_);obtain⟨c,rfl,q1⟩:=q1;cases r1;refine Q6 ?_;cases c with
 |true=>exact hb pins s1 σ H1 Q I1 q1
 |false=>exact⟨.bl AY,H1,I1,rfl,q1⟩
theorem HJ(ha:PE X a ta):PE X (.UnaryOp .Not a pos) (M7 ta):=by intro pins s σ H Q I h;refine UnaryOp_ (thn (ha pins s σ H _ I h) λv s1 ⟨x,H1,I1,r1,q1⟩=>?_);obtain⟨c,rfl,q1⟩:=q1;cases r1;exact not_of (Q6 ⟨.bl (!c),H1,I1,rfl,q1⟩)
noncomputable def tIf(t:TT)(ta tb:TE):TE:=λσ H Q=>t σ H λc H1=>if c=AX then ta σ H1 Q else tb σ H1 Q
theorem CJ{c:Ug}(hc:PT X c tA)(ha:PE X a ta)(hb:PE X b tb):PE X (.IfExp c a b pos) (tIf tA ta tb):=by
 intro pins s σ H Q I h;refine wpAny_IfExp (thn (hc pins s σ H _ I h) λd s1 ⟨H1,I1,q1⟩=>?_);cases d with
 |true=>exact ha pins s1 σ H1 Q I1 q1
 |false=>exact hb pins s1 σ H1 Q I1 q1
end
def SqL(K:Frag)(H:Hp)(a:Ue)(xs:List V):Prop:=
 Rd H a (.lst xs) ∨
  ∃(o:Obj)(its:Array Ub)(n:Nat),K.lookup a=O o/\o.cls=.type "list" /\ o.dict=AW/\o.data=.seq its n/\its.size<=Uh/\Vals xs its.toList
def SqT(K:Frag)(H:Hp)(a:Ue)(xs:List V):Prop:=
 Rd H a (.tup xs) ∨
  ∃(o:Obj)(its:Array Ub)(n:Nat),K.lookup a=O o/\o.cls=.type "tuple" /\ o.data=.seq its n/\its.size<=Uh/\Vals xs its.toList
noncomputable def absV:Ub->Option V
 |.none=>O .non
 |.bool b=>O (.bl b)
 |.int i _=>O (.int i)
 |.str x _=>O (.str x)
 |.bytes b _=>O (.byt b)
 |.float b _=>O (.flt b)
 |.ref a=>O (.ref a)
 |.type n=>O (.ty n)
 |_=>AW
theorem RelV.abs{x:V}{u:Ub}(r:RelV x u):absV u=O x:=by
 cases x with
 |non=>cases r;rfl
 |bl _=>cases r;rfl
 |int _=>obtain⟨t,rfl⟩:=r;rfl
 |str _=>obtain⟨t,rfl⟩:=r;rfl
 |byt _=>obtain⟨t,rfl⟩:=r;rfl
 |flt _=>obtain⟨t,rfl⟩:=r;rfl
 |ref _=>cases r;rfl
 |ty _=>cases r;rfl
theorem RelV.inj{x y:V}{u:Ub}(r:RelV x u)(q:RelV y u):x=y:=Je (r.abs.symm.trans q.abs)
theorem Vals.inj:∀{xs ys:List V}{us:A0},Vals xs us->Vals ys us->xs=ys
 |_,_,_,.nil,.nil=>rfl
 |_,_,_,.cons r t,.cons r' t'=>by rw[r.inj r',Vals.inj t t']
section
variable{X:Cx}{pins:List (Ue×Obj)}{σ:St}{H:Hp}{s:Uc}{a:Ue}{xs ys:List V}
theorem SqL.of{K:Frag}(h:H a=O (.lst xs)):SqL K H a xs:=.inl (.inl h)
theorem SqT.of{K:Frag}(h:H a=O (.tup xs)):SqT K H a xs:=.inl (.inl h)
theorem Inv.list(I:Inv X pins σ H s)(h:SqL X.K H a xs):∃its:A0,Vals xs its/\PlainL s.heap a its.toArray/\xs.length<=Uh:=by
 rcases h with h|⟨o,its,n,hk,hc,hd,hs,hz,r⟩
 .obtain⟨z,its,n,r,e⟩:=h.ok I.hok
  exact⟨its,r,⟨_,n,e,rfl,rfl,rfl⟩,z⟩
 .refine⟨its.toList,r,⟨o,n,I.kIn a o hk,hc,hd,by simpa using hs⟩,?_⟩
  have e:=r.length;simp only[J4]at e;omega
theorem Inv.tuple(I:Inv X pins σ H s)(h:SqT X.K H a xs):∃its:A0,Vals xs its/\IsTup s.heap a its.toArray/\xs.length<=Uh:=by
 rcases h with h|⟨o,its,n,hk,hc,hs,hz,r⟩
 .obtain⟨z,its,r,p⟩:=h.ok I.hok
  exact⟨its,r,p,z⟩
 .refine⟨its.toList,r,⟨o,I.kIn a o hk,hc,n,by simpa using hs⟩,?_⟩
  have e:=r.length;simp only[J4]at e;omega
theorem Inv.list_inj(I:Inv X pins σ H s)(h:SqL X.K H a xs)(h':SqL X.K H a ys):xs=ys:=by
 obtain⟨its,r,⟨o,n,e,_,_,d⟩,_⟩:=I.list h;obtain⟨its',r',⟨o',n',e',_,_,d'⟩,_⟩:=I.list h';rw[e]at e';cases e';rw[d]at d';injection d' with d1 _
 have:its=its':=by simpa using congrArg Array.toList d1
 subst this;exact r.inj r'
theorem Inv.tuple_inj(I:Inv X pins σ H s)(h:SqT X.K H a xs)(h':SqT X.K H a ys):xs=ys:=by
 obtain⟨its,r,⟨o,e,_,n,d⟩,_⟩:=I.tuple h;obtain⟨its',r',⟨o',e',_,n',d'⟩,_⟩:=I.tuple h';rw[e]at e';cases e';rw[d]at d';injection d' with d1 _
 have:its=its':=by simpa using congrArg Array.toList d1
 subst this;exact r.inj r'
end
noncomputable abbrev Cx.wish(X:Cx)(E:Ub->Uc->Prop):Cx:={X with xe:=E}
noncomputable abbrev Cx.nox(X:Cx):Cx:=X.wish λ_ _=>False
theorem Cx.Ok.wish{X:Cx}(ok:X.Ok)(E:Ub->Uc->Prop):(X.wish E).Ok:=
 ⟨ok.mod,ok.kind,ok.glob,ok.blt,ok.above,ok.inj,ok.has,ok.cab,ok.hd,ok.frames,ok.stk,ok.exf,ok.bs,ok.bsz,ok.noex,ok.exfs,ok.funs,ok.frf⟩
theorem Cx.Ok.unwish{X:Cx}{E:Ub->Uc->Prop}(ok:(X.wish E).Ok):X.Ok:=
 ⟨ok.mod,ok.kind,ok.glob,ok.blt,ok.above,ok.inj,ok.has,ok.cab,ok.hd,ok.frames,ok.stk,ok.exf,ok.bs,ok.bsz,ok.noex,ok.exfs,ok.funs,ok.frf⟩
section
variable{X:Cx}{pins:List (Ue×Obj)}{σ:St}{H:Hp}{s:Uc}{E:Ub->Uc->Prop}
theorem Inv.wish(I:Inv X pins σ H s)(E:Ub->Uc->Prop):Inv (X.wish E) pins σ H s:=⟨I.ok.wish E,I.os,I.bare,I.base,I.loc,I.cell,I.free,I.freeC,I.pin,I.hok,I.len⟩
theorem Inv.unwish(I:Inv (X.wish E) pins σ H s):Inv X pins σ H s:=⟨I.ok.unwish,I.os,I.bare,I.base,I.loc,I.cell,I.free,I.freeC,I.pin,I.hok,I.len⟩
theorem SP.unwish{D:Ends}{f:Flow}{s':Uc}(h:SP (X.wish E) pins D f s'):SP X pins D f s':=by
 cases f with
 |next=>obtain⟨σ',H',I,q⟩:=h;exact⟨σ',H',I.unwish,q⟩
 |brk=>obtain⟨σ',H',I,q⟩:=h;exact⟨σ',H',I.unwish,q⟩
 |cont=>obtain⟨σ',H',I,q⟩:=h;exact⟨σ',H',I.unwish,q⟩
 |ret u=>obtain⟨v,σ',H',I,r,q⟩:=h;exact⟨v,σ',H',I.unwish,r,q⟩
theorem PSs.nox{st:List Stmt}{t:TS}(h:PSs X.nox st t):PSs X st t:=λpins s σ H D I hw=>
 QB (h pins s σ H D (I.wish _) hw) (λ_ _ q=>q.unwish) λ_ _ z=>False.elim z
end
section
variable{X:Cx}{st:Stmt}{rest:List Stmt}{t u:TS}{e:Ug}{te:TE}{pos:Pos}
noncomputable def M6:TS:=λD σ H=>D.nx σ H
noncomputable def Yr(t u:TS):TS:=λD σ H=>t {D with nx:=u D} σ H
theorem Dj:PSs X [] M6:=λ_ _ σ H _ I h=>Jw ⟨σ,H,I,h⟩
theorem WI(h1:PS X st t)(h2:PSs X rest u):PSs X (st::rest) (Yr t u):=by
 intro pins s σ H D I h;refine wpAny_execs_cons (thn (h1 pins s σ H {D with nx:=u D} I h) λf s1 q=>?_);cases f with
 |next=>obtain⟨σ',H',I',q⟩:=q;exact h2 pins s1 σ' H' D I' q
 |ret v=>exact q
 |brk=>exact q
 |cont=>exact q
theorem WG(h1:PS X st t):PSs X [st] t:=by
 intro pins s σ H D I h;refine wpAny_execs_cons (thn (h1 pins s σ H D I h) λf s1 q=>?_);cases f with
 |next=>exact Jw q
 |ret v=>exact q
 |brk=>exact q
 |cont=>exact q
theorem Inv.quiet{pins:List (Ue×Obj)}{σ:St}{H:Hp}{s:Uc}(I:Inv X pins σ H s):interactive X.env=AY:=by simp[interactive,I.ok.kind]
noncomputable def TK(te:TE):TS:=λD σ H=>te σ H λ_ H1=>D.nx σ H1
theorem Y6(he:PE X e te)(hs:swapsWith e AW pos.line X.env=pure AY:=by rfl):PS X (.Expr e pos) (TK te):=by intro pins s σ H D I h;exact wpAny_Expr_any (thn (he pins s σ H _ I h) λv s1 ⟨x,H1,I1,r1,q1⟩=>⟨σ,H1,I1,q1⟩) I.quiet hs
noncomputable def tRet(te:TE):TS:=λD σ H=>te σ H D.rt
theorem SV(he:PE X e te):PS X (.Return (O e) pos) (tRet te):=by intro pins s σ H D I h;exact wpAny_Return_some (thn (he pins s σ H _ I h) λv s1 ⟨x,H1,I1,r1,q1⟩=>⟨x,σ,H1,I1,r1,q1⟩)
noncomputable def tIfS(c:TT)(t u:TS):TS:=λD σ H=>c σ H λb H1=>if b=AX then t D σ H1 else u D σ H1
theorem M5{c:Ug}{a b:List Stmt}{tc:TT}(hc:PT X c tc)(ha:PSs X a t)(hb:PSs X b u):PS X (.If c a b pos) (tIfS tc t u):=by
 intro pins s σ H D I h;refine wpAny_If (thn (hc pins s σ H _ I h) λd s1 ⟨H1,I1,q1⟩=>?_);cases d with
 |true=>exact ha pins s1 σ H1 D I1 q1
 |false=>exact hb pins s1 σ H1 D I1 q1
end
abbrev TG:=V->St->Hp->(St->Hp->Prop)->Prop
abbrev TGs:=List V->St->Hp->(St->Hp->Prop)->Prop
def PG(X:Cx)(target:Ug)(t:TG):Prop:=
 ∀(pins:List (Ue×Obj))(s:Uc)(σ:St)(H:Hp)(v:V)(u:Ub)(Q:St->Hp->Prop),Inv X pins σ H s->RelV v u->t v σ H Q ->
  Ui (model X.prog X.w) X.A (assign target X.env u) (λ_ s'=>∃σ' H',Inv X pins σ' H' s'/\Q σ' H') X.xe s
def PGs(X:Cx)(ts:A4)(t:TGs):Prop:=
 ∀(pins:List (Ue×Obj))(s:Uc)(σ:St)(H:Hp)(vs:List V)(us:A0)(Q:St->Hp->Prop),Inv X pins σ H s->Vals vs us->t vs σ H Q ->
  Ui (model X.prog X.w) X.A (assignInOrder ((Uz ts X.env).map (·.2)) us) (λ_ s'=>∃σ' H',Inv X pins σ' H' s'/\Q σ' H') X.xe s
section
variable{X:Cx}{pos:Pos}
noncomputable def SN(i:Nat):TG:=λv σ H Q=>Q (σ.set i (O v)) H
theorem Rf{i:Nat}{x:Str}(hN:X.N.Nodup)(hi:X.N[i]?=O x)(hx:Loc X.env.scope x)(hf:X.fn x=AX∨X.env.scope.names.lookup x=O .local:=by first|exact .inl rfl|exact .inr rfl|assumption):PG X (.Name x pos) (SN i):=by intro pins s σ H v u Q I r h;exact wpAny_assign_Name (Se I hN hi hx r (λs' I'=>⟨_,H,I',h⟩) hf)
noncomputable def gNil:TGs:=λvs σ H Q=>vs=[]/\Q σ H
noncomputable def M4(t:TG)(u:TGs):TGs:=λvs σ H Q=>∃v r,vs=v::r/\t v σ H λσ' H'=>u r σ' H' Q
theorem Di:PGs X [] gNil:=by intro pins s σ H vs us Q I r h;obtain⟨e,h⟩:=h;subst e;cases r;exact assignInOrder_nil ⟨σ,H,I,h⟩
theorem CI{e:Ug}{es:A4}{t:TG}{u:TGs}(h1:PG X e t)(h2:PGs X es u)
  (hs:(Uz (e::es) X.env).map (·.2)=assign e X.env::(Uz es X.env).map (·.2):=by rfl):PGs X (e::es) (M4 t u):=by
 intro pins s σ H vs us Q I r h;obtain⟨v,vr,e1,h⟩:=h;subst e1;cases r with
 |cons r rr=>rw[hs];refine assignInOrder_cons (thn (h1 pins s σ H _ _ _ I r h) λ_ s1 ⟨σ1,H1,I1,q1⟩=>?_);exact h2 pins s1 σ1 H1 _ _ Q I1 rr q1
noncomputable def gTup(K:Frag)(n:Nat)(t:TGs):TG:=λv σ H Q=>∃a xs,v=.ref a/\SqT K H a xs/\xs.length=n/\t xs σ H Q
theorem HI{es:A4}{k:Nat}{t:TGs}{n:Nat}(hc:X.calm=AX)(h:PGs X es t)
  (hn:(Uz es X.env).length=n:=by rfl) (hst:(Uz es X.env).findIdx? (·.1)=AW:=by rfl):PG X (.Tuple es k pos) (gTup X.K n t):=by
 intro pins s σ H v u Q I r hw;obtain⟨a,xs,e1,hq,hl,hw⟩:=hw;subst e1;cases r;obtain⟨its,rv,ht,hz⟩:=I.tuple hq;refine assign_Tuple_tuple (I.ok.hd hc) ht (by simp[hn,←hl,rv.length]) hst λh' hx=>?_
 have I1:Inv X pins σ H {s with heap:=h'}:=I.kept (t':=s.toks) λb o e=>hx b o (QQ (Qf e)) e;exact h pins _ σ H xs _ Q I1 (by simpa using rv) hw
noncomputable def tAsg(te:TE)(g:TG):TS:=λD σ H=>te σ H λx H1=>g x σ H1 D.nx
theorem HH{tg e:Ug}{te:TE}{g:TG}(he:PE X e te)(hg:PG X tg g)(hs:swapsWithSole [tg] e pos.line X.env=pure AY:=by rfl)(hw:swappedStores [tg] e X.env=pure AW:=by rfl)
  (h1:(Uz [tg] X.env).map (·.2)=[assign tg X.env]:=by rfl):PS X (.Assign [tg] e pos) (tAsg te g):=by
 intro pins s σ H D I h;refine wpAny_Assign_stores (thn (he pins s σ H _ I h) λv s1 ⟨x,H1,I1,r1,q1⟩=>?_) hs hw;rw[h1];exact thn (hg pins s1 σ H1 x v _ I1 r1 q1) λ_ s2 q=>q
theorem SU{i:Nat}{x:Str}{e:Ug}{te:TE}{pos':Pos}(hN:X.N.Nodup)(hi:X.N[i]?=O x)(hx:Loc X.env.scope x)(he:PE X e te)(hs:swapsWith e (O (.Name x pos')) pos.line X.env=pure AY:=by rfl)(hf:X.fn x=AX∨X.env.scope.names.lookup x=O .local:=by first|exact .inl rfl|exact .inr rfl|assumption) :
  PS X (.Assign [.Name x pos'] e pos) (tAsg te (SN i)):=by
 intro pins s σ H D I h;refine wpAny_Assign_Name (thn (he pins s σ H _ I h) λv s1 ⟨y,H1,I1,r1,q1⟩=>?_) hs;exact Se I1 hN hi hx r1 (λs2 I2=>⟨_,H1,I2,q1⟩) hf
end
structure It where
 go:Nat->Hp->Prop
 yld:Nat->Hp->V->Hp->Prop
 stop:Nat->Hp->Prop
def Kt(X:Cx)(pins:List (Ue×Obj))(H:Hp)(b:Ue):Prop:=
 H b=AW/\b≠X.env.locals/\b∉X.fs/\(b∈X.ex∨X.s₀.heap.objs.size<=b)/\(∀x c,X.env.cells.lookup x=O c->c≠b)/\∀p∈X.pn++pins,p.1≠b
theorem Inv.fpOk{X:Cx}{pins:List (Ue×Obj)}{σ:St}{H H':Hp}{s:Uc}{b:Ue}(I:Inv X pins σ H s)(hb:s.heap.objs.size<=b)(hn:H' b=AW):Kt X pins H' b:=by
 refine⟨hn,Jk (QA I.lt hb),I.nofs hb,.inr (Qt I.sz hb),λx c e z=>?_,λp hp z=>?_⟩
 .obtain⟨v,q⟩:=I.cell x c e
  exact absurd (QA q.lt (by rw[z];exact hb)) (Jn _)
 .exact absurd (QA (Qf (I.pin p hp).1) (by rw[z];exact hb)) (Jn _)
structure Turn(P:Ud)(w:World)(K:Frag)(tg:Ug)(J:It)(fp:A5)(it:Ue)(tn:Nat->Heap->Prop):Prop where
 mem:it∈fp
 obj:∀i h,tn i h->∀b∈fp,∃o,h.get? b=O o/\∀v,o.data≠.cell v
 keep:∀i h h',tn i h->(∀b∈fp,∀o,h.get? b=O o->h'.get? b=O o)->tn i h'
 item:∀(X:Cx),X.prog=P->X.w=w->X.K=K->X.calm=AX->∀(i:Nat)(pins:List (Ue×Obj))(s:Uc)(σ:St)(H:Hp)(E:Ub->Uc->Prop),Inv X pins σ H s->(∀b∈fp,Kt X pins H b)->tn i s.heap->J.go i H ->
  Ui (model P w) X.A (pyNext (.ref it)) (λr s1=>∃u,r=O u /\
   Ui (model P w) X.A (letOwnedTupleGo tg (.ref it) u) (λ_ s2=>∃x H',Inv X pins σ H' s2/\RelV x u/\J.yld i H x H'/\tn (i+1) s2.heap/\∀b∈fp,H' b=AW) E s1) E s
 done:∀(X:Cx),X.prog=P->X.w=w->X.K=K->X.calm=AX->∀(i:Nat)(pins:List (Ue×Obj))(s:Uc)(σ:St)(H:Hp)(E:Ub->Uc->Prop),Inv X pins σ H s->(∀b∈fp,Kt X pins H b)->tn i s.heap->J.stop i H ->
  Ui (model P w) X.A (pyNext (.ref it)) (λr s1=>r=AW/\Inv X pins σ H s1) E s
 self:∀(A:Around)(i:Nat)(s:Uc)(Q:Ub->Uc->Prop)(E:Ub->Uc->Prop),tn i s.heap->Q (.ref it) s->Ui (model P w) A (pyIter (.ref it)) Q E s
abbrev TI:=St->Hp->(It->Hp->Prop)->Prop
def PIE(X:Cx)(pins:List (Ue×Obj))(σ:St)(tg:Ug)(R:It->Hp->Prop)(itv:Ub)(s2:Uc):Prop:=
 ∃(it:Ue)(fp:A5)(tn:Nat->Heap->Prop)(J:It)(H':Hp),itv=.ref it/\Inv X pins σ H' s2/\Turn X.prog X.w X.K tg J fp it tn/\tn 0 s2.heap/\(∀b∈fp,Kt X pins H' b)/\R J H'
def PI(X:Cx)(tg iter:Ug)(wi:TI):Prop:=
 ∀(pins:List (Ue×Obj))(s:Uc)(σ:St)(H:Hp)(R:It->Hp->Prop),Inv X pins σ H s->wi σ H R ->
  Ui (model X.prog X.w) X.A (eval iter X.env) (λv s1=>Ui (model X.prog X.w) X.A (pyIter v) (PIE X pins σ tg R) X.xe s1) X.xe s
theorem TJ{M:Model}{A:Around}{E:Ub->Uc->Prop}{s:Uc}{tg:Ug}{it:Ue}{u:Ub}{o:Obj}{n:String}{vs:Array Ub}{Q:Unit->Uc->Prop}(ho:s.heap.get? it=O o)(hc:o.cls=.type n)(hd:o.data=.fields vs)
  (hn:["enumerate", "zip", "dict_itemiterator", "dict_reverseitemiterator", "odict_iterator", "itertools.zip_longest", "itertools.pairwise"].contains n=AY) (hQ:Q () s):Ui M A (letOwnedTupleGo tg (.ref it) u) Q E s:=by
 unfold letOwnedTupleGo
 cases tg<;>first
  |exact Qi hQ
  |(cases u<;>first
    |exact Qi hQ
    |(
      refine Qb (wpAny_load ho ?_);rw[hc,hd];show Ui M A (if(["enumerate", "zip", "dict_itemiterator", "dict_reverseitemiterator", "odict_iterator", "itertools.zip_longest", "itertools.pairwise"].contains n&&vs[0]?==O (rawInt _))=AX then _ else _) Q E s;rw[Qz (by intro h;rw[hn,Bool.false_and]at h;cases h)];exact Qi hQ))
noncomputable def Itl(K:Frag)(a:Ue):It:=
 ⟨λi H=>∃xs x,SqL K H a xs/\xs[i]?=O x,λi H x H'=>H'=H/\∀xs,SqL K H a xs->xs[i]?=O x,λi H=>∃xs,SqL K H a xs/\xs.length<=i⟩
noncomputable def Itt(K:Frag)(a:Ue):It:=
 ⟨λi H=>∃xs x,SqT K H a xs/\xs[i]?=O x,λi H x H'=>H'=H/\∀xs,SqT K H a xs->xs[i]?=O x,λi H=>∃xs,SqT K H a xs/\xs.length<=i⟩
noncomputable def Itr(lo:Int)(n:Nat):It:=⟨λi _=>i<n,λi H x H'=>H'=H/\x=.int (lo+i),λi _=>n<=i⟩
theorem NP{P:Ud}{w:World}{K:Frag}{tg:Ug}(a it:Ue):Turn P w K tg (Itl K a) [it] it (λi h=>h.IsListIter it a i) where
 mem:=by simp
 obj:=λi h st b hb=>by
  have e:b=it:=by simpa using hb
  subst e;obtain⟨o,e,c,d⟩:=st;exact⟨o,e,λv z=>by rw[d]at z;cases z⟩
 keep:=λi h h' st k=>st.at λo e=>k it (by simp) o e
 item:=by
  intro X hP hw hK hc i pins s σ H E I hf st hg;subst hP hw hK;obtain⟨xs,x,hq,hx⟩:=hg;obtain⟨its,rv,p,hz⟩:=I.list hq;obtain⟨u,hu,ru⟩:=rv.get hx;obtain⟨f0,f1,f2,f3,f4,f5⟩:=hf it (by simp);refine wpAny_pyNext_list_item st p.isList (x:=u) (by simpa using hu) λh' st' sb=>?_
  have I1:Inv X pins σ H {s with heap:=h'}:=I.turned (t':=s.toks) (λb o hb e=>(sb.2 b hb).trans e) f0 f1 f3 f4 f5;obtain⟨o,e,c,d⟩:=id st';exact⟨u,rfl,TJ (s:={s with heap:=h'}) e c d (by decide) ⟨x,H,I1,ru,⟨rfl,λys hy=>by rw[I.list_inj hy hq];exact hx⟩,st',λb hb=>(hf b hb).1⟩⟩
 done:=by intro X hP hw hK hc i pins s σ H E I hf st hg;subst hP hw hK;obtain⟨xs,hq,hx⟩:=hg;obtain⟨its,rv,p,hz⟩:=I.list hq;obtain⟨f0,f1,f2,f3,f4,f5⟩:=hf it (by simp);have hl:=rv.length;exact wpAny_pyNext_list_end (I.ok.hd hc) st p.isList (by simp;omega) λh' eb=>⟨rfl,I.turned (t':=s.toks) (λb o hb e=>eb b o hb e) f0 f1 f3 f4 f5⟩
 self:=λ_ _ _ _ _ st h=>wpAny_pyIter_listiter st h
theorem Al{P:Ud}{w:World}{K:Frag}{tg:Ug}(a it:Ue):Turn P w K tg (Itt K a) [it] it (λi h=>h.IsTupleIter it a i) where
 mem:=by simp
 obj:=λi h st b hb=>by
  have e:b=it:=by simpa using hb
  subst e;obtain⟨o,e,c,d⟩:=st;exact⟨o,e,λv z=>by rw[d]at z;cases z⟩
 keep:=λi h h' st k=>st.at λo e=>k it (by simp) o e
 item:=by
  intro X hP hw hK hc i pins s σ H E I hf st hg;subst hP hw hK;obtain⟨xs,x,hq,hx⟩:=hg;obtain⟨its,rv,p,hz⟩:=I.tuple hq;obtain⟨u,hu,ru⟩:=rv.get hx;obtain⟨f0,f1,f2,f3,f4,f5⟩:=hf it (by simp);refine wpAny_pyNext_tuple_item st (show s.heap.IsTuple a its.toArray from p) (x:=u) (by simpa using hu) λh' st' sb=>?_
  have I1:Inv X pins σ H {s with heap:=h'}:=I.turned (t':=s.toks) (λb o hb e=>(sb.2 b hb).trans e) f0 f1 f3 f4 f5;obtain⟨o,e,c,d⟩:=id st';exact⟨u,rfl,TJ (s:={s with heap:=h'}) e c d (by decide) ⟨x,H,I1,ru,⟨rfl,λys hy=>by rw[I.tuple_inj hy hq];exact hx⟩,st',λb hb=>(hf b hb).1⟩⟩
 done:=by intro X hP hw hK hc i pins s σ H E I hf st hg;subst hP hw hK;obtain⟨xs,hq,hx⟩:=hg;obtain⟨its,rv,p,hz⟩:=I.tuple hq;obtain⟨f0,f1,f2,f3,f4,f5⟩:=hf it (by simp);have hl:=rv.length;exact wpAny_pyNext_tuple_end (I.ok.hd hc) st (show s.heap.IsTuple a its.toArray from p) (by simp;omega) λh' eb=>⟨rfl,I.turned (t':=s.toks) (λb o hb e=>eb b o hb e) f0 f1 f3 f4 f5⟩
 self:=λ_ _ _ _ _ st h=>wpAny_pyIter_tupleiter st h
theorem BJ{P:Ud}{w:World}{K:Frag}{tg:Ug}(it:Ue)(lo:Int)(n:Nat):Turn P w K tg (Itr lo n) [it] it (λi h=>IsRangeIter h it (lo+(i:Nat)*1) ((n:Int)-(i:Nat)) 1) where
 mem:=by simp
 obj:=λi h st b hb=>by
  have e:b=it:=by simpa using hb
  subst e;exact⟨_,st,λv z=>by have z':Data.fields _=Data.cell v:=z;cases z'⟩
 keep:=λi h h' st k=>k it (by simp) _ st
 item:=by
  intro X hP hw hK hc i pins s σ H E I hf st hg;subst hP hw hK;obtain⟨f0,f1,f2,f3,f4,f5⟩:=hf it (by simp);have W:=Walks.range (prog:=X.prog) (w:=X.w) (I.ok.hd hc) it lo 1 n;refine W.item i s _ _ hg st λv h' tk hv st' kk=>?_
  obtain⟨t,rfl⟩:=hv;have I1:Inv X pins σ H {s with heap:=h',toks:=tk}:=I.turned (λb o hb e=>kk b o (by simpa using hb) e) f0 f1 f3 f4 f5;refine⟨_,rfl,TJ (s:={s with heap:=h',toks:=tk}) (n:= "range_iterator") st' AV AV (by decide) ⟨.int (lo+i),H,I1,⟨t,?_⟩,⟨rfl,rfl⟩,st',λb hb=>(hf b hb).1⟩⟩;rw[Int.mul_one]
 done:=by intro X hP hw hK hc i pins s σ H E I hf st hg;subst hP hw hK;obtain⟨f0,f1,f2,f3,f4,f5⟩:=hf it (by simp);exact wpAny_pyNext_range_end (I.ok.hd hc) st (by have:n<=i:=hg;omega) λh' eb=>⟨rfl,I.turned (t':=s.toks) (λb o hb e=>eb b o hb e) f0 f1 f3 f4 f5⟩
 self:=λ_ _ _ _ _ st h=>wpAny_pyIter_rangeiter st h
section
variable{X:Cx}{tg:Ug}
noncomputable def M0(K:Frag)(tl:TE):TI:=λσ H R=>tl σ H λx H1=>∃a,x=.ref a/\(∃xs,SqL K H1 a xs)/\R (Itl K a) H1
theorem Dh{l:Ug}{tl:TE}(hl:PE X l tl):PI X tg l (M0 X.K tl):=by
 intro pins s σ H R I h;refine thn (hl pins s σ H _ I h) λv s1 ⟨x,H1,I1,r1,q1⟩=>?_
 obtain⟨a,e,⟨xs,hq⟩,q⟩:=q1;subst e;cases r1;obtain⟨its,rv,p,hz⟩:=I1.list hq;refine wpAny_pyIter_list p.isList ?_;refine⟨s1.heap.objs.size,[s1.heap.objs.size],_,_,H1,rfl,I1.kept (t':=s1.toks) λb o e=>Qe _ e,NP a _,⟨_,QD _ AV,rfl,rfl⟩,λb hb=>?_,q⟩;have e:b=s1.heap.objs.size:=by simpa using hb
 subst e;exact I1.fpOk (Qq _) (I1.hok.fresh (Qq _))
theorem OS{pins:List (Ue×Obj)}{σ:St}{H:Hp}{s:Uc}{R:It->Hp->Prop}{E:Ub->Uc->Prop}{lo hi:Int}{t u v:Tok}{tk:Nat}(I:Inv X pins σ H s)(h1 : -(2 ^ 62)<=lo)(h2:lo<2 ^ 62)(h3 : -(2 ^ 62)<=hi)(h4:hi<2 ^ 62)
  (q:R (Itr lo (hi-lo).toNat) H):Ui (model X.prog X.w) X.A (pyIter (.ref s.heap.objs.size)) (PIE X pins σ tg R) E {s with heap:=s.heap.push {cls:=.type "range", data:=.fields #[.int lo t,.int hi u,.int 1 v]},toks:=tk}:=by
 refine wpAny_pyIter_range (IsRange.new ..) (small_one h1 h2 h3 h4) ?_;have I1:Inv X pins σ H {s with heap:=s.heap.push {cls:=.type "range", data:=.fields #[.int lo t,.int hi u,.int 1 v]},toks:=tk}:=I.kept λb o e=>Qe _ e
 refine⟨(s.heap.push {cls:=.type "range", data:=.fields #[.int lo t,.int hi u,.int 1 v]}).objs.size,[(s.heap.push {cls:=.type "range", data:=.fields #[.int lo t,.int hi u,.int 1 v]}).objs.size],_,_,H,rfl,
  I1.kept (t':=tk) λb o e=>Qe _ e,BJ _ lo (hi-lo).toNat,?_,λb hb=>?_,q⟩
 .have e1:lo+((0:Nat):Int)*1=lo:=by simp
  have e2:(((hi-lo).toNat:Nat):Int)-((0:Nat):Int)=Builtin.Range.rangeSize lo hi 1:=by rw[rangeSize_one];split<;>omega
  show IsRangeIter _ _ (lo+((0:Nat):Int)*1) ((((hi-lo).toNat:Nat):Int)-((0:Nat):Int)) 1;rw[e1,e2];exact QD _ AV
 .have e:b=(s.heap.push {cls:=.type "range", data:=.fields #[.int lo t,.int hi u,.int 1 v]}).objs.size:=by simpa using hb
  subst e;exact I1.fpOk (Qq _) (I1.hok.fresh (Qq _))
noncomputable def MZ(ta:TA):TI:=λσ H R=>ta σ H λvs H1=>∃j:Int,vs=[.int j] /\ -(2 ^ 62)<=j/\j<2 ^ 62/\R (Itr 0 j.toNat) H1
noncomputable def MY(ta:TA):TI:=λσ H R=>ta σ H λvs H1=>∃i j:Int,vs=[.int i,.int j]/\(-(2 ^ 62)<=i/\i<2 ^ 62 /\ -(2 ^ 62)<=j/\j<2 ^ 62)/\R (Itr i (j-i).toNat) H1
theorem BL{a:Ug}{ta:TA}{p pos:Pos}(hg:Gl X "range")(hm:X.mg "range" = AW)(ha:PA X [a] ta)(hs:Uj [a] X.env=[(AY,eval a X.env)]:=by rfl):PI X tg (.Call (.Name "range" p) [a] [] pos) (MZ ta):=by
 intro pins s σ H R I h;refine Call_ (Ww I hg hm boot_range (JG (thn (ha pos pins s σ H _ I h) λus s1 ⟨vs,H1,I1,r1,q1⟩=>?_) hs AV));obtain⟨j,e,q1,q2,q⟩:=q1;subst e;cases r1 with
 |cons r rr=>cases rr;obtain⟨t,rfl⟩:=r;exact call_range_1 (OS I1 (by omega) (by omega) q1 q2 (by simpa using q))
theorem BK{a b:Ug}{ta:TA}{p pos:Pos}(hg:Gl X "range")(hm:X.mg "range" = AW)(ha:PA X [a,b] ta)(hs:Uj [a,b] X.env=[(AY,eval a X.env),(AY,eval b X.env)]:=by rfl)(hs2:Uj [b] X.env=[(AY,eval b X.env)]:=by rfl) :
  PI X tg (.Call (.Name "range" p) [a,b] [] pos) (MY ta):=by
 intro pins s σ H R I h;refine Call_ (Ww I hg hm boot_range (JG (thn (ha pos pins s σ H _ I h) λus s1 ⟨vs,H1,I1,r1,q1⟩=>?_) (by rw[hs,hs2]) (by rw[hs2];rfl)));obtain⟨i,j,e,⟨q1,q2,q3,q4⟩,q⟩:=q1;subst e;cases r1 with
 |cons r rr=>
  cases rr with
  |cons r' rr=>cases rr;obtain⟨t,rfl⟩:=r;obtain⟨t',rfl⟩:=r';exact call_range_2 (OS I1 q1 q2 q3 q4 q)
noncomputable def tFor(wi:TI)(g:TG)(tb:TS):TS:=λD σ H=>wi σ H λJ H1=>∃W:Nat->Nat->St->Hp->Prop,(∃m,W 0 m σ H1)/\∀i m σ H,W i m σ H ->
 (J.stop i H/\D.nx σ H)∨(J.go i H/\∃N:St->Hp->Prop,(∀σ' H',N σ' H'->∃m',m'<m/\W (i+1) m' σ' H')/\∀x H',J.yld i H x H'->g x σ H' λσ2 H2=>tb {D with nx:=N,ct:=N,bk:=D.nx} σ2 H2)
noncomputable def Vr(fp:A5)(h:Heap):List (Ue×Obj):=fp.filterMap λb=>(h.get? b).map λo=>(b,o)
theorem VH{fp:A5}{h:Heap}{b:Ue}{o:Obj}(hb:b∈fp)(e:h.get? b=O o):(b,o)∈Vr fp h:=List.mem_filterMap.mpr ⟨b,hb,by rw[e];rfl⟩
theorem B9{fp:A5}{h:Heap}{p:Ue×Obj}(hp:p∈Vr fp h):p.1∈fp/\h.get? p.1=O p.2:=by
 obtain⟨b,hb,e⟩:=List.mem_filterMap.mp hp;cases q:h.get? b with
 |none=>rw[q]at e;cases e
 |some o=>rw[q]at e;have e':(b,o)=p:=Je e;subst e';exact⟨hb,q⟩
theorem Inv.pinned{pins:List (Ue×Obj)}{σ:St}{H:Hp}{s:Uc}{fp:A5}(I:Inv X pins σ H s)(hf:∀b∈fp,Kt X pins H b)(ho:∀b∈fp,∃o,s.heap.get? b=O o/\∀v,o.data≠.cell v):Inv X (pins++Vr fp s.heap) σ H s:=
 I.pins_of λp hp=>(QE.mp hp).elim (λz=>I.pin p (Qo _ z)) λz=>by obtain⟨hb,e⟩:=B9 z;obtain⟨f0,f1,f2,_⟩:=hf p.1 hb;obtain⟨o,e',d⟩:=ho p.1 hb;rw[e]at e';cases e';exact⟨e,f0,f1,f2,d⟩
theorem Inv.unpinned{pins pl:List (Ue×Obj)}{σ:St}{H:Hp}{s:Uc}(I:Inv X (pins++pl) σ H s):Inv X pins σ H s:=I.pins_of λp hp=>I.pin p (Qo _ (Qu _ hp))
theorem PP{iter:Ug}{body:List Stmt}{wi:TI}{g:TG}{tb:TS}{pos:Pos}(hp:PassesOwn (model X.prog X.w) X.A X.env X.xe)(hc:X.calm=AX)(hi:PI X tg iter wi)(hg:PG X tg g)(hb:PSs X body tb)
  (hs:∀x,UA iter X.env x=pure x:=by intro _;rfl):PS X (.For tg iter body [] pos) (tFor wi g tb):=by
 intro pins s σ H D I h;refine wpAny_For (thn (hi pins s σ H _ I h) λv s1 h1=>thn h1 λitv s2 h2=>?_) hs;obtain⟨it,fp,tn,J,H2,e,I2,T,st2,f2,W,⟨m0,w0⟩,turn⟩:=h2;subst e;have stat:∀{H':Hp},(∀b∈fp,H' b=AW)->∀b∈fp,Kt X pins H' b:=λhn b hb=>⟨hn b hb,(f2 b hb).2⟩;refine codeAny_forLoop_any (λn s'=>∃i σ' H',Inv X pins σ' H' s'/\tn i s'.heap/\(∀b∈fp,H' b=AW)/\W i n σ' H') ?_ m0 ⟨0,σ,H2,I2,st2,λb hb=>(f2 b hb).1,w0⟩;rintro n s3 ⟨i,σ3,H3,I3,st3,fr3,w3⟩;rcases turn i n σ3 H3 w3 with ⟨stop,qn⟩|⟨go,N,hN,step⟩
 .refine wpAny_passesOwn hp (thn (T.done X AV AV AV hc i pins s3 σ3 H3 X.xe I3 (stat fr3) st3 stop) λr s4 ⟨hr,I4⟩=>?_)
  subst hr;exact Jw ⟨σ3,H3,I4,qn⟩
 .refine wpAny_passesOwn hp (thn (T.item X AV AV AV hc i pins s3 σ3 H3 X.xe I3 (stat fr3) st3 go) λr s4 ⟨u,hr,h4⟩=>?_)
  subst hr;refine wpAny_passesOwn hp (thn h4 λ_ s5 ⟨x,H5,I5,r5,y5,qL,jU⟩=>?_);have I5':=I5.pinned (stat jU) (T.obj _ _ qL);refine wpAny_passesOwn hp (thn (hg _ s5 σ3 H5 x u _ I5' r5 (step x H5 y5)) λ_ s6 ⟨σ6,H6,I6,q6⟩=>?_);refine wpAny_passesOwn hp (thn (hb _ s6 σ6 H6 _ I6 q6) λf s7 q7=>?_);have again:∀{σ7:St}{H7:Hp},Inv X (pins++Vr fp s5.heap) σ7 H7 s7->N σ7 H7->∃m,m<n/\∃i σ' H',Inv X pins σ' H' s7/\tn i s7.heap/\(∀b∈fp,H' b=AW)/\W i m σ' H':=λ{σ7 H7} I7 n7=>by obtain⟨m',hm,w7⟩:=hN σ7 H7 n7;refine⟨m',hm,i+1,σ7,H7,I7.unpinned,T.keep _ _ _ qL λb hb o e=>(I7.pin (b,o) (Qo _ (Qo _ (VH hb e)))).1,λb hb=>?_,w7⟩;obtain⟨o,e,d⟩:=T.obj _ _ qL b hb;exact(I7.pin (b,o) (Qo _ (Qo _ (VH hb e)))).2.1
  cases f with
  |next=>obtain⟨σ7,H7,I7,n7⟩:=q7;exact again I7 n7
  |cont=>obtain⟨σ7,H7,I7,n7⟩:=q7;exact again I7 n7
  |brk=>obtain⟨σ7,H7,I7,q7⟩:=q7;exact⟨σ7,H7,I7.unpinned,q7⟩
  |ret v=>obtain⟨x7,σ7,H7,I7,r7,q7⟩:=q7;exact⟨x7,σ7,H7,I7.unpinned,r7,q7⟩
end
abbrev R2:=V->V->Hp->VK->Prop
def OpR(X:Cx)(f:Ub->Ub->Sem Ub)(r:R2):Prop:=
 ∀(pins:List (Ue×Obj))(s:Uc)(σ:St)(H:Hp)(x y:V)(v u:Ub)(Q:VK),Inv X pins σ H s->RelV x v->RelV y u->r x y H Q ->
  Ui (model X.prog X.w) X.A (f v u) (EP X pins σ Q) X.xe s
def UnR(X:Cx)(f:Ub->Sem Ub)(r:V->Hp->VK->Prop):Prop:=
 ∀(pins:List (Ue×Obj))(s:Uc)(σ:St)(H:Hp)(x:V)(v:Ub)(Q:VK),Inv X pins σ H s->RelV x v->r x H Q ->
  Ui (model X.prog X.w) X.A (f v) (EP X pins σ Q) X.xe s
def ZZ(X:Cx)(f:Ub)(r:List V->Hp->VK->Prop):Prop:=
 ∀(pins:List (Ue×Obj))(s:Uc)(σ:St)(H:Hp)(xs:List V)(us:A0)(Q:VK),Inv X pins σ H s->Vals xs us->r xs H Q ->
  Ui (model X.prog X.w) X.A (call f us) (EP X pins σ Q) X.xe s
noncomputable def tOp(r:R2)(ta tb:TE):TE:=λσ H Q=>ta σ H λx H1=>tb σ H1 λy H2=>r x y H2 Q
noncomputable def tUn(r:V->Hp->VK->Prop)(ta:TE):TE:=λσ H Q=>ta σ H λx H1=>r x H1 Q
noncomputable def rI(C:Int->Int->Prop)(g:Int->Int->V):R2:=λx y H Q=>∃i j,x=.int i/\y=.int j/\C i j/\Q (g i j) H
noncomputable def rI0(g:Int->Int->V):R2:=λx y H Q=>∃i j,x=.int i/\y=.int j/\Q (g i j) H
noncomputable def rU(g:Int->V):V->Hp->VK->Prop:=λx H Q=>∃i,x=.int i/\Q (g i) H
section
variable{X:Cx}{a b c:Ug}{ta tb tc:TE}{pos:Pos}
theorem Vc(ha:PE X a ta)(hb:PE X b tb){pins:List (Ue×Obj)}{s:Uc}{σ:St}{H:Hp}{R:V->V->Hp->Prop}(I:Inv X pins σ H s)
  (h:ta σ H λx H1=>tb σ H1 λy H2=>R x y H2) {Q:Ub->Uc->Prop} {f:Ub->Ub->Sem Ub}
  (hf:∀v u s2 x y H2,Inv X pins σ H2 s2->RelV x v->RelV y u->R x y H2->Ui (model X.prog X.w) X.A (f v u) Q X.xe s2) :
  Ui (model X.prog X.w) X.A (eval a X.env) (λv s₁=>Ui (model X.prog X.w) X.A (eval b X.env) (λu s₂=>Ui (model X.prog X.w) X.A (f v u) Q X.xe s₂) X.xe s₁) X.xe s:=by
 refine thn (ha pins s σ H _ I h) λv s1 ⟨x,H1,I1,r1,q1⟩=>?_;refine thn (hb pins s1 σ H1 _ I1 q1) λu s2 ⟨y,H2,I2,r2,q2⟩=>?_;exact hf v u s2 x y H2 I2 r1 r2 q2
theorem Ph{op:Operator}{r:R2}(ho:OpR X (binaryOp op) r)(ha:PE X a ta)(hb:PE X b tb):PE X (.BinOp a op b pos) (tOp r ta tb):=by intro pins s σ H Q I h;exact wpAny_BinOp (Vc ha hb I h λv u s2 x y H2 I2 rx ry q=>ho pins s2 σ H2 x y v u Q I2 rx ry q)
theorem MX{op:UnaryOp}{r:V->Hp->VK->Prop}(ho:UnR X (unaryOp op) r)(ha:PE X a ta):PE X (.UnaryOp op a pos) (tUn r ta):=by intro pins s σ H Q I h;exact UnaryOp_ (thn (ha pins s σ H _ I h) λv s1 ⟨x,H1,I1,r1,q1⟩=>ho pins s1 σ H1 x v Q I1 r1 q1)
theorem opI{f:Ub->Ub->Sem Ub}{C:Int->Int->Prop}{g:Int->Int->Int}
  (rule:∀(i j:Int)(t u:Tok)(s:Uc)(Q:Ub->Uc->Prop)(E:Ub->Uc->Prop),C i j->Q (.int (g i j) s.toks) {s with toks:=s.toks+1}->Ui (model X.prog X.w) X.A (f (.int i t) (.int j u)) Q E s) :
  OpR X f (rI C λi j=>.int (g i j)):=by
 intro pins s σ H x y v u Q I rx ry h;obtain⟨i,j,rfl,rfl,hc,q⟩:=h;obtain⟨t,rfl⟩:=rx;obtain⟨t',rfl⟩:=ry;exact rule i j t t' s _ _ hc ⟨.int (g i j),H,I.tok _,⟨_,rfl⟩,q⟩
theorem opI0{f:Ub->Ub->Sem Ub}{g:Int->Int->Int}
  (rule:∀(i j:Int)(t u:Tok)(s:Uc)(Q:Ub->Uc->Prop)(E:Ub->Uc->Prop),Q (.int (g i j) s.toks) {s with toks:=s.toks+1}->Ui (model X.prog X.w) X.A (f (.int i t) (.int j u)) Q E s) :
  OpR X f (rI0 λi j=>.int (g i j)):=by
 intro pins s σ H x y v u Q I rx ry h;obtain⟨i,j,rfl,rfl,q⟩:=h;obtain⟨t,rfl⟩:=rx;obtain⟨t',rfl⟩:=ry;exact rule i j t t' s _ _ ⟨.int (g i j),H,I.tok _,⟨_,rfl⟩,q⟩
theorem Xu{f:Ub->Ub->Sem Ub}{g:Int->Int->Bool}
  (rule:∀(i j:Int)(t u:Tok)(s:Uc)(Q:Ub->Uc->Prop)(E:Ub->Uc->Prop),Q (.bool (g i j)) s->Ui (model X.prog X.w) X.A (f (.int i t) (.int j u)) Q E s) :
  OpR X f (rI0 λi j=>.bl (g i j)):=by
 intro pins s σ H x y v u Q I rx ry h;obtain⟨i,j,rfl,rfl,q⟩:=h;obtain⟨t,rfl⟩:=rx;obtain⟨t',rfl⟩:=ry;exact rule i j t t' s _ _ ⟨.bl (g i j),H,I,rfl,q⟩
def CPow(i j:Int):Prop:=0<=j/\j<=1000000/\i.natAbs<2 ^ 64
def CMul(i j:Int):Prop:=(-(2 ^ 64)<i/\i<2 ^ 64)∨(-(2 ^ 64)<j/\j<2 ^ 64)
theorem CMul.ok{i j:Int}(h:CMul i j):IntMulOk i j:=by
 rcases h with ⟨h1,h2⟩|⟨h1,h2⟩
 .exact .of_left (intBits_le_64 h1 h2)
 .exact .of_right (intBits_le_64 h1 h2)
theorem HG:OpR X (binaryOp .Add) (rI0 λi j=>.int (i+j)):=opI0 λ_ _ _ _ _ _ _ q=>add_int q
theorem HF:OpR X (binaryOp .Sub) (rI0 λi j=>.int (i-j)):=opI0 λ_ _ _ _ _ _ _ q=>sub_int q
theorem HE:OpR X (binaryOp .Mult) (rI CMul λi j=>.int (i*j)):=opI λ_ _ _ _ _ _ _ hc q=>mul_int q hc.ok
theorem HD:OpR X (binaryOp .Mod) (rI (λ_ j=>0<j) λi j=>.int (i % j)):=opI λi j _ _ _ _ _ hc q=>by have h1:(0:Int)<j:=hc;exact mod_int' (by omega) (by rw[Int.fmod_eq_emod_of_nonneg i (by omega)];exact q)
theorem HC:OpR X (binaryOp .Pow) (rI CPow λi j=>.int (i ^ j.toNat)):=opI λ_ _ _ _ _ _ _ hc q=>pow_int_small hc.1 hc.2.1 hc.2.2 q
theorem unI{f:Ub->Sem Ub}{g:Int->Int}
  (rule:∀(i:Int)(t:Tok)(s:Uc)(Q:Ub->Uc->Prop)(E:Ub->Uc->Prop),Q (.int (g i) s.toks) {s with toks:=s.toks+1}->Ui (model X.prog X.w) X.A (f (.int i t)) Q E s) :
  UnR X f (rU λi=>.int (g i)):=by
 intro pins s σ H x v Q I rx h;obtain⟨i,rfl,q⟩:=h;obtain⟨t,rfl⟩:=rx;exact rule i t s _ _ ⟨.int (g i),H,I.tok _,⟨_,rfl⟩,q⟩
theorem HB:UnR X (unaryOp .USub) (rU λi=>.int (-i)):=unI λ_ _ _ _ _ q=>neg_int q
end
section
variable{X:Cx}{a b c:Ug}{ta tb tc:TE}{pos:Pos}
theorem MW:OpR X (Uk .Lt) (rI0 λi j=>.bl (decide (i<j))):=Xu λ_ _ _ _ _ _ _ q=>lt_int q
theorem MV:OpR X (Uk .LtE) (rI0 λi j=>.bl (decide (i<=j))):=Xu λ_ _ _ _ _ _ _ q=>le_int q
theorem MU:OpR X (Uk .Gt) (rI0 λi j=>.bl (decide (j<i))):=Xu λ_ _ _ _ _ _ _ q=>gt_int q
theorem MT:OpR X (Uk .GtE) (rI0 λi j=>.bl (decide (j<=i))):=Xu λ_ _ _ _ _ _ _ q=>ge_int q
theorem OpR.or{f:Ub->Ub->Sem Ub}{r r':R2}(h:OpR X f r)(h':OpR X f r'):OpR X f (λx y H Q=>r x y H Q∨r' x y H Q):=by
 intro pins s σ H x y v u Q I rx ry q;rcases q with q|q
 .exact h pins s σ H x y v u Q I rx ry q
 .exact h' pins s σ H x y v u Q I rx ry q
theorem HA(b:Ug){op:CmpOp}(h:op≠.In:=by decide)(h2:op≠.NotIn:=by decide):behindInMarks op b=AY:=by
 have e1:(op==CmpOp.In)=AY:=by cases op<;>first|rfl|exact absurd AV h
 have e2:(op==CmpOp.NotIn)=AY:=by cases op<;>first|rfl|exact absurd AV h2
 cases b<;>simp[behindInMarks,e1,e2]
theorem Dg{op:CmpOp}{r:R2}(ho:OpR X (Uk op) r)(ha:PE X a ta)(hb:PE X b tb)(hm:behindInMarks op b=AY):PE X (.Compare a [op] [b] pos) (tOp r ta tb):=by intro pins s σ H Q I h;exact wpAny_Compare1 (Vc ha hb I h λv u s2 x y H2 I2 rx ry q=>ho pins s2 σ H2 x y v u Q I2 rx ry q) hm
noncomputable def Pg(t:TE):TT:=λσ H Q=>t σ H λx H'=>∃k,x=.bl k/\Q k H'
theorem OG{op:CmpOp}{r:R2}(ho:OpR X (Uk op) r)(ha:PE X a ta)(hb:PE X b tb)(hm:behindInMarks op b=AY):PT X (.Compare a [op] [b] pos) (Pg (tOp r ta tb)):=by
 intro pins s σ H Q I h
 refine wpAny_isTrue_Compare1 (thn (ha pins s σ H _ I h) λv s1 ⟨x,H1,I1,r1,q1⟩=>thn (hb pins s1 σ H1 _ I1 q1) λu s2 ⟨y,H2,I2,r2,q2⟩=>
  thn (ho pins s2 σ H2 x y v u _ I2 r1 r2 q2) λc s3 ⟨z,H3,I3,r3,k,e,q3⟩=>?_) hm
 subst e;cases r3;exact Q6 ⟨H3,I3,q3⟩
noncomputable def PN(r r':R2)(ta tb tc:TE):TE:=λσ H Q=>ta σ H λx H1=>tb σ H1 λy H2=>r x y H2 λz H3=>∃k,z=.bl k /\
 (if k=AX then tc σ H3 λw' H4=>r' y w' H4 Q else Q (.bl AY) H3)
theorem CH{op op':CmpOp}{r r':R2}(ho:OpR X (Uk op) r)(ho':OpR X (Uk op') r')(ha:PE X a ta)(hb:PE X b tb)(hc:PE X c tc)
  (hm:lastMarks [op,op'] [b,c]=AY:=by with_unfolding_all rfl):PE X (.Compare a [op,op'] [b,c] pos) (PN r r' ta tb tc):=by
 intro pins s σ H Q I h
 refine Compare_chain (thn (ha pins s σ H _ I h) λv s1 ⟨x,H1,I1,r1,q1⟩=>chain_link (thn (hb pins s1 σ H1 _ I1 q1) λu s2 ⟨y,H2,I2,r2,q2⟩=>
  thn (ho pins s2 σ H2 x y v u _ I2 r1 r2 q2) λd s3 ⟨z,H3,I3,r3,k,e,q3⟩=>?_)) hm
 subst e;cases r3;refine Q6 ?_;cases k with
 |false=>exact ite_ff ⟨.bl AY,H3,I3,rfl,q3⟩
 |true=>exact ite_tt (chain_last (thn (hc pins s3 σ H3 _ I3 q3) λw' s4 ⟨z',H4,I4,r4,q4⟩=>ho' pins s4 σ H4 y z' u w' Q I4 r2 r4 q4))
theorem CG{op op':CmpOp}{r r':R2}(ho:OpR X (Uk op) r)(ho':OpR X (Uk op') r')(ha:PE X a ta)(hb:PE X b tb)(hc:PE X c tc)
  (hm:lastMarks [op,op'] [b,c]=AY:=by with_unfolding_all rfl):PT X (.Compare a [op,op'] [b,c] pos) (Pg (PN r r' ta tb tc)):=by
 intro pins s σ H Q I h
 refine isTrue_chain (thn (ha pins s σ H _ I h) λv s1 ⟨x,H1,I1,r1,q1⟩=>test_link (thn (hb pins s1 σ H1 _ I1 q1) λu s2 ⟨y,H2,I2,r2,q2⟩=>
  thn (ho pins s2 σ H2 x y v u _ I2 r1 r2 q2) λd s3 ⟨z,H3,I3,r3,k,e,q3⟩=>?_)) hm
 subst e;cases r3;refine Q6 ?_;cases k with
 |false=>obtain⟨k',e',q'⟩:=q3;cases e';exact ite_ff ⟨H3,I3,q'⟩
 |true=>refine ite_tt (test_last (thn (hc pins s3 σ H3 _ I3 q3) λw' s4 ⟨z',H4,I4,r4,q4⟩=>thn (ho' pins s4 σ H4 y z' u w' _ I4 r2 r4 q4) λd' s5 ⟨z2,H5,I5,r5,k2,e2,q5⟩=>?_));subst e2;cases r5;exact Q6 ⟨H5,I5,q5⟩
theorem TX:(Uh:Nat)<2 ^ 63:=by rw[JC];decide
theorem BI:OpR X (binaryOp .Add) (λx y H Q=>∃i j,x=.str i/\y=.str j/\i.length+j.length<=Uh/\Q (.str (i++j)) H):=by intro pins s σ H x y v u Q I rx ry h;obtain⟨i,j,rfl,rfl,hz,q⟩:=h;obtain⟨t,rfl⟩:=rx;obtain⟨t',rfl⟩:=ry;exact add_str (λt' tk=>⟨.str (i++j),H,I.tok _,⟨_,rfl⟩,q⟩) hz
theorem Pf{x:V}{us:A0}(r:Vals [x] us):∃u,us=[u]/\RelV x u:=by
 cases r with
 |cons r1 r2=>cases r2;exact⟨_,rfl,r1⟩
theorem SK{x y:V}{us:A0}(r:Vals [x,y] us):∃u w',us=[u,w']/\RelV x u/\RelV y w':=by
 cases r with
 |cons r1 r2=>
  cases r2 with
  |cons r3 r4=>cases r4;exact⟨_,_,rfl,r1,r3⟩
theorem B8(hc:X.calm=AX):ZZ X (.builtin "max") (λxs H Q=>∃i j,xs=[.int i,.int j]/\Q (.int (if j > i then j else i)) H):=by
 intro pins s σ H xs us Q I r h;obtain⟨i,j,rfl,q⟩:=h;obtain⟨u,w',rfl,⟨t,rfl⟩,⟨t',rfl⟩⟩:=SK r;refine max_two_ints (I.ok.hd hc) λh' tk k=>⟨_,H,I.kept k,?_,q⟩
 by_cases hj:j > i
 .rw[Qp hj,Qp hj];exact⟨_,rfl⟩
 .rw[Qz hj,Qz hj];exact⟨_,rfl⟩
def LenV(K:Frag)(x:V)(H:Hp)(n:Nat):Prop:=
 match x with
 |.str y=>y.length<=Uh/\n=y.length
 |.byt y=>y.size<=Uh/\n=y.size
 |.ref p=>(∃xs,SqL K H p xs/\n=xs.length) ∨ ∃xs,SqT K H p xs/\n=xs.length
 |_=>False
theorem OR:ZZ X (.builtin "len") (λxs H Q=>∃x n,xs=[x]/\LenV X.K x H n/\Q (.int n) H):=by
 intro pins s σ H xs us Q I r h;obtain⟨x,n,rfl,e,q⟩:=h;obtain⟨u,rfl,rx⟩:=Pf r;have hl:=TX;have hs:Uh=16777216:=JC;cases x with
 |str y=>obtain⟨t,rfl⟩:=rx;obtain⟨hy,e'⟩:y.length<=Uh/\n=y.length:=e;subst e';exact len_str (by omega) ⟨.int _,H,I.tok _,⟨_,rfl⟩,q⟩
 |byt y=>obtain⟨t,rfl⟩:=rx;obtain⟨hy,e'⟩:y.size<=Uh/\n=y.size:=e;subst e';exact PySem.W.len_bytes (by omega) ⟨.int _,H,I.tok _,⟨_,rfl⟩,q⟩
 |ref p=>
  cases rx;have e':(∃xs,SqL X.K H p xs/\n=xs.length) ∨ ∃xs,SqT X.K H p xs/\n=xs.length:=e;rcases e' with ⟨xs,hx,e'⟩|⟨xs,hx,e'⟩
  .subst e'
   obtain⟨its,r',pl,hz⟩:=I.list hx;have hlen:=r'.length;exact Calls.call_len_list pl.isList (by simp only[QT];omega) ⟨.int xs.length,H,I.tok _,⟨_,by simp only[QT];rw[hlen]⟩,q⟩
  .subst e'
   obtain⟨its,r',pl,hz⟩:=I.tuple hx;have hlen:=r'.length;exact len_tuple pl (by simp only[QT];omega) ⟨.int xs.length,H,I.tok _,⟨_,by simp only[QT];rw[hlen]⟩,q⟩
 |_=>exact(show False from e).elim
end
noncomputable def KP(f:Str)(v:V):List (Str×V)->List (Str×V)
 |[]=>[(f,v)]
 |(g,x)::r=>if g=f then(g,v)::r else(g,x)::KP f v r
theorem RF(f g:Str)(v:V):∀fs:List (Str×V),(KP f v fs).lookup g=if g=f then O v else fs.lookup g
 |[]=>by
  show List.lookup g [(f,v)]=_;by_cases h:g=f
  .have hb:(g==f)=AX:=beq_iff_eq.mpr h
   simp only[List.lookup,hb,Qp h]
  .have hb:(g==f)=AY:=beq_eq_false_iff_ne.mpr h
   simp only[List.lookup,hb,Qz h]
 |(k,x)::r=>by
  have ih:=RF f g v r;rw[show KP f v ((k,x)::r)=(if k=f then(k,v)::r else(k,x)::KP f v r)from rfl];by_cases hk:k=f
  .rw[Qp hk]
   by_cases h:g=k
   .have hb:(g==k)=AX:=beq_iff_eq.mpr h
    simp only[List.lookup,hb,Qp (h.trans hk)]
   .have hb:(g==k)=AY:=beq_eq_false_iff_ne.mpr h
    simp only[List.lookup,hb,Qz (λe:g=f=>h (e.trans hk.symm))]
  .rw[Qz hk]
   by_cases h:g=k
   .have hb:(g==k)=AX:=beq_iff_eq.mpr h
    simp only[List.lookup,hb,Qz (λe:g=f=>hk (h.symm.trans e))]
   .have hb:(g==k)=AY:=beq_eq_false_iff_ne.mpr h
    simp only[List.lookup,hb];exact ih
theorem Ru(f:Str)(v:V):∀fs:List (Str×V),f∈(KP f v fs).map (·.1)/\∀g,g∈fs.map (·.1)->g∈(KP f v fs).map (·.1)
 |[]=>⟨by simp[KP],λg h=>by simp at h⟩
 |(k,x)::r=>by
  obtain⟨i1,i2⟩:=Ru f v r;rw[show KP f v ((k,x)::r)=(if k=f then(k,v)::r else(k,x)::KP f v r)from rfl];by_cases hk:k=f
  .rw[Qp hk]
   subst hk;exact⟨by simp,λg h=>by simpa using h⟩
  .rw[Qz hk]
   refine⟨?_,λg h=>?_⟩
   .rw[QN]
    exact Qj _ i1
   .rw[QN]at h⊢
    rcases QM.mp h with e|e
    .exact List.mem_cons.mpr (.inl e)
    .exact Qj _ (i2 g e)
section
variable{X:Cx}{pins:List (Ue×Obj)}{σ:St}{H:Hp}{s:Uc}{a C dx:Ue}{fs:List (Str×V)}{f:Str}{v:V}{A:Around}{E:Ub->Uc->Prop}
theorem F9{prog:Ud}{w:World}{env:Env}{e:Ug}{f:Str}{pos:Pos}{s:Uc}{Q:Ub->Uc->Prop}(hb:attributeBase e f env (eval e env)=eval e env)
  (h:Ui (model prog w) A (eval e env) (λo s₁=>Ui (model prog w) A (getAttr o f AX) Q E s₁) E s):Ui (model prog w) A (eval (.Attribute e f pos) env) Q E s:=
 Attribute_any_ h (by rw[arm_eval_Attribute,hb])
end
structure Room(k:Nat)(A:Around):Prop where
 hd:A.handled=AW
 dp:A.depth+3*k+5<recursionLimit
 un:A.units+16*k+200<cLine
 gd:A.guards=O []
theorem Room.mono{j k:Nat}{A:Around}(r:Room k A)(h:j<=k):Room j A:=⟨r.hd,by have:=r.dp;omega,by have:=r.un;omega,r.gd⟩
theorem Room.deeper{k:Nat}{A:Around}(r:Room (k+1) A)(env:Env):Room k (A.deeper env):=
 ⟨r.hd,by have:=r.dp;show A.depth+1+3*k+5<_;omega,by have:=r.un;show A.units+3+16*k+200<_;omega,r.gd⟩
theorem NJ{A:Around}{C:Ue}{us:A0}{kw:List (Str×Ub)}:(A.under (.builtin "type.__call__" ⟨.ref C::us,kw⟩)).depth=A.depth+1:=by
 first|rfl|simp[Around.under,Code.weight,Code.isCreation,Code.isGuard,Code.isCaller,Code.frames,Code.isFrame,guardIds]
theorem NI{A:Around}{C:Ue}{us:A0}{kw:List (Str×Ub)}:(A.under (.builtin "type.__call__" ⟨.ref C::us,kw⟩)).units=A.units+1:=by
 first|rfl|simp[Around.under,Code.cUnits,Code.frames,Code.isFrame]
theorem Room.make{k:Nat}{A:Around}(r:Room (k+1) A)(C:Ue)(us:A0)(kw:List (Str×Ub)):Room k (A.under (.builtin "type.__call__" ⟨.ref C::us,kw⟩)):=
 ⟨r.hd,by have:=r.dp;rw[NJ];omega,by have:=r.un;rw[NI];omega,(by first|exact r.gd|(simp[Around.under,guardIds];exact r.gd))⟩
theorem Room.depth{k:Nat}{A:Around}(r:Room k A):A.depth<recursionLimit:=by have:=r.dp;omega
theorem Room.units{k:Nat}{A:Around}(r:Room k A):A.units+64<cLine:=by have:=r.un;omega
noncomputable def Xr:TA:=λ_ H Q=>Q [] H
noncomputable def Ws(ta:TE)(tr:TA):TA:=λσ H Q=>ta σ H λx H1=>tr σ H1 λxs H2=>Q (x::xs) H2
section
variable{X:Cx}{e:Ug}{es:A4}{te:TE}{t:TA}{pos:Pos}
theorem ZD:PA X [] Xr:=λ_ _ _ _ H Q I h=>Calls.spliced_nil ⟨[],H,I,.nil,h⟩
theorem K5(ha:PE X e te)(hr:PA X es t)(hs:Uj (e::es) X.env=(AY,eval e X.env)::Uj es X.env:=by rfl):PA X (e::es) (Ws te t):=by intro pos pins s σ H Q I h;rw[hs];show Ui _ _ (spliced ((AY,eval e X.env)::backTo pos (Uj es X.env))) _ _ s;refine Calls.spliced_cons (thn (ha pins s σ H _ I h) λu s1 ⟨x,H1,I1,r1,q1⟩=>?_);exact thn (hr pos pins s1 σ H1 _ I1 q1) λus s2 ⟨xs,H2,I2,r2,q2⟩=>⟨x::xs,H2,I2,.cons r1 r2,q2⟩
noncomputable def tTup(t:TA):TE:=λσ H Q=>t σ H λxs H1=>xs.length<=Uh/\∀p,H1 p=AW->Q (.ref p) (upd H1 p (.tup xs))
noncomputable def tLst(t:TA):TE:=λσ H Q=>t σ H λxs H1=>xs.length<=Uh/\∀p,H1 p=AW->Q (.ref p) (upd H1 p (.lst xs))
theorem PM{x1}(h:PA X es t):PE X (.Tuple es x1 pos) (tTup t):=by intro pins s σ H Q I hq;refine wpAny_Tuple_spliced (thn (h pos pins s σ H _ I hq) λus s1 ⟨xs,H1,I1,r,z,q⟩=>⟨by rw[←r.length];exact z,?_⟩);have hf:H1 s1.heap.objs.size=AW:=I1.hok.fresh (Qq _);refine⟨.ref s1.heap.objs.size,upd H1 s1.heap.objs.size (.tup xs),I1.laid (t':=s1.toks) (λb u e=>Qe _ e) (Qq _) ?_,rfl,q _ hf⟩;exact⟨z,us,r,⟨_,QD _ AV,rfl,_,rfl⟩⟩
theorem TW(h:PA X es t):PE X (.List es pos) (tLst t):=by intro pins s σ H Q I hq;refine wpAny_List_spliced (thn (h pos pins s σ H _ I hq) λus s1 ⟨xs,H1,I1,r,z,q⟩=>⟨by rw[←r.length];exact z,?_⟩);have hf:H1 s1.heap.objs.size=AW:=I1.hok.fresh (Qq _);refine⟨.ref s1.heap.objs.size,upd H1 s1.heap.objs.size (.lst xs),I1.laid (t':=s1.toks) (λb u e=>Qe _ e) (Qq _) ?_,rfl,q _ hf⟩;exact⟨z,us,0,r,QD _ AV⟩
end
abbrev Sp:=List V->Hp->VK->XK->Prop
abbrev CXT:=List Env->Hp->Uc->XK->Ub->Uc->Prop
structure Env0(P:Ud)(w:World)(K:Frag)(mg:Str->A3)(base:Heap)(A:Around)(outer:List Env)(s:Uc)(H:Hp):Prop where
 frames:A.frames=O outer
 mod:Mod K mg base
 bs:∀b o,base.get? b=O o->s.heap.get? b=O o/\H b=AW
 bsz:base.objs.size<=s.heap.objs.size
 funs:s.heap.FunFrames base outer
 frf:∀b∈frs outer,H b=AW
 hok:HOk P w H s.heap
 bare:AllBare s.gens
def CE(outer:List Env)(P:Ud)(w:World)(H:Hp)(s:Uc)(Q:VK)(u:Ub)(s':Uc):Prop:=
 ∃v H',s'.os=s.os/\AllBare s'.gens/\Un (frs outer) [] H H' s.heap s'.heap/\HOk P w H' s'.heap/\RelV v u/\Q v H'
def CR(CX:CXT)(outer:List Env)(P:Ud)(w:World)(H:Hp)(s:Uc)(Q:VK)(E:XK)(r:Result)(s':Uc):Prop:=
 match r with
 |.ok (.ret u)=>CE outer P w H s Q u s'
 |.ok _=>False
 |.error e=>CX outer H s E e s'
structure FnOk(P:Ud)(w:World)(K:Frag)(mg:Str->A3)(base:Heap)(CX:CXT)(k:Nat)(f:Ue)(fd:Uf)(ps:List Str)(sp:Sp):Prop where
 len:∀vs H Q E,sp vs H Q E->vs.length=ps.length
 run:∀(A:Around)(outer:List Env)(s:Uc)(H:Hp)(args:Args)(us:A0)(vs:List V)(Q:VK)(E:XK),Room k A->Env0 P w K mg base A outer s H->BindsTo s fd args (ps.zip us)->Vals vs us->sp vs H Q E ->
  codeAny (model P w) A (.call (.ref f) args) (CR CX outer P w H s Q E) s
theorem FnOk.imp{P:Ud}{w:World}{K:Frag}{mg:Str->A3}{base:Heap}{CX:CXT}{k:Nat}{f:Ue}{fd:Uf}{ps:List Str}{sp sp':Sp}(F:FnOk P w K mg base CX k f fd ps sp)
  (h:∀vs H Q E,sp' vs H Q E->sp vs H Q E):FnOk P w K mg base CX k f fd ps sp':=
 ⟨λvs H Q E q=>F.len vs H Q E (h _ _ _ _ q),λA outer s H args us vs Q E hr he hb hv hs=>F.run A outer s H args us vs Q E hr he hb hv (h _ _ _ _ hs)⟩
theorem Env0.make{P:Ud}{w:World}{K:Frag}{mg:Str->A3}{base:Heap}{A:Around}{outer:List Env}{s:Uc}{H:Hp}(e:Env0 P w K mg base A outer s H)(C:Ue)(us:A0)(kw:List (Str×Ub)) :
  Env0 P w K mg base (A.under (.builtin "type.__call__" ⟨.ref C::us,kw⟩)) outer s H:=⟨by first|exact e.frames|(simpa[Around.under,Code.envs,Code.isFrame,pushEnvs]using e.frames),e.mod,e.bs,e.bsz,e.funs,e.frf,e.hok,e.bare⟩
section
variable{X:Cx}{pins:List (Ue×Obj)}{σ:St}{H:Hp}{s s':Uc}
theorem Inv.env0(I:Inv X pins σ H s):Env0 X.prog X.w X.K X.mg X.base X.A X.stack s H:=
 ⟨I.ok.frames,I.ok.mod,I.bs,Qt I.ok.bsz I.sz,I.stack,I.stkFree,I.hok,I.bare⟩
theorem Inv.after{Q:VK}{u:Ub}(I:Inv X pins σ H s)(h:CE X.stack X.prog X.w H s Q u s'):EP X pins σ Q u s':=by obtain⟨v,H',os,bare,un,hok,r,q⟩:=h;obtain⟨hh,g,d,t,os'⟩:=s';obtain rfl:os'=s.os:=os;exact⟨v,H',I.call (h':=hh) (g':=g) (d':=d) (t':=t) (ch:=[]) un hok bare (λb z=>absurd z (by simp)),r,q⟩
end
noncomputable def SJ(sp:Sp)(dvs:List V)(E:XK)(t:TA):TE:=λσ H Q=>t σ H λvs H1=>sp (vs++dvs) H1 Q E
def Zf(K:Frag)(fd:Uf)(ps:List Str)(ds:A0):Prop:=
 ∀(s:Uc)(us:A0),K.In s.heap->(us++ds).length=ps.length->BindsTo s fd ⟨us,[]⟩ (ps.zip (us++ds))
theorem Zf.all{K:Frag}{fd:Uf}{ps:List Str}(h:∀us:A0,us.length=ps.length->bindArgs fd ⟨us,[]⟩=pure (ps.zip us)):Zf K fd ps []:=λs us _ hl=>by rw[QR]at hl⊢;exact .of_eq (h us hl)
def SY(CX:CXT)(X:Cx)(E:XK):Prop:=∀(pins:List (Ue×Obj))(σ:St)(H:Hp)(s:Uc)(e:Ub)(s':Uc),Inv X pins σ H s->CX X.stack H s E e s'->X.xe e s'
section
variable{X:Cx}{CX:CXT}{k:Nat}{f C:Ue}{fd:Uf}{ps:List Str}{sp:Sp}{dvs:List V}{ds:A0}{E:XK}{x m:Str}{p pos apos:Pos}{e o:Ug}{es:A4}{ta:TE}{t:TA}
theorem PL{pins:List (Ue×Obj)}{σ:St}{H:Hp}{s:Uc}{Q:VK}{us:A0}{vs:List V}(F:FnOk X.prog X.w X.K X.mg X.base CX k f fd ps sp)(hr:Room k X.A)(hb:Zf X.K fd ps ds)(hd:Vals dvs ds)(hx:SY CX X E)
  (I:Inv X pins σ H s) (r:Vals vs us) (h:sp (vs++dvs) H Q E):Ui (model X.prog X.w) X.A (call (.ref f) us) (EP X pins σ Q) X.xe s:=by
 have r2:Vals (vs++dvs) (us++ds):=r.append hd;have hl:(us++ds).length=ps.length:=by rw[←r2.length];exact F.len _ _ _ _ h
 refine wpAny_call (Jy (F.run X.A X.stack s H ⟨us,[]⟩ (us++ds) (vs++dvs) Q E hr I.env0 (hb s us I.kIn hl) r2 h) λr s' hq=>?_);cases r with
 |error e=>exact hx pins σ H s e s' I hq
 |ok fl=>
  cases fl with
  |ret u=>exact I.after hq
  |next=>exact False.elim hq
  |brk=>exact False.elim hq
  |cont=>exact False.elim hq
theorem Re(F:FnOk X.prog X.w X.K X.mg X.base CX k f fd ps sp)(hr:Room k X.A)(hg:Gl X x)(hm:X.mg x=O (.ref f))(hk:PySem.W.keepIn X.K (.ref f)=AX)(hb:Zf X.K fd ps ds)(hd:Vals dvs ds)(hx:SY CX X E)
  (ha:PA X (e::es) t) (hdb:(x==("__debug__" : Str))=AY:=by decide) (he:Uj (e::es) X.env=(AY,eval e X.env)::Uj es X.env:=by rfl) (hpl:(backTo pos (Uj es X.env)).any (·.1)=AY:=by rfl) :
  PE X (.Call (.Name x p) (e::es) [] pos) (SJ sp dvs E t):=by
 intro pins s σ H Q I h;refine Jm (Xh I hg hm ?_ hdb);refine JU (h₀:=X.base) I.ok.mod.kin hk (thn (ha pos pins s σ H _ I h) λus s1 ⟨vs,H1,I1,r,q⟩=>⟨I1.kIn,?_⟩) he hpl;exact PL F hr hb hd hx I1 r q
end
structure Y5(N P:List Str)(sc:Scope):Prop where
 kind:sc.kind=.function
 co:sc.isCoroutine=AY
 gen:sc.isGenerator=AY
 nd:N.Nodup
 pre:N.take P.length=P
 par:∀x∈P,sc.names.lookup x=O .local∨sc.names.lookup x=O .cell
 nofree:∀y∈sc.names,y.2≠.free
theorem NO{kindOf:Str->Option NameKind}{x:Str}:∀{binds:List (Str×Ub)}{m:Str->A3},(∀v,(x,v)∉binds)->bindL kindOf binds m x=m x
 |[],_,_=>rfl
 |(n,v)::r,m,h=>by
  unfold bindL;rw[NO λw hw=>h w (Qj _ hw)];split
  .have:x≠n:=by rintro rfl;exact h v Qg
   simp[this]
  .rfl
theorem NN{kindOf:Str->Option NameKind}{x:Str}:∀{binds:List (Str×Ub)}{m:Str->A3},(∀v,(x,v)∉binds)->bindC kindOf binds m x=m x
 |[],_,_=>rfl
 |(n,v)::r,m,h=>by
  unfold bindC;rw[NN λw hw=>h w (Qj _ hw)];split
  .rfl
  .have:x≠n:=by rintro rfl;exact h v Qg
   simp[this]
theorem NM{kindOf:Str->Option NameKind}{x:Str}{v:Ub}:∀{P:List Str}{vs:A0}{i:Nat}{m:Str->A3},P.Nodup->P[i]?=O x->vs[i]?=O v->kindOf x=O .local ->
  bindL kindOf (P.zip vs) m x=O v
 |[],_,_,_,_,h,_,_=>by simp at h
 |_::_,[],_,_,_,_,h,_=>by simp at h
 |p::P,w::vs,0,m,nd,h1,h2,hk=>by simp at h1 h2;subst h1;subst h2;show bindL kindOf ((p,w)::P.zip vs) m p=_;unfold bindL;rw[NO λv hv=>(Jf.mp nd).1 (List.of_mem_zip hv).1,Qp hk];simp
 |p::P,w::vs,i+1,m,nd,h1,h2,hk=>by show bindL kindOf ((p,w)::P.zip vs) m x=_;unfold bindL;exact NM (i:=i) (List.nodup_cons.mp nd).2 (by simpa using h1) (by simpa using h2) hk
theorem NL{kindOf:Str->Option NameKind}{x:Str}{v:Ub}:∀{P:List Str}{vs:A0}{i:Nat}{m:Str->A3},P.Nodup->P[i]?=O x->vs[i]?=O v->kindOf x≠O .local ->
  bindC kindOf (P.zip vs) m x=O v
 |[],_,_,_,_,h,_,_=>by simp at h
 |_::_,[],_,_,_,_,h,_=>by simp at h
 |p::P,w::vs,0,m,nd,h1,h2,hk=>by simp at h1 h2;subst h1;subst h2;show bindC kindOf ((p,w)::P.zip vs) m p=_;unfold bindC;rw[NN λv hv=>(Jf.mp nd).1 (List.of_mem_zip hv).1,Qz hk];simp
 |p::P,w::vs,i+1,m,nd,h1,h2,hk=>by show bindC kindOf ((p,w)::P.zip vs) m x=_;unfold bindC;exact NL (i:=i) (List.nodup_cons.mp nd).2 (by simpa using h1) (by simpa using h2) hk
noncomputable def Yc(N:List Str)(vs:List V):St:=vs.map O++Um (N.length-vs.length) AW
noncomputable def Ks(CX:CXT)(P:Ud)(w:World)(K:Frag)(mg:Str->A3)(base:Heap)(N:List Str)(qual:Str)(scope:Scope)(f:Ue)(cd:Ub)(A:Around)(outer:List Env)(s:Uc)(H:Hp)(E:XK):Cx where
 prog:=P
 w:=w
 K:=K
 mg:=mg
 base:=base
 A:=A.deeper (envOfC qual scope s.heap.objs.size f cd)
 N:=N
 s₀:=s
 H₀:=H
 env:=envOfC qual scope s.heap.objs.size f cd
 outer:=outer
 stack:=envOfC qual scope s.heap.objs.size f cd::outer
 ex:=[]
 calm:=AX
 fn:=λ_=>AX
 pn:=[]
 xe:=λe s'=>Ui (model P w) (A.deeper (envOfC qual scope s.heap.objs.size f cd)) (leaving (envOfC qual scope s.heap.objs.size f cd) e) (λ_ s''=>CX outer H s E e s'') (λe' s''=>CX outer H s E e' s'') s'
theorem Rm{sc:Scope}{n:Nat}{x:Str}(h:sc.names.lookup x=O .cell):∃c,(cellsFrom n sc.names []).lookup x=O c:=by have q:=PySem.W.cellsFrom_some sc.names n [] (.inl h);exact Option.isSome_iff_exists.mp q
theorem NK{CX:CXT}{P:Ud}{w:World}{K:Frag}{mg:Str->A3}{base:Heap}{N ps:List Str}{qual:Str}{scope:Scope}{f:Ue}{cd:Ub}{A:Around}{outer:List Env}{s s1:Uc}{H:Hp}{E:XK}{us:A0}{vs:List V}
  (S:Y5 N ps scope) (hd:A.handled=AW) (e0:Env0 P w K mg base A outer s H) (hl:vs.length=ps.length) (r:Vals vs us)
  (x:InCallC s s.heap.objs.size (bindL (envOfC qual scope s.heap.objs.size f cd).kindOf (ps.zip us) λ_=>AW) (cellsFrom (s.heap.objs.size+1) scope.names []) (bindC (envOfC qual scope s.heap.objs.size f cd).kindOf (ps.zip us) λ_=>AW) s1) :
  Inv (Ks CX P w K mg base N qual scope f cd A outer s H E) [] (Yc N vs) H s1:=by
 have hpl:ps.length<=N.length:=by have:=J6 List.length S.pre;rw[JI]at this;omega
 obtain⟨h1,tk,rfl,hk⟩:=x.done;have noA:∀b:Ue,b∉(Ks CX P w K mg base N qual scope f cd A outer s H E).ex:=λb z=>absurd (show b∈([]:A5)from z) (by simp)
 refine⟨⟨e0.mod,S.kind,rfl,rfl,Qq _,λy z c h1 h2=>?_,λy hy=>?_,λy c _ h=>?_,λ_=>hd,Around.frames_deeper e0.frames,.inr ⟨rfl,rfl⟩,λb z=>absurd z (noA b),e0.bs,e0.bsz,λb _ _=>noA b,λb z=>absurd z (noA b),e0.funs,e0.frf⟩,
  rfl,e0.bare,Un.kept hk,⟨_,x.toInCall.ns,λi y v h1 h2 h3=>?_⟩,λy c h=>⟨_,x.cell y c h⟩,e0.hok.fresh (Nat.le_refl _),λy c h=>?_,λp hp=>absurd (show p∈([]:List (Ue×Obj))from hp) (by simp),e0.hok.kept hk,?_⟩
 .exact name_of_addr x.apart (Ja h1) (Ja h2)
 .have hy:scope.names.lookup y=O .cell∨scope.names.lookup y=O .free:=hy
  rcases hy with hy|hy
  .exact Rm hy
  .exact absurd AV (S.nofree _ (Ja hy))
 .exact J7 (x.above y c (Ja h))
 .have hi:i<vs.length:=by
   unfold Yc at h2;by_cases hi:i<vs.length
   .exact hi
   .rw[List.getElem?_append_right (by simpa using hi)]at h2
    rw[QF]at h2;split at h2<;>cases h2
  have ha:vs[i]?=O v:=by
   unfold Yc at h2;rw[List.getElem?_append_left (by simpa using hi),List.getElem?_map]at h2;cases e:vs[i]? with
   |none=>rw[e]at h2;cases h2
   |some a=>rw[e]at h2;cases h2;rfl
  obtain⟨u,hu,rv⟩:=r.get ha;have hp:ps[i]?=O y:=by rw[←S.pre,List.getElem?_take_of_lt (by omega)];exact h1
  have ndP:ps.Nodup:=by rw[←S.pre];exact S.nd.sublist (List.take_sublist _ _)
  refine⟨u,rv,?_⟩;rcases S.par y (QX hp)with k|k
  .exact .inl ⟨k,NM ndP hp hu k⟩
  .obtain⟨c,e⟩:=Rm (n:=s.heap.objs.size+1) k
   refine .inr ⟨.inl k,c,e,?_⟩;have q:=x.cell y c e;rw[NL ndP hp hu (by show scope.names.lookup y≠_;rw[k];decide)]at q;exact q
 .exact e0.hok.fresh (J7 (x.above y c (Ja h)))
 .unfold Yc
  show _=N.length;rw[Qh,Qd,QY];omega
theorem Po{CX:CXT}{P:Ud}{w:World}{K:Frag}{mg:Str->A3}{base:Heap}{k:Nat}{f:Ue}{name qual:Str}{params:Arguments}{body:List Stmt}{scope:Scope}{dV kV doc pm cdv ct oc:Ub}{an od:qa}
  {osl:Array A3} {N ps:List Str} {sp:Sp} (lk:K.lookup f=O ⟨oc,od,.func (PySem.W.fnOf name qual params body scope dV kV doc pm an cdv ct),osl⟩) (hcd:PySem.W.codeIn K cdv qual=AX) (S:Y5 N ps scope)
  (len:∀vs H Q E,sp vs H Q E->vs.length=ps.length)
  (hbody:∀(A:Around)(outer:List Env)(s:Uc)(H:Hp)(vs:List V)(Q:VK)(E:XK),Room k (A.deeper (envOfC qual scope s.heap.objs.size f cdv))->sp vs H Q E ->
   ∃t,PSs (Ks CX P w K mg base N qual scope f cdv A outer s H E) body t/\t {nx:=λ_ H'=>Q .non H',rt:=Q} (Yc N vs) H) :
  FnOk P w K mg base CX (k+1) f (PySem.W.fnOf name qual params body scope dV kV doc pm an cdv ct) ps sp:=by
 refine⟨len,λA outer s H args us vs Q E hr e0 hb r qF=>?_⟩;have hl:=len _ _ _ _ qF;have KX:K.In s.heap:=e0.mod.kin.keeps λb o e=>(e0.bs b o e).1;have lim:s.heap.NoLimit:=e0.mod.nolimit.keeps λb o e=>(e0.bs b o e).1
 have hkind:∀y∈ps.zip us,scope.names.lookup y.1=O .local∨(scope.names.lookup y.1=O .cell/\((cellsFrom (s.heap.objs.size+1) scope.names []).lookup y.1).isSome=AX):=λ⟨n,v⟩ hy=>by
  rcases S.par n (List.of_mem_zip hy).1 with q|q
  .exact .inl q
  .exact .inr ⟨q,PySem.W.cellsFrom_some _ _ _ (.inl q)⟩
 refine codeAny_call_function hr.depth (KX _ _ lk) AV S.co S.gen AV (PySem.W.codeRec_of KX hcd) (hb _ _ _ _ ?_);refine wpAny_newFunctionEnv_cells S.kind hkind λenv he s1 x=>?_;subst he
 refine⟨lim.keeps x.toInCall.keep,codeAny_func ?_⟩;obtain⟨t,ht,hq⟩:=hbody A outer s H vs Q E (hr.deeper _) qF;have I:Inv (Ks CX P w K mg base N qual scope f cdv A outer s H E) [] (Yc N vs) H s1:=NK S hr.hd e0 hl r x;refine QB (ht [] s1 (Yc N vs) H _ I hq) (λfl s' hs=>?_) λe s' hs=>hs
 have fin:∀{σ':St}{H':Hp}{v:V}{u:Ub},Inv (Ks CX P w K mg base N qual scope f cdv A outer s H E) [] σ' H' s'->RelV v u->Q v H'->CE outer P w H s Q u s':=
  λ{σ' H' v u} J rv q=>⟨v,H',J.os,J.bare,J.base,J.hok,rv,q⟩
 cases fl with
 |ret u=>obtain⟨v,σ',H',J,rv,q⟩:=hs;exact fin J rv q
 |next=>obtain⟨σ',H',J,q⟩:=hs;exact fin (v:=V.non) (u:=Value.none) J AV q
 |brk=>obtain⟨_,_,_,q⟩:=hs;exact False.elim q
 |cont=>obtain⟨_,_,_,q⟩:=hs;exact False.elim q
section
variable{X:Cx}{x:Str}{p pos:Pos}{e:Ug}{es:A4}{t:TA}{id T:String}{r:List V->Hp->VK->Prop}
noncomputable def tCB(r:List V->Hp->VK->Prop)(t:TA):TE:=λσ H Q=>t σ H λvs H1=>r vs H1 Q
theorem VG(hc:ZZ X (.builtin id) r)(hg:Gl X x)(hm:X.mg x=AW)(hv:bootBuiltins x=O (.builtin id))(ha:PA X (e::es) t)(hn:x ≠ "__name__" :=by decide)(hdb:(x==("__debug__" : Str))=AY:=by decide)
  (he:Uj (e::es) X.env=(AY,eval e X.env)::Uj es X.env:=by rfl) (hpl:(backTo pos (Uj es X.env)).any (·.1)=AY:=by rfl):PE X (.Call (.Name x p) (e::es) [] pos) (tCB r t):=by
 intro pins s σ H Q I h;refine Jm (Ww I hg hm hv ?_ hn hdb);exact PyProof.Rows.callWith_builtin1 (thn (ha pos pins s σ H _ I h) λus s1 ⟨vs,H1,I1,r1,q1⟩=>hc pins s1 σ H1 vs us Q I1 r1 q1) he hpl
theorem Rt(hc:ZZ X (.type T) r)(hg:Gl X x)(hm:X.mg x=AW)(hv:bootBuiltins x=O (.type T))(ha:PA X (e::es) t)(hn:x ≠ "__name__" :=by decide)(hdb:(x==("__debug__" : Str))=AY:=by decide)
  (he:Uj (e::es) X.env=(AY,eval e X.env)::Uj es X.env:=by rfl) (hpl:(backTo pos (Uj es X.env)).any (·.1)=AY:=by rfl):PE X (.Call (.Name x p) (e::es) [] pos) (tCB r t):=by
 intro pins s σ H Q I h;refine Jm (Ww I hg hm hv ?_ hn hdb);exact JG (thn (ha pos pins s σ H _ I h) λus s1 ⟨vs,H1,I1,r1,q1⟩=>hc pins s1 σ H1 vs us Q I1 r1 q1) he hpl
end
end L2
namespace HT
open PySem PyProof.Rows
section
variable{prog:Ud}{w:World}{A:Around}{E:Ub->Uc->Prop}{s:Uc}
noncomputable def sIx(n d:Nat):A9->Nat
 |none=>d
 |some v=>if v<0 then(v+(n:Int)).toNat else min v.toNat n
end
end HT
namespace L2
open PySem PySem.Spec PyProof.Rows
abbrev TO:=St->Hp->(A9->Hp->Prop)->Prop
def PO(X:Cx)(e:Option Ug)(t:TO):Prop:=
 ∀(pins:List (Ue×Obj))(s:Uc)(σ:St)(H:Hp)(Q:A9->Hp->Prop),Inv X pins σ H s->t σ H Q ->
  Ui (model X.prog X.w) X.A (evalPart e X.env) (λu s'=>∃o H',Inv X pins σ H' s'/\IsPart u o/\Q o H') X.xe s
noncomputable def F8:TO:=λ_ H Q=>Q AW H
noncomputable def MS(t:TE):TO:=λσ H Q=>t σ H λx H1=>∃i,x=.int i/\Q (O i) H1
section
variable{X:Cx}{e:Ug}{te:TE}{lo hi:Option Ug}{tl th:TO}{pos p2:Pos}
theorem F7:PO X AW F8:=by intro pins s σ H Q I h;rw[evalPart_none];exact Qi ⟨AW,H,I,.none,h⟩
theorem F6(h:PE X e te):PO X (O e) (MS te):=by
 intro pins s σ H Q I hw;rw[evalPart_some];refine thn (h pins s σ H _ I hw) λu s1 ⟨x,H1,I1,r1,q1⟩=>?_
 obtain⟨i,rfl,q⟩:=q1;obtain⟨t,rfl⟩:=r1;exact⟨O i,H1,I1,.int i t,q⟩
def SlR(X:Cx)(r:V->A9->A9->Hp->VK->Prop):Prop:=
 ∀(pins:List (Ue×Obj))(s:Uc)(σ:St)(H:Hp)(x:V)(v vl vu:Ub)(lo hi:A9)(sl:Ue)(Q:VK),Inv X pins σ H s->RelV x v->s.heap.IsSliceOf sl vl vu .none->IsPart vl lo->IsPart vu hi->r x lo hi H Q ->
  ∃T id,typeLookup (.type T) "__getitem__" = pure (O (.builtin id))/\s.TypeIs v T/\Ui (model X.prog X.w) X.A (getItem v (.ref sl)) (EP X pins σ Q) X.xe s
theorem SlR.or{r r':V->A9->A9->Hp->VK->Prop}(h:SlR X r)(h':SlR X r'):SlR X (λx lo hi H Q=>r x lo hi H Q∨r' x lo hi H Q):=by
 intro pins s σ H x v vl vu lo hi sl Q I rx hs pl pu q;rcases q with q|q
 .exact h pins s σ H x v vl vu lo hi sl Q I rx hs pl pu q
 .exact h' pins s σ H x v vl vu lo hi sl Q I rx hs pl pu q
noncomputable def tSl(r:V->A9->A9->Hp->VK->Prop)(te:TE)(tl th:TO):TE:=λσ H Q=>te σ H λx H1=>tl σ H1 λl H2=>th σ H2 λu H3=>r x l u H3 Q
theorem CF{r:V->A9->A9->Hp->VK->Prop}(hr:SlR X r)(he:PE X e te)(hl:PO X lo tl)(hu:PO X hi th):PE X (.Subscript e (.Slice lo hi AW p2) pos) (tSl r te tl th):=by
 intro pins s σ H Q I h;refine Subscript_ (thn (he pins s σ H _ I h) λv s1 ⟨x,H1,I1,r1,q1⟩=>?_);refine wpAny_Slice (thn (hl pins s1 σ H1 _ I1 q1) λvl s2 ⟨l,H2,I2,pl,q2⟩=>thn (hu pins s2 σ H2 _ I2 q2) λvu s3 ⟨u,H3,I3,pu,q3⟩=>?_);rw[evalPart_none];refine Qi ?_;have I4:Inv X pins σ H3 {s3 with heap:=s3.heap.push {cls:=.type "slice", data:=.fields #[vl,vu,.none]}}:=I3.kept (t':=s3.toks) λb ob q=>Qe _ q
 obtain⟨T,id,hT,ht,hg⟩:=hr pins {s3 with heap:=s3.heap.push {cls:=.type "slice", data:=.fields #[vl,vu,.none]}} σ H3 x v vl vu l u s3.heap.objs.size Q I4 r1 (Heap.IsSliceOf.new ..) pl pu q3;show Ui (model X.prog X.w) X.A (subscriptTail e (.Slice lo hi AW p2) v (.ref s3.heap.objs.size)) (EP X pins σ Q) X.xe {s3 with heap:=s3.heap.push {cls:=.type "slice", data:=.fields #[vl,vu,.none]}};exact tail_any (ops:=[.ref s3.heap.objs.size,v]) ht hT hg (by with_unfolding_all rfl)
noncomputable def Yw(xs:List V)(lo hi:A9):List V:=(xs.drop (HT.sIx xs.length 0 lo)).take (HT.sIx xs.length xs.length hi-HT.sIx xs.length 0 lo)
theorem Av(xs:List V)(lo hi:A9):(Yw xs lo hi).length<=xs.length:=by unfold Yw;rw[JI,JY];omega
end
noncomputable def ixN(n:Nat)(i:Int):Option Nat:=if 0<=i then(if i<n then O i.toNat else AW)else if -(n:Int)<=i then O (i+n).toNat else AW
noncomputable def atI{α:Type}(xs:List α)(i:Int):Option α:=(ixN xs.length i).bind λj=>xs[j]?
theorem F5{n:Nat}{i:Int}{j:Nat}(h:ixN n i=O j):seqIndex? i n=O j/\j<n /\ -(n:Int)<=i/\i<n:=by
 unfold ixN at h;by_cases h0:0<=i
 .rw[Qp h0]at h
  by_cases h1:i<n
  .rw[Qp h1]at h
   have e:i.toNat=j:=Je h;exact⟨by rw[seqIndex_of h0 h1,e],by omega,by omega,h1⟩
  .rw[Qz h1]at h;cases h
 .rw[Qz h0]at h
  by_cases h1 : -(n:Int)<=i
  .rw[Qp h1]at h
   have e:(i+n).toNat=j:=Je h;exact⟨by rw[seqIndex_neg (by omega) h1,e],by omega,h1,by omega⟩
  .rw[Qz h1]at h;cases h
theorem Rj{α:Type}{xs:List α}{i:Int}{v:α}(h:atI xs i=O v):∃j,seqIndex? i xs.length=O j/\xs[j]?=O v/\j<xs.length /\ -(xs.length:Int)<=i/\i<xs.length:=by
 unfold atI at h;cases e:ixN xs.length i with
 |none=>rw[e]at h;cases h
 |some j=>rw[e]at h;obtain⟨h1,h2,h3,h4⟩:=F5 e;exact⟨j,h1,h,h2,h3,h4⟩
theorem K8{α:Type}{xs:List α}{j:Nat}{v:α}(h:xs[j]?=O v):atI xs (j:Int)=O v:=by
 have hj:j<xs.length:=(Qr.mp h).1;have e:ixN xs.length (j:Int)=O j:=by unfold ixN;rw[if_pos (by omega),if_pos (by omega)];simp
 unfold atI;rw[e];exact h
def T3(b:Ug):Prop:=∀o i,subscripted b AY o i=operate [o,i] (getItem o i)
def IxR(X:Cx)(r:R2):Prop:=
 ∀(value slice:Ug)(pins:List (Ue×Obj))(s:Uc)(σ:St)(H:Hp)(x y:V)(v u:Ub)(Q:VK),Inv X pins σ H s->RelV x v->RelV y u->r x y H Q ->
  subscripted slice AY v u=operate [v,u] (getItem v u)->Ui (model X.prog X.w) X.A (subscriptTail value slice v u) (EP X pins σ Q) X.xe s
def MtR(X:Cx)(id:String)(r:V->List V->Hp->VK->Prop):Prop:=
 ∀(pins:List (Ue×Obj))(s:Uc)(σ:St)(H:Hp)(x:V)(xs:List V)(v:Ub)(us:A0)(Q:VK),Inv X pins σ H s->RelV x v->Vals xs us->r x xs H Q ->
  Ui (model X.prog X.w) X.A (call (.builtin id) (v::us)) (EP X pins σ Q) X.xe s
section
variable{X:Cx}{a b:Ug}{ta tb:TE}{pos:Pos}
theorem IxR.or{r r':R2}(h:IxR X r)(h':IxR X r'):IxR X (λx y H Q=>r x y H Q∨r' x y H Q):=by
 intro value slice pins s σ H x y v u Q I rx ry q hs;rcases q with q|q
 .exact h value slice pins s σ H x y v u Q I rx ry q hs
 .exact h' value slice pins s σ H x y v u Q I rx ry q hs
theorem SI{r:R2}(hr:IxR X r)(ha:PE X a ta)(hb:PE X b tb)(hs:T3 b):PE X (.Subscript a b pos) (tOp r ta tb):=by intro pins s σ H Q I h;exact Subscript_ (Vc ha hb I h λv u s2 x y H2 I2 rx ry q=>hr a b pins s2 σ H2 x y v u Q I2 rx ry q (hs _ _))
noncomputable def rIxL(K:Frag):R2:=λx y H Q=>∃p xs i v,x=.ref p/\y=.int i/\SqL K H p xs/\atI xs i=O v/\Q v H
noncomputable def rIxT(K:Frag):R2:=λx y H Q=>∃p xs i v,x=.ref p/\y=.int i/\SqT K H p xs/\atI xs i=O v/\Q v H
noncomputable def rIxS:R2:=λx y H Q=>∃z i c,x=.str z/\y=.int i/\z.length<=Uh/\atI z.cps.toList i=O c/\Q (.str ⟨#[c]⟩) H
theorem F4:IxR X (rIxL X.K):=by
 intro value slice pins s σ H x y v u Q I rx ry h hs;obtain⟨p,xs,i,z,rfl,rfl,hq,he,q⟩:=h;cases rx;obtain⟨t,rfl⟩:=ry;obtain⟨its,r,pl,hz⟩:=I.list hq;obtain⟨j,h1,h2,h3,h4,h5⟩:=Rj he;obtain⟨w,ew,jG⟩:=r.get h2;have hl:=r.length;have hn:=TX;have fin:EP X pins σ Q w s:=⟨z,H,I,jG,q⟩
 by_cases h0:0<=i
 .have hj:i.toNat=j:=by
   rw[seqIndex_of h0 h5]at h1;exact Je h1
  exact item_listR pl.isList h0 (by omega) (by rw[hj];simpa using ew) fin hs
 .have hj:(i+(its.toArray.size:Int)).toNat=j:=by
   rw[seqIndex_neg (by omega) h4]at h1;rw[QT,←hl];exact Je h1
  exact subscriptTail_builtinR (x:=w) pl.isList.typeIs slot_list_getitem.lookup
   (wpAny_getItem_list_neg (Q:=λr s'=>r=w/\EP X pins σ Q r s') pl.isList (by omega) (by rw[List.size_toArray]<;>omega) (by omega) (by rw[hj];simpa using ew) ⟨rfl,fin⟩) hs
theorem Gv:IxR X (rIxT X.K):=by
 intro value slice pins s σ H x y v u Q I rx ry h hs;obtain⟨p,xs,i,z,rfl,rfl,hq,he,q⟩:=h;cases rx;obtain⟨t,rfl⟩:=ry;obtain⟨its,r,pl,hz⟩:=I.tuple hq;obtain⟨j,h1,h2,h3,h4,h5⟩:=Rj he;obtain⟨w,ew,jG⟩:=r.get h2;have hl:=r.length;have hn:=TX;have fin:EP X pins σ Q w s:=⟨z,H,I,jG,q⟩
 exact subscriptTail_builtinR (x:=w) pl.typeIs slot_tuple_getitem.lookup
  (getItem_tuple (j:=j) (Q:=λr s'=>r=w/\EP X pins σ Q r s') pl (by omega) (by omega) (by rw[List.size_toArray,←hl];exact h1) (by simpa using ew) ⟨rfl,fin⟩) hs
theorem Gu:IxR X rIxS:=by
 intro value slice pins s σ H x y v u Q I rx ry h hs;obtain⟨z,i,c,rfl,rfl,hz,he,q⟩:=h;obtain⟨t,rfl⟩:=rx;obtain⟨t',rfl⟩:=ry;obtain⟨j,h1,h2,h3,h4,h5⟩:=Rj he;have hl:z.cps.toList.length=z.length:=by simp[Str.length]
 rw[hl]at h1 h4 h5;have hn:=TX;exact tail_any (typeIs_str s z t) slot_str_getitem.lookup (getItem_str (c:=c) (by have e1:decide (i < -(2 ^ 63:Int))=AY:=Qy (by omega);have e2:decide (i ≥ 2 ^ 63)=AY:=Qy (by omega);rw[e1,e2,Bool.or_false]) (by rw[h1];simpa using h2) ⟨.str ⟨#[c]⟩,H,I.tok _,⟨_,rfl⟩,q⟩) hs
noncomputable def rIx(K:Frag):R2:=λx y H Q=>rIxL K x y H Q∨rIxT K x y H Q∨rIxS x y H Q
theorem SX:IxR X (rIx X.K):=F4.or (Gv.or Gu)
theorem AF(lo hi:A9)(n:Nat):(sliceBounds lo hi AW n).1=((HT.sIx n 0 lo:Nat):Int)/\(sliceBounds lo hi AW n).2.1=((HT.sIx n n hi:Nat):Int)/\(sliceBounds lo hi AW n).2.2=1:=by
 refine⟨?_,?_,rfl⟩
 .cases lo with
  |none=>simp[sliceBounds,HT.sIx]
  |some i=>
   simp only[sliceBounds,HT.sIx,Option.getD_none,show(1:Int) > 0 by decide,if_true];by_cases h:i<0
   .simp only[h,if_true]<;>omega
   .simp only[h,J9]<;>omega
 .cases hi with
  |none=>simp[sliceBounds,HT.sIx]
  |some i=>
   simp only[sliceBounds,HT.sIx,Option.getD_none,show(1:Int) > 0 by decide,if_true];by_cases h:i<0
   .simp only[h,if_true]<;>omega
   .simp only[h,J9]<;>omega
theorem Aw(its:A0)(lo hi:A9):slicePick its.toArray lo hi AW=((its.drop (HT.sIx its.length 0 lo)).take (HT.sIx its.length its.length hi-HT.sIx its.length 0 lo)).toArray:=by obtain⟨h1,h2,h3⟩:=AF lo hi its.toArray.size;unfold slicePick;rw[h1,h2,h3];simp only[sliceRange_one,pick_run,QT]<;>rfl
noncomputable def rSlL(K:Frag):V->A9->A9->Hp->VK->Prop:=λx lo hi H Q=>∃a xs,x=.ref a/\SqL K H a xs/\∀p,H p=AW->Q (.ref p) (upd H p (.lst (Yw xs lo hi)))
theorem F3:SlR X (rSlL X.K):=by intro pins s σ H x v vl vu lo hi sl Q I rx hs pl pu h;obtain⟨a,xs,rfl,hx,q⟩:=h;cases rx;obtain⟨its,r,ht,hz⟩:=I.list hx;have hlen:=r.length;refine⟨"list", _,slot_list_getitem.lookup,ht.isList.typeIs,?_⟩;refine wpAny_getItem_list_slice ht.isList hs pl pu .none (by simp) ?_ (by rw[List.size_toArray]<;>omega);rw[Aw,←hlen];refine⟨.ref s.heap.objs.size,_,I.laid (t':=s.toks) (o:=.lst (Yw xs lo hi)) (λb ob q=>Qe _ q) (Qq _) ?_,rfl,q _ (I.hok.fresh (Qq _))⟩;exact⟨Qt (Av xs lo hi) hz,_,0,(r.drop (HT.sIx xs.length 0 lo)).take (HT.sIx xs.length xs.length hi-HT.sIx xs.length 0 lo),QD _ AV⟩
theorem NX:ZZ X (.type "list") (λxs H Q=>∃p ys,xs=[.ref p]/\(SqL X.K H p ys∨SqT X.K H p ys)/\∀l,H l=AW->Q (.ref l) (upd H l (.lst ys))):=by
 intro pins s σ H xs us Q I r h;obtain⟨p,ys,rfl,hq,q⟩:=h;obtain⟨u,rfl,rx⟩:=Pf r;cases rx
 have fin:∀(its:A0),Vals ys its->ys.length<=Uh->∀(h':Heap)(c':Nat),(∀b o',s.heap.get? b=O o'->h'.get? b=O o') ->
   h'.get? s.heap.objs.size=O {cls:=.type "list", dict:=AW,data:=.seq its.toArray c',slots:=#[]}->EP X pins σ Q (.ref s.heap.objs.size) {s with heap:=h'}:=λits r' hz h' c' kp e=>
  ⟨.ref s.heap.objs.size,_,I.laid (t':=s.toks) kp (Qq _) (show K4 X.prog X.w _ h' _ (.lst ys)from⟨hz,its,c',r',e⟩),rfl,q _ (I.hok.fresh (Qq _))⟩
 rcases hq with hq|hq
 .obtain⟨its,r',pl,hz⟩:=I.list hq
  have hlen:=r'.length;obtain⟨o,ho,hc,n,hd⟩:=pl.isList;exact call_list_seq p (.inl AV) ho hc hd (λh' c' kp e=>fin its r' hz h' c' kp e) (by simp only[QT]<;>omega)
 .obtain⟨its,r',pl,hz⟩:=I.tuple hq
  have hlen:=r'.length;obtain⟨o,ho,hc,n,hd⟩:=pl;exact call_list_seq p (.inr AV) ho hc hd (λh' c' kp e=>fin its r' hz h' c' kp e) (by simp only[QT]<;>omega)
def tyV(K:Frag)(T:String)(x:V)(H:Hp):Prop:=match x with
 |.str _=>T = "str"
 |.int _=>T = "int"
 |.ref p=>(T = "list" /\ ∃xs,SqL K H p xs)∨(T = "tuple" /\ ∃o,K.lookup p=O o/\o.cls=.type "tuple" /\ o.dict=AW) ∨
   (T = "dict" /\ ((∃kvs,H p=O (.dK kvs)) ∨ ∃kvs,H p=O (.dT kvs)))∨(T = "set" /\ ∃S n,H p=O (.set S n))
 |_=>False
theorem PK{pins:List (Ue×Obj)}{σ:St}{H:Hp}{s:Uc}{T:String}{x:V}{v:Ub}(I:Inv X pins σ H s)(r:RelV x v)(ty:tyV X.K T x H) :
  s.TypeIs v T/\∀a,v=.ref a->∃ob,s.heap.get? a=O ob/\ob.dict=AW:=by
 cases x with
 |str z=>obtain⟨t,rfl⟩:=r;cases (show T = "str" from ty);exact⟨typeIs_str s z t,λ_ e=>nomatch e⟩
 |int i=>obtain⟨t,rfl⟩:=r;cases (show T = "int" from ty);exact⟨typeIs_int s i t,λ_ e=>nomatch e⟩
 |ref p=>
  cases r;rcases ty with ⟨rfl,xs,hq⟩|⟨rfl,o,hk,hc,hd⟩|⟨rfl,hk⟩|⟨rfl,S,n,hk⟩
  .obtain⟨its,_,pl,_⟩:=I.list hq
   refine⟨pl.isList.typeIs,λa e=>?_⟩;cases e;obtain⟨o,n,e,c,hd,_⟩:=pl;exact⟨o,e,hd⟩
  .refine⟨⟨o,I.kIn p o hk,hc⟩,λa e=>?_⟩
   cases e;exact⟨o,I.kIn _ o hk,hd⟩
  .have z:∃o,s.heap.get? p=O o/\o.ExactDict:=by
    rcases hk with ⟨kvs,hk⟩|⟨kvs,hk⟩
    .obtain⟨_,_,_,_,o,_,_,e,ex,_⟩:=I.hok p _ hk
     exact⟨o,e,ex⟩
    .obtain⟨_,_,_,_,o,_,_,e,ex,_⟩:=I.hok p _ hk
     exact⟨o,e,ex⟩
   obtain⟨o,e,ex⟩:=z;refine⟨⟨o,e,ex.1⟩,λa e2=>?_⟩;cases e2;exact⟨o,e,ex.2.1⟩
  .obtain⟨o,_,_,_,e,ex,_⟩:=I.hok p _ hk
   refine⟨⟨o,e,ex.1⟩,λa e2=>?_⟩;cases e2;exact⟨o,e,ex.2.1⟩
 |_=>exact False.elim ty
noncomputable def tBM0(K:Frag)(T:String)(r:V->List V->Hp->VK->Prop)(to:TE):TE:=λσ H Q=>to σ H λx H1=>tyV K T x H1/\r x [] H1 Q
noncomputable def tBM(K:Frag)(T:String)(r:V->List V->Hp->VK->Prop)(to:TE)(t:TA):TE:=λσ H Q=>to σ H λx H1=>tyV K T x H1/\t σ H1 λxs H2=>r x xs H2 Q
variable{o e:Ug}{es:A4}{to:TE}{t:TA}{name:Str}{apos cpos:Pos}{T id:String}{r:V->List V->Hp->VK->Prop}
theorem Gs(pa:PlainAttrs T)(slot:Slot T name id)(hty:typeOf (.builtin id)=pure (.type "method_descriptor"))(hm:MtR X id r)(ho:PE X o to)
  (hbase:attributeBase o name X.env (eval o X.env)=eval o X.env:=by rfl) (hline:(apos.endLine==cpos.line)=AX:=by rfl):PE X (.Call (.Attribute o name apos) [] [] cpos) (tBM0 X.K T r to):=by
 intro pins s σ H Q I h;refine wpAny_Call_method0_late hbase hline (thn (ho pins s σ H _ I h) λv s1 ⟨x,H1,I1,r1,ty,q1⟩=>?_);obtain⟨h1,h2⟩:=PK I1 r1 ty;exact⟨T,id,pa,slot,hty,h1,h2,Calls.callWith_builtin AV (PySem.evalArgs_none (hm pins s1 σ H1 x [] v [] Q I1 r1 .nil q1))⟩
theorem Vk(pa:PlainAttrs T)(slot:Slot T name id)(hty:typeOf (.builtin id)=pure (.type "method_descriptor"))(hm:MtR X id r)(ho:PE X o to)(ha:PA X (e::es) t)
  (hbase:attributeBase o name X.env (eval o X.env)=eval o X.env:=by rfl)
  (hfew:((backTo cpos (Uj (e::es) X.env)).all (λx=>!x.1)&&(backToKw cpos (keywordEach [] X.env)).all (λx=>x.1.isSome)
   && decide ((e::es).length+([]:List Keyword).length+(if([]:List Keyword).isEmpty then 0 else 1)<30))=AX:=by rfl)
  (hline:(apos.endLine==cpos.line)=AX:=by rfl) (hs:Uj (e::es) X.env=(AY,eval e X.env)::Uj es X.env:=by rfl) (hplain:(backTo cpos (Uj es X.env)).any (·.1)=AY:=by rfl) :
  PE X (.Call (.Attribute o name apos) (e::es) [] cpos) (tBM X.K T r to t):=by
 intro pins s σ H Q I h;refine wpAny_Call_method_late hbase hfew hline AV (thn (ho pins s σ H _ I h) λv s1 ⟨x,H1,I1,r1,ty,q1⟩=>?_);obtain⟨h1,h2⟩:=PK I1 r1 ty;refine⟨T,id,pa,slot,hty,h1,h2,?_⟩;have hA:=ha cpos pins s1 σ H1 _ I1 q1;rw[hs]at hA⊢;refine Calls.callWith_builtin (by show(AY || (backTo cpos (Uj es X.env)).any (·.1))=AY;rw[hplain]<;>rfl) (Calls.evalArgs_plain ?_);exact thn hA λus s2 ⟨vs,H2,I2,r2,q2⟩=>hm pins s2 σ H2 x vs v us Q I2 r1 r2 q2
end
def MtM(X:Cx)(id:String)(r:V->List V->Hp->VK->Prop):Prop:=
 ∀(pins:List (Ue×Obj))(s:Uc)(σ:St)(H:Hp)(x:V)(xs:List V)(v:Ub)(us:A0)(Q:VK),Inv X pins σ H s->RelV x v->Vals xs us->r x xs H Q ->
  Ui (model X.prog X.w) X.A (call (.builtin id) (v::us)) (EP X pins σ Q) X.xe s
theorem Vals.one:∀{x:V}{us:A0},Vals [x] us->∃u,us=[u]/\RelV x u
 |_,_,.cons r .nil=>⟨_,rfl,r⟩
theorem Vals.two:∀{x y:V}{us:A0},Vals [x,y] us->∃u v,us=[u,v]/\RelV x u/\RelV y v
 |_,_,_,.cons r (.cons q .nil)=>⟨_,_,rfl,r,q⟩
theorem Vals.zero:∀{us:A0},Vals [] us->us=[]
 |_,.nil=>rfl
theorem Vals.reverse{xs:List V}{us:A0}(h:Vals xs us):Vals xs.reverse us.reverse:=by
 induction h with
 |nil=>exact .nil
 |cons r t ih=>rw[JL,JL];exact Vals.append ih (.cons r .nil)
theorem Vals.rep{xs:List V}{us:A0}(h:Vals xs us):∀k:Nat,Vals (Um k xs).flatten (Um k us).flatten
 |0=>.nil
 |k+1=>by rw[Jb,Jb,QS,QS];exact Vals.append h (Vals.rep h k)
theorem NU(its:A0):∀(k:Nat)(acc:A0),
  List.foldl (λx1 x2=>x1++x2) acc.toArray (Um k its.toArray)=(acc++(Um k its).flatten).toArray
 |0,acc=>by simp
 |k+1,acc=>by
  have e:acc.toArray++its.toArray=(acc++its).toArray:=by simp
  have e2:(acc++its)++(Um k its).flatten=acc++(Um (k+1) its).flatten:=by rw[Jb,QS,Ji]
  rw[←e2,←NU its k (acc++its),←e,Jb,List.foldl_cons]
section
variable{X:Cx}{pins:List (Ue×Obj)}{σ:St}{H:Hp}{s:Uc}{l b:Ue}{xs ys zs:List V}
theorem Inv.lset{its its':A0}{n:Nat}{f:Array Ub->Array Ub}{t':Nat}(I:Inv X pins σ H s)(hH:H l=O (.lst xs))
  (e:s.heap.get? l=O {cls:=.type "list", data:=.seq its.toArray n}) (hf:f its.toArray=its'.toArray) (hv:Vals ys its') (hz:ys.length<=Uh) :
  Inv X pins σ (upd H l (.lst ys)) {s with heap:=s.heap.update l (Obj.mapSeq f),toks:=t'}:=by
 have q:=PySem.IsL.update e f;rw[hf]at q;refine I.write (x:=l) (e:=l) (by rw[hH];exact trivial) (.inl AV) (λb' u hb hu=>(Qn s.heap (Obj.mapSeq f) (Ne.symm hb)).trans hu) ⟨_,q⟩ ?_;exact⟨hz,its',_,hv,q⟩
theorem Inv.lnew{its:A0}{t':Nat}(I:Inv X pins σ H s)(hv:Vals ys its)(hz:ys.length<=Uh) :
  Inv X pins σ (upd H s.heap.objs.size (.lst ys)) {s with heap:=s.heap.push {cls:=.type "list", data:=.seq its.toArray},toks:=t'}:=
 I.laid (λ_ _ q=>Qe _ q) (Qq _) ⟨hz,its,0,hv,QD _ AV⟩
theorem Inv.fresh(I:Inv X pins σ H s):H s.heap.objs.size=AW:=I.hok.fresh (Qq _)
theorem Inv.lstM(I:Inv X pins σ H s)(hH:H l=O (.lst xs)):xs.length<=Uh/\∃(its:A0)(n:Nat),Vals xs its/\xs.length=its.length/\s.heap.get? l=O {cls:=.type "list", data:=.seq its.toArray n}:=by obtain⟨z,its,n,r,e⟩:=I.hok l _ hH;exact⟨z,its,n,r,r.length,e⟩
theorem CD{n:Nat}(h:n<=Uh):Builtin.List.listTooLong n=AY:=by unfold Builtin.List.listTooLong;exact Qy (by omega)
end
section
variable{X:Cx}
noncomputable def F2:V->List V->Hp->VK->Prop:=λx vs H Q=>∃l xs y,x=.ref l/\vs=[y]/\H l=O (.lst xs)/\xs.length<Uh/\Q .non (upd H l (.lst (xs++[y])))
theorem VA:MtM X "list.append" F2:=by intro pins s σ H x vs v us Q I rx rv h;obtain⟨l,xs,y,rfl,rfl,hH,hz,q⟩:=h;cases rx;obtain⟨u,rfl,ru⟩:=rv.one;obtain⟨z,its,n,r,hl,e⟩:=I.lstM hH;refine call_meets F.slot_list_append ⟨_,e,rfl⟩ F.entry_list_append (F.args_list_append_2 _ _) (PySem.list_append l its.toArray n u (by rw[QT];omega)) ⟨e,?_⟩;refine⟨.non,_,I.lset (its':=its++[u]) hH e (by simp) (r.append (.cons ru .nil)) ?_,rfl,q⟩;rw[Qh,QZ];omega
noncomputable def Gr:V->List V->Hp->VK->Prop:=λx vs H Q=>∃l xs,x=.ref l/\vs=[]/\H l=O (.lst xs)/\Q .non (upd H l (.lst []))
theorem DE:MtM X "list.clear" Gr:=by intro pins s σ H x vs v us Q I rx rv h;obtain⟨l,xs,rfl,rfl,hH,q⟩:=h;cases rx;have hus:=rv.zero;subst hus;obtain⟨z,its,n,r,hl,e⟩:=I.lstM hH;refine call_meets F.slot_list_clear ⟨_,e,rfl⟩ F.entry_list_clear (F.args_list_clear_1 _) (AutoSeq1.list_clear_list_0 l its.toArray n (by rw[QT];omega)) ⟨e,?_⟩;exact⟨.non,_,I.lset (its':=[]) (ys:=[]) hH e AV .nil (JX _),rfl,q⟩
theorem F1{α:Type}(xs:List α)(k:Nat):(Um k xs).flatten.length=k*xs.length:=by
 induction k with
 |zero=>simp
 |succ k ih=>rw[Jb,QS,Qh,ih,Nat.succ_mul,Nat.add_comm]
end
section
variable{prog:Ud}{w:World}{A:Around}{E:Ub->Uc->Prop}{s:Uc}
set_option maxRecDepth 100000 in
end
end L2
namespace Att
open PySem PySem.W PySem.Calls PyProof.Rows
theorem AJ{P:Params}{h:Heap}:∀(ns:A1)(vs:A0),WellAll P h vs (ns.map WData.int)->IntsAre vs ns:=by
 intro ns;induction ns with
 |nil=>intro vs w;rw[JM]at w;cases w;exact .nil
 |cons n ns ih=>
  intro vs w;rw[QN]at w;cases w with
  |cons a b=>cases a;exact .cons _ _ (ih _ b)
theorem B7{l:OpenLaw}{n:Nat}(hn:l.most=O n){P:Params}{h:Heap}{args:List WData}{vals:A0}
  (hpre:l.row.toRowW.claim.pre args=AX) (ju:WellAll P h vals args) :
  ∃a vs ns,vals=[Value.ref a]/\args=[WData.list (ns.map WData.int)]/\h.get? a=O {cls:=.type "list", data:=.seq vs.toArray}/\IntsAre vs ns/\ns.length<=n:=by
 have hsh:WShape.hasAll [] args [.list .int]=AX:=(pre_splitW hpre).1;have hc:l.pre.holds [] {args:=args}=AX:=(pre_splitW hpre).2;obtain⟨d,r,rfl,h1,h2⟩:=hasAllW_cons hsh;obtain rfl:=hasAllW_nil h2;obtain⟨xs,rfl,h3⟩:=hasW_list h1;obtain⟨ns,rfl⟩:=items_int h3
 have hlen:ns.length<=n:=by
  unfold OpenLaw.pre at hc;have h4:(WTm.not (.lt (.lit (.int (n:Int))) (.len (.arg 0)))).holds [] {args:=[.list (ns.map .int)]}=AX:=by have h4:=(holds_andW hc).1;rw[hn]at h4;exact h4
  have h5:=condW_of h4 (w_not (w_lt w_lit (w_len_list (w_arg AV))));rw[Qd]at h5;refine Q0 λq=>?_;have q':(n:Int)<((ns.length:Nat):Int):=by omega
  first
   |(rw[QG q']at h5;exact absurd h5 (by decide))
   |(simp at h5;omega)
 cases ju with
 |cons w1 w2=>
  cases w2;cases w1 with
  |list ho hall=>exact⟨_,_,ns,rfl,rfl,ho,AJ ns _ hall,hlen⟩
theorem B6(l:OpenLaw)(args:List WData):l.row.toRowW.claim.post args (.bool AX) args=AX:=
 postW_of (r:=l.row.toRowW) (X:=(AX==AX))
  (show WShape.has [] (.bool AX) .bool=AX by first|rfl|decide|simp[WShape.has,WShape.arms,WShape.armsAll])
  (show(WTm.eq .res (.lit (.bool AX))).value [] {args:=args,res:=O (.bool AX),after:=args}=O (.bool (AX==AX))from w_eq_bool (w_res AV) w_lit) AV
theorem attach_call{l:OpenLaw}{n:Nat}{q:Ud}{loose:List Str}{XP:(Str->A3)->Heap->Prop}{YP:World->Heap->Prop}{d:DefRec}
  (hn:l.most=O n) (hdf:d.params.defaults=[])
  (call:∀(w:World)(s₀ s₁:Uc)(mg mb:Str->A3)(fa:Ue)(o:Obj)(pm cd doc:Ub)(a:Ue)(vs:A0)(ns:A1),
   Ground q loose [] XP w s₀ mg mb s₁.heap->YP w s₁.heap ->
   s₁.heap.get? fa=O o->o.data=.func (docDef d.name d.params d.body d.scope pm cd doc)->s₁.heap.CodeRec cd d.name->mg d.name=O (.ref fa) ->
   s₁.heap.get? a=O {cls:=.type "list", data:=.seq vs.toArray}->IntsAre vs ns->ns.length<=n->s₁.gens=#[] ->
   codeAny (model l.prog w) callerA (.call (.ref fa) ⟨[.ref a],[]⟩) (λr s'=>r=.ok (.ret (.bool AX))/\OldK s₁.heap s'.heap/\s'.os=s₁.os/\AllBare s'.gens) s₁) :
  WalkO q loose XP YP l.row.toRowW d [] (λf vs=>PySem.call f vs):=by
 intro w s₀ s₁ mg mb G Y fa o pm cd doc dV kV ho hd hcd hD hmg hg args vals as hpre hlay hrd ju hlo;obtain rfl:dV=.none:=Dflts.none hD hdf;obtain rfl:kV=.none:=Dflts.noKw hD;obtain⟨a,vs,ns,rfl,rfl,hobj,hints,hlen⟩:=B7 hn hpre ju;refine enter_call (Jy (call w s₀ s₁ mg mb fa o pm cd doc a vs ns G Y ho (fd_plain hd) hcd hmg hobj hints hlen hg) λr s' hq=>?_);obtain⟨rfl,h2,h3,h4⟩:=hq;exact⟨.inl ⟨.bool AX,.bool AX,[],rfl,λ_=>rfl,.bool AX,B6 l _,λ_=>⟨List.Pairwise.nil,λ_ hm=>(nomatch hm)⟩⟩,h2,h3,h4⟩
end Att
namespace L2
open PySem PySem.Spec PyProof.Rows
theorem Vz:∀{vs:A0}{ns:A1},IntsAre vs ns->Vals (ns.map V.int) vs
 |_,_,.nil=>.nil
 |_,_,.cons n t h=>.cons ⟨t,rfl⟩ (Vz h)
def Only(H:Hp):Prop:=∀b,H b=AW ∨ ∃o xs,H b=O (.frz o (.lst xs))
theorem DD{P:Ud}{w:World}{K:Frag}{mg mb:Str->A3}{CX:CXT}{k:Nat}{fa a:Ue}{fd:Uf}{x:Str}{sp:Sp}{s₁:Uc}{vs:A0}{ns:A1}
  (KX:K.In s₁.heap) (hns:s₁.heap.Ns mainGlobals mg) (hb:s₁.heap.Ns builtinsNs mb) (hbb:∀x:Str,x ≠ "__name__" -> mb x=bootBuiltins x) (hlim:s₁.heap.NoLimit) (hg:s₁.gens=#[])
  (ha:s₁.heap.get? a=O {cls:=.type "list", data:=.seq vs.toArray}) (hi:IntsAre vs ns) (hl:ns.length<=Uh) (hr:Room k callerA)
  (F:∀base:Heap,K.In base->base.Ns mainGlobals mg->FnOk P w K mg base CX k fa fd [x] sp) (hbind:∀(s:Uc)(u:Ub),BindsTo s fd ⟨[u],[]⟩ [(x,u)])
  (qF:∀H:Hp,Only H->SqL K H a (ns.map V.int)->sp [.ref a] H (λv _=>v=.bl AX) λ_ _ _=>False)
  (hCX:∀H e s',CX [] H s₁ (λ_ _ _=>False) e s'->False) :
  codeAny (model P w) callerA (.call (.ref fa) ⟨[.ref a],[]⟩) (λr s'=>r=.ok (.ret (.bool AX))/\OldK s₁.heap s'.heap/\s'.os=s₁.os/\AllBare s'.gens) s₁:=by
 have rv:=Vz hi;have lenV:=hi.length
 have core:∀H:Hp,Only H->SqL K H a (ns.map V.int)->HOk P w H s₁.heap->(∀b,H b≠AW->b=a)->(H a≠AW->K.lookup a=AW) ->
   codeAny (model P w) callerA (.call (.ref fa) ⟨[.ref a],[]⟩) (λr s'=>r=.ok (.ret (.bool AX))/\OldK s₁.heap s'.heap/\s'.os=s₁.os/\AllBare s'.gens) s₁:=by
  intro H hO hS hok hA hK;have base_of:∀{b:Ue}{o:Obj},s₁.heap.get? b=O o->H b=AW->(Zu s₁.heap H).get? b=O o:=λe n=>CM e n
  have noA:∀{b:Ue}{o:Obj}{es:Array DictEntry}{ep:Nat},s₁.heap.get? b=O o->o.data=.dict es ep->H b=AW:=λ{b o es ep} e d=>by
   cases q:H b with
   |none=>rfl
   |some u=>have e':b=a:=hA b (by rw[q];simp);subst e';rw[ha]at e;cases e;have d':Data.seq vs.toArray _=Data.dict es ep:=d;cases d'
  have nsK:∀{b:Ue}{m:Str->A3},s₁.heap.Ns b m->(Zu s₁.heap H).Ns b m:=λ{b m} ⟨o,es,ep,e,d,r⟩=>⟨o,es,ep,base_of e (noA e d),d,r⟩
  have hKb:K.In (Zu s₁.heap H):=λb o e=>base_of (KX b o e) (by
   cases q:H b with
   |none=>rfl
   |some u=>have e':b=a:=hA b (by rw[q];simp);subst e';rw[hK (by rw[q];simp)]at e;cases e)
  have hM:Mod K mg (Zu s₁.heap H):=⟨hKb,nsK hns,⟨mb,nsK hb,hbb⟩,let ⟨mc,h1,h2⟩:=hlim;⟨mc,nsK h1,h2⟩⟩
  have e0:Env0 P w K mg (Zu s₁.heap H) callerA [] s₁ H:=⟨rfl,hM,λb o e=>Dm e,Nat.le_of_eq (BM _ _),trivial,λb hb=>absurd (show b∈([]:A5)from hb) (by simp),hok,.of_eq hg⟩
  refine Jy ((F _ hKb (nsK hns)).run callerA [] s₁ H ⟨[.ref a],[]⟩ [.ref a] [.ref a] _ _ hr e0 (hbind s₁ (.ref a)) (.cons AV .nil) (qF H hO hS)) λr s' h=>?_
  cases r with
  |error e=>exact(hCX H e s' h).elim
  |ok fl=>
   cases fl with
   |next=>exact False.elim h
   |brk=>exact False.elim h
   |cont=>exact False.elim h
   |ret u=>
    obtain⟨v,H',os,bare,un,hok',r',q⟩:=h;have q':v=.bl AX:=q;subst q';obtain rfl:u=Value.bool AX:=r';refine⟨rfl,OldK.of_keep λb o e=>?_,os,bare⟩;cases q:H b with
    |none=>exact un.keep b o e q (by intro z;exact absurd (show b∈([]:A5)from z) (by simp)) (by simp)
    |some u=>
     rcases hO b with z|⟨ob,xs,z⟩
     .rw[q]at z;cases z
     .have z2:=un.frzs b ob _ z
      obtain⟨e1,_⟩:=hok b _ z;obtain⟨e2,_⟩:=hok' b _ z2;rw[e]at e1;cases e1;exact e2
 cases hk:K.lookup a with
 |some o=>have e:=KX a o hk;rw[ha]at e;cases e;refine core (λ_=>AW) (λ_=>.inl AV) (.inr ⟨_,vs.toArray,_,hk,rfl,rfl,rfl,by rw[List.size_toArray,lenV];exact hl,by simpa using rv⟩) (λb u z=>by have z':(none:Option HO)=O u:=z;cases z') (λb z=>absurd AV z) λz=>absurd AV z
 |none=>
  refine core (λb=>if b=a then O (.frz {cls:=.type "list", data:=.seq vs.toArray} (.lst (ns.map V.int)))else AW) (λb=>?_) (.inl (.inr ⟨{cls:=.type "list", data:=.seq vs.toArray},Qp AV⟩)) (λb u z=>?_) (λb z=>?_) λ_=>hk
  .by_cases hb:b=a
   .exact .inr ⟨_,_,Qp hb⟩
   .exact .inl (Qz hb)
  .by_cases hb:b=a
   .have z':=(Qp hb).symm.trans z
    cases z';subst hb;exact⟨ha,by rw[Qd];exact hl,vs,_,rv,ha⟩
   .have z':=(Qz hb).symm.trans z
    cases z'
  .by_cases hb:b=a
   .exact hb
   .exact absurd (Qz hb) z
noncomputable def Yp(s:Stmt):Arguments:=match s with
 |.FunctionDef _ a _ _ _ _ _ _ _ _=>a
 |_=>{posonlyargs:=[],args:=[],vararg:=AW,kwonlyargs:=[],kw_defaults:=[],kwarg:=AW,defaults:=[]}
noncomputable def K7(s:Stmt):List Stmt:=match s with
 |.FunctionDef _ _ b _ _ _ _ _ _ _=>b
 |_=>[]
noncomputable def Ki(s:Stmt):Scope:=match s with
 |.FunctionDef _ _ _ _ _ _ sc _ _ _=>sc
 |_=>{kind:=.function,names:=[],isGenerator:=AY,isCoroutine:=AY}
noncomputable abbrev CX0:CXT:=λ_ _ _ _ _ _=>False
noncomputable abbrev E0:XK:=λ_ _ _=>False
theorem Tu{X:Cx}:SY CX0 X E0:=λ_ _ _ _ _ _ _ h=>h.elim
structure Fun(K:Frag)(x qual:Str)(st:Stmt)(f:Ue)(fd:Uf):Prop where
 ex:∃(oc:Ub)(od:qa)(kV doc pm:Ub)(an:qa)(cdv ct:Ub)(osl:Array A3),
  fd=PySem.W.fnOf x qual (Yp st) (K7 st) (Ki st) .none kV doc pm an cdv ct/\K.lookup f=O ⟨oc,od,.func fd,osl⟩/\PySem.W.codeIn K cdv qual=AX
 kp:PySem.W.keepIn K (.ref f)=AX
section
variable{P:Ud}{w:World}{K:Frag}{mg:Str->A3}{base:Heap}
theorem Fun.ok{x qual:Str}{st:Stmt}{f:Ue}{fd:Uf}{N ps:List Str}{k:Nat}{sp:Sp}(F:Fun K x qual st f fd)(S:Y5 N ps (Ki st))(len:∀vs H Q E,sp vs H Q E->vs.length=ps.length)
  (hbody:∀(cdv:Ub)(A:Around)(outer:List Env)(s:Uc)(H:Hp)(vs:List V)(Q:VK)(E:XK),Room k (A.deeper (envOfC qual (Ki st) s.heap.objs.size f cdv))->sp vs H Q E ->
   ∃t,PSs (Ks CX0 P w K mg base N qual (Ki st) f cdv A outer s H E).nox (K7 st) t/\t {nx:=λ_ H'=>Q .non H',rt:=Q} (Yc N vs) H):FnOk P w K mg base CX0 (k+1) f fd ps sp:=by
 obtain⟨oc,od,kV,doc,pm,an,cdv,ct,osl,rfl,lk,hcd⟩:=F.ex;refine Po lk hcd S len λA outer s H vs Q E hr qF=>?_
 obtain⟨t,h,q⟩:=hbody cdv A outer s H vs Q E hr qF;exact⟨t,h.nox,q⟩
theorem Fun.binds{x qual:Str}{st:Stmt}{f:Ue}{fd:Uf}{ps:List Str}(F:Fun K x qual st f fd)
  (h:∀(kV doc pm:Ub)(an:qa)(cdv ct:Ub)(us:A0),us.length=ps.length->bindArgs (PySem.W.fnOf x qual (Yp st) (K7 st) (Ki st) .none kV doc pm an cdv ct) ⟨us,[]⟩=pure (ps.zip us)):Zf K fd ps []:=by
 obtain⟨oc,od,kV,doc,pm,an,cdv,ct,osl,rfl,lk,hcd⟩:=F.ex;exact .all (h kV doc pm an cdv ct)
end
def Same(H H':Hp):Prop:=∀b o,H b=O o->H' b=O o
theorem Same.refl(H:Hp):Same H H:=λ_ _ h=>h
theorem Same.trans{H H1 H2:Hp}(a:Same H H1)(b:Same H1 H2):Same H H2:=λc o h=>b c o (a c o h)
theorem Same.free{H H':Hp}(e:Same H H'){l:Ue}(h:H' l=Option.none):H l=Option.none:=by
 cases q:H l with
 |none=>rfl
 |some o=>rw[e l o q]at h;cases h
theorem Same.seq{K:Frag}{H H':Hp}{a:Ue}{xs:List V}(e:Same H H')(h:SqL K H a xs):SqL K H' a xs:=by
 rcases h with (h|⟨o,h⟩)|h
 .exact .inl (.inl (e _ _ h))
 .exact .inl (.inr ⟨o,e _ _ h⟩)
 .exact .inr h
section
variable{X:Cx}{pins:List (Ue×Obj)}{σ:St}{H:Hp}{s:Uc}{h':Heap}
theorem Inv.turnedNew{t':Nat}{fp:A5}{p:Ue}{o:HO}(I:Inv X pins σ H s)(hf:∀b∈fp,Kt X pins H b)
  (k:∀b o,b∉fp->s.heap.get? b=O o->h'.get? b=O o) (hp:s.heap.objs.size<=p) (new:K4 X.prog X.w (upd H p o) h' p o) :
  Inv X pins σ (upd H p o) {s with heap:=h',toks:=t'}:=by
 have hn:H p=AW:=I.hok.fresh hp;have trk:∀b u,H b=O u->b∉fp:=λb u e z=>by rw[(hf b z).1]at e;cases e
 refine I.step (g':=s.gens) (d':=s.drawn) (ch:=fp) (λb hb=>?_) (λb o _ _ hc e _=>k b o hc e) (λb o _ _ hc e _=>⟨o.slots,k b o hc e⟩)
  (λb o _ e n=>by rw[UW (QQ (QA (Qf e) hp))];exact n) (λb o hc e=>⟨o,k b o hc e⟩)
  (λb xs e=>by rw[UW (ZE e hn)];exact e) (λb ob u e=>by rw[UW (ZE e hn)];exact e) (λb ps e=>⟨#[],by rw[UW (ZE e hn),e];simp⟩)
  (λm hm=>?_) (λb u e=>?_) I.bare
 .obtain⟨_,f1,_,f3,f4,f5⟩:=hf b hb
  exact⟨f3,f1,f4,f5⟩
 .obtain⟨ob,es,ep,ho,r⟩:=hm
  exact⟨ob,es,ep,k _ ob (λz=>(hf _ z).2.1 AV) ho,r⟩
 .by_cases hb:b=p
  .subst hb;rw[U7]at e;cases e;exact new
  .rw[UW hb]at e
   refine(I.hok b u e).stay (λc v hc q=>k c v ?_ q) (λc q=>by rw[UW (ZE q hn)];exact q) λc xs q=>by rw[UW (ZE q hn)];exact q
   rcases hc with z|z
   .rw[z];exact trk b u e
   .exact trk c _ z
theorem Inv.turnedL{t':Nat}{fp:A5}(I:Inv X pins σ H s)(hf:∀b∈fp,Kt X pins H b)
  (k:∀b o,b∉fp->s.heap.get? b=O o->h'.get? b=O o):Inv X pins σ H {s with heap:=h',toks:=t'}:=by
 have trk:∀b u,H b=O u->b∉fp:=λb u e z=>by rw[(hf b z).1]at e;cases e
 refine I.step (g':=s.gens) (d':=s.drawn) (ch:=fp) (λb hb=>?_) (λb o _ _ hc e _=>k b o hc e) (λb o _ _ hc e _=>⟨o.slots,k b o hc e⟩)
  (λ_ _ _ _ n=>n) (λb o hc e=>⟨o,k b o hc e⟩) (λ_ _ e=>e) (λ_ _ _ e=>e) (λb ps e=>⟨#[],by rw[e];simp⟩) (λm hm=>?_) (λb u e=>?_) I.bare
 .obtain⟨_,f1,_,f3,f4,f5⟩:=hf b hb
  exact⟨f3,f1,f4,f5⟩
 .obtain⟨ob,es,ep,ho,r⟩:=hm
  exact⟨ob,es,ep,k _ ob (λz=>(hf _ z).2.1 AV) ho,r⟩
 .refine(I.hok b u e).stay (λc v hc q=>k c v ?_ q) (λc q=>q) λc xs q=>q
  rcases hc with z|z
  .rw[z];exact trk b u e
  .exact trk c _ z
end
noncomputable def Ite(K:Frag)(a:Ue):It:=
 ⟨λi H=>∃xs x,SqL K H a xs/\xs[i]?=O x,
  λi H v H'=>∃p x,H p=AW/\v=.ref p/\(∀xs,SqL K H a xs->xs[i]?=O x)/\H'=upd H p (.tup [.int i,x]),
  λi H=>∃xs,SqL K H a xs/\xs.length<=i⟩
theorem B5{P:Ud}{w:World}{K:Frag}{elts:A4}{x1}{tp:Pos}(a e it:Ue)(hne:e≠it) :
  Turn P w K (.Tuple elts x1 tp) (Ite K a) [e,it] e (λi h=>(∃old,IsEnum h e it i old)/\h.IsListIter it a i) where
 mem:=by simp
 obj:=λi h st b hb=>by
  obtain⟨⟨old,he⟩,o,ho,c,d⟩:=st;have hb':b=e∨b=it:=by simpa using hb
  rcases hb' with rfl|rfl
  .exact⟨_,he,λv z=>by have z':Data.fields _=Data.cell v:=z;cases z'⟩
  .exact⟨o,ho,λv z=>by rw[d]at z;cases z⟩
 keep:=λi h h' st k=>by obtain⟨⟨old,he⟩,hi⟩:=st;exact⟨⟨old,k e (by simp) _ he⟩,hi.at λo q=>k it (by simp) o q⟩
 item:=by
  intro X hP hw hK hc i pins s σ H E I hf st hg;subst hP hw hK;obtain⟨⟨old,he⟩,hi⟩:=st;obtain⟨xs,x,hq,hx⟩:=hg;obtain⟨its,rv,p,hz⟩:=I.list hq;obtain⟨u,hu,ru⟩:=rv.get hx;refine wpAny_pyNext_enum_item he hi p.isList (x:=u) (by simpa using hu) hne λh1 out hi1 ht hsz kk=>?_
  refine⟨_,rfl,wpAny_letOwnedTupleGo_enum out λh2 jl hs2=>?_⟩;have hel:e<s.heap.objs.size:=Qf he;have jh:Heap.SameBut e h1 h2:=hs2;have ht2:h2.get? s.heap.objs.size=O {cls:=.type "tuple", data:=.seq #[.int i s.toks,u]}:=(jh.2 _ (Jk hel)).trans ht
  have kk2:∀b o,b∉[e,it]->s.heap.get? b=O o->h2.get? b=O o:=λb o hb q=>by
   have qC:b≠e:=λz=>hb (by simp[z])
   have hbi:b≠it:=λz=>hb (by simp[z])
   exact(jh.2 b qC).trans (kk b o qC hbi q)
  have hn:H s.heap.objs.size=AW:=I.hok.fresh (Qq _)
  have I2:Inv X pins σ (upd H s.heap.objs.size (.tup [.int i,x])) {s with heap:=h2,toks:=s.toks+1}:=
   I.turnedNew (fp:=[e,it]) hf kk2 (Qq _) ⟨by show 2<=Uh;decide,[.int i s.toks,u],.cons ⟨_,rfl⟩ (.cons ru .nil),⟨_,ht2,rfl,_,rfl⟩⟩
  refine⟨.ref s.heap.objs.size,_,I2,rfl,⟨_,x,hn,rfl,λys hy=>by rw[I.list_inj hy hq];exact hx,rfl⟩,⟨⟨u,?_⟩,?_⟩,λb hb=>?_⟩
  .have:=jl
   simpa using this
  .have hi2:h2.IsListIter it a (i+1):=hi1.at λo q=>(jh.2 it (Ne.symm hne)).trans q
   exact hi2
  .have fr:=(hf b hb)
   have hlt:b<s.heap.objs.size:=by
    have hb':b=e∨b=it:=by simpa using hb
    rcases hb' with rfl|rfl
    .exact hel
    .obtain⟨o,ho,_⟩:=hi;exact Qf ho
   rw[UW (QQ hlt)];exact fr.1
 done:=by intro X hP hw hK hc i pins s σ H E I hf st hg;subst hP hw hK;obtain⟨⟨old,he⟩,hi⟩:=st;obtain⟨xs,hq,hx⟩:=hg;obtain⟨its,rv,p,hz⟩:=I.list hq;have hl:=rv.length;exact wpAny_pyNext_enum_end (I.ok.hd hc) he hi p.isList (by simp;omega) λh' eb=>⟨rfl,I.turnedL (t':=s.toks) hf λb o hb q=>eb b o (λz=>hb (by simp[z])) q⟩
 self:=λ_ _ _ _ _ st h=>by obtain⟨⟨old,he⟩,_⟩:=st;exact wpAny_pyIter_enum he h
section
variable{X:Cx}
noncomputable def MR(K:Frag)(ta:TA):TI:=λσ H R=>ta σ H λvs H1=>∃a xs,vs=[.ref a]/\SqL K H1 a xs/\R (Ite K a) H1
theorem FZ{a:Ug}{ta:TA}{p pos:Pos}{elts:A4}{x1}{tp:Pos}(hg:Gl X "enumerate")(hm:X.mg "enumerate" = AW)(ha:PA X [a] ta)
  (hs:Uj [a] X.env=[(AY,eval a X.env)]:=by rfl):PI X (.Tuple elts x1 tp) (.Call (.Name "enumerate" p) [a] [] pos) (MR X.K ta):=by
 intro pins s σ H R I h;refine Call_ (Ww I hg hm boot_enumerate (JG (thn (ha pos pins s σ H _ I h) λus s1 ⟨vs,H1,I1,r1,q1⟩=>?_) hs AV));obtain⟨l,xs,e,hq,q⟩:=q1;subst e;cases r1 with
 |cons r rr=>
  cases rr;cases (show _=Value.ref l from r);obtain⟨its,rv,pl,hz⟩:=I1.list hq;refine call_enumerate_list pl.isList λh' he hi hsz kk=>?_;have I2:Inv X pins σ H1 {s1 with heap:=h'}:=I1.kept (t':=s1.toks) kk;refine wpAny_pyIter_enum he ?_
  refine⟨s1.heap.objs.size+1,[s1.heap.objs.size+1,s1.heap.objs.size],_,_,H1,rfl,I2,B5 l _ _ (Nat.succ_ne_self _),⟨⟨_,he⟩,hi⟩,λb hb=>?_,q⟩;have hb':b=s1.heap.objs.size+1∨b=s1.heap.objs.size:=by simpa using hb
  rcases hb' with rfl|rfl
  .exact I1.fpOk (Jr _) (I1.hok.fresh (Jr _))
  .exact I1.fpOk (Qq _) (I1.hok.fresh (Qq _))
end
end L2
namespace L2
open PySem PySem.Spec
def Tail(bmB bm:A0):Prop:=∀(X:String)(b:Bool),bmB.contains (.type X)=b->bm.contains (.type X)=b
theorem Tail.base{bmB:A0}:Tail bmB bmB:=λ_ _ h=>h
theorem Tail.own{bmB bm:A0}{D:Ue}(T:Tail bmB bm):Tail bmB (.ref D::bm):=λX b h=>by rw[Q1,T X b h];rfl
section
variable{prog:Ud}{w:World}{A:Around}{E:Ub->Uc->Prop}{h:Heap}{g:Array GenState}{d:Drawn}{t:Nat}{os:OsState}{R:Result->Uc->Prop}
variable{nm q:Str}{C N:Ue}{bs bm bmB:A0}{hdct:Bool}{sn:List Str}{sub:A0}{ab:Bool}{col:qb}{dd:qa}{k0 k1 k2 k3 k5:A3}{B newId initId:String}
theorem BH{M:Model}(F:ExcBaseFacts B newId initId bmB)(T:Tail bmB bm){rest:A0}{Q:Unit->Uc->Prop}(hC:h.get? C=O (excClassObj nm q C N bs bm hdct sn sub ab col dd k0 k1 k2 k3 k5 newId))
  (hq:Q () ⟨h,g,d,t,os⟩):Ui M A (checkBuiltinCall newId ⟨.ref C::rest,[]⟩) Q E ⟨h,g,d,t,os⟩:=by
 have jS:(Value.ref C::bm).contains (.type B)=AX:=by rw[Q1,T _ _ F.hasB,JZ]
 have hstar:=F.noStar;simp only[checkBuiltinCall,F.newKind,F.newSplit,F.newRow]
 repeat (first|refine Qk hC ?_|(refine QH hC ?_;rw[jS])|refine wpAny_staticBase_exc hC ?_|refine wpAny_madeBy_exc hC ?_|simp only[bne_self_eq_false,Jz,J9] | wp_step)
 exact hq
theorem DC(F:ExcBaseFacts B newId initId bmB)(T:Tail bmB bm){rest:A0}(hC:h.get? C=O (excClassObj nm q C N bs bm hdct sn sub ab col dd k0 k1 k2 k3 k5 newId))
  (hq:R (.ok (.ret (.ref (h.objs.size+1)))) ⟨(h.push {cls:=.type "tuple", data:=.seq rest.toArray}).push
   {cls:=.ref C,data:=.fields #[.ref h.objs.size,.none,.none,.none,.bool AY,.none]},g,d,t,os⟩) (hrest:rest.length<=Uh) :
  codeAny (model prog w) A (.builtin newId ⟨.ref C::rest,[]⟩) R ⟨h,g,d,t,os⟩:=by
 have hends:=F.ends;have qA:(Value.ref C::bm).contains (.type B)=AX:=by rw[Q1,T _ _ F.hasB,JZ]
 have hcA:(Value.ref C::bm).contains (.type "AttributeError")=AY:=by rw[Q1,T _ _ F.noAttr];rfl
 have hcN:(Value.ref C::bm).contains (.type "NameError")=AY:=by rw[Q1,T _ _ F.noName];rfl
 refine codeAny_builtinAt F.entry ?_;unfold Builtin.«BaseException.__new__»;refine wpAt_bind ?_;show wpAt _ _ _ (stack >>= _) _ _ _;refine wpAt_bind (wpAt_stack λp below=>wpAt_of_wpAny ?_)
 wp_walk
 refine wpAt_of_wpAny ?_;rw[F.owner]
 repeat (first|with_reducible refine wpAny_madeHere_exc F.canon hC ?_|with_reducible refine Qk hC ?_|(with_reducible refine QH hC ?_;first|rw[qA] | rw[hcA] | rw[hcN])|wp_step)
 show R _ _;rw[Jq];exact hq
def PJ(M:Model)(C fI:Ue)(h:Heap):Prop:=∀(A:Around)(E:Ub->Uc->Prop)(Q:A3->Uc->Prop)(h':Heap)(g:Array GenState)(d:Drawn)(t:Nat)(os:OsState),
 (∀b o,h.get? b=O o->h'.get? b=O o)->Q (O (.ref fI)) ⟨h',g,d,t,os⟩->Ui M A (typeLookup (.ref C) "__init__") Q E ⟨h',g,d,t,os⟩
theorem BG(F:ExcBaseFacts B newId initId bmB)(T:Tail bmB bm){rest:A0}{fI:Ue}{oI:Obj}{Q:Fin->Uc->Prop}
  (hC:h.get? C=O (excClassObj nm q C N bs bm hdct sn sub ab col dd k0 k1 k2 k3 k5 newId)) (hi:PJ (model prog w) C fI h)
  (hfI:h.get? fI=O oI) (hfc:oI.cls=.type "function")
  (hq:∀h' e,Heap.MadeExcOf h h' e (.ref C) rest->h.objs.size<=e ->
   Ui (model prog w) A (call (.ref fI) (.ref e::rest)) (λr s'=>r=.none/\Q (.done (.ret (.ref e))) s') E ⟨h',g,d,t,os⟩) (hrest:rest.length<=Uh) :
  Ui (model prog w) A (Builtin.«type.__call__» ⟨.ref C::rest,[]⟩) Q E ⟨h,g,d,t,os⟩:=by
 repeat (first|with_reducible refine Qk hC ?_|with_reducible refine wpAny_madeBy_exc hC ?_|wp_step)
 refine codeAny_call_builtin_code (Code.quiet_builtin _ F.quiet) (BH F T hC ?_);refine DC F T hC ?_ hrest;show Ui _ _ _ _ _ _
 have hC₁:=Qe {cls:=.ref C,data:=.fields #[.ref h.objs.size,.none,.none,.none,.bool AY,.none]}
  (Qe {cls:=.type "tuple", data:=.seq rest.toArray} hC)
 have hfI₁:=Qe {cls:=.ref C,data:=.fields #[.ref h.objs.size,.none,.none,.none,.bool AY,.none]}
  (Qe {cls:=.type "tuple", data:=.seq rest.toArray} hfI)
 have hget:((h.push {cls:=.type "tuple", data:=.seq rest.toArray}).push
   {cls:=.ref C,data:=.fields #[.ref h.objs.size,.none,.none,.none,.bool AY,.none]}).get? (h.objs.size+1)=O
   {cls:=.ref C,data:=.fields #[.ref h.objs.size,.none,.none,.none,.bool AY,.none]}:=by heap_get
 have hcC:(Value.ref C::bm).contains (.ref C)=AX:=by simp
 unfold isInstance
 repeat (first|with_reducible refine Qk hget ?_|(with_reducible refine QH hC₁ ?_;rw[hcC])|wp_step)
 show Ui _ _ (typeLookup (.ref C) _) _ _ _;refine hi _ _ _ _ _ _ _ _ (λb o hb=>Qe _ (Qe _ hb)) ?_;refine Jl (Qb ?_);unfold bindSpecial;refine Qb (wpAny_typeOf (T:= "function") ⟨_,hfI₁,hfc⟩ ?_);rw[Qp (by decide)];refine Qi (Qb (QB (hq _ (h.objs.size+1) ⟨λb o hb=>Qe _ (Qe _ hb),Heap.get?_none_of_le (Jr _),h.objs.size,hget,Heap.get?_none_of_le (Qq _),?_⟩ (Jr _)) (λr s' hr=>?_) λ_ _ x=>x))
 .exact Qe _ (Heap.get?_push_at AV AV)
 .obtain⟨rfl,hQ⟩:=hr
  wp_walk
  exact hQ
theorem NT(F:ExcBaseFacts B newId initId bmB)(T:Tail bmB bm){rest:A0}{fI:Ue}{oI:Obj}{Q:Ub->Uc->Prop}
  (hC:h.get? C=O (excClassObj nm q C N bs bm hdct sn sub ab col dd k0 k1 k2 k3 k5 newId)) (hi:PJ (model prog w) C fI h)
  (hfI:h.get? fI=O oI) (hfc:oI.cls=.type "function")
  (hq:∀h' e,Heap.MadeExcOf h h' e (.ref C) rest->h.objs.size<=e ->
   Ui (model prog w) (A.under (.builtin "type.__call__" ⟨.ref C::rest,[]⟩)) (call (.ref fI) (.ref e::rest)) (λr s'=>r=.none/\Q (.ref e) s') E ⟨h',g,d,t,os⟩) (hrest:rest.length<=Uh) :
  Ui (model prog w) A (call (.ref C) rest) Q E ⟨h,g,d,t,os⟩:=by
 have f1:=tc_lookup;have f2:=tc_bind (.ref C);have hT:(⟨h,g,d,t,os⟩:Uc).TypeIs (.ref C) "type" :=⟨_,hC,rfl⟩
 refine wpAny_call (codeAny_of_tree ?_);show Ui _ _ (callAny (.ref C) _) _ _ _
 repeat (any_goals (first|assumption|with_reducible refine Qk hC ?_|wp_step))
 refine⟨rfl,?_⟩;refine codeAny_call_builtin_at (Code.quiet_builtin _ (by decide +kernel)) entry_typeCall (wpAny_check_type_call_sub hC (BG (hrest:=hrest) F T hC hi hfI hfc λh' e hm hz=>?_));exact hq h' e hm hz
end
def Kr(M:Model)(C:Ue)(name:Str)(r:A3)(h:Heap):Prop:=∀(A:Around)(E:Ub->Uc->Prop)(Q:A3->Uc->Prop)(h':Heap)(g:Array GenState)(d:Drawn)(t:Nat)(os:OsState),
 (∀b o,h.get? b=O o->h'.get? b=O o)->Q r ⟨h',g,d,t,os⟩->Ui M A (typeLookup (.ref C) name) Q E ⟨h',g,d,t,os⟩
theorem Kr.keeps{M:Model}{C:Ue}{name:Str}{r:A3}{h h':Heap}(x:Kr M C name r h)(k:∀b o,h.get? b=O o->h'.get? b=O o):Kr M C name r h':=
 λA E Q h2 g d t os k2 q=>x A E Q h2 g d t os (λb o e=>k2 b o (k b o e)) q
theorem Kr.at{M:Model}{A:Around}{E:Ub->Uc->Prop}{Q:A3->Uc->Prop}{C:Ue}{name:Str}{r:A3}{h:Heap}{g:Array GenState}{d:Drawn}{t:Nat}{os:OsState}(x:Kr M C name r h)(q:Q r ⟨h,g,d,t,os⟩):Ui M A (typeLookup (.ref C) name) Q E ⟨h,g,d,t,os⟩:=
 x A E Q h g d t os (λ_ _ e=>e) q
section
variable{prog:Ud}{w:World}{A:Around}{E:Ub->Uc->Prop}{h:Heap}{g:Array GenState}{d:Drawn}{t:Nat}{os:OsState}{R:Result->Uc->Prop}
variable{nm q:Str}{C N x:Ue}{bs bm bmB:A0}{hdct:Bool}{sn:List Str}{sub:A0}{ab:Bool}{col:qb}{dd:qa}{k0 k1 k2 k3 k5:A3}{B newId sa owner:String}{mN mA:Str->A3}{name:Str}{v:Ub}
def ZY(M:Model)(l:A0)(name:Str)(r:A3)(h:Heap):Prop:=∀(A:Around)(E:Ub->Uc->Prop)(Q:A3->Uc->Prop)(h':Heap)(g:Array GenState)(d:Drawn)(t:Nat)(os:OsState),
 (∀b o,h.get? b=O o->h'.get? b=O o)->Q r ⟨h',g,d,t,os⟩->Ui M A (lookupAlong l name) Q E ⟨h',g,d,t,os⟩
theorem ZY.base{M:Model}{y:A3}(hm:mroOf (.type B)=pure bm)(hB:typeLookup (.type B) name=pure y):ZY M bm name y h:=λA E Q h' g d t os k q=>by rw[typeLookup_eq,hm]at hB;have hrest:lookupAlong bm name=pure y:=hB;rw[hrest];exact Qi q
theorem ZY.hit{M:Model}{D:Ue}{c0:Ub}{qv:qa}{cd:ClassData}{sl:Array A3}(hD:h.get? D=O {cls:=c0,dict:=qv,data:=.cls cd,slots:=sl})(hn:h.Ns cd.ns mN)(hi:mN name=O v):ZY M (.ref D::bm) name (O v) h:=λA E Q h' g d t os k q=>by rw[lookupAlong_cons];refine Qb (wpAny_classOwn_cls (k _ _ hD) (hn.keeps k) ?_);rw[hi];exact Qi q
theorem ZY.miss{M:Model}{D:Ue}{r:A3}{c0:Ub}{qv:qa}{cd:ClassData}{sl:Array A3}(hD:h.get? D=O {cls:=c0,dict:=qv,data:=.cls cd,slots:=sl})(hn:h.Ns cd.ns mN)(hi:mN name=AW)(f:ZY M bm name r h):ZY M (.ref D::bm) name r h:=λA E Q h' g d t os k q=>by rw[lookupAlong_cons];refine Qb (wpAny_classOwn_cls (k _ _ hD) (hn.keeps k) ?_);rw[hi];exact f A E Q h' g d t os k q
theorem Kr.of{M:Model}{r:A3}(hC:h.get? C=O (excClassObj nm q C N bs bm hdct sn sub ab col dd k0 k1 k2 k3 k5 newId))(f:ZY M (.ref C::bm) name r h):Kr M C name r h:=λA E Q h' g d t os k q=>by rw[typeLookup_eq];exact Qb (wpAny_mroOf_exc (k _ _ hC) (f A E Q h' g d t os k q))
theorem B4{M:Model}{o:Obj}{nameV:Ub}{Q:Unit->Uc->Prop}(SF:StoreFacts B bmB sa owner)(T:Tail bmB bm)
  (hC:h.get? C=O (excClassObj nm q C N bs bm hdct sn sub ab col dd k0 k1 k2 k3 k5 newId)) (hx:h.get? x=O o) (hc:o.cls=.ref C) (hq:Q () ⟨h,g,d,t,os⟩) :
  Ui M A (checkBuiltinCall sa ⟨[.ref x,nameV,v],[]⟩) Q E ⟨h,g,d,t,os⟩:=by
 have qA:(Value.ref C::bm).contains (.type owner)=AX:=by rw[Q1,T _ _ SF.hasOwner,JZ]
 have ha:=SF.args (.ref x) nameV v;simp only[checkBuiltinCall,SF.kind,SF.split];refine Qb ?_
 .unfold isInstance
  repeat (first|(with_reducible refine Qk hx ?_;rw[hc])|(with_reducible refine QH hC ?_;rw[qA])|wp_step)
  cases hsig:Manifest.signature? sa with
  |none=>exact Qi hq
  |some sig=>simp only[argsOk,hsig]at ha;have h2:Bind.checkArgs sa sig ⟨[.ref x,nameV,v],[]⟩=pure ():=ha;show Ui M A (Bind.checkArgs sa sig ⟨[.ref x,nameV,v],[]⟩) Q E _;rw[h2];exact Qi hq
theorem AE{tk:Tok}{Q:PySem.Fin->Uc->Prop}{ns:List Str}(hpass:refuseLoop (.ref x) "__setattr__" bm=pure ())
  (hC:h.get? C=O (excClassObj nm q C N bs bm AX sn sub ab col dd k0 k1 k2 k3 k5 newId)) (hf:Kr (model prog w) C name AW h) (I:h.InstFk x C mA)
  (hq:∀h' tk',h'.InstFk x C (λy=>if y=name then O v else mA y) ->
   (∀b o,b≠x->(∀o₀ dx,h.get? x=O o₀->o₀.dict=O dx->b≠dx)->h.get? b=O o->h'.get? b=O o) ->
   (∀o₀,h.get? x=O o₀->∃o₁,h'.get? x=O o₁/\o₁.cls=o₀.cls/\o₁.data=o₀.data/\o₁.slots=o₀.slots/\∀dx,o₀.dict=O dx->o₁.dict=O dx)->(∀o₀ o₁ dx,h.get? x=O o₀->o₀.dict=AW->h'.get? x=O o₁->o₁.dict=O dx->h.objs.size<=dx)->Q (.done (.ret .none)) ⟨h',g,d,tk',os⟩) (hw:PySem.Within mA ns) (hsz:ns.length<=1000) :
  Ui (model prog w) A (Builtin.«object.__setattr__» ⟨[.ref x,.str name tk,v],[]⟩) Q E ⟨h,g,d,t,os⟩:=by
 obtain⟨o,hx,hc,hnc,hd⟩:=I;have hs2:ns.length<=Uh:=by rw[JC];omega
 unfold Builtin.«object.__setattr__»
 repeat (first|rw[refuse_eq] | (rw[refuseLoop_ref,hpass])|(with_reducible refine Qk hx ?_;rw[hc])|with_reducible refine wpAny_mroOf_exc hC ?_|with_reducible refine hf.at ?_|wp_step)
 rcases hd with ⟨hdn,hmA⟩|⟨dx,qJ,hne,hns,hed⟩
 ·
  rw[hdn,if_neg (by simp[typeHasDict])];split
  .rename_i hcd
   cases hcd
  split
  .rename_i c hcd
   exact absurd hcd (hnc c)
  .have hx₁:(h.push {cls:=.type "dict", data:=.dict #[]}).get? x=O o:=Qe _ hx
   have hxs:x≠h.objs.size:=QQ (Qf hx);refine Qb (wpAny_alloc' ?_);refine Qb (wpAny_update' hx₁ ?_);refine Qi ?_
   have hgd:((h.push {cls:=.type "dict", data:=.dict #[]}).update x λo=>{cls:=o.cls,dict:=O h.objs.size,data:=o.data,slots:=o.slots}).get? h.objs.size
     = O {cls:=.type "dict", data:=.dict #[]}:=
    (Heap.get?_update_ne _ _ _ _ hxs.symm).trans (Heap.get?_push_at AV AV)
   have hnd:((h.push {cls:=.type "dict", data:=.dict #[]}).update x λo=>{cls:=o.cls,dict:=O h.objs.size,data:=o.data,slots:=o.slots}).Ns h.objs.size (λ_=>AW):=
    ⟨_,#[],_,hgd,rfl,λe he=>absurd he (by simp),λ_=>rfl⟩
   show Ui _ _ (Builtin.ObjectAttr.storeInDict h.objs.size (.str name tk) name v) _ _ _;unfold Builtin.ObjectAttr.storeInDict Builtin.ObjectAttr.newKeyGuard;refine Qb (Qi (Qb (wpAny_nsSet1EFk (Heap.Ns1.of_empty hnd) λh' hn' hs qx=>?_)));obtain⟨oD,esD,epD,hoD,hdD,hcD⟩:=hn'.count (PySem.Within.cons name v PySem.Within.nil);refine Qb (wpAny_lookBehind hoD (by rw[hdD];exact pastItsLine_dict (Qt hcD (by rw[QK,QO,JC];omega))) ?_)
   wp_walk
   have hx':h'.get? x=O {cls:=o.cls,dict:=O h.objs.size,data:=o.data,slots:=o.slots}:=?_
   refine hq h' _ ⟨{cls:=o.cls,dict:=O h.objs.size,data:=o.data,slots:=o.slots},hx',hc,hnc,.inr ⟨h.objs.size,rfl,hxs.symm,?_,(let ⟨od',e',c',d'⟩:=qx _ hgd;⟨od',e',c',d'⟩)⟩⟩ (λb ob hbx _ hb=>?_)
    (λo₀ h₀=>by obtain rfl:o=o₀:=Je (hx.symm.trans h₀);exact⟨_,hx',rfl,rfl,rfl,λdx e=>by rw[hdn]at e;cases e⟩)
    (λo₀ o₁ dx _ _ e1 e2=>by rw[hx']at e1;cases e1;cases e2;exact Qq _)
   .obtain⟨o',es,ep,e1,e2,e3,eu,e4⟩:=hn'
    exact⟨o',es,ep,e1,e2,e3,eu,λy=>by rw[e4 y];by_cases hy:y=name<;>simp[hy,hmA]⟩
   .exact(hs.2 b (QQ (Qf hb))).trans ((Heap.get?_update_ne _ _ _ _ hbx).trans (Qe _ hb))
   .refine(hs.2 x hxs).trans (QP _ hx₁ ?_)
    have hfr:=(Heap.get?_some_iff.mp hx).2;obtain⟨oc,od,odt,osl⟩:=o;cases odt<;>first|rfl|exact hfr
 ·
  rw[qJ];refine Qi ?_;show Ui _ _ (Builtin.ObjectAttr.storeInDict dx (.str name tk) name v) _ _ _;unfold Builtin.ObjectAttr.storeInDict Builtin.ObjectAttr.newKeyGuard;refine Qb (Qi (Qb (wpAny_nsSet1EFk hns λh' hn' hs qx=>?_)));obtain⟨oD,esD,epD,hoD,hdD,hcD⟩:=hn'.count (PySem.Within.cons name v hw);refine Qb (wpAny_lookBehind hoD (by rw[hdD];exact pastItsLine_dict (Qt hcD (by rw[QK,JC];omega))) ?_)
  wp_walk
  refine hq h' _ ⟨o,(hs.2 x hne.symm).trans hx,hc,hnc,.inr ⟨dx,qJ,hne,hn',(let ⟨od,e,c,dd⟩:=hed;let ⟨od',e',c',d'⟩:=qx od e;⟨od',e',c'.trans c,d'.trans dd⟩)⟩⟩ (λb ob _ hbd hb=>?_)
   (λo₀ h₀=>⟨o₀,(hs.2 x hne.symm).trans h₀,rfl,rfl,rfl,λ_ e=>e⟩)
   (λo₀ o₁ dx' e0 e1 _ _=>by rw[hx]at e0;cases e0;rw[qJ]at e1;cases e1)
  exact(hs.2 b (hbd o dx hx qJ)).trans hb
theorem Ma{Q:Unit->Uc->Prop}{ns:List Str}(SF:StoreFacts B bmB sa owner)(T:Tail bmB bm)(hpass:refuseLoop (.ref x) "__setattr__" bm=pure ())
  (hC:h.get? C=O (excClassObj nm q C N bs bm AX sn sub ab col dd k0 k1 k2 k3 k5 newId)) (hfs:Kr (model prog w) C "__setattr__" (O (.builtin sa)) h) (hf:Kr (model prog w) C name AW h) (I:h.InstFk x C mA)
  (hq:∀h' tk',h'.InstFk x C (λy=>if y=name then O v else mA y) ->
   (∀b o,b≠x->(∀o₀ dx,h.get? x=O o₀->o₀.dict=O dx->b≠dx)->h.get? b=O o->h'.get? b=O o) ->
   (∀o₀,h.get? x=O o₀->∃o₁,h'.get? x=O o₁/\o₁.cls=o₀.cls/\o₁.data=o₀.data/\o₁.slots=o₀.slots/\∀dx,o₀.dict=O dx->o₁.dict=O dx)->(∀o₀ o₁ dx,h.get? x=O o₀->o₀.dict=AW->h'.get? x=O o₁->o₁.dict=O dx->h.objs.size<=dx)->Q () ⟨h',g,d,tk',os⟩) (hw:PySem.Within mA ns) (hsz:ns.length<=1000) :
  Ui (model prog w) A (setAttr (.ref x) name v) Q E ⟨h,g,d,t,os⟩:=by
 obtain⟨o,hx,hc,_⟩:=id I;have f3:=SF.slot.bind (.ref x);unfold setAttr callSpecial? specialOf
 repeat (any_goals (first|assumption|(with_reducible refine Qk hx ?_;rw[hc])|with_reducible refine hfs.at ?_|wp_step))
 refine Js SF.slot.plain SF.entry (B4 SF T hC hx hc (AE hpass hC hf I (λh' tk' I' hk hsame hnew=>?_) hw hsz))
 repeat (any_goals (first|assumption|wp_step))
 exact hq h' tk' I' hk hsame hnew
theorem NS{M:Model}{o:Obj}{nameV:Ub}{Q:Unit->Uc->Prop}(T:Tail bmB bm)(hb:bmB.contains (.type "BaseException")=AX)(hC:h.get? C=O (excClassObj nm q C N bs bm hdct sn sub ab col dd k0 k1 k2 k3 k5 newId))
  (hx:h.get? x=O o) (hc:o.cls=.ref C) (hq:Q () ⟨h,g,d,t,os⟩):Ui M A (checkBuiltinCall "BaseException.__getattribute__" ⟨[.ref x,nameV],[]⟩) Q E ⟨h,g,d,t,os⟩:=by
 have hk:builtinKind "BaseException.__getattribute__" = O .slot:=by decide +kernel
 have hsplit:splitId "BaseException.__getattribute__" = O ("BaseException", "__getattribute__"):=by decide +kernel
 have qA:(Value.ref C::bm).contains (.type "BaseException")=AX:=by rw[Q1,T _ _ hb];rfl
 have ha:=PySem.F.args_bexc_ga (.ref x) nameV;simp only[checkBuiltinCall,hk,hsplit];refine Qb ?_
 .unfold isInstance
  repeat (first|(with_reducible refine Qk hx ?_;rw[hc])|(with_reducible refine QH hC ?_;rw[qA])|wp_step)
  exact hq
theorem Au{tk:Tok}{Q:PySem.Fin->Uc->Prop}(hC:h.get? C=O (excClassObj nm q C N bs bm AX sn sub ab col dd k0 k1 k2 k3 k5 newId))(hf:Kr (model prog w) C name AW h)(I:h.InstFk x C mA)(hv:mA name=O v)(hq:Q (.done (.ret v)) ⟨h,g,d,t,os⟩) :
  Ui (model prog w) A (Builtin.«object.__getattribute__» ⟨[.ref x,.str name tk],[]⟩) Q E ⟨h,g,d,t,os⟩:=by
 obtain⟨o,hx,hc,hnc,hd⟩:=I;rcases hd with ⟨_,hmA⟩|⟨dx,qJ,hne,hns,_⟩
 .rw[hmA name]at hv;cases hv
 unfold Builtin.«object.__getattribute__»
 repeat (first|(with_reducible refine Qk hx ?_;rw[hc])|with_reducible refine hf.at ?_|wp_step)
 split
 .rename_i c hcd
  exact absurd hcd (hnc c)
 unfold instanceDict
 repeat (first|(with_reducible refine Qk hx ?_;rw[hc])|with_reducible refine Qk hC ?_|wp_step)
 rw[qJ]
 repeat (first|(with_reducible refine wpAny_nsGet hns.ns ?_;rw[hv])|wp_step)
 exact hq
theorem BF{expr:Bool}{Q:Ub->Uc->Prop}(FB:ExcAttrFacts B)(T:Tail bmB bm)(hb:bmB.contains (.type "BaseException")=AX)(hC:h.get? C=O (excClassObj nm q C N bs bm AX sn sub ab col dd k0 k1 k2 k3 k5 newId))
  (fg:Kr (model prog w) C "__getattribute__" (O (.builtin "BaseException.__getattribute__")) h) (fa:Kr (model prog w) C "__getattr__" none h) (hf:Kr (model prog w) C name AW h) (I:h.InstFk x C mA) (hv:mA name=O v) (hh:handedOut v=pure v) (hq:Q v ⟨h,g,d,t+1,os⟩) :
  Ui (model prog w) A (getAttr (.ref x) name expr) Q E ⟨h,g,d,t,os⟩:=by
 obtain⟨o,hx,hc,_⟩:=id I;have f3:=FB.ga.bind (.ref x);have hx0:(expr&&onTheHeap (Value.builtin "BaseException.__getattribute__"))=AY:=by cases expr<;>rfl
 have hx2:(Value.builtin "BaseException.__getattribute__" == Value.builtin "object.__getattribute__")=AY:=by decide +kernel
 have hx1:(onTheHeap (Value.ref C)&&Value.builtin "BaseException.__getattribute__" == Value.builtin "object.__getattribute__")=AY:=by rw[hx2];rfl
 unfold getAttr
 repeat (any_goals (first|assumption|(with_reducible refine Qk hx ?_;rw[hc])|with_reducible refine fg.at ?_|with_reducible refine fa.at ?_|wp_step))
 refine Js FB.ga.plain PySem.F.entry_bexc_ga (NS T hb hC hx hc (Au hC hf I hv ?_))
 repeat (any_goals (first|assumption|wp_step))
end
theorem YR{o:Obj}{vs:Array Ub}(f:Array Ub->Array Ub)(h:o.data=.fields vs):Obj.mapFields f o = {o with data:=.fields (f vs)}:=by obtain⟨c,d,dt,sl⟩:=o;cases h;rfl
def Tb(h:Heap)(e:Ue)(vs:Array Ub)(fl:Ub):Prop:=∃T oT ts,vs[1]?=O (.ref T)/\T≠e/\h.get? T=O oT/\oT.data=.fields ts/\ts[3]?=O fl
def Fly(c:Bool)(h:Heap)(e:Ue):Prop:=∃oe vs,h.get? e=O oe/\oe.data=.fields vs/\(vs[1]?=O .none∨Tb h e vs .none)/\(c=AX->vs[2]?=O .none)
theorem Fly.weak{c c1:Bool}{h:Heap}{e:Ue}(x:Fly c1 h e)(hcc:c=AX->c1=AX):Fly c h e:=let ⟨oe,vs,a,b,d,z⟩:=x;⟨oe,vs,a,b,d,λq=>z (hcc q)⟩
structure We(fs:A5)(e:Ue)(h h':Heap):Prop where
 keep:∀b o,b≠e->b∉fs->h.get? b=O o->h'.get? b=O o
 slot:∀b o,b≠e->h.get? b=O o->∃sl,h'.get? b=O {o with slots:=sl}
 own:∀oe,h.get? e=O oe->∃vs,h'.get? e=O {oe with data:=.fields vs}
section
variable{M:Model}{A:Around}{E:Ub->Uc->Prop}{s:Uc}{base:Heap}{env:Env}{outer:List Env}{L e:Ue}{c:Bool}
theorem newEntry{oe:Obj}{vs:Array Ub}{head:Ub}{hadNext:Bool}{Q:Unit->Uc->Prop}(hfr:A.frames=O (env::outer))(hl:s.heap.FunFrames base (env::outer))(hf:env.frame=O L)
  (he:s.heap.get? e=O oe) (hd:oe.data=.fields vs) (hsz:1<vs.size) (hc2:c=AX->vs[2]?=O .none)
  (h:∀h',We (frs (env::outer)) e s.heap h'->Fly c h' e->Q () {s with heap:=h'}) :
  Ui M A (do let a ←frameOf env;let pl ←entryPlaceOf L hadNext;let b ←EntryCells.newEntry head a .none (rawInt L) .none pl;setField (.ref e) 1 b) (λ_ s'=>Ui M A (setFlight (.ref e) AW) Q E s') E s:=by
 have jk:e∉(env::outer).filterMap (·.frame):=λhm=>by obtain⟨_,o,ho,hnf⟩:=hl.mem hm;rw[he]at ho;injection ho with ho;subst ho;exact hnf vs hd
 refine Qb (wpAny_frameOf_fun hfr hl hf λh₁ hs₁=>?_);refine Qb (wpAny_entryPlaceOf λpl hpl=>?_);unfold EntryCells.newEntry newFields;refine Qb (JD ?_ (hpl.sizeOk5 _ _ _ _ _));have he₁:h₁.get? e=O oe:=(hs₁.2.1 e jk).trans he;have he₂:=Qe (h:=h₁) {cls:=.type "traceback", dict:=AW,data:=.fields ([head,.ref L,.none,rawInt L,.none]++(if pl.isEmpty then Um 6 Value.none else pl)).toArray} he₁;refine Q8 he₂ hd hsz ?_;have qB:h₁.objs.size≠e:=Jk (Qf he₁);have hd₃:=Jg hd (·.setIfInBounds 1 (Value.ref h₁.objs.size));have he₃:=QP (Obj.mapFields (·.setIfInBounds 1 (Value.ref h₁.objs.size))) he₂ (Jh hd₃)
 have hT₃:=(Qn (h₁.push {cls:=.type "traceback", dict:=AW,data:=.fields ([head,.ref L,.none,rawInt L,.none]++(if pl.isEmpty then Um 6 Value.none else pl)).toArray})
  (Obj.mapFields (·.setIfInBounds 1 (Value.ref h₁.objs.size))) (Ne.symm qB)).trans (QD h₁ AV)
 unfold setFlight;refine wpAny_bind (wpAny_field he₃ hd₃ (x:=.ref h₁.objs.size) (by simp[hsz]) ?_);rw[if_pos (show(Value.ref h₁.objs.size != Value.none)=AX from by simp)];refine Q8 hT₃ AV (by simp only[QT,Qh,QK,QO]<;>lia) (h _ ?_ ?_)
 .have keep:∀b o,b≠e->h₁.get? b=O o ->
    (((h₁.push {cls:=.type "traceback", dict:=AW,data:=.fields ([head,.ref L,.none,rawInt L,.none]++(if pl.isEmpty then Um 6 Value.none else pl)).toArray}).update e (Obj.mapFields (·.setIfInBounds 1 (Value.ref h₁.objs.size)))).update h₁.objs.size
     (Obj.mapFields (·.setIfInBounds 3 ((none:qa).elim Value.none λf=>rawInt f)))).get? b=O o:=λb o qC hb=>by
   have qX:h₁.objs.size≠b:=Jk (Qf hb);rw[Qn _ _ qX,Qn _ _ (Ne.symm qC)];exact Qe _ hb
  refine⟨λb o hb hf hg=>keep b o hb ((hs₁.2.1 b hf).trans hg),λb o hb hg=>?_,λjs z=>?_⟩
  .obtain⟨sl,hs⟩:=hs₁.2.2 b o hg
   exact⟨sl,keep b _ hb hs⟩
  .rw[he]at z;cases z
   exact⟨_,by rw[Qn _ _ qB,he₃,YR _ hd]⟩
 .refine⟨_,_,?_,hd₃,.inr ⟨h₁.objs.size,_,_,by simp[hsz],qB,Heap.get?_update_self _ hT₃ (Obj.isFreed_of_fields (Obj.data_mapFields rfl _)),Obj.data_mapFields rfl _,by first|(simp;done)|(rcases hpl with rfl|⟨_,_,_,_,_,_,_,rfl⟩<;>simp)⟩,?_⟩
  .rw[Qn _ _ qB];exact he₃
  .intro z;rw[Jv (by decide)];exact hc2 z
theorem Xz{Q:Unit->Uc->Prop}(hfr:A.frames=O (env::outer))(hl:s.heap.FunFrames base (env::outer))(hf:env.frame=O L)(x:Fly c s.heap e)
  (h:∀h',We (frs (env::outer)) e s.heap h'->Fly c h' e->Q () {s with heap:=h'}):Ui M A (noteFrame (.ref e) env) (λ_ s'=>Ui M A (setFlight (.ref e) AW) Q E s') E s:=by
 obtain⟨oe,vs,he,hd,h1,h2⟩:=x;unfold noteFrame;simp only[hf];rcases h1 with h1|⟨T,oT,ts,h1,qB,hT,qz,h3⟩
 .refine Qb (Q4 he hd h1 ?_)
  rw[Qz (by decide)];exact newEntry hfr hl hf he hd (Jd.mp h1).1 h2 h
 .refine Qb (Q4 he hd h1 ?_)
  rw[if_pos (show(Value.ref T != Value.none)=AX from by simp)];refine Qb (Q4 hT qz h3 ?_);rw[if_neg (show ¬((Value.none==rawInt L)=AX)from by simp[rawInt])];obtain⟨jv,hv3⟩:=Jd.mp h3;refine Qb (Q8 hT qz jv ?_)
  have same:∀b o,s.heap.get? b=O o->(s.heap.update T (Obj.mapFields (·.setIfInBounds 3 Value.none))).get? b=O o:=λb o hb=>by
   by_cases qX:b=T
   .subst qX
    rw[hT]at hb;cases hb;rw[QP _ hT (Jh (Jg qz _)),YR _ qz]
    have:ts.setIfInBounds 3 Value.none=ts:=by
     apply Array.ext_getElem?;intro i;rw[Array.getElem?_setIfInBounds];split
     .rename_i z
      subst z;exact h3.symm
     .rfl
    rw[this,←qz]
   .rw[Qn _ _ (Ne.symm qX)];exact hb
  exact newEntry hfr (hl.of_keeps λb o hb hnf=>⟨o,same b o hb,rfl⟩) hf (same e oe he) hd (Jd.mp h1).1 h2
   λh' p t=>h h' ⟨λb o a c g=>p.keep b o a c (same b o g),λb o a g=>p.slot b o a (same b o g),λjs z=>p.own js (same e js z)⟩ t
theorem Gq{Q:Unit->Uc->Prop}(hfr:A.frames=O (env::outer))(hl:s.heap.FunFrames base (env::outer))(hf:env.frame=O L)(x:Fly c s.heap e)
  (h:∀h',We (frs (env::outer)) e s.heap h'->Fly c h' e->Q () {s with heap:=h'}):Ui M A (leaving env (.ref e)) Q E s:=by
 unfold leaving;exact Qb (Xz hfr hl hf x h)
end
end L2
namespace L2
open PySem PySem.Spec PyProof.Rows PySem.Calls PyProof.V
noncomputable def XO(fr:Bool)(e C:Ue)(dd:qa):Heap->Prop:=λh=>∃vs sl,h.get? e=O {cls:=.ref C,dict:=dd,data:=.fields vs,slots:=sl}/\(fr=AX->vs[1]?=O .none/\(∃t0,vs[0]?=O (.ref t0))/\vs[2]?=O .none/\4<vs.size)
theorem XO.ok{P:Ud}{w:World}{H:Hp}{h:Heap}{fr:Bool}{e C:Ue}{dd:qa}(x:XO fr e C dd h):K4 P w H h e (.ext (XO fr e C dd)):=
 ⟨x,let ⟨_,_,q,_⟩:=x;⟨_,q⟩,λh1 h2 ⟨vs,sl,q,z⟩ k=>⟨vs,sl,k _ q,z⟩⟩
theorem XO.fly{c:Bool}{h:Heap}{e C:Ue}{dd:qa}(x:XO AX e C dd h):Fly c h e:=let ⟨vs,_,q,z⟩:=x;⟨_,vs,q,rfl,.inl (z AV).1,λ_=>(z AV).2.2.1⟩
theorem XO.old{h:Heap}{fr:Bool}{e C:Ue}{dd:qa}(x:XO fr e C dd h):XO AY e C dd h:=let ⟨vs,sl,q,_⟩:=x;⟨vs,sl,q,λz=>nomatch z⟩
noncomputable def Zn(c:Bool)(P:Ud)(w:World):CXT:=λouter H s E v s'=>∃e C dd H',v=.ref e/\s'.os=s.os/\AllBare s'.gens/\Un (frs outer) [] H H' s.heap s'.heap/\HOk P w H' s'.heap/\H' e=O (.ext (XO AY e C dd))/\Fly c s'.heap e/\E (.ref e) AW H'
abbrev CX1:=Zn AX
section
variable{X:Cx}{pins:List (Ue×Obj)}{σ:St}{H:Hp}{s:Uc}{e C:Ue}{dd:qa}{h':Heap}
theorem Inv.passed(I:Inv X pins σ H s)(hx:H e=O (.ext (XO AY e C dd)))(p:We (frs X.stack) e s.heap h'):Inv X pins σ H {s with heap:=h'}:=by
 have ne:∀b,H b=AW->b≠e:=λb n z=>by rw[z,hx]at n;cases n
 refine I.call (g':=s.gens) (t':=s.toks) (d':=s.drawn) (ch:=[]) ⟨λb o g n f _=>p.keep b o (ne b n) f g,λb o g n _ _=>p.slot b o (ne b n) g,λb o _ n _=>n,λb o g _=>?_,λ_ _ z=>z,λ_ _ _ z=>z,λb ps z=>⟨#[],by rw[z];simp⟩⟩ (λa o q=>?_) I.bare λb z=>absurd z (by simp)
 .by_cases hb:b=e
  .subst hb
   obtain⟨vs,z⟩:=p.own o g;exact⟨_,z⟩
  .obtain⟨sl,z⟩:=p.slot b o hb g
   exact⟨_,z⟩
 .by_cases ha:a=e
  .subst ha
   rw[hx]at q;cases q;obtain⟨⟨vs,sl,g,_⟩,_,_⟩:=I.hok a _ hx;obtain⟨vs',z⟩:=p.own _ g;exact XO.ok ⟨vs',sl,z,λz=>nomatch z⟩
  .refine(I.hok a o q).stay (λb u hb g=>p.keep b u ?_ (λz=>?_) g) (λ_ z=>z) λ_ _ z=>z
   .rcases hb with rfl|hb
    .exact ha
    .rintro rfl;rw[hx]at hb;cases hb
   .have n:=I.stkFree b z
    rcases hb with rfl|hb
    .rw[q]at n;cases n
    .rw[hb]at n;cases n
def ZW(c:Bool)(X:Cx)(KX:V->St->Hp->Prop):Prop:=∀(pins:List (Ue×Obj))(σ:St)(H:Hp)(s:Uc)(e C:Ue)(dd:qa),Inv X pins σ H s->H e=O (.ext (XO AY e C dd))->Fly c s.heap e->KX (.ref e) σ H->X.xe (.ref e) s
theorem DB{c:Bool}{P:Ud}{w:World}{K:Frag}{mg:Str->A3}{base:Heap}{N:List Str}{qual:Str}{scope:Scope}{f:Ue}{cd:Ub}{A:Around}{outer:List Env}{s₀:Uc}{H₀:Hp}{E:XK} :
  ZW c (Ks (Zn c P w) P w K mg base N qual scope f cd A outer s₀ H₀ E) λv _ H=>∃e,v=.ref e/\E (.ref e) AW H:=by
 intro pins σ H s e C dd I hx fl ⟨e',ee,hE⟩;cases ee;refine Gq (L:=s₀.heap.objs.size) I.ok.frames I.stack AV fl λh' p fl'=>?_;have I':=I.passed hx p
 exact⟨e,C,dd,H,rfl,I'.os,I'.bare,I'.base,I'.hok,hx,fl',hE⟩
theorem ZW.pass{c c1:Bool}{KX:V->St->Hp->Prop}{E:XK}{v:Ub}{s':Uc}(hw:ZW c X KX)(hcc:c=AX->c1=AX)(I:Inv X pins σ H s)(h:Zn c1 X.prog X.w X.stack H s E v s')(hk:∀e H,E (.ref e) AW H->KX (.ref e) σ H):X.xe v s':=by obtain⟨e,C,dd,H',rfl,os,bare,un,hok,hx,fl,hE⟩:=h;obtain⟨hh,g,d,t,os'⟩:=s';obtain rfl:os'=s.os:=os;exact hw pins σ H' _ e C dd (I.call (h':=hh) (g':=g) (d':=d) (t':=t) (ch:=[]) un hok bare (λb z=>absurd z (by simp))) hx (fl.weak hcc) (hk e H' hE)
end
noncomputable abbrev VB:A0:=[.type "ValueError", .type "Exception", .type "BaseException", .type "object"]
structure XCls(M:Model)(base:Heap)(C:Ue)(bm:A0)(fI:Ue):Prop where
 obj:∃nm q N bs sn sub ab col dd k0 k1 k2 k3 k5,base.get? C=O (excClassObj nm q C N bs bm AX sn sub ab col dd k0 k1 k2 k3 k5 "ValueError.__new__")
 tail:Tail VB bm
 init:Kr M C "__init__" (O (.ref fI)) base
 fn:∃o,base.get? fI=O o/\o.cls=.type "function"
 sa:Kr M C "__setattr__" (O (.builtin "object.__setattr__")) base
 ga:Kr M C "__getattribute__" (O (.builtin "BaseException.__getattribute__")) base
 gh:Kr M C "__getattr__" none base
 cl:Kr M C "__class__" (O (.builtin "object.__class__")) base
 pass:∀v,refuseLoop v "__setattr__" bm=pure ()
section
variable{X:Cx}{k:Nat}{f C:Ue}{fd:Uf}{ps:List Str}{sp:Sp}{x:Str}{p pos cpos:Pos}{e:Ug}{es:A4}{t:TA}{bm:A0}
theorem B3{pins:List (Ue×Obj)}{σ:St}{H:Hp}{s:Uc}{Q:VK}{us:A0}{vs:List V}(M:XCls (model X.prog X.w) X.base C bm f)(F:FnOk X.prog X.w X.K X.mg X.base CX0 k f fd ps sp)(hr:Room (k+1) X.A)(hb:Zf X.K fd ps [])
  (I:Inv X pins σ H s) (r:Vals vs us) (hl:us.length<=Uh)
  (h:∀a,H a=AW->sp (.ref a::vs) (upd H a (.ext (XO AX a C AW))) (λv H2=>v=.non/\Q (.ref a) H2) E0) :
  Ui (model X.prog X.w) X.A (call (.ref C) us) (EP X pins σ Q) X.xe s:=by
 obtain⟨nm,q,N,bs,sn,sub,ab,col,dd,k0,k1,k2,k3,k5,hC⟩:=M.obj;obtain⟨oI,hfI,hfc⟩:=M.fn;obtain⟨hp,g,d,tk,os⟩:=s;refine NT PySem.F.excBase_ValueError M.tail (I.bk _ _ hC) (fI:=f) (M.init.keeps I.bk) (I.bk _ _ hfI) hfc (λh' a made hz=>?_) hl;obtain⟨t',he,htn,ht⟩:=made.there;have I2:Inv X pins σ (upd H a (.ext (XO AX a C AW))) ⟨h',g,d,tk,os⟩:=I.laid (t':=tk) made.keeps hz (XO.ok ⟨_,_,he,λ_=>⟨rfl,⟨_,rfl⟩,rfl,by simp⟩⟩);have hq:=h a (I.hok.fresh hz);have r2:Vals (V.ref a::vs) (Value.ref a::us):=.cons AV r;have hl2:(Value.ref a::us++[]).length=ps.length:=by have e:=r2.length;rw[F.len _ _ _ _ hq]at e;rw[QR];exact e.symm
 refine wpAny_call (Jy (F.run _ X.stack _ _ ⟨Value.ref a::us,[]⟩ (Value.ref a::us) _ _ E0 (hr.make C us []) (I2.env0.make C us []) (by have:=hb _ (Value.ref a::us) I2.kIn hl2;rwa[QR]at this) r2 hq) λr s' qw=>?_);cases r with
 |error e=>exact qw.elim
 |ok fl=>
  cases fl with
  |ret u=>obtain⟨v,H',I3,rv,ev,q3⟩:=I2.after qw;subst ev;exact⟨rv,⟨V.ref a,H',I3,rfl,q3⟩⟩
  |next=>exact False.elim qw
  |brk=>exact False.elim qw
  |cont=>exact False.elim qw
noncomputable def tMkX(C:Ue)(sp:Sp)(t:TA):TE:=λσ H Q=>t σ H λvs H1=>vs.length<=Uh/\∀a,H1 a=AW->sp (.ref a::vs) (upd H1 a (.ext (XO AX a C AW))) (λv H2=>v=.non/\Q (.ref a) H2) E0
theorem DA(M:XCls (model X.prog X.w) X.base C bm f)(F:FnOk X.prog X.w X.K X.mg X.base CX0 k f fd ps sp)(hr:Room (k+1) X.A)(hg:Gl X x)(hm:X.mg x=O (.ref C))(hk:PySem.W.keepIn X.K (.ref C)=AX)(hb:Zf X.K fd ps [])
  (ha:PA X (e::es) t) (hdb:(x==("__debug__" : Str))=AY:=by decide) (he:Uj (e::es) X.env=(AY,eval e X.env)::Uj es X.env:=by rfl) (hpl:(backTo pos (Uj es X.env)).any (·.1)=AY:=by rfl) :
  PE X (.Call (.Name x p) (e::es) [] pos) (tMkX C sp t):=by
 intro pins s σ H Q I h;refine Jm (Xh I hg hm ?_ hdb);refine JU (h₀:=X.base) I.ok.mod.kin hk (thn (ha pos pins s σ H _ I h) λus s1 ⟨vs,H1,I1,r,hl,q⟩=>⟨I1.kIn,?_⟩) he hpl;exact B3 M F hr hb I1 r (by show us.length<=Uh;rw[←r.length];exact hl) q
noncomputable def Gp(KC:Ue->Prop)(te:TE)(KX:V->St->Hp->Prop):TS:=λ_ σ H=>te σ H λv H2=>∃a C dd,v=.ref a/\KC C/\H2 a=O (.ext (XO AX a C dd))/\KX (.ref a) σ (upd H2 a (.ext (XO AY a C dd)))
theorem CZ{M:Model}{A:Around}{E:Ub->Uc->Prop}{env:Env}{s:Uc}{Q:Flow->Uc->Prop}{y:Sem Ub}
  (hh:A.handled=AW) (h:Ui M A y (λv s₁=>∃a C dd vs sl nm q N bs bm hdct sn sub ab col qv k0 k1 k2 k3 k5 newId,v=.ref a/\bm.contains (.type "BaseException")=AX/\s₁.heap.get? C=O (excClassObj nm q C N bs bm hdct sn sub ab col qv k0 k1 k2 k3 k5 newId) /\
   s₁.heap.get? a=O {cls:=.ref C,dict:=dd,data:=.fields vs,slots:=sl}/\vs[1]?=O .none/\E (.ref a) s₁) E s) :
  Ui M A (raiseStmt env (O y) AW) Q E s:=by
 unfold raiseStmt;refine Qb (QB h (λv s₁ h₁=>?_) λ_ _ x=>x);obtain⟨a,C,dd,vs,sl,nm,q,N,bs,bm,hdct,sn,sub,ab,col,qv,k0,k1,k2,k3,k5,newId,rfl,hbase,hC,he,h1,hE⟩:=h₁;have qA:(Value.ref C::bm).contains (.type "BaseException")=AX:=by rw[Q1,hbase,JZ]
 obtain⟨hp,g,d,tk,os⟩:=s₁
 repeat (first|with_reducible refine Q4 he AV h1 ?_|with_reducible refine Qk he ?_|with_reducible refine Qk hC ?_|(with_reducible refine QH hC ?_;rw[qA])|wp_step)
 exact wpAny_raiseNew_none hh hE
theorem Inv.aged{pins:List (Ue×Obj)}{σ:St}{H:Hp}{s:Uc}{a C:Ue}{dd:qa}(I:Inv X pins σ H s)(hx:H a=O (.ext (XO AX a C dd))):Inv X pins σ (upd H a (.ext (XO AY a C dd))) s:=by obtain⟨x,_,_⟩:=I.hok a _ hx;have:=I.write (x:=a) (e:=a) (o:=.ext (XO AY a C dd)) (t':=s.toks) (h':=s.heap) (by rw[hx];trivial) (.inl AV) (λ_ _ _ q=>q) (let ⟨_,_,q,_⟩:=x;⟨_,q⟩) (XO.ok x.old);exact this
theorem Dz{c:Bool}{KC:Ue->Prop}{te:TE}{KX:V->St->Hp->Prop}{exc:Ug}(hc:X.calm=AX)(hcls:∀C,KC C->∃bm fI,XCls (model X.prog X.w) X.base C bm fI)(hw:ZW c X KX)(ht:PE X exc te):PS X (.Raise (O exc) AW pos) (Gp KC te KX):=by intro pins s σ H D I h;rw[arm_exec_Raise];refine Qb (Q7 ?_);show Ui _ _ (raiseStmt X.env (O (do let v ←eval exc X.env;standAt pos;pure v)) AW) _ _ _;refine CZ (I.ok.hd hc) (Qb (thn (ht pins s σ H _ I h) λu s1 ⟨v,H2,I2,rv,a,C,dd,ev,kc,hx,kx⟩=>Qb (Q7 (Qi ?_))));subst ev;obtain rfl:u=Value.ref a:=rv;obtain⟨bm,fI,M⟩:=hcls C kc;obtain⟨nm,q,N,bs,sn,sub,ab,col,qv,k0,k1,k2,k3,k5,hC⟩:=M.obj;obtain⟨⟨vs,sl,g,z⟩,_,_⟩:=I2.hok a _ hx;exact⟨a,C,dd,vs,sl,nm,q,N,bs,bm,AX,sn,sub,ab,col,qv,k0,k1,k2,k3,k5,_,rfl,M.tail _ _ AV,I2.bk _ _ hC,g,(z AV).1,hw pins σ _ s1 a C dd (I2.aged hx) U7 (XO.fly ⟨vs,sl,g,z⟩) kx⟩
end
section
variable{M:Model}{A:Around}{E:Ub->Uc->Prop}{h:Heap}{g:Array GenState}{d:Drawn}{t:Nat}{os:OsState}
variable{nm q qO q':Str}{C N D N' a:Ue}{bs bm bs' bm':A0}{hdct qS:Bool}{sn sn':List Str}{sub sub':A0}{ab ja:Bool}{col col':qb}{dd qv:qa}{k0 k1 k2 k3 k5 j0 j1 j2 j3 j5:A3}{newId newId':String}
theorem Rl{o:Obj}{b:Bool}{Q:Bool->Uc->Prop}(hC:h.get? C=O (excClassObj nm q C N bs bm hdct sn sub ab col dd k0 k1 k2 k3 k5 newId))(hD:h.get? D=O (excClassObj qO q' D N' bs' bm' qS sn' sub' ja col' qv j0 j1 j2 j3 j5 newId'))
  (hbase:bm'.contains (.type "BaseException")=AX) (ha:h.get? a=O o) (hc:o.cls=.ref C) (hb:(Value.ref C::bm).contains (.ref D)=b) (hq:Q b ⟨h,g,d,t,os⟩):Ui M A (excMatches (.ref a) (.ref D)) Q E ⟨h,g,d,t,os⟩:=by
 have qA:(Value.ref D::bm').contains (.type "BaseException")=AX:=by rw[Q1,hbase,JZ]
 have f1:=tc_notTuple;have f2:=tc_sub;have hT:(⟨h,g,d,t,os⟩:Uc).TypeIs (.ref D) "type" :=⟨_,hD,rfl⟩
 unfold excMatches
 repeat (any_goals (first|assumption|(with_reducible refine Qk ha ?_;rw[hc])|with_reducible refine Qk hD ?_|with_reducible refine Qk hC ?_|(with_reducible refine QH hD ?_;rw[qA])|(with_reducible refine QH hC ?_;rw[hb])|wp_step))
 cases b<;>(wp_walk;exact hq)
end
noncomputable def Go(sp:Sp)(KX:V->St->Hp->Prop)(t:TA):TE:=λσ H Q=>t σ H λvs H1=>sp vs H1 Q λv _ H'=>∀a,v=.ref a->KX (.ref a) σ H'
section
variable{X:Cx}{k:Nat}{f:Ue}{fd:Uf}{ps:List Str}{sp:Sp}{x n:Str}{p pos np hpos:Pos}{e:Ug}{es:A4}{t:TA}{KX:V->St->Hp->Prop}
theorem Dy{c c1:Bool}(F:FnOk X.prog X.w X.K X.mg X.base (Zn c1 X.prog X.w) k f fd ps sp)(hr:Room k X.A)(hg:Gl X x)(hm:X.mg x=O (.ref f))(hk:PySem.W.keepIn X.K (.ref f)=AX)(hb:Zf X.K fd ps [])(hw:ZW c X KX)
  (ha:PA X (e::es) t) (hcc:c=AX->c1=AX:=by decide) (hdb:(x==("__debug__" : Str))=AY:=by decide) (he:Uj (e::es) X.env=(AY,eval e X.env)::Uj es X.env:=by rfl) (hpl:(backTo pos (Uj es X.env)).any (·.1)=AY:=by rfl) :
  PE X (.Call (.Name x p) (e::es) [] pos) (Go sp KX t):=by
 intro pins s σ H Q I h;refine Jm (Xh I hg hm ?_ hdb);refine JU (h₀:=X.base) I.ok.mod.kin hk (thn (ha pos pins s σ H _ I h) λus s1 ⟨vs,H1,I1,r,q⟩=>⟨I1.kIn,?_⟩) he hpl;have hl:(us++[]).length=ps.length:=by rw[QR,←r.length];exact F.len _ _ _ _ q
 refine wpAny_call (Jy (F.run X.A X.stack s1 H1 ⟨us,[]⟩ us vs Q _ hr I1.env0 (by have:=hb s1 us I1.kIn hl;rwa[QR]at this) r q) λr s' hq=>?_);cases r with
 |error e=>exact hw.pass hcc (E:=λv _ H'=>∀a,v=.ref a->KX (.ref a) σ H') I1 hq λa H' z=>z a AV
 |ok fl=>
  cases fl with
  |ret u=>exact I1.after hq
  |next=>exact False.elim hq
  |brk=>exact False.elim hq
  |cont=>exact False.elim hq
noncomputable abbrev Cx.suite(X:Cx)(a:Ue):Cx:={X with A:=X.A.mark (O (.ref a)),calm:=AY,xe:=λ_ _=>False}
theorem Cx.Ok.suite(ok:X.Ok)(a:Ue):(X.suite a).Ok:=
 ⟨ok.mod,ok.kind,ok.glob,ok.blt,ok.above,ok.inj,ok.has,ok.cab,λz=>(nomatch z),ok.frames,ok.stk,ok.exf,ok.bs,ok.bsz,ok.noex,ok.exfs,ok.funs,ok.frf⟩
theorem Inv.suite{pins:List (Ue×Obj)}{σ:St}{H:Hp}{s:Uc}(I:Inv X pins σ H s)(a:Ue):Inv (X.suite a) pins σ H s:=⟨I.ok.suite a,I.os,I.bare,I.base,I.loc,I.cell,I.free,I.freeC,I.pin,I.hok,I.len⟩
theorem Inv.unsuite{pins:List (Ue×Obj)}{σ σ':St}{H H':Hp}{s s':Uc}{a:Ue}(I0:Inv X pins σ H s)(I:Inv (X.suite a) pins σ' H' s'):Inv X pins σ' H' s':=⟨I0.ok,I.os,I.bare,I.base,I.loc,I.cell,I.free,I.freeC,I.pin,I.hok,I.len⟩
theorem Sf{pins:List (Ue×Obj)}{σ:St}{H:Hp}{s:Uc}{i:Nat}{Q:Unit->Uc->Prop}{E:Ub->Uc->Prop}{A:Around}(I:Inv X pins σ H s)(hN:X.N.Nodup)(hi:X.N[i]?=O n)(hl:X.env.kindOf n=O .local)
  (h:∀s',Inv X pins (σ.set i AW) H s'->Q () s'):Ui (model X.prog X.w) A (do bindName X.env n .none;unbindBehindTheSuite X.env n pos) Q E s:=by
 have hcls:(X.env.scope.kind==.class || (X.env.scope.kind==.module&&X.env.locals != X.env.globals))=AY:=by rw[I.ok.kind];rfl
 refine Qb (wpAny_bindName (Se (v:=.non) (u:=.none) I hN hi (.inl hl) AV (λs1 I1=>?_) (.inr hl)));unfold unbindBehindTheSuite;refine wpAny_onRaise ?_;unfold unbindName;refine Qb (wpAny_point (Qb ?_));unfold deleteName;simp only[hl,hcls];rw[Qz (by decide)];obtain⟨m,hn,hlk⟩:=id I1.loc;have hiσ:i<σ.length:=by rw[I.len];exact(Qr.mp hi).1
 refine Qb (wpAny_nsDel_keeps hn λh' v hn' hs=>?_)
 have hsome:(m n).isSome=AX:=by
  obtain⟨u,_,l⟩:=hlk i n .non hi (by rw[QJ hiσ]) (.inl hl);rcases l with ⟨_,l⟩|⟨k,_⟩
  .rw[l];rfl
  .rcases k with k|k
   .rw[hl]at k;cases k
   .rw[hl]at k;cases k
 rw[hsome];simp only[if_true,Bool.not_true,Jz,J9];refine Qi (wpAny_point (h _ ?_));obtain⟨oL,_,_,jI,_⟩:=id hn;have neL:∀b o,X.s₀.heap.get? b=O o->b≠X.env.locals:=λb o e=>QQ (QA (Qf e) I.ok.above)
 refine⟨I1.ok,I1.os,I1.bare,⟨λb o e n hb hx=>(hs.2 b (neL b o e)).trans (I1.base.keep b o e n hb hx),λb o e n hb hx=>?_,I1.base.free,λb o e hx=>?_,I1.base.tups,I1.base.frzs,I1.base.tbls⟩,⟨_,hn',λj y v' e1 e2 e3=>?_⟩,λy c e=>?_,I1.free,I1.freeC,λp hp=>?_,λb ob e=>?_,?_⟩
 .obtain⟨sl,e1⟩:=I1.base.slot b o e n hb hx
  exact⟨sl,(hs.2 b (neL b o e)).trans e1⟩
 .obtain⟨o',e1⟩:=I1.base.there b o e hx
  exact⟨o',(hs.2 b (neL b o e)).trans e1⟩
 .have hj:j≠i:=by
   rintro rfl;rw[QJ hiσ]at e2;cases e2
  rw[Ql (Ne.symm hj)]at e2;obtain⟨u',r',q⟩:=hlk j y v' e1 (by rw[Ql (Ne.symm hj)];exact e2) e3;have hy:y≠n:=by rintro rfl;obtain⟨h1,h2⟩:=Qr.mp e1;obtain⟨h3,h4⟩:=Qr.mp hi;exact hj ((List.getElem_inj hN).mp (h2.trans h4.symm))
  refine⟨u',r',?_⟩;rcases q with ⟨q1,q2⟩|⟨k,c,e,z⟩
  .exact .inl ⟨q1,(Qz hy).trans q2⟩
  .obtain⟨o,ho,hd⟩:=z
   exact .inr ⟨k,c,e,o,(hs.2 c (I1.cne y c e)).trans ho,hd⟩
 .obtain⟨v',o,ho,hd⟩:=I1.cell y c e
  exact⟨v',o,(hs.2 c (I1.cne y c e)).trans ho,hd⟩
 .obtain⟨a,b,c,d⟩:=I1.pin p hp
  exact⟨(hs.2 _ c).trans a,b,c,d⟩
 .refine(I1.hok b ob e).stay (λc w' hc q=>(hs.2 c ?_).trans q) (λ_ q=>q) λ_ _ q=>q
  rintro rfl;rcases hc with rfl|hc
  .rw[I1.free]at e;cases e
  .rw[I1.free]at hc;cases hc
 .rw[QW];exact I.len
theorem RM{c:Bool}{M:Model}{A:Around}{E:Ub->Uc->Prop}{s:Uc}{a:Ue}{Q:Unit->Uc->Prop}(fl:Fly c s.heap a)(h:∀h',(∀b o,s.heap.get? b=O o->h'.get? b=O o)->Q () {s with heap:=h'}):Ui M A (setFlight (.ref a) AW) Q E s:=by
 obtain⟨oe,vs,he,hd,h1,_⟩:=fl;unfold setFlight;rcases h1 with h1|⟨T,oT,ts,h1,qB,hT,qz,h3⟩
 .refine Qb (Q4 he hd h1 ?_)
  rw[Qz (by decide)];exact Qi (h s.heap λ_ _ q=>q)
 .obtain⟨jv,hv3⟩:=Jd.mp h3
  refine Qb (Q4 he hd h1 ?_);rw[if_pos (show(Value.ref T != Value.none)=AX from by simp)];refine Q8 hT qz jv (h _ λb o hb=>?_);by_cases qX:b=T
  .subst qX
   rw[hT]at hb;cases hb;rw[QP _ hT (Jh (Jg qz _)),YR _ qz];have:ts.setIfInBounds 3 Value.none=ts:=Array.setIfInBounds_same _ _ _ h3;show O {oT with data:=.fields (ts.setIfInBounds 3 Value.none)}=_;rw[this,←qz]
  .rw[Qn _ _ (Ne.symm qX)];exact hb
noncomputable def WQ(KC:Ue->A0->Prop)(D:Ue)(i:Nat)(ts:TS)(Dn:Ends):V->St->Hp->Prop:=λv σ H=>∃a C dd bm,v=.ref a/\KC C bm/\H a=O (.ext (XO AY a C dd))/\(Value.ref C::bm).contains (.ref D)=AX /\
 ts {nx:=λσ' H'=>Dn.nx (σ'.set i AW) H',rt:=Dn.rt,bk:=λσ' H'=>Dn.bk (σ'.set i AW) H',ct:=λσ' H'=>Dn.ct (σ'.set i AW) H'} (σ.set i (O (.ref a))) H
noncomputable def tTry(KC:Ue->A0->Prop)(D:Ue)(i:Nat)(tb:(V->St->Hp->Prop)->TS)(ts:TS):TS:=λDn σ H=>tb (WQ KC D i ts Dn) Dn σ H
noncomputable abbrev Cx.tried(X:Cx)(W:Ub->Uc->Prop)(pins:List (Ue×Obj)):Cx:={X with xe:=W,pn:=X.pn++pins}
theorem Inv.tried{pins:List (Ue×Obj)}{σ:St}{H:Hp}{s:Uc}(I:Inv X pins σ H s)(W:Ub->Uc->Prop):Inv (X.tried W pins) [] σ H s:=
 ⟨⟨I.ok.mod,I.ok.kind,I.ok.glob,I.ok.blt,I.ok.above,I.ok.inj,I.ok.has,I.ok.cab,I.ok.hd,I.ok.frames,I.ok.stk,I.ok.exf,I.ok.bs,I.ok.bsz,I.ok.noex,I.ok.exfs,I.ok.funs,I.ok.frf⟩,I.os,I.bare,I.base,I.loc,I.cell,I.free,I.freeC,λp hp=>I.pin p (by simpa using hp),I.hok,I.len⟩
theorem Inv.untried{pins pins':List (Ue×Obj)}{σ σ':St}{H H':Hp}{s s':Uc}{W:Ub->Uc->Prop}(I0:Inv X pins σ H s)(I:Inv (X.tried W pins) pins' σ' H' s'):Inv X pins σ' H' s':=
 ⟨I0.ok,I.os,I.bare,I.base,I.loc,I.cell,I.free,I.freeC,λp hp=>I.pin p (Qu _ hp),I.hok,I.len⟩
theorem Gn{KC:Ue->A0->Prop}{D fD:Ue}{bmD:A0}{i:Nat}{tb:(V->St->Hp->Prop)->TS}{ts:TS}{body suite:List Stmt}{b₀:Stmt}{st:List Env}(ql:X.stack=X.env::st)(hfr:X.env.frame=O X.env.locals)
  (hcls:∀C bm,KC C bm->∃fI,XCls (model X.prog X.w) X.base C bm fI) (hD:XCls (model X.prog X.w) X.base D bmD fD) (hg:Gl X x) (hm:X.mg x=O (.ref D)) (hN:X.N.Nodup) (hi:X.N[i]?=O n) (hl:X.env.kindOf n=O .local)
  (hb:∀(KX:V->St->Hp->Prop)(W:Ub->Uc->Prop)(pn:List (Ue×Obj)),ZW AY (X.tried W pn) KX->PSs (X.tried W pn) body (tb KX)) (hs:∀a,PSs (X.suite a) (b₀::suite) ts) (hdb:(x==("__debug__" : Str))=AY:=by decide) :
  PS X (.Try body [.ExceptHandler (O (.Name x np)) (O n) (b₀::suite) hpos] [] [] pos) (tTry KC D i tb ts):=by
 intro pins s σ H Dn I h;refine wpAny_Try_except ?_
 let W:Ub->Uc->Prop:=λv s1=>∃a σ1 H1,v=.ref a/\Inv X pins σ1 H1 s1/\Fly AY s1.heap a/\WQ KC D i ts Dn (.ref a) σ1 H1
 have hw:ZW AY (X.tried W pins) (WQ KC D i ts Dn):=λpins' σ1 H1 s1 a C dd I1 hx fl hk=>⟨a,σ1,H1,rfl,I.untried I1,fl,hk⟩;refine QB (hb _ W pins hw [] s σ H Dn (I.tried W) h) (λf s1 h1=>?_) λv s1 h1=>?_
 .cases f with
  |next=>obtain⟨σ',H',I',q⟩:=h1;exact Jw ⟨σ',H',I.untried I',q⟩
  |brk=>obtain⟨σ',H',I',q⟩:=h1;exact⟨σ',H',I.untried I',q⟩
  |cont=>obtain⟨σ',H',I',q⟩:=h1;exact⟨σ',H',I.untried I',q⟩
  |ret u=>obtain⟨v,σ',H',I',r,q⟩:=h1;exact⟨v,σ',H',I.untried I',r,q⟩
 .obtain⟨a,σ1,H1,rfl,I1,fl,a',C,dd,bm,ea,kc,hx,jK,q⟩:=h1
  cases ea;obtain⟨fI,XC⟩:=hcls C bm kc;have hk:=I1.ok.frames;rw[ql]at hk;have hS:=I1.stack;rw[ql]at hS;refine Xz hk hS hfr fl λh2 p2 jd=>?_;rw[←ql]at p2;have I2:=I1.passed hx p2;refine wpAny_handleBy_cons (codeAny_handlers_test ?_) (by intro q;cases q)
  refine Xh (I2.suite a) hg hm ?_ hdb;obtain⟨nm,qn,N,bs,sn,sub,ab,col,jB,k0,k1,k2,k3,k5,hC⟩:=XC.obj;obtain⟨qO,qn',N',bs',sn',sub',ja,col',dd2,j0,j1,j2,j3,j5,qr⟩:=hD.obj;obtain⟨⟨vs,sl,ga,_⟩,_,_⟩:=I2.hok a _ hx;refine Rl (I2.bk _ _ hC) (I2.bk _ _ qr) (hD.tail _ _ AV) ga AV jK ?_;refine codeAny_handlers_suite_as (RM jd λh3 k3=>?_);have I3:=I2.kept (t':=s1.toks) k3;refine Se (v:=.ref a) I3 hN hi (.inl hl) AV (λs4 I4=>?_) (.inr hl);refine QB (hs a pins s4 _ H1 _ (I4.suite a) q) (λf s5 h5=>?_) λ_ _ z=>z.elim
  cases f with
  |next=>obtain⟨σ',H',I',q'⟩:=h5;exact Sf (I3.unsuite I') hN hi hl λs6 I6=>⟨_,H',I6,q'⟩
  |brk=>obtain⟨σ',H',I',q'⟩:=h5;exact Sf (I3.unsuite I') hN hi hl λs6 I6=>⟨_,H',I6,q'⟩
  |cont=>obtain⟨σ',H',I',q'⟩:=h5;exact Sf (I3.unsuite I') hN hi hl λs6 I6=>⟨_,H',I6,q'⟩
  |ret u=>obtain⟨v,σ',H',I',r,q'⟩:=h5;exact Sf (I3.unsuite I') hN hi hl λs6 I6=>⟨v,_,H',I6,r,q'⟩
noncomputable def SH(KC:Ue->A0->Prop)(D:Ue)(ts:TS)(Dn:Ends):V->St->Hp->Prop:=λv σ H=>∃a C dd bm,v=.ref a/\KC C bm/\H a=O (.ext (XO AY a C dd))/\(Value.ref C::bm).contains (.ref D)=AX/\ts Dn σ H
noncomputable def MQ(KC:Ue->A0->Prop)(D:Ue)(tb:(V->St->Hp->Prop)->TS)(ts:TS):TS:=λDn σ H=>tb (SH KC D ts Dn) Dn σ H
theorem FY{KC:Ue->A0->Prop}{D fD:Ue}{bmD:A0}{tb:(V->St->Hp->Prop)->TS}{ts:TS}{body suite:List Stmt}{b₀:Stmt}{st:List Env}(ql:X.stack=X.env::st)(hfr:X.env.frame=O X.env.locals)
  (hcls:∀C bm,KC C bm->∃fI,XCls (model X.prog X.w) X.base C bm fI) (hD:XCls (model X.prog X.w) X.base D bmD fD) (hg:Gl X x) (hm:X.mg x=O (.ref D))
  (hb:∀(KX:V->St->Hp->Prop)(W:Ub->Uc->Prop)(pn:List (Ue×Obj)),ZW AY (X.tried W pn) KX->PSs (X.tried W pn) body (tb KX)) (hs:∀a,PSs (X.suite a) (b₀::suite) ts) (hdb:(x==("__debug__" : Str))=AY:=by decide) :
  PS X (.Try body [.ExceptHandler (O (.Name x np)) AW (b₀::suite) hpos] [] [] pos) (MQ KC D tb ts):=by
 intro pins s σ H Dn I h;refine wpAny_Try_except ?_
 let W:Ub->Uc->Prop:=λv s1=>∃a σ1 H1,v=.ref a/\Inv X pins σ1 H1 s1/\Fly AY s1.heap a/\SH KC D ts Dn (.ref a) σ1 H1
 have hw:ZW AY (X.tried W pins) (SH KC D ts Dn):=λpins' σ1 H1 s1 a C dd I1 hx fl hk=>⟨a,σ1,H1,rfl,I.untried I1,fl,hk⟩;refine QB (hb _ W pins hw [] s σ H Dn (I.tried W) h) (λf s1 h1=>?_) λv s1 h1=>?_
 .cases f with
  |next=>obtain⟨σ',H',I',q⟩:=h1;exact Jw ⟨σ',H',I.untried I',q⟩
  |brk=>obtain⟨σ',H',I',q⟩:=h1;exact⟨σ',H',I.untried I',q⟩
  |cont=>obtain⟨σ',H',I',q⟩:=h1;exact⟨σ',H',I.untried I',q⟩
  |ret u=>obtain⟨v,σ',H',I',r,q⟩:=h1;exact⟨v,σ',H',I.untried I',r,q⟩
 .obtain⟨a,σ1,H1,rfl,I1,fl,a',C,dd,bm,ea,kc,hx,jK,q⟩:=h1
  cases ea;obtain⟨fI,XC⟩:=hcls C bm kc;have hk:=I1.ok.frames;rw[ql]at hk;have hS:=I1.stack;rw[ql]at hS;refine Xz hk hS hfr fl λh2 p2 jd=>?_;rw[←ql]at p2;have I2:=I1.passed hx p2;refine wpAny_handleBy_cons (codeAny_handlers_test ?_) (by intro q;cases q)
  refine Xh (I2.suite a) hg hm ?_ hdb;obtain⟨nm,qn,N,bs,sn,sub,ab,col,jB,k0,k1,k2,k3,k5,hC⟩:=XC.obj;obtain⟨qO,qn',N',bs',sn',sub',ja,col',dd2,j0,j1,j2,j3,j5,qr⟩:=hD.obj;obtain⟨⟨vs,sl,ga,_⟩,_,_⟩:=I2.hok a _ hx;refine Rl (I2.bk _ _ hC) (I2.bk _ _ qr) (hD.tail _ _ AV) ga AV jK ?_;refine codeAny_handlers_suite (RM jd λh3 k3=>?_);have I3:=I2.kept (t':=s1.toks) k3;refine QB (hs a pins _ _ H1 _ (I3.suite a) q) (λf s5 h5=>?_) λ_ _ z=>z.elim
  cases f with
  |next=>obtain⟨σ',H',I',q'⟩:=h5;exact⟨σ',H',I3.unsuite I',q'⟩
  |brk=>obtain⟨σ',H',I',q'⟩:=h5;exact⟨σ',H',I3.unsuite I',q'⟩
  |cont=>obtain⟨σ',H',I',q'⟩:=h5;exact⟨σ',H',I3.unsuite I',q'⟩
  |ret u=>obtain⟨v,σ',H',I',r,q'⟩:=h5;exact⟨v,σ',H',I3.unsuite I',r,q'⟩
end
section
variable{prog:Ud}{w:World}{A:Around}{E:Ub->Uc->Prop}{h:Heap}{g:Array GenState}{d:Drawn}{t:Nat}{os:OsState}
variable{nm q:Str}{C N a:Ue}{bs bm bmB:A0}{hdct:Bool}{sn:List Str}{sub:A0}{ab:Bool}{col:qb}{dd:qa}{k0 k1 k2 k3 k5:A3}{B newId initId nid:String}
theorem At(F:ExcBaseFacts B nid initId bmB)(T:Tail bmB bm){M:Model}{oe:Obj}{rest:A0}{Q:Unit->Uc->Prop}
  (hC:h.get? C=O (excClassObj nm q C N bs bm hdct sn sub ab col dd k0 k1 k2 k3 k5 newId)) (he:h.get? a=O oe) (hcls:oe.cls=.ref C) (hq:Q () ⟨h,g,d,t,os⟩) :
  Ui M A (checkBuiltinCall initId ⟨.ref a::rest,[]⟩) Q E ⟨h,g,d,t,os⟩:=by
 have qA:(Value.ref C::bm).contains (.type B)=AX:=by rw[Q1,T _ _ F.hasB,JZ]
 have hshort:=F.noStar;simp only[checkBuiltinCall,F.initKind,F.initSplit,F.initRow]
 repeat (first|(with_reducible refine Qk he ?_;rw[hcls])|with_reducible refine Qk hC ?_|(with_reducible refine QH hC ?_;rw[qA])|wp_step)
 refine wpAny_onRaise ?_
 rw[show ∀(x1 x2:String)(n:Nat),Bind.check ⟨.positional, "*", B,.self,[⟨"args", .varPos,AY⟩]⟩ x1 x2 n (List.map (λx=>x.fst) ({pos:=Value.ref a::rest}:Args).kw)=pure ()from
  λ_ _ n=>check_star_args _ _ _ _ _ _]
 exact Qi hq
theorem BE(F:ExcBaseFacts B nid initId bmB)(T:Tail bmB bm){oe:Obj}{vs:Array Ub}{u:Ub}{Q:Ub->Uc->Prop}
  (hC:h.get? C=O (excClassObj nm q C N bs bm hdct sn sub ab col dd k0 k1 k2 k3 k5 newId)) (he:h.get? a=O oe) (hcls:oe.cls=.ref C) (hd:oe.data=.fields vs) {t0:Ue} (h0:vs[0]?=O (.ref t0))
  (hq:∀h',(∀b o,b≠a->h.get? b=O o->h'.get? b=O o)->(∃y,h'.get? a=O {oe with data:=.fields (vs.setIfInBounds 0 (.ref y))})->Q .none ⟨h',g,d,t,os⟩) :
  Ui (model prog w) A (call (.builtin initId) [.ref a,u]) Q E ⟨h,g,d,t,os⟩:=by
 refine wpAny_call (Js F.init.plain F.initEntry (At F T hC he hcls ?_));have he₂:(h.push {cls:=.type "tuple", data:=.seq #[u]}).get? a=O oe:=Qe _ he;have hz:0<vs.size:=(Jd.mp h0).1
 repeat (first|with_reducible refine Q4 he₂ hd h0 ?_|with_reducible refine Q8 he₂ hd hz ?_|wp_step)
 have he₃:=QP (Obj.mapFields (·.setIfInBounds 0 (Value.ref h.objs.size))) he₂ (Jh (Jg hd _));refine hq _ (λb o hb g=>?_) ⟨_,by rw[he₃,YR _ hd]⟩;rw[Qn _ _ (Ne.symm hb)];exact Qe _ g
end
theorem FX:PySem.W.handedIn (.builtin "ValueError.__init__")=AX:=by decide +kernel
theorem Gm{h:Heap}:PySem.W.Frag.In [] h:=λa o z=>by cases z
theorem Ot:typeOf (.type "ValueError")=pure (.type "type"):=by kernel_rfl
theorem FW:Manifest.isStub "ValueError" = AY:=by decide +kernel
theorem FV:PySem.W.findCls [] (.type "ValueError") (.type "type") "__init__" = O (.val (.builtin "ValueError.__init__")):=by kernel_rfl
section
variable{X:Cx}{k:Nat}{f D:Ue}{fd:Uf}{ps:List Str}{sp:Sp}{x:Str}{p pos apos:Pos}{e:Ug}{es:A4}{t:TA}
noncomputable def SR(KC:Ue->A0->Prop)(t:TA):TE:=λσ H Q=>t σ H λvs H1=>∃a C dd bm u,vs=[.ref a,u]/\KC C bm/\H1 a=O (.ext (XO AX a C dd))/\Q .non H1
theorem OQ{KC:Ue->A0->Prop}{pl:Sem Bool}(hcls:∀C bm,KC C bm->∃fI,XCls (model X.prog X.w) X.base C bm fI)(hg:Gl X "ValueError")(hm:X.mg "ValueError" = AW)(ha:PA X (e::es) t)
  (hst:Uj (e::es) X.env=(AY,eval e X.env)::Uj es X.env:=by rfl) (hpl:(backTo pos (Uj es X.env)).any (·.1)=AY:=by rfl)
  (ht:eval (.Call (.Attribute (.Name "ValueError" p) "__init__" apos) (e::es) [] pos) X.env=(do
   let ov ←eval (.Name "ValueError" p) X.env
   standAt apos.atName
   let (f,first) ←holding [ov] (getMethod ov "__init__" pl)
   callWith pos f first (backTo pos (Uj (e::es) X.env)) (backToKw pos (keywordEach [] X.env))):=by rfl) :
  PE X (.Call (.Attribute (.Name "ValueError" p) "__init__" apos) (e::es) [] pos) (SR KC t):=by
 intro pins s σ H Q I h;have hB:bootBuiltins "ValueError" = O (.type "ValueError"):=by decide +kernel
 refine PySem.W.methodCall_KW (pl:=pl) (Ww I hg hm hB ?_) ht;obtain⟨m,Fm⟩:=I.fr;refine PySem.W.method_type (K:=[]) (v:=.builtin "ValueError.__init__") Fm Gm Ot FW FV FX ?_;refine PyProof.Rows.callWith_builtin1 (thn (ha pos pins _ σ H _ (I.tok _) h) λus s1 ⟨vs,H1,I1,r1,a,C,dd,bm,u,ev,kc,hx,q⟩=>?_) hst hpl;subst ev;cases r1 with
 |cons ra r1=>
 cases r1 with
 |cons ru r1=>
 cases r1;have ra':_=Value.ref a:=ra;subst ra';obtain⟨fI,XC⟩:=hcls C bm kc;obtain⟨nm,qn,N,bs,sn,sub,ab,col,jB,k0,k1,k2,k3,k5,hC⟩:=XC.obj;obtain⟨⟨vs,sl,ga,z⟩,_,_⟩:=I1.hok a _ hx;obtain⟨z1,⟨t0,z0⟩,z2⟩:=z AV;obtain⟨hp,g,d,tk,os⟩:=s1;refine BE PySem.F.excBase_ValueError XC.tail (I1.bk _ _ hC) ga AV AV z0 λh' k ⟨y,hy⟩=>?_;have hw:=I1.write (x:=a) (e:=a) (o:=.ext (XO AX a C dd)) (t':=tk) (h':=h') (by rw[hx];trivial) (.inl AV) k ⟨_,hy⟩ (XO.ok ⟨_,sl,hy,λ_=>⟨by rw[Array.getElem?_setIfInBounds_ne (by decide)];exact z1,⟨y,by simp[(Array.getElem?_eq_some_iff.mp z0).1]⟩,by rw[Array.getElem?_setIfInBounds_ne (by decide)];exact z2.1,by rw[Array.size_setIfInBounds];exact z2.2⟩⟩)
 have e:upd H1 a (.ext (XO AX a C dd))=H1:=by
  funext b;by_cases hb:b=a
  .subst hb;rw[U7,hx]
  .rw[UW hb]
 rw[e]at hw;exact⟨.non,H1,hw,rfl,q⟩
end
structure Tt(K:Frag)(D:Ue)(m:Str)(f:Ue):Prop where
 ga:PySem.W.specialIn K (.ref D) "__getattribute__" = O (O (.builtin "type.__getattribute__"))
 rd:PySem.W.readsIn K D (.type "type")=AX
 fd:PySem.W.findCls K (.ref D) (.type "type") m=O (.val (.ref f))
 kp:PySem.W.keepIn K (.ref f)=AX
section
variable{X:Cx}{k:Nat}{f D:Ue}{fd:Uf}{ps:List Str}{sp:Sp}{x m:Str}{p pos apos:Pos}{e:Ug}{es:A4}{t:TA}
theorem Dx{pl:Sem Bool}(M:Tt X.K D m f)(F:FnOk X.prog X.w X.K X.mg X.base CX0 k f fd ps sp)(hr:Room k X.A)(hb:Zf X.K fd ps [])(hg:Gl X x)(hm:X.mg x=O (.ref D))(ha:PA X (e::es) t)
  (hdb:(x==("__debug__" : Str))=AY:=by decide) (hst:Uj (e::es) X.env=(AY,eval e X.env)::Uj es X.env:=by rfl) (hpl:(backTo pos (Uj es X.env)).any (·.1)=AY:=by rfl)
  (ht:eval (.Call (.Attribute (.Name x p) m apos) (e::es) [] pos) X.env=(do
   let ov ←eval (.Name x p) X.env
   standAt apos.atName
   let (f,first) ←holding [ov] (getMethod ov m pl)
   callWith pos f first (backTo pos (Uj (e::es) X.env)) (backToKw pos (keywordEach [] X.env))):=by rfl) :
  PE X (.Call (.Attribute (.Name x p) m apos) (e::es) [] pos) (SJ sp [] E0 t):=by
 intro pins s σ H Q I h;refine PySem.W.methodCall_KW (pl:=pl) (Xh I hg hm ?_ hdb) ht;refine PySem.W.method_cls I.kIn M.ga (PySem.W.cls_value I.kIn M.rd M.fd AV ?_);refine JU (h₀:=X.base) I.ok.mod.kin M.kp (thn (ha pos pins _ σ H _ (I.tok _) h) λus s1 ⟨vs,H1,I1,r,q⟩=>⟨I1.kIn,?_⟩) hst hpl;exact PL F hr hb .nil Tu I1 r q
end
noncomputable def XD(dx:Ue)(fs:List (Str×V)):Heap->Prop:=λh=>∃mA,h.Ns1 dx mA/\h.ExactDictFk dx/\(∀f,YU (fs.lookup f) (mA f))/\PySem.Within mA (fs.map (·.1))
theorem XD.ok{P:Ud}{w:World}{H:Hp}{h:Heap}{dx:Ue}{fs:List (Str×V)}(x:XD dx fs h):K4 P w H h dx (.ext (XD dx fs)):=
 ⟨x,let ⟨_,⟨o,_,_,q,_⟩,_⟩:=x;⟨o,q⟩,λh1 h2 ⟨mA,⟨o,es,ep,q,c⟩,⟨od,q2,c2⟩,r⟩ k=>⟨mA,⟨o,es,ep,k _ q,c⟩,⟨od,k _ q2,c2⟩,r⟩⟩
theorem XO.inst{h:Heap}{a C:Ue}{vs:Array Ub}{sl:Array A3}(g:h.get? a=O {cls:=.ref C,dict:=AW,data:=.fields vs,slots:=sl}):h.InstFk a C λ_=>AW:=
 ⟨_,g,rfl,λ_ z=>(by cases z),.inl ⟨rfl,λ_=>rfl⟩⟩
section
variable{X:Cx}{pins:List (Ue×Obj)}{σ:St}{H:Hp}{s:Uc}{a C dx:Ue}{h':Heap}{t':Nat}
theorem Inv.xdict{fs:List (Str×V)}(I:Inv X pins σ H s)(hx:H a=O (.ext (XO AX a C AW)))(k:∀b o,b≠a->s.heap.get? b=O o->h'.get? b=O o)(hz:s.heap.objs.size<=dx)(h1:XO AX a C (O dx) h')(h2:XD dx fs h') :
  Inv X pins σ (upd (upd H a (.ext (XO AX a C (O dx)))) dx (.ext (XD dx fs))) {s with heap:=h',toks:=t'}:=by
 have hn:H dx=AW:=I.hok.fresh hz;have hne:dx≠a:=λz=>by rw[z,hx]at hn;cases hn
 have ne:∀b,H b=AW->b≠a:=λb n z=>by rw[z,hx]at n;cases n
 have nd:∀b o,s.heap.get? b=O o->b≠dx:=λb o g z=>by subst z;exact absurd (Qf g) (Nat.not_lt.mpr hz)
 have oth:∀b,b≠a->b≠dx->upd (upd H a (.ext (XO AX a C (O dx)))) dx (.ext (XD dx fs)) b=H b:=λb h1 h2=>by rw[UW h2,UW h1]
 have trk:∀b u,H b=O u->b≠dx:=λb u q z=>by rw[z,hn]at q;cases q
 have nota:∀b(u:HO),H b=O u->(∀φ,u≠.ext φ)->b≠a:=λb u q n z=>by rw[z,hx]at q;cases q;exact n _ AV
 refine I.un (t':=t') ⟨λb o g n _ _=>k b o (ne b n) g,λb o g n _ _=>⟨o.slots,k b o (ne b n) g⟩,λb o g n _=>(oth b (ne b n) (nd b o g)).trans n,λb o g _=>?_,λb xs q=>?_,λb o u q=>?_,λb ps q=>⟨#[],?_⟩⟩ λb u q=>?_
 .by_cases hb:b=a
  .subst hb;obtain⟨_,_,z,_⟩:=h1;exact⟨_,z⟩
  .exact⟨o,k b o hb g⟩
 .exact(oth b (nota b _ q λ_ z=>by cases z) (trk b _ q)).trans q
 .exact(oth b (nota b _ q λ_ z=>by cases z) (trk b _ q)).trans q
 .rw[oth b (nota b _ q λ_ z=>by cases z) (trk b _ q),q];simp
 .by_cases hb:b=dx
  .subst hb;rw[U7]at q;cases q;exact XD.ok h2
  .rw[UW hb]at q
   by_cases jm:b=a
   .subst jm;rw[U7]at q;cases q;exact XO.ok h1
   .rw[UW jm]at q
    refine(I.hok b u q).stay (λc v hc g=>k c v ?_ g) (λc r=>(oth c (nota c _ r λ_ z=>by cases z) (trk c _ r)).trans r) λc xs r=>(oth c (nota c _ r λ_ z=>by cases z) (trk c _ r)).trans r
    rcases hc with rfl|hc
    .exact jm
    .exact nota c _ hc λ_ z=>by cases z
end
noncomputable def SG(KC:Ue->A0->Prop)(ta tv:TE)(f:Str):TS:=λD σ H=>tv σ H λy H1=>ta σ H1 λx H2=>∃a C bm,x=.ref a/\KC C bm /\
 ((H2 a=O (.ext (XO AX a C AW))/\∀dx,H2 dx=AW->dx≠a->D.nx σ (upd (upd H2 a (.ext (XO AX a C (O dx)))) dx (.ext (XD dx [(f,y)])))) ∨
  ∃dx fs,dx≠a/\H2 a=O (.ext (XO AX a C (O dx)))/\H2 dx=O (.ext (XD dx fs))/\fs.length<900/\D.nx σ (upd H2 dx (.ext (XD dx (KP f y fs)))))
section
variable{X:Cx}{o value:Ug}{f:Str}{pos pos':Pos}{ta tv:TE}{KC:Ue->A0->Prop}
theorem Os(hcls:∀C bm,KC C bm->∃fI,XCls (model X.prog X.w) X.base C bm fI)(hf:∀C bm,KC C bm->Kr (model X.prog X.w) C f AW X.base)(ha:PE X o ta)(hv:PE X value tv)
  (hs:swapsWith value (O (.Attribute o f pos')) pos.line X.env=pure AY):PS X (.Assign [.Attribute o f pos'] value pos) (SG KC ta tv f):=by
 intro pins s σ H D I h;refine plainObj_wpAny_Assign_Attribute (thn (hv pins s σ H _ I h) λu s1 ⟨y,H1,I1,ry,q⟩=>thn (ha pins s1 σ H1 _ I1 q) λov s2 ⟨x,H2,I2,rx,a,C,bm,ex,kc,q2⟩=>?_) hs;subst ex;obtain rfl:ov=Value.ref a:=rx;obtain⟨fI,XC⟩:=hcls C bm kc;obtain⟨nm,qn,N,bs,sn,sub,ab,col,jB,k0,k1,k2,k3,k5,hC⟩:=XC.obj;obtain⟨hp,g,d,tk,os⟩:=s2;rcases q2 with ⟨hx,q2⟩|⟨dx,fs,hne,hx,qJ,hl,q2⟩
 .obtain⟨⟨vs,sl,ga,z⟩,_,_⟩:=I2.hok a _ hx
  refine Ma (ns:=[]) PySem.F.store_ValueError XC.tail (XC.pass _) (I2.bk _ _ hC) (XC.sa.keeps I2.bk) ((hf C bm kc).keeps I2.bk) (XO.inst ga) (λh' tk' i' hk hsame hnew=>?_) PySem.Within.nil (by decide);obtain⟨o1,g1,c1,d1,jF,_⟩:=hsame _ ga;obtain⟨o2,g2,_,_,dd⟩:=i';rw[g1]at g2;cases g2;rcases dd with ⟨_,dn⟩|⟨dx,qJ,hne,hns,hex⟩
  .have:=dn f;simp at this
  .have hz:=hnew _ _ dx ga AV g1 qJ
   have o1e:o1 = {cls:=.ref C,dict:=O dx,data:=.fields vs,slots:=sl}:=by obtain⟨oc,od,odt,osl⟩:=o1;cases c1;cases d1;cases jF;cases qJ;rfl
   have I3:=I2.xdict (t':=tk') (dx:=dx) (fs:=[(f,y)]) hx (λb ob hb gb=>hk b ob hb (λo₀ dx' e1 e2=>by rw[ga]at e1;cases e1;cases e2) gb) hz ⟨vs,sl,by rw[g1,o1e],z⟩
    ⟨_,hns,hex,λg=>?_,λg hg=>?_⟩
   .exact⟨σ,_,I3,q2 dx (I2.hok.fresh hz) hne⟩
   .show YU ((KP f y []).lookup g) (if g=f then O u else AW)
    rw[RF];by_cases e:g=f
    .rw[Qp e,Qp e];exact ry
    .rw[Qz e,Qz e];trivial
   .show g∈[f]
    by_cases e:g=f
    .rw[e];simp
    .exact absurd (Qz e) hg
 .obtain⟨⟨vs,sl,ga,z⟩,_,_⟩:=I2.hok a _ hx
  obtain⟨⟨mA,hns,hex,hr,hwi⟩,_,_⟩:=I2.hok dx _ qJ;refine Ma (ns:=fs.map (·.1)) PySem.F.store_ValueError XC.tail (XC.pass _) (I2.bk _ _ hC) (XC.sa.keeps I2.bk) ((hf C bm kc).keeps I2.bk) ⟨_,ga,rfl,λ_ z=>(by cases z),.inr ⟨dx,rfl,hne,hns,hex⟩⟩ (λh' tk' i' hk hsame hnew=>?_) hwi (by rw[Qd];omega);obtain⟨o1,g1,c1,d1,jF,dk⟩:=hsame _ ga;have hd1:=dk dx AV;obtain⟨o2,g2,_,_,dd⟩:=i';rw[g1]at g2;cases g2;rcases dd with ⟨dn,_⟩|⟨dx2,jR,hne2,jJ,hex2⟩
  .rw[hd1]at dn;cases dn
  .rw[hd1]at jR
   cases jR;have o1e:o1 = {cls:=.ref C,dict:=O dx,data:=.fields vs,slots:=sl}:=by obtain⟨oc,od,odt,osl⟩:=o1;cases c1;cases d1;cases jF;cases hd1;rfl
   have I3:=I2.write (x:=dx) (e:=dx) (o:=.ext (XD dx (KP f y fs))) (t':=tk') (h':=h') (by rw[qJ];trivial) (.inl AV) (λb ob hb gb=>by
    by_cases hba:b=a
    .subst hba;rw[ga]at gb;cases gb;rw[g1,o1e]
    .exact hk b ob hba (λo₀ dx' e1 e2=>by rw[ga]at e1;cases e1;cases e2;exact hb) gb) (let ⟨o,_,_,q,_⟩:=jJ;⟨o,q⟩) (XD.ok ⟨_,jJ,hex2,λg=>?_,λg hg=>?_⟩)
   .exact⟨σ,_,I3,q2⟩
   .show YU ((KP f y fs).lookup g) (if g=f then O u else mA g)
    rw[RF];by_cases e:g=f
    .rw[Qp e,Qp e];exact ry
    .rw[Qz e,Qz e];exact hr g
   .by_cases e:g=f
    .rw[e];exact(Ru f y fs).1
    .refine(Ru f y fs).2 g (hwi g λz=>hg ?_)
     show(if g=f then O u else mA g)=AW
     rw[Qz e];exact z
end
inductive FmtV:V->Str->Prop
 |str (x:Str) (h:x.length<=Uh):FmtV (.str x) x
 |int (i:Int) (h:i.natAbs.log2<1920):FmtV (.int i) (toString i:String)
 |non:FmtV .non "None"
noncomputable def WP(te:TE):TE:=λσ H Q=>te σ H λv H1=>∃y,FmtV v y/\Q (.str y) H1
noncomputable def Ts:List TE->Str->TE
 |[],acc=>λ_ H Q=>acc.length<=Uh/\Q (.str acc) H
 |te::r,acc=>λσ H Q=>te σ H λv H1=>∃y,v=.str y/\(acc++y).length<=Uh/\Ts r (acc++y) σ H1 Q
inductive PEs(X:Cx):A4->List TE->Prop
 |nil:PEs X [] []
 |cons {e:Ug} {es:A4} {t:TE} {ts:List TE}:PE X e t->PEs X es ts->PEs X (e::es) (t::ts)
section
variable{X:Cx}{value:Ug}{te:TE}{pos:Pos}
theorem PH(h:PE X value te):PE X (.FormattedValue value (-1) AW pos) (WP te):=by
 intro pins s σ H Q I hq;refine wpAny_FormattedValue_plain (thn (h pins s σ H _ I hq) λu s1 ⟨v,H1,I1,rv,y,hy,q⟩=>?_);cases hy with
 |str x hx=>
  obtain⟨t,rfl⟩:=(show ∃t,u=Value.str y t from rv)
  exact wpAny_formatField_str ⟨.str y,H1,I1,⟨_,rfl⟩,q⟩ ⟨.str y,H1,I1.tok _,⟨_,rfl⟩,q⟩ hx
 |int i hi=>
  obtain⟨t,rfl⟩:=(show ∃t,u=Value.int i t from rv)
  exact wpAny_formatField_int hi ⟨.str _,H1,I1.tok _,⟨_,rfl⟩,q⟩
 |non=>obtain rfl:u=Value.none:=rv;exact wpAny_formatField_none ⟨.str _,H1,I1.tok _,⟨_,rfl⟩,q⟩
theorem OP{E:Ub->Uc->Prop}:∀{es:A4}{ts:List TE}{acc:Str}{pins:List (Ue×Obj)}{s:Uc}{σ:St}{H:Hp}{Q:VK},PEs X es ts->Inv X pins σ H s->Ts ts acc σ H Q ->
  Joins (model X.prog X.w) X.A X.xe (evalEach es X.env) acc (λout s1=>out.length<=Uh/\EP X pins σ Q (.str out s1.toks) {s1 with toks:=s1.toks+1}) s
 |_,_,acc,pins,s,σ,H,Q,.nil,I,⟨hl,q⟩=>⟨hl,.str acc,H,I.tok _,⟨_,rfl⟩,q⟩
 |_,_,acc,pins,s,σ,H,Q,.cons h r,I,hq=>thn (h pins s σ H _ I hq) λu s1 ⟨v,H1,I1,rv,y,ev,hl,q⟩=>by
  subst ev;obtain⟨t,rfl⟩:=(show ∃t,u=Value.str y t from rv)
  exact⟨y,t,rfl,hl,OP (E:=E) r I1 q⟩
theorem CY{v1 v2:Ug}{rest:A4}{ts:List TE}(h:PEs X (v1::v2::rest) ts):PE X (.JoinedStr (v1::v2::rest) pos) (Ts ts Str.empty):=by intro pins s σ H Q I hq;exact wpAny_JoinedStr (OP (E:=X.xe) h I hq)
end
noncomputable def MP(KC:Ue->A0->Prop)(ta:TE)(f:Str):TE:=λσ H Q=>ta σ H λx H1=>∃a C bm dx fs v fr,x=.ref a/\KC C bm/\H1 a=O (.ext (XO fr a C (O dx)))/\H1 dx=O (.ext (XD dx fs))/\fs.lookup f=O v/\Q v H1
theorem BD{v:V}{u:Ub}(r:RelV v u):handedOut u=pure u:=by
 cases v with
 |non=>obtain rfl:u=_:=r;rfl
 |bl b=>obtain rfl:u=_:=r;rfl
 |int i=>obtain⟨t,rfl⟩:∃t,u=_:=r;rfl
 |str x=>obtain⟨t,rfl⟩:∃t,u=_:=r;rfl
 |byt b=>obtain⟨t,rfl⟩:∃t,u=_:=r;rfl
 |flt b=>obtain⟨t,rfl⟩:∃t,u=_:=r;rfl
 |ref a=>obtain rfl:u=_:=r;rfl
 |ty n=>obtain rfl:u=_:=r;rfl
section
variable{X:Cx}{e:Ug}{f:Str}{pos:Pos}{ta:TE}{KC:Ue->A0->Prop}
theorem FT(hcls:∀C bm,KC C bm->∃fI,XCls (model X.prog X.w) X.base C bm fI)(hf:∀C bm,KC C bm->Kr (model X.prog X.w) C f AW X.base)(he:PE X e ta)(hb:attributeBase e f X.env (eval e X.env)=eval e X.env):PE X (.Attribute e f pos) (MP KC ta f):=by
 intro pins s σ H Q I h;refine F9 hb (thn (he pins s σ H _ I h) λu s1 ⟨x,H1,I1,rx,a,C,bm,dx,fs,v,fr,ex,kc,hx,hd,hl,q⟩=>?_);subst ex;obtain rfl:u=Value.ref a:=rx;obtain⟨fI,XC⟩:=hcls C bm kc;obtain⟨nm,qn,N,bs,sn,sub,ab,col,jB,k0,k1,k2,k3,k5,hC⟩:=XC.obj;obtain⟨⟨vs,sl,ga,_⟩,_,_⟩:=I1.hok a _ hx;obtain⟨⟨mA,hns,hex,hr,hwi⟩,_,_⟩:=I1.hok dx _ hd;have hne:dx≠a:=by rintro rfl;obtain⟨o,es,ep,g,d,_⟩:=hns;rw[ga]at g;cases g;cases d
 have hr':=hr f;rw[hl]at hr';cases hm:mA f with
 |none=>rw[hm]at hr';exact hr'.elim
 |some u=>rw[hm]at hr';have ru:RelV v u:=hr';obtain⟨hp,g,d,tk,os⟩:=s1;exact BF PySem.F.excAttr_ValueError XC.tail AV (I1.bk _ _ hC) (XC.ga.keeps I1.bk) (XC.gh.keeps I1.bk) ((hf C bm kc).keeps I1.bk) ⟨_,ga,rfl,λ_ z=>(by cases z),.inr ⟨dx,rfl,hne,hns,hex⟩⟩ hm (BD ru) ⟨v,H1,I1.tok _,ru,q⟩
end
end L2
namespace L2
open PySem PySem.Spec
section
variable{prog:Ud}{w:World}{A:Around}{E:Ub->Uc->Prop}{h:Heap}{g:Array GenState}{d:Drawn}{t:Nat}{os:OsState}{R:Result->Uc->Prop}
variable{nm q:Str}{C N a:Ue}{bs bm bmB:A0}{hdct:Bool}{sn:List Str}{sub:A0}{ab:Bool}{col:qb}{dd:qa}{k0 k1 k2 k3 k5:A3}{newId:String}{o:Obj}
theorem BC(T:Tail bmB bm)(ho:bmB.contains (.type "object")=AX)(hC:h.get? C=O (excClassObj nm q C N bs bm hdct sn sub ab col dd k0 k1 k2 k3 k5 newId))(hx:h.get? a=O o)(hc:o.cls=.ref C)(hq:R (.ok (.ret (.ref C))) ⟨h,g,d,t,os⟩) :
  codeAny (model prog w) A (.call (.builtin "getset_descriptor.__get__") ⟨[.builtin "object.__class__", .ref a,.ref C],[]⟩) R ⟨h,g,d,t,os⟩:=by
 have hT5:(⟨h,g,d,t,os⟩:Uc).TypeIs (.builtin "object.__class__") "getset_descriptor" :=PySem.F.typeOf_object_class;have qA:(Value.ref C::bm).contains (.type (".".intercalate ("object.__class__".cutAt '.').dropLast))=AX:=by rw[PySem.F.owner_object_class,Q1,T _ _ ho];rfl
 refine Js PySem.F.slot_gs_get.plain PySem.F.entry_gs_get (PySem.F.slot_gs_get.check _ _ _ _ _ _ _ _ hT5 (PySem.F.args_gs_get _ _ _) ?_)
 repeat (any_goals (first|assumption|(with_reducible refine Qk hx ?_;rw[hc])|(with_reducible refine QH hC ?_;rw[qA])|wp_step))
 refine⟨Code.quiet_builtin _ (by decide +kernel),codeAny_builtin PySem.F.entry_object_class ?_⟩;unfold Builtin.«object.__class__»
 repeat (any_goals (first|assumption|(with_reducible refine Qk hx ?_;rw[hc])|wp_step))
theorem AD{tk:Tok}{Q:PySem.Fin->Uc->Prop}(T:Tail bmB bm)(ho:bmB.contains (.type "object")=AX)(hC:h.get? C=O (excClassObj nm q C N bs bm hdct sn sub ab col dd k0 k1 k2 k3 k5 newId))(fc:Kr (model prog w) C "__class__" (O (.builtin "object.__class__")) h)(hx:h.get? a=O o)(hc:o.cls=.ref C)(hq:Q (.done (.ret (.ref C))) ⟨h,g,d,t,os⟩) :
  Ui (model prog w) A (Builtin.«object.__getattribute__» ⟨[.ref a,.str "__class__" tk],[]⟩) Q E ⟨h,g,d,t,os⟩:=by
 have hT5:(⟨h,g,d,t,os⟩:Uc).TypeIs (.builtin "object.__class__") "getset_descriptor" :=PySem.F.typeOf_object_class;have f5:=PySem.F.typeOf_object_class;have f6:=PySem.F.slot_gs_get.lookup;have f7:=PySem.F.slot_gs_set.lookup
 repeat (any_goals (first|assumption|(with_reducible refine Qk hx ?_;rw[hc])|with_reducible refine fc.at ?_|wp_step))
 refine BC T ho hC hx hc ?_
 repeat (any_goals (first|assumption|wp_step))
theorem N9{Q:A3->Uc->Prop}(FB:ExcAttrFacts "ValueError")(T:Tail VB bm)(hC:h.get? C=O (excClassObj nm q C N bs bm hdct sn sub ab col dd k0 k1 k2 k3 k5 newId))(fc:Kr (model prog w) C "__class__" (O (.builtin "object.__class__")) h)
  (fg:Kr (model prog w) C "__getattribute__" (O (.builtin "BaseException.__getattribute__")) h) (fa:Kr (model prog w) C "__getattr__" none h) (hx:h.get? a=O o) (hc:o.cls=.ref C) (hq:Q (O (.ref C)) ⟨h,g,d,t+1,os⟩) :
  Ui (model prog w) A (getAttr? (.ref a) "__class__") Q E ⟨h,g,d,t,os⟩:=by
 have f3:=FB.ga.bind (.ref a);have hx0:(AY&&onTheHeap (Value.builtin "BaseException.__getattribute__"))=AY:=rfl;have hx2:(Value.builtin "BaseException.__getattribute__" == Value.builtin "object.__getattribute__")=AY:=by decide +kernel
 have hx1:(onTheHeap (Value.ref C)&&Value.builtin "BaseException.__getattribute__" == Value.builtin "object.__getattribute__")=AY:=by rw[hx2];rfl
 unfold getAttr? getAttrBy?;refine Qb (wpAny_mkText (Qb (wpAny_attempt ?_)))
 repeat (any_goals (first|assumption|(with_reducible refine Qk hx ?_;rw[hc])|with_reducible refine fg.at ?_|with_reducible refine fa.at ?_|wp_step))
 refine Js FB.ga.plain PySem.F.entry_bexc_ga (NS T AV hC hx hc (AD T AV hC fc hx hc ?_))
 repeat (any_goals (first|assumption|wp_step))
end
end L2
namespace L2
open PySem PySem.Spec PyProof.Rows
section
variable{prog:Ud}{w:World}{A:Around}{E:Ub->Uc->Prop}{h:Heap}{g:Array GenState}{d:Drawn}{t:Nat}{os:OsState}
variable{nm q qO q':Str}{C N D N' a:Ue}{bs bm bs' bm':A0}{hdct qS:Bool}{sn sn':List Str}{sub sub':A0}{ab ja:Bool}{col col':qb}{dd qv:qa}{k0 k1 k2 k3 k5 j0 j1 j2 j3 j5:A3}{newId newId':String}{o:Obj}{b:Bool}
theorem FS{Q:Ub->Uc->Prop}(T:Tail VB bm)(hC:h.get? C=O (excClassObj nm q C N bs bm hdct sn sub ab col dd k0 k1 k2 k3 k5 newId))(hD:h.get? D=O (excClassObj qO q' D N' bs' bm' qS sn' sub' ja col' qv j0 j1 j2 j3 j5 newId'))
  (fc:Kr (model prog w) C "__class__" (O (.builtin "object.__class__")) h) (fg:Kr (model prog w) C "__getattribute__" (O (.builtin "BaseException.__getattribute__")) h) (fa:Kr (model prog w) C "__getattr__" none h)
  (hx:h.get? a=O o) (hc:o.cls=.ref C) (hb:(Value.ref C::bm).contains (.ref D)=b) (hq:∀tk,Q (.bool b) ⟨h,g,d,tk,os⟩):Ui (model prog w) A (call (.builtin "isinstance") [.ref a,.ref D]) Q E ⟨h,g,d,t,os⟩:=by
 have hT:(⟨h,g,d,t,os⟩:Uc).TypeIs (.ref D) "type" :=⟨_,hD,rfl⟩
 have f2:=tc_sub;refine call_isinstance_of ?_ (λz=>nomatch z);unfold Builtin.«isinstance.nested»;refine Qb ?_;unfold typeOf;refine Qb (Qk hx (Qi ?_));rw[hc];by_cases e:C=D
 .subst e
  have hb1:b=AX:=by rw[←hb];simp
  subst hb1;rw[if_pos (by simp)];exact Qb (wpAny_rule (Qi (hq t)))
 .rw[if_neg (by simp[e])]
  refine Qb (Qb (Qk hD (Qi ?_)));rw[Qp (show(Value.type "type" == Value.type "type")=AX by decide)]
  k_delta "plainIsInstance"
  unfold isType isInstance
  repeat (first|(with_reducible refine Qk hx ?_;rw[hc])|with_reducible refine Qk hD ?_|with_reducible refine Qk hC ?_|(with_reducible refine QH hC ?_;rw[hb])|wp_step)
  cases b with
  |true=>wp_walk;exact hq t
  |false=>
   rw[Qz (by decide)];refine Qb (N9 PySem.F.excAttr_ValueError T hC fc fg fa hx hc ?_)
   repeat (first|with_reducible refine Qk hC ?_|(with_reducible refine QH hC ?_;rw[hb])|wp_step)
   exact hq _
theorem Gk{Q:Ub->Uc->Prop}{X:String}(T:Tail VB bm)(hC:h.get? C=O (excClassObj nm q C N bs bm hdct sn sub ab col dd k0 k1 k2 k3 k5 newId))(hX:typeOf (.type X)=pure (.type "type"))
  (fc:Kr (model prog w) C "__class__" (O (.builtin "object.__class__")) h) (fg:Kr (model prog w) C "__getattribute__" (O (.builtin "BaseException.__getattribute__")) h) (fa:Kr (model prog w) C "__getattr__" none h)
  (hx:h.get? a=O o) (hc:o.cls=.ref C) (hb:(Value.ref C::bm).contains (.type X)=b) (hq:∀tk,Q (.bool b) ⟨h,g,d,tk,os⟩):Ui (model prog w) A (call (.builtin "isinstance") [.ref a,.type X]) Q E ⟨h,g,d,t,os⟩:=by
 refine call_isinstance_of ?_ (λz=>nomatch z);unfold Builtin.«isinstance.nested»;refine Qb ?_;have ty:∀{M:Model}{A:Around}{Q:Ub->Uc->Prop}{E:Ub->Uc->Prop},Q (.ref C) ⟨h,g,d,t,os⟩->Ui M A (typeOf (.ref a)) Q E ⟨h,g,d,t,os⟩:=λq=>by unfold typeOf;refine Qb (Qk hx (Qi ?_));rw[hc];exact q
 refine ty ?_;rw[if_neg (by simp)];refine Qb (wpAny_of_eq hX ?_);rw[Qp (show(Value.type "type" == Value.type "type")=AX by decide)]
 k_delta "plainIsInstance"
 unfold isType isInstance
 repeat (first|(with_reducible refine Qk hx ?_;rw[hc])|with_reducible refine Qk hC ?_|(with_reducible refine QH hC ?_;rw[hb])|wp_step)
 cases b with
 |true=>wp_walk;exact hq t
 |false=>
  rw[Qz (by decide)];refine Qb (N9 PySem.F.excAttr_ValueError T hC fc fg fa hx hc ?_)
  repeat (first|with_reducible refine Qk hC ?_|(with_reducible refine QH hC ?_;rw[hb])|wp_step)
  exact hq _
end
noncomputable def rIsX(KC:Ue->A0->Prop):List V->Hp->VK->Prop:=λxs H Q=>∃a C dd bm fr c b,xs=[.ref a,c]/\KC C bm/\H a=O (.ext (XO fr a C dd)) /\
 ((∃D bm',c=.ref D/\KC D bm'/\(Value.ref C::bm).contains (.ref D)=b) ∨ ∃T,c=.ty T/\typeOf (.type T)=pure (.type "type")/\(Value.ref C::bm).contains (.type T)=b)/\Q (.bl b) H
theorem Rk{X:Cx}{KC:Ue->A0->Prop}(hcls:∀C bm,KC C bm->∃fI,XCls (model X.prog X.w) X.base C bm fI):ZZ X (.builtin "isinstance") (rIsX KC):=by
 rintro pins s σ H xs us Q I r ⟨a,C,dd,bm,fr,c,b,rfl,kc,hx,hD,q⟩;cases r with
 |cons ra r=>
 cases r with
 |cons rc r=>
 cases r;have ra':_=Value.ref a:=ra;subst ra';obtain⟨fI,XC⟩:=hcls C bm kc;obtain⟨nm,qn,N,bs,sn,sub,ab,col,jB,k0,k1,k2,k3,k5,hC⟩:=XC.obj;obtain⟨⟨vs,sl,ga,_⟩,_,_⟩:=I.hok a _ hx;obtain⟨hp,g,d,tk,os⟩:=s;rcases hD with ⟨D,bm',rfl,kd,hb⟩|⟨T,rfl,hT,hb⟩
 .have rc':_=Value.ref D:=rc
  subst rc';obtain⟨fI',XD'⟩:=hcls D bm' kd;obtain⟨qO,qn',N',bs',sn',sub',ja,col',dd2,j0,j1,j2,j3,j5,qr⟩:=XD'.obj;exact FS XC.tail (I.bk _ _ hC) (I.bk _ _ qr) (XC.cl.keeps I.bk) (XC.ga.keeps I.bk) (XC.gh.keeps I.bk) ga AV hb λtk'=>⟨.bl b,H,I.tok tk',rfl,q⟩
 .have rc':_=Value.type T:=rc
  subst rc';exact Gk XC.tail (I.bk _ _ hC) hT (XC.cl.keeps I.bk) (XC.ga.keeps I.bk) (XC.gh.keeps I.bk) ga AV hb λtk'=>⟨.bl b,H,I.tok tk',rfl,q⟩
theorem CW{CX:CXT}{P:Ud}{w:World}{K:Frag}{mg:Str->A3}{base:Heap}{N:List Str}{qual:Str}{scope:Scope}{f:Ue}{cd:Ub}{A:Around}{outer:List Env}{s:Uc}{H:Hp}{E:XK} :
  PassesOwn (model P w) (Ks CX P w K mg base N qual scope f cd A outer s H E).A (Ks CX P w K mg base N qual scope f cd A outer s H E).env (Ks CX P w K mg base N qual scope f cd A outer s H E).xe:=
 PassesOwn.leaving (Q₁:=λe s''=>CX outer H s E e s'')
noncomputable def Wi(KC:Ue->A0->Prop):Sp:=λvs H Q _=>∃a C dd bm x,vs=[.ref a,.str x]/\KC C bm/\H a=O (.ext (XO AX a C dd))/\Q .non H
noncomputable def Ri(KC:Ue->A0->Prop)(fs:List Str):Sp:=λvs H Q _=>∃a C bm us,vs=.ref a::us/\us.length=fs.length/\KC C bm/\H a=O (.ext (XO AX a C AW))/\(∀u∈us,∃y,FmtV u y/\y.length<=4000) /\
 ∀dx,H dx=AW->dx≠a->Q .non (upd (upd H a (.ext (XO AX a C (O dx)))) dx (.ext (XD dx (fs.zip us))))
noncomputable def K6(nm:Str):List Str:=if nm = "NoWishes" then ["part", "number"]else if nm = "NoAim" then ["part"]else if nm = "NoText" then ["row"]else []
noncomputable def Tr(K:Frag)(nm:Str):qa:=match PySem.W.nsIn K mainGlobals nm with|some (O (.ref C))=>O C|_=>AW
def NmAt(K:Frag)(nm:Str)(C:Ue):Prop:=∃o cd,K.lookup C=O o/\o.data=.cls cd/\cd.name=nm
structure ClsK(K:Frag)(nm:Str)(C:Ue)(bm:A0):Prop where
 ad:Tr K nm=O C
 nmd:NmAt K nm C
 up:nm = "DealError" /\ bm=VB∨nm ≠ "DealError" /\ ∃D,Tr K "DealError" = O D/\bm=.ref D::VB/\NmAt K "DealError" D
 cls:∀(M:Model)(h:Heap),K.In h->∃fI,XCls M h C bm fI
 fld:∀(M:Model)(h:Heap),K.In h->∀f∈(["part", "number", "row"]:List Str),Kr M C f AW h
noncomputable def KC(K:Frag):Ue->A0->Prop:=λC bm=>∃nm,ClsK K nm C bm
section
variable{K:Frag}{nm x:Str}{C D:Ue}{bm bm':A0}
theorem NmAt.ne(c:NmAt K nm C)(d:NmAt K x D)(h:x≠nm):C≠D:=λe=>by subst e;obtain⟨o,cd,h1,h2,h3⟩:=c;obtain⟨o',cd',g1,g2,g3⟩:=d;rw[h1]at g1;cases g1;rw[h2]at g2;cases g2;exact h (g3.symm.trans h3)
theorem ClsK.has(c:ClsK K nm C bm)(d:ClsK K x D bm'):(Value.ref C::bm).contains (.ref D)=(decide (x=nm) || decide (x = "DealError")):=by
 by_cases e:x=nm
 .subst e
  have:=c.ad.symm.trans d.ad;cases this;simp
 .have ne:=c.nmd.ne d.nmd e
  rw[Qy e,Bool.false_or];have h0:(Value.ref D==Value.ref C)=AY:=by simp[Ne.symm ne]
  rw[Q1,h0,Bool.false_or];by_cases e2:x = "DealError"
  .subst e2
   rcases c.up with ⟨z,_⟩|⟨_,D',g,rfl,_⟩
   .exact absurd z.symm e
   .have:=g.symm.trans d.ad
    cases this;simp
  .rw[Qy e2]
   rcases c.up with ⟨_,rfl⟩|⟨_,D',g,rfl,n⟩
   .rfl
   .have ne2:=n.ne d.nmd e2
    have h1:(Value.ref D==Value.ref D')=AY:=by simp[Ne.symm ne2]
    rw[Q1,h1,Bool.false_or];rfl
theorem ClsK.ty(c:ClsK K nm C bm)(T:String):(Value.ref C::bm).contains (.type T)=VB.contains (.type T):=by
 rcases c.up with ⟨_,rfl⟩|⟨_,D',g,rfl,n⟩
 .rfl
 .rfl
end
section
variable{X:Cx}{e:Ug}{st:Stmt}{sts:List Stmt}{t:TE}{ts:TS}
theorem PE.kin(h:X.K.In X.base->PE X e t):PE X e t:=λpins s σ H Q I q=>h I.ok.mod.kin pins s σ H Q I q
theorem PS.kin(h:X.K.In X.base->PS X st ts):PS X st ts:=λpins s σ H Q I q=>h I.ok.mod.kin pins s σ H Q I q
theorem PSs.kin(h:X.K.In X.base->PSs X sts ts):PSs X sts ts:=λpins s σ H Q I q=>h I.ok.mod.kin pins s σ H Q I q
theorem YG(k:X.K.In X.base):∀C bm,KC X.K C bm->∃fI,XCls (model X.prog X.w) X.base C bm fI:=λ_ _ ⟨_,c⟩=>c.cls _ _ k
end
def Pn(nm:Str)(us:List V):Prop:=(K6 nm=[]/\∃x,us=[.str x])∨(K6 nm≠[]/\us.length=(K6 nm).length/\∀u∈us,∃y,FmtV u y/\y.length<=4000)
def Pm(nm:Str)(C a:Ue)(us:List V)(H:Hp)(dd:qa)(H':Hp):Prop:=
 (K6 nm=[]/\dd=AW/\H'=H)∨(K6 nm≠[]/\us.length=(K6 nm).length/\∃dx,dd=O dx/\H dx=AW/\dx≠a/\H'=upd (upd H a (.ext (XO AX a C (O dx)))) dx (.ext (XD dx ((K6 nm).zip us))))
def TV(K:Frag)(nm:Str)(C:Ue)(sp:Sp):Prop:=∀a us H Q,H a=O (.ext (XO AX a C AW))->Pn nm us->(∀dd H',Pm nm C a us H dd H'->Q .non H')->sp (.ref a::us) H Q E0
def MkX(P:Ud)(w:World)(K:Frag)(mg:Str->A3)(base:Heap)(nm:Str)(k:Nat):Prop:=
 ∃C bm f fd ps sp,mg nm=O (.ref C)/\PySem.W.keepIn K (.ref C)=AX/\ClsK K nm C bm/\(∀(M:Model)(h:Heap),K.In h->XCls M h C bm f)/\FnOk P w K mg base CX0 k f fd ps sp/\Zf K fd ps []/\TV K nm C sp
theorem Dw{K:Frag}{nm:Str}{C:Ue}{bm:A0}(c:ClsK K nm C bm)(hf:K6 nm=[]):TV K nm C (Wi (KC K)):=λa us H Q h ar q=>by
 rcases ar with ⟨_,x,rfl⟩|⟨z,_⟩
 .exact⟨a,C,AW,bm,x,rfl,⟨nm,c⟩,h,q AW H (.inl ⟨hf,rfl,rfl⟩)⟩
 .exact absurd hf z
theorem Dv{K:Frag}{nm:Str}{C:Ue}{bm:A0}(c:ClsK K nm C bm)(hf:K6 nm≠[]):TV K nm C (Ri (KC K) (K6 nm)):=λa us H Q h ar q=>by
 rcases ar with ⟨z,_⟩|⟨_,hl,hu⟩
 .exact absurd z hf
 .exact⟨a,C,bm,us,rfl,hl,⟨nm,c⟩,h,hu,λdx hd hne=>q (O dx) _ (.inr ⟨hf,hl,dx,rfl,hd,hne,rfl⟩)⟩
end L2
namespace DL
open PySem PySem.Spec L2
open PyProof.Rows hiding St
abbrev D:=PyData
abbrev AZ:=List D
abbrev A6:=Option D
abbrev XW:=V->St->Hp->Prop
noncomputable abbrev KX0:XW:=λ_ _ _=>False
def XFs(G:Hp)(dd:qa)(fs:List Str)(vs:List V):Prop:=match dd with
 |none=>fs=[]/\vs=[]
 |some dx=>fs.length=vs.length/\G dx=O (.ext (XD dx (fs.zip vs)))
theorem XFs.mono{G G1:Hp}{dd:qa}{fs:List Str}{vs:List V}(e:Same G G1)(h:XFs G dd fs vs):XFs G1 dd fs vs:=by
 cases dd with
 |none=>exact h
 |some dx=>exact⟨h.1,e _ _ h.2⟩
noncomputable def kD:Key->D
 |.inl i=>.int i
 |.inr x=>.str x
noncomputable def tkD(k:List Key):D:=.tuple (k.map kD)
noncomputable def pdD(ks:List (List Key))(ds:AZ):List (D×D):=(.bool AX,.none)::(ks.map tkD).zip ds
mutual
inductive Rep(K:Frag)(G:Hp):V->D->Prop where
 |non:Rep K G .non .none
 |bl (b:Bool):Rep K G (.bl b) (.bool b)
 |int (i:Int):Rep K G (.int i) (.int i)
 |str (x:Str):Rep K G (.str x) (.str x)
 |lst {a:Ue} {vs:List V} {ds:AZ} (h:SqL K G a vs) (r:Reps K G vs ds):Rep K G (.ref a) (.list ds)
 |tup {a:Ue} {vs:List V} {ds:AZ} (h:SqT K G a vs) (r:Reps K G vs ds):Rep K G (.ref a) (.tuple ds)
 |dic {a:Ue} (h:G a=O (.dK [])):Rep K G (.ref a) (.dict [])
 |exc {a C:Ue} {dd:qa} {bm:A0} {nm:Str} {vs:List V} {ds:AZ} (c:ClsK K nm C bm) (h:G a=O (.ext (XO AY a C dd))) (hd:XFs G dd (K6 nm) vs) (r:Reps K G vs ds):Rep K G (.ref a) (.dict [(.none,.tuple [.str nm,.list ds])])
 |dct {a:Ue} {ks:List Key} {vs:List V} {ds:AZ} {kvs:List (D×D)} (e:kvs=(ks.map kD).zip ds) (hne:ks≠[]) (hl:ks.length=ds.length) (h:G a=O (.dK (ks.zip vs))) (r:Reps K G vs ds):Rep K G (.ref a) (.dict kvs)
 |dtt {a:Ue} {o:Obj} {ks:List (List Key)} {vs:List V} {ds:AZ} {kvs:List (D×D)} (e:kvs=pdD ks ds) (hl:ks.length=ds.length) (h:G a=O (.frz o (.dT (ks.zip vs)))) (r:Reps K G vs ds):Rep K G (.ref a) (.dict kvs)
inductive Reps(K:Frag)(G:Hp):List V->AZ->Prop where
 |nil:Reps K G [] []
 |cons {v:V} {d:D} {vs:List V} {ds:AZ} (h:Rep K G v d) (t:Reps K G vs ds):Reps K G (v::vs) (d::ds)
end
variable{K:Frag}{B G0 G G1 G2 H H1 H2:Hp}
theorem ZX{a:Ue}{xs:List V}(e:Same G G1)(h:SqT K G a xs):SqT K G1 a xs:=by
 rcases h with (h|⟨o,h⟩)|h
 .exact .inl (.inl (e _ _ h))
 .exact .inl (.inr ⟨o,e _ _ h⟩)
 .exact .inr h
theorem Rep.mono(e:Same G G1){v:V}{d:D}(r:Rep K G v d):Rep K G1 v d:=Rep.rec (motive_1:=λv d _=>Rep K G1 v d) (motive_2:=λvs ds _=>Reps K G1 vs ds) .non .bl .int .str (λh _ r=>.lst (e.seq h) r) (λh _ r=>.tup (ZX e h) r) (λh=>.dic (e _ _ h)) (λc h hd _ r=>.exc c (e _ _ h) (hd.mono e) r) (λz n l h _ r=>.dct z n l (e _ _ h) r) (λz l h _ r=>.dtt z l (e _ _ h) r) .nil (λ_ _=>.cons) r
theorem Reps.mono(e:Same G G1){vs:List V}{ds:AZ}(r:Reps K G vs ds):Reps K G1 vs ds:=Reps.rec (motive_1:=λv d _=>Rep K G1 v d) (motive_2:=λvs ds _=>Reps K G1 vs ds) .non .bl .int .str (λh _ r=>.lst (e.seq h) r) (λh _ r=>.tup (ZX e h) r) (λh=>.dic (e _ _ h)) (λc h hd _ r=>.exc c (e _ _ h) (hd.mono e) r) (λz n l h _ r=>.dct z n l (e _ _ h) r) (λz l h _ r=>.dtt z l (e _ _ h) r) .nil (λ_ _=>.cons) r
theorem CV{ks:List Key}{ds:AZ}{d:D}{r:List (D×D)}(e:(.none,d)::r=(ks.map kD).zip ds):False:=by
 cases ks with
 |nil=>cases e
 |cons k ks=>
  cases ds with
  |nil=>cases e
  |cons d ds=>
   rw[QN,JV]at e;injection e with e1 _;injection e1 with e2 _
   cases k<;>cases e2
section
variable{v:V}{vs ws:List V}{ds es:AZ}
theorem Rep.bl_inv{b:Bool}(h:Rep K G v (.bool b)):v=.bl b:=by cases h;rfl
theorem Rep.int_inv{i:Int}(h:Rep K G v (.int i)):v=.int i:=by cases h;rfl
theorem Rep.str_inv{x:Str}(h:Rep K G v (.str x)):v=.str x:=by cases h;rfl
theorem Rep.lst_inv(h:Rep K G v (.list ds)):∃a vs,v=.ref a/\SqL K G a vs/\Reps K G vs ds:=by
 cases h with
 |lst h r=>exact⟨_,_,rfl,h,r⟩
theorem Rep.tup_inv(h:Rep K G v (.tuple ds)):∃a vs,v=.ref a/\SqT K G a vs/\Reps K G vs ds:=by
 cases h with
 |tup h r=>exact⟨_,_,rfl,h,r⟩
theorem Rep.exc_inv{d:D}(h:Rep K G v (.dict [(.none,d)])):∃a C dd bm nm vs ds,v=.ref a/\d=.tuple [.str nm,.list ds]/\ClsK K nm C bm/\G a=O (.ext (XO AY a C dd))/\XFs G dd (K6 nm) vs/\Reps K G vs ds:=by
 cases h with
 |exc c h hd r=>exact⟨_,_,_,_,_,_,_,rfl,rfl,c,h,hd,r⟩
 |dct e _ _ _ _=>exact(CV e).elim
 |dtt e _ _ _=>exact nomatch (Prod.mk.inj (List.cons.inj e).1).1
theorem Reps.length:∀{vs:List V}{ds:AZ},Reps K G vs ds->vs.length=ds.length
 |_,_,.nil=>rfl
 |_,_,.cons _ t=>by rw[QK,QK,Reps.length t]
theorem Reps.get:∀{vs:List V}{ds:AZ}{i:Nat}{d:D},Reps K G vs ds->ds[i]?=O d->∃v,vs[i]?=O v/\Rep K G v d
 |_,_,_,_,.nil,e=>by simp at e
 |_,_,0,_,.cons h _,e=>by simp at e;subst e;exact⟨_,rfl,h⟩
 |_,_,i+1,d,.cons _ t,e=>by obtain⟨u,h1,h2⟩:=Reps.get (i:=i) (d:=d) t (by simpa using e);exact⟨u,by simpa using h1,h2⟩
theorem Reps.append:∀{vs ws:List V}{ds es:AZ},Reps K G vs ds->Reps K G ws es->Reps K G (vs++ws) (ds++es)
 |_,_,_,_,.nil,s=>s
 |_,_,_,_,.cons r t,s=>.cons r (Reps.append t s)
theorem Reps.take:∀{vs:List V}{ds:AZ}(n:Nat),Reps K G vs ds->Reps K G (vs.take n) (ds.take n)
 |_,_,0,_=>by rw[List.take_zero,List.take_zero];exact .nil
 |_,_,_+1,.nil=>.nil
 |_,_,n+1,.cons r t=>.cons r (Reps.take n t)
theorem Reps.drop:∀{vs:List V}{ds:AZ}(n:Nat),Reps K G vs ds->Reps K G (vs.drop n) (ds.drop n)
 |_,_,0,r=>r
 |_,_,_+1,.nil=>.nil
 |_,_,n+1,.cons _ t=>Reps.drop n t
theorem Reps.reverse:∀{vs:List V}{ds:AZ},Reps K G vs ds->Reps K G vs.reverse ds.reverse
 |_,_,.nil=>.nil
 |_,_,.cons r t=>by rw[JL,JL];exact Reps.append (Reps.reverse t) (.cons r .nil)
theorem Reps.set{v:V}{d:D}(r:Rep K G v d):∀{vs:List V}{ds:AZ}(i:Nat),Reps K G vs ds->Reps K G (vs.set i v) (ds.set i d)
 |_,_,_,.nil=>.nil
 |_,_,0,.cons _ t=>.cons r t
 |_,_,i+1,.cons q t=>.cons q (Reps.set r i t)
theorem Reps.ints:∀(ns:A1),Reps K G (ns.map V.int) (ns.map int)
 |[]=>.nil
 |n::ns=>.cons (.int n) (Reps.ints ns)
end
inductive MO where
 |l (vs:List V)|k (kvs:List (Key×V))|t (kvs:List (List Key×V))|s (S:Int->Bool) (n:Nat)
noncomputable def MO.ho:MO->HO
 |.l vs=>.lst vs
 |.k kvs=>.dK kvs
 |.t kvs=>.dT kvs
 |.s S n=>.set S n
structure Ext(G H G' H':Hp):Prop where
 h:Same H H'
 g:Same G G'
 gh:Same G' H'
 np:∀a(u:MO),H a=O u.ho->G a=AW->G' a=AW
theorem Ext.refl(e:Same G H):Ext G H G H:=⟨.refl _,.refl _,e,λ_ _ _ q=>q⟩
theorem Ext.trans{G' H' G'' H'':Hp}(a:Ext G H G' H')(b:Ext G' H' G'' H''):Ext G H G'' H'':=
 ⟨a.h.trans b.h,a.g.trans b.g,b.gh,λx o e q=>b.np x o (a.h x _ e) (a.np x o e q)⟩
theorem KN{p:Ue}{o:HO}(h:H p=AW):Same H (upd H p o):=λb u e=>by rw[UW (ZE e h)];exact e
theorem Ext.new{p:Ue}{o:HO}(e:Same G H)(h:H p=AW):Ext G H (upd G p o) (upd H p o):=by
 have hg:G p=AW:=e.free h;refine⟨KN h,KN hg,λb u q=>?_,λa u q n=>?_⟩
 .by_cases z:b=p
  .subst z;rw[U7]at q⊢;exact q
  .rw[UW z]at q⊢;exact e b u q
 .rw[UW (ZE q h)];exact n
theorem Ext.hid{p:Ue}{o:HO}(e:Same G H)(h:H p=AW):Ext G H G (upd H p o):=
 ⟨KN h,.refl _,e.trans (KN h),λ_ _ _ n=>n⟩
inductive Pat where
 |leaf|lst (p:Pat)|tup (ps:List Pat)|dic
mutual
inductive RepO(K:Frag)(G H:Hp):Pat->V->D->A5->Prop where
 |leaf {v:V} {d:D} (r:Rep K G v d):RepO K G H .leaf v d []
 |lst {p:Pat} {a:Ue} {vs:List V} {ds:AZ} {fp:A5} (h:H a=O (.lst vs)) (r:RepOl K G H p vs ds fp):RepO K G H (.lst p) (.ref a) (.list ds) (a::fp)
 |tup {ps:List Pat} {a:Ue} {vs:List V} {ds:AZ} {fp:A5} (h:H a=O (.tup vs)) (r:RepOs K G H ps vs ds fp):RepO K G H (.tup ps) (.ref a) (.tuple ds) fp
 |dic {a:Ue} {ks:List Key} {vs:List V} {ds:AZ} {kvs:List (D×D)} (e:kvs=(ks.map kD).zip ds) (hl:ks.length=ds.length) (h:H a=O (.dK (ks.zip vs))) (r:Reps K G vs ds):RepO K G H .dic (.ref a) (.dict kvs) [a]
inductive RepOl(K:Frag)(G H:Hp):Pat->List V->AZ->A5->Prop where
 |nil {p:Pat}:RepOl K G H p [] [] []
 |cons {p:Pat} {v:V} {d:D} {vs:List V} {ds:AZ} {f1 f2:A5} (h:RepO K G H p v d f1) (t:RepOl K G H p vs ds f2):RepOl K G H p (v::vs) (d::ds) (f1++f2)
inductive RepOs(K:Frag)(G H:Hp):List Pat->List V->AZ->A5->Prop where
 |nil:RepOs K G H [] [] [] []
 |cons {p:Pat} {ps:List Pat} {v:V} {d:D} {vs:List V} {ds:AZ} {f1 f2:A5} (h:RepO K G H p v d f1) (t:RepOs K G H ps vs ds f2):RepOs K G H (p::ps) (v::vs) (d::ds) (f1++f2)
end
def ZB(K:Frag)(G H:Hp)(M1:Pat->V->D->A5->Prop)(M2:Pat->List V->AZ->A5->Prop)(M3:List Pat->List V->AZ->A5->Prop):Prop:=
 (∀{p v d fp},RepO K G H p v d fp->M1 p v d fp)/\(∀{p vs ds fp},RepOl K G H p vs ds fp->M2 p vs ds fp)/\∀{ps vs ds fp},RepOs K G H ps vs ds fp->M3 ps vs ds fp
theorem RepO.ind3{M1:Pat->V->D->A5->Prop}{M2:Pat->List V->AZ->A5->Prop}{M3:List Pat->List V->AZ->A5->Prop}
  (c1:∀{v d},Rep K G v d->M1 .leaf v d []) (c2:∀{p a vs ds fp},H a=O (.lst vs)->M2 p vs ds fp->M1 (.lst p) (.ref a) (.list ds) (a::fp)) (c3:∀{ps a vs ds fp},H a=O (.tup vs)->M3 ps vs ds fp->M1 (.tup ps) (.ref a) (.tuple ds) fp)
  (c4:∀{a:Ue}{ks:List Key}{vs:List V}{ds:AZ}{kvs:List (D×D)},kvs=(ks.map kD).zip ds->ks.length=ds.length->H a=O (.dK (ks.zip vs))->Reps K G vs ds->M1 .dic (.ref a) (.dict kvs) [a])
  (c5:∀{p},M2 p [] [] []) (c6:∀{p v d vs ds f1 f2},M1 p v d f1->M2 p vs ds f2->M2 p (v::vs) (d::ds) (f1++f2)) (c7:M3 [] [] [] []) (c8:∀{p ps v d vs ds f1 f2},M1 p v d f1->M3 ps vs ds f2->M3 (p::ps) (v::vs) (d::ds) (f1++f2)) :
  ZB K G H M1 M2 M3:=
 ⟨λh=>RepO.rec (motive_1:=λp v d fp _=>M1 p v d fp) (motive_2:=λp v d fp _=>M2 p v d fp) (motive_3:=λp v d fp _=>M3 p v d fp) c1 (λh _=>c2 h) (λh _=>c3 h) c4 c5 (λ_ _=>c6) c7 (λ_ _=>c8) h,
  λh=>RepOl.rec (motive_1:=λp v d fp _=>M1 p v d fp) (motive_2:=λp v d fp _=>M2 p v d fp) (motive_3:=λp v d fp _=>M3 p v d fp) c1 (λh _=>c2 h) (λh _=>c3 h) c4 c5 (λ_ _=>c6) c7 (λ_ _=>c8) h,
  λh=>RepOs.rec (motive_1:=λp v d fp _=>M1 p v d fp) (motive_2:=λp v d fp _=>M2 p v d fp) (motive_3:=λp v d fp _=>M3 p v d fp) c1 (λh _=>c2 h) (λh _=>c3 h) c4 c5 (λ_ _=>c6) c7 (λ_ _=>c8) h⟩
theorem RepO.mono3(sg:Same G G1)(sh:Same H H1):ZB K G H (RepO K G1 H1) (RepOl K G1 H1) (RepOs K G1 H1):=
 RepO.ind3 (λr=>.leaf (r.mono sg)) (λh r=>.lst (sh _ _ h) r) (λh r=>.tup (sh _ _ h) r) (λe hl h r=>.dic e hl (sh _ _ h) (r.mono sg)) .nil .cons .nil .cons
theorem RepO.mono(sg:Same G G1)(sh:Same H H1){p:Pat}{v:V}{d:D}{fp:A5}(r:RepO K G H p v d fp):RepO K G1 H1 p v d fp:=(RepO.mono3 sg sh).1 r
theorem RepOl.mono(sg:Same G G1)(sh:Same H H1){p:Pat}{v:List V}{d:AZ}{fp:A5}(r:RepOl K G H p v d fp):RepOl K G1 H1 p v d fp:=(RepO.mono3 sg sh).2.1 r
theorem RepOs.mono(sg:Same G G1)(sh:Same H H1){p:List Pat}{v:List V}{d:AZ}{fp:A5}(r:RepOs K G H p v d fp):RepOs K G1 H1 p v d fp:=(RepO.mono3 sg sh).2.2 r
theorem RepO.upd3{a:Ue}{o:HO}(nt:∀vs,H a≠O (.tup vs)):ZB K G H (λp v d fp=>a∉fp->RepO K G (upd H a o) p v d fp) (λp v d fp=>a∉fp->RepOl K G (upd H a o) p v d fp) (λp v d fp=>a∉fp->RepOs K G (upd H a o) p v d fp):=
 RepO.ind3
 (λr _=>.leaf r) (λh r n=>.lst (by rw[UW (λz=>n (by rw[z];exact Qg))];exact h) (r λz=>n (Qj _ z))) (λh r n=>.tup (by rw[UW (λz=>by subst z;exact nt _ h)];exact h) (r n))
 (λe hl h r n=>.dic e hl (by rw[UW (λz=>n (by rw[z];exact Qg))];exact h) r) (λ_=>.nil) (λh t n=>.cons (h λz=>n (Qu _ z)) (t λz=>n (Qo _ z))) (λ_=>.nil) (λh t n=>.cons (h λz=>n (Qu _ z)) (t λz=>n (Qo _ z)))
theorem RepO.upd{a:Ue}{o:HO}(nt:∀vs,H a≠O (.tup vs)){p:Pat}{v:V}{d:D}{fp:A5}(r:RepO K G H p v d fp)(n:a∉fp):RepO K G (upd H a o) p v d fp:=(RepO.upd3 nt).1 r n
theorem RepOl.upd{a:Ue}{o:HO}(nt:∀vs,H a≠O (.tup vs)){p:Pat}{v:List V}{d:AZ}{fp:A5}(r:RepOl K G H p v d fp)(n:a∉fp):RepOl K G (upd H a o) p v d fp:=(RepO.upd3 nt).2.1 r n
theorem RepOs.upd{a:Ue}{o:HO}(nt:∀vs,H a≠O (.tup vs)){p:List Pat}{v:List V}{d:AZ}{fp:A5}(r:RepOs K G H p v d fp)(n:a∉fp):RepOs K G (upd H a o) p v d fp:=(RepO.upd3 nt).2.2 r n
theorem RepO.rep3(gh:Same G H):ZB K G H (λ_ v d _=>Rep K H v d) (λ_ v d _=>Reps K H v d) (λ_ v d _=>Reps K H v d):=
 RepO.ind3 (λr=>r.mono gh) (λh r=>.lst (SqL.of h) r) (λh r=>.tup (SqT.of h) r)
 (λ{a ks vs ds kvs} e hl h r=>by
  cases ks with
  |nil=>subst e;exact .dic h
  |cons k ks=>exact .dct e (λz=>by cases z) hl h (r.mono gh)) .nil .cons .nil .cons
theorem RepO.rep(gh:Same G H){p:Pat}{v:V}{d:D}{fp:A5}(r:RepO K G H p v d fp):Rep K H v d:=(RepO.rep3 gh).1 r
theorem RepO.isl3:ZB K G H (λ_ _ _ fp=>∀a∈fp,∃u:MO,H a=O u.ho) (λ_ _ _ fp=>∀a∈fp,∃u:MO,H a=O u.ho) (λ_ _ _ fp=>∀a∈fp,∃u:MO,H a=O u.ho):=
 RepO.ind3 (λ_ a m=>by cases m)
 (λh r b m=>(QM.mp m).elim (λe=>⟨.l _,e ▸ h⟩) (r b)) (λ_ r=>r) (λ_ _ h _ b m=>⟨.k _,QL.mp m ▸ h⟩) (λa m=>by cases m) (λh t b m=>(QE.mp m).elim (h b) (t b)) (λa m=>by cases m) (λh t b m=>(QE.mp m).elim (h b) (t b))
theorem RepO.isl{p:Pat}{v:V}{d:D}{fp:A5}(r:RepO K G H p v d fp):∀a∈fp,∃u:MO,H a=O u.ho:=RepO.isl3.1 r
theorem RepOl.isl{p:Pat}{v:List V}{d:AZ}{fp:A5}(r:RepOl K G H p v d fp):∀a∈fp,∃u:MO,H a=O u.ho:=RepO.isl3.2.1 r
theorem RepOs.isl{p:List Pat}{v:List V}{d:AZ}{fp:A5}(r:RepOs K G H p v d fp):∀a∈fp,∃u:MO,H a=O u.ho:=RepO.isl3.2.2 r
theorem RepO.uniq3(sh:Same H H1):ZB K G H (λp v _ fp=>∀d' fp',RepO K G1 H1 p v d' fp'->fp=fp') (λp v _ fp=>∀d' fp',RepOl K G1 H1 p v d' fp'->fp=fp') (λp v _ fp=>∀d' fp',RepOs K G1 H1 p v d' fp'->fp=fp'):=
 RepO.ind3
 (λ_ d' fp' h=>by cases h;rfl)
 (λh r d' fp' h'=>by
  cases h' with
  |lst h2 r2=>have e:=sh _ _ h;rw[h2]at e;cases e;rw[r _ _ r2])
 (λh r d' fp' h'=>by
  cases h' with
  |tup h2 r2=>have e:=sh _ _ h;rw[h2]at e;cases e;exact r _ _ r2)
 (λ_ _ _ _ d' fp' h=>by cases h;rfl) (λd' fp' h=>by cases h;rfl)
 (λh t d' fp' h'=>by
  cases h' with
  |cons h2 t2=>rw[h _ _ h2,t _ _ t2])
 (λd' fp' h=>by cases h;rfl)
 (λh t d' fp' h'=>by
  cases h' with
  |cons h2 t2=>rw[h _ _ h2,t _ _ t2])
theorem RepO.uniq(sh:Same H H1){p:Pat}{v:V}{d d':D}{fp fp':A5}(r:RepO K G H p v d fp)(r':RepO K G1 H1 p v d' fp'):fp=fp':=(RepO.uniq3 sh).1 r _ _ r'
inductive Sl where
 |pub (d:D)|own (ds:AZ)|deep (p:Pat) (d:D)
abbrev UB:=List (Option Sl)
abbrev A7:=Option UB
def DpOk(K:Frag)(B G H:Hp)(σ:St)(ρ:UB):Prop:=∃ω:Ue->Nat,
 (∀(i:Nat) p d,ρ[i]?=O (O (.deep p d))->∃v fp,σ[i]?=O (O v)/\RepO K G H p v d fp/\fp.Nodup/\∀a∈fp,B a=AW/\G a=AW/\ω a=i) /\
 (∀(i:Nat) ds a,ρ[i]?=O (O (.own ds))->σ[i]?=O (O (.ref a))->ω a=i)
theorem DpOk.of{σ:St}{ρ:UB}(h1:∀(i:Nat) p d,ρ[i]?=O (O (.deep p d))->False)(h2:∀(i:Nat) ds,ρ[i]?=O (O (.own ds))->False):DpOk K B G H σ ρ:=
 ⟨λ_=>0,λi p d q=>(h1 i p d q).elim,λi ds a q=>(h2 i ds q).elim⟩
theorem DpOk.map{B1:Hp}{σ σ1:St}{ρ ρ1:UB}(k:DpOk K B G H σ ρ)
  (h1:∀(i:Nat) p d,ρ1[i]?=O (O (.deep p d))->ρ[i]?=O (O (.deep p d))/\σ1[i]?=σ[i]?)
  (h2:∀(i:Nat) ds,ρ1[i]?=O (O (.own ds))->∃es,ρ[i]?=O (O (.own es))/\σ1[i]?=σ[i]?)
  (h3:∀(i:Nat) p d v fp,ρ[i]?=O (O (.deep p d))->σ[i]?=O (O v)->RepO K G H p v d fp->(∀a∈fp,B a=AW/\G a=AW)->(∀(j:Nat) ds a,ρ[j]?=O (O (.own ds))->σ[j]?=O (O (.ref a))->a∉fp)->RepO K G1 H1 p v d fp/\∀a∈fp,B1 a=AW/\G1 a=AW):DpOk K B1 G1 H1 σ1 ρ1:=by
 obtain⟨ω,k1,k2⟩:=k;refine⟨ω,λi p d q=>?_,λi ds a q s=>?_⟩
 .obtain⟨q1,e1⟩:=h1 i p d q
  obtain⟨v,fp,s,r,n,w⟩:=k1 i p d q1;obtain⟨r1,w1⟩:=h3 i p d v fp q1 s r (λa m=>⟨(w a m).1,(w a m).2.1⟩) λj ds a qj sj m=>by have z1:=k2 j ds a qj sj;have z2:=(w a m).2.2;rw[z1]at z2;subst z2;rw[q1]at qj;cases qj
  exact⟨v,fp,by rw[e1];exact s,r1,n,λa m=>⟨(w1 a m).1,(w1 a m).2,(w a m).2.2⟩⟩
 .obtain⟨es,q1,e1⟩:=h2 i ds q
  rw[e1]at s;exact k2 i es a q1 s
structure EOk(K:Frag)(B G0 G H:Hp)(σ:St)(ρ:UB):Prop where
 bh:Same B H
 gh:Same G H
 g0:Same G0 G
 np:∀a(u:MO),B a=O u.ho->G0 a=AW->G a=AW
 len:ρ.length=σ.length
 pub:∀(i:Nat) d,ρ[i]?=O (O (.pub d))->∃v,σ[i]?=O (O v)/\Rep K G v d
 own:∀(i:Nat) ds,ρ[i]?=O (O (.own ds))->∃a vs,σ[i]?=O (O (.ref a))/\B a=AW/\G a=AW/\H a=O (.lst vs)/\Reps K G vs ds
 sep:∀(i j:Nat) a ds es,ρ[i]?=O (O (.own ds))->ρ[j]?=O (O (.own es))->σ[i]?=O (O (.ref a))->σ[j]?=O (O (.ref a))->i=j
 dp:DpOk K B G H σ ρ
theorem EOk.ext{G' H':Hp}{σ:St}{ρ:UB}(k:EOk K B G0 G H σ ρ)(e:Ext G H G' H'):EOk K B G0 G' H' σ ρ where
 bh:=k.bh.trans e.h
 gh:=e.gh
 g0:=k.g0.trans e.g
 np:=λa o q n=>e.np a o (k.bh a _ q) (k.np a o q n)
 len:=k.len
 pub:=λi d q=>let ⟨v,h1,h2⟩:=k.pub i d q;⟨v,h1,h2.mono e.g⟩
 own:=λi ds q=>let ⟨a,vs,h1,h2,h3,h4,h5⟩:=k.own i ds q;⟨a,vs,h1,h2,e.np a (.l _) h4 h3,e.h a _ h4,h5.mono e.g⟩
 sep:=k.sep
 dp:=k.dp.map (λ_ _ _ q=>⟨q,rfl⟩) (λ_ ds q=>⟨ds,q,rfl⟩) λi p d v fp q s r w n=>⟨r.mono e.g e.h,λa m=>let ⟨_,hl⟩:=r.isl a m;⟨(w a m).1,e.np a _ hl (w a m).2⟩⟩
theorem EOk.publish{σ:St}{ρ:UB}{i:Nat}{ds:AZ}(k:EOk K B G0 G H σ ρ)(h:ρ[i]?=O (O (.own ds))) :
  ∃a G',σ[i]?=O (O (.ref a))/\Same G G'/\Rep K G' (.ref a) (.list ds)/\EOk K B G0 G' H σ (ρ.set i (O (.pub (.list ds)))):=by
 obtain⟨a,vs,h1,h2,h3,h4,h5⟩:=k.own i ds h;have sg:Same G (upd G a (.lst vs)):=KN h3;have hr:Rep K (upd G a (.lst vs)) (.ref a) (.list ds):=.lst (SqL.of U7) (h5.mono sg);refine⟨a,upd G a (.lst vs),h1,sg,hr,⟨k.bh,λb u q=>?_,k.g0.trans sg,λb o q n=>?_,by rw[QW];exact k.len,λj d q=>?_,λj es q=>?_,λj l c es fs q1 q2 s1 s2=>?_,?_⟩⟩
 .by_cases z:b=a
  .subst z;rw[U7]at q;cases q;exact h4
  .rw[UW z]at q;exact k.gh b u q
 .have z:b≠a:=λz=>by subst z;rw[h2]at q;cases q
  rw[UW z];exact k.np b o q n
 .by_cases z:i=j
  .subst z
   have hl:i<ρ.length:=(Qr.mp h).1;rw[QJ hl]at q;cases q;exact⟨.ref a,h1,hr⟩
  .rw[Ql z]at q
   obtain⟨v,g1,g2⟩:=k.pub j d q;exact⟨v,g1,g2.mono sg⟩
 .by_cases z:i=j
  .subst z
   have hl:i<ρ.length:=(Qr.mp h).1;rw[QJ hl]at q;cases q
  .rw[Ql z]at q
   obtain⟨b,ws,g1,g2,g3,g4,g5⟩:=k.own j es q;have zb:b≠a:=λe=>z (k.sep i j a ds es h q h1 (by rw[←e];exact g1))
   exact⟨b,ws,g1,g2,by rw[UW zb];exact g3,g4,g5.mono sg⟩
 .have nz:∀{m:Nat}{ts:AZ},(ρ.set i (O (Sl.pub (.list ds))))[m]?=O (O (.own ts))->ρ[m]?=O (O (.own ts)):=λ{m ts} q=>by
   by_cases z:i=m
   .subst z
    have hl:i<ρ.length:=(Qr.mp h).1;rw[QJ hl]at q;cases q
   .rw[Ql z]at q;exact q
  exact k.sep j l c es fs (nz q1) (nz q2) s1 s2
 .have hl:i<ρ.length:=(Qr.mp h).1
  have nz:∀{m:Nat}{s:Sl},(ρ.set i (O (Sl.pub (.list ds))))[m]?=O (O s)->(∃d,s=.pub d)∨ρ[m]?=O (O s):=λ{m s} q=>by
   by_cases z:i=m
   .subst z
    rw[QJ hl]at q;cases q;exact .inl ⟨_,rfl⟩
   .rw[Ql z]at q;exact .inr q
  refine k.dp.map (λm p d q=>?_) (λm es q=>?_) λm p d v fp q s r w n=>⟨r.mono sg (.refl _),λb mb=>⟨(w b mb).1,?_⟩⟩
  .rcases nz q with ⟨_,e⟩|q
   .cases e
   .exact⟨q,rfl⟩
  .rcases nz q with ⟨_,e⟩|q
   .cases e
   .exact⟨es,q,rfl⟩
  .rw[UW (λz=>by subst z;exact n i ds b h h1 mb)];exact(w b mb).2
inductive Res(α:Type) where
 |ok (a:α) (ρ:UB)|bad
noncomputable abbrev M(α:Type):=UB->Res α
noncomputable def UF{α:Type}(a:α):M α:=λρ=>.ok a ρ
noncomputable def UM{α:Type}(o:Option α):M α:=λρ=>match o with|some a=>.ok a ρ|none=>.bad
noncomputable def UN{α β:Type}(f:M α)(k:α->M β):M β:=λρ=>match f ρ with | .ok a ρ'=>k a ρ' | .bad=>.bad
section
variable(K:Frag)(B G0:Hp)
def aft{α γ:Type}(R:Hp->γ->α->Prop)(r:Res α)(G:Hp)(σ:St)(Q:γ->Hp->Prop):Prop:=
 match r with
 |.ok d ρ'=>∀v G' H',EOk K B G0 G' H' σ ρ'->Same G G'->R G' v d->Q v H'
 |.bad=>False
noncomputable def tM{α γ:Type}(R:Hp->γ->α->Prop)(f:M α):St->Hp->(γ->Hp->Prop)->Prop:=λσ H Q=>
 ∃G ρ,EOk K B G0 G H σ ρ/\aft K B G0 R (f ρ) G σ Q
noncomputable abbrev tD(f:M D):TE:=tM K B G0 (Rep K) f
noncomputable abbrev tDs(f:M AZ):TA:=tM K B G0 (Reps K) f
noncomputable abbrev tBo(f:M Bool):TT:=tM K B G0 (λ_ b c=>b=c) f
noncomputable abbrev tOi(f:M A9):TO:=tM K B G0 (λ_ b c=>b=c) f
end
section
variable{K:Frag}{B G0:Hp}{α β γ δ ε:Type}{R:Hp->γ->α->Prop}{S:Hp->δ->β->Prop}{T:Hp->ε->α->Prop}{σ:St}{H:Hp}
theorem aft.mono{r:Res α}{G G':Hp}{Q:γ->Hp->Prop}(e:Same G G')(h:aft K B G0 R r G σ Q):aft K B G0 R r G' σ Q:=by
 cases r with
 |ok d ρ=>exact λv G2 H2 k s q=>h v G2 H2 k (e.trans s) q
 |bad=>exact h
theorem aft.done{d:α}{ρ:UB}{G G' H H':Hp}{v:γ}{Q:γ->Hp->Prop}(h:aft K B G0 R (.ok d ρ) G σ Q)(k:EOk K B G0 G H σ ρ)(e:Ext G H G' H')(r:R G' v d):Q v H':=
 h v G' H' (k.ext e) e.g r
theorem aft.now{d:α}{ρ:UB}{G H:Hp}{v:γ}{Q:γ->Hp->Prop}(h:aft K B G0 R (.ok d ρ) G σ Q)(k:EOk K B G0 G H σ ρ)(r:R G v d):Q v H:=
 h v G H k (.refl _) r
theorem aft.opt{o:Option α}{ρ:UB}{G:Hp}{Q:γ->Hp->Prop}(h:aft K B G0 R (UM o ρ) G σ Q):∃d,o=O d/\aft K B G0 R (.ok d ρ) G σ Q:=by
 cases o with
 |none=>exact h.elim
 |some d=>exact⟨d,rfl,h⟩
theorem tM.bind{f:M α}{k:α->M β}{Q:δ->Hp->Prop}(h:tM K B G0 S (UN f k) σ H Q) :
  tM K B G0 R f σ H (λv H1=>∃G ρ d,EOk K B G0 G H1 σ ρ/\R G v d/\aft K B G0 S (k d ρ) G σ Q):=by
 obtain⟨G,ρ,e,a⟩:=h;refine⟨G,ρ,e,?_⟩;unfold UN at a;cases q:f ρ with
 |bad=>rw[q]at a;exact a.elim
 |ok d ρ1=>rw[q]at a;exact λv G' H' e' s r=>⟨G',ρ1,d,e',r,aft.mono s a⟩
theorem tM.bind2{α' γ':Type}{R':Hp->γ'->α'->Prop}{f:M α}{g:α->M α'}{k:α->α'->M β}{Q:δ->Hp->Prop}(mo:∀G G' v d,Same G G'->R G v d->R G' v d)
  (h:tM K B G0 S (UN f λx=>UN (g x) λy=>k x y) σ H Q) :
  tM K B G0 R f σ H (λv H1=>∃x,tM K B G0 R' (g x) σ H1 λu H2=>∃G ρ y,EOk K B G0 G H2 σ ρ/\R G v x/\R' G u y/\aft K B G0 S (k x y ρ) G σ Q):=by
 obtain⟨G,ρ,e,a⟩:=tM.bind (R:=R) h;refine⟨G,ρ,e,?_⟩;cases q:f ρ with
 |bad=>rw[q]at a;exact a.elim
 |ok d ρ1=>
  rw[q]at a;intro v G' H' e' s r;obtain⟨G2,ρ2,d2,e2,r2,a2⟩:=a v G' H' e' s r;refine⟨d2,G2,ρ2,e2,?_⟩;unfold UN at a2;cases q2:g d2 ρ2 with
  |bad=>rw[q2]at a2;exact a2.elim
  |ok d3 ρ3=>rw[q2]at a2;exact λu G3 H3 e3 s3 r3=>⟨G3,ρ3,d3,e3,mo _ _ _ _ s3 r2,r3,aft.mono s3 a2⟩
end
theorem Oq{K:Frag}(G G':Hp)(v:V)(d:D)(e:Same G G')(r:Rep K G v d):Rep K G' v d:=r.mono e
theorem tM.two{K:Frag}{B G0:Hp}{β δ:Type}{S:Hp->δ->β->Prop}{σ:St}{H:Hp}{f g:M D}{k:D->D->M β}{Q:δ->Hp->Prop}{P:V->V->Hp->Prop}
  (h:tM K B G0 S (UN f λx=>UN g λy=>k x y) σ H Q)
  (i:∀v u H2 G ρ x y,EOk K B G0 G H2 σ ρ->Rep K G v x->Rep K G u y->aft K B G0 S (k x y ρ) G σ Q->P v u H2) :
  tD K B G0 f σ H (λv H1=>tD K B G0 g σ H1 λu H2=>P v u H2):=by
 obtain⟨G,ρ,e,a⟩:=tM.bind2 (R:=Rep K) (R':=Rep K) Oq h;refine⟨G,ρ,e,?_⟩;cases q:f ρ with
 |bad=>rw[q]at a;exact a.elim
 |ok d ρ1=>
  rw[q]at a;intro v G' H' e' s r;obtain⟨x,G2,ρ2,e2,a2⟩:=a v G' H' e' s r;refine⟨G2,ρ2,e2,?_⟩;cases q2:g ρ2 with
  |bad=>rw[q2]at a2;exact a2.elim
  |ok d3 ρ3=>rw[q2]at a2;intro u G3 H3 e3 s3 r3;obtain⟨G4,ρ4,y,e4,r4,r5,a5⟩:=a2 u G3 H3 e3 s3 r3;exact i v u H3 G4 ρ4 x y e4 r4 r5 a5
theorem tM.one{K:Frag}{B G0:Hp}{α β γ δ:Type}{R:Hp->γ->α->Prop}{S:Hp->δ->β->Prop}{σ:St}{H:Hp}{f:M α}{k:α->M β}{Q:δ->Hp->Prop}{P:γ->Hp->Prop}
  (h:tM K B G0 S (UN f k) σ H Q) (i:∀v H2 G ρ x,EOk K B G0 G H2 σ ρ->R G v x->aft K B G0 S (k x ρ) G σ Q->P v H2):tM K B G0 R f σ H P:=by
 obtain⟨G,ρ,e,a⟩:=tM.bind (R:=R) h;refine⟨G,ρ,e,?_⟩;cases q:f ρ with
 |bad=>rw[q]at a;exact a.elim
 |ok d ρ1=>rw[q]at a;intro v G' H' e' s r;obtain⟨G2,ρ2,d2,e2,r2,a2⟩:=a v G' H' e' s r;exact i v H' G2 ρ2 d2 e2 r2 a2
section
variable{X:Cx}{B G0:Hp}{e a b:Ug}{pos:Pos}
theorem UY{t t':TE}(h:PE X e t)(i:∀σ H Q,t' σ H Q->t σ H Q):PE X e t':=λpins s σ H Q I q=>h pins s σ H Q I (i σ H Q q)
theorem ZK{t t':TT}(h:PT X e t)(i:∀σ H Q,t' σ H Q->t σ H Q):PT X e t':=λpins s σ H Q I q=>h pins s σ H Q I (i σ H Q q)
theorem paof{es:A4}{t t':TA}(h:PA X es t)(i:∀σ H Q,t' σ H Q->t σ H Q):PA X es t':=λps pins s σ H Q I q=>h ps pins s σ H Q I (i σ H Q q)
theorem poof{eo:Option Ug}{t t':TO}(h:PO X eo t)(i:∀σ H Q,t' σ H Q->t σ H Q):PO X eo t':=λpins s σ H Q I q=>h pins s σ H Q I (i σ H Q q)
theorem Kj{st:Stmt}{t t':TS}(h:PS X st t)(i:∀D σ H,t' D σ H->t D σ H):PS X st t':=λpins s σ H D I q=>h pins s σ H D I (i D σ H q)
theorem Wb{st:List Stmt}{t t':TS}(h:PSs X st t)(i:∀D σ H,t' D σ H->t D σ H):PSs X st t':=λpins s σ H D I q=>h pins s σ H D I (i D σ H q)
noncomputable def UC(i:Nat):M D:=λρ=>match ρ[i]? with
 |some (O (.pub d))=>.ok d ρ
 |some (O (.own ds))=>.ok (.list ds) (ρ.set i (O (.pub (.list ds))))
 |_=>.bad
theorem PF{i:Nat}(h:PE X e (Kd i)):PE X e (tD X.K B G0 (UC i)):=UY h λσ H Q ⟨G,ρ,k,a⟩=>by
 unfold UC at a;cases q:ρ[i]? with
 |none=>rw[q]at a;exact a.elim
 |some o=>
  cases o with
  |none=>rw[q]at a;exact a.elim
  |some sl=>
   cases sl with
   |deep _ _=>rw[q]at a;exact a.elim
   |pub d=>rw[q]at a;obtain⟨v,h1,h2⟩:=k.pub i d q;exact⟨v,h1,a.now k h2⟩
   |own ds=>rw[q]at a;obtain⟨ad,G',h1,h2,h3,h4⟩:=k.publish q;exact⟨.ref ad,h1,a (.ref ad) G' H h4 h2 h3⟩
theorem TU{v:V}{d:D}(h:PE X e (tC v))(r:∀G,Rep X.K G v d):PE X e (tD X.K B G0 (UF d)):=UY h λσ H Q ⟨G,ρ,k,a⟩=>a.now k (r G)
theorem Gj{i:Int}{j}:PE X (.Constant (.int i) j pos) (tD X.K B G0 (UF (.int i))):=TU V1 λ_=>.int i
theorem FR{i:Bool}{j}:PE X (.Constant (.bool i) j pos) (tD X.K B G0 (UF (.bool i))):=TU Hs λ_=>.bl i
theorem FQ{j}:PE X (.Constant .none j pos) (tD X.K B G0 (UF .none)):=TU HS λ_=>.non
theorem Gi{x:Str}{j}:PE X (.Constant (.str x) j pos) (tD X.K B G0 (UF (.str x))):=TU TY λ_=>.str x
noncomputable def UJ{β:Type}(op:D->D->Option β)(f g:M D):M β:=UN f λx=>UN g λy=>UM (op x y)
def OpD(X:Cx)(f:Ub->Ub->Sem Ub)(op:D->D->A6):Prop:=
 ∃r:R2,OpR X f r/\∀v u G H x y d Q,Same G H->Rep X.K G v x->Rep X.K G u y->op x y=O d->(∀w G' H',Ext G H G' H'->Rep X.K G' w d->Q w H')->r v u H Q
theorem Wv{op:Operator}{p:D->D->A6}{f g:M D}(o:OpD X (binaryOp op) p)(ha:PE X a (tD X.K B G0 f))(hb:PE X b (tD X.K B G0 g)):PE X (.BinOp a op b pos) (tD X.K B G0 (UJ p f g)):=by
 obtain⟨r,h,i⟩:=o;refine UY (Ph h ha hb) λσ H Q q=>?_;refine tM.two q λv u H2 G ρ x y k rx ry a=>?_
 obtain⟨d,e,a⟩:=a.opt;exact i v u G H2 x y d Q k.gh rx ry e λw G' H' ex rw=>a.done k ex rw
theorem OpD.or{f:Ub->Ub->Sem Ub}{p q:D->D->A6}(h:OpD X f p)(h':OpD X f q):OpD X f (λx y=>(p x y).orElse λ_=>q x y):=by
 obtain⟨r,h1,i1⟩:=h;obtain⟨r',h2,i2⟩:=h';refine⟨_,h1.or h2,λv u G H x y d Q s rx ry e k=>?_⟩;dsimp only at e;cases z:p x y with
 |some d'=>rw[z]at e;have e':d'=d:=Je e;subst e';exact .inl (i1 v u G H x y d' Q s rx ry z k)
 |none=>rw[z]at e;exact .inr (i2 v u G H x y d Q s rx ry e k)
noncomputable def oII(g:Int->Int->A6):D->D->A6
 |.int i,.int j=>g i j
 |_,_=>AW
theorem Op{g:Int->Int->A6}{x y d:D}(e:oII g x y=O d):∃i j,x=.int i/\y=.int j/\g i j=O d:=by
 unfold oII at e;split at e
 .exact⟨_,_,rfl,rfl,e⟩
 .cases e
theorem OpD.int{f:Ub->Ub->Sem Ub}{C:Int->Int->Prop}{g:Int->Int->V}{p:Int->Int->A6}(h:OpR X f (rI C g))(i:∀i j d,p i j=O d->C i j/\∀G,Rep X.K G (g i j) d):OpD X f (oII p):=by refine⟨_,h,λv u G H x y d Q s rx ry e k=>?_⟩;obtain⟨a,b,rfl,rfl,e⟩:=Op e;obtain⟨c,r⟩:=i a b d e;exact⟨a,b,rx.int_inv,ry.int_inv,c,k _ G H (.refl s) (r G)⟩
theorem OpD.int0{f:Ub->Ub->Sem Ub}{g:Int->Int->V}{p:Int->Int->D}(h:OpR X f (rI0 g))(i:∀i j G,Rep X.K G (g i j) (p i j)):OpD X f (oII λi j=>O (p i j)):=by refine⟨_,h,λv u G H x y d Q s rx ry e k=>?_⟩;obtain⟨a,b,rfl,rfl,e⟩:=Op e;cases e;exact⟨a,b,rx.int_inv,ry.int_inv,k _ G H (.refl s) (i a b G)⟩
end
section
variable{X:Cx}{B G0:Hp}{e a b c:Ug}{pos:Pos}
theorem Gh:OpD X (binaryOp .Add) (oII λi j=>O (.int (i+j))):=.int0 HG λ_ _ _=>.int _
theorem Gg:OpD X (binaryOp .Sub) (oII λi j=>O (.int (i-j))):=.int0 HF λ_ _ _=>.int _
noncomputable def YT(i j:Int):A6:=if(-(2 ^ 64)<i/\i<2 ^ 64)∨(-(2 ^ 64)<j/\j<2 ^ 64)then O (.int (i*j))else AW
theorem FP:OpD X (binaryOp .Mult) (oII YT):=.int HE λi j d h=>by
 unfold YT at h;split at h
 .rename_i c
  cases h;exact⟨c,λ_=>.int _⟩
 .cases h
noncomputable def XI(i j:Int):A6:=if 0<j then O (.int (i % j))else AW
theorem Ge:OpD X (binaryOp .Mod) (oII XI):=.int HD λi j d h=>by
 unfold XI at h;split at h
 .rename_i c
  cases h;exact⟨c,λ_=>.int _⟩
 .cases h
theorem Du:OpR X (binaryOp .FloorDiv) (rI (λi j=>0<j/\j<2 ^ 200) λi j=>.int (i / j)):=opI λi j _ _ _ _ _ hc q=>by
 have h1:(0:Int)<j:=hc.1;have h2:j<2 ^ 200:=hc.2;refine floordiv_int (by lia) (by rw[Int.fdiv_eq_ediv_of_nonneg i (by lia)];exact q) (.inl (PyProof.noPylong_of_log2 ?_));have h0:j.natAbs≠0:=by lia
 have:j.natAbs.log2<200:=(Nat.log2_lt h0).mpr (by lia)
 lia
noncomputable def XJ(i j:Int):A6:=if 0<j/\j<2 ^ 200 then O (.int (i / j))else AW
theorem Gd:OpD X (binaryOp .FloorDiv) (oII XJ):=.int Du λi j d h=>by
 unfold XJ at h;split at h
 .rename_i c
  cases h;exact⟨c,λ_=>.int _⟩
 .cases h
noncomputable def XH(i j:Int):A6:=if 0<=j/\j<=1000000/\i.natAbs<2 ^ 64 then O (.int (i ^ j.toNat))else AW
theorem Gc:OpD X (binaryOp .Pow) (oII XH):=.int HC λi j d h=>by
 unfold XH at h;split at h
 .rename_i c
  cases h;exact⟨c,λ_=>.int _⟩
 .cases h
theorem lim:(1000000:Nat)<=Uh:=by decide
noncomputable def Tq:D->D->A6
 |.str x,.str y=>if x.length+y.length<=1000000 then O (.str (x++y))else AW
 |_,_=>AW
theorem FO:OpD X (binaryOp .Add) Tq:=by
 refine⟨_,BI,λv u G H x y d Q s rx ry e k=>?_⟩;unfold Tq at e;split at e
 .split at e
  .rename_i c
   cases e;exact⟨_,_,rx.str_inv,ry.str_inv,Qt c lim,k _ G H (.refl s) (.str _)⟩
  .cases e
 .cases e
noncomputable def MN(K:Frag):R2:=λx y H Q=>∃l b xs zs,x=.ref l/\y=.ref b/\SqL K H l xs/\SqL K H b zs/\xs.length+zs.length<=Uh/\∀p,H p=AW->Q (.ref p) (upd H p (.lst (xs++zs)))
theorem Oo:OpR X (binaryOp .Add) (MN X.K):=by
 intro pins s σ H x y v u Q I rx ry h;obtain⟨l,b,xs,zs,rfl,rfl,hH,hB,hz,q⟩:=h;cases rx;cases ry;obtain⟨its,r,⟨⟨c1,d1,t1,s1⟩,n1,e1,jY,jX,jW⟩,z1⟩:=I.list hH;obtain⟨its2,r2,⟨⟨c2,d2,t2,s2⟩,n2,e2,ec2,ed2,et2⟩,z2⟩:=I.list hB;simp only at jY jX jW ec2 ed2 et2;subst jY jX jW ec2 ed2 et2;have hl:=r.length;have hl2:=r2.length;refine concat_meets ⟨_,e1,rfl⟩ ⟨_,e2,rfl⟩ noFill_list_add seq_list_add PySem.F.slot_list_add PySem.F.entry_list_add (PySem.F.args_list_add_2 _ _) (list_addW l b its.toArray its2.toArray n1 n2 AW AW s1 s2 (by rw[QT,QT];lia)) ⟨e1,e2,?_⟩;have ea:its.toArray++its2.toArray=(its++its2).toArray:=by simp
 rw[ea];exact⟨.ref _,_,I.lnew (t':=s.toks) (r.append r2) (by rw[Qh];lia),rfl,q _ I.fresh⟩
theorem MM(a:Int)(t:Tok)(l:Ue)(items:Array Ub)(n:Nat)(sl:Array A3) :
  Meets (Builtin.«int.__rmul__» ⟨[.int a t,.ref l],[]⟩) (λ_ R s=>s.heap.get? l=O {cls:=.type "list", dict:=AW,data:=.seq items n,slots:=sl}/\R (.ok (.ret Value.notImplemented)) s):=
 .of_wp λprog w A R s h=>by obtain⟨hp,g,d,tk,os⟩:=s;obtain⟨hl,h⟩:=h;wp_walk;exact⟨_,rfl,h⟩
theorem mulW(l:Ue)(items:Array Ub)(n:Nat)(x:Int)(u:Tok)(sl:Array A3)(hc0:¬(!Builtin.List.listFitsIndex x)=AX)(hc1:¬items.size*x.toNat > (2 ^ 63-1) / 8)(hc2:¬Builtin.List.listTooLong (items.size*x.toNat)=AX) :
  Meets (Builtin.«list.__mul__» ⟨[.ref l,.int x u],[]⟩) (λ_ R s=>s.heap.get? l=O {cls:=.type "list", dict:=AW,data:=.seq items n,slots:=sl}/\R (.ok (.ret (Value.ref s.heap.objs.size))) {s with heap:=s.heap.push {cls:=Value.type "list", data:=Data.seq (List.foldl (λx1 x2=>x1++x2) #[] (Um (if items.isEmpty=AX then 0 else x.toNat) items))},toks:=s.toks}):=
 .of_wp λprog w A R s h=>by
  obtain⟨hp,g,d,tk,os⟩:=s;obtain⟨hl,h⟩:=h;have hsz:=AutoListH.joined_fits hc2
  wp_walk;refine wpAny_ite_false (Qy (Nat.not_lt.mpr hsz)) ?_;wp_walk;exact⟨_,rfl,h⟩
noncomputable def ML(K:Frag):R2:=λx y H Q=>∃l k xs,x=.ref l/\y=.int k/\SqL K H l xs /\ -(2 ^ 63)<=k/\k<2 ^ 63/\xs.length*k.toNat<=Uh /\
 ∀p,H p=AW->Q (.ref p) (upd H p (.lst (Um k.toNat xs).flatten))
theorem FN:OpR X (binaryOp .Mult) (ML X.K):=by
 intro pins s σ H x y v u Q I rx ry h;obtain⟨l,k,xs,rfl,rfl,hH,h1,h2,hz,q⟩:=h;cases rx;obtain⟨t,rfl⟩:=ry;obtain⟨its,r,⟨⟨c1,d1,t1,sl⟩,n,e,jY,jX,jW⟩,z⟩:=I.list hH;simp only at jY jX jW;subst jY jX jW;have hl:=r.length;have hlen:its.toArray.size*k.toNat<=Uh:=by rw[QT,←hl];exact hz
 have hcap:¬its.toArray.size*k.toNat > (2 ^ 63-1) / 8:=by
  have:(Uh:Nat)<=(2 ^ 63-1) / 8:=by decide
  lia
 have hfit:¬(!Builtin.List.listFitsIndex k)=AX:=by rw[fitsIndex_both h1 h2];exact Bool.false_ne_true
 have jN:¬Builtin.List.listTooLong (its.toArray.size*k.toNat)=AX:=by rw[CD hlen];exact Bool.false_ne_true
 have hnew:List.foldl (λx1 x2=>x1++x2) #[] (Um (if its.toArray.isEmpty=AX then 0 else k.toNat) its.toArray)=(Um k.toNat its).flatten.toArray:=by
  have f0:∀m:Nat,List.foldl (λx1 x2=>x1++x2) #[] (Um m its.toArray)=(Um m its).flatten.toArray:=λm=>by have:=NU its m [];rw[JF]at this;exact this
  rw[f0];cases its with
  |nil=>simp
  |cons a r'=>rw[if_neg (by simp)]
 refine wpAny_binaryOp_repeat_ref (T:= "list") (U:= "int") (by decide) ⟨_,e,rfl⟩ (λs'=>typeIs_int s' k t) noFill_list_mul F.fills_int_mul F.slot_int_rmul repeat_list F.slot_int_index.lookup
  (call_meets F.slot_int_rmul (typeIs_int s k t) F.entry_int_rmul (F.args_int_rmul_2 _ _) (MM k t l its.toArray n sl)
   ⟨e,rfl,⟨_,e,rfl⟩,call_meets F.slot_list_mul ⟨_,e,rfl⟩ F.entry_list_mul (F.args_list_mul_2 _ _) (mulW l its.toArray n k t sl hfit hcap jN) ⟨e,?_⟩⟩)
 rw[hnew];exact⟨.ref _,_,I.lnew (t':=s.toks) (r.rep k.toNat) (by rw[F1,Nat.mul_comm];exact hz),rfl,q _ I.fresh⟩
noncomputable def Tp:D->D->A6
 |.list x,.list y=>if x.length+y.length<=1000000 then O (.list (x++y))else AW
 |_,_=>AW
theorem EA:OpD X (binaryOp .Add) Tp:=by
 refine⟨_,Oo,λv u G H x y d Q s rx ry e k=>?_⟩;unfold Tp at e;split at e
 .split at e
  .rename_i c
   cases e;obtain⟨l,vs,rfl,h1,r1⟩:=rx.lst_inv;obtain⟨b,ws,rfl,h2,r2⟩:=ry.lst_inv;refine⟨l,b,vs,ws,rfl,rfl,s.seq h1,s.seq h2,by rw[r1.length,r2.length];exact Qt c lim,λp hp=>k _ _ _ (Ext.new s hp) ?_⟩;exact .lst (SqL.of U7) ((r1.append r2).mono (KN (s.free hp)))
  .cases e
 .cases e
theorem Reps.rep{K:Frag}{G:Hp}{vs:List V}{ds:AZ}(r:Reps K G vs ds):∀n:Nat,Reps K G (Um n vs).flatten (Um n ds).flatten
 |0=>.nil
 |n+1=>by rw[Jb,Jb,QS,QS];exact r.append (r.rep n)
noncomputable def To:D->D->A6
 |.list x,.int k=>if -1000000<=k/\k<=1000000/\x.length*k.toNat<=1000000 then O (.list (Um k.toNat x).flatten)else AW
 |_,_=>AW
theorem Ez:OpD X (binaryOp .Mult) To:=by
 refine⟨_,FN,λv u G H x y d Q s rx ry e k=>?_⟩;unfold To at e;split at e
 .split at e
  .rename_i c
   cases e;obtain⟨l,vs,rfl,h1,r1⟩:=rx.lst_inv;refine⟨l,_,vs,rfl,ry.int_inv,s.seq h1,by lia,by lia,by rw[r1.length];exact Qt c.2.2 lim,λp hp=>k _ _ _ (Ext.new s hp) ?_⟩;exact .lst (SqL.of U7) ((r1.rep _).mono (KN (s.free hp)))
  .cases e
 .cases e
noncomputable def UQ:D->D->A6
 |.int i,.int j=>O (.int (i+j))
 |.str x,.str y=>if x.length+y.length<=1000000 then O (.str (x++y))else AW
 |.list x,.list y=>if x.length+y.length<=1000000 then O (.list (x++y))else AW
 |_,_=>AW
noncomputable def Xv:D->D->A6
 |.int i,.int j=>O (.int (i-j))
 |_,_=>AW
noncomputable def Ke:D->D->A6
 |.int i,.int j=>YT i j
 |.list x,.int k=>if -1000000<=k/\k<=1000000/\x.length*k.toNat<=1000000 then O (.list (Um k.toNat x).flatten)else AW
 |_,_=>AW
noncomputable def Zk:D->D->A6
 |.int i,.int j=>XI i j
 |_,_=>AW
noncomputable def Yu:D->D->A6
 |.int i,.int j=>XJ i j
 |_,_=>AW
noncomputable def YQ:D->D->A6
 |.int i,.int j=>XH i j
 |_,_=>AW
theorem OpD.congr{f:Ub->Ub->Sem Ub}{p q:D->D->A6}(h:OpD X f p)(e:∀x y,q x y=p x y):OpD X f q:=by
 have:q=p:=by funext x y;exact e x y
 rw[this];exact h
theorem Pl:OpD X (binaryOp .Add) UQ:=(Gh.or (FO.or EA)).congr λx y=>by cases x<;>cases y<;>first|rfl|(simp only[UQ,oII,Tq,Tp,Option.orElse];done)|(simp only[UQ,oII,Tq,Tp,Option.orElse];split<;>rfl)
theorem MK:OpD X (binaryOp .Sub) Xv:=Gg.congr λx y=>by cases x<;>cases y<;>rfl
theorem Pk:OpD X (binaryOp .Mult) Ke:=(FP.or Ez).congr λx y=>by cases x<;>cases y<;>first|rfl|(simp only[Ke,oII,To,Option.orElse];done)|(simp only[Ke,oII,To,Option.orElse];split<;>first|rfl|assumption)
theorem MJ:OpD X (binaryOp .Mod) Zk:=Ge.congr λx y=>by cases x<;>cases y<;>rfl
theorem MI:OpD X (binaryOp .FloorDiv) Yu:=Gd.congr λx y=>by cases x<;>cases y<;>rfl
theorem MH:OpD X (binaryOp .Pow) YQ:=Gc.congr λx y=>by cases x<;>cases y<;>rfl
end
section
variable{X:Cx}{B G0:Hp}{e a b c:Ug}{pos:Pos}
def OpB(X:Cx)(f:Ub->Ub->Sem Ub)(op:D->D->qb):Prop:=
 ∃r:R2,OpR X f r/\∀v u G H x y d Q,Same G H->Rep X.K G v x->Rep X.K G u y->op x y=O d->Q (.bl d) H->r v u H Q
theorem Ey{op:CmpOp}{p:D->D->qb}{f g:M D}(o:OpB X (Uk op) p)(ha:PE X a (tD X.K B G0 f))(hb:PE X b (tD X.K B G0 g))(hm:behindInMarks op b=AY) :
  PT X (.Compare a [op] [b] pos) (tBo X.K B G0 (UJ p f g)):=by
 obtain⟨r,h,i⟩:=o;refine ZK (OG h ha hb hm) λσ H Q q=>?_;refine tM.two q λv u H2 G ρ x y k rx ry a=>?_
 obtain⟨d,e,a⟩:=a.opt;exact i v u G H2 x y d _ k.gh rx ry e ⟨d,rfl,a.now k AV⟩
noncomputable def UO{α β:Type}(h:α->β)(f:M α):M β:=UN f λx=>UF (h x)
theorem tM.map{K:Frag}{α β γ δ:Type}{R:Hp->γ->α->Prop}{S:Hp->δ->β->Prop}{σ:St}{H:Hp}{h:α->β}{f:M α}{Q:δ->Hp->Prop}(j:γ->δ)(q:tM K B G0 S (UO h f) σ H Q)
  (i:∀G v x,R G v x->S G (j v) (h x)):tM K B G0 R f σ H (λv H'=>Q (j v) H'):=
 tM.one (R:=R) (f:=f) q λv H2 G ρ x k r a=>aft.now (show aft K B G0 S (.ok (h x) ρ) G σ Q from a) k (i G v x r)
theorem tBo.val{K:Frag}{σ:St}{H:Hp}{f:M Bool}{Q:VK}(q:tD K B G0 (UO Up f) σ H Q):tBo K B G0 f σ H (λb H'=>Q (.bl b) H'):=
 tM.map (R:=λ_ b c=>b=c) V.bl q λG v x e=>by rw[e];exact .bl x
theorem Ex{op:CmpOp}{p:D->D->qb}{f g:M D}(o:OpB X (Uk op) p)(ha:PE X a (tD X.K B G0 f))(hb:PE X b (tD X.K B G0 g))(hm:behindInMarks op b=AY) :
  PE X (.Compare a [op] [b] pos) (tD X.K B G0 (UO Up (UJ p f g))):=by
 obtain⟨r,h,i⟩:=o;refine UY (Dg h ha hb hm) λσ H Q q=>?_;refine tM.two (tBo.val q) λv u H2 G ρ x y k rx ry a=>?_
 obtain⟨d,e,a⟩:=a.opt;exact i v u G H2 x y d _ k.gh rx ry e (a.now k AV)
noncomputable def Xf(p q:D->D->qb)(f g h:M D):M Bool:=UN f λx=>UN g λy=>UN (UM (p x y)) λt=>if t=AX then UN h λz=>UM (q y z)else UF AY
theorem CU{op op':CmpOp}{p q:D->D->qb}{f g h:M D}(o:OpB X (Uk op) p)(o':OpB X (Uk op') q)(ha:PE X a (tD X.K B G0 f))(hb:PE X b (tD X.K B G0 g))(hc:PE X c (tD X.K B G0 h))
  (hm:lastMarks [op,op'] [b,c]=AY:=by with_unfolding_all rfl):PT X (.Compare a [op,op'] [b,c] pos) (tBo X.K B G0 (Xf p q f g h)):=by
 obtain⟨r,h1,i⟩:=o;obtain⟨r',h2,i'⟩:=o';refine ZK (CG h1 h2 ha hb hc hm) λσ H Q w=>?_;refine tM.two w λv u H2 G ρ x y k rx ry a=>?_
 cases z:p x y with
 |none=>rw[z]at a;exact a.elim
 |some t=>
  rw[z]at a;refine i v u G H2 x y t _ k.gh rx ry z ⟨t,rfl,?_⟩;cases t with
  |false=>rw[Qz Bool.false_ne_true];exact⟨AY,rfl,aft.now a k AV⟩
  |true=>
   rw[Qp AV];refine⟨G,ρ,k,?_⟩;have a4:aft X.K B G0 (λ_ (b:Bool) c=>b=c) ((UN h λz=>UM (q y z)) ρ) G σ Q:=a;unfold UN at a4;cases z2:h ρ with
   |bad=>rw[z2]at a4;exact a4.elim
   |ok d ρ1=>rw[z2]at a4;intro w G5 H5 k5 s5 r5;obtain⟨t2,e2,a6⟩:=a4.opt;exact i' u w G5 H5 y d t2 _ k5.gh (ry.mono s5) r5 e2 ⟨t2,rfl,a6 t2 G5 H5 k5 s5 AV⟩
theorem CT{op op':CmpOp}{p q:D->D->qb}{f g h:M D}(o:OpB X (Uk op) p)(o':OpB X (Uk op') q)(ha:PE X a (tD X.K B G0 f))(hb:PE X b (tD X.K B G0 g))(hc:PE X c (tD X.K B G0 h))
  (hm:lastMarks [op,op'] [b,c]=AY:=by with_unfolding_all rfl):PE X (.Compare a [op,op'] [b,c] pos) (tD X.K B G0 (UO Up (Xf p q f g h))):=by
 obtain⟨r,h1,i⟩:=o;obtain⟨r',h2,i'⟩:=o';refine UY (CH h1 h2 ha hb hc hm) λσ H Q w=>?_;refine tM.two (tBo.val w) λv u H2 G ρ x y k rx ry a=>?_
 cases z:p x y with
 |none=>rw[z]at a;exact a.elim
 |some t=>
  rw[z]at a;refine i v u G H2 x y t _ k.gh rx ry z ⟨t,rfl,?_⟩;cases t with
  |false=>rw[Qz Bool.false_ne_true];exact aft.now (v:=AY) a k AV
  |true=>
   rw[Qp AV];refine⟨G,ρ,k,?_⟩;have a4:aft X.K B G0 (λ_ (b:Bool) c=>b=c) ((UN h λz=>UM (q y z)) ρ) G σ (λb H'=>Q (.bl b) H'):=a;unfold UN at a4;cases z2:h ρ with
   |bad=>rw[z2]at a4;exact a4.elim
   |ok d ρ1=>rw[z2]at a4;intro w G5 H5 k5 s5 r5;obtain⟨t2,e2,a6⟩:=a4.opt;exact i' u w G5 H5 y d t2 _ k5.gh (ry.mono s5) r5 e2 (a6 t2 G5 H5 k5 s5 AV)
noncomputable def oIB(g:Int->Int->Bool):D->D->qb
 |.int i,.int j=>O (g i j)
 |_,_=>AW
theorem OpB.int{f:Ub->Ub->Sem Ub}{g:Int->Int->Bool}(h:OpR X f (rI0 λi j=>.bl (g i j))):OpB X f (oIB g):=by
 refine⟨_,h,λv u G H x y d Q s rx ry e k=>?_⟩;unfold oIB at e;split at e
 .cases e
  exact⟨_,_,rx.int_inv,ry.int_inv,k⟩
 .cases e
theorem B_lt:OpB X (Uk .Lt) (oIB λi j=>decide (i<j)):=.int MW
theorem B_le:OpB X (Uk .LtE) (oIB λi j=>decide (i<=j)):=.int MV
theorem B_gt:OpB X (Uk .Gt) (oIB λi j=>decide (j<i)):=.int MU
theorem B_ge:OpB X (Uk .GtE) (oIB λi j=>decide (j<=i)):=.int MT
mutual
theorem Wm{pins:List (Ue×Obj)}{s:Uc}{σ:St}{G H:Hp}(I:Inv X pins σ H s)(sg:Same G H):∀{v:V}{d:D}{u:Ub},Rep X.K G v d->RelV v u->d.canLay0=AX->∃as,Reads s.heap u d as
 |_,_,_,.non,r,_=>by cases r;exact⟨_,.none⟩
 |_,_,_,.bl b,r,_=>by cases r;exact⟨_,.bool b⟩
 |_,_,_,.int i,r,_=>by obtain⟨t,rfl⟩:=r;exact⟨_,.int i t⟩
 |_,_,_,.str x,r,_=>by obtain⟨t,rfl⟩:=r;exact⟨_,.str x t⟩
 |_,_,_,.lst h q,r,c=>by cases r;obtain⟨its,rv,⟨o,n,e,hc,_,hd⟩,hz⟩:=I.list (sg.seq h);obtain⟨as,ra⟩:=readsAll_of I sg q rv (show Us _=AX by simpa[PyData.canLay0]using c);exact⟨_,.list e hc hd (by simpa using ra)⟩
 |_,_,_,.tup h q,r,c=>by cases r;obtain⟨its,rv,p,hz⟩:=I.tuple (ZX sg h);obtain⟨o,e,hc,n,hd⟩:=p;obtain⟨as,ra⟩:=readsAll_of I sg q rv (show Us _=AX by simpa[PyData.canLay0]using c);exact⟨_,.tuple e hc hd (by simpa using ra)⟩
 |_,_,_,.dic h,r,c=>by simp[PyData.canLay0]at c
 |_,_,_,.exc _ _ _ _,r,c=>by simp[PyData.canLay0]at c
 |_,_,_,.dct _ _ _ _ _,r,c=>by simp[PyData.canLay0]at c
 |_,_,_,.dtt _ _ _ _,r,c=>by simp[PyData.canLay0]at c
theorem readsAll_of{pins:List (Ue×Obj)}{s:Uc}{σ:St}{G H:Hp}(I:Inv X pins σ H s)(sg:Same G H):∀{vs:List V}{ds:AZ}{us:A0},Reps X.K G vs ds->Vals vs us->Us ds=AX->∃as,ReadsAll s.heap us ds as
 |_,_,_,.nil,r,_=>by cases r;exact⟨_,.nil⟩
 |_,_,_,.cons h t,r,c=>by
  cases r with
  |cons r1 r2=>have c':=c;rw[Us,Qw]at c';obtain⟨as,ra⟩:=Wm I sg h r1 c'.1;obtain⟨bs,rb⟩:=readsAll_of I sg t r2 c'.2;exact⟨_,.cons ra rb⟩
end
noncomputable def oEq(x y:D):qb:=if x.canLay0=AX/\y.canLay0=AX/\x.depth<=60 then O (Uu x y)else AW
noncomputable def oNe(x y:D):qb:=if x.canLay0=AX/\y.canLay0=AX/\x.depth<=60 then O (!Uu x y)else AW
theorem B_eq(hu:X.A.units+64<cLine):OpB X (Uk .Eq) oEq:=by
 refine⟨λv u H Q=>∃G x y d,Same G H/\Rep X.K G v x/\Rep X.K G u y/\oEq x y=O d/\Q (.bl d) H,?_,λv u G H x y d Q s rx ry e k=>⟨G,x,y,d,s,rx,ry,e,k⟩⟩;intro pins s σ H x y v u Q I rx ry ⟨G,dx,dy,d,sg,px,py,e,q⟩;unfold oEq at e;split at e
 .rename_i c
  cases e;obtain⟨as,ra⟩:=Wm I sg px rx c.1;obtain⟨bs,rb⟩:=Wm I sg py ry c.2.1;exact SeqAt.compareEq_reads ra rb c.1 c.2.1 (by have:=c.2.2;lia) ⟨.bl _,H,I,rfl,q⟩
 .cases e
theorem B_ne(hu:X.A.units+64<cLine):OpB X (Uk .NotEq) oNe:=by
 refine⟨λv u H Q=>∃G x y d,Same G H/\Rep X.K G v x/\Rep X.K G u y/\oNe x y=O d/\Q (.bl d) H,?_,λv u G H x y d Q s rx ry e k=>⟨G,x,y,d,s,rx,ry,e,k⟩⟩;intro pins s σ H x y v u Q I rx ry ⟨G,dx,dy,d,sg,px,py,e,q⟩;unfold oNe at e;split at e
 .rename_i c
  cases e;obtain⟨as,ra⟩:=Wm I sg px rx c.1;obtain⟨bs,rb⟩:=Wm I sg py ry c.2.1;exact SeqAt.compareNe_reads ra rb c.1 c.2.1 (by have:=c.2.2;lia) ⟨.bl _,H,I,rfl,q⟩
 .cases e
noncomputable def isNon:D->Bool
 |.none=>AX
 |_=>AY
theorem Rep.isNon{K:Frag}{G:Hp}{v:V}{d:D}(r:Rep K G v d):DL.isNon d=decide (v=.non):=by cases r<;>simp[DL.isNon]
end
section
variable{X:Cx}{B G0:Hp}{e a b c:Ug}{pos:Pos}{es rest:A4}
theorem tM.nx{K:Frag}{α β γ δ:Type}{R:Hp->γ->α->Prop}{S:Hp->δ->β->Prop}{σ:St}{G H:Hp}{ρ:UB}{f:M α}{g:α->M β}{Q:δ->Hp->Prop}{P:γ->Hp->Prop}
  (k:EOk K B G0 G H σ ρ) (a:aft K B G0 S (UN f g ρ) G σ Q) (i:∀v H' G' ρ' x,EOk K B G0 G' H' σ ρ'->Same G G'->R G' v x->aft K B G0 S (g x ρ') G' σ Q->P v H'):tM K B G0 R f σ H P:=by
 refine⟨G,ρ,k,?_⟩;unfold UN at a;cases q:f ρ with
 |bad=>rw[q]at a;exact a.elim
 |ok d ρ1=>rw[q]at a;exact λv G' H' e s r=>i v H' G' ρ1 d e s r (aft.mono s a)
noncomputable def YS(f g:M Bool):M Bool:=UN f λt=>if t=AX then g else UF AY
noncomputable def mOr(f g:M Bool):M Bool:=UN f λt=>if t=AX then UF AX else g
noncomputable def Kf(f:M Bool):M Bool:=UO (λt=>!t) f
theorem Ew{K:Frag}{f g:M Bool}{σ:St}{H:Hp}{Q:Bool->Hp->Prop}(q:tBo K B G0 (YS f g) σ H Q):tAnd (tBo K B G0 f) (tBo K B G0 g) σ H Q:=
 tM.one (R:=λ_ b c=>b=c) q λv H2 G ρ x k r a=>by
  have r:v=x:=r;subst r;cases v with
  |true=>exact⟨G,ρ,k,a⟩
  |false=>exact aft.now (v:=AY) a k AV
theorem Ga{K:Frag}{f g:M Bool}{σ:St}{H:Hp}{Q:Bool->Hp->Prop}(q:tBo K B G0 (mOr f g) σ H Q):tOr (tBo K B G0 f) (tBo K B G0 g) σ H Q:=
 tM.one (R:=λ_ b c=>b=c) q λv H2 G ρ x k r a=>by
  have r:v=x:=r;subst r;cases v with
  |false=>exact⟨G,ρ,k,a⟩
  |true=>exact aft.now (v:=AX) a k AV
theorem pwof{t t':TT}(h:PW X e t)(i:∀σ H Q,t' σ H Q->t σ H Q):PW X e t':=λwh pins s σ H Q I q=>h wh pins s σ H Q I (i σ H Q q)
theorem Dt{f:M Bool}(ha:PT X a (tBo X.K B G0 f)):PW X (.BoolOp .And [a] pos) (tBo X.K B G0 f):=Dk ha
theorem Ev{f:M Bool}(ha:PT X a (tBo X.K B G0 f)):PW X (.BoolOp .Or [a] pos) (tBo X.K B G0 f):=HP ha
theorem Eu{f g:M Bool}(ha:PT X a (tBo X.K B G0 f))(hb:PW X (.BoolOp .And (b::rest) pos) (tBo X.K B G0 g)):PW X (.BoolOp .And (a::b::rest) pos) (tBo X.K B G0 (YS f g)):=pwof (HN ha hb) λ_ _ _ q=>Ew q
theorem HZ{f g:M Bool}(ha:PT X a (tBo X.K B G0 f))(hb:PW X (.BoolOp .Or (b::rest) pos) (tBo X.K B G0 g)):PW X (.BoolOp .Or (a::b::rest) pos) (tBo X.K B G0 (mOr f g)):=pwof (M9 ha hb) λ_ _ _ q=>Ga q
theorem Et{f:M Bool}(ha:PT X a (tBo X.K B G0 f)):PT X (.UnaryOp .Not a pos) (tBo X.K B G0 (Kf f)):=ZK (HM ha) λσ H Q q=>tM.map (R:=λ_ b c=>b=c) (λt=>!t) q λ_ v x e=>by rw[e]
noncomputable def Zh(f:M D):M Bool:=UN f λx=>match x with | .bool t=>UF t|_=>λ_=>.bad
theorem Es{f:M D}(h:PE X e (tD X.K B G0 f))(he:∀whole,isTrue e X.env whole=(do let v ←whole;standAt e.pos;holding [v] (truthy v)):=by intro _;rfl):PT X e (tBo X.K B G0 (Zh f)):=
 ZK (HQ h he) λσ H Q q=>tM.one (R:=Rep X.K) q λv H2 G ρ x k r a=>by
  cases x with
  |bool t=>exact⟨t,r.bl_inv,aft.now (v:=t) a k AV⟩
  |_=>exact a.elim
noncomputable def VO(f g:M D):M D:=UN f λx=>match x with | .bool AX=>g | .bool AY=>UF (.bool AY)|_=>λ_=>.bad
noncomputable def Tn(f:M D):M D:=UN f λx=>match x with | .bool t=>UF (.bool (!t))|_=>λ_=>.bad
theorem Er{f g:M D}(ha:PE X a (tD X.K B G0 f))(hb:PE X (.BoolOp .And (b::rest) pos) (tD X.K B G0 g)):PE X (.BoolOp .And (a::b::rest) pos) (tD X.K B G0 (VO f g)):=
 UY (HK ha hb) λσ H Q q=>tM.one (R:=Rep X.K) q λv H2 G ρ x k r a=>by
  cases x with
  |bool t=>
   refine⟨t,r.bl_inv,?_⟩;cases t with
   |true=>exact⟨G,ρ,k,a⟩
   |false=>exact aft.now a k (.bl AY)
  |_=>exact a.elim
theorem Ep{op}{f:M D}(h:PE X a (tD X.K B G0 f)):PE X (.BoolOp op [a] pos) (tD X.K B G0 f):=HL h
theorem Eo{f:M D}(ha:PE X a (tD X.K B G0 f)):PE X (.UnaryOp .Not a pos) (tD X.K B G0 (Tn f)):=
 UY (HJ ha) λσ H Q q=>tM.one (R:=Rep X.K) q λv H2 G ρ x k r a=>by
  cases x with
  |bool t=>exact⟨t,r.bl_inv,aft.now a k (.bl _)⟩
  |_=>exact a.elim
noncomputable def mIf{α:Type}(f:M Bool)(g h:M α):M α:=UN f λt=>if t=AX then g else h
theorem CS{f:M Bool}{g h:M D}(hc:PT X c (tBo X.K B G0 f))(ha:PE X a (tD X.K B G0 g))(hb:PE X b (tD X.K B G0 h)):PE X (.IfExp c a b pos) (tD X.K B G0 (mIf f g h)):=
 UY (CJ hc ha hb) λσ H Q q=>tM.one (R:=λ_ b c=>b=c) q λv H2 G ρ x k r a=>by
  have r:v=x:=r;subst r;cases v with
  |true=>exact⟨G,ρ,k,a⟩
  |false=>exact⟨G,ρ,k,a⟩
theorem En{f:M D}{j p2}(ha:PE X a (tD X.K B G0 f)):PT X (.Compare a [.Is] [.Constant .none j p2] pos) (tBo X.K B G0 (UO isNon f)):=
 ZK (PQ (HR ha)) λσ H Q q=>tM.one (R:=Rep X.K) q λv H2 G ρ x k r a=>⟨_,rfl,aft.now a k (by rw[r.isNon])⟩
theorem Ds{f:M D}{j p2}(ha:PE X a (tD X.K B G0 f)):PT X (.Compare a [.IsNot] [.Constant .none j p2] pos) (tBo X.K B G0 (UO (λd=>!isNon d) f)):=
 ZK (PQ (Dl ha)) λσ H Q q=>tM.one (R:=Rep X.K) q λv H2 G ρ x k r a=>⟨_,rfl,aft.now a k (by dsimp only;rw[r.isNon])⟩
noncomputable def UD:M AZ:=UF []
noncomputable def UE(f:M D)(g:M AZ):M AZ:=UN f λx=>UN g λxs=>UF (x::xs)
theorem Em:PA X [] (tDs X.K B G0 UD):=paof ZD λσ H Q ⟨G,ρ,k,a⟩=>aft.now a k .nil
theorem tM.twoA{K:Frag}{σ:St}{H:Hp}{f:M D}{g:M AZ}{β δ:Type}{S:Hp->δ->β->Prop}{k:D->AZ->M β}{Q:δ->Hp->Prop}{P:V->List V->Hp->Prop}
  (h:tM K B G0 S (UN f λx=>UN g λy=>k x y) σ H Q)
  (i:∀v u H2 G ρ x y,EOk K B G0 G H2 σ ρ->Rep K G v x->Reps K G u y->aft K B G0 S (k x y ρ) G σ Q->P v u H2) :
  tD K B G0 f σ H (λv H1=>tDs K B G0 g σ H1 λu H2=>P v u H2):=by
 obtain⟨G,ρ,e,a⟩:=tM.bind2 (R:=Rep K) (R':=Reps K) Oq h;refine⟨G,ρ,e,?_⟩;cases q:f ρ with
 |bad=>rw[q]at a;exact a.elim
 |ok d ρ1=>
  rw[q]at a;intro v G' H' e' s r;obtain⟨x,G2,ρ2,e2,a2⟩:=a v G' H' e' s r;refine⟨G2,ρ2,e2,?_⟩;cases q2:g ρ2 with
  |bad=>rw[q2]at a2;exact a2.elim
  |ok d3 ρ3=>rw[q2]at a2;intro u G3 H3 e3 s3 r3;obtain⟨G4,ρ4,y,e4,r4,r5,a5⟩:=a2 u G3 H3 e3 s3 r3;exact i v u H3 G4 ρ4 x y e4 r4 r5 a5
theorem OO{f:M D}{g:M AZ}(ha:PE X e (tD X.K B G0 f))(hr:PA X es (tDs X.K B G0 g))(hs:Uj (e::es) X.env=(AY,eval e X.env)::Uj es X.env:=by rfl) :
  PA X (e::es) (tDs X.K B G0 (UE f g)):=paof (K5 ha hr hs) λσ H Q q=>tM.twoA q λv u H2 G ρ x y k r1 r2 a=>aft.now a k (.cons r1 r2)
noncomputable def Kp(f:M AZ):M D:=UN f λxs=>if xs.length<=1000000 then UF (.tuple xs)else λ_=>.bad
noncomputable def U3(f:M AZ):M D:=UN f λxs=>if xs.length<=1000000 then UF (.list xs)else λ_=>.bad
theorem On{x1}{f:M AZ}(h:PA X es (tDs X.K B G0 f)):PE X (.Tuple es x1 pos) (tD X.K B G0 (Kp f)):=
 UY (PM h) λσ H Q q=>tM.one (R:=Reps X.K) q λv H2 G ρ x k r a=>by
  split at a
  .rename_i c
   refine⟨by rw[r.length];exact Qt c lim,λp hp=>?_⟩;exact aft.done a k (Ext.new k.gh hp) (.tup (SqT.of U7) (r.mono (KN (k.gh.free hp))))
  .exact a.elim
theorem Om{f:M AZ}(h:PA X es (tDs X.K B G0 f)):PE X (.List es pos) (tD X.K B G0 (U3 f)):=
 UY (TW h) λσ H Q q=>tM.one (R:=Reps X.K) q λv H2 G ρ x k r a=>by
  split at a
  .rename_i c
   refine⟨by rw[r.length];exact Qt c lim,λp hp=>?_⟩;exact aft.done a k (Ext.new k.gh hp) (.lst (SqL.of U7) (r.mono (KN (k.gh.free hp))))
  .exact a.elim
noncomputable def oIx:D->D->A6
 |.list xs,.int i=>atI xs i
 |.tuple xs,.int i=>atI xs i
 |.str z,.int i=>if z.length<=1000000 then(atI z.cps.toList i).map λc=>.str ⟨#[c]⟩else AW
 |_,_=>AW
theorem Reps.atI{K:Frag}{G:Hp}{vs:List V}{ds:AZ}{i:Int}{d:D}(r:Reps K G vs ds)(h:L2.atI ds i=O d):∃v,L2.atI vs i=O v/\Rep K G v d:=by
 unfold L2.atI at h⊢;rw[r.length];cases z:ixN ds.length i with
 |none=>rw[z]at h;cases h
 |some j=>rw[z]at h;exact r.get (i:=j) h
theorem PD{K:Frag}{v u:V}{G H:Hp}{x y d:D}{Q:VK}(s:Same G H)(rx:Rep K G v x)(ry:Rep K G u y)(e:oIx x y=O d)(k:∀w,Rep K G w d->Q w H):rIx K v u H Q:=by
 unfold oIx at e;split at e
 .obtain⟨l,vs,rfl,h1,r1⟩:=rx.lst_inv
  obtain⟨w,e1,r2⟩:=r1.atI e;exact .inl ⟨l,vs,_,w,rfl,ry.int_inv,s.seq h1,e1,k w r2⟩
 .obtain⟨l,vs,rfl,h1,r1⟩:=rx.tup_inv
  obtain⟨w,e1,r2⟩:=r1.atI e;exact .inr (.inl ⟨l,vs,_,w,rfl,ry.int_inv,ZX s h1,e1,k w r2⟩)
 .split at e
  .rename_i z i hz
   cases q:L2.atI z.cps.toList i with
   |none=>rw[q]at e;cases e
   |some ch=>rw[q]at e;cases e;exact .inr (.inr ⟨z,i,ch,rx.str_inv,ry.int_inv,Qt hz lim,q,k _ (.str _)⟩)
  .cases e
 .cases e
theorem HY{f g:M D}(ha:PE X a (tD X.K B G0 f))(hb:PE X b (tD X.K B G0 g))(hs:T3 b):PE X (.Subscript a b pos) (tD X.K B G0 (UJ oIx f g)):=
 UY (SI SX ha hb hs) λσ H Q q=>tM.two q λv u H2 G ρ x y k rx ry a=>by obtain⟨d,e,a⟩:=a.opt;exact PD k.gh rx ry e λw r=>a.now k r
noncomputable def UR(i:Nat)(g:M D):M D:=λρ=>match ρ[i]? with
 |some (O (.pub d))=>(UN g λy=>UM (oIx d y)) ρ
 |some (O (.own _))=>(UN g λy=>λρ'=>match ρ'[i]? with|some (O (.own ds))=>UM (oIx (.list ds) y) ρ'|_=>.bad) ρ
 |_=>.bad
theorem El{i:Nat}{g:M D}(ha:PE X a (Kd i))(hb:PE X b (tD X.K B G0 g))(hs:T3 b):PE X (.Subscript a b pos) (tD X.K B G0 (UR i g)):=
 UY (SI SX ha hb hs) λσ H Q ⟨G,ρ,k,a⟩=>by
  unfold UR at a;cases q:ρ[i]? with
  |none=>rw[q]at a;exact a.elim
  |some o=>
   cases o with
   |none=>rw[q]at a;exact a.elim
   |some sl=>
    cases sl with
    |deep _ _=>rw[q]at a;exact a.elim
    |pub d=>
     rw[q]at a;obtain⟨v,h1,h2⟩:=k.pub i d q;refine⟨v,h1,G,ρ,k,?_⟩;dsimp only[UN]at a;cases z:g ρ with
     |bad=>rw[z]at a;exact a.elim
     |ok y ρ1=>rw[z]at a;intro u G' H' k' s' r';obtain⟨d',e',a'⟩:=aft.opt a;exact PD k'.gh (h2.mono s') r' e' λw r=>a' w G' H' k' s' r
    |own ds=>
     rw[q]at a;obtain⟨ad,vs,h1,h2,h3,h4,h5⟩:=k.own i ds q;refine⟨.ref ad,h1,G,ρ,k,?_⟩;dsimp only[UN]at a;cases z:g ρ with
     |bad=>rw[z]at a;exact a.elim
     |ok y ρ1=>
      rw[z]at a;dsimp only at a;intro u G' H' k' s' r';cases z2:ρ1[i]? with
      |none=>rw[z2]at a;exact a.elim
      |some o2=>
       cases o2 with
       |none=>rw[z2]at a;exact a.elim
       |some sl2=>
        cases sl2 with
        |deep _ _=>rw[z2]at a;exact a.elim
        |pub d2=>rw[z2]at a;exact a.elim
        |own es2=>
         rw[z2]at a;obtain⟨d',e',a'⟩:=aft.opt a;obtain⟨kn,vs',g1,g2,g3,g4,g5⟩:=k'.own i es2 z2;rw[h1]at g1;cases g1;unfold oIx at e';cases y with
         |int j=>obtain⟨w,e1,r2⟩:=g5.atI e';exact .inl ⟨ad,vs',j,w,rfl,r'.int_inv,SqL.of g4,e1,a' w G' H' k' s' r2⟩
         |_=>cases e'
noncomputable def cutD(xs:AZ)(lo hi:A9):AZ:=(xs.drop (HT.sIx xs.length 0 lo)).take (HT.sIx xs.length xs.length hi-HT.sIx xs.length 0 lo)
theorem Reps.cut{K:Frag}{G:Hp}{vs:List V}{ds:AZ}(r:Reps K G vs ds)(lo hi:A9):Reps K G (Yw vs lo hi) (cutD ds lo hi):=by unfold Yw cutD;rw[r.length];exact(r.drop _).take _
noncomputable def Y0:D->Option A9
 |.int i=>O (O i)
 |_=>AW
theorem Dr:PO X AW (tOi X.K B G0 (UF AW)):=poof F7 λσ H Q ⟨G,ρ,k,a⟩=>aft.now a k AV
theorem Dq{f:M D}(h:PE X e (tD X.K B G0 f)):PO X (O e) (tOi X.K B G0 (UN f λx=>UM (Y0 x))):=poof (F6 h) λσ H Q q=>tM.one (R:=Rep X.K) q λv H2 G ρ x k r a=>by
 cases x with
 |int i=>exact⟨i,r.int_inv,aft.now (v:=O i) a k AV⟩
 |_=>exact a.elim
end
noncomputable def Z4:List (D×D)->Bool
 |(.none,_)::_=>AX
 |_=>AY
noncomputable def Yq:D->String
 |.none=> "NoneType"
 |.bool _=> "bool"
 |.int _=> "int"
 |.str _=> "str"
 |.list _=> "list"
 |.tuple _=> "tuple"
 |.dict kvs=>if Z4 kvs=AX then "" else "dict"
noncomputable def Kb(d:D)(c:String):Bool:=Yq d==c || (Yq d == "bool" && c == "int")
noncomputable def Wu:D->Bool
 |.dict kvs=>Z4 kvs
 |_=>AY
theorem nty{kvs:List (D×D)}{c:String}(h:(("dict" == c) || ("" == c))=AY):Kb (.dict kvs) c=AY:=by
 obtain⟨h1,h2⟩:=Bool.or_eq_false_iff.mp h
 show((if Z4 kvs=AX then "" else "dict")==c || ((if Z4 kvs=AX then "" else "dict") == "bool" && c == "int"))=AY
 cases Z4 kvs with
 |true=>rw[Qp AV,h2];rfl
 |false=>rw[Qz (by decide),h1];rfl
theorem PB{ks:List Key}{ds:AZ}:Yq (.dict ((ks.map kD).zip ds)) = "dict" /\ Wu (.dict ((ks.map kD).zip ds))=AY:=by
 cases ks with
 |nil=>exact⟨rfl,rfl⟩
 |cons k ks=>
  cases ds with
  |nil=>exact⟨rfl,rfl⟩
  |cons d ds=>cases k<;>exact⟨rfl,rfl⟩
theorem Ek(K:Frag)(d:D)(c:String)(nx:Wu d=AY)(hc:c = "int" ∨ c = "bool" ∨ c = "str" ∨ c = "list" ∨ c = "tuple" ∨ c = "dict"):PySem.W.kitOne K (.type (Yq d)) (.type c)=O (Kb d c):=by
 cases d with
 |dict kvs=>
  have e:Yq (.dict kvs) = "dict" :=by
   have nx:Z4 kvs=AY:=nx
   show(if Z4 kvs=AX then "" else "dict")=_
   rw[nx];rfl
  unfold Kb;rw[e];rcases hc with rfl|rfl|rfl|rfl|rfl|rfl<;>rfl
 |_=>rcases hc with rfl|rfl|rfl|rfl|rfl|rfl<;>rfl
section
variable{X:Cx}{B G0:Hp}{e a b c:Ug}{pos:Pos}{es rest:A4}
def Yl(X:Cx)(f:Ub)(p:AZ->A6):Prop:=
 ∃r,ZZ X f r/\∀vs G H ds d Q,Same G H->Reps X.K G vs ds->p ds=O d->(∀w G' H',Ext G H G' H'->Rep X.K G' w d->Q w H')->r vs H Q
noncomputable def KH(p:AZ->A6)(f:M AZ):M D:=UN f λxs=>UM (p xs)
theorem Vy{x:Str}{p2:Pos}{id:String}{p:AZ->A6}{f:M AZ}(hc:Yl X (.builtin id) p)(hg:Gl X x)(hm:X.mg x=AW)(hv:bootBuiltins x=O (.builtin id))(ha:PA X (e::es) (tDs X.K B G0 f))(hn:x ≠ "__name__" :=by decide)(hdb:(x==("__debug__" : Str))=AY:=by decide)
  (he:Uj (e::es) X.env=(AY,eval e X.env)::Uj es X.env:=by rfl) (hpl:(backTo pos (Uj es X.env)).any (·.1)=AY:=by rfl):PE X (.Call (.Name x p2) (e::es) [] pos) (tD X.K B G0 (KH p f)):=by
 obtain⟨r,h,i⟩:=hc;refine UY (VG h hg hm hv ha hn hdb he hpl) λσ H Q q=>tM.one (R:=Reps X.K) q λv H2 G ρ x k rr a=>?_
 obtain⟨d,e,a⟩:=a.opt;exact i v G H2 x d Q k.gh rr e λw G' H' ex rw=>a.done k ex rw
theorem Reps.nil_inv{K:Frag}{G:Hp}{vs:List V}(r:Reps K G vs []):vs=[]:=by cases r;rfl
theorem Reps.one_inv{K:Frag}{G:Hp}{vs:List V}{d:D}(r:Reps K G vs [d]):∃v,vs=[v]/\Rep K G v d:=by
 cases r with
 |cons h t=>cases t;exact⟨_,rfl,h⟩
theorem Reps.two_inv{K:Frag}{G:Hp}{vs:List V}{d d':D}(r:Reps K G vs [d,d']):∃v v',vs=[v,v']/\Rep K G v d/\Rep K G v' d':=by
 cases r with
 |cons h t=>obtain⟨v',rfl,r'⟩:=t.one_inv;exact⟨_,v',rfl,h,r'⟩
noncomputable def U0:AZ->A6
 |[.list xs]=>O (.int xs.length)
 |[.tuple xs]=>O (.int xs.length)
 |[.str z]=>if z.length<=1000000 then O (.int z.length)else AW
 |_=>AW
theorem Pj:Yl X (.builtin "len") U0:=by
 refine⟨_,OR,λvs G H ds d Q s r e k=>?_⟩;unfold U0 at e;split at e
 .cases e
  obtain⟨v,rfl,q⟩:=r.one_inv;obtain⟨l,ws,rfl,h1,r1⟩:=q.lst_inv;exact⟨.ref l,ws.length,rfl,.inl ⟨ws,s.seq h1,rfl⟩,by rw[r1.length];exact k _ G H (.refl s) (.int _)⟩
 .cases e
  obtain⟨v,rfl,q⟩:=r.one_inv;obtain⟨l,ws,rfl,h1,r1⟩:=q.tup_inv;exact⟨.ref l,ws.length,rfl,.inr ⟨ws,ZX s h1,rfl⟩,by rw[r1.length];exact k _ G H (.refl s) (.int _)⟩
 .split at e
  .rename_i z hz
   cases e;obtain⟨v,rfl,q⟩:=r.one_inv;exact⟨.str z,z.length,by rw[q.str_inv],⟨Qt hz lim,rfl⟩,k _ G H (.refl s) (.int _)⟩
  .cases e
 .cases e
noncomputable def Tl:AZ->A6
 |[.int i,.int j]=>O (.int (if j > i then j else i))
 |_=>AW
theorem GE(hc:X.calm=AX):Yl X (.builtin "max") Tl:=by
 refine⟨_,B8 hc,λvs G H ds d Q s r e k=>?_⟩;unfold Tl at e;split at e
 .cases e
  obtain⟨v,v',rfl,r1,r2⟩:=r.two_inv;exact⟨_,_,by rw[r1.int_inv,r2.int_inv],k _ G H (.refl s) (.int _)⟩
 .cases e
noncomputable def KU(i:Nat):M D:=λρ=>match ρ[i]? with
 |some (O (.pub d))=>UM (U0 [d]) ρ
 |some (O (.own ds))=>.ok (.int ds.length) ρ
 |_=>.bad
theorem Dp{i:Nat}{p2:Pos}(hg:Gl X "len")(hm:X.mg "len" = AW)(ha:PE X e (Kd i))(he:Uj [e] X.env=[(AY,eval e X.env)]:=by rfl):PE X (.Call (.Name "len" p2) [e] [] pos) (tD X.K B G0 (KU i)):=by
 refine UY (VG OR hg hm PySem.boot_len (K5 ha ZD (by rw[he];rfl)) (by decide) (by decide) (by rw[he];rfl) AV) λσ H Q ⟨G,ρ,k,a⟩=>?_
 unfold KU at a;cases q:ρ[i]? with
 |none=>rw[q]at a;exact a.elim
 |some o=>
  cases o with
  |none=>rw[q]at a;exact a.elim
  |some sl=>
   cases sl with
   |deep _ _=>rw[q]at a;exact a.elim
   |pub d=>
    rw[q]at a;obtain⟨v,h1,h2⟩:=k.pub i d q;refine⟨v,h1,?_⟩;obtain⟨d',e',a'⟩:=aft.opt a;obtain⟨r,hr,ir⟩:=@Pj X;show ∃x n,[v]=[x]/\LenV X.K x H n/\Q (.int n) H;unfold U0 at e';split at e'
    .rename_i xs he'
     injection he' with jQ jl;subst jQ;cases e'
     obtain⟨l,ws,rfl,g1,r1⟩:=h2.lst_inv;exact⟨.ref l,ws.length,rfl,.inl ⟨ws,k.gh.seq g1,rfl⟩,by rw[r1.length];exact a'.now k (.int _)⟩
    .rename_i xs he'
     injection he' with jQ jl;subst jQ;cases e'
     obtain⟨l,ws,rfl,g1,r1⟩:=h2.tup_inv;exact⟨.ref l,ws.length,rfl,.inr ⟨ws,ZX k.gh g1,rfl⟩,by rw[r1.length];exact a'.now k (.int _)⟩
    .rename_i z he'
     injection he' with jQ jl;subst jQ
     split at e'
     .rename_i hz
      cases e';exact⟨.str z,z.length,by rw[h2.str_inv],⟨Qt hz lim,rfl⟩,a'.now k (.int _)⟩
     .cases e'
    .cases e'
   |own ds=>rw[q]at a;obtain⟨ad,vs,h1,g2,g3,h4,h5⟩:=k.own i ds q;exact⟨.ref ad,h1,.ref ad,vs.length,rfl,.inl ⟨vs,SqL.of h4,rfl⟩,by rw[h5.length];exact aft.now a k (.int _)⟩
theorem Ej{pins:List (Ue×Obj)}{s:Uc}{σ:St}{G H:Hp}{v:V}{u:Ub}{d:D}{cv:Ub}{t:Bool}{A:Around}{E:Ub->Uc->Prop}{Q:Ub->Uc->Prop}(I:Inv X pins σ H s)(sg:Same G H)(r:Rep X.K G v d)(rv:RelV v u)(nx:Wu d=AY)
  (ek:PySem.W.kitOne X.K (.type (Yq d)) cv=O t) (h:∀tk,Q (.bool t) {s with toks:=tk}):Ui (model X.prog X.w) A (call (.builtin "isinstance") [u,cv]) Q E s:=by
 cases r with
 |non=>cases rv;exact Ju PySem.W.kitx_none I.kIn True.intro ek (λz=>nomatch z) h
 |bl y=>cases rv;exact Ju PySem.W.kitx_bool I.kIn True.intro ek (λz=>nomatch z) h
 |int i=>obtain⟨t',rfl⟩:=rv;exact Ju PySem.W.kitx_int I.kIn True.intro ek (λz=>nomatch z) h
 |str y=>obtain⟨t',rfl⟩:=rv;exact Ju PySem.W.kitx_str I.kIn True.intro ek (λz=>nomatch z) h
 |lst hl _=>cases rv;obtain⟨its,r,⟨o,n,e,hc,_,hd⟩,hz⟩:=I.list (sg.seq hl);exact Ju PySem.W.kitx_list I.kIn ⟨o,e,hc⟩ ek (λz=>nomatch z) h
 |tup hl _=>cases rv;obtain⟨its,r,p,hz⟩:=I.tuple (ZX sg hl);obtain⟨o,e,hc,_⟩:=p;exact Ju PySem.W.kitx_tuple I.kIn ⟨o,e,hc⟩ ek (λz=>nomatch z) h
 |@dic ad hd=>
  cases rv;obtain⟨_,_,vs,_,p⟩:=(show K4 X.prog X.w H s.heap ad (.dK [])from I.hok ad _ (sg _ _ hd))
  obtain⟨o,es,ep,h1,h2,_⟩:=p;exact Ju PySem.W.kitx_dict I.kIn ⟨o,h1,h2.1⟩ ek (λz=>nomatch z) h
 |exc _ _ _ _=>cases nx
 |@dct ad ks vs ds kvs e0 _ _ hd _=>
  cases rv;subst e0;rw[PB.1]at ek;obtain⟨_,_,vs,_,p⟩:=(show K4 X.prog X.w H s.heap ad (.dK (ks.zip _))from I.hok ad _ (sg _ _ hd))
  obtain⟨o,es,ep,h1,h2,_⟩:=p;exact Ju PySem.W.kitx_dict I.kIn ⟨o,h1,h2.1⟩ ek (λz=>nomatch z) h
 |@dtt ad ob ks vs ds kvs e0 _ hd _=>
  cases rv;subst e0;obtain⟨_,_,_,xs,_,o,es,ep,h1,h2,_⟩:=(show K4 X.prog X.w H s.heap ad (.frz ob (.dT (ks.zip _)))from I.hok ad _ (sg _ _ hd))
  exact Ju PySem.W.kitx_dict I.kIn ⟨o,h1,h2.1⟩ ek (λz=>nomatch z) h
theorem Ei(c:String)(hc:c = "int" ∨ c = "bool" ∨ c = "str" ∨ c = "list" ∨ c = "tuple" ∨ c = "dict"):typeOf (.type c)=pure (.type "type"):=by rcases hc with rfl|rfl|rfl|rfl|rfl|rfl<;>kernel_rfl
theorem Do:ZZ X (.builtin "isinstance") (λxs H Q=>∃v c G d,xs=[v,.ty c]/\Same G H/\Rep X.K G v d/\(c = "int" ∨ c = "bool" ∨ c = "str" ∨ c = "list" ∨ c = "tuple" ∨ c = "dict")/\Q (.bl (Kb d c)) H):=by
 intro pins s σ H xs us Q I r h;obtain⟨v,c,G,d,rfl,sg,rp,hc,q⟩:=h;obtain⟨u,w',rfl,r1,r2⟩:=SK r;cases (show w'=Value.type c from r2);by_cases nx:Wu d=AX
 .cases rp with
  |@exc a C dd bm nm vs ds ck hx hd rr=>
   refine Rk (YG I.ok.mod.kin) pins s σ H [.ref a,.ty c] [u,.type c] Q I r ⟨a,C,dd,bm,AY,.ty c,AY,rfl,⟨nm,ck⟩,sg _ _ hx,.inr ⟨c,rfl,Ei c hc,?_⟩,?_⟩
   .rw[ck.ty];rcases hc with rfl|rfl|rfl|rfl|rfl|rfl<;>rfl
   .have e:Kb (.dict [(.none,.tuple [.str nm,.list ds])]) c=AY:=by rcases hc with rfl|rfl|rfl|rfl|rfl|rfl<;>rfl
    rw[e]at q;exact q
  |dct e _ _ _ _=>subst e;rw[PB.2]at nx;cases nx
  |dtt e _ _ _=>subst e;cases nx
  |_=>cases nx
 .have nx:Wu d=AY:=by simpa using nx
  exact Ej I sg rp r1 nx (Ek X.K d c nx hc) λtk=>⟨.bl _,H,I.tok tk,rfl,q⟩
theorem RZ:bootBuiltins "isinstance" = O (.builtin "isinstance"):=by decide +kernel
theorem Sq{f:M D}{p2 p3:Pos}{c:String}(hc:c = "int" ∨ c = "bool" ∨ c = "str" ∨ c = "list" ∨ c = "tuple" ∨ c = "dict")(hg:Gl X "isinstance")(hm:X.mg "isinstance" = AW)(qW:Gl X (Uw c))(hm2:X.mg (Uw c)=AW)
  (hv2:bootBuiltins (Uw c)=O (.type c)) (ha:PE X e (tD X.K B G0 f)) (hn2:(Uw c) ≠ "__name__") (hd2:((Uw c)==("__debug__" : Str))=AY)
  (hs:Uj [e,.Name (Uw c) p3] X.env=(AY,eval e X.env)::Uj [.Name (Uw c) p3] X.env:=by rfl)
  (hs2:Uj [.Name (Uw c) p3] X.env=[(AY,eval (.Name (Uw c) p3) X.env)]:=by rfl) :
  PE X (.Call (.Name "isinstance" p2) [e,.Name (Uw c) p3] [] pos) (tD X.K B G0 (UO (λd=>.bool (Kb d c)) f)):=by
 refine UY (VG Do hg hm RZ (K5 ha (K5 (OC (v:=.ty c) qW hm2 hv2 AV hn2 hd2) ZD (by rw[hs2];rfl)) hs) (by decide) (by decide) hs (by rw[hs2];rfl)) λσ H Q q=>?_
 refine tM.one (R:=Rep X.K) q λv H2 G ρ x k r a=>?_
 exact⟨v,c,G,x,rfl,k.gh,r,hc,aft.now a k (.bl _)⟩
end
noncomputable def spD(K:Frag)(n:Nat)(F:AZ->A6):Sp:=λvs H Q _=>∃G ds d,vs.length=n/\Same G H/\Reps K G vs ds/\F ds=O d/\∀v G' H',Ext G H G' H'->Rep K G' v d->Q v H'
section
variable{K:Frag}{B G0 G H:Hp}{σ:St}{ρ:UB}
theorem EOk.exit(k:EOk K B G0 G H σ ρ):Ext G0 B G H:=⟨k.bh,k.g0,k.gh,k.np⟩
theorem Ku{α:Type}{l:List α}{i:Nat}{x y:α}(h:(l.set i x)[i]?=O y):y=x:=by
 by_cases hl:i<l.length
 .rw[QJ hl]at h;cases h;rfl
 .rw[Jx (by rw[QW];lia)]at h;cases h
theorem DpOk.setOther{i:Nat}{x:Option V}{y:Option Sl}(k:DpOk K B G H σ ρ)(hy:∀s,y=O s->∃d,s=.pub d):DpOk K B G H (σ.set i x) (ρ.set i y):=by
 have nz:∀{m:Nat}{s:Sl},(ρ.set i y)[m]?=O (O s)->(∃d,s=.pub d)∨(ρ[m]?=O (O s)/\(σ.set i x)[m]?=σ[m]?):=λ{m s} q=>by
  by_cases z:i=m
  .subst z
   exact .inl (hy s (Ku q).symm)
  .rw[Ql z]at q⊢;exact .inr ⟨q,rfl⟩
 refine k.map (λm p d q=>?_) (λm es q=>?_) λm p d v fp q s r w n=>⟨r,w⟩
 .rcases nz q with ⟨_,e⟩|q
  .cases e
  .exact q
 .rcases nz q with ⟨_,e⟩|q
  .cases e
  .exact⟨es,q⟩
theorem EOk.setPub{i:Nat}{v:V}{d:D}(k:EOk K B G0 G H σ ρ)(r:Rep K G v d)(hi:i<ρ.length):EOk K B G0 G H (σ.set i (O v)) (ρ.set i (O (.pub d))) where
 bh:=k.bh
 gh:=k.gh
 g0:=k.g0
 np:=k.np
 len:=by rw[QW,QW];exact k.len
 pub:=λj d' q=>by
  by_cases z:i=j
  .subst z
   have:=Ku q;cases this;exact⟨v,QJ (by rw[←k.len];exact hi),r⟩
  .rw[Ql z]at q⊢
   exact k.pub j d' q
 own:=λj ds q=>by
  by_cases z:i=j
  .subst z
   have:=Ku q;cases this
  .rw[Ql z]at q⊢
   exact k.own j ds q
 sep:=λj l c es fs q1 q2 s1 s2=>by
  have z1:i≠j:=λz=>by subst z;have:=Ku q1;cases this
  have z2:i≠l:=λz=>by subst z;have:=Ku q2;cases this
  rw[Ql z1]at q1 s1;rw[Ql z2]at q2 s2;exact k.sep j l c es fs q1 q2 s1 s2
 dp:=k.dp.setOther (λs e=>by cases e;exact⟨_,rfl⟩)
structure NewL(K:Frag)(B G H:Hp)(σ:St)(ρ:UB)(a:Ue)(vs:List V)(ds:AZ):Prop where
 b:B a=AW
 g:G a=AW
 h:H a=O (.lst vs)
 r:Reps K G vs ds
 f:∀(j:Nat) es,ρ[j]?=O (O (.own es))->σ[j]?≠O (O (.ref a))
 dp:∀(j:Nat) p d v fp,ρ[j]?=O (O (.deep p d))->σ[j]?=O (O v)->RepO K G H p v d fp->a∉fp
theorem EOk.freshD{H':Hp}{a:Ue}(k:EOk K B G0 G H σ ρ)(e:Same H H')(ha:H a=AW){G':Hp}{j:Nat}{p:Pat}{d:D}{v:V}{fp:A5}(q:ρ[j]?=O (O (.deep p d)))(s:σ[j]?=O (O v))(r:RepO K G' H' p v d fp):a∉fp:=λm=>by obtain⟨ω,k1,k2⟩:=k.dp;obtain⟨v',fp',s',r',n,w⟩:=k1 j p d q;rw[s]at s';cases s';have u:=r'.uniq e r;subst u;obtain⟨ws,hl⟩:=r'.isl a m;rw[ha]at hl;cases hl
theorem EOk.setOwn{i:Nat}{a:Ue}{vs:List V}{ds:AZ}(k:EOk K B G0 G H σ ρ)(n:NewL K B G H σ ρ a vs ds)(hi:i<ρ.length):EOk K B G0 G H (σ.set i (O (.ref a))) (ρ.set i (O (.own ds))) where
 bh:=k.bh
 gh:=k.gh
 g0:=k.g0
 np:=k.np
 len:=by rw[QW,QW];exact k.len
 pub:=λj d' q=>by
  by_cases z:i=j
  .subst z
   have:=Ku q;cases this
  .rw[Ql z]at q⊢
   exact k.pub j d' q
 own:=λj es q=>by
  by_cases z:i=j
  .subst z
   have:=Ku q;cases this;exact⟨a,vs,QJ (by rw[←k.len];exact hi),n.b,n.g,n.h,n.r⟩
  .rw[Ql z]at q⊢
   exact k.own j es q
 sep:=λj l c es fs q1 q2 s1 s2=>by
  have hs:i<σ.length:=by rw[←k.len];exact hi
  by_cases z1:i=j
  .subst z1
   rw[QJ hs]at s1;cases s1;by_cases z2:i=l
   .exact z2
   .rw[Ql z2]at q2 s2
    exact absurd s2 (n.f l fs q2)
  .by_cases z2:i=l
   .subst z2
    rw[QJ hs]at s2;cases s2;rw[Ql z1]at q1 s1;exact absurd s1 (n.f j es q1)
   .rw[Ql z1]at q1 s1
    rw[Ql z2]at q2 s2;exact k.sep j l c es fs q1 q2 s1 s2
 dp:=by
  obtain⟨ω,k1,k2⟩:=k.dp;have hs:i<σ.length:=by rw[←k.len];exact hi
  refine⟨λb=>if b=a then i else ω b,λj p d q=>?_,λj es b q s=>?_⟩
  .by_cases z:i=j
   .subst z;have:=Ku q;cases this
   .rw[Ql z]at q⊢
    obtain⟨v,fp,s,r,nn,w⟩:=k1 j p d q;refine⟨v,fp,s,r,nn,λb m=>⟨(w b m).1,(w b m).2.1,?_⟩⟩;dsimp only;rw[Qz (λz=>n.dp j p d v fp q s r (by rw[←z];exact m))];exact(w b m).2.2
  .by_cases z:i=j
   .subst z
    rw[QJ hs]at s;cases s;dsimp only;rw[Qp AV]
   .rw[Ql z]at q s
    dsimp only;rw[Qz (λe=>n.f j es q (by rw[←e];exact s))];exact k2 j es b q s
theorem EOk.change{i:Nat}{a:Ue}{vs:List V}{ds es:AZ}(k:EOk K B G0 G H σ ρ)(q:ρ[i]?=O (O (.own ds)))(ha:σ[i]?=O (O (.ref a)))(r:Reps K G vs es) :
  EOk K B G0 G (upd H a (.lst vs)) σ (ρ.set i (O (.own es))):=by
 obtain⟨a',ws,h1,h2,h3,h4,h5⟩:=k.own i ds q;rw[ha]at h1;cases h1;have hi:i<ρ.length:=(Qr.mp q).1;refine⟨λb o e=>?_,λb o e=>?_,k.g0,k.np,by rw[QW];exact k.len,λj d' e=>?_,λj fs e=>?_,λj l c fs gs q1 q2 s1 s2=>?_,?_⟩
 .rw[UW (ZE e h2)];exact k.bh b o e
 .rw[UW (ZE e h3)];exact k.gh b o e
 .by_cases z:i=j
  .subst z
   have:=Ku e;cases this
  .rw[Ql z]at e
   exact k.pub j d' e
 .by_cases z:i=j
  .subst z
   have:=Ku e;cases this;exact⟨a,vs,ha,h2,h3,U7,r⟩
  .rw[Ql z]at e
   obtain⟨c,us,g1,g2,g3,g4,g5⟩:=k.own j fs e;have zc:c≠a:=λw=>z (k.sep i j a ds fs q e ha (by rw[←w];exact g1))
   exact⟨c,us,g1,g2,g3,by rw[UW zc];exact g4,g5⟩
 .have f:∀{m:Nat}{ts:AZ},(ρ.set i (O (Sl.own es)))[m]?=O (O (.own ts))->∃ts',ρ[m]?=O (O (.own ts')):=λ{m ts} e=>by
   by_cases z:i=m
   .subst z;exact⟨ds,q⟩
   .rw[Ql z]at e;exact⟨ts,e⟩
  obtain⟨f1,w1⟩:=f q1;obtain⟨f2,w2⟩:=f q2;exact k.sep j l c f1 f2 w1 w2 s1 s2
 .refine k.dp.map (λj p d e=>?_) (λj fs e=>?_) λj p d v fp qj s rj w n=>⟨rj.upd (λ_ z=>by rw[h4]at z;cases z) (n i ds a q ha),w⟩
  .by_cases z:i=j
   .subst z;have:=Ku e;cases this
   .rw[Ql z]at e;exact⟨e,rfl⟩
  .by_cases z:i=j
   .subst z;exact⟨ds,q,rfl⟩
   .rw[Ql z]at e;exact⟨fs,e,rfl⟩
end
inductive Out where
 |nx (ρ:UB)|rt (d:D)|bk (ρ:UB)|ct (ρ:UB)|ex (ρ:UB) (d:D)|ro (ds:AZ)|bad
abbrev SM:=UB->Out
section
variable(K:Frag)(B G0:Hp)(KX:XW)
def aftS(o:Out)(G1:Hp)(Dn:Ends):Prop:=
 match o with
 |.nx ρ=>∀σ G H,EOk K B G0 G H σ ρ->Same G1 G->Dn.nx σ H
 |.bk ρ=>∀σ G H,EOk K B G0 G H σ ρ->Same G1 G->Dn.bk σ H
 |.ct ρ=>∀σ G H,EOk K B G0 G H σ ρ->Same G1 G->Dn.ct σ H
 |.rt d=>∀v G H,Ext G0 B G H->Rep K G v d->Dn.rt v H
 |.ro ds=>∀a vs G H,Ext G0 B G H->B a=AW->G a=AW->H a=O (.lst vs)->Reps K G vs ds->Dn.rt (.ref a) H
 |.ex ρ d=>∀v σ G H,EOk K B G0 G H σ ρ->Same G1 G->Rep K G v d->KX v σ H
 |.bad=>False
noncomputable def tS(g:SM):TS:=λDn σ H=>∃G ρ,EOk K B G0 G H σ ρ/\aftS K B G0 KX (g ρ) G Dn
noncomputable def sB{α:Type}(f:M α)(g:α->SM):SM:=λρ=>match f ρ with | .ok a ρ'=>g a ρ' | .bad=>.bad
end
section
variable{X:Cx}{B G0:Hp}{KX:XW}{e a b c:Ug}{pos:Pos}{es rest:A4}{st:Stmt}{sts sts2:List Stmt}
theorem aftS.mono{K:Frag}{o:Out}{G G':Hp}{Dn:Ends}(e:Same G G')(h:aftS K B G0 KX o G Dn):aftS K B G0 KX o G' Dn:=by
 cases o with
 |nx ρ=>exact λσ G2 H2 k s=>h σ G2 H2 k (e.trans s)
 |bk ρ=>exact λσ G2 H2 k s=>h σ G2 H2 k (e.trans s)
 |ct ρ=>exact λσ G2 H2 k s=>h σ G2 H2 k (e.trans s)
 |rt d=>exact h
 |ro ds=>exact h
 |ex ρ d=>exact λv σ G2 H2 k s r=>h v σ G2 H2 k (e.trans s) r
 |bad=>exact h
theorem tS.bnd{K:Frag}{α γ:Type}{R:Hp->γ->α->Prop}{f:M α}{g:α->SM}{Dn:Ends}{σ:St}{H:Hp}{P:γ->Hp->Prop}(q:tS K B G0 KX (sB f g) Dn σ H)
  (i:∀v H' G' ρ' x,EOk K B G0 G' H' σ ρ'->R G' v x->aftS K B G0 KX (g x ρ') G' Dn->P v H'):tM K B G0 R f σ H P:=by
 obtain⟨G,ρ,k,a⟩:=q;refine⟨G,ρ,k,?_⟩;unfold sB at a;cases z:f ρ with
 |bad=>rw[z]at a;exact a.elim
 |ok d ρ1=>rw[z]at a;exact λv G' H' e s r=>i v H' G' ρ1 d e r (aftS.mono s a)
noncomputable def sNx:SM:=λρ=>.nx ρ
noncomputable def UI(g h:SM):SM:=λρ=>match g ρ with | .nx ρ'=>h ρ'|o=>o
theorem GD:PSs X [] (tS X.K B G0 KX sNx):=Wb Dj λD σ H ⟨G,ρ,k,a⟩=>a σ G H k (.refl _)
theorem Ol{g h:SM}(h1:PS X st (tS X.K B G0 KX g))(h2:PSs X sts (tS X.K B G0 KX h)):PSs X (st::sts) (tS X.K B G0 KX (UI g h)):=Wb (WI h1 h2) λD σ H ⟨G,ρ,k,a⟩=>by
 refine⟨G,ρ,k,?_⟩;unfold UI at a;cases z:g ρ with
 |nx ρ1=>rw[z]at a;exact λσ' G' H' k' s'=>⟨G',ρ1,k',aftS.mono s' a⟩
 |rt d=>rw[z]at a;exact a
 |ro ds=>rw[z]at a;exact a
 |bk ρ1=>rw[z]at a;exact a
 |ct ρ1=>rw[z]at a;exact a
 |ex ρ1 d=>rw[z]at a;exact a
 |bad=>rw[z]at a;exact a.elim
theorem GC{g:SM}(h1:PS X st (tS X.K B G0 KX g)):PSs X [st] (tS X.K B G0 KX g):=WG h1
noncomputable def Wz:SM:=λ_=>.bad
theorem DZ:PS X st (tS X.K B G0 KX Wz):=λ_ _ _ _ _ _ ⟨_,_,_,a⟩=>a.elim
noncomputable def U2(f:M D):SM:=sB f λd _=>.rt d
theorem GB{f:M D}(h:PE X e (tD X.K B G0 f)):PS X (.Return (O e) pos) (tS X.K B G0 KX (U2 f)):=Kj (SV h) λD σ H q=>tS.bnd (R:=Rep X.K) q λv H' G' ρ' x k r a=>a v G' H' k.exit r
noncomputable def Y9(f:M D):SM:=sB f λ_ ρ=>.nx ρ
theorem Eh{f:M D}(h:PE X e (tD X.K B G0 f))(hs:swapsWith e AW pos.line X.env=pure AY:=by rfl):PS X (.Expr e pos) (tS X.K B G0 KX (Y9 f)):=Kj (Y6 h hs) λD σ H q=>tS.bnd (R:=Rep X.K) q λv H' G' ρ' x k r a=>a σ G' H' k (.refl _)
noncomputable def sIf(f:M Bool)(g h:SM):SM:=sB f λt=>if t=AX then g else h
theorem MG{f:M Bool}{g h:SM}(hc:PT X c (tBo X.K B G0 f))(ha:PSs X sts (tS X.K B G0 KX g))(hb:PSs X sts2 (tS X.K B G0 KX h)):PS X (.If c sts sts2 pos) (tS X.K B G0 KX (sIf f g h)):=
 Kj (M5 hc ha hb) λD σ H q=>tS.bnd (R:=λ_ b c=>b=c) q λv H' G' ρ' x k r a=>by
  have r:v=x:=r;subst r;cases v with
  |true=>exact⟨G',ρ',k,a⟩
  |false=>exact⟨G',ρ',k,a⟩
noncomputable def tG(K:Frag)(B G0:Hp)(s:D->UB->A7):TG:=λv σ H Q=>∃G ρ d ρ',EOk K B G0 G H σ ρ/\Rep K G v d/\s d ρ=O ρ'/\∀σ' G' H',EOk K B G0 G' H' σ' ρ'->Same G G'->Q σ' H'
noncomputable def tGs(K:Frag)(B G0:Hp)(s:AZ->UB->A7):TGs:=λv σ H Q=>∃G ρ d ρ',EOk K B G0 G H σ ρ/\Reps K G v d/\s d ρ=O ρ'/\∀σ' G' H',EOk K B G0 G' H' σ' ρ'->Same G G'->Q σ' H'
theorem pgof{t t':TG}(h:PG X e t)(i:∀v σ H Q,t' v σ H Q->t v σ H Q):PG X e t':=λpins s σ H v u Q I r q=>h pins s σ H v u Q I r (i v σ H Q q)
theorem Pp{t t':TGs}(h:PGs X es t)(i:∀v σ H Q,t' v σ H Q->t v σ H Q):PGs X es t':=λpins s σ H v u Q I r q=>h pins s σ H v u Q I r (i v σ H Q q)
noncomputable def gN(i:Nat):D->UB->A7:=λd ρ=>if i<ρ.length then O (ρ.set i (O (.pub d)))else AW
theorem Oj{i:Nat}(h:PG X e (SN i)):PG X e (tG X.K B G0 (gN i)):=pgof h λv σ H Q ⟨G,ρ,d,ρ',k,r,e,q⟩=>by
 unfold gN at e;split at e
 .rename_i hi
  cases e;exact q _ G H (k.setPub r hi) (.refl _)
 .cases e
noncomputable def gN0:AZ->UB->A7:=λd ρ=>match d with | []=>O ρ|_=>AW
noncomputable def gNC(s:D->UB->A7)(t:AZ->UB->A7):AZ->UB->A7:=λds ρ=>match ds with|d::r=>(s d ρ).bind (t r) | []=>AW
theorem GA:PGs X [] (tGs X.K B G0 gN0):=Pp Di λv σ H Q ⟨G,ρ,d,ρ',k,r,e,q⟩=>by
 cases r with
 |nil=>cases e;exact⟨rfl,q σ G H k (.refl _)⟩
 |cons _ _=>cases e
theorem Eg{s:D->UB->A7}{t:AZ->UB->A7}(h1:PG X e (tG X.K B G0 s))(h2:PGs X es (tGs X.K B G0 t))
  (hs:(Uz (e::es) X.env).map (·.2)=assign e X.env::(Uz es X.env).map (·.2):=by rfl):PGs X (e::es) (tGs X.K B G0 (gNC s t)):=Pp (CI h1 h2 hs) λv σ H Q ⟨G,ρ,d,ρ',k,r,e,q⟩=>by
 cases r with
 |nil=>cases e
 |@cons w dw ws dws rw rt=>
  unfold gNC at e;dsimp only at e;cases z:s dw ρ with
  |none=>rw[z]at e;cases e
  |some ρ1=>rw[z]at e;refine⟨w,ws,rfl,G,ρ,dw,ρ1,k,rw,z,λσ' G' H' k' s'=>?_⟩;exact⟨G',ρ1,dws,ρ',k',rt.mono s',e,λσ2 G2 H2 k2 s2=>q σ2 G2 H2 k2 (s'.trans s2)⟩
noncomputable def gT(n:Nat)(t:AZ->UB->A7):D->UB->A7:=λd ρ=>match d with | .tuple ds=>if ds.length=n then t ds ρ else AW|_=>AW
theorem Gz{k1:Nat}{t:AZ->UB->A7}{n:Nat}(hc:X.calm=AX)(h:PGs X es (tGs X.K B G0 t))
  (hn:(Uz es X.env).length=n:=by rfl) (hst:(Uz es X.env).findIdx? (·.1)=AW:=by rfl):PG X (.Tuple es k1 pos) (tG X.K B G0 (gT n t)):=pgof (HI hc h hn hst) λv σ H Q ⟨G,ρ,d,ρ',k,r,e,q⟩=>by
 unfold gT at e;split at e
 .split at e
  .rename_i hl
   obtain⟨ad,vs,rfl,h1,r1⟩:=r.tup_inv;exact⟨ad,vs,rfl,ZX k.gh h1,by rw[r1.length];exact hl,G,ρ,_,ρ',k,r1,e,q⟩
  .cases e
 .cases e
noncomputable def K0(f:M D)(s:D->UB->A7):SM:=sB f λd ρ=>match s d ρ with|some ρ'=>.nx ρ'|none=>.bad
theorem Gy{tg:Ug}{f:M D}{s:D->UB->A7}(he:PE X e (tD X.K B G0 f))(hg:PG X tg (tG X.K B G0 s))(hs:swapsWithSole [tg] e pos.line X.env=pure AY:=by rfl)(hw:swappedStores [tg] e X.env=pure AW:=by rfl)
  (h1:(Uz [tg] X.env).map (·.2)=[assign tg X.env]:=by rfl):PS X (.Assign [tg] e pos) (tS X.K B G0 KX (K0 f s)):=
 Kj (HH he hg hs hw h1) λD σ H q=>tS.bnd (R:=Rep X.K) q λv H' G' ρ' x k r a=>by
  cases z:s x ρ' with
  |none=>rw[z]at a;exact a.elim
  |some ρ2=>rw[z]at a;exact⟨G',ρ',x,ρ2,k,r,z,λσ2 G2 H2 k2 s2=>a σ2 G2 H2 k2 s2⟩
noncomputable def U8(i:Nat)(f:M D):SM:=K0 f (gN i)
theorem Gx{i:Nat}{x:Str}{f:M D}{p2:Pos}(hN:X.N.Nodup)(hi:X.N[i]?=O x)(hx:Loc X.env.scope x)(he:PE X e (tD X.K B G0 f))(hs:swapsWith e (O (.Name x p2)) pos.line X.env=pure AY:=by rfl)
  (hf:X.fn x=AX∨X.env.scope.names.lookup x=O .local:=by first|exact .inl rfl|exact .inr rfl|assumption):PS X (.Assign [.Name x p2] e pos) (tS X.K B G0 KX (U8 i f)):=
 Kj (SU hN hi hx he hs hf) λD σ H q=>tS.bnd (R:=Rep X.K) q λv H' G' ρ' x k r a=>by
  unfold gN at a;split at a
  .rename_i ρ2 hz
   split at hz
   .rename_i hi2
    cases hz;exact a _ G' H' (k.setPub r hi2) (.refl _)
   .cases hz
  .exact a.elim
noncomputable def tL(K:Frag)(B G0:Hp)(f:M AZ):TE:=λσ H Q=>∃G ρ,EOk K B G0 G H σ ρ/\match f ρ with
 |.ok ds ρ'=>∀a vs G' H',EOk K B G0 G' H' σ ρ'->Same G G'->NewL K B G' H' σ ρ' a vs ds->Q (.ref a) H'
 |.bad=>False
noncomputable def Kx(i:Nat)(f:M AZ):SM:=sB f λds ρ=>if i<ρ.length then .nx (ρ.set i (O (.own ds)))else .bad
theorem Ef{i:Nat}{x:Str}{f:M AZ}{p2:Pos}(hN:X.N.Nodup)(hi:X.N[i]?=O x)(hx:Loc X.env.scope x)(he:PE X e (tL X.K B G0 f))(hs:swapsWith e (O (.Name x p2)) pos.line X.env=pure AY:=by rfl)
  (hf:X.fn x=AX∨X.env.scope.names.lookup x=O .local:=by first|exact .inl rfl|exact .inr rfl|assumption):PS X (.Assign [.Name x p2] e pos) (tS X.K B G0 KX (Kx i f)):=
 Kj (SU hN hi hx he hs hf) λD σ H ⟨G,ρ,k,a⟩=>by
  refine⟨G,ρ,k,?_⟩;unfold Kx sB at a;cases z:f ρ with
  |bad=>rw[z]at a;exact a.elim
  |ok ds ρ1=>
   rw[z]at a;intro ad vs G' H' k' s' n;dsimp only at a;split at a
   .rename_i hl
    exact a _ G' H' (k'.setOwn n hl) s'
   .exact a.elim
theorem NewL.of{K:Frag}{G H:Hp}{σ:St}{ρ:UB}{p:Ue}{vs:List V}{ds:AZ}(k:EOk K B G0 G H σ ρ)(hp:H p=AW)(r:Reps K G vs ds):NewL K B G (upd H p (.lst vs)) σ ρ p vs ds where
 b:=k.bh.free hp
 g:=k.gh.free hp
 h:=U7
 r:=r
 f:=λj es q z=>by obtain⟨a,ws,h1,h2,h3,h4,h5⟩:=k.own j es q;rw[z]at h1;cases h1;rw[hp]at h4;cases h4
 dp:=λj pt d v fp q s rr=>k.freshD (KN hp) hp q s rr
theorem Oi{f:M AZ}(h:PA X es (tDs X.K B G0 f)):PE X (.List es pos) (tL X.K B G0 (UN f λxs=>if xs.length<=1000000 then UF xs else λ_=>.bad)):=
 UY (TW h) λσ H Q ⟨G,ρ,k,a⟩=>by
  refine⟨G,ρ,k,?_⟩;unfold UN at a;cases z:f ρ with
  |bad=>rw[z]at a;exact a.elim
  |ok ds ρ1=>
   rw[z]at a;dsimp only at a;intro v G' H' k' s' r;by_cases c:ds.length<=1000000
   .rw[Qp c]at a
    refine⟨by rw[r.length];exact Qt c lim,λp hp=>?_⟩;exact a p v G' _ (k'.ext (Ext.hid k'.gh hp)) s' (NewL.of k' hp r)
   .rw[Qz c]at a;exact a.elim
noncomputable def K1(i:Nat)(f:M D):SM:=λρ0=>match ρ0[i]? with
 |some (O (.own _))=>sB f (λd ρ=>match ρ[i]? with
  |some (O (.own ds))=>if ds.length<1000000 then .nx (ρ.set i (O (.own (ds++[d]))))else .bad
  |_=>.bad) ρ0
 |_=>.bad
theorem Gw{i:Nat}{f:M D}{o:Ug}{apos cpos:Pos}(ho:PE X o (Kd i))(he:PE X e (tD X.K B G0 f))
  (hbase:attributeBase o "append" X.env (eval o X.env)=eval o X.env:=by rfl)
  (hfew:((backTo cpos (Uj [e] X.env)).all (λx=>!x.1)&&(backToKw cpos (keywordEach [] X.env)).all (λx=>x.1.isSome)
   && decide ([e].length+([]:List Keyword).length+(if([]:List Keyword).isEmpty then 0 else 1)<30))=AX:=by rfl)
  (hline:(apos.endLine==cpos.line)=AX:=by rfl) (hs:Uj [e] X.env=[(AY,eval e X.env)]:=by rfl)
  (hsw:swapsWith (.Call (.Attribute o "append" apos) [e] [] cpos) AW pos.line X.env=pure AY:=by rfl) :
  PS X (.Expr (.Call (.Attribute o "append" apos) [e] [] cpos) pos) (tS X.K B G0 KX (K1 i f)):=
 Kj (Y6 (Vk Jj JO JP VA ho (K5 he ZD (by rw[hs];rfl)) hbase hfew hline (by rw[hs];rfl) AV) hsw) λD σ H ⟨G,ρ,k,a⟩=>by
  unfold K1 at a;cases q0:ρ[i]? with
  |none=>rw[q0]at a;exact a.elim
  |some o0=>
   cases o0 with
   |none=>rw[q0]at a;exact a.elim
   |some jE=>
    cases jE with
    |deep _ _=>rw[q0]at a;exact a.elim
    |pub d=>rw[q0]at a;exact a.elim
    |own qT=>
     rw[q0]at a;obtain⟨ad,vs0,h1,h2,h3,h4,h5⟩:=k.own i qT q0;refine⟨.ref ad,h1,.inl ⟨rfl,_,SqL.of h4⟩,G,ρ,k,?_⟩;unfold sB at a;cases z:f ρ with
     |bad=>rw[z]at a;exact a.elim
     |ok d ρ1=>
      rw[z]at a;dsimp only at a;intro v G' H' k' s' r';cases q:ρ1[i]? with
      |none=>rw[q]at a;exact a.elim
      |some o=>
       cases o with
       |none=>rw[q]at a;exact a.elim
       |some sl=>
        cases sl with
        |deep _ _=>rw[q]at a;exact a.elim
        |pub d=>rw[q]at a;exact a.elim
        |own ds=>
         rw[q]at a;dsimp only at a;split at a
         .rename_i hl
          obtain⟨kn,vs,g1,g2,g3,g4,g5⟩:=k'.own i ds q;rw[h1]at g1;cases g1;refine⟨ad,vs,v,rfl,rfl,g4,by rw[g5.length];exact QA hl lim,?_⟩;exact a σ G' _ (k'.change q h1 (g5.append (.cons r' .nil))) s'
         .exact a.elim
end
structure YA(K:Frag)(J:It)(ds:AZ)(G1:Hp):Prop where
 go:∀i G H,Same G1 G->Same G H->i<ds.length->J.go i H
 stop:∀i G H,Same G1 G->Same G H->ds.length<=i->J.stop i H
 yld:∀i G H x H' d,Same G1 G->Same G H->ds[i]?=O d->J.yld i H x H'->∃G',Ext G H G' H'/\Rep K G' x d
noncomputable def iD(K:Frag)(B G0:Hp)(f:M AZ):TI:=λσ H R=>∃G ρ,EOk K B G0 G H σ ρ/\match f ρ with
 |.ok ds ρ'=>∀J G' H',EOk K B G0 G' H' σ ρ'->Same G G'->YA K J ds G'->R J H'
 |.bad=>False
section
variable{X:Cx}{B G0:Hp}{KX:XW}{e a b c tg:Ug}{pos:Pos}{es rest:A4}{st:Stmt}{sts sts2:List Stmt}
theorem Xs{t t':TI}(h:PI X tg e t)(i:∀σ H R,t' σ H R->t σ H R):PI X tg e t':=λpins s σ H R I q=>h pins s σ H R I (i σ H R q)
theorem tM.toI{K:Frag}{α γ:Type}{R0:Hp->γ->α->Prop}{f:M α}{g:α->M AZ}{σ:St}{H:Hp}{R:It->Hp->Prop}{P:γ->Hp->Prop}(q:iD K B G0 (UN f g) σ H R)
  (i:∀v H' G' ρ' x,EOk K B G0 G' H' σ ρ'->R0 G' v x->(match g x ρ' with
   |.ok ds ρ2=>∀J G2 H2,EOk K B G0 G2 H2 σ ρ2->Same G' G2->YA K J ds G2->R J H2
   |.bad=>False)->P v H'):tM K B G0 R0 f σ H P:=by
 obtain⟨G,ρ,k,a⟩:=q;refine⟨G,ρ,k,?_⟩;unfold UN at a;cases z:f ρ with
 |bad=>rw[z]at a;exact a.elim
 |ok d ρ1=>
  rw[z]at a;intro v G' H' e s r;refine i v H' G' ρ1 d e r ?_;dsimp only at a;cases z2:g d ρ1 with
  |bad=>rw[z2]at a;exact a.elim
  |ok ds ρ2=>rw[z2]at a;exact λJ G2 H2 k2 s2 it=>a J G2 H2 k2 (s.trans s2) it
theorem BB{K:Frag}{G1:Hp}{ad:Ue}{vs:List V}{ds:AZ}(h:SqL K G1 ad vs)(r:Reps K G1 vs ds):YA K (Itl K ad) ds G1 where
 go:=λi G H s1 s2 hi=>by
  have hi':i<vs.length:=by rw[r.length];exact hi
  exact⟨vs,vs[i],(s1.trans s2).seq h,Qm hi'⟩
 stop:=λi G H s1 s2 hi=>⟨vs,(s1.trans s2).seq h,by rw[r.length];exact hi⟩
 yld:=λi G H x H' d s1 s2 e y=>by obtain⟨rfl,y⟩:=y;obtain⟨v,e1,r1⟩:=r.get e;have:=y vs ((s1.trans s2).seq h);rw[e1]at this;cases this;exact⟨G,.refl s2,r1.mono s1⟩
noncomputable def Zg(lo hi:Int):AZ:=(Ul (hi-lo).toNat).map λ(k:Nat)=>.int (lo+k)
theorem WM(lo hi:Int):(Zg lo hi).length=(hi-lo).toNat:=by unfold Zg;rw[Qd,JW]
theorem N8{K:Frag}{G1:Hp}(lo hi:Int):YA K (Itr lo (hi-lo).toNat) (Zg lo hi) G1 where
 go:=λi G H s1 s2 h=>by rw[WM]at h;exact h
 stop:=λi G H s1 s2 h=>by rw[WM]at h;exact h
 yld:=λi G H x H' d s1 s2 e y=>by
  obtain⟨rfl,rfl⟩:=y;unfold Zg at e;rw[QC]at e;have hi:i<(Ul (hi-lo).toNat).length:=by refine Nat.lt_of_not_le λz=>?_;rw[Jx z]at e;cases e
  rw[Qm hi,List.getElem_range]at e;cases e;exact⟨G,.refl s2,.int _⟩
noncomputable def Vj:AZ->Option AZ
 |[.int j]=>if j<=1000000 /\ -1000000<=j then O (Zg 0 j)else AW
 |_=>AW
noncomputable def Vi:AZ->Option AZ
 |[.int i,.int j]=>if j<=1000000 /\ -1000000<=j/\i<=1000000 /\ -1000000<=i then O (Zg i j)else AW
 |_=>AW
noncomputable def Wa(f:M AZ):M AZ:=UN f λx=>UM (Vj x)
noncomputable def TC(f:M AZ):M AZ:=UN f λx=>UM (Vi x)
theorem CQ{f:M AZ}{p2:Pos}(hg:Gl X "range")(hm:X.mg "range" = AW)(ha:PA X [a] (tDs X.K B G0 f))(hs:Uj [a] X.env=[(AY,eval a X.env)]:=by rfl) :
  PI X tg (.Call (.Name "range" p2) [a] [] pos) (iD X.K B G0 (Wa f)):=Xs (BL hg hm ha hs) λσ H R q=>tM.toI (R0:=Reps X.K) q λv H' G' ρ' x k r a=>by
 cases z:Vj x with
 |none=>rw[z]at a;exact a.elim
 |some ds=>
  rw[z]at a;unfold Vj at z;split at z
  .split at z
   .rename_i j c
    cases z;obtain⟨w,rfl,r'⟩:=r.one_inv;refine⟨j,by rw[r'.int_inv],by lia,by lia,?_⟩;have it:=N8 (K:=X.K) (G1:=G') 0 j;rw[Int.sub_zero]at it;exact a _ G' H' k (.refl _) it
   .cases z
  .cases z
theorem CP{f:M AZ}{p2:Pos}(hg:Gl X "range")(hm:X.mg "range" = AW)(ha:PA X [a,b] (tDs X.K B G0 f))(hs:Uj [a,b] X.env=[(AY,eval a X.env),(AY,eval b X.env)]:=by rfl)(hs2:Uj [b] X.env=[(AY,eval b X.env)]:=by rfl) :
  PI X tg (.Call (.Name "range" p2) [a,b] [] pos) (iD X.K B G0 (TC f)):=Xs (BK hg hm ha hs hs2) λσ H R q=>tM.toI (R0:=Reps X.K) q λv H' G' ρ' x k r a=>by
 cases z:Vi x with
 |none=>rw[z]at a;exact a.elim
 |some ds=>
  rw[z]at a;unfold Vi at z;split at z
  .split at z
   .rename_i i j c
    cases z;obtain⟨w,w',rfl,r1,r2⟩:=r.two_inv;refine⟨i,j,by rw[r1.int_inv,r2.int_inv],⟨by lia,by lia,by lia,by lia⟩,?_⟩;exact a _ G' H' k (.refl _) (N8 i j)
   .cases z
  .cases z
noncomputable def Yb(n:Nat):AZ->AZ
 |[]=>[]
 |d::r=>.tuple [.int n,d]::Yb (n+1) r
theorem RS:∀(n:Nat)(ds:AZ),(Yb n ds).length=ds.length
 |_,[]=>rfl
 |n,d::r=>by rw[Yb,QK,QK,RS]
theorem NR:∀(n:Nat)(ds:AZ)(i:Nat),(Yb n ds)[i]?=ds[i]?.map λd=>.tuple [.int ((n+i:Nat):Int),d]
 |_,[],i=>by simp[Yb]
 |n,d::r,0=>by simp[Yb]
 |n,d::r,i+1=>by
  rw[Yb,JR,JR,NR (n+1) r i];have:n+1+i=n+(i+1):=by lia
  rw[this]
theorem BA{K:Frag}{G1:Hp}{ad:Ue}{vs:List V}{ds:AZ}(h:SqL K G1 ad vs)(r:Reps K G1 vs ds):YA K (Ite K ad) (Yb 0 ds) G1 where
 go:=λi G H s1 s2 hi=>by
  rw[RS]at hi;have hi':i<vs.length:=by rw[r.length];exact hi
  exact⟨vs,vs[i],(s1.trans s2).seq h,Qm hi'⟩
 stop:=λi G H s1 s2 hi=>by rw[RS]at hi;exact⟨vs,(s1.trans s2).seq h,by rw[r.length];exact hi⟩
 yld:=λi G H x H' d s1 s2 e y=>by
  obtain⟨p,v,hp,rfl,y,rfl⟩:=y;rw[NR]at e;cases z:ds[i]? with
  |none=>rw[z]at e;cases e
  |some d0=>rw[z]at e;cases e;obtain⟨w,e1,r1⟩:=r.get z;have:=y vs ((s1.trans s2).seq h);rw[e1]at this;cases this;refine⟨upd G p (.tup [.int i,v]),Ext.new s2 hp,.tup (SqT.of U7) (.cons ?_ (.cons ((r1.mono s1).mono (KN (s2.free hp))) .nil))⟩;rw[Nat.zero_add];exact .int _
noncomputable def VN:AZ->Option AZ
 |[.list ds]=>O (Yb 0 ds)
 |_=>AW
noncomputable def X9(f:M AZ):M AZ:=UN f λx=>UM (VN x)
theorem Ee{f:M AZ}{p2:Pos}{elts:A4}{x1}{tp:Pos}(hg:Gl X "enumerate")(hm:X.mg "enumerate" = AW)(ha:PA X [a] (tDs X.K B G0 f))(hs:Uj [a] X.env=[(AY,eval a X.env)]:=by rfl) :
  PI X (.Tuple elts x1 tp) (.Call (.Name "enumerate" p2) [a] [] pos) (iD X.K B G0 (X9 f)):=Xs (FZ hg hm ha hs) λσ H R q=>tM.toI (R0:=Reps X.K) q λv H' G' ρ' x k r a=>by
 cases z:VN x with
 |none=>rw[z]at a;exact a.elim
 |some ds=>
  rw[z]at a;unfold VN at z;split at z
  .cases z
   obtain⟨w,rfl,r'⟩:=r.one_inv;obtain⟨ad,vs,rfl,h1,r1⟩:=r'.lst_inv;exact⟨ad,vs,rfl,k.gh.seq h1,a _ G' H' k (.refl _) (BA h1 r1)⟩
  .cases z
noncomputable def YZ(s:D->UB->A7)(g:SM):AZ->SM
 |[],ρ=>.nx ρ
 |d::r,ρ=>match s d ρ with
  |none=>.bad
  |some ρ1=>match g ρ1 with
   |.nx ρ2=>YZ s g r ρ2
   |.ct ρ2=>YZ s g r ρ2
   |.bk ρ2=>.nx ρ2
   |.rt d=>.rt d
   |.ro ds=>.ro ds
   |.ex ρ2 d=>.ex ρ2 d
   |.bad=>.bad
noncomputable def Ko(f:M AZ)(s:D->UB->A7)(g:SM):SM:=sB f λds=>YZ s g ds
theorem L5{iter:Ug}{body:List Stmt}{f:M AZ}{s:D->UB->A7}{g:SM}(hp:PassesOwn (model X.prog X.w) X.A X.env X.xe)(hc:X.calm=AX)(hi:PI X tg iter (iD X.K B G0 f))(hg:PG X tg (tG X.K B G0 s))(hb:PSs X body (tS X.K B G0 KX g))
  (hs:∀x,UA iter X.env x=pure x:=by intro _;rfl):PS X (.For tg iter body [] pos) (tS X.K B G0 KX (Ko f s g)):=
 Kj (PP hp hc hi hg hb hs) λDn σ H ⟨G,ρ,k,a⟩=>by
  refine⟨G,ρ,k,?_⟩;unfold Ko sB at a;cases z:f ρ with
  |bad=>rw[z]at a;exact a.elim
  |ok ds ρ1=>
   rw[z]at a;dsimp only at a⊢;intro J G1 H1 k1 s1 it;refine⟨λi m σ' H'=>m=ds.length-i/\∃G' ρ',EOk X.K B G0 G' H' σ' ρ'/\Same G1 G'/\aftS X.K B G0 KX (YZ s g (ds.drop i) ρ') G' Dn,⟨ds.length,by lia,G1,ρ1,k1,.refl _,by rw[List.drop_zero];exact aftS.mono s1 a⟩,?_⟩;rintro i m σ' H' ⟨rfl,G',ρ',k',s',a'⟩;by_cases hi:i<ds.length
   .right
    refine⟨it.go i G' H' s' k'.gh hi,λσ2 H2=>∃G2 ρ2,EOk X.K B G0 G2 H2 σ2 ρ2/\Same G1 G2/\aftS X.K B G0 KX (YZ s g (ds.drop (i+1)) ρ2) G2 Dn,λσ2 H2 h2=>⟨ds.length-(i+1),by lia,rfl,h2⟩,λx H2 y=>?_⟩;obtain⟨G2,ex,rx⟩:=it.yld i G' H' x H2 ds[i] s' k'.gh (Qm hi) y;rw[JJ hi,YZ]at a';cases z2:s ds[i] ρ' with
    |none=>rw[z2]at a';exact a'.elim
    |some ρ2=>
     rw[z2]at a';dsimp only at a';refine⟨G2,ρ',ds[i],ρ2,k'.ext ex,rx,z2,λσ3 G3 H3 k3 s3=>⟨G3,ρ2,k3,?_⟩⟩;have s13:Same G1 G3:=(s'.trans ex.g).trans s3;cases z3:g ρ2 with
     |nx ρ3=>rw[z3]at a';exact λσ4 G4 H4 k4 s4=>⟨G4,ρ3,k4,s13.trans s4,aftS.mono ((ex.g.trans s3).trans s4) a'⟩
     |ct ρ3=>rw[z3]at a';exact λσ4 G4 H4 k4 s4=>⟨G4,ρ3,k4,s13.trans s4,aftS.mono ((ex.g.trans s3).trans s4) a'⟩
     |bk ρ3=>rw[z3]at a';exact λσ4 G4 H4 k4 s4=>a' σ4 G4 H4 k4 ((ex.g.trans s3).trans s4)
     |rt d=>rw[z3]at a';exact a'
     |ro ds=>rw[z3]at a';exact a'
     |ex ρ3 d=>rw[z3]at a';exact λv σ4 G4 H4 k4 s4 r4=>a' v σ4 G4 H4 k4 ((ex.g.trans s3).trans s4) r4
     |bad=>rw[z3]at a';exact a'.elim
   .left
    rw[List.drop_eq_nil_of_le (by lia)]at a';exact⟨it.stop i G' H' s' k'.gh (by lia),a' σ' G' H' k' (.refl _)⟩
theorem DY{k:Nat}{f:Ue}{fd:Uf}{ps:List Str}{F:AZ->A6}{g:M AZ}{x:Str}{p2:Pos}{n:Nat}(FK:FnOk X.prog X.w X.K X.mg X.base CX0 k f fd ps (spD X.K n F))(hr:Room k X.A)(hg:Gl X x)(hm:X.mg x=O (.ref f))(hk:PySem.W.keepIn X.K (.ref f)=AX)
  (hb:Zf X.K fd ps []) (ha:PA X (e::es) (tDs X.K B G0 g)) (hn:(e::es).length=n) (hdb:(x==("__debug__" : Str))=AY:=by decide) (he:Uj (e::es) X.env=(AY,eval e X.env)::Uj es X.env:=by rfl) (hpl:(backTo pos (Uj es X.env)).any (·.1)=AY:=by rfl) :
  PE X (.Call (.Name x p2) (e::es) [] pos) (tD X.K B G0 (UN g λxs=>if xs.length=n then UM (F xs)else λ_=>.bad)):=
 UY (Re FK hr hg hm hk hb .nil Tu ha hdb he hpl) λσ H Q q=>tM.one (R:=Reps X.K) q λv H2 G ρ ds k r a=>by
  split at a
  .rename_i hl
   obtain⟨d,e,a⟩:=a.opt;exact⟨G,ds,d,by rw[QR,r.length];exact hl,k.gh,by rw[QR];exact r,e,λw G' H' ex rw=>a.done k ex rw⟩
  .exact a.elim
end
noncomputable def KO(N:List Str)(ds:AZ):UB:=(ds.map λd=>O (Sl.pub d))++Um (N.length-ds.length) AW
theorem Sd{K:Frag}{N:List Str}{G H:Hp}{vs:List V}{ds:AZ}(s:Same G H)(r:Reps K G vs ds):EOk K H G G H (L2.Yc N vs) (KO N ds) where
 bh:=.refl _
 gh:=s
 g0:=.refl _
 np:=λ_ _ _ n=>n
 len:=by unfold L2.Yc KO;rw[Qh,Qh,Qd,Qd,QY,QY,r.length]
 pub:=λi d q=>by
  unfold KO at q;unfold L2.Yc;by_cases hi:i<ds.length
  .rw[Qv (by rw[Qd];exact hi),QC]at q
   cases z:ds[i]? with
   |none=>rw[z]at q;cases q
   |some d'=>rw[z]at q;cases q;obtain⟨v,e1,r1⟩:=r.get z;refine⟨v,?_,r1⟩;rw[Qv (by rw[Qd,r.length];exact hi),QC,e1];rfl
  .rw[Qx (by rw[Qd];lia),QF]at q
   split at q<;>cases q
 own:=λi es q=>by
  unfold KO at q;by_cases hi:i<ds.length
  .rw[Qv (by rw[Qd];exact hi),QC]at q
   cases z:ds[i]? with
   |none=>rw[z]at q;cases q
   |some d'=>rw[z]at q;cases q
  .rw[Qx (by rw[Qd];lia),QF]at q
   split at q<;>cases q
 sep:=λi j a es fs q _ _ _=>by
  unfold KO at q;by_cases hi:i<ds.length
  .rw[Qv (by rw[Qd];exact hi),QC]at q
   cases z:ds[i]? with
   |none=>rw[z]at q;cases q
   |some d'=>rw[z]at q;cases q
  .rw[Qx (by rw[Qd];lia),QF]at q
   split at q<;>cases q
 dp:=by
  have key:∀{i:Nat}{s:Sl},(KO N ds)[i]?=O (O s)->∃d,s=.pub d:=λ{i s} q=>by
   unfold KO at q;by_cases hi:i<ds.length
   .rw[Qv (by rw[Qd];exact hi),QC]at q
    cases z:ds[i]? with
    |none=>rw[z]at q;cases q
    |some d'=>rw[z]at q;cases q;exact⟨_,rfl⟩
   .rw[Qx (by rw[Qd];lia),QF]at q
    split at q<;>cases q
  exact .of (λi p d q=>by obtain⟨_,e⟩:=key q;cases e) λi ds q=>by obtain⟨_,e⟩:=key q;cases e
noncomputable def Ka(N:List Str)(g:SM)(ds:AZ):A6:=match g (KO N ds)with
 |.rt d=>O d
 |.nx _=>O .none
 |_=>AW
theorem okD{P:Ud}{w:World}{K:Frag}{mg:Str->A3}{base:Heap}{x qual:Str}{st:Stmt}{f:Ue}{fd:Uf}{N ps:List Str}{k n:Nat}{g:SM}(F:Fun K x qual st f fd)(S:Y5 N ps (Ki st))(hn:ps.length=n)
  (der:∀(cdv:Ub)(A:Around)(outer:List Env)(s:Uc)(H:Hp)(E:XK)(B G0:Hp),Room k (A.deeper (envOfC qual (Ki st) s.heap.objs.size f cdv)) ->
   PSs (Ks CX0 P w K mg base N qual (Ki st) f cdv A outer s H E).nox (K7 st) (tS K B G0 KX0 g)):FnOk P w K mg base CX0 (k+1) f fd ps (spD K n (Ka N g)):=by
 refine F.ok S (λvs H Q E h=>?_) (λcdv A outer s H vs Q E hr h=>?_)
 .obtain⟨_,_,_,hl,_⟩:=h
  rw[hl,hn]
 .obtain⟨G,ds,d,hl,sg,r,hF,q⟩:=h
  refine⟨_,der cdv A outer s H E H G hr,G,KO N ds,Sd sg r,?_⟩;unfold Ka at hF;cases z:g (KO N ds)with
  |rt d'=>rw[z]at hF;cases hF;exact λv G' H' ex rr=>q v G' H' ex rr
  |nx ρ=>rw[z]at hF;cases hF;exact λσ' G' H' k' _=>q .non G' H' k'.exit .non
  |ro ds=>rw[z]at hF;cases hF
  |bk ρ=>rw[z]at hF;cases hF
  |ct ρ=>rw[z]at hF;cases hF
  |ex ρ d=>rw[z]at hF;cases hF
  |bad=>rw[z]at hF;cases hF
section
variable{X:Cx}{B G0:Hp}{e a b c tg:Ug}{pos:Pos}{es rest:A4}
noncomputable def oNeg:D->A6
 |.int i=>O (.int (-i))
 |_=>AW
noncomputable def Z5(f:M D):M D:=UN f λx=>UM (oNeg x)
theorem Ed{f:M D}(h:PE X a (tD X.K B G0 f)):PE X (.UnaryOp .USub a pos) (tD X.K B G0 (Z5 f)):=
 UY (MX HB h) λσ H Q q=>tM.one (R:=Rep X.K) q λv H2 G ρ x k r a=>by
  cases x with
  |int i=>exact⟨i,r.int_inv,aft.now a k (.int _)⟩
  |_=>exact a.elim
end
def Def(P:Ud)(w:World)(K:Frag)(mg:Str->A3)(base:Heap)(x:Str)(k n:Nat)(F:AZ->A6):Prop:=
 ∃(f:Ue)(fd:Uf)(ps:List Str),mg x=O (.ref f)/\PySem.W.keepIn K (.ref f)=AX/\Zf K fd ps []/\FnOk P w K mg base CX0 k f fd ps (spD K n F)
noncomputable def UT(n:Nat)(F:AZ->A6)(g:M AZ):M D:=UN g λxs=>if xs.length=n then UM (F xs)else λ_=>.bad
section
variable{X:Cx}{B G0:Hp}{e:Ug}{pos:Pos}{es:A4}
theorem Ec{k n:Nat}{F:AZ->A6}{g:M AZ}{x:Str}{p2:Pos}(d:Def X.prog X.w X.K X.mg X.base x k n F)(hr:Room k X.A)(hg:Gl X x)(ha:PA X (e::es) (tDs X.K B G0 g))(hn:(e::es).length=n:=by rfl)
  (hdb:(x==("__debug__" : Str))=AY:=by decide) (he:Uj (e::es) X.env=(AY,eval e X.env)::Uj es X.env:=by rfl) (hpl:(backTo pos (Uj es X.env)).any (·.1)=AY:=by rfl) :
  PE X (.Call (.Name x p2) (e::es) [] pos) (tD X.K B G0 (UT n F g)):=by
 obtain⟨f,fd,ps,h1,h2,h3,h4⟩:=d;exact DY h4 hr hg h1 h2 h3 ha hn hdb he hpl
end
theorem Def.mk{P:Ud}{w:World}{K:Frag}{mg:Str->A3}{base:Heap}{x:Str}{k n:Nat}{F:AZ->A6}{st:Stmt}{f:Ue}{fd:Uf}{ps:List Str}(hm:mg x=O (.ref f))(FU:Fun K x x st f fd)(hb:Zf K fd ps [])(ok:FnOk P w K mg base CX0 k f fd ps (spD K n F)) :
  Def P w K mg base x k n F:=⟨f,fd,ps,hm,FU.kp,hb,ok⟩
theorem L4{K:Frag}{H:Hp}{a:Ue}{ns:A1}{F:AZ->A6}{E:XK}(hS:SqL K H a (ns.map V.int))(h:F [.list (ns.map int)]=O (.bool AX)):spD K 1 F [.ref a] H (λv _=>v=.bl AX) E:=
 ⟨H,[.list (ns.map int)],.bool AX,rfl,.refl _,.cons (.lst hS (Reps.ints ns)) .nil,h,λ_ _ _ _ r=>r.bl_inv⟩
end DL
namespace L2
open PySem PySem.Spec PyProof.Rows
theorem mem_of_lookup{x:Str}{k:NameKind}:∀{l:List (Str×NameKind)},l.lookup x=O k->(x,k)∈l
 |[],h=>by cases h
 |(y,j)::r,h=>by
  rw[QU]at h;split at h
  .rename_i e
   cases h;have:x=y:=by simpa using e
   rw[this];exact Qg
  .exact Qj _ (mem_of_lookup h)
theorem RL{env:Env}:∀(l:List (Str×NameKind))(acc:List (Str×Ue)),(∀y∈l,y.2=.free->∃c,env.cells.lookup y.1=O c) ->
  ∃cl,(forIn l acc (λx r=>if(x.2==NameKind.free)=AX then(do let a ←cellOf env x.1;pure (ForInStep.yield ((x.1,a)::r)))else pure (ForInStep.yield r)):Sem (List (Str×Ue)))=pure cl /\
   (∀x c,cl.lookup x=O c->acc.lookup x=O c∨env.cells.lookup x=O c)/\(∀y∈l,y.2=.free->∃c,cl.lookup y.1=O c)/\(∀x c,acc.lookup x=O c->∃c',cl.lookup x=O c')
 |[],acc,_=>⟨acc,rfl,λ_ _ h=>.inl h,λ_ h=>absurd h (by simp),λx c h=>⟨c,h⟩⟩
 |(n,k)::r,acc,h=>by
  by_cases hk:k=.free
  .subst hk
   obtain⟨c,hc⟩:=h (n,.free) Qg AV;obtain⟨cl,e,p1,p2,p3⟩:=RL r ((n,c)::acc) λy hy=>h y (Qj _ hy)
   have hco:cellOf env n=pure c:=by unfold cellOf;rw[hc]
   have key:∀x c',((n,c)::acc).lookup x=O c'->acc.lookup x=O c'∨env.cells.lookup x=O c':=λx c' q=>by
    rw[QU]at q;split at q
    .rename_i e1
     cases q;have:x=n:=by simpa using e1
     subst this;exact .inr hc
    .exact .inl q
   have own:((n,c)::acc).lookup n=O c:=by rw[List.lookup_cons];simp
   refine⟨cl,?_,λx c' q=>?_,λy hy hf=>?_,λx c' q=>?_⟩
   .rw[List.forIn_cons]
    have:(if(((n,NameKind.free):Str×NameKind).2==NameKind.free)=AX then(do let a ←cellOf env n;pure (ForInStep.yield ((n,a)::acc)))else pure (ForInStep.yield acc):Sem _)=pure (ForInStep.yield ((n,c)::acc)):=by rw[Qp (show((n,NameKind.free).snd==NameKind.free)=AX from rfl),hco];rfl
    refine Eq.trans ?_ e;dsimp only at this⊢;rw[this];rfl
   .rcases p1 x c' q with z|z
    .exact key x c' z
    .exact .inr z
   .rcases QM.mp hy with z|z
    .subst z
     exact p3 n c own
    .exact p2 y z hf
   .by_cases hx:x=n
    .subst hx;exact p3 x c own
    .refine p3 x c' ?_
     have hb:(x==n)=AY:=by simpa using hx
     rw[QU,hb];exact q
  .obtain⟨cl,e,p1,p2,p3⟩:=RL r acc λy hy=>h y (Qj _ hy)
   refine⟨cl,?_,p1,λy hy hf=>?_,p3⟩
   .rw[List.forIn_cons]
    have hb:(k==NameKind.free)=AY:=by cases k<;>first|rfl|exact absurd AV hk
    refine Eq.trans ?_ e;dsimp only;rw[hb,Qz (by decide)];rfl
   .rcases QM.mp hy with z|z
    .subst z;exact absurd hf hk
    .exact p2 y z hf
theorem NH{scope:Scope}{env:Env}(h:∀y∈scope.names,y.2=.free->∃c,env.cells.lookup y.1=O c) :
  ∃cl,closureFor scope env=pure cl/\(∀x c,cl.lookup x=O c->env.cells.lookup x=O c)/\∀y∈scope.names,y.2=.free->∃c,cl.lookup y.1=O c:=by
 obtain⟨cl,e,p1,p2,_⟩:=RL scope.names [] h;refine⟨cl,?_,λx c q=>(p1 x c q).elim (λz=>by cases z) id,p2⟩;have e2:((forIn scope.names [] (λx r=>if(x.2==NameKind.free)=AX then(do let a ←cellOf env x.1;pure (ForInStep.yield ((x.1,a)::r)))else pure (ForInStep.yield r)):Sem (List (Str×Ue))) >>= λs=>pure s)=pure cl:=by rw[e];rfl
 exact e2
theorem N7{env:Env}{x:Str}{k:NameKind}:∀{names:List (Str×NameKind)},(names.map λ(n,k)=>if(k==NameKind.free&&env.scope.kind==.function&&env.kindOf n==O .cell)then(n,NameKind.cell)else(n,k)).lookup x=O k ->
  names.lookup x=O k∨(names.lookup x=O .free/\k=.cell)
 |[],h=>by cases h
 |(n,j)::r,h=>by
  have ih:=@N7 env x k r;have h:List.lookup x ((if(j==NameKind.free&&env.scope.kind==.function&&env.kindOf n==O .cell)=AX then(n,NameKind.cell)else(n,j))::_)=O k:=h;cases hx:x==n with
  |true=>
   by_cases hc:(j==NameKind.free&&env.scope.kind==.function&&env.kindOf n==O .cell)=AX
   .rw[Qp hc]at h
    simp only[QU,hx]at h⊢;cases h;simp only[Qw]at hc;have:j=.free:=by have:=hc.1.1;cases j<;>first|rfl|cases this
    subst this;exact .inr ⟨rfl,rfl⟩
   .rw[Qz hc]at h
    simp only[QU,hx]at h⊢;exact .inl h
  |false=>
   by_cases hc:(j==NameKind.free&&env.scope.kind==.function&&env.kindOf n==O .cell)=AX
   .rw[Qp hc]at h
    simp only[QU,hx]at h⊢;exact ih h
   .rw[Qz hc]at h
    simp only[QU,hx]at h⊢;exact ih h
theorem Su{env:Env}{x:Str}:∀{names:List (Str×NameKind)},names.lookup x=O .free ->
  (names.map λ(n,k)=>if(k==NameKind.free&&env.scope.kind==.function&&env.kindOf n==O .cell)then(n,NameKind.cell)else(n,k)).lookup x=O .free ∨
  (names.map λ(n,k)=>if(k==NameKind.free&&env.scope.kind==.function&&env.kindOf n==O .cell)then(n,NameKind.cell)else(n,k)).lookup x=O .cell
 |[],h=>by cases h
 |(n,j)::r,h=>by
  have ih:=@Su env x r;show List.lookup x ((if(j==NameKind.free&&env.scope.kind==.function&&env.kindOf n==O .cell)=AX then(n,NameKind.cell)else(n,j))::_)=_∨List.lookup x ((if(j==NameKind.free&&env.scope.kind==.function&&env.kindOf n==O .cell)=AX then(n,NameKind.cell)else(n,j))::_)=_;cases hx:x==n with
  |true=>
   simp only[QU,hx]at h;cases h;by_cases hc:(NameKind.free==NameKind.free&&env.scope.kind==.function&&env.kindOf n==O .cell)=AX
   .rw[if_pos hc];simp[List.lookup_cons,hx]
   .rw[if_neg hc];simp[List.lookup_cons,hx]
  |false=>
   simp only[QU,hx]at h;by_cases hc:(j==NameKind.free&&env.scope.kind==.function&&env.kindOf n==O .cell)=AX
   .rw[Qp hc];simp only[QU,hx];exact ih h
   .rw[Qz hc];simp only[QU,hx];exact ih h
theorem Xq{env:Env}{x:Str}{k:NameKind}(hk:k≠.free):∀{names:List (Str×NameKind)},names.lookup x=O k ->
  (names.map λ(n,k)=>if(k==NameKind.free&&env.scope.kind==.function&&env.kindOf n==O .cell)then(n,NameKind.cell)else(n,k)).lookup x=O k
 |[],h=>by cases h
 |(n,j)::r,h=>by
  have ih:=@Xq env x k hk r;show List.lookup x ((if(j==NameKind.free&&env.scope.kind==.function&&env.kindOf n==O .cell)=AX then(n,NameKind.cell)else(n,j))::_)=_;cases hx:x==n with
  |true=>
   simp only[QU,hx]at h;cases h;have:(k==NameKind.free)=AY:=by cases k<;>first|rfl|exact absurd AV hk
   rw[if_neg (by rw[this];simp)];simp[List.lookup_cons,hx]
  |false=>
   simp only[QU,hx]at h;by_cases hc:(j==NameKind.free&&env.scope.kind==.function&&env.kindOf n==O .cell)=AX
   .rw[Qp hc];simp only[QU,hx];exact ih h
   .rw[Qz hc];simp only[QU,hx];exact ih h
structure ClOk(env:Env)(scope:Scope)(cl:List (Str×Ue))(L:Ue)(h':Heap):Prop where
 old:∀x c,cl.lookup x=O c->env.cells.lookup x=O c∨(L<c/\h'.IsCell c AW)
 fre:∀x,scope.names.lookup x=O .free->∃c,cl.lookup x=O c/\env.cells.lookup x=O c
 cel:∀x,scope.names.lookup x=O .cell->∃c,cl.lookup x=O c/\L<c
 inj:∀x y c,cl.lookup x=O c->cl.lookup y=O c->L<c->x=y
theorem Th:∀(names:List (Str×NameKind))(n:Nat)(acc:List (Str×Ue)),cellsFrom n names acc=cellsFrom n names []++acc
 |[],_,_=>rfl
 |(x,k)::r,n,acc=>by
  unfold cellsFrom;split
  .rw[Th r (n+1) ((x,n)::acc),Th r (n+1) [(x,n)],Ji];rfl
  .exact Th r n acc
theorem RQ:∀(names:List (Str×NameKind))(n:Nat)(x:Str)(c:Ue),(x,c)∈cellsFrom n names []->(x,NameKind.cell)∈names
 |[],_,_,_,h=>by cases h
 |(y,k)::r,n,x,c,h=>by
  unfold cellsFrom at h;split at h
  .rename_i hk
   rw[Th]at h;rcases QE.mp h with h|h
   .exact Qj _ (RQ r _ x c h)
   .cases QL.mp h
    have:k=.cell:=by simpa using hk
    rw[this];exact Qg
  .exact Qj _ (RQ r _ x c h)
theorem Pz{M:Model}{A:Around}{E:Ub->Uc->Prop}{scope:Scope}{env:Env}{jo:List (Str×Ue)}{s:Uc}{Q:Env->Uc->Prop}(je:∀x c,jo.lookup x=O c->env.cells.lookup x=O c)(km:∀y∈scope.names,y.2=.free->∃c,jo.lookup y.1=O c)(hn:∀y∈scope.names,scope.names.lookup y.1=O y.2)
  (hlt:∀x c,env.cells.lookup x=O c->c<s.heap.objs.size)
  (h:∀h' cl,h'.Ns s.heap.objs.size (λ_=>AW)->(∀b o,s.heap.get? b=O o->h'.get? b=O o)->ClOk env scope cl s.heap.objs.size h'->Q (newEnv scope s.heap.objs.size env.globals cl env.qual AW .none (O env) builtinsNs) {s with heap:=h'}) :
  Ui M A (newFunctionEnv scope env.globals jo [] env.qual AW .none (O env)) Q E s:=by
 simp only[newFunctionEnv,Option.isSome_some,if_true];refine Qb (wpAny_alloc ?_);refine wpAny_bind (wpAny_layCells _ (λname kind cells=>by cases hkc:kind==NameKind.cell<;>simp[hkc]) _ _ _ _ ?_);have ok:=cellsFrom_ok scope.names (s.heap.push {cls:=.type "dict", data:=.dict #[]}) (s.heap.objs.size+1) [] ⟨λ_ _ hm=>(nomatch hm),List.Pairwise.nil⟩ (by rw[Jq];exact Qq _);rw[Jq]at ok;rw[show({s with heap:=s.heap.push {cls:=.type "dict", data:=.dict #[]}}:Uc).heap.objs.size=s.heap.objs.size+1 from Jq ..];rw[List.forIn_nil];refine Qb (Qi (Qi (h _ _ ((Heap.Ns.new s.heap (.type "dict")).keeps (pushCells_keeps _ _)) (λb o e=>pushCells_keeps _ _ b o (Qe _ e)) ?_)));have look:∀x,(cellsFrom (s.heap.objs.size+1) scope.names jo).lookup x=((cellsFrom (s.heap.objs.size+1) scope.names []).lookup x).or (jo.lookup x):=λx=>by rw[Th,List.lookup_append]
 have own:∀x c,(cellsFrom (s.heap.objs.size+1) scope.names []).lookup x=O c->scope.names.lookup x=O .cell:=λx c e=>hn _ (RQ _ _ _ _ (Ja e))
 refine⟨λx c e=>?_,λx e=>?_,λx e=>?_,λx y c e1 e2 hc=>?_⟩
 .rw[look]at e
  cases z:(cellsFrom (s.heap.objs.size+1) scope.names []).lookup x with
  |none=>rw[z]at e;exact .inl (je x c e)
  |some c'=>rw[z]at e;cases e;obtain⟨h1,h2⟩:=ok.empty x c (Ja z);exact .inr ⟨h2,h1⟩
 .obtain⟨c,hc⟩:=km (x,.free) (mem_of_lookup e) AV
  refine⟨c,?_,je x c hc⟩;rw[look];cases z:(cellsFrom (s.heap.objs.size+1) scope.names []).lookup x with
  |none=>exact hc
  |some c'=>have:=own x c' z;rw[e]at this;cases this
 .obtain⟨c,hc⟩:=Rm (n:=s.heap.objs.size+1) e
  refine⟨c,by rw[look,hc];rfl,(ok.empty x c (Ja hc)).2⟩
 .rw[look]at e1 e2
  cases z1:(cellsFrom (s.heap.objs.size+1) scope.names []).lookup x with
  |none=>rw[z1]at e1;exact absurd (hlt x c (je x c e1)) (Nat.lt_asymm hc)
  |some c1=>
  cases z2:(cellsFrom (s.heap.objs.size+1) scope.names []).lookup y with
  |none=>rw[z2]at e2;exact absurd (hlt y c (je y c e2)) (Nat.lt_asymm hc)
  |some c2=>rw[z1]at e1;rw[z2]at e2;cases e1;cases e2;exact name_of_addr ok.apart (Ja z1) (Ja z2)
noncomputable def Cx.blk(X:Cx)(N':List Str)(scope:Scope)(cl:List (Str×Ue))(C:Ue)(s₀:Uc)(H₀:Hp)(ex:A5):Cx:=
 {X with N:=N',s₀:=s₀,H₀:=H₀,env:=compEnvC scope cl C X.env,outer:=X.stack,ex:=ex,fn:=λx=>scope.names.lookup x==O .cell,xe:=λ_ _=>False}
section
variable{X:Cx}{N':List Str}{scope:Scope}{cl:List (Str×Ue)}{C:Ue}{s₀:Uc}{H₀:Hp}{ex:A5}{x:Str}
noncomputable def visK:Option NameKind->Bool
 |some .local=>AX|some .free=>AX|some .cell=>AX|_=>AY
theorem Eb(h:visK (scope.names.lookup x)=AX):Vis (X.blk N' scope cl C s₀ H₀ ex).env.scope x:=by
 cases z:scope.names.lookup x with
 |none=>rw[z]at h;cases h
 |some y=>
  rw[z]at h;cases y with
  | «local»=>exact .inl (Xq (by decide) z)
  |cell=>exact .inr (.inl (Xq (by decide) z))
  |free=>
   rcases Su (env:=X.env) z with z|z
   .exact .inr (.inr z)
   .exact .inr (.inl z)
  |_=>cases h
noncomputable def locK:Option NameKind->Bool
 |some .local=>AX|some .cell=>AX|_=>AY
theorem Oh(h:locK (scope.names.lookup x)=AX):Loc (X.blk N' scope cl C s₀ H₀ ex).env.scope x/\((X.blk N' scope cl C s₀ H₀ ex).fn x=AX∨(X.blk N' scope cl C s₀ H₀ ex).env.scope.names.lookup x=O .local):=by
 cases z:scope.names.lookup x with
 |none=>rw[z]at h;cases h
 |some y=>
  rw[z]at h;cases y with
  | «local»=>exact⟨.inl (Xq (by decide) z),.inr (Xq (by decide) z)⟩
  |cell=>exact⟨.inr (Xq (by decide) z),.inl (by show(scope.names.lookup x==O .cell)=AX;rw[z];rfl)⟩
  |_=>cases h
theorem L1(h:scope.names.lookup x=O .globalImplicit):Gl (X.blk N' scope cl C s₀ H₀ ex) x:=Xq (by decide) h
end
noncomputable def V9(names:List (Str×NameKind))(N N2:List Str)(k:Nat):Bool:=
 N2.length==N.length+k&&(Ul N2.length).all λi=>match N2[i]? with
  |none=>AX
  |some x=>match names.lookup x with
   |some .free=>N[i]?==O x
   |some .local=>decide (N.length<=i)&&decide (i<N.length+k)
   |some .cell=>decide (N.length<=i)&&decide (i<N.length+k)
   |_=>AX
theorem Ao{names:List (Str×NameKind)}{N N2:List Str}{k:Nat}(h:V9 names N N2 k=AX) :
  N2.length=N.length+k/\∀(i:Nat) x,N2[i]?=O x->(names.lookup x=O .free->N[i]?=O x)/\(names.lookup x=O .local∨names.lookup x=O .cell->N.length<=i/\i<N.length+k):=by
 unfold V9 at h;simp only[Qw,beq_iff_eq,Q2,Jt]at h;refine⟨h.1,λi x e=>?_⟩;have hi:=(Qr.mp e).1;have:=h.2 i hi;rw[e]at this;refine⟨λq=>?_,λq=>?_⟩
 .simp only[q]at this
  simpa using this
 .rcases q with q|q<;>(simp only[q]at this;simpa using this)
theorem Inv.enter{X:Cx}{pins:List (Ue×Obj)}{σ:St}{H:Hp}{s3:Uc}(I:Inv X pins σ H s3){scope:Scope}{cl:List (Str×Ue)}{N2:List Str}{k:Nat}{h':Heap}{fp:A5}{t':Nat}{m0:Str->A3}
  (hb:V9 scope.names X.N N2 k=AX) (hkind:scope.kind=.function)
  (hfree:∀y∈scope.names,y.2=.free->X.env.scope.names.lookup y.1=O .cell∨X.env.scope.names.lookup y.1=O .free)
  (hc:ClOk X.env scope cl s3.heap.objs.size h')
  (hn:h'.Ns s3.heap.objs.size m0) (hk:∀b o,s3.heap.get? b=O o->h'.get? b=O o) (hf:∀b∈fp,Kt X pins H b) (hfo:∀b∈fp,∃o,s3.heap.get? b=O o) :
  Inv (X.blk N2 scope cl s3.heap.objs.size s3 H fp) pins (σ++Um k AW) H {s3 with heap:=h',toks:=t'}:=by
 obtain⟨hl,hN⟩:=Ao hb;have lt:∀b o,s3.heap.get? b=O o->b≠s3.heap.objs.size:=λb o e=>QQ (Qf e);have ofl:∀x,scope.names.lookup x=O .free->(x,NameKind.free)∈scope.names:=λx h=>mem_of_lookup h;have kinv:∀x kk,(X.blk N2 scope cl s3.heap.objs.size s3 H fp).env.scope.names.lookup x=O kk->scope.names.lookup x=O kk∨(scope.names.lookup x=O .free/\kk=.cell):=λx kk h=>N7 (env:=X.env) h
 have isfc:∀x,(X.blk N2 scope cl s3.heap.objs.size s3 H fp).env.scope.names.lookup x=O .cell∨(X.blk N2 scope cl s3.heap.objs.size s3 H fp).env.scope.names.lookup x=O .free->scope.names.lookup x=O .free∨scope.names.lookup x=O .cell:=λx h=>by
  rcases h with h|h
  .rcases kinv x _ h with z|z
   .exact .inr z
   .exact .inl z.1
  .rcases kinv x _ h with z|z
   .exact .inl z
   .exact .inl z.1
 have lto:∀x c,X.env.cells.lookup x=O c->c<s3.heap.objs.size:=λx c e=>let ⟨_,q⟩:=I.cell x c e;q.lt
 have ok:(X.blk N2 scope cl s3.heap.objs.size s3 H fp).Ok:=
  {
   mod:=I.ok.mod
   kind:=hkind
   glob:=I.ok.glob
   blt:=I.ok.blt
   above:=Qq _
   inj:=λx y c a b=>by
    rcases hc.old x c a with q|⟨q,_⟩
    .rcases hc.old y c b with q'|⟨q',_⟩
     .exact I.ok.inj x y c q q'
     .exact absurd (lto x c q) (Nat.lt_asymm q')
    .exact hc.inj x y c a b q
   has:=λx h=>by
    rcases isfc x h with z|z
    .exact let ⟨c,e,_⟩:=hc.fre x z;⟨c,e⟩
    .exact let ⟨c,e,_⟩:=hc.cel x z;⟨c,e⟩
   cab:=λx c h e=>by
    have z:scope.names.lookup x=O .cell:=by have h:(scope.names.lookup x==O .cell)=AX:=h;simpa using h
    obtain⟨c',e',l⟩:=hc.cel x z;have e:cl.lookup x=O c:=e;rw[e]at e';cases e';exact J7 l
   hd:=I.ok.hd
   frames:=I.ok.frames
   stk:=.inl AV
   exf:=λb hb=>⟨let ⟨o,e⟩:=hfo b hb;lt b o e,λx c e=>by
    rcases hc.old x c e with q|⟨q,_⟩
    .exact(hf b hb).2.2.2.2.1 x c q
    .obtain⟨o,e'⟩:=hfo b hb
     exact Jk (Nat.lt_trans (Qf e') q)⟩
   bs:=I.bs
   bsz:=Qt I.ok.bsz I.sz
   noex:=λb o e hb=>by
    rcases(hf b hb).2.2.2.1 with z|z
    .exact I.ok.noex b o e z
    .exact absurd (QA (Qf e) (Qt I.ok.bsz z)) (Jn _)
   exfs:=λb hb hx=>by
    rcases QM.mp (I.stkSub b hx)with z|z
    .exact(hf b hb).2.1 z
    .exact(hf b hb).2.2.1 z
   funs:=I.stack
   frf:=I.stkFree}
 refine⟨ok,rfl,I.bare,Un.kept hk,⟨m0,hn,λi x v e1 e2 e3=>?_⟩,λx c e=>?_,I.hok.fresh (Qq _),λx c e=>(hc.old x c e).elim (I.freeC x c) λq=>I.hok.fresh (J7 q.1),λp hp=>?_,I.hok.kept hk,?_⟩
 .have nl:¬(scope.names.lookup x=O .local∨scope.names.lookup x=O .cell):=λz=>by
   obtain⟨g1,g2⟩:=(hN i x e1).2 z;rw[←I.len]at g1 g2;rw[Qx g1,QF]at e2;split at e2<;>cases e2
  have fr:scope.names.lookup x=O .free:=by
   rcases e3 with z|z
   .rcases kinv x _ z with q|q
    .exact absurd (.inl q) nl
    .cases q.2
   .rcases isfc x z with q|q
    .exact q
    .exact absurd (.inr q) nl
  have eN:=(hN i x e1).1 fr;have hi:i<σ.length:=by rw[I.len];exact(Qr.mp eN).1
  rw[Qv hi]at e2;obtain⟨m,hm,hlk⟩:=I.loc;have hkd:=hfree _ (ofl x fr) AV;obtain⟨u,r,l⟩:=hlk i x v eN e2 (.inr hkd);refine⟨u,r,.inr ⟨?_,?_⟩⟩
  .rcases e3 with z|z|z
   .rcases kinv x _ z with q|q
    .exact absurd (.inl q) nl
    .cases q.2
   .exact .inl z
   .exact .inr z
  .rcases l with l|⟨_,c,ec,z⟩
   .have:X.env.scope.names.lookup x=O .local:=l.1
    rcases hkd with q|q<;>(dsimp only at q;rw[this]at q;cases q)
   .obtain⟨c',ec',this⟩:=hc.fre x fr
    rw[ec]at this;cases this;obtain⟨o,ho,hd⟩:=z;exact⟨c,ec',o,hk c o ho,hd⟩
 .rcases hc.old x c e with q|⟨_,q⟩
  .obtain⟨v,o,ho,hd⟩:=I.cell x c q
   exact⟨v,o,hk c o ho,hd⟩
  .exact⟨_,q⟩
 .obtain⟨e,n,ne,nf,d⟩:=I.pin p hp
  refine⟨hk _ _ e,n,lt _ _ e,λz=>?_,d⟩;rcases QM.mp (I.stkSub _ z)with q|q
  .exact ne q
  .exact nf q
 .rw[Qh,QY,I.len]
  exact hl.symm
noncomputable abbrev nox:Ub->Uc->Prop:=λ_ _=>False
def VF(prog:Ud)(w:World)(A:Around)(tg:Ug)(ifs:A4)(env:Env)(it:Ub)(code:Code)(W:(Uc->Prop)->Uc->Prop):Prop:=
 ∀(R:Result->Uc->Prop)(I:Nat->Uc->Prop)(n:Nat)(s:Uc),I n s ->
  (∀n s,I n s->Ui (model prog w) A (pyNext it) (λr s₁=>match r with
   |none=>R (.ok .next) s₁
   |some v=>Ui (model prog w) A (letOwnedTupleGo tg it v) (λ_ s₁'=>Ui (model prog w) A (assign tg env v) (λ_ s₂=>
     Ui (model prog w) A (forIn ifs AX λc r=>if r=AX then do let ok ←isTrue c env (eval c env);pure (ForInStep.yield ok)else pure (ForInStep.yield r)) (λok s₃=>
      if ok=AX then W (λs₅=>∃m,m<n/\I m s₅) s₃ else ∃m,m<n/\I m s₃) nox s₂) nox s₁') nox s₁) nox s)->codeAny (model prog w) A code R s
section
variable{prog:Ud}{w:World}{A:Around}{elt tg i:Ug}{ifs:A4}{gens:List Comprehension}{scope:Scope}{pos:Pos}{it acc:Ub}{env:Env}{j:Nat}
theorem Nf(hg:gens[j]?=O ⟨tg,i,ifs,0⟩)(hn:gens[j+1]?=AW):VF prog w A tg ifs env it (.compLoop (.ListComp elt gens scope pos) j it acc env)
  (λQ s=>Ui (model prog w) A (eval elt env) (λx s₄=>Ui (model prog w) A (call (.builtin "list.append") [acc,x]) (λ_ s₅=>Q s₅) nox s₄) nox s):=by
 intro R I n s h turn;refine codeAny_loop AV I (λn s hI=>?_) n h;show Ui _ A ((compTurn (.ListComp elt gens scope pos) j it acc env).onRaise (λx=>do noteFrame x env;theTreesLotGoes x)) _ _ s;refine wpAny_noted ?_;unfold compTurn;dsimp only;simp only[hg,hn];refine Qb (Q7 (Qb (QB (turn n s hI) (λr s₁ h₁=>?_) λ_ _ h'=>h'.elim)));cases r with
 |none=>exact Qi h₁
 |some v=>
  refine Qb (QB h₁ (λ_ s₁' h₁'=>?_) λ_ _ h'=>h'.elim);refine Qb (QB h₁' (λ_ s₂ h₂=>Qb (QB h₂ (λok s₃ h₃=>?_) λ_ _ h'=>h'.elim)) λ_ _ h'=>h'.elim);cases ok with
  |false=>exact Qi ⟨rfl,h₃⟩
  |true=>exact Qb (Qb (QB h₃ (λx s₄ h₄=>Qb (QB h₄ (λ_ s₅ h₅=>Qi (Qi ⟨rfl,h₅⟩)) λ_ _ h'=>h'.elim)) λ_ _ h'=>h'.elim))
theorem CO{qK i1:Ug}{ifs1:A4}(hg:gens[j]?=O ⟨tg,i,ifs,0⟩)(hn:gens[j+1]?=O ⟨qK,i1,ifs1,0⟩)(hs:∀x,UA i1 env x=pure x):VF prog w A tg ifs env it (.compLoop (.ListComp elt gens scope pos) j it acc env)
  (λQ s=>Ui (model prog w) A (eval i1 env) (λx s₄=>Ui (model prog w) A (pyIter x) (λqu s₅=>codeAny (model prog w) A (.compStart (.ListComp elt gens scope pos) (j+1) qu acc env)
   (λr s₆=>match r with | .ok _=>Q s₆ | .error _=>False) s₅) nox s₄) nox s):=by
 intro R I n s h turn;refine codeAny_loop AV I (λn s hI=>?_) n h;show Ui _ A ((compTurn (.ListComp elt gens scope pos) j it acc env).onRaise (λx=>do noteFrame x env;theTreesLotGoes x)) _ _ s;refine wpAny_noted ?_;unfold compTurn;dsimp only;simp only[hg,hn];refine Qb (Q7 (Qb (QB (turn n s hI) (λr s₁ h₁=>?_) λ_ _ h'=>h'.elim)));cases r with
 |none=>exact Qi h₁
 |some v=>
  refine Qb (QB h₁ (λ_ s₁' h₁'=>?_) λ_ _ h'=>h'.elim);refine Qb (QB h₁' (λ_ s₂ h₂=>Qb (QB h₂ (λok s₃ h₃=>?_) λ_ _ h'=>h'.elim)) λ_ _ h'=>h'.elim);cases ok with
  |false=>exact Qi ⟨rfl,h₃⟩
  |true=>
   refine Qb (QB h₃ (λx s₄ h₄=>Qb (Q7 (Qb (wpAny_of_eq (hs x) (Qb (Jl (QB h₄ (λqu s₅ h₅=>?_) λ_ _ h'=>h'.elim))))))) λ_ _ h'=>h'.elim);refine Qb (wpAny_runOwn (Jy h₅ λr s₆ h₆=>?_));cases r with
   |ok f=>exact Qi ⟨rfl,h₆⟩
   |error x=>exact h₆.elim
theorem An{R:Result->Uc->Prop}{s:Uc}(hg:gens[j]?=O ⟨tg,i,ifs,0⟩)
  (h0:codeAny (model prog w) A (.compLoop (.ListComp elt gens scope pos) j it acc env) R s)
  (h:Ui (model prog w) A (pyIter it) (λit' s'=>codeAny (model prog w) A (.compLoop (.ListComp elt gens scope pos) j it' acc env) R s') nox s) :
  codeAny (model prog w) A (.compStart (.ListComp elt gens scope pos) j it acc env) R s:=by
 refine codeAny_of_tree ?_;show Ui _ _ ((compStart (.ListComp elt gens scope pos) j it acc env).onRaise (λx=>do noteFrame x env;standAt theWindowsPlace)) _ _ s;refine wpAny_notedAt ?_;unfold compStart;have hc:(clausesOf (.ListComp elt gens scope pos))[j]?=O ⟨tg,i,ifs,0⟩:=hg;simp only[hc];show Ui _ _ (ask >>= _) _ _ s;refine Qb (wpAny_askSetting (wpAny_ite ?_));split
 .first
   |exact Qb (Qi (Qi (And.intro rfl h0)))
   |exact Qi (And.intro rfl h0)
 .first
   |exact Qb (wpAny_rule (Qb (Q7 (Qb (QB h (λit' s' h'=>Qi (And.intro rfl h')) λ_ _ x=>x.elim)))))
   |(refine Qb (wpAny_rule ?_);show Ui _ _ (standAt _ >>= _) _ _ s;exact Qb (Q7 (Qb (QB h (λit' s' h'=>Qi (And.intro rfl h')) λ_ _ x=>x.elim))))
end
end L2
namespace DL
open PySem PySem.Spec L2
open PyProof.Rows hiding St
noncomputable def YY:Option Sl->Option Sl
 |some (.own _)=>AW
 |some (.deep _ _)=>AW
 |x=>x
noncomputable def U4(ρ:UB):UB:=ρ.map YY
theorem CN{ρ:UB}{i:Nat}{d:D}(h:(U4 ρ)[i]?=O (O (.pub d))):ρ[i]?=O (O (.pub d)):=by
 unfold U4 at h;rw[QC]at h;cases e:ρ[i]? with
 |none=>rw[e]at h;cases h
 |some o=>
  rw[e]at h;cases o with
  |none=>cases h
  |some sl=>cases sl with
   |pub d'=>cases h;rfl
   |own ds=>cases h
   |deep p d'=>cases h
theorem Xm{ρ:UB}{i:Nat}{ds:AZ}(h:(U4 ρ)[i]?=O (O (.own ds))):False:=by
 unfold U4 at h;rw[QC]at h;cases e:ρ[i]? with
 |none=>rw[e]at h;cases h
 |some o=>
  rw[e]at h;cases o with
  |none=>cases h
  |some sl=>cases sl with
   |pub d'=>cases h
   |own ds=>cases h
   |deep p d'=>cases h
theorem RK{ρ:UB}{i:Nat}{p:Pat}{d:D}(h:(U4 ρ)[i]?=O (O (.deep p d))):False:=by
 unfold U4 at h;rw[QC]at h;cases e:ρ[i]? with
 |none=>rw[e]at h;cases h
 |some o=>
  rw[e]at h;cases o with
  |none=>cases h
  |some sl=>cases sl<;>cases h
noncomputable def K3(s:D->UB->A7)(t:M Bool)(g:M D):AZ->UB->AZ->Option AZ
 |[],_,es=>O es
 |d::r,ρ,es=>match s d ρ with
  |none=>AW
  |some ρ1=>match t ρ1 with
   |.bad=>AW
   |.ok b ρ2=>if b=AX then(match g ρ2 with
     |.bad=>AW
     |.ok e ρ3=>if es.length<1000000 then K3 s t g r (U4 ρ3) (es++[e])else AW)
    else K3 s t g r (U4 ρ2) es
noncomputable def KT(f:M AZ)(k:Nat)(s:D->UB->A7)(t:M Bool)(g:M D):M AZ:=λρ=>match f ρ with
 |.bad=>.bad
 |.ok ds ρ1=>match K3 s t g ds (U4 ρ1++Um k AW) []with
  |none=>.bad
  |some es=>.ok es ρ1
def Zy(X:Cx)(ifs:A4)(t:TT):Prop:=
 ∀(pins:List (Ue×Obj))(s:Uc)(σ:St)(H:Hp)(Q:Bool->Hp->Prop),Inv X pins σ H s->t σ H Q ->
  Ui (model X.prog X.w) X.A (forIn ifs AX λc r=>if r=AX then do let ok ←isTrue c X.env (eval c X.env);pure (ForInStep.yield ok)else pure (ForInStep.yield r)) (TP X pins σ Q) X.xe s
section
variable{X:Cx}{B G0:Hp}
theorem Ea:Zy X [] (tBo X.K B G0 (UF AX)):=λpins s σ H Q I ⟨G,ρ,k,a⟩=>wpAny_tests_nil ⟨H,I,a AX G H k (.refl _) AV⟩
theorem EJ{c:Ug}{t:M Bool}(h:PT X c (tBo X.K B G0 t)):Zy X [c] (tBo X.K B G0 t):=λpins s σ H Q I q=>wpAny_tests_one (h pins s σ H Q I q)
theorem EOk.rebase{K:Frag}{G H:Hp}{σ:St}{ρ:UB}(k:EOk K B G0 G H σ ρ):EOk K H G G H σ (U4 ρ) where
 bh:=.refl _
 gh:=k.gh
 g0:=.refl _
 np:=λ_ _ _ n=>n
 len:=by unfold U4;rw[Qd];exact k.len
 pub:=λi d q=>k.pub i d (CN q)
 own:=λi ds q=>(Xm q).elim
 sep:=λi j a ds es q=>(Xm q).elim
 dp:=.of (λ_ _ _ q=>RK q) λ_ _ q=>Xm q
theorem EOk.more{K:Frag}{G H:Hp}{σ:St}{ρ:UB}(k:EOk K H G G H σ (U4 ρ))(n:Nat):EOk K H G G H (σ++Um n AW) (U4 ρ++Um n AW) where
 bh:=.refl _
 gh:=k.gh
 g0:=.refl _
 np:=λ_ _ _ n=>n
 len:=by rw[Qh,Qh,k.len,QY,QY]
 pub:=λi d q=>by
  by_cases hi:i<(U4 ρ).length
  .rw[Qv hi]at q
   rw[Qv (by rw[←k.len];exact hi)];exact k.pub i d q
  .rw[Qx (Q0 hi),QF]at q
   split at q<;>cases q
 own:=λi ds q=>by
  by_cases hi:i<(U4 ρ).length
  .rw[Qv hi]at q
   exact(Xm q).elim
  .rw[Qx (Q0 hi),QF]at q
   split at q<;>cases q
 sep:=λi j a ds es q=>by
  by_cases hi:i<(U4 ρ).length
  .rw[Qv hi]at q
   exact(Xm q).elim
  .rw[Qx (Q0 hi),QF]at q
   split at q<;>cases q
 dp:=by
  refine .of (λi p d q=>?_) λi ds q=>?_
  .by_cases hi:i<(U4 ρ).length
   .rw[Qv hi]at q;exact RK q
   .rw[Qx (Q0 hi),QF]at q;split at q<;>cases q
  .by_cases hi:i<(U4 ρ).length
   .rw[Qv hi]at q;exact Xm q
   .rw[Qx (Q0 hi),QF]at q;split at q<;>cases q
theorem EOk.beside{K:Frag}{G H:Hp}{σ:St}{ρ:UB}{a:Ue}{o:HO}(k:EOk K B G0 G H σ ρ)(hg:G a=AW):EOk K (upd H a o) G G (upd H a o) σ (U4 ρ) where
 bh:=.refl _
 gh:=λb u e=>by rw[UW (λz=>by subst z;rw[hg]at e;cases e)];exact k.gh b u e
 g0:=.refl _
 np:=λ_ _ _ n=>n
 len:=k.rebase.len
 pub:=k.rebase.pub
 own:=λi ds q=>(Xm q).elim
 sep:=λi j a ds es q=>(Xm q).elim
 dp:=.of (λ_ _ _ q=>RK q) λ_ _ q=>Xm q
theorem lim1:1000000<=Uh:=lim
noncomputable def SL:Option Sl->Option Sl
 |some (.own ds)=>O (.pub (.list ds))
 |some (.deep _ d)=>O (.pub d)
 |x=>x
noncomputable def KR(ρ:UB):UB:=ρ.map SL
theorem Nd{ρ:UB}{i:Nat}{d:D}(h:(KR ρ)[i]?=O (O (.pub d))):ρ[i]?=O (O (.pub d))∨(∃ds,d=.list ds/\ρ[i]?=O (O (.own ds))) ∨ ∃p,ρ[i]?=O (O (.deep p d)):=by
 unfold KR at h;rw[QC]at h;cases e:ρ[i]? with
 |none=>rw[e]at h;cases h
 |some o=>
  rw[e]at h;cases o with
  |none=>cases h
  |some sl=>cases sl with
   |pub d'=>cases h;exact .inl AV
   |own ds=>cases h;exact .inr (.inl ⟨ds,rfl,rfl⟩)
   |deep p d'=>cases h;exact .inr (.inr ⟨p,rfl⟩)
theorem Vx{ρ:UB}{i:Nat}{ds:AZ}(h:(KR ρ)[i]?=O (O (.own ds))):False:=by
 unfold KR at h;rw[QC]at h;cases e:ρ[i]? with
 |none=>rw[e]at h;cases h
 |some o=>
  rw[e]at h;cases o with
  |none=>cases h
  |some sl=>cases sl with
   |pub d'=>cases h
   |own ds=>cases h
   |deep p d'=>cases h
theorem NG{ρ:UB}{i:Nat}{p:Pat}{d:D}(h:(KR ρ)[i]?=O (O (.deep p d))):False:=by
 unfold KR at h;rw[QC]at h;cases e:ρ[i]? with
 |none=>rw[e]at h;cases h
 |some o=>
  rw[e]at h;cases o with
  |none=>cases h
  |some sl=>cases sl<;>cases h
noncomputable def flat:D->Bool
 |.none=>AX | .bool _=>AX | .int _=>AX | .str _=>AX|_=>AY
theorem Rep.flat{K:Frag}{G G':Hp}{v:V}{d:D}(r:Rep K G v d)(h:DL.flat d=AX):Rep K G' v d:=by
 cases r with
 |non=>exact .non
 |bl b=>exact .bl b
 |int i=>exact .int i
 |str x=>exact .str x
 |lst _ _=>cases h
 |tup _ _=>cases h
 |dic _=>cases h
 |exc _ _ _ _=>cases h
 |dct _ _ _ _ _=>cases h
 |dtt _ _ _ _=>cases h
theorem Reps.flat{K:Frag}{G G':Hp}:∀{vs:List V}{ds:AZ},Reps K G vs ds->ds.all DL.flat=AX->Reps K G' vs ds
 |_,_,.nil,_=>.nil
 |_,_,.cons r t,h=>by rw[JB,Qw]at h;exact .cons (r.flat h.1) (Reps.flat t h.2)
theorem EOk.lend{K:Frag}{B G0 G H:Hp}{σ:St}{ρ:UB}{D:Ue}{o:HO}(k:EOk K B G0 G H σ ρ)(hD:H D=AW)(n:Nat):EOk K (upd H D o) H H (upd H D o) (σ++Um n AW) (KR ρ++Um n AW) where
 bh:=.refl _
 gh:=KN hD
 g0:=.refl _
 np:=λ_ _ _ n=>n
 len:=by unfold KR;rw[Qh,Qh,Qd,k.len,QY,QY]
 pub:=λi d q=>by
  have hl:(KR ρ).length=ρ.length:=by unfold KR;rw[Qd]
  by_cases hi:i<(KR ρ).length
  .rw[Qv hi]at q
   rw[Qv (by rw[←k.len,←hl];exact hi)];rcases Nd q with e|⟨ds,rfl,e⟩|⟨p,e⟩
   .obtain⟨v,h1,h2⟩:=k.pub i d e
    exact⟨v,h1,h2.mono k.gh⟩
   .obtain⟨a,vs,h1,h2,h3,h4,h5⟩:=k.own i ds e
    exact⟨.ref a,h1,.lst (SqL.of h4) (h5.mono k.gh)⟩
   .obtain⟨ω,k1,k2⟩:=k.dp
    obtain⟨v,fp,s,r,_⟩:=k1 i p d e;exact⟨v,s,r.rep k.gh⟩
  .rw[Qx (Q0 hi),QF]at q
   split at q<;>cases q
 own:=λi ds q=>by
  by_cases hi:i<(KR ρ).length
  .rw[Qv hi]at q
   exact(Vx q).elim
  .rw[Qx (Q0 hi),QF]at q
   split at q<;>cases q
 sep:=λi j a ds es q=>by
  by_cases hi:i<(KR ρ).length
  .rw[Qv hi]at q
   exact(Vx q).elim
  .rw[Qx (Q0 hi),QF]at q
   split at q<;>cases q
 dp:=by
  refine .of (λi p d q=>?_) λi ds q=>?_
  .by_cases hi:i<(KR ρ).length
   .rw[Qv hi]at q;exact NG q
   .rw[Qx (Q0 hi),QF]at q;split at q<;>cases q
  .by_cases hi:i<(KR ρ).length
   .rw[Qv hi]at q;exact Vx q
   .rw[Qx (Q0 hi),QF]at q;split at q<;>cases q
noncomputable def V0(f:M AZ)(k:Nat)(s:D->UB->A7)(t:M Bool)(g:M D):M AZ:=λρ=>match f ρ with
 |.bad=>.bad
 |.ok ds ρ1=>match K3 s t g ds (KR ρ1++Um k AW) []with
  |none=>.bad
  |some es=>if es.all flat=AX then .ok es ρ1 else .bad
end
noncomputable def Xe(s:D->UB->A7)(t:M Bool)(g:M D):AZ->UB->AZ->Option (AZ×UB)
 |[],ρ,es=>O (es,ρ)
 |d::r,ρ,es=>match s d ρ with
  |none=>AW
  |some ρ1=>match t ρ1 with
   |.bad=>AW
   |.ok b ρ2=>if b=AX then(match g ρ2 with
     |.bad=>AW
     |.ok e ρ3=>if es.length<1000000 then Xe s t g r (U4 ρ3) (es++[e])else AW)
    else Xe s t g r (U4 ρ2) es
noncomputable def YD(s0:D->UB->A7)(t0:M Bool)(f1:M AZ)(s1:D->UB->A7)(t1:M Bool)(g:M D):AZ->UB->AZ->Option AZ
 |[],_,es=>O es
 |d::r,ρ,es=>match s0 d ρ with
  |none=>AW
  |some ρ1=>match t0 ρ1 with
   |.bad=>AW
   |.ok b ρ2=>if b=AX then(match f1 ρ2 with
     |.bad=>AW
     |.ok ds ρ3=>match Xe s1 t1 g ds (U4 ρ3) es with
      |none=>AW
      |some (es',ρ4)=>YD s0 t0 f1 s1 t1 g r ρ4 es')
    else YD s0 t0 f1 s1 t1 g r (U4 ρ2) es
noncomputable def Wy(f:M AZ)(k:Nat)(s:D->UB->A7)(t:M Bool)(f1:M AZ)(jF:D->UB->A7)(t1':M Bool)(g:M D):M AZ:=λρ=>match f ρ with
 |.bad=>.bad
 |.ok ds ρ1=>match YD s t f1 jF t1' g ds (U4 ρ1++Um k AW) []with
  |none=>.bad
  |some es=>.ok es ρ1
abbrev RdB:=UB->AZ->Option (AZ×UB)
noncomputable def rL(g:M D):RdB:=λρ es=>match g ρ with
 |.bad=>AW
 |.ok e ρ3=>if es.length<1000000 then O (es++[e],U4 ρ3)else AW
noncomputable def cT(s:D->UB->A7)(t:M Bool)(rd:RdB):AZ->UB->AZ->Option (AZ×UB)
 |[],ρ,es=>O (es,ρ)
 |d::r,ρ,es=>match s d ρ with
  |none=>AW
  |some ρ1=>match t ρ1 with
   |.bad=>AW
   |.ok b ρ2=>if b=AX then(match rd ρ2 es with
     |none=>AW
     |some (es',ρ')=>cT s t rd r ρ' es')
    else cT s t rd r (U4 ρ2) es
noncomputable def rN(f:M AZ)(s:D->UB->A7)(t:M Bool)(rd:RdB):RdB:=λρ es=>match f ρ with
 |.bad=>AW
 |.ok ds ρ3=>cT s t rd ds (U4 ρ3) es
structure Left(Y:Cx)(D':Ue)(pins:List (Ue×Obj))(H G:Hp)(es':AZ)(ρ':UB)(σ':St)(H' G':Hp)(vs':List V)(s':Uc):Prop where
 inv:Inv Y pins σ' H' s'
 eok:EOk Y.K H' G' G' H' σ' ρ'
 hh:∀a o,a≠D'->H a=O o->H' a=O o
 gg:Same G G'
 np:∀a(u:MO),a≠D'->H a=O u.ho->G a=AW->G' a=AW
 hd:H' D'=O (.lst vs')
 gd:G' D'=AW
 rp:Reps Y.K G' vs' es'
def VM(Y:Cx)(D':Ue)(W:(Uc->Prop)->Uc->Prop)(rd:RdB):Prop:=
 ∀(pins:List (Ue×Obj))(sh:Uc)(σ:St)(B1 G1 H G:Hp)(ρ ρ':UB)(vs:List V)(es es':AZ)(Q:Uc->Prop),
  Inv Y pins σ H sh->EOk Y.K B1 G1 G H σ ρ->B1 D'=O (.lst vs)->G1 D'=AW->Reps Y.K G1 vs es->rd ρ es=O (es',ρ') ->
  (∀σ' H' G' vs' s',Left Y D' pins B1 G1 es' ρ' σ' H' G' vs' s'->Q s')->W Q sh
section
variable{Y:Cx}{D':Ue}
theorem Bj{elt:Ug}{g:M D}(hx:Y.xe=nox)(he:∀B1 G1,PE Y elt (tD Y.K B1 G1 g)) :
  VM Y D' (λQ s=>Ui (model Y.prog Y.w) Y.A (eval elt Y.env) (λx s₄=>Ui (model Y.prog Y.w) Y.A (call (.builtin "list.append") [.ref D',x]) (λ_ s₅=>Q s₅) nox s₄) nox s) (rL g):=by
 intro pins sh σ B1 G1 H G ρ ρ' vs es es' Q I k hD gD r z fin;unfold rL at z;cases zg:g ρ with
 |bad=>rw[zg]at z;cases z
 |ok e ρ4=>
 rw[zg]at z;dsimp only at z;split at z
 .rename_i hle
  cases z;have h:=he B1 G1 pins sh σ H (λv H8=>∃G8,EOk Y.K B1 G1 G8 H8 σ ρ4/\Rep Y.K G8 v e) I ⟨G,ρ,k,by unfold aft;rw[zg];exact λv G8 H8 k8 _ q=>⟨G8,k8,q⟩⟩;rw[hx]at h;refine thn h λev s8 ⟨v,H8,I8,rv,G8,k8,r8⟩=>?_;have h2:=VA pins s8 σ H8 (.ref D') [v] (.ref D') [ev] (λ_ H9=>H9=upd H8 D' (.lst (vs++[v]))) I8 AV (.cons rv .nil) ⟨D',vs,v,rfl,rfl,k8.bh _ _ hD,by have:=lim1;rw[r.length];lia,rfl⟩
  rw[hx]at h2;refine thn h2 λ_ s9 ⟨_,H9,I9,_,e9⟩=>?_;subst e9;have g8:=k8.np _ (.l _) hD gD;exact fin σ _ G8 _ s9 ⟨I9,k8.beside g8,λa o z q=>by rw[UW z];exact k8.bh a o q,k8.g0,λa o _ q w=>k8.np a o q w,U7,g8,(r.mono k8.g0).append (.cons r8 .nil)⟩
 .cases z
theorem ON{tg:Ug}{ifs:A4}{code:Code}{W:(Uc->Prop)->Uc->Prop}{s:D->UB->A7}{t:M Bool}{rd:RdB}{it:Ue}(hx:Y.xe=nox)(hc:Y.calm=AX)(rule:VF Y.prog Y.w Y.A tg ifs Y.env (.ref it) code W)
  (hg:∀B1 G1,PG Y tg (tG Y.K B1 G1 s)) (ht:∀B1 G1,Zy Y ifs (tBo Y.K B1 G1 t)) (hb:VM Y D' W rd)
  {pins:List (Ue×Obj)} {sh:Uc} {σ:St} {H G:Hp} {ρ ρF:UB} {fp:A5} {tn:Nat->Heap->Prop} {J:It} {ds es esF:AZ} {vs:List V} {R:Result->Uc->Prop}
  (I:Inv Y pins σ H sh) (T:Turn Y.prog Y.w Y.K tg J fp it tn) (st:tn 0 sh.heap) (hf:∀b∈fp,Kt Y pins H b)
  (k:EOk Y.K H G G H σ ρ) (its:YA Y.K J ds G) (hD:H D'=O (.lst vs)) (gD:G D'=AW) (r:Reps Y.K G vs es) (zl:cT s t rd ds ρ es=O (esF,ρF))
  (qy:∀σ' H' G' vs' s',Left Y D' pins H G esF ρF σ' H' G' vs' s'->R (.ok .next) s'):codeAny (model Y.prog Y.w) Y.A code R sh:=by
 have stat:∀{H':Hp},(∀b∈fp,H' b=AW)->∀b∈fp,Kt Y pins H' b:=λhn b hb=>⟨hn b hb,(hf b hb).2⟩
 refine rule R (λn s'=>∃i σ' H' G' ρ' vs' es',n=ds.length-i/\tn i s'.heap/\(∀b∈fp,H' b=AW)/\Left Y D' pins H G es' ρ' σ' H' G' vs' s'/\cT s t rd (ds.drop i) ρ' es'=O (esF,ρF)) ds.length sh
  ⟨0,σ,H,G,ρ,vs,es,rfl,st,λb hb=>(hf b hb).1,⟨I,k,λ_ _ _ q=>q,.refl _,λ_ _ _ _ n=>n,hD,gD,r⟩,by rw[List.drop_zero];exact zl⟩ ?_
 rintro n s' ⟨i,σ',H',G',ρ',vs',es',rfl,jD,jV,⟨I',k',qM,qE,jt,qr,gD',r'⟩,zc⟩;by_cases hlt:i<ds.length
 .rw[JJ hlt,cT]at zc
  cases zs:s ds[i] ρ' with
  |none=>rw[zs]at zc;cases zc
  |some ρ2=>
  rw[zs]at zc;dsimp only at zc;cases zt:t ρ2 with
  |bad=>rw[zt]at zc;cases zc
  |ok b ρ3=>
  rw[zt]at zc;dsimp only at zc;refine thn (T.item Y AV AV AV hc i pins s' σ' H' nox I' (stat jV) jD (its.go i G' H' qE k'.gh hlt)) λrr s4 ⟨u,hr,h4⟩=>?_;subst hr;refine thn h4 λ_ s5 ⟨x,H5,I5,r5,y5,qL,jU⟩=>?_
  obtain⟨G5,e5,rx⟩:=its.yld i G' H' x H5 ds[i] qE k'.gh (Qm hlt) y5;have h6:=hg H' G' _ s5 σ' H5 x u (λσ6 H6=>∃G6,EOk Y.K H' G' G6 H6 σ6 ρ2) (I5.pinned (stat jU) (T.obj _ _ qL)) r5 ⟨G5,ρ',ds[i],ρ2,k'.ext e5,rx,zs,λσ6 G6 H6 k6 _=>⟨G6,k6⟩⟩;rw[hx]at h6;refine thn h6 λ_ s6 ⟨σ6,H6,I6,G6,k6⟩=>?_;have h7:=ht H' G' _ s6 σ6 H6 (λc H7=>c=b/\∃G7,EOk Y.K H' G' G7 H7 σ6 ρ3) I6 ⟨G6,ρ2,k6,by unfold aft;rw[zt];exact λc G7 H7 k7 _ q=>⟨q,G7,k7⟩⟩
  rw[hx]at h7;refine thn h7 λok s7 ⟨H7,I7,hb7,G7,k7⟩=>?_;subst hb7
  have again:∀{H9:Hp}{σ9:St}{s9:Uc},Inv Y (pins++Vr fp s5.heap) σ9 H9 s9->Inv Y pins σ9 H9 s9/\tn (i+1) s9.heap/\∀b∈fp,H9 b=AW:=λ{H9 σ9 s9} I9=>by refine⟨I9.unpinned,T.keep _ _ _ qL λb hb o e=>(I9.pin (b,o) (Qo _ (Qo _ (VH hb e)))).1,λb hb=>?_⟩;obtain⟨o,e,d⟩:=T.obj _ _ qL b hb;exact(I9.pin (b,o) (Qo _ (Qo _ (VH hb e)))).2.1
  have lt:ds.length-(i+1)<ds.length-i:=Nat.sub_lt_sub_left hlt (Nat.lt_succ_self i);cases ok with
  |false=>rw[Qz (by decide)]at zc⊢;obtain⟨J1,J2,J3⟩:=again I7;exact⟨_,lt,i+1,σ6,H7,G7,U4 ρ3,vs',es',rfl,J2,J3,⟨J1,k7.rebase,λa o z q=>k7.bh a o (qM a o z q),qE.trans k7.g0,λa o z q w=>k7.np a o (qM a _ z q) (jt a o z q w),k7.bh _ _ qr,k7.np _ (.l _) qr gD',r'.mono k7.g0⟩,zc⟩
  |true=>
   rw[Qp AV]at zc⊢;cases ze:rd ρ3 es' with
   |none=>rw[ze]at zc;cases zc
   |some pr=>
   obtain⟨es1,ρ5⟩:=pr;rw[ze]at zc;refine hb _ s7 σ6 H' G' H7 G7 ρ3 ρ5 vs' es' es1 _ I7 k7 qr gD' r' ze λσ9 H9 G9 vs9 s9 L=>?_
   obtain⟨J1,J2,J3⟩:=again L.inv;exact⟨_,lt,i+1,σ9,H9,G9,ρ5,vs9,es1,rfl,J2,J3,⟨J1,L.eok,λa o z q=>L.hh a o z (qM a o z q),qE.trans L.gg,λa o z q w=>L.np a o z (qM a _ z q) (jt a o z q w),L.hd,L.gd,L.rp⟩,zc⟩
 .rw[List.drop_eq_nil_of_le (Q0 hlt),cT]at zc
  cases zc;refine thn (T.done Y AV AV AV hc i pins s' σ' H' nox I' (stat jV) jD (its.stop i G' H' qE k'.gh (Q0 hlt))) λrr s4 ⟨hr,I6⟩=>?_
  subst hr;exact qy σ' H' G' vs' s4 ⟨I6,k',qM,qE,jt,qr,gD',r'⟩
theorem Bi{elt qK i1:Ug}{ifs1:A4}{gens:List Comprehension}{scope:Scope}{pos:Pos}{j:Nat}{W:Ub->(Uc->Prop)->Uc->Prop}{f:M AZ}{s:D->UB->A7}{t:M Bool}{rd:RdB}(hx:Y.xe=nox)(hc:Y.calm=AX)
  (hn:gens[j+1]?=O ⟨qK,i1,ifs1,0⟩) (rule:∀qu,VF Y.prog Y.w Y.A qK ifs1 Y.env qu (.compLoop (.ListComp elt gens scope pos) (j+1) qu (.ref D') Y.env) (W qu))
  (hi:∀B1 G1,PI Y qK i1 (iD Y.K B1 G1 f)) (hg:∀B1 G1,PG Y qK (tG Y.K B1 G1 s)) (ht:∀B1 G1,Zy Y ifs1 (tBo Y.K B1 G1 t)) (hb:∀qu,VM Y D' (W qu) rd) :
  VM Y D' (λQ s=>Ui (model Y.prog Y.w) Y.A (eval i1 Y.env) (λx s₄=>Ui (model Y.prog Y.w) Y.A (pyIter x) (λqu s₅=>codeAny (model Y.prog Y.w) Y.A (.compStart (.ListComp elt gens scope pos) (j+1) qu (.ref D') Y.env)
   (λr s₆=>match r with | .ok _=>Q s₆ | .error _=>False) s₅) nox s₄) nox s) (rN f s t rd):=by
 intro pins sh σ B1 G1 H G ρ ρ' vs es es' Q I k hD gD r z fin;unfold rN at z;cases zf:f ρ with
 |bad=>rw[zf]at z;cases z
 |ok ds ρ3=>
 rw[zf]at z;have h:=hi B1 G1 pins sh σ H (λJ1 H8=>∃G8,EOk Y.K B1 G1 G8 H8 σ ρ3/\YA Y.K J1 ds G8) I ⟨G,ρ,k,by rw[zf];exact λJ1 G8 H8 k8 _ q=>⟨G8,k8,q⟩⟩;rw[hx]at h;refine thn h λxv s8 h8=>thn h8 λitv s9 h9=>?_
 obtain⟨qu,fp1,tn1,J1,H9,rfl,I9,T1,st9,f9,G9,k9,its9⟩:=h9
 have loop:codeAny (model Y.prog Y.w) Y.A (.compLoop (.ListComp elt gens scope pos) (j+1) (.ref qu) (.ref D') Y.env) (λr s₆=>match r with | .ok _=>Q s₆ | .error _=>False) s9:=
  ON hx hc (rule (.ref qu)) hg ht (hb _) I9 T1 st9 f9 k9.rebase its9 (k9.bh _ _ hD) (k9.np _ (.l _) hD gD) (r.mono k9.g0) z λσ' H' G' vs' s' L=>
   fin σ' H' G' vs' s' ⟨L.inv,L.eok,λa o z q=>L.hh a o z (k9.bh a o q),k9.g0.trans L.gg,λa o z q w=>L.np a o z (k9.bh a _ q) (k9.np a o q w),L.hd,L.gd,L.rp⟩
 exact An hn loop (T1.self Y.A 0 _ _ _ st9 loop)
end
def VP(Y:Cx)(e:Ug)(j:Nat)(tg:Ug)(ifs:A4)(rd:RdB):Prop:=
 ∀(D':Ue)(it:Ub),∃W,VF Y.prog Y.w Y.A tg ifs Y.env it (.compLoop e j it (.ref D') Y.env) W/\VM Y D' W rd
section
variable{Y:Cx}{elt tg i:Ug}{ifs:A4}{gens:List Comprehension}{scope:Scope}{pos:Pos}{j:Nat}
theorem Bh{g:M D}(hx:Y.xe=nox)(hg:gens[j]?=O ⟨tg,i,ifs,0⟩)(hn:gens[j+1]?=AW)(he:∀B1 G1,PE Y elt (tD Y.K B1 G1 g)):VP Y (.ListComp elt gens scope pos) j tg ifs (rL g):=
 λ_ _=>⟨_,Nf hg hn,Bj hx he⟩
theorem Bg{qK i1:Ug}{ifs1:A4}{f:M AZ}{s:D->UB->A7}{t:M Bool}{rd:RdB}(hx:Y.xe=nox)(hc:Y.calm=AX)(hg:gens[j]?=O ⟨tg,i,ifs,0⟩)(hn:gens[j+1]?=O ⟨qK,i1,ifs1,0⟩)(hs:∀x,UA i1 Y.env x=pure x)
  (hi:∀B1 G1,PI Y qK i1 (iD Y.K B1 G1 f)) (hgt:∀B1 G1,PG Y qK (tG Y.K B1 G1 s)) (ht:∀B1 G1,Zy Y ifs1 (tBo Y.K B1 G1 t)) (hb:VP Y (.ListComp elt gens scope pos) (j+1) qK ifs1 rd):VP Y (.ListComp elt gens scope pos) j tg ifs (rN f s t rd):=
 λD' _=>⟨_,CO hg hn hs,Bi hx hc hn (λqu=>(Classical.choose_spec (hb D' qu)).1) hi hgt ht (λqu=>(Classical.choose_spec (hb D' qu)).2)⟩
end
noncomputable def ZM(l:Bool)(ρ:UB):UB:=match l with|true=>KR ρ|false=>U4 ρ
theorem entry{K:Frag}{B G0 G1 H2:Hp}{σ:St}{ρ1:UB}{D:Ue}(l:Bool)(k1:EOk K B G0 G1 H2 σ ρ1)(hfr:H2 D=AW)(n:Nat) :
  ∃Gb,EOk K (upd H2 D (.lst [])) Gb Gb (upd H2 D (.lst [])) (σ++Um n AW) (ZM l ρ1++Um n AW)/\Same G1 Gb/\Gb D=AW /\
   ∀(G' H':Hp) vs es,(l=AX->es.all flat=AX)->Same Gb G'->Same H2 H'->Same G' H'->(∀a(u:MO),H2 a=O u.ho->Gb a=AW->G' a=AW)->G' D=AW->Reps K G' vs es->∃Gf,Ext G1 H2 Gf H'/\Gf D=AW/\Reps K Gf vs es:=by
 have gD:G1 D=AW:=k1.gh.free hfr;cases l with
 |false=>exact⟨G1,(k1.beside gD).more n,.refl _,gD,λG' H' vs es _ g h gh np d r=>⟨G',⟨h,g,gh,np⟩,d,r⟩⟩
 |true=>exact⟨H2,k1.lend hfr n,k1.gh,hfr,λG' H' vs es fl _ h _ _ _ r=>⟨G1,⟨h,.refl _,k1.gh.trans h,λ_ _ _ n=>n⟩,gD,r.flat (fl AV)⟩⟩
noncomputable def dCG(l:Bool)(f:M AZ)(k:Nat)(s:D->UB->A7)(t:M Bool)(rd:RdB):M AZ:=λρ=>match f ρ with
 |.bad=>.bad
 |.ok ds ρ1=>match cT s t rd ds (ZM l ρ1++Um k AW) []with
  |none=>.bad
  |some (es,_)=>if l=AX->es.all flat=AX then .ok es ρ1 else .bad
theorem OA{l:Bool}{f:M AZ}{k:Nat}{s:D->UB->A7}{t:M Bool}{rd:RdB}{ρ ρ':UB}{es:AZ}(h:dCG l f k s t rd ρ=.ok es ρ'):∃ds ρF,f ρ=.ok ds ρ'/\cT s t rd ds (ZM l ρ'++Um k AW) []=O (es,ρF)/\(l=AX->es.all flat=AX):=by
 unfold dCG at h;cases zf:f ρ with
 |bad=>rw[zf]at h;cases h
 |ok ds ρ1=>
 rw[zf]at h;dsimp only at h;cases zl:cT s t rd ds (ZM l ρ1++Um k AW) []with
 |none=>rw[zl]at h;cases h
 |some pr=>
 obtain⟨esF,ρF⟩:=pr;rw[zl]at h;dsimp only at h;split at h
 .rename_i hf
  cases h;exact⟨ds,ρF,rfl,zl,hf⟩
 .cases h
section
variable{X:Cx}{B G0:Hp}{KX:XW}
def Zm(X:Cx)(N2:List Str)(scope:Scope)(e tg:Ug)(ifs:A4)(s:D->UB->A7)(t:M Bool)(rd:RdB):Prop:=
 ∀(cl:List (Str×Ue))(C:Ue)(s₀:Uc)(H₀:Hp)(ex:A5),(∀B' G',PG (X.blk N2 scope cl C s₀ H₀ ex) tg (tG X.K B' G' s))/\(∀B' G',Zy (X.blk N2 scope cl C s₀ H₀ ex) ifs (tBo X.K B' G' t))/\VP (X.blk N2 scope cl C s₀ H₀ ex) e 0 tg ifs rd
structure Wt(SC scope:Scope)(N1 N2:List Str)(k:Nat):Prop where
 b:V9 scope.names N1 N2 k=AX
 kind:scope.kind=.function
 names:∀y∈scope.names,scope.names.lookup y.1=O y.2
 free:∀y∈scope.names,y.2=.free->SC.names.lookup y.1=O .cell∨SC.names.lookup y.1=O .free
theorem OM{l:Bool}{tg elt iter:Ug}{ifs:A4}{gs:List Comprehension}{scope:Scope}{pos pos':Pos}{N2:List Str}{k:Nat}{f:M AZ}{s:D->UB->A7}{t:M Bool}{rd:RdB}{use:Option (Ub->Sem Unit)}{Qc:Ub->Uc->Prop}(hc:X.calm=AX)
  (hi:PI X tg iter (iD X.K B G0 f)) (qg:Zm X N2 scope (.ListComp elt (⟨tg,iter,ifs,0⟩::gs) scope pos) tg ifs s t rd) (hb:Wt X.env.scope scope X.N N2 k) (hs:∀x,UA iter X.env x=pure x)
  {pins:List (Ue×Obj)} {s0:Uc} {σ:St} {G H:Hp} {ρ ρ1 ρF:UB} {ds esF:AZ} (I:Inv X pins σ H s0) (k0:EOk X.K B G0 G H σ ρ) (zf:f ρ=.ok ds ρ1) (zl:cT s t rd ds (ZM l ρ1++Um k AW) []=O (esF,ρF)) (hfl:l=AX->esF.all flat=AX)
  (qy:∀(C D:Ue)(vs:List V)(G' H':Hp)(s4:Uc)(m:Str->A3),Inv X pins σ H' s4->s4.heap.Ns C m->H' C=AW->C≠X.env.locals->X.s₀.heap.objs.size<=C->(∀x c,X.env.cells.lookup x=O c->c≠C)->(∀p∈X.pn++pins,p.1≠C) ->
   EOk X.K B G0 G' H' σ ρ1->Same G G'->NewL X.K B G' H' σ ρ1 D vs esF->compPost (model X.prog X.w) X.A X.xe use Qc (.ref D) C (.ok .next) s4) :
  Ui (model X.prog X.w) X.A (comprehension (.ListComp elt (⟨tg,iter,ifs,0⟩::gs) scope pos) scope X.env pos' (newList []) AY (eval iter X.env) use) Qc X.xe s0:=by
 obtain⟨jo,hcl,je,km⟩:=NH (scope:=scope) (env:=X.env) λy hy hf=>I.ok.has y.1 (hb.free y hy hf)
 refine wpAny_comprehension_free (use:=use) AV hs hcl hb.kind (λy hy hl=>(hb.names y hy).trans (by rw[hl])) (thn (hi pins s0 σ H (λJ H1=>∃G1,EOk X.K B G0 G1 H1 σ ρ1/\Same G G1/\YA X.K J ds G1) I ⟨G,ρ,k0,by rw[zf];exact λJ G1 H1 k1 s1 it=>⟨G1,k1,s1,it⟩⟩) λv s1 h1=>thn h1 λitv s2 h2=>?_);obtain⟨it,fp,tn,J,H2,rfl,I2,T,st2,f2,G1,k1,sg1,its⟩:=h2;refine JD (Pz je km hb.names (λx c e=>let ⟨_,q⟩:=I2.cell x c e;QA q.lt (by first|exact Qq _|(rw[Jq];exact Jr _))) λh₁ cl hns₁ kept hco=>?_);dsimp only at hns₁ kept hco⊢;have hfr:H2 s2.heap.objs.size=AW:=I2.hok.fresh (Qq _)
 have I3:Inv X pins σ (upd H2 s2.heap.objs.size (.lst [])) {s2 with heap:=s2.heap.push {cls:=.type "list", dict:=AW,data:=.seq ([]:A0).toArray}}:=
  I2.laid (t':=s2.toks) (λb u e=>Qe _ e) (Qq _) ⟨JX _,[],0,.nil,QD _ AV⟩
 generalize hP:s2.heap.push {cls:=.type "list", dict:=AW,data:=.seq ([]:A0).toArray}=P at I3 hns₁ kept hco⊢;have old:∀b o,s2.heap.get? b=O o->P.get? b=O o:=λb o e=>hP ▸ Qe _ e;have fpo:∀b∈fp,∃o,s2.heap.get? b=O o:=λb hb=>let ⟨o,e,_⟩:=T.obj _ _ st2 b hb;⟨o,e⟩
 have fpD:∀b∈fp,b≠s2.heap.objs.size:=λb hb=>let ⟨o,e⟩:=fpo b hb;QQ (Qf e)
 have f3:∀b∈fp,Kt X pins (upd H2 s2.heap.objs.size (.lst [])) b:=λb hb=>⟨by rw[UW (fpD b hb)];exact(f2 b hb).1,(f2 b hb).2⟩
 have I4:=I3.enter (scope:=scope) (cl:=cl) (N2:=N2) (k:=k) (fp:=fp) (t':=s2.toks) hb.b hb.kind hb.free hco hns₁ kept f3 (λb hb=>let ⟨o,e⟩:=fpo b hb;⟨o,old b o e⟩);dsimp only at I4;obtain⟨Gb,kb,sgb,gbD,ex⟩:=entry l k1 hfr k;have sH:Same H2 (upd H2 s2.heap.objs.size (.lst [])):=KN hfr;have jA:upd H2 s2.heap.objs.size (.lst []) s2.heap.objs.size=O (.lst []):=U7;generalize upd H2 s2.heap.objs.size (.lst [])=H3 at I3 I4 f3 kb sH jA;generalize s2.heap.objs.size=D at *;have jC:tn 0 h₁:=T.keep 0 _ _ st2 λb hb o e=>kept b o (old b o e)
 have stat:∀b∈fp,Kt (X.blk N2 scope cl P.objs.size {s2 with heap:=P} H3 fp) pins H3 b:=λb hb=>by
  obtain⟨z0,z1,z2,z3,z4,z5⟩:=f3 b hb;obtain⟨o,e⟩:=fpo b hb;refine⟨z0,QQ (Qf (old b o e)),λz=>?_,.inl hb,λx c q=>(hco.old x c q).elim (z4 x c) λw=>Jk (Nat.lt_trans (Qf (old b o e)) w.1),z5⟩;rcases QM.mp (I3.stkSub b z)with q|q
  .exact z1 q
  .exact z2 q
 have neD:∀a o,H2 a=O o->a≠D:=λa o q z=>by subst z;rw[hfr]at q;cases q
 obtain⟨hg,ht,hcl'⟩:=qg cl P.objs.size {s2 with heap:=P} H3 fp;obtain⟨W,rule,body⟩:=hcl' D (.ref it)
 have loop:=ON (Y:=X.blk N2 scope cl P.objs.size {s2 with heap:=P} H3 fp) (D':=D) (R:=compPost (model X.prog X.w) X.A X.xe use Qc (.ref D) P.objs.size) AV hc rule hg ht body I4 T jC stat kb
  ⟨λi G H s1 s2 hi=>its.go i G H (sgb.trans s1) s2 hi,λi G H s1 s2 hi=>its.stop i G H (sgb.trans s1) s2 hi,λi G H x H' d s1 s2 e y=>its.yld i G H x H' d (sgb.trans s1) s2 e y⟩ jA gbD .nil zl λσ' H' G' vs' s4 L=>by
   obtain⟨m,hm,_⟩:=id L.inv.loc;have I7:Inv X pins σ H' s4:=I3.call' (ch:=fp) L.inv.os L.inv.base L.inv.hok L.inv.bare λb hb=>⟨(f3 b hb).2.2.2.1,(f3 b hb).2.1,(f3 b hb).2.2.2.2.1,(f3 b hb).2.2.2.2.2⟩
   obtain⟨Gf,eF,dF,rF⟩:=ex G' H' vs' esF hfl L.gg (λa o q=>L.hh a o (neD a o q) (sH a o q)) L.eok.gh (λa o q z=>L.np a o (neD a _ q) (sH a _ q) z) L.gd L.rp
   refine qy P.objs.size D vs' Gf H' s4 m I7 hm L.inv.free (Jk I3.lt) I3.sz (λx c e z=>by obtain⟨_,q⟩:=I3.cell x c e;exact absurd q.lt (by rw[z];exact Jn _)) (λp hp z=>by have:=Qf (I3.pin p hp).1;exact absurd this (by rw[z];exact Jn _))
    (k1.ext eF) (sg1.trans eF.g) ⟨k1.bh.free hfr,dF,L.hd,rF,λj es' q z=>?_,λj pt d v fp q s r=>k1.freshD eF.h hfr q s r⟩
   obtain⟨a',ws,h1',h2',h3',jn,h5'⟩:=k1.own j es' q;rw[z]at h1';cases h1';rw[hfr]at jn;cases jn
 exact codeAny_compStart_list loop (T.self X.A 0 _ _ _ jC loop)
theorem R6{l:Bool}{tg elt iter:Ug}{ifs:A4}{gs:List Comprehension}{scope:Scope}{pos:Pos}{N2:List Str}{k:Nat}{f:M AZ}{s:D->UB->A7}{t:M Bool}{rd:RdB}(hc:X.calm=AX)
  (hi:PI X tg iter (iD X.K B G0 f)) (qg:Zm X N2 scope (.ListComp elt (⟨tg,iter,ifs,0⟩::gs) scope pos) tg ifs s t rd) (hb:Wt X.env.scope scope X.N N2 k) (hs:∀x,UA iter X.env x=pure x:=by intro _;rfl) :
  PE X (.ListComp elt (⟨tg,iter,ifs,0⟩::gs) scope pos) (tL X.K B G0 (dCG l f k s t rd)):=by
 intro pins s0 σ H Q I ⟨G,ρ,k0,a⟩;cases z:dCG l f k s t rd ρ with
 |bad=>rw[z]at a;exact a.elim
 |ok es ρ1=>
 rw[z]at a;obtain⟨ds,ρF,zf,zl,hfl⟩:=OA z;rw[eval_ListComp];refine OM hc hi qg hb hs I k0 zf zl hfl λC D vs G' H' s4 m I7 hm hC hL hz hcl hp k' s' n=>?_
 exact⟨m,hm,λh' sb=>⟨.ref D,H',I7.turned (t':=s4.toks) (it:=C) (λb o hb e=>(sb.2 b hb).trans e) hC hL (.inr hz) hcl hp,rfl,a D vs G' H' k' s' n⟩⟩
theorem sD_g{l:Bool}{y:Str}{j:Nat}{py:Pos}{spos:Pos}{tg elt iter:Ug}{ifs:A4}{gs:List Comprehension}{scope:Scope}{pos:Pos}{N2:List Str}{k:Nat}{f:M AZ}{s:D->UB->A7}{t:M Bool}{rd:RdB}(hN:X.N.Nodup)(hj:X.N[j]?=O y)(hy:X.env.scope.names.lookup y=O .local)(hc:X.calm=AX)
  (hi:PI X tg iter (iD X.K B G0 f)) (qg:Zm X N2 scope (.ListComp elt (⟨tg,iter,ifs,0⟩::gs) scope pos) tg ifs s t rd) (hb:Wt X.env.scope scope X.N N2 k) (hs:∀x,UA iter X.env x=pure x:=by intro _;rfl)
  (hsw:swapsWith (.ListComp elt (⟨tg,iter,ifs,0⟩::gs) scope pos) (O (.Name y py)) spos.line X.env=pure AX:=by rfl) :
  PS X (.Assign [.Name y py] (.ListComp elt (⟨tg,iter,ifs,0⟩::gs) scope pos) spos) (tS X.K B G0 KX (Kx j (dCG l f k s t rd))):=by
 intro pins s0 σ H Dn I ⟨G,ρ,k0,a⟩;unfold Kx sB at a;cases z:dCG l f k s t rd ρ with
 |bad=>rw[z]at a;exact a.elim
 |ok es ρ1=>
 rw[z]at a;dsimp only at a;by_cases hl:j<ρ1.length
 .rw[Qp hl]at a
  obtain⟨ds,ρF,zf,zl,hfl⟩:=OA z;rw[exec_Assign_Name_used _ _ _ _ hsw];refine Qb (Q7 (Qb ?_));show Ui _ X.A (do let _ ←comprehension (.ListComp elt (⟨tg,iter,ifs,0⟩::gs) scope pos) scope X.env _ (newList []) AY (eval iter X.env) (O (assign (.Name y py) X.env))) _ _ s0;refine Qb (QB (OM (use:=O (assign (.Name y py) X.env)) (Qc:=λ_ s'=>SP X pins Dn .next s') hc hi qg hb hs I k0 zf zl hfl λC D vs G' H' s4 m I7 hm hC hL hz hcl hp k' s' n=>?_) (λ_ s' hq=>Qi (Qi hq)) λ_ _ e=>e);show Ui _ X.A (assign (.Name y py) X.env (.ref D)) _ _ s4;refine wpAny_assign_Name (NQ I7 hN hj (.inl hy) (v:=.ref D) AV (λs5 I8 ⟨ad,sb,hx⟩=>?_) (.inr hy))
  have hCa:C≠ad:=by
   rcases hx with e|e
   .rw[e];exact hL
   .exact Ne.symm (hcl y ad e)
  refine⟨m,hm.sameBut sb hCa,λh' sb'=>⟨_,H',I8.turned (t':=s5.toks) (it:=C) (λb o hb e=>(sb'.2 b hb).trans e) hC hL (.inr hz) hcl hp,?_⟩⟩;exact a _ G' H' (k'.setOwn n hl) s'
 .rw[Qz hl]at a;exact a.elim
theorem R5{K:Frag}{f f':M AZ}(h:∀ρ es ρ',f ρ=.ok es ρ'->f' ρ=.ok es ρ'){σ:St}{H:Hp}{Q:VK}(q:tL K B G0 f σ H Q):tL K B G0 f' σ H Q:=by
 obtain⟨G,ρ,k,a⟩:=q;refine⟨G,ρ,k,?_⟩;cases z:f ρ with
 |bad=>rw[z]at a;exact a.elim
 |ok es ρ'=>rw[z]at a;rw[h ρ es ρ' z];exact a
theorem L0{K:Frag}{f f':M AZ}{j:Nat}(h:∀ρ es ρ',f ρ=.ok es ρ'->f' ρ=.ok es ρ'){Dn:_}{σ:St}{H:Hp}(q:tS K B G0 KX (Kx j f) Dn σ H):tS K B G0 KX (Kx j f') Dn σ H:=by
 obtain⟨G,ρ,k,a⟩:=q;refine⟨G,ρ,k,?_⟩;unfold Kx sB at a⊢;cases z:f ρ with
 |bad=>rw[z]at a;exact a.elim
 |ok es ρ'=>rw[z]at a;rw[h ρ es ρ' z];exact a
end
theorem Sc{s:D->UB->A7}{t:M Bool}{g:M D}:∀{ds:AZ}{ρ:UB}{es esF:AZ},K3 s t g ds ρ es=O esF->∃ρF,cT s t (rL g) ds ρ es=O (esF,ρF)
 |[],ρ,es,esF,h=>by rw[K3]at h;cases h;exact⟨ρ,rfl⟩
 |d::r,ρ,es,esF,h=>by
  rw[K3]at h;rw[cT];cases zs:s d ρ with
  |none=>rw[zs]at h;cases h
  |some ρ1=>
  rw[zs]at h;dsimp only at h⊢;cases zt:t ρ1 with
  |bad=>rw[zt]at h;cases h
  |ok b ρ2=>
  rw[zt]at h;dsimp only at h⊢;cases b with
  |false=>exact Sc (ds:=r) h
  |true=>
   rw[Qp AV]at h⊢;unfold rL;cases zg:g ρ2 with
   |bad=>rw[zg]at h;cases h
   |ok e ρ3=>
   rw[zg]at h;dsimp only at h⊢;split at h
   .rename_i hl
    rw[Qp hl];exact Sc (ds:=r) h
   .cases h
theorem RA{s:D->UB->A7}{t:M Bool}{g:M D}:∀{ds:AZ}{ρ:UB}{es:AZ},Xe s t g ds ρ es=cT s t (rL g) ds ρ es
 |[],ρ,es=>rfl
 |d::r,ρ,es=>by
  rw[Xe,cT];cases s d ρ with
  |none=>rfl
  |some ρ1=>
  dsimp only;cases t ρ1 with
  |bad=>rfl
  |ok b ρ2=>
  dsimp only;cases b with
  |false=>exact RA (ds:=r)
  |true=>
   rw[Qp AV,Qp AV];unfold rL;cases g ρ2 with
   |bad=>rfl
   |ok e ρ3=>
   dsimp only;split
   .exact RA (ds:=r)
   .rfl
theorem Rz{s s1:D->UB->A7}{t t1:M Bool}{f:M AZ}{g:M D}:∀{ds:AZ}{ρ:UB}{es esF:AZ},YD s t f s1 t1 g ds ρ es=O esF->∃ρF,cT s t (rN f s1 t1 (rL g)) ds ρ es=O (esF,ρF)
 |[],ρ,es,esF,h=>by rw[YD]at h;cases h;exact⟨ρ,rfl⟩
 |d::r,ρ,es,esF,h=>by
  rw[YD]at h;rw[cT];cases zs:s d ρ with
  |none=>rw[zs]at h;cases h
  |some ρ1=>
  rw[zs]at h;dsimp only at h⊢;cases zt:t ρ1 with
  |bad=>rw[zt]at h;cases h
  |ok b ρ2=>
  rw[zt]at h;dsimp only at h⊢;cases b with
  |false=>exact Rz (ds:=r) h
  |true=>
   rw[Qp AV]at h⊢;unfold rN;cases zg:f ρ2 with
   |bad=>rw[zg]at h;cases h
   |ok ds ρ3=>
   rw[zg]at h;dsimp only at h⊢;rw[←RA];cases zl:Xe s1 t1 g ds (U4 ρ3) es with
   |none=>rw[zl]at h;cases h
   |some pr=>rw[zl]at h;exact Rz (ds:=r) h
theorem DX{f:M AZ}{k:Nat}{s:D->UB->A7}{t:M Bool}{g:M D}(ρ:UB)(es:AZ)(ρ':UB)(h:KT f k s t g ρ=.ok es ρ'):dCG AY f k s t (rL g) ρ=.ok es ρ':=by
 unfold KT at h;unfold dCG;cases zf:f ρ with
 |bad=>rw[zf]at h;cases h
 |ok ds ρ1=>
 rw[zf]at h;dsimp only[ZM]at h⊢;cases zl:K3 s t g ds (U4 ρ1++Um k AW) []with
 |none=>rw[zl]at h;cases h
 |some esF=>
 rw[zl]at h;cases h;obtain⟨ρF,e⟩:=Sc zl;rw[e];exact Qp λz=>by cases z
theorem Bf{f:M AZ}{k:Nat}{s:D->UB->A7}{t:M Bool}{g:M D}(ρ:UB)(es:AZ)(ρ':UB)(h:V0 f k s t g ρ=.ok es ρ'):dCG AX f k s t (rL g) ρ=.ok es ρ':=by
 unfold V0 at h;unfold dCG;cases zf:f ρ with
 |bad=>rw[zf]at h;cases h
 |ok ds ρ1=>
 rw[zf]at h;dsimp only[ZM]at h⊢;cases zl:K3 s t g ds (KR ρ1++Um k AW) []with
 |none=>rw[zl]at h;cases h
 |some esF=>
 rw[zl]at h;dsimp only at h;split at h
 .rename_i hf
  cases h;obtain⟨ρF,e⟩:=Sc zl;rw[e];exact Qp λ_=>hf
 .cases h
theorem Be{f f1:M AZ}{k:Nat}{s s1:D->UB->A7}{t t1:M Bool}{g:M D}(ρ:UB)(es:AZ)(ρ':UB)(h:Wy f k s t f1 s1 t1 g ρ=.ok es ρ'):dCG AY f k s t (rN f1 s1 t1 (rL g)) ρ=.ok es ρ':=by
 unfold Wy at h;unfold dCG;cases zf:f ρ with
 |bad=>rw[zf]at h;cases h
 |ok ds ρ1=>
 rw[zf]at h;dsimp only[ZM]at h⊢;cases zl:YD s t f1 s1 t1 g ds (U4 ρ1++Um k AW) []with
 |none=>rw[zl]at h;cases h
 |some esF=>
 rw[zl]at h;cases h;obtain⟨ρF,e⟩:=Rz zl;rw[e];exact Qp λz=>by cases z
noncomputable def YK(q:Option NameKind->Bool)(SC scope:Scope)(N1 N2:List Str)(k:Nat):Bool:=
 V9 scope.names N1 N2 k&&decide (scope.kind=.function)&&(scope.names.all λy=>decide (scope.names.lookup y.1=O y.2))&&scope.names.all λy=>match y.2 with
  |.free=>q (SC.names.lookup y.1)
  |_=>AX
noncomputable def Xd:Option NameKind->Bool
 |some .cell=>AX|some .free=>AX|_=>AY
theorem RJ{q:Option NameKind->Bool}{SC SC' scope:Scope}{N1 N2:List Str}{k:Nat}(h:YK q SC scope N1 N2 k=AX)(f:∀x,q (SC.names.lookup x)=AX->SC'.names.lookup x=O .cell∨SC'.names.lookup x=O .free):Wt SC' scope N1 N2 k:=by unfold YK at h;rw[Qw,Qw,Qw,Q2,Q2]at h;obtain⟨⟨⟨h1,h2⟩,h0⟩,h3⟩:=h;refine⟨h1,Qa h2,λy hy=>Qa (h0 y hy),λy hy e=>?_⟩;have:=h3 y hy;rw[e]at this;exact f _ this
theorem Rh{SC scope:Scope}{N1 N2:List Str}{k:Nat}(h:YK Xd SC scope N1 N2 k=AX):Wt SC scope N1 N2 k:=RJ h λx e=>by
 cases z:SC.names.lookup x with
 |none=>rw[z]at e;cases e
 |some y=>rw[z]at e;cases y<;>first|exact .inl rfl|exact .inr rfl|cases e
section
variable{X:Cx}{B G0:Hp}{KX:XW}
theorem LA{l:Bool}{tg elt iter:Ug}{ifs:A4}{gs:List Comprehension}{scope:Scope}{pos:Pos}{f:M AZ}{s:D->UB->A7}{t:M Bool}{rd:RdB}{F:M AZ}(SC:Scope)(N1 N2:List Str)(k:Nat)(le:∀ρ es ρ',F ρ=.ok es ρ'->dCG l f k s t rd ρ=.ok es ρ')(hc:X.calm=AX)
  (hi:PI X tg iter (iD X.K B G0 f)) (qg:Zm X N2 scope (.ListComp elt (⟨tg,iter,ifs,0⟩::gs) scope pos) tg ifs s t rd) (h1:X.env.scope=SC) (h2:X.N=N1) (hb:YK Xd SC scope N1 N2 k=AX) (hs:∀x,UA iter X.env x=pure x:=by intro _;rfl) :
  PE X (.ListComp elt (⟨tg,iter,ifs,0⟩::gs) scope pos) (tL X.K B G0 F):=
 UY (R6 hc hi qg (by rw[h1,h2];exact Rh hb) hs) λ_ _ _ q=>R5 le q
theorem sD_1{l:Bool}{y:Str}{j:Nat}{py:Pos}{spos:Pos}{tg elt iter:Ug}{ifs:A4}{gs:List Comprehension}{scope:Scope}{pos:Pos}{f:M AZ}{s:D->UB->A7}{t:M Bool}{rd:RdB}{F:M AZ}(SC:Scope)(N1 N2:List Str)(k:Nat)(le:∀ρ es ρ',F ρ=.ok es ρ'->dCG l f k s t rd ρ=.ok es ρ')(hN:X.N.Nodup)(hj:X.N[j]?=O y)(hy:X.env.scope.names.lookup y=O .local)(hc:X.calm=AX)
  (hi:PI X tg iter (iD X.K B G0 f)) (qg:Zm X N2 scope (.ListComp elt (⟨tg,iter,ifs,0⟩::gs) scope pos) tg ifs s t rd) (h1:X.env.scope=SC) (h2:X.N=N1) (hb:YK Xd SC scope N1 N2 k=AX) (hs:∀x,UA iter X.env x=pure x:=by intro _;rfl)
  (hsw:swapsWith (.ListComp elt (⟨tg,iter,ifs,0⟩::gs) scope pos) (O (.Name y py)) spos.line X.env=pure AX:=by rfl) :
  PS X (.Assign [.Name y py] (.ListComp elt (⟨tg,iter,ifs,0⟩::gs) scope pos) spos) (tS X.K B G0 KX (Kx j F)):=
 Kj (sD_g hN hj hy hc hi qg (by rw[h1,h2];exact Rh hb) hs hsw) λ_ _ _ q=>L0 le q
theorem LZ{l:Bool}{scope0:Scope}{cl:List (Str×Ue)}{C:Ue}{s₀:Uc}{H₀:Hp}{ex:A5}{N2:List Str}{tg elt iter:Ug}{ifs:A4}{gs:List Comprehension}{scope:Scope}{pos:Pos}{f:M AZ}{s:D->UB->A7}{t:M Bool}{rd:RdB}{F:M AZ}(N3:List Str)(k:Nat)(le:∀ρ es ρ',F ρ=.ok es ρ'->dCG l f k s t rd ρ=.ok es ρ')(hc:X.calm=AX)
  (hi:PI (X.blk N2 scope0 cl C s₀ H₀ ex) tg iter (iD X.K B G0 f)) (qg:Zm (X.blk N2 scope0 cl C s₀ H₀ ex) N3 scope (.ListComp elt (⟨tg,iter,ifs,0⟩::gs) scope pos) tg ifs s t rd) (hb:YK Xd scope0 scope N2 N3 k=AX) (hs:∀x,UA iter (X.blk N2 scope0 cl C s₀ H₀ ex).env x=pure x:=by intro _;rfl) :
  PE (X.blk N2 scope0 cl C s₀ H₀ ex) (.ListComp elt (⟨tg,iter,ifs,0⟩::gs) scope pos) (tL X.K B G0 F):=by
 refine UY (R6 (X:=X.blk N2 scope0 cl C s₀ H₀ ex) hc hi qg (RJ hb λx e=>?_) hs) λ_ _ _ q=>R5 le q
 cases z:scope0.names.lookup x with
 |none=>rw[z]at e;cases e
 |some y=>
  rw[z]at e;cases y with
  |free=>exact(Su (env:=X.env) z).symm
  |cell=>exact .inl (Xq (by decide) z)
  |_=>cases e
end
section
variable{X:Cx}{B G0:Hp}{e a b c tg:Ug}{pos:Pos}{es rest:A4}
theorem EOk.given{K:Frag}{G H:Hp}{σ:St}{ρ:UB}{a:Ue}{vs:List V}{ds:AZ}(k:EOk K B G0 G H σ ρ)(n:NewL K B G H σ ρ a vs ds):EOk K B G0 (upd G a (.lst vs)) H σ ρ where
 bh:=k.bh
 gh:=λb u q=>by
  by_cases z:b=a
  .subst z;rw[U7]at q;cases q;exact n.h
  .rw[UW z]at q;exact k.gh b u q
 g0:=k.g0.trans (KN n.g)
 np:=λb o q z=>by
  have zb:b≠a:=λz=>by subst z;rw[n.b]at q;cases q
  rw[UW zb];exact k.np b o q z
 len:=k.len
 pub:=λi d q=>let ⟨v,h1,h2⟩:=k.pub i d q;⟨v,h1,h2.mono (KN n.g)⟩
 own:=λi ds q=>by
  obtain⟨b,ws,h1,h2,h3,h4,h5⟩:=k.own i ds q;have zb:b≠a:=λz=>by subst z;exact n.f i ds q h1
  exact⟨b,ws,h1,h2,by rw[UW zb];exact h3,h4,h5.mono (KN n.g)⟩
 sep:=k.sep
 dp:=k.dp.map (λ_ _ _ q=>⟨q,rfl⟩) (λ_ ds q=>⟨ds,q,rfl⟩) λi p d v fp q s r w nn=>⟨r.mono (KN n.g) (.refl _),λb m=>⟨(w b m).1,by rw[UW (λz=>n.dp i p d v fp q s r (by rw[←z];exact m))];exact(w b m).2⟩⟩
theorem EI{f:M AZ}(h:PE X e (tL X.K B G0 f)):PE X e (tD X.K B G0 (UO Uo f)):=
 UY h λσ H Q ⟨G,ρ,k,a⟩=>by
  refine⟨G,ρ,k,?_⟩;unfold UO UN at a;cases z:f ρ with
  |bad=>rw[z]at a;exact a.elim
  |ok ds ρ1=>rw[z]at a;intro ad vs G' H' k' s' n;exact a (.ref ad) _ H' (k'.given n) (s'.trans (KN n.g)) (.lst (SqL.of U7) (n.r.mono (KN n.g)))
theorem DW(hc:X.calm=AX):ZZ X (.builtin "all") (λxs H Q=>∃l,∃bs:List Bool,xs=[.ref l]/\SqL X.K H l (bs.map V.bl)/\Q (.bl (bs.all id)) H):=by
 intro pins s σ H xs us Q I rx h;obtain⟨l,bs,rfl,hq,q⟩:=h;obtain⟨u,rfl,ru⟩:=rx.one;cases ru;obtain⟨its,rv,p,hz⟩:=I.list hq;have hl:=p.isList;have hlt:l<s.heap.objs.size:=by obtain⟨_,e,_⟩:=id hl;exact Qf e
 have key:∀(i:Nat) v,its.toArray[i]?=O v->∃t,bs[i]?=O t/\v=.bool t:=λi v e=>by
  have e:its[i]?=O v:=by simpa using e
  have hi:i<bs.length:=by
   have:=(Qr.mp e).1;have h2:=rv.length;rw[Qd]at h2
   lia
  obtain⟨u,e2,r2⟩:=rv.get (i:=i) (x:=.bl bs[i]) (by rw[QC,Qm hi];rfl);rw[e]at e2;cases e2;exact⟨bs[i],Qm hi,r2⟩
 refine call_all_walk (wpAny_pyIter_list hl ?_)
 refine⟨s.heap.objs.size,[s.heap.objs.size,l],[s.heap.objs.size],its.toArray.size,_,_,λi=>(bs[i]?).getD AX,rfl,Walks.list (A:=X.A.in1) (I.ok.hd hc) _ l (QQ hlt) its.toArray,
  ⟨⟨_,QD _ AV,rfl,rfl⟩,hl.push _⟩,λi v s' Q' E' hP hQ=>?_,λh' tk hk=>?_⟩
 .obtain⟨b,e,rfl⟩:=key i v hP
  simp only[e,JS]at hQ;exact Q6 hQ
 .have hn:its.toArray.size=bs.length:=by have:=rv.length;rw[List.length_map]at this;simp;lia
  have e:((Ul its.toArray.size).all λi=>(bs[i]?).getD AX)=bs.all id:=by
   rw[hn,Bool.eq_iff_iff,Q2,Q2];constructor
   .intro h b hb
    obtain⟨i,hi,e⟩:=List.getElem_of_mem hb;have:=h i (Jt.mpr hi);simp only[Qm hi,JS,e]at this;exact this
   .intro h i hi
    have hi':=Jt.mp hi;simp only[Qm hi',JS];exact h _ (JT hi')
  rw[e];exact⟨.bl (bs.all id),H,I.kept (t':=tk) λb x e=>hk b x (λhm=>by rw[QL.mp hm]at e;exact Jn _ (Qf e)) (Qe _ e),rfl,q⟩
noncomputable def YL:AZ->Option (List Bool)
 |[]=>O []
 |.bool b::r=>(YL r).map (b :: ·)
 |_=>AW
theorem RR{K:Frag}{G:Hp}:∀{vs:List V}{ds:AZ}{bs:List Bool},Reps K G vs ds->YL ds=O bs->vs=bs.map V.bl
 |_,_,bs,.nil,e=>by cases e;rfl
 |_,_,bs,.cons (d:=d) r t,e=>by
  cases d with
  |bool b=>
   unfold YL at e;cases z:YL _ with
   |none=>rw[z]at e;cases e
   |some cs=>rw[z]at e;cases e;rw[r.bl_inv,RR t z];rfl
  |_=>cases e
noncomputable def ZL:AZ->A6
 |[.list ds]=>(YL ds).map λbs=>.bool (bs.all id)
 |_=>AW
theorem Lz(hc:X.calm=AX):Yl X (.builtin "all") ZL:=by
 refine⟨_,DW hc,λvs G H ds d Q s r e k=>?_⟩;unfold ZL at e;split at e
 .rename_i ds
  cases z:YL ds with
  |none=>rw[z]at e;cases e
  |some bs=>rw[z]at e;cases e;obtain⟨v,rfl,q⟩:=r.one_inv;obtain⟨l,ws,rfl,h1,r1⟩:=q.lst_inv;have hw:=RR r1 z;subst hw;exact⟨l,bs,rfl,s.seq h1,k _ G H (.refl s) (.bl _)⟩
 .cases e
noncomputable def Its(x:Str):It:=⟨λi _=>i<x.cps.size,λi H v H'=>H'=H/\∃c,x.cps[i]?=O c/\v=.str ⟨#[c]⟩,λi _=>x.cps.size<=i⟩
theorem DV{P:Ud}{w:World}{K:Frag}{tg:Ug}(x:Str)(t:Tok)(it:Ue):Turn P w K tg (Its x) [it] it (λi h=>h.IsStrIter it (strIterType x) x t i) where
 mem:=by simp
 obj:=λi h st b hb=>by
  have e:b=it:=by simpa using hb
  subst e;obtain⟨o,e,c,d⟩:=st;exact⟨o,e,λv z=>by rw[d]at z;cases z⟩
 keep:=λi h h' st k=>by obtain⟨o,e,c,d⟩:=st;exact⟨o,k it (by simp) o e,c,d⟩
 item:=by
  intro X hP hw hK hc i pins s σ H E I hf st hg;subst hP hw hK;obtain⟨f0,f1,f2,f3,f4,f5⟩:=hf it (by simp);have hx:x.cps[i]?=O x.cps[i]:=JK hg
  have fin:∀h' tk(T:String),strIterType x=T->h'.IsStrIter it T x t (i+1)->Heap.SameBut it s.heap h'->["enumerate", "zip", "dict_itemiterator", "dict_reverseitemiterator", "odict_iterator", "itertools.zip_longest", "itertools.pairwise"].contains T=AY ->
    ∃u,O (Value.str ⟨#[x.cps[i]]⟩ s.toks)=O u/\Ui (model X.prog X.w) X.A (letOwnedTupleGo tg (.ref it) u) (λ_ s2=>∃v H',Inv X pins σ H' s2/\RelV v u/\(Its x).yld i H v H'/\s2.heap.IsStrIter it (strIterType x) x t (i+1)/\∀b∈[it],H' b=AW) E {s with heap:=h',toks:=tk}:=by
   intro h' tk T eT st' sb hn;have I1:Inv X pins σ H {s with heap:=h',toks:=tk}:=I.turned (t':=tk) (λb o hb e=>(sb.2 b hb).trans e) f0 f1 f3 f4 f5;obtain⟨o,e,c,d⟩:=id st';refine⟨_,rfl,TJ (s:={s with heap:=h',toks:=tk}) e c d hn ⟨.str ⟨#[x.cps[i]]⟩,H,I1,⟨_,rfl⟩,⟨rfl,_,hx,rfl⟩,by rw[eT];exact st',λb hb=>(hf b hb).1⟩⟩
  cases ha:x.cps.all (· < 128)with
  |true=>
   have eT:strIterType x = "str_ascii_iterator" :=by simp[strIterType,ha]
   rw[eT]at st;exact wpAny_pyNext_ascii_item st hx λh' st' sb=>fin h' _ _ eT st' sb (by decide)
  |false=>
   have eT:strIterType x = "str_iterator" :=by simp[strIterType,ha]
   rw[eT]at st;exact wpAny_pyNext_wide_item st hx λh' st' sb=>fin h' _ _ eT st' sb (by decide)
 done:=by
  intro X hP hw hK hc i pins s σ H E I hf st hg;subst hP hw hK;obtain⟨f0,f1,f2,f3,f4,f5⟩:=hf it (by simp);have hx:x.cps[i]?=AW:=Array.getElem?_eq_none hg;cases ha:x.cps.all (· < 128)with
  |true=>
   have eT:strIterType x = "str_ascii_iterator" :=by simp[strIterType,ha]
   rw[eT]at st;exact wpAny_pyNext_ascii_end (I.ok.hd hc) st hx λh' eb=>⟨rfl,I.turned (t':=s.toks) (λb o hb e=>eb b o hb e) f0 f1 f3 f4 f5⟩
  |false=>
   have eT:strIterType x = "str_iterator" :=by simp[strIterType,ha]
   rw[eT]at st;exact wpAny_pyNext_wide_end (I.ok.hd hc) st hx λh' eb=>⟨rfl,I.turned (t':=s.toks) (λb o hb e=>eb b o hb e) f0 f1 f3 f4 f5⟩
 self:=λA i s Q E st h=>by
  cases ha:x.cps.all (· < 128)with
  |true=>
   have eT:strIterType x = "str_ascii_iterator" :=by simp[strIterType,ha]
   rw[eT]at st;exact wpAny_pyIter_striter_ascii st h
  |false=>
   have eT:strIterType x = "str_iterator" :=by simp[strIterType,ha]
   rw[eT]at st;exact wpAny_pyIter_striter_wide st h
noncomputable def iAny(K:Frag)(tl:TE):TI:=λσ H R=>tl σ H λx H1=>(∃a,x=.ref a/\(∃xs,SqL K H1 a xs)/\R (Itl K a) H1)∨(∃a,x=.ref a/\(∃xs,SqT K H1 a xs)/\R (Itt K a) H1) ∨ ∃z,x=.str z/\R (Its z) H1
theorem LY{l:Ug}{tl:TE}(hl:PE X l tl):PI X tg l (iAny X.K tl):=by
 intro pins s σ H R I h;refine thn (hl pins s σ H _ I h) λv s1 ⟨x,H1,I1,r1,q1⟩=>?_
 have fpOk:∀b∈[s1.heap.objs.size],Kt X pins H1 b:=λb hb=>by
  have e:b=s1.heap.objs.size:=by simpa using hb
  subst e;exact I1.fpOk (Qq _) (I1.hok.fresh (Qq _))
 rcases q1 with ⟨a,e,⟨xs,hq⟩,q⟩|⟨a,e,⟨xs,hq⟩,q⟩|⟨z,e,q⟩
 .subst e
  cases r1;obtain⟨its,rv,p,hz⟩:=I1.list hq;refine wpAny_pyIter_list p.isList ?_;exact⟨s1.heap.objs.size,[s1.heap.objs.size],_,_,H1,rfl,I1.kept (t':=s1.toks) λb o e=>Qe _ e,NP a _,⟨_,QD _ AV,rfl,rfl⟩,fpOk,q⟩
 .subst e
  cases r1;obtain⟨its,rv,p,hz⟩:=I1.tuple hq;refine wpAny_pyIter_tuple p ?_;exact⟨s1.heap.objs.size,[s1.heap.objs.size],_,_,H1,rfl,I1.kept (t':=s1.toks) λb o e=>Qe _ e,Al a _,⟨_,QD _ AV,rfl,rfl⟩,fpOk,q⟩
 .subst e
  obtain⟨t,rfl⟩:=r1;refine wpAny_pyIter_strU ?_;exact⟨s1.heap.objs.size,[s1.heap.objs.size],_,_,H1,rfl,I1.kept (t':=s1.toks) λb o e=>Qe _ e,DV z t _,⟨_,QD _ AV,rfl,rfl⟩,fpOk,q⟩
noncomputable def VZ(z:Str):AZ:=z.cps.toList.map λc=>.str ⟨#[c]⟩
noncomputable def Rg:D->Option AZ
 |.list ds=>O ds
 |.tuple ds=>O ds
 |.str z=>O (VZ z)
 |_=>AW
theorem Aj{K:Frag}{G1:Hp}{ad:Ue}{vs:List V}{ds:AZ}(h:SqT K G1 ad vs)(r:Reps K G1 vs ds):YA K (Itt K ad) ds G1 where
 go:=λi G H s1 s2 hi=>by
  have hi':i<vs.length:=by rw[r.length];exact hi
  exact⟨vs,vs[i],ZX (s1.trans s2) h,Qm hi'⟩
 stop:=λi G H s1 s2 hi=>⟨vs,ZX (s1.trans s2) h,by rw[r.length];exact hi⟩
 yld:=λi G H x H' d s1 s2 e y=>by obtain⟨rfl,y⟩:=y;obtain⟨v,e1,r1⟩:=r.get e;have:=y vs (ZX (s1.trans s2) h);rw[e1]at this;cases this;exact⟨G,.refl s2,r1.mono s1⟩
theorem Bd{K:Frag}{G1:Hp}{z:Str}:YA K (Its z) (VZ z) G1 where
 go:=λi G H s1 s2 hi=>by unfold VZ at hi;simpa[Its]using hi
 stop:=λi G H s1 s2 hi=>by unfold VZ at hi;simpa[Its]using hi
 yld:=λi G H x H' d s1 s2 e y=>by
  obtain⟨rfl,c,hc,rfl⟩:=y;unfold VZ at e;rw[QC]at e;have:z.cps.toList[i]?=O c:=by simpa using hc
  rw[this]at e;cases e;exact⟨G,.refl s2,.str _⟩
noncomputable def Km(f:M D):M AZ:=UN f λx=>UM (Rg x)
theorem LX{f:M D}(h:PE X e (tD X.K B G0 f)):PI X tg e (iD X.K B G0 (Km f)):=Xs (LY h) λσ H R q=>tM.toI (R0:=Rep X.K) q λv H' G' ρ' x k r a=>by
 cases x with
 |list ds=>obtain⟨ad,vs,rfl,h1,r1⟩:=r.lst_inv;exact .inl ⟨ad,rfl,⟨vs,k.gh.seq h1⟩,a _ G' H' k (.refl _) (BB h1 r1)⟩
 |tuple ds=>obtain⟨ad,vs,rfl,h1,r1⟩:=r.tup_inv;exact .inr (.inl ⟨ad,rfl,⟨vs,ZX k.gh h1⟩,a _ G' H' k (.refl _) (Aj h1 r1)⟩)
 |str z=>have:=r.str_inv;subst this;exact .inr (.inr ⟨z,rfl,a _ G' H' k (.refl _) Bd⟩)
 |_=>exact a.elim
theorem Ly{x:Str}{i:Int}(hg:Gl X x)(hm:∃t,X.mg x=O (.int i t))(hd:(x==("__debug__" : Str))=AY:=by decide):PE X (.Name x pos) (tD X.K B G0 (UF (.int i))):=by obtain⟨t,hm⟩:=hm;exact UY (OD (v:=.int i) hg hm ⟨t,rfl⟩ hd) λσ H Q ⟨G,ρ,k,a⟩=>aft.now a k (.int _)
end
section
variable{X:Cx}{B G0:Hp}{KX:XW}{e o a b c tg i:Ug}{pos p2:Pos}{es rest:A4}{te to ti:TE}
noncomputable def LW(te to ti:TE):TS:=λD σ H=>te σ H λv H1=>to σ H1 λx H2=>ti σ H2 λk H3=>∃l xs n,x=.ref l/\H3 l=O (.lst xs)/\k=.int n/\0<=n/\n<xs.length/\D.nx σ (upd H3 l (.lst (xs.set n.toNat v)))
theorem DU(he:PE X e te)(ho:PE X o to)(hi:PE X i ti)(hs:swapsWith e (O (.Subscript o i p2)) pos.line X.env=pure AY:=by rfl):PS X (.Assign [.Subscript o i p2] e pos) (LW te to ti):=by
 intro pins s σ H D I h;refine wpAny_Assign_Subscript (thn (he pins s σ H _ I h) λv s1 ⟨x,H1,I1,r1,q1⟩=>thn (ho pins s1 σ H1 _ I1 q1) λov s2 ⟨y,H2,I2,r2,q2⟩=>thn (hi pins s2 σ H2 _ I2 q2) λiv s3 ⟨k,H3,I3,r3,q3⟩=>?_) hs;obtain⟨l,xs,n,rfl,hl,rfl,h0,h1,q⟩:=q3;cases r2;obtain⟨t,rfl⟩:=r3;obtain⟨z,its,m,r,hlen,ee⟩:=I3.lstM hl
 refine PySem.W.ki_setAt (items:=its.toArray) (n:=m) ee h0 (by
                                  have:Uh<2 ^ 63:=by decide
                                  lia) (by simp;lia) ?_
 refine⟨σ,_,I3.lset (t':=s3.toks) (its:=its) (its':=its.set n.toNat v) (f:=(·.setIfInBounds n.toNat v)) hl ee (by simp) (r.set r1 n.toNat) (by rw[List.length_set];exact z),q⟩
noncomputable def TB(j:Nat)(g f:M D):SM:=sB f λd ρ1=>match ρ1[j]? with
 |some (O (.own _))=>sB g (λy ρ2=>match y with
  |.int k=>(match ρ2[j]? with
   |some (O (.own ds))=>if 0<=k/\k<ds.length then .nx (ρ2.set j (O (.own (ds.set k.toNat d))))else .bad
   |_=>.bad)
  |_=>.bad) ρ1
 |_=>.bad
theorem EH{j:Nat}{f g:M D}(he:PE X e (tD X.K B G0 f))(ho:PE X o (Kd j))(hi:PE X i (tD X.K B G0 g))(hs:swapsWith e (O (.Subscript o i p2)) pos.line X.env=pure AY:=by rfl) :
  PS X (.Assign [.Subscript o i p2] e pos) (tS X.K B G0 KX (TB j g f)):=
 Kj (DU he ho hi hs) λD σ H q=>tS.bnd (R:=Rep X.K) q λv H1 G1 ρ1 d k r a=>by
  cases q0:ρ1[j]? with
  |none=>rw[q0]at a;exact a.elim
  |some o0=>
   cases o0 with
   |none=>rw[q0]at a;exact a.elim
   |some jE=>
    cases jE with
    |deep _ _=>rw[q0]at a;exact a.elim
    |pub d=>rw[q0]at a;exact a.elim
    |own qT=>
     rw[q0]at a;obtain⟨ad,vs0,h1,h2,h3,h4,h5⟩:=k.own j qT q0;refine⟨.ref ad,h1,G1,ρ1,k,?_⟩;dsimp only at a;unfold sB at a;cases z:g ρ1 with
     |bad=>rw[z]at a;exact a.elim
     |ok y ρ2=>
      rw[z]at a;dsimp only at a;intro kv G' H' k' s' r';cases y with
      |int n=>
       dsimp only at a;cases q:ρ2[j]? with
       |none=>rw[q]at a;exact a.elim
       |some oo=>
        cases oo with
        |none=>rw[q]at a;exact a.elim
        |some sl=>
         cases sl with
         |deep _ _=>rw[q]at a;exact a.elim
         |pub d=>rw[q]at a;exact a.elim
         |own ds=>
          rw[q]at a;dsimp only at a;split at a
          .rename_i hn
           obtain⟨kn,vs,g1,g2,g3,g4,g5⟩:=k'.own j ds q;rw[h1]at g1;cases g1;refine⟨ad,vs,n,rfl,g4,r'.int_inv,hn.1,by rw[g5.length];exact hn.2,?_⟩;exact a σ G' _ (k'.change q h1 (g5.set (r.mono s') n.toNat)) s'
          .exact a.elim
      |_=>exact a.elim
noncomputable def Yx(z:Str)(lo hi:A9):Str:=if(Builtin.Str.strSliceIndices lo hi 1 z.length).length=z.length then z else⟨((Builtin.Str.strSliceIndices lo hi 1 z.length).filterMap (z.cps[·]?)).toArray⟩
theorem LV:SlR X (λx lo hi H Q=>∃z,x=.str z/\(Yx z lo hi).length<=Uh/\Q (.str (Yx z lo hi)) H):=by
 intro pins s σ H x v vl vu lo hi sl Q I rx hs pl pu h;obtain⟨z,rfl,hz,q⟩:=h;obtain⟨t,rfl⟩:=rx;refine⟨"str", _,F.slot_str_getitem.lookup,typeIs_str s z t,?_⟩
 obtain⟨l,el,e1⟩:∃l:Option (Int×Tok),vl=partValue l/\l.map (·.1)=lo:=by
  cases pl with
  |none=>exact⟨AW,rfl,rfl⟩
  |int k t'=>exact⟨O (k,t'),rfl,rfl⟩
 obtain⟨u,eu,e2⟩:∃u:Option (Int×Tok),vu=partValue u/\u.map (·.1)=hi:=by
  cases pu with
  |none=>exact⟨AW,rfl,rfl⟩
  |int k t'=>exact⟨O (k,t'),rfl,rfl⟩
 subst el eu;refine wpAny_getItem_str_slice (l:=l) (u:=u) (st:=AW) hs AV ?_;unfold sliceMade slicePicked;rw[e1,e2];unfold Yx at hz q;by_cases hw:(Builtin.Str.strSliceIndices lo hi 1 z.length).length=z.length
 .rw[Qp hw]at hz q
  rw[if_pos (by simp[hw])];exact⟨.str z,H,I,⟨t,rfl⟩,q⟩
 .rw[Qz hw]at hz q
  rw[if_neg (by simp[hw])];exact⟨hz,.str _,H,I.tok _,⟨_,rfl⟩,q⟩
end
section
variable{X:Cx}{B G0:Hp}{KX:XW}{e o a b c tg i:Ug}{pos p2:Pos}{es rest:A4}{te to ti:TE}
theorem pvb(i:Nat){x:Str}{pos:Pos}{N':List Str}{scope:Scope}{cl:List (Str×Ue)}{C:Ue}{s₀:Uc}{H₀:Hp}{ex:A5}(hN:N'[i]?=O x:=by rfl)
  (h:visK (scope.names.lookup x)=AX:=by rfl) (hd:(x==("__debug__" : Str))=AY:=by decide) (hcd:(x==("__classdict__" : Str))=AY:=by decide) :
  PE (X.blk N' scope cl C s₀ H₀ ex) (.Name x pos) (Kd i):=PR hN (Eb h) hd hcd
noncomputable def Yt:D->A9->A9->A6
 |.list xs,lo,hi=>O (.list (DL.cutD xs lo hi))
 |.str z,lo,hi=>if(Yx z lo hi).length<=1000000 then O (.str (Yx z lo hi))else AW
 |_,_,_=>AW
noncomputable def ZO(f:M D)(lo hi:M A9):M D:=UN f λx=>UN lo λl=>UN hi λh=>UM (Yt x l h)
theorem Bz{lo hi:Option Ug}{f:M D}{l h:M A9}(he:PE X e (tD X.K B G0 f))(hl:PO X lo (tOi X.K B G0 l))(hu:PO X hi (tOi X.K B G0 h)) :
  PE X (.Subscript e (.Slice lo hi AW p2) pos) (tD X.K B G0 (ZO f l h)):=
 UY (CF (F3.or LV) he hl hu) λσ H Q q=>by
  refine tM.one (R:=Rep X.K) q λv H2 G ρ x k r a=>?_;refine tM.nx (R:=λ_ b c=>b=c) k a λl' H3 G3 ρ3 xl k3 s3 r3 a3=>?_;refine tM.nx (R:=λ_ b c=>b=c) k3 a3 λh' H4 G4 ρ4 xh k4 s4 r4 a4=>?_;have r3:l'=xl:=r3;have r4:h'=xh:=r4;subst r3 r4;unfold UM Yt at a4
  cases x with
  |list xs=>obtain⟨ad,vs,rfl,h1,r1⟩:=((r.mono s3).mono s4).lst_inv;exact .inl ⟨ad,vs,rfl,k4.gh.seq h1,λp hp=>aft.done a4 k4 (Ext.new k4.gh hp) (.lst (SqL.of U7) ((r1.cut l' h').mono (KN (k4.gh.free hp))))⟩
  |str z=>
   dsimp only at a4;have:=r.str_inv;subst this;by_cases hc:(Yx z l' h').length<=1000000
   .rw[Qp hc]at a4
    exact .inr ⟨z,rfl,Qt hc lim,aft.now a4 k4 (.str _)⟩
   .rw[Qz hc]at a4;exact a4.elim
  |_=>exact a4.elim
end
section
variable{X:Cx}{B G0:Hp}{e o a b c tg:Ug}{pos p2:Pos}{es rest:A4}{te to ti:TE}
noncomputable def Yk{β:Type}(p:D->D->Option β)(i:Nat)(g:M D):M β:=λρ=>match ρ[i]? with
 |some (O (.pub d))=>(UN g λy=>UM (p d y)) ρ
 |some (O (.own _))=>(UN g λy=>λρ'=>match ρ'[i]? with|some (O (.own ds))=>UM (p (.list ds) y) ρ'|_=>.bad) ρ
 |_=>.bad
theorem Lx{K:Frag}{σ:St}{H:Hp}{p:D->D->qb}{r:R2}{i:Nat}{g:M D}{Q:Bool->Hp->Prop}{QV:VK}(hq:∀t H3,Q t H3->QV (.bl t) H3)(hr:∀v u G H x y d Q,Same G H->Rep K G v x->Rep K G u y->p x y=O d->Q (.bl d) H->r v u H Q)
  (q:tBo K B G0 (Yk p i g) σ H Q):Kd i σ H λx H1=>tD K B G0 g σ H1 λy H2=>r x y H2 QV:=by
 obtain⟨G,ρ,k,a⟩:=q;unfold Yk at a;cases q:ρ[i]? with
 |none=>rw[q]at a;exact a.elim
 |some o=>
  cases o with
  |none=>rw[q]at a;exact a.elim
  |some sl=>
   cases sl with
   |deep _ _=>rw[q]at a;exact a.elim
   |pub d=>
    rw[q]at a;obtain⟨v,h1,h2⟩:=k.pub i d q;refine⟨v,h1,G,ρ,k,?_⟩;dsimp only[UN]at a;cases z:g ρ with
    |bad=>rw[z]at a;exact a.elim
    |ok y ρ1=>rw[z]at a;intro u G' H' k' s' r';obtain⟨d',e',a'⟩:=aft.opt a;exact hr v u G' H' d y d' _ k'.gh (h2.mono s') r' e' (hq _ _ (a' d' G' H' k' s' AV))
   |own ds=>
    rw[q]at a;obtain⟨ad,vs,h1,h2,h3,h4,h5⟩:=k.own i ds q;refine⟨.ref ad,h1,G,ρ,k,?_⟩;dsimp only[UN]at a;cases z:g ρ with
    |bad=>rw[z]at a;exact a.elim
    |ok y ρ1=>
     rw[z]at a;dsimp only at a;intro u G' H' k' s' r';cases q1:ρ1[i]? with
     |none=>rw[q1]at a;exact a.elim
     |some oo=>
      cases oo with
      |none=>rw[q1]at a;exact a.elim
      |some sl1=>
       cases sl1 with
       |deep _ _=>rw[q1]at a;exact a.elim
       |pub d1=>rw[q1]at a;exact a.elim
       |own ds1=>
        rw[q1]at a;dsimp only at a;obtain⟨kn,ws,g1,g2,g3,g4,g5⟩:=k'.own i ds1 q1;rw[h1]at g1;cases g1;obtain⟨d',e',a'⟩:=aft.opt a;have sg:Same G' (upd G' ad (.lst ws)):=KN g3
        have sh:Same (upd G' ad (.lst ws)) H':=λb o q=>by
         by_cases z:b=ad
         .subst z;rw[U7]at q;cases q;exact g4
         .rw[UW z]at q;exact k'.gh b o q
        exact hr (.ref ad) u _ H' (.list ds1) y d' _ sh (.lst (SqL.of U7) (g5.mono sg)) (r'.mono sg) e' (hq _ _ (a' d' G' H' k' s' AV))
theorem EG{op:CmpOp}{p:D->D->qb}{i:Nat}{g:M D}(o:OpB X (Uk op) p)(ha:PE X a (Kd i))(hb:PE X b (tD X.K B G0 g))(hm:behindInMarks op b=AY) :
  PT X (.Compare a [op] [b] pos) (tBo X.K B G0 (Yk p i g)):=by
 obtain⟨r,h,j⟩:=o;exact ZK (OG h ha hb hm) λσ H Q q=>Lx (λt H3 z=>⟨t,rfl,z⟩) j q
end
end DL
namespace L2
open PySem PySem.Spec PyProof.Rows
end L2
namespace DL
open PySem PySem.Spec L2
open PyProof.Rows hiding St
section
variable{X:Cx}{B G0:Hp}{e o a b c tg:Ug}{pos p2 p3:Pos}{es rest:A4}{te to ti:TE}
theorem Bc{tl th ts:TO}{lo hi:Option Ug}{st:Ug}(he:PE X e te)(hl:PO X lo tl)(hu:PO X hi th)(hst:PO X (O st) ts):PE X (.Subscript e (.Slice lo hi (O st) p2) pos)
  (λσ H Q=>te σ H λx H1=>tl σ H1 λl H2=>th σ H2 λu H3=>ts σ H3 λt H4=>∃a xs,x=.ref a/\SqL X.K H4 a xs/\l=AW/\u=AW/\t=O (-1)/\∀p,H4 p=AW->Q (.ref p) (upd H4 p (.lst xs.reverse))):=by
 intro pins s σ H Q I h;refine Subscript_ (thn (he pins s σ H _ I h) λv s1 ⟨x,H1,I1,r1,q1⟩=>?_);refine wpAny_Slice (thn (hl pins s1 σ H1 _ I1 q1) λvl s2 ⟨l,H2,I2,pl,q2⟩=>thn (hu pins s2 σ H2 _ I2 q2) λvu s3 ⟨u,H3,I3,pu,q3⟩=>thn (hst pins s3 σ H3 _ I3 q3) λvt s4 ⟨t,H4,I4,pt,q4⟩=>?_);obtain⟨a,xs,rfl,hx,rfl,rfl,rfl,q⟩:=q4;cases r1;have I5:Inv X pins σ H4 {s4 with heap:=s4.heap.push {cls:=.type "slice", data:=.fields #[vl,vu,vt]}}:=I4.kept (t':=s4.toks) λb ob q=>Qe _ q
 obtain⟨its,r,ht,hz⟩:=I5.list hx;have hlen:=r.length;have hg:Ui (model X.prog X.w) X.A (getItem (.ref a) (.ref s4.heap.objs.size)) (EP X pins σ Q) X.xe {s4 with heap:=s4.heap.push {cls:=.type "slice", data:=.fields #[vl,vu,vt]}}:=by refine wpAny_getItem_list_slice ht.isList (Heap.IsSliceOf.new ..) pl pu pt (by simp) ?_ (by rw[List.size_toArray]<;>lia);rw[PySem.W.krv_pick];refine⟨.ref _,_,I5.laid (t':=s4.toks) (o:=.lst xs.reverse) (λb ob q=>Qe _ q) (Qq _) ?_,rfl,q _ (I5.hok.fresh (Qq _))⟩;exact⟨by rw[List.length_reverse];exact hz,its.reverse,0,r.reverse,QD _ AV⟩
 show Ui (model X.prog X.w) X.A (subscriptTail e (.Slice lo hi (O st) p2) (.ref a) (.ref s4.heap.objs.size)) (EP X pins σ Q) X.xe {s4 with heap:=s4.heap.push {cls:=.type "slice", data:=.fields #[vl,vu,vt]}};exact tail_any (ops:=[.ref a,.ref s4.heap.objs.size]) ht.isList.typeIs slot_list_getitem.lookup hg (by with_unfolding_all rfl)
noncomputable def Xw:D->A9->A9->A9->A6
 |.list xs,AW,AW,O i=>if i = -1 then O (.list xs.reverse)else AW
 |_,_,_,_=>AW
noncomputable def XM(f:M D)(lo hi st:M A9):M D:=UN f λx=>UN lo λl=>UN hi λh=>UN st λt=>UM (Xw x l h t)
theorem EF{lo hi:Option Ug}{st:Ug}{f:M D}{l h t:M A9}(he:PE X e (tD X.K B G0 f))(hl:PO X lo (tOi X.K B G0 l))(hu:PO X hi (tOi X.K B G0 h))(hst:PO X (O st) (tOi X.K B G0 t)) :
  PE X (.Subscript e (.Slice lo hi (O st) p2) pos) (tD X.K B G0 (XM f l h t)):=
 UY (Bc he hl hu hst) λσ H Q q=>by
  refine tM.one (R:=Rep X.K) q λv H2 G ρ x k r a=>?_;refine tM.nx (R:=λ_ b c=>b=c) k a λl' H3 G3 ρ3 xl k3 s3 r3 a3=>?_;refine tM.nx (R:=λ_ b c=>b=c) k3 a3 λh' H4 G4 ρ4 xh k4 s4 r4 a4=>?_;refine tM.nx (R:=λ_ b c=>b=c) k4 a4 λt' H5 G5 ρ5 xt k5 s5 r5 a5=>?_;have r3:l'=xl:=r3;have r4:h'=xh:=r4;have r5:t'=xt:=r5;subst r3 r4 r5
  cases x with
  |list xs=>
   cases l' with
   |some _=>exact a5.elim
   |none=>
   cases h' with
   |some _=>exact a5.elim
   |none=>
   cases t' with
   |none=>exact a5.elim
   |some i=>
   obtain⟨ad,vs,rfl,h1,r1⟩:=(((r.mono s3).mono s4).mono s5).lst_inv;by_cases hi:i = -1
   .subst hi
    exact⟨ad,vs,rfl,k5.gh.seq h1,rfl,rfl,rfl,λp hp=>aft.done a5 k5 (Ext.new k5.gh hp) (.lst (SqL.of U7) (r1.reverse.mono (KN (k5.gh.free hp))))⟩
   .unfold UM Xw at a5
    dsimp only at a5;rw[Qz hi]at a5;exact a5.elim
  |_=>unfold UM Xw at a5;exact a5.elim
noncomputable def X2:AZ->Option AZ
 |[.list xs]=>O xs
 |[.tuple xs]=>O xs
 |_=>AW
theorem Nc{x l:AZ}(h:X2 x=O l):x=[.list l]∨x=[.tuple l]:=by
 unfold X2 at h;split at h
 .cases h;exact .inl AV
 .cases h;exact .inr AV
 .cases h
theorem NF:bootBuiltins "list" = O (.type "list"):=by decide +kernel
theorem DT{f:M AZ}(hg:Gl X "list")(hm:X.mg "list" = AW)(ha:PA X [a] (tDs X.K B G0 f))(he:Uj [a] X.env=(AY,eval a X.env)::Uj [] X.env:=by rfl) :
  PE X (.Call (.Name "list" p2) [a] [] pos) (tL X.K B G0 (UN f λxs=>UM (X2 xs))):=
 UY (Rt NX hg hm NF ha (by decide) (by decide) he AV) λσ H Q ⟨G,ρ,k,q⟩=>by
  refine⟨G,ρ,k,?_⟩;unfold UN at q;cases z:f ρ with
  |bad=>rw[z]at q;exact q.elim
  |ok xs ρ1=>
   rw[z]at q;dsimp only[UM]at q;intro vs G' H' k' s' r;cases z2:X2 xs with
   |none=>rw[z2]at q;exact q.elim
   |some l=>
    rw[z2]at q;rcases Nc z2 with rfl|rfl
    .obtain⟨v,rfl,q1⟩:=r.one_inv
     obtain⟨p,ws,rfl,h1,r1⟩:=q1.lst_inv;exact⟨p,ws,rfl,.inl (k'.gh.seq h1),λad hp=>q ad ws G' _ (k'.ext (Ext.hid k'.gh hp)) s' (NewL.of k' hp r1)⟩
    .obtain⟨v,rfl,q1⟩:=r.one_inv
     obtain⟨p,ws,rfl,h1,r1⟩:=q1.tup_inv;exact⟨p,ws,rfl,.inr (ZX k'.gh h1),λad hp=>q ad ws G' _ (k'.ext (Ext.hid k'.gh hp)) s' (NewL.of k' hp r1)⟩
noncomputable def VY(i:Nat):M AZ:=λρ=>match ρ[i]? with
 |some (O (.pub d))=>UM (X2 [d]) ρ
 |some (O (.own ds))=>.ok ds ρ
 |_=>.bad
theorem Bb{i:Nat}(hg:Gl X "list")(hm:X.mg "list" = AW)(ho:PE X a (Kd i))(he:Uj [a] X.env=(AY,eval a X.env)::Uj [] X.env:=by rfl) :
  PE X (.Call (.Name "list" p2) [a] [] pos) (tL X.K B G0 (VY i)):=
 UY (Rt NX hg hm NF (K5 ho ZD he) (by decide) (by decide) he AV) λσ H Q ⟨G,ρ,k,q⟩=>by
  unfold VY at q;cases z:ρ[i]? with
  |none=>rw[z]at q;exact q.elim
  |some oo=>
   cases oo with
   |none=>rw[z]at q;exact q.elim
   |some sl=>
    cases sl with
    |deep _ _=>rw[z]at q;exact q.elim
    |own ds=>rw[z]at q;dsimp only at q;obtain⟨ad,vs,h1,h2,h3,h4,h5⟩:=k.own i ds z;exact⟨.ref ad,h1,ad,vs,rfl,.inl (SqL.of h4),λl hp=>q l vs G _ (k.ext (Ext.hid k.gh hp)) (.refl _) (NewL.of k hp h5)⟩
    |pub d=>
     rw[z]at q;dsimp only[UM]at q;obtain⟨v,h1,h2⟩:=k.pub i d z;cases z2:X2 [d]with
     |none=>rw[z2]at q;exact q.elim
     |some l=>
      rw[z2]at q;dsimp only at q;rcases Nc z2 with e|e
      .cases e
       obtain⟨p,ws,rfl,g1,r1⟩:=h2.lst_inv;exact⟨_,h1,p,ws,rfl,.inl (k.gh.seq g1),λad hp=>q ad ws G _ (k.ext (Ext.hid k.gh hp)) (.refl _) (NewL.of k hp r1)⟩
      .cases e
       obtain⟨p,ws,rfl,g1,r1⟩:=h2.tup_inv;exact⟨_,h1,p,ws,rfl,.inr (ZX k.gh g1),λad hp=>q ad ws G _ (k.ext (Ext.hid k.gh hp)) (.refl _) (NewL.of k hp r1)⟩
end
section
variable{X:Cx}{B G0:Hp}{e o a b c tg:Ug}{pos p2 p3 p4:Pos}{es rest:A4}{te to ti:TE}
theorem Vz:∀{ns:A1}{us:A0},Vals (ns.map V.int) us->PyProof.Rows.IntsAre us ns
 |[],_,.nil=>.nil
 |n::ns,_,.cons h t=>by obtain⟨tk,rfl⟩:=h;exact .cons n tk (Vz t)
noncomputable def Y3(ns:A1):Nat:=(PyProof.Rows.firstMet (λi=>ns.getD i 0) ns.length).length
theorem Ba(hc:X.calm=AX):ZZ X (.type "set") (λxs H Q=>∃l,∃ns:A1,xs=[.ref l]/\SqL X.K H l (ns.map V.int)/\ns.length+1<4096/\∀S p,H p=AW->Q (.ref p) (upd H p (.set S (Y3 ns)))):=by
 intro pins s σ H xs us Q I rx h;obtain⟨l,ns,rfl,hq,hb,q⟩:=h;obtain⟨u,rfl,ru⟩:=rx.one;cases ru;obtain⟨its,rv,p,hz⟩:=I.list hq;have hi:=Vz rv;have hn:its.toArray.size=ns.length:=by have:=rv.length;rw[List.length_map]at this;simp;lia
 refine call_set_list (I.ok.hd hc) p.isList (ns:=ns) (by simpa using hi) (by rw[hn];exact hb) λh' tk hS hk=>?_
 rw[hn]at hS;refine⟨.ref s.heap.objs.size,_,I.laid (t':=tk) (λb o e=>hk b o (Qf e) e) (Qq _) (show K4 X.prog X.w _ h' _ (.set _ (Y3 ns))from hS),rfl,q _ _ (I.hok.fresh (Qq _))⟩
theorem C9:ZZ X (.builtin "len") (λxs H Q=>∃p S n,xs=[.ref p]/\H p=O (.set S n)/\Q (.int n) H):=by
 intro pins s σ H xs us Q I rx h;obtain⟨p,S,n,rfl,hp,q⟩:=h;obtain⟨u,rfl,ru⟩:=rx.one;cases ru;obtain⟨o,es,ep,t,h1,h2,h3,h4,h5,h6,h7,h8⟩:=(show s.heap.SetOf (intKind X.prog X.w) p S n from I.hok p _ hp)
 have hsb:scanBound=4096:=rfl;refine call_len_set h1 h2 h3 h7 (by lia) ?_;rw[h8];exact⟨.int n,H,I.tok _,⟨_,rfl⟩,q⟩
noncomputable def YC:AZ->Option A1
 |[]=>O []
 |.int i::r=>(YC r).map (i :: ·)
 |_=>AW
theorem RE{K:Frag}{G:Hp}:∀{vs:List V}{ds:AZ}{ns:A1},Reps K G vs ds->YC ds=O ns->vs=ns.map V.int
 |_,_,ns,.nil,e=>by cases e;rfl
 |_,_,ns,.cons (d:=d) r t,e=>by
  cases d with
  |int b=>
   unfold YC at e;cases z:YC _ with
   |none=>rw[z]at e;cases e
   |some cs=>rw[z]at e;cases e;rw[r.int_inv,RE t z];rfl
  |_=>cases e
theorem RI(ns:A1):YC (ns.map int)=O ns:=by
 induction ns with
 |nil=>rfl
 |cons b r ih=>rw[QN,YC,ih];rfl
noncomputable def Wh:AZ->A6
 |[.list ds]=>(match YC ds with
  |some ns=>if ns.length+1<4096 then O (.int (Y3 ns))else AW
  |none=>AW)
 |_=>AW
theorem Ai{xs:AZ}{d:D}(h:Wh xs=O d):∃ds ns,xs=[.list ds]/\YC ds=O ns/\ns.length+1<4096/\d=.int (Y3 ns):=by
 unfold Wh at h;split at h
 .rename_i ds
  cases z:YC ds with
  |none=>rw[z]at h;cases h
  |some ns=>
   rw[z]at h;dsimp only at h;split at h
   .rename_i c
    cases h;exact⟨ds,ns,rfl,z,c,rfl⟩
   .cases h
 .cases h
theorem C8:bootBuiltins "set" = O (.type "set"):=by decide +kernel
theorem By{f:M AZ}(hc:X.calm=AX)(hg:Gl X "len")(hm:X.mg "len" = AW)(qW:Gl X "set")(hm2:X.mg "set" = AW)(ha:PA X [a] (tDs X.K B G0 f))(he:Uj [a] X.env=(AY,eval a X.env)::Uj [] X.env:=by rfl)
  (jl:Uj [.Call (.Name "set" p2) [a] [] p3] X.env=(AY,eval (.Call (.Name "set" p2) [a] [] p3) X.env)::Uj [] X.env:=by rfl) :
  PE X (.Call (.Name "len" p4) [.Call (.Name "set" p2) [a] [] p3] [] pos) (tD X.K B G0 (KH Wh f)):=
 UY (VG C9 hg hm boot_len (K5 (Rt (Ba hc) qW hm2 C8 ha (by decide) (by decide) he AV) ZD jl) (by decide) (by decide) jl AV) λσ H Q q=>tM.one (R:=Reps X.K) q λvs H2 G ρ x k r a=>by obtain⟨d,e,a⟩:=a.opt;obtain⟨ds,ns,rfl,z,c,rfl⟩:=Ai e;obtain⟨v,rfl,q1⟩:=r.one_inv;obtain⟨l,ws,rfl,h1,r1⟩:=q1.lst_inv;have:=RE r1 z;subst this;refine⟨l,ns,rfl,k.gh.seq h1,c,λS p hp=>⟨p,S,Y3 ns,rfl,U7,?_⟩⟩;exact aft.done a k (Ext.hid k.gh hp) (.int _)
end
end DL
namespace L2
open PySem PySem.Spec PyProof.Rows
end L2
namespace DL
open PySem PySem.Spec L2
open PyProof.Rows hiding St
end DL
namespace L2
open PySem PySem.Spec PyProof.Rows
end L2
namespace DL
open PySem PySem.Spec L2
open PyProof.Rows hiding St
section
variable{X:Cx}{B G0:Hp}{e o:Ug}{es:A4}
theorem Ah{h:Heap}{vs:A0}{xs:AZ}{as:A5}{d:D}(rs:ReadsAll h vs xs as)(hxs:Us xs=AX) :
  vs.countP (λy=>Uu (SeqAt.readOf h y) d)=xs.countP (λy=>Uu y d):=by
 have key:xs=vs.map (SeqAt.readOf h):=(SeqAt.readsAll_map xs vs as hxs rs).symm;rw[key,List.countP_map];rfl
noncomputable def V8(y x:D):A6:=match y with
 |.list ds=>if x.canLay0=AX/\Us ds=AX/\x.depth<=60 then O (.int (ds.countP λy=>Uu y x))else AW
 |_=>AW
theorem DS(hu:X.A.units+64<cLine):MtR X "list.count" (λv vs H Q=>∃G u y x d,vs=[u]/\Same G H/\Rep X.K G v y/\Rep X.K G u x/\V8 y x=O (.int d)/\Q (.int d) H):=by
 intro pins s σ H x xs v us Q I rx rs h;obtain⟨G,u,dy,dx,d,rfl,sg,py,px,e,q⟩:=h;obtain⟨w,rfl,jG⟩:=rs.one;unfold V8 at e;split at e
 .rename_i ds
  split at e
  .rename_i c
   obtain⟨bs,rb⟩:=Wm I sg py rx (show Us _=AX from c.2.1);obtain⟨as,ra⟩:=Wm I sg px jG c.1;cases rb with
   |list h1 h2 h3 h4=>rename_i l ob its cs n;obtain⟨cls,dd,data,sl⟩:=ob;simp only at h2 h3;subst h2 h3;refine call_meets F.slot_list_count ⟨_,h1,rfl⟩ F.entry_list_count (F.args_list_count_2 _ _) (SeqAt.list_countAt _ _ _ dd sl _ (λy=>Uu (SeqAt.readOf s.heap y) dx)) ⟨h1,SeqAt.items_eqAt h4 ra c.2.1 c.1 (by have:=c.2.2;lia),?_⟩;rw[Ah h4 c.2.1];cases e;exact⟨.int _,H,I.tok _,⟨_,rfl⟩,q⟩
  .cases e
 .cases e
noncomputable def Ra(y:D)(xs:AZ):A6:=match xs with
 |[x]=>V8 y x
 |_=>AW
theorem Ag{ds xs:AZ}{d:D}(h:Ra (.list ds) xs=O d):∃x n,xs=[x]/\d=.int n/\V8 (.list ds) x=O (.int n):=by
 unfold Ra at h;split at h
 .rename_i x
  have h':=h;unfold V8 at h;dsimp only at h;split at h
  .cases h;exact⟨x,_,rfl,rfl,h'⟩
  .cases h
 .cases h
noncomputable def Py(f:M D)(g:M AZ):M D:=UN f λy=>UN g λxs=>UM (match y with | .list ds=>Ra (.list ds) xs|_=>AW)
theorem C7{apos cpos:Pos}{f:M D}{g:M AZ}(hu:X.A.units+64<cLine)(ho:PE X o (tD X.K B G0 f))(ha:PA X (e::es) (tDs X.K B G0 g))
  (hbase:attributeBase o "count" X.env (eval o X.env)=eval o X.env:=by rfl)
  (hfew:((backTo cpos (Uj (e::es) X.env)).all (λx=>!x.1)&&(backToKw cpos (keywordEach [] X.env)).all (λx=>x.1.isSome)
   && decide ((e::es).length+([]:List Keyword).length+(if([]:List Keyword).isEmpty then 0 else 1)<30))=AX:=by rfl)
  (hline:(apos.endLine==cpos.line)=AX:=by rfl) (hs:Uj (e::es) X.env=(AY,eval e X.env)::Uj es X.env:=by rfl) (hplain:(backTo cpos (Uj es X.env)).any (·.1)=AY:=by rfl) :
  PE X (.Call (.Attribute o "count" apos) (e::es) [] cpos) (tD X.K B G0 (Py f g)):=
 UY (Vk Jj F.slot_list_count F.type_list_count (DS hu) ho ha hbase hfew hline hs hplain) λσ H Q q=>by
  refine tM.one (R:=Rep X.K) q λv H2 G ρ y k r a=>?_
  cases y with
  |list ds=>
   obtain⟨l,ws,rfl,h1,r1⟩:=r.lst_inv;refine⟨.inl ⟨rfl,ws,k.gh.seq h1⟩,?_⟩;refine tM.nx (R:=Reps X.K) k a λxs H3 G3 ρ3 es k3 s3 r3 a3=>?_
   obtain⟨d,e,a3⟩:=a3.opt;obtain⟨x,n,rfl,rfl,e'⟩:=Ag e;obtain⟨u,rfl,ru⟩:=r3.one_inv;exact⟨G3,u,.list ds,x,n,rfl,k3.gh,r.mono s3,ru,e',aft.now a3 k3 (.int _)⟩
  |_=>
   unfold UN at a;cases z:g ρ with
   |bad=>rw[z]at a;exact a.elim
   |ok xs ρ1=>rw[z]at a;exact a.elim
end
section
variable{prog:Ud}{w:World}{A:Around}{R:Result->Uc->Prop}{h0:Heap}{l I S:Ue}{rs:List (Ue×A0)}
def Yy(h h':Heap):Prop:=∀b o,h.get? b=O o->h'.get? b=O o
def Ls1(h:Heap)(a:Ue)(its:A0)(sl:Array A3):Prop:=∃n,h.get? a=O {cls:=.type "list", dict:=AW,data:=.seq its.toArray n,slots:=sl}
def Ls(h:Heap)(a:Ue)(its:A0):Prop:=∃n sl,h.get? a=O {cls:=.type "list", dict:=AW,data:=.seq its.toArray n,slots:=sl}
theorem Ls.kept{h h':Heap}{a:Ue}{its:A0}(x:Ls h a its)(k:Yy h h'):Ls h' a its:=by obtain⟨n,sl,e⟩:=x;exact⟨n,sl,k _ _ e⟩
theorem Bx(hh:A.in1.handled=AW)(hI:h0.objs.size<=I)(hS:h0.objs.size<=S)(hIS:S≠I)(hl:h0.IsList l (rs.map λp=>Value.ref p.1).toArray)(hr:∀p∈rs,Ls h0 p.1 p.2) :
  ∀(k i:Nat)(s:Uc)(t:Ue)(acc:A0)(c:Nat)(sl:Array A3),rs.length-i=k->i<=rs.length->Yy h0 s.heap->s.heap.IsListIter I l i ->
   s.heap.get? S=O {cls:=.type "list", dict:=AW,data:=.seq #[.ref t] c,slots:=#[]}->t≠S->t≠I->Ls1 s.heap t acc sl->acc.length+((rs.drop i).map (·.2)).flatten.length<=Uh ->
   (∀p h' tk qD,Yy h0 h'->Ls1 h' p (acc++((rs.drop i).map (·.2)).flatten) qD->(p=t/\i=rs.length/\qD=sl∨h0.objs.size<=p/\qD=#[])->R (.ok (.ret (.ref p))) {s with heap:=h',toks:=tk}) ->
   codeAny (model prog w) A (.builtin "sum.loop" ⟨[.ref I,.ref S,rawInt 2,rawInt 0],[]⟩) R s:=by
 intro k;induction k with
 |zero=>
  intro i s t acc c sl hk hi hK hit hSS htS htI ht hz hR;have hin:i=rs.length:=by lia
  subst hin;refine codeAny_builtin F.entry_sum_loop ?_;rw[Around.under_plainId F.plain_sum_loop _];show Ui _ A.in1 (seqItems? (.ref S) >>= _) _ _ s;refine Qb (wpAny_seqItems hSS AV ?_);show Ui _ A.in1 (tryCatch (pyNext (.ref I)) _ >>= _) _ _ s;have hl':s.heap.IsList l (rs.map λp=>Value.ref p.1).toArray:=by obtain⟨o,e,r⟩:=hl;exact⟨o,hK _ _ e,r⟩
  refine wpAny_bind (wpAny_tryCatch (wpAny_pyNext_list_end hh hit hl' (by simp) λh' ex=>?_));refine Qi (hR t h' s.toks sl (λb o e=>?_) ?_ (.inl ⟨rfl,rfl,rfl⟩))
  .exact ex b o (QQ (QA (Qf e) hI)) (hK b o e)
  .obtain⟨n,e⟩:=ht
   rw[List.drop_length,JM,List.flatten_nil,QR];exact⟨n,ex _ _ htI e⟩
 |succ k ih=>
  intro i s t acc c sl hk hi hK hit hSS htS htI ht hz hR;have hlt:i<rs.length:=by lia
  refine codeAny_builtin F.entry_sum_loop ?_;rw[Around.under_plainId F.plain_sum_loop _];show Ui _ A.in1 (seqItems? (.ref S) >>= _) _ _ s;refine Qb (wpAny_seqItems hSS AV ?_);show Ui _ A.in1 (tryCatch (pyNext (.ref I)) _ >>= _) _ _ s;have hl':s.heap.IsList l (rs.map λp=>Value.ref p.1).toArray:=by obtain⟨o,e,r⟩:=hl;exact⟨o,hK _ _ e,r⟩
  refine wpAny_bind (wpAny_tryCatch (wpAny_pyNext_list_item (x:=.ref (rs[i]'hlt).1) hit hl' (by simp[hlt]) λh' jO sb=>?_));show Ui _ A.in1 ((holding [Value.ref (rs[i]'hlt).1] (binaryOp .Add (.ref t) (.ref (rs[i]'hlt).1))).attempt >>= _) _ _ _;refine Qb (wpAny_attempt (Jl ?_));have hm:rs[i]'hlt∈rs:=JT hlt;have hd:rs.drop i=rs[i]'hlt::rs.drop (i+1):=JJ hlt;have hK':Yy h0 h':=λb o e=>(sb.2 b (QQ (QA (Qf e) hI))).trans (hK b o e)
  obtain⟨n1,e1⟩:=ht;have e1':=(sb.2 t htI).trans e1;obtain⟨n2,s2,e2⟩:=(hr _ hm).kept hK';have jT:=(sb.2 S hIS).trans hSS;rw[hd,QN,QS,Qh]at hz;refine concat_meets ⟨_,e1',rfl⟩ ⟨_,e2,rfl⟩ noFill_list_add seq_list_add PySem.F.slot_list_add PySem.F.entry_list_add (PySem.F.args_list_add_2 _ _) (list_addW t _ acc.toArray _ n1 n2 AW AW sl s2 (by rw[QT,QT];lia)) ⟨e1',e2,?_⟩;have hlS:S<h'.objs.size:=Qf jT;have hlI:I<h'.objs.size:=by obtain⟨o,e,_⟩:=jO;exact Qf e
  have ea:acc.toArray++(rs[i]'hlt).2.toArray=(acc++(rs[i]'hlt).2).toArray:=by simp
  rw[ea];have hP:∀b o,h'.get? b=O o->(h'.push {cls:=Value.type "list", data:=Data.seq (acc++(rs[i]'hlt).2).toArray}).get? b=O o:=λb o e=>Qe _ e
  have hS1:=hP _ _ jT;have hNew:(h'.push {cls:=Value.type "list", data:=Data.seq (acc++(rs[i]'hlt).2).toArray}).get? h'.objs.size=O {cls:=Value.type "list", data:=Data.seq (acc++(rs[i]'hlt).2).toArray}:=QD _ AV;show Ui _ A.in1 (updateSeq S (λ_=>#[.ref h'.objs.size]) >>= _) _ _ _;refine Qb (wpAny_updateSeq hS1 AV ?_);have hS2:=QP (Obj.mapSeq λ_=>#[Value.ref h'.objs.size]) hS1 AV;refine Qb (wpAny_letGo ?_);refine Qb (wpAny_updateSeq hS2 AV (Qi ⟨plainId_quiet F.plain_sum_loop _,?_⟩));have oth:∀b o,b≠S->(h'.push {cls:=Value.type "list", data:=Data.seq (acc++(rs[i]'hlt).2).toArray}).get? b=O o->(((h'.push {cls:=Value.type "list", data:=Data.seq (acc++(rs[i]'hlt).2).toArray}).update S (Obj.mapSeq λx=>#[Value.ref h'.objs.size])).update S (Obj.mapSeq λx=>#[Value.ref h'.objs.size])).get? b=O o:=λb o hb e=>(Qn _ _ (Ne.symm hb)).trans ((Qn _ _ (Ne.symm hb)).trans e)
  refine ih (i+1) _ h'.objs.size (acc++(rs[i]'hlt).2) _ #[] (by lia) hlt ?_ ?_ (QP _ hS2 AV) (Jk hlS) (Jk hlI) ?_ (by rw[Qh];lia) λp h'' tk qD hk'' hp hq=>?_
  .exact λb o e=>oth b o (QQ (QA (Qf e) hS)) (hP b o (hK' b o e))
  .obtain⟨o,e,r⟩:=jO
   exact⟨o,oth I o (Ne.symm hIS) (hP I o e),r⟩
  .exact⟨_,oth _ _ (Jk hlS) hNew⟩
  .refine hR p h'' tk qD hk'' ?_ (.inr ?_)
   .rw[hd,QN,QS,←Ji];exact hp
   .rcases hq with ⟨rfl, -,e⟩|hq
    .exact⟨J7 (Nat.lt_of_le_of_lt hS hlS),e⟩
    .exact hq
end
section
variable{prog:Ud}{w:World}{A:Around}{E:Ub->Uc->Prop}{s:Uc}{l z:Ue}{rs:List (Ue×A0)}
theorem C6(a b:Ub):argsOk "sum" ⟨[a,b],[]⟩:=by unfold argsOk;kernel_rfl
theorem Bw{Q:Ub->Uc->Prop}(hh:A.handled=AW)(hl:s.heap.IsList l (rs.map λp=>Value.ref p.1).toArray)(hr:∀p∈rs,Ls s.heap p.1 p.2)(hz:Ls s.heap z [])(hb:(rs.map (·.2)).flatten.length<=Uh)
  (h:∀p h' tk qD,Yy s.heap h'->Ls1 h' p (rs.map (·.2)).flatten qD->(p=z/\rs=[]∨s.heap.objs.size<=p/\qD=#[])->Q (.ref p) {s with heap:=h',toks:=tk}) :
  Ui (model prog w) A (call (.builtin "sum") [.ref l,.ref z]) Q E s:=by
 refine call_function_tree F.kind_sum F.plain_sum F.entry_sum (C6 _ _) ?_;unfold Builtin.«sum»;simp only[QK,QO];rw[Qz (by decide)];refine Qb (wpAny_of_eq (show Builtin.Builtins.bindParams "sum" ["start"] 0 ⟨[.ref z],[]⟩=pure [O (.ref z)]from rfl) ?_);refine Qb (wpAny_pyIter_list hl ?_);refine Qb (Qi ?_);obtain⟨n,sl,ez⟩:=id hz;have ty:∀h:Heap,h.get? z=O {cls:=.type "list", dict:=AW,data:=.seq [].toArray n,slots:=sl}->({s with heap:=h}:Uc).TypeIs (.ref z) "list" :=λh e=>⟨_,e,rfl⟩
 have ez':(s.heap.push {cls:=.type "list_iterator", data:=.fields #[.ref l,.int 0 0]}).get? z=_:=Qe _ ez;simp only[List.forIn_cons,List.forIn_nil];refine Qb (Qb (Qb (wpAny_isInstance (T:= "list") (b:=AY) (ty _ ez') F.sub_list_str ?_)));simp only[Jz,J9];refine Qi (Qb (Qb (wpAny_isInstance (T:= "list") (b:=AY) (ty _ ez') F.sub_list_bytes ?_)));simp only[Jz,J9];refine Qi (Qb (Qb (wpAny_isInstance (T:= "list") (b:=AY) (ty _ ez') F.sub_list_bytearray ?_)));simp only[Jz,J9];refine Qi (Qi ?_);refine Qb (JD ?_);have hzs:=Qf ez;have s1:(s.heap.push {cls:=.type "list_iterator", data:=.fields #[.ref l,.int 0 0]}).objs.size=s.heap.objs.size+1:=Jq ..;have k2:Yy s.heap ((s.heap.push {cls:=.type "list_iterator", data:=.fields #[.ref l,.int 0 0]}).push {cls:=.type "list", data:=.seq #[.ref z]}):=λb o e=>Qe _ (Qe _ e)
 refine Qi ⟨plainId_quiet F.plain_sum_loop _,Bx (h0:=s.heap) (l:=l) (I:=s.heap.objs.size) (S:=(s.heap.push {cls:=.type "list_iterator", data:=.fields #[.ref l,.int 0 0]}).objs.size) (rs:=rs) hh (Qq _) (by rw[s1];exact Jr _) (by rw[s1];exact Nat.succ_ne_self _) hl hr rs.length 0 _ z [] 0 sl AV (JX _)
  k2 ⟨_,Heap.get?_push_of_some _ (Heap.get?_push_size _ AV),rfl,rfl⟩ (Heap.get?_push_size _ AV) (by rw[s1];exact Nat.ne_of_lt (Nat.lt_succ_of_lt hzs)) (Nat.ne_of_lt hzs) ⟨n,k2 _ _ ez⟩ (by simpa using hb) λp h' tk qD hk hp hq=>?_⟩
 exact h p h' tk qD hk (by simpa using hp) (hq.imp (λe=>⟨e.1,List.eq_nil_of_length_eq_zero e.2.1.symm⟩) id)
end
section
variable{X:Cx}{pins:List (Ue×Obj)}{σ:St}{H:Hp}{s:Uc}
theorem Oz(I:Inv X pins σ H s):∀{rs:List (Ue×List V)},(∀p∈rs,SqL X.K H p.1 p.2) ->
  ∃ts:List (Ue×A0),(ts.map λp=>Value.ref p.1)=(rs.map λp=>Value.ref p.1)/\(∀p∈ts,Ls s.heap p.1 p.2)/\Vals (rs.map (·.2)).flatten (ts.map (·.2)).flatten
 |[],_=>⟨[],rfl,(λ_ h=>by cases h),(show Vals [] []from Paired.nil)⟩
 |p::rs,h=>by
  obtain⟨ts,e,hl,hv⟩:=Oz I λq hq=>h q (Qj _ hq)
  obtain⟨its,rv,⟨⟨c1,d1,t1,sl⟩,n,e1,ec,ed,et⟩,z⟩:=I.list (h p (Qg ..));simp only at ec ed et;subst ec ed et;refine⟨(p.1,its)::ts,by rw[QN,QN,e],λq hq=>?_,?_⟩
  .rcases QM.1 hq with rfl|hq
   .exact⟨n,sl,e1⟩
   .exact hl q hq
  .rw[QN,QN,QS,QS]
   exact rv.append hv
theorem Nb:∀{as:A5}{us:A0},Vals (as.map V.ref) us->us=as.map Value.ref
 |[],_,.nil=>rfl
 |a::as,_,.cons h t=>by cases h;rw[Nb t];rfl
theorem C5(hc:X.calm=AX):ZZ X (.builtin "sum") (λxs H Q=>∃l z,∃rs:List (Ue×List V),xs=[.ref l,.ref z]/\SqL X.K H l (rs.map λp=>V.ref p.1)/\(∀p∈rs,SqL X.K H p.1 p.2)/\SqL X.K H z []/\(rs.map (·.2)).flatten.length<=Uh /\
  (rs=[]->Q (.ref z) H)/\∀p,H p=AW->Q (.ref p) (upd H p (.lst (rs.map (·.2)).flatten))):=by
 intro pins s σ H xs us Q I rx h;obtain⟨l,z,rs,rfl,hq,hr,hz,hb,q0,q⟩:=h;obtain⟨u,u',rfl,ru,ru'⟩:=SK rx;cases ru;cases ru';obtain⟨its,rv,pl, -⟩:=I.list hq;obtain⟨ts,e,hl,hv⟩:=Oz I hr;have ei:its=ts.map λp=>Value.ref p.1:=by rw[e];have:=Nb (as:=rs.map (·.1)) (us:=its) (by rw[Jc];exact rv);rw[this,Jc];rfl
 subst ei;obtain⟨zi,rz,⟨⟨c1,d1,t1,sl⟩,n,e1,ec,ed,et⟩, -⟩:=I.list hz;cases rz;simp only at ec ed et;subst ec ed et;have hlen:=hv.length;refine Bw (I.ok.hd hc) pl.isList hl ⟨n,sl,e1⟩ (by lia) λp h' tk qD hk hp hq=>?_
 rcases hq with ⟨rfl,rfl⟩|⟨hp',rfl⟩
 .have hr0:rs=[]:=by
   cases rs with
   |nil=>rfl
   |cons a b=>cases e
  exact⟨.ref _,H,I.kept hk,rfl,q0 hr0⟩
 .obtain⟨m,ep⟩:=hp
  exact⟨.ref p,_,I.laid (t':=tk) hk hp' (show K4 X.prog X.w _ h' _ (.lst _)from⟨hb,_,m,hv,ep⟩),rfl,q p (I.hok.fresh hp')⟩
noncomputable def Xg:AZ->Option (List AZ)
 |[]=>O []
 |.list xs::r=>(Xg r).map (xs :: ·)
 |_=>AW
theorem N6{K:Frag}{G:Hp}:∀{vs:List V}{ds:AZ}{ls:List AZ},Reps K G vs ds->Xg ds=O ls ->
  ∃rs:List (Ue×List V),vs=(rs.map λp=>V.ref p.1)/\(∀p∈rs,SqL K G p.1 p.2)/\Reps K G (rs.map (·.2)).flatten ls.flatten/\rs.length=ls.length
 |_,_,ls,.nil,e=>by cases e;exact⟨[],rfl,(λ_ h=>by cases h),.nil,rfl⟩
 |_,_,ls,.cons (d:=d) r t,e=>by
  cases d with
  |list xs=>
   unfold Xg at e;cases z:Xg _ with
   |none=>rw[z]at e;cases e
   |some cs=>
    rw[z]at e;cases e;obtain⟨rs,rfl,h1,h2,h3⟩:=N6 t z;obtain⟨a,ws,rfl,h,rr⟩:=r.lst_inv;refine⟨(a,ws)::rs,rfl,λp hp=>?_,?_,J6 (· + 1) h3⟩
    .rcases QM.1 hp with rfl|hp
     .exact h
     .exact h1 p hp
    .rw[QN,QS,QS]
     exact rr.append h2
  |_=>cases e
theorem Bv(ls:List AZ):Xg (ls.map Uo)=O ls:=by
 induction ls with
 |nil=>rfl
 |cons b r ih=>rw[QN,Xg,ih];rfl
noncomputable def Vh:AZ->A6
 |[.list ds,.list []]=>(match Xg ds with
  |some ls=>if ls.flatten.length<=1000000 then O (.list ls.flatten)else AW
  |none=>AW)
 |_=>AW
theorem C4{xs:AZ}{d:D}(h:Vh xs=O d):∃ds ls,xs=[.list ds,.list []]/\Xg ds=O ls/\ls.flatten.length<=1000000/\d=.list ls.flatten:=by
 unfold Vh at h;split at h
 .rename_i ds
  cases z:Xg ds with
  |none=>rw[z]at h;cases h
  |some ls=>
   rw[z]at h;dsimp only at h;split at h
   .rename_i c
    cases h;exact⟨ds,ls,rfl,z,c,rfl⟩
   .cases h
 .cases h
theorem LU(hc:X.calm=AX):Yl X (.builtin "sum") Vh:=by
 refine⟨_,C5 hc,λvs G H ds d Q s r e k=>?_⟩;obtain⟨ds,ls,rfl,z,c,rfl⟩:=C4 e;obtain⟨v,v',rfl,q1,q2⟩:=r.two_inv;obtain⟨l,ws,rfl,h1,r1⟩:=q1.lst_inv;obtain⟨a,ws2,rfl,h2,r2⟩:=q2.lst_inv;have:=r2.nil_inv;subst this;obtain⟨rs,rfl,g1,g2,g3⟩:=N6 r1 z;refine⟨l,a,rs,rfl,s.seq h1,λp hp=>s.seq (g1 p hp),s.seq h2,?_,λe0=>?_,λp hp=>?_⟩
 .rw[g2.length];exact Qt c lim
 .subst e0
  have:ls=[]:=List.eq_nil_of_length_eq_zero g3.symm;subst this;exact k _ G H (.refl s) (.lst h2 .nil)
 .exact k _ _ _ (.new s hp) (.lst (SqL.of U7) (g2.mono (KN (s.free hp))))
end
section
variable{X:Cx}
noncomputable def Ye(ns:A1):A1:=ns.mergeSort λa b=>decide (a<=b)
theorem Tf(ns:A1):(Ye ns).Perm ns:=List.mergeSort_perm ..
theorem C3(ns:A1):(Ye ns).Pairwise (· <= ·):=by have:=List.pairwise_mergeSort (le:=λa b:Int=>decide (a<=b)) (by intro a b c;simp;lia) (by intro a b;simp;lia) ns;exact this.imp (by simp)
theorem Oy:∀{a b:A1},a.Perm b->a.Pairwise (· <= ·)->b.Pairwise (· <= ·)->a=b
 |[],b,p,_,_=>by rw[List.nil_perm.1 p]
 |x::a,[],p,_,_=>by have:=p.length_eq;simp at this
 |x::a,y::b,p,ha,hb=>by
  have hx:y<=x:=by
   rcases QM.1 (p.mem_iff.1 (Qg ..))with e|e
   .exact Int.le_of_eq e.symm
   .exact(Jo.1 hb).1 x e
  have hy:x<=y:=by
   rcases QM.1 (p.mem_iff.2 (Qg ..))with e|e
   .exact Int.le_of_eq e.symm
   .exact(Jo.1 ha).1 y e
  have e:=Int.le_antisymm hy hx;subst e;rw[Oy (List.Perm.cons_inv p) (Jo.1 ha).2 (Jo.1 hb).2]
theorem Na:∀{us:A0}{ns:A1},PyProof.Rows.IntsAre us ns->Vals (ns.map V.int) us
 |_,_,.nil=>Paired.nil
 |_,_,.cons n t h=>Paired.cons ⟨t,rfl⟩ (Na h)
theorem Bu:ZZ X (.builtin "sorted") (λxs H Q=>∃l,∃ns:A1,xs=[.ref l]/\SqL X.K H l (ns.map V.int)/\ns.length<64/\∀p,H p=AW->Q (.ref p) (upd H p (.lst ((Ye ns).map V.int)))):=by
 intro pins s σ H xs us Q I rx h;obtain⟨l,ns,rfl,hq,hb,q⟩:=h;obtain⟨u,rfl,ru⟩:=rx.one;cases ru;obtain⟨its,rv,p,hz⟩:=I.list hq;have hi:=Vz rv;have hn:its.length=ns.length:=by have:=rv.length;rw[Qd]at this;lia
 refine sorted_ints p.isList hi (by lia) λout ns' a1 a2 a3=>?_
 obtain⟨e,he⟩:=sortedAll_at s.heap its out;have en:ns'=Ye ns:=Oy (a2.trans (Tf ns).symm) a3 (C3 ns);subst en;refine⟨.ref (s.heap.objs.size+1),_,I.laid (t':=s.toks) (λb o=>sortedAll_old) (Jr _) (show K4 X.prog X.w _ _ _ (.lst ((Ye ns).map V.int))from⟨?_,out.toList,e,Na a1,he⟩),rfl,q _ (I.hok.fresh (Jr _))⟩;rw[Qd,(Tf ns).length_eq];rw[Qd]at hz;exact hz
noncomputable def Vq:AZ->A6
 |[.list ds]=>(match YC ds with
  |some ns=>if ns.length<64 then O (.list ((Ye ns).map .int))else AW
  |none=>AW)
 |_=>AW
theorem Bt{xs:AZ}{d:D}(h:Vq xs=O d):∃ds ns,xs=[.list ds]/\YC ds=O ns/\ns.length<64/\d=.list ((Ye ns).map .int):=by
 unfold Vq at h;split at h
 .rename_i ds
  cases z:YC ds with
  |none=>rw[z]at h;cases h
  |some ns=>
   rw[z]at h;dsimp only at h;split at h
   .rename_i c
    cases h;exact⟨ds,ns,rfl,z,c,rfl⟩
   .cases h
 .cases h
theorem O9{K:Frag}{G:Hp}:∀ns:A1,Reps K G (ns.map V.int) (ns.map int)
 |[]=>.nil
 |n::r=>.cons (.int n) (O9 r)
theorem EE:Yl X (.builtin "sorted") Vq:=by refine⟨_,Bu,λvs G H ds d Q s r e k=>?_⟩;obtain⟨ds,ns,rfl,z,c,rfl⟩:=Bt e;obtain⟨v,rfl,q1⟩:=r.one_inv;obtain⟨l,ws,rfl,h1,r1⟩:=q1.lst_inv;have:=RE r1 z;subst this;exact⟨l,ns,rfl,s.seq h1,c,λp hp=>k _ _ _ (.new s hp) (.lst (SqL.of U7) (O9 _))⟩
theorem C0{ns:A1}(h:ns.length<64):Vq [.list (ns.map .int)]=O (.list ((Ye ns).map .int)):=by unfold Vq;simp only[RI,Qp h]
end
@[simp] theorem mBind_ok{α β:Type}{f:M α}{k:α->M β}{ρ ρ':UB}{x:α}(h:f ρ=.ok x ρ'):UN f k ρ=k x ρ':=by unfold UN;rw[h]
theorem O8{s:D->UB->A7}{g:SM}{P:Nat->UB->Prop}{R:Out->Prop}:∀(ds:AZ)(n:Nat)(ρ:UB),P n ρ ->
  (∀i d ρ,ds[i]?=O d->P (n+i) ρ->∃ρ1,s d ρ=O ρ1/\((∃ρ2,(g ρ1=.nx ρ2∨g ρ1=.ct ρ2)/\P (n+i+1) ρ2)∨(∃x,g ρ1=.rt x/\R (.rt x))∨(∃ρ2,g ρ1=.bk ρ2/\R (.nx ρ2))∨(∃ρ2 x,g ρ1=.ex ρ2 x/\R (.ex ρ2 x)) ∨ ∃x,g ρ1=.ro x/\R (.ro x)))->(∀ρ,P (n+ds.length) ρ->R (.nx ρ))->R (YZ s g ds ρ)
 |[],n,ρ,h,_,f=>f ρ h
 |d::r,n,ρ,h,st,f=>by
  obtain⟨ρ1,e1,e2⟩:=st 0 d ρ AV h;rw[YZ,e1];dsimp only;rcases e2 with ⟨ρ2,e2,h2⟩|⟨x,e2,h2⟩|⟨ρ2,e2,h2⟩|⟨ρ2,x,e2,h2⟩|⟨x,e2,h2⟩
  .have goal:=O8 (R:=R) r (n+1) ρ2 h2 (λi d' ρ3 q p=>by
    have e:n+1+i=n+(i+1):=by lia
    rw[e]at p⊢;exact st (i+1) d' ρ3 (by simpa using q) p) (λρ3 p=>f ρ3 (by
    have e:n+1+r.length=n+(d::r).length:=by rw[QK];lia
    rw[e]at p;exact p))
   rcases e2 with e2|e2<;>(rw[e2];exact goal)
  .rw[e2];exact h2
  .rw[e2];exact h2
  .rw[e2];exact h2
  .rw[e2];exact h2
theorem Te{lo hi:Int}{i:Nat}{d:D}(h:(Zg lo hi)[i]?=O d):d=.int (lo+i)/\(i:Int)<hi-lo:=by have hl:i<(Zg lo hi).length:=(Qr.mp h).1;rw[WM]at hl;unfold Zg at h;rw[QC,Qm (by rw[JW];exact hl),List.getElem_range]at h;cases h;exact⟨rfl,by lia⟩
theorem LS{α:Type}{xs:List α}{i:Int}{v:α}(h0:0<=i)(h:xs[i.toNat]?=O v):atI xs i=O v:=by have:=K8 (xs:=xs) (j:=i.toNat) h;rw[Int.toNat_of_nonneg h0]at this;exact this
section
variable{α β:Type}{ρ ρ1 ρ2 ρ3 ρ':UB}{f g h:M D}
theorem UK{a:α}:UF a ρ=.ok a ρ:=rfl
theorem UL:UD ρ=.ok [] ρ:=rfl
theorem Zp{o:Option α}{a:α}(h:o=O a):UM o ρ=.ok a ρ:=by subst h;rfl
theorem Kh{f:M α}{k:α->M β}{x:α}{r:Res β}(h:f ρ=.ok x ρ1)(h2:k x ρ1=r):UN f k ρ=r:=by unfold UN;rw[h];exact h2
theorem KE{f:M α}{k:α->β}{x:α}(h:f ρ=.ok x ρ1):UO k f ρ=.ok (k x) ρ1:=by unfold UO UN;rw[h];rfl
theorem UH{i:Nat}{d:D}(h:ρ[i]?=O (O (.pub d))):UC i ρ=.ok d ρ:=by unfold UC;rw[h]
theorem Yo{i:Nat}{ds:AZ}(h:ρ[i]?=O (O (.own ds)))(h2:ρ.set i (O (.pub (.list ds)))=ρ'):UC i ρ=.ok (.list ds) ρ':=by unfold UC;rw[h];subst h2;rfl
theorem UZ{op:D->D->Option β}{x y:D}{r:β}(h1:f ρ=.ok x ρ1)(h2:g ρ1=.ok y ρ2)(h3:op x y=O r):UJ op f g ρ=.ok r ρ2:=by unfold UJ;exact Kh h1 (Kh h2 (Zp h3))
theorem UG{g:M AZ}{x:D}{xs:AZ}(h1:f ρ=.ok x ρ1)(h2:g ρ1=.ok xs ρ2):UE f g ρ=.ok (x::xs) ρ2:=by unfold UE;exact Kh h1 (Kh h2 AV)
theorem Z2{g:M AZ}{xs:AZ}(h1:g ρ=.ok xs ρ1)(h2:xs.length<=1000000):Kp g ρ=.ok (.tuple xs) ρ1:=by unfold Kp;exact Kh h1 (by rw[Qp h2];rfl)
theorem KW{g:M AZ}{xs:AZ}(h1:g ρ=.ok xs ρ1)(h2:xs.length<=1000000):U3 g ρ=.ok (.list xs) ρ1:=by unfold U3;exact Kh h1 (by rw[Qp h2];rfl)
theorem WF{g:M AZ}{xs:AZ}(h1:g ρ=.ok xs ρ1)(h2:xs.length<=1000000):(UN g λxs=>if xs.length<=1000000 then UF xs else λ_=>.bad) ρ=.ok xs ρ1:=
 Kh h1 (by rw[Qp h2];rfl)
theorem Kw{i:Nat}{d y r:D}(h:ρ[i]?=O (O (.pub d)))(h1:g ρ=.ok y ρ1)(h2:oIx d y=O r):UR i g ρ=.ok r ρ1:=by unfold UR;rw[h];exact Kh h1 (Zp h2)
theorem Px{i:Nat}{ds es:AZ}{y r:D}(h:ρ[i]?=O (O (.own ds)))(h1:g ρ=.ok y ρ1)(h3:ρ1[i]?=O (O (.own es)))(h2:oIx (.list es) y=O r):UR i g ρ=.ok r ρ1:=by unfold UR;rw[h];exact Kh h1 (by rw[h3];exact Zp h2)
theorem Zi{p:AZ->A6}{g:M AZ}{xs:AZ}{r:D}(h1:g ρ=.ok xs ρ1)(h2:p xs=O r):KH p g ρ=.ok r ρ1:=by unfold KH;exact Kh h1 (Zp h2)
theorem Kk{n:Nat}{F:AZ->A6}{g:M AZ}{xs:AZ}{r:D}(h1:g ρ=.ok xs ρ1)(h2:xs.length=n)(h3:F xs=O r):UT n F g ρ=.ok r ρ1:=by unfold UT;exact Kh h1 (by rw[Qp h2];exact Zp h3)
theorem TR{i:Int}(h1:f ρ=.ok (.int i) ρ1):Z5 f ρ=.ok (.int (-i)) ρ1:=by unfold Z5;exact Kh h1 AV
theorem Zd{i:Nat}{d r:D}(h:ρ[i]?=O (O (.pub d)))(h2:U0 [d]=O r):KU i ρ=.ok r ρ:=by unfold KU;rw[h];exact Zp h2
theorem ED{i:Nat}{ds:AZ}(h:ρ[i]?=O (O (.own ds))):KU i ρ=.ok (.int ds.length) ρ:=by unfold KU;rw[h]
theorem V7{g:M AZ}{i:Int}{r:AZ}(h1:g ρ=.ok [.int i] ρ1)(h2:Vj [.int i]=O r):Wa g ρ=.ok r ρ1:=by unfold Wa;exact Kh h1 (Zp h2)
theorem EC{g:M AZ}{i j:Int}{r:AZ}(h1:g ρ=.ok [.int i,.int j] ρ1)(h2:Vi [.int i,.int j]=O r):TC g ρ=.ok r ρ1:=by unfold TC;exact Kh h1 (Zp h2)
theorem V6{g:M AZ}{xs r:AZ}(h1:g ρ=.ok xs ρ1)(h2:VN xs=O r):X9 g ρ=.ok r ρ1:=by unfold X9;exact Kh h1 (Zp h2)
theorem Wg{i:Int}(h1:f ρ=.ok (.int i) ρ1):(UN f λx=>UM (Y0 x)) ρ=.ok (O i) ρ1:=Kh h1 AV
theorem YB{f:M Bool}{t:Bool}(h1:f ρ=.ok t ρ1):Kf f ρ=.ok (!t) ρ1:=KE h1
theorem Wl{t:Bool}(h1:f ρ=.ok (.bool t) ρ1):Zh f ρ=.ok t ρ1:=by unfold Zh;exact Kh h1 AV
theorem LR{f g:M Bool}{t u:Bool}(h1:f ρ=.ok t ρ)(h2:t=AX->g ρ=.ok u ρ):YS f g ρ=.ok (t&&u) ρ:=by
 unfold YS;refine Kh h1 ?_;cases t with
 |true=>rw[Qp AV];exact h2 AV
 |false=>rfl
theorem Lw{f g:M Bool}{t u:Bool}(h1:f ρ=.ok t ρ)(h2:t=AY->g ρ=.ok u ρ):mOr f g ρ=.ok (t || u) ρ:=by
 unfold mOr;refine Kh h1 ?_;cases t with
 |false=>rw[Qz (by decide)];exact h2 AV
 |true=>rfl
theorem V5{t u:Bool}(h1:f ρ=.ok (.bool t) ρ)(h2:t=AX->g ρ=.ok (.bool u) ρ):VO f g ρ=.ok (.bool (t&&u)) ρ:=by
 unfold VO;refine Kh h1 ?_;cases t with
 |true=>exact h2 AV
 |false=>rfl
theorem EB{t:Bool}(h1:f ρ=.ok (.bool t) ρ1):Tn f ρ=.ok (.bool (!t)) ρ1:=by unfold Tn;exact Kh h1 AV
theorem LQ{f:M Bool}{g h:M α}{r:Res α}(h1:f ρ=.ok AX ρ1)(h2:g ρ1=r):mIf f g h ρ=r:=by unfold mIf;exact Kh h1 (by rw[Qp AV];exact h2)
theorem LN{f:M Bool}{g h:M α}{r:Res α}(h1:f ρ=.ok AY ρ1)(h2:h ρ1=r):mIf f g h ρ=r:=by unfold mIf;exact Kh h1 (by rw[Qz (by decide)];exact h2)
theorem VE{p q:D->D->qb}{x y z:D}{t u:Bool}(h1:f ρ=.ok x ρ)(h2:g ρ=.ok y ρ)(h3:p x y=O t)(h4:t=AX->h ρ=.ok z ρ)(h5:t=AX->q y z=O u):Xf p q f g h ρ=.ok (t&&u) ρ:=by
 unfold Xf;refine Kh h1 (Kh h2 (Kh (Zp h3) ?_));cases t with
 |true=>rw[Qp AV];exact Kh (h4 AV) (Zp (h5 AV))
 |false=>rfl
theorem Zq{i j:Int}:UQ (.int i) (.int j)=O (.int (i+j)):=rfl
theorem YE{x y:AZ}(h:x.length+y.length<=1000000):UQ (.list x) (.list y)=O (.list (x++y)):=by unfold UQ;exact Qp h
theorem Ox{i j:Int}:Xv (.int i) (.int j)=O (.int (i-j)):=rfl
theorem Sb{i j:Int}(h1 : -18446744073709551616<i)(h2:i<18446744073709551616):Ke (.int i) (.int j)=O (.int (i*j)):=by unfold Ke YT;exact Qp (.inl ⟨by lia,by lia⟩)
theorem Sa{i j:Int}(h1 : -18446744073709551616<j)(h2:j<18446744073709551616):Ke (.int i) (.int j)=O (.int (i*j)):=by unfold Ke YT;exact Qp (.inr ⟨by lia,by lia⟩)
theorem NE{x:AZ}{k:Int}(h : -1000000<=k/\k<=1000000/\x.length*k.toNat<=1000000):Ke (.list x) (.int k)=O (.list (Um k.toNat x).flatten):=by unfold Ke;exact Qp h
theorem WE{i j:Int}(h:0<j):Zk (.int i) (.int j)=O (.int (i % j)):=by unfold Zk XI;exact Qp h
theorem DR{i j:Int}(h:0<j)(h2:j<2 ^ 200):Yu (.int i) (.int j)=O (.int (i / j)):=by unfold Yu XJ;exact Qp ⟨h,h2⟩
theorem Ow{i j:Int}(h:0<j)(h2:j<18446744073709551616):Yu (.int i) (.int j)=O (.int (i / j)):=DR h (Int.lt_trans h2 (by decide))
theorem Ff{i j:Int}(h:0<=j/\j<=1000000/\i.natAbs<2 ^ 64):YQ (.int i) (.int j)=O (.int (i ^ j.toNat)):=by unfold YQ XH;exact Qp h
theorem V4{i j:Int}:oEq (.int i) (.int j)=O (decide (i=j)):=by unfold oEq;rw[if_pos ⟨rfl,rfl,by simp[Ut]⟩];congr 1
theorem KS{xs:AZ}:U0 [.list xs]=O (.int xs.length):=rfl
theorem DQ{xs:AZ}:U0 [.tuple xs]=O (.int xs.length):=rfl
theorem Fe{i j:Int}:Tl [.int i,.int j]=O (.int (if j > i then j else i)):=rfl
theorem Td{j:Int}(h1:j<=1000000)(h2 : -1000000<=j):Vj [.int j]=O (Zg 0 j):=by unfold Vj;exact Qp ⟨h1,h2⟩
theorem DP{i j:Int}(h1:j<=1000000)(h2 : -1000000<=j)(h3:i<=1000000)(h4 : -1000000<=i):Vi [.int i,.int j]=O (Zg i j):=by unfold Vi;exact Qp ⟨h1,h2,h3,h4⟩
theorem Tc{xs:AZ}:VN [.list xs]=O (Yb 0 xs):=rfl
theorem O7{z:Str}:(Uq z).depth<=60:=by simp[Ut]
theorem K9{i:Nat}{d:D}(h1:f ρ=.ok d ρ1)(h2:i<ρ1.length)(h3:ρ1.set i (O (.pub d))=ρ'):U8 i f ρ=.nx ρ':=by unfold U8 K0 sB gN;rw[h1];dsimp only;rw[if_pos h2];subst h3;rfl
theorem ZV{i:Nat}{f:M AZ}{ds:AZ}(h1:f ρ=.ok ds ρ1)(h2:i<ρ1.length)(h3:ρ1.set i (O (.own ds))=ρ'):Kx i f ρ=.nx ρ':=by unfold Kx sB;rw[h1];dsimp only;rw[if_pos h2];subst h3;rfl
theorem Wd{i:Nat}{d:D}{qT ds:AZ}(h0:ρ[i]?=O (O (.own qT)))(h1:f ρ=.ok d ρ1)(h2:ρ1[i]?=O (O (.own ds)))(h3:ds.length<1000000)(h4:ρ1.set i (O (.own (ds++[d])))=ρ'):K1 i f ρ=.nx ρ':=by unfold K1 sB;rw[h0];dsimp only;rw[h1];dsimp only;rw[h2];dsimp only;rw[if_pos h3];subst h4;rfl
theorem Wx{d:D}{s:D->UB->A7}(h1:f ρ=.ok d ρ1)(h2:s d ρ1=O ρ'):K0 f s ρ=.nx ρ':=by unfold K0 sB;rw[h1];dsimp only;rw[h2]
theorem Vu{d:D}(h1:f ρ=.ok d ρ1):Y9 f ρ=.nx ρ1:=by unfold Y9 sB;rw[h1]
theorem US{i:Nat}{d:D}(h:i<ρ.length)(h2:ρ.set i (O (.pub d))=ρ'):gN i d ρ=O ρ':=by unfold gN;rw[Qp h,h2]
theorem KZ:gN0 [] ρ=O ρ:=rfl
theorem Kc{s:D->UB->A7}{t:AZ->UB->A7}{d:D}{r:AZ}(h1:s d ρ=O ρ1)(h2:t r ρ1=O ρ'):gNC s t (d::r) ρ=O ρ':=by unfold gNC;dsimp only;rw[h1];exact h2
theorem KY{n:Nat}{t:AZ->UB->A7}{ds:AZ}(h1:ds.length=n)(h2:t ds ρ=O ρ'):gT n t (.tuple ds) ρ=O ρ':=by unfold gT;dsimp only;rw[if_pos h1];exact h2
structure Ho(g:SM)(ρ:UB)(Q:Out->Prop):Prop where
 out:Q (g ρ)
noncomputable def Lv(h:SM)(Q:Out->Prop):Out->Prop
 |.nx ρ'=>Ho h ρ' Q
 |o=>Q o
structure Tz(h:SM)(Q:Out->Prop)(o:Out):Prop where
 out:Lv h Q o
variable{Q:Out->Prop}{s t u:SM}
theorem Kv(h:Ho s ρ (Tz t Q)):Ho (UI s t) ρ Q:=by
 have h:=h.out.out;constructor;unfold UI;cases e:s ρ with
 |nx o=>rw[e]at h;exact h.out
 |_=>rw[e]at h;exact h
theorem U5(h1:s ρ=.nx ρ1)(h2:Ho t ρ1 Q):Ho (UI s t) ρ Q:=by
 constructor;unfold UI;rw[h1];exact h2.out
theorem KJ{o:Out}(h1:s ρ=o)(h2:Q o):Ho s ρ Q:=by constructor;rw[h1];exact h2
theorem Ky(h:Q (.nx ρ)):Ho sNx ρ Q:=⟨h⟩
theorem KI{o:UB}(h:Ho t o Q):Tz t Q (.nx o):=⟨h⟩
theorem Y8{d:D}(h:Q (.rt d)):Tz t Q (.rt d):=⟨h⟩
theorem Kl{f:M Bool}{b:Bool}(h1:f ρ=.ok b ρ1)(h2:b=AX->Ho s ρ1 Q)(h3:b=AY->Ho t ρ1 Q):Ho (sIf f s t) ρ Q:=by
 constructor;unfold sIf sB;rw[h1];dsimp only
 cases b with
 |true=>rw[Qp AV];exact(h2 AV).out
 |false=>rw[Qz (by decide)];exact(h3 AV).out
theorem KL{d:D}(h1:f ρ=.ok d ρ1)(h2:Q (.rt d)):Ho (U2 f) ρ Q:=by constructor;unfold U2 sB;rw[h1];exact h2
theorem V3{P:Out->Prop}(h:Ho s ρ P)(k:∀o,P o->Q o):Ho s ρ Q:=⟨k _ h.out⟩
noncomputable def Lu(I:UB->Prop)(Q:Out->Prop):Out->Prop
 |.nx ρ | .ct ρ=>I ρ
 |.bk ρ=>Q (.nx ρ)
 |.rt d=>Q (.rt d)
 |.ex ρ d=>Q (.ex ρ d)
 |.ro ds=>Q (.ro ds)
 |.bad=>False
structure Vg(I:UB->Prop)(Q:Out->Prop)(o:Out):Prop where
 out:Lu I Q o
theorem Z1{I:UB->Prop}(h:I ρ):Vg I Q (.nx ρ):=⟨h⟩
theorem Yj{ρ:UB}{d:D}(h:Q (.ex ρ d)):Tz t Q (.ex ρ d):=⟨h⟩
theorem YJ{f:M AZ}{tg:D->UB->A7}{ds:AZ}(I:Nat->UB->Prop)(h1:f ρ=.ok ds ρ1)(h0:I 0 ρ1)
  (hst:∀i d ρ,ds[i]?=O d->I i ρ->∃ρ2,tg d ρ=O ρ2/\Ho s ρ2 (Vg (I (i+1)) Q)) (hend:∀ρ,I ds.length ρ->Q (.nx ρ)):Ho (Ko f tg s) ρ Q:=by
 constructor;unfold Ko sB;rw[h1];dsimp only
 refine O8 (P:=I) (R:=Q) ds 0 ρ1 h0 (λi d ρ e p=>?_) (λρ p=>hend ρ (by rw[Nat.zero_add]at p;exact p));rw[Nat.zero_add]at p;obtain⟨ρ2,e2,q⟩:=hst i d ρ e p;refine⟨ρ2,e2,?_⟩;rw[Nat.zero_add];have q:=q.out.out;cases z:s ρ2 with
 |nx o=>rw[z]at q;exact .inl ⟨o,.inl AV,q⟩
 |ct o=>rw[z]at q;exact .inl ⟨o,.inr AV,q⟩
 |rt o=>rw[z]at q;exact .inr (.inl ⟨o,rfl,q⟩)
 |bk o=>rw[z]at q;exact .inr (.inr (.inl ⟨o,rfl,q⟩))
 |ex o x=>rw[z]at q;exact .inr (.inr (.inr (.inl ⟨o,x,rfl,q⟩)))
 |ro o=>rw[z]at q;exact .inr (.inr (.inr (.inr ⟨o,rfl,q⟩)))
 |bad=>rw[z]at q;exact q.elim
theorem TQ{N:List Str}{ds:AZ}{P:D->Prop}(h0:KO N ds=ρ)(h:Ho s ρ λo=>∃d,o=.rt d/\P d):∃d,Ka N s ds=O d/\P d:=by subst h0;obtain⟨d,e,p⟩:=h.out;refine⟨d,?_,p⟩;unfold Ka;rw[e]
theorem ZC{N:List Str}{ds:AZ}{d:D}(h0:KO N ds=ρ)(h:Ho s ρ λo=>o=.rt d):Ka N s ds=O d:=by obtain⟨d',e,p⟩:=TQ (P:=λx=>x=d) h0 (V3 h λo e=>⟨d,e,rfl⟩);rw[e,p]
end
section
variable{α β:Type}{ρ ρ1 ρ2 ρ3 ρ':UB}{f g h:M D}
theorem VX{l u:M A9}{x r:D}{a b:A9}(h1:f ρ=.ok x ρ1)(h2:l ρ1=.ok a ρ2)(h3:u ρ2=.ok b ρ3)(h4:Yt x a b=O r):ZO f l u ρ=.ok r ρ3:=by unfold ZO;exact Kh h1 (Kh h2 (Kh h3 (Zp h4)))
theorem Y2{f g:M Bool}(h1:f ρ=.ok AX ρ1):mOr f g ρ=.ok AX ρ1:=by unfold mOr;exact Kh h1 AV
theorem Yi{f g:M Bool}{u:Bool}(h1:f ρ=.ok AY ρ1)(h2:g ρ1=.ok u ρ2):mOr f g ρ=.ok u ρ2:=by unfold mOr;exact Kh h1 (by rw[Qz (by decide)];exact h2)
theorem ZF{c:String}{d:D}{t:Bool}(h:f ρ=.ok d ρ1)(ht:(!Kb d c)=t):Kf (Zh (UO (λd=>.bool (Kb d c)) f)) ρ=.ok t ρ1:=by subst ht;exact YB (Wl (KE (k:=λd=>Up (Kb d c)) h))
theorem Ze{x:D}{r:AZ}(h1:f ρ=.ok x ρ1)(h2:Rg x=O r):Km f ρ=.ok r ρ1:=by unfold Km;exact Kh h1 (Zp h2)
theorem Vt{p:D->D->Option β}{i:Nat}{d y:D}{r:β}(h:ρ[i]?=O (O (.pub d)))(h1:g ρ=.ok y ρ1)(h2:p d y=O r):Yk p i g ρ=.ok r ρ1:=by unfold Yk;rw[h];exact Kh h1 (Zp h2)
theorem DO{p:D->D->Option β}{i:Nat}{ds es:AZ}{y:D}{r:β}(h:ρ[i]?=O (O (.own ds)))(h1:g ρ=.ok y ρ1)(h3:ρ1[i]?=O (O (.own es)))(h2:p (.list es) y=O r):Yk p i g ρ=.ok r ρ1:=by unfold Yk;rw[h];exact Kh h1 (by rw[h3];exact Zp h2)
theorem Yh{f:M AZ}{k:Nat}{s:D->UB->A7}{t:M Bool}{ds es:AZ}(h1:f ρ=.ok ds ρ1)(h2:K3 s t g ds (U4 ρ1++Um k AW) []=O es):KT f k s t g ρ=.ok es ρ1:=by unfold KT;rw[h1];dsimp only;rw[h2]
theorem Wj{s:D->UB->A7}{t:M Bool}(p:D->Bool)(q:D->D)(I:UB->Prop):∀(ds:AZ)(ρ:UB)(es:AZ),(∀d∈ds,∀ρ,I ρ->∃ρ1,s d ρ=O ρ1/\t ρ1=.ok (p d) ρ1/\(p d=AX->g ρ1=.ok (q d) ρ1)/\I (U4 ρ1))->I ρ->es.length+ds.length<=1000000 ->
  K3 s t g ds ρ es=O (es++(ds.filter p).map q)
 |[],ρ,es,_,_,_=>by rw[K3];simp
 |d::r,ρ,es,st,h0,hz=>by
  obtain⟨ρ1,e1,e2,e3,h1⟩:=st d Qg ρ h0;have ih:=λes' hz'=>Wj p q I r (U4 ρ1) es' (λd' hd=>st d' (Qj _ hd)) h1 hz';rw[QK]at hz;rw[K3,e1];dsimp only;rw[e2];dsimp only
  cases hp:p d with
  |true=>rw[Qp AV,e3 hp];dsimp only;rw[Qp (by lia),ih _ (by rw[Qh,QZ];lia),List.filter_cons_of_pos hp,QN,Ji];rfl
  |false=>rw[Qz (by decide),ih _ (by lia),List.filter_cons_of_neg (by rw[hp];decide)]
theorem Fd{j:Nat}{d:D}{k:Int}{qT ds:AZ}(h1:f ρ=.ok d ρ1)(h0:ρ1[j]?=O (O (.own qT)))(h2:g ρ1=.ok (.int k) ρ2)(h3:ρ2[j]?=O (O (.own ds)))(h4:0<=k/\k<ds.length)(h5:ρ2.set j (O (.own (ds.set k.toNat d)))=ρ'):TB j g f ρ=.nx ρ':=by unfold TB sB;rw[h1];dsimp only;rw[h0];dsimp only;rw[h2];dsimp only;rw[h3];dsimp only;rw[if_pos h4];subst h5;rfl
theorem T9{xs:AZ}{a b:A9}:Yt (.list xs) a b=O (.list (DL.cutD xs a b)):=rfl
theorem Ov{xs:AZ}:Rg (.list xs)=O xs:=rfl
theorem Af(bs:List Bool):YL (bs.map Up)=O bs:=by
 induction bs with
 |nil=>rfl
 |cons b r ih=>rw[QN,YL,ih];rfl
theorem Ou{bs:List Bool}:ZL [.list (bs.map Up)]=O (.bool (bs.all id)):=by unfold ZL;dsimp only;rw[Af];rfl
end
section
variable{α β:Type}{ρ ρ1 ρ2 ρ3 ρ4 ρ':UB}{f g h:M D}{s:SM}
theorem LM{l u t:M A9}{xs:AZ}(h1:f ρ=.ok (.list xs) ρ1)(h2:l ρ1=.ok AW ρ2)(h3:u ρ2=.ok AW ρ3)(h4:t ρ3=.ok (O (-1)) ρ4):XM f l u t ρ=.ok (.list xs.reverse) ρ4:=by unfold XM;exact Kh h1 (Kh h2 (Kh h3 (Kh h4 (Zp (by unfold Xw;exact Qp AV)))))
theorem SS{N:List Str}{ds:AZ}(h0:KO N ds=ρ)(h:Ho s ρ λo=>∃ρ',o=.nx ρ'):Ka N s ds=O .none:=by subst h0;obtain⟨ρ',e⟩:=h.out;unfold Ka;rw[e]
theorem S9{i j:Int}:oNe (.int i) (.int j)=O (!decide (i=j)):=by unfold oNe;rw[if_pos ⟨rfl,rfl,by simp[Ut]⟩];congr 1
theorem DN{xs:A1}{j:Nat}{v:Int}:(xs.map int).set j (.int v)=(xs.set j v).map int:=by rw[List.map_set]
theorem DM{xs:A1}{a b:Int}(ha:0<=a)(hb:0<=b)(hl:b<=xs.length):DL.cutD (xs.map int) (O a) (O b)=((xs.drop a.toNat).take (b.toNat-a.toNat)).map int:=by
 unfold DL.cutD HT.sIx;dsimp only;rw[Qz (by lia),Qz (by lia),Qd,List.map_take,List.map_drop];have e2:min b.toNat xs.length=b.toNat:=by lia
 rw[e2];by_cases hab:a.toNat<=xs.length
 .have e1:min a.toNat xs.length=a.toNat:=by lia
  rw[e1]
 .have e3:b.toNat-a.toNat=0:=by lia
  have e4:b.toNat-min a.toNat xs.length=0:=by lia
  rw[e3,e4,List.take_zero,List.take_zero]
end
end DL
namespace DL
open PySem PySem.Spec PySem.W PyProof.Rows
noncomputable def UV{α:Type}(lt:Nat->Nat->Bool):KasT α->α
 |.ret a=>a
 |.ask i j k=>UV lt (k (lt i j))
theorem Vw{α β:Type}{lt:Nat->Nat->Bool}{f:α->KasT β}:∀t:KasT α,UV lt (t.bind f)=UV lt (f (UV lt t))
 |.ret _=>rfl
 |.ask i j k=>by show UV lt ((k (lt i j)).bind f)=_;rw[Vw];rfl
section
variable{key:Nat->Int}{p:Array Nat}
noncomputable def KA(key:Nat->Int)(p:Array Nat)(i:Nat):Int:=key (p.getD i 0)
def srt(key:Nat->Int)(p:Array Nat)(m:Nat):Prop:=∀i j,i<=j->j<m->KA key p i<=KA key p j
def dsc(key:Nat->Int)(p:Array Nat)(m:Nat):Prop:=∀i j,i<=j->j<m->KA key p j<=KA key p i
noncomputable abbrev kl(key:Nat->Int)(i j:Nat):Bool:=decide (key i<key j)
theorem O6{k d i:Nat}(hk:k<p.size)(hd:d<=k):KA key (bubble p k d) i=if i=k-d then KA key p k else if k-d<i/\i<=k then KA key p (i-1)else KA key p i:=by
 unfold KA;simp only[Q9];rw[getElem?_bubble hk d hd]
 repeat' split
 all_goals rfl
theorem VW{i j k:Nat}(hj:j<=p.size):KA key (kas_rev p i j) k=if i<=k/\k<j then KA key p (i+j-1-k)else KA key p k:=by
 unfold KA kas_rev;simp only[Q9];rw[getElem?_mirror_all hj]
 split<;>rfl
theorem WH{i j:Nat}:(kas_rev p i j).size=p.size:=mirror_size _ _ _ _
theorem Xo{i j:Nat}:(kas_rev p i j).Perm p:=mirror_perm _ _ _ _
theorem Rs:∀(f n:Nat),1<=n->srt key p n->srt key p (UV (kl key) (kas_asc p f n))/\n<=UV (kl key) (kas_asc p f n)/\UV (kl key) (kas_asc p f n)<=n+f /\
  (UV (kl key) (kas_asc p f n)<n+f->KA key p (UV (kl key) (kas_asc p f n))<KA key p (UV (kl key) (kas_asc p f n)-1))
 |0,n,h1,hs=>⟨hs,Qq _,Qq _,λh=>absurd h (Jn _)⟩
 |f+1,n,h1,hs=>by
  unfold kas_asc UV;cases c:kl key (p.getD n 0) (p.getD (n-1) 0)with
  |true=>dsimp only;rw[Qp AV];exact⟨hs,Qq _,by show n<=n+(f+1);lia,λ_=>Qa c⟩
  |false=>
   dsimp only;rw[Qz (by decide)];have hle:KA key p (n-1)<=KA key p n:=Ua.mp (JA c)
   obtain⟨a1,a2,a3,a4⟩:=Rs f (n+1) (by lia) (λi j hij hj=>by
    by_cases qU:j=n
    .subst qU
     by_cases hin:i=j
     .subst hin;exact JN _
     .exact Int.le_trans (hs i (j-1) (by lia) (by lia)) hle
    .exact hs i j hij (by lia))
   exact⟨a1,by lia,by lia,λh=>a4 (by lia)⟩
def eqs(key:Nat->Int)(p:Array Nat)(n q:Nat):Prop:=∀i,n-1-q<=i->i<n->KA key p i=KA key p (n-1)
theorem Sm:∀(f:Nat)(p:Array Nat)(n q:Nat),1<=n->q+1<=n->n+f<=p.size->dsc key p n->eqs key p n q ->
  let r:=UV (kl key) (kas_desc f p n q)
  r.1.Perm p/\r.1.size=p.size/\dsc key r.1 r.2.1/\eqs key r.1 r.2.1 r.2.2/\r.2.2+1<=r.2.1/\n<=r.2.1/\r.2.1<=n+f
 |0,p,n,q,h1,hq,hz,hd,he=>⟨J5 _,rfl,hd,he,hq,Qq _,Qq _⟩
 |f+1,p,n,q,h1,hq,hz,hd,he=>by
  intro r;have hr:r=UV (kl key) (kas_desc (f+1) p n q):=rfl;unfold kas_desc UV at hr;cases c:kl key (p.getD n 0) (p.getD (n-1) 0)with
  |true=>
   rw[c]at hr;(try dsimp only at hr);rw[if_pos AV]at hr;have hlt:KA key p n<KA key p (n-1):=Qa c
   have ext:∀p':Array Nat,(∀i,KA key p' i=KA key p i)->dsc key p' (n+1)/\eqs key p' (n+1) 0:=λp' hp=>⟨λi j hij hj=>by
     rw[hp,hp];by_cases qU:j=n
     .subst qU
      by_cases hin:i=j
      .subst hin;exact JN _
      .exact Int.le_trans (Int.le_of_lt hlt) (hd i (j-1) (by lia) (by lia))
     .exact hd i j hij (by lia),λi hi1 hi2=>by
     have:i=n:=by lia
     subst this;rfl⟩
   by_cases jx:q > 0
   .rw[Qp jx]at hr
    have same:∀i,KA key (kas_rev p (n-(q+1)) n) i=KA key p i:=λi=>by
     rw[VW (by lia)];split
     .rw[he _ (by lia) (by lia),he i (by lia) (by lia)]
     .rfl
    obtain⟨d1,e1⟩:=ext _ same;obtain⟨a1,a2,a3,a4,a5,a6,a7⟩:=Sm f (kas_rev p (n-(q+1)) n) (n+1) 0 (by lia) (by lia) (by rw[WH];lia) d1 e1;rw[←hr]at a1 a2 a3 a4 a5 a6 a7;exact⟨a1.trans Xo,a2.trans WH,a3,a4,a5,by lia,by lia⟩
   .rw[Qz jx]at hr
    obtain⟨d1,e1⟩:=ext p λ_=>rfl
    obtain⟨a1,a2,a3,a4,a5,a6,a7⟩:=Sm f p (n+1) 0 (by lia) (by lia) (by lia) d1 e1;rw[←hr]at a1 a2 a3 a4 a5 a6 a7;exact⟨a1,a2,a3,a4,a5,by lia,by lia⟩
  |false=>
   rw[c]at hr;(try dsimp only at hr);rw[if_neg (by decide)]at hr;unfold UV at hr;have hle:KA key p (n-1)<=KA key p n:=Ua.mp (JA c);cases d:kl key (p.getD (n-1) 0) (p.getD n 0)with
   |true=>rw[d]at hr;(try dsimp only at hr);rw[if_pos AV]at hr;unfold UV at hr;rw[hr];exact⟨J5 _,rfl,hd,he,hq,Qq _,by show n<=n+(f+1);lia⟩
   |false=>
    rw[d]at hr;(try dsimp only at hr);rw[if_neg (by decide)]at hr;have hge:KA key p n<=KA key p (n-1):=Ua.mp (JA d)
    obtain⟨a1,a2,a3,a4,a5,a6,a7⟩:=Sm f p (n+1) (q+1) (by lia) (by lia) (by lia) (λi j hij hj=>by
     by_cases qU:j=n
     .subst qU
      by_cases hin:i=j
      .subst hin;exact JN _
      .exact Int.le_trans hge (hd i (j-1) (by lia) (by lia))
     .exact hd i j hij (by lia)) (λi hi1 hi2=>by
     have e0:KA key p n=KA key p (n-1):=Int.le_antisymm hge hle;show KA key p i=KA key p (n+1-1);rw[Nat.add_sub_cancel,e0];by_cases hin:i=n
     .subst hin;exact e0
     .exact he i (by lia) (by lia))
    rw[←hr]at a1 a2 a3 a4 a5 a6 a7;exact⟨a1,a2,a3,a4,a5,by lia,by lia⟩
theorem NC{n nrem:Nat}(h1:1<=n)(hn:n<=nrem)(hz:nrem<=p.size)(hd:dsc key p n) :
  let r:=UV (kl key) (kas_tail3 n nrem p)
  r.2.Perm p/\r.2.size=p.size/\srt key r.2 r.1/\1<=r.1/\r.1<=nrem:=by
 intro r;have hr:r=UV (kl key) (kas_tail3 n nrem p):=rfl;unfold kas_tail3 at hr;rw[Vw]at hr;have hs:srt key (kas_rev p 0 n) n:=λi j hij hj=>by rw[VW (by lia),VW (by lia),Qp (by lia),Qp (by lia)];exact hd _ _ (by lia) (by lia)
 obtain⟨a1,a2,a3,_⟩:=Rs (key:=key) (p:=kas_rev p 0 n) (nrem-n) n h1 hs;rw[hr];exact⟨Xo,WH,a1,by show 1<=UV _ _;lia,by show UV _ _<=_;lia⟩
theorem Mf{n nrem:Nat}(h1:1<=n)(hn:n+1<=nrem)(hz:nrem<=p.size)(hd:dsc key p (n+1)) :
  let r:=UV (kl key) (kas_descPart n nrem p)
  r.2.Perm p/\r.2.size=p.size/\srt key r.2 r.1/\1<=r.1/\r.1<=nrem:=by
 intro r;have hr:r=UV (kl key) (kas_descPart n nrem p):=rfl;unfold kas_descPart at hr;rw[Vw]at hr
 obtain⟨a1,a2,a3,a4,a5,a6,a7⟩:=Sm (key:=key) (nrem-(n+1)) p (n+1) 0 (by lia) (by lia) (by lia) hd (λi hi1 hi2=>by
  have:i=n:=by lia
  subst this;rfl)
 generalize UV (kl key) (kas_desc (nrem-(n+1)) p (n+1) 0)=d at hr a1 a2 a3 a4 a5 a6 a7;obtain⟨p1,n1,q1⟩:=d;dsimp only at hr a1 a2 a3 a4 a5 a6 a7;by_cases hq:q1 > 0
 .rw[Qp hq]at hr
  have same:∀i,KA key (kas_rev p1 (n1-(q1+1)) n1) i=KA key p1 i:=λi=>by
   rw[VW (by lia)];split
   .rw[a4 _ (by lia) (by lia),a4 i (by lia) (by lia)]
   .rfl
  obtain⟨b1,b2,b3,b4,b5⟩:=NC (key:=key) (p:=kas_rev p1 (n1-(q1+1)) n1) (n:=n1) (nrem:=nrem) (by lia) (by lia) (by rw[WH];lia) (λi j hij hj=>by rw[same,same];exact a3 i j hij hj);rw[hr];exact⟨(b1.trans Xo).trans a1,(b2.trans WH).trans a2,b3,b4,b5⟩
 .rw[Qz hq]at hr
  obtain⟨b1,b2,b3,b4,b5⟩:=NC (key:=key) (p:=p1) (n:=n1) (nrem:=nrem) (by lia) (by lia) (by lia) a3;rw[hr];exact⟨b1.trans a1,b2.trans a2,b3,b4,b5⟩
theorem Bs{nrem:Nat}(h1:1<=nrem)(hz:nrem<=p.size) :
  let r:=UV (kl key) (kas_count nrem p)
  r.2.Perm p/\r.2.size=p.size/\srt key r.2 r.1/\1<=r.1/\r.1<=nrem:=by
 intro r;have hr:r=UV (kl key) (kas_count nrem p):=rfl;unfold kas_count at hr;rw[Vw]at hr
 obtain⟨a1,a2,a3,a4⟩:=Rs (key:=key) (p:=p) (nrem-1) 1 (Qq _) (λi j hij hj=>by
  have:i=j:=by lia
  subst this;exact JN _)
 generalize UV (kl key) (kas_asc p (nrem-1) 1)=n at hr a1 a2 a3 a4;by_cases hn:(n==nrem)=AX
 .rw[Qp hn]at hr
  unfold UV at hr;rw[hr];exact⟨J5 _,rfl,a1,a2,by show n<=nrem;lia⟩
 .rw[Qz hn]at hr
  have hne:n≠nrem:=by simpa using hn
  have hlt:=a4 (by lia);by_cases hn1:n > 1
  .rw[Qp hn1]at hr
   unfold UV at hr;cases c:kl key (p.getD 0 0) (p.getD (n-1) 0)with
   |true=>rw[c]at hr;(try dsimp only at hr);rw[if_pos AV]at hr;unfold UV at hr;rw[hr];exact⟨J5 _,rfl,a1,a2,by show n<=nrem;lia⟩
   |false=>
    rw[c]at hr;(try dsimp only at hr);rw[if_neg (by decide)]at hr;have hge:KA key p (n-1)<=KA key p 0:=Ua.mp (JA c);have all:∀i,i<n->KA key p i=KA key p 0:=λi hi=>Int.le_antisymm (Int.le_trans (a1 i (n-1) (by lia) (by lia)) hge) (a1 0 i (by lia) hi)
    have same:∀i,KA key (kas_rev p 0 n) i=KA key p i:=λi=>by
     rw[VW (by lia)];split
     .rw[all _ (by lia),all i (by lia)]
     .rfl
    obtain⟨b1,b2,b3,b4,b5⟩:=Mf (key:=key) (p:=kas_rev p 0 n) (n:=n) (nrem:=nrem) a2 (by lia) (by rw[WH];exact hz) (λi j hij hj=>by
     rw[same,same];by_cases qU:j=n
     .subst qU
      by_cases hin:i=j
      .subst hin;exact JN _
      .rw[all i (by lia)]
       rw[all (j-1) (by lia)]at hlt;exact Int.le_of_lt hlt
     .rw[all i (by lia),all j (by lia)];exact JN _)
    rw[hr];exact⟨b1.trans Xo,b2.trans WH,b3,b4,b5⟩
  .rw[Qz hn1]at hr
   have:n=1:=by lia
   subst this
   obtain⟨b1,b2,b3,b4,b5⟩:=Mf (key:=key) (p:=p) (n:=1) (nrem:=nrem) (Qq _) (by lia) hz (λi j hij hj=>by
    by_cases hij2:i=j
    .subst hij2;exact JN _
    .have h0:i=0:=by lia
     have h1:j=1:=by lia
     subst h0;subst h1;exact Int.le_of_lt hlt)
   rw[hr];exact⟨b1,b2,b3,b4,b5⟩
theorem RG{k:Nat}(hs:srt key p k):∀(f l r:Nat),l<=r->r<=k->r-l<=f->(∀i,i<l->KA key p i<=KA key p k)->(∀i,r<=i->i<k->KA key p k<KA key p i) ->
  let m:=UV (kl key) (kas_place p k f l r)
  m<=k/\(∀i,i<m->KA key p i<=KA key p k)/\(∀i,m<=i->i<k->KA key p k<KA key p i)
 |0,l,r,hlr,hrk,hf,h1,h2=>⟨by show l<=k;lia,h1,λi (hi:l<=i)=>h2 i (by lia)⟩
 |f+1,l,r,hlr,hrk,hf,h1,h2=>by
  intro m;have hm:m=UV (kl key) (kas_place p k (f+1) l r):=rfl;unfold kas_place at hm;by_cases hge:l ≥ r
  .rw[Qp hge]at hm
   unfold UV at hm;rw[hm];exact⟨by lia,h1,λi hi=>h2 i (by lia)⟩
  .rw[Qz hge]at hm
   unfold UV at hm;cases c:kl key (p.getD k 0) (p.getD ((l+r) / 2) 0)with
   |true=>rw[c]at hm;(try dsimp only at hm);rw[if_pos AV]at hm;rw[hm];have hlt:KA key p k<KA key p ((l+r) / 2):=Qa c;exact RG hs f l ((l+r) / 2) (by lia) (by lia) (by lia) h1 λi hi hik=>Int.lt_of_lt_of_le hlt (hs _ _ hi hik)
   |false=>rw[c]at hm;(try dsimp only at hm);rw[if_neg (by decide)]at hm;rw[hm];have hle:KA key p ((l+r) / 2)<=KA key p k:=Ua.mp (JA c);exact RG hs f ((l+r) / 2+1) r (by lia) hrk (by lia) (λi hi=>Int.le_trans (hs i ((l+r) / 2) (by lia) (by lia)) hle) h2
theorem OL:∀(f:Nat)(p:Array Nat)(k:Nat),k+f<=p.size->srt key p k->let r:=UV (kl key) (kas_bin f p k);r.Perm p/\r.size=p.size/\srt key r (k+f)
 |0,p,k,_,hs=>⟨J5 _,rfl,hs⟩
 |f+1,p,k,hz,hs=>by
  intro r;have hr:r=UV (kl key) (kas_bin (f+1) p k):=rfl;unfold kas_bin at hr;rw[Vw]at hr;obtain⟨a1,a2,a3⟩:=RG (key:=key) hs k 0 k (JX _) (Qq _) (by omega) (λi hi=>by omega) (λi h1 h2=>by omega);generalize UV (kl key) (kas_place p k k 0 k)=l at hr a1 a2 a3;have hk:k<p.size:=by omega
  obtain⟨b1,b2,b3⟩:=OL f (bubble p k (k-l)) (k+1) (by rw[bubble_size];omega) (λi j hij hj=>by
   rw[O6 hk (by omega),O6 hk (by omega),show k-(k-l)=l by omega];by_cases hi:i=l
   .rw[Qp hi]
    by_cases jy:j=l
    .rw[Qp jy];exact JN _
    .rw[Qz jy,Qp (by omega)]
     exact Int.le_of_lt (a3 (j-1) (by omega) (by omega))
   .rw[Qz hi]
    by_cases hi2:l<i/\i<=k
    .rw[Qp hi2,Qz (show ¬j=l by omega),Qp (by omega)]
     exact hs _ _ (by omega) (by omega)
    .rw[Qz hi2]
     by_cases jy:j=l
     .rw[Qp jy];exact a2 i (by omega)
     .rw[Qz jy]
      split
      .exact hs _ _ (by omega) (by omega)
      .exact hs _ _ (by omega) (by omega))
  rw[hr];exact⟨b1.trans (bubble_perm _ _ _),b2.trans (bubble_size _ _ _),by rw[show k+(f+1)=k+1+f by omega];exact b3⟩
theorem Bp{n:Nat}(h1:1<=n):let r:=UV (kl key) (kas_sort n);r.Perm (List.toArray (Ul n))/\r.size=n/\srt key r n:=by
 intro r;have hr:r=UV (kl key) (kas_sort n):=rfl;unfold kas_sort at hr;rw[Vw]at hr;have hsz:(List.toArray (Ul n)).size=n:=by simp
 obtain⟨a1,a2,a3,a4,a5⟩:=Bs (key:=key) (p:=List.toArray (Ul n)) (nrem:=n) h1 (by rw[hsz];exact Qq _);generalize UV (kl key) (kas_count n (List.toArray (Ul n)))=d at hr a1 a2 a3 a4 a5;by_cases hlt:d.1<n
 .rw[Qp hlt]at hr
  have hmax:max d.1 1=d.1:=by lia
  rw[hmax]at hr;obtain⟨b1,b2,b3⟩:=OL (key:=key) (n-d.1) d.2 d.1 (by lia) a3;rw[hr];exact⟨b1.trans a1,by lia,by rw[show d.1+(n-d.1)=n by lia]at b3;exact b3⟩
 .rw[Qz hlt]at hr
  unfold UV at hr;rw[hr];exact⟨a1,by lia,by rw[show d.1=n by lia]at a3;exact a3⟩
noncomputable def Asks{α:Type}(N:Nat)(R:α->Prop):KasT α->Prop
 |.ret a=>R a
 |.ask i j k=>i<N/\j<N/\∀b,Asks N R (k b)
theorem Asks.bind{α β:Type}{N:Nat}{R:α->Prop}{S:β->Prop}{f:α->KasT β}(hf:∀a,R a->Asks N S (f a)):∀{t:KasT α},Asks N R t->Asks N S (t.bind f)
 |.ret a,h=>hf a h
 |.ask _ _ k,⟨h1,h2,h3⟩=>⟨h1,h2,λb=>Asks.bind hf (h3 b)⟩
theorem OK{α:Type}{lt:Nat->Nat->Bool}{cmp:Nat->Nat->(Bool->Uc->Prop)->Uc->Prop}{s:Uc}{N:Nat}{R:α->Prop}(hc:∀i j C,i<N->j<N->C (lt i j) s->cmp i j C s):∀(t:KasT α)(Q:α->Uc->Prop),Asks N R t->Q (UV lt t) s->t.kasWp cmp Q s
 |.ret _,_,_,h=>h
 |.ask i j k,Q,⟨h1,h2,h3⟩,h=>hc i j _ h1 h2 (OK hc (k (lt i j)) Q (h3 _) h)
def bnd(N:Nat)(p:Array Nat):Prop:=∀i,p.getD i 0<N
theorem VD{N:Nat}{p q:Array Nat}(hN:0<N)(h:bnd N p)(e:q.Perm p):bnd N q:=λi=>by
 rw[Q9];cases z:q[i]? with
 |none=>exact hN
 |some v=>have hm:v∈q:=Array.mem_of_getElem? z;have hm2:v∈p:=e.mem_iff.mp hm;obtain⟨j,hj,e2⟩:=Array.mem_iff_getElem.mp hm2;have:=h j;rw[Q9,JK hj,e2]at this;exact this
section
variable{N:Nat}(hN:0<N)
include hN
theorem Rr{p:Array Nat}(h:bnd N p):∀(f n:Nat),Asks N (λ_=>True) (kas_asc p f n)
 |0,_=>trivial
 |f+1,n=>⟨h _,h _,λb=>by
  cases b with
  |true=>(try dsimp only);rw[if_pos AV];trivial
  |false=>(try dsimp only);rw[if_neg (by decide)];exact Rr h f (n+1)⟩
theorem Sk:∀(f:Nat)(p:Array Nat)(n q:Nat),bnd N p->Asks N (λr=>bnd N r.1) (kas_desc f p n q)
 |0,p,_,_,h=>h
 |f+1,p,n,q,h=>⟨h _,h _,λb=>by
  cases b with
  |true=>
   dsimp only;rw[Qp AV];split
   .exact Sk f _ _ _ (VD hN h Xo)
   .exact Sk f _ _ _ h
  |false=>
   dsimp only;rw[Qz (by decide)];refine⟨h _,h _,λb=>?_⟩;cases b with
   |true=>(try dsimp only);rw[if_pos AV];exact h
   |false=>(try dsimp only);rw[if_neg (by decide)];exact Sk f _ _ _ h⟩
theorem NB{p:Array Nat}{n nrem:Nat}(h:bnd N p):Asks N (λr=>bnd N r.2) (kas_tail3 n nrem p):=
 Asks.bind (N:=N) (R:=λ_=>True) (S:=λr:Nat×Array Nat=>bnd N r.2) (f:=λm=>.ret (m,kas_rev p 0 n)) (λ_ _=>VD (p:=p) (q:=kas_rev p 0 n) hN h Xo) (Rr hN (VD hN h Xo) _ _)
theorem Me{p:Array Nat}{n nrem:Nat}(h:bnd N p):Asks N (λr=>bnd N r.2) (kas_descPart n nrem p):=
 Asks.bind (λr hr=>by
  split
  .exact NB hN (VD hN hr Xo)
  .exact NB hN hr) (Sk hN _ _ _ _ h)
theorem Br{p:Array Nat}{nrem:Nat}(h:bnd N p):Asks N (λr=>bnd N r.2) (kas_count nrem p):=
 Asks.bind (R:=λ_=>True) (λn _=>by
  split
  .exact h
  .split
   .refine⟨h _,h _,λb=>?_⟩
    cases b with
    |true=>(try dsimp only);rw[if_pos AV];exact h
    |false=>(try dsimp only);rw[if_neg (by decide)];exact Me hN (VD hN h Xo)
   .exact Me hN h) (Rr hN h _ _)
theorem RP{p:Array Nat}(h:bnd N p)(k:Nat):∀(f l r:Nat),Asks N (λ_=>True) (kas_place p k f l r)
 |0,_,_=>trivial
 |f+1,l,r=>by
  unfold kas_place;split
  .trivial
  .refine⟨h _,h _,λb=>?_⟩
   cases b with
   |true=>(try dsimp only);rw[if_pos AV];exact RP h k f _ _
   |false=>(try dsimp only);rw[if_neg (by decide)];exact RP h k f _ _
theorem OJ:∀(f:Nat)(p:Array Nat)(k:Nat),bnd N p->Asks N (λ_=>True) (kas_bin f p k)
 |0,_,_,_=>trivial
 |f+1,p,k,h=>Asks.bind (R:=λ_=>True) (λl _=>OJ f _ _ (VD hN h (bubble_perm _ _ _))) (RP hN h k _ _ _)
end
theorem Bo{n:Nat}(hn:0<n):Asks n (λ_=>True) (kas_sort n):=by
 have hb:bnd n (List.toArray (Ul n)):=λi=>by
  rw[Q9];by_cases hi:i<n
  .simp[hi]
  .simp[hi,hn]
 refine Asks.bind (λr hr=>?_) (Br hn hb);split
 .exact OJ hn _ _ _ hr
 .trivial
end
noncomputable def U9(q:Int×Int):Int:=q.1*10000000+q.2
def okP(q:Int×Int):Prop:=-1000000<=q.2/\q.2<=1000000
theorem Fc{x y:Int×Int}(hx:okP x)(hy:okP y):U9 x<U9 y ↔ (x.1<y.1∨x.1=y.1/\x.2<y.2):=by
 unfold U9 okP at *
 lia
theorem DK{x y:Int×Int}(hx:okP x)(hy:okP y)(h:U9 x=U9 y):x=y:=by
 unfold U9 okP at *;have h1:x.1=y.1:=by lia
 have h2:x.2=y.2:=by lia
 exact Prod.ext h1 h2
section
variable{prog:Ud}{w:World}{A:Around}{E:Ub->Uc->Prop}{s:Uc}
def TN(h:Heap)(v:Ub)(q:Int×Int):Prop:=∃a t u o n,v=.ref a/\h.get? a=O o/\o.cls=.type "tuple" /\ o.data=.seq #[.int q.1 t,.int q.2 u] n
theorem Fb{x y:Ub}{p q:Int×Int}{Q:Bool->Uc->Prop}(hx:TN s.heap x p)(hy:TN s.heap y q)(h:Q (decide (p.1<q.1∨p.1=q.1/\p.2<q.2)) s):Ui (model prog w) A (keyLt' (tuples' AX) x y) Q E s:=by
 obtain⟨a,t,u,o,n,rfl,e1,c1,d1⟩:=hx;obtain⟨b,t',u',o',n',rfl,e2,c2,d2⟩:=hy;refine kat_lt e1 d1 e2 d2 ?_;show KatLex prog w A AX _ Q [(Value.int p.1 t,Value.int q.1 t'),(Value.int p.2 u,Value.int q.2 u')] 0 s;refine kat_cons (wpAny_eqBool_int ?_);by_cases h1:p.1=q.1
 .have e:(p.1==q.1)=AX:=by simpa using h1
  rw[e];refine kat_yes (kat_cons (wpAny_eqBool_int ?_));by_cases h2:p.2=q.2
  .have e:(p.2==q.2)=AX:=by simpa using h2
   rw[e];refine kat_yes (kat_nil ?_);have:decide (p.1<q.1∨p.1=q.1/\p.2<q.2)=AY:=Qy (by lia);rw[this]at h;exact h
  .have e:(p.2==q.2)=AY:=by simpa using h2
   rw[e];refine kat_no (kat_one _ _ (PyProof.Rows.lt_int ?_))
   have:decide (p.1<q.1∨p.1=q.1/\p.2<q.2)=decide (p.2<q.2):=by
    by_cases z:p.2<q.2
    .rw[QG z,QG (.inr ⟨h1,z⟩)]
    .rw[Qy z,Qy (by lia)]
   rw[this]at h;exact h
 .have e:(p.1==q.1)=AY:=by simpa using h1
  rw[e];refine kat_no (oneLt_int ?_)
  have:decide (p.1<q.1∨p.1=q.1/\p.2<q.2)=decide (p.1<q.1):=by
   by_cases z:p.1<q.1
   .rw[QG z,QG (.inl z)]
   .rw[Qy z,Qy (by lia)]
  rw[this]at h;exact h
noncomputable def ZI(h:Heap):A0->LP->Prop
 |[],[]=>True
 |v::vs,q::qs=>TN h v q/\ZI h vs qs
 |_,_=>False
theorem ZI.get{h:Heap}:∀{vs:A0}{qs:LP},ZI h vs qs->vs.length=qs.length/\∀(i:Nat)(hi:i<vs.length),TN h (vs.getD i .none) (qs.getD i (0,0))
 |[],[],_=>⟨rfl,λi hi=>absurd hi (Nat.not_lt_zero _)⟩
 |v::vs,q::qs,⟨h1,h2⟩=>by
  obtain⟨e,f⟩:=ZI.get h2;refine⟨by simp[e],λi hi=>?_⟩;cases i with
  |zero=>exact h1
  |succ i=>exact f i (by simpa using hi)
theorem ZI.tups{h:Heap}:∀{vs:A0}{qs:LP},ZI h vs qs->∃fs:A0,KatTups h vs fs/\fs.length=vs.length/\∀v∈fs,∃i t,v=.int i t
 |[],[],_=>⟨[],trivial,rfl,λ_ h=>by cases h⟩
 |v::vs,q::qs,⟨hp,h2⟩=>by
  obtain⟨a,t,u,o,n,rfl,e1,c1,d1⟩:=hp;obtain⟨fs,f1,f2,f3⟩:=ZI.tups h2;refine⟨.int q.1 t::fs,.cons e1 c1 d1 AV f1,by simp[f2],λv hv=>?_⟩;rcases QM.mp hv with rfl|hv
  .exact⟨_,_,rfl⟩
  .exact f3 v hv
theorem ZI.mono{h h':Heap}(k:∀b o,h.get? b=O o->h'.get? b=O o):∀{vs:A0}{qs:LP},ZI h vs qs->ZI h' vs qs
 |[],[],_=>trivial
 |v::vs,q::qs,⟨hp,h2⟩=>by obtain⟨a,t,u,o,n,rfl,e1,c1,d1⟩:=hp;exact⟨⟨a,t,u,o,n,rfl,k _ _ e1,c1,d1⟩,ZI.mono k h2⟩
def Tx(qs:LP)(π:A8):Prop:=π.Perm (Ul qs.length)/\(π.map λi=>qs.getD i (0,0)).Pairwise λx y=>U9 x<=U9 y
theorem AI{a:Ue}{vs:A0}{qs:LP}{n:Nat}{P:Fin->Uc->Prop}(ho:s.heap.get? a=O (seqObj "list" vs.toArray n))
  (hp:ZI ((s.heap.update a (Obj.mapSeq λ_=>#[]))) vs qs) (hq:∀q∈qs,okP q) (h64:vs.length<64)
  (h:∀π:A8,Tx qs π->P (.done (.ret .none)) {s with heap:=sortedHeap s.heap a vs (List.toArray (π.map λi=>vs.getD i .none))}) :
  Ui (model prog w) A (Builtin.«list.sort» ⟨[.ref a],[]⟩) P E s:=by
 obtain⟨hl,hget⟩:=hp.get;rw[list_sort_plain];have ha:a<s.heap.objs.size:=Qf ho;refine Qb (listItems_at ho AV ?_);refine Qb (listUpdate_at ho AV ?_);obtain⟨e1,ho1⟩:∃e1,(s.heap.update a (Obj.mapSeq λ_=>#[])).get? a=O (seqObj "list" #[] e1):=⟨_,get?_update_seq ho (λ_=>#[])⟩
 refine Qb (seqEpoch_at ho1 AV ?_);refine Qb (wpAny_newTuple ?_);refine Qb (wpAny_newList ?_);refine Jl ?_;have ho6:(((s.heap.update a (Obj.mapSeq λ_=>#[])).push (seqObj "tuple" vs.toArray 0)).push (seqObj "list" #[] 0)).get? a=O (seqObj "list" #[] e1):=by rw[Heap.get?_push_ne _ _ _ (by rw[size_push',Heap.size_update];exact QQ (Nat.lt_succ_of_lt ha)),Heap.get?_push_ne _ _ _ (by rw[Heap.size_update];exact QQ ha)];exact ho1
 have hp6:ZI (((s.heap.update a (Obj.mapSeq λ_=>#[])).push (seqObj "tuple" vs.toArray 0)).push (seqObj "list" #[] 0)) vs qs:=hp.mono λb o e=>Qe _ (Qe _ e)
 show Ui (model prog w) A _ P E {s with heap:=((s.heap.update a (Obj.mapSeq λ_=>#[])).push (seqObj "tuple" vs.toArray 0)).push (seqObj "list" #[] 0)};dsimp only;have hsz:vs.toArray.size=vs.length:=by simp
 by_cases h2:vs.toArray.size<2
 .rw[Qp h2,Qp h2]
  refine Qb (Qi ?_);rw[StateT.run_pure];refine Qb (Qi ?_);dsimp only;refine Qb (seqEpoch_at ho6 AV ?_);refine Qb (listUpdate_at ho6 AV ?_ (hsz2:=by rw[Array.size_map];show(pairsOf vs).size<=_;rw[pairsOf_size,JC];lia));simp only[bne_self_eq_false,Jz,J9]
  have hid:(arrOf (SortSt.mk' general' (vs.toArray.zip vs.toArray) #[] 7 AW)).map (·.2)=List.toArray ((Ul vs.length).map λi=>vs.getD i .none):=by
   show(vs.toArray.zip vs.toArray).map (·.2)=_
   apply Array.toList_inj.mp;apply List.ext_getElem?;intro i;simp only[Array.toList_map,Array.toList_zip,QC,List.getElem?_zip_eq_some];by_cases hi:i<vs.length
   .simp[List.getElem?_zip_eq_some,hi,List.getElem?_range]
   .simp[hi]
  rw[hid];refine Qi (h (Ul vs.length) ⟨by rw[hl],?_⟩);rw[List.pairwise_map];rw[hsz]at h2
  rcases(show vs.length=0∨vs.length=1 by lia)with z|z<;>rw[z]
  .exact .nil
  .exact List.pairwise_singleton _ _
 .rw[Qz h2,Qz h2]
  rw[hsz]at h2;obtain⟨fs,f1,f2,f3⟩:=hp6.tups;refine Qb (kat_kind (T:=.type "int") f1 (by lia) (λv hv=>by obtain⟨i,t,rfl⟩:=f3 v hv;exact(show Looks _ _ (pure (Value.type "int")) _ from .now)) AV ?_)
  refine Qb (QB (kat_run (ks:=vs) (G:=λp s'=>s' = {s with heap:=((s.heap.update a (Obj.mapSeq λ_=>#[])).push (seqObj "tuple" vs.toArray 0)).push (seqObj "list" #[] 0)}/\p=UV (kl λi=>U9 (qs.getD i (0,0))) (kas_sort vs.length))
   (Q:=λst' s'=>s' = {s with heap:=((s.heap.update a (Obj.mapSeq λ_=>#[])).push (seqObj "tuple" vs.toArray 0)).push (seqObj "list" #[] 0)}/\failedOf st'=AW/\arrOf st'=(UV (kl λi=>U9 (qs.getD i (0,0))) (kas_sort vs.length)).map (kas_item (vs.toArray.zip vs.toArray)))
   rfl (by lia) h64 (λp st' s' a1 a2 a3 a4=>⟨a4.1,a3,by rw[a2,a4.2]⟩) ?_) ?_ λ_ _ e=>e)
  .refine OK (N:=vs.length) (R:=λ_=>True) (lt:=kl λi=>U9 (qs.getD i (0,0))) (λi j C hi hj hC=>?_) _ _ (Bo (by lia)) ⟨rfl,rfl⟩
   refine Fb (ZI.get hp6 |>.2 i hi) (ZI.get hp6 |>.2 j hj) ?_;have oi:okP (qs.getD i (0,0)):=hq _ (by rw[List.getD_eq_getElem?_getD,Qm (by lia)];exact JT _);have oj:okP (qs.getD j (0,0)):=hq _ (by rw[List.getD_eq_getElem?_getD,Qm (by lia)];exact JT _);have e:decide ((qs.getD i (0,0)).1<(qs.getD j (0,0)).1∨(qs.getD i (0,0)).1=(qs.getD j (0,0)).1/\(qs.getD i (0,0)).2<(qs.getD j (0,0)).2)=kl (λi=>U9 (qs.getD i (0,0))) i j:=by unfold kl;exact decide_eq_decide.mpr (Fc oi oj).symm
   rw[e];exact hC
  .rintro⟨⟨⟩,st'⟩ s' ⟨rfl,hf,har⟩
   dsimp only;obtain⟨b1,b2,b3⟩:=Bp (key:=λi=>U9 (qs.getD i (0,0))) (n:=vs.length) (by lia);generalize UV (kl λi=>U9 (qs.getD i (0,0))) (kas_sort vs.length)=p at har b1 b2 b3;have hout:=kat_snds (ks:=vs) (vs:=vs) AV har;have hsz2:((arrOf st').map (·.2)).size=vs.length:=by rw[hout,QT,Qd,J4,b2]
   refine Qb (seqEpoch_at ho6 AV ?_);refine Qb (listUpdate_at ho6 AV ?_ (hsz2:=by rw[hsz2,JC];lia));rw[hf];simp only[bne_self_eq_false,Jz,J9];rw[hout];refine Qi (h p.toList ⟨?_,?_⟩)
   .have:=Array.perm_iff_toList_perm.mp b1
    rw[←hl];exact this
   .rw[List.pairwise_map,List.pairwise_iff_getElem]
    intro i j hi hj hij;rw[J4,b2]at hi hj;have:=b3 i j (by lia) hj;unfold KA at this;rw[Q9,Q9,JK (by lia),JK (by lia)]at this;simpa using this
end
section
variable{prog:Ud}{w:World}{A:Around}{E:Ub->Uc->Prop}{s:Uc}
theorem Am{l:Ue}{vs:A0}{qs:LP}{Q:Ub->Uc->Prop}(hl:s.heap.IsList l vs.toArray)(hp:ZI s.heap vs qs)(hq:∀q∈qs,okP q)(h64:vs.length<64)
  (h:∀π:A8,Tx qs π->Q (.ref (s.heap.objs.size+1)) {s with heap:=sortedAll s.heap vs (List.toArray (π.map λi=>vs.getD i .none))}) :
  Ui (model prog w) A (call (.builtin "sorted") [.ref l]) Q E s:=by
 refine Calls.call_function_entry kind_sorted plain_sorted entry_sorted (args_sorted1 _) ?_;unfold Builtin.«sorted»;refine Qb (m:=checkCount "sorted" 1 1 _) (Qi ?_);refine Qb (collect_list hl ?_);refine Qb (wpAny_newList ?_);have hsz:((s.heap.push (seqObj "list" #[] 0)).update s.heap.objs.size (Obj.mapSeq (· ++ vs.toArray))).objs.size=s.heap.objs.size+1:=by rw[Heap.size_update,size_push']
 have jI:(((s.heap.push (seqObj "list" #[] 0)).update s.heap.objs.size (Obj.mapSeq (· ++ vs.toArray))).push (seqObj "list" vs.toArray 0)).get? (s.heap.objs.size+1)=O (seqObj "list" vs.toArray 0):=by rw[←hsz];exact QD _ AV
 show Ui _ _ _ _ _ {s with heap:=((s.heap.push (seqObj "list" #[] 0)).update s.heap.objs.size (Obj.mapSeq (· ++ vs.toArray))).push (seqObj "list" vs.toArray 0)};rw[hsz];refine Qb (Jl (wpAny_call_entry slot_list_sort ⟨_,jI,rfl⟩ entry_list_sort (AI (qs:=qs) jI (hp.mono λb o e=>?_) hq h64 λπ a1=>⟨_,rfl,?_⟩) (args_list_sort _)))
 .have hlt:b<s.heap.objs.size:=Qf e
  dsimp only;have jL:(b:Nat)<s.heap.objs.size:=hlt;rw[Heap.get?_update_ne _ _ _ _ (QQ (Nat.lt_succ_of_lt jL)),Heap.get?_push_ne _ _ _ (by rw[hsz];exact QQ (Nat.lt_succ_of_lt jL)),Heap.get?_update_ne _ _ _ _ (QQ hlt),Heap.get?_push_ne _ _ _ (QQ hlt)];exact e
 .exact Qi ⟨_,rfl,h π a1⟩
end
end DL
namespace DL
open PySem PySem.Spec L2
open PyProof.Rows hiding St
section
variable{X:Cx}
theorem OI{pins:List (Ue×Obj)}{s:Uc}{σ:St}{H:Hp}(I:Inv X pins σ H s):∀{as:A5}{us:A0}{qs:LP},Vals (as.map V.ref) us->as.length=qs.length->(∀(i:Nat) a q,as[i]?=O a->qs[i]?=O q->SqT X.K H a [.int q.1,.int q.2])->ZI s.heap us qs
 |[],_,[],.nil,_,_=>trivial
 |a::as,_,q::qs,.cons r t,hl,h=>by refine⟨?_,OI I t (by simpa using hl) λi a q h1 h2=>h (i+1) a q (by simpa using h1) (by simpa using h2)⟩;cases r;obtain⟨its,rv,⟨o,e,c,n,d⟩,_⟩:=I.tuple (h 0 a q AV AV);obtain⟨u,v,rfl,r1,r2⟩:=rv.two;obtain⟨t1,rfl⟩:=r1;obtain⟨t2,rfl⟩:=r2;exact⟨a,t1,t2,o,n,rfl,e,c,by simpa using d⟩
theorem O5{as:A5}{us:A0}(r:Vals (as.map V.ref) us):∀(π:A8),(∀i∈π,i<as.length)->Vals (π.map λi=>V.ref (as.getD i 0)) (π.map λi=>us.getD i .none)
 |[],_=>.nil
 |i::π,h=>by
  refine .cons ?_ (O5 r π λj hj=>h j (Qj _ hj));have hi:=h i Qg;have e:(as.map V.ref)[i]?=O (.ref (as.getD i 0)):=by rw[List.getElem?_map,List.getElem?_eq_getElem hi];simp[List.getD,List.getElem?_eq_getElem hi]
  obtain⟨u,e2,ru⟩:=r.get e;simp only[List.getD,e2,JS];exact ru
theorem Bq:ZZ X (.builtin "sorted") (λxs H Q=>∃l,∃as:A5,∃qs:LP,xs=[.ref l]/\SqL X.K H l (as.map V.ref)/\as.length=qs.length/\(∀(i:Nat) a q,as[i]?=O a->qs[i]?=O q->SqT X.K H a [.int q.1,.int q.2])/\(∀q∈qs,okP q)/\qs.length<64 /\
  ∀π p,Tx qs π->H p=AW->Q (.ref p) (upd H p (.lst (π.map λi=>V.ref (as.getD i 0))))):=by
 intro pins s σ H xs us Q I rx h;obtain⟨l,as,qs,rfl,hq,hl,ht,ho,hb,q⟩:=h;obtain⟨u,rfl,ru⟩:=rx.one;cases ru;obtain⟨its,rv,p,hz⟩:=I.list hq;have hn:its.length=qs.length:=by have:=rv.length;rw[Qd]at this;lia
 refine Am (qs:=qs) p.isList (OI I rv hl ht) ho (by lia) λπ hπ=>?_
 obtain⟨e,he⟩:=sortedAll_at s.heap its (List.toArray (π.map λi=>its.getD i .none))
 have hπl:∀i∈π,i<as.length:=λi hi=>by
  have:=hπ.1.mem_iff.mp hi;rw[Jt]at this
  lia
 refine⟨.ref (s.heap.objs.size+1),_,I.laid (t':=s.toks) (λb o=>sortedAll_old) (Jr _) (show K4 X.prog X.w _ _ _ (.lst (π.map λi=>V.ref (as.getD i 0)))from⟨?_,_,e,O5 rv π hπl,he⟩),rfl,q π _ hπ (I.hok.fresh (Jr _))⟩;rw[Qd,hπ.1.length_eq,JW];rw[Qd]at hz
 lia
noncomputable def TM:D->Option (Int×Int)
 |.tuple [.int a,.int b]=>O (a,b)
 |_=>AW
noncomputable def VC:AZ->Option LP
 |[]=>O []
 |d::r=>(TM d).bind λq=>(VC r).map (q :: ·)
noncomputable def ZN(q:Int×Int):D:=.tuple [.int q.1,.int q.2]
theorem Bn{d:D}{q:Int×Int}(h:TM d=O q):d=ZN q:=by
 unfold TM at h;split at h
 .cases h;rfl
 .cases h
theorem N5:∀{ds:AZ}{qs:LP},VC ds=O qs->ds=qs.map ZN
 |[],qs,h=>by cases h;rfl
 |d::r,qs,h=>by
  unfold VC at h;cases z:TM d with
  |none=>rw[z]at h;cases h
  |some q=>
   rw[z]at h;cases z2:VC r with
   |none=>rw[z2]at h;cases h
   |some qs'=>rw[z2]at h;cases h;rw[Bn z,N5 z2];rfl
noncomputable def VR(qs:LP):LP:=qs.mergeSort λx y=>decide (U9 x<=U9 y)
theorem B2(qs:LP):(VR qs).Perm qs:=List.mergeSort_perm ..
theorem Bm(qs:LP):(VR qs).Pairwise λx y=>U9 x<=U9 y:=by have:=List.pairwise_mergeSort (le:=λx y:Int×Int=>decide (U9 x<=U9 y)) (by intro a b c;simp;lia) (by intro a b;simp;lia) qs;exact this.imp (by simp)
theorem OH:∀{a b:LP},(∀x∈a,okP x)->a.Perm b->a.Pairwise (λx y=>U9 x<=U9 y)->b.Pairwise (λx y=>U9 x<=U9 y)->a=b
 |[],b,_,p,_,_=>by rw[List.nil_perm.1 p]
 |x::a,[],_,p,_,_=>by have:=p.length_eq;simp at this
 |x::a,y::b,ok,p,ha,hb=>by
  have hx:U9 y<=U9 x:=by
   rcases QM.1 (p.mem_iff.1 (Qg ..))with e|e
   .rw[e];exact JN _
   .exact(Jo.1 hb).1 x e
  have hy:U9 x<=U9 y:=by
   rcases QM.1 (p.mem_iff.2 (Qg ..))with e|e
   .rw[e];exact JN _
   .exact(Jo.1 ha).1 y e
  have oky:okP y:=ok y (p.mem_iff.2 (Qg ..));have e:=DK (ok x (Qg ..)) oky (Int.le_antisymm hy hx);subst e;rw[OH (λz hz=>ok z (Qj _ hz)) (List.Perm.cons_inv p) (Jo.1 ha).2 (Jo.1 hb).2]
theorem DJ{qs:LP}{π:A8}(ok:∀q∈qs,okP q)(h:Tx qs π):(π.map λi=>qs.getD i (0,0))=VR qs:=by
 have hp:(π.map λi=>qs.getD i (0,0)).Perm qs:=by
  have h1:=h.1.map λi=>qs.getD i (0,0)
  have e:(Ul qs.length).map (λi=>qs.getD i (0,0))=qs:=by
   apply List.ext_getElem?;intro i;rw[QC];by_cases hi:i<qs.length
   .rw[List.getElem?_range hi,List.getElem?_eq_getElem hi];simp[List.getD,List.getElem?_eq_getElem hi]
   .rw[Jx (by rw[JW];lia),Jx (by lia)];rfl
  rw[e]at h1;exact h1
 exact OH (λx hx=>ok x (hp.mem_iff.mp hx)) (hp.trans (B2 qs).symm) h.2 (Bm qs)
noncomputable def okPB(q:Int×Int):Bool:=decide (-1000000<=q.2/\q.2<=1000000)
noncomputable def TL:AZ->A6
 |[.list ds]=>(match VC ds with
  |some qs=>if qs.length<64/\qs.all okPB=AX then O (.list ((VR qs).map ZN))else AW
  |none=>AW)
 |_=>AW
theorem B0{xs:AZ}{d:D}(h:TL xs=O d):∃qs:LP,xs=[.list (qs.map ZN)]/\qs.length<64/\(∀q∈qs,okP q)/\d=.list ((VR qs).map ZN):=by
 unfold TL at h;split at h
 .rename_i ds
  cases z:VC ds with
  |none=>rw[z]at h;cases h
  |some qs=>
   rw[z]at h;dsimp only at h;split at h
   .rename_i c
    cases h;exact⟨qs,by rw[N5 z],c.1,λq hq=>(show -1000000<=q.2/\q.2<=1000000 from Qa (Q2.mp c.2 q hq)),rfl⟩
   .cases h
 .cases h
theorem O4{K:Frag}{G:Hp}:∀{vs:List V}{qs:LP},Reps K G vs (qs.map ZN)->∃as:A5,vs=as.map V.ref/\as.length=qs.length/\∀(i:Nat) a q,as[i]?=O a->qs[i]?=O q->SqT K G a [.int q.1,.int q.2]
 |_,[],.nil=>⟨[],rfl,rfl,λi a q h=>by simp at h⟩
 |_,q::qs,.cons r t=>by
  obtain⟨as,rfl,hl,h⟩:=O4 t;obtain⟨a,ws,rfl,h1,r1⟩:=r.tup_inv;cases r1 with
  |cons ra rb=>
   obtain⟨v,rfl,rb'⟩:=rb.one_inv;refine⟨a::as,rfl,by simp[hl],λi a' q' e1 e2=>?_⟩;cases i with
   |zero=>cases e1;cases e2;rw[ra.int_inv,rb'.int_inv]at h1;exact h1
   |succ i=>exact h i a' q' (by simpa using e1) (by simpa using e2)
theorem DI{K:Frag}{G:Hp}{a:Ue}{q:Int×Int}(h:SqT K G a [.int q.1,.int q.2]):Rep K G (.ref a) (ZN q):=.tup h (.cons (.int _) (.cons (.int _) .nil))
theorem O3{K:Frag}{G:Hp}{as:A5}{qs:LP}(hl:as.length=qs.length)(h:∀(i:Nat) a q,as[i]?=O a->qs[i]?=O q->SqT K G a [.int q.1,.int q.2]):∀π:A8,(∀i∈π,i<qs.length)->Reps K G (π.map λi=>V.ref (as.getD i 0)) ((π.map λi=>qs.getD i (0,0)).map ZN)
 |[],_=>.nil
 |i::π,hb=>by
  refine .cons ?_ (O3 hl h π λj hj=>hb j (Qj _ hj));have hi:=hb i Qg;refine DI (h i _ _ ?_ ?_)
  .rw[List.getElem?_eq_getElem (by lia)];simp[List.getD,List.getElem?_eq_getElem (show i<as.length by lia)]
  .rw[List.getElem?_eq_getElem hi];simp[List.getD,List.getElem?_eq_getElem hi]
theorem Fa:Yl X (.builtin "sorted") TL:=by refine⟨_,Bq,λvs G H ds d Q s r e k=>?_⟩;obtain⟨qs,rfl,h64,ok,rfl⟩:=B0 e;obtain⟨v,rfl,q1⟩:=r.one_inv;obtain⟨l,ws,rfl,h1,r1⟩:=q1.lst_inv;obtain⟨as,rfl,hl,ht⟩:=O4 r1;refine⟨l,as,qs,rfl,s.seq h1,hl,λi a q e1 e2=>ZX s (ht i a q e1 e2),ok,h64,λπ p hπ hp=>?_⟩;have hb:∀i∈π,i<qs.length:=λi hi=>Jt.mp (hπ.1.mem_iff.mp hi);have rr:=(O3 hl ht π hb).mono (KN (s.free hp):Same G (upd G p (.lst (π.map λi=>V.ref (as.getD i 0)))));rw[DJ ok hπ]at rr;exact k _ _ _ (Ext.new s hp) (.lst (SqL.of U7) rr)
theorem Yl.or{f:Ub}{p q:AZ->A6}(h1:Yl X f p)(h2:Yl X f q):Yl X f (λxs=>(p xs).orElse λ_=>q xs):=by
 obtain⟨r1,c1,k1⟩:=h1;obtain⟨r2,c2,k2⟩:=h2;refine⟨λxs H Q=>r1 xs H Q∨r2 xs H Q,λpins s σ H xs us Q I rx h=>?_,λvs G H ds d Q s r e k=>?_⟩
 .rcases h with h|h
  .exact c1 pins s σ H xs us Q I rx h
  .exact c2 pins s σ H xs us Q I rx h
 .dsimp only at e
  cases z:p ds with
  |some d'=>rw[z]at e;cases e;exact .inl (k1 vs G H ds _ Q s r z k)
  |none=>rw[z]at e;exact .inr (k2 vs G H ds _ Q s r e k)
noncomputable def Tw(xs:AZ):A6:=(Vq xs).orElse λ_=>TL xs
theorem LK:Yl X (.builtin "sorted") Tw:=EE.or Fa
theorem BZ{ns:A1}(h:ns.length<64):Tw [.list (ns.map .int)]=O (.list ((Ye ns).map .int)):=by unfold Tw;rw[C0 h];rfl
end
section
variable{X:Cx}
noncomputable def X1:AZ->A6
 |[d]=>if d.canLay0=AX/\d.showable=AX/\d.hasDict=AY/\d.depth<=50/\d.shown.length<=1000000 then O (.str d.shown)else AW
 |_=>AW
theorem Bl(hu:X.A.units+64<cLine)(hg:X.A.guards=O []):ZZ X (.builtin "repr") (λxs H Q=>∃G v d,xs=[v]/\Same G H/\Rep X.K G v d/\d.canLay0=AX/\d.showable=AX/\d.hasDict=AY/\d.depth<=50/\d.shown.length<=1000000/\Q (.str d.shown) H):=by
 intro pins s σ H xs us Q I rx h;obtain⟨G,v,d,rfl,sg,r,c1,c2,c3,c4,c5,q⟩:=h;obtain⟨u,rfl,ru⟩:=rx.one;obtain⟨as,ra⟩:=Wm I sg r ru c1;have fin:∀h'(t:Tok) tk,(∀b o,s.heap.get? b=O o->h'.get? b=O o)->EP X pins σ Q (.str d.shown t) {s with heap:=h',toks:=tk}:=λh' t tk hk=>⟨.str d.shown,H,I.kept hk,⟨t,rfl⟩,q⟩
 cases r with
 |non=>cases ru;exact P.repr_of_none (fin s.heap _ _ λ_ _ e=>e)
 |bl b=>cases ru;exact P.repr_of_bool (fin s.heap _ _ λ_ _ e=>e)
 |int i=>obtain⟨t,rfl⟩:=ru;exact P.repr_of_int (by have:(int i).showable=AX:=c2;simpa[PyData.showable]using this) (fin s.heap _ _ λ_ _ e=>e)
 |str x=>obtain⟨t,rfl⟩:=ru;exact P.repr_of_str (fin s.heap _ _ λ_ _ e=>e) (Qt c5 lim)
 |lst h r=>cases ru;exact repr_of_reads' ra c2 (λz=>by rw[c3]at z;cases z) hg (by lia) (λ_ _ e=>e) (λh' t tk hk=>fin h' t tk hk) (Qt c5 lim)
 |tup h r=>cases ru;exact repr_of_reads' ra c2 (λz=>by rw[c3]at z;cases z) hg (by lia) (λ_ _ e=>e) (λh' t tk hk=>fin h' t tk hk) (Qt c5 lim)
 |dic h=>cases c1
 |exc _ _ _ _=>cases c1
 |dct _ _ _ _ _=>cases c1
 |dtt _ _ _ _=>cases c1
theorem LJ(hu:X.A.units+64<cLine)(hg:X.A.guards=O []):Yl X (.builtin "repr") X1:=by
 refine⟨_,Bl hu hg,λvs G H ds d Q s r e k=>?_⟩;unfold X1 at e;split at e
 .split at e
  .rename_i x c
   cases e;obtain⟨v,rfl,q1⟩:=r.one_inv;exact⟨G,v,_,rfl,s,q1,c.1,c.2.1,c.2.2.1,c.2.2.2.1,c.2.2.2.2,k _ G H (.refl s) (.str _)⟩
  .cases e
 .cases e
theorem BY:bootBuiltins "repr" = O (.builtin "repr"):=by decide +kernel
theorem DH{d:D}(c:d.canLay0=AX/\d.showable=AX/\d.hasDict=AY/\d.depth<=50/\d.shown.length<=1000000):X1 [d]=O (.str d.shown):=by unfold X1;exact Qp c
end
noncomputable def VU(ρ:UB)(j:Nat):A6:=match ρ[j]? with
 |some (O (.pub d))=>O d
 |some (O (.own ds))=>O (.list ds)
 |some (O (.deep _ d))=>O d
 |_=>AW
theorem EOk.tree{K:Frag}{B G0 G H:Hp}{σ:St}{ρ:UB}{j:Nat}{d:D}(k:EOk K B G0 G H σ ρ)(h:VU ρ j=O d):∃v,σ[j]?=O (O v)/\Rep K H v d:=by
 unfold VU at h;split at h
 .rename_i d' e
  cases h;obtain⟨v,h1,h2⟩:=k.pub j _ e;exact⟨v,h1,h2.mono k.gh⟩
 .rename_i ds e
  cases h;obtain⟨a,vs,h1,h2,h3,h4,h5⟩:=k.own j ds e;exact⟨.ref a,h1,.lst (SqL.of h4) (h5.mono k.gh)⟩
 .rename_i p d' e
  cases h;obtain⟨ω,k1,k2⟩:=k.dp;obtain⟨v,fp,s,r,_⟩:=k1 j p _ e;exact⟨v,s,r.rep k.gh⟩
 .cases h
end DL
namespace HT
open PySem PyProof.Rows
end HT
namespace DL
open PySem PySem.Spec L2
open PyProof.Rows hiding St
end DL
namespace DL
open PySem
theorem lz0{P:A0->Prop}{us:A0}(hl:us.length=0)(h:P []):P us:=by
 cases us with
 |nil=>exact h
 |cons a r=>cases hl
theorem lzS{P:A0->Prop}{us:A0}{n:Nat}(hl:us.length=n+1)(h:∀a r,r.length=n->P (a::r)):P us:=by
 cases us with
 |nil=>cases hl
 |cons a r=>exact h a r (Nat.succ.inj hl)
theorem lz1{P:A0->Prop}{us:A0}(hl:us.length=1)(h:∀a,P [a]):P us:=lzS hl λa r e=>lz0 (P:=λr=>P (a::r)) e (h a)
theorem lz2{P:A0->Prop}{us:A0}(hl:us.length=2)(h:∀a b,P [a,b]):P us:=lzS hl λa r e=>lz1 (P:=λr=>P (a::r)) e (h a)
theorem lz3{P:A0->Prop}{us:A0}(hl:us.length=3)(h:∀a b c,P [a,b,c]):P us:=lzS hl λa r e=>lz2 (P:=λr=>P (a::r)) e (h a)
theorem lz4{P:A0->Prop}{us:A0}(hl:us.length=4)(h:∀a b c d,P [a,b,c,d]):P us:=lzS hl λa r e=>lz3 (P:=λr=>P (a::r)) e (h a)
theorem lz5{P:A0->Prop}{us:A0}(hl:us.length=5)(h:∀a b c d e,P [a,b,c,d,e]):P us:=lzS hl λa r e=>lz4 (P:=λr=>P (a::r)) e (h a)
theorem bz1{fd:Uf}{ps:List Str}{us:A0}(hl:us.length=1)(h:∀a,bindArgs fd {pos:=[a]}=pure (ps.zip [a])):bindArgs fd {pos:=us}=pure (ps.zip us):=lz1 (P:=λus=>bindArgs fd {pos:=us}=pure (ps.zip us)) hl h
theorem bz2{fd:Uf}{ps:List Str}{us:A0}(hl:us.length=2)(h:∀a b,bindArgs fd {pos:=[a,b]}=pure (ps.zip [a,b])):bindArgs fd {pos:=us}=pure (ps.zip us):=lz2 (P:=λus=>bindArgs fd {pos:=us}=pure (ps.zip us)) hl h
theorem bz3{fd:Uf}{ps:List Str}{us:A0}(hl:us.length=3)(h:∀a b c,bindArgs fd {pos:=[a,b,c]}=pure (ps.zip [a,b,c])):bindArgs fd {pos:=us}=pure (ps.zip us):=lz3 (P:=λus=>bindArgs fd {pos:=us}=pure (ps.zip us)) hl h
theorem bz5{fd:Uf}{ps:List Str}{us:A0}(hl:us.length=5)(h:∀a b c d e,bindArgs fd {pos:=[a,b,c,d,e]}=pure (ps.zip [a,b,c,d,e])):bindArgs fd {pos:=us}=pure (ps.zip us):=lz5 (P:=λus=>bindArgs fd {pos:=us}=pure (ps.zip us)) hl h
end DL
namespace DL
open PySem PySem.Spec L2
open PyProof.Rows hiding St
noncomputable def whole(h:Heap):Frag:=(Ul h.objs.size).filterMap λa=>(h.get? a).map λo=>(a,o)
theorem O2{g:Ue->Option Obj}{x:Ue}:∀l:A5,(l.filterMap λa=>(g a).map λo=>(a,o)).lookup x=if x∈l then g x else AW
 |[]=>rfl
 |y::l=>by
  have ih:=O2 (g:=g) (x:=x) l;by_cases e:x=y
  .subst e
   rw[Qp Qg];cases z:g x with
   |none=>rw[List.filterMap_cons_none (by rw[z];rfl),ih,z];split<;>rfl
   |some o=>rw[List.filterMap_cons_some (by rw[z];rfl),QU,beq_self_eq_true]
  .have m:(x∈y::l)=(x∈l):=by simp[List.mem_cons,e]
   have b:(x==y)=AY:=by simpa using e
   have ih':(if x∈y::l then g x else AW)=_:=(by simp only[m];exact ih.symm)
   rw[ih'];cases z:g y with
   |none=>rw[List.filterMap_cons_none (by rw[z];rfl)]
   |some o=>rw[List.filterMap_cons_some (by rw[z];rfl),QU,b]
theorem ZH{h:Heap}{a:Ue}:(whole h).lookup a=h.get? a:=by
 unfold whole;rw[O2];split
 .rfl
 .rename_i n
  cases z:h.get? a with
  |none=>rfl
  |some o=>exact absurd (Jt.mpr (Qf z)) n
theorem DG(h:Heap):(whole h).In h:=λa o e=>by rw[ZH]at e;exact e
noncomputable def Lr(st:Stmt):Option DefRec:=match st with
 |.FunctionDef name a b _ _ _ sc _ _ pos=>O ⟨name,a,b,sc,pos⟩
 |_=>AW
noncomputable def Vp(st:Stmt):Option Str:=match st with
 |.FunctionDef name _ _ _ _ _ _ _ _ _=>O name
 |_=>AW
noncomputable def Lq(st:Stmt):Pos:=match st with
 |.FunctionDef _ _ _ _ _ _ _ _ _ pos=>pos
 |_=>⟨0,0,0,0⟩
noncomputable abbrev UX(p:Ud)(i:Nat):Stmt:=p.main.body.getD i (.Pass ⟨0,0,0,0⟩)
noncomputable def Wc(p:Ud)(ix:A8):List DefRec:=ix.filterMap λi=>Lr (UX p i)
section
variable{p q:Ud}{loose:List Str}{mean:ExcName->A3}{mg mb:Str->A3}{h:Heap}{w:World}
theorem VT{ix:A8}(T:Top q loose mean mg mb h)(e:recsOf q=Wc p ix)(i:Nat)(x:Str)(hi:ix.contains i=AX)(hn:Vp (UX p i)=O x):∃f fd,mg x=O (.ref f)/\Fun (whole h) x x (UX p i) f fd:=by
 cases hs:UX p i with
 |FunctionDef name a b _ _ _ sc _ _ pos=>
  rw[hs]at hn;cases hn;have hd:(⟨x,a,b,sc,pos⟩:DefRec)∈recsOf q:=by rw[e];exact List.mem_filterMap.mpr ⟨i,by simpa using hi,by rw[hs];rfl⟩
  obtain⟨f,⟨oc,od,dt,osl⟩,pm,cd,doc,h1,h2,h3,h4⟩:=T.fn _ hd;have h3:dt=_:=h3;subst h3;refine⟨f,_,h1,⟨⟨oc,od,.none,doc,pm,_,cd,_,osl,rfl,by rw[ZH];exact h2,?_⟩,?_⟩⟩
  .obtain⟨c,⟨_,_,dc,_⟩,vs,t,rfl,g1,g2,g3⟩:=h4
   have g2:dc=_:=g2;subst g2;unfold PySem.W.codeIn;dsimp only;rw[ZH,g1];dsimp only;have g4:vs.toList[1]?=O (.str x t):=by rw[Array.getElem?_toList];exact g3
   cases hv:vs.toList with
   |nil=>rw[hv]at g4;cases g4
   |cons v0 r=>
    rw[hv]at g4;cases r with
    |nil=>cases g4
    |cons v1 r=>cases g4;exact beq_self_eq_true _
  .unfold PySem.W.keepIn
   dsimp only;rw[ZH,h2]
 |_=>rw[hs]at hn;cases hn
theorem Bk{K:Frag}{x qual y:Str}{st:Stmt}{f:Ue}{fd:Uf}(F:Fun K x qual st f fd)
  (hb:∀(kV doc pm:Ub)(an:qa)(cdv ct v:Ub),bindArgs (PySem.W.fnOf x qual (Yp st) (K7 st) (Ki st) .none kV doc pm an cdv ct) ⟨[v],[]⟩=pure [(y,v)]) (s:Uc) (v:Ub):BindsTo s fd ⟨[v],[]⟩ [(y,v)]:=by
 obtain⟨oc,od,kV,doc,pm,an,cdv,ct,osl,rfl,lk,hcd⟩:=F.ex;exact .of_eq (hb kV doc pm an cdv ct v)
noncomputable def Tv(q:Ud)(loose:List Str)(x:Str):Bool:=
 !startupNames.contains x && !loose.contains x && !((recsOf q).map (·.name)).contains x && !((litsOf q).map (·.1)).contains x && !((clssOf q loose).map (·.name)).contains x
theorem ZU(T:Top q loose mean mg mb h){xs:List Str}(e:xs.all (Tv q loose)=AX){x:Str}(hx:x∈xs):mg x=AW:=by have:=Q2.mp e x hx;unfold Tv at this;simp only[Qw,Bool.not_eq_true',List.contains_eq_mem,decide_eq_false_iff_not]at this;exact T.free x this.1.1.1.1 this.1.1.1.2 this.1.1.2 this.1.2 this.2
theorem Sj(T:Top q loose mean mg mb h){x:Str}{i:Int}(e:valOf q x=O (.int i)):∃t,mg x=O (.int i t):=by obtain⟨v,h1,h2⟩:=T.const x _ e;have:=h2 h;cases this;exact⟨_,h1⟩
end
noncomputable def scOk(sc:Scope)(N gl:List Str):Bool:=(N.all λx=>match sc.names.lookup x with|some .local=>AX|some .cell=>AX|_=>AY)&&gl.all λx=>match sc.names.lookup x with|some .globalImplicit=>AX|_=>AY
noncomputable def fnB(sc:Scope)(N gl:List Str):Bool:=decide (sc.kind=.function) && !sc.isCoroutine && !sc.isGenerator&&decide N.Nodup&&(sc.names.all λy=>match y.2 with | .free=>AY|_=>AX)&&scOk sc N gl
structure FnNm(sc:Scope)(N gl:List Str):Prop where
 kind:sc.kind=.function
 co:sc.isCoroutine=AY
 gen:sc.isGenerator=AY
 nd:N.Nodup
 nofree:∀y∈sc.names,y.2≠.free
 nm:∀x∈N,sc.names.lookup x=O .local∨sc.names.lookup x=O .cell
 gl:∀x∈gl,sc.names.lookup x=O .globalImplicit
theorem KD{sc:Scope}{N gl:List Str}(H:fnB sc N gl=AX):FnNm sc N gl:=by
 unfold fnB scOk at H;simp only[Qw,Q5,Bool.not_eq_true',Q2]at H;obtain⟨⟨⟨⟨⟨h1,h2⟩,h3⟩,h4⟩,h5⟩,h6,h7⟩:=H;refine⟨h1,h2,h3,h4,λy hy e=>?_,λx hx=>?_,λx hx=>?_⟩
 .have:=h5 y hy;rw[e]at this;cases this
 .have:=h6 x hx
  split at this
  .rename_i e;exact .inl e
  .rename_i e;exact .inr e
  .cases this
 .have:=h7 x hx
  split at this
  .rename_i e;exact e
  .cases this
section
variable{sc:Scope}{N gl:List Str}{x:Str}
theorem nq(H:FnNm sc N gl):N.Nodup:=H.nd
theorem fq(H:FnNm sc N gl)(n:Nat):Y5 N (N.take n) sc:=⟨H.kind,H.co,H.gen,H.nd,by rw[JI,List.take_eq_take_iff];lia,λx hx=>H.nm x (List.mem_of_mem_take hx),H.nofree⟩
theorem lq(H:FnNm sc N gl)(i:Nat)(h:N[i]?=O x:=by rfl):L2.Loc sc x:=H.nm x (QX h)
theorem gq(H:FnNm sc N gl)(i:Nat)(h:gl[i]?=O x:=by rfl):sc.names.lookup x=O .globalImplicit:=H.gl x (QX h)
theorem pq{X:Cx}{pos:Pos}(H:FnNm X.env.scope X.N gl)(i:Nat)(h:X.N[i]?=O x:=by rfl)(hd:(x==("__debug__" : Str))=AY:=by decide)(hc:(x==("__classdict__" : Str))=AY:=by decide):PE X (.Name x pos) (Kd i):=
 PR h ((H.nm x (QX h)).elim .inl λz=>.inr (.inl z)) hd hc
end
theorem Zr{q p:Ud}{loose:List Str}{mean:ExcName->A3}{mg mb:Str->A3}{h:Heap}{ix:A8}(P:Ud)(w:World)(base:Heap){ps:List Str}{k n:Nat}{F:AZ->A6}(T:Top q loose mean mg mb h)(e:recsOf q=Wc p ix)(i:Nat)(x:Str)(hi:ix.contains i=AX)(hn:Vp (UX p i)=O x)
  (ok:∀{f:Ue}{fd:Uf},Fun (whole h) x x (UX p i) f fd->FnOk P w (whole h) mg base CX0 k f fd ps (spD (whole h) n F))
  (hb:∀(kV doc pm:Ub)(an:qa)(cdv ct:Ub)(us:A0),us.length=ps.length->bindArgs (PySem.W.fnOf x x (Yp (UX p i)) (K7 (UX p i)) (Ki (UX p i)) .none kV doc pm an cdv ct) ⟨us,[]⟩=pure (ps.zip us)):Def P w (whole h) mg base x k n F:=by
 obtain⟨f,fd,m,FU⟩:=VT T e i x hi hn;exact Def.mk m FU (FU.binds hb) (ok FU)
section
variable{X:Cx}{B G0:Hp}{e:Ug}{pos:Pos}{es:A4}
theorem pdf{k kk n:Nat}{F:AZ->A6}{g:M AZ}{x:Str}{p2:Pos}(d:Def X.prog X.w X.K X.mg X.base x k n F)(hr:Room kk X.A)(hg:Gl X x)(ha:PA X (e::es) (tDs X.K B G0 g))(hk:k<=kk:=by decide)(hn:(e::es).length=n:=by rfl)
  (hdb:(x==("__debug__" : Str))=AY:=by decide) (he:Uj (e::es) X.env=(AY,eval e X.env)::Uj es X.env:=by rfl) (hpl:(backTo pos (Uj es X.env)).any (·.1)=AY:=by rfl) :
  PE X (.Call (.Name x p2) (e::es) [] pos) (tD X.K B G0 (UT n F g)):=Ec d (hr.mono hk) hg ha hn hdb he hpl
end
theorem Lp{q p:Ud}{loose:List Str}{mean:ExcName->A3}{mg mb:Str->A3}{h:Heap}{ix:A8}{P:Ud}{w:World}{k:Nat}{F:AZ->A6}{y:Str}{fa:Ue}(T:Top q loose mean mg mb h)(e:recsOf q=Wc p ix)(i:Nat)(x:Str)(hi:ix.contains i=AX)(hn:Vp (UX p i)=O x)(hfa:mg x=O (.ref fa))
  (hb:∀(kV doc pm:Ub)(an:qa)(cdv ct v:Ub),bindArgs (PySem.W.fnOf x x (Yp (UX p i)) (K7 (UX p i)) (Ki (UX p i)) .none kV doc pm an cdv ct) ⟨[v],[]⟩=pure [(y,v)])
  (ok:∀(base:Heap){f:Ue}{fd:Uf},Fun (whole h) x x (UX p i) f fd->FnOk P w (whole h) mg base CX0 k f fd [y] (spD (whole h) 1 F)) :
  ∃fd:Uf,(∀(s:Uc)(v:Ub),BindsTo s fd ⟨[v],[]⟩ [(y,v)])/\∀base:Heap,FnOk P w (whole h) mg base CX0 k fa fd [y] (spD (whole h) 1 F):=by
 obtain⟨f,fd,m,FU⟩:=VT T e i x hi hn;cases hfa.symm.trans m;exact⟨fd,Bk FU hb,λbase=>ok base FU⟩
noncomputable def Xc:D->Bool
 |.str x=>decide (x.length<=1000)
 |.int i=>decide (0<=i)&&decide (i<10 ^ 10)
 |.none=>AX
 |_=>AY
noncomputable def Xb(nm:Str)(ds:AZ):Option AZ:=match K6 nm with
 |[]=>(match ds with | [.str _]=>O [] | _=>AW)
 |f::fs=>if ds.length=(f::fs).length/\ds.all Xc=AX then O ds else AW
noncomputable abbrev exD(nm:Str)(ds:AZ):D:=.dict [(.none,.tuple [.str nm,.list ds])]
section
variable{K:Frag}{G H H':Hp}{nm:Str}{C a:Ue}{bm:A0}{vs:List V}{ds fs:AZ}{dd:qa}
theorem LI{v:V}{d:D}(r:Rep K G v d)(h:Xc d=AX):∃y,FmtV v y/\y.length<=4000:=by
 cases r with
 |non=>exact⟨_,.non,by decide⟩
 |bl b=>cases h
 |int i=>
  unfold Xc at h;simp only[Qw,Q5]at h;have h64:i.natAbs<2 ^ 64:=by have:=h.2;have:=h.1;lia
  refine⟨_,.int i ?_,Qt (toString_length_le h.1 (by decide:0<10) h.2) (by decide)⟩;by_cases z:i.natAbs=0
  .rw[z];decide
  .have:=(Nat.log2_lt z).mpr h64
   lia
 |str x=>unfold Xc at h;have h:=Qa h;exact⟨x,.str x (Qt h (by decide)),Qt h (by decide)⟩
 |lst _ _=>cases h
 |tup _ _=>cases h
 |dic _=>cases h
 |exc _ _ _ _=>cases h
 |dct _ _ _ _ _=>cases h
 |dtt _ _ _ _=>cases h
theorem OB:∀{vs:List V}{ds:AZ},Reps K G vs ds->ds.all Xc=AX->∀u∈vs,∃y,FmtV u y/\y.length<=4000
 |_,_,.nil,_,u,hu=>by cases hu
 |_,_,.cons r t,h,u,hu=>by
  rw[JB,Qw]at h;rcases QM.mp hu with rfl|hu
  .exact LI r h.1
  .exact OB t h.2 u hu
theorem DF(r:Reps K G vs ds)(e:Xb nm ds=O fs):Pn nm vs:=by
 unfold Xb at e;split at e
 .rename_i hf
  split at e
  .obtain⟨v,rfl,q⟩:=r.one_inv
   exact .inl ⟨hf,_,by rw[q.str_inv]⟩
  .cases e
 .rename_i f l hf
  split at e
  .rename_i c
   refine .inr ⟨by rw[hf];simp,by rw[r.length,hf];exact c.1,OB r c.2⟩
  .cases e
theorem GZ(c:ClsK K nm C bm)(s:Same G H)(ha:H a=AW)(r:Reps K G vs ds)(e:Xb nm ds=O fs)(p:Pm nm C a vs (upd H a (.ext (XO AX a C AW))) dd H') :
  ∃G',Ext G H G' (upd H' a (.ext (XO AY a C dd)))/\Rep K G' (.ref a) (exD nm fs)/\H' a=O (.ext (XO AX a C dd)):=by
 unfold Xb at e;rcases p with ⟨hf,rfl,rfl⟩|⟨hf,hl,dx,rfl,hd,hne,rfl⟩
 .rw[hf]at e
  dsimp only at e;split at e
  .cases e
   refine⟨upd G a (.ext (XO AY a C AW)),?_,.exc (vs:=[]) c U7 ⟨hf,rfl⟩ .nil,U7⟩;rw[OE];exact Ext.new s ha
  .cases e
 .split at e
  .rename_i hf';exact absurd hf' hf
  .rename_i f l hf'
   split at e
   .cases e
    have hd':H dx=AW:=by rw[UW hne]at hd;exact hd
    have eH:upd (upd (upd (upd H a (.ext (XO AX a C AW))) a (.ext (XO AX a C (O dx)))) dx (.ext (XD dx ((K6 nm).zip vs)))) a (.ext (XO AY a C (O dx)))=upd (upd H a (.ext (XO AY a C (O dx)))) dx (.ext (XD dx ((K6 nm).zip vs))):=by
     funext b;by_cases h1:b=a
     .subst h1;rw[U7,UW (Ne.symm hne),U7]
     .rw[UW h1]
      by_cases h2:b=dx
      .subst h2;rw[U7,U7]
      .rw[UW h2,UW h1,UW h1,UW h2,UW h1]
    have x1:Ext G H (upd G a (.ext (XO AY a C (O dx)))) (upd H a (.ext (XO AY a C (O dx)))):=Ext.new s ha;have hd2:upd H a (.ext (XO AY a C (O dx))) dx=AW:=by rw[UW hne];exact hd'
    have x2:=x1.trans (Ext.new (o:=.ext (XD dx ((K6 nm).zip vs))) x1.gh hd2);exact⟨_,by rw[eH];exact x2,.exc (dd:=O dx) (vs:=vs) c (by rw[UW (Ne.symm hne)];exact U7) ⟨hl.symm,U7⟩ (r.mono x2.g),by rw[UW (Ne.symm hne)];exact U7⟩
   .cases e
end
noncomputable def Xj(nm:Str)(g:M AZ):SM:=sB g λds ρ=>match Xb nm ds with|some fs=>.ex ρ (exD nm fs)|none=>.bad
section
variable{X:Cx}{B G0:Hp}{KX:XW}{e a b c:Ug}{pos p2 cpos:Pos}{es:A4}{st:Stmt}{sts:List Stmt}{nm x:Str}{k kk n:Nat}
theorem D7{c:Bool}{g:M AZ}(mk:MkX X.prog X.w X.K X.mg X.base nm k)(hr:Room kk X.A)(hc:X.calm=AX)(hw:ZW c X KX)(hg:Gl X nm)(ha:PA X (e::es) (tDs X.K B G0 g))(hk:k+1<=kk:=by decide)
  (hdb:(nm==("__debug__" : Str))=AY:=by decide) (he:Uj (e::es) X.env=(AY,eval e X.env)::Uj es X.env:=by rfl) (hpl:(backTo cpos (Uj es X.env)).any (·.1)=AY:=by rfl) :
  PS X (.Raise (O (.Call (.Name nm p2) (e::es) [] cpos)) AW pos) (tS X.K B G0 KX (Xj nm g)):=PS.kin λkin=>by
 obtain⟨C,bm,f,fd,ps,sp,hm,hkp,ck,xc,F,hb,qF⟩:=mk;refine Kj (Dz (KC:=λC'=>C'=C) hc (λC' z=>by subst z;exact⟨bm,f,xc _ _ kin⟩) hw (DA (xc _ _ kin) F (hr.mono hk) hg hm hkp hb ha hdb he hpl)) λDn σ H q=>?_
 refine tS.bnd (R:=Reps X.K) q λvs H1 G1 ρ1 ds k1 r a=>?_
 cases z:Xb nm ds with
 |none=>rw[z]at a;exact a.elim
 |some fs=>
  rw[z]at a;have ar:=DF r z;refine⟨?_,λad had=>qF ad vs _ _ U7 ar λdd H' p=>⟨rfl,?_⟩⟩
  .rcases ar with ⟨_,x,rfl⟩|⟨_,hl,_⟩
   .exact(show 1<=Uh by decide)
   .rw[hl]
    unfold K6;split
    .decide
    .split
     .decide
     .split<;>decide
  .obtain⟨G',ex,rp,hx⟩:=GZ ck k1.gh had r z p
   exact⟨ad,C,dd,rfl,rfl,hx,a (.ref ad) σ G' _ (k1.ext ex) ex.g rp⟩
inductive XR where
 |val (d:D)|exc (d:D)
noncomputable def spX(K:Frag)(n:Nat)(F:AZ->Option XR):Sp:=λvs H Q E=>∃G ds r,vs.length=n/\Same G H/\Reps K G vs ds/\F ds=O r/\match r with
 |.val d=>∀v G' H',Ext G H G' H'->Rep K G' v d->Q v H'
 |.exc d=>∀ad G' H',Ext G H G' H'->Rep K G' (.ref ad) d->E (.ref ad) AW H'
def TH(c:Bool)(P:Ud)(w:World)(K:Frag)(mg:Str->A3)(base:Heap)(x:Str)(k n:Nat)(F:AZ->Option XR):Prop:=
 ∃(f:Ue)(fd:Uf)(ps:List Str),mg x=O (.ref f)/\PySem.W.keepIn K (.ref f)=AX/\Zf K fd ps []/\FnOk P w K mg base (Zn c P w) k f fd ps (spX K n F)
abbrev Yz:=TH AX
def aftX(K:Frag)(B G0:Hp)(KX:XW)(r:Res XR)(G:Hp)(σ:St)(Q:VK):Prop:=match r with
 |.ok (.val d) ρ=>∀v G' H',EOk K B G0 G' H' σ ρ->Same G G'->Rep K G' v d->Q v H'
 |.ok (.exc d) ρ=>∀v G' H',EOk K B G0 G' H' σ ρ->Same G G'->Rep K G' v d->KX v σ H'
 |.bad=>False
noncomputable def tX(K:Frag)(B G0:Hp)(KX:XW)(f:M XR):TE:=λσ H Q=>∃G ρ,EOk K B G0 G H σ ρ/\aftX K B G0 KX (f ρ) G σ Q
noncomputable def Yn(n:Nat)(F:AZ->Option XR)(g:M AZ):M XR:=UN g λxs=>if xs.length=n then UM (F xs)else λ_=>.bad
theorem D6{c c1:Bool}{F:AZ->Option XR}{g:M AZ}(d:TH c1 X.prog X.w X.K X.mg X.base x k n F)(hr:Room kk X.A)(hw:ZW c X KX)(hg:Gl X x)(ha:PA X (e::es) (tDs X.K B G0 g))(hk:k<=kk:=by decide)(hn:(e::es).length=n:=by rfl)(hcc:c=AX->c1=AX:=by decide)
  (hdb:(x==("__debug__" : Str))=AY:=by decide) (he:Uj (e::es) X.env=(AY,eval e X.env)::Uj es X.env:=by rfl) (hpl:(backTo pos (Uj es X.env)).any (·.1)=AY:=by rfl) :
  PE X (.Call (.Name x p2) (e::es) [] pos) (tX X.K B G0 KX (Yn n F g)):=by
 obtain⟨f,fd,ps,h1,h2,h3,h4⟩:=d;refine UY (Dy h4 (hr.mono hk) hg h1 h2 h3 hw ha hcc hdb he hpl) λσ H Q ⟨G,ρ,k0,a⟩=>?_
 refine⟨G,ρ,k0,?_⟩;unfold Yn UN at a;cases z:g ρ with
 |bad=>rw[z]at a;exact a.elim
 |ok xs ρ1=>
  rw[z]at a;dsimp only at a;intro vs G1 H1 k1 s1 r;by_cases hl:xs.length=n
  .rw[Qp hl]at a
   cases zF:F xs with
   |none=>rw[zF]at a;exact a.elim
   |some rr=>
    rw[zF]at a;refine⟨G1,xs,rr,by rw[r.length];exact hl,k1.gh,r,zF,?_⟩;cases rr with
    |val d=>exact λv G' H' ex rv=>a v G' H' (k1.ext ex) (s1.trans ex.g) rv
    |exc d=>intro kn G' H' ex rv ad ev;cases ev;exact a _ G' H' (k1.ext ex) (s1.trans ex.g) rv
  .rw[Qz hl]at a;exact a.elim
noncomputable def sX(f:M XR)(g:D->SM):SM:=λρ=>match f ρ with
 |.ok (.val d) ρ'=>g d ρ'
 |.ok (.exc d) ρ'=>.ex ρ' d
 |.bad=>.bad
theorem tS.bndX{K:Frag}{f:M XR}{g:D->SM}{Dn:Ends}{σ:St}{H:Hp}{P:V->Hp->Prop}(q:tS K B G0 KX (sX f g) Dn σ H)
  (i:∀v H' G' ρ' x,EOk K B G0 G' H' σ ρ'->Rep K G' v x->aftS K B G0 KX (g x ρ') G' Dn->P v H'):tX K B G0 KX f σ H P:=by
 obtain⟨G,ρ,k,a⟩:=q;refine⟨G,ρ,k,?_⟩;unfold sX at a;cases z:f ρ with
 |bad=>rw[z]at a;exact a.elim
 |ok r ρ1=>
  rw[z]at a;cases r with
  |val d=>exact λv G' H' e s r=>i v H' G' ρ1 d e r (aftS.mono s a)
  |exc d=>exact λv G' H' e s r=>a v σ G' H' e s r
theorem D5{f:M XR}(h:PE X e (tX X.K B G0 KX f))(hs:swapsWith e AW pos.line X.env=pure AY:=by rfl):PS X (.Expr e pos) (tS X.K B G0 KX (sX f λ_ ρ=>.nx ρ)):=Kj (Y6 h hs) λD σ H q=>tS.bndX q λv H' G' ρ' x k r a=>a σ G' H' k (.refl _)
noncomputable def Zt(N:List Str)(g:SM)(ds:AZ):Option XR:=match g (KO N ds)with
 |.rt d=>O (.val d)
 |.nx _=>O (.val .none)
 |.ex _ d=>if Wu d=AX then O (.exc d)else AW
 |_=>AW
noncomputable abbrev kxE(E:XK):XW:=λv _ H=>∃e,v=.ref e/\E (.ref e) AW H
theorem okX{c:Bool}{P:Ud}{w:World}{K:Frag}{mg:Str->A3}{base:Heap}{x qual:Str}{st:Stmt}{f:Ue}{fd:Uf}{N ps:List Str}{k n:Nat}{g:SM}(F:Fun K x qual st f fd)(S:Y5 N ps (Ki st))(hn:ps.length=n)
  (der:∀(cdv:Ub)(A:Around)(outer:List Env)(s:Uc)(H:Hp)(E:XK)(B G0:Hp),Room k (A.deeper (envOfC qual (Ki st) s.heap.objs.size f cdv)) ->
   PSs (Ks (Zn c P w) P w K mg base N qual (Ki st) f cdv A outer s H E) (K7 st) (tS K B G0 (kxE E) g)):FnOk P w K mg base (Zn c P w) (k+1) f fd ps (spX K n (Zt N g)):=by
 obtain⟨oc,od,kV,doc,pm,an,cdv,ct,osl,rfl,lk,hcd⟩:=F.ex;refine Po lk hcd S (λvs H Q E h=>?_) λA outer s H vs Q E hr h=>?_
 .obtain⟨_,_,_,hl,_⟩:=h
  rw[hl,hn]
 .obtain⟨G,ds,r,hl,sg,rp,hF,q⟩:=h
  refine⟨_,der cdv A outer s H E H G hr,G,KO N ds,Sd sg rp,?_⟩;unfold Zt at hF;cases z:g (KO N ds)with
  |rt d'=>rw[z]at hF;cases hF;exact λv G' H' ex rr=>q v G' H' ex rr
  |nx ρ=>rw[z]at hF;cases hF;exact λσ' G' H' k' _=>q .non G' H' k'.exit .non
  |ex ρ d=>
   rw[z]at hF;dsimp only at hF;split at hF
   .rename_i hx
    cases hF;intro v σ' G' H' k' _ rv
    obtain⟨ad,rfl⟩:∃ad,v=.ref ad:=by
     cases rv with
     |exc _ _ _ _=>exact⟨_,rfl⟩
     |dct _ _ _ _ _=>exact⟨_,rfl⟩
     |dtt _ _ _ _=>exact⟨_,rfl⟩
     |_=>cases hx
    exact⟨ad,rfl,q ad G' H' k'.exit rv⟩
   .cases hF
  |ro ds=>rw[z]at hF;cases hF
  |bk ρ=>rw[z]at hF;cases hF
  |ct ρ=>rw[z]at hF;cases hF
  |bad=>rw[z]at hF;cases hF
end
section
variable{K:Frag}{B G0 G H:Hp}{σ:St}{ρ:UB}
theorem EOk.unset{i:Nat}(k:EOk K B G0 G H σ ρ):EOk K B G0 G H (σ.set i AW) (ρ.set i AW) where
 bh:=k.bh
 gh:=k.gh
 g0:=k.g0
 np:=k.np
 len:=by rw[QW,QW];exact k.len
 pub:=λj d' q=>by
  by_cases z:i=j
  .subst z
   have:=Ku q;cases this
  .rw[Ql z]at q⊢
   exact k.pub j d' q
 own:=λj ds q=>by
  by_cases z:i=j
  .subst z
   have:=Ku q;cases this
  .rw[Ql z]at q⊢
   exact k.own j ds q
 sep:=λj l c es fs q1 q2 s1 s2=>by
  have z1:i≠j:=λz=>by subst z;have:=Ku q1;cases this
  have z2:i≠l:=λz=>by subst z;have:=Ku q2;cases this
  rw[Ql z1]at q1 s1;rw[Ql z2]at q2 s2;exact k.sep j l c es fs q1 q2 s1 s2
 dp:=k.dp.setOther (λs e=>by cases e)
end
def CK(K:Frag)(mg:Str->A3)(x:Str):Prop:=∃D bm,mg x=O (.ref D)/\ClsK K x D bm
noncomputable def YI(x:Str):D->Bool
 |.dict [(.none,.tuple [.str nm,_])]=>decide (x=nm) || decide (x = "DealError")
 |_=>AY
noncomputable def Ys(i:Nat)(x:Str)(g h:SM):SM:=λρ=>match g ρ with
 |.ex ρ1 d=>if YI x d=AX/\i<ρ1.length then(match h (ρ1.set i (O (.pub d)))with
  |.nx ρ2=>.nx (ρ2.set i AW)
  |.bk ρ2=>.bk (ρ2.set i AW)
  |.ct ρ2=>.ct (ρ2.set i AW)
  |.rt d2=>.rt d2
  |_=>.bad)else .bad
 |o=>o
noncomputable def VQ(x:Str)(g h:SM):SM:=λρ=>match g ρ with
 |.ex ρ1 d=>if YI x d=AX then(match h ρ1 with
  |.nx ρ2=>.nx ρ2
  |.bk ρ2=>.bk ρ2
  |.ct ρ2=>.ct ρ2
  |.rt d2=>.rt d2
  |_=>.bad)else .bad
 |o=>o
section
variable{X:Cx}{B G0:Hp}{KX:XW}{e a b c:Ug}{pos p2 cpos np hpos:Pos}{es:A4}{x n:Str}{k kk:Nat}
theorem Ry{K:Frag}{G:Hp}{v:V}{d:D}{D':Ue}{bmD:A0}(r:Rep K G v d)(h:YI x d=AX)(cD:ClsK K x D' bmD) :
  ∃a C dd bm,v=.ref a/\KC K C bm/\G a=O (.ext (XO AY a C dd))/\(Value.ref C::bm).contains (.ref D')=AX:=by
 unfold YI at h;split at h
 .obtain⟨a,C,dd,bm,qO,vs,ds,rfl,e0,c,hx,_,_⟩:=r.exc_inv
  cases e0;exact⟨a,C,dd,bm,rfl,⟨_,c⟩,hx,by rw[c.has cD];exact h⟩
 .cases h
theorem LH{i:Nat}{g h:SM}{body suite:List Stmt}{b₀:Stmt}{st:List Env}(cD:CK X.K X.mg x)(hg:Gl X x)(hN:X.N.Nodup)(hi:X.N[i]?=O n)(hl:X.env.kindOf n=O .local)
  (hb:∀(KX':XW)(W:Ub->Uc->Prop)(pn:List (Ue×Obj)),ZW AY (X.tried W pn) KX'->PSs (X.tried W pn) body (tS X.K B G0 KX' g)) (hs:∀a,PSs (X.suite a) (b₀::suite) (tS X.K B G0 KX0 h))
  (ql:X.stack=X.env::st:=by rfl) (hfr:X.env.frame=O X.env.locals:=by rfl) (hdb:(x==("__debug__" : Str))=AY:=by decide) :
  PS X (.Try body [.ExceptHandler (O (.Name x np)) (O n) (b₀::suite) hpos] [] [] pos) (tS X.K B G0 KX (Ys i x g h)):=PS.kin λkin=>by
 obtain⟨D',bmD,hm,ck⟩:=cD;obtain⟨fD,xD⟩:=ck.cls (model X.prog X.w) X.base kin;refine Kj (Gn (KC:=KC X.K) (tb:=λKX'=>tS X.K B G0 KX' g) (ts:=tS X.K B G0 KX0 h) ql hfr (YG kin) xD hg hm hN hi hl hb hs hdb) λDn σ H ⟨G,ρ,k,a⟩=>?_
 refine⟨G,ρ,k,?_⟩;unfold Ys at a;cases z:g ρ with
 |nx ρ1=>rw[z]at a;exact a
 |rt d=>rw[z]at a;exact a
 |ro ds=>rw[z]at a;exact a
 |bk ρ1=>rw[z]at a;exact a
 |ct ρ1=>rw[z]at a;exact a
 |bad=>rw[z]at a;exact a.elim
 |ex ρ1 d=>
  rw[z]at a;dsimp only at a;intro v σ1 G1 H1 k1 s1 r;by_cases hc:YI x d=AX/\i<ρ1.length
  .rw[Qp hc]at a
   obtain⟨ad,C,dd,bm,rfl,kc,hx,hct⟩:=Ry r hc.1 ck;refine⟨ad,C,dd,bm,rfl,kc,k1.gh _ _ hx,hct,G1,_,k1.setPub r hc.2,?_⟩;cases z2:h (ρ1.set i (O (.pub d)))with
   |nx ρ2=>rw[z2]at a;exact λσ2 G2 H2 k2 s2=>a _ G2 H2 k2.unset (s1.trans s2)
   |bk ρ2=>rw[z2]at a;exact λσ2 G2 H2 k2 s2=>a _ G2 H2 k2.unset (s1.trans s2)
   |ct ρ2=>rw[z2]at a;exact λσ2 G2 H2 k2 s2=>a _ G2 H2 k2.unset (s1.trans s2)
   |rt d2=>rw[z2]at a;exact a
   |ex _ _=>rw[z2]at a;exact a.elim
   |ro _=>rw[z2]at a;exact a.elim
   |bad=>rw[z2]at a;exact a.elim
  .rw[Qz hc]at a;exact a.elim
theorem GY{g h:SM}{body suite:List Stmt}{b₀:Stmt}{st:List Env}(cD:CK X.K X.mg x)(hg:Gl X x)
  (hb:∀(KX':XW)(W:Ub->Uc->Prop)(pn:List (Ue×Obj)),ZW AY (X.tried W pn) KX'->PSs (X.tried W pn) body (tS X.K B G0 KX' g)) (hs:∀a,PSs (X.suite a) (b₀::suite) (tS X.K B G0 KX0 h))
  (ql:X.stack=X.env::st:=by rfl) (hfr:X.env.frame=O X.env.locals:=by rfl) (hdb:(x==("__debug__" : Str))=AY:=by decide) :
  PS X (.Try body [.ExceptHandler (O (.Name x np)) AW (b₀::suite) hpos] [] [] pos) (tS X.K B G0 KX (VQ x g h)):=PS.kin λkin=>by
 obtain⟨D',bmD,hm,ck⟩:=cD;obtain⟨fD,xD⟩:=ck.cls (model X.prog X.w) X.base kin;refine Kj (FY (KC:=KC X.K) (tb:=λKX'=>tS X.K B G0 KX' g) (ts:=tS X.K B G0 KX0 h) ql hfr (YG kin) xD hg hm hb hs hdb) λDn σ H ⟨G,ρ,k,a⟩=>?_
 refine⟨G,ρ,k,?_⟩;unfold VQ at a;cases z:g ρ with
 |nx ρ1=>rw[z]at a;exact a
 |rt d=>rw[z]at a;exact a
 |ro ds=>rw[z]at a;exact a
 |bk ρ1=>rw[z]at a;exact a
 |ct ρ1=>rw[z]at a;exact a
 |bad=>rw[z]at a;exact a.elim
 |ex ρ1 d=>
  rw[z]at a;dsimp only at a;intro v σ1 G1 H1 k1 s1 r;by_cases hc:YI x d=AX
  .rw[Qp hc]at a
   obtain⟨ad,C,dd,bm,rfl,kc,hx,hct⟩:=Ry r hc ck;refine⟨ad,C,dd,bm,rfl,kc,k1.gh _ _ hx,hct,G1,_,k1,?_⟩;cases z2:h ρ1 with
   |nx ρ2=>rw[z2]at a;exact λσ2 G2 H2 k2 s2=>a _ G2 H2 k2 (s1.trans s2)
   |bk ρ2=>rw[z2]at a;exact λσ2 G2 H2 k2 s2=>a _ G2 H2 k2 (s1.trans s2)
   |ct ρ2=>rw[z2]at a;exact λσ2 G2 H2 k2 s2=>a _ G2 H2 k2 (s1.trans s2)
   |rt d2=>rw[z2]at a;exact a
   |ex _ _=>rw[z2]at a;exact a.elim
   |ro _=>rw[z2]at a;exact a.elim
   |bad=>rw[z2]at a;exact a.elim
  .rw[Qz hc]at a;exact a.elim
noncomputable def Kz(x:Str):D->A6
 |.dict [(.none,.tuple [.str nm,_])]=>O (.bool (decide (x=nm) || decide (x = "DealError")))
 |_=>AW
theorem GX{f:M D}{p3:Pos}(cD:CK X.K X.mg x)(hg:Gl X "isinstance")(hm:X.mg "isinstance" = AW)(qW:Gl X x)(ha:PE X e (tD X.K B G0 f))(hdb:(x==("__debug__" : Str))=AY:=by decide)
  (hs:Uj [e,.Name x p3] X.env=(AY,eval e X.env)::Uj [.Name x p3] X.env:=by rfl)
  (hs2:Uj [.Name x p3] X.env=[(AY,eval (.Name x p3) X.env)]:=by rfl) :
  PE X (.Call (.Name "isinstance" p2) [e,.Name x p3] [] pos) (tD X.K B G0 (UN f λd=>UM (Kz x d))):=PE.kin λkin=>by
 obtain⟨D',bmD,hm2,ck⟩:=cD;refine UY (VG (Rk (YG kin)) hg hm RZ (K5 ha (K5 (OD (v:=.ref D') qW hm2 AV hdb) ZD (by rw[hs2];rfl)) hs) (by decide) (by decide) hs (by rw[hs2];rfl)) λσ H Q q=>?_
 refine tM.one (R:=Rep X.K) q λv H2 G ρ d k r a=>?_
 obtain⟨d',e',a'⟩:=aft.opt a;unfold Kz at e';split at e'
 .obtain⟨ad,C,dd,bm,qO,vs,ds,rfl,e0,c,hx,_,_⟩:=r.exc_inv
  cases e0;cases e';exact⟨ad,C,dd,bm,AY,.ref D',_,rfl,⟨_,c⟩,k.gh _ _ hx,.inl ⟨D',bmD,rfl,⟨_,ck⟩,c.has ck⟩,a'.now k (.bl _)⟩
 .cases e'
noncomputable def WS:D->A6
 |.dict [(.none,_)]=>O (.bool AX)
 |_=>AW
theorem GW:bootBuiltins "ValueError" = O (.type "ValueError"):=by decide +kernel
theorem GV{f:M D}{p3:Pos}(hg:Gl X "isinstance")(hm:X.mg "isinstance" = AW)(qW:Gl X "ValueError")(hm2:X.mg "ValueError" = AW)(ha:PE X e (tD X.K B G0 f))
  (hs:Uj [e,.Name "ValueError" p3] X.env=(AY,eval e X.env)::Uj [.Name "ValueError" p3] X.env:=by rfl)
  (hs2:Uj [.Name "ValueError" p3] X.env=[(AY,eval (.Name "ValueError" p3) X.env)]:=by rfl) :
  PE X (.Call (.Name "isinstance" p2) [e,.Name "ValueError" p3] [] pos) (tD X.K B G0 (UN f λd=>UM (WS d))):=PE.kin λkin=>by
 refine UY (VG (Rk (YG kin)) hg hm RZ (K5 ha (K5 (OC (v:=.ty "ValueError") qW hm2 GW AV (by decide) (by decide)) ZD (by rw[hs2];rfl)) hs) (by decide) (by decide) hs (by rw[hs2];rfl)) λσ H Q q=>?_
 refine tM.one (R:=Rep X.K) q λv H2 G ρ d k r a=>?_
 obtain⟨d',e',a'⟩:=aft.opt a;unfold WS at e';split at e'
 .obtain⟨ad,C,dd,bm,qO,vs,ds,rfl,e0,c,hx,_,_⟩:=r.exc_inv
  cases e0;cases e';exact⟨ad,C,dd,bm,AY,.ty "ValueError", AX,rfl,⟨_,c⟩,k.gh _ _ hx,.inr ⟨"ValueError", rfl,Ot,by rw[c.ty];rfl⟩,a'.now k (.bl _)⟩
 .cases e'
noncomputable def Xx(f:Str):D->A6
 |.dict [(.none,.tuple [.str nm,.list ds])]=>((K6 nm).zip ds).lookup f
 |_=>AW
theorem NA{K:Frag}{G:Hp}{f:Str}:∀{fs:List Str}{vs:List V}{ds:AZ}{d:D},Reps K G vs ds->(fs.zip ds).lookup f=O d->f∈fs/\∃v,(fs.zip vs).lookup f=O v/\Rep K G v d
 |[],vs,ds,d,_,e=>by simp at e
 |g::fs,_,_,d,.nil,e=>by simp at e
 |g::fs,_,_,d,@Reps.cons _ _ v d0 vs ds r t,e=>by
  rw[JV,QU]at e;rw[JV,QU];cases z:f==g with
  |true=>rw[z]at e;cases e;exact⟨by rw[beq_iff_eq.mp z];exact Qg,v,rfl,r⟩
  |false=>rw[z]at e;obtain⟨h1,h2⟩:=NA t e;exact⟨Qj _ h1,h2⟩
theorem D4{f:M D}{fl:Str}(he:PE X e (tD X.K B G0 f))(hb:attributeBase e fl X.env (eval e X.env)=eval e X.env:=by rfl)(hq:fl∈(["part", "number", "row"]:List Str):=by decide) :
  PE X (.Attribute e fl pos) (tD X.K B G0 (UN f λd=>UM (Xx fl d))):=PE.kin λkin=>by
 refine UY (FT (YG kin) (λC bm ⟨nm,c⟩=>c.fld _ _ kin fl hq) he hb) λσ H Q q=>?_;refine tM.one (R:=Rep X.K) q λv H2 G ρ d k r a=>?_
 obtain⟨d',e',a'⟩:=aft.opt a;unfold Xx at e';split at e'
 .obtain⟨ad,C,dd,bm,qO,vs,ds,rfl,rfl',c,hx,hd,rr⟩:=r.exc_inv
  cases rfl';obtain⟨hm,w,e1,rw⟩:=NA rr e';cases dd with
  |none=>rw[hd.1]at hm;cases hm
  |some dx=>exact⟨ad,C,bm,dx,_,w,AY,rfl,⟨_,c⟩,k.gh _ _ hx,k.gh _ _ hd.2,e1,a'.now k rw⟩
 .cases e'
end
def TF(o:Ug)(name:Str)(apos:Pos)(args:A4)(pos:Pos):Prop:=∀env:Env,∃pl:Sem Bool,eval (.Call (.Attribute o name apos) args [] pos) env=(do
   let ov ←eval o env
   standAt apos.atName
   let (f,first) ←holding [ov] (getMethod ov name pl)
   callWith pos f first (backTo pos (Uj args env)) (backToKw pos (keywordEach [] env)))
section
variable{P:Ud}{w:World}{K:Frag}{mg:Str->A3}{base:Heap}{st:Stmt}{f f0 D:Ue}{fd fd0:Uf}{q:Str}{p1 p2 p3 p4 p5 p6 p7 p8 p9 r1 r2 r3 r4 r5 r6 r7 r8 r9 q1 q2:Pos}{j1 j2:Nat}
theorem GU(F:Fun K "__init__" q st f fd)(hn:FnNm (Ki st) ["self", "text"] ["ValueError"])(hm:mg "ValueError" = AW)
  (hb:K7 st=[.Expr (.Call (.Attribute (.Name "ValueError" p1) "__init__" p2) [.Name "self" p3,.Name "text" p4] [] p5) p6])
  (ht:TF (.Name "ValueError" p1) "__init__" p2 [.Name "self" p3,.Name "text" p4] p5) :
  FnOk P w K mg base CX0 1 f fd ["self", "text"] (Wi (KC K)):=by
 refine F.ok (fq hn 2) (λvs H Q E ⟨a,C,dd,bm,x,e,_⟩=>by rw[e];rfl) λcdv A outer s H vs Q E hr ⟨a,C,dd,bm,x,e,kc,hx,hq⟩=>?_
 subst e;rw[hb];obtain⟨pl,ht⟩:=ht (Ks CX0 P w K mg base ["self", "text"] q (Ki st) f cdv A outer s H E).nox.env;refine⟨TK (SR (KC K) (Ws (Kd 0) (Ws (Kd 1) Xr))),PSs.kin λkin=>WG (Y6 (OQ (pl:=pl) (YG kin) (gq hn 0) hm (K5 (pq hn 0) (K5 (pq hn 1) ZD)) (ht:=ht))),?_⟩;exact⟨_,rfl,_,rfl,a,C,dd,bm,_,rfl,kc,hx,hq⟩
theorem Yg(x y:Str):(x++y).length=x.length+y.length:=by
 show(x.cps++y.cps).size=x.cps.size+y.cps.size
 exact Array.size_append
theorem GT{t1 t2:Str}(M:Tt K D "__init__" f0)(F0:FnOk P w K mg base CX0 1 f0 fd0 ["self", "text"] (Wi (KC K)))(hb0:Zf K fd0 ["self", "text"] [])(hm:mg "DealError" = O (.ref D))
  (F:Fun K "__init__" q st f fd) (hn:FnNm (Ki st) ["self", "part", "number"] ["DealError"])
  (hb:K7 st=[.Expr (.Call (.Attribute (.Name "DealError" p1) "__init__" p2) [.Name "self" p3,.JoinedStr [.Constant (.str t1) j1 p4,.FormattedValue (.Name "part" p5) (-1) AW p6,.Constant (.str t2) j2 p7,.FormattedValue (.Name "number" p8) (-1) AW p9] r1] [] r2) r3,
   .Assign [.Attribute (.Name "self" r4) "part" r5] (.Name "part" r6) r7,.Assign [.Attribute (.Name "self" r8) "number" r9] (.Name "number" q1) q2])
  (ht:TF (.Name "DealError" p1) "__init__" p2 [.Name "self" p3,.JoinedStr [.Constant (.str t1) j1 p4,.FormattedValue (.Name "part" p5) (-1) AW p6,.Constant (.str t2) j2 p7,.FormattedValue (.Name "number" p8) (-1) AW p9] r1] r2)
  (hl1:t1.length<=1000) (hl2:t2.length<=1000) :
  FnOk P w K mg base CX0 2 f fd ["self", "part", "number"] (Ri (KC K) ["part", "number"]):=by
 refine F.ok (fq hn 3) (λvs H Q E ⟨a,C,bm,us,e,hl,_⟩=>by rw[e,QK,hl];rfl) λcdv A outer s H vs Q E hr ⟨a,C,bm,us,e,hl,kc,hx,hf,hq⟩=>?_
 subst e
 match us,hl with
 |[u1,u2],_=>
 rw[hb];obtain⟨pl,ht⟩:=ht (Ks CX0 P w K mg base ["self", "part", "number"] q (Ki st) f cdv A outer s H E).nox.env;obtain⟨y1,f1,g1⟩:=hf u1 (by simp);obtain⟨y2,f2,g2⟩:=hf u2 (by simp)
 refine⟨Yr (TK (SJ (Wi (KC K)) [] E0 (Ws (Kd 0) (Ws (Ts [tC (.str t1),WP (Kd 1),tC (.str t2),WP (Kd 2)] Str.empty) Xr)))) (Yr (SG (KC K) (Kd 0) (Kd 1) "part") (SG (KC K) (Kd 0) (Kd 2) "number")),
  PSs.kin λkin=>WI (Y6 (Dx (pl:=pl) M F0 hr hb0 (gq hn 0) hm (K5 (pq hn 0) (K5 (CY (.cons TY (.cons (PH (pq hn 1)) (.cons TY (.cons (PH (pq hn 2)) .nil))))) ZD)) (ht:=ht)))
   (WI (Os (YG kin) (λC bm ⟨nm,c⟩=>c.fld _ _ kin "part" (by decide)) (pq hn 0) (pq hn 1) AV) (WG (Os (YG kin) (λC bm ⟨nm,c⟩=>c.fld _ _ kin "number" (by decide)) (pq hn 0) (pq hn 2) AV))),?_⟩
 have e0:(Str.empty:Str).length=0:=rfl;have lz:(10000:Nat)<=Uh:=by decide
 refine⟨_,rfl,t1,rfl,by rw[Yg];lia,_,rfl,y1,f1,_,rfl,by rw[Yg,Yg];lia,t2,rfl,by rw[Yg,Yg,Yg];lia,_,rfl,y2,f2,_,rfl,by rw[Yg,Yg,Yg,Yg];lia,by rw[Yg,Yg,Yg,Yg];lia,?_⟩;refine⟨a,C,AW,bm,_,rfl,kc,hx,?_⟩;refine⟨_,rfl,_,rfl,a,C,bm,rfl,kc,.inl ⟨hx,λdx hd hne=>?_⟩⟩;refine⟨_,rfl,_,rfl,a,C,bm,rfl,kc,.inr ⟨dx,_,hne,by rw[UW (Ne.symm hne)];exact U7,U7,(show 1<900 by decide),?_⟩⟩;rw[OE];exact hq dx hd hne
end
structure XSt(h:Heap)(nm:Str)(own:Option Stmt)(C N:Ue)(bm:A0)(mN:Str->A3):Prop where
 ad:h.nsMap mainGlobals nm=O (.ref C)
 obj:∃q bs sn sub ab col dd k0 k1 k2 k3 k5,h.get? C=O (excClassObj nm q C N bs bm AX sn sub ab col dd k0 k1 k2 k3 k5 "ValueError.__new__")
 ns:h.Ns N mN
 quiet:∀x∈SW,mN x=AW
 up:nm = "DealError" /\ bm=VB∨nm ≠ "DealError" /\ ∃D,h.nsMap mainGlobals "DealError" = O (.ref D)/\bm=.ref D::VB
 init:match own with
  |none=>mN "__init__" = AW
  |some st=>∃f o pm cd doc,mN "__init__" = O (.ref f)/\h.get? f=O o/\o.cls=.type "function" /\ o.data=.func (methDef "__init__" (X8 nm) (Yp st) (K7 st) (Ki st) pm cd doc)/\h.CodeRec cd (X8 nm)
section
variable{h h':Heap}{nm:Str}{own:Option Stmt}{C N:Ue}{bm:A0}{mN:Str->A3}
theorem N4{a:Ue}{x:Str}{v:Ub}(e:h.nsMap a x=O v)(k:∀b o,h.get? b=O o->h'.get? b=O o):h'.nsMap a x=O v:=by
 unfold Heap.nsMap at e⊢;cases z:h.get? a with
 |none=>rw[z]at e;cases e
 |some o=>rw[k _ _ z];rw[z]at e;exact e
theorem XSt.keeps(x:XSt h nm own C N bm mN)(k:∀b o,h.get? b=O o->h'.get? b=O o):XSt h' nm own C N bm mN where
 ad:=N4 x.ad k
 obj:=let ⟨q,bs,sn,sub,ab,col,dd,k0,k1,k2,k3,k5,e⟩:=x.obj;⟨q,bs,sn,sub,ab,col,dd,k0,k1,k2,k3,k5,k _ _ e⟩
 ns:=x.ns.keeps k
 quiet:=x.quiet
 up:=x.up.imp id λ⟨a,D,b,c⟩=>⟨a,D,N4 b k,c⟩
 init:=by
  have z:=x.init;cases own with
  |none=>exact z
  |some st=>obtain⟨f,o,pm,cd,doc,h1,h2,h3,h4,h5⟩:=z;exact⟨f,o,pm,cd,doc,h1,k _ _ h2,h3,h4,h5.keeps k⟩
theorem dA(st:Stmt):Pr st=Yp st:=by cases st<;>rfl
theorem dB(st:Stmt):Pq st=K7 st:=by cases st<;>rfl
theorem dS(st:Stmt):PU st=Ki st:=by cases st<;>rfl
structure XYP(p:Ud)(l:XL0)(h:Heap):Prop where
 st:∃mc,h.Ns cStatics mc/\mc "thirdparty.any" = AW
 cl:∀c∈l,∃C N bm mN,XSt h c.1 (c.2.map λi=>Z3 (UX p i)) C N bm mN
theorem XYP.keeps{p:Ud}{l:XL0}(x:XYP p l h)(k:∀b o,h.get? b=O o->h'.get? b=O o):XYP p l h':=
 ⟨let ⟨mc,a,b⟩:=x.st;⟨mc,a.keeps k,b⟩,λc hc=>let ⟨C,N,bm,mN,z⟩:=x.cl c hc;⟨C,N,bm,mN,z.keeps k⟩⟩
theorem LG{st:Stmt}{n:Bool}(b:xB h nm n=AX)(hown:own=AW->n=AY)(hs:∀st,own=O st->xSh h nm=O (AX,WR nm st)):∃C N bm mN,XSt h nm own C N bm mN:=by
 unfold xB at b;split at b
 .rename_i C hC
  split at b
  .rename_i t dd cd sl ho
   simp only[Qw,Bool.not_eq_true',beq_iff_eq,Bool.or_eq_true,Q2,Option.isNone_iff_eq_none]at b;obtain⟨⟨⟨⟨⟨⟨⟨⟨b1,b2⟩,b3⟩,b4⟩,b5⟩,b6⟩,b7⟩,b8⟩,b9⟩:=b;obtain⟨cn,cb,cm,cns,cq,chd,csn,csub,cab,ccol,cdel⟩:=cd;simp only at b2 b3 b4 b6 b7 b8 b9;subst b1 b2 b3 b4;split at b5
   .rename_i k0 k1 k2 k3 k4 k5 hsl
    have b5:=Qa b5;subst b5;have hsl':sl=#[k0,k1,k2,k3,O (.builtin "ValueError.__new__"),k5]:=by rw[←Array.toList_inj,hsl]
    subst hsl'
    have key:∃bm,cm=.ref C::bm/\(cn = "DealError" /\ bm=VB∨cn ≠ "DealError" /\ ∃D,h.nsMap mainGlobals "DealError" = O (.ref D)/\bm=.ref D::VB):=by
     split at b9
     .rename_i e
      exact⟨VB,Qa b9,.inl ⟨e,rfl⟩⟩
     .rename_i e
      split at b9
      .rename_i D hD
       exact⟨.ref D::VB,Qa b9,.inr ⟨e,D,hD,rfl⟩⟩
      .cases b9
    obtain⟨bm,rfl,up⟩:=key;refine⟨C,cns,bm,h.nsMap cns,hC,⟨_,_,_,_,_,_,_,_,_,_,_,_,ho⟩,.of_isNs b6,b7,up,?_⟩;cases own with
    |none=>
     rcases b8 with b8|b8
     .rw[hown AV]at b8;cases b8
     .exact b8
    |some st=>
     have e:=hs st AV;unfold xSh at e;rw[hC]at e;dsimp only at e;rw[ho]at e;dsimp only at e;split at e
     .rename_i a o fd sh hf hsh
      simp only[Option.some.injEq,Prod.mk.injEq,Q5]at e;obtain⟨e1,rfl⟩:=e;obtain⟨g1,g2,g3⟩:=Heap.fnAt_spec hf;unfold Heap.shapeAt at hsh;rw[hf]at hsh;obtain⟨n,q,ps,b,sc,g,cl,df,kd,doc,pm,an,code,ct,bi⟩:=fd;simp only[Option.map_some,WR,dA,dB,dS,Option.some.injEq,FnShape.mk.injEq]at hsh;obtain⟨rfl,rfl,rfl,rfl,rfl,rfl,rfl,rfl,rfl,rfl,rfl,rfl,hc⟩:=hsh;exact⟨a,o,pm,code,doc,g1,g2,e1,g3,.of_ok hc⟩
     .cases e
   .cases b5
  .cases b
 .cases b
theorem LF{p:Ud}{l:XL0}{s:Uc}(e:xSeen l s=xGood p l):XYP p l s.heap:=by
 unfold xSeen xGood at e;obtain⟨e1,e2⟩:=Prod.mk.inj e;obtain⟨e1,e3⟩:=Bool.and_eq_true_iff.mp e1;refine⟨⟨_,.of_isNs e1,Option.isNone_iff_eq_none.mp e3⟩,λc hc=>?_⟩;have q:=List.map_inj_left.mp e2 c hc;obtain⟨q1,q2⟩:=Prod.mk.inj q;refine LG (st:=.Pass ⟨0,0,0,0⟩) q1 (λz=>?_) λst z=>?_
 .cases hz:c.2 with
  |none=>rfl
  |some i=>rw[hz]at z;cases z
 .cases hz:c.2 with
  |none=>rw[hz]at z;cases z
  |some i=>rw[hz]at z q2;cases z;exact q2
end
theorem Pw:mroOf (.type "ValueError")=pure VB:=by kernel_rfl
theorem Lo:typeLookup (.type "ValueError") "__setattr__" = pure (O (.builtin "object.__setattr__")):=by kernel_rfl
theorem Ln:typeLookup (.type "ValueError") "__getattribute__" = pure (O (.builtin "BaseException.__getattribute__")):=by kernel_rfl
theorem Lm:typeLookup (.type "ValueError") "__getattr__" = pure AW:=by kernel_rfl
theorem Ll:typeLookup (.type "ValueError") "__class__" = pure (O (.builtin "object.__class__")):=by kernel_rfl
theorem GS:typeLookup (.type "ValueError") "part" = pure AW:=by kernel_rfl
theorem Cj:typeLookup (.type "ValueError") "number" = pure AW:=by kernel_rfl
theorem LD:typeLookup (.type "ValueError") "row" = pure AW:=by kernel_rfl
theorem P7(v:Ub):refuseLoop v "__setattr__" VB=pure ():=by kernel_rfl
section
variable{h h':Heap}{nm:Str}{own ownD:Option Stmt}{C N D ND:Ue}{bm:A0}{mN mD:Str->A3}{M:Model}
theorem XSt.along(x:XSt h nm own C N bm mN)(xD:XSt h "DealError" ownD D ND VB mD){y:Str}{r:A3}(hy:y∈SW)(hB:typeLookup (.type "ValueError") y=pure r):Kr M C y r h:=by
 obtain⟨q,bs,sn,sub,ab,col,dd,k0,k1,k2,k3,k5,e⟩:=x.obj;obtain⟨q',bs',sn',sub',ja,col',qv,k0',k1',k2',k3',k5',e'⟩:=xD.obj;refine Kr.of e (ZY.miss e x.ns (x.quiet y hy) ?_);rcases x.up with ⟨_,rfl⟩|⟨_,D',qr,rfl⟩
 .exact ZY.base Pw hB
 .have:=qr.symm.trans xD.ad
  cases this;exact ZY.miss e' xD.ns (xD.quiet y hy) (ZY.base Pw hB)
theorem XSt.tail(x:XSt h nm own C N bm mN):Tail VB bm:=by
 rcases x.up with ⟨_,rfl⟩|⟨_,D',_,rfl⟩
 .exact Tail.base
 .exact Tail.own Tail.base
def TD(h:Heap)(own ownD:Option Stmt)(mN mD:Str->A3)(nm:Str)(f:Ue):Prop:=match own with
 |some _=>mN "__init__" = O (.ref f)
 |none=>mD "__init__" = O (.ref f)
theorem XSt.xcls(x:XSt h nm own C N bm mN){std:Stmt}(xD:XSt h "DealError" (O std) D ND VB mD){f:Ue}(hf:TD h own (O std) mN mD nm f):XCls M h C bm f:=by
 have hD:=xD.init;obtain⟨fD,oD,pmD,cdD,docD,g1,g2,g3,g4,g5⟩:=hD;obtain⟨q,bs,sn,sub,ab,col,dd,k0,k1,k2,k3,k5,e⟩:=id x.obj;obtain⟨q',bs',sn',sub',ja,col',qv,k0',k1',k2',k3',k5',e'⟩:=id xD.obj
 have fin:Kr M C "__init__" (O (.ref f)) h/\∃o,h.get? f=O o/\o.cls=.type "function" :=by
  have z:=x.init;unfold TD at hf;cases own with
  |some st=>obtain⟨f',o,pm,cd,doc,h1,h2,h3,h4,h5⟩:=z;have hf:mN "__init__" = O (.ref f):=hf;rw[h1]at hf;cases hf;exact⟨Kr.of e (ZY.hit e x.ns h1),o,h2,h3⟩
  |none=>
   have hf:mD "__init__" = O (.ref f):=hf;have z:mN "__init__" = AW:=z;rw[g1]at hf;cases hf;refine⟨Kr.of e (ZY.miss e x.ns z ?_),oD,g2,g3⟩;rcases x.up with ⟨hn,rfl⟩|⟨_,D',qr,rfl⟩
   .subst hn
    have:=x.ad.symm.trans xD.ad;cases this;rw[e]at e';cases e';have:=x.ns.eq_nsMap.trans xD.ns.eq_nsMap.symm;rw[this]at z;rw[g1]at z;cases z
   .have:=qr.symm.trans xD.ad
    cases this;exact ZY.hit e' xD.ns g1
 refine⟨⟨nm,q,N,bs,sn,sub,ab,col,dd,k0,k1,k2,k3,k5,e⟩,x.tail,fin.1,fin.2,x.along xD (by decide) Lo,x.along xD (by decide) Ln,x.along xD (by decide) Lm,x.along xD (by decide) Ll,λv=>?_⟩;rcases x.up with ⟨_,rfl⟩|⟨_,D',_,rfl⟩
 .exact P7 v
 .rw[refuseLoop_ref];exact P7 v
theorem Wn(k:(whole h).In h'):∀b o,h.get? b=O o->h'.get? b=O o:=λb o e=>k b o (by rw[ZH];exact e)
theorem RO{mA:Str->A3}{a:Ue}(n:h.Ns a mA)(y:Str):PySem.W.nsIn (whole h) a y=O (mA y):=by
 obtain⟨⟨oc,od,dt,os⟩,es,ep,ho,hd,hk,hf⟩:=n;have hd:dt=_:=hd;subst hd;unfold PySem.W.nsIn;rw[ZH,ho];dsimp only;have:=hf y;unfold nsFind findBy at this;rw[←Array.find?_toList]at this;dsimp only at this;rw[←this];cases z:es.toList.find? (·.key.isStr y)with
 |some e=>rfl
 |none=>
  dsimp only;rw[Qz]
  .rfl
  .rw[List.any_eq_true]
   rintro⟨e,he,hr⟩;obtain⟨n,t,hk⟩:=hk e (Array.mem_toList_iff.mp he);unfold DictEntry.refKey at hr;rw[hk]at hr;cases hr
theorem XSt.nmd(x:XSt h nm own C N bm mN):NmAt (whole h) nm C:=by obtain⟨q,bs,sn,sub,ab,col,dd,k0,k1,k2,k3,k5,e⟩:=x.obj;exact⟨_,_,by rw[ZH];exact e,rfl,rfl⟩
theorem N0{mg:Str->A3}(n:h.Ns mainGlobals mg)(e:h.nsMap mainGlobals nm=O (.ref C)):Tr (whole h) nm=O C:=by unfold Tr;rw[RO n,n.eq_nsMap,e]
theorem XSt.clsK{mg:Str->A3}(n:h.Ns mainGlobals mg)(x:XSt h nm own C N bm mN){std:Stmt}(xD:XSt h "DealError" (O std) D ND VB mD){f:Ue}(hf:TD h own (O std) mN mD nm f):ClsK (whole h) nm C bm where
 ad:=N0 n x.ad
 nmd:=x.nmd
 up:=x.up.imp id λ⟨a,D',b,c⟩=>⟨a,D',N0 n b,c,by have:=b.symm.trans xD.ad;cases this;exact xD.nmd⟩
 cls:=λM h' k=>⟨f,(x.keeps (Wn k)).xcls (xD.keeps (Wn k)) (by unfold TD at hf⊢;cases own<;>exact hf)⟩
 fld:=λM h' k y hy=>by
  have z:=x.keeps (Wn k);have zD:=xD.keeps (Wn k);simp only[QM,List.not_mem_nil,or_false]at hy;rcases hy with rfl|rfl|rfl
  .exact z.along zD (by decide) GS
  .exact z.along zD (by decide) Cj
  .exact z.along zD (by decide) LD
theorem XSt.keep(x:XSt h nm own C N bm mN):PySem.W.keepIn (whole h) (.ref C)=AX:=by obtain⟨q,bs,sn,sub,ab,col,dd,k0,k1,k2,k3,k5,e⟩:=x.obj;unfold PySem.W.keepIn;dsimp only;rw[ZH,e];dsimp only;unfold PySem.W.specialIn PySem.W.typeIn;dsimp only;rw[ZH,e];kernel_rfl
theorem XSt.fun{st:Stmt}(x:XSt h nm (O st) C N bm mN):∃f fd,mN "__init__" = O (.ref f)/\Fun (whole h) "__init__" (X8 nm) st f fd:=by
 obtain⟨f,⟨oc,od,dt,osl⟩,pm,cd,doc,h1,h2,h3,h4,h5⟩:=x.init;have h4:dt=_:=h4;subst h4;refine⟨f,_,h1,⟨⟨oc,od,.none,doc,pm,_,cd,_,osl,rfl,by rw[ZH];exact h2,?_⟩,?_⟩⟩
 .obtain⟨c,⟨_,_,dc,_⟩,vs,t,rfl,g1,g2,g3⟩:=h5
  have g2:dc=_:=g2;subst g2;unfold PySem.W.codeIn;dsimp only;rw[ZH,g1];dsimp only;have g4:vs.toList[1]?=O (.str (X8 nm) t):=by rw[Array.getElem?_toList];exact g3
  cases hv:vs.toList with
  |nil=>rw[hv]at g4;cases g4
  |cons v0 r=>
   rw[hv]at g4;cases r with
   |nil=>cases g4
   |cons v1 r=>cases g4;exact beq_self_eq_true _
 .unfold PySem.W.keepIn
  dsimp only;rw[ZH,h2]
theorem tf1{K:Frag}:PySem.W.findIn K (.type "type") "__init__" = O (O (.builtin "type.__init__")):=by kernel_rfl
theorem tf2{K:Frag}:PySem.W.specialIn K (.builtin "type.__init__") "__get__" = O (O (.builtin "wrapper_descriptor.__get__")):=by kernel_rfl
theorem tf3{K:Frag}:PySem.W.takesIn K (.builtin "type.__init__")=O AY:=by kernel_rfl
theorem tf4{K:Frag}:PySem.W.findIn K (.type "type") "__getattribute__" = O (O (.builtin "type.__getattribute__")):=by kernel_rfl
theorem tf5{K:Frag}:PySem.W.subIn K (.type "type") (.type "type")=O AX:=by kernel_rfl
theorem XSt.clsFn{st:Stmt}(x:XSt h "DealError" (O st) D ND VB mD)(hs:∃mc,h.Ns cStatics mc/\mc "thirdparty.any" = AW){f:Ue}(hf:mD "__init__" = O (.ref f)):Tt (whole h) D "__init__" f:=by
 obtain⟨f',o,pm,cd,doc,h1,h2,h3,h4,h5⟩:=x.init;rw[h1]at hf;cases hf;obtain⟨q,bs,sn,sub,ab,col,dd,k0,k1,k2,k3,k5,e⟩:=x.obj;obtain⟨mc,hc1,hc2⟩:=hs;have tD:PySem.W.typeIn (whole h) (.ref D)=O (.type "type"):=by unfold PySem.W.typeIn;dsimp only;rw[ZH,e];rfl
 have tf:PySem.W.typeIn (whole h) (.ref f)=O (.type "function"):=by unfold PySem.W.typeIn;dsimp only;rw[ZH,h2];exact J6 O h3
 refine⟨?_,?_,?_,?_⟩
 .unfold PySem.W.specialIn
  rw[tD];exact tf4 (K:=whole h)
 .unfold PySem.W.readsIn
  rw[RO hc1,hc2,tD,tf4,tf5];rfl
 .unfold PySem.W.findCls
  rw[tf1];dsimp only[Option.bind_some];rw[tf2];dsimp only[Option.bind_some];rw[tf3];dsimp only[Option.bind_some];have hfi:PySem.W.findIn (whole h) (.ref D) "__init__" = O (O (.ref f)):=by unfold PySem.W.findIn;dsimp only;rw[ZH,e];dsimp only;unfold PySem.W.alongIn PySem.W.ownIn;dsimp only;rw[ZH,e];dsimp only;rw[RO x.ns,h1]
  rw[hfi];dsimp only[Option.bind_some];rw[Qz (show ¬Builtin.heldUnderItsOwnName "__init__" (.ref f)=AX from λz=>by cases z),tf];rfl
 .unfold PySem.W.keepIn
  dsimp only;rw[ZH,h2];obtain⟨oc,od,dt,osl⟩:=o;have h4:dt=_:=h4;subst h4;rfl
end
section
variable{h:Heap}{mg:Str->A3}{p:Ud}{l:XL0}{i j:Nat}{c:Str×Option Nat}{p1 p2 p3 p4 p5 p6 p7 p8 p9 r1 r2 r3 r4 r5 r6 r7 r8 r9 q1 q2:Pos}{j1 j2:Nat}
structure Root(p:Ud)(h:Heap)(mg:Str->A3)(i:Nat)(D f:Ue)(fd:Uf):Prop where
 at':mg "DealError" = O (.ref D)
 ex:∃ND mD,XSt h "DealError" (O (Z3 (UX p i))) D ND VB mD/\mD "__init__" = O (.ref f)
 cf:Tt (whole h) D "__init__" f
 bd:Zf (whole h) fd ["self", "text"] []
 ok:∀(P:Ud)(w:World)(base:Heap),FnOk P w (whole h) mg base CX0 1 f fd ["self", "text"] (Wi (KC (whole h)))
theorem XSt.root{own:Option Stmt}{C N:Ue}{bm:A0}{mN:Str->A3}(x:XSt h "DealError" own C N bm mN):bm=VB:=by
 rcases x.up with ⟨_,rfl⟩|⟨z,_⟩
 .rfl
 .exact absurd AV z
theorem Yd(n:h.Ns mainGlobals mg)(Y:XYP p l h){D f:Ue}{fd:Uf}(R:Root p h mg i D f fd)(hc:c∈l):CK (whole h) mg c.1:=by
 obtain⟨C,N,bm,mN,x⟩:=Y.cl _ hc;obtain⟨ND,mD,xD,hf⟩:=R.ex;cases hz:c.2 with
 |none=>rw[hz]at x;exact⟨C,bm,by rw[n.eq_nsMap];exact x.ad,XSt.clsK n x xD (f:=f) hf⟩
 |some k=>rw[hz]at x;obtain⟨f',o,pm,cd,doc,h1,h2⟩:=x.init;exact⟨C,bm,by rw[n.eq_nsMap];exact x.ad,XSt.clsK n x xD (f:=f') h1⟩
theorem LC(n:h.Ns mainGlobals mg)(Y:XYP p l h){D f:Ue}{fd:Uf}(R:Root p h mg i D f fd){nm:Str}(hc:(nm,O j)∈l)(hf:K6 nm≠[]){ps:List Str}(P:Ud)(w:World)(base:Heap)
  (hbz:∀(kV doc pm:Ub)(an:qa)(cdv ct:Ub)(us:A0),us.length=ps.length->bindArgs (PySem.W.fnOf "__init__" (X8 nm) (Yp (Z3 (UX p j))) (K7 (Z3 (UX p j))) (Ki (Z3 (UX p j))) .none kV doc pm an cdv ct) ⟨us,[]⟩=pure (ps.zip us))
  (ok:∀{f':Ue}{fd':Uf},Fun (whole h) "__init__" (X8 nm) (Z3 (UX p j)) f' fd'->FnOk P w (whole h) mg base CX0 2 f' fd' ps (Ri (KC (whole h)) (K6 nm))):MkX P w (whole h) mg base nm 2:=by
 obtain⟨C,N,bm,mN,x⟩:=Y.cl _ hc;obtain⟨ND,mD,xD,hi⟩:=R.ex;obtain⟨f',fd',hf',FU⟩:=XSt.fun (st:=Z3 (UX p j)) x;have ck:=XSt.clsK n x xD (f:=f') hf';exact⟨C,bm,f',fd',_,_,by rw[n.eq_nsMap];exact x.ad,x.keep,ck,λM h' k=>(x.keeps (Wn k)).xcls (xD.keeps (Wn k)) hf',ok FU,FU.binds hbz,Dv ck hf⟩
end
theorem VS{cc:Bool}{q p:Ud}{loose:List Str}{mean:ExcName->A3}{mg mb:Str->A3}{h:Heap}{ix:A8}(P:Ud)(w:World)(base:Heap){ps:List Str}{k n:Nat}{F:AZ->Option XR}(T:Top q loose mean mg mb h)(e:recsOf q=Wc p ix)(i:Nat)(x:Str)(hi:ix.contains i=AX)(hn:Vp (UX p i)=O x)
  (ok:∀{f:Ue}{fd:Uf},Fun (whole h) x x (UX p i) f fd->FnOk P w (whole h) mg base (Zn cc P w) k f fd ps (spX (whole h) n F))
  (hb:∀(kV doc pm:Ub)(an:qa)(cdv ct:Ub)(us:A0),us.length=ps.length->bindArgs (PySem.W.fnOf x x (Yp (UX p i)) (K7 (UX p i)) (Ki (UX p i)) .none kV doc pm an cdv ct) ⟨us,[]⟩=pure (ps.zip us)):TH cc P w (whole h) mg base x k n F:=by
 obtain⟨f,fd,m,FU⟩:=VT T e i x hi hn;exact⟨f,fd,ps,m,FU.kp,FU.binds hb,ok FU⟩
theorem Ci{l:PySem.W.OpenLaw}{n k:Nat}{q:Ud}{loose:List Str}{XP:(Str->A3)->Heap->Prop}{YP:World->Heap->Prop}{d:DefRec}{F:AZ->A6}{x:Str}
  (hn:l.most=O n) (hn2:n<=Uh) (hdf:d.params.defaults=[]) (hr:Room k callerA)
  (hF:∀(w:World)(s₀:Uc)(mg mb:Str->A3)(fa:Ue)(h:Heap),PySem.W.Ground q loose [] XP w s₀ mg mb h->YP w h->mg d.name=O (.ref fa) ->
   ∃fd:Uf,(∀(s:Uc)(u:Ub),BindsTo s fd ⟨[u],[]⟩ [(x,u)])/\∀base:Heap,FnOk l.prog w (whole h) mg base CX0 k fa fd [x] (spD (whole h) 1 F))
  (hl:∀ns:A1,ns.length<=n->F [.list (ns.map int)]=O (.bool AX)) :
  PySem.W.WalkO q loose XP YP l.row.toRowW d [] (λf vs=>PySem.call f vs):=by
 refine Att.attach_call hn hdf λw s₀ s₁ mg mb fa o pm cd doc a vs ns G Y ho hd hcd hmg hobj hints hlen hg=>?_
 obtain⟨fd,hb,hF⟩:=hF w s₀ mg mb fa _ G Y hmg;exact DD (DG _) G.T.g G.T.b G.T.builtins G.T.nolimit hg hobj hints (Qt hlen hn2) hr (λbase _ _=>hF base) hb (λH hO hS=>L4 hS (hl ns hlen)) λH e s' z=>z
section
variable{α β:Type}{ρ ρ1 ρ2 ρ3 ρ':UB}{f:M D}{s t:SM}{Q:Out->Prop}{d:D}{ds fs:AZ}{nm x:Str}{o:Out}
theorem Xn{g:M AZ}(h1:g ρ=.ok ds ρ1)(h2:Xb nm ds=O fs):Xj nm g ρ=.ex ρ1 (exD nm fs):=by unfold Xj sB;rw[h1];dsimp only;rw[h2]
theorem Wr{f:M XR}{g:D->SM}(h1:f ρ=.ok (.val d) ρ1)(h2:g d ρ1=o):sX f g ρ=o:=by unfold sX;rw[h1];exact h2
theorem X7{f:M XR}{g:D->SM}(h1:f ρ=.ok (.exc d) ρ1):sX f g ρ=.ex ρ1 d:=by unfold sX;rw[h1]
theorem Z0{n:Nat}{F:AZ->Option XR}{g:M AZ}{xs:AZ}{r:XR}(h1:g ρ=.ok xs ρ1)(h2:xs.length=n)(h3:F xs=O r):Yn n F g ρ=.ok r ρ1:=by unfold Yn;exact Kh h1 (by rw[Qp h2];exact Zp h3)
theorem D3(h1:s ρ=.nx ρ1):VQ x s t ρ=.nx ρ1:=by unfold VQ;rw[h1]
theorem D2{c:String}{t:Bool}(h:f ρ=.ok d ρ1)(ht:Kb d c=t):UO (λd=>Up (Kb d c)) f ρ=.ok (Up t) ρ1:=by subst ht;exact KE (k:=λd=>Up (Kb d c)) h
theorem LB{c:String}{kvs:List (D×D)}(h:f ρ=.ok (.dict kvs) ρ1)(hc:(("dict" == c) || ("" == c))=AY:=by decide):UO (λd=>Up (Kb d c)) f ρ=.ok (Up AY) ρ1:=D2 h (nty hc)
theorem V2{c:String}{kvs:List (D×D)}(h:f ρ=.ok (.dict kvs) ρ1)(hc:(("dict" == c) || ("" == c))=AY:=by decide):Kf (Zh (UO (λd=>.bool (Kb d c)) f)) ρ=.ok AX ρ1:=ZF h (by rw[nty hc];rfl)
noncomputable def OutX(r:XR):Out->Prop
 |.rt d=>r=.val d
 |.nx _=>r=.val .none
 |.ex _ d=>r=.exc d/\Wu d=AX
 |_=>False
theorem Wq{N:List Str}{r:XR}(h0:KO N ds=ρ)(h:Ho s ρ (OutX r)):Zt N s ds=O r:=by
 subst h0;have h:=h.out;unfold Zt;cases z:s (KO N ds)with
 |rt d=>rw[z]at h;rw[show r=.val d from h]
 |nx ρ'=>rw[z]at h;rw[show r=.val .none from h]
 |ex ρ' d=>rw[z]at h;dsimp only;rw[if_pos h.2,h.1]
 |ro _=>rw[z]at h;exact h.elim
 |bk ρ'=>rw[z]at h;exact h.elim
 |ct ρ'=>rw[z]at h;exact h.elim
 |bad=>rw[z]at h;exact h.elim
noncomputable def fb(p:D->Bool):Nat->AZ->Option Nat
 |_,[]=>AW
 |k,x::r=>if p x=AX then fb p (k+1) r else O k
noncomputable def Lk:Out->Prop
 |.rt _=>True
 |.ex _ _=>True
 |_=>False
structure fbQ(p:D->Bool)(xs:AZ)(I:UB->Prop)(Q:Out->Prop)(x:D)(j:Nat)(o:Out):Prop where
 out:(p x=AX/\∃ρ2,o=.nx ρ2/\I ρ2)∨(p x=AY/\Lk o/\(fb p 0 xs=O j->Q o))
theorem Pd{p:D->Bool}{xs:AZ}{I:UB->Prop}{x:D}{j:Nat}(hp:p x=AX)(h:I ρ):fbQ p xs I Q x j (.nx ρ):=⟨.inl ⟨hp,ρ,rfl,h⟩⟩
theorem Pc{p:D->Bool}{xs:AZ}{I:UB->Prop}{x:D}{j:Nat}(hp:p x=AY)(h:fb p 0 xs=O j->Q (.ex ρ d)):fbQ p xs I Q x j (.ex ρ d):=⟨.inr ⟨hp,trivial,h⟩⟩
theorem O1{f:M AZ}{sg:D->UB->A7}{xs:AZ}(p:D->Bool)(I:UB->Prop)(h1:f ρ=.ok (Yb 0 xs) ρ1)(h0:I ρ1)
  (hst:∀x∈xs,∀(j:Nat) ρ,j<xs.length->I ρ->∃ρ1,sg (.tuple [.int j,x]) ρ=O ρ1/\Ho s ρ1 (fbQ p xs I Q x j))
  (hend:fb p 0 xs=AW->∀ρ,I ρ->Q (.nx ρ)):Ho (Ko f sg s) ρ Q:=by
 constructor;unfold Ko sB;rw[h1];dsimp only
 have key:∀(ys:AZ)(k:Nat)(ρ:UB),I ρ->(∀x∈ys,x∈xs)->k+ys.length<=xs.length->fb p k ys=fb p 0 xs->Q (YZ sg s (Yb k ys) ρ):=by
  intro ys;induction ys with
  |nil=>intro k ρ hi _ _ he;exact hend he.symm ρ hi
  |cons x r ih=>
   intro k ρ hi hm hl he;rw[QK]at hl;obtain⟨ρ2,e2,a1⟩:=hst x (hm x Qg) k ρ (by lia) hi;rw[Yb,YZ,e2];dsimp only;rw[fb]at he;rcases a1.out.out with ⟨hp,ρ3,e3,i3⟩|⟨hp,b1,b2⟩
   .rw[hp,Qp AV]at he
    rw[e3];exact ih (k+1) ρ3 i3 (λy hy=>hm y (Qj _ hy)) (by lia) he
   .rw[hp,Qz (by decide)]at he
    have b2:=b2 he.symm;cases z:s ρ2 with
    |rt d=>rw[z]at b2;exact b2
    |ex ρ' d=>rw[z]at b2;exact b2
    |nx ρ'=>rw[z]at b1;exact b1.elim
    |ro _=>rw[z]at b1;exact b1.elim
    |bk ρ'=>rw[z]at b1;exact b1.elim
    |ct ρ'=>rw[z]at b1;exact b1.elim
    |bad=>rw[z]at b1;exact b1.elim
 exact key xs 0 ρ1 h0 (λ_ h=>h) (by lia) AV
end
end DL
namespace L2
open PySem PySem.Spec PyProof.Rows
end L2
namespace DL
open PySem PySem.Spec L2
open PyProof.Rows hiding St
end DL
namespace DL
open PySem PySem.Spec L2 PySem.SeqAt PySem.AutoSeq1
open PyProof.Rows hiding St
end DL
namespace DL
open PySem PySem.Spec L2
open PyProof.Rows hiding St
end DL
namespace L2
open PySem PySem.Spec PyProof.Rows
end L2
namespace DL
open PySem PySem.Spec L2
open PyProof.Rows hiding St
end DL
namespace L2
open PySem PySem.Spec PyProof.Rows
end L2
namespace DL
open PySem PySem.Spec L2
open PyProof.Rows hiding St
noncomputable def spO(K:Frag)(n:Nat)(F:AZ->Option AZ):Sp:=λvs H Q _=>∃G ds r,vs.length=n/\Same G H/\Reps K G vs ds/\F ds=O r/\∀a ws G' H',Ext G H G' H'->H a=AW->G' a=AW->H' a=O (.lst ws)->Reps K G' ws r->Q (.ref a) H'
noncomputable def tSO(K:Frag)(B G0:Hp)(g:SM)(f:M AZ):TS:=λDn σ H=>∃G ρ,EOk K B G0 G H σ ρ/\match g ρ with
 |.nx ρ1=>(match f ρ1 with
  |.ok ds _=>∀a vs G' H',Ext G0 B G' H'->B a=AW->G' a=AW->H' a=O (.lst vs)->Reps K G' vs ds->Dn.rt (.ref a) H'
  |.bad=>False)
 |.ro ds=>∀a vs G' H',Ext G0 B G' H'->B a=AW->G' a=AW->H' a=O (.lst vs)->Reps K G' vs ds->Dn.rt (.ref a) H'
 |_=>False
section
variable{X:Cx}{B G0:Hp}{e:Ug}{pos:Pos}{es:A4}{st:Stmt}{sts:List Stmt}
theorem Hq{f:M AZ}(h:PE X e (tL X.K B G0 f)):PSs X [.Return (O e) pos] (tSO X.K B G0 sNx f):=Wb (WG (SV h)) λD σ H ⟨G,ρ,k,a⟩=>by
 refine⟨G,ρ,k,?_⟩;dsimp only[sNx]at a;cases z:f ρ with
 |bad=>rw[z]at a;exact a.elim
 |ok ds ρ'=>rw[z]at a;exact λad vs G' H' k' s' n=>a ad vs G' H' k'.exit n.b n.g n.h n.r
theorem GR{g h:SM}{f:M AZ}(h1:PS X st (tS X.K B G0 KX0 g))(h2:PSs X sts (tSO X.K B G0 h f)):PSs X (st::sts) (tSO X.K B G0 (UI g h) f):=Wb (WI h1 h2) λD σ H ⟨G,ρ,k,a⟩=>by
 refine⟨G,ρ,k,?_⟩;unfold UI at a;cases z:g ρ with
 |nx ρ1=>rw[z]at a;exact λσ' G' H' k' s'=>⟨G',ρ1,k',a⟩
 |rt d=>rw[z]at a;exact a.elim
 |ro ds=>rw[z]at a;exact a
 |bk ρ1=>rw[z]at a;exact a.elim
 |ct ρ1=>rw[z]at a;exact a.elim
 |ex ρ1 d=>rw[z]at a;exact a.elim
 |bad=>rw[z]at a;exact a.elim
noncomputable def YN(N:List Str)(g:SM)(f:M AZ)(ds:AZ):Option AZ:=match g (KO N ds)with
 |.nx ρ=>(match f ρ with
  |.ok r _=>O r
  |.bad=>AW)
 |.ro ds=>O ds
 |_=>AW
theorem okO{P:Ud}{w:World}{K:Frag}{mg:Str->A3}{base:Heap}{x qual:Str}{st:Stmt}{f:Ue}{fd:Uf}{N ps:List Str}{k n:Nat}{g:SM}{q:M AZ}(F:Fun K x qual st f fd)(S:Y5 N ps (Ki st))(hn:ps.length=n)
  (der:∀(cdv:Ub)(A:Around)(outer:List Env)(s:Uc)(H:Hp)(E:XK)(B G0:Hp),Room k (A.deeper (envOfC qual (Ki st) s.heap.objs.size f cdv)) ->
   PSs (Ks CX0 P w K mg base N qual (Ki st) f cdv A outer s H E).nox (K7 st) (tSO K B G0 g q)):FnOk P w K mg base CX0 (k+1) f fd ps (spO K n (YN N g q)):=by
 refine F.ok S (λvs H Q E h=>?_) (λcdv A outer s H vs Q E hr h=>?_)
 .obtain⟨_,_,_,hl,_⟩:=h
  rw[hl,hn]
 .obtain⟨G,ds,d,hl,sg,r,hF,qq⟩:=h
  refine⟨_,der cdv A outer s H E H G hr,G,KO N ds,Sd sg r,?_⟩;unfold YN at hF;cases z:g (KO N ds)with
  |nx ρ=>
   rw[z]at hF;dsimp only at hF⊢;cases z2:q ρ with
   |bad=>rw[z2]at hF;cases hF
   |ok d' ρ'=>rw[z2]at hF;cases hF;exact λa vs G' H' ex hb hg hh rr=>qq a vs G' H' ex hb hg hh rr
  |rt d'=>rw[z]at hF;cases hF
  |ro d'=>rw[z]at hF;cases hF;exact λa vs G' H' ex hb hg hh rr=>qq a vs G' H' ex hb hg hh rr
  |bk ρ=>rw[z]at hF;cases hF
  |ct ρ=>rw[z]at hF;cases hF
  |ex ρ d=>rw[z]at hF;cases hF
  |bad=>rw[z]at hF;cases hF
def Vf(P:Ud)(w:World)(K:Frag)(mg:Str->A3)(base:Heap)(x:Str)(k n:Nat)(F:AZ->Option AZ):Prop:=
 ∃(f:Ue)(fd:Uf)(ps:List Str),mg x=O (.ref f)/\PySem.W.keepIn K (.ref f)=AX/\Zf K fd ps []/\FnOk P w K mg base CX0 k f fd ps (spO K n F)
noncomputable def VL(n:Nat)(F:AZ->Option AZ)(g:M AZ):M AZ:=UN g λxs=>if xs.length=n then UM (F xs)else λ_=>.bad
theorem Ch{k kk n:Nat}{F:AZ->Option AZ}{g:M AZ}{x:Str}{p2:Pos}(d:Vf X.prog X.w X.K X.mg X.base x k n F)(hr:Room kk X.A)(hg:Gl X x)(ha:PA X (e::es) (tDs X.K B G0 g))(hk:k<=kk:=by decide)(hn:(e::es).length=n:=by rfl)
  (hdb:(x==("__debug__" : Str))=AY:=by decide) (he:Uj (e::es) X.env=(AY,eval e X.env)::Uj es X.env:=by rfl) (hpl:(backTo pos (Uj es X.env)).any (·.1)=AY:=by rfl) :
  PE X (.Call (.Name x p2) (e::es) [] pos) (tL X.K B G0 (VL n F g)):=by
 obtain⟨f,fd,ps,h1,h2,h3,h4⟩:=d;refine UY (Re h4 (hr.mono hk) hg h1 h2 h3 .nil Tu ha hdb he hpl) λσ H Q ⟨G,ρ,kk0,a⟩=>?_
 refine⟨G,ρ,kk0,?_⟩;unfold VL UN at a;cases z:g ρ with
 |bad=>rw[z]at a;exact a.elim
 |ok xs ρ1=>
  rw[z]at a;dsimp only at a⊢;intro vs G1 H1 k1 s1 r1;by_cases hl:xs.length=n
  .rw[Qp hl]at a
   unfold UM at a;cases zf:F xs with
   |none=>rw[zf]at a;exact a.elim
   |some r=>
    rw[zf]at a;dsimp only at a;refine⟨G1,xs,r,by rw[QR,r1.length];exact hl,k1.gh,by rw[QR];exact r1,zf,λad ws G' H' ex hh jj hH rr=>?_⟩;refine a ad ws G' H' (k1.ext ex) (s1.trans ex.g) ⟨?_,jj,hH,rr,λj es q w=>?_,λj pt d v fp q s r=>k1.freshD ex.h hh q s r⟩
    .cases q:B ad with
     |none=>rfl
     |some u=>have:=k1.bh ad u q;rw[hh]at this;cases this
    .obtain⟨b,us,g1,g2,g3,g4,g5⟩:=k1.own j es q
     rw[g1]at w;cases w;rw[hh]at g4;cases g4
  .rw[Qz hl]at a
   exact a.elim
end
theorem Hn{q p:Ud}{loose:List Str}{mean:ExcName->A3}{mg mb:Str->A3}{h:Heap}{ix:A8}(P:Ud)(w:World)(base:Heap){ps:List Str}{k n:Nat}{F:AZ->Option AZ}(T:PyProof.Rows.Top q loose mean mg mb h)(e:recsOf q=Wc p ix)(i:Nat)(x:Str)(hi:ix.contains i=AX)(hn:Vp (UX p i)=O x)
  (ok:∀{f:Ue}{fd:Uf},Fun (whole h) x x (UX p i) f fd->FnOk P w (whole h) mg base CX0 k f fd ps (spO (whole h) n F))
  (hb:∀(kV doc pm:Ub)(an:qa)(cdv ct:Ub)(us:A0),us.length=ps.length->bindArgs (PySem.W.fnOf x x (Yp (UX p i)) (K7 (UX p i)) (Ki (UX p i)) .none kV doc pm an cdv ct) ⟨us,[]⟩=pure (ps.zip us)):Vf P w (whole h) mg base x k n F:=by
 obtain⟨f,fd,m,FU⟩:=VT T e i x hi hn;exact⟨f,fd,ps,m,FU.kp,FU.binds hb,ok FU⟩
theorem GQ{n:Nat}{F:AZ->Option AZ}{g:M AZ}{ρ ρ1:UB}{xs r:AZ}(h1:g ρ=.ok xs ρ1)(h2:xs.length=n)(h3:F xs=O r):VL n F g ρ=.ok r ρ1:=by unfold VL UN;rw[h1];dsimp only;rw[Qp h2,h3];rfl
theorem Lj{N:List Str}{g:SM}{f:M AZ}{ds r:AZ}{ρ ρ1 ρ2:UB}(h0:KO N ds=ρ)(h1:g ρ=.nx ρ1)(h2:f ρ1=.ok r ρ2):YN N g f ds=O r:=by subst h0;unfold YN;rw[h1];dsimp only;rw[h2]
end DL
namespace L2
open PySem PySem.Spec PyProof.Rows
end L2
namespace DL
open PySem PySem.Spec L2
open PyProof.Rows hiding St
theorem EOk.lent{K:Frag}{B G0 G H:Hp}{σ:St}{ρ:UB}(k:EOk K B G0 G H σ ρ):EOk K H H H H σ (KR ρ) where
 bh:=.refl _
 gh:=.refl _
 g0:=.refl _
 np:=λ_ _ e n=>by rw[n]at e;cases e
 len:=by unfold KR;rw[Qd];exact k.len
 pub:=λi d e=>by
  rcases Nd e with e2|⟨ds,rfl,e2⟩|⟨p,e2⟩
  .exact k.tree (by unfold VU;rw[e2])
  .exact k.tree (by unfold VU;rw[e2])
  .exact k.tree (by unfold VU;rw[e2])
 own:=λi ds e=>(Vx e).elim
 sep:=λi j a ds es e=>(Vx e).elim
 dp:=.of (λ_ _ _ q=>NG q) λ_ _ q=>Vx q
theorem EOk.back{K:Frag}{B G0 G H H':Hp}{σ:St}{ρ:UB}(k:EOk K B G0 G H σ ρ)(e:Same H H'):EOk K B G0 G H' σ ρ:=k.ext ⟨e,.refl _,k.gh.trans e,λ_ _ _ n=>n⟩
noncomputable def X6(f:M Bool):M Bool:=λρ=>match f (KR ρ)with
 |.ok b _=>.ok b ρ
 |.bad=>.bad
section
variable{X:Cx}{B G0:Hp}{KX:XW}{e a b c tg iter:Ug}{pos:Pos}
theorem D1{f:M Bool}(h:∀B' G',PT X e (tBo X.K B' G' f)):PT X e (tBo X.K B G0 (X6 f)):=by
 have h':PT X e (λσ H Q=>∃B' G',tBo X.K B' G' f σ H Q):=λpins s σ H Q I ⟨B',G',q⟩=>h B' G' pins s σ H Q I q;refine ZK h' λσ H Q ⟨G,ρ,k,a⟩=>⟨H,H,H,KR ρ,k.lent,?_⟩;unfold X6 at a
 cases z:f (KR ρ)with
 |bad=>rw[z]at a;exact a.elim
 |ok t ρ'=>rw[z]at a;dsimp only at a⊢;exact λv G' H' k' s' r=>a v G H' (k.back k'.bh) (.refl _) r
end
theorem S8{f:M Bool}{ρ ρ':UB}{b:Bool}(h:f (KR ρ)=.ok b ρ'):X6 f ρ=.ok b ρ:=by unfold X6;rw[h]
end DL
namespace L2
open PySem PySem.Spec PyProof.Rows
end L2
namespace DL
open PySem PySem.Spec L2
open PyProof.Rows hiding St
section
variable{X:Cx}{B G0:Hp}{KX:XW}{e o a b c tg i:Ug}{pos p2:Pos}{es rest:A4}{te to ti:TE}
noncomputable def GP(te to ti:TE):TS:=λD σ H=>te σ H λv H1=>to σ H1 λx H2=>ti σ H2 λk H3=>∃l xs n,x=.ref l/\H3 l=O (.lst xs)/\k=.int n/\n<0 /\ -(xs.length:Int)<=n/\D.nx σ (upd H3 l (.lst (xs.set (n+xs.length).toNat v)))
theorem Cg(he:PE X e te)(ho:PE X o to)(hi:PE X i ti)(hs:swapsWith e (O (.Subscript o i p2)) pos.line X.env=pure AY:=by rfl):PS X (.Assign [.Subscript o i p2] e pos) (GP te to ti):=by
 intro pins s σ H D I h;refine wpAny_Assign_Subscript (thn (he pins s σ H _ I h) λv s1 ⟨x,H1,I1,r1,q1⟩=>thn (ho pins s1 σ H1 _ I1 q1) λov s2 ⟨y,H2,I2,r2,q2⟩=>thn (hi pins s2 σ H2 _ I2 q2) λiv s3 ⟨k,H3,I3,r3,q3⟩=>?_) hs;obtain⟨l,xs,n,rfl,hl,rfl,h0,h1,q⟩:=q3;cases r2;obtain⟨t,rfl⟩:=r3;obtain⟨z,its,m,r,hlen,ee⟩:=I3.lstM hl;have hzz:Uh<2 ^ 63:=by decide
 have jw:=r.length;refine PySem.W.ki_setBack (items:=its.toArray) (n:=m) ee h0 (by simp;lia) (by lia) ?_;have e1:(n+(its.toArray.size:Int)).toNat=(n+(xs.length:Int)).toNat:=by simp;lia
 rw[e1];refine⟨σ,_,I3.lset (t':=s3.toks) (its:=its) (its':=its.set (n+(xs.length:Int)).toNat v) (f:=(·.setIfInBounds (n+(xs.length:Int)).toNat v)) hl ee (by simp) (r.set r1 _) (by rw[List.length_set];exact z),q⟩
noncomputable def Tk(j:Nat)(g f:M D):SM:=sB f λd ρ1=>match ρ1[j]? with
 |some (O (.own _))=>sB g (λy ρ2=>match y with
  |.int k=>(match ρ2[j]? with
   |some (O (.own ds))=>if k<0 /\ -(ds.length:Int)<=k then .nx (ρ2.set j (O (.own (ds.set (k+ds.length).toNat d))))else .bad
   |_=>.bad)
  |_=>.bad) ρ1
 |_=>.bad
theorem GO{j:Nat}{f g:M D}(he:PE X e (tD X.K B G0 f))(ho:PE X o (Kd j))(hi:PE X i (tD X.K B G0 g))(hs:swapsWith e (O (.Subscript o i p2)) pos.line X.env=pure AY:=by rfl) :
  PS X (.Assign [.Subscript o i p2] e pos) (tS X.K B G0 KX (Tk j g f)):=
 Kj (Cg he ho hi hs) λD σ H q=>tS.bnd (R:=Rep X.K) q λv H1 G1 ρ1 d k r a=>by
  cases q0:ρ1[j]? with
  |none=>rw[q0]at a;exact a.elim
  |some o0=>
   cases o0 with
   |none=>rw[q0]at a;exact a.elim
   |some jE=>
    cases jE with
    |deep _ _=>rw[q0]at a;exact a.elim
    |pub d=>rw[q0]at a;exact a.elim
    |own qT=>
     rw[q0]at a;obtain⟨ad,vs0,h1,h2,h3,h4,h5⟩:=k.own j qT q0;refine⟨.ref ad,h1,G1,ρ1,k,?_⟩;dsimp only at a;unfold sB at a;cases z:g ρ1 with
     |bad=>rw[z]at a;exact a.elim
     |ok y ρ2=>
      rw[z]at a;dsimp only at a;intro kv G' H' k' s' r';cases y with
      |int n=>
       dsimp only at a;cases q:ρ2[j]? with
       |none=>rw[q]at a;exact a.elim
       |some oo=>
        cases oo with
        |none=>rw[q]at a;exact a.elim
        |some sl=>
         cases sl with
         |deep _ _=>rw[q]at a;exact a.elim
         |pub d=>rw[q]at a;exact a.elim
         |own ds=>
          rw[q]at a;dsimp only at a;split at a
          .rename_i hn
           obtain⟨kn,vs,g1,g2,g3,g4,g5⟩:=k'.own j ds q;rw[h1]at g1;cases g1;refine⟨ad,vs,n,rfl,g4,r'.int_inv,hn.1,by rw[g5.length];exact hn.2,?_⟩;rw[g5.length];exact a σ G' _ (k'.change q h1 (g5.set (r.mono s') _)) s'
          .exact a.elim
      |_=>exact a.elim
end
theorem GN{j:Nat}{f g:M D}{ρ ρ1 ρ2 ρ':UB}{d:D}{k:Int}{qT ds:AZ}(h1:f ρ=.ok d ρ1)(h0:ρ1[j]?=O (O (.own qT)))(h2:g ρ1=.ok (.int k) ρ2)(h3:ρ2[j]?=O (O (.own ds)))(h4:k<0 /\ -(ds.length:Int)<=k)(h5:ρ2.set j (O (.own (ds.set (k+ds.length).toNat d)))=ρ'):Tk j g f ρ=.nx ρ':=by unfold Tk sB;rw[h1];dsimp only;rw[h0];dsimp only;rw[h2];dsimp only;rw[h3];dsimp only;rw[Qp h4,h5]
end DL
namespace L2
open PySem PySem.Spec PyProof.Rows
end L2
namespace DL
open PySem PySem.Spec L2
open PyProof.Rows hiding St
theorem Pv{α:Type}(a:α):[a].Nodup:=by simp
section
variable{K:Frag}{B G0 G H:Hp}{σ:St}{ρ:UB}
structure NewT(K:Frag)(B G H:Hp)(σ:St)(ρ:UB)(pt:Pat)(v:V)(d:D)(fp:A5):Prop where
 r:RepO K G H pt v d fp
 nd:fp.Nodup
 b:∀a∈fp,B a=AW/\G a=AW
 f:∀a∈fp,∀(j:Nat) es,ρ[j]?=O (O (.own es))->σ[j]?≠O (O (.ref a))
 dp:∀a∈fp,∀(j:Nat) p d v fp',ρ[j]?=O (O (.deep p d))->σ[j]?=O (O v)->RepO K G H p v d fp'->a∉fp'
theorem EOk.setDeep{i:Nat}{pt:Pat}{v:V}{d:D}{fp:A5}(k:EOk K B G0 G H σ ρ)(n:NewT K B G H σ ρ pt v d fp)(hi:i<ρ.length):EOk K B G0 G H (σ.set i (O v)) (ρ.set i (O (.deep pt d))) where
 bh:=k.bh
 gh:=k.gh
 g0:=k.g0
 np:=k.np
 len:=by rw[QW,QW];exact k.len
 pub:=λj d' q=>by
  by_cases z:i=j
  .subst z;have:=Ku q;cases this
  .rw[Ql z]at q⊢
   exact k.pub j d' q
 own:=λj es q=>by
  by_cases z:i=j
  .subst z;have:=Ku q;cases this
  .rw[Ql z]at q⊢
   exact k.own j es q
 sep:=λj l c es fs q1 q2 s1 s2=>by
  have z1:i≠j:=λz=>by subst z;have:=Ku q1;cases this
  have z2:i≠l:=λz=>by subst z;have:=Ku q2;cases this
  rw[Ql z1]at q1 s1;rw[Ql z2]at q2 s2;exact k.sep j l c es fs q1 q2 s1 s2
 dp:=by
  obtain⟨ω,k1,k2⟩:=k.dp;have hs:i<σ.length:=by rw[←k.len];exact hi
  refine⟨λb=>if b∈fp then i else ω b,λj p d' q=>?_,λj es b q s=>?_⟩
  .by_cases z:i=j
   .subst z
    have:=Ku q;cases this;exact⟨v,fp,QJ hs,n.r,n.nd,λa m=>⟨(n.b a m).1,(n.b a m).2,Qp m⟩⟩
   .rw[Ql z]at q⊢
    obtain⟨v',fp',s,r,nn,w⟩:=k1 j p d' q;refine⟨v',fp',s,r,nn,λb m=>⟨(w b m).1,(w b m).2.1,?_⟩⟩;dsimp only;rw[Qz (λz=>n.dp b z j p d' v' fp' q s r m)];exact(w b m).2.2
  .by_cases z:i=j
   .subst z;have:=Ku q;cases this
   .rw[Ql z]at q s
    dsimp only;rw[Qz (λz=>n.f b z j es q s)];exact k2 j es b q s
theorem EOk.newT{G' H':Hp}{pt:Pat}{v:V}{d:D}{fp:A5}(k1:EOk K B G0 G H σ ρ)(sh:Same H H')(r:RepO K G' H' pt v d fp)(nd:fp.Nodup)(fr:∀a∈fp,H a=AW/\G' a=AW):NewT K B G' H' σ ρ pt v d fp where
 r:=r
 nd:=nd
 b:=λa m=>⟨k1.bh.free (fr a m).1,(fr a m).2⟩
 f:=λa m j es q w=>by obtain⟨b,us,g1,g2,g3,g4,g5⟩:=k1.own j es q;rw[g1]at w;cases w;rw[(fr a m).1]at g4;cases g4
 dp:=λa m j p d v fp' q s r=>k1.freshD sh (fr a m).1 q s r
theorem RepOl.leaf:∀{vs:List V}{ds:AZ},Reps K G vs ds->RepOl K G H .leaf vs ds []
 |_,_,.nil=>.nil
 |_,_,.cons h t=>.cons (f1:=[]) (f2:=[]) (.leaf h) (RepOl.leaf t)
theorem RepOl.append{p:Pat}:∀{vs ws:List V}{ds es:AZ}{f1 f2:A5},RepOl K G H p vs ds f1->RepOl K G H p ws es f2->RepOl K G H p (vs++ws) (ds++es) (f1++f2)
 |_,_,_,_,_,_,.nil,s=>s
 |_,_,_,_,_,_,.cons r t,s=>by rw[Ji];exact .cons r (RepOl.append t s)
theorem RepOl.length{p:Pat}:∀{vs:List V}{ds:AZ}{fp:A5},RepOl K G H p vs ds fp->vs.length=ds.length
 |_,_,_,.nil=>rfl
 |_,_,_,.cons _ t=>by rw[QK,QK,RepOl.length t]
noncomputable def ZT(ρ:UB)(i:Nat):Option (Pat×D):=match ρ[i]? with
 |some (O (.own ds))=>O (.lst .leaf,.list ds)
 |some (O (.deep p d))=>O (p,d)
 |_=>AW
theorem EOk.slots(k:EOk K B G0 G H σ ρ):∃ω:Ue->Nat,∀(i:Nat) p d,ZT ρ i=O (p,d)->∃v fp,σ[i]?=O (O v)/\RepO K G H p v d fp/\fp.Nodup/\∀a∈fp,B a=AW/\G a=AW/\ω a=i:=by
 obtain⟨ω,k1,k2⟩:=k.dp;refine⟨ω,λi p d h=>?_⟩;unfold ZT at h;split at h
 .rename_i ds q
  cases h;obtain⟨a,vs,h1,h2,h3,h4,h5⟩:=k.own i ds q;refine⟨.ref a,[a],h1,.lst h4 (.leaf h5),Pv a,λb m=>?_⟩;rw[QL.mp m];exact⟨h2,h3,k2 i ds a q h1⟩
 .rename_i p' d' q
  cases h;exact k1 i p d q
 .cases h
theorem EOk.mutD{j:Nat}{p:Pat}{d d':D}{v:V}{fp fp':A5}{a:Ue}{o:HO}(k:EOk K B G0 G H σ ρ)(hd:ρ[j]?=O (O (.deep p d)))(hv:σ[j]?=O (O v))(r:RepO K G H p v d fp)(ha:a∈fp)
  (r':RepO K G (upd H a o) p v d' fp') (qt:fp'.Nodup) (sub:∀b∈fp',b∈fp):EOk K B G0 G (upd H a o) σ (ρ.set j (O (.deep p d'))):=by
 obtain⟨ω,k1,k2⟩:=k.dp;obtain⟨v0,fp0,s0,r0,n0,w0⟩:=k1 j p d hd;rw[hv]at s0;cases s0;have e0:=r0.uniq (.refl _) r;subst e0;obtain⟨hb,hg,hw⟩:=w0 a ha;obtain⟨ws,hl⟩:=r.isl a ha;have nt:∀vs,H a≠O (.tup vs):=λvs z=>by rw[hl]at z;cases ws<;>cases z
 have jy:j<ρ.length:=(Qr.mp hd).1;have nz:∀{m:Nat}{s:Sl},j≠m->(ρ.set j (O (.deep p d')))[m]?=O (O s)->ρ[m]?=O (O s):=λ{m s} z q=>by rw[Ql z]at q;exact q
 refine⟨λb u e=>?_,λb u e=>?_,k.g0,k.np,by rw[QW];exact k.len,λm dm e=>?_,λm es e=>?_,λm l c es fs q1 q2 s1 s2=>?_,ω,λm pm dm e=>?_,λm es b e s=>?_⟩
 .rw[UW (ZE e hb)];exact k.bh b u e
 .rw[UW (ZE e hg)];exact k.gh b u e
 .by_cases z:j=m
  .subst z;have:=Ku e;cases this
  .exact k.pub m dm (nz z e)
 .by_cases z:j=m
  .subst z;have:=Ku e;cases this
  .have e:=nz z e
   obtain⟨c,us,g1,g2,g3,g4,g5⟩:=k.own m es e;have zc:c≠a:=λw=>by subst w;exact z (hw.symm.trans (k2 m es c e g1))
   exact⟨c,us,g1,g2,g3,by rw[UW zc];exact g4,g5⟩
 .have z1:j≠m:=λz=>by subst z;have:=Ku q1;cases this
  have z2:j≠l:=λz=>by subst z;have:=Ku q2;cases this
  exact k.sep m l c es fs (nz z1 q1) (nz z2 q2) s1 s2
 .by_cases z:j=m
  .subst z
   have:=Ku e;cases this;exact⟨v,fp',hv,r',qt,λb mb=>w0 b (sub b mb)⟩
  .obtain⟨vm,fm,sm,rm,nm,wm⟩:=k1 m pm dm (nz z e)
   exact⟨vm,fm,sm,rm.upd nt (λmm=>z (hw.symm.trans (wm a mm).2.2)),nm,wm⟩
 .have z:j≠m:=λz=>by subst z;have:=Ku e;cases this
  exact k2 m es b (nz z e) s
end
noncomputable def tT(K:Frag)(B G0:Hp)(pt:Pat)(f:M D):TE:=λσ H Q=>∃G ρ,EOk K B G0 G H σ ρ/\match f ρ with
 |.ok d ρ'=>∀v fp G' H',EOk K B G0 G' H' σ ρ'->Same G G'->NewT K B G' H' σ ρ' pt v d fp->Q v H'
 |.bad=>False
noncomputable def Vm(i:Nat)(pt:Pat)(f:M D):SM:=sB f λd ρ=>if i<ρ.length then .nx (ρ.set i (O (.deep pt d)))else .bad
noncomputable def spT(K:Frag)(n:Nat)(pt:Pat)(F:AZ->A6):Sp:=λvs H Q _=>∃G ds d,vs.length=n/\Same G H/\Reps K G vs ds/\F ds=O d/\∀v fp G' H',Ext G H G' H'->RepO K G' H' pt v d fp->fp.Nodup->(∀a∈fp,H a=AW/\G' a=AW)->Q v H'
noncomputable def tST(K:Frag)(B G0:Hp)(pt:Pat)(g:SM)(f:M D):TS:=λDn σ H=>∃G ρ,EOk K B G0 G H σ ρ/\match g ρ with
 |.nx ρ1=>(match f ρ1 with
  |.ok d _=>∀v fp G' H',Ext G0 B G' H'->RepO K G' H' pt v d fp->fp.Nodup->(∀a∈fp,B a=AW/\G' a=AW)->Dn.rt v H'
  |.bad=>False)
 |_=>False
noncomputable def Wp(N:List Str)(g:SM)(f:M D)(ds:AZ):A6:=match g (KO N ds)with
 |.nx ρ=>(match f ρ with
  |.ok r _=>O r
  |.bad=>AW)
 |_=>AW
def DefT(P:Ud)(w:World)(K:Frag)(mg:Str->A3)(base:Heap)(x:Str)(k n:Nat)(pt:Pat)(F:AZ->A6):Prop:=
 ∃(f:Ue)(fd:Uf)(ps:List Str),mg x=O (.ref f)/\PySem.W.keepIn K (.ref f)=AX/\Zf K fd ps []/\FnOk P w K mg base CX0 k f fd ps (spT K n pt F)
section
variable{X:Cx}{B G0:Hp}{KX:XW}{e o a b c:Ug}{pos:Pos}{es:A4}{st:Stmt}{sts:List Stmt}{pt:Pat}
theorem GM{i:Nat}{x:Str}{f:M D}{p2:Pos}(hN:X.N.Nodup)(hi:X.N[i]?=O x)(hx:Loc X.env.scope x)(he:PE X e (tT X.K B G0 pt f))(hs:swapsWith e (O (.Name x p2)) pos.line X.env=pure AY:=by rfl)
  (hf:X.fn x=AX∨X.env.scope.names.lookup x=O .local:=by first|exact .inl rfl|exact .inr rfl|assumption):PS X (.Assign [.Name x p2] e pos) (tS X.K B G0 KX (Vm i pt f)):=
 Kj (SU hN hi hx he hs hf) λD σ H ⟨G,ρ,k,a⟩=>by
  refine⟨G,ρ,k,?_⟩;unfold Vm sB at a;cases z:f ρ with
  |bad=>rw[z]at a;exact a.elim
  |ok ds ρ1=>
   rw[z]at a;intro v fp G' H' k' s' n;dsimp only at a;split at a
   .rename_i hl
    exact a _ G' H' (k'.setDeep n hl) s'
   .exact a.elim
theorem NewL.tree{K:Frag}{G H:Hp}{σ:St}{ρ:UB}{ad:Ue}{vs:List V}{ds:AZ}(n:NewL K B G H σ ρ ad vs ds){p:Pat}(r:RepOl K G H p vs ds []):NewT K B G H σ ρ (.lst p) (.ref ad) (.list ds) [ad] where
 r:=.lst n.h r
 nd:=Pv ad
 b:=λb m=>by rw[QL.mp m];exact⟨n.b,n.g⟩
 f:=λb m=>by rw[QL.mp m];exact n.f
 dp:=λb m=>by rw[QL.mp m];exact n.dp
theorem GL{f:M AZ}(h:PE X e (tL X.K B G0 f)):PE X e (tT X.K B G0 (.lst .leaf) (UO Uo f)):=UY h λσ H Q ⟨G,ρ,k,a⟩=>by
 refine⟨G,ρ,k,?_⟩;unfold UO UN at a;cases z:f ρ with
 |bad=>rw[z]at a;exact a.elim
 |ok ds ρ1=>rw[z]at a;intro ad vs G' H' k' s' n;exact a _ _ G' H' k' s' (n.tree (.leaf n.r))
theorem Hm{f:M D}(h:PE X e (tT X.K B G0 pt f)):PSs X [.Return (O e) pos] (tST X.K B G0 pt sNx f):=Wb (WG (SV h)) λD σ H ⟨G,ρ,k,a⟩=>by
 refine⟨G,ρ,k,?_⟩;dsimp only[sNx]at a;cases z:f ρ with
 |bad=>rw[z]at a;exact a.elim
 |ok ds ρ'=>rw[z]at a;exact λv fp G' H' k' s' n=>a v fp G' H' k'.exit n.r n.nd n.b
theorem GK{g h:SM}{f:M D}(h1:PS X st (tS X.K B G0 KX0 g))(h2:PSs X sts (tST X.K B G0 pt h f)):PSs X (st::sts) (tST X.K B G0 pt (UI g h) f):=Wb (WI h1 h2) λD σ H ⟨G,ρ,k,a⟩=>by
 refine⟨G,ρ,k,?_⟩;unfold UI at a;cases z:g ρ with
 |nx ρ1=>rw[z]at a;exact λσ' G' H' k' s'=>⟨G',ρ1,k',a⟩
 |rt d=>rw[z]at a;exact a.elim
 |ro ds=>rw[z]at a;exact a.elim
 |bk ρ1=>rw[z]at a;exact a.elim
 |ct ρ1=>rw[z]at a;exact a.elim
 |ex ρ1 d=>rw[z]at a;exact a.elim
 |bad=>rw[z]at a;exact a.elim
theorem okT{P:Ud}{w:World}{K:Frag}{mg:Str->A3}{base:Heap}{x qual:Str}{st:Stmt}{f:Ue}{fd:Uf}{N ps:List Str}{k n:Nat}{g:SM}{q:M D}(F:Fun K x qual st f fd)(S:Y5 N ps (Ki st))(hn:ps.length=n)
  (der:∀(cdv:Ub)(A:Around)(outer:List Env)(s:Uc)(H:Hp)(E:XK)(B G0:Hp),Room k (A.deeper (envOfC qual (Ki st) s.heap.objs.size f cdv)) ->
   PSs (Ks CX0 P w K mg base N qual (Ki st) f cdv A outer s H E).nox (K7 st) (tST K B G0 pt g q)):FnOk P w K mg base CX0 (k+1) f fd ps (spT K n pt (Wp N g q)):=by
 refine F.ok S (λvs H Q E h=>?_) (λcdv A outer s H vs Q E hr h=>?_)
 .obtain⟨_,_,_,hl,_⟩:=h
  rw[hl,hn]
 .obtain⟨G,ds,d,hl,sg,r,hF,qq⟩:=h
  refine⟨_,der cdv A outer s H E H G hr,G,KO N ds,Sd sg r,?_⟩;unfold Wp at hF;cases z:g (KO N ds)with
  |nx ρ=>
   rw[z]at hF;dsimp only at hF⊢;cases z2:q ρ with
   |bad=>rw[z2]at hF;cases hF
   |ok d' ρ'=>rw[z2]at hF;cases hF;exact λv fp G' H' ex rr nd fr=>qq v fp G' H' ex rr nd fr
  |rt d'=>rw[z]at hF;cases hF
  |ro ds=>rw[z]at hF;cases hF
  |bk ρ=>rw[z]at hF;cases hF
  |ct ρ=>rw[z]at hF;cases hF
  |ex ρ d=>rw[z]at hF;cases hF
  |bad=>rw[z]at hF;cases hF
theorem Da{k kk n:Nat}{F:AZ->A6}{g:M AZ}{x:Str}{p2:Pos}(d:DefT X.prog X.w X.K X.mg X.base x k n pt F)(hr:Room kk X.A)(hg:Gl X x)(ha:PA X (e::es) (tDs X.K B G0 g))(hk:k<=kk:=by decide)(hn:(e::es).length=n:=by rfl)
  (hdb:(x==("__debug__" : Str))=AY:=by decide) (he:Uj (e::es) X.env=(AY,eval e X.env)::Uj es X.env:=by rfl) (hpl:(backTo pos (Uj es X.env)).any (·.1)=AY:=by rfl) :
  PE X (.Call (.Name x p2) (e::es) [] pos) (tT X.K B G0 pt (UT n F g)):=by
 obtain⟨f,fd,ps,h1,h2,h3,h4⟩:=d;refine UY (Re h4 (hr.mono hk) hg h1 h2 h3 .nil Tu ha hdb he hpl) λσ H Q ⟨G,ρ,kk0,a⟩=>?_
 refine⟨G,ρ,kk0,?_⟩;unfold UT UN at a;cases z:g ρ with
 |bad=>rw[z]at a;exact a.elim
 |ok xs ρ1=>
  rw[z]at a;dsimp only at a⊢;intro vs G1 H1 k1 s1 r1;by_cases hl:xs.length=n
  .rw[Qp hl]at a
   unfold UM at a;cases zf:F xs with
   |none=>rw[zf]at a;exact a.elim
   |some r=>rw[zf]at a;dsimp only at a;refine⟨G1,xs,r,by rw[QR,r1.length];exact hl,k1.gh,by rw[QR];exact r1,zf,λv fp G' H' ex rr nd fr=>?_⟩;exact a v fp G' H' (k1.ext ex) (s1.trans ex.g) (k1.newT ex.h rr nd fr)
  .rw[Qz hl]at a
   exact a.elim
end
section
variable{K:Frag}{B G0 G H:Hp}{σ:St}{ρ:UB}
inductive MOp where
 |rev|clr|app (d:D)|set (k:Nat) (d:D)
noncomputable def MOp.dOf:MOp->Pat->AZ->Option AZ
 |.rev,_,ds=>O ds.reverse
 |.clr,_,_=>O []
 |.app d,.leaf,ds=>if ds.length<1000000 then O (ds++[d])else AW
 |.set k d,.leaf,ds=>if k<ds.length then O (ds.set k d)else AW
 |_,_,_=>AW
noncomputable def MOp.vOf:MOp->V->List V->List V
 |.rev,_,vs=>vs.reverse
 |.clr,_,_=>[]
 |.app _,u,vs=>vs++[u]
 |.set k _,u,vs=>vs.set k u
noncomputable def MOp.arg(K:Frag)(G:Hp):MOp->V->Prop
 |.app d,u=>Rep K G u d
 |.set _ d,u=>Rep K G u d
 |_,_=>True
theorem MOp.app_inv{d:D}{p:Pat}{ds ds':AZ}(e:(MOp.app d).dOf p ds=O ds'):p=.leaf/\ds.length<1000000/\ds'=ds++[d]:=by
 cases p with
 |leaf=>
  have e:(if ds.length<1000000 then O (ds++[d])else AW)=O ds':=e;split at e
  .rename_i h;exact⟨rfl,h,(Je e).symm⟩
  .cases e
 |lst _=>cases e
 |tup _=>cases e
 |dic=>cases e
theorem MOp.set_inv{d:D}{k:Nat}{p:Pat}{ds ds':AZ}(e:(MOp.set k d).dOf p ds=O ds'):p=.leaf/\k<ds.length/\ds'=ds.set k d:=by
 cases p with
 |leaf=>
  have e:(if k<ds.length then O (ds.set k d)else AW)=O ds':=e;split at e
  .rename_i h;exact⟨rfl,h,(Je e).symm⟩
  .cases e
 |lst _=>cases e
 |tup _=>cases e
 |dic=>cases e
theorem RepOl.leaf_inv:∀{vs:List V}{ds:AZ}{fp:A5},RepOl K G H .leaf vs ds fp->Reps K G vs ds/\fp=[]
 |_,_,_,.nil=>⟨.nil,rfl⟩
 |_,_,_,.cons (.leaf r) t=>by obtain⟨r2,e⟩:=RepOl.leaf_inv t;subst e;exact⟨.cons r r2,rfl⟩
theorem RepOl.reverse{p:Pat}:∀{vs:List V}{ds:AZ}{fp:A5},RepOl K G H p vs ds fp->∃fp',RepOl K G H p vs.reverse ds.reverse fp'/\fp'.Perm fp
 |_,_,_,.nil=>⟨[],.nil,.refl _⟩
 |_,_,_,.cons (f1:=f1) (f2:=f2) r t=>by obtain⟨f,r2,e⟩:=RepOl.reverse t;refine⟨f++(f1++[]),by rw[JL,JL];exact r2.append (.cons r .nil),?_⟩;rw[QR];exact(e.append_right f1).trans List.perm_append_comm
theorem MOp.ok{op:MOp}{p:Pat}{vs:List V}{ds ds':AZ}{fp:A5}{u:V}(r:RepOl K G H p vs ds fp)(e:op.dOf p ds=O ds')(ha:op.arg K G u):∃fp',RepOl K G H p (op.vOf u vs) ds' fp'/\(∀b∈fp',b∈fp)/\(fp.Nodup->fp'.Nodup):=by
 cases op with
 |rev=>cases e;obtain⟨fp',r2,pm⟩:=r.reverse;exact⟨fp',r2,λb m=>pm.mem_iff.mp m,λn=>pm.nodup_iff.mpr n⟩
 |clr=>cases e;exact⟨[],.nil,(λb m=>by simp at m),λ_=>List.nodup_nil⟩
 |app d=>obtain⟨rfl,_,rfl⟩:=MOp.app_inv e;obtain⟨r2,rfl⟩:=r.leaf_inv;exact⟨[],.leaf (r2.append (.cons ha .nil)),λb m=>m,λn=>n⟩
 |set k d=>obtain⟨rfl,_,rfl⟩:=MOp.set_inv e;obtain⟨r2,rfl⟩:=r.leaf_inv;exact⟨[],.leaf (r2.set ha k),λb m=>m,λn=>n⟩
noncomputable def ZG(op:MOp):A8->Pat->D->A6
 |[],.lst p,.list ds=>(op.dOf p ds).map .list
 |k::r,.lst p,.list ds=>(ds[k]?).bind λd=>(ZG op r p d).map λd'=>.list (ds.set k d')
 |k::r,.tup ps,.tuple ds=>(ps[k]?).bind λp=>(ds[k]?).bind λd=>(ZG op r p d).map λd'=>.tuple (ds.set k d')
 |_,_,_=>AW
noncomputable def ZS(H:Hp):A8->V->Option V
 |[],v=>O v
 |k::r,.ref a=>match H a with
  |some (.lst vs)=>(vs[k]?).bind (ZS H r)
  |some (.tup vs)=>(vs[k]?).bind (ZS H r)
  |_=>AW
 |_::_,_=>AW
theorem RepOl.at{p:Pat}:∀{vs:List V}{ds:AZ}{fp:A5}{k:Nat}{d:D},RepOl K G H p vs ds fp->ds[k]?=O d->fp.Nodup->∃v f,vs[k]?=O v/\RepO K G H p v d f/\f.Nodup/\(∀b∈f,b∈fp) /\
  ∀a∈f,(∀ws,H a≠O (.tup ws))->∀o d' f',RepO K G (L2.upd H a o) p v d' f'->f'.Nodup->(∀b∈f',b∈f)->∃fp',RepOl K G (L2.upd H a o) p vs (ds.set k d') fp'/\fp'.Nodup/\∀b∈fp',b∈fp
 |_,_,_,_,_,.nil,e,_=>by cases e
 |_,_,_,0,_,.cons (f1:=f1) (f2:=f2) r t,e,n=>by
  cases e;obtain⟨n1,n2,nn⟩:=QI.mp n;refine⟨_,f1,rfl,r,n1,λb m=>Qu _ m,λa m nt o d' f' r' qt sub=>⟨f'++f2,.cons r' (t.upd nt (λm2=>nn a m a m2 AV)),QI.mpr ⟨qt,n2,λx hx y hy=>nn x (sub x hx) y hy⟩,λb m=>?_⟩⟩;rcases QE.mp m with m|m
  .exact Qu _ (sub b m)
  .exact Qo _ m
 |_,_,_,k+1,d,.cons (f1:=f1) (f2:=f2) r t,e,n=>by
  obtain⟨n1,n2,nn⟩:=QI.mp n;obtain⟨v,f,h1,h2,h3,h4,h5⟩:=RepOl.at (k:=k) (d:=d) t (by simpa using e) n2;refine⟨v,f,by simpa using h1,h2,h3,λb m=>List.mem_append_right _ (h4 b m),λa m nt o d' f' r' qt sub=>?_⟩;obtain⟨fp',g1,g2,g3⟩:=h5 a m nt o d' f' r' qt sub;refine⟨f1++fp',.cons (r.upd nt (λm2=>nn a m2 a (h4 a m) AV)) g1,QI.mpr ⟨n1,g2,λx hx y hy=>nn x hx y (g3 y hy)⟩,λb m=>?_⟩;rcases QE.mp m with m|m
  .exact Qu _ m
  .exact Qo _ (g3 b m)
theorem RepOs.at:∀{ps:List Pat}{vs:List V}{ds:AZ}{fp:A5}{k:Nat}{p:Pat}{d:D},RepOs K G H ps vs ds fp->ps[k]?=O p->ds[k]?=O d->fp.Nodup->∃v f,vs[k]?=O v/\RepO K G H p v d f/\f.Nodup/\(∀b∈f,b∈fp) /\
  ∀a∈f,(∀ws,H a≠O (.tup ws))->∀o d' f',RepO K G (L2.upd H a o) p v d' f'->f'.Nodup->(∀b∈f',b∈f)->∃fp',RepOs K G (L2.upd H a o) ps vs (ds.set k d') fp'/\fp'.Nodup/\∀b∈fp',b∈fp
 |_,_,_,_,_,_,_,.nil,_,e,_=>by cases e
 |_,_,_,_,0,_,_,.cons (f1:=f1) (f2:=f2) r t,e0,e,n=>by
  cases e;cases e0;obtain⟨n1,n2,nn⟩:=QI.mp n;refine⟨_,f1,rfl,r,n1,λb m=>Qu _ m,λa m nt o d' f' r' qt sub=>⟨f'++f2,.cons r' (t.upd nt (λm2=>nn a m a m2 AV)),QI.mpr ⟨qt,n2,λx hx y hy=>nn x (sub x hx) y hy⟩,λb m=>?_⟩⟩;rcases QE.mp m with m|m
  .exact Qu _ (sub b m)
  .exact Qo _ m
 |_,_,_,_,k+1,p,d,.cons (f1:=f1) (f2:=f2) r t,e0,e,n=>by
  obtain⟨n1,n2,nn⟩:=QI.mp n;obtain⟨v,f,h1,h2,h3,h4,h5⟩:=RepOs.at (k:=k) (p:=p) (d:=d) t (by simpa using e0) (by simpa using e) n2;refine⟨v,f,by simpa using h1,h2,h3,λb m=>List.mem_append_right _ (h4 b m),λa m nt o d' f' r' qt sub=>?_⟩;obtain⟨fp',g1,g2,g3⟩:=h5 a m nt o d' f' r' qt sub;refine⟨f1++fp',.cons (r.upd nt (λm2=>nn a m2 a (h4 a m) AV)) g1,QI.mpr ⟨n1,g2,λx hx y hy=>nn x hx y (g3 y hy)⟩,λb m=>?_⟩;rcases QE.mp m with m|m
  .exact Qu _ m
  .exact Qo _ (g3 b m)
theorem RepO.mut{op:MOp}{u:V}(ha:op.arg K G u):∀(path:A8){p:Pat}{v:V}{d d':D}{fp:A5},RepO K G H p v d fp->fp.Nodup->ZG op path p d=O d'->∃a vs,ZS H path v=O (.ref a)/\a∈fp/\H a=O (.lst vs) /\
  (∃q ds ds',vs.length=ds.length/\op.dOf q ds=O ds')/\∃fp',RepO K G (L2.upd H a (.lst (op.vOf u vs))) p v d' fp'/\fp'.Nodup/\∀b∈fp',b∈fp
 |[],p,v,d,d',fp,r,n,e=>by
  cases r with
  |leaf r=>cases e
  |tup h r=>cases e
  |dic _ _ h r=>cases e
  |lst h r=>
   rename_i p a vs ds fp;unfold ZG at e;cases z:op.dOf p ds with
   |none=>rw[z]at e;cases e
   |some ds'=>
   rw[z]at e;cases e;obtain⟨na,nf⟩:=Jf.mp n;obtain⟨fp',r',sub,nn⟩:=MOp.ok r z ha;refine⟨a,vs,rfl,Qg,h,⟨p,ds,ds',r.length,z⟩,a::fp',.lst U7 (r'.upd (λws y=>by rw[h]at y;cases y) (λm=>na (sub a m))),Jf.mpr ⟨λm=>na (sub a m),nn nf⟩,λb m=>?_⟩;rcases QM.mp m with rfl|m
   .exact Qg
   .exact Qj _ (sub b m)
 |k::path,p,v,d,d',fp,r,n,e=>by
  cases r with
  |leaf r=>cases e
  |dic _ _ h r=>cases e
  |lst h r=>
   rename_i p a0 vs ds fp;unfold ZG at e;cases z:ds[k]? with
   |none=>rw[z]at e;cases e
   |some d0=>
   rw[z]at e;dsimp only[Option.bind_some]at e;cases z2:ZG op path p d0 with
   |none=>rw[z2]at e;cases e
   |some d1=>
   rw[z2]at e;cases e;obtain⟨na,nf⟩:=Jf.mp n;obtain⟨v0,f,h1,h2,h3,h4,h5⟩:=r.at z nf;obtain⟨a,ws,g1,g2,g3,g4,f',g5,g6,g7⟩:=RepO.mut ha path h2 h3 z2;have nt:∀us,H a≠O (.tup us):=λus y=>by rw[g3]at y;cases y
   obtain⟨fp',k1,k2,k3⟩:=h5 a g2 nt _ _ _ g5 g6 g7;have hne:a0≠a:=λy=>by subst y;exact na (h4 a0 g2)
   refine⟨a,ws,?_,Qj _ (h4 a g2),g3,g4,a0::fp',.lst (by rw[UW hne];exact h) k1,Jf.mpr ⟨λm=>na (k3 a0 m),k2⟩,λb m=>?_⟩
   .unfold ZS
    rw[h];dsimp only;rw[h1];exact g1
   .rcases QM.mp m with rfl|m
    .exact Qg
    .exact Qj _ (k3 b m)
  |tup h r=>
   rename_i ps a0 vs ds;unfold ZG at e;cases zp:ps[k]? with
   |none=>rw[zp]at e;cases e
   |some p0=>
   rw[zp]at e;dsimp only[Option.bind_some]at e;cases z:ds[k]? with
   |none=>rw[z]at e;cases e
   |some d0=>
   rw[z]at e;dsimp only[Option.bind_some]at e;cases z2:ZG op path p0 d0 with
   |none=>rw[z2]at e;cases e
   |some d1=>
   rw[z2]at e;cases e;obtain⟨v0,f,h1,h2,h3,h4,h5⟩:=r.at zp z n;obtain⟨a,ws,g1,g2,g3,g4,f',g5,g6,g7⟩:=RepO.mut ha path h2 h3 z2;have nt:∀us,H a≠O (.tup us):=λus y=>by rw[g3]at y;cases y
   obtain⟨fp',k1,k2,k3⟩:=h5 a g2 nt _ _ _ g5 g6 g7;have hne:a0≠a:=λy=>by subst y;rw[h]at g3;cases g3
   refine⟨a,ws,?_,h4 a g2,g3,g4,fp',.tup (by rw[UW hne];exact h) k1,k2,k3⟩;unfold ZS;rw[h];dsimp only;rw[h1];exact g1
noncomputable def Ym(K:Frag):A8->V->Hp->VK->Prop
 |[],v,H,Q=>Q v H
 |k::r,v,H,Q=>rIx K v (.int k) H λu H'=>Ym K r u H' Q
noncomputable def ZJ(K:Frag)(i:Nat)(path:A8):TE:=λσ H Q=>∃v,σ[i]?=O (O v)/\Ym K path v H Q
theorem E9{v u:V}{Q Q':VK}(h:rIx K v u H Q)(i:∀w H',Q w H'->Q' w H'):rIx K v u H Q':=by
 rcases h with ⟨p,xs,j,w,a,b,c,d,q⟩|⟨p,xs,j,w,a,b,c,d,q⟩|⟨z,j,w,a,b,c,d,q⟩
 .exact .inl ⟨p,xs,j,w,a,b,c,d,i _ _ q⟩
 .exact .inr (.inl ⟨p,xs,j,w,a,b,c,d,i _ _ q⟩)
 .exact .inr (.inr ⟨z,j,w,a,b,c,d,i _ _ q⟩)
theorem Nz{k:Nat}{Q:VK}:∀{path:A8}{v:V}{H:Hp},Ym K (path++[k]) v H Q->Ym K path v H λx H1=>rIx K x (.int k) H1 Q
 |[],v,H,h=>h
 |j::r,v,H,h=>E9 h λw H' q=>Nz q
theorem Ym.of{Q:VK}:∀{path:A8}{v u:V},ZS H path v=O u->Q u H->Ym K path v H Q
 |[],v,u,e,q=>by cases e;exact q
 |k::r,v,u,e,q=>by
  cases v with
  |ref a=>
   unfold ZS at e;split at e
   .rename_i vs h
    cases z:vs[k]? with
    |none=>rw[z]at e;cases e
    |some w=>rw[z]at e;exact .inl ⟨a,vs,k,w,rfl,rfl,SqL.of h,K8 z,Ym.of e q⟩
   .rename_i vs h
    cases z:vs[k]? with
    |none=>rw[z]at e;cases e
    |some w=>rw[z]at e;exact .inr (.inl ⟨a,vs,k,w,rfl,rfl,SqT.of h,K8 z,Ym.of e q⟩)
   .cases e
  |_=>cases e
end
noncomputable def Zj(i:Nat)(path:A8)(op:MOp):SM:=λρ=>match ZT ρ i with
 |some (p,d)=>(match ZG op path p d with
  |some d'=>(match ρ[i]? with
   |some (O (.own _))=>(match d' with
    |.list ds'=>.nx (ρ.set i (O (.own ds')))
    |_=>.bad)
   |_=>.nx (ρ.set i (O (.deep p d'))))
  |none=>.bad)
 |none=>.bad
section
variable{X:Cx}{B G0:Hp}{KX:XW}{e o a b c:Ug}{pos:Pos}{es:A4}
theorem E8{i:Nat}{path:A8}{op:MOp}{Dn:Ends}{σ:St}{H:Hp}{G:Hp}{ρ:UB}{u:V}(k:EOk X.K B G0 G H σ ρ)(q:aftS X.K B G0 KX (Zj i path op ρ) G Dn)(ha:op.arg X.K G u):∃v ad vs,σ[i]?=O (O v)/\ZS H path v=O (.ref ad)/\H ad=O (.lst vs) /\
  (∃q ds ds',vs.length=ds.length/\op.dOf q ds=O ds')/\Dn.nx σ (upd H ad (.lst (op.vOf u vs))):=by
 unfold Zj at q;cases z:ZT ρ i with
 |none=>rw[z]at q;exact q.elim
 |some pd=>
 obtain⟨p,d⟩:=pd;rw[z]at q;dsimp only at q;cases z2:ZG op path p d with
 |none=>rw[z2]at q;exact q.elim
 |some d'=>
 rw[z2]at q;dsimp only at q;obtain⟨ω,ks⟩:=k.slots;obtain⟨v,fp,hv,r,nd,w⟩:=ks i p d z;obtain⟨ad,vs,g1,g2,g3,g4,fp',g5,g6,g7⟩:=r.mut ha path nd z2;refine⟨v,ad,vs,hv,g1,g3,g4,?_⟩;unfold ZT at z;split at z
 .rename_i ds hi
  cases z;rw[hi]at q;dsimp only at q;split at q
  .rename_i ds'
   obtain⟨a',us,i1,i2,i3,i4,i5⟩:=k.own i ds hi;rw[hv]at i1;cases i1;cases path with
   |nil=>
    cases g1;rw[i4]at g3;cases g3;cases g5 with
    |lst h rl=>
    rw[U7]at h;cases h;exact q σ G _ (k.change hi hv rl.leaf_inv.1) (.refl _)
   |cons k0 r0=>
    unfold ZG at z2;cases zz:ds[k0]? with
    |none=>rw[zz]at z2;cases z2
    |some dd=>rw[zz]at z2;cases r0<;>cases z2
  .exact q.elim
 .rename_i p' d0 hi
  cases z;rw[hi]at q;exact q σ G _ (k.mutD hi hv r g2 g5 g6 g7) (.refl _)
 .cases z
theorem Y4{i:Nat}(h:PE X e (Kd i)):PE X e (ZJ X.K i []):=h
theorem WD{i:Nat}{path:A8}{k:Nat}{j}{p1:Pos}(h:PE X a (ZJ X.K i path))(hs:T3 (.Constant (.int (k:Int)) j p1):=by exact λ_ _=>rfl):PE X (.Subscript a (.Constant (.int (k:Int)) j p1) pos) (ZJ X.K i (path++[k])):=
 UY (SI SX h V1 hs) λσ H Q ⟨v,hv,q⟩=>⟨v,hv,Nz q⟩
theorem Hl{i:Nat}{path:A8}{apos cpos:Pos}(ho:PE X o (ZJ X.K i path))
  (hbase:attributeBase o "clear" X.env (eval o X.env)=eval o X.env:=by rfl) (hline:(apos.endLine==cpos.line)=AX:=by rfl)
  (hsw:swapsWith (.Call (.Attribute o "clear" apos) [] [] cpos) AW pos.line X.env=pure AY:=by rfl) :
  PS X (.Expr (.Call (.Attribute o "clear" apos) [] [] cpos) pos) (tS X.K B G0 KX (Zj i path .clr)):=
 Kj (Y6 (Gs Jj PySem.F.slot_list_clear PySem.F.type_list_clear DE ho hbase hline) hsw) λD σ H ⟨G,ρ,k,q⟩=>by obtain⟨v,ad,vs,h1,h2,h3,h4,h5⟩:=E8 (u:=.non) k q trivial;exact⟨v,h1,Ym.of h2 ⟨.inl ⟨rfl,_,SqL.of h3⟩,ad,vs,rfl,rfl,h3,h5⟩⟩
end
noncomputable def isT:Option HO->Bool
 |some (.tup _)=>AX
 |some (.frz _ (.tup _))=>AX
 |_=>AY
theorem Hk{u:MO}:isT (O u.ho)=AY:=by cases u<;>rfl
noncomputable def KG(fp:A5)(G H:Hp):Hp:=λb=>if b∈fp∨isT (H b)=AX then H b else G b
section
variable{K:Frag}{B G0 G H:Hp}{fp:A5}
theorem Rx(gh:Same G H):Same G (KG fp G H):=λb o e=>by
 unfold KG;split
 .exact gh b o e
 .exact e
theorem GJ(gh:Same G H):Same (KG fp G H) H:=λb o e=>by
 unfold KG at e;split at e
 .exact e
 .exact gh b o e
theorem S7{b:Ue}(h:b∈fp∨isT (H b)=AX):KG fp G H b=H b:=by unfold KG;rw[Qp h]
theorem GI{b:Ue}(h:b∉fp)(h2:isT (H b)=AY):KG fp G H b=G b:=by
 unfold KG;rw[Qz];rintro(z|z)
 .exact h z
 .rw[h2]at z;cases z
theorem RepO.give3(gh:Same G H):ZB K G H (λ_ v d f=>(∀b∈f,b∈fp)->Rep K (KG fp G H) v d) (λ_ v d f=>(∀b∈f,b∈fp)->Reps K (KG fp G H) v d) (λ_ v d f=>(∀b∈f,b∈fp)->Reps K (KG fp G H) v d):=
 RepO.ind3 (λr _=>r.mono (Rx gh)) (λh r m=>.lst (SqL.of ((S7 (.inl (m _ Qg))).trans h)) (r λb z=>m b (Qj _ z))) (λh r m=>.tup (SqT.of ((S7 (.inr (by rw[h];rfl))).trans h)) (r m))
 (λ{a ks vs ds kvs} e hl h r m=>by
  have h':=(S7 (fp:=fp) (G:=G) (H:=H) (.inl (m _ Qg))).trans h;cases ks with
  |nil=>subst e;exact .dic h'
  |cons k ks=>exact .dct e (λz=>by cases z) hl h' (r.mono (Rx gh)))
 (λ_=>.nil) (λh t m=>.cons (h λb z=>m b (Qu _ z)) (t λb z=>m b (Qo _ z))) (λ_=>.nil) (λh t m=>.cons (h λb z=>m b (Qu _ z)) (t λb z=>m b (Qo _ z)))
theorem RepO.give(gh:Same G H){p:Pat}{v:V}{d:D}{f:A5}(r:RepO K G H p v d f)(m:∀b∈f,b∈fp):Rep K (KG fp G H) v d:=(RepO.give3 gh).1 r m
theorem Ext.pubT{G' H':Hp}(ex:Ext G H G' H')(fr:∀a∈fp,H a=AW):Ext G H (KG fp G' H') H':=
 ⟨ex.h,ex.g.trans (Rx ex.gh),GJ ex.gh,λa u e n=>by rw[GI (λm=>by rw[fr a m]at e;cases e) (by rw[ex.h a _ e];exact Hk)];exact ex.np a u e n⟩
end
noncomputable def Pat.is:Pat->Pat->Bool
 |.leaf,.leaf=>AX
 |.lst p,.lst q=>p.is q
 |_,_=>AY
theorem Pat.is_eq:∀{p q:Pat},p.is q=AX->p=q
 |.leaf,.leaf,_=>rfl
 |.lst p,.lst q,h=>by rw[Pat.is_eq (p:=p) (q:=q) h]
 |.leaf,.lst _,h=>by cases h
 |.leaf,.tup _,h=>by cases h
 |.lst _,.leaf,h=>by cases h
 |.lst _,.tup _,h=>by cases h
 |.tup _,.leaf,h=>by cases h
 |.tup _,.lst _,h=>by cases h
 |.tup _,.tup _,h=>by cases h
section
variable{X:Cx}{B G0:Hp}{KX:XW}{e o a b c:Ug}{pos:Pos}{es:A4}{pt:Pat}
theorem DefT.def{P:Ud}{w:World}{K:Frag}{mg:Str->A3}{base:Heap}{x:Str}{k n:Nat}{F:AZ->A6}(d:DefT P w K mg base x k n pt F):Def P w K mg base x k n F:=by obtain⟨f,fd,ps,h1,h2,h3,h4⟩:=d;refine⟨f,fd,ps,h1,h2,h3,h4.imp λvs H Q E ⟨G,ds,d,hl,sg,r,hF,q⟩=>⟨G,ds,d,hl,sg,r,hF,λv fp G' H' ex rr nd fr=>?_⟩⟩;exact q v (KG fp G' H') H' (ex.pubT λa m=>(fr a m).1) (rr.give ex.gh λb m=>m)
end
theorem Pu{q p:Ud}{loose:List Str}{mean:ExcName->A3}{mg mb:Str->A3}{h:Heap}{ix:A8}(P:Ud)(w:World)(base:Heap){ps:List Str}{k n:Nat}{pt:Pat}{F:AZ->A6}(T:PyProof.Rows.Top q loose mean mg mb h)(e:recsOf q=Wc p ix)(i:Nat)(x:Str)(hi:ix.contains i=AX)(hn:Vp (UX p i)=O x)
  (ok:∀{f:Ue}{fd:Uf},Fun (whole h) x x (UX p i) f fd->FnOk P w (whole h) mg base CX0 k f fd ps (spT (whole h) n pt F))
  (hb:∀(kV doc pm:Ub)(an:qa)(cdv ct:Ub)(us:A0),us.length=ps.length->bindArgs (PySem.W.fnOf x x (Yp (UX p i)) (K7 (UX p i)) (Ki (UX p i)) .none kV doc pm an cdv ct) ⟨us,[]⟩=pure (ps.zip us)):DefT P w (whole h) mg base x k n pt F:=by
 obtain⟨f,fd,m,FU⟩:=VT T e i x hi hn;exact⟨f,fd,ps,m,FU.kp,FU.binds hb,ok FU⟩
section
variable{ρ ρ1 ρ2 ρ':UB}{pt:Pat}
theorem GH{i:Nat}{f:M D}{d:D}(h1:f ρ=.ok d ρ1)(h2:i<ρ1.length)(h3:ρ1.set i (O (.deep pt d))=ρ'):Vm i pt f ρ=.nx ρ':=by unfold Vm sB;rw[h1];dsimp only;rw[if_pos h2];subst h3;rfl
theorem GF{i:Nat}{path:A8}{op:MOp}{p:Pat}{d d':D}(h1:ρ[i]?=O (O (.deep p d)))(h2:ZG op path p d=O d')(h3:ρ.set i (O (.deep p d'))=ρ'):Zj i path op ρ=.nx ρ':=by unfold Zj ZT;rw[h1];dsimp only;rw[h2];dsimp only;rw[h3]
theorem FE{i:Nat}{op:MOp}{ds ds':AZ}(h1:ρ[i]?=O (O (.own ds)))(h2:op.dOf .leaf ds=O ds')(h3:ρ.set i (O (.own ds'))=ρ'):Zj i [] op ρ=.nx ρ':=by
 unfold Zj ZT;rw[h1];dsimp only;have:ZG op [] (.lst .leaf) (.list ds)=O (.list ds'):=by unfold ZG;rw[h2];rfl
 rw[this];dsimp only;rw[h3]
theorem Li{N:List Str}{g:SM}{f:M D}{ds:AZ}{P:D->Prop}(h0:KO N ds=ρ)(h:Ho g ρ λo=>∃ρ1,o=.nx ρ1/\∃d ρ2,f ρ1=.ok d ρ2/\P d):∃d,Wp N g f ds=O d/\P d:=by subst h0;obtain⟨ρ1,e,d,ρ2,e2,p⟩:=h.out;refine⟨d,?_,p⟩;unfold Wp;rw[e];dsimp only;rw[e2]
end
noncomputable def Xy(x y:D):Option AZ:=match x,y with
 |.list x,.list y=>if x.length+y.length<=1000000 then O (x++y)else AW
 |_,_=>AW
noncomputable def ZP(f g:M D):M AZ:=UN f λx=>UN g λy=>UM (Xy x y)
section
variable{X:Cx}{B G0:Hp}{e o a b c:Ug}{pos:Pos}{es:A4}
theorem FD{f g:M D}(ha:PE X a (tD X.K B G0 f))(hb:PE X b (tD X.K B G0 g)):PE X (.BinOp a .Add b pos) (tL X.K B G0 (ZP f g)):=
 UY (Ph Oo ha hb) λσ H Q ⟨G,ρ,k,q⟩=>by
  refine⟨G,ρ,k,?_⟩;unfold ZP UN at q;cases z:f ρ with
  |bad=>rw[z]at q;exact q.elim
  |ok x ρ1=>
   rw[z]at q;dsimp only at q;intro v G1 H1 k1 s1 r1;refine⟨G1,ρ1,k1,?_⟩;cases z2:g ρ1 with
   |bad=>rw[z2]at q;exact q.elim
   |ok y ρ2=>
    rw[z2]at q;dsimp only[UM]at q;intro u G2 H2 k2 s2 r2;cases x with
    |list xs=>
     cases y with
     |list ys=>
      by_cases c:xs.length+ys.length<=1000000
      .have e:Xy (.list xs) (.list ys)=O (xs++ys):=Qp c
       rw[e]at q;obtain⟨l,vs,rfl,h1,w1⟩:=r1.lst_inv;obtain⟨m,us,rfl,h2,w2⟩:=r2.lst_inv;exact⟨l,m,vs,us,rfl,rfl,k2.gh.seq (s2.seq h1),k2.gh.seq h2,by rw[w1.length,w2.length];exact Qt c lim,λp hp=>q p _ G2 _ (k2.ext (Ext.hid k2.gh hp)) (s1.trans s2) (NewL.of k2 hp ((w1.mono s2).append w2))⟩
      .have e:Xy (.list xs) (.list ys)=AW:=Qz c
       rw[e]at q;exact q.elim
     |_=>exact q.elim
    |_=>exact q.elim
theorem Hj{f g:M D}{ρ ρ1 ρ2:UB}{xs ys:AZ}(h1:f ρ=.ok (.list xs) ρ1)(h2:g ρ1=.ok (.list ys) ρ2)(h:xs.length+ys.length<=1000000):ZP f g ρ=.ok (xs++ys) ρ2:=by have e:Xy (.list xs) (.list ys)=O (xs++ys):=Qp h;unfold ZP;exact Kh h1 (Kh h2 (by rw[e];rfl))
end
noncomputable def Zb(fp:A5)(H:Hp):Hp:=λb=>if b∈fp then AW else H b
section
variable{K:Frag}{B G0 G H:Hp}{fp:A5}
theorem FC{b:Ue}(h:b∈fp):Zb fp H b=AW:=by unfold Zb;rw[Qp h]
theorem Wk{b:Ue}(h:b∉fp):Zb fp H b=H b:=by unfold Zb;rw[Qz h]
theorem RepO.cut3(hl:∀a∈fp,∃u:MO,H a=O u.ho):ZB K G H (λp v d f=>(∀a∈f,a∉fp)->RepO K G (Zb fp H) p v d f) (λp v d f=>(∀a∈f,a∉fp)->RepOl K G (Zb fp H) p v d f) (λp v d f=>(∀a∈f,a∉fp)->RepOs K G (Zb fp H) p v d f):=
 RepO.ind3 (λr _=>.leaf r) (λh r n=>.lst ((Wk (n _ Qg)).trans h) (r λb m=>n b (Qj _ m))) (λh r n=>.tup ((Wk (λm=>by obtain⟨u,e⟩:=hl _ m;rw[h]at e;cases u<;>cases e)).trans h) (r n)) (λe hl' h r n=>.dic e hl' ((Wk (n _ Qg)).trans h) r)
 (λ_=>.nil) (λh t n=>.cons (h λb m=>n b (Qu _ m)) (t λb m=>n b (Qo _ m))) (λ_=>.nil) (λh t n=>.cons (h λb m=>n b (Qu _ m)) (t λb m=>n b (Qo _ m)))
theorem RepO.cut(hl:∀a∈fp,∃u:MO,H a=O u.ho){p:Pat}{v:V}{d:D}{f:A5}(r:RepO K G H p v d f)(n:∀a∈f,a∉fp):RepO K G (Zb fp H) p v d f:=(RepO.cut3 hl).1 r n
end
section
variable{X:Cx}{B G0:Hp}{KX:XW}{e a b:Ug}{pos:Pos}{es:A4}
theorem EOk.eaten{K:Frag}{G H G' H':Hp}{σ:St}{ρ:UB}{i1 i2:Nat}{ω:Ue->Nat}{fp:A5}(k:EOk K B G0 G H σ ρ)
  (ks:∀(i:Nat) p d,ZT ρ i=O (p,d)->∃v fp,σ[i]?=O (O v)/\RepO K G H p v d fp/\fp.Nodup/\∀a∈fp,B a=AW/\G a=AW/\ω a=i)
  (hl:∀a∈fp,∃u:MO,H a=O u.ho) (hf:∀a∈fp,B a=AW/\(ω a=i1∨ω a=i2)) (ex:Ext G (Zb fp H) G' H'):EOk K B G0 G' H' σ ((ρ.set i1 AW).set i2 AW):=by
 have nz:∀{m:Nat}{s:Sl},((ρ.set i1 AW).set i2 AW)[m]?=O (O s)->ρ[m]?=O (O s)/\i1≠m/\i2≠m:=λ{m s} q=>by
  by_cases y2:i2=m
  .subst y2;have:=Ku q;cases this
  .rw[Ql y2]at q
   by_cases y1:i1=m
   .subst y1;have:=Ku q;cases this
   .rw[Ql y1]at q;exact⟨q,y1,y2⟩
 have bo:∀{b:Ue}{u:HO},B b=O u->b∉fp:=λ{b u} e m=>by rw[(hf b m).1]at e;cases e
 refine⟨λb u e=>ex.h b u ((Wk (bo e)).trans (k.bh b u e)),ex.gh,k.g0.trans ex.g,λb u e n=>ex.np b u ((Wk (bo e)).trans (k.bh b _ e)) (k.np b u e n),by rw[QW,QW];exact k.len,
  λj d q=>let ⟨v,h1,h2⟩:=k.pub j d (nz q).1;⟨v,h1,h2.mono ex.g⟩,λj ds q=>?_,λj l c es fs q1 q2 s1 s2=>k.sep j l c es fs (nz q1).1 (nz q2).1 s1 s2,ω,λj p d q=>?_,λj ds ad q s=>?_⟩
 .obtain⟨q,y1,y2⟩:=nz q
  obtain⟨ad,vs,h1,h2,h3,h4,h5⟩:=k.own j ds q;obtain⟨v,f,hv,r,nd,w⟩:=ks j (.lst .leaf) (.list ds) (by unfold ZT;rw[q]);rw[h1]at hv;cases hv;have m:ad∈f:=by cases r with|lst h rl=>exact Qg
  have no:ad∉fp:=λz=>by
   rcases(hf ad z).2 with z|z
   .exact y1 (z.symm.trans (w ad m).2.2)
   .exact y2 (z.symm.trans (w ad m).2.2)
  have hc:Zb fp H ad=O (.lst vs):=(Wk no).trans h4;exact⟨ad,vs,h1,h2,ex.np ad (.l vs) hc h3,ex.h ad _ hc,h5.mono ex.g⟩
 .obtain⟨q,y1,y2⟩:=nz q
  obtain⟨v,f,hv,r,nd,w⟩:=ks j p d (by unfold ZT;rw[q])
  have no:∀b∈f,b∉fp:=λb m z=>by
   rcases(hf b z).2 with z|z
   .exact y1 (z.symm.trans (w b m).2.2)
   .exact y2 (z.symm.trans (w b m).2.2)
  refine⟨v,f,hv,(r.cut hl no).mono ex.g ex.h,nd,λb m=>?_⟩;obtain⟨vs,hb⟩:=r.isl b m;exact⟨(w b m).1,ex.np b vs ((Wk (no b m)).trans hb) (w b m).2.1,(w b m).2.2⟩
 .obtain⟨q,y1,y2⟩:=nz q
  obtain⟨v,f,hv,r,nd,w⟩:=ks j (.lst .leaf) (.list ds) (by unfold ZT;rw[q]);rw[s]at hv;cases hv;have m:ad∈f:=by cases r with|lst h rl=>exact Qg
  exact(w ad m).2.2
end
end DL
namespace L2
open PySem PySem.Spec PyProof.Rows PySem.Calls PyProof.V
end L2
namespace DL
open PySem PySem.Spec L2
open PyProof.Rows hiding St
noncomputable def tgN:Ug->List Str
 |.Name x _=>[x]
 |.Tuple [.Name x _] _ _=>[x]
 |.Tuple [.Name x _,.Name y _] _ _=>[x,y]
 |.Tuple [.Name x _,.Name y _,.Name z _] _ _=>[x,y,z]
 |.Tuple [.Name x _,.Name y _,.Name z _,.Name u _] _ _=>[x,y,z,u]
 |_=>[]
noncomputable def adN(vs:List Str):List Str->List Str
 |[]=>vs
 |x::r=>adN (if vs.elem x then vs else vs++[x]) r
noncomputable def WU(vs:List Str):List Comprehension->List Str
 |[]=>vs
 |⟨tg,_,_,_⟩::r=>WU (adN vs (tgN tg)) r
noncomputable def dotN(x:Str):Str:=("." : Str)++x
noncomputable def blN(N:List Str)(gs:List Comprehension):List Str:=N.map (λx=>if(WU [] gs).elem x then dotN x else x)++WU [] gs
noncomputable def glN(sc:Scope):List Str:=sc.names.filterMap λy=>match y.2 with | .globalImplicit=>O y.1|_=>AW
abbrev NmF(s:Stmt)(N:List Str):Prop:=FnNm (Ki s) N (glN (Ki s))
theorem mq{α:Type}{l:List α}{x:α}(n:Nat)(h:l[n]?=O x):x∈l:=QX h
section
variable{sc:Scope}{N gl:List Str}{x:Str}
theorem gA(H:FnNm sc N gl)(h:gl.elem x=AX):sc.names.lookup x=O .globalImplicit:=H.gl x (by simpa using h)
end
section
variable{X:Cx}{B G0:Hp}{KX:XW}{e e1 e2 o a b c i:Ug}{gl:List Str}{pos p2:Pos}{x:Str}{j:Nat}
theorem Lh(H:FnNm X.env.scope X.N gl)(hi:X.N[j]?=O x:=by rfl)(hf:X.fn x=AX∨X.env.scope.names.lookup x=O .local:=by first|exact .inl rfl|exact .inr rfl|assumption):PG X (.Name x pos) (tG X.K B G0 (gN j)):=Oj (Rf H.nd hi (lq H j hi) hf)
theorem Hi{N':List Str}{scope:Scope}{cl:List (Str×Ue)}{C:Ue}{s₀:Uc}{H₀:Hp}{ex:A5}(hN:N'.Nodup:=by decide +kernel)(hi:N'[j]?=O x:=by rfl)(hl:locK (scope.names.lookup x)=AX:=by rfl):PG (X.blk N' scope cl C s₀ H₀ ex) (.Name x pos) (tG X.K B G0 (gN j)):=Oj (Rf hN hi (Oh hl).1 (Oh hl).2)
theorem aSet{f:M D}(H:FnNm X.env.scope X.N gl)(he:PE X e (tD X.K B G0 f))(hi:X.N[j]?=O x:=by rfl)(hs:swapsWith e (O (.Name x p2)) pos.line X.env=pure AY:=by rfl)
  (hf:X.fn x=AX∨X.env.scope.names.lookup x=O .local:=by first|exact .inl rfl|exact .inr rfl|assumption):PS X (.Assign [.Name x p2] e pos) (tS X.K B G0 KX (U8 j f)):=Gx H.nd hi (lq H j hi) he hs hf
theorem Pb{f:M AZ}(H:FnNm X.env.scope X.N gl)(he:PE X e (tL X.K B G0 f))(hi:X.N[j]?=O x:=by rfl)(hs:swapsWith e (O (.Name x p2)) pos.line X.env=pure AY:=by rfl)
  (hf:X.fn x=AX∨X.env.scope.names.lookup x=O .local:=by first|exact .inl rfl|exact .inr rfl|assumption):PS X (.Assign [.Name x p2] e pos) (tS X.K B G0 KX (Kx j f)):=Ef H.nd hi (lq H j hi) he hs hf
theorem Lg{f:M D}{pt:Pat}(H:FnNm X.env.scope X.N gl)(he:PE X e (tT X.K B G0 pt f))(hi:X.N[j]?=O x:=by rfl)(hs:swapsWith e (O (.Name x p2)) pos.line X.env=pure AY:=by rfl)
  (hf:X.fn x=AX∨X.env.scope.names.lookup x=O .local:=by first|exact .inl rfl|exact .inr rfl|assumption):PS X (.Assign [.Name x p2] e pos) (tS X.K B G0 KX (Vm j pt f)):=GM H.nd hi (lq H j hi) he hs hf
theorem Lf{l:Bool}{tg elt iter:Ug}{ifs:A4}{gs:List Comprehension}{scope:Scope}{f:M AZ}{s:D->UB->A7}{t:M Bool}{rd:RdB}{F:M AZ}{k:Nat}{SC:Scope}{N1:List Str}(H:FnNm SC N1 gl)(le:∀ρ es ρ',F ρ=.ok es ρ'->dCG l f k s t rd ρ=.ok es ρ')(hc:X.calm=AX)
  (hi:PI X tg iter (iD X.K B G0 f)) (qg:Zm X (blN N1 (⟨tg,iter,ifs,0⟩::gs)) scope (.ListComp elt (⟨tg,iter,ifs,0⟩::gs) scope pos) tg ifs s t rd) (hb:YK Xd SC scope N1 (blN N1 (⟨tg,iter,ifs,0⟩::gs)) k=AX) (h1:X.env.scope=SC:=by rfl) (h2:X.N=N1:=by rfl) (hs:∀x,UA iter X.env x=pure x:=by intro _;rfl) :
  PE X (.ListComp elt (⟨tg,iter,ifs,0⟩::gs) scope pos) (tL X.K B G0 F):=LA _ _ _ k le hc hi qg h1 h2 hb hs
theorem Le{l:Bool}{y:Str}{py spos:Pos}{tg elt iter:Ug}{ifs:A4}{gs:List Comprehension}{scope:Scope}{f:M AZ}{s:D->UB->A7}{t:M Bool}{rd:RdB}{F:M AZ}{k:Nat}{SC:Scope}{N1:List Str}(H:FnNm SC N1 gl)(le:∀ρ es ρ',F ρ=.ok es ρ'->dCG l f k s t rd ρ=.ok es ρ')(hc:X.calm=AX)
  (hi:PI X tg iter (iD X.K B G0 f)) (qg:Zm X (blN N1 (⟨tg,iter,ifs,0⟩::gs)) scope (.ListComp elt (⟨tg,iter,ifs,0⟩::gs) scope pos) tg ifs s t rd) (hb:YK Xd SC scope N1 (blN N1 (⟨tg,iter,ifs,0⟩::gs)) k=AX) (hj:N1[j]?=O y:=by rfl) (hy:SC.names.lookup y=O .local:=by rfl) (h1:X.env.scope=SC:=by rfl) (h2:X.N=N1:=by rfl) (hs:∀x,UA iter X.env x=pure x:=by intro _;rfl)
  (hsw:swapsWith (.ListComp elt (⟨tg,iter,ifs,0⟩::gs) scope pos) (O (.Name y py)) spos.line X.env=pure AX:=by rfl) :
  PS X (.Assign [.Name y py] (.ListComp elt (⟨tg,iter,ifs,0⟩::gs) scope pos) spos) (tS X.K B G0 KX (Kx j F)):=sD_1 _ _ _ k le (h2 ▸ H.nd) (h2 ▸ hj) (h1 ▸ hy) hc hi qg h1 h2 hb hs hsw
theorem Hh{l:Bool}{scope0:Scope}{cl:List (Str×Ue)}{C:Ue}{s₀:Uc}{H₀:Hp}{ex:A5}{N2:List Str}{tg elt iter:Ug}{ifs:A4}{gs:List Comprehension}{scope:Scope}{f:M AZ}{s:D->UB->A7}{t:M Bool}{rd:RdB}{F:M AZ}{k:Nat}(le:∀ρ es ρ',F ρ=.ok es ρ'->dCG l f k s t rd ρ=.ok es ρ')(hc:X.calm=AX)
  (hi:PI (X.blk N2 scope0 cl C s₀ H₀ ex) tg iter (iD X.K B G0 f)) (qg:Zm (X.blk N2 scope0 cl C s₀ H₀ ex) (blN N2 (⟨tg,iter,ifs,0⟩::gs)) scope (.ListComp elt (⟨tg,iter,ifs,0⟩::gs) scope pos) tg ifs s t rd) (hb:YK Xd scope0 scope N2 (blN N2 (⟨tg,iter,ifs,0⟩::gs)) k=AX) (hs:∀x,UA iter (X.blk N2 scope0 cl C s₀ H₀ ex).env x=pure x:=by intro _;rfl) :
  PE (X.blk N2 scope0 cl C s₀ H₀ ex) (.ListComp elt (⟨tg,iter,ifs,0⟩::gs) scope pos) (tL X.K B G0 F):=LZ _ k le hc hi qg hb hs
end
end DL
namespace DL
open PySem PySem.Spec L2
open PyProof.Rows hiding St
open Builtin Builtin.Str
end DL
namespace DL
open PySem PySem.Spec L2
open PyProof.Rows hiding St
end DL
namespace DL
open PySem PySem.Spec L2
open PyProof.Rows hiding St
open PySem.SeqRoads2 PySem.SeqAt
end DL
namespace DL
open PySem PySem.Spec L2
open PyProof.Rows hiding St
end DL
namespace L2
open PySem PySem.Spec PyProof.Rows
end L2
namespace DL
open PySem PySem.Spec L2
open PyProof.Rows hiding St
end DL
namespace DL
open PySem PySem.Spec L2
open PyProof.Rows hiding St
open PySem.SeqRoads2 PySem.SeqAt
noncomputable def XA(z:Bool):Ub->Bool
 |.bool x=>x==z
 |_=>AY
theorem S6:∀{ts:List Bool}{us:A0}{i:Nat}{v:Ub},Vals (ts.map V.bl) us->us[i]?=O v->∃x,ts[i]?=O x/\v=.bool x
 |[],_,_,_,.nil,e=>by cases e
 |x::ts,_,0,_,.cons h _,e=>by cases e;cases h;exact⟨x,rfl,rfl⟩
 |x::ts,_,i+1,_,.cons _ r,e=>S6 (i:=i) r e
theorem Cf{X:Cx}:MtR X "list.index" (λv vs H Q=>∃l z,∃ts:List Bool,v=.ref l/\vs=[.bl z]/\SqL X.K H l (ts.map V.bl)/\z∈ts/\Q (.int (ts.idxOf z:Nat)) H):=by
 intro pins s σ H x vs v us Q I rx rv h;obtain⟨l,z,ts,rfl,rfl,hq,hk,q⟩:=h;cases rx;obtain⟨u,rfl,ru⟩:=rv.one;cases ru;obtain⟨its,rv,p,hz⟩:=I.list hq;obtain⟨⟨cls,dd,data,sl⟩,ho,hc,n,hd⟩:=id p.isList;simp only at hc hd;subst hc hd;have hlen:ts.length=its.length:=by have:=rv.length;rwa[Qd]at this
 have hj:ts.idxOf z<ts.length:=List.idxOf_lt_length_iff.mpr hk;have hsz:its.length<=Uh:=by rw[←hlen];rw[Qd]at hz;exact hz
 have hS:(Uh:Int)<2 ^ 63-1:=by decide
 have tx:∀(i:Nat)(hi:i<its.length)(hi':i<ts.length),XA z its[i]=(ts[i]==z):=λi hi hi'=>by obtain⟨x,e1,e2⟩:=S6 rv (Qm hi);rw[Qm hi']at e1;cases e1;rw[e2];rfl
 refine call_meets PySem.F.slot_list_index ⟨_,ho,rfl⟩ PySem.F.entry_list_index (PySem.F.args_list_index_2 _ _)
  (list_indexAt l its.toArray n dd sl (.bool z) (XA z) (ts.idxOf z) (by simpa[←hlen]using hj) (by lia) ?_ ?_) ⟨ho,λy hy=>?_,⟨.int _,H,I.tok _,⟨_,rfl⟩,q⟩⟩
 .show XA z its[ts.idxOf z]=AX
  rw[tx _ (by lia) hj];simpa using List.getElem_idxOf hj
 .intro j hjs hlt
  have hjs:j<its.length:=by simpa using hjs
  show XA z its[j]=AY;rw[tx j hjs (by lia)];have:=List.not_of_lt_findIdx (p:=(· == z)) (xs:=ts) hlt;simpa using this
 .have hm:y∈its:=by simpa using hy
  obtain⟨i,hi,e⟩:=List.getElem_of_mem hm;obtain⟨x,e1,e2⟩:=S6 rv (Qm hi);rw[e]at e2;subst e2;exact EqAt.bool_bool _ _
noncomputable def S5(y:D)(xs:AZ):A6:=match y,xs with
 |.list ds,[.bool k]=>(match YL ds with
  |some ns=>if k∈ns then O (.int (ns.idxOf k:Nat))else AW
  |none=>AW)
 |_,_=>AW
theorem Ae{ds xs:AZ}{d:D}(h:S5 (.list ds) xs=O d):∃k ns,xs=[.bool k]/\YL ds=O ns/\k∈ns/\d=.int (ns.idxOf k:Nat):=by
 unfold S5 at h;split at h
 .rename_i ds' k e1
  cases e1;cases z:YL ds with
  |none=>rw[z]at h;cases h
  |some ns=>
   rw[z]at h;dsimp only at h;split at h
   .rename_i c
    cases h;exact⟨k,ns,rfl,rfl,c,rfl⟩
   .cases h
 .cases h
noncomputable def P6(f:M D)(g:M AZ):M D:=UN f λy=>UN g λxs=>UM (match y with | .list ds=>S5 (.list ds) xs|_=>AW)
section
variable{X:Cx}{B G0:Hp}{e o:Ug}{es:A4}
theorem BX{apos cpos:Pos}{f:M D}{g:M AZ}(ho:PE X o (tD X.K B G0 f))(ha:PA X (e::es) (tDs X.K B G0 g))
  (hbase:attributeBase o "index" X.env (eval o X.env)=eval o X.env:=by rfl)
  (hfew:((backTo cpos (Uj (e::es) X.env)).all (λx=>!x.1)&&(backToKw cpos (keywordEach [] X.env)).all (λx=>x.1.isSome)
   && decide ((e::es).length+([]:List Keyword).length+(if([]:List Keyword).isEmpty then 0 else 1)<30))=AX:=by rfl)
  (hline:(apos.endLine==cpos.line)=AX:=by rfl) (hs:Uj (e::es) X.env=(AY,eval e X.env)::Uj es X.env:=by rfl) (hplain:(backTo cpos (Uj es X.env)).any (·.1)=AY:=by rfl) :
  PE X (.Call (.Attribute o "index" apos) (e::es) [] cpos) (tD X.K B G0 (P6 f g)):=
 UY (Vk Jj F.slot_list_index F.type_list_index Cf ho ha hbase hfew hline hs hplain) λσ H Q q=>by
  refine tM.one (R:=Rep X.K) q λv H2 G ρ y k r a=>?_
  cases y with
  |list ds=>
   obtain⟨l,ws,rfl,h1,r1⟩:=r.lst_inv;refine⟨.inl ⟨rfl,ws,k.gh.seq h1⟩,?_⟩;refine tM.nx (R:=Reps X.K) k a λxs H3 G3 ρ3 es k3 s3 r3 a3=>?_
   obtain⟨d,e,a3⟩:=a3.opt;obtain⟨x,ns,rfl,z,hk,rfl⟩:=Ae e;obtain⟨u,rfl,ru⟩:=r3.one_inv;have:=RR r1 z;subst this;exact⟨l,x,ns,rfl,by rw[ru.bl_inv],k3.gh.seq (s3.seq h1),hk,aft.now a3 k3 (.int _)⟩
  |_=>
   unfold UN at a;cases z:g ρ with
   |bad=>rw[z]at a;exact a.elim
   |ok xs ρ1=>rw[z]at a;exact a.elim
end
end DL
namespace DL
open PySem PySem.Spec L2
open PyProof.Rows hiding St
section
variable{X:Cx}{B G0:Hp}{KX:XW}{e e':Ug}{es es':A4}{st st':Stmt}{sts jg:List Stmt}{pos p2:Pos}{x:Str}{j:Nat}{gl:List Str}
theorem E7{g h:SM}(q:st::sts=jg)(h1:PS X st (tS X.K B G0 KX g))(h2:PSs X sts (tS X.K B G0 KX h)):PSs X jg (tS X.K B G0 KX (UI g h)):=q ▸ Ol h1 h2
theorem Hg{f:M AZ}(q:Stmt.Assign [.Name x p2] e pos=st')(H:FnNm X.env.scope X.N gl)(he:PE X e (tL X.K B G0 f))(hi:X.N[j]?=O x:=by rfl)(hs:swapsWith e (O (.Name x p2)) pos.line X.env=pure AY:=by rfl)
  (hf:X.fn x=AX∨X.env.scope.names.lookup x=O .local:=by first|exact .inl rfl|exact .inr rfl|assumption):PS X st' (tS X.K B G0 KX (Kx j f)):=q ▸ Pb H he hi hs hf
theorem E6{f:M AZ}(q:Expr.List es pos=e')(h:PA X es (tDs X.K B G0 f)):PE X e' (tL X.K B G0 (UN f λxs=>if xs.length<=1000000 then UF xs else λ_=>.bad)):=q ▸ Oi h
theorem Ce{f:M D}{g:M AZ}(q:e::es=es')(ha:PE X e (tD X.K B G0 f))(hr:PA X es (tDs X.K B G0 g))(hs:Uj (e::es) X.env=(AY,eval e X.env)::Uj es X.env:=by rfl):PA X es' (tDs X.K B G0 (UE f g)):=q ▸ OO ha hr hs
end
section
variable{X:Cx}{B G0:Hp}{KX:XW}{a b e e':Ug}{es es':A4}{st st':Stmt}{sts jg:List Stmt}{pos p2:Pos}{x:Str}{j:Nat}{gl:List Str}
theorem Ld{f:M D}(q:Stmt.Assign [.Name x p2] e pos=st')(H:FnNm X.env.scope X.N gl)(he:PE X e (tD X.K B G0 f))(hi:X.N[j]?=O x:=by rfl)(hs:swapsWith e (O (.Name x p2)) pos.line X.env=pure AY:=by rfl)
  (hf:X.fn x=AX∨X.env.scope.names.lookup x=O .local:=by first|exact .inl rfl|exact .inr rfl|assumption):PS X st' (tS X.K B G0 KX (U8 j f)):=q ▸ aSet H he hi hs hf
theorem E5{f:M AZ}(q:Expr.List es pos=e')(h:PA X es (tDs X.K B G0 f)):PE X e' (tD X.K B G0 (U3 f)):=q ▸ Om h
theorem E4{x1}{f:M AZ}(q:Expr.Tuple es x1 pos=e')(h:PA X es (tDs X.K B G0 f)):PE X e' (tD X.K B G0 (Kp f)):=q ▸ On h
theorem Pt{op:Operator}{p:D->D->A6}{f g:M D}(o:OpD X (binaryOp op) p)(q:Expr.BinOp a op b pos=e')(ha:PE X a (tD X.K B G0 f))(hb:PE X b (tD X.K B G0 g)):PE X e' (tD X.K B G0 (UJ p f g)):=q ▸ Wv o ha hb
end
structure SD(K:Frag)(B G H:Hp)(σ:St)(ρ:UB)(pts:List Pat)(vs:List V)(ds:AZ)(fp:A5):Prop where
 r:RepOs K G H pts vs ds fp
 nd:fp.Nodup
 b:∀a∈fp,B a=AW/\G a=AW
 f:∀a∈fp,∀(j:Nat) es,ρ[j]?=O (O (.own es))->σ[j]?≠O (O (.ref a))
 dp:∀a∈fp,∀(j:Nat) p d v fp',ρ[j]?=O (O (.deep p d))->σ[j]?=O (O v)->RepO K G H p v d fp'->a∉fp'
noncomputable def tTs(K:Frag)(B G0:Hp)(pts:List Pat)(f:M AZ):TA:=λσ H Q=>∃G ρ,EOk K B G0 G H σ ρ/\match f ρ with
 |.ok ds ρ'=>∀vs fp G' H',EOk K B G0 G' H' σ ρ'->Same G G'->SD K B G' H' σ ρ' pts vs ds fp->Q vs H'
 |.bad=>False
noncomputable def Vo(f:M D)(g:M AZ):M AZ:=λρ=>match f ρ with
 |.ok d ρ1=>(match g (U4 ρ1)with
  |.ok ds _=>.ok (d::ds) ρ1
  |.bad=>.bad)
 |.bad=>.bad
section
variable{X:Cx}{B G0:Hp}{KX:XW}{e:Ug}{es:A4}{pos:Pos}{p:Pat}{pts:List Pat}
theorem FA:PA X [] (tTs X.K B G0 [] UD):=λpos pins s σ H Q I ⟨G,ρ,k,a⟩=>ZD pos pins s σ H Q I (a [] [] G H k (.refl _) ⟨.nil,List.nodup_nil,λa m=>(by cases m),λa m=>(by cases m),λa m=>(by cases m)⟩)
theorem E3{f:M D}{g:M AZ}(h1:PE X e (tT X.K B G0 p f))(h2:∀B' G',PA X es (tTs X.K B' G' pts g))(hs:Uj (e::es) X.env=(AY,eval e X.env)::Uj es X.env:=by rfl):PA X (e::es) (tTs X.K B G0 (p::pts) (Vo f g)):=by
 have h2':PA X es (λσ H Q=>∃B' G',tTs X.K B' G' pts g σ H Q):=λpos pins s σ H Q I ⟨B',G',q⟩=>h2 B' G' pos pins s σ H Q I q;intro pos pins s σ H Q I ⟨G,ρ,k,a⟩;refine K5 h1 h2' hs pos pins s σ H Q I ⟨G,ρ,k,?_⟩;unfold Vo at a
 cases z:f ρ with
 |bad=>rw[z]at a;exact a.elim
 |ok d ρ1=>
 rw[z]at a;dsimp only at a;intro v fp G1 H1 k1 s1 n1;refine⟨H1,G1,G1,U4 ρ1,k1.rebase,?_⟩;cases z2:g (U4 ρ1)with
 |bad=>rw[z2]at a;exact a.elim
 |ok ds ρ2=>
 rw[z2]at a;dsimp only at a⊢;intro vs fp2 G2 H2 k2 s2 n2;have ex:=k2.exit;refine a (v::vs) (fp++fp2) G2 H2 (k1.ext ex) (s1.trans s2) ⟨.cons (n1.r.mono ex.g ex.h) n2.r,?_,λb m=>?_,λb m j es' q w=>?_,λb m j p' d' v' fp' q w r=>?_⟩
 .refine QI.mpr ⟨n1.nd,n2.nd,λx hx y hy z=>?_⟩
  subst z;obtain⟨u,hu⟩:=n1.r.isl x hx;rw[(n2.b x hy).1]at hu;cases hu
 .rcases QE.mp m with m|m
  .obtain⟨u,hu⟩:=n1.r.isl b m
   exact⟨(n1.b b m).1,ex.np b u hu (n1.b b m).2⟩
  .exact⟨k1.bh.free (n2.b b m).1,(n2.b b m).2⟩
 .rcases QE.mp m with m|m
  .exact n1.f b m j es' q w
  .obtain⟨c,us,g1,g2,g3,g4,g5⟩:=k1.own j es' q
   rw[g1]at w;cases w;rw[(n2.b b m).1]at g4;cases g4
 .rcases QE.mp m with m|m
  .obtain⟨ω,d1,d2⟩:=k1.dp
   obtain⟨v0,f0,w0,r0,_,_⟩:=d1 j p' d' q;rw[w]at w0;cases w0;rw[←r0.uniq ex.h r];exact n1.dp b m j p' d' v' f0 q w r0
  .exact k1.freshD ex.h (n2.b b m).1 q w r
theorem RepOs.length{K:Frag}{G H:Hp}:∀{ps:List Pat}{vs:List V}{ds:AZ}{fp:A5},RepOs K G H ps vs ds fp->vs.length=ds.length
 |_,_,_,_,.nil=>rfl
 |_,_,_,_,.cons _ t=>by rw[QK,QK,RepOs.length t]
theorem SD.hid{K:Frag}{G H:Hp}{σ:St}{ρ:UB}{vs:List V}{ds:AZ}{fp:A5}{a:Ue}{o:HO}(k:EOk K B G0 G H σ ρ)(n:SD K B G H σ ρ pts vs ds fp)(ha:H a=AW):EOk K B G0 G (upd H a o) σ ρ/\RepOs K G (upd H a o) pts vs ds fp/\a∉fp/\(∀b∈fp,∀(j:Nat) p d v fp',ρ[j]?=O (O (.deep p d))->σ[j]?=O (O v)->RepO K G (upd H a o) p v d fp'->b∉fp'):=by
 have sh:Same H (upd H a o):=KN ha;refine⟨k.ext (Ext.hid k.gh ha),n.r.mono (.refl _) sh,λm=>?_,λb m j p d v fp' q w r=>?_⟩
 .obtain⟨u,hu⟩:=n.r.isl a m
  rw[ha]at hu;cases hu
 .obtain⟨ω,d1,d2⟩:=k.dp
  obtain⟨v0,f0,w0,r0,_,_⟩:=d1 j p d q;rw[w]at w0;cases w0;rw[←r0.uniq sh r];exact n.dp b m j p d v f0 q w r0
theorem E1{k1}{f:M AZ}(h:PA X es (tTs X.K B G0 pts f)):PE X (.Tuple es k1 pos) (tT X.K B G0 (.tup pts) (UN f λxs=>if xs.length<=1000000 then UF (.tuple xs)else λ_=>.bad)):=UY (PM h) λσ H Q ⟨G,ρ,k,a⟩=>by
 refine⟨G,ρ,k,?_⟩;unfold UN at a;cases z:f ρ with
 |bad=>rw[z]at a;exact a.elim
 |ok ds ρ1=>
 rw[z]at a;dsimp only at a;intro vs fp G' H' k' s' n;by_cases c:ds.length<=1000000
 .rw[Qp c]at a
  refine⟨by rw[n.r.length];exact Qt c lim,λad had=>?_⟩;obtain⟨k2,r2,n2,dp2⟩:=n.hid k' had (o:=.tup vs);exact a (.ref ad) fp G' _ k2 s' ⟨.tup U7 r2,n.nd,n.b,n.f,dp2⟩
 .rw[Qz c]at a;exact a.elim
end
section
variable{f:M D}{g:M AZ}{ρ ρ1 ρ2:UB}{d:D}{ds:AZ}
theorem O0(h1:f ρ=.ok d ρ1)(h2:g (U4 ρ1)=.ok ds ρ2):Vo f g ρ=.ok (d::ds) ρ1:=by unfold Vo;rw[h1];dsimp only;rw[h2]
theorem EZ{c:AZ->D}(h1:g ρ=.ok ds ρ1)(h2:ds.length<=1000000):(UN g λxs=>if xs.length<=1000000 then UF (c xs)else λ_=>.bad) ρ=.ok (c ds) ρ1:=Kh h1 (by rw[Qp h2];rfl)
end
noncomputable def cTT(s:D->UB->A7)(t:M Bool)(g:M D):AZ->UB->AZ->Option AZ
 |[],_,es=>O es
 |d::r,ρ,es=>match s d ρ with
  |none=>AW
  |some ρ1=>match t ρ1 with
   |.bad=>AW
   |.ok b ρ2=>if b=AX then(match g ρ2 with
     |.ok x ρ3=>if es.length<1000000 then cTT s t g r (U4 ρ3) (es++[x])else AW
     |.bad=>AW)
    else cTT s t g r (U4 ρ2) es
noncomputable def YH(f:M AZ)(k:Nat)(s:D->UB->A7)(t:M Bool)(g:M D):M D:=λρ=>match f ρ with
 |.bad=>.bad
 |.ok ds ρ1=>match cTT s t g ds (U4 ρ1++Um k AW) []with
  |none=>.bad
  |some es=>.ok (.list es) ρ1
structure Pa(Y:Cx)(D':Ue)(pt:Pat)(pins:List (Ue×Obj))(H G:Hp)(es:AZ)(ρ':UB)(σ':St)(H' G':Hp)(vs:List V)(fq:A5)(s':Uc):Prop where
 inv:Inv Y pins σ' H' s'
 eok:EOk Y.K H' G' G' H' σ' ρ'
 hh:∀a o,a≠D'->H a=O o->H' a=O o
 gg:Same G G'
 np:∀a(u:MO),H a=O u.ho->G a=AW->G' a=AW
 hd:H' D'=O (.lst vs)
 gd:G' D'=AW
 pr:RepOl Y.K G' H' pt vs es fq
 nd:fq.Nodup
 fr:∀a∈fq,H a=AW/\G' a=AW
section
variable{Y:Cx}{D':Ue}{pt:Pat}
theorem Cd{tg elt:Ug}{ifs:A4}{code:Code}{s:D->UB->A7}{t:M Bool}{g:M D}{it:Ue}(hx:Y.xe=nox)(hc:Y.calm=AX)
  (rule:VF Y.prog Y.w Y.A tg ifs Y.env (.ref it) code (λQ s=>Ui (model Y.prog Y.w) Y.A (eval elt Y.env) (λx s₄=>Ui (model Y.prog Y.w) Y.A (call (.builtin "list.append") [.ref D',x]) (λ_ s₅=>Q s₅) nox s₄) nox s))
  (hg:∀B1 G1,PG Y tg (tG Y.K B1 G1 s)) (ht:∀B1 G1,Zy Y ifs (tBo Y.K B1 G1 t)) (he:∀B1 G1,PE Y elt (tT Y.K B1 G1 pt g))
  {pins:List (Ue×Obj)} {sh:Uc} {σ:St} {H G:Hp} {ρ:UB} {fp:A5} {tn:Nat->Heap->Prop} {J:It} {ds esF:AZ} {R:Result->Uc->Prop}
  (I:Inv Y pins σ H sh) (T:Turn Y.prog Y.w Y.K tg J fp it tn) (st:tn 0 sh.heap) (hf:∀b∈fp,Kt Y pins H b)
  (k:EOk Y.K H G G H σ ρ) (its:YA Y.K J ds G) (hD:H D'=O (.lst [])) (gD:G D'=AW) (zl:cTT s t g ds ρ []=O esF)
  (qy:∀ρ' σ' H' G' vs' fq s',Pa Y D' pt pins H G esF ρ' σ' H' G' vs' fq s'->R (.ok .next) s'):codeAny (model Y.prog Y.w) Y.A code R sh:=by
 have stat:∀{H':Hp},(∀b∈fp,H' b=AW)->∀b∈fp,Kt Y pins H' b:=λhn b hb=>⟨hn b hb,(hf b hb).2⟩
 refine rule R (λn s'=>∃i σ' H' G' ρ' vs' es' fq,n=ds.length-i/\tn i s'.heap/\(∀b∈fp,H' b=AW)/\Pa Y D' pt pins H G es' ρ' σ' H' G' vs' fq s'/\cTT s t g (ds.drop i) ρ' es'=O esF) ds.length sh
  ⟨0,σ,H,G,ρ,[],[],[],rfl,st,λb hb=>(hf b hb).1,⟨I,k,λ_ _ _ q=>q,.refl _,λ_ _ _ z=>z,hD,gD,.nil,List.nodup_nil,λ_ m=>nomatch m⟩,by rw[List.drop_zero];exact zl⟩ ?_
 rintro n s' ⟨i,σ',H',G',ρ',vs',es',fq,rfl,jD,jV,⟨I',k',qM,qE,jt,qr,gD',jr,qt,ff'⟩,zc⟩
 have keepN:∀{G6 H6:Hp}{σ6:St}{ρ6:UB},EOk Y.K H' G' G6 H6 σ6 ρ6->∀a(u:MO),H a=O u.ho->G a=AW->G6 a=AW:=λ{G6 H6 σ6 ρ6} k6 a u e z=>by
  by_cases hz:a=D'
  .subst hz;exact k6.np _ (.l _) qr gD'
  .exact k6.np a u (qM a _ hz e) (jt a u e z)
 have keepF:∀{G6 H6:Hp}{σ6:St}{ρ6:UB},EOk Y.K H' G' G6 H6 σ6 ρ6->∀a∈fq,H a=AW/\G6 a=AW:=λ{G6 H6 σ6 ρ6} k6 a m=>by obtain⟨u,hu⟩:=jr.isl a m;exact⟨(ff' a m).1,k6.np a u hu (ff' a m).2⟩
 by_cases hlt:i<ds.length
 .rw[JJ hlt,cTT]at zc
  cases zs:s ds[i] ρ' with
  |none=>rw[zs]at zc;cases zc
  |some ρ2=>
  rw[zs]at zc;dsimp only at zc;cases zt:t ρ2 with
  |bad=>rw[zt]at zc;cases zc
  |ok b ρ3=>
  rw[zt]at zc;dsimp only at zc;refine thn (T.item Y AV AV AV hc i pins s' σ' H' nox I' (stat jV) jD (its.go i G' H' qE k'.gh hlt)) λrr s4 ⟨u,hr,h4⟩=>?_;subst hr;refine thn h4 λ_ s5 ⟨x,H5,I5,r5,y5,qL,jU⟩=>?_
  obtain⟨G5,e5,rx⟩:=its.yld i G' H' x H5 ds[i] qE k'.gh (Qm hlt) y5;have h6:=hg H' G' _ s5 σ' H5 x u (λσ6 H6=>∃G6,EOk Y.K H' G' G6 H6 σ6 ρ2) (I5.pinned (stat jU) (T.obj _ _ qL)) r5 ⟨G5,ρ',ds[i],ρ2,k'.ext e5,rx,zs,λσ6 G6 H6 k6 _=>⟨G6,k6⟩⟩;rw[hx]at h6;refine thn h6 λ_ s6 ⟨σ6,H6,I6,G6,k6⟩=>?_;have h7:=ht H' G' _ s6 σ6 H6 (λc H7=>c=b/\∃G7,EOk Y.K H' G' G7 H7 σ6 ρ3) I6 ⟨G6,ρ2,k6,by unfold aft;rw[zt];exact λc G7 H7 k7 _ q=>⟨q,G7,k7⟩⟩
  rw[hx]at h7;refine thn h7 λok s7 ⟨H7,I7,hb7,G7,k7⟩=>?_;subst hb7
  have again:∀{H9:Hp}{σ9:St}{s9:Uc},Inv Y (pins++Vr fp s5.heap) σ9 H9 s9->Inv Y pins σ9 H9 s9/\tn (i+1) s9.heap/\∀b∈fp,H9 b=AW:=λ{H9 σ9 s9} I9=>by refine⟨I9.unpinned,T.keep _ _ _ qL λb hb o e=>(I9.pin (b,o) (Qo _ (Qo _ (VH hb e)))).1,λb hb=>?_⟩;obtain⟨o,e,d⟩:=T.obj _ _ qL b hb;exact(I9.pin (b,o) (Qo _ (Qo _ (VH hb e)))).2.1
  have lt:ds.length-(i+1)<ds.length-i:=Nat.sub_lt_sub_left hlt (Nat.lt_succ_self i);cases ok with
  |false=>rw[Qz (by decide)]at zc⊢;obtain⟨J1,J2,J3⟩:=again I7;exact⟨_,lt,i+1,σ6,H7,G7,U4 ρ3,vs',es',fq,rfl,J2,J3,⟨J1,k7.rebase,λa o z q=>k7.bh a o (qM a o z q),qE.trans k7.g0,keepN k7,k7.bh _ _ qr,k7.np _ (.l _) qr gD',jr.mono k7.g0 k7.bh,qt,keepF k7⟩,zc⟩
  |true=>
   rw[Qp AV]at zc⊢;cases zg:g ρ3 with
   |bad=>rw[zg]at zc;cases zc
   |ok dE ρ4=>
   rw[zg]at zc;dsimp only at zc;split at zc
   .rename_i hle
    have h8:=he H' G' _ s7 σ6 H7 (λv H8=>∃fv G8,EOk Y.K H' G' G8 H8 σ6 ρ4/\NewT Y.K H' G8 H8 σ6 ρ4 pt v dE fv) I7 ⟨G7,ρ3,k7,by rw[zg];exact λv fv G8 H8 k8 _ n=>⟨fv,G8,k8,n⟩⟩;rw[hx]at h8;refine thn h8 λev s8 ⟨v,H8,I8,rv,fv,G8,k8,n8⟩=>?_;have g8:=k8.np _ (.l _) qr gD';have hD8:=k8.bh _ _ qr;have h2:=VA _ s8 σ6 H8 (.ref D') [v] (.ref D') [ev] (λ_ H9=>H9=upd H8 D' (.lst (vs'++[v]))) I8 AV (.cons rv .nil) ⟨D',vs',v,rfl,rfl,hD8,by have:=lim1;rw[jr.length];omega,rfl⟩
    rw[hx]at h2;refine thn h2 λ_ s9 ⟨_,H9,I9,_,e9⟩=>?_;subst e9
    obtain⟨J1,J2,J3⟩:=again I9;have nt:∀ws,H8 D'≠O (.tup ws):=λws z=>by rw[hD8]at z;cases z
    have nq:D'∉fq:=λm=>by have:=(ff' D' m).1;rw[hD]at this;cases this
    have nv:D'∉fv:=λm=>by have:=(n8.b D' m).1;rw[qr]at this;cases this
    have up:∀b o,b≠D'->H8 b=O o->upd H8 D' (.lst (vs'++[v])) b=O o:=λb o z q=>by rw[UW z];exact q
    have fvH:∀b∈fv,H b=AW:=λb m=>by
     cases q:H b with
     |none=>rfl
     |some o=>have:=qM b o (λz=>by subst z;exact nv m) q;rw[(n8.b b m).1]at this;cases this
    refine⟨_,lt,i+1,σ6,_,G8,_,_,_,fq++(fv++[]),rfl,J2,J3,⟨J1,k8.beside g8,λa o z q=>up a o z (k8.bh a o (qM a o z q)),qE.trans k8.g0,keepN k8,U7,g8,
     ((jr.mono k8.g0 k8.bh).upd nt nq).append (.cons (n8.r.upd nt nv) .nil),?_,λa m=>?_⟩,zc⟩
    .rw[QR]
     refine QI.mpr ⟨qt,n8.nd,λx hx y hy z=>?_⟩;subst z;obtain⟨u,hu⟩:=jr.isl x hx;rw[(n8.b x hy).1]at hu;cases hu
    .rw[QR]at m
     rcases QE.mp m with m|m
     .exact keepF k8 a m
     .exact⟨fvH a m,(n8.b a m).2⟩
   .cases zc
 .rw[List.drop_eq_nil_of_le (Q0 hlt),cTT]at zc
  cases zc;refine thn (T.done Y AV AV AV hc i pins s' σ' H' nox I' (stat jV) jD (its.stop i G' H' qE k'.gh (Q0 hlt))) λrr s4 ⟨hr,I6⟩=>?_
  subst hr;exact qy ρ' σ' H' G' vs' fq s4 ⟨I6,k',qM,qE,jt,qr,gD',jr,qt,ff'⟩
end
section
variable{X:Cx}{B G0:Hp}{KX:XW}{pt:Pat}
def VJ(X:Cx)(N2:List Str)(scope:Scope)(elt tg:Ug)(ifs:A4)(s:D->UB->A7)(t:M Bool)(pt:Pat)(g:M D):Prop:=
 ∀(cl:List (Str×Ue))(C:Ue)(s₀:Uc)(H₀:Hp)(ex:A5),(∀B' G',PG (X.blk N2 scope cl C s₀ H₀ ex) tg (tG X.K B' G' s))/\(∀B' G',Zy (X.blk N2 scope cl C s₀ H₀ ex) ifs (tBo X.K B' G' t))/\∀B' G',PE (X.blk N2 scope cl C s₀ H₀ ex) elt (tT X.K B' G' pt g)
theorem BW{f:M AZ}{k:Nat}{s:D->UB->A7}{t:M Bool}{g:M D}{ρ ρ':UB}{d:D}(h:YH f k s t g ρ=.ok d ρ'):∃ds es,d=.list es/\f ρ=.ok ds ρ'/\cTT s t g ds (U4 ρ'++Um k AW) []=O es:=by
 unfold YH at h;cases zf:f ρ with
 |bad=>rw[zf]at h;cases h
 |ok ds ρ1=>
 rw[zf]at h;dsimp only at h;cases zl:cTT s t g ds (U4 ρ1++Um k AW) []with
 |none=>rw[zl]at h;cases h
 |some es'=>rw[zl]at h;cases h;exact⟨ds,es',rfl,rfl,zl⟩
theorem Cc{tg elt iter:Ug}{ifs:A4}{scope:Scope}{pos pos':Pos}{N2:List Str}{k:Nat}{f:M AZ}{s:D->UB->A7}{t:M Bool}{g:M D}{use:Option (Ub->Sem Unit)}{Qc:Ub->Uc->Prop}(hc:X.calm=AX)
  (hi:PI X tg iter (iD X.K B G0 f)) (qg:VJ X N2 scope elt tg ifs s t pt g) (hb:Wt X.env.scope scope X.N N2 k) (hs:∀x,UA iter X.env x=pure x)
  {pins:List (Ue×Obj)} {s0:Uc} {σ:St} {G H:Hp} {ρ ρ1:UB} {ds esF:AZ} (I:Inv X pins σ H s0) (k0:EOk X.K B G0 G H σ ρ) (zf:f ρ=.ok ds ρ1) (zl:cTT s t g ds (U4 ρ1++Um k AW) []=O esF)
  (qy:∀(C:Ue)(v:V)(fq:A5)(u:Ub)(G' H':Hp)(s4:Uc)(m:Str->A3),RelV v u->Inv X pins σ H' s4->s4.heap.Ns C m->H' C=AW->C≠X.env.locals->X.s₀.heap.objs.size<=C->(∀x c,X.env.cells.lookup x=O c->c≠C)->(∀p∈X.pn++pins,p.1≠C) ->
   EOk X.K B G0 G' H' σ ρ1->Same G G'->NewT X.K B G' H' σ ρ1 (.lst pt) v (.list esF) fq->compPost (model X.prog X.w) X.A X.xe use Qc u C (.ok .next) s4) :
  Ui (model X.prog X.w) X.A (comprehension (.ListComp elt [⟨tg,iter,ifs,0⟩] scope pos) scope X.env pos' (newList []) AY (eval iter X.env) use) Qc X.xe s0:=by
 obtain⟨jo,hcl,je,km⟩:=NH (scope:=scope) (env:=X.env) λy hy hf=>I.ok.has y.1 (hb.free y hy hf)
 refine wpAny_comprehension_free (use:=use) AV hs hcl hb.kind (λy hy hl=>(hb.names y hy).trans (by rw[hl])) (thn (hi pins s0 σ H (λJ H1=>∃G1,EOk X.K B G0 G1 H1 σ ρ1/\Same G G1/\YA X.K J ds G1) I ⟨G,ρ,k0,by rw[zf];exact λJ G1 H1 k1 s1 it=>⟨G1,k1,s1,it⟩⟩) λv s1 h1=>thn h1 λitv s2 h2=>?_);obtain⟨it,fp,tn,J,H2,rfl,I2,T,st2,f2,G1,k1,sg1,its⟩:=h2;refine JD (Pz je km hb.names (λx c e=>let ⟨_,q⟩:=I2.cell x c e;QA q.lt (by first|exact Qq _|(rw[Jq];exact Jr _))) λh₁ cl hns₁ kept hco=>?_);dsimp only at hns₁ kept hco⊢;have hfr:H2 s2.heap.objs.size=AW:=I2.hok.fresh (Qq _)
 have I3:Inv X pins σ (upd H2 s2.heap.objs.size (.lst [])) {s2 with heap:=s2.heap.push {cls:=.type "list", dict:=AW,data:=.seq ([]:A0).toArray}}:=
  I2.laid (t':=s2.toks) (λb u e=>Qe _ e) (Qq _) ⟨JX _,[],0,.nil,QD _ AV⟩
 generalize hP:s2.heap.push {cls:=.type "list", dict:=AW,data:=.seq ([]:A0).toArray}=P at I3 hns₁ kept hco⊢;have old:∀b o,s2.heap.get? b=O o->P.get? b=O o:=λb o e=>hP ▸ Qe _ e;have fpo:∀b∈fp,∃o,s2.heap.get? b=O o:=λb hb=>let ⟨o,e,_⟩:=T.obj _ _ st2 b hb;⟨o,e⟩
 have fpD:∀b∈fp,b≠s2.heap.objs.size:=λb hb=>let ⟨o,e⟩:=fpo b hb;QQ (Qf e)
 have f3:∀b∈fp,Kt X pins (upd H2 s2.heap.objs.size (.lst [])) b:=λb hb=>⟨by rw[UW (fpD b hb)];exact(f2 b hb).1,(f2 b hb).2⟩
 have I4:=I3.enter (scope:=scope) (cl:=cl) (N2:=N2) (k:=k) (fp:=fp) (t':=s2.toks) hb.b hb.kind hb.free hco hns₁ kept f3 (λb hb=>let ⟨o,e⟩:=fpo b hb;⟨o,old b o e⟩);dsimp only at I4;have gD:G1 s2.heap.objs.size=AW:=k1.gh.free hfr;have kb:=(k1.beside (o:=.lst []) gD).more k;have sH:Same H2 (upd H2 s2.heap.objs.size (.lst [])):=KN hfr;have jA:upd H2 s2.heap.objs.size (.lst []) s2.heap.objs.size=O (.lst []):=U7;generalize upd H2 s2.heap.objs.size (.lst [])=H3 at I3 I4 f3 kb sH jA;generalize s2.heap.objs.size=D at *;have jC:tn 0 h₁:=T.keep 0 _ _ st2 λb hb o e=>kept b o (old b o e)
 have stat:∀b∈fp,Kt (X.blk N2 scope cl P.objs.size {s2 with heap:=P} H3 fp) pins H3 b:=λb hb=>by
  obtain⟨z0,z1,z2,z3,z4,z5⟩:=f3 b hb;obtain⟨o,e⟩:=fpo b hb;refine⟨z0,QQ (Qf (old b o e)),λz=>?_,.inl hb,λx c q=>(hco.old x c q).elim (z4 x c) λw=>Jk (Nat.lt_trans (Qf (old b o e)) w.1),z5⟩;rcases QM.mp (I3.stkSub b z)with q|q
  .exact z1 q
  .exact z2 q
 have neD:∀a o,H2 a=O o->a≠D:=λa o q z=>by subst z;rw[hfr]at q;cases q
 obtain⟨hg,ht,he⟩:=qg cl P.objs.size {s2 with heap:=P} H3 fp
 have loop:=Cd (Y:=X.blk N2 scope cl P.objs.size {s2 with heap:=P} H3 fp) (D':=D) (R:=compPost (model X.prog X.w) X.A X.xe use Qc (.ref D) P.objs.size) AV hc (Nf (elt:=elt) (gens:=[⟨tg,iter,ifs,0⟩]) (scope:=scope) (pos:=pos) (j:=0) (i:=iter) AV AV) hg ht he I4 T jC stat kb its jA gD zl λρ' σ' H' G' vs' fq s4 L=>by
   obtain⟨m,hm,_⟩:=id L.inv.loc;have I7:Inv X pins σ H' s4:=I3.call' (ch:=fp) L.inv.os L.inv.base L.inv.hok L.inv.bare λb hb=>⟨(f3 b hb).2.2.2.1,(f3 b hb).2.1,(f3 b hb).2.2.2.2.1,(f3 b hb).2.2.2.2.2⟩;have hH:Same H2 H':=λa o q=>L.hh a o (neD a o q) (sH a o q)
   have hf2:∀a,H3 a=AW->H2 a=AW:=λa q=>by
    cases z:H2 a with
    |none=>rfl
    |some o=>rw[sH a o z]at q;cases q
   have ex:Ext G1 H2 G' H':=⟨hH,L.gg,L.eok.gh,λa u e z=>L.np a u (sH a _ e) z⟩
   refine qy P.objs.size (.ref D) (D::fq) (.ref D) G' H' s4 m AV I7 hm L.inv.free (Jk I3.lt) I3.sz (λx c e z=>by obtain⟨_,q⟩:=I3.cell x c e;exact absurd q.lt (by rw[z];exact Jn _)) (λp hp z=>by have:=Qf (I3.pin p hp).1;exact absurd this (by rw[z];exact Jn _))
    (k1.ext ex) (sg1.trans L.gg) (k1.newT hH (.lst L.hd L.pr) (Jf.mpr ⟨(λm=>by have:=(L.fr D m).1;rw[jA]at this;cases this),L.nd⟩) λa m=>?_)
   rcases QM.mp m with rfl|m
   .exact⟨hfr,L.gd⟩
   .exact⟨hf2 a (L.fr a m).1,(L.fr a m).2⟩
 exact codeAny_compStart_list loop (T.self X.A 0 _ _ _ jC loop)
theorem R9{tg elt iter:Ug}{ifs:A4}{scope:Scope}{pos:Pos}{N2:List Str}{k:Nat}{f:M AZ}{s:D->UB->A7}{t:M Bool}{g:M D}(hc:X.calm=AX)
  (hi:PI X tg iter (iD X.K B G0 f)) (qg:VJ X N2 scope elt tg ifs s t pt g) (hb:Wt X.env.scope scope X.N N2 k) (hs:∀x,UA iter X.env x=pure x:=by intro _;rfl) :
  PE X (.ListComp elt [⟨tg,iter,ifs,0⟩] scope pos) (tT X.K B G0 (.lst pt) (YH f k s t g)):=by
 intro pins s0 σ H Q I ⟨G,ρ,k0,a⟩;cases z:YH f k s t g ρ with
 |bad=>rw[z]at a;exact a.elim
 |ok d ρ1=>
 rw[z]at a;obtain⟨ds,es,rfl,zf,zl⟩:=BW z;rw[eval_ListComp];refine Cc hc hi qg hb hs I k0 zf zl λC v fq u G' H' s4 m rv I7 hm hC hL hz hcl hp k' s' n=>?_
 exact⟨m,hm,λh' sb=>⟨v,H',I7.turned (t':=s4.toks) (it:=C) (λb o hb e=>(sb.2 b hb).trans e) hC hL (.inr hz) hcl hp,rv,a v fq G' H' k' s' n⟩⟩
theorem Hf{gl:List Str}{tg elt iter:Ug}{ifs:A4}{scope:Scope}{pos:Pos}{f:M AZ}{s:D->UB->A7}{t:M Bool}{g:M D}{k:Nat}{SC:Scope}{N1:List Str}(H:FnNm SC N1 gl)(hc:X.calm=AX)
  (hi:PI X tg iter (iD X.K B G0 f)) (qg:VJ X (blN N1 [⟨tg,iter,ifs,0⟩]) scope elt tg ifs s t pt g) (hb:YK Xd SC scope N1 (blN N1 [⟨tg,iter,ifs,0⟩]) k=AX) (h1:X.env.scope=SC:=by rfl) (h2:X.N=N1:=by rfl) (hs:∀x,UA iter X.env x=pure x:=by intro _;rfl) :
  PE X (.ListComp elt [⟨tg,iter,ifs,0⟩] scope pos) (tT X.K B G0 (.lst pt) (YH f k s t g)):=R9 hc hi qg (by rw[h1,h2];exact Rh hb) hs
theorem Fz{scope0:Scope}{cl:List (Str×Ue)}{C:Ue}{s₀:Uc}{H₀:Hp}{ex:A5}{N2:List Str}{tg elt iter:Ug}{ifs:A4}{scope:Scope}{pos:Pos}{f:M AZ}{s:D->UB->A7}{t:M Bool}{g:M D}{k:Nat}(hc:X.calm=AX)
  (hi:PI (X.blk N2 scope0 cl C s₀ H₀ ex) tg iter (iD X.K B G0 f)) (qg:VJ (X.blk N2 scope0 cl C s₀ H₀ ex) (blN N2 [⟨tg,iter,ifs,0⟩]) scope elt tg ifs s t pt g) (hb:YK Xd scope0 scope N2 (blN N2 [⟨tg,iter,ifs,0⟩]) k=AX) (hs:∀x,UA iter (X.blk N2 scope0 cl C s₀ H₀ ex).env x=pure x:=by intro _;rfl) :
  PE (X.blk N2 scope0 cl C s₀ H₀ ex) (.ListComp elt [⟨tg,iter,ifs,0⟩] scope pos) (tT X.K B G0 (.lst pt) (YH f k s t g)):=by
 refine R9 (X:=X.blk N2 scope0 cl C s₀ H₀ ex) hc hi qg (RJ hb λx e=>?_) hs;cases z:scope0.names.lookup x with
 |none=>rw[z]at e;cases e
 |some y=>
  rw[z]at e;cases y with
  |free=>exact(Su (env:=X.env) z).symm
  |cell=>exact .inl (Xq (by decide) z)
  |_=>cases e
end
section
variable{X:Cx}{B G0:Hp}{KX:XW}{e o:Ug}{es:A4}{pos:Pos}{pt:Pat}
theorem OZ{f:M AZ}{k:Nat}{s:D->UB->A7}{t:M Bool}{g:M D}{ρ ρ1:UB}{ds es:AZ}(h1:f ρ=.ok ds ρ1)(h2:cTT s t g ds (U4 ρ1++Um k AW) []=O es):YH f k s t g ρ=.ok (.list es) ρ1:=by unfold YH;rw[h1];dsimp only;rw[h2]
end
section
variable{K:Frag}{B G0 G H:Hp}{σ:St}{ρ:UB}
theorem BV{i:Nat}{p:Pat}{d:D}(h:ρ[i]?=O (O (.deep p d))):ZT ρ i=O (p,d):=by unfold ZT;rw[h]
theorem EOk.mutN{j:Nat}{p pn:Pat}{d d' dn:D}{v vn:V}{fp fp' fn:A5}{a:Ue}{o:HO}(k:EOk K B G0 G H σ ρ)(hd:ρ[j]?=O (O (.deep p d)))(hv:σ[j]?=O (O v))(r:RepO K G H p v d fp)(ha:a∈fp)
  (n:NewT K B G H σ ρ pn vn dn fn) (r':RepO K G (upd H a o) p v d' fp') (qt:fp'.Nodup) (sub:∀b∈fp',b∈fp∨b∈fn):EOk K B G0 G (upd H a o) σ (ρ.set j (O (.deep p d'))):=by
 obtain⟨ω,k1,k2⟩:=k.dp;obtain⟨v0,fp0,s0,r0,n0,w0⟩:=k1 j p d hd;rw[hv]at s0;cases s0;have e0:=r0.uniq (.refl _) r;subst e0;obtain⟨hb,hg,hw⟩:=w0 a ha;obtain⟨ws,hl⟩:=r.isl a ha;have nt:∀vs,H a≠O (.tup vs):=λvs z=>by rw[hl]at z;cases ws<;>cases z
 have nz:∀{m:Nat}{s:Sl},j≠m->(ρ.set j (O (.deep p d')))[m]?=O (O s)->ρ[m]?=O (O s):=λ{m s} z q=>by rw[Ql z]at q;exact q
 refine⟨λb u e=>?_,λb u e=>?_,k.g0,k.np,by rw[QW];exact k.len,λm dm e=>?_,λm es e=>?_,λm l c es fs q1 q2 s1 s2=>?_,λb=>if b∈fn then j else ω b,λm pm dm e=>?_,λm es b e s=>?_⟩
 .rw[UW (ZE e hb)];exact k.bh b u e
 .rw[UW (ZE e hg)];exact k.gh b u e
 .by_cases z:j=m
  .subst z;have:=Ku e;cases this
  .exact k.pub m dm (nz z e)
 .by_cases z:j=m
  .subst z;have:=Ku e;cases this
  .have e:=nz z e
   obtain⟨c,us,g1,g2,g3,g4,g5⟩:=k.own m es e;have zc:c≠a:=λw=>by subst w;exact z (hw.symm.trans (k2 m es c e g1))
   exact⟨c,us,g1,g2,g3,by rw[UW zc];exact g4,g5⟩
 .have z1:j≠m:=λz=>by subst z;have:=Ku q1;cases this
  have z2:j≠l:=λz=>by subst z;have:=Ku q2;cases this
  exact k.sep m l c es fs (nz z1 q1) (nz z2 q2) s1 s2
 .by_cases z:j=m
  .subst z
   have:=Ku e;cases this;refine⟨v,fp',hv,r',qt,λb mb=>?_⟩;dsimp only;by_cases hbn:b∈fn
   .rw[Qp hbn];exact⟨(n.b b hbn).1,(n.b b hbn).2,rfl⟩
   .rw[Qz hbn]
    rcases sub b mb with mb|mb
    .exact w0 b mb
    .exact(hbn mb).elim
  .have e:=nz z e
   obtain⟨vm,fm,sm,rm,nm,wm⟩:=k1 m pm dm e;refine⟨vm,fm,sm,rm.upd nt (λmm=>z (hw.symm.trans (wm a mm).2.2)),nm,λb mb=>⟨(wm b mb).1,(wm b mb).2.1,?_⟩⟩;dsimp only;rw[Qz (λy=>n.dp b y m pm dm vm fm e sm rm mb)];exact(wm b mb).2.2
 .have z:j≠m:=λz=>by subst z;have:=Ku e;cases this
  have e:=nz z e;dsimp only;rw[Qz (λy=>n.f b y m es e s)];exact k2 m es b e s
end
abbrev TyM:=Ue->Option Nat
def SpI(H:Hp)(T:TyM)(c:Nat):Prop:=∀a n,T a=O n->∃vs,H a=O (.lst vs)/\vs.length<=c/\∀m,n=m+1->∀v∈vs,∃b,v=.ref b/\T b=O m
noncomputable def Y1(H:Hp):A8->V->Option V
 |[],v=>O v
 |k::r,.ref a=>match H a with
  |some (.tup vs)=>(vs[k]?).bind (Y1 H r)
  |_=>AW
 |_,_=>AW
theorem T8{H:Hp}:∀{π:A8}{v u:V},Y1 H π v=O u->ZS H π v=O u
 |[],v,u,e=>by cases e;rfl
 |k::r,.ref a,u,e=>by
  unfold Y1 at e;unfold ZS;split at e
  .rename_i vs h
   rw[h];dsimp only;cases z:vs[k]? with
   |none=>rw[z]at e;cases e
   |some w=>rw[z]at e;exact T8 e
  .cases e
 |k::r,.int _,u,e=>nomatch e
 |k::r,.non,u,e=>nomatch e
 |k::r,.bl _,u,e=>nomatch e
 |k::r,.str _,u,e=>nomatch e
abbrev Gam:=List (Nat×A8×Nat)
def GOk(H:Hp)(T:TyM)(σ:St)(Γ:Gam):Prop:=∀x∈Γ,∃v a,σ[x.1]?=O (O v)/\Y1 H x.2.1 v=O (.ref a)/\T a=O x.2.2
structure SpR(H:Hp)(T:TyM)(σ:St)(ns:A8)(top:Nat)(H':Hp)(T':TyM)(σ':St):Prop where
 oth:∀a u,T a=AW->H a=O u->H' a=O u
 ext:∀a n,T a=O n->T' a=O n
 new:∀a n,T' a=O n->T a=O n∨H a=AW
 low:∀a n,T a=O n->top<n->H' a=H a
 len:σ'.length=σ.length
 st:∀i,i∉ns->σ'[i]?=σ[i]?
section
variable{H H' H'':Hp}{T T' T'':TyM}{σ σ' σ'':St}{ns ms:A8}{top top' c c':Nat}{Γ:Gam}
theorem SpR.refl:SpR H T σ ns top H T σ:=⟨λ_ _ _ q=>q,λ_ _ q=>q,λ_ _ q=>.inl q,λ_ _ _ _=>rfl,rfl,λ_ _=>rfl⟩
theorem SpR.trans(a:SpR H T σ ns top H' T' σ')(b:SpR H' T' σ' ms top H'' T'' σ''):SpR H T σ (ns++ms) top H'' T'' σ'' where
 oth:=λx u t h=>b.oth x u (by
  cases z:T' x with
  |none=>rfl
  |some n=>
   rcases a.new x n z with q|q
   .rw[t]at q;cases q
   .rw[h]at q;cases q) (a.oth x u t h)
 ext:=λx n q=>b.ext x n (a.ext x n q)
 new:=λx n q0=>by
  rcases b.new x n q0 with q|q
  .exact a.new x n q
  .cases z:T x with
   |some m=>have h1:=b.ext x m (a.ext x m z);rw[q0]at h1;cases h1;exact .inl AV
   |none=>
    cases y:H x with
    |none=>exact .inr AV
    |some u=>rw[a.oth x u z y]at q;cases q
 low:=λx n q l=>(b.low x n (a.ext x n q) l).trans (a.low x n q l)
 len:=b.len.trans a.len
 st:=λi h=>(b.st i λm=>h (Qo _ m)).trans (a.st i λm=>h (Qu _ m))
theorem SpR.up(a:SpR H T σ ns top H' T' σ')(h:top<=top'):SpR H T σ ns top' H' T' σ':=⟨a.oth,a.ext,a.new,λx n q l=>a.low x n q (Nat.lt_of_le_of_lt h l),a.len,a.st⟩
theorem NZ(I:SpI H T c)(a:SpR H T σ ns top H' T' σ'):∀{π:A8}{v u:V},Y1 H π v=O u->Y1 H' π v=O u
 |[],v,u,e=>e
 |k::r,.ref x,u,e=>by
  unfold Y1 at e⊢;split at e
  .rename_i vs h
   have:T x=AW:=by
    cases z:T x with
    |none=>rfl
    |some n=>obtain⟨ws,hw,_⟩:=I x n z;rw[h]at hw;cases hw
   rw[a.oth x _ this h];dsimp only;cases z:vs[k]? with
   |none=>rw[z]at e;cases e
   |some w=>rw[z]at e;exact NZ I a e
  .cases e
 |k::r,.int _,u,e=>nomatch e
 |k::r,.non,u,e=>nomatch e
 |k::r,.bl _,u,e=>nomatch e
 |k::r,.str _,u,e=>nomatch e
theorem GOk.keep(I:SpI H T c)(g:GOk H T σ Γ)(a:SpR H T σ ns top H' T' σ')(h:∀x∈Γ,x.1∉ns):GOk H' T' σ' Γ:=λx m=>by obtain⟨v,b,h1,h2,h3⟩:=g x m;exact⟨v,b,by rw[a.st x.1 (h x m)];exact h1,NZ I a h2,a.ext b _ h3⟩
theorem SpI.le(I:SpI H T c)(h:c<=c'):SpI H T c':=λa n q=>let ⟨vs,h1,h2,h3⟩:=I a n q;⟨vs,h1,Qt h2 h,h3⟩
theorem SpI.put{a:Ue}{n:Nat}{us:List V}(I:SpI H T c)(h:c<=c')(ha:T a=O n)(hl:us.length<=c')(ty:∀m,n=m+1->∀v∈us,∃b,v=.ref b/\T b=O m):SpI (upd H a (.lst us)) T c':=λb k q=>by
 by_cases z:b=a
 .subst z
  rw[ha]at q;cases q;exact⟨us,U7,hl,ty⟩
 .obtain⟨vs,h1,h2,h3⟩:=I b k q
  exact⟨vs,by rw[UW z];exact h1,Qt h2 h,h3⟩
theorem SpR.put{a:Ue}{n:Nat}{o:HO}(ha:T a=O n)(h:n<=top):SpR H T σ ns top (upd H a o) T σ:=
 ⟨λb u q e=>by rw[UW (λz=>by subst z;rw[ha]at q;cases q)];exact e,λ_ _ q=>q,λ_ _ q=>.inl q,λb m q l=>by rw[UW (λz=>by subst z;rw[ha]at q;cases q;exact absurd l (Nat.not_lt.mpr h))],rfl,λ_ _=>rfl⟩
noncomputable def KF(T:TyM)(a:Ue)(m:Nat):TyM:=λb=>if b=a then O m else T b
theorem SpI.new{a:Ue}{m:Nat}{us:List V}(I:SpI H T c)(ha:H a=AW)(hl:us.length<=c)(ty:∀k,m=k+1->us=[]):SpI (upd H a (.lst us)) (KF T a m) c/\SpR H T σ ns top (upd H a (.lst us)) (KF T a m) σ:=by
 have tn:T a=AW:=by
  cases z:T a with
  |none=>rfl
  |some n=>obtain⟨ws,hw,_⟩:=I a n z;rw[ha]at hw;cases hw
 have ne:∀{b n},T b=O n->b≠a:=λ{b n} q z=>by subst z;rw[tn]at q;cases q
 refine⟨λb k q=>?_,λb u q e=>?_,λb n q=>?_,λb n q=>?_,λb n q l=>?_,rfl,λ_ _=>rfl⟩
 .unfold KF at q
  by_cases z:b=a
  .subst z
   rw[Qp AV]at q;cases q;exact⟨us,U7,hl,λk e v mv=>by rw[ty k e]at mv;cases mv⟩
  .rw[Qz z]at q
   obtain⟨vs,h1,h2,h3⟩:=I b k q;refine⟨vs,by rw[UW z];exact h1,h2,λk' e v mv=>?_⟩;obtain⟨b',e1,e2⟩:=h3 k' e v mv;exact⟨b',e1,by unfold KF;rw[Qz (ne e2)];exact e2⟩
 .rw[UW (λz=>by subst z;rw[ha]at e;cases e)];exact e
 .unfold KF;rw[Qz (ne q)];exact q
 .unfold KF at q
  by_cases z:b=a
  .subst z;exact .inr ha
  .rw[Qz z]at q;exact .inl q
 .exact UW (ne q)
end
noncomputable def Kn(Γ:Gam)(ns:A8)(top:Nat)(κ:Nat->Nat):TS:=λDn σ H=>∃T c,SpI H T c/\GOk H T σ Γ/\κ c<=1000000/\(∀i∈ns,i<σ.length)/\∀σ' H' T',SpR H T σ ns top H' T' σ'->SpI H' T' (κ c)->Dn.nx σ' H'
noncomputable def Tj(Γ:Gam)(j:Nat)(π:A8):Option Nat:=Γ.findSome? λx=>if x.1=j/\x.2.1=π then O x.2.2 else AW
theorem RB{Γ:Gam}{j:Nat}{π:A8}{n:Nat}(h:Tj Γ j π=O n):(j,π,n)∈Γ:=by
 obtain⟨⟨a,b,c⟩,m,e⟩:=List.exists_of_findSome?_eq_some h;split at e
 .rename_i hh
  obtain⟨h1,h2⟩:=hh;cases e;cases h1;cases h2;exact m
 .cases e
noncomputable def itK(κ:Nat->Nat):Nat->Nat->Nat
 |0,c=>c
 |n+1,c=>κ (itK κ n c)
noncomputable def kA(c:Nat):Nat:=c+1
noncomputable def kC(κ1 κ2:Nat->Nat)(c:Nat):Nat:=κ2 (κ1 c)
noncomputable def kF(κ:Nat->Nat)(c:Nat):Nat:=itK κ c c
def Inf(κ:Nat->Nat):Prop:=∀c,c<=κ c
theorem infA:Inf kA:=λc=>Jr c
theorem infC{κ1 κ2:Nat->Nat}(h1:Inf κ1)(h2:Inf κ2):Inf (kC κ1 κ2):=λc=>Qt (h1 c) (h2 _)
theorem TZ{κ:Nat->Nat}(h:∀c,c<=κ c)(c:Nat):∀{m n:Nat},m<=n->itK κ m c<=itK κ n c
 |m,0,e=>by rw[Nat.le_zero.mp e];exact Qq _
 |m,n+1,e=>by
  by_cases z:m=n+1
  .rw[z];exact Qq _
  .exact Qt (TZ h c (m:=m) (n:=n) (by omega)) (h _)
theorem infF{κ:Nat->Nat}(h:Inf κ):Inf (kF κ):=λc=>TZ h c (m:=0) (n:=c) (JX c)
section
variable{X:Cx}{B G0:Hp}{KX:XW}{e o iter:Ug}{pos:Pos}{st:Stmt}{sts body:List Stmt}{Γ:Gam}{ns ms:A8}{top top':Nat}{κ κ1 κ2:Nat->Nat}{j n:Nat}{π:A8}
theorem He{U:TS}(hn:∀x∈Γ,x.1∉ns)(h1:Inf κ2){Dn:Ends}{σ:St}{H:Hp}(h:Kn Γ (ns++ms) top (kC κ1 κ2) {Dn with nx:=U Dn} σ H):Kn Γ ns top κ1 {Dn with nx:=Kn Γ ms top κ2 {Dn with nx:=U Dn}} σ H:=by obtain⟨T,c,I,g,hk,hl,q⟩:=h;refine⟨T,c,I,g,Qt (h1 _) hk,λi m=>hl i (Qu _ m),λσ' H' T' r I'=>⟨T',κ1 c,I',g.keep I r hn,hk,λi m=>by rw[r.len];exact hl i (Qo _ m),λσ2 H2 T2 r2 I2=>q σ2 H2 T2 (r.trans r2) I2⟩⟩
theorem EY(h1:PS X st (Kn Γ ns top κ1))(h2:PSs X sts (Kn Γ ms top κ2))(hn:∀x∈Γ,x.1∉ns:=by decide +kernel)(hi:Inf κ2:=by repeat' first|exact infI|exact infA|refine infF ?_|refine infC ?_ ?_):PSs X (st::sts) (Kn Γ (ns++ms) top (kC κ1 κ2)):=
 Wb (WI h1 h2) λDn σ H h=>He (U:=λD=>D.nx) hn hi h
theorem Fy(h1:PS X st (Kn Γ ns top κ)):PSs X [st] (Kn Γ ns top κ):=WG h1
theorem Hd{U:TS}(h1:PS X st (Kn Γ ns top κ))(h2:PSs X sts U):PSs X (st::sts) (Yr (Kn Γ ns top κ) U):=WI h1 h2
theorem Hc{u:V}{apos cpos:Pos}(ho:PE X o (ZJ X.K j π))(he:PE X e (tC u))(jj:Tj Γ j π=O 0:=by rfl)
  (hbase:attributeBase o "append" X.env (eval o X.env)=eval o X.env:=by rfl)
  (hfew:((backTo cpos (Uj [e] X.env)).all (λx=>!x.1)&&(backToKw cpos (keywordEach [] X.env)).all (λx=>x.1.isSome)
   && decide ([e].length+([]:List Keyword).length+(if([]:List Keyword).isEmpty then 0 else 1)<30))=AX:=by rfl)
  (hline:(apos.endLine==cpos.line)=AX:=by rfl) (hs:Uj [e] X.env=[(AY,eval e X.env)]:=by rfl)
  (hsw:swapsWith (.Call (.Attribute o "append" apos) [e] [] cpos) AW pos.line X.env=pure AY:=by rfl) :
  PS X (.Expr (.Call (.Attribute o "append" apos) [e] [] cpos) pos) (Kn Γ [] top kA):=
 Kj (Y6 (Vk Jj JO JP VA ho (K5 he ZD (by rw[hs];rfl)) hbase hfew hline (by rw[hs];rfl) AV) hsw) λD σ H ⟨T,c,I,g,hk,hl,q⟩=>by obtain⟨v,ad,h1,h2,h3⟩:=g _ (RB jj);obtain⟨vs,h4,h5,h6⟩:=I ad 0 h3;exact⟨v,h1,Ym.of (T8 h2) ⟨.inl ⟨rfl,_,SqL.of h4⟩,ad,vs,u,rfl,rfl,h4,QA (Nat.lt_of_le_of_lt h5 hk) lim,q σ _ T (SpR.put h3 (JX _)) (I.put (Jr _) h3 (by rw[Qh];exact Nat.succ_le_succ h5) λm e=>(nomatch e))⟩⟩
noncomputable def R8(us:List V):TE:=λ_ H Q=>∀p,H p=AW->Q (.ref p) (upd H p (.lst us))
theorem Fx{u:V}(he:PE X e (tC u))(hs:Uj [e] X.env=[(AY,eval e X.env)]:=by rfl):PE X (.List [e] pos) (R8 [u]):=UY (TW (K5 he ZD (by rw[hs];rfl))) λσ H Q h=>⟨(show 1<=Uh by decide),h⟩
theorem Fw{us:List V}{m:Nat}{apos cpos:Pos}(ho:PE X o (ZJ X.K j π))(he:PE X e (R8 us))(hu:us.length<=1/\(us=[]∨m=0):=by exact⟨by decide,by first|exact .inl rfl|exact .inr AV⟩)(jj:Tj Γ j π=O (m+1):=by rfl)(ht:m+1<=top:=by decide)
  (hbase:attributeBase o "append" X.env (eval o X.env)=eval o X.env:=by rfl)
  (hfew:((backTo cpos (Uj [e] X.env)).all (λx=>!x.1)&&(backToKw cpos (keywordEach [] X.env)).all (λx=>x.1.isSome)
   && decide ([e].length+([]:List Keyword).length+(if([]:List Keyword).isEmpty then 0 else 1)<30))=AX:=by rfl)
  (hline:(apos.endLine==cpos.line)=AX:=by rfl) (hs:Uj [e] X.env=[(AY,eval e X.env)]:=by rfl)
  (hsw:swapsWith (.Call (.Attribute o "append" apos) [e] [] cpos) AW pos.line X.env=pure AY:=by rfl) :
  PS X (.Expr (.Call (.Attribute o "append" apos) [e] [] cpos) pos) (Kn Γ [] top kA):=
 Kj (Y6 (Vk Jj JO JP VA ho (K5 he ZD (by rw[hs];rfl)) hbase hfew hline (by rw[hs];rfl) AV) hsw) λD σ H ⟨T,c,I,g,hk,hl,q⟩=>by
  obtain⟨v,ad,h1,h2,h3⟩:=g _ (RB jj);obtain⟨vs,h4,h5,h6⟩:=I ad (m+1) h3;refine⟨v,h1,Ym.of (T8 h2) ⟨.inl ⟨rfl,_,SqL.of h4⟩,λp hp=>?_⟩⟩;have ne:ad≠p:=λz=>by subst z;rw[h4]at hp;cases hp
  obtain⟨I1,R1⟩:=SpI.new (σ:=σ) (ns:=[]) (top:=top) (m:=m) (us:=us) (I.le (Jr c)) hp (Qt hu.1 (Nat.le_add_left 1 c)) λk e=>hu.2.elim id λz=>by rw[z]at e;cases e
  have t1:=R1.ext ad _ h3;refine⟨ad,vs,.ref p,rfl,rfl,by rw[UW ne];exact h4,QA (Nat.lt_of_le_of_lt h5 hk) lim,?_⟩;refine q σ _ _ (R1.trans (SpR.put t1 ht)) (I1.put (Qq _) t1 (by rw[Qh];exact Nat.succ_le_succ h5) λk e v' mv=>?_);cases e;rcases QE.mp mv with mv|mv
  .obtain⟨b,e1,e2⟩:=h6 m AV v' mv
   exact⟨b,e1,R1.ext b _ e2⟩
  .exact⟨p,QL.mp mv,by unfold KF;rw[Qp AV]⟩
theorem Ps{y:Str}{iy:Nat}{p1 p4:Pos}(hp:PassesOwn (model X.prog X.w) X.A X.env X.xe)(hc:X.calm=AX)(hN:X.N.Nodup)(hy:X.N[iy]?=O y)(ly:Loc X.env.scope y)(ho:PE X iter (ZJ X.K j π))
  (hb:PSs X body (Kn ((iy,[],n)::Γ) ns n κ)) (jj:Tj Γ j π=O (n+1):=by rfl) (htt:n<=top:=by decide) (hi:Inf κ:=by repeat' first|exact infI|exact infA|refine infF ?_|refine infC ?_ ?_) (hn:∀x∈Γ,x.1∉iy::ns:=by decide +kernel) (hyn:iy∉ns:=by decide)
  (hfy:X.fn y=AX∨X.env.scope.names.lookup y=O .local:=by first|exact .inl rfl|exact .inr rfl|assumption) (hs:∀x,UA iter X.env x=pure x:=by intro _;rfl) :
  PS X (.For (.Name y p1) iter body [] p4) (Kn Γ (iy::ns) top (kF κ)):=by
 refine Kj (PP (pos:=p4) hp hc (Dh ho) (Rf (pos:=p1) hN hy ly hfy) hb hs) λDn σ H ⟨T,c,I,g,hk,hl,q⟩=>?_
 obtain⟨v,ad,h1,h2,h3⟩:=g _ (RB jj);obtain⟨vs,h4,h5,h6⟩:=I ad (n+1) h3;refine⟨v,h1,Ym.of (T8 h2) ⟨ad,rfl,⟨vs,SqL.of h4⟩,λi m σ' H'=>m=vs.length-i/\i<=vs.length/\∃T',SpR H T σ (iy::ns) n H' T' σ'/\SpI H' T' (itK κ i c),⟨vs.length,rfl,JX _,T,.refl,I⟩,?_⟩⟩;rintro i m σ' H' ⟨rfl,hle,T',R,I'⟩;have jn:H' ad=O (.lst vs):=(R.low ad _ h3 (Nat.lt_succ_self n)).trans h4;have hiy:iy<σ.length:=hl iy Qg;by_cases hlt:i<vs.length
 .right
  refine⟨⟨vs,vs[i],SqL.of jn,Qm hlt⟩,λσ2 H2=>∃T2,SpR H T σ (iy::ns) n H2 T2 σ2/\SpI H2 T2 (itK κ (i+1) c),λσ2 H2 ⟨T2,r2,i2⟩=>⟨vs.length-(i+1),by omega,rfl,hlt,T2,r2,i2⟩,λx H2 yl=>?_⟩;obtain⟨rfl,yl⟩:=yl;have hx:=yl vs (SqL.of jn);rw[Qm hlt]at hx;cases hx;obtain⟨ws,w1,w2,w3⟩:=I' ad (n+1) (R.ext ad _ h3);rw[jn]at w1;cases w1;obtain⟨b,e1,e2⟩:=w3 n AV vs[i] (JT hlt);show Kn _ _ _ _ _ (σ'.set iy (O vs[i])) _;rw[e1];have gk:=g.keep I R hn;refine⟨T',itK κ i c,I',λx m=>?_,Qt (TZ hi c (m:=i+1) (n:=c) (Qt hlt h5)) hk,λz m=>by rw[QW,R.len];exact hl z (Qj _ m),λσ2 H2 T2 r2 i2=>⟨T2,?_,i2⟩⟩
  .rcases QM.mp m with rfl|m
   .exact⟨.ref b,b,QJ (by rw[R.len];exact hiy),rfl,e2⟩
   .obtain⟨v',b',g1,g2,g3⟩:=gk x m
    exact⟨v',b',by rw[Ql (λz=>hn x m (by rw[z];exact Qg))];exact g1,g2,g3⟩
  .have r3:=R.trans (ms:=iy::ns) (σ'':=σ2) (H'':=H2) (T'':=T2) ⟨r2.oth,r2.ext,r2.new,r2.low,by rw[r2.len,QW],λk ji=>by
    rw[r2.st k (λz=>ji (Qj _ z)),Ql (λz=>ji (by rw[z];exact Qg))]⟩
   exact⟨r3.oth,r3.ext,r3.new,r3.low,r3.len,λk ji=>r3.st k λz=>(QE.mp z).elim ji ji⟩
 .left
  have e:i=vs.length:=by omega
  exact⟨⟨vs,SqL.of jn,Q0 hlt⟩,q σ' H' T' (R.up htt) (I'.le (TZ hi c (by rw[e];exact h5)))⟩
end
noncomputable def dep:Pat->Option Nat
 |.lst p=>O ((dep p).elim 0 (· + 1))
 |_=>AW
noncomputable def Yv:Nat->Pat->List (A8×Nat)
 |_,.lst p=>[([],(dep p).elim 0 (· + 1))]
 |n+1,.tup ps=>ps.zipIdx.flatMap λx=>(Yv n x.1).map λy=>(x.2::y.1,y.2)
 |_,_=>[]
noncomputable def gamO(i n:Nat)(p:Pat):Gam:=(Yv n p).map λx=>(i,x)
noncomputable def eqF:Nat->Pat->Pat->Bool
 |_,.leaf,.leaf=>AX
 |n+1,.lst p,.lst q=>eqF n p q
 |n+1,.tup ps,.tup qs=>ps.length==qs.length&&(ps.zip qs).all λx=>eqF n x.1 x.2
 |_,_,_=>AY
theorem P5{f:Pat->Pat->Bool}(h:∀p q,f p q=AX->p=q):∀{ps qs:List Pat},ps.length=qs.length->(ps.zip qs).all (λx=>f x.1 x.2)=AX->ps=qs
 |[],[],_,_=>rfl
 |[],_::_,e,_=>nomatch e
 |_::_,[],e,_=>nomatch e
 |p::ps,q::qs,e,a=>by rw[JV,JB,Qw]at a;rw[h p q a.1,P5 h (Nat.succ.inj e) a.2]
theorem SQ:∀(n:Nat)(p q:Pat),eqF n p q=AX->p=q
 |0,.leaf,.leaf,_=>rfl
 |0,.lst _,_,h=>by simp[eqF]at h
 |0,.tup _,_,h=>by simp[eqF]at h
 |0,.dic,_,h=>by simp[eqF]at h
 |0,.leaf,.lst _,h=>by simp[eqF]at h
 |0,.leaf,.tup _,h=>by simp[eqF]at h
 |0,.leaf,.dic,h=>by simp[eqF]at h
 |n+1,.leaf,.leaf,_=>rfl
 |n+1,.lst p,.lst q,h=>by rw[SQ n p q h]
 |n+1,.tup ps,.tup qs,h=>by simp only[eqF,Qw,beq_iff_eq]at h;rw[P5 (SQ n) h.1 h.2]
 |n+1,.leaf,.lst _,h=>by simp[eqF]at h
 |n+1,.leaf,.tup _,h=>by simp[eqF]at h
 |n+1,.leaf,.dic,h=>by simp[eqF]at h
 |n+1,.lst _,.leaf,h=>by simp[eqF]at h
 |n+1,.lst _,.tup _,h=>by simp[eqF]at h
 |n+1,.lst _,.dic,h=>by simp[eqF]at h
 |n+1,.tup _,.leaf,h=>by simp[eqF]at h
 |n+1,.tup _,.lst _,h=>by simp[eqF]at h
 |n+1,.tup _,.dic,h=>by simp[eqF]at h
 |n+1,.dic,_,h=>by simp[eqF]at h
noncomputable def Kg:Nat->Nat->Pat->D->Bool
 |n+1,c,.lst p,.list ds=>decide (ds.length<=c)&&ds.all (Kg n c p)
 |n+1,c,.tup ps,.tuple ds=>(ps.zip ds).all λx=>Kg n c x.1 x.2
 |_,_,.leaf,_=>AX
 |_,_,_,_=>AY
section
variable{K:Frag}{G H:Hp}
def TyAt(H:Hp)(T:TyM)(fp:A5)(c:Nat):Prop:=(∀a k,T a=O k->a∈fp)/\SpI H T c
theorem TyAt.join{T1 T2:TyM}{f1 f2:A5}{c:Nat}(h1:TyAt H T1 f1 c)(h2:TyAt H T2 f2 c)(nd:(f1++f2).Nodup):∃T,TyAt H T (f1++f2) c/\(∀a k,T1 a=O k->T a=O k)/\∀a k,T2 a=O k->T a=O k:=by
 have dj:∀{a k},T2 a=O k->T1 a=AW:=λ{a k} q=>by
  cases z:T1 a with
  |none=>rfl
  |some n=>exact((QI.mp nd).2.2 a (h1.1 a n z) a (h2.1 a k q) AV).elim
 have e1:∀a k,T1 a=O k->(T1 a).or (T2 a)=O k:=λa k q=>by rw[q];rfl
 have e2:∀a k,T2 a=O k->(T1 a).or (T2 a)=O k:=λa k q=>by rw[dj q];exact q
 refine⟨λa=>(T1 a).or (T2 a),⟨λa k q=>?_,λa k q=>?_⟩,e1,e2⟩<;>dsimp only at q⊢
 .cases z:T1 a with
  |some n=>exact Qu _ (h1.1 a n z)
  |none=>rw[z]at q;exact Qo _ (h2.1 a k q)
 .cases z:T1 a with
  |some n=>rw[z]at q;cases q;obtain⟨vs,a1,a2,a3⟩:=h1.2 a k z;exact⟨vs,a1,a2,λm e v mv=>let ⟨b,b1,b2⟩:=a3 m e v mv;⟨b,b1,e1 b m b2⟩⟩
  |none=>rw[z]at q;obtain⟨vs,a1,a2,a3⟩:=h2.2 a k q;exact⟨vs,a1,a2,λm e v mv=>let ⟨b,b1,b2⟩:=a3 m e v mv;⟨b,b1,e2 b m b2⟩⟩
theorem RepO.ty3(c:Nat):ZB K G H
  (λp v d fp=>∀n,Kg n c p d=AX->fp.Nodup->∃T,TyAt H T fp c/\(∀k,dep p=O k->∃b,v=.ref b/\T b=O k)/\∀x∈Yv n p,∃a,Y1 H x.1 v=O (.ref a)/\T a=O x.2)
  (λp vs ds fp=>vs.length=ds.length/\∀n,ds.all (Kg n c p)=AX->fp.Nodup->∃T,TyAt H T fp c/\∀k,dep p=O k->∀v∈vs,∃b,v=.ref b/\T b=O k)
  (λps vs ds fp=>∀n,(ps.zip ds).all (λx=>Kg n c x.1 x.2)=AX->fp.Nodup->∃T,TyAt H T fp c/\∀(k i:Nat) p,ps[k]?=O p->∀x∈Yv n p,∃v a,vs[k]?=O v/\Y1 H x.1 v=O (.ref a)/\T a=O x.2):=
 RepO.ind3
 (λr n _ _=>⟨λ_=>AW,⟨λ_ _ q=>(nomatch q),λ_ _ q=>(nomatch q)⟩,λk e=>(nomatch e),λx m=>by cases n<;>cases m⟩)
 (λ{p a vs ds fp} h r n hl nd=>by
  cases n with
  |zero=>simp[Kg]at hl
  |succ n=>
  simp only[Kg,Qw,Q5]at hl;obtain⟨na,nf⟩:=Jf.mp nd;obtain⟨T,t1,t2⟩:=r.2 n hl.2 nf;have hv:vs.length<=c:=by rw[r.1];exact hl.1
  have ne:∀{b k},T b=O k->b≠a:=λ{b k} q z=>by subst z;exact na (t1.1 _ _ q)
  have up:∀b k,T b=O k->KF T a ((dep p).elim 0 (· + 1)) b=O k:=λb k q=>by unfold KF;rw[Qz (ne q)];exact q
  have me:KF T a ((dep p).elim 0 (· + 1)) a=O ((dep p).elim 0 (· + 1)):=by unfold KF;rw[Qp AV]
  refine⟨KF T a ((dep p).elim 0 (· + 1)),⟨λb k q=>?_,λb k q=>?_⟩,λk e=>⟨a,rfl,by rw[me];exact e⟩,λx m=>?_⟩
  .unfold KF at q
   by_cases z:b=a
   .subst z;exact Qg
   .rw[Qz z]at q;exact Qj _ (t1.1 b k q)
  .by_cases z:b=a
   .subst z
    rw[me]at q;cases q;refine⟨vs,h,hv,λm e v mv=>?_⟩
    have zd:dep p=O m:=by
     cases zd:dep p with
     |none=>rw[zd]at e;cases e
     |some k0=>rw[zd]at e;rw[Nat.succ.inj e]
    obtain⟨b',b1,b2⟩:=t2 m zd v mv;exact⟨b',b1,up b' m b2⟩
   .unfold KF at q
    rw[Qz z]at q;obtain⟨ws,a1,a2,a3⟩:=t1.2 b k q;exact⟨ws,a1,a2,λm e v mv=>let ⟨b',b1,b2⟩:=a3 m e v mv;⟨b',b1,up b' m b2⟩⟩
  .simp only[Yv,QL]at m
   subst m;exact⟨a,rfl,me⟩)
 (λ{ps a vs ds fp} h r n hl nd=>by
  cases n with
  |zero=>simp[Kg]at hl
  |succ n=>
  simp only[Kg]at hl;obtain⟨T,t1,t2⟩:=r n hl nd;refine⟨T,t1,λk e=>(nomatch e),λx m=>?_⟩;simp only[Yv,List.mem_flatMap,List.mem_map]at m;obtain⟨⟨q,k⟩,mk,y,my,rfl⟩:=m;have hk:=List.mem_zipIdx_iff_getElem?.mp mk;obtain⟨v,b,e1,e2,e3⟩:=t2 k 0 q hk y my;exact⟨b,by unfold Y1;rw[h];dsimp only;rw[e1];exact e2,e3⟩)
 (λe hl h r n hh _=>by cases n<;>simp[Kg]at hh)
 ⟨rfl,λn _ _=>⟨λ_=>AW,⟨λ_ _ q=>(nomatch q),λ_ _ q=>(nomatch q)⟩,λk e v m=>(nomatch m)⟩⟩
 (λh t=>⟨J6 Nat.succ t.1,λn hl nd=>by
  rw[JB,Qw]at hl;obtain⟨n1,n2,_⟩:=QI.mp nd;obtain⟨T1,a1,a2,a3⟩:=h n hl.1 n1;obtain⟨T2,b1,b2⟩:=t.2 n hl.2 n2;obtain⟨T,c1,c2,c3⟩:=a1.join b1 nd;refine⟨T,c1,λk e v m=>?_⟩;rcases QM.mp m with rfl|m
  .obtain⟨b,e1,e2⟩:=a2 k e
   exact⟨b,e1,c2 b k e2⟩
  .obtain⟨b,e1,e2⟩:=b2 k e v m
   exact⟨b,e1,c3 b k e2⟩⟩)
 (λn _ _=>⟨λ_=>AW,⟨λ_ _ q=>(nomatch q),λ_ _ q=>(nomatch q)⟩,λk i p e=>(by cases e)⟩)
 (λh t n hl nd=>by
  rw[JV,JB,Qw]at hl;obtain⟨n1,n2,_⟩:=QI.mp nd;obtain⟨T1,a1,a2,a3⟩:=h n hl.1 n1;obtain⟨T2,b1,b2⟩:=t n hl.2 n2;obtain⟨T,c1,c2,c3⟩:=a1.join b1 nd;refine⟨T,c1,λk i p e x m=>?_⟩;cases k with
  |zero=>cases e;obtain⟨b,e1,e2⟩:=a3 x m;exact⟨_,b,rfl,e1,c2 b _ e2⟩
  |succ k=>obtain⟨v,b,e0,e1,e2⟩:=b2 k i p (by simpa using e) x m;exact⟨v,b,by simpa using e0,e1,c3 b _ e2⟩)
end
noncomputable def Wf(ns:A8)(ρ:UB):UB:=ns.foldl (λr j=>r.set j AW) ρ
theorem Md:∀(ns:A8)(ρ:UB),(Wf ns ρ).length=ρ.length
 |[],ρ=>rfl
 |j::ns,ρ=>by unfold Wf;rw[List.foldl_cons];exact(Md ns (ρ.set j AW)).trans (by rw[QW])
theorem WK:∀{ns:A8}{ρ:UB}{m:Nat}{s:Sl},(Wf ns ρ)[m]?=O (O s)->ρ[m]?=O (O s)/\m∉ns
 |[],ρ,m,s,e=>⟨e,λz=>(by cases z)⟩
 |j::ns,ρ,m,s,e=>by
  have e':(Wf ns (ρ.set j AW))[m]?=O (O s):=e;obtain⟨h1,h2⟩:=WK e';by_cases z:j=m
  .subst z;have:=Ku h1;cases this
  .rw[Ql z]at h1
   exact⟨h1,λq=>(QM.mp q).elim (λy=>z y.symm) h2⟩
noncomputable def Vn(i:Nat)(p:Pat)(ns:A8)(κ:Nat->Nat)(c:Nat):SM:=λρ=>match ZT ρ i with
 |some (q,d)=>if eqF 9 q p=AX/\Kg 9 c q d=AX/\κ c<=1000000/\(∀j∈ns,j<ρ.length)then .nx (Wf (i::i::ns) ρ)else .bad
 |none=>.bad
section
variable{X:Cx}{B G0:Hp}{KX:XW}{sts:List Stmt}
theorem EOk.lose{K:Frag}{G H:Hp}{σ σ':St}{ρ:UB}{ns:A8}(k:EOk K B G0 G H σ ρ)(hl:σ'.length=σ.length)(h:∀i,i∉ns->σ'[i]?=σ[i]?):EOk K B G0 G H σ' (Wf ns ρ):=
 ⟨k.bh,k.gh,k.g0,k.np,by rw[Md,hl];exact k.len,λi d q=>let ⟨q1,q2⟩:=WK q;by rw[h i q2];exact k.pub i d q1,λi d q=>let ⟨q1,q2⟩:=WK q;by rw[h i q2];exact k.own i d q1,
  λi j a ds es q1 q2 s1 s2=>by obtain⟨q1,z1⟩:=WK q1;obtain⟨q2,z2⟩:=WK q2;rw[h i z1]at s1;rw[h j z2]at s2;exact k.sep i j a ds es q1 q2 s1 s2,
  k.dp.map (λm p d q=>let ⟨q1,q2⟩:=WK q;⟨q1,h m q2⟩) (λm es q=>let ⟨q1,q2⟩:=WK q;⟨es,q1,h m q2⟩) λm p d v fp q s r w n=>⟨r,w⟩⟩
theorem EX{i:Nat}{p:Pat}{ns:A8}{top:Nat}{κ:Nat->Nat}{c:Nat}{h:SM}(hs:PSs X sts (Yr (Kn (gamO i 9 p) ns top κ) (tS X.K B G0 KX h))):PSs X sts (tS X.K B G0 KX (UI (Vn i p ns κ c) h)):=Wb hs λDn σ H ⟨G,ρ,k,q⟩=>by
 unfold UI Vn at q;cases z:ZT ρ i with
 |none=>rw[z]at q;exact q.elim
 |some pd=>
 obtain⟨pp,d⟩:=pd;rw[z]at q;dsimp only at q;by_cases hc:eqF 9 pp p=AX/\Kg 9 c pp d=AX/\κ c<=1000000/\(∀j∈ns,j<ρ.length)
 case neg=>rw[Qz hc]at q;exact q.elim
 rw[Qp hc]at q;obtain⟨c1,c2,c3,c4⟩:=hc;cases SQ 9 _ _ c1;obtain⟨ω,ks⟩:=k.slots;obtain⟨v,fp,hv,r,nd,w⟩:=ks i p d z;obtain⟨T,t1,_,t3⟩:=(RepO.ty3 c).1 r 9 c2 nd;refine⟨T,c,t1.2,λx m=>?_,c3,λj m=>by rw[←k.len];exact c4 j m,λσ' H' T' R I'=>?_⟩
 .unfold gamO at m
  obtain⟨y,my,rfl⟩:=Qs.mp m;obtain⟨a,e1,e2⟩:=t3 y my;exact⟨v,a,hv,e1,e2⟩
 .have ex:Ext G (Zb fp H) G H':=⟨λb u e=>by
    have hb:b∉fp:=λm=>by rw[FC m]at e;cases e
    rw[Wk hb]at e;refine R.oth b u ?_ e;cases zt:T b with
    |none=>rfl
    |some n=>exact(hb (t1.1 b n zt)).elim,.refl _,λb u e=>by
    have hb:b∉fp:=λm=>by rw[(w b m).2.1]at e;cases e
    refine R.oth b u ?_ (k.gh b u e);cases zt:T b with
    |none=>rfl
    |some n=>exact(hb (t1.1 b n zt)).elim,λ_ _ _ n=>n⟩
  have k2:=(k.eaten (i1:=i) (i2:=i) ks (λb m=>r.isl b m) (λb m=>⟨(w b m).1,.inl (w b m).2.2⟩) ex).lose (ns:=ns) R.len R.st;exact⟨G,_,k2,by first|exact q|(show aftS X.K B G0 KX (h (Wf ns ((ρ.set i AW).set i AW))) G Dn;exact q)⟩
end
theorem EW{ρ ρ':UB}{i:Nat}{p q:Pat}{ns:A8}{κ:Nat->Nat}{c:Nat}{d:D}(h1:ZT ρ i=O (q,d))(h2:eqF 9 q p=AX)(h3:Kg 9 c q d=AX)(h4:κ c<=1000000)(h5:∀j∈ns,j<ρ.length)(h6:Wf (i::i::ns) ρ=ρ'):Vn i p ns κ c ρ=.nx ρ':=by unfold Vn;rw[h1];dsimp only;rw[if_pos ⟨h2,h3,h4,h5⟩,h6]
end DL
namespace L2
open PySem PySem.Spec PyProof.Rows PySem.Calls PyProof.V
def Ve(L:Ue)(h0 h:Heap)(e:Ue):Prop:=∃oe vs T oT ts,h.get? e=O oe/\oe.data=.fields vs/\vs[1]?=O (.ref T)/\T≠e/\h0.objs.size<=T/\h.get? T=O oT/\oT.data=.fields ts/\ts[3]?=O (rawInt L)
section
variable{M:Model}{A A2:Around}{E:Ub->Uc->Prop}{s:Uc}{base:Heap}{env:Env}{outer:List Env}{L e:Ue}{c:Bool}
theorem Lc{E2:Ub->Uc->Prop}{oe:Obj}{vs:Array Ub}{Q:Uc->Prop}(hfr:A.frames=O (env::outer))(hl:s.heap.FunFrames base (env::outer))(hf:env.frame=O L)
  (he:s.heap.get? e=O oe) (hd:oe.data=.fields vs) (h1:vs[1]?=O .none)
  (h:∀h',We (frs (env::outer)) e s.heap h'->Ve L s.heap h' e->Q {s with heap:=h'}) :
  Ui M A (noteFrame (.ref e) env) (λ_ s'=>Ui M A2 (do
  if(←field (.ref e) 1)==.none then unsupported "frame.own-activation:exception-without-traceback"
  setFlight (.ref e) env.frame) (λ_ s''=>Q s'') E2 s') E s:=by
 have hsz:1<vs.size:=(Jd.mp h1).1;have jk:e∉(env::outer).filterMap (·.frame):=λhm=>by obtain⟨_,o,ho,hnf⟩:=hl.mem hm;rw[he]at ho;injection ho with ho;subst ho;exact hnf vs hd
 unfold noteFrame;simp only[hf];refine Qb (Q4 he hd h1 ?_);rw[Qz (by decide)];refine Qb (wpAny_frameOf_fun hfr hl hf λh₁ hs₁=>?_);refine Qb (wpAny_entryPlaceOf λpl hpl=>?_);unfold EntryCells.newEntry newFields;refine Qb (JD ?_ (hpl.sizeOk5 _ _ _ _ _));have he₁:h₁.get? e=O oe:=(hs₁.2.1 e jk).trans he;generalize hob:({cls:=.type "traceback", dict:=AW,data:=.fields ([Value.none,.ref L,.none,rawInt L,.none]++(if pl.isEmpty then Um 6 Value.none else pl)).toArray}:Obj)=ob;have hobd:∃ts,ob.data=.fields ts/\3<ts.size:=⟨_,by rw[←hob],by simp only[QT,Qh,QK,QO]<;>lia⟩
 obtain⟨ts,hts,ht3⟩:=hobd;have he₂:=Qe (h:=h₁) ob he₁;refine Q8 he₂ hd hsz ?_;have qB:h₁.objs.size≠e:=Jk (Qf he₁);have hd₃:=Jg hd (·.setIfInBounds 1 (Value.ref h₁.objs.size));have he₃:=QP (Obj.mapFields (·.setIfInBounds 1 (Value.ref h₁.objs.size))) he₂ (Jh hd₃);have hT₃:=(Qn (h₁.push ob) (Obj.mapFields (·.setIfInBounds 1 (Value.ref h₁.objs.size))) (Ne.symm qB)).trans (QD h₁ (by rw[←hob];rfl));refine wpAny_bind (wpAny_field he₃ hd₃ (x:=.ref h₁.objs.size) (by simp[hsz]) ?_);rw[if_neg (show ¬((Value.ref h₁.objs.size==Value.none)=AX)from by simp)];unfold setFlight;refine wpAny_bind (wpAny_field he₃ hd₃ (x:=.ref h₁.objs.size) (by simp[hsz]) ?_);rw[if_pos (show(Value.ref h₁.objs.size != Value.none)=AX from by simp)];have h0:s.heap.objs.size<=h₁.objs.size:=Nat.le_of_eq hs₁.1.symm;refine Q8 hT₃ hts ht3 (h _ ?_ ?_)
 .have keep:∀b o,b≠e->h₁.get? b=O o ->
    (((h₁.push ob).update e (Obj.mapFields (·.setIfInBounds 1 (Value.ref h₁.objs.size)))).update h₁.objs.size
     (Obj.mapFields (·.setIfInBounds 3 ((O L:qa).elim Value.none λf=>rawInt f)))).get? b=O o:=λb o qC hb=>by
   have qX:h₁.objs.size≠b:=Jk (Qf hb);rw[Qn _ _ qX,Qn _ _ (Ne.symm qC)];exact Qe _ hb
  refine⟨λb o hb hf hg=>keep b o hb ((hs₁.2.1 b hf).trans hg),λb o hb hg=>?_,λjs z=>?_⟩
  .obtain⟨sl,hs⟩:=hs₁.2.2 b o hg
   exact⟨sl,keep b _ hb hs⟩
  .rw[he]at z;cases z
   exact⟨_,by rw[Qn _ _ qB,he₃,YR _ hd]⟩
 .refine⟨_,_,h₁.objs.size,_,_,?_,hd₃,by simp[hsz],qB,h0,Heap.get?_update_self _ hT₃ (Obj.isFreed_of_fields (Obj.data_mapFields hts _)),Obj.data_mapFields hts _,?_⟩
  .rw[Qn _ _ qB];exact he₃
  .rw[Array.getElem?_setIfInBounds_self_of_lt ht3];rfl
theorem Fv{h0:Heap}{Q:Unit->Uc->Prop}(hf:env.frame=O L)(p:We (frs (env::outer)) e h0 s.heap)(x:Ve L h0 s.heap e)
  (h:∀h',We (frs (env::outer)) e h0 h'->Fly AY h' e->Q () {s with heap:=h'}):Ui M A (leaving env (.ref e)) Q E s:=by
 obtain⟨oe,vs,T,oT,ts,he,hd,h1,qB,h0T,hT,qz,h3⟩:=x;obtain⟨jv,hv3⟩:=Jd.mp h3;unfold leaving noteFrame;simp only[hf];refine Qb (Qb (Q4 he hd h1 ?_));rw[if_pos (show(Value.ref T != Value.none)=AX from by simp)];refine Qb (Q4 hT qz h3 ?_);rw[if_pos (show((rawInt L:Ub)==rawInt L)=AX from by simp)];refine Qi ?_;unfold setFlight;refine Qb (Q4 he hd h1 ?_);rw[if_pos (show(Value.ref T != Value.none)=AX from by simp)];have nT:∀b o,h0.get? b=O o->T≠b:=λb o g z=>by subst z;exact absurd (Qf g) (Nat.not_lt.mpr h0T)
 refine Q8 hT qz jv (h _ ⟨λb o a f g=>?_,λb o a g=>?_,λjs g=>?_⟩ ⟨oe,vs,?_,hd,.inr ⟨T,_,_,h1,qB,QP _ hT (Jh (Jg qz _)),Jg qz _,?_⟩,λz=>nomatch z⟩)
 .rw[Qn _ _ (nT b o g)];exact p.keep b o a f g
 .obtain⟨sl,z⟩:=p.slot b o a g
  exact⟨sl,by rw[Qn _ _ (nT b o g)];exact z⟩
 .obtain⟨ws,z⟩:=p.own js g
  exact⟨ws,by rw[Qn _ _ qB];exact z⟩
 .rw[Qn _ _ qB];exact he
 .rw[Array.getElem?_setIfInBounds_self_of_lt jv];rfl
end
theorem AC:entryFor table "proto.unchain" = O Builtin.«proto.unchain»:=entryFor_of_fast (by kernel_rfl)
section
variable{prog:Ud}{w:World}{A:Around}{E:Ub->Uc->Prop}{s:Uc}{env:Env}
theorem EV{v:Ub}{b:Ue}{ob:Obj}{wb:Array Ub}{Q:Ub->Uc->Prop}(hb:s.heap.get? b=O ob)(hd:ob.data=.fields wb)(h2:wb[2]?=O .none)(h:Q .none s) :
  Ui (model prog w) A (runValue (.builtin "proto.unchain" ⟨[v,.ref b,.ref b,.bool AY],[]⟩)) Q E s:=by
 refine wpAny_runValue (codeAny_builtin AC ?_);unfold Builtin.«proto.unchain»;refine Qb (Q4 hb hd h2 ?_);rw[Qp (show((Value.none:Ub)==.none)=AX from rfl)];exact Qi h
theorem AB{α:Type}{a b:Ue}{oa ob:Obj}{va wb:Array Ub}{Q:α->Uc->Prop}(hh:A.handled=O (.ref b))(hne:a≠b)(ha:s.heap.get? a=O oa)(hda:oa.data=.fields va)(h2:2<va.size)(hb:s.heap.get? b=O ob)(hd:ob.data=.fields wb)(jm:wb[2]?=O .none)
  (h:E (.ref a) {s with heap:=s.heap.update a (Obj.mapFields (·.setIfInBounds 2 (.ref b)))}):Ui (model prog w) A (raiseNew (.ref a):Sem α) Q E s:=by
 unfold raiseNew;refine Qb (wpAny_handled ?_);rw[hh];dsimp only;rw[if_pos (show(Value.ref b != Value.ref a)=AX from by simp;exact Ne.symm hne)];refine Qb (Jl (EV hb hd jm ?_));exact Qb (Q8 (x:=.ref b) ha hda h2 (wpAny_throw h))
theorem Ad{env:Env}{s:Uc}{Q:Flow->Uc->Prop}{y y2:Sem Ub}{b:Ue}(hc:∀(s:Uc)(P:Ub->Uc->Prop),P .none s->Ui (model prog w) A y2 P E s)
  (hh:A.handled=O (.ref b)) (h:Ui (model prog w) A y (λv s₁=>∃a C dd vs sl nm q N bs bm hdct sn sub ab col qv k0 k1 k2 k3 k5 newId ob wb,v=.ref a/\bm.contains (.type "BaseException")=AX/\s₁.heap.get? C=O (excClassObj nm q C N bs bm hdct sn sub ab col qv k0 k1 k2 k3 k5 newId) /\
   s₁.heap.get? a=O {cls:=.ref C,dict:=dd,data:=.fields vs,slots:=sl}/\vs[1]?=O .none/\4<vs.size/\a≠b/\C≠a/\s₁.heap.get? b=O ob/\ob.data=.fields wb/\wb[2]?=O .none /\
   ∀h',(∀d o,d≠a->s₁.heap.get? d=O o->h'.get? d=O o)->(∃us,h'.get? a=O {cls:=.ref C,dict:=dd,data:=.fields us,slots:=sl}/\us[1]?=O .none)->E (.ref a) {s₁ with heap:=h'}) E s) :
  Ui (model prog w) A (raiseStmt env (O y) (O y2)) Q E s:=by
 unfold raiseStmt;refine Qb (QB h (λv s₁ h₁=>?_) λ_ _ x=>x);obtain⟨a,C,dd,vs,sl,nm,q,N,bs,bm,hdct,sn,sub,ab,col,qv,k0,k1,k2,k3,k5,newId,ob,wb,rfl,hbase,hC,he,h1,hsz,hab,hCa,hb,hdb,jm,hE⟩:=h₁;have qA:(Value.ref C::bm).contains (.type "BaseException")=AX:=by rw[Q1,hbase,JZ]
 obtain⟨hp,g,d,tk,os⟩:=s₁;refine Qb (Jl (hc _ _ (Qb (Qi ?_))));dsimp only;refine Qb (Jl ?_);unfold excFromValue isExcClass
 repeat (first|with_reducible refine Qk he ?_|with_reducible refine Qk hC ?_|(with_reducible refine QH hC ?_;rw[qA])|wp_step)
 rw[Qp (show 3<vs.size by lia)];refine wpAny_update he ?_;have e1:(hp.update a (Obj.mapFields (·.setIfInBounds 3 Value.none))).get? a=O {cls:=.ref C,dict:=dd,data:=.fields (vs.setIfInBounds 3 .none),slots:=sl}:=QP _ he AV;have C1:=(Qn hp (Obj.mapFields (·.setIfInBounds 3 Value.none)) (Ne.symm hCa)).trans hC;refine Qb (Q8 e1 AV (by rw[Array.size_setIfInBounds];exact hsz) ?_);have e2:((hp.update a (Obj.mapFields (·.setIfInBounds 3 Value.none))).update a (Obj.mapFields (·.setIfInBounds 4 (Value.bool AX)))).get? a=O {cls:=.ref C,dict:=dd,data:=.fields ((vs.setIfInBounds 3 .none).setIfInBounds 4 (.bool AX)),slots:=sl}:=QP _ e1 AV;have C2:=(Qn (hp.update a (Obj.mapFields (·.setIfInBounds 3 Value.none))) (Obj.mapFields (·.setIfInBounds 4 (Value.bool AX))) (Ne.symm hCa)).trans C1;have b2:((hp.update a (Obj.mapFields (·.setIfInBounds 3 Value.none))).update a (Obj.mapFields (·.setIfInBounds 4 (Value.bool AX)))).get? b=O ob:=by rw[Qn _ _ hab,Qn _ _ hab];exact hb
 have f1:((vs.setIfInBounds 3 Value.none).setIfInBounds 4 (Value.bool AX))[1]?=O Value.none:=by rw[Jv (by decide),Jv (by decide)];exact h1
 have hs5:2<((vs.setIfInBounds 3 Value.none).setIfInBounds 4 (Value.bool AX)).size:=by rw[Array.size_setIfInBounds,Array.size_setIfInBounds];lia
 have oth:∀d o,d≠a->hp.get? d=O o->((hp.update a (Obj.mapFields (·.setIfInBounds 3 Value.none))).update a (Obj.mapFields (·.setIfInBounds 4 (Value.bool AX)))).get? d=O o:=λd o n g=>by rw[Qn _ _ (Ne.symm n),Qn _ _ (Ne.symm n)];exact g
 generalize ((hp.update a (Obj.mapFields (·.setIfInBounds 3 Value.none))).update a (Obj.mapFields (·.setIfInBounds 4 (Value.bool AX))))=h2 at e2 C2 b2 oth⊢;generalize ((vs.setIfInBounds 3 Value.none).setIfInBounds 4 (Value.bool AX))=v2 at e2 f1 hs5
 repeat (first|with_reducible refine Q4 e2 AV f1 ?_|with_reducible refine Qk e2 ?_|with_reducible refine Qk C2 ?_|wp_step)
 refine AB hh hab e2 AV hs5 b2 hdb jm (hE _ (λd o n g=>?_) ⟨_,QP _ e2 AV,?_⟩)
 .rw[Qn _ _ (Ne.symm n)];exact oth d o n g
 .rw[Jv (by decide)];exact f1
end
def SO(X:Cx)(KX:V->St->Hp->Prop):Prop:=∀(pins:List (Ue×Obj))(σ:St)(H:Hp)(s:Uc)(e C:Ue)(dd:qa)(h':Heap),Inv X pins σ H s->H e=O (.ext (XO AY e C dd))->We (frs X.stack) e s.heap h'->Ve X.env.locals s.heap h' e->KX (.ref e) σ H->X.xe (.ref e) {s with heap:=h'}
theorem Cb{P:Ud}{w:World}{K:Frag}{mg:Str->A3}{base:Heap}{N:List Str}{qual:Str}{scope:Scope}{f:Ue}{cd:Ub}{A:Around}{outer:List Env}{s₀:Uc}{H₀:Hp}{E:XK} :
  SO (Ks (Zn AY P w) P w K mg base N qual scope f cd A outer s₀ H₀ E) λv _ H=>∃e,v=.ref e/\E (.ref e) AW H:=by
 intro pins σ H s e C dd h' I hx p fl ⟨e',ee,hE⟩;cases ee;refine Fv (h0:=s.heap) (outer:=outer) (s:={s with heap:=h'}) (L:=s₀.heap.objs.size) AV p fl λh2 p2 jd=>?_;have I':=I.passed hx p2
 exact⟨e,C,dd,H,rfl,I'.os,I'.bare,I'.base,I'.hok,hx,jd,hE⟩
noncomputable def XS(e C:Ue)(dd:qa):Heap->Prop:=λh=>∃vs sl,h.get? e=O {cls:=.ref C,dict:=dd,data:=.fields vs,slots:=sl}/\vs[2]?=O .none
theorem XS.ok{P:Ud}{w:World}{H:Hp}{h:Heap}{e C:Ue}{dd:qa}(x:XS e C dd h):K4 P w H h e (.ext (XS e C dd)):=
 ⟨x,let ⟨_,_,q,_⟩:=x;⟨_,q⟩,λh1 h2 ⟨vs,sl,q,z⟩ k=>⟨vs,sl,k _ q,z⟩⟩
section
variable{X:Cx}{x n:Str}{pos np hpos rpos cp:Pos}{cj:Nat}
noncomputable def SB(KC:Ue->A0->Prop)(D C2:Ue)(KX:V->St->Hp->Prop):V->St->Hp->Prop:=λv σ H=>∃a C dd bm,v=.ref a/\KC C bm/\H a=O (.ext (XO AY a C dd))/\(Value.ref C::bm).contains (.ref D)=AX /\
 ∀a2,H a2=AW->KX (.ref a2) σ (upd H a2 (.ext (XO AY a2 C2 AW)))
theorem Fu{KC:Ue->A0->Prop}{D fD C2 f2:Ue}{bmD bm2:A0}{tb:(V->St->Hp->Prop)->TS}{te:TE}{KX:V->St->Hp->Prop}{exc:Ug}{body:List Stmt}{st:List Env}(ql:X.stack=X.env::st)(hfr:X.env.frame=O X.env.locals)
  (hcls:∀C bm,KC C bm->∃fI,XCls (model X.prog X.w) X.base C bm fI) (hD:XCls (model X.prog X.w) X.base D bmD fD) (hC2:XCls (model X.prog X.w) X.base C2 bm2 f2) (hg:Gl X x) (hm:X.mg x=O (.ref D))
  (hb:∀(KX:V->St->Hp->Prop)(W:Ub->Uc->Prop)(pn:List (Ue×Obj)),ZW AX (X.tried W pn) KX->PSs (X.tried W pn) body (tb KX)) (ht:∀a,PE (X.suite a) exc te)
  (hte:∀σ H(Q:VK),(∀a2,H a2=AW->Q (.ref a2) (upd H a2 (.ext (XO AX a2 C2 AW))))->te σ H Q) (hw:SO X KX) (hdb:(x==("__debug__" : Str))=AY:=by decide) :
  PS X (.Try body [.ExceptHandler (O (.Name x np)) AW [.Raise (O exc) (O (.Constant .none cj cp)) rpos] hpos] [] [] pos) (λDn σ H=>tb (SB KC D C2 KX) Dn σ H):=by
 intro pins s σ H Dn I h;refine wpAny_Try_except ?_
 let W:Ub->Uc->Prop:=λv s1=>∃a σ1 H1,v=.ref a/\Inv X pins σ1 H1 s1/\Fly AX s1.heap a/\SB KC D C2 KX (.ref a) σ1 H1
 have hw':ZW AX (X.tried W pins) (SB KC D C2 KX):=λpins' σ1 H1 s1 a C dd I1 hx fl hk=>⟨a,σ1,H1,rfl,I.untried I1,fl,hk⟩;refine QB (hb _ W pins hw' [] s σ H Dn (I.tried W) h) (λf s1 h1=>?_) λv s1 h1=>?_
 .cases f with
  |next=>obtain⟨σ',H',I',q⟩:=h1;exact Jw ⟨σ',H',I.untried I',q⟩
  |brk=>obtain⟨σ',H',I',q⟩:=h1;exact⟨σ',H',I.untried I',q⟩
  |cont=>obtain⟨σ',H',I',q⟩:=h1;exact⟨σ',H',I.untried I',q⟩
  |ret u=>obtain⟨v,σ',H',I',r,q⟩:=h1;exact⟨v,σ',H',I.untried I',r,q⟩
 .obtain⟨a,σ1,H1,rfl,I1,fl,a',C,dd,bm,ea,kc,hx,jK,q⟩:=h1
  cases ea;obtain⟨fI,XC⟩:=hcls C bm kc;have hk:=I1.ok.frames;rw[ql]at hk;have hS:=I1.stack;rw[ql]at hS;refine Xz hk hS hfr fl λh2 p2 jd=>?_;rw[←ql]at p2;have I2:=I1.passed hx p2;refine wpAny_handleBy_cons (codeAny_handlers_test ?_) (by intro q;cases q)
  refine Xh (I2.suite a) hg hm ?_ hdb;obtain⟨nm,qn,N,bs,sn,sub,ab,col,jB,k0,k1,k2,k3,k5,hC⟩:=XC.obj;obtain⟨qO,qn',N',bs',sn',sub',ja,col',dd2,j0,j1,j2,j3,j5,qr⟩:=hD.obj;obtain⟨nm3,qn3,N3,bs3,sn3,sub3,ab3,col3,dd3,l0,l1,l2,l3,l5,hC2'⟩:=hC2.obj;obtain⟨⟨vs,sl,ga,_⟩,_,_⟩:=I2.hok a _ hx;refine Rl (I2.bk _ _ hC) (I2.bk _ _ qr) (hD.tail _ _ AV) ga AV jK ?_;refine codeAny_handlers_suite (RM jd λh3 k3=>?_);have I3:=I2.kept (t':=s1.toks) k3;have g3:=k3 _ _ ga;obtain⟨oe,ve,he,hde,_,hz⟩:=jd;have hz:=hz AV;rw[ga]at he;cases he;cases hde;have I4:=I3.write (x:=a) (e:=a) (o:=.ext (XS a C dd)) (t':=s1.toks) (h':=h3) (by rw[hx];trivial) (.inl AV) (λ_ _ _ q=>q) ⟨_,g3⟩ (XS.ok ⟨_,_,g3,hz⟩);refine wpAny_execs_cons ?_;rw[arm_exec_Raise];refine Qb (Q7 ?_);show Ui _ _ (raiseStmt X.env (O (do let v ←eval exc X.env;standAt rpos;pure v)) (O (do let v ←constValue X.env .none;standAt rpos;pure v))) _ _ _;refine Ad (b:=a) (λs P hp=>?_) AV (Qb (QB (ht a pins _ σ1 _ (λv H'=>∃a2,upd H1 a (.ext (XS a C dd)) a2=AW/\v=.ref a2/\H'=upd (upd H1 a (.ext (XS a C dd))) a2 (.ext (XO AX a2 C2 AW))) (I4.suite a) (hte _ _ _ λa2 n2=>⟨a2,n2,rfl,rfl⟩)) (λu s5 h5=>Qb (Q7 (Qi ?_))) λ_ _ z=>z.elim))
  .exact Qb (Qi (Qb (Q7 (Qi hp))))
  .obtain⟨v,H5,I5',rv,a2,n2,rfl,rfl⟩:=h5
   obtain rfl:u=Value.ref a2:=rv;have I5:=I4.unsuite I5';have na:a2≠a:=λz=>by rw[z,U7]at n2;cases n2
   have nH:H1 a2=AW:=by rw[UW na]at n2;exact n2
   obtain⟨⟨us,sl2,g5,z5⟩,_,_⟩:=I5.hok a2 _ U7;obtain⟨z1,_,_,z4⟩:=z5 AV;obtain⟨⟨ws,slw,gb,wz⟩,_,_⟩:=I5.hok a _ (by rw[UW (Ne.symm na),U7]);have gC:=I5.bk _ _ hC2';refine⟨a2,C2,AW,us,sl2,nm3,qn3,N3,bs3,bm2,AX,sn3,sub3,ab3,col3,dd3,l0,l1,l2,l3,l5,_,_,ws,rfl,hC2.tail _ _ AV,gC,g5,z1,z4,na,?_,gb,rfl,wz,λh' kk ⟨vs',g',z'⟩=>?_⟩
   .rintro rfl
    rw[gC]at g5;cases g5
   .have I6:=I5.write (x:=a2) (e:=a2) (o:=.ext (XO AY a2 C2 AW)) (t':=s5.toks) (h':=h') (by rw[U7];trivial) (.inl AV) kk ⟨_,g'⟩ (XO.ok ⟨_,_,g',λz=>nomatch z⟩)
    have gb':=kk a _ (Ne.symm na) gb;have I7:=I6.write (x:=a) (e:=a) (o:=.ext (XO AY a C dd)) (t':=s5.toks) (h':=h') (by rw[UW (Ne.symm na),UW (Ne.symm na),U7];trivial) (.inl AV) (λ_ _ _ q=>q) ⟨_,gb'⟩ (XO.ok ⟨_,_,gb',λz=>nomatch z⟩)
    have eH:upd (upd (upd (upd H1 a (.ext (XS a C dd))) a2 (.ext (XO AX a2 C2 AW))) a2 (.ext (XO AY a2 C2 AW))) a (.ext (XO AY a C dd))=upd H1 a2 (.ext (XO AY a2 C2 AW)):=by
     funext b;by_cases h1:b=a
     .subst h1;rw[U7,UW (Ne.symm na),hx]
     .rw[UW h1]
      by_cases h2:b=a2
      .subst h2;rw[U7,U7]
      .rw[UW h2,UW h2,UW h1,UW h2]
    rw[eH]at I7;have hk:=(I7.suite a).ok.frames;have hk:(X.A.mark (O (.ref a))).frames=O (X.env::st):=by rw[←ql];exact hk
    have hS:=I7.stack;rw[ql]at hS;refine Lc (A2:=X.A) (Q:=λs''=>X.xe (.ref a2) s'') hk hS hfr g' AV z' λh4 p4 f4=>?_;rw[←ql]at p4;exact hw pins σ1 _ _ a2 C2 AW h4 I7 U7 p4 f4 (q a2 nH)
end
structure Xa(k:Nat)(A:Around):Prop where
 dp:A.depth+3*k+5<recursionLimit
 un:A.units+16*k+200<cLine
 gd:A.guards=O []
theorem Xa.depth{k:Nat}{A:Around}(r:Xa k A):A.depth<recursionLimit:=by have:=r.dp;omega
theorem Xa.make{k:Nat}{A:Around}(r:Xa (k+1) A)(C:Ue)(us:A0)(kw:List (Str×Ub)):Xa k (A.under (.builtin "type.__call__" ⟨.ref C::us,kw⟩)):=
 ⟨by have:=r.dp;rw[NJ];omega,by have:=r.un;rw[NI];omega,(by first|exact r.gd|(simp[Around.under,guardIds];exact r.gd))⟩
theorem Room.markH{k:Nat}{A:Around}(r:Room k A)(h:A3):Xa k (A.mark h):=⟨r.dp,r.un,r.gd⟩
structure Wo(P:Ud)(w:World)(K:Frag)(mg:Str->A3)(base:Heap)(k:Nat)(f:Ue)(fd:Uf)(ps:List Str)(sp:Sp):Prop where
 len:∀vs H Q E,sp vs H Q E->vs.length=ps.length
 run:∀(A:Around)(outer:List Env)(s:Uc)(H:Hp)(args:Args)(us:A0)(vs:List V)(Q:VK),Xa k A->Env0 P w K mg base A outer s H->BindsTo s fd args (ps.zip us)->Vals vs us->sp vs H Q E0 ->
  codeAny (model P w) A (.call (.ref f) args) (CR CX0 outer P w H s Q E0) s
noncomputable abbrev cxH(P:Ud)(w:World)(K:Frag)(mg:Str->A3)(base:Heap)(N:List Str)(qual:Str)(scope:Scope)(f:Ue)(cd:Ub)(A:Around)(outer:List Env)(s:Uc)(H:Hp):Cx:=
 {Ks CX0 P w K mg base N qual scope f cd A outer s H E0 with calm:=AY,xe:=λ_ _=>False}
theorem BU{P:Ud}{w:World}{K:Frag}{mg:Str->A3}{base:Heap}{N ps:List Str}{qual:Str}{scope:Scope}{f:Ue}{cd:Ub}{A:Around}{outer:List Env}{s s1:Uc}{H:Hp}{us:A0}{vs:List V}
  (S:Y5 N ps scope) (e0:Env0 P w K mg base A outer s H) (hl:vs.length=ps.length) (r:Vals vs us)
  (x:InCallC s s.heap.objs.size (bindL (envOfC qual scope s.heap.objs.size f cd).kindOf (ps.zip us) λ_=>AW) (cellsFrom (s.heap.objs.size+1) scope.names []) (bindC (envOfC qual scope s.heap.objs.size f cd).kindOf (ps.zip us) λ_=>AW) s1) :
  Inv (cxH P w K mg base N qual scope f cd A outer s H) [] (Yc N vs) H s1:=by
 have I:=NK (CX:=CX0) (E:=E0) (A:={A with handled:=AW}) S AV ⟨e0.frames,e0.mod,e0.bs,e0.bsz,e0.funs,e0.frf,e0.hok,e0.bare⟩ hl r x;exact⟨⟨I.ok.mod,I.ok.kind,I.ok.glob,I.ok.blt,I.ok.above,I.ok.inj,I.ok.has,I.ok.cab,λz=>(nomatch z),Around.frames_deeper e0.frames,I.ok.stk,I.ok.exf,I.ok.bs,I.ok.bsz,I.ok.noex,I.ok.exfs,I.ok.funs,I.ok.frf⟩,I.os,I.bare,I.base,I.loc,I.cell,I.free,I.freeC,I.pin,I.hok,I.len⟩
theorem Hb{P:Ud}{w:World}{K:Frag}{mg:Str->A3}{base:Heap}{k:Nat}{f:Ue}{name qual:Str}{params:Arguments}{body:List Stmt}{scope:Scope}{dV kV doc pm cdv ct oc:Ub}{an od:qa}
  {osl:Array A3} {N ps:List Str} {sp:Sp} (lk:K.lookup f=O ⟨oc,od,.func (PySem.W.fnOf name qual params body scope dV kV doc pm an cdv ct),osl⟩) (hcd:PySem.W.codeIn K cdv qual=AX) (S:Y5 N ps scope)
  (len:∀vs H Q E,sp vs H Q E->vs.length=ps.length)
  (hbody:∀(A:Around)(outer:List Env)(s:Uc)(H:Hp)(vs:List V)(Q:VK),sp vs H Q E0 ->
   ∃t,PSs (cxH P w K mg base N qual scope f cdv A outer s H) body t/\t {nx:=λ_ H'=>Q .non H',rt:=Q} (Yc N vs) H) :
  Wo P w K mg base k f (PySem.W.fnOf name qual params body scope dV kV doc pm an cdv ct) ps sp:=by
 refine⟨len,λA outer s H args us vs Q hr e0 hb r qF=>?_⟩;have hl:=len _ _ _ _ qF;have KX:K.In s.heap:=e0.mod.kin.keeps λb o e=>(e0.bs b o e).1;have lim:s.heap.NoLimit:=e0.mod.nolimit.keeps λb o e=>(e0.bs b o e).1
 have hkind:∀y∈ps.zip us,scope.names.lookup y.1=O .local∨(scope.names.lookup y.1=O .cell/\((cellsFrom (s.heap.objs.size+1) scope.names []).lookup y.1).isSome=AX):=λ⟨n,v⟩ hy=>by
  rcases S.par n (List.of_mem_zip hy).1 with q|q
  .exact .inl q
  .exact .inr ⟨q,PySem.W.cellsFrom_some _ _ _ (.inl q)⟩
 refine codeAny_call_function hr.depth (KX _ _ lk) AV S.co S.gen AV (PySem.W.codeRec_of KX hcd) (hb _ _ _ _ ?_);refine wpAny_newFunctionEnv_cells S.kind hkind λenv he s1 x=>?_;subst he
 refine⟨lim.keeps x.toInCall.keep,codeAny_func ?_⟩;obtain⟨t,ht,hq⟩:=hbody A outer s H vs Q qF;have I:=BU S e0 hl r x;refine QB (ht [] s1 (Yc N vs) H _ I hq) (λfl s' hs=>?_) λe s' hs=>hs.elim
 cases fl with
 |ret u=>obtain⟨v,σ',H',J,rv,q⟩:=hs;exact⟨v,H',J.os,J.bare,J.base,J.hok,rv,q⟩
 |next=>obtain⟨σ',H',J,q⟩:=hs;exact⟨V.non,H',J.os,J.bare,J.base,J.hok,rfl,q⟩
 |brk=>obtain⟨_,_,_,q⟩:=hs;exact False.elim q
 |cont=>obtain⟨_,_,_,q⟩:=hs;exact False.elim q
section
variable{X:Cx}{k:Nat}{f C:Ue}{fd:Uf}{ps:List Str}{sp:Sp}{x:Str}{p pos cpos:Pos}{e:Ug}{es:A4}{t:TA}{bm:A0}
theorem BS{pins:List (Ue×Obj)}{σ:St}{H:Hp}{s:Uc}{Q:VK}{us:A0}{vs:List V}(M:XCls (model X.prog X.w) X.base C bm f)(F:Wo X.prog X.w X.K X.mg X.base k f fd ps sp)(hr:Xa (k+1) X.A)(hb:Zf X.K fd ps [])
  (I:Inv X pins σ H s) (r:Vals vs us) (hl:us.length<=Uh)
  (h:∀a,H a=AW->sp (.ref a::vs) (upd H a (.ext (XO AX a C AW))) (λv H2=>v=.non/\Q (.ref a) H2) E0) :
  Ui (model X.prog X.w) X.A (call (.ref C) us) (EP X pins σ Q) X.xe s:=by
 obtain⟨nm,q,N,bs,sn,sub,ab,col,dd,k0,k1,k2,k3,k5,hC⟩:=M.obj;obtain⟨oI,hfI,hfc⟩:=M.fn;obtain⟨hp,g,d,tk,os⟩:=s;refine NT PySem.F.excBase_ValueError M.tail (I.bk _ _ hC) (fI:=f) (M.init.keeps I.bk) (I.bk _ _ hfI) hfc (λh' a made hz=>?_) hl;obtain⟨t',he,htn,ht⟩:=made.there;have I2:Inv X pins σ (upd H a (.ext (XO AX a C AW))) ⟨h',g,d,tk,os⟩:=I.laid (t':=tk) made.keeps hz (XO.ok ⟨_,_,he,λ_=>⟨rfl,⟨_,rfl⟩,rfl,by simp⟩⟩);have hq:=h a (I.hok.fresh hz);have r2:Vals (V.ref a::vs) (Value.ref a::us):=.cons AV r;have hl2:(Value.ref a::us++[]).length=ps.length:=by have e:=r2.length;rw[F.len _ _ _ _ hq]at e;rw[QR];exact e.symm
 refine wpAny_call (Jy (F.run _ X.stack _ _ ⟨Value.ref a::us,[]⟩ (Value.ref a::us) _ _ (hr.make C us []) (I2.env0.make C us []) (by have:=hb _ (Value.ref a::us) I2.kIn hl2;rwa[QR]at this) r2 hq) λr s' qw=>?_);cases r with
 |error e=>exact qw.elim
 |ok fl=>
  cases fl with
  |ret u=>obtain⟨v,H',I3,rv,ev,q3⟩:=I2.after qw;subst ev;exact⟨rv,⟨V.ref a,H',I3,rfl,q3⟩⟩
  |next=>exact False.elim qw
  |brk=>exact False.elim qw
  |cont=>exact False.elim qw
theorem Ca(M:XCls (model X.prog X.w) X.base C bm f)(F:Wo X.prog X.w X.K X.mg X.base k f fd ps sp)(hr:Xa (k+1) X.A)(hg:Gl X x)(hm:X.mg x=O (.ref C))(hk:PySem.W.keepIn X.K (.ref C)=AX)(hb:Zf X.K fd ps [])
  (ha:PA X (e::es) t) (hdb:(x==("__debug__" : Str))=AY:=by decide) (he:Uj (e::es) X.env=(AY,eval e X.env)::Uj es X.env:=by rfl) (hpl:(backTo pos (Uj es X.env)).any (·.1)=AY:=by rfl) :
  PE X (.Call (.Name x p) (e::es) [] pos) (tMkX C sp t):=by
 intro pins s σ H Q I h;refine Jm (Xh I hg hm ?_ hdb);refine JU (h₀:=X.base) I.ok.mod.kin hk (thn (ha pos pins s σ H _ I h) λus s1 ⟨vs,H1,I1,r,hl,q⟩=>⟨I1.kIn,?_⟩) he hpl;exact BS M F hr hb I1 r (by show us.length<=Uh;rw[←r.length];exact hl) q
end
end L2
namespace DL
open PySem PySem.Spec L2
open PyProof.Rows hiding St
section
variable{P:Ud}{w:World}{K:Frag}{mg:Str->A3}{base:Heap}{st:Stmt}{f f0 D:Ue}{fd fd0:Uf}{q:Str}{p1 p2 p3 p4 p5 p6:Pos}
theorem EU(F:Fun K "__init__" q st f fd)(hn:FnNm (Ki st) ["self", "text"] ["ValueError"])(hm:mg "ValueError" = AW)
  (hb:K7 st=[.Expr (.Call (.Attribute (.Name "ValueError" p1) "__init__" p2) [.Name "self" p3,.Name "text" p4] [] p5) p6])
  (ht:TF (.Name "ValueError" p1) "__init__" p2 [.Name "self" p3,.Name "text" p4] p5) :
  Wo P w K mg base 1 f fd ["self", "text"] (Wi (KC K)):=by
 obtain⟨oc,od,kV,doc,pm,an,cdv,ct,osl,rfl,lk,hcd⟩:=F.ex;refine Hb lk hcd (fq hn 2) (λvs H Q E ⟨a,C,dd,bm,x,e,_⟩=>by rw[e];rfl) λA outer s H vs Q ⟨a,C,dd,bm,x,e,kc,hx,hq⟩=>?_
 subst e;rw[hb];obtain⟨pl,ht⟩:=ht (cxH P w K mg base ["self", "text"] q (Ki st) f cdv A outer s H).env;refine⟨TK (SR (KC K) (Ws (Kd 0) (Ws (Kd 1) Xr))),PSs.kin λkin=>WG (Y6 (OQ (pl:=pl) (YG kin) (gq hn 0) hm (K5 (pq hn 0) (K5 (pq hn 1) ZD)) (ht:=ht))),?_⟩;exact⟨_,rfl,_,rfl,a,C,dd,bm,_,rfl,kc,hx,hq⟩
def MkH(P:Ud)(w:World)(K:Frag)(mg:Str->A3)(base:Heap)(nm:Str):Prop:=
 ∃C bm f fd ps sp,mg nm=O (.ref C)/\PySem.W.keepIn K (.ref C)=AX/\ClsK K nm C bm/\(∀(M:Model)(h:Heap),K.In h->XCls M h C bm f)/\Wo P w K mg base 1 f fd ps sp/\Zf K fd ps []/\TV K nm C sp
end
section
variable{h:Heap}{mg:Str->A3}{p:Ud}{l:XL0}{i:Nat}{p1 p2 p3 p4 p5 p6:Pos}
theorem ET(n:h.Ns mainGlobals mg)(Y:XYP p l h)(hD:(((("DealError" : Str),O i):Str×Option Nat)∈l))(hm:mg "ValueError" = AW)(hn:FnNm (Ki (Z3 (UX p i))) ["self", "text"] ["ValueError"])
  (hb:K7 (Z3 (UX p i))=[.Expr (.Call (.Attribute (.Name "ValueError" p1) "__init__" p2) [.Name "self" p3,.Name "text" p4] [] p5) p6])
  (ht:TF (.Name "ValueError" p1) "__init__" p2 [.Name "self" p3,.Name "text" p4] p5)
  (hbz:∀(kV doc pm:Ub)(an:qa)(cdv ct:Ub)(us:A0),us.length=(["self", "text"]:List Str).length->bindArgs (PySem.W.fnOf "__init__" (X8 "DealError") (Yp (Z3 (UX p i))) (K7 (Z3 (UX p i))) (Ki (Z3 (UX p i))) .none kV doc pm an cdv ct) ⟨us,[]⟩=pure ((["self", "text"]:List Str).zip us)) :
  ∃D f fd,Root p h mg i D f fd/\∀(P:Ud)(w:World)(base:Heap),Wo P w (whole h) mg base 1 f fd ["self", "text"] (Wi (KC (whole h))):=by
 obtain⟨D,ND,bm,mD,x⟩:=Y.cl _ hD;have:=x.root;subst this;obtain⟨f,fd,hf,FU⟩:=XSt.fun (st:=Z3 (UX p i)) x;exact⟨D,f,fd,⟨by rw[n.eq_nsMap];exact x.ad,⟨ND,mD,x,hf⟩,XSt.clsFn (st:=Z3 (UX p i)) x Y.st hf,FU.binds hbz,λP w base=>GU FU hn hm hb ht⟩,λP w base=>EU FU hn hm hb ht⟩
theorem Ha(n:h.Ns mainGlobals mg)(Y:XYP p l h){D f:Ue}{fd:Uf}(R:Root p h mg i D f fd)(RH:∀(P:Ud)(w:World)(base:Heap),Wo P w (whole h) mg base 1 f fd ["self", "text"] (Wi (KC (whole h)))){nm:Str}(hc:(nm,AW)∈l)(hf:K6 nm=[])(P:Ud)(w:World)(base:Heap):MkH P w (whole h) mg base nm:=by obtain⟨C,N,bm,mN,x⟩:=Y.cl _ hc;obtain⟨ND,mD,xD,hi⟩:=R.ex;have ck:=XSt.clsK n x xD (f:=f) hi;exact⟨C,bm,f,fd,_,_,by rw[n.eq_nsMap];exact x.ad,x.keep,ck,λM h' k=>(x.keeps (Wn k)).xcls (xD.keeps (Wn k)) hi,RH P w base,R.bd,Dw ck hf⟩
end
noncomputable def X5(x nm:Str)(g:SM):SM:=λρ=>match g ρ with
 |.ex ρ1 d=>if YI x d=AX then .ex ρ1 (exD nm [])else .bad
 |o=>o
section
variable{X:Cx}{B G0:Hp}{KX:XW}{pos p2 p3 cpos np hpos rpos cp:Pos}{x nm tx:Str}{kk j cj:Nat}
theorem Ft{g:SM}{body:List Stmt}{st:List Env}(cD:CK X.K X.mg x)(mk:MkH X.prog X.w X.K X.mg X.base nm)(hf:K6 nm=[])(hr:Room kk X.A)(hw:SO X KX)(hg:Gl X x)(qW:Gl X nm)
  (hb:∀(KX':XW)(W:Ub->Uc->Prop)(pn:List (Ue×Obj)),ZW AX (X.tried W pn) KX'->PSs (X.tried W pn) body (tS X.K B G0 KX' g)) (hk:2<=kk:=by decide)
  (ql:X.stack=X.env::st:=by rfl) (hfr:X.env.frame=O X.env.locals:=by rfl) (hdb:(x==("__debug__" : Str))=AY:=by decide) (hdb2:(nm==("__debug__" : Str))=AY:=by decide)
  (he:Uj [.Constant (.str tx) j p3] X.env=[(AY,eval (.Constant (.str tx) j p3) X.env)]:=by rfl) :
  PS X (.Try body [.ExceptHandler (O (.Name x np)) AW [.Raise (O (.Call (.Name nm p2) [.Constant (.str tx) j p3] [] cpos)) (O (.Constant .none cj cp)) rpos] hpos] [] [] pos) (tS X.K B G0 KX (X5 x nm g)):=PS.kin λkin=>by
 obtain⟨D',bmD,hm,ck⟩:=cD;obtain⟨fD,xD⟩:=ck.cls (model X.prog X.w) X.base kin;obtain⟨C,bm,f,fd,ps,sp,hm2,hkp,ck2,xc,F,hbd,qF⟩:=mk;refine Kj (Fu (KC:=KC X.K) (tb:=λKX'=>tS X.K B G0 KX' g) (KX:=KX) ql hfr (YG kin) xD (xc _ _ kin) hg hm hb (λa=>Ca (X:=X.suite a) (xc _ _ kin) F ((hr.mono hk).markH _) qW hm2 hkp hbd (K5 TY ZD (by rw[he];rfl)) hdb2 (by rw[he];rfl) AV) (λσ H Q q=>?_) hw hdb) λDn σ H ⟨G,ρ,k,a⟩=>?_
 .refine⟨(show 1<=Uh by decide),λa2 n2=>qF a2 _ _ _ U7 (.inl ⟨hf,_,rfl⟩) λdd H' p=>⟨rfl,?_⟩⟩
  rcases p with ⟨_,rfl,rfl⟩|⟨z,_⟩
  .exact q a2 n2
  .exact absurd hf z
 .refine⟨G,ρ,k,?_⟩
  unfold X5 at a;cases z:g ρ with
  |nx ρ1=>rw[z]at a;exact a
  |rt d=>rw[z]at a;exact a
  |ro ds=>rw[z]at a;exact a
  |bk ρ1=>rw[z]at a;exact a
  |ct ρ1=>rw[z]at a;exact a
  |bad=>rw[z]at a;exact a.elim
  |ex ρ1 d=>
   rw[z]at a;dsimp only at a;intro v σ1 G1 H1 k1 s1 r;by_cases hc:YI x d=AX
   .rw[Qp hc]at a
    obtain⟨ad,C',dd,bm',rfl,kc,hx,hct⟩:=Ry r hc ck;refine⟨ad,C',dd,bm',rfl,kc,k1.gh _ _ hx,hct,λa2 n2=>?_⟩;have ex:Ext G1 H1 (upd G1 a2 (.ext (XO AY a2 C AW))) (upd H1 a2 (.ext (XO AY a2 C AW))):=Ext.new k1.gh n2;exact a (.ref a2) σ1 _ _ (k1.ext ex) (s1.trans ex.g) (.exc (vs:=[]) ck2 U7 ⟨hf,rfl⟩ .nil)
   .rw[Qz hc]at a;exact a.elim
end
section
variable{K:Frag}{B G0 G H:Hp}{σ:St}{ρ:UB}{fn:A5}
theorem RepOl.atN{p:Pat}:∀{vs:List V}{ds:AZ}{fp:A5}{k:Nat}{d:D},RepOl K G H p vs ds fp->ds[k]?=O d->fp.Nodup->(∀b∈fn,b∉fp)->∃v f,vs[k]?=O v/\RepO K G H p v d f/\f.Nodup/\(∀b∈f,b∈fp) /\
  ∀a∈f,(∀ws,H a≠O (.tup ws))->∀o d' f',RepO K G (L2.upd H a o) p v d' f'->f'.Nodup->(∀b∈f',b∈f∨b∈fn)->∃fp',RepOl K G (L2.upd H a o) p vs (ds.set k d') fp'/\fp'.Nodup/\∀b∈fp',b∈fp∨b∈fn
 |_,_,_,_,_,.nil,e,_,_=>by cases e
 |_,_,_,0,_,.cons (f1:=f1) (f2:=f2) r t,e,n,hd=>by
  cases e;obtain⟨n1,n2,nn⟩:=QI.mp n;refine⟨_,f1,rfl,r,n1,λb m=>Qu _ m,λa m nt o d' f' r' qt sub=>⟨f'++f2,.cons r' (t.upd nt (λm2=>nn a m a m2 AV)),QI.mpr ⟨qt,n2,λx hx y hy=>?_⟩,λb m=>?_⟩⟩
  .rcases sub x hx with m|m
   .exact nn x m y hy
   .intro e
    subst e;exact hd x m (Qo _ hy)
  .rcases QE.mp m with m|m
   .exact(sub b m).elim (λm=>.inl (Qu _ m)) .inr
   .exact .inl (Qo _ m)
 |_,_,_,k+1,d,.cons (f1:=f1) (f2:=f2) r t,e,n,hd=>by
  obtain⟨n1,n2,nn⟩:=QI.mp n;obtain⟨v,f,h1,h2,h3,h4,h5⟩:=RepOl.atN (k:=k) (d:=d) t (by simpa using e) n2 λb m y=>hd b m (List.mem_append_right _ y)
  refine⟨v,f,by simpa using h1,h2,h3,λb m=>List.mem_append_right _ (h4 b m),λa m nt o d' f' r' qt sub=>?_⟩;obtain⟨fp',g1,g2,g3⟩:=h5 a m nt o d' f' r' qt sub;refine⟨f1++fp',.cons (r.upd nt (λm2=>nn a m2 a (h4 a m) AV)) g1,QI.mpr ⟨n1,g2,λx hx y hy=>?_⟩,λb m=>?_⟩
  .rcases g3 y hy with m|m
   .exact nn x hx y m
   .intro e
    subst e;exact hd x m (Qu _ hx)
  .rcases QE.mp m with m|m
   .exact .inl (Qu _ m)
   .exact(g3 b m).elim (λm=>.inl (Qo _ m)) .inr
theorem RepOs.atN:∀{ps:List Pat}{vs:List V}{ds:AZ}{fp:A5}{k:Nat}{p:Pat}{d:D},RepOs K G H ps vs ds fp->ps[k]?=O p->ds[k]?=O d->fp.Nodup->(∀b∈fn,b∉fp)->∃v f,vs[k]?=O v/\RepO K G H p v d f/\f.Nodup/\(∀b∈f,b∈fp) /\
  ∀a∈f,(∀ws,H a≠O (.tup ws))->∀o d' f',RepO K G (L2.upd H a o) p v d' f'->f'.Nodup->(∀b∈f',b∈f∨b∈fn)->∃fp',RepOs K G (L2.upd H a o) ps vs (ds.set k d') fp'/\fp'.Nodup/\∀b∈fp',b∈fp∨b∈fn
 |_,_,_,_,_,_,_,.nil,_,e,_,_=>by cases e
 |_,_,_,_,0,_,_,.cons (f1:=f1) (f2:=f2) r t,e0,e,n,hd=>by
  cases e;cases e0;obtain⟨n1,n2,nn⟩:=QI.mp n;refine⟨_,f1,rfl,r,n1,λb m=>Qu _ m,λa m nt o d' f' r' qt sub=>⟨f'++f2,.cons r' (t.upd nt (λm2=>nn a m a m2 AV)),QI.mpr ⟨qt,n2,λx hx y hy=>?_⟩,λb m=>?_⟩⟩
  .rcases sub x hx with m|m
   .exact nn x m y hy
   .intro e
    subst e;exact hd x m (Qo _ hy)
  .rcases QE.mp m with m|m
   .exact(sub b m).elim (λm=>.inl (Qu _ m)) .inr
   .exact .inl (Qo _ m)
 |_,_,_,_,k+1,p,d,.cons (f1:=f1) (f2:=f2) r t,e0,e,n,hd=>by
  obtain⟨n1,n2,nn⟩:=QI.mp n;obtain⟨v,f,h1,h2,h3,h4,h5⟩:=RepOs.atN (k:=k) (p:=p) (d:=d) t (by simpa using e0) (by simpa using e) n2 λb m y=>hd b m (List.mem_append_right _ y)
  refine⟨v,f,by simpa using h1,h2,h3,λb m=>List.mem_append_right _ (h4 b m),λa m nt o d' f' r' qt sub=>?_⟩;obtain⟨fp',g1,g2,g3⟩:=h5 a m nt o d' f' r' qt sub;refine⟨f1++fp',.cons (r.upd nt (λm2=>nn a m2 a (h4 a m) AV)) g1,QI.mpr ⟨n1,g2,λx hx y hy=>?_⟩,λb m=>?_⟩
  .rcases g3 y hy with m|m
   .exact nn x hx y m
   .intro e
    subst e;exact hd x m (Qu _ hx)
  .rcases QE.mp m with m|m
   .exact .inl (Qu _ m)
   .exact(g3 b m).elim (λm=>.inl (Qo _ m)) .inr
noncomputable def Zo(pn:Pat)(x:D):A8->Pat->D->A6
 |[],.lst p,.list ds=>if p.is pn=AX/\ds.length<1000000 then O (.list (ds++[x]))else AW
 |k::r,.lst p,.list ds=>(ds[k]?).bind λd=>(Zo pn x r p d).map λd'=>.list (ds.set k d')
 |k::r,.tup ps,.tuple ds=>(ps[k]?).bind λp=>(ds[k]?).bind λd=>(Zo pn x r p d).map λd'=>.tuple (ds.set k d')
 |_,_,_=>AW
theorem RepO.putN{pn:Pat}{vn:V}{dn:D}(rn:RepO K G H pn vn dn fn)(nn:fn.Nodup):∀(path:A8){p:Pat}{v:V}{d d':D}{fp:A5},RepO K G H p v d fp->fp.Nodup->(∀b∈fn,b∉fp)->Zo pn dn path p d=O d'->∃a vs,ZS H path v=O (.ref a)/\a∈fp/\H a=O (.lst vs) /\
  vs.length<1000000/\∃fp',RepO K G (L2.upd H a (.lst (vs++[vn]))) p v d' fp'/\fp'.Nodup/\∀b∈fp',b∈fp∨b∈fn
 |[],p,v,d,d',fp,r,n,hd,e=>by
  cases r with
  |leaf r=>cases e
  |tup h r=>cases e
  |dic _ _ h r=>cases e
  |lst h r=>
   rename_i p a vs ds fp;unfold Zo at e;split at e
   case isFalse=>cases e
   rename_i hc;cases e;have hq:=Pat.is_eq hc.1;subst hq;obtain⟨na,nf⟩:=Jf.mp n;have nt:∀ws,H a≠O (.tup ws):=λws z=>by rw[h]at z;cases z
   have da:a∉fn:=λm=>hd a m Qg
   refine⟨a,vs,rfl,Qg,h,by rw[r.length];exact hc.2,a::(fp++(fn++[])),.lst U7 ((r.upd nt na).append (.cons (rn.upd nt da) .nil)),?_,λb m=>?_⟩
   .rw[QR]
    refine Jf.mpr ⟨λm=>(QE.mp m).elim na da,QI.mpr ⟨nf,nn,λx hx y hy e=>?_⟩⟩;subst e;exact hd x hy (Qj _ hx)
   .rw[QR]at m
    rcases QM.mp m with rfl|m
    .exact .inl Qg
    .exact(QE.mp m).elim (λm=>.inl (Qj _ m)) .inr
 |k::path,p,v,d,d',fp,r,n,hd,e=>by
  cases r with
  |leaf r=>cases e
  |dic _ _ h r=>cases e
  |lst h r=>
   rename_i p a0 vs ds fp;unfold Zo at e;cases z:ds[k]? with
   |none=>rw[z]at e;cases e
   |some d0=>
   rw[z]at e;dsimp only[Option.bind_some]at e;cases z2:Zo pn dn path p d0 with
   |none=>rw[z2]at e;cases e
   |some d1=>
   rw[z2]at e;cases e;obtain⟨na,nf⟩:=Jf.mp n;obtain⟨v0,f,h1,h2,h3,h4,h5⟩:=r.atN z nf λb m y=>hd b m (Qj _ y)
   obtain⟨a,ws,g1,g2,g3,g4,f',g5,g6,g7⟩:=RepO.putN rn nn path h2 h3 (λb m y=>hd b m (Qj _ (h4 b y))) z2;have nt:∀us,H a≠O (.tup us):=λus y=>by rw[g3]at y;cases y
   obtain⟨fp',k1,k2,k3⟩:=h5 a g2 nt _ _ _ g5 g6 g7;have hne:a0≠a:=λy=>by subst y;exact na (h4 a0 g2)
   refine⟨a,ws,?_,Qj _ (h4 a g2),g3,g4,a0::fp',.lst (by rw[UW hne];exact h) k1,Jf.mpr ⟨λm=>(k3 a0 m).elim na λm=>hd a0 m Qg,k2⟩,λb m=>?_⟩
   .unfold ZS
    rw[h];dsimp only;rw[h1];exact g1
   .rcases QM.mp m with rfl|m
    .exact .inl Qg
    .exact(k3 b m).elim (λm=>.inl (Qj _ m)) .inr
  |tup h r=>
   rename_i ps a0 vs ds;unfold Zo at e;cases zp:ps[k]? with
   |none=>rw[zp]at e;cases e
   |some p0=>
   rw[zp]at e;dsimp only[Option.bind_some]at e;cases z:ds[k]? with
   |none=>rw[z]at e;cases e
   |some d0=>
   rw[z]at e;dsimp only[Option.bind_some]at e;cases z2:Zo pn dn path p0 d0 with
   |none=>rw[z2]at e;cases e
   |some d1=>
   rw[z2]at e;cases e;obtain⟨v0,f,h1,h2,h3,h4,h5⟩:=r.atN zp z n hd;obtain⟨a,ws,g1,g2,g3,g4,f',g5,g6,g7⟩:=RepO.putN rn nn path h2 h3 (λb m y=>hd b m (h4 b y)) z2;have nt:∀us,H a≠O (.tup us):=λus y=>by rw[g3]at y;cases y
   obtain⟨fp',k1,k2,k3⟩:=h5 a g2 nt _ _ _ g5 g6 g7;have hne:a0≠a:=λy=>by subst y;rw[h]at g3;cases g3
   refine⟨a,ws,?_,h4 a g2,g3,g4,fp',.tup (by rw[UW hne];exact h) k1,k2,k3⟩;unfold ZS;rw[h];dsimp only;rw[h1];exact g1
theorem RN{H':Hp}(h:Same H H'):∀{path:A8}{v u:V},ZS H path v=O u->ZS H' path v=O u
 |[],v,u,e=>e
 |k::r,v,u,e=>by
  cases v with
  |ref a=>
   unfold ZS at e⊢;split at e
   .rename_i vs ha
    rw[h a _ ha];dsimp only;cases z:vs[k]? with
    |none=>rw[z]at e;cases e
    |some w=>rw[z]at e;exact RN h e
   .rename_i vs ha
    rw[h a _ ha];dsimp only;cases z:vs[k]? with
    |none=>rw[z]at e;cases e
    |some w=>rw[z]at e;exact RN h e
   .cases e
  |_=>cases e
theorem S4{pn:Pat}{x:D}:∀{path:A8}{p:Pat}{d d':D},Zo pn x path p d=O d'->∃d'',ZG .rev path p d=O d''
 |[],p,d,d',e=>by cases p<;>cases d<;>first|exact⟨_,rfl⟩|cases e
 |k::r,p,d,d',e=>by
  cases p with
  |lst p=>
   cases d with
   |list ds=>
    unfold Zo at e;unfold ZG;cases z:ds[k]? with
    |none=>rw[z]at e;cases e
    |some d0=>
     rw[z]at e;dsimp only[Option.bind_some]at e⊢;cases z2:Zo pn x r p d0 with
     |none=>rw[z2]at e;cases e
     |some d1=>obtain⟨y,hy⟩:=S4 z2;exact⟨_,by rw[hy];rfl⟩
   |_=>cases e
  |tup ps=>
   cases d with
   |tuple ds=>
    unfold Zo at e;unfold ZG;cases zp:ps[k]? with
    |none=>rw[zp]at e;cases e
    |some p0=>
    rw[zp]at e;dsimp only[Option.bind_some]at e⊢;cases z:ds[k]? with
    |none=>rw[z]at e;cases e
    |some d0=>
     rw[z]at e;dsimp only[Option.bind_some]at e⊢;cases z2:Zo pn x r p0 d0 with
     |none=>rw[z2]at e;cases e
     |some d1=>obtain⟨y,hy⟩:=S4 z2;exact⟨_,by rw[hy];rfl⟩
   |_=>cases e
  |leaf=>cases e
  |dic=>cases e
end
noncomputable def Vl(i:Nat)(path:A8)(c:Int):SM:=λρ=>match ρ[i]? with
 |some (O (.deep p d))=>(match Zo (.lst .leaf) (.list [.int c]) path p d with
  |some d'=>.nx (ρ.set i (O (.deep p d')))
  |none=>.bad)
 |_=>.bad
theorem Fs{ρ ρ':UB}{i:Nat}{path:A8}{c:Int}{p:Pat}{d d':D}(h1:ρ[i]?=O (O (.deep p d)))(h2:Zo (.lst .leaf) (.list [.int c]) path p d=O d')(h3:ρ.set i (O (.deep p d'))=ρ'):Vl i path c ρ=.nx ρ':=by unfold Vl;rw[h1];dsimp only;rw[h2];dsimp only;rw[h3]
section
variable{X:Cx}{B G0:Hp}{KX:XW}{o:Ug}{pos:Pos}
theorem Fq{i:Nat}{path:A8}{c:Int}{j:Nat}{p1 p2 apos cpos:Pos}(ho:PE X o (ZJ X.K i path))
  (hbase:attributeBase o "append" X.env (eval o X.env)=eval o X.env:=by rfl)
  (hfew:((backTo cpos (Uj [.List [.Constant (.int c) j p1] p2] X.env)).all (λx=>!x.1)&&(backToKw cpos (keywordEach [] X.env)).all (λx=>x.1.isSome)
   && decide (([.List [.Constant (.int c) j p1] p2]:A4).length+([]:List Keyword).length+(if([]:List Keyword).isEmpty then 0 else 1)<30))=AX:=by rfl)
  (hline:(apos.endLine==cpos.line)=AX:=by rfl) (hs:Uj [.List [.Constant (.int c) j p1] p2] X.env=[(AY,eval (.List [.Constant (.int c) j p1] p2) X.env)]:=by rfl)
  (hs1:Uj [.Constant (.int c) j p1] X.env=[(AY,eval (.Constant (.int c) j p1) X.env)]:=by rfl)
  (hsw:swapsWith (.Call (.Attribute o "append" apos) [.List [.Constant (.int c) j p1] p2] [] cpos) AW pos.line X.env=pure AY:=by rfl) :
  PS X (.Expr (.Call (.Attribute o "append" apos) [.List [.Constant (.int c) j p1] p2] [] cpos) pos) (tS X.K B G0 KX (Vl i path c)):=
 Kj (Y6 (Vk Jj JO JP VA ho (K5 (TW (K5 V1 ZD (by rw[hs1];rfl))) ZD (by rw[hs];rfl)) hbase hfew hline (by rw[hs];rfl) AV) hsw) λD σ H ⟨G,ρ,k,q⟩=>by
  unfold Vl at q;split at q
  case h_2=>exact q.elim
  rename_i p d hi;split at q
  case h_2=>exact q.elim
  rename_i d' z;obtain⟨ω,ks⟩:=k.slots;obtain⟨v,fp,hv,r,nd,w⟩:=ks i p d (BV hi);obtain⟨d2,hz⟩:=S4 z;obtain⟨a,vs,h1,h2,h3,_⟩:=r.mut (op:=.rev) (u:=.non) trivial path nd hz;refine⟨v,hv,Ym.of h1 ⟨.inl ⟨rfl,_,SqL.of h3⟩,(show 1<=Uh by decide),λnw hnw=>?_⟩⟩;have sh:Same H (upd H nw (.lst [.int c])):=KN hnw;have k1:EOk X.K B G0 G (upd H nw (.lst [.int c])) σ ρ:=k.ext (Ext.hid (o:=.lst [.int c]) k.gh hnw);have rn:RepO X.K G (upd H nw (.lst [.int c])) (.lst .leaf) (.ref nw) (.list [.int c]) [nw]:=.lst U7 (.leaf (.cons (.int c) .nil))
  have nT:NewT X.K B G (upd H nw (.lst [.int c])) σ ρ (.lst .leaf) (.ref nw) (.list [.int c]) [nw]:=k.newT sh rn (List.nodup_cons.mpr ⟨by simp,List.nodup_nil⟩) λb m=>by
   rw[QL]at m;subst m;refine⟨hnw,?_⟩;cases y:G b with
   |none=>rfl
   |some o=>have:=k.gh b o y;rw[hnw]at this;cases this
  have r1:=r.mono (.refl _) sh;obtain⟨a',vs',g1,g2,g3,g4,fp',g5,g6,g7⟩:=RepO.putN rn nT.nd path r1 nd (λb m y=>by rw[QL]at m;subst m;obtain⟨us,hl⟩:=r.isl b y;rw[hnw]at hl;cases us<;>cases hl) z;have ea:=RN sh h1;rw[g1]at ea;cases ea;refine⟨_,vs',.ref nw,rfl,rfl,g3,QA g4 lim,?_⟩;exact q σ G _ (k1.mutN hi hv r1 g2 nT g5 g6 g7) (.refl _)
end
end DL
namespace W
open PySem PySem.Spec L2 DL
open PyProof.Rows hiding St
noncomputable def top(i:Nat):Stmt:=PySem.Challenge.pw_wishdeal_k80_beside_one_another.main.body.getD i (.Pass ⟨0,0,0,0⟩)
abbrev GG(s:Stmt)(x:Str):Prop:=(Ki s).names.lookup x=O NameKind.globalImplicit
abbrev VV(s:Stmt)(x:Str):Prop:=L2.Vis (Ki s) x
abbrev LL(s:Stmt)(x:Str):Prop:=L2.Loc (Ki s) x
theorem vk{s:Stmt}{x:Str}(h:(Ki s).names.lookup x=O .local∨(Ki s).names.lookup x=O .cell∨(Ki s).names.lookup x=O .free):VV s x:=h
theorem lk{s:Stmt}{x:Str}(h:(Ki s).names.lookup x=O .local∨(Ki s).names.lookup x=O .cell):LL s x:=h
structure Txt(K:Frag)(mg:Str->A3):Prop where
 b_ValueError:mg "ValueError" = AW
 b_all:mg "all" = AW
 b_bool:mg "bool" = AW
 b_enumerate:mg "enumerate" = AW
 b_int:mg "int" = AW
 b_isinstance:mg "isinstance" = AW
 b_len:mg "len" = AW
 b_list:mg "list" = AW
 b_max:mg "max" = AW
 b_range:mg "range" = AW
 b_repr:mg "repr" = AW
 b_set:mg "set" = AW
 b_sorted:mg "sorted" = AW
 b_sum:mg "sum" = AW
 b_tuple:mg "tuple" = AW
 c_MOST_ASKERS:∃t,mg "MOST_ASKERS" = O (Value.int 7 t)
 c_MOST_COPIES:∃t,mg "MOST_COPIES" = O (Value.int 7 t)
 c_MOST_RANKS:∃t,mg "MOST_RANKS" = O (Value.int 5 t)
 c_MOST_THINGS:∃t,mg "MOST_THINGS" = O (Value.int 6 t)
 x_DealError:CK K mg "DealError"
 x_NoAim:CK K mg "NoAim"
 x_NoBook:CK K mg "NoBook"
 x_NoChange:CK K mg "NoChange"
 x_NoDeed:CK K mg "NoDeed"
 x_NoJoin:CK K mg "NoJoin"
 x_NoName:CK K mg "NoName"
 x_NoNumbering:CK K mg "NoNumbering"
 x_NoPlace:CK K mg "NoPlace"
 x_NoRow:CK K mg "NoRow"
 x_NoText:CK K mg "NoText"
 x_NoWay:CK K mg "NoWay"
 x_NoWishes:CK K mg "NoWishes"
 x_TooMany:CK K mg "TooMany"
noncomputable abbrev Sak:Stmt:=top 33
noncomputable abbrev N_ak:List Str:=["_law_script", "_law_k"]
theorem Hak:NmF Sak N_ak:=KD (by decide +kernel)
noncomputable def XB:SM:=
 UI (sIf (Yk (oIB λi j=>decide (i<j)) 1 (KU 0))
 (U2 (UR 0 (UC 1)))
 (sNx))
 (U2 (UF (.int 0)))
noncomputable def Z7:AZ->A6:=Ka N_ak XB
noncomputable abbrev Saa:Stmt:=top 16
noncomputable abbrev N_aa:List Str:=["thing"]
theorem Haa:NmF Saa N_aa:=KD (by decide +kernel)
noncomputable def W9:SM:=
 U2 (VO (UO (λd=>.bool (Kb d "int")) (UC 0)) (Tn (UO (λd=>.bool (Kb d "bool")) (UC 0))))
noncomputable def YX:AZ->A6:=Ka N_aa W9
noncomputable abbrev Sab:Stmt:=top 17
noncomputable abbrev N_ab:List Str:=["thing", "many"]
theorem Hab:NmF Sab N_ab:=KD (by decide +kernel)
noncomputable def XG:SM:=
 U2 (VO (UT 1 YX (UE (UC 0) (UD))) (UO Up (Xf (oIB λi j=>decide (i<=j)) (oIB λi j=>decide (i<j)) (UF (.int 0)) (UC 0) (UC 1))))
noncomputable def Zc:AZ->A6:=Ka N_ab XG
noncomputable abbrev Sad:Stmt:=top 24
noncomputable abbrev N_ad:List Str:=["thing", "things"]
theorem Had:NmF Sad N_ad:=KD (by decide +kernel)
noncomputable def XF:SM:=
 UI (sIf (mOr (Kf (Zh (UO (λd=>.bool (Kb d "list")) (UC 0)))) (UJ oEq (KU 0) (UF (.int 0))))
 (U2 (UF (.bool AY)))
 (sNx))
 (U2 (KH ZL (UE (UO Uo (KT (Km (UC 0)) 1 (gN 2) (UF AX) (UT 2 Zc (UE (UC 2) (UE (UC 1) (UD)))))) (UD))))
noncomputable def Z9:AZ->A6:=Ka N_ad XF
noncomputable abbrev Sae:Stmt:=top 25
noncomputable abbrev N_ae:List Str:=["thing", "things", "wished"]
theorem Hae:NmF Sae N_ae:=KD (by decide +kernel)
noncomputable def XE:SM:=
 UI (sIf (mOr (Kf (Zh (UO (λd=>.bool (Kb d "list")) (UC 0)))) (UJ (oIB λi j=>decide (j<i)) (KU 0) (UF (.int 5))))
 (U2 (UF (.bool AY)))
 (sNx))
 (UI (sIf (Kf (Zh (KH ZL (UE (UO Uo (KT (Km (UC 0)) 1 (gN 3) (UF AX) (UT 2 Z9 (UE (UC 3) (UE (UC 1) (UD)))))) (UD)))))
 (U2 (UF (.bool AY)))
 (sNx))
 (UI (Kx 2 (Wy (Km (UC 0)) 2 (gN 3) (UF AX) (Km (UC 3)) (gN 4) (UF AX) (UC 4)))
 (U2 (UO Up (UJ oEq (KH Wh (UE (UC 2) (UD))) (KU 2))))))
noncomputable def Z8:AZ->A6:=Ka N_ae XE
noncomputable abbrev Saf:Stmt:=top 26
noncomputable abbrev N_af:List Str:=["lists", "things", "asker", "ranks"]
theorem Haf:NmF Saf N_af:=KD (by decide +kernel)
noncomputable def P4:SM:=
 sIf (Kf (Zh (UT 2 Z8 (UE (UC 3) (UE (UC 1) (UD))))))
 (Wz)
 (sNx)
noncomputable def W7:SM:=
 UI (sIf (mOr (Kf (Zh (UO (λd=>.bool (Kb d "list")) (UC 0)))) (Kf (Xf (oIB λi j=>decide (i<=j)) (oIB λi j=>decide (i<=j)) (UF (.int 1)) (KU 0) (UF (.int 7)))))
 (Wz)
 (sNx))
 (Ko (X9 (UE (UC 0) (UD))) (gT 2 (gNC (gN 2) (gNC (gN 3) (gN0)))) P4)
noncomputable def XZ:AZ->A6:=Ka N_af W7
noncomputable abbrev Sac:Stmt:=top 23
noncomputable abbrev N_ac:List Str:=["copies", "number", "many"]
theorem Hac:NmF Sac N_ac:=KD (by decide +kernel)
noncomputable def P3:SM:=
 sIf (Kf (Zh (UT 2 Zc (UE (UC 2) (UE (UJ UQ (UF (.int 7)) (UF (.int 1))) (UD))))))
 (Wz)
 (sNx)
noncomputable def W8:SM:=
 UI (sIf (mOr (Kf (Zh (UO (λd=>.bool (Kb d "list")) (UC 0)))) (Kf (Xf (oIB λi j=>decide (i<=j)) (oIB λi j=>decide (i<=j)) (UF (.int 1)) (KU 0) (UF (.int 6)))))
 (Wz)
 (sNx))
 (Ko (X9 (UE (UC 0) (UD))) (gT 2 (gNC (gN 1) (gNC (gN 2) (gN0)))) P3)
noncomputable def X0:AZ->A6:=Ka N_ac W8
noncomputable abbrev Sag:Stmt:=top 27
noncomputable abbrev N_ag:List Str:=["thing", "copies", "lists"]
theorem Hag:NmF Sag N_ag:=KD (by decide +kernel)
noncomputable def W6:SM:=
 UI (sIf (mOr (Kf (Zh (UO (λd=>.bool (Kb d "tuple")) (UC 0)))) (UJ oNe (KU 0) (UF (.int 2))))
 (Wz)
 (sNx))
 (UI (K0 (UC 0) (gT 2 (gNC (gN 1) (gNC (gN 2) (gN0)))))
 (UI (Y9 (UT 1 X0 (UE (UC 1) (UD))))
 (Y9 (UT 2 XZ (UE (UC 2) (UE (KU 1) (UD)))))))
noncomputable def ZA:AZ->A6:=Ka N_ag W6
noncomputable abbrev Saj:Stmt:=top 31
noncomputable abbrev N_aj:List Str:=["one_wishes", "one", "other", "things"]
theorem Haj:NmF Saj N_aj:=KD (by decide +kernel)
noncomputable def W5:SM:=
 UI (Y9 (UT 1 ZA (UE (UC 0) (UD))))
 (UI (U8 3 (KH U0 (UE (UR 0 (UF (.int 0))) (UD))))
 (U2 (UJ UQ (UC 1) (UO Uo (KT (Km (UC 2)) 1 (gN 4) (UF AX) (mIf (UO isNon (UC 4)) (UF .none) (UJ UQ (UC 3) (UC 4))))))))
noncomputable def XY:AZ->A6:=Ka N_aj W5
noncomputable abbrev Sal:Stmt:=top 34
noncomputable abbrev N_al:List Str:=["_law_cell", "_law_salt", "_law_sizes", "_law_number", "_law_left", "_law_found", "_law_k", "_law_one"]
theorem Hal:NmF Sal N_al:=KD (by decide +kernel)
noncomputable def S3:SM:=
 sIf (YS (Yk (oIB λi j=>decide (j<=i)) 3 (UJ YQ (UF (.int 10)) (UF (.int 18)))) (Yk (oIB λi j=>decide (j<i)) 4 (UF (.int 0))))
 (UI (K1 5 (UJ Zk (UC 4) (UR 2 (UC 6))))
 (U8 4 (UJ Yu (UC 4) (UR 2 (UC 6)))))
 (UI (U8 7 (UJ Zk (UJ UQ (UJ UQ (UJ UQ (UC 3) (UJ Ke (UF (.int 7919)) (UC 1))) (UJ Ke (UJ Ke (UF (.int 101)) (UC 6)) (UC 6))) (UC 6)) (UF (.int 2147483647))))
 (UI (U8 7 (UJ Zk (UJ Ke (UC 7) (UF (.int 48271))) (UF (.int 2147483647))))
 (UI (U8 7 (UJ Zk (UJ Ke (UJ Zk (UJ Ke (UC 7) (UC 7)) (UF (.int 2147483629))) (UF (.int 48271))) (UF (.int 2147483647))))
 (K1 5 (UJ Zk (UJ Yu (UC 7) (UF (.int 16))) (UR 2 (UC 6)))))))
noncomputable def W4:SM:=
 UI (U8 3 (KH Tl (UE (UC 0) (UE (UJ Xv (Z5 (UF (.int 1))) (UC 0)) (UD)))))
 (UI (U8 4 (UC 3))
 (UI (Kx 5 (UN (UD) λxs=>if xs.length<=1000000 then UF xs else λ_=>.bad))
 (UI (Ko (Wa (UE (KU 2) (UD))) (gN 6) S3)
 (U2 (UC 5)))))
noncomputable def Zz:AZ->A6:=Ka N_al W4
noncomputable abbrev Mw:Stmt:=top 26
noncomputable abbrev Mv:List Str:=["lists", "things", "asker", "ranks"]
theorem Mn:NmF Mw Mv:=KD (by decide +kernel)
noncomputable def Mz:SM:=
 sIf (Kf (Zh (UT 2 Z8 (UE (UC 3) (UE (UC 1) (UD))))))
 (Xj "NoWishes" (UE (UF (.str "lists")) (UE (UC 2) (UD))))
 (sNx)
noncomputable def RY:SM:=
 UI (sIf (mOr (Kf (Zh (UO (λd=>.bool (Kb d "list")) (UC 0)))) (Kf (Xf (oIB λi j=>decide (i<=j)) (oIB λi j=>decide (i<=j)) (UF (.int 1)) (KU 0) (UF (.int 7)))))
 (Xj "NoWishes" (UE (UF (.str "lists")) (UE (UF .none) (UD))))
 (sNx))
 (Ko (X9 (UE (UC 0) (UD))) (gT 2 (gNC (gN 2) (gNC (gN 3) (gN0)))) Mz)
noncomputable def Ss:AZ->Option XR:=Zt Mv RY
noncomputable abbrev Mm:Stmt:=top 23
noncomputable abbrev Ml:List Str:=["copies", "number", "many"]
theorem MF:NmF Mm Ml:=KD (by decide +kernel)
noncomputable def MA:SM:=
 sIf (Kf (Zh (UT 2 Zc (UE (UC 2) (UE (UJ UQ (UF (.int 7)) (UF (.int 1))) (UD))))))
 (Xj "NoWishes" (UE (UF (.str "copies")) (UE (UC 1) (UD))))
 (sNx)
noncomputable def R4:SM:=
 UI (sIf (mOr (Kf (Zh (UO (λd=>.bool (Kb d "list")) (UC 0)))) (Kf (Xf (oIB λi j=>decide (i<=j)) (oIB λi j=>decide (i<=j)) (UF (.int 1)) (KU 0) (UF (.int 6)))))
 (Xj "NoWishes" (UE (UF (.str "copies")) (UE (UF .none) (UD))))
 (sNx))
 (Ko (X9 (UE (UC 0) (UD))) (gT 2 (gNC (gN 1) (gNC (gN 2) (gN0)))) MA)
noncomputable def Sv:AZ->Option XR:=Zt Ml R4
noncomputable abbrev Mk:Stmt:=top 27
noncomputable abbrev Mj:List Str:=["thing", "copies", "lists"]
theorem ME:NmF Mk Mj:=KD (by decide +kernel)
noncomputable def R3:SM:=
 UI (sIf (mOr (Kf (Zh (UO (λd=>.bool (Kb d "tuple")) (UC 0)))) (UJ oNe (KU 0) (UF (.int 2))))
 (Xj "NoWishes" (UE (UF (.str "wishes")) (UE (UF .none) (UD))))
 (sNx))
 (UI (K0 (UC 0) (gT 2 (gNC (gN 1) (gNC (gN 2) (gN0)))))
 (UI (sX (Yn 1 Sv (UE (UC 1) (UD))) λ_ ρ=>.nx ρ)
 (sX (Yn 2 Ss (UE (UC 2) (UE (KU 1) (UD)))) λ_ ρ=>.nx ρ)))
noncomputable def YM:AZ->Option XR:=Zt Mj R3
noncomputable abbrev MD:Stmt:=top 31
noncomputable abbrev MC:List Str:=["one_wishes", "one", "other", "things"]
theorem My:NmF MD MC:=KD (by decide +kernel)
noncomputable def RV:SM:=
 UI (sX (Yn 1 YM (UE (UC 0) (UD))) λ_ ρ=>.nx ρ)
 (UI (U8 3 (KH U0 (UE (UR 0 (UF (.int 0))) (UD))))
 (U2 (UJ UQ (UC 1) (UO Uo (KT (Km (UC 2)) 1 (gN 4) (UF AX) (mIf (UO isNon (UC 4)) (UF .none) (UJ UQ (UC 3) (UC 4))))))))
noncomputable def Sy:AZ->Option XR:=Zt MC RV
noncomputable abbrev Saq:Stmt:=top 39
noncomputable abbrev N_aq:List Str:=["_law_wishes_here", "e"]
theorem Haq:NmF Saq N_aq:=KD (by decide +kernel)
noncomputable def WZ:SM:=
 UI (Ys 1 "DealError" (sX (Yn 3 Sy (UE (UC 0) (UE (U3 (UE (UF .none) (UD))) (UE (U3 (UE (UF .none) (UD))) (UD))))) λ_ ρ=>.nx ρ) (U2 (UC 1)))
 (U2 (UF .none))
noncomputable def XV:AZ->A6:=Ka N_aq WZ
noncomputable abbrev Sar:Stmt:=top 40
noncomputable abbrev N_ar:List Str:=["_law_caught_here", "_law_words", "_law_names"]
theorem Har:NmF Sar N_ar:=KD (by decide +kernel)
noncomputable def g_ar:SM:=
 UI (Kx 1 (UN (UE (UN (UC 0) λd=>UM (Kz "NoWishes" d)) (UE (UN (UC 0) λd=>UM (Kz "NoAim" d)) (UE (UN (UC 0) λd=>UM (Kz "NoWay" d)) (UD)))) λxs=>if xs.length<=1000000 then UF xs else λ_=>.bad))
 (UI (Kx 1 (ZP (UC 1) (U3 (UE (UN (UC 0) λd=>UM (Kz "NoNumbering" d)) (UE (UN (UC 0) λd=>UM (Kz "NoJoin" d)) (UE (UN (UC 0) λd=>UM (Kz "NoBook" d)) (UD)))))))
 (UI (Kx 1 (ZP (UC 1) (U3 (UE (UN (UC 0) λd=>UM (Kz "NoChange" d)) (UE (UN (UC 0) λd=>UM (Kz "NoDeed" d)) (UE (UN (UC 0) λd=>UM (Kz "NoName" d)) (UD)))))))
 (UI (Kx 1 (ZP (UC 1) (U3 (UE (UN (UC 0) λd=>UM (Kz "NoPlace" d)) (UE (UN (UC 0) λd=>UM (Kz "NoRow" d)) (UE (UN (UC 0) λd=>UM (Kz "NoText" d)) (UD)))))))
 (UI (K1 1 (UN (UC 0) λd=>UM (Kz "TooMany" d)))
 (UI (sIf (mOr (UJ oNe (Py (UC 1) (UE (UF (.bool AX)) (UD))) (UF (.int 1))) (Kf (Zh (UN (UC 0) λd=>UM (WS d)))))
 (U2 (UF (.str "none")))
 (sNx))
 (UI (Kx 2 (UN (UE (UF (.str "wishes")) (UE (UF (.str "aim")) (UE (UF (.str "way")) (UE (UF (.str "numbering")) (UE (UF (.str "join")) (UE (UF (.str "book")) (UE (UF (.str "change")) (UE (UF (.str "deed")) (UE (UF (.str "name")) (UE (UF (.str "place")) (UE (UF (.str "row")) (UE (UF (.str "text")) (UD))))))))))))) λxs=>if xs.length<=1000000 then UF xs else λ_=>.bad))
 (U2 (UJ oIx (UJ UQ (UC 2) (U3 (UE (UF (.str "many")) (UD)))) (P6 (UC 1) (UE (UF (.bool AX)) (UD)))))))))))
noncomputable def Z6:AZ->A6:=Ka N_ar g_ar
noncomputable abbrev Mu:Stmt:=top 28
noncomputable abbrev Mt:List Str:=["wishes", "copies", "lists"]
theorem Mi:NmF Mu Mt:=KD (by decide +kernel)
noncomputable def RX:SM:=
 UI (K0 (UC 0) (gT 2 (gNC (gN 1) (gNC (gN 2) (gN0)))))
 (sNx)
noncomputable abbrev AH:M D:=
 (UN (Vo (UO Uo (VY 1)) (Vo (YH (Km (UC 2)) 1 (gN 3) (UF AX) (YH (Km (UC 3)) 1 (gN 4) (UF AX) (UO Uo (VY 4)))) (UD))) λxs=>if xs.length<=1000000 then UF (.tuple xs)else λ_=>.bad)
noncomputable def VI:AZ->A6:=Wp Mt RX AH
noncomputable abbrev F_ah:AZ->A6:=VI
noncomputable abbrev Ms:Stmt:=top 30
noncomputable abbrev Mr:List Str:=["one", "other", "copies", "lists", "other_copies", "other_lists", "behind", "told"]
theorem Mh:NmF Ms Mr:=KD (by decide +kernel)
noncomputable def Ti:SM:=
 UI (sX (Yn 1 YM (UE (UC 0) (UD))) λ_ ρ=>.nx ρ)
 (UI (sX (Yn 1 YM (UE (UC 1) (UD))) λ_ ρ=>.nx ρ)
 (UI (K0 (UC 0) (gT 2 (gNC (gN 2) (gNC (gN 3) (gN0)))))
 (UI (K0 (UC 1) (gT 2 (gNC (gN 4) (gNC (gN 5) (gN0)))))
 (UI (Kx 6 (KT (Km (UC 5)) 1 (gN 8) (UF AX) (UO Uo (KT (Km (UC 8)) 1 (gN 9) (UF AX) (UO Uo (KT (Km (UC 9)) 1 (gN 10) (UF AX) (UJ UQ (KU 2) (UC 10))))))))
 (UI (U8 7 (Kp (UE (UJ UQ (UC 2) (UC 4)) (UE (UJ UQ (UC 3) (UC 6)) (UD)))))
 (UI (X5 "NoWishes" "NoJoin" (sX (Yn 1 YM (UE (UC 7) (UD))) λ_ ρ=>.nx ρ))
 (U2 (UT 1 F_ah (UE (UC 7) (UD))))))))))
noncomputable def WN:AZ->Option XR:=Zt Mr Ti
noncomputable abbrev Sap:Stmt:=top 38
noncomputable abbrev N_ap:List Str:=["_law_one", "_law_other", "e"]
theorem Hap:NmF Sap N_ap:=KD (by decide +kernel)
noncomputable def W0:SM:=
 UI (Ys 2 "DealError" (sX (Yn 2 WN (UE (UC 0) (UE (UC 1) (UD)))) λ_ ρ=>.nx ρ) (U2 (UC 2)))
 (U2 (UF .none))
noncomputable def ZQ:AZ->A6:=Ka N_ap W0
noncomputable abbrev Sau:Stmt:=top 43
noncomputable abbrev N_au:List Str:=["_law_one", "_law_other", "_law_digits", "_law_bad", "_law_parts", "_law_some", "_law_caught_here"]
theorem Hau:NmF Sau N_au:=KD (by decide +kernel)
noncomputable def P2:SM:=
 sIf (mOr (UJ oNe (UT 1 Z6 (UE (UC 6) (UD))) (UF (.str "wishes"))) (UJ oNe (Kp (UE (UN (UC 6) λd=>UM (Xx "part" d)) (UE (UN (UC 6) λd=>UM (Xx "number" d)) (UD)))) (UR 4 (UR 2 (UF (.int 0))))))
 (U2 (UF (.bool AY)))
 (sNx)
noncomputable def WW:SM:=
 UI (U8 3 (UJ oIx (U3 (UE (UF .none) (UE (Kp (UE (UR 0 (UF (.int 0))) (UD))) (UE (Kp (UE (UR 0 (UF (.int 0))) (UE (U3 (UD)) (UD)))) (UE (Kp (UE (U3 (UD)) (UE (UR 0 (UF (.int 1))) (UD)))) (UE (U3 (UE (UR 0 (UF (.int 0))) (UE (UR 0 (UF (.int 1))) (UD)))) (UE (Kp (UE (UR 0 (UF (.int 0))) (UE (U3 (UE (U3 (UE (U3 (UE (KH U0 (UE (UR 0 (UF (.int 0))) (UD))) (UD))) (UD))) (UD))) (UD)))) (UD)))))))) (UR 2 (UF (.int 0)))))
 (UI (Kx 4 (UN (UE (Kp (UE (UF (.str "wishes")) (UE (UF .none) (UD)))) (UE (Kp (UE (UF (.str "wishes")) (UE (UF .none) (UD)))) (UE (Kp (UE (UF (.str "lists")) (UE (UF .none) (UD)))) (UE (Kp (UE (UF (.str "copies")) (UE (UF .none) (UD)))) (UE (Kp (UE (UF (.str "wishes")) (UE (UF .none) (UD)))) (UE (Kp (UE (UF (.str "lists")) (UE (UF (.int 0)) (UD)))) (UD))))))) λxs=>if xs.length<=1000000 then UF xs else λ_=>.bad))
 (UI (Kx 5 (UN (UE (UT 2 ZQ (UE (UC 3) (UE (UC 1) (UD)))) (UE (UT 2 ZQ (UE (UC 0) (UE (UC 3) (UD)))) (UE (UT 2 ZQ (UE (UC 3) (UE (UF .none) (UD)))) (UD)))) λxs=>if xs.length<=1000000 then UF xs else λ_=>.bad))
 (UI (Ko (Km (UJ UQ (UC 5) (U3 (UE (UT 1 XV (UE (UC 3) (UD))) (UD))))) (gN 6) P2)
 (U2 (UF (.bool AX))))))
noncomputable def XQ:AZ->A6:=Ka N_au WW
noncomputable abbrev Sat:Stmt:=top 42
noncomputable abbrev N_at:List Str:=["_law_row", "_law_many", "_law_found", "_law_what"]
theorem Hat:NmF Sat N_at:=KD (by decide +kernel)
noncomputable def P1:SM:=
 UI (K1 2 (UC 3))
 (sIf (UO (λd=>!isNon d) (UC 3))
 (Tk 2 (Z5 (UF (.int 1))) (UJ UQ (UC 3) (UC 1)))
 (sNx))
noncomputable def WX:SM:=
 UI (Kx 2 (UN (UD) λxs=>if xs.length<=1000000 then UF xs else λ_=>.bad))
 (UI (Ko (Km (UC 0)) (gN 3) P1)
 (U2 (UC 2)))
noncomputable def XT:AZ->A6:=Ka N_at WX
noncomputable abbrev San:Stmt:=top 36
noncomputable abbrev N_an:List Str:=["_law_wishes_here", "_law_asker"]
theorem Han:NmF San N_an:=KD (by decide +kernel)
noncomputable def W2:SM:=
 U2 (KH Tw (UE (KH Vh (UE (UJ oIx (UR 0 (UF (.int 1))) (UC 1)) (UE (U3 (UD)) (UD)))) (UD)))
noncomputable def XX:AZ->A6:=Ka N_an W2
noncomputable abbrev Sao:Stmt:=top 37
noncomputable abbrev N_ao:List Str:=["_law_wishes_here", "_law_cell", "_law_salt", "_law_left", "_law_digits", "_law_found", "_law_asker", "_law_some", "_law_thing"]
theorem Hao:NmF Sao N_ao:=KD (by decide +kernel)
noncomputable def S2:SM:=
 UI (U8 7 (UJ UQ (UO Uo (V0 (Km (UT 2 XX (UE (UC 0) (UE (UC 6) (UD))))) 1 (gN 9) (UJ (oIB λi j=>decide (j<i)) (UR 3 (UC 9)) (UF (.int 0))) (UC 9))) (U3 (UE (UF .none) (UD)))))
 (UI (U8 8 (UR 7 (UJ Zk (UR 4 (UC 6)) (KU 7))))
 (UI (sIf (UO (λd=>!isNon d) (UC 8))
 (TB 3 (UC 8) (UJ Xv (UR 3 (UC 8)) (UF (.int 1))))
 (sNx))
 (K1 5 (UC 8))))
noncomputable def W1:SM:=
 UI (Kx 3 (UN (UE (UR 0 (UF (.int 0))) (UD)) λxs=>UM (X2 xs)))
 (UI (U8 4 (UT 3 Zz (UE (UC 1) (UE (UC 2) (UE (UJ Ke (U3 (UE (UF (.int 61)) (UD))) (KH U0 (UE (UR 0 (UF (.int 1))) (UD)))) (UD))))))
 (UI (Kx 5 (UN (UD) λxs=>if xs.length<=1000000 then UF xs else λ_=>.bad))
 (UI (Ko (Wa (UE (KH U0 (UE (UR 0 (UF (.int 1))) (UD))) (UD))) (gN 6) S2)
 (U2 (UC 5)))))
noncomputable def YV:AZ->A6:=Ka N_ao W1
noncomputable abbrev Sas:Stmt:=top 41
noncomputable abbrev N_as:List Str:=["_law_one", "_law_other", "_law_lists", "_law_ranks"]
theorem Has:NmF Sas N_as:=KD (by decide +kernel)
noncomputable def P0:SM:=
 K1 2 (UO Uo (KT (Km (UC 3)) 1 (gN 4) (UF AX) (UO Uo (KT (Km (UC 4)) 1 (gN 5) (UF AX) (UJ UQ (UC 5) (KH U0 (UE (UR 0 (UF (.int 0))) (UD))))))))
noncomputable def WY:SM:=
 UI (Kx 2 (KT (Km (UR 0 (UF (.int 1)))) 1 (gN 4) (UF AX) (UO Uo (KT (Km (UC 4)) 1 (gN 5) (UF AX) (UO Uo (VY 5))))))
 (UI (Ko (Km (UR 1 (UF (.int 1)))) (gN 3) P0)
 (U2 (Kp (UE (UJ UQ (UR 0 (UF (.int 0))) (UR 1 (UF (.int 0)))) (UE (UC 2) (UD))))))
noncomputable def XU:AZ->A6:=Ka N_as WY
noncomputable abbrev Sam:Stmt:=top 35
noncomputable abbrev N_am:List Str:=["_law_script", "_law_at", "_law_most_things", "_law_most_askers", "_law_most_ranks", "_law_digits", "_law_copies", "_law_lists", "_law_asker", "_law_cell", "_law_places", "_law_ranks", "_law_rank", "_law_row"]
theorem Ham:NmF Sam N_am:=KD (by decide +kernel)
noncomputable def S1:SM:=
 UI (Kx 13 (KT (Wa (UE (KU 6) (UD))) 1 (gN 14) (UJ oEq (UR 10 (UC 14)) (UC 12)) (UC 14)))
 (sIf (Yk oNe 13 (U3 (UD)))
 (K1 11 (UJ oIx (U3 (UE (UC 13) (UE (XM (UC 13) (UF AW) (UF AW) (UN (Z5 (UF (.int 1))) λx=>UM (Y0 x))) (UD)))) (UR 10 (Z5 (UF (.int 1))))))
 (sNx))
noncomputable def S0:SM:=
 UI (U8 9 (UT 2 Z7 (UE (UC 0) (UE (UJ UQ (UJ UQ (UC 1) (UF (.int 1))) (UC 8)) (UD)))))
 (UI (U8 10 (UT 3 Zz (UE (UC 9) (UE (UJ UQ (UJ UQ (UJ Ke (UF (.int 11)) (UC 1)) (UJ Ke (UF (.int 3)) (UC 8))) (UF (.int 1))) (UE (UJ UQ (UJ Ke (U3 (UE (UJ UQ (UC 4) (UF (.int 1))) (UD))) (UC 2)) (U3 (UE (UF (.int 2)) (UD)))) (UD))))))
 (UI (Kx 11 (UN (UD) λxs=>if xs.length<=1000000 then UF xs else λ_=>.bad))
 (UI (Ko (TC (UE (UF (.int 1)) (UE (UJ UQ (UC 4) (UF (.int 1))) (UD)))) (gN 12) S1)
 (K1 7 (UC 11)))))
noncomputable def W3:SM:=
 UI (U8 5 (UT 3 Zz (UE (UT 2 Z7 (UE (UC 0) (UE (UC 1) (UD)))) (UE (UC 1) (UE (UJ UQ (U3 (UE (UC 2) (UE (UC 3) (UD)))) (UJ Ke (U3 (UE (UF (.int 11)) (UD))) (UC 2))) (UD))))))
 (UI (Kx 6 (KT (Km (ZO (UC 5) (UN (UF (.int 2)) λx=>UM (Y0 x)) (UN (UJ UQ (UF (.int 3)) (UR 5 (UF (.int 0)))) λx=>UM (Y0 x)))) 1 (gN 14) (UF AX) (UJ oIx (U3 (UE (UF (.int 1)) (UE (UF (.int 1)) (UE (UF (.int 2)) (UE (UF (.int 0)) (UE (UF (.int 3)) (UE (UF (.int 7)) (UE (UF (.int 1)) (UE (UF (.int 4)) (UE (UF (.int 5)) (UE (UF (.int 6)) (UE (UF (.int 1)) (UD))))))))))))) (UC 14))))
 (UI (Kx 7 (UN (UD) λxs=>if xs.length<=1000000 then UF xs else λ_=>.bad))
 (UI (Ko (Wa (UE (UJ UQ (UF (.int 1)) (UR 5 (UF (.int 1)))) (UD))) (gN 8) S0)
 (U2 (Kp (UE (UC 6) (UE (UC 7) (UD))))))))
noncomputable def YW:AZ->A6:=Ka N_am W3
noncomputable abbrev MB:Stmt:=top 31
noncomputable abbrev Mo:List Str:=["one_wishes", "one", "other", "things"]
theorem Mx:NmF MB Mo:=KD (by decide +kernel)
noncomputable def Sx:SM:=
 UI (Y9 (UT 1 ZA (UE (UC 0) (UD))))
 (UI (U8 3 (KH U0 (UE (UR 0 (UF (.int 0))) (UD))))
 (sNx))
noncomputable def RU:M AZ:=
 ZP (UC 1) (UO Uo (KT (Km (UC 2)) 1 (gN 4) (UF AX) (mIf (UO isNon (UC 4)) (UF .none) (UJ UQ (UC 3) (UC 4)))))
noncomputable def Sw:AZ->Option AZ:=YN Mo Sx RU
noncomputable abbrev Mq:Stmt:=top 30
noncomputable abbrev Mp:List Str:=["one", "other", "copies", "lists", "other_copies", "other_lists", "behind", "told"]
theorem Mg:NmF Mq Mp:=KD (by decide +kernel)
noncomputable def RW:SM:=
 UI (Y9 (UT 1 ZA (UE (UC 0) (UD))))
 (UI (Y9 (UT 1 ZA (UE (UC 1) (UD))))
 (UI (K0 (UC 0) (gT 2 (gNC (gN 2) (gNC (gN 3) (gN0)))))
 (UI (K0 (UC 1) (gT 2 (gNC (gN 4) (gNC (gN 5) (gN0)))))
 (UI (Kx 6 (KT (Km (UC 5)) 1 (gN 8) (UF AX) (UO Uo (KT (Km (UC 8)) 1 (gN 9) (UF AX) (UO Uo (KT (Km (UC 9)) 1 (gN 10) (UF AX) (UJ UQ (KU 2) (UC 10))))))))
 (UI (U8 7 (Kp (UE (UJ UQ (UC 2) (UC 4)) (UE (UJ UQ (UC 3) (UC 6)) (UD)))))
 (UI (VQ "NoWishes" (sX (Yn 1 YM (UE (UC 7) (UD))) λ_ ρ=>.nx ρ) (Wz))
 (sNx)))))))
noncomputable abbrev AG:M D:=
 UT 1 VI (UE (UC 7) (UD))
noncomputable def Sr:AZ->A6:=Wp Mp RW AG
noncomputable abbrev Sav:Stmt:=top 44
noncomputable abbrev N_av:List Str:=["_law_script", "_law_one", "_law_other", "_law_kept", "_law_due_here", "_law_turn", "_law_found", "_law_ranks", "_law_rank", "_law_k", "_law_cell", "_law_mine", "_law_yours"]
theorem Hav:NmF Sav N_av:=KD (by decide +kernel)
noncomputable def PZ:SM:=
 UI (U8 11 (UT 3 YV (UE (UC 1) (UE (UC 10) (UE (UJ UQ (UF (.int 20)) (UC 9)) (UD))))))
 (UI (U8 12 (UT 3 YV (UE (UC 2) (UE (UC 10) (UE (UJ UQ (UF (.int 60)) (UC 9)) (UD))))))
 (UI (Kx 6 (VL 3 Sw (UE (UC 1) (UE (UC 11) (UE (UC 12) (UD))))))
 (UI (sIf (X6 (Yk oNe 6 (UJ UQ (UC 11) (UT 2 XT (UE (UC 12) (UE (KH U0 (UE (UR 1 (UF (.int 0))) (UD))) (UD)))))))
 (U2 (UF (.bool AY)))
 (sNx))
 (UI (sIf (Kf (Zh (UT 3 XQ (UE (UC 1) (UE (UC 2) (UE (UT 3 Zz (UE (UC 10) (UE (UJ UQ (UF (.int 100)) (UC 9)) (UE (U3 (UE (UF (.int 6)) (UD))) (UD))))) (UD)))))))
 (U2 (UF (.bool AY)))
 (sNx))
 (UI (Zj 6 [] .clr)
 (sIf (UJ oNe (ZO (UT 3 XY (UE (UC 1) (UE (UC 11) (UE (UC 12) (UD))))) (UF AW) (UN (KU 11) λx=>UM (Y0 x))) (UC 11))
 (U2 (UF (.bool AY)))
 (sNx)))))))
noncomputable def PY:SM:=
 UI (Vm 6 (.tup [.lst .leaf,.lst (.lst (.lst .leaf))]) (UT 2 Sr (UE (UC 1) (UE (UC 2) (UD)))))
 (UI (sIf (X6 (mOr (Kf (Zh (UO (λd=>.bool (Kb d "tuple")) (UC 6)))) (mOr (Yk oNe 6 (UC 4)) (UJ oNe (KH X1 (UE (U3 (UE (UC 1) (UE (UC 2) (UD)))) (UD))) (UC 3)))))
 (U2 (UF (.bool AY)))
 (sNx))
 (UI (Zj 6 [0] .clr)
 (UI (Vl 6 [1,0] 0)
 (UI (sIf (X6 (UJ oNe (ZO (UR 6 (UF (.int 1))) (UN (UF (.int 1)) λx=>UM (Y0 x)) (UF AW)) (ZO (UR 4 (UF (.int 1))) (UN (UF (.int 1)) λx=>UM (Y0 x)) (UF AW))))
 (U2 (UF (.bool AY)))
 (sNx))
 (UI (Vn 6 (.tup [.lst .leaf,.lst (.lst (.lst .leaf))]) (7::((8::[])++[])) (kF (kC (kF kA) kA)) 8)
 (sNx))))))
noncomputable def WV:SM:=
 UI (U8 1 (UT 5 YW (UE (UC 0) (UE (UF (.int 0)) (UE (UF (.int 5)) (UE (UF (.int 6)) (UE (UF (.int 5)) (UD))))))))
 (UI (U8 2 (UT 5 YW (UE (UC 0) (UE (UF (.int 7)) (UE (UF (.int 4)) (UE (UF (.int 5)) (UE (UF (.int 4)) (UD))))))))
 (UI (U8 3 (KH X1 (UE (U3 (UE (UC 1) (UE (UC 2) (UD)))) (UD))))
 (UI (U8 4 (UT 2 XU (UE (UC 1) (UE (UC 2) (UD)))))
 (UI (sIf (mOr (UJ (oIB λi j=>decide (j<i)) (KH U0 (UE (UR 4 (UF (.int 0))) (UD))) (UF (.int 6))) (UJ (oIB λi j=>decide (j<i)) (KH U0 (UE (UR 4 (UF (.int 1))) (UD))) (UF (.int 7))))
 (sIf (UJ oNe (UT 1 Z6 (UE (UT 2 ZQ (UE (UC 1) (UE (UC 2) (UD)))) (UD))) (UF (.str "join")))
 (U2 (UF (.bool AY)))
 (sNx))
 (Ko (Wa (UE (UF (.int 2)) (UD))) (gN 5) PY))
 (UI (Ko (X9 (UE (UJ UQ (U3 (UE (UT 2 Z7 (UE (UC 0) (UE (UF (.int 13)) (UD)))) (UD))) (ZO (UC 0) (UN (UF (.int 14)) λx=>UM (Y0 x)) (UN (UF (.int 24)) λx=>UM (Y0 x)))) (UD))) (gT 2 (gNC (gN 9) (gNC (gN 10) (gN0)))) PZ)
 (U2 (UO Up (UJ oEq (KH X1 (UE (U3 (UE (UC 1) (UE (UC 2) (UD)))) (UD))) (UC 3)))))))))
noncomputable def XN:AZ->A6:=Ka N_av WV
set_option hygiene false in
local macro_rules | `(tactic| walk_at "g")=>`(tactic| first | exact gA nm rfl | exact L1 rfl)
set_option hygiene false in
local macro_rules | `(tactic| walk_at "v")=>`(tactic| first | exact pq nm _ | exact pvb _)
set_option hygiene false in
local macro_rules | `(tactic| walk_at "b")=>`(tactic| first | ((with_reducible show OpB _ (compareOp CmpOp.Eq) _);first | exact B_eq hu) | ((with_reducible show OpB _ (compareOp CmpOp.NotEq) _);first | exact B_ne hu) | ((with_reducible show OpB _ (compareOp CmpOp.Lt) _);first | exact B_lt) | ((with_reducible show OpB _ (compareOp CmpOp.LtE) _);first | exact B_le) | ((with_reducible show OpB _ (compareOp CmpOp.Gt) _);first | exact B_gt) | ((with_reducible show OpB _ (compareOp CmpOp.GtE) _);first | exact B_ge))
set_option hygiene false in
local macro_rules | `(tactic| walk_at "m")=>`(tactic| first | exact HA _ | exact rfl)
set_option hygiene false in
local macro_rules | `(tactic| walk_at "k")=>`(tactic| first | exact DX | exact Bf | exact Be)
set_option hygiene false in
local macro_rules | `(tactic| walk_at "w")=>`(tactic| first | exact PassesOwn.never | exact CW)
set_option hygiene false in
local macro_rules | `(tactic| walk_at "x")=>`(tactic| first | assumption | exact DB)
set_option hygiene false in
local macro_rules | `(tactic| walk_at "c")=>`(tactic| first | exact T.c_MOST_ASKERS | exact T.c_MOST_COPIES | exact T.c_MOST_RANKS | exact T.c_MOST_THINGS)
set_option hygiene false in
local macro_rules | `(tactic| walk_at "ck")=>`(tactic| first | exact T.x_DealError | exact T.x_NoAim | exact T.x_NoBook | exact T.x_NoChange | exact T.x_NoDeed | exact T.x_NoJoin | exact T.x_NoName | exact T.x_NoNumbering | exact T.x_NoPlace | exact T.x_NoRow | exact T.x_NoText | exact T.x_NoWay | exact T.x_NoWishes | exact T.x_TooMany)
set_option hygiene false in
local macro_rules | `(tactic| walk_at "e")=>`(tactic| first | ((with_reducible show PE _ (Expr.Name _ _) _);first | exact PF (pq nm _) | exact PF (pvb _) | exact Ly (by walk_at "g") (by walk_at "c")) | ((with_reducible show PE _ (Expr.Constant _ _ _) _);first | exact Gj | exact FQ | exact Gi | exact FR) | ((with_reducible show PE _ (Expr.Subscript _ _ _) _);first | refine El (by walk_at "v") ?_ (fun _ _=>rfl) | refine Bz ?_ ?_ ?_ | refine EF ?_ ?_ ?_ ?_ | refine HY ?_ ?_ (fun _ _=>rfl)) | ((with_reducible show PE _ (Expr.BinOp _ Operator.Add _ _) _);first | refine Wv Pl ?_ ?_) | ((with_reducible show PE _ (Expr.BinOp _ Operator.Sub _ _) _);first | refine Wv MK ?_ ?_) | ((with_reducible show PE _ (Expr.BinOp _ Operator.Mult _ _) _);first | refine Wv Pk ?_ ?_) | ((with_reducible show PE _ (Expr.BinOp _ Operator.Mod _ _) _);first | refine Wv MJ ?_ ?_) | ((with_reducible show PE _ (Expr.BinOp _ Operator.FloorDiv _ _) _);first | refine Wv MI ?_ ?_) | ((with_reducible show PE _ (Expr.BinOp _ Operator.Pow _ _) _);first | refine Wv MH ?_ ?_) | ((with_reducible show PE _ (Expr.Call (Expr.Name "len" _) _ _ _) _);first | refine Dp (by walk_at "g") T.b_len (by walk_at "v") | refine Vy Pj (by walk_at "g") T.b_len boot_len ?_ | refine By rfl (by walk_at "g") T.b_len (by walk_at "g") T.b_set ?_) | ((with_reducible show PE _ (Expr.Call (Expr.Name "max" _) _ _ _) _);first | refine Vy (GE rfl) (by walk_at "g") T.b_max boot_max ?_) | ((with_reducible show PE _ (Expr.Call (Expr.Name "sorted" _) _ _ _) _);first | refine Vy LK (by walk_at "g") T.b_sorted PyProof.Rows.boot_sorted ?_) | ((with_reducible show PE _ (Expr.Call (Expr.Name "sum" _) _ _ _) _);first | refine Vy (LU rfl) (by walk_at "g") T.b_sum PyProof.Rows.boot_sum ?_) | ((with_reducible show PE _ (Expr.Call (Expr.Name "all" _) _ _ _) _);first | refine Vy (Lz rfl) (by walk_at "g") T.b_all PyProof.Rows.boot_all ?_) | ((with_reducible show PE _ (Expr.Call (Expr.Name "repr" _) _ _ _) _);first | refine Vy (LJ hu hgd) (by walk_at "g") T.b_repr BY ?_) | ((with_reducible show PE _ (Expr.Call (Expr.Name "isinstance" _) [_,Expr.Name "int" _] _ _) _);first | refine Sq (c := "int") (by decide) (by walk_at "g") T.b_isinstance (by walk_at "g") T.b_int (by decide +kernel) ?_ (by decide) (by decide)) | ((with_reducible show PE _ (Expr.Call (Expr.Name "isinstance" _) [_,Expr.Name "list" _] _ _) _);first | refine Sq (c := "list") (by decide) (by walk_at "g") T.b_isinstance (by walk_at "g") T.b_list (by decide +kernel) ?_ (by decide) (by decide)) | ((with_reducible show PE _ (Expr.Call (Expr.Name "isinstance" _) [_,Expr.Name "tuple" _] _ _) _);first | refine Sq (c := "tuple") (by decide) (by walk_at "g") T.b_isinstance (by walk_at "g") T.b_tuple (by decide +kernel) ?_ (by decide) (by decide)) | ((with_reducible show PE _ (Expr.Call (Expr.Name "isinstance" _) [_,Expr.Name "bool" _] _ _) _);first | refine Sq (c := "bool") (by decide) (by walk_at "g") T.b_isinstance (by walk_at "g") T.b_bool (by decide +kernel) ?_ (by decide) (by decide)) | ((with_reducible show PE _ (Expr.Call (Expr.Name "isinstance" _) _ _ _) _);first | refine GV (by walk_at "g") T.b_isinstance (by walk_at "g") T.b_ValueError ?_ | refine GX (by walk_at "ck") (by walk_at "g") T.b_isinstance (by walk_at "g") ?_) | ((with_reducible show PE _ (Expr.Call (Expr.Name _ _) _ _ _) _);first | refine pdf (by assumption) hr (by walk_at "g") ?_) | ((with_reducible show PE _ (Expr.Call _ _ _ _) _);first | refine C7 hu ?_ ?_ | refine BX ?_ ?_) | refine Om ?_ | refine On ?_ | ((with_reducible show PE _ (Expr.Compare _ _ _ _) _);first | refine Ex (by walk_at "b") ?_ ?_ (by walk_at "m") | refine CT (by walk_at "b") (by walk_at "b") ?_ ?_ ?_) | refine EI ?_ | refine Ed ?_ | refine Eo ?_ | refine Er ?_ ?_ | refine Ep ?_ | refine CS ?_ ?_ ?_ | refine D4 ?_)
set_option hygiene false in
local macro_rules | `(tactic| walk_at "t")=>`(tactic| first | ((with_reducible show PT _ _ (tBo _ _ _ (X6 _)));refine D1 fun B' G'=>?_) | ((with_reducible show PT _ (Expr.Compare _ _ _ _) _);first | refine En ?_ | refine Ds ?_ | refine EG (by walk_at "b") (by walk_at "v") ?_ (by walk_at "m") | refine Ey (by walk_at "b") ?_ ?_ (by walk_at "m") | refine CU (by walk_at "b") (by walk_at "b") ?_ ?_ ?_) | ((with_reducible show PT _ (Expr.BoolOp _ _ _) _);refine PW.pt ?_) | refine Et ?_ | refine Es ?_)
set_option hygiene false in
local macro_rules | `(tactic| walk_at "l")=>`(tactic| first | refine Lf nm (by walk_at "k") rfl ?_ ?_ (by decide +kernel) | refine Hh (by walk_at "k") rfl ?_ ?_ (by decide +kernel) | refine Bb (by walk_at "g") T.b_list (by walk_at "v") | refine DT (by walk_at "g") T.b_list ?_ | refine Oi ?_ | refine Ch (by assumption) hr (by walk_at "g") ?_ | refine FD ?_ ?_)
set_option hygiene false in
local macro_rules | `(tactic| walk_at "i")=>`(tactic| first | refine CQ (by walk_at "g") T.b_range ?_ | refine CP (by walk_at "g") T.b_range ?_ | refine Ee (by walk_at "g") T.b_enumerate ?_ | refine LX ?_)
set_option hygiene false in
local macro_rules | `(tactic| walk_at "s")=>`(tactic| first | ((with_reducible show PS _ _ (tS _ _ _ _ (Vl _ _ _)));refine Fq (by first | exact Y4 (pq nm _) | exact WD (path:=[]) (Y4 (pq nm _)) | exact WD (path:=[_]) (WD (path:=[]) (Y4 (pq nm _))))) | ((with_reducible show PS _ _ (tS _ _ _ _ (Zj _ _ MOp.clr)));refine Hl (by first | exact Y4 (pq nm _) | exact WD (path:=[]) (Y4 (pq nm _)) | exact WD (path:=[_]) (WD (path:=[]) (Y4 (pq nm _))))) | ((with_reducible show PS _ (Stmt.Assign [Expr.Name _ _] _ _) _);first | refine aSet nm ?_ | refine Le nm (by walk_at "k") rfl ?_ ?_ (by decide +kernel) | refine Pb nm ?_ | refine Lg nm ?_) | ((with_reducible show PS _ (Stmt.Assign _ _ _) _);first | refine Gy ?_ ?_ | refine EH ?_ (by walk_at "v") ?_ | refine GO ?_ (by walk_at "v") ?_) | refine MG ?_ ?_ ?_ | refine GB ?_ | refine L5 (by walk_at "w") rfl ?_ ?_ ?_ | ((with_reducible show PS _ (Stmt.Expr _ _) _);first | refine Gw (by walk_at "v") ?_ | refine D5 ?_ | refine Eh ?_) | exact DZ | refine D7 (by assumption) hr rfl (by walk_at "x") (by walk_at "g") ?_ | refine LH (by walk_at "ck") (by walk_at "g") (nq nm) rfl rfl (fun KX' W pn hw=>?_) (fun a=>?_) | ((with_reducible show PS _ _ (tS _ _ _ _ (X5 _ _ _)));refine Ft (by walk_at "ck") (by assumption) rfl hr Cb (by walk_at "g") (by walk_at "g") (fun KX' W pn hw=>?_)) | refine GY (by walk_at "ck") (by walk_at "g") (fun KX' W pn hw=>?_) (fun a=>?_))
set_option hygiene false in
local macro_rules | `(tactic| walk_at "d")=>`(tactic| (have hu:=hr.units;have hgd:=hr.gd;repeat' (first | ((with_reducible show PSs _ (K7 _) _);show PSs _ (_ :: _) _) | ((with_reducible show PSs _ (Stmt.Assign _ _ _ :: _ :: _) _);generalize hS:(_ :: _:List Stmt)=sts;refine E7 hS ?_ ?_) | ((with_reducible show PS _ (Stmt.Assign [Expr.Name _ _] (Expr.List _ _) _) (tS _ _ _ _ (Kx _ _)));generalize hS:Stmt.Assign _ _ _=st;refine Hg hS nm ?_) | ((with_reducible show PS _ (Stmt.Assign [Expr.Name _ _] (Expr.BinOp _ _ _ _) _) (tS _ _ _ _ (U8 _ _)));generalize hS:Stmt.Assign _ _ _=st;refine Ld hS nm ?_) | ((with_reducible show PE _ (Expr.List _ _) _);generalize hS:Expr.List _ _=e;first | refine E6 hS ?_ | refine E5 hS ?_) | ((with_reducible show PE _ (Expr.Tuple _ _ _) _);generalize hS:Expr.Tuple _ _ _=e;refine E4 hS ?_) | ((with_reducible show PE _ (Expr.BinOp _ Operator.Add _ _) (tD _ _ _ _));generalize hS:Expr.BinOp _ _ _ _=e;refine Pt Pl hS ?_ ?_) | ((with_reducible show PE _ (Expr.BinOp _ Operator.Mult _ _) (tD _ _ _ _));generalize hS:Expr.BinOp _ _ _ _=e;refine Pt Pk hS ?_ ?_) | ((with_reducible show PA _ (_ :: _) (tDs _ _ _ _));generalize hS:(_ :: _:List Expr)=es;refine Ce hS ?_ ?_) | ((with_reducible show PSs _ _ (tS _ _ _ _ (UI (Vn _ _ _ _ _) _)));refine EX (top:=4) ?_) | ((with_reducible show PE _ _ (tD _ _ _ _));first | walk_at "e") | ((with_reducible show PA _ _ (tDs _ _ _ _));first | refine OO ?_ ?_ | exact Em) | ((with_reducible show PSs _ _ (tS _ _ _ _ _));first | refine Ol ?_ ?_ | refine GC ?_ | exact GD | exact sD_nevers) | ((with_reducible show PS _ _ _);walk_at "s") | ((with_reducible show PT _ _ _);walk_at "t") | ((with_reducible show PW _ _ _);first | refine Eu ?_ ?_ | refine HZ ?_ ?_ | refine Dt ?_ | refine Ev ?_) | ((with_reducible show PE _ _ (tL _ _ _ _));walk_at "l") | ((with_reducible show PI _ _ _ _);walk_at "i") | ((with_reducible show PG _ _ _);first | exact Lh nm | exact Hi | refine Gz rfl ?_) | ((with_reducible show PGs _ _ _);first | exact GA | refine Eg ?_ ?_) | ((with_reducible show PO _ _ _);first | exact Dr | refine Dq ?_) | ((with_reducible show Zm _ _ _ _ _ _ _ _ _);refine fun cl C s0 H0 ex=>⟨fun B' G'=>?_,fun B' G'=>?_,?_⟩) | ((with_reducible show Zy _ _ _);first | exact Ea | refine EJ ?_) | ((with_reducible show VP _ _ _ _ _ _);first | refine Bh rfl rfl rfl fun B' G'=>?_ | refine Bg rfl rfl rfl rfl (fun _=>rfl) (fun B' G'=>?_) (fun B' G'=>?_) (fun B' G'=>?_) ?_) | ((with_reducible show PE _ _ (tX _ _ _ _ _));refine D6 (by assumption) hr (by walk_at "x") (by walk_at "g") ?_) | ((with_reducible show PE _ _ (tT _ _ _ _ (YH _ _ _ _ _)));first | refine Hf nm rfl ?_ ?_ (by decide +kernel) | refine Fz rfl ?_ ?_ (by decide +kernel)) | ((with_reducible show VJ _ _ _ _ _ _ _ _ _ _);refine fun cl C s0 H0 ex=>⟨fun B' G'=>?_,fun B' G'=>?_,fun B' G'=>?_⟩) | ((with_reducible show PE _ _ (tT _ _ _ (Pat.lst Pat.leaf) (UO PyData.list _)));refine GL ?_) | ((with_reducible show PA _ _ (tTs _ _ _ _ _));first | exact FA | refine E3 ?_ fun B' G'=>?_) | ((with_reducible show PE _ (Expr.Tuple _ _ _) (tT _ _ _ _ (UN _ _)));refine E1 ?_) | ((with_reducible show PSs _ _ (Yr (Kn _ _ _ _) _));first | (with_reducible refine sp_cons ?_ ?_) | refine Hd ?_ ?_) | ((with_reducible show PSs _ _ (Kn _ _ _ _));first | refine Fy ?_ | refine EY ?_ ?_) | ((with_reducible show PS _ _ (Kn _ _ _ _));first | refine Ps (j:=6) (π:=[1]) (n:=1) (iy:=7) PassesOwn.never rfl nm.nd rfl (lq nm 7 rfl) (WD (k:=1) (Y4 (pq nm 6))) ?_ | refine Ps (j:=7) (π:=[]) (n:=0) (iy:=8) PassesOwn.never rfl nm.nd rfl (lq nm 8 rfl) (Y4 (pq nm 7)) ?_ | exact Hc (j:=8) (π:=[]) (Y4 (pq nm 8)) V1 | exact Fw (j:=7) (π:=[]) (m:=0) (Y4 (pq nm 7)) (Fx V1)) | ((with_reducible show PE _ _ (tT _ _ _ _ _));first | refine Da (by assumption) hr (by walk_at "g") ?_ | exact peT_nil | exact peT_dnil | refine peT_disp ?_) | ((with_reducible show PSs _ _ (tSO _ _ _ _ _));first | refine Hq ?_ | refine GR ?_ ?_) | ((with_reducible show PSs _ _ (tST _ _ _ _ _ _));first | refine Hm ?_ | refine GK ?_ ?_))))
section
variable{P:Ud}{w:World}{K:Frag}{mg:Str->A3}{base:Heap}{f:Ue}{fd:Uf}(T:Txt K mg)
include T
theorem Kak(F:Fun K "_law_cell_at" "_law_cell_at" Sak f fd):FnOk P w K mg base CX0 1 f fd ["_law_script", "_law_k"] (spD K 2 Z7):=
 okD (k:=0) (g:=XB) F (fq Hak 2) AV λcdv A outer s H E B G0 hr=>
 have nm:=Hak
 by walk_at "d"
theorem Kaa(F:Fun K "is_whole" "is_whole" Saa f fd):FnOk P w K mg base CX0 1 f fd ["thing"] (spD K 1 YX):=
 okD (k:=0) (g:=W9) F (fq Haa 1) AV λcdv A outer s H E B G0 hr=>
 have nm:=Haa
 by walk_at "d"
theorem Kab(kj:Def P w K mg base "is_whole" 1 1 YX)(F:Fun K "is_number_below" "is_number_below" Sab f fd):FnOk P w K mg base CX0 2 f fd ["thing", "many"] (spD K 2 Zc):=
 okD (k:=1) (g:=XG) F (fq Hab 2) AV λcdv A outer s H E B G0 hr=>
 have nm:=Hab
 by walk_at "d"
theorem Kad(qI:Def P w K mg base "is_number_below" 2 2 Zc)(F:Fun K "is_rank" "is_rank" Sad f fd):FnOk P w K mg base CX0 3 f fd ["thing", "things"] (spD K 2 Z9):=
 okD (k:=2) (g:=XF) F (fq Had 2) AV λcdv A outer s H E B G0 hr=>
 have nm:=Had
 by walk_at "d"
theorem Kae(kh:Def P w K mg base "is_rank" 3 2 Z9)(F:Fun K "is_asker_list" "is_asker_list" Sae f fd):FnOk P w K mg base CX0 4 f fd ["thing", "things"] (spD K 2 Z8):=
 okD (k:=3) (g:=XE) F (fq Hae 2) AV λcdv A outer s H E B G0 hr=>
 have nm:=Hae
 by walk_at "d"
theorem Kaf(q9:Def P w K mg base "is_asker_list" 4 2 Z8)(F:Fun K "look_at_lists" "look_at_lists" Saf f fd):FnOk P w K mg base CX0 5 f fd ["lists", "things"] (spD K 2 XZ):=
 okD (k:=4) (g:=W7) F (fq Haf 2) AV λcdv A outer s H E B G0 hr=>
 have nm:=Haf
 by walk_at "d"
theorem Kac(qI:Def P w K mg base "is_number_below" 2 2 Zc)(F:Fun K "look_at_copies" "look_at_copies" Sac f fd):FnOk P w K mg base CX0 3 f fd ["copies"] (spD K 1 X0):=
 okD (k:=2) (g:=W8) F (fq Hac 1) AV λcdv A outer s H E B G0 hr=>
 have nm:=Hac
 by walk_at "d"
theorem Kag(kg:Def P w K mg base "look_at_lists" 5 2 XZ)(ki:Def P w K mg base "look_at_copies" 3 1 X0)(F:Fun K "look_at_wishes" "look_at_wishes" Sag f fd):FnOk P w K mg base CX0 6 f fd ["thing"] (spD K 1 ZA):=
 okD (k:=5) (g:=W6) F (fq Hag 1) AV λcdv A outer s H E B G0 hr=>
 have nm:=Hag
 by walk_at "d"
theorem Kaj(qH:Def P w K mg base "look_at_wishes" 6 1 ZA)(F:Fun K "dealings_beside" "dealings_beside" Saj f fd):FnOk P w K mg base CX0 7 f fd ["one_wishes", "one", "other"] (spD K 3 XY):=
 okD (k:=6) (g:=W5) F (fq Haj 3) AV λcdv A outer s H E B G0 hr=>
 have nm:=Haj
 by walk_at "d"
theorem Kal(F:Fun K "_law_numbers" "_law_numbers" Sal f fd):FnOk P w K mg base CX0 1 f fd ["_law_cell", "_law_salt", "_law_sizes"] (spD K 3 Zz):=
 okD (k:=0) (g:=W4) F (fq Hal 3) AV λcdv A outer s H E B G0 hr=>
 have nm:=Hal
 by walk_at "d"
theorem AU(q9:Def P w K mg base "is_asker_list" 4 2 Z8)(qe:MkX P w K mg base "NoWishes" 2)(F:Fun K "look_at_lists" "look_at_lists" Mw f fd):FnOk P w K mg base (CX1 P w) 5 f fd ["lists", "things"] (spX K 2 Ss):=
 okX (k:=4) (g:=RY) F (fq Mn 2) AV λcdv A outer s H E B G0 hr=>
 have nm:=Mn
 by walk_at "d"
theorem AQ(qI:Def P w K mg base "is_number_below" 2 2 Zc)(qe:MkX P w K mg base "NoWishes" 2)(F:Fun K "look_at_copies" "look_at_copies" Mm f fd):FnOk P w K mg base (CX1 P w) 4 f fd ["copies"] (spX K 1 Sv):=
 okX (k:=3) (g:=R4) F (fq MF 1) AV λcdv A outer s H E B G0 hr=>
 have nm:=MF
 by walk_at "d"
theorem AO(qo:Yz P w K mg base "look_at_lists" 5 2 Ss)(qk:Yz P w K mg base "look_at_copies" 4 1 Sv)(qe:MkX P w K mg base "NoWishes" 2)(F:Fun K "look_at_wishes" "look_at_wishes" Mk f fd):FnOk P w K mg base (CX1 P w) 6 f fd ["thing"] (spX K 1 YM):=
 okX (k:=5) (g:=R3) F (fq ME 1) AV λcdv A outer s H E B G0 hr=>
 have nm:=ME
 by walk_at "d"
theorem AN(qc:Yz P w K mg base "look_at_wishes" 6 1 YM)(F:Fun K "dealings_beside" "dealings_beside" MD f fd):FnOk P w K mg base (CX1 P w) 7 f fd ["one_wishes", "one", "other"] (spX K 3 Sy):=
 okX (k:=6) (g:=RV) F (fq My 3) AV λcdv A outer s H E B G0 hr=>
 have nm:=My
 by walk_at "d"
theorem Kaq(qh:Yz P w K mg base "dealings_beside" 7 3 Sy)(F:Fun K "_law_caught_row" "_law_caught_row" Saq f fd):FnOk P w K mg base CX0 8 f fd ["_law_wishes_here"] (spD K 1 XV):=
 okD (k:=7) (g:=WZ) F (fq Haq 1) AV λcdv A outer s H E B G0 hr=>
 have nm:=Haq
 by walk_at "d"
theorem Kar(F:Fun K "_law_word" "_law_word" Sar f fd):FnOk P w K mg base CX0 1 f fd ["_law_caught_here"] (spD K 1 Z6):=
 okD (k:=0) (g:=g_ar) F (fq Har 1) AV λcdv A outer s H E B G0 hr=>
 have nm:=Har
 by walk_at "d"
theorem AT(F:Fun K "copied_wishes" "copied_wishes" Mu f fd):FnOk P w K mg base CX0 1 f fd ["wishes"] (spT K 1 (.tup [.lst .leaf,.lst (.lst (.lst .leaf))]) VI):=
 okT (k:=0) (g:=RX) F (fq Mi 1) AV λcdv A outer s H E B G0 hr=>
 have nm:=Mi
 by walk_at "d"
theorem AS(kf:Def P w K mg base "copied_wishes" 1 1 F_ah)(qc:Yz P w K mg base "look_at_wishes" 6 1 YM)(h_NoJoin:MkH P w K mg base "NoJoin")(F:Fun K "wishes_beside" "wishes_beside" Ms f fd):FnOk P w K mg base (Zn AY P w) 7 f fd ["one", "other"] (spX K 2 WN):=
 okX (k:=6) (g:=Ti) F (fq Mh 2) AV λcdv A outer s H E B G0 hr=>
 have nm:=Mh
 by walk_at "d"
theorem Kap(qm:TH AY P w K mg base "wishes_beside" 7 2 WN)(F:Fun K "_law_caught" "_law_caught" Sap f fd):FnOk P w K mg base CX0 8 f fd ["_law_one", "_law_other"] (spD K 2 ZQ):=
 okD (k:=7) (g:=W0) F (fq Hap 2) AV λcdv A outer s H E B G0 hr=>
 have nm:=Hap
 by walk_at "d"
theorem Kau(j7:Def P w K mg base "_law_caught_row" 8 1 XV)(qY:Def P w K mg base "_law_word" 1 1 Z6)(qZ:Def P w K mg base "_law_caught" 8 2 ZQ)(F:Fun K "_law_refused" "_law_refused" Sau f fd):FnOk P w K mg base CX0 9 f fd ["_law_one", "_law_other", "_law_digits"] (spD K 3 XQ):=
 okD (k:=8) (g:=WW) F (fq Hau 3) AV λcdv A outer s H E B G0 hr=>
 have nm:=Hau
 by walk_at "d"
theorem Kat(F:Fun K "_law_behind" "_law_behind" Sat f fd):FnOk P w K mg base CX0 1 f fd ["_law_row", "_law_many"] (spD K 2 XT):=
 okD (k:=0) (g:=WX) F (fq Hat 2) AV λcdv A outer s H E B G0 hr=>
 have nm:=Hat
 by walk_at "d"
theorem Kan(F:Fun K "_law_wished" "_law_wished" San f fd):FnOk P w K mg base CX0 1 f fd ["_law_wishes_here", "_law_asker"] (spD K 2 XX):=
 okD (k:=0) (g:=W2) F (fq Han 2) AV λcdv A outer s H E B G0 hr=>
 have nm:=Han
 by walk_at "d"
theorem Kao(j9:Def P w K mg base "_law_wished" 1 2 XX)(qG:Def P w K mg base "_law_numbers" 1 3 Zz)(F:Fun K "_law_dealt" "_law_dealt" Sao f fd):FnOk P w K mg base CX0 2 f fd ["_law_wishes_here", "_law_cell", "_law_salt"] (spD K 3 YV):=
 okD (k:=1) (g:=W1) F (fq Hao 3) AV λcdv A outer s H E B G0 hr=>
 have nm:=Hao
 by walk_at "d"
theorem Kas(F:Fun K "_law_due" "_law_due" Sas f fd):FnOk P w K mg base CX0 1 f fd ["_law_one", "_law_other"] (spD K 2 XU):=
 okD (k:=0) (g:=WY) F (fq Has 2) AV λcdv A outer s H E B G0 hr=>
 have nm:=Has
 by walk_at "d"
theorem Kam(qG:Def P w K mg base "_law_numbers" 1 3 Zz)(q8:Def P w K mg base "_law_cell_at" 1 2 Z7)(F:Fun K "_law_wishes" "_law_wishes" Sam f fd):FnOk P w K mg base CX0 2 f fd ["_law_script", "_law_at", "_law_most_things", "_law_most_askers", "_law_most_ranks"] (spD K 5 YW):=
 okD (k:=1) (g:=W3) F (fq Ham 5) AV λcdv A outer s H E B G0 hr=>
 have nm:=Ham
 by walk_at "d"
theorem AM(qH:Def P w K mg base "look_at_wishes" 6 1 ZA)(F:Fun K "dealings_beside" "dealings_beside" MB f fd):FnOk P w K mg base CX0 7 f fd ["one_wishes", "one", "other"] (spO K 3 Sw):=
 okO (k:=6) (g:=Sx) F (fq Mx 3) AV λcdv A outer s H E B G0 hr=>
 have nm:=Mx
 by walk_at "d"
theorem AR(qH:Def P w K mg base "look_at_wishes" 6 1 ZA)(qc:Yz P w K mg base "look_at_wishes" 6 1 YM)(qf:DefT P w K mg base "copied_wishes" 1 1 (.tup [.lst .leaf,.lst (.lst (.lst .leaf))]) VI)(F:Fun K "wishes_beside" "wishes_beside" Mq f fd):FnOk P w K mg base CX0 7 f fd ["one", "other"] (spT K 2 (.tup [.lst .leaf,.lst (.lst (.lst .leaf))]) Sr):=
 okT (k:=6) (g:=RW) F (fq Mg 2) AV λcdv A outer s H E B G0 hr=>
 have nm:=Mg
 by walk_at "d"
theorem Kav(q8:Def P w K mg base "_law_cell_at" 1 2 Z7)(ke:Def P w K mg base "dealings_beside" 7 3 XY)(qG:Def P w K mg base "_law_numbers" 1 3 Zz)(jZ:Def P w K mg base "_law_refused" 9 3 XQ)(j4:Def P w K mg base "_law_behind" 1 2 XT)(j8:Def P w K mg base "_law_dealt" 2 3 YV)(qZ:Def P w K mg base "_law_caught" 8 2 ZQ)(qY:Def P w K mg base "_law_word" 1 1 Z6)(j6:Def P w K mg base "_law_due" 1 2 XU)(ka:Def P w K mg base "_law_wishes" 2 5 YW)(qi:Vf P w K mg base "dealings_beside" 7 3 Sw)(qp:DefT P w K mg base "wishes_beside" 7 2 (.tup [.lst .leaf,.lst (.lst (.lst .leaf))]) Sr)(F:Fun K "law" "law" Sav f fd):FnOk P w K mg base CX0 10 f fd ["_law_script"] (spD K 1 XN):=
 okD (k:=9) (g:=WV) F (fq Hav 1) AV λcdv A outer s H E B G0 hr=>
 have nm:=Hav
 by walk_at "d"
end
theorem KM:recsOf q0=Wc p0 ixL:=by show recsOf (PySem.W.view PySem.Challenge.pw_wishdeal_k80_beside_one_another YF)=Wc PySem.Challenge.pw_wishdeal_k80_beside_one_another ixL;rw[PySem.W.Fast.te3399658132070893891,PySem.W.Fast.te7055594940939615636];kernel_rfl
theorem ZR:(["ValueError", "all", "bool", "enumerate", "int", "isinstance", "len", "list", "max", "range", "repr", "set", "sorted", "sum", "tuple"]:List Str).all (Tv q0 (PySem.W.looseW q0 []))=AX:=by show List.all _ (Tv (PySem.W.view PySem.Challenge.pw_wishdeal_k80_beside_one_another YF) (PySem.W.looseW (PySem.W.view PySem.Challenge.pw_wishdeal_k80_beside_one_another YF) []))=AX;k_qdec
theorem AL:valOf q0 "MOST_ASKERS" = O (.int 7):=by show valOf (PySem.W.view PySem.Challenge.pw_wishdeal_k80_beside_one_another YF) _=_;rw[Jp,PySem.W.Fast.te7055594940939615636];kernel_rfl
theorem AK:valOf q0 "MOST_COPIES" = O (.int 7):=by show valOf (PySem.W.view PySem.Challenge.pw_wishdeal_k80_beside_one_another YF) _=_;rw[Jp,PySem.W.Fast.te7055594940939615636];kernel_rfl
theorem AA:valOf q0 "MOST_RANKS" = O (.int 5):=by show valOf (PySem.W.view PySem.Challenge.pw_wishdeal_k80_beside_one_another YF) _=_;rw[Jp,PySem.W.Fast.te7055594940939615636];kernel_rfl
theorem Ax:valOf q0 "MOST_THINGS" = O (.int 6):=by show valOf (PySem.W.view PySem.Challenge.pw_wishdeal_k80_beside_one_another YF) _=_;rw[Jp,PySem.W.Fast.te7055594940939615636];kernel_rfl
theorem L9{l:PySem.W.OpenLaw}{w:World}{s0:Uc}{mg mb:Str->A3}{fa:Ue}{h:Heap}{XP:(Str->A3)->Heap->Prop}(G:PySem.W.Ground q0 [] [] XP w s0 mg mb h)(Y:XYP p0 clsL h)(hfa:mg "law" = O (.ref fa)) :
  ∃fd:Uf,(∀(s:Uc)(v:Ub),BindsTo s fd ⟨[v],[]⟩ [("_law_script", v)])/\∀base:Heap,FnOk l.prog w (whole h) mg base CX0 10 fa fd ["_law_script"] (spD (whole h) 1 XN):=by
 obtain⟨D0,f0,fd0,R,RH⟩:=ET (i:=1) G.T.g Y (mq 0 AV) (ZU G.T ZR (mq 0 AV)) (KD (by decide +kernel)) AV (λ_=>⟨_,rfl⟩) (λ_ _ _ _ _ _ us hl=>bz2 (us:=us) hl λ_ _=>rfl);have T:Txt (whole h) mg:=⟨ZU G.T ZR (mq 0 AV),ZU G.T ZR (mq 1 AV),ZU G.T ZR (mq 2 AV),ZU G.T ZR (mq 3 AV),ZU G.T ZR (mq 4 AV),ZU G.T ZR (mq 5 AV),ZU G.T ZR (mq 6 AV),ZU G.T ZR (mq 7 AV),ZU G.T ZR (mq 8 AV),ZU G.T ZR (mq 9 AV),ZU G.T ZR (mq 10 AV),ZU G.T ZR (mq 11 AV),ZU G.T ZR (mq 12 AV),ZU G.T ZR (mq 13 AV),ZU G.T ZR (mq 14 AV),Sj G.T AL,Sj G.T AK,Sj G.T AA,Sj G.T Ax,Yd (c:=("DealError", O 1)) G.T.g Y R (mq 0 AV),Yd (c:=("NoAim", O 3)) G.T.g Y R (mq 2 AV),Yd (c:=("NoBook", AW)) G.T.g Y R (mq 9 AV),Yd (c:=("NoChange", AW)) G.T.g Y R (mq 6 AV),Yd (c:=("NoDeed", AW)) G.T.g Y R (mq 10 AV),Yd (c:=("NoJoin", AW)) G.T.g Y R (mq 8 AV),Yd (c:=("NoName", AW)) G.T.g Y R (mq 12 AV),Yd (c:=("NoNumbering", AW)) G.T.g Y R (mq 7 AV),Yd (c:=("NoPlace", AW)) G.T.g Y R (mq 5 AV),Yd (c:=("NoRow", AW)) G.T.g Y R (mq 11 AV),Yd (c:=("NoText", O 4)) G.T.g Y R (mq 3 AV),Yd (c:=("NoWay", AW)) G.T.g Y R (mq 4 AV),Yd (c:=("NoWishes", O 2)) G.T.g Y R (mq 1 AV),Yd (c:=("TooMany", AW)) G.T.g Y R (mq 13 AV)⟩
 refine Lp G.T KM 44 "law" rfl AV hfa (λ_ _ _ _ _ _ _=>rfl) λbase=>?_
 have qe:=LC (nm:= "NoWishes") (j:=2) (ps:=["self", "part", "number"]) G.T.g Y R (mq 1 AV) (by decide) l.prog w base (λ_ _ _ _ _ _ us hl=>bz3 (us:=us) hl λ_ _ _=>rfl) (λFU=>GT R.cf (R.ok l.prog w base) R.bd R.at' FU (KD (by decide +kernel)) AV (λ_=>⟨_,rfl⟩) (by decide) (by decide));have h_NoJoin:=Ha (nm:= "NoJoin") G.T.g Y R RH (mq 8 AV) AV l.prog w base;have q8:=Zr l.prog w base G.T KM 33 "_law_cell_at" rfl AV (λF=>Kak T  F) λ_ _ _ _ _ _ us hl=>bz2 (us:=us) hl λ_ _=>rfl
 have kj:=Zr l.prog w base G.T KM 16 "is_whole" rfl AV (λF=>Kaa T  F) λ_ _ _ _ _ _ us hl=>bz1 (us:=us) hl λ_=>rfl
 have qI:=Zr l.prog w base G.T KM 17 "is_number_below" rfl AV (λF=>Kab T kj F) λ_ _ _ _ _ _ us hl=>bz2 (us:=us) hl λ_ _=>rfl
 have kh:=Zr l.prog w base G.T KM 24 "is_rank" rfl AV (λF=>Kad T qI F) λ_ _ _ _ _ _ us hl=>bz2 (us:=us) hl λ_ _=>rfl
 have q9:=Zr l.prog w base G.T KM 25 "is_asker_list" rfl AV (λF=>Kae T kh F) λ_ _ _ _ _ _ us hl=>bz2 (us:=us) hl λ_ _=>rfl
 have kg:=Zr l.prog w base G.T KM 26 "look_at_lists" rfl AV (λF=>Kaf T q9 F) λ_ _ _ _ _ _ us hl=>bz2 (us:=us) hl λ_ _=>rfl
 have ki:=Zr l.prog w base G.T KM 23 "look_at_copies" rfl AV (λF=>Kac T qI F) λ_ _ _ _ _ _ us hl=>bz1 (us:=us) hl λ_=>rfl
 have qH:=Zr l.prog w base G.T KM 27 "look_at_wishes" rfl AV (λF=>Kag T kg ki F) λ_ _ _ _ _ _ us hl=>bz1 (us:=us) hl λ_=>rfl
 have ke:=Zr l.prog w base G.T KM 31 "dealings_beside" rfl AV (λF=>Kaj T qH F) λ_ _ _ _ _ _ us hl=>bz3 (us:=us) hl λ_ _ _=>rfl
 have qG:=Zr l.prog w base G.T KM 34 "_law_numbers" rfl AV (λF=>Kal T  F) λ_ _ _ _ _ _ us hl=>bz3 (us:=us) hl λ_ _ _=>rfl
 have qo:=VS l.prog w base G.T KM 26 "look_at_lists" rfl AV (λF=>AU T q9 qe F) λ_ _ _ _ _ _ us hl=>bz2 (us:=us) hl λ_ _=>rfl
 have qk:=VS l.prog w base G.T KM 23 "look_at_copies" rfl AV (λF=>AQ T qI qe F) λ_ _ _ _ _ _ us hl=>bz1 (us:=us) hl λ_=>rfl
 have qc:=VS l.prog w base G.T KM 27 "look_at_wishes" rfl AV (λF=>AO T qo qk qe F) λ_ _ _ _ _ _ us hl=>bz1 (us:=us) hl λ_=>rfl
 have qh:=VS l.prog w base G.T KM 31 "dealings_beside" rfl AV (λF=>AN T qc F) λ_ _ _ _ _ _ us hl=>bz3 (us:=us) hl λ_ _ _=>rfl
 have j7:=Zr l.prog w base G.T KM 39 "_law_caught_row" rfl AV (λF=>Kaq T qh F) λ_ _ _ _ _ _ us hl=>bz1 (us:=us) hl λ_=>rfl
 have qY:=Zr l.prog w base G.T KM 40 "_law_word" rfl AV (λF=>Kar T  F) λ_ _ _ _ _ _ us hl=>bz1 (us:=us) hl λ_=>rfl
 have qf:=Pu l.prog w base G.T KM 28 "copied_wishes" rfl AV (λF=>AT T  F) λ_ _ _ _ _ _ us hl=>bz1 (us:=us) hl λ_=>rfl
 have kf:=qf.def;have qm:=VS l.prog w base G.T KM 30 "wishes_beside" rfl AV (λF=>AS T kf qc h_NoJoin F) λ_ _ _ _ _ _ us hl=>bz2 (us:=us) hl λ_ _=>rfl
 have qZ:=Zr l.prog w base G.T KM 38 "_law_caught" rfl AV (λF=>Kap T qm F) λ_ _ _ _ _ _ us hl=>bz2 (us:=us) hl λ_ _=>rfl
 have jZ:=Zr l.prog w base G.T KM 43 "_law_refused" rfl AV (λF=>Kau T j7 qY qZ F) λ_ _ _ _ _ _ us hl=>bz3 (us:=us) hl λ_ _ _=>rfl
 have j4:=Zr l.prog w base G.T KM 42 "_law_behind" rfl AV (λF=>Kat T  F) λ_ _ _ _ _ _ us hl=>bz2 (us:=us) hl λ_ _=>rfl
 have j9:=Zr l.prog w base G.T KM 36 "_law_wished" rfl AV (λF=>Kan T  F) λ_ _ _ _ _ _ us hl=>bz2 (us:=us) hl λ_ _=>rfl
 have j8:=Zr l.prog w base G.T KM 37 "_law_dealt" rfl AV (λF=>Kao T j9 qG F) λ_ _ _ _ _ _ us hl=>bz3 (us:=us) hl λ_ _ _=>rfl
 have j6:=Zr l.prog w base G.T KM 41 "_law_due" rfl AV (λF=>Kas T  F) λ_ _ _ _ _ _ us hl=>bz2 (us:=us) hl λ_ _=>rfl
 have ka:=Zr l.prog w base G.T KM 35 "_law_wishes" rfl AV (λF=>Kam T qG q8 F) λ_ _ _ _ _ _ us hl=>bz5 (us:=us) hl λ_ _ _ _ _=>rfl
 have qi:=Hn l.prog w base G.T KM 31 "dealings_beside" rfl AV (λF=>AM T qH F) λ_ _ _ _ _ _ us hl=>bz3 (us:=us) hl λ_ _ _=>rfl
 have qp:=Pu l.prog w base G.T KM 30 "wishes_beside" rfl AV (λF=>AR T qH qc qf F) λ_ _ _ _ _ _ us hl=>bz2 (us:=us) hl λ_ _=>rfl
 exact λ{_ _} F=>Kav T q8 ke qG jZ j4 j8 qZ qY j6 ka qi qp F
noncomputable abbrev d_av:DefRec:=⟨"law", Yp Sav,K7 Sav,Ki Sav,Lq Sav⟩
theorem walk{XP:(Str->A3)->Heap->Prop}(hlaw:∀ns:A1,ns.length<=63->XN [.list (ns.map int)]=O (.bool AX)):PySem.W.WalkO q0 [] XP (λ_ h=>XYP p0 clsL h) (PySem.Challenge.rw_wishdeal_k80_beside_one_another).row.toRowW d_av [] (λf vs=>PySem.call f vs):=
 Ci (n:=63) (k:=10) (x:= "_law_script") AV (by decide) AV ⟨rfl,by decide,by decide,rfl⟩ (λ_ _ _ _ _ _ G Y hm=>L9 G Y hm) hlaw
theorem R7{f:M D}{ρ ρ1:UB}{d:D}{t:Bool}(h:f ρ=.ok d ρ1)(ht:(!isNon d)=t):UO (λd=>!isNon d) f ρ=.ok t ρ1:=by subst ht;exact KE (k:=λd=>!isNon d) h
theorem Ny{sizes found:A1}{z d:Int}(h:∀(j:Nat) d z,found[j]?=O d->sizes[j]?=O z->0<=d/\d<z)(hz:sizes[found.length]?=O z)(h0:0<=d/\d<z) :
  ∀(j:Nat) d' z',(found++[d])[j]?=O d'->sizes[j]?=O z'->0<=d'/\d'<z':=by
 intro j d' z' e1 e2;by_cases hj:j<found.length
 .rw[Qv hj]at e1
  exact h j d' z' e1 e2
 .by_cases hj2:j=found.length
  .subst hj2
   rw[hz]at e2;cases e2;rw[Qx (Qq _),Nat.sub_self,List.getElem?_cons_zero]at e1;cases e1;exact h0
  .rw[Jx (by rw[Qh,QZ];lia)]at e1
   cases e1
noncomputable abbrev pb(d:D):Option Sl:=O (.pub d)
def inv(c s:Int)(sizes:A1)(n:Int)(i:Nat)(ρ:UB):Prop:=∃left found x6 x7,ρ=[O (Sl.pub (.int c)),pb (.int s),pb (.list (sizes.map .int)),pb (.int n),pb (.int left),O (.own ((found:A1).map .int)),x6,x7] /\
 found.length=i/\∀(j:Nat) d z,found[j]?=O d->sizes[j]?=O z->0<=d/\d<z
theorem D9{c s n:Int}{sizes:A1}(hs:∀x∈sizes,0<x/\x<18446744073709551616)(hl:sizes.length<=1000){i:Nat}{d:D}{ρ:UB}{Q:Out->Prop}(hi:(Zg 0 sizes.length)[i]?=O d)(h:inv c s sizes n i ρ) :
  ∃ρ2,gN 6 d ρ=O ρ2/\Ho S3 ρ2 (Vg (inv c s sizes n (i+1)) Q):=by
 obtain⟨left,found,x6,x7,rfl,hf,hfd⟩:=h;obtain⟨rfl,hlt⟩:=Te hi;obtain⟨z,hz⟩:∃z,sizes[i]?=O z:=⟨sizes[i]'(by lia),Qm _⟩
 obtain⟨z1,z2⟩:=hs z (QX hz);have hix:oIx (.list (sizes.map int)) (.int (0+(i:Int)))=O (.int z):=by rw[Int.zero_add];exact K8 (by rw[QC,hz];rfl)
 generalize hk:(0:Int)+(i:Int)=k at hix⊢;have hk1:k<18446744073709551616:=by lia
 have hk2 : -18446744073709551616<k:=by lia
 have hlen:(found.map int).length<1000000:=by rw[Qd];lia
 have pw:YQ (.int 10) (.int 18)=O (.int 1000000000000000000):=by rw[Ff (by decide)];rfl
 refine⟨_,US (Qa AV) AV,?_⟩;unfold S3;apply Kl
 case h1=>exact LR (Vt AV (UZ UK UK pw) AV) λ_=>Vt AV UK AV
 case h2=>intro _;refine U5 (Wd AV (UZ (UH AV) (Kw AV (UH AV) hix) (WE (by lia))) AV hlen AV) ?_;refine KJ (K9 (UZ (UH AV) (Kw AV (UH AV) hix) (Ow (by lia) (by lia))) (Qa AV) AV) (Z1 ?_);exact⟨_,found++[left % z],_,_,by rw[Q3];rfl,by rw[Qh,hf];rfl,Ny hfd (by rw[hf];exact hz) ⟨Int.emod_nonneg _ (by lia),Int.emod_lt_of_pos _ z1⟩⟩
 case h3=>intro _;refine U5 (K9 (UZ (UZ (UZ (UZ (UH AV) (UZ UK (UH AV) (Sb (by decide) (by decide))) Zq) (UZ (UZ UK (UH AV) (Sb (by decide) (by decide))) (UH AV) (Sa hk2 hk1)) Zq) (UH AV) Zq) UK (WE (by decide))) (Qa AV) AV) ?_;refine U5 (K9 (UZ (UZ (UH AV) UK (Sa (by decide) (by decide))) UK (WE (by decide))) (Qa AV) AV) ?_;refine U5 (K9 (UZ (UZ (UZ (UZ (UH AV) (UH AV) (Sa (by lia) (by lia))) UK (WE (by decide))) UK (Sa (by decide) (by decide))) UK (WE (by decide))) (Qa AV) AV) ?_;refine KJ (Wd AV (UZ (UZ (UH AV) UK (Ow (by decide) (by decide))) (Kw AV (UH AV) hix) (WE (by lia))) AV hlen AV) (Z1 ?_);exact⟨_,found++[_ % z],_,_,by rw[Q3];rfl,by rw[Qh,hf];rfl,Ny hfd (by rw[hf];exact hz) ⟨Int.emod_nonneg _ (by lia),Int.emod_lt_of_pos _ z1⟩⟩
theorem Sn(c s:Int){sizes:A1}(hs:∀x∈sizes,0<x/\x<18446744073709551616)(hl:sizes.length<=1000) :
  ∃r,Zz [.int c,.int s,.list (sizes.map int)]=O r/\∃ds:A1,r=.list (ds.map .int)/\ds.length=sizes.length/\∀(j:Nat) d z,ds[j]?=O d->sizes[j]?=O z->0<=d/\d<z:=by
 refine TQ (ρ:=[pb (.int c),pb (.int s),pb (.list (sizes.map int)),AW,AW,AW,AW,AW]) AV ?_;unfold W4;refine U5 (K9 (Zi (UG (UH AV) (UG (UZ (TR UK) (UH AV) Ox) UL)) Fe) (Qa AV) AV) ?_;refine U5 (K9 (UH AV) (Qa AV) AV) ?_;refine U5 (ZV (WF UL (Qa AV)) (Qa AV) AV) ?_;apply Kv;apply YJ (ds:=Zg 0 sizes.length) (inv c s sizes (if -1-c > c then -1-c else c))
 case h1=>exact V7 (UG (Zd AV (by rw[KS,Qd])) UL) (Td (by lia) (by lia))
 case h0=>exact⟨_,[],AW,AW,rfl,rfl,λj d z e=>by cases e⟩
 case hst=>exact λi d ρ e h=>D9 hs hl e h
 case hend=>rintro ρ ⟨left,found,x6,x7,rfl,hf,hfd⟩;rw[WM]at hf;exact KI (KL (Yo rfl rfl) ⟨_,rfl,found,rfl,by lia,hfd⟩)
mutual
theorem T7:∀(d:PyData),d.canLay0=AX->Uu d d=AX
 |.none,_=>rfl
 |.bool b,_=>by cases b<;>rfl
 |.int i,_=>by simp[Uu]
 |.str s,_=>by simp[Uu]
 |.list xs,h=>eqvAll_refl xs h
 |.tuple xs,h=>eqvAll_refl xs h
 |.dict _,h=>by cases h
theorem eqvAll_refl:∀(xs:List PyData),Us xs=AX->PyData.eqvAll xs xs=AX
 |[],_=>rfl
 |x::r,h=>by
  have h:(PyData.canLay0 x&&Us r)=AX:=h;rw[Qw]at h
  show(Uu x x&&PyData.eqvAll r r)=AX
  rw[T7 x h.1,eqvAll_refl r h.2];rfl
end
theorem Xl:∀{xs:AZ},(∀x∈xs,PyData.canLay0 x=AX)->Us xs=AX
 |[],_=>rfl
 |x::r,h=>by
  show(PyData.canLay0 x&&Us r)=AX
  rw[h x Qg,Xl λy hy=>h y (Qj _ hy)];rfl
theorem Xk{n:Nat}:∀{xs:AZ},(∀x∈xs,Ut x<=n)->PyData.depthAll xs<=n
 |[],_=>by simp[PyData.depthAll]
 |x::r,h=>by
  have h1:=h x Qg;have h2:=Xk (n:=n) λy hy=>h y (Qj _ hy);simp only[PyData.depthAll]
  lia
noncomputable def U1(r:A1):D:=.list (r.map int)
noncomputable def UP(rs:List A1):D:=.list (rs.map U1)
noncomputable def UU(cs:A1)(ls:L3):D:=.tuple [.list (cs.map int),.list (ls.map UP)]
structure Y7(n:Nat)(rs:List A1):Prop where
 few:rs.length<=5
 some:∀r∈rs,r≠[]
 there:∀r∈rs,∀t∈r,0<=t/\t<n
 once:rs.flatten.Nodup
structure Good(cs:A1)(ls:L3):Prop where
 c1:1<=cs.length
 c6:cs.length<=6
 c7:∀c∈cs,0<=c/\c<8
 l1:1<=ls.length
 l7:ls.length<=7
 rk:∀rs∈ls,Y7 cs.length rs
theorem Rq(r:A1):(U1 r).canLay0=AX:=Xl λx hx=>by obtain⟨y,_,rfl⟩:=Qs.mp hx;rfl
theorem Nu(rs:List A1):(UP rs).canLay0=AX:=Xl λx hx=>by obtain⟨y,_,rfl⟩:=Qs.mp hx;exact Rq y
theorem Rp(cs:A1)(ls:L3):(UU cs ls).canLay0=AX:=Xl λx hx=>by
 have hx:x=.list (cs.map int)∨x=.list (ls.map UP):=by simpa using hx
 rcases hx with rfl|rfl
 .exact Rq cs
 .exact Xl λx hx=>by obtain⟨y,_,rfl⟩:=Qs.mp hx;exact Nu y
theorem Fp(i:Int):(int i).depth<=1:=by simp[Ut]
theorem Vv{n:Nat}{xs:AZ}(h:PyData.depthAll xs<=n):(Uo xs).depth<=n+1:=by simp only[Ut];lia
theorem Ro(r:A1):(U1 r).depth<=2:=Vv (Xk λx hx=>by obtain⟨y,_,rfl⟩:=Qs.mp hx;exact Fp y)
theorem Nt(rs:List A1):(UP rs).depth<=3:=Vv (Xk λx hx=>by obtain⟨y,_,rfl⟩:=Qs.mp hx;exact Ro y)
theorem ES(cs:A1)(ls:L3):(UU cs ls).depth<=60:=by
 have h:PyData.depthAll [.list (cs.map int),.list (ls.map UP)]<=4:=Xk λx hx=>by
  have hx:x=.list (cs.map int)∨x=.list (ls.map UP):=by simpa using hx
  rcases hx with rfl|rfl
  .have:=Ro cs;unfold U1 at this;omega
  .exact Vv (Xk λx hx=>by obtain⟨y,_,rfl⟩:=Qs.mp hx;exact Nt y)
 unfold UU;simp only[Ut]at h⊢;omega
theorem Fo(cs:A1)(ls:L3):oNe (UU cs ls) (UU cs ls)=O AY:=by unfold oNe;rw[Qp ⟨Rp cs ls,Rp cs ls,ES cs ls⟩,T7 _ (Rp cs ls)];rfl
theorem D8(i:Int):YX [.int i]=O (.bool AX):=by refine ZC (ρ:=[pb (.int i)]) AV ?_;unfold W9;exact KL (V5 (KE (UH AV)) (λ_=>EB (KE (UH AV)))) AV
theorem Nr{i m:Int}(h0:0<=i)(h1:i<m):Zc [.int i,.int m]=O (.bool AX):=by
 refine ZC (ρ:=[pb (.int i),pb (.int m)]) AV ?_;unfold XG;have hb:(decide (0<=i)&&decide (i<m))=AX:=by simp[h0,h1]
 refine KL (V5 (t:=AX) (u:=AX) (Kk (UG (UH AV) UL) AV (D8 i)) (λ_=>?_)) AV;rw[←hb];exact KE (VE UK (UH AV) AV (λ_=>UH AV) (λ_=>rfl))
theorem Nq{α:Type}(l:List α):ZL [.list (l.map λ_=>.bool AX)]=O (.bool AX):=by
 have:(l.map λ_=>Up AX)=(l.map λ_=>AX).map Up:=by rw[Jc];rfl
 rw[this,Ou]
 congr 2
 rw[List.all_map];induction l with
 |nil=>rfl
 |cons x r ih=>simpa using ih
theorem BR{r:A1}{n:Int}(hne:r≠[])(hl:r.length<=1000)(h:∀t∈r,0<=t/\t<n):Z9 [U1 r,.int n]=O (.bool AX):=by
 refine ZC (ρ:=[pb (U1 r),pb (.int n)]) AV ?_;unfold XF;apply Kv;have hlen:U0 [U1 r]=O (.int r.length):=by unfold U1;rw[KS,Qd]
 have hp:0<r.length:=List.length_pos_iff.mpr hne;apply Kl
 case h1=>exact Yi (ρ1:=[pb (U1 r),pb (.int n)]) (ZF (UH AV) AV) (UZ (Zd AV hlen) UK V4)
 case h2=>
       intro hh;have:(r.length:Int)=0:=by simpa using hh
       lia
 case h3=>
  intro _;refine Ky (KI ?_)
  have hc:K3 (gN 2) (UF AX) (UT 2 Zc (UE (UC 2) (UE (UC 1) (UD)))) (r.map int) (U4 [pb (U1 r),pb (.int n)]++Um 1 AW) []=O (r.map λ_=>.bool AX):=by
   rw[Wj (λ_=>AX) (λ_=>.bool AX) (λρ=>∃x,ρ=[pb (U1 r),pb (.int n),x])]
   .rw[JQ.mpr (λ_ _=>rfl),JF,Jc];rfl
   .rintro d hm ρ ⟨x,rfl⟩
    obtain⟨t,ht,rfl⟩:=Qs.mp hm;exact⟨_,US (Qa AV) AV,rfl,λ_=>Kk (UG (UH AV) (UG (UH AV) UL)) AV (Nr (h t ht).1 (h t ht).2),_,rfl⟩
   .exact⟨AW,rfl⟩
   .rw[Qd,QO];lia
  exact KL (Zi (UG (KE (Yh (Ze (UH AV) AV) hc)) UL) (Nq r)) AV
theorem Np{a b c x3:Option Sl}(ha:YY a=a)(hb:YY b=b)(hc:YY c=c)(hx:YY x3=x3):∀(ds es:AZ)(x4:Option Sl),es.length+ds.length<=1000000 ->
  ∃y,Xe (gN 4) (UF AX) (UC 4) ds [a,b,c,x3,x4] es=O (es++ds,[a,b,c,x3,y])
 |[],es,x4,_=>⟨x4,by rw[Xe,QR]⟩
 |d::r,es,x4,h=>by
  rw[QK]at h;obtain⟨y,e⟩:=Np ha hb hc hx r (es++[d]) (O (.pub d)) (by rw[Qh,QZ];lia);refine⟨y,?_⟩;rw[Xe];have h1:gN 4 d [a,b,c,x3,x4]=O [a,b,c,x3,pb d]:=US (Qa AV) AV;rw[h1];dsimp only[UF];rw[Qp AV];have h2:UC 4 [a,b,c,x3,pb d]=.ok d [a,b,c,x3,pb d]:=UH AV;rw[h2];dsimp only;rw[Qp (by lia)];have h3:U4 [a,b,c,x3,pb d]=[a,b,c,x3,pb d]:=by unfold U4;simp only[QN,JM,ha,hb,hc,hx];rfl
  rw[h3,e,Ji];rfl
theorem RD{a b:D}:∀(rs:List A1)(es:AZ)(x3 x4:Option Sl),es.length+rs.flatten.length<=1000000 ->
  YD (gN 3) (UF AX) (Km (UC 3)) (gN 4) (UF AX) (UC 4) (rs.map U1) [pb a,pb b,AW,x3,x4] es=O (es++rs.flatten.map int)
 |[],es,_,_,_=>by rw[List.map_nil,YD];simp
 |r::rs,es,x3,x4,h=>by rw[QS,Qh]at h;rw[QN,YD];have h1:gN 3 (U1 r) [pb a,pb b,AW,x3,x4]=O [pb a,pb b,AW,pb (U1 r),x4]:=US (Qa AV) AV;rw[h1];dsimp only[UF];rw[Qp AV];have h2:Km (UC 3) [pb a,pb b,AW,pb (U1 r),x4]=.ok (r.map int) [pb a,pb b,AW,pb (U1 r),x4]:=Ze (UH AV) AV;rw[h2];dsimp only;have h3:U4 [pb a,pb b,AW,pb (U1 r),x4]=[pb a,pb b,AW,pb (U1 r),YY x4]:=rfl;rw[h3];obtain⟨y,e⟩:=Np (a:=O (.pub a)) (b:=O (.pub b)) (c:=AW) (x3:=O (.pub (U1 r))) AV AV AV AV (r.map int) es (YY x4) (by rw[Qd];lia);rw[e];dsimp only;have ih:=RD (a:=a) (b:=b) rs (es++r.map int) (O (.pub (U1 r))) y (by rw[Qh,Qd];lia);refine Eq.trans ih ?_;rw[QS,Q3,Ji]
theorem Nx{ns:A1}(h:ns.Nodup):Y3 ns=ns.length:=by
 unfold Y3
 have:∀i,i<=ns.length->(PyProof.Rows.firstMet (λi=>ns.getD i 0) i).length=i:=by
  intro i;induction i with
  |zero=>intro _;rfl
  |succ i ih=>
   intro hi;rw[PyProof.Rows.firstMet_succ]
   have hany:(PyProof.Rows.firstMet (λi=>ns.getD i 0) i).any (· == ns.getD i 0)=AY:=by
    rw[PyProof.Rows.firstMet_any,List.any_eq_false];intro x hx;obtain⟨j,hj,rfl⟩:=Qs.mp hx;have hj:=Jt.mp hj;intro e;have e:ns.getD j 0=ns.getD i 0:=by simpa using e
    have l1:j<ns.length:=by lia
    have l2:i<ns.length:=by lia
    simp only[List.getD,Qm l1,Qm l2,JS]at e;exact absurd ((List.getElem_inj h).mp e) (by lia)
   unfold PyProof.Rows.step_dedup;rw[hany];rw[Qz (by decide),Qh,ih (by lia)];rfl
 exact this ns.length (Qq _)
theorem Ac{rs:List A1}{n:Nat}(g:Y7 n rs)(hn:n<=6)(hf:rs.flatten.length<=1000):Z8 [UP rs,.int n]=O (.bool AX):=by
 refine ZC (ρ:=[pb (UP rs),pb (.int n),AW]) AV ?_;unfold XE;have hlen:U0 [UP rs]=O (.int rs.length):=by unfold UP;rw[KS,Qd]
 have h5:=g.few;have jw:∀r∈rs,r.length<=1000:=λr hr=>Qt (List.Sublist.length_le (JH hr)) hf;apply Kv;apply Kl
 case h1=>exact Yi (ρ1:=[pb (UP rs),pb (.int n),AW]) (ZF (UH AV) AV) (UZ (Zd AV hlen) UK AV)
 case h2=>
       intro hh;have:(5:Int)<(rs.length:Int):=by simpa using hh
       lia
 case h3=>
  intro _;refine Ky (KI ?_)
  have hc:K3 (gN 3) (UF AX) (UT 2 Z9 (UE (UC 3) (UE (UC 1) (UD)))) (rs.map U1) (U4 [pb (UP rs),pb (.int n),AW]++Um 1 AW) []=O (rs.map λ_=>.bool AX):=by
   rw[Wj (λ_=>AX) (λ_=>.bool AX) (λρ=>∃x,ρ=[pb (UP rs),pb (.int n),AW,x])]
   .rw[JQ.mpr (λ_ _=>rfl),JF,Jc];rfl
   .rintro d hm ρ ⟨x,rfl⟩
    obtain⟨r,hr,rfl⟩:=Qs.mp hm;exact⟨_,US (Qa AV) AV,rfl,λ_=>Kk (UG (UH AV) (UG (UH AV) UL)) AV (BR (g.some r hr) (jw r hr) (g.there r hr)),_,rfl⟩
   .exact⟨AW,rfl⟩
   .rw[Qd,QO];lia
  apply Kv;apply Kl
  case h1=>exact YB (Wl (Zi (UG (KE (Yh (Ze (UH AV) AV) hc)) UL) (Nq rs)))
  case h2=>intro hh;cases hh
  case h3=>
   intro _;refine Ky (KI ?_);have h2:Wy (Km (UC 0)) 2 (gN 3) (UF AX) (Km (UC 3)) (gN 4) (UF AX) (UC 4) [pb (UP rs),pb (.int n),AW]=.ok (rs.flatten.map int) [pb (UP rs),pb (.int n),AW]:=by unfold Wy;have e1:Km (UC 0) [pb (UP rs),pb (.int n),AW]=.ok (rs.map U1) [pb (UP rs),pb (.int n),AW]:=Ze (UH AV) AV;rw[e1];dsimp only;have e2:=RD (a:=UP rs) (b:=.int n) rs [] AW AW (by rw[QO];lia);have e3:YD (gN 3) (UF AX) (Km (UC 3)) (gN 4) (UF AX) (UC 4) (rs.map U1) (U4 [pb (UP rs),pb (.int n),AW]++Um 2 AW) []=O ([]++rs.flatten.map int):=e2;rw[e3];rfl
   refine U5 (ZV h2 (Qa AV) AV) ?_;have hls:Wh [.list (rs.flatten.map int)]=O (.int rs.flatten.length):=by unfold Wh;dsimp only;rw[RI];dsimp only;rw[Qp (by lia),Nx g.once]
   refine KL (KE (UZ (Zi (UG (Yo AV AV) UL) hls) (Zd AV KS) V4)) ?_;rw[Qd];simp
theorem T6{d:D}:∀{xs:AZ}{k i:Nat},(Yb k xs)[i]?=O d->∃x,xs[i]?=O x/\d=.tuple [.int ((k+i:Nat):Int),x]
 |[],k,i,h=>by cases h
 |x::r,k,0,h=>by cases h;exact⟨x,rfl,rfl⟩
 |x::r,k,i+1,h=>by obtain⟨y,e,q⟩:=T6 (xs:=r) (k:=k+1) (i:=i) h;exact⟨y,e,by rw[q];congr 4;lia⟩
theorem Rn:∀(n:Nat)(l:A1),l.Nodup->(∀x∈l,0<=x/\x<n)->l.length<=n
 |0,[],_,_=>Qq _
 |0,x::r,_,h=>by have:=h x Qg;lia
 |n+1,l,hn,h=>by
  by_cases hm:(n:Int)∈l
  .have:=Rn n (l.erase (n:Int)) (hn.erase _) λx hx=>by
    have h1:=(List.Nodup.mem_erase_iff hn).mp hx;have h2:=h x h1.2;have h3:=h1.1
    lia
   rw[List.length_erase_of_mem hm]at this
   lia
  .have:=Rn n l hn λx hx=>by
    have h2:=h x hx;have h3:x≠(n:Int):=λe=>hm (e ▸ hx)
    lia
   lia
theorem Ta{n:Nat}{rs:List A1}(g:Y7 n rs):rs.flatten.length<=n:=Rn n _ g.once λx hx=>by obtain⟨r,hr,hxr⟩:=List.mem_flatten.mp hx;exact g.there r hr x hxr
theorem CC{cs:A1}(h1:1<=cs.length)(h6:cs.length<=6)(h:∀c∈cs,0<=c/\c<8):X0 [.list (cs.map int)]=O .none:=by
 refine SS (ρ:=[pb (.list (cs.map int)),AW,AW]) AV ?_;unfold W8;have hlen:U0 [.list (cs.map int)]=O (.int cs.length):=by rw[KS,Qd]
 apply Kv;apply Kl
 case h1=>exact Yi (ρ1:=[pb (.list (cs.map int)),AW,AW]) (ZF (UH AV) AV) (YB (VE UK (Zd AV hlen) AV (λ_=>UK) (λ_=>rfl)))
 case h2=>
  intro hh;have a1:(1:Int)<=(cs.length:Int):=by lia
  have a2:(cs.length:Int)<=6:=by lia
  simp[a1,a2]at hh
 case h3=>
  intro _;refine Ky (KI ?_);apply YJ (λ_ ρ=>∃x1 x2,ρ=[pb (.list (cs.map int)),x1,x2])
  case h1=>exact V6 (UG (UH AV) UL) Tc
  case h0=>exact⟨_,_,rfl⟩
  case hst=>
   rintro i d ρ hi ⟨x1,x2,rfl⟩;obtain⟨x,hx,rfl⟩:=T6 hi;obtain⟨c,hc,rfl⟩:=Qs.mp (QX hx);refine⟨_,KY AV (Kc (US (Qa AV) AV) (Kc (US (Qa AV) AV) KZ)),?_⟩;unfold P3;apply Kl
   case h1=>exact YB (Wl (Kk (UG (UH AV) (UG (UZ UK UK Zq) UL)) AV (Nr (h c hc).1 (by have:=(h c hc).2;lia))))
   case h2=>intro hh;cases hh
   case h3=>exact λ_=>Ky (Z1 ⟨_,_,rfl⟩)
  case hend=>exact λρ ⟨x1,x2,e⟩=>⟨_,rfl⟩
theorem ER{ls:L3}{n:Nat}(hn:n<=6)(h1:1<=ls.length)(h7:ls.length<=7)(h:∀rs∈ls,Y7 n rs):XZ [.list (ls.map UP),.int n]=O .none:=by
 refine SS (ρ:=[pb (.list (ls.map UP)),pb (.int n),AW,AW]) AV ?_;unfold W7;have hlen:U0 [.list (ls.map UP)]=O (.int ls.length):=by rw[KS,Qd]
 apply Kv;apply Kl
 case h1=>exact Yi (ρ1:=[pb (.list (ls.map UP)),pb (.int n),AW,AW]) (ZF (UH AV) AV) (YB (VE UK (Zd AV hlen) AV (λ_=>UK) (λ_=>rfl)))
 case h2=>
  intro hh;have a1:(1:Int)<=(ls.length:Int):=by lia
  have a2:(ls.length:Int)<=7:=by lia
  simp[a1,a2]at hh
 case h3=>
  intro _;refine Ky (KI ?_);apply YJ (λ_ ρ=>∃x2 x3,ρ=[pb (.list (ls.map UP)),pb (.int n),x2,x3])
  case h1=>exact V6 (UG (UH AV) UL) Tc
  case h0=>exact⟨_,_,rfl⟩
  case hst=>
   rintro i d ρ hi ⟨x1,x2,rfl⟩;obtain⟨x,hx,rfl⟩:=T6 hi;obtain⟨rs,hrs,rfl⟩:=Qs.mp (QX hx);refine⟨_,KY AV (Kc (US (Qa AV) AV) (Kc (US (Qa AV) AV) KZ)),?_⟩;unfold P4;have hfl:=Ta (h rs hrs);apply Kl
   case h1=>exact YB (Wl (Kk (UG (UH AV) (UG (UH AV) UL)) AV (Ac (h rs hrs) hn (by lia))))
   case h2=>intro hh;cases hh
   case h3=>exact λ_=>Ky (Z1 ⟨_,_,rfl⟩)
  case hend=>exact λρ ⟨x1,x2,e⟩=>⟨_,rfl⟩
theorem Si{cs:A1}{ls:L3}(g:Good cs ls):ZA [UU cs ls]=O .none:=by
 refine SS (ρ:=[pb (UU cs ls),AW,AW]) AV ?_;unfold W6;apply Kv;apply Kl
 case h1=>exact Yi (ρ1:=[pb (UU cs ls),AW,AW]) (ZF (UH AV) AV) (UZ (Zd AV AV) UK S9)
 case h2=>intro hh;cases hh
 case h3=>
  intro _;refine Ky (KI ?_);have hlen:U0 [.list (cs.map int)]=O (.int (cs.length:Nat)):=by rw[KS,Qd]
  refine U5 (Wx (UH AV) (KY AV (Kc (US (Qa AV) AV) (Kc (US (Qa AV) AV) KZ)))) ?_;refine U5 (Vu (Kk (UG (UH AV) UL) AV (CC g.c1 g.c6 g.c7))) ?_;exact KJ (Vu (Kk (UG (UH AV) (UG (Zd AV hlen) UL)) AV (ER g.c6 g.l1 g.l7 g.rk))) ⟨_,rfl⟩
theorem OY:∀(xs ys:A1),PyData.eqvAll (xs.map int) (ys.map int)=decide (xs=ys)
 |[],[]=>rfl
 |[],y::ys=>by simp[PyData.eqvAll]
 |x::xs,[]=>by simp[PyData.eqvAll]
 |x::xs,y::ys=>by
  have ih:=OY xs ys
  show(Uu (.int x) (.int y)&&PyData.eqvAll (xs.map int) (ys.map int))=_
  rw[ih];have:Uu (.int x) (.int y)=decide (x=y):=rfl;rw[this,Bool.eq_iff_iff];simp
theorem CB{xs:A1}:oNe (.list (xs.map int)) (.list [])=O (!decide (xs=[])):=by
 unfold oNe;have h1:(Uo (xs.map int)).canLay0=AX:=Rq xs;have h3:(Uo (xs.map int)).depth<=60:=by have:=Ro xs;unfold U1 at this;lia
 rw[Qp ⟨h1,rfl,h3⟩]
 congr 2
 exact OY xs []
theorem Fn{xs:AZ}{x:D}(h:xs.getLast?=O x):oIx (.list xs) (.int (-1))=O x:=by
 unfold oIx atI;have hl:xs≠[]:=by rintro rfl;cases h
 have hp:0<xs.length:=List.length_pos_iff.mpr hl;rw[List.getLast?_eq_getElem?]at h
 show(ixN xs.length (-1)).bind _=_
 unfold ixN;rw[Qz (by decide),Qp (by lia)];have e2:(-1+(xs.length:Int)).toNat=xs.length-1:=by lia
 simp only[Option.bind_some];rw[e2];exact h
theorem SZ{xs:A1}{k:Nat}(h:k<xs.length):oIx (.list (xs.map int)) (.int k)=O (.int (xs.getD k 0)):=by refine K8 ?_;rw[QC,Qm h];simp[List.getD,List.getElem?_eq_getElem h]
theorem RT(ns:A1)(k:Nat)(hl:ns.length<=1000):∃v,Z7 [.list (ns.map int),.int k]=O (.int v):=by
 have hlen:U0 [.list (ns.map int)]=O (.int ns.length):=by rw[KS,Qd]
 by_cases h:k<ns.length
 .refine⟨ns.getD k 0,ZC (ρ:=[pb (.list (ns.map int)),pb (.int k)]) AV ?_⟩
  unfold XB;apply Kv;apply Kl
  case h1=>exact Vt AV (Zd AV hlen) AV
  case h2=>exact λ_=>KL (Kw AV (UH AV) (SZ h)) (Y8 AV)
  case h3=>
        intro hh;have:¬(k:Int)<(ns.length:Int):=by simpa using hh
        lia
 .refine⟨0,ZC (ρ:=[pb (.list (ns.map int)),pb (.int k)]) AV ?_⟩
  unfold XB;apply Kv;apply Kl
  case h1=>exact Vt AV (Zd AV hlen) AV
  case h2=>
        intro hh;have:(k:Int)<(ns.length:Int):=by simpa using hh
        lia
  case h3=>exact λ_=>Ky (KI (KL UK AV))
noncomputable def tab:A1:=[1,1,2,0,3,7,1,4,5,6,1]
theorem PX{z:Int}(h0:0<=z)(h1:z<11):oIx (.list (tab.map int)) (.int z)=O (.int (tab.getD z.toNat 0))/\0<=tab.getD z.toNat 0/\tab.getD z.toNat 0<8:=by
 have e:z=0∨z=1∨z=2∨z=3∨z=4∨z=5∨z=6∨z=7∨z=8∨z=9∨z=10:=by lia
 rcases e with rfl|rfl|rfl|rfl|rfl|rfl|rfl|rfl|rfl|rfl|rfl<;>exact⟨rfl,by decide,by decide⟩
structure WA(n:Nat)(pl:A1)(j:Nat)(rs:List A1):Prop where
 few:rs.length<=j
 some:∀r∈rs,r≠[]
 there:∀r∈rs,∀t∈r,(0<=t/\t<n)/\pl.getD t.toNat 0<1+(j:Int)
 once:rs.flatten.Nodup
noncomputable def X4(n:Nat)(pl:A1)(r:Int):A1:=((Ul n).filter λk=>decide (pl.getD k 0=r)).map λk:Nat=>(k:Int)
theorem Ab(n:Nat)(pl:A1)(r:Int):(X4 n pl r).Nodup:=by unfold X4;refine List.Pairwise.map _ (λa b h e=>h (by lia)) ((List.nodup_range).filter _)
theorem No{n:Nat}{pl:A1}{r t:Int}(h:t∈X4 n pl r):(0<=t/\t<n)/\pl.getD t.toNat 0=r:=by
 unfold X4 at h;obtain⟨k,hk,rfl⟩:=Qs.mp h;have hk:=List.mem_filter.mp hk;have h1:=Jt.mp hk.1;have h2:pl.getD k 0=r:=by simpa using hk.2
 exact⟨⟨by lia,by lia⟩,by rw[JE];exact h2⟩
theorem WA.add{n:Nat}{pl:A1}{j:Nat}{rs:List A1}{row:A1}(g:WA n pl j rs)(hne:row≠[])(hm:∀t∈row,t∈X4 n pl (1+(j:Int)))(hn:row.Nodup):WA n pl (j+1) (rs++[row]) where
 few:=by rw[Qh,QZ];have:=g.few;lia
 some:=λr hr=>by
  rcases QE.mp hr with z|z
  .exact g.some r z
  .rw[QL.mp z];exact hne
 there:=λr hr t ht=>by
  rcases QE.mp hr with z|z
  .have:=g.there r z t ht;exact⟨this.1,by lia⟩
  .rw[QL.mp z]at ht
   have:=No (hm t ht);exact⟨this.1,by lia⟩
 once:=by
  rw[List.flatten_append,List.flatten_singleton];refine QI.mpr ⟨g.once,hn,λa ha b hb e=>?_⟩;subst e;obtain⟨r,hr,har⟩:=List.mem_flatten.mp ha;have h1:=(g.there r hr a har).2;have h2:=(No (hm a hb)).2
  lia
theorem WA.next{n:Nat}{pl:A1}{j:Nat}{rs:List A1}(g:WA n pl j rs):WA n pl (j+1) rs:=
 ⟨by have:=g.few;lia,g.some,λr hr t ht=>⟨(g.there r hr t ht).1,by have:=(g.there r hr t ht).2;lia⟩,g.once⟩
theorem Og{x:D}{m:Nat}(h:m<=1000):Ke (.list [x]) (.int m)=O (.list (Um m x)):=by
 rw[NE ⟨by lia,by lia,by rw[JE];show 1*m<=_;lia⟩,JE]
 congr 2
 induction m with
 |zero=>rfl
 |succ m ih=>rw[Jb,QS,ih (by lia)];rfl
noncomputable def szG(T A:Nat):A1:=(T:Int)::(A:Int)::Um T 11
noncomputable def Zs(T R:Nat):A1:=Um T ((R:Int)+1)++[2]
theorem Of{T A:Nat}:(szG T A).length=T+2:=by unfold szG;simp
theorem OX{T R:Nat}:(Zs T R).length=T+1:=by unfold Zs;simp
theorem L8{T A:Nat}(h1:1<=T)(h2:T<=6)(h3:1<=A)(h4:A<=7):∀x∈szG T A,0<x/\x<18446744073709551616:=λx hx=>by unfold szG at hx;simp only[QM,List.mem_replicate]at hx;rcases hx with rfl|rfl|⟨_,rfl⟩<;>lia
theorem Fl{T R:Nat}(h:R<=5):∀x∈Zs T R,0<x/\x<18446744073709551616:=λx hx=>by unfold Zs at hx;simp only[List.mem_append,QL,List.mem_replicate]at hx;rcases hx with ⟨_,rfl⟩|rfl<;>lia
theorem CA{T R:Nat}:(Zs T R)[T]?=O 2:=by unfold Zs;simp
theorem L7{T A k:Nat}(h:k<T):(szG T A)[2+k]?=O 11:=by unfold szG;rw[show 2+k=k+1+1 by lia,JR,JR,QF,Qp h]
def SA(T A R:Nat)(S dz:D)(at_ n:Nat)(cs pl:A1)(ls:L3)(x9 jb:Option Sl)(j:Nat)(ρ:UB):Prop:=∃(rs:List A1)(jp qV:Option Sl),
 ρ=[pb S,pb (.int at_),pb (.int (T:Nat)),pb (.int (A:Nat)),pb (.int (R:Nat)),pb dz,O (.own (cs.map int)),O (.own (ls.map UP)),x9,jb,pb (.list (pl.map int)),O (.own (rs.map U1)),jp,qV]/\WA n pl j rs
theorem BQ{T A R:Nat}{S dz:D}{at_ n:Nat}{cs pl:A1}{ls:L3}{v9 v10:D}{j:Nat}{d:D}{ρ:UB}{Q:Out->Prop}(hcs:cs.length=n)(hT:T<=6)(hR:R<=5)(hn:n<=T)(hpl:pl.length=T+1)(qR:pl.getD T 0=0∨pl.getD T 0=1)
  (hj:(Zg 1 ((R:Int)+1))[j]?=O d) (h:SA T A R S dz at_ n cs pl ls (O (.pub v9)) (O (.pub v10)) j ρ) :
  ∃ρ2,gN 12 d ρ=O ρ2/\Ho S1 ρ2 (Vg (SA T A R S dz at_ n cs pl ls (O (.pub v9)) (O (.pub v10)) (j+1)) Q):=by
 obtain⟨rs,jp,qV,rfl,g⟩:=h;obtain⟨rfl,hlt⟩:=Te hj;have hj5:j<R:=by lia
 refine⟨_,US (Qa AV) AV,?_⟩;unfold S1
 have hrd:Zg 0 ((n:Nat):Int)=(Ul n).map λk=>.int (k:Int):=by
  unfold Zg;have:((n:Int)-0).toNat=n:=by lia
  rw[this];apply List.map_congr_left;intro k _;rw[Int.zero_add]
 have hc:K3 (gN 14) (UJ oEq (UR 10 (UC 14)) (UC 12)) (UC 14) (Zg 0 ((n:Nat):Int)) (U4 [pb S,pb (.int at_),pb (.int (T:Nat)),pb (.int (A:Nat)),pb (.int (R:Nat)),pb dz,O (.own (cs.map int)),O (.own (ls.map UP)),pb v9,pb v10,pb (.list (pl.map int)),O (.own (rs.map U1)),pb (.int (1+(j:Int))),qV]++Um 1 AW) []=O ((X4 n pl (1+(j:Int))).map int):=by
  rw[hrd,Wj (λd=>match d with | .int k=>decide (pl.getD k.toNat 0=1+(j:Int))|_=>AY) (λd=>d) (λρ=>∃x,ρ=[pb S,pb (.int at_),pb (.int (T:Nat)),pb (.int (A:Nat)),pb (.int (R:Nat)),pb dz,AW,AW,pb v9,pb v10,pb (.list (pl.map int)),AW,pb (.int (1+(j:Int))),YY qV,x])]
  .rw[JF,List.map_id',List.filter_map]
   unfold X4;rw[Jc];rfl
  .rintro d hm ρ ⟨x,rfl⟩
   obtain⟨k,hk,rfl⟩:=Qs.mp hm;have hk:=Jt.mp hk;refine⟨_,US (Qa AV) AV,UZ (Kw AV (UH AV) (SZ (by lia))) (UH AV) V4,λ_=>UH AV,pb (.int k),?_⟩;unfold U4;cases qV with
   |none=>rfl
   |some sl=>cases sl<;>rfl
  .exact⟨AW,rfl⟩
  .rw[Qd,JW,QO];lia
 have hlen:(cs.map int).length=n:=by rw[Qd,hcs]
 refine U5 (ZV (Yh (V7 (UG (ED AV) UL) (by rw[hlen];exact Td (by lia) (by lia))) hc) (Qa AV) AV) ?_;generalize jH:X4 n pl (1+(j:Int))=row;apply Kl
 case h1=>exact DO AV (KW UL (by decide)) AV CB
 case h2=>
  intro hh;have hne:row≠[]:=by simpa using hh
  have hlx:oIx (.list (pl.map int)) (.int (-1))=O (.int (pl.getD T 0)):=Fn (by rw[List.getLast?_eq_getElem?,Qd,hpl,QC,Nat.add_sub_cancel,Qm (show T<pl.length by lia)];simp[List.getD,List.getElem?_eq_getElem (show T<pl.length by lia)])
  obtain⟨qN,hix,qP⟩:∃qN:A1,oIx (.list [.list (row.map int),.list (row.map int).reverse]) (.int (pl.getD T 0))=O (U1 qN)/\(qN=row∨qN=row.reverse):=by
   rcases qR with e|e
   .rw[e];exact⟨row,rfl,.inl AV⟩
   .rw[e];exact⟨row.reverse,by show O (Uo (row.map int).reverse)=_;unfold U1;rw[List.map_reverse],.inr AV⟩
  have jw:(rs.map U1).length<1000000:=by rw[Qd];have:=g.few;lia
  refine KJ (Wd AV (UZ (KW (UG (Yo AV AV) (UG (LM (UH AV) UK UK (Wg (TR UK))) UL)) (Qa AV)) (Kw AV (TR UK) hlx) hix) AV jw AV) ?_;refine Z1 ⟨rs++[qN],pb (.int (1+(j:Int))),pb (.list (row.map int)),by rw[Q3];rfl,g.add ?_ ?_ ?_⟩
  .rcases qP with e|e<;>rw[e]
   .exact hne
   .exact λz=>hne (List.reverse_eq_nil_iff.mp z)
  .intro t ht
   rw[jH];rcases qP with e|e<;>rw[e]at ht
   .exact ht
   .exact List.mem_reverse.mp ht
  .have hnd:=Ab n pl (1+(j:Int))
   rw[jH]at hnd;rcases qP with e|e<;>rw[e]
   .exact hnd
   .exact(List.reverse_perm row).nodup_iff.mpr hnd
 case h3=>exact λ_=>Ky (Z1 ⟨rs,_,_,rfl,g.next⟩)
def Sz(T A R:Nat)(S dz:D)(at_ n:Nat)(cs:A1)(i:Nat)(ρ:UB):Prop:=∃(ls:L3)(x9 jb jq jf jp qV:Option Sl),
 ρ=[pb S,pb (.int at_),pb (.int (T:Nat)),pb (.int (A:Nat)),pb (.int (R:Nat)),pb dz,O (.own (cs.map int)),O (.own (ls.map UP)),x9,jb,jq,jf,jp,qV]/\ls.length=i/\∀rs∈ls,Y7 n rs/\rs.length<=R
theorem Aa{T A R:Nat}{ns:A1}{dz:D}{at_ n:Nat}{cs:A1}{i:Nat}{m:Int}{d:D}{ρ:UB}{Q:Out->Prop}(hns:ns.length<=1000)(hT:T<=6)(hR:R<=5)(hcs:cs.length=n)(hn:n<=T)(hm:m<=100)
  (hi:(Zg 0 m)[i]?=O d) (h:Sz T A R (.list (ns.map int)) dz at_ n cs i ρ) :
  ∃ρ2,gN 8 d ρ=O ρ2/\Ho S0 ρ2 (Vg (Sz T A R (.list (ns.map int)) dz at_ n cs (i+1)) Q):=by
 obtain⟨ls,x9,jb,jq,jf,jp,qV,rfl,hl,hg⟩:=h;obtain⟨rfl,hlt⟩:=Te hi;refine⟨_,US (Qa AV) AV,?_⟩;unfold S0;obtain⟨v,hv⟩:=RT ns (at_+1+i) hns;have ev:((at_:Int)+1+(0+(i:Int)))=((at_+1+i:Nat):Int):=by lia
 rw[←ev]at hv;refine U5 (K9 (Kk (UG (UH AV) (UG (UZ (UZ (UH AV) UK Zq) (UH AV) Zq) UL)) AV hv) (Qa AV) AV) ?_;obtain⟨r,hF,pl,rfl,hpl,hpb⟩:=Sn v (11*(at_:Int)+3*(0+(i:Int))+1) (sizes:=Zs T R) (Fl hR) (by rw[OX];lia);have hpl7:pl.length=T+1:=by rw[hpl,OX]
 have hmul:Ke (.list [.int ((R:Int)+1)]) (.int (T:Nat))=O (.list (Um T (.int ((R:Int)+1)))):=Og (by lia);have hadd:UQ (.list (Um T (.int ((R:Int)+1)))) (.list [.int 2])=O (.list ((Zs T R).map int)):=by rw[YE (by rw[QY];show T+1<=_;lia)];unfold Zs;rw[Q3,List.map_replicate];rfl
 refine U5 (K9 (Kk (UG (UH AV) (UG (UZ (UZ (UZ UK (UH AV) (Sb (by decide) (by decide))) (UZ UK (UH AV) (Sb (by decide) (by decide))) Zq) UK Zq) (UG (UZ (UZ (KW (UG (UZ (UH AV) UK Zq) UL) (Qa AV)) (UH AV) hmul) (KW (UG UK UL) (Qa AV)) hadd) UL))) AV hF) (Qa AV) AV) ?_;refine U5 (ZV (WF UL (Qa AV)) (Qa AV) AV) ?_
 have qR:pl.getD T 0=0∨pl.getD T 0=1:=by
  have e:pl[T]?=O pl[T]:=Qm (by lia);have:=hpb T pl[T] 2 e CA;have e2:pl.getD T 0=pl[T]:=by simp[List.getD,e]
  rw[e2];lia
 apply Kv;apply YJ (SA T A R (.list (ns.map int)) dz at_ n cs pl ls (O (.pub (.int (0+(i:Int))))) (O (.pub (.int v))))
 case h1=>exact EC (UG UK (UG (UZ (UH AV) UK Zq) UL)) (DP (by lia) (by lia) (by decide) (by decide))
 case h0=>exact⟨[],jp,qV,rfl,⟨Qq _,λ_ h=>(by cases h),λ_ h=>(by cases h),List.nodup_nil⟩⟩
 case hst=>exact λj d ρ e h=>BQ hcs hT hR hn hpl7 qR e h
 case hend=>
  rintro ρ ⟨rs,y13,y14,rfl,g⟩;refine KI ?_;have hl5:(Zg 1 ((R:Int)+1)).length=R:=by rw[WM];lia
  rw[hl5]at g;have hll:(ls.map UP).length<1000000:=by rw[Qd];lia
  refine KJ (Wd AV (Yo AV AV) AV hll AV) ?_;refine Z1 ⟨ls++[rs],pb (.int (0+(i:Int))),pb (.int v),pb (.list (pl.map int)),pb (.list (rs.map U1)),y13,y14,by rw[Q3];rfl,by rw[Qh,hl];rfl,λx hx=>?_⟩;rcases QE.mp hx with z|z
  .exact hg x z
  .rw[QL.mp z];exact⟨⟨by have:=g.few;lia,g.some,λr hr t ht=>(g.there r hr t ht).1,g.once⟩,g.few⟩
theorem NW(T A R:Nat){ns:A1}(hns:ns.length<=1000)(at_:Nat)(hT1:1<=T:=by decide)(hT:T<=6:=by decide)(hA1:1<=A:=by decide)(hA:A<=7:=by decide)(hR:R<=5:=by decide):∃r,YW [.list (ns.map int),.int at_,.int (T:Nat),.int (A:Nat),.int (R:Nat)]=O r/\∃cs ls,r=UU cs ls/\Good cs ls/\cs.length<=T/\ls.length<=A/\∀rs∈ls,rs.length<=R:=by
 obtain⟨v,hv⟩:=RT ns at_ hns;obtain⟨r,hF,ds,rfl,hl,hd⟩:=Sn v at_ (sizes:=szG T A) (L8 hT1 hT hA1 hA) (by rw[Of];lia);have hl8:ds.length=T+2:=by rw[hl,Of]
 have at':∀(j:Nat)(k z:Int),k=j->(szG T A)[j]?=O z->∃d,oIx (.list (ds.map int)) (.int k)=O (.int d)/\ds[j]?=O d/\0<=d/\d<z:=λj k z hk hz=>by
  subst hk;have hj:j<ds.length:=by rw[hl];exact(Qr.mp hz).1
  have e:ds[j]?=O ds[j]:=Qm hj;obtain⟨p0,p1⟩:=hd j ds[j] z e hz;exact⟨ds[j],K8 (by rw[QC,e];rfl),e,p0,p1⟩
 obtain⟨d0,x0,e0,p0,q0⟩:=at' 0 0 T AV AV;obtain⟨d1,x1,e1,p1,q1⟩:=at' 1 1 A AV AV;have hmul:Ke (.list [.int 11]) (.int (T:Nat))=O (.list (Um T (.int 11))):=Og (by lia);have hadd:UQ (.list [.int (T:Nat),.int (A:Nat)]) (.list (Um T (.int 11)))=O (.list ((szG T A).map int)):=by rw[YE (by rw[QY];show 2+T<=_;lia)];unfold szG;rw[QN,QN,List.map_replicate];rfl
 obtain⟨n,hn⟩:∃n:Nat,1+d0=n:=⟨(1+d0).toNat,by lia⟩
 refine TQ (ρ:=[pb (.list (ns.map int)),pb (.int at_),pb (.int (T:Nat)),pb (.int (A:Nat)),pb (.int (R:Nat)),AW,AW,AW,AW,AW,AW,AW,AW,AW]) AV ?_;unfold W3;refine U5 (K9 (Kk (UG (Kk (UG (UH AV) (UG (UH AV) UL)) AV hv) (UG (UH AV) (UG (UZ (KW (UG (UH AV) (UG (UH AV) UL)) (Qa AV)) (UZ (KW (UG UK UL) (Qa AV)) (UH AV) hmul) hadd) UL))) AV hF) (Qa AV) AV) ?_
 have hcut:DL.cutD (ds.map int) (O 2) (O (3+d0))=((ds.drop 2).take n).map int:=by
  rw[DM (by decide) (by lia) (by lia)];have:(3+d0).toNat-(2:Int).toNat=n:=by lia
  rw[this];rfl
 have jc:((ds.drop 2).take n).length=n:=by rw[JI,JY,hl8];lia
 have each:∀z∈(ds.drop 2).take n,0<=z/\z<11:=λz hz=>by
  have hz:=List.mem_of_mem_take hz;obtain⟨k,hk,e⟩:=List.getElem_of_mem hz;rw[JY,hl8]at hk;rw[List.getElem_drop]at e;have e2:ds[2+k]?=O z:=by rw[←e];exact Qm _
  refine hd (2+k) z 11 e2 (L7 ?_)
  lia
 let cs:A1:=((ds.drop 2).take n).map λz=>tab.getD z.toNat 0
 have hcl:cs.length=n:=by show(List.map _ _).length=n;rw[Qd,jc]
 have hc:∀xs:List (Option Sl),U4 xs=xs->xs.length=14->K3 (gN 14) (UF AX) (UJ oIx (U3 (UE (UF (.int 1)) (UE (UF (.int 1)) (UE (UF (.int 2)) (UE (UF (.int 0)) (UE (UF (.int 3)) (UE (UF (.int 7)) (UE (UF (.int 1)) (UE (UF (.int 4)) (UE (UF (.int 5)) (UE (UF (.int 6)) (UE (UF (.int 1)) (UD))))))))))))) (UC 14)) (((ds.drop 2).take n).map int) (U4 xs++Um 1 AW) []=O (cs.map int):=by
  intro xs hx hxl;rw[hx,Wj (λ_=>AX) (λd=>match d with | .int z=>.int (tab.getD z.toNat 0)|_=>.none) (λρ=>∃x,ρ=xs++[x])]
  .rw[JQ.mpr (λ_ _=>rfl),JF,Jc]
   show _=O ((((ds.drop 2).take n).map λz=>tab.getD z.toNat 0).map int);rw[Jc];rfl
  .rintro d hm ρ ⟨x,rfl⟩
   obtain⟨z,hz,rfl⟩:=Qs.mp hm;have ht:=PX (each z hz).1 (each z hz).2;have hset:(xs++[x]).set 14 (O (Sl.pub (.int z)))=xs++[pb (.int z)]:=by rw[List.set_append_right _ _ (by lia),hxl];rfl
   have hget:(xs++[O (Sl.pub (.int z))])[14]?=O (O (Sl.pub (.int z))):=by rw[Qx (by lia),hxl];rfl
   refine⟨_,US (by rw[Qh,hxl];exact Qa AV) hset,rfl,λ_=>?_,pb (.int z),?_⟩
   .exact UZ (KW (UG UK (UG UK (UG UK (UG UK (UG UK (UG UK (UG UK (UG UK (UG UK (UG UK (UG UK UL))))))))))) (Qa AV)) (UH hget) ht.1
   .unfold U4 at hx⊢
    rw[Q3,hx];rfl
  .exact⟨AW,rfl⟩
  .rw[Qd,jc,QO];lia
 refine U5 (ZV (Yh (Ze (VX (UH AV) (Wg UK) (Wg (UZ UK (Kw AV UK x0) Zq)) (by rw[T9,hcut])) Ov) (hc _ AV AV)) (Qa AV) AV) ?_;refine U5 (ZV (WF UL (Qa AV)) (Qa AV) AV) ?_;apply Kv;apply YJ (Sz T A R (.list (ns.map int)) (.list (ds.map int)) at_ n cs)
 case h1=>exact V7 (UG (UZ UK (Kw AV UK x1) Zq) UL) (Td (by lia) (by lia))
 case h0=>exact⟨[],_,_,_,_,_,_,rfl,rfl,λ_ h=>by cases h⟩
 case hst=>exact λi d ρ e h=>Aa hns hT hR hcl (by lia) (by lia) e h
 case hend=>rintro ρ ⟨ls,y9,y10,y11,y12,y13,y14,rfl,hll,hg⟩;rw[WM]at hll;refine KI (KL (Z2 (UG (Yo rfl rfl) (UG (Yo rfl rfl) UL)) (Qa rfl)) ⟨_,rfl,cs,ls,rfl,⟨?_,by lia,by lia,λrs hrs=>(hg rs hrs).2⟩⟩);exact⟨by lia,by lia,λc hc=>by obtain⟨z,hz,rfl⟩:=Qs.mp hc;exact(PX (each z hz).1 (each z hz).2).2,by lia,by lia,λrs hrs=>by rw[hcl];exact(hg rs hrs).1⟩
noncomputable def U6:A9->D
 |none=>.none
 |some t=>.int t
noncomputable def Kq(ws:LO):D:=.list (ws.map U6)
structure Deal(cs:A1)(ls:L3)(ws:LO):Prop where
 len:ws.length=ls.length
 wish:∀(i:Nat) t rs,ws[i]?=O (O t)->ls[i]?=O rs->t∈rs.flatten
 cop:∀(k:Nat) c,cs[k]?=O c->((ws.count (O (k:Int)):Nat):Int)<=c
theorem EQ(ws:LO):Us (ws.map U6)=AX:=Xl λx hx=>by obtain⟨y,_,rfl⟩:=Qs.mp hx;cases y<;>rfl
theorem EO{f:M AZ}{k:Nat}{s:D->UB->A7}{t:M Bool}{g:M D}{ρ ρ1:UB}{ds es:AZ}(h1:f ρ=.ok ds ρ1)(h2:K3 s t g ds (KR ρ1++Um k AW) []=O es)(h3:es.all flat=AX):V0 f k s t g ρ=.ok es ρ1:=by unfold V0;rw[h1];dsimp only;rw[h2];dsimp only;rw[if_pos h3]
theorem Cz{cs:A1}{ls:L3}{rs:List A1}{i:Nat}(hi:ls[i]?=O rs)(hl:rs.flatten.length<64):XX [UU cs ls,.int i]=O (.list ((Ye rs.flatten).map int)):=by
 refine ZC (ρ:=[pb (UU cs ls),pb (.int i)]) AV ?_;unfold W2;have i1:oIx (UU cs ls) (.int 1)=O (.list (ls.map UP)):=K8 (j:=1) AV;have i2:oIx (.list (ls.map UP)) (.int i)=O (UP rs):=K8 (by rw[QC,hi];rfl)
 have hs:Vh [UP rs,.list []]=O (.list (rs.flatten.map int)):=by
  have e:UP rs=.list ((rs.map λr=>r.map int).map Uo):=by unfold UP;rw[Jc];rfl
  have e2:(rs.map λr=>r.map int).flatten=rs.flatten.map int:=by rw[List.map_flatten]
  rw[e];unfold Vh;dsimp only;rw[Bv];dsimp only;rw[e2,Qp (by rw[Qd];lia)]
 exact KL (Zi (UG (Zi (UG (UZ (Kw AV UK i1) (UH AV) i2) (UG (KW UL (Qa AV)) UL)) hs) UL) (BZ hl)) AV
structure WC(cs:A1)(ls:L3)(lf:A1)(ws:LO):Prop where
 wish:∀(i:Nat) t rs,ws[i]?=O (O t)->ls[i]?=O rs->t∈rs.flatten
 len:lf.length=cs.length
 cop:∀(k:Nat) c,cs[k]?=O c->lf[k]?=O (c-((ws.count (O (k:Int)):Nat):Int))/\0<=c-((ws.count (O (k:Int)):Nat):Int)
theorem Nn{ls:L3}{ws:LO}{o:A9}{rs:List A1}(h:∀(i:Nat) t rs,ws[i]?=O (O t)->ls[i]?=O rs->t∈rs.flatten)(hi:ls[ws.length]?=O rs)(ho:∀t,o=O t->t∈rs.flatten) :
  ∀(i:Nat) t rs,(ws++[o])[i]?=O (O t)->ls[i]?=O rs->t∈rs.flatten:=by
 intro j t rs' e1 e2;by_cases hj:j<ws.length
 .rw[Qv hj]at e1;exact h j t rs' e1 e2
 .by_cases hj2:j=ws.length
  .subst hj2
   rw[hi]at e2;cases e2;rw[Qx (Qq _),Nat.sub_self,List.getElem?_cons_zero]at e1;cases e1;exact ho t AV
  .rw[Jx (by rw[Qh,QZ];lia)]at e1
   cases e1
theorem WC.none{cs:A1}{ls:L3}{lf:A1}{ws:LO}{rs:List A1}(d:WC cs ls lf ws)(hi:ls[ws.length]?=O rs):WC cs ls lf (ws++[Option.none]) where
 wish:=Nn d.wish hi λt e=>by cases e
 len:=d.len
 cop:=λk c e=>by rw[List.count_append];simpa using d.cop k c e
theorem WC.give{cs:A1}{ls:L3}{lf:A1}{ws:LO}{rs:List A1}{t v:Int}(d:WC cs ls lf ws)(hi:ls[ws.length]?=O rs)(ht:t∈rs.flatten)(h0:0<=t)(hv:lf[t.toNat]?=O v)(hp:0<v):WC cs ls (lf.set t.toNat (v-1)) (ws++[O t]) where
 wish:=Nn d.wish hi λt' e=>by cases e;exact ht
 len:=by rw[QW];exact d.len
 cop:=λk c e=>by
  obtain⟨h1,h2⟩:=d.cop k c e;rw[List.count_append];by_cases hk:t=(k:Int)
  .subst hk
   rw[JE]at hv⊢;rw[h1]at hv;cases hv;have hl:k<lf.length:=(Qr.mp h1).1;rw[QJ hl];simp only[List.count_singleton_self];refine⟨by congr 1;lia,by lia⟩
  .have hne:t.toNat≠k:=by lia
   rw[Ql hne];have:List.count (O (k:Int)) [O t]=0:=by rw[List.count_eq_zero];intro z;have:=QL.mp z;exact hk (Je this).symm
   rw[this];exact⟨h1,h2⟩
theorem L6{os:LO}{k:Nat}(h:k<os.length):oIx (.list (os.map U6)) (.int k)=O (U6 os[k]):=K8 (by rw[QC,Qm h];rfl)
theorem OW{ws:LO}{o:A9}:(ws++[o]).map U6=ws.map U6++[U6 o]:=by rw[Q3];rfl
def WT(cs:A1)(ls:L3)(c s:D)(dg:A1)(i:Nat)(ρ:UB):Prop:=∃(lf:A1)(ws:LO)(x6 x7 x8:Option Sl),
 ρ=[pb (UU cs ls),pb c,pb s,O (.own (lf.map int)),pb (.list (dg.map int)),O (.own (ws.map U6)),x6,x7,x8]/\ws.length=i/\WC cs ls lf ws
theorem BP{cs:A1}{ls:L3}{c s:D}{dg:A1}{i:Nat}{d:D}{ρ:UB}{Q:Out->Prop}(g:Good cs ls)(hdl:dg.length=ls.length)(hd0:∀x∈dg,0<=x)(hi:(Zg 0 ls.length)[i]?=O d)(h:WT cs ls c s dg i ρ) :
  ∃ρ2,gN 6 d ρ=O ρ2/\Ho S2 ρ2 (Vg (WT cs ls c s dg (i+1)) Q):=by
 obtain⟨lf,ws,x6,x7,x8,rfl,hw,dl⟩:=h;obtain⟨rfl,hlt⟩:=Te hi;have jP:i<ls.length:=by omega
 have hls:ls[i]?=O ls[i]:=Qm jP;have gr:=g.rk _ (QX hls);have hfl:=Ta gr;refine⟨_,US (Qa AV) AV,?_⟩;unfold S2;rw[Int.zero_add];generalize hrs:ls[i]=rs at *;have hmem:∀t∈Ye rs.flatten,t∈rs.flatten:=λt ht=>(Tf _).mem_iff.mp ht
 have hthere:∀t∈rs.flatten,0<=t/\t<lf.length:=λt ht=>by obtain⟨r,hr,htr⟩:=List.mem_flatten.mp ht;have:=gr.there r hr t htr;rw[dl.len];exact this
 let L:=(Ye rs.flatten).filter λt=>decide (0<lf.getD t.toNat 0)
 have hc:K3 (gN 9) (UJ (oIB λi j=>decide (j<i)) (UR 3 (UC 9)) (UF (.int 0))) (UC 9) ((Ye rs.flatten).map int) (KR [pb (UU cs ls),pb c,pb s,O (.own (lf.map int)),pb (.list (dg.map int)),O (.own (ws.map U6)),pb (.int (i:Int)),x7,x8]++Um 1 AW) []=O (L.map int):=by
  rw[Wj (λd=>match d with | .int t=>decide (0<lf.getD t.toNat 0)|_=>AY) (λd=>d) (λρ=>∃x y7 y8,ρ=[pb (UU cs ls),pb c,pb s,pb (.list (lf.map int)),pb (.list (dg.map int)),pb (.list (ws.map U6)),pb (.int (i:Int)),y7,y8,x])]
  .rw[JF,List.map_id',List.filter_map]
   rfl
  .rintro d hm ρ ⟨x,y7,y8,rfl⟩
   obtain⟨t,ht,rfl⟩:=Qs.mp hm;obtain⟨h0,h1⟩:=hthere t (hmem t ht);obtain⟨k,rfl⟩:∃k:Nat,t=k:=⟨t.toNat,by omega⟩
   refine⟨_,US (Qa AV) AV,UZ (Kw AV (UH AV) (SZ (by omega))) UK AV,λ_=>UH AV,pb (.int k),YY y7,YY y8,rfl⟩
  .exact⟨AW,SL x7,SL x8,rfl⟩
  .rw[Qd,QO,(Tf _).length_eq];have:=g.c6;omega
 have hLl:L.length<=6:=by have:L.length<=(Ye rs.flatten).length:=List.length_filter_le _ _;rw[(Tf _).length_eq]at this;have:=g.c6;omega
 have hadd:UQ (.list (L.map int)) (.list [.none])=O (.list ((L.map O++[AW]).map U6)):=by rw[YE (by rw[Qd];show L.length+1<=_;omega),Q3,Jc];rfl
 refine U5 (K9 (UZ (KE (EO (Ze (Kk (UG (UH AV) (UG (UH AV) UL)) AV (Cz (cs:=cs) hls (by have:=g.c6;omega))) Ov) hc (by rw[List.all_map,Q2];exact λ_ _=>rfl))) (KW (UG UK UL) (Qa AV)) hadd) (Qa AV) AV) ?_;have hol:(L.map O++[AW]:LO).length=L.length+1:=by rw[Qh,Qd];rfl
 have hlen:U0 [.list ((L.map O++[AW]:LO).map U6)]=O (.int ((L.length+1:Nat):Int)):=by rw[KS,Qd,hol]
 have hdi:dg[i]?=O dg[i]:=Qm (by omega);have hx0:=hd0 _ (QX hdi);have hix:oIx (.list (dg.map int)) (.int (i:Int))=O (.int dg[i]):=K8 (by rw[QC,hdi];rfl);have hm0:0<=dg[i] % ((L.length+1:Nat):Int):=Int.emod_nonneg _ (by omega);have hm1:dg[i] % ((L.length+1:Nat):Int)<((L.length+1:Nat):Int):=Int.emod_lt_of_pos _ (by omega);obtain⟨k,hk⟩:∃k:Nat,dg[i] % ((L.length+1:Nat):Int)=k:=⟨(dg[i] % ((L.length+1:Nat):Int)).toNat,by omega⟩
 have hkl:k<(L.map O++[AW]:LO).length:=by rw[hol];omega
 have qQ:=L6 (os:=L.map O++[AW]) hkl;rw[←hk]at qQ;generalize ho:(L.map O++[AW]:LO)[k]=o at qQ;refine U5 (K9 (Kw AV (UZ (Kw AV (UH AV) hix) (Zd AV hlen) (WE (by omega))) qQ) (Qa AV) AV) ?_;have ju:(ws.map U6).length<1000000:=by rw[Qd];have:=g.l7;omega
 have jM:ls[ws.length]?=O rs:=by rw[hw];exact hls
 cases o with
 |none=>
  apply Kv;apply Kl
  case h1=>exact R7 (UH AV) AV
  case h2=>intro hh;cases hh
  case h3=>intro _;refine Ky (KI ?_);refine KJ (Wd AV (UH AV) AV ju AV) ?_;exact Z1 ⟨lf,ws++[AW],_,_,_,by rw[OW (ws:=ws)];rfl,by rw[Qh,hw];rfl,dl.none jM⟩
 |some t=>
  have htL:t∈L:=by
   have hm:O t∈(L.map O++[AW]:LO):=ho ▸ JT hkl;rcases QE.mp hm with z|z
   .obtain⟨t',h1,h2⟩:=Qs.mp z
    cases h2;exact h1
   .cases QL.mp z
  obtain⟨htm,htp⟩:=List.mem_filter.mp htL;have htf:=hmem t htm;obtain⟨h0,h1⟩:=hthere t htf;have hv:lf[t.toNat]?=O lf[t.toNat]:=Qm (by omega);have hvd:lf.getD t.toNat 0=lf[t.toNat]:=by simp[List.getD,hv]
  have hpos:0<lf[t.toNat]:=by rw[hvd]at htp;simpa using htp
  have hvx:oIx (.list (lf.map int)) (.int t)=O (.int lf[t.toNat]):=LS h0 (by rw[QC,hv];rfl);apply Kv;apply Kl
  case h1=>exact R7 (UH AV) AV
  case h2=>intro _;refine KJ (Fd (UZ (Px AV (UH AV) AV hvx) UK Ox) AV (UH AV) AV ⟨h0,by rw[Qd];exact h1⟩ AV) ?_;refine KI ?_;refine KJ (Wd AV (UH AV) AV ju AV) ?_;exact Z1 ⟨lf.set t.toNat (lf[t.toNat]-1),ws++[O t],_,_,_,by rw[OW (ws:=ws),←DN];rfl,by rw[Qh,hw];rfl,dl.give jM htf h0 hv hpos⟩
  case h3=>intro hh;cases hh
theorem Nw{cs:A1}{ls:L3}(g:Good cs ls)(c s:Int):∃r,YV [UU cs ls,.int c,.int s]=O r/\∃ws,r=Kq ws/\Deal cs ls ws:=by
 refine TQ (ρ:=[pb (UU cs ls),pb (.int c),pb (.int s),AW,AW,AW,AW,AW,AW]) AV ?_;unfold W1;have i0:oIx (UU cs ls) (.int 0)=O (.list (cs.map int)):=K8 (j:=0) AV;have i1:oIx (UU cs ls) (.int 1)=O (.list (ls.map UP)):=K8 (j:=1) AV;have hlen:U0 [.list (ls.map UP)]=O (.int ls.length):=by rw[KS,Qd]
 refine U5 (ZV (Kh (UG (Kw AV UK i0) UL) (Zp (show X2 [.list (cs.map int)]=O (cs.map int)from rfl))) (Qa AV) AV) ?_
 have hmul:Ke (.list [.int 61]) (.int ls.length)=O (.list ((Um ls.length (61:Int)).map int)):=by
  rw[NE ⟨by omega,by have:=g.l7;omega,by show 1*_<=_;have:=g.l7;omega⟩]
  congr 2
  rw[JE];generalize ls.length=n;induction n with
  |zero=>rfl
  |succ n ih=>rw[Jb,QS,ih,Jb,QN];rfl
 obtain⟨r,hF,dg,rfl,hdl,hdb⟩:=Sn c s (sizes:=Um ls.length (61:Int)) (λx hx=>by rw[(List.mem_replicate.mp hx).2];decide) (by rw[QY];have:=g.l7;omega);rw[QY]at hdl;refine U5 (K9 (Kk (UG (UH AV) (UG (UH AV) (UG (UZ (KW (UG UK UL) (Qa AV)) (Zi (UG (Kw AV UK i1) UL) hlen) hmul) UL))) AV hF) (Qa AV) AV) ?_;refine U5 (ZV (WF UL (Qa AV)) (Qa AV) AV) ?_;apply Kv;apply YJ (WT cs ls (.int c) (.int s) dg)
 case h1=>exact V7 (UG (Zi (UG (Kw AV UK i1) UL) hlen) UL) (Td (by have:=g.l7;omega) (by omega))
 case h0=>exact⟨cs,[],_,_,_,rfl,rfl,⟨λ_ _ _ h=>(by cases h),rfl,λk c e=>by have:=g.c7 c (QX e);simp only[List.count_nil];exact⟨by rw[e];congr 1;omega,by omega⟩⟩⟩
 case hst=>exact λi d ρ e h=>BP g hdl (λx hx=>by obtain⟨j,hj,e⟩:=List.mem_iff_getElem.mp hx;exact(hdb j x 61 (by rw[Qm hj,e]) (by rw[QF,Qp (by omega)])).1) e h
 case hend=>rintro ρ ⟨lf,ws,x6,x7,x8,rfl,hw,dl⟩;rw[WM]at hw;refine KI (KL (Yo rfl rfl) ⟨_,rfl,ws,rfl,⟨by omega,dl.wish,λk c e=>by have:=(dl.cop k c e).2;omega⟩⟩)
theorem EN(ws:LO):(Kq ws).depth<=2:=Vv (Xk λx hx=>by obtain⟨y,_,rfl⟩:=Qs.mp hx;cases y<;>simp[U6,Ut])
theorem Oe(ws:LO):oNe (Kq ws) (Kq ws)=O AY:=by unfold oNe;have h:(Kq ws).canLay0=AX:=EQ ws;rw[Qp ⟨h,h,by have:=EN ws;omega⟩,T7 _ h];rfl
theorem RC{B:Nat}:∀{xs:AZ},(∀x∈xs,PyData.leavesShort B x=AX)->PyData.leavesShortAll B xs=AX
 |[],_=>rfl
 |x::xs,h=>by rw[PyData.leavesShortAll,h x Qg,RC λy hy=>h y (Qj _ hy)];rfl
theorem Rw:∀{xs:AZ},(∀x∈xs,PyData.showable x=AX)->PyData.showableAll xs=AX
 |[],_=>rfl
 |x::xs,h=>by rw[PyData.showableAll,h x Qg,Rw λy hy=>h y (Qj _ hy)];rfl
theorem Rv{n:Nat}:∀{xs:AZ},(∀x∈xs,PyData.bulk x<=n)->PyData.bulkAll xs<=xs.length*(n+1)
 |[],_=>by simp[PyData.bulkAll]
 |x::xs,h=>by have h1:=h x Qg;have h2:=Rv (xs:=xs) λy hy=>h y (Qj _ hy);rw[PyData.bulkAll,QK,Nat.succ_mul];omega
theorem ten{i:Int}(h:0<=i/\i<10):(int i).leavesShort 8=AX/\(int i).showable=AX:=by
 have:i=0∨i=1∨i=2∨i=3∨i=4∨i=5∨i=6∨i=7∨i=8∨i=9:=by omega
 rcases this with rfl|rfl|rfl|rfl|rfl|rfl|rfl|rfl|rfl|rfl<;>decide +kernel
theorem WO{a b:Str}(h1:Ur a=AX)(h2:Ur b=AX):Ur (a++b)=AX:=by unfold Ur at *;rw[PySem.Str.cps_append,Array.all_append,h1,h2];rfl
theorem Mc:∀(ts:List Str)(k:Nat)(acc:Str),Ur acc=AX->(∀t∈ts,Ur t=AX)->Ur (textFrom k acc ts)=AX
 |[],k,acc,h,_=>h
 |t::r,k,acc,h,ht=>by
  refine Mc r (k+1) _ (WO (WO h ?_) (ht t Qg)) λx hx=>ht x (Qj _ hx)
  split<;>decide +kernel
theorem NV:∀{xs:AZ}{t:Str},t∈PyData.shownAll xs->∃x∈xs,t=x.shown
 |[],t,h=>by cases h
 |x::xs,t,h=>by
  rw[PyData.shownAll]at h;rcases QM.mp h with h|h
  .exact⟨x,Qg,h⟩
  .obtain⟨y,hy,e⟩:=NV h
   exact⟨y,Qj _ hy,e⟩
theorem Az{xs:AZ}(h:∀x∈xs,Ur x.shown=AX):Ur (Uo xs).shown=AX:=by show Ur (textFrom 0 "[" (PyData.shownAll xs) ++ "]")=AX;exact WO (Mc _ _ _ (by decide +kernel) λt ht=>by obtain⟨x,hx,rfl⟩:=NV ht;exact h x hx) (by decide +kernel)
theorem Hz{i:Int}(h:0<=i/\i<10):Ur (int i).shown=AX:=by
 have:i=0∨i=1∨i=2∨i=3∨i=4∨i=5∨i=6∨i=7∨i=8∨i=9:=by omega
 rcases this with rfl|rfl|rfl|rfl|rfl|rfl|rfl|rfl|rfl|rfl<;>decide +kernel
theorem EM{xs:AZ}{a b:A9}:(DL.cutD xs a b).length<=xs.length:=by
 unfold DL.cutD;rw[JI,JY]
 lia
theorem EL{xs:AZ}{a b:A9}{x:D}(h:x∈DL.cutD xs a b):x∈xs:=by unfold DL.cutD at h;exact List.mem_of_mem_drop (List.mem_of_mem_take h)
theorem Cy{ns:A1}{n:Int}{a b:A9}{i:Nat}{x:D}(h:(int n::DL.cutD (ns.map int) a b)[i]?=O x):∃c:Int,x=.int c:=by
 have hm:=QX h;rcases QM.mp hm with rfl|hm
 .exact⟨n,rfl⟩
 .obtain⟨c,_,rfl⟩:=Qs.mp (EL hm)
  exact⟨c,rfl⟩
theorem Cw{ns:A1}{n:Int}{a b:A9}(h:ns.length<=1000):UQ (.list [.int n]) (.list (DL.cutD (ns.map int) a b))=O (.list (int n::DL.cutD (ns.map int) a b)):=YE (by
 have:=EM (xs:=ns.map int) (a:=a) (b:=b);rw[Qd]at this;show 1+_<=_
 lia)
noncomputable def whB:D->Bool
 |.int _=>AX
 |_=>AY
noncomputable def KQ(n:Int):D->Bool
 |.int i=>decide (0<=i)&&decide (i<n)
 |_=>AY
noncomputable def rkB(n:Int):D->Bool
 |.list (x::xs)=>(x::xs).all (KQ n)
 |_=>AY
noncomputable def whI:D->A9
 |.int i=>O i
 |_=>AW
noncomputable def itI:D->A1
 |.list xs=>xs.filterMap whI
 |_=>[]
noncomputable def flI(rs:AZ):A1:=rs.flatMap itI
noncomputable def Zw(n:Int):D->Bool
 |.list rs=>decide (rs.length<=5)&&(rs.all (rkB n)&&decide (flI rs).Nodup)
 |_=>AY
theorem Sh(n:Int)(rs:AZ):Zw n (.list rs)=(decide (rs.length<=5)&&(rs.all (rkB n)&&decide (flI rs).Nodup)):=rfl
theorem Nm(d:D):YX [d]=O (.bool (whB d)):=by
 cases d with
 |dict kvs=>exact ZC (ρ:=[pb (.dict kvs)]) AV (KL (V5 (t:=AY) (u:=AY) (LB (UH AV)) λz=>by cases z) AV)
 |_=>rfl
theorem Nl(d:D)(n:Int):Zc [d,.int n]=O (.bool (KQ n d)):=by
 refine ZC (ρ:=[pb d,pb (.int n)]) AV ?_;unfold XG;cases d with
 |int i=>exact KL (V5 (t:=AX) (u:=decide (0<=i)&&decide (i<n)) (Kk (UG (UH AV) UL) AV (Nm (.int i))) (λ_=>KE (VE UK (UH AV) AV (λ_=>UH AV) (λ_=>rfl)))) AV
 |_=>exact KL (V5 (t:=AY) (u:=AY) (Kk (UG (UH AV) UL) AV (Nm _)) (λz=>by cases z)) AV
theorem EK{n:Int}{d:D}(h:KQ n d=AX):∃i,d=.int i/\0<=i/\i<n:=by
 cases d with
 |int i=>have h:(decide (0<=i)&&decide (i<n))=AX:=h;simp only[Qw,Q5]at h;exact⟨i,rfl,h⟩
 |_=>cases h
theorem OV{n:Int}:∀{xs:AZ},xs.all (KQ n)=AX->xs=(xs.filterMap whI).map int
 |[],_=>rfl
 |x::r,h=>by rw[JB,Qw]at h;obtain⟨i,rfl,_⟩:=EK h.1;have ih:=OV h.2;show _=(i::r.filterMap whI).map int;rw[QN,←ih]
theorem Hy{n:Int}{d:D}(h:rkB n d=AX):d=.list ((itI d).map int):=by
 cases d with
 |list xs=>
  cases xs with
  |nil=>cases h
  |cons x r=>exact J6 Uo (OV h)
 |_=>cases h
theorem Nk{q:D->Bool}(xs:AZ):ZL [.list (xs.map λd=>.bool (q d))]=O (.bool (xs.all q)):=by
 have:(xs.map λd=>Up (q d))=(xs.map q).map Up:=by rw[Jc];rfl
 rw[this,Ou]
 congr 2
 rw[List.all_map];rfl
theorem Ak{d:D}{n:Int}(hl:∀xs,d=.list xs->xs.length<=700):Z9 [d,.int n]=O (.bool (rkB n d)):=by
 refine ZC (ρ:=[pb d,pb (.int n)]) AV ?_;unfold XF;apply Kv;cases d with
 |list xs=>
  have hl:=hl xs AV;apply Kl (b:=decide ((xs.length:Int)=0))
  case h1=>exact Yi (ρ1:=[pb (.list xs),pb (.int n)]) (ZF (UH AV) AV) (UZ (Zd AV KS) UK V4)
  case h2=>
   intro hh;have:(xs.length:Int)=0:=by simpa using hh
   have e:xs=[]:=List.eq_nil_of_length_eq_zero (by lia);subst e;exact KL UK (Y8 AV)
  case h3=>
   intro hh;have hne:¬(xs.length:Int)=0:=by simpa using hh
   refine Ky (KI ?_)
   have hc:K3 (gN 2) (UF AX) (UT 2 Zc (UE (UC 2) (UE (UC 1) (UD)))) xs (U4 [pb (.list xs),pb (.int n)]++Um 1 AW) []=O (xs.map λd=>.bool (KQ n d)):=by
    rw[Wj (λ_=>AX) (λd=>.bool (KQ n d)) (λρ=>∃x,ρ=[pb (.list xs),pb (.int n),x])]
    .rw[JQ.mpr (λ_ _=>rfl),JF]
    .rintro d hm ρ ⟨x,rfl⟩
     exact⟨_,US (Qa AV) AV,rfl,λ_=>Kk (UG (UH AV) (UG (UH AV) UL)) AV (Nl d n),_,rfl⟩
    .exact⟨AW,rfl⟩
    .rw[QO];lia
   refine KL (Zi (UG (KE (Yh (Ze (UH AV) AV) hc)) UL) (Nk xs)) ?_;cases xs with
   |nil=>exact absurd AV hne
   |cons x r=>rfl
 |dict kvs=>exact Kl (b:=AX) (Y2 (V2 (UH AV))) (λ_=>KL UK (Y8 AV)) (λz=>by cases z)
 |_=>exact Kl (b:=AX) (Y2 (ZF (UH AV) AV)) (λ_=>KL UK (Y8 AV)) (λz=>by cases z)
theorem Cv{ns:A1}:∀i,(PyProof.Rows.firstMet (λi=>ns.getD i 0) i).length<=i:=by
 intro i;induction i with
 |zero=>exact Qq _
 |succ i ih=>
  rw[PyProof.Rows.firstMet_succ];unfold PyProof.Rows.step_dedup;split
  .lia
  .rw[Qh,QZ];lia
theorem As{ns:A1}(h:Y3 ns=ns.length):ns.Nodup:=by
 unfold Y3 at h
 have key:∀i,i<=ns.length->(PyProof.Rows.firstMet (λi=>ns.getD i 0) i).length=i->(ns.take i).Nodup:=by
  intro i;induction i with
  |zero=>intro _ _;simp
  |succ i ih=>
   intro hi e;rw[PyProof.Rows.firstMet_succ]at e;unfold PyProof.Rows.step_dedup at e;cases hany:(PyProof.Rows.firstMet (λi=>ns.getD i 0) i).any (· == ns.getD i 0)with
   |true=>
    rw[hany,Qp AV]at e;have:=Cv (ns:=ns) i
    lia
   |false=>
    rw[hany,Qz (by decide),Qh]at e;have e:(PyProof.Rows.firstMet (λi=>ns.getD i 0) i).length=i:=by simpa using e
    have ih:=ih (by lia) e;rw[List.take_succ_eq_append_getElem (by lia),List.nodup_append];refine⟨ih,by simp,λa ha b hb=>?_⟩;rw[QL]at hb;subst hb;rw[PyProof.Rows.firstMet_any,List.any_eq_false]at hany;obtain⟨j,hj,rfl⟩:=List.mem_take_iff_getElem.mp ha;have hj':j<i:=by have:=hj;lia
    have:=hany (ns.getD j 0) (List.mem_map.mpr ⟨j,Jt.mpr hj',rfl⟩);have l1:j<ns.length:=by lia
    have l2:i<ns.length:=by lia
    simp only[List.getD,Qm l1,Qm l2,JS,beq_iff_eq]at this;exact this
 have:=key ns.length (Qq _) h;rwa[J0]at this
theorem Cu{ns:A1}(h:ns.length<=3500):∃u:Nat,Wh [.list (ns.map int)]=O (.int u)/\decide ((u:Int)=ns.length)=decide ns.Nodup:=by
 refine⟨Y3 ns,?_,?_⟩
 .unfold Wh
  dsimp only;rw[RI];dsimp only;rw[Qp (by lia)]
 .by_cases e:ns.Nodup
  .rw[Nx e,decide_eq_true e];simp
  .rw[Qy e,Qy]
   intro z;exact e (As (by lia))
def Vd(d:D):Prop:=∀rs,d=.list rs->∀xs,.list xs∈rs->xs.length<=700
theorem Mb{n:Int}:∀{rs:AZ},rs.all (rkB n)=AX->(∀xs,.list xs∈rs->xs.length<=700)->∃ls:List A1,rs=ls.map U1/\flI rs=ls.flatten/\ls.flatten.length<=700*rs.length
 |[],_,_=>⟨[],rfl,rfl,by simp⟩
 |d::r,h,hs=>by
  rw[JB,Qw]at h;obtain⟨ls,e1,e2,e3⟩:=Mb h.2 λxs hx=>hs xs (Qj _ hx)
  have hd:=Hy h.1;have hl:=hs ((itI d).map int) (by rw[←hd];exact Qg);rw[Qd]at hl;refine⟨itI d::ls,?_,?_,?_⟩
  .rw[QN,←e1]
   exact J6 (· :: r) hd
  .show itI d++flI r=_
   rw[e2,QS]
  .rw[QS,Qh,QK];lia
theorem Ar{d:D}{n:Int}(hs:Vd d):Z8 [d,.int n]=O (.bool (Zw n d)):=by
 refine ZC (ρ:=[pb d,pb (.int n),AW]) AV ?_;unfold XE;apply Kv;cases d with
 |list rs=>
  have hs:=hs rs AV;apply Kl (b:=decide ((5:Int)<rs.length))
  case h1=>exact Yi (ρ1:=[pb (.list rs),pb (.int n),AW]) (ZF (UH AV) AV) (UZ (Zd AV KS) UK AV)
  case h2=>
   intro hh;have:(5:Int)<(rs.length:Int):=by simpa using hh
   refine KL UK (Y8 ?_);rw[Sh,Qy (by lia:¬rs.length<=5)];rfl
  case h3=>
   intro hh;have h5:¬(5:Int)<(rs.length:Int):=by simpa using hh
   refine Ky (KI ?_)
   have hc:K3 (gN 3) (UF AX) (UT 2 Z9 (UE (UC 3) (UE (UC 1) (UD)))) rs (U4 [pb (.list rs),pb (.int n),AW]++Um 1 AW) []=O (rs.map λd=>.bool (rkB n d)):=by
    rw[Wj (λ_=>AX) (λd=>.bool (rkB n d)) (λρ=>∃x,ρ=[pb (.list rs),pb (.int n),AW,x])]
    .rw[JQ.mpr (λ_ _=>rfl),JF]
    .rintro d hm ρ ⟨x,rfl⟩
     exact⟨_,US (Qa AV) AV,rfl,λ_=>Kk (UG (UH AV) (UG (UH AV) UL)) AV (Ak (λxs e=>hs xs (by rw[←e];exact hm))),_,rfl⟩
    .exact⟨AW,rfl⟩
    .rw[QO];lia
   apply Kv;apply Kl
   case h1=>exact YB (Wl (Zi (UG (KE (Yh (Ze (UH AV) AV) hc)) UL) (Nk rs)))
   case h2=>
    intro hh;have e:rs.all (rkB n)=AY:=by simpa using hh
    refine KL UK (Y8 ?_);rw[Sh,e,Bool.false_and,Bool.and_false]
   case h3=>
    intro hh;have e:rs.all (rkB n)=AX:=by simpa using hh
    refine Ky (KI ?_);obtain⟨ls,e1,e2,e3⟩:=Mb e hs;have hfl:ls.flatten.length<=3500:=by lia
    subst e1;have h2:Wy (Km (UC 0)) 2 (gN 3) (UF AX) (Km (UC 3)) (gN 4) (UF AX) (UC 4) [pb (.list (ls.map U1)),pb (.int n),AW]=.ok (ls.flatten.map int) [pb (.list (ls.map U1)),pb (.int n),AW]:=by unfold Wy;have e1:Km (UC 0) [pb (.list (ls.map U1)),pb (.int n),AW]=.ok (ls.map U1) [pb (.list (ls.map U1)),pb (.int n),AW]:=Ze (UH AV) AV;rw[e1];dsimp only;have e2:=RD (a:=.list (ls.map U1)) (b:=.int n) ls [] AW AW (by rw[QO];lia);have e3:YD (gN 3) (UF AX) (Km (UC 3)) (gN 4) (UF AX) (UC 4) (ls.map U1) (U4 [pb (.list (ls.map U1)),pb (.int n),AW]++Um 2 AW) []=O ([]++ls.flatten.map int):=e2;rw[e3];rfl
    refine U5 (ZV h2 (Qa AV) AV) ?_;obtain⟨u,hu1,hu2⟩:=Cu hfl;refine KL (KE (UZ (Zi (UG (Yo AV AV) UL) hu1) (Zd AV KS) V4)) ?_;rw[Qd,hu2];rw[Sh,QG (by lia:(ls.map U1).length<=5),e,e2,J8,J8]
 |dict kvs=>exact Kl (b:=AX) (Y2 (V2 (UH AV))) (λ_=>KL UK (Y8 AV)) (λz=>by cases z)
 |_=>exact Kl (b:=AX) (Y2 (ZF (UH AV) AV)) (λ_=>KL UK (Y8 AV)) (λz=>by cases z)
noncomputable def KB:D->Option (Str×D)
 |.tuple [c,l]=>(match c with
  |.list cs=>if 1<=cs.length/\cs.length<=6 then(match fb (KQ 8) 0 cs with
    |some k=>O ("copies", .int k)
    |none=>(match l with
     |.list ls=>if 1<=ls.length/\ls.length<=7 then(match fb (Zw cs.length) 0 ls with
       |some k=>O ("lists", .int k)
       |none=>AW)else O ("lists", .none)
     |_=>O ("lists", .none)))else O ("copies", .none)
  |_=>O ("copies", .none))
 |_=>O ("wishes", .none)
noncomputable def Va(o:Option (Str×D)):XR:=match o with
 |none=>.val .none
 |some (p,n)=>.exc (exD "NoWishes" [.str p,n])
theorem Xi{p:Str}{n:D}(h1:p.length<=1000)(h2:Xc n=AX):Xb "NoWishes" [.str p,n]=O [.str p,n]:=by have e:K6 "NoWishes" = (["part", "number"]:List Str):=rfl;unfold Xb;rw[e];dsimp only;have h3:Xc (.str p)=AX:=QG h1;rw[Qp ⟨rfl,by rw[JB,JB,h2,h3];rfl⟩]
theorem Od{j:Nat}(h:j<1000000):Xc (.int j)=AX:=by
 unfold Xc;simp only[Qw,Q5]
 constructor<;>lia
noncomputable def K2(c:D):Option (Str×D):=match c with
 |.list cs=>if 1<=cs.length/\cs.length<=6 then(match fb (KQ 8) 0 cs with
  |some k=>O ("copies", .int k)
  |none=>AW)else O ("copies", .none)
 |_=>O ("copies", .none)
noncomputable def Zl(n:Int)(l:D):Option (Str×D):=match l with
 |.list ls=>if 1<=ls.length/\ls.length<=7 then(match fb (Zw n) 0 ls with
  |some k=>O ("lists", .int k)
  |none=>AW)else O ("lists", .none)
 |_=>O ("lists", .none)
theorem Sg{m:Nat}{k:Int}:(!(decide ((1:Int)<=m)&&decide ((m:Int)<=k)))=decide (¬(1<=m/\(m:Int)<=k)):=by
 by_cases h:(1:Int)<=m<;>by_cases h2:(m:Int)<=k
 .rw[QG h,QG h2,Qy (by lia)];rfl
 .rw[Qy h2,Bool.and_false,QG (by lia)];rfl
 .rw[Qy h,Bool.false_and,QG (by lia)];rfl
 .rw[Qy h,Bool.false_and,QG (by lia)];rfl
theorem Fk(d:D):Sv [d]=O (Va (K2 d)):=by
 refine Wq (ρ:=[pb d,AW,AW]) AV ?_;unfold R4;apply Kv;cases d with
 |list cs=>
  apply Kl
  case h1=>exact Yi (ρ1:=[pb (.list cs),AW,AW]) (ZF (UH AV) AV) (YB (VE UK (Zd AV KS) AV (λ_=>UK) (λ_=>rfl)))
  case h2=>intro hh;rw[Sg]at hh;have hh:=Qa hh;refine KJ (Xn (UG UK (UG UK UL)) (Xi (by decide) AV)) (Yj ?_);unfold K2;dsimp only;rw[Qz (by lia)];exact⟨rfl,rfl⟩
  case h3=>
   intro hh;rw[Sg]at hh;have hh:=JA hh;have hl:1<=cs.length/\cs.length<=6:=by lia
   have ed:K2 (.list cs)=(match fb (KQ 8) 0 cs with
    |some k=>O ("copies", .int k)
    |none=>AW):=by unfold K2;dsimp only;rw[if_pos hl]
   refine Ky (KI ?_);rw[ed];refine O1 (xs:=cs) (KQ 8) (λρ=>∃x1 x2,ρ=[pb (.list cs),x1,x2]) (V6 (UG (UH AV) UL) Tc) ⟨_,_,rfl⟩ ?_ ?_
   .rintro x hx j ρ hj ⟨x1,x2,rfl⟩
    refine⟨_,KY AV (Kc (US (Qa AV) AV) (Kc (US (Qa AV) AV) KZ)),?_⟩;unfold MA;refine Kl (YB (Wl (Kk (UG (UH AV) (UG (UZ UK UK Zq) UL)) AV (Nl x 8)))) (λz=>?_) λz=>?_
    .refine KJ (Xn (UG UK (UG (UH AV) UL)) (Xi (by decide) (Od (by lia)))) (Pc (by simpa using z) λe=>?_)
     rw[e];exact⟨rfl,rfl⟩
    .exact Ky (Pd (by simpa using z) ⟨_,_,rfl⟩)
   .intro e ρ _
    rw[e];rfl
 |dict kvs=>exact Kl (b:=AX) (Y2 (V2 (UH AV))) (λ_=>KJ (Xn (UG UK (UG UK UL)) (Xi (by decide) AV)) (Yj ⟨rfl,rfl⟩)) (λz=>by cases z)
 |_=>exact Kl (b:=AX) (Y2 (ZF (UH AV) AV)) (λ_=>KJ (Xn (UG UK (UG UK UL)) (Xi (by decide) AV)) (Yj ⟨rfl,rfl⟩)) (λz=>by cases z)
theorem Hx{d:D}{n:Int}(hs:∀ls,d=.list ls->ls.length<=7->∀x∈ls,Vd x):Ss [d,.int n]=O (Va (Zl n d)):=by
 refine Wq (ρ:=[pb d,pb (.int n),AW,AW]) AV ?_;unfold RY;apply Kv;cases d with
 |list cs=>
  apply Kl
  case h1=>exact Yi (ρ1:=[pb (.list cs),pb (.int n),AW,AW]) (ZF (UH AV) AV) (YB (VE UK (Zd AV KS) AV (λ_=>UK) (λ_=>rfl)))
  case h2=>intro hh;rw[Sg]at hh;have hh:=Qa hh;refine KJ (Xn (UG UK (UG UK UL)) (Xi (by decide) AV)) (Yj ?_);unfold Zl;dsimp only;rw[Qz (by lia)];exact⟨rfl,rfl⟩
  case h3=>
   intro hh;rw[Sg]at hh;have hh:=JA hh;have hl:1<=cs.length/\cs.length<=7:=by lia
   have hs:=hs cs AV hl.2
   have ed:Zl n (.list cs)=(match fb (Zw n) 0 cs with
    |some k=>O ("lists", .int k)
    |none=>AW):=by unfold Zl;dsimp only;rw[if_pos hl]
   refine Ky (KI ?_);rw[ed];refine O1 (xs:=cs) (Zw n) (λρ=>∃x1 x2,ρ=[pb (.list cs),pb (.int n),x1,x2]) (V6 (UG (UH AV) UL) Tc) ⟨_,_,rfl⟩ ?_ ?_
   .rintro x hx j ρ hj ⟨x1,x2,rfl⟩
    refine⟨_,KY AV (Kc (US (Qa AV) AV) (Kc (US (Qa AV) AV) KZ)),?_⟩;unfold Mz;refine Kl (YB (Wl (Kk (UG (UH AV) (UG (UH AV) UL)) AV (Ar (n:=n) (hs x hx))))) (λz=>?_) λz=>?_
    .refine KJ (Xn (UG UK (UG (UH AV) UL)) (Xi (by decide) (Od (by lia)))) (Pc (by simpa using z) λe=>?_)
     rw[e];exact⟨rfl,rfl⟩
    .exact Ky (Pd (by simpa using z) ⟨_,_,rfl⟩)
   .intro e ρ _
    rw[e];rfl
 |dict kvs=>exact Kl (b:=AX) (Y2 (V2 (UH AV))) (λ_=>KJ (Xn (UG UK (UG UK UL)) (Xi (by decide) AV)) (Yj ⟨rfl,rfl⟩)) (λz=>by cases z)
 |_=>exact Kl (b:=AX) (Y2 (ZF (UH AV) AV)) (λ_=>KJ (Xn (UG UK (UG UK UL)) (Xi (by decide) AV)) (Yj ⟨rfl,rfl⟩)) (λz=>by cases z)
def Zx(d:D):Prop:=∀c ls,d=.tuple [c,.list ls]->ls.length<=7->∀x∈ls,Vd x
theorem Tg(c l:D):KB (.tuple [c,l])=(match K2 c with
  |some x=>O x
  |none=>(match c with | .list cs=>Zl cs.length l|_=>AW)):=by
 unfold KB K2 Zl;cases c with
 |list cs=>
  dsimp only;by_cases h:1<=cs.length/\cs.length<=6
  .rw[Qp h,Qp h]
   cases fb (KQ 8) 0 cs with
   |some k=>rfl
   |none=>cases l<;>rfl
  .rw[Qz h,Qz h]
 |_=>rfl
theorem Vs{d:D}(hs:Zx d):YM [d]=O (Va (KB d)):=by
 refine Wq (ρ:=[pb d,AW,AW]) AV ?_;unfold R3;apply Kv;have odd:∀{o:Out->Prop},Ho (Xj "NoWishes" (UE (UF (.str "wishes")) (UE (UF .none) (UD)))) [O (.pub d),AW,AW] (λz=>z=.ex [O (.pub d),AW,AW] (exD "NoWishes" [.str "wishes", .none])):=KJ (Xn (UG UK (UG UK UL)) (Xi (by decide) AV)) AV;cases d with
 |tuple xs=>
  by_cases hl:xs.length=2
  .obtain⟨c,l,rfl⟩:∃c l,xs=[c,l]:=by
    match xs,hl with
    |[c,l],_=>exact⟨c,l,rfl⟩
   apply Kl
   case h1=>exact Yi (ρ1:=[pb (.tuple [c,l]),AW,AW]) (ZF (UH AV) AV) (UZ (Zd AV AV) UK S9)
   case h2=>intro hh;cases hh
   case h3=>
    intro _;refine Ky (KI ?_);refine U5 (Wx (UH AV) (KY AV (Kc (US (Qa AV) AV) (Kc (US (Qa AV) AV) KZ)))) ?_;rw[Tg];have hc:=Fk c;cases z:K2 c with
    |some x=>obtain⟨p,n⟩:=x;rw[z]at hc;apply Kv;exact KJ (X7 (Z0 (UG (UH AV) UL) AV hc)) (Yj ⟨rfl,rfl⟩)
    |none=>
     rw[z]at hc
     obtain⟨cs,rfl⟩:∃cs,c=.list cs:=by
      unfold K2 at z;cases c with
      |list cs=>exact⟨cs,rfl⟩
      |_=>cases z
     refine U5 (Wr (Z0 (UG (UH AV) UL) AV hc) AV) ?_;have hL:=Hx (d:=l) (n:=cs.length) (λls e=>hs (.list cs) ls (by rw[e]));dsimp only;cases z2:Zl cs.length l with
     |some x=>obtain⟨p,n⟩:=x;rw[z2]at hL;exact KJ (X7 (Z0 (UG (UH AV) (UG (Zd AV KS) UL)) AV hL)) ⟨rfl,rfl⟩
     |none=>rw[z2]at hL;exact KJ (Wr (Z0 (UG (UH AV) (UG (Zd AV KS) UL)) AV hL) AV) AV
  .have hd:KB (.tuple xs)=O (("wishes" : Str),(.none:D)):=by
    unfold KB;split
    .rename_i h;cases h;exact absurd AV hl
    .rfl
   apply Kl
   case h1=>exact Yi (ρ1:=[pb (.tuple xs),AW,AW]) (ZF (UH AV) AV) (UZ (Zd AV DQ) UK S9)
   case h2=>intro _;refine V3 (odd (o:=λ_=>True)) λo e=>?_;subst e;exact Yj (by rw[hd];exact⟨rfl,rfl⟩)
   case h3=>
    intro hh;have:(xs.length:Int)=2:=by simpa using hh
    lia
 |dict kvs=>exact Kl (b:=AX) (Y2 (V2 (UH AV))) (λ_=>V3 (odd (o:=λ_=>True)) λo e=>by subst e;exact Yj ⟨rfl,rfl⟩) (λz=>by cases z)
 |_=>exact Kl (b:=AX) (Y2 (ZF (UH AV) AV)) (λ_=>V3 (odd (o:=λ_=>True)) λo e=>by subst e;exact Yj ⟨rfl,rfl⟩) (λz=>by cases z)
mutual
noncomputable def wB(n:Nat):D->Bool
 |.list xs=>decide (xs.length<=n)&&wBs n xs
 |.tuple xs=>decide (xs.length<=n)&&wBs n xs
 |_=>AX
noncomputable def wBs(n:Nat):AZ->Bool
 |[]=>AX
 |x::r=>wB n x&&wBs n r
end
theorem Rc{n:Nat}:∀{xs:AZ},wBs n xs=AX ↔ ∀x∈xs,wB n x=AX
 |[]=>by simp[wBs]
 |x::r=>by rw[wBs,Bool.and_eq_true,Rc (xs:=r)];simp
theorem WB{n:Nat}{xs:AZ}:wB n (.list xs)=AX ↔ xs.length<=n/\∀x∈xs,wB n x=AX:=by rw[wB,Qw,Q5,Rc]
theorem PV{n:Nat}{xs:AZ}:wB n (.tuple xs)=AX ↔ xs.length<=n/\∀x∈xs,wB n x=AX:=by rw[wB,Qw,Q5,Rc]
mutual
theorem Rb{n m:Nat}(h:n<=m):∀(d:D),wB n d=AX->wB m d=AX
 |.list xs,e=>by rw[wB,Qw,Q5]at e⊢;exact⟨Qt e.1 h,wBs_mono h xs e.2⟩
 |.tuple xs,e=>by rw[wB,Qw,Q5]at e⊢;exact⟨Qt e.1 h,wBs_mono h xs e.2⟩
 |.none,_=>rfl
 |.bool _,_=>rfl
 |.int _,_=>rfl
 |.str _,_=>rfl
 |.dict _,_=>rfl
theorem wBs_mono{n m:Nat}(h:n<=m):∀(xs:AZ),wBs n xs=AX->wBs m xs=AX
 |[],_=>rfl
 |x::r,e=>by rw[wBs,Qw]at e⊢;exact⟨Rb h x e.1,wBs_mono h r e.2⟩
end
theorem Fj{d:D}(h:wB 700 d=AX):Zx d:=λc ls e _ x hx rs e2 xs hxs=>by subst e;have h1:=(PV.mp h).2 (.list ls) (by simp);have h2:=(WB.mp h1).2 x hx;subst e2;exact(WB.mp ((WB.mp h2).2 _ hxs)).1
theorem Ct{cs:A1}{ls:L3}(g:Good cs ls):wB 7 (.list (cs.map int))=AX/\wB 7 (.list (ls.map UP))=AX:=by
 constructor
 .refine WB.mpr ⟨by rw[Qd];have:=g.c6;lia,λx hx=>?_⟩
  obtain⟨i,_,rfl⟩:=Qs.mp hx;rfl
 .refine WB.mpr ⟨by rw[Qd];exact g.l7,λx hx=>?_⟩
  obtain⟨rs,hrs,rfl⟩:=Qs.mp hx;have gr:=g.rk rs hrs;refine WB.mpr ⟨by rw[Qd];have:=gr.few;lia,λy hy=>?_⟩;obtain⟨r,hr,rfl⟩:=Qs.mp hy;have h1:r.length<=rs.flatten.length:=List.Sublist.length_le (JH hr);have h2:=Ta gr;have:=g.c6;refine WB.mpr ⟨by rw[Qd];lia,λz hz=>?_⟩;obtain⟨i,_,rfl⟩:=Qs.mp hz;rfl
theorem Fi{a b:Str}(ha:Ur a=AX)(hb:Ur b=AX):oEq (.str a) (.str b)=O (a==b):=by unfold oEq;rw[Qp ⟨ha,hb,O7⟩];rfl
theorem Fh{a b:Str}(ha:Ur a=AX)(hb:Ur b=AX):oNe (.str a) (.str b)=O (!(a==b)):=by unfold oNe;rw[Qp ⟨ha,hb,O7⟩];rfl
theorem T5{p:D->Bool}:∀{xs:AZ}{k:Nat},(∀x∈xs,p x=AX)->fb p k xs=AW
 |[],_,_=>rfl
 |x::r,k,h=>by unfold fb;rw[Qp (h x Qg)];exact T5 λy hy=>h y (Qj _ hy)
theorem Fg(rs:List A1):flI (rs.map U1)=rs.flatten:=by
 unfold flI;induction rs with
 |nil=>rfl
 |cons r t ih=>
  rw[QN,List.flatMap_cons,ih,QS]
  congr 1
  show(r.map int).filterMap whI=r
  rw[List.filterMap_map];show r.filterMap (λi=>O i)=r;simp
theorem Cs{n:Nat}{rs:List A1}(g:Y7 n rs):Zw n (UP rs)=AX:=by
 show Zw n (.list (rs.map U1))=AX;rw[Sh,Fg,QG g.once,Qd,QG g.few];simp only[J8,Bool.and_true,Q2];intro x hx;obtain⟨r,hr,rfl⟩:=Qs.mp hx;have hn:=g.some r hr;have ht:=g.there r hr;cases r with
 |nil=>exact absurd AV hn
 |cons i q=>
  show((int i::q.map int).all (KQ n))=AX
  rw[Q2];intro y hy;have hy:y∈(i::q).map int:=hy;obtain⟨z,hz,rfl⟩:=Qs.mp hy;have:=ht z hz
  show(decide (0<=z)&&decide (z<(n:Int)))=AX
  rw[QG this.1,QG this.2];rfl
theorem Nj{cs:A1}{ls:L3}(g:Good cs ls):KB (UU cs ls)=AW:=by
 show KB (.tuple [.list (cs.map int),.list (ls.map UP)])=AW;rw[Tg];have c1:=g.c1;have c6:=g.c6;have l1:=g.l1;have l7:=g.l7
 have e1:K2 (.list (cs.map int))=AW:=by
  unfold K2;dsimp only;rw[Qp (by rw[Qd];lia),T5];intro x hx;obtain⟨i,hi,rfl⟩:=Qs.mp hx;have:=g.c7 i hi
  show(decide (0<=i)&&decide (i<8))=AX
  rw[QG this.1,QG this.2];rfl
 rw[e1];dsimp only;unfold Zl;dsimp only;rw[Qp (by rw[Qd];lia),T5];intro x hx;obtain⟨rs,hrs,rfl⟩:=Qs.mp hx;rw[Qd];exact Cs (g.rk rs hrs)
theorem SE{cs:A1}{ls:L3}(g:Good cs ls):YM [UU cs ls]=O (.val .none):=by
 have wg:wB 448 (UU cs ls)=AX:=by
  obtain⟨a1,a2⟩:=Ct g
  exact Rb (n:=7) (by decide) _ (PV.mpr ⟨show 2<=7 by decide,λx hx=>by
   have hx:x=.list (cs.map int)∨x=.list (ls.map UP):=by simpa using hx
   rcases hx with rfl|rfl
   .exact a1
   .exact a2⟩)
 have hx:=Vs (Fj (Rb (m:=700) (by decide) _ wg));rw[Nj g]at hx;exact hx
theorem Vb{α:Type}{s:D->UB->A7}{f:M D}(e k:α->D)(I:UB->Prop):∀(l:List α)(ρ:UB)(es:AZ),(∀x∈l,∀ρ,I ρ->∃ρ1,s (e x) ρ=O ρ1/\f ρ1=.ok (k x) ρ1/\I (U4 ρ1))->I ρ->es.length+l.length<=1000000 ->
  cTT s (UF AX) f (l.map e) ρ es=O (es++l.map k)
 |[],ρ,es,_,_,_=>by rw[JM,cTT,JM,QR]
 |x::l,ρ,es,st,h0,hz=>by rw[QK]at hz;obtain⟨ρ1,e1,e2,e3⟩:=st x Qg ρ h0;rw[QN,cTT,e1];dsimp only[UF];rw[Qp AV,e2];dsimp only;rw[Qp (by lia),QN];refine(Vb e k I l _ (es++[k x]) (λy hy=>st y (Qj _ hy)) e3 (by rw[Qh,QZ];lia)).trans ?_;rw[Ji];rfl
theorem Oc{N:List Str}{g:SM}{f:M D}{ds:AZ}{d:D}{ρ:UB}(h0:KO N ds=ρ)(h:Ho g ρ λo=>∃ρ1,o=.nx ρ1/\∃ρ2,f ρ1=.ok d ρ2):Wp N g f ds=O d:=by obtain⟨d',h1,h2⟩:=Li (P:=λx=>x=d) h0 (by obtain⟨ρ1,e,ρ2,e2⟩:=h.out;exact⟨⟨ρ1,e,d,ρ2,e2,rfl⟩⟩);rw[←h2];exact h1
theorem FM{xs:AZ}{a:Nat}:DL.cutD xs AW (O (a:Int))=xs.take a:=by
 unfold DL.cutD HT.sIx;dsimp only;rw[Qz (by omega),List.drop_zero,Nat.sub_zero,JE];rcases Nat.le_total a xs.length with h|h
 .rw[Nat.min_eq_left h]
 .rw[Nat.min_eq_right h,J0,List.take_of_length_le h]
theorem Cr{xs:AZ}{a:Nat}:DL.cutD xs (O (a:Int)) AW=xs.drop a:=by
 unfold DL.cutD HT.sIx;dsimp only;rw[Qz (by omega),JE];rcases Nat.le_total a xs.length with h|h
 .rw[Nat.min_eq_left h,←JY,J0]
 .rw[Nat.min_eq_right h,List.drop_length,List.drop_of_length_le h,Nat.sub_self];rfl
theorem Zv{α:Type}{s:D->UB->A7}{f:M D}(e k:α->D)(I:UB->Prop):∀(l:List α)(ρ:UB)(es:AZ),(∀x∈l,∀ρ,I ρ->∃ρ1,s (e x) ρ=O ρ1/\f ρ1=.ok (k x) ρ1/\I (U4 ρ1))->I ρ->es.length+l.length<=1000000 ->
  K3 s (UF AX) f (l.map e) ρ es=O (es++l.map k)
 |[],ρ,es,_,_,_=>by rw[JM,K3,JM,QR]
 |x::l,ρ,es,st,h0,hz=>by rw[QK]at hz;obtain⟨ρ1,e1,e2,e3⟩:=st x Qg ρ h0;rw[QN,K3,e1];dsimp only[UF];rw[Qp AV,e2];dsimp only;rw[Qp (by omega),QN];refine(Zv e k I l _ (es++[k x]) (λy hy=>st y (Qj _ hy)) e3 (by rw[Qh,QZ];omega)).trans ?_;rw[Ji];rfl
section
variable{cs:A1}{ls:L3}{ts as:List Str}
theorem WJ{n:Nat}{rs:List A1}{r:A1}(g:Y7 n rs)(hr:r∈rs):r.length<=n:=Qt (List.Sublist.length_le (JH hr)) (Ta g)
end
def X3(n b:Nat)(d:D):Prop:=d.canLay0=AX/\d.leavesShort 8=AX/\d.showable=AX/\d.depth<=n/\d.bulk<=b/\Ur d.shown=AX
theorem So{n b m:Nat}{xs:AZ}(h:∀x∈xs,X3 n b x)(hm:xs.length<=m):X3 (n+1) (m*(b+1)) (.list xs):=by
 refine⟨Xl λx hx=>(h x hx).1,RC λx hx=>(h x hx).2.1,Rw λx hx=>(h x hx).2.2.1,Vv (Xk λx hx=>(h x hx).2.2.2.1),?_,Az λx hx=>(h x hx).2.2.2.2.2⟩;have:=Rv (n:=b) (xs:=xs) λx hx=>(h x hx).2.2.2.2.1
 exact Qt this (Nat.mul_le_mul_right _ hm)
theorem Cq{i:Int}(h:0<=i/\i<10):X3 0 0 (.int i):=⟨rfl,(ten h).1,(ten h).2,by simp[Ut],Nat.le_refl 0,Hz h⟩
theorem Nv{m:Nat}{xs:A1}(h:∀t∈xs,0<=t/\t<10)(hm:xs.length<=m):X3 1 (m*1) (.list (xs.map int)):=So (λx hx=>by obtain⟨t,ht,rfl⟩:=Qs.mp hx;exact Cq (h t ht)) (by rw[Qd];exact hm)
section
variable{cs:A1}{ls:L3}{ws:LO}
theorem Ni(g:Good cs ls):X3 5 10000 (UU cs ls):=by
 have e1:X3 1 (6*1) (.list (cs.map int)):=Nv (λt ht=>by have:=g.c7 t ht;lia) g.c6
 have e2:X3 3 (7*(5*(6*1+1)+1)) (.list (ls.map UP)):=by
  refine So (λx hx=>?_) (by rw[Qd];exact g.l7);obtain⟨rs,hrs,rfl⟩:=Qs.mp hx;have gr:=g.rk rs hrs;refine So (λy hy=>?_) (by rw[Qd];exact gr.few);obtain⟨r,hr,rfl⟩:=Qs.mp hy;refine Nv (λt ht=>by have:=gr.there r hr t ht;have:=g.c6;lia) ?_;have h1:r.length<=rs.flatten.length:=(JH hr).length_le;have h2:=Ta gr;have:=g.c6
  lia
 have all:∀{P:D->Prop},P (.list (cs.map int))->P (.list (ls.map UP))->∀x∈[Uo (cs.map int),.list (ls.map UP)],P x:=λh1 h2 x hx=>by
  have hx:x=.list (cs.map int)∨x=.list (ls.map UP):=by simpa using hx
  rcases hx with rfl|rfl
  .exact h1
  .exact h2
 obtain⟨a1,a2,a3,a4,a5,a6⟩:=e1;obtain⟨b1,b2,b3,b4,b5,b6⟩:=e2;refine⟨Xl (all a1 b1),RC (all a2 b2),Rw (all a3 b3),?_,?_,?_⟩
 .have:=Xk (n:=4) (all (P:=λx=>Ut x<=4) (by lia) (by lia))
  show(PyData.tuple _).depth<=5
  simp only[Ut]
  lia
 .have:=Rv (n:=300) (all (P:=λx=>PyData.bulk x<=300) (by lia) (by lia))
  exact Qt this (show 2*301<=10000 by decide)
 .show Ur (("(" : Str)++(_ ++ ", " ++ _) ++ ")")=AX
  exact WO (WO (by decide +kernel) (WO (WO a6 (by decide +kernel)) b6)) (by decide +kernel)
end
noncomputable def shR(n:Nat)(r:A1):A1:=r.map λt=>(n:Int)+t
noncomputable def shL(n:Nat)(rs:List A1):List A1:=rs.map (shR n)
theorem Cp{cs:A1}{ls:L3}(h1:ls.length<=1000)(h2:∀rs∈ls,rs.length<=1000):VI [UU cs ls]=O (UU cs ls):=by refine Oc (ρ:=[pb (UU cs ls),AW,AW]) AV ?_;unfold RX;refine U5 (ρ1:=[pb (UU cs ls),pb (.list (cs.map int)),pb (.list (ls.map UP))]) (Wx (UH AV) (KY AV (Kc (US (Qa AV) AV) (Kc (US (Qa AV) AV) KZ)))) (Ky ⟨_,rfl,[pb (UU cs ls),pb (.list (cs.map int)),pb (.list (ls.map UP))],?_⟩);refine EZ (c:=PyData.tuple) (ds:=[.list (cs.map int),.list (ls.map UP)]) (O0 (KE (x:=cs.map int) AV) (O0 (OZ (ds:=ls.map UP) (Ze (UH AV) AV) (es:=ls.map UP) ?_) UL)) (show 2<=1000000 by decide);refine(Vb UP UP (λρ=>∃x,ρ=[pb (UU cs ls),pb (.list (cs.map int)),pb (.list (ls.map UP)),x]) ls _ [] ?_ ⟨AW,rfl⟩ (by rw[QO];omega)).trans AV;rintro rs hrs ρ ⟨x,rfl⟩;refine⟨_,US (Qa AV) AV,OZ (ds:=rs.map U1) (Ze (UH AV) AV) (es:=rs.map U1) ?_,_,rfl⟩;refine(Vb U1 U1 (λρ=>∃x,ρ=[pb (UU cs ls),pb (.list (cs.map int)),pb (.list (ls.map UP)),pb (UP rs),x]) rs _ [] ?_ ⟨AW,rfl⟩ (by have:=h2 rs hrs;rw[QO];omega)).trans AV;rintro r hr ρ ⟨x,rfl⟩;exact⟨_,US (Qa AV) AV,KE (x:=r.map int) AV,_,rfl⟩
noncomputable def jnD(cs qd:A1)(ls ls2:L3):D:=UU (cs++qd) (ls++ls2.map (shL cs.length))
theorem Hw{cs qd:A1}{ls ls2:L3}(g:Good cs ls)(g2:Good qd ls2):XU [UU cs ls,UU qd ls2]=O (jnD cs qd ls ls2):=by
 have c6:=g.c6;have c62:=g2.c6;have l7:=g.l7;have l72:=g2.l7
 let A:Option Sl:=O (.pub (UU cs ls))
 let B:Option Sl:=O (.pub (UU qd ls2))
 have i0:oIx (UU cs ls) (.int 0)=O (.list (cs.map int)):=K8 (j:=0) AV;have i1:oIx (UU cs ls) (.int 1)=O (.list (ls.map UP)):=K8 (j:=1) AV;have k0:oIx (UU qd ls2) (.int 0)=O (.list (qd.map int)):=K8 (j:=0) AV;have k1:oIx (UU qd ls2) (.int 1)=O (.list (ls2.map UP)):=K8 (j:=1) AV;have ln:U0 [.list (cs.map int)]=O (.int cs.length):=by rw[KS,Qd]
 refine ZC (ρ:=[A,B,AW,AW]) AV ?_;unfold WY;refine U5 (ρ1:=[A,B,O (.own (ls.map UP)),AW]) (ZV (Yh (ds:=ls.map UP) (Ze (Kw AV UK i1) AV) (es:=ls.map UP) ?_) (Qa AV) AV) ?_
 .refine(Zv UP UP (λρ=>∃x,ρ=[A,B,AW,AW,x]) ls _ [] ?_ ⟨AW,rfl⟩ (by rw[QO];omega)).trans AV
  rintro rs hrs ρ ⟨x,rfl⟩;have hf:=(g.rk rs hrs).few;refine⟨_,US (Qa AV) AV,KE (x:=rs.map U1) (Yh (ds:=rs.map U1) (Ze (UH AV) AV) ?_),_,rfl⟩;refine(Zv U1 U1 (λρ=>∃x,ρ=[A,B,AW,AW,pb (UP rs),x]) rs _ [] ?_ ⟨AW,rfl⟩ (by rw[QO];omega)).trans AV;rintro r hr ρ ⟨x,rfl⟩;exact⟨_,US (Qa AV) AV,KE (x:=r.map int) AV,_,rfl⟩
 apply Kv;apply YJ (ds:=ls2.map UP) (λi ρ=>∃x,ρ=[A,B,O (.own ((ls++(ls2.take i).map (shL cs.length)).map UP)),x])
 case h1=>exact Ze (Kw AV UK k1) AV
 case h0=>exact⟨AW,by simp⟩
 case hst=>
  rintro i d ρ hi ⟨x,rfl⟩;rw[QC]at hi;cases hx:ls2[i]? with
  |none=>rw[hx]at hi;cases hi
  |some rs=>
  rw[hx]at hi;cases hi;have hrs:rs∈ls2:=QX hx;have hf:=(g2.rk rs hrs).few;have jP:i<ls2.length:=(Qr.mp hx).1;refine⟨[A,B,O (.own ((ls++(ls2.take i).map (shL cs.length)).map UP)),pb (UP rs)],US (Qa AV) AV,?_⟩;unfold P0;refine KJ (Wd AV (KE (x:=(shL cs.length rs).map U1) (Yh (ds:=rs.map U1) (Ze (UH AV) AV) ?_)) AV (by rw[Qd,Qh,Qd,JI];omega) AV) (Z1 ⟨O (.pub (UP rs)),?_⟩)
  .have e:(shL cs.length rs).map U1=rs.map λr=>U1 (shR cs.length r):=by unfold shL;rw[Jc];rfl
   rw[e];refine(Zv U1 (λr=>U1 (shR cs.length r)) (λρ=>∃x,ρ=[A,B,AW,pb (UP rs),x]) rs _ [] ?_ ⟨AW,rfl⟩ (by rw[QO];omega)).trans AV;rintro r hr ρ ⟨x,rfl⟩;have jw:=WJ (g2.rk rs hrs) hr;refine⟨_,US (Qa AV) AV,KE (x:=(shR cs.length r).map int) (Yh (ds:=r.map int) (Ze (UH AV) AV) ?_),_,rfl⟩;have e2:(shR cs.length r).map int=r.map λt=>.int ((cs.length:Int)+t):=by unfold shR;rw[Jc];rfl
   rw[e2];refine(Zv int (λt=>.int ((cs.length:Int)+t)) (λρ=>∃x,ρ=[A,B,AW,pb (UP rs),pb (U1 r),x]) r _ [] ?_ ⟨AW,rfl⟩ (by rw[QO];omega)).trans AV;rintro t ht ρ ⟨x,rfl⟩;refine⟨_,US (Qa AV) AV,?_,_,rfl⟩;have:=UZ (op:=UQ) (f:=UC 5) (g:=KH U0 (UE (UR 0 (UF (.int 0))) (UD))) (ρ:=[A,B,AW,pb (UP rs),pb (U1 r),pb (.int t)]) (UH AV) (Zi (UG (Kw AV UK i0) UL) ln) Zq;rw[Int.add_comm]at this;exact this
  .rw[List.take_succ_eq_append_getElem jP,(Qr.mp hx).2]
   simp only[Q3,QN,JM,Ji];rfl
 case hend=>rintro ρ ⟨x,rfl⟩;rw[Qd,J0];refine KI (KL (Z2 (UG (UZ (Kw rfl UK i0) (Kw rfl UK k0) (YE (by rw[Qd,Qd];omega))) (UG (Yo rfl rfl) UL)) (Qa rfl)) ?_);unfold jnD UU;rw[Q3,Q3]
theorem Pe{cs qd:A1}{ls ls2:L3}(g:Good cs ls)(g2:Good qd ls2):Zx (jnD cs qd ls ls2):=λc L e _ x hx rs e2 xs hxs=>by
 have eL:L=(ls++ls2.map (shL cs.length)).map UP:=by unfold jnD UU at e;cases e;rfl
 subst eL;obtain⟨q,hq,rfl⟩:=Qs.mp hx;have er:rs=q.map U1:=by unfold UP at e2;cases e2;rfl
 subst er;obtain⟨r,hr,e3⟩:=Qs.mp hxs;have ex:xs=r.map int:=by unfold U1 at e3;cases e3;rfl
 subst ex;rw[Qd];have c6:=g.c6;have c62:=g2.c6;rcases QE.mp hq with hq|hq
 .have:=WJ (g.rk q hq) hr;omega
 .obtain⟨q0,jx,rfl⟩:=Qs.mp hq
  obtain⟨r0,hr0,rfl⟩:=Qs.mp hr;have:=WJ (g2.rk q0 jx) hr0;unfold shR;rw[Qd];omega
theorem Ob{cs qd:A1}{ls ls2:L3}(g:Good cs ls)(g2:Good qd ls2)(h1:cs.length+qd.length<=6)(h2:ls.length+ls2.length<=7):Good (cs++qd) (ls++ls2.map (shL cs.length)):=by
 have a1:=g.c1;have b1:=g.l1;refine⟨by rw[Qh];omega,by rw[Qh];exact h1,λc hc=>(QE.mp hc).elim (g.c7 c) (g2.c7 c),by rw[Qh];omega,by rw[Qh,Qd];exact h2,λrs hrs=>?_⟩;rw[Qh];rcases QE.mp hrs with hrs|hrs
 .have q:=g.rk rs hrs
  exact⟨q.few,q.some,λr hr t ht=>by have:=q.there r hr t ht;omega,q.once⟩
 .obtain⟨q0,jx,rfl⟩:=Qs.mp hrs
  have q:=g2.rk q0 jx;refine⟨by unfold shL;rw[Qd];exact q.few,λr hr=>?_,λr hr t ht=>?_,?_⟩
  .obtain⟨r0,hr0,rfl⟩:=Qs.mp hr
   unfold shR;intro e;exact q.some r0 hr0 (List.map_eq_nil_iff.mp e)
  .obtain⟨r0,hr0,rfl⟩:=Qs.mp hr
   obtain⟨t0,ht0,rfl⟩:=Qs.mp ht;have:=q.there r0 hr0 t0 ht0;omega
  .have e:(shL cs.length q0).flatten=q0.flatten.map λt=>(cs.length:Int)+t:=by
    unfold shL shR;rw[List.map_flatten]
   rw[e];exact List.pairwise_map.mpr (q.once.imp λh e=>h (by omega))
theorem Oa{cs qd:A1}{ls ls2:L3}(g:Good cs ls)(g2:Good qd ls2):KT (Km (UC 5)) 1 (gN 8) (UF AX) (UO Uo (KT (Km (UC 8)) 1 (gN 9) (UF AX) (UO Uo (KT (Km (UC 9)) 1 (gN 10) (UF AX) (UJ UQ (KU 2) (UC 10)))))) [pb (UU cs ls),pb (UU qd ls2),pb (.list (cs.map int)),pb (.list (ls.map UP)),pb (.list (qd.map int)),pb (.list (ls2.map UP)),AW,AW]=.ok ((ls2.map (shL cs.length)).map UP) [pb (UU cs ls),pb (UU qd ls2),pb (.list (cs.map int)),pb (.list (ls.map UP)),pb (.list (qd.map int)),pb (.list (ls2.map UP)),AW,AW]:=by
 have c62:=g2.c6;have l72:=g2.l7;have ln:U0 [.list (cs.map int)]=O (.int cs.length):=by rw[KS,Qd]
 let A:Option Sl:=O (.pub (UU cs ls))
 let B:Option Sl:=O (.pub (UU qd ls2))
 let C:Option Sl:=O (.pub (.list (cs.map int)))
 let L:Option Sl:=O (.pub (.list (ls.map UP)))
 let C2:Option Sl:=O (.pub (.list (qd.map int)))
 let M2:Option Sl:=O (.pub (.list (ls2.map UP)))
 refine Yh (ds:=ls2.map UP) (Ze (UH AV) AV) ?_;rw[Jc];refine(Zv UP (λrs=>UP (shL cs.length rs)) (λρ=>∃x,ρ=[A,B,C,L,C2,M2,AW,AW,x]) ls2 _ [] ?_ ⟨AW,rfl⟩ (by rw[QO];omega)).trans AV;rintro rs hrs ρ ⟨x,rfl⟩;have hf:=(g2.rk rs hrs).few;refine⟨_,US (Qa AV) AV,KE (x:=(shL cs.length rs).map U1) (Yh (ds:=rs.map U1) (Ze (UH AV) AV) ?_),_,rfl⟩;have e:(shL cs.length rs).map U1=rs.map λr=>U1 (shR cs.length r):=by unfold shL;rw[Jc];rfl
 rw[e];refine(Zv U1 (λr=>U1 (shR cs.length r)) (λρ=>∃x,ρ=[A,B,C,L,C2,M2,AW,AW,pb (UP rs),x]) rs _ [] ?_ ⟨AW,rfl⟩ (by rw[QO];omega)).trans AV;rintro r hr ρ ⟨x,rfl⟩;have jw:=WJ (g2.rk rs hrs) hr;refine⟨_,US (Qa AV) AV,KE (x:=(shR cs.length r).map int) (Yh (ds:=r.map int) (Ze (UH AV) AV) ?_),_,rfl⟩;have e2:(shR cs.length r).map int=r.map λt=>.int ((cs.length:Int)+t):=by unfold shR;rw[Jc];rfl
 rw[e2];refine(Zv int (λt=>.int ((cs.length:Int)+t)) (λρ=>∃x,ρ=[A,B,C,L,C2,M2,AW,AW,pb (UP rs),pb (U1 r),x]) r _ [] ?_ ⟨AW,rfl⟩ (by rw[QO];omega)).trans AV;rintro t ht ρ ⟨x,rfl⟩;exact⟨_,US (Qa AV) AV,UZ (op:=UQ) (Zd AV ln) (UH AV) Zq,_,rfl⟩
noncomputable def Lb(b:Bool)(d:D):XR:=if b=AX then .val d else .exc (exD "NoJoin" [])
noncomputable def Za(cs qd:A1)(ls ls2:L3):Bool:=decide (cs.length+qd.length<=6)&&decide (ls.length+ls2.length<=7)
theorem Nh{cs qd:A1}{ls ls2:L3}(g:Good cs ls)(g2:Good qd ls2):(Za cs qd ls ls2=AX/\KB (jnD cs qd ls ls2)=AW)∨(Za cs qd ls ls2=AY/\∃p n,KB (jnD cs qd ls ls2)=O (p,n)):=by
 by_cases h:cs.length+qd.length<=6/\ls.length+ls2.length<=7
 .exact .inl ⟨by unfold Za;rw[QG h.1,QG h.2];rfl,Nj (Ob g g2 h.1 h.2)⟩
 .refine .inr ⟨?_,?_⟩
  .unfold Za
   rcases Decidable.not_and_iff_or_not.mp h with h|h
   .rw[Qy h];rfl
   .rw[Qy h,Bool.and_false]
  .unfold jnD UU KB
   dsimp only;split
   .split
    .exact⟨_,_,rfl⟩
    .split
     .split
      .exact⟨_,_,rfl⟩
      .rename_i h1 _ _ h2 _ _
       rw[Qd,Qh]at h1;rw[Qd,Qh,Qd]at h2;exact(h ⟨h1.2,h2.2⟩).elim
     .exact⟨_,_,rfl⟩
   .exact⟨_,_,rfl⟩
theorem Df{x nm:Str}{s:SM}{ρ ρ1:UB}(h1:s ρ=.nx ρ1):X5 x nm s ρ=.nx ρ1:=by unfold X5;rw[h1]
theorem De{x nm:Str}{s:SM}{ρ ρ1:UB}{d:D}(h1:s ρ=.ex ρ1 d)(h2:YI x d=AX):X5 x nm s ρ=.ex ρ1 (exD nm []):=by unfold X5;rw[h1];dsimp only;rw[if_pos h2]
section
variable{cs qd:A1}{ls ls2:L3}
theorem WL:PyData.tuple [.list (cs.map int++qd.map int),.list (ls.map UP++(ls2.map (shL cs.length)).map UP)]=jnD cs qd ls ls2:=by unfold jnD UU;rw[Q3,Q3]
theorem Ng(g:Good cs ls)(g2:Good qd ls2):VI [jnD cs qd ls ls2]=O (jnD cs qd ls ls2):=by
 have l7:=g.l7;have l72:=g2.l7;refine Cp (by rw[Qh,Qd];omega) λrs hrs=>?_
 rcases QE.mp hrs with hrs|hrs
 .have:=(g.rk rs hrs).few;omega
 .obtain⟨q,hq,rfl⟩:=Qs.mp hrs
  have:=(g2.rk q hq).few;unfold shL;rw[Qd];omega
theorem Aq(g:Good cs ls)(g2:Good qd ls2):WN [UU cs ls,UU qd ls2]=O (Lb (Za cs qd ls ls2) (jnD cs qd ls ls2)):=by
 have c6:=g.c6;have c62:=g2.c6;have l7:=g.l7;have l72:=g2.l7;refine Wq (ρ:=[pb (UU cs ls),pb (UU qd ls2),AW,AW,AW,AW,AW,AW]) AV ?_;unfold Ti;refine U5 (Wr (Z0 (UG (UH AV) UL) AV (SE g)) AV) ?_;refine U5 (Wr (Z0 (UG (UH AV) UL) AV (SE g2)) AV) ?_;refine U5 (Wx (UH AV) (KY AV (Kc (US (Qa AV) AV) (Kc (US (Qa AV) AV) KZ)))) ?_;refine U5 (Wx (UH AV) (KY AV (Kc (US (Qa AV) AV) (Kc (US (Qa AV) AV) KZ)))) ?_;refine U5 (ZV (Oa g g2) (Qa AV) AV) ?_;refine U5 (K9 (Z2 (UG (UZ (UH AV) (UH AV) (YE (by rw[Qd,Qd];omega))) (UG (UZ (UH AV) (Yo AV AV) (YE (by rw[Qd,Qd,Qd];omega))) UL)) (Qa AV)) (Qa AV) AV) ?_;have hx:=Vs (Pe g g2);rcases Nh g g2 with ⟨hf,hd⟩|⟨hf,p,n,hd⟩
 .rw[hd,←WL]at hx
  refine U5 (Df (Wr (Z0 (UG (UH AV) UL) AV hx) AV)) ?_;have hc:=Ng g g2;rw[←WL]at hc;refine KL (Kk (UG (UH AV) UL) AV hc) ?_;rw[hf,WL];rfl
 .rw[hd,←WL]at hx
  apply Kv;refine KJ (De (X7 (Z0 (UG (UH AV) UL) AV hx)) AV) (Yj ?_);rw[hf];exact⟨rfl,rfl⟩
theorem Ap(g:Good cs ls)(g2:Good qd ls2)(hf:Za cs qd ls ls2=AX):Sr [UU cs ls,UU qd ls2]=O (jnD cs qd ls ls2):=by
 have c6:=g.c6;have c62:=g2.c6;have l7:=g.l7;have l72:=g2.l7;refine Oc (ρ:=[pb (UU cs ls),pb (UU qd ls2),AW,AW,AW,AW,AW,AW]) AV ?_;unfold RW;refine U5 (Vu (Kk (UG (UH AV) UL) AV (Si g))) ?_;refine U5 (Vu (Kk (UG (UH AV) UL) AV (Si g2))) ?_;refine U5 (Wx (UH AV) (KY AV (Kc (US (Qa AV) AV) (Kc (US (Qa AV) AV) KZ)))) ?_;refine U5 (Wx (UH AV) (KY AV (Kc (US (Qa AV) AV) (Kc (US (Qa AV) AV) KZ)))) ?_;refine U5 (ZV (Oa g g2) (Qa AV) AV) ?_;refine U5 (K9 (Z2 (UG (UZ (UH AV) (UH AV) (YE (by rw[Qd,Qd];omega))) (UG (UZ (UH AV) (Yo AV AV) (YE (by rw[Qd,Qd,Qd];omega))) UL)) (Qa AV)) (Qa AV) AV) ?_;have hx:=Vs (Pe g g2);rcases Nh g g2 with ⟨_,hd⟩|⟨hf2,_⟩
 .rw[hd,←WL]at hx
  refine U5 (D3 (Wr (Z0 (UG (UH AV) UL) AV hx) AV)) ?_;have hc:=Ng g g2;rw[←WL]at hc;rw[←WL];exact Ky ⟨_,rfl,_,Kk (UG (UH AV) UL) AV hc⟩
 .rw[hf]at hf2;cases hf2
end
noncomputable def shO(n:Nat):A9->A9
 |none=>AW
 |some t=>O ((n:Int)+t)
section
variable{cs qd:A1}{ls ls2:L3}{us ws:LO}
theorem OU(h:ws.length<=1000):KT (Km (UC 2)) 1 (gN 4) (UF AX) (mIf (UO isNon (UC 4)) (UF .none) (UJ UQ (UC 3) (UC 4))) [pb (UU cs ls),pb (Kq us),pb (Kq ws),pb (.int cs.length)]=.ok ((ws.map (shO cs.length)).map U6) [pb (UU cs ls),pb (Kq us),pb (Kq ws),pb (.int cs.length)]:=by
 refine Yh (ds:=ws.map U6) (Ze (UH AV) AV) ?_;rw[Jc];refine(Zv U6 (λw=>U6 (shO cs.length w)) (λρ=>∃x,ρ=[pb (UU cs ls),pb (Kq us),pb (Kq ws),pb (.int cs.length),x]) ws _ [] ?_ ⟨AW,rfl⟩ (by rw[QO];omega)).trans AV;rintro w _ ρ ⟨x,rfl⟩;refine⟨_,US (Qa AV) AV,?_,_,rfl⟩;cases w with
 |none=>exact LQ (KE (x:=.none) (UH AV)) UK
 |some t=>exact LN (KE (x:=.int t) (UH AV)) (UZ (UH AV) (UH AV) Zq)
noncomputable def bsL(n:Nat)(us ws:LO):AZ:=us.map U6++(ws.map (shO n)).map U6
theorem FL(g:Good cs ls)(h1:us.length<=1000)(h:ws.length<=1000):Sw [UU cs ls,Kq us,Kq ws]=O (bsL cs.length us ws):=by
 have ln:U0 [.list (cs.map int)]=O (.int cs.length):=by rw[KS,Qd]
 have i0:oIx (UU cs ls) (.int 0)=O (.list (cs.map int)):=K8 (j:=0) AV;have e:Ho Sx [pb (UU cs ls),pb (Kq us),pb (Kq ws),AW] (λo=>o=.nx [pb (UU cs ls),pb (Kq us),pb (Kq ws),pb (.int cs.length)]):=by unfold Sx;refine U5 (Vu (Kk (UG (UH AV) UL) AV (Si g))) ?_;exact U5 (K9 (Zi (UG (Kw AV UK i0) UL) ln) (Qa AV) AV) (Ky AV)
 have e2:RU [pb (UU cs ls),pb (Kq us),pb (Kq ws),pb (.int cs.length)]=.ok (bsL cs.length us ws) [pb (UU cs ls),pb (Kq us),pb (Kq ws),pb (.int cs.length)]:=by unfold RU;exact Hj (UH AV) (KE (OU h)) (by rw[Qd,Qd,Qd];omega)
 exact Lj AV e.out e2
theorem FJ(g:Good cs ls)(h1:us.length<=1000)(h:ws.length<=1000):XY [UU cs ls,Kq us,Kq ws]=O (.list (bsL cs.length us ws)):=by
 have ln:U0 [.list (cs.map int)]=O (.int cs.length):=by rw[KS,Qd]
 have i0:oIx (UU cs ls) (.int 0)=O (.list (cs.map int)):=K8 (j:=0) AV;refine ZC (ρ:=[pb (UU cs ls),pb (Kq us),pb (Kq ws),AW]) AV ?_;unfold W5;refine U5 (Vu (Kk (UG (UH AV) UL) AV (Si g))) ?_;refine U5 (K9 (Zi (UG (Kw AV UK i0) UL) ln) (Qa AV) AV) ?_;exact KL (UZ (UH AV) (KE (OU h)) (YE (by rw[Qd,Qd,Qd];omega))) AV
theorem Ay{n:Nat}(h:ws.length<=1000):XT [Kq ws,.int n]=O (.list ((ws.map (shO n)).map U6)):=by
 refine ZC (ρ:=[pb (Kq ws),pb (.int n),AW,AW]) AV ?_;unfold WX;refine U5 (ZV (WF UL (Qa AV)) (Qa AV) AV) ?_;apply Kv;apply YJ (ds:=ws.map U6) (λi ρ=>∃x,ρ=[pb (Kq ws),pb (.int n),O (.own (((ws.take i).map (shO n)).map U6)),x])
 case h1=>exact Ze (UH AV) AV
 case h0=>exact⟨AW,by simp⟩
 case hst=>
  rintro i d ρ hi ⟨x,rfl⟩;rw[QC]at hi;cases hx:ws[i]? with
  |none=>rw[hx]at hi;cases hi
  |some w=>
  rw[hx]at hi;cases hi;have jP:i<ws.length:=(Qr.mp hx).1;have tk:ws.take (i+1)=ws.take i++[w]:=by rw[List.take_succ_eq_append_getElem jP,(Qr.mp hx).2]
  refine⟨_,US (Qa AV) AV,?_⟩;unfold P1;refine U5 (ρ1:=[pb (Kq ws),pb (.int n),O (.own (((ws.take i).map (shO n)).map U6++[U6 w])),pb (U6 w)]) (Wd AV (UH AV) AV (by rw[Qd,Qd,JI];omega) AV) ?_;rw[tk,Q3,Q3];cases w with
  |none=>exact Kl (b:=AY) (KE (x:=.none) (UH AV)) (λz=>by cases z) λ_=>Ky (Z1 ⟨_,rfl⟩)
  |some t=>
   refine Kl (b:=AX) (KE (x:=.int t) (UH AV)) (λ_=>?_) λz=>by cases z
   refine KJ (GN (d:=.int (t+n)) (k:=-1) (UZ (UH AV) (UH AV) Zq) AV (TR UK) AV ⟨by decide,by rw[Qh,QZ];omega⟩ AV) (Z1 ⟨O (.pub (.int t)),?_⟩);have e:((-1:Int)+(((((ws.take i).map (shO n)).map U6++[U6 (O t)]).length:Nat):Int)).toNat=(((ws.take i).map (shO n)).map U6).length:=by rw[Qh,QZ];omega
   rw[e];simp only[List.set_append_right _ _ (Qq _),Nat.sub_self,List.set_cons_zero,QN,JM,shO,U6];rw[Int.add_comm];rfl
 case hend=>rintro ρ ⟨x,rfl⟩;rw[Qd,J0];exact KI (KL (Yo rfl rfl) rfl)
end
theorem P9{f:M D}{ρ ρ1:UB}{d:D}(h:f ρ=.ok d ρ1):U2 f ρ=.rt d:=by unfold U2 sB;rw[h]
theorem P8{x:Str}{s t:SM}{i:Nat}{ρ ρ1:UB}{d r:D}(h1:s ρ=.ex ρ1 d)(h2:YI x d=AX)(h3:i<ρ1.length)(h4:t (ρ1.set i (O (.pub d)))=.rt r):Ys i x s t ρ=.rt r:=by unfold Ys;rw[h1];dsimp only;rw[if_pos ⟨h2,h3⟩,h4]
section
variable{d a b:D}{p:Str}{n:D}
theorem wbX1(hs:Zx d)(h:KB d=O (p,n)):WN [d,a]=O (.exc (exD "NoWishes" [.str p,n])):=by refine Wq AV ?_;unfold Ti;have hx:=Vs hs;rw[h]at hx;apply Kv;exact KJ (X7 (Z0 (UG (UH AV) UL) AV hx)) (Yj ⟨rfl,rfl⟩)
theorem wbX2{cs:A1}{ls:L3}(g:Good cs ls)(hs:Zx d)(h:KB d=O (p,n)):WN [UU cs ls,d]=O (.exc (exD "NoWishes" [.str p,n])):=by refine Wq (ρ:=[pb (UU cs ls),pb d,AW,AW,AW,AW,AW,AW]) AV ?_;unfold Ti;have hx:=Vs hs;rw[h]at hx;refine U5 (Wr (Z0 (UG (UH AV) UL) AV (SE g)) AV) ?_;apply Kv;exact KJ (X7 (Z0 (UG (UH AV) UL) AV hx)) (Yj ⟨rfl,rfl⟩)
theorem dbX(hs:Zx d)(h:KB d=O (p,n)):Sy [d,a,b]=O (.exc (exD "NoWishes" [.str p,n])):=by refine Wq AV ?_;unfold RV;have hx:=Vs hs;rw[h]at hx;apply Kv;exact KJ (X7 (Z0 (UG (UH AV) UL) AV hx)) (Yj ⟨rfl,rfl⟩)
theorem T4{x:D}(h:WN [a,b]=O (.exc x))(hu:YI "DealError" x=AX):ZQ [a,b]=O x:=by refine ZC (ρ:=[pb a,pb b,AW]) AV ?_;unfold W0;apply Kv;exact KJ (P8 (X7 (Z0 (UG (UH AV) (UG (UH AV) UL)) AV h)) hu (Qa AV) (P9 (UH AV))) (Y8 AV)
theorem BO(hs:Zx d)(h:KB d=O (p,n)):XV [d]=O (exD "NoWishes" [.str p,n]):=by refine ZC (ρ:=[pb d,AW]) AV ?_;unfold WZ;apply Kv;exact KJ (P8 (X7 (Z0 (UG (UH AV) (UG (KW (UG UK UL) (Qa AV)) (UG (KW (UG UK UL) (Qa AV)) UL))) AV (dbX hs h))) AV (Qa AV) (P9 (UH AV))) (Y8 AV)
theorem FI(ds:AZ):Z6 [exD "NoWishes" ds]=O (.str "wishes"):=by kernel_rfl
theorem FH:Z6 [exD "NoJoin" []]=O (.str "join"):=by kernel_rfl
end
section
variable{cs qd:A1}{ls ls2:L3}
noncomputable def badD(cs:A1)(ls:L3):AZ:=[.none,.tuple [.list (cs.map int)],.tuple [.list (cs.map int),.list []],.tuple [.list [],.list (ls.map UP)],.list [.list (cs.map int),.list (ls.map UP)],.tuple [.list (cs.map int),.list [.list [.list [.int cs.length]]]]]
noncomputable def YO:AZ:=[.tuple [.str "wishes", .none],.tuple [.str "wishes", .none],.tuple [.str "lists", .none],.tuple [.str "copies", .none],.tuple [.str "wishes", .none],.tuple [.str "lists", .int 0]]
theorem Co(g:Good cs ls){k:Nat}:fb (KQ 8) k (cs.map int)=AW:=T5 λx hx=>by
 obtain⟨c,hc,rfl⟩:=Qs.mp hx;have:=g.c7 c hc
 show(decide (0<=c)&&decide (c<8))=AX
 rw[QG this.1,QG this.2];rfl
theorem FG(g:Good cs ls){k:Int}(hk:0<=k/\k<6):∃d p n,oIx (.list (badD cs ls)) (.int k)=O d/\Zx d/\KB d=O (p,n)/\oIx (.list YO) (.int k)=O (.tuple [.str p,n])/\oNe (.tuple [.str p,n]) (.tuple [.str p,n])=O AY:=by
 have c1:=g.c1;have c6:=g.c6;have ji:k=0∨k=1∨k=2∨k=3∨k=4∨k=5:=by omega
 have no:∀{d:D},(∀c L,d≠.tuple [c,.list L])->Zx d:=λh c L e=>absurd e (h c L)
 have dc:K2 (.list (cs.map int))=AW:=by unfold K2;dsimp only;rw[Qp (by rw[Qd];omega),Co g]
 rcases ji with rfl|rfl|rfl|rfl|rfl|rfl
 .exact⟨_,_,_,rfl,no (λ_ _ e=>by cases e),rfl,rfl,by kernel_rfl⟩
 .exact⟨_,_,_,rfl,no (λ_ _ e=>by cases e),rfl,rfl,by kernel_rfl⟩
 .refine⟨_, "lists", .none,rfl,(λc L e _ x hx=>by cases e;cases hx),?_,rfl,by kernel_rfl⟩
  rw[Tg,dc];rfl
 .refine⟨_, "copies", .none,rfl,(λc L e _ x hx=>?_),?_,rfl,by kernel_rfl⟩
  .have eL:L=ls.map UP:=by cases e;rfl
   subst eL;obtain⟨q,hq,rfl⟩:=Qs.mp hx;intro rs e2 xs hxs;have er:rs=q.map U1:=by unfold UP at e2;cases e2;rfl
   subst er;obtain⟨r,hr,e3⟩:=Qs.mp hxs;have ex:xs=r.map int:=by unfold U1 at e3;cases e3;rfl
   subst ex;rw[Qd];have:=WJ (g.rk q hq) hr;omega
  .rw[Tg];rfl
 .exact⟨_,_,_,rfl,no (λ_ _ e=>by cases e),rfl,rfl,by kernel_rfl⟩
 .refine⟨_, "lists", .int 0,rfl,(λc L e _ x hx=>?_),?_,rfl,by kernel_rfl⟩
  .have eL:L=[.list [.list [.int cs.length]]]:=by cases e;rfl
   subst eL;rw[QL]at hx;subst hx;intro rs e2 xs hxs;cases e2;rw[QL]at hxs;cases hxs;exact(show 1<=700 by decide)
  .rw[Tg,dc]
   show Zl ((cs.map int).length:Nat) (.list [.list [.list [.int cs.length]]])=_;rw[Qd];unfold Zl;dsimp only;refine(Qp ⟨(show 1<=1 by decide),(show 1<=7 by decide)⟩).trans ?_
   have:Zw (cs.length:Int) (.list [.list [.int cs.length]])=AY:=by
    show(decide (1<=5)&&((((decide (0<=(cs.length:Int))&&decide ((cs.length:Int)<cs.length))&&AX)&&AX)&&_))=AY
    rw[Qy (by omega:¬(cs.length:Int)<cs.length)];simp
   rw[fb,this];rfl
theorem Dd(g:Good cs ls){d2:D}{k:Int}(hk:0<=k/\k<6):XQ [UU cs ls,d2,.list [.int k]]=O (.bool AX):=by
 obtain⟨d,p,n,hd,hs,hw,hp,hne⟩:=FG g hk;have ln:U0 [.list (cs.map int)]=O (.int cs.length):=by rw[KS,Qd]
 have i0:oIx (UU cs ls) (.int 0)=O (.list (cs.map int)):=K8 (j:=0) AV;have i1:oIx (UU cs ls) (.int 1)=O (.list (ls.map UP)):=K8 (j:=1) AV
 let A:Option Sl:=O (.pub (UU cs ls))
 let B:Option Sl:=O (.pub d2)
 let K:Option Sl:=O (.pub (.list [.int k]))
 let X:D:=exD "NoWishes" [.str p,n]
 refine ZC (ρ:=[A,B,K,AW,AW,AW,AW]) AV ?_;unfold WW;refine U5 (ρ1:=[A,B,K,pb d,AW,AW,AW]) (K9 (UZ (KW (UG UK (UG (Z2 (UG (Kw AV UK i0) UL) (Qa AV)) (UG (Z2 (UG (Kw AV UK i0) (UG (KW UL (Qa AV)) UL)) (Qa AV)) (UG (Z2 (UG (KW UL (Qa AV)) (UG (Kw AV UK i1) UL)) (Qa AV)) (UG (KW (UG (Kw AV UK i0) (UG (Kw AV UK i1) UL)) (Qa AV)) (UG (Z2 (UG (Kw AV UK i0) (UG (KW (UG (KW (UG (KW (UG (Zi (UG (Kw AV UK i0) UL) ln) UL) (Qa AV)) UL) (Qa AV)) UL) (Qa AV)) UL)) (Qa AV)) UL)))))) (Qa AV)) (Kw AV UK AV) hd) (Qa AV) AV) ?_;refine U5 (ρ1:=[A,B,K,pb d,O (.own YO),AW,AW]) (ZV (WF (UG (Z2 (UG UK (UG UK UL)) (Qa AV)) (UG (Z2 (UG UK (UG UK UL)) (Qa AV)) (UG (Z2 (UG UK (UG UK UL)) (Qa AV)) (UG (Z2 (UG UK (UG UK UL)) (Qa AV)) (UG (Z2 (UG UK (UG UK UL)) (Qa AV)) (UG (Z2 (UG UK (UG UK UL)) (Qa AV)) UL)))))) (Qa AV)) (Qa AV) AV) ?_;refine U5 (ρ1:=[A,B,K,pb d,O (.own YO),O (.own [X,X,X]),AW]) (ZV (WF (UG (Kk (UG (UH AV) (UG (UH AV) UL)) AV (T4 (wbX1 hs hw) AV)) (UG (Kk (UG (UH AV) (UG (UH AV) UL)) AV (T4 (wbX2 g hs hw) AV)) (UG (Kk (UG (UH AV) (UG UK UL)) AV (T4 (wbX1 hs hw) AV)) UL))) (Qa AV)) (Qa AV) AV) ?_;apply Kv;apply YJ (ds:=[X,X,X,X]) (λ_ ρ=>∃x,ρ=[A,B,K,pb d,O (.own YO),pb (.list [X,X,X]),x])
 case h1=>exact Ze (UZ (Yo AV AV) (KW (UG (Kk (UG (UH AV) UL) AV (BO hs hw)) UL) (Qa AV)) (YE (Qa AV))) AV
 case h0=>exact⟨_,rfl⟩
 case hst=>
  rintro i e ρ hi ⟨x,rfl⟩;have he:e=X:=by have:=QX hi;simpa using this
  subst he;refine⟨_,US (Qa AV) AV,?_⟩;unfold P2;have n1:oNe (.str "wishes") (.str "wishes")=O AY:=by kernel_rfl
  exact Kl (b:=AY) (ρ1:=[A,B,K,pb d,O (.own YO),pb (.list [X,X,X]),pb X]) (Yi (UZ (Kk (UG (UH AV) UL) AV (FI _)) UK n1) (UZ (Z2 (UG (Kh (UH AV) (Zp AV)) (UG (Kh (UH AV) (Zp AV)) UL)) (Qa AV)) (Px AV (Kw AV UK AV) AV hp) hne)) (λz=>by cases z) λ_=>Ky (Z1 ⟨_,rfl⟩)
 case hend=>rintro ρ ⟨x,rfl⟩;exact KI (KL UK rfl)
end
theorem La{C:D}{q rest:AZ}(h:q.length<1000000):Zo (.lst .leaf) (.list [.int 0]) [1,0] (.tup [.lst .leaf,.lst (.lst (.lst .leaf))]) (.tuple [C,.list (.list q::rest)])=O (.tuple [C,.list (.list (q++[.list [.int 0]])::rest)]):=by
 have e:Zo (.lst .leaf) (.list [.int 0]) [] (.lst (.lst .leaf)) (.list q)=O (.list (q++[.list [.int 0]])):=Qp ⟨rfl,h⟩
 have e1:Zo (.lst .leaf) (.list [.int 0]) [0] (.lst (.lst (.lst .leaf))) (.list (.list q::rest))=O (.list (.list (q++[.list [.int 0]])::rest)):=by
  show((O (Uo q)).bind λd=>(Zo (.lst .leaf) (.list [.int 0]) [] (.lst (.lst .leaf)) d).map λd'=>Uo ((Uo q::rest).set 0 d'))=_
  rw[Option.bind_some,e];rfl
 show((O (Pat.lst (.lst (.lst .leaf)))).bind λp=>(O (Uo (.list q::rest))).bind λd=>(Zo (.lst .leaf) (.list [.int 0]) [0] p d).map λd'=>PyData.tuple ([C,.list (.list q::rest)].set 1 d'))=_
 rw[Option.bind_some,Option.bind_some,e1];rfl
theorem FF(qs:L3):oNe (.list (qs.map UP)) (.list (qs.map UP))=O AY:=by
 have lay:(Uo (qs.map UP)).canLay0=AX:=Xl λx hx=>by obtain⟨y,_,rfl⟩:=Qs.mp hx;exact Nu y
 have dep:(Uo (qs.map UP)).depth<=60:=Qt (Vv (n:=3) (Xk λx hx=>by obtain⟨y,_,rfl⟩:=Qs.mp hx;exact Nt y)) (by decide);unfold oNe;rw[Qp ⟨lay,lay,dep⟩,T7 _ lay];rfl
theorem Cn{n:Nat}{r0:List A1}{qs:L3}(h0:Y7 n r0)(hq:∀q∈qs,Y7 n q)(hn:n<=6)(hl:qs.length<=6):Kg 9 8 (.tup [.lst .leaf,.lst (.lst (.lst .leaf))]) (.tuple [.list [],.list (.list (r0.map U1++[.list [.int 0]])::qs.map UP)])=AX:=by
 have lr:∀(m:Nat)(r:A1),r.length<=6->Kg (m+2) 8 (.lst .leaf) (U1 r)=AX:=λm r h=>by unfold U1;simp only[Kg,Qw,Q5,Q2,Qd];exact⟨by omega,λ_ _=>trivial⟩
 have l1:Kg 7 8 (.lst (.lst .leaf)) (.list (r0.map U1++[.list [.int 0]]))=AX:=by
  simp only[Kg,Qw,Q5,Q2,Qh,Qd,QZ];have:=h0.few;refine⟨by omega,λx hx=>?_⟩;rcases QE.mp hx with hx|hx
  .obtain⟨r,hr,rfl⟩:=Qs.mp hx
   exact lr 4 r (Qt (WJ h0 hr) hn)
  .rw[QL]at hx
   subst hx;rfl
 have l2:∀q∈qs,Kg 7 8 (.lst (.lst .leaf)) (UP q)=AX:=λq qw=>by have g:=hq q qw;unfold UP;simp only[Kg,Qw,Q5,Q2,Qd];have:=g.few;refine⟨by omega,λx hx=>?_⟩;obtain⟨r,hr,rfl⟩:=Qs.mp hx;exact lr 4 r (Qt (WJ g hr) hn)
 have l4:Kg 8 8 (.lst (.lst (.lst .leaf))) (.list (.list (r0.map U1++[.list [.int 0]])::qs.map UP))=AX:=by rw[Kg,JB,l1,QG (by rw[QK,Qd];omega),J8,J8,Q2];intro x hx;obtain⟨q,qw,rfl⟩:=Qs.mp hx;exact l2 q qw
 show(Kg 8 8 (.lst .leaf) (.list [])&&(Kg 8 8 (.lst (.lst (.lst .leaf))) (.list (.list (r0.map U1++[.list [.int 0]])::qs.map UP))&&AX))=AX
 rw[l4];rfl
theorem Dc{cs qd:A1}{ls ls2:L3}{ρ:UB}(h:ρ[4]?=O (O (.pub (jnD cs qd ls ls2)))):mOr (UJ (oIB λi j=>decide (j<i)) (KH U0 (UE (UR 4 (UF (.int 0))) (UD))) (UF (.int 6))) (UJ (oIB λi j=>decide (j<i)) (KH U0 (UE (UR 4 (UF (.int 1))) (UD))) (UF (.int 7))) ρ=.ok (!Za cs qd ls ls2) ρ:=by
 have i0:oIx (jnD cs qd ls ls2) (.int 0)=O (.list ((cs++qd).map int)):=K8 (j:=0) AV;have i1:oIx (jnD cs qd ls ls2) (.int 1)=O (.list ((ls++ls2.map (shL cs.length)).map UP)):=K8 (j:=1) AV;have l0:U0 [.list ((cs++qd).map int)]=O (.int ((cs.length+qd.length:Nat):Int)):=by rw[KS,Qd,Qh]
 have l1:U0 [.list ((ls++ls2.map (shL cs.length)).map UP)]=O (.int ((ls.length+ls2.length:Nat):Int)):=by rw[KS,Qd,Qh,Qd]
 have e1:UJ (oIB λi j=>decide (j<i)) (KH U0 (UE (UR 4 (UF (.int 0))) (UD))) (UF (.int 6)) ρ=.ok (decide ((6:Int)<((cs.length+qd.length:Nat):Int))) ρ:=UZ (Zi (UG (Kw h UK i0) UL) l0) UK AV;have e2:UJ (oIB λi j=>decide (j<i)) (KH U0 (UE (UR 4 (UF (.int 1))) (UD))) (UF (.int 7)) ρ=.ok (decide ((7:Int)<((ls.length+ls2.length:Nat):Int))) ρ:=UZ (Zi (UG (Kw h UK i1) UL) l1) UK AV;have e:=Lw e1 λ_=>e2;rw[e]
 congr 1
 unfold Za;by_cases h1:cs.length+qd.length<=6<;>by_cases h2:ls.length+ls2.length<=7
 .rw[QG h1,QG h2,Qy (by omega),Qy (by omega)];rfl
 .rw[QG h1,Qy h2,Qy (by omega),QG (by omega)];rfl
 .rw[Qy h1,QG (by omega)];rfl
 .rw[Qy h1,QG (by omega)];rfl
theorem Db:∀ns:A1,ns.length<=63->XN [.list (ns.map int)]=O (.bool AX):=by
 intro ns hns;refine ZC (ρ:=[pb (.list (ns.map int)),AW,AW,AW,AW,AW,AW,AW,AW,AW,AW,AW,AW]) AV ?_;unfold WV;obtain⟨r,hr,cs,ls,rfl,g,_⟩:=NW 5 6 5 (ns:=ns) (by omega) 0;obtain⟨r,hr2,qd,ls2,rfl,g2,_⟩:=NW 4 5 4 (ns:=ns) (by omega) 7;have c6:=g.c6;have l7:=g.l7;have l72:=g2.l7
 let S:Option Sl:=O (.pub (.list (ns.map int)))
 let A:Option Sl:=O (.pub (UU cs ls))
 let B:Option Sl:=O (.pub (UU qd ls2))
 have ez:X3 6 (2*(10000+1)) (.list [UU cs ls,UU qd ls2]):=So (λx hx=>by
  have hx:x=UU cs ls∨x=UU qd ls2:=by simpa using hx
  rcases hx with rfl|rfl
  .exact Ni g
  .exact Ni g2) (Qq _)
 have hrp:X1 [.list [UU cs ls,UU qd ls2]]=O (.str (Uo [UU cs ls,UU qd ls2]).shown):=by obtain⟨h1,h2,h3,h4,h5,h6⟩:=ez;refine DH ⟨h1,h3,PyData.hasDict_of_canLay _ h1,by omega,?_⟩;have:=PyData.shown_le_bulk 8 (by decide) _ h2;omega
 have hok:Ur (Uo [UU cs ls,UU qd ls2]).shown=AX:=ez.2.2.2.2.2;generalize (Uo [UU cs ls,UU qd ls2]).shown=z at hrp hok
 let Z:Option Sl:=O (.pub (.str z))
 let T:Option Sl:=O (.pub (jnD cs qd ls ls2))
 have hzn:oNe (.str z) (.str z)=O AY:=by rw[Fh hok hok];simp
 refine U5 (ρ1:=[S,A,AW,AW,AW,AW,AW,AW,AW,AW,AW,AW,AW]) (K9 (Kk (UG (UH AV) (UG UK (UG UK (UG UK (UG UK UL))))) AV hr) (Qa AV) AV) ?_;refine U5 (ρ1:=[S,A,B,AW,AW,AW,AW,AW,AW,AW,AW,AW,AW]) (K9 (Kk (UG (UH AV) (UG UK (UG UK (UG UK (UG UK UL))))) AV hr2) (Qa AV) AV) ?_;refine U5 (ρ1:=[S,A,B,Z,AW,AW,AW,AW,AW,AW,AW,AW,AW]) (K9 (Zi (UG (KW (UG (UH AV) (UG (UH AV) UL)) (Qa AV)) UL) hrp) (Qa AV) AV) ?_;refine U5 (ρ1:=[S,A,B,Z,T,AW,AW,AW,AW,AW,AW,AW,AW]) (K9 (Kk (UG (UH AV) (UG (UH AV) UL)) AV (Hw g g2)) (Qa AV) AV) ?_;apply Kv;refine V3 (P:=λo=>∃x5 x6 x7 x8,o=.nx [S,A,B,Z,T,x5,x6,x7,x8,AW,AW,AW,AW]) ?_ ?_
 .refine Kl (Dc AV) (λhb=>?_) λhb=>?_
  .have hf:Za cs qd ls ls2=AY:=by simpa using hb
   have hx:=Aq g g2;rw[hf]at hx;have nj:oNe (.str "join") (.str "join")=O AY:=by kernel_rfl
   exact Kl (b:=AY) (UZ (Kk (UG (Kk (UG (UH AV) (UG (UH AV) UL)) AV (T4 hx AV)) UL) AV FH) UK nj) (λz=>by cases z) λ_=>Ky ⟨_,_,_,_,rfl⟩
  .have hf:Za cs qd ls ls2=AX:=by simpa using hb
   have hf2:=hf;unfold Za at hf2;rw[Qw]at hf2;have gj:=Ob g g2 (Qa hf2.1) (Qa hf2.2);have hT:=Ap g g2 hf;have hl1:=g.l1
   obtain⟨r0,qs,hq⟩:∃r0 qs,ls++ls2.map (shL cs.length)=r0::qs:=by
    cases e:ls++ls2.map (shL cs.length)with
    |nil=>have:=J6 List.length e;rw[Qh,QO]at this;omega
    |cons a b=>exact⟨a,b,rfl⟩
   have hj:jnD cs qd ls ls2=.tuple [.list ((cs++qd).map int),.list (.list (r0.map U1)::qs.map UP)]:=by unfold jnD UU;rw[hq];rfl
   have qU:oNe (jnD cs qd ls ls2) (jnD cs qd ls ls2)=O AY:=Fo _ _;have hl:=gj.l7;rw[hq,QK]at hl;have gr:∀q∈r0::qs,Y7 (cs++qd).length q:=λq m=>gj.rk q (by rw[hq];exact m)
   have hlen:=Cn (gr r0 Qg) (λq m=>gr q (Qj _ m)) gj.c6 (by omega);have hr0:=(gr r0 Qg).few;apply YJ (ds:=Zg 0 2) (λ_ ρ=>∃x5 x6 x7 x8,ρ=[S,A,B,Z,T,x5,x6,x7,x8,AW,AW,AW,AW])
   case h1=>exact V7 (UG UK UL) (Td (by decide) (by decide))
   case h0=>exact⟨_,_,_,_,rfl⟩
   case hst=>
    rintro i d ρ hi ⟨x5,x6,x7,x8,rfl⟩;obtain⟨rfl,_⟩:=Te hi;generalize hI:O (Sl.pub (.int (0+(i:Int))))=I5;refine⟨[S,A,B,Z,T,I5,x6,x7,x8,AW,AW,AW,AW],by subst hI;exact US (Qa AV) AV,?_⟩;unfold PY;rw[hj]at hT qU;have eT:T=O (.pub (.tuple [.list ((cs++qd).map int),.list (.list (r0.map U1)::qs.map UP)])):=J6 (λz=>O (Sl.pub z)) hj;rw[eT];refine U5 (GH (Kk (UG (UH AV) (UG (UH AV) UL)) AV hT) (Qa AV) AV) ?_;apply Kv;refine Kl (b:=AY) (S8 (Yi (ZF (UH AV) AV) (Yi (Vt AV (UH AV) qU) (UZ (Zi (UG (KW (UG (UH AV) (UG (UH AV) UL)) (Qa AV)) UL) hrp) (UH AV) hzn)))) (λz=>by cases z) λ_=>Ky (KI ?_)
    refine U5 (GF AV AV AV) ?_;refine U5 (Fs AV (La (by rw[Qd];omega)) AV) ?_;apply Kv;have d1:∀x:D,Yt (.list (x::qs.map UP)) (O 1) AW=O (.list (qs.map UP)):=λx=>by rw[T9];exact J6 (λz=>O (Uo z)) (Cr (a:=1))
    refine Kl (b:=AY) (S8 (UZ (VX (Kw AV UK AV) (Wg UK) UK (d1 _)) (VX (Kw AV UK AV) (Wg UK) UK (d1 _)) (FF qs))) (λz=>by cases z) λ_=>Ky (KI ?_)
    refine U5 (EW AV AV hlen (by decide +kernel) (by simp) AV) ?_;exact Ky (Z1 ⟨_,_,_,_,rfl⟩)
   case hend=>rintro ρ ⟨x5,x6,x7,x8,rfl⟩;exact⟨_,_,_,_,rfl⟩
 rintro _ ⟨x5,x6,x7,x8,rfl⟩;refine KI ?_;obtain⟨v,hv⟩:=RT ns 13 (by omega);have ln:U0 [.list (cs.map int)]=O (.int cs.length):=by rw[KS,Qd]
 have i0:oIx (UU cs ls) (.int 0)=O (.list (cs.map int)):=K8 (j:=0) AV;apply Kv;apply YJ (λ_ ρ=>∃x5 x6 x7 x8 x9 jb jq jf,ρ=[S,A,B,Z,T,x5,x6,x7,x8,x9,jb,jq,jf])
 case h1=>exact V6 (UG (UZ (KW (UG (Kk (UG (UH AV) (UG UK UL)) AV hv) UL) (Qa AV)) (VX (UH AV) (Wg UK) (Wg UK) T9) (Cw (by omega))) UL) Tc
 case h0=>exact⟨_,_,_,_,_,_,_,_,rfl⟩
 case hst=>
  rintro i d ρ hi ⟨x5,x6,x7,x8,x9,jb,jq,jf,rfl⟩;obtain⟨x,hx,rfl⟩:=T6 hi;obtain⟨c,rfl⟩:=Cy hx;rw[Nat.zero_add];refine⟨_,KY AV (Kc (US (Qa AV) AV) (Kc (US (Qa AV) AV) KZ)),?_⟩;unfold PZ;obtain⟨r,hm,us,rfl,dm⟩:=Nw g c (20+(i:Int));obtain⟨r,hy,ws,rfl,dy⟩:=Nw g2 c (60+(i:Int));have lu:=dm.len;have lw:=dy.len;have bO:=FL g (us:=us) (ws:=ws) (by omega) (by omega);have bF:=FJ g (us:=us) (ws:=ws) (by omega) (by omega);have lb:=Ay (n:=cs.length) (ws:=ws) (by omega);have add:UQ (Kq us) (.list ((ws.map (shO cs.length)).map U6))=O (.list (bsL cs.length us ws)):=YE (by rw[Qd,Qd,Qd];omega);have hb:Uo (bsL cs.length us ws)=Kq (us++ws.map (shO cs.length)):=by unfold bsL Kq;rw[Q3]
  have nb:oNe (.list (bsL cs.length us ws)) (.list (bsL cs.length us ws))=O AY:=by rw[hb];exact Oe _
  obtain⟨r,hn,ds,rfl,hdl,hdb⟩:=Sn c (100+(i:Int)) (sizes:=[6]) (by decide) (by decide)
  match ds,hdl with
  |[k0],_=>
  have b0:=hdb 0 k0 6 AV AV
  let I:Option Sl:=O (.pub (.int i))
  let C:Option Sl:=O (.pub (.int c))
  let U:Option Sl:=O (.pub (Kq us))
  let W:Option Sl:=O (.pub (Kq ws))
  refine U5 (ρ1:=[S,A,B,Z,T,x5,x6,x7,x8,I,C,U,jf]) (K9 (Kk (UG (UH AV) (UG (UH AV) (UG (UZ UK (UH AV) Zq) UL))) AV hm) (Qa AV) AV) ?_;refine U5 (ρ1:=[S,A,B,Z,T,x5,x6,x7,x8,I,C,U,W]) (K9 (Kk (UG (UH AV) (UG (UH AV) (UG (UZ UK (UH AV) Zq) UL))) AV hy) (Qa AV) AV) ?_;refine U5 (ρ1:=[S,A,B,Z,T,x5,O (.own (bsL cs.length us ws)),x7,x8,I,C,U,W]) (ZV (GQ (UG (UH AV) (UG (UH AV) (UG (UH AV) UL))) AV bO) (Qa AV) AV) ?_;apply Kv;refine Kl (b:=AY) (S8 (Vt AV (UZ (UH AV) (Kk (UG (UH AV) (UG (Zi (UG (Kw AV UK i0) UL) ln) UL)) AV lb) add) nb)) (λz=>by cases z) λ_=>Ky (KI ?_)
  apply Kv;refine Kl (b:=AY) (YB (t:=AX) (Wl (Kk (UG (UH AV) (UG (UH AV) (UG (Kk (UG (UH AV) (UG (UZ UK (UH AV) Zq) (UG (KW (UG UK UL) (Qa AV)) UL))) AV hn) UL))) AV (Dd g b0)))) (λz=>by cases z) λ_=>Ky (KI ?_)
  refine U5 (FE AV AV AV) ?_;have lU:U0 [Kq us]=O (.int us.length):=by unfold Kq;rw[KS,Qd]
  have sl:Yt (.list (bsL cs.length us ws)) AW (O (us.length:Int))=O (Kq us):=by rw[T9,FM];unfold bsL;rw[List.take_left' (by rw[Qd])];rfl
  exact Kl (b:=AY) (UZ (VX (Kk (UG (UH AV) (UG (UH AV) (UG (UH AV) UL))) AV bF) UK (Wg (Zd AV lU)) sl) (UH AV) (Oe us)) (λz=>by cases z) λ_=>Ky (Z1 ⟨_,_,_,_,_,_,_,_,rfl⟩)
 case hend=>
  rintro ρ ⟨x5,x6,x7,x8,x9,jb,jq,jf,rfl⟩;have hze:oEq (.str z) (.str z)=O AX:=by rw[Fi hok hok];simp
  exact KI (KL (KE (k:=Up) (UZ (Zi (UG (KW (UG (UH AV) (UG (UH AV) UL)) (Qa AV)) UL) hrp) (UH AV) hze)) AV)
end W
open PySem PySem.W PyProof.Rows
set_option maxRecDepth 100000 in
set_option maxHeartbeats 0 in
theorem PySem.Challenge.cw_wishdeal_k80_beside_one_another_holds : PySem.Challenge.rw_wishdeal_k80_beside_one_another.Holds := by
 w_on;o_law
 refine holds_open (q:=W.q0) (loose:=[]) (Xt:=λs=>xlAt W.q0 [] s&&recOk [] s) (XP:=XL W.q0 []) (Yf:=DL.xSeen W.clsL) (Ya:=λ_=>DL.xGood W.p0 W.clsL) (YP:=λ_ h=>DL.XYP W.p0 W.clsL h) (N:=7770) (d:=W.d_av) (kwd:=[])
  W.Ht (λ_ _ e=>DL.LF e) (λ_ _ _ y k=>y.keeps k) (λs e=>xl_of s (Bool.and_eq_true_iff.mp e).1) XL.keeps (by rfl) (by rfl) (by rfl)
  (λs e=>recFacts_of (Bool.and_eq_true_iff.mp e).2) (by rfl) (by assumption) (by decide +kernel) ⟨rfl,rfl,rfl,rfl,rfl,by decide +kernel⟩ ?hw (W.walk W.Db)
 case hw=>w_witness2


import PyProof.Rows.All
import Wide.All
import OpenK.AllK
import Wide.FinOn
import Lean
import PyProof.EqAt
import PyProof.EqKinds
import PyProof.TupleCall
import PyProof.EnumMake
import PyProof.ZipIter
import PyProof.ExcClass2
import PyProof.ExcInit
import PyProof.ExcBaseAll.ValueError
import PyProof.FString2
import PyProof.ExcArgsOwn
import PyProof.InstStoreFacts
import ObjForm.Fk.InstStore
import ObjForm.Fk.InstLoad
import PyProof.StationsW
import PyProof.RulesAs
import PyProof.NsDelKeeps
import OpenK.KMore
import PyProof.IsiBase
import OpenK.KNot
import PyProof.Rows.RuleN_isinstance
import PyProof.NeData
import PyProof.P3In
import PyProof.StrWalks
import PyProof.ConsumeWalk
import PyProof.SliceStr2
import PyProof.MeetsStr
import KE.KItem
import KE.KUnpack
import KE.KRevSl
import PyProof.Rows.SetFrom
import PyProof.SetRoads
import PyProof.Rows.Range3
import PyProof.CallType
import PyProof.Rows.CallKwBuiltin
import PyProof.Rows.MinMaxN
import PyProof.SumWalkG
import PyProof.Rows.SeqMore
import PyProof.Rows.SortWalk
import PyProof.Rows.SumAny
import PyProof.Rows.SeqMore2
import KE.KSortTup
import PyProof.Rows.SortShellK
import PyProof.ReprRoads
import PyProof.ReprBulk
import PyProof.CallFns
import PyProof.NeKinds
import PyProof.Rows.StrJoinMade
import PyProof.StrCalls
import KE.KIntText
import PyProof.ReprDict
import PyProof.DictIter
import PyProof.Rows.DictUnroll
import PyProof.MeetsStr2
import PyProof.Rows.StrNews
import PyProof.StrLawsChain
import PyProof.Rows.StrItems
import PyProof.SeqRoads2
import PySem.Challenge.RW_wishdeal_k32_no_wishes_no_way
set_option compiler.extract_closed false
set_option Elab.async false
set_option linter.all false
set_option maxRecDepth 100000
set_option maxHeartbeats 4000000
open Option renaming some→O,none→qu
open Bool renaming true→qv,false→qw
theorem qt.{u}{α:Sort u}{a:α}:a=a:=rfl
abbrev qy:=List Int
abbrev qD:=Option Int
abbrev qH:=Option Bool
abbrev qI:=List Nat
theorem Qa:type_of% @of_decide_eq_true:=@of_decide_eq_true
theorem Qo:type_of% @if_pos:=@if_pos
theorem Qs:type_of% @decide_eq_false:=@decide_eq_false
theorem Qy:type_of% @if_neg:=@if_neg
theorem QB:type_of% @decide_eq_true:=@decide_eq_true
theorem QU:type_of% @decide_eq_true_eq:=@decide_eq_true_eq
theorem Ju:type_of% @of_decide_eq_false:=@of_decide_eq_false
theorem JO:type_of% @congrArg:=@congrArg
theorem JZ:type_of% @if_false:=@if_false
open PySem renaming wpAny_bind→Qb,wpAny_pure→Qh,wpAny_loadPart_at→Qj,wpAny_mono→Qr,wpAny_isSubtype_exc→QE,wpAny_truthy_bool→QX,wpAny_standAt→QZ,wpAny_field→Q3,codeAny_call_builtin→Q6,wpAny_Call_Name_kw→Je,codeAny_mono→Ji,wpAny_holding→Jp,sizeLine_eq→Jw,wpAny_pyIter_list→Jx,mem_of_lookup→JG,Value→J5,Shared→J6,Program→J7,Addr→J8,FuncData→J9,Expr→Ua,sizeLine→Ub,wpAny→Uc,starEach→Ud,compareOp→Ue,assignEach→Ut,foldedSetIterable→Uu
open List renaming length_map→Qd,getElem?_eq_getElem→Qe,getElem?_map→Qi,getElem?_eq_some_iff→Ql,length_append→Qm,getElem?_set_ne→Qn,mem_cons_self→Qp,getElem?_append_left→Qq,mem_cons_of_mem→Qu,getElem?_append_right→Qv,getElem?_replicate→Qw,length_cons→QC,mem_append_right→QD,mem_map→QF,map_cons→QG,getElem?_set_self→QI,flatten_cons→QJ,mem_cons→QL,length_nil→QM,size_toArray→QN,lookup_cons→QO,mem_of_getElem?→QP,contains_cons→QQ,getD_eq_getElem?_getD→QR,length_replicate→QT,mem_singleton→QW,replicate_succ→Q0,all_eq_true→Q2,nil_append→Q7,length_singleton→Q8,length_set→Jb,map_append→Jc,map_map→Jd,mem_range→Jf,mem_append→Jg,append_nil→Jh,pairwise_cons→Jj,getElem_mem→Jl,filter_eq_self→Jq,getElem?_eq_none→Js,mem_append_left→Jv,length_range→Jy,drop_eq_getElem_cons→JC,all_cons→JF,getElem?_cons_succ→JH,append_assoc→JM,length_take→JQ,mem_flatten→JS,mem_filter→J0,range→Uf,replicate→Ug,Pairwise→Ur
open PySem.Heap renaming get?_push_of_some→Qf,lt_size→Qg,get?_push_size→Qt,get?_update_other→QK,get?_update_self→Q4
open Nat renaming le_refl→Qk,lt_of_lt_of_le→Qz,ne_of_lt→QA,le_trans→QH,le_of_not_lt→QY,lt_irrefl→Ja,ne_of_gt→Jn,le_succ→Jz,zero_add→JK
open Bool renaming and_eq_true→Qx,false_eq_true→Jt,and_false→JB,false_ne_true→JJ,not_eq_true'→JN,or_eq_false_iff→JP,false_and→JV,or_true→JW,false_or→JX,true_and→JY
open Option.some renaming inj→QS
open Array renaming getD_eq_getD_getElem?→Q5,getElem?_eq_some_iff→Jo,getElem?_eq_getElem→JD,length_toList→JT
open Int renaming toNat_natCast→Q9,emod_lt_of_pos→JA,le_refl→JE,emod_nonneg→JL,zero_add→JR,not_lt→J4
open PySem.W.Fast renaming te1987589406359920131→Jk
open PyProof.Rows renaming callWith_type1→Jm
open PySem.W renaming kia_one→Jr
open Option renaming getD_some→JI
open Array.Perm renaming refl→JU
open PySem.PyData renaming list→Uh,bool→Ui,str→Uj,strOk→Uk,canLayAll0→Ul,depth→Um,eqv→Uo,shown→Us
open PySem.PassesOwn renaming never→Up
open PySem.Str renaming ofString→Uq
abbrev qz:=List J5
abbrev qA:=List Ua
abbrev qC:=Option J5
abbrev qF:=List J8
abbrev qG:=Option J8
abbrev L3:=List (List qy)
abbrev LO:=List qD
abbrev LP:=List (Int×Int)
open PySem.W (Frag)
open PySem.PyData (int)
open List (replicate)
namespace DL
open PySem PySem.Spec PySem.W PyProof.Rows
def topRunT(tb:String->Option Builtin)(p:J7)(w:World)(m:Nat)(ann:qC):Nat->SharedT->Thread->Option SharedT
 |0,_,_=>qu
 |n+1,s,t=>match through t,stepOk m ann t with
  |true,_=>O s
  |false,qw=>qu
  |false,qv=>match stepT (denote tb) p w s t with
   |some x=>topRunT tb p w m ann n x.1 x.2
   |none=>qu
theorem ML{tb:String->Option Builtin}{p:J7}{w:World}{m:Nat}{ann:qC}:∀{n:Nat}{s s':SharedT}{t:Thread},topRunT tb p w m ann n s t=O s'->topRun tb p w m ann n s.abs t=O s'.abs
 |0,_,_,_,h=>by cases h
 |n+1,s,s',t,h=>by
  rw[topRunT]at h;rw[topRun];cases ht:through t with
  |true=>rw[ht]at h;cases h;rfl
  |false=>
   rw[ht]at h;cases hk:stepOk m ann t with
   |false=>rw[hk]at h;cases h
   |true=>
    rw[hk]at h;dsimp only at h⊢;cases hs:stepT (denote tb) p w s t with
    |none=>rw[hs]at h;cases h
    |some x=>rw[hs]at h;rw[stepT_spec hs];exact ML h
def btOf(l:List Obj):BT:=(l.foldl (λ(x:BT×Nat) o=>(x.1.ins x.2 o,x.2+1)) (.nil,0)).1
noncomputable def T0 (w:World) (os:OsState):SharedT:=⟨btOf (boot_heap w.params).objs.toList,11,(boot_heap w.params).life,#[],boot_drawn,boot_toks,os⟩
theorem DM(w:World)(os:OsState):(T0 w os).abs=⟨boot_heap w.params,#[],boot_drawn,boot_toks,os⟩:=by kernel_rfl
theorem BX(w:World):((boot_heap w.params).isNs mainGlobals&&(#[]:Array GenState).size==0,(boot_heap w.params).objs.size,(boot_heap w.params).nsMap mainGlobals "__annotations__")=(qv,11,O (.ref 6)):=by kernel_rfl
noncomputable abbrev Hv (p q:J7) (loose:List Str) (Xt:J6->Bool) (w:World) (t:SharedT):=
 ((staticsOk (importedModules p.main.body) (boot_heap w.params) t.abs.heap&&namesBound p t.abs.heap&&gensDone t.abs&&laidKept (boot_heap w.params) t.abs.heap),openSeen q loose (importedModules p.main.body) Xt qv t.abs)
abbrev VB0:qz:=[.type "ValueError", .type "Exception", .type "BaseException", .type "object"]
def Rb:List Str:=["__setattr__", "__getattribute__", "__getattr__", "__class__", "part", "number", "row"]
def Wn(nm:Str):Str:=nm ++ "." ++ "__init__"
def xB(h:Heap)(nm:Str)(own:Bool):Bool:=match h.nsMap mainGlobals nm with
 |some (.ref C)=>(match h.get? C with
  |some ⟨.type t,_,.cls cd,sl⟩=>(t == "type")&&(cd.name==nm)&&cd.hasDict && !cd.hasDel&&(match sl.toList with | [_,_,_,_,k4,_]=>decide (k4=O (.builtin "ValueError.__new__"))|_=>qw)&&h.isNs cd.ns&&(Rb.all λx=>(h.nsMap cd.ns x).isNone)&&(own || (h.nsMap cd.ns "__init__").isNone) &&
   (if nm = "DealError" then decide (cd.mro=.ref C::VB0)else match h.nsMap mainGlobals "DealError" with|some (.ref D)=>decide (cd.mro=.ref C::.ref D::VB0)|_=>qw)
  |_=>qw)
 |_=>qw
def xSh(h:Heap)(nm:Str):Option (Bool×FnShape):=match h.nsMap mainGlobals nm with
 |some (.ref C)=>(match h.get? C with
  |some ⟨_,_,.cls cd,_⟩=>(match h.fnAt cd.ns "__init__", h.shapeAt cd.ns "__init__" with|some (_,o,_),O sh=>O (decide (o.cls=.type "function"),sh)|_,_=>qu)
  |_=>qu)
 |_=>qu
def Yh(st:Stmt):Stmt:=match st with
 |.ClassDef _ _ _ (m::_) _ _ _ _ _ _ _=>m
 |_=>.Pass ⟨0,0,0,0⟩
def PD(s:Stmt):Arguments:=match s with
 |.FunctionDef _ a _ _ _ _ _ _ _ _=>a
 |_=>default
def PB(s:Stmt):List Stmt:=match s with
 |.FunctionDef _ _ b _ _ _ _ _ _ _=>b
 |_=>[]
def P6(s:Stmt):Scope:=match s with
 |.FunctionDef _ _ _ _ _ _ sc _ _ _=>sc
 |_=>{kind:=.function,names:=[],isGenerator:=qw,isCoroutine:=qw}
def WR(nm:Str)(st:Stmt):FnShape:=⟨"__init__", Wn nm,PD st,.stmts (PB st),P6 st,mainGlobals,[],.none,.none,qu,.none,builtinsNs,qv⟩
abbrev XL0:=List (Str×Option Nat)
def xSeen(l:XL0)(s:J6):Bool×List (Bool×Option (Bool×FnShape)):=(s.heap.isNs cStatics&&(s.heap.nsMap cStatics "thirdparty.any").isNone,l.map λc=>(xB s.heap c.1 c.2.isSome,if c.2.isSome then xSh s.heap c.1 else qu))
def xGood(p:J7)(l:XL0):Bool×List (Bool×Option (Bool×FnShape)):=(qv,l.map λc=>(qv,c.2.map λi=>(qv,WR c.1 (Yh (p.main.body.getD i (.Pass ⟨0,0,0,0⟩))))))
theorem DK{α:Type}{Yf:J6->α}{Ya:World->α}{p q:J7}{loose:List Str}{Xt:J6->Bool}{N M:Nat}(e:opening p=plainProg p.main.scope.names)(hN:Nat.ble 600 N=qv)(f:∀s,fenceModules? p s=O s)(le:Nat.ble M N=qv)
  (run:∀(w:World)(os:OsState),(topRunT treeTable p w 11 (O (.ref 6)) M (T0 w os) (topStub p)).map (λt=>(Hv p q loose Xt w t,Yf t.abs))=O ((qv,openGood q loose),Ya w)):LeftO p q loose Xt Yf Ya N:=λw=>by
 obtain⟨⟨h,gs,d,k,os⟩,e0,e'⟩:=Option.map_eq_some_iff.mp (boot_open e hN f w);have e':(h,gs,d,k)=(boot_heap w.params,#[],boot_drawn,boot_toks):=e';obtain⟨rfl,rfl,rfl,rfl⟩:h=boot_heap w.params/\gs=#[]/\d=boot_drawn/\k=boot_toks:=by simpa only[Prod.mk.injEq]using e'
 obtain⟨t,ht,l⟩:=Option.map_eq_some_iff.mp (run w os);have hr:=ML ht;rw[DM]at hr;have r:=topRun_mono (N-M) _ _ _ _ hr;rw[show M+(N-M)=N by have:=Nat.le_of_ble_eq_true le;omega]at r;obtain⟨l0,l3⟩:=Prod.mk.inj l;obtain⟨l1,l2⟩:=Prod.mk.inj l0;have z:=BX w;obtain⟨z1,z2,z3⟩:_/\_/\_:=by simpa only[Prod.mk.injEq]using z
 have tf:topFrom treeTable p w N ⟨boot_heap w.params,#[],boot_drawn,boot_toks,os⟩=O t.abs:=by
  unfold topFrom;dsimp only;rw[z1,z2,z3,r]
  show(match staticsOk (importedModules p.main.body) (boot_heap w.params) t.abs.heap&&namesBound p t.abs.heap&&gensDone t.abs&&laidKept (boot_heap w.params) t.abs.heap with|true=>O t.abs|false=>qu)=_
  rw[l1]
 unfold openEnds;rw[e0]
 show(topFrom treeTable p w N _).map _=_
 rw[tf];exact JO O (Prod.ext l2 l3)
end DL
open PySem in
lay_quick PySem.Challenge.pw_wishdeal_k32_no_wishes_no_way DL.topRunT PySem.W.openGood PySem.W.staticsOk PySem.W.namesBound PySem.W.laidKept PySem.W.xlAt DL.xSeen DL.xGood
namespace W
open PySem PySem.Spec DL
abbrev p0:J7:=PySem.Challenge.pw_wishdeal_k32_no_wishes_no_way
def YQ:qI:=[1,2,4,5,6,7,8,9,10,11,12,13,14,15,16,17,19,20,21,22,23,24,25,26,27,28,29,31,33,34,35,37,38,39,41,42,43,44,45,47,48,49,50,51,52,54,55,56,57,59,60,61,62,63,64,65,66,67,68,69,70,71]
def ixL:qI:=[1,2,23,24,25,26,27,28,29,31,34,35,37,38,39,41,42,43,44,45,47,48,49,50,51,52,54,55,56,57,59,60,61,62,63,64,65,66,67,68,69,70,71]
abbrev q0:J7:=PySem.W.view p0 YQ
def clsL:XL0:=[("DealError", O 4),("NoWishes", O 5),("NoAim", O 6),("NoText", O 7),("NoWay", qu),("NoPlace", qu),("NoChange", qu),("NoNumbering", qu),("NoJoin", qu),("NoBook", qu),("NoDeed", qu),("NoRow", qu),("NoName", qu),("TooMany", qu)]
theorem Hu:∀(w:World)(os:OsState),(PySem.W.Fast.tw10708255244068714335 PySem.W.Fast.tw14364793385576792824 PySem.W.Fast.tw13195080154105430014 w 11 (O (.ref 6)) 4639 (T0 w os) (PySem.W.topStub PySem.W.Fast.tw13195080154105430014)).map (λt=>(((PySem.W.Fast.tw13471830651028734593 (PySem.W.Fast.tw5923862056798008813 (Program.main PySem.W.Fast.tw13195080154105430014).body) (PySem.W.boot_heap w.params) t.abs.heap&&PySem.W.Fast.tw4683006035507612052 PySem.W.Fast.tw13195080154105430014 t.abs.heap&&PySem.W.gensDone t.abs&&PySem.W.Fast.tw16898566250750103049 (PySem.W.boot_heap w.params) t.abs.heap),PySem.W.Fast.tw4187177175401517315 (PySem.W.view PySem.W.Fast.tw13195080154105430014 YQ) [] (PySem.W.Fast.tw5923862056798008813 (Program.main PySem.W.Fast.tw13195080154105430014).body) (λs=>PySem.W.Fast.tw4757257242682413121 (PySem.W.view PySem.W.Fast.tw13195080154105430014 YQ) [] s&&PySem.W.recOk [] s) qv t.abs),PySem.W.Fast.tw11121216462471823999 clsL t.abs))=O ((qv,PySem.W.Fast.tw3486900944545009338 (PySem.W.view PySem.W.Fast.tw13195080154105430014 YQ) []),PySem.W.Fast.tw18030470931243306169 PySem.W.Fast.tw13195080154105430014 clsL):=by intro w os;kernel_rfl
theorem Ht:PySem.W.LeftO p0 q0 [] (λs=>PySem.W.xlAt q0 [] s&&PySem.W.recOk [] s) (xSeen clsL) (λ_=>xGood p0 clsL) 9178:=by
 refine DK (M:=4639) (by kernel_rfl) qt (λs=>by kernel_rfl) qt λw os=>?_
 have h:=Hu w os;rw[←PySem.W.Fast.te10708255244068714335,←PySem.W.Fast.te14364793385576792824,←PySem.W.Fast.te4187177175401517315,←PySem.W.Fast.te5923862056798008813,←PySem.W.Fast.te13471830651028734593,←PySem.W.Fast.te4683006035507612052,←PySem.W.Fast.te16898566250750103049,←PySem.W.Fast.te4757257242682413121,←PySem.W.Fast.te3486900944545009338,←PySem.W.Fast.te11121216462471823999,←PySem.W.Fast.te18030470931243306169,←PySem.W.Fast.te13195080154105430014]at h;exact h
end W
namespace L2
open PySem PySem.Spec PyProof.Rows
abbrev Key:=Sum Int Str
def Pz:Key->J5->Bool
 |.inl k,v=>Value.isInt k v
 |.inr x,v=>Value.isStrOf x v
def keyH(w:World):Key->Int
 |.inl k=>hashInt k
 |.inr x=>hashStr w x
theorem XI:∀{k:Key}{v:J5},Pz k v=qv->(∃i t,k=Sum.inl i/\v=Value.int i t)∨(∃x t,k=Sum.inr x/\v=Value.str x t)
 |.inl i,v,h=>by obtain⟨t,e⟩:=Value.isInt_shape (k:=i) (v:=v) h;exact .inl ⟨i,t,rfl,e⟩
 |.inr x,v,h=>by obtain⟨t,e⟩:=Value.isStrOf_shape (x:=x) (v:=v) h;exact .inr ⟨x,t,rfl,e⟩
theorem F2(a b:Int):decide ((Sum.inl a:Key)=Sum.inl b)=(a==b):=by
 by_cases e:a=b
 .subst e;simp
 .have h:¬(Sum.inl a:Key)=Sum.inl b:=λq=>e (Sum.inl.inj q)
  rw[Qs h];exact(beq_eq_false_iff_ne.mpr e).symm
theorem F1(a b:Str):decide ((Sum.inr a:Key)=Sum.inr b)=decide (a=b):=by
 by_cases e:a=b
 .subst e;simp
 .have h:¬(Sum.inr a:Key)=Sum.inr b:=λq=>e (Sum.inr.inj q)
  rw[Qs h,Qs e]
theorem FZ(a:Int)(b:Str):decide ((Sum.inl a:Key)=Sum.inr b)=qw:=Qs (λq=>nomatch q)
theorem FY(a:Str)(b:Int):decide ((Sum.inr a:Key)=Sum.inl b)=qw:=Qs (λq=>nomatch q)
def Td(prog:J7)(w:World):PySem.KeyKind prog w Key where
 is:=Pz
 hash:=keyH w
 inj:=λv a b ha hb=>by
  rcases XI ha with ⟨i,t,rfl,rfl⟩|⟨x,t,rfl,rfl⟩
  .rcases XI hb with ⟨j,u,rfl,e⟩|⟨y,u,rfl,e⟩
   .injection e with e1 _;rw[e1]
   .exact nomatch e
  .rcases XI hb with ⟨j,u,rfl,e⟩|⟨y,u,rfl,e⟩
   .exact nomatch e
   .injection e with e1 _;rw[e1]
 byValue:=λk v h=>by rcases XI h with ⟨i,t,rfl,rfl⟩|⟨x,t,rfl,rfl⟩<;>rfl
 pyHash:=λhv h=>by
  rcases XI hv with ⟨i,t,rfl,rfl⟩|⟨x,t,rfl,rfl⟩
  .exact wpAny_pyHash_int h
  .exact wpAny_pyHash_str h
 eqBool:=λhu hv h=>by
  rcases XI hu with ⟨i,t,rfl,rfl⟩|⟨x,t,rfl,rfl⟩
  .rcases XI hv with ⟨j,u,rfl,rfl⟩|⟨y,u,rfl,rfl⟩
   .rw[F2]at h;exact wpAny_eqBool_int h
   .rw[FZ]at h;exact SeqAt.EqAt.int_str i t y u _ _ _ _ h
  .rcases XI hv with ⟨j,u,rfl,rfl⟩|⟨y,u,rfl,rfl⟩
   .rw[FY]at h;exact SeqAt.EqAt.str_int x t j u _ _ _ _ h
   .rw[F1]at h;exact wpAny_eqBool_str h
 «strs»:=λk x t v h=>by
  rcases XI h with ⟨i,u,rfl,e⟩|⟨y,u,rfl,e⟩
  .exact nomatch e
  .injection e with e1 _
   subst e1;cases v<;>rfl
inductive V where
 |non|bl (b:Bool)|int (i:Int)|str (x:Str)|byt (b:Array UInt8)|flt (b:UInt64)|ref (a:J8)|ty (n:String)
 deriving DecidableEq
def RelV:V->J5->Prop
 |.non,u=>u=Value.none
 |.bl b,u=>u=Value.bool b
 |.int i,u=>∃t,u=Value.int i t
 |.str x,u=>∃t,u=Value.str x t
 |.byt b,u=>∃t,u=Value.bytes b t
 |.flt b,u=>∃t,u=Value.float b t
 |.ref a,u=>u=Value.ref a
 |.ty n,u=>u=Value.type n
abbrev Vals:List V->qz->Prop:=Paired RelV
theorem Vals.length{xs:List V}{us:qz}(r:Vals xs us):xs.length=us.length:=Paired.length r
theorem Vals.get:∀{xs:List V}{us:qz}{i:Nat}{x:V},Vals xs us->xs[i]?=O x->∃u,us[i]?=O u/\RelV x u
 |_,_,_,_,.nil,e=>by simp at e
 |_,_,0,_,.cons r _,e=>by simp at e;subst e;exact⟨_,rfl,r⟩
 |_,_,i+1,x,.cons _ t,e=>by obtain⟨u,h1,h2⟩:=Vals.get (i:=i) (x:=x) t (by simpa using e);exact⟨u,by simpa using h1,h2⟩
theorem Vals.set{x:V}{u:J5}(r:RelV x u):∀{xs:List V}{us:qz}(i:Nat),Vals xs us->Vals (xs.set i x) (us.set i u)
 |_,_,_,.nil=>.nil
 |_,_,0,.cons _ t=>.cons r t
 |_,_,i+1,.cons q t=>.cons q (Vals.set r i t)
theorem Vals.append:∀{xs ys:List V}{us ws:qz},Vals xs us->Vals ys ws->Vals (xs++ys) (us++ws)
 |_,_,_,_,.nil,s=>s
 |_,_,_,_,.cons r t,s=>.cons r (Vals.append t s)
theorem Vals.take:∀{xs:List V}{us:qz}(n:Nat),Vals xs us->Vals (xs.take n) (us.take n)
 |_,_,0,_=>.nil
 |_,_,_+1,.nil=>.nil
 |_,_,n+1,.cons r t=>.cons r (Vals.take n t)
theorem Vals.drop:∀{xs:List V}{us:qz}(n:Nat),Vals xs us->Vals (xs.drop n) (us.drop n)
 |_,_,0,r=>r
 |_,_,_+1,.nil=>.nil
 |_,_,n+1,.cons _ t=>Vals.drop n t
def Y9:Option V->qC->Prop
 |some v,O u=>RelV v u
 |none,qu=>True
 |_,_=>False
def KV{κ:Type}:List (κ×V)->List (κ×J5)->Prop:=Paired λ(p:κ×V) (q:κ×J5)=>p.1=q.1/\RelV p.2 q.2
def kV:Key->V
 |.inl i=>.int i
 |.inr x=>.str x
inductive HO where
  |lst (xs:List V)
  |tup (xs:List V)
  |dK (kvs:List (Key×V))|dT (kvs:List (List Key×V))
  |set (S:Int->Bool) (n:Nat)
  |ins (C dx:J8) (fs:List (Str×V))
  |own (x:J8)
  |xd (fs:List (Str×V))
  |met (f x:J8)
  |rng (lo hi:Int)
  |frz (o:Obj) (u:HO)
  |tbl (ps:Array J5)
  |ext (φ:Heap->Prop)
abbrev Hp:=J8->Option HO
def upd(H:Hp)(a:J8)(o:HO):Hp:=λb=>if b=a then O o else H b
theorem Kh{H:Hp}{a:J8}{o:HO}:upd H a o a=O o:=by unfold upd;rw[Qo qt]
theorem U4{H:Hp}{a b:J8}{o:HO}(h:b≠a):upd H a o b=H b:=by unfold upd;rw[Qy h]
theorem O0{H:Hp}{a:J8}{o u:HO}:upd (upd H a o) a u=upd H a u:=by funext b;unfold upd;split<;>rfl
theorem Yj{H:Hp}{a b:J8}{o:HO}(h:H a=O o)(h':H b=qu):a≠b:=by intro e;subst e;rw[h]at h';cases h'
section
variable(P:J7)(w:World)
def KT(H:Hp)(h:Heap)(a:J8):HO->Prop
 |.lst xs=>xs.length<=Ub/\∃(its:qz)(n:Nat),Vals xs its/\h.get? a=O {cls:=.type "list", data:=.seq its.toArray n}
 |.tup xs=>xs.length<=Ub/\∃its:qz,Vals xs its/\IsTup h a its.toArray
 |.dK kvs=>kvs.length<=Ub/\(a==sysModules)=qw/\∃vs,KV kvs vs/\h.DictOf (Td P w) a vs
 |.dT kvs=>kvs.length<=Ub/\(a==sysModules)=qw/\∃xs:List (List Key×J8×J5),
   Paired (λ(p:List Key×V) (q:List Key×J8×J5)=>p.1=q.1/\H q.2.1=O (.tup (p.1.map kV))/\RelV p.2 q.2.2) kvs xs /\
   ∃o es ep,h.get? a=O o/\o.ExactDict/\o.data=.dict es ep/\es.toList=xs.map (entryOfKey (tupleKind (Td P w)))/\(xs.map (·.1)).Nodup
 |.set S n=>h.SetOf (intKind P w) a S n
 |.ins C dx fs=>H dx=O (.own a)/\fs.length<=1000/\dx≠a/\h.get? a=O (PySem.W.instObj C dx) /\
   ∃mA,h.Ns1 dx mA/\(∀f,Y9 (fs.lookup f) (mA f))/\PySem.Within mA (fs.map (·.1))
 |.own _=>∃o,h.get? a=O o
 |.xd fs=>∃mA,h.Ns1 a mA/\∀f,Y9 (fs.lookup f) (mA f)
 |.rng lo hi=>∃t u v,h.get? a=O {cls:=.type "range", data:=.fields #[.int lo t,.int hi u,.int 1 v]}
 |.frz o u=>h.get? a=O o/\KT H h a u
 |.tbl ps=>h.get? a=O {cls:=.none,data:=.fields ps}
 |.met f x=>h.get? a=O (PySem.W.methodObj (.ref f) (.ref x))
 |.ext φ=>φ h/\(∃o,h.get? a=O o)/\∀h1 h2:Heap,φ h1->(∀o,h1.get? a=O o->h2.get? a=O o)->φ h2
def HOk(H:Hp)(h:Heap):Prop:=∀a o,H a=O o->KT P w H h a o
end
section
variable{P:J7}{w:World}{H H':Hp}{h h':Heap}{a:J8}{o:HO}
theorem KT.lt(x:KT P w H h a o):a<h.objs.size:=by
 cases o with
 |lst xs=>obtain⟨_,_,_,_,e⟩:=x;exact Qg e
 |tup xs=>obtain⟨_,_,_,p⟩:=x;exact p.lt
 |dK kvs=>obtain⟨_,_,_,_,o,_,_,e,_⟩:=x;exact Qg e
 |dT kvs=>obtain⟨_,_,_,_,o,_,_,e,_⟩:=x;exact Qg e
 |set S n=>obtain⟨o,_,_,_,e,_⟩:=x;exact Qg e
 |ins C dx fs=>obtain⟨_,_,_,e,_⟩:=x;exact Qg e
 |own y=>obtain⟨_,e⟩:=x;exact Qg e
 |xd fs=>obtain⟨_,⟨_,_,_,e,_⟩,_⟩:=x;exact Qg e
 |rng lo hi=>obtain⟨_,_,_,e⟩:=x;exact Qg e
 |frz ob u=>obtain⟨e,_⟩:=x;exact Qg e
 |tbl ps=>exact Qg (show h.get? a=O _ from x)
 |met f y=>exact Qg (show h.get? a=O _ from x)
 |ext φ=>obtain⟨_,⟨_,e⟩,_⟩:=x;exact Qg e
theorem Paired.mapP{α β:Type}{F G:α->β->Prop}:∀{l₁:List α}{l₂:List β},Paired F l₁ l₂->(∀a b,F a b->G a b)->Paired G l₁ l₂
 |_,_,.nil,_=>.nil
 |_,_,.cons r t,f=>.cons (f _ _ r) (Paired.mapP t f)
theorem KT.stay(x:KT P w H h a o)(k:∀b u,(b=a∨H b=O (.own a))->h.get? b=O u->h'.get? b=O u)
  (ho:∀b,H b=O (.own a)->H' b=O (.own a)) (ht:∀b xs,H b=O (.tup xs)->H' b=O (.tup xs)):KT P w H' h' a o:=by
 induction o with
 |lst xs=>obtain⟨z,its,n,r,e⟩:=x;exact⟨z,its,n,r,k _ _ (.inl qt) e⟩
 |tup xs=>obtain⟨z,its,r,ob,e,c⟩:=x;exact⟨z,its,r,ob,k _ _ (.inl qt) e,c⟩
 |dK kvs=>obtain⟨z,y,vs,r,ob,es,ep,e,c⟩:=x;exact⟨z,y,vs,r,ob,es,ep,k _ _ (.inl qt) e,c⟩
 |dT kvs=>obtain⟨z,y,xs,r,ob,es,ep,e,c⟩:=x;exact⟨z,y,xs,Paired.mapP r λp q z=>⟨z.1,ht _ _ z.2.1,z.2.2⟩,ob,es,ep,k _ _ (.inl qt) e,c⟩
 |set S n=>obtain⟨ob,es,ep,t,e,c⟩:=x;exact⟨ob,es,ep,t,k _ _ (.inl qt) e,c⟩
 |ins C dx fs=>obtain⟨d,z,ne,e,mA,⟨od,es,ep,e2,c⟩,r⟩:=x;exact⟨ho _ d,z,ne,k _ _ (.inl qt) e,mA,⟨od,es,ep,k _ _ (.inr d) e2,c⟩,r⟩
 |own y=>obtain⟨ob,e⟩:=x;exact⟨ob,k _ _ (.inl qt) e⟩
 |xd fs=>obtain⟨mA,⟨od,es,ep,e,c⟩,r⟩:=x;exact⟨mA,⟨od,es,ep,k _ _ (.inl qt) e,c⟩,r⟩
 |rng lo hi=>obtain⟨t,u,v,e⟩:=x;exact⟨t,u,v,k _ _ (.inl qt) e⟩
 |frz ob u ih=>obtain⟨e,q⟩:=x;exact⟨k _ _ (.inl qt) e,ih q⟩
 |tbl ps=>have e:h.get? a=O {cls:=.none,data:=.fields ps}:=x;show h'.get? a=O {cls:=.none,data:=.fields ps};exact k a _ (.inl qt) e
 |met f y=>have e:h.get? a=O (PySem.W.methodObj (.ref f) (.ref y)):=x;show h'.get? a=O (PySem.W.methodObj (.ref f) (.ref y));exact k a _ (.inl qt) e
 |ext φ=>obtain⟨p,⟨o,e⟩,st⟩:=x;exact⟨st _ _ p λo q=>k _ _ (.inl qt) q,⟨o,k _ _ (.inl qt) e⟩,st⟩
theorem HOk.lt(x:HOk P w H h)(e:H a=O o):a<h.objs.size:=(x a o e).lt
theorem HOk.fresh(x:HOk P w H h)(e:h.objs.size<=a):H a=qu:=by
 cases q:H a with
 |none=>rfl
 |some u=>exact absurd (Qz (x.lt q) e) (Ja _)
theorem HOk.kept(x:HOk P w H h)(k:∀b u,h.get? b=O u->h'.get? b=O u):HOk P w H h':=λa o e=>
 (x a o e).stay (λb u _ q=>k b u q) (λ_ q=>q) λ_ _ q=>q
theorem HOk.laid(x:HOk P w H h)(k:∀b u,h.get? b=O u->h'.get? b=O u)(hp:h.objs.size<=a)(new:KT P w (upd H a o) h' a o):HOk P w (upd H a o) h':=λb u e=>by
 have hn:=x.fresh hp;by_cases hb:b=a
 .subst hb;rw[Kh]at e;cases e;exact new
 .rw[U4 hb]at e
  exact(x b u e).stay (λc v _ q=>k c v q) (λc q=>by rw[U4 (Yj q hn)];exact q) λc xs q=>by rw[U4 (Yj q hn)];exact q
end
def Rd(H:Hp)(a:J8)(u:HO):Prop:=H a=O u ∨ ∃o,H a=O (.frz o u)
theorem Rd.ok{P:J7}{w:World}{H:Hp}{h:Heap}{a:J8}{u:HO}(r:Rd H a u)(x:HOk P w H h):KT P w H h a u:=by
 rcases r with r|⟨o,r⟩
 .exact x a u r
 .obtain⟨_,q⟩:=x a _ r
  exact q
def Mut:Option HO->Prop
 |some (.lst _)=>True
 |some (.dK _)=>True
 |some (.dT _)=>True
 |some (.set _ _)=>True
 |some (.ins _ _ _)=>True
 |some (.ext _)=>True
 |_=>False
section
variable{P:J7}{w:World}{H:Hp}{h h':Heap}{x e:J8}{o':HO}
theorem HOk.write(ok:HOk P w H h)(mu:Mut (H x))(he:e=x∨H e=O (.own x))(k:∀b u,b≠e->h.get? b=O u->h'.get? b=O u)(ke:∃u,h'.get? e=O u)
  (new:KT P w (upd H x o') h' x o'):HOk P w (upd H x o') h':=λb u q=>by
 have nown:∀c y,H c=O (.own y)->c≠x:=λc y r z=>by subst z;rw[r]at mu;exact mu
 have ntup:∀c xs,H c=O (.tup xs)->c≠x:=λc xs r z=>by subst z;rw[r]at mu;exact mu
 by_cases hb:b=x
 .subst hb;rw[Kh]at q;cases q;exact new
 .rw[U4 hb]at q
  by_cases ji:b=e
  .have q':H b=O (.own x):=by
    rcases he with z|z
    .exact absurd (ji.trans z) hb
    .rw[ji];exact z
   rw[q]at q';cases q';obtain⟨v,hv⟩:=ke;exact⟨v,by rw[ji];exact hv⟩
  .refine(ok b u q).stay (λc v hc r=>k c v ?_ r) (λc r=>by rw[U4 (nown c b r)];exact r) λc xs r=>by rw[U4 (ntup c xs r)];exact r
   rcases hc with rfl|hc
   .exact ji
   .rintro rfl
    rcases he with z|z
    .exact nown c b hc z
    .rw[hc]at z;cases z;exact hb qt
end
structure Un(fs ex:qF)(H H':Hp)(h h':Heap):Prop where
 keep:∀b o,h.get? b=O o->H b=qu->b∉fs->b∉ex->h'.get? b=O o
 slot:∀b o,h.get? b=O o->H b=qu->b∈fs->b∉ex->∃sl,h'.get? b=O {o with slots:=sl}
 free:∀b o,h.get? b=O o->H b=qu->b∉ex->H' b=qu
 there:∀b o,h.get? b=O o->b∉ex->∃o',h'.get? b=O o'
 tups:∀b xs,H b=O (.tup xs)->H' b=O (.tup xs)
 frzs:∀b o u,H b=O (.frz o u)->H' b=O (.frz o u)
 tbls:∀b ps,H b=O (.tbl ps)->∃more,H' b=O (.tbl (ps++more))
section
variable{fs fs' ex ex':qF}{H H1 H2:Hp}{h h1 h2 h':Heap}{a x e:J8}{o:HO}
theorem Un.any(u:Un fs ex H H1 h h1){b:J8}{ob:Obj}(q:h.get? b=O ob)(n:H b=qu)(hx:b∉ex):∃sl,h1.get? b=O {ob with slots:=sl}:=by
 by_cases hb:b∈fs
 .exact u.slot b ob q n hb hx
 .exact⟨ob.slots,u.keep b ob q n hb hx⟩
theorem Un.kept(k:∀b u,h.get? b=O u->h'.get? b=O u):Un fs ex H H h h':=
 ⟨λb ob q _ _ _=>k b ob q,λb ob q _ _ _=>⟨ob.slots,k b ob q⟩,λ_ _ _ n _=>n,λb ob q _=>⟨ob,k b ob q⟩,λ_ _ q=>q,λ_ _ _ q=>q,λ_ ps q=>⟨#[],by rw[q];simp⟩⟩
theorem Un.refl:Un fs ex H H h h:=Un.kept λ_ _ q=>q
theorem Un.laid(k:∀b u,h.get? b=O u->h'.get? b=O u)(hp:h.objs.size<=a)(hn:H a=qu):Un fs ex H (upd H a o) h h' where
 keep:=λb u q _ _ _=>k b u q
 slot:=λb u q _ _ _=>⟨u.slots,k b u q⟩
 free:=λb u q n _=>by rw[U4 (QA (Qz (Qg q) hp))];exact n
 there:=λb u q _=>⟨u,k b u q⟩
 tups:=λb xs q=>by rw[U4 (Yj q hn)];exact q
 frzs:=λb u xs q=>by rw[U4 (Yj q hn)];exact q
 tbls:=λb ps q=>⟨#[],by rw[U4 (Yj q hn),q];simp⟩
theorem Un.write(mu:Mut (H x))(he:e=x∨H e=O (.own x))(k:∀b u,b≠e->h.get? b=O u->h'.get? b=O u)(ke:∃u,h'.get? e=O u):Un fs ex H (upd H x o) h h':=by
 have hx:∀b,H b=qu->b≠x:=λb n z=>by subst z;rw[n]at mu;exact mu
 have hb:∀b,H b=qu->b≠e:=λb n z=>by
  subst z;rcases he with r|r
  .exact hx b n r
  .rw[n]at r;cases r
 have hm:∀b u,H b=O u->¬Mut (O u)->b≠x:=λb u q nm z=>by subst z;rw[q]at mu;exact nm mu
 refine⟨λb u q n _ _=>k b u (hb b n) q,λb u q n _ _=>⟨u.slots,k b u (hb b n) q⟩,λb u q n _=>by rw[U4 (hx b n)];exact n,λb u q _=>?_,
  λb xs q=>by rw[U4 (hm b _ q λz=>z)];exact q,λb u xs q=>by rw[U4 (hm b _ q λz=>z)];exact q,λb ps q=>⟨#[],by rw[U4 (hm b _ q λz=>z),q];simp⟩⟩
 by_cases ji:b=e
 .subst ji;exact ke
 .exact⟨u,k b u ji q⟩
end
def trk(h:Heap)(H:Hp):qF:=(Uf h.objs.size).filter λa=>(H a).isSome
def Zz(h:Heap)(H:Hp):Heap:=PySem.W.hideAll h (trk h H)
theorem BW(h:Heap)(H:Hp):(Zz h H).objs.size=h.objs.size:=PySem.W.hideAll_size _ _
theorem DJ{h:Heap}{H:Hp}{b:J8}{o:Obj}(e:h.get? b=O o)(n:H b=qu):(Zz h H).get? b=O o:=
 PySem.W.hideAll_get _ e λhm=>by have q:(H b).isSome=qv:=(J0.mp hm).2;rw[n]at q;simp at q
theorem Ek{h:Heap}{H:Hp}{b:J8}{o:Obj}(e:(Zz h H).get? b=O o):h.get? b=O o/\H b=qu:=by
 have e':h.get? b=O o:=PySem.W.of_hideAll (trk h H) e;refine⟨e',?_⟩;cases q:H b with
 |none=>rfl
 |some x=>have hm:b∈trk h H:=List.mem_filter.mpr ⟨List.mem_range.mpr (Heap.lt_size e'),by simp[q]⟩;have z:(Zz h H).get? b=qu:=PySem.W.hideAll_none (trk h H) hm;rw[z]at e;cases e
structure Mod(K:Frag)(mg:Str->qC)(base:Heap):Prop where
 kin:K.In base
 glob:base.Ns mainGlobals mg
 blt:∃mb,base.Ns builtinsNs mb/\∀x:Str,x ≠ "__name__" -> mb x=bootBuiltins x
 nolimit:base.NoLimit
structure Cx where
 prog:J7
 w:World
 K:Frag
 mg:Str->qC
 base:Heap
 A:Around
 N:List Str
 s₀:J6
 H₀:Hp
 env:Env
 outer:List Env
 stack:List Env
 ex:qF
 fn:Str->Bool
 calm:Bool
 pn:List (J8×Obj)
 xe:J5->J6->Prop
def frs(l:List Env):qF:=l.filterMap (·.frame)
abbrev Cx.fs(X:Cx):qF:=frs X.outer
def Vis(sc:Scope)(x:Str):Prop:=sc.names.lookup x=O .local∨sc.names.lookup x=O .cell∨sc.names.lookup x=O .free
def Loc(sc:Scope)(x:Str):Prop:=sc.names.lookup x=O .local∨sc.names.lookup x=O .cell
def Look(env:Env)(h:Heap)(m:Str->qC)(x:Str)(u:J5):Prop:=
 (env.kindOf x=O .local/\m x=O u)∨((env.kindOf x=O .cell∨env.kindOf x=O .free)/\∃c,env.cells.lookup x=O c/\h.IsCell c (O u))
structure Cx.Ok(X:Cx):Prop where
 mod:Mod X.K X.mg X.base
 kind:X.env.scope.kind=.function
 glob:X.env.globals=mainGlobals
 blt:X.env.builtins=builtinsNs
 above:X.s₀.heap.objs.size<=X.env.locals
 inj:∀x y c,X.env.cells.lookup x=O c->X.env.cells.lookup y=O c->x=y
 has:∀x,(X.env.kindOf x=O .cell∨X.env.kindOf x=O .free)->∃c,X.env.cells.lookup x=O c
 cab:∀x c,X.fn x=qv->X.env.cells.lookup x=O c->X.s₀.heap.objs.size<=c
 hd:X.calm=qv->X.A.handled=qu
 frames:X.A.frames=O X.stack
 stk:X.stack=X.outer∨(X.stack=X.env::X.outer/\X.env.frame=O X.env.locals)
 exf:∀b∈X.ex,b≠X.env.locals/\∀x c,X.env.cells.lookup x=O c->c≠b
 bs:∀b o,X.base.get? b=O o->X.s₀.heap.get? b=O o/\X.H₀ b=qu
 bsz:X.base.objs.size<=X.s₀.heap.objs.size
 noex:∀b o,X.base.get? b=O o->b∉X.ex
 exfs:∀b∈X.ex,b∉X.fs
 funs:X.s₀.heap.FunFrames X.base X.outer
 frf:∀b∈X.fs,X.H₀ b=qu
structure Inv(X:Cx)(pins:List (J8×Obj))(σ:List (Option V))(H:Hp)(s:J6):Prop where
 ok:X.Ok
 os:s.os=X.s₀.os
 bare:AllBare s.gens
 base:Un X.fs X.ex X.H₀ H X.s₀.heap s.heap
 loc:∃m,s.heap.Ns X.env.locals m/\∀(i:Nat)(x:Str)(v:V),X.N[i]?=O x->σ[i]?=O (O v)->Vis X.env.scope x->∃u,RelV v u/\Look X.env s.heap m x u
 cell:∀x c,X.env.cells.lookup x=O c->∃v,s.heap.IsCell c v
 free:H X.env.locals=qu
 freeC:∀x c,X.env.cells.lookup x=O c->H c=qu
 pin:∀p∈X.pn++pins,s.heap.get? p.1=O p.2/\H p.1=qu/\p.1≠X.env.locals/\p.1∉X.fs/\∀v,p.2.data≠.cell v
 hok:HOk X.prog X.w H s.heap
 len:σ.length=X.N.length
section
variable{X:Cx}{pins:List (J8×Obj)}{σ:List (Option V)}{H H':Hp}{s:J6}{h':Heap}
theorem Cx.Ok.nofr(ok:X.Ok){b:J8}{o:Obj}(e:X.base.get? b=O o):b∉X.fs:=λhb=>by have:=(ok.funs.mem hb).1;rw[e]at this;cases this
theorem Inv.bs(I:Inv X pins σ H s):∀b o,X.base.get? b=O o->s.heap.get? b=O o/\H b=qu:=λb o e=>
 ⟨I.base.keep b o (I.ok.bs b o e).1 (I.ok.bs b o e).2 (I.ok.nofr e) (I.ok.noex b o e),I.base.free b o (I.ok.bs b o e).1 (I.ok.bs b o e).2 (I.ok.noex b o e)⟩
theorem Inv.bk(I:Inv X pins σ H s):∀b o,X.base.get? b=O o->s.heap.get? b=O o:=λb o e=>(I.bs b o e).1
theorem Inv.mod(I:Inv X pins σ H s):Mod X.K X.mg X.base:=I.ok.mod
theorem Inv.kIn(I:Inv X pins σ H s):X.K.In s.heap:=I.ok.mod.kin.keeps I.bk
theorem Inv.fr(I:Inv X pins σ H s):∃m,Fr X.base X.env.locals s.heap m:=
 let ⟨m,hn,_⟩:=I.loc
 ⟨m,hn,I.bk,QH I.ok.bsz I.ok.above⟩
theorem Inv.lt(I:Inv X pins σ H s):X.env.locals<s.heap.objs.size:=let ⟨_,hn,_⟩:=I.loc;hn.lt
theorem Inv.sz(I:Inv X pins σ H s):X.s₀.heap.objs.size<=s.heap.objs.size:=QH I.ok.above (Nat.le_of_lt I.lt)
theorem Inv.nofs(I:Inv X pins σ H s){a:J8}(h:s.heap.objs.size<=a):a∉X.fs:=λhb=>by obtain⟨_,o,ho,_⟩:=I.ok.funs.mem hb;exact absurd (Qz (Qg ho) (QH I.sz h)) (Ja _)
theorem Inv.cne(I:Inv X pins σ H s):∀x c,X.env.cells.lookup x=O c->c≠X.env.locals:=λx c e z=>by obtain⟨v,o,ho,hd⟩:=I.cell x c e;obtain⟨m,⟨o',es,ep,ho',hd',_⟩,_⟩:=I.loc;rw[z,ho']at ho;cases ho;rw[hd']at hd;cases hd
theorem Inv.funs(I:Inv X pins σ H s):s.heap.FunFrames X.base X.outer:=by
 have all:∀(l:List Env),(∀b∈frs l,b∈X.fs)->X.s₀.heap.FunFrames X.base l->s.heap.FunFrames X.base l:=by
  intro l;induction l with
  |nil=>intro _ _;trivial
  |cons env r ih=>
   intro hs hl;obtain⟨hk,⟨L,o,hf,hn,ho,hd⟩,hr⟩:=hl;have hL:L∈X.fs:=hs L (by unfold frs;rw[List.filterMap_cons,hf];exact Qp);obtain⟨sl,e⟩:=I.base.slot L o ho (I.ok.frf L hL) hL λz=>I.ok.exfs L z hL
   exact⟨hk,⟨L,_,hf,hn,e,hd⟩,ih (λb hb=>hs b (by unfold frs;rw[List.filterMap_cons,hf];exact Qu _ hb)) hr⟩
 exact all X.outer (λ_ hb=>hb) I.ok.funs
theorem Inv.stack(I:Inv X pins σ H s):s.heap.FunFrames X.base X.stack:=by
 rcases I.ok.stk with e|⟨e,hf⟩
 .rw[e];exact I.funs
 .rw[e]
  obtain⟨m,hn,_⟩:=I.loc;refine .cons (by rw[I.ok.kind];decide) hf hn ?_ I.funs;exact Heap.get?_none_of_le (QH I.ok.bsz I.ok.above)
theorem Inv.stkSub(I:Inv X pins σ H s):∀b∈frs X.stack,b∈X.env.locals::X.fs:=λb hb=>by
 rcases I.ok.stk with e|⟨e,hf⟩
 .rw[e]at hb;exact Qu _ hb
 .rw[e]at hb
  unfold frs at hb;rw[List.filterMap_cons,hf]at hb;exact hb
theorem Inv.stkFree(I:Inv X pins σ H s):∀b∈frs X.stack,H b=qu:=λb hb=>by
 rcases QL.mp (I.stkSub b hb)with e|hb
 .rw[e];exact I.free
 .obtain⟨_,o,ho,_⟩:=I.ok.funs.mem hb
  exact I.base.free b o ho (I.ok.frf b hb) λz=>I.ok.exfs b z hb
theorem Inv.step{g':Array GenState}{t':Nat}{d':Drawn}{ch:qF}(I:Inv X pins σ H s)
  (hch:∀b∈ch,(b∈X.ex∨X.s₀.heap.objs.size<=b)/\b≠X.env.locals/\(∀x c,X.env.cells.lookup x=O c->c≠b)/\∀p∈X.pn++pins,p.1≠b)
  (keep:∀b o,b≠X.env.locals->b∉X.fs->b∉ch->s.heap.get? b=O o->H b=qu->h'.get? b=O o)
  (slot:∀b o,b≠X.env.locals->b∈X.fs->b∉ch->s.heap.get? b=O o->H b=qu->∃sl,h'.get? b=O {o with slots:=sl}) (free:∀b o,b∉ch->s.heap.get? b=O o->H b=qu->H' b=qu)
  (there:∀b o,b∉ch->s.heap.get? b=O o->∃o',h'.get? b=O o')
  (tups:∀b xs,H b=O (.tup xs)->H' b=O (.tup xs)) (frzs:∀b o u,H b=O (.frz o u)->H' b=O (.frz o u)) (tbls:∀b ps,H b=O (.tbl ps)->∃more,H' b=O (.tbl (ps++more)))
  (ns:∀m,s.heap.Ns X.env.locals m->h'.Ns X.env.locals m) (hok:HOk X.prog X.w H' h') (hg:AllBare g') :
  Inv X pins σ H' {s with heap:=h',gens:=g',drawn:=d',toks:=t'}:=by
 have neL:∀b o,X.s₀.heap.get? b=O o->b≠X.env.locals:=λb o e=>QA (Qz (Qg e) I.ok.above)
 have neC:∀b o,X.s₀.heap.get? b=O o->b∉X.ex->b∉ch:=λb o e hx hb=>by
  rcases(hch b hb).1 with z|z
  .exact hx z
  .exact absurd (Qz (Qg e) z) (Ja _)
 have cellK:∀x c,X.env.cells.lookup x=O c->∀v,s.heap.IsCell c v->h'.IsCell c v:=λx c e v ⟨o,ho,hd⟩=>by
  have nch:c∉ch:=λz=>(hch c z).2.2.1 x c e qt
  by_cases hc:c∈X.fs
  .obtain⟨sl,q⟩:=slot c o (I.cne x c e) hc nch ho (I.freeC x c e)
   exact⟨_,q,hd⟩
  .exact⟨o,keep c o (I.cne x c e) hc nch ho (I.freeC x c e),hd⟩
 refine⟨I.ok,I.os,hg,⟨λb o e n hb hx=>?_,λb o e n hb hx=>?_,λb o e n hx=>?_,λb o e hx=>?_,λb xs e=>tups b xs (I.base.tups b xs e),λb o xs e=>frzs b o xs (I.base.frzs b o xs e),λb ps e=>?_⟩,?_,λx c e=>?_,?_,λx c e=>?_,λp hp=>?_,hok,I.len⟩
 .exact keep b o (neL b o e) hb (neC b o e hx) (I.base.keep b o e n hb hx) (I.base.free b o e n hx)
 .obtain⟨sl,e1⟩:=I.base.slot b o e n hb hx
  obtain⟨jl,e2⟩:=slot b _ (neL b o e) hb (neC b o e hx) e1 (I.base.free b o e n hx);exact⟨jl,e2⟩
 .obtain⟨o',e1⟩:=I.base.there b o e hx
  exact free b o' (neC b o e hx) e1 (I.base.free b o e n hx)
 .obtain⟨o',e1⟩:=I.base.there b o e hx
  exact there b o' (neC b o e hx) e1
 .obtain⟨m1,e1⟩:=I.base.tbls b ps e
  obtain⟨m2,e2⟩:=tbls b _ e1;exact⟨m1++m2,by rw[e2,Array.append_assoc]⟩
 .obtain⟨m,hn,hl⟩:=I.loc
  refine⟨m,ns m hn,λi x v e1 e2 e3=>?_⟩;obtain⟨u,r,l⟩:=hl i x v e1 e2 e3;refine⟨u,r,?_⟩;rcases l with l|⟨k,c,e,z⟩
  .exact .inl l
  .exact .inr ⟨k,c,e,cellK x c e _ z⟩
 .obtain⟨v,z⟩:=I.cell x c e
  exact⟨v,cellK x c e v z⟩
 .obtain⟨m,⟨o,_,_,ho,_⟩,_⟩:=I.loc
  exact free _ o (λz=>(hch _ z).2.1 qt) ho I.free
 .obtain⟨v,o,ho,hd⟩:=I.cell x c e
  exact free c o (λz=>(hch c z).2.2.1 x c e qt) ho (I.freeC x c e)
 .obtain⟨e,n,ne,nf,d⟩:=I.pin p hp
  have nch:p.1∉ch:=λz=>(hch p.1 z).2.2.2 p hp qt
  exact⟨keep p.1 p.2 ne nf nch e n,free p.1 p.2 nch e n,ne,nf,d⟩
theorem Inv.un{t':Nat}(I:Inv X pins σ H s)(u:Un X.fs [] H H' s.heap h')(hok:HOk X.prog X.w H' h'):Inv X pins σ H' {s with heap:=h',toks:=t'}:=by obtain⟨m,⟨o,es,ep,ho,r⟩,_⟩:=id I.loc;obtain⟨sl,hL⟩:=u.any ho I.free (by simp);exact I.step (g':=s.gens) (d':=s.drawn) (ch:=[]) (λ_ z=>nomatch z) (λb o _ hb _ e n=>u.keep b o e n hb (by simp)) (λb o _ hb _ e n=>u.slot b o e n hb (by simp)) (λb o _ e n=>u.free b o e n (by simp)) (λb o _ e=>u.there b o e (by simp)) u.tups u.frzs u.tbls (λm' hm=>by obtain⟨o',es',ep',ho',r'⟩:=hm;rw[ho]at ho';cases ho';exact⟨_,es',ep',hL,r'⟩) hok I.bare
theorem Inv.call{g':Array GenState}{t':Nat}{d':Drawn}{ch:qF}(I:Inv X pins σ H s)(u:Un (frs X.stack) ch H H' s.heap h')(hok:HOk X.prog X.w H' h')(hg:AllBare g')
  (hch:∀b∈ch,(b∈X.ex∨X.s₀.heap.objs.size<=b)/\b≠X.env.locals/\(∀x c,X.env.cells.lookup x=O c->c≠b)/\∀p∈X.pn++pins,p.1≠b) :
  Inv X pins σ H' {s with heap:=h',gens:=g',drawn:=d',toks:=t'}:=by
 obtain⟨m,⟨o,es,ep,ho,r⟩,_⟩:=id I.loc;obtain⟨sl,hL⟩:=u.any ho I.free λz=>(hch _ z).2.1 qt
 exact I.step (ch:=ch) hch (λb o hL hb hc e n=>u.keep b o e n (λz=>(QL.mp (I.stkSub b z)).elim hL hb) hc) (λb o _ _ hc e n=>u.any e n hc) (λb o hc e n=>u.free b o e n hc) (λb o hc e=>u.there b o e hc) u.tups u.frzs u.tbls (λm' hm=>by obtain⟨o',es',ep',ho',r'⟩:=hm;rw[ho]at ho';cases ho';exact⟨_,es',ep',hL,r'⟩) hok hg
theorem Inv.turned{t':Nat}{it:J8}(I:Inv X pins σ H s)(k:∀b o,b≠it->s.heap.get? b=O o->h'.get? b=O o)(hn:H it=qu)(hL:it≠X.env.locals)
  (h1:it∈X.ex∨X.s₀.heap.objs.size<=it) (h2:∀x c,X.env.cells.lookup x=O c->c≠it) (h3:∀p∈X.pn++pins,p.1≠it):Inv X pins σ H {s with heap:=h',toks:=t'}:=by
 have nit:∀b u,H b=O u->b≠it:=λb u e z=>by rw[z,hn]at e;cases e
 refine I.step (g':=s.gens) (d':=s.drawn) (ch:=[it]) (λb hb=>?_) (λb o _ _ hc e _=>k b o (λz=>hc (by simp[z])) e) (λb o _ _ hc e _=>⟨o.slots,k b o (λz=>hc (by simp[z])) e⟩) (λ_ _ _ _ n=>n)
  (λb o hc e=>⟨o,k b o (λz=>hc (by simp[z])) e⟩) (λ_ _ e=>e) (λ_ _ _ e=>e) (λb ps e=>⟨#[],by rw[e];simp⟩) (λm hm=>?_) (λb u e=>?_) I.bare
 .have e:b=it:=by simpa using hb
  subst e;exact⟨h1,hL,h2,h3⟩
 .obtain⟨o,es,ep,ho,r⟩:=hm
  exact⟨o,es,ep,k _ o (Ne.symm hL) ho,r⟩
 .refine(I.hok b u e).stay (λc v hc q=>k c v ?_ q) (λ_ q=>q) λ_ _ q=>q
  rcases hc with z|z
  .rw[z];exact nit b u e
  .exact nit c _ z
theorem Inv.tok(I:Inv X pins σ H s)(t:Nat):Inv X pins σ H {s with toks:=t}:=I.un (h':=s.heap) (t':=t) Un.refl I.hok
theorem Inv.kept{t':Nat}(I:Inv X pins σ H s)(k:∀b u,s.heap.get? b=O u->h'.get? b=O u):Inv X pins σ H {s with heap:=h',toks:=t'}:=I.un (Un.kept k) (I.hok.kept k)
theorem Inv.laid{a:J8}{o:HO}{t':Nat}(I:Inv X pins σ H s)(k:∀b u,s.heap.get? b=O u->h'.get? b=O u)(hp:s.heap.objs.size<=a)(new:KT X.prog X.w (upd H a o) h' a o) :
  Inv X pins σ (upd H a o) {s with heap:=h',toks:=t'}:=I.un (Un.laid k hp (I.hok.fresh hp)) (I.hok.laid k hp new)
theorem Inv.write{x e:J8}{o:HO}{t':Nat}(I:Inv X pins σ H s)(mu:Mut (H x))(he:e=x∨H e=O (.own x))(k:∀b u,b≠e->s.heap.get? b=O u->h'.get? b=O u)(ke:∃u,h'.get? e=O u)
  (new:KT X.prog X.w (upd H x o) h' x o):Inv X pins σ (upd H x o) {s with heap:=h',toks:=t'}:=I.un (Un.write mu he k ke) (I.hok.write mu he k ke new)
theorem Inv.pins_of{pins':List (J8×Obj)}(I:Inv X pins σ H s)(h:∀p∈pins',s.heap.get? p.1=O p.2/\H p.1=qu/\p.1≠X.env.locals/\p.1∉X.fs/\∀v,p.2.data≠.cell v):Inv X pins' σ H s:=
 ⟨I.ok,I.os,I.bare,I.base,I.loc,I.cell,I.free,I.freeC,λp hp=>(Jg.mp hp).elim (λz=>I.pin p (Jv _ z)) (h p),I.hok,I.len⟩
theorem Nd{N:List Str}(hN:N.Nodup){i j:Nat}{x:Str}(a:N[i]?=O x)(b:N[j]?=O x):i=j:=by obtain⟨h1,e1⟩:=Ql.mp a;obtain⟨h2,e2⟩:=Ql.mp b;exact(List.getElem_inj hN).mp (e1.trans e2.symm)
theorem Ma{M:Model}{A:Around}{E:J5->J6->Prop}{i:Nat}{x:Str}{v:V}{u:J5}{Q:Unit->J6->Prop}(I:Inv X pins σ H s)(hN:X.N.Nodup)(hi:X.N[i]?=O x)(hx:Loc X.env.scope x)(r:RelV v u)
  (h:∀s',Inv X pins (σ.set i (O v)) H s'->(∃a,Heap.SameBut a s.heap s'.heap/\(a=X.env.locals∨X.env.cells.lookup x=O a))->Q () s') (hf:X.fn x=qv∨X.env.scope.names.lookup x=O .local:=by first|exact .inl rfl|exact .inr rfl|assumption):Uc M A (storeName X.env x u) Q E s:=by
 obtain⟨m,hn,hl⟩:=id I.loc;have hcls:(X.env.scope.kind==.class || (X.env.scope.kind==.module&&X.env.locals != X.env.globals))=qw:=by rw[I.ok.kind];rfl
 have hiσ:i<σ.length:=by rw[I.len];exact(Ql.mp hi).1
 have cne:=I.cne
 have tracked:∀{a:J8}{h':Heap},(∃o,s.heap.get? a=O o/\H a=qu)->Heap.SameBut a s.heap h'->HOk X.prog X.w H h':=λ{a h'} ha hs b ob e=>by
  obtain⟨_,_,hfree⟩:=ha;refine(I.hok b ob e).stay (λc w' hc q=>(hs.2 c ?_).trans q) (λ_ q=>q) λ_ _ q=>q
  rintro rfl;rcases hc with rfl|hc
  .rw[hfree]at e;cases e
  .rw[hfree]at hc;cases hc
 rcases hx with hk|hk
 .refine wpAny_storeName_local hk hn (λh' hn' hs=>?_) hcls
  obtain⟨oL,_,_,kr,_⟩:=id hn;refine h _ ⟨I.ok,I.os,I.bare,⟨λb o e n hb hx=>?_,λb o e n hb hx=>?_,I.base.free,λb o e hx=>?_,I.base.tups,I.base.frzs,I.base.tbls⟩,⟨_,hn',λj y v' e1 e2 e3=>?_⟩,λy c e=>?_,I.free,I.freeC,λp hp=>?_,tracked ⟨oL,kr,I.free⟩ hs,by simpa using I.len⟩ ⟨_,hs,.inl qt⟩
  .exact(hs.2 b (QA (Qz (Qg e) I.ok.above))).trans (I.base.keep b o e n hb hx)
  .obtain⟨sl,e1⟩:=I.base.slot b o e n hb hx
   exact⟨sl,(hs.2 b (QA (Qz (Qg e) I.ok.above))).trans e1⟩
  .obtain⟨o',e1⟩:=I.base.there b o e hx
   exact⟨o',(hs.2 b (QA (Qz (Qg e) I.ok.above))).trans e1⟩
  .by_cases hj:j=i
   .subst hj
    rw[hi]at e1;cases e1;rw[QI hiσ]at e2;cases e2;exact⟨u,r,.inl ⟨hk,by simp⟩⟩
   .rw[Qn (Ne.symm hj)]at e2
    obtain⟨u',r',q⟩:=hl j y v' e1 e2 e3;refine⟨u',r',?_⟩;rcases q with ⟨k,e⟩|⟨k,c,e,z⟩
    .refine .inl ⟨k,?_⟩
     have:y≠x:=λe=>hj (Nd hN e1 (e ▸ hi))
     simp[this,e]
    .exact .inr ⟨k,c,e,z.sameBut hs (cne y c e)⟩
  .obtain⟨w',z⟩:=I.cell y c e
   exact⟨w',z.sameBut hs (cne y c e)⟩
  .obtain⟨e,n,ne,nf,d⟩:=I.pin p hp
   exact⟨(hs.2 p.1 ne).trans e,n,ne,nf,d⟩
 .have hfn:X.fn x=qv:=by
   rcases hf with z|z
   .exact z
   .rw[z]at hk;cases hk
  obtain⟨c,hc⟩:=I.ok.has x (.inl hk);obtain⟨w',z⟩:=I.cell x c hc;refine wpAny_storeName_cell I.ok.kind hk hc z (λh' hc' hs=>?_);obtain⟨oc,hoc,hocd⟩:=id z;refine h {s with heap:=h'} ⟨I.ok,I.os,I.bare,⟨λb o e n hb hx=>?_,λb o e n hb hx=>?_,I.base.free,λb o e hx=>?_,I.base.tups,I.base.frzs,I.base.tbls⟩,⟨m,hn.sameBut hs (Ne.symm (cne x c hc)),λj y v' e1 e2 e3=>?_⟩,λy c' e=>?_,I.free,I.freeC,λp hp=>?_,tracked ⟨oc,hoc,I.freeC x c hc⟩ hs,by simpa using I.len⟩ ⟨c,hs,.inr hc⟩
  .exact(hs.2 b (QA (Qz (Qg e) (I.ok.cab x c hfn hc)))).trans (I.base.keep b o e n hb hx)
  .obtain⟨sl,e1⟩:=I.base.slot b o e n hb hx
   exact⟨sl,(hs.2 b (QA (Qz (Qg e) (I.ok.cab x c hfn hc)))).trans e1⟩
  .obtain⟨o',e1⟩:=I.base.there b o e hx
   exact⟨o',(hs.2 b (QA (Qz (Qg e) (I.ok.cab x c hfn hc)))).trans e1⟩
  .by_cases hj:j=i
   .subst hj
    rw[hi]at e1;cases e1;rw[QI hiσ]at e2;cases e2;exact⟨u,r,.inr ⟨.inl hk,c,hc,hc'⟩⟩
   .rw[Qn (Ne.symm hj)]at e2
    obtain⟨u',r',q⟩:=hl j y v' e1 e2 e3;refine⟨u',r',?_⟩;rcases q with q|⟨k,c',e,z'⟩
    .exact .inl q
    .refine .inr ⟨k,c',e,z'.sameBut hs ?_⟩
     rintro rfl;exact hj (Nd hN e1 (I.ok.inj _ _ _ e hc ▸ hi))
  .by_cases hcc:c'=c
   .subst hcc;exact⟨_,hc'⟩
   .obtain⟨w2,z2⟩:=I.cell y c' e
    exact⟨w2,z2.sameBut hs hcc⟩
  .obtain⟨e,n,ne,nf,d⟩:=I.pin p hp
   refine⟨(hs.2 p.1 ?_).trans e,n,ne,nf,d⟩;intro q;rw[q,hoc]at e;have q':oc=p.2:=QS e;exact d w' (by rw[←q'];exact hocd)
theorem Sm{M:Model}{A:Around}{E:J5->J6->Prop}{i:Nat}{x:Str}{v:V}{u:J5}{Q:Unit->J6->Prop}(I:Inv X pins σ H s)(hN:X.N.Nodup)(hi:X.N[i]?=O x)(hx:Loc X.env.scope x)(r:RelV v u)
  (h:∀s',Inv X pins (σ.set i (O v)) H s'->Q () s') (hf:X.fn x=qv∨X.env.scope.names.lookup x=O .local:=by first|exact .inl rfl|exact .inr rfl|assumption):Uc M A (storeName X.env x u) Q E s:=
 Ma I hN hi hx r (λs' I' _=>h s' I') hf
theorem Inv.call'{s':J6}{ch:qF}(I:Inv X pins σ H s)(ho:s'.os=s.os)(u:Un (frs X.stack) ch H H' s.heap s'.heap)(hok:HOk X.prog X.w H' s'.heap)(hg:AllBare s'.gens)
  (hch:∀b∈ch,(b∈X.ex∨X.s₀.heap.objs.size<=b)/\b≠X.env.locals/\(∀x c,X.env.cells.lookup x=O c->c≠b)/\∀p∈X.pn++pins,p.1≠b):Inv X pins σ H' s':=by
 obtain⟨h',g',d',t',o'⟩:=s';have e:o'=s.os:=ho;subst e;exact I.call (g':=g') (t':=t') (d':=d') u hok hg hch
end
abbrev XK:=J5->qG->Hp->Prop
abbrev St:=List (Option V)
abbrev VK:=V->Hp->Prop
abbrev TE:=St->Hp->VK->Prop
abbrev TT:=St->Hp->(Bool->Hp->Prop)->Prop
abbrev TA:=St->Hp->(List V->Hp->Prop)->Prop
structure Ends where
 nx:St->Hp->Prop
 rt:VK
 bk:St->Hp->Prop:=λ_ _=>False
 ct:St->Hp->Prop:=λ_ _=>False
abbrev TS:=Ends->St->Hp->Prop
def EP(X:Cx)(pins:List (J8×Obj))(σ:St)(Q:VK)(u:J5)(s':J6):Prop:=∃v H',Inv X pins σ H' s'/\RelV v u/\Q v H'
def TP(X:Cx)(pins:List (J8×Obj))(σ:St)(Q:Bool->Hp->Prop)(b:Bool)(s':J6):Prop:=∃H',Inv X pins σ H' s'/\Q b H'
def AP(X:Cx)(pins:List (J8×Obj))(σ:St)(Q:List V->Hp->Prop)(us:qz)(s':J6):Prop:=∃vs H',Inv X pins σ H' s'/\Vals vs us/\Q vs H'
def SP(X:Cx)(pins:List (J8×Obj))(D:Ends)(f:Flow)(s':J6):Prop:=
 match f with
 |.next=>∃σ' H',Inv X pins σ' H' s'/\D.nx σ' H'
 |.brk=>∃σ' H',Inv X pins σ' H' s'/\D.bk σ' H'
 |.cont=>∃σ' H',Inv X pins σ' H' s'/\D.ct σ' H'
 |.ret u=>∃v σ' H',Inv X pins σ' H' s'/\RelV v u/\D.rt v H'
def PE(X:Cx)(e:Ua)(t:TE):Prop:=
 ∀(pins:List (J8×Obj))(s:J6)(σ:St)(H:Hp)(Q:VK),Inv X pins σ H s->t σ H Q->Uc (model X.prog X.w) X.A (eval e X.env) (EP X pins σ Q) X.xe s
def PT(X:Cx)(e:Ua)(t:TT):Prop:=
 ∀(pins:List (J8×Obj))(s:J6)(σ:St)(H:Hp)(Q:Bool->Hp->Prop),Inv X pins σ H s->t σ H Q->Uc (model X.prog X.w) X.A (isTrue e X.env (eval e X.env)) (TP X pins σ Q) X.xe s
def PW(X:Cx)(e:Ua)(t:TT):Prop:=
 ∀(whole:Sem J5)(pins:List (J8×Obj))(s:J6)(σ:St)(H:Hp)(Q:Bool->Hp->Prop),Inv X pins σ H s->t σ H Q->Uc (model X.prog X.w) X.A (isTrue e X.env whole) (TP X pins σ Q) X.xe s
theorem PW.pt{X:Cx}{e:Ua}{t:TT}(h:PW X e t):PT X e t:=h _
def PA(X:Cx)(es:qA)(t:TA):Prop:=
 ∀(pos:Pos)(pins:List (J8×Obj))(s:J6)(σ:St)(H:Hp)(Q:List V->Hp->Prop),Inv X pins σ H s->t σ H Q->Uc (model X.prog X.w) X.A (spliced (backTo pos (Ud es X.env))) (AP X pins σ Q) X.xe s
def PS(X:Cx)(st:Stmt)(t:TS):Prop:=
 ∀(pins:List (J8×Obj))(s:J6)(σ:St)(H:Hp)(D:Ends),Inv X pins σ H s->t D σ H->Uc (model X.prog X.w) X.A (exec st X.env) (SP X pins D) X.xe s
def PSs(X:Cx)(st:List Stmt)(t:TS):Prop:=
 ∀(pins:List (J8×Obj))(s:J6)(σ:St)(H:Hp)(D:Ends),Inv X pins σ H s->t D σ H->Uc (model X.prog X.w) X.A (execs st X.env) (SP X pins D) X.xe s
theorem thn{α:Type}{t:Sem α}{Q Q':α->J6->Prop}{M:Model}{A:Around}{E:J5->J6->Prop}{s:J6}(h:Uc M A t Q E s)(hQ:∀a s,Q a s->Q' a s):Uc M A t Q' E s:=Qr h hQ λ_ _ x=>x
section
variable{X:Cx}
def Kg(i:Nat):TE:=λσ H Q=>∃v,σ[i]?=O (O v)/\Q v H
def tC(v:V):TE:=λ_ H Q=>Q v H
theorem P5{i:Nat}{x:Str}{pos:Pos}(hN:X.N[i]?=O x)(hv:Vis X.env.scope x)(hd:(x==("__debug__" : Str))=qw:=by decide)(hcd:(x==("__classdict__" : Str))=qw:=by decide):PE X (.Name x pos) (Kg i):=by
 intro pins s σ H Q I h;obtain⟨v,e,h⟩:=h;obtain⟨m,hn,hl⟩:=I.loc;obtain⟨u,r,l⟩:=hl i x v hN e hv;have fin:EP X pins σ Q u s:=⟨v,H,I,r,h⟩;rcases l with ⟨hk,hm⟩|⟨hk,c,hc,hcell⟩
 .exact wpAny_Name (wpAny_loadName_local I.ok.kind hk hn hm fin) hd
 .rcases hk with hk|hk
  .exact wpAny_Name (wpAny_loadName_cell I.ok.kind hk hc hcell fin) hd
  .exact wpAny_Name (wpAny_loadName_free I.ok.kind hk hc hcell fin hcd) hd
theorem FX{i j pos}:PE X (.Constant (.int i) j pos) (tC (.int i)):=λ_ _ _ H _ I h=>wpAny_Constant_int ⟨.int i,H,I.tok _,⟨_,rfl⟩,h⟩
theorem Hs{b j pos}:PE X (.Constant (.bool b) j pos) (tC (.bl b)):=λ_ _ _ H _ I h=>Constant_bool ⟨.bl b,H,I,rfl,h⟩
theorem Gs{j pos}:PE X (.Constant .none j pos) (tC .non):=λ_ _ _ H _ I h=>Constant_none ⟨.non,H,I,rfl,h⟩
theorem TX{x j pos}:PE X (.Constant (.str x) j pos) (tC (.str x)):=λ_ _ _ H _ I h=>Calls.Constant_str ⟨.str x,H,I.tok _,⟨_,rfl⟩,h⟩
def Gl(X:Cx)(x:Str):Prop:=X.env.kindOf x=O .globalImplicit
theorem VE{E:J5->J6->Prop}{pins:List (J8×Obj)}{s:J6}{σ:St}{H:Hp}{x:Str}{u:J5}{pos:Pos}{Q:J5->J6->Prop}(I:Inv X pins σ H s)(hg:Gl X x)(hm:X.mg x=O u)(h:Q u s)
  (hd:(x==("__debug__" : Str))=qw:=by decide):Uc (model X.prog X.w) X.A (eval (.Name x pos) X.env) Q E s:=
 Calls.Name_function_global I.ok.kind hg (Calls.loadGlobal_global (by rw[I.ok.glob];exact I.mod.glob.keeps I.bk) hm h) hd
theorem Xz{E:J5->J6->Prop}{pins:List (J8×Obj)}{s:J6}{σ:St}{H:Hp}{x:Str}{u:J5}{pos:Pos}{Q:J5->J6->Prop}(I:Inv X pins σ H s)(hg:Gl X x)(hm:X.mg x=qu)(hv:bootBuiltins x=O u)(h:Q u s)
  (hn:x ≠ "__name__" :=by decide) (hd:(x==("__debug__" : Str))=qw:=by decide):Uc (model X.prog X.w) X.A (eval (.Name x pos) X.env) Q E s:=by
 obtain⟨mb,h1,h2⟩:=I.mod.blt;exact Calls.Name_function_global I.ok.kind hg (Calls.loadGlobal_builtin (by rw[I.ok.glob];exact I.mod.glob.keeps I.bk) hm (by rw[I.ok.blt];exact h1.keeps I.bk) ((h2 x hn).trans hv) h) hd
theorem Rp{x:Str}{v:V}{u:J5}{pos:Pos}(hg:Gl X x)(hm:X.mg x=O u)(r:RelV v u)(hd:(x==("__debug__" : Str))=qw:=by decide):PE X (.Name x pos) (tC v):=
 λ_ _ _ H _ I h=>VE I hg hm ⟨v,H,I,r,h⟩ hd
theorem OZ{x:Str}{v:V}{u:J5}{pos:Pos}(hg:Gl X x)(hm:X.mg x=qu)(hv:bootBuiltins x=O u)(r:RelV v u)(hn:x ≠ "__name__" :=by decide)(hd:(x==("__debug__" : Str))=qw:=by decide):PE X (.Name x pos) (tC v):=
 λ_ _ _ H _ I h=>Xz I hg hm hv ⟨v,H,I,r,h⟩ hn hd
variable{a b:Ua}{ta tb:TE}{pos:Pos}
def PC(X:Cx)(op:CmpOp)(a b:Ua)(t:TE):Prop:=
 ∀(pins:List (J8×Obj))(s:J6)(σ:St)(H:Hp)(Q:VK),Inv X pins σ H s->t σ H Q ->
  Uc (model X.prog X.w) X.A (eval a X.env) (λv s₁=>Uc (model X.prog X.w) X.A (eval b X.env) (λu s₂=>Uc (model X.prog X.w) X.A (Ue op v u) (EP X pins σ Q) X.xe s₂) X.xe s₁) X.xe s
theorem Nc(b:Ua){op:CmpOp}(h:op≠.In)(h2:op≠.NotIn):behindInMarks op b=qw:=by
 have e1:(op==CmpOp.In)=qw:=by cases op<;>first|rfl|exact absurd qt h
 have e2:(op==CmpOp.NotIn)=qw:=by cases op<;>first|rfl|exact absurd qt h2
 cases b<;>simp[behindInMarks,e1,e2]
def tIsN(ta:TE):TE:=λσ H Q=>ta σ H λx H1=>Q (.bl (decide (x=.non))) H1
def Hr(ta:TE):TE:=λσ H Q=>ta σ H λx H1=>Q (.bl (!decide (x=.non))) H1
theorem RelV.none_iff{x:V}{v:J5}(r:RelV x v):(v==Value.none)=decide (x=.non):=by
 cases x with
 |non=>cases r;rfl
 |bl _=>cases r;rfl
 |int _=>obtain⟨t,rfl⟩:=r;rfl
 |str _=>obtain⟨t,rfl⟩:=r;rfl
 |byt _=>obtain⟨t,rfl⟩:=r;rfl
 |flt _=>obtain⟨t,rfl⟩:=r;rfl
 |ref _=>cases r;rfl
 |ty _=>cases r;rfl
theorem P4{j pos'}(ha:PE X a ta):PC X .Is a (.Constant .none j pos') (tIsN ta):=by intro pins s σ H Q I h;refine thn (ha pins s σ H _ I h) λv s1 ⟨x,H1,I1,r1,q1⟩=>?_;exact Constant_none (is_none_gen ⟨.bl _,H1,I1,by rw[r1.none_iff];rfl,q1⟩)
theorem OY{j pos'}(ha:PE X a ta):PC X .IsNot a (.Constant .none j pos') (Hr ta):=by intro pins s σ H Q I h;refine thn (ha pins s σ H _ I h) λv s1 ⟨x,H1,I1,r1,q1⟩=>?_;exact Constant_none (isnot_none_gen ⟨.bl _,H1,I1,by rw[r1.none_iff];rfl,q1⟩)
def tB(t:TE):TT:=λσ H Q=>t σ H λx H1=>∃c,x=.bl c/\Q c H1
theorem P3{op:CmpOp}{t:TE}(h:PC X op a b t)(h1:behindInMarks op b=qw:=by first|exact Nc _ (by decide) (by decide)|rfl):PE X (.Compare a [op] [b] pos) t:=λpins s σ H Q I hw=>wpAny_Compare1 (h pins s σ H Q I hw) h1
theorem P2{op:CmpOp}{t:TE}(h:PC X op a b t)(h1:behindInMarks op b=qw:=by first|exact Nc _ (by decide) (by decide)|rfl):PT X (.Compare a [op] [b] pos) (tB t):=by intro pins s σ H Q I hw;refine wpAny_isTrue_Compare1 (thn (h pins s σ H _ I hw) λv s1 h1=>thn h1 λu s2 h2=>thn h2 λc s3 ⟨x,H1,I1,r1,q1⟩=>?_) h1;obtain⟨d,rfl,q⟩:=q1;cases r1;exact QX ⟨H1,I1,q⟩
theorem P1{e:Ua}{t:TE}(h:PE X e t)(he:∀whole,isTrue e X.env whole=(do let v ←whole;standAt e.pos;holding [v] (truthy v)):=by intro _;rfl):PT X e (tB t):=by intro pins s σ H Q I hw;refine isTrue_plain (thn (h pins s σ H _ I hw) λv s1 ⟨x,H1,I1,r1,q1⟩=>?_) (he _);obtain⟨d,rfl,q⟩:=q1;cases r1;exact QX ⟨H1,I1,q⟩
variable{tA tB':TT}{rest:qA}
def tAnd(t u:TT):TT:=λσ H Q=>t σ H λc H1=>if c=qv then u σ H1 Q else Q qw H1
def tOr(t u:TT):TT:=λσ H Q=>t σ H λc H1=>if c=qv then Q qv H1 else u σ H1 Q
def tNot(t:TT):TT:=λσ H Q=>t σ H λc H1=>Q (!c) H1
theorem Ej(ha:PT X a tA):PW X (.BoolOp .And [a] pos) tA:=by
 intro wh pins s σ H Q I h;refine isTrue_and (thn (ha pins s σ H Q I h) λc s1 e=>?_);cases c with
 |true=>exact isTrue_and_nil e
 |false=>exact e
theorem Gr(ha:PT X a tA):PW X (.BoolOp .Or [a] pos) tA:=by
 intro wh pins s σ H Q I h;refine isTrue_or (thn (ha pins s σ H Q I h) λc s1 e=>?_);cases c with
 |false=>exact isTrue_or_nil e
 |true=>exact e
theorem Gq(ha:PT X a tA)(hb:PW X (.BoolOp .And (b::rest) pos) tB'):PW X (.BoolOp .And (a::b::rest) pos) (tAnd tA tB'):=by
 intro wh pins s σ H Q I h;refine isTrue_and (thn (ha pins s σ H _ I h) λc s1 ⟨H1,I1,q1⟩=>?_);cases c with
 |true=>exact hb wh pins s1 σ H1 Q I1 q1
 |false=>exact⟨H1,I1,q1⟩
theorem HV(ha:PT X a tA)(hb:PW X (.BoolOp .Or (b::rest) pos) tB'):PW X (.BoolOp .Or (a::b::rest) pos) (tOr tA tB'):=by
 intro wh pins s σ H Q I h;refine isTrue_or (thn (ha pins s σ H _ I h) λc s1 ⟨H1,I1,q1⟩=>?_);cases c with
 |true=>exact⟨H1,I1,q1⟩
 |false=>exact hb wh pins s1 σ H1 Q I1 q1
theorem PZ(ha:PT X a tA):PT X (.UnaryOp .Not a pos) (tNot tA):=by intro pins s σ H Q I h;exact isTrue_not (ha pins s σ H (λc H1=>Q (!c) H1) I h)
def HU(ta tb:TE):TE:=λσ H Q=>ta σ H λx H1=>∃c,x=.bl c/\if c=qv then tb σ H1 Q else Q (.bl qw) H1
def tOrV(ta tb:TE):TE:=λσ H Q=>ta σ H λx H1=>∃c,x=.bl c/\if c=qv then Q (.bl qv) H1 else tb σ H1 Q
def HS(ta:TE):TE:=λσ H Q=>ta σ H λx H1=>∃c,x=.bl c/\Q (.bl (!c)) H1
theorem Gp{op}{t:TE}(h:PE X a t):PE X (.BoolOp op [a] pos) t:=λpins s σ H Q I hw=>BoolOp_one (h pins s σ H Q I hw)
theorem Go(ha:PE X a ta)(hb:PE X (.BoolOp .And (b::rest) pos) tb):PE X (.BoolOp .And (a::b::rest) pos) (HU ta tb):=by
 intro pins s σ H Q I h;refine BoolOp_and (thn (ha pins s σ H _ I h) λv s1 ⟨x,H1,I1,r1,q1⟩=>?_);obtain⟨c,rfl,q1⟩:=q1;cases r1;refine QX ?_;cases c with
 |true=>exact hb pins s1 σ H1 Q I1 q1
 |false=>exact⟨.bl qw,H1,I1,rfl,q1⟩
theorem HR(ha:PE X a ta)(hb:PE X (.BoolOp .Or (b::rest) pos) tb):PE X (.BoolOp .Or (a::b::rest) pos) (tOrV ta tb):=by
 intro pins s σ H Q I h;refine BoolOp_or (thn (ha pins s σ H _ I h) λv s1 ⟨x,H1,I1,r1,q1⟩=>?_);obtain⟨c,rfl,q1⟩:=q1;cases r1;refine QX ?_;cases c with
 |false=>exact hb pins s1 σ H1 Q I1 q1
 |true=>exact⟨.bl qv,H1,I1,rfl,q1⟩
theorem Gn(ha:PE X a ta):PE X (.UnaryOp .Not a pos) (HS ta):=by intro pins s σ H Q I h;refine UnaryOp_ (thn (ha pins s σ H _ I h) λv s1 ⟨x,H1,I1,r1,q1⟩=>?_);obtain⟨c,rfl,q1⟩:=q1;cases r1;exact not_of (QX ⟨.bl (!c),H1,I1,rfl,q1⟩)
end
def SqL(K:Frag)(H:Hp)(a:J8)(xs:List V):Prop:=
 Rd H a (.lst xs) ∨
  ∃(o:Obj)(its:Array J5)(n:Nat),K.lookup a=O o/\o.cls=.type "list" /\ o.dict=qu/\o.data=.seq its n/\its.size<=Ub/\Vals xs its.toList
def SqT(K:Frag)(H:Hp)(a:J8)(xs:List V):Prop:=
 Rd H a (.tup xs) ∨
  ∃(o:Obj)(its:Array J5)(n:Nat),K.lookup a=O o/\o.cls=.type "tuple" /\ o.data=.seq its n/\its.size<=Ub/\Vals xs its.toList
def absV:J5->Option V
 |.none=>O .non
 |.bool b=>O (.bl b)
 |.int i _=>O (.int i)
 |.str x _=>O (.str x)
 |.bytes b _=>O (.byt b)
 |.float b _=>O (.flt b)
 |.ref a=>O (.ref a)
 |.type n=>O (.ty n)
 |_=>qu
theorem RelV.abs{x:V}{u:J5}(r:RelV x u):absV u=O x:=by
 cases x with
 |non=>cases r;rfl
 |bl _=>cases r;rfl
 |int _=>obtain⟨t,rfl⟩:=r;rfl
 |str _=>obtain⟨t,rfl⟩:=r;rfl
 |byt _=>obtain⟨t,rfl⟩:=r;rfl
 |flt _=>obtain⟨t,rfl⟩:=r;rfl
 |ref _=>cases r;rfl
 |ty _=>cases r;rfl
theorem RelV.inj{x y:V}{u:J5}(r:RelV x u)(q:RelV y u):x=y:=QS (r.abs.symm.trans q.abs)
theorem Vals.inj:∀{xs ys:List V}{us:qz},Vals xs us->Vals ys us->xs=ys
 |_,_,_,.nil,.nil=>rfl
 |_,_,_,.cons r t,.cons r' t'=>by rw[r.inj r',Vals.inj t t']
section
variable{X:Cx}{pins:List (J8×Obj)}{σ:St}{H:Hp}{s:J6}{a:J8}{xs ys:List V}
theorem SqL.of{K:Frag}(h:H a=O (.lst xs)):SqL K H a xs:=.inl (.inl h)
theorem SqT.of{K:Frag}(h:H a=O (.tup xs)):SqT K H a xs:=.inl (.inl h)
theorem Inv.list(I:Inv X pins σ H s)(h:SqL X.K H a xs):∃its:qz,Vals xs its/\PlainL s.heap a its.toArray/\xs.length<=Ub:=by
 rcases h with h|⟨o,its,n,hk,hc,hd,hs,hz,r⟩
 .obtain⟨z,its,n,r,e⟩:=h.ok I.hok
  exact⟨its,r,⟨_,n,e,rfl,rfl,rfl⟩,z⟩
 .refine⟨its.toList,r,⟨o,n,I.kIn a o hk,hc,hd,by simpa using hs⟩,?_⟩
  have e:=r.length;simp only[JT]at e;omega
theorem Inv.tuple(I:Inv X pins σ H s)(h:SqT X.K H a xs):∃its:qz,Vals xs its/\IsTup s.heap a its.toArray/\xs.length<=Ub:=by
 rcases h with h|⟨o,its,n,hk,hc,hs,hz,r⟩
 .obtain⟨z,its,r,p⟩:=h.ok I.hok
  exact⟨its,r,p,z⟩
 .refine⟨its.toList,r,⟨o,I.kIn a o hk,hc,n,by simpa using hs⟩,?_⟩
  have e:=r.length;simp only[JT]at e;omega
theorem Inv.list_inj(I:Inv X pins σ H s)(h:SqL X.K H a xs)(h':SqL X.K H a ys):xs=ys:=by
 obtain⟨its,r,⟨o,n,e,_,_,d⟩,_⟩:=I.list h;obtain⟨its',r',⟨o',n',e',_,_,d'⟩,_⟩:=I.list h';rw[e]at e';cases e';rw[d]at d';injection d' with d1 _
 have:its=its':=by simpa using congrArg Array.toList d1
 subst this;exact r.inj r'
theorem Inv.tuple_inj(I:Inv X pins σ H s)(h:SqT X.K H a xs)(h':SqT X.K H a ys):xs=ys:=by
 obtain⟨its,r,⟨o,e,_,n,d⟩,_⟩:=I.tuple h;obtain⟨its',r',⟨o',e',_,n',d'⟩,_⟩:=I.tuple h';rw[e]at e';cases e';rw[d]at d';injection d' with d1 _
 have:its=its':=by simpa using congrArg Array.toList d1
 subst this;exact r.inj r'
end
abbrev Cx.wish(X:Cx)(E:J5->J6->Prop):Cx:={X with xe:=E}
abbrev Cx.nox(X:Cx):Cx:=X.wish λ_ _=>False
theorem Cx.Ok.wish{X:Cx}(ok:X.Ok)(E:J5->J6->Prop):(X.wish E).Ok:=
 ⟨ok.mod,ok.kind,ok.glob,ok.blt,ok.above,ok.inj,ok.has,ok.cab,ok.hd,ok.frames,ok.stk,ok.exf,ok.bs,ok.bsz,ok.noex,ok.exfs,ok.funs,ok.frf⟩
theorem Cx.Ok.unwish{X:Cx}{E:J5->J6->Prop}(ok:(X.wish E).Ok):X.Ok:=
 ⟨ok.mod,ok.kind,ok.glob,ok.blt,ok.above,ok.inj,ok.has,ok.cab,ok.hd,ok.frames,ok.stk,ok.exf,ok.bs,ok.bsz,ok.noex,ok.exfs,ok.funs,ok.frf⟩
section
variable{X:Cx}{pins:List (J8×Obj)}{σ:St}{H:Hp}{s:J6}{E:J5->J6->Prop}
theorem Inv.wish(I:Inv X pins σ H s)(E:J5->J6->Prop):Inv (X.wish E) pins σ H s:=⟨I.ok.wish E,I.os,I.bare,I.base,I.loc,I.cell,I.free,I.freeC,I.pin,I.hok,I.len⟩
theorem Inv.unwish(I:Inv (X.wish E) pins σ H s):Inv X pins σ H s:=⟨I.ok.unwish,I.os,I.bare,I.base,I.loc,I.cell,I.free,I.freeC,I.pin,I.hok,I.len⟩
theorem SP.unwish{D:Ends}{f:Flow}{s':J6}(h:SP (X.wish E) pins D f s'):SP X pins D f s':=by
 cases f with
 |next=>obtain⟨σ',H',I,q⟩:=h;exact⟨σ',H',I.unwish,q⟩
 |brk=>obtain⟨σ',H',I,q⟩:=h;exact⟨σ',H',I.unwish,q⟩
 |cont=>obtain⟨σ',H',I,q⟩:=h;exact⟨σ',H',I.unwish,q⟩
 |ret u=>obtain⟨v,σ',H',I,r,q⟩:=h;exact⟨v,σ',H',I.unwish,r,q⟩
theorem PSs.nox{st:List Stmt}{t:TS}(h:PSs X.nox st t):PSs X st t:=λpins s σ H D I hw=>
 Qr (h pins s σ H D (I.wish _) hw) (λ_ _ q=>q.unwish) λ_ _ z=>False.elim z
end
section
variable{X:Cx}{st:Stmt}{rest:List Stmt}{t u:TS}{e:Ua}{te:TE}{pos:Pos}
def HQ:TS:=λD σ H=>D.nx σ H
def XJ(t u:TS):TS:=λD σ H=>t {D with nx:=u D} σ H
theorem Ei:PSs X [] HQ:=λ_ _ σ H _ I h=>wpAny_execs_nil ⟨σ,H,I,h⟩
theorem Sk(h1:PS X st t)(h2:PSs X rest u):PSs X (st::rest) (XJ t u):=by
 intro pins s σ H D I h;refine wpAny_execs_cons (thn (h1 pins s σ H {D with nx:=u D} I h) λf s1 q=>?_);cases f with
 |next=>obtain⟨σ',H',I',q⟩:=q;exact h2 pins s1 σ' H' D I' q
 |ret v=>exact q
 |brk=>exact q
 |cont=>exact q
theorem Sd(h1:PS X st t):PSs X [st] t:=by
 intro pins s σ H D I h;refine wpAny_execs_cons (thn (h1 pins s σ H D I h) λf s1 q=>?_);cases f with
 |next=>exact wpAny_execs_nil q
 |ret v=>exact q
 |brk=>exact q
 |cont=>exact q
theorem Inv.quiet{pins:List (J8×Obj)}{σ:St}{H:Hp}{s:J6}(I:Inv X pins σ H s):interactive X.env=qw:=by simp[interactive,I.ok.kind]
def TC(te:TE):TS:=λD σ H=>te σ H λ_ H1=>D.nx σ H1
theorem VD(he:PE X e te)(hs:swapsWith e qu pos.line X.env=pure qw:=by rfl):PS X (.Expr e pos) (TC te):=by intro pins s σ H D I h;exact wpAny_Expr_any (thn (he pins s σ H _ I h) λv s1 ⟨x,H1,I1,r1,q1⟩=>⟨σ,H1,I1,q1⟩) I.quiet hs
def tRet(te:TE):TS:=λD σ H=>te σ H D.rt
theorem PY(he:PE X e te):PS X (.Return (O e) pos) (tRet te):=by intro pins s σ H D I h;exact wpAny_Return_some (thn (he pins s σ H _ I h) λv s1 ⟨x,H1,I1,r1,q1⟩=>⟨x,σ,H1,I1,r1,q1⟩)
def tIfS(c:TT)(t u:TS):TS:=λD σ H=>c σ H λb H1=>if b=qv then t D σ H1 else u D σ H1
theorem Pq{c:Ua}{a b:List Stmt}{tc:TT}(hc:PT X c tc)(ha:PSs X a t)(hb:PSs X b u):PS X (.If c a b pos) (tIfS tc t u):=by
 intro pins s σ H D I h;refine wpAny_If (thn (hc pins s σ H _ I h) λd s1 ⟨H1,I1,q1⟩=>?_);cases d with
 |true=>exact ha pins s1 σ H1 D I1 q1
 |false=>exact hb pins s1 σ H1 D I1 q1
end
abbrev TG:=V->St->Hp->(St->Hp->Prop)->Prop
abbrev TGs:=List V->St->Hp->(St->Hp->Prop)->Prop
def PG(X:Cx)(target:Ua)(t:TG):Prop:=
 ∀(pins:List (J8×Obj))(s:J6)(σ:St)(H:Hp)(v:V)(u:J5)(Q:St->Hp->Prop),Inv X pins σ H s->RelV v u->t v σ H Q ->
  Uc (model X.prog X.w) X.A (assign target X.env u) (λ_ s'=>∃σ' H',Inv X pins σ' H' s'/\Q σ' H') X.xe s
def PGs(X:Cx)(ts:qA)(t:TGs):Prop:=
 ∀(pins:List (J8×Obj))(s:J6)(σ:St)(H:Hp)(vs:List V)(us:qz)(Q:St->Hp->Prop),Inv X pins σ H s->Vals vs us->t vs σ H Q ->
  Uc (model X.prog X.w) X.A (assignInOrder ((Ut ts X.env).map (·.2)) us) (λ_ s'=>∃σ' H',Inv X pins σ' H' s'/\Q σ' H') X.xe s
section
variable{X:Cx}{pos:Pos}
def SN(i:Nat):TG:=λv σ H Q=>Q (σ.set i (O v)) H
theorem OX{i:Nat}{x:Str}(hN:X.N.Nodup)(hi:X.N[i]?=O x)(hx:Loc X.env.scope x)(hf:X.fn x=qv∨X.env.scope.names.lookup x=O .local:=by first|exact .inl rfl|exact .inr rfl|assumption):PG X (.Name x pos) (SN i):=by intro pins s σ H v u Q I r h;exact wpAny_assign_Name (Sm I hN hi hx r (λs' I'=>⟨_,H,I',h⟩) hf)
def gNil:TGs:=λvs σ H Q=>vs=[]/\Q σ H
def HP(t:TG)(u:TGs):TGs:=λvs σ H Q=>∃v r,vs=v::r/\t v σ H λσ' H'=>u r σ' H' Q
theorem Eh:PGs X [] gNil:=by intro pins s σ H vs us Q I r h;obtain⟨e,h⟩:=h;subst e;cases r;exact assignInOrder_nil ⟨σ,H,I,h⟩
theorem DI{e:Ua}{es:qA}{t:TG}{u:TGs}(h1:PG X e t)(h2:PGs X es u)
  (hs:(Ut (e::es) X.env).map (·.2)=assign e X.env::(Ut es X.env).map (·.2):=by rfl):PGs X (e::es) (HP t u):=by
 intro pins s σ H vs us Q I r h;obtain⟨v,vr,e1,h⟩:=h;subst e1;cases r with
 |cons r rr=>rw[hs];refine assignInOrder_cons (thn (h1 pins s σ H _ _ _ I r h) λ_ s1 ⟨σ1,H1,I1,q1⟩=>?_);exact h2 pins s1 σ1 H1 _ _ Q I1 rr q1
def gTup(K:Frag)(n:Nat)(t:TGs):TG:=λv σ H Q=>∃a xs,v=.ref a/\SqT K H a xs/\xs.length=n/\t xs σ H Q
theorem Gm{es:qA}{k:Nat}{t:TGs}{n:Nat}(hc:X.calm=qv)(h:PGs X es t)
  (hn:(Ut es X.env).length=n:=by rfl) (hst:(Ut es X.env).findIdx? (·.1)=qu:=by rfl):PG X (.Tuple es k pos) (gTup X.K n t):=by
 intro pins s σ H v u Q I r hw;obtain⟨a,xs,e1,hq,hl,hw⟩:=hw;subst e1;cases r;obtain⟨its,rv,ht,hz⟩:=I.tuple hq;refine assign_Tuple_tuple (I.ok.hd hc) ht (by simp[hn,←hl,rv.length]) hst λh' hx=>?_
 have I1:Inv X pins σ H {s with heap:=h'}:=I.kept (t':=s.toks) λb o e=>hx b o (QA (Qg e)) e;exact h pins _ σ H xs _ Q I1 (by simpa using rv) hw
def tAsg(te:TE)(g:TG):TS:=λD σ H=>te σ H λx H1=>g x σ H1 D.nx
theorem Gk{tg e:Ua}{te:TE}{g:TG}(he:PE X e te)(hg:PG X tg g)(hs:swapsWithSole [tg] e pos.line X.env=pure qw:=by rfl)(hw:swappedStores [tg] e X.env=pure qu:=by rfl)
  (h1:(Ut [tg] X.env).map (·.2)=[assign tg X.env]:=by rfl):PS X (.Assign [tg] e pos) (tAsg te g):=by
 intro pins s σ H D I h;refine wpAny_Assign_stores (thn (he pins s σ H _ I h) λv s1 ⟨x,H1,I1,r1,q1⟩=>?_) hs hw;rw[h1];exact thn (hg pins s1 σ H1 x v _ I1 r1 q1) λ_ s2 q=>q
theorem Ra{i:Nat}{x:Str}{e:Ua}{te:TE}{pos':Pos}(hN:X.N.Nodup)(hi:X.N[i]?=O x)(hx:Loc X.env.scope x)(he:PE X e te)(hs:swapsWith e (O (.Name x pos')) pos.line X.env=pure qw:=by rfl)(hf:X.fn x=qv∨X.env.scope.names.lookup x=O .local:=by first|exact .inl rfl|exact .inr rfl|assumption) :
  PS X (.Assign [.Name x pos'] e pos) (tAsg te (SN i)):=by
 intro pins s σ H D I h;refine wpAny_Assign_Name (thn (he pins s σ H _ I h) λv s1 ⟨y,H1,I1,r1,q1⟩=>?_) hs;exact Sm I1 hN hi hx r1 (λs2 I2=>⟨_,H1,I2,q1⟩) hf
end
structure It where
 go:Nat->Hp->Prop
 yld:Nat->Hp->V->Hp->Prop
 stop:Nat->Hp->Prop
def KD(X:Cx)(pins:List (J8×Obj))(H:Hp)(b:J8):Prop:=
 H b=qu/\b≠X.env.locals/\b∉X.fs/\(b∈X.ex∨X.s₀.heap.objs.size<=b)/\(∀x c,X.env.cells.lookup x=O c->c≠b)/\∀p∈X.pn++pins,p.1≠b
theorem Inv.fpOk{X:Cx}{pins:List (J8×Obj)}{σ:St}{H H':Hp}{s:J6}{b:J8}(I:Inv X pins σ H s)(hb:s.heap.objs.size<=b)(hn:H' b=qu):KD X pins H' b:=by
 refine⟨hn,Jn (Qz I.lt hb),I.nofs hb,.inr (QH I.sz hb),λx c e z=>?_,λp hp z=>?_⟩
 .obtain⟨v,q⟩:=I.cell x c e
  exact absurd (Qz q.lt (by rw[z];exact hb)) (Ja _)
 .exact absurd (Qz (Qg (I.pin p hp).1) (by rw[z];exact hb)) (Ja _)
structure Turn(P:J7)(w:World)(K:Frag)(tg:Ua)(J:It)(fp:qF)(it:J8)(tn:Nat->Heap->Prop):Prop where
 mem:it∈fp
 obj:∀i h,tn i h->∀b∈fp,∃o,h.get? b=O o/\∀v,o.data≠.cell v
 keep:∀i h h',tn i h->(∀b∈fp,∀o,h.get? b=O o->h'.get? b=O o)->tn i h'
 item:∀(X:Cx),X.prog=P->X.w=w->X.K=K->X.calm=qv->∀(i:Nat)(pins:List (J8×Obj))(s:J6)(σ:St)(H:Hp)(E:J5->J6->Prop),Inv X pins σ H s->(∀b∈fp,KD X pins H b)->tn i s.heap->J.go i H ->
  Uc (model P w) X.A (pyNext (.ref it)) (λr s1=>∃u,r=O u /\
   Uc (model P w) X.A (letOwnedTupleGo tg (.ref it) u) (λ_ s2=>∃x H',Inv X pins σ H' s2/\RelV x u/\J.yld i H x H'/\tn (i+1) s2.heap/\∀b∈fp,H' b=qu) E s1) E s
 done:∀(X:Cx),X.prog=P->X.w=w->X.K=K->X.calm=qv->∀(i:Nat)(pins:List (J8×Obj))(s:J6)(σ:St)(H:Hp)(E:J5->J6->Prop),Inv X pins σ H s->(∀b∈fp,KD X pins H b)->tn i s.heap->J.stop i H ->
  Uc (model P w) X.A (pyNext (.ref it)) (λr s1=>r=qu/\Inv X pins σ H s1) E s
 self:∀(A:Around)(i:Nat)(s:J6)(Q:J5->J6->Prop)(E:J5->J6->Prop),tn i s.heap->Q (.ref it) s->Uc (model P w) A (pyIter (.ref it)) Q E s
abbrev TI:=St->Hp->(It->Hp->Prop)->Prop
def PIE(X:Cx)(pins:List (J8×Obj))(σ:St)(tg:Ua)(R:It->Hp->Prop)(itv:J5)(s2:J6):Prop:=
 ∃(it:J8)(fp:qF)(tn:Nat->Heap->Prop)(J:It)(H':Hp),itv=.ref it/\Inv X pins σ H' s2/\Turn X.prog X.w X.K tg J fp it tn/\tn 0 s2.heap/\(∀b∈fp,KD X pins H' b)/\R J H'
def PI(X:Cx)(tg iter:Ua)(wi:TI):Prop:=
 ∀(pins:List (J8×Obj))(s:J6)(σ:St)(H:Hp)(R:It->Hp->Prop),Inv X pins σ H s->wi σ H R ->
  Uc (model X.prog X.w) X.A (eval iter X.env) (λv s1=>Uc (model X.prog X.w) X.A (pyIter v) (PIE X pins σ tg R) X.xe s1) X.xe s
theorem TB{M:Model}{A:Around}{E:J5->J6->Prop}{s:J6}{tg:Ua}{it:J8}{u:J5}{o:Obj}{n:String}{vs:Array J5}{Q:Unit->J6->Prop}(ho:s.heap.get? it=O o)(hc:o.cls=.type n)(hd:o.data=.fields vs)
  (hn:["enumerate", "zip", "dict_itemiterator", "dict_reverseitemiterator", "odict_iterator", "itertools.zip_longest", "itertools.pairwise"].contains n=qw) (hQ:Q () s):Uc M A (letOwnedTupleGo tg (.ref it) u) Q E s:=by
 unfold letOwnedTupleGo
 cases tg<;>first
  |exact Qh hQ
  |(cases u<;>first
    |exact Qh hQ
    |(
      refine Qb (wpAny_load ho ?_);rw[hc,hd];show Uc M A (if(["enumerate", "zip", "dict_itemiterator", "dict_reverseitemiterator", "odict_iterator", "itertools.zip_longest", "itertools.pairwise"].contains n&&vs[0]?==O (rawInt _))=qv then _ else _) Q E s;rw[Qy (by intro h;rw[hn,JV]at h;cases h)];exact Qh hQ))
def Itl(K:Frag)(a:J8):It:=
 ⟨λi H=>∃xs x,SqL K H a xs/\xs[i]?=O x,λi H x H'=>H'=H/\∀xs,SqL K H a xs->xs[i]?=O x,λi H=>∃xs,SqL K H a xs/\xs.length<=i⟩
def Itt(K:Frag)(a:J8):It:=
 ⟨λi H=>∃xs x,SqT K H a xs/\xs[i]?=O x,λi H x H'=>H'=H/\∀xs,SqT K H a xs->xs[i]?=O x,λi H=>∃xs,SqT K H a xs/\xs.length<=i⟩
def Itr(lo:Int)(n:Nat):It:=⟨λi _=>i<n,λi H x H'=>H'=H/\x=.int (lo+i),λi _=>n<=i⟩
theorem BV{P:J7}{w:World}{K:Frag}{tg:Ua}(a it:J8):Turn P w K tg (Itl K a) [it] it (λi h=>h.IsListIter it a i) where
 mem:=by simp
 obj:=λi h st b hb=>by
  have e:b=it:=by simpa using hb
  subst e;obtain⟨o,e,c,d⟩:=st;exact⟨o,e,λv z=>by rw[d]at z;cases z⟩
 keep:=λi h h' st k=>st.at λo e=>k it (by simp) o e
 item:=by
  intro X hP hw hK hc i pins s σ H E I hf st hg;subst hP hw hK;obtain⟨xs,x,hq,hx⟩:=hg;obtain⟨its,rv,p,hz⟩:=I.list hq;obtain⟨u,hu,ru⟩:=rv.get hx;obtain⟨f0,f1,f2,f3,f4,f5⟩:=hf it (by simp);refine wpAny_pyNext_list_item st p.isList (x:=u) (by simpa using hu) λh' st' sb=>?_
  have I1:Inv X pins σ H {s with heap:=h'}:=I.turned (t':=s.toks) (λb o hb e=>(sb.2 b hb).trans e) f0 f1 f3 f4 f5;obtain⟨o,e,c,d⟩:=id st';exact⟨u,rfl,TB (s:={s with heap:=h'}) e c d (by decide) ⟨x,H,I1,ru,⟨rfl,λys hy=>by rw[I.list_inj hy hq];exact hx⟩,st',λb hb=>(hf b hb).1⟩⟩
 done:=by intro X hP hw hK hc i pins s σ H E I hf st hg;subst hP hw hK;obtain⟨xs,hq,hx⟩:=hg;obtain⟨its,rv,p,hz⟩:=I.list hq;obtain⟨f0,f1,f2,f3,f4,f5⟩:=hf it (by simp);have hl:=rv.length;exact wpAny_pyNext_list_end (I.ok.hd hc) st p.isList (by simp;omega) λh' eb=>⟨rfl,I.turned (t':=s.toks) (λb o hb e=>eb b o hb e) f0 f1 f3 f4 f5⟩
 self:=λ_ _ _ _ _ st h=>wpAny_pyIter_listiter st h
theorem Az{P:J7}{w:World}{K:Frag}{tg:Ua}(a it:J8):Turn P w K tg (Itt K a) [it] it (λi h=>h.IsTupleIter it a i) where
 mem:=by simp
 obj:=λi h st b hb=>by
  have e:b=it:=by simpa using hb
  subst e;obtain⟨o,e,c,d⟩:=st;exact⟨o,e,λv z=>by rw[d]at z;cases z⟩
 keep:=λi h h' st k=>st.at λo e=>k it (by simp) o e
 item:=by
  intro X hP hw hK hc i pins s σ H E I hf st hg;subst hP hw hK;obtain⟨xs,x,hq,hx⟩:=hg;obtain⟨its,rv,p,hz⟩:=I.tuple hq;obtain⟨u,hu,ru⟩:=rv.get hx;obtain⟨f0,f1,f2,f3,f4,f5⟩:=hf it (by simp);refine wpAny_pyNext_tuple_item st (show s.heap.IsTuple a its.toArray from p) (x:=u) (by simpa using hu) λh' st' sb=>?_
  have I1:Inv X pins σ H {s with heap:=h'}:=I.turned (t':=s.toks) (λb o hb e=>(sb.2 b hb).trans e) f0 f1 f3 f4 f5;obtain⟨o,e,c,d⟩:=id st';exact⟨u,rfl,TB (s:={s with heap:=h'}) e c d (by decide) ⟨x,H,I1,ru,⟨rfl,λys hy=>by rw[I.tuple_inj hy hq];exact hx⟩,st',λb hb=>(hf b hb).1⟩⟩
 done:=by intro X hP hw hK hc i pins s σ H E I hf st hg;subst hP hw hK;obtain⟨xs,hq,hx⟩:=hg;obtain⟨its,rv,p,hz⟩:=I.tuple hq;obtain⟨f0,f1,f2,f3,f4,f5⟩:=hf it (by simp);have hl:=rv.length;exact wpAny_pyNext_tuple_end (I.ok.hd hc) st (show s.heap.IsTuple a its.toArray from p) (by simp;omega) λh' eb=>⟨rfl,I.turned (t':=s.toks) (λb o hb e=>eb b o hb e) f0 f1 f3 f4 f5⟩
 self:=λ_ _ _ _ _ st h=>wpAny_pyIter_tupleiter st h
theorem Ay{P:J7}{w:World}{K:Frag}{tg:Ua}(it:J8)(lo:Int)(n:Nat):Turn P w K tg (Itr lo n) [it] it (λi h=>IsRangeIter h it (lo+(i:Nat)*1) ((n:Int)-(i:Nat)) 1) where
 mem:=by simp
 obj:=λi h st b hb=>by
  have e:b=it:=by simpa using hb
  subst e;exact⟨_,st,λv z=>by have z':Data.fields _=Data.cell v:=z;cases z'⟩
 keep:=λi h h' st k=>k it (by simp) _ st
 item:=by
  intro X hP hw hK hc i pins s σ H E I hf st hg;subst hP hw hK;obtain⟨f0,f1,f2,f3,f4,f5⟩:=hf it (by simp);have W:=Walks.range (prog:=X.prog) (w:=X.w) (I.ok.hd hc) it lo 1 n;refine W.item i s _ _ hg st λv h' tk hv st' kk=>?_
  obtain⟨t,rfl⟩:=hv;have I1:Inv X pins σ H {s with heap:=h',toks:=tk}:=I.turned (λb o hb e=>kk b o (by simpa using hb) e) f0 f1 f3 f4 f5;refine⟨_,rfl,TB (s:={s with heap:=h',toks:=tk}) (n:= "range_iterator") st' qt qt (by decide) ⟨.int (lo+i),H,I1,⟨t,?_⟩,⟨rfl,rfl⟩,st',λb hb=>(hf b hb).1⟩⟩;rw[Int.mul_one]
 done:=by intro X hP hw hK hc i pins s σ H E I hf st hg;subst hP hw hK;obtain⟨f0,f1,f2,f3,f4,f5⟩:=hf it (by simp);exact wpAny_pyNext_range_end (I.ok.hd hc) st (by have:n<=i:=hg;omega) λh' eb=>⟨rfl,I.turned (t':=s.toks) (λb o hb e=>eb b o hb e) f0 f1 f3 f4 f5⟩
 self:=λ_ _ _ _ _ st h=>wpAny_pyIter_rangeiter st h
section
variable{X:Cx}{tg:Ua}
theorem Nb{pins:List (J8×Obj)}{σ:St}{H:Hp}{s:J6}{R:It->Hp->Prop}{E:J5->J6->Prop}{lo hi:Int}{t u v:Tok}{tk:Nat}(I:Inv X pins σ H s)(h1 : -(2 ^ 62)<=lo)(h2:lo<2 ^ 62)(h3 : -(2 ^ 62)<=hi)(h4:hi<2 ^ 62)
  (q:R (Itr lo (hi-lo).toNat) H):Uc (model X.prog X.w) X.A (pyIter (.ref s.heap.objs.size)) (PIE X pins σ tg R) E {s with heap:=s.heap.push {cls:=.type "range", data:=.fields #[.int lo t,.int hi u,.int 1 v]},toks:=tk}:=by
 refine wpAny_pyIter_range (IsRange.new ..) (small_one h1 h2 h3 h4) ?_;have I1:Inv X pins σ H {s with heap:=s.heap.push {cls:=.type "range", data:=.fields #[.int lo t,.int hi u,.int 1 v]},toks:=tk}:=I.kept λb o e=>Qf _ e
 refine⟨(s.heap.push {cls:=.type "range", data:=.fields #[.int lo t,.int hi u,.int 1 v]}).objs.size,[(s.heap.push {cls:=.type "range", data:=.fields #[.int lo t,.int hi u,.int 1 v]}).objs.size],_,_,H,rfl,
  I1.kept (t':=tk) λb o e=>Qf _ e,Ay _ lo (hi-lo).toNat,?_,λb hb=>?_,q⟩
 .have e1:lo+((0:Nat):Int)*1=lo:=by simp
  have e2:(((hi-lo).toNat:Nat):Int)-((0:Nat):Int)=Builtin.Range.rangeSize lo hi 1:=by rw[rangeSize_one];split<;>omega
  show IsRangeIter _ _ (lo+((0:Nat):Int)*1) ((((hi-lo).toNat:Nat):Int)-((0:Nat):Int)) 1;rw[e1,e2];exact Qt _ qt
 .have e:b=(s.heap.push {cls:=.type "range", data:=.fields #[.int lo t,.int hi u,.int 1 v]}).objs.size:=by simpa using hb
  subst e;exact I1.fpOk (Qk _) (I1.hok.fresh (Qk _))
def HN(ta:TA):TI:=λσ H R=>ta σ H λvs H1=>∃j:Int,vs=[.int j] /\ -(2 ^ 62)<=j/\j<2 ^ 62/\R (Itr 0 j.toNat) H1
def HM(ta:TA):TI:=λσ H R=>ta σ H λvs H1=>∃i j:Int,vs=[.int i,.int j]/\(-(2 ^ 62)<=i/\i<2 ^ 62 /\ -(2 ^ 62)<=j/\j<2 ^ 62)/\R (Itr i (j-i).toNat) H1
theorem Al{a:Ua}{ta:TA}{p pos:Pos}(hg:Gl X "range")(hm:X.mg "range" = qu)(ha:PA X [a] ta)(hs:Ud [a] X.env=[(qw,eval a X.env)]:=by rfl):PI X tg (.Call (.Name "range" p) [a] [] pos) (HN ta):=by
 intro pins s σ H R I h;refine Call_ (Xz I hg hm boot_range (Jm (thn (ha pos pins s σ H _ I h) λus s1 ⟨vs,H1,I1,r1,q1⟩=>?_) hs qt));obtain⟨j,e,q1,q2,q⟩:=q1;subst e;cases r1 with
 |cons r rr=>cases rr;obtain⟨t,rfl⟩:=r;exact call_range_1 (Nb I1 (by omega) (by omega) q1 q2 (by simpa using q))
theorem Ak{a b:Ua}{ta:TA}{p pos:Pos}(hg:Gl X "range")(hm:X.mg "range" = qu)(ha:PA X [a,b] ta)(hs:Ud [a,b] X.env=[(qw,eval a X.env),(qw,eval b X.env)]:=by rfl)(hs2:Ud [b] X.env=[(qw,eval b X.env)]:=by rfl) :
  PI X tg (.Call (.Name "range" p) [a,b] [] pos) (HM ta):=by
 intro pins s σ H R I h;refine Call_ (Xz I hg hm boot_range (Jm (thn (ha pos pins s σ H _ I h) λus s1 ⟨vs,H1,I1,r1,q1⟩=>?_) (by rw[hs,hs2]) (by rw[hs2];rfl)));obtain⟨i,j,e,⟨q1,q2,q3,q4⟩,q⟩:=q1;subst e;cases r1 with
 |cons r rr=>
  cases rr with
  |cons r' rr=>cases rr;obtain⟨t,rfl⟩:=r;obtain⟨t',rfl⟩:=r';exact call_range_2 (Nb I1 q1 q2 q3 q4 q)
def tFor(wi:TI)(g:TG)(tb:TS):TS:=λD σ H=>wi σ H λJ H1=>∃W:Nat->Nat->St->Hp->Prop,(∃m,W 0 m σ H1)/\∀i m σ H,W i m σ H ->
 (J.stop i H/\D.nx σ H)∨(J.go i H/\∃N:St->Hp->Prop,(∀σ' H',N σ' H'->∃m',m'<m/\W (i+1) m' σ' H')/\∀x H',J.yld i H x H'->g x σ H' λσ2 H2=>tb {D with nx:=N,ct:=N,bk:=D.nx} σ2 H2)
def Vu(fp:qF)(h:Heap):List (J8×Obj):=fp.filterMap λb=>(h.get? b).map λo=>(b,o)
theorem VT{fp:qF}{h:Heap}{b:J8}{o:Obj}(hb:b∈fp)(e:h.get? b=O o):(b,o)∈Vu fp h:=List.mem_filterMap.mpr ⟨b,hb,by rw[e];rfl⟩
theorem Aj{fp:qF}{h:Heap}{p:J8×Obj}(hp:p∈Vu fp h):p.1∈fp/\h.get? p.1=O p.2:=by
 obtain⟨b,hb,e⟩:=List.mem_filterMap.mp hp;cases q:h.get? b with
 |none=>rw[q]at e;cases e
 |some o=>rw[q]at e;have e':(b,o)=p:=QS e;subst e';exact⟨hb,q⟩
theorem Inv.pinned{pins:List (J8×Obj)}{σ:St}{H:Hp}{s:J6}{fp:qF}(I:Inv X pins σ H s)(hf:∀b∈fp,KD X pins H b)(ho:∀b∈fp,∃o,s.heap.get? b=O o/\∀v,o.data≠.cell v):Inv X (pins++Vu fp s.heap) σ H s:=
 I.pins_of λp hp=>(Jg.mp hp).elim (λz=>I.pin p (QD _ z)) λz=>by obtain⟨hb,e⟩:=Aj z;obtain⟨f0,f1,f2,_⟩:=hf p.1 hb;obtain⟨o,e',d⟩:=ho p.1 hb;rw[e]at e';cases e';exact⟨e,f0,f1,f2,d⟩
theorem Inv.unpinned{pins pl:List (J8×Obj)}{σ:St}{H:Hp}{s:J6}(I:Inv X (pins++pl) σ H s):Inv X pins σ H s:=I.pins_of λp hp=>I.pin p (QD _ (Jv _ hp))
theorem Gj{iter:Ua}{body:List Stmt}{wi:TI}{g:TG}{tb:TS}{pos:Pos}(hp:PassesOwn (model X.prog X.w) X.A X.env X.xe)(hc:X.calm=qv)(hi:PI X tg iter wi)(hg:PG X tg g)(hb:PSs X body tb)
  (hs:∀x,Uu iter X.env x=pure x:=by intro _;rfl):PS X (.For tg iter body [] pos) (tFor wi g tb):=by
 intro pins s σ H D I h;refine wpAny_For (thn (hi pins s σ H _ I h) λv s1 h1=>thn h1 λitv s2 h2=>?_) hs;obtain⟨it,fp,tn,J,H2,e,I2,T,st2,f2,W,⟨m0,w0⟩,turn⟩:=h2;subst e;have stat:∀{H':Hp},(∀b∈fp,H' b=qu)->∀b∈fp,KD X pins H' b:=λhn b hb=>⟨hn b hb,(f2 b hb).2⟩;refine codeAny_forLoop_any (λn s'=>∃i σ' H',Inv X pins σ' H' s'/\tn i s'.heap/\(∀b∈fp,H' b=qu)/\W i n σ' H') ?_ m0 ⟨0,σ,H2,I2,st2,λb hb=>(f2 b hb).1,w0⟩;rintro n s3 ⟨i,σ3,H3,I3,st3,fr3,w3⟩;rcases turn i n σ3 H3 w3 with ⟨stop,qn⟩|⟨go,N,hN,step⟩
 .refine wpAny_passesOwn hp (thn (T.done X qt qt qt hc i pins s3 σ3 H3 X.xe I3 (stat fr3) st3 stop) λr s4 ⟨hr,I4⟩=>?_)
  subst hr;exact wpAny_execs_nil ⟨σ3,H3,I4,qn⟩
 .refine wpAny_passesOwn hp (thn (T.item X qt qt qt hc i pins s3 σ3 H3 X.xe I3 (stat fr3) st3 go) λr s4 ⟨u,hr,h4⟩=>?_)
  subst hr;refine wpAny_passesOwn hp (thn h4 λ_ s5 ⟨x,H5,I5,r5,y5,jf,kM⟩=>?_);have I5':=I5.pinned (stat kM) (T.obj _ _ jf);refine wpAny_passesOwn hp (thn (hg _ s5 σ3 H5 x u _ I5' r5 (step x H5 y5)) λ_ s6 ⟨σ6,H6,I6,q6⟩=>?_);refine wpAny_passesOwn hp (thn (hb _ s6 σ6 H6 _ I6 q6) λf s7 q7=>?_);have again:∀{σ7:St}{H7:Hp},Inv X (pins++Vu fp s5.heap) σ7 H7 s7->N σ7 H7->∃m,m<n/\∃i σ' H',Inv X pins σ' H' s7/\tn i s7.heap/\(∀b∈fp,H' b=qu)/\W i m σ' H':=λ{σ7 H7} I7 n7=>by obtain⟨m',hm,w7⟩:=hN σ7 H7 n7;refine⟨m',hm,i+1,σ7,H7,I7.unpinned,T.keep _ _ _ jf λb hb o e=>(I7.pin (b,o) (QD _ (QD _ (VT hb e)))).1,λb hb=>?_,w7⟩;obtain⟨o,e,d⟩:=T.obj _ _ jf b hb;exact(I7.pin (b,o) (QD _ (QD _ (VT hb e)))).2.1
  cases f with
  |next=>obtain⟨σ7,H7,I7,n7⟩:=q7;exact again I7 n7
  |cont=>obtain⟨σ7,H7,I7,n7⟩:=q7;exact again I7 n7
  |brk=>obtain⟨σ7,H7,I7,q7⟩:=q7;exact⟨σ7,H7,I7.unpinned,q7⟩
  |ret v=>obtain⟨x7,σ7,H7,I7,r7,q7⟩:=q7;exact⟨x7,σ7,H7,I7.unpinned,r7,q7⟩
end
abbrev R2:=V->V->Hp->VK->Prop
def OpR(X:Cx)(f:J5->J5->Sem J5)(r:R2):Prop:=
 ∀(pins:List (J8×Obj))(s:J6)(σ:St)(H:Hp)(x y:V)(v u:J5)(Q:VK),Inv X pins σ H s->RelV x v->RelV y u->r x y H Q ->
  Uc (model X.prog X.w) X.A (f v u) (EP X pins σ Q) X.xe s
def UnR(X:Cx)(f:J5->Sem J5)(r:V->Hp->VK->Prop):Prop:=
 ∀(pins:List (J8×Obj))(s:J6)(σ:St)(H:Hp)(x:V)(v:J5)(Q:VK),Inv X pins σ H s->RelV x v->r x H Q ->
  Uc (model X.prog X.w) X.A (f v) (EP X pins σ Q) X.xe s
def ZM(X:Cx)(f:J5)(r:List V->Hp->VK->Prop):Prop:=
 ∀(pins:List (J8×Obj))(s:J6)(σ:St)(H:Hp)(xs:List V)(us:qz)(Q:VK),Inv X pins σ H s->Vals xs us->r xs H Q ->
  Uc (model X.prog X.w) X.A (call f us) (EP X pins σ Q) X.xe s
def tOp(r:R2)(ta tb:TE):TE:=λσ H Q=>ta σ H λx H1=>tb σ H1 λy H2=>r x y H2 Q
def tUn(r:V->Hp->VK->Prop)(ta:TE):TE:=λσ H Q=>ta σ H λx H1=>r x H1 Q
def rI(C:Int->Int->Prop)(g:Int->Int->V):R2:=λx y H Q=>∃i j,x=.int i/\y=.int j/\C i j/\Q (g i j) H
def rI0(g:Int->Int->V):R2:=λx y H Q=>∃i j,x=.int i/\y=.int j/\Q (g i j) H
def rU(g:Int->V):V->Hp->VK->Prop:=λx H Q=>∃i,x=.int i/\Q (g i) H
section
variable{X:Cx}{a b c:Ua}{ta tb tc:TE}{pos:Pos}
theorem Vl(ha:PE X a ta)(hb:PE X b tb){pins:List (J8×Obj)}{s:J6}{σ:St}{H:Hp}{R:V->V->Hp->Prop}(I:Inv X pins σ H s)
  (h:ta σ H λx H1=>tb σ H1 λy H2=>R x y H2) {Q:J5->J6->Prop} {f:J5->J5->Sem J5}
  (hf:∀v u s2 x y H2,Inv X pins σ H2 s2->RelV x v->RelV y u->R x y H2->Uc (model X.prog X.w) X.A (f v u) Q X.xe s2) :
  Uc (model X.prog X.w) X.A (eval a X.env) (λv s₁=>Uc (model X.prog X.w) X.A (eval b X.env) (λu s₂=>Uc (model X.prog X.w) X.A (f v u) Q X.xe s₂) X.xe s₁) X.xe s:=by
 refine thn (ha pins s σ H _ I h) λv s1 ⟨x,H1,I1,r1,q1⟩=>?_;refine thn (hb pins s1 σ H1 _ I1 q1) λu s2 ⟨y,H2,I2,r2,q2⟩=>?_;exact hf v u s2 x y H2 I2 r1 r2 q2
theorem Pp{op:Operator}{r:R2}(ho:OpR X (binaryOp op) r)(ha:PE X a ta)(hb:PE X b tb):PE X (.BinOp a op b pos) (tOp r ta tb):=by intro pins s σ H Q I h;exact wpAny_BinOp (Vl ha hb I h λv u s2 x y H2 I2 rx ry q=>ho pins s2 σ H2 x y v u Q I2 rx ry q)
theorem HL{op:UnaryOp}{r:V->Hp->VK->Prop}(ho:UnR X (unaryOp op) r)(ha:PE X a ta):PE X (.UnaryOp op a pos) (tUn r ta):=by intro pins s σ H Q I h;exact UnaryOp_ (thn (ha pins s σ H _ I h) λv s1 ⟨x,H1,I1,r1,q1⟩=>ho pins s1 σ H1 x v Q I1 r1 q1)
theorem opI{f:J5->J5->Sem J5}{C:Int->Int->Prop}{g:Int->Int->Int}
  (rule:∀(i j:Int)(t u:Tok)(s:J6)(Q:J5->J6->Prop)(E:J5->J6->Prop),C i j->Q (.int (g i j) s.toks) {s with toks:=s.toks+1}->Uc (model X.prog X.w) X.A (f (.int i t) (.int j u)) Q E s) :
  OpR X f (rI C λi j=>.int (g i j)):=by
 intro pins s σ H x y v u Q I rx ry h;obtain⟨i,j,rfl,rfl,hc,q⟩:=h;obtain⟨t,rfl⟩:=rx;obtain⟨t',rfl⟩:=ry;exact rule i j t t' s _ _ hc ⟨.int (g i j),H,I.tok _,⟨_,rfl⟩,q⟩
theorem opI0{f:J5->J5->Sem J5}{g:Int->Int->Int}
  (rule:∀(i j:Int)(t u:Tok)(s:J6)(Q:J5->J6->Prop)(E:J5->J6->Prop),Q (.int (g i j) s.toks) {s with toks:=s.toks+1}->Uc (model X.prog X.w) X.A (f (.int i t) (.int j u)) Q E s) :
  OpR X f (rI0 λi j=>.int (g i j)):=by
 intro pins s σ H x y v u Q I rx ry h;obtain⟨i,j,rfl,rfl,q⟩:=h;obtain⟨t,rfl⟩:=rx;obtain⟨t',rfl⟩:=ry;exact rule i j t t' s _ _ ⟨.int (g i j),H,I.tok _,⟨_,rfl⟩,q⟩
theorem XQ{f:J5->J5->Sem J5}{g:Int->Int->Bool}
  (rule:∀(i j:Int)(t u:Tok)(s:J6)(Q:J5->J6->Prop)(E:J5->J6->Prop),Q (.bool (g i j)) s->Uc (model X.prog X.w) X.A (f (.int i t) (.int j u)) Q E s) :
  OpR X f (rI0 λi j=>.bl (g i j)):=by
 intro pins s σ H x y v u Q I rx ry h;obtain⟨i,j,rfl,rfl,q⟩:=h;obtain⟨t,rfl⟩:=rx;obtain⟨t',rfl⟩:=ry;exact rule i j t t' s _ _ ⟨.bl (g i j),H,I,rfl,q⟩
def CPow(i j:Int):Prop:=0<=j/\j<=1000000/\i.natAbs<2 ^ 64
def CMul(i j:Int):Prop:=(-(2 ^ 64)<i/\i<2 ^ 64)∨(-(2 ^ 64)<j/\j<2 ^ 64)
theorem CMul.ok{i j:Int}(h:CMul i j):IntMulOk i j:=by
 rcases h with ⟨h1,h2⟩|⟨h1,h2⟩
 .exact .of_left (intBits_le_64 h1 h2)
 .exact .of_right (intBits_le_64 h1 h2)
theorem Gi:OpR X (binaryOp .Add) (rI0 λi j=>.int (i+j)):=opI0 λ_ _ _ _ _ _ _ q=>add_int q
theorem Gh:OpR X (binaryOp .Sub) (rI0 λi j=>.int (i-j)):=opI0 λ_ _ _ _ _ _ _ q=>sub_int q
theorem Gg:OpR X (binaryOp .Mult) (rI CMul λi j=>.int (i*j)):=opI λ_ _ _ _ _ _ _ hc q=>mul_int q hc.ok
theorem Ge:OpR X (binaryOp .Mod) (rI (λ_ j=>0<j) λi j=>.int (i % j)):=opI λi j _ _ _ _ _ hc q=>by have h1:(0:Int)<j:=hc;exact mod_int' (by omega) (by rw[Int.fmod_eq_emod_of_nonneg i (by omega)];exact q)
theorem Gd:OpR X (binaryOp .Pow) (rI CPow λi j=>.int (i ^ j.toNat)):=opI λ_ _ _ _ _ _ _ hc q=>pow_int_small hc.1 hc.2.1 hc.2.2 q
theorem unI{f:J5->Sem J5}{g:Int->Int}
  (rule:∀(i:Int)(t:Tok)(s:J6)(Q:J5->J6->Prop)(E:J5->J6->Prop),Q (.int (g i) s.toks) {s with toks:=s.toks+1}->Uc (model X.prog X.w) X.A (f (.int i t)) Q E s) :
  UnR X f (rU λi=>.int (g i)):=by
 intro pins s σ H x v Q I rx h;obtain⟨i,rfl,q⟩:=h;obtain⟨t,rfl⟩:=rx;exact rule i t s _ _ ⟨.int (g i),H,I.tok _,⟨_,rfl⟩,q⟩
theorem Gc:UnR X (unaryOp .USub) (rU λi=>.int (-i)):=unI λ_ _ _ _ _ q=>neg_int q
end
section
variable{X:Cx}{a b c:Ua}{ta tb tc:TE}{pos:Pos}
theorem PX{pins:List (J8×Obj)}{σ:St}{H:Hp}{s:J6}{Q:VK}{k k':Bool}(I:Inv X pins σ H s)(q:Q (.bl k) H)(e:k=k'):EP X pins σ Q (.bool k') s:=by subst e;exact⟨.bl k,H,I,rfl,q⟩
theorem HK:OpR X (Ue .Lt) (rI0 λi j=>.bl (decide (i<j))):=XQ λ_ _ _ _ _ _ _ q=>lt_int q
theorem LB:OpR X (Ue .LtE) (rI0 λi j=>.bl (decide (i<=j))):=XQ λ_ _ _ _ _ _ _ q=>le_int q
theorem LA:OpR X (Ue .Gt) (rI0 λi j=>.bl (decide (j<i))):=XQ λ_ _ _ _ _ _ _ q=>gt_int q
theorem Lz:OpR X (Ue .GtE) (rI0 λi j=>.bl (decide (j<=i))):=XQ λ_ _ _ _ _ _ _ q=>ge_int q
theorem Ai:OpR X (Ue .In) (λx y H Q=>∃i j,x=.str i/\y=.str j/\Q (.bl (!(Builtin.Str.occurrences j i 0 j.length 1).isEmpty)) H):=by intro pins s σ H x y v u Q I rx ry h;obtain⟨i,j,rfl,rfl,q⟩:=h;obtain⟨t,rfl⟩:=rx;obtain⟨t',rfl⟩:=ry;exact in_str (PX I q qt)
theorem A6:OpR X (Ue .NotIn) (λx y H Q=>∃i j,x=.str i/\y=.str j/\Q (.bl (!(!(Builtin.Str.occurrences j i 0 j.length 1).isEmpty))) H):=by intro pins s σ H x y v u Q I rx ry h;obtain⟨i,j,rfl,rfl,q⟩:=h;obtain⟨t,rfl⟩:=rx;obtain⟨t',rfl⟩:=ry;exact notIn_str (PX I q qt)
theorem OpR.or{f:J5->J5->Sem J5}{r r':R2}(h:OpR X f r)(h':OpR X f r'):OpR X f (λx y H Q=>r x y H Q∨r' x y H Q):=by
 intro pins s σ H x y v u Q I rx ry q;rcases q with q|q
 .exact h pins s σ H x y v u Q I rx ry q
 .exact h' pins s σ H x y v u Q I rx ry q
theorem Ga(b:Ua){op:CmpOp}(h:op≠.In:=by decide)(h2:op≠.NotIn:=by decide):behindInMarks op b=qw:=by
 have e1:(op==CmpOp.In)=qw:=by cases op<;>first|rfl|exact absurd qt h
 have e2:(op==CmpOp.NotIn)=qw:=by cases op<;>first|rfl|exact absurd qt h2
 cases b<;>simp[behindInMarks,e1,e2]
theorem O2{op:CmpOp}{r:R2}(ho:OpR X (Ue op) r)(ha:PE X a ta)(hb:PE X b tb)(hm:behindInMarks op b=qw):PE X (.Compare a [op] [b] pos) (tOp r ta tb):=by intro pins s σ H Q I h;exact wpAny_Compare1 (Vl ha hb I h λv u s2 x y H2 I2 rx ry q=>ho pins s2 σ H2 x y v u Q I2 rx ry q) hm
def Po(t:TE):TT:=λσ H Q=>t σ H λx H'=>∃k,x=.bl k/\Q k H'
theorem O1{op:CmpOp}{r:R2}(ho:OpR X (Ue op) r)(ha:PE X a ta)(hb:PE X b tb)(hm:behindInMarks op b=qw):PT X (.Compare a [op] [b] pos) (Po (tOp r ta tb)):=by
 intro pins s σ H Q I h
 refine wpAny_isTrue_Compare1 (thn (ha pins s σ H _ I h) λv s1 ⟨x,H1,I1,r1,q1⟩=>thn (hb pins s1 σ H1 _ I1 q1) λu s2 ⟨y,H2,I2,r2,q2⟩=>
  thn (ho pins s2 σ H2 x y v u _ I2 r1 r2 q2) λc s3 ⟨z,H3,I3,r3,k,e,q3⟩=>?_) hm
 subst e;cases r3;exact QX ⟨H3,I3,q3⟩
def PV(r r':R2)(ta tb tc:TE):TE:=λσ H Q=>ta σ H λx H1=>tb σ H1 λy H2=>r x y H2 λz H3=>∃k,z=.bl k /\
 (if k=qv then tc σ H3 λw' H4=>r' y w' H4 Q else Q (.bl qw) H3)
theorem DH{op op':CmpOp}{r r':R2}(ho:OpR X (Ue op) r)(ho':OpR X (Ue op') r')(ha:PE X a ta)(hb:PE X b tb)(hc:PE X c tc)
  (hm:lastMarks [op,op'] [b,c]=qw:=by with_unfolding_all rfl):PE X (.Compare a [op,op'] [b,c] pos) (PV r r' ta tb tc):=by
 intro pins s σ H Q I h
 refine Compare_chain (thn (ha pins s σ H _ I h) λv s1 ⟨x,H1,I1,r1,q1⟩=>chain_link (thn (hb pins s1 σ H1 _ I1 q1) λu s2 ⟨y,H2,I2,r2,q2⟩=>
  thn (ho pins s2 σ H2 x y v u _ I2 r1 r2 q2) λd s3 ⟨z,H3,I3,r3,k,e,q3⟩=>?_)) hm
 subst e;cases r3;refine QX ?_;cases k with
 |false=>exact ite_ff ⟨.bl qw,H3,I3,rfl,q3⟩
 |true=>exact ite_tt (chain_last (thn (hc pins s3 σ H3 _ I3 q3) λw' s4 ⟨z',H4,I4,r4,q4⟩=>ho' pins s4 σ H4 y z' u w' Q I4 r2 r4 q4))
theorem DG{op op':CmpOp}{r r':R2}(ho:OpR X (Ue op) r)(ho':OpR X (Ue op') r')(ha:PE X a ta)(hb:PE X b tb)(hc:PE X c tc)
  (hm:lastMarks [op,op'] [b,c]=qw:=by with_unfolding_all rfl):PT X (.Compare a [op,op'] [b,c] pos) (Po (PV r r' ta tb tc)):=by
 intro pins s σ H Q I h
 refine isTrue_chain (thn (ha pins s σ H _ I h) λv s1 ⟨x,H1,I1,r1,q1⟩=>test_link (thn (hb pins s1 σ H1 _ I1 q1) λu s2 ⟨y,H2,I2,r2,q2⟩=>
  thn (ho pins s2 σ H2 x y v u _ I2 r1 r2 q2) λd s3 ⟨z,H3,I3,r3,k,e,q3⟩=>?_)) hm
 subst e;cases r3;refine QX ?_;cases k with
 |false=>obtain⟨k',e',q'⟩:=q3;cases e';exact ite_ff ⟨H3,I3,q'⟩
 |true=>refine ite_tt (test_last (thn (hc pins s3 σ H3 _ I3 q3) λw' s4 ⟨z',H4,I4,r4,q4⟩=>thn (ho' pins s4 σ H4 y z' u w' _ I4 r2 r4 q4) λd' s5 ⟨z2,H5,I5,r5,k2,e2,q5⟩=>?_));subst e2;cases r5;exact QX ⟨H5,I5,q5⟩
theorem TW:(Ub:Nat)<2 ^ 63:=by rw[Jw];decide
theorem Ax:OpR X (binaryOp .Add) (λx y H Q=>∃i j,x=.str i/\y=.str j/\i.length+j.length<=Ub/\Q (.str (i++j)) H):=by intro pins s σ H x y v u Q I rx ry h;obtain⟨i,j,rfl,rfl,hz,q⟩:=h;obtain⟨t,rfl⟩:=rx;obtain⟨t',rfl⟩:=ry;exact add_str (λt' tk=>⟨.str (i++j),H,I.tok _,⟨_,rfl⟩,q⟩) hz
theorem V5{x:V}{us:qz}(r:Vals [x] us):∃u,us=[u]/\RelV x u:=by
 cases r with
 |cons r1 r2=>cases r2;exact⟨_,rfl,r1⟩
theorem SL{x y:V}{us:qz}(r:Vals [x,y] us):∃u w',us=[u,w']/\RelV x u/\RelV y w':=by
 cases r with
 |cons r1 r2=>
  cases r2 with
  |cons r3 r4=>cases r4;exact⟨_,_,rfl,r1,r3⟩
theorem Ah(hc:X.calm=qv):ZM X (.builtin "max") (λxs H Q=>∃i j,xs=[.int i,.int j]/\Q (.int (if j > i then j else i)) H):=by
 intro pins s σ H xs us Q I r h;obtain⟨i,j,rfl,q⟩:=h;obtain⟨u,w',rfl,⟨t,rfl⟩,⟨t',rfl⟩⟩:=SL r;refine max_two_ints (I.ok.hd hc) λh' tk k=>⟨_,H,I.kept k,?_,q⟩
 by_cases hj:j > i
 .rw[Qo hj,Qo hj];exact⟨_,rfl⟩
 .rw[Qy hj,Qy hj];exact⟨_,rfl⟩
theorem Ag:ZM X (.type "int") (λxs H Q=>(∃i,xs=[.int i]/\Q (.int i) H) ∨ ∃k,xs=[.bl k]/\Q (.int (if k then 1 else 0)) H):=by
 intro pins s σ H xs us Q I r h;rcases h with ⟨i,rfl,q⟩|⟨k,rfl,q⟩
 .obtain⟨u,rfl,t,rfl⟩:=V5 r
  exact call_int_int ⟨.int i,H,I,⟨_,rfl⟩,q⟩
 .obtain⟨u,rfl,r1⟩:=V5 r
  cases r1;exact call_int_bool ⟨.int (if k then 1 else 0),H,I.tok _,⟨_,rfl⟩,q⟩
def LenV(K:Frag)(x:V)(H:Hp)(n:Nat):Prop:=
 match x with
 |.str y=>y.length<=Ub/\n=y.length
 |.byt y=>y.size<=Ub/\n=y.size
 |.ref p=>(∃xs,SqL K H p xs/\n=xs.length) ∨ ∃xs,SqT K H p xs/\n=xs.length
 |_=>False
theorem Na:ZM X (.builtin "len") (λxs H Q=>∃x n,xs=[x]/\LenV X.K x H n/\Q (.int n) H):=by
 intro pins s σ H xs us Q I r h;obtain⟨x,n,rfl,e,q⟩:=h;obtain⟨u,rfl,rx⟩:=V5 r;have hl:=TW;have hs:Ub=16777216:=Jw;cases x with
 |str y=>obtain⟨t,rfl⟩:=rx;obtain⟨hy,e'⟩:y.length<=Ub/\n=y.length:=e;subst e';exact len_str (by omega) ⟨.int _,H,I.tok _,⟨_,rfl⟩,q⟩
 |byt y=>obtain⟨t,rfl⟩:=rx;obtain⟨hy,e'⟩:y.size<=Ub/\n=y.size:=e;subst e';exact PySem.W.len_bytes (by omega) ⟨.int _,H,I.tok _,⟨_,rfl⟩,q⟩
 |ref p=>
  cases rx;have e':(∃xs,SqL X.K H p xs/\n=xs.length) ∨ ∃xs,SqT X.K H p xs/\n=xs.length:=e;rcases e' with ⟨xs,hx,e'⟩|⟨xs,hx,e'⟩
  .subst e'
   obtain⟨its,r',pl,hz⟩:=I.list hx;have hlen:=r'.length;exact Calls.call_len_list pl.isList (by simp only[QN];omega) ⟨.int xs.length,H,I.tok _,⟨_,by simp only[QN];rw[hlen]⟩,q⟩
  .subst e'
   obtain⟨its,r',pl,hz⟩:=I.tuple hx;have hlen:=r'.length;exact len_tuple pl (by simp only[QN];omega) ⟨.int xs.length,H,I.tok _,⟨_,by simp only[QN];rw[hlen]⟩,q⟩
 |_=>exact(show False from e).elim
end
def K5(f:Str)(v:V):List (Str×V)->List (Str×V)
 |[]=>[(f,v)]
 |(g,x)::r=>if g=f then(g,v)::r else(g,x)::K5 f v r
theorem RR(f g:Str)(v:V):∀fs:List (Str×V),(K5 f v fs).lookup g=if g=f then O v else fs.lookup g
 |[]=>by
  show List.lookup g [(f,v)]=_;by_cases h:g=f
  .have hb:(g==f)=qv:=beq_iff_eq.mpr h
   simp only[List.lookup,hb,Qo h]
  .have hb:(g==f)=qw:=beq_eq_false_iff_ne.mpr h
   simp only[List.lookup,hb,Qy h]
 |(k,x)::r=>by
  have ih:=RR f g v r;rw[show K5 f v ((k,x)::r)=(if k=f then(k,v)::r else(k,x)::K5 f v r)from rfl];by_cases hk:k=f
  .rw[Qo hk]
   by_cases h:g=k
   .have hb:(g==k)=qv:=beq_iff_eq.mpr h
    simp only[List.lookup,hb,Qo (h.trans hk)]
   .have hb:(g==k)=qw:=beq_eq_false_iff_ne.mpr h
    simp only[List.lookup,hb,Qy (λe:g=f=>h (e.trans hk.symm))]
  .rw[Qy hk]
   by_cases h:g=k
   .have hb:(g==k)=qv:=beq_iff_eq.mpr h
    simp only[List.lookup,hb,Qy (λe:g=f=>hk (h.symm.trans e))]
   .have hb:(g==k)=qw:=beq_eq_false_iff_ne.mpr h
    simp only[List.lookup,hb];exact ih
theorem RJ(f:Str)(v:V):∀fs:List (Str×V),f∈(K5 f v fs).map (·.1)/\∀g,g∈fs.map (·.1)->g∈(K5 f v fs).map (·.1)
 |[]=>⟨by simp[K5],λg h=>by simp at h⟩
 |(k,x)::r=>by
  obtain⟨i1,i2⟩:=RJ f v r;rw[show K5 f v ((k,x)::r)=(if k=f then(k,v)::r else(k,x)::K5 f v r)from rfl];by_cases hk:k=f
  .rw[Qo hk]
   subst hk;exact⟨by simp,λg h=>by simpa using h⟩
  .rw[Qy hk]
   refine⟨?_,λg h=>?_⟩
   .rw[QG]
    exact Qu _ i1
   .rw[QG]at h⊢
    rcases QL.mp h with e|e
    .exact List.mem_cons.mpr (.inl e)
    .exact Qu _ (i2 g e)
section
variable{X:Cx}{pins:List (J8×Obj)}{σ:St}{H:Hp}{s:J6}{a C dx:J8}{fs:List (Str×V)}{f:Str}{v:V}{A:Around}{E:J5->J6->Prop}
theorem Eg{prog:J7}{w:World}{env:Env}{e:Ua}{f:Str}{pos:Pos}{s:J6}{Q:J5->J6->Prop}(hb:attributeBase e f env (eval e env)=eval e env)
  (h:Uc (model prog w) A (eval e env) (λo s₁=>Uc (model prog w) A (getAttr o f qv) Q E s₁) E s):Uc (model prog w) A (eval (.Attribute e f pos) env) Q E s:=
 Attribute_any_ h (by rw[arm_eval_Attribute,hb])
end
structure Room(k:Nat)(A:Around):Prop where
 hd:A.handled=qu
 dp:A.depth+3*k+5<recursionLimit
 un:A.units+16*k+200<cLine
 gd:A.guards=O []
theorem Room.mono{j k:Nat}{A:Around}(r:Room k A)(h:j<=k):Room j A:=⟨r.hd,by have:=r.dp;omega,by have:=r.un;omega,r.gd⟩
theorem Room.deeper{k:Nat}{A:Around}(r:Room (k+1) A)(env:Env):Room k (A.deeper env):=
 ⟨r.hd,by have:=r.dp;show A.depth+1+3*k+5<_;omega,by have:=r.un;show A.units+3+16*k+200<_;omega,r.gd⟩
theorem Aw{A:Around}{C:J8}{us:qz}{kw:List (Str×J5)}:(A.under (.builtin "type.__call__" ⟨.ref C::us,kw⟩)).depth=A.depth+1:=by
 first|rfl|simp[Around.under,Code.weight,Code.isCreation,Code.isGuard,Code.isCaller,Code.frames,Code.isFrame,guardIds]
theorem Av{A:Around}{C:J8}{us:qz}{kw:List (Str×J5)}:(A.under (.builtin "type.__call__" ⟨.ref C::us,kw⟩)).units=A.units+1:=by
 first|rfl|simp[Around.under,Code.cUnits,Code.frames,Code.isFrame]
theorem Room.make{k:Nat}{A:Around}(r:Room (k+1) A)(C:J8)(us:qz)(kw:List (Str×J5)):Room k (A.under (.builtin "type.__call__" ⟨.ref C::us,kw⟩)):=
 ⟨r.hd,by have:=r.dp;rw[Aw];omega,by have:=r.un;rw[Av];omega,(by first|exact r.gd|(simp[Around.under,guardIds];exact r.gd))⟩
theorem Room.depth{k:Nat}{A:Around}(r:Room k A):A.depth<recursionLimit:=by have:=r.dp;omega
theorem Room.units{k:Nat}{A:Around}(r:Room k A):A.units+64<cLine:=by have:=r.un;omega
def XM:TA:=λ_ H Q=>Q [] H
def Wy(ta:TE)(tr:TA):TA:=λσ H Q=>ta σ H λx H1=>tr σ H1 λxs H2=>Q (x::xs) H2
section
variable{X:Cx}{e:Ua}{es:qA}{te:TE}{t:TA}{pos:Pos}
theorem YT:PA X [] XM:=λ_ _ _ _ H Q I h=>Calls.spliced_nil ⟨[],H,I,.nil,h⟩
theorem ZG(ha:PE X e te)(hr:PA X es t)(hs:Ud (e::es) X.env=(qw,eval e X.env)::Ud es X.env:=by rfl):PA X (e::es) (Wy te t):=by intro pos pins s σ H Q I h;rw[hs];show Uc _ _ (spliced ((qw,eval e X.env)::backTo pos (Ud es X.env))) _ _ s;refine Calls.spliced_cons (thn (ha pins s σ H _ I h) λu s1 ⟨x,H1,I1,r1,q1⟩=>?_);exact thn (hr pos pins s1 σ H1 _ I1 q1) λus s2 ⟨xs,H2,I2,r2,q2⟩=>⟨x::xs,H2,I2,.cons r1 r2,q2⟩
def tTup(t:TA):TE:=λσ H Q=>t σ H λxs H1=>xs.length<=Ub/\∀p,H1 p=qu->Q (.ref p) (upd H1 p (.tup xs))
def tLst(t:TA):TE:=λσ H Q=>t σ H λxs H1=>xs.length<=Ub/\∀p,H1 p=qu->Q (.ref p) (upd H1 p (.lst xs))
theorem HZ{x1}(h:PA X es t):PE X (.Tuple es x1 pos) (tTup t):=by intro pins s σ H Q I hq;refine wpAny_Tuple_spliced (thn (h pos pins s σ H _ I hq) λus s1 ⟨xs,H1,I1,r,z,q⟩=>⟨by rw[←r.length];exact z,?_⟩);have hf:H1 s1.heap.objs.size=qu:=I1.hok.fresh (Qk _);refine⟨.ref s1.heap.objs.size,upd H1 s1.heap.objs.size (.tup xs),I1.laid (t':=s1.toks) (λb u e=>Qf _ e) (Qk _) ?_,rfl,q _ hf⟩;exact⟨z,us,r,⟨_,Qt _ qt,rfl,_,rfl⟩⟩
theorem PU(h:PA X es t):PE X (.List es pos) (tLst t):=by intro pins s σ H Q I hq;refine wpAny_List_spliced (thn (h pos pins s σ H _ I hq) λus s1 ⟨xs,H1,I1,r,z,q⟩=>⟨by rw[←r.length];exact z,?_⟩);have hf:H1 s1.heap.objs.size=qu:=I1.hok.fresh (Qk _);refine⟨.ref s1.heap.objs.size,upd H1 s1.heap.objs.size (.lst xs),I1.laid (t':=s1.toks) (λb u e=>Qf _ e) (Qk _) ?_,rfl,q _ hf⟩;exact⟨z,us,0,r,Qt _ qt⟩
end
abbrev Sp:=List V->Hp->VK->XK->Prop
abbrev CXT:=List Env->Hp->J6->XK->J5->J6->Prop
structure Env0(P:J7)(w:World)(K:Frag)(mg:Str->qC)(base:Heap)(A:Around)(outer:List Env)(s:J6)(H:Hp):Prop where
 frames:A.frames=O outer
 mod:Mod K mg base
 bs:∀b o,base.get? b=O o->s.heap.get? b=O o/\H b=qu
 bsz:base.objs.size<=s.heap.objs.size
 funs:s.heap.FunFrames base outer
 frf:∀b∈frs outer,H b=qu
 hok:HOk P w H s.heap
 bare:AllBare s.gens
def CE(outer:List Env)(P:J7)(w:World)(H:Hp)(s:J6)(Q:VK)(u:J5)(s':J6):Prop:=
 ∃v H',s'.os=s.os/\AllBare s'.gens/\Un (frs outer) [] H H' s.heap s'.heap/\HOk P w H' s'.heap/\RelV v u/\Q v H'
def CR(CX:CXT)(outer:List Env)(P:J7)(w:World)(H:Hp)(s:J6)(Q:VK)(E:XK)(r:Result)(s':J6):Prop:=
 match r with
 |.ok (.ret u)=>CE outer P w H s Q u s'
 |.ok _=>False
 |.error e=>CX outer H s E e s'
structure FnOk(P:J7)(w:World)(K:Frag)(mg:Str->qC)(base:Heap)(CX:CXT)(k:Nat)(f:J8)(fd:J9)(ps:List Str)(sp:Sp):Prop where
 len:∀vs H Q E,sp vs H Q E->vs.length=ps.length
 run:∀(A:Around)(outer:List Env)(s:J6)(H:Hp)(args:Args)(us:qz)(vs:List V)(Q:VK)(E:XK),Room k A->Env0 P w K mg base A outer s H->BindsTo s fd args (ps.zip us)->Vals vs us->sp vs H Q E ->
  codeAny (model P w) A (.call (.ref f) args) (CR CX outer P w H s Q E) s
theorem Env0.make{P:J7}{w:World}{K:Frag}{mg:Str->qC}{base:Heap}{A:Around}{outer:List Env}{s:J6}{H:Hp}(e:Env0 P w K mg base A outer s H)(C:J8)(us:qz)(kw:List (Str×J5)) :
  Env0 P w K mg base (A.under (.builtin "type.__call__" ⟨.ref C::us,kw⟩)) outer s H:=⟨by first|exact e.frames|(simpa[Around.under,Code.envs,Code.isFrame,pushEnvs]using e.frames),e.mod,e.bs,e.bsz,e.funs,e.frf,e.hok,e.bare⟩
section
variable{X:Cx}{pins:List (J8×Obj)}{σ:St}{H:Hp}{s s':J6}
theorem Inv.env0(I:Inv X pins σ H s):Env0 X.prog X.w X.K X.mg X.base X.A X.stack s H:=
 ⟨I.ok.frames,I.ok.mod,I.bs,QH I.ok.bsz I.sz,I.stack,I.stkFree,I.hok,I.bare⟩
theorem Inv.after{Q:VK}{u:J5}(I:Inv X pins σ H s)(h:CE X.stack X.prog X.w H s Q u s'):EP X pins σ Q u s':=by obtain⟨v,H',os,bare,un,hok,r,q⟩:=h;obtain⟨hh,g,d,t,os'⟩:=s';obtain rfl:os'=s.os:=os;exact⟨v,H',I.call (h':=hh) (g':=g) (d':=d) (t':=t) (ch:=[]) un hok bare (λb z=>absurd z (by simp)),r,q⟩
end
def Tz(sp:Sp)(dvs:List V)(E:XK)(t:TA):TE:=λσ H Q=>t σ H λvs H1=>sp (vs++dvs) H1 Q E
def ZL(K:Frag)(fd:J9)(ps:List Str)(ds:qz):Prop:=
 ∀(s:J6)(us:qz),K.In s.heap->(us++ds).length=ps.length->BindsTo s fd ⟨us,[]⟩ (ps.zip (us++ds))
theorem ZL.all{K:Frag}{fd:J9}{ps:List Str}(h:∀us:qz,us.length=ps.length->bindArgs fd ⟨us,[]⟩=pure (ps.zip us)):ZL K fd ps []:=λs us _ hl=>by rw[Jh]at hl⊢;exact .of_eq (h us hl)
def Rc(CX:CXT)(X:Cx)(E:XK):Prop:=∀(pins:List (J8×Obj))(σ:St)(H:Hp)(s:J6)(e:J5)(s':J6),Inv X pins σ H s->CX X.stack H s E e s'->X.xe e s'
section
variable{X:Cx}{CX:CXT}{k:Nat}{f C:J8}{fd:J9}{ps:List Str}{sp:Sp}{dvs:List V}{ds:qz}{E:XK}{x m:Str}{p pos apos:Pos}{e o:Ua}{es:qA}{ta:TE}{t:TA}
theorem PR{pins:List (J8×Obj)}{σ:St}{H:Hp}{s:J6}{Q:VK}{us:qz}{vs:List V}(F:FnOk X.prog X.w X.K X.mg X.base CX k f fd ps sp)(hr:Room k X.A)(hb:ZL X.K fd ps ds)(hd:Vals dvs ds)(hx:Rc CX X E)
  (I:Inv X pins σ H s) (r:Vals vs us) (h:sp (vs++dvs) H Q E):Uc (model X.prog X.w) X.A (call (.ref f) us) (EP X pins σ Q) X.xe s:=by
 have r2:Vals (vs++dvs) (us++ds):=r.append hd;have hl:(us++ds).length=ps.length:=by rw[←r2.length];exact F.len _ _ _ _ h
 refine wpAny_call (Ji (F.run X.A X.stack s H ⟨us,[]⟩ (us++ds) (vs++dvs) Q E hr I.env0 (hb s us I.kIn hl) r2 h) λr s' hq=>?_);cases r with
 |error e=>exact hx pins σ H s e s' I hq
 |ok fl=>
  cases fl with
  |ret u=>exact I.after hq
  |next=>exact False.elim hq
  |brk=>exact False.elim hq
  |cont=>exact False.elim hq
theorem Ef(F:FnOk X.prog X.w X.K X.mg X.base CX k f fd ps sp)(hr:Room k X.A)(hg:Gl X x)(hm:X.mg x=O (.ref f))(hk:PySem.W.keepIn X.K (.ref f)=qv)(hb:ZL X.K fd ps ds)(hd:Vals dvs ds)(hx:Rc CX X E)
  (ha:PA X (e::es) t) (hdb:(x==("__debug__" : Str))=qw:=by decide) (he:Ud (e::es) X.env=(qw,eval e X.env)::Ud es X.env:=by rfl) (hpl:(backTo pos (Ud es X.env)).any (·.1)=qw:=by rfl) :
  PE X (.Call (.Name x p) (e::es) [] pos) (Tz sp dvs E t):=by
 intro pins s σ H Q I h;refine Je (VE I hg hm ?_ hdb);refine PySem.W.callWith_K (h₀:=X.base) I.ok.mod.kin hk (thn (ha pos pins s σ H _ I h) λus s1 ⟨vs,H1,I1,r,q⟩=>⟨I1.kIn,?_⟩) he hpl;exact PR F hr hb hd hx I1 r q
end
structure VC(N P:List Str)(sc:Scope):Prop where
 kind:sc.kind=.function
 co:sc.isCoroutine=qw
 gen:sc.isGenerator=qw
 nd:N.Nodup
 pre:N.take P.length=P
 par:∀x∈P,sc.names.lookup x=O .local∨sc.names.lookup x=O .cell
 nofree:∀y∈sc.names,y.2≠.free
theorem N9{kindOf:Str->Option NameKind}{x:Str}:∀{binds:List (Str×J5)}{m:Str->qC},(∀v,(x,v)∉binds)->bindL kindOf binds m x=m x
 |[],_,_=>rfl
 |(n,v)::r,m,h=>by
  unfold bindL;rw[N9 λw hw=>h w (Qu _ hw)];split
  .have:x≠n:=by rintro rfl;exact h v Qp
   simp[this]
  .rfl
theorem N8{kindOf:Str->Option NameKind}{x:Str}:∀{binds:List (Str×J5)}{m:Str->qC},(∀v,(x,v)∉binds)->bindC kindOf binds m x=m x
 |[],_,_=>rfl
 |(n,v)::r,m,h=>by
  unfold bindC;rw[N8 λw hw=>h w (Qu _ hw)];split
  .rfl
  .have:x≠n:=by rintro rfl;exact h v Qp
   simp[this]
theorem N7{kindOf:Str->Option NameKind}{x:Str}{v:J5}:∀{P:List Str}{vs:qz}{i:Nat}{m:Str->qC},P.Nodup->P[i]?=O x->vs[i]?=O v->kindOf x=O .local ->
  bindL kindOf (P.zip vs) m x=O v
 |[],_,_,_,_,h,_,_=>by simp at h
 |_::_,[],_,_,_,_,h,_=>by simp at h
 |p::P,w::vs,0,m,nd,h1,h2,hk=>by simp at h1 h2;subst h1;subst h2;show bindL kindOf ((p,w)::P.zip vs) m p=_;unfold bindL;rw[N9 λv hv=>(List.nodup_cons.mp nd).1 (List.of_mem_zip hv).1,Qo hk];simp
 |p::P,w::vs,i+1,m,nd,h1,h2,hk=>by show bindL kindOf ((p,w)::P.zip vs) m x=_;unfold bindL;exact N7 (i:=i) (List.nodup_cons.mp nd).2 (by simpa using h1) (by simpa using h2) hk
theorem N6{kindOf:Str->Option NameKind}{x:Str}{v:J5}:∀{P:List Str}{vs:qz}{i:Nat}{m:Str->qC},P.Nodup->P[i]?=O x->vs[i]?=O v->kindOf x≠O .local ->
  bindC kindOf (P.zip vs) m x=O v
 |[],_,_,_,_,h,_,_=>by simp at h
 |_::_,[],_,_,_,_,h,_=>by simp at h
 |p::P,w::vs,0,m,nd,h1,h2,hk=>by simp at h1 h2;subst h1;subst h2;show bindC kindOf ((p,w)::P.zip vs) m p=_;unfold bindC;rw[N8 λv hv=>(List.nodup_cons.mp nd).1 (List.of_mem_zip hv).1,Qy hk];simp
 |p::P,w::vs,i+1,m,nd,h1,h2,hk=>by show bindC kindOf ((p,w)::P.zip vs) m x=_;unfold bindC;exact N6 (i:=i) (List.nodup_cons.mp nd).2 (by simpa using h1) (by simpa using h2) hk
def YV(N:List Str)(vs:List V):St:=vs.map O++Ug (N.length-vs.length) qu
def KJ(CX:CXT)(P:J7)(w:World)(K:Frag)(mg:Str->qC)(base:Heap)(N:List Str)(qual:Str)(scope:Scope)(f:J8)(cd:J5)(A:Around)(outer:List Env)(s:J6)(H:Hp)(E:XK):Cx where
 prog:=P
 w:=w
 K:=K
 mg:=mg
 base:=base
 A:=A.deeper (envOfC qual scope s.heap.objs.size f cd)
 N:=N
 s₀:=s
 H₀:=H
 env:=envOfC qual scope s.heap.objs.size f cd
 outer:=outer
 stack:=envOfC qual scope s.heap.objs.size f cd::outer
 ex:=[]
 calm:=qv
 fn:=λ_=>qv
 pn:=[]
 xe:=λe s'=>Uc (model P w) (A.deeper (envOfC qual scope s.heap.objs.size f cd)) (leaving (envOfC qual scope s.heap.objs.size f cd) e) (λ_ s''=>CX outer H s E e s'') (λe' s''=>CX outer H s E e' s'') s'
theorem O9{sc:Scope}{n:Nat}{x:Str}(h:sc.names.lookup x=O .cell):∃c,(cellsFrom n sc.names []).lookup x=O c:=by have q:=PySem.W.cellsFrom_some sc.names n [] (.inl h);exact Option.isSome_iff_exists.mp q
theorem C9{CX:CXT}{P:J7}{w:World}{K:Frag}{mg:Str->qC}{base:Heap}{N ps:List Str}{qual:Str}{scope:Scope}{f:J8}{cd:J5}{A:Around}{outer:List Env}{s s1:J6}{H:Hp}{E:XK}{us:qz}{vs:List V}
  (S:VC N ps scope) (hd:A.handled=qu) (e0:Env0 P w K mg base A outer s H) (hl:vs.length=ps.length) (r:Vals vs us)
  (x:InCallC s s.heap.objs.size (bindL (envOfC qual scope s.heap.objs.size f cd).kindOf (ps.zip us) λ_=>qu) (cellsFrom (s.heap.objs.size+1) scope.names []) (bindC (envOfC qual scope s.heap.objs.size f cd).kindOf (ps.zip us) λ_=>qu) s1) :
  Inv (KJ CX P w K mg base N qual scope f cd A outer s H E) [] (YV N vs) H s1:=by
 have hpl:ps.length<=N.length:=by have:=JO List.length S.pre;rw[JQ]at this;omega
 obtain⟨h1,tk,rfl,hk⟩:=x.done;have noA:∀b:J8,b∉(KJ CX P w K mg base N qual scope f cd A outer s H E).ex:=λb z=>absurd (show b∈([]:qF)from z) (by simp)
 refine⟨⟨e0.mod,S.kind,rfl,rfl,Qk _,λy z c h1 h2=>?_,λy hy=>?_,λy c _ h=>?_,λ_=>hd,Around.frames_deeper e0.frames,.inr ⟨rfl,rfl⟩,λb z=>absurd z (noA b),e0.bs,e0.bsz,λb _ _=>noA b,λb z=>absurd z (noA b),e0.funs,e0.frf⟩,
  rfl,e0.bare,Un.kept hk,⟨_,x.toInCall.ns,λi y v h1 h2 h3=>?_⟩,λy c h=>⟨_,x.cell y c h⟩,e0.hok.fresh (Nat.le_refl _),λy c h=>?_,λp hp=>absurd (show p∈([]:List (J8×Obj))from hp) (by simp),e0.hok.kept hk,?_⟩
 .exact name_of_addr x.apart (JG h1) (JG h2)
 .have hy:scope.names.lookup y=O .cell∨scope.names.lookup y=O .free:=hy
  rcases hy with hy|hy
  .exact O9 hy
  .exact absurd qt (S.nofree _ (JG hy))
 .exact Nat.le_of_lt (x.above y c (JG h))
 .have hi:i<vs.length:=by
   unfold YV at h2;by_cases hi:i<vs.length
   .exact hi
   .rw[List.getElem?_append_right (by simpa using hi)]at h2
    rw[Qw]at h2;split at h2<;>cases h2
  have ha:vs[i]?=O v:=by
   unfold YV at h2;rw[List.getElem?_append_left (by simpa using hi),List.getElem?_map]at h2;cases e:vs[i]? with
   |none=>rw[e]at h2;cases h2
   |some a=>rw[e]at h2;cases h2;rfl
  obtain⟨u,hu,rv⟩:=r.get ha;have hp:ps[i]?=O y:=by rw[←S.pre,List.getElem?_take_of_lt (by omega)];exact h1
  have ndP:ps.Nodup:=by rw[←S.pre];exact S.nd.sublist (List.take_sublist _ _)
  refine⟨u,rv,?_⟩;rcases S.par y (QP hp)with k|k
  .exact .inl ⟨k,N7 ndP hp hu k⟩
  .obtain⟨c,e⟩:=O9 (n:=s.heap.objs.size+1) k
   refine .inr ⟨.inl k,c,e,?_⟩;have q:=x.cell y c e;rw[N6 ndP hp hu (by show scope.names.lookup y≠_;rw[k];decide)]at q;exact q
 .exact e0.hok.fresh (Nat.le_of_lt (x.above y c (JG h)))
 .unfold YV
  show _=N.length;rw[Qm,Qd,QT];omega
theorem Pn{CX:CXT}{P:J7}{w:World}{K:Frag}{mg:Str->qC}{base:Heap}{k:Nat}{f:J8}{name qual:Str}{params:Arguments}{body:List Stmt}{scope:Scope}{dV kV doc pm cdv ct oc:J5}{an od:qG}
  {osl:Array qC} {N ps:List Str} {sp:Sp} (lk:K.lookup f=O ⟨oc,od,.func (PySem.W.fnOf name qual params body scope dV kV doc pm an cdv ct),osl⟩) (hcd:PySem.W.codeIn K cdv qual=qv) (S:VC N ps scope)
  (len:∀vs H Q E,sp vs H Q E->vs.length=ps.length)
  (hbody:∀(A:Around)(outer:List Env)(s:J6)(H:Hp)(vs:List V)(Q:VK)(E:XK),Room k (A.deeper (envOfC qual scope s.heap.objs.size f cdv))->sp vs H Q E ->
   ∃t,PSs (KJ CX P w K mg base N qual scope f cdv A outer s H E) body t/\t {nx:=λ_ H'=>Q .non H',rt:=Q} (YV N vs) H) :
  FnOk P w K mg base CX (k+1) f (PySem.W.fnOf name qual params body scope dV kV doc pm an cdv ct) ps sp:=by
 refine⟨len,λA outer s H args us vs Q E hr e0 hb r jM=>?_⟩;have hl:=len _ _ _ _ jM;have KX:K.In s.heap:=e0.mod.kin.keeps λb o e=>(e0.bs b o e).1;have lim:s.heap.NoLimit:=e0.mod.nolimit.keeps λb o e=>(e0.bs b o e).1
 have hkind:∀y∈ps.zip us,scope.names.lookup y.1=O .local∨(scope.names.lookup y.1=O .cell/\((cellsFrom (s.heap.objs.size+1) scope.names []).lookup y.1).isSome=qv):=λ⟨n,v⟩ hy=>by
  rcases S.par n (List.of_mem_zip hy).1 with q|q
  .exact .inl q
  .exact .inr ⟨q,PySem.W.cellsFrom_some _ _ _ (.inl q)⟩
 refine codeAny_call_function hr.depth (KX _ _ lk) qt S.co S.gen qt (PySem.W.codeRec_of KX hcd) (hb _ _ _ _ ?_);refine wpAny_newFunctionEnv_cells S.kind hkind λenv he s1 x=>?_;subst he
 refine⟨lim.keeps x.toInCall.keep,codeAny_func ?_⟩;obtain⟨t,ht,hq⟩:=hbody A outer s H vs Q E (hr.deeper _) jM;have I:Inv (KJ CX P w K mg base N qual scope f cdv A outer s H E) [] (YV N vs) H s1:=C9 S hr.hd e0 hl r x;refine Qr (ht [] s1 (YV N vs) H _ I hq) (λfl s' hs=>?_) λe s' hs=>hs
 have fin:∀{σ':St}{H':Hp}{v:V}{u:J5},Inv (KJ CX P w K mg base N qual scope f cdv A outer s H E) [] σ' H' s'->RelV v u->Q v H'->CE outer P w H s Q u s':=
  λ{σ' H' v u} J rv q=>⟨v,H',J.os,J.bare,J.base,J.hok,rv,q⟩
 cases fl with
 |ret u=>obtain⟨v,σ',H',J,rv,q⟩:=hs;exact fin J rv q
 |next=>obtain⟨σ',H',J,q⟩:=hs;exact fin (v:=V.non) (u:=Value.none) J qt q
 |brk=>obtain⟨_,_,_,q⟩:=hs;exact False.elim q
 |cont=>obtain⟨_,_,_,q⟩:=hs;exact False.elim q
section
variable{X:Cx}{x:Str}{p pos:Pos}{e:Ua}{es:qA}{t:TA}{id T:String}{r:List V->Hp->VK->Prop}
def tCB(r:List V->Hp->VK->Prop)(t:TA):TE:=λσ H Q=>t σ H λvs H1=>r vs H1 Q
theorem WJ(hc:ZM X (.builtin id) r)(hg:Gl X x)(hm:X.mg x=qu)(hv:bootBuiltins x=O (.builtin id))(ha:PA X (e::es) t)(hn:x ≠ "__name__" :=by decide)(hdb:(x==("__debug__" : Str))=qw:=by decide)
  (he:Ud (e::es) X.env=(qw,eval e X.env)::Ud es X.env:=by rfl) (hpl:(backTo pos (Ud es X.env)).any (·.1)=qw:=by rfl):PE X (.Call (.Name x p) (e::es) [] pos) (tCB r t):=by
 intro pins s σ H Q I h;refine Je (Xz I hg hm hv ?_ hn hdb);exact PyProof.Rows.callWith_builtin1 (thn (ha pos pins s σ H _ I h) λus s1 ⟨vs,H1,I1,r1,q1⟩=>hc pins s1 σ H1 vs us Q I1 r1 q1) he hpl
theorem So(hc:ZM X (.type T) r)(hg:Gl X x)(hm:X.mg x=qu)(hv:bootBuiltins x=O (.type T))(ha:PA X (e::es) t)(hn:x ≠ "__name__" :=by decide)(hdb:(x==("__debug__" : Str))=qw:=by decide)
  (he:Ud (e::es) X.env=(qw,eval e X.env)::Ud es X.env:=by rfl) (hpl:(backTo pos (Ud es X.env)).any (·.1)=qw:=by rfl):PE X (.Call (.Name x p) (e::es) [] pos) (tCB r t):=by
 intro pins s σ H Q I h;refine Je (Xz I hg hm hv ?_ hn hdb);exact Jm (thn (ha pos pins s σ H _ I h) λus s1 ⟨vs,H1,I1,r1,q1⟩=>hc pins s1 σ H1 vs us Q I1 r1 q1) he hpl
end
end L2
namespace HT
open PySem PyProof.Rows
section
variable{prog:J7}{w:World}{A:Around}{E:J5->J6->Prop}{s:J6}
def sIx(n d:Nat):qD->Nat
 |none=>d
 |some v=>if v<0 then(v+(n:Int)).toNat else min v.toNat n
end
end HT
namespace L2
open PySem PySem.Spec PyProof.Rows
abbrev TO:=St->Hp->(qD->Hp->Prop)->Prop
def PO(X:Cx)(e:Option Ua)(t:TO):Prop:=
 ∀(pins:List (J8×Obj))(s:J6)(σ:St)(H:Hp)(Q:qD->Hp->Prop),Inv X pins σ H s->t σ H Q ->
  Uc (model X.prog X.w) X.A (evalPart e X.env) (λu s'=>∃o H',Inv X pins σ H' s'/\IsPart u o/\Q o H') X.xe s
def Ee:TO:=λ_ H Q=>Q qu H
def Ly(t:TE):TO:=λσ H Q=>t σ H λx H1=>∃i,x=.int i/\Q (O i) H1
section
variable{X:Cx}{e:Ua}{te:TE}{lo hi:Option Ua}{tl th:TO}{pos p2:Pos}
theorem Ed:PO X qu Ee:=by intro pins s σ H Q I h;rw[evalPart_none];exact Qh ⟨qu,H,I,.none,h⟩
theorem Ec(h:PE X e te):PO X (O e) (Ly te):=by
 intro pins s σ H Q I hw;rw[evalPart_some];refine thn (h pins s σ H _ I hw) λu s1 ⟨x,H1,I1,r1,q1⟩=>?_
 obtain⟨i,rfl,q⟩:=q1;obtain⟨t,rfl⟩:=r1;exact⟨O i,H1,I1,.int i t,q⟩
def SlR(X:Cx)(r:V->qD->qD->Hp->VK->Prop):Prop:=
 ∀(pins:List (J8×Obj))(s:J6)(σ:St)(H:Hp)(x:V)(v vl vu:J5)(lo hi:qD)(sl:J8)(Q:VK),Inv X pins σ H s->RelV x v->s.heap.IsSliceOf sl vl vu .none->IsPart vl lo->IsPart vu hi->r x lo hi H Q ->
  ∃T id,typeLookup (.type T) "__getitem__" = pure (O (.builtin id))/\s.TypeIs v T/\Uc (model X.prog X.w) X.A (getItem v (.ref sl)) (EP X pins σ Q) X.xe s
theorem SlR.or{r r':V->qD->qD->Hp->VK->Prop}(h:SlR X r)(h':SlR X r'):SlR X (λx lo hi H Q=>r x lo hi H Q∨r' x lo hi H Q):=by
 intro pins s σ H x v vl vu lo hi sl Q I rx hs pl pu q;rcases q with q|q
 .exact h pins s σ H x v vl vu lo hi sl Q I rx hs pl pu q
 .exact h' pins s σ H x v vl vu lo hi sl Q I rx hs pl pu q
def tSl(r:V->qD->qD->Hp->VK->Prop)(te:TE)(tl th:TO):TE:=λσ H Q=>te σ H λx H1=>tl σ H1 λl H2=>th σ H2 λu H3=>r x l u H3 Q
theorem DF{r:V->qD->qD->Hp->VK->Prop}(hr:SlR X r)(he:PE X e te)(hl:PO X lo tl)(hu:PO X hi th):PE X (.Subscript e (.Slice lo hi qu p2) pos) (tSl r te tl th):=by
 intro pins s σ H Q I h;refine Subscript_ (thn (he pins s σ H _ I h) λv s1 ⟨x,H1,I1,r1,q1⟩=>?_);refine wpAny_Slice (thn (hl pins s1 σ H1 _ I1 q1) λvl s2 ⟨l,H2,I2,pl,q2⟩=>thn (hu pins s2 σ H2 _ I2 q2) λvu s3 ⟨u,H3,I3,pu,q3⟩=>?_);rw[evalPart_none];refine Qh ?_;have I4:Inv X pins σ H3 {s3 with heap:=s3.heap.push {cls:=.type "slice", data:=.fields #[vl,vu,.none]}}:=I3.kept (t':=s3.toks) λb ob q=>Qf _ q
 obtain⟨T,id,hT,ht,hg⟩:=hr pins {s3 with heap:=s3.heap.push {cls:=.type "slice", data:=.fields #[vl,vu,.none]}} σ H3 x v vl vu l u s3.heap.objs.size Q I4 r1 (Heap.IsSliceOf.new ..) pl pu q3;show Uc (model X.prog X.w) X.A (subscriptTail e (.Slice lo hi qu p2) v (.ref s3.heap.objs.size)) (EP X pins σ Q) X.xe {s3 with heap:=s3.heap.push {cls:=.type "slice", data:=.fields #[vl,vu,.none]}};exact tail_any (ops:=[.ref s3.heap.objs.size,v]) ht hT hg (by with_unfolding_all rfl)
def YH(xs:List V)(lo hi:qD):List V:=(xs.drop (HT.sIx xs.length 0 lo)).take (HT.sIx xs.length xs.length hi-HT.sIx xs.length 0 lo)
theorem AT(xs:List V)(lo hi:qD):(YH xs lo hi).length<=xs.length:=by unfold YH;rw[JQ,List.length_drop];omega
end
def ixN(n:Nat)(i:Int):Option Nat:=if 0<=i then(if i<n then O i.toNat else qu)else if -(n:Int)<=i then O (i+n).toNat else qu
def atI{α:Type}(xs:List α)(i:Int):Option α:=(ixN xs.length i).bind λj=>xs[j]?
theorem Eb{n:Nat}{i:Int}{j:Nat}(h:ixN n i=O j):seqIndex? i n=O j/\j<n /\ -(n:Int)<=i/\i<n:=by
 unfold ixN at h;by_cases h0:0<=i
 .rw[Qo h0]at h
  by_cases h1:i<n
  .rw[Qo h1]at h
   have e:i.toNat=j:=QS h;exact⟨by rw[seqIndex_of h0 h1,e],by omega,by omega,h1⟩
  .rw[Qy h1]at h;cases h
 .rw[Qy h0]at h
  by_cases h1 : -(n:Int)<=i
  .rw[Qo h1]at h
   have e:(i+n).toNat=j:=QS h;exact⟨by rw[seqIndex_neg (by omega) h1,e],by omega,h1,by omega⟩
  .rw[Qy h1]at h;cases h
theorem Ro{α:Type}{xs:List α}{i:Int}{v:α}(h:atI xs i=O v):∃j,seqIndex? i xs.length=O j/\xs[j]?=O v/\j<xs.length /\ -(xs.length:Int)<=i/\i<xs.length:=by
 unfold atI at h;cases e:ixN xs.length i with
 |none=>rw[e]at h;cases h
 |some j=>rw[e]at h;obtain⟨h1,h2,h3,h4⟩:=Eb e;exact⟨j,h1,h,h2,h3,h4⟩
theorem KS{α:Type}{xs:List α}{j:Nat}{v:α}(h:xs[j]?=O v):atI xs (j:Int)=O v:=by
 have hj:j<xs.length:=(Ql.mp h).1;have e:ixN xs.length (j:Int)=O j:=by unfold ixN;rw[if_pos (by omega),if_pos (by omega)];simp
 unfold atI;rw[e];exact h
def Rn(b:Ua):Prop:=∀o i,subscripted b qw o i=operate [o,i] (getItem o i)
def IxR(X:Cx)(r:R2):Prop:=
 ∀(value slice:Ua)(pins:List (J8×Obj))(s:J6)(σ:St)(H:Hp)(x y:V)(v u:J5)(Q:VK),Inv X pins σ H s->RelV x v->RelV y u->r x y H Q ->
  subscripted slice qw v u=operate [v,u] (getItem v u)->Uc (model X.prog X.w) X.A (subscriptTail value slice v u) (EP X pins σ Q) X.xe s
def MtR(X:Cx)(id:String)(r:V->List V->Hp->VK->Prop):Prop:=
 ∀(pins:List (J8×Obj))(s:J6)(σ:St)(H:Hp)(x:V)(xs:List V)(v:J5)(us:qz)(Q:VK),Inv X pins σ H s->RelV x v->Vals xs us->r x xs H Q ->
  Uc (model X.prog X.w) X.A (call (.builtin id) (v::us)) (EP X pins σ Q) X.xe s
section
variable{X:Cx}{a b:Ua}{ta tb:TE}{pos:Pos}
theorem IxR.or{r r':R2}(h:IxR X r)(h':IxR X r'):IxR X (λx y H Q=>r x y H Q∨r' x y H Q):=by
 intro value slice pins s σ H x y v u Q I rx ry q hs;rcases q with q|q
 .exact h value slice pins s σ H x y v u Q I rx ry q hs
 .exact h' value slice pins s σ H x y v u Q I rx ry q hs
theorem Pm{r:R2}(hr:IxR X r)(ha:PE X a ta)(hb:PE X b tb)(hs:Rn b):PE X (.Subscript a b pos) (tOp r ta tb):=by intro pins s σ H Q I h;exact Subscript_ (Vl ha hb I h λv u s2 x y H2 I2 rx ry q=>hr a b pins s2 σ H2 x y v u Q I2 rx ry q (hs _ _))
def rIxL(K:Frag):R2:=λx y H Q=>∃p xs i v,x=.ref p/\y=.int i/\SqL K H p xs/\atI xs i=O v/\Q v H
def rIxT(K:Frag):R2:=λx y H Q=>∃p xs i v,x=.ref p/\y=.int i/\SqT K H p xs/\atI xs i=O v/\Q v H
def rIxS:R2:=λx y H Q=>∃z i c,x=.str z/\y=.int i/\z.length<=Ub/\atI z.cps.toList i=O c/\Q (.str ⟨#[c]⟩) H
theorem Ea:IxR X (rIxL X.K):=by
 intro value slice pins s σ H x y v u Q I rx ry h hs;obtain⟨p,xs,i,z,rfl,rfl,hq,he,q⟩:=h;cases rx;obtain⟨t,rfl⟩:=ry;obtain⟨its,r,pl,hz⟩:=I.list hq;obtain⟨j,h1,h2,h3,h4,h5⟩:=Ro he;obtain⟨w,ew,km⟩:=r.get h2;have hl:=r.length;have hn:=TW;have fin:EP X pins σ Q w s:=⟨z,H,I,km,q⟩
 by_cases h0:0<=i
 .have hj:i.toNat=j:=by
   rw[seqIndex_of h0 h5]at h1;exact QS h1
  exact item_listR pl.isList h0 (by omega) (by rw[hj];simpa using ew) fin hs
 .have hj:(i+(its.toArray.size:Int)).toNat=j:=by
   rw[seqIndex_neg (by omega) h4]at h1;rw[QN,←hl];exact QS h1
  exact subscriptTail_builtinR (x:=w) pl.isList.typeIs slot_list_getitem.lookup
   (wpAny_getItem_list_neg (Q:=λr s'=>r=w/\EP X pins σ Q r s') pl.isList (by omega) (by rw[List.size_toArray]<;>omega) (by omega) (by rw[hj];simpa using ew) ⟨rfl,fin⟩) hs
theorem HY:IxR X (rIxT X.K):=by
 intro value slice pins s σ H x y v u Q I rx ry h hs;obtain⟨p,xs,i,z,rfl,rfl,hq,he,q⟩:=h;cases rx;obtain⟨t,rfl⟩:=ry;obtain⟨its,r,pl,hz⟩:=I.tuple hq;obtain⟨j,h1,h2,h3,h4,h5⟩:=Ro he;obtain⟨w,ew,km⟩:=r.get h2;have hl:=r.length;have hn:=TW;have fin:EP X pins σ Q w s:=⟨z,H,I,km,q⟩
 exact subscriptTail_builtinR (x:=w) pl.typeIs slot_tuple_getitem.lookup
  (getItem_tuple (j:=j) (Q:=λr s'=>r=w/\EP X pins σ Q r s') pl (by omega) (by omega) (by rw[List.size_toArray,←hl];exact h1) (by simpa using ew) ⟨rfl,fin⟩) hs
theorem HX:IxR X rIxS:=by
 intro value slice pins s σ H x y v u Q I rx ry h hs;obtain⟨z,i,c,rfl,rfl,hz,he,q⟩:=h;obtain⟨t,rfl⟩:=rx;obtain⟨t',rfl⟩:=ry;obtain⟨j,h1,h2,h3,h4,h5⟩:=Ro he;have hl:z.cps.toList.length=z.length:=by simp[Str.length]
 rw[hl]at h1 h4 h5;have hn:=TW;exact tail_any (typeIs_str s z t) slot_str_getitem.lookup (getItem_str (c:=c) (by have e1:decide (i < -(2 ^ 63:Int))=qw:=Qs (by omega);have e2:decide (i ≥ 2 ^ 63)=qw:=Qs (by omega);rw[e1,e2,Bool.or_false]) (by rw[h1];simpa using h2) ⟨.str ⟨#[c]⟩,H,I.tok _,⟨_,rfl⟩,q⟩) hs
def rIx(K:Frag):R2:=λx y H Q=>rIxL K x y H Q∨rIxT K x y H Q∨rIxS x y H Q
theorem PQ:IxR X (rIx X.K):=Ea.or (HY.or HX)
theorem A5(lo hi:qD)(n:Nat):(sliceBounds lo hi qu n).1=((HT.sIx n 0 lo:Nat):Int)/\(sliceBounds lo hi qu n).2.1=((HT.sIx n n hi:Nat):Int)/\(sliceBounds lo hi qu n).2.2=1:=by
 refine⟨?_,?_,rfl⟩
 .cases lo with
  |none=>simp[sliceBounds,HT.sIx]
  |some i=>
   simp only[sliceBounds,HT.sIx,Option.getD_none,show(1:Int) > 0 by decide,if_true];by_cases h:i<0
   .simp only[h,if_true]<;>omega
   .simp only[h,JZ]<;>omega
 .cases hi with
  |none=>simp[sliceBounds,HT.sIx]
  |some i=>
   simp only[sliceBounds,HT.sIx,Option.getD_none,show(1:Int) > 0 by decide,if_true];by_cases h:i<0
   .simp only[h,if_true]<;>omega
   .simp only[h,JZ]<;>omega
theorem AZ(its:qz)(lo hi:qD):slicePick its.toArray lo hi qu=((its.drop (HT.sIx its.length 0 lo)).take (HT.sIx its.length its.length hi-HT.sIx its.length 0 lo)).toArray:=by obtain⟨h1,h2,h3⟩:=A5 lo hi its.toArray.size;unfold slicePick;rw[h1,h2,h3];simp only[sliceRange_one,pick_run,QN]<;>rfl
def rSlL(K:Frag):V->qD->qD->Hp->VK->Prop:=λx lo hi H Q=>∃a xs,x=.ref a/\SqL K H a xs/\∀p,H p=qu->Q (.ref p) (upd H p (.lst (YH xs lo hi)))
theorem F9:SlR X (rSlL X.K):=by intro pins s σ H x v vl vu lo hi sl Q I rx hs pl pu h;obtain⟨a,xs,rfl,hx,q⟩:=h;cases rx;obtain⟨its,r,ht,hz⟩:=I.list hx;have hlen:=r.length;refine⟨"list", _,slot_list_getitem.lookup,ht.isList.typeIs,?_⟩;refine wpAny_getItem_list_slice ht.isList hs pl pu .none (by simp) ?_ (by rw[List.size_toArray]<;>omega);rw[AZ,←hlen];refine⟨.ref s.heap.objs.size,_,I.laid (t':=s.toks) (o:=.lst (YH xs lo hi)) (λb ob q=>Qf _ q) (Qk _) ?_,rfl,q _ (I.hok.fresh (Qk _))⟩;exact⟨QH (AT xs lo hi) hz,_,0,(r.drop (HT.sIx xs.length 0 lo)).take (HT.sIx xs.length xs.length hi-HT.sIx xs.length 0 lo),Qt _ qt⟩
theorem A4:ZM X (.type "list") (λxs H Q=>∃p ys,xs=[.ref p]/\(SqL X.K H p ys∨SqT X.K H p ys)/\∀l,H l=qu->Q (.ref l) (upd H l (.lst ys))):=by
 intro pins s σ H xs us Q I r h;obtain⟨p,ys,rfl,hq,q⟩:=h;obtain⟨u,rfl,rx⟩:=V5 r;cases rx
 have fin:∀(its:qz),Vals ys its->ys.length<=Ub->∀(h':Heap)(c':Nat),(∀b o',s.heap.get? b=O o'->h'.get? b=O o') ->
   h'.get? s.heap.objs.size=O {cls:=.type "list", dict:=qu,data:=.seq its.toArray c',slots:=#[]}->EP X pins σ Q (.ref s.heap.objs.size) {s with heap:=h'}:=λits r' hz h' c' kp e=>
  ⟨.ref s.heap.objs.size,_,I.laid (t':=s.toks) kp (Qk _) (show KT X.prog X.w _ h' _ (.lst ys)from⟨hz,its,c',r',e⟩),rfl,q _ (I.hok.fresh (Qk _))⟩
 rcases hq with hq|hq
 .obtain⟨its,r',pl,hz⟩:=I.list hq
  have hlen:=r'.length;obtain⟨o,ho,hc,n,hd⟩:=pl.isList;exact call_list_seq p (.inl qt) ho hc hd (λh' c' kp e=>fin its r' hz h' c' kp e) (by simp only[QN]<;>omega)
 .obtain⟨its,r',pl,hz⟩:=I.tuple hq
  have hlen:=r'.length;obtain⟨o,ho,hc,n,hd⟩:=pl;exact call_list_seq p (.inr qt) ho hc hd (λh' c' kp e=>fin its r' hz h' c' kp e) (by simp only[QN]<;>omega)
theorem AY:ZM X (.type "tuple") (λxs H Q=>∃p ys,xs=[.ref p]/\((SqL X.K H p ys/\∀l,H l=qu->Q (.ref l) (upd H l (.tup ys)))∨(SqT X.K H p ys/\Q (.ref p) H))):=by
 intro pins s σ H xs us Q I r h;obtain⟨p,ys,rfl,h⟩:=h;obtain⟨u,rfl,rx⟩:=V5 r;cases rx;rcases h with ⟨hq,q⟩|⟨hq,q⟩
 .obtain⟨its,r',pl,hz⟩:=I.list hq
  have hlen:=r'.length;refine call_tuple_list pl.isList (λh' kp=>?_) (by simp only[QN]<;>omega);have I1:Inv X pins σ H {s with heap:=h'}:=I.kept (t':=s.toks) kp
  have I2:Inv X pins σ (upd H h'.objs.size (.tup ys)) {s with heap:=h'.push {cls:=.type "tuple", data:=.seq its.toArray}}:=
   I1.laid (t':=s.toks) (λb o e=>Qf _ e) (Qk _) (show KT X.prog X.w _ _ _ (.tup ys)from⟨hz,its,r',IsTup.new _ _⟩)
  exact⟨.ref h'.objs.size,_,I2,rfl,q _ (I1.hok.fresh (Qk _))⟩
 .obtain⟨its,r',pl,hz⟩:=I.tuple hq
  exact call_tuple_same pl ⟨.ref p,H,I,rfl,q⟩
def tyV(K:Frag)(T:String)(x:V)(H:Hp):Prop:=match x with
 |.str _=>T = "str"
 |.int _=>T = "int"
 |.ref p=>(T = "list" /\ ∃xs,SqL K H p xs)∨(T = "tuple" /\ ∃o,K.lookup p=O o/\o.cls=.type "tuple" /\ o.dict=qu) ∨
   (T = "dict" /\ ((∃kvs,H p=O (.dK kvs)) ∨ ∃kvs,H p=O (.dT kvs)))∨(T = "set" /\ ∃S n,H p=O (.set S n))
 |_=>False
theorem PP{pins:List (J8×Obj)}{σ:St}{H:Hp}{s:J6}{T:String}{x:V}{v:J5}(I:Inv X pins σ H s)(r:RelV x v)(ty:tyV X.K T x H) :
  s.TypeIs v T/\∀a,v=.ref a->∃ob,s.heap.get? a=O ob/\ob.dict=qu:=by
 cases x with
 |str z=>obtain⟨t,rfl⟩:=r;cases (show T = "str" from ty);exact⟨typeIs_str s z t,λ_ e=>nomatch e⟩
 |int i=>obtain⟨t,rfl⟩:=r;cases (show T = "int" from ty);exact⟨typeIs_int s i t,λ_ e=>nomatch e⟩
 |ref p=>
  cases r;rcases ty with ⟨rfl,xs,hq⟩|⟨rfl,o,hk,hc,hd⟩|⟨rfl,hk⟩|⟨rfl,S,n,hk⟩
  .obtain⟨its,_,pl,_⟩:=I.list hq
   refine⟨pl.isList.typeIs,λa e=>?_⟩;cases e;obtain⟨o,n,e,c,hd,_⟩:=pl;exact⟨o,e,hd⟩
  .refine⟨⟨o,I.kIn p o hk,hc⟩,λa e=>?_⟩
   cases e;exact⟨o,I.kIn _ o hk,hd⟩
  .have z:∃o,s.heap.get? p=O o/\o.ExactDict:=by
    rcases hk with ⟨kvs,hk⟩|⟨kvs,hk⟩
    .obtain⟨_,_,_,_,o,_,_,e,ex,_⟩:=I.hok p _ hk
     exact⟨o,e,ex⟩
    .obtain⟨_,_,_,_,o,_,_,e,ex,_⟩:=I.hok p _ hk
     exact⟨o,e,ex⟩
   obtain⟨o,e,ex⟩:=z;refine⟨⟨o,e,ex.1⟩,λa e2=>?_⟩;cases e2;exact⟨o,e,ex.2.1⟩
  .obtain⟨o,_,_,_,e,ex,_⟩:=I.hok p _ hk
   refine⟨⟨o,e,ex.1⟩,λa e2=>?_⟩;cases e2;exact⟨o,e,ex.2.1⟩
 |_=>exact False.elim ty
def tBM0(K:Frag)(T:String)(r:V->List V->Hp->VK->Prop)(to:TE):TE:=λσ H Q=>to σ H λx H1=>tyV K T x H1/\r x [] H1 Q
def tBM(K:Frag)(T:String)(r:V->List V->Hp->VK->Prop)(to:TE)(t:TA):TE:=λσ H Q=>to σ H λx H1=>tyV K T x H1/\t σ H1 λxs H2=>r x xs H2 Q
variable{o e:Ua}{es:qA}{to:TE}{t:TA}{name:Str}{apos cpos:Pos}{T id:String}{r:V->List V->Hp->VK->Prop}
theorem HW(pa:PlainAttrs T)(slot:Slot T name id)(hty:typeOf (.builtin id)=pure (.type "method_descriptor"))(hm:MtR X id r)(ho:PE X o to)
  (hbase:attributeBase o name X.env (eval o X.env)=eval o X.env:=by rfl) (hline:(apos.endLine==cpos.line)=qv:=by rfl):PE X (.Call (.Attribute o name apos) [] [] cpos) (tBM0 X.K T r to):=by
 intro pins s σ H Q I h;refine wpAny_Call_method0_late hbase hline (thn (ho pins s σ H _ I h) λv s1 ⟨x,H1,I1,r1,ty,q1⟩=>?_);obtain⟨h1,h2⟩:=PP I1 r1 ty;exact⟨T,id,pa,slot,hty,h1,h2,Calls.callWith_builtin qt (PySem.evalArgs_none (hm pins s1 σ H1 x [] v [] Q I1 r1 .nil q1))⟩
theorem SK(pa:PlainAttrs T)(slot:Slot T name id)(hty:typeOf (.builtin id)=pure (.type "method_descriptor"))(hm:MtR X id r)(ho:PE X o to)(ha:PA X (e::es) t)
  (hbase:attributeBase o name X.env (eval o X.env)=eval o X.env:=by rfl)
  (hfew:((backTo cpos (Ud (e::es) X.env)).all (λx=>!x.1)&&(backToKw cpos (keywordEach [] X.env)).all (λx=>x.1.isSome)
   && decide ((e::es).length+([]:List Keyword).length+(if([]:List Keyword).isEmpty then 0 else 1)<30))=qv:=by rfl)
  (hline:(apos.endLine==cpos.line)=qv:=by rfl) (hs:Ud (e::es) X.env=(qw,eval e X.env)::Ud es X.env:=by rfl) (hplain:(backTo cpos (Ud es X.env)).any (·.1)=qw:=by rfl) :
  PE X (.Call (.Attribute o name apos) (e::es) [] cpos) (tBM X.K T r to t):=by
 intro pins s σ H Q I h;refine wpAny_Call_method_late hbase hfew hline qt (thn (ho pins s σ H _ I h) λv s1 ⟨x,H1,I1,r1,ty,q1⟩=>?_);obtain⟨h1,h2⟩:=PP I1 r1 ty;refine⟨T,id,pa,slot,hty,h1,h2,?_⟩;have hA:=ha cpos pins s1 σ H1 _ I1 q1;rw[hs]at hA⊢;refine Calls.callWith_builtin (by show(qw || (backTo cpos (Ud es X.env)).any (·.1))=qw;rw[hplain]<;>rfl) (Calls.evalArgs_plain ?_);exact thn hA λus s2 ⟨vs,H2,I2,r2,q2⟩=>hm pins s2 σ H2 x vs v us Q I2 r1 r2 q2
end
def MtM(X:Cx)(id:String)(r:V->List V->Hp->VK->Prop):Prop:=
 ∀(pins:List (J8×Obj))(s:J6)(σ:St)(H:Hp)(x:V)(xs:List V)(v:J5)(us:qz)(Q:VK),Inv X pins σ H s->RelV x v->Vals xs us->r x xs H Q ->
  Uc (model X.prog X.w) X.A (call (.builtin id) (v::us)) (EP X pins σ Q) X.xe s
theorem Vals.one:∀{x:V}{us:qz},Vals [x] us->∃u,us=[u]/\RelV x u
 |_,_,.cons r .nil=>⟨_,rfl,r⟩
theorem Vals.two:∀{x y:V}{us:qz},Vals [x,y] us->∃u v,us=[u,v]/\RelV x u/\RelV y v
 |_,_,_,.cons r (.cons q .nil)=>⟨_,_,rfl,r,q⟩
theorem Vals.reverse{xs:List V}{us:qz}(h:Vals xs us):Vals xs.reverse us.reverse:=by
 induction h with
 |nil=>exact .nil
 |cons r t ih=>rw[List.reverse_cons,List.reverse_cons];exact Vals.append ih (.cons r .nil)
theorem Vals.rep{xs:List V}{us:qz}(h:Vals xs us):∀k:Nat,Vals (Ug k xs).flatten (Ug k us).flatten
 |0=>.nil
 |k+1=>by rw[Q0,Q0,QJ,QJ];exact Vals.append h (Vals.rep h k)
theorem N5(its:qz):∀(k:Nat)(acc:qz),
  List.foldl (λx1 x2=>x1++x2) acc.toArray (Ug k its.toArray)=(acc++(Ug k its).flatten).toArray
 |0,acc=>by simp
 |k+1,acc=>by
  have e:acc.toArray++its.toArray=(acc++its).toArray:=by simp
  have e2:(acc++its)++(Ug k its).flatten=acc++(Ug (k+1) its).flatten:=by rw[Q0,QJ,JM]
  rw[←e2,←N5 its k (acc++its),←e,Q0,List.foldl_cons]
section
variable{X:Cx}{pins:List (J8×Obj)}{σ:St}{H:Hp}{s:J6}{l b:J8}{xs ys zs:List V}
theorem Inv.lset{its its':qz}{n:Nat}{f:Array J5->Array J5}{t':Nat}(I:Inv X pins σ H s)(hH:H l=O (.lst xs))
  (e:s.heap.get? l=O {cls:=.type "list", data:=.seq its.toArray n}) (hf:f its.toArray=its'.toArray) (hv:Vals ys its') (hz:ys.length<=Ub) :
  Inv X pins σ (upd H l (.lst ys)) {s with heap:=s.heap.update l (Obj.mapSeq f),toks:=t'}:=by
 have q:=PySem.IsL.update e f;rw[hf]at q;refine I.write (x:=l) (e:=l) (by rw[hH];exact trivial) (.inl qt) (λb' u hb hu=>(QK s.heap (Obj.mapSeq f) (Ne.symm hb)).trans hu) ⟨_,q⟩ ?_;exact⟨hz,its',_,hv,q⟩
theorem Inv.lnew{its:qz}{t':Nat}(I:Inv X pins σ H s)(hv:Vals ys its)(hz:ys.length<=Ub) :
  Inv X pins σ (upd H s.heap.objs.size (.lst ys)) {s with heap:=s.heap.push {cls:=.type "list", data:=.seq its.toArray},toks:=t'}:=
 I.laid (λ_ _ q=>Qf _ q) (Qk _) ⟨hz,its,0,hv,Qt _ qt⟩
theorem Inv.fresh(I:Inv X pins σ H s):H s.heap.objs.size=qu:=I.hok.fresh (Qk _)
theorem Inv.lstM(I:Inv X pins σ H s)(hH:H l=O (.lst xs)):xs.length<=Ub/\∃(its:qz)(n:Nat),Vals xs its/\xs.length=its.length/\s.heap.get? l=O {cls:=.type "list", data:=.seq its.toArray n}:=by obtain⟨z,its,n,r,e⟩:=I.hok l _ hH;exact⟨z,its,n,r,r.length,e⟩
theorem DE{n:Nat}(h:n<=Ub):Builtin.List.listTooLong n=qw:=by unfold Builtin.List.listTooLong;exact Qs (by omega)
end
section
variable{X:Cx}
def F8:V->List V->Hp->VK->Prop:=λx vs H Q=>∃l xs y,x=.ref l/\vs=[y]/\H l=O (.lst xs)/\xs.length<Ub/\Q .non (upd H l (.lst (xs++[y])))
theorem N4:MtM X "list.append" F8:=by intro pins s σ H x vs v us Q I rx rv h;obtain⟨l,xs,y,rfl,rfl,hH,hz,q⟩:=h;cases rx;obtain⟨u,rfl,ru⟩:=rv.one;obtain⟨z,its,n,r,hl,e⟩:=I.lstM hH;refine call_meets F.slot_list_append ⟨_,e,rfl⟩ F.entry_list_append (F.args_list_append_2 _ _) (PySem.list_append l its.toArray n u (by rw[QN];omega)) ⟨e,?_⟩;refine⟨.non,_,I.lset (its':=its++[u]) hH e (by simp) (r.append (.cons ru .nil)) ?_,rfl,q⟩;rw[Qm,Q8];omega
theorem F7{α:Type}(xs:List α)(k:Nat):(Ug k xs).flatten.length=k*xs.length:=by
 induction k with
 |zero=>simp
 |succ k ih=>rw[Q0,QJ,Qm,ih,Nat.succ_mul,Nat.add_comm]
end
section
variable{prog:J7}{w:World}{A:Around}{E:J5->J6->Prop}{s:J6}
set_option maxRecDepth 100000 in
end
end L2
namespace Att
open PySem PySem.W PySem.Calls PyProof.Rows
theorem qb{P:Params}{h:Heap}:∀(ns:qy)(vs:qz),WellAll P h vs (ns.map WData.int)->IntsAre vs ns:=by
 intro ns;induction ns with
 |nil=>intro vs w;rw[List.map_nil]at w;cases w;exact .nil
 |cons n ns ih=>
  intro vs w;rw[QG]at w;cases w with
  |cons a b=>cases a;exact .cons _ _ (ih _ b)
theorem C8{l:OpenLaw}{n:Nat}(hn:l.most=O n){P:Params}{h:Heap}{args:List WData}{vals:qz}
  (hpre:l.row.toRowW.claim.pre args=qv) (jc:WellAll P h vals args) :
  ∃a vs ns,vals=[Value.ref a]/\args=[WData.list (ns.map WData.int)]/\h.get? a=O {cls:=.type "list", data:=.seq vs.toArray}/\IntsAre vs ns/\ns.length<=n:=by
 have hsh:WShape.hasAll [] args [.list .int]=qv:=(pre_splitW hpre).1;have hc:l.pre.holds [] {args:=args}=qv:=(pre_splitW hpre).2;obtain⟨d,r,rfl,h1,h2⟩:=hasAllW_cons hsh;obtain rfl:=hasAllW_nil h2;obtain⟨xs,rfl,h3⟩:=hasW_list h1;obtain⟨ns,rfl⟩:=items_int h3
 have hlen:ns.length<=n:=by
  unfold OpenLaw.pre at hc;have h4:(WTm.not (.lt (.lit (.int (n:Int))) (.len (.arg 0)))).holds [] {args:=[.list (ns.map .int)]}=qv:=by have h4:=(holds_andW hc).1;rw[hn]at h4;exact h4
  have h5:=condW_of h4 (w_not (w_lt w_lit (w_len_list (w_arg qt))));rw[Qd]at h5;refine QY λq=>?_;have q':(n:Int)<((ns.length:Nat):Int):=by omega
  first
   |(rw[QB q']at h5;exact absurd h5 (by decide))
   |(simp at h5;omega)
 cases jc with
 |cons w1 w2=>
  cases w2;cases w1 with
  |list ho hall=>exact⟨_,_,ns,rfl,rfl,ho,qb ns _ hall,hlen⟩
theorem C7(l:OpenLaw)(args:List WData):l.row.toRowW.claim.post args (.bool qv) args=qv:=
 postW_of (r:=l.row.toRowW) (X:=(qv==qv))
  (show WShape.has [] (.bool qv) .bool=qv by first|rfl|decide|simp[WShape.has,WShape.arms,WShape.armsAll])
  (show(WTm.eq .res (.lit (.bool qv))).value [] {args:=args,res:=O (.bool qv),after:=args}=O (.bool (qv==qv))from w_eq_bool (w_res qt) w_lit) qt
theorem attach_call{l:OpenLaw}{n:Nat}{q:J7}{loose:List Str}{XP:(Str->qC)->Heap->Prop}{YP:World->Heap->Prop}{d:DefRec}
  (hn:l.most=O n) (hdf:d.params.defaults=[])
  (call:∀(w:World)(s₀ s₁:J6)(mg mb:Str->qC)(fa:J8)(o:Obj)(pm cd doc:J5)(a:J8)(vs:qz)(ns:qy),
   Ground q loose [] XP w s₀ mg mb s₁.heap->YP w s₁.heap ->
   s₁.heap.get? fa=O o->o.data=.func (docDef d.name d.params d.body d.scope pm cd doc)->s₁.heap.CodeRec cd d.name->mg d.name=O (.ref fa) ->
   s₁.heap.get? a=O {cls:=.type "list", data:=.seq vs.toArray}->IntsAre vs ns->ns.length<=n->s₁.gens=#[] ->
   codeAny (model l.prog w) callerA (.call (.ref fa) ⟨[.ref a],[]⟩) (λr s'=>r=.ok (.ret (.bool qv))/\OldK s₁.heap s'.heap/\s'.os=s₁.os/\AllBare s'.gens) s₁) :
  WalkO q loose XP YP l.row.toRowW d [] (λf vs=>PySem.call f vs):=by
 intro w s₀ s₁ mg mb G Y fa o pm cd doc dV kV ho hd hcd hD hmg hg args vals as hpre hlay hrd jc hlo;obtain rfl:dV=.none:=Dflts.none hD hdf;obtain rfl:kV=.none:=Dflts.noKw hD;obtain⟨a,vs,ns,rfl,rfl,hobj,hints,hlen⟩:=C8 hn hpre jc;refine enter_call (Ji (call w s₀ s₁ mg mb fa o pm cd doc a vs ns G Y ho (fd_plain hd) hcd hmg hobj hints hlen hg) λr s' hq=>?_);obtain⟨rfl,h2,h3,h4⟩:=hq;exact⟨.inl ⟨.bool qv,.bool qv,[],rfl,λ_=>rfl,.bool qv,C7 l _,λ_=>⟨List.Pairwise.nil,λ_ hm=>(nomatch hm)⟩⟩,h2,h3,h4⟩
end Att
namespace L2
open PySem PySem.Spec PyProof.Rows
theorem VM:∀{vs:qz}{ns:qy},IntsAre vs ns->Vals (ns.map V.int) vs
 |_,_,.nil=>.nil
 |_,_,.cons n t h=>.cons ⟨t,rfl⟩ (VM h)
def Only(H:Hp):Prop:=∀b,H b=qu ∨ ∃o xs,H b=O (.frz o (.lst xs))
theorem DD{P:J7}{w:World}{K:Frag}{mg mb:Str->qC}{CX:CXT}{k:Nat}{fa a:J8}{fd:J9}{x:Str}{sp:Sp}{s₁:J6}{vs:qz}{ns:qy}
  (KX:K.In s₁.heap) (hns:s₁.heap.Ns mainGlobals mg) (hb:s₁.heap.Ns builtinsNs mb) (hbb:∀x:Str,x ≠ "__name__" -> mb x=bootBuiltins x) (hlim:s₁.heap.NoLimit) (hg:s₁.gens=#[])
  (ha:s₁.heap.get? a=O {cls:=.type "list", data:=.seq vs.toArray}) (hi:IntsAre vs ns) (hl:ns.length<=Ub) (hr:Room k callerA)
  (F:∀base:Heap,K.In base->base.Ns mainGlobals mg->FnOk P w K mg base CX k fa fd [x] sp) (hbind:∀(s:J6)(u:J5),BindsTo s fd ⟨[u],[]⟩ [(x,u)])
  (jM:∀H:Hp,Only H->SqL K H a (ns.map V.int)->sp [.ref a] H (λv _=>v=.bl qv) λ_ _ _=>False)
  (hCX:∀H e s',CX [] H s₁ (λ_ _ _=>False) e s'->False) :
  codeAny (model P w) callerA (.call (.ref fa) ⟨[.ref a],[]⟩) (λr s'=>r=.ok (.ret (.bool qv))/\OldK s₁.heap s'.heap/\s'.os=s₁.os/\AllBare s'.gens) s₁:=by
 have rv:=VM hi;have lenV:=hi.length
 have core:∀H:Hp,Only H->SqL K H a (ns.map V.int)->HOk P w H s₁.heap->(∀b,H b≠qu->b=a)->(H a≠qu->K.lookup a=qu) ->
   codeAny (model P w) callerA (.call (.ref fa) ⟨[.ref a],[]⟩) (λr s'=>r=.ok (.ret (.bool qv))/\OldK s₁.heap s'.heap/\s'.os=s₁.os/\AllBare s'.gens) s₁:=by
  intro H hO hS hok hA hK;have base_of:∀{b:J8}{o:Obj},s₁.heap.get? b=O o->H b=qu->(Zz s₁.heap H).get? b=O o:=λe n=>DJ e n
  have noA:∀{b:J8}{o:Obj}{es:Array DictEntry}{ep:Nat},s₁.heap.get? b=O o->o.data=.dict es ep->H b=qu:=λ{b o es ep} e d=>by
   cases q:H b with
   |none=>rfl
   |some u=>have e':b=a:=hA b (by rw[q];simp);subst e';rw[ha]at e;cases e;have d':Data.seq vs.toArray _=Data.dict es ep:=d;cases d'
  have nsK:∀{b:J8}{m:Str->qC},s₁.heap.Ns b m->(Zz s₁.heap H).Ns b m:=λ{b m} ⟨o,es,ep,e,d,r⟩=>⟨o,es,ep,base_of e (noA e d),d,r⟩
  have hKb:K.In (Zz s₁.heap H):=λb o e=>base_of (KX b o e) (by
   cases q:H b with
   |none=>rfl
   |some u=>have e':b=a:=hA b (by rw[q];simp);subst e';rw[hK (by rw[q];simp)]at e;cases e)
  have hM:Mod K mg (Zz s₁.heap H):=⟨hKb,nsK hns,⟨mb,nsK hb,hbb⟩,let ⟨mc,h1,h2⟩:=hlim;⟨mc,nsK h1,h2⟩⟩
  have e0:Env0 P w K mg (Zz s₁.heap H) callerA [] s₁ H:=⟨rfl,hM,λb o e=>Ek e,Nat.le_of_eq (BW _ _),trivial,λb hb=>absurd (show b∈([]:qF)from hb) (by simp),hok,.of_eq hg⟩
  refine Ji ((F _ hKb (nsK hns)).run callerA [] s₁ H ⟨[.ref a],[]⟩ [.ref a] [.ref a] _ _ hr e0 (hbind s₁ (.ref a)) (.cons qt .nil) (jM H hO hS)) λr s' h=>?_
  cases r with
  |error e=>exact(hCX H e s' h).elim
  |ok fl=>
   cases fl with
   |next=>exact False.elim h
   |brk=>exact False.elim h
   |cont=>exact False.elim h
   |ret u=>
    obtain⟨v,H',os,bare,un,hok',r',q⟩:=h;have q':v=.bl qv:=q;subst q';obtain rfl:u=Value.bool qv:=r';refine⟨rfl,OldK.of_keep λb o e=>?_,os,bare⟩;cases q:H b with
    |none=>exact un.keep b o e q (by intro z;exact absurd (show b∈([]:qF)from z) (by simp)) (by simp)
    |some u=>
     rcases hO b with z|⟨ob,xs,z⟩
     .rw[q]at z;cases z
     .have z2:=un.frzs b ob _ z
      obtain⟨e1,_⟩:=hok b _ z;obtain⟨e2,_⟩:=hok' b _ z2;rw[e]at e1;cases e1;exact e2
 cases hk:K.lookup a with
 |some o=>have e:=KX a o hk;rw[ha]at e;cases e;refine core (λ_=>qu) (λ_=>.inl qt) (.inr ⟨_,vs.toArray,_,hk,rfl,rfl,rfl,by rw[List.size_toArray,lenV];exact hl,by simpa using rv⟩) (λb u z=>by have z':(none:Option HO)=O u:=z;cases z') (λb z=>absurd qt z) λz=>absurd qt z
 |none=>
  refine core (λb=>if b=a then O (.frz {cls:=.type "list", data:=.seq vs.toArray} (.lst (ns.map V.int)))else qu) (λb=>?_) (.inl (.inr ⟨{cls:=.type "list", data:=.seq vs.toArray},Qo qt⟩)) (λb u z=>?_) (λb z=>?_) λ_=>hk
  .by_cases hb:b=a
   .exact .inr ⟨_,_,Qo hb⟩
   .exact .inl (Qy hb)
  .by_cases hb:b=a
   .have z':=(Qo hb).symm.trans z
    cases z';subst hb;exact⟨ha,by rw[Qd];exact hl,vs,_,rv,ha⟩
   .have z':=(Qy hb).symm.trans z
    cases z'
  .by_cases hb:b=a
   .exact hb
   .exact absurd (Qy hb) z
def YZ(s:Stmt):Arguments:=match s with
 |.FunctionDef _ a _ _ _ _ _ _ _ _=>a
 |_=>{posonlyargs:=[],args:=[],vararg:=qu,kwonlyargs:=[],kw_defaults:=[],kwarg:=qu,defaults:=[]}
def Zx(s:Stmt):List Stmt:=match s with
 |.FunctionDef _ _ b _ _ _ _ _ _ _=>b
 |_=>[]
def Kw(s:Stmt):Scope:=match s with
 |.FunctionDef _ _ _ _ _ _ sc _ _ _=>sc
 |_=>{kind:=.function,names:=[],isGenerator:=qw,isCoroutine:=qw}
abbrev CX0:CXT:=λ_ _ _ _ _ _=>False
abbrev E0:XK:=λ_ _ _=>False
theorem Pl{X:Cx}:Rc CX0 X E0:=λ_ _ _ _ _ _ _ h=>h.elim
structure Fun(K:Frag)(x qual:Str)(st:Stmt)(f:J8)(fd:J9):Prop where
 ex:∃(oc:J5)(od:qG)(kV doc pm:J5)(an:qG)(cdv ct:J5)(osl:Array qC),
  fd=PySem.W.fnOf x qual (YZ st) (Zx st) (Kw st) .none kV doc pm an cdv ct/\K.lookup f=O ⟨oc,od,.func fd,osl⟩/\PySem.W.codeIn K cdv qual=qv
 kp:PySem.W.keepIn K (.ref f)=qv
section
variable{P:J7}{w:World}{K:Frag}{mg:Str->qC}{base:Heap}
theorem Fun.ok{x qual:Str}{st:Stmt}{f:J8}{fd:J9}{N ps:List Str}{k:Nat}{sp:Sp}(F:Fun K x qual st f fd)(S:VC N ps (Kw st))(len:∀vs H Q E,sp vs H Q E->vs.length=ps.length)
  (hbody:∀(cdv:J5)(A:Around)(outer:List Env)(s:J6)(H:Hp)(vs:List V)(Q:VK)(E:XK),Room k (A.deeper (envOfC qual (Kw st) s.heap.objs.size f cdv))->sp vs H Q E ->
   ∃t,PSs (KJ CX0 P w K mg base N qual (Kw st) f cdv A outer s H E).nox (Zx st) t/\t {nx:=λ_ H'=>Q .non H',rt:=Q} (YV N vs) H):FnOk P w K mg base CX0 (k+1) f fd ps sp:=by
 obtain⟨oc,od,kV,doc,pm,an,cdv,ct,osl,rfl,lk,hcd⟩:=F.ex;refine Pn lk hcd S len λA outer s H vs Q E hr jM=>?_
 obtain⟨t,h,q⟩:=hbody cdv A outer s H vs Q E hr jM;exact⟨t,h.nox,q⟩
theorem Fun.binds{x qual:Str}{st:Stmt}{f:J8}{fd:J9}{ps:List Str}(F:Fun K x qual st f fd)
  (h:∀(kV doc pm:J5)(an:qG)(cdv ct:J5)(us:qz),us.length=ps.length->bindArgs (PySem.W.fnOf x qual (YZ st) (Zx st) (Kw st) .none kV doc pm an cdv ct) ⟨us,[]⟩=pure (ps.zip us)):ZL K fd ps []:=by
 obtain⟨oc,od,kV,doc,pm,an,cdv,ct,osl,rfl,lk,hcd⟩:=F.ex;exact .all (h kV doc pm an cdv ct)
end
def Same(H H':Hp):Prop:=∀b o,H b=O o->H' b=O o
theorem Same.refl(H:Hp):Same H H:=λ_ _ h=>h
theorem Same.trans{H H1 H2:Hp}(a:Same H H1)(b:Same H1 H2):Same H H2:=λc o h=>b c o (a c o h)
theorem Same.free{H H':Hp}(e:Same H H'){l:J8}(h:H' l=Option.none):H l=Option.none:=by
 cases q:H l with
 |none=>rfl
 |some o=>rw[e l o q]at h;cases h
theorem Same.seq{K:Frag}{H H':Hp}{a:J8}{xs:List V}(e:Same H H')(h:SqL K H a xs):SqL K H' a xs:=by
 rcases h with (h|⟨o,h⟩)|h
 .exact .inl (.inl (e _ _ h))
 .exact .inl (.inr ⟨o,e _ _ h⟩)
 .exact .inr h
section
variable{X:Cx}{pins:List (J8×Obj)}{σ:St}{H:Hp}{s:J6}{h':Heap}
theorem Inv.turnedNew{t':Nat}{fp:qF}{p:J8}{o:HO}(I:Inv X pins σ H s)(hf:∀b∈fp,KD X pins H b)
  (k:∀b o,b∉fp->s.heap.get? b=O o->h'.get? b=O o) (hp:s.heap.objs.size<=p) (new:KT X.prog X.w (upd H p o) h' p o) :
  Inv X pins σ (upd H p o) {s with heap:=h',toks:=t'}:=by
 have hn:H p=qu:=I.hok.fresh hp;have trk:∀b u,H b=O u->b∉fp:=λb u e z=>by rw[(hf b z).1]at e;cases e
 refine I.step (g':=s.gens) (d':=s.drawn) (ch:=fp) (λb hb=>?_) (λb o _ _ hc e _=>k b o hc e) (λb o _ _ hc e _=>⟨o.slots,k b o hc e⟩)
  (λb o _ e n=>by rw[U4 (QA (Qz (Qg e) hp))];exact n) (λb o hc e=>⟨o,k b o hc e⟩)
  (λb xs e=>by rw[U4 (Yj e hn)];exact e) (λb ob u e=>by rw[U4 (Yj e hn)];exact e) (λb ps e=>⟨#[],by rw[U4 (Yj e hn),e];simp⟩)
  (λm hm=>?_) (λb u e=>?_) I.bare
 .obtain⟨_,f1,_,f3,f4,f5⟩:=hf b hb
  exact⟨f3,f1,f4,f5⟩
 .obtain⟨ob,es,ep,ho,r⟩:=hm
  exact⟨ob,es,ep,k _ ob (λz=>(hf _ z).2.1 qt) ho,r⟩
 .by_cases hb:b=p
  .subst hb;rw[Kh]at e;cases e;exact new
  .rw[U4 hb]at e
   refine(I.hok b u e).stay (λc v hc q=>k c v ?_ q) (λc q=>by rw[U4 (Yj q hn)];exact q) λc xs q=>by rw[U4 (Yj q hn)];exact q
   rcases hc with z|z
   .rw[z];exact trk b u e
   .exact trk c _ z
theorem Inv.turnedL{t':Nat}{fp:qF}(I:Inv X pins σ H s)(hf:∀b∈fp,KD X pins H b)
  (k:∀b o,b∉fp->s.heap.get? b=O o->h'.get? b=O o):Inv X pins σ H {s with heap:=h',toks:=t'}:=by
 have trk:∀b u,H b=O u->b∉fp:=λb u e z=>by rw[(hf b z).1]at e;cases e
 refine I.step (g':=s.gens) (d':=s.drawn) (ch:=fp) (λb hb=>?_) (λb o _ _ hc e _=>k b o hc e) (λb o _ _ hc e _=>⟨o.slots,k b o hc e⟩)
  (λ_ _ _ _ n=>n) (λb o hc e=>⟨o,k b o hc e⟩) (λ_ _ e=>e) (λ_ _ _ e=>e) (λb ps e=>⟨#[],by rw[e];simp⟩) (λm hm=>?_) (λb u e=>?_) I.bare
 .obtain⟨_,f1,_,f3,f4,f5⟩:=hf b hb
  exact⟨f3,f1,f4,f5⟩
 .obtain⟨ob,es,ep,ho,r⟩:=hm
  exact⟨ob,es,ep,k _ ob (λz=>(hf _ z).2.1 qt) ho,r⟩
 .refine(I.hok b u e).stay (λc v hc q=>k c v ?_ q) (λc q=>q) λc xs q=>q
  rcases hc with z|z
  .rw[z];exact trk b u e
  .exact trk c _ z
end
def Ite(K:Frag)(a:J8):It:=
 ⟨λi H=>∃xs x,SqL K H a xs/\xs[i]?=O x,
  λi H v H'=>∃p x,H p=qu/\v=.ref p/\(∀xs,SqL K H a xs->xs[i]?=O x)/\H'=upd H p (.tup [.int i,x]),
  λi H=>∃xs,SqL K H a xs/\xs.length<=i⟩
theorem C6{P:J7}{w:World}{K:Frag}{elts:qA}{x1}{tp:Pos}(a e it:J8)(hne:e≠it) :
  Turn P w K (.Tuple elts x1 tp) (Ite K a) [e,it] e (λi h=>(∃old,IsEnum h e it i old)/\h.IsListIter it a i) where
 mem:=by simp
 obj:=λi h st b hb=>by
  obtain⟨⟨old,he⟩,o,ho,c,d⟩:=st;have hb':b=e∨b=it:=by simpa using hb
  rcases hb' with rfl|rfl
  .exact⟨_,he,λv z=>by have z':Data.fields _=Data.cell v:=z;cases z'⟩
  .exact⟨o,ho,λv z=>by rw[d]at z;cases z⟩
 keep:=λi h h' st k=>by obtain⟨⟨old,he⟩,hi⟩:=st;exact⟨⟨old,k e (by simp) _ he⟩,hi.at λo q=>k it (by simp) o q⟩
 item:=by
  intro X hP hw hK hc i pins s σ H E I hf st hg;subst hP hw hK;obtain⟨⟨old,he⟩,hi⟩:=st;obtain⟨xs,x,hq,hx⟩:=hg;obtain⟨its,rv,p,hz⟩:=I.list hq;obtain⟨u,hu,ru⟩:=rv.get hx;refine wpAny_pyNext_enum_item he hi p.isList (x:=u) (by simpa using hu) hne λh1 out hi1 ht hsz kk=>?_
  refine⟨_,rfl,wpAny_letOwnedTupleGo_enum out λh2 jp hs2=>?_⟩;have hel:e<s.heap.objs.size:=Qg he;have jg:Heap.SameBut e h1 h2:=hs2;have ht2:h2.get? s.heap.objs.size=O {cls:=.type "tuple", data:=.seq #[.int i s.toks,u]}:=(jg.2 _ (Jn hel)).trans ht
  have kk2:∀b o,b∉[e,it]->s.heap.get? b=O o->h2.get? b=O o:=λb o hb q=>by
   have ji:b≠e:=λz=>hb (by simp[z])
   have hbi:b≠it:=λz=>hb (by simp[z])
   exact(jg.2 b ji).trans (kk b o ji hbi q)
  have hn:H s.heap.objs.size=qu:=I.hok.fresh (Qk _)
  have I2:Inv X pins σ (upd H s.heap.objs.size (.tup [.int i,x])) {s with heap:=h2,toks:=s.toks+1}:=
   I.turnedNew (fp:=[e,it]) hf kk2 (Qk _) ⟨by show 2<=Ub;decide,[.int i s.toks,u],.cons ⟨_,rfl⟩ (.cons ru .nil),⟨_,ht2,rfl,_,rfl⟩⟩
  refine⟨.ref s.heap.objs.size,_,I2,rfl,⟨_,x,hn,rfl,λys hy=>by rw[I.list_inj hy hq];exact hx,rfl⟩,⟨⟨u,?_⟩,?_⟩,λb hb=>?_⟩
  .have:=jp
   simpa using this
  .have hi2:h2.IsListIter it a (i+1):=hi1.at λo q=>(jg.2 it (Ne.symm hne)).trans q
   exact hi2
  .have fr:=(hf b hb)
   have hlt:b<s.heap.objs.size:=by
    have hb':b=e∨b=it:=by simpa using hb
    rcases hb' with rfl|rfl
    .exact hel
    .obtain⟨o,ho,_⟩:=hi;exact Qg ho
   rw[U4 (QA hlt)];exact fr.1
 done:=by intro X hP hw hK hc i pins s σ H E I hf st hg;subst hP hw hK;obtain⟨⟨old,he⟩,hi⟩:=st;obtain⟨xs,hq,hx⟩:=hg;obtain⟨its,rv,p,hz⟩:=I.list hq;have hl:=rv.length;exact wpAny_pyNext_enum_end (I.ok.hd hc) he hi p.isList (by simp;omega) λh' eb=>⟨rfl,I.turnedL (t':=s.toks) hf λb o hb q=>eb b o (λz=>hb (by simp[z])) q⟩
 self:=λ_ _ _ _ _ st h=>by obtain⟨⟨old,he⟩,_⟩:=st;exact wpAny_pyIter_enum he h
section
variable{X:Cx}
def Lx(K:Frag)(ta:TA):TI:=λσ H R=>ta σ H λvs H1=>∃a xs,vs=[.ref a]/\SqL K H1 a xs/\R (Ite K a) H1
theorem F6{a:Ua}{ta:TA}{p pos:Pos}{elts:qA}{x1}{tp:Pos}(hg:Gl X "enumerate")(hm:X.mg "enumerate" = qu)(ha:PA X [a] ta)
  (hs:Ud [a] X.env=[(qw,eval a X.env)]:=by rfl):PI X (.Tuple elts x1 tp) (.Call (.Name "enumerate" p) [a] [] pos) (Lx X.K ta):=by
 intro pins s σ H R I h;refine Call_ (Xz I hg hm boot_enumerate (Jm (thn (ha pos pins s σ H _ I h) λus s1 ⟨vs,H1,I1,r1,q1⟩=>?_) hs qt));obtain⟨l,xs,e,hq,q⟩:=q1;subst e;cases r1 with
 |cons r rr=>
  cases rr;cases (show _=Value.ref l from r);obtain⟨its,rv,pl,hz⟩:=I1.list hq;refine call_enumerate_list pl.isList λh' he hi hsz kk=>?_;have I2:Inv X pins σ H1 {s1 with heap:=h'}:=I1.kept (t':=s1.toks) kk;refine wpAny_pyIter_enum he ?_
  refine⟨s1.heap.objs.size+1,[s1.heap.objs.size+1,s1.heap.objs.size],_,_,H1,rfl,I2,C6 l _ _ (Nat.succ_ne_self _),⟨⟨_,he⟩,hi⟩,λb hb=>?_,q⟩;have hb':b=s1.heap.objs.size+1∨b=s1.heap.objs.size:=by simpa using hb
  rcases hb' with rfl|rfl
  .exact I1.fpOk (Jz _) (I1.hok.fresh (Jz _))
  .exact I1.fpOk (Qk _) (I1.hok.fresh (Qk _))
end
section
variable{κ:Type}[DecidableEq κ]
theorem KV.length{kvs:List (κ×V)}{vs:List (κ×J5)}(r:KV kvs vs):kvs.length=vs.length:=Paired.length r
end
section
variable{P:J7}{w:World}{H:Hp}{h:Heap}{a:J8}
theorem Lw{u:HO}(ok:HOk P w H h)(e:Rd H a u):KT P w H h a u:=e.ok ok
theorem Px{kvs:List (Key×V)}(ok:HOk P w H h)(e:Rd H a (.dK kvs)):kvs.length<=Ub/\(a==sysModules)=qw/\∃vs,KV kvs vs/\h.DictOf (Td P w) a vs:=
 show KT P w H h a (.dK kvs)from Lw ok e
end
end L2
namespace L2
open PySem PySem.Spec
def Tail(bmB bm:qz):Prop:=∀(X:String)(b:Bool),bmB.contains (.type X)=b->bm.contains (.type X)=b
theorem Tail.base{bmB:qz}:Tail bmB bmB:=λ_ _ h=>h
theorem Tail.own{bmB bm:qz}{D:J8}(T:Tail bmB bm):Tail bmB (.ref D::bm):=λX b h=>by rw[QQ,T X b h];rfl
section
variable{prog:J7}{w:World}{A:Around}{E:J5->J6->Prop}{h:Heap}{g:Array GenState}{d:Drawn}{t:Nat}{os:OsState}{R:Result->J6->Prop}
variable{nm q:Str}{C N:J8}{bs bm bmB:qz}{hdct:Bool}{sn:List Str}{sub:qz}{ab:Bool}{col:qH}{dd:qG}{k0 k1 k2 k3 k5:qC}{B newId initId:String}
theorem Au{M:Model}(F:ExcBaseFacts B newId initId bmB)(T:Tail bmB bm){rest:qz}{Q:Unit->J6->Prop}(hC:h.get? C=O (excClassObj nm q C N bs bm hdct sn sub ab col dd k0 k1 k2 k3 k5 newId))
  (hq:Q () ⟨h,g,d,t,os⟩):Uc M A (checkBuiltinCall newId ⟨.ref C::rest,[]⟩) Q E ⟨h,g,d,t,os⟩:=by
 have kI:(Value.ref C::bm).contains (.type B)=qv:=by rw[QQ,T _ _ F.hasB,JW]
 have hstar:=F.noStar;simp only[checkBuiltinCall,F.newKind,F.newSplit,F.newRow]
 repeat (first|refine Qj hC ?_|(refine QE hC ?_;rw[kI])|refine wpAny_staticBase_exc hC ?_|refine wpAny_madeBy_exc hC ?_|simp only[bne_self_eq_false,Jt,JZ] | wp_step)
 exact hq
theorem DC(F:ExcBaseFacts B newId initId bmB)(T:Tail bmB bm){rest:qz}(hC:h.get? C=O (excClassObj nm q C N bs bm hdct sn sub ab col dd k0 k1 k2 k3 k5 newId))
  (hq:R (.ok (.ret (.ref (h.objs.size+1)))) ⟨(h.push {cls:=.type "tuple", data:=.seq rest.toArray}).push
   {cls:=.ref C,data:=.fields #[.ref h.objs.size,.none,.none,.none,.bool qw,.none]},g,d,t,os⟩) (hrest:rest.length<=Ub) :
  codeAny (model prog w) A (.builtin newId ⟨.ref C::rest,[]⟩) R ⟨h,g,d,t,os⟩:=by
 have hends:=F.ends;have jo:(Value.ref C::bm).contains (.type B)=qv:=by rw[QQ,T _ _ F.hasB,JW]
 have hcA:(Value.ref C::bm).contains (.type "AttributeError")=qw:=by rw[QQ,T _ _ F.noAttr];rfl
 have hcN:(Value.ref C::bm).contains (.type "NameError")=qw:=by rw[QQ,T _ _ F.noName];rfl
 refine codeAny_builtinAt F.entry ?_;unfold Builtin.«BaseException.__new__»;refine wpAt_bind ?_;show wpAt _ _ _ (stack >>= _) _ _ _;refine wpAt_bind (wpAt_stack λp below=>wpAt_of_wpAny ?_)
 wp_walk
 refine wpAt_of_wpAny ?_;rw[F.owner]
 repeat (first|with_reducible refine wpAny_madeHere_exc F.canon hC ?_|with_reducible refine Qj hC ?_|(with_reducible refine QE hC ?_;first|rw[jo] | rw[hcA] | rw[hcN])|wp_step)
 show R _ _;rw[Heap.size_push];exact hq
def Og(M:Model)(C fI:J8)(h:Heap):Prop:=∀(A:Around)(E:J5->J6->Prop)(Q:qC->J6->Prop)(h':Heap)(g:Array GenState)(d:Drawn)(t:Nat)(os:OsState),
 (∀b o,h.get? b=O o->h'.get? b=O o)->Q (O (.ref fI)) ⟨h',g,d,t,os⟩->Uc M A (typeLookup (.ref C) "__init__") Q E ⟨h',g,d,t,os⟩
theorem At(F:ExcBaseFacts B newId initId bmB)(T:Tail bmB bm){rest:qz}{fI:J8}{oI:Obj}{Q:Fin->J6->Prop}
  (hC:h.get? C=O (excClassObj nm q C N bs bm hdct sn sub ab col dd k0 k1 k2 k3 k5 newId)) (hi:Og (model prog w) C fI h)
  (hfI:h.get? fI=O oI) (hfc:oI.cls=.type "function")
  (hq:∀h' e,Heap.MadeExcOf h h' e (.ref C) rest->h.objs.size<=e ->
   Uc (model prog w) A (call (.ref fI) (.ref e::rest)) (λr s'=>r=.none/\Q (.done (.ret (.ref e))) s') E ⟨h',g,d,t,os⟩) (hrest:rest.length<=Ub) :
  Uc (model prog w) A (Builtin.«type.__call__» ⟨.ref C::rest,[]⟩) Q E ⟨h,g,d,t,os⟩:=by
 repeat (first|with_reducible refine Qj hC ?_|with_reducible refine wpAny_madeBy_exc hC ?_|wp_step)
 refine codeAny_call_builtin_code (Code.quiet_builtin _ F.quiet) (Au F T hC ?_);refine DC F T hC ?_ hrest;show Uc _ _ _ _ _ _
 have hC₁:=Qf {cls:=.ref C,data:=.fields #[.ref h.objs.size,.none,.none,.none,.bool qw,.none]}
  (Qf {cls:=.type "tuple", data:=.seq rest.toArray} hC)
 have hfI₁:=Qf {cls:=.ref C,data:=.fields #[.ref h.objs.size,.none,.none,.none,.bool qw,.none]}
  (Qf {cls:=.type "tuple", data:=.seq rest.toArray} hfI)
 have hget:((h.push {cls:=.type "tuple", data:=.seq rest.toArray}).push
   {cls:=.ref C,data:=.fields #[.ref h.objs.size,.none,.none,.none,.bool qw,.none]}).get? (h.objs.size+1)=O
   {cls:=.ref C,data:=.fields #[.ref h.objs.size,.none,.none,.none,.bool qw,.none]}:=by heap_get
 have hcC:(Value.ref C::bm).contains (.ref C)=qv:=by simp
 unfold isInstance
 repeat (first|with_reducible refine Qj hget ?_|(with_reducible refine QE hC₁ ?_;rw[hcC])|wp_step)
 show Uc _ _ (typeLookup (.ref C) _) _ _ _;refine hi _ _ _ _ _ _ _ _ (λb o hb=>Qf _ (Qf _ hb)) ?_;refine Jp (Qb ?_);unfold bindSpecial;refine Qb (wpAny_typeOf (T:= "function") ⟨_,hfI₁,hfc⟩ ?_);rw[Qo (by decide)];refine Qh (Qb (Qr (hq _ (h.objs.size+1) ⟨λb o hb=>Qf _ (Qf _ hb),Heap.get?_none_of_le (Jz _),h.objs.size,hget,Heap.get?_none_of_le (Qk _),?_⟩ (Jz _)) (λr s' hr=>?_) λ_ _ x=>x))
 .exact Qf _ (Heap.get?_push_at qt qt)
 .obtain⟨rfl,hQ⟩:=hr
  wp_walk
  exact hQ
theorem C5(F:ExcBaseFacts B newId initId bmB)(T:Tail bmB bm){rest:qz}{fI:J8}{oI:Obj}{Q:J5->J6->Prop}
  (hC:h.get? C=O (excClassObj nm q C N bs bm hdct sn sub ab col dd k0 k1 k2 k3 k5 newId)) (hi:Og (model prog w) C fI h)
  (hfI:h.get? fI=O oI) (hfc:oI.cls=.type "function")
  (hq:∀h' e,Heap.MadeExcOf h h' e (.ref C) rest->h.objs.size<=e ->
   Uc (model prog w) (A.under (.builtin "type.__call__" ⟨.ref C::rest,[]⟩)) (call (.ref fI) (.ref e::rest)) (λr s'=>r=.none/\Q (.ref e) s') E ⟨h',g,d,t,os⟩) (hrest:rest.length<=Ub) :
  Uc (model prog w) A (call (.ref C) rest) Q E ⟨h,g,d,t,os⟩:=by
 have f1:=tc_lookup;have f2:=tc_bind (.ref C);have hT:(⟨h,g,d,t,os⟩:J6).TypeIs (.ref C) "type" :=⟨_,hC,rfl⟩
 refine wpAny_call (codeAny_of_tree ?_);show Uc _ _ (callAny (.ref C) _) _ _ _
 repeat (any_goals (first|assumption|with_reducible refine Qj hC ?_|wp_step))
 refine⟨rfl,?_⟩;refine codeAny_call_builtin_at (Code.quiet_builtin _ (by decide +kernel)) entry_typeCall (wpAny_check_type_call_sub hC (At (hrest:=hrest) F T hC hi hfI hfc λh' e hm hz=>?_));exact hq h' e hm hz
end
def Ky(M:Model)(C:J8)(name:Str)(r:qC)(h:Heap):Prop:=∀(A:Around)(E:J5->J6->Prop)(Q:qC->J6->Prop)(h':Heap)(g:Array GenState)(d:Drawn)(t:Nat)(os:OsState),
 (∀b o,h.get? b=O o->h'.get? b=O o)->Q r ⟨h',g,d,t,os⟩->Uc M A (typeLookup (.ref C) name) Q E ⟨h',g,d,t,os⟩
theorem Ky.keeps{M:Model}{C:J8}{name:Str}{r:qC}{h h':Heap}(x:Ky M C name r h)(k:∀b o,h.get? b=O o->h'.get? b=O o):Ky M C name r h':=
 λA E Q h2 g d t os k2 q=>x A E Q h2 g d t os (λb o e=>k2 b o (k b o e)) q
theorem Ky.at{M:Model}{A:Around}{E:J5->J6->Prop}{Q:qC->J6->Prop}{C:J8}{name:Str}{r:qC}{h:Heap}{g:Array GenState}{d:Drawn}{t:Nat}{os:OsState}(x:Ky M C name r h)(q:Q r ⟨h,g,d,t,os⟩):Uc M A (typeLookup (.ref C) name) Q E ⟨h,g,d,t,os⟩:=
 x A E Q h g d t os (λ_ _ e=>e) q
section
variable{prog:J7}{w:World}{A:Around}{E:J5->J6->Prop}{h:Heap}{g:Array GenState}{d:Drawn}{t:Nat}{os:OsState}{R:Result->J6->Prop}
variable{nm q:Str}{C N x:J8}{bs bm bmB:qz}{hdct:Bool}{sn:List Str}{sub:qz}{ab:Bool}{col:qH}{dd:qG}{k0 k1 k2 k3 k5:qC}{B newId sa owner:String}{mN mA:Str->qC}{name:Str}{v:J5}
def Yc(M:Model)(l:qz)(name:Str)(r:qC)(h:Heap):Prop:=∀(A:Around)(E:J5->J6->Prop)(Q:qC->J6->Prop)(h':Heap)(g:Array GenState)(d:Drawn)(t:Nat)(os:OsState),
 (∀b o,h.get? b=O o->h'.get? b=O o)->Q r ⟨h',g,d,t,os⟩->Uc M A (lookupAlong l name) Q E ⟨h',g,d,t,os⟩
theorem Yc.base{M:Model}{y:qC}(hm:mroOf (.type B)=pure bm)(hB:typeLookup (.type B) name=pure y):Yc M bm name y h:=λA E Q h' g d t os k q=>by rw[typeLookup_eq,hm]at hB;have hrest:lookupAlong bm name=pure y:=hB;rw[hrest];exact Qh q
theorem Yc.hit{M:Model}{D:J8}{c0:J5}{jj:qG}{cd:ClassData}{sl:Array qC}(hD:h.get? D=O {cls:=c0,dict:=jj,data:=.cls cd,slots:=sl})(hn:h.Ns cd.ns mN)(hi:mN name=O v):Yc M (.ref D::bm) name (O v) h:=λA E Q h' g d t os k q=>by rw[lookupAlong_cons];refine Qb (wpAny_classOwn_cls (k _ _ hD) (hn.keeps k) ?_);rw[hi];exact Qh q
theorem Yc.miss{M:Model}{D:J8}{r:qC}{c0:J5}{jj:qG}{cd:ClassData}{sl:Array qC}(hD:h.get? D=O {cls:=c0,dict:=jj,data:=.cls cd,slots:=sl})(hn:h.Ns cd.ns mN)(hi:mN name=qu)(f:Yc M bm name r h):Yc M (.ref D::bm) name r h:=λA E Q h' g d t os k q=>by rw[lookupAlong_cons];refine Qb (wpAny_classOwn_cls (k _ _ hD) (hn.keeps k) ?_);rw[hi];exact f A E Q h' g d t os k q
theorem Ky.of{M:Model}{r:qC}(hC:h.get? C=O (excClassObj nm q C N bs bm hdct sn sub ab col dd k0 k1 k2 k3 k5 newId))(f:Yc M (.ref C::bm) name r h):Ky M C name r h:=λA E Q h' g d t os k q=>by rw[typeLookup_eq];exact Qb (wpAny_mroOf_exc (k _ _ hC) (f A E Q h' g d t os k q))
theorem C4{M:Model}{o:Obj}{nameV:J5}{Q:Unit->J6->Prop}(SF:StoreFacts B bmB sa owner)(T:Tail bmB bm)
  (hC:h.get? C=O (excClassObj nm q C N bs bm hdct sn sub ab col dd k0 k1 k2 k3 k5 newId)) (hx:h.get? x=O o) (hc:o.cls=.ref C) (hq:Q () ⟨h,g,d,t,os⟩) :
  Uc M A (checkBuiltinCall sa ⟨[.ref x,nameV,v],[]⟩) Q E ⟨h,g,d,t,os⟩:=by
 have jo:(Value.ref C::bm).contains (.type owner)=qv:=by rw[QQ,T _ _ SF.hasOwner,JW]
 have ha:=SF.args (.ref x) nameV v;simp only[checkBuiltinCall,SF.kind,SF.split];refine Qb ?_
 .unfold isInstance
  repeat (first|(with_reducible refine Qj hx ?_;rw[hc])|(with_reducible refine QE hC ?_;rw[jo])|wp_step)
  cases hsig:Manifest.signature? sa with
  |none=>exact Qh hq
  |some sig=>simp only[argsOk,hsig]at ha;have h2:Bind.checkArgs sa sig ⟨[.ref x,nameV,v],[]⟩=pure ():=ha;show Uc M A (Bind.checkArgs sa sig ⟨[.ref x,nameV,v],[]⟩) Q E _;rw[h2];exact Qh hq
theorem A3{tk:Tok}{Q:PySem.Fin->J6->Prop}{ns:List Str}(hpass:refuseLoop (.ref x) "__setattr__" bm=pure ())
  (hC:h.get? C=O (excClassObj nm q C N bs bm qv sn sub ab col dd k0 k1 k2 k3 k5 newId)) (hf:Ky (model prog w) C name qu h) (I:h.InstFk x C mA)
  (hq:∀h' tk',h'.InstFk x C (λy=>if y=name then O v else mA y) ->
   (∀b o,b≠x->(∀o₀ dx,h.get? x=O o₀->o₀.dict=O dx->b≠dx)->h.get? b=O o->h'.get? b=O o) ->
   (∀o₀,h.get? x=O o₀->∃o₁,h'.get? x=O o₁/\o₁.cls=o₀.cls/\o₁.data=o₀.data/\o₁.slots=o₀.slots/\∀dx,o₀.dict=O dx->o₁.dict=O dx)->(∀o₀ o₁ dx,h.get? x=O o₀->o₀.dict=qu->h'.get? x=O o₁->o₁.dict=O dx->h.objs.size<=dx)->Q (.done (.ret .none)) ⟨h',g,d,tk',os⟩) (hw:PySem.Within mA ns) (hsz:ns.length<=1000) :
  Uc (model prog w) A (Builtin.«object.__setattr__» ⟨[.ref x,.str name tk,v],[]⟩) Q E ⟨h,g,d,t,os⟩:=by
 obtain⟨o,hx,hc,hnc,hd⟩:=I;have hs2:ns.length<=Ub:=by rw[Jw];omega
 unfold Builtin.«object.__setattr__»
 repeat (first|rw[refuse_eq] | (rw[refuseLoop_ref,hpass])|(with_reducible refine Qj hx ?_;rw[hc])|with_reducible refine wpAny_mroOf_exc hC ?_|with_reducible refine hf.at ?_|wp_step)
 rcases hd with ⟨hdn,hmA⟩|⟨dx,jq,hne,hns,hed⟩
 ·
  rw[hdn,if_neg (by simp[typeHasDict])];split
  .rename_i hcd
   cases hcd
  split
  .rename_i c hcd
   exact absurd hcd (hnc c)
  .have hx₁:(h.push {cls:=.type "dict", data:=.dict #[]}).get? x=O o:=Qf _ hx
   have hxs:x≠h.objs.size:=QA (Qg hx);refine Qb (wpAny_alloc' ?_);refine Qb (wpAny_update' hx₁ ?_);refine Qh ?_
   have hgd:((h.push {cls:=.type "dict", data:=.dict #[]}).update x λo=>{cls:=o.cls,dict:=O h.objs.size,data:=o.data,slots:=o.slots}).get? h.objs.size
     = O {cls:=.type "dict", data:=.dict #[]}:=
    (Heap.get?_update_ne _ _ _ _ hxs.symm).trans (Heap.get?_push_at qt qt)
   have hnd:((h.push {cls:=.type "dict", data:=.dict #[]}).update x λo=>{cls:=o.cls,dict:=O h.objs.size,data:=o.data,slots:=o.slots}).Ns h.objs.size (λ_=>qu):=
    ⟨_,#[],_,hgd,rfl,λe he=>absurd he (by simp),λ_=>rfl⟩
   show Uc _ _ (Builtin.ObjectAttr.storeInDict h.objs.size (.str name tk) name v) _ _ _;unfold Builtin.ObjectAttr.storeInDict Builtin.ObjectAttr.newKeyGuard;refine Qb (Qh (Qb (wpAny_nsSet1EFk (Heap.Ns1.of_empty hnd) λh' hn' hs jh=>?_)));obtain⟨oD,esD,epD,hoD,hdD,hcD⟩:=hn'.count (PySem.Within.cons name v PySem.Within.nil);refine Qb (wpAny_lookBehind hoD (by rw[hdD];exact pastItsLine_dict (QH hcD (by rw[QC,QM,Jw];omega))) ?_)
   wp_walk
   have hx':h'.get? x=O {cls:=o.cls,dict:=O h.objs.size,data:=o.data,slots:=o.slots}:=?_
   refine hq h' _ ⟨{cls:=o.cls,dict:=O h.objs.size,data:=o.data,slots:=o.slots},hx',hc,hnc,.inr ⟨h.objs.size,rfl,hxs.symm,?_,(let ⟨od',e',c',d'⟩:=jh _ hgd;⟨od',e',c',d'⟩)⟩⟩ (λb ob hbx _ hb=>?_)
    (λo₀ h₀=>by obtain rfl:o=o₀:=QS (hx.symm.trans h₀);exact⟨_,hx',rfl,rfl,rfl,λdx e=>by rw[hdn]at e;cases e⟩)
    (λo₀ o₁ dx _ _ e1 e2=>by rw[hx']at e1;cases e1;cases e2;exact Qk _)
   .obtain⟨o',es,ep,e1,e2,e3,eu,e4⟩:=hn'
    exact⟨o',es,ep,e1,e2,e3,eu,λy=>by rw[e4 y];by_cases hy:y=name<;>simp[hy,hmA]⟩
   .exact(hs.2 b (QA (Qg hb))).trans ((Heap.get?_update_ne _ _ _ _ hbx).trans (Qf _ hb))
   .refine(hs.2 x hxs).trans (Q4 _ hx₁ ?_)
    have hfr:=(Heap.get?_some_iff.mp hx).2;obtain⟨oc,od,odt,osl⟩:=o;cases odt<;>first|rfl|exact hfr
 ·
  rw[jq];refine Qh ?_;show Uc _ _ (Builtin.ObjectAttr.storeInDict dx (.str name tk) name v) _ _ _;unfold Builtin.ObjectAttr.storeInDict Builtin.ObjectAttr.newKeyGuard;refine Qb (Qh (Qb (wpAny_nsSet1EFk hns λh' hn' hs jh=>?_)));obtain⟨oD,esD,epD,hoD,hdD,hcD⟩:=hn'.count (PySem.Within.cons name v hw);refine Qb (wpAny_lookBehind hoD (by rw[hdD];exact pastItsLine_dict (QH hcD (by rw[QC,Jw];omega))) ?_)
  wp_walk
  refine hq h' _ ⟨o,(hs.2 x hne.symm).trans hx,hc,hnc,.inr ⟨dx,jq,hne,hn',(let ⟨od,e,c,dd⟩:=hed;let ⟨od',e',c',d'⟩:=jh od e;⟨od',e',c'.trans c,d'.trans dd⟩)⟩⟩ (λb ob _ hbd hb=>?_)
   (λo₀ h₀=>⟨o₀,(hs.2 x hne.symm).trans h₀,rfl,rfl,rfl,λ_ e=>e⟩)
   (λo₀ o₁ dx' e0 e1 _ _=>by rw[hx]at e0;cases e0;rw[jq]at e1;cases e1)
  exact(hs.2 b (hbd o dx hx jq)).trans hb
theorem Mn{Q:Unit->J6->Prop}{ns:List Str}(SF:StoreFacts B bmB sa owner)(T:Tail bmB bm)(hpass:refuseLoop (.ref x) "__setattr__" bm=pure ())
  (hC:h.get? C=O (excClassObj nm q C N bs bm qv sn sub ab col dd k0 k1 k2 k3 k5 newId)) (hfs:Ky (model prog w) C "__setattr__" (O (.builtin sa)) h) (hf:Ky (model prog w) C name qu h) (I:h.InstFk x C mA)
  (hq:∀h' tk',h'.InstFk x C (λy=>if y=name then O v else mA y) ->
   (∀b o,b≠x->(∀o₀ dx,h.get? x=O o₀->o₀.dict=O dx->b≠dx)->h.get? b=O o->h'.get? b=O o) ->
   (∀o₀,h.get? x=O o₀->∃o₁,h'.get? x=O o₁/\o₁.cls=o₀.cls/\o₁.data=o₀.data/\o₁.slots=o₀.slots/\∀dx,o₀.dict=O dx->o₁.dict=O dx)->(∀o₀ o₁ dx,h.get? x=O o₀->o₀.dict=qu->h'.get? x=O o₁->o₁.dict=O dx->h.objs.size<=dx)->Q () ⟨h',g,d,tk',os⟩) (hw:PySem.Within mA ns) (hsz:ns.length<=1000) :
  Uc (model prog w) A (setAttr (.ref x) name v) Q E ⟨h,g,d,t,os⟩:=by
 obtain⟨o,hx,hc,_⟩:=id I;have f3:=SF.slot.bind (.ref x);unfold setAttr callSpecial? specialOf
 repeat (any_goals (first|assumption|(with_reducible refine Qj hx ?_;rw[hc])|with_reducible refine hfs.at ?_|wp_step))
 refine Q6 SF.slot.plain SF.entry (C4 SF T hC hx hc (A3 hpass hC hf I (λh' tk' I' hk hsame hnew=>?_) hw hsz))
 repeat (any_goals (first|assumption|wp_step))
 exact hq h' tk' I' hk hsame hnew
theorem N3{M:Model}{o:Obj}{nameV:J5}{Q:Unit->J6->Prop}(T:Tail bmB bm)(hb:bmB.contains (.type "BaseException")=qv)(hC:h.get? C=O (excClassObj nm q C N bs bm hdct sn sub ab col dd k0 k1 k2 k3 k5 newId))
  (hx:h.get? x=O o) (hc:o.cls=.ref C) (hq:Q () ⟨h,g,d,t,os⟩):Uc M A (checkBuiltinCall "BaseException.__getattribute__" ⟨[.ref x,nameV],[]⟩) Q E ⟨h,g,d,t,os⟩:=by
 have hk:builtinKind "BaseException.__getattribute__" = O .slot:=by decide +kernel
 have hsplit:splitId "BaseException.__getattribute__" = O ("BaseException", "__getattribute__"):=by decide +kernel
 have jo:(Value.ref C::bm).contains (.type "BaseException")=qv:=by rw[QQ,T _ _ hb];rfl
 have ha:=PySem.F.args_bexc_ga (.ref x) nameV;simp only[checkBuiltinCall,hk,hsplit];refine Qb ?_
 .unfold isInstance
  repeat (first|(with_reducible refine Qj hx ?_;rw[hc])|(with_reducible refine QE hC ?_;rw[jo])|wp_step)
  exact hq
theorem AS{tk:Tok}{Q:PySem.Fin->J6->Prop}(hC:h.get? C=O (excClassObj nm q C N bs bm qv sn sub ab col dd k0 k1 k2 k3 k5 newId))(hf:Ky (model prog w) C name qu h)(I:h.InstFk x C mA)(hv:mA name=O v)(hq:Q (.done (.ret v)) ⟨h,g,d,t,os⟩) :
  Uc (model prog w) A (Builtin.«object.__getattribute__» ⟨[.ref x,.str name tk],[]⟩) Q E ⟨h,g,d,t,os⟩:=by
 obtain⟨o,hx,hc,hnc,hd⟩:=I;rcases hd with ⟨_,hmA⟩|⟨dx,jq,hne,hns,_⟩
 .rw[hmA name]at hv;cases hv
 unfold Builtin.«object.__getattribute__»
 repeat (first|(with_reducible refine Qj hx ?_;rw[hc])|with_reducible refine hf.at ?_|wp_step)
 split
 .rename_i c hcd
  exact absurd hcd (hnc c)
 unfold instanceDict
 repeat (first|(with_reducible refine Qj hx ?_;rw[hc])|with_reducible refine Qj hC ?_|wp_step)
 rw[jq]
 repeat (first|(with_reducible refine wpAny_nsGet hns.ns ?_;rw[hv])|wp_step)
 exact hq
theorem As{expr:Bool}{Q:J5->J6->Prop}(FB:ExcAttrFacts B)(T:Tail bmB bm)(hb:bmB.contains (.type "BaseException")=qv)(hC:h.get? C=O (excClassObj nm q C N bs bm qv sn sub ab col dd k0 k1 k2 k3 k5 newId))
  (fg:Ky (model prog w) C "__getattribute__" (O (.builtin "BaseException.__getattribute__")) h) (fa:Ky (model prog w) C "__getattr__" none h) (hf:Ky (model prog w) C name qu h) (I:h.InstFk x C mA) (hv:mA name=O v) (hh:handedOut v=pure v) (hq:Q v ⟨h,g,d,t+1,os⟩) :
  Uc (model prog w) A (getAttr (.ref x) name expr) Q E ⟨h,g,d,t,os⟩:=by
 obtain⟨o,hx,hc,_⟩:=id I;have f3:=FB.ga.bind (.ref x);have hx0:(expr&&onTheHeap (Value.builtin "BaseException.__getattribute__"))=qw:=by cases expr<;>rfl
 have hx2:(Value.builtin "BaseException.__getattribute__" == Value.builtin "object.__getattribute__")=qw:=by decide +kernel
 have hx1:(onTheHeap (Value.ref C)&&Value.builtin "BaseException.__getattribute__" == Value.builtin "object.__getattribute__")=qw:=by rw[hx2];rfl
 unfold getAttr
 repeat (any_goals (first|assumption|(with_reducible refine Qj hx ?_;rw[hc])|with_reducible refine fg.at ?_|with_reducible refine fa.at ?_|wp_step))
 refine Q6 FB.ga.plain PySem.F.entry_bexc_ga (N3 T hb hC hx hc (AS hC hf I hv ?_))
 repeat (any_goals (first|assumption|wp_step))
end
theorem XU{o:Obj}{vs:Array J5}(f:Array J5->Array J5)(h:o.data=.fields vs):Obj.mapFields f o = {o with data:=.fields (f vs)}:=by obtain⟨c,d,dt,sl⟩:=o;cases h;rfl
def Tb(h:Heap)(e:J8)(vs:Array J5)(fl:J5):Prop:=∃T oT ts,vs[1]?=O (.ref T)/\T≠e/\h.get? T=O oT/\oT.data=.fields ts/\ts[3]?=O fl
def Fly(h:Heap)(e:J8):Prop:=∃oe vs,h.get? e=O oe/\oe.data=.fields vs/\(vs[1]?=O .none∨Tb h e vs .none)
structure TV(fs:qF)(e:J8)(h h':Heap):Prop where
 keep:∀b o,b≠e->b∉fs->h.get? b=O o->h'.get? b=O o
 slot:∀b o,b≠e->h.get? b=O o->∃sl,h'.get? b=O {o with slots:=sl}
 own:∀oe,h.get? e=O oe->∃vs,h'.get? e=O {oe with data:=.fields vs}
section
variable{M:Model}{A:Around}{E:J5->J6->Prop}{s:J6}{base:Heap}{env:Env}{outer:List Env}{L e:J8}
theorem newEntry{oe:Obj}{vs:Array J5}{head:J5}{hadNext:Bool}{Q:Unit->J6->Prop}(hfr:A.frames=O (env::outer))(hl:s.heap.FunFrames base (env::outer))(hf:env.frame=O L)
  (he:s.heap.get? e=O oe) (hd:oe.data=.fields vs) (hsz:1<vs.size)
  (h:∀h',TV (frs (env::outer)) e s.heap h'->Fly h' e->Q () {s with heap:=h'}) :
  Uc M A (do let a ←frameOf env;let pl ←entryPlaceOf L hadNext;let b ←EntryCells.newEntry head a .none (rawInt L) .none pl;setField (.ref e) 1 b) (λ_ s'=>Uc M A (setFlight (.ref e) qu) Q E s') E s:=by
 have hene:e∉(env::outer).filterMap (·.frame):=λhm=>by obtain⟨_,o,ho,hnf⟩:=hl.mem hm;rw[he]at ho;injection ho with ho;subst ho;exact hnf vs hd
 refine Qb (wpAny_frameOf_fun hfr hl hf λh₁ hs₁=>?_);refine Qb (wpAny_entryPlaceOf λpl hpl=>?_);unfold EntryCells.newEntry newFields;refine Qb (wpAny_newObj_type ?_ (hpl.sizeOk5 _ _ _ _ _));have he₁:h₁.get? e=O oe:=(hs₁.2.1 e hene).trans he;have he₂:=Qf (h:=h₁) {cls:=.type "traceback", dict:=qu,data:=.fields ([head,.ref L,.none,rawInt L,.none]++(if pl.isEmpty then Ug 6 Value.none else pl)).toArray} he₁;refine wpAny_setField he₂ hd hsz ?_;have kf:h₁.objs.size≠e:=Jn (Qg he₁);have hd₃:=Obj.data_mapFields hd (·.setIfInBounds 1 (Value.ref h₁.objs.size));have he₃:=Q4 (Obj.mapFields (·.setIfInBounds 1 (Value.ref h₁.objs.size))) he₂ (Obj.isFreed_of_fields hd₃)
 have hT₃:=(QK (h₁.push {cls:=.type "traceback", dict:=qu,data:=.fields ([head,.ref L,.none,rawInt L,.none]++(if pl.isEmpty then Ug 6 Value.none else pl)).toArray})
  (Obj.mapFields (·.setIfInBounds 1 (Value.ref h₁.objs.size))) (Ne.symm kf)).trans (Qt h₁ qt)
 unfold setFlight;refine wpAny_bind (wpAny_field he₃ hd₃ (x:=.ref h₁.objs.size) (by simp[hsz]) ?_);rw[if_pos (show(Value.ref h₁.objs.size != Value.none)=qv from by simp)];refine wpAny_setField hT₃ qt (by simp only[QN,Qm,QC,QM]<;>omega) (h _ ?_ ?_)
 .have keep:∀b o,b≠e->h₁.get? b=O o ->
    (((h₁.push {cls:=.type "traceback", dict:=qu,data:=.fields ([head,.ref L,.none,rawInt L,.none]++(if pl.isEmpty then Ug 6 Value.none else pl)).toArray}).update e (Obj.mapFields (·.setIfInBounds 1 (Value.ref h₁.objs.size)))).update h₁.objs.size
     (Obj.mapFields (·.setIfInBounds 3 ((none:qG).elim Value.none λf=>rawInt f)))).get? b=O o:=λb o ji hb=>by
   have j7:h₁.objs.size≠b:=Jn (Qg hb);rw[QK _ _ j7,QK _ _ (Ne.symm ji)];exact Qf _ hb
  refine⟨λb o hb hf hg=>keep b o hb ((hs₁.2.1 b hf).trans hg),λb o hb hg=>?_,λoe' z=>?_⟩
  .obtain⟨sl,hs⟩:=hs₁.2.2 b o hg
   exact⟨sl,keep b _ hb hs⟩
  .rw[he]at z;cases z
   exact⟨_,by rw[QK _ _ kf,he₃,XU _ hd]⟩
 .refine⟨_,_,?_,hd₃,.inr ⟨h₁.objs.size,_,_,by simp[hsz],kf,Heap.get?_update_self _ hT₃ (Obj.isFreed_of_fields (Obj.data_mapFields rfl _)),Obj.data_mapFields rfl _,by first|(simp;done)|(rcases hpl with rfl|⟨_,_,_,_,_,_,_,rfl⟩<;>simp)⟩⟩
  rw[QK _ _ kf];exact he₃
theorem note{Q:Unit->J6->Prop}(hfr:A.frames=O (env::outer))(hl:s.heap.FunFrames base (env::outer))(hf:env.frame=O L)(x:Fly s.heap e)
  (h:∀h',TV (frs (env::outer)) e s.heap h'->Fly h' e->Q () {s with heap:=h'}):Uc M A (noteFrame (.ref e) env) (λ_ s'=>Uc M A (setFlight (.ref e) qu) Q E s') E s:=by
 obtain⟨oe,vs,he,hd,h1⟩:=x;unfold noteFrame;simp only[hf];rcases h1 with h1|⟨T,oT,ts,h1,kf,hT,jB,h3⟩
 .refine Qb (Q3 he hd h1 ?_)
  rw[Qy (by decide)];exact newEntry hfr hl hf he hd (Jo.mp h1).1 h
 .refine Qb (Q3 he hd h1 ?_)
  rw[if_pos (show(Value.ref T != Value.none)=qv from by simp)];refine Qb (Q3 hT jB h3 ?_);rw[if_neg (show ¬((Value.none==rawInt L)=qv)from by simp[rawInt])];obtain⟨hs3,hv3⟩:=Jo.mp h3;refine Qb (wpAny_setField hT jB hs3 ?_)
  have same:∀b o,s.heap.get? b=O o->(s.heap.update T (Obj.mapFields (·.setIfInBounds 3 Value.none))).get? b=O o:=λb o hb=>by
   by_cases j7:b=T
   .subst j7
    rw[hT]at hb;cases hb;rw[Q4 _ hT (Obj.isFreed_of_fields (Obj.data_mapFields jB _)),XU _ jB]
    have:ts.setIfInBounds 3 Value.none=ts:=by
     apply Array.ext_getElem?;intro i;rw[Array.getElem?_setIfInBounds];split
     .rename_i z
      subst z;exact h3.symm
     .rfl
    rw[this,←jB]
   .rw[QK _ _ (Ne.symm j7)];exact hb
  exact newEntry hfr (hl.of_keeps λb o hb hnf=>⟨o,same b o hb,rfl⟩) hf (same e oe he) hd (Jo.mp h1).1
   λh' p t=>h h' ⟨λb o a c g=>p.keep b o a c (same b o g),λb o a g=>p.slot b o a (same b o g),λoe' z=>p.own oe' (same e oe' z)⟩ t
theorem GN{Q:Unit->J6->Prop}(hfr:A.frames=O (env::outer))(hl:s.heap.FunFrames base (env::outer))(hf:env.frame=O L)(x:Fly s.heap e)
  (h:∀h',TV (frs (env::outer)) e s.heap h'->Fly h' e->Q () {s with heap:=h'}):Uc M A (leaving env (.ref e)) Q E s:=by
 unfold leaving;exact Qb (note hfr hl hf x h)
end
end L2
namespace L2
open PySem PySem.Spec PyProof.Rows PySem.Calls PyProof.V
def XO(fr:Bool)(e C:J8)(dd:qG):Heap->Prop:=λh=>∃vs sl,h.get? e=O {cls:=.ref C,dict:=dd,data:=.fields vs,slots:=sl}/\(fr=qv->vs[1]?=O .none/\∃t0,vs[0]?=O (.ref t0))
theorem XO.ok{P:J7}{w:World}{H:Hp}{h:Heap}{fr:Bool}{e C:J8}{dd:qG}(x:XO fr e C dd h):KT P w H h e (.ext (XO fr e C dd)):=
 ⟨x,let ⟨_,_,q,_⟩:=x;⟨_,q⟩,λh1 h2 ⟨vs,sl,q,z⟩ k=>⟨vs,sl,k _ q,z⟩⟩
theorem XO.fly{h:Heap}{e C:J8}{dd:qG}(x:XO qv e C dd h):Fly h e:=let ⟨vs,_,q,z⟩:=x;⟨_,vs,q,rfl,.inl (z qt).1⟩
theorem XO.old{h:Heap}{fr:Bool}{e C:J8}{dd:qG}(x:XO fr e C dd h):XO qw e C dd h:=let ⟨vs,sl,q,_⟩:=x;⟨vs,sl,q,λz=>nomatch z⟩
def CX1(P:J7)(w:World):CXT:=λouter H s E v s'=>∃e C dd H',v=.ref e/\s'.os=s.os/\AllBare s'.gens/\Un (frs outer) [] H H' s.heap s'.heap/\HOk P w H' s'.heap/\H' e=O (.ext (XO qw e C dd))/\Fly s'.heap e/\E (.ref e) qu H'
section
variable{X:Cx}{pins:List (J8×Obj)}{σ:St}{H:Hp}{s:J6}{e C:J8}{dd:qG}{h':Heap}
theorem Inv.passed(I:Inv X pins σ H s)(hx:H e=O (.ext (XO qw e C dd)))(p:TV (frs X.stack) e s.heap h'):Inv X pins σ H {s with heap:=h'}:=by
 have ne:∀b,H b=qu->b≠e:=λb n z=>by rw[z,hx]at n;cases n
 refine I.call (g':=s.gens) (t':=s.toks) (d':=s.drawn) (ch:=[]) ⟨λb o g n f _=>p.keep b o (ne b n) f g,λb o g n _ _=>p.slot b o (ne b n) g,λb o _ n _=>n,λb o g _=>?_,λ_ _ z=>z,λ_ _ _ z=>z,λb ps z=>⟨#[],by rw[z];simp⟩⟩ (λa o q=>?_) I.bare λb z=>absurd z (by simp)
 .by_cases hb:b=e
  .subst hb
   obtain⟨vs,z⟩:=p.own o g;exact⟨_,z⟩
  .obtain⟨sl,z⟩:=p.slot b o hb g
   exact⟨_,z⟩
 .by_cases ha:a=e
  .subst ha
   rw[hx]at q;cases q;obtain⟨⟨vs,sl,g,_⟩,_,_⟩:=I.hok a _ hx;obtain⟨vs',z⟩:=p.own _ g;exact XO.ok ⟨vs',sl,z,λz=>nomatch z⟩
  .refine(I.hok a o q).stay (λb u hb g=>p.keep b u ?_ (λz=>?_) g) (λ_ z=>z) λ_ _ z=>z
   .rcases hb with rfl|hb
    .exact ha
    .rintro rfl;rw[hx]at hb;cases hb
   .have n:=I.stkFree b z
    rcases hb with rfl|hb
    .rw[q]at n;cases n
    .rw[hb]at n;cases n
def Xk(X:Cx)(KX:V->St->Hp->Prop):Prop:=∀(pins:List (J8×Obj))(σ:St)(H:Hp)(s:J6)(e C:J8)(dd:qG),Inv X pins σ H s->H e=O (.ext (XO qw e C dd))->Fly s.heap e->KX (.ref e) σ H->X.xe (.ref e) s
theorem DB{P:J7}{w:World}{K:Frag}{mg:Str->qC}{base:Heap}{N:List Str}{qual:Str}{scope:Scope}{f:J8}{cd:J5}{A:Around}{outer:List Env}{s₀:J6}{H₀:Hp}{E:XK} :
  Xk (KJ (CX1 P w) P w K mg base N qual scope f cd A outer s₀ H₀ E) λv _ H=>∃e,v=.ref e/\E (.ref e) qu H:=by
 intro pins σ H s e C dd I hx fl ⟨e',ee,hE⟩;cases ee;refine GN (L:=s₀.heap.objs.size) I.ok.frames I.stack qt fl λh' p fl'=>?_;have I':=I.passed hx p
 exact⟨e,C,dd,H,rfl,I'.os,I'.bare,I'.base,I'.hok,hx,fl',hE⟩
theorem Xk.pass{KX:V->St->Hp->Prop}{E:XK}{v:J5}{s':J6}(hw:Xk X KX)(I:Inv X pins σ H s)(h:CX1 X.prog X.w X.stack H s E v s')(hk:∀e H,E (.ref e) qu H->KX (.ref e) σ H):X.xe v s':=by obtain⟨e,C,dd,H',rfl,os,bare,un,hok,hx,fl,hE⟩:=h;obtain⟨hh,g,d,t,os'⟩:=s';obtain rfl:os'=s.os:=os;exact hw pins σ H' _ e C dd (I.call (h':=hh) (g':=g) (d':=d) (t':=t) (ch:=[]) un hok bare (λb z=>absurd z (by simp))) hx fl (hk e H' hE)
end
abbrev VB:qz:=[.type "ValueError", .type "Exception", .type "BaseException", .type "object"]
structure XCls(M:Model)(base:Heap)(C:J8)(bm:qz)(fI:J8):Prop where
 obj:∃nm q N bs sn sub ab col dd k0 k1 k2 k3 k5,base.get? C=O (excClassObj nm q C N bs bm qv sn sub ab col dd k0 k1 k2 k3 k5 "ValueError.__new__")
 tail:Tail VB bm
 init:Ky M C "__init__" (O (.ref fI)) base
 fn:∃o,base.get? fI=O o/\o.cls=.type "function"
 sa:Ky M C "__setattr__" (O (.builtin "object.__setattr__")) base
 ga:Ky M C "__getattribute__" (O (.builtin "BaseException.__getattribute__")) base
 gh:Ky M C "__getattr__" none base
 cl:Ky M C "__class__" (O (.builtin "object.__class__")) base
 pass:∀v,refuseLoop v "__setattr__" bm=pure ()
section
variable{X:Cx}{k:Nat}{f C:J8}{fd:J9}{ps:List Str}{sp:Sp}{x:Str}{p pos cpos:Pos}{e:Ua}{es:qA}{t:TA}{bm:qz}
theorem C3{pins:List (J8×Obj)}{σ:St}{H:Hp}{s:J6}{Q:VK}{us:qz}{vs:List V}(M:XCls (model X.prog X.w) X.base C bm f)(F:FnOk X.prog X.w X.K X.mg X.base CX0 k f fd ps sp)(hr:Room (k+1) X.A)(hb:ZL X.K fd ps [])
  (I:Inv X pins σ H s) (r:Vals vs us) (hl:us.length<=Ub)
  (h:∀a,H a=qu->sp (.ref a::vs) (upd H a (.ext (XO qv a C qu))) (λv H2=>v=.non/\Q (.ref a) H2) E0) :
  Uc (model X.prog X.w) X.A (call (.ref C) us) (EP X pins σ Q) X.xe s:=by
 obtain⟨nm,q,N,bs,sn,sub,ab,col,dd,k0,k1,k2,k3,k5,hC⟩:=M.obj;obtain⟨oI,hfI,hfc⟩:=M.fn;obtain⟨hp,g,d,tk,os⟩:=s;refine C5 PySem.F.excBase_ValueError M.tail (I.bk _ _ hC) (fI:=f) (M.init.keeps I.bk) (I.bk _ _ hfI) hfc (λh' a made hz=>?_) hl;obtain⟨t',he,htn,ht⟩:=made.there;have I2:Inv X pins σ (upd H a (.ext (XO qv a C qu))) ⟨h',g,d,tk,os⟩:=I.laid (t':=tk) made.keeps hz (XO.ok ⟨_,_,he,λ_=>⟨rfl,_,rfl⟩⟩);have hq:=h a (I.hok.fresh hz);have r2:Vals (V.ref a::vs) (Value.ref a::us):=.cons qt r;have hl2:(Value.ref a::us++[]).length=ps.length:=by have e:=r2.length;rw[F.len _ _ _ _ hq]at e;rw[Jh];exact e.symm
 refine wpAny_call (Ji (F.run _ X.stack _ _ ⟨Value.ref a::us,[]⟩ (Value.ref a::us) _ _ E0 (hr.make C us []) (I2.env0.make C us []) (by have:=hb _ (Value.ref a::us) I2.kIn hl2;rwa[Jh]at this) r2 hq) λr s' jd=>?_);cases r with
 |error e=>exact jd.elim
 |ok fl=>
  cases fl with
  |ret u=>obtain⟨v,H',I3,rv,ev,q3⟩:=I2.after jd;subst ev;exact⟨rv,⟨V.ref a,H',I3,rfl,q3⟩⟩
  |next=>exact False.elim jd
  |brk=>exact False.elim jd
  |cont=>exact False.elim jd
def tMkX(C:J8)(sp:Sp)(t:TA):TE:=λσ H Q=>t σ H λvs H1=>vs.length<=Ub/\∀a,H1 a=qu->sp (.ref a::vs) (upd H1 a (.ext (XO qv a C qu))) (λv H2=>v=.non/\Q (.ref a) H2) E0
theorem DA(M:XCls (model X.prog X.w) X.base C bm f)(F:FnOk X.prog X.w X.K X.mg X.base CX0 k f fd ps sp)(hr:Room (k+1) X.A)(hg:Gl X x)(hm:X.mg x=O (.ref C))(hk:PySem.W.keepIn X.K (.ref C)=qv)(hb:ZL X.K fd ps [])
  (ha:PA X (e::es) t) (hdb:(x==("__debug__" : Str))=qw:=by decide) (he:Ud (e::es) X.env=(qw,eval e X.env)::Ud es X.env:=by rfl) (hpl:(backTo pos (Ud es X.env)).any (·.1)=qw:=by rfl) :
  PE X (.Call (.Name x p) (e::es) [] pos) (tMkX C sp t):=by
 intro pins s σ H Q I h;refine Je (VE I hg hm ?_ hdb);refine PySem.W.callWith_K (h₀:=X.base) I.ok.mod.kin hk (thn (ha pos pins s σ H _ I h) λus s1 ⟨vs,H1,I1,r,hl,q⟩=>⟨I1.kIn,?_⟩) he hpl;exact C3 M F hr hb I1 r (by show us.length<=Ub;rw[←r.length];exact hl) q
def GM(KC:J8->Prop)(te:TE)(KX:V->St->Hp->Prop):TS:=λ_ σ H=>te σ H λv H2=>∃a C dd,v=.ref a/\KC C/\H2 a=O (.ext (XO qv a C dd))/\KX (.ref a) σ (upd H2 a (.ext (XO qw a C dd)))
theorem C2{M:Model}{A:Around}{E:J5->J6->Prop}{env:Env}{s:J6}{Q:Flow->J6->Prop}{y:Sem J5}
  (hh:A.handled=qu) (h:Uc M A y (λv s₁=>∃a C dd vs sl nm q N bs bm hdct sn sub ab col jj k0 k1 k2 k3 k5 newId,v=.ref a/\bm.contains (.type "BaseException")=qv/\s₁.heap.get? C=O (excClassObj nm q C N bs bm hdct sn sub ab col jj k0 k1 k2 k3 k5 newId) /\
   s₁.heap.get? a=O {cls:=.ref C,dict:=dd,data:=.fields vs,slots:=sl}/\vs[1]?=O .none/\E (.ref a) s₁) E s) :
  Uc M A (raiseStmt env (O y) qu) Q E s:=by
 unfold raiseStmt;refine Qb (Qr h (λv s₁ h₁=>?_) λ_ _ x=>x);obtain⟨a,C,dd,vs,sl,nm,q,N,bs,bm,hdct,sn,sub,ab,col,jj,k0,k1,k2,k3,k5,newId,rfl,hbase,hC,he,h1,hE⟩:=h₁;have jo:(Value.ref C::bm).contains (.type "BaseException")=qv:=by rw[QQ,hbase,JW]
 obtain⟨hp,g,d,tk,os⟩:=s₁
 repeat (first|with_reducible refine Q3 he qt h1 ?_|with_reducible refine Qj he ?_|with_reducible refine Qj hC ?_|(with_reducible refine QE hC ?_;rw[jo])|wp_step)
 exact wpAny_raiseNew_none hh hE
theorem Inv.aged{pins:List (J8×Obj)}{σ:St}{H:Hp}{s:J6}{a C:J8}{dd:qG}(I:Inv X pins σ H s)(hx:H a=O (.ext (XO qv a C dd))):Inv X pins σ (upd H a (.ext (XO qw a C dd))) s:=by obtain⟨x,_,_⟩:=I.hok a _ hx;have:=I.write (x:=a) (e:=a) (o:=.ext (XO qw a C dd)) (t':=s.toks) (h':=s.heap) (by rw[hx];trivial) (.inl qt) (λ_ _ _ q=>q) (let ⟨_,_,q,_⟩:=x;⟨_,q⟩) (XO.ok x.old);exact this
theorem Dy{KC:J8->Prop}{te:TE}{KX:V->St->Hp->Prop}{exc:Ua}(hc:X.calm=qv)(hcls:∀C,KC C->∃bm fI,XCls (model X.prog X.w) X.base C bm fI)(hw:Xk X KX)(ht:PE X exc te):PS X (.Raise (O exc) qu pos) (GM KC te KX):=by intro pins s σ H D I h;rw[arm_exec_Raise];refine Qb (QZ ?_);show Uc _ _ (raiseStmt X.env (O (do let v ←eval exc X.env;standAt pos;pure v)) qu) _ _ _;refine C2 (I.ok.hd hc) (Qb (thn (ht pins s σ H _ I h) λu s1 ⟨v,H2,I2,rv,a,C,dd,ev,kc,hx,kx⟩=>Qb (QZ (Qh ?_))));subst ev;obtain rfl:u=Value.ref a:=rv;obtain⟨bm,fI,M⟩:=hcls C kc;obtain⟨nm,q,N,bs,sn,sub,ab,col,jj,k0,k1,k2,k3,k5,hC⟩:=M.obj;obtain⟨⟨vs,sl,g,z⟩,_,_⟩:=I2.hok a _ hx;exact⟨a,C,dd,vs,sl,nm,q,N,bs,bm,qv,sn,sub,ab,col,jj,k0,k1,k2,k3,k5,_,rfl,M.tail _ _ qt,I2.bk _ _ hC,g,(z qt).1,hw pins σ _ s1 a C dd (I2.aged hx) Kh (XO.fly ⟨vs,sl,g,z⟩) kx⟩
end
section
variable{M:Model}{A:Around}{E:J5->J6->Prop}{h:Heap}{g:Array GenState}{d:Drawn}{t:Nat}{os:OsState}
variable{nm q jD q':Str}{C N D N' a:J8}{bs bm bs' bm':qz}{hdct jz:Bool}{sn sn':List Str}{sub sub':qz}{ab ka:Bool}{col col':qH}{dd jj:qG}{k0 k1 k2 k3 k5 j0 j1 j2 j3 j5:qC}{newId newId':String}
theorem Dx{o:Obj}{b:Bool}{Q:Bool->J6->Prop}(hC:h.get? C=O (excClassObj nm q C N bs bm hdct sn sub ab col dd k0 k1 k2 k3 k5 newId))(hD:h.get? D=O (excClassObj jD q' D N' bs' bm' jz sn' sub' ka col' jj j0 j1 j2 j3 j5 newId'))
  (hbase:bm'.contains (.type "BaseException")=qv) (ha:h.get? a=O o) (hc:o.cls=.ref C) (hb:(Value.ref C::bm).contains (.ref D)=b) (hq:Q b ⟨h,g,d,t,os⟩):Uc M A (excMatches (.ref a) (.ref D)) Q E ⟨h,g,d,t,os⟩:=by
 have jo:(Value.ref D::bm').contains (.type "BaseException")=qv:=by rw[QQ,hbase,JW]
 have f1:=tc_notTuple;have f2:=tc_sub;have hT:(⟨h,g,d,t,os⟩:J6).TypeIs (.ref D) "type" :=⟨_,hD,rfl⟩
 unfold excMatches
 repeat (any_goals (first|assumption|(with_reducible refine Qj ha ?_;rw[hc])|with_reducible refine Qj hD ?_|with_reducible refine Qj hC ?_|(with_reducible refine QE hD ?_;rw[jo])|(with_reducible refine QE hC ?_;rw[hb])|wp_step))
 cases b<;>(wp_walk;exact hq)
end
def GL(sp:Sp)(KX:V->St->Hp->Prop)(t:TA):TE:=λσ H Q=>t σ H λvs H1=>sp vs H1 Q λv _ H'=>∀a,v=.ref a->KX (.ref a) σ H'
section
variable{X:Cx}{k:Nat}{f:J8}{fd:J9}{ps:List Str}{sp:Sp}{x n:Str}{p pos np hpos:Pos}{e:Ua}{es:qA}{t:TA}{KX:V->St->Hp->Prop}
theorem Dw(F:FnOk X.prog X.w X.K X.mg X.base (CX1 X.prog X.w) k f fd ps sp)(hr:Room k X.A)(hg:Gl X x)(hm:X.mg x=O (.ref f))(hk:PySem.W.keepIn X.K (.ref f)=qv)(hb:ZL X.K fd ps [])(hw:Xk X KX)
  (ha:PA X (e::es) t) (hdb:(x==("__debug__" : Str))=qw:=by decide) (he:Ud (e::es) X.env=(qw,eval e X.env)::Ud es X.env:=by rfl) (hpl:(backTo pos (Ud es X.env)).any (·.1)=qw:=by rfl) :
  PE X (.Call (.Name x p) (e::es) [] pos) (GL sp KX t):=by
 intro pins s σ H Q I h;refine Je (VE I hg hm ?_ hdb);refine PySem.W.callWith_K (h₀:=X.base) I.ok.mod.kin hk (thn (ha pos pins s σ H _ I h) λus s1 ⟨vs,H1,I1,r,q⟩=>⟨I1.kIn,?_⟩) he hpl;have hl:(us++[]).length=ps.length:=by rw[Jh,←r.length];exact F.len _ _ _ _ q
 refine wpAny_call (Ji (F.run X.A X.stack s1 H1 ⟨us,[]⟩ us vs Q _ hr I1.env0 (by have:=hb s1 us I1.kIn hl;rwa[Jh]at this) r q) λr s' hq=>?_);cases r with
 |error e=>exact hw.pass (E:=λv _ H'=>∀a,v=.ref a->KX (.ref a) σ H') I1 hq λa H' z=>z a qt
 |ok fl=>
  cases fl with
  |ret u=>exact I1.after hq
  |next=>exact False.elim hq
  |brk=>exact False.elim hq
  |cont=>exact False.elim hq
abbrev Cx.suite(X:Cx)(a:J8):Cx:={X with A:=X.A.mark (O (.ref a)),calm:=qw,xe:=λ_ _=>False}
theorem Cx.Ok.suite(ok:X.Ok)(a:J8):(X.suite a).Ok:=
 ⟨ok.mod,ok.kind,ok.glob,ok.blt,ok.above,ok.inj,ok.has,ok.cab,λz=>(nomatch z),ok.frames,ok.stk,ok.exf,ok.bs,ok.bsz,ok.noex,ok.exfs,ok.funs,ok.frf⟩
theorem Inv.suite{pins:List (J8×Obj)}{σ:St}{H:Hp}{s:J6}(I:Inv X pins σ H s)(a:J8):Inv (X.suite a) pins σ H s:=⟨I.ok.suite a,I.os,I.bare,I.base,I.loc,I.cell,I.free,I.freeC,I.pin,I.hok,I.len⟩
theorem Inv.unsuite{pins:List (J8×Obj)}{σ σ':St}{H H':Hp}{s s':J6}{a:J8}(I0:Inv X pins σ H s)(I:Inv (X.suite a) pins σ' H' s'):Inv X pins σ' H' s':=⟨I0.ok,I.os,I.bare,I.base,I.loc,I.cell,I.free,I.freeC,I.pin,I.hok,I.len⟩
theorem Sn{pins:List (J8×Obj)}{σ:St}{H:Hp}{s:J6}{i:Nat}{Q:Unit->J6->Prop}{E:J5->J6->Prop}{A:Around}(I:Inv X pins σ H s)(hN:X.N.Nodup)(hi:X.N[i]?=O n)(hl:X.env.kindOf n=O .local)
  (h:∀s',Inv X pins (σ.set i qu) H s'->Q () s'):Uc (model X.prog X.w) A (do bindName X.env n .none;unbindBehindTheSuite X.env n pos) Q E s:=by
 have hcls:(X.env.scope.kind==.class || (X.env.scope.kind==.module&&X.env.locals != X.env.globals))=qw:=by rw[I.ok.kind];rfl
 refine Qb (wpAny_bindName (Sm (v:=.non) (u:=.none) I hN hi (.inl hl) qt (λs1 I1=>?_) (.inr hl)));unfold unbindBehindTheSuite;refine wpAny_onRaise ?_;unfold unbindName;refine Qb (wpAny_point (Qb ?_));unfold deleteName;simp only[hl,hcls];rw[Qy (by decide)];obtain⟨m,hn,jT⟩:=id I1.loc;have hiσ:i<σ.length:=by rw[I.len];exact(Ql.mp hi).1
 refine Qb (wpAny_nsDel_keeps hn λh' v hn' hs=>?_)
 have hsome:(m n).isSome=qv:=by
  obtain⟨u,_,l⟩:=jT i n .non hi (by rw[QI hiσ]) (.inl hl);rcases l with ⟨_,l⟩|⟨k,_⟩
  .rw[l];rfl
  .rcases k with k|k
   .rw[hl]at k;cases k
   .rw[hl]at k;cases k
 rw[hsome];simp only[if_true,Bool.not_true,Jt,JZ];refine Qh (wpAny_point (h _ ?_));obtain⟨oL,_,_,kr,_⟩:=id hn;have neL:∀b o,X.s₀.heap.get? b=O o->b≠X.env.locals:=λb o e=>QA (Qz (Qg e) I.ok.above)
 refine⟨I1.ok,I1.os,I1.bare,⟨λb o e n hb hx=>(hs.2 b (neL b o e)).trans (I1.base.keep b o e n hb hx),λb o e n hb hx=>?_,I1.base.free,λb o e hx=>?_,I1.base.tups,I1.base.frzs,I1.base.tbls⟩,⟨_,hn',λj y v' e1 e2 e3=>?_⟩,λy c e=>?_,I1.free,I1.freeC,λp hp=>?_,λb ob e=>?_,?_⟩
 .obtain⟨sl,e1⟩:=I1.base.slot b o e n hb hx
  exact⟨sl,(hs.2 b (neL b o e)).trans e1⟩
 .obtain⟨o',e1⟩:=I1.base.there b o e hx
  exact⟨o',(hs.2 b (neL b o e)).trans e1⟩
 .have hj:j≠i:=by
   rintro rfl;rw[QI hiσ]at e2;cases e2
  rw[Qn (Ne.symm hj)]at e2;obtain⟨u',r',q⟩:=jT j y v' e1 (by rw[Qn (Ne.symm hj)];exact e2) e3;have hy:y≠n:=by rintro rfl;obtain⟨h1,h2⟩:=Ql.mp e1;obtain⟨h3,h4⟩:=Ql.mp hi;exact hj ((List.getElem_inj hN).mp (h2.trans h4.symm))
  refine⟨u',r',?_⟩;rcases q with ⟨q1,q2⟩|⟨k,c,e,z⟩
  .exact .inl ⟨q1,(Qy hy).trans q2⟩
  .obtain⟨o,ho,hd⟩:=z
   exact .inr ⟨k,c,e,o,(hs.2 c (I1.cne y c e)).trans ho,hd⟩
 .obtain⟨v',o,ho,hd⟩:=I1.cell y c e
  exact⟨v',o,(hs.2 c (I1.cne y c e)).trans ho,hd⟩
 .obtain⟨a,b,c,d⟩:=I1.pin p hp
  exact⟨(hs.2 _ c).trans a,b,c,d⟩
 .refine(I1.hok b ob e).stay (λc w' hc q=>(hs.2 c ?_).trans q) (λ_ q=>q) λ_ _ q=>q
  rintro rfl;rcases hc with rfl|hc
  .rw[I1.free]at e;cases e
  .rw[I1.free]at hc;cases hc
 .rw[Jb];exact I.len
theorem Ar{M:Model}{A:Around}{E:J5->J6->Prop}{s:J6}{a:J8}{Q:Unit->J6->Prop}(fl:Fly s.heap a)(h:∀h',(∀b o,s.heap.get? b=O o->h'.get? b=O o)->Q () {s with heap:=h'}):Uc M A (setFlight (.ref a) qu) Q E s:=by
 obtain⟨oe,vs,he,hd,h1⟩:=fl;unfold setFlight;rcases h1 with h1|⟨T,oT,ts,h1,kf,hT,jB,h3⟩
 .refine Qb (Q3 he hd h1 ?_)
  rw[Qy (by decide)];exact Qh (h s.heap λ_ _ q=>q)
 .obtain⟨hs3,hv3⟩:=Jo.mp h3
  refine Qb (Q3 he hd h1 ?_);rw[if_pos (show(Value.ref T != Value.none)=qv from by simp)];refine wpAny_setField hT jB hs3 (h _ λb o hb=>?_);by_cases j7:b=T
  .subst j7
   rw[hT]at hb;cases hb;rw[Q4 _ hT (Obj.isFreed_of_fields (Obj.data_mapFields jB _)),XU _ jB];have:ts.setIfInBounds 3 Value.none=ts:=Array.setIfInBounds_same _ _ _ h3;show O {oT with data:=.fields (ts.setIfInBounds 3 Value.none)}=_;rw[this,←jB]
  .rw[QK _ _ (Ne.symm j7)];exact hb
def WQ(KC:J8->qz->Prop)(D:J8)(i:Nat)(ts:TS)(Dn:Ends):V->St->Hp->Prop:=λv σ H=>∃a C dd bm,v=.ref a/\KC C bm/\H a=O (.ext (XO qw a C dd))/\(Value.ref C::bm).contains (.ref D)=qv /\
 ts {nx:=λσ' H'=>Dn.nx (σ'.set i qu) H',rt:=Dn.rt,bk:=λσ' H'=>Dn.bk (σ'.set i qu) H',ct:=λσ' H'=>Dn.ct (σ'.set i qu) H'} (σ.set i (O (.ref a))) H
def tTry(KC:J8->qz->Prop)(D:J8)(i:Nat)(tb:(V->St->Hp->Prop)->TS)(ts:TS):TS:=λDn σ H=>tb (WQ KC D i ts Dn) Dn σ H
abbrev Cx.tried(X:Cx)(W:J5->J6->Prop)(pins:List (J8×Obj)):Cx:={X with xe:=W,pn:=X.pn++pins}
theorem Inv.tried{pins:List (J8×Obj)}{σ:St}{H:Hp}{s:J6}(I:Inv X pins σ H s)(W:J5->J6->Prop):Inv (X.tried W pins) [] σ H s:=
 ⟨⟨I.ok.mod,I.ok.kind,I.ok.glob,I.ok.blt,I.ok.above,I.ok.inj,I.ok.has,I.ok.cab,I.ok.hd,I.ok.frames,I.ok.stk,I.ok.exf,I.ok.bs,I.ok.bsz,I.ok.noex,I.ok.exfs,I.ok.funs,I.ok.frf⟩,I.os,I.bare,I.base,I.loc,I.cell,I.free,I.freeC,λp hp=>I.pin p (by simpa using hp),I.hok,I.len⟩
theorem Inv.untried{pins pins':List (J8×Obj)}{σ σ':St}{H H':Hp}{s s':J6}{W:J5->J6->Prop}(I0:Inv X pins σ H s)(I:Inv (X.tried W pins) pins' σ' H' s'):Inv X pins σ' H' s':=
 ⟨I0.ok,I.os,I.bare,I.base,I.loc,I.cell,I.free,I.freeC,λp hp=>I.pin p (Jv _ hp),I.hok,I.len⟩
theorem GK{KC:J8->qz->Prop}{D fD:J8}{bmD:qz}{i:Nat}{tb:(V->St->Hp->Prop)->TS}{ts:TS}{body suite:List Stmt}{b₀:Stmt}{st:List Env}(jv:X.stack=X.env::st)(hfr:X.env.frame=O X.env.locals)
  (hcls:∀C bm,KC C bm->∃fI,XCls (model X.prog X.w) X.base C bm fI) (hD:XCls (model X.prog X.w) X.base D bmD fD) (hg:Gl X x) (hm:X.mg x=O (.ref D)) (hN:X.N.Nodup) (hi:X.N[i]?=O n) (hl:X.env.kindOf n=O .local)
  (hb:∀(KX:V->St->Hp->Prop)(W:J5->J6->Prop)(pn:List (J8×Obj)),Xk (X.tried W pn) KX->PSs (X.tried W pn) body (tb KX)) (hs:∀a,PSs (X.suite a) (b₀::suite) ts) (hdb:(x==("__debug__" : Str))=qw:=by decide) :
  PS X (.Try body [.ExceptHandler (O (.Name x np)) (O n) (b₀::suite) hpos] [] [] pos) (tTry KC D i tb ts):=by
 intro pins s σ H Dn I h;refine wpAny_Try_except ?_
 let W:J5->J6->Prop:=λv s1=>∃a σ1 H1,v=.ref a/\Inv X pins σ1 H1 s1/\Fly s1.heap a/\WQ KC D i ts Dn (.ref a) σ1 H1
 have hw:Xk (X.tried W pins) (WQ KC D i ts Dn):=λpins' σ1 H1 s1 a C dd I1 hx fl hk=>⟨a,σ1,H1,rfl,I.untried I1,fl,hk⟩;refine Qr (hb _ W pins hw [] s σ H Dn (I.tried W) h) (λf s1 h1=>?_) λv s1 h1=>?_
 .cases f with
  |next=>obtain⟨σ',H',I',q⟩:=h1;exact wpAny_execs_nil ⟨σ',H',I.untried I',q⟩
  |brk=>obtain⟨σ',H',I',q⟩:=h1;exact⟨σ',H',I.untried I',q⟩
  |cont=>obtain⟨σ',H',I',q⟩:=h1;exact⟨σ',H',I.untried I',q⟩
  |ret u=>obtain⟨v,σ',H',I',r,q⟩:=h1;exact⟨v,σ',H',I.untried I',r,q⟩
 .obtain⟨a,σ1,H1,rfl,I1,fl,a',C,dd,bm,ea,kc,hx,hm',q⟩:=h1
  cases ea;obtain⟨fI,XC⟩:=hcls C bm kc;have hk:=I1.ok.frames;rw[jv]at hk;have hS:=I1.stack;rw[jv]at hS;refine note hk hS hfr fl λh2 p2 fl2=>?_;rw[←jv]at p2;have I2:=I1.passed hx p2;refine wpAny_handleBy_cons (codeAny_handlers_test ?_) (by intro q;cases q)
  refine VE (I2.suite a) hg hm ?_ hdb;obtain⟨nm,qn,N,bs,sn,sub,ab,col,dd1,k0,k1,k2,k3,k5,hC⟩:=XC.obj;obtain⟨jD,qn',N',bs',sn',sub',ka,col',dd2,j0,j1,j2,j3,j5,q9⟩:=hD.obj;obtain⟨⟨vs,sl,ga,_⟩,_,_⟩:=I2.hok a _ hx;refine Dx (I2.bk _ _ hC) (I2.bk _ _ q9) (hD.tail _ _ qt) ga qt hm' ?_;refine codeAny_handlers_suite_as (Ar fl2 λh3 k3=>?_);have I3:=I2.kept (t':=s1.toks) k3;refine Sm (v:=.ref a) I3 hN hi (.inl hl) qt (λs4 I4=>?_) (.inr hl);refine Qr (hs a pins s4 _ H1 _ (I4.suite a) q) (λf s5 h5=>?_) λ_ _ z=>z.elim
  cases f with
  |next=>obtain⟨σ',H',I',q'⟩:=h5;exact Sn (I3.unsuite I') hN hi hl λs6 I6=>⟨_,H',I6,q'⟩
  |brk=>obtain⟨σ',H',I',q'⟩:=h5;exact Sn (I3.unsuite I') hN hi hl λs6 I6=>⟨_,H',I6,q'⟩
  |cont=>obtain⟨σ',H',I',q'⟩:=h5;exact Sn (I3.unsuite I') hN hi hl λs6 I6=>⟨_,H',I6,q'⟩
  |ret u=>obtain⟨v,σ',H',I',r,q'⟩:=h5;exact Sn (I3.unsuite I') hN hi hl λs6 I6=>⟨v,_,H',I6,r,q'⟩
end
section
variable{prog:J7}{w:World}{A:Around}{E:J5->J6->Prop}{h:Heap}{g:Array GenState}{d:Drawn}{t:Nat}{os:OsState}
variable{nm q:Str}{C N a:J8}{bs bm bmB:qz}{hdct:Bool}{sn:List Str}{sub:qz}{ab:Bool}{col:qH}{dd:qG}{k0 k1 k2 k3 k5:qC}{B newId initId nid:String}
theorem AR(F:ExcBaseFacts B nid initId bmB)(T:Tail bmB bm){M:Model}{oe:Obj}{rest:qz}{Q:Unit->J6->Prop}
  (hC:h.get? C=O (excClassObj nm q C N bs bm hdct sn sub ab col dd k0 k1 k2 k3 k5 newId)) (he:h.get? a=O oe) (hcls:oe.cls=.ref C) (hq:Q () ⟨h,g,d,t,os⟩) :
  Uc M A (checkBuiltinCall initId ⟨.ref a::rest,[]⟩) Q E ⟨h,g,d,t,os⟩:=by
 have jo:(Value.ref C::bm).contains (.type B)=qv:=by rw[QQ,T _ _ F.hasB,JW]
 have hshort:=F.noStar;simp only[checkBuiltinCall,F.initKind,F.initSplit,F.initRow]
 repeat (first|(with_reducible refine Qj he ?_;rw[hcls])|with_reducible refine Qj hC ?_|(with_reducible refine QE hC ?_;rw[jo])|wp_step)
 refine wpAny_onRaise ?_
 rw[show ∀(x1 x2:String)(n:Nat),Bind.check ⟨.positional, "*", B,.self,[⟨"args", .varPos,qw⟩]⟩ x1 x2 n (List.map (λx=>x.fst) ({pos:=Value.ref a::rest}:Args).kw)=pure ()from
  λ_ _ n=>check_star_args _ _ _ _ _ _]
 exact Qh hq
theorem Aq(F:ExcBaseFacts B nid initId bmB)(T:Tail bmB bm){oe:Obj}{vs:Array J5}{u:J5}{Q:J5->J6->Prop}
  (hC:h.get? C=O (excClassObj nm q C N bs bm hdct sn sub ab col dd k0 k1 k2 k3 k5 newId)) (he:h.get? a=O oe) (hcls:oe.cls=.ref C) (hd:oe.data=.fields vs) {t0:J8} (h0:vs[0]?=O (.ref t0))
  (hq:∀h',(∀b o,b≠a->h.get? b=O o->h'.get? b=O o)->(∃y,h'.get? a=O {oe with data:=.fields (vs.setIfInBounds 0 (.ref y))})->Q .none ⟨h',g,d,t,os⟩) :
  Uc (model prog w) A (call (.builtin initId) [.ref a,u]) Q E ⟨h,g,d,t,os⟩:=by
 refine wpAny_call (Q6 F.init.plain F.initEntry (AR F T hC he hcls ?_));have he₂:(h.push {cls:=.type "tuple", data:=.seq #[u]}).get? a=O oe:=Qf _ he;have hz:0<vs.size:=(Jo.mp h0).1
 repeat (first|with_reducible refine Q3 he₂ hd h0 ?_|with_reducible refine wpAny_setField he₂ hd hz ?_|wp_step)
 have he₃:=Q4 (Obj.mapFields (·.setIfInBounds 0 (Value.ref h.objs.size))) he₂ (Obj.isFreed_of_fields (Obj.data_mapFields hd _));refine hq _ (λb o hb g=>?_) ⟨_,by rw[he₃,XU _ hd]⟩;rw[QK _ _ (Ne.symm hb)];exact Qf _ g
end
theorem F5:PySem.W.handedIn (.builtin "ValueError.__init__")=qv:=by decide +kernel
theorem GJ{h:Heap}:PySem.W.Frag.In [] h:=λa o z=>by cases z
theorem OQ:typeOf (.type "ValueError")=pure (.type "type"):=by kernel_rfl
theorem EL:Manifest.isStub "ValueError" = qw:=by decide +kernel
theorem EK:PySem.W.findCls [] (.type "ValueError") (.type "type") "__init__" = O (.val (.builtin "ValueError.__init__")):=by kernel_rfl
section
variable{X:Cx}{k:Nat}{f D:J8}{fd:J9}{ps:List Str}{sp:Sp}{x:Str}{p pos apos:Pos}{e:Ua}{es:qA}{t:TA}
def Of(KC:J8->qz->Prop)(t:TA):TE:=λσ H Q=>t σ H λvs H1=>∃a C dd bm u,vs=[.ref a,u]/\KC C bm/\H1 a=O (.ext (XO qv a C dd))/\Q .non H1
theorem Dv{KC:J8->qz->Prop}{pl:Sem Bool}(hcls:∀C bm,KC C bm->∃fI,XCls (model X.prog X.w) X.base C bm fI)(hg:Gl X "ValueError")(hm:X.mg "ValueError" = qu)(ha:PA X (e::es) t)
  (hst:Ud (e::es) X.env=(qw,eval e X.env)::Ud es X.env:=by rfl) (hpl:(backTo pos (Ud es X.env)).any (·.1)=qw:=by rfl)
  (ht:eval (.Call (.Attribute (.Name "ValueError" p) "__init__" apos) (e::es) [] pos) X.env=(do
   let ov ←eval (.Name "ValueError" p) X.env
   standAt apos.atName
   let (f,first) ←holding [ov] (getMethod ov "__init__" pl)
   callWith pos f first (backTo pos (Ud (e::es) X.env)) (backToKw pos (keywordEach [] X.env))):=by rfl) :
  PE X (.Call (.Attribute (.Name "ValueError" p) "__init__" apos) (e::es) [] pos) (Of KC t):=by
 intro pins s σ H Q I h;have hB:bootBuiltins "ValueError" = O (.type "ValueError"):=by decide +kernel
 refine PySem.W.methodCall_KW (pl:=pl) (Xz I hg hm hB ?_) ht;obtain⟨m,Fm⟩:=I.fr;refine PySem.W.method_type (K:=[]) (v:=.builtin "ValueError.__init__") Fm GJ OQ EL EK F5 ?_;refine PyProof.Rows.callWith_builtin1 (thn (ha pos pins _ σ H _ (I.tok _) h) λus s1 ⟨vs,H1,I1,r1,a,C,dd,bm,u,ev,kc,hx,q⟩=>?_) hst hpl;subst ev;cases r1 with
 |cons ra r1=>
 cases r1 with
 |cons ru r1=>
 cases r1;have ra':_=Value.ref a:=ra;subst ra';obtain⟨fI,XC⟩:=hcls C bm kc;obtain⟨nm,qn,N,bs,sn,sub,ab,col,dd1,k0,k1,k2,k3,k5,hC⟩:=XC.obj;obtain⟨⟨vs,sl,ga,z⟩,_,_⟩:=I1.hok a _ hx;obtain⟨z1,t0,z0⟩:=z qt;obtain⟨hp,g,d,tk,os⟩:=s1;refine Aq PySem.F.excBase_ValueError XC.tail (I1.bk _ _ hC) ga qt qt z0 λh' k ⟨y,hy⟩=>?_;have hw:=I1.write (x:=a) (e:=a) (o:=.ext (XO qv a C dd)) (t':=tk) (h':=h') (by rw[hx];trivial) (.inl qt) k ⟨_,hy⟩ (XO.ok ⟨_,sl,hy,λ_=>⟨by rw[Array.getElem?_setIfInBounds_ne (by decide)];exact z1,y,by simp[(Array.getElem?_eq_some_iff.mp z0).1]⟩⟩)
 have e:upd H1 a (.ext (XO qv a C dd))=H1:=by
  funext b;by_cases hb:b=a
  .subst hb;rw[Kh,hx]
  .rw[U4 hb]
 rw[e]at hw;exact⟨.non,H1,hw,rfl,q⟩
end
structure V1(K:Frag)(D:J8)(m:Str)(f:J8):Prop where
 ga:PySem.W.specialIn K (.ref D) "__getattribute__" = O (O (.builtin "type.__getattribute__"))
 rd:PySem.W.readsIn K D (.type "type")=qv
 fd:PySem.W.findCls K (.ref D) (.type "type") m=O (.val (.ref f))
 kp:PySem.W.keepIn K (.ref f)=qv
section
variable{X:Cx}{k:Nat}{f D:J8}{fd:J9}{ps:List Str}{sp:Sp}{x m:Str}{p pos apos:Pos}{e:Ua}{es:qA}{t:TA}
theorem O8{pl:Sem Bool}(M:V1 X.K D m f)(F:FnOk X.prog X.w X.K X.mg X.base CX0 k f fd ps sp)(hr:Room k X.A)(hb:ZL X.K fd ps [])(hg:Gl X x)(hm:X.mg x=O (.ref D))(ha:PA X (e::es) t)
  (hdb:(x==("__debug__" : Str))=qw:=by decide) (hst:Ud (e::es) X.env=(qw,eval e X.env)::Ud es X.env:=by rfl) (hpl:(backTo pos (Ud es X.env)).any (·.1)=qw:=by rfl)
  (ht:eval (.Call (.Attribute (.Name x p) m apos) (e::es) [] pos) X.env=(do
   let ov ←eval (.Name x p) X.env
   standAt apos.atName
   let (f,first) ←holding [ov] (getMethod ov m pl)
   callWith pos f first (backTo pos (Ud (e::es) X.env)) (backToKw pos (keywordEach [] X.env))):=by rfl) :
  PE X (.Call (.Attribute (.Name x p) m apos) (e::es) [] pos) (Tz sp [] E0 t):=by
 intro pins s σ H Q I h;refine PySem.W.methodCall_KW (pl:=pl) (VE I hg hm ?_ hdb) ht;refine PySem.W.method_cls I.kIn M.ga (PySem.W.cls_value I.kIn M.rd M.fd qt ?_);refine PySem.W.callWith_K (h₀:=X.base) I.ok.mod.kin M.kp (thn (ha pos pins _ σ H _ (I.tok _) h) λus s1 ⟨vs,H1,I1,r,q⟩=>⟨I1.kIn,?_⟩) hst hpl;exact PR F hr hb .nil Pl I1 r q
end
def XD(dx:J8)(fs:List (Str×V)):Heap->Prop:=λh=>∃mA,h.Ns1 dx mA/\h.ExactDictFk dx/\(∀f,Y9 (fs.lookup f) (mA f))/\PySem.Within mA (fs.map (·.1))
theorem XD.ok{P:J7}{w:World}{H:Hp}{h:Heap}{dx:J8}{fs:List (Str×V)}(x:XD dx fs h):KT P w H h dx (.ext (XD dx fs)):=
 ⟨x,let ⟨_,⟨o,_,_,q,_⟩,_⟩:=x;⟨o,q⟩,λh1 h2 ⟨mA,⟨o,es,ep,q,c⟩,⟨od,q2,c2⟩,r⟩ k=>⟨mA,⟨o,es,ep,k _ q,c⟩,⟨od,k _ q2,c2⟩,r⟩⟩
theorem XO.inst{h:Heap}{a C:J8}{vs:Array J5}{sl:Array qC}(g:h.get? a=O {cls:=.ref C,dict:=qu,data:=.fields vs,slots:=sl}):h.InstFk a C λ_=>qu:=
 ⟨_,g,rfl,λ_ z=>(by cases z),.inl ⟨rfl,λ_=>rfl⟩⟩
section
variable{X:Cx}{pins:List (J8×Obj)}{σ:St}{H:Hp}{s:J6}{a C dx:J8}{h':Heap}{t':Nat}
theorem Inv.xdict{fs:List (Str×V)}(I:Inv X pins σ H s)(hx:H a=O (.ext (XO qv a C qu)))(k:∀b o,b≠a->s.heap.get? b=O o->h'.get? b=O o)(hz:s.heap.objs.size<=dx)(h1:XO qv a C (O dx) h')(h2:XD dx fs h') :
  Inv X pins σ (upd (upd H a (.ext (XO qv a C (O dx)))) dx (.ext (XD dx fs))) {s with heap:=h',toks:=t'}:=by
 have hn:H dx=qu:=I.hok.fresh hz;have hne:dx≠a:=λz=>by rw[z,hx]at hn;cases hn
 have ne:∀b,H b=qu->b≠a:=λb n z=>by rw[z,hx]at n;cases n
 have nd:∀b o,s.heap.get? b=O o->b≠dx:=λb o g z=>by subst z;exact absurd (Qg g) (Nat.not_lt.mpr hz)
 have oth:∀b,b≠a->b≠dx->upd (upd H a (.ext (XO qv a C (O dx)))) dx (.ext (XD dx fs)) b=H b:=λb h1 h2=>by rw[U4 h2,U4 h1]
 have trk:∀b u,H b=O u->b≠dx:=λb u q z=>by rw[z,hn]at q;cases q
 have nota:∀b(u:HO),H b=O u->(∀φ,u≠.ext φ)->b≠a:=λb u q n z=>by rw[z,hx]at q;cases q;exact n _ qt
 refine I.un (t':=t') ⟨λb o g n _ _=>k b o (ne b n) g,λb o g n _ _=>⟨o.slots,k b o (ne b n) g⟩,λb o g n _=>(oth b (ne b n) (nd b o g)).trans n,λb o g _=>?_,λb xs q=>?_,λb o u q=>?_,λb ps q=>⟨#[],?_⟩⟩ λb u q=>?_
 .by_cases hb:b=a
  .subst hb;obtain⟨_,_,z,_⟩:=h1;exact⟨_,z⟩
  .exact⟨o,k b o hb g⟩
 .exact(oth b (nota b _ q λ_ z=>by cases z) (trk b _ q)).trans q
 .exact(oth b (nota b _ q λ_ z=>by cases z) (trk b _ q)).trans q
 .rw[oth b (nota b _ q λ_ z=>by cases z) (trk b _ q),q];simp
 .by_cases hb:b=dx
  .subst hb;rw[Kh]at q;cases q;exact XD.ok h2
  .rw[U4 hb]at q
   by_cases hb2:b=a
   .subst hb2;rw[Kh]at q;cases q;exact XO.ok h1
   .rw[U4 hb2]at q
    refine(I.hok b u q).stay (λc v hc g=>k c v ?_ g) (λc r=>(oth c (nota c _ r λ_ z=>by cases z) (trk c _ r)).trans r) λc xs r=>(oth c (nota c _ r λ_ z=>by cases z) (trk c _ r)).trans r
    rcases hc with rfl|hc
    .exact hb2
    .exact nota c _ hc λ_ z=>by cases z
end
def TN(KC:J8->qz->Prop)(ta tv:TE)(f:Str):TS:=λD σ H=>tv σ H λy H1=>ta σ H1 λx H2=>∃a C bm,x=.ref a/\KC C bm /\
 ((H2 a=O (.ext (XO qv a C qu))/\∀dx,H2 dx=qu->dx≠a->D.nx σ (upd (upd H2 a (.ext (XO qv a C (O dx)))) dx (.ext (XD dx [(f,y)])))) ∨
  ∃dx fs,dx≠a/\H2 a=O (.ext (XO qv a C (O dx)))/\H2 dx=O (.ext (XD dx fs))/\fs.length<900/\D.nx σ (upd H2 dx (.ext (XD dx (K5 f y fs)))))
section
variable{X:Cx}{o value:Ua}{f:Str}{pos pos':Pos}{ta tv:TE}{KC:J8->qz->Prop}
theorem Rm(hcls:∀C bm,KC C bm->∃fI,XCls (model X.prog X.w) X.base C bm fI)(hf:∀C bm,KC C bm->Ky (model X.prog X.w) C f qu X.base)(ha:PE X o ta)(hv:PE X value tv)
  (hs:swapsWith value (O (.Attribute o f pos')) pos.line X.env=pure qw):PS X (.Assign [.Attribute o f pos'] value pos) (TN KC ta tv f):=by
 intro pins s σ H D I h;refine plainObj_wpAny_Assign_Attribute (thn (hv pins s σ H _ I h) λu s1 ⟨y,H1,I1,ry,q⟩=>thn (ha pins s1 σ H1 _ I1 q) λov s2 ⟨x,H2,I2,rx,a,C,bm,ex,kc,q2⟩=>?_) hs;subst ex;obtain rfl:ov=Value.ref a:=rx;obtain⟨fI,XC⟩:=hcls C bm kc;obtain⟨nm,qn,N,bs,sn,sub,ab,col,dd1,k0,k1,k2,k3,k5,hC⟩:=XC.obj;obtain⟨hp,g,d,tk,os⟩:=s2;rcases q2 with ⟨hx,q2⟩|⟨dx,fs,hne,hx,jq,hl,q2⟩
 .obtain⟨⟨vs,sl,ga,z⟩,_,_⟩:=I2.hok a _ hx
  refine Mn (ns:=[]) PySem.F.store_ValueError XC.tail (XC.pass _) (I2.bk _ _ hC) (XC.sa.keeps I2.bk) ((hf C bm kc).keeps I2.bk) (XO.inst ga) (λh' tk' i' hk hsame hnew=>?_) PySem.Within.nil (by decide);obtain⟨o1,g1,c1,d1,kj,_⟩:=hsame _ ga;obtain⟨o2,g2,_,_,dd⟩:=i';rw[g1]at g2;cases g2;rcases dd with ⟨_,dn⟩|⟨dx,jq,hne,hns,hex⟩
  .have:=dn f;simp at this
  .have hz:=hnew _ _ dx ga qt g1 jq
   have o1e:o1 = {cls:=.ref C,dict:=O dx,data:=.fields vs,slots:=sl}:=by obtain⟨oc,od,odt,osl⟩:=o1;cases c1;cases d1;cases kj;cases jq;rfl
   have I3:=I2.xdict (t':=tk') (dx:=dx) (fs:=[(f,y)]) hx (λb ob hb gb=>hk b ob hb (λo₀ dx' e1 e2=>by rw[ga]at e1;cases e1;cases e2) gb) hz ⟨vs,sl,by rw[g1,o1e],z⟩
    ⟨_,hns,hex,λg=>?_,λg hg=>?_⟩
   .exact⟨σ,_,I3,q2 dx (I2.hok.fresh hz) hne⟩
   .show Y9 ((K5 f y []).lookup g) (if g=f then O u else qu)
    rw[RR];by_cases e:g=f
    .rw[Qo e,Qo e];exact ry
    .rw[Qy e,Qy e];trivial
   .show g∈[f]
    by_cases e:g=f
    .rw[e];simp
    .exact absurd (Qy e) hg
 .obtain⟨⟨vs,sl,ga,z⟩,_,_⟩:=I2.hok a _ hx
  obtain⟨⟨mA,hns,hex,hr,hwi⟩,_,_⟩:=I2.hok dx _ jq;refine Mn (ns:=fs.map (·.1)) PySem.F.store_ValueError XC.tail (XC.pass _) (I2.bk _ _ hC) (XC.sa.keeps I2.bk) ((hf C bm kc).keeps I2.bk) ⟨_,ga,rfl,λ_ z=>(by cases z),.inr ⟨dx,rfl,hne,hns,hex⟩⟩ (λh' tk' i' hk hsame hnew=>?_) hwi (by rw[Qd];omega);obtain⟨o1,g1,c1,d1,kj,dk⟩:=hsame _ ga;have hd1:=dk dx qt;obtain⟨o2,g2,_,_,dd⟩:=i';rw[g1]at g2;cases g2;rcases dd with ⟨dn,_⟩|⟨dx2,kH,hne2,kt,hex2⟩
  .rw[hd1]at dn;cases dn
  .rw[hd1]at kH
   cases kH;have o1e:o1 = {cls:=.ref C,dict:=O dx,data:=.fields vs,slots:=sl}:=by obtain⟨oc,od,odt,osl⟩:=o1;cases c1;cases d1;cases kj;cases hd1;rfl
   have I3:=I2.write (x:=dx) (e:=dx) (o:=.ext (XD dx (K5 f y fs))) (t':=tk') (h':=h') (by rw[jq];trivial) (.inl qt) (λb ob hb gb=>by
    by_cases hba:b=a
    .subst hba;rw[ga]at gb;cases gb;rw[g1,o1e]
    .exact hk b ob hba (λo₀ dx' e1 e2=>by rw[ga]at e1;cases e1;cases e2;exact hb) gb) (let ⟨o,_,_,q,_⟩:=kt;⟨o,q⟩) (XD.ok ⟨_,kt,hex2,λg=>?_,λg hg=>?_⟩)
   .exact⟨σ,_,I3,q2⟩
   .show Y9 ((K5 f y fs).lookup g) (if g=f then O u else mA g)
    rw[RR];by_cases e:g=f
    .rw[Qo e,Qo e];exact ry
    .rw[Qy e,Qy e];exact hr g
   .by_cases e:g=f
    .rw[e];exact(RJ f y fs).1
    .refine(RJ f y fs).2 g (hwi g λz=>hg ?_)
     show(if g=f then O u else mA g)=qu
     rw[Qy e];exact z
end
inductive FmtV:V->Str->Prop
 |str (x:Str) (h:x.length<=Ub):FmtV (.str x) x
 |int (i:Int) (h:i.natAbs.log2<1920):FmtV (.int i) (toString i:String)
 |non:FmtV .non "None"
def XN(te:TE):TE:=λσ H Q=>te σ H λv H1=>∃y,FmtV v y/\Q (.str y) H1
def V0:List TE->Str->TE
 |[],acc=>λ_ H Q=>acc.length<=Ub/\Q (.str acc) H
 |te::r,acc=>λσ H Q=>te σ H λv H1=>∃y,v=.str y/\(acc++y).length<=Ub/\V0 r (acc++y) σ H1 Q
inductive PEs(X:Cx):qA->List TE->Prop
 |nil:PEs X [] []
 |cons {e:Ua} {es:qA} {t:TE} {ts:List TE}:PE X e t->PEs X es ts->PEs X (e::es) (t::ts)
section
variable{X:Cx}{value:Ua}{te:TE}{pos:Pos}
theorem SX(h:PE X value te):PE X (.FormattedValue value (-1) qu pos) (XN te):=by
 intro pins s σ H Q I hq;refine wpAny_FormattedValue_plain (thn (h pins s σ H _ I hq) λu s1 ⟨v,H1,I1,rv,y,hy,q⟩=>?_);cases hy with
 |str x hx=>
  obtain⟨t,rfl⟩:=(show ∃t,u=Value.str y t from rv)
  exact wpAny_formatField_str ⟨.str y,H1,I1,⟨_,rfl⟩,q⟩ ⟨.str y,H1,I1.tok _,⟨_,rfl⟩,q⟩ hx
 |int i hi=>
  obtain⟨t,rfl⟩:=(show ∃t,u=Value.int i t from rv)
  exact wpAny_formatField_int hi ⟨.str _,H1,I1.tok _,⟨_,rfl⟩,q⟩
 |non=>obtain rfl:u=Value.none:=rv;exact wpAny_formatField_none ⟨.str _,H1,I1.tok _,⟨_,rfl⟩,q⟩
theorem O7{E:J5->J6->Prop}:∀{es:qA}{ts:List TE}{acc:Str}{pins:List (J8×Obj)}{s:J6}{σ:St}{H:Hp}{Q:VK},PEs X es ts->Inv X pins σ H s->V0 ts acc σ H Q ->
  Joins (model X.prog X.w) X.A X.xe (evalEach es X.env) acc (λout s1=>out.length<=Ub/\EP X pins σ Q (.str out s1.toks) {s1 with toks:=s1.toks+1}) s
 |_,_,acc,pins,s,σ,H,Q,.nil,I,⟨hl,q⟩=>⟨hl,.str acc,H,I.tok _,⟨_,rfl⟩,q⟩
 |_,_,acc,pins,s,σ,H,Q,.cons h r,I,hq=>thn (h pins s σ H _ I hq) λu s1 ⟨v,H1,I1,rv,y,ev,hl,q⟩=>by
  subst ev;obtain⟨t,rfl⟩:=(show ∃t,u=Value.str y t from rv)
  exact⟨y,t,rfl,hl,O7 (E:=E) r I1 q⟩
theorem NZ{v1 v2:Ua}{rest:qA}{ts:List TE}(h:PEs X (v1::v2::rest) ts):PE X (.JoinedStr (v1::v2::rest) pos) (V0 ts Str.empty):=by intro pins s σ H Q I hq;exact wpAny_JoinedStr (O7 (E:=X.xe) h I hq)
end
def Lv(KC:J8->qz->Prop)(ta:TE)(f:Str):TE:=λσ H Q=>ta σ H λx H1=>∃a C bm dx fs v fr,x=.ref a/\KC C bm/\H1 a=O (.ext (XO fr a C (O dx)))/\H1 dx=O (.ext (XD dx fs))/\fs.lookup f=O v/\Q v H1
theorem BU{v:V}{u:J5}(r:RelV v u):handedOut u=pure u:=by
 cases v with
 |non=>obtain rfl:u=_:=r;rfl
 |bl b=>obtain rfl:u=_:=r;rfl
 |int i=>obtain⟨t,rfl⟩:∃t,u=_:=r;rfl
 |str x=>obtain⟨t,rfl⟩:∃t,u=_:=r;rfl
 |byt b=>obtain⟨t,rfl⟩:∃t,u=_:=r;rfl
 |flt b=>obtain⟨t,rfl⟩:∃t,u=_:=r;rfl
 |ref a=>obtain rfl:u=_:=r;rfl
 |ty n=>obtain rfl:u=_:=r;rfl
section
variable{X:Cx}{e:Ua}{f:Str}{pos:Pos}{ta:TE}{KC:J8->qz->Prop}
theorem EJ(hcls:∀C bm,KC C bm->∃fI,XCls (model X.prog X.w) X.base C bm fI)(hf:∀C bm,KC C bm->Ky (model X.prog X.w) C f qu X.base)(he:PE X e ta)(hb:attributeBase e f X.env (eval e X.env)=eval e X.env):PE X (.Attribute e f pos) (Lv KC ta f):=by
 intro pins s σ H Q I h;refine Eg hb (thn (he pins s σ H _ I h) λu s1 ⟨x,H1,I1,rx,a,C,bm,dx,fs,v,fr,ex,kc,hx,hd,hl,q⟩=>?_);subst ex;obtain rfl:u=Value.ref a:=rx;obtain⟨fI,XC⟩:=hcls C bm kc;obtain⟨nm,qn,N,bs,sn,sub,ab,col,dd1,k0,k1,k2,k3,k5,hC⟩:=XC.obj;obtain⟨⟨vs,sl,ga,_⟩,_,_⟩:=I1.hok a _ hx;obtain⟨⟨mA,hns,hex,hr,hwi⟩,_,_⟩:=I1.hok dx _ hd;have hne:dx≠a:=by rintro rfl;obtain⟨o,es,ep,g,d,_⟩:=hns;rw[ga]at g;cases g;cases d
 have hr':=hr f;rw[hl]at hr';cases hm:mA f with
 |none=>rw[hm]at hr';exact hr'.elim
 |some u=>rw[hm]at hr';have ru:RelV v u:=hr';obtain⟨hp,g,d,tk,os⟩:=s1;exact As PySem.F.excAttr_ValueError XC.tail qt (I1.bk _ _ hC) (XC.ga.keeps I1.bk) (XC.gh.keeps I1.bk) ((hf C bm kc).keeps I1.bk) ⟨_,ga,rfl,λ_ z=>(by cases z),.inr ⟨dx,rfl,hne,hns,hex⟩⟩ hm (BU ru) ⟨v,H1,I1.tok _,ru,q⟩
end
end L2
namespace L2
open PySem PySem.Spec
section
variable{prog:J7}{w:World}{A:Around}{E:J5->J6->Prop}{h:Heap}{g:Array GenState}{d:Drawn}{t:Nat}{os:OsState}{R:Result->J6->Prop}
variable{nm q:Str}{C N a:J8}{bs bm bmB:qz}{hdct:Bool}{sn:List Str}{sub:qz}{ab:Bool}{col:qH}{dd:qG}{k0 k1 k2 k3 k5:qC}{newId:String}{o:Obj}
theorem BS(T:Tail bmB bm)(ho:bmB.contains (.type "object")=qv)(hC:h.get? C=O (excClassObj nm q C N bs bm hdct sn sub ab col dd k0 k1 k2 k3 k5 newId))(hx:h.get? a=O o)(hc:o.cls=.ref C)(hq:R (.ok (.ret (.ref C))) ⟨h,g,d,t,os⟩) :
  codeAny (model prog w) A (.call (.builtin "getset_descriptor.__get__") ⟨[.builtin "object.__class__", .ref a,.ref C],[]⟩) R ⟨h,g,d,t,os⟩:=by
 have hT5:(⟨h,g,d,t,os⟩:J6).TypeIs (.builtin "object.__class__") "getset_descriptor" :=PySem.F.typeOf_object_class;have jo:(Value.ref C::bm).contains (.type (".".intercalate ("object.__class__".cutAt '.').dropLast))=qv:=by rw[PySem.F.owner_object_class,QQ,T _ _ ho];rfl
 refine Q6 PySem.F.slot_gs_get.plain PySem.F.entry_gs_get (PySem.F.slot_gs_get.check _ _ _ _ _ _ _ _ hT5 (PySem.F.args_gs_get _ _ _) ?_)
 repeat (any_goals (first|assumption|(with_reducible refine Qj hx ?_;rw[hc])|(with_reducible refine QE hC ?_;rw[jo])|wp_step))
 refine⟨Code.quiet_builtin _ (by decide +kernel),codeAny_builtin PySem.F.entry_object_class ?_⟩;unfold Builtin.«object.__class__»
 repeat (any_goals (first|assumption|(with_reducible refine Qj hx ?_;rw[hc])|wp_step))
theorem A2{tk:Tok}{Q:PySem.Fin->J6->Prop}(T:Tail bmB bm)(ho:bmB.contains (.type "object")=qv)(hC:h.get? C=O (excClassObj nm q C N bs bm hdct sn sub ab col dd k0 k1 k2 k3 k5 newId))(fc:Ky (model prog w) C "__class__" (O (.builtin "object.__class__")) h)(hx:h.get? a=O o)(hc:o.cls=.ref C)(hq:Q (.done (.ret (.ref C))) ⟨h,g,d,t,os⟩) :
  Uc (model prog w) A (Builtin.«object.__getattribute__» ⟨[.ref a,.str "__class__" tk],[]⟩) Q E ⟨h,g,d,t,os⟩:=by
 have hT5:(⟨h,g,d,t,os⟩:J6).TypeIs (.builtin "object.__class__") "getset_descriptor" :=PySem.F.typeOf_object_class;have f5:=PySem.F.typeOf_object_class;have f6:=PySem.F.slot_gs_get.lookup;have f7:=PySem.F.slot_gs_set.lookup
 repeat (any_goals (first|assumption|(with_reducible refine Qj hx ?_;rw[hc])|with_reducible refine fc.at ?_|wp_step))
 refine BS T ho hC hx hc ?_
 repeat (any_goals (first|assumption|wp_step))
theorem Mm{Q:qC->J6->Prop}(FB:ExcAttrFacts "ValueError")(T:Tail VB bm)(hC:h.get? C=O (excClassObj nm q C N bs bm hdct sn sub ab col dd k0 k1 k2 k3 k5 newId))(fc:Ky (model prog w) C "__class__" (O (.builtin "object.__class__")) h)
  (fg:Ky (model prog w) C "__getattribute__" (O (.builtin "BaseException.__getattribute__")) h) (fa:Ky (model prog w) C "__getattr__" none h) (hx:h.get? a=O o) (hc:o.cls=.ref C) (hq:Q (O (.ref C)) ⟨h,g,d,t+1,os⟩) :
  Uc (model prog w) A (getAttr? (.ref a) "__class__") Q E ⟨h,g,d,t,os⟩:=by
 have f3:=FB.ga.bind (.ref a);have hx0:(qw&&onTheHeap (Value.builtin "BaseException.__getattribute__"))=qw:=rfl;have hx2:(Value.builtin "BaseException.__getattribute__" == Value.builtin "object.__getattribute__")=qw:=by decide +kernel
 have hx1:(onTheHeap (Value.ref C)&&Value.builtin "BaseException.__getattribute__" == Value.builtin "object.__getattribute__")=qw:=by rw[hx2];rfl
 unfold getAttr? getAttrBy?;refine Qb (wpAny_mkText (Qb (wpAny_attempt ?_)))
 repeat (any_goals (first|assumption|(with_reducible refine Qj hx ?_;rw[hc])|with_reducible refine fg.at ?_|with_reducible refine fa.at ?_|wp_step))
 refine Q6 FB.ga.plain PySem.F.entry_bexc_ga (N3 T qt hC hx hc (A2 T qt hC fc hx hc ?_))
 repeat (any_goals (first|assumption|wp_step))
end
end L2
namespace L2
open PySem PySem.Spec PyProof.Rows
section
variable{prog:J7}{w:World}{A:Around}{E:J5->J6->Prop}{h:Heap}{g:Array GenState}{d:Drawn}{t:Nat}{os:OsState}
variable{nm q jD q':Str}{C N D N' a:J8}{bs bm bs' bm':qz}{hdct jz:Bool}{sn sn':List Str}{sub sub':qz}{ab ka:Bool}{col col':qH}{dd jj:qG}{k0 k1 k2 k3 k5 j0 j1 j2 j3 j5:qC}{newId newId':String}{o:Obj}{b:Bool}
theorem EI{Q:J5->J6->Prop}(T:Tail VB bm)(hC:h.get? C=O (excClassObj nm q C N bs bm hdct sn sub ab col dd k0 k1 k2 k3 k5 newId))(hD:h.get? D=O (excClassObj jD q' D N' bs' bm' jz sn' sub' ka col' jj j0 j1 j2 j3 j5 newId'))
  (fc:Ky (model prog w) C "__class__" (O (.builtin "object.__class__")) h) (fg:Ky (model prog w) C "__getattribute__" (O (.builtin "BaseException.__getattribute__")) h) (fa:Ky (model prog w) C "__getattr__" none h)
  (hx:h.get? a=O o) (hc:o.cls=.ref C) (hb:(Value.ref C::bm).contains (.ref D)=b) (hq:∀tk,Q (.bool b) ⟨h,g,d,tk,os⟩):Uc (model prog w) A (call (.builtin "isinstance") [.ref a,.ref D]) Q E ⟨h,g,d,t,os⟩:=by
 have hT:(⟨h,g,d,t,os⟩:J6).TypeIs (.ref D) "type" :=⟨_,hD,rfl⟩
 have f2:=tc_sub;refine call_isinstance_of ?_ (λz=>nomatch z);unfold Builtin.«isinstance.nested»;refine Qb ?_;unfold typeOf;refine Qb (Qj hx (Qh ?_));rw[hc];by_cases e:C=D
 .subst e
  have hb1:b=qv:=by rw[←hb];simp
  subst hb1;rw[if_pos (by simp)];exact Qb (wpAny_rule (Qh (hq t)))
 .rw[if_neg (by simp[e])]
  refine Qb (Qb (Qj hD (Qh ?_)));rw[Qo (show(Value.type "type" == Value.type "type")=qv by decide)]
  k_delta "plainIsInstance"
  unfold isType isInstance
  repeat (first|(with_reducible refine Qj hx ?_;rw[hc])|with_reducible refine Qj hD ?_|with_reducible refine Qj hC ?_|(with_reducible refine QE hC ?_;rw[hb])|wp_step)
  cases b with
  |true=>wp_walk;exact hq t
  |false=>
   rw[Qy (by decide)];refine Qb (Mm PySem.F.excAttr_ValueError T hC fc fg fa hx hc ?_)
   repeat (first|with_reducible refine Qj hC ?_|(with_reducible refine QE hC ?_;rw[hb])|wp_step)
   exact hq _
theorem GI{Q:J5->J6->Prop}{X:String}(T:Tail VB bm)(hC:h.get? C=O (excClassObj nm q C N bs bm hdct sn sub ab col dd k0 k1 k2 k3 k5 newId))(hX:typeOf (.type X)=pure (.type "type"))
  (fc:Ky (model prog w) C "__class__" (O (.builtin "object.__class__")) h) (fg:Ky (model prog w) C "__getattribute__" (O (.builtin "BaseException.__getattribute__")) h) (fa:Ky (model prog w) C "__getattr__" none h)
  (hx:h.get? a=O o) (hc:o.cls=.ref C) (hb:(Value.ref C::bm).contains (.type X)=b) (hq:∀tk,Q (.bool b) ⟨h,g,d,tk,os⟩):Uc (model prog w) A (call (.builtin "isinstance") [.ref a,.type X]) Q E ⟨h,g,d,t,os⟩:=by
 refine call_isinstance_of ?_ (λz=>nomatch z);unfold Builtin.«isinstance.nested»;refine Qb ?_;have ty:∀{M:Model}{A:Around}{Q:J5->J6->Prop}{E:J5->J6->Prop},Q (.ref C) ⟨h,g,d,t,os⟩->Uc M A (typeOf (.ref a)) Q E ⟨h,g,d,t,os⟩:=λq=>by unfold typeOf;refine Qb (Qj hx (Qh ?_));rw[hc];exact q
 refine ty ?_;rw[if_neg (by simp)];refine Qb (wpAny_of_eq hX ?_);rw[Qo (show(Value.type "type" == Value.type "type")=qv by decide)]
 k_delta "plainIsInstance"
 unfold isType isInstance
 repeat (first|(with_reducible refine Qj hx ?_;rw[hc])|with_reducible refine Qj hC ?_|(with_reducible refine QE hC ?_;rw[hb])|wp_step)
 cases b with
 |true=>wp_walk;exact hq t
 |false=>
  rw[Qy (by decide)];refine Qb (Mm PySem.F.excAttr_ValueError T hC fc fg fa hx hc ?_)
  repeat (first|with_reducible refine Qj hC ?_|(with_reducible refine QE hC ?_;rw[hb])|wp_step)
  exact hq _
end
def rIsX(KC:J8->qz->Prop):List V->Hp->VK->Prop:=λxs H Q=>∃a C dd bm fr c b,xs=[.ref a,c]/\KC C bm/\H a=O (.ext (XO fr a C dd)) /\
 ((∃D bm',c=.ref D/\KC D bm'/\(Value.ref C::bm).contains (.ref D)=b) ∨ ∃T,c=.ty T/\typeOf (.type T)=pure (.type "type")/\(Value.ref C::bm).contains (.type T)=b)/\Q (.bl b) H
theorem RB{X:Cx}{KC:J8->qz->Prop}(hcls:∀C bm,KC C bm->∃fI,XCls (model X.prog X.w) X.base C bm fI):ZM X (.builtin "isinstance") (rIsX KC):=by
 rintro pins s σ H xs us Q I r ⟨a,C,dd,bm,fr,c,b,rfl,kc,hx,hD,q⟩;cases r with
 |cons ra r=>
 cases r with
 |cons rc r=>
 cases r;have ra':_=Value.ref a:=ra;subst ra';obtain⟨fI,XC⟩:=hcls C bm kc;obtain⟨nm,qn,N,bs,sn,sub,ab,col,dd1,k0,k1,k2,k3,k5,hC⟩:=XC.obj;obtain⟨⟨vs,sl,ga,_⟩,_,_⟩:=I.hok a _ hx;obtain⟨hp,g,d,tk,os⟩:=s;rcases hD with ⟨D,bm',rfl,kd,hb⟩|⟨T,rfl,hT,hb⟩
 .have rc':_=Value.ref D:=rc
  subst rc';obtain⟨fI',XD'⟩:=hcls D bm' kd;obtain⟨jD,qn',N',bs',sn',sub',ka,col',dd2,j0,j1,j2,j3,j5,q9⟩:=XD'.obj;exact EI XC.tail (I.bk _ _ hC) (I.bk _ _ q9) (XC.cl.keeps I.bk) (XC.ga.keeps I.bk) (XC.gh.keeps I.bk) ga qt hb λtk'=>⟨.bl b,H,I.tok tk',rfl,q⟩
 .have rc':_=Value.type T:=rc
  subst rc';exact GI XC.tail (I.bk _ _ hC) hT (XC.cl.keeps I.bk) (XC.ga.keeps I.bk) (XC.gh.keeps I.bk) ga qt hb λtk'=>⟨.bl b,H,I.tok tk',rfl,q⟩
theorem C0{CX:CXT}{P:J7}{w:World}{K:Frag}{mg:Str->qC}{base:Heap}{N:List Str}{qual:Str}{scope:Scope}{f:J8}{cd:J5}{A:Around}{outer:List Env}{s:J6}{H:Hp}{E:XK} :
  PassesOwn (model P w) (KJ CX P w K mg base N qual scope f cd A outer s H E).A (KJ CX P w K mg base N qual scope f cd A outer s H E).env (KJ CX P w K mg base N qual scope f cd A outer s H E).xe:=
 PassesOwn.leaving (Q₁:=λe s''=>CX outer H s E e s'')
def VA(KC:J8->qz->Prop):Sp:=λvs H Q _=>∃a C dd bm x,vs=[.ref a,.str x]/\KC C bm/\H a=O (.ext (XO qv a C dd))/\Q .non H
def Sc(KC:J8->qz->Prop)(fs:List Str):Sp:=λvs H Q _=>∃a C bm us,vs=.ref a::us/\us.length=fs.length/\KC C bm/\H a=O (.ext (XO qv a C qu))/\(∀u∈us,∃y,FmtV u y/\y.length<=4000) /\
 ∀dx,H dx=qu->dx≠a->Q .non (upd (upd H a (.ext (XO qv a C (O dx)))) dx (.ext (XD dx (fs.zip us))))
def Zq(nm:Str):List Str:=if nm = "NoWishes" then ["part", "number"]else if nm = "NoAim" then ["part"]else if nm = "NoText" then ["row"]else []
def TM(K:Frag)(nm:Str):qG:=match PySem.W.nsIn K mainGlobals nm with|some (O (.ref C))=>O C|_=>qu
def NmAt(K:Frag)(nm:Str)(C:J8):Prop:=∃o cd,K.lookup C=O o/\o.data=.cls cd/\cd.name=nm
structure ClsK(K:Frag)(nm:Str)(C:J8)(bm:qz):Prop where
 ad:TM K nm=O C
 nmd:NmAt K nm C
 up:nm = "DealError" /\ bm=VB∨nm ≠ "DealError" /\ ∃D,TM K "DealError" = O D/\bm=.ref D::VB/\NmAt K "DealError" D
 cls:∀(M:Model)(h:Heap),K.In h->∃fI,XCls M h C bm fI
 fld:∀(M:Model)(h:Heap),K.In h->∀f∈(["part", "number", "row"]:List Str),Ky M C f qu h
def KC(K:Frag):J8->qz->Prop:=λC bm=>∃nm,ClsK K nm C bm
section
variable{K:Frag}{nm x:Str}{C D:J8}{bm bm':qz}
theorem NmAt.ne(c:NmAt K nm C)(d:NmAt K x D)(h:x≠nm):C≠D:=λe=>by subst e;obtain⟨o,cd,h1,h2,h3⟩:=c;obtain⟨o',cd',g1,g2,g3⟩:=d;rw[h1]at g1;cases g1;rw[h2]at g2;cases g2;exact h (g3.symm.trans h3)
theorem ClsK.has(c:ClsK K nm C bm)(d:ClsK K x D bm'):(Value.ref C::bm).contains (.ref D)=(decide (x=nm) || decide (x = "DealError")):=by
 by_cases e:x=nm
 .subst e
  have:=c.ad.symm.trans d.ad;cases this;simp
 .have ne:=c.nmd.ne d.nmd e
  rw[Qs e,JX];have h0:(Value.ref D==Value.ref C)=qw:=by simp[Ne.symm ne]
  rw[QQ,h0,JX];by_cases e2:x = "DealError"
  .subst e2
   rcases c.up with ⟨z,_⟩|⟨_,D',g,rfl,_⟩
   .exact absurd z.symm e
   .have:=g.symm.trans d.ad
    cases this;simp
  .rw[Qs e2]
   rcases c.up with ⟨_,rfl⟩|⟨_,D',g,rfl,n⟩
   .rfl
   .have ne2:=n.ne d.nmd e2
    have h1:(Value.ref D==Value.ref D')=qw:=by simp[Ne.symm ne2]
    rw[QQ,h1,JX];rfl
theorem ClsK.ty(c:ClsK K nm C bm)(T:String):(Value.ref C::bm).contains (.type T)=VB.contains (.type T):=by
 rcases c.up with ⟨_,rfl⟩|⟨_,D',g,rfl,n⟩
 .rfl
 .rfl
end
section
variable{X:Cx}{e:Ua}{st:Stmt}{sts:List Stmt}{t:TE}{ts:TS}
theorem PE.kin(h:X.K.In X.base->PE X e t):PE X e t:=λpins s σ H Q I q=>h I.ok.mod.kin pins s σ H Q I q
theorem PS.kin(h:X.K.In X.base->PS X st ts):PS X st ts:=λpins s σ H Q I q=>h I.ok.mod.kin pins s σ H Q I q
theorem PSs.kin(h:X.K.In X.base->PSs X sts ts):PSs X sts ts:=λpins s σ H Q I q=>h I.ok.mod.kin pins s σ H Q I q
theorem Xv(k:X.K.In X.base):∀C bm,KC X.K C bm->∃fI,XCls (model X.prog X.w) X.base C bm fI:=λ_ _ ⟨_,c⟩=>c.cls _ _ k
end
def Pw(nm:Str)(us:List V):Prop:=(Zq nm=[]/\∃x,us=[.str x])∨(Zq nm≠[]/\us.length=(Zq nm).length/\∀u∈us,∃y,FmtV u y/\y.length<=4000)
def Pv(nm:Str)(C a:J8)(us:List V)(H:Hp)(dd:qG)(H':Hp):Prop:=
 (Zq nm=[]/\dd=qu/\H'=H)∨(Zq nm≠[]/\us.length=(Zq nm).length/\∃dx,dd=O dx/\H dx=qu/\dx≠a/\H'=upd (upd H a (.ext (XO qv a C (O dx)))) dx (.ext (XD dx ((Zq nm).zip us))))
def Oe(K:Frag)(nm:Str)(C:J8)(sp:Sp):Prop:=∀a us H Q,H a=O (.ext (XO qv a C qu))->Pw nm us->(∀dd H',Pv nm C a us H dd H'->Q .non H')->sp (.ref a::us) H Q E0
def MkX(P:J7)(w:World)(K:Frag)(mg:Str->qC)(base:Heap)(nm:Str)(k:Nat):Prop:=
 ∃C bm f fd ps sp,mg nm=O (.ref C)/\PySem.W.keepIn K (.ref C)=qv/\ClsK K nm C bm/\(∀(M:Model)(h:Heap),K.In h->XCls M h C bm f)/\FnOk P w K mg base CX0 k f fd ps sp/\ZL K fd ps []/\Oe K nm C sp
theorem D9{K:Frag}{nm:Str}{C:J8}{bm:qz}(c:ClsK K nm C bm)(hf:Zq nm≠[]):Oe K nm C (Sc (KC K) (Zq nm)):=λa us H Q h ar q=>by
 rcases ar with ⟨z,_⟩|⟨_,hl,hu⟩
 .exact absurd z hf
 .exact⟨a,C,bm,us,rfl,hl,⟨nm,c⟩,h,hu,λdx hd hne=>q (O dx) _ (.inr ⟨hf,hl,dx,rfl,hd,hne,rfl⟩)⟩
end L2
namespace DL
open PySem PySem.Spec L2
open PyProof.Rows hiding St
abbrev D:=PyData
abbrev qx:=List D
abbrev qB:=Option D
abbrev XW:=V->St->Hp->Prop
abbrev KX0:XW:=λ_ _ _=>False
def XFs(G:Hp)(dd:qG)(fs:List Str)(vs:List V):Prop:=match dd with
 |none=>fs=[]/\vs=[]
 |some dx=>fs.length=vs.length/\G dx=O (.ext (XD dx (fs.zip vs)))
theorem XFs.mono{G G1:Hp}{dd:qG}{fs:List Str}{vs:List V}(e:Same G G1)(h:XFs G dd fs vs):XFs G1 dd fs vs:=by
 cases dd with
 |none=>exact h
 |some dx=>exact⟨h.1,e _ _ h.2⟩
def kD:Key->D
 |.inl i=>.int i
 |.inr x=>.str x
def tkD(k:List Key):D:=.tuple (k.map kD)
def pdD(ks:List (List Key))(ds:qx):List (D×D):=(.bool qv,.none)::(ks.map tkD).zip ds
mutual
inductive Rep(K:Frag)(G:Hp):V->D->Prop where
 |non:Rep K G .non .none
 |bl (b:Bool):Rep K G (.bl b) (.bool b)
 |int (i:Int):Rep K G (.int i) (.int i)
 |str (x:Str):Rep K G (.str x) (.str x)
 |lst {a:J8} {vs:List V} {ds:qx} (h:SqL K G a vs) (r:Reps K G vs ds):Rep K G (.ref a) (.list ds)
 |tup {a:J8} {vs:List V} {ds:qx} (h:SqT K G a vs) (r:Reps K G vs ds):Rep K G (.ref a) (.tuple ds)
 |dic {a:J8} (h:G a=O (.dK [])):Rep K G (.ref a) (.dict [])
 |exc {a C:J8} {dd:qG} {bm:qz} {nm:Str} {vs:List V} {ds:qx} (c:ClsK K nm C bm) (h:G a=O (.ext (XO qw a C dd))) (hd:XFs G dd (Zq nm) vs) (r:Reps K G vs ds):Rep K G (.ref a) (.dict [(.none,.tuple [.str nm,.list ds])])
 |dct {a:J8} {ks:List Key} {vs:List V} {ds:qx} {kvs:List (D×D)} (e:kvs=(ks.map kD).zip ds) (hne:ks≠[]) (hl:ks.length=ds.length) (h:G a=O (.dK (ks.zip vs))) (r:Reps K G vs ds):Rep K G (.ref a) (.dict kvs)
 |dtt {a:J8} {o:Obj} {ks:List (List Key)} {vs:List V} {ds:qx} {kvs:List (D×D)} (e:kvs=pdD ks ds) (hl:ks.length=ds.length) (h:G a=O (.frz o (.dT (ks.zip vs)))) (r:Reps K G vs ds):Rep K G (.ref a) (.dict kvs)
inductive Reps(K:Frag)(G:Hp):List V->qx->Prop where
 |nil:Reps K G [] []
 |cons {v:V} {d:D} {vs:List V} {ds:qx} (h:Rep K G v d) (t:Reps K G vs ds):Reps K G (v::vs) (d::ds)
end
variable{K:Frag}{B G0 G G1 G2 H H1 H2:Hp}
theorem Yb{a:J8}{xs:List V}(e:Same G G1)(h:SqT K G a xs):SqT K G1 a xs:=by
 rcases h with (h|⟨o,h⟩)|h
 .exact .inl (.inl (e _ _ h))
 .exact .inl (.inr ⟨o,e _ _ h⟩)
 .exact .inr h
theorem Rep.mono(e:Same G G1){v:V}{d:D}(r:Rep K G v d):Rep K G1 v d:=Rep.rec (motive_1:=λv d _=>Rep K G1 v d) (motive_2:=λvs ds _=>Reps K G1 vs ds) .non .bl .int .str (λh _ r=>.lst (e.seq h) r) (λh _ r=>.tup (Yb e h) r) (λh=>.dic (e _ _ h)) (λc h hd _ r=>.exc c (e _ _ h) (hd.mono e) r) (λz n l h _ r=>.dct z n l (e _ _ h) r) (λz l h _ r=>.dtt z l (e _ _ h) r) .nil (λ_ _=>.cons) r
theorem Reps.mono(e:Same G G1){vs:List V}{ds:qx}(r:Reps K G vs ds):Reps K G1 vs ds:=Reps.rec (motive_1:=λv d _=>Rep K G1 v d) (motive_2:=λvs ds _=>Reps K G1 vs ds) .non .bl .int .str (λh _ r=>.lst (e.seq h) r) (λh _ r=>.tup (Yb e h) r) (λh=>.dic (e _ _ h)) (λc h hd _ r=>.exc c (e _ _ h) (hd.mono e) r) (λz n l h _ r=>.dct z n l (e _ _ h) r) (λz l h _ r=>.dtt z l (e _ _ h) r) .nil (λ_ _=>.cons) r
theorem CZ{ks:List Key}{ds:qx}{d:D}{r:List (D×D)}(e:(.none,d)::r=(ks.map kD).zip ds):False:=by
 cases ks with
 |nil=>cases e
 |cons k ks=>
  cases ds with
  |nil=>cases e
  |cons d ds=>
   rw[QG,List.zip_cons_cons]at e;injection e with e1 _;injection e1 with e2 _
   cases k<;>cases e2
section
variable{v:V}{vs ws:List V}{ds es:qx}
theorem Rep.bl_inv{b:Bool}(h:Rep K G v (.bool b)):v=.bl b:=by cases h;rfl
theorem Rep.int_inv{i:Int}(h:Rep K G v (.int i)):v=.int i:=by cases h;rfl
theorem Rep.str_inv{x:Str}(h:Rep K G v (.str x)):v=.str x:=by cases h;rfl
theorem Rep.lst_inv(h:Rep K G v (.list ds)):∃a vs,v=.ref a/\SqL K G a vs/\Reps K G vs ds:=by
 cases h with
 |lst h r=>exact⟨_,_,rfl,h,r⟩
theorem Rep.tup_inv(h:Rep K G v (.tuple ds)):∃a vs,v=.ref a/\SqT K G a vs/\Reps K G vs ds:=by
 cases h with
 |tup h r=>exact⟨_,_,rfl,h,r⟩
theorem Rep.exc_inv{d:D}(h:Rep K G v (.dict [(.none,d)])):∃a C dd bm nm vs ds,v=.ref a/\d=.tuple [.str nm,.list ds]/\ClsK K nm C bm/\G a=O (.ext (XO qw a C dd))/\XFs G dd (Zq nm) vs/\Reps K G vs ds:=by
 cases h with
 |exc c h hd r=>exact⟨_,_,_,_,_,_,_,rfl,rfl,c,h,hd,r⟩
 |dct e _ _ _ _=>exact(CZ e).elim
 |dtt e _ _ _=>exact nomatch (Prod.mk.inj (List.cons.inj e).1).1
theorem Reps.length:∀{vs:List V}{ds:qx},Reps K G vs ds->vs.length=ds.length
 |_,_,.nil=>rfl
 |_,_,.cons _ t=>by rw[QC,QC,Reps.length t]
theorem Reps.get:∀{vs:List V}{ds:qx}{i:Nat}{d:D},Reps K G vs ds->ds[i]?=O d->∃v,vs[i]?=O v/\Rep K G v d
 |_,_,_,_,.nil,e=>by simp at e
 |_,_,0,_,.cons h _,e=>by simp at e;subst e;exact⟨_,rfl,h⟩
 |_,_,i+1,d,.cons _ t,e=>by obtain⟨u,h1,h2⟩:=Reps.get (i:=i) (d:=d) t (by simpa using e);exact⟨u,by simpa using h1,h2⟩
theorem Reps.append:∀{vs ws:List V}{ds es:qx},Reps K G vs ds->Reps K G ws es->Reps K G (vs++ws) (ds++es)
 |_,_,_,_,.nil,s=>s
 |_,_,_,_,.cons r t,s=>.cons r (Reps.append t s)
theorem Reps.take:∀{vs:List V}{ds:qx}(n:Nat),Reps K G vs ds->Reps K G (vs.take n) (ds.take n)
 |_,_,0,_=>by rw[List.take_zero,List.take_zero];exact .nil
 |_,_,_+1,.nil=>.nil
 |_,_,n+1,.cons r t=>.cons r (Reps.take n t)
theorem Reps.drop:∀{vs:List V}{ds:qx}(n:Nat),Reps K G vs ds->Reps K G (vs.drop n) (ds.drop n)
 |_,_,0,r=>r
 |_,_,_+1,.nil=>.nil
 |_,_,n+1,.cons _ t=>Reps.drop n t
theorem Reps.reverse:∀{vs:List V}{ds:qx},Reps K G vs ds->Reps K G vs.reverse ds.reverse
 |_,_,.nil=>.nil
 |_,_,.cons r t=>by rw[List.reverse_cons,List.reverse_cons];exact Reps.append (Reps.reverse t) (.cons r .nil)
theorem Reps.set{v:V}{d:D}(r:Rep K G v d):∀{vs:List V}{ds:qx}(i:Nat),Reps K G vs ds->Reps K G (vs.set i v) (ds.set i d)
 |_,_,_,.nil=>.nil
 |_,_,0,.cons _ t=>.cons r t
 |_,_,i+1,.cons q t=>.cons q (Reps.set r i t)
theorem Reps.ints:∀(ns:qy),Reps K G (ns.map V.int) (ns.map int)
 |[]=>.nil
 |n::ns=>.cons (.int n) (Reps.ints ns)
end
inductive MO where
 |l (vs:List V)|k (kvs:List (Key×V))|t (kvs:List (List Key×V))|s (S:Int->Bool) (n:Nat)
def MO.ho:MO->HO
 |.l vs=>.lst vs
 |.k kvs=>.dK kvs
 |.t kvs=>.dT kvs
 |.s S n=>.set S n
structure Ext(G H G' H':Hp):Prop where
 h:Same H H'
 g:Same G G'
 gh:Same G' H'
 np:∀a(u:MO),H a=O u.ho->G a=qu->G' a=qu
theorem Ext.refl(e:Same G H):Ext G H G H:=⟨.refl _,.refl _,e,λ_ _ _ q=>q⟩
theorem Ext.trans{G' H' G'' H'':Hp}(a:Ext G H G' H')(b:Ext G' H' G'' H''):Ext G H G'' H'':=
 ⟨a.h.trans b.h,a.g.trans b.g,b.gh,λx o e q=>b.np x o (a.h x _ e) (a.np x o e q)⟩
theorem KW{p:J8}{o:HO}(h:H p=qu):Same H (upd H p o):=λb u e=>by rw[U4 (Yj e h)];exact e
theorem Ext.new{p:J8}{o:HO}(e:Same G H)(h:H p=qu):Ext G H (upd G p o) (upd H p o):=by
 have hg:G p=qu:=e.free h;refine⟨KW h,KW hg,λb u q=>?_,λa u q n=>?_⟩
 .by_cases z:b=p
  .subst z;rw[Kh]at q⊢;exact q
  .rw[U4 z]at q⊢;exact e b u q
 .rw[U4 (Yj q h)];exact n
theorem Ext.hid{p:J8}{o:HO}(e:Same G H)(h:H p=qu):Ext G H G (upd H p o):=
 ⟨KW h,.refl _,e.trans (KW h),λ_ _ _ n=>n⟩
inductive Pat where
 |leaf|lst (p:Pat)|tup (ps:List Pat)|dic
mutual
inductive RepO(K:Frag)(G H:Hp):Pat->V->D->qF->Prop where
 |leaf {v:V} {d:D} (r:Rep K G v d):RepO K G H .leaf v d []
 |lst {p:Pat} {a:J8} {vs:List V} {ds:qx} {fp:qF} (h:H a=O (.lst vs)) (r:RepOl K G H p vs ds fp):RepO K G H (.lst p) (.ref a) (.list ds) (a::fp)
 |tup {ps:List Pat} {a:J8} {vs:List V} {ds:qx} {fp:qF} (h:H a=O (.tup vs)) (r:RepOs K G H ps vs ds fp):RepO K G H (.tup ps) (.ref a) (.tuple ds) fp
 |dic {a:J8} {ks:List Key} {vs:List V} {ds:qx} {kvs:List (D×D)} (e:kvs=(ks.map kD).zip ds) (hl:ks.length=ds.length) (h:H a=O (.dK (ks.zip vs))) (r:Reps K G vs ds):RepO K G H .dic (.ref a) (.dict kvs) [a]
inductive RepOl(K:Frag)(G H:Hp):Pat->List V->qx->qF->Prop where
 |nil {p:Pat}:RepOl K G H p [] [] []
 |cons {p:Pat} {v:V} {d:D} {vs:List V} {ds:qx} {f1 f2:qF} (h:RepO K G H p v d f1) (t:RepOl K G H p vs ds f2):RepOl K G H p (v::vs) (d::ds) (f1++f2)
inductive RepOs(K:Frag)(G H:Hp):List Pat->List V->qx->qF->Prop where
 |nil:RepOs K G H [] [] [] []
 |cons {p:Pat} {ps:List Pat} {v:V} {d:D} {vs:List V} {ds:qx} {f1 f2:qF} (h:RepO K G H p v d f1) (t:RepOs K G H ps vs ds f2):RepOs K G H (p::ps) (v::vs) (d::ds) (f1++f2)
end
def YO(K:Frag)(G H:Hp)(M1:Pat->V->D->qF->Prop)(M2:Pat->List V->qx->qF->Prop)(M3:List Pat->List V->qx->qF->Prop):Prop:=
 (∀{p v d fp},RepO K G H p v d fp->M1 p v d fp)/\(∀{p vs ds fp},RepOl K G H p vs ds fp->M2 p vs ds fp)/\∀{ps vs ds fp},RepOs K G H ps vs ds fp->M3 ps vs ds fp
theorem RepO.ind3{M1:Pat->V->D->qF->Prop}{M2:Pat->List V->qx->qF->Prop}{M3:List Pat->List V->qx->qF->Prop}
  (c1:∀{v d},Rep K G v d->M1 .leaf v d []) (c2:∀{p a vs ds fp},H a=O (.lst vs)->M2 p vs ds fp->M1 (.lst p) (.ref a) (.list ds) (a::fp)) (c3:∀{ps a vs ds fp},H a=O (.tup vs)->M3 ps vs ds fp->M1 (.tup ps) (.ref a) (.tuple ds) fp)
  (c4:∀{a:J8}{ks:List Key}{vs:List V}{ds:qx}{kvs:List (D×D)},kvs=(ks.map kD).zip ds->ks.length=ds.length->H a=O (.dK (ks.zip vs))->Reps K G vs ds->M1 .dic (.ref a) (.dict kvs) [a])
  (c5:∀{p},M2 p [] [] []) (c6:∀{p v d vs ds f1 f2},M1 p v d f1->M2 p vs ds f2->M2 p (v::vs) (d::ds) (f1++f2)) (c7:M3 [] [] [] []) (c8:∀{p ps v d vs ds f1 f2},M1 p v d f1->M3 ps vs ds f2->M3 (p::ps) (v::vs) (d::ds) (f1++f2)) :
  YO K G H M1 M2 M3:=
 ⟨λh=>RepO.rec (motive_1:=λp v d fp _=>M1 p v d fp) (motive_2:=λp v d fp _=>M2 p v d fp) (motive_3:=λp v d fp _=>M3 p v d fp) c1 (λh _=>c2 h) (λh _=>c3 h) c4 c5 (λ_ _=>c6) c7 (λ_ _=>c8) h,
  λh=>RepOl.rec (motive_1:=λp v d fp _=>M1 p v d fp) (motive_2:=λp v d fp _=>M2 p v d fp) (motive_3:=λp v d fp _=>M3 p v d fp) c1 (λh _=>c2 h) (λh _=>c3 h) c4 c5 (λ_ _=>c6) c7 (λ_ _=>c8) h,
  λh=>RepOs.rec (motive_1:=λp v d fp _=>M1 p v d fp) (motive_2:=λp v d fp _=>M2 p v d fp) (motive_3:=λp v d fp _=>M3 p v d fp) c1 (λh _=>c2 h) (λh _=>c3 h) c4 c5 (λ_ _=>c6) c7 (λ_ _=>c8) h⟩
theorem RepO.mono3(sg:Same G G1)(sh:Same H H1):YO K G H (RepO K G1 H1) (RepOl K G1 H1) (RepOs K G1 H1):=
 RepO.ind3 (λr=>.leaf (r.mono sg)) (λh r=>.lst (sh _ _ h) r) (λh r=>.tup (sh _ _ h) r) (λe hl h r=>.dic e hl (sh _ _ h) (r.mono sg)) .nil .cons .nil .cons
theorem RepO.mono(sg:Same G G1)(sh:Same H H1){p:Pat}{v:V}{d:D}{fp:qF}(r:RepO K G H p v d fp):RepO K G1 H1 p v d fp:=(RepO.mono3 sg sh).1 r
theorem RepO.upd3{a:J8}{o:HO}(nt:∀vs,H a≠O (.tup vs)):YO K G H (λp v d fp=>a∉fp->RepO K G (upd H a o) p v d fp) (λp v d fp=>a∉fp->RepOl K G (upd H a o) p v d fp) (λp v d fp=>a∉fp->RepOs K G (upd H a o) p v d fp):=
 RepO.ind3
 (λr _=>.leaf r) (λh r n=>.lst (by rw[U4 (λz=>n (by rw[z];exact Qp))];exact h) (r λz=>n (Qu _ z))) (λh r n=>.tup (by rw[U4 (λz=>by subst z;exact nt _ h)];exact h) (r n))
 (λe hl h r n=>.dic e hl (by rw[U4 (λz=>n (by rw[z];exact Qp))];exact h) r) (λ_=>.nil) (λh t n=>.cons (h λz=>n (Jv _ z)) (t λz=>n (QD _ z))) (λ_=>.nil) (λh t n=>.cons (h λz=>n (Jv _ z)) (t λz=>n (QD _ z)))
theorem RepO.upd{a:J8}{o:HO}(nt:∀vs,H a≠O (.tup vs)){p:Pat}{v:V}{d:D}{fp:qF}(r:RepO K G H p v d fp)(n:a∉fp):RepO K G (upd H a o) p v d fp:=(RepO.upd3 nt).1 r n
theorem RepO.rep3(gh:Same G H):YO K G H (λ_ v d _=>Rep K H v d) (λ_ v d _=>Reps K H v d) (λ_ v d _=>Reps K H v d):=
 RepO.ind3 (λr=>r.mono gh) (λh r=>.lst (SqL.of h) r) (λh r=>.tup (SqT.of h) r)
 (λ{a ks vs ds kvs} e hl h r=>by
  cases ks with
  |nil=>subst e;exact .dic h
  |cons k ks=>exact .dct e (λz=>by cases z) hl h (r.mono gh)) .nil .cons .nil .cons
theorem RepO.rep(gh:Same G H){p:Pat}{v:V}{d:D}{fp:qF}(r:RepO K G H p v d fp):Rep K H v d:=(RepO.rep3 gh).1 r
theorem RepO.isl3:YO K G H (λ_ _ _ fp=>∀a∈fp,∃u:MO,H a=O u.ho) (λ_ _ _ fp=>∀a∈fp,∃u:MO,H a=O u.ho) (λ_ _ _ fp=>∀a∈fp,∃u:MO,H a=O u.ho):=
 RepO.ind3 (λ_ a m=>by cases m)
 (λh r b m=>(QL.mp m).elim (λe=>⟨.l _,e ▸ h⟩) (r b)) (λ_ r=>r) (λ_ _ h _ b m=>⟨.k _,QW.mp m ▸ h⟩) (λa m=>by cases m) (λh t b m=>(Jg.mp m).elim (h b) (t b)) (λa m=>by cases m) (λh t b m=>(Jg.mp m).elim (h b) (t b))
theorem RepO.isl{p:Pat}{v:V}{d:D}{fp:qF}(r:RepO K G H p v d fp):∀a∈fp,∃u:MO,H a=O u.ho:=RepO.isl3.1 r
theorem RepO.uniq3(sh:Same H H1):YO K G H (λp v _ fp=>∀d' fp',RepO K G1 H1 p v d' fp'->fp=fp') (λp v _ fp=>∀d' fp',RepOl K G1 H1 p v d' fp'->fp=fp') (λp v _ fp=>∀d' fp',RepOs K G1 H1 p v d' fp'->fp=fp'):=
 RepO.ind3
 (λ_ d' fp' h=>by cases h;rfl)
 (λh r d' fp' h'=>by
  cases h' with
  |lst h2 r2=>have e:=sh _ _ h;rw[h2]at e;cases e;rw[r _ _ r2])
 (λh r d' fp' h'=>by
  cases h' with
  |tup h2 r2=>have e:=sh _ _ h;rw[h2]at e;cases e;exact r _ _ r2)
 (λ_ _ _ _ d' fp' h=>by cases h;rfl) (λd' fp' h=>by cases h;rfl)
 (λh t d' fp' h'=>by
  cases h' with
  |cons h2 t2=>rw[h _ _ h2,t _ _ t2])
 (λd' fp' h=>by cases h;rfl)
 (λh t d' fp' h'=>by
  cases h' with
  |cons h2 t2=>rw[h _ _ h2,t _ _ t2])
theorem RepO.uniq(sh:Same H H1){p:Pat}{v:V}{d d':D}{fp fp':qF}(r:RepO K G H p v d fp)(r':RepO K G1 H1 p v d' fp'):fp=fp':=(RepO.uniq3 sh).1 r _ _ r'
inductive Sl where
 |pub (d:D)|own (ds:qx)|deep (p:Pat) (d:D)
abbrev Uw:=List (Option Sl)
abbrev qE:=Option Uw
def DpOk(K:Frag)(B G H:Hp)(σ:St)(Z:Uw):Prop:=∃ω:J8->Nat,
 (∀(i:Nat) p d,Z[i]?=O (O (.deep p d))->∃v fp,σ[i]?=O (O v)/\RepO K G H p v d fp/\fp.Nodup/\∀a∈fp,B a=qu/\G a=qu/\ω a=i) /\
 (∀(i:Nat) ds a,Z[i]?=O (O (.own ds))->σ[i]?=O (O (.ref a))->ω a=i)
theorem DpOk.of{σ:St}{Z:Uw}(h1:∀(i:Nat) p d,Z[i]?=O (O (.deep p d))->False)(h2:∀(i:Nat) ds,Z[i]?=O (O (.own ds))->False):DpOk K B G H σ Z:=
 ⟨λ_=>0,λi p d q=>(h1 i p d q).elim,λi ds a q=>(h2 i ds q).elim⟩
theorem DpOk.map{B1:Hp}{σ σ1:St}{Z Z1:Uw}(k:DpOk K B G H σ Z)
  (h1:∀(i:Nat) p d,Z1[i]?=O (O (.deep p d))->Z[i]?=O (O (.deep p d))/\σ1[i]?=σ[i]?)
  (h2:∀(i:Nat) ds,Z1[i]?=O (O (.own ds))->∃es,Z[i]?=O (O (.own es))/\σ1[i]?=σ[i]?)
  (h3:∀(i:Nat) p d v fp,Z[i]?=O (O (.deep p d))->σ[i]?=O (O v)->RepO K G H p v d fp->(∀a∈fp,B a=qu/\G a=qu)->(∀(j:Nat) ds a,Z[j]?=O (O (.own ds))->σ[j]?=O (O (.ref a))->a∉fp)->RepO K G1 H1 p v d fp/\∀a∈fp,B1 a=qu/\G1 a=qu):DpOk K B1 G1 H1 σ1 Z1:=by
 obtain⟨ω,k1,k2⟩:=k;refine⟨ω,λi p d q=>?_,λi ds a q s=>?_⟩
 .obtain⟨q1,e1⟩:=h1 i p d q
  obtain⟨v,fp,s,r,n,w⟩:=k1 i p d q1;obtain⟨r1,w1⟩:=h3 i p d v fp q1 s r (λa m=>⟨(w a m).1,(w a m).2.1⟩) λj ds a qj sj m=>by have z1:=k2 j ds a qj sj;have z2:=(w a m).2.2;rw[z1]at z2;subst z2;rw[q1]at qj;cases qj
  exact⟨v,fp,by rw[e1];exact s,r1,n,λa m=>⟨(w1 a m).1,(w1 a m).2,(w a m).2.2⟩⟩
 .obtain⟨es,q1,e1⟩:=h2 i ds q
  rw[e1]at s;exact k2 i es a q1 s
structure EOk(K:Frag)(B G0 G H:Hp)(σ:St)(Z:Uw):Prop where
 bh:Same B H
 gh:Same G H
 g0:Same G0 G
 np:∀a(u:MO),B a=O u.ho->G0 a=qu->G a=qu
 len:Z.length=σ.length
 pub:∀(i:Nat) d,Z[i]?=O (O (.pub d))->∃v,σ[i]?=O (O v)/\Rep K G v d
 own:∀(i:Nat) ds,Z[i]?=O (O (.own ds))->∃a vs,σ[i]?=O (O (.ref a))/\B a=qu/\G a=qu/\H a=O (.lst vs)/\Reps K G vs ds
 sep:∀(i j:Nat) a ds es,Z[i]?=O (O (.own ds))->Z[j]?=O (O (.own es))->σ[i]?=O (O (.ref a))->σ[j]?=O (O (.ref a))->i=j
 dp:DpOk K B G H σ Z
theorem EOk.ext{G' H':Hp}{σ:St}{Z:Uw}(k:EOk K B G0 G H σ Z)(e:Ext G H G' H'):EOk K B G0 G' H' σ Z where
 bh:=k.bh.trans e.h
 gh:=e.gh
 g0:=k.g0.trans e.g
 np:=λa o q n=>e.np a o (k.bh a _ q) (k.np a o q n)
 len:=k.len
 pub:=λi d q=>let ⟨v,h1,h2⟩:=k.pub i d q;⟨v,h1,h2.mono e.g⟩
 own:=λi ds q=>let ⟨a,vs,h1,h2,h3,h4,h5⟩:=k.own i ds q;⟨a,vs,h1,h2,e.np a (.l _) h4 h3,e.h a _ h4,h5.mono e.g⟩
 sep:=k.sep
 dp:=k.dp.map (λ_ _ _ q=>⟨q,rfl⟩) (λ_ ds q=>⟨ds,q,rfl⟩) λi p d v fp q s r w n=>⟨r.mono e.g e.h,λa m=>let ⟨_,hl⟩:=r.isl a m;⟨(w a m).1,e.np a _ hl (w a m).2⟩⟩
theorem EOk.publish{σ:St}{Z:Uw}{i:Nat}{ds:qx}(k:EOk K B G0 G H σ Z)(h:Z[i]?=O (O (.own ds))) :
  ∃a G',σ[i]?=O (O (.ref a))/\Same G G'/\Rep K G' (.ref a) (.list ds)/\EOk K B G0 G' H σ (Z.set i (O (.pub (.list ds)))):=by
 obtain⟨a,vs,h1,h2,h3,h4,h5⟩:=k.own i ds h;have sg:Same G (upd G a (.lst vs)):=KW h3;have hr:Rep K (upd G a (.lst vs)) (.ref a) (.list ds):=.lst (SqL.of Kh) (h5.mono sg);refine⟨a,upd G a (.lst vs),h1,sg,hr,⟨k.bh,λb u q=>?_,k.g0.trans sg,λb o q n=>?_,by rw[Jb];exact k.len,λj d q=>?_,λj es q=>?_,λj l c es fs q1 q2 s1 s2=>?_,?_⟩⟩
 .by_cases z:b=a
  .subst z;rw[Kh]at q;cases q;exact h4
  .rw[U4 z]at q;exact k.gh b u q
 .have z:b≠a:=λz=>by subst z;rw[h2]at q;cases q
  rw[U4 z];exact k.np b o q n
 .by_cases z:i=j
  .subst z
   have hl:i<Z.length:=(Ql.mp h).1;rw[QI hl]at q;cases q;exact⟨.ref a,h1,hr⟩
  .rw[Qn z]at q
   obtain⟨v,g1,g2⟩:=k.pub j d q;exact⟨v,g1,g2.mono sg⟩
 .by_cases z:i=j
  .subst z
   have hl:i<Z.length:=(Ql.mp h).1;rw[QI hl]at q;cases q
  .rw[Qn z]at q
   obtain⟨b,ws,g1,g2,g3,g4,g5⟩:=k.own j es q;have zb:b≠a:=λe=>z (k.sep i j a ds es h q h1 (by rw[←e];exact g1))
   exact⟨b,ws,g1,g2,by rw[U4 zb];exact g3,g4,g5.mono sg⟩
 .have nz:∀{m:Nat}{ts:qx},(Z.set i (O (Sl.pub (.list ds))))[m]?=O (O (.own ts))->Z[m]?=O (O (.own ts)):=λ{m ts} q=>by
   by_cases z:i=m
   .subst z
    have hl:i<Z.length:=(Ql.mp h).1;rw[QI hl]at q;cases q
   .rw[Qn z]at q;exact q
  exact k.sep j l c es fs (nz q1) (nz q2) s1 s2
 .have hl:i<Z.length:=(Ql.mp h).1
  have nz:∀{m:Nat}{s:Sl},(Z.set i (O (Sl.pub (.list ds))))[m]?=O (O s)->(∃d,s=.pub d)∨Z[m]?=O (O s):=λ{m s} q=>by
   by_cases z:i=m
   .subst z
    rw[QI hl]at q;cases q;exact .inl ⟨_,rfl⟩
   .rw[Qn z]at q;exact .inr q
  refine k.dp.map (λm p d q=>?_) (λm es q=>?_) λm p d v fp q s r w n=>⟨r.mono sg (.refl _),λb mb=>⟨(w b mb).1,?_⟩⟩
  .rcases nz q with ⟨_,e⟩|q
   .cases e
   .exact⟨q,rfl⟩
  .rcases nz q with ⟨_,e⟩|q
   .cases e
   .exact⟨es,q,rfl⟩
  .rw[U4 (λz=>by subst z;exact n i ds b h h1 mb)];exact(w b mb).2
inductive Res(α:Type) where
 |ok (a:α) (Z:Uw)|bad
abbrev M(α:Type):=Uw->Res α
def UA{α:Type}(a:α):M α:=λZ=>.ok a Z
def UG{α:Type}(o:Option α):M α:=λZ=>match o with|some a=>.ok a Z|none=>.bad
def UH{α β:Type}(f:M α)(k:α->M β):M β:=λZ=>match f Z with | .ok a Z'=>k a Z' | .bad=>.bad
section
variable(K:Frag)(B G0:Hp)
def aft{α γ:Type}(R:Hp->γ->α->Prop)(r:Res α)(G:Hp)(σ:St)(Q:γ->Hp->Prop):Prop:=
 match r with
 |.ok d Z'=>∀v G' H',EOk K B G0 G' H' σ Z'->Same G G'->R G' v d->Q v H'
 |.bad=>False
def tM{α γ:Type}(R:Hp->γ->α->Prop)(f:M α):St->Hp->(γ->Hp->Prop)->Prop:=λσ H Q=>
 ∃G Z,EOk K B G0 G H σ Z/\aft K B G0 R (f Z) G σ Q
abbrev tD(f:M D):TE:=tM K B G0 (Rep K) f
abbrev tDs(f:M qx):TA:=tM K B G0 (Reps K) f
abbrev tBo(f:M Bool):TT:=tM K B G0 (λ_ b c=>b=c) f
abbrev tOi(f:M qD):TO:=tM K B G0 (λ_ b c=>b=c) f
end
section
variable{K:Frag}{B G0:Hp}{α β γ δ ε:Type}{R:Hp->γ->α->Prop}{S:Hp->δ->β->Prop}{T:Hp->ε->α->Prop}{σ:St}{H:Hp}
theorem aft.mono{r:Res α}{G G':Hp}{Q:γ->Hp->Prop}(e:Same G G')(h:aft K B G0 R r G σ Q):aft K B G0 R r G' σ Q:=by
 cases r with
 |ok d Z=>exact λv G2 H2 k s q=>h v G2 H2 k (e.trans s) q
 |bad=>exact h
theorem aft.done{d:α}{Z:Uw}{G G' H H':Hp}{v:γ}{Q:γ->Hp->Prop}(h:aft K B G0 R (.ok d Z) G σ Q)(k:EOk K B G0 G H σ Z)(e:Ext G H G' H')(r:R G' v d):Q v H':=
 h v G' H' (k.ext e) e.g r
theorem aft.now{d:α}{Z:Uw}{G H:Hp}{v:γ}{Q:γ->Hp->Prop}(h:aft K B G0 R (.ok d Z) G σ Q)(k:EOk K B G0 G H σ Z)(r:R G v d):Q v H:=
 h v G H k (.refl _) r
theorem aft.opt{o:Option α}{Z:Uw}{G:Hp}{Q:γ->Hp->Prop}(h:aft K B G0 R (UG o Z) G σ Q):∃d,o=O d/\aft K B G0 R (.ok d Z) G σ Q:=by
 cases o with
 |none=>exact h.elim
 |some d=>exact⟨d,rfl,h⟩
theorem tM.bind{f:M α}{k:α->M β}{Q:δ->Hp->Prop}(h:tM K B G0 S (UH f k) σ H Q) :
  tM K B G0 R f σ H (λv H1=>∃G Z d,EOk K B G0 G H1 σ Z/\R G v d/\aft K B G0 S (k d Z) G σ Q):=by
 obtain⟨G,Z,e,a⟩:=h;refine⟨G,Z,e,?_⟩;unfold UH at a;cases q:f Z with
 |bad=>rw[q]at a;exact a.elim
 |ok d Z1=>rw[q]at a;exact λv G' H' e' s r=>⟨G',Z1,d,e',r,aft.mono s a⟩
theorem tM.bind2{α' γ':Type}{R':Hp->γ'->α'->Prop}{f:M α}{g:α->M α'}{k:α->α'->M β}{Q:δ->Hp->Prop}(mo:∀G G' v d,Same G G'->R G v d->R G' v d)
  (h:tM K B G0 S (UH f λx=>UH (g x) λy=>k x y) σ H Q) :
  tM K B G0 R f σ H (λv H1=>∃x,tM K B G0 R' (g x) σ H1 λu H2=>∃G Z y,EOk K B G0 G H2 σ Z/\R G v x/\R' G u y/\aft K B G0 S (k x y Z) G σ Q):=by
 obtain⟨G,Z,e,a⟩:=tM.bind (R:=R) h;refine⟨G,Z,e,?_⟩;cases q:f Z with
 |bad=>rw[q]at a;exact a.elim
 |ok d Z1=>
  rw[q]at a;intro v G' H' e' s r;obtain⟨G2,Z2,d2,e2,r2,a2⟩:=a v G' H' e' s r;refine⟨d2,G2,Z2,e2,?_⟩;unfold UH at a2;cases q2:g d2 Z2 with
  |bad=>rw[q2]at a2;exact a2.elim
  |ok d3 Z3=>rw[q2]at a2;exact λu G3 H3 e3 s3 r3=>⟨G3,Z3,d3,e3,mo _ _ _ _ s3 r2,r3,aft.mono s3 a2⟩
end
theorem OP{K:Frag}(G G':Hp)(v:V)(d:D)(e:Same G G')(r:Rep K G v d):Rep K G' v d:=r.mono e
theorem tM.two{K:Frag}{B G0:Hp}{β δ:Type}{S:Hp->δ->β->Prop}{σ:St}{H:Hp}{f g:M D}{k:D->D->M β}{Q:δ->Hp->Prop}{P:V->V->Hp->Prop}
  (h:tM K B G0 S (UH f λx=>UH g λy=>k x y) σ H Q)
  (i:∀v u H2 G Z x y,EOk K B G0 G H2 σ Z->Rep K G v x->Rep K G u y->aft K B G0 S (k x y Z) G σ Q->P v u H2) :
  tD K B G0 f σ H (λv H1=>tD K B G0 g σ H1 λu H2=>P v u H2):=by
 obtain⟨G,Z,e,a⟩:=tM.bind2 (R:=Rep K) (R':=Rep K) OP h;refine⟨G,Z,e,?_⟩;cases q:f Z with
 |bad=>rw[q]at a;exact a.elim
 |ok d Z1=>
  rw[q]at a;intro v G' H' e' s r;obtain⟨x,G2,Z2,e2,a2⟩:=a v G' H' e' s r;refine⟨G2,Z2,e2,?_⟩;cases q2:g Z2 with
  |bad=>rw[q2]at a2;exact a2.elim
  |ok d3 Z3=>rw[q2]at a2;intro u G3 H3 e3 s3 r3;obtain⟨G4,Z4,y,e4,r4,r5,a5⟩:=a2 u G3 H3 e3 s3 r3;exact i v u H3 G4 Z4 x y e4 r4 r5 a5
theorem tM.one{K:Frag}{B G0:Hp}{α β γ δ:Type}{R:Hp->γ->α->Prop}{S:Hp->δ->β->Prop}{σ:St}{H:Hp}{f:M α}{k:α->M β}{Q:δ->Hp->Prop}{P:γ->Hp->Prop}
  (h:tM K B G0 S (UH f k) σ H Q) (i:∀v H2 G Z x,EOk K B G0 G H2 σ Z->R G v x->aft K B G0 S (k x Z) G σ Q->P v H2):tM K B G0 R f σ H P:=by
 obtain⟨G,Z,e,a⟩:=tM.bind (R:=R) h;refine⟨G,Z,e,?_⟩;cases q:f Z with
 |bad=>rw[q]at a;exact a.elim
 |ok d Z1=>rw[q]at a;intro v G' H' e' s r;obtain⟨G2,Z2,d2,e2,r2,a2⟩:=a v G' H' e' s r;exact i v H' G2 Z2 d2 e2 r2 a2
section
variable{X:Cx}{B G0:Hp}{e a b:Ua}{pos:Pos}
theorem UU{t t':TE}(h:PE X e t)(i:∀σ H Q,t' σ H Q->t σ H Q):PE X e t':=λpins s σ H Q I q=>h pins s σ H Q I (i σ H Q q)
theorem Ym{t t':TT}(h:PT X e t)(i:∀σ H Q,t' σ H Q->t σ H Q):PT X e t':=λpins s σ H Q I q=>h pins s σ H Q I (i σ H Q q)
theorem paof{es:qA}{t t':TA}(h:PA X es t)(i:∀σ H Q,t' σ H Q->t σ H Q):PA X es t':=λps pins s σ H Q I q=>h ps pins s σ H Q I (i σ H Q q)
theorem poof{eo:Option Ua}{t t':TO}(h:PO X eo t)(i:∀σ H Q,t' σ H Q->t σ H Q):PO X eo t':=λpins s σ H Q I q=>h pins s σ H Q I (i σ H Q q)
theorem KI{st:Stmt}{t t':TS}(h:PS X st t)(i:∀D σ H,t' D σ H->t D σ H):PS X st t':=λpins s σ H D I q=>h pins s σ H D I (i D σ H q)
theorem Pu{st:List Stmt}{t t':TS}(h:PSs X st t)(i:∀D σ H,t' D σ H->t D σ H):PSs X st t':=λpins s σ H D I q=>h pins s σ H D I (i D σ H q)
def Uv(i:Nat):M D:=λZ=>match Z[i]? with
 |some (O (.pub d))=>.ok d Z
 |some (O (.own ds))=>.ok (.list ds) (Z.set i (O (.pub (.list ds))))
 |_=>.bad
theorem Od{i:Nat}(h:PE X e (Kg i)):PE X e (tD X.K B G0 (Uv i)):=UU h λσ H Q ⟨G,Z,k,a⟩=>by
 unfold Uv at a;cases q:Z[i]? with
 |none=>rw[q]at a;exact a.elim
 |some o=>
  cases o with
  |none=>rw[q]at a;exact a.elim
  |some sl=>
   cases sl with
   |deep _ _=>rw[q]at a;exact a.elim
   |pub d=>rw[q]at a;obtain⟨v,h1,h2⟩:=k.pub i d q;exact⟨v,h1,a.now k h2⟩
   |own ds=>rw[q]at a;obtain⟨ad,G',h1,h2,h3,h4⟩:=k.publish q;exact⟨.ref ad,h1,a (.ref ad) G' H h4 h2 h3⟩
theorem TU{v:V}{d:D}(h:PE X e (tC v))(r:∀G,Rep X.K G v d):PE X e (tD X.K B G0 (UA d)):=UU h λσ H Q ⟨G,Z,k,a⟩=>a.now k (r G)
theorem GH{i:Int}{j}:PE X (.Constant (.int i) j pos) (tD X.K B G0 (UA (.int i))):=TU FX λ_=>.int i
theorem EH{i:Bool}{j}:PE X (.Constant (.bool i) j pos) (tD X.K B G0 (UA (.bool i))):=TU Hs λ_=>.bl i
theorem EG{j}:PE X (.Constant .none j pos) (tD X.K B G0 (UA .none)):=TU Gs λ_=>.non
theorem GF{x:Str}{j}:PE X (.Constant (.str x) j pos) (tD X.K B G0 (UA (.str x))):=TU TX λ_=>.str x
def UD{β:Type}(op:D->D->Option β)(f g:M D):M β:=UH f λx=>UH g λy=>UG (op x y)
def OpD(X:Cx)(f:J5->J5->Sem J5)(op:D->D->qB):Prop:=
 ∃r:R2,OpR X f r/\∀v u G H x y d Q,Same G H->Rep X.K G v x->Rep X.K G u y->op x y=O d->(∀w G' H',Ext G H G' H'->Rep X.K G' w d->Q w H')->r v u H Q
theorem Wx{op:Operator}{p:D->D->qB}{f g:M D}(o:OpD X (binaryOp op) p)(ha:PE X a (tD X.K B G0 f))(hb:PE X b (tD X.K B G0 g)):PE X (.BinOp a op b pos) (tD X.K B G0 (UD p f g)):=by
 obtain⟨r,h,i⟩:=o;refine UU (Pp h ha hb) λσ H Q q=>?_;refine tM.two q λv u H2 G Z x y k rx ry a=>?_
 obtain⟨d,e,a⟩:=a.opt;exact i v u G H2 x y d Q k.gh rx ry e λw G' H' ex rw=>a.done k ex rw
theorem OpD.or{f:J5->J5->Sem J5}{p q:D->D->qB}(h:OpD X f p)(h':OpD X f q):OpD X f (λx y=>(p x y).orElse λ_=>q x y):=by
 obtain⟨r,h1,i1⟩:=h;obtain⟨r',h2,i2⟩:=h';refine⟨_,h1.or h2,λv u G H x y d Q s rx ry e k=>?_⟩;dsimp only at e;cases z:p x y with
 |some d'=>rw[z]at e;have e':d'=d:=QS e;subst e';exact .inl (i1 v u G H x y d' Q s rx ry z k)
 |none=>rw[z]at e;exact .inr (i2 v u G H x y d Q s rx ry e k)
def oII(g:Int->Int->qB):D->D->qB
 |.int i,.int j=>g i j
 |_,_=>qu
theorem OO{g:Int->Int->qB}{x y d:D}(e:oII g x y=O d):∃i j,x=.int i/\y=.int j/\g i j=O d:=by
 unfold oII at e;split at e
 .exact⟨_,_,rfl,rfl,e⟩
 .cases e
theorem OpD.int{f:J5->J5->Sem J5}{C:Int->Int->Prop}{g:Int->Int->V}{p:Int->Int->qB}(h:OpR X f (rI C g))(i:∀i j d,p i j=O d->C i j/\∀G,Rep X.K G (g i j) d):OpD X f (oII p):=by refine⟨_,h,λv u G H x y d Q s rx ry e k=>?_⟩;obtain⟨a,b,rfl,rfl,e⟩:=OO e;obtain⟨c,r⟩:=i a b d e;exact⟨a,b,rx.int_inv,ry.int_inv,c,k _ G H (.refl s) (r G)⟩
theorem OpD.int0{f:J5->J5->Sem J5}{g:Int->Int->V}{p:Int->Int->D}(h:OpR X f (rI0 g))(i:∀i j G,Rep X.K G (g i j) (p i j)):OpD X f (oII λi j=>O (p i j)):=by refine⟨_,h,λv u G H x y d Q s rx ry e k=>?_⟩;obtain⟨a,b,rfl,rfl,e⟩:=OO e;cases e;exact⟨a,b,rx.int_inv,ry.int_inv,k _ G H (.refl s) (i a b G)⟩
end
section
variable{X:Cx}{B G0:Hp}{e a b c:Ua}{pos:Pos}
theorem GE:OpD X (binaryOp .Add) (oII λi j=>O (.int (i+j))):=.int0 Gi λ_ _ _=>.int _
theorem GD:OpD X (binaryOp .Sub) (oII λi j=>O (.int (i-j))):=.int0 Gh λ_ _ _=>.int _
def Y6(i j:Int):qB:=if(-(2 ^ 64)<i/\i<2 ^ 64)∨(-(2 ^ 64)<j/\j<2 ^ 64)then O (.int (i*j))else qu
theorem EF:OpD X (binaryOp .Mult) (oII Y6):=.int Gg λi j d h=>by
 unfold Y6 at h;split at h
 .rename_i c
  cases h;exact⟨c,λ_=>.int _⟩
 .cases h
def X2(i j:Int):qB:=if 0<j then O (.int (i % j))else qu
theorem GC:OpD X (binaryOp .Mod) (oII X2):=.int Ge λi j d h=>by
 unfold X2 at h;split at h
 .rename_i c
  cases h;exact⟨c,λ_=>.int _⟩
 .cases h
theorem D8:OpR X (binaryOp .FloorDiv) (rI (λi j=>0<j/\j<2 ^ 64) λi j=>.int (i / j)):=opI λi j _ _ _ _ _ hc q=>by
 have h1:(0:Int)<j:=hc.1;have h2:j<2 ^ 64:=hc.2;refine floordiv_int (by omega) (by rw[Int.fdiv_eq_ediv_of_nonneg i (by omega)];exact q) (.inl (PyProof.noPylong_of_log2 ?_));have h0:j.natAbs≠0:=by omega
 have:j.natAbs.log2<64:=(Nat.log2_lt h0).mpr (by omega);omega
def X3(i j:Int):qB:=if 0<j/\j<2 ^ 64 then O (.int (i / j))else qu
theorem GB:OpD X (binaryOp .FloorDiv) (oII X3):=.int D8 λi j d h=>by
 unfold X3 at h;split at h
 .rename_i c
  cases h;exact⟨c,λ_=>.int _⟩
 .cases h
def X1(i j:Int):qB:=if 0<=j/\j<=1000000/\i.natAbs<2 ^ 64 then O (.int (i ^ j.toNat))else qu
theorem GA:OpD X (binaryOp .Pow) (oII X1):=.int Gd λi j d h=>by
 unfold X1 at h;split at h
 .rename_i c
  cases h;exact⟨c,λ_=>.int _⟩
 .cases h
theorem lim:(1000000:Nat)<=Ub:=by decide
def TL:D->D->qB
 |.str x,.str y=>if x.length+y.length<=1000000 then O (.str (x++y))else qu
 |_,_=>qu
theorem EE:OpD X (binaryOp .Add) TL:=by
 refine⟨_,Ax,λv u G H x y d Q s rx ry e k=>?_⟩;unfold TL at e;split at e
 .split at e
  .rename_i c
   cases e;exact⟨_,_,rx.str_inv,ry.str_inv,QH c lim,k _ G H (.refl s) (.str _)⟩
  .cases e
 .cases e
def Lu(K:Frag):R2:=λx y H Q=>∃l b xs zs,x=.ref l/\y=.ref b/\SqL K H l xs/\SqL K H b zs/\xs.length+zs.length<=Ub/\∀p,H p=qu->Q (.ref p) (upd H p (.lst (xs++zs)))
theorem ON:OpR X (binaryOp .Add) (Lu X.K):=by
 intro pins s σ H x y v u Q I rx ry h;obtain⟨l,b,xs,zs,rfl,rfl,hH,hB,hz,q⟩:=h;cases rx;cases ry;obtain⟨its,r,⟨⟨c1,d1,t1,s1⟩,n1,e1,kR,kQ,kP⟩,z1⟩:=I.list hH;obtain⟨its2,r2,⟨⟨c2,d2,t2,s2⟩,n2,e2,ec2,ed2,et2⟩,z2⟩:=I.list hB;simp only at kR kQ kP ec2 ed2 et2;subst kR kQ kP ec2 ed2 et2;have hl:=r.length;have hl2:=r2.length;refine concat_meets ⟨_,e1,rfl⟩ ⟨_,e2,rfl⟩ noFill_list_add seq_list_add PySem.F.slot_list_add PySem.F.entry_list_add (PySem.F.args_list_add_2 _ _) (list_addW l b its.toArray its2.toArray n1 n2 qu qu s1 s2 (by rw[QN,QN];omega)) ⟨e1,e2,?_⟩;have ea:its.toArray++its2.toArray=(its++its2).toArray:=by simp
 rw[ea];exact⟨.ref _,_,I.lnew (t':=s.toks) (r.append r2) (by rw[Qm];omega),rfl,q _ I.fresh⟩
theorem Lr(a:Int)(t:Tok)(l:J8)(items:Array J5)(n:Nat)(sl:Array qC) :
  Meets (Builtin.«int.__rmul__» ⟨[.int a t,.ref l],[]⟩) (λ_ R s=>s.heap.get? l=O {cls:=.type "list", dict:=qu,data:=.seq items n,slots:=sl}/\R (.ok (.ret Value.notImplemented)) s):=
 .of_wp λprog w A R s h=>by obtain⟨hp,g,d,tk,os⟩:=s;obtain⟨hl,h⟩:=h;wp_walk;exact⟨_,rfl,h⟩
theorem mulW(l:J8)(items:Array J5)(n:Nat)(x:Int)(u:Tok)(sl:Array qC)(hc0:¬(!Builtin.List.listFitsIndex x)=qv)(hc1:¬items.size*x.toNat > (2 ^ 63-1) / 8)(hc2:¬Builtin.List.listTooLong (items.size*x.toNat)=qv) :
  Meets (Builtin.«list.__mul__» ⟨[.ref l,.int x u],[]⟩) (λ_ R s=>s.heap.get? l=O {cls:=.type "list", dict:=qu,data:=.seq items n,slots:=sl}/\R (.ok (.ret (Value.ref s.heap.objs.size))) {s with heap:=s.heap.push {cls:=Value.type "list", data:=Data.seq (List.foldl (λx1 x2=>x1++x2) #[] (Ug (if items.isEmpty=qv then 0 else x.toNat) items))},toks:=s.toks}):=
 .of_wp λprog w A R s h=>by
  obtain⟨hp,g,d,tk,os⟩:=s;obtain⟨hl,h⟩:=h;have hsz:=AutoListH.joined_fits hc2
  wp_walk;refine wpAny_ite_false (Qs (Nat.not_lt.mpr hsz)) ?_;wp_walk;exact⟨_,rfl,h⟩
def Lq(K:Frag):R2:=λx y H Q=>∃l k xs,x=.ref l/\y=.int k/\SqL K H l xs /\ -(2 ^ 63)<=k/\k<2 ^ 63/\xs.length*k.toNat<=Ub /\
 ∀p,H p=qu->Q (.ref p) (upd H p (.lst (Ug k.toNat xs).flatten))
theorem ED:OpR X (binaryOp .Mult) (Lq X.K):=by
 intro pins s σ H x y v u Q I rx ry h;obtain⟨l,k,xs,rfl,rfl,hH,h1,h2,hz,q⟩:=h;cases rx;obtain⟨t,rfl⟩:=ry;obtain⟨its,r,⟨⟨c1,d1,t1,sl⟩,n,e,kR,kQ,kP⟩,z⟩:=I.list hH;simp only at kR kQ kP;subst kR kQ kP;have hl:=r.length;have hlen:its.toArray.size*k.toNat<=Ub:=by rw[QN,←hl];exact hz
 have hcap:¬its.toArray.size*k.toNat > (2 ^ 63-1) / 8:=by
  have:(Ub:Nat)<=(2 ^ 63-1) / 8:=by decide
  omega
 have hfit:¬(!Builtin.List.listFitsIndex k)=qv:=by rw[fitsIndex_both h1 h2];exact JJ
 have kA:¬Builtin.List.listTooLong (its.toArray.size*k.toNat)=qv:=by rw[DE hlen];exact JJ
 have hnew:List.foldl (λx1 x2=>x1++x2) #[] (Ug (if its.toArray.isEmpty=qv then 0 else k.toNat) its.toArray)=(Ug k.toNat its).flatten.toArray:=by
  have f0:∀m:Nat,List.foldl (λx1 x2=>x1++x2) #[] (Ug m its.toArray)=(Ug m its).flatten.toArray:=λm=>by have:=N5 its m [];rw[Q7]at this;exact this
  rw[f0];cases its with
  |nil=>simp
  |cons a r'=>rw[if_neg (by simp)]
 refine wpAny_binaryOp_repeat_ref (T:= "list") (U:= "int") (by decide) ⟨_,e,rfl⟩ (λs'=>typeIs_int s' k t) noFill_list_mul F.fills_int_mul F.slot_int_rmul repeat_list F.slot_int_index.lookup
  (call_meets F.slot_int_rmul (typeIs_int s k t) F.entry_int_rmul (F.args_int_rmul_2 _ _) (Lr k t l its.toArray n sl)
   ⟨e,rfl,⟨_,e,rfl⟩,call_meets F.slot_list_mul ⟨_,e,rfl⟩ F.entry_list_mul (F.args_list_mul_2 _ _) (mulW l its.toArray n k t sl hfit hcap kA) ⟨e,?_⟩⟩)
 rw[hnew];exact⟨.ref _,_,I.lnew (t':=s.toks) (r.rep k.toNat) (by rw[F7,Nat.mul_comm];exact hz),rfl,q _ I.fresh⟩
def TK:D->D->qB
 |.list x,.list y=>if x.length+y.length<=1000000 then O (.list (x++y))else qu
 |_,_=>qu
theorem EC:OpD X (binaryOp .Add) TK:=by
 refine⟨_,ON,λv u G H x y d Q s rx ry e k=>?_⟩;unfold TK at e;split at e
 .split at e
  .rename_i c
   cases e;obtain⟨l,vs,rfl,h1,r1⟩:=rx.lst_inv;obtain⟨b,ws,rfl,h2,r2⟩:=ry.lst_inv;refine⟨l,b,vs,ws,rfl,rfl,s.seq h1,s.seq h2,by rw[r1.length,r2.length];exact QH c lim,λp hp=>k _ _ _ (Ext.new s hp) ?_⟩;exact .lst (SqL.of Kh) ((r1.append r2).mono (KW (s.free hp)))
  .cases e
 .cases e
theorem Reps.rep{K:Frag}{G:Hp}{vs:List V}{ds:qx}(r:Reps K G vs ds):∀n:Nat,Reps K G (Ug n vs).flatten (Ug n ds).flatten
 |0=>.nil
 |n+1=>by rw[Q0,Q0,QJ,QJ];exact r.append (r.rep n)
def TJ:D->D->qB
 |.list x,.int k=>if -1000000<=k/\k<=1000000/\x.length*k.toNat<=1000000 then O (.list (Ug k.toNat x).flatten)else qu
 |_,_=>qu
theorem EB:OpD X (binaryOp .Mult) TJ:=by
 refine⟨_,ED,λv u G H x y d Q s rx ry e k=>?_⟩;unfold TJ at e;split at e
 .split at e
  .rename_i c
   cases e;obtain⟨l,vs,rfl,h1,r1⟩:=rx.lst_inv;refine⟨l,_,vs,rfl,ry.int_inv,s.seq h1,by omega,by omega,by rw[r1.length];exact QH c.2.2 lim,λp hp=>k _ _ _ (Ext.new s hp) ?_⟩;exact .lst (SqL.of Kh) ((r1.rep _).mono (KW (s.free hp)))
  .cases e
 .cases e
def UN:D->D->qB
 |.int i,.int j=>O (.int (i+j))
 |.str x,.str y=>if x.length+y.length<=1000000 then O (.str (x++y))else qu
 |.list x,.list y=>if x.length+y.length<=1000000 then O (.list (x++y))else qu
 |_,_=>qu
def Yn:D->D->qB
 |.int i,.int j=>O (.int (i-j))
 |_,_=>qu
def U0:D->D->qB
 |.int i,.int j=>Y6 i j
 |.list x,.int k=>if -1000000<=k/\k<=1000000/\x.length*k.toNat<=1000000 then O (.list (Ug k.toNat x).flatten)else qu
 |_,_=>qu
def KY:D->D->qB
 |.int i,.int j=>X2 i j
 |_,_=>qu
def Y4:D->D->qB
 |.int i,.int j=>X3 i j
 |_,_=>qu
def Y2:D->D->qB
 |.int i,.int j=>X1 i j
 |_,_=>qu
theorem OpD.congr{f:J5->J5->Sem J5}{p q:D->D->qB}(h:OpD X f p)(e:∀x y,q x y=p x y):OpD X f q:=by
 have:q=p:=by funext x y;exact e x y
 rw[this];exact h
theorem Pt:OpD X (binaryOp .Add) UN:=(GE.or (EE.or EC)).congr λx y=>by cases x<;>cases y<;>first|rfl|(simp only[UN,oII,TL,TK,Option.orElse];done)|(simp only[UN,oII,TL,TK,Option.orElse];split<;>rfl)
theorem Lp:OpD X (binaryOp .Sub) Yn:=GD.congr λx y=>by cases x<;>cases y<;>rfl
theorem Ps:OpD X (binaryOp .Mult) U0:=(EF.or EB).congr λx y=>by cases x<;>cases y<;>first|rfl|(simp only[U0,oII,TJ,Option.orElse];done)|(simp only[U0,oII,TJ,Option.orElse];split<;>first|rfl|assumption)
theorem Lo:OpD X (binaryOp .Mod) KY:=GC.congr λx y=>by cases x<;>cases y<;>rfl
theorem Ln:OpD X (binaryOp .FloorDiv) Y4:=GB.congr λx y=>by cases x<;>cases y<;>rfl
theorem Lm:OpD X (binaryOp .Pow) Y2:=GA.congr λx y=>by cases x<;>cases y<;>rfl
end
section
variable{X:Cx}{B G0:Hp}{e a b c:Ua}{pos:Pos}
def OpB(X:Cx)(f:J5->J5->Sem J5)(op:D->D->qH):Prop:=
 ∃r:R2,OpR X f r/\∀v u G H x y d Q,Same G H->Rep X.K G v x->Rep X.K G u y->op x y=O d->Q (.bl d) H->r v u H Q
theorem OpB.or{f:J5->J5->Sem J5}{p q:D->D->qH}(h:OpB X f p)(h':OpB X f q):OpB X f (λx y=>(p x y).orElse λ_=>q x y):=by
 obtain⟨r,h1,i1⟩:=h;obtain⟨r',h2,i2⟩:=h';refine⟨_,h1.or h2,λv u G H x y d Q s rx ry e k=>?_⟩;dsimp only at e;cases z:p x y with
 |some d'=>rw[z]at e;have e':d'=d:=QS e;subst e';exact .inl (i1 v u G H x y d' Q s rx ry z k)
 |none=>rw[z]at e;exact .inr (i2 v u G H x y d Q s rx ry e k)
theorem OpB.congr{f:J5->J5->Sem J5}{p q:D->D->qH}(h:OpB X f p)(e:∀x y,q x y=p x y):OpB X f q:=by
 have:q=p:=by funext x y;exact e x y
 rw[this];exact h
theorem EA{op:CmpOp}{p:D->D->qH}{f g:M D}(o:OpB X (Ue op) p)(ha:PE X a (tD X.K B G0 f))(hb:PE X b (tD X.K B G0 g))(hm:behindInMarks op b=qw) :
  PT X (.Compare a [op] [b] pos) (tBo X.K B G0 (UD p f g)):=by
 obtain⟨r,h,i⟩:=o;refine Ym (O1 h ha hb hm) λσ H Q q=>?_;refine tM.two q λv u H2 G Z x y k rx ry a=>?_
 obtain⟨d,e,a⟩:=a.opt;exact i v u G H2 x y d _ k.gh rx ry e ⟨d,rfl,a.now k qt⟩
def UI{α β:Type}(h:α->β)(f:M α):M β:=UH f λx=>UA (h x)
theorem tM.map{K:Frag}{α β γ δ:Type}{R:Hp->γ->α->Prop}{S:Hp->δ->β->Prop}{σ:St}{H:Hp}{h:α->β}{f:M α}{Q:δ->Hp->Prop}(j:γ->δ)(q:tM K B G0 S (UI h f) σ H Q)
  (i:∀G v x,R G v x->S G (j v) (h x)):tM K B G0 R f σ H (λv H'=>Q (j v) H'):=
 tM.one (R:=R) (f:=f) q λv H2 G Z x k r a=>aft.now (show aft K B G0 S (.ok (h x) Z) G σ Q from a) k (i G v x r)
theorem tBo.val{K:Frag}{σ:St}{H:Hp}{f:M Bool}{Q:VK}(q:tD K B G0 (UI Ui f) σ H Q):tBo K B G0 f σ H (λb H'=>Q (.bl b) H'):=
 tM.map (R:=λ_ b c=>b=c) V.bl q λG v x e=>by rw[e];exact .bl x
theorem Ez{op:CmpOp}{p:D->D->qH}{f g:M D}(o:OpB X (Ue op) p)(ha:PE X a (tD X.K B G0 f))(hb:PE X b (tD X.K B G0 g))(hm:behindInMarks op b=qw) :
  PE X (.Compare a [op] [b] pos) (tD X.K B G0 (UI Ui (UD p f g))):=by
 obtain⟨r,h,i⟩:=o;refine UU (O2 h ha hb hm) λσ H Q q=>?_;refine tM.two (tBo.val q) λv u H2 G Z x y k rx ry a=>?_
 obtain⟨d,e,a⟩:=a.opt;exact i v u G H2 x y d _ k.gh rx ry e (a.now k qt)
def Xy(p q:D->D->qH)(f g h:M D):M Bool:=UH f λx=>UH g λy=>UH (UG (p x y)) λt=>if t=qv then UH h λz=>UG (q y z)else UA qw
theorem CY{op op':CmpOp}{p q:D->D->qH}{f g h:M D}(o:OpB X (Ue op) p)(o':OpB X (Ue op') q)(ha:PE X a (tD X.K B G0 f))(hb:PE X b (tD X.K B G0 g))(hc:PE X c (tD X.K B G0 h))
  (hm:lastMarks [op,op'] [b,c]=qw:=by with_unfolding_all rfl):PT X (.Compare a [op,op'] [b,c] pos) (tBo X.K B G0 (Xy p q f g h)):=by
 obtain⟨r,h1,i⟩:=o;obtain⟨r',h2,i'⟩:=o';refine Ym (DG h1 h2 ha hb hc hm) λσ H Q w=>?_;refine tM.two w λv u H2 G Z x y k rx ry a=>?_
 cases z:p x y with
 |none=>rw[z]at a;exact a.elim
 |some t=>
  rw[z]at a;refine i v u G H2 x y t _ k.gh rx ry z ⟨t,rfl,?_⟩;cases t with
  |false=>rw[Qy JJ];exact⟨qw,rfl,aft.now a k qt⟩
  |true=>
   rw[Qo qt];refine⟨G,Z,k,?_⟩;have a4:aft X.K B G0 (λ_ (b:Bool) c=>b=c) ((UH h λz=>UG (q y z)) Z) G σ Q:=a;unfold UH at a4;cases z2:h Z with
   |bad=>rw[z2]at a4;exact a4.elim
   |ok d Z1=>rw[z2]at a4;intro w G5 H5 k5 s5 r5;obtain⟨t2,e2,a6⟩:=a4.opt;exact i' u w G5 H5 y d t2 _ k5.gh (ry.mono s5) r5 e2 ⟨t2,rfl,a6 t2 G5 H5 k5 s5 qt⟩
theorem CW{op op':CmpOp}{p q:D->D->qH}{f g h:M D}(o:OpB X (Ue op) p)(o':OpB X (Ue op') q)(ha:PE X a (tD X.K B G0 f))(hb:PE X b (tD X.K B G0 g))(hc:PE X c (tD X.K B G0 h))
  (hm:lastMarks [op,op'] [b,c]=qw:=by with_unfolding_all rfl):PE X (.Compare a [op,op'] [b,c] pos) (tD X.K B G0 (UI Ui (Xy p q f g h))):=by
 obtain⟨r,h1,i⟩:=o;obtain⟨r',h2,i'⟩:=o';refine UU (DH h1 h2 ha hb hc hm) λσ H Q w=>?_;refine tM.two (tBo.val w) λv u H2 G Z x y k rx ry a=>?_
 cases z:p x y with
 |none=>rw[z]at a;exact a.elim
 |some t=>
  rw[z]at a;refine i v u G H2 x y t _ k.gh rx ry z ⟨t,rfl,?_⟩;cases t with
  |false=>rw[Qy JJ];exact aft.now (v:=qw) a k qt
  |true=>
   rw[Qo qt];refine⟨G,Z,k,?_⟩;have a4:aft X.K B G0 (λ_ (b:Bool) c=>b=c) ((UH h λz=>UG (q y z)) Z) G σ (λb H'=>Q (.bl b) H'):=a;unfold UH at a4;cases z2:h Z with
   |bad=>rw[z2]at a4;exact a4.elim
   |ok d Z1=>rw[z2]at a4;intro w G5 H5 k5 s5 r5;obtain⟨t2,e2,a6⟩:=a4.opt;exact i' u w G5 H5 y d t2 _ k5.gh (ry.mono s5) r5 e2 (a6 t2 G5 H5 k5 s5 qt)
def oIB(g:Int->Int->Bool):D->D->qH
 |.int i,.int j=>O (g i j)
 |_,_=>qu
theorem OpB.int{f:J5->J5->Sem J5}{g:Int->Int->Bool}(h:OpR X f (rI0 λi j=>.bl (g i j))):OpB X f (oIB g):=by
 refine⟨_,h,λv u G H x y d Q s rx ry e k=>?_⟩;unfold oIB at e;split at e
 .cases e
  exact⟨_,_,rx.int_inv,ry.int_inv,k⟩
 .cases e
theorem B_lt:OpB X (Ue .Lt) (oIB λi j=>decide (i<j)):=.int HK
theorem B_le:OpB X (Ue .LtE) (oIB λi j=>decide (i<=j)):=.int LB
theorem B_gt:OpB X (Ue .Gt) (oIB λi j=>decide (j<i)):=.int LA
theorem B_ge:OpB X (Ue .GtE) (oIB λi j=>decide (j<=i)):=.int Lz
mutual
theorem Yk{pins:List (J8×Obj)}{s:J6}{σ:St}{G H:Hp}(I:Inv X pins σ H s)(sg:Same G H):∀{v:V}{d:D}{u:J5},Rep X.K G v d->RelV v u->d.canLay0=qv->∃as,Reads s.heap u d as
 |_,_,_,.non,r,_=>by cases r;exact⟨_,.none⟩
 |_,_,_,.bl b,r,_=>by cases r;exact⟨_,.bool b⟩
 |_,_,_,.int i,r,_=>by obtain⟨t,rfl⟩:=r;exact⟨_,.int i t⟩
 |_,_,_,.str x,r,_=>by obtain⟨t,rfl⟩:=r;exact⟨_,.str x t⟩
 |_,_,_,.lst h q,r,c=>by cases r;obtain⟨its,rv,⟨o,n,e,hc,_,hd⟩,hz⟩:=I.list (sg.seq h);obtain⟨as,ra⟩:=readsAll_of I sg q rv (show Ul _=qv by simpa[PyData.canLay0]using c);exact⟨_,.list e hc hd (by simpa using ra)⟩
 |_,_,_,.tup h q,r,c=>by cases r;obtain⟨its,rv,p,hz⟩:=I.tuple (Yb sg h);obtain⟨o,e,hc,n,hd⟩:=p;obtain⟨as,ra⟩:=readsAll_of I sg q rv (show Ul _=qv by simpa[PyData.canLay0]using c);exact⟨_,.tuple e hc hd (by simpa using ra)⟩
 |_,_,_,.dic h,r,c=>by simp[PyData.canLay0]at c
 |_,_,_,.exc _ _ _ _,r,c=>by simp[PyData.canLay0]at c
 |_,_,_,.dct _ _ _ _ _,r,c=>by simp[PyData.canLay0]at c
 |_,_,_,.dtt _ _ _ _,r,c=>by simp[PyData.canLay0]at c
theorem readsAll_of{pins:List (J8×Obj)}{s:J6}{σ:St}{G H:Hp}(I:Inv X pins σ H s)(sg:Same G H):∀{vs:List V}{ds:qx}{us:qz},Reps X.K G vs ds->Vals vs us->Ul ds=qv->∃as,ReadsAll s.heap us ds as
 |_,_,_,.nil,r,_=>by cases r;exact⟨_,.nil⟩
 |_,_,_,.cons h t,r,c=>by
  cases r with
  |cons r1 r2=>have c':=c;rw[Ul,Qx]at c';obtain⟨as,ra⟩:=Yk I sg h r1 c'.1;obtain⟨bs,rb⟩:=readsAll_of I sg t r2 c'.2;exact⟨_,.cons ra rb⟩
end
def oEq(x y:D):qH:=if x.canLay0=qv/\y.canLay0=qv/\x.depth<=60 then O (Uo x y)else qu
def oNe(x y:D):qH:=if x.canLay0=qv/\y.canLay0=qv/\x.depth<=60 then O (!Uo x y)else qu
theorem B_eq(hu:X.A.units+64<cLine):OpB X (Ue .Eq) oEq:=by
 refine⟨λv u H Q=>∃G x y d,Same G H/\Rep X.K G v x/\Rep X.K G u y/\oEq x y=O d/\Q (.bl d) H,?_,λv u G H x y d Q s rx ry e k=>⟨G,x,y,d,s,rx,ry,e,k⟩⟩;intro pins s σ H x y v u Q I rx ry ⟨G,dx,dy,d,sg,px,py,e,q⟩;unfold oEq at e;split at e
 .rename_i c
  cases e;obtain⟨as,ra⟩:=Yk I sg px rx c.1;obtain⟨bs,rb⟩:=Yk I sg py ry c.2.1;exact SeqAt.compareEq_reads ra rb c.1 c.2.1 (by have:=c.2.2;omega) ⟨.bl _,H,I,rfl,q⟩
 .cases e
theorem B_ne(hu:X.A.units+64<cLine):OpB X (Ue .NotEq) oNe:=by
 refine⟨λv u H Q=>∃G x y d,Same G H/\Rep X.K G v x/\Rep X.K G u y/\oNe x y=O d/\Q (.bl d) H,?_,λv u G H x y d Q s rx ry e k=>⟨G,x,y,d,s,rx,ry,e,k⟩⟩;intro pins s σ H x y v u Q I rx ry ⟨G,dx,dy,d,sg,px,py,e,q⟩;unfold oNe at e;split at e
 .rename_i c
  cases e;obtain⟨as,ra⟩:=Yk I sg px rx c.1;obtain⟨bs,rb⟩:=Yk I sg py ry c.2.1;exact SeqAt.compareNe_reads ra rb c.1 c.2.1 (by have:=c.2.2;omega) ⟨.bl _,H,I,rfl,q⟩
 .cases e
def isNon:D->Bool
 |.none=>qv
 |_=>qw
theorem Rep.isNon{K:Frag}{G:Hp}{v:V}{d:D}(r:Rep K G v d):DL.isNon d=decide (v=.non):=by cases r<;>simp[DL.isNon]
end
section
variable{X:Cx}{B G0:Hp}{e a b c:Ua}{pos:Pos}{es rest:qA}
theorem tM.nx{K:Frag}{α β γ δ:Type}{R:Hp->γ->α->Prop}{S:Hp->δ->β->Prop}{σ:St}{G H:Hp}{Z:Uw}{f:M α}{g:α->M β}{Q:δ->Hp->Prop}{P:γ->Hp->Prop}
  (k:EOk K B G0 G H σ Z) (a:aft K B G0 S (UH f g Z) G σ Q) (i:∀v H' G' Z' x,EOk K B G0 G' H' σ Z'->Same G G'->R G' v x->aft K B G0 S (g x Z') G' σ Q->P v H'):tM K B G0 R f σ H P:=by
 refine⟨G,Z,k,?_⟩;unfold UH at a;cases q:f Z with
 |bad=>rw[q]at a;exact a.elim
 |ok d Z1=>rw[q]at a;exact λv G' H' e s r=>i v H' G' Z1 d e s r (aft.mono s a)
def ZS(f g:M Bool):M Bool:=UH f λt=>if t=qv then g else UA qw
def mOr(f g:M Bool):M Bool:=UH f λt=>if t=qv then UA qv else g
def UY(f:M Bool):M Bool:=UI (λt=>!t) f
theorem Ey{K:Frag}{f g:M Bool}{σ:St}{H:Hp}{Q:Bool->Hp->Prop}(q:tBo K B G0 (ZS f g) σ H Q):tAnd (tBo K B G0 f) (tBo K B G0 g) σ H Q:=
 tM.one (R:=λ_ b c=>b=c) q λv H2 G Z x k r a=>by
  have r:v=x:=r;subst r;cases v with
  |true=>exact⟨G,Z,k,a⟩
  |false=>exact aft.now (v:=qw) a k qt
theorem Gz{K:Frag}{f g:M Bool}{σ:St}{H:Hp}{Q:Bool->Hp->Prop}(q:tBo K B G0 (mOr f g) σ H Q):tOr (tBo K B G0 f) (tBo K B G0 g) σ H Q:=
 tM.one (R:=λ_ b c=>b=c) q λv H2 G Z x k r a=>by
  have r:v=x:=r;subst r;cases v with
  |false=>exact⟨G,Z,k,a⟩
  |true=>exact aft.now (v:=qv) a k qt
theorem pwof{t t':TT}(h:PW X e t)(i:∀σ H Q,t' σ H Q->t σ H Q):PW X e t':=λwh pins s σ H Q I q=>h wh pins s σ H Q I (i σ H Q q)
theorem D7{f:M Bool}(ha:PT X a (tBo X.K B G0 f)):PW X (.BoolOp .And [a] pos) (tBo X.K B G0 f):=Ej ha
theorem Ex{f:M Bool}(ha:PT X a (tBo X.K B G0 f)):PW X (.BoolOp .Or [a] pos) (tBo X.K B G0 f):=Gr ha
theorem Ew{f g:M Bool}(ha:PT X a (tBo X.K B G0 f))(hb:PW X (.BoolOp .And (b::rest) pos) (tBo X.K B G0 g)):PW X (.BoolOp .And (a::b::rest) pos) (tBo X.K B G0 (ZS f g)):=pwof (Gq ha hb) λ_ _ _ q=>Ey q
theorem Gy{f g:M Bool}(ha:PT X a (tBo X.K B G0 f))(hb:PW X (.BoolOp .Or (b::rest) pos) (tBo X.K B G0 g)):PW X (.BoolOp .Or (a::b::rest) pos) (tBo X.K B G0 (mOr f g)):=pwof (HV ha hb) λ_ _ _ q=>Gz q
theorem Ev{f:M Bool}(ha:PT X a (tBo X.K B G0 f)):PT X (.UnaryOp .Not a pos) (tBo X.K B G0 (UY f)):=Ym (PZ ha) λσ H Q q=>tM.map (R:=λ_ b c=>b=c) (λt=>!t) q λ_ v x e=>by rw[e]
def KG(f:M D):M Bool:=UH f λx=>match x with | .bool t=>UA t|_=>λ_=>.bad
theorem Eu{f:M D}(h:PE X e (tD X.K B G0 f))(he:∀whole,isTrue e X.env whole=(do let v ←whole;standAt e.pos;holding [v] (truthy v)):=by intro _;rfl):PT X e (tBo X.K B G0 (KG f)):=
 Ym (P1 h he) λσ H Q q=>tM.one (R:=Rep X.K) q λv H2 G Z x k r a=>by
  cases x with
  |bool t=>exact⟨t,r.bl_inv,aft.now (v:=t) a k qt⟩
  |_=>exact a.elim
def Wm(f g:M D):M D:=UH f λx=>match x with | .bool qv=>g | .bool qw=>UA (.bool qw)|_=>λ_=>.bad
def Yp(f g:M D):M D:=UH f λx=>match x with | .bool qv=>UA (.bool qv) | .bool qw=>g|_=>λ_=>.bad
def TH(f:M D):M D:=UH f λx=>match x with | .bool t=>UA (.bool (!t))|_=>λ_=>.bad
theorem Et{f g:M D}(ha:PE X a (tD X.K B G0 f))(hb:PE X (.BoolOp .And (b::rest) pos) (tD X.K B G0 g)):PE X (.BoolOp .And (a::b::rest) pos) (tD X.K B G0 (Wm f g)):=
 UU (Go ha hb) λσ H Q q=>tM.one (R:=Rep X.K) q λv H2 G Z x k r a=>by
  cases x with
  |bool t=>
   refine⟨t,r.bl_inv,?_⟩;cases t with
   |true=>exact⟨G,Z,k,a⟩
   |false=>exact aft.now a k (.bl qw)
  |_=>exact a.elim
theorem Gx{f g:M D}(ha:PE X a (tD X.K B G0 f))(hb:PE X (.BoolOp .Or (b::rest) pos) (tD X.K B G0 g)):PE X (.BoolOp .Or (a::b::rest) pos) (tD X.K B G0 (Yp f g)):=
 UU (HR ha hb) λσ H Q q=>tM.one (R:=Rep X.K) q λv H2 G Z x k r a=>by
  cases x with
  |bool t=>
   refine⟨t,r.bl_inv,?_⟩;cases t with
   |false=>exact⟨G,Z,k,a⟩
   |true=>exact aft.now a k (.bl qv)
  |_=>exact a.elim
theorem Es{op}{f:M D}(h:PE X a (tD X.K B G0 f)):PE X (.BoolOp op [a] pos) (tD X.K B G0 f):=Gp h
theorem Er{f:M D}(ha:PE X a (tD X.K B G0 f)):PE X (.UnaryOp .Not a pos) (tD X.K B G0 (TH f)):=
 UU (Gn ha) λσ H Q q=>tM.one (R:=Rep X.K) q λv H2 G Z x k r a=>by
  cases x with
  |bool t=>exact⟨t,r.bl_inv,aft.now a k (.bl _)⟩
  |_=>exact a.elim
theorem Ep{f:M D}{j p2}(ha:PE X a (tD X.K B G0 f)):PT X (.Compare a [.Is] [.Constant .none j p2] pos) (tBo X.K B G0 (UI isNon f)):=
 Ym (P2 (P4 ha)) λσ H Q q=>tM.one (R:=Rep X.K) q λv H2 G Z x k r a=>⟨_,rfl,aft.now a k (by rw[r.isNon])⟩
theorem D6{f:M D}{j p2}(ha:PE X a (tD X.K B G0 f)):PT X (.Compare a [.IsNot] [.Constant .none j p2] pos) (tBo X.K B G0 (UI (λd=>!isNon d) f)):=
 Ym (P2 (OY ha)) λσ H Q q=>tM.one (R:=Rep X.K) q λv H2 G Z x k r a=>⟨_,rfl,aft.now a k (by dsimp only;rw[r.isNon])⟩
theorem Eo{f:M D}{j p2}(ha:PE X a (tD X.K B G0 f)):PE X (.Compare a [.Is] [.Constant .none j p2] pos) (tD X.K B G0 (UI (λd=>.bool (isNon d)) f)):=
 UU (P3 (P4 ha)) λσ H Q q=>tM.one (R:=Rep X.K) q λv H2 G Z x k r a=>aft.now a k (by dsimp only;rw[r.isNon];exact .bl _)
theorem D5{f:M D}{j p2}(ha:PE X a (tD X.K B G0 f)):PE X (.Compare a [.IsNot] [.Constant .none j p2] pos) (tD X.K B G0 (UI (λd=>.bool (!isNon d)) f)):=
 UU (P3 (OY ha)) λσ H Q q=>tM.one (R:=Rep X.K) q λv H2 G Z x k r a=>aft.now a k (by dsimp only;rw[r.isNon];exact .bl _)
def Ux:M qx:=UA []
def Uy(f:M D)(g:M qx):M qx:=UH f λx=>UH g λxs=>UA (x::xs)
theorem En:PA X [] (tDs X.K B G0 Ux):=paof YT λσ H Q ⟨G,Z,k,a⟩=>aft.now a k .nil
theorem tM.twoA{K:Frag}{σ:St}{H:Hp}{f:M D}{g:M qx}{β δ:Type}{S:Hp->δ->β->Prop}{k:D->qx->M β}{Q:δ->Hp->Prop}{P:V->List V->Hp->Prop}
  (h:tM K B G0 S (UH f λx=>UH g λy=>k x y) σ H Q)
  (i:∀v u H2 G Z x y,EOk K B G0 G H2 σ Z->Rep K G v x->Reps K G u y->aft K B G0 S (k x y Z) G σ Q->P v u H2) :
  tD K B G0 f σ H (λv H1=>tDs K B G0 g σ H1 λu H2=>P v u H2):=by
 obtain⟨G,Z,e,a⟩:=tM.bind2 (R:=Rep K) (R':=Reps K) OP h;refine⟨G,Z,e,?_⟩;cases q:f Z with
 |bad=>rw[q]at a;exact a.elim
 |ok d Z1=>
  rw[q]at a;intro v G' H' e' s r;obtain⟨x,G2,Z2,e2,a2⟩:=a v G' H' e' s r;refine⟨G2,Z2,e2,?_⟩;cases q2:g Z2 with
  |bad=>rw[q2]at a2;exact a2.elim
  |ok d3 Z3=>rw[q2]at a2;intro u G3 H3 e3 s3 r3;obtain⟨G4,Z4,y,e4,r4,r5,a5⟩:=a2 u G3 H3 e3 s3 r3;exact i v u H3 G4 Z4 x y e4 r4 r5 a5
theorem O6{f:M D}{g:M qx}(ha:PE X e (tD X.K B G0 f))(hr:PA X es (tDs X.K B G0 g))(hs:Ud (e::es) X.env=(qw,eval e X.env)::Ud es X.env:=by rfl) :
  PA X (e::es) (tDs X.K B G0 (Uy f g)):=paof (ZG ha hr hs) λσ H Q q=>tM.twoA q λv u H2 G Z x y k r1 r2 a=>aft.now a k (.cons r1 r2)
def UW(f:M qx):M D:=UH f λxs=>if xs.length<=1000000 then UA (.tuple xs)else λ_=>.bad
def UJ(f:M qx):M D:=UH f λxs=>if xs.length<=1000000 then UA (.list xs)else λ_=>.bad
theorem OM{x1}{f:M qx}(h:PA X es (tDs X.K B G0 f)):PE X (.Tuple es x1 pos) (tD X.K B G0 (UW f)):=
 UU (HZ h) λσ H Q q=>tM.one (R:=Reps X.K) q λv H2 G Z x k r a=>by
  split at a
  .rename_i c
   refine⟨by rw[r.length];exact QH c lim,λp hp=>?_⟩;exact aft.done a k (Ext.new k.gh hp) (.tup (SqT.of Kh) (r.mono (KW (k.gh.free hp))))
  .exact a.elim
theorem OL{f:M qx}(h:PA X es (tDs X.K B G0 f)):PE X (.List es pos) (tD X.K B G0 (UJ f)):=
 UU (PU h) λσ H Q q=>tM.one (R:=Reps X.K) q λv H2 G Z x k r a=>by
  split at a
  .rename_i c
   refine⟨by rw[r.length];exact QH c lim,λp hp=>?_⟩;exact aft.done a k (Ext.new k.gh hp) (.lst (SqL.of Kh) (r.mono (KW (k.gh.free hp))))
  .exact a.elim
def oIx:D->D->qB
 |.list xs,.int i=>atI xs i
 |.tuple xs,.int i=>atI xs i
 |.str z,.int i=>if z.length<=1000000 then(atI z.cps.toList i).map λc=>.str ⟨#[c]⟩else qu
 |_,_=>qu
theorem Reps.atI{K:Frag}{G:Hp}{vs:List V}{ds:qx}{i:Int}{d:D}(r:Reps K G vs ds)(h:L2.atI ds i=O d):∃v,L2.atI vs i=O v/\Rep K G v d:=by
 unfold L2.atI at h⊢;rw[r.length];cases z:ixN ds.length i with
 |none=>rw[z]at h;cases h
 |some j=>rw[z]at h;exact r.get (i:=j) h
theorem Oc{K:Frag}{v u:V}{G H:Hp}{x y d:D}{Q:VK}(s:Same G H)(rx:Rep K G v x)(ry:Rep K G u y)(e:oIx x y=O d)(k:∀w,Rep K G w d->Q w H):rIx K v u H Q:=by
 unfold oIx at e;split at e
 .obtain⟨l,vs,rfl,h1,r1⟩:=rx.lst_inv
  obtain⟨w,e1,r2⟩:=r1.atI e;exact .inl ⟨l,vs,_,w,rfl,ry.int_inv,s.seq h1,e1,k w r2⟩
 .obtain⟨l,vs,rfl,h1,r1⟩:=rx.tup_inv
  obtain⟨w,e1,r2⟩:=r1.atI e;exact .inr (.inl ⟨l,vs,_,w,rfl,ry.int_inv,Yb s h1,e1,k w r2⟩)
 .split at e
  .rename_i z i hz
   cases q:L2.atI z.cps.toList i with
   |none=>rw[q]at e;cases e
   |some ch=>rw[q]at e;cases e;exact .inr (.inr ⟨z,i,ch,rx.str_inv,ry.int_inv,QH hz lim,q,k _ (.str _)⟩)
  .cases e
 .cases e
theorem Gw{f g:M D}(ha:PE X a (tD X.K B G0 f))(hb:PE X b (tD X.K B G0 g))(hs:Rn b):PE X (.Subscript a b pos) (tD X.K B G0 (UD oIx f g)):=
 UU (Pm PQ ha hb hs) λσ H Q q=>tM.two q λv u H2 G Z x y k rx ry a=>by obtain⟨d,e,a⟩:=a.opt;exact Oc k.gh rx ry e λw r=>a.now k r
def UK(i:Nat)(g:M D):M D:=λZ=>match Z[i]? with
 |some (O (.pub d))=>(UH g λy=>UG (oIx d y)) Z
 |some (O (.own _))=>(UH g λy=>λZ'=>match Z'[i]? with|some (O (.own ds))=>UG (oIx (.list ds) y) Z'|_=>.bad) Z
 |_=>.bad
theorem Em{i:Nat}{g:M D}(ha:PE X a (Kg i))(hb:PE X b (tD X.K B G0 g))(hs:Rn b):PE X (.Subscript a b pos) (tD X.K B G0 (UK i g)):=
 UU (Pm PQ ha hb hs) λσ H Q ⟨G,Z,k,a⟩=>by
  unfold UK at a;cases q:Z[i]? with
  |none=>rw[q]at a;exact a.elim
  |some o=>
   cases o with
   |none=>rw[q]at a;exact a.elim
   |some sl=>
    cases sl with
    |deep _ _=>rw[q]at a;exact a.elim
    |pub d=>
     rw[q]at a;obtain⟨v,h1,h2⟩:=k.pub i d q;refine⟨v,h1,G,Z,k,?_⟩;dsimp only[UH]at a;cases z:g Z with
     |bad=>rw[z]at a;exact a.elim
     |ok y Z1=>rw[z]at a;intro u G' H' k' s' r';obtain⟨d',e',a'⟩:=aft.opt a;exact Oc k'.gh (h2.mono s') r' e' λw r=>a' w G' H' k' s' r
    |own ds=>
     rw[q]at a;obtain⟨ad,vs,h1,h2,h3,h4,h5⟩:=k.own i ds q;refine⟨.ref ad,h1,G,Z,k,?_⟩;dsimp only[UH]at a;cases z:g Z with
     |bad=>rw[z]at a;exact a.elim
     |ok y Z1=>
      rw[z]at a;dsimp only at a;intro u G' H' k' s' r';cases z2:Z1[i]? with
      |none=>rw[z2]at a;exact a.elim
      |some o2=>
       cases o2 with
       |none=>rw[z2]at a;exact a.elim
       |some sl2=>
        cases sl2 with
        |deep _ _=>rw[z2]at a;exact a.elim
        |pub d2=>rw[z2]at a;exact a.elim
        |own es2=>
         rw[z2]at a;obtain⟨d',e',a'⟩:=aft.opt a;obtain⟨ad',vs',g1,g2,g3,g4,g5⟩:=k'.own i es2 z2;rw[h1]at g1;cases g1;unfold oIx at e';cases y with
         |int j=>obtain⟨w,e1,r2⟩:=g5.atI e';exact .inl ⟨ad,vs',j,w,rfl,r'.int_inv,SqL.of g4,e1,a' w G' H' k' s' r2⟩
         |_=>cases e'
def cutD(xs:qx)(lo hi:qD):qx:=(xs.drop (HT.sIx xs.length 0 lo)).take (HT.sIx xs.length xs.length hi-HT.sIx xs.length 0 lo)
theorem Reps.cut{K:Frag}{G:Hp}{vs:List V}{ds:qx}(r:Reps K G vs ds)(lo hi:qD):Reps K G (YH vs lo hi) (cutD ds lo hi):=by unfold YH cutD;rw[r.length];exact(r.drop _).take _
def ZZ:D->Option qD
 |.int i=>O (O i)
 |_=>qu
theorem D4:PO X qu (tOi X.K B G0 (UA qu)):=poof Ed λσ H Q ⟨G,Z,k,a⟩=>aft.now a k qt
theorem D3{f:M D}(h:PE X e (tD X.K B G0 f)):PO X (O e) (tOi X.K B G0 (UH f λx=>UG (ZZ x))):=poof (Ec h) λσ H Q q=>tM.one (R:=Rep X.K) q λv H2 G Z x k r a=>by
 cases x with
 |int i=>exact⟨i,r.int_inv,aft.now (v:=O i) a k qt⟩
 |_=>exact a.elim
end
def Yq:List (D×D)->Bool
 |(.none,_)::_=>qv
 |_=>qw
def YE:D->String
 |.none=> "NoneType"
 |.bool _=> "bool"
 |.int _=> "int"
 |.str _=> "str"
 |.list _=> "list"
 |.tuple _=> "tuple"
 |.dict kvs=>if Yq kvs=qv then "" else "dict"
def U6(d:D)(c:String):Bool:=YE d==c || (YE d == "bool" && c == "int")
def Wl:D->Bool
 |.dict kvs=>Yq kvs
 |_=>qw
theorem nty{kvs:List (D×D)}{c:String}(h:(("dict" == c) || ("" == c))=qw):U6 (.dict kvs) c=qw:=by
 obtain⟨h1,h2⟩:=Bool.or_eq_false_iff.mp h
 show((if Yq kvs=qv then "" else "dict")==c || ((if Yq kvs=qv then "" else "dict") == "bool" && c == "int"))=qw
 cases Yq kvs with
 |true=>rw[Qo qt,h2];rfl
 |false=>rw[Qy (by decide),h1];rfl
theorem Ob{ks:List Key}{ds:qx}:YE (.dict ((ks.map kD).zip ds)) = "dict" /\ Wl (.dict ((ks.map kD).zip ds))=qw:=by
 cases ks with
 |nil=>exact⟨rfl,rfl⟩
 |cons k ks=>
  cases ds with
  |nil=>exact⟨rfl,rfl⟩
  |cons d ds=>cases k<;>exact⟨rfl,rfl⟩
theorem El(K:Frag)(d:D)(c:String)(nx:Wl d=qw)(hc:c = "int" ∨ c = "bool" ∨ c = "str" ∨ c = "list" ∨ c = "tuple" ∨ c = "dict"):PySem.W.kitOne K (.type (YE d)) (.type c)=O (U6 d c):=by
 cases d with
 |dict kvs=>
  have e:YE (.dict kvs) = "dict" :=by
   have nx:Yq kvs=qw:=nx
   show(if Yq kvs=qv then "" else "dict")=_
   rw[nx];rfl
  unfold U6;rw[e];rcases hc with rfl|rfl|rfl|rfl|rfl|rfl<;>rfl
 |_=>rcases hc with rfl|rfl|rfl|rfl|rfl|rfl<;>rfl
section
variable{X:Cx}{B G0:Hp}{e a b c:Ua}{pos:Pos}{es rest:qA}
def Z9(X:Cx)(f:J5)(p:qx->qB):Prop:=
 ∃r,ZM X f r/\∀vs G H ds d Q,Same G H->Reps X.K G vs ds->p ds=O d->(∀w G' H',Ext G H G' H'->Rep X.K G' w d->Q w H')->r vs H Q
def Zl(p:qx->qB)(f:M qx):M D:=UH f λxs=>UG (p xs)
theorem Tk{x:Str}{p2:Pos}{id:String}{p:qx->qB}{f:M qx}(hc:Z9 X (.builtin id) p)(hg:Gl X x)(hm:X.mg x=qu)(hv:bootBuiltins x=O (.builtin id))(ha:PA X (e::es) (tDs X.K B G0 f))(hn:x ≠ "__name__" :=by decide)(hdb:(x==("__debug__" : Str))=qw:=by decide)
  (he:Ud (e::es) X.env=(qw,eval e X.env)::Ud es X.env:=by rfl) (hpl:(backTo pos (Ud es X.env)).any (·.1)=qw:=by rfl):PE X (.Call (.Name x p2) (e::es) [] pos) (tD X.K B G0 (Zl p f)):=by
 obtain⟨r,h,i⟩:=hc;refine UU (WJ h hg hm hv ha hn hdb he hpl) λσ H Q q=>tM.one (R:=Reps X.K) q λv H2 G Z x k rr a=>?_
 obtain⟨d,e,a⟩:=a.opt;exact i v G H2 x d Q k.gh rr e λw G' H' ex rw=>a.done k ex rw
theorem Mp{x:Str}{p2:Pos}{T:String}{p:qx->qB}{f:M qx}(hc:Z9 X (.type T) p)(hg:Gl X x)(hm:X.mg x=qu)(hv:bootBuiltins x=O (.type T))(ha:PA X (e::es) (tDs X.K B G0 f))(hn:x ≠ "__name__" :=by decide)(hdb:(x==("__debug__" : Str))=qw:=by decide)
  (he:Ud (e::es) X.env=(qw,eval e X.env)::Ud es X.env:=by rfl) (hpl:(backTo pos (Ud es X.env)).any (·.1)=qw:=by rfl):PE X (.Call (.Name x p2) (e::es) [] pos) (tD X.K B G0 (Zl p f)):=by
 obtain⟨r,h,i⟩:=hc;refine UU (So h hg hm hv ha hn hdb he hpl) λσ H Q q=>tM.one (R:=Reps X.K) q λv H2 G Z x k rr a=>?_
 obtain⟨d,e,a⟩:=a.opt;exact i v G H2 x d Q k.gh rr e λw G' H' ex rw=>a.done k ex rw
theorem Reps.nil_inv{K:Frag}{G:Hp}{vs:List V}(r:Reps K G vs []):vs=[]:=by cases r;rfl
theorem Reps.one_inv{K:Frag}{G:Hp}{vs:List V}{d:D}(r:Reps K G vs [d]):∃v,vs=[v]/\Rep K G v d:=by
 cases r with
 |cons h t=>cases t;exact⟨_,rfl,h⟩
theorem Reps.two_inv{K:Frag}{G:Hp}{vs:List V}{d d':D}(r:Reps K G vs [d,d']):∃v v',vs=[v,v']/\Rep K G v d/\Rep K G v' d':=by
 cases r with
 |cons h t=>obtain⟨v',rfl,r'⟩:=t.one_inv;exact⟨_,v',rfl,h,r'⟩
def U9:qx->qB
 |[.list xs]=>O (.int xs.length)
 |[.tuple xs]=>O (.int xs.length)
 |[.str z]=>if z.length<=1000000 then O (.int z.length)else qu
 |_=>qu
theorem Pr:Z9 X (.builtin "len") U9:=by
 refine⟨_,Na,λvs G H ds d Q s r e k=>?_⟩;unfold U9 at e;split at e
 .cases e
  obtain⟨v,rfl,q⟩:=r.one_inv;obtain⟨l,ws,rfl,h1,r1⟩:=q.lst_inv;exact⟨.ref l,ws.length,rfl,.inl ⟨ws,s.seq h1,rfl⟩,by rw[r1.length];exact k _ G H (.refl s) (.int _)⟩
 .cases e
  obtain⟨v,rfl,q⟩:=r.one_inv;obtain⟨l,ws,rfl,h1,r1⟩:=q.tup_inv;exact⟨.ref l,ws.length,rfl,.inr ⟨ws,Yb s h1,rfl⟩,by rw[r1.length];exact k _ G H (.refl s) (.int _)⟩
 .split at e
  .rename_i z hz
   cases e;obtain⟨v,rfl,q⟩:=r.one_inv;exact⟨.str z,z.length,by rw[q.str_inv],⟨QH hz lim,rfl⟩,k _ G H (.refl s) (.int _)⟩
  .cases e
 .cases e
def TF:qx->qB
 |[.int i,.int j]=>O (.int (if j > i then j else i))
 |_=>qu
theorem Gv(hc:X.calm=qv):Z9 X (.builtin "max") TF:=by
 refine⟨_,Ah hc,λvs G H ds d Q s r e k=>?_⟩;unfold TF at e;split at e
 .cases e
  obtain⟨v,v',rfl,r1,r2⟩:=r.two_inv;exact⟨_,_,by rw[r1.int_inv,r2.int_inv],k _ G H (.refl s) (.int _)⟩
 .cases e
def Kq(i:Nat):M D:=λZ=>match Z[i]? with
 |some (O (.pub d))=>UG (U9 [d]) Z
 |some (O (.own ds))=>.ok (.int ds.length) Z
 |_=>.bad
theorem D2{i:Nat}{p2:Pos}(hg:Gl X "len")(hm:X.mg "len" = qu)(ha:PE X e (Kg i))(he:Ud [e] X.env=[(qw,eval e X.env)]:=by rfl):PE X (.Call (.Name "len" p2) [e] [] pos) (tD X.K B G0 (Kq i)):=by
 refine UU (WJ Na hg hm PySem.boot_len (ZG ha YT (by rw[he];rfl)) (by decide) (by decide) (by rw[he];rfl) qt) λσ H Q ⟨G,Z,k,a⟩=>?_
 unfold Kq at a;cases q:Z[i]? with
 |none=>rw[q]at a;exact a.elim
 |some o=>
  cases o with
  |none=>rw[q]at a;exact a.elim
  |some sl=>
   cases sl with
   |deep _ _=>rw[q]at a;exact a.elim
   |pub d=>
    rw[q]at a;obtain⟨v,h1,h2⟩:=k.pub i d q;refine⟨v,h1,?_⟩;obtain⟨d',e',a'⟩:=aft.opt a;obtain⟨r,hr,ir⟩:=@Pr X;show ∃x n,[v]=[x]/\LenV X.K x H n/\Q (.int n) H;unfold U9 at e';split at e'
    .rename_i xs he'
     injection he' with kG jp;subst kG;cases e'
     obtain⟨l,ws,rfl,g1,r1⟩:=h2.lst_inv;exact⟨.ref l,ws.length,rfl,.inl ⟨ws,k.gh.seq g1,rfl⟩,by rw[r1.length];exact a'.now k (.int _)⟩
    .rename_i xs he'
     injection he' with kG jp;subst kG;cases e'
     obtain⟨l,ws,rfl,g1,r1⟩:=h2.tup_inv;exact⟨.ref l,ws.length,rfl,.inr ⟨ws,Yb k.gh g1,rfl⟩,by rw[r1.length];exact a'.now k (.int _)⟩
    .rename_i z he'
     injection he' with kG jp;subst kG
     split at e'
     .rename_i hz
      cases e';exact⟨.str z,z.length,by rw[h2.str_inv],⟨QH hz lim,rfl⟩,a'.now k (.int _)⟩
     .cases e'
    .cases e'
   |own ds=>rw[q]at a;obtain⟨ad,vs,h1,g2,g3,h4,h5⟩:=k.own i ds q;exact⟨.ref ad,h1,.ref ad,vs.length,rfl,.inl ⟨vs,SqL.of h4,rfl⟩,by rw[h5.length];exact aft.now a k (.int _)⟩
theorem EW{pins:List (J8×Obj)}{s:J6}{σ:St}{G H:Hp}{v:V}{u:J5}{d:D}{cv:J5}{t:Bool}{A:Around}{E:J5->J6->Prop}{Q:J5->J6->Prop}(I:Inv X pins σ H s)(sg:Same G H)(r:Rep X.K G v d)(rv:RelV v u)(nx:Wl d=qw)
  (ek:PySem.W.kitOne X.K (.type (YE d)) cv=O t) (h:∀tk,Q (.bool t) {s with toks:=tk}):Uc (model X.prog X.w) A (call (.builtin "isinstance") [u,cv]) Q E s:=by
 cases r with
 |non=>cases rv;exact Jr PySem.W.kitx_none I.kIn True.intro ek (λz=>nomatch z) h
 |bl y=>cases rv;exact Jr PySem.W.kitx_bool I.kIn True.intro ek (λz=>nomatch z) h
 |int i=>obtain⟨t',rfl⟩:=rv;exact Jr PySem.W.kitx_int I.kIn True.intro ek (λz=>nomatch z) h
 |str y=>obtain⟨t',rfl⟩:=rv;exact Jr PySem.W.kitx_str I.kIn True.intro ek (λz=>nomatch z) h
 |lst hl _=>cases rv;obtain⟨its,r,⟨o,n,e,hc,_,hd⟩,hz⟩:=I.list (sg.seq hl);exact Jr PySem.W.kitx_list I.kIn ⟨o,e,hc⟩ ek (λz=>nomatch z) h
 |tup hl _=>cases rv;obtain⟨its,r,p,hz⟩:=I.tuple (Yb sg hl);obtain⟨o,e,hc,_⟩:=p;exact Jr PySem.W.kitx_tuple I.kIn ⟨o,e,hc⟩ ek (λz=>nomatch z) h
 |@dic ad hd=>
  cases rv;obtain⟨_,_,vs,_,p⟩:=(show KT X.prog X.w H s.heap ad (.dK [])from I.hok ad _ (sg _ _ hd))
  obtain⟨o,es,ep,h1,h2,_⟩:=p;exact Jr PySem.W.kitx_dict I.kIn ⟨o,h1,h2.1⟩ ek (λz=>nomatch z) h
 |exc _ _ _ _=>cases nx
 |@dct ad ks vs ds kvs e0 _ _ hd _=>
  cases rv;subst e0;rw[Ob.1]at ek;obtain⟨_,_,vs,_,p⟩:=(show KT X.prog X.w H s.heap ad (.dK (ks.zip _))from I.hok ad _ (sg _ _ hd))
  obtain⟨o,es,ep,h1,h2,_⟩:=p;exact Jr PySem.W.kitx_dict I.kIn ⟨o,h1,h2.1⟩ ek (λz=>nomatch z) h
 |@dtt ad ob ks vs ds kvs e0 _ hd _=>
  cases rv;subst e0;obtain⟨_,_,_,xs,_,o,es,ep,h1,h2,_⟩:=(show KT X.prog X.w H s.heap ad (.frz ob (.dT (ks.zip _)))from I.hok ad _ (sg _ _ hd))
  exact Jr PySem.W.kitx_dict I.kIn ⟨o,h1,h2.1⟩ ek (λz=>nomatch z) h
theorem EV(c:String)(hc:c = "int" ∨ c = "bool" ∨ c = "str" ∨ c = "list" ∨ c = "tuple" ∨ c = "dict"):typeOf (.type c)=pure (.type "type"):=by rcases hc with rfl|rfl|rfl|rfl|rfl|rfl<;>kernel_rfl
theorem D1:ZM X (.builtin "isinstance") (λxs H Q=>∃v c G d,xs=[v,.ty c]/\Same G H/\Rep X.K G v d/\(c = "int" ∨ c = "bool" ∨ c = "str" ∨ c = "list" ∨ c = "tuple" ∨ c = "dict")/\Q (.bl (U6 d c)) H):=by
 intro pins s σ H xs us Q I r h;obtain⟨v,c,G,d,rfl,sg,rp,hc,q⟩:=h;obtain⟨u,w',rfl,r1,r2⟩:=SL r;cases (show w'=Value.type c from r2);by_cases nx:Wl d=qv
 .cases rp with
  |@exc a C dd bm nm vs ds ck hx hd rr=>
   refine RB (Xv I.ok.mod.kin) pins s σ H [.ref a,.ty c] [u,.type c] Q I r ⟨a,C,dd,bm,qw,.ty c,qw,rfl,⟨nm,ck⟩,sg _ _ hx,.inr ⟨c,rfl,EV c hc,?_⟩,?_⟩
   .rw[ck.ty];rcases hc with rfl|rfl|rfl|rfl|rfl|rfl<;>rfl
   .have e:U6 (.dict [(.none,.tuple [.str nm,.list ds])]) c=qw:=by rcases hc with rfl|rfl|rfl|rfl|rfl|rfl<;>rfl
    rw[e]at q;exact q
  |dct e _ _ _ _=>subst e;rw[Ob.2]at nx;cases nx
  |dtt e _ _ _=>subst e;cases nx
  |_=>cases nx
 .have nx:Wl d=qw:=by simpa using nx
  exact EW I sg rp r1 nx (El X.K d c nx hc) λtk=>⟨.bl _,H,I.tok tk,rfl,q⟩
theorem R7:bootBuiltins "isinstance" = O (.builtin "isinstance"):=by decide +kernel
theorem Tj{f:M D}{p2 p3:Pos}{c:String}(hc:c = "int" ∨ c = "bool" ∨ c = "str" ∨ c = "list" ∨ c = "tuple" ∨ c = "dict")(hg:Gl X "isinstance")(hm:X.mg "isinstance" = qu)(jZ:Gl X (Uq c))(hm2:X.mg (Uq c)=qu)
  (hv2:bootBuiltins (Uq c)=O (.type c)) (ha:PE X e (tD X.K B G0 f)) (hn2:(Uq c) ≠ "__name__") (hd2:((Uq c)==("__debug__" : Str))=qw)
  (hs:Ud [e,.Name (Uq c) p3] X.env=(qw,eval e X.env)::Ud [.Name (Uq c) p3] X.env:=by rfl)
  (hs2:Ud [.Name (Uq c) p3] X.env=[(qw,eval (.Name (Uq c) p3) X.env)]:=by rfl) :
  PE X (.Call (.Name "isinstance" p2) [e,.Name (Uq c) p3] [] pos) (tD X.K B G0 (UI (λd=>.bool (U6 d c)) f)):=by
 refine UU (WJ D1 hg hm R7 (ZG ha (ZG (OZ (v:=.ty c) jZ hm2 hv2 qt hn2 hd2) YT (by rw[hs2];rfl)) hs) (by decide) (by decide) hs (by rw[hs2];rfl)) λσ H Q q=>?_
 refine tM.one (R:=Rep X.K) q λv H2 G Z x k r a=>?_
 exact⟨v,c,G,x,rfl,k.gh,r,hc,aft.now a k (.bl _)⟩
end
def spD(K:Frag)(n:Nat)(F:qx->qB):Sp:=λvs H Q _=>∃G ds d,vs.length=n/\Same G H/\Reps K G vs ds/\F ds=O d/\∀v G' H',Ext G H G' H'->Rep K G' v d->Q v H'
section
variable{K:Frag}{B G0 G H:Hp}{σ:St}{Z:Uw}
theorem EOk.exit(k:EOk K B G0 G H σ Z):Ext G0 B G H:=⟨k.bh,k.g0,k.gh,k.np⟩
theorem Yi{α:Type}{l:List α}{i:Nat}{x y:α}(h:(l.set i x)[i]?=O y):y=x:=by
 by_cases hl:i<l.length
 .rw[QI hl]at h;cases h;rfl
 .rw[Js (by rw[Jb];omega)]at h;cases h
theorem DpOk.setOther{i:Nat}{x:Option V}{y:Option Sl}(k:DpOk K B G H σ Z)(hy:∀s,y=O s->∃d,s=.pub d):DpOk K B G H (σ.set i x) (Z.set i y):=by
 have nz:∀{m:Nat}{s:Sl},(Z.set i y)[m]?=O (O s)->(∃d,s=.pub d)∨(Z[m]?=O (O s)/\(σ.set i x)[m]?=σ[m]?):=λ{m s} q=>by
  by_cases z:i=m
  .subst z
   exact .inl (hy s (Yi q).symm)
  .rw[Qn z]at q⊢;exact .inr ⟨q,rfl⟩
 refine k.map (λm p d q=>?_) (λm es q=>?_) λm p d v fp q s r w n=>⟨r,w⟩
 .rcases nz q with ⟨_,e⟩|q
  .cases e
  .exact q
 .rcases nz q with ⟨_,e⟩|q
  .cases e
  .exact⟨es,q⟩
theorem EOk.setPub{i:Nat}{v:V}{d:D}(k:EOk K B G0 G H σ Z)(r:Rep K G v d)(hi:i<Z.length):EOk K B G0 G H (σ.set i (O v)) (Z.set i (O (.pub d))) where
 bh:=k.bh
 gh:=k.gh
 g0:=k.g0
 np:=k.np
 len:=by rw[Jb,Jb];exact k.len
 pub:=λj d' q=>by
  by_cases z:i=j
  .subst z
   have:=Yi q;cases this;exact⟨v,QI (by rw[←k.len];exact hi),r⟩
  .rw[Qn z]at q⊢
   exact k.pub j d' q
 own:=λj ds q=>by
  by_cases z:i=j
  .subst z
   have:=Yi q;cases this
  .rw[Qn z]at q⊢
   exact k.own j ds q
 sep:=λj l c es fs q1 q2 s1 s2=>by
  have z1:i≠j:=λz=>by subst z;have:=Yi q1;cases this
  have z2:i≠l:=λz=>by subst z;have:=Yi q2;cases this
  rw[Qn z1]at q1 s1;rw[Qn z2]at q2 s2;exact k.sep j l c es fs q1 q2 s1 s2
 dp:=k.dp.setOther (λs e=>by cases e;exact⟨_,rfl⟩)
structure NewL(K:Frag)(B G H:Hp)(σ:St)(Z:Uw)(a:J8)(vs:List V)(ds:qx):Prop where
 b:B a=qu
 g:G a=qu
 h:H a=O (.lst vs)
 r:Reps K G vs ds
 f:∀(j:Nat) es,Z[j]?=O (O (.own es))->σ[j]?≠O (O (.ref a))
 dp:∀(j:Nat) p d v fp,Z[j]?=O (O (.deep p d))->σ[j]?=O (O v)->RepO K G H p v d fp->a∉fp
theorem EOk.freshD{H':Hp}{a:J8}(k:EOk K B G0 G H σ Z)(e:Same H H')(ha:H a=qu){G':Hp}{j:Nat}{p:Pat}{d:D}{v:V}{fp:qF}(q:Z[j]?=O (O (.deep p d)))(s:σ[j]?=O (O v))(r:RepO K G' H' p v d fp):a∉fp:=λm=>by obtain⟨ω,k1,k2⟩:=k.dp;obtain⟨v',fp',s',r',n,w⟩:=k1 j p d q;rw[s]at s';cases s';have u:=r'.uniq e r;subst u;obtain⟨ws,hl⟩:=r'.isl a m;rw[ha]at hl;cases hl
theorem EOk.setOwn{i:Nat}{a:J8}{vs:List V}{ds:qx}(k:EOk K B G0 G H σ Z)(n:NewL K B G H σ Z a vs ds)(hi:i<Z.length):EOk K B G0 G H (σ.set i (O (.ref a))) (Z.set i (O (.own ds))) where
 bh:=k.bh
 gh:=k.gh
 g0:=k.g0
 np:=k.np
 len:=by rw[Jb,Jb];exact k.len
 pub:=λj d' q=>by
  by_cases z:i=j
  .subst z
   have:=Yi q;cases this
  .rw[Qn z]at q⊢
   exact k.pub j d' q
 own:=λj es q=>by
  by_cases z:i=j
  .subst z
   have:=Yi q;cases this;exact⟨a,vs,QI (by rw[←k.len];exact hi),n.b,n.g,n.h,n.r⟩
  .rw[Qn z]at q⊢
   exact k.own j es q
 sep:=λj l c es fs q1 q2 s1 s2=>by
  have hs:i<σ.length:=by rw[←k.len];exact hi
  by_cases z1:i=j
  .subst z1
   rw[QI hs]at s1;cases s1;by_cases z2:i=l
   .exact z2
   .rw[Qn z2]at q2 s2
    exact absurd s2 (n.f l fs q2)
  .by_cases z2:i=l
   .subst z2
    rw[QI hs]at s2;cases s2;rw[Qn z1]at q1 s1;exact absurd s1 (n.f j es q1)
   .rw[Qn z1]at q1 s1
    rw[Qn z2]at q2 s2;exact k.sep j l c es fs q1 q2 s1 s2
 dp:=by
  obtain⟨ω,k1,k2⟩:=k.dp;have hs:i<σ.length:=by rw[←k.len];exact hi
  refine⟨λb=>if b=a then i else ω b,λj p d q=>?_,λj es b q s=>?_⟩
  .by_cases z:i=j
   .subst z;have:=Yi q;cases this
   .rw[Qn z]at q⊢
    obtain⟨v,fp,s,r,nn,w⟩:=k1 j p d q;refine⟨v,fp,s,r,nn,λb m=>⟨(w b m).1,(w b m).2.1,?_⟩⟩;dsimp only;rw[Qy (λz=>n.dp j p d v fp q s r (by rw[←z];exact m))];exact(w b m).2.2
  .by_cases z:i=j
   .subst z
    rw[QI hs]at s;cases s;dsimp only;rw[Qo qt]
   .rw[Qn z]at q s
    dsimp only;rw[Qy (λe=>n.f j es q (by rw[←e];exact s))];exact k2 j es b q s
theorem EOk.change{i:Nat}{a:J8}{vs:List V}{ds es:qx}(k:EOk K B G0 G H σ Z)(q:Z[i]?=O (O (.own ds)))(ha:σ[i]?=O (O (.ref a)))(r:Reps K G vs es) :
  EOk K B G0 G (upd H a (.lst vs)) σ (Z.set i (O (.own es))):=by
 obtain⟨a',ws,h1,h2,h3,h4,h5⟩:=k.own i ds q;rw[ha]at h1;cases h1;have hi:i<Z.length:=(Ql.mp q).1;refine⟨λb o e=>?_,λb o e=>?_,k.g0,k.np,by rw[Jb];exact k.len,λj d' e=>?_,λj fs e=>?_,λj l c fs gs q1 q2 s1 s2=>?_,?_⟩
 .rw[U4 (Yj e h2)];exact k.bh b o e
 .rw[U4 (Yj e h3)];exact k.gh b o e
 .by_cases z:i=j
  .subst z
   have:=Yi e;cases this
  .rw[Qn z]at e
   exact k.pub j d' e
 .by_cases z:i=j
  .subst z
   have:=Yi e;cases this;exact⟨a,vs,ha,h2,h3,Kh,r⟩
  .rw[Qn z]at e
   obtain⟨c,us,g1,g2,g3,g4,g5⟩:=k.own j fs e;have zc:c≠a:=λw=>z (k.sep i j a ds fs q e ha (by rw[←w];exact g1))
   exact⟨c,us,g1,g2,g3,by rw[U4 zc];exact g4,g5⟩
 .have f:∀{m:Nat}{ts:qx},(Z.set i (O (Sl.own es)))[m]?=O (O (.own ts))->∃ts',Z[m]?=O (O (.own ts')):=λ{m ts} e=>by
   by_cases z:i=m
   .subst z;exact⟨ds,q⟩
   .rw[Qn z]at e;exact⟨ts,e⟩
  obtain⟨f1,w1⟩:=f q1;obtain⟨f2,w2⟩:=f q2;exact k.sep j l c f1 f2 w1 w2 s1 s2
 .refine k.dp.map (λj p d e=>?_) (λj fs e=>?_) λj p d v fp qj s rj w n=>⟨rj.upd (λ_ z=>by rw[h4]at z;cases z) (n i ds a q ha),w⟩
  .by_cases z:i=j
   .subst z;have:=Yi e;cases this
   .rw[Qn z]at e;exact⟨e,rfl⟩
  .by_cases z:i=j
   .subst z;exact⟨ds,q,rfl⟩
   .rw[Qn z]at e;exact⟨fs,e,rfl⟩
end
inductive Out where
 |nx (Z:Uw)|rt (d:D)|bk (Z:Uw)|ct (Z:Uw)|ex (Z:Uw) (d:D)|ro (ds:qx)|bad
abbrev SM:=Uw->Out
section
variable(K:Frag)(B G0:Hp)(KX:XW)
def aftS(o:Out)(G1:Hp)(Dn:Ends):Prop:=
 match o with
 |.nx Z=>∀σ G H,EOk K B G0 G H σ Z->Same G1 G->Dn.nx σ H
 |.bk Z=>∀σ G H,EOk K B G0 G H σ Z->Same G1 G->Dn.bk σ H
 |.ct Z=>∀σ G H,EOk K B G0 G H σ Z->Same G1 G->Dn.ct σ H
 |.rt d=>∀v G H,Ext G0 B G H->Rep K G v d->Dn.rt v H
 |.ro ds=>∀a vs G H,Ext G0 B G H->B a=qu->G a=qu->H a=O (.lst vs)->Reps K G vs ds->Dn.rt (.ref a) H
 |.ex Z d=>∀v σ G H,EOk K B G0 G H σ Z->Same G1 G->Rep K G v d->KX v σ H
 |.bad=>False
def tS(g:SM):TS:=λDn σ H=>∃G Z,EOk K B G0 G H σ Z/\aftS K B G0 KX (g Z) G Dn
def sB{α:Type}(f:M α)(g:α->SM):SM:=λZ=>match f Z with | .ok a Z'=>g a Z' | .bad=>.bad
end
section
variable{X:Cx}{B G0:Hp}{KX:XW}{e a b c:Ua}{pos:Pos}{es rest:qA}{st:Stmt}{sts sts2:List Stmt}
theorem aftS.mono{K:Frag}{o:Out}{G G':Hp}{Dn:Ends}(e:Same G G')(h:aftS K B G0 KX o G Dn):aftS K B G0 KX o G' Dn:=by
 cases o with
 |nx Z=>exact λσ G2 H2 k s=>h σ G2 H2 k (e.trans s)
 |bk Z=>exact λσ G2 H2 k s=>h σ G2 H2 k (e.trans s)
 |ct Z=>exact λσ G2 H2 k s=>h σ G2 H2 k (e.trans s)
 |rt d=>exact h
 |ro ds=>exact h
 |ex Z d=>exact λv σ G2 H2 k s r=>h v σ G2 H2 k (e.trans s) r
 |bad=>exact h
theorem tS.bnd{K:Frag}{α γ:Type}{R:Hp->γ->α->Prop}{f:M α}{g:α->SM}{Dn:Ends}{σ:St}{H:Hp}{P:γ->Hp->Prop}(q:tS K B G0 KX (sB f g) Dn σ H)
  (i:∀v H' G' Z' x,EOk K B G0 G' H' σ Z'->R G' v x->aftS K B G0 KX (g x Z') G' Dn->P v H'):tM K B G0 R f σ H P:=by
 obtain⟨G,Z,k,a⟩:=q;refine⟨G,Z,k,?_⟩;unfold sB at a;cases z:f Z with
 |bad=>rw[z]at a;exact a.elim
 |ok d Z1=>rw[z]at a;exact λv G' H' e s r=>i v H' G' Z1 d e r (aftS.mono s a)
def sNx:SM:=λZ=>.nx Z
def UC(g h:SM):SM:=λZ=>match g Z with | .nx Z'=>h Z'|o=>o
theorem Gu:PSs X [] (tS X.K B G0 KX sNx):=Pu Ei λD σ H ⟨G,Z,k,a⟩=>a σ G H k (.refl _)
theorem OK{g h:SM}(h1:PS X st (tS X.K B G0 KX g))(h2:PSs X sts (tS X.K B G0 KX h)):PSs X (st::sts) (tS X.K B G0 KX (UC g h)):=Pu (Sk h1 h2) λD σ H ⟨G,Z,k,a⟩=>by
 refine⟨G,Z,k,?_⟩;unfold UC at a;cases z:g Z with
 |nx Z1=>rw[z]at a;exact λσ' G' H' k' s'=>⟨G',Z1,k',aftS.mono s' a⟩
 |rt d=>rw[z]at a;exact a
 |ro ds=>rw[z]at a;exact a
 |bk Z1=>rw[z]at a;exact a
 |ct Z1=>rw[z]at a;exact a
 |ex Z1 d=>rw[z]at a;exact a
 |bad=>rw[z]at a;exact a.elim
theorem GW{g:SM}(h1:PS X st (tS X.K B G0 KX g)):PSs X [st] (tS X.K B G0 KX g):=Sd h1
def Z8:SM:=λ_=>.bad
theorem DZ:PS X st (tS X.K B G0 KX Z8):=λ_ _ _ _ _ _ ⟨_,_,_,a⟩=>a.elim
theorem CV:PSs X sts (tS X.K B G0 KX Z8):=λ_ _ _ _ _ _ ⟨_,_,_,a⟩=>a.elim
def UP(f:M D):SM:=sB f λd _=>.rt d
theorem GV{f:M D}(h:PE X e (tD X.K B G0 f)):PS X (.Return (O e) pos) (tS X.K B G0 KX (UP f)):=KI (PY h) λD σ H q=>tS.bnd (R:=Rep X.K) q λv H' G' Z' x k r a=>a v G' H' k.exit r
def Ww(f:M D):SM:=sB f λ_ Z=>.nx Z
theorem EU{f:M D}(h:PE X e (tD X.K B G0 f))(hs:swapsWith e qu pos.line X.env=pure qw:=by rfl):PS X (.Expr e pos) (tS X.K B G0 KX (Ww f)):=KI (VD h hs) λD σ H q=>tS.bnd (R:=Rep X.K) q λv H' G' Z' x k r a=>a σ G' H' k (.refl _)
def sIf(f:M Bool)(g h:SM):SM:=sB f λt=>if t=qv then g else h
theorem Ll{f:M Bool}{g h:SM}(hc:PT X c (tBo X.K B G0 f))(ha:PSs X sts (tS X.K B G0 KX g))(hb:PSs X sts2 (tS X.K B G0 KX h)):PS X (.If c sts sts2 pos) (tS X.K B G0 KX (sIf f g h)):=
 KI (Pq hc ha hb) λD σ H q=>tS.bnd (R:=λ_ b c=>b=c) q λv H' G' Z' x k r a=>by
  have r:v=x:=r;subst r;cases v with
  |true=>exact⟨G',Z',k,a⟩
  |false=>exact⟨G',Z',k,a⟩
def tG(K:Frag)(B G0:Hp)(s:D->Uw->qE):TG:=λv σ H Q=>∃G Z d Z',EOk K B G0 G H σ Z/\Rep K G v d/\s d Z=O Z'/\∀σ' G' H',EOk K B G0 G' H' σ' Z'->Same G G'->Q σ' H'
def tGs(K:Frag)(B G0:Hp)(s:qx->Uw->qE):TGs:=λv σ H Q=>∃G Z d Z',EOk K B G0 G H σ Z/\Reps K G v d/\s d Z=O Z'/\∀σ' G' H',EOk K B G0 G' H' σ' Z'->Same G G'->Q σ' H'
theorem pgof{t t':TG}(h:PG X e t)(i:∀v σ H Q,t' v σ H Q->t v σ H Q):PG X e t':=λpins s σ H v u Q I r q=>h pins s σ H v u Q I r (i v σ H Q q)
theorem Py{t t':TGs}(h:PGs X es t)(i:∀v σ H Q,t' v σ H Q->t v σ H Q):PGs X es t':=λpins s σ H v u Q I r q=>h pins s σ H v u Q I r (i v σ H Q q)
def gN(i:Nat):D->Uw->qE:=λd Z=>if i<Z.length then O (Z.set i (O (.pub d)))else qu
theorem OJ{i:Nat}(h:PG X e (SN i)):PG X e (tG X.K B G0 (gN i)):=pgof h λv σ H Q ⟨G,Z,d,Z',k,r,e,q⟩=>by
 unfold gN at e;split at e
 .rename_i hi
  cases e;exact q _ G H (k.setPub r hi) (.refl _)
 .cases e
def gN0:qx->Uw->qE:=λd Z=>match d with | []=>O Z|_=>qu
def gNC(s:D->Uw->qE)(t:qx->Uw->qE):qx->Uw->qE:=λds Z=>match ds with|d::r=>(s d Z).bind (t r) | []=>qu
theorem GU:PGs X [] (tGs X.K B G0 gN0):=Py Eh λv σ H Q ⟨G,Z,d,Z',k,r,e,q⟩=>by
 cases r with
 |nil=>cases e;exact⟨rfl,q σ G H k (.refl _)⟩
 |cons _ _=>cases e
theorem ET{s:D->Uw->qE}{t:qx->Uw->qE}(h1:PG X e (tG X.K B G0 s))(h2:PGs X es (tGs X.K B G0 t))
  (hs:(Ut (e::es) X.env).map (·.2)=assign e X.env::(Ut es X.env).map (·.2):=by rfl):PGs X (e::es) (tGs X.K B G0 (gNC s t)):=Py (DI h1 h2 hs) λv σ H Q ⟨G,Z,d,Z',k,r,e,q⟩=>by
 cases r with
 |nil=>cases e
 |@cons w dw ws dws rw rt=>
  unfold gNC at e;dsimp only at e;cases z:s dw Z with
  |none=>rw[z]at e;cases e
  |some Z1=>rw[z]at e;refine⟨w,ws,rfl,G,Z,dw,Z1,k,rw,z,λσ' G' H' k' s'=>?_⟩;exact⟨G',Z1,dws,Z',k',rt.mono s',e,λσ2 G2 H2 k2 s2=>q σ2 G2 H2 k2 (s'.trans s2)⟩
def gT(n:Nat)(t:qx->Uw->qE):D->Uw->qE:=λd Z=>match d with | .tuple ds=>if ds.length=n then t ds Z else qu|_=>qu
theorem GT{k1:Nat}{t:qx->Uw->qE}{n:Nat}(hc:X.calm=qv)(h:PGs X es (tGs X.K B G0 t))
  (hn:(Ut es X.env).length=n:=by rfl) (hst:(Ut es X.env).findIdx? (·.1)=qu:=by rfl):PG X (.Tuple es k1 pos) (tG X.K B G0 (gT n t)):=pgof (Gm hc h hn hst) λv σ H Q ⟨G,Z,d,Z',k,r,e,q⟩=>by
 unfold gT at e;split at e
 .split at e
  .rename_i hl
   obtain⟨ad,vs,rfl,h1,r1⟩:=r.tup_inv;exact⟨ad,vs,rfl,Yb k.gh h1,by rw[r1.length];exact hl,G,Z,_,Z',k,r1,e,q⟩
  .cases e
 .cases e
def K4(f:M D)(s:D->Uw->qE):SM:=sB f λd Z=>match s d Z with|some Z'=>.nx Z'|none=>.bad
theorem GS{tg:Ua}{f:M D}{s:D->Uw->qE}(he:PE X e (tD X.K B G0 f))(hg:PG X tg (tG X.K B G0 s))(hs:swapsWithSole [tg] e pos.line X.env=pure qw:=by rfl)(hw:swappedStores [tg] e X.env=pure qu:=by rfl)
  (h1:(Ut [tg] X.env).map (·.2)=[assign tg X.env]:=by rfl):PS X (.Assign [tg] e pos) (tS X.K B G0 KX (K4 f s)):=
 KI (Gk he hg hs hw h1) λD σ H q=>tS.bnd (R:=Rep X.K) q λv H' G' Z' x k r a=>by
  cases z:s x Z' with
  |none=>rw[z]at a;exact a.elim
  |some Z2=>rw[z]at a;exact⟨G',Z',x,Z2,k,r,z,λσ2 G2 H2 k2 s2=>a σ2 G2 H2 k2 s2⟩
def UR(i:Nat)(f:M D):SM:=K4 f (gN i)
theorem GR{i:Nat}{x:Str}{f:M D}{p2:Pos}(hN:X.N.Nodup)(hi:X.N[i]?=O x)(hx:Loc X.env.scope x)(he:PE X e (tD X.K B G0 f))(hs:swapsWith e (O (.Name x p2)) pos.line X.env=pure qw:=by rfl)
  (hf:X.fn x=qv∨X.env.scope.names.lookup x=O .local:=by first|exact .inl rfl|exact .inr rfl|assumption):PS X (.Assign [.Name x p2] e pos) (tS X.K B G0 KX (UR i f)):=
 KI (Ra hN hi hx he hs hf) λD σ H q=>tS.bnd (R:=Rep X.K) q λv H' G' Z' x k r a=>by
  unfold gN at a;split at a
  .rename_i Z2 hz
   split at hz
   .rename_i hi2
    cases hz;exact a _ G' H' (k.setPub r hi2) (.refl _)
   .cases hz
  .exact a.elim
def tL(K:Frag)(B G0:Hp)(f:M qx):TE:=λσ H Q=>∃G Z,EOk K B G0 G H σ Z/\match f Z with
 |.ok ds Z'=>∀a vs G' H',EOk K B G0 G' H' σ Z'->Same G G'->NewL K B G' H' σ Z' a vs ds->Q (.ref a) H'
 |.bad=>False
def Kx(i:Nat)(f:M qx):SM:=sB f λds Z=>if i<Z.length then .nx (Z.set i (O (.own ds)))else .bad
theorem ES{i:Nat}{x:Str}{f:M qx}{p2:Pos}(hN:X.N.Nodup)(hi:X.N[i]?=O x)(hx:Loc X.env.scope x)(he:PE X e (tL X.K B G0 f))(hs:swapsWith e (O (.Name x p2)) pos.line X.env=pure qw:=by rfl)
  (hf:X.fn x=qv∨X.env.scope.names.lookup x=O .local:=by first|exact .inl rfl|exact .inr rfl|assumption):PS X (.Assign [.Name x p2] e pos) (tS X.K B G0 KX (Kx i f)):=
 KI (Ra hN hi hx he hs hf) λD σ H ⟨G,Z,k,a⟩=>by
  refine⟨G,Z,k,?_⟩;unfold Kx sB at a;cases z:f Z with
  |bad=>rw[z]at a;exact a.elim
  |ok ds Z1=>
   rw[z]at a;intro ad vs G' H' k' s' n;dsimp only at a;split at a
   .rename_i hl
    exact a _ G' H' (k'.setOwn n hl) s'
   .exact a.elim
theorem NewL.of{K:Frag}{G H:Hp}{σ:St}{Z:Uw}{p:J8}{vs:List V}{ds:qx}(k:EOk K B G0 G H σ Z)(hp:H p=qu)(r:Reps K G vs ds):NewL K B G (upd H p (.lst vs)) σ Z p vs ds where
 b:=k.bh.free hp
 g:=k.gh.free hp
 h:=Kh
 r:=r
 f:=λj es q z=>by obtain⟨a,ws,h1,h2,h3,h4,h5⟩:=k.own j es q;rw[z]at h1;cases h1;rw[hp]at h4;cases h4
 dp:=λj pt d v fp q s rr=>k.freshD (KW hp) hp q s rr
theorem OI{f:M qx}(h:PA X es (tDs X.K B G0 f)):PE X (.List es pos) (tL X.K B G0 (UH f λxs=>if xs.length<=1000000 then UA xs else λ_=>.bad)):=
 UU (PU h) λσ H Q ⟨G,Z,k,a⟩=>by
  refine⟨G,Z,k,?_⟩;unfold UH at a;cases z:f Z with
  |bad=>rw[z]at a;exact a.elim
  |ok ds Z1=>
   rw[z]at a;dsimp only at a;intro v G' H' k' s' r;by_cases c:ds.length<=1000000
   .rw[Qo c]at a
    refine⟨by rw[r.length];exact QH c lim,λp hp=>?_⟩;exact a p v G' _ (k'.ext (Ext.hid k'.gh hp)) s' (NewL.of k' hp r)
   .rw[Qy c]at a;exact a.elim
def Ze(i:Nat)(f:M D):SM:=λZ0=>match Z0[i]? with
 |some (O (.own _))=>sB f (λd Z=>match Z[i]? with
  |some (O (.own ds))=>if ds.length<1000000 then .nx (Z.set i (O (.own (ds++[d]))))else .bad
  |_=>.bad) Z0
 |_=>.bad
theorem GQ{i:Nat}{f:M D}{o:Ua}{apos cpos:Pos}(ho:PE X o (Kg i))(he:PE X e (tD X.K B G0 f))
  (hbase:attributeBase o "append" X.env (eval o X.env)=eval o X.env:=by rfl)
  (hfew:((backTo cpos (Ud [e] X.env)).all (λx=>!x.1)&&(backToKw cpos (keywordEach [] X.env)).all (λx=>x.1.isSome)
   && decide ([e].length+([]:List Keyword).length+(if([]:List Keyword).isEmpty then 0 else 1)<30))=qv:=by rfl)
  (hline:(apos.endLine==cpos.line)=qv:=by rfl) (hs:Ud [e] X.env=[(qw,eval e X.env)]:=by rfl)
  (hsw:swapsWith (.Call (.Attribute o "append" apos) [e] [] cpos) qu pos.line X.env=pure qw:=by rfl) :
  PS X (.Expr (.Call (.Attribute o "append" apos) [e] [] cpos) pos) (tS X.K B G0 KX (Ze i f)):=
 KI (VD (SK PySem.F.plainAttrs_list PySem.F.slot_list_append PySem.F.type_list_append N4 ho (ZG he YT (by rw[hs];rfl)) hbase hfew hline (by rw[hs];rfl) qt) hsw) λD σ H ⟨G,Z,k,a⟩=>by
  unfold Ze at a;cases q0:Z[i]? with
  |none=>rw[q0]at a;exact a.elim
  |some o0=>
   cases o0 with
   |none=>rw[q0]at a;exact a.elim
   |some sl0=>
    cases sl0 with
    |deep _ _=>rw[q0]at a;exact a.elim
    |pub d=>rw[q0]at a;exact a.elim
    |own j9=>
     rw[q0]at a;obtain⟨ad,vs0,h1,h2,h3,h4,h5⟩:=k.own i j9 q0;refine⟨.ref ad,h1,.inl ⟨rfl,_,SqL.of h4⟩,G,Z,k,?_⟩;unfold sB at a;cases z:f Z with
     |bad=>rw[z]at a;exact a.elim
     |ok d Z1=>
      rw[z]at a;dsimp only at a;intro v G' H' k' s' r';cases q:Z1[i]? with
      |none=>rw[q]at a;exact a.elim
      |some o=>
       cases o with
       |none=>rw[q]at a;exact a.elim
       |some sl=>
        cases sl with
        |deep _ _=>rw[q]at a;exact a.elim
        |pub d=>rw[q]at a;exact a.elim
        |own ds=>
         rw[q]at a;dsimp only at a;split at a
         .rename_i hl
          obtain⟨ad',vs,g1,g2,g3,g4,g5⟩:=k'.own i ds q;rw[h1]at g1;cases g1;refine⟨ad,vs,v,rfl,rfl,g4,by rw[g5.length];exact Qz hl lim,?_⟩;exact a σ G' _ (k'.change q h1 (g5.append (.cons r' .nil))) s'
         .exact a.elim
end
structure Yu(K:Frag)(J:It)(ds:qx)(G1:Hp):Prop where
 go:∀i G H,Same G1 G->Same G H->i<ds.length->J.go i H
 stop:∀i G H,Same G1 G->Same G H->ds.length<=i->J.stop i H
 yld:∀i G H x H' d,Same G1 G->Same G H->ds[i]?=O d->J.yld i H x H'->∃G',Ext G H G' H'/\Rep K G' x d
def iD(K:Frag)(B G0:Hp)(f:M qx):TI:=λσ H R=>∃G Z,EOk K B G0 G H σ Z/\match f Z with
 |.ok ds Z'=>∀J G' H',EOk K B G0 G' H' σ Z'->Same G G'->Yu K J ds G'->R J H'
 |.bad=>False
section
variable{X:Cx}{B G0:Hp}{KX:XW}{e a b c tg:Ua}{pos:Pos}{es rest:qA}{st:Stmt}{sts sts2:List Stmt}
theorem YF{t t':TI}(h:PI X tg e t)(i:∀σ H R,t' σ H R->t σ H R):PI X tg e t':=λpins s σ H R I q=>h pins s σ H R I (i σ H R q)
theorem tM.toI{K:Frag}{α γ:Type}{R0:Hp->γ->α->Prop}{f:M α}{g:α->M qx}{σ:St}{H:Hp}{R:It->Hp->Prop}{P:γ->Hp->Prop}(q:iD K B G0 (UH f g) σ H R)
  (i:∀v H' G' Z' x,EOk K B G0 G' H' σ Z'->R0 G' v x->(match g x Z' with
   |.ok ds Z2=>∀J G2 H2,EOk K B G0 G2 H2 σ Z2->Same G' G2->Yu K J ds G2->R J H2
   |.bad=>False)->P v H'):tM K B G0 R0 f σ H P:=by
 obtain⟨G,Z,k,a⟩:=q;refine⟨G,Z,k,?_⟩;unfold UH at a;cases z:f Z with
 |bad=>rw[z]at a;exact a.elim
 |ok d Z1=>
  rw[z]at a;intro v G' H' e s r;refine i v H' G' Z1 d e r ?_;dsimp only at a;cases z2:g d Z1 with
  |bad=>rw[z2]at a;exact a.elim
  |ok ds Z2=>rw[z2]at a;exact λJ G2 H2 k2 s2 it=>a J G2 H2 k2 (s.trans s2) it
theorem BR{K:Frag}{G1:Hp}{ad:J8}{vs:List V}{ds:qx}(h:SqL K G1 ad vs)(r:Reps K G1 vs ds):Yu K (Itl K ad) ds G1 where
 go:=λi G H s1 s2 hi=>by
  have hi':i<vs.length:=by rw[r.length];exact hi
  exact⟨vs,vs[i],(s1.trans s2).seq h,Qe hi'⟩
 stop:=λi G H s1 s2 hi=>⟨vs,(s1.trans s2).seq h,by rw[r.length];exact hi⟩
 yld:=λi G H x H' d s1 s2 e y=>by obtain⟨rfl,y⟩:=y;obtain⟨v,e1,r1⟩:=r.get e;have:=y vs ((s1.trans s2).seq h);rw[e1]at this;cases this;exact⟨G,.refl s2,r1.mono s1⟩
def Zk(lo hi:Int):qx:=(Uf (hi-lo).toNat).map λ(k:Nat)=>.int (lo+k)
theorem Xr(lo hi:Int):(Zk lo hi).length=(hi-lo).toNat:=by unfold Zk;rw[Qd,Jy]
theorem Ml{K:Frag}{G1:Hp}(lo hi:Int):Yu K (Itr lo (hi-lo).toNat) (Zk lo hi) G1 where
 go:=λi G H s1 s2 h=>by rw[Xr]at h;exact h
 stop:=λi G H s1 s2 h=>by rw[Xr]at h;exact h
 yld:=λi G H x H' d s1 s2 e y=>by
  obtain⟨rfl,rfl⟩:=y;unfold Zk at e;rw[Qi]at e;have hi:i<(Uf (hi-lo).toNat).length:=by refine Nat.lt_of_not_le λz=>?_;rw[Js z]at e;cases e
  rw[Qe hi,List.getElem_range]at e;cases e;exact⟨G,.refl s2,.int _⟩
def Vs:qx->Option qx
 |[.int j]=>if j<=1000000 /\ -1000000<=j then O (Zk 0 j)else qu
 |_=>qu
def Vr:qx->Option qx
 |[.int i,.int j]=>if j<=1000000 /\ -1000000<=j/\i<=1000000 /\ -1000000<=i then O (Zk i j)else qu
 |_=>qu
def YU(f:M qx):M qx:=UH f λx=>UG (Vs x)
def VZ(f:M qx):M qx:=UH f λx=>UG (Vr x)
theorem Bw{f:M qx}{p2:Pos}(hg:Gl X "range")(hm:X.mg "range" = qu)(ha:PA X [a] (tDs X.K B G0 f))(hs:Ud [a] X.env=[(qw,eval a X.env)]:=by rfl) :
  PI X tg (.Call (.Name "range" p2) [a] [] pos) (iD X.K B G0 (YU f)):=YF (Al hg hm ha hs) λσ H R q=>tM.toI (R0:=Reps X.K) q λv H' G' Z' x k r a=>by
 cases z:Vs x with
 |none=>rw[z]at a;exact a.elim
 |some ds=>
  rw[z]at a;unfold Vs at z;split at z
  .split at z
   .rename_i j c
    cases z;obtain⟨w,rfl,r'⟩:=r.one_inv;refine⟨j,by rw[r'.int_inv],by omega,by omega,?_⟩;have it:=Ml (K:=X.K) (G1:=G') 0 j;rw[Int.sub_zero]at it;exact a _ G' H' k (.refl _) it
   .cases z
  .cases z
theorem Bv{f:M qx}{p2:Pos}(hg:Gl X "range")(hm:X.mg "range" = qu)(ha:PA X [a,b] (tDs X.K B G0 f))(hs:Ud [a,b] X.env=[(qw,eval a X.env),(qw,eval b X.env)]:=by rfl)(hs2:Ud [b] X.env=[(qw,eval b X.env)]:=by rfl) :
  PI X tg (.Call (.Name "range" p2) [a,b] [] pos) (iD X.K B G0 (VZ f)):=YF (Ak hg hm ha hs hs2) λσ H R q=>tM.toI (R0:=Reps X.K) q λv H' G' Z' x k r a=>by
 cases z:Vr x with
 |none=>rw[z]at a;exact a.elim
 |some ds=>
  rw[z]at a;unfold Vr at z;split at z
  .split at z
   .rename_i i j c
    cases z;obtain⟨w,w',rfl,r1,r2⟩:=r.two_inv;refine⟨i,j,by rw[r1.int_inv,r2.int_inv],⟨by omega,by omega,by omega,by omega⟩,?_⟩;exact a _ G' H' k (.refl _) (Ml i j)
   .cases z
  .cases z
def Zp(n:Nat):qx->qx
 |[]=>[]
 |d::r=>.tuple [.int n,d]::Zp (n+1) r
theorem XH:∀(n:Nat)(ds:qx),(Zp n ds).length=ds.length
 |_,[]=>rfl
 |n,d::r=>by rw[Zp,QC,QC,XH]
theorem RI:∀(n:Nat)(ds:qx)(i:Nat),(Zp n ds)[i]?=ds[i]?.map λd=>.tuple [.int ((n+i:Nat):Int),d]
 |_,[],i=>by simp[Zp]
 |n,d::r,0=>by simp[Zp]
 |n,d::r,i+1=>by
  rw[Zp,JH,JH,RI (n+1) r i];have:n+1+i=n+(i+1):=by omega
  rw[this]
theorem BQ{K:Frag}{G1:Hp}{ad:J8}{vs:List V}{ds:qx}(h:SqL K G1 ad vs)(r:Reps K G1 vs ds):Yu K (Ite K ad) (Zp 0 ds) G1 where
 go:=λi G H s1 s2 hi=>by
  rw[XH]at hi;have hi':i<vs.length:=by rw[r.length];exact hi
  exact⟨vs,vs[i],(s1.trans s2).seq h,Qe hi'⟩
 stop:=λi G H s1 s2 hi=>by rw[XH]at hi;exact⟨vs,(s1.trans s2).seq h,by rw[r.length];exact hi⟩
 yld:=λi G H x H' d s1 s2 e y=>by
  obtain⟨p,v,hp,rfl,y,rfl⟩:=y;rw[RI]at e;cases z:ds[i]? with
  |none=>rw[z]at e;cases e
  |some d0=>rw[z]at e;cases e;obtain⟨w,e1,r1⟩:=r.get z;have:=y vs ((s1.trans s2).seq h);rw[e1]at this;cases this;refine⟨upd G p (.tup [.int i,v]),Ext.new s2 hp,.tup (SqT.of Kh) (.cons ?_ (.cons ((r1.mono s1).mono (KW (s2.free hp))) .nil))⟩;rw[JK];exact .int _
def V4:qx->Option qx
 |[.list ds]=>O (Zp 0 ds)
 |_=>qu
def Xj(f:M qx):M qx:=UH f λx=>UG (V4 x)
theorem ER{f:M qx}{p2:Pos}{elts:qA}{x1}{tp:Pos}(hg:Gl X "enumerate")(hm:X.mg "enumerate" = qu)(ha:PA X [a] (tDs X.K B G0 f))(hs:Ud [a] X.env=[(qw,eval a X.env)]:=by rfl) :
  PI X (.Tuple elts x1 tp) (.Call (.Name "enumerate" p2) [a] [] pos) (iD X.K B G0 (Xj f)):=YF (F6 hg hm ha hs) λσ H R q=>tM.toI (R0:=Reps X.K) q λv H' G' Z' x k r a=>by
 cases z:V4 x with
 |none=>rw[z]at a;exact a.elim
 |some ds=>
  rw[z]at a;unfold V4 at z;split at z
  .cases z
   obtain⟨w,rfl,r'⟩:=r.one_inv;obtain⟨ad,vs,rfl,h1,r1⟩:=r'.lst_inv;exact⟨ad,vs,rfl,k.gh.seq h1,a _ G' H' k (.refl _) (BQ h1 r1)⟩
  .cases z
def Xi(s:D->Uw->qE)(g:SM):qx->SM
 |[],Z=>.nx Z
 |d::r,Z=>match s d Z with
  |none=>.bad
  |some Z1=>match g Z1 with
   |.nx Z2=>Xi s g r Z2
   |.ct Z2=>Xi s g r Z2
   |.bk Z2=>.nx Z2
   |.rt d=>.rt d
   |.ro ds=>.ro ds
   |.ex Z2 d=>.ex Z2 d
   |.bad=>.bad
def Kl(f:M qx)(s:D->Uw->qE)(g:SM):SM:=sB f λds=>Xi s g ds
theorem GP{iter:Ua}{body:List Stmt}{f:M qx}{s:D->Uw->qE}{g:SM}(hp:PassesOwn (model X.prog X.w) X.A X.env X.xe)(hc:X.calm=qv)(hi:PI X tg iter (iD X.K B G0 f))(hg:PG X tg (tG X.K B G0 s))(hb:PSs X body (tS X.K B G0 KX g))
  (hs:∀x,Uu iter X.env x=pure x:=by intro _;rfl):PS X (.For tg iter body [] pos) (tS X.K B G0 KX (Kl f s g)):=
 KI (Gj hp hc hi hg hb hs) λDn σ H ⟨G,Z,k,a⟩=>by
  refine⟨G,Z,k,?_⟩;unfold Kl sB at a;cases z:f Z with
  |bad=>rw[z]at a;exact a.elim
  |ok ds Z1=>
   rw[z]at a;dsimp only at a⊢;intro J G1 H1 k1 s1 it;refine⟨λi m σ' H'=>m=ds.length-i/\∃G' Z',EOk X.K B G0 G' H' σ' Z'/\Same G1 G'/\aftS X.K B G0 KX (Xi s g (ds.drop i) Z') G' Dn,⟨ds.length,by omega,G1,Z1,k1,.refl _,by rw[List.drop_zero];exact aftS.mono s1 a⟩,?_⟩;rintro i m σ' H' ⟨rfl,G',Z',k',s',a'⟩;by_cases hi:i<ds.length
   .right
    refine⟨it.go i G' H' s' k'.gh hi,λσ2 H2=>∃G2 Z2,EOk X.K B G0 G2 H2 σ2 Z2/\Same G1 G2/\aftS X.K B G0 KX (Xi s g (ds.drop (i+1)) Z2) G2 Dn,λσ2 H2 h2=>⟨ds.length-(i+1),by omega,rfl,h2⟩,λx H2 y=>?_⟩;obtain⟨G2,ex,rx⟩:=it.yld i G' H' x H2 ds[i] s' k'.gh (Qe hi) y;rw[JC hi,Xi]at a';cases z2:s ds[i] Z' with
    |none=>rw[z2]at a';exact a'.elim
    |some Z2=>
     rw[z2]at a';dsimp only at a';refine⟨G2,Z',ds[i],Z2,k'.ext ex,rx,z2,λσ3 G3 H3 k3 s3=>⟨G3,Z2,k3,?_⟩⟩;have s13:Same G1 G3:=(s'.trans ex.g).trans s3;cases z3:g Z2 with
     |nx Z3=>rw[z3]at a';exact λσ4 G4 H4 k4 s4=>⟨G4,Z3,k4,s13.trans s4,aftS.mono ((ex.g.trans s3).trans s4) a'⟩
     |ct Z3=>rw[z3]at a';exact λσ4 G4 H4 k4 s4=>⟨G4,Z3,k4,s13.trans s4,aftS.mono ((ex.g.trans s3).trans s4) a'⟩
     |bk Z3=>rw[z3]at a';exact λσ4 G4 H4 k4 s4=>a' σ4 G4 H4 k4 ((ex.g.trans s3).trans s4)
     |rt d=>rw[z3]at a';exact a'
     |ro ds=>rw[z3]at a';exact a'
     |ex Z3 d=>rw[z3]at a';exact λv σ4 G4 H4 k4 s4 r4=>a' v σ4 G4 H4 k4 ((ex.g.trans s3).trans s4) r4
     |bad=>rw[z3]at a';exact a'.elim
   .left
    rw[List.drop_eq_nil_of_le (by omega)]at a';exact⟨it.stop i G' H' s' k'.gh (by omega),a' σ' G' H' k' (.refl _)⟩
theorem DY{k:Nat}{f:J8}{fd:J9}{ps:List Str}{F:qx->qB}{g:M qx}{x:Str}{p2:Pos}{n:Nat}(FK:FnOk X.prog X.w X.K X.mg X.base CX0 k f fd ps (spD X.K n F))(hr:Room k X.A)(hg:Gl X x)(hm:X.mg x=O (.ref f))(hk:PySem.W.keepIn X.K (.ref f)=qv)
  (hb:ZL X.K fd ps []) (ha:PA X (e::es) (tDs X.K B G0 g)) (hn:(e::es).length=n) (hdb:(x==("__debug__" : Str))=qw:=by decide) (he:Ud (e::es) X.env=(qw,eval e X.env)::Ud es X.env:=by rfl) (hpl:(backTo pos (Ud es X.env)).any (·.1)=qw:=by rfl) :
  PE X (.Call (.Name x p2) (e::es) [] pos) (tD X.K B G0 (UH g λxs=>if xs.length=n then UG (F xs)else λ_=>.bad)):=
 UU (Ef FK hr hg hm hk hb .nil Pl ha hdb he hpl) λσ H Q q=>tM.one (R:=Reps X.K) q λv H2 G Z ds k r a=>by
  split at a
  .rename_i hl
   obtain⟨d,e,a⟩:=a.opt;exact⟨G,ds,d,by rw[Jh,r.length];exact hl,k.gh,by rw[Jh];exact r,e,λw G' H' ex rw=>a.done k ex rw⟩
  .exact a.elim
end
def ZI(N:List Str)(ds:qx):Uw:=(ds.map λd=>O (Sl.pub d))++Ug (N.length-ds.length) qu
theorem O5{K:Frag}{N:List Str}{G H:Hp}{vs:List V}{ds:qx}(s:Same G H)(r:Reps K G vs ds):EOk K H G G H (L2.YV N vs) (ZI N ds) where
 bh:=.refl _
 gh:=s
 g0:=.refl _
 np:=λ_ _ _ n=>n
 len:=by unfold L2.YV ZI;rw[Qm,Qm,Qd,Qd,QT,QT,r.length]
 pub:=λi d q=>by
  unfold ZI at q;unfold L2.YV;by_cases hi:i<ds.length
  .rw[Qq (by rw[Qd];exact hi),Qi]at q
   cases z:ds[i]? with
   |none=>rw[z]at q;cases q
   |some d'=>rw[z]at q;cases q;obtain⟨v,e1,r1⟩:=r.get z;refine⟨v,?_,r1⟩;rw[Qq (by rw[Qd,r.length];exact hi),Qi,e1];rfl
  .rw[Qv (by rw[Qd];omega),Qw]at q
   split at q<;>cases q
 own:=λi es q=>by
  unfold ZI at q;by_cases hi:i<ds.length
  .rw[Qq (by rw[Qd];exact hi),Qi]at q
   cases z:ds[i]? with
   |none=>rw[z]at q;cases q
   |some d'=>rw[z]at q;cases q
  .rw[Qv (by rw[Qd];omega),Qw]at q
   split at q<;>cases q
 sep:=λi j a es fs q _ _ _=>by
  unfold ZI at q;by_cases hi:i<ds.length
  .rw[Qq (by rw[Qd];exact hi),Qi]at q
   cases z:ds[i]? with
   |none=>rw[z]at q;cases q
   |some d'=>rw[z]at q;cases q
  .rw[Qv (by rw[Qd];omega),Qw]at q
   split at q<;>cases q
 dp:=by
  have key:∀{i:Nat}{s:Sl},(ZI N ds)[i]?=O (O s)->∃d,s=.pub d:=λ{i s} q=>by
   unfold ZI at q;by_cases hi:i<ds.length
   .rw[Qq (by rw[Qd];exact hi),Qi]at q
    cases z:ds[i]? with
    |none=>rw[z]at q;cases q
    |some d'=>rw[z]at q;cases q;exact⟨_,rfl⟩
   .rw[Qv (by rw[Qd];omega),Qw]at q
    split at q<;>cases q
  exact .of (λi p d q=>by obtain⟨_,e⟩:=key q;cases e) λi ds q=>by obtain⟨_,e⟩:=key q;cases e
def UX(N:List Str)(g:SM)(ds:qx):qB:=match g (ZI N ds)with
 |.rt d=>O d
 |.nx _=>O .none
 |_=>qu
theorem okD{P:J7}{w:World}{K:Frag}{mg:Str->qC}{base:Heap}{x qual:Str}{st:Stmt}{f:J8}{fd:J9}{N ps:List Str}{k n:Nat}{g:SM}(F:Fun K x qual st f fd)(S:VC N ps (Kw st))(hn:ps.length=n)
  (der:∀(cdv:J5)(A:Around)(outer:List Env)(s:J6)(H:Hp)(E:XK)(B G0:Hp),Room k (A.deeper (envOfC qual (Kw st) s.heap.objs.size f cdv)) ->
   PSs (KJ CX0 P w K mg base N qual (Kw st) f cdv A outer s H E).nox (Zx st) (tS K B G0 KX0 g)):FnOk P w K mg base CX0 (k+1) f fd ps (spD K n (UX N g)):=by
 refine F.ok S (λvs H Q E h=>?_) (λcdv A outer s H vs Q E hr h=>?_)
 .obtain⟨_,_,_,hl,_⟩:=h
  rw[hl,hn]
 .obtain⟨G,ds,d,hl,sg,r,hF,q⟩:=h
  refine⟨_,der cdv A outer s H E H G hr,G,ZI N ds,O5 sg r,?_⟩;unfold UX at hF;cases z:g (ZI N ds)with
  |rt d'=>rw[z]at hF;cases hF;exact λv G' H' ex rr=>q v G' H' ex rr
  |nx Z=>rw[z]at hF;cases hF;exact λσ' G' H' k' _=>q .non G' H' k'.exit .non
  |ro ds=>rw[z]at hF;cases hF
  |bk Z=>rw[z]at hF;cases hF
  |ct Z=>rw[z]at hF;cases hF
  |ex Z d=>rw[z]at hF;cases hF
  |bad=>rw[z]at hF;cases hF
section
variable{X:Cx}{B G0:Hp}{e a b c tg:Ua}{pos:Pos}{es rest:qA}
def oNeg:D->qB
 |.int i=>O (.int (-i))
 |_=>qu
def ZV(f:M D):M D:=UH f λx=>UG (oNeg x)
theorem EQ{f:M D}(h:PE X a (tD X.K B G0 f)):PE X (.UnaryOp .USub a pos) (tD X.K B G0 (ZV f)):=
 UU (HL Gc h) λσ H Q q=>tM.one (R:=Rep X.K) q λv H2 G Z x k r a=>by
  cases x with
  |int i=>exact⟨i,r.int_inv,aft.now a k (.int _)⟩
  |_=>exact a.elim
end
def Def(P:J7)(w:World)(K:Frag)(mg:Str->qC)(base:Heap)(x:Str)(k n:Nat)(F:qx->qB):Prop:=
 ∃(f:J8)(fd:J9)(ps:List Str),mg x=O (.ref f)/\PySem.W.keepIn K (.ref f)=qv/\ZL K fd ps []/\FnOk P w K mg base CX0 k f fd ps (spD K n F)
def UL(n:Nat)(F:qx->qB)(g:M qx):M D:=UH g λxs=>if xs.length=n then UG (F xs)else λ_=>.bad
section
variable{X:Cx}{B G0:Hp}{e:Ua}{pos:Pos}{es:qA}
theorem EO{k n:Nat}{F:qx->qB}{g:M qx}{x:Str}{p2:Pos}(d:Def X.prog X.w X.K X.mg X.base x k n F)(hr:Room k X.A)(hg:Gl X x)(ha:PA X (e::es) (tDs X.K B G0 g))(hn:(e::es).length=n:=by rfl)
  (hdb:(x==("__debug__" : Str))=qw:=by decide) (he:Ud (e::es) X.env=(qw,eval e X.env)::Ud es X.env:=by rfl) (hpl:(backTo pos (Ud es X.env)).any (·.1)=qw:=by rfl) :
  PE X (.Call (.Name x p2) (e::es) [] pos) (tD X.K B G0 (UL n F g)):=by
 obtain⟨f,fd,ps,h1,h2,h3,h4⟩:=d;exact DY h4 hr hg h1 h2 h3 ha hn hdb he hpl
end
theorem Def.mk{P:J7}{w:World}{K:Frag}{mg:Str->qC}{base:Heap}{x:Str}{k n:Nat}{F:qx->qB}{st:Stmt}{f:J8}{fd:J9}{ps:List Str}(hm:mg x=O (.ref f))(FU:Fun K x x st f fd)(hb:ZL K fd ps [])(ok:FnOk P w K mg base CX0 k f fd ps (spD K n F)) :
  Def P w K mg base x k n F:=⟨f,fd,ps,hm,FU.kp,hb,ok⟩
theorem GO{K:Frag}{H:Hp}{a:J8}{ns:qy}{F:qx->qB}{E:XK}(hS:SqL K H a (ns.map V.int))(h:F [.list (ns.map int)]=O (.bool qv)):spD K 1 F [.ref a] H (λv _=>v=.bl qv) E:=
 ⟨H,[.list (ns.map int)],.bool qv,rfl,.refl _,.cons (.lst hS (Reps.ints ns)) .nil,h,λ_ _ _ _ r=>r.bl_inv⟩
end DL
namespace L2
open PySem PySem.Spec PyProof.Rows
theorem mem_of_lookup{x:Str}{k:NameKind}:∀{l:List (Str×NameKind)},l.lookup x=O k->(x,k)∈l
 |[],h=>by cases h
 |(y,j)::r,h=>by
  rw[QO]at h;split at h
  .rename_i e
   cases h;have:x=y:=by simpa using e
   rw[this];exact Qp
  .exact Qu _ (mem_of_lookup h)
theorem RX{env:Env}:∀(l:List (Str×NameKind))(acc:List (Str×J8)),(∀y∈l,y.2=.free->∃c,env.cells.lookup y.1=O c) ->
  ∃cl,(forIn l acc (λx r=>if(x.2==NameKind.free)=qv then(do let a ←cellOf env x.1;pure (ForInStep.yield ((x.1,a)::r)))else pure (ForInStep.yield r)):Sem (List (Str×J8)))=pure cl /\
   (∀x c,cl.lookup x=O c->acc.lookup x=O c∨env.cells.lookup x=O c)/\(∀y∈l,y.2=.free->∃c,cl.lookup y.1=O c)/\(∀x c,acc.lookup x=O c->∃c',cl.lookup x=O c')
 |[],acc,_=>⟨acc,rfl,λ_ _ h=>.inl h,λ_ h=>absurd h (by simp),λx c h=>⟨c,h⟩⟩
 |(n,k)::r,acc,h=>by
  by_cases hk:k=.free
  .subst hk
   obtain⟨c,hc⟩:=h (n,.free) Qp qt;obtain⟨cl,e,p1,p2,p3⟩:=RX r ((n,c)::acc) λy hy=>h y (Qu _ hy)
   have hco:cellOf env n=pure c:=by unfold cellOf;rw[hc]
   have key:∀x c',((n,c)::acc).lookup x=O c'->acc.lookup x=O c'∨env.cells.lookup x=O c':=λx c' q=>by
    rw[QO]at q;split at q
    .rename_i e1
     cases q;have:x=n:=by simpa using e1
     subst this;exact .inr hc
    .exact .inl q
   have own:((n,c)::acc).lookup n=O c:=by rw[List.lookup_cons];simp
   refine⟨cl,?_,λx c' q=>?_,λy hy hf=>?_,λx c' q=>?_⟩
   .rw[List.forIn_cons]
    have:(if(((n,NameKind.free):Str×NameKind).2==NameKind.free)=qv then(do let a ←cellOf env n;pure (ForInStep.yield ((n,a)::acc)))else pure (ForInStep.yield acc):Sem _)=pure (ForInStep.yield ((n,c)::acc)):=by rw[Qo (show((n,NameKind.free).snd==NameKind.free)=qv from rfl),hco];rfl
    refine Eq.trans ?_ e;dsimp only at this⊢;rw[this];rfl
   .rcases p1 x c' q with z|z
    .exact key x c' z
    .exact .inr z
   .rcases QL.mp hy with z|z
    .subst z
     exact p3 n c own
    .exact p2 y z hf
   .by_cases hx:x=n
    .subst hx;exact p3 x c own
    .refine p3 x c' ?_
     have hb:(x==n)=qw:=by simpa using hx
     rw[QO,hb];exact q
  .obtain⟨cl,e,p1,p2,p3⟩:=RX r acc λy hy=>h y (Qu _ hy)
   refine⟨cl,?_,p1,λy hy hf=>?_,p3⟩
   .rw[List.forIn_cons]
    have hb:(k==NameKind.free)=qw:=by cases k<;>first|rfl|exact absurd qt hk
    refine Eq.trans ?_ e;dsimp only;rw[hb,Qy (by decide)];rfl
   .rcases QL.mp hy with z|z
    .subst z;exact absurd hf hk
    .exact p2 y z hf
theorem Mo{scope:Scope}{env:Env}(h:∀y∈scope.names,y.2=.free->∃c,env.cells.lookup y.1=O c) :
  ∃cl,closureFor scope env=pure cl/\(∀x c,cl.lookup x=O c->env.cells.lookup x=O c)/\∀y∈scope.names,y.2=.free->∃c,cl.lookup y.1=O c:=by
 obtain⟨cl,e,p1,p2,_⟩:=RX scope.names [] h;refine⟨cl,?_,λx c q=>(p1 x c q).elim (λz=>by cases z) id,p2⟩;have e2:((forIn scope.names [] (λx r=>if(x.2==NameKind.free)=qv then(do let a ←cellOf env x.1;pure (ForInStep.yield ((x.1,a)::r)))else pure (ForInStep.yield r)):Sem (List (Str×J8))) >>= λs=>pure s)=pure cl:=by rw[e];rfl
 exact e2
theorem Mk{env:Env}{x:Str}{k:NameKind}:∀{names:List (Str×NameKind)},(names.map λ(n,k)=>if(k==NameKind.free&&env.scope.kind==.function&&env.kindOf n==O .cell)then(n,NameKind.cell)else(n,k)).lookup x=O k ->
  names.lookup x=O k∨(names.lookup x=O .free/\k=.cell)
 |[],h=>by cases h
 |(n,j)::r,h=>by
  have ih:=@Mk env x k r;have h:List.lookup x ((if(j==NameKind.free&&env.scope.kind==.function&&env.kindOf n==O .cell)=qv then(n,NameKind.cell)else(n,j))::_)=O k:=h;cases hx:x==n with
  |true=>
   by_cases hc:(j==NameKind.free&&env.scope.kind==.function&&env.kindOf n==O .cell)=qv
   .rw[Qo hc]at h
    simp only[QO,hx]at h⊢;cases h;simp only[Qx]at hc;have:j=.free:=by have:=hc.1.1;cases j<;>first|rfl|cases this
    subst this;exact .inr ⟨rfl,rfl⟩
   .rw[Qy hc]at h
    simp only[QO,hx]at h⊢;exact .inl h
  |false=>
   by_cases hc:(j==NameKind.free&&env.scope.kind==.function&&env.kindOf n==O .cell)=qv
   .rw[Qo hc]at h
    simp only[QO,hx]at h⊢;exact ih h
   .rw[Qy hc]at h
    simp only[QO,hx]at h⊢;exact ih h
theorem MK{env:Env}{x:Str}:∀{names:List (Str×NameKind)},names.lookup x=O .free ->
  (names.map λ(n,k)=>if(k==NameKind.free&&env.scope.kind==.function&&env.kindOf n==O .cell)then(n,NameKind.cell)else(n,k)).lookup x=O .free ∨
  (names.map λ(n,k)=>if(k==NameKind.free&&env.scope.kind==.function&&env.kindOf n==O .cell)then(n,NameKind.cell)else(n,k)).lookup x=O .cell
 |[],h=>by cases h
 |(n,j)::r,h=>by
  have ih:=@MK env x r;show List.lookup x ((if(j==NameKind.free&&env.scope.kind==.function&&env.kindOf n==O .cell)=qv then(n,NameKind.cell)else(n,j))::_)=_∨List.lookup x ((if(j==NameKind.free&&env.scope.kind==.function&&env.kindOf n==O .cell)=qv then(n,NameKind.cell)else(n,j))::_)=_;cases hx:x==n with
  |true=>
   simp only[QO,hx]at h;cases h;by_cases hc:(NameKind.free==NameKind.free&&env.scope.kind==.function&&env.kindOf n==O .cell)=qv
   .rw[if_pos hc];simp[List.lookup_cons,hx]
   .rw[if_neg hc];simp[List.lookup_cons,hx]
  |false=>
   simp only[QO,hx]at h;by_cases hc:(j==NameKind.free&&env.scope.kind==.function&&env.kindOf n==O .cell)=qv
   .rw[Qo hc];simp only[QO,hx];exact ih h
   .rw[Qy hc];simp only[QO,hx];exact ih h
theorem My{env:Env}{x:Str}:∀{names:List (Str×NameKind)},names.lookup x=O .globalImplicit ->
  (names.map λ(n,k)=>if(k==NameKind.free&&env.scope.kind==.function&&env.kindOf n==O .cell)then(n,NameKind.cell)else(n,k)).lookup x=O .globalImplicit
 |[],h=>by cases h
 |(n,j)::r,h=>by
  have ih:=@My env x r;show List.lookup x ((if(j==NameKind.free&&env.scope.kind==.function&&env.kindOf n==O .cell)=qv then(n,NameKind.cell)else(n,j))::_)=_;cases hx:x==n with
  |true=>simp only[QO,hx]at h;cases h;rw[if_neg (by simp)];simp[List.lookup_cons,hx]
  |false=>
   simp only[QO,hx]at h;by_cases hc:(j==NameKind.free&&env.scope.kind==.function&&env.kindOf n==O .cell)=qv
   .rw[Qo hc];simp only[QO,hx];exact ih h
   .rw[Qy hc];simp only[QO,hx];exact ih h
def Cx.blk(X:Cx)(N':List Str)(scope:Scope)(cl:List (Str×J8))(C:J8)(s₀:J6)(H₀:Hp)(ex:qF):Cx:=
 {X with N:=N',s₀:=s₀,H₀:=H₀,env:=compEnvC scope cl C X.env,outer:=X.stack,ex:=ex,fn:=λ_=>qw,xe:=λ_ _=>False}
section
variable{X:Cx}{N':List Str}{scope:Scope}{cl:List (Str×J8)}{C:J8}{s₀:J6}{H₀:Hp}{ex:qF}{x:Str}
theorem EN(h:scope.names.lookup x=O .local∨scope.names.lookup x=O .free):Vis (X.blk N' scope cl C s₀ H₀ ex).env.scope x:=by
 rcases h with h|h
 .exact .inl (lookup_relabel_local h)
 .rcases MK (env:=X.env) h with z|z
  .exact .inr (.inr z)
  .exact .inr (.inl z)
theorem EM(h:scope.names.lookup x=O .local):Loc (X.blk N' scope cl C s₀ H₀ ex).env.scope x:=.inl (lookup_relabel_local h)
theorem Hq(h:scope.names.lookup x=O .local):(X.blk N' scope cl C s₀ H₀ ex).env.scope.names.lookup x=O .local:=lookup_relabel_local h
theorem Hn(h:scope.names.lookup x=O .globalImplicit):Gl (X.blk N' scope cl C s₀ H₀ ex) x:=My h
end
def Te(names:List (Str×NameKind))(N N2:List Str)(k:Nat):Bool:=
 N2.length==N.length+k&&(Uf N2.length).all λi=>match N2[i]? with
  |none=>qv
  |some x=>match names.lookup x with
   |some .free=>N[i]?==O x
   |some .local=>decide (N.length<=i)&&decide (i<N.length+k)
   |some .cell=>qw
   |_=>qv
theorem A1{names:List (Str×NameKind)}{N N2:List Str}{k:Nat}(h:Te names N N2 k=qv) :
  N2.length=N.length+k/\∀(i:Nat) x,N2[i]?=O x->(names.lookup x=O .free->N[i]?=O x)/\(names.lookup x=O .local->N.length<=i/\i<N.length+k):=by
 unfold Te at h;simp only[Qx,beq_iff_eq,Q2,Jf]at h;refine⟨h.1,λi x e=>?_⟩;have hi:=(Ql.mp e).1;have:=h.2 i hi;rw[e]at this;refine⟨λq=>?_,λq=>?_⟩
 .simp only[q]at this
  simpa using this
 .simp only[q]at this
  simpa using this
theorem Inv.enter{X:Cx}{pins:List (J8×Obj)}{σ:St}{H:Hp}{s3:J6}(I:Inv X pins σ H s3){scope:Scope}{cl:List (Str×J8)}{N2:List Str}{k:Nat}{h':Heap}{fp:qF}{t':Nat}{m0:Str->qC}
  (hb:Te scope.names X.N N2 k=qv) (hkind:scope.kind=.function) (hcell:∀y∈scope.names,y.2≠.cell)
  (hfree:∀y∈scope.names,y.2=.free->X.env.scope.names.lookup y.1=O .cell∨X.env.scope.names.lookup y.1=O .free)
  (jr:∀x c,cl.lookup x=O c->X.env.cells.lookup x=O c) (kg:∀y∈scope.names,y.2=.free->∃c,cl.lookup y.1=O c)
  (hn:h'.Ns s3.heap.objs.size m0) (hk:∀b o,s3.heap.get? b=O o->h'.get? b=O o) (hf:∀b∈fp,KD X pins H b) (hfo:∀b∈fp,∃o,s3.heap.get? b=O o) :
  Inv (X.blk N2 scope cl s3.heap.objs.size s3 H fp) pins (σ++Ug k qu) H {s3 with heap:=h',toks:=t'}:=by
 obtain⟨hl,hN⟩:=A1 hb;have lt:∀b o,s3.heap.get? b=O o->b≠s3.heap.objs.size:=λb o e=>QA (Qg e);have ofl:∀x,scope.names.lookup x=O .free->(x,NameKind.free)∈scope.names:=λx h=>mem_of_lookup h;have kinv:∀x kk,(X.blk N2 scope cl s3.heap.objs.size s3 H fp).env.scope.names.lookup x=O kk->scope.names.lookup x=O kk∨(scope.names.lookup x=O .free/\kk=.cell):=λx kk h=>Mk (env:=X.env) h
 have isfree:∀x,(X.blk N2 scope cl s3.heap.objs.size s3 H fp).env.scope.names.lookup x=O .cell∨(X.blk N2 scope cl s3.heap.objs.size s3 H fp).env.scope.names.lookup x=O .free->scope.names.lookup x=O .free:=λx h=>by
  rcases h with h|h
  .rcases kinv x _ h with z|z
   .exact absurd qt (hcell _ (mem_of_lookup z))
   .exact z.1
  .rcases kinv x _ h with z|z
   .exact z
   .exact z.1
 have ok:(X.blk N2 scope cl s3.heap.objs.size s3 H fp).Ok:=
  {
   mod:=I.ok.mod
   kind:=hkind
   glob:=I.ok.glob
   blt:=I.ok.blt
   above:=Qk _
   inj:=λx y c a b=>I.ok.inj x y c (jr x c a) (jr y c b)
   has:=λx h=>kg (x,.free) (ofl x (isfree x h)) qt
   cab:=λx c h=>by cases h
   hd:=I.ok.hd
   frames:=I.ok.frames
   stk:=.inl qt
   exf:=λb hb=>⟨let ⟨o,e⟩:=hfo b hb;lt b o e,λx c e=>(hf b hb).2.2.2.2.1 x c (jr x c e)⟩
   bs:=I.bs
   bsz:=QH I.ok.bsz I.sz
   noex:=λb o e hb=>by
    rcases(hf b hb).2.2.2.1 with z|z
    .exact I.ok.noex b o e z
    .exact absurd (Qz (Qg e) (QH I.ok.bsz z)) (Ja _)
   exfs:=λb hb hx=>by
    rcases QL.mp (I.stkSub b hx)with z|z
    .exact(hf b hb).2.1 z
    .exact(hf b hb).2.2.1 z
   funs:=I.stack
   frf:=I.stkFree}
 refine⟨ok,rfl,I.bare,Un.kept hk,⟨m0,hn,λi x v e1 e2 e3=>?_⟩,λx c e=>?_,I.hok.fresh (Qk _),λx c e=>I.freeC x c (jr x c e),λp hp=>?_,I.hok.kept hk,?_⟩
 .have nl:scope.names.lookup x≠O .local:=λz=>by
   obtain⟨g1,g2⟩:=(hN i x e1).2 z;rw[←I.len]at g1 g2;rw[Qv g1,Qw]at e2;split at e2<;>cases e2
  have fr:scope.names.lookup x=O .free:=by
   rcases e3 with z|z|z
   .rcases kinv x _ z with q|q
    .exact absurd q nl
    .cases q.2
   .exact isfree x (.inl z)
   .exact isfree x (.inr z)
  have eN:=(hN i x e1).1 fr;have hi:i<σ.length:=by rw[I.len];exact(Ql.mp eN).1
  rw[Qq hi]at e2;obtain⟨m,hm,jT⟩:=I.loc;have hkd:=hfree _ (ofl x fr) qt;obtain⟨u,r,l⟩:=jT i x v eN e2 (.inr hkd);refine⟨u,r,.inr ⟨?_,?_⟩⟩
  .rcases e3 with z|z|z
   .rcases kinv x _ z with q|q
    .exact absurd q nl
    .cases q.2
   .exact .inl z
   .exact .inr z
  .rcases l with l|⟨_,c,ec,z⟩
   .have:X.env.scope.names.lookup x=O .local:=l.1
    rcases hkd with q|q<;>(dsimp only at q;rw[this]at q;cases q)
   .obtain⟨c',ec'⟩:=kg _ (ofl x fr) qt
    have:=jr _ _ ec';dsimp only at this ec';rw[ec]at this;cases this;obtain⟨o,ho,hd⟩:=z;exact⟨c,ec',o,hk c o ho,hd⟩
 .obtain⟨v,o,ho,hd⟩:=I.cell x c (jr x c e)
  exact⟨v,o,hk c o ho,hd⟩
 .obtain⟨e,n,ne,nf,d⟩:=I.pin p hp
  refine⟨hk _ _ e,n,lt _ _ e,λz=>?_,d⟩;rcases QL.mp (I.stkSub _ z)with q|q
  .exact ne q
  .exact nf q
 .rw[Qm,QT,I.len]
  exact hl.symm
abbrev nox:J5->J6->Prop:=λ_ _=>False
def WI(prog:J7)(w:World)(A:Around)(tg:Ua)(ifs:qA)(env:Env)(it:J5)(code:Code)(W:(J6->Prop)->J6->Prop):Prop:=
 ∀(R:Result->J6->Prop)(I:Nat->J6->Prop)(n:Nat)(s:J6),I n s ->
  (∀n s,I n s->Uc (model prog w) A (pyNext it) (λr s₁=>match r with
   |none=>R (.ok .next) s₁
   |some v=>Uc (model prog w) A (letOwnedTupleGo tg it v) (λ_ s₁'=>Uc (model prog w) A (assign tg env v) (λ_ s₂=>
     Uc (model prog w) A (forIn ifs qv λc r=>if r=qv then do let ok ←isTrue c env (eval c env);pure (ForInStep.yield ok)else pure (ForInStep.yield r)) (λok s₃=>
      if ok=qv then W (λs₅=>∃m,m<n/\I m s₅) s₃ else ∃m,m<n/\I m s₃) nox s₂) nox s₁') nox s₁) nox s)->codeAny (model prog w) A code R s
section
variable{prog:J7}{w:World}{A:Around}{elt tg i:Ua}{ifs:qA}{gens:List Comprehension}{scope:Scope}{pos:Pos}{it acc:J5}{env:Env}{j:Nat}
theorem Bu(hg:gens[j]?=O ⟨tg,i,ifs,0⟩)(hn:gens[j+1]?=qu):WI prog w A tg ifs env it (.compLoop (.ListComp elt gens scope pos) j it acc env)
  (λQ s=>Uc (model prog w) A (eval elt env) (λx s₄=>Uc (model prog w) A (call (.builtin "list.append") [acc,x]) (λ_ s₅=>Q s₅) nox s₄) nox s):=by
 intro R I n s h turn;refine codeAny_loop qt I (λn s hI=>?_) n h;show Uc _ A ((compTurn (.ListComp elt gens scope pos) j it acc env).onRaise (λx=>do noteFrame x env;theTreesLotGoes x)) _ _ s;refine wpAny_noted ?_;unfold compTurn;dsimp only;simp only[hg,hn];refine Qb (QZ (Qb (Qr (turn n s hI) (λr s₁ h₁=>?_) λ_ _ h'=>h'.elim)));cases r with
 |none=>exact Qh h₁
 |some v=>
  refine Qb (Qr h₁ (λ_ s₁' h₁'=>?_) λ_ _ h'=>h'.elim);refine Qb (Qr h₁' (λ_ s₂ h₂=>Qb (Qr h₂ (λok s₃ h₃=>?_) λ_ _ h'=>h'.elim)) λ_ _ h'=>h'.elim);cases ok with
  |false=>exact Qh ⟨rfl,h₃⟩
  |true=>exact Qb (Qb (Qr h₃ (λx s₄ h₄=>Qb (Qr h₄ (λ_ s₅ h₅=>Qh (Qh ⟨rfl,h₅⟩)) λ_ _ h'=>h'.elim)) λ_ _ h'=>h'.elim))
theorem Bt{js i1:Ua}{ifs1:qA}(hg:gens[j]?=O ⟨tg,i,ifs,0⟩)(hn:gens[j+1]?=O ⟨js,i1,ifs1,0⟩)(hs:∀x,Uu i1 env x=pure x):WI prog w A tg ifs env it (.compLoop (.ListComp elt gens scope pos) j it acc env)
  (λQ s=>Uc (model prog w) A (eval i1 env) (λx s₄=>Uc (model prog w) A (pyIter x) (λja s₅=>codeAny (model prog w) A (.compStart (.ListComp elt gens scope pos) (j+1) ja acc env)
   (λr s₆=>match r with | .ok _=>Q s₆ | .error _=>False) s₅) nox s₄) nox s):=by
 intro R I n s h turn;refine codeAny_loop qt I (λn s hI=>?_) n h;show Uc _ A ((compTurn (.ListComp elt gens scope pos) j it acc env).onRaise (λx=>do noteFrame x env;theTreesLotGoes x)) _ _ s;refine wpAny_noted ?_;unfold compTurn;dsimp only;simp only[hg,hn];refine Qb (QZ (Qb (Qr (turn n s hI) (λr s₁ h₁=>?_) λ_ _ h'=>h'.elim)));cases r with
 |none=>exact Qh h₁
 |some v=>
  refine Qb (Qr h₁ (λ_ s₁' h₁'=>?_) λ_ _ h'=>h'.elim);refine Qb (Qr h₁' (λ_ s₂ h₂=>Qb (Qr h₂ (λok s₃ h₃=>?_) λ_ _ h'=>h'.elim)) λ_ _ h'=>h'.elim);cases ok with
  |false=>exact Qh ⟨rfl,h₃⟩
  |true=>
   refine Qb (Qr h₃ (λx s₄ h₄=>Qb (QZ (Qb (wpAny_of_eq (hs x) (Qb (Jp (Qr h₄ (λja s₅ h₅=>?_) λ_ _ h'=>h'.elim))))))) λ_ _ h'=>h'.elim);refine Qb (wpAny_runOwn (Ji h₅ λr s₆ h₆=>?_));cases r with
   |ok f=>exact Qh ⟨rfl,h₆⟩
   |error x=>exact h₆.elim
theorem A0{R:Result->J6->Prop}{s:J6}(hg:gens[j]?=O ⟨tg,i,ifs,0⟩)
  (h0:codeAny (model prog w) A (.compLoop (.ListComp elt gens scope pos) j it acc env) R s)
  (h:Uc (model prog w) A (pyIter it) (λit' s'=>codeAny (model prog w) A (.compLoop (.ListComp elt gens scope pos) j it' acc env) R s') nox s) :
  codeAny (model prog w) A (.compStart (.ListComp elt gens scope pos) j it acc env) R s:=by
 refine codeAny_of_tree ?_;show Uc _ _ ((compStart (.ListComp elt gens scope pos) j it acc env).onRaise (λx=>do noteFrame x env;standAt theWindowsPlace)) _ _ s;refine wpAny_notedAt ?_;unfold compStart;have hc:(clausesOf (.ListComp elt gens scope pos))[j]?=O ⟨tg,i,ifs,0⟩:=hg;simp only[hc];show Uc _ _ (ask >>= _) _ _ s;refine Qb (wpAny_askSetting (wpAny_ite ?_));split
 .first
   |exact Qb (Qh (Qh (And.intro rfl h0)))
   |exact Qh (And.intro rfl h0)
 .first
   |exact Qb (wpAny_rule (Qb (QZ (Qb (Qr h (λit' s' h'=>Qh (And.intro rfl h')) λ_ _ x=>x.elim)))))
   |(refine Qb (wpAny_rule ?_);show Uc _ _ (standAt _ >>= _) _ _ s;exact Qb (QZ (Qb (Qr h (λit' s' h'=>Qh (And.intro rfl h')) λ_ _ x=>x.elim))))
end
end L2
namespace DL
open PySem PySem.Spec L2
open PyProof.Rows hiding St
def Xh:Option Sl->Option Sl
 |some (.own _)=>qu
 |some (.deep _ _)=>qu
 |x=>x
def U5(Z:Uw):Uw:=Z.map Xh
theorem Bs{Z:Uw}{i:Nat}{d:D}(h:(U5 Z)[i]?=O (O (.pub d))):Z[i]?=O (O (.pub d)):=by
 unfold U5 at h;rw[Qi]at h;cases e:Z[i]? with
 |none=>rw[e]at h;cases h
 |some o=>
  rw[e]at h;cases o with
  |none=>cases h
  |some sl=>cases sl with
   |pub d'=>cases h;rfl
   |own ds=>cases h
   |deep p d'=>cases h
theorem XG{Z:Uw}{i:Nat}{ds:qx}(h:(U5 Z)[i]?=O (O (.own ds))):False:=by
 unfold U5 at h;rw[Qi]at h;cases e:Z[i]? with
 |none=>rw[e]at h;cases h
 |some o=>
  rw[e]at h;cases o with
  |none=>cases h
  |some sl=>cases sl with
   |pub d'=>cases h
   |own ds=>cases h
   |deep p d'=>cases h
theorem RW{Z:Uw}{i:Nat}{p:Pat}{d:D}(h:(U5 Z)[i]?=O (O (.deep p d))):False:=by
 unfold U5 at h;rw[Qi]at h;cases e:Z[i]? with
 |none=>rw[e]at h;cases h
 |some o=>
  rw[e]at h;cases o with
  |none=>cases h
  |some sl=>cases sl<;>cases h
def Ks(s:D->Uw->qE)(t:M Bool)(g:M D):qx->Uw->qx->Option qx
 |[],_,es=>O es
 |d::r,Z,es=>match s d Z with
  |none=>qu
  |some Z1=>match t Z1 with
   |.bad=>qu
   |.ok b Z2=>if b=qv then(match g Z2 with
     |.bad=>qu
     |.ok e Z3=>if es.length<1000000 then Ks s t g r (U5 Z3) (es++[e])else qu)
    else Ks s t g r (U5 Z2) es
def Zu(f:M qx)(k:Nat)(s:D->Uw->qE)(t:M Bool)(g:M D):M qx:=λZ=>match f Z with
 |.bad=>.bad
 |.ok ds Z1=>match Ks s t g ds (U5 Z1++Ug k qu) []with
  |none=>.bad
  |some es=>.ok es Z1
def ZC(X:Cx)(ifs:qA)(t:TT):Prop:=
 ∀(pins:List (J8×Obj))(s:J6)(σ:St)(H:Hp)(Q:Bool->Hp->Prop),Inv X pins σ H s->t σ H Q ->
  Uc (model X.prog X.w) X.A (forIn ifs qv λc r=>if r=qv then do let ok ←isTrue c X.env (eval c X.env);pure (ForInStep.yield ok)else pure (ForInStep.yield r)) (TP X pins σ Q) X.xe s
section
variable{X:Cx}{B G0:Hp}
theorem Fw:ZC X [] (tBo X.K B G0 (UA qv)):=λpins s σ H Q I ⟨G,Z,k,a⟩=>wpAny_tests_nil ⟨H,I,a qv G H k (.refl _) qt⟩
theorem Fv{c:Ua}{t:M Bool}(h:PT X c (tBo X.K B G0 t)):ZC X [c] (tBo X.K B G0 t):=λpins s σ H Q I q=>wpAny_tests_one (h pins s σ H Q I q)
theorem EOk.rebase{K:Frag}{G H:Hp}{σ:St}{Z:Uw}(k:EOk K B G0 G H σ Z):EOk K H G G H σ (U5 Z) where
 bh:=.refl _
 gh:=k.gh
 g0:=.refl _
 np:=λ_ _ _ n=>n
 len:=by unfold U5;rw[Qd];exact k.len
 pub:=λi d q=>k.pub i d (Bs q)
 own:=λi ds q=>(XG q).elim
 sep:=λi j a ds es q=>(XG q).elim
 dp:=.of (λ_ _ _ q=>RW q) λ_ _ q=>XG q
theorem EOk.more{K:Frag}{G H:Hp}{σ:St}{Z:Uw}(k:EOk K H G G H σ (U5 Z))(n:Nat):EOk K H G G H (σ++Ug n qu) (U5 Z++Ug n qu) where
 bh:=.refl _
 gh:=k.gh
 g0:=.refl _
 np:=λ_ _ _ n=>n
 len:=by rw[Qm,Qm,k.len,QT,QT]
 pub:=λi d q=>by
  by_cases hi:i<(U5 Z).length
  .rw[Qq hi]at q
   rw[Qq (by rw[←k.len];exact hi)];exact k.pub i d q
  .rw[Qv (QY hi),Qw]at q
   split at q<;>cases q
 own:=λi ds q=>by
  by_cases hi:i<(U5 Z).length
  .rw[Qq hi]at q
   exact(XG q).elim
  .rw[Qv (QY hi),Qw]at q
   split at q<;>cases q
 sep:=λi j a ds es q=>by
  by_cases hi:i<(U5 Z).length
  .rw[Qq hi]at q
   exact(XG q).elim
  .rw[Qv (QY hi),Qw]at q
   split at q<;>cases q
 dp:=by
  refine .of (λi p d q=>?_) λi ds q=>?_
  .by_cases hi:i<(U5 Z).length
   .rw[Qq hi]at q;exact RW q
   .rw[Qv (QY hi),Qw]at q;split at q<;>cases q
  .by_cases hi:i<(U5 Z).length
   .rw[Qq hi]at q;exact XG q
   .rw[Qv (QY hi),Qw]at q;split at q<;>cases q
theorem EOk.beside{K:Frag}{G H:Hp}{σ:St}{Z:Uw}{a:J8}{o:HO}(k:EOk K B G0 G H σ Z)(hg:G a=qu):EOk K (upd H a o) G G (upd H a o) σ (U5 Z) where
 bh:=.refl _
 gh:=λb u e=>by rw[U4 (λz=>by subst z;rw[hg]at e;cases e)];exact k.gh b u e
 g0:=.refl _
 np:=λ_ _ _ n=>n
 len:=k.rebase.len
 pub:=k.rebase.pub
 own:=λi ds q=>(XG q).elim
 sep:=λi j a ds es q=>(XG q).elim
 dp:=.of (λ_ _ _ q=>RW q) λ_ _ q=>XG q
theorem lim1:1000000<=Ub:=lim
def SE:Option Sl->Option Sl
 |some (.own ds)=>O (.pub (.list ds))
 |some (.deep _ d)=>O (.pub d)
 |x=>x
def K2(Z:Uw):Uw:=Z.map SE
theorem NY{Z:Uw}{i:Nat}{d:D}(h:(K2 Z)[i]?=O (O (.pub d))):Z[i]?=O (O (.pub d))∨(∃ds,d=.list ds/\Z[i]?=O (O (.own ds))) ∨ ∃p,Z[i]?=O (O (.deep p d)):=by
 unfold K2 at h;rw[Qi]at h;cases e:Z[i]? with
 |none=>rw[e]at h;cases h
 |some o=>
  rw[e]at h;cases o with
  |none=>cases h
  |some sl=>cases sl with
   |pub d'=>cases h;exact .inl qt
   |own ds=>cases h;exact .inr (.inl ⟨ds,rfl,rfl⟩)
   |deep p d'=>cases h;exact .inr (.inr ⟨p,rfl⟩)
theorem VL{Z:Uw}{i:Nat}{ds:qx}(h:(K2 Z)[i]?=O (O (.own ds))):False:=by
 unfold K2 at h;rw[Qi]at h;cases e:Z[i]? with
 |none=>rw[e]at h;cases h
 |some o=>
  rw[e]at h;cases o with
  |none=>cases h
  |some sl=>cases sl with
   |pub d'=>cases h
   |own ds=>cases h
   |deep p d'=>cases h
theorem Mx{Z:Uw}{i:Nat}{p:Pat}{d:D}(h:(K2 Z)[i]?=O (O (.deep p d))):False:=by
 unfold K2 at h;rw[Qi]at h;cases e:Z[i]? with
 |none=>rw[e]at h;cases h
 |some o=>
  rw[e]at h;cases o with
  |none=>cases h
  |some sl=>cases sl<;>cases h
def flat:D->Bool
 |.none=>qv | .bool _=>qv | .int _=>qv | .str _=>qv|_=>qw
theorem Rep.flat{K:Frag}{G G':Hp}{v:V}{d:D}(r:Rep K G v d)(h:DL.flat d=qv):Rep K G' v d:=by
 cases r with
 |non=>exact .non
 |bl b=>exact .bl b
 |int i=>exact .int i
 |str x=>exact .str x
 |lst _ _=>cases h
 |tup _ _=>cases h
 |dic _=>cases h
 |exc _ _ _ _=>cases h
 |dct _ _ _ _ _=>cases h
 |dtt _ _ _ _=>cases h
theorem Reps.flat{K:Frag}{G G':Hp}:∀{vs:List V}{ds:qx},Reps K G vs ds->ds.all DL.flat=qv->Reps K G' vs ds
 |_,_,.nil,_=>.nil
 |_,_,.cons r t,h=>by rw[JF,Qx]at h;exact .cons (r.flat h.1) (Reps.flat t h.2)
theorem EOk.lend{K:Frag}{B G0 G H:Hp}{σ:St}{Z:Uw}{D:J8}{o:HO}(k:EOk K B G0 G H σ Z)(hD:H D=qu)(n:Nat):EOk K (upd H D o) H H (upd H D o) (σ++Ug n qu) (K2 Z++Ug n qu) where
 bh:=.refl _
 gh:=KW hD
 g0:=.refl _
 np:=λ_ _ _ n=>n
 len:=by unfold K2;rw[Qm,Qm,Qd,k.len,QT,QT]
 pub:=λi d q=>by
  have hl:(K2 Z).length=Z.length:=by unfold K2;rw[Qd]
  by_cases hi:i<(K2 Z).length
  .rw[Qq hi]at q
   rw[Qq (by rw[←k.len,←hl];exact hi)];rcases NY q with e|⟨ds,rfl,e⟩|⟨p,e⟩
   .obtain⟨v,h1,h2⟩:=k.pub i d e
    exact⟨v,h1,h2.mono k.gh⟩
   .obtain⟨a,vs,h1,h2,h3,h4,h5⟩:=k.own i ds e
    exact⟨.ref a,h1,.lst (SqL.of h4) (h5.mono k.gh)⟩
   .obtain⟨ω,k1,k2⟩:=k.dp
    obtain⟨v,fp,s,r,_⟩:=k1 i p d e;exact⟨v,s,r.rep k.gh⟩
  .rw[Qv (QY hi),Qw]at q
   split at q<;>cases q
 own:=λi ds q=>by
  by_cases hi:i<(K2 Z).length
  .rw[Qq hi]at q
   exact(VL q).elim
  .rw[Qv (QY hi),Qw]at q
   split at q<;>cases q
 sep:=λi j a ds es q=>by
  by_cases hi:i<(K2 Z).length
  .rw[Qq hi]at q
   exact(VL q).elim
  .rw[Qv (QY hi),Qw]at q
   split at q<;>cases q
 dp:=by
  refine .of (λi p d q=>?_) λi ds q=>?_
  .by_cases hi:i<(K2 Z).length
   .rw[Qq hi]at q;exact Mx q
   .rw[Qv (QY hi),Qw]at q;split at q<;>cases q
  .by_cases hi:i<(K2 Z).length
   .rw[Qq hi]at q;exact VL q
   .rw[Qv (QY hi),Qw]at q;split at q<;>cases q
def Wp(f:M qx)(k:Nat)(s:D->Uw->qE)(t:M Bool)(g:M D):M qx:=λZ=>match f Z with
 |.bad=>.bad
 |.ok ds Z1=>match Ks s t g ds (K2 Z1++Ug k qu) []with
  |none=>.bad
  |some es=>if es.all flat=qv then .ok es Z1 else .bad
end
def Xx(s:D->Uw->qE)(t:M Bool)(g:M D):qx->Uw->qx->Option (qx×Uw)
 |[],Z,es=>O (es,Z)
 |d::r,Z,es=>match s d Z with
  |none=>qu
  |some Z1=>match t Z1 with
   |.bad=>qu
   |.ok b Z2=>if b=qv then(match g Z2 with
     |.bad=>qu
     |.ok e Z3=>if es.length<1000000 then Xx s t g r (U5 Z3) (es++[e])else qu)
    else Xx s t g r (U5 Z2) es
def YS(s0:D->Uw->qE)(t0:M Bool)(f1:M qx)(s1:D->Uw->qE)(t1:M Bool)(g:M D):qx->Uw->qx->Option qx
 |[],_,es=>O es
 |d::r,Z,es=>match s0 d Z with
  |none=>qu
  |some Z1=>match t0 Z1 with
   |.bad=>qu
   |.ok b Z2=>if b=qv then(match f1 Z2 with
     |.bad=>qu
     |.ok ds Z3=>match Xx s1 t1 g ds (U5 Z3) es with
      |none=>qu
      |some (es',Z4)=>YS s0 t0 f1 s1 t1 g r Z4 es')
    else YS s0 t0 f1 s1 t1 g r (U5 Z2) es
def WC(f:M qx)(k:Nat)(s:D->Uw->qE)(t:M Bool)(f1:M qx)(kj:D->Uw->qE)(t1':M Bool)(g:M D):M qx:=λZ=>match f Z with
 |.bad=>.bad
 |.ok ds Z1=>match YS s t f1 kj t1' g ds (U5 Z1++Ug k qu) []with
  |none=>.bad
  |some es=>.ok es Z1
abbrev RdB:=Uw->qx->Option (qx×Uw)
def rL(g:M D):RdB:=λZ es=>match g Z with
 |.bad=>qu
 |.ok e Z3=>if es.length<1000000 then O (es++[e],U5 Z3)else qu
def cT(s:D->Uw->qE)(t:M Bool)(rd:RdB):qx->Uw->qx->Option (qx×Uw)
 |[],Z,es=>O (es,Z)
 |d::r,Z,es=>match s d Z with
  |none=>qu
  |some Z1=>match t Z1 with
   |.bad=>qu
   |.ok b Z2=>if b=qv then(match rd Z2 es with
     |none=>qu
     |some (es',Z')=>cT s t rd r Z' es')
    else cT s t rd r (U5 Z2) es
def rN(f:M qx)(s:D->Uw->qE)(t:M Bool)(rd:RdB):RdB:=λZ es=>match f Z with
 |.bad=>qu
 |.ok ds Z3=>cT s t rd ds (U5 Z3) es
structure Left(Y:Cx)(D':J8)(pins:List (J8×Obj))(H G:Hp)(es':qx)(Z':Uw)(σ':St)(H' G':Hp)(vs':List V)(s':J6):Prop where
 inv:Inv Y pins σ' H' s'
 eok:EOk Y.K H' G' G' H' σ' Z'
 hh:∀a o,a≠D'->H a=O o->H' a=O o
 gg:Same G G'
 np:∀a(u:MO),a≠D'->H a=O u.ho->G a=qu->G' a=qu
 hd:H' D'=O (.lst vs')
 gd:G' D'=qu
 rp:Reps Y.K G' vs' es'
def V3(Y:Cx)(D':J8)(W:(J6->Prop)->J6->Prop)(rd:RdB):Prop:=
 ∀(pins:List (J8×Obj))(sh:J6)(σ:St)(B1 G1 H G:Hp)(Z Z':Uw)(vs:List V)(es es':qx)(Q:J6->Prop),
  Inv Y pins σ H sh->EOk Y.K B1 G1 G H σ Z->B1 D'=O (.lst vs)->G1 D'=qu->Reps Y.K G1 vs es->rd Z es=O (es',Z') ->
  (∀σ' H' G' vs' s',Left Y D' pins B1 G1 es' Z' σ' H' G' vs' s'->Q s')->W Q sh
section
variable{Y:Cx}{D':J8}
theorem Br{elt:Ua}{g:M D}(hx:Y.xe=nox)(he:∀B1 G1,PE Y elt (tD Y.K B1 G1 g)) :
  V3 Y D' (λQ s=>Uc (model Y.prog Y.w) Y.A (eval elt Y.env) (λx s₄=>Uc (model Y.prog Y.w) Y.A (call (.builtin "list.append") [.ref D',x]) (λ_ s₅=>Q s₅) nox s₄) nox s) (rL g):=by
 intro pins sh σ B1 G1 H G Z Z' vs es es' Q I k hD gD r z fin;unfold rL at z;cases zg:g Z with
 |bad=>rw[zg]at z;cases z
 |ok e Z4=>
 rw[zg]at z;dsimp only at z;split at z
 .rename_i hle
  cases z;have h:=he B1 G1 pins sh σ H (λv H8=>∃G8,EOk Y.K B1 G1 G8 H8 σ Z4/\Rep Y.K G8 v e) I ⟨G,Z,k,by unfold aft;rw[zg];exact λv G8 H8 k8 _ q=>⟨G8,k8,q⟩⟩;rw[hx]at h;refine thn h λev s8 ⟨v,H8,I8,rv,G8,k8,r8⟩=>?_;have h2:=N4 pins s8 σ H8 (.ref D') [v] (.ref D') [ev] (λ_ H9=>H9=upd H8 D' (.lst (vs++[v]))) I8 qt (.cons rv .nil) ⟨D',vs,v,rfl,rfl,k8.bh _ _ hD,by have:=lim1;rw[r.length];omega,rfl⟩
  rw[hx]at h2;refine thn h2 λ_ s9 ⟨_,H9,I9,_,e9⟩=>?_;subst e9;have g8:=k8.np _ (.l _) hD gD;exact fin σ _ G8 _ s9 ⟨I9,k8.beside g8,λa o z q=>by rw[U4 z];exact k8.bh a o q,k8.g0,λa o _ q w=>k8.np a o q w,Kh,g8,(r.mono k8.g0).append (.cons r8 .nil)⟩
 .cases z
theorem O4{tg:Ua}{ifs:qA}{code:Code}{W:(J6->Prop)->J6->Prop}{s:D->Uw->qE}{t:M Bool}{rd:RdB}{it:J8}(hx:Y.xe=nox)(hc:Y.calm=qv)(rule:WI Y.prog Y.w Y.A tg ifs Y.env (.ref it) code W)
  (hg:∀B1 G1,PG Y tg (tG Y.K B1 G1 s)) (ht:∀B1 G1,ZC Y ifs (tBo Y.K B1 G1 t)) (hb:V3 Y D' W rd)
  {pins:List (J8×Obj)} {sh:J6} {σ:St} {H G:Hp} {Z ZF:Uw} {fp:qF} {tn:Nat->Heap->Prop} {J:It} {ds es esF:qx} {vs:List V} {R:Result->J6->Prop}
  (I:Inv Y pins σ H sh) (T:Turn Y.prog Y.w Y.K tg J fp it tn) (st:tn 0 sh.heap) (hf:∀b∈fp,KD Y pins H b)
  (k:EOk Y.K H G G H σ Z) (its:Yu Y.K J ds G) (hD:H D'=O (.lst vs)) (gD:G D'=qu) (r:Reps Y.K G vs es) (zl:cT s t rd ds Z es=O (esF,ZF))
  (jy:∀σ' H' G' vs' s',Left Y D' pins H G esF ZF σ' H' G' vs' s'->R (.ok .next) s'):codeAny (model Y.prog Y.w) Y.A code R sh:=by
 have stat:∀{H':Hp},(∀b∈fp,H' b=qu)->∀b∈fp,KD Y pins H' b:=λhn b hb=>⟨hn b hb,(hf b hb).2⟩
 refine rule R (λn s'=>∃i σ' H' G' Z' vs' es',n=ds.length-i/\tn i s'.heap/\(∀b∈fp,H' b=qu)/\Left Y D' pins H G es' Z' σ' H' G' vs' s'/\cT s t rd (ds.drop i) Z' es'=O (esF,ZF)) ds.length sh
  ⟨0,σ,H,G,Z,vs,es,rfl,st,λb hb=>(hf b hb).1,⟨I,k,λ_ _ _ q=>q,.refl _,λ_ _ _ _ n=>n,hD,gD,r⟩,by rw[List.drop_zero];exact zl⟩ ?_
 rintro n s' ⟨i,σ',H',G',Z',vs',es',rfl,ki,kN,⟨I',k',jt,jm,jR,q9,gD',r'⟩,zc⟩;by_cases hlt:i<ds.length
 .rw[JC hlt,cT]at zc
  cases zs:s ds[i] Z' with
  |none=>rw[zs]at zc;cases zc
  |some Z2=>
  rw[zs]at zc;dsimp only at zc;cases zt:t Z2 with
  |bad=>rw[zt]at zc;cases zc
  |ok b Z3=>
  rw[zt]at zc;dsimp only at zc;refine thn (T.item Y qt qt qt hc i pins s' σ' H' nox I' (stat kN) ki (its.go i G' H' jm k'.gh hlt)) λrr s4 ⟨u,hr,h4⟩=>?_;subst hr;refine thn h4 λ_ s5 ⟨x,H5,I5,r5,y5,jf,kM⟩=>?_
  obtain⟨G5,e5,rx⟩:=its.yld i G' H' x H5 ds[i] jm k'.gh (Qe hlt) y5;have h6:=hg H' G' _ s5 σ' H5 x u (λσ6 H6=>∃G6,EOk Y.K H' G' G6 H6 σ6 Z2) (I5.pinned (stat kM) (T.obj _ _ jf)) r5 ⟨G5,Z',ds[i],Z2,k'.ext e5,rx,zs,λσ6 G6 H6 k6 _=>⟨G6,k6⟩⟩;rw[hx]at h6;refine thn h6 λ_ s6 ⟨σ6,H6,I6,G6,k6⟩=>?_;have h7:=ht H' G' _ s6 σ6 H6 (λc H7=>c=b/\∃G7,EOk Y.K H' G' G7 H7 σ6 Z3) I6 ⟨G6,Z2,k6,by unfold aft;rw[zt];exact λc G7 H7 k7 _ q=>⟨q,G7,k7⟩⟩
  rw[hx]at h7;refine thn h7 λok s7 ⟨H7,I7,hb7,G7,k7⟩=>?_;subst hb7
  have again:∀{H9:Hp}{σ9:St}{s9:J6},Inv Y (pins++Vu fp s5.heap) σ9 H9 s9->Inv Y pins σ9 H9 s9/\tn (i+1) s9.heap/\∀b∈fp,H9 b=qu:=λ{H9 σ9 s9} I9=>by refine⟨I9.unpinned,T.keep _ _ _ jf λb hb o e=>(I9.pin (b,o) (QD _ (QD _ (VT hb e)))).1,λb hb=>?_⟩;obtain⟨o,e,d⟩:=T.obj _ _ jf b hb;exact(I9.pin (b,o) (QD _ (QD _ (VT hb e)))).2.1
  have lt:ds.length-(i+1)<ds.length-i:=Nat.sub_lt_sub_left hlt (Nat.lt_succ_self i);cases ok with
  |false=>rw[Qy (by decide)]at zc⊢;obtain⟨J1,J2,J3⟩:=again I7;exact⟨_,lt,i+1,σ6,H7,G7,U5 Z3,vs',es',rfl,J2,J3,⟨J1,k7.rebase,λa o z q=>k7.bh a o (jt a o z q),jm.trans k7.g0,λa o z q w=>k7.np a o (jt a _ z q) (jR a o z q w),k7.bh _ _ q9,k7.np _ (.l _) q9 gD',r'.mono k7.g0⟩,zc⟩
  |true=>
   rw[Qo qt]at zc⊢;cases ze:rd Z3 es' with
   |none=>rw[ze]at zc;cases zc
   |some pr=>
   obtain⟨es1,Z5⟩:=pr;rw[ze]at zc;refine hb _ s7 σ6 H' G' H7 G7 Z3 Z5 vs' es' es1 _ I7 k7 q9 gD' r' ze λσ9 H9 G9 vs9 s9 L=>?_
   obtain⟨J1,J2,J3⟩:=again L.inv;exact⟨_,lt,i+1,σ9,H9,G9,Z5,vs9,es1,rfl,J2,J3,⟨J1,L.eok,λa o z q=>L.hh a o z (jt a o z q),jm.trans L.gg,λa o z q w=>L.np a o z (jt a _ z q) (jR a o z q w),L.hd,L.gd,L.rp⟩,zc⟩
 .rw[List.drop_eq_nil_of_le (QY hlt),cT]at zc
  cases zc;refine thn (T.done Y qt qt qt hc i pins s' σ' H' nox I' (stat kN) ki (its.stop i G' H' jm k'.gh (QY hlt))) λrr s4 ⟨hr,I6⟩=>?_
  subst hr;exact jy σ' H' G' vs' s4 ⟨I6,k',jt,jm,jR,q9,gD',r'⟩
theorem Bq{elt js i1:Ua}{ifs1:qA}{gens:List Comprehension}{scope:Scope}{pos:Pos}{j:Nat}{W:J5->(J6->Prop)->J6->Prop}{f:M qx}{s:D->Uw->qE}{t:M Bool}{rd:RdB}(hx:Y.xe=nox)(hc:Y.calm=qv)
  (hn:gens[j+1]?=O ⟨js,i1,ifs1,0⟩) (rule:∀ja,WI Y.prog Y.w Y.A js ifs1 Y.env ja (.compLoop (.ListComp elt gens scope pos) (j+1) ja (.ref D') Y.env) (W ja))
  (hi:∀B1 G1,PI Y js i1 (iD Y.K B1 G1 f)) (hg:∀B1 G1,PG Y js (tG Y.K B1 G1 s)) (ht:∀B1 G1,ZC Y ifs1 (tBo Y.K B1 G1 t)) (hb:∀ja,V3 Y D' (W ja) rd) :
  V3 Y D' (λQ s=>Uc (model Y.prog Y.w) Y.A (eval i1 Y.env) (λx s₄=>Uc (model Y.prog Y.w) Y.A (pyIter x) (λja s₅=>codeAny (model Y.prog Y.w) Y.A (.compStart (.ListComp elt gens scope pos) (j+1) ja (.ref D') Y.env)
   (λr s₆=>match r with | .ok _=>Q s₆ | .error _=>False) s₅) nox s₄) nox s) (rN f s t rd):=by
 intro pins sh σ B1 G1 H G Z Z' vs es es' Q I k hD gD r z fin;unfold rN at z;cases zf:f Z with
 |bad=>rw[zf]at z;cases z
 |ok ds Z3=>
 rw[zf]at z;have h:=hi B1 G1 pins sh σ H (λJ1 H8=>∃G8,EOk Y.K B1 G1 G8 H8 σ Z3/\Yu Y.K J1 ds G8) I ⟨G,Z,k,by rw[zf];exact λJ1 G8 H8 k8 _ q=>⟨G8,k8,q⟩⟩;rw[hx]at h;refine thn h λxv s8 h8=>thn h8 λitv s9 h9=>?_
 obtain⟨ja,fp1,tn1,J1,H9,rfl,I9,T1,st9,f9,G9,k9,its9⟩:=h9
 have loop:codeAny (model Y.prog Y.w) Y.A (.compLoop (.ListComp elt gens scope pos) (j+1) (.ref ja) (.ref D') Y.env) (λr s₆=>match r with | .ok _=>Q s₆ | .error _=>False) s9:=
  O4 hx hc (rule (.ref ja)) hg ht (hb _) I9 T1 st9 f9 k9.rebase its9 (k9.bh _ _ hD) (k9.np _ (.l _) hD gD) (r.mono k9.g0) z λσ' H' G' vs' s' L=>
   fin σ' H' G' vs' s' ⟨L.inv,L.eok,λa o z q=>L.hh a o z (k9.bh a o q),k9.g0.trans L.gg,λa o z q w=>L.np a o z (k9.bh a _ q) (k9.np a o q w),L.hd,L.gd,L.rp⟩
 exact A0 hn loop (T1.self Y.A 0 _ _ _ st9 loop)
end
def V2(Y:Cx)(e:Ua)(j:Nat)(tg:Ua)(ifs:qA)(rd:RdB):Prop:=
 ∀(D':J8)(it:J5),∃W,WI Y.prog Y.w Y.A tg ifs Y.env it (.compLoop e j it (.ref D') Y.env) W/\V3 Y D' W rd
section
variable{Y:Cx}{elt tg i:Ua}{ifs:qA}{gens:List Comprehension}{scope:Scope}{pos:Pos}{j:Nat}
theorem Bp{g:M D}(hx:Y.xe=nox)(hg:gens[j]?=O ⟨tg,i,ifs,0⟩)(hn:gens[j+1]?=qu)(he:∀B1 G1,PE Y elt (tD Y.K B1 G1 g)):V2 Y (.ListComp elt gens scope pos) j tg ifs (rL g):=
 λ_ _=>⟨_,Bu hg hn,Br hx he⟩
theorem Bo{js i1:Ua}{ifs1:qA}{f:M qx}{s:D->Uw->qE}{t:M Bool}{rd:RdB}(hx:Y.xe=nox)(hc:Y.calm=qv)(hg:gens[j]?=O ⟨tg,i,ifs,0⟩)(hn:gens[j+1]?=O ⟨js,i1,ifs1,0⟩)(hs:∀x,Uu i1 Y.env x=pure x)
  (hi:∀B1 G1,PI Y js i1 (iD Y.K B1 G1 f)) (hgt:∀B1 G1,PG Y js (tG Y.K B1 G1 s)) (ht:∀B1 G1,ZC Y ifs1 (tBo Y.K B1 G1 t)) (hb:V2 Y (.ListComp elt gens scope pos) (j+1) js ifs1 rd):V2 Y (.ListComp elt gens scope pos) j tg ifs (rN f s t rd):=
 λD' _=>⟨_,Bt hg hn hs,Bq hx hc hn (λja=>(Classical.choose_spec (hb D' ja)).1) hi hgt ht (λja=>(Classical.choose_spec (hb D' ja)).2)⟩
end
def ZT(l:Bool)(Z:Uw):Uw:=match l with|true=>K2 Z|false=>U5 Z
theorem entry{K:Frag}{B G0 G1 H2:Hp}{σ:St}{Z1:Uw}{D:J8}(l:Bool)(k1:EOk K B G0 G1 H2 σ Z1)(hfr:H2 D=qu)(n:Nat) :
  ∃Gb,EOk K (upd H2 D (.lst [])) Gb Gb (upd H2 D (.lst [])) (σ++Ug n qu) (ZT l Z1++Ug n qu)/\Same G1 Gb/\Gb D=qu /\
   ∀(G' H':Hp) vs es,(l=qv->es.all flat=qv)->Same Gb G'->Same H2 H'->Same G' H'->(∀a(u:MO),H2 a=O u.ho->Gb a=qu->G' a=qu)->G' D=qu->Reps K G' vs es->∃Gf,Ext G1 H2 Gf H'/\Gf D=qu/\Reps K Gf vs es:=by
 have gD:G1 D=qu:=k1.gh.free hfr;cases l with
 |false=>exact⟨G1,(k1.beside gD).more n,.refl _,gD,λG' H' vs es _ g h gh np d r=>⟨G',⟨h,g,gh,np⟩,d,r⟩⟩
 |true=>exact⟨H2,k1.lend hfr n,k1.gh,hfr,λG' H' vs es fl _ h _ _ _ r=>⟨G1,⟨h,.refl _,k1.gh.trans h,λ_ _ _ n=>n⟩,gD,r.flat (fl qt)⟩⟩
def dCG(l:Bool)(f:M qx)(k:Nat)(s:D->Uw->qE)(t:M Bool)(rd:RdB):M qx:=λZ=>match f Z with
 |.bad=>.bad
 |.ok ds Z1=>match cT s t rd ds (ZT l Z1++Ug k qu) []with
  |none=>.bad
  |some (es,_)=>if l=qv->es.all flat=qv then .ok es Z1 else .bad
theorem OS{l:Bool}{f:M qx}{k:Nat}{s:D->Uw->qE}{t:M Bool}{rd:RdB}{Z Z':Uw}{es:qx}(h:dCG l f k s t rd Z=.ok es Z'):∃ds ZF,f Z=.ok ds Z'/\cT s t rd ds (ZT l Z'++Ug k qu) []=O (es,ZF)/\(l=qv->es.all flat=qv):=by
 unfold dCG at h;cases zf:f Z with
 |bad=>rw[zf]at h;cases h
 |ok ds Z1=>
 rw[zf]at h;dsimp only at h;cases zl:cT s t rd ds (ZT l Z1++Ug k qu) []with
 |none=>rw[zl]at h;cases h
 |some pr=>
 obtain⟨esF,ZF⟩:=pr;rw[zl]at h;dsimp only at h;split at h
 .rename_i hf
  cases h;exact⟨ds,ZF,rfl,zl,hf⟩
 .cases h
section
variable{X:Cx}{B G0:Hp}{KX:XW}
def ZX(X:Cx)(N2:List Str)(scope:Scope)(e tg:Ua)(ifs:qA)(s:D->Uw->qE)(t:M Bool)(rd:RdB):Prop:=
 ∀(cl:List (Str×J8))(C:J8)(s₀:J6)(H₀:Hp)(ex:qF),(∀B' G',PG (X.blk N2 scope cl C s₀ H₀ ex) tg (tG X.K B' G' s))/\(∀B' G',ZC (X.blk N2 scope cl C s₀ H₀ ex) ifs (tBo X.K B' G' t))/\V2 (X.blk N2 scope cl C s₀ H₀ ex) e 0 tg ifs rd
structure Vq(SC scope:Scope)(N1 N2:List Str)(k:Nat):Prop where
 b:Te scope.names N1 N2 k=qv
 kind:scope.kind=.function
 cell:∀y∈scope.names,y.2≠.cell
 names:∀y∈scope.names,y.2=.local->scope.names.lookup y.1=O .local
 free:∀y∈scope.names,y.2=.free->SC.names.lookup y.1=O .cell∨SC.names.lookup y.1=O .free
theorem O3{l:Bool}{tg elt iter:Ua}{ifs:qA}{gs:List Comprehension}{scope:Scope}{pos pos':Pos}{N2:List Str}{k:Nat}{f:M qx}{s:D->Uw->qE}{t:M Bool}{rd:RdB}{use:Option (J5->Sem Unit)}{Qc:J5->J6->Prop}(hc:X.calm=qv)
  (hi:PI X tg iter (iD X.K B G0 f)) (qP:ZX X N2 scope (.ListComp elt (⟨tg,iter,ifs,0⟩::gs) scope pos) tg ifs s t rd) (hb:Vq X.env.scope scope X.N N2 k) (hs:∀x,Uu iter X.env x=pure x)
  {pins:List (J8×Obj)} {s0:J6} {σ:St} {G H:Hp} {Z Z1 ZF:Uw} {ds esF:qx} (I:Inv X pins σ H s0) (k0:EOk X.K B G0 G H σ Z) (zf:f Z=.ok ds Z1) (zl:cT s t rd ds (ZT l Z1++Ug k qu) []=O (esF,ZF)) (hfl:l=qv->esF.all flat=qv)
  (jy:∀(C D:J8)(vs:List V)(G' H':Hp)(s4:J6)(m:Str->qC),Inv X pins σ H' s4->s4.heap.Ns C m->H' C=qu->C≠X.env.locals->X.s₀.heap.objs.size<=C->(∀x c,X.env.cells.lookup x=O c->c≠C)->(∀p∈X.pn++pins,p.1≠C) ->
   EOk X.K B G0 G' H' σ Z1->Same G G'->NewL X.K B G' H' σ Z1 D vs esF->compPost (model X.prog X.w) X.A X.xe use Qc (.ref D) C (.ok .next) s4) :
  Uc (model X.prog X.w) X.A (comprehension (.ListComp elt (⟨tg,iter,ifs,0⟩::gs) scope pos) scope X.env pos' (newList []) qw (eval iter X.env) use) Qc X.xe s0:=by
 obtain⟨cl,hcl,jr,kg⟩:=Mo (scope:=scope) (env:=X.env) λy hy hf=>I.ok.has y.1 (hb.free y hy hf)
 refine wpAny_comprehension_free (use:=use) qt hs hcl hb.kind hb.names (thn (hi pins s0 σ H (λJ H1=>∃G1,EOk X.K B G0 G1 H1 σ Z1/\Same G G1/\Yu X.K J ds G1) I ⟨G,Z,k0,by rw[zf];exact λJ G1 H1 k1 s1 it=>⟨G1,k1,s1,it⟩⟩) λv s1 h1=>thn h1 λitv s2 h2=>?_);obtain⟨it,fp,tn,J,H2,rfl,I2,T,st2,f2,G1,k1,sg1,its⟩:=h2;refine wpAny_newObj_type (wpAny_newFunctionEnv hb.cell (by intro y hy;simp at hy) (λh₁ hns₁ hsb₁=>?_) hb.kind);dsimp only at hns₁ hsb₁⊢;have hfr:H2 s2.heap.objs.size=qu:=I2.hok.fresh (Qk _)
 have I3:Inv X pins σ (upd H2 s2.heap.objs.size (.lst [])) {s2 with heap:=s2.heap.push {cls:=.type "list", dict:=qu,data:=.seq ([]:qz).toArray}}:=
  I2.laid (t':=s2.toks) (λb u e=>Qf _ e) (Qk _) ⟨Nat.zero_le _,[],0,.nil,Qt _ qt⟩
 generalize hP:s2.heap.push {cls:=.type "list", dict:=qu,data:=.seq ([]:qz).toArray}=P at I3 hns₁ hsb₁⊢;have old:∀b o,s2.heap.get? b=O o->P.get? b=O o:=λb o e=>hP ▸ Qf _ e;have kept:∀b o,P.get? b=O o->h₁.get? b=O o:=λb o e=>hsb₁.extBut b o (QA (Qg e)) (Qf _ e);have fpo:∀b∈fp,∃o,s2.heap.get? b=O o:=λb hb=>let ⟨o,e,_⟩:=T.obj _ _ st2 b hb;⟨o,e⟩
 have fpD:∀b∈fp,b≠s2.heap.objs.size:=λb hb=>let ⟨o,e⟩:=fpo b hb;QA (Qg e)
 have f3:∀b∈fp,KD X pins (upd H2 s2.heap.objs.size (.lst [])) b:=λb hb=>⟨by rw[U4 (fpD b hb)];exact(f2 b hb).1,(f2 b hb).2⟩
 have I4:=I3.enter (scope:=scope) (cl:=cl) (N2:=N2) (k:=k) (fp:=fp) (t':=s2.toks+([]:List (Str×J5)).length) hb.b hb.kind hb.cell hb.free jr kg hns₁ kept f3 (λb hb=>let ⟨o,e⟩:=fpo b hb;⟨o,old b o e⟩);dsimp only at I4;obtain⟨Gb,kb,sgb,gbD,ex⟩:=entry l k1 hfr k;have sH:Same H2 (upd H2 s2.heap.objs.size (.lst [])):=KW hfr;have kL:upd H2 s2.heap.objs.size (.lst []) s2.heap.objs.size=O (.lst []):=Kh;generalize upd H2 s2.heap.objs.size (.lst [])=H3 at I3 I4 f3 kb sH kL;generalize s2.heap.objs.size=D at *;have kh:tn 0 h₁:=T.keep 0 _ _ st2 λb hb o e=>kept b o (old b o e)
 have stat:∀b∈fp,KD (X.blk N2 scope cl P.objs.size {s2 with heap:=P} H3 fp) pins H3 b:=λb hb=>by
  obtain⟨z0,z1,z2,z3,z4,z5⟩:=f3 b hb;obtain⟨o,e⟩:=fpo b hb;refine⟨z0,QA (Qg (old b o e)),λz=>?_,.inl hb,λx c q=>z4 x c (jr x c q),z5⟩;rcases QL.mp (I3.stkSub b z)with q|q
  .exact z1 q
  .exact z2 q
 have neD:∀a o,H2 a=O o->a≠D:=λa o q z=>by subst z;rw[hfr]at q;cases q
 obtain⟨hg,ht,hcl'⟩:=qP cl P.objs.size {s2 with heap:=P} H3 fp;obtain⟨W,rule,body⟩:=hcl' D (.ref it)
 have loop:=O4 (Y:=X.blk N2 scope cl P.objs.size {s2 with heap:=P} H3 fp) (D':=D) (R:=compPost (model X.prog X.w) X.A X.xe use Qc (.ref D) P.objs.size) qt hc rule hg ht body I4 T kh stat kb
  ⟨λi G H s1 s2 hi=>its.go i G H (sgb.trans s1) s2 hi,λi G H s1 s2 hi=>its.stop i G H (sgb.trans s1) s2 hi,λi G H x H' d s1 s2 e y=>its.yld i G H x H' d (sgb.trans s1) s2 e y⟩ kL gbD .nil zl λσ' H' G' vs' s4 L=>by
   obtain⟨m,hm,_⟩:=id L.inv.loc;have I7:Inv X pins σ H' s4:=I3.call' (ch:=fp) L.inv.os L.inv.base L.inv.hok L.inv.bare λb hb=>⟨(f3 b hb).2.2.2.1,(f3 b hb).2.1,(f3 b hb).2.2.2.2.1,(f3 b hb).2.2.2.2.2⟩
   obtain⟨Gf,eF,dF,rF⟩:=ex G' H' vs' esF hfl L.gg (λa o q=>L.hh a o (neD a o q) (sH a o q)) L.eok.gh (λa o q z=>L.np a o (neD a _ q) (sH a _ q) z) L.gd L.rp
   refine jy P.objs.size D vs' Gf H' s4 m I7 hm L.inv.free (Jn I3.lt) I3.sz (λx c e z=>by obtain⟨_,q⟩:=I3.cell x c e;exact absurd q.lt (by rw[z];exact Ja _)) (λp hp z=>by have:=Qg (I3.pin p hp).1;exact absurd this (by rw[z];exact Ja _))
    (k1.ext eF) (sg1.trans eF.g) ⟨k1.bh.free hfr,dF,L.hd,rF,λj es' q z=>?_,λj pt d v fp q s r=>k1.freshD eF.h hfr q s r⟩
   obtain⟨a',ws,h1',h2',h3',h4',h5'⟩:=k1.own j es' q;rw[z]at h1';cases h1';rw[hfr]at h4';cases h4'
 exact codeAny_compStart_list loop (T.self X.A 0 _ _ _ kh loop)
theorem Lk{l:Bool}{tg elt iter:Ua}{ifs:qA}{gs:List Comprehension}{scope:Scope}{pos:Pos}{N2:List Str}{k:Nat}{f:M qx}{s:D->Uw->qE}{t:M Bool}{rd:RdB}(hc:X.calm=qv)
  (hi:PI X tg iter (iD X.K B G0 f)) (qP:ZX X N2 scope (.ListComp elt (⟨tg,iter,ifs,0⟩::gs) scope pos) tg ifs s t rd) (hb:Vq X.env.scope scope X.N N2 k) (hs:∀x,Uu iter X.env x=pure x:=by intro _;rfl) :
  PE X (.ListComp elt (⟨tg,iter,ifs,0⟩::gs) scope pos) (tL X.K B G0 (dCG l f k s t rd)):=by
 intro pins s0 σ H Q I ⟨G,Z,k0,a⟩;cases z:dCG l f k s t rd Z with
 |bad=>rw[z]at a;exact a.elim
 |ok es Z1=>
 rw[z]at a;obtain⟨ds,ZF,zf,zl,hfl⟩:=OS z;rw[eval_ListComp];refine O3 hc hi qP hb hs I k0 zf zl hfl λC D vs G' H' s4 m I7 hm hC hL hz hcl hp k' s' n=>?_
 exact⟨m,hm,λh' sb=>⟨.ref D,H',I7.turned (t':=s4.toks) (it:=C) (λb o hb e=>(sb.2 b hb).trans e) hC hL (.inr hz) hcl hp,rfl,a D vs G' H' k' s' n⟩⟩
theorem sD_g{l:Bool}{y:Str}{j:Nat}{py:Pos}{spos:Pos}{tg elt iter:Ua}{ifs:qA}{gs:List Comprehension}{scope:Scope}{pos:Pos}{N2:List Str}{k:Nat}{f:M qx}{s:D->Uw->qE}{t:M Bool}{rd:RdB}(hN:X.N.Nodup)(hj:X.N[j]?=O y)(hy:X.env.scope.names.lookup y=O .local)(hc:X.calm=qv)
  (hi:PI X tg iter (iD X.K B G0 f)) (qP:ZX X N2 scope (.ListComp elt (⟨tg,iter,ifs,0⟩::gs) scope pos) tg ifs s t rd) (hb:Vq X.env.scope scope X.N N2 k) (hs:∀x,Uu iter X.env x=pure x:=by intro _;rfl)
  (hsw:swapsWith (.ListComp elt (⟨tg,iter,ifs,0⟩::gs) scope pos) (O (.Name y py)) spos.line X.env=pure qv:=by rfl) :
  PS X (.Assign [.Name y py] (.ListComp elt (⟨tg,iter,ifs,0⟩::gs) scope pos) spos) (tS X.K B G0 KX (Kx j (dCG l f k s t rd))):=by
 intro pins s0 σ H Dn I ⟨G,Z,k0,a⟩;unfold Kx sB at a;cases z:dCG l f k s t rd Z with
 |bad=>rw[z]at a;exact a.elim
 |ok es Z1=>
 rw[z]at a;dsimp only at a;by_cases hl:j<Z1.length
 .rw[Qo hl]at a
  obtain⟨ds,ZF,zf,zl,hfl⟩:=OS z;rw[exec_Assign_Name_used _ _ _ _ hsw];refine Qb (QZ (Qb ?_));show Uc _ X.A (do let _ ←comprehension (.ListComp elt (⟨tg,iter,ifs,0⟩::gs) scope pos) scope X.env _ (newList []) qw (eval iter X.env) (O (assign (.Name y py) X.env))) _ _ s0;refine Qb (Qr (O3 (use:=O (assign (.Name y py) X.env)) (Qc:=λ_ s'=>SP X pins Dn .next s') hc hi qP hb hs I k0 zf zl hfl λC D vs G' H' s4 m I7 hm hC hL hz hcl hp k' s' n=>?_) (λ_ s' hq=>Qh (Qh hq)) λ_ _ e=>e);show Uc _ X.A (assign (.Name y py) X.env (.ref D)) _ _ s4;refine wpAny_assign_Name (Ma I7 hN hj (.inl hy) (v:=.ref D) qt (λs5 I8 ⟨ad,sb,hx⟩=>?_) (.inr hy))
  have hCa:C≠ad:=by
   rcases hx with e|e
   .rw[e];exact hL
   .exact Ne.symm (hcl y ad e)
  refine⟨m,hm.sameBut sb hCa,λh' jL=>⟨_,H',I8.turned (t':=s5.toks) (it:=C) (λb o hb e=>(jL.2 b hb).trans e) hC hL (.inr hz) hcl hp,?_⟩⟩;exact a _ G' H' (k'.setOwn n hl) s'
 .rw[Qy hl]at a;exact a.elim
theorem Lj{K:Frag}{f f':M qx}(h:∀Z es Z',f Z=.ok es Z'->f' Z=.ok es Z'){σ:St}{H:Hp}{Q:VK}(q:tL K B G0 f σ H Q):tL K B G0 f' σ H Q:=by
 obtain⟨G,Z,k,a⟩:=q;refine⟨G,Z,k,?_⟩;cases z:f Z with
 |bad=>rw[z]at a;exact a.elim
 |ok es Z'=>rw[z]at a;rw[h Z es Z' z];exact a
theorem Hm{K:Frag}{f f':M qx}{j:Nat}(h:∀Z es Z',f Z=.ok es Z'->f' Z=.ok es Z'){Dn:_}{σ:St}{H:Hp}(q:tS K B G0 KX (Kx j f) Dn σ H):tS K B G0 KX (Kx j f') Dn σ H:=by
 obtain⟨G,Z,k,a⟩:=q;refine⟨G,Z,k,?_⟩;unfold Kx sB at a⊢;cases z:f Z with
 |bad=>rw[z]at a;exact a.elim
 |ok es Z'=>rw[z]at a;rw[h Z es Z' z];exact a
end
theorem Sj{s:D->Uw->qE}{t:M Bool}{g:M D}:∀{ds:qx}{Z:Uw}{es esF:qx},Ks s t g ds Z es=O esF->∃ZF,cT s t (rL g) ds Z es=O (esF,ZF)
 |[],Z,es,esF,h=>by rw[Ks]at h;cases h;exact⟨Z,rfl⟩
 |d::r,Z,es,esF,h=>by
  rw[Ks]at h;rw[cT];cases zs:s d Z with
  |none=>rw[zs]at h;cases h
  |some Z1=>
  rw[zs]at h;dsimp only at h⊢;cases zt:t Z1 with
  |bad=>rw[zt]at h;cases h
  |ok b Z2=>
  rw[zt]at h;dsimp only at h⊢;cases b with
  |false=>exact Sj (ds:=r) h
  |true=>
   rw[Qo qt]at h⊢;unfold rL;cases zg:g Z2 with
   |bad=>rw[zg]at h;cases h
   |ok e Z3=>
   rw[zg]at h;dsimp only at h⊢;split at h
   .rename_i hl
    rw[Qo hl];exact Sj (ds:=r) h
   .cases h
theorem RH{s:D->Uw->qE}{t:M Bool}{g:M D}:∀{ds:qx}{Z:Uw}{es:qx},Xx s t g ds Z es=cT s t (rL g) ds Z es
 |[],Z,es=>rfl
 |d::r,Z,es=>by
  rw[Xx,cT];cases s d Z with
  |none=>rfl
  |some Z1=>
  dsimp only;cases t Z1 with
  |bad=>rfl
  |ok b Z2=>
  dsimp only;cases b with
  |false=>exact RH (ds:=r)
  |true=>
   rw[Qo qt,Qo qt];unfold rL;cases g Z2 with
   |bad=>rfl
   |ok e Z3=>
   dsimp only;split
   .exact RH (ds:=r)
   .rfl
theorem RG{s s1:D->Uw->qE}{t t1:M Bool}{f:M qx}{g:M D}:∀{ds:qx}{Z:Uw}{es esF:qx},YS s t f s1 t1 g ds Z es=O esF->∃ZF,cT s t (rN f s1 t1 (rL g)) ds Z es=O (esF,ZF)
 |[],Z,es,esF,h=>by rw[YS]at h;cases h;exact⟨Z,rfl⟩
 |d::r,Z,es,esF,h=>by
  rw[YS]at h;rw[cT];cases zs:s d Z with
  |none=>rw[zs]at h;cases h
  |some Z1=>
  rw[zs]at h;dsimp only at h⊢;cases zt:t Z1 with
  |bad=>rw[zt]at h;cases h
  |ok b Z2=>
  rw[zt]at h;dsimp only at h⊢;cases b with
  |false=>exact RG (ds:=r) h
  |true=>
   rw[Qo qt]at h⊢;unfold rN;cases zg:f Z2 with
   |bad=>rw[zg]at h;cases h
   |ok ds Z3=>
   rw[zg]at h;dsimp only at h⊢;rw[←RH];cases zl:Xx s1 t1 g ds (U5 Z3) es with
   |none=>rw[zl]at h;cases h
   |some pr=>rw[zl]at h;exact RG (ds:=r) h
theorem DX{f:M qx}{k:Nat}{s:D->Uw->qE}{t:M Bool}{g:M D}(Z:Uw)(es:qx)(Z':Uw)(h:Zu f k s t g Z=.ok es Z'):dCG qw f k s t (rL g) Z=.ok es Z':=by
 unfold Zu at h;unfold dCG;cases zf:f Z with
 |bad=>rw[zf]at h;cases h
 |ok ds Z1=>
 rw[zf]at h;dsimp only[ZT]at h⊢;cases zl:Ks s t g ds (U5 Z1++Ug k qu) []with
 |none=>rw[zl]at h;cases h
 |some esF=>
 rw[zl]at h;cases h;obtain⟨ZF,e⟩:=Sj zl;rw[e];exact Qo λz=>by cases z
theorem Bm{f:M qx}{k:Nat}{s:D->Uw->qE}{t:M Bool}{g:M D}(Z:Uw)(es:qx)(Z':Uw)(h:Wp f k s t g Z=.ok es Z'):dCG qv f k s t (rL g) Z=.ok es Z':=by
 unfold Wp at h;unfold dCG;cases zf:f Z with
 |bad=>rw[zf]at h;cases h
 |ok ds Z1=>
 rw[zf]at h;dsimp only[ZT]at h⊢;cases zl:Ks s t g ds (K2 Z1++Ug k qu) []with
 |none=>rw[zl]at h;cases h
 |some esF=>
 rw[zl]at h;dsimp only at h;split at h
 .rename_i hf
  cases h;obtain⟨ZF,e⟩:=Sj zl;rw[e];exact Qo λ_=>hf
 .cases h
theorem Bl{f f1:M qx}{k:Nat}{s s1:D->Uw->qE}{t t1:M Bool}{g:M D}(Z:Uw)(es:qx)(Z':Uw)(h:WC f k s t f1 s1 t1 g Z=.ok es Z'):dCG qw f k s t (rN f1 s1 t1 (rL g)) Z=.ok es Z':=by
 unfold WC at h;unfold dCG;cases zf:f Z with
 |bad=>rw[zf]at h;cases h
 |ok ds Z1=>
 rw[zf]at h;dsimp only[ZT]at h⊢;cases zl:YS s t f1 s1 t1 g ds (U5 Z1++Ug k qu) []with
 |none=>rw[zl]at h;cases h
 |some esF=>
 rw[zl]at h;cases h;obtain⟨ZF,e⟩:=RG zl;rw[e];exact Qo λz=>by cases z
def Wo(q:Option NameKind->Bool)(SC scope:Scope)(N1 N2:List Str)(k:Nat):Bool:=
 Te scope.names N1 N2 k&&decide (scope.kind=.function)&&scope.names.all λy=>match y.2 with
  |.cell=>qw
  |.local=>decide (scope.names.lookup y.1=O .local)
  |.free=>q (SC.names.lookup y.1)
  |_=>qv
def Vp:Option NameKind->Bool
 |some .cell=>qv|some .free=>qv|_=>qw
theorem BP{q:Option NameKind->Bool}{SC SC' scope:Scope}{N1 N2:List Str}{k:Nat}(h:Wo q SC scope N1 N2 k=qv)(f:∀x,q (SC.names.lookup x)=qv->SC'.names.lookup x=O .cell∨SC'.names.lookup x=O .free):Vq SC' scope N1 N2 k:=by
 unfold Wo at h;rw[Qx,Qx,Q2]at h;obtain⟨⟨h1,h2⟩,h3⟩:=h;refine⟨h1,Qa h2,λy hy e=>?_,λy hy e=>?_,λy hy e=>?_⟩
 .have:=h3 y hy;rw[e]at this;cases this
 .have:=h3 y hy;rw[e]at this;exact Qa this
 .have:=h3 y hy;rw[e]at this;exact f _ this
theorem Rl{SC scope:Scope}{N1 N2:List Str}{k:Nat}(h:Wo Vp SC scope N1 N2 k=qv):Vq SC scope N1 N2 k:=BP h λx e=>by
 cases z:SC.names.lookup x with
 |none=>rw[z]at e;cases e
 |some y=>rw[z]at e;cases y<;>first|exact .inl rfl|exact .inr rfl|cases e
section
variable{X:Cx}{B G0:Hp}{KX:XW}
theorem Li{l:Bool}{tg elt iter:Ua}{ifs:qA}{gs:List Comprehension}{scope:Scope}{pos:Pos}{f:M qx}{s:D->Uw->qE}{t:M Bool}{rd:RdB}{F:M qx}(SC:Scope)(N1 N2:List Str)(k:Nat)(le:∀Z es Z',F Z=.ok es Z'->dCG l f k s t rd Z=.ok es Z')(hc:X.calm=qv)
  (hi:PI X tg iter (iD X.K B G0 f)) (qP:ZX X N2 scope (.ListComp elt (⟨tg,iter,ifs,0⟩::gs) scope pos) tg ifs s t rd) (h1:X.env.scope=SC) (h2:X.N=N1) (hb:Wo Vp SC scope N1 N2 k=qv) (hs:∀x,Uu iter X.env x=pure x:=by intro _;rfl) :
  PE X (.ListComp elt (⟨tg,iter,ifs,0⟩::gs) scope pos) (tL X.K B G0 F):=
 UU (Lk hc hi qP (by rw[h1,h2];exact Rl hb) hs) λ_ _ _ q=>Lj le q
theorem sD_1{l:Bool}{y:Str}{j:Nat}{py:Pos}{spos:Pos}{tg elt iter:Ua}{ifs:qA}{gs:List Comprehension}{scope:Scope}{pos:Pos}{f:M qx}{s:D->Uw->qE}{t:M Bool}{rd:RdB}{F:M qx}(SC:Scope)(N1 N2:List Str)(k:Nat)(le:∀Z es Z',F Z=.ok es Z'->dCG l f k s t rd Z=.ok es Z')(hN:X.N.Nodup)(hj:X.N[j]?=O y)(hy:X.env.scope.names.lookup y=O .local)(hc:X.calm=qv)
  (hi:PI X tg iter (iD X.K B G0 f)) (qP:ZX X N2 scope (.ListComp elt (⟨tg,iter,ifs,0⟩::gs) scope pos) tg ifs s t rd) (h1:X.env.scope=SC) (h2:X.N=N1) (hb:Wo Vp SC scope N1 N2 k=qv) (hs:∀x,Uu iter X.env x=pure x:=by intro _;rfl)
  (hsw:swapsWith (.ListComp elt (⟨tg,iter,ifs,0⟩::gs) scope pos) (O (.Name y py)) spos.line X.env=pure qv:=by rfl) :
  PS X (.Assign [.Name y py] (.ListComp elt (⟨tg,iter,ifs,0⟩::gs) scope pos) spos) (tS X.K B G0 KX (Kx j F)):=
 KI (sD_g hN hj hy hc hi qP (by rw[h1,h2];exact Rl hb) hs hsw) λ_ _ _ q=>Hm le q
end
section
variable{X:Cx}{B G0:Hp}{e a b c tg:Ua}{pos:Pos}{es rest:qA}
theorem EOk.given{K:Frag}{G H:Hp}{σ:St}{Z:Uw}{a:J8}{vs:List V}{ds:qx}(k:EOk K B G0 G H σ Z)(n:NewL K B G H σ Z a vs ds):EOk K B G0 (upd G a (.lst vs)) H σ Z where
 bh:=k.bh
 gh:=λb u q=>by
  by_cases z:b=a
  .subst z;rw[Kh]at q;cases q;exact n.h
  .rw[U4 z]at q;exact k.gh b u q
 g0:=k.g0.trans (KW n.g)
 np:=λb o q z=>by
  have zb:b≠a:=λz=>by subst z;rw[n.b]at q;cases q
  rw[U4 zb];exact k.np b o q z
 len:=k.len
 pub:=λi d q=>let ⟨v,h1,h2⟩:=k.pub i d q;⟨v,h1,h2.mono (KW n.g)⟩
 own:=λi ds q=>by
  obtain⟨b,ws,h1,h2,h3,h4,h5⟩:=k.own i ds q;have zb:b≠a:=λz=>by subst z;exact n.f i ds q h1
  exact⟨b,ws,h1,h2,by rw[U4 zb];exact h3,h4,h5.mono (KW n.g)⟩
 sep:=k.sep
 dp:=k.dp.map (λ_ _ _ q=>⟨q,rfl⟩) (λ_ ds q=>⟨ds,q,rfl⟩) λi p d v fp q s r w nn=>⟨r.mono (KW n.g) (.refl _),λb m=>⟨(w b m).1,by rw[U4 (λz=>n.dp i p d v fp q s r (by rw[←z];exact m))];exact(w b m).2⟩⟩
theorem Fu{f:M qx}(h:PE X e (tL X.K B G0 f)):PE X e (tD X.K B G0 (UI Uh f)):=
 UU h λσ H Q ⟨G,Z,k,a⟩=>by
  refine⟨G,Z,k,?_⟩;unfold UI UH at a;cases z:f Z with
  |bad=>rw[z]at a;exact a.elim
  |ok ds Z1=>rw[z]at a;intro ad vs G' H' k' s' n;exact a (.ref ad) _ H' (k'.given n) (s'.trans (KW n.g)) (.lst (SqL.of Kh) (n.r.mono (KW n.g)))
theorem DW(hc:X.calm=qv):ZM X (.builtin "all") (λxs H Q=>∃l,∃bs:List Bool,xs=[.ref l]/\SqL X.K H l (bs.map V.bl)/\Q (.bl (bs.all id)) H):=by
 intro pins s σ H xs us Q I rx h;obtain⟨l,bs,rfl,hq,q⟩:=h;obtain⟨u,rfl,ru⟩:=rx.one;cases ru;obtain⟨its,rv,p,hz⟩:=I.list hq;have hl:=p.isList;have hlt:l<s.heap.objs.size:=by obtain⟨_,e,_⟩:=id hl;exact Qg e
 have key:∀(i:Nat) v,its.toArray[i]?=O v->∃t,bs[i]?=O t/\v=.bool t:=λi v e=>by
  have e:its[i]?=O v:=by simpa using e
  have hi:i<bs.length:=by have:=(Ql.mp e).1;have h2:=rv.length;rw[Qd]at h2;omega
  obtain⟨u,e2,r2⟩:=rv.get (i:=i) (x:=.bl bs[i]) (by rw[Qi,Qe hi];rfl);rw[e]at e2;cases e2;exact⟨bs[i],Qe hi,r2⟩
 refine call_all_walk (Jx hl ?_)
 refine⟨s.heap.objs.size,[s.heap.objs.size,l],[s.heap.objs.size],its.toArray.size,_,_,λi=>(bs[i]?).getD qv,rfl,Walks.list (A:=X.A.in1) (I.ok.hd hc) _ l (QA hlt) its.toArray,
  ⟨⟨_,Qt _ qt,rfl,rfl⟩,hl.push _⟩,λi v s' Q' E' hP hQ=>?_,λh' tk hk=>?_⟩
 .obtain⟨b,e,rfl⟩:=key i v hP
  simp only[e,JI]at hQ;exact QX hQ
 .have hn:its.toArray.size=bs.length:=by have:=rv.length;rw[List.length_map]at this;simp;omega
  have e:((Uf its.toArray.size).all λi=>(bs[i]?).getD qv)=bs.all id:=by
   rw[hn,Bool.eq_iff_iff,Q2,Q2];constructor
   .intro h b hb
    obtain⟨i,hi,e⟩:=List.getElem_of_mem hb;have:=h i (Jf.mpr hi);simp only[Qe hi,JI,e]at this;exact this
   .intro h i hi
    have hi':=Jf.mp hi;simp only[Qe hi',JI];exact h _ (Jl hi')
  rw[e];exact⟨.bl (bs.all id),H,I.kept (t':=tk) λb x e=>hk b x (λhm=>by rw[QW.mp hm]at e;exact Ja _ (Qg e)) (Qf _ e),rfl,q⟩
def YY:qx->Option (List Bool)
 |[]=>O []
 |.bool b::r=>(YY r).map (b :: ·)
 |_=>qu
theorem R4{K:Frag}{G:Hp}:∀{vs:List V}{ds:qx}{bs:List Bool},Reps K G vs ds->YY ds=O bs->vs=bs.map V.bl
 |_,_,bs,.nil,e=>by cases e;rfl
 |_,_,bs,.cons (d:=d) r t,e=>by
  cases d with
  |bool b=>
   unfold YY at e;cases z:YY _ with
   |none=>rw[z]at e;cases e
   |some cs=>rw[z]at e;cases e;rw[r.bl_inv,R4 t z];rfl
  |_=>cases e
def Zg:qx->qB
 |[.list ds]=>(YY ds).map λbs=>.bool (bs.all id)
 |_=>qu
theorem Lh(hc:X.calm=qv):Z9 X (.builtin "all") Zg:=by
 refine⟨_,DW hc,λvs G H ds d Q s r e k=>?_⟩;unfold Zg at e;split at e
 .rename_i ds
  cases z:YY ds with
  |none=>rw[z]at e;cases e
  |some bs=>rw[z]at e;cases e;obtain⟨v,rfl,q⟩:=r.one_inv;obtain⟨l,ws,rfl,h1,r1⟩:=q.lst_inv;have hw:=R4 r1 z;subst hw;exact⟨l,bs,rfl,s.seq h1,k _ G H (.refl s) (.bl _)⟩
 .cases e
def Its(x:Str):It:=⟨λi _=>i<x.cps.size,λi H v H'=>H'=H/\∃c,x.cps[i]?=O c/\v=.str ⟨#[c]⟩,λi _=>x.cps.size<=i⟩
theorem DV{P:J7}{w:World}{K:Frag}{tg:Ua}(x:Str)(t:Tok)(it:J8):Turn P w K tg (Its x) [it] it (λi h=>h.IsStrIter it (strIterType x) x t i) where
 mem:=by simp
 obj:=λi h st b hb=>by
  have e:b=it:=by simpa using hb
  subst e;obtain⟨o,e,c,d⟩:=st;exact⟨o,e,λv z=>by rw[d]at z;cases z⟩
 keep:=λi h h' st k=>by obtain⟨o,e,c,d⟩:=st;exact⟨o,k it (by simp) o e,c,d⟩
 item:=by
  intro X hP hw hK hc i pins s σ H E I hf st hg;subst hP hw hK;obtain⟨f0,f1,f2,f3,f4,f5⟩:=hf it (by simp);have hx:x.cps[i]?=O x.cps[i]:=JD hg
  have fin:∀h' tk(T:String),strIterType x=T->h'.IsStrIter it T x t (i+1)->Heap.SameBut it s.heap h'->["enumerate", "zip", "dict_itemiterator", "dict_reverseitemiterator", "odict_iterator", "itertools.zip_longest", "itertools.pairwise"].contains T=qw ->
    ∃u,O (Value.str ⟨#[x.cps[i]]⟩ s.toks)=O u/\Uc (model X.prog X.w) X.A (letOwnedTupleGo tg (.ref it) u) (λ_ s2=>∃v H',Inv X pins σ H' s2/\RelV v u/\(Its x).yld i H v H'/\s2.heap.IsStrIter it (strIterType x) x t (i+1)/\∀b∈[it],H' b=qu) E {s with heap:=h',toks:=tk}:=by
   intro h' tk T eT st' sb hn;have I1:Inv X pins σ H {s with heap:=h',toks:=tk}:=I.turned (t':=tk) (λb o hb e=>(sb.2 b hb).trans e) f0 f1 f3 f4 f5;obtain⟨o,e,c,d⟩:=id st';refine⟨_,rfl,TB (s:={s with heap:=h',toks:=tk}) e c d hn ⟨.str ⟨#[x.cps[i]]⟩,H,I1,⟨_,rfl⟩,⟨rfl,_,hx,rfl⟩,by rw[eT];exact st',λb hb=>(hf b hb).1⟩⟩
  cases ha:x.cps.all (· < 128)with
  |true=>
   have eT:strIterType x = "str_ascii_iterator" :=by simp[strIterType,ha]
   rw[eT]at st;exact wpAny_pyNext_ascii_item st hx λh' st' sb=>fin h' _ _ eT st' sb (by decide)
  |false=>
   have eT:strIterType x = "str_iterator" :=by simp[strIterType,ha]
   rw[eT]at st;exact wpAny_pyNext_wide_item st hx λh' st' sb=>fin h' _ _ eT st' sb (by decide)
 done:=by
  intro X hP hw hK hc i pins s σ H E I hf st hg;subst hP hw hK;obtain⟨f0,f1,f2,f3,f4,f5⟩:=hf it (by simp);have hx:x.cps[i]?=qu:=Array.getElem?_eq_none hg;cases ha:x.cps.all (· < 128)with
  |true=>
   have eT:strIterType x = "str_ascii_iterator" :=by simp[strIterType,ha]
   rw[eT]at st;exact wpAny_pyNext_ascii_end (I.ok.hd hc) st hx λh' eb=>⟨rfl,I.turned (t':=s.toks) (λb o hb e=>eb b o hb e) f0 f1 f3 f4 f5⟩
  |false=>
   have eT:strIterType x = "str_iterator" :=by simp[strIterType,ha]
   rw[eT]at st;exact wpAny_pyNext_wide_end (I.ok.hd hc) st hx λh' eb=>⟨rfl,I.turned (t':=s.toks) (λb o hb e=>eb b o hb e) f0 f1 f3 f4 f5⟩
 self:=λA i s Q E st h=>by
  cases ha:x.cps.all (· < 128)with
  |true=>
   have eT:strIterType x = "str_ascii_iterator" :=by simp[strIterType,ha]
   rw[eT]at st;exact wpAny_pyIter_striter_ascii st h
  |false=>
   have eT:strIterType x = "str_iterator" :=by simp[strIterType,ha]
   rw[eT]at st;exact wpAny_pyIter_striter_wide st h
def iAny(K:Frag)(tl:TE):TI:=λσ H R=>tl σ H λx H1=>(∃a,x=.ref a/\(∃xs,SqL K H1 a xs)/\R (Itl K a) H1)∨(∃a,x=.ref a/\(∃xs,SqT K H1 a xs)/\R (Itt K a) H1) ∨ ∃z,x=.str z/\R (Its z) H1
theorem Hl{l:Ua}{tl:TE}(hl:PE X l tl):PI X tg l (iAny X.K tl):=by
 intro pins s σ H R I h;refine thn (hl pins s σ H _ I h) λv s1 ⟨x,H1,I1,r1,q1⟩=>?_
 have fpOk:∀b∈[s1.heap.objs.size],KD X pins H1 b:=λb hb=>by
  have e:b=s1.heap.objs.size:=by simpa using hb
  subst e;exact I1.fpOk (Qk _) (I1.hok.fresh (Qk _))
 rcases q1 with ⟨a,e,⟨xs,hq⟩,q⟩|⟨a,e,⟨xs,hq⟩,q⟩|⟨z,e,q⟩
 .subst e
  cases r1;obtain⟨its,rv,p,hz⟩:=I1.list hq;refine Jx p.isList ?_;exact⟨s1.heap.objs.size,[s1.heap.objs.size],_,_,H1,rfl,I1.kept (t':=s1.toks) λb o e=>Qf _ e,BV a _,⟨_,Qt _ qt,rfl,rfl⟩,fpOk,q⟩
 .subst e
  cases r1;obtain⟨its,rv,p,hz⟩:=I1.tuple hq;refine wpAny_pyIter_tuple p ?_;exact⟨s1.heap.objs.size,[s1.heap.objs.size],_,_,H1,rfl,I1.kept (t':=s1.toks) λb o e=>Qf _ e,Az a _,⟨_,Qt _ qt,rfl,rfl⟩,fpOk,q⟩
 .subst e
  obtain⟨t,rfl⟩:=r1;refine wpAny_pyIter_strU ?_;exact⟨s1.heap.objs.size,[s1.heap.objs.size],_,_,H1,rfl,I1.kept (t':=s1.toks) λb o e=>Qf _ e,DV z t _,⟨_,Qt _ qt,rfl,rfl⟩,fpOk,q⟩
def Tc(z:Str):qx:=z.cps.toList.map λc=>.str ⟨#[c]⟩
def Rk:D->Option qx
 |.list ds=>O ds
 |.tuple ds=>O ds
 |.str z=>O (Tc z)
 |_=>qu
theorem AQ{K:Frag}{G1:Hp}{ad:J8}{vs:List V}{ds:qx}(h:SqT K G1 ad vs)(r:Reps K G1 vs ds):Yu K (Itt K ad) ds G1 where
 go:=λi G H s1 s2 hi=>by
  have hi':i<vs.length:=by rw[r.length];exact hi
  exact⟨vs,vs[i],Yb (s1.trans s2) h,Qe hi'⟩
 stop:=λi G H s1 s2 hi=>⟨vs,Yb (s1.trans s2) h,by rw[r.length];exact hi⟩
 yld:=λi G H x H' d s1 s2 e y=>by obtain⟨rfl,y⟩:=y;obtain⟨v,e1,r1⟩:=r.get e;have:=y vs (Yb (s1.trans s2) h);rw[e1]at this;cases this;exact⟨G,.refl s2,r1.mono s1⟩
theorem Bk{K:Frag}{G1:Hp}{z:Str}:Yu K (Its z) (Tc z) G1 where
 go:=λi G H s1 s2 hi=>by unfold Tc at hi;simpa[Its]using hi
 stop:=λi G H s1 s2 hi=>by unfold Tc at hi;simpa[Its]using hi
 yld:=λi G H x H' d s1 s2 e y=>by
  obtain⟨rfl,c,hc,rfl⟩:=y;unfold Tc at e;rw[Qi]at e;have:z.cps.toList[i]?=O c:=by simpa using hc
  rw[this]at e;cases e;exact⟨G,.refl s2,.str _⟩
def KR(f:M D):M qx:=UH f λx=>UG (Rk x)
theorem Hk{f:M D}(h:PE X e (tD X.K B G0 f)):PI X tg e (iD X.K B G0 (KR f)):=YF (Hl h) λσ H R q=>tM.toI (R0:=Rep X.K) q λv H' G' Z' x k r a=>by
 cases x with
 |list ds=>obtain⟨ad,vs,rfl,h1,r1⟩:=r.lst_inv;exact .inl ⟨ad,rfl,⟨vs,k.gh.seq h1⟩,a _ G' H' k (.refl _) (BR h1 r1)⟩
 |tuple ds=>obtain⟨ad,vs,rfl,h1,r1⟩:=r.tup_inv;exact .inr (.inl ⟨ad,rfl,⟨vs,Yb k.gh h1⟩,a _ G' H' k (.refl _) (AQ h1 r1)⟩)
 |str z=>have:=r.str_inv;subst this;exact .inr (.inr ⟨z,rfl,a _ G' H' k (.refl _) Bk⟩)
 |_=>exact a.elim
theorem Inv.big{pins:List (J8×Obj)}{σ:St}{H:Hp}{s:J6}(I:Inv X pins σ H s):sysModules<s.heap.objs.size:=by have h:mainGlobals<s.heap.objs.size:=(I.mod.glob.keeps I.bk).lt;exact Nat.lt_trans (by decide) h
theorem DU{P:J7}{w:World}{H:Hp}(h:Heap)(hb:sysModules<h.objs.size):KT P w H (h.push {cls:=.type "dict", data:=.dict #[]}) h.objs.size (.dK []):=
 ⟨Nat.zero_le _,beq_eq_false_iff_ne.mpr (Ne.symm (QA hb)),[],.nil,Heap.DictOf.new h⟩
theorem Ft:PE X (.Dict [] [] pos) (λσ H Q=>∀d,H d=qu->Q (.ref d) (upd H d (.dK []))):=λpins s σ H Q I h=>
 wpAny_Dict_empty ⟨.ref s.heap.objs.size,_,I.laid (a:=s.heap.objs.size) (o:=.dK []) (t':=s.toks) (λ_ _ q=>Qf _ q) (Qk _) (DU s.heap (Inv.big I)),rfl,h _ (I.hok.fresh (Qk _))⟩
theorem Fs:PE X (.Dict [] [] pos) (tD X.K B G0 (UA (.dict []))):=UU Ft λσ H Q ⟨G,Z,k,a⟩ d hd=>aft.done a k (Ext.new k.gh hd) (.dic Kh)
def inS(i j:Str):Bool:=!(Builtin.Str.occurrences j i 0 j.length 1).isEmpty
def oInS:D->D->qH
 |.str i,.str j=>O (inS i j)
 |_,_=>qu
def Pd:D->D->qH
 |.str i,.str j=>O (!inS i j)
 |_,_=>qu
theorem Lg:OpB X (Ue .In) oInS:=⟨_,Ai,λv u G H x y d Q s rx ry e k=>by
 unfold oInS at e;split at e
 .cases e
  have:=rx.str_inv;subst this;have:=ry.str_inv;subst this;exact⟨_,_,rfl,rfl,k⟩
 .cases e⟩
theorem Hj:OpB X (Ue .NotIn) Pd:=⟨_,A6,λv u G H x y d Q s rx ry e k=>by
 unfold Pd at e;split at e
 .cases e
  have:=rx.str_inv;subst this;have:=ry.str_inv;subst this;exact⟨_,_,rfl,rfl,k⟩
 .cases e⟩
theorem Lf{x:Str}{i:Int}(hg:Gl X x)(hm:∃t,X.mg x=O (.int i t))(hd:(x==("__debug__" : Str))=qw:=by decide):PE X (.Name x pos) (tD X.K B G0 (UA (.int i))):=by obtain⟨t,hm⟩:=hm;exact UU (Rp (v:=.int i) hg hm ⟨t,rfl⟩ hd) λσ H Q ⟨G,Z,k,a⟩=>aft.now a k (.int _)
end
section
variable{X:Cx}{B G0:Hp}{KX:XW}{e o a b c tg i:Ua}{pos p2:Pos}{es rest:qA}{te to ti:TE}
def Hi(te to ti:TE):TS:=λD σ H=>te σ H λv H1=>to σ H1 λx H2=>ti σ H2 λk H3=>∃l xs n,x=.ref l/\H3 l=O (.lst xs)/\k=.int n/\0<=n/\n<xs.length/\D.nx σ (upd H3 l (.lst (xs.set n.toNat v)))
theorem DT(he:PE X e te)(ho:PE X o to)(hi:PE X i ti)(hs:swapsWith e (O (.Subscript o i p2)) pos.line X.env=pure qw:=by rfl):PS X (.Assign [.Subscript o i p2] e pos) (Hi te to ti):=by
 intro pins s σ H D I h;refine wpAny_Assign_Subscript (thn (he pins s σ H _ I h) λv s1 ⟨x,H1,I1,r1,q1⟩=>thn (ho pins s1 σ H1 _ I1 q1) λov s2 ⟨y,H2,I2,r2,q2⟩=>thn (hi pins s2 σ H2 _ I2 q2) λiv s3 ⟨k,H3,I3,r3,q3⟩=>?_) hs;obtain⟨l,xs,n,rfl,hl,rfl,h0,h1,q⟩:=q3;cases r2;obtain⟨t,rfl⟩:=r3;obtain⟨z,its,m,r,hlen,ee⟩:=I3.lstM hl
 refine PySem.W.ki_setAt (items:=its.toArray) (n:=m) ee h0 (by
                                  have:Ub<2 ^ 63:=by decide
                                  omega) (by simp;omega) ?_
 refine⟨σ,_,I3.lset (t':=s3.toks) (its:=its) (its':=its.set n.toNat v) (f:=(·.setIfInBounds n.toNat v)) hl ee (by simp) (r.set r1 n.toNat) (by rw[List.length_set];exact z),q⟩
def TD(j:Nat)(g f:M D):SM:=sB f λd Z1=>match Z1[j]? with
 |some (O (.own _))=>sB g (λy Z2=>match y with
  |.int k=>(match Z2[j]? with
   |some (O (.own ds))=>if 0<=k/\k<ds.length then .nx (Z2.set j (O (.own (ds.set k.toNat d))))else .bad
   |_=>.bad)
  |_=>.bad) Z1
 |_=>.bad
theorem Fq{j:Nat}{f g:M D}(he:PE X e (tD X.K B G0 f))(ho:PE X o (Kg j))(hi:PE X i (tD X.K B G0 g))(hs:swapsWith e (O (.Subscript o i p2)) pos.line X.env=pure qw:=by rfl) :
  PS X (.Assign [.Subscript o i p2] e pos) (tS X.K B G0 KX (TD j g f)):=
 KI (DT he ho hi hs) λD σ H q=>tS.bnd (R:=Rep X.K) q λv H1 G1 Z1 d k r a=>by
  cases q0:Z1[j]? with
  |none=>rw[q0]at a;exact a.elim
  |some o0=>
   cases o0 with
   |none=>rw[q0]at a;exact a.elim
   |some sl0=>
    cases sl0 with
    |deep _ _=>rw[q0]at a;exact a.elim
    |pub d=>rw[q0]at a;exact a.elim
    |own j9=>
     rw[q0]at a;obtain⟨ad,vs0,h1,h2,h3,h4,h5⟩:=k.own j j9 q0;refine⟨.ref ad,h1,G1,Z1,k,?_⟩;dsimp only at a;unfold sB at a;cases z:g Z1 with
     |bad=>rw[z]at a;exact a.elim
     |ok y Z2=>
      rw[z]at a;dsimp only at a;intro kv G' H' k' s' r';cases y with
      |int n=>
       dsimp only at a;cases q:Z2[j]? with
       |none=>rw[q]at a;exact a.elim
       |some oo=>
        cases oo with
        |none=>rw[q]at a;exact a.elim
        |some sl=>
         cases sl with
         |deep _ _=>rw[q]at a;exact a.elim
         |pub d=>rw[q]at a;exact a.elim
         |own ds=>
          rw[q]at a;dsimp only at a;split at a
          .rename_i hn
           obtain⟨ad',vs,g1,g2,g3,g4,g5⟩:=k'.own j ds q;rw[h1]at g1;cases g1;refine⟨ad,vs,n,rfl,g4,r'.int_inv,hn.1,by rw[g5.length];exact hn.2,?_⟩;exact a σ G' _ (k'.change q h1 (g5.set (r.mono s') n.toNat)) s'
          .exact a.elim
      |_=>exact a.elim
def YI(z:Str)(lo hi:qD):Str:=if(Builtin.Str.strSliceIndices lo hi 1 z.length).length=z.length then z else⟨((Builtin.Str.strSliceIndices lo hi 1 z.length).filterMap (z.cps[·]?)).toArray⟩
theorem Hg:SlR X (λx lo hi H Q=>∃z,x=.str z/\(YI z lo hi).length<=Ub/\Q (.str (YI z lo hi)) H):=by
 intro pins s σ H x v vl vu lo hi sl Q I rx hs pl pu h;obtain⟨z,rfl,hz,q⟩:=h;obtain⟨t,rfl⟩:=rx;refine⟨"str", _,F.slot_str_getitem.lookup,typeIs_str s z t,?_⟩
 obtain⟨l,el,e1⟩:∃l:Option (Int×Tok),vl=partValue l/\l.map (·.1)=lo:=by
  cases pl with
  |none=>exact⟨qu,rfl,rfl⟩
  |int k t'=>exact⟨O (k,t'),rfl,rfl⟩
 obtain⟨u,eu,e2⟩:∃u:Option (Int×Tok),vu=partValue u/\u.map (·.1)=hi:=by
  cases pu with
  |none=>exact⟨qu,rfl,rfl⟩
  |int k t'=>exact⟨O (k,t'),rfl,rfl⟩
 subst el eu;refine wpAny_getItem_str_slice (l:=l) (u:=u) (st:=qu) hs qt ?_;unfold sliceMade slicePicked;rw[e1,e2];unfold YI at hz q;by_cases hw:(Builtin.Str.strSliceIndices lo hi 1 z.length).length=z.length
 .rw[Qo hw]at hz q
  rw[if_pos (by simp[hw])];exact⟨.str z,H,I,⟨t,rfl⟩,q⟩
 .rw[Qy hw]at hz q
  rw[if_neg (by simp[hw])];exact⟨hz,.str _,H,I.tok _,⟨_,rfl⟩,q⟩
end
section
variable{X:Cx}{B G0:Hp}{KX:XW}{e o a b c tg i:Ua}{pos p2:Pos}{es rest:qA}{te to ti:TE}
theorem pvb(i:Nat){x:Str}{pos:Pos}{N':List Str}{scope:Scope}{cl:List (Str×J8)}{C:J8}{s₀:J6}{H₀:Hp}{ex:qF}(hN:N'[i]?=O x:=by rfl)
  (h:scope.names.lookup x=O .local∨scope.names.lookup x=O .free:=by first|exact .inl rfl|exact .inr qt) (hd:(x==("__debug__" : Str))=qw:=by decide) (hcd:(x==("__classdict__" : Str))=qw:=by decide) :
  PE (X.blk N' scope cl C s₀ H₀ ex) (.Name x pos) (Kg i):=P5 hN (EN h) hd hcd
def XS:D->qD->qD->qB
 |.list xs,lo,hi=>O (.list (DL.cutD xs lo hi))
 |.str z,lo,hi=>if(YI z lo hi).length<=1000000 then O (.str (YI z lo hi))else qu
 |_,_,_=>qu
def K0(f:M D)(lo hi:M qD):M D:=UH f λx=>UH lo λl=>UH hi λh=>UG (XS x l h)
theorem BO{lo hi:Option Ua}{f:M D}{l h:M qD}(he:PE X e (tD X.K B G0 f))(hl:PO X lo (tOi X.K B G0 l))(hu:PO X hi (tOi X.K B G0 h)) :
  PE X (.Subscript e (.Slice lo hi qu p2) pos) (tD X.K B G0 (K0 f l h)):=
 UU (DF (F9.or Hg) he hl hu) λσ H Q q=>by
  refine tM.one (R:=Rep X.K) q λv H2 G Z x k r a=>?_;refine tM.nx (R:=λ_ b c=>b=c) k a λl' H3 G3 Z3 xl k3 s3 r3 a3=>?_;refine tM.nx (R:=λ_ b c=>b=c) k3 a3 λh' H4 G4 Z4 xh k4 s4 r4 a4=>?_;have r3:l'=xl:=r3;have r4:h'=xh:=r4;subst r3 r4;unfold UG XS at a4
  cases x with
  |list xs=>obtain⟨ad,vs,rfl,h1,r1⟩:=((r.mono s3).mono s4).lst_inv;exact .inl ⟨ad,vs,rfl,k4.gh.seq h1,λp hp=>aft.done a4 k4 (Ext.new k4.gh hp) (.lst (SqL.of Kh) ((r1.cut l' h').mono (KW (k4.gh.free hp))))⟩
  |str z=>
   dsimp only at a4;have:=r.str_inv;subst this;by_cases hc:(YI z l' h').length<=1000000
   .rw[Qo hc]at a4
    exact .inr ⟨z,rfl,QH hc lim,aft.now a4 k4 (.str _)⟩
   .rw[Qy hc]at a4;exact a4.elim
  |_=>exact a4.elim
end
section
variable{X:Cx}{B G0:Hp}{e o a b c tg:Ua}{pos p2:Pos}{es rest:qA}{te to ti:TE}
def K1{β:Type}(p:D->D->Option β)(i:Nat)(g:M D):M β:=λZ=>match Z[i]? with
 |some (O (.pub d))=>(UH g λy=>UG (p d y)) Z
 |some (O (.own _))=>(UH g λy=>λZ'=>match Z'[i]? with|some (O (.own ds))=>UG (p (.list ds) y) Z'|_=>.bad) Z
 |_=>.bad
theorem Pc{K:Frag}{σ:St}{H:Hp}{p:D->D->qH}{r:R2}{i:Nat}{g:M D}{Q:Bool->Hp->Prop}{QV:VK}(hq:∀t H3,Q t H3->QV (.bl t) H3)(hr:∀v u G H x y d Q,Same G H->Rep K G v x->Rep K G u y->p x y=O d->Q (.bl d) H->r v u H Q)
  (q:tBo K B G0 (K1 p i g) σ H Q):Kg i σ H λx H1=>tD K B G0 g σ H1 λy H2=>r x y H2 QV:=by
 obtain⟨G,Z,k,a⟩:=q;unfold K1 at a;cases q:Z[i]? with
 |none=>rw[q]at a;exact a.elim
 |some o=>
  cases o with
  |none=>rw[q]at a;exact a.elim
  |some sl=>
   cases sl with
   |deep _ _=>rw[q]at a;exact a.elim
   |pub d=>
    rw[q]at a;obtain⟨v,h1,h2⟩:=k.pub i d q;refine⟨v,h1,G,Z,k,?_⟩;dsimp only[UH]at a;cases z:g Z with
    |bad=>rw[z]at a;exact a.elim
    |ok y Z1=>rw[z]at a;intro u G' H' k' s' r';obtain⟨d',e',a'⟩:=aft.opt a;exact hr v u G' H' d y d' _ k'.gh (h2.mono s') r' e' (hq _ _ (a' d' G' H' k' s' qt))
   |own ds=>
    rw[q]at a;obtain⟨ad,vs,h1,h2,h3,h4,h5⟩:=k.own i ds q;refine⟨.ref ad,h1,G,Z,k,?_⟩;dsimp only[UH]at a;cases z:g Z with
    |bad=>rw[z]at a;exact a.elim
    |ok y Z1=>
     rw[z]at a;dsimp only at a;intro u G' H' k' s' r';cases q1:Z1[i]? with
     |none=>rw[q1]at a;exact a.elim
     |some oo=>
      cases oo with
      |none=>rw[q1]at a;exact a.elim
      |some sl1=>
       cases sl1 with
       |deep _ _=>rw[q1]at a;exact a.elim
       |pub d1=>rw[q1]at a;exact a.elim
       |own ds1=>
        rw[q1]at a;dsimp only at a;obtain⟨ad',ws,g1,g2,g3,g4,g5⟩:=k'.own i ds1 q1;rw[h1]at g1;cases g1;obtain⟨d',e',a'⟩:=aft.opt a;have sg:Same G' (upd G' ad (.lst ws)):=KW g3
        have sh:Same (upd G' ad (.lst ws)) H':=λb o q=>by
         by_cases z:b=ad
         .subst z;rw[Kh]at q;cases q;exact g4
         .rw[U4 z]at q;exact k'.gh b o q
        exact hr (.ref ad) u _ H' (.list ds1) y d' _ sh (.lst (SqL.of Kh) (g5.mono sg)) (r'.mono sg) e' (hq _ _ (a' d' G' H' k' s' qt))
theorem Fp{op:CmpOp}{p:D->D->qH}{i:Nat}{g:M D}(o:OpB X (Ue op) p)(ha:PE X a (Kg i))(hb:PE X b (tD X.K B G0 g))(hm:behindInMarks op b=qw) :
  PT X (.Compare a [op] [b] pos) (tBo X.K B G0 (K1 p i g)):=by
 obtain⟨r,h,j⟩:=o;exact Ym (O1 h ha hb hm) λσ H Q q=>Pc (λt H3 z=>⟨t,rfl,z⟩) j q
theorem Fo{op:CmpOp}{p:D->D->qH}{i:Nat}{g:M D}(o:OpB X (Ue op) p)(ha:PE X a (Kg i))(hb:PE X b (tD X.K B G0 g))(hm:behindInMarks op b=qw) :
  PE X (.Compare a [op] [b] pos) (tD X.K B G0 (UI Ui (K1 p i g))):=by
 obtain⟨r,h,j⟩:=o;exact UU (O2 h ha hb hm) λσ H Q q=>Pc (λt H3 z=>z) j (tBo.val q)
end
end DL
namespace L2
open PySem PySem.Spec PyProof.Rows
def Itz(K:Frag)(a b:J8):It:=
 ⟨λi H=>∃xs x ys y,SqL K H a xs/\xs[i]?=O x/\SqL K H b ys/\ys[i]?=O y,
  λi H v H'=>∃p x y,H p=qu/\v=.ref p/\(∀xs,SqL K H a xs->xs[i]?=O x)/\(∀ys,SqL K H b ys->ys[i]?=O y)/\H'=upd H p (.tup [x,y]),
  λi H=>∃xs ys,SqL K H a xs/\SqL K H b ys/\(xs.length<=i∨ys.length<=i)⟩
theorem DS{P:J7}{w:World}{K:Frag}{elts:qA}{x1}{tp:Pos}(a b z TI TO i1 i2:J8)(Dz:ZipApart z TI TO i1 i2 a b) :
  Turn P w K (.Tuple elts x1 tp) (Itz K a b) [z,TI,TO,i1,i2] z (λi h=>IsZip h z TI TO .none/\IsPair h TI (.ref i1) (.ref i2)/\(∃c d,IsPair h TO c d)/\h.IsListIter i1 a i/\h.IsListIter i2 b i) where
 mem:=by simp
 obj:=λi h st c hc=>by
  obtain⟨h1,h2,⟨c0,d0,h3⟩,⟨o4,h4,_,d4⟩,⟨o5,h5,_,d5⟩⟩:=st;have hc':c=z∨c=TI∨c=TO∨c=i1∨c=i2:=by simpa using hc
  rcases hc' with rfl|rfl|rfl|rfl|rfl
  .exact⟨_,h1,λv q=>by have q':Data.fields _=Data.cell v:=q;cases q'⟩
  .exact⟨_,h2,λv q=>by have q':Data.seq _ _=Data.cell v:=q;cases q'⟩
  .exact⟨_,h3,λv q=>by have q':Data.seq _ _=Data.cell v:=q;cases q'⟩
  .exact⟨o4,h4,λv q=>by rw[d4]at q;cases q⟩
  .exact⟨o5,h5,λv q=>by rw[d5]at q;cases q⟩
 keep:=λi h h' st k=>by obtain⟨h1,h2,⟨c0,d0,h3⟩,h4,h5⟩:=st;exact⟨k z (by simp) _ h1,k TI (by simp) _ h2,⟨c0,d0,k TO (by simp) _ h3⟩,h4.at λo q=>k i1 (by simp) o q,h5.at λo q=>k i2 (by simp) o q⟩
 item:=by
  intro X hP hw hK hc i pins s σ H E I hf st hg;subst hP hw hK;obtain⟨h1,h2,⟨c0,d0,h3⟩,h4,h5⟩:=st;obtain⟨xs,x,ys,y,hq,hx,jd,hy⟩:=hg;obtain⟨its,rv,p,hz⟩:=I.list hq;obtain⟨its',rv',p',hz'⟩:=I.list jd;obtain⟨u,hu,ru⟩:=rv.get hx;obtain⟨u',hu',ru'⟩:=rv'.get hy;refine wpAny_pyNext_zip_item Dz h1 h2 h3 h4 h5 p.isList p'.isList (x:=u) (y:=u') (by simpa using hu) (by simpa using hu') λh' g1 g3 g4 g5 gp gs gk=>?_
  refine⟨_,rfl,wpAny_letOwnedTupleGo_zip g1 λh2' gz sb=>?_⟩;have hzl:z<s.heap.objs.size:=Qg h1;have jL:Heap.SameBut z h' h2':=sb;have gp2:h2'.get? s.heap.objs.size=O {cls:=.type "tuple", data:=.seq #[u,u']}:=(jL.2 _ (Jn hzl)).trans gp
  have kk:∀c o,c∉[z,TI,TO,i1,i2]->s.heap.get? c=O o->h2'.get? c=O o:=λc o hc q=>by
   have n1:c≠z:=λe=>hc (by simp[e])
   have n3:c≠TO:=λe=>hc (by simp[e])
   have n4:c≠i1:=λe=>hc (by simp[e])
   have n5:c≠i2:=λe=>hc (by simp[e])
   exact(jL.2 c n1).trans (gk c o n1 n3 n4 n5 q)
  have hn:H s.heap.objs.size=qu:=I.hok.fresh (Qk _)
  have I2:Inv X pins σ (upd H s.heap.objs.size (.tup [x,y])) {s with heap:=h2'}:=
   I.turnedNew (t':=s.toks) (fp:=[z,TI,TO,i1,i2]) hf kk (Qk _) ⟨by show 2<=Ub;decide,[u,u'],.cons ru (.cons ru' .nil),⟨_,gp2,rfl,_,rfl⟩⟩
  have gTI:IsPair h' TI (.ref i1) (.ref i2):=gk TI _ Dz.TIz Dz.TITO Dz.TIi1 Dz.TIi2 h2
  refine⟨.ref s.heap.objs.size,_,I2,rfl,⟨_,x,y,hn,rfl,λws hw=>by rw[I.list_inj hw hq];exact hx,λws hw=>by rw[I.list_inj hw jd];exact hy,rfl⟩,
   ⟨gz,(jL.2 _ Dz.TIz).trans gTI,⟨u,u',(jL.2 _ Dz.TOz).trans g3⟩,g4.at λo q=>(jL.2 _ Dz.i1z).trans q,g5.at λo q=>(jL.2 _ Dz.i2z).trans q⟩,λc hc=>?_⟩
  have hlt:c<s.heap.objs.size:=by
   have hc':c=z∨c=TI∨c=TO∨c=i1∨c=i2:=by simpa using hc
   rcases hc' with rfl|rfl|rfl|rfl|rfl
   .exact hzl
   .exact Qg h2
   .exact Qg h3
   .obtain⟨o,ho,_⟩:=h4;exact Qg ho
   .obtain⟨o,ho,_⟩:=h5;exact Qg ho
  rw[U4 (QA hlt)];exact(hf c hc).1
 done:=by
  intro X hP hw hK hc i pins s σ H E I hf st hg;subst hP hw hK;obtain⟨h1,h2,⟨c0,d0,h3⟩,h4,h5⟩:=st;obtain⟨xs,ys,hq,jd,hx⟩:=hg;obtain⟨its,rv,p,hz⟩:=I.list hq;obtain⟨its',rv',p',hz'⟩:=I.list jd;have hl:=rv.length;have hl':=rv'.length;refine wpAny_pyNext_zip_end (I.ok.hd hc) Dz h1 h2 h3 h4 h5 p.isList p'.isList ?_ λh' eb=>⟨rfl,I.turnedL (t':=s.toks) hf λc o hb q=>eb c o (λe=>hb (by simp[e])) (λe=>hb (by simp[e])) (λe=>hb (by simp[e])) (λe=>hb (by simp[e])) q⟩
  rcases hx with hx|hx
  .exact .inl (by simp;omega)
  .exact .inr (by simp;omega)
 self:=λ_ _ _ _ _ st h=>wpAny_pyIter_zip st.1 h
section
variable{X:Cx}
def iZip(K:Frag)(ta:TA):TI:=λσ H R=>ta σ H λvs H1=>∃a b xs ys,vs=[.ref a,.ref b]/\SqL K H1 a xs/\SqL K H1 b ys/\R (Itz K a b) H1
theorem Hf{a b:Ua}{ta:TA}{p pos:Pos}{elts:qA}{x1}{tp:Pos}(hg:Gl X "zip")(hm:X.mg "zip" = qu)(ha:PA X [a,b] ta)
  (hs:Ud [a,b] X.env=[(qw,eval a X.env),(qw,eval b X.env)]:=by rfl) (hs2:Ud [b] X.env=[(qw,eval b X.env)]:=by rfl):PI X (.Tuple elts x1 tp) (.Call (.Name "zip" p) [a,b] [] pos) (iZip X.K ta):=by
 intro pins s σ H R I h;refine Call_ (Xz I hg hm boot_zip (Jm (thn (ha pos pins s σ H _ I h) λus s1 ⟨vs,H1,I1,r1,q1⟩=>?_) (by rw[hs,hs2]) (by rw[hs2];rfl)));obtain⟨l1,l2,xs,ys,e,hq,jd,q⟩:=q1;subst e;cases r1 with
 |cons r rr=>
  cases rr with
  |cons r' rr=>
   cases rr;cases (show _=Value.ref l1 from r);cases (show _=Value.ref l2 from r');obtain⟨its,rv,pl,hz⟩:=I1.list hq;obtain⟨its',rv',pl',hz'⟩:=I1.list jd;have n1:l1<s1.heap.objs.size:=by obtain⟨_,e,_⟩:=id pl.isList;exact Qg e
   have n2:l2<s1.heap.objs.size:=by obtain⟨_,e,_⟩:=id pl'.isList;exact Qg e
   have ne:∀i j:Nat,i≠j->s1.heap.objs.size+i≠s1.heap.objs.size+j:=λi j h e=>h (Nat.add_left_cancel e);have m1:∀m:Nat,l1≠s1.heap.objs.size+m:=λm=>QA (Qz n1 (Nat.le_add_right _ _));have m2:∀m:Nat,l2≠s1.heap.objs.size+m:=λm=>QA (Qz n2 (Nat.le_add_right _ _));refine call_zip_2 pl.isList pl'.isList λh' g1 g2 g3 g4 g5 gs kk=>?_;have I2:Inv X pins σ H1 {s1 with heap:=h'}:=I1.kept (t':=s1.toks) kk;refine wpAny_pyIter_zip g1 ?_
   refine⟨s1.heap.objs.size+4,[s1.heap.objs.size+4,s1.heap.objs.size+2,s1.heap.objs.size+3,s1.heap.objs.size,s1.heap.objs.size+1],_,_,H1,rfl,I2,
    DS l1 l2 (s1.heap.objs.size+4) (s1.heap.objs.size+2) (s1.heap.objs.size+3) s1.heap.objs.size (s1.heap.objs.size+1) ⟨ne 2 4 (by decide),ne 3 4 (by decide),ne 0 4 (by decide),ne 1 4 (by decide),ne 2 3 (by decide),ne 2 0 (by decide),ne 2 1 (by decide),ne 3 0 (by decide),ne 3 1 (by decide),ne 0 1 (by decide),m1 4,m1 3,m1 0,m1 1,m2 4,m2 3,m2 0,m2 1⟩,⟨g1,g2,⟨_,_,g3⟩,g4,g5⟩,λc hc=>?_,q⟩
   have hc':s1.heap.objs.size<=c:=by
    have hc':c=s1.heap.objs.size+4∨c=s1.heap.objs.size+2∨c=s1.heap.objs.size+3∨c=s1.heap.objs.size∨c=s1.heap.objs.size+1:=by simpa using hc
    rcases hc' with rfl|rfl|rfl|rfl|rfl<;>first|exact Nat.le_add_right _ _|exact Qk _
   exact I1.fpOk hc' (I1.hok.fresh hc')
end
end L2
namespace DL
open PySem PySem.Spec L2
open PyProof.Rows hiding St
section
variable{X:Cx}{B G0:Hp}{e a b c tg:Ua}{pos:Pos}{es rest:qA}
def Yz(xs ys:qx):qx:=(xs.zip ys).map λp=>.tuple [p.1,p.2]
theorem Bj{K:Frag}{G1:Hp}{a b:J8}{vs ws:List V}{ds es:qx}(h:SqL K G1 a vs)(h':SqL K G1 b ws)(r:Reps K G1 vs ds)(r':Reps K G1 ws es):Yu K (Itz K a b) (Yz ds es) G1 where
 go:=λi G H s1 s2 hi=>by
  unfold Yz at hi;rw[Qd,List.length_zip]at hi;have hi1:i<vs.length:=by rw[r.length];omega
  have hi2:i<ws.length:=by rw[r'.length];omega
  exact⟨vs,vs[i],ws,ws[i],(s1.trans s2).seq h,Qe hi1,(s1.trans s2).seq h',Qe hi2⟩
 stop:=λi G H s1 s2 hi=>by unfold Yz at hi;rw[Qd,List.length_zip]at hi;refine⟨vs,ws,(s1.trans s2).seq h,(s1.trans s2).seq h',?_⟩;rw[r.length,r'.length];omega
 yld:=λi G H x H' d s1 s2 e y=>by
  obtain⟨p,u,v,hp,rfl,y1,y2,rfl⟩:=y;have z1:=y1 vs ((s1.trans s2).seq h);have z2:=y2 ws ((s1.trans s2).seq h');unfold Yz at e;rw[Qi]at e;cases q:(ds.zip es)[i]? with
  |none=>rw[q]at e;cases e
  |some pr=>rw[q]at e;cases e;rw[List.getElem?_zip_eq_some]at q;obtain⟨u',e1,r1⟩:=r.get q.1;obtain⟨v',e2,r2⟩:=r'.get q.2;rw[z1]at e1;rw[z2]at e2;cases e1;cases e2;exact⟨upd G p (.tup [u,v]),Ext.new s2 hp,.tup (SqT.of Kh) (.cons ((r1.mono s1).mono (KW (s2.free hp))) (.cons ((r2.mono s1).mono (KW (s2.free hp))) .nil))⟩
def Y1:qx->Option qx
 |[.list xs,.list ys]=>O (Yz xs ys)
 |_=>qu
theorem DR{x l:qx}(h:Y1 x=O l):∃xs ys,x=[.list xs,.list ys]/\l=Yz xs ys:=by
 unfold Y1 at h;split at h
 .cases h;exact⟨_,_,rfl,rfl⟩
 .cases h
def X4(f:M qx):M qx:=UH f λx=>UG (Y1 x)
theorem He{f:M qx}{p2:Pos}{elts:qA}{x1}{tp:Pos}(hg:Gl X "zip")(hm:X.mg "zip" = qu)(ha:PA X [a,b] (tDs X.K B G0 f))(hs:Ud [a,b] X.env=[(qw,eval a X.env),(qw,eval b X.env)]:=by rfl)(hs2:Ud [b] X.env=[(qw,eval b X.env)]:=by rfl) :
  PI X (.Tuple elts x1 tp) (.Call (.Name "zip" p2) [a,b] [] pos) (iD X.K B G0 (X4 f)):=YF (Hf hg hm ha hs hs2) λσ H R q=>tM.toI (R0:=Reps X.K) q λv H' G' Z' x k r a=>by
 cases z:Y1 x with
 |none=>rw[z]at a;exact a.elim
 |some l=>
  rw[z]at a;obtain⟨xs,ys,rfl,rfl⟩:=DR z;cases r with
  |cons r1 rr=>
   cases rr with
   |cons r2 rr=>cases rr;obtain⟨l1,vs,rfl,h1,q1⟩:=r1.lst_inv;obtain⟨l2,ws,rfl,h2,q2⟩:=r2.lst_inv;exact⟨l1,l2,vs,ws,rfl,k.gh.seq h1,k.gh.seq h2,a _ G' H' k (.refl _) (Bj h1 h2 q1 q2)⟩
end
section
variable{X:Cx}{B G0:Hp}{e o a b c tg:Ua}{pos p2 p3:Pos}{es rest:qA}{te to ti:TE}
def oIn:D->D->qH
 |.str i,.str j=>O (inS i j)
 |x,.list xs=>if x.canLay0=qv/\Ul xs=qv/\x.depth<=60 then O (xs.any λy=>Uo y x)else qu
 |x,.tuple xs=>if x.canLay0=qv/\Ul xs=qv/\x.depth<=60 then O (xs.any λy=>Uo y x)else qu
 |_,_=>qu
def Y3(x y:D):qH:=(oIn x y).map λt=>!t
def YG(x y:D):qH:=match y with
 |.list xs=>if x.canLay0=qv/\Ul xs=qv/\x.depth<=60 then O (xs.any λy=>Uo y x)else qu
 |.tuple xs=>if x.canLay0=qv/\Ul xs=qv/\x.depth<=60 then O (xs.any λy=>Uo y x)else qu
 |_=>qu
theorem Le(hu:X.A.units+64<cLine):OpB X (Ue .In) YG:=by
 refine⟨λv u H Q=>∃G x y d,Same G H/\Rep X.K G v x/\Rep X.K G u y/\YG x y=O d/\Q (.bl d) H,?_,λv u G H x y d Q s rx ry e k=>⟨G,x,y,d,s,rx,ry,e,k⟩⟩;intro pins s σ H x y v u Q I rx ry ⟨G,dx,dy,d,sg,px,py,e,q⟩;unfold YG at e;split at e
 .split at e
  .rename_i c
   cases e;obtain⟨as,ra⟩:=Yk I sg px rx c.1;obtain⟨bs,rb⟩:=Yk I sg py ry (show Ul _=qv from c.2.1);exact SeqAt.in_list_reads rb ra c.2.1 c.1 (by have:=c.2.2;omega) ⟨.bl _,H,I,rfl,q⟩
  .cases e
 .split at e
  .rename_i c
   cases e;obtain⟨as,ra⟩:=Yk I sg px rx c.1;obtain⟨bs,rb⟩:=Yk I sg py ry (show Ul _=qv from c.2.1);exact SeqAt.in_tuple_reads rb ra c.2.1 c.1 (by have:=c.2.2;omega) ⟨.bl _,H,I,rfl,q⟩
  .cases e
 .cases e
theorem Hd(hu:X.A.units+64<cLine):OpB X (Ue .NotIn) (λx y=>(YG x y).map λt=>!t):=by
 refine⟨λv u H Q=>∃G x y d,Same G H/\Rep X.K G v x/\Rep X.K G u y/\(YG x y).map (λt=>!t)=O d/\Q (.bl d) H,?_,λv u G H x y d Q s rx ry e k=>⟨G,x,y,d,s,rx,ry,e,k⟩⟩;intro pins s σ H x y v u Q I rx ry ⟨G,dx,dy,d,sg,px,py,e,q⟩;unfold YG at e;split at e
 .split at e
  .rename_i c
   cases e;obtain⟨as,ra⟩:=Yk I sg px rx c.1;obtain⟨bs,rb⟩:=Yk I sg py ry (show Ul _=qv from c.2.1);exact SeqAt.notIn_list_reads rb ra c.2.1 c.1 (by have:=c.2.2;omega) ⟨.bl _,H,I,rfl,q⟩
  .cases e
 .split at e
  .rename_i c
   cases e;obtain⟨as,ra⟩:=Yk I sg px rx c.1;obtain⟨bs,rb⟩:=Yk I sg py ry (show Ul _=qv from c.2.1);exact SeqAt.notIn_tuple_reads rb ra c.2.1 c.1 (by have:=c.2.2;omega) ⟨.bl _,H,I,rfl,q⟩
  .cases e
 .cases e
theorem B_in(hu:X.A.units+64<cLine):OpB X (Ue .In) oIn:=(Lg.or (Le hu)).congr λx y=>by cases x<;>cases y<;>rfl
theorem Ld(hu:X.A.units+64<cLine):OpB X (Ue .NotIn) Y3:=(Hj.or (Hd hu)).congr λx y=>by cases x<;>cases y<;>rfl
theorem Bh{tl th ts:TO}{lo hi:Option Ua}{st:Ua}(he:PE X e te)(hl:PO X lo tl)(hu:PO X hi th)(hst:PO X (O st) ts):PE X (.Subscript e (.Slice lo hi (O st) p2) pos)
  (λσ H Q=>te σ H λx H1=>tl σ H1 λl H2=>th σ H2 λu H3=>ts σ H3 λt H4=>∃a xs,x=.ref a/\SqL X.K H4 a xs/\l=qu/\u=qu/\t=O (-1)/\∀p,H4 p=qu->Q (.ref p) (upd H4 p (.lst xs.reverse))):=by
 intro pins s σ H Q I h;refine Subscript_ (thn (he pins s σ H _ I h) λv s1 ⟨x,H1,I1,r1,q1⟩=>?_);refine wpAny_Slice (thn (hl pins s1 σ H1 _ I1 q1) λvl s2 ⟨l,H2,I2,pl,q2⟩=>thn (hu pins s2 σ H2 _ I2 q2) λvu s3 ⟨u,H3,I3,pu,q3⟩=>thn (hst pins s3 σ H3 _ I3 q3) λvt s4 ⟨t,H4,I4,pt,q4⟩=>?_);obtain⟨a,xs,rfl,hx,rfl,rfl,rfl,q⟩:=q4;cases r1;have I5:Inv X pins σ H4 {s4 with heap:=s4.heap.push {cls:=.type "slice", data:=.fields #[vl,vu,vt]}}:=I4.kept (t':=s4.toks) λb ob q=>Qf _ q
 obtain⟨its,r,ht,hz⟩:=I5.list hx;have hlen:=r.length;have hg:Uc (model X.prog X.w) X.A (getItem (.ref a) (.ref s4.heap.objs.size)) (EP X pins σ Q) X.xe {s4 with heap:=s4.heap.push {cls:=.type "slice", data:=.fields #[vl,vu,vt]}}:=by refine wpAny_getItem_list_slice ht.isList (Heap.IsSliceOf.new ..) pl pu pt (by simp) ?_ (by rw[List.size_toArray]<;>omega);rw[PySem.W.krv_pick];refine⟨.ref _,_,I5.laid (t':=s4.toks) (o:=.lst xs.reverse) (λb ob q=>Qf _ q) (Qk _) ?_,rfl,q _ (I5.hok.fresh (Qk _))⟩;exact⟨by rw[List.length_reverse];exact hz,its.reverse,0,r.reverse,Qt _ qt⟩
 show Uc (model X.prog X.w) X.A (subscriptTail e (.Slice lo hi (O st) p2) (.ref a) (.ref s4.heap.objs.size)) (EP X pins σ Q) X.xe {s4 with heap:=s4.heap.push {cls:=.type "slice", data:=.fields #[vl,vu,vt]}};exact tail_any (ops:=[.ref a,.ref s4.heap.objs.size]) ht.isList.typeIs slot_list_getitem.lookup hg (by with_unfolding_all rfl)
def XT:D->qD->qD->qD->qB
 |.list xs,qu,qu,O i=>if i = -1 then O (.list xs.reverse)else qu
 |_,_,_,_=>qu
def X5(f:M D)(lo hi st:M qD):M D:=UH f λx=>UH lo λl=>UH hi λh=>UH st λt=>UG (XT x l h t)
theorem Fn{lo hi:Option Ua}{st:Ua}{f:M D}{l h t:M qD}(he:PE X e (tD X.K B G0 f))(hl:PO X lo (tOi X.K B G0 l))(hu:PO X hi (tOi X.K B G0 h))(hst:PO X (O st) (tOi X.K B G0 t)) :
  PE X (.Subscript e (.Slice lo hi (O st) p2) pos) (tD X.K B G0 (X5 f l h t)):=
 UU (Bh he hl hu hst) λσ H Q q=>by
  refine tM.one (R:=Rep X.K) q λv H2 G Z x k r a=>?_;refine tM.nx (R:=λ_ b c=>b=c) k a λl' H3 G3 Z3 xl k3 s3 r3 a3=>?_;refine tM.nx (R:=λ_ b c=>b=c) k3 a3 λh' H4 G4 Z4 xh k4 s4 r4 a4=>?_;refine tM.nx (R:=λ_ b c=>b=c) k4 a4 λt' H5 G5 Z5 xt k5 s5 r5 a5=>?_;have r3:l'=xl:=r3;have r4:h'=xh:=r4;have r5:t'=xt:=r5;subst r3 r4 r5
  cases x with
  |list xs=>
   cases l' with
   |some _=>exact a5.elim
   |none=>
   cases h' with
   |some _=>exact a5.elim
   |none=>
   cases t' with
   |none=>exact a5.elim
   |some i=>
   obtain⟨ad,vs,rfl,h1,r1⟩:=(((r.mono s3).mono s4).mono s5).lst_inv;by_cases hi:i = -1
   .subst hi
    exact⟨ad,vs,rfl,k5.gh.seq h1,rfl,rfl,rfl,λp hp=>aft.done a5 k5 (Ext.new k5.gh hp) (.lst (SqL.of Kh) (r1.reverse.mono (KW (k5.gh.free hp))))⟩
   .unfold UG XT at a5
    dsimp only at a5;rw[Qy hi]at a5;exact a5.elim
  |_=>unfold UG XT at a5;exact a5.elim
def Vo:qx->Option qx
 |[.list xs]=>O xs
 |[.tuple xs]=>O xs
 |_=>qu
theorem Bg{x l:qx}(h:Vo x=O l):x=[.list l]∨x=[.tuple l]:=by
 unfold Vo at h;split at h
 .cases h;exact .inl qt
 .cases h;exact .inr qt
 .cases h
theorem Mw:bootBuiltins "list" = O (.type "list"):=by decide +kernel
theorem Ci{f:M qx}(hg:Gl X "list")(hm:X.mg "list" = qu)(ha:PA X [a] (tDs X.K B G0 f))(he:Ud [a] X.env=(qw,eval a X.env)::Ud [] X.env:=by rfl) :
  PE X (.Call (.Name "list" p2) [a] [] pos) (tL X.K B G0 (UH f λxs=>UG (Vo xs))):=
 UU (So A4 hg hm Mw ha (by decide) (by decide) he qt) λσ H Q ⟨G,Z,k,q⟩=>by
  refine⟨G,Z,k,?_⟩;unfold UH at q;cases z:f Z with
  |bad=>rw[z]at q;exact q.elim
  |ok xs Z1=>
   rw[z]at q;dsimp only[UG]at q;intro vs G' H' k' s' r;cases z2:Vo xs with
   |none=>rw[z2]at q;exact q.elim
   |some l=>
    rw[z2]at q;rcases Bg z2 with rfl|rfl
    .obtain⟨v,rfl,q1⟩:=r.one_inv
     obtain⟨p,ws,rfl,h1,r1⟩:=q1.lst_inv;exact⟨p,ws,rfl,.inl (k'.gh.seq h1),λad hp=>q ad ws G' _ (k'.ext (Ext.hid k'.gh hp)) s' (NewL.of k' hp r1)⟩
    .obtain⟨v,rfl,q1⟩:=r.one_inv
     obtain⟨p,ws,rfl,h1,r1⟩:=q1.tup_inv;exact⟨p,ws,rfl,.inr (Yb k'.gh h1),λad hp=>q ad ws G' _ (k'.ext (Ext.hid k'.gh hp)) s' (NewL.of k' hp r1)⟩
def SD:qx->qB
 |[.int i]=>O (.int i)
 |[.bool b]=>O (.int (if b then 1 else 0))
 |_=>qu
theorem Hc:Z9 X (.type "int") SD:=by
 refine⟨_,Ag,λvs G H ds d Q s r e k=>?_⟩;unfold SD at e;split at e
 .cases e
  obtain⟨v,rfl,q⟩:=r.one_inv;rw[q.int_inv];exact .inl ⟨_,rfl,k _ G H (.refl s) (.int _)⟩
 .cases e
  obtain⟨v,rfl,q⟩:=r.one_inv;rw[q.bl_inv];exact .inr ⟨_,rfl,k _ G H (.refl s) (.int _)⟩
 .cases e
theorem Lc{x:Str}{zs:List Str}(hg:Gl X x)(hm:∃ad o its n,X.mg x=O (.ref ad)/\X.K.lookup ad=O o/\o.cls=.type "tuple" /\ o.data=.seq its n/\its.size<=Ub/\Vals (zs.map V.str) its.toList)(hd:(x==("__debug__" : Str))=qw:=by decide) :
  PE X (.Name x pos) (tD X.K B G0 (UA (.tuple (zs.map Uj)))):=by
 obtain⟨ad,o,its,n,hm,h1,h2,h3,h4,h5⟩:=hm;refine UU (Rp (v:=.ref ad) hg hm qt hd) λσ H Q ⟨G,Z,k,a⟩=>aft.now a k (.tup (.inr ⟨o,its,n,h1,h2,h3,h4,h5⟩) ?_)
 have:∀zs:List Str,Reps X.K G (zs.map V.str) (zs.map Uj):=λzs=>by
  induction zs with
  |nil=>exact .nil
  |cons z r ih=>exact .cons (.str _) ih
 exact this zs
end
section
variable{X:Cx}{B G0:Hp}{e o a b c tg:Ua}{pos p2 p3 p4:Pos}{es rest:qA}{te to ti:TE}
theorem VM:∀{ns:qy}{us:qz},Vals (ns.map V.int) us->PyProof.Rows.IntsAre us ns
 |[],_,.nil=>.nil
 |n::ns,_,.cons h t=>by obtain⟨tk,rfl⟩:=h;exact .cons n tk (VM t)
def Zb(ns:qy):Nat:=(PyProof.Rows.firstMet (λi=>ns.getD i 0) ns.length).length
theorem Bf(hc:X.calm=qv):ZM X (.type "set") (λxs H Q=>∃l,∃ns:qy,xs=[.ref l]/\SqL X.K H l (ns.map V.int)/\ns.length+1<4096/\∀S p,H p=qu->Q (.ref p) (upd H p (.set S (Zb ns)))):=by
 intro pins s σ H xs us Q I rx h;obtain⟨l,ns,rfl,hq,hb,q⟩:=h;obtain⟨u,rfl,ru⟩:=rx.one;cases ru;obtain⟨its,rv,p,hz⟩:=I.list hq;have hi:=VM rv;have hn:its.toArray.size=ns.length:=by have:=rv.length;rw[List.length_map]at this;simp;omega
 refine call_set_list (I.ok.hd hc) p.isList (ns:=ns) (by simpa using hi) (by rw[hn];exact hb) λh' tk hS hk=>?_
 rw[hn]at hS;refine⟨.ref s.heap.objs.size,_,I.laid (t':=tk) (λb o e=>hk b o (Qg e) e) (Qk _) (show KT X.prog X.w _ h' _ (.set _ (Zb ns))from hS),rfl,q _ _ (I.hok.fresh (Qk _))⟩
theorem Mg:ZM X (.builtin "len") (λxs H Q=>∃p S n,xs=[.ref p]/\H p=O (.set S n)/\Q (.int n) H):=by
 intro pins s σ H xs us Q I rx h;obtain⟨p,S,n,rfl,hp,q⟩:=h;obtain⟨u,rfl,ru⟩:=rx.one;cases ru;obtain⟨o,es,ep,t,h1,h2,h3,h4,h5,h6,h7,h8⟩:=(show s.heap.SetOf (intKind X.prog X.w) p S n from I.hok p _ hp)
 have hsb:scanBound=4096:=rfl;refine call_len_set h1 h2 h3 h7 (by omega) ?_;rw[h8];exact⟨.int n,H,I.tok _,⟨_,rfl⟩,q⟩
def YR:qx->Option qy
 |[]=>O []
 |.int i::r=>(YR r).map (i :: ·)
 |_=>qu
theorem RQ{K:Frag}{G:Hp}:∀{vs:List V}{ds:qx}{ns:qy},Reps K G vs ds->YR ds=O ns->vs=ns.map V.int
 |_,_,ns,.nil,e=>by cases e;rfl
 |_,_,ns,.cons (d:=d) r t,e=>by
  cases d with
  |int b=>
   unfold YR at e;cases z:YR _ with
   |none=>rw[z]at e;cases e
   |some cs=>rw[z]at e;cases e;rw[r.int_inv,RQ t z];rfl
  |_=>cases e
theorem RV(ns:qy):YR (ns.map int)=O ns:=by
 induction ns with
 |nil=>rfl
 |cons b r ih=>rw[QG,YR,ih];rfl
def XA:qx->qB
 |[.list ds]=>(match YR ds with
  |some ns=>if ns.length+1<4096 then O (.int (Zb ns))else qu
  |none=>qu)
 |_=>qu
theorem AO{xs:qx}{d:D}(h:XA xs=O d):∃ds ns,xs=[.list ds]/\YR ds=O ns/\ns.length+1<4096/\d=.int (Zb ns):=by
 unfold XA at h;split at h
 .rename_i ds
  cases z:YR ds with
  |none=>rw[z]at h;cases h
  |some ns=>
   rw[z]at h;dsimp only at h;split at h
   .rename_i c
    cases h;exact⟨ds,ns,rfl,z,c,rfl⟩
   .cases h
 .cases h
theorem Be:bootBuiltins "set" = O (.type "set"):=by decide +kernel
theorem BN{f:M qx}(hc:X.calm=qv)(hg:Gl X "len")(hm:X.mg "len" = qu)(jZ:Gl X "set")(hm2:X.mg "set" = qu)(ha:PA X [a] (tDs X.K B G0 f))(he:Ud [a] X.env=(qw,eval a X.env)::Ud [] X.env:=by rfl)
  (jp:Ud [.Call (.Name "set" p2) [a] [] p3] X.env=(qw,eval (.Call (.Name "set" p2) [a] [] p3) X.env)::Ud [] X.env:=by rfl) :
  PE X (.Call (.Name "len" p4) [.Call (.Name "set" p2) [a] [] p3] [] pos) (tD X.K B G0 (Zl XA f)):=
 UU (WJ Mg hg hm boot_len (ZG (So (Bf hc) jZ hm2 Be ha (by decide) (by decide) he qt) YT jp) (by decide) (by decide) jp qt) λσ H Q q=>tM.one (R:=Reps X.K) q λvs H2 G Z x k r a=>by obtain⟨d,e,a⟩:=a.opt;obtain⟨ds,ns,rfl,z,c,rfl⟩:=AO e;obtain⟨v,rfl,q1⟩:=r.one_inv;obtain⟨l,ws,rfl,h1,r1⟩:=q1.lst_inv;have:=RQ r1 z;subst this;refine⟨l,ns,rfl,k.gh.seq h1,c,λS p hp=>⟨p,S,Zb ns,rfl,Kh,?_⟩⟩;exact aft.done a k (Ext.hid k.gh hp) (.int _)
end
end DL
namespace L2
open PySem PySem.Spec PyProof.Rows
end L2
namespace DL
open PySem PySem.Spec L2
open PyProof.Rows hiding St
end DL
namespace L2
open PySem PySem.Spec PyProof.Rows
section
variable{prog:J7}{w:World}{A:Around}{E:J5->J6->Prop}{s:J6}{M:Model}{env:Env}
theorem Fl{pos:Pos}{T:String}{args:List (Bool×Sem J5)}{kws:List (Option Str×Sem J5)}{Q:J5->J6->Prop}(hp:args.any (·.1)=qw)(hk:kws.any (·.1.isNone)=qw)
  (h:Uc M A (evalArgs (.type T) qv args kws) (λa s1=>Uc M A (call (.type T) a.pos a.kw) Q E s1) E s):Uc M A (callWith pos (.type T) [] args kws) Q E s:=by
 unfold callWith;refine Qb (Jp (Qr h (λa s1 h1=>Qb (QZ ?_)) λ_ _ z=>z));simp only[hp,hk,JX];refine Qb (Qh ?_);exact Qb (Qr h1 (λr s2 hr=>Qb (Jp (wpAny_point (Qh hr)))) λ_ _ z=>z)
theorem Ch(l:J8)(t:Tok)(items:Array J5)(n:Nat)(dct:qG)(sl:Array qC) :
  Meets (Builtin.«enumerate.__new__» ⟨[.type "enumerate", .ref l],[("start", .int 1 t)]⟩) (λ_ R s=>s.heap.get? l=O ⟨.type "list", dct,.seq items n,sl⟩ /\
   R (.ok (.ret (.ref (s.heap.push {cls:=.type "list_iterator", data:=.fields #[.ref l,.int 0 0]}).objs.size))) {s with heap:=(s.heap.push {cls:=.type "list_iterator", data:=.fields #[.ref l,.int 0 0]}).push {cls:=.type "enumerate", data:=.fields #[.none,.bool qw,.ref s.heap.objs.size,rawInt 1,.none,.none]}}):=
 .of_wp λprog w A R s h=>by
  obtain⟨hp,g,d,tk,os⟩:=s;obtain⟨hl,h⟩:=h;have hsub:=sub_enumerate;have hL:Heap.IsList (Shared.heap ⟨hp,g,d,tk,os⟩) l items:=⟨_,hl,rfl,n,rfl⟩
  wp_walk using AutoSeq1.wpAny_loadPart' hl
  refine wpAny_stack_any λst=>(Qh ?_);split
  .rename_i c _ _ _ _ _
   cases (c==Value.type "enumerate")<;>(wp_walk using(AutoSeq1.wpAny_loadPart' hl),(Jx hL))<;>exact⟨_,rfl,h⟩
  ·(wp_walk using(AutoSeq1.wpAny_loadPart' hl),(Jx hL));exact⟨_,rfl,h⟩
theorem AX{T newId initId:String}{Bn Bi:Builtin}{args:qz}{kw:List (Str×J5)}{S:PySem.Spec}{Q Q1:J5->J6->Prop}(ft:TypeCalled T newId initId)
  (hct:checkTypeCall T ⟨args,kw⟩=pure ()) (hcn:checkBuiltinCall newId ⟨.type T::args,kw⟩=pure ()) (eN:entryFor table newId=O Bn) (eI:entryFor table initId=O Bi)
  (g:Meets (Bn ⟨.type T::args,kw⟩) S) (h:S A.in1 (wants Q1 E) s)
  (hnext:∀obj s1,Q1 obj s1->s1.TypeIs obj T/\argsOk initId ⟨obj::args,kw⟩/\∃Si,Meets (Bi ⟨obj::args,kw⟩) Si/\Si A.in1 (wants (λr s2=>r=.none/\Q obj s2) E) s1) :
  Uc (model prog w) A (call (.type T) args kw) Q E s:=by
 obtain⟨c,tl,hmro⟩:=ft.mro;have hmade:=ft.made;have hsub:=ft.sub;refine wpAny_call (codeAny_of_tree ?_);show Uc _ _ (callAny (.type T) _) _ _ _;refine Qh ⟨Code.quiet_builtin _ (by decide +kernel),(codeAny_builtin F.entry_type_call ?_)⟩;rw[Around.under_plain (weight_type_call_type T args kw) (units_type_call_type T args kw)];have h1:=ft.notType;have h2:=ft.canCreate
 repeat' (any_goals (first|wp_step|assumption))
 refine Ji (Q6 ft.plain eN (wpAny_of_eq hcn (g prog w A.in1 _ s h))) λr s1 hr=>?_
 match r,hr with
 |.error e,hr=>exact hr
 |.ok (.ret obj),hr=>
  obtain⟨hT,hok,Si,gi,hsi⟩:=hnext _ _ hr;have hli:=ft.init.lookup;have hbi:=ft.init.bind obj
  repeat' (any_goals (first|wp_step|assumption))
  refine Ji (Q6 ft.init.plain eI (ft.init.check _ _ _ _ _ _ _ _ hT hok (gi prog w A.in1 _ s1 hsi))) λr2 s2 jn=>?_
  match r2,jn with
  |.error e,jn=>exact jn
  |.ok (.ret r),jn=>
   obtain⟨rfl,hq⟩:=jn
   repeat' (any_goals (first|wp_step|assumption))
  |.ok .next,jn=>exact jn.elim
  |.ok .brk,jn=>exact jn.elim
  |.ok .cont,jn=>exact jn.elim
 |.ok .next,hr=>exact hr.elim
 |.ok .brk,hr=>exact hr.elim
 |.ok .cont,hr=>exact hr.elim
theorem AN{T newId:String}{self:J5}{rest:qz}{kw:List (Str×J5)}(hl:typeLookup (.type T) "__init__" = pure (O (.builtin "object.__init__")))
  (hm:Bind.madeBy (.type T)=pure (O newId)) (hne:(O newId != O "object.__new__")=qv) :
  Meets (Builtin.«object.__init__» ⟨self::rest,kw⟩) (λ_ R s=>s.TypeIs self T/\R (.ok (.ret .none)) s):=by
 refine .of_wp λprog w A R s hs=>?_
 obtain⟨hT,hq⟩:=hs;cases rest with
 |nil=>
  cases kw with
  |nil=>exact Qh ⟨_,rfl,hq⟩
  |cons k kw=>(repeat' (any_goals (first|wp_step|assumption)));exact⟨_,rfl,hq⟩
 |cons a rest=>(repeat' (any_goals (first|wp_step|assumption)));exact⟨_,rfl,hq⟩
theorem AM(a:J5)(t:Tok):checkTypeCall "enumerate" ⟨[a],[("start", .int 1 t)]⟩=pure ():=by kernel_rfl
theorem BM(a:J5)(t:Tok):checkBuiltinCall "enumerate.__new__" ⟨[.type "enumerate", a],[("start", .int 1 t)]⟩=pure ():=by kernel_rfl
theorem AL(o a:J5)(t:Tok):argsOk "object.__init__" ⟨[o,a],[("start", .int 1 t)]⟩:=by unfold argsOk;kernel_rfl
theorem BL{l:J8}{items:Array J5}{t:Tok}{Q:J5->J6->Prop}(hL:s.heap.IsList l items)
  (h:∀h',IsEnum h' (s.heap.objs.size+1) s.heap.objs.size 1 .none->h'.IsListIter s.heap.objs.size l 0->(∀b o,s.heap.get? b=O o->h'.get? b=O o)->Q (.ref (s.heap.objs.size+1)) {s with heap:=h'}) :
  Uc (model prog w) A (call (.type "enumerate") [.ref l] [("start", .int 1 t)]) Q E s:=by
 obtain⟨⟨c,dct,dt,sl⟩,hl,hc,n,hd⟩:=hL;replace hc:c=.type "list" :=hc;replace hd:dt=.seq items n:=hd;subst hc hd;have hz:(s.heap.push {cls:=.type "list_iterator", data:=.fields #[.ref l,.int 0 0]}).objs.size=s.heap.objs.size+1:=Heap.size_push ..;have he:IsEnum ((s.heap.push {cls:=.type "list_iterator", data:=.fields #[.ref l,.int 0 0]}).push {cls:=.type "enumerate", data:=.fields #[.none,.bool qw,.ref s.heap.objs.size,rawInt 1,.none,.none]}) (s.heap.objs.size+1) s.heap.objs.size 1 .none:=by rw[←hz];exact Qt _ qt
 refine AX F.called_enumerate (AM _ t) (BM _ t) F.entry_enumerate_new F.entry_object_init (Ch l t items n dct sl) (Q1:=λobj s1=>s1.TypeIs obj "enumerate" /\ Q obj s1) ⟨hl,?_⟩ λobj s1 hq=>
  ⟨hq.1,AL obj _ t,_,AN F.called_enumerate.init.lookup F.called_enumerate.made (by decide),hq.1,rfl,hq.2⟩
 show _/\_;rw[hz];exact⟨⟨_,he,rfl⟩,h _ he ⟨_,Qf _ (Qt _ qt),rfl,rfl⟩ λb o x=>Qf _ (Qf _ x)⟩
end
section
variable{prog:J7}{w:World}{A:Around}{E:J5->J6->Prop}{s:J6}
theorem Bd{en it l:J8}{i:Nat}{j:Int}{items:Array J5}{x old:J5}{Q:qC->J6->Prop}(st:IsEnum s.heap en it j old)(li:s.heap.IsListIter it l i)(ls:s.heap.IsList l items)
  (at_:items[i]?=O x) (ne:en≠it)
  (k:∀h',IsEnumOut h' en it (j+1) x s.heap.objs.size->h'.IsListIter it l (i+1)->h'.get? s.heap.objs.size=O {cls:=.type "tuple", data:=.seq #[.int j s.toks,x]}->(∀b o,b≠en->b≠it->s.heap.get? b=O o->h'.get? b=O o) ->
   Q (O (.ref s.heap.objs.size)) {s with heap:=h',toks:=s.toks+1}):Uc (model prog w) A (pyNext (.ref en)) Q E s:=by
 have ty:s.TypeIs (.ref en) "enumerate" :=⟨_,st,rfl⟩
 have lt:en<s.heap.objs.size:=Qg st;unfold pyNext;refine Qb (wpAny_attempt (wpAny_callSpecial?_slot (name:=Uq "__next__") ty F.slot_enumerate_next (wpAny_call_entry F.slot_enumerate_next ty F.entry_enumerate_next ?_ (F.args_enumerate_next_1 _))));show Uc _ _ (field (.ref en) 2 >>= _) _ _ s;refine Qb (Q3 st qt (x:=.ref it) qt ?_);refine Qb (wpAny_nextOf_list_item li ls at_ λm1 li1 c1=>?_);have c1:Heap.SameBut it s.heap m1:=c1;have st1:IsEnum m1 en it j old:=(c1.2 en ne).trans st;show Uc _ _ (field (.ref en) 3 >>= _) _ _ {s with heap:=m1};refine Qb (Q3 st1 qt (x:=rawInt j) qt ?_);show Uc _ _ (field (.ref en) 4 >>= _) _ _ {s with heap:=m1};refine Qb (Q3 st1 qt (x:=.none) qt ?_);show Uc _ _ (mkInt j >>= _) _ _ {s with heap:=m1};refine Qb (wpAny_mkInt ?_);show Uc _ _ (setField (.ref en) 3 (rawInt (j+1)) >>= _) _ _ {s with heap:=m1,toks:=s.toks+1};refine wpAny_bind (wpAny_setField_rec st1 (by simp) λm2 st2 c2=>?_);have c2:Heap.SameBut en m1 m2:=c2;have st2:IsEnum m2 en it (j+1) old:=st2;show Uc _ _ (setField (.ref en) 4 .none >>= _) _ _ {s with heap:=m2,toks:=s.toks+1};refine wpAny_bind (wpAny_setField_rec st2 (by simp) λm3 st3 c3=>?_);have c3:Heap.SameBut en m2 m3:=c3;have st3:IsEnum m3 en it (j+1) old:=st3;show Uc _ _ (newTuple [.int j s.toks,x] >>= _) _ _ {s with heap:=m3,toks:=s.toks+1};refine Qb (wpAny_newTuple ?_);have z3:m3.objs.size=s.heap.objs.size:=c3.1.trans (c2.1.trans c1.1);have st4:IsEnum (m3.push {cls:=.type "tuple", data:=.seq #[.int j s.toks,x]}) en it (j+1) old:=Qf _ (show IsEnum m3 en it (j+1) old from st3);have tp4:(m3.push {cls:=.type "tuple", data:=.seq #[.int j s.toks,x]}).get? s.heap.objs.size=O {cls:=.type "tuple", data:=.seq #[.int j s.toks,x]}:=by rw[←z3];exact Qt _ qt
 have kp4:∀b o,b≠en->b≠it->s.heap.get? b=O o->(m3.push {cls:=.type "tuple", data:=.seq #[.int j s.toks,x]}).get? b=O o:=λb o n1 n2 q=>Qf _ ((c3.2 b n1).trans ((c2.2 b n1).trans ((c1.2 b n2).trans q)))
 have li4:(m3.push {cls:=.type "tuple", data:=.seq #[.int j s.toks,x]}).IsListIter it l (i+1):=by obtain⟨o,q,r⟩:=li1;exact⟨o,Qf _ ((c3.2 it (Ne.symm ne)).trans ((c2.2 it (Ne.symm ne)).trans q)),r⟩
 generalize m3.push {cls:=.type "tuple", data:=.seq #[.int j s.toks,x]}=m4 at st4 tp4 kp4 li4;show Uc _ _ (Builtin.SmallTypes.ownedTupleIsFree (.ref en) >>= _) _ _ {s with heap:=m4,toks:=s.toks+1};rw[z3];refine Qb ?_;unfold Builtin.SmallTypes.ownedTupleIsFree Builtin.SmallTypes.ownedTupleHandOut;refine Qb (Q3 st4 qt (x:=.none) qt (Qh ?_));simp only[if_true];refine wpAny_bind (wpAny_rule (wpAny_bind (wpAny_field st4 qt (x:=old) qt (wpAny_bind (wpAny_setField_rec st4 (by simp) λm5 jf c5=>?_)))));have c5:Heap.SameBut en m4 m5:=c5;have jf:IsEnum m5 en it (j+1) x:=jf;refine wpAny_bind (wpAny_bind (wpAny_setField_rec jf (by simp) λm6 st6 c6=>?_));have c6:Heap.SameBut en m5 m6:=c6;have st6:IsEnumOut m6 en it (j+1) x s.heap.objs.size:=st6;refine wpAny_setField_rec st6 (by simp) λm7 st7 c7=>?_
 have c7:Heap.SameBut en m6 m7:=c7;have st7:IsEnumOut m7 en it (j+1) x s.heap.objs.size:=st7;have up:∀b,b≠en->m7.get? b=m4.get? b:=λb n=>(c7.2 b n).trans ((c6.2 b n).trans (c5.2 b n));refine Qb (wpAny_letGo (Qh ⟨_,rfl,Qh (k m7 st7 ?_ ((up _ (Jn lt)).trans tp4) λb o n1 n2 q=>(up b n1).trans (kp4 b o n1 n2 q))⟩))
 obtain⟨o,q,r⟩:=li4;exact⟨o,(up it (Ne.symm ne)).trans q,r⟩
theorem Bc{en it l:J8}{i:Nat}{j:Int}{items:Array J5}{old:J5}{Q:qC->J6->Prop}(hh:A.handled=qu)(st:IsEnum s.heap en it j old)(li:s.heap.IsListIter it l i)(ls:s.heap.IsList l items)
  (at_:items[i]?=qu) (k:∀h',Heap.ExtBut it s.heap h'->Q qu {s with heap:=h'}):Uc (model prog w) A (pyNext (.ref en)) Q E s:=by
 have ty:s.TypeIs (.ref en) "enumerate" :=⟨_,st,rfl⟩
 unfold pyNext;refine Qb (wpAny_attempt (wpAny_callSpecial?_slot (name:=Uq "__next__") ty F.slot_enumerate_next (wpAny_call_entry F.slot_enumerate_next ty F.entry_enumerate_next ?_ (F.args_enumerate_next_1 _))));show Uc _ _ (field (.ref en) 2 >>= _) _ _ s;refine Qb (Q3 st qt (x:=.ref it) qt (Qb (m:=Builtin.SmallTypes.nextOf (.ref it)) (wpAny_nextOf_list_end hh li ls at_ λh' z c y=>?_)));obtain⟨o,q,t⟩:=y;exact Qb (wpAny_isInstance (T:= "StopIteration") (b:=qv) ⟨o,q,t⟩ isSubtype_stop (Qh (k _ c)))
end
def Vm(K:Frag)(a:J8):It:=
 ⟨λi H=>∃xs x,SqL K H a xs/\xs[i]?=O x,
  λi H v H'=>∃p x,H p=qu/\v=.ref p/\(∀xs,SqL K H a xs->xs[i]?=O x)/\H'=upd H p (.tup [.int (1+(i:Int)),x]),
  λi H=>∃xs,SqL K H a xs/\xs.length<=i⟩
theorem BK{P:J7}{w:World}{K:Frag}{elts:qA}{x1}{tp:Pos}(a e it:J8)(hne:e≠it) :
  Turn P w K (.Tuple elts x1 tp) (Vm K a) [e,it] e (λi h=>(∃old,IsEnum h e it (1+(i:Int)) old)/\h.IsListIter it a i) where
 mem:=by simp
 obj:=λi h st b hb=>by
  obtain⟨⟨old,he⟩,o,ho,c,d⟩:=st;have hb':b=e∨b=it:=by simpa using hb
  rcases hb' with rfl|rfl
  .exact⟨_,he,λv z=>by have z':Data.fields _=Data.cell v:=z;cases z'⟩
  .exact⟨o,ho,λv z=>by rw[d]at z;cases z⟩
 keep:=λi h h' st k=>by obtain⟨⟨old,he⟩,hi⟩:=st;exact⟨⟨old,k e (by simp) _ he⟩,hi.at λo q=>k it (by simp) o q⟩
 item:=by
  intro X hP hw hK hc i pins s σ H E I hf st hg;subst hP hw hK;obtain⟨⟨old,he⟩,hi⟩:=st;obtain⟨xs,x,hq,hx⟩:=hg;obtain⟨its,rv,p,hz⟩:=I.list hq;obtain⟨u,hu,ru⟩:=rv.get hx;refine Bd he hi p.isList (x:=u) (by simpa using hu) hne λh1 out hi1 ht kk=>?_
  refine⟨_,rfl,wpAny_letOwnedTupleGo_enum out λh2 jp hs2=>?_⟩;have hel:e<s.heap.objs.size:=Qg he;have jg:Heap.SameBut e h1 h2:=hs2;have ht2:h2.get? s.heap.objs.size=O {cls:=.type "tuple", data:=.seq #[.int (1+(i:Int)) s.toks,u]}:=(jg.2 _ (Jn hel)).trans ht
  have kk2:∀b o,b∉[e,it]->s.heap.get? b=O o->h2.get? b=O o:=λb o hb q=>by
   have ji:b≠e:=λz=>hb (by simp[z])
   have hbi:b≠it:=λz=>hb (by simp[z])
   exact(jg.2 b ji).trans (kk b o ji hbi q)
  have hn:H s.heap.objs.size=qu:=I.hok.fresh (Qk _)
  have I2:Inv X pins σ (upd H s.heap.objs.size (.tup [.int (1+(i:Int)),x])) {s with heap:=h2,toks:=s.toks+1}:=
   I.turnedNew (fp:=[e,it]) hf kk2 (Qk _) ⟨by show 2<=Ub;decide,[.int (1+(i:Int)) s.toks,u],.cons ⟨_,rfl⟩ (.cons ru .nil),⟨_,ht2,rfl,_,rfl⟩⟩
  refine⟨.ref s.heap.objs.size,_,I2,rfl,⟨_,x,hn,rfl,λys hy=>by rw[I.list_inj hy hq];exact hx,rfl⟩,⟨⟨u,?_⟩,?_⟩,λb hb=>?_⟩
  .have e2:(1+((i+1:Nat):Int))=1+(i:Int)+1:=by omega
   rw[e2];exact jp
  .exact hi1.at λo q=>(jg.2 it (Ne.symm hne)).trans q
  .have hlt:b<s.heap.objs.size:=by
    have hb':b=e∨b=it:=by simpa using hb
    rcases hb' with rfl|rfl
    .exact hel
    .obtain⟨o,ho,_⟩:=hi;exact Qg ho
   rw[U4 (QA hlt)];exact(hf b hb).1
 done:=by intro X hP hw hK hc i pins s σ H E I hf st hg;subst hP hw hK;obtain⟨⟨old,he⟩,hi⟩:=st;obtain⟨xs,hq,hx⟩:=hg;obtain⟨its,rv,p,hz⟩:=I.list hq;have hl:=rv.length;exact Bc (I.ok.hd hc) he hi p.isList (by simp;omega) λh' eb=>⟨rfl,I.turnedL (t':=s.toks) hf λb o hb q=>eb b o (λz=>hb (by simp[z])) q⟩
 self:=λ_ _ _ _ _ st h=>by obtain⟨⟨old,he⟩,_⟩:=st;exact wpAny_pyIter_enum he h
section
variable{X:Cx}
theorem Cg{a:Ua}{ta:TA}{p pos k1 k2:Pos}{j}{elts:qA}{x1}{tp:Pos}(hg:Gl X "enumerate")(hm:X.mg "enumerate" = qu)(ha:PA X [a] ta)
  (hs:backTo pos (Ud [a] X.env)=(qw,eval a X.env)::backTo pos (Ud [] X.env):=by rfl) (hpl:(backTo pos (Ud [a] X.env)).any (·.1)=qw:=by rfl) :
  PI X (.Tuple elts x1 tp) (.Call (.Name "enumerate" p) [a] [⟨O "start", .Constant (.int 1) j k1,k2⟩] pos) (λσ H R=>ta σ H λvs H1=>∃a xs,vs=[.ref a]/\SqL X.K H1 a xs/\R (Vm X.K a) H1):=by
 intro pins s σ H R I h;refine Je (Xz I hg hm boot_enumerate (Fl hpl qt ?_));rw[hs];refine evalArgs_kwB qt ?_;rw[←hs];refine thn (ha pos pins s σ H _ I h) λus s1 ⟨vs,H1,I1,r1,q1⟩=>?_;refine kws_cons (wpAny_Constant_int (kws_nil ?_))
 obtain⟨l,xs,e,hq,q⟩:=q1;subst e;cases r1 with
 |cons r rr=>
  cases rr;cases (show _=Value.ref l from r);have I1':=I1.tok (s1.toks+1);obtain⟨its,rv,pl,hz⟩:=I1'.list hq;refine BL pl.isList λh' he hi kk=>?_;have I2:Inv X pins σ H1 {s1 with heap:=h',toks:=s1.toks+1}:=I1'.kept (t':=s1.toks+1) kk;refine wpAny_pyIter_enum he ?_
  refine⟨s1.heap.objs.size+1,[s1.heap.objs.size+1,s1.heap.objs.size],_,_,H1,rfl,I2,BK l _ _ (Nat.succ_ne_self _),⟨⟨_,he⟩,hi⟩,λb hb=>?_,q⟩;have hb':b=s1.heap.objs.size+1∨b=s1.heap.objs.size:=by simpa using hb
  rcases hb' with rfl|rfl
  .exact I1.fpOk (Jz _) (I1.hok.fresh (Jz _))
  .exact I1.fpOk (Qk _) (I1.hok.fresh (Qk _))
end
end L2
namespace DL
open PySem PySem.Spec L2
open PyProof.Rows hiding St
section
variable{X:Cx}{B G0:Hp}{e a b c tg:Ua}{pos:Pos}{es rest:qA}
theorem AK{K:Frag}{G1:Hp}{ad:J8}{vs:List V}{ds:qx}(h:SqL K G1 ad vs)(r:Reps K G1 vs ds):Yu K (Vm K ad) (Zp 1 ds) G1 where
 go:=λi G H s1 s2 hi=>by
  rw[XH]at hi;have hi':i<vs.length:=by rw[r.length];exact hi
  exact⟨vs,vs[i],(s1.trans s2).seq h,Qe hi'⟩
 stop:=λi G H s1 s2 hi=>by rw[XH]at hi;exact⟨vs,(s1.trans s2).seq h,by rw[r.length];exact hi⟩
 yld:=λi G H x H' d s1 s2 e y=>by
  obtain⟨p,v,hp,rfl,y1,rfl⟩:=y;have z1:=y1 vs ((s1.trans s2).seq h);rw[RI]at e;cases q:ds[i]? with
  |none=>rw[q]at e;cases e
  |some dd=>
   rw[q]at e;cases e;obtain⟨v',e1,r1⟩:=r.get q;rw[z1]at e1;cases e1;refine⟨upd G p (.tup [.int (1+(i:Int)),v]),Ext.new s2 hp,.tup (SqT.of Kh) (.cons ?_ (.cons ((r1.mono s1).mono (KW (s2.free hp))) .nil))⟩;have:((1+i:Nat):Int)=1+(i:Int):=by omega
   rw[this];exact .int _
def Vz:qx->Option qx
 |[.list ds]=>O (Zp 1 ds)
 |_=>qu
def TR(f:M qx):M qx:=UH f λx=>UG (Vz x)
theorem BJ{x l:qx}(h:Vz x=O l):∃ds,x=[.list ds]/\l=Zp 1 ds:=by
 unfold Vz at h;split at h
 .cases h;exact⟨_,rfl,rfl⟩
 .cases h
theorem Cf{f:M qx}{p2 k1 k2:Pos}{j}{elts:qA}{x1}{tp:Pos}(hg:Gl X "enumerate")(hm:X.mg "enumerate" = qu)(ha:PA X [a] (tDs X.K B G0 f))
  (hs:backTo pos (Ud [a] X.env)=(qw,eval a X.env)::backTo pos (Ud [] X.env):=by rfl) (hpl:(backTo pos (Ud [a] X.env)).any (·.1)=qw:=by rfl) :
  PI X (.Tuple elts x1 tp) (.Call (.Name "enumerate" p2) [a] [⟨O "start", .Constant (.int 1) j k1,k2⟩] pos) (iD X.K B G0 (TR f)):=YF (Cg hg hm ha hs hpl) λσ H R q=>tM.toI (R0:=Reps X.K) q λv H' G' Z' x k r a=>by
 cases z:Vz x with
 |none=>rw[z]at a;exact a.elim
 |some l=>rw[z]at a;obtain⟨ds,rfl,rfl⟩:=BJ z;obtain⟨v,rfl,q⟩:=r.one_inv;obtain⟨l,ws,rfl,h1,r1⟩:=q.lst_inv;exact⟨l,ws,rfl,k.gh.seq h1,a _ G' H' k (.refl _) (AK h1 r1)⟩
end
section
variable{X:Cx}{B G0:Hp}{e o:Ua}{es:qA}
theorem AJ{h:Heap}{vs:qz}{xs:qx}{as:qF}{d:D}(rs:ReadsAll h vs xs as)(hxs:Ul xs=qv) :
  vs.countP (λy=>Uo (SeqAt.readOf h y) d)=xs.countP (λy=>Uo y d):=by
 have key:xs=vs.map (SeqAt.readOf h):=(SeqAt.readsAll_map xs vs as hxs rs).symm;rw[key,List.countP_map];rfl
def Wr(y x:D):qB:=match y with
 |.list ds=>if x.canLay0=qv/\Ul ds=qv/\x.depth<=60 then O (.int (ds.countP λy=>Uo y x))else qu
 |_=>qu
theorem Ce(hu:X.A.units+64<cLine):MtR X "list.count" (λv vs H Q=>∃G u y x d,vs=[u]/\Same G H/\Rep X.K G v y/\Rep X.K G u x/\Wr y x=O (.int d)/\Q (.int d) H):=by
 intro pins s σ H x xs v us Q I rx rs h;obtain⟨G,u,dy,dx,d,rfl,sg,py,px,e,q⟩:=h;obtain⟨w,rfl,km⟩:=rs.one;unfold Wr at e;split at e
 .rename_i ds
  split at e
  .rename_i c
   obtain⟨bs,rb⟩:=Yk I sg py rx (show Ul _=qv from c.2.1);obtain⟨as,ra⟩:=Yk I sg px km c.1;cases rb with
   |list h1 h2 h3 h4=>rename_i l ob its cs n;obtain⟨cls,dd,data,sl⟩:=ob;simp only at h2 h3;subst h2 h3;refine call_meets F.slot_list_count ⟨_,h1,rfl⟩ F.entry_list_count (F.args_list_count_2 _ _) (SeqAt.list_countAt _ _ _ dd sl _ (λy=>Uo (SeqAt.readOf s.heap y) dx)) ⟨h1,SeqAt.items_eqAt h4 ra c.2.1 c.1 (by have:=c.2.2;omega),?_⟩;rw[AJ h4 c.2.1];cases e;exact⟨.int _,H,I.tok _,⟨_,rfl⟩,q⟩
  .cases e
 .cases e
def Sb(y:D)(xs:qx):qB:=match xs with
 |[x]=>Wr y x
 |_=>qu
theorem AI{ds xs:qx}{d:D}(h:Sb (.list ds) xs=O d):∃x n,xs=[x]/\d=.int n/\Wr (.list ds) x=O (.int n):=by
 unfold Sb at h;split at h
 .rename_i x
  have h':=h;unfold Wr at h;dsimp only at h;split at h
  .cases h;exact⟨x,_,rfl,rfl,h'⟩
  .cases h
 .cases h
def Vy(f:M D)(g:M qx):M D:=UH f λy=>UH g λxs=>UG (match y with | .list ds=>Sb (.list ds) xs|_=>qu)
theorem Bb{apos cpos:Pos}{f:M D}{g:M qx}(hu:X.A.units+64<cLine)(ho:PE X o (tD X.K B G0 f))(ha:PA X (e::es) (tDs X.K B G0 g))
  (hbase:attributeBase o "count" X.env (eval o X.env)=eval o X.env:=by rfl)
  (hfew:((backTo cpos (Ud (e::es) X.env)).all (λx=>!x.1)&&(backToKw cpos (keywordEach [] X.env)).all (λx=>x.1.isSome)
   && decide ((e::es).length+([]:List Keyword).length+(if([]:List Keyword).isEmpty then 0 else 1)<30))=qv:=by rfl)
  (hline:(apos.endLine==cpos.line)=qv:=by rfl) (hs:Ud (e::es) X.env=(qw,eval e X.env)::Ud es X.env:=by rfl) (hplain:(backTo cpos (Ud es X.env)).any (·.1)=qw:=by rfl) :
  PE X (.Call (.Attribute o "count" apos) (e::es) [] cpos) (tD X.K B G0 (Vy f g)):=
 UU (SK F.plainAttrs_list F.slot_list_count F.type_list_count (Ce hu) ho ha hbase hfew hline hs hplain) λσ H Q q=>by
  refine tM.one (R:=Rep X.K) q λv H2 G Z y k r a=>?_
  cases y with
  |list ds=>
   obtain⟨l,ws,rfl,h1,r1⟩:=r.lst_inv;refine⟨.inl ⟨rfl,ws,k.gh.seq h1⟩,?_⟩;refine tM.nx (R:=Reps X.K) k a λxs H3 G3 Z3 es k3 s3 r3 a3=>?_
   obtain⟨d,e,a3⟩:=a3.opt;obtain⟨x,n,rfl,rfl,e'⟩:=AI e;obtain⟨u,rfl,ru⟩:=r3.one_inv;exact⟨G3,u,.list ds,x,n,rfl,k3.gh,r.mono s3,ru,e',aft.now a3 k3 (.int _)⟩
  |_=>
   unfold UH at a;cases z:g Z with
   |bad=>rw[z]at a;exact a.elim
   |ok xs Z1=>rw[z]at a;exact a.elim
theorem Cd{f:M D}{g:M qx}{Z Z1 Z2:Uw}{ds:qx}{x d:D}(h1:f Z=.ok (.list ds) Z1)(h2:g Z1=.ok [x] Z2)(h3:Wr (.list ds) x=O d):Vy f g Z=.ok d Z2:=by unfold Vy UH;rw[h1];dsimp only;rw[h2];dsimp only[Sb];rw[h3];rfl
end
section
variable{prog:J7}{w:World}{A:Around}{R:Result->J6->Prop}{h0:Heap}{l I S:J8}{rs:List (J8×qz)}
def YJ(h h':Heap):Prop:=∀b o,h.get? b=O o->h'.get? b=O o
def Ls1(h:Heap)(a:J8)(its:qz)(sl:Array qC):Prop:=∃n,h.get? a=O {cls:=.type "list", dict:=qu,data:=.seq its.toArray n,slots:=sl}
def Ls(h:Heap)(a:J8)(its:qz):Prop:=∃n sl,h.get? a=O {cls:=.type "list", dict:=qu,data:=.seq its.toArray n,slots:=sl}
theorem Ls.kept{h h':Heap}{a:J8}{its:qz}(x:Ls h a its)(k:YJ h h'):Ls h' a its:=by obtain⟨n,sl,e⟩:=x;exact⟨n,sl,k _ _ e⟩
theorem BI(hh:A.in1.handled=qu)(hI:h0.objs.size<=I)(hS:h0.objs.size<=S)(hIS:S≠I)(hl:h0.IsList l (rs.map λp=>Value.ref p.1).toArray)(hr:∀p∈rs,Ls h0 p.1 p.2) :
  ∀(k i:Nat)(s:J6)(t:J8)(acc:qz)(c:Nat)(sl:Array qC),rs.length-i=k->i<=rs.length->YJ h0 s.heap->s.heap.IsListIter I l i ->
   s.heap.get? S=O {cls:=.type "list", dict:=qu,data:=.seq #[.ref t] c,slots:=#[]}->t≠S->t≠I->Ls1 s.heap t acc sl->acc.length+((rs.drop i).map (·.2)).flatten.length<=Ub ->
   (∀p h' tk jl,YJ h0 h'->Ls1 h' p (acc++((rs.drop i).map (·.2)).flatten) jl->(p=t/\i=rs.length/\jl=sl∨h0.objs.size<=p/\jl=#[])->R (.ok (.ret (.ref p))) {s with heap:=h',toks:=tk}) ->
   codeAny (model prog w) A (.builtin "sum.loop" ⟨[.ref I,.ref S,rawInt 2,rawInt 0],[]⟩) R s:=by
 intro k;induction k with
 |zero=>
  intro i s t acc c sl hk hi hK hit hSS htS htI ht hz hR;have hin:i=rs.length:=by omega
  subst hin;refine codeAny_builtin F.entry_sum_loop ?_;rw[Around.under_plainId F.plain_sum_loop _];show Uc _ A.in1 (seqItems? (.ref S) >>= _) _ _ s;refine Qb (wpAny_seqItems hSS qt ?_);show Uc _ A.in1 (tryCatch (pyNext (.ref I)) _ >>= _) _ _ s;have hl':s.heap.IsList l (rs.map λp=>Value.ref p.1).toArray:=by obtain⟨o,e,r⟩:=hl;exact⟨o,hK _ _ e,r⟩
  refine wpAny_bind (wpAny_tryCatch (wpAny_pyNext_list_end hh hit hl' (by simp) λh' ex=>?_));refine Qh (hR t h' s.toks sl (λb o e=>?_) ?_ (.inl ⟨rfl,rfl,rfl⟩))
  .exact ex b o (QA (Qz (Qg e) hI)) (hK b o e)
  .obtain⟨n,e⟩:=ht
   rw[List.drop_length,List.map_nil,List.flatten_nil,Jh];exact⟨n,ex _ _ htI e⟩
 |succ k ih=>
  intro i s t acc c sl hk hi hK hit hSS htS htI ht hz hR;have hlt:i<rs.length:=by omega
  refine codeAny_builtin F.entry_sum_loop ?_;rw[Around.under_plainId F.plain_sum_loop _];show Uc _ A.in1 (seqItems? (.ref S) >>= _) _ _ s;refine Qb (wpAny_seqItems hSS qt ?_);show Uc _ A.in1 (tryCatch (pyNext (.ref I)) _ >>= _) _ _ s;have hl':s.heap.IsList l (rs.map λp=>Value.ref p.1).toArray:=by obtain⟨o,e,r⟩:=hl;exact⟨o,hK _ _ e,r⟩
  refine wpAny_bind (wpAny_tryCatch (wpAny_pyNext_list_item (x:=.ref (rs[i]'hlt).1) hit hl' (by simp[hlt]) λh' kF sb=>?_));show Uc _ A.in1 ((holding [Value.ref (rs[i]'hlt).1] (binaryOp .Add (.ref t) (.ref (rs[i]'hlt).1))).attempt >>= _) _ _ _;refine Qb (wpAny_attempt (Jp ?_));have hm:rs[i]'hlt∈rs:=Jl hlt;have hd:rs.drop i=rs[i]'hlt::rs.drop (i+1):=JC hlt;have hK':YJ h0 h':=λb o e=>(sb.2 b (QA (Qz (Qg e) hI))).trans (hK b o e)
  obtain⟨n1,e1⟩:=ht;have e1':=(sb.2 t htI).trans e1;obtain⟨n2,s2,e2⟩:=(hr _ hm).kept hK';have kK:=(sb.2 S hIS).trans hSS;rw[hd,QG,QJ,Qm]at hz;refine concat_meets ⟨_,e1',rfl⟩ ⟨_,e2,rfl⟩ noFill_list_add seq_list_add PySem.F.slot_list_add PySem.F.entry_list_add (PySem.F.args_list_add_2 _ _) (list_addW t _ acc.toArray _ n1 n2 qu qu sl s2 (by rw[QN,QN];omega)) ⟨e1',e2,?_⟩;have hlS:S<h'.objs.size:=Qg kK;have hlI:I<h'.objs.size:=by obtain⟨o,e,_⟩:=kF;exact Qg e
  have ea:acc.toArray++(rs[i]'hlt).2.toArray=(acc++(rs[i]'hlt).2).toArray:=by simp
  rw[ea];have hP:∀b o,h'.get? b=O o->(h'.push {cls:=Value.type "list", data:=Data.seq (acc++(rs[i]'hlt).2).toArray}).get? b=O o:=λb o e=>Qf _ e
  have hS1:=hP _ _ kK;have hNew:(h'.push {cls:=Value.type "list", data:=Data.seq (acc++(rs[i]'hlt).2).toArray}).get? h'.objs.size=O {cls:=Value.type "list", data:=Data.seq (acc++(rs[i]'hlt).2).toArray}:=Qt _ qt;show Uc _ A.in1 (updateSeq S (λ_=>#[.ref h'.objs.size]) >>= _) _ _ _;refine Qb (wpAny_updateSeq hS1 qt ?_);have hS2:=Q4 (Obj.mapSeq λ_=>#[Value.ref h'.objs.size]) hS1 qt;refine Qb (wpAny_letGo ?_);refine Qb (wpAny_updateSeq hS2 qt (Qh ⟨plainId_quiet F.plain_sum_loop _,?_⟩));have oth:∀b o,b≠S->(h'.push {cls:=Value.type "list", data:=Data.seq (acc++(rs[i]'hlt).2).toArray}).get? b=O o->(((h'.push {cls:=Value.type "list", data:=Data.seq (acc++(rs[i]'hlt).2).toArray}).update S (Obj.mapSeq λx=>#[Value.ref h'.objs.size])).update S (Obj.mapSeq λx=>#[Value.ref h'.objs.size])).get? b=O o:=λb o hb e=>(QK _ _ (Ne.symm hb)).trans ((QK _ _ (Ne.symm hb)).trans e)
  refine ih (i+1) _ h'.objs.size (acc++(rs[i]'hlt).2) _ #[] (by omega) hlt ?_ ?_ (Q4 _ hS2 qt) (Jn hlS) (Jn hlI) ?_ (by rw[Qm];omega) λp h'' tk jl hk'' hp hq=>?_
  .exact λb o e=>oth b o (QA (Qz (Qg e) hS)) (hP b o (hK' b o e))
  .obtain⟨o,e,r⟩:=kF
   exact⟨o,oth I o (Ne.symm hIS) (hP I o e),r⟩
  .exact⟨_,oth _ _ (Jn hlS) hNew⟩
  .refine hR p h'' tk jl hk'' ?_ (.inr ?_)
   .rw[hd,QG,QJ,←JM];exact hp
   .rcases hq with ⟨rfl, -,e⟩|hq
    .exact⟨Nat.le_of_lt (Nat.lt_of_le_of_lt hS hlS),e⟩
    .exact hq
end
section
variable{prog:J7}{w:World}{A:Around}{E:J5->J6->Prop}{s:J6}{l z:J8}{rs:List (J8×qz)}
theorem Ba(a b:J5):argsOk "sum" ⟨[a,b],[]⟩:=by unfold argsOk;kernel_rfl
theorem BH{Q:J5->J6->Prop}(hh:A.handled=qu)(hl:s.heap.IsList l (rs.map λp=>Value.ref p.1).toArray)(hr:∀p∈rs,Ls s.heap p.1 p.2)(hz:Ls s.heap z [])(hb:(rs.map (·.2)).flatten.length<=Ub)
  (h:∀p h' tk jl,YJ s.heap h'->Ls1 h' p (rs.map (·.2)).flatten jl->(p=z/\rs=[]∨s.heap.objs.size<=p/\jl=#[])->Q (.ref p) {s with heap:=h',toks:=tk}) :
  Uc (model prog w) A (call (.builtin "sum") [.ref l,.ref z]) Q E s:=by
 refine call_function_tree F.kind_sum F.plain_sum F.entry_sum (Ba _ _) ?_;unfold Builtin.«sum»;simp only[QC,QM];rw[Qy (by decide)];refine Qb (wpAny_of_eq (show Builtin.Builtins.bindParams "sum" ["start"] 0 ⟨[.ref z],[]⟩=pure [O (.ref z)]from rfl) ?_);refine Qb (Jx hl ?_);refine Qb (Qh ?_);obtain⟨n,sl,ez⟩:=id hz;have ty:∀h:Heap,h.get? z=O {cls:=.type "list", dict:=qu,data:=.seq [].toArray n,slots:=sl}->({s with heap:=h}:J6).TypeIs (.ref z) "list" :=λh e=>⟨_,e,rfl⟩
 have ez':(s.heap.push {cls:=.type "list_iterator", data:=.fields #[.ref l,.int 0 0]}).get? z=_:=Qf _ ez;simp only[List.forIn_cons,List.forIn_nil];refine Qb (Qb (Qb (wpAny_isInstance (T:= "list") (b:=qw) (ty _ ez') F.sub_list_str ?_)));simp only[Jt,JZ];refine Qh (Qb (Qb (wpAny_isInstance (T:= "list") (b:=qw) (ty _ ez') F.sub_list_bytes ?_)));simp only[Jt,JZ];refine Qh (Qb (Qb (wpAny_isInstance (T:= "list") (b:=qw) (ty _ ez') F.sub_list_bytearray ?_)));simp only[Jt,JZ];refine Qh (Qh ?_);refine Qb (wpAny_newObj_type ?_);have hzs:=Qg ez;have s1:(s.heap.push {cls:=.type "list_iterator", data:=.fields #[.ref l,.int 0 0]}).objs.size=s.heap.objs.size+1:=Heap.size_push ..;have k2:YJ s.heap ((s.heap.push {cls:=.type "list_iterator", data:=.fields #[.ref l,.int 0 0]}).push {cls:=.type "list", data:=.seq #[.ref z]}):=λb o e=>Qf _ (Qf _ e)
 refine Qh ⟨plainId_quiet F.plain_sum_loop _,BI (h0:=s.heap) (l:=l) (I:=s.heap.objs.size) (S:=(s.heap.push {cls:=.type "list_iterator", data:=.fields #[.ref l,.int 0 0]}).objs.size) (rs:=rs) hh (Qk _) (by rw[s1];exact Jz _) (by rw[s1];exact Nat.succ_ne_self _) hl hr rs.length 0 _ z [] 0 sl qt (Nat.zero_le _)
  k2 ⟨_,Heap.get?_push_of_some _ (Heap.get?_push_size _ qt),rfl,rfl⟩ (Heap.get?_push_size _ qt) (by rw[s1];exact Nat.ne_of_lt (Nat.lt_succ_of_lt hzs)) (Nat.ne_of_lt hzs) ⟨n,k2 _ _ ez⟩ (by simpa using hb) λp h' tk jl hk hp hq=>?_⟩
 exact h p h' tk jl hk (by simpa using hp) (hq.imp (λe=>⟨e.1,List.eq_nil_of_length_eq_zero e.2.1.symm⟩) id)
end
section
variable{X:Cx}{pins:List (J8×Obj)}{σ:St}{H:Hp}{s:J6}
theorem OR(I:Inv X pins σ H s):∀{rs:List (J8×List V)},(∀p∈rs,SqL X.K H p.1 p.2) ->
  ∃ts:List (J8×qz),(ts.map λp=>Value.ref p.1)=(rs.map λp=>Value.ref p.1)/\(∀p∈ts,Ls s.heap p.1 p.2)/\Vals (rs.map (·.2)).flatten (ts.map (·.2)).flatten
 |[],_=>⟨[],rfl,(λ_ h=>by cases h),(show Vals [] []from Paired.nil)⟩
 |p::rs,h=>by
  obtain⟨ts,e,hl,hv⟩:=OR I λq hq=>h q (Qu _ hq)
  obtain⟨its,rv,⟨⟨c1,d1,t1,sl⟩,n,e1,ec,ed,et⟩,z⟩:=I.list (h p (Qp ..));simp only at ec ed et;subst ec ed et;refine⟨(p.1,its)::ts,by rw[QG,QG,e],λq hq=>?_,?_⟩
  .rcases QL.1 hq with rfl|hq
   .exact⟨n,sl,e1⟩
   .exact hl q hq
  .rw[QG,QG,QJ,QJ]
   exact rv.append hv
theorem Mf:∀{as:qF}{us:qz},Vals (as.map V.ref) us->us=as.map Value.ref
 |[],_,.nil=>rfl
 |a::as,_,.cons h t=>by cases h;rw[Mf t];rfl
theorem BA(hc:X.calm=qv):ZM X (.builtin "sum") (λxs H Q=>∃l z,∃rs:List (J8×List V),xs=[.ref l,.ref z]/\SqL X.K H l (rs.map λp=>V.ref p.1)/\(∀p∈rs,SqL X.K H p.1 p.2)/\SqL X.K H z []/\(rs.map (·.2)).flatten.length<=Ub /\
  (rs=[]->Q (.ref z) H)/\∀p,H p=qu->Q (.ref p) (upd H p (.lst (rs.map (·.2)).flatten))):=by
 intro pins s σ H xs us Q I rx h;obtain⟨l,z,rs,rfl,hq,hr,hz,hb,q0,q⟩:=h;obtain⟨u,u',rfl,ru,ru'⟩:=SL rx;cases ru;cases ru';obtain⟨its,rv,pl, -⟩:=I.list hq;obtain⟨ts,e,hl,hv⟩:=OR I hr;have ei:its=ts.map λp=>Value.ref p.1:=by rw[e];have:=Mf (as:=rs.map (·.1)) (us:=its) (by rw[Jd];exact rv);rw[this,Jd];rfl
 subst ei;obtain⟨zi,rz,⟨⟨c1,d1,t1,sl⟩,n,e1,ec,ed,et⟩, -⟩:=I.list hz;cases rz;simp only at ec ed et;subst ec ed et;have hlen:=hv.length;refine BH (I.ok.hd hc) pl.isList hl ⟨n,sl,e1⟩ (by omega) λp h' tk jl hk hp hq=>?_
 rcases hq with ⟨rfl,rfl⟩|⟨jE,rfl⟩
 .have hr0:rs=[]:=by
   cases rs with
   |nil=>rfl
   |cons a b=>cases e
  exact⟨.ref _,H,I.kept hk,rfl,q0 hr0⟩
 .obtain⟨m,ep⟩:=hp
  exact⟨.ref p,_,I.laid (t':=tk) hk jE (show KT X.prog X.w _ h' _ (.lst _)from⟨hb,_,m,hv,ep⟩),rfl,q p (I.hok.fresh jE)⟩
def Xw:qx->Option (List qx)
 |[]=>O []
 |.list xs::r=>(Xw r).map (xs :: ·)
 |_=>qu
theorem Mj{K:Frag}{G:Hp}:∀{vs:List V}{ds:qx}{ls:List qx},Reps K G vs ds->Xw ds=O ls ->
  ∃rs:List (J8×List V),vs=(rs.map λp=>V.ref p.1)/\(∀p∈rs,SqL K G p.1 p.2)/\Reps K G (rs.map (·.2)).flatten ls.flatten/\rs.length=ls.length
 |_,_,ls,.nil,e=>by cases e;exact⟨[],rfl,(λ_ h=>by cases h),.nil,rfl⟩
 |_,_,ls,.cons (d:=d) r t,e=>by
  cases d with
  |list xs=>
   unfold Xw at e;cases z:Xw _ with
   |none=>rw[z]at e;cases e
   |some cs=>
    rw[z]at e;cases e;obtain⟨rs,rfl,h1,h2,h3⟩:=Mj t z;obtain⟨a,ws,rfl,h,rr⟩:=r.lst_inv;refine⟨(a,ws)::rs,rfl,λp hp=>?_,?_,JO (· + 1) h3⟩
    .rcases QL.1 hp with rfl|hp
     .exact h
     .exact h1 p hp
    .rw[QG,QJ,QJ]
     exact rr.append h2
  |_=>cases e
theorem BG(ls:List qx):Xw (ls.map Uh)=O ls:=by
 induction ls with
 |nil=>rfl
 |cons b r ih=>rw[QG,Xw,ih];rfl
def Vn:qx->qB
 |[.list ds,.list []]=>(match Xw ds with
  |some ls=>if ls.flatten.length<=1000000 then O (.list ls.flatten)else qu
  |none=>qu)
 |_=>qu
theorem Bz{xs:qx}{d:D}(h:Vn xs=O d):∃ds ls,xs=[.list ds,.list []]/\Xw ds=O ls/\ls.flatten.length<=1000000/\d=.list ls.flatten:=by
 unfold Vn at h;split at h
 .rename_i ds
  cases z:Xw ds with
  |none=>rw[z]at h;cases h
  |some ls=>
   rw[z]at h;dsimp only at h;split at h
   .rename_i c
    cases h;exact⟨ds,ls,rfl,z,c,rfl⟩
   .cases h
 .cases h
theorem Hb(hc:X.calm=qv):Z9 X (.builtin "sum") Vn:=by
 refine⟨_,BA hc,λvs G H ds d Q s r e k=>?_⟩;obtain⟨ds,ls,rfl,z,c,rfl⟩:=Bz e;obtain⟨v,v',rfl,q1,q2⟩:=r.two_inv;obtain⟨l,ws,rfl,h1,r1⟩:=q1.lst_inv;obtain⟨a,ws2,rfl,h2,r2⟩:=q2.lst_inv;have:=r2.nil_inv;subst this;obtain⟨rs,rfl,g1,g2,g3⟩:=Mj r1 z;refine⟨l,a,rs,rfl,s.seq h1,λp hp=>s.seq (g1 p hp),s.seq h2,?_,λe0=>?_,λp hp=>?_⟩
 .rw[g2.length];exact QH c lim
 .subst e0
  have:ls=[]:=List.eq_nil_of_length_eq_zero g3.symm;subst this;exact k _ G H (.refl s) (.lst h2 .nil)
 .exact k _ _ _ (.new s hp) (.lst (SqL.of Kh) (g2.mono (KW (s.free hp))))
end
section
variable{X:Cx}
def ZD(ns:qy):qy:=ns.mergeSort λa b=>decide (a<=b)
theorem XE(ns:qy):(ZD ns).Perm ns:=List.mergeSort_perm ..
theorem By(ns:qy):(ZD ns).Pairwise (· <= ·):=by have:=List.pairwise_mergeSort (le:=λa b:Int=>decide (a<=b)) (by intro a b c;simp;omega) (by intro a b;simp;omega) ns;exact this.imp (by simp)
theorem OW:∀{a b:qy},a.Perm b->a.Pairwise (· <= ·)->b.Pairwise (· <= ·)->a=b
 |[],b,p,_,_=>by rw[List.nil_perm.1 p]
 |x::a,[],p,_,_=>by have:=p.length_eq;simp at this
 |x::a,y::b,p,ha,hb=>by
  have hx:y<=x:=by
   rcases QL.1 (p.mem_iff.1 (Qp ..))with e|e
   .exact Int.le_of_eq e.symm
   .exact(Jj.1 hb).1 x e
  have hy:x<=y:=by
   rcases QL.1 (p.mem_iff.2 (Qp ..))with e|e
   .exact Int.le_of_eq e.symm
   .exact(Jj.1 ha).1 y e
  have e:=Int.le_antisymm hy hx;subst e;rw[OW (List.Perm.cons_inv p) (Jj.1 ha).2 (Jj.1 hb).2]
theorem Me:∀{us:qz}{ns:qy},PyProof.Rows.IntsAre us ns->Vals (ns.map V.int) us
 |_,_,.nil=>Paired.nil
 |_,_,.cons n t h=>Paired.cons ⟨t,rfl⟩ (Me h)
theorem BF:ZM X (.builtin "sorted") (λxs H Q=>∃l,∃ns:qy,xs=[.ref l]/\SqL X.K H l (ns.map V.int)/\ns.length<64/\∀p,H p=qu->Q (.ref p) (upd H p (.lst ((ZD ns).map V.int)))):=by
 intro pins s σ H xs us Q I rx h;obtain⟨l,ns,rfl,hq,hb,q⟩:=h;obtain⟨u,rfl,ru⟩:=rx.one;cases ru;obtain⟨its,rv,p,hz⟩:=I.list hq;have hi:=VM rv;have hn:its.length=ns.length:=by have:=rv.length;rw[Qd]at this;omega
 refine sorted_ints p.isList hi (by omega) λout ns' a1 a2 a3=>?_
 obtain⟨e,he⟩:=sortedAll_at s.heap its out;have en:ns'=ZD ns:=OW (a2.trans (XE ns).symm) a3 (By ns);subst en;refine⟨.ref (s.heap.objs.size+1),_,I.laid (t':=s.toks) (λb o=>sortedAll_old) (Jz _) (show KT X.prog X.w _ _ _ (.lst ((ZD ns).map V.int))from⟨?_,out.toList,e,Me a1,he⟩),rfl,q _ (I.hok.fresh (Jz _))⟩;rw[Qd,(XE ns).length_eq];rw[Qd]at hz;exact hz
def Vx:qx->qB
 |[.list ds]=>(match YR ds with
  |some ns=>if ns.length<64 then O (.list ((ZD ns).map .int))else qu
  |none=>qu)
 |_=>qu
theorem BE{xs:qx}{d:D}(h:Vx xs=O d):∃ds ns,xs=[.list ds]/\YR ds=O ns/\ns.length<64/\d=.list ((ZD ns).map .int):=by
 unfold Vx at h;split at h
 .rename_i ds
  cases z:YR ds with
  |none=>rw[z]at h;cases h
  |some ns=>
   rw[z]at h;dsimp only at h;split at h
   .rename_i c
    cases h;exact⟨ds,ns,rfl,z,c,rfl⟩
   .cases h
 .cases h
theorem Md{K:Frag}{G:Hp}:∀ns:qy,Reps K G (ns.map V.int) (ns.map int)
 |[]=>.nil
 |n::r=>.cons (.int n) (Md r)
theorem Fk:Z9 X (.builtin "sorted") Vx:=by refine⟨_,BF,λvs G H ds d Q s r e k=>?_⟩;obtain⟨ds,ns,rfl,z,c,rfl⟩:=BE e;obtain⟨v,rfl,q1⟩:=r.one_inv;obtain⟨l,ws,rfl,h1,r1⟩:=q1.lst_inv;have:=RQ r1 z;subst this;exact⟨l,ns,rfl,s.seq h1,c,λp hp=>k _ _ _ (.new s hp) (.lst (SqL.of Kh) (Md _))⟩
theorem Bx{ns:qy}(h:ns.length<64):Vx [.list (ns.map .int)]=O (.list ((ZD ns).map .int)):=by unfold Vx;simp only[RV,Qo h]
end
@[simp] theorem mBind_ok{α β:Type}{f:M α}{k:α->M β}{Z Z':Uw}{x:α}(h:f Z=.ok x Z'):UH f k Z=k x Z':=by unfold UH;rw[h]
theorem Mc{s:D->Uw->qE}{g:SM}{P:Nat->Uw->Prop}{R:Out->Prop}:∀(ds:qx)(n:Nat)(Z:Uw),P n Z ->
  (∀i d Z,ds[i]?=O d->P (n+i) Z->∃Z1,s d Z=O Z1/\((∃Z2,(g Z1=.nx Z2∨g Z1=.ct Z2)/\P (n+i+1) Z2)∨(∃x,g Z1=.rt x/\R (.rt x))∨(∃Z2,g Z1=.bk Z2/\R (.nx Z2))∨(∃Z2 x,g Z1=.ex Z2 x/\R (.ex Z2 x)) ∨ ∃x,g Z1=.ro x/\R (.ro x)))->(∀Z,P (n+ds.length) Z->R (.nx Z))->R (Xi s g ds Z)
 |[],n,Z,h,_,f=>f Z h
 |d::r,n,Z,h,st,f=>by
  obtain⟨Z1,e1,e2⟩:=st 0 d Z qt h;rw[Xi,e1];dsimp only;rcases e2 with ⟨Z2,e2,h2⟩|⟨x,e2,h2⟩|⟨Z2,e2,h2⟩|⟨Z2,x,e2,h2⟩|⟨x,e2,h2⟩
  .have goal:=Mc (R:=R) r (n+1) Z2 h2 (λi d' Z3 q p=>by
    have e:n+1+i=n+(i+1):=by omega
    rw[e]at p⊢;exact st (i+1) d' Z3 (by simpa using q) p) (λZ3 p=>f Z3 (by
    have e:n+1+r.length=n+(d::r).length:=by rw[QC];omega
    rw[e]at p;exact p))
   rcases e2 with e2|e2<;>(rw[e2];exact goal)
  .rw[e2];exact h2
  .rw[e2];exact h2
  .rw[e2];exact h2
  .rw[e2];exact h2
theorem Ws{lo hi:Int}{i:Nat}{d:D}(h:(Zk lo hi)[i]?=O d):d=.int (lo+i)/\(i:Int)<hi-lo:=by have hl:i<(Zk lo hi).length:=(Ql.mp h).1;rw[Xr]at hl;unfold Zk at h;rw[Qi,Qe (by rw[Jy];exact hl),List.getElem_range]at h;cases h;exact⟨rfl,by omega⟩
theorem Ha{α:Type}{xs:List α}{i:Int}{v:α}(h0:0<=i)(h:xs[i.toNat]?=O v):atI xs i=O v:=by have:=KS (xs:=xs) (j:=i.toNat) h;rw[Int.toNat_of_nonneg h0]at this;exact this
section
variable{α β:Type}{Z Z1 Z2 Z3 Z':Uw}{f g h:M D}
theorem UE{a:α}:UA a Z=.ok a Z:=rfl
theorem UF:Ux Z=.ok [] Z:=rfl
theorem Zj{o:Option α}{a:α}(h:o=O a):UG o Z=.ok a Z:=by subst h;rfl
theorem Km{f:M α}{k:α->M β}{x:α}{r:Res β}(h:f Z=.ok x Z1)(h2:k x Z1=r):UH f k Z=r:=by unfold UH;rw[h];exact h2
theorem Ko{f:M α}{k:α->β}{x:α}(h:f Z=.ok x Z1):UI k f Z=.ok (k x) Z1:=by unfold UI UH;rw[h];rfl
theorem UB{i:Nat}{d:D}(h:Z[i]?=O (O (.pub d))):Uv i Z=.ok d Z:=by unfold Uv;rw[h]
theorem Yg{i:Nat}{ds:qx}(h:Z[i]?=O (O (.own ds)))(h2:Z.set i (O (.pub (.list ds)))=Z'):Uv i Z=.ok (.list ds) Z':=by unfold Uv;rw[h];subst h2;rfl
theorem UM{op:D->D->Option β}{x y:D}{r:β}(h1:f Z=.ok x Z1)(h2:g Z1=.ok y Z2)(h3:op x y=O r):UD op f g Z=.ok r Z2:=by unfold UD;exact Km h1 (Km h2 (Zj h3))
theorem Uz{g:M qx}{x:D}{xs:qx}(h1:f Z=.ok x Z1)(h2:g Z1=.ok xs Z2):Uy f g Z=.ok (x::xs) Z2:=by unfold Uy;exact Km h1 (Km h2 qt)
theorem KH{g:M qx}{xs:qx}(h1:g Z=.ok xs Z1)(h2:xs.length<=1000000):UW g Z=.ok (.tuple xs) Z1:=by unfold UW;exact Km h1 (by rw[Qo h2];rfl)
theorem Kc{g:M qx}{xs:qx}(h1:g Z=.ok xs Z1)(h2:xs.length<=1000000):UJ g Z=.ok (.list xs) Z1:=by unfold UJ;exact Km h1 (by rw[Qo h2];rfl)
theorem Xp{g:M qx}{xs:qx}(h1:g Z=.ok xs Z1)(h2:xs.length<=1000000):(UH g λxs=>if xs.length<=1000000 then UA xs else λ_=>.bad) Z=.ok xs Z1:=
 Km h1 (by rw[Qo h2];rfl)
theorem Kk{i:Nat}{d y r:D}(h:Z[i]?=O (O (.pub d)))(h1:g Z=.ok y Z1)(h2:oIx d y=O r):UK i g Z=.ok r Z1:=by unfold UK;rw[h];exact Km h1 (Zj h2)
theorem SZ{i:Nat}{ds es:qx}{y r:D}(h:Z[i]?=O (O (.own ds)))(h1:g Z=.ok y Z1)(h3:Z1[i]?=O (O (.own es)))(h2:oIx (.list es) y=O r):UK i g Z=.ok r Z1:=by unfold UK;rw[h];exact Km h1 (by rw[h3];exact Zj h2)
theorem Zw{p:qx->qB}{g:M qx}{xs:qx}{r:D}(h1:g Z=.ok xs Z1)(h2:p xs=O r):Zl p g Z=.ok r Z1:=by unfold Zl;exact Km h1 (Zj h2)
theorem Kf{n:Nat}{F:qx->qB}{g:M qx}{xs:qx}{r:D}(h1:g Z=.ok xs Z1)(h2:xs.length=n)(h3:F xs=O r):UL n F g Z=.ok r Z1:=by unfold UL;exact Km h1 (by rw[Qo h2];exact Zj h3)
theorem Ta{i:Int}(h1:f Z=.ok (.int i) Z1):ZV f Z=.ok (.int (-i)) Z1:=by unfold ZV;exact Km h1 qt
theorem Kt{i:Nat}{d r:D}(h:Z[i]?=O (O (.pub d)))(h2:U9 [d]=O r):Kq i Z=.ok r Z:=by unfold Kq;rw[h];exact Zj h2
theorem OV{i:Nat}{ds:qx}(h:Z[i]?=O (O (.own ds))):Kq i Z=.ok (.int ds.length) Z:=by unfold Kq;rw[h]
theorem Wq{g:M qx}{i:Int}{r:qx}(h1:g Z=.ok [.int i] Z1)(h2:Vs [.int i]=O r):YU g Z=.ok r Z1:=by unfold YU;exact Km h1 (Zj h2)
theorem OU{g:M qx}{i j:Int}{r:qx}(h1:g Z=.ok [.int i,.int j] Z1)(h2:Vr [.int i,.int j]=O r):VZ g Z=.ok r Z1:=by unfold VZ;exact Km h1 (Zj h2)
theorem WH{g:M qx}{xs r:qx}(h1:g Z=.ok xs Z1)(h2:V4 xs=O r):Xj g Z=.ok r Z1:=by unfold Xj;exact Km h1 (Zj h2)
theorem WG{i:Int}(h1:f Z=.ok (.int i) Z1):(UH f λx=>UG (ZZ x)) Z=.ok (O i) Z1:=Km h1 qt
theorem ZH{f:M Bool}{t:Bool}(h1:f Z=.ok t Z1):UY f Z=.ok (!t) Z1:=Ko h1
theorem Yx{t:Bool}(h1:f Z=.ok (.bool t) Z1):KG f Z=.ok t Z1:=by unfold KG;exact Km h1 qt
theorem SY{f g:M Bool}{t u:Bool}(h1:f Z=.ok t Z)(h2:t=qv->g Z=.ok u Z):ZS f g Z=.ok (t&&u) Z:=by
 unfold ZS;refine Km h1 ?_;cases t with
 |true=>rw[Qo qt];exact h2 qt
 |false=>rfl
theorem TQ{f g:M Bool}{t u:Bool}(h1:f Z=.ok t Z)(h2:t=qw->g Z=.ok u Z):mOr f g Z=.ok (t || u) Z:=by
 unfold mOr;refine Km h1 ?_;cases t with
 |false=>rw[Qy (by decide)];exact h2 qt
 |true=>rfl
theorem Xo{t u:Bool}(h1:f Z=.ok (.bool t) Z)(h2:t=qv->g Z=.ok (.bool u) Z):Wm f g Z=.ok (.bool (t&&u)) Z:=by
 unfold Wm;refine Km h1 ?_;cases t with
 |true=>exact h2 qt
 |false=>rfl
theorem T6{t u:Bool}(h1:f Z=.ok (.bool t) Z)(h2:t=qw->g Z=.ok (.bool u) Z):Yp f g Z=.ok (.bool (t || u)) Z:=by
 unfold Yp;refine Km h1 ?_;cases t with
 |false=>exact h2 qt
 |true=>rfl
theorem Fj{t:Bool}(h1:f Z=.ok (.bool t) Z1):TH f Z=.ok (.bool (!t)) Z1:=by unfold TH;exact Km h1 qt
theorem VR{p q:D->D->qH}{x y z:D}{t u:Bool}(h1:f Z=.ok x Z)(h2:g Z=.ok y Z)(h3:p x y=O t)(h4:t=qv->h Z=.ok z Z)(h5:t=qv->q y z=O u):Xy p q f g h Z=.ok (t&&u) Z:=by
 unfold Xy;refine Km h1 (Km h2 (Km (Zj h3) ?_));cases t with
 |true=>rw[Qo qt];exact Km (h4 qt) (Zj (h5 qt))
 |false=>rfl
theorem ZE{i j:Int}:UN (.int i) (.int j)=O (.int (i+j)):=rfl
theorem ZJ{x y:qx}(h:x.length+y.length<=1000000):UN (.list x) (.list y)=O (.list (x++y)):=by unfold UN;exact Qo h
theorem Sa{i j:Int}:Yn (.int i) (.int j)=O (.int (i-j)):=rfl
theorem WN{i j:Int}(h1 : -18446744073709551616<i)(h2:i<18446744073709551616):U0 (.int i) (.int j)=O (.int (i*j)):=by unfold U0 Y6;exact Qo (.inl ⟨by omega,by omega⟩)
theorem Sh{i j:Int}(h1 : -18446744073709551616<j)(h2:j<18446744073709551616):U0 (.int i) (.int j)=O (.int (i*j)):=by unfold U0 Y6;exact Qo (.inr ⟨by omega,by omega⟩)
theorem Sv{x:qx}{k:Int}(h : -1000000<=k/\k<=1000000/\x.length*k.toNat<=1000000):U0 (.list x) (.int k)=O (.list (Ug k.toNat x).flatten):=by unfold U0;exact Qo h
theorem YX{i j:Int}(h:0<j):KY (.int i) (.int j)=O (.int (i % j)):=by unfold KY X2;exact Qo h
theorem OT{i j:Int}(h:0<j)(h2:j<18446744073709551616):Y4 (.int i) (.int j)=O (.int (i / j)):=by unfold Y4 X3;exact Qo ⟨h,h2⟩
theorem Fi{i j:Int}(h:0<=j/\j<=1000000/\i.natAbs<2 ^ 64):Y2 (.int i) (.int j)=O (.int (i ^ j.toNat)):=by unfold Y2 X1;exact Qo h
theorem Oa{p:Int->Int->Bool}{i j:Int}:oIB p (.int i) (.int j)=O (p i j):=rfl
theorem Zn{i j:Int}:oEq (.int i) (.int j)=O (decide (i=j)):=by unfold oEq;rw[if_pos ⟨rfl,rfl,by simp[Um]⟩];congr 1
theorem KM{xs:qx}:U9 [.list xs]=O (.int xs.length):=rfl
theorem VQ{xs:qx}:U9 [.tuple xs]=O (.int xs.length):=rfl
theorem Fh{i j:Int}:TF [.int i,.int j]=O (.int (if j > i then j else i)):=rfl
theorem Wt{j:Int}(h1:j<=1000000)(h2 : -1000000<=j):Vs [.int j]=O (Zk 0 j):=by unfold Vs;exact Qo ⟨h1,h2⟩
theorem Ny{i j:Int}(h1:j<=1000000)(h2 : -1000000<=j)(h3:i<=1000000)(h4 : -1000000<=i):Vr [.int i,.int j]=O (Zk i j):=by unfold Vr;exact Qo ⟨h1,h2,h3,h4⟩
theorem WM{xs:qx}:V4 [.list xs]=O (Zp 0 xs):=rfl
theorem Cy{z:Str}:(Uj z).depth<=60:=by simp[Um]
theorem Kr{i:Nat}{d:D}(h1:f Z=.ok d Z1)(h2:i<Z1.length)(h3:Z1.set i (O (.pub d))=Z'):UR i f Z=.nx Z':=by unfold UR K4 sB gN;rw[h1];dsimp only;rw[if_pos h2];subst h3;rfl
theorem Zt{i:Nat}{f:M qx}{ds:qx}(h1:f Z=.ok ds Z1)(h2:i<Z1.length)(h3:Z1.set i (O (.own ds))=Z'):Kx i f Z=.nx Z':=by unfold Kx sB;rw[h1];dsimp only;rw[if_pos h2];subst h3;rfl
theorem WB{i:Nat}{d:D}{j9 ds:qx}(h0:Z[i]?=O (O (.own j9)))(h1:f Z=.ok d Z1)(h2:Z1[i]?=O (O (.own ds)))(h3:ds.length<1000000)(h4:Z1.set i (O (.own (ds++[d])))=Z'):Ze i f Z=.nx Z':=by unfold Ze sB;rw[h0];dsimp only;rw[h1];dsimp only;rw[h2];dsimp only;rw[if_pos h3];subst h4;rfl
theorem Vw{d:D}{s:D->Uw->qE}(h1:f Z=.ok d Z1)(h2:s d Z1=O Z'):K4 f s Z=.nx Z':=by unfold K4 sB;rw[h1];dsimp only;rw[h2]
theorem T9{d:D}(h1:f Z=.ok d Z1):Ww f Z=.nx Z1:=by unfold Ww sB;rw[h1]
theorem UO{i:Nat}{d:D}(h:i<Z.length)(h2:Z.set i (O (.pub d))=Z'):gN i d Z=O Z':=by unfold gN;rw[Qo h,h2]
theorem KO:gN0 [] Z=O Z:=rfl
theorem U7{s:D->Uw->qE}{t:qx->Uw->qE}{d:D}{r:qx}(h1:s d Z=O Z1)(h2:t r Z1=O Z'):gNC s t (d::r) Z=O Z':=by unfold gNC;dsimp only;rw[h1];exact h2
theorem KN{n:Nat}{t:qx->Uw->qE}{ds:qx}(h1:ds.length=n)(h2:t ds Z=O Z'):gT n t (.tuple ds) Z=O Z':=by unfold gT;dsimp only;rw[if_pos h1];exact h2
structure Ho(g:SM)(Z:Uw)(Q:Out->Prop):Prop where
 out:Q (g Z)
def Lb(h:SM)(Q:Out->Prop):Out->Prop
 |.nx Z'=>Ho h Z' Q
 |o=>Q o
structure VY(h:SM)(Q:Out->Prop)(o:Out):Prop where
 out:Lb h Q o
variable{Q:Out->Prop}{s t u:SM}
theorem U1(h:Ho s Z (VY t Q)):Ho (UC s t) Z Q:=by
 have h:=h.out.out;constructor;unfold UC;cases e:s Z with
 |nx o=>rw[e]at h;exact h.out
 |_=>rw[e]at h;exact h
theorem UZ(h1:s Z=.nx Z1)(h2:Ho t Z1 Q):Ho (UC s t) Z Q:=by
 constructor;unfold UC;rw[h1];exact h2.out
theorem Kz{o:Out}(h1:s Z=o)(h2:Q o):Ho s Z Q:=by constructor;rw[h1];exact h2
theorem Ke(h:Q (.nx Z)):Ho sNx Z Q:=⟨h⟩
theorem Kd{o:Uw}(h:Ho t o Q):VY t Q (.nx o):=⟨h⟩
theorem KF{d:D}(h:Q (.rt d)):VY t Q (.rt d):=⟨h⟩
theorem UT{f:M Bool}{b:Bool}(h1:f Z=.ok b Z1)(h2:b=qv->Ho s Z1 Q)(h3:b=qw->Ho t Z1 Q):Ho (sIf f s t) Z Q:=by
 constructor;unfold sIf sB;rw[h1];dsimp only
 cases b with
 |true=>rw[Qo qt];exact(h2 qt).out
 |false=>rw[Qy (by decide)];exact(h3 qt).out
theorem U3{d:D}(h1:f Z=.ok d Z1)(h2:Q (.rt d)):Ho (UP f) Z Q:=by constructor;unfold UP sB;rw[h1];exact h2
theorem T8{P:Out->Prop}(h:Ho s Z P)(k:∀o,P o->Q o):Ho s Z Q:=⟨k _ h.out⟩
def La(I:Uw->Prop)(Q:Out->Prop):Out->Prop
 |.nx Z | .ct Z=>I Z
 |.bk Z=>Q (.nx Z)
 |.rt d=>Q (.rt d)
 |.ex Z d=>Q (.ex Z d)
 |.ro ds=>Q (.ro ds)
 |.bad=>False
structure Wv(I:Uw->Prop)(Q:Out->Prop)(o:Out):Prop where
 out:La I Q o
theorem Ye{I:Uw->Prop}(h:I Z):Wv I Q (.nx Z):=⟨h⟩
theorem Zo{Z:Uw}{d:D}(h:Q (.ex Z d)):VY t Q (.ex Z d):=⟨h⟩
theorem RA{I:Uw->Prop}{d:D}(h:Q (.rt d)):Wv I Q (.rt d):=⟨h⟩
theorem Yy{f:M qx}{tg:D->Uw->qE}{ds:qx}(I:Nat->Uw->Prop)(h1:f Z=.ok ds Z1)(h0:I 0 Z1)
  (hst:∀i d Z,ds[i]?=O d->I i Z->∃Z2,tg d Z=O Z2/\Ho s Z2 (Wv (I (i+1)) Q)) (hend:∀Z,I ds.length Z->Q (.nx Z)):Ho (Kl f tg s) Z Q:=by
 constructor;unfold Kl sB;rw[h1];dsimp only
 refine Mc (P:=I) (R:=Q) ds 0 Z1 h0 (λi d Z e p=>?_) (λZ p=>hend Z (by rw[JK]at p;exact p));rw[JK]at p;obtain⟨Z2,e2,q⟩:=hst i d Z e p;refine⟨Z2,e2,?_⟩;rw[JK];have q:=q.out.out;cases z:s Z2 with
 |nx o=>rw[z]at q;exact .inl ⟨o,.inl qt,q⟩
 |ct o=>rw[z]at q;exact .inl ⟨o,.inr qt,q⟩
 |rt o=>rw[z]at q;exact .inr (.inl ⟨o,rfl,q⟩)
 |bk o=>rw[z]at q;exact .inr (.inr (.inl ⟨o,rfl,q⟩))
 |ex o x=>rw[z]at q;exact .inr (.inr (.inr (.inl ⟨o,x,rfl,q⟩)))
 |ro o=>rw[z]at q;exact .inr (.inr (.inr (.inr ⟨o,rfl,q⟩)))
 |bad=>rw[z]at q;exact q.elim
theorem WA{N:List Str}{ds:qx}{P:D->Prop}(h0:ZI N ds=Z)(h:Ho s Z λo=>∃d,o=.rt d/\P d):∃d,UX N s ds=O d/\P d:=by subst h0;obtain⟨d,e,p⟩:=h.out;refine⟨d,?_,p⟩;unfold UX;rw[e]
theorem Za{N:List Str}{ds:qx}{d:D}(h0:ZI N ds=Z)(h:Ho s Z λo=>o=.rt d):UX N s ds=O d:=by obtain⟨d',e,p⟩:=WA (P:=λx=>x=d) h0 (T8 h λo e=>⟨d,e,rfl⟩);rw[e,p]
end
section
variable{α β:Type}{Z Z1 Z2 Z3 Z':Uw}{f g h:M D}
theorem T5{l u:M qD}{x r:D}{a b:qD}(h1:f Z=.ok x Z1)(h2:l Z1=.ok a Z2)(h3:u Z2=.ok b Z3)(h4:XS x a b=O r):K0 f l u Z=.ok r Z3:=by unfold K0;exact Km h1 (Km h2 (Km h3 (Zj h4)))
theorem Zc{f g:M Bool}(h1:f Z=.ok qv Z1):mOr f g Z=.ok qv Z1:=by unfold mOr;exact Km h1 qt
theorem Zr{f g:M Bool}{u:Bool}(h1:f Z=.ok qw Z1)(h2:g Z1=.ok u Z2):mOr f g Z=.ok u Z2:=by unfold mOr;exact Km h1 (by rw[Qy (by decide)];exact h2)
theorem KE{c:String}{d:D}{t:Bool}(h:f Z=.ok d Z1)(ht:(!U6 d c)=t):UY (KG (UI (λd=>.bool (U6 d c)) f)) Z=.ok t Z1:=by subst ht;exact ZH (Yx (Ko (k:=λd=>Ui (U6 d c)) h))
theorem Zs{x:D}{r:qx}(h1:f Z=.ok x Z1)(h2:Rk x=O r):KR f Z=.ok r Z1:=by unfold KR;exact Km h1 (Zj h2)
theorem Zd{p:D->D->Option β}{i:Nat}{d y:D}{r:β}(h:Z[i]?=O (O (.pub d)))(h1:g Z=.ok y Z1)(h2:p d y=O r):K1 p i g Z=.ok r Z1:=by unfold K1;rw[h];exact Km h1 (Zj h2)
theorem Nx{p:D->D->Option β}{i:Nat}{ds es:qx}{y:D}{r:β}(h:Z[i]?=O (O (.own ds)))(h1:g Z=.ok y Z1)(h3:Z1[i]?=O (O (.own es)))(h2:p (.list es) y=O r):K1 p i g Z=.ok r Z1:=by unfold K1;rw[h];exact Km h1 (by rw[h3];exact Zj h2)
theorem Z7{f:M qx}{k:Nat}{s:D->Uw->qE}{t:M Bool}{ds es:qx}(h1:f Z=.ok ds Z1)(h2:Ks s t g ds (U5 Z1++Ug k qu) []=O es):Zu f k s t g Z=.ok es Z1:=by unfold Zu;rw[h1];dsimp only;rw[h2]
theorem YD{s:D->Uw->qE}{t:M Bool}(p:D->Bool)(q:D->D)(I:Uw->Prop):∀(ds:qx)(Z:Uw)(es:qx),(∀d∈ds,∀Z,I Z->∃Z1,s d Z=O Z1/\t Z1=.ok (p d) Z1/\(p d=qv->g Z1=.ok (q d) Z1)/\I (U5 Z1))->I Z->es.length+ds.length<=1000000 ->
  Ks s t g ds Z es=O (es++(ds.filter p).map q)
 |[],Z,es,_,_,_=>by rw[Ks];simp
 |d::r,Z,es,st,h0,hz=>by
  obtain⟨Z1,e1,e2,e3,h1⟩:=st d Qp Z h0;have ih:=λes' hz'=>YD p q I r (U5 Z1) es' (λd' hd=>st d' (Qu _ hd)) h1 hz';rw[QC]at hz;rw[Ks,e1];dsimp only;rw[e2];dsimp only
  cases hp:p d with
  |true=>rw[Qo qt,e3 hp];dsimp only;rw[Qo (by omega),ih _ (by rw[Qm,Q8];omega),List.filter_cons_of_pos hp,QG,JM];rfl
  |false=>rw[Qy (by decide),ih _ (by omega),List.filter_cons_of_neg (by rw[hp];decide)]
theorem Fg{j:Nat}{d:D}{k:Int}{j9 ds:qx}(h1:f Z=.ok d Z1)(h0:Z1[j]?=O (O (.own j9)))(h2:g Z1=.ok (.int k) Z2)(h3:Z2[j]?=O (O (.own ds)))(h4:0<=k/\k<ds.length)(h5:Z2.set j (O (.own (ds.set k.toNat d)))=Z'):TD j g f Z=.nx Z':=by unfold TD sB;rw[h1];dsimp only;rw[h0];dsimp only;rw[h2];dsimp only;rw[h3];dsimp only;rw[if_pos h4];subst h5;rfl
theorem Sg{xs:qx}{a b:qD}:XS (.list xs) a b=O (.list (DL.cutD xs a b)):=rfl
theorem YC{xs:qx}:Rk (.list xs)=O xs:=rfl
theorem AH(bs:List Bool):YY (bs.map Ui)=O bs:=by
 induction bs with
 |nil=>rfl
 |cons b r ih=>rw[QG,YY,ih];rfl
theorem Op{bs:List Bool}:Zg [.list (bs.map Ui)]=O (.bool (bs.all id)):=by unfold Zg;dsimp only;rw[AH];rfl
end
section
variable{α β:Type}{Z Z1 Z2 Z3 Z4 Z':Uw}{f g h:M D}{s:SM}
theorem L9{g:M qx}{xs r:qx}(h1:g Z=.ok xs Z1)(h2:Y1 xs=O r):X4 g Z=.ok r Z1:=by unfold X4;exact Km h1 (Zj h2)
theorem L8{l u t:M qD}{xs:qx}(h1:f Z=.ok (.list xs) Z1)(h2:l Z1=.ok qu Z2)(h3:u Z2=.ok qu Z3)(h4:t Z3=.ok (O (-1)) Z4):X5 f l u t Z=.ok (.list xs.reverse) Z4:=by unfold X5;exact Km h1 (Km h2 (Km h3 (Km h4 (Zj (by unfold XT;exact Qo qt)))))
theorem SS{N:List Str}{ds:qx}(h0:ZI N ds=Z)(h:Ho s Z λo=>∃Z',o=.nx Z'):UX N s ds=O .none:=by subst h0;obtain⟨Z',e⟩:=h.out;unfold UX;rw[e]
theorem Xn{i j:Int}:oNe (.int i) (.int j)=O (!decide (i=j)):=by unfold oNe;rw[if_pos ⟨rfl,rfl,by simp[Um]⟩];congr 1
theorem Cc{xs:qy}{j:Nat}{v:Int}:(xs.map int).set j (.int v)=(xs.set j v).map int:=by rw[List.map_set]
theorem Cb{xs:qy}{a b:Int}(ha:0<=a)(hb:0<=b)(hl:b<=xs.length):DL.cutD (xs.map int) (O a) (O b)=((xs.drop a.toNat).take (b.toNat-a.toNat)).map int:=by
 unfold DL.cutD HT.sIx;dsimp only;rw[Qy (by omega),Qy (by omega),Qd,List.map_take,List.map_drop];have e2:min b.toNat xs.length=b.toNat:=by omega
 rw[e2];by_cases hab:a.toNat<=xs.length
 .have e1:min a.toNat xs.length=a.toNat:=by omega
  rw[e1]
 .have e3:b.toNat-a.toNat=0:=by omega
  have e4:b.toNat-min a.toNat xs.length=0:=by omega
  rw[e3,e4,List.take_zero,List.take_zero]
end
section
variable{Z Z1:Uw}
theorem Ca{g:M qx}{xs r:qx}(h1:g Z=.ok xs Z1)(h2:Vz xs=O r):TR g Z=.ok r Z1:=by unfold TR;exact Km h1 (Zj h2)
theorem Cw{xs:qx}:Vz [.list xs]=O (Zp 1 xs):=rfl
end
section
variable{X:Cx}{B G0:Hp}{e o a b c tg i:Ua}{pos p2:Pos}{es rest:qA}
theorem AG:bootBuiltins "tuple" = O (.type "tuple"):=by decide +kernel
end
end DL
namespace DL
open PySem PySem.Spec PySem.W PyProof.Rows
def US{α:Type}(lt:Nat->Nat->Bool):KasT α->α
 |.ret a=>a
 |.ask i j k=>US lt (k (lt i j))
theorem VJ{α β:Type}{lt:Nat->Nat->Bool}{f:α->KasT β}:∀t:KasT α,US lt (t.bind f)=US lt (f (US lt t))
 |.ret _=>rfl
 |.ask i j k=>by show US lt ((k (lt i j)).bind f)=_;rw[VJ];rfl
section
variable{key:Nat->Int}{p:Array Nat}
def KA(key:Nat->Int)(p:Array Nat)(i:Nat):Int:=key (p.getD i 0)
def srt(key:Nat->Int)(p:Array Nat)(m:Nat):Prop:=∀i j,i<=j->j<m->KA key p i<=KA key p j
def dsc(key:Nat->Int)(p:Array Nat)(m:Nat):Prop:=∀i j,i<=j->j<m->KA key p j<=KA key p i
abbrev kl(key:Nat->Int)(i j:Nat):Bool:=decide (key i<key j)
theorem Mb{k d i:Nat}(hk:k<p.size)(hd:d<=k):KA key (bubble p k d) i=if i=k-d then KA key p k else if k-d<i/\i<=k then KA key p (i-1)else KA key p i:=by
 unfold KA;simp only[Q5];rw[getElem?_bubble hk d hd]
 repeat' split
 all_goals rfl
theorem V9{i j k:Nat}(hj:j<=p.size):KA key (kas_rev p i j) k=if i<=k/\k<j then KA key p (i+j-1-k)else KA key p k:=by
 unfold KA kas_rev;simp only[Q5];rw[getElem?_mirror_all hj]
 split<;>rfl
theorem WL{i j:Nat}:(kas_rev p i j).size=p.size:=mirror_size _ _ _ _
theorem XF{i j:Nat}:(kas_rev p i j).Perm p:=mirror_perm _ _ _ _
theorem Rz:∀(f n:Nat),1<=n->srt key p n->srt key p (US (kl key) (kas_asc p f n))/\n<=US (kl key) (kas_asc p f n)/\US (kl key) (kas_asc p f n)<=n+f /\
  (US (kl key) (kas_asc p f n)<n+f->KA key p (US (kl key) (kas_asc p f n))<KA key p (US (kl key) (kas_asc p f n)-1))
 |0,n,h1,hs=>⟨hs,Qk _,Qk _,λh=>absurd h (Ja _)⟩
 |f+1,n,h1,hs=>by
  unfold kas_asc US;cases c:kl key (p.getD n 0) (p.getD (n-1) 0)with
  |true=>dsimp only;rw[Qo qt];exact⟨hs,Qk _,by show n<=n+(f+1);omega,λ_=>Qa c⟩
  |false=>
   dsimp only;rw[Qy (by decide)];have hle:KA key p (n-1)<=KA key p n:=J4.mp (Ju c)
   obtain⟨a1,a2,a3,a4⟩:=Rz f (n+1) (by omega) (λi j hij hj=>by
    by_cases jV:j=n
    .subst jV
     by_cases hin:i=j
     .subst hin;exact JE _
     .exact Int.le_trans (hs i (j-1) (by omega) (by omega)) hle
    .exact hs i j hij (by omega))
   exact⟨a1,by omega,by omega,λh=>a4 (by omega)⟩
def eqs(key:Nat->Int)(p:Array Nat)(n q:Nat):Prop:=∀i,n-1-q<=i->i<n->KA key p i=KA key p (n-1)
theorem Su:∀(f:Nat)(p:Array Nat)(n q:Nat),1<=n->q+1<=n->n+f<=p.size->dsc key p n->eqs key p n q ->
  let r:=US (kl key) (kas_desc f p n q)
  r.1.Perm p/\r.1.size=p.size/\dsc key r.1 r.2.1/\eqs key r.1 r.2.1 r.2.2/\r.2.2+1<=r.2.1/\n<=r.2.1/\r.2.1<=n+f
 |0,p,n,q,h1,hq,hz,hd,he=>⟨JU _,rfl,hd,he,hq,Qk _,Qk _⟩
 |f+1,p,n,q,h1,hq,hz,hd,he=>by
  intro r;have hr:r=US (kl key) (kas_desc (f+1) p n q):=rfl;unfold kas_desc US at hr;cases c:kl key (p.getD n 0) (p.getD (n-1) 0)with
  |true=>
   rw[c]at hr;(try dsimp only at hr);rw[if_pos qt]at hr;have hlt:KA key p n<KA key p (n-1):=Qa c
   have ext:∀p':Array Nat,(∀i,KA key p' i=KA key p i)->dsc key p' (n+1)/\eqs key p' (n+1) 0:=λp' hp=>⟨λi j hij hj=>by
     rw[hp,hp];by_cases jV:j=n
     .subst jV
      by_cases hin:i=j
      .subst hin;exact JE _
      .exact Int.le_trans (Int.le_of_lt hlt) (hd i (j-1) (by omega) (by omega))
     .exact hd i j hij (by omega),λi hi1 hi2=>by
     have:i=n:=by omega
     subst this;rfl⟩
   by_cases hq0:q > 0
   .rw[Qo hq0]at hr
    have same:∀i,KA key (kas_rev p (n-(q+1)) n) i=KA key p i:=λi=>by
     rw[V9 (by omega)];split
     .rw[he _ (by omega) (by omega),he i (by omega) (by omega)]
     .rfl
    obtain⟨d1,e1⟩:=ext _ same;obtain⟨a1,a2,a3,a4,a5,a6,a7⟩:=Su f (kas_rev p (n-(q+1)) n) (n+1) 0 (by omega) (by omega) (by rw[WL];omega) d1 e1;rw[←hr]at a1 a2 a3 a4 a5 a6 a7;exact⟨a1.trans XF,a2.trans WL,a3,a4,a5,by omega,by omega⟩
   .rw[Qy hq0]at hr
    obtain⟨d1,e1⟩:=ext p λ_=>rfl
    obtain⟨a1,a2,a3,a4,a5,a6,a7⟩:=Su f p (n+1) 0 (by omega) (by omega) (by omega) d1 e1;rw[←hr]at a1 a2 a3 a4 a5 a6 a7;exact⟨a1,a2,a3,a4,a5,by omega,by omega⟩
  |false=>
   rw[c]at hr;(try dsimp only at hr);rw[if_neg (by decide)]at hr;unfold US at hr;have hle:KA key p (n-1)<=KA key p n:=J4.mp (Ju c);cases d:kl key (p.getD (n-1) 0) (p.getD n 0)with
   |true=>rw[d]at hr;(try dsimp only at hr);rw[if_pos qt]at hr;unfold US at hr;rw[hr];exact⟨JU _,rfl,hd,he,hq,Qk _,by show n<=n+(f+1);omega⟩
   |false=>
    rw[d]at hr;(try dsimp only at hr);rw[if_neg (by decide)]at hr;have hge:KA key p n<=KA key p (n-1):=J4.mp (Ju d)
    obtain⟨a1,a2,a3,a4,a5,a6,a7⟩:=Su f p (n+1) (q+1) (by omega) (by omega) (by omega) (λi j hij hj=>by
     by_cases jV:j=n
     .subst jV
      by_cases hin:i=j
      .subst hin;exact JE _
      .exact Int.le_trans hge (hd i (j-1) (by omega) (by omega))
     .exact hd i j hij (by omega)) (λi hi1 hi2=>by
     have e0:KA key p n=KA key p (n-1):=Int.le_antisymm hge hle;show KA key p i=KA key p (n+1-1);rw[Nat.add_sub_cancel,e0];by_cases hin:i=n
     .subst hin;exact e0
     .exact he i (by omega) (by omega))
    rw[←hr]at a1 a2 a3 a4 a5 a6 a7;exact⟨a1,a2,a3,a4,a5,by omega,by omega⟩
theorem Mv{n nrem:Nat}(h1:1<=n)(hn:n<=nrem)(hz:nrem<=p.size)(hd:dsc key p n) :
  let r:=US (kl key) (kas_tail3 n nrem p)
  r.2.Perm p/\r.2.size=p.size/\srt key r.2 r.1/\1<=r.1/\r.1<=nrem:=by
 intro r;have hr:r=US (kl key) (kas_tail3 n nrem p):=rfl;unfold kas_tail3 at hr;rw[VJ]at hr;have hs:srt key (kas_rev p 0 n) n:=λi j hij hj=>by rw[V9 (by omega),V9 (by omega),Qo (by omega),Qo (by omega)];exact hd _ _ (by omega) (by omega)
 obtain⟨a1,a2,a3,_⟩:=Rz (key:=key) (p:=kas_rev p 0 n) (nrem-n) n h1 hs;rw[hr];exact⟨XF,WL,a1,by show 1<=US _ _;omega,by show US _ _<=_;omega⟩
theorem MI{n nrem:Nat}(h1:1<=n)(hn:n+1<=nrem)(hz:nrem<=p.size)(hd:dsc key p (n+1)) :
  let r:=US (kl key) (kas_descPart n nrem p)
  r.2.Perm p/\r.2.size=p.size/\srt key r.2 r.1/\1<=r.1/\r.1<=nrem:=by
 intro r;have hr:r=US (kl key) (kas_descPart n nrem p):=rfl;unfold kas_descPart at hr;rw[VJ]at hr
 obtain⟨a1,a2,a3,a4,a5,a6,a7⟩:=Su (key:=key) (nrem-(n+1)) p (n+1) 0 (by omega) (by omega) (by omega) hd (λi hi1 hi2=>by
  have:i=n:=by omega
  subst this;rfl)
 generalize US (kl key) (kas_desc (nrem-(n+1)) p (n+1) 0)=d at hr a1 a2 a3 a4 a5 a6 a7;obtain⟨p1,n1,q1⟩:=d;dsimp only at hr a1 a2 a3 a4 a5 a6 a7;by_cases hq:q1 > 0
 .rw[Qo hq]at hr
  have same:∀i,KA key (kas_rev p1 (n1-(q1+1)) n1) i=KA key p1 i:=λi=>by
   rw[V9 (by omega)];split
   .rw[a4 _ (by omega) (by omega),a4 i (by omega) (by omega)]
   .rfl
  obtain⟨b1,b2,b3,b4,b5⟩:=Mv (key:=key) (p:=kas_rev p1 (n1-(q1+1)) n1) (n:=n1) (nrem:=nrem) (by omega) (by omega) (by rw[WL];omega) (λi j hij hj=>by rw[same,same];exact a3 i j hij hj);rw[hr];exact⟨(b1.trans XF).trans a1,(b2.trans WL).trans a2,b3,b4,b5⟩
 .rw[Qy hq]at hr
  obtain⟨b1,b2,b3,b4,b5⟩:=Mv (key:=key) (p:=p1) (n:=n1) (nrem:=nrem) (by omega) (by omega) (by omega) a3;rw[hr];exact⟨b1.trans a1,b2.trans a2,b3,b4,b5⟩
theorem BD{nrem:Nat}(h1:1<=nrem)(hz:nrem<=p.size) :
  let r:=US (kl key) (kas_count nrem p)
  r.2.Perm p/\r.2.size=p.size/\srt key r.2 r.1/\1<=r.1/\r.1<=nrem:=by
 intro r;have hr:r=US (kl key) (kas_count nrem p):=rfl;unfold kas_count at hr;rw[VJ]at hr
 obtain⟨a1,a2,a3,a4⟩:=Rz (key:=key) (p:=p) (nrem-1) 1 (Qk _) (λi j hij hj=>by
  have:i=j:=by omega
  subst this;exact JE _)
 generalize US (kl key) (kas_asc p (nrem-1) 1)=n at hr a1 a2 a3 a4;by_cases hn:(n==nrem)=qv
 .rw[Qo hn]at hr
  unfold US at hr;rw[hr];exact⟨JU _,rfl,a1,a2,by show n<=nrem;omega⟩
 .rw[Qy hn]at hr
  have hne:n≠nrem:=by simpa using hn
  have hlt:=a4 (by omega);by_cases hn1:n > 1
  .rw[Qo hn1]at hr
   unfold US at hr;cases c:kl key (p.getD 0 0) (p.getD (n-1) 0)with
   |true=>rw[c]at hr;(try dsimp only at hr);rw[if_pos qt]at hr;unfold US at hr;rw[hr];exact⟨JU _,rfl,a1,a2,by show n<=nrem;omega⟩
   |false=>
    rw[c]at hr;(try dsimp only at hr);rw[if_neg (by decide)]at hr;have hge:KA key p (n-1)<=KA key p 0:=J4.mp (Ju c);have all:∀i,i<n->KA key p i=KA key p 0:=λi hi=>Int.le_antisymm (Int.le_trans (a1 i (n-1) (by omega) (by omega)) hge) (a1 0 i (by omega) hi)
    have same:∀i,KA key (kas_rev p 0 n) i=KA key p i:=λi=>by
     rw[V9 (by omega)];split
     .rw[all _ (by omega),all i (by omega)]
     .rfl
    obtain⟨b1,b2,b3,b4,b5⟩:=MI (key:=key) (p:=kas_rev p 0 n) (n:=n) (nrem:=nrem) a2 (by omega) (by rw[WL];exact hz) (λi j hij hj=>by
     rw[same,same];by_cases jV:j=n
     .subst jV
      by_cases hin:i=j
      .subst hin;exact JE _
      .rw[all i (by omega)]
       rw[all (j-1) (by omega)]at hlt;exact Int.le_of_lt hlt
     .rw[all i (by omega),all j (by omega)];exact JE _)
    rw[hr];exact⟨b1.trans XF,b2.trans WL,b3,b4,b5⟩
  .rw[Qy hn1]at hr
   have:n=1:=by omega
   subst this
   obtain⟨b1,b2,b3,b4,b5⟩:=MI (key:=key) (p:=p) (n:=1) (nrem:=nrem) (Qk _) (by omega) hz (λi j hij hj=>by
    by_cases hij2:i=j
    .subst hij2;exact JE _
    .have h0:i=0:=by omega
     have h1:j=1:=by omega
     subst h0;subst h1;exact Int.le_of_lt hlt)
   rw[hr];exact⟨b1,b2,b3,b4,b5⟩
theorem RU{k:Nat}(hs:srt key p k):∀(f l r:Nat),l<=r->r<=k->r-l<=f->(∀i,i<l->KA key p i<=KA key p k)->(∀i,r<=i->i<k->KA key p k<KA key p i) ->
  let m:=US (kl key) (kas_place p k f l r)
  m<=k/\(∀i,i<m->KA key p i<=KA key p k)/\(∀i,m<=i->i<k->KA key p k<KA key p i)
 |0,l,r,hlr,hrk,hf,h1,h2=>⟨by show l<=k;omega,h1,λi (hi:l<=i)=>h2 i (by omega)⟩
 |f+1,l,r,hlr,hrk,hf,h1,h2=>by
  intro m;have hm:m=US (kl key) (kas_place p k (f+1) l r):=rfl;unfold kas_place at hm;by_cases hge:l ≥ r
  .rw[Qo hge]at hm
   unfold US at hm;rw[hm];exact⟨by omega,h1,λi hi=>h2 i (by omega)⟩
  .rw[Qy hge]at hm
   unfold US at hm;cases c:kl key (p.getD k 0) (p.getD ((l+r) / 2) 0)with
   |true=>rw[c]at hm;(try dsimp only at hm);rw[if_pos qt]at hm;rw[hm];have hlt:KA key p k<KA key p ((l+r) / 2):=Qa c;exact RU hs f l ((l+r) / 2) (by omega) (by omega) (by omega) h1 λi hi hik=>Int.lt_of_lt_of_le hlt (hs _ _ hi hik)
   |false=>rw[c]at hm;(try dsimp only at hm);rw[if_neg (by decide)]at hm;rw[hm];have hle:KA key p ((l+r) / 2)<=KA key p k:=J4.mp (Ju c);exact RU hs f ((l+r) / 2+1) r (by omega) hrk (by omega) (λi hi=>Int.le_trans (hs i ((l+r) / 2) (by omega) (by omega)) hle) h2
theorem Nw:∀(f:Nat)(p:Array Nat)(k:Nat),k+f<=p.size->srt key p k->let r:=US (kl key) (kas_bin f p k);r.Perm p/\r.size=p.size/\srt key r (k+f)
 |0,p,k,_,hs=>⟨JU _,rfl,hs⟩
 |f+1,p,k,hz,hs=>by
  intro r;have hr:r=US (kl key) (kas_bin (f+1) p k):=rfl;unfold kas_bin at hr;rw[VJ]at hr;obtain⟨a1,a2,a3⟩:=RU (key:=key) hs k 0 k (Nat.zero_le _) (Qk _) (by omega) (λi hi=>by omega) (λi h1 h2=>by omega);generalize US (kl key) (kas_place p k k 0 k)=l at hr a1 a2 a3;have hk:k<p.size:=by omega
  obtain⟨b1,b2,b3⟩:=Nw f (bubble p k (k-l)) (k+1) (by rw[bubble_size];omega) (λi j hij hj=>by
   rw[Mb hk (by omega),Mb hk (by omega),show k-(k-l)=l by omega];by_cases hi:i=l
   .rw[Qo hi]
    by_cases jW:j=l
    .rw[Qo jW];exact JE _
    .rw[Qy jW,Qo (by omega)]
     exact Int.le_of_lt (a3 (j-1) (by omega) (by omega))
   .rw[Qy hi]
    by_cases hi2:l<i/\i<=k
    .rw[Qo hi2,Qy (show ¬j=l by omega),Qo (by omega)]
     exact hs _ _ (by omega) (by omega)
    .rw[Qy hi2]
     by_cases jW:j=l
     .rw[Qo jW];exact a2 i (by omega)
     .rw[Qy jW]
      split
      .exact hs _ _ (by omega) (by omega)
      .exact hs _ _ (by omega) (by omega))
  rw[hr];exact⟨b1.trans (bubble_perm _ _ _),b2.trans (bubble_size _ _ _),by rw[show k+(f+1)=k+1+f by omega];exact b3⟩
theorem Cv{n:Nat}(h1:1<=n):let r:=US (kl key) (kas_sort n);r.Perm (List.toArray (Uf n))/\r.size=n/\srt key r n:=by
 intro r;have hr:r=US (kl key) (kas_sort n):=rfl;unfold kas_sort at hr;rw[VJ]at hr;have hsz:(List.toArray (Uf n)).size=n:=by simp
 obtain⟨a1,a2,a3,a4,a5⟩:=BD (key:=key) (p:=List.toArray (Uf n)) (nrem:=n) h1 (by rw[hsz];exact Qk _);generalize US (kl key) (kas_count n (List.toArray (Uf n)))=d at hr a1 a2 a3 a4 a5;by_cases hlt:d.1<n
 .rw[Qo hlt]at hr
  have hmax:max d.1 1=d.1:=by omega
  rw[hmax]at hr;obtain⟨b1,b2,b3⟩:=Nw (key:=key) (n-d.1) d.2 d.1 (by omega) a3;rw[hr];exact⟨b1.trans a1,by omega,by rw[show d.1+(n-d.1)=n by omega]at b3;exact b3⟩
 .rw[Qy hlt]at hr
  unfold US at hr;rw[hr];exact⟨a1,by omega,by rw[show d.1=n by omega]at a3;exact a3⟩
def Asks{α:Type}(N:Nat)(R:α->Prop):KasT α->Prop
 |.ret a=>R a
 |.ask i j k=>i<N/\j<N/\∀b,Asks N R (k b)
theorem Asks.bind{α β:Type}{N:Nat}{R:α->Prop}{S:β->Prop}{f:α->KasT β}(hf:∀a,R a->Asks N S (f a)):∀{t:KasT α},Asks N R t->Asks N S (t.bind f)
 |.ret a,h=>hf a h
 |.ask _ _ k,⟨h1,h2,h3⟩=>⟨h1,h2,λb=>Asks.bind hf (h3 b)⟩
theorem Nv{α:Type}{lt:Nat->Nat->Bool}{cmp:Nat->Nat->(Bool->J6->Prop)->J6->Prop}{s:J6}{N:Nat}{R:α->Prop}(hc:∀i j C,i<N->j<N->C (lt i j) s->cmp i j C s):∀(t:KasT α)(Q:α->J6->Prop),Asks N R t->Q (US lt t) s->t.kasWp cmp Q s
 |.ret _,_,_,h=>h
 |.ask i j k,Q,⟨h1,h2,h3⟩,h=>hc i j _ h1 h2 (Nv hc (k (lt i j)) Q (h3 _) h)
def bnd(N:Nat)(p:Array Nat):Prop:=∀i,p.getD i 0<N
theorem VP{N:Nat}{p q:Array Nat}(hN:0<N)(h:bnd N p)(e:q.Perm p):bnd N q:=λi=>by
 rw[Q5];cases z:q[i]? with
 |none=>exact hN
 |some v=>have hm:v∈q:=Array.mem_of_getElem? z;have hm2:v∈p:=e.mem_iff.mp hm;obtain⟨j,hj,e2⟩:=Array.mem_iff_getElem.mp hm2;have:=h j;rw[Q5,JD hj,e2]at this;exact this
section
variable{N:Nat}(hN:0<N)
include hN
theorem Ry{p:Array Nat}(h:bnd N p):∀(f n:Nat),Asks N (λ_=>True) (kas_asc p f n)
 |0,_=>trivial
 |f+1,n=>⟨h _,h _,λb=>by
  cases b with
  |true=>(try dsimp only);rw[if_pos qt];trivial
  |false=>(try dsimp only);rw[if_neg (by decide)];exact Ry h f (n+1)⟩
theorem Ss:∀(f:Nat)(p:Array Nat)(n q:Nat),bnd N p->Asks N (λr=>bnd N r.1) (kas_desc f p n q)
 |0,p,_,_,h=>h
 |f+1,p,n,q,h=>⟨h _,h _,λb=>by
  cases b with
  |true=>
   dsimp only;rw[Qo qt];split
   .exact Ss f _ _ _ (VP hN h XF)
   .exact Ss f _ _ _ h
  |false=>
   dsimp only;rw[Qy (by decide)];refine⟨h _,h _,λb=>?_⟩;cases b with
   |true=>(try dsimp only);rw[if_pos qt];exact h
   |false=>(try dsimp only);rw[if_neg (by decide)];exact Ss f _ _ _ h⟩
theorem Mu{p:Array Nat}{n nrem:Nat}(h:bnd N p):Asks N (λr=>bnd N r.2) (kas_tail3 n nrem p):=
 Asks.bind (N:=N) (R:=λ_=>True) (S:=λr:Nat×Array Nat=>bnd N r.2) (f:=λm=>.ret (m,kas_rev p 0 n)) (λ_ _=>VP (p:=p) (q:=kas_rev p 0 n) hN h XF) (Ry hN (VP hN h XF) _ _)
theorem MH{p:Array Nat}{n nrem:Nat}(h:bnd N p):Asks N (λr=>bnd N r.2) (kas_descPart n nrem p):=
 Asks.bind (λr hr=>by
  split
  .exact Mu hN (VP hN hr XF)
  .exact Mu hN hr) (Ss hN _ _ _ _ h)
theorem BC{p:Array Nat}{nrem:Nat}(h:bnd N p):Asks N (λr=>bnd N r.2) (kas_count nrem p):=
 Asks.bind (R:=λ_=>True) (λn _=>by
  split
  .exact h
  .split
   .refine⟨h _,h _,λb=>?_⟩
    cases b with
    |true=>(try dsimp only);rw[if_pos qt];exact h
    |false=>(try dsimp only);rw[if_neg (by decide)];exact MH hN (VP hN h XF)
   .exact MH hN h) (Ry hN h _ _)
theorem RT{p:Array Nat}(h:bnd N p)(k:Nat):∀(f l r:Nat),Asks N (λ_=>True) (kas_place p k f l r)
 |0,_,_=>trivial
 |f+1,l,r=>by
  unfold kas_place;split
  .trivial
  .refine⟨h _,h _,λb=>?_⟩
   cases b with
   |true=>(try dsimp only);rw[if_pos qt];exact RT h k f _ _
   |false=>(try dsimp only);rw[if_neg (by decide)];exact RT h k f _ _
theorem Nu:∀(f:Nat)(p:Array Nat)(k:Nat),bnd N p->Asks N (λ_=>True) (kas_bin f p k)
 |0,_,_,_=>trivial
 |f+1,p,k,h=>Asks.bind (R:=λ_=>True) (λl _=>Nu f _ _ (VP hN h (bubble_perm _ _ _))) (RT hN h k _ _ _)
end
theorem Cu{n:Nat}(hn:0<n):Asks n (λ_=>True) (kas_sort n):=by
 have hb:bnd n (List.toArray (Uf n)):=λi=>by
  rw[Q5];by_cases hi:i<n
  .simp[hi]
  .simp[hi,hn]
 refine Asks.bind (λr hr=>?_) (BC hn hb);split
 .exact Nu hn _ _ _ hr
 .trivial
end
def Ka(q:Int×Int):Int:=q.1*10000000+q.2
def okP(q:Int×Int):Prop:=-1000000<=q.2/\q.2<=1000000
theorem Ff{x y:Int×Int}(hx:okP x)(hy:okP y):Ka x<Ka y ↔ (x.1<y.1∨x.1=y.1/\x.2<y.2):=by unfold Ka okP at *;omega
theorem Dh{x y:Int×Int}(hx:okP x)(hy:okP y)(h:Ka x=Ka y):x=y:=by
 unfold Ka okP at *;have h1:x.1=y.1:=by omega
 have h2:x.2=y.2:=by omega
 exact Prod.ext h1 h2
section
variable{prog:J7}{w:World}{A:Around}{E:J5->J6->Prop}{s:J6}
def T4(h:Heap)(v:J5)(q:Int×Int):Prop:=∃a t u o n,v=.ref a/\h.get? a=O o/\o.cls=.type "tuple" /\ o.data=.seq #[.int q.1 t,.int q.2 u] n
theorem Fe{x y:J5}{p q:Int×Int}{Q:Bool->J6->Prop}(hx:T4 s.heap x p)(hy:T4 s.heap y q)(h:Q (decide (p.1<q.1∨p.1=q.1/\p.2<q.2)) s):Uc (model prog w) A (keyLt' (tuples' qv) x y) Q E s:=by
 obtain⟨a,t,u,o,n,rfl,e1,c1,d1⟩:=hx;obtain⟨b,t',u',o',n',rfl,e2,c2,d2⟩:=hy;refine kat_lt e1 d1 e2 d2 ?_;show KatLex prog w A qv _ Q [(Value.int p.1 t,Value.int q.1 t'),(Value.int p.2 u,Value.int q.2 u')] 0 s;refine kat_cons (wpAny_eqBool_int ?_);by_cases h1:p.1=q.1
 .have e:(p.1==q.1)=qv:=by simpa using h1
  rw[e];refine kat_yes (kat_cons (wpAny_eqBool_int ?_));by_cases h2:p.2=q.2
  .have e:(p.2==q.2)=qv:=by simpa using h2
   rw[e];refine kat_yes (kat_nil ?_);have:decide (p.1<q.1∨p.1=q.1/\p.2<q.2)=qw:=Qs (by omega);rw[this]at h;exact h
  .have e:(p.2==q.2)=qw:=by simpa using h2
   rw[e];refine kat_no (kat_one _ _ (PyProof.Rows.lt_int ?_))
   have:decide (p.1<q.1∨p.1=q.1/\p.2<q.2)=decide (p.2<q.2):=by
    by_cases z:p.2<q.2
    .rw[QB z,QB (.inr ⟨h1,z⟩)]
    .rw[Qs z,Qs (by omega)]
   rw[this]at h;exact h
 .have e:(p.1==q.1)=qw:=by simpa using h1
  rw[e];refine kat_no (oneLt_int ?_)
  have:decide (p.1<q.1∨p.1=q.1/\p.2<q.2)=decide (p.1<q.1):=by
   by_cases z:p.1<q.1
   .rw[QB z,QB (.inl z)]
   .rw[Qs z,Qs (by omega)]
  rw[this]at h;exact h
def ZQ(h:Heap):qz->LP->Prop
 |[],[]=>True
 |v::vs,q::qs=>T4 h v q/\ZQ h vs qs
 |_,_=>False
theorem ZQ.get{h:Heap}:∀{vs:qz}{qs:LP},ZQ h vs qs->vs.length=qs.length/\∀(i:Nat)(hi:i<vs.length),T4 h (vs.getD i .none) (qs.getD i (0,0))
 |[],[],_=>⟨rfl,λi hi=>absurd hi (Nat.not_lt_zero _)⟩
 |v::vs,q::qs,⟨h1,h2⟩=>by
  obtain⟨e,f⟩:=ZQ.get h2;refine⟨by simp[e],λi hi=>?_⟩;cases i with
  |zero=>exact h1
  |succ i=>exact f i (by simpa using hi)
theorem ZQ.tups{h:Heap}:∀{vs:qz}{qs:LP},ZQ h vs qs->∃fs:qz,KatTups h vs fs/\fs.length=vs.length/\∀v∈fs,∃i t,v=.int i t
 |[],[],_=>⟨[],trivial,rfl,λ_ h=>by cases h⟩
 |v::vs,q::qs,⟨hp,h2⟩=>by
  obtain⟨a,t,u,o,n,rfl,e1,c1,d1⟩:=hp;obtain⟨fs,f1,f2,f3⟩:=ZQ.tups h2;refine⟨.int q.1 t::fs,.cons e1 c1 d1 qt f1,by simp[f2],λv hv=>?_⟩;rcases QL.mp hv with rfl|hv
  .exact⟨_,_,rfl⟩
  .exact f3 v hv
theorem ZQ.mono{h h':Heap}(k:∀b o,h.get? b=O o->h'.get? b=O o):∀{vs:qz}{qs:LP},ZQ h vs qs->ZQ h' vs qs
 |[],[],_=>trivial
 |v::vs,q::qs,⟨hp,h2⟩=>by obtain⟨a,t,u,o,n,rfl,e1,c1,d1⟩:=hp;exact⟨⟨a,t,u,o,n,rfl,k _ _ e1,c1,d1⟩,ZQ.mono k h2⟩
def Tx(qs:LP)(π:qI):Prop:=π.Perm (Uf qs.length)/\(π.map λi=>qs.getD i (0,0)).Pairwise λx y=>Ka x<=Ka y
theorem qa{a:J8}{vs:qz}{qs:LP}{n:Nat}{P:Fin->J6->Prop}(ho:s.heap.get? a=O (seqObj "list" vs.toArray n))
  (hp:ZQ ((s.heap.update a (Obj.mapSeq λ_=>#[]))) vs qs) (hq:∀q∈qs,okP q) (h64:vs.length<64)
  (h:∀π:qI,Tx qs π->P (.done (.ret .none)) {s with heap:=sortedHeap s.heap a vs (List.toArray (π.map λi=>vs.getD i .none))}) :
  Uc (model prog w) A (Builtin.«list.sort» ⟨[.ref a],[]⟩) P E s:=by
 obtain⟨hl,hget⟩:=hp.get;rw[list_sort_plain];have ha:a<s.heap.objs.size:=Qg ho;refine Qb (listItems_at ho qt ?_);refine Qb (listUpdate_at ho qt ?_);obtain⟨e1,ho1⟩:∃e1,(s.heap.update a (Obj.mapSeq λ_=>#[])).get? a=O (seqObj "list" #[] e1):=⟨_,get?_update_seq ho (λ_=>#[])⟩
 refine Qb (seqEpoch_at ho1 qt ?_);refine Qb (wpAny_newTuple ?_);refine Qb (wpAny_newList ?_);refine Jp ?_;have ho6:(((s.heap.update a (Obj.mapSeq λ_=>#[])).push (seqObj "tuple" vs.toArray 0)).push (seqObj "list" #[] 0)).get? a=O (seqObj "list" #[] e1):=by rw[Heap.get?_push_ne _ _ _ (by rw[size_push',Heap.size_update];exact QA (Nat.lt_succ_of_lt ha)),Heap.get?_push_ne _ _ _ (by rw[Heap.size_update];exact QA ha)];exact ho1
 have hp6:ZQ (((s.heap.update a (Obj.mapSeq λ_=>#[])).push (seqObj "tuple" vs.toArray 0)).push (seqObj "list" #[] 0)) vs qs:=hp.mono λb o e=>Qf _ (Qf _ e)
 show Uc (model prog w) A _ P E {s with heap:=((s.heap.update a (Obj.mapSeq λ_=>#[])).push (seqObj "tuple" vs.toArray 0)).push (seqObj "list" #[] 0)};dsimp only;have hsz:vs.toArray.size=vs.length:=by simp
 by_cases h2:vs.toArray.size<2
 .rw[Qo h2,Qo h2]
  refine Qb (Qh ?_);rw[StateT.run_pure];refine Qb (Qh ?_);dsimp only;refine Qb (seqEpoch_at ho6 qt ?_);refine Qb (listUpdate_at ho6 qt ?_ (hsz2:=by rw[Array.size_map];show(pairsOf vs).size<=_;rw[pairsOf_size,Jw];omega));simp only[bne_self_eq_false,Jt,JZ]
  have hid:(arrOf (SortSt.mk' general' (vs.toArray.zip vs.toArray) #[] 7 qu)).map (·.2)=List.toArray ((Uf vs.length).map λi=>vs.getD i .none):=by
   show(vs.toArray.zip vs.toArray).map (·.2)=_
   apply Array.toList_inj.mp;apply List.ext_getElem?;intro i;simp only[Array.toList_map,Array.toList_zip,Qi,List.getElem?_zip_eq_some];by_cases hi:i<vs.length
   .simp[List.getElem?_zip_eq_some,hi,List.getElem?_range]
   .simp[hi]
  rw[hid];refine Qh (h (Uf vs.length) ⟨by rw[hl],?_⟩);rw[List.pairwise_map];rw[hsz]at h2
  rcases(show vs.length=0∨vs.length=1 by omega)with z|z<;>rw[z]
  .exact .nil
  .exact List.pairwise_singleton _ _
 .rw[Qy h2,Qy h2]
  rw[hsz]at h2;obtain⟨fs,f1,f2,f3⟩:=hp6.tups;refine Qb (kat_kind (T:=.type "int") f1 (by omega) (λv hv=>by obtain⟨i,t,rfl⟩:=f3 v hv;exact(show Looks _ _ (pure (Value.type "int")) _ from .now)) qt ?_)
  refine Qb (Qr (kat_run (ks:=vs) (G:=λp s'=>s' = {s with heap:=((s.heap.update a (Obj.mapSeq λ_=>#[])).push (seqObj "tuple" vs.toArray 0)).push (seqObj "list" #[] 0)}/\p=US (kl λi=>Ka (qs.getD i (0,0))) (kas_sort vs.length))
   (Q:=λst' s'=>s' = {s with heap:=((s.heap.update a (Obj.mapSeq λ_=>#[])).push (seqObj "tuple" vs.toArray 0)).push (seqObj "list" #[] 0)}/\failedOf st'=qu/\arrOf st'=(US (kl λi=>Ka (qs.getD i (0,0))) (kas_sort vs.length)).map (kas_item (vs.toArray.zip vs.toArray)))
   rfl (by omega) h64 (λp st' s' a1 a2 a3 a4=>⟨a4.1,a3,by rw[a2,a4.2]⟩) ?_) ?_ λ_ _ e=>e)
  .refine Nv (N:=vs.length) (R:=λ_=>True) (lt:=kl λi=>Ka (qs.getD i (0,0))) (λi j C hi hj hC=>?_) _ _ (Cu (by omega)) ⟨rfl,rfl⟩
   refine Fe (ZQ.get hp6 |>.2 i hi) (ZQ.get hp6 |>.2 j hj) ?_;have oi:okP (qs.getD i (0,0)):=hq _ (by rw[QR,Qe (by omega)];exact Jl _);have oj:okP (qs.getD j (0,0)):=hq _ (by rw[QR,Qe (by omega)];exact Jl _);have e:decide ((qs.getD i (0,0)).1<(qs.getD j (0,0)).1∨(qs.getD i (0,0)).1=(qs.getD j (0,0)).1/\(qs.getD i (0,0)).2<(qs.getD j (0,0)).2)=kl (λi=>Ka (qs.getD i (0,0))) i j:=by unfold kl;exact decide_eq_decide.mpr (Ff oi oj).symm
   rw[e];exact hC
  .rintro⟨⟨⟩,st'⟩ s' ⟨rfl,hf,har⟩
   dsimp only;obtain⟨b1,b2,b3⟩:=Cv (key:=λi=>Ka (qs.getD i (0,0))) (n:=vs.length) (by omega);generalize US (kl λi=>Ka (qs.getD i (0,0))) (kas_sort vs.length)=p at har b1 b2 b3;have hout:=kat_snds (ks:=vs) (vs:=vs) qt har;have hsz2:((arrOf st').map (·.2)).size=vs.length:=by rw[hout,QN,Qd,JT,b2]
   refine Qb (seqEpoch_at ho6 qt ?_);refine Qb (listUpdate_at ho6 qt ?_ (hsz2:=by rw[hsz2,Jw];omega));rw[hf];simp only[bne_self_eq_false,Jt,JZ];rw[hout];refine Qh (h p.toList ⟨?_,?_⟩)
   .have:=Array.perm_iff_toList_perm.mp b1
    rw[←hl];exact this
   .rw[List.pairwise_map,List.pairwise_iff_getElem]
    intro i j hi hj hij;rw[JT,b2]at hi hj;have:=b3 i j (by omega) hj;unfold KA at this;rw[Q5,Q5,JD (by omega),JD (by omega)]at this;simpa using this
end
section
variable{prog:J7}{w:World}{A:Around}{E:J5->J6->Prop}{s:J6}
theorem A9{l:J8}{vs:qz}{qs:LP}{Q:J5->J6->Prop}(hl:s.heap.IsList l vs.toArray)(hp:ZQ s.heap vs qs)(hq:∀q∈qs,okP q)(h64:vs.length<64)
  (h:∀π:qI,Tx qs π->Q (.ref (s.heap.objs.size+1)) {s with heap:=sortedAll s.heap vs (List.toArray (π.map λi=>vs.getD i .none))}) :
  Uc (model prog w) A (call (.builtin "sorted") [.ref l]) Q E s:=by
 refine Calls.call_function_entry kind_sorted plain_sorted entry_sorted (args_sorted1 _) ?_;unfold Builtin.«sorted»;refine Qb (m:=checkCount "sorted" 1 1 _) (Qh ?_);refine Qb (collect_list hl ?_);refine Qb (wpAny_newList ?_);have hsz:((s.heap.push (seqObj "list" #[] 0)).update s.heap.objs.size (Obj.mapSeq (· ++ vs.toArray))).objs.size=s.heap.objs.size+1:=by rw[Heap.size_update,size_push']
 have kr:(((s.heap.push (seqObj "list" #[] 0)).update s.heap.objs.size (Obj.mapSeq (· ++ vs.toArray))).push (seqObj "list" vs.toArray 0)).get? (s.heap.objs.size+1)=O (seqObj "list" vs.toArray 0):=by rw[←hsz];exact Qt _ qt
 show Uc _ _ _ _ _ {s with heap:=((s.heap.push (seqObj "list" #[] 0)).update s.heap.objs.size (Obj.mapSeq (· ++ vs.toArray))).push (seqObj "list" vs.toArray 0)};rw[hsz];refine Qb (Jp (wpAny_call_entry slot_list_sort ⟨_,kr,rfl⟩ entry_list_sort (qa (qs:=qs) kr (hp.mono λb o e=>?_) hq h64 λπ a1=>⟨_,rfl,?_⟩) (args_list_sort _)))
 .have hlt:b<s.heap.objs.size:=Qg e
  dsimp only;have ky:(b:Nat)<s.heap.objs.size:=hlt;rw[Heap.get?_update_ne _ _ _ _ (QA (Nat.lt_succ_of_lt ky)),Heap.get?_push_ne _ _ _ (by rw[hsz];exact QA (Nat.lt_succ_of_lt ky)),Heap.get?_update_ne _ _ _ _ (QA hlt),Heap.get?_push_ne _ _ _ (QA hlt)];exact e
 .exact Qh ⟨_,rfl,h π a1⟩
end
end DL
namespace DL
open PySem PySem.Spec L2
open PyProof.Rows hiding St
section
variable{X:Cx}
theorem Nt{pins:List (J8×Obj)}{s:J6}{σ:St}{H:Hp}(I:Inv X pins σ H s):∀{as:qF}{us:qz}{qs:LP},Vals (as.map V.ref) us->as.length=qs.length->(∀(i:Nat) a q,as[i]?=O a->qs[i]?=O q->SqT X.K H a [.int q.1,.int q.2])->ZQ s.heap us qs
 |[],_,[],.nil,_,_=>trivial
 |a::as,_,q::qs,.cons r t,hl,h=>by refine⟨?_,Nt I t (by simpa using hl) λi a q h1 h2=>h (i+1) a q (by simpa using h1) (by simpa using h2)⟩;cases r;obtain⟨its,rv,⟨o,e,c,n,d⟩,_⟩:=I.tuple (h 0 a q qt qt);obtain⟨u,v,rfl,r1,r2⟩:=rv.two;obtain⟨t1,rfl⟩:=r1;obtain⟨t2,rfl⟩:=r2;exact⟨a,t1,t2,o,n,rfl,e,c,by simpa using d⟩
theorem NQ{as:qF}{us:qz}(r:Vals (as.map V.ref) us):∀(π:qI),(∀i∈π,i<as.length)->Vals (π.map λi=>V.ref (as.getD i 0)) (π.map λi=>us.getD i .none)
 |[],_=>.nil
 |i::π,h=>by
  refine .cons ?_ (NQ r π λj hj=>h j (Qu _ hj));have hi:=h i Qp;have e:(as.map V.ref)[i]?=O (.ref (as.getD i 0)):=by rw[List.getElem?_map,List.getElem?_eq_getElem hi];simp[List.getD,List.getElem?_eq_getElem hi]
  obtain⟨u,e2,ru⟩:=r.get e;simp only[List.getD,e2,JI];exact ru
theorem BB:ZM X (.builtin "sorted") (λxs H Q=>∃l,∃as:qF,∃qs:LP,xs=[.ref l]/\SqL X.K H l (as.map V.ref)/\as.length=qs.length/\(∀(i:Nat) a q,as[i]?=O a->qs[i]?=O q->SqT X.K H a [.int q.1,.int q.2])/\(∀q∈qs,okP q)/\qs.length<64 /\
  ∀π p,Tx qs π->H p=qu->Q (.ref p) (upd H p (.lst (π.map λi=>V.ref (as.getD i 0))))):=by
 intro pins s σ H xs us Q I rx h;obtain⟨l,as,qs,rfl,hq,hl,ht,ho,hb,q⟩:=h;obtain⟨u,rfl,ru⟩:=rx.one;cases ru;obtain⟨its,rv,p,hz⟩:=I.list hq;have hn:its.length=qs.length:=by have:=rv.length;rw[Qd]at this;omega
 refine A9 (qs:=qs) p.isList (Nt I rv hl ht) ho (by omega) λπ hπ=>?_
 obtain⟨e,he⟩:=sortedAll_at s.heap its (List.toArray (π.map λi=>its.getD i .none));have hπl:∀i∈π,i<as.length:=λi hi=>by have:=hπ.1.mem_iff.mp hi;rw[Jf]at this;omega
 refine⟨.ref (s.heap.objs.size+1),_,I.laid (t':=s.toks) (λb o=>sortedAll_old) (Jz _) (show KT X.prog X.w _ _ _ (.lst (π.map λi=>V.ref (as.getD i 0)))from⟨?_,_,e,NQ rv π hπl,he⟩),rfl,q π _ hπ (I.hok.fresh (Jz _))⟩;rw[Qd,hπ.1.length_eq,Jy];rw[Qd]at hz;omega
def T3:D->Option (Int×Int)
 |.tuple [.int a,.int b]=>O (a,b)
 |_=>qu
def VO:qx->Option LP
 |[]=>O []
 |d::r=>(T3 d).bind λq=>(VO r).map (q :: ·)
def ZU(q:Int×Int):D:=.tuple [.int q.1,.int q.2]
theorem Ct{d:D}{q:Int×Int}(h:T3 d=O q):d=ZU q:=by
 unfold T3 at h;split at h
 .cases h;rfl
 .cases h
theorem Mi:∀{ds:qx}{qs:LP},VO ds=O qs->ds=qs.map ZU
 |[],qs,h=>by cases h;rfl
 |d::r,qs,h=>by
  unfold VO at h;cases z:T3 d with
  |none=>rw[z]at h;cases h
  |some q=>
   rw[z]at h;cases z2:VO r with
   |none=>rw[z2]at h;cases h
   |some qs'=>rw[z2]at h;cases h;rw[Ct z,Mi z2];rfl
def VX(qs:LP):LP:=qs.mergeSort λx y=>decide (Ka x<=Ka y)
theorem Af(qs:LP):(VX qs).Perm qs:=List.mergeSort_perm ..
theorem Cs(qs:LP):(VX qs).Pairwise λx y=>Ka x<=Ka y:=by have:=List.pairwise_mergeSort (le:=λx y:Int×Int=>decide (Ka x<=Ka y)) (by intro a b c;simp;omega) (by intro a b;simp;omega) qs;exact this.imp (by simp)
theorem Nr:∀{a b:LP},(∀x∈a,okP x)->a.Perm b->a.Pairwise (λx y=>Ka x<=Ka y)->b.Pairwise (λx y=>Ka x<=Ka y)->a=b
 |[],b,_,p,_,_=>by rw[List.nil_perm.1 p]
 |x::a,[],_,p,_,_=>by have:=p.length_eq;simp at this
 |x::a,y::b,ok,p,ha,hb=>by
  have hx:Ka y<=Ka x:=by
   rcases QL.1 (p.mem_iff.1 (Qp ..))with e|e
   .rw[e];exact JE _
   .exact(Jj.1 hb).1 x e
  have hy:Ka x<=Ka y:=by
   rcases QL.1 (p.mem_iff.2 (Qp ..))with e|e
   .rw[e];exact JE _
   .exact(Jj.1 ha).1 y e
  have oky:okP y:=ok y (p.mem_iff.2 (Qp ..));have e:=Dh (ok x (Qp ..)) oky (Int.le_antisymm hy hx);subst e;rw[Nr (λz hz=>ok z (Qu _ hz)) (List.Perm.cons_inv p) (Jj.1 ha).2 (Jj.1 hb).2]
theorem Dg{qs:LP}{π:qI}(ok:∀q∈qs,okP q)(h:Tx qs π):(π.map λi=>qs.getD i (0,0))=VX qs:=by
 have hp:(π.map λi=>qs.getD i (0,0)).Perm qs:=by
  have h1:=h.1.map λi=>qs.getD i (0,0)
  have e:(Uf qs.length).map (λi=>qs.getD i (0,0))=qs:=by
   apply List.ext_getElem?;intro i;rw[Qi];by_cases hi:i<qs.length
   .rw[List.getElem?_range hi,List.getElem?_eq_getElem hi];simp[List.getD,List.getElem?_eq_getElem hi]
   .rw[Js (by rw[Jy];omega),Js (by omega)];rfl
  rw[e]at h1;exact h1
 exact Nr (λx hx=>ok x (hp.mem_iff.mp hx)) (hp.trans (Af qs).symm) h.2 (Cs qs)
def okPB(q:Int×Int):Bool:=decide (-1000000<=q.2/\q.2<=1000000)
def T2:qx->qB
 |[.list ds]=>(match VO ds with
  |some qs=>if qs.length<64/\qs.all okPB=qv then O (.list ((VX qs).map ZU))else qu
  |none=>qu)
 |_=>qu
theorem Ae{xs:qx}{d:D}(h:T2 xs=O d):∃qs:LP,xs=[.list (qs.map ZU)]/\qs.length<64/\(∀q∈qs,okP q)/\d=.list ((VX qs).map ZU):=by
 unfold T2 at h;split at h
 .rename_i ds
  cases z:VO ds with
  |none=>rw[z]at h;cases h
  |some qs=>
   rw[z]at h;dsimp only at h;split at h
   .rename_i c
    cases h;exact⟨qs,by rw[Mi z],c.1,λq hq=>(show -1000000<=q.2/\q.2<=1000000 from Qa (Q2.mp c.2 q hq)),rfl⟩
   .cases h
 .cases h
theorem NP{K:Frag}{G:Hp}:∀{vs:List V}{qs:LP},Reps K G vs (qs.map ZU)->∃as:qF,vs=as.map V.ref/\as.length=qs.length/\∀(i:Nat) a q,as[i]?=O a->qs[i]?=O q->SqT K G a [.int q.1,.int q.2]
 |_,[],.nil=>⟨[],rfl,rfl,λi a q h=>by simp at h⟩
 |_,q::qs,.cons r t=>by
  obtain⟨as,rfl,hl,h⟩:=NP t;obtain⟨a,ws,rfl,h1,r1⟩:=r.tup_inv;cases r1 with
  |cons ra rb=>
   obtain⟨v,rfl,rb'⟩:=rb.one_inv;refine⟨a::as,rfl,by simp[hl],λi a' q' e1 e2=>?_⟩;cases i with
   |zero=>cases e1;cases e2;rw[ra.int_inv,rb'.int_inv]at h1;exact h1
   |succ i=>exact h i a' q' (by simpa using e1) (by simpa using e2)
theorem Df{K:Frag}{G:Hp}{a:J8}{q:Int×Int}(h:SqT K G a [.int q.1,.int q.2]):Rep K G (.ref a) (ZU q):=.tup h (.cons (.int _) (.cons (.int _) .nil))
theorem NO{K:Frag}{G:Hp}{as:qF}{qs:LP}(hl:as.length=qs.length)(h:∀(i:Nat) a q,as[i]?=O a->qs[i]?=O q->SqT K G a [.int q.1,.int q.2]):∀π:qI,(∀i∈π,i<qs.length)->Reps K G (π.map λi=>V.ref (as.getD i 0)) ((π.map λi=>qs.getD i (0,0)).map ZU)
 |[],_=>.nil
 |i::π,hb=>by
  refine .cons ?_ (NO hl h π λj hj=>hb j (Qu _ hj));have hi:=hb i Qp;refine Df (h i _ _ ?_ ?_)
  .rw[List.getElem?_eq_getElem (by omega)];simp[List.getD,List.getElem?_eq_getElem (show i<as.length by omega)]
  .rw[List.getElem?_eq_getElem hi];simp[List.getD,List.getElem?_eq_getElem hi]
theorem Fd:Z9 X (.builtin "sorted") T2:=by refine⟨_,BB,λvs G H ds d Q s r e k=>?_⟩;obtain⟨qs,rfl,h64,ok,rfl⟩:=Ae e;obtain⟨v,rfl,q1⟩:=r.one_inv;obtain⟨l,ws,rfl,h1,r1⟩:=q1.lst_inv;obtain⟨as,rfl,hl,ht⟩:=NP r1;refine⟨l,as,qs,rfl,s.seq h1,hl,λi a q e1 e2=>Yb s (ht i a q e1 e2),ok,h64,λπ p hπ hp=>?_⟩;have hb:∀i∈π,i<qs.length:=λi hi=>Jf.mp (hπ.1.mem_iff.mp hi);have rr:=(NO hl ht π hb).mono (KW (s.free hp):Same G (upd G p (.lst (π.map λi=>V.ref (as.getD i 0)))));rw[Dg ok hπ]at rr;exact k _ _ _ (Ext.new s hp) (.lst (SqL.of Kh) rr)
theorem Z9.or{f:J5}{p q:qx->qB}(h1:Z9 X f p)(h2:Z9 X f q):Z9 X f (λxs=>(p xs).orElse λ_=>q xs):=by
 obtain⟨r1,c1,k1⟩:=h1;obtain⟨r2,c2,k2⟩:=h2;refine⟨λxs H Q=>r1 xs H Q∨r2 xs H Q,λpins s σ H xs us Q I rx h=>?_,λvs G H ds d Q s r e k=>?_⟩
 .rcases h with h|h
  .exact c1 pins s σ H xs us Q I rx h
  .exact c2 pins s σ H xs us Q I rx h
 .dsimp only at e
  cases z:p ds with
  |some d'=>rw[z]at e;cases e;exact .inl (k1 vs G H ds _ Q s r z k)
  |none=>rw[z]at e;exact .inr (k2 vs G H ds _ Q s r e k)
def Tw(xs:qx):qB:=(Vx xs).orElse λ_=>T2 xs
theorem L7:Z9 X (.builtin "sorted") Tw:=Fk.or Fd
theorem Ad{ns:qy}(h:ns.length<64):Tw [.list (ns.map .int)]=O (.list ((ZD ns).map .int)):=by unfold Tw;rw[Bx h];rfl
end
def V8(Z:Uw)(j:Nat):qB:=match Z[j]? with
 |some (O (.pub d))=>O d
 |some (O (.own ds))=>O (.list ds)
 |some (O (.deep _ d))=>O d
 |_=>qu
theorem EOk.tree{K:Frag}{B G0 G H:Hp}{σ:St}{Z:Uw}{j:Nat}{d:D}(k:EOk K B G0 G H σ Z)(h:V8 Z j=O d):∃v,σ[j]?=O (O v)/\Rep K H v d:=by
 unfold V8 at h;split at h
 .rename_i d' e
  cases h;obtain⟨v,h1,h2⟩:=k.pub j _ e;exact⟨v,h1,h2.mono k.gh⟩
 .rename_i ds e
  cases h;obtain⟨a,vs,h1,h2,h3,h4,h5⟩:=k.own j ds e;exact⟨.ref a,h1,.lst (SqL.of h4) (h5.mono k.gh)⟩
 .rename_i p d' e
  cases h;obtain⟨ω,k1,k2⟩:=k.dp;obtain⟨v,fp,s,r,_⟩:=k1 j p _ e;exact⟨v,s,r.rep k.gh⟩
 .cases h
end DL
namespace HT
open PySem PyProof.Rows
end HT
namespace DL
open PySem PySem.Spec L2
open PyProof.Rows hiding St
end DL
namespace DL
open PySem
theorem lz0{P:qz->Prop}{us:qz}(hl:us.length=0)(h:P []):P us:=by
 cases us with
 |nil=>exact h
 |cons a r=>cases hl
theorem lzS{P:qz->Prop}{us:qz}{n:Nat}(hl:us.length=n+1)(h:∀a r,r.length=n->P (a::r)):P us:=by
 cases us with
 |nil=>cases hl
 |cons a r=>exact h a r (Nat.succ.inj hl)
theorem lz1{P:qz->Prop}{us:qz}(hl:us.length=1)(h:∀a,P [a]):P us:=lzS hl λa r e=>lz0 (P:=λr=>P (a::r)) e (h a)
theorem lz2{P:qz->Prop}{us:qz}(hl:us.length=2)(h:∀a b,P [a,b]):P us:=lzS hl λa r e=>lz1 (P:=λr=>P (a::r)) e (h a)
theorem lz3{P:qz->Prop}{us:qz}(hl:us.length=3)(h:∀a b c,P [a,b,c]):P us:=lzS hl λa r e=>lz2 (P:=λr=>P (a::r)) e (h a)
theorem lz4{P:qz->Prop}{us:qz}(hl:us.length=4)(h:∀a b c d,P [a,b,c,d]):P us:=lzS hl λa r e=>lz3 (P:=λr=>P (a::r)) e (h a)
theorem lz5{P:qz->Prop}{us:qz}(hl:us.length=5)(h:∀a b c d e,P [a,b,c,d,e]):P us:=lzS hl λa r e=>lz4 (P:=λr=>P (a::r)) e (h a)
theorem bz1{fd:J9}{ps:List Str}{us:qz}(hl:us.length=1)(h:∀a,bindArgs fd {pos:=[a]}=pure (ps.zip [a])):bindArgs fd {pos:=us}=pure (ps.zip us):=lz1 (P:=λus=>bindArgs fd {pos:=us}=pure (ps.zip us)) hl h
theorem bz2{fd:J9}{ps:List Str}{us:qz}(hl:us.length=2)(h:∀a b,bindArgs fd {pos:=[a,b]}=pure (ps.zip [a,b])):bindArgs fd {pos:=us}=pure (ps.zip us):=lz2 (P:=λus=>bindArgs fd {pos:=us}=pure (ps.zip us)) hl h
theorem bz3{fd:J9}{ps:List Str}{us:qz}(hl:us.length=3)(h:∀a b c,bindArgs fd {pos:=[a,b,c]}=pure (ps.zip [a,b,c])):bindArgs fd {pos:=us}=pure (ps.zip us):=lz3 (P:=λus=>bindArgs fd {pos:=us}=pure (ps.zip us)) hl h
theorem bz4{fd:J9}{ps:List Str}{us:qz}(hl:us.length=4)(h:∀a b c d,bindArgs fd {pos:=[a,b,c,d]}=pure (ps.zip [a,b,c,d])):bindArgs fd {pos:=us}=pure (ps.zip us):=lz4 (P:=λus=>bindArgs fd {pos:=us}=pure (ps.zip us)) hl h
theorem bz5{fd:J9}{ps:List Str}{us:qz}(hl:us.length=5)(h:∀a b c d e,bindArgs fd {pos:=[a,b,c,d,e]}=pure (ps.zip [a,b,c,d,e])):bindArgs fd {pos:=us}=pure (ps.zip us):=lz5 (P:=λus=>bindArgs fd {pos:=us}=pure (ps.zip us)) hl h
end DL
namespace DL
open PySem PySem.Spec L2
open PyProof.Rows hiding St
def whole(h:Heap):Frag:=(Uf h.objs.size).filterMap λa=>(h.get? a).map λo=>(a,o)
theorem NN{g:J8->Option Obj}{x:J8}:∀l:qF,(l.filterMap λa=>(g a).map λo=>(a,o)).lookup x=if x∈l then g x else qu
 |[]=>rfl
 |y::l=>by
  have ih:=NN (g:=g) (x:=x) l;by_cases e:x=y
  .subst e
   rw[Qo Qp];cases z:g x with
   |none=>rw[List.filterMap_cons_none (by rw[z];rfl),ih,z];split<;>rfl
   |some o=>rw[List.filterMap_cons_some (by rw[z];rfl),QO,beq_self_eq_true]
  .have m:(x∈y::l)=(x∈l):=by simp[List.mem_cons,e]
   have b:(x==y)=qw:=by simpa using e
   have ih':(if x∈y::l then g x else qu)=_:=(by simp only[m];exact ih.symm)
   rw[ih'];cases z:g y with
   |none=>rw[List.filterMap_cons_none (by rw[z];rfl)]
   |some o=>rw[List.filterMap_cons_some (by rw[z];rfl),QO,b]
theorem ZK{h:Heap}{a:J8}:(whole h).lookup a=h.get? a:=by
 unfold whole;rw[NN];split
 .rfl
 .rename_i n
  cases z:h.get? a with
  |none=>rfl
  |some o=>exact absurd (Jf.mpr (Qg z)) n
theorem De(h:Heap):(whole h).In h:=λa o e=>by rw[ZK]at e;exact e
def LY(st:Stmt):Option DefRec:=match st with
 |.FunctionDef name a b _ _ _ sc _ _ pos=>O ⟨name,a,b,sc,pos⟩
 |_=>qu
def TZ(st:Stmt):Option Str:=match st with
 |.FunctionDef name _ _ _ _ _ _ _ _ _=>O name
 |_=>qu
def LX(st:Stmt):Pos:=match st with
 |.FunctionDef _ _ _ _ _ _ _ _ _ pos=>pos
 |_=>⟨0,0,0,0⟩
abbrev U2(p:J7)(i:Nat):Stmt:=p.main.body.getD i (.Pass ⟨0,0,0,0⟩)
def Vv(p:J7)(ix:qI):List DefRec:=ix.filterMap λi=>LY (U2 p i)
section
variable{p q:J7}{loose:List Str}{mean:ExcName->qC}{mg mb:Str->qC}{h:Heap}{w:World}
theorem SR{ix:qI}(T:Top q loose mean mg mb h)(e:recsOf q=Vv p ix)(i:Nat)(x:Str)(hi:ix.contains i=qv)(hn:TZ (U2 p i)=O x):∃f fd,mg x=O (.ref f)/\Fun (whole h) x x (U2 p i) f fd:=by
 cases hs:U2 p i with
 |FunctionDef name a b _ _ _ sc _ _ pos=>
  rw[hs]at hn;cases hn;have hd:(⟨x,a,b,sc,pos⟩:DefRec)∈recsOf q:=by rw[e];exact List.mem_filterMap.mpr ⟨i,by simpa using hi,by rw[hs];rfl⟩
  obtain⟨f,⟨oc,od,dt,osl⟩,pm,cd,doc,h1,h2,h3,h4⟩:=T.fn _ hd;have h3:dt=_:=h3;subst h3;refine⟨f,_,h1,⟨⟨oc,od,.none,doc,pm,_,cd,_,osl,rfl,by rw[ZK];exact h2,?_⟩,?_⟩⟩
  .obtain⟨c,⟨_,_,dc,_⟩,vs,t,rfl,g1,g2,g3⟩:=h4
   have g2:dc=_:=g2;subst g2;unfold PySem.W.codeIn;dsimp only;rw[ZK,g1];dsimp only;have g4:vs.toList[1]?=O (.str x t):=by rw[Array.getElem?_toList];exact g3
   cases hv:vs.toList with
   |nil=>rw[hv]at g4;cases g4
   |cons v0 r=>
    rw[hv]at g4;cases r with
    |nil=>cases g4
    |cons v1 r=>cases g4;exact beq_self_eq_true _
  .unfold PySem.W.keepIn
   dsimp only;rw[ZK,h2]
 |_=>rw[hs]at hn;cases hn
theorem Cr{K:Frag}{x qual y:Str}{st:Stmt}{f:J8}{fd:J9}(F:Fun K x qual st f fd)
  (hb:∀(kV doc pm:J5)(an:qG)(cdv ct v:J5),bindArgs (PySem.W.fnOf x qual (YZ st) (Zx st) (Kw st) .none kV doc pm an cdv ct) ⟨[v],[]⟩=pure [(y,v)]) (s:J6) (v:J5):BindsTo s fd ⟨[v],[]⟩ [(y,v)]:=by
 obtain⟨oc,od,kV,doc,pm,an,cdv,ct,osl,rfl,lk,hcd⟩:=F.ex;exact .of_eq (hb kV doc pm an cdv ct v)
def Tv(q:J7)(loose:List Str)(x:Str):Bool:=
 !startupNames.contains x && !loose.contains x && !((recsOf q).map (·.name)).contains x && !((litsOf q).map (·.1)).contains x && !((clssOf q loose).map (·.name)).contains x
theorem ZP(T:Top q loose mean mg mb h){xs:List Str}(e:xs.all (Tv q loose)=qv){x:Str}(hx:x∈xs):mg x=qu:=by have:=Q2.mp e x hx;unfold Tv at this;simp only[Qx,JN,List.contains_eq_mem,decide_eq_false_iff_not]at this;exact T.free x this.1.1.1.1 this.1.1.1.2 this.1.1.2 this.1.2 this.2
theorem Sr(T:Top q loose mean mg mb h){x:Str}{i:Int}(e:valOf q x=O (.int i)):∃t,mg x=O (.int i t):=by obtain⟨v,h1,h2⟩:=T.const x _ e;have:=h2 h;cases this;exact⟨_,h1⟩
theorem Pb:∀{vs:qz}{ss:List Str},StrsAre vs ss->Vals (ss.map V.str) vs
 |_,_,.nil=>.nil
 |_,_,.cons y t r=>.cons ⟨t,rfl⟩ (Pb r)
theorem Cq(B:Tables q w mg h){x:Str}{ss:List Str}(e:tupStrsOf q x=O ss)(hl:ss.length<=1000) :
  ∃ad o its n,mg x=O (.ref ad)/\(whole h).lookup ad=O o/\o.cls=.type "tuple" /\ o.data=.seq its n/\its.size<=Ub/\Vals (ss.map V.str) its.toList:=by
 obtain⟨a,vs,h1,⟨o,h2,h3,n,h4⟩,h5⟩:=B.tupS x ss e;have r:=Pb h5;refine⟨a,o,_,n,h1,by rw[ZK];exact h2,h3,h4,?_,r⟩;have:=r.length;rw[Qd]at this;have l:(1000:Nat)<=Ub:=by decide
 rw[QN];omega
end
def scOk(sc:Scope)(N gl:List Str):Bool:=(N.all λx=>match sc.names.lookup x with|some .local=>qv|some .cell=>qv|_=>qw)&&gl.all λx=>match sc.names.lookup x with|some .globalImplicit=>qv|_=>qw
def fnB(sc:Scope)(N gl:List Str):Bool:=decide (sc.kind=.function) && !sc.isCoroutine && !sc.isGenerator&&decide N.Nodup&&(sc.names.all λy=>match y.2 with | .free=>qw|_=>qv)&&scOk sc N gl
structure FnNm(sc:Scope)(N gl:List Str):Prop where
 kind:sc.kind=.function
 co:sc.isCoroutine=qw
 gen:sc.isGenerator=qw
 nd:N.Nodup
 nofree:∀y∈sc.names,y.2≠.free
 nm:∀x∈N,sc.names.lookup x=O .local∨sc.names.lookup x=O .cell
 gl:∀x∈gl,sc.names.lookup x=O .globalImplicit
theorem Kn{sc:Scope}{N gl:List Str}(H:fnB sc N gl=qv):FnNm sc N gl:=by
 unfold fnB scOk at H;simp only[Qx,QU,JN,Q2]at H;obtain⟨⟨⟨⟨⟨h1,h2⟩,h3⟩,h4⟩,h5⟩,h6,h7⟩:=H;refine⟨h1,h2,h3,h4,λy hy e=>?_,λx hx=>?_,λx hx=>?_⟩
 .have:=h5 y hy;rw[e]at this;cases this
 .have:=h6 x hx
  split at this
  .rename_i e;exact .inl e
  .rename_i e;exact .inr e
  .cases this
 .have:=h7 x hx
  split at this
  .rename_i e;exact e
  .cases this
section
variable{sc:Scope}{N gl:List Str}{x:Str}
theorem nq(H:FnNm sc N gl):N.Nodup:=H.nd
theorem fq(H:FnNm sc N gl)(n:Nat):VC N (N.take n) sc:=⟨H.kind,H.co,H.gen,H.nd,by rw[JQ,List.take_eq_take_iff];omega,λx hx=>H.nm x (List.mem_of_mem_take hx),H.nofree⟩
theorem lq(H:FnNm sc N gl)(i:Nat)(h:N[i]?=O x:=by rfl):L2.Loc sc x:=H.nm x (QP h)
theorem gq(H:FnNm sc N gl)(i:Nat)(h:gl[i]?=O x:=by rfl):sc.names.lookup x=O .globalImplicit:=H.gl x (QP h)
theorem pq{X:Cx}{pos:Pos}(H:FnNm X.env.scope X.N gl)(i:Nat)(h:X.N[i]?=O x:=by rfl)(hd:(x==("__debug__" : Str))=qw:=by decide)(hc:(x==("__classdict__" : Str))=qw:=by decide):PE X (.Name x pos) (Kg i):=
 P5 h ((H.nm x (QP h)).elim .inl λz=>.inr (.inl z)) hd hc
end
theorem KU{q p:J7}{loose:List Str}{mean:ExcName->qC}{mg mb:Str->qC}{h:Heap}{ix:qI}(P:J7)(w:World)(base:Heap){ps:List Str}{k n:Nat}{F:qx->qB}(T:Top q loose mean mg mb h)(e:recsOf q=Vv p ix)(i:Nat)(x:Str)(hi:ix.contains i=qv)(hn:TZ (U2 p i)=O x)
  (ok:∀{f:J8}{fd:J9},Fun (whole h) x x (U2 p i) f fd->FnOk P w (whole h) mg base CX0 k f fd ps (spD (whole h) n F))
  (hb:∀(kV doc pm:J5)(an:qG)(cdv ct:J5)(us:qz),us.length=ps.length->bindArgs (PySem.W.fnOf x x (YZ (U2 p i)) (Zx (U2 p i)) (Kw (U2 p i)) .none kV doc pm an cdv ct) ⟨us,[]⟩=pure (ps.zip us)):Def P w (whole h) mg base x k n F:=by
 obtain⟨f,fd,m,FU⟩:=SR T e i x hi hn;exact Def.mk m FU (FU.binds hb) (ok FU)
section
variable{X:Cx}{B G0:Hp}{e:Ua}{pos:Pos}{es:qA}
theorem pdf{k kk n:Nat}{F:qx->qB}{g:M qx}{x:Str}{p2:Pos}(d:Def X.prog X.w X.K X.mg X.base x k n F)(hr:Room kk X.A)(hg:Gl X x)(ha:PA X (e::es) (tDs X.K B G0 g))(hk:k<=kk:=by decide)(hn:(e::es).length=n:=by rfl)
  (hdb:(x==("__debug__" : Str))=qw:=by decide) (he:Ud (e::es) X.env=(qw,eval e X.env)::Ud es X.env:=by rfl) (hpl:(backTo pos (Ud es X.env)).any (·.1)=qw:=by rfl) :
  PE X (.Call (.Name x p2) (e::es) [] pos) (tD X.K B G0 (UL n F g)):=EO d (hr.mono hk) hg ha hn hdb he hpl
end
theorem LW{q p:J7}{loose:List Str}{mean:ExcName->qC}{mg mb:Str->qC}{h:Heap}{ix:qI}{P:J7}{w:World}{k:Nat}{F:qx->qB}{y:Str}{fa:J8}(T:Top q loose mean mg mb h)(e:recsOf q=Vv p ix)(i:Nat)(x:Str)(hi:ix.contains i=qv)(hn:TZ (U2 p i)=O x)(hfa:mg x=O (.ref fa))
  (hb:∀(kV doc pm:J5)(an:qG)(cdv ct v:J5),bindArgs (PySem.W.fnOf x x (YZ (U2 p i)) (Zx (U2 p i)) (Kw (U2 p i)) .none kV doc pm an cdv ct) ⟨[v],[]⟩=pure [(y,v)])
  (ok:∀(base:Heap){f:J8}{fd:J9},Fun (whole h) x x (U2 p i) f fd->FnOk P w (whole h) mg base CX0 k f fd [y] (spD (whole h) 1 F)) :
  ∃fd:J9,(∀(s:J6)(v:J5),BindsTo s fd ⟨[v],[]⟩ [(y,v)])/\∀base:Heap,FnOk P w (whole h) mg base CX0 k fa fd [y] (spD (whole h) 1 F):=by
 obtain⟨f,fd,m,FU⟩:=SR T e i x hi hn;cases hfa.symm.trans m;exact⟨fd,Cr FU hb,λbase=>ok base FU⟩
def Xu:D->Bool
 |.str x=>decide (x.length<=1000)
 |.int i=>decide (0<=i)&&decide (i<10 ^ 10)
 |.none=>qv
 |_=>qw
def Xs(nm:Str)(ds:qx):Option qx:=match Zq nm with
 |[]=>(match ds with | [.str _]=>O [] | _=>qu)
 |f::fs=>if ds.length=(f::fs).length/\ds.all Xu=qv then O ds else qu
abbrev exD(nm:Str)(ds:qx):D:=.dict [(.none,.tuple [.str nm,.list ds])]
section
variable{K:Frag}{G H H':Hp}{nm:Str}{C a:J8}{bm:qz}{vs:List V}{ds fs:qx}{dd:qG}
theorem L6{v:V}{d:D}(r:Rep K G v d)(h:Xu d=qv):∃y,FmtV v y/\y.length<=4000:=by
 cases r with
 |non=>exact⟨_,.non,by decide⟩
 |bl b=>cases h
 |int i=>
  unfold Xu at h;simp only[Qx,QU]at h;have h64:i.natAbs<2 ^ 64:=by have:=h.2;have:=h.1;omega
  refine⟨_,.int i ?_,QH (toString_length_le h.1 (by decide:0<10) h.2) (by decide)⟩;by_cases z:i.natAbs=0
  .rw[z];decide
  .have:=(Nat.log2_lt z).mpr h64
   omega
 |str x=>unfold Xu at h;have h:=Qa h;exact⟨x,.str x (QH h (by decide)),QH h (by decide)⟩
 |lst _ _=>cases h
 |tup _ _=>cases h
 |dic _=>cases h
 |exc _ _ _ _=>cases h
 |dct _ _ _ _ _=>cases h
 |dtt _ _ _ _=>cases h
theorem Oo:∀{vs:List V}{ds:qx},Reps K G vs ds->ds.all Xu=qv->∀u∈vs,∃y,FmtV u y/\y.length<=4000
 |_,_,.nil,_,u,hu=>by cases hu
 |_,_,.cons r t,h,u,hu=>by
  rw[JF,Qx]at h;rcases QL.mp hu with rfl|hu
  .exact L6 r h.1
  .exact Oo t h.2 u hu
theorem Dd(r:Reps K G vs ds)(e:Xs nm ds=O fs):Pw nm vs:=by
 unfold Xs at e;split at e
 .rename_i hf
  split at e
  .obtain⟨v,rfl,q⟩:=r.one_inv
   exact .inl ⟨hf,_,by rw[q.str_inv]⟩
  .cases e
 .rename_i f l hf
  split at e
  .rename_i c
   refine .inr ⟨by rw[hf];simp,by rw[r.length,hf];exact c.1,Oo r c.2⟩
  .cases e
theorem Fc(c:ClsK K nm C bm)(s:Same G H)(ha:H a=qu)(r:Reps K G vs ds)(e:Xs nm ds=O fs)(p:Pv nm C a vs (upd H a (.ext (XO qv a C qu))) dd H') :
  ∃G',Ext G H G' (upd H' a (.ext (XO qw a C dd)))/\Rep K G' (.ref a) (exD nm fs)/\H' a=O (.ext (XO qv a C dd)):=by
 unfold Xs at e;rcases p with ⟨hf,rfl,rfl⟩|⟨hf,hl,dx,rfl,hd,hne,rfl⟩
 .rw[hf]at e
  dsimp only at e;split at e
  .cases e
   refine⟨upd G a (.ext (XO qw a C qu)),?_,.exc (vs:=[]) c Kh ⟨hf,rfl⟩ .nil,Kh⟩;rw[O0];exact Ext.new s ha
  .cases e
 .split at e
  .rename_i hf';exact absurd hf' hf
  .rename_i f l hf'
   split at e
   .cases e
    have hd':H dx=qu:=by rw[U4 hne]at hd;exact hd
    have eH:upd (upd (upd (upd H a (.ext (XO qv a C qu))) a (.ext (XO qv a C (O dx)))) dx (.ext (XD dx ((Zq nm).zip vs)))) a (.ext (XO qw a C (O dx)))=upd (upd H a (.ext (XO qw a C (O dx)))) dx (.ext (XD dx ((Zq nm).zip vs))):=by
     funext b;by_cases h1:b=a
     .subst h1;rw[Kh,U4 (Ne.symm hne),Kh]
     .rw[U4 h1]
      by_cases h2:b=dx
      .subst h2;rw[Kh,Kh]
      .rw[U4 h2,U4 h1,U4 h1,U4 h2,U4 h1]
    have x1:Ext G H (upd G a (.ext (XO qw a C (O dx)))) (upd H a (.ext (XO qw a C (O dx)))):=Ext.new s ha;have hd2:upd H a (.ext (XO qw a C (O dx))) dx=qu:=by rw[U4 hne];exact hd'
    have x2:=x1.trans (Ext.new (o:=.ext (XD dx ((Zq nm).zip vs))) x1.gh hd2);exact⟨_,by rw[eH];exact x2,.exc (dd:=O dx) (vs:=vs) c (by rw[U4 (Ne.symm hne)];exact Kh) ⟨hl.symm,Kh⟩ (r.mono x2.g),by rw[U4 (Ne.symm hne)];exact Kh⟩
   .cases e
end
def Z6(nm:Str)(g:M qx):SM:=sB g λds Z=>match Xs nm ds with|some fs=>.ex Z (exD nm fs)|none=>.bad
section
variable{X:Cx}{B G0:Hp}{KX:XW}{e a b c:Ua}{pos p2 cpos:Pos}{es:qA}{st:Stmt}{sts:List Stmt}{nm x:Str}{k kk n:Nat}
theorem Dc{g:M qx}(mk:MkX X.prog X.w X.K X.mg X.base nm k)(hr:Room kk X.A)(hc:X.calm=qv)(hw:Xk X KX)(hg:Gl X nm)(ha:PA X (e::es) (tDs X.K B G0 g))(hk:k+1<=kk:=by decide)
  (hdb:(nm==("__debug__" : Str))=qw:=by decide) (he:Ud (e::es) X.env=(qw,eval e X.env)::Ud es X.env:=by rfl) (hpl:(backTo cpos (Ud es X.env)).any (·.1)=qw:=by rfl) :
  PS X (.Raise (O (.Call (.Name nm p2) (e::es) [] cpos)) qu pos) (tS X.K B G0 KX (Z6 nm g)):=PS.kin λkin=>by
 obtain⟨C,bm,f,fd,ps,sp,hm,hkp,ck,xc,F,hb,jM⟩:=mk;refine KI (Dy (KC:=λC'=>C'=C) hc (λC' z=>by subst z;exact⟨bm,f,xc _ _ kin⟩) hw (DA (xc _ _ kin) F (hr.mono hk) hg hm hkp hb ha hdb he hpl)) λDn σ H q=>?_
 refine tS.bnd (R:=Reps X.K) q λvs H1 G1 Z1 ds k1 r a=>?_
 cases z:Xs nm ds with
 |none=>rw[z]at a;exact a.elim
 |some fs=>
  rw[z]at a;have ar:=Dd r z;refine⟨?_,λad had=>jM ad vs _ _ Kh ar λdd H' p=>⟨rfl,?_⟩⟩
  .rcases ar with ⟨_,x,rfl⟩|⟨_,hl,_⟩
   .exact(show 1<=Ub by decide)
   .rw[hl]
    unfold Zq;split
    .decide
    .split
     .decide
     .split<;>decide
  .obtain⟨G',ex,rp,hx⟩:=Fc ck k1.gh had r z p
   exact⟨ad,C,dd,rfl,rfl,hx,a (.ref ad) σ G' _ (k1.ext ex) ex.g rp⟩
inductive XR where
 |val (d:D)|exc (d:D)
def spX(K:Frag)(n:Nat)(F:qx->Option XR):Sp:=λvs H Q E=>∃G ds r,vs.length=n/\Same G H/\Reps K G vs ds/\F ds=O r/\match r with
 |.val d=>∀v G' H',Ext G H G' H'->Rep K G' v d->Q v H'
 |.exc d=>∀ad G' H',Ext G H G' H'->Rep K G' (.ref ad) d->E (.ref ad) qu H'
def KL(P:J7)(w:World)(K:Frag)(mg:Str->qC)(base:Heap)(x:Str)(k n:Nat)(F:qx->Option XR):Prop:=
 ∃(f:J8)(fd:J9)(ps:List Str),mg x=O (.ref f)/\PySem.W.keepIn K (.ref f)=qv/\ZL K fd ps []/\FnOk P w K mg base (CX1 P w) k f fd ps (spX K n F)
def aftX(K:Frag)(B G0:Hp)(KX:XW)(r:Res XR)(G:Hp)(σ:St)(Q:VK):Prop:=match r with
 |.ok (.val d) Z=>∀v G' H',EOk K B G0 G' H' σ Z->Same G G'->Rep K G' v d->Q v H'
 |.ok (.exc d) Z=>∀v G' H',EOk K B G0 G' H' σ Z->Same G G'->Rep K G' v d->KX v σ H'
 |.bad=>False
def tX(K:Frag)(B G0:Hp)(KX:XW)(f:M XR):TE:=λσ H Q=>∃G Z,EOk K B G0 G H σ Z/\aftX K B G0 KX (f Z) G σ Q
def Zm(n:Nat)(F:qx->Option XR)(g:M qx):M XR:=UH g λxs=>if xs.length=n then UG (F xs)else λ_=>.bad
theorem Db{F:qx->Option XR}{g:M qx}(d:KL X.prog X.w X.K X.mg X.base x k n F)(hr:Room kk X.A)(hw:Xk X KX)(hg:Gl X x)(ha:PA X (e::es) (tDs X.K B G0 g))(hk:k<=kk:=by decide)(hn:(e::es).length=n:=by rfl)
  (hdb:(x==("__debug__" : Str))=qw:=by decide) (he:Ud (e::es) X.env=(qw,eval e X.env)::Ud es X.env:=by rfl) (hpl:(backTo pos (Ud es X.env)).any (·.1)=qw:=by rfl) :
  PE X (.Call (.Name x p2) (e::es) [] pos) (tX X.K B G0 KX (Zm n F g)):=by
 obtain⟨f,fd,ps,h1,h2,h3,h4⟩:=d;refine UU (Dw h4 (hr.mono hk) hg h1 h2 h3 hw ha hdb he hpl) λσ H Q ⟨G,Z,k0,a⟩=>?_
 refine⟨G,Z,k0,?_⟩;unfold Zm UH at a;cases z:g Z with
 |bad=>rw[z]at a;exact a.elim
 |ok xs Z1=>
  rw[z]at a;dsimp only at a;intro vs G1 H1 k1 s1 r;by_cases hl:xs.length=n
  .rw[Qo hl]at a
   cases zF:F xs with
   |none=>rw[zF]at a;exact a.elim
   |some rr=>
    rw[zF]at a;refine⟨G1,xs,rr,by rw[r.length];exact hl,k1.gh,r,zF,?_⟩;cases rr with
    |val d=>exact λv G' H' ex rv=>a v G' H' (k1.ext ex) (s1.trans ex.g) rv
    |exc d=>intro ad' G' H' ex rv ad ev;cases ev;exact a _ G' H' (k1.ext ex) (s1.trans ex.g) rv
  .rw[Qy hl]at a;exact a.elim
def sX(f:M XR)(g:D->SM):SM:=λZ=>match f Z with
 |.ok (.val d) Z'=>g d Z'
 |.ok (.exc d) Z'=>.ex Z' d
 |.bad=>.bad
theorem tS.bndX{K:Frag}{f:M XR}{g:D->SM}{Dn:Ends}{σ:St}{H:Hp}{P:V->Hp->Prop}(q:tS K B G0 KX (sX f g) Dn σ H)
  (i:∀v H' G' Z' x,EOk K B G0 G' H' σ Z'->Rep K G' v x->aftS K B G0 KX (g x Z') G' Dn->P v H'):tX K B G0 KX f σ H P:=by
 obtain⟨G,Z,k,a⟩:=q;refine⟨G,Z,k,?_⟩;unfold sX at a;cases z:f Z with
 |bad=>rw[z]at a;exact a.elim
 |ok r Z1=>
  rw[z]at a;cases r with
  |val d=>exact λv G' H' e s r=>i v H' G' Z1 d e r (aftS.mono s a)
  |exc d=>exact λv G' H' e s r=>a v σ G' H' e s r
theorem Da{f:M XR}(h:PE X e (tX X.K B G0 KX f))(hs:swapsWith e qu pos.line X.env=pure qw:=by rfl):PS X (.Expr e pos) (tS X.K B G0 KX (sX f λ_ Z=>.nx Z)):=KI (VD h hs) λD σ H q=>tS.bndX q λv H' G' Z' x k r a=>a σ G' H' k (.refl _)
theorem Fb{f:M XR}(h:PE X e (tX X.K B G0 KX f)):PS X (.Return (O e) pos) (tS X.K B G0 KX (sX f λd _=>.rt d)):=KI (PY h) λD σ H q=>tS.bndX q λv H' G' Z' x k r a=>a v G' H' k.exit r
theorem Fa{i:Nat}{y:Str}{f:M XR}(hN:X.N.Nodup)(hi:X.N[i]?=O y)(hx:Loc X.env.scope y)(he:PE X e (tX X.K B G0 KX f))(hs:swapsWith e (O (.Name y p2)) pos.line X.env=pure qw:=by rfl)
  (hf:X.fn y=qv∨X.env.scope.names.lookup y=O .local:=by first|exact .inl rfl|exact .inr rfl|assumption):PS X (.Assign [.Name y p2] e pos) (tS X.K B G0 KX (sX f λd Z=>match gN i d Z with|some Z'=>.nx Z'|none=>.bad)):=
 KI (Ra hN hi hx he hs hf) λD σ H q=>tS.bndX q λv H' G' Z' x k r a=>by
  unfold gN at a;split at a
  .rename_i Z2 hz
   split at hz
   .rename_i hi2
    cases hz;exact a _ G' H' (k.setPub r hi2) (.refl _)
   .cases hz
  .exact a.elim
def KP(N:List Str)(g:SM)(ds:qx):Option XR:=match g (ZI N ds)with
 |.rt d=>O (.val d)
 |.nx _=>O (.val .none)
 |.ex _ d=>if Wl d=qv then O (.exc d)else qu
 |_=>qu
abbrev kxE(E:XK):XW:=λv _ H=>∃e,v=.ref e/\E (.ref e) qu H
theorem okX{P:J7}{w:World}{K:Frag}{mg:Str->qC}{base:Heap}{x qual:Str}{st:Stmt}{f:J8}{fd:J9}{N ps:List Str}{k n:Nat}{g:SM}(F:Fun K x qual st f fd)(S:VC N ps (Kw st))(hn:ps.length=n)
  (der:∀(cdv:J5)(A:Around)(outer:List Env)(s:J6)(H:Hp)(E:XK)(B G0:Hp),Room k (A.deeper (envOfC qual (Kw st) s.heap.objs.size f cdv)) ->
   PSs (KJ (CX1 P w) P w K mg base N qual (Kw st) f cdv A outer s H E) (Zx st) (tS K B G0 (kxE E) g)):FnOk P w K mg base (CX1 P w) (k+1) f fd ps (spX K n (KP N g)):=by
 obtain⟨oc,od,kV,doc,pm,an,cdv,ct,osl,rfl,lk,hcd⟩:=F.ex;refine Pn lk hcd S (λvs H Q E h=>?_) λA outer s H vs Q E hr h=>?_
 .obtain⟨_,_,_,hl,_⟩:=h
  rw[hl,hn]
 .obtain⟨G,ds,r,hl,sg,rp,hF,q⟩:=h
  refine⟨_,der cdv A outer s H E H G hr,G,ZI N ds,O5 sg rp,?_⟩;unfold KP at hF;cases z:g (ZI N ds)with
  |rt d'=>rw[z]at hF;cases hF;exact λv G' H' ex rr=>q v G' H' ex rr
  |nx Z=>rw[z]at hF;cases hF;exact λσ' G' H' k' _=>q .non G' H' k'.exit .non
  |ex Z d=>
   rw[z]at hF;dsimp only at hF;split at hF
   .rename_i hx
    cases hF;intro v σ' G' H' k' _ rv
    obtain⟨ad,rfl⟩:∃ad,v=.ref ad:=by
     cases rv with
     |exc _ _ _ _=>exact⟨_,rfl⟩
     |dct _ _ _ _ _=>exact⟨_,rfl⟩
     |dtt _ _ _ _=>exact⟨_,rfl⟩
     |_=>cases hx
    exact⟨ad,rfl,q ad G' H' k'.exit rv⟩
   .cases hF
  |ro ds=>rw[z]at hF;cases hF
  |bk Z=>rw[z]at hF;cases hF
  |ct Z=>rw[z]at hF;cases hF
  |bad=>rw[z]at hF;cases hF
end
section
variable{K:Frag}{B G0 G H:Hp}{σ:St}{Z:Uw}
theorem EOk.unset{i:Nat}(k:EOk K B G0 G H σ Z):EOk K B G0 G H (σ.set i qu) (Z.set i qu) where
 bh:=k.bh
 gh:=k.gh
 g0:=k.g0
 np:=k.np
 len:=by rw[Jb,Jb];exact k.len
 pub:=λj d' q=>by
  by_cases z:i=j
  .subst z
   have:=Yi q;cases this
  .rw[Qn z]at q⊢
   exact k.pub j d' q
 own:=λj ds q=>by
  by_cases z:i=j
  .subst z
   have:=Yi q;cases this
  .rw[Qn z]at q⊢
   exact k.own j ds q
 sep:=λj l c es fs q1 q2 s1 s2=>by
  have z1:i≠j:=λz=>by subst z;have:=Yi q1;cases this
  have z2:i≠l:=λz=>by subst z;have:=Yi q2;cases this
  rw[Qn z1]at q1 s1;rw[Qn z2]at q2 s2;exact k.sep j l c es fs q1 q2 s1 s2
 dp:=k.dp.setOther (λs e=>by cases e)
end
def CK(K:Frag)(mg:Str->qC)(x:Str):Prop:=∃D bm,mg x=O (.ref D)/\ClsK K x D bm
def Vt(x:Str):D->Bool
 |.dict [(.none,.tuple [.str nm,_])]=>decide (x=nm) || decide (x = "DealError")
 |_=>qw
def Y0(i:Nat)(x:Str)(g h:SM):SM:=λZ=>match g Z with
 |.ex Z1 d=>if Vt x d=qv/\i<Z1.length then(match h (Z1.set i (O (.pub d)))with
  |.nx Z2=>.nx (Z2.set i qu)
  |.bk Z2=>.bk (Z2.set i qu)
  |.ct Z2=>.ct (Z2.set i qu)
  |.rt d2=>.rt d2
  |_=>.bad)else .bad
 |o=>o
section
variable{X:Cx}{B G0:Hp}{KX:XW}{e a b c:Ua}{pos p2 cpos np hpos:Pos}{es:qA}{x n:Str}{k kk:Nat}
theorem Cp{K:Frag}{G:Hp}{v:V}{d:D}{D':J8}{bmD:qz}(r:Rep K G v d)(h:Vt x d=qv)(cD:ClsK K x D' bmD) :
  ∃a C dd bm,v=.ref a/\KC K C bm/\G a=O (.ext (XO qw a C dd))/\(Value.ref C::bm).contains (.ref D')=qv:=by
 unfold Vt at h;split at h
 .obtain⟨a,C,dd,bm,jD,vs,ds,rfl,e0,c,hx,_,_⟩:=r.exc_inv
  cases e0;exact⟨a,C,dd,bm,rfl,⟨_,c⟩,hx,by rw[c.has cD];exact h⟩
 .cases h
theorem L5{i:Nat}{g h:SM}{body suite:List Stmt}{b₀:Stmt}{st:List Env}(cD:CK X.K X.mg x)(hg:Gl X x)(hN:X.N.Nodup)(hi:X.N[i]?=O n)(hl:X.env.kindOf n=O .local)
  (hb:∀(KX':XW)(W:J5->J6->Prop)(pn:List (J8×Obj)),Xk (X.tried W pn) KX'->PSs (X.tried W pn) body (tS X.K B G0 KX' g)) (hs:∀a,PSs (X.suite a) (b₀::suite) (tS X.K B G0 KX0 h))
  (jv:X.stack=X.env::st:=by rfl) (hfr:X.env.frame=O X.env.locals:=by rfl) (hdb:(x==("__debug__" : Str))=qw:=by decide) :
  PS X (.Try body [.ExceptHandler (O (.Name x np)) (O n) (b₀::suite) hpos] [] [] pos) (tS X.K B G0 KX (Y0 i x g h)):=PS.kin λkin=>by
 obtain⟨D',bmD,hm,ck⟩:=cD;obtain⟨fD,xD⟩:=ck.cls (model X.prog X.w) X.base kin;refine KI (GK (KC:=KC X.K) (tb:=λKX'=>tS X.K B G0 KX' g) (ts:=tS X.K B G0 KX0 h) jv hfr (Xv kin) xD hg hm hN hi hl hb hs hdb) λDn σ H ⟨G,Z,k,a⟩=>?_
 refine⟨G,Z,k,?_⟩;unfold Y0 at a;cases z:g Z with
 |nx Z1=>rw[z]at a;exact a
 |rt d=>rw[z]at a;exact a
 |ro ds=>rw[z]at a;exact a
 |bk Z1=>rw[z]at a;exact a
 |ct Z1=>rw[z]at a;exact a
 |bad=>rw[z]at a;exact a.elim
 |ex Z1 d=>
  rw[z]at a;dsimp only at a;intro v σ1 G1 H1 k1 s1 r;by_cases hc:Vt x d=qv/\i<Z1.length
  .rw[Qo hc]at a
   obtain⟨ad,C,dd,bm,rfl,kc,hx,hct⟩:=Cp r hc.1 ck;refine⟨ad,C,dd,bm,rfl,kc,k1.gh _ _ hx,hct,G1,_,k1.setPub r hc.2,?_⟩;cases z2:h (Z1.set i (O (.pub d)))with
   |nx Z2=>rw[z2]at a;exact λσ2 G2 H2 k2 s2=>a _ G2 H2 k2.unset (s1.trans s2)
   |bk Z2=>rw[z2]at a;exact λσ2 G2 H2 k2 s2=>a _ G2 H2 k2.unset (s1.trans s2)
   |ct Z2=>rw[z2]at a;exact λσ2 G2 H2 k2 s2=>a _ G2 H2 k2.unset (s1.trans s2)
   |rt d2=>rw[z2]at a;exact a
   |ex _ _=>rw[z2]at a;exact a.elim
   |ro _=>rw[z2]at a;exact a.elim
   |bad=>rw[z2]at a;exact a.elim
  .rw[Qy hc]at a;exact a.elim
def KQ(x:Str):D->qB
 |.dict [(.none,.tuple [.str nm,_])]=>O (.bool (decide (x=nm) || decide (x = "DealError")))
 |_=>qu
theorem GZ{f:M D}{p3:Pos}(cD:CK X.K X.mg x)(hg:Gl X "isinstance")(hm:X.mg "isinstance" = qu)(jZ:Gl X x)(ha:PE X e (tD X.K B G0 f))(hdb:(x==("__debug__" : Str))=qw:=by decide)
  (hs:Ud [e,.Name x p3] X.env=(qw,eval e X.env)::Ud [.Name x p3] X.env:=by rfl)
  (hs2:Ud [.Name x p3] X.env=[(qw,eval (.Name x p3) X.env)]:=by rfl) :
  PE X (.Call (.Name "isinstance" p2) [e,.Name x p3] [] pos) (tD X.K B G0 (UH f λd=>UG (KQ x d))):=PE.kin λkin=>by
 obtain⟨D',bmD,hm2,ck⟩:=cD;refine UU (WJ (RB (Xv kin)) hg hm R7 (ZG ha (ZG (Rp (v:=.ref D') jZ hm2 qt hdb) YT (by rw[hs2];rfl)) hs) (by decide) (by decide) hs (by rw[hs2];rfl)) λσ H Q q=>?_
 refine tM.one (R:=Rep X.K) q λv H2 G Z d k r a=>?_
 obtain⟨d',e',a'⟩:=aft.opt a;unfold KQ at e';split at e'
 .obtain⟨ad,C,dd,bm,jD,vs,ds,rfl,e0,c,hx,_,_⟩:=r.exc_inv
  cases e0;cases e';exact⟨ad,C,dd,bm,qw,.ref D',_,rfl,⟨_,c⟩,k.gh _ _ hx,.inl ⟨D',bmD,rfl,⟨_,ck⟩,c.has ck⟩,a'.now k (.bl _)⟩
 .cases e'
def WS:D->qB
 |.dict [(.none,_)]=>O (.bool qv)
 |_=>qu
theorem GY:bootBuiltins "ValueError" = O (.type "ValueError"):=by decide +kernel
theorem GX{f:M D}{p3:Pos}(hg:Gl X "isinstance")(hm:X.mg "isinstance" = qu)(jZ:Gl X "ValueError")(hm2:X.mg "ValueError" = qu)(ha:PE X e (tD X.K B G0 f))
  (hs:Ud [e,.Name "ValueError" p3] X.env=(qw,eval e X.env)::Ud [.Name "ValueError" p3] X.env:=by rfl)
  (hs2:Ud [.Name "ValueError" p3] X.env=[(qw,eval (.Name "ValueError" p3) X.env)]:=by rfl) :
  PE X (.Call (.Name "isinstance" p2) [e,.Name "ValueError" p3] [] pos) (tD X.K B G0 (UH f λd=>UG (WS d))):=PE.kin λkin=>by
 refine UU (WJ (RB (Xv kin)) hg hm R7 (ZG ha (ZG (OZ (v:=.ty "ValueError") jZ hm2 GY qt (by decide) (by decide)) YT (by rw[hs2];rfl)) hs) (by decide) (by decide) hs (by rw[hs2];rfl)) λσ H Q q=>?_
 refine tM.one (R:=Rep X.K) q λv H2 G Z d k r a=>?_
 obtain⟨d',e',a'⟩:=aft.opt a;unfold WS at e';split at e'
 .obtain⟨ad,C,dd,bm,jD,vs,ds,rfl,e0,c,hx,_,_⟩:=r.exc_inv
  cases e0;cases e';exact⟨ad,C,dd,bm,qw,.ty "ValueError", qv,rfl,⟨_,c⟩,k.gh _ _ hx,.inr ⟨"ValueError", rfl,OQ,by rw[c.ty];rfl⟩,a'.now k (.bl _)⟩
 .cases e'
def Yo(f:Str):D->qB
 |.dict [(.none,.tuple [.str nm,.list ds])]=>((Zq nm).zip ds).lookup f
 |_=>qu
theorem NX{K:Frag}{G:Hp}{f:Str}:∀{fs:List Str}{vs:List V}{ds:qx}{d:D},Reps K G vs ds->(fs.zip ds).lookup f=O d->f∈fs/\∃v,(fs.zip vs).lookup f=O v/\Rep K G v d
 |[],vs,ds,d,_,e=>by simp at e
 |g::fs,_,_,d,.nil,e=>by simp at e
 |g::fs,_,_,d,@Reps.cons _ _ v d0 vs ds r t,e=>by
  rw[List.zip_cons_cons,QO]at e;rw[List.zip_cons_cons,QO];cases z:f==g with
  |true=>rw[z]at e;cases e;exact⟨by rw[beq_iff_eq.mp z];exact Qp,v,rfl,r⟩
  |false=>rw[z]at e;obtain⟨h1,h2⟩:=NX t e;exact⟨Qu _ h1,h2⟩
theorem E9{f:M D}{fl:Str}(he:PE X e (tD X.K B G0 f))(hb:attributeBase e fl X.env (eval e X.env)=eval e X.env:=by rfl)(hq:fl∈(["part", "number", "row"]:List Str):=by decide) :
  PE X (.Attribute e fl pos) (tD X.K B G0 (UH f λd=>UG (Yo fl d))):=PE.kin λkin=>by
 refine UU (EJ (Xv kin) (λC bm ⟨nm,c⟩=>c.fld _ _ kin fl hq) he hb) λσ H Q q=>?_;refine tM.one (R:=Rep X.K) q λv H2 G Z d k r a=>?_
 obtain⟨d',e',a'⟩:=aft.opt a;unfold Yo at e';split at e'
 .obtain⟨ad,C,dd,bm,jD,vs,ds,rfl,rfl',c,hx,hd,rr⟩:=r.exc_inv
  cases rfl';obtain⟨hm,w,e1,rw⟩:=NX rr e';cases dd with
  |none=>rw[hd.1]at hm;cases hm
  |some dx=>exact⟨ad,C,bm,dx,_,w,qw,rfl,⟨_,c⟩,k.gh _ _ hx,k.gh _ _ hd.2,e1,a'.now k rw⟩
 .cases e'
end
def Tu(o:Ua)(name:Str)(apos:Pos)(args:qA)(pos:Pos):Prop:=∀env:Env,∃pl:Sem Bool,eval (.Call (.Attribute o name apos) args [] pos) env=(do
   let ov ←eval o env
   standAt apos.atName
   let (f,first) ←holding [ov] (getMethod ov name pl)
   callWith pos f first (backTo pos (Ud args env)) (backToKw pos (keywordEach [] env)))
section
variable{P:J7}{w:World}{K:Frag}{mg:Str->qC}{base:Heap}{st:Stmt}{f f0 D:J8}{fd kO:J9}{q:Str}{p1 p2 p3 p4 p5 p6 p7 p8 p9 r1 r2 r3 r4 r5 r6 r7 r8 r9 q1 q2:Pos}{j1 j2:Nat}
theorem FW(F:Fun K "__init__" q st f fd)(hn:FnNm (Kw st) ["self", "text"] ["ValueError"])(hm:mg "ValueError" = qu)
  (hb:Zx st=[.Expr (.Call (.Attribute (.Name "ValueError" p1) "__init__" p2) [.Name "self" p3,.Name "text" p4] [] p5) p6])
  (ht:Tu (.Name "ValueError" p1) "__init__" p2 [.Name "self" p3,.Name "text" p4] p5) :
  FnOk P w K mg base CX0 1 f fd ["self", "text"] (VA (KC K)):=by
 refine F.ok (fq hn 2) (λvs H Q E ⟨a,C,dd,bm,x,e,_⟩=>by rw[e];rfl) λcdv A outer s H vs Q E hr ⟨a,C,dd,bm,x,e,kc,hx,hq⟩=>?_
 subst e;rw[hb];obtain⟨pl,ht⟩:=ht (KJ CX0 P w K mg base ["self", "text"] q (Kw st) f cdv A outer s H E).nox.env;refine⟨TC (Of (KC K) (Wy (Kg 0) (Wy (Kg 1) XM))),PSs.kin λkin=>Sd (VD (Dv (pl:=pl) (Xv kin) (gq hn 0) hm (ZG (pq hn 0) (ZG (pq hn 1) YT)) (ht:=ht))),?_⟩;exact⟨_,rfl,_,rfl,a,C,dd,bm,_,rfl,kc,hx,hq⟩
theorem Zv(x y:Str):(x++y).length=x.length+y.length:=by
 show(x.cps++y.cps).size=x.cps.size+y.cps.size
 exact Array.size_append
theorem FV{t1 t2:Str}(M:V1 K D "__init__" f0)(F0:FnOk P w K mg base CX0 1 f0 kO ["self", "text"] (VA (KC K)))(hb0:ZL K kO ["self", "text"] [])(hm:mg "DealError" = O (.ref D))
  (F:Fun K "__init__" q st f fd) (hn:FnNm (Kw st) ["self", "part", "number"] ["DealError"])
  (hb:Zx st=[.Expr (.Call (.Attribute (.Name "DealError" p1) "__init__" p2) [.Name "self" p3,.JoinedStr [.Constant (.str t1) j1 p4,.FormattedValue (.Name "part" p5) (-1) qu p6,.Constant (.str t2) j2 p7,.FormattedValue (.Name "number" p8) (-1) qu p9] r1] [] r2) r3,
   .Assign [.Attribute (.Name "self" r4) "part" r5] (.Name "part" r6) r7,.Assign [.Attribute (.Name "self" r8) "number" r9] (.Name "number" q1) q2])
  (ht:Tu (.Name "DealError" p1) "__init__" p2 [.Name "self" p3,.JoinedStr [.Constant (.str t1) j1 p4,.FormattedValue (.Name "part" p5) (-1) qu p6,.Constant (.str t2) j2 p7,.FormattedValue (.Name "number" p8) (-1) qu p9] r1] r2)
  (hl1:t1.length<=1000) (hl2:t2.length<=1000) :
  FnOk P w K mg base CX0 2 f fd ["self", "part", "number"] (Sc (KC K) ["part", "number"]):=by
 refine F.ok (fq hn 3) (λvs H Q E ⟨a,C,bm,us,e,hl,_⟩=>by rw[e,QC,hl];rfl) λcdv A outer s H vs Q E hr ⟨a,C,bm,us,e,hl,kc,hx,hf,hq⟩=>?_
 subst e
 match us,hl with
 |[u1,u2],_=>
 rw[hb];obtain⟨pl,ht⟩:=ht (KJ CX0 P w K mg base ["self", "part", "number"] q (Kw st) f cdv A outer s H E).nox.env;obtain⟨y1,f1,g1⟩:=hf u1 (by simp);obtain⟨y2,f2,g2⟩:=hf u2 (by simp)
 refine⟨XJ (TC (Tz (VA (KC K)) [] E0 (Wy (Kg 0) (Wy (V0 [tC (.str t1),XN (Kg 1),tC (.str t2),XN (Kg 2)] Str.empty) XM)))) (XJ (TN (KC K) (Kg 0) (Kg 1) "part") (TN (KC K) (Kg 0) (Kg 2) "number")),
  PSs.kin λkin=>Sk (VD (O8 (pl:=pl) M F0 hr hb0 (gq hn 0) hm (ZG (pq hn 0) (ZG (NZ (.cons TX (.cons (SX (pq hn 1)) (.cons TX (.cons (SX (pq hn 2)) .nil))))) YT)) (ht:=ht)))
   (Sk (Rm (Xv kin) (λC bm ⟨nm,c⟩=>c.fld _ _ kin "part" (by decide)) (pq hn 0) (pq hn 1) qt) (Sd (Rm (Xv kin) (λC bm ⟨nm,c⟩=>c.fld _ _ kin "number" (by decide)) (pq hn 0) (pq hn 2) qt))),?_⟩
 have e0:(Str.empty:Str).length=0:=rfl;have lz:(10000:Nat)<=Ub:=by decide
 refine⟨_,rfl,t1,rfl,by rw[Zv];omega,_,rfl,y1,f1,_,rfl,by rw[Zv,Zv];omega,t2,rfl,by rw[Zv,Zv,Zv];omega,_,rfl,y2,f2,_,rfl,by rw[Zv,Zv,Zv,Zv];omega,by rw[Zv,Zv,Zv,Zv];omega,?_⟩;refine⟨a,C,qu,bm,_,rfl,kc,hx,?_⟩;refine⟨_,rfl,_,rfl,a,C,bm,rfl,kc,.inl ⟨hx,λdx hd hne=>?_⟩⟩;refine⟨_,rfl,_,rfl,a,C,bm,rfl,kc,.inr ⟨dx,_,hne,by rw[U4 (Ne.symm hne)];exact Kh,Kh,(show 1<900 by decide),?_⟩⟩;rw[O0];exact hq dx hd hne
theorem FT{t1 g:Str}(M:V1 K D "__init__" f0)(F0:FnOk P w K mg base CX0 1 f0 kO ["self", "text"] (VA (KC K)))(hb0:ZL K kO ["self", "text"] [])(hm:mg "DealError" = O (.ref D))
  (F:Fun K "__init__" q st f fd) (hn:FnNm (Kw st) ["self", g] ["DealError"]) (hg:g∈(["part", "number", "row"]:List Str)) (hd1:(g==("__debug__" : Str))=qw:=by decide) (hd2:(g==("__classdict__" : Str))=qw:=by decide)
  (hb:Zx st=[.Expr (.Call (.Attribute (.Name "DealError" p1) "__init__" p2) [.Name "self" p3,.JoinedStr [.Constant (.str t1) j1 p4,.FormattedValue (.Name g p5) (-1) qu p6] r1] [] r2) r3,
   .Assign [.Attribute (.Name "self" r4) g r5] (.Name g r6) r7])
  (ht:Tu (.Name "DealError" p1) "__init__" p2 [.Name "self" p3,.JoinedStr [.Constant (.str t1) j1 p4,.FormattedValue (.Name g p5) (-1) qu p6] r1] r2)
  (hl1:t1.length<=1000) :
  FnOk P w K mg base CX0 2 f fd ["self", g] (Sc (KC K) [g]):=by
 refine F.ok (fq hn 2) (λvs H Q E ⟨a,C,bm,us,e,hl,_⟩=>by rw[e,QC,hl];rfl) λcdv A outer s H vs Q E hr ⟨a,C,bm,us,e,hl,kc,hx,hf,hq⟩=>?_
 subst e
 match us,hl with
 |[u1],_=>
 rw[hb];obtain⟨pl,ht⟩:=ht (KJ CX0 P w K mg base ["self", g] q (Kw st) f cdv A outer s H E).nox.env;obtain⟨y1,f1,g1⟩:=hf u1 (by simp);have v1:∀{pos:Pos},PE (KJ CX0 P w K mg base ["self", g] q (Kw st) f cdv A outer s H E).nox (.Name g pos) (Kg 1):=pq hn 1 qt hd1 hd2
 refine⟨XJ (TC (Tz (VA (KC K)) [] E0 (Wy (Kg 0) (Wy (V0 [tC (.str t1),XN (Kg 1)] Str.empty) XM)))) (TN (KC K) (Kg 0) (Kg 1) g),
  PSs.kin λkin=>Sk (VD (O8 (pl:=pl) M F0 hr hb0 (gq hn 0) hm (ZG (pq hn 0) (ZG (NZ (.cons TX (.cons (SX v1) .nil))) YT)) (ht:=ht)))
   (Sd (Rm (Xv kin) (λC bm ⟨nm,c⟩=>c.fld _ _ kin g hg) (pq hn 0) v1 qt)),?_⟩
 have e0:(Str.empty:Str).length=0:=rfl;have lz:(10000:Nat)<=Ub:=by decide
 refine⟨_,rfl,t1,rfl,by rw[Zv];omega,_,rfl,y1,f1,_,rfl,by rw[Zv,Zv];omega,by rw[Zv,Zv];omega,?_⟩;refine⟨a,C,qu,bm,_,rfl,kc,hx,?_⟩;exact⟨_,rfl,_,rfl,a,C,bm,rfl,kc,.inl ⟨hx,λdx hd hne=>hq dx hd hne⟩⟩
end
structure XSt(h:Heap)(nm:Str)(own:Option Stmt)(C N:J8)(bm:qz)(mN:Str->qC):Prop where
 ad:h.nsMap mainGlobals nm=O (.ref C)
 obj:∃q bs sn sub ab col dd k0 k1 k2 k3 k5,h.get? C=O (excClassObj nm q C N bs bm qv sn sub ab col dd k0 k1 k2 k3 k5 "ValueError.__new__")
 ns:h.Ns N mN
 quiet:∀x∈Rb,mN x=qu
 up:nm = "DealError" /\ bm=VB∨nm ≠ "DealError" /\ ∃D,h.nsMap mainGlobals "DealError" = O (.ref D)/\bm=.ref D::VB
 init:match own with
  |none=>mN "__init__" = qu
  |some st=>∃f o pm cd doc,mN "__init__" = O (.ref f)/\h.get? f=O o/\o.cls=.type "function" /\ o.data=.func (methDef "__init__" (Wn nm) (YZ st) (Zx st) (Kw st) pm cd doc)/\h.CodeRec cd (Wn nm)
section
variable{h h':Heap}{nm:Str}{own:Option Stmt}{C N:J8}{bm:qz}{mN:Str->qC}
theorem Mh{a:J8}{x:Str}{v:J5}(e:h.nsMap a x=O v)(k:∀b o,h.get? b=O o->h'.get? b=O o):h'.nsMap a x=O v:=by
 unfold Heap.nsMap at e⊢;cases z:h.get? a with
 |none=>rw[z]at e;cases e
 |some o=>rw[k _ _ z];rw[z]at e;exact e
theorem XSt.keeps(x:XSt h nm own C N bm mN)(k:∀b o,h.get? b=O o->h'.get? b=O o):XSt h' nm own C N bm mN where
 ad:=Mh x.ad k
 obj:=let ⟨q,bs,sn,sub,ab,col,dd,k0,k1,k2,k3,k5,e⟩:=x.obj;⟨q,bs,sn,sub,ab,col,dd,k0,k1,k2,k3,k5,k _ _ e⟩
 ns:=x.ns.keeps k
 quiet:=x.quiet
 up:=x.up.imp id λ⟨a,D,b,c⟩=>⟨a,D,Mh b k,c⟩
 init:=by
  have z:=x.init;cases own with
  |none=>exact z
  |some st=>obtain⟨f,o,pm,cd,doc,h1,h2,h3,h4,h5⟩:=z;exact⟨f,o,pm,cd,doc,h1,k _ _ h2,h3,h4,h5.keeps k⟩
theorem dA(st:Stmt):PD st=YZ st:=by cases st<;>rfl
theorem dB(st:Stmt):PB st=Zx st:=by cases st<;>rfl
theorem dS(st:Stmt):P6 st=Kw st:=by cases st<;>rfl
structure XYP(p:J7)(l:XL0)(h:Heap):Prop where
 st:∃mc,h.Ns cStatics mc/\mc "thirdparty.any" = qu
 cl:∀c∈l,∃C N bm mN,XSt h c.1 (c.2.map λi=>Yh (U2 p i)) C N bm mN
theorem XYP.keeps{p:J7}{l:XL0}(x:XYP p l h)(k:∀b o,h.get? b=O o->h'.get? b=O o):XYP p l h':=
 ⟨let ⟨mc,a,b⟩:=x.st;⟨mc,a.keeps k,b⟩,λc hc=>let ⟨C,N,bm,mN,z⟩:=x.cl c hc;⟨C,N,bm,mN,z.keeps k⟩⟩
theorem L4{st:Stmt}{n:Bool}(b:xB h nm n=qv)(hown:own=qu->n=qw)(hs:∀st,own=O st->xSh h nm=O (qv,WR nm st)):∃C N bm mN,XSt h nm own C N bm mN:=by
 unfold xB at b;split at b
 .rename_i C hC
  split at b
  .rename_i t dd cd sl ho
   simp only[Qx,JN,beq_iff_eq,Bool.or_eq_true,Q2,Option.isNone_iff_eq_none]at b;obtain⟨⟨⟨⟨⟨⟨⟨⟨b1,b2⟩,b3⟩,b4⟩,b5⟩,b6⟩,b7⟩,b8⟩,b9⟩:=b;obtain⟨cn,cb,cm,cns,cq,chd,csn,csub,cab,ccol,cdel⟩:=cd;simp only at b2 b3 b4 b6 b7 b8 b9;subst b1 b2 b3 b4;split at b5
   .rename_i k0 k1 k2 k3 k4 k5 hsl
    have b5:=Qa b5;subst b5;have hsl':sl=#[k0,k1,k2,k3,O (.builtin "ValueError.__new__"),k5]:=by rw[←Array.toList_inj,hsl]
    subst hsl'
    have key:∃bm,cm=.ref C::bm/\(cn = "DealError" /\ bm=VB∨cn ≠ "DealError" /\ ∃D,h.nsMap mainGlobals "DealError" = O (.ref D)/\bm=.ref D::VB):=by
     split at b9
     .rename_i e
      exact⟨VB,Qa b9,.inl ⟨e,rfl⟩⟩
     .rename_i e
      split at b9
      .rename_i D hD
       exact⟨.ref D::VB,Qa b9,.inr ⟨e,D,hD,rfl⟩⟩
      .cases b9
    obtain⟨bm,rfl,up⟩:=key;refine⟨C,cns,bm,h.nsMap cns,hC,⟨_,_,_,_,_,_,_,_,_,_,_,_,ho⟩,.of_isNs b6,b7,up,?_⟩;cases own with
    |none=>
     rcases b8 with b8|b8
     .rw[hown qt]at b8;cases b8
     .exact b8
    |some st=>
     have e:=hs st qt;unfold xSh at e;rw[hC]at e;dsimp only at e;rw[ho]at e;dsimp only at e;split at e
     .rename_i a o fd sh hf hsh
      simp only[Option.some.injEq,Prod.mk.injEq,QU]at e;obtain⟨e1,rfl⟩:=e;obtain⟨g1,g2,g3⟩:=Heap.fnAt_spec hf;unfold Heap.shapeAt at hsh;rw[hf]at hsh;obtain⟨n,q,ps,b,sc,g,cl,df,kd,doc,pm,an,code,ct,bi⟩:=fd;simp only[Option.map_some,WR,dA,dB,dS,Option.some.injEq,FnShape.mk.injEq]at hsh;obtain⟨rfl,rfl,rfl,rfl,rfl,rfl,rfl,rfl,rfl,rfl,rfl,rfl,hc⟩:=hsh;exact⟨a,o,pm,code,doc,g1,g2,e1,g3,.of_ok hc⟩
     .cases e
   .cases b5
  .cases b
 .cases b
theorem L0{p:J7}{l:XL0}{s:J6}(e:xSeen l s=xGood p l):XYP p l s.heap:=by
 unfold xSeen xGood at e;obtain⟨e1,e2⟩:=Prod.mk.inj e;obtain⟨e1,e3⟩:=Bool.and_eq_true_iff.mp e1;refine⟨⟨_,.of_isNs e1,Option.isNone_iff_eq_none.mp e3⟩,λc hc=>?_⟩;have q:=List.map_inj_left.mp e2 c hc;obtain⟨q1,q2⟩:=Prod.mk.inj q;refine L4 (st:=.Pass ⟨0,0,0,0⟩) q1 (λz=>?_) λst z=>?_
 .cases hz:c.2 with
  |none=>rfl
  |some i=>rw[hz]at z;cases z
 .cases hz:c.2 with
  |none=>rw[hz]at z;cases z
  |some i=>rw[hz]at z q2;cases z;exact q2
end
theorem P9:mroOf (.type "ValueError")=pure VB:=by kernel_rfl
theorem LV:typeLookup (.type "ValueError") "__setattr__" = pure (O (.builtin "object.__setattr__")):=by kernel_rfl
theorem LU:typeLookup (.type "ValueError") "__getattribute__" = pure (O (.builtin "BaseException.__getattribute__")):=by kernel_rfl
theorem LS:typeLookup (.type "ValueError") "__getattr__" = pure qu:=by kernel_rfl
theorem LR:typeLookup (.type "ValueError") "__class__" = pure (O (.builtin "object.__class__")):=by kernel_rfl
theorem FS:typeLookup (.type "ValueError") "part" = pure qu:=by kernel_rfl
theorem Co:typeLookup (.type "ValueError") "number" = pure qu:=by kernel_rfl
theorem LZ:typeLookup (.type "ValueError") "row" = pure qu:=by kernel_rfl
theorem On(v:J5):refuseLoop v "__setattr__" VB=pure ():=by kernel_rfl
section
variable{h h':Heap}{nm:Str}{own ownD:Option Stmt}{C N D ND:J8}{bm:qz}{mN mD:Str->qC}{M:Model}
theorem XSt.along(x:XSt h nm own C N bm mN)(xD:XSt h "DealError" ownD D ND VB mD){y:Str}{r:qC}(hy:y∈Rb)(hB:typeLookup (.type "ValueError") y=pure r):Ky M C y r h:=by
 obtain⟨q,bs,sn,sub,ab,col,dd,k0,k1,k2,k3,k5,e⟩:=x.obj;obtain⟨q',bs',sn',sub',ka,col',jj,k0',k1',k2',k3',k5',e'⟩:=xD.obj;refine Ky.of e (Yc.miss e x.ns (x.quiet y hy) ?_);rcases x.up with ⟨_,rfl⟩|⟨_,D',q9,rfl⟩
 .exact Yc.base P9 hB
 .have:=q9.symm.trans xD.ad
  cases this;exact Yc.miss e' xD.ns (xD.quiet y hy) (Yc.base P9 hB)
theorem XSt.tail(x:XSt h nm own C N bm mN):Tail VB bm:=by
 rcases x.up with ⟨_,rfl⟩|⟨_,D',_,rfl⟩
 .exact Tail.base
 .exact Tail.own Tail.base
def Tt(h:Heap)(own ownD:Option Stmt)(mN mD:Str->qC)(nm:Str)(f:J8):Prop:=match own with
 |some _=>mN "__init__" = O (.ref f)
 |none=>mD "__init__" = O (.ref f)
theorem XSt.xcls(x:XSt h nm own C N bm mN){std:Stmt}(xD:XSt h "DealError" (O std) D ND VB mD){f:J8}(hf:Tt h own (O std) mN mD nm f):XCls M h C bm f:=by
 have hD:=xD.init;obtain⟨fD,oD,pmD,cdD,docD,g1,g2,g3,g4,g5⟩:=hD;obtain⟨q,bs,sn,sub,ab,col,dd,k0,k1,k2,k3,k5,e⟩:=id x.obj;obtain⟨q',bs',sn',sub',ka,col',jj,k0',k1',k2',k3',k5',e'⟩:=id xD.obj
 have fin:Ky M C "__init__" (O (.ref f)) h/\∃o,h.get? f=O o/\o.cls=.type "function" :=by
  have z:=x.init;unfold Tt at hf;cases own with
  |some st=>obtain⟨f',o,pm,cd,doc,h1,h2,h3,h4,h5⟩:=z;have hf:mN "__init__" = O (.ref f):=hf;rw[h1]at hf;cases hf;exact⟨Ky.of e (Yc.hit e x.ns h1),o,h2,h3⟩
  |none=>
   have hf:mD "__init__" = O (.ref f):=hf;have z:mN "__init__" = qu:=z;rw[g1]at hf;cases hf;refine⟨Ky.of e (Yc.miss e x.ns z ?_),oD,g2,g3⟩;rcases x.up with ⟨hn,rfl⟩|⟨_,D',q9,rfl⟩
   .subst hn
    have:=x.ad.symm.trans xD.ad;cases this;rw[e]at e';cases e';have:=x.ns.eq_nsMap.trans xD.ns.eq_nsMap.symm;rw[this]at z;rw[g1]at z;cases z
   .have:=q9.symm.trans xD.ad
    cases this;exact Yc.hit e' xD.ns g1
 refine⟨⟨nm,q,N,bs,sn,sub,ab,col,dd,k0,k1,k2,k3,k5,e⟩,x.tail,fin.1,fin.2,x.along xD (by decide) LV,x.along xD (by decide) LU,x.along xD (by decide) LS,x.along xD (by decide) LR,λv=>?_⟩;rcases x.up with ⟨_,rfl⟩|⟨_,D',_,rfl⟩
 .exact On v
 .rw[refuseLoop_ref];exact On v
theorem VU(k:(whole h).In h'):∀b o,h.get? b=O o->h'.get? b=O o:=λb o e=>k b o (by rw[ZK];exact e)
theorem RS{mA:Str->qC}{a:J8}(n:h.Ns a mA)(y:Str):PySem.W.nsIn (whole h) a y=O (mA y):=by
 obtain⟨⟨oc,od,dt,os⟩,es,ep,ho,hd,hk,hf⟩:=n;have hd:dt=_:=hd;subst hd;unfold PySem.W.nsIn;rw[ZK,ho];dsimp only;have:=hf y;unfold nsFind findBy at this;rw[←Array.find?_toList]at this;dsimp only at this;rw[←this];cases z:es.toList.find? (·.key.isStr y)with
 |some e=>rfl
 |none=>
  dsimp only;rw[Qy]
  .rfl
  .rw[List.any_eq_true]
   rintro⟨e,he,hr⟩;obtain⟨n,t,hk⟩:=hk e (Array.mem_toList_iff.mp he);unfold DictEntry.refKey at hr;rw[hk]at hr;cases hr
theorem XSt.nmd(x:XSt h nm own C N bm mN):NmAt (whole h) nm C:=by obtain⟨q,bs,sn,sub,ab,col,dd,k0,k1,k2,k3,k5,e⟩:=x.obj;exact⟨_,_,by rw[ZK];exact e,rfl,rfl⟩
theorem Mt{mg:Str->qC}(n:h.Ns mainGlobals mg)(e:h.nsMap mainGlobals nm=O (.ref C)):TM (whole h) nm=O C:=by unfold TM;rw[RS n,n.eq_nsMap,e]
theorem XSt.clsK{mg:Str->qC}(n:h.Ns mainGlobals mg)(x:XSt h nm own C N bm mN){std:Stmt}(xD:XSt h "DealError" (O std) D ND VB mD){f:J8}(hf:Tt h own (O std) mN mD nm f):ClsK (whole h) nm C bm where
 ad:=Mt n x.ad
 nmd:=x.nmd
 up:=x.up.imp id λ⟨a,D',b,c⟩=>⟨a,D',Mt n b,c,by have:=b.symm.trans xD.ad;cases this;exact xD.nmd⟩
 cls:=λM h' k=>⟨f,(x.keeps (VU k)).xcls (xD.keeps (VU k)) (by unfold Tt at hf⊢;cases own<;>exact hf)⟩
 fld:=λM h' k y hy=>by
  have z:=x.keeps (VU k);have zD:=xD.keeps (VU k);simp only[QL,List.not_mem_nil,or_false]at hy;rcases hy with rfl|rfl|rfl
  .exact z.along zD (by decide) FS
  .exact z.along zD (by decide) Co
  .exact z.along zD (by decide) LZ
theorem XSt.keep(x:XSt h nm own C N bm mN):PySem.W.keepIn (whole h) (.ref C)=qv:=by obtain⟨q,bs,sn,sub,ab,col,dd,k0,k1,k2,k3,k5,e⟩:=x.obj;unfold PySem.W.keepIn;dsimp only;rw[ZK,e];dsimp only;unfold PySem.W.specialIn PySem.W.typeIn;dsimp only;rw[ZK,e];kernel_rfl
theorem XSt.fun{st:Stmt}(x:XSt h nm (O st) C N bm mN):∃f fd,mN "__init__" = O (.ref f)/\Fun (whole h) "__init__" (Wn nm) st f fd:=by
 obtain⟨f,⟨oc,od,dt,osl⟩,pm,cd,doc,h1,h2,h3,h4,h5⟩:=x.init;have h4:dt=_:=h4;subst h4;refine⟨f,_,h1,⟨⟨oc,od,.none,doc,pm,_,cd,_,osl,rfl,by rw[ZK];exact h2,?_⟩,?_⟩⟩
 .obtain⟨c,⟨_,_,dc,_⟩,vs,t,rfl,g1,g2,g3⟩:=h5
  have g2:dc=_:=g2;subst g2;unfold PySem.W.codeIn;dsimp only;rw[ZK,g1];dsimp only;have g4:vs.toList[1]?=O (.str (Wn nm) t):=by rw[Array.getElem?_toList];exact g3
  cases hv:vs.toList with
  |nil=>rw[hv]at g4;cases g4
  |cons v0 r=>
   rw[hv]at g4;cases r with
   |nil=>cases g4
   |cons v1 r=>cases g4;exact beq_self_eq_true _
 .unfold PySem.W.keepIn
  dsimp only;rw[ZK,h2]
theorem tf1{K:Frag}:PySem.W.findIn K (.type "type") "__init__" = O (O (.builtin "type.__init__")):=by kernel_rfl
theorem tf2{K:Frag}:PySem.W.specialIn K (.builtin "type.__init__") "__get__" = O (O (.builtin "wrapper_descriptor.__get__")):=by kernel_rfl
theorem tf3{K:Frag}:PySem.W.takesIn K (.builtin "type.__init__")=O qw:=by kernel_rfl
theorem tf4{K:Frag}:PySem.W.findIn K (.type "type") "__getattribute__" = O (O (.builtin "type.__getattribute__")):=by kernel_rfl
theorem tf5{K:Frag}:PySem.W.subIn K (.type "type") (.type "type")=O qv:=by kernel_rfl
theorem XSt.clsFn{st:Stmt}(x:XSt h "DealError" (O st) D ND VB mD)(hs:∃mc,h.Ns cStatics mc/\mc "thirdparty.any" = qu){f:J8}(hf:mD "__init__" = O (.ref f)):V1 (whole h) D "__init__" f:=by
 obtain⟨f',o,pm,cd,doc,h1,h2,h3,h4,h5⟩:=x.init;rw[h1]at hf;cases hf;obtain⟨q,bs,sn,sub,ab,col,dd,k0,k1,k2,k3,k5,e⟩:=x.obj;obtain⟨mc,hc1,hc2⟩:=hs;have tD:PySem.W.typeIn (whole h) (.ref D)=O (.type "type"):=by unfold PySem.W.typeIn;dsimp only;rw[ZK,e];rfl
 have tf:PySem.W.typeIn (whole h) (.ref f)=O (.type "function"):=by unfold PySem.W.typeIn;dsimp only;rw[ZK,h2];exact JO O h3
 refine⟨?_,?_,?_,?_⟩
 .unfold PySem.W.specialIn
  rw[tD];exact tf4 (K:=whole h)
 .unfold PySem.W.readsIn
  rw[RS hc1,hc2,tD,tf4,tf5];rfl
 .unfold PySem.W.findCls
  rw[tf1];dsimp only[Option.bind_some];rw[tf2];dsimp only[Option.bind_some];rw[tf3];dsimp only[Option.bind_some];have hfi:PySem.W.findIn (whole h) (.ref D) "__init__" = O (O (.ref f)):=by unfold PySem.W.findIn;dsimp only;rw[ZK,e];dsimp only;unfold PySem.W.alongIn PySem.W.ownIn;dsimp only;rw[ZK,e];dsimp only;rw[RS x.ns,h1]
  rw[hfi];dsimp only[Option.bind_some];rw[Qy (show ¬Builtin.heldUnderItsOwnName "__init__" (.ref f)=qv from λz=>by cases z),tf];rfl
 .unfold PySem.W.keepIn
  dsimp only;rw[ZK,h2];obtain⟨oc,od,dt,osl⟩:=o;have h4:dt=_:=h4;subst h4;rfl
end
section
variable{h:Heap}{mg:Str->qC}{p:J7}{l:XL0}{i j:Nat}{c:Str×Option Nat}{p1 p2 p3 p4 p5 p6 p7 p8 p9 r1 r2 r3 r4 r5 r6 r7 r8 r9 q1 q2:Pos}{j1 j2:Nat}
structure Root(p:J7)(h:Heap)(mg:Str->qC)(i:Nat)(D f:J8)(fd:J9):Prop where
 at':mg "DealError" = O (.ref D)
 ex:∃ND mD,XSt h "DealError" (O (Yh (U2 p i))) D ND VB mD/\mD "__init__" = O (.ref f)
 cf:V1 (whole h) D "__init__" f
 bd:ZL (whole h) fd ["self", "text"] []
 ok:∀(P:J7)(w:World)(base:Heap),FnOk P w (whole h) mg base CX0 1 f fd ["self", "text"] (VA (KC (whole h)))
theorem XSt.root{own:Option Stmt}{C N:J8}{bm:qz}{mN:Str->qC}(x:XSt h "DealError" own C N bm mN):bm=VB:=by
 rcases x.up with ⟨_,rfl⟩|⟨z,_⟩
 .rfl
 .exact absurd qt z
theorem FR(n:h.Ns mainGlobals mg)(Y:XYP p l h)(hD:(((("DealError" : Str),O i):Str×Option Nat)∈l))(hm:mg "ValueError" = qu)(hn:FnNm (Kw (Yh (U2 p i))) ["self", "text"] ["ValueError"])
  (hb:Zx (Yh (U2 p i))=[.Expr (.Call (.Attribute (.Name "ValueError" p1) "__init__" p2) [.Name "self" p3,.Name "text" p4] [] p5) p6])
  (ht:Tu (.Name "ValueError" p1) "__init__" p2 [.Name "self" p3,.Name "text" p4] p5)
  (hbz:∀(kV doc pm:J5)(an:qG)(cdv ct:J5)(us:qz),us.length=(["self", "text"]:List Str).length->bindArgs (PySem.W.fnOf "__init__" (Wn "DealError") (YZ (Yh (U2 p i))) (Zx (Yh (U2 p i))) (Kw (Yh (U2 p i))) .none kV doc pm an cdv ct) ⟨us,[]⟩=pure ((["self", "text"]:List Str).zip us)) :
  ∃D f fd,Root p h mg i D f fd:=by
 obtain⟨D,ND,bm,mD,x⟩:=Y.cl _ hD;have:=x.root;subst this;obtain⟨f,fd,hf,FU⟩:=XSt.fun (st:=Yh (U2 p i)) x;exact⟨D,f,fd,by rw[n.eq_nsMap];exact x.ad,⟨ND,mD,x,hf⟩,XSt.clsFn (st:=Yh (U2 p i)) x Y.st hf,FU.binds hbz,λP w base=>FW FU hn hm hb ht⟩
theorem Yw(n:h.Ns mainGlobals mg)(Y:XYP p l h){D f:J8}{fd:J9}(R:Root p h mg i D f fd)(hc:c∈l):CK (whole h) mg c.1:=by
 obtain⟨C,N,bm,mN,x⟩:=Y.cl _ hc;obtain⟨ND,mD,xD,hf⟩:=R.ex;cases hz:c.2 with
 |none=>rw[hz]at x;exact⟨C,bm,by rw[n.eq_nsMap];exact x.ad,XSt.clsK n x xD (f:=f) hf⟩
 |some k=>rw[hz]at x;obtain⟨f',o,pm,cd,doc,h1,h2⟩:=x.init;exact⟨C,bm,by rw[n.eq_nsMap];exact x.ad,XSt.clsK n x xD (f:=f') h1⟩
theorem P8(n:h.Ns mainGlobals mg)(Y:XYP p l h){D f:J8}{fd:J9}(R:Root p h mg i D f fd){nm:Str}(hc:(nm,O j)∈l)(hf:Zq nm≠[]){ps:List Str}(P:J7)(w:World)(base:Heap)
  (hbz:∀(kV doc pm:J5)(an:qG)(cdv ct:J5)(us:qz),us.length=ps.length->bindArgs (PySem.W.fnOf "__init__" (Wn nm) (YZ (Yh (U2 p j))) (Zx (Yh (U2 p j))) (Kw (Yh (U2 p j))) .none kV doc pm an cdv ct) ⟨us,[]⟩=pure (ps.zip us))
  (ok:∀{f':J8}{fd':J9},Fun (whole h) "__init__" (Wn nm) (Yh (U2 p j)) f' fd'->FnOk P w (whole h) mg base CX0 2 f' fd' ps (Sc (KC (whole h)) (Zq nm))):MkX P w (whole h) mg base nm 2:=by
 obtain⟨C,N,bm,mN,x⟩:=Y.cl _ hc;obtain⟨ND,mD,xD,hi⟩:=R.ex;obtain⟨f',fd',hf',FU⟩:=XSt.fun (st:=Yh (U2 p j)) x;have ck:=XSt.clsK n x xD (f:=f') hf';exact⟨C,bm,f',fd',_,_,by rw[n.eq_nsMap];exact x.ad,x.keep,ck,λM h' k=>(x.keeps (VU k)).xcls (xD.keeps (VU k)) hf',ok FU,FU.binds hbz,D9 ck hf⟩
end
theorem YW{q p:J7}{loose:List Str}{mean:ExcName->qC}{mg mb:Str->qC}{h:Heap}{ix:qI}(P:J7)(w:World)(base:Heap){ps:List Str}{k n:Nat}{F:qx->Option XR}(T:Top q loose mean mg mb h)(e:recsOf q=Vv p ix)(i:Nat)(x:Str)(hi:ix.contains i=qv)(hn:TZ (U2 p i)=O x)
  (ok:∀{f:J8}{fd:J9},Fun (whole h) x x (U2 p i) f fd->FnOk P w (whole h) mg base (CX1 P w) k f fd ps (spX (whole h) n F))
  (hb:∀(kV doc pm:J5)(an:qG)(cdv ct:J5)(us:qz),us.length=ps.length->bindArgs (PySem.W.fnOf x x (YZ (U2 p i)) (Zx (U2 p i)) (Kw (U2 p i)) .none kV doc pm an cdv ct) ⟨us,[]⟩=pure (ps.zip us)):KL P w (whole h) mg base x k n F:=by
 obtain⟨f,fd,m,FU⟩:=SR T e i x hi hn;exact⟨f,fd,ps,m,FU.kp,FU.binds hb,ok FU⟩
theorem Cn{l:PySem.W.OpenLaw}{n k:Nat}{q:J7}{loose:List Str}{XP:(Str->qC)->Heap->Prop}{YP:World->Heap->Prop}{d:DefRec}{F:qx->qB}{x:Str}
  (hn:l.most=O n) (hn2:n<=Ub) (hdf:d.params.defaults=[]) (hr:Room k callerA)
  (hF:∀(w:World)(s₀:J6)(mg mb:Str->qC)(fa:J8)(h:Heap),PySem.W.Ground q loose [] XP w s₀ mg mb h->YP w h->mg d.name=O (.ref fa) ->
   ∃fd:J9,(∀(s:J6)(u:J5),BindsTo s fd ⟨[u],[]⟩ [(x,u)])/\∀base:Heap,FnOk l.prog w (whole h) mg base CX0 k fa fd [x] (spD (whole h) 1 F))
  (hl:∀ns:qy,ns.length<=n->F [.list (ns.map int)]=O (.bool qv)) :
  PySem.W.WalkO q loose XP YP l.row.toRowW d [] (λf vs=>PySem.call f vs):=by
 refine Att.attach_call hn hdf λw s₀ s₁ mg mb fa o pm cd doc a vs ns G Y ho hd hcd hmg hobj hints hlen hg=>?_
 obtain⟨fd,hb,hF⟩:=hF w s₀ mg mb fa _ G Y hmg;exact DD (De _) G.T.g G.T.b G.T.builtins G.T.nolimit hg hobj hints (QH hlen hn2) hr (λbase _ _=>hF base) hb (λH hO hS=>GO hS (hl ns hlen)) λH e s' z=>z
section
variable{α β:Type}{Z Z1 Z2 Z3 Z':Uw}{f:M D}{s t:SM}{Q:Out->Prop}{d:D}{ds fs:qx}{nm x:Str}{o:Out}
theorem YB{g:M qx}(h1:g Z=.ok ds Z1)(h2:Xs nm ds=O fs):Z6 nm g Z=.ex Z1 (exD nm fs):=by unfold Z6 sB;rw[h1];dsimp only;rw[h2]
theorem Ts{f:M XR}{g:D->SM}(h1:f Z=.ok (.val d) Z1)(h2:g d Z1=o):sX f g Z=o:=by unfold sX;rw[h1];exact h2
theorem YA{f:M XR}{g:D->SM}(h1:f Z=.ok (.exc d) Z1):sX f g Z=.ex Z1 d:=by unfold sX;rw[h1]
theorem ZO{n:Nat}{F:qx->Option XR}{g:M qx}{xs:qx}{r:XR}(h1:g Z=.ok xs Z1)(h2:xs.length=n)(h3:F xs=O r):Zm n F g Z=.ok r Z1:=by unfold Zm;exact Km h1 (by rw[Qo h2];exact Zj h3)
theorem Rx{c:String}{t:Bool}(h:f Z=.ok d Z1)(ht:U6 d c=t):UI (λd=>Ui (U6 d c)) f Z=.ok (Ui t) Z1:=by subst ht;exact Ko (k:=λd=>Ui (U6 d c)) h
theorem P7{c:String}{kvs:List (D×D)}(h:f Z=.ok (.dict kvs) Z1)(hc:(("dict" == c) || ("" == c))=qw:=by decide):UI (λd=>Ui (U6 d c)) f Z=.ok (Ui qw) Z1:=Rx h (nty hc)
theorem Xm{c:String}{kvs:List (D×D)}(h:f Z=.ok (.dict kvs) Z1)(hc:(("dict" == c) || ("" == c))=qw:=by decide):UY (KG (UI (λd=>.bool (U6 d c)) f)) Z=.ok qv Z1:=KE h (by rw[nty hc];rfl)
def X6(r:XR):Out->Prop
 |.rt d=>r=.val d
 |.nx _=>r=.val .none
 |.ex _ d=>r=.exc d/\Wl d=qv
 |_=>False
theorem Yv{N:List Str}{r:XR}(h0:ZI N ds=Z)(h:Ho s Z (X6 r)):KP N s ds=O r:=by
 subst h0;have h:=h.out;unfold KP;cases z:s (ZI N ds)with
 |rt d=>rw[z]at h;rw[show r=.val d from h]
 |nx Z'=>rw[z]at h;rw[show r=.val .none from h]
 |ex Z' d=>rw[z]at h;dsimp only;rw[if_pos h.2,h.1]
 |ro _=>rw[z]at h;exact h.elim
 |bk Z'=>rw[z]at h;exact h.elim
 |ct Z'=>rw[z]at h;exact h.elim
 |bad=>rw[z]at h;exact h.elim
def fb(p:D->Bool):Nat->qx->Option Nat
 |_,[]=>qu
 |k,x::r=>if p x=qv then fb p (k+1) r else O k
def LQ:Out->Prop
 |.rt _=>True
 |.ex _ _=>True
 |_=>False
structure fbQ(p:D->Bool)(xs:qx)(I:Uw->Prop)(Q:Out->Prop)(x:D)(j:Nat)(o:Out):Prop where
 out:(p x=qv/\∃Z2,o=.nx Z2/\I Z2)∨(p x=qw/\LQ o/\(fb p 0 xs=O j->Q o))
theorem Pa{p:D->Bool}{xs:qx}{I:Uw->Prop}{x:D}{j:Nat}(hp:p x=qv)(h:I Z):fbQ p xs I Q x j (.nx Z):=⟨.inl ⟨hp,Z,rfl,h⟩⟩
theorem Pk{p:D->Bool}{xs:qx}{I:Uw->Prop}{x:D}{j:Nat}(hp:p x=qw)(h:fb p 0 xs=O j->Q (.ex Z d)):fbQ p xs I Q x j (.ex Z d):=⟨.inr ⟨hp,trivial,h⟩⟩
theorem Nq{f:M qx}{sg:D->Uw->qE}{xs:qx}(p:D->Bool)(I:Uw->Prop)(h1:f Z=.ok (Zp 0 xs) Z1)(h0:I Z1)
  (hst:∀x∈xs,∀(j:Nat) Z,j<xs.length->I Z->∃Z1,sg (.tuple [.int j,x]) Z=O Z1/\Ho s Z1 (fbQ p xs I Q x j))
  (hend:fb p 0 xs=qu->∀Z,I Z->Q (.nx Z)):Ho (Kl f sg s) Z Q:=by
 constructor;unfold Kl sB;rw[h1];dsimp only
 have key:∀(ys:qx)(k:Nat)(Z:Uw),I Z->(∀x∈ys,x∈xs)->k+ys.length<=xs.length->fb p k ys=fb p 0 xs->Q (Xi sg s (Zp k ys) Z):=by
  intro ys;induction ys with
  |nil=>intro k Z hi _ _ he;exact hend he.symm Z hi
  |cons x r ih=>
   intro k Z hi hm hl he;rw[QC]at hl;obtain⟨Z2,e2,a1⟩:=hst x (hm x Qp) k Z (by omega) hi;rw[Zp,Xi,e2];dsimp only;rw[fb]at he;rcases a1.out.out with ⟨hp,Z3,e3,i3⟩|⟨hp,b1,b2⟩
   .rw[hp,Qo qt]at he
    rw[e3];exact ih (k+1) Z3 i3 (λy hy=>hm y (Qu _ hy)) (by omega) he
   .rw[hp,Qy (by decide)]at he
    have b2:=b2 he.symm;cases z:s Z2 with
    |rt d=>rw[z]at b2;exact b2
    |ex Z' d=>rw[z]at b2;exact b2
    |nx Z'=>rw[z]at b1;exact b1.elim
    |ro _=>rw[z]at b1;exact b1.elim
    |bk Z'=>rw[z]at b1;exact b1.elim
    |ct Z'=>rw[z]at b1;exact b1.elim
    |bad=>rw[z]at b1;exact b1.elim
 exact key xs 0 Z1 h0 (λ_ h=>h) (by omega) qt
end
section
variable{X:Cx}{B G0:Hp}{KX:XW}{e o a b c:Ua}{pos p2:Pos}{es rest:qA}
def Tr:qx->qB
 |[.list xs]=>O (.tuple xs)
 |[.tuple xs]=>O (.tuple xs)
 |_=>qu
theorem LN:Z9 X (.type "tuple") Tr:=by
 refine⟨_,AY,λvs G H ds d Q s r e k=>?_⟩;unfold Tr at e;split at e
 .cases e
  obtain⟨v,rfl,q⟩:=r.one_inv;obtain⟨l,ws,rfl,h1,r1⟩:=q.lst_inv;exact⟨l,ws,rfl,.inl ⟨s.seq h1,λp hp=>k _ _ _ (Ext.new s hp) (.tup (SqT.of Kh) (r1.mono (KW (s.free hp))))⟩⟩
 .cases e
  obtain⟨v,rfl,q⟩:=r.one_inv;obtain⟨l,ws,rfl,h1,r1⟩:=q.tup_inv;exact⟨l,ws,rfl,.inr ⟨Yb s h1,k _ G H (.refl s) (.tup h1 r1)⟩⟩
 .cases e
end
end DL
namespace L2
open PySem PySem.Spec PyProof.Rows
end L2
namespace DL
open PySem PySem.Spec L2
open PyProof.Rows hiding St
end DL
namespace DL
open PySem PySem.Spec L2 PySem.SeqAt PySem.AutoSeq1
open PyProof.Rows hiding St
end DL
namespace DL
open PySem PySem.Spec L2
open PyProof.Rows hiding St
end DL
namespace L2
open PySem PySem.Spec PyProof.Rows
end L2
namespace DL
open PySem PySem.Spec L2
open PyProof.Rows hiding St
end DL
namespace L2
open PySem PySem.Spec PyProof.Rows
end L2
namespace DL
open PySem PySem.Spec L2
open PyProof.Rows hiding St
end DL
namespace L2
open PySem PySem.Spec PyProof.Rows
end L2
namespace DL
open PySem PySem.Spec L2
open PyProof.Rows hiding St
theorem EOk.lent{K:Frag}{B G0 G H:Hp}{σ:St}{Z:Uw}(k:EOk K B G0 G H σ Z):EOk K H H H H σ (K2 Z) where
 bh:=.refl _
 gh:=.refl _
 g0:=.refl _
 np:=λ_ _ e n=>by rw[n]at e;cases e
 len:=by unfold K2;rw[Qd];exact k.len
 pub:=λi d e=>by
  rcases NY e with e2|⟨ds,rfl,e2⟩|⟨p,e2⟩
  .exact k.tree (by unfold V8;rw[e2])
  .exact k.tree (by unfold V8;rw[e2])
  .exact k.tree (by unfold V8;rw[e2])
 own:=λi ds e=>(VL e).elim
 sep:=λi j a ds es e=>(VL e).elim
 dp:=.of (λ_ _ _ q=>Mx q) λ_ _ q=>VL q
end DL
namespace L2
open PySem PySem.Spec PyProof.Rows
end L2
namespace DL
open PySem PySem.Spec L2
open PyProof.Rows hiding St
end DL
namespace L2
open PySem PySem.Spec PyProof.Rows
end L2
namespace DL
open PySem PySem.Spec L2
open PyProof.Rows hiding St
def isT:Option HO->Bool
 |some (.tup _)=>qv
 |some (.frz _ (.tup _))=>qv
 |_=>qw
theorem HJ{u:MO}:isT (O u.ho)=qw:=by cases u<;>rfl
def K6(fp:qF)(G H:Hp):Hp:=λb=>if b∈fp∨isT (H b)=qv then H b else G b
section
variable{K:Frag}{B G0 G H:Hp}{fp:qF}
theorem Cm(gh:Same G H):Same G (K6 fp G H):=λb o e=>by
 unfold K6;split
 .exact gh b o e
 .exact e
theorem FQ(gh:Same G H):Same (K6 fp G H) H:=λb o e=>by
 unfold K6 at e;split at e
 .exact e
 .exact gh b o e
theorem Om{b:J8}(h:b∈fp∨isT (H b)=qv):K6 fp G H b=H b:=by unfold K6;rw[Qo h]
theorem Ol{b:J8}(h:b∉fp)(h2:isT (H b)=qw):K6 fp G H b=G b:=by
 unfold K6;rw[Qy];rintro(z|z)
 .exact h z
 .rw[h2]at z;cases z
theorem Ext.pubT{G' H':Hp}(ex:Ext G H G' H')(fr:∀a∈fp,H a=qu):Ext G H (K6 fp G' H') H':=
 ⟨ex.h,ex.g.trans (Cm ex.gh),FQ ex.gh,λa u e n=>by rw[Ol (λm=>by rw[fr a m]at e;cases e) (by rw[ex.h a _ e];exact HJ)];exact ex.np a u e n⟩
def nl0:D->Bool
 |.tuple ds=>ds.all flat
 |d=>flat d
theorem Rep.nl{G' G2 H':Hp}{v:V}{d:D}(r:Rep K G' v d)(h:nl0 d=qv)(gh:Same G' H'):Rep K (K6 fp G2 H') v d:=by
 cases r with
 |tup hs rr=>
  refine .tup ?_ (rr.flat h);rcases hs with (hs|⟨o,hs⟩)|hs
  .have:=gh _ _ hs
   exact .inl (.inl ((Om (.inr (by rw[this];rfl))).trans this))
  .have:=gh _ _ hs
   exact .inl (.inr ⟨o,(Om (.inr (by rw[this];rfl))).trans this⟩)
  .exact .inr hs
 |non=>exact .non
 |bl b=>exact .bl b
 |int i=>exact .int i
 |str x=>exact .str x
 |lst _ _=>cases h
 |dic _=>cases h
 |exc _ _ _ _=>cases h
 |dct _ _ _ _ _=>cases h
 |dtt _ _ _ _=>cases h
theorem Reps.nl{G' G2 H':Hp}(gh:Same G' H'):∀{vs:List V}{ds:qx},Reps K G' vs ds->ds.all nl0=qv->Reps K (K6 fp G2 H') vs ds
 |_,_,.nil,_=>.nil
 |_,_,.cons r t,h=>by rw[JF,Qx]at h;exact .cons (r.nl h.1 gh) (Reps.nl gh t h.2)
end
def V7(f:M qx):M qx:=λZ=>match f (K2 Z)with
 |.ok ds _=>if ds.all nl0=qv then .ok ds Z else .bad
 |.bad=>.bad
section
variable{X:Cx}{B G0:Hp}{KX:XW}{e o a b c:Ua}{pos:Pos}{es:qA}{pt:Pat}
theorem E8{f:M qx}(h:∀B' G',PE X e (tL X.K B' G' f)):PE X e (tL X.K B G0 (V7 f)):=by
 have h':PE X e (λσ H Q=>∃B' G',tL X.K B' G' f σ H Q):=λpins s σ H Q I ⟨B',G',q⟩=>h B' G' pins s σ H Q I q;refine UU h' λσ H Q ⟨G,Z,k,a⟩=>⟨H,H,H,K2 Z,k.lent,?_⟩;unfold V7 at a
 cases z:f (K2 Z)with
 |bad=>rw[z]at a;exact a.elim
 |ok ds Z'=>
  rw[z]at a;dsimp only at a⊢;by_cases hf:ds.all nl0=qv
  .rw[Qo hf]at a
   intro ad vs G' H' k' s' n;have ex:Ext G H G H':=⟨k'.bh,.refl _,k.gh.trans k'.bh,λ_ _ _ n=>n⟩;have ex2:Ext G H (K6 [] G H') H':=ex.pubT (λa m=>by cases m);refine a ad vs (K6 [] G H') H' (k.ext ex2) ex2.g ⟨k.bh.free n.b,?_,n.h,n.r.nl k'.gh hf,λj es q w=>?_,λj pt d v fp q s r=>k.freshD k'.bh n.b q s r⟩
   .rw[Ol (by simp) (by rw[n.h];rfl)]
    exact k.gh.free n.b
   .obtain⟨b,us,g1,g2,g3,g4,g5⟩:=k.own j es q
    rw[g1]at w;cases w;rw[n.b]at g4;cases g4
  .rw[Qy hf]at a;exact a.elim
end
section
variable{Z Z1 Z2 Z':Uw}{pt:Pat}
theorem E7{f:M qx}{ds:qx}(h:f (K2 Z)=.ok ds Z')(hf:ds.all nl0=qv):V7 f Z=.ok ds Z:=by unfold V7;rw[h];dsimp only;rw[if_pos hf]
end
def WT(x y:D):Option qx:=match x,y with
 |.list x,.list y=>if x.length+y.length<=1000000 then O (x++y)else qu
 |_,_=>qu
def Y7(f g:M D):M qx:=UH f λx=>UH g λy=>UG (WT x y)
section
variable{X:Cx}{B G0:Hp}{e o a b c:Ua}{pos:Pos}{es:qA}
theorem FP{f g:M D}(ha:PE X a (tD X.K B G0 f))(hb:PE X b (tD X.K B G0 g)):PE X (.BinOp a .Add b pos) (tL X.K B G0 (Y7 f g)):=
 UU (Pp ON ha hb) λσ H Q ⟨G,Z,k,q⟩=>by
  refine⟨G,Z,k,?_⟩;unfold Y7 UH at q;cases z:f Z with
  |bad=>rw[z]at q;exact q.elim
  |ok x Z1=>
   rw[z]at q;dsimp only at q;intro v G1 H1 k1 s1 r1;refine⟨G1,Z1,k1,?_⟩;cases z2:g Z1 with
   |bad=>rw[z2]at q;exact q.elim
   |ok y Z2=>
    rw[z2]at q;dsimp only[UG]at q;intro u G2 H2 k2 s2 r2;cases x with
    |list xs=>
     cases y with
     |list ys=>
      by_cases c:xs.length+ys.length<=1000000
      .have e:WT (.list xs) (.list ys)=O (xs++ys):=Qo c
       rw[e]at q;obtain⟨l,vs,rfl,h1,w1⟩:=r1.lst_inv;obtain⟨m,us,rfl,h2,w2⟩:=r2.lst_inv;exact⟨l,m,vs,us,rfl,rfl,k2.gh.seq (s2.seq h1),k2.gh.seq h2,by rw[w1.length,w2.length];exact QH c lim,λp hp=>q p _ G2 _ (k2.ext (Ext.hid k2.gh hp)) (s1.trans s2) (NewL.of k2 hp ((w1.mono s2).append w2))⟩
      .have e:WT (.list xs) (.list ys)=qu:=Qy c
       rw[e]at q;exact q.elim
     |_=>exact q.elim
    |_=>exact q.elim
end
end DL
namespace L2
open PySem PySem.Spec PyProof.Rows PySem.Calls PyProof.V
end L2
namespace DL
open PySem PySem.Spec L2
open PyProof.Rows hiding St
def tgN:Ua->List Str
 |.Name x _=>[x]
 |.Tuple [.Name x _] _ _=>[x]
 |.Tuple [.Name x _,.Name y _] _ _=>[x,y]
 |.Tuple [.Name x _,.Name y _,.Name z _] _ _=>[x,y,z]
 |.Tuple [.Name x _,.Name y _,.Name z _,.Name u _] _ _=>[x,y,z,u]
 |_=>[]
def adN(vs:List Str):List Str->List Str
 |[]=>vs
 |x::r=>adN (if vs.elem x then vs else vs++[x]) r
def WV(vs:List Str):List Comprehension->List Str
 |[]=>vs
 |⟨tg,_,_,_⟩::r=>WV (adN vs (tgN tg)) r
def dotN(x:Str):Str:=("." : Str)++x
def blN(N:List Str)(gs:List Comprehension):List Str:=N.map (λx=>if(WV [] gs).elem x then dotN x else x)++WV [] gs
def glN(sc:Scope):List Str:=sc.names.filterMap λy=>match y.2 with | .globalImplicit=>O y.1|_=>qu
abbrev NmF(s:Stmt)(N:List Str):Prop:=FnNm (Kw s) N (glN (Kw s))
theorem mq{α:Type}{l:List α}{x:α}(n:Nat)(h:l[n]?=O x):x∈l:=QP h
section
variable{sc:Scope}{N gl:List Str}{x:Str}
theorem gA(H:FnNm sc N gl)(h:gl.elem x=qv):sc.names.lookup x=O .globalImplicit:=H.gl x (by simpa using h)
end
section
variable{X:Cx}{B G0:Hp}{KX:XW}{e e1 e2 o a b c i:Ua}{gl:List Str}{pos p2:Pos}{x:Str}{j:Nat}
theorem LM(H:FnNm X.env.scope X.N gl)(hi:X.N[j]?=O x:=by rfl)(hf:X.fn x=qv∨X.env.scope.names.lookup x=O .local:=by first|exact .inl rfl|exact .inr rfl|assumption):PG X (.Name x pos) (tG X.K B G0 (gN j)):=OJ (OX H.nd hi (lq H j hi) hf)
theorem HI{N':List Str}{scope:Scope}{cl:List (Str×J8)}{C:J8}{s₀:J6}{H₀:Hp}{ex:qF}(hN:N'.Nodup:=by decide +kernel)(hi:N'[j]?=O x:=by rfl)(hl:scope.names.lookup x=O .local:=by rfl):PG (X.blk N' scope cl C s₀ H₀ ex) (.Name x pos) (tG X.K B G0 (gN j)):=OJ (OX hN hi (EM hl) (.inr (Hq hl)))
theorem aSet{f:M D}(H:FnNm X.env.scope X.N gl)(he:PE X e (tD X.K B G0 f))(hi:X.N[j]?=O x:=by rfl)(hs:swapsWith e (O (.Name x p2)) pos.line X.env=pure qw:=by rfl)
  (hf:X.fn x=qv∨X.env.scope.names.lookup x=O .local:=by first|exact .inl rfl|exact .inr rfl|assumption):PS X (.Assign [.Name x p2] e pos) (tS X.K B G0 KX (UR j f)):=GR H.nd hi (lq H j hi) he hs hf
theorem Pj{f:M qx}(H:FnNm X.env.scope X.N gl)(he:PE X e (tL X.K B G0 f))(hi:X.N[j]?=O x:=by rfl)(hs:swapsWith e (O (.Name x p2)) pos.line X.env=pure qw:=by rfl)
  (hf:X.fn x=qv∨X.env.scope.names.lookup x=O .local:=by first|exact .inl rfl|exact .inr rfl|assumption):PS X (.Assign [.Name x p2] e pos) (tS X.K B G0 KX (Kx j f)):=ES H.nd hi (lq H j hi) he hs hf
theorem LK{f:M XR}(H:FnNm X.env.scope X.N gl)(he:PE X e (tX X.K B G0 KX f))(hi:X.N[j]?=O x:=by rfl)(hs:swapsWith e (O (.Name x p2)) pos.line X.env=pure qw:=by rfl)
  (hf:X.fn x=qv∨X.env.scope.names.lookup x=O .local:=by first|exact .inl rfl|exact .inr rfl|assumption):PS X (.Assign [.Name x p2] e pos) (tS X.K B G0 KX (sX f λd Z=>match gN j d Z with|some Z'=>.nx Z'|none=>.bad)):=Fa H.nd hi (lq H j hi) he hs hf
theorem LJ{l:Bool}{tg elt iter:Ua}{ifs:qA}{gs:List Comprehension}{scope:Scope}{f:M qx}{s:D->Uw->qE}{t:M Bool}{rd:RdB}{F:M qx}{k:Nat}{SC:Scope}{N1:List Str}(H:FnNm SC N1 gl)(le:∀Z es Z',F Z=.ok es Z'->dCG l f k s t rd Z=.ok es Z')(hc:X.calm=qv)
  (hi:PI X tg iter (iD X.K B G0 f)) (qP:ZX X (blN N1 (⟨tg,iter,ifs,0⟩::gs)) scope (.ListComp elt (⟨tg,iter,ifs,0⟩::gs) scope pos) tg ifs s t rd) (hb:Wo Vp SC scope N1 (blN N1 (⟨tg,iter,ifs,0⟩::gs)) k=qv) (h1:X.env.scope=SC:=by rfl) (h2:X.N=N1:=by rfl) (hs:∀x,Uu iter X.env x=pure x:=by intro _;rfl) :
  PE X (.ListComp elt (⟨tg,iter,ifs,0⟩::gs) scope pos) (tL X.K B G0 F):=Li _ _ _ k le hc hi qP h1 h2 hb hs
theorem LI{l:Bool}{y:Str}{py spos:Pos}{tg elt iter:Ua}{ifs:qA}{gs:List Comprehension}{scope:Scope}{f:M qx}{s:D->Uw->qE}{t:M Bool}{rd:RdB}{F:M qx}{k:Nat}{SC:Scope}{N1:List Str}(H:FnNm SC N1 gl)(le:∀Z es Z',F Z=.ok es Z'->dCG l f k s t rd Z=.ok es Z')(hc:X.calm=qv)
  (hi:PI X tg iter (iD X.K B G0 f)) (qP:ZX X (blN N1 (⟨tg,iter,ifs,0⟩::gs)) scope (.ListComp elt (⟨tg,iter,ifs,0⟩::gs) scope pos) tg ifs s t rd) (hb:Wo Vp SC scope N1 (blN N1 (⟨tg,iter,ifs,0⟩::gs)) k=qv) (hj:N1[j]?=O y:=by rfl) (hy:SC.names.lookup y=O .local:=by rfl) (h1:X.env.scope=SC:=by rfl) (h2:X.N=N1:=by rfl) (hs:∀x,Uu iter X.env x=pure x:=by intro _;rfl)
  (hsw:swapsWith (.ListComp elt (⟨tg,iter,ifs,0⟩::gs) scope pos) (O (.Name y py)) spos.line X.env=pure qv:=by rfl) :
  PS X (.Assign [.Name y py] (.ListComp elt (⟨tg,iter,ifs,0⟩::gs) scope pos) spos) (tS X.K B G0 KX (Kx j F)):=sD_1 _ _ _ k le (h2 ▸ H.nd) (h2 ▸ hj) (h1 ▸ hy) hc hi qP h1 h2 hb hs hsw
end
end DL
namespace DL
open PySem PySem.Spec L2
open PyProof.Rows hiding St
open Builtin Builtin.Str
end DL
namespace DL
open PySem PySem.Spec L2
open PyProof.Rows hiding St
end DL
namespace DL
open PySem PySem.Spec L2
open PyProof.Rows hiding St
open PySem.SeqRoads2 PySem.SeqAt
end DL
namespace DL
open PySem PySem.Spec L2
open PyProof.Rows hiding St
end DL
namespace L2
open PySem PySem.Spec PyProof.Rows
section
variable{prog:J7}{w:World}{A:Around}{elt tg i:Ua}{ifs:qA}{gens:List Comprehension}{scope:Scope}{pos:Pos}{it acc:J5}{env:Env}{j:Nat}
theorem Ac(hg:gens[j]?=O ⟨tg,i,ifs,0⟩)(hn:gens[j+1]?=qu):WI prog w A tg ifs env it (.compLoop (.SetComp elt gens scope pos) j it acc env)
  (λQ s=>Uc (model prog w) A (eval elt env) (λx s₄=>Uc (model prog w) A (call (.builtin "set.add") [acc,x]) (λ_ s₅=>Q s₅) nox s₄) nox s):=by
 intro R I n s h turn;refine codeAny_loop qt I (λn s hI=>?_) n h;show Uc _ A ((compTurn (.SetComp elt gens scope pos) j it acc env).onRaise (λx=>do noteFrame x env;theTreesLotGoes x)) _ _ s;refine wpAny_noted ?_;unfold compTurn;dsimp only;simp only[hg,hn];refine Qb (QZ (Qb (Qr (turn n s hI) (λr s₁ h₁=>?_) λ_ _ h'=>h'.elim)));cases r with
 |none=>exact Qh h₁
 |some v=>
  refine Qb (Qr h₁ (λ_ s₁' h₁'=>?_) λ_ _ h'=>h'.elim);refine Qb (Qr h₁' (λ_ s₂ h₂=>Qb (Qr h₂ (λok s₃ h₃=>?_) λ_ _ h'=>h'.elim)) λ_ _ h'=>h'.elim);cases ok with
  |false=>exact Qh ⟨rfl,h₃⟩
  |true=>exact Qb (Qb (Qr h₃ (λx s₄ h₄=>Qb (QZ (Qb (Qr h₄ (λ_ s₅ h₅=>Qh (Qh ⟨rfl,h₅⟩)) λ_ _ h'=>h'.elim)))) λ_ _ h'=>h'.elim))
theorem Ck{R:Result->J6->Prop}{s:J6}{target iter:Ua}{rest:List Comprehension}
  (h0:codeAny (model prog w) A (.compLoop (.SetComp elt (⟨target,iter,ifs,0⟩::rest) scope pos) 0 it acc env) R s)
  (h:Uc (model prog w) A (pyIter it) (λit' s'=>codeAny (model prog w) A (.compLoop (.SetComp elt (⟨target,iter,ifs,0⟩::rest) scope pos) 0 it' acc env) R s')
   (notedBy (model prog w) A env λx s'=>R (.error x) s') s) :
  codeAny (model prog w) A (.compStart (.SetComp elt (⟨target,iter,ifs,0⟩::rest) scope pos) 0 it acc env) R s:=by
 refine codeAny_of_tree ?_;show Uc _ _ ((compStart (.SetComp elt (⟨target,iter,ifs,0⟩::rest) scope pos) 0 it acc env).onRaise (λx=>do noteFrame x env;standAt theWindowsPlace)) _ _ s;refine wpAny_notedAt ?_;unfold compStart;show Uc _ _ (ask >>= _) _ _ s;refine Qb (wpAny_askSetting (wpAny_ite ?_));split
 .first
   |exact Qh (And.intro rfl h0)
   |exact Qb (Qh (Qh (And.intro rfl h0)))
 .refine Qb (wpAny_rule ?_)
  show Uc _ _ (standAt iter.pos >>= _) _ _ s;exact Qb (QZ (Qb (Qr h (λit' s' h'=>Qh (And.intro rfl h')) λ_ _ x=>x)))
end
end L2
namespace DL
open PySem PySem.Spec L2
open PyProof.Rows hiding St
theorem Ms(ns:qy):Zb ns=(ns.foldl step_dedup []).length:=by
 unfold Zb firstMet
 congr 2
 apply List.ext_getElem
 .simp
 .intro i h1 h2
  simp[List.getD_eq_getElem?_getD,h2]
theorem Np(z:Int):∀(ns σ:qy),(ns.foldl step_dedup σ).any (· == z)=(σ.any (· == z) || ns.any (· == z))
 |[],σ=>by simp
 |x::r,σ=>by
  rw[List.foldl_cons,Np z r,step_any,List.any_cons,Bool.or_assoc]
  congr 2
  by_cases h:z=x
  .subst h;simp
  .have h':x≠z:=λq=>h q.symm
   simp[h,h']
theorem AF(ns:qy)(i:Int):Zb (ns++[i])=if ns.any (· == i)=qv then Zb ns else Zb ns+1:=by rw[Ms,Ms,List.foldl_append,List.foldl_cons,List.foldl_nil,step_length,Np];simp
theorem RO:∀(ns:qy),Zb ns<=ns.length:=λns=>by unfold Zb;exact firstMet_length_le _ _
def K3(ns:qy):HO:=.set (λz=>ns.any (· == z)) (Zb ns)
def cTS(s:D->Uw->qE)(t:M Bool)(g:M D):qx->Uw->qy->Option qy
 |[],_,ns=>O ns
 |d::r,Z,ns=>match s d Z with
  |none=>qu
  |some Z1=>match t Z1 with
   |.bad=>qu
   |.ok b Z2=>if b=qv then(match g Z2 with
     |.ok (.int i) Z3=>if ns.length+1<4096 then cTS s t g r (U5 Z3) (ns++[i])else qu
     |_=>qu)
    else cTS s t g r (U5 Z2) ns
def VW(f:M qx)(k:Nat)(s:D->Uw->qE)(t:M Bool)(g:M D):M qy:=λZ=>match f Z with
 |.bad=>.bad
 |.ok ds Z1=>match cTS s t g ds (U5 Z1++Ug k qu) []with
  |none=>.bad
  |some ns=>.ok ns Z1
structure Pi(Y:Cx)(D':J8)(pins:List (J8×Obj))(H G:Hp)(ns:qy)(Z':Uw)(σ':St)(H' G':Hp)(s':J6):Prop where
 inv:Inv Y pins σ' H' s'
 eok:EOk Y.K H' G' G' H' σ' Z'
 hh:∀a o,a≠D'->H a=O o->H' a=O o
 gg:Same G G'
 np:∀a(u:MO),a≠D'->H a=O u.ho->G a=qu->G' a=qu
 hd:H' D'=O (K3 ns)
 gd:G' D'=qu
section
variable{Y:Cx}{D':J8}
theorem E6{pins:List (J8×Obj)}{σ:St}{H:Hp}{s:J6}{ns:qy}{i:Int}{ev:J5}(I:Inv Y pins σ H s)(hD:H D'=O (K3 ns))(hb:ns.length+1<4096)(rv:RelV (.int i) ev) :
  Uc (model Y.prog Y.w) Y.A (call (.builtin "set.add") [.ref D',ev]) (λ_ s'=>Inv Y pins σ (upd H D' (K3 (ns++[i]))) s') nox s:=by
 obtain⟨tk,rfl⟩:=rv;have hS:s.heap.SetOf (intKind Y.prog Y.w) D' (λz=>ns.any (· == z)) (Zb ns):=I.hok _ _ hD;refine call_set_add (knd:=intKind Y.prog Y.w) (k:=i) (by simp[intKind,Value.isInt]) qt hS (by have:=RO ns;have hsb:scanBound=4096:=rfl;omega) λh' sb hS'=>?_
 refine I.write (x:=D') (e:=D') (o:=K3 (ns++[i])) (t':=s.toks+1) (by rw[hD];exact trivial) (.inl qt) (λb u hb' e=>(sb.2 b hb').trans e) ?_ ?_
 .obtain⟨o,_,_,_,e,_⟩:=hS';exact⟨o,e⟩
 .show h'.SetOf (intKind Y.prog Y.w) D' (λz=>(ns++[i]).any (· == z)) (Zb (ns++[i]))
  rw[AF]
  have:(λz=>(ns++[i]).any (· == z))=λk'=>ns.any (· == k') || decide (k'=i):=by
   funext z;rw[List.any_append,List.any_cons,List.any_nil,Bool.or_false]
   congr 1
   by_cases h:z=i
   .subst h;simp
   .simp[h];exact λq=>h q.symm
  rw[this];exact hS'
theorem E5{tg elt:Ua}{ifs:qA}{code:Code}{s:D->Uw->qE}{t:M Bool}{g:M D}{it:J8}(hx:Y.xe=nox)(hc:Y.calm=qv)
  (rule:WI Y.prog Y.w Y.A tg ifs Y.env (.ref it) code (λQ s=>Uc (model Y.prog Y.w) Y.A (eval elt Y.env) (λx s₄=>Uc (model Y.prog Y.w) Y.A (call (.builtin "set.add") [.ref D',x]) (λ_ s₅=>Q s₅) nox s₄) nox s))
  (hg:∀B1 G1,PG Y tg (tG Y.K B1 G1 s)) (ht:∀B1 G1,ZC Y ifs (tBo Y.K B1 G1 t)) (he:∀B1 G1,PE Y elt (tD Y.K B1 G1 g))
  {pins:List (J8×Obj)} {sh:J6} {σ:St} {H G:Hp} {Z:Uw} {fp:qF} {tn:Nat->Heap->Prop} {J:It} {ds:qx} {ns nsF:qy} {R:Result->J6->Prop}
  (I:Inv Y pins σ H sh) (T:Turn Y.prog Y.w Y.K tg J fp it tn) (st:tn 0 sh.heap) (hf:∀b∈fp,KD Y pins H b)
  (k:EOk Y.K H G G H σ Z) (its:Yu Y.K J ds G) (hD:H D'=O (K3 ns)) (gD:G D'=qu) (zl:cTS s t g ds Z ns=O nsF)
  (jy:∀Z' σ' H' G' s',Pi Y D' pins H G nsF Z' σ' H' G' s'->R (.ok .next) s'):codeAny (model Y.prog Y.w) Y.A code R sh:=by
 have stat:∀{H':Hp},(∀b∈fp,H' b=qu)->∀b∈fp,KD Y pins H' b:=λhn b hb=>⟨hn b hb,(hf b hb).2⟩
 refine rule R (λn s'=>∃i σ' H' G' Z' ns',n=ds.length-i/\tn i s'.heap/\(∀b∈fp,H' b=qu)/\Pi Y D' pins H G ns' Z' σ' H' G' s'/\cTS s t g (ds.drop i) Z' ns'=O nsF) ds.length sh
  ⟨0,σ,H,G,Z,ns,rfl,st,λb hb=>(hf b hb).1,⟨I,k,λ_ _ _ q=>q,.refl _,λ_ _ _ _ n=>n,hD,gD⟩,by rw[List.drop_zero];exact zl⟩ ?_
 rintro n s' ⟨i,σ',H',G',Z',ns',rfl,ki,kN,⟨I',k',jt,jm,jR,q9,gD'⟩,zc⟩;by_cases hlt:i<ds.length
 .rw[JC hlt,cTS]at zc
  cases zs:s ds[i] Z' with
  |none=>rw[zs]at zc;cases zc
  |some Z2=>
  rw[zs]at zc;dsimp only at zc;cases zt:t Z2 with
  |bad=>rw[zt]at zc;cases zc
  |ok b Z3=>
  rw[zt]at zc;dsimp only at zc;refine thn (T.item Y qt qt qt hc i pins s' σ' H' nox I' (stat kN) ki (its.go i G' H' jm k'.gh hlt)) λrr s4 ⟨u,hr,h4⟩=>?_;subst hr;refine thn h4 λ_ s5 ⟨x,H5,I5,r5,y5,jf,kM⟩=>?_
  obtain⟨G5,e5,rx⟩:=its.yld i G' H' x H5 ds[i] jm k'.gh (Qe hlt) y5;have h6:=hg H' G' _ s5 σ' H5 x u (λσ6 H6=>∃G6,EOk Y.K H' G' G6 H6 σ6 Z2) (I5.pinned (stat kM) (T.obj _ _ jf)) r5 ⟨G5,Z',ds[i],Z2,k'.ext e5,rx,zs,λσ6 G6 H6 k6 _=>⟨G6,k6⟩⟩;rw[hx]at h6;refine thn h6 λ_ s6 ⟨σ6,H6,I6,G6,k6⟩=>?_;have h7:=ht H' G' _ s6 σ6 H6 (λc H7=>c=b/\∃G7,EOk Y.K H' G' G7 H7 σ6 Z3) I6 ⟨G6,Z2,k6,by unfold aft;rw[zt];exact λc G7 H7 k7 _ q=>⟨q,G7,k7⟩⟩
  rw[hx]at h7;refine thn h7 λok s7 ⟨H7,I7,hb7,G7,k7⟩=>?_;subst hb7
  have again:∀{H9:Hp}{σ9:St}{s9:J6},Inv Y (pins++Vu fp s5.heap) σ9 H9 s9->Inv Y pins σ9 H9 s9/\tn (i+1) s9.heap/\∀b∈fp,H9 b=qu:=λ{H9 σ9 s9} I9=>by refine⟨I9.unpinned,T.keep _ _ _ jf λb hb o e=>(I9.pin (b,o) (QD _ (QD _ (VT hb e)))).1,λb hb=>?_⟩;obtain⟨o,e,d⟩:=T.obj _ _ jf b hb;exact(I9.pin (b,o) (QD _ (QD _ (VT hb e)))).2.1
  have lt:ds.length-(i+1)<ds.length-i:=Nat.sub_lt_sub_left hlt (Nat.lt_succ_self i);cases ok with
  |false=>rw[Qy (by decide)]at zc⊢;obtain⟨J1,J2,J3⟩:=again I7;exact⟨_,lt,i+1,σ6,H7,G7,U5 Z3,ns',rfl,J2,J3,⟨J1,k7.rebase,λa o z q=>k7.bh a o (jt a o z q),jm.trans k7.g0,λa o z q w=>k7.np a o (jt a _ z q) (jR a o z q w),k7.bh _ _ q9,k7.np _ (.s _ _) q9 gD'⟩,zc⟩
  |true=>
   rw[Qo qt]at zc⊢;split at zc
   .rename_i z Z4 zg
    split at zc
    .rename_i hle
     have h8:=he H' G' _ s7 σ6 H7 (λv H8=>∃G8,EOk Y.K H' G' G8 H8 σ6 Z4/\Rep Y.K G8 v (.int z)) I7 ⟨G7,Z3,k7,by unfold aft;rw[zg];exact λv G8 H8 k8 _ q=>⟨G8,k8,q⟩⟩;rw[hx]at h8;refine thn h8 λev s8 ⟨v,H8,I8,rv,G8,k8,r8⟩=>?_
     have:v=.int z:=r8.int_inv;subst this;refine thn (E6 I8 (k8.bh _ _ q9) hle rv) λ_ s9 I9=>?_
     obtain⟨J1,J2,J3⟩:=again I9;have g8:=k8.np _ (.s _ _) q9 gD';exact⟨_,lt,i+1,σ6,_,G8,_,_,rfl,J2,J3,⟨J1,k8.beside g8,λa o z q=>by rw[U4 z];exact k8.bh a o (jt a o z q),jm.trans k8.g0,λa o z q w=>k8.np a o (jt a _ z q) (jR a o z q w),Kh,g8⟩,zc⟩
    .cases zc
   .cases zc
 .rw[List.drop_eq_nil_of_le (QY hlt),cTS]at zc
  cases zc;refine thn (T.done Y qt qt qt hc i pins s' σ' H' nox I' (stat kN) ki (its.stop i G' H' jm k'.gh (QY hlt))) λrr s4 ⟨hr,I6⟩=>?_
  subst hr;exact jy Z' σ' H' G' s4 ⟨I6,k',jt,jm,jR,q9,gD'⟩
end
section
variable{X:Cx}{B G0:Hp}
def SJ(X:Cx)(N2:List Str)(scope:Scope)(elt tg:Ua)(ifs:qA)(s:D->Uw->qE)(t:M Bool)(g:M D):Prop:=
 ∀(cl:List (Str×J8))(C:J8)(s₀:J6)(H₀:Hp)(ex:qF),(∀B' G',PG (X.blk N2 scope cl C s₀ H₀ ex) tg (tG X.K B' G' s))/\(∀B' G',ZC (X.blk N2 scope cl C s₀ H₀ ex) ifs (tBo X.K B' G' t))/\∀B' G',PE (X.blk N2 scope cl C s₀ H₀ ex) elt (tD X.K B' G' g)
def tSC(K:Frag)(B G0:Hp)(f:M qy):TE:=λσ H Q=>∃G Z,EOk K B G0 G H σ Z/\match f Z with
 |.bad=>False
 |.ok ns Z1=>∀D G' H',EOk K B G0 G' H' σ Z1->Same G G'->H' D=O (K3 ns)->Q (.ref D) H'
theorem FO{tg elt iter:Ua}{ifs:qA}{scope:Scope}{pos:Pos}{N2:List Str}{k:Nat}{f:M qx}{s:D->Uw->qE}{t:M Bool}{g:M D}(hc:X.calm=qv)
  (hi:PI X tg iter (iD X.K B G0 f)) (qP:SJ X N2 scope elt tg ifs s t g) (hb:Vq X.env.scope scope X.N N2 k) (hs:∀x,Uu iter X.env x=pure x:=by intro _;rfl) :
  PE X (.SetComp elt [⟨tg,iter,ifs,0⟩] scope pos) (tSC X.K B G0 (VW f k s t g)):=by
 intro pins s0 σ H Q I ⟨G,Z,k0,a⟩;unfold VW at a;cases zf:f Z with
 |bad=>rw[zf]at a;exact a.elim
 |ok ds Z1=>
 rw[zf]at a;dsimp only at a;cases zl:cTS s t g ds (U5 Z1++Ug k qu) []with
 |none=>rw[zl]at a;exact a.elim
 |some nsF=>
 rw[zl]at a;dsimp only at a;show Uc _ X.A (comprehension (.SetComp elt [⟨tg,iter,ifs,0⟩] scope pos) scope X.env _ (newSet (.type "set")) qw (eval iter X.env) qu) _ _ s0;obtain⟨cl,hcl,jr,kg⟩:=Mo (scope:=scope) (env:=X.env) λy hy hf=>I.ok.has y.1 (hb.free y hy hf)
 refine wpAny_comprehension_free qt hs hcl hb.kind hb.names (thn (hi pins s0 σ H (λJ H1=>∃G1,EOk X.K B G0 G1 H1 σ Z1/\Same G G1/\Yu X.K J ds G1) I ⟨G,Z,k0,by rw[zf];exact λJ G1 H1 k1 s1 it=>⟨G1,k1,s1,it⟩⟩) λv s1 h1=>thn h1 λitv s2 h2=>?_);obtain⟨it,fp,tn,J,H2,rfl,I2,T,st2,f2,G1,k1,sg1,its⟩:=h2;refine wpAny_newSet_of (knd:=intKind X.prog X.w) λled hS=>wpAny_newFunctionEnv hb.cell (by intro y hy;simp at hy) (λh₁ hns₁ hsb₁=>?_) hb.kind
 dsimp only at hns₁ hsb₁⊢;have hfr:H2 s2.heap.objs.size=qu:=I2.hok.fresh (Qk _)
 have I3:Inv X pins σ (upd H2 s2.heap.objs.size (K3 [])) {s2 with heap:=s2.heap.push {cls:=.type "set", dict:=qu,data:=.set #[] 0 (.fresh 0 0 led)}}:=
  I2.laid (t':=s2.toks) (λb u e=>Qf _ e) (Qk _) (show Heap.SetOf _ _ _ _ _ from hS)
 generalize hP:s2.heap.push {cls:=.type "set", dict:=qu,data:=.set #[] 0 (.fresh 0 0 led)}=P at I3 hns₁ hsb₁⊢;have old:∀b o,s2.heap.get? b=O o->P.get? b=O o:=λb o e=>hP ▸ Qf _ e;have kept:∀b o,P.get? b=O o->h₁.get? b=O o:=λb o e=>hsb₁.extBut b o (QA (Qg e)) (Qf _ e);have fpo:∀b∈fp,∃o,s2.heap.get? b=O o:=λb hb=>let ⟨o,e,_⟩:=T.obj _ _ st2 b hb;⟨o,e⟩
 have fpD:∀b∈fp,b≠s2.heap.objs.size:=λb hb=>let ⟨o,e⟩:=fpo b hb;QA (Qg e)
 have f3:∀b∈fp,KD X pins (upd H2 s2.heap.objs.size (K3 [])) b:=λb hb=>⟨by rw[U4 (fpD b hb)];exact(f2 b hb).1,(f2 b hb).2⟩
 have I4:=I3.enter (scope:=scope) (cl:=cl) (N2:=N2) (k:=k) (fp:=fp) (t':=s2.toks+([]:List (Str×J5)).length) hb.b hb.kind hb.cell hb.free jr kg hns₁ kept f3 (λb hb=>let ⟨o,e⟩:=fpo b hb;⟨o,old b o e⟩);dsimp only at I4;have gD:G1 s2.heap.objs.size=qu:=k1.gh.free hfr;have kb:EOk X.K _ G1 G1 _ _ _:=(k1.beside (o:=K3 []) gD).more k;have sH:Same H2 (upd H2 s2.heap.objs.size (K3 [])):=KW hfr;have kL:upd H2 s2.heap.objs.size (K3 []) s2.heap.objs.size=O (K3 []):=Kh;generalize upd H2 s2.heap.objs.size (K3 [])=H3 at I3 I4 f3 kb sH kL;generalize s2.heap.objs.size=D at *;have kh:tn 0 h₁:=T.keep 0 _ _ st2 λb hb o e=>kept b o (old b o e)
 have stat:∀b∈fp,KD (X.blk N2 scope cl P.objs.size {s2 with heap:=P} H3 fp) pins H3 b:=λb hb=>by
  obtain⟨z0,z1,z2,z3,z4,z5⟩:=f3 b hb;obtain⟨o,e⟩:=fpo b hb;refine⟨z0,QA (Qg (old b o e)),λz=>?_,.inl hb,λx c q=>z4 x c (jr x c q),z5⟩;rcases QL.mp (I3.stkSub b z)with q|q
  .exact z1 q
  .exact z2 q
 have neD:∀a o,H2 a=O o->a≠D:=λa o q z=>by subst z;rw[hfr]at q;cases q
 obtain⟨hg,ht,he⟩:=qP cl P.objs.size {s2 with heap:=P} H3 fp
 have loop:=E5 (Y:=X.blk N2 scope cl P.objs.size {s2 with heap:=P} H3 fp) (D':=D) (R:=compPost (model X.prog X.w) X.A X.xe qu (EP X pins σ Q) (.ref D) P.objs.size) qt hc (Ac (elt:=elt) (gens:=[⟨tg,iter,ifs,0⟩]) (scope:=scope) (pos:=pos) (j:=0) (i:=iter) qt qt) hg ht he I4 T kh stat kb its kL gD zl λZ' σ' H' G' s4 L=>by
   obtain⟨m,hm,_⟩:=id L.inv.loc;have I7:Inv X pins σ H' s4:=I3.call' (ch:=fp) L.inv.os L.inv.base L.inv.hok L.inv.bare λb hb=>⟨(f3 b hb).2.2.2.1,(f3 b hb).2.1,(f3 b hb).2.2.2.2.1,(f3 b hb).2.2.2.2.2⟩;have eF:Ext G1 H2 G' H':=⟨λa o q=>L.hh a o (neD a o q) (sH a o q),L.gg,L.eok.gh,λa o q z=>L.np a o (neD a _ q) (sH a _ q) z⟩
   refine⟨m,hm,λh' sb=>⟨.ref D,H',I7.turned (t':=s4.toks) (it:=P.objs.size) (λb o hb e=>(sb.2 b hb).trans e) L.inv.free (Jn I3.lt) (.inr I3.sz) (λx c e z=>by obtain⟨_,q⟩:=I3.cell x c e;exact absurd q.lt (by rw[z];exact Ja _)) (λp hp z=>by have:=Qg (I3.pin p hp).1;exact absurd this (by rw[z];exact Ja _)),rfl,a D G' H' (k1.ext eF) (sg1.trans eF.g) L.hd⟩⟩
 exact Ck loop (T.self X.A 0 _ _ _ kh loop)
def V6(f:M qx)(k:Nat)(s:D->Uw->qE)(t:M Bool)(g:M D):M D:=λZ=>match VW f k s t g Z with
 |.bad=>.bad
 |.ok ns Z1=>.ok (.int (Zb ns)) Z1
theorem HH{tg elt iter:Ua}{ifs:qA}{scope:Scope}{pos p3 p4:Pos}{k:Nat}{f:M qx}{s:D->Uw->qE}{t:M Bool}{g:M D}{SC:Scope}{N1 gl:List Str}(H:FnNm SC N1 gl)(hg:Gl X "len")(hm:X.mg "len" = qu)(hc:X.calm=qv)
  (hi:PI X tg iter (iD X.K B G0 f)) (qP:SJ X (blN N1 [⟨tg,iter,ifs,0⟩]) scope elt tg ifs s t g) (hb:Wo Vp SC scope N1 (blN N1 [⟨tg,iter,ifs,0⟩]) k=qv) (h1:X.env.scope=SC:=by rfl) (h2:X.N=N1:=by rfl) (hs:∀x,Uu iter X.env x=pure x:=by intro _;rfl)
  (he:Ud [.SetComp elt [⟨tg,iter,ifs,0⟩] scope p3] X.env=(qw,eval (.SetComp elt [⟨tg,iter,ifs,0⟩] scope p3) X.env)::Ud [] X.env:=by rfl) :
  PE X (.Call (.Name "len" p4) [.SetComp elt [⟨tg,iter,ifs,0⟩] scope p3] [] pos) (tD X.K B G0 (V6 f k s t g)):=
 UU (WJ Mg hg hm boot_len (ZG (FO hc hi qP (by rw[h1,h2];exact Rl hb) hs) YT he) (by decide) (by decide) he qt) λσ Hh Q ⟨G,Z,k0,q⟩=>⟨G,Z,k0,by
  unfold V6 aft at q;cases z:VW f k s t g Z with
  |bad=>rw[z]at q;exact q.elim
  |ok ns Z1=>rw[z]at q;exact λD G' H' k' sg hd=>⟨D,_,_,rfl,hd,q (.int (Zb ns)) G' H' k' sg (.int _)⟩⟩
theorem RN{s:D->Uw->qE}{t:M Bool}{g:M D}:∀{ds:qx}{Z:Uw}{es esF:qx},Ks s t g ds Z es=O esF->∃r,esF=es++r
 |[],Z,es,esF,h=>by rw[Ks]at h;cases h;exact⟨[],by simp⟩
 |d::r,Z,es,esF,h=>by
  rw[Ks]at h;cases zs:s d Z with
  |none=>rw[zs]at h;cases h
  |some Z1=>
  rw[zs]at h;dsimp only at h;cases zt:t Z1 with
  |bad=>rw[zt]at h;cases h
  |ok b Z2=>
  rw[zt]at h;dsimp only at h;cases b with
  |false=>exact RN (ds:=r) h
  |true=>
   rw[Qo qt]at h;cases zg:g Z2 with
   |bad=>rw[zg]at h;cases h
   |ok e Z3=>
   rw[zg]at h;dsimp only at h;split at h
   .obtain⟨z,hz⟩:=RN (ds:=r) h
    exact⟨e::z,by rw[hz];simp⟩
   .cases h
theorem intI:∀{a b:qy},a.map int=b.map int->a=b
 |[],[],_=>rfl
 |[],_::_,h=>by cases h
 |_::_,[],h=>by cases h
 |_::_,_::_,h=>by rw[QG,QG]at h;injection h with h1 h2;rw[PyData.int.inj h1,intI h2]
theorem SQ{s:D->Uw->qE}{t:M Bool}{g:M D}:∀{ds:qx}{Z:Uw}{ns nsF:qy},Ks s t g ds Z (ns.map int)=O (nsF.map int)->nsF.length<4096->cTS s t g ds Z ns=O nsF/\ns.length<=nsF.length
 |[],Z,ns,nsF,h,hl=>by rw[Ks]at h;have h:=QS h;have:ns=nsF:=intI h;subst this;exact⟨rfl,Qk _⟩
 |d::r,Z,ns,nsF,h,hl=>by
  rw[Ks]at h;rw[cTS];cases zs:s d Z with
  |none=>rw[zs]at h;cases h
  |some Z1=>
  rw[zs]at h;dsimp only at h⊢;cases zt:t Z1 with
  |bad=>rw[zt]at h;cases h
  |ok b Z2=>
  rw[zt]at h;dsimp only at h⊢;cases b with
  |false=>exact SQ (ds:=r) h hl
  |true=>
   rw[Qo qt]at h⊢;cases zg:g Z2 with
   |bad=>rw[zg]at h;cases h
   |ok e Z3=>
   rw[zg]at h;dsimp only at h⊢;split at h
   .obtain⟨z,hz⟩:=RN h
    have:∃i,e=.int i:=by
     have m:e∈nsF.map int:=by rw[hz];simp
     obtain⟨i,_,rfl⟩:=QF.mp m;exact⟨i,rfl⟩
    obtain⟨i,rfl⟩:=this;rw[show ns.map int++[.int i]=(ns++[i]).map int by simp]at h;obtain⟨h1,h2⟩:=SQ (ds:=r) h hl;rw[Qm,Q8]at h2;dsimp only;rw[Qo (by omega)];exact⟨h1,by omega⟩
   .cases h
theorem E4{f:M qx}{k:Nat}{s:D->Uw->qE}{t:M Bool}{g:M D}{ns:qy}{Z Z1:Uw}(h:Zu f k s t g Z=.ok (ns.map int) Z1)(hl:ns.length<4096):V6 f k s t g Z=.ok (.int (Zb ns)) Z1:=by
 unfold Zu at h;unfold V6 VW;cases zf:f Z with
 |bad=>rw[zf]at h;cases h
 |ok ds Z2=>
 rw[zf]at h;dsimp only at h⊢;cases zl:Ks s t g ds (U5 Z2++Ug k qu) []with
 |none=>rw[zl]at h;cases h
 |some esF=>
 rw[zl]at h;dsimp only at h;cases h;rw[(SQ (ns:=[]) zl hl).1]
end
end DL
namespace DL
open PySem PySem.Spec L2
open PyProof.Rows hiding St
open PySem.SeqRoads2 PySem.SeqAt
def XV(z:Bool):J5->Bool
 |.bool x=>x==z
 |_=>qw
theorem Rj:∀{ts:List Bool}{us:qz}{i:Nat}{v:J5},Vals (ts.map V.bl) us->us[i]?=O v->∃x,ts[i]?=O x/\v=.bool x
 |[],_,_,_,.nil,e=>by cases e
 |x::ts,_,0,_,.cons h _,e=>by cases e;cases h;exact⟨x,rfl,rfl⟩
 |x::ts,_,i+1,_,.cons _ r,e=>Rj (i:=i) r e
theorem Cj{X:Cx}:MtR X "list.index" (λv vs H Q=>∃l z,∃ts:List Bool,v=.ref l/\vs=[.bl z]/\SqL X.K H l (ts.map V.bl)/\z∈ts/\Q (.int (ts.idxOf z:Nat)) H):=by
 intro pins s σ H x vs v us Q I rx rv h;obtain⟨l,z,ts,rfl,rfl,hq,hk,q⟩:=h;cases rx;obtain⟨u,rfl,ru⟩:=rv.one;cases ru;obtain⟨its,rv,p,hz⟩:=I.list hq;obtain⟨⟨cls,dd,data,sl⟩,ho,hc,n,hd⟩:=id p.isList;simp only at hc hd;subst hc hd;have hlen:ts.length=its.length:=by have:=rv.length;rwa[Qd]at this
 have hj:ts.idxOf z<ts.length:=List.idxOf_lt_length_iff.mpr hk;have hsz:its.length<=Ub:=by rw[←hlen];rw[Qd]at hz;exact hz
 have hS:(Ub:Int)<2 ^ 63-1:=by decide
 have tx:∀(i:Nat)(hi:i<its.length)(hi':i<ts.length),XV z its[i]=(ts[i]==z):=λi hi hi'=>by obtain⟨x,e1,e2⟩:=Rj rv (Qe hi);rw[Qe hi']at e1;cases e1;rw[e2];rfl
 refine call_meets PySem.F.slot_list_index ⟨_,ho,rfl⟩ PySem.F.entry_list_index (PySem.F.args_list_index_2 _ _)
  (list_indexAt l its.toArray n dd sl (.bool z) (XV z) (ts.idxOf z) (by simpa[←hlen]using hj) (by omega) ?_ ?_) ⟨ho,λy hy=>?_,⟨.int _,H,I.tok _,⟨_,rfl⟩,q⟩⟩
 .show XV z its[ts.idxOf z]=qv
  rw[tx _ (by omega) hj];simpa using List.getElem_idxOf hj
 .intro j hjs hlt
  have hjs:j<its.length:=by simpa using hjs
  show XV z its[j]=qw;rw[tx j hjs (by omega)];have:=List.not_of_lt_findIdx (p:=(· == z)) (xs:=ts) hlt;simpa using this
 .have hm:y∈its:=by simpa using hy
  obtain⟨i,hi,e⟩:=List.getElem_of_mem hm;obtain⟨x,e1,e2⟩:=Rj rv (Qe hi);rw[e]at e2;subst e2;exact EqAt.bool_bool _ _
def Rw(y:D)(xs:qx):qB:=match y,xs with
 |.list ds,[.bool k]=>(match YY ds with
  |some ns=>if k∈ns then O (.int (ns.idxOf k:Nat))else qu
  |none=>qu)
 |_,_=>qu
theorem AW{ds xs:qx}{d:D}(h:Rw (.list ds) xs=O d):∃k ns,xs=[.bool k]/\YY ds=O ns/\k∈ns/\d=.int (ns.idxOf k:Nat):=by
 unfold Rw at h;split at h
 .rename_i ds' k e1
  cases e1;cases z:YY ds with
  |none=>rw[z]at h;cases h
  |some ns=>
   rw[z]at h;dsimp only at h;split at h
   .rename_i c
    cases h;exact⟨k,ns,rfl,rfl,c,rfl⟩
   .cases h
 .cases h
def Oj(f:M D)(g:M qx):M D:=UH f λy=>UH g λxs=>UG (match y with | .list ds=>Rw (.list ds) xs|_=>qu)
section
variable{X:Cx}{B G0:Hp}{e o:Ua}{es:qA}
theorem Ab{apos cpos:Pos}{f:M D}{g:M qx}(ho:PE X o (tD X.K B G0 f))(ha:PA X (e::es) (tDs X.K B G0 g))
  (hbase:attributeBase o "index" X.env (eval o X.env)=eval o X.env:=by rfl)
  (hfew:((backTo cpos (Ud (e::es) X.env)).all (λx=>!x.1)&&(backToKw cpos (keywordEach [] X.env)).all (λx=>x.1.isSome)
   && decide ((e::es).length+([]:List Keyword).length+(if([]:List Keyword).isEmpty then 0 else 1)<30))=qv:=by rfl)
  (hline:(apos.endLine==cpos.line)=qv:=by rfl) (hs:Ud (e::es) X.env=(qw,eval e X.env)::Ud es X.env:=by rfl) (hplain:(backTo cpos (Ud es X.env)).any (·.1)=qw:=by rfl) :
  PE X (.Call (.Attribute o "index" apos) (e::es) [] cpos) (tD X.K B G0 (Oj f g)):=
 UU (SK F.plainAttrs_list F.slot_list_index F.type_list_index Cj ho ha hbase hfew hline hs hplain) λσ H Q q=>by
  refine tM.one (R:=Rep X.K) q λv H2 G Z y k r a=>?_
  cases y with
  |list ds=>
   obtain⟨l,ws,rfl,h1,r1⟩:=r.lst_inv;refine⟨.inl ⟨rfl,ws,k.gh.seq h1⟩,?_⟩;refine tM.nx (R:=Reps X.K) k a λxs H3 G3 Z3 es k3 s3 r3 a3=>?_
   obtain⟨d,e,a3⟩:=a3.opt;obtain⟨x,ns,rfl,z,hk,rfl⟩:=AW e;obtain⟨u,rfl,ru⟩:=r3.one_inv;have:=R4 r1 z;subst this;exact⟨l,x,ns,rfl,by rw[ru.bl_inv],k3.gh.seq (s3.seq h1),hk,aft.now a3 k3 (.int _)⟩
  |_=>
   unfold UH at a;cases z:g Z with
   |bad=>rw[z]at a;exact a.elim
   |ok xs Z1=>rw[z]at a;exact a.elim
end
end DL
namespace DL
open PySem PySem.Spec L2
open PyProof.Rows hiding St
section
variable{X:Cx}{B G0:Hp}{KX:XW}{e o:Ua}{pos npos:Pos}{sts sts2:List Stmt}
theorem CL{f:M XR}{g h:SM}(he:PE X e (tX X.K B G0 KX f))(ha:PSs X sts (tS X.K B G0 KX g))(hb:PSs X sts2 (tS X.K B G0 KX h))
  (hv:∀whole,isTrue e X.env whole=(do let v ←whole;standAt e.pos;holding [v] (truthy v)):=by intro _;rfl) :
  PS X (.If (.UnaryOp .Not e npos) sts sts2 pos) (tS X.K B G0 KX (sX f λd Z=>match d with | .bool b=>if b=qv then h Z else g Z|_=>.bad)):=
 KI (Pq (PZ (P1 he hv)) ha hb) λD σ H q=>tS.bndX q λv H' G' Z' x k r a=>by
  cases r with
  |bl b=>
   refine⟨b,rfl,?_⟩;cases b with
   |true=>exact⟨G',Z',k,a⟩
   |false=>exact⟨G',Z',k,a⟩
  |_=>exact a.elim
end
def VwO(p d:J8):HO:=.ext λh=>h.IsValuesView p d
section
variable{X:Cx}{B G0:Hp}{e o:Ua}{pos apos cpos p2:Pos}
theorem CJ:MtR X "dict.values" (λx xs H Q=>∃a kvs,x=.ref a/\xs=[]/\Rd H a (.dK kvs)/\∀p,H p=qu->Q (.ref p) (upd H p (VwO p a))):=by intro pins s σ H x xs v us Q I rx rs h;obtain⟨a,kvs,rfl,rfl,e,q⟩:=h;obtain rfl:v=Value.ref a:=rx;cases rs;obtain⟨z,hd,vs,rel,dd⟩:=Px I.hok e;refine call_meetsIn PySem.F.slot_dict_values dd.typeIs PySem.F.entry_dict_values (PySem.F.args_dict_values_1 _) (meets_dict_values (Td X.prog X.w) a hd) ⟨⟨_,dd⟩,?_⟩;exact⟨.ref _,_,I.laid (λb o e=>Qf _ e) (Qk _) (show KT X.prog X.w _ _ _ (VwO _ a)from⟨⟨_,Qt _ qt,rfl,rfl⟩,⟨_,Qt _ qt⟩,λh1 h2 ⟨o,g1,g2⟩ k=>⟨o,k o g1,g2⟩⟩),rfl,q _ (I.hok.fresh (Qk _))⟩
theorem OF{κ:Type}:∀{kvs:List (κ×V)}{vs:List (κ×J5)},KV kvs vs->Vals (kvs.map (·.2)) (vs.map (·.2))
 |[],[],_=>.nil
 |_::_,_::_,.cons h t=>.cons h.2 (OF t)
theorem qi(hc:X.calm=qv):ZM X (.type "list") (λxs H Q=>∃r a kvs,xs=[.ref r]/\H r=O (VwO r a)/\Rd H a (.dK kvs)/\∀p,H p=qu->Q (.ref p) (upd H p (.lst (kvs.map (·.2))))):=by
 intro pins s σ H xs us Q I rx h;obtain⟨r,a,kvs,rfl,hr,e,q⟩:=h;obtain⟨u,rfl,ru⟩:=rx.one;cases ru;obtain⟨hw,_,_⟩:=I.hok r _ hr;obtain⟨z,hd,vs,rel,dd⟩:=Px I.hok e;obtain⟨o,es,ep,g1,g2⟩:=dd;refine PySem.W.kdl_call (PySem.W.kdl_values (kvs:=vs) (knd:=Td X.prog X.w) (d:=a) (r:=r) (ep:=ep)) (I.ok.hd hc) ⟨hw,o,es,g1,g2⟩ (by rw[←rel.length];exact z) λh' tk acc' c' hk hS hI=>?_
 refine⟨.ref _,_,I.laid hk (Qk _) (show KT X.prog X.w _ _ _ (.lst (kvs.map (·.2)))from ?_),rfl,q _ (I.hok.fresh (Qk _))⟩;refine⟨by rw[List.length_map];exact z,acc'.toList,c',?_,by simpa using hS⟩
 have e2:acc'.toList=vs.map (·.2):=by
  have hl:acc'.toList.length=vs.length:=by simpa using hI.1
  refine List.ext_getElem (by rw[hl,Qd]) λi h1 h2=>?_
  obtain⟨k,hk⟩:=hI.2 i acc'.toList[i] (by rw[←Array.getElem?_toList];exact Qe h1);rw[List.getElem_map];obtain⟨_,hk⟩:=Ql.mp hk;rw[hk]
 rw[e2];exact OF rel
def LH:D->Bool
 |.int _=>qv
 |.str _=>qv
 |_=>qw
def Wz:D->Option qx
 |.dict kvs=>if(kvs.all λkv=>LH kv.1)=qv then O (kvs.map (·.2))else qu
 |_=>qu
theorem Rv{α β:Type}:∀{as:List α}{bs:List β},as.length=bs.length->(as.zip bs).map (·.2)=bs
 |[],[],_=>rfl
 |_::as,_::bs,h=>congrArg _ (Rv (by simpa using h))
theorem CI{K:Frag}{G:Hp}{v:V}{d:D}{ds:qx}(r:Rep K G v d)(h:Wz d=O ds):∃a ks vs,v=.ref a/\G a=O (.dK ks)/\ks.map (·.2)=vs/\Reps K G vs ds:=by
 unfold Wz at h;split at h
 .split at h
  .rename_i hk
   cases h;cases r with
   |dic h=>exact⟨_,[],[],rfl,h,rfl,.nil⟩
   |exc _ _ _ _=>cases hk
   |@dct a ks vs ds kvs e hne hl h r=>subst e;refine⟨a,ks.zip vs,vs,rfl,h,Rv (by rw[hl,r.length]),?_⟩;rw[Rv (by rw[Qd,hl])];exact r
   |@dtt a o ks vs ds kvs e hl h r=>subst e;cases hk
  .cases h
 .cases h
theorem Aa{f:M D}{p4:Pos}(hc:X.calm=qv)(hg:Gl X "list")(hm:X.mg "list" = qu)(ho:PE X o (tD X.K B G0 f))(hbase:attributeBase o "values" X.env (eval o X.env)=eval o X.env:=by rfl)(hline:(apos.endLine==cpos.line)=qv:=by rfl)
  (jp:Ud [.Call (.Attribute o "values" apos) [] [] cpos] X.env=(qw,eval (.Call (.Attribute o "values" apos) [] [] cpos) X.env)::Ud [] X.env:=by rfl) :
  PE X (.Call (.Name "list" p4) [.Call (.Attribute o "values" apos) [] [] cpos] [] pos) (tL X.K B G0 (UH f λd=>UG (Wz d))):=
 UU (So (qi hc) hg hm Mw (ZG (HW F.plainAttrs_dict F.slot_dict_values F.type_dict_values CJ ho hbase hline) YT jp) (by decide) (by decide) jp qt) λσ H Q ⟨G,Z,k,q⟩=>by
  refine⟨G,Z,k,?_⟩;unfold UH at q;cases z:f Z with
  |bad=>rw[z]at q;exact q.elim
  |ok d Z1=>
  rw[z]at q;dsimp only[UG]at q;intro v G' H' k' s' r;cases z2:Wz d with
  |none=>rw[z2]at q;exact q.elim
  |some ds=>
  rw[z2]at q;obtain⟨a,ks,vs,rfl,hG,hv,rs⟩:=CI r z2;have hH:=k'.gh _ _ hG;refine⟨.inr (.inr (.inl ⟨rfl,.inl ⟨_,hH⟩⟩)),a,ks,rfl,rfl,.inl hH,λp hp=>⟨p,a,ks,rfl,Kh,.inl (by rw[U4 (Yj hH hp)];exact hH),λp' jE=>?_⟩⟩;have k2:=k'.ext (Ext.hid (o:=VwO p a) k'.gh hp);rw[hv];exact q p' _ G' _ (k2.ext (Ext.hid k2.gh jE)) s' (NewL.of k2 jE rs)
theorem CH{f:M D}{Z Z1:Uw}{d:D}{ds:qx}(h1:f Z=.ok d Z1)(h2:Wz d=O ds):(UH f λd=>UG (Wz d)) Z=.ok ds Z1:=Km h1 (Zj h2)
end
section
variable{X:Cx}{B G0:Hp}{KX:XW}{e e':Ua}{es es':qA}{st st':Stmt}{sts jQ:List Stmt}{pos p2:Pos}{x:Str}{j:Nat}{gl:List Str}
theorem E3{g h:SM}(q:st::sts=jQ)(h1:PS X st (tS X.K B G0 KX g))(h2:PSs X sts (tS X.K B G0 KX h)):PSs X jQ (tS X.K B G0 KX (UC g h)):=q ▸ OK h1 h2
theorem HG{f:M qx}(q:Stmt.Assign [.Name x p2] e pos=st')(H:FnNm X.env.scope X.N gl)(he:PE X e (tL X.K B G0 f))(hi:X.N[j]?=O x:=by rfl)(hs:swapsWith e (O (.Name x p2)) pos.line X.env=pure qw:=by rfl)
  (hf:X.fn x=qv∨X.env.scope.names.lookup x=O .local:=by first|exact .inl rfl|exact .inr rfl|assumption):PS X st' (tS X.K B G0 KX (Kx j f)):=q ▸ Pj H he hi hs hf
theorem E1{f:M qx}(q:Expr.List es pos=e')(h:PA X es (tDs X.K B G0 f)):PE X e' (tL X.K B G0 (UH f λxs=>if xs.length<=1000000 then UA xs else λ_=>.bad)):=q ▸ OI h
theorem CG{f:M D}{g:M qx}(q:e::es=es')(ha:PE X e (tD X.K B G0 f))(hr:PA X es (tDs X.K B G0 g))(hs:Ud (e::es) X.env=(qw,eval e X.env)::Ud es X.env:=by rfl):PA X es' (tDs X.K B G0 (Uy f g)):=q ▸ O6 ha hr hs
end
section
variable{X:Cx}{B G0:Hp}{KX:XW}{a b e e':Ua}{es es':qA}{st st':Stmt}{sts jQ:List Stmt}{pos p2:Pos}{x:Str}{j:Nat}{gl:List Str}
theorem LG{f:M D}(q:Stmt.Assign [.Name x p2] e pos=st')(H:FnNm X.env.scope X.N gl)(he:PE X e (tD X.K B G0 f))(hi:X.N[j]?=O x:=by rfl)(hs:swapsWith e (O (.Name x p2)) pos.line X.env=pure qw:=by rfl)
  (hf:X.fn x=qv∨X.env.scope.names.lookup x=O .local:=by first|exact .inl rfl|exact .inr rfl|assumption):PS X st' (tS X.K B G0 KX (UR j f)):=q ▸ aSet H he hi hs hf
theorem EZ{f:M qx}(q:Expr.List es pos=e')(h:PA X es (tDs X.K B G0 f)):PE X e' (tD X.K B G0 (UJ f)):=q ▸ OL h
theorem EY{x1}{f:M qx}(q:Expr.Tuple es x1 pos=e')(h:PA X es (tDs X.K B G0 f)):PE X e' (tD X.K B G0 (UW f)):=q ▸ OM h
theorem PN{op:Operator}{p:D->D->qB}{f g:M D}(o:OpD X (binaryOp op) p)(q:Expr.BinOp a op b pos=e')(ha:PE X a (tD X.K B G0 f))(hb:PE X b (tD X.K B G0 g)):PE X e' (tD X.K B G0 (UD p f g)):=q ▸ Wx o ha hb
end
end DL
namespace W
open PySem PySem.Spec L2 DL
open PyProof.Rows hiding St
def top(i:Nat):Stmt:=PySem.Challenge.pw_wishdeal_k32_no_wishes_no_way.main.body.getD i (.Pass ⟨0,0,0,0⟩)
abbrev GG(s:Stmt)(x:Str):Prop:=(Kw s).names.lookup x=O NameKind.globalImplicit
abbrev VV(s:Stmt)(x:Str):Prop:=L2.Vis (Kw s) x
abbrev LL(s:Stmt)(x:Str):Prop:=L2.Loc (Kw s) x
theorem vk{s:Stmt}{x:Str}(h:(Kw s).names.lookup x=O .local∨(Kw s).names.lookup x=O .cell∨(Kw s).names.lookup x=O .free):VV s x:=h
theorem lk{s:Stmt}{x:Str}(h:(Kw s).names.lookup x=O .local∨(Kw s).names.lookup x=O .cell):LL s x:=h
structure Txt(K:Frag)(mg:Str->qC):Prop where
 b_ValueError:mg "ValueError" = qu
 b_all:mg "all" = qu
 b_bool:mg "bool" = qu
 b_enumerate:mg "enumerate" = qu
 b_int:mg "int" = qu
 b_isinstance:mg "isinstance" = qu
 b_len:mg "len" = qu
 b_list:mg "list" = qu
 b_max:mg "max" = qu
 b_range:mg "range" = qu
 b_set:mg "set" = qu
 b_sorted:mg "sorted" = qu
 b_str:mg "str" = qu
 b_sum:mg "sum" = qu
 b_tuple:mg "tuple" = qu
 b_zip:mg "zip" = qu
 c_MOST_ASKERS:∃t,mg "MOST_ASKERS" = O (Value.int 7 t)
 c_MOST_COPIES:∃t,mg "MOST_COPIES" = O (Value.int 7 t)
 c_MOST_RANKS:∃t,mg "MOST_RANKS" = O (Value.int 5 t)
 c_MOST_THINGS:∃t,mg "MOST_THINGS" = O (Value.int 6 t)
 c_ORDERS:∃ad o its n,mg "ORDERS" = O (.ref ad)/\K.lookup ad=O o/\o.cls=.type "tuple" /\ o.data=.seq its n/\its.size<=Ub/\Vals ((["firsts", "full", "lasts"]:List Str).map V.str) its.toList
 x_DealError:CK K mg "DealError"
 x_NoAim:CK K mg "NoAim"
 x_NoBook:CK K mg "NoBook"
 x_NoChange:CK K mg "NoChange"
 x_NoDeed:CK K mg "NoDeed"
 x_NoJoin:CK K mg "NoJoin"
 x_NoName:CK K mg "NoName"
 x_NoNumbering:CK K mg "NoNumbering"
 x_NoPlace:CK K mg "NoPlace"
 x_NoRow:CK K mg "NoRow"
 x_NoText:CK K mg "NoText"
 x_NoWay:CK K mg "NoWay"
 x_NoWishes:CK K mg "NoWishes"
 x_TooMany:CK K mg "TooMany"
abbrev Sbe:Stmt:=top 59
abbrev N_be:List Str:=["_law_script", "_law_k"]
theorem Hbe:NmF Sbe N_be:=Kn (by decide +kernel)
def XX:SM:=
 UC (sIf (K1 (oIB λi j=>decide (i<j)) 1 (Kq 0))
 (UP (UK 0 (Uv 1)))
 (sNx))
 (UP (UA (.int 0)))
def ZY:qx->qB:=UX N_be XX
abbrev Sba:Stmt:=top 54
abbrev N_ba:List Str:=["one", "other"]
theorem Hba:NmF Sba N_ba:=Kn (by decide +kernel)
def W7:SM:=
 UP (UI Uh (Zu (Xj (Uy (Uv 0) (Ux))) 2 (gT 2 (gNC (gN 2) (gNC (gN 3) (gN0)))) (K1 oNe 3 (UK 1 (Uv 2))) (Uv 2)))
def YM:qx->qB:=UX N_ba W7
abbrev Sbb:Stmt:=top 55
abbrev N_bb:List Str:=["things", "one", "other", "moved", "told", "thing", "takers", "givers", "taker", "giver"]
theorem Hbb:NmF Sbb N_bb:=Kn (by decide +kernel)
def FN:SM:=
 Z8
def OE:SM:=
 UC (Kx 6 (Zu (KR (Uv 3)) 1 (gN 10) (UD oEq (UK 2 (Uv 10)) (Uv 5)) (Uv 10)))
 (UC (Kx 7 (Zu (KR (Uv 3)) 1 (gN 10) (UD oEq (UK 1 (Uv 10)) (Uv 5)) (Uv 10)))
 (Kl (X4 (Uy (Uv 6) (Uy (Uv 7) (Ux)))) (gT 2 (gNC (gN 8) (gNC (gN 9) (gN0)))) FN))
def W6:SM:=
 UC (UR 3 (UL 2 YM (Uy (Uv 1) (Uy (Uv 2) (Ux)))))
 (UC (UR 4 (UA (.dict [])))
 (UC (Kl (YU (Uy (Uv 0) (Ux))) (gN 5) OE)
 (UP (Uv 4))))
def We:qx->qB:=UX N_bb W6
abbrev Saa:Stmt:=top 1
abbrev N_aa:List Str:=["thing"]
theorem Haa:NmF Saa N_aa:=Kn (by decide +kernel)
def Vj:SM:=
 UP (Wm (UI (λd=>.bool (U6 d "int")) (Uv 0)) (TH (UI (λd=>.bool (U6 d "bool")) (Uv 0))))
def Yt:qx->qB:=UX N_aa Vj
abbrev Sab:Stmt:=top 2
abbrev N_ab:List Str:=["thing", "many"]
theorem Hab:NmF Sab N_ab:=Kn (by decide +kernel)
def X0:SM:=
 UP (Wm (UL 1 Yt (Uy (Uv 0) (Ux))) (UI Ui (Xy (oIB λi j=>decide (i<=j)) (oIB λi j=>decide (i<j)) (UA (.int 0)) (Uv 0) (Uv 1))))
def Kv:qx->qB:=UX N_ab X0
abbrev Sad:Stmt:=top 24
abbrev N_ad:List Str:=["thing", "things"]
theorem Had:NmF Sad N_ad:=Kn (by decide +kernel)
def XZ:SM:=
 UC (sIf (mOr (UY (KG (UI (λd=>.bool (U6 d "list")) (Uv 0)))) (UD oEq (Kq 0) (UA (.int 0))))
 (UP (UA (.bool qw)))
 (sNx))
 (UP (Zl Zg (Uy (UI Uh (Zu (KR (Uv 0)) 1 (gN 2) (UA qv) (UL 2 Kv (Uy (Uv 2) (Uy (Uv 1) (Ux)))))) (Ux))))
def Ys:qx->qB:=UX N_ad XZ
abbrev Sae:Stmt:=top 25
abbrev N_ae:List Str:=["thing", "things", "wished"]
theorem Hae:NmF Sae N_ae:=Kn (by decide +kernel)
def XY:SM:=
 UC (sIf (mOr (UY (KG (UI (λd=>.bool (U6 d "list")) (Uv 0)))) (UD (oIB λi j=>decide (j<i)) (Kq 0) (UA (.int 5))))
 (UP (UA (.bool qw)))
 (sNx))
 (UC (sIf (UY (KG (Zl Zg (Uy (UI Uh (Zu (KR (Uv 0)) 1 (gN 3) (UA qv) (UL 2 Ys (Uy (Uv 3) (Uy (Uv 1) (Ux)))))) (Ux)))))
 (UP (UA (.bool qw)))
 (sNx))
 (UC (Kx 2 (WC (KR (Uv 0)) 2 (gN 3) (UA qv) (KR (Uv 3)) (gN 4) (UA qv) (Uv 4)))
 (UP (UI Ui (UD oEq (Zl XA (Uy (Uv 2) (Ux))) (Kq 2))))))
def Yr:qx->qB:=UX N_ae XY
abbrev Saf:Stmt:=top 26
abbrev N_af:List Str:=["lists", "things", "asker", "ranks"]
theorem Haf:NmF Saf N_af:=Kn (by decide +kernel)
def OD:SM:=
 sIf (UY (KG (UL 2 Yr (Uy (Uv 3) (Uy (Uv 1) (Ux))))))
 (Z8)
 (sNx)
def Vh:SM:=
 UC (sIf (mOr (UY (KG (UI (λd=>.bool (U6 d "list")) (Uv 0)))) (UY (Xy (oIB λi j=>decide (i<=j)) (oIB λi j=>decide (i<=j)) (UA (.int 1)) (Kq 0) (UA (.int 7)))))
 (Z8)
 (sNx))
 (Kl (Xj (Uy (Uv 0) (Ux))) (gT 2 (gNC (gN 2) (gNC (gN 3) (gN0)))) OD)
def Wi:qx->qB:=UX N_af Vh
abbrev Sac:Stmt:=top 23
abbrev N_ac:List Str:=["copies", "number", "many"]
theorem Hac:NmF Sac N_ac:=Kn (by decide +kernel)
def OC:SM:=
 sIf (UY (KG (UL 2 Kv (Uy (Uv 2) (Uy (UD UN (UA (.int 7)) (UA (.int 1))) (Ux))))))
 (Z8)
 (sNx)
def Vi:SM:=
 UC (sIf (mOr (UY (KG (UI (λd=>.bool (U6 d "list")) (Uv 0)))) (UY (Xy (oIB λi j=>decide (i<=j)) (oIB λi j=>decide (i<=j)) (UA (.int 1)) (Kq 0) (UA (.int 6)))))
 (Z8)
 (sNx))
 (Kl (Xj (Uy (Uv 0) (Ux))) (gT 2 (gNC (gN 1) (gNC (gN 2) (gN0)))) OC)
def Wj:qx->qB:=UX N_ac Vi
abbrev Sag:Stmt:=top 27
abbrev N_ag:List Str:=["thing", "copies", "lists"]
theorem Hag:NmF Sag N_ag:=Kn (by decide +kernel)
def Vg:SM:=
 UC (sIf (mOr (UY (KG (UI (λd=>.bool (U6 d "tuple")) (Uv 0)))) (UD oNe (Kq 0) (UA (.int 2))))
 (Z8)
 (sNx))
 (UC (K4 (Uv 0) (gT 2 (gNC (gN 1) (gNC (gN 2) (gN0)))))
 (UC (Ww (UL 1 Wj (Uy (Uv 1) (Ux))))
 (Ww (UL 2 Wi (Uy (Uv 2) (Uy (Kq 1) (Ux)))))))
def YN:qx->qB:=UX N_ag Vg
abbrev Sbd:Stmt:=top 57
abbrev N_bd:List Str:=["wishes", "one", "other", "behind", "led_to", "moved", "firsts", "told", "met", "first", "way"]
theorem Hbd:NmF Sbd N_bd:=Kn (by decide +kernel)
def FM:SM:=
 Z8
def W5:SM:=
 UC (Ww (UL 1 YN (Uy (Uv 0) (Ux))))
 (UC (UR 3 (UL 3 We (Uy (Zl U9 (Uy (UK 0 (UA (.int 0))) (Ux))) (Uy (Uv 1) (Uy (Uv 2) (Ux))))))
 (UC (Kx 4 (UH (Uv 3) λd=>UG (Wz d)))
 (UC (UR 5 (UL 2 YM (Uy (Uv 1) (Uy (Uv 2) (Ux)))))
 (UC (UR 6 (UD UN (UI Uh (Wp (KR (Uv 5)) 1 (gN 11) (K1 Y3 11 (Uv 4)) (Uv 11))) (UI Uh (Wp (KR (Uv 5)) 1 (gN 11) (K1 oIn 11 (Uv 4)) (Uv 11)))))
 (UC (Kx 7 (UH (Ux) λxs=>if xs.length<=1000000 then UA xs else λ_=>.bad))
 (UC (Kx 8 (UH (Ux) λxs=>if xs.length<=1000000 then UA xs else λ_=>.bad))
 (UC (Kl (KR (Uv 6)) (gN 9) FM)
 (UP (Uv 7)))))))))
def Wd:qx->qB:=UX N_bd W5
abbrev Sav:Stmt:=top 48
abbrev N_av:List Str:=["dealing", "takings", "place", "taken"]
theorem Hav:NmF Sav N_av:=Kn (by decide +kernel)
def OB:SM:=
 UC (UR 3 (UD oIx (UK 1 (UD Yn (Uv 2) (UA (.int 1)))) (UA (.int 1))))
 (sIf (mOr (UI isNon (Uv 3)) (UD oNe (UK 0 (UD oIx (UK 1 (Uv 2)) (UA (.int 0)))) (Uv 3)))
 (UP (UA (.bool qw)))
 (sNx))
def W9:SM:=
 UC (Kl (VZ (Uy (UA (.int 1)) (Uy (Kq 1) (Ux)))) (gN 2) OB)
 (UP (UA (.bool qv)))
def Xd:qx->qB:=UX N_av W9
abbrev Sah:Stmt:=top 28
abbrev N_ah:List Str:=["ranks", "thing", "number", "rank"]
theorem Hah:NmF Sah N_ah:=Kn (by decide +kernel)
def OA:SM:=
 sIf (K1 oIn 1 (Uv 3))
 (UP (Uv 2))
 (sNx)
def Vf:SM:=
 UC (Kl (TR (Uy (Uv 0) (Ux))) (gT 2 (gNC (gN 2) (gNC (gN 3) (gN0)))) OA)
 (UP (UA (.int 0)))
def Wh:qx->qB:=UX N_ah Vf
abbrev Sau:Stmt:=top 47
abbrev N_au:List Str:=["lists", "dealing", "thing", "asker", "taken"]
theorem Hau:NmF Sau N_au:=Kn (by decide +kernel)
def Va:SM:=
 UC (sIf (mOr (UY (KG (UI (λd=>.bool (U6 d "tuple")) (Uv 2)))) (UD oNe (Kq 2) (UA (.int 2))))
 (UP (UA (.bool qw)))
 (sNx))
 (UC (K4 (Uv 2) (gT 2 (gNC (gN 3) (gNC (gN 4) (gN0)))))
 (UC (sIf (UY (KG (UL 2 Kv (Uy (Uv 3) (Uy (Kq 0) (Ux))))))
 (UP (UA (.bool qw)))
 (sNx))
 (UC (sIf (UI isNon (Uv 4))
 (UP (UI (λd=>.bool (!isNon d)) (UK 1 (Uv 3))))
 (sNx))
 (UP (Wm (UL 1 Yt (Uy (Uv 4) (Ux))) (Wm (UI Ui (K1 oNe 4 (UK 1 (Uv 3)))) (UI Ui (UD (oIB λi j=>decide (j<i)) (UL 2 Wh (Uy (UK 0 (Uv 3)) (Uy (Uv 4) (Ux)))) (UA (.int 0))))))))))
def Xe:qx->qB:=UX N_au Va
abbrev Saj:Stmt:=top 31
abbrev N_aj:List Str:=["wishes", "dealing"]
theorem Haj:NmF Saj N_aj:=Kn (by decide +kernel)
def Ve:SM:=
 UC (Ww (UL 1 YN (Uy (Uv 0) (Ux))))
 (UP (UI Uh (Zu (Xj (Uy (UK 0 (UA (.int 0))) (Ux))) 2 (gT 2 (gNC (gN 2) (gNC (gN 3) (gN0)))) (UA qv) (UD Yn (Uv 3) (Vy (Uv 1) (Uy (Uv 2) (Ux)))))))
def Wg:qx->qB:=UX N_aj Ve
abbrev Saw:Stmt:=top 49
abbrev N_aw:List Str:=["wishes", "dealing", "thing", "left", "last"]
theorem Haw:NmF Saw N_aw:=Kn (by decide +kernel)
def W8:SM:=
 UC (UR 3 (UL 2 Wg (Uy (Uv 0) (Uy (Uv 1) (Ux)))))
 (UC (sIf (mOr (UY (KG (UI (λd=>.bool (U6 d "list")) (Uv 2)))) (UD oEq (Kq 2) (UA (.int 0))))
 (UP (UA (.bool qw)))
 (sNx))
 (UC (sIf (UY (KG (Zl Zg (Uy (UI Uh (Zu (KR (Uv 2)) 1 (gN 5) (UA qv) (UL 3 Xe (Uy (UK 0 (UA (.int 1))) (Uy (Uv 1) (Uy (Uv 5) (Ux))))))) (Ux)))))
 (UP (UA (.bool qw)))
 (sNx))
 (UC (sIf (mOr (UD oNe (V6 (KR (Uv 2)) 2 (gT 2 (gNC (gN 5) (gNC (gN 6) (gN0)))) (UA qv) (Uv 5)) (Kq 2)) (UY (KG (UL 2 Xd (Uy (Uv 1) (Uy (Uv 2) (Ux)))))))
 (UP (UA (.bool qw)))
 (sNx))
 (UC (UR 4 (UD oIx (UK 2 (ZV (UA (.int 1)))) (UA (.int 1))))
 (UP (Yp (UI (λd=>.bool (isNon d)) (Uv 4)) (Yp (UI Ui (UD (oIB λi j=>decide (j<i)) (UK 3 (Uv 4)) (UA (.int 0)))) (UI Ui (UD oEq (UK 1 (UD oIx (UK 2 (UA (.int 0))) (UA (.int 0)))) (Uv 4))))))))))
def Xc:qx->qB:=UX N_aw W8
abbrev Sbm:Stmt:=top 67
abbrev N_bm:List Str:=["_law_caught_here", "_law_words", "_law_names"]
theorem Hbm:NmF Sbm N_bm:=Kn (by decide +kernel)
def g_bm:SM:=
 UC (Kx 1 (UH (Uy (UH (Uv 0) λd=>UG (KQ "NoWishes" d)) (Uy (UH (Uv 0) λd=>UG (KQ "NoAim" d)) (Uy (UH (Uv 0) λd=>UG (KQ "NoWay" d)) (Ux)))) λxs=>if xs.length<=1000000 then UA xs else λ_=>.bad))
 (UC (Kx 1 (Y7 (Uv 1) (UJ (Uy (UH (Uv 0) λd=>UG (KQ "NoNumbering" d)) (Uy (UH (Uv 0) λd=>UG (KQ "NoJoin" d)) (Uy (UH (Uv 0) λd=>UG (KQ "NoBook" d)) (Ux)))))))
 (UC (Kx 1 (Y7 (Uv 1) (UJ (Uy (UH (Uv 0) λd=>UG (KQ "NoChange" d)) (Uy (UH (Uv 0) λd=>UG (KQ "NoDeed" d)) (Uy (UH (Uv 0) λd=>UG (KQ "NoName" d)) (Ux)))))))
 (UC (Kx 1 (Y7 (Uv 1) (UJ (Uy (UH (Uv 0) λd=>UG (KQ "NoPlace" d)) (Uy (UH (Uv 0) λd=>UG (KQ "NoRow" d)) (Uy (UH (Uv 0) λd=>UG (KQ "NoText" d)) (Ux)))))))
 (UC (Ze 1 (UH (Uv 0) λd=>UG (KQ "TooMany" d)))
 (UC (sIf (mOr (UD oNe (Vy (Uv 1) (Uy (UA (.bool qv)) (Ux))) (UA (.int 1))) (UY (KG (UH (Uv 0) λd=>UG (WS d)))))
 (UP (UA (.str "none")))
 (sNx))
 (UC (Kx 2 (UH (Uy (UA (.str "wishes")) (Uy (UA (.str "aim")) (Uy (UA (.str "way")) (Uy (UA (.str "numbering")) (Uy (UA (.str "join")) (Uy (UA (.str "book")) (Uy (UA (.str "change")) (Uy (UA (.str "deed")) (Uy (UA (.str "name")) (Uy (UA (.str "place")) (Uy (UA (.str "row")) (Uy (UA (.str "text")) (Ux))))))))))))) λxs=>if xs.length<=1000000 then UA xs else λ_=>.bad))
 (UP (UD oIx (UD UN (Uv 2) (UJ (Uy (UA (.str "many")) (Ux)))) (Oj (Uv 1) (Uy (UA (.bool qv)) (Ux)))))))))))
def YK:qx->qB:=UX N_bm g_bm
abbrev M5:Stmt:=top 26
abbrev M4:List Str:=["lists", "things", "asker", "ranks"]
theorem MS:NmF M5 M4:=Kn (by decide +kernel)
def M9:SM:=
 sIf (UY (KG (UL 2 Yr (Uy (Uv 3) (Uy (Uv 1) (Ux))))))
 (Z6 "NoWishes" (Uy (UA (.str "lists")) (Uy (Uv 2) (Ux))))
 (sNx)
def R6:SM:=
 UC (sIf (mOr (UY (KG (UI (λd=>.bool (U6 d "list")) (Uv 0)))) (UY (Xy (oIB λi j=>decide (i<=j)) (oIB λi j=>decide (i<=j)) (UA (.int 1)) (Kq 0) (UA (.int 7)))))
 (Z6 "NoWishes" (Uy (UA (.str "lists")) (Uy (UA .none) (Ux))))
 (sNx))
 (Kl (Xj (Uy (Uv 0) (Ux))) (gT 2 (gNC (gN 2) (gNC (gN 3) (gN0)))) M9)
def Sw:qx->Option XR:=KP M4 R6
abbrev MR:Stmt:=top 23
abbrev MQ:List Str:=["copies", "number", "many"]
theorem M8:NmF MR MQ:=Kn (by decide +kernel)
def M6:SM:=
 sIf (UY (KG (UL 2 Kv (Uy (Uv 2) (Uy (UD UN (UA (.int 7)) (UA (.int 1))) (Ux))))))
 (Z6 "NoWishes" (Uy (UA (.str "copies")) (Uy (Uv 1) (Ux))))
 (sNx)
def R9:SM:=
 UC (sIf (mOr (UY (KG (UI (λd=>.bool (U6 d "list")) (Uv 0)))) (UY (Xy (oIB λi j=>decide (i<=j)) (oIB λi j=>decide (i<=j)) (UA (.int 1)) (Kq 0) (UA (.int 6)))))
 (Z6 "NoWishes" (Uy (UA (.str "copies")) (Uy (UA .none) (Ux))))
 (sNx))
 (Kl (Xj (Uy (Uv 0) (Ux))) (gT 2 (gNC (gN 1) (gNC (gN 2) (gN0)))) M6)
def Sx:qx->Option XR:=KP MQ R9
abbrev MP:Stmt:=top 27
abbrev MN:List Str:=["thing", "copies", "lists"]
theorem M7:NmF MP MN:=Kn (by decide +kernel)
def R8:SM:=
 UC (sIf (mOr (UY (KG (UI (λd=>.bool (U6 d "tuple")) (Uv 0)))) (UD oNe (Kq 0) (UA (.int 2))))
 (Z6 "NoWishes" (Uy (UA (.str "wishes")) (Uy (UA .none) (Ux))))
 (sNx))
 (UC (K4 (Uv 0) (gT 2 (gNC (gN 1) (gNC (gN 2) (gN0)))))
 (UC (sX (Zm 1 Sx (Uy (Uv 1) (Ux))) λ_ Z=>.nx Z)
 (sX (Zm 2 Sw (Uy (Uv 2) (Uy (Kq 1) (Ux)))) λ_ Z=>.nx Z)))
def Xq:qx->Option XR:=KP MN R8
abbrev MX:Stmt:=top 57
abbrev MW:List Str:=["wishes", "one", "other", "behind", "led_to", "moved", "firsts", "told", "met", "first", "way"]
theorem M0:NmF MX MW:=Kn (by decide +kernel)
def MV:SM:=
 UC (sX (Zm 1 Xq (Uy (Uv 0) (Ux))) λ_ Z=>.nx Z)
 (Z8)
def SA:qx->Option XR:=KP MW MV
abbrev San:Stmt:=top 38
abbrev N_an:List Str:=["thing", "askers"]
theorem Han:NmF San N_an:=Kn (by decide +kernel)
def Vb:SM:=
 UC (sIf (mOr (UY (KG (UI (λd=>.bool (U6 d "list")) (Uv 0)))) (UY (KG (Zl Zg (Uy (UI Uh (Zu (KR (Uv 0)) 1 (gN 2) (UA qv) (UL 2 Kv (Uy (Uv 2) (Uy (Uv 1) (Ux)))))) (Ux))))))
 (UP (UA (.bool qw)))
 (sNx))
 (UP (UI Ui (UD oEq (Zl XA (Uy (Uv 0) (Ux))) (Kq 0))))
def Xf:qx->qB:=UX N_an Vb
abbrev Sam:Stmt:=top 37
abbrev N_am:List Str:=["thing", "askers", "things"]
theorem Ham:NmF Sam N_am:=Kn (by decide +kernel)
def Vc:SM:=
 UC (sIf (UI isNon (Uv 0))
 (UP (UA (.bool qv)))
 (sNx))
 (UC (sIf (mOr (UY (KG (UI (λd=>.bool (U6 d "list")) (Uv 0)))) (UD oNe (Kq 0) (Uv 1)))
 (UP (UA (.bool qw)))
 (sNx))
 (UP (Zl Zg (Uy (UI Uh (Zu (KR (Uv 0)) 1 (gN 3) (UA qv) (Yp (UI (λd=>.bool (isNon d)) (Uv 3)) (UL 2 Kv (Uy (Uv 3) (Uy (Uv 2) (Ux))))))) (Ux)))))
def Xg:qx->qB:=UX N_am Vc
abbrev Sak:Stmt:=top 34
abbrev N_ak:List Str:=["thing"]
theorem Hak:NmF Sak N_ak:=Kn (by decide +kernel)
def Vd:SM:=
 UP (Wm (UI (λd=>.bool (U6 d "str")) (Uv 0)) (UI Ui (K1 oIn 0 (UA (.tuple ((["firsts", "full", "lasts"]:List Str).map Uj))))))
def Wf:qx->qB:=UX N_ak Vd
abbrev MZ:Stmt:=top 35
abbrev MY:List Str:=["thing"]
theorem MM:NmF MZ MY:=Kn (by decide +kernel)
def R5:SM:=
 sIf (UY (KG (UL 1 Wf (Uy (Uv 0) (Ux)))))
 (Z6 "NoAim" (Uy (UA (.str "order")) (Ux)))
 (sNx)
def Tp:qx->Option XR:=KP MY R5
abbrev ME:Stmt:=top 39
abbrev MD:List Str:=["wishes", "thing", "copies", "lists", "order", "old", "turns"]
theorem MU:NmF ME MD:=Kn (by decide +kernel)
def R3:SM:=
 UC (sX (Zm 1 Xq (Uy (Uv 0) (Ux))) λ_ Z=>.nx Z)
 (UC (sIf (mOr (UY (KG (UI (λd=>.bool (U6 d "tuple")) (Uv 1)))) (UD oNe (Kq 1) (UA (.int 3))))
 (Z6 "NoAim" (Uy (UA (.str "aim")) (Ux)))
 (sNx))
 (UC (K4 (Uv 0) (gT 2 (gNC (gN 2) (gNC (gN 3) (gN0)))))
 (UC (K4 (Uv 1) (gT 3 (gNC (gN 4) (gNC (gN 5) (gNC (gN 6) (gN0))))))
 (UC (sX (Zm 1 Tp (Uy (Uv 4) (Ux))) λ_ Z=>.nx Z)
 (UC (sIf (UY (KG (UL 3 Xg (Uy (Uv 5) (Uy (Kq 3) (Uy (Kq 2) (Ux)))))))
 (Z6 "NoAim" (Uy (UA (.str "old")) (Ux)))
 (sNx))
 (sIf (UY (KG (UL 2 Xf (Uy (Uv 6) (Uy (Kq 3) (Ux))))))
 (Z6 "NoAim" (Uy (UA (.str "turns")) (Ux)))
 (sNx)))))))
def WP:qx->Option XR:=KP MD R3
abbrev NW:Stmt:=top 52
abbrev NV:List Str:=["wishes", "aim", "dealing", "way"]
theorem Mr:NmF NW NV:=Kn (by decide +kernel)
def NU:SM:=
 UC (sX (Zm 2 WP (Uy (Uv 0) (Uy (Uv 1) (Ux)))) λ_ Z=>.nx Z)
 (Z8)
def Ti:qx->Option XR:=KP NV NU
abbrev MC:Stmt:=top 31
abbrev MB:List Str:=["wishes", "dealing"]
theorem MT:NmF MC MB:=Kn (by decide +kernel)
def MA:SM:=
 UC (sX (Zm 1 Xq (Uy (Uv 0) (Ux))) λ_ Z=>.nx Z)
 (Z8)
def Sz:qx->Option XR:=KP MB MA
abbrev NM:Stmt:=top 49
abbrev NL:List Str:=["wishes", "dealing", "thing", "left", "last"]
theorem NT:NmF NM NL:=Kn (by decide +kernel)
def RM:SM:=
 UC (sX (Zm 2 Sz (Uy (Uv 0) (Uy (Uv 1) (Ux)))) λd Z=>match gN 3 d Z with|some Z'=>.nx Z'|none=>.bad)
 (Z8)
def VI:qx->Option XR:=KP NL RM
abbrev Oz:Stmt:=top 51
abbrev Oy:List Str:=["wishes", "dealing", "way"]
theorem No:NmF Oz Oy:=Kn (by decide +kernel)
def Ru:SM:=
 UC (sX (Zm 3 VI (Uy (Uv 0) (Uy (Uv 1) (Uy (Uv 2) (Ux))))) λd Z=>match d with | .bool b=>if b=qv then(Z8) Z else(Z8) Z|_=>.bad)
 (Z8)
def T7:qx->Option XR:=KP Oy Ru
abbrev MG:Stmt:=top 65
abbrev MF:List Str:=["_law_number", "_law_wishes_here", "_law_aim", "_law_dealing", "_law_way"]
theorem Mz:NmF MG MF:=Kn (by decide +kernel)
def Sy:SM:=
 UC (sIf (K1 oEq 0 (UA (.int 0)))
 (sX (Zm 3 VI (Uy (Uv 1) (Uy (Uv 3) (Uy (Uv 4) (Ux))))) λd _=>.rt d)
 (sNx))
 (UC (sIf (K1 oEq 0 (UA (.int 1)))
 (sX (Zm 3 T7 (Uy (Uv 1) (Uy (Uv 3) (Uy (Uv 4) (Ux))))) λd _=>.rt d)
 (sNx))
 (UC (sIf (K1 oEq 0 (UA (.int 2)))
 (sX (Zm 4 Ti (Uy (Uv 1) (Uy (Uv 2) (Uy (Uv 3) (Uy (Uv 4) (Ux)))))) λd _=>.rt d)
 (sNx))
 (sX (Zm 3 SA (Uy (Uv 1) (Uy (Uv 3) (Uy (Uv 3) (Ux))))) λd _=>.rt d)))
def VS:qx->Option XR:=KP MF Sy
abbrev Sbl:Stmt:=top 66
abbrev N_bl:List Str:=["_law_number", "_law_wishes_here", "_law_aim", "_law_dealing", "_law_way", "e"]
theorem Hbl:NmF Sbl N_bl:=Kn (by decide +kernel)
def WZ:SM:=
 UC (Y0 5 "DealError" (sX (Zm 5 VS (Uy (Uv 0) (Uy (Uv 1) (Uy (Uv 2) (Uy (Uv 3) (Uy (Uv 4) (Ux))))))) λ_ Z=>.nx Z) (UP (Uv 5)))
 (UP (UA .none))
def Xb:qx->qB:=UX N_bl WZ
abbrev Sbp:Stmt:=top 70
abbrev N_bp:List Str:=["_law_caught_here"]
theorem Hbp:NmF Sbp N_bp:=Kn (by decide +kernel)
def g_bp:SM:=
 UP (UW (Uy (UH (Uv 0) λd=>UG (Yo "part" d)) (Uy (UD oIx (UJ (Uy (UH (Uv 0) λd=>UG (Yo "number" d)) (Uy (UA (.str "truth")) (Ux)))) (Zl SD (Uy (UI (λd=>.bool (U6 d "bool")) (UH (Uv 0) λd=>UG (Yo "number" d))) (Ux)))) (Ux))))
def Xa:qx->qB:=UX N_bp g_bp
abbrev Sbo:Stmt:=top 69
abbrev N_bo:List Str:=["_law_wishes_here", "_law_number", "_law_places"]
theorem Hbo:NmF Sbo N_bo:=Kn (by decide +kernel)
def WX:SM:=
 UC (UR 2 (UD UN (UD U0 (UJ (Uy (UW (Uy (UA (.str "wishes")) (Uy (UA .none) (Ux)))) (Ux))) (UA (.int 4))) (UJ (Uy (UW (Uy (UA (.str "copies")) (Uy (UA .none) (Ux)))) (Uy (UW (Uy (UA (.str "lists")) (Uy (UA .none) (Ux)))) (Uy (UW (Uy (UA (.str "copies")) (Uy (UA .none) (Ux)))) (Ux)))))))
 (UC (UR 2 (UD UN (UD UN (UD UN (Uv 2) (UD U0 (UJ (Uy (UW (Uy (UA (.str "copies")) (Uy (UA (.int 0)) (Ux)))) (Ux))) (UA (.int 3)))) (UD U0 (UJ (Uy (UW (Uy (UA (.str "lists")) (Uy (UA (.int 0)) (Ux)))) (Ux))) (UA (.int 5)))) (UJ (Uy (UW (Uy (UA (.str "lists")) (Uy (UA .none) (Ux)))) (Ux)))))
 (UC (sIf (ZS (K1 oEq 1 (UA (.int 10))) (UD oEq (Zl U9 (Uy (UK 0 (UA (.int 1))) (Ux))) (UA (.int 7))))
 (UP (UW (Uy (UA (.str "lists")) (Uy (UA .none) (Ux)))))
 (sNx))
 (UP (UK 2 (Uv 1)))))
def X8:qx->qB:=UX N_bo WX
abbrev Sbn:Stmt:=top 68
abbrev N_bn:List Str:=["_law_wishes_here", "_law_number", "_law_copies", "_law_lists", "_law_some"]
theorem Hbn:NmF Sbn N_bn:=Kn (by decide +kernel)
def WY:SM:=
 UC (K4 (Uv 0) (gT 2 (gNC (gN 2) (gNC (gN 3) (gN0)))))
 (UC (Kx 4 (UH (Uy (UA .none) (Uy (UW (Uy (Uv 2) (Ux))) (Uy (UJ (Uy (Uv 2) (Uy (Uv 3) (Ux)))) (Uy (UW (Uy (Uv 2) (Uy (Uv 3) (Uy (UA (.int 0)) (Ux))))) (Uy (UW (Uy (UJ (Ux)) (Uy (Uv 3) (Ux)))) (Uy (UW (Uy (Uv 2) (Uy (UJ (Ux)) (Ux)))) (Uy (UW (Uy (Zl Tr (Uy (Uv 2) (Ux))) (Uy (Uv 3) (Ux)))) (Ux)))))))) λxs=>if xs.length<=1000000 then UA xs else λ_=>.bad))
 (UC (UR 4 (UD UN (Uv 4) (UJ (Uy (UW (Uy (UD UN (UJ (Uy (UA (.bool qv)) (Ux))) (K0 (Uv 2) (UH (UA (.int 1)) λx=>UG (ZZ x)) (UA qu))) (Uy (Uv 3) (Ux)))) (Uy (UW (Uy (UD UN (UJ (Uy (ZV (UA (.int 1))) (Ux))) (K0 (Uv 2) (UH (UA (.int 1)) λx=>UG (ZZ x)) (UA qu))) (Uy (Uv 3) (Ux)))) (Uy (UW (Uy (UD UN (UJ (Uy (UA (.int 8)) (Ux))) (K0 (Uv 2) (UH (UA (.int 1)) λx=>UG (ZZ x)) (UA qu))) (Uy (Uv 3) (Ux)))) (Ux)))))))
 (UC (UR 4 (UD UN (Uv 4) (UJ (Uy (UW (Uy (Uv 2) (Uy (UD UN (UJ (Uy (UA .none) (Ux))) (Uv 3)) (Ux)))) (Uy (UW (Uy (Uv 2) (Uy (UD UN (UJ (Uy (UJ (Uy (UJ (Ux)) (Ux))) (Ux))) (K0 (Uv 3) (UH (UA (.int 1)) λx=>UG (ZZ x)) (UA qu))) (Ux)))) (Uy (UW (Uy (Uv 2) (Uy (UD UN (UJ (Uy (UJ (Uy (UJ (Uy (UA (.int 0)) (Uy (UA (.int 0)) (Ux)))) (Ux))) (Ux))) (K0 (Uv 3) (UH (UA (.int 1)) λx=>UG (ZZ x)) (UA qu))) (Ux)))) (Ux)))))))
 (UC (UR 4 (UD UN (Uv 4) (UJ (Uy (UW (Uy (Uv 2) (Uy (UD UN (UJ (Uy (UJ (Uy (UJ (Uy (Kq 2) (Ux))) (Ux))) (Ux))) (K0 (Uv 3) (UH (UA (.int 1)) λx=>UG (ZZ x)) (UA qu))) (Ux)))) (Uy (UW (Uy (Uv 2) (Uy (UD UN (UJ (Uy (UJ (Uy (UA (.int 0)) (Ux))) (Ux))) (K0 (Uv 3) (UH (UA (.int 1)) λx=>UG (ZZ x)) (UA qu))) (Ux)))) (Uy (UW (Uy (Uv 2) (Uy (Zl Tr (Uy (Uv 3) (Ux))) (Ux)))) (Ux)))))))
 (UP (UK 4 (UD KY (Uv 1) (UA (.int 16)))))))))
def X9:qx->qB:=UX N_bn WY
abbrev Sbh:Stmt:=top 62
abbrev N_bh:List Str:=["_law_wishes_here", "_law_asker"]
theorem Hbh:NmF Sbh N_bh:=Kn (by decide +kernel)
def W2:SM:=
 UP (Zl Tw (Uy (Zl Vn (Uy (UD oIx (UK 0 (UA (.int 1))) (Uv 1)) (Uy (UJ (Ux)) (Ux)))) (Ux)))
def YL:qx->qB:=UX N_bh W2
abbrev Sbf:Stmt:=top 60
abbrev N_bf:List Str:=["_law_cell", "_law_salt", "_law_sizes", "_law_number", "_law_left", "_law_found", "_law_k", "_law_one"]
theorem Hbf:NmF Sbf N_bf:=Kn (by decide +kernel)
def Rt:SM:=
 sIf (ZS (K1 (oIB λi j=>decide (j<=i)) 3 (UD Y2 (UA (.int 10)) (UA (.int 18)))) (K1 (oIB λi j=>decide (j<i)) 4 (UA (.int 0))))
 (UC (Ze 5 (UD KY (Uv 4) (UK 2 (Uv 6))))
 (UR 4 (UD Y4 (Uv 4) (UK 2 (Uv 6)))))
 (UC (UR 7 (UD KY (UD UN (UD UN (UD UN (Uv 3) (UD U0 (UA (.int 7919)) (Uv 1))) (UD U0 (UD U0 (UA (.int 101)) (Uv 6)) (Uv 6))) (Uv 6)) (UA (.int 2147483647))))
 (UC (UR 7 (UD KY (UD U0 (Uv 7) (UA (.int 48271))) (UA (.int 2147483647))))
 (UC (UR 7 (UD KY (UD U0 (UD KY (UD U0 (Uv 7) (Uv 7)) (UA (.int 2147483629))) (UA (.int 48271))) (UA (.int 2147483647))))
 (Ze 5 (UD KY (UD Y4 (Uv 7) (UA (.int 16))) (UK 2 (Uv 6)))))))
def W4:SM:=
 UC (UR 3 (Zl TF (Uy (Uv 0) (Uy (UD Yn (ZV (UA (.int 1))) (Uv 0)) (Ux)))))
 (UC (UR 4 (Uv 3))
 (UC (Kx 5 (UH (Ux) λxs=>if xs.length<=1000000 then UA xs else λ_=>.bad))
 (UC (Kl (YU (Uy (Kq 2) (Ux))) (gN 6) Rt)
 (UP (Uv 5)))))
def Zi:qx->qB:=UX N_bf W4
abbrev Sbj:Stmt:=top 64
abbrev N_bj:List Str:=["_law_wishes_here", "_law_dealing", "_law_cell", "_law_salt", "_law_digits", "_law_way", "_law_asker", "_law_k", "_law_some", "_law_what", "_law_used", "_law_holders"]
theorem Hbj:NmF Sbj N_bj:=Kn (by decide +kernel)
def Ox:SM:=
 UC (UR 8 (UD UN (UI Uh (Zu (KR (UL 2 YL (Uy (Uv 0) (Uy (Uv 6) (Ux))))) 1 (gN 12) (K1 oNe 12 (UK 1 (Uv 6))) (Uv 12))) (UJ (Uy (UA .none) (Ux)))))
 (UC (UR 9 (UK 8 (UD KY (UK 4 (UD UN (UA (.int 1)) (UD U0 (UA (.int 2)) (Uv 7)))) (Kq 8))))
 (UC (Ze 5 (UW (Uy (Uv 6) (Uy (Uv 9) (Ux)))))
 (UC (Kx 10 (V7 (Zu (KR (Uv 5)) 1 (gN 12) (UA qv) (UK 12 (UA (.int 0))))))
 (UC (Kx 11 (Wp (YU (Uy (Kq 1) (Ux))) 1 (gN 12) (ZS (UD oEq (UK 1 (Uv 12)) (Uv 9)) (K1 Y3 12 (Uv 10))) (Uv 12)))
 (UC (sIf (mOr (UI isNon (Uv 9)) (mOr (K1 oEq 11 (UJ (Ux))) (UD (oIB λi j=>decide (i<j)) (UK 4 (UD UN (UA (.int 2)) (UD U0 (UA (.int 2)) (Uv 7)))) (UA (.int 9)))))
 (UP (Uv 5))
 (sNx))
 (UR 6 (UK 11 (UD KY (UK 4 (UD UN (UA (.int 2)) (UD U0 (UA (.int 2)) (Uv 7)))) (Kq 11)))))))))
def W0:SM:=
 UC (UR 4 (UL 3 Zi (Uy (Uv 2) (Uy (Uv 3) (Uy (UD UN (UJ (Uy (Kq 1) (Ux))) (UD U0 (UJ (Uy (UA (.int 61)) (Uy (UA (.int 53)) (Ux)))) (UA (.int 7)))) (Ux))))))
 (UC (Kx 5 (UH (Ux) λxs=>if xs.length<=1000000 then UA xs else λ_=>.bad))
 (UC (UR 6 (UK 4 (UA (.int 0))))
 (UC (Kl (YU (Uy (UA (.int 7)) (Ux))) (gN 7) Ox)
 (UP (Uv 5)))))
def Wa:qx->qB:=UX N_bj W0
abbrev Sbi:Stmt:=top 63
abbrev N_bi:List Str:=["_law_wishes_here", "_law_cell", "_law_salt", "_law_left", "_law_digits", "_law_found", "_law_asker", "_law_some", "_law_thing"]
theorem Hbi:NmF Sbi N_bi:=Kn (by decide +kernel)
def Rs:SM:=
 UC (UR 7 (UD UN (UI Uh (Wp (KR (UL 2 YL (Uy (Uv 0) (Uy (Uv 6) (Ux))))) 1 (gN 9) (UD (oIB λi j=>decide (j<i)) (UK 3 (Uv 9)) (UA (.int 0))) (Uv 9))) (UJ (Uy (UA .none) (Ux)))))
 (UC (UR 8 (UK 7 (UD KY (UK 4 (Uv 6)) (Kq 7))))
 (UC (sIf (UI (λd=>!isNon d) (Uv 8))
 (TD 3 (Uv 8) (UD Yn (UK 3 (Uv 8)) (UA (.int 1))))
 (sNx))
 (Ze 5 (Uv 8))))
def W1:SM:=
 UC (Kx 3 (UH (Uy (UK 0 (UA (.int 0))) (Ux)) λxs=>UG (Vo xs)))
 (UC (UR 4 (UL 3 Zi (Uy (Uv 1) (Uy (Uv 2) (Uy (UD U0 (UJ (Uy (UA (.int 61)) (Ux))) (Zl U9 (Uy (UK 0 (UA (.int 1))) (Ux)))) (Ux))))))
 (UC (Kx 5 (UH (Ux) λxs=>if xs.length<=1000000 then UA xs else λ_=>.bad))
 (UC (Kl (YU (Uy (Zl U9 (Uy (UK 0 (UA (.int 1))) (Ux))) (Ux))) (gN 6) Rs)
 (UP (Uv 5)))))
def Wb:qx->qB:=UX N_bi W1
abbrev Sbg:Stmt:=top 61
abbrev N_bg:List Str:=["_law_script", "_law_at", "_law_most_things", "_law_most_askers", "_law_most_ranks", "_law_digits", "_law_copies", "_law_lists", "_law_asker", "_law_cell", "_law_places", "_law_ranks", "_law_rank", "_law_row"]
theorem Hbg:NmF Sbg N_bg:=Kn (by decide +kernel)
def Rr:SM:=
 UC (Kx 13 (Zu (YU (Uy (Kq 6) (Ux))) 1 (gN 14) (UD oEq (UK 10 (Uv 14)) (Uv 12)) (Uv 14)))
 (sIf (K1 oNe 13 (UJ (Ux)))
 (Ze 11 (UD oIx (UJ (Uy (Uv 13) (Uy (X5 (Uv 13) (UA qu) (UA qu) (UH (ZV (UA (.int 1))) λx=>UG (ZZ x))) (Ux)))) (UK 10 (ZV (UA (.int 1))))))
 (sNx))
def Rq:SM:=
 UC (UR 9 (UL 2 ZY (Uy (Uv 0) (Uy (UD UN (UD UN (Uv 1) (UA (.int 1))) (Uv 8)) (Ux)))))
 (UC (UR 10 (UL 3 Zi (Uy (Uv 9) (Uy (UD UN (UD UN (UD U0 (UA (.int 11)) (Uv 1)) (UD U0 (UA (.int 3)) (Uv 8))) (UA (.int 1))) (Uy (UD UN (UD U0 (UJ (Uy (UD UN (Uv 4) (UA (.int 1))) (Ux))) (Uv 2)) (UJ (Uy (UA (.int 2)) (Ux)))) (Ux))))))
 (UC (Kx 11 (UH (Ux) λxs=>if xs.length<=1000000 then UA xs else λ_=>.bad))
 (UC (Kl (VZ (Uy (UA (.int 1)) (Uy (UD UN (Uv 4) (UA (.int 1))) (Ux)))) (gN 12) Rr)
 (Ze 7 (Uv 11)))))
def W3:SM:=
 UC (UR 5 (UL 3 Zi (Uy (UL 2 ZY (Uy (Uv 0) (Uy (Uv 1) (Ux)))) (Uy (Uv 1) (Uy (UD UN (UJ (Uy (Uv 2) (Uy (Uv 3) (Ux)))) (UD U0 (UJ (Uy (UA (.int 11)) (Ux))) (Uv 2))) (Ux))))))
 (UC (Kx 6 (Zu (KR (K0 (Uv 5) (UH (UA (.int 2)) λx=>UG (ZZ x)) (UH (UD UN (UA (.int 3)) (UK 5 (UA (.int 0)))) λx=>UG (ZZ x)))) 1 (gN 14) (UA qv) (UD oIx (UJ (Uy (UA (.int 1)) (Uy (UA (.int 1)) (Uy (UA (.int 2)) (Uy (UA (.int 0)) (Uy (UA (.int 3)) (Uy (UA (.int 7)) (Uy (UA (.int 1)) (Uy (UA (.int 4)) (Uy (UA (.int 5)) (Uy (UA (.int 6)) (Uy (UA (.int 1)) (Ux))))))))))))) (Uv 14))))
 (UC (Kx 7 (UH (Ux) λxs=>if xs.length<=1000000 then UA xs else λ_=>.bad))
 (UC (Kl (YU (Uy (UD UN (UA (.int 1)) (UK 5 (UA (.int 1)))) (Ux))) (gN 8) Rq)
 (UP (UW (Uy (Uv 6) (Uy (Uv 7) (Ux))))))))
def Wc:qx->qB:=UX N_bg W3
abbrev Sbq:Stmt:=top 71
abbrev N_bq:List Str:=["_law_script", "_law_wishes_here", "_law_dealing", "_law_aim", "_law_k", "_law_cell", "_law_digits", "_law_no_aim", "_law_way", "_law_odd", "_law_number", "_law_bad", "_law_caught_here", "_law_parts"]
theorem Hbq:NmF Sbq N_bq:=Kn (by decide +kernel)
def Ow:SM:=
 UC (UR 11 (UL 2 X9 (Uy (Uv 1) (Uy (UK 6 (UA (.int 0))) (Ux)))))
 (UC (UR 12 (UL 5 Xb (Uy (Uv 10) (Uy (Uv 11) (Uy (UD oIx (UJ (Uy (Uv 3) (Uy (Uv 7) (Ux)))) (UD KY (Uv 4) (UA (.int 2)))) (Uy (Uv 2) (Uy (Uv 9) (Ux))))))))
 (UC (sIf (UD oNe (UL 1 YK (Uy (Uv 12) (Ux))) (UA (.str "wishes")))
 (UP (UA (.bool qw)))
 (sNx))
 (sIf (UD oNe (UL 1 Xa (Uy (Uv 12) (Ux))) (UL 2 X8 (Uy (Uv 1) (Uy (UK 6 (UA (.int 0))) (Ux)))))
 (UP (UA (.bool qw)))
 (sNx))))
def Ov:SM:=
 UC (UR 6 (UL 3 Zi (Uy (Uv 5) (Uy (UD UN (UA (.int 20)) (Uv 4)) (Uy (UJ (Uy (UA (.int 16)) (Uy (UA (.int 9)) (Uy (UA (.int 4)) (Ux))))) (Ux))))))
 (UC (Kx 7 (UH (Uy (UA .none) (Uy (UW (Uy (UA (.str "first")) (Uy (UA .none) (Uy (UJ (Ux)) (Ux))))) (Uy (UW (Uy (UA (.str "full")) (Uy (UA .none) (Ux)))) (Uy (UJ (Uy (UA (.str "full")) (Uy (UA .none) (Uy (UJ (Ux)) (Ux))))) (Uy (UW (Uy (UA (.str "full")) (Uy (UA (.int 0)) (Uy (UJ (Ux)) (Ux))))) (Uy (UW (Uy (UA (.str "lasts")) (Uy (UJ (Ux)) (Uy (UJ (Ux)) (Ux))))) (Ux))))))) λxs=>if xs.length<=1000000 then UA xs else λ_=>.bad))
 (UC (UR 7 (UD oIx (UD UN (Uv 7) (UJ (Uy (UW (Uy (UA (.str "lasts")) (Uy (UA .none) (Uy (UA .none) (Ux))))) (Uy (UW (Uy (UA (.str "full")) (Uy (UA .none) (Uy (UJ (Uy (UA (.int 0)) (Uy (UA (.int 0)) (Ux)))) (Ux))))) (Uy (UW (Uy (UA (.str "full")) (Uy (UA .none) (Uy (UJ (Uy (Kq 2) (Ux))) (Ux))))) (Ux)))))) (UK 6 (UA (.int 1)))))
 (UC (UR 8 (UL 4 Wa (Uy (Uv 1) (Uy (Uv 2) (Uy (Uv 5) (Uy (UD UN (UA (.int 60)) (Uv 4)) (Ux)))))))
 (UC (UR 9 (UD oIx (UJ (Uy (Uv 8) (Uy (UA .none) (Uy (UJ (Ux)) (Uy (UW (Uy (UA (.int 5)) (Ux))) (Ux)))))) (UK 6 (UA (.int 2)))))
 (UC (Kl (YU (Uy (UA (.int 4)) (Ux))) (gN 10) Ow)
 (UC (UR 12 (UL 5 Xb (Uy (UA (.int 2)) (Uy (Uv 1) (Uy (Uv 7) (Uy (Uv 2) (Uy (Uv 9) (Ux))))))))
 (UC (Kx 13 (UH (Uy (UA (.str "aim")) (Uy (UA (.str "order")) (Uy (UA (.str "aim")) (Uy (UA (.str "aim")) (Uy (UA (.str "old")) (Uy (UA (.str "old")) (Uy (UA (.str "turns")) (Uy (UA (.str "turns")) (Uy (UA (.str "turns")) (Ux)))))))))) λxs=>if xs.length<=1000000 then UA xs else λ_=>.bad))
 (UC (sIf (mOr (UD oNe (UL 1 YK (Uy (Uv 12) (Ux))) (UA (.str "aim"))) (UD oNe (UH (Uv 12) λd=>UG (Yo "part" d)) (UK 13 (UK 6 (UA (.int 1))))))
 (UP (UA (.bool qw)))
 (sNx))
 (UC (sIf (UY (KG (UI (λd=>.bool (U6 d "bool")) (UL 3 Xc (Uy (Uv 1) (Uy (Uv 2) (Uy (Uv 8) (Ux))))))))
 (UP (UA (.bool qw)))
 (sNx))
 (sIf (UD oNe (UL 3 Wd (Uy (Uv 1) (Uy (Uv 2) (Uy (Uv 2) (Ux))))) (UJ (Ux)))
 (UP (UA (.bool qw)))
 (sNx)))))))))))
def WW:SM:=
 UC (UR 1 (UL 5 Wc (Uy (Uv 0) (Uy (UA (.int 0)) (Uy (UA (.int 6)) (Uy (UA (.int 7)) (Uy (UA (.int 5)) (Ux))))))))
 (UC (UR 2 (UL 3 Wb (Uy (Uv 1) (Uy (UL 2 ZY (Uy (Uv 0) (Uy (UA (.int 8)) (Ux)))) (Uy (UA (.int 8)) (Ux))))))
 (UC (UR 3 (UW (Uy (UA (.str "firsts")) (Uy (UA .none) (Uy (UJ (Ux)) (Ux))))))
 (UC (Kl (Xj (Uy (UD UN (UJ (Uy (UL 2 ZY (Uy (Uv 0) (Uy (UA (.int 0)) (Ux)))) (Ux))) (K0 (Uv 0) (UH (UA (.int 9)) λx=>UG (ZZ x)) (UH (UA (.int 30)) λx=>UG (ZZ x)))) (Ux))) (gT 2 (gNC (gN 4) (gNC (gN 5) (gN0)))) Ov)
 (UP (UA (.bool qv))))))
def X7:qx->qB:=UX N_bq WW
set_option hygiene false in
local macro_rules | `(tactic| walk_at "g")=>`(tactic| first | exact gA nm rfl | exact Hn rfl)
set_option hygiene false in
local macro_rules | `(tactic| walk_at "v")=>`(tactic| first | exact pq nm _ | exact pvb _)
set_option hygiene false in
local macro_rules | `(tactic| walk_at "b")=>`(tactic| first | ((with_reducible show OpB _ (compareOp CmpOp.Eq) _);first | exact B_eq hu) | ((with_reducible show OpB _ (compareOp CmpOp.NotEq) _);first | exact B_ne hu) | ((with_reducible show OpB _ (compareOp CmpOp.Lt) _);first | exact B_lt) | ((with_reducible show OpB _ (compareOp CmpOp.LtE) _);first | exact B_le) | ((with_reducible show OpB _ (compareOp CmpOp.Gt) _);first | exact B_gt) | ((with_reducible show OpB _ (compareOp CmpOp.GtE) _);first | exact B_ge) | ((with_reducible show OpB _ (compareOp CmpOp.In) _);first | exact B_in hu) | ((with_reducible show OpB _ (compareOp CmpOp.NotIn) _);first | exact Ld hu))
set_option hygiene false in
local macro_rules | `(tactic| walk_at "m")=>`(tactic| first | exact Ga _ | exact rfl)
set_option hygiene false in
local macro_rules | `(tactic| walk_at "k")=>`(tactic| first | exact DX | exact Bm | exact Bl)
set_option hygiene false in
local macro_rules | `(tactic| walk_at "w")=>`(tactic| first | exact PassesOwn.never | exact C0)
set_option hygiene false in
local macro_rules | `(tactic| walk_at "x")=>`(tactic| first | assumption | exact DB)
set_option hygiene false in
local macro_rules | `(tactic| walk_at "c")=>`(tactic| first | exact T.c_MOST_ASKERS | exact T.c_MOST_COPIES | exact T.c_MOST_RANKS | exact T.c_MOST_THINGS | exact T.c_ORDERS)
set_option hygiene false in
local macro_rules | `(tactic| walk_at "ck")=>`(tactic| first | exact T.x_DealError | exact T.x_NoAim | exact T.x_NoBook | exact T.x_NoChange | exact T.x_NoDeed | exact T.x_NoJoin | exact T.x_NoName | exact T.x_NoNumbering | exact T.x_NoPlace | exact T.x_NoRow | exact T.x_NoText | exact T.x_NoWay | exact T.x_NoWishes | exact T.x_TooMany)
set_option hygiene false in
local macro_rules | `(tactic| walk_at "e")=>`(tactic| first | ((with_reducible show PE _ (Expr.Call (Expr.Name _ _) [Expr.SetComp _ _ _ _] _ _) _);first | refine HH nm (by walk_at "g") T.b_len rfl ?_ ?_ (by decide +kernel)) | ((with_reducible show PE _ (Expr.Name _ _) _);first | exact Od (pq nm _) | exact Od (pvb _) | exact Lf (by walk_at "g") (by walk_at "c") | exact Lc (by walk_at "g") (by walk_at "c")) | ((with_reducible show PE _ (Expr.Constant _ _ _) _);first | exact GH | exact EG | exact GF | exact EH) | ((with_reducible show PE _ (Expr.Subscript _ _ _) _);first | refine Em (by walk_at "v") ?_ (fun _ _=>rfl) | refine BO ?_ ?_ ?_ | refine Fn ?_ ?_ ?_ ?_ | refine Gw ?_ ?_ (fun _ _=>rfl)) | ((with_reducible show PE _ (Expr.BinOp _ Operator.Add _ _) _);first | refine Wx Pt ?_ ?_) | ((with_reducible show PE _ (Expr.BinOp _ Operator.Sub _ _) _);first | refine Wx Lp ?_ ?_) | ((with_reducible show PE _ (Expr.BinOp _ Operator.Mult _ _) _);first | refine Wx Ps ?_ ?_) | ((with_reducible show PE _ (Expr.BinOp _ Operator.Mod _ _) _);first | refine Wx Lo ?_ ?_) | ((with_reducible show PE _ (Expr.BinOp _ Operator.FloorDiv _ _) _);first | refine Wx Ln ?_ ?_) | ((with_reducible show PE _ (Expr.BinOp _ Operator.Pow _ _) _);first | refine Wx Lm ?_ ?_) | ((with_reducible show PE _ (Expr.Call (Expr.Name "len" _) _ _ _) _);first | refine D2 (by walk_at "g") T.b_len (by walk_at "v") | refine Tk Pr (by walk_at "g") T.b_len boot_len ?_ | refine BN rfl (by walk_at "g") T.b_len (by walk_at "g") T.b_set ?_) | ((with_reducible show PE _ (Expr.Call (Expr.Name "max" _) _ _ _) _);first | refine Tk (Gv rfl) (by walk_at "g") T.b_max boot_max ?_) | ((with_reducible show PE _ (Expr.Call (Expr.Name "sorted" _) _ _ _) _);first | refine Tk L7 (by walk_at "g") T.b_sorted PyProof.Rows.boot_sorted ?_) | ((with_reducible show PE _ (Expr.Call (Expr.Name "sum" _) _ _ _) _);first | refine Tk (Hb rfl) (by walk_at "g") T.b_sum PyProof.Rows.boot_sum ?_) | ((with_reducible show PE _ (Expr.Call (Expr.Name "all" _) _ _ _) _);first | refine Tk (Lh rfl) (by walk_at "g") T.b_all PyProof.Rows.boot_all ?_) | ((with_reducible show PE _ (Expr.Call (Expr.Name "int" _) _ _ _) _);first | refine Mp Hc (by walk_at "g") T.b_int PyProof.Rows.boot_int ?_) | ((with_reducible show PE _ (Expr.Call (Expr.Name "tuple" _) _ _ _) _);first | refine Mp LN (by walk_at "g") T.b_tuple AG ?_) | ((with_reducible show PE _ (Expr.Call (Expr.Name "isinstance" _) [_,Expr.Name "int" _] _ _) _);first | refine Tj (c := "int") (by decide) (by walk_at "g") T.b_isinstance (by walk_at "g") T.b_int (by decide +kernel) ?_ (by decide) (by decide)) | ((with_reducible show PE _ (Expr.Call (Expr.Name "isinstance" _) [_,Expr.Name "list" _] _ _) _);first | refine Tj (c := "list") (by decide) (by walk_at "g") T.b_isinstance (by walk_at "g") T.b_list (by decide +kernel) ?_ (by decide) (by decide)) | ((with_reducible show PE _ (Expr.Call (Expr.Name "isinstance" _) [_,Expr.Name "tuple" _] _ _) _);first | refine Tj (c := "tuple") (by decide) (by walk_at "g") T.b_isinstance (by walk_at "g") T.b_tuple (by decide +kernel) ?_ (by decide) (by decide)) | ((with_reducible show PE _ (Expr.Call (Expr.Name "isinstance" _) [_,Expr.Name "bool" _] _ _) _);first | refine Tj (c := "bool") (by decide) (by walk_at "g") T.b_isinstance (by walk_at "g") T.b_bool (by decide +kernel) ?_ (by decide) (by decide)) | ((with_reducible show PE _ (Expr.Call (Expr.Name "isinstance" _) [_,Expr.Name "str" _] _ _) _);first | refine Tj (c := "str") (by decide) (by walk_at "g") T.b_isinstance (by walk_at "g") T.b_str (by decide +kernel) ?_ (by decide) (by decide)) | ((with_reducible show PE _ (Expr.Call (Expr.Name "isinstance" _) _ _ _) _);first | refine GX (by walk_at "g") T.b_isinstance (by walk_at "g") T.b_ValueError ?_ | refine GZ (by walk_at "ck") (by walk_at "g") T.b_isinstance (by walk_at "g") ?_) | ((with_reducible show PE _ (Expr.Call (Expr.Name _ _) _ _ _) _);first | refine pdf (by assumption) hr (by walk_at "g") ?_) | ((with_reducible show PE _ (Expr.Call _ _ _ _) _);first | refine Bb hu ?_ ?_ | refine Ab ?_ ?_) | refine OL ?_ | refine OM ?_ | ((with_reducible show PE _ (Expr.Compare _ _ _ _) _);first | refine Eo ?_ | refine D5 ?_ | refine Fo (by walk_at "b") (by walk_at "v") ?_ (by walk_at "m") | refine Ez (by walk_at "b") ?_ ?_ (by walk_at "m") | refine CW (by walk_at "b") (by walk_at "b") ?_ ?_ ?_) | refine Fu ?_ | refine EQ ?_ | refine Er ?_ | refine Et ?_ ?_ | refine Gx ?_ ?_ | refine Es ?_ | refine E9 ?_ | exact Fs)
set_option hygiene false in
local macro_rules | `(tactic| walk_at "t")=>`(tactic| first | ((with_reducible show PT _ (Expr.Compare _ _ _ _) _);first | refine Ep ?_ | refine D6 ?_ | refine Fp (by walk_at "b") (by walk_at "v") ?_ (by walk_at "m") | refine EA (by walk_at "b") ?_ ?_ (by walk_at "m") | refine CY (by walk_at "b") (by walk_at "b") ?_ ?_ ?_) | ((with_reducible show PT _ (Expr.BoolOp _ _ _) _);refine PW.pt ?_) | refine Ev ?_ | refine Eu ?_)
set_option hygiene false in
local macro_rules | `(tactic| walk_at "l")=>`(tactic| first | refine Aa rfl (by walk_at "g") T.b_list ?_ | refine LJ nm (by walk_at "k") rfl ?_ ?_ (by decide +kernel) | refine Ci (by walk_at "g") T.b_list ?_ | refine OI ?_ | refine FP ?_ ?_ | refine E8 fun B' G'=>?_)
set_option hygiene false in
local macro_rules | `(tactic| walk_at "i")=>`(tactic| first | refine Bw (by walk_at "g") T.b_range ?_ | refine Bv (by walk_at "g") T.b_range ?_ | refine ER (by walk_at "g") T.b_enumerate ?_ | refine Cf (by walk_at "g") T.b_enumerate ?_ | refine He (by walk_at "g") T.b_zip ?_ | refine Hk ?_)
set_option hygiene false in
local macro_rules | `(tactic| walk_at "s")=>`(tactic| first | ((with_reducible show PS _ (Stmt.Assign [Expr.Name _ _] _ _) _);first | refine aSet nm ?_ | refine LI nm (by walk_at "k") rfl ?_ ?_ (by decide +kernel) | refine Pj nm ?_ | refine LK nm ?_) | ((with_reducible show PS _ (Stmt.Assign _ _ _) _);first | refine GS ?_ ?_ | refine Fq ?_ (by walk_at "v") ?_) | refine Ll ?_ ?_ ?_ | refine GV ?_ | refine GP (by walk_at "w") rfl ?_ ?_ ?_ | ((with_reducible show PS _ (Stmt.Expr _ _) _);first | refine GQ (by walk_at "v") ?_ | refine Da ?_ | refine EU ?_) | refine Fb ?_ | exact DZ | refine Dc (by assumption) hr rfl (by walk_at "x") (by walk_at "g") ?_ | refine CL ?_ ?_ ?_ | refine L5 (by walk_at "ck") (by walk_at "g") (nq nm) rfl rfl (fun KX' W pn hw=>?_) (fun a=>?_))
set_option hygiene false in
local macro_rules | `(tactic| walk_at "d")=>`(tactic| (have hu:=hr.units;have hgd:=hr.gd;repeat' (first | ((with_reducible show PSs _ (Zx _) _);show PSs _ (_ :: _) _) | ((with_reducible show PSs _ (Stmt.Assign _ _ _ :: _ :: _) _);generalize hS:(_ :: _:List Stmt)=sts;refine E3 hS ?_ ?_) | ((with_reducible show PS _ (Stmt.Assign [Expr.Name _ _] (Expr.List _ _) _) (tS _ _ _ _ (Kx _ _)));generalize hS:Stmt.Assign _ _ _=st;refine HG hS nm ?_) | ((with_reducible show PS _ (Stmt.Assign [Expr.Name _ _] (Expr.BinOp _ _ _ _) _) (tS _ _ _ _ (UR _ _)));generalize hS:Stmt.Assign _ _ _=st;refine LG hS nm ?_) | ((with_reducible show PE _ (Expr.List _ _) _);generalize hS:Expr.List _ _=e;first | refine E1 hS ?_ | refine EZ hS ?_) | ((with_reducible show PE _ (Expr.Tuple _ _ _) _);generalize hS:Expr.Tuple _ _ _=e;refine EY hS ?_) | ((with_reducible show PE _ (Expr.BinOp _ Operator.Add _ _) (tD _ _ _ _));generalize hS:Expr.BinOp _ _ _ _=e;refine PN Pt hS ?_ ?_) | ((with_reducible show PE _ (Expr.BinOp _ Operator.Mult _ _) (tD _ _ _ _));generalize hS:Expr.BinOp _ _ _ _=e;refine PN Ps hS ?_ ?_) | ((with_reducible show PA _ (_ :: _) (tDs _ _ _ _));generalize hS:(_ :: _:List Expr)=es;refine CG hS ?_ ?_) | ((with_reducible show PE _ _ (tD _ _ _ _));first | walk_at "e") | ((with_reducible show PA _ _ (tDs _ _ _ _));first | refine O6 ?_ ?_ | exact En) | ((with_reducible show PSs _ _ (tS _ _ _ _ _));first | refine OK ?_ ?_ | refine GW ?_ | exact Gu | exact CV) | ((with_reducible show PS _ _ _);walk_at "s") | ((with_reducible show PT _ _ _);walk_at "t") | ((with_reducible show PW _ _ _);first | refine Ew ?_ ?_ | refine Gy ?_ ?_ | refine D7 ?_ | refine Ex ?_) | ((with_reducible show PE _ _ (tL _ _ _ _));walk_at "l") | ((with_reducible show PI _ _ _ _);walk_at "i") | ((with_reducible show PG _ _ _);first | exact LM nm | exact HI | refine GT rfl ?_) | ((with_reducible show PGs _ _ _);first | exact GU | refine ET ?_ ?_) | ((with_reducible show PO _ _ _);first | exact D4 | refine D3 ?_) | ((with_reducible show SJ _ _ _ _ _ _ _ _ _);refine fun cl C s0 H0 ex=>⟨fun B' G'=>?_,fun B' G'=>?_,fun B' G'=>?_⟩) | ((with_reducible show ZX _ _ _ _ _ _ _ _ _);refine fun cl C s0 H0 ex=>⟨fun B' G'=>?_,fun B' G'=>?_,?_⟩) | ((with_reducible show ZC _ _ _);first | exact Fw | refine Fv ?_) | ((with_reducible show V2 _ _ _ _ _ _);first | refine Bp rfl rfl rfl fun B' G'=>?_ | refine Bo rfl rfl rfl rfl (fun _=>rfl) (fun B' G'=>?_) (fun B' G'=>?_) (fun B' G'=>?_) ?_) | ((with_reducible show PE _ _ (tX _ _ _ _ _));refine Db (by assumption) hr (by walk_at "x") (by walk_at "g") ?_))))
section
variable{P:J7}{w:World}{K:Frag}{mg:Str->qC}{base:Heap}{f:J8}{fd:J9}(T:Txt K mg)
include T
theorem Kbe(F:Fun K "_law_cell_at" "_law_cell_at" Sbe f fd):FnOk P w K mg base CX0 1 f fd ["_law_script", "_law_k"] (spD K 2 ZY):=
 okD (k:=0) (g:=XX) F (fq Hbe 2) qt λcdv A outer s H E B G0 hr=>
 have nm:=Hbe
 by walk_at "d"
theorem Kba(F:Fun K "moved_askers" "moved_askers" Sba f fd):FnOk P w K mg base CX0 1 f fd ["one", "other"] (spD K 2 YM):=
 okD (k:=0) (g:=W7) F (fq Hba 2) qt λcdv A outer s H E B G0 hr=>
 have nm:=Hba
 by walk_at "d"
theorem Kbb(jH:Def P w K mg base "moved_askers" 1 2 YM)(F:Fun K "followers" "followers" Sbb f fd):FnOk P w K mg base CX0 2 f fd ["things", "one", "other"] (spD K 3 We):=
 okD (k:=1) (g:=W6) F (fq Hbb 3) qt λcdv A outer s H E B G0 hr=>
 have nm:=Hbb
 by walk_at "d"
theorem Kaa(F:Fun K "is_whole" "is_whole" Saa f fd):FnOk P w K mg base CX0 1 f fd ["thing"] (spD K 1 Yt):=
 okD (k:=0) (g:=Vj) F (fq Haa 1) qt λcdv A outer s H E B G0 hr=>
 have nm:=Haa
 by walk_at "d"
theorem Kab(jK:Def P w K mg base "is_whole" 1 1 Yt)(F:Fun K "is_number_below" "is_number_below" Sab f fd):FnOk P w K mg base CX0 2 f fd ["thing", "many"] (spD K 2 Kv):=
 okD (k:=1) (g:=X0) F (fq Hab 2) qt λcdv A outer s H E B G0 hr=>
 have nm:=Hab
 by walk_at "d"
theorem Kad(qW:Def P w K mg base "is_number_below" 2 2 Kv)(F:Fun K "is_rank" "is_rank" Sad f fd):FnOk P w K mg base CX0 3 f fd ["thing", "things"] (spD K 2 Ys):=
 okD (k:=2) (g:=XZ) F (fq Had 2) qt λcdv A outer s H E B G0 hr=>
 have nm:=Had
 by walk_at "d"
theorem Kae(xr:Def P w K mg base "is_rank" 3 2 Ys)(F:Fun K "is_asker_list" "is_asker_list" Sae f fd):FnOk P w K mg base CX0 4 f fd ["thing", "things"] (spD K 2 Yr):=
 okD (k:=3) (g:=XY) F (fq Hae 2) qt λcdv A outer s H E B G0 hr=>
 have nm:=Hae
 by walk_at "d"
theorem Kaf(jJ:Def P w K mg base "is_asker_list" 4 2 Yr)(F:Fun K "look_at_lists" "look_at_lists" Saf f fd):FnOk P w K mg base CX0 5 f fd ["lists", "things"] (spD K 2 Wi):=
 okD (k:=4) (g:=Vh) F (fq Haf 2) qt λcdv A outer s H E B G0 hr=>
 have nm:=Haf
 by walk_at "d"
theorem Kac(qW:Def P w K mg base "is_number_below" 2 2 Kv)(F:Fun K "look_at_copies" "look_at_copies" Sac f fd):FnOk P w K mg base CX0 3 f fd ["copies"] (spD K 1 Wj):=
 okD (k:=2) (g:=Vi) F (fq Hac 1) qt λcdv A outer s H E B G0 hr=>
 have nm:=Hac
 by walk_at "d"
theorem Kag(xq:Def P w K mg base "look_at_lists" 5 2 Wi)(xu:Def P w K mg base "look_at_copies" 3 1 Wj)(F:Fun K "look_at_wishes" "look_at_wishes" Sag f fd):FnOk P w K mg base CX0 6 f fd ["thing"] (spD K 1 YN):=
 okD (k:=5) (g:=Vg) F (fq Hag 1) qt λcdv A outer s H E B G0 hr=>
 have nm:=Hag
 by walk_at "d"
theorem Kbd(jH:Def P w K mg base "moved_askers" 1 2 YM)(xf:Def P w K mg base "followers" 2 3 We)(jI:Def P w K mg base "look_at_wishes" 6 1 YN)(F:Fun K "ways_between" "ways_between" Sbd f fd):FnOk P w K mg base CX0 7 f fd ["wishes", "one", "other"] (spD K 3 Wd):=
 okD (k:=6) (g:=W5) F (fq Hbd 3) qt λcdv A outer s H E B G0 hr=>
 have nm:=Hbd
 by walk_at "d"
theorem Kav(F:Fun K "is_linked" "is_linked" Sav f fd):FnOk P w K mg base CX0 1 f fd ["dealing", "takings"] (spD K 2 Xd):=
 okD (k:=0) (g:=W9) F (fq Hav 2) qt λcdv A outer s H E B G0 hr=>
 have nm:=Hav
 by walk_at "d"
theorem Kah(F:Fun K "rank_in" "rank_in" Sah f fd):FnOk P w K mg base CX0 1 f fd ["ranks", "thing"] (spD K 2 Wh):=
 okD (k:=0) (g:=Vf) F (fq Hah 2) qt λcdv A outer s H E B G0 hr=>
 have nm:=Hah
 by walk_at "d"
theorem Kau(jK:Def P w K mg base "is_whole" 1 1 Yt)(xp:Def P w K mg base "rank_in" 1 2 Wh)(qW:Def P w K mg base "is_number_below" 2 2 Kv)(F:Fun K "is_taking" "is_taking" Sau f fd):FnOk P w K mg base CX0 3 f fd ["lists", "dealing", "thing"] (spD K 3 Xe):=
 okD (k:=2) (g:=Va) F (fq Hau 3) qt λcdv A outer s H E B G0 hr=>
 have nm:=Hau
 by walk_at "d"
theorem Kaj(jI:Def P w K mg base "look_at_wishes" 6 1 YN)(F:Fun K "copies_left" "copies_left" Saj f fd):FnOk P w K mg base CX0 7 f fd ["wishes", "dealing"] (spD K 2 Wg):=
 okD (k:=6) (g:=Ve) F (fq Haj 2) qt λcdv A outer s H E B G0 hr=>
 have nm:=Haj
 by walk_at "d"
theorem Kaw(xi:Def P w K mg base "is_linked" 1 2 Xd)(xj:Def P w K mg base "is_taking" 3 3 Xe)(xo:Def P w K mg base "copies_left" 7 2 Wg)(F:Fun K "is_way" "is_way" Saw f fd):FnOk P w K mg base CX0 8 f fd ["wishes", "dealing", "thing"] (spD K 3 Xc):=
 okD (k:=7) (g:=W8) F (fq Haw 3) qt λcdv A outer s H E B G0 hr=>
 have nm:=Haw
 by walk_at "d"
theorem Kbm(F:Fun K "_law_word" "_law_word" Sbm f fd):FnOk P w K mg base CX0 1 f fd ["_law_caught_here"] (spD K 1 YK):=
 okD (k:=0) (g:=g_bm) F (fq Hbm 1) qt λcdv A outer s H E B G0 hr=>
 have nm:=Hbm
 by walk_at "d"
theorem qo(jJ:Def P w K mg base "is_asker_list" 4 2 Yr)(qK:MkX P w K mg base "NoWishes" 2)(F:Fun K "look_at_lists" "look_at_lists" M5 f fd):FnOk P w K mg base (CX1 P w) 5 f fd ["lists", "things"] (spX K 2 Sw):=
 okX (k:=4) (g:=R6) F (fq MS 2) qt λcdv A outer s H E B G0 hr=>
 have nm:=MS
 by walk_at "d"
theorem qq(qW:Def P w K mg base "is_number_below" 2 2 Kv)(qK:MkX P w K mg base "NoWishes" 2)(F:Fun K "look_at_copies" "look_at_copies" MR f fd):FnOk P w K mg base (CX1 P w) 4 f fd ["copies"] (spX K 1 Sx):=
 okX (k:=3) (g:=R9) F (fq M8 1) qt λcdv A outer s H E B G0 hr=>
 have nm:=M8
 by walk_at "d"
theorem qp(qN:KL P w K mg base "look_at_lists" 5 2 Sw)(qL:KL P w K mg base "look_at_copies" 4 1 Sx)(qK:MkX P w K mg base "NoWishes" 2)(F:Fun K "look_at_wishes" "look_at_wishes" MP f fd):FnOk P w K mg base (CX1 P w) 6 f fd ["thing"] (spX K 1 Xq):=
 okX (k:=5) (g:=R8) F (fq M7 1) qt λcdv A outer s H E B G0 hr=>
 have nm:=M7
 by walk_at "d"
theorem qr(qJ:KL P w K mg base "look_at_wishes" 6 1 Xq)(F:Fun K "ways_between" "ways_between" MX f fd):FnOk P w K mg base (CX1 P w) 7 f fd ["wishes", "one", "other"] (spX K 3 SA):=
 okX (k:=6) (g:=MV) F (fq M0 3) qt λcdv A outer s H E B G0 hr=>
 have nm:=M0
 by walk_at "d"
theorem Kan(qW:Def P w K mg base "is_number_below" 2 2 Kv)(F:Fun K "is_turns" "is_turns" San f fd):FnOk P w K mg base CX0 3 f fd ["thing", "askers"] (spD K 2 Xf):=
 okD (k:=2) (g:=Vb) F (fq Han 2) qt λcdv A outer s H E B G0 hr=>
 have nm:=Han
 by walk_at "d"
theorem Kam(qW:Def P w K mg base "is_number_below" 2 2 Kv)(F:Fun K "is_old" "is_old" Sam f fd):FnOk P w K mg base CX0 3 f fd ["thing", "askers", "things"] (spD K 3 Xg):=
 okD (k:=2) (g:=Vc) F (fq Ham 3) qt λcdv A outer s H E B G0 hr=>
 have nm:=Ham
 by walk_at "d"
theorem Kak(F:Fun K "is_order" "is_order" Sak f fd):FnOk P w K mg base CX0 1 f fd ["thing"] (spD K 1 Wf):=
 okD (k:=0) (g:=Vd) F (fq Hak 1) qt λcdv A outer s H E B G0 hr=>
 have nm:=Hak
 by walk_at "d"
theorem qm(xn:Def P w K mg base "is_order" 1 1 Wf)(qX:MkX P w K mg base "NoAim" 2)(F:Fun K "look_at_order" "look_at_order" MZ f fd):FnOk P w K mg base (CX1 P w) 4 f fd ["thing"] (spX K 1 Tp):=
 okX (k:=3) (g:=R5) F (fq MM 1) qt λcdv A outer s H E B G0 hr=>
 have nm:=MM
 by walk_at "d"
theorem ql(xk:Def P w K mg base "is_turns" 3 2 Xf)(xm:Def P w K mg base "is_old" 3 3 Xg)(qM:KL P w K mg base "look_at_order" 4 1 Tp)(qJ:KL P w K mg base "look_at_wishes" 6 1 Xq)(qX:MkX P w K mg base "NoAim" 2)(F:Fun K "look_at_aim" "look_at_aim" ME f fd):FnOk P w K mg base (CX1 P w) 7 f fd ["wishes", "thing"] (spX K 2 WP):=
 okX (k:=6) (g:=R3) F (fq MU 2) qt λcdv A outer s H E B G0 hr=>
 have nm:=MU
 by walk_at "d"
theorem AV(qQ:KL P w K mg base "look_at_aim" 7 2 WP)(F:Fun K "gain_of" "gain_of" NW f fd):FnOk P w K mg base (CX1 P w) 8 f fd ["wishes", "aim", "dealing", "way"] (spX K 4 Ti):=
 okX (k:=7) (g:=NU) F (fq Mr 4) qt λcdv A outer s H E B G0 hr=>
 have nm:=Mr
 by walk_at "d"
theorem qk(qJ:KL P w K mg base "look_at_wishes" 6 1 Xq)(F:Fun K "copies_left" "copies_left" MC f fd):FnOk P w K mg base (CX1 P w) 7 f fd ["wishes", "dealing"] (spX K 2 Sz):=
 okX (k:=6) (g:=MA) F (fq MT 2) qt λcdv A outer s H E B G0 hr=>
 have nm:=MT
 by walk_at "d"
theorem B9(qR:KL P w K mg base "copies_left" 7 2 Sz)(F:Fun K "is_way" "is_way" NM f fd):FnOk P w K mg base (CX1 P w) 8 f fd ["wishes", "dealing", "thing"] (spX K 3 VI):=
 okX (k:=7) (g:=RM) F (fq NT 3) qt λcdv A outer s H E B G0 hr=>
 have nm:=NT
 by walk_at "d"
theorem EX(qS:KL P w K mg base "is_way" 8 3 VI)(F:Fun K "done" "done" Oz f fd):FnOk P w K mg base (CX1 P w) 9 f fd ["wishes", "dealing", "way"] (spX K 3 T7):=
 okX (k:=8) (g:=Ru) F (fq No 3) qt λcdv A outer s H E B G0 hr=>
 have nm:=No
 by walk_at "d"
theorem qh(qO:KL P w K mg base "ways_between" 7 3 SA)(qZ:KL P w K mg base "gain_of" 8 4 Ti)(jk:KL P w K mg base "done" 9 3 T7)(qS:KL P w K mg base "is_way" 8 3 VI)(F:Fun K "_law_asked" "_law_asked" MG f fd):FnOk P w K mg base (CX1 P w) 10 f fd ["_law_number", "_law_wishes_here", "_law_aim", "_law_dealing", "_law_way"] (spX K 5 VS):=
 okX (k:=9) (g:=Sy) F (fq Mz 5) qt λcdv A outer s H E B G0 hr=>
 have nm:=Mz
 by walk_at "d"
theorem Kbl(qT:KL P w K mg base "_law_asked" 10 5 VS)(F:Fun K "_law_caught" "_law_caught" Sbl f fd):FnOk P w K mg base CX0 11 f fd ["_law_number", "_law_wishes_here", "_law_aim", "_law_dealing", "_law_way"] (spD K 5 Xb):=
 okD (k:=10) (g:=WZ) F (fq Hbl 5) qt λcdv A outer s H E B G0 hr=>
 have nm:=Hbl
 by walk_at "d"
theorem Kbp(F:Fun K "_law_where" "_law_where" Sbp f fd):FnOk P w K mg base CX0 1 f fd ["_law_caught_here"] (spD K 1 Xa):=
 okD (k:=0) (g:=g_bp) F (fq Hbp 1) qt λcdv A outer s H E B G0 hr=>
 have nm:=Hbp
 by walk_at "d"
theorem Kbo(F:Fun K "_law_place" "_law_place" Sbo f fd):FnOk P w K mg base CX0 1 f fd ["_law_wishes_here", "_law_number"] (spD K 2 X8):=
 okD (k:=0) (g:=WX) F (fq Hbo 2) qt λcdv A outer s H E B G0 hr=>
 have nm:=Hbo
 by walk_at "d"
theorem Kbn(F:Fun K "_law_no_wishes" "_law_no_wishes" Sbn f fd):FnOk P w K mg base CX0 1 f fd ["_law_wishes_here", "_law_number"] (spD K 2 X9):=
 okD (k:=0) (g:=WY) F (fq Hbn 2) qt λcdv A outer s H E B G0 hr=>
 have nm:=Hbn
 by walk_at "d"
theorem Kbh(F:Fun K "_law_wished" "_law_wished" Sbh f fd):FnOk P w K mg base CX0 1 f fd ["_law_wishes_here", "_law_asker"] (spD K 2 YL):=
 okD (k:=0) (g:=W2) F (fq Hbh 2) qt λcdv A outer s H E B G0 hr=>
 have nm:=Hbh
 by walk_at "d"
theorem Kbf(F:Fun K "_law_numbers" "_law_numbers" Sbf f fd):FnOk P w K mg base CX0 1 f fd ["_law_cell", "_law_salt", "_law_sizes"] (spD K 3 Zi):=
 okD (k:=0) (g:=W4) F (fq Hbf 3) qt λcdv A outer s H E B G0 hr=>
 have nm:=Hbf
 by walk_at "d"
theorem Kbj(jF:Def P w K mg base "_law_wished" 1 2 YL)(jb:Def P w K mg base "_law_numbers" 1 3 Zi)(F:Fun K "_law_chain" "_law_chain" Sbj f fd):FnOk P w K mg base CX0 2 f fd ["_law_wishes_here", "_law_dealing", "_law_cell", "_law_salt"] (spD K 4 Wa):=
 okD (k:=1) (g:=W0) F (fq Hbj 4) qt λcdv A outer s H E B G0 hr=>
 have nm:=Hbj
 by walk_at "d"
theorem Kbi(jF:Def P w K mg base "_law_wished" 1 2 YL)(jb:Def P w K mg base "_law_numbers" 1 3 Zi)(F:Fun K "_law_dealt" "_law_dealt" Sbi f fd):FnOk P w K mg base CX0 2 f fd ["_law_wishes_here", "_law_cell", "_law_salt"] (spD K 3 Wb):=
 okD (k:=1) (g:=W1) F (fq Hbi 3) qt λcdv A outer s H E B G0 hr=>
 have nm:=Hbi
 by walk_at "d"
theorem Kbg(jb:Def P w K mg base "_law_numbers" 1 3 Zi)(jG:Def P w K mg base "_law_cell_at" 1 2 ZY)(F:Fun K "_law_wishes" "_law_wishes" Sbg f fd):FnOk P w K mg base CX0 2 f fd ["_law_script", "_law_at", "_law_most_things", "_law_most_askers", "_law_most_ranks"] (spD K 5 Wc):=
 okD (k:=1) (g:=W3) F (fq Hbg 5) qt λcdv A outer s H E B G0 hr=>
 have nm:=Hbg
 by walk_at "d"
theorem Kbq(jG:Def P w K mg base "_law_cell_at" 1 2 ZY)(xb:Def P w K mg base "ways_between" 7 3 Wd)(xg:Def P w K mg base "is_way" 8 3 Xc)(kW:Def P w K mg base "_law_word" 1 1 YK)(kX:Def P w K mg base "_law_caught" 11 5 Xb)(kS:Def P w K mg base "_law_where" 1 1 Xa)(kT:Def P w K mg base "_law_place" 1 2 X8)(kU:Def P w K mg base "_law_no_wishes" 1 2 X9)(kY:Def P w K mg base "_law_chain" 2 4 Wa)(jb:Def P w K mg base "_law_numbers" 1 3 Zi)(kZ:Def P w K mg base "_law_dealt" 2 3 Wb)(xa:Def P w K mg base "_law_wishes" 2 5 Wc)(F:Fun K "law" "law" Sbq f fd):FnOk P w K mg base CX0 12 f fd ["_law_script"] (spD K 1 X7):=
 okD (k:=11) (g:=WW) F (fq Hbq 1) qt λcdv A outer s H E B G0 hr=>
 have nm:=Hbq
 by walk_at "d"
end
theorem Kp:recsOf q0=Vv p0 ixL:=by show recsOf (PySem.W.view PySem.Challenge.pw_wishdeal_k32_no_wishes_no_way YQ)=Vv PySem.Challenge.pw_wishdeal_k32_no_wishes_no_way ixL;rw[PySem.W.Fast.te3399658132070893891,PySem.W.Fast.te13195080154105430014];kernel_rfl
theorem ZN:(["ValueError", "all", "bool", "enumerate", "int", "isinstance", "len", "list", "max", "range", "set", "sorted", "str", "sum", "tuple", "zip"]:List Str).all (Tv q0 (PySem.W.looseW q0 []))=qv:=by show List.all _ (Tv (PySem.W.view PySem.Challenge.pw_wishdeal_k32_no_wishes_no_way YQ) (PySem.W.looseW (PySem.W.view PySem.Challenge.pw_wishdeal_k32_no_wishes_no_way YQ) []))=qv;k_qdec
theorem qg:valOf q0 "MOST_ASKERS" = O (.int 7):=by show valOf (PySem.W.view PySem.Challenge.pw_wishdeal_k32_no_wishes_no_way YQ) _=_;rw[Jk,PySem.W.Fast.te13195080154105430014];kernel_rfl
theorem qf:valOf q0 "MOST_COPIES" = O (.int 7):=by show valOf (PySem.W.view PySem.Challenge.pw_wishdeal_k32_no_wishes_no_way YQ) _=_;rw[Jk,PySem.W.Fast.te13195080154105430014];kernel_rfl
theorem A8:valOf q0 "MOST_RANKS" = O (.int 5):=by show valOf (PySem.W.view PySem.Challenge.pw_wishdeal_k32_no_wishes_no_way YQ) _=_;rw[Jk,PySem.W.Fast.te13195080154105430014];kernel_rfl
theorem qe:valOf q0 "MOST_THINGS" = O (.int 6):=by show valOf (PySem.W.view PySem.Challenge.pw_wishdeal_k32_no_wishes_no_way YQ) _=_;rw[Jk,PySem.W.Fast.te13195080154105430014];kernel_rfl
theorem CF:tupStrsOf q0 "ORDERS" = O (["firsts", "full", "lasts"]:List Str):=by show tupStrsOf (PySem.W.view PySem.Challenge.pw_wishdeal_k32_no_wishes_no_way YQ) _=_;rw[PySem.W.Fast.te14491516231548247274,PySem.W.Fast.te13195080154105430014];kernel_rfl
theorem HF{l:PySem.W.OpenLaw}{w:World}{s0:J6}{mg mb:Str->qC}{fa:J8}{h:Heap}{XP:(Str->qC)->Heap->Prop}(G:PySem.W.Ground q0 [] [] XP w s0 mg mb h)(Y:XYP p0 clsL h)(hfa:mg "law" = O (.ref fa)) :
  ∃fd:J9,(∀(s:J6)(v:J5),BindsTo s fd ⟨[v],[]⟩ [("_law_script", v)])/\∀base:Heap,FnOk l.prog w (whole h) mg base CX0 12 fa fd ["_law_script"] (spD (whole h) 1 X7):=by
 obtain⟨D0,f0,kO,R⟩:=FR (i:=4) G.T.g Y (mq 0 qt) (ZP G.T ZN (mq 0 qt)) (Kn (by decide +kernel)) qt (λ_=>⟨_,rfl⟩) (λ_ _ _ _ _ _ us hl=>bz2 (us:=us) hl λ_ _=>rfl);have T:Txt (whole h) mg:=⟨ZP G.T ZN (mq 0 qt),ZP G.T ZN (mq 1 qt),ZP G.T ZN (mq 2 qt),ZP G.T ZN (mq 3 qt),ZP G.T ZN (mq 4 qt),ZP G.T ZN (mq 5 qt),ZP G.T ZN (mq 6 qt),ZP G.T ZN (mq 7 qt),ZP G.T ZN (mq 8 qt),ZP G.T ZN (mq 9 qt),ZP G.T ZN (mq 10 qt),ZP G.T ZN (mq 11 qt),ZP G.T ZN (mq 12 qt),ZP G.T ZN (mq 13 qt),ZP G.T ZN (mq 14 qt),ZP G.T ZN (mq 15 qt),Sr G.T qg,Sr G.T qf,Sr G.T A8,Sr G.T qe,Cq G.B CF (by decide),Yw (c:=("DealError", O 4)) G.T.g Y R (mq 0 qt),Yw (c:=("NoAim", O 6)) G.T.g Y R (mq 2 qt),Yw (c:=("NoBook", qu)) G.T.g Y R (mq 9 qt),Yw (c:=("NoChange", qu)) G.T.g Y R (mq 6 qt),Yw (c:=("NoDeed", qu)) G.T.g Y R (mq 10 qt),Yw (c:=("NoJoin", qu)) G.T.g Y R (mq 8 qt),Yw (c:=("NoName", qu)) G.T.g Y R (mq 12 qt),Yw (c:=("NoNumbering", qu)) G.T.g Y R (mq 7 qt),Yw (c:=("NoPlace", qu)) G.T.g Y R (mq 5 qt),Yw (c:=("NoRow", qu)) G.T.g Y R (mq 11 qt),Yw (c:=("NoText", O 7)) G.T.g Y R (mq 3 qt),Yw (c:=("NoWay", qu)) G.T.g Y R (mq 4 qt),Yw (c:=("NoWishes", O 5)) G.T.g Y R (mq 1 qt),Yw (c:=("TooMany", qu)) G.T.g Y R (mq 13 qt)⟩
 refine LW G.T Kp 71 "law" rfl qt hfa (λ_ _ _ _ _ _ _=>rfl) λbase=>?_
 have qK:=P8 (nm:= "NoWishes") (j:=5) (ps:=["self", "part", "number"]) G.T.g Y R (mq 1 qt) (by decide) l.prog w base (λ_ _ _ _ _ _ us hl=>bz3 (us:=us) hl λ_ _ _=>rfl) (λFU=>FV R.cf (R.ok l.prog w base) R.bd R.at' FU (Kn (by decide +kernel)) qt (λ_=>⟨_,rfl⟩) (by decide) (by decide));have qX:=P8 (nm:= "NoAim") (j:=6) (ps:=["self", "part"]) G.T.g Y R (mq 2 qt) (by decide) l.prog w base (λ_ _ _ _ _ _ us hl=>bz2 (us:=us) hl λ_ _=>rfl) (λFU=>FT R.cf (R.ok l.prog w base) R.bd R.at' FU (Kn (by decide +kernel)) (by decide) (by decide) (by decide) qt (λ_=>⟨_,rfl⟩) (by decide));have jG:=KU l.prog w base G.T Kp 59 "_law_cell_at" rfl qt (λF=>Kbe T  F) λ_ _ _ _ _ _ us hl=>bz2 (us:=us) hl λ_ _=>rfl
 have jH:=KU l.prog w base G.T Kp 54 "moved_askers" rfl qt (λF=>Kba T  F) λ_ _ _ _ _ _ us hl=>bz2 (us:=us) hl λ_ _=>rfl
 have xf:=KU l.prog w base G.T Kp 55 "followers" rfl qt (λF=>Kbb T jH F) λ_ _ _ _ _ _ us hl=>bz3 (us:=us) hl λ_ _ _=>rfl
 have jK:=KU l.prog w base G.T Kp 1 "is_whole" rfl qt (λF=>Kaa T  F) λ_ _ _ _ _ _ us hl=>bz1 (us:=us) hl λ_=>rfl
 have qW:=KU l.prog w base G.T Kp 2 "is_number_below" rfl qt (λF=>Kab T jK F) λ_ _ _ _ _ _ us hl=>bz2 (us:=us) hl λ_ _=>rfl
 have xr:=KU l.prog w base G.T Kp 24 "is_rank" rfl qt (λF=>Kad T qW F) λ_ _ _ _ _ _ us hl=>bz2 (us:=us) hl λ_ _=>rfl
 have jJ:=KU l.prog w base G.T Kp 25 "is_asker_list" rfl qt (λF=>Kae T xr F) λ_ _ _ _ _ _ us hl=>bz2 (us:=us) hl λ_ _=>rfl
 have xq:=KU l.prog w base G.T Kp 26 "look_at_lists" rfl qt (λF=>Kaf T jJ F) λ_ _ _ _ _ _ us hl=>bz2 (us:=us) hl λ_ _=>rfl
 have xu:=KU l.prog w base G.T Kp 23 "look_at_copies" rfl qt (λF=>Kac T qW F) λ_ _ _ _ _ _ us hl=>bz1 (us:=us) hl λ_=>rfl
 have jI:=KU l.prog w base G.T Kp 27 "look_at_wishes" rfl qt (λF=>Kag T xq xu F) λ_ _ _ _ _ _ us hl=>bz1 (us:=us) hl λ_=>rfl
 have xb:=KU l.prog w base G.T Kp 57 "ways_between" rfl qt (λF=>Kbd T jH xf jI F) λ_ _ _ _ _ _ us hl=>bz3 (us:=us) hl λ_ _ _=>rfl
 have xi:=KU l.prog w base G.T Kp 48 "is_linked" rfl qt (λF=>Kav T  F) λ_ _ _ _ _ _ us hl=>bz2 (us:=us) hl λ_ _=>rfl
 have xp:=KU l.prog w base G.T Kp 28 "rank_in" rfl qt (λF=>Kah T  F) λ_ _ _ _ _ _ us hl=>bz2 (us:=us) hl λ_ _=>rfl
 have xj:=KU l.prog w base G.T Kp 47 "is_taking" rfl qt (λF=>Kau T jK xp qW F) λ_ _ _ _ _ _ us hl=>bz3 (us:=us) hl λ_ _ _=>rfl
 have xo:=KU l.prog w base G.T Kp 31 "copies_left" rfl qt (λF=>Kaj T jI F) λ_ _ _ _ _ _ us hl=>bz2 (us:=us) hl λ_ _=>rfl
 have xg:=KU l.prog w base G.T Kp 49 "is_way" rfl qt (λF=>Kaw T xi xj xo F) λ_ _ _ _ _ _ us hl=>bz3 (us:=us) hl λ_ _ _=>rfl
 have kW:=KU l.prog w base G.T Kp 67 "_law_word" rfl qt (λF=>Kbm T  F) λ_ _ _ _ _ _ us hl=>bz1 (us:=us) hl λ_=>rfl
 have qN:=YW l.prog w base G.T Kp 26 "look_at_lists" rfl qt (λF=>qo T jJ qK F) λ_ _ _ _ _ _ us hl=>bz2 (us:=us) hl λ_ _=>rfl
 have qL:=YW l.prog w base G.T Kp 23 "look_at_copies" rfl qt (λF=>qq T qW qK F) λ_ _ _ _ _ _ us hl=>bz1 (us:=us) hl λ_=>rfl
 have qJ:=YW l.prog w base G.T Kp 27 "look_at_wishes" rfl qt (λF=>qp T qN qL qK F) λ_ _ _ _ _ _ us hl=>bz1 (us:=us) hl λ_=>rfl
 have qO:=YW l.prog w base G.T Kp 57 "ways_between" rfl qt (λF=>qr T qJ F) λ_ _ _ _ _ _ us hl=>bz3 (us:=us) hl λ_ _ _=>rfl
 have xk:=KU l.prog w base G.T Kp 38 "is_turns" rfl qt (λF=>Kan T qW F) λ_ _ _ _ _ _ us hl=>bz2 (us:=us) hl λ_ _=>rfl
 have xm:=KU l.prog w base G.T Kp 37 "is_old" rfl qt (λF=>Kam T qW F) λ_ _ _ _ _ _ us hl=>bz3 (us:=us) hl λ_ _ _=>rfl
 have xn:=KU l.prog w base G.T Kp 34 "is_order" rfl qt (λF=>Kak T  F) λ_ _ _ _ _ _ us hl=>bz1 (us:=us) hl λ_=>rfl
 have qM:=YW l.prog w base G.T Kp 35 "look_at_order" rfl qt (λF=>qm T xn qX F) λ_ _ _ _ _ _ us hl=>bz1 (us:=us) hl λ_=>rfl
 have qQ:=YW l.prog w base G.T Kp 39 "look_at_aim" rfl qt (λF=>ql T xk xm qM qJ qX F) λ_ _ _ _ _ _ us hl=>bz2 (us:=us) hl λ_ _=>rfl
 have qZ:=YW l.prog w base G.T Kp 52 "gain_of" rfl qt (λF=>AV T qQ F) λ_ _ _ _ _ _ us hl=>bz4 (us:=us) hl λ_ _ _ _=>rfl
 have qR:=YW l.prog w base G.T Kp 31 "copies_left" rfl qt (λF=>qk T qJ F) λ_ _ _ _ _ _ us hl=>bz2 (us:=us) hl λ_ _=>rfl
 have qS:=YW l.prog w base G.T Kp 49 "is_way" rfl qt (λF=>B9 T qR F) λ_ _ _ _ _ _ us hl=>bz3 (us:=us) hl λ_ _ _=>rfl
 have jk:=YW l.prog w base G.T Kp 51 "done" rfl qt (λF=>EX T qS F) λ_ _ _ _ _ _ us hl=>bz3 (us:=us) hl λ_ _ _=>rfl
 have qT:=YW l.prog w base G.T Kp 65 "_law_asked" rfl qt (λF=>qh T qO qZ jk qS F) λ_ _ _ _ _ _ us hl=>bz5 (us:=us) hl λ_ _ _ _ _=>rfl
 have kX:=KU l.prog w base G.T Kp 66 "_law_caught" rfl qt (λF=>Kbl T qT F) λ_ _ _ _ _ _ us hl=>bz5 (us:=us) hl λ_ _ _ _ _=>rfl
 have kS:=KU l.prog w base G.T Kp 70 "_law_where" rfl qt (λF=>Kbp T  F) λ_ _ _ _ _ _ us hl=>bz1 (us:=us) hl λ_=>rfl
 have kT:=KU l.prog w base G.T Kp 69 "_law_place" rfl qt (λF=>Kbo T  F) λ_ _ _ _ _ _ us hl=>bz2 (us:=us) hl λ_ _=>rfl
 have kU:=KU l.prog w base G.T Kp 68 "_law_no_wishes" rfl qt (λF=>Kbn T  F) λ_ _ _ _ _ _ us hl=>bz2 (us:=us) hl λ_ _=>rfl
 have jF:=KU l.prog w base G.T Kp 62 "_law_wished" rfl qt (λF=>Kbh T  F) λ_ _ _ _ _ _ us hl=>bz2 (us:=us) hl λ_ _=>rfl
 have jb:=KU l.prog w base G.T Kp 60 "_law_numbers" rfl qt (λF=>Kbf T  F) λ_ _ _ _ _ _ us hl=>bz3 (us:=us) hl λ_ _ _=>rfl
 have kY:=KU l.prog w base G.T Kp 64 "_law_chain" rfl qt (λF=>Kbj T jF jb F) λ_ _ _ _ _ _ us hl=>bz4 (us:=us) hl λ_ _ _ _=>rfl
 have kZ:=KU l.prog w base G.T Kp 63 "_law_dealt" rfl qt (λF=>Kbi T jF jb F) λ_ _ _ _ _ _ us hl=>bz3 (us:=us) hl λ_ _ _=>rfl
 have xa:=KU l.prog w base G.T Kp 61 "_law_wishes" rfl qt (λF=>Kbg T jb jG F) λ_ _ _ _ _ _ us hl=>bz5 (us:=us) hl λ_ _ _ _ _=>rfl
 exact λ{_ _} F=>Kbq T jG xb xg kW kX kS kT kU kY jb kZ xa F
abbrev d_bq:DefRec:=⟨"law", YZ Sbq,Zx Sbq,Kw Sbq,LX Sbq⟩
theorem walk{XP:(Str->qC)->Heap->Prop}(hlaw:∀ns:qy,ns.length<=63->X7 [.list (ns.map int)]=O (.bool qv)):PySem.W.WalkO q0 [] XP (λ_ h=>XYP p0 clsL h) (PySem.Challenge.rw_wishdeal_k32_no_wishes_no_way).row.toRowW d_bq [] (λf vs=>PySem.call f vs):=
 Cn (n:=63) (k:=12) (x:= "_law_script") qt (by decide) qt ⟨rfl,by decide,by decide,rfl⟩ (λ_ _ _ _ _ _ G Y hm=>HF G Y hm) hlaw
theorem Ph{f:M D}{Z Z1:Uw}{d:D}{t:Bool}(h:f Z=.ok d Z1)(ht:(!isNon d)=t):UI (λd=>!isNon d) f Z=.ok t Z1:=by subst ht;exact Ko (k:=λd=>!isNon d) h
theorem NS{sizes found:qy}{z d:Int}(h:∀(j:Nat) d z,found[j]?=O d->sizes[j]?=O z->0<=d/\d<z)(hz:sizes[found.length]?=O z)(h0:0<=d/\d<z) :
  ∀(j:Nat) d' z',(found++[d])[j]?=O d'->sizes[j]?=O z'->0<=d'/\d'<z':=by
 intro j d' z' e1 e2;by_cases hj:j<found.length
 .rw[Qq hj]at e1
  exact h j d' z' e1 e2
 .by_cases hj2:j=found.length
  .subst hj2
   rw[hz]at e2;cases e2;rw[Qv (Qk _),Nat.sub_self,List.getElem?_cons_zero]at e1;cases e1;exact h0
  .rw[Js (by rw[Qm,Q8];omega)]at e1
   cases e1
abbrev pb(d:D):Option Sl:=O (.pub d)
def inv(c s:Int)(sizes:qy)(n:Int)(i:Nat)(Z:Uw):Prop:=∃left found x6 x7,Z=[O (Sl.pub (.int c)),pb (.int s),pb (.list (sizes.map .int)),pb (.int n),pb (.int left),O (.own ((found:qy).map .int)),x6,x7] /\
 found.length=i/\∀(j:Nat) d z,found[j]?=O d->sizes[j]?=O z->0<=d/\d<z
theorem CD{c s n:Int}{sizes:qy}(hs:∀x∈sizes,0<x/\x<18446744073709551616)(hl:sizes.length<=1000){i:Nat}{d:D}{Z:Uw}{Q:Out->Prop}(hi:(Zk 0 sizes.length)[i]?=O d)(h:inv c s sizes n i Z) :
  ∃Z2,gN 6 d Z=O Z2/\Ho Rt Z2 (Wv (inv c s sizes n (i+1)) Q):=by
 obtain⟨left,found,x6,x7,rfl,hf,hfd⟩:=h;obtain⟨rfl,hlt⟩:=Ws hi;obtain⟨z,hz⟩:∃z,sizes[i]?=O z:=⟨sizes[i]'(by omega),Qe _⟩
 obtain⟨z1,z2⟩:=hs z (QP hz);have hix:oIx (.list (sizes.map int)) (.int (0+(i:Int)))=O (.int z):=by rw[JR];exact KS (by rw[Qi,hz];rfl)
 generalize hk:(0:Int)+(i:Int)=k at hix⊢;have hk1:k<18446744073709551616:=by omega
 have hk2 : -18446744073709551616<k:=by omega
 have hlen:(found.map int).length<1000000:=by rw[Qd];omega
 have pw:Y2 (.int 10) (.int 18)=O (.int 1000000000000000000):=by rw[Fi (by decide)];rfl
 refine⟨_,UO (Qa qt) qt,?_⟩;unfold Rt;apply UT
 case h1=>exact SY (Zd qt (UM UE UE pw) qt) λ_=>Zd qt UE qt
 case h2=>intro _;refine UZ (WB qt (UM (UB qt) (Kk qt (UB qt) hix) (YX (by omega))) qt hlen qt) ?_;refine Kz (Kr (UM (UB qt) (Kk qt (UB qt) hix) (OT (by omega) (by omega))) (Qa qt) qt) (Ye ?_);exact⟨_,found++[left % z],_,_,by rw[Jc];rfl,by rw[Qm,hf];rfl,NS hfd (by rw[hf];exact hz) ⟨JL _ (by omega),JA _ z1⟩⟩
 case h3=>intro _;refine UZ (Kr (UM (UM (UM (UM (UB qt) (UM UE (UB qt) (WN (by decide) (by decide))) ZE) (UM (UM UE (UB qt) (WN (by decide) (by decide))) (UB qt) (Sh hk2 hk1)) ZE) (UB qt) ZE) UE (YX (by decide))) (Qa qt) qt) ?_;refine UZ (Kr (UM (UM (UB qt) UE (Sh (by decide) (by decide))) UE (YX (by decide))) (Qa qt) qt) ?_;refine UZ (Kr (UM (UM (UM (UM (UB qt) (UB qt) (Sh (by omega) (by omega))) UE (YX (by decide))) UE (Sh (by decide) (by decide))) UE (YX (by decide))) (Qa qt) qt) ?_;refine Kz (WB qt (UM (UM (UB qt) UE (OT (by decide) (by decide))) (Kk qt (UB qt) hix) (YX (by omega))) qt hlen qt) (Ye ?_);exact⟨_,found++[_ % z],_,_,by rw[Jc];rfl,by rw[Qm,hf];rfl,NS hfd (by rw[hf];exact hz) ⟨JL _ (by omega),JA _ z1⟩⟩
theorem Tq(c s:Int){sizes:qy}(hs:∀x∈sizes,0<x/\x<18446744073709551616)(hl:sizes.length<=1000) :
  ∃r,Zi [.int c,.int s,.list (sizes.map int)]=O r/\∃ds:qy,r=.list (ds.map .int)/\ds.length=sizes.length/\∀(j:Nat) d z,ds[j]?=O d->sizes[j]?=O z->0<=d/\d<z:=by
 refine WA (Z:=[pb (.int c),pb (.int s),pb (.list (sizes.map int)),qu,qu,qu,qu,qu]) qt ?_;unfold W4;refine UZ (Kr (Zw (Uz (UB qt) (Uz (UM (Ta UE) (UB qt) Sa) UF)) Fh) (Qa qt) qt) ?_;refine UZ (Kr (UB qt) (Qa qt) qt) ?_;refine UZ (Zt (Xp UF (Qa qt)) (Qa qt) qt) ?_;apply U1;apply Yy (ds:=Zk 0 sizes.length) (inv c s sizes (if -1-c > c then -1-c else c))
 case h1=>exact Wq (Uz (Kt qt (by rw[KM,Qd])) UF) (Wt (by omega) (by omega))
 case h0=>exact⟨_,[],qu,qu,rfl,rfl,λj d z e=>by cases e⟩
 case hst=>exact λi d Z e h=>CD hs hl e h
 case hend=>rintro Z ⟨left,found,x6,x7,rfl,hf,hfd⟩;rw[Xr]at hf;exact Kd (U3 (Yg rfl rfl) ⟨_,rfl,found,rfl,by omega,hfd⟩)
theorem RL:∀{xs:qx},(∀x∈xs,PyData.canLay0 x=qv)->Ul xs=qv
 |[],_=>rfl
 |x::r,h=>by
  show(PyData.canLay0 x&&Ul r)=qv
  rw[h x Qp,RL λy hy=>h y (Qu _ hy)];rfl
theorem NK{n:Nat}:∀{xs:qx},(∀x∈xs,Um x<=n)->PyData.depthAll xs<=n
 |[],_=>by simp[PyData.depthAll]
 |x::r,h=>by have h1:=h x Qp;have h2:=NK (n:=n) λy hy=>h y (Qu _ hy);simp only[PyData.depthAll];omega
def Kj(r:qy):D:=.list (r.map int)
def U8(rs:List qy):D:=.list (rs.map Kj)
def Ki(cs:qy)(ls:L3):D:=.tuple [.list (cs.map int),.list (ls.map U8)]
structure VH(n:Nat)(rs:List qy):Prop where
 few:rs.length<=5
 some:∀r∈rs,r≠[]
 there:∀r∈rs,∀t∈r,0<=t/\t<n
 once:rs.flatten.Nodup
structure Good(cs:qy)(ls:L3):Prop where
 c1:1<=cs.length
 c6:cs.length<=6
 c7:∀c∈cs,0<=c/\c<8
 l1:1<=ls.length
 l7:ls.length<=7
 rk:∀rs∈ls,VH cs.length rs
theorem Nn(r:qy):(Kj r).canLay0=qv:=RL λx hx=>by obtain⟨y,_,rfl⟩:=QF.mp hx;rfl
theorem FL(i:Int):(int i).depth<=1:=by simp[Um]
theorem FJ{n:Nat}{xs:qx}(h:PyData.depthAll xs<=n):(Uh xs).depth<=n+1:=by simp only[Um];omega
theorem Nm(r:qy):(Kj r).depth<=2:=FJ (NK λx hx=>by obtain⟨y,_,rfl⟩:=QF.mp hx;exact FL y)
theorem CC(i:Int):Yt [.int i]=O (.bool qv):=by refine Za (Z:=[pb (.int i)]) qt ?_;unfold Vj;exact U3 (Xo (Ko (UB qt)) (λ_=>Fj (Ko (UB qt)))) qt
theorem NJ{i m:Int}(h0:0<=i)(h1:i<m):Kv [.int i,.int m]=O (.bool qv):=by
 refine Za (Z:=[pb (.int i),pb (.int m)]) qt ?_;unfold X0;have hb:(decide (0<=i)&&decide (i<m))=qv:=by simp[h0,h1]
 refine U3 (Xo (t:=qv) (u:=qv) (Kf (Uz (UB qt) UF) qt (CC i)) (λ_=>?_)) qt;rw[←hb];exact Ko (VR UE (UB qt) qt (λ_=>UB qt) (λ_=>rfl))
theorem NI{α:Type}(l:List α):Zg [.list (l.map λ_=>.bool qv)]=O (.bool qv):=by
 have:(l.map λ_=>Ui qv)=(l.map λ_=>qv).map Ui:=by rw[Jd];rfl
 rw[this,Op]
 congr 2
 rw[List.all_map];induction l with
 |nil=>rfl
 |cons x r ih=>simpa using ih
theorem B8{r:qy}{n:Int}(hne:r≠[])(hl:r.length<=1000)(h:∀t∈r,0<=t/\t<n):Ys [Kj r,.int n]=O (.bool qv):=by
 refine Za (Z:=[pb (Kj r),pb (.int n)]) qt ?_;unfold XZ;apply U1;have hlen:U9 [Kj r]=O (.int r.length):=by unfold Kj;rw[KM,Qd]
 have hp:0<r.length:=List.length_pos_iff.mpr hne;apply UT
 case h1=>exact Zr (Z1:=[pb (Kj r),pb (.int n)]) (KE (UB qt) qt) (UM (Kt qt hlen) UE Zn)
 case h2=>
       intro hh;have:(r.length:Int)=0:=by simpa using hh
       omega
 case h3=>
  intro _;refine Ke (Kd ?_)
  have hc:Ks (gN 2) (UA qv) (UL 2 Kv (Uy (Uv 2) (Uy (Uv 1) (Ux)))) (r.map int) (U5 [pb (Kj r),pb (.int n)]++Ug 1 qu) []=O (r.map λ_=>.bool qv):=by
   rw[YD (λ_=>qv) (λ_=>.bool qv) (λZ=>∃x,Z=[pb (Kj r),pb (.int n),x])]
   .rw[Jq.mpr (λ_ _=>rfl),Q7,Jd];rfl
   .rintro d hm Z ⟨x,rfl⟩
    obtain⟨t,ht,rfl⟩:=QF.mp hm;exact⟨_,UO (Qa qt) qt,rfl,λ_=>Kf (Uz (UB qt) (Uz (UB qt) UF)) qt (NJ (h t ht).1 (h t ht).2),_,rfl⟩
   .exact⟨qu,rfl⟩
   .rw[Qd,QM];omega
  exact U3 (Zw (Uz (Ko (Z7 (Zs (UB qt) qt) hc)) UF) (NI r)) qt
theorem NH{a b c x3:Option Sl}(ha:Xh a=a)(hb:Xh b=b)(hc:Xh c=c)(hx:Xh x3=x3):∀(ds es:qx)(x4:Option Sl),es.length+ds.length<=1000000 ->
  ∃y,Xx (gN 4) (UA qv) (Uv 4) ds [a,b,c,x3,x4] es=O (es++ds,[a,b,c,x3,y])
 |[],es,x4,_=>⟨x4,by rw[Xx,Jh]⟩
 |d::r,es,x4,h=>by
  rw[QC]at h;obtain⟨y,e⟩:=NH ha hb hc hx r (es++[d]) (O (.pub d)) (by rw[Qm,Q8];omega);refine⟨y,?_⟩;rw[Xx];have h1:gN 4 d [a,b,c,x3,x4]=O [a,b,c,x3,pb d]:=UO (Qa qt) qt;rw[h1];dsimp only[UA];rw[Qo qt];have h2:Uv 4 [a,b,c,x3,pb d]=.ok d [a,b,c,x3,pb d]:=UB qt;rw[h2];dsimp only;rw[Qo (by omega)];have h3:U5 [a,b,c,x3,pb d]=[a,b,c,x3,pb d]:=by unfold U5;simp only[QG,List.map_nil,ha,hb,hc,hx];rfl
  rw[h3,e,JM];rfl
theorem RP{a b:D}:∀(rs:List qy)(es:qx)(x3 x4:Option Sl),es.length+rs.flatten.length<=1000000 ->
  YS (gN 3) (UA qv) (KR (Uv 3)) (gN 4) (UA qv) (Uv 4) (rs.map Kj) [pb a,pb b,qu,x3,x4] es=O (es++rs.flatten.map int)
 |[],es,_,_,_=>by rw[List.map_nil,YS];simp
 |r::rs,es,x3,x4,h=>by rw[QJ,Qm]at h;rw[QG,YS];have h1:gN 3 (Kj r) [pb a,pb b,qu,x3,x4]=O [pb a,pb b,qu,pb (Kj r),x4]:=UO (Qa qt) qt;rw[h1];dsimp only[UA];rw[Qo qt];have h2:KR (Uv 3) [pb a,pb b,qu,pb (Kj r),x4]=.ok (r.map int) [pb a,pb b,qu,pb (Kj r),x4]:=Zs (UB qt) qt;rw[h2];dsimp only;have h3:U5 [pb a,pb b,qu,pb (Kj r),x4]=[pb a,pb b,qu,pb (Kj r),Xh x4]:=rfl;rw[h3];obtain⟨y,e⟩:=NH (a:=O (.pub a)) (b:=O (.pub b)) (c:=qu) (x3:=O (.pub (Kj r))) qt qt qt qt (r.map int) es (Xh x4) (by rw[Qd];omega);rw[e];dsimp only;have ih:=RP (a:=a) (b:=b) rs (es++r.map int) (O (.pub (Kj r))) y (by rw[Qm,Qd];omega);refine Eq.trans ih ?_;rw[QJ,Jc,JM]
theorem R1{ns:qy}(h:ns.Nodup):Zb ns=ns.length:=by
 unfold Zb
 have:∀i,i<=ns.length->(PyProof.Rows.firstMet (λi=>ns.getD i 0) i).length=i:=by
  intro i;induction i with
  |zero=>intro _;rfl
  |succ i ih=>
   intro hi;rw[PyProof.Rows.firstMet_succ]
   have hany:(PyProof.Rows.firstMet (λi=>ns.getD i 0) i).any (· == ns.getD i 0)=qw:=by
    rw[PyProof.Rows.firstMet_any,List.any_eq_false];intro x hx;obtain⟨j,hj,rfl⟩:=QF.mp hx;have hj:=Jf.mp hj;intro e;have e:ns.getD j 0=ns.getD i 0:=by simpa using e
    have l1:j<ns.length:=by omega
    have l2:i<ns.length:=by omega
    simp only[List.getD,Qe l1,Qe l2,JI]at e;exact absurd ((List.getElem_inj h).mp e) (by omega)
   unfold PyProof.Rows.step_dedup;rw[hany];rw[Qy (by decide),Qm,ih (by omega)];rfl
 exact this ns.length (Qk _)
theorem Ap{rs:List qy}{n:Nat}(g:VH n rs)(hn:n<=6)(hf:rs.flatten.length<=1000):Yr [U8 rs,.int n]=O (.bool qv):=by
 refine Za (Z:=[pb (U8 rs),pb (.int n),qu]) qt ?_;unfold XY;have hlen:U9 [U8 rs]=O (.int rs.length):=by unfold U8;rw[KM,Qd]
 have h5:=g.few;have hrl:∀r∈rs,r.length<=1000:=λr hr=>QH (List.Sublist.length_le (List.sublist_flatten_of_mem hr)) hf;apply U1;apply UT
 case h1=>exact Zr (Z1:=[pb (U8 rs),pb (.int n),qu]) (KE (UB qt) qt) (UM (Kt qt hlen) UE qt)
 case h2=>
       intro hh;have:(5:Int)<(rs.length:Int):=by simpa using hh
       omega
 case h3=>
  intro _;refine Ke (Kd ?_)
  have hc:Ks (gN 3) (UA qv) (UL 2 Ys (Uy (Uv 3) (Uy (Uv 1) (Ux)))) (rs.map Kj) (U5 [pb (U8 rs),pb (.int n),qu]++Ug 1 qu) []=O (rs.map λ_=>.bool qv):=by
   rw[YD (λ_=>qv) (λ_=>.bool qv) (λZ=>∃x,Z=[pb (U8 rs),pb (.int n),qu,x])]
   .rw[Jq.mpr (λ_ _=>rfl),Q7,Jd];rfl
   .rintro d hm Z ⟨x,rfl⟩
    obtain⟨r,hr,rfl⟩:=QF.mp hm;exact⟨_,UO (Qa qt) qt,rfl,λ_=>Kf (Uz (UB qt) (Uz (UB qt) UF)) qt (B8 (g.some r hr) (hrl r hr) (g.there r hr)),_,rfl⟩
   .exact⟨qu,rfl⟩
   .rw[Qd,QM];omega
  apply U1;apply UT
  case h1=>exact ZH (Yx (Zw (Uz (Ko (Z7 (Zs (UB qt) qt) hc)) UF) (NI rs)))
  case h2=>intro hh;cases hh
  case h3=>
   intro _;refine Ke (Kd ?_);have h2:WC (KR (Uv 0)) 2 (gN 3) (UA qv) (KR (Uv 3)) (gN 4) (UA qv) (Uv 4) [pb (U8 rs),pb (.int n),qu]=.ok (rs.flatten.map int) [pb (U8 rs),pb (.int n),qu]:=by unfold WC;have e1:KR (Uv 0) [pb (U8 rs),pb (.int n),qu]=.ok (rs.map Kj) [pb (U8 rs),pb (.int n),qu]:=Zs (UB qt) qt;rw[e1];dsimp only;have e2:=RP (a:=U8 rs) (b:=.int n) rs [] qu qu (by rw[QM];omega);have e3:YS (gN 3) (UA qv) (KR (Uv 3)) (gN 4) (UA qv) (Uv 4) (rs.map Kj) (U5 [pb (U8 rs),pb (.int n),qu]++Ug 2 qu) []=O ([]++rs.flatten.map int):=e2;rw[e3];rfl
   refine UZ (Zt h2 (Qa qt) qt) ?_;have hls:XA [.list (rs.flatten.map int)]=O (.int rs.flatten.length):=by unfold XA;dsimp only;rw[RV];dsimp only;rw[Qo (by omega),R1 g.once]
   refine U3 (Ko (UM (Zw (Uz (Yg qt qt) UF) hls) (Kt qt KM) Zn)) ?_;rw[Qd];simp
theorem WK{d:D}:∀{xs:qx}{k i:Nat},(Zp k xs)[i]?=O d->∃x,xs[i]?=O x/\d=.tuple [.int ((k+i:Nat):Int),x]
 |[],k,i,h=>by cases h
 |x::r,k,0,h=>by cases h;exact⟨x,rfl,rfl⟩
 |x::r,k,i+1,h=>by obtain⟨y,e,q⟩:=WK (xs:=r) (k:=k+1) (i:=i) h;exact⟨y,e,by rw[q];congr 4;omega⟩
theorem RF:∀(n:Nat)(l:qy),l.Nodup->(∀x∈l,0<=x/\x<n)->l.length<=n
 |0,[],_,_=>Qk _
 |0,x::r,_,h=>by have:=h x Qp;omega
 |n+1,l,hn,h=>by
  by_cases hm:(n:Int)∈l
  .have:=RF n (l.erase (n:Int)) (hn.erase _) λx hx=>by
    have h1:=(List.Nodup.mem_erase_iff hn).mp hx;have h2:=h x h1.2;have h3:=h1.1;omega
   rw[List.length_erase_of_mem hm]at this;omega
  .have:=RF n l hn λx hx=>by
    have h2:=h x hx;have h3:x≠(n:Int):=λe=>hm (e ▸ hx);omega
   omega
theorem Tf{n:Nat}{rs:List qy}(g:VH n rs):rs.flatten.length<=n:=RF n _ g.once λx hx=>by obtain⟨r,hr,hxr⟩:=JS.mp hx;exact g.there r hr x hxr
theorem CB{cs:qy}(h1:1<=cs.length)(h6:cs.length<=6)(h:∀c∈cs,0<=c/\c<8):Wj [.list (cs.map int)]=O .none:=by
 refine SS (Z:=[pb (.list (cs.map int)),qu,qu]) qt ?_;unfold Vi;have hlen:U9 [.list (cs.map int)]=O (.int cs.length):=by rw[KM,Qd]
 apply U1;apply UT
 case h1=>exact Zr (Z1:=[pb (.list (cs.map int)),qu,qu]) (KE (UB qt) qt) (ZH (VR UE (Kt qt hlen) qt (λ_=>UE) (λ_=>rfl)))
 case h2=>
  intro hh;have a1:(1:Int)<=(cs.length:Int):=by omega
  have a2:(cs.length:Int)<=6:=by omega
  simp[a1,a2]at hh
 case h3=>
  intro _;refine Ke (Kd ?_);apply Yy (λ_ Z=>∃x1 x2,Z=[pb (.list (cs.map int)),x1,x2])
  case h1=>exact WH (Uz (UB qt) UF) WM
  case h0=>exact⟨_,_,rfl⟩
  case hst=>
   rintro i d Z hi ⟨x1,x2,rfl⟩;obtain⟨x,hx,rfl⟩:=WK hi;obtain⟨c,hc,rfl⟩:=QF.mp (QP hx);refine⟨_,KN qt (U7 (UO (Qa qt) qt) (U7 (UO (Qa qt) qt) KO)),?_⟩;unfold OC;apply UT
   case h1=>exact ZH (Yx (Kf (Uz (UB qt) (Uz (UM UE UE ZE) UF)) qt (NJ (h c hc).1 (by have:=(h c hc).2;omega))))
   case h2=>intro hh;cases hh
   case h3=>exact λ_=>Ke (Ye ⟨_,_,rfl⟩)
  case hend=>exact λZ ⟨x1,x2,e⟩=>⟨_,rfl⟩
theorem Du{ls:L3}{n:Nat}(hn:n<=6)(h1:1<=ls.length)(h7:ls.length<=7)(h:∀rs∈ls,VH n rs):Wi [.list (ls.map U8),.int n]=O .none:=by
 refine SS (Z:=[pb (.list (ls.map U8)),pb (.int n),qu,qu]) qt ?_;unfold Vh;have hlen:U9 [.list (ls.map U8)]=O (.int ls.length):=by rw[KM,Qd]
 apply U1;apply UT
 case h1=>exact Zr (Z1:=[pb (.list (ls.map U8)),pb (.int n),qu,qu]) (KE (UB qt) qt) (ZH (VR UE (Kt qt hlen) qt (λ_=>UE) (λ_=>rfl)))
 case h2=>
  intro hh;have a1:(1:Int)<=(ls.length:Int):=by omega
  have a2:(ls.length:Int)<=7:=by omega
  simp[a1,a2]at hh
 case h3=>
  intro _;refine Ke (Kd ?_);apply Yy (λ_ Z=>∃x2 x3,Z=[pb (.list (ls.map U8)),pb (.int n),x2,x3])
  case h1=>exact WH (Uz (UB qt) UF) WM
  case h0=>exact⟨_,_,rfl⟩
  case hst=>
   rintro i d Z hi ⟨x1,x2,rfl⟩;obtain⟨x,hx,rfl⟩:=WK hi;obtain⟨rs,hrs,rfl⟩:=QF.mp (QP hx);refine⟨_,KN qt (U7 (UO (Qa qt) qt) (U7 (UO (Qa qt) qt) KO)),?_⟩;unfold OD;have hfl:=Tf (h rs hrs);apply UT
   case h1=>exact ZH (Yx (Kf (Uz (UB qt) (Uz (UB qt) UF)) qt (Ap (h rs hrs) hn (by omega))))
   case h2=>intro hh;cases hh
   case h3=>exact λ_=>Ke (Ye ⟨_,_,rfl⟩)
  case hend=>exact λZ ⟨x1,x2,e⟩=>⟨_,rfl⟩
theorem NG{cs:qy}{ls:L3}(g:Good cs ls):YN [Ki cs ls]=O .none:=by
 refine SS (Z:=[pb (Ki cs ls),qu,qu]) qt ?_;unfold Vg;apply U1;apply UT
 case h1=>exact Zr (Z1:=[pb (Ki cs ls),qu,qu]) (KE (UB qt) qt) (UM (Kt qt qt) UE Xn)
 case h2=>intro hh;cases hh
 case h3=>
  intro _;refine Ke (Kd ?_);have hlen:U9 [.list (cs.map int)]=O (.int (cs.length:Nat)):=by rw[KM,Qd]
  refine UZ (Vw (UB qt) (KN qt (U7 (UO (Qa qt) qt) (U7 (UO (Qa qt) qt) KO)))) ?_;refine UZ (T9 (Kf (Uz (UB qt) UF) qt (CB g.c1 g.c6 g.c7))) ?_;exact Kz (T9 (Kf (Uz (UB qt) (Uz (Kt qt hlen) UF)) qt (Du g.c6 g.l1 g.l7 g.rk))) ⟨_,rfl⟩
theorem Nl:∀(xs ys:qy),PyData.eqvAll (xs.map int) (ys.map int)=decide (xs=ys)
 |[],[]=>rfl
 |[],y::ys=>by simp[PyData.eqvAll]
 |x::xs,[]=>by simp[PyData.eqvAll]
 |x::xs,y::ys=>by
  have ih:=Nl xs ys
  show(Uo (.int x) (.int y)&&PyData.eqvAll (xs.map int) (ys.map int))=_
  rw[ih];have:Uo (.int x) (.int y)=decide (x=y):=rfl;rw[this,Bool.eq_iff_iff];simp
theorem CA{xs:qy}:oNe (.list (xs.map int)) (.list [])=O (!decide (xs=[])):=by
 unfold oNe;have h1:(Uh (xs.map int)).canLay0=qv:=Nn xs;have h3:(Uh (xs.map int)).depth<=60:=by have:=Nm xs;unfold Kj at this;omega
 rw[Qo ⟨h1,rfl,h3⟩]
 congr 2
 exact Nl xs []
theorem Ou{xs:qx}{x:D}(h:xs.getLast?=O x):oIx (.list xs) (.int (-1))=O x:=by
 unfold oIx atI;have hl:xs≠[]:=by rintro rfl;cases h
 have hp:0<xs.length:=List.length_pos_iff.mpr hl;rw[List.getLast?_eq_getElem?]at h
 show(ixN xs.length (-1)).bind _=_
 unfold ixN;rw[Qy (by decide),Qo (by omega)];have e2:(-1+(xs.length:Int)).toNat=xs.length-1:=by omega
 simp only[Option.bind_some];rw[e2];exact h
theorem Ri{xs:qy}{k:Nat}(h:k<xs.length):oIx (.list (xs.map int)) (.int k)=O (.int (xs.getD k 0)):=by refine KS ?_;rw[Qi,Qe h];simp[List.getD,List.getElem?_eq_getElem h]
theorem SB(ns:qy)(k:Nat)(hl:ns.length<=1000):∃v,ZY [.list (ns.map int),.int k]=O (.int v):=by
 have hlen:U9 [.list (ns.map int)]=O (.int ns.length):=by rw[KM,Qd]
 by_cases h:k<ns.length
 .refine⟨ns.getD k 0,Za (Z:=[pb (.list (ns.map int)),pb (.int k)]) qt ?_⟩
  unfold XX;apply U1;apply UT
  case h1=>exact Zd qt (Kt qt hlen) qt
  case h2=>exact λ_=>U3 (Kk qt (UB qt) (Ri h)) (KF qt)
  case h3=>
        intro hh;have:¬(k:Int)<(ns.length:Int):=by simpa using hh
        omega
 .refine⟨0,Za (Z:=[pb (.list (ns.map int)),pb (.int k)]) qt ?_⟩
  unfold XX;apply U1;apply UT
  case h1=>exact Zd qt (Kt qt hlen) qt
  case h2=>
        intro hh;have:(k:Int)<(ns.length:Int):=by simpa using hh
        omega
  case h3=>exact λ_=>Ke (Kd (U3 UE qt))
def tab:qy:=[1,1,2,0,3,7,1,4,5,6,1]
theorem PM{z:Int}(h0:0<=z)(h1:z<11):oIx (.list (tab.map int)) (.int z)=O (.int (tab.getD z.toNat 0))/\0<=tab.getD z.toNat 0/\tab.getD z.toNat 0<8:=by
 have e:z=0∨z=1∨z=2∨z=3∨z=4∨z=5∨z=6∨z=7∨z=8∨z=9∨z=10:=by omega
 rcases e with rfl|rfl|rfl|rfl|rfl|rfl|rfl|rfl|rfl|rfl|rfl<;>exact⟨rfl,by decide,by decide⟩
structure WD(n:Nat)(pl:qy)(j:Nat)(rs:List qy):Prop where
 few:rs.length<=j
 some:∀r∈rs,r≠[]
 there:∀r∈rs,∀t∈r,(0<=t/\t<n)/\pl.getD t.toNat 0<1+(j:Int)
 once:rs.flatten.Nodup
def Wk(n:Nat)(pl:qy)(r:Int):qy:=((Uf n).filter λk=>decide (pl.getD k 0=r)).map λk:Nat=>(k:Int)
theorem Ao(n:Nat)(pl:qy)(r:Int):(Wk n pl r).Nodup:=by unfold Wk;refine List.Pairwise.map _ (λa b h e=>h (by omega)) ((List.nodup_range).filter _)
theorem NF{n:Nat}{pl:qy}{r t:Int}(h:t∈Wk n pl r):(0<=t/\t<n)/\pl.getD t.toNat 0=r:=by
 unfold Wk at h;obtain⟨k,hk,rfl⟩:=QF.mp h;have hk:=J0.mp hk;have h1:=Jf.mp hk.1;have h2:pl.getD k 0=r:=by simpa using hk.2
 exact⟨⟨by omega,by omega⟩,by rw[Q9];exact h2⟩
theorem WD.add{n:Nat}{pl:qy}{j:Nat}{rs:List qy}{row:qy}(g:WD n pl j rs)(hne:row≠[])(hm:∀t∈row,t∈Wk n pl (1+(j:Int)))(hn:row.Nodup):WD n pl (j+1) (rs++[row]) where
 few:=by rw[Qm,Q8];have:=g.few;omega
 some:=λr hr=>by
  rcases Jg.mp hr with z|z
  .exact g.some r z
  .rw[QW.mp z];exact hne
 there:=λr hr t ht=>by
  rcases Jg.mp hr with z|z
  .have:=g.there r z t ht;exact⟨this.1,by omega⟩
  .rw[QW.mp z]at ht
   have:=NF (hm t ht);exact⟨this.1,by omega⟩
 once:=by rw[List.flatten_append,List.flatten_singleton];refine List.nodup_append.mpr ⟨g.once,hn,λa ha b hb e=>?_⟩;subst e;obtain⟨r,hr,har⟩:=JS.mp ha;have h1:=(g.there r hr a har).2;have h2:=(NF (hm a hb)).2;omega
theorem WD.next{n:Nat}{pl:qy}{j:Nat}{rs:List qy}(g:WD n pl j rs):WD n pl (j+1) rs:=
 ⟨by have:=g.few;omega,g.some,λr hr t ht=>⟨(g.there r hr t ht).1,by have:=(g.there r hr t ht).2;omega⟩,g.once⟩
theorem Ot{x:D}{m:Nat}(h:m<=1000):U0 (.list [x]) (.int m)=O (.list (Ug m x)):=by
 rw[Sv ⟨by omega,by omega,by rw[Q9];show 1*m<=_;omega⟩,Q9]
 congr 2
 induction m with
 |zero=>rfl
 |succ m ih=>rw[Q0,QJ,ih (by omega)];rfl
def szG(T A:Nat):qy:=(T:Int)::(A:Int)::Ug T 11
def Zy(T R:Nat):qy:=Ug T ((R:Int)+1)++[2]
theorem Os{T A:Nat}:(szG T A).length=T+2:=by unfold szG;simp
theorem Nk{T R:Nat}:(Zy T R).length=T+1:=by unfold Zy;simp
theorem HE{T A:Nat}(h1:1<=T)(h2:T<=6)(h3:1<=A)(h4:A<=7):∀x∈szG T A,0<x/\x<18446744073709551616:=λx hx=>by unfold szG at hx;simp only[QL,List.mem_replicate]at hx;rcases hx with rfl|rfl|⟨_,rfl⟩<;>omega
theorem FI{T R:Nat}(h:R<=5):∀x∈Zy T R,0<x/\x<18446744073709551616:=λx hx=>by unfold Zy at hx;simp only[List.mem_append,QW,List.mem_replicate]at hx;rcases hx with ⟨_,rfl⟩|rfl<;>omega
theorem Cz{T R:Nat}:(Zy T R)[T]?=O 2:=by unfold Zy;simp
theorem HD{T A k:Nat}(h:k<T):(szG T A)[2+k]?=O 11:=by unfold szG;rw[show 2+k=k+1+1 by omega,JH,JH,Qw,Qo h]
def SI(T A R:Nat)(S dz:D)(at_ n:Nat)(cs pl:qy)(ls:L3)(x9 qV:Option Sl)(j:Nat)(Z:Uw):Prop:=∃(rs:List qy)(q8 jC:Option Sl),
 Z=[pb S,pb (.int at_),pb (.int (T:Nat)),pb (.int (A:Nat)),pb (.int (R:Nat)),pb dz,O (.own (cs.map int)),O (.own (ls.map U8)),x9,qV,pb (.list (pl.map int)),O (.own (rs.map Kj)),q8,jC]/\WD n pl j rs
theorem B7{T A R:Nat}{S dz:D}{at_ n:Nat}{cs pl:qy}{ls:L3}{v9 v10:D}{j:Nat}{d:D}{Z:Uw}{Q:Out->Prop}(hcs:cs.length=n)(hT:T<=6)(hR:R<=5)(hn:n<=T)(hpl:pl.length=T+1)(jx:pl.getD T 0=0∨pl.getD T 0=1)
  (hj:(Zk 1 ((R:Int)+1))[j]?=O d) (h:SI T A R S dz at_ n cs pl ls (O (.pub v9)) (O (.pub v10)) j Z) :
  ∃Z2,gN 12 d Z=O Z2/\Ho Rr Z2 (Wv (SI T A R S dz at_ n cs pl ls (O (.pub v9)) (O (.pub v10)) (j+1)) Q):=by
 obtain⟨rs,q8,jC,rfl,g⟩:=h;obtain⟨rfl,hlt⟩:=Ws hj;have hj5:j<R:=by omega
 refine⟨_,UO (Qa qt) qt,?_⟩;unfold Rr
 have hrd:Zk 0 ((n:Nat):Int)=(Uf n).map λk=>.int (k:Int):=by
  unfold Zk;have:((n:Int)-0).toNat=n:=by omega
  rw[this];apply List.map_congr_left;intro k _;rw[JR]
 have hc:Ks (gN 14) (UD oEq (UK 10 (Uv 14)) (Uv 12)) (Uv 14) (Zk 0 ((n:Nat):Int)) (U5 [pb S,pb (.int at_),pb (.int (T:Nat)),pb (.int (A:Nat)),pb (.int (R:Nat)),pb dz,O (.own (cs.map int)),O (.own (ls.map U8)),pb v9,pb v10,pb (.list (pl.map int)),O (.own (rs.map Kj)),pb (.int (1+(j:Int))),jC]++Ug 1 qu) []=O ((Wk n pl (1+(j:Int))).map int):=by
  rw[hrd,YD (λd=>match d with | .int k=>decide (pl.getD k.toNat 0=1+(j:Int))|_=>qw) (λd=>d) (λZ=>∃x,Z=[pb S,pb (.int at_),pb (.int (T:Nat)),pb (.int (A:Nat)),pb (.int (R:Nat)),pb dz,qu,qu,pb v9,pb v10,pb (.list (pl.map int)),qu,pb (.int (1+(j:Int))),Xh jC,x])]
  .rw[Q7,List.map_id',List.filter_map]
   unfold Wk;rw[Jd];rfl
  .rintro d hm Z ⟨x,rfl⟩
   obtain⟨k,hk,rfl⟩:=QF.mp hm;have hk:=Jf.mp hk;refine⟨_,UO (Qa qt) qt,UM (Kk qt (UB qt) (Ri (by omega))) (UB qt) Zn,λ_=>UB qt,pb (.int k),?_⟩;unfold U5;cases jC with
   |none=>rfl
   |some sl=>cases sl<;>rfl
  .exact⟨qu,rfl⟩
  .rw[Qd,Jy,QM];omega
 have hlen:(cs.map int).length=n:=by rw[Qd,hcs]
 refine UZ (Zt (Z7 (Wq (Uz (OV qt) UF) (by rw[hlen];exact Wt (by omega) (by omega))) hc) (Qa qt) qt) ?_;generalize kn:Wk n pl (1+(j:Int))=row;apply UT
 case h1=>exact Nx qt (Kc UF (by decide)) qt CA
 case h2=>
  intro hh;have hne:row≠[]:=by simpa using hh
  have hlx:oIx (.list (pl.map int)) (.int (-1))=O (.int (pl.getD T 0)):=Ou (by rw[List.getLast?_eq_getElem?,Qd,hpl,Qi,Nat.add_sub_cancel,Qe (show T<pl.length by omega)];simp[List.getD,List.getElem?_eq_getElem (show T<pl.length by omega)])
  obtain⟨ju,hix,jw⟩:∃ju:qy,oIx (.list [.list (row.map int),.list (row.map int).reverse]) (.int (pl.getD T 0))=O (Kj ju)/\(ju=row∨ju=row.reverse):=by
   rcases jx with e|e
   .rw[e];exact⟨row,rfl,.inl qt⟩
   .rw[e];exact⟨row.reverse,by show O (Uh (row.map int).reverse)=_;unfold Kj;rw[List.map_reverse],.inr qt⟩
  have hrl:(rs.map Kj).length<1000000:=by rw[Qd];have:=g.few;omega
  refine Kz (WB qt (UM (Kc (Uz (Yg qt qt) (Uz (L8 (UB qt) UE UE (WG (Ta UE))) UF)) (Qa qt)) (Kk qt (Ta UE) hlx) hix) qt hrl qt) ?_;refine Ye ⟨rs++[ju],pb (.int (1+(j:Int))),pb (.list (row.map int)),by rw[Jc];rfl,g.add ?_ ?_ ?_⟩
  .rcases jw with e|e<;>rw[e]
   .exact hne
   .exact λz=>hne (List.reverse_eq_nil_iff.mp z)
  .intro t ht
   rw[kn];rcases jw with e|e<;>rw[e]at ht
   .exact ht
   .exact List.mem_reverse.mp ht
  .have hnd:=Ao n pl (1+(j:Int))
   rw[kn]at hnd;rcases jw with e|e<;>rw[e]
   .exact hnd
   .exact(List.reverse_perm row).nodup_iff.mpr hnd
 case h3=>exact λ_=>Ke (Ye ⟨rs,_,_,rfl,g.next⟩)
def SG(T A R:Nat)(S dz:D)(at_ n:Nat)(cs:qy)(i:Nat)(Z:Uw):Prop:=∃(ls:L3)(x9 qV qU je q8 jC:Option Sl),
 Z=[pb S,pb (.int at_),pb (.int (T:Nat)),pb (.int (A:Nat)),pb (.int (R:Nat)),pb dz,O (.own (cs.map int)),O (.own (ls.map U8)),x9,qV,qU,je,q8,jC]/\ls.length=i/\∀rs∈ls,VH n rs/\rs.length<=R
theorem An{T A R:Nat}{ns:qy}{dz:D}{at_ n:Nat}{cs:qy}{i:Nat}{m:Int}{d:D}{Z:Uw}{Q:Out->Prop}(hns:ns.length<=1000)(hT:T<=6)(hR:R<=5)(hcs:cs.length=n)(hn:n<=T)(hm:m<=100)
  (hi:(Zk 0 m)[i]?=O d) (h:SG T A R (.list (ns.map int)) dz at_ n cs i Z) :
  ∃Z2,gN 8 d Z=O Z2/\Ho Rq Z2 (Wv (SG T A R (.list (ns.map int)) dz at_ n cs (i+1)) Q):=by
 obtain⟨ls,x9,qV,qU,je,q8,jC,rfl,hl,hg⟩:=h;obtain⟨rfl,hlt⟩:=Ws hi;refine⟨_,UO (Qa qt) qt,?_⟩;unfold Rq;obtain⟨v,hv⟩:=SB ns (at_+1+i) hns;have ev:((at_:Int)+1+(0+(i:Int)))=((at_+1+i:Nat):Int):=by omega
 rw[←ev]at hv;refine UZ (Kr (Kf (Uz (UB qt) (Uz (UM (UM (UB qt) UE ZE) (UB qt) ZE) UF)) qt hv) (Qa qt) qt) ?_;obtain⟨r,hF,pl,rfl,hpl,hpb⟩:=Tq v (11*(at_:Int)+3*(0+(i:Int))+1) (sizes:=Zy T R) (FI hR) (by rw[Nk];omega);have hpl7:pl.length=T+1:=by rw[hpl,Nk]
 have hmul:U0 (.list [.int ((R:Int)+1)]) (.int (T:Nat))=O (.list (Ug T (.int ((R:Int)+1)))):=Ot (by omega);have hadd:UN (.list (Ug T (.int ((R:Int)+1)))) (.list [.int 2])=O (.list ((Zy T R).map int)):=by rw[ZJ (by rw[QT];show T+1<=_;omega)];unfold Zy;rw[Jc,List.map_replicate];rfl
 refine UZ (Kr (Kf (Uz (UB qt) (Uz (UM (UM (UM UE (UB qt) (WN (by decide) (by decide))) (UM UE (UB qt) (WN (by decide) (by decide))) ZE) UE ZE) (Uz (UM (UM (Kc (Uz (UM (UB qt) UE ZE) UF) (Qa qt)) (UB qt) hmul) (Kc (Uz UE UF) (Qa qt)) hadd) UF))) qt hF) (Qa qt) qt) ?_;refine UZ (Zt (Xp UF (Qa qt)) (Qa qt) qt) ?_
 have jx:pl.getD T 0=0∨pl.getD T 0=1:=by
  have e:pl[T]?=O pl[T]:=Qe (by omega);have:=hpb T pl[T] 2 e Cz;have e2:pl.getD T 0=pl[T]:=by simp[List.getD,e]
  rw[e2];omega
 apply U1;apply Yy (SI T A R (.list (ns.map int)) dz at_ n cs pl ls (O (.pub (.int (0+(i:Int))))) (O (.pub (.int v))))
 case h1=>exact OU (Uz UE (Uz (UM (UB qt) UE ZE) UF)) (Ny (by omega) (by omega) (by decide) (by decide))
 case h0=>exact⟨[],q8,jC,rfl,⟨Qk _,λ_ h=>(by cases h),λ_ h=>(by cases h),List.nodup_nil⟩⟩
 case hst=>exact λj d Z e h=>B7 hcs hT hR hn hpl7 jx e h
 case hend=>
  rintro Z ⟨rs,y13,y14,rfl,g⟩;refine Kd ?_;have hl5:(Zk 1 ((R:Int)+1)).length=R:=by rw[Xr];omega
  rw[hl5]at g;have kB:(ls.map U8).length<1000000:=by rw[Qd];omega
  refine Kz (WB qt (Yg qt qt) qt kB qt) ?_;refine Ye ⟨ls++[rs],pb (.int (0+(i:Int))),pb (.int v),pb (.list (pl.map int)),pb (.list (rs.map Kj)),y13,y14,by rw[Jc];rfl,by rw[Qm,hl];rfl,λx hx=>?_⟩;rcases Jg.mp hx with z|z
  .exact hg x z
  .rw[QW.mp z];exact⟨⟨by have:=g.few;omega,g.some,λr hr t ht=>(g.there r hr t ht).1,g.once⟩,g.few⟩
theorem AE(T A R:Nat){ns:qy}(hns:ns.length<=1000)(at_:Nat)(hT1:1<=T:=by decide)(hT:T<=6:=by decide)(hA1:1<=A:=by decide)(hA:A<=7:=by decide)(hR:R<=5:=by decide):∃r,Wc [.list (ns.map int),.int at_,.int (T:Nat),.int (A:Nat),.int (R:Nat)]=O r/\∃cs ls,r=Ki cs ls/\Good cs ls/\cs.length<=T/\ls.length<=A/\∀rs∈ls,rs.length<=R:=by
 obtain⟨v,hv⟩:=SB ns at_ hns;obtain⟨r,hF,ds,rfl,hl,hd⟩:=Tq v at_ (sizes:=szG T A) (HE hT1 hT hA1 hA) (by rw[Os];omega);have hl8:ds.length=T+2:=by rw[hl,Os]
 have at':∀(j:Nat)(k z:Int),k=j->(szG T A)[j]?=O z->∃d,oIx (.list (ds.map int)) (.int k)=O (.int d)/\ds[j]?=O d/\0<=d/\d<z:=λj k z hk hz=>by
  subst hk;have hj:j<ds.length:=by rw[hl];exact(Ql.mp hz).1
  have e:ds[j]?=O ds[j]:=Qe hj;obtain⟨p0,p1⟩:=hd j ds[j] z e hz;exact⟨ds[j],KS (by rw[Qi,e];rfl),e,p0,p1⟩
 obtain⟨d0,x0,e0,p0,q0⟩:=at' 0 0 T qt qt;obtain⟨d1,x1,e1,p1,q1⟩:=at' 1 1 A qt qt;have hmul:U0 (.list [.int 11]) (.int (T:Nat))=O (.list (Ug T (.int 11))):=Ot (by omega);have hadd:UN (.list [.int (T:Nat),.int (A:Nat)]) (.list (Ug T (.int 11)))=O (.list ((szG T A).map int)):=by rw[ZJ (by rw[QT];show 2+T<=_;omega)];unfold szG;rw[QG,QG,List.map_replicate];rfl
 obtain⟨n,hn⟩:∃n:Nat,1+d0=n:=⟨(1+d0).toNat,by omega⟩
 refine WA (Z:=[pb (.list (ns.map int)),pb (.int at_),pb (.int (T:Nat)),pb (.int (A:Nat)),pb (.int (R:Nat)),qu,qu,qu,qu,qu,qu,qu,qu,qu]) qt ?_;unfold W3;refine UZ (Kr (Kf (Uz (Kf (Uz (UB qt) (Uz (UB qt) UF)) qt hv) (Uz (UB qt) (Uz (UM (Kc (Uz (UB qt) (Uz (UB qt) UF)) (Qa qt)) (UM (Kc (Uz UE UF) (Qa qt)) (UB qt) hmul) hadd) UF))) qt hF) (Qa qt) qt) ?_
 have hcut:DL.cutD (ds.map int) (O 2) (O (3+d0))=((ds.drop 2).take n).map int:=by
  rw[Cb (by decide) (by omega) (by omega)];have:(3+d0).toNat-(2:Int).toNat=n:=by omega
  rw[this];rfl
 have jN:((ds.drop 2).take n).length=n:=by rw[JQ,List.length_drop,hl8];omega
 have each:∀z∈(ds.drop 2).take n,0<=z/\z<11:=λz hz=>by
  have hz:=List.mem_of_mem_take hz;obtain⟨k,hk,e⟩:=List.getElem_of_mem hz;rw[List.length_drop,hl8]at hk;rw[List.getElem_drop]at e;have e2:ds[2+k]?=O z:=by rw[←e];exact Qe _
  refine hd (2+k) z 11 e2 (HD ?_);omega
 let cs:qy:=((ds.drop 2).take n).map λz=>tab.getD z.toNat 0
 have hcl:cs.length=n:=by show(List.map _ _).length=n;rw[Qd,jN]
 have hc:∀xs:List (Option Sl),U5 xs=xs->xs.length=14->Ks (gN 14) (UA qv) (UD oIx (UJ (Uy (UA (.int 1)) (Uy (UA (.int 1)) (Uy (UA (.int 2)) (Uy (UA (.int 0)) (Uy (UA (.int 3)) (Uy (UA (.int 7)) (Uy (UA (.int 1)) (Uy (UA (.int 4)) (Uy (UA (.int 5)) (Uy (UA (.int 6)) (Uy (UA (.int 1)) (Ux))))))))))))) (Uv 14)) (((ds.drop 2).take n).map int) (U5 xs++Ug 1 qu) []=O (cs.map int):=by
  intro xs hx hxl;rw[hx,YD (λ_=>qv) (λd=>match d with | .int z=>.int (tab.getD z.toNat 0)|_=>.none) (λZ=>∃x,Z=xs++[x])]
  .rw[Jq.mpr (λ_ _=>rfl),Q7,Jd]
   show _=O ((((ds.drop 2).take n).map λz=>tab.getD z.toNat 0).map int);rw[Jd];rfl
  .rintro d hm Z ⟨x,rfl⟩
   obtain⟨z,hz,rfl⟩:=QF.mp hm;have ht:=PM (each z hz).1 (each z hz).2;have hset:(xs++[x]).set 14 (O (Sl.pub (.int z)))=xs++[pb (.int z)]:=by rw[List.set_append_right _ _ (by omega),hxl];rfl
   have hget:(xs++[O (Sl.pub (.int z))])[14]?=O (O (Sl.pub (.int z))):=by rw[Qv (by omega),hxl];rfl
   refine⟨_,UO (by rw[Qm,hxl];exact Qa qt) hset,rfl,λ_=>?_,pb (.int z),?_⟩
   .exact UM (Kc (Uz UE (Uz UE (Uz UE (Uz UE (Uz UE (Uz UE (Uz UE (Uz UE (Uz UE (Uz UE (Uz UE UF))))))))))) (Qa qt)) (UB hget) ht.1
   .unfold U5 at hx⊢
    rw[Jc,hx];rfl
  .exact⟨qu,rfl⟩
  .rw[Qd,jN,QM];omega
 refine UZ (Zt (Z7 (Zs (T5 (UB qt) (WG UE) (WG (UM UE (Kk qt UE x0) ZE)) (by rw[Sg,hcut])) YC) (hc _ qt qt)) (Qa qt) qt) ?_;refine UZ (Zt (Xp UF (Qa qt)) (Qa qt) qt) ?_;apply U1;apply Yy (SG T A R (.list (ns.map int)) (.list (ds.map int)) at_ n cs)
 case h1=>exact Wq (Uz (UM UE (Kk qt UE x1) ZE) UF) (Wt (by omega) (by omega))
 case h0=>exact⟨[],_,_,_,_,_,_,rfl,rfl,λ_ h=>by cases h⟩
 case hst=>exact λi d Z e h=>An hns hT hR hcl (by omega) (by omega) e h
 case hend=>rintro Z ⟨ls,y9,y10,y11,y12,y13,y14,rfl,kB,hg⟩;rw[Xr]at kB;refine Kd (U3 (KH (Uz (Yg rfl rfl) (Uz (Yg rfl rfl) UF)) (Qa rfl)) ⟨_,rfl,cs,ls,rfl,⟨?_,by omega,by omega,λrs hrs=>(hg rs hrs).2⟩⟩);exact⟨by omega,by omega,λc hc=>by obtain⟨z,hz,rfl⟩:=QF.mp hc;exact(PM (each z hz).1 (each z hz).2).2,by omega,by omega,λrs hrs=>by rw[hcl];exact(hg rs hrs).1⟩
def Xl(t:Int)(rs:List qy):Nat:=if rs.findIdx (λr=>r.contains t)<rs.length then rs.findIdx (λr=>r.contains t)+1 else 0
theorem FH(a b:Int):Uo (.int a) (.int b)=(a==b):=by simp[Uo]
theorem Oq(t:Int)(r:qy):oIn (.int t) (Kj r)=O (r.contains t):=by
 have h1:Ul (r.map int)=qv:=by
  induction r with
  |nil=>rfl
  |cons x r ih=>rw[QG];unfold Ul;rw[ih];rfl
 unfold oIn Kj;dsimp only;rw[Qo ⟨rfl,h1,Nat.zero_le _⟩]
 congr 1
 rw[List.any_map];clear h1;induction r with
 |nil=>rfl
 |cons x r ih=>
  rw[List.any_cons,ih,QQ]
  congr 1
  show Uo (.int x) (.int t)=(t==x);rw[FH];exact Bool.eq_iff_iff.2 ⟨λh=>beq_iff_eq.2 (beq_iff_eq.1 h).symm,λh=>beq_iff_eq.2 (beq_iff_eq.1 h).symm⟩
theorem CU{t:Int}{rs:List qy}{i:Nat}{r:qy}(hr:rs[i]?=O r)(h:r.contains t=qv)(hb:∀j r,j<i->rs[j]?=O r->r.contains t=qw):Xl t rs=1+i:=by obtain⟨hi,e⟩:=List.getElem?_eq_some_iff.1 hr;have hf:rs.findIdx (λr=>r.contains t)=i:=(List.findIdx_eq hi).2 ⟨by rw[e];exact h,λj hj=>hb j _ hj (Qe (Nat.lt_trans hj hi))⟩;unfold Xl;rw[hf,Qo hi,Nat.add_comm]
theorem CT{t:Int}{rs:List qy}(hb:∀j r,j<rs.length->rs[j]?=O r->r.contains t=qw):Xl t rs=0:=by
 have hf:rs.findIdx (λr=>r.contains t)=rs.length:=List.findIdx_eq_length.2 λr hr=>by obtain⟨j,hj,e⟩:=List.mem_iff_getElem.1 hr;exact hb j r hj (by rw[Qe hj,e])
 unfold Xl;rw[hf,Qy (Ja _)]
theorem B6(t:Int)(rs:List qy):Wh [U8 rs,.int t]=O (.int (Xl t rs:Nat)):=by
 refine Za (Z:=[pb (U8 rs),pb (.int t),qu,qu]) qt ?_;unfold Vf;apply U1;apply Yy (λi Z=>(∃x2 x3,Z=[pb (U8 rs),pb (.int t),x2,x3])/\∀j r,j<i->rs[j]?=O r->r.contains t=qw)
 case h1=>exact Ca (Uz (UB qt) UF) Cw
 case h0=>exact⟨⟨_,_,rfl⟩,λj r h=>absurd h (Nat.not_lt_zero _)⟩
 case hst=>
  rintro i d Z hi ⟨⟨x2,x3,rfl⟩,hb⟩;obtain⟨x,hx,rfl⟩:=WK hi;rw[Qi]at hx;cases hr:rs[i]? with
  |none=>rw[hr]at hx;cases hx
  |some r=>
   rw[hr]at hx;cases hx;refine⟨_,KN qt (U7 (UO (Qa qt) qt) (U7 (UO (Qa qt) qt) KO)),?_⟩;unfold OA;apply UT
   case h1=>exact Zd qt (UB qt) (Oq t r)
   case h2=>intro hh;refine U3 (UB qt) (RA ?_);rw[CU hr hh hb];exact⟨rfl⟩
   case h3=>
    intro hh;refine Ke (Ye ⟨⟨_,_,rfl⟩,λj r' hj hr'=>?_⟩);rcases Nat.lt_succ_iff_lt_or_eq.1 hj with h|rfl
    .exact hb j r' h hr'
    .rw[hr]at hr';cases hr';exact hh
 case hend=>rintro Z ⟨⟨x2,x3,rfl⟩,hb⟩;rw[XH,Qd]at hb;refine Kd ?_;rw[CT hb];exact U3 UE rfl
def UQ:qD->D
 |none=>.none
 |some t=>.int t
def Ku(ws:LO):D:=.list (ws.map UQ)
structure Deal(cs:qy)(ls:L3)(ws:LO):Prop where
 len:ws.length=ls.length
 wish:∀(i:Nat) t rs,ws[i]?=O (O t)->ls[i]?=O rs->t∈rs.flatten
 cop:∀(k:Nat) c,cs[k]?=O c->((ws.count (O (k:Int)):Nat):Int)<=c
theorem B5{t:Int}{rs:List qy}(h:t∈rs.flatten):Xl t rs≠0:=by obtain⟨r,hr,ht⟩:=JS.mp h;have:rs.findIdx (λr=>r.contains t)<rs.length:=List.findIdx_lt_length_of_exists ⟨r,hr,by simpa using ht⟩;unfold Xl;rw[Qo this];omega
theorem Dt(ws:LO):Ul (ws.map UQ)=qv:=RL λx hx=>by obtain⟨y,_,rfl⟩:=QF.mp hx;cases y<;>rfl
theorem Rh(a b:qD):Uo (UQ a) (UQ b)=decide (a=b):=by rw[Bool.eq_iff_iff];cases a<;>cases b<;>simp[UQ,Uo]
theorem B4{ws:LO}{k:Int}:Wr (Ku ws) (.int k)=O (.int (ws.count (O k):Nat)):=by
 unfold Ku Wr;dsimp only;rw[if_pos ⟨rfl,Dt ws,by simp[Um]⟩]
 congr 3
 induction ws with
 |nil=>rfl
 |cons w r ih=>
  rw[QG,List.countP_cons,List.count_cons,ih]
  congr 1
  have:=Rh w (O k);have e:UQ (O k)=.int k:=rfl;rw[e]at this;rw[this];cases w with
  |none=>simp
  |some z=>simp
theorem Sf{f:M qx}{k:Nat}{s:D->Uw->qE}{t:M Bool}{g:M D}{Z Z1:Uw}{ds es:qx}(h1:f Z=.ok ds Z1)(h2:Ks s t g ds (K2 Z1++Ug k qu) []=O es)(h3:es.all flat=qv):Wp f k s t g Z=.ok es Z1:=by unfold Wp;rw[h1];dsimp only;rw[h2];dsimp only;rw[if_pos h3]
theorem NE{cs:qy}{ls:L3}{rs:List qy}{i:Nat}(hi:ls[i]?=O rs)(hl:rs.flatten.length<64):YL [Ki cs ls,.int i]=O (.list ((ZD rs.flatten).map int)):=by
 refine Za (Z:=[pb (Ki cs ls),pb (.int i)]) qt ?_;unfold W2;have i1:oIx (Ki cs ls) (.int 1)=O (.list (ls.map U8)):=KS (j:=1) qt;have i2:oIx (.list (ls.map U8)) (.int i)=O (U8 rs):=KS (by rw[Qi,hi];rfl)
 have hs:Vn [U8 rs,.list []]=O (.list (rs.flatten.map int)):=by
  have e:U8 rs=.list ((rs.map λr=>r.map int).map Uh):=by unfold U8;rw[Jd];rfl
  have e2:(rs.map λr=>r.map int).flatten=rs.flatten.map int:=by rw[List.map_flatten]
  rw[e];unfold Vn;dsimp only;rw[BG];dsimp only;rw[e2,Qo (by rw[Qd];omega)]
 exact U3 (Zw (Uz (Zw (Uz (UM (Kk qt UE i1) (UB qt) i2) (Uz (Kc UF (Qa qt)) UF)) hs) UF) (Ad hl)) qt
structure WF(cs:qy)(ls:L3)(lf:qy)(ws:LO):Prop where
 wish:∀(i:Nat) t rs,ws[i]?=O (O t)->ls[i]?=O rs->t∈rs.flatten
 len:lf.length=cs.length
 cop:∀(k:Nat) c,cs[k]?=O c->lf[k]?=O (c-((ws.count (O (k:Int)):Nat):Int))/\0<=c-((ws.count (O (k:Int)):Nat):Int)
theorem NC{ls:L3}{ws:LO}{o:qD}{rs:List qy}(h:∀(i:Nat) t rs,ws[i]?=O (O t)->ls[i]?=O rs->t∈rs.flatten)(hi:ls[ws.length]?=O rs)(ho:∀t,o=O t->t∈rs.flatten) :
  ∀(i:Nat) t rs,(ws++[o])[i]?=O (O t)->ls[i]?=O rs->t∈rs.flatten:=by
 intro j t rs' e1 e2;by_cases hj:j<ws.length
 .rw[Qq hj]at e1;exact h j t rs' e1 e2
 .by_cases hj2:j=ws.length
  .subst hj2
   rw[hi]at e2;cases e2;rw[Qv (Qk _),Nat.sub_self,List.getElem?_cons_zero]at e1;cases e1;exact ho t qt
  .rw[Js (by rw[Qm,Q8];omega)]at e1
   cases e1
theorem WF.none{cs:qy}{ls:L3}{lf:qy}{ws:LO}{rs:List qy}(d:WF cs ls lf ws)(hi:ls[ws.length]?=O rs):WF cs ls lf (ws++[Option.none]) where
 wish:=NC d.wish hi λt e=>by cases e
 len:=d.len
 cop:=λk c e=>by rw[List.count_append];simpa using d.cop k c e
theorem WF.give{cs:qy}{ls:L3}{lf:qy}{ws:LO}{rs:List qy}{t v:Int}(d:WF cs ls lf ws)(hi:ls[ws.length]?=O rs)(ht:t∈rs.flatten)(h0:0<=t)(hv:lf[t.toNat]?=O v)(hp:0<v):WF cs ls (lf.set t.toNat (v-1)) (ws++[O t]) where
 wish:=NC d.wish hi λt' e=>by cases e;exact ht
 len:=by rw[Jb];exact d.len
 cop:=λk c e=>by
  obtain⟨h1,h2⟩:=d.cop k c e;rw[List.count_append];by_cases hk:t=(k:Int)
  .subst hk
   rw[Q9]at hv⊢;rw[h1]at hv;cases hv;have hl:k<lf.length:=(Ql.mp h1).1;rw[QI hl];simp only[List.count_singleton_self];refine⟨by congr 1;omega,by omega⟩
  .have hne:t.toNat≠k:=by omega
   rw[Qn hne];have:List.count (O (k:Int)) [O t]=0:=by rw[List.count_eq_zero];intro z;have:=QW.mp z;exact hk (QS this).symm
   rw[this];exact⟨h1,h2⟩
theorem PL{os:LO}{k:Nat}(h:k<os.length):oIx (.list (os.map UQ)) (.int k)=O (UQ os[k]):=KS (by rw[Qi,Qe h];rfl)
theorem Nj{ws:LO}{o:qD}:(ws++[o]).map UQ=ws.map UQ++[UQ o]:=by rw[Jc];rfl
def WU(cs:qy)(ls:L3)(c s:D)(dg:qy)(i:Nat)(Z:Uw):Prop:=∃(lf:qy)(ws:LO)(x6 x7 x8:Option Sl),
 Z=[pb (Ki cs ls),pb c,pb s,O (.own (lf.map int)),pb (.list (dg.map int)),O (.own (ws.map UQ)),x6,x7,x8]/\ws.length=i/\WF cs ls lf ws
theorem B3{cs:qy}{ls:L3}{c s:D}{dg:qy}{i:Nat}{d:D}{Z:Uw}{Q:Out->Prop}(g:Good cs ls)(hdl:dg.length=ls.length)(hd0:∀x∈dg,0<=x)(hi:(Zk 0 ls.length)[i]?=O d)(h:WU cs ls c s dg i Z) :
  ∃Z2,gN 6 d Z=O Z2/\Ho Rs Z2 (Wv (WU cs ls c s dg (i+1)) Q):=by
 obtain⟨lf,ws,x6,x7,x8,rfl,hw,dl⟩:=h;obtain⟨rfl,hlt⟩:=Ws hi;have jY:i<ls.length:=by omega
 have hls:ls[i]?=O ls[i]:=Qe jY;have gr:=g.rk _ (QP hls);have hfl:=Tf gr;refine⟨_,UO (Qa qt) qt,?_⟩;unfold Rs;rw[JR];generalize hrs:ls[i]=rs at *;have hmem:∀t∈ZD rs.flatten,t∈rs.flatten:=λt ht=>(XE _).mem_iff.mp ht
 have hthere:∀t∈rs.flatten,0<=t/\t<lf.length:=λt ht=>by obtain⟨r,hr,htr⟩:=JS.mp ht;have:=gr.there r hr t htr;rw[dl.len];exact this
 let L:=(ZD rs.flatten).filter λt=>decide (0<lf.getD t.toNat 0)
 have hc:Ks (gN 9) (UD (oIB λi j=>decide (j<i)) (UK 3 (Uv 9)) (UA (.int 0))) (Uv 9) ((ZD rs.flatten).map int) (K2 [pb (Ki cs ls),pb c,pb s,O (.own (lf.map int)),pb (.list (dg.map int)),O (.own (ws.map UQ)),pb (.int (i:Int)),x7,x8]++Ug 1 qu) []=O (L.map int):=by
  rw[YD (λd=>match d with | .int t=>decide (0<lf.getD t.toNat 0)|_=>qw) (λd=>d) (λZ=>∃x y7 y8,Z=[pb (Ki cs ls),pb c,pb s,pb (.list (lf.map int)),pb (.list (dg.map int)),pb (.list (ws.map UQ)),pb (.int (i:Int)),y7,y8,x])]
  .rw[Q7,List.map_id',List.filter_map]
   rfl
  .rintro d hm Z ⟨x,y7,y8,rfl⟩
   obtain⟨t,ht,rfl⟩:=QF.mp hm;obtain⟨h0,h1⟩:=hthere t (hmem t ht);obtain⟨k,rfl⟩:∃k:Nat,t=k:=⟨t.toNat,by omega⟩
   refine⟨_,UO (Qa qt) qt,UM (Kk qt (UB qt) (Ri (by omega))) UE qt,λ_=>UB qt,pb (.int k),Xh y7,Xh y8,rfl⟩
  .exact⟨qu,SE x7,SE x8,rfl⟩
  .rw[Qd,QM,(XE _).length_eq];have:=g.c6;omega
 have hLl:L.length<=6:=by have:L.length<=(ZD rs.flatten).length:=List.length_filter_le _ _;rw[(XE _).length_eq]at this;have:=g.c6;omega
 have hadd:UN (.list (L.map int)) (.list [.none])=O (.list ((L.map O++[qu]).map UQ)):=by rw[ZJ (by rw[Qd];show L.length+1<=_;omega),Jc,Jd];rfl
 refine UZ (Kr (UM (Ko (Sf (Zs (Kf (Uz (UB qt) (Uz (UB qt) UF)) qt (NE (cs:=cs) hls (by have:=g.c6;omega))) YC) hc (by rw[List.all_map,Q2];exact λ_ _=>rfl))) (Kc (Uz UE UF) (Qa qt)) hadd) (Qa qt) qt) ?_;have kq:(L.map O++[qu]:LO).length=L.length+1:=by rw[Qm,Qd];rfl
 have hlen:U9 [.list ((L.map O++[qu]:LO).map UQ)]=O (.int ((L.length+1:Nat):Int)):=by rw[KM,Qd,kq]
 have hdi:dg[i]?=O dg[i]:=Qe (by omega);have hx0:=hd0 _ (QP hdi);have hix:oIx (.list (dg.map int)) (.int (i:Int))=O (.int dg[i]):=KS (by rw[Qi,hdi];rfl);have hm0:0<=dg[i] % ((L.length+1:Nat):Int):=JL _ (by omega);have hm1:dg[i] % ((L.length+1:Nat):Int)<((L.length+1:Nat):Int):=JA _ (by omega);obtain⟨k,hk⟩:∃k:Nat,dg[i] % ((L.length+1:Nat):Int)=k:=⟨(dg[i] % ((L.length+1:Nat):Int)).toNat,by omega⟩
 have hkl:k<(L.map O++[qu]:LO).length:=by rw[kq];omega
 have qY:=PL (os:=L.map O++[qu]) hkl;rw[←hk]at qY;generalize ho:(L.map O++[qu]:LO)[k]=o at qY;refine UZ (Kr (Kk qt (UM (Kk qt (UB qt) hix) (Kt qt hlen) (YX (by omega))) qY) (Qa qt) qt) ?_;have jc:(ws.map UQ).length<1000000:=by rw[Qd];have:=g.l7;omega
 have kz:ls[ws.length]?=O rs:=by rw[hw];exact hls
 cases o with
 |none=>
  apply U1;apply UT
  case h1=>exact Ph (UB qt) qt
  case h2=>intro hh;cases hh
  case h3=>intro _;refine Ke (Kd ?_);refine Kz (WB qt (UB qt) qt jc qt) ?_;exact Ye ⟨lf,ws++[qu],_,_,_,by rw[Nj (ws:=ws)];rfl,by rw[Qm,hw];rfl,dl.none kz⟩
 |some t=>
  have htL:t∈L:=by
   have hm:O t∈(L.map O++[qu]:LO):=ho ▸ Jl hkl;rcases Jg.mp hm with z|z
   .obtain⟨t',h1,h2⟩:=QF.mp z
    cases h2;exact h1
   .cases QW.mp z
  obtain⟨htm,htp⟩:=J0.mp htL;have htf:=hmem t htm;obtain⟨h0,h1⟩:=hthere t htf;have hv:lf[t.toNat]?=O lf[t.toNat]:=Qe (by omega);have hvd:lf.getD t.toNat 0=lf[t.toNat]:=by simp[List.getD,hv]
  have hpos:0<lf[t.toNat]:=by rw[hvd]at htp;simpa using htp
  have hvx:oIx (.list (lf.map int)) (.int t)=O (.int lf[t.toNat]):=Ha h0 (by rw[Qi,hv];rfl);apply U1;apply UT
  case h1=>exact Ph (UB qt) qt
  case h2=>intro _;refine Kz (Fg (UM (SZ qt (UB qt) qt hvx) UE Sa) qt (UB qt) qt ⟨h0,by rw[Qd];exact h1⟩ qt) ?_;refine Kd ?_;refine Kz (WB qt (UB qt) qt jc qt) ?_;exact Ye ⟨lf.set t.toNat (lf[t.toNat]-1),ws++[O t],_,_,_,by rw[Nj (ws:=ws),←Cc];rfl,by rw[Qm,hw];rfl,dl.give kz htf h0 hv hpos⟩
  case h3=>intro hh;cases hh
theorem B2{cs:qy}{ls:L3}(g:Good cs ls)(c s:Int):∃r,Wb [Ki cs ls,.int c,.int s]=O r/\∃ws,r=Ku ws/\Deal cs ls ws:=by
 refine WA (Z:=[pb (Ki cs ls),pb (.int c),pb (.int s),qu,qu,qu,qu,qu,qu]) qt ?_;unfold W1;have i0:oIx (Ki cs ls) (.int 0)=O (.list (cs.map int)):=KS (j:=0) qt;have i1:oIx (Ki cs ls) (.int 1)=O (.list (ls.map U8)):=KS (j:=1) qt;have hlen:U9 [.list (ls.map U8)]=O (.int ls.length):=by rw[KM,Qd]
 refine UZ (Zt (Km (Uz (Kk qt UE i0) UF) (Zj (show Vo [.list (cs.map int)]=O (cs.map int)from rfl))) (Qa qt) qt) ?_
 have hmul:U0 (.list [.int 61]) (.int ls.length)=O (.list ((Ug ls.length (61:Int)).map int)):=by
  rw[Sv ⟨by omega,by have:=g.l7;omega,by show 1*_<=_;have:=g.l7;omega⟩]
  congr 2
  rw[Q9];generalize ls.length=n;induction n with
  |zero=>rfl
  |succ n ih=>rw[Q0,QJ,ih,Q0,QG];rfl
 obtain⟨r,hF,dg,rfl,hdl,hdb⟩:=Tq c s (sizes:=Ug ls.length (61:Int)) (λx hx=>by rw[(List.mem_replicate.mp hx).2];decide) (by rw[QT];have:=g.l7;omega);rw[QT]at hdl;refine UZ (Kr (Kf (Uz (UB qt) (Uz (UB qt) (Uz (UM (Kc (Uz UE UF) (Qa qt)) (Zw (Uz (Kk qt UE i1) UF) hlen) hmul) UF))) qt hF) (Qa qt) qt) ?_;refine UZ (Zt (Xp UF (Qa qt)) (Qa qt) qt) ?_;apply U1;apply Yy (WU cs ls (.int c) (.int s) dg)
 case h1=>exact Wq (Uz (Zw (Uz (Kk qt UE i1) UF) hlen) UF) (Wt (by have:=g.l7;omega) (by omega))
 case h0=>exact⟨cs,[],_,_,_,rfl,rfl,⟨λ_ _ _ h=>(by cases h),rfl,λk c e=>by have:=g.c7 c (QP e);simp only[List.count_nil];exact⟨by rw[e];congr 1;omega,by omega⟩⟩⟩
 case hst=>exact λi d Z e h=>B3 g hdl (λx hx=>by obtain⟨j,hj,e⟩:=List.mem_iff_getElem.mp hx;exact(hdb j x 61 (by rw[Qe hj,e]) (by rw[Qw,Qo (by omega)])).1) e h
 case hend=>rintro Z ⟨lf,ws,x6,x7,x8,rfl,hw,dl⟩;rw[Xr]at hw;refine Kd (U3 (Yg rfl rfl) ⟨_,rfl,ws,rfl,⟨by omega,dl.wish,λk c e=>by have:=(dl.cop k c e).2;omega⟩⟩)
theorem To{s:D->Uw->qE}{t:M Bool}{g:M D}(I:Uw->Prop):∀(ds qs:qx)(Z:Uw)(es:qx),qs.length=ds.length ->
  (∀(i:Nat) d e,ds[i]?=O d->qs[i]?=O e->∀Z,I Z->∃Z1,s d Z=O Z1/\t Z1=.ok qv Z1/\g Z1=.ok e Z1/\I (U5 Z1))->I Z->es.length+ds.length<=1000000->Ks s t g ds Z es=O (es++qs)
 |[],[],Z,es,_,_,_,_=>by rw[Ks,Jh]
 |d::r,e::q,Z,es,hl,st,h0,hz=>by obtain⟨Z1,e1,e2,e3,h1⟩:=st 0 d e qt qt Z h0;rw[QC]at hz;rw[Ks,e1];dsimp only;rw[e2];dsimp only;rw[Qo qt,e3];dsimp only;rw[if_pos (by omega),To I r q (U5 Z1) (es++[e]) (by simpa using hl) (λi d' e' x y=>st (i+1) d' e' (by simpa using x) (by simpa using y)) h1 (by rw[List.length_append,List.length_singleton];omega),List.append_assoc];rfl
def Wu(cs:qy)(ws:LO):qy:=(Uf cs.length).map λk:Nat=>cs.getD k 0-((ws.count (O (k:Int)):Nat):Int)
section
variable{cs:qy}{ls:L3}{ws:LO}
theorem Pg:oIx (Ki cs ls) (.int 0)=O (.list (cs.map int)):=KS (j:=0) qt
theorem Pf:oIx (Ki cs ls) (.int 1)=O (.list (ls.map U8)):=KS (j:=1) qt
theorem qd(g:Good cs ls):Wg [Ki cs ls,Ku ws]=O (.list ((Wu cs ws).map int)):=by
 refine Za (Z:=[pb (Ki cs ls),pb (Ku ws)]) qt ?_;unfold Ve;have hw:=NG g
 have hc:Ks (gT 2 (gNC (gN 2) (gNC (gN 3) (gN0)))) (UA qv) (UD Yn (Uv 3) (Vy (Uv 1) (Uy (Uv 2) (Ux)))) (Zp 0 (cs.map int)) (U5 [pb (Ki cs ls),pb (Ku ws)]++Ug 2 qu) []=O ((Wu cs ws).map int):=by
  refine To (λZ=>∃x y,Z=[pb (Ki cs ls),pb (Ku ws),x,y]) _ _ _ _ (by unfold Wu;rw[Qd,Qd,Jy,XH,Qd]) ?_ ⟨qu,qu,rfl⟩ (by rw[XH,Qd,QM];have:=g.c6;omega);rintro i d e hd he Z ⟨x,y,rfl⟩;obtain⟨z,hz,rfl⟩:=WK hd;rw[Qi]at hz;cases hci:cs[i]? with
  |none=>rw[hci]at hz;cases hz
  |some c=>
  rw[hci]at hz;cases hz;have jY:i<cs.length:=(Ql.mp hci).1;unfold Wu at he;rw[Qi,Qi,Qe (by rw[Jy];exact jY),List.getElem_range]at he;cases he;rw[JK];have e:cs.getD i 0=c:=by simp[List.getD,hci]
  dsimp only;rw[e];exact⟨_,KN qt (U7 (UO (Qa qt) qt) (U7 (UO (Qa qt) qt) KO)),rfl,UM (UB qt) (Cd (UB qt) (Uz (UB qt) UF) B4) Sa,_,_,rfl⟩
 refine UZ (T9 (Kf (Uz (UB qt) UF) qt hw)) ?_;exact U3 (Ko (Z7 (WH (Uz (Kk qt UE Pg) UF) WM) hc)) qt
end
theorem PK{a b:qD}:oEq (UQ a) (UQ b)=O (decide (a=b)):=by unfold oEq;rw[if_pos ⟨by cases a<;>rfl,by cases b<;>rfl,by cases a<;>simp[UQ,Um]⟩,Rh]
theorem TY{a b:qD}:oNe (UQ a) (UQ b)=O (!decide (a=b)):=by unfold oNe;rw[if_pos ⟨by cases a<;>rfl,by cases b<;>rfl,by cases a<;>simp[UQ,Um]⟩,Rh]
section
variable{cs:qy}{ls:L3}{ws:LO}{a:Nat}{o had:qD}{rs:List qy}{t:Int}
theorem B0(h:Xl t rs≠0):t∈rs.flatten:=by
 unfold Xl at h;split at h
 .rename_i hl
  have:=List.findIdx_getElem (w:=hl);exact List.mem_flatten.mpr ⟨_,List.getElem_mem hl,by simpa using this⟩
 .exact absurd qt h
end
def ZW(k:Nat):L3->LP
 |[]=>[]
 |rs::ls=>(ZD rs.flatten).map (λt=>((k:Int),t))++ZW (k+1) ls
theorem RE:∀{ls:L3}{k:Nat}{q:Int×Int},q∈ZW k ls->∃i rs,ls[i]?=O rs/\q.1=((k+i:Nat):Int)/\q.2∈rs.flatten
 |[],_,q,h=>by cases h
 |rs::ls,k,q,h=>by
  rcases Jg.mp h with h|h
  .obtain⟨t,ht,rfl⟩:=QF.mp h
   exact⟨0,rs,rfl,rfl,(XE _).mem_iff.mp ht⟩
  .obtain⟨i,rs',h1,h2,h3⟩:=RE h
   exact⟨i+1,rs',by simpa using h1,by rw[h2];congr 1;omega,h3⟩
theorem Ni:∀{ls:L3}{k i:Nat}{rs:List qy}{t:Int},ls[i]?=O rs->t∈rs.flatten->(((k+i:Nat):Int),t)∈ZW k ls
 |rs::ls,k,0,rs',t,h,ht=>by cases h;exact Jv _ (QF.mpr ⟨t,(XE _).mem_iff.mpr ht,rfl⟩)
 |rs::ls,k,i+1,rs',t,h,ht=>by have:=Ni (ls:=ls) (k:=k+1) (i:=i) (by simpa using h) ht;rw[show k+1+i=k+(i+1)by omega]at this;exact QD _ this
theorem FG{t:Int}{r:qy}:oIn (.int t) (.list (r.map int))=O (r.contains t):=Oq t r
theorem HC{x:D}{m:Nat}(h:m<=1000):U0 (.list [x]) (.int m)=O (.list (Ug m x)):=by
 rw[Sv ⟨by omega,by omega,by show 1*_<=_;omega⟩]
 congr 2
 rw[Q9];clear h;induction m with
 |zero=>rfl
 |succ n ih=>rw[Q0,QJ,ih,Q0];rfl
theorem Ds{xs:qx}{a b:qD}:(DL.cutD xs a b).length<=xs.length:=by unfold DL.cutD;rw[JQ,List.length_drop];omega
theorem Dr{xs:qx}{a b:qD}{x:D}(h:x∈DL.cutD xs a b):x∈xs:=by unfold DL.cutD at h;exact List.mem_of_mem_drop (List.mem_of_mem_take h)
theorem CS{ns:qy}{n:Int}{a b:qD}{i:Nat}{x:D}(h:(int n::DL.cutD (ns.map int) a b)[i]?=O x):∃c:Int,x=.int c:=by
 have hm:=QP h;rcases QL.mp hm with rfl|hm
 .exact⟨n,rfl⟩
 .obtain⟨c,_,rfl⟩:=QF.mp (Dr hm)
  exact⟨c,rfl⟩
theorem CQ{ns:qy}{n:Int}{a b:qD}(h:ns.length<=1000):UN (.list [.int n]) (.list (DL.cutD (ns.map int) a b))=O (.list (int n::DL.cutD (ns.map int) a b)):=ZJ (by
 have:=Ds (xs:=ns.map int) (a:=a) (b:=b);rw[Qd]at this;show 1+_<=_
 omega)
theorem Dq(a b:Str):Uo (.str a) (.str b)=(a==b):=rfl
theorem Nh(z:Str):∀(ys:List Str),((ys.map Uj).any λy=>Uo y (.str z))=ys.contains z
 |[]=>rfl
 |y::r=>by
  rw[QG,List.any_cons,Nh z r,QQ,Dq];by_cases h:y=z
  .subst h;simp
  .have h1:(y==z)=qw:=by simpa using h
   have h2:(z==y)=qw:=by simpa using Ne.symm h
   rw[h1,h2]
theorem Ng:∀{ys:List Str},(∀y∈ys,Uk y=qv)->Ul (ys.map Uj)=qv
 |[],_=>rfl
 |y::r,h=>by
  show(Uk y&&Ul (r.map Uj))=qv
  rw[h y Qp,Ng λx hx=>h x (Qu _ hx)];rfl
theorem Dp{z:Str}{ys:List Str}(hz:Uk z=qv)(hy:∀y∈ys,Uk y=qv):oIn (.str z) (.tuple (ys.map Uj))=O (ys.contains z):=by unfold oIn;dsimp only;rw[Qo ⟨hz,Ng hy,Cy⟩,Nh]
def whB:D->Bool
 |.int _=>qv
 |_=>qw
def Kb(n:Int):D->Bool
 |.int i=>decide (0<=i)&&decide (i<n)
 |_=>qw
def rkB(n:Int):D->Bool
 |.list (x::xs)=>(x::xs).all (Kb n)
 |_=>qw
def whI:D->qD
 |.int i=>O i
 |_=>qu
def itI:D->qy
 |.list xs=>xs.filterMap whI
 |_=>[]
def flI(rs:qx):qy:=rs.flatMap itI
def ZA(n:Int):D->Bool
 |.list rs=>decide (rs.length<=5)&&(rs.all (rkB n)&&decide (flI rs).Nodup)
 |_=>qw
theorem VG(n:Int)(rs:qx):ZA n (.list rs)=(decide (rs.length<=5)&&(rs.all (rkB n)&&decide (flI rs).Nodup)):=rfl
theorem RK(d:D):Yt [d]=O (.bool (whB d)):=by
 cases d with
 |dict kvs=>exact Za (Z:=[pb (.dict kvs)]) qt (U3 (Xo (t:=qw) (u:=qw) (P7 (UB qt)) λz=>by cases z) qt)
 |_=>rfl
theorem Tn(d:D)(n:Int):Kv [d,.int n]=O (.bool (Kb n d)):=by
 refine Za (Z:=[pb d,pb (.int n)]) qt ?_;unfold X0;cases d with
 |int i=>exact U3 (Xo (t:=qv) (u:=decide (0<=i)&&decide (i<n)) (Kf (Uz (UB qt) UF) qt (RK (.int i))) (λ_=>Ko (VR UE (UB qt) qt (λ_=>UB qt) (λ_=>rfl)))) qt
 |_=>exact U3 (Xo (t:=qw) (u:=qw) (Kf (Uz (UB qt) UF) qt (RK _)) (λz=>by cases z)) qt
theorem RD{n:Int}{d:D}(h:Kb n d=qv):∃i,d=.int i/\0<=i/\i<n:=by
 cases d with
 |int i=>have h:(decide (0<=i)&&decide (i<n))=qv:=h;simp only[Qx,QU]at h;exact⟨i,rfl,h⟩
 |_=>cases h
theorem RC{n:Int}:∀{xs:qx},xs.all (Kb n)=qv->xs=(xs.filterMap whI).map int
 |[],_=>rfl
 |x::r,h=>by rw[JF,Qx]at h;obtain⟨i,rfl,_⟩:=RD h.1;have ih:=RC h.2;show _=(i::r.filterMap whI).map int;rw[QG,←ih]
theorem HB{n:Int}{d:D}(h:rkB n d=qv):d=.list ((itI d).map int):=by
 cases d with
 |list xs=>
  cases xs with
  |nil=>cases h
  |cons x r=>exact JO Uh (RC h)
 |_=>cases h
theorem Tl{q:D->Bool}(xs:qx):Zg [.list (xs.map λd=>.bool (q d))]=O (.bool (xs.all q)):=by
 have:(xs.map λd=>Ui (q d))=(xs.map q).map Ui:=by rw[Jd];rfl
 rw[this,Op]
 congr 2
 rw[List.all_map];rfl
theorem Am{d:D}{n:Int}(hl:∀xs,d=.list xs->xs.length<=700):Ys [d,.int n]=O (.bool (rkB n d)):=by
 refine Za (Z:=[pb d,pb (.int n)]) qt ?_;unfold XZ;apply U1;cases d with
 |list xs=>
  have hl:=hl xs qt;apply UT (b:=decide ((xs.length:Int)=0))
  case h1=>exact Zr (Z1:=[pb (.list xs),pb (.int n)]) (KE (UB qt) qt) (UM (Kt qt KM) UE Zn)
  case h2=>
   intro hh;have:(xs.length:Int)=0:=by simpa using hh
   have e:xs=[]:=List.eq_nil_of_length_eq_zero (by omega);subst e;exact U3 UE (KF qt)
  case h3=>
   intro hh;have hne:¬(xs.length:Int)=0:=by simpa using hh
   refine Ke (Kd ?_)
   have hc:Ks (gN 2) (UA qv) (UL 2 Kv (Uy (Uv 2) (Uy (Uv 1) (Ux)))) xs (U5 [pb (.list xs),pb (.int n)]++Ug 1 qu) []=O (xs.map λd=>.bool (Kb n d)):=by
    rw[YD (λ_=>qv) (λd=>.bool (Kb n d)) (λZ=>∃x,Z=[pb (.list xs),pb (.int n),x])]
    .rw[Jq.mpr (λ_ _=>rfl),Q7]
    .rintro d hm Z ⟨x,rfl⟩
     exact⟨_,UO (Qa qt) qt,rfl,λ_=>Kf (Uz (UB qt) (Uz (UB qt) UF)) qt (Tn d n),_,rfl⟩
    .exact⟨qu,rfl⟩
    .rw[QM];omega
   refine U3 (Zw (Uz (Ko (Z7 (Zs (UB qt) qt) hc)) UF) (Tl xs)) ?_;cases xs with
   |nil=>exact absurd qt hne
   |cons x r=>rfl
 |dict kvs=>exact UT (b:=qv) (Zc (Xm (UB qt))) (λ_=>U3 UE (KF qt)) (λz=>by cases z)
 |_=>exact UT (b:=qv) (Zc (KE (UB qt) qt)) (λ_=>U3 UE (KF qt)) (λz=>by cases z)
theorem RO{ns:qy}:∀i,(PyProof.Rows.firstMet (λi=>ns.getD i 0) i).length<=i:=by
 intro i;induction i with
 |zero=>exact Qk _
 |succ i ih=>
  rw[PyProof.Rows.firstMet_succ];unfold PyProof.Rows.step_dedup;split
  .omega
  .rw[Qm,Q8];omega
theorem MJ{ns:qy}(h:Zb ns=ns.length):ns.Nodup:=by
 unfold Zb at h
 have key:∀i,i<=ns.length->(PyProof.Rows.firstMet (λi=>ns.getD i 0) i).length=i->(ns.take i).Nodup:=by
  intro i;induction i with
  |zero=>intro _ _;simp
  |succ i ih=>
   intro hi e;rw[PyProof.Rows.firstMet_succ]at e;unfold PyProof.Rows.step_dedup at e;cases hany:(PyProof.Rows.firstMet (λi=>ns.getD i 0) i).any (· == ns.getD i 0)with
   |true=>rw[hany,Qo qt]at e;have:=RO (ns:=ns) i;omega
   |false=>
    rw[hany,Qy (by decide),Qm]at e;have e:(PyProof.Rows.firstMet (λi=>ns.getD i 0) i).length=i:=by simpa using e
    have ih:=ih (by omega) e;rw[List.take_succ_eq_append_getElem (by omega),List.nodup_append];refine⟨ih,by simp,λa ha b hb=>?_⟩;rw[QW]at hb;subst hb;rw[PyProof.Rows.firstMet_any,List.any_eq_false]at hany;obtain⟨j,hj,rfl⟩:=List.mem_take_iff_getElem.mp ha;have hj':j<i:=by have:=hj;omega
    have:=hany (ns.getD j 0) (QF.mpr ⟨j,Jf.mpr hj',rfl⟩);have l1:j<ns.length:=by omega
    have l2:i<ns.length:=by omega
    simp only[List.getD,Qe l1,Qe l2,JI,beq_iff_eq]at this;exact this
 have:=key ns.length (Qk _) h;rwa[List.take_length]at this
theorem NB{ns:qy}(h:ns.length<=3500):∃u:Nat,XA [.list (ns.map int)]=O (.int u)/\decide ((u:Int)=ns.length)=decide ns.Nodup:=by
 refine⟨Zb ns,?_,?_⟩
 .unfold XA
  dsimp only;rw[RV];dsimp only;rw[Qo (by omega)]
 .by_cases e:ns.Nodup
  .rw[R1 e,decide_eq_true e];simp
  .rw[Qs e,Qs]
   intro z;exact e (MJ (by omega))
def Zh(d:D):Prop:=∀rs,d=.list rs->∀xs,.list xs∈rs->xs.length<=700
theorem Mq{n:Int}:∀{rs:qx},rs.all (rkB n)=qv->(∀xs,.list xs∈rs->xs.length<=700)->∃ls:List qy,rs=ls.map Kj/\flI rs=ls.flatten/\ls.flatten.length<=700*rs.length
 |[],_,_=>⟨[],rfl,rfl,by simp⟩
 |d::r,h,hs=>by
  rw[JF,Qx]at h;obtain⟨ls,e1,e2,e3⟩:=Mq h.2 λxs hx=>hs xs (Qu _ hx)
  have hd:=HB h.1;have hl:=hs ((itI d).map int) (by rw[←hd];exact Qp);rw[Qd]at hl;refine⟨itI d::ls,?_,?_,?_⟩
  .rw[QG,←e1]
   exact JO (· :: r) hd
  .show itI d++flI r=_
   rw[e2,QJ]
  .rw[QJ,Qm,QC];omega
theorem AD{d:D}{n:Int}(hs:Zh d):Yr [d,.int n]=O (.bool (ZA n d)):=by
 refine Za (Z:=[pb d,pb (.int n),qu]) qt ?_;unfold XY;apply U1;cases d with
 |list rs=>
  have hs:=hs rs qt;apply UT (b:=decide ((5:Int)<rs.length))
  case h1=>exact Zr (Z1:=[pb (.list rs),pb (.int n),qu]) (KE (UB qt) qt) (UM (Kt qt KM) UE qt)
  case h2=>
   intro hh;have:(5:Int)<(rs.length:Int):=by simpa using hh
   refine U3 UE (KF ?_);rw[VG,Qs (by omega:¬rs.length<=5)];rfl
  case h3=>
   intro hh;have h5:¬(5:Int)<(rs.length:Int):=by simpa using hh
   refine Ke (Kd ?_)
   have hc:Ks (gN 3) (UA qv) (UL 2 Ys (Uy (Uv 3) (Uy (Uv 1) (Ux)))) rs (U5 [pb (.list rs),pb (.int n),qu]++Ug 1 qu) []=O (rs.map λd=>.bool (rkB n d)):=by
    rw[YD (λ_=>qv) (λd=>.bool (rkB n d)) (λZ=>∃x,Z=[pb (.list rs),pb (.int n),qu,x])]
    .rw[Jq.mpr (λ_ _=>rfl),Q7]
    .rintro d hm Z ⟨x,rfl⟩
     exact⟨_,UO (Qa qt) qt,rfl,λ_=>Kf (Uz (UB qt) (Uz (UB qt) UF)) qt (Am (λxs e=>hs xs (by rw[←e];exact hm))),_,rfl⟩
    .exact⟨qu,rfl⟩
    .rw[QM];omega
   apply U1;apply UT
   case h1=>exact ZH (Yx (Zw (Uz (Ko (Z7 (Zs (UB qt) qt) hc)) UF) (Tl rs)))
   case h2=>
    intro hh;have e:rs.all (rkB n)=qw:=by simpa using hh
    refine U3 UE (KF ?_);rw[VG,e,JV,JB]
   case h3=>
    intro hh;have e:rs.all (rkB n)=qv:=by simpa using hh
    refine Ke (Kd ?_);obtain⟨ls,e1,e2,e3⟩:=Mq e hs;have hfl:ls.flatten.length<=3500:=by omega
    subst e1;have h2:WC (KR (Uv 0)) 2 (gN 3) (UA qv) (KR (Uv 3)) (gN 4) (UA qv) (Uv 4) [pb (.list (ls.map Kj)),pb (.int n),qu]=.ok (ls.flatten.map int) [pb (.list (ls.map Kj)),pb (.int n),qu]:=by unfold WC;have e1:KR (Uv 0) [pb (.list (ls.map Kj)),pb (.int n),qu]=.ok (ls.map Kj) [pb (.list (ls.map Kj)),pb (.int n),qu]:=Zs (UB qt) qt;rw[e1];dsimp only;have e2:=RP (a:=.list (ls.map Kj)) (b:=.int n) ls [] qu qu (by rw[QM];omega);have e3:YS (gN 3) (UA qv) (KR (Uv 3)) (gN 4) (UA qv) (Uv 4) (ls.map Kj) (U5 [pb (.list (ls.map Kj)),pb (.int n),qu]++Ug 2 qu) []=O ([]++ls.flatten.map int):=e2;rw[e3];rfl
    refine UZ (Zt h2 (Qa qt) qt) ?_;obtain⟨u,hu1,hu2⟩:=NB hfl;refine U3 (Ko (UM (Zw (Uz (Yg qt qt) UF) hu1) (Kt qt KM) Zn)) ?_;rw[Qd,hu2];rw[VG,QB (by omega:(ls.map Kj).length<=5),e,e2,JY,JY]
 |dict kvs=>exact UT (b:=qv) (Zc (Xm (UB qt))) (λ_=>U3 UE (KF qt)) (λz=>by cases z)
 |_=>exact UT (b:=qv) (Zc (KE (UB qt) qt)) (λ_=>U3 UE (KF qt)) (λz=>by cases z)
def K8:D->Option (Str×D)
 |.tuple [c,l]=>(match c with
  |.list cs=>if 1<=cs.length/\cs.length<=6 then(match fb (Kb 8) 0 cs with
    |some k=>O ("copies", .int k)
    |none=>(match l with
     |.list ls=>if 1<=ls.length/\ls.length<=7 then(match fb (ZA cs.length) 0 ls with
       |some k=>O ("lists", .int k)
       |none=>qu)else O ("lists", .none)
     |_=>O ("lists", .none)))else O ("copies", .none)
  |_=>O ("copies", .none))
 |_=>O ("wishes", .none)
def Vk(o:Option (Str×D)):XR:=match o with
 |none=>.val .none
 |some (p,n)=>.exc (exD "NoWishes" [.str p,n])
theorem XB{p:Str}{n:D}(h1:p.length<=1000)(h2:Xu n=qv):Xs "NoWishes" [.str p,n]=O [.str p,n]:=by have e:Zq "NoWishes" = (["part", "number"]:List Str):=rfl;unfold Xs;rw[e];dsimp only;have h3:Xu (.str p)=qv:=QB h1;rw[Qo ⟨rfl,by rw[JF,JF,h2,h3];rfl⟩]
theorem OH{j:Nat}(h:j<1000000):Xu (.int j)=qv:=by
 unfold Xu;simp only[Qx,QU]
 constructor<;>omega
def KZ(c:D):Option (Str×D):=match c with
 |.list cs=>if 1<=cs.length/\cs.length<=6 then(match fb (Kb 8) 0 cs with
  |some k=>O ("copies", .int k)
  |none=>qu)else O ("copies", .none)
 |_=>O ("copies", .none)
def K9(n:Int)(l:D):Option (Str×D):=match l with
 |.list ls=>if 1<=ls.length/\ls.length<=7 then(match fb (ZA n) 0 ls with
  |some k=>O ("lists", .int k)
  |none=>qu)else O ("lists", .none)
 |_=>O ("lists", .none)
theorem Sq{m:Nat}{k:Int}:(!(decide ((1:Int)<=m)&&decide ((m:Int)<=k)))=decide (¬(1<=m/\(m:Int)<=k)):=by
 by_cases h:(1:Int)<=m<;>by_cases h2:(m:Int)<=k
 .rw[QB h,QB h2,Qs (by omega)];rfl
 .rw[Qs h2,JB,QB (by omega)];rfl
 .rw[Qs h,JV,QB (by omega)];rfl
 .rw[Qs h,JV,QB (by omega)];rfl
theorem FF(d:D):Sx [d]=O (Vk (KZ d)):=by
 refine Yv (Z:=[pb d,qu,qu]) qt ?_;unfold R9;apply U1;cases d with
 |list cs=>
  apply UT
  case h1=>exact Zr (Z1:=[pb (.list cs),qu,qu]) (KE (UB qt) qt) (ZH (VR UE (Kt qt KM) qt (λ_=>UE) (λ_=>rfl)))
  case h2=>intro hh;rw[Sq]at hh;have hh:=Qa hh;refine Kz (YB (Uz UE (Uz UE UF)) (XB (by decide) qt)) (Zo ?_);unfold KZ;dsimp only;rw[Qy (by omega)];exact⟨rfl,rfl⟩
  case h3=>
   intro hh;rw[Sq]at hh;have hh:=Ju hh;have hl:1<=cs.length/\cs.length<=6:=by omega
   have ed:KZ (.list cs)=(match fb (Kb 8) 0 cs with
    |some k=>O ("copies", .int k)
    |none=>qu):=by unfold KZ;dsimp only;rw[if_pos hl]
   refine Ke (Kd ?_);rw[ed];refine Nq (xs:=cs) (Kb 8) (λZ=>∃x1 x2,Z=[pb (.list cs),x1,x2]) (WH (Uz (UB qt) UF) WM) ⟨_,_,rfl⟩ ?_ ?_
   .rintro x hx j Z hj ⟨x1,x2,rfl⟩
    refine⟨_,KN qt (U7 (UO (Qa qt) qt) (U7 (UO (Qa qt) qt) KO)),?_⟩;unfold M6;refine UT (ZH (Yx (Kf (Uz (UB qt) (Uz (UM UE UE ZE) UF)) qt (Tn x 8)))) (λz=>?_) λz=>?_
    .refine Kz (YB (Uz UE (Uz (UB qt) UF)) (XB (by decide) (OH (by omega)))) (Pk (by simpa using z) λe=>?_)
     rw[e];exact⟨rfl,rfl⟩
    .exact Ke (Pa (by simpa using z) ⟨_,_,rfl⟩)
   .intro e Z _
    rw[e];rfl
 |dict kvs=>exact UT (b:=qv) (Zc (Xm (UB qt))) (λ_=>Kz (YB (Uz UE (Uz UE UF)) (XB (by decide) qt)) (Zo ⟨rfl,rfl⟩)) (λz=>by cases z)
 |_=>exact UT (b:=qv) (Zc (KE (UB qt) qt)) (λ_=>Kz (YB (Uz UE (Uz UE UF)) (XB (by decide) qt)) (Zo ⟨rfl,rfl⟩)) (λz=>by cases z)
theorem HA{d:D}{n:Int}(hs:∀ls,d=.list ls->ls.length<=7->∀x∈ls,Zh x):Sw [d,.int n]=O (Vk (K9 n d)):=by
 refine Yv (Z:=[pb d,pb (.int n),qu,qu]) qt ?_;unfold R6;apply U1;cases d with
 |list cs=>
  apply UT
  case h1=>exact Zr (Z1:=[pb (.list cs),pb (.int n),qu,qu]) (KE (UB qt) qt) (ZH (VR UE (Kt qt KM) qt (λ_=>UE) (λ_=>rfl)))
  case h2=>intro hh;rw[Sq]at hh;have hh:=Qa hh;refine Kz (YB (Uz UE (Uz UE UF)) (XB (by decide) qt)) (Zo ?_);unfold K9;dsimp only;rw[Qy (by omega)];exact⟨rfl,rfl⟩
  case h3=>
   intro hh;rw[Sq]at hh;have hh:=Ju hh;have hl:1<=cs.length/\cs.length<=7:=by omega
   have hs:=hs cs qt hl.2
   have ed:K9 n (.list cs)=(match fb (ZA n) 0 cs with
    |some k=>O ("lists", .int k)
    |none=>qu):=by unfold K9;dsimp only;rw[if_pos hl]
   refine Ke (Kd ?_);rw[ed];refine Nq (xs:=cs) (ZA n) (λZ=>∃x1 x2,Z=[pb (.list cs),pb (.int n),x1,x2]) (WH (Uz (UB qt) UF) WM) ⟨_,_,rfl⟩ ?_ ?_
   .rintro x hx j Z hj ⟨x1,x2,rfl⟩
    refine⟨_,KN qt (U7 (UO (Qa qt) qt) (U7 (UO (Qa qt) qt) KO)),?_⟩;unfold M9;refine UT (ZH (Yx (Kf (Uz (UB qt) (Uz (UB qt) UF)) qt (AD (n:=n) (hs x hx))))) (λz=>?_) λz=>?_
    .refine Kz (YB (Uz UE (Uz (UB qt) UF)) (XB (by decide) (OH (by omega)))) (Pk (by simpa using z) λe=>?_)
     rw[e];exact⟨rfl,rfl⟩
    .exact Ke (Pa (by simpa using z) ⟨_,_,rfl⟩)
   .intro e Z _
    rw[e];rfl
 |dict kvs=>exact UT (b:=qv) (Zc (Xm (UB qt))) (λ_=>Kz (YB (Uz UE (Uz UE UF)) (XB (by decide) qt)) (Zo ⟨rfl,rfl⟩)) (λz=>by cases z)
 |_=>exact UT (b:=qv) (Zc (KE (UB qt) qt)) (λ_=>Kz (YB (Uz UE (Uz UE UF)) (XB (by decide) qt)) (Zo ⟨rfl,rfl⟩)) (λz=>by cases z)
def ZB(d:D):Prop:=∀c ls,d=.tuple [c,.list ls]->ls.length<=7->∀x∈ls,Zh x
theorem VF(c l:D):K8 (.tuple [c,l])=(match KZ c with
  |some x=>O x
  |none=>(match c with | .list cs=>K9 cs.length l|_=>qu)):=by
 unfold K8 KZ K9;cases c with
 |list cs=>
  dsimp only;by_cases h:1<=cs.length/\cs.length<=6
  .rw[Qo h,Qo h]
   cases fb (Kb 8) 0 cs with
   |some k=>rfl
   |none=>cases l<;>rfl
  .rw[Qy h,Qy h]
 |_=>rfl
theorem OG{d:D}(hs:ZB d):Xq [d]=O (Vk (K8 d)):=by
 refine Yv (Z:=[pb d,qu,qu]) qt ?_;unfold R8;apply U1;have odd:∀{o:Out->Prop},Ho (Z6 "NoWishes" (Uy (UA (.str "wishes")) (Uy (UA .none) (Ux)))) [O (.pub d),qu,qu] (λz=>z=.ex [O (.pub d),qu,qu] (exD "NoWishes" [.str "wishes", .none])):=Kz (YB (Uz UE (Uz UE UF)) (XB (by decide) qt)) qt;cases d with
 |tuple xs=>
  by_cases hl:xs.length=2
  .obtain⟨c,l,rfl⟩:∃c l,xs=[c,l]:=by
    match xs,hl with
    |[c,l],_=>exact⟨c,l,rfl⟩
   apply UT
   case h1=>exact Zr (Z1:=[pb (.tuple [c,l]),qu,qu]) (KE (UB qt) qt) (UM (Kt qt qt) UE Xn)
   case h2=>intro hh;cases hh
   case h3=>
    intro _;refine Ke (Kd ?_);refine UZ (Vw (UB qt) (KN qt (U7 (UO (Qa qt) qt) (U7 (UO (Qa qt) qt) KO)))) ?_;rw[VF];have hc:=FF c;cases z:KZ c with
    |some x=>obtain⟨p,n⟩:=x;rw[z]at hc;apply U1;exact Kz (YA (ZO (Uz (UB qt) UF) qt hc)) (Zo ⟨rfl,rfl⟩)
    |none=>
     rw[z]at hc
     obtain⟨cs,rfl⟩:∃cs,c=.list cs:=by
      unfold KZ at z;cases c with
      |list cs=>exact⟨cs,rfl⟩
      |_=>cases z
     refine UZ (Ts (ZO (Uz (UB qt) UF) qt hc) qt) ?_;have hL:=HA (d:=l) (n:=cs.length) (λls e=>hs (.list cs) ls (by rw[e]));dsimp only;cases z2:K9 cs.length l with
     |some x=>obtain⟨p,n⟩:=x;rw[z2]at hL;exact Kz (YA (ZO (Uz (UB qt) (Uz (Kt qt KM) UF)) qt hL)) ⟨rfl,rfl⟩
     |none=>rw[z2]at hL;exact Kz (Ts (ZO (Uz (UB qt) (Uz (Kt qt KM) UF)) qt hL) qt) qt
  .have hd:K8 (.tuple xs)=O (("wishes" : Str),(.none:D)):=by
    unfold K8;split
    .rename_i h;cases h;exact absurd qt hl
    .rfl
   apply UT
   case h1=>exact Zr (Z1:=[pb (.tuple xs),qu,qu]) (KE (UB qt) qt) (UM (Kt qt VQ) UE Xn)
   case h2=>intro _;refine T8 (odd (o:=λ_=>True)) λo e=>?_;subst e;exact Zo (by rw[hd];exact⟨rfl,rfl⟩)
   case h3=>
    intro hh;have:(xs.length:Int)=2:=by simpa using hh
    omega
 |dict kvs=>exact UT (b:=qv) (Zc (Xm (UB qt))) (λ_=>T8 (odd (o:=λ_=>True)) λo e=>by subst e;exact Zo ⟨rfl,rfl⟩) (λz=>by cases z)
 |_=>exact UT (b:=qv) (Zc (KE (UB qt) qt)) (λ_=>T8 (odd (o:=λ_=>True)) λo e=>by subst e;exact Zo ⟨rfl,rfl⟩) (λz=>by cases z)
mutual
def wB(n:Nat):D->Bool
 |.list xs=>decide (xs.length<=n)&&wBs n xs
 |.tuple xs=>decide (xs.length<=n)&&wBs n xs
 |_=>qv
def wBs(n:Nat):qx->Bool
 |[]=>qv
 |x::r=>wB n x&&wBs n r
end
theorem Rg{n:Nat}:∀{xs:qx},wBs n xs=qv ↔ ∀x∈xs,wB n x=qv
 |[]=>by simp[wBs]
 |x::r=>by rw[wBs,Bool.and_eq_true,Rg (xs:=r)];simp
theorem WE{n:Nat}{xs:qx}:wB n (.list xs)=qv ↔ xs.length<=n/\∀x∈xs,wB n x=qv:=by rw[wB,Qx,QU,Rg]
theorem PJ{n:Nat}{xs:qx}:wB n (.tuple xs)=qv ↔ xs.length<=n/\∀x∈xs,wB n x=qv:=by rw[wB,Qx,QU,Rg]
mutual
theorem Rf{n m:Nat}(h:n<=m):∀(d:D),wB n d=qv->wB m d=qv
 |.list xs,e=>by rw[wB,Qx,QU]at e⊢;exact⟨QH e.1 h,wBs_mono h xs e.2⟩
 |.tuple xs,e=>by rw[wB,Qx,QU]at e⊢;exact⟨QH e.1 h,wBs_mono h xs e.2⟩
 |.none,_=>rfl
 |.bool _,_=>rfl
 |.int _,_=>rfl
 |.str _,_=>rfl
 |.dict _,_=>rfl
theorem wBs_mono{n m:Nat}(h:n<=m):∀(xs:qx),wBs n xs=qv->wBs m xs=qv
 |[],_=>rfl
 |x::r,e=>by rw[wBs,Qx]at e⊢;exact⟨Rf h x e.1,wBs_mono h r e.2⟩
end
theorem FE{d:D}(h:wB 700 d=qv):ZB d:=λc ls e _ x hx rs e2 xs hxs=>by subst e;have h1:=(PJ.mp h).2 (.list ls) (by simp);have h2:=(WE.mp h1).2 x hx;subst e2;exact(WE.mp ((WE.mp h2).2 _ hxs)).1
theorem CP{cs:qy}{ls:L3}(g:Good cs ls):wB 7 (.list (cs.map int))=qv/\wB 7 (.list (ls.map U8))=qv:=by
 constructor
 .refine WE.mpr ⟨by rw[Qd];have:=g.c6;omega,λx hx=>?_⟩
  obtain⟨i,_,rfl⟩:=QF.mp hx;rfl
 .refine WE.mpr ⟨by rw[Qd];exact g.l7,λx hx=>?_⟩
  obtain⟨rs,hrs,rfl⟩:=QF.mp hx;have gr:=g.rk rs hrs;refine WE.mpr ⟨by rw[Qd];have:=gr.few;omega,λy hy=>?_⟩;obtain⟨r,hr,rfl⟩:=QF.mp hy;have h1:r.length<=rs.flatten.length:=List.Sublist.length_le (List.sublist_flatten_of_mem hr);have h2:=Tf gr;have:=g.c6;refine WE.mpr ⟨by rw[Qd];omega,λz hz=>?_⟩;obtain⟨i,_,rfl⟩:=QF.mp hz;rfl
def ords:List Str:=["firsts", "full", "lasts"]
theorem FD:∀y∈ords,Uk y=qv:=by decide +kernel
def K7:D->Bool
 |.str z=>ords.contains z
 |_=>qw
def OkT(d:D):Prop:=∀z,d=.str z->Uk z=qv
theorem AC{d:D}(h:OkT d):Wf [d]=O (.bool (K7 d)):=by
 refine Za (Z:=[pb d]) qt ?_;unfold Vd;cases d with
 |str z=>exact U3 (Xo (t:=qv) (u:=ords.contains z) (Rx (UB qt) qt) λ_=>Ko (Zd qt UE (Dp (h z qt) FD))) qt
 |dict kvs=>exact U3 (Xo (t:=qw) (u:=qw) (P7 (UB qt)) λz=>by cases z) qt
 |_=>exact U3 (Xo (t:=qw) (u:=qw) (Rx (UB qt) qt) λz=>by cases z) qt
theorem Hz{d:D}(h:OkT d):Tp [d]=O (if K7 d=qv then .val .none else .exc (exD "NoAim" [.str "order"])):=by
 refine Yv (Z:=[pb d]) qt ?_;unfold R5;refine UT (ZH (Yx (Kf (Uz (UB qt) UF) qt (AC h)))) (λz=>?_) λz=>?_
 .have z:K7 d=qw:=by simpa using z
  rw[z];exact Kz (YB (fs:=[.str "order"]) (Uz UE UF) (by kernel_rfl)) ⟨rfl,rfl⟩
 .have z:K7 d=qv:=by simpa using z
  rw[z];exact Ke qt
theorem Re{p:D->Bool}:∀{xs:qx}{k:Nat},(∀x∈xs,p x=qv)->fb p k xs=qu
 |[],_,_=>rfl
 |x::r,k,h=>by unfold fb;rw[Qo (h x Qp)];exact Re λy hy=>h y (Qu _ hy)
theorem FC(rs:List qy):flI (rs.map Kj)=rs.flatten:=by
 unfold flI;induction rs with
 |nil=>rfl
 |cons r t ih=>
  rw[QG,List.flatMap_cons,ih,QJ]
  congr 1
  show(r.map int).filterMap whI=r
  rw[List.filterMap_map];show r.filterMap (λi=>O i)=r;simp
theorem CO{n:Nat}{rs:List qy}(g:VH n rs):ZA n (U8 rs)=qv:=by
 show ZA n (.list (rs.map Kj))=qv;rw[VG,FC,QB g.once,Qd,QB g.few];simp only[JY,Bool.and_true,Q2];intro x hx;obtain⟨r,hr,rfl⟩:=QF.mp hx;have hn:=g.some r hr;have ht:=g.there r hr;cases r with
 |nil=>exact absurd qt hn
 |cons i q=>
  show((int i::q.map int).all (Kb n))=qv
  rw[Q2];intro y hy;have hy:y∈(i::q).map int:=hy;obtain⟨z,hz,rfl⟩:=QF.mp hy;have:=ht z hz
  show(decide (0<=z)&&decide (z<(n:Int)))=qv
  rw[QB this.1,QB this.2];rfl
theorem CN{cs:qy}{ls:L3}(g:Good cs ls):K8 (Ki cs ls)=qu:=by
 show K8 (.tuple [.list (cs.map int),.list (ls.map U8)])=qu;rw[VF];have c1:=g.c1;have c6:=g.c6;have l1:=g.l1;have l7:=g.l7
 have e1:KZ (.list (cs.map int))=qu:=by
  unfold KZ;dsimp only;rw[Qo (by rw[Qd];omega),Re];intro x hx;obtain⟨i,hi,rfl⟩:=QF.mp hx;have:=g.c7 i hi
  show(decide (0<=i)&&decide (i<8))=qv
  rw[QB this.1,QB this.2];rfl
 rw[e1];dsimp only;unfold K9;dsimp only;rw[Qo (by rw[Qd];omega),Re];intro x hx;obtain⟨rs,hrs,rfl⟩:=QF.mp hx;rw[Qd];exact CO (g.rk rs hrs)
theorem LF{cs:qy}{ls:L3}(g:Good cs ls):Xq [Ki cs ls]=O (.val .none):=by
 have wg:wB 448 (Ki cs ls)=qv:=by
  obtain⟨a1,a2⟩:=CP g
  exact Rf (n:=7) (by decide) _ (PJ.mpr ⟨show 2<=7 by decide,λx hx=>by
   have hx:x=.list (cs.map int)∨x=.list (ls.map U8):=by simpa using hx
   rcases hx with rfl|rfl
   .exact a1
   .exact a2⟩)
 have hx:=OG (FE (Rf (m:=700) (by decide) _ wg));rw[CN g]at hx;exact hx
def Zf(m n:Nat):D->Bool
 |.none=>qv
 |.list xs=>decide (xs.length=m)&&xs.all λx=>isNon x || Kb n x
 |_=>qw
def Yl(m:Nat):D->Bool
 |.list xs=>xs.all (Kb m)&&decide (xs.filterMap whI).Nodup
 |_=>qw
def Yd(n m:Nat):D->Option Str
 |.tuple [o,w,t]=>if K7 o=qv then(if Zf m n w=qv then(if Yl m t=qv then qu else O "turns")else O "old")else O "order"
 |_=>O "aim"
def SmA(d:D):Prop:=∀o w t,d=.tuple [o,w,t]->OkT o/\(∀xs,w=.list xs->xs.length<=700)/\∀xs,t=.list xs->xs.length<=700
theorem FA{d:D}{m n:Nat}(hl:∀xs,d=.list xs->xs.length<=700):Xg [d,.int m,.int n]=O (.bool (Zf m n d)):=by
 refine Za (Z:=[pb d,pb (.int m),pb (.int n)]) qt ?_;unfold Vc;apply U1;cases d with
 |none=>exact UT (b:=qv) (Ko (k:=isNon) (x:=PyData.none) (UB qt)) (λ_=>U3 UE (KF qt)) λz=>by cases z
 |list xs=>
  have hl:=hl xs qt;refine UT (b:=qw) (Z1:=[pb (.list xs),pb (.int m),pb (.int n)]) (Ko (k:=isNon) (x:=Uh xs) (UB qt)) (λz=>by cases z) λ_=>Ke (Kd ?_)
  apply U1;refine UT (b:=!decide ((xs.length:Int)=(m:Int))) (Z1:=[pb (.list xs),pb (.int m),pb (.int n)]) (Zr (KE (UB qt) qt) (UM (Kt qt KM) (UB qt) Xn)) (λhh=>?_) (λhh=>?_)
  .have h3:¬(xs.length:Int)=(m:Int):=by simpa using hh
   refine U3 UE (KF ?_);show _=Out.rt (.bool (decide (xs.length=m)&&_));rw[Qs (by omega)];rfl
  .have h3:(xs.length:Int)=(m:Int):=by simpa using hh
   refine Ke (Kd ?_)
   have hc:Ks (gN 3) (UA qv) (Yp (UI (λd=>.bool (isNon d)) (Uv 3)) (UL 2 Kv (Uy (Uv 3) (Uy (Uv 2) (Ux))))) xs (U5 [pb (.list xs),pb (.int m),pb (.int n)]++Ug 1 qu) []=O (xs.map λd=>.bool (isNon d || Kb n d)):=by
    rw[YD (λ_=>qv) (λd=>.bool (isNon d || Kb n d)) (λZ=>∃x,Z=[pb (.list xs),pb (.int m),pb (.int n),x])]
    .rw[Jq.mpr (λ_ _=>rfl),Q7]
    .rintro d hm Z ⟨x,rfl⟩
     exact⟨_,UO (Qa qt) qt,rfl,λ_=>T6 (Ko (k:=λd=>Ui (isNon d)) (UB qt)) (λ_=>Kf (Uz (UB qt) (Uz (UB qt) UF)) qt (Tn d n)),_,rfl⟩
    .exact⟨qu,rfl⟩
    .rw[QM];omega
   refine U3 (Zw (Uz (Ko (Z7 (Zs (UB qt) YC) hc)) UF) (Tl xs)) ?_;show _=Out.rt (.bool (decide (xs.length=m)&&_));rw[QB (by omega)];rfl
 |dict kvs=>
  refine UT (b:=qw) (Z1:=[pb (.dict kvs),pb (.int m),pb (.int n)]) (Ko (k:=isNon) (x:=PyData.dict kvs) (UB qt)) (λz=>by cases z) λ_=>Ke (Kd ?_)
  apply U1;exact UT (b:=qv) (Zc (Xm (UB qt))) (λ_=>U3 UE (KF qt)) λz=>by cases z
 |bool b=>
  refine UT (b:=qw) (Z1:=[pb (.bool b),pb (.int m),pb (.int n)]) (Ko (k:=isNon) (x:=Ui b) (UB qt)) (λz=>by cases z) λ_=>Ke (Kd ?_)
  apply U1;exact UT (b:=qv) (Zc (KE (UB qt) qt)) (λ_=>U3 UE (KF qt)) λz=>by cases z
 |int b=>
  refine UT (b:=qw) (Z1:=[pb (.int b),pb (.int m),pb (.int n)]) (Ko (k:=isNon) (x:=int b) (UB qt)) (λz=>by cases z) λ_=>Ke (Kd ?_)
  apply U1;exact UT (b:=qv) (Zc (KE (UB qt) qt)) (λ_=>U3 UE (KF qt)) λz=>by cases z
 |str b=>
  refine UT (b:=qw) (Z1:=[pb (.str b),pb (.int m),pb (.int n)]) (Ko (k:=isNon) (x:=Uj b) (UB qt)) (λz=>by cases z) λ_=>Ke (Kd ?_)
  apply U1;exact UT (b:=qv) (Zc (KE (UB qt) qt)) (λ_=>U3 UE (KF qt)) λz=>by cases z
 |tuple b=>
  refine UT (b:=qw) (Z1:=[pb (.tuple b),pb (.int m),pb (.int n)]) (Ko (k:=isNon) (x:=PyData.tuple b) (UB qt)) (λz=>by cases z) λ_=>Ke (Kd ?_)
  apply U1;exact UT (b:=qv) (Zc (KE (UB qt) qt)) (λ_=>U3 UE (KF qt)) λz=>by cases z
theorem CM{d:D}{m:Nat}(hl:∀xs,d=.list xs->xs.length<=700):Xf [d,.int m]=O (.bool (Yl m d)):=by
 refine Za (Z:=[pb d,pb (.int m)]) qt ?_;unfold Vb;apply U1;cases d with
 |list xs=>
  have hl:=hl xs qt
  have hc:Ks (gN 2) (UA qv) (UL 2 Kv (Uy (Uv 2) (Uy (Uv 1) (Ux)))) xs (U5 [pb (.list xs),pb (.int m)]++Ug 1 qu) []=O (xs.map λd=>.bool (Kb m d)):=by
   rw[YD (λ_=>qv) (λd=>.bool (Kb m d)) (λZ=>∃x,Z=[pb (.list xs),pb (.int m),x])]
   .rw[Jq.mpr (λ_ _=>rfl),Q7]
   .rintro d hm Z ⟨x,rfl⟩
    exact⟨_,UO (Qa qt) qt,rfl,λ_=>Kf (Uz (UB qt) (Uz (UB qt) UF)) qt (Tn d m),_,rfl⟩
   .exact⟨qu,rfl⟩
   .rw[QM];omega
  refine UT (b:=!xs.all (Kb m)) (Z1:=[pb (.list xs),pb (.int m)]) (Zr (KE (UB qt) qt) (ZH (Yx (Zw (Uz (Ko (Z7 (Zs (UB qt) YC) hc)) UF) (Tl xs))))) (λhh=>?_) (λhh=>?_)
  .have h3:xs.all (Kb m)=qw:=by simpa using hh
   refine U3 UE (KF ?_);show _=Out.rt (.bool (xs.all (Kb m)&&_));rw[h3];rfl
  .have h3:xs.all (Kb m)=qv:=by simpa using hh
   refine Ke (Kd ?_);have e:=RC h3;obtain⟨u,hu,hd⟩:=NB (ns:=xs.filterMap whI) (by have:=JO List.length e;rw[Qd]at this;omega);rw[←e]at hu;refine U3 (Ko (UM (Zw (Uz (UB qt) UF) hu) (Kt qt KM) Zn)) ?_;show Out.rt (.bool (decide ((u:Int)=(xs.length:Int))))=Out.rt (.bool (xs.all (Kb m)&&decide (xs.filterMap whI).Nodup));have el:xs.length=(xs.filterMap whI).length:=by have:=JO List.length e;rw[Qd]at this;exact this
   rw[h3,JY,←hd,el]
 |dict kvs=>exact UT (b:=qv) (Zc (Xm (UB qt))) (λ_=>U3 UE (KF qt)) λz=>by cases z
 |_=>exact UT (b:=qv) (Zc (KE (UB qt) qt)) (λ_=>U3 UE (KF qt)) λz=>by cases z
def Pe:Option Str->XR
 |none=>.val .none
 |some p=>.exc (exD "NoAim" [.str p])
theorem Do{cs:qy}{ls:L3}(g:Good cs ls){d:D}(hs:SmA d):WP [Ki cs ls,d]=O (Pe (Yd cs.length ls.length d)):=by
 refine Yv (Z:=[pb (Ki cs ls),pb d,qu,qu,qu,qu,qu]) qt ?_;unfold R3;refine UZ (Ts (ZO (Uz (UB qt) UF) qt (LF g)) qt) ?_;apply U1
 have bad:Yd cs.length ls.length d=O ("aim" : Str)->Ho (Z6 "NoAim" (Uy (UA (.str "aim")) (Ux))) [O (.pub (Ki cs ls)),O (.pub d),qu,qu,qu,qu,qu] (VY (UC (K4 (Uv 0) (gT 2 (gNC (gN 2) (gNC (gN 3) (gN0)))))
   (UC (K4 (Uv 1) (gT 3 (gNC (gN 4) (gNC (gN 5) (gNC (gN 6) (gN0))))))
   (UC (sX (Zm 1 Tp (Uy (Uv 4) (Ux))) λ_ Z=>.nx Z)
   (UC (sIf (UY (KG (UL 3 Xg (Uy (Uv 5) (Uy (Kq 3) (Uy (Kq 2) (Ux)))))))
   (Z6 "NoAim" (Uy (UA (.str "old")) (Ux)))
   (sNx))
   (sIf (UY (KG (UL 2 Xf (Uy (Uv 6) (Uy (Kq 3) (Ux))))))
   (Z6 "NoAim" (Uy (UA (.str "turns")) (Ux)))
   (sNx)))))) (X6 (Pe (Yd cs.length ls.length d)))):=λe=>by
  rw[e];exact Kz (YB (fs:=[.str "aim"]) (Uz UE UF) (by kernel_rfl)) (Zo ⟨rfl,rfl⟩)
 cases d with
 |tuple xs=>
  refine UT (b:=!decide (xs.length=3)) (Z1:=[pb (Ki cs ls),pb (.tuple xs),qu,qu,qu,qu,qu]) ?_ (λhh=>?_) (λhh=>?_)
  .refine(Zr (KE (UB qt) qt) (UM (Kt qt VQ) UE Xn)).trans ?_
   rw[show decide ((xs.length:Int)=3)=decide (xs.length=3)from decide_eq_decide.mpr (by omega)]
  .have h3:¬xs.length=3:=by simpa using hh
   refine bad ?_;unfold Yd;split
   .rename_i heq;cases heq;exact absurd qt h3
   .rfl
  .have h3:xs.length=3:=by simpa using hh
   obtain⟨o,w,t,rfl⟩:∃a b c,xs=[a,b,c]:=by
    match xs,h3 with
    |[a,b,c],_=>exact⟨a,b,c,rfl⟩
   obtain⟨ho,hw,ht⟩:=hs o w t qt;refine Ke (Kd ?_);refine UZ (Vw (UB qt) (KN qt (U7 (UO (Qa qt) qt) (U7 (UO (Qa qt) qt) KO)))) ?_;refine UZ (Z1:=[pb (Ki cs ls),pb (.tuple [o,w,t]),pb (.list (cs.map int)),pb (.list (ls.map U8)),pb o,pb w,pb t]) (Vw (UB qt) (KN qt (U7 (UO (Qa qt) qt) (U7 (UO (Qa qt) qt) (U7 (UO (Qa qt) qt) KO))))) ?_;have hox:=Hz ho;apply U1;cases zo:K7 o with
   |false=>
    rw[zo]at hox;have e:Yd cs.length ls.length (.tuple [o,w,t])=O ("order" : Str):=by show(if K7 o=qv then _ else _)=_;rw[zo];rfl
    rw[e];exact Kz (YA (ZO (Uz (UB qt) UF) qt hox)) (Zo ⟨rfl,rfl⟩)
   |true=>
    rw[zo]at hox;refine Kz (Ts (ZO (Uz (UB qt) UF) qt hox) qt) (Kd ?_);apply U1;refine UT (b:=!Zf ls.length cs.length w) (Z1:=[pb (Ki cs ls),pb (.tuple [o,w,t]),pb (.list (cs.map int)),pb (.list (ls.map U8)),pb o,pb w,pb t]) (ZH (Yx (Kf (Uz (UB qt) (Uz (Kt qt (by rw[KM,Qd])) (Uz (Kt qt (by rw[KM,Qd])) UF))) qt (FA hw)))) (λhh=>?_) (λhh=>?_)
    .have zw:Zf ls.length cs.length w=qw:=by simpa using hh
     have e:Yd cs.length ls.length (.tuple [o,w,t])=O ("old" : Str):=by show(if K7 o=qv then(if Zf ls.length cs.length w=qv then _ else _)else _)=_;rw[zo,zw];rfl
     rw[e];exact Kz (YB (fs:=[.str "old"]) (Uz UE UF) (by kernel_rfl)) (Zo ⟨rfl,rfl⟩)
    .have zw:Zf ls.length cs.length w=qv:=by simpa using hh
     refine Ke (Kd ?_);have e:Yd cs.length ls.length (.tuple [o,w,t])=if Yl ls.length t=qv then qu else O ("turns" : Str):=by show(if K7 o=qv then(if Zf ls.length cs.length w=qv then _ else _)else _)=_;rw[zo,zw];rfl
     rw[e];refine UT (b:=!Yl ls.length t) (Z1:=[pb (Ki cs ls),pb (.tuple [o,w,t]),pb (.list (cs.map int)),pb (.list (ls.map U8)),pb o,pb w,pb t]) (ZH (Yx (Kf (Uz (UB qt) (Uz (Kt qt (by rw[KM,Qd])) UF)) qt (CM ht)))) (λhh=>?_) (λhh=>?_)
     .have zt:Yl ls.length t=qw:=by simpa using hh
      rw[zt];exact Kz (YB (fs:=[.str "turns"]) (Uz UE UF) (by kernel_rfl)) ⟨rfl,rfl⟩
     .have zt:Yl ls.length t=qv:=by simpa using hh
      rw[zt];exact Ke qt
 |dict kvs=>exact UT (b:=qv) (Zc (Xm (UB qt))) (λ_=>bad qt) λz=>by cases z
 |_=>exact UT (b:=qv) (Zc (KE (UB qt) qt)) (λ_=>bad qt) λz=>by cases z
theorem RZ{d:D}{p:Str}{n:D}{g:SM}{Z:Uw}(hs:ZB d)(h:K8 d=O (p,n))(h0:Z[0]?=O (O (.pub d))):Ho (UC (sX (Zm 1 Xq (Uy (Uv 0) (Ux))) λ_ Z=>.nx Z) g) Z (X6 (.exc (exD "NoWishes" [.str p,n]))):=by have hx:=OG hs;rw[h]at hx;apply U1;exact Kz (YA (ZO (Uz (UB h0) UF) qt hx)) (Zo ⟨rfl,rfl⟩)
theorem Fz{d a:D}{p:Str}{n:D}(hs:ZB d)(h:K8 d=O (p,n)):WP [d,a]=O (.exc (exD "NoWishes" [.str p,n])):=
 Yv (Z:=[pb d,pb a,qu,qu,qu,qu,qu]) qt (RZ hs h qt)
theorem NA{d a E:D}{g:SM}{Z:Uw}(h:WP [d,a]=O (.exc E))(hE:Wl E=qv)(h0:Z[0]?=O (O (.pub d)))(h1:Z[1]?=O (O (.pub a))):Ho (UC (sX (Zm 2 WP (Uy (Uv 0) (Uy (Uv 1) (Ux)))) λ_ Z=>.nx Z) g) Z (X6 (.exc E)):=by apply U1;exact Kz (YA (ZO (Uz (UB h0) (Uz (UB h1) UF)) qt h)) (Zo ⟨rfl,hE⟩)
def UV(p:Nat×qD):D:=.tuple [.int (p.1:Nat),UQ p.2]
def LD(cs:qy)(ws:LO)(t:Nat):Prop:=∃c,cs[t]?=O c/\((ws.count (O (t:Int)):Nat):Int)<c
structure WayQ(cs:qy)(qs:LP)(ws:LO)(W:List (Nat×qD)):Prop where
 ne:W≠[]
 mv:∀p∈W,∃o,ws[p.1]?=O o/\p.2≠o/\∀t,p.2=O t->((p.1:Int),t)∈qs
 nd:(W.map Prod.fst).Nodup
 lnk:∀(k:Nat) p q,W[k]?=O p->W[k+1]?=O q->p.2≠qu/\ws[q.1]?=O p.2
 fin:∀p q,W.head?=O p->W.getLast?=O q->q.2=qu∨ws[p.1]?=O q.2 ∨ ∃t:Nat,q.2=O (t:Int)/\LD cs ws t
section
variable{cs:qy}{ls:L3}{ws:LO}{W:List (Nat×qD)}{qs:LP}
theorem Fy{i:Nat}{o:qD}(h:ws[i]?=O o):ws.getD i qu=o:=by rw[QR,h];rfl
end
def oD:D->Option qD
 |.none=>O qu
 |.int u=>O (O u)
 |_=>qu
theorem SO(o:qD):oD (UQ o)=O o:=by cases o<;>rfl
theorem LC{t:D}{o:qD}(h:oD t=O o):t=UQ o:=by cases t<;>cases h<;>rfl
def moB(ls:L3)(ws:LO)(i:Nat)(t:D):Bool:=
 match oD t with
 |some o=>!decide (o=ws.getD i qu)&&o.all (λu=>decide (u∈(ls.getD i []).flatten))
 |none=>qw
def ZR(ls:L3)(ws:LO):D->Bool
 |.tuple [a,t]=>Kb ls.length a&&moB ls ws ((whI a).getD 0).toNat t
 |_=>qw
def MvQ(qs:LP)(ws:LO)(p:Nat×qD):Prop:=∃o,ws[p.1]?=O o/\p.2≠o/\∀t,p.2=O t->((p.1:Int),t)∈qs
section
variable{cs:qy}{ls:L3}{ws:LO}{W:List (Nat×qD)}
theorem PH(hl:ws.length=ls.length){i:Nat}(hi:i<ls.length){o:qD}:moB ls ws i (UQ o)=qv ↔ MvQ (ZW 0 ls) ws (i,o):=by
 have hw:ws[i]?=O (ws[i]'(by omega)):=Qe _;have hs:ls[i]?=O ls[i]:=Qe hi;have e1:ws.getD i qu=ws[i]'(by omega):=by rw[QR,hw];rfl
 have e2:ls.getD i []=ls[i]:=by rw[QR,hs];rfl
 unfold moB;rw[SO,e1,e2];constructor
 .intro h
  have h:(!decide (o=ws[i]'(by omega))&&o.all (λu=>decide (u∈ls[i].flatten)))=qv:=h;rw[Qx]at h;refine⟨_,hw,λe=>?_,λt e=>?_⟩
  .rw[QB e]at h;cases h.1
  .have e:o=O t:=e
   subst e;have:=Qa (show decide (t∈ls[i].flatten)=qv from h.2);have:=Ni (k:=0) hs this;rw[JK]at this;exact this
 .rintro⟨o',h1,h2,h3⟩
  rw[hw]at h1;cases h1
  show(!decide (o=ws[i]'(by omega))&&o.all (λu=>decide (u∈ls[i].flatten)))=qv
  rw[Qs h2];cases o with
  |none=>rfl
  |some t=>
   obtain⟨j,rs,hj,e,hm⟩:=RE (h3 t qt);have e:i=j:=by have:((i:Nat):Int)=((0+j:Nat):Int):=e;omega
   subst e;rw[hs]at hj;cases hj;exact QB hm
theorem Oi(hl:ws.length=ls.length){p:Nat×qD}:ZR ls ws (UV p)=qv ↔ MvQ (ZW 0 ls) ws p:=by
 show((decide ((0:Int)<=(p.1:Nat))&&decide (((p.1:Nat):Int)<ls.length))&&moB ls ws (((p.1:Nat):Int)).toNat (UQ p.2))=qv ↔ _
 rw[Q9,Qx,Qx,QU,QU];constructor
 .rintro⟨⟨_,h⟩,h2⟩
  exact(PH hl (by omega)).mp h2
 .intro h
  obtain⟨o,ho,_⟩:=id h;have:=(Ql.mp ho).1;exact⟨⟨by omega,by omega⟩,(PH hl (by omega)).mpr h⟩
theorem Dm{x:D}(h:ZR ls ws x=qv):∃p,x=UV p:=by
 cases x with
 |tuple xs=>
  rcases xs with _|⟨a,_|⟨t,_|⟨u,r⟩⟩⟩
  .cases h
  .cases h
  .have h:(Kb ls.length a&&moB ls ws ((whI a).getD 0).toNat t)=qv:=h
   rw[Qx]at h;obtain⟨i,rfl,h0,_⟩:=RD h.1;have h2:=h.2;unfold moB at h2;cases ho:oD t with
   |none=>rw[ho]at h2;cases h2
   |some o=>refine⟨(i.toNat,o),?_⟩;rw[LC ho];show _=PyData.tuple [.int ((i.toNat:Nat):Int),UQ o];rw[Int.toNat_of_nonneg h0]
  .cases h
 |_=>cases h
theorem Nf(hl:ws.length=ls.length):∀{xs:qx},xs.all (ZR ls ws)=qv->∃W:List (Nat×qD),xs=W.map UV/\∀p∈W,MvQ (ZW 0 ls) ws p
 |[],_=>⟨[],rfl,λ_ h=>by cases h⟩
 |x::r,h=>by
  rw[JF,Qx]at h;obtain⟨p,rfl⟩:=Dm h.1;obtain⟨W,rfl,hW⟩:=Nf hl h.2;refine⟨p::W,rfl,λq hq=>?_⟩;cases hq with
  |head=>exact(Oi hl).mp h.1
  |tail _ hq=>exact hW q hq
theorem A7(g:Good cs ls)(hl:ws.length=ls.length)(x:D):Xe [.list (ls.map U8),Ku ws,x]=O (.bool (ZR ls ws x)):=by
 have l7:=g.l7
 let S0:Option Sl:=O (.pub (.list (ls.map U8)))
 let S1:Option Sl:=O (.pub (Ku ws))
 let S2:Option Sl:=O (.pub x)
 refine Za (Z:=[S0,S1,S2,qu,qu]) qt ?_;unfold Va;have hlen:U9 [.list (ls.map U8)]=O (.int ls.length):=by rw[KM,Qd]
 apply U1;cases x with
 |dict kvs=>exact UT (b:=qv) (Zc (Xm (UB qt))) (λ_=>U3 UE (KF qt)) λz=>by cases z
 |tuple xs=>
  rcases xs with _|⟨a,_|⟨t,_|⟨u,r⟩⟩⟩
  .exact UT (b:=qv) (Zr (KE (UB qt) qt) (UM (Kt qt VQ) UE Xn)) (λ_=>U3 UE (KF qt)) λz=>by cases z
  .exact UT (b:=qv) (Zr (KE (UB qt) qt) (UM (Kt qt VQ) UE Xn)) (λ_=>U3 UE (KF qt)) λz=>by cases z
  .refine UT (b:=qw) (Zr (KE (UB qt) qt) (UM (Kt qt VQ) UE Xn)) (λz=>by cases z) λ_=>Ke (Kd ?_)
   let S3:Option Sl:=O (.pub a)
   let S4:Option Sl:=O (.pub t)
   refine UZ (Z1:=[S0,S1,S2,S3,S4]) (Vw (UB qt) (KN qt (U7 (UO (Qa qt) qt) (U7 (UO (Qa qt) qt) KO)))) ?_;have e0:ZR ls ws (.tuple [a,t])=(Kb ls.length a&&moB ls ws ((whI a).getD 0).toNat t):=rfl;apply U1;refine UT (b:=!Kb ls.length a) (Z1:=[S0,S1,S2,S3,S4]) (ZH (Yx (Kf (Uz (UB qt) (Uz (Kt qt hlen) UF)) qt (Tn a ls.length)))) (λz=>U3 UE (KF ?_)) λz=>Ke (Kd ?_)
   .rw[JN]at z
    rw[e0,z];rfl
   rw[Bool.not_eq_false']at z;rw[e0,z,JY];obtain⟨i,rfl,h0,h1⟩:=RD z;obtain⟨n,rfl⟩:∃n:Nat,i=n:=⟨i.toNat,by omega⟩
   show Ho _ _ λo=>o=.rt (.bool (moB ls ws (((n:Nat):Int)).toNat t));rw[Q9];have hn:n<ls.length:=by omega
   have hw:ws[n]?=O (ws[n]'(by omega)):=Qe _;have hs:ls[n]?=O ls[n]:=Qe hn;have hix:oIx (Ku ws) (.int ((n:Nat):Int))=O (UQ (ws[n]'(by omega))):=KS (by rw[Qi,hw];rfl);have hix2:oIx (.list (ls.map U8)) (.int ((n:Nat):Int))=O (U8 ls[n]):=KS (by rw[Qi,hs];rfl);have e1:ws.getD n qu=ws[n]'(by omega):=by rw[QR,hw];rfl
   have e2:ls.getD n []=ls[n]:=by rw[QR,hs];rfl
   apply U1;refine UT (b:=isNon t) (Z1:=[S0,S1,S2,S3,S4]) (Ko (k:=isNon) (UB qt)) (λz=>?_) λz=>Ke (Kd ?_)
   .have ht:t=.none:=by cases t<;>first|rfl|cases z
    subst ht;refine U3 (Ko (k:=λd=>Ui (!isNon d)) (Kk qt (UB qt) hix)) (KF ?_);have:moB ls ws n .none=(!decide (qu=ws.getD n qu)&&qv):=rfl;rw[this,e1,Bool.and_true];cases ws[n]'(by omega)<;>rfl
   .have hm:moB ls ws n t=(whB t&&((oD t).any λo=>!decide (o=ws.getD n qu)&&o.all (λu=>decide (u∈(ls.getD n []).flatten)))):=by
     unfold moB;cases t<;>first|rfl|cases z
    rw[hm,e1,e2];refine U3 (Xo (Kf (Uz (UB qt) UF) qt (RK t)) λz2=>?_) qt;cases t with
    |int u=>
     refine Xo (t:=!decide (O u=ws[n]'(by omega))) (Ko (Zd qt (Kk qt (UB qt) hix) (TY (a:=O u)))) λ_=>?_
     have hr:decide ((0:Int)<(Xl u ls[n]:Nat))=decide (u∈ls[n].flatten):=by
      by_cases hm:u∈ls[n].flatten
      .rw[QB hm,QB (by have:=B5 hm;omega)]
      .rw[Qs hm,Qs (λh=>hm (B0 (by omega)))]
     rw[show(Option.all (λu=>decide (u∈ls[n].flatten)) (O u))=decide (u∈ls[n].flatten)from rfl,←hr];exact Ko (UM (Kf (Uz (Kk qt (UB qt) hix2) (Uz (UB qt) UF)) qt (B6 u ls[n])) UE qt)
    |_=>cases z2
  .refine UT (b:=qv) (Zr (KE (UB qt) qt) (UM (Kt qt VQ) UE (by rw[Xn,Qs (by rw[QC,QC,QC];omega)];rfl))) (λ_=>U3 UE (KF qt)) λz=>by cases z
 |_=>exact UT (b:=qv) (Zc (KE (UB qt) qt)) (λ_=>U3 UE (KF qt)) λz=>by cases z
def LnkQ(ws:LO)(W:List (Nat×qD)):Prop:=∀(k:Nat) p q,W[k]?=O p->W[k+1]?=O q->p.2≠qu/\ws[q.1]?=O p.2
theorem AB(hw:∀p∈W,p.1<ws.length)(hl:W.length<=1000):∃b,Xd [Ku ws,.list (W.map UV)]=O (.bool b)/\(b=qv ↔ LnkQ ws W):=by
 let S0:Option Sl:=O (.pub (Ku ws))
 let S1:Option Sl:=O (.pub (.list (W.map UV)))
 have key:∃r,Xd [Ku ws,.list (W.map UV)]=O r/\∃b,r=.bool b/\(b=qv ↔ LnkQ ws W):=by
  refine WA (Z:=[S0,S1,qu,qu]) qt ?_;unfold W9;have hlen:U9 [.list (W.map UV)]=O (.int W.length):=by rw[KM,Qd]
  apply U1;apply Yy (λi Z=>(∃x2 x3,Z=[S0,S1,x2,x3])/\∀(k:Nat) p q,k<i->W[k]?=O p->W[k+1]?=O q->p.2≠qu/\ws[q.1]?=O p.2)
  case h1=>exact OU (Uz UE (Uz (Kt qt hlen) UF)) (Ny (by omega) (by omega) (by omega) (by omega))
  case h0=>exact⟨⟨_,_,rfl⟩,λk _ _ h=>absurd h (Nat.not_lt_zero k)⟩
  case hst=>
   rintro k d Z hk ⟨⟨x2,x3,rfl⟩,hin⟩;obtain⟨rfl,hkl⟩:=Ws hk;have hk1:k+1<W.length:=by omega
   have hp:W[k]?=O W[k]:=Qe _;have hq:W[k+1]?=O W[k+1]:=Qe hk1;have e1:(1:Int)+(k:Nat)=((k+1:Nat):Int):=by omega
   refine⟨_,UO (Qa qt) qt,?_⟩;rw[e1];unfold OB
   have hixk:oIx (.list (W.map UV)) (.int (((k+1:Nat):Int)-1))=O (UV W[k]):=by
    have e:(((k+1:Nat):Int)-1)=((k:Nat):Int):=by omega
    rw[e];exact KS (by rw[Qi,hp];rfl)
   have kE:oIx (.list (W.map UV)) (.int ((k+1:Nat):Int))=O (UV W[k+1]):=KS (by rw[Qi,hq];rfl);have jc:=hw W[k+1] (Jl _);have hww:ws[(W[k+1]).1]?=O (ws[(W[k+1]).1]'(jc)):=Qe _;have jX:oIx (Ku ws) (.int (((W[k+1]).1:Nat):Int))=O (UQ (ws[(W[k+1]).1]'(jc))):=KS (by rw[Qi,hww];rfl)
   let S2:Option Sl:=O (.pub (.int ((k+1:Nat):Int)))
   let S3:Option Sl:=O (.pub (UQ (W[k]).2))
   refine UZ (Z1:=[S0,S1,S2,S3]) (Kr (UM (Kk qt (UM (UB qt) UE Sa) hixk) UE (show oIx (UV W[k]) (.int 1)=O (UQ (W[k]).2)from rfl)) (Qa qt) qt) ?_;refine UT (b:=isNon (UQ (W[k]).2) || !decide (ws[(W[k+1]).1]'(jc)=(W[k]).2)) (Z1:=[S0,S1,S2,S3]) (TQ (Ko (k:=isNon) (UB qt)) λ_=>UM (Kk qt (UM (Kk qt (UB qt) kE) UE (show oIx (UV W[k+1]) (.int 0)=O (.int ((W[k+1]).1:Nat))from rfl)) jX) (UB qt) TY) (λz=>U3 UE (RA ?_)) λz=>Ke (Ye ⟨⟨_,_,rfl⟩,?_⟩)
   .refine⟨_,rfl,qw,rfl,λh=>(by cases h),λh=>?_⟩
    obtain⟨h1,h2⟩:=h k _ _ hp hq;rw[hww]at h2;rw[QB (QS h2)]at z;cases h3:(W[k]).2 with
    |none=>exact absurd h3 h1
    |some t=>rw[h3]at z;cases z
   .rw[JP]at z
    intro j p q hj jE jd;by_cases e:j=k
    .subst e
     rw[hp]at jE;rw[hq]at jd;cases jE;cases jd;refine⟨λe=>?_,?_⟩
     .rw[e]at z;cases z.1
     .rw[hww]
      by_cases e:ws[(W[j+1]).1]'(jc)=(W[j]).2
      .exact JO O e
      .rw[Qs e]at z;cases z.2
    .exact hin j p q (by omega) jE jd
  case hend=>rintro Z ⟨⟨x2,x3,rfl⟩,hin⟩;refine Kd (U3 UE ⟨_,rfl,qv,rfl,λ_=>?_,λ_=>rfl⟩);intro k p q hp hq;refine hin k p q ?_ hp hq;have:=(Ql.mp hq).1;rw[Xr];omega
 obtain⟨r,h,b,rfl,hb⟩:=key;exact⟨b,h,hb⟩
def IsW(cs:qy)(ls:L3)(ws:LO)(d:D):Prop:=∃W,d=.list (W.map UV)/\WayQ cs (ZW 0 ls) ws W
theorem Dl{W U:List (Nat×qD)}(h:W.map UV=U.map UV):W=U:=by
 refine List.map_inj_right (f:=UV) (λp q e=>?_) |>.mp h
 obtain⟨a,x⟩:=p;obtain⟨b,y⟩:=q;have e:PyData.tuple [.int (a:Nat),UQ x]=.tuple [.int (b:Nat),UQ y]:=e;injection e with e;injection e with e1 e2;injection e1 with e1;injection e2 with e2
 have:x=y:=by have:=JO oD e2;rw[SO,SO]at this;exact QS this
 rw[this,Int.ofNat.inj e1]
theorem BZ(g:Good cs ls)(hl:ws.length=ls.length){d:D}(hs:∀xs,d=.list xs->xs.length<=1000):∃b,Xc [Ki cs ls,Ku ws,d]=O (.bool b)/\(b=qv ↔ IsW cs ls ws d):=by
 have l7:=g.l7
 let S0:Option Sl:=O (.pub (Ki cs ls))
 let S1:Option Sl:=O (.pub (Ku ws))
 let S2:Option Sl:=O (.pub d)
 let S3:Option Sl:=O (.pub (.list ((Wu cs ws).map int)))
 have key:∃r,Xc [Ki cs ls,Ku ws,d]=O r/\∃b,r=.bool b/\(b=qv ↔ IsW cs ls ws d):=by
  refine WA (Z:=[S0,S1,S2,qu,qu]) qt ?_;unfold W8;refine UZ (Z1:=[S0,S1,S2,S3,qu]) (Kr (Kf (Uz (UB qt) (Uz (UB qt) UF)) qt (qd g)) (Qa qt) qt) ?_;have no:∀{d:D},(¬IsW cs ls ws d)->∃d1:D,Out.rt (.bool qw)=.rt d1/\∃b,d1=.bool b/\(b=qv ↔ IsW cs ls ws d):=λh=>⟨_,rfl,qw,rfl,(λz=>by cases z),λz=>absurd z h⟩
  apply U1;cases d with
  |dict kvs=>exact UT (b:=qv) (Zc (Xm (UB qt))) (λ_=>U3 UE (KF (no λ⟨W,e,_⟩=>by cases e))) λz=>by cases z
  |list xs=>
   have hx:=hs xs qt;have hlen:U9 [.list xs]=O (.int xs.length):=KM;refine UT (b:=decide ((xs.length:Int)=0)) (Z1:=[S0,S1,S2,S3,qu]) (Zr (KE (UB qt) qt) (UM (Kt qt hlen) UE Zn)) (λz=>U3 UE (KF (no λ⟨W,e,hW⟩=>hW.ne ?_))) λz=>Ke (Kd ?_)
   .have:=Qa z
    injection e with e;rw[e,Qd]at this;exact List.length_eq_zero_iff.mp (by omega)
   have hne:xs≠[]:=λe=>by rw[e]at z;cases z
   apply U1;have hc:Ks (gN 5) (UA qv) (UL 3 Xe (Uy (UK 0 (UA (.int 1))) (Uy (Uv 1) (Uy (Uv 5) (Ux))))) xs (U5 [S0,S1,S2,S3,qu]++Ug 1 qu) []=O (xs.map λx=>.bool (ZR ls ws x)):=by refine To (λZ=>∃x,Z=[S0,S1,S2,S3,qu,x]) _ _ _ _ (by rw[Qd]) ?_ ⟨qu,rfl⟩ (by rw[QM];omega);rintro j y e hj he Z ⟨x,rfl⟩;rw[Qi,hj]at he;cases he;exact⟨_,UO (Qa qt) qt,rfl,Kf (Uz (Kk qt UE Pf) (Uz (UB qt) (Uz (UB qt) UF))) qt (A7 g hl y),_,rfl⟩
   refine UT (b:=!xs.all (ZR ls ws)) (Z1:=[S0,S1,S2,S3,qu]) (ZH (Yx (Zw (Uz (Ko (Z7 (Zs (UB qt) YC) hc)) UF) (Tl xs)))) (λz=>U3 UE (KF (no λ⟨W,e,hW⟩=>?_))) λz=>Ke (Kd ?_)
   .injection e with e
    subst e;rw[JN]at z;have:(W.map UV).all (ZR ls ws)=qv:=List.all_eq_true.mpr λx hx=>by obtain⟨p,hp,rfl⟩:=QF.mp hx;exact(Oi hl).mpr (hW.mv p hp)
    rw[this]at z;cases z
   rw[Bool.not_eq_false']at z;obtain⟨W,rfl,ku⟩:=Nf hl z;rw[Qd]at hx;have kJ:W≠[]:=λe=>hne (by rw[e];rfl)
   have hlt:∀p∈W,p.1<ws.length:=λp hp=>by obtain⟨o,ho,_⟩:=ku p hp;exact(Ql.mp ho).1
   have isw:IsW cs ls ws (.list (W.map UV)) ↔ WayQ cs (ZW 0 ls) ws W:=⟨λ⟨U,e,hU⟩=>by injection e with e;rw[Dl e];exact hU,λh=>⟨W,rfl,h⟩⟩
   let ns:qy:=W.map λp=>((p.1:Nat):Int)
   have hnl:ns.length=W.length:=Qd _
   have hnd:ns.Nodup ↔ (W.map Prod.fst).Nodup:=by
    have e:ns=(W.map Prod.fst).map λn:Nat=>(n:Int):=by rw[Jd];rfl
    rw[e];exact⟨λh=>(List.pairwise_map.mp h).imp λh e=>h (by rw[e]),λh=>List.Pairwise.map _ (λa b h e=>h (by omega)) h⟩
   have hc2:Ks (gT 2 (gNC (gN 5) (gNC (gN 6) (gN0)))) (UA qv) (Uv 5) (W.map UV) (U5 [S0,S1,S2,S3,qu]++Ug 2 qu) []=O (ns.map int):=by
    refine To (λZ=>∃x y,Z=[S0,S1,S2,S3,qu,x,y]) _ _ _ _ (by rw[Qd,Qd,Qd]) ?_ ⟨qu,qu,rfl⟩ (by rw[Qd,QM];omega);rintro j y e hj he Z ⟨x,y',rfl⟩;rw[Qi]at hj;rw[Qi,Qi]at he;cases hp:W[j]? with
    |none=>rw[hp]at hj;cases hj
    |some p=>
    rw[hp]at hj he;cases hj;cases he;exact⟨_,KN qt (U7 (UO (Qa qt) qt) (U7 (UO (Qa qt) qt) KO)),rfl,UB qt,_,_,rfl⟩
   have hun:decide (((Zb ns:Nat):Int)=((W.map UV).length:Nat))=decide (W.map Prod.fst).Nodup:=by
    rw[Qd,←hnl];by_cases h:(W.map Prod.fst).Nodup
    .rw[QB h,R1 (hnd.mpr h),QB qt]
    .rw[Qs h,Qs (λe=>h (hnd.mp (MJ (by omega))))]
   obtain⟨lb,hlb,jT⟩:=AB hlt hx;apply U1;refine UT (b:=!decide (W.map Prod.fst).Nodup || !lb) (Z1:=[S0,S1,S2,S3,qu]) (TQ (UM (E4 (Z7 (Zs (UB qt) YC) hc2) (by omega)) (Kt qt hlen) (by rw[Xn,hun])) λ_=>ZH (Yx (Kf (Uz (UB qt) (Uz (UB qt) UF)) qt hlb))) (λz=>U3 UE (KF (no λh=>?_))) λz=>Ke (Kd ?_)
   .have h:=isw.mp h
    rw[QB h.nd,jT.mpr h.lnk]at z;cases z
   rw[JP,Bool.not_eq_false',Bool.not_eq_false']at z;have nd:=Qa z.1;have lnk:=jT.mp z.2
   obtain⟨p0,r0,hW1⟩:∃p r,W=p::r:=by
    cases hW':W with
    |nil=>exact absurd hW' kJ
    |cons x r=>exact⟨x,r,rfl⟩
   obtain⟨q,hgl⟩:∃q,W.getLast?=O q:=by
    cases h:W.getLast? with
    |none=>exact absurd (List.getLast?_eq_none_iff.mp h) kJ
    |some q=>exact⟨q,rfl⟩
   have hhd:W.head?=O p0:=by rw[hW1];rfl
   have hqm:q∈W:=List.mem_of_getLast? hgl;have hpm:p0∈W:=by rw[hW1];exact Qp
   have hixq:oIx (.list (W.map UV)) (.int (-1))=O (UV q):=Ou (by rw[List.getLast?_map,hgl];rfl);have hix0:oIx (.list (W.map UV)) (.int 0)=O (UV p0):=KS (j:=0) (by rw[hW1];rfl)
   let S4:Option Sl:=O (.pub (UQ q.2))
   refine UZ (Z1:=[S0,S1,S2,S3,S4]) (Kr (UM (Kk qt (Ta UE) hixq) UE (show oIx (UV q) (.int 1)=O (UQ q.2)from rfl)) (Qa qt) qt) ?_;obtain⟨o0,ho0,_⟩:=ku p0 hpm;have jX:oIx (Ku ws) (.int ((p0.1:Nat):Int))=O (UQ o0):=KS (by rw[Qi,ho0];rfl);have tw:UI Ui (UD oEq (UK 1 (UD oIx (UK 2 (UA (.int 0))) (UA (.int 0)))) (Uv 4)) [S0,S1,S2,S3,S4]=.ok (.bool (decide (o0=q.2))) [S0,S1,S2,S3,S4]:=Ko (UM (Kk qt (UM (Kk qt UE hix0) UE (show oIx (UV p0) (.int 0)=O (.int (p0.1:Nat))from rfl)) jX) (UB qt) PK);have ko:∀{p' q':Nat×qD},W.head?=O p'->W.getLast?=O q'->p'=p0/\q'=q:=λh1 h2=>by rw[hhd]at h1;rw[hgl]at h2;exact⟨(QS h1).symm,(QS h2).symm⟩
   cases hq2:q.2 with
   |none=>refine U3 (T6 (t:=qv) (u:=qv) (Ko (k:=λd=>Ui (isNon d)) (x:=UQ q.2) (UB qt) |>.trans (by rw[hq2];rfl)) λz=>by cases z) ⟨_,rfl,qv,rfl,λ_=>isw.mpr ⟨kJ,ku,nd,lnk,λp' q' h1 h2=>?_⟩,λ_=>rfl⟩;obtain⟨rfl,rfl⟩:=ko h1 h2;exact .inl hq2
   |some t=>
    obtain⟨_,_,_,hqq⟩:=ku q hqm;obtain⟨i,rs,hi,_,hmem⟩:=RE (hqq t hq2);obtain⟨r,hr1,jn⟩:=JS.mp hmem;have hr:=(g.rk rs (QP hi)).there r hr1 t jn;obtain⟨n,rfl⟩:∃n:Nat,t=n:=⟨t.toNat,by omega⟩
    have hn:n<cs.length:=by omega
    have hixl:oIx (.list ((Wu cs ws).map int)) (.int ((n:Nat):Int))=O (.int (cs[n]-((ws.count (O (n:Int)):Nat):Int))):=KS (by
     unfold Wu;rw[Qi,Qi,List.getElem?_range hn];show O (int (cs.getD n 0-_))=_;rw[QR,Qe hn]
     rfl)
    refine U3 (T6 (t:=qw) (u:=decide (0<cs[n]-((ws.count (O (n:Int)):Nat):Int)) || decide (o0=q.2)) (Ko (k:=λd=>Ui (isNon d)) (x:=UQ q.2) (UB qt) |>.trans (by rw[hq2];rfl)) λ_=>T6 (Ko (UM (Kk qt (UB qt) (by rw[hq2];exact hixl)) UE Oa)) λ_=>tw) ⟨_,rfl,_,rfl,?_⟩;rw[JX,Bool.or_eq_true,QU,QU,isw];constructor
    .intro h
     refine⟨kJ,ku,nd,lnk,λp' q' h1 h2=>?_⟩;obtain⟨rfl,rfl⟩:=ko h1 h2;rcases h with h|h
     .exact .inr (.inr ⟨n,hq2,_,Qe hn,by omega⟩)
     .exact .inr (.inl (by rw[ho0,h]))
    .intro h
     rcases h.fin p0 q hhd hgl with e|e|⟨t',e,c,hc,hlt⟩
     .rw[hq2]at e;cases e
     .rw[ho0]at e
      exact .inr (QS e)
     .rw[hq2]at e
      have e:n=t':=by have:=QS e;omega
      subst e;rw[Qe hn]at hc;cases hc;exact .inl (by omega)
  |_=>exact UT (b:=qv) (Zc (KE (UB qt) qt)) (λ_=>U3 UE (KF (no λ⟨W,e,_⟩=>by cases e))) λz=>by cases z
 obtain⟨r,h,b,rfl,hb⟩:=key;exact⟨b,h,hb⟩
end
section
variable{cs:qy}{ls:L3}{ws:LO}{W:List (Nat×qD)}
theorem Hy{xs:qy}:oEq (.list (xs.map int)) (.list [])=O xs.isEmpty:=by have h1:(Uh (xs.map int)).canLay0=qv:=Nn xs;unfold oEq;rw[Qo ⟨h1,rfl,by have:=Nm xs;unfold Kj at this;omega⟩];cases xs<;>rfl
def szC(n:Nat):qy:=(n:Int)::[61,53,61,53,61,53,61,53,61,53,61,53,61,53]
theorem BY(g:Good cs ls)(hl:ws.length=ls.length)(c s:Int):∃r,Wa [Ki cs ls,Ku ws,.int c,.int s]=O r/\∃W:List (Nat×qD),r=.list (W.map UV)/\W≠[]/\W.length<=7/\∀p∈W,p.1<ws.length:=by
 have l7:=g.l7;have l1:=g.l1;have c6:=g.c6
 let S0:Option Sl:=O (.pub (Ki cs ls))
 let S1:Option Sl:=O (.pub (Ku ws))
 let S2:Option Sl:=O (.pub (.int c))
 let S3:Option Sl:=O (.pub (.int s))
 refine WA (Z:=[S0,S1,S2,S3,qu,qu,qu,qu,qu,qu,qu,qu]) qt ?_;unfold W0;have jO:U9 [Ku ws]=O (.int ws.length):=by unfold Ku;rw[KM,Qd]
 obtain⟨r,hF,dg,rfl,hdl,hdb⟩:=Tq c s (sizes:=szC ws.length) (λx hx=>by
  rcases QL.mp hx with rfl|hx
  .omega
  .exact(by decide:∀x∈([61,53,61,53,61,53,61,53,61,53,61,53,61,53]:qy),0<x/\x<18446744073709551616) x hx) (Qa qt)
 have hdl:dg.length=15:=hdl;have hmul:U0 (.list [.int 61,.int 53]) (.int 7)=O (.list ((szC ws.length).tail.map int)):=(Sv (by decide)).trans qt;have hadd:UN (.list [.int ws.length]) (.list ((szC ws.length).tail.map int))=O (.list ((szC ws.length).map int)):=(ZJ (Qa qt)).trans qt
 let S4:Option Sl:=O (.pub (.list (dg.map int)))
 refine UZ (Z1:=[S0,S1,S2,S3,S4,qu,qu,qu,qu,qu,qu,qu]) (Kr (Kf (Uz (UB qt) (Uz (UB qt) (Uz (UM (Kc (Uz (Kt qt jO) UF) (Qa qt)) (UM (Kc (Uz UE (Uz UE UF)) (Qa qt)) UE hmul) hadd) UF))) qt hF) (Qa qt) qt) ?_;refine UZ (Zt (Xp UF (Qa qt)) (Qa qt) qt) ?_;have hdi:∀(j:Nat)(hj:j<15),oIx (.list (dg.map int)) (.int (j:Int))=O (.int (dg[j]'(by omega))):=λj hj=>KS (by rw[Qi,Qe (by omega)];rfl)
 have h0:=hdb 0 (dg[0]'(by omega)) ws.length (Qe _) qt;obtain⟨a0,ha0⟩:∃a:Nat,dg[0]'(by omega)=a:=⟨(dg[0]'(by omega)).toNat,by omega⟩
 have h00:=hdi 0 (by decide);rw[ha0]at h00 h0;refine UZ (Kr (Kk qt UE h00) (Qa qt) qt) ?_;apply U1;apply Yy (λk Z=>∃(W:List (Nat×qD))(a:Nat)(x7 x8 x9 qV qU:Option Sl),Z=[S0,S1,S2,S3,S4,O (.own (W.map UV)),pb (.int (a:Nat)),x7,x8,x9,qV,qU]/\W.length=k/\a<ws.length/\∀p∈W,p.1<ws.length)
 case h1=>exact Wq (Uz UE UF) (Wt (by decide) (by decide))
 case h0=>exact⟨[],a0,_,_,_,_,_,rfl,rfl,by omega,λ_ h=>by cases h⟩
 case hst=>
  rintro k d Z hk ⟨W,a,x7,x8,x9,qV,qU,rfl,j8,ha,hW⟩;obtain⟨rfl,hk7⟩:=Ws hk;have hk7:k<7:=by omega
  rw[JR];refine⟨_,UO (Qa qt) qt,?_⟩;unfold Ox;have hal:a<ls.length:=by omega
  have hls:ls[a]?=O ls[a]:=Qe hal;have hw:ws[a]?=O ws[a]:=Qe ha;have hfl:=Tf (g.rk ls[a] (Jl hal));have hixw:oIx (Ku ws) (.int ((a:Nat):Int))=O (UQ ws[a]):=KS (by rw[Qi,hw];rfl)
  let SW:Option Sl:=O (.own (W.map UV))
  let S6:Option Sl:=O (.pub (.int (a:Nat)))
  let S7:Option Sl:=O (.pub (.int (k:Nat)))
  let L:=(ZD ls[a].flatten).filter λt=>!decide (O t=ws[a])
  have hc:Ks (gN 12) (K1 oNe 12 (UK 1 (Uv 6))) (Uv 12) ((ZD ls[a].flatten).map int) (U5 [S0,S1,S2,S3,S4,SW,S6,S7,x8,x9,qV,qU]++Ug 1 qu) []=O (L.map int):=by
   rw[YD (λd=>match d with | .int t=>!decide (O t=ws[a])|_=>qw) (λd=>d) (λZ=>∃y5 y8 y9 y10 y11 x,Z=[S0,S1,S2,S3,S4,y5,S6,S7,y8,y9,y10,y11,x])]
   .rw[Q7,List.map_id',List.filter_map]
    rfl
   .rintro d hm Z ⟨y5,y8,y9,y10,y11,x,rfl⟩
    obtain⟨t,ht,rfl⟩:=QF.mp hm;exact⟨_,UO (Qa qt) qt,Zd qt (Kk qt (UB qt) hixw) (TY (a:=O t)),λ_=>UB qt,_,_,_,_,_,_,rfl⟩
   .exact⟨_,_,_,_,_,qu,rfl⟩
   .rw[Qd,QM,(XE _).length_eq];omega
  have hLl:L.length<=6:=by have:L.length<=(ZD ls[a].flatten).length:=List.length_filter_le _ _;rw[(XE _).length_eq]at this;omega
  have hadd:UN (.list (L.map int)) (.list [.none])=O (.list ((L.map O++[qu]).map UQ)):=by rw[ZJ (by rw[Qd];show L.length+1<=_;omega),Jc,Jd];rfl
  have kq:(L.map O++[qu]:LO).length=L.length+1:=by rw[Qm,Qd];rfl
  have hlen:U9 [.list ((L.map O++[qu]:LO).map UQ)]=O (.int ((L.length+1:Nat):Int)):=by rw[KM,Qd,kq]
  let S8:Option Sl:=O (.pub (.list ((L.map O++[qu]:LO).map UQ)))
  refine UZ (Z1:=[S0,S1,S2,S3,S4,SW,S6,S7,S8,x9,qV,qU]) (Kr (UM (Ko (Z7 (Zs (Kf (Uz (UB qt) (Uz (UB qt) UF)) qt (NE (cs:=cs) hls (by omega))) YC) hc)) (Kc (Uz UE UF) (Qa qt)) hadd) (Qa qt) qt) ?_;have hd1:=hdi (1+2*k) (by omega);have hd2:=hdi (2+2*k) (by omega);have j6:((1+2*k:Nat):Int)=1+2*(k:Int):=by omega
  have j4:((2+2*k:Nat):Int)=2+2*(k:Int):=by omega
  rw[j6]at hd1;rw[j4]at hd2;generalize dg[1+2*k]'(by omega)=z1 at hd1;generalize dg[2+2*k]'(by omega)=z2 at hd2;have hm0:0<=z1 % ((L.length+1:Nat):Int):=JL _ (by omega);have hm1:z1 % ((L.length+1:Nat):Int)<((L.length+1:Nat):Int):=JA _ (by omega);obtain⟨j,hj⟩:∃j:Nat,z1 % ((L.length+1:Nat):Int)=j:=⟨(z1 % ((L.length+1:Nat):Int)).toNat,by omega⟩
  have jW:j<(L.map O++[qu]:LO).length:=by rw[kq];omega
  have qY:=PL (os:=L.map O++[qu]) jW;rw[←hj]at qY;generalize (L.map O++[qu]:LO)[j]=o at qY
  let S9:Option Sl:=O (.pub (UQ o))
  refine UZ (Z1:=[S0,S1,S2,S3,S4,SW,S6,S7,S8,S9,qV,qU]) (Kr (Kk qt (UM (Kk qt (UM UE (UM UE (UB qt) (WN (by decide) (by decide))) ZE) hd1) (Kt qt hlen) (YX (by omega))) qY) (Qa qt) qt) ?_
  let V:=W++[(a,o)]
  let SV:Option Sl:=O (.own (V.map UV))
  have hVl:V.length=k+1:=by unfold V;rw[Qm,j8];rfl
  have hV:∀p∈V,p.1<ws.length:=λp hp=>by
   rcases Jg.mp hp with hp|hp
   .exact hW p hp
   .cases QW.mp hp;exact ha
  refine UZ (Z1:=[S0,S1,S2,S3,S4,SV,S6,S7,S8,S9,qV,qU]) (WB qt (KH (Uz (UB qt) (Uz (UB qt) UF)) (Qa qt)) qt (by rw[Qd];omega) (by unfold SV V;rw[Jc];rfl)) ?_
  let U:qy:=V.map λp=>((p.1:Nat):Int)
  have hc2:Ks (gN 12) (UA qv) (UK 12 (UA (.int 0))) (V.map UV) (U5 (K2 [S0,S1,S2,S3,S4,SV,S6,S7,S8,S9,qV,qU])++Ug 1 qu) []=O (U.map int):=by
   refine To (λZ=>∃y10 y11 x,Z=[S0,S1,S2,S3,S4,pb (.list (V.map UV)),S6,S7,S8,S9,y10,y11,x]) _ _ _ _ (by rw[Qd,Qd,Qd]) ?_ ⟨_,_,qu,rfl⟩ (by rw[Qd,QM];omega);rintro j d e hj he Z ⟨y10,y11,x,rfl⟩;rw[Qi]at hj;rw[Qi,Qi]at he;cases hqj:V[j]? with
   |none=>rw[hqj]at hj;cases hj
   |some q=>
   rw[hqj]at hj he;cases hj;cases he;exact⟨_,UO (Qa qt) qt,rfl,Kk qt UE (show oIx (UV q) (.int 0)=O (.int (q.1:Nat))from rfl),_,_,_,rfl⟩
  let SU:Option Sl:=O (.own (U.map int))
  refine UZ (Z1:=[S0,S1,S2,S3,S4,SV,S6,S7,S8,S9,SU,qU]) (Zt (E7 (Z7 (Zs (UB qt) YC) hc2) (by rw[List.all_map,Q2];exact λ_ _=>rfl)) (Qa qt) qt) ?_
  let pH:D->Bool:=λd=>match d with | .int t=>decide (ws.getD t.toNat qu=o) && !(U.contains t)|_=>qw
  let N:qI:=(Uf ws.length).filter λi=>pH (.int (0+(i:Int)))
  have hN:∀i∈N,i<ws.length:=λi hi=>Jf.mp (J0.mp hi).1
  have hc3:Ks (gN 12) (ZS (UD oEq (UK 1 (Uv 12)) (Uv 9)) (K1 Y3 12 (Uv 10))) (Uv 12) (Zk 0 ws.length) (K2 [S0,S1,S2,S3,S4,SV,S6,S7,S8,S9,SU,qU]++Ug 1 qu) []=O ((N.map λi:Nat=>(i:Int)).map int):=by
   rw[YD pH (λd=>d) (λZ=>∃y11 x,Z=[S0,S1,S2,S3,S4,pb (.list (V.map UV)),S6,S7,S8,S9,pb (.list (U.map int)),y11,x])]
   .rw[Q7,List.map_id',Zk,List.filter_map,Jd]
    show O (List.map _ (List.filter _ (Uf ((ws.length:Int)-0).toNat)))=_;rw[Int.sub_zero,Q9]
    congr 1
    refine List.map_congr_left λi _=>?_;show int (0+(i:Int))=.int (i:Int);rw[JR]
   .rintro d hm Z ⟨y11,x,rfl⟩
    obtain⟨i,hi⟩:=List.mem_iff_getElem?.mp hm;obtain⟨rfl,jY⟩:=Ws hi;rw[JR];have hiw:i<ws.length:=by omega
    have hw':ws[i]?=O ws[i]:=Qe hiw;have hix:oIx (Ku ws) (.int ((i:Nat):Int))=O (UQ ws[i]):=KS (by rw[Qi,hw'];rfl)
    have hp:pH (.int (i:Int))=(decide (ws[i]=o) && !(U.contains (i:Int))):=by
     show(decide (ws.getD ((i:Int)).toNat qu=o)&&_)=_
     rw[Q9,Fy hw']
    refine⟨_,UO (Qa qt) qt,?_,λ_=>UB qt,_,_,rfl⟩;rw[hp];exact SY (UM (Kk qt (UB qt) hix) (UB qt) PK) λ_=>Zd qt (UB qt) (by unfold Y3;rw[FG];rfl)
   .exact⟨_,qu,rfl⟩
   .rw[Xr,QM];omega
  let SH:Option Sl:=O (.own ((N.map λi:Nat=>(i:Int)).map int))
  let R:Uw:=[S0,S1,S2,S3,S4,SV,S6,S7,S8,S9,SU,SH]
  refine UZ (Z1:=R) (Zt (Sf (Wq (Uz (Kt qt jO) UF) (Wt (by omega) (by omega))) hc3 (by rw[List.all_map,Q2];exact λ_ _=>rfl)) (Qa qt) qt) ?_;apply U1;refine UT (b:=isNon (UQ o) || ((N.map λi:Nat=>(i:Int)).isEmpty || decide (z2<9))) (Z1:=R) (TQ (Ko (k:=isNon) (UB qt)) λ_=>TQ (Nx qt (Kc UF (Qa qt)) qt Hy) λ_=>UM (Kk qt (UM UE (UM UE (UB qt) (WN (by decide) (by decide))) ZE) hd2) UE Oa) (λz=>U3 (Yg qt qt) (KF (RA (KF ⟨_,rfl,V,rfl,(λe=>by rw[e]at hVl;cases hVl),by omega,hV⟩)))) λz=>Ke (Kd ?_)
  rw[JP,JP]at z;have hN0:N.length≠0:=λe=>by rw[List.length_eq_zero_iff.mp e]at z;cases z.2.1
  have hn0:0<=z2 % (N.length:Int):=JL _ (by omega);have hn1:z2 % (N.length:Int)<N.length:=JA _ (by omega);obtain⟨i,hi⟩:∃i:Nat,z2 % (N.length:Int)=i:=⟨(z2 % (N.length:Int)).toNat,by omega⟩
  have jY:i<N.length:=by omega
  have hixN:oIx (.list ((N.map λi:Nat=>(i:Int)).map int)) (.int (z2 % (N.length:Int)))=O (.int ((N[i]:Nat):Int)):=by rw[hi];exact KS (by rw[Qi,Qi,Qe jY];rfl)
  refine Kz (Kr (SZ qt (UM (Kk qt (UM UE (UM UE (UB qt) (WN (by decide) (by decide))) ZE) hd2) (OV qt) (by rw[Qd,Qd];exact YX (by omega))) qt hixN) (Qa qt) qt) (Ye ⟨V,N[i],S7,S8,S9,SU,SH,rfl,hVl,hN _ (Jl jY),hV⟩)
 case hend=>rintro Z ⟨W,a,x7,x8,x9,qV,qU,rfl,j8,ha,hW⟩;rw[Xr]at j8;have j8:W.length=7:=j8;exact Kd (U3 (Yg rfl rfl) ⟨_,rfl,W,rfl,(λe=>by rw[e]at j8;cases j8),by omega,hW⟩)
end
section
variable{cs:qy}{ls:L3}{ws:LO}
theorem Fx{i:Nat}{x:Str}{s t:SM}{Z Z1:Uw}{d d2:D}(h1:s Z=.ex Z1 d)(h2:Vt x d=qv)(h3:i<Z1.length)(h4:t (Z1.set i (O (.pub d)))=.rt d2):Y0 i x s t Z=.rt d2:=by unfold Y0;rw[h1];dsimp only;rw[if_pos ⟨h2,h3⟩,h4]
theorem Oh{x:D}{r:qx}:DL.cutD (x::r) (O 1) qu=r:=by
 unfold DL.cutD;have e1:HT.sIx (x::r).length 0 (O 1)=1:=by show HT.sIx (r.length+1) 0 (O 1)=1;unfold HT.sIx;simp
 have e2:HT.sIx (x::r).length (x::r).length qu=r.length+1:=rfl;rw[e1,e2];show List.take (r.length+1-1) r=r;rw[Nat.add_sub_cancel,List.take_length]
theorem PF{p:D->Bool}:∀{xs:qx}{k:Nat},(∀x∈xs,p x=qv)->fb p k xs=qu
 |[],_,_=>rfl
 |x::r,k,h=>by rw[fb,Qo (h x Qp)];exact PF λy hy=>h y (Qu _ hy)
theorem F4(g:Good cs ls):KZ (.list (cs.map int))=qu:=by
 unfold KZ;dsimp only;rw[Qd,Qo ⟨g.c1,g.c6⟩,PF];intro x hx;obtain⟨c,hc,rfl⟩:=QF.mp hx;have:=g.c7 c hc
 show(decide (0<=c)&&decide (c<8))=qv
 rw[QB this.1,QB this.2];rfl
theorem WO(g:Good cs ls){l:D}:K8 (.tuple [.list (cs.map int),l])=K9 cs.length l:=by rw[VF,F4 g];dsimp only;rw[Qd]
theorem Th{n:Int}{x:D}{r:qx}(h:ZA n x=qw)(hl:r.length<7):K9 n (.list (x::r))=O (("lists" : Str),int 0):=by unfold K9;dsimp only;rw[QC,Qo ⟨by omega,by omega⟩,fb,Qy (by rw[h];decide)];rfl
theorem RY{x:D}{r:qx}(h:Kb 8 x=qw)(hl:r.length<6):KZ (.list (x::r))=O (("copies" : Str),int 0):=by unfold KZ;dsimp only;rw[QC,Qo ⟨by omega,by omega⟩,fb,Qy (by rw[h];decide)];rfl
theorem DQ(g:Good cs ls){rs:List qy}(h:rs∈ls):Zh (U8 rs):=λys e xs hx=>by
 have gr:=g.rk rs h;have e:rs.map Kj=ys:=by injection e
 rw[←e]at hx;obtain⟨r,hr,e2⟩:=QF.mp hx;have e2:r.map int=xs:=by injection e2
 rw[←e2,Qd];have h1:=Tf gr;have h2:r.length<=rs.flatten.length:=(List.sublist_flatten_of_mem hr).length_le;have:=g.c6;omega
theorem Tg{c x:D}{r:qx}(hx:Zh x)(hr:∀y∈r,Zh y):ZB (.tuple [c,.list (x::r)]):=λc' jA e _ y hy=>by
 injection e with e;injection e with _ e;injection e with e;injection e with e;rw[←e]at hy;rcases QL.mp hy with rfl|hy
 .exact hx
 .exact hr y hy
theorem VN{c:D}{r:qx}(hr:∀y∈r,Zh y):ZB (.tuple [c,.list r]):=λc' jA e _ y hy=>by injection e with e;injection e with _ e;injection e with e;injection e with e;rw[←e]at hy;exact hr y hy
theorem Se{rs:qx}(h:∀xs,.list xs∈rs->xs.length<=700):Zh (.list rs):=λys e xs hx=>by injection e with e;rw[←e]at hx;exact h xs hx
def Y8(cs:qy)(ls:L3):qx:=
 let C:D:=.list (cs.map int)
 let L:D:=.list (ls.map U8)
 let C1:=(cs.map int).tail
 let L1:=(ls.map U8).tail
 [.none,.tuple [C],.list [C,L],.tuple [C,L,.int 0],.tuple [.list [],L],.tuple [C,.list []],.tuple [.tuple (cs.map int),L],.tuple [.list (.bool true::C1),L],.tuple [.list (.int (-1)::C1),L],.tuple [.list (.int 8::C1),L],
  .tuple [C,.list (.none::ls.map U8)],.tuple [C,.list (.list [.list []]::L1)],.tuple [C,.list (.list [.list [.int 0,.int 0]]::L1)],.tuple [C,.list (.list [.list [.int cs.length]]::L1)],.tuple [C,.list (.list [.int 0]::L1)],.tuple [C,.tuple (ls.map U8)]]
def plcs:List (Str×D):=[("wishes", .none),("wishes", .none),("wishes", .none),("wishes", .none),("copies", .none),("lists", .none),("copies", .none),("copies", .int 0),("copies", .int 0),("copies", .int 0),("lists", .int 0),("lists", .int 0),("lists", .int 0),("lists", .int 0),("lists", .int 0),("lists", .none)]
def KB(m k:Nat):Str×D:=if k=10/\m=7 then("lists", .none)else plcs.getD k ("", .none)
theorem F3(g:Good cs ls){k:Nat}{d:D}(h:(Y8 cs ls)[k]?=O d):k<16/\ZB d/\K8 d=O (KB ls.length k):=by
 have l7:=g.l7;have l1:=g.l1;have c6:=g.c6;have c1:=g.c1;have hk:k<16:=(Ql.mp h).1;refine⟨hk,?_⟩;have hC1:((cs.map int).tail).length<6:=by rw[List.length_tail,Qd];omega
 have hL1:((ls.map U8).tail).length<7:=by rw[List.length_tail,Qd];omega
 have hL:∀y∈ls.map U8,Zh y:=λy hy=>by obtain⟨rs,hrs,rfl⟩:=QF.mp hy;exact DQ g hrs
 have hT:∀y∈(ls.map U8).tail,Zh y:=λy hy=>hL y (List.mem_of_mem_tail hy);have no:∀{x:D},(∀c l,x≠.tuple [c,.list l])->ZB x:=λh c l e=>absurd e (h c l);have n0:Zh .none:=λ_ e=>by cases e
 have pl:∀{j:Nat},j≠10->KB ls.length j=plcs.getD j ("", .none):=λh=>Qy λe=>h e.1
 have hks:k=0∨k=1∨k=2∨k=3∨k=4∨k=5∨k=6∨k=7∨k=8∨k=9∨k=10∨k=11∨k=12∨k=13∨k=14∨k=15:=by omega
 rcases hks with rfl|rfl|rfl|rfl|rfl|rfl|rfl|rfl|rfl|rfl|rfl|rfl|rfl|rfl|rfl|rfl<;>cases h
 .exact⟨no λ_ _ e=>(by cases e),rfl⟩
 .exact⟨no λ_ _ e=>(by injection e with e;injection e with _ e;cases e),rfl⟩
 .exact⟨no λ_ _ e=>(by cases e),rfl⟩
 .exact⟨no λ_ _ e=>(by injection e with e;injection e with _ e;injection e with _ e;cases e),rfl⟩
 .exact⟨VN hL,rfl⟩
 .exact⟨VN λ_ h=>(by cases h),WO g⟩
 .exact⟨VN hL,rfl⟩
 .exact⟨VN hL,by rw[VF,RY qt hC1];rfl⟩
 .exact⟨VN hL,by rw[VF,RY qt hC1];rfl⟩
 .exact⟨VN hL,by rw[VF,RY qt hC1];rfl⟩
 .refine⟨Tg n0 hL,?_⟩
  rw[WO g];by_cases h7:ls.length=7
  .unfold KB
   rw[Qo ⟨rfl,h7⟩];unfold K9;dsimp only;rw[Qy (by rw[QC,Qd];omega)]
  .unfold KB
   rw[Qy λe=>h7 e.2];exact Th qt (by rw[Qd];omega)
 .exact⟨Tg (Se λxs hx=>(by have e:=QW.mp hx;injection e with e;rw[e];decide)) hT,(WO g).trans (Th qt hL1)⟩
 .refine⟨Tg (Se λxs hx=>(by have e:=QW.mp hx;injection e with e;rw[e];decide)) hT,(WO g).trans (Th ?_ hL1)⟩
  rw[VG];have:decide (flI [.list [.int 0,.int 0]]).Nodup=qw:=by decide
  rw[this,JB,JB]
 .refine⟨Tg (Se λxs hx=>(by have e:=QW.mp hx;injection e with e;rw[e];exact Qa qt)) hT,(WO g).trans (Th ?_ hL1)⟩
  rw[VG]
  have:([Uh [.int cs.length]].all (rkB cs.length))=qw:=by
   show((((decide ((0:Int)<=cs.length)&&decide ((cs.length:Int)<cs.length))&&qv))&&qv)=qw
   rw[Qs (Int.lt_irrefl _),JB];rfl
  rw[this,JV,JB]
 .exact⟨Tg (Se λxs hx=>(by cases QW.mp hx)) hT,(WO g).trans (Th qt hL1)⟩
 .exact⟨no λ_ _ e=>(by injection e with e;injection e with _ e;injection e with e;cases e),WO g⟩
theorem AA(g:Good cs ls){k:Nat}(hk:k<16):∃d,(Y8 cs ls)[k]?=O d/\X9 [Ki cs ls,.int k]=O d:=by
 have l7:=g.l7;have l1:=g.l1;have c6:=g.c6;have c1:=g.c1;have hk':k<(Y8 cs ls).length:=hk;refine⟨(Y8 cs ls)[k],Qe hk',?_⟩
 obtain⟨c0,jP,rfl⟩:∃c r,cs=c::r:=by
  cases cs with
  |nil=>exact absurd c1 (by decide)
  |cons c r=>exact⟨c,r,rfl⟩
 obtain⟨r0,jA,rfl⟩:∃c r,ls=c::r:=by
  cases ls with
  |nil=>exact absurd l1 (by decide)
  |cons c r=>exact⟨c,r,rfl⟩
 let S0:Option Sl:=O (.pub (Ki (c0::jP) (r0::jA)))
 let S1:Option Sl:=O (.pub (.int k))
 let C:D:=.list ((c0::jP).map int)
 let L:D:=.list ((r0::jA).map U8)
 let S2:Option Sl:=O (.pub C)
 let S3:Option Sl:=O (.pub L)
 refine Za (Z:=[S0,S1,qu,qu,qu]) qt ?_;unfold WY;refine UZ (Z1:=[S0,S1,S2,S3,qu]) (Vw (UB qt) (KN qt (U7 (UO (Qa qt) qt) (U7 (UO (Qa qt) qt) KO)))) ?_
 let B:=Y8 (c0::jP) (r0::jA)
 have eC:∀{x:Option Sl},K0 (Uv 2) (UH (UA (.int 1)) λx=>UG (ZZ x)) (UA qu) [S0,S1,S2,S3,x]=.ok (.list (jP.map int)) [S0,S1,S2,S3,x]:=T5 (UB qt) (WG UE) UE (Sg.trans (JO (λl=>O (Uh l)) Oh));have eL:∀{x:Option Sl},K0 (Uv 3) (UH (UA (.int 1)) λx=>UG (ZZ x)) (UA qu) [S0,S1,S2,S3,x]=.ok (.list (jA.map U8)) [S0,S1,S2,S3,x]:=T5 (UB qt) (WG UE) UE (Sg.trans (JO (λl=>O (Uh l)) Oh));have hc':jP.length<=5:=by rw[QC]at c6;omega
 have hl':jA.length<=6:=by rw[QC]at l7;omega
 have aC:∀{x:D},UN (.list [x]) (.list (jP.map int))=O (.list (x::jP.map int)):=ZJ (by rw[Qd];show 1+_<=_;omega);have aL:∀{x:D},UN (.list [x]) (.list (jA.map U8))=O (.list (x::jA.map U8)):=ZJ (by rw[Qd];show 1+_<=_;omega);have aL0:UN (.list [.none]) L=O (.list (.none::(r0::jA).map U8)):=ZJ (by rw[Qd];show 1+_<=_;omega);refine UZ (Z1:=[S0,S1,S2,S3,O (.own (B.take 7))]) (Zt (Xp (Uz UE (Uz (KH (Uz (UB qt) UF) (Qa qt)) (Uz (Kc (Uz (UB qt) (Uz (UB qt) UF)) (Qa qt)) (Uz (KH (Uz (UB qt) (Uz (UB qt) (Uz UE UF))) (Qa qt)) (Uz (KH (Uz (Kc UF (Qa qt)) (Uz (UB qt) UF)) (Qa qt)) (Uz (KH (Uz (UB qt) (Uz (Kc UF (Qa qt)) UF)) (Qa qt)) (Uz (KH (Uz (Zw (Uz (UB qt) UF) qt) (Uz (UB qt) UF)) (Qa qt)) UF))))))) (Qa qt)) (Qa qt) qt) ?_;refine UZ (Z1:=[S0,S1,S2,S3,pb (.list (B.take 10))]) (Kr (UM (Yg qt qt) (Kc (Uz (KH (Uz (UM (Kc (Uz UE UF) (Qa qt)) eC aC) (Uz (UB qt) UF)) (Qa qt)) (Uz (KH (Uz (UM (Kc (Uz (Ta UE) UF) (Qa qt)) eC aC) (Uz (UB qt) UF)) (Qa qt)) (Uz (KH (Uz (UM (Kc (Uz UE UF) (Qa qt)) eC aC) (Uz (UB qt) UF)) (Qa qt)) UF))) (Qa qt)) (ZJ (Qa qt))) (Qa qt) qt) ?_;refine UZ (Z1:=[S0,S1,S2,S3,pb (.list (B.take 13))]) (Kr (UM (UB qt) (Kc (Uz (KH (Uz (UB qt) (Uz (UM (Kc (Uz UE UF) (Qa qt)) (UB qt) aL0) UF)) (Qa qt)) (Uz (KH (Uz (UB qt) (Uz (UM (Kc (Uz (Kc (Uz (Kc UF (Qa qt)) UF) (Qa qt)) UF) (Qa qt)) eL aL) UF)) (Qa qt)) (Uz (KH (Uz (UB qt) (Uz (UM (Kc (Uz (Kc (Uz (Kc (Uz UE (Uz UE UF)) (Qa qt)) UF) (Qa qt)) UF) (Qa qt)) eL aL) UF)) (Qa qt)) UF))) (Qa qt)) (ZJ (Qa qt))) (Qa qt) qt) ?_;have hlc:U9 [C]=O (.int (c0::jP).length):=by unfold C;rw[KM,Qd]
 refine UZ (Z1:=[S0,S1,S2,S3,pb (.list B)]) (Kr (UM (UB qt) (Kc (Uz (KH (Uz (UB qt) (Uz (UM (Kc (Uz (Kc (Uz (Kc (Uz (Kt qt hlc) UF) (Qa qt)) UF) (Qa qt)) UF) (Qa qt)) eL aL) UF)) (Qa qt)) (Uz (KH (Uz (UB qt) (Uz (UM (Kc (Uz (Kc (Uz UE UF) (Qa qt)) UF) (Qa qt)) eL aL) UF)) (Qa qt)) (Uz (KH (Uz (UB qt) (Uz (Zw (Uz (UB qt) UF) qt) UF)) (Qa qt)) UF))) (Qa qt)) (ZJ (Qa qt))) (Qa qt) qt) ?_;have hm:((k:Nat):Int) % 16=(k:Nat):=Int.emod_eq_of_lt (by omega) (by omega);refine U3 (Kk qt (UM (UB qt) UE (by rw[YX (by decide),hm])) (show oIx (.list B) (.int ((k:Nat):Int))=O _ from KS (Qe hk'))) qt
theorem Hx(x y:D):YK [exD "NoWishes" [x,y]]=O (.str "wishes"):=by kernel_rfl
theorem Hw(x:D):YK [exD "NoAim" [x]]=O (.str "aim"):=by kernel_rfl
theorem Dk{m k:Nat}(hk:k<16):Xa [exD "NoWishes" [.str (KB m k).1,(KB m k).2]]=O (.tuple [.str (KB m k).1,(KB m k).2])/\oNe (.tuple [.str (KB m k).1,(KB m k).2]) (.tuple [.str (KB m k).1,(KB m k).2])=O qw:=by
 have key:∀q∈(("lists" : Str),PyData.none)::plcs,Xa [exD "NoWishes" [.str q.1,q.2]]=O (.tuple [.str q.1,q.2])/\oNe (.tuple [.str q.1,q.2]) (.tuple [.str q.1,q.2])=O qw:=by intro q hq;unfold plcs at hq;simp only[QL,List.not_mem_nil,or_false]at hq;rcases hq with rfl|rfl|rfl|rfl|rfl|rfl|rfl|rfl|rfl|rfl|rfl|rfl|rfl|rfl|rfl|rfl|rfl<;>exact⟨by kernel_rfl,by kernel_rfl⟩
 refine key _ ?_;unfold KB;split
 .exact Qp
 .have hl:k<plcs.length:=hk
  rw[QR,Qe hl];exact Qu _ (Jl hl)
def plD(q:Str×D):D:=.tuple [.str q.1,q.2]
theorem DP(g:Good cs ls){k:Nat}(hk:k<16):X8 [Ki cs ls,.int k]=O (plD (KB ls.length k)):=by
 let S0:Option Sl:=O (.pub (Ki cs ls))
 let S1:Option Sl:=O (.pub (.int k))
 refine Za (Z:=[S0,S1,qu]) qt ?_;unfold WX;have mul:∀{x:D}{n:Nat},n<=1000->U0 (.list [x]) (.int n)=O (.list (Ug n x)):=λh=>HC h;refine UZ (Z1:=[S0,S1,pb (.list ((plcs.take 7).map plD))]) (Kr (UM (UM (Kc (Uz (KH (Uz UE (Uz UE UF)) (Qa qt)) UF) (Qa qt)) UE (mul (n:=4) (by decide))) (Kc (Uz (KH (Uz UE (Uz UE UF)) (Qa qt)) (Uz (KH (Uz UE (Uz UE UF)) (Qa qt)) (Uz (KH (Uz UE (Uz UE UF)) (Qa qt)) UF))) (Qa qt)) (ZJ (Qa qt))) (Qa qt) qt) ?_
 refine UZ (Z1:=[S0,S1,pb (.list (plcs.map plD))]) (Kr (UM (UM (UM (UB qt) (UM (Kc (Uz (KH (Uz UE (Uz UE UF)) (Qa qt)) UF) (Qa qt)) UE (mul (n:=3) (by decide))) (ZJ (Qa qt))) (UM (Kc (Uz (KH (Uz UE (Uz UE UF)) (Qa qt)) UF) (Qa qt)) UE (mul (n:=5) (by decide))) (ZJ (Qa qt))) (Kc (Uz (KH (Uz UE (Uz UE UF)) (Qa qt)) UF) (Qa qt)) (ZJ (Qa qt))) (Qa qt) qt) ?_;have kB:U9 [.list (ls.map U8)]=O (.int ls.length):=by rw[KM,Qd]
 apply U1;refine UT (b:=decide (((k:Nat):Int)=10)&&decide (((ls.length:Nat):Int)=7)) (Z1:=[S0,S1,pb (.list (plcs.map plD))]) (SY (Zd qt UE Zn) λ_=>UM (Zw (Uz (Kk qt UE Pf) UF) kB) UE Zn) (λz=>U3 (KH (Uz UE (Uz UE UF)) (Qa qt)) (KF ?_)) λz=>Ke (Kd ?_)
 .rw[Qx,QU,QU]at z
  unfold KB;rw[Qo ⟨by omega,by omega⟩];rfl
 .have hl:k<plcs.length:=hk
  have e:KB ls.length k=plcs[k]:=by
   unfold KB;rw[Qy,QR,Qe hl]
   .rfl
   .rintro⟨h1,h2⟩
    rw[h1,h2]at z;cases z
  rw[e];exact U3 (Kk qt (UB qt) (KS (by rw[Qi,Qe hl];rfl))) qt
section
variable{d a dl w:D}{p:Str}{n:D}
theorem DO{j:Nat}(hj:j<4)(hs:ZB d)(h:K8 d=O (p,n)):VS [.int j,d,a,dl,w]=O (.exc (exD "NoWishes" [.str p,n])):=by
 let E:D:=exD "NoWishes" [.str p,n]
 have hC:Sz [d,dl]=O (.exc E):=Yv (Z:=[pb d,pb dl]) qt (RZ hs h qt);have hI:VI [d,dl,w]=O (.exc E):=by refine Yv (Z:=[pb d,pb dl,pb w,qu,qu]) qt ?_;unfold RM;apply U1;exact Kz (YA (ZO (Uz (UB qt) (Uz (UB qt) UF)) qt hC)) (Zo ⟨rfl,rfl⟩)
 have hD:T7 [d,dl,w]=O (.exc E):=by refine Yv (Z:=[pb d,pb dl,pb w]) qt ?_;unfold Ru;apply U1;exact Kz (YA (ZO (Uz (UB qt) (Uz (UB qt) (Uz (UB qt) UF))) qt hI)) (Zo ⟨rfl,rfl⟩)
 have hG:Ti [d,a,dl,w]=O (.exc E):=Yv (Z:=[pb d,pb a,pb dl,pb w]) qt (NA (Fz hs h) qt qt qt);have hB:SA [d,dl,dl]=O (.exc E):=Yv (Z:=[pb d,pb dl,pb dl,qu,qu,qu,qu,qu,qu,qu,qu]) qt (RZ hs h qt)
 let Z0:Uw:=[pb (.int j),pb d,pb a,pb dl,pb w]
 refine Yv (Z:=Z0) qt ?_;unfold Sy;have hj:j=0∨j=1∨j=2∨j=3:=by omega
 rcases hj with rfl|rfl|rfl|rfl
 .apply U1
  exact UT (b:=qv) (Z1:=Z0) (Zd qt UE Zn) (λ_=>Kz (YA (ZO (Uz (UB qt) (Uz (UB qt) (Uz (UB qt) UF))) qt hI)) (Zo ⟨rfl,rfl⟩)) λz=>by cases z
 .apply U1
  refine UT (b:=qw) (Z1:=Z0) (Zd qt UE Zn) (λz=>by cases z) λ_=>Ke (Kd ?_)
  apply U1;exact UT (b:=qv) (Z1:=Z0) (Zd qt UE Zn) (λ_=>Kz (YA (ZO (Uz (UB qt) (Uz (UB qt) (Uz (UB qt) UF))) qt hD)) (Zo ⟨rfl,rfl⟩)) λz=>by cases z
 .apply U1
  refine UT (b:=qw) (Z1:=Z0) (Zd qt UE Zn) (λz=>by cases z) λ_=>Ke (Kd ?_)
  apply U1;refine UT (b:=qw) (Z1:=Z0) (Zd qt UE Zn) (λz=>by cases z) λ_=>Ke (Kd ?_)
  apply U1;exact UT (b:=qv) (Z1:=Z0) (Zd qt UE Zn) (λ_=>Kz (YA (ZO (Uz (UB qt) (Uz (UB qt) (Uz (UB qt) (Uz (UB qt) UF)))) qt hG)) (Zo ⟨rfl,rfl⟩)) λz=>by cases z
 .apply U1
  refine UT (b:=qw) (Z1:=Z0) (Zd qt UE Zn) (λz=>by cases z) λ_=>Ke (Kd ?_)
  apply U1;refine UT (b:=qw) (Z1:=Z0) (Zd qt UE Zn) (λz=>by cases z) λ_=>Ke (Kd ?_)
  apply U1;refine UT (b:=qw) (Z1:=Z0) (Zd qt UE Zn) (λz=>by cases z) λ_=>Ke (Kd ?_)
  exact Kz (YA (ZO (Uz (UB qt) (Uz (UB qt) (Uz (UB qt) UF))) qt hB)) ⟨rfl,rfl⟩
theorem DN(g:Good cs ls)(hs:SmA a){q:Str}(h:Yd cs.length ls.length a=O q):VS [.int 2,Ki cs ls,a,dl,w]=O (.exc (exD "NoAim" [.str q])):=by
 have hA:=Do g hs;rw[h]at hA;have hG:Ti [Ki cs ls,a,dl,w]=O (.exc (exD "NoAim" [.str q])):=Yv (Z:=[O (.pub (Ki cs ls)),O (.pub a),O (.pub dl),O (.pub w)]) qt (NA hA qt qt qt)
 let Z0:Uw:=[pb (.int 2),pb (Ki cs ls),pb a,pb dl,pb w]
 refine Yv (Z:=Z0) qt ?_;unfold Sy;apply U1;refine UT (b:=qw) (Z1:=Z0) (Zd qt UE Zn) (λz=>by cases z) λ_=>Ke (Kd ?_)
 apply U1;refine UT (b:=qw) (Z1:=Z0) (Zd qt UE Zn) (λz=>by cases z) λ_=>Ke (Kd ?_)
 apply U1;exact UT (b:=qv) (Z1:=Z0) (Zd qt UE Zn) (λ_=>Kz (YA (ZO (Uz (UB qt) (Uz (UB qt) (Uz (UB qt) (Uz (UB qt) UF)))) qt hG)) (Zo ⟨rfl,rfl⟩)) λz=>by cases z
theorem Nz{j:Int}{E:D}(h:VS [.int j,d,a,dl,w]=O (.exc E))(hu:Vt "DealError" E=qv):Xb [.int j,d,a,dl,w]=O E:=by refine Za (Z:=[pb (.int j),pb d,pb a,pb dl,pb w,qu]) qt ?_;unfold WZ;apply U1;exact Kz (Fx (YA (ZO (Uz (UB qt) (Uz (UB qt) (Uz (UB qt) (Uz (UB qt) (Uz (UB qt) UF))))) qt h)) hu (Qa qt) qt) (KF qt)
end
theorem NR(hl:ws.length<=7):YM [Ku ws,Ku ws]=O (.list []):=by
 let S0:Option Sl:=O (.pub (Ku ws))
 refine Za (Z:=[S0,S0]) qt ?_;unfold W7
 have hc:Ks (gT 2 (gNC (gN 2) (gNC (gN 3) (gN0)))) (K1 oNe 3 (UK 1 (Uv 2))) (Uv 2) (Zp 0 (ws.map UQ)) (U5 [S0,S0]++Ug 2 qu) []=O []:=by
  rw[YD (λ_=>qw) (λd=>d) (λZ=>∃x y,Z=[S0,S0,x,y]),List.filter_eq_nil_iff.mpr (λ_ _ h=>by cases h)]
  .rfl
  .rintro d hm Z ⟨x,y,rfl⟩
   obtain⟨j,hj⟩:=List.mem_iff_getElem?.mp hm;obtain⟨z,hz,rfl⟩:=WK hj;rw[Qi]at hz;cases hw:ws[j]? with
   |none=>rw[hw]at hz;cases hz
   |some o=>
   rw[hw]at hz;cases hz;rw[JK];have hix:oIx (Ku ws) (.int ((j:Nat):Int))=O (UQ o):=KS (by rw[Qi,hw];rfl);exact⟨_,KN qt (U7 (UO (Qa qt) qt) (U7 (UO (Qa qt) qt) KO)),Zd qt (Kk qt (UB qt) hix) (by rw[TY,QB qt];rfl),(λz=>by cases z),_,_,rfl⟩
  .exact⟨qu,qu,rfl⟩
  .rw[XH,Qd,QM];omega
 exact U3 (Ko (Z7 (WH (Uz (UB qt) UF) WM) hc)) qt
theorem qc{n:Nat}(hn:n<=6)(hl:ws.length<=7):We [.int n,Ku ws,Ku ws]=O (.dict []):=by
 let S0:Option Sl:=O (.pub (.int n))
 let S1:Option Sl:=O (.pub (Ku ws))
 let S3:Option Sl:=O (.pub (.list []))
 let S4:Option Sl:=O (.pub (.dict []))
 refine Za (Z:=[S0,S1,S1,qu,qu,qu,qu,qu,qu,qu]) qt ?_;unfold W6;refine UZ (Z1:=[S0,S1,S1,S3,qu,qu,qu,qu,qu,qu]) (Kr (Kf (Uz (UB qt) (Uz (UB qt) UF)) qt (NR hl)) (Qa qt) qt) ?_;refine UZ (Z1:=[S0,S1,S1,S3,S4,qu,qu,qu,qu,qu]) (Kr UE (Qa qt) qt) ?_;apply U1;apply Yy (λ_ Z=>∃x5 x6 x7,Z=[S0,S1,S1,S3,S4,x5,x6,x7,qu,qu])
 case h1=>exact Wq (Uz (UB qt) UF) (Wt (by omega) (by omega))
 case h0=>exact⟨_,_,_,rfl⟩
 case hst=>
  rintro i d Z hi ⟨x5,x6,x7,rfl⟩;refine⟨_,UO (Qa qt) qt,?_⟩;unfold OE;refine UZ (Zt (Z7 (Zs (UB qt) YC) qt) (Qa qt) qt) ?_;refine UZ (Zt (Z7 (Zs (UB qt) YC) qt) (Qa qt) qt) ?_;apply Yy (ds:=[]) (λ_ Z=>∃x5 x6 x7,Z=[S0,S1,S1,S3,S4,x5,x6,x7,qu,qu])
  case h1=>exact L9 (Uz (Yg qt qt) (Uz (Yg qt qt) UF)) qt
  case h0=>exact⟨_,_,_,rfl⟩
  case hst=>intro i d Z h;cases h
  case hend=>rintro Z ⟨x5,x6,x7,rfl⟩;exact Ye ⟨_,_,_,rfl⟩
 case hend=>rintro Z ⟨x5,x6,x7,rfl⟩;exact Kd (U3 (UB rfl) rfl)
theorem AU(g:Good cs ls)(hl:ws.length=ls.length):Wd [Ki cs ls,Ku ws,Ku ws]=O (.list []):=by
 have l7:=g.l7;have c6:=g.c6
 let S0:Option Sl:=O (.pub (Ki cs ls))
 let S1:Option Sl:=O (.pub (Ku ws))
 let S3:Option Sl:=O (.pub (.dict []))
 let N0:Option Sl:=O (.own [])
 let P0:Option Sl:=O (.pub (.list []))
 have hlc:U9 [.list (cs.map int)]=O (.int cs.length):=by rw[KM,Qd]
 refine Za (Z:=[S0,S1,S1,qu,qu,qu,qu,qu,qu,qu,qu]) qt ?_;unfold W5;refine UZ (Z1:=[S0,S1,S1,qu,qu,qu,qu,qu,qu,qu,qu]) (T9 (Kf (Uz (UB qt) UF) qt (NG g))) ?_;refine UZ (Z1:=[S0,S1,S1,S3,qu,qu,qu,qu,qu,qu,qu]) (Kr (Kf (Uz (Zw (Uz (Kk qt UE Pg) UF) hlc) (Uz (UB qt) (Uz (UB qt) UF))) qt (qc c6 (by omega))) (Qa qt) qt) ?_;refine UZ (Z1:=[S0,S1,S1,S3,N0,qu,qu,qu,qu,qu,qu]) (Zt (CH (UB qt) qt) (Qa qt) qt) ?_;refine UZ (Z1:=[S0,S1,S1,S3,N0,P0,qu,qu,qu,qu,qu]) (Kr (Kf (Uz (UB qt) (Uz (UB qt) UF)) qt (NR (by omega))) (Qa qt) qt) ?_;refine UZ (Z1:=[S0,S1,S1,S3,N0,P0,P0,qu,qu,qu,qu]) (Kr (UM (Ko (Sf (Zs (UB qt) YC) qt qt)) (Ko (Sf (Zs (UB qt) YC) qt qt)) (ZJ (Qa qt))) (Qa qt) qt) ?_;refine UZ (Z1:=[S0,S1,S1,S3,N0,P0,P0,N0,qu,qu,qu]) (Zt (Xp UF (Qa qt)) (Qa qt) qt) ?_;refine UZ (Z1:=[S0,S1,S1,S3,N0,P0,P0,N0,N0,qu,qu]) (Zt (Xp UF (Qa qt)) (Qa qt) qt) ?_;apply U1;apply Yy (ds:=[]) (λ_ Z=>Z=[S0,S1,S1,S3,N0,P0,P0,N0,N0,qu,qu])
 case h1=>exact Zs (UB qt) YC
 case h0=>rfl
 case hst=>intro i d Z h;cases h
 case hend=>rintro Z rfl;exact Kd (U3 (Yg rfl rfl) rfl)
def Y5(m:Nat):qx:=[.none,.tuple [.str "first", .none,.list []],.tuple [.str "full", .none],.list [.str "full", .none,.list []],.tuple [.str "full", .int 0,.list []],.tuple [.str "lasts", .list [],.list []],.tuple [.str "lasts", .none,.none],.tuple [.str "full", .none,.list [.int 0,.int 0]],.tuple [.str "full", .none,.list [.int m]]]
def noPs:List Str:=["aim", "order", "aim", "aim", "old", "old", "turns", "turns", "turns"]
theorem Dj(g:Good cs ls){k:Nat}{a:D}(h:(Y5 ls.length)[k]?=O a):k<9/\SmA a/\∃q,noPs[k]?=O q/\Yd cs.length ls.length a=O q:=by
 have l1:=g.l1;have hk:k<9:=(Ql.mp h).1;refine⟨hk,?_⟩;have no:∀{x:D},(∀o w t,x≠.tuple [o,w,t])->SmA x:=λh o w t e=>absurd e (h o w t)
 have yes:∀{z:Str}{w t:D},Uk z=qv->(∀xs,w=.list xs->xs.length<=700)->(∀xs,t=.list xs->xs.length<=700)->SmA (.tuple [.str z,w,t]):=λh1 h2 h3 o w' t' e=>by
  injection e with e;injection e with e1 e;injection e with e2 e;injection e with e3;subst e1 e2 e3
  exact⟨λz e=>(by injection e with e;rw[←e];exact h1),h2,h3⟩
 have nn:∀xs,PyData.none=.list xs->xs.length<=700:=λ_ e=>by cases e
 have n0:∀{l:qx},l.length<=700->∀xs,Uh l=.list xs->xs.length<=700:=λh xs e=>by injection e with e;rw[←e];exact h
 have o1:K7 (.str "full")=qv:=by decide +kernel
 have o2:K7 (.str "lasts")=qv:=by decide +kernel
 have o3:K7 (.str "first")=qw:=by decide +kernel
 have hks:k=0∨k=1∨k=2∨k=3∨k=4∨k=5∨k=6∨k=7∨k=8:=by omega
 rcases hks with rfl|rfl|rfl|rfl|rfl|rfl|rfl|rfl|rfl<;>cases h
 .exact⟨no λ_ _ _ e=>(by cases e),_,rfl,rfl⟩
 .exact⟨yes (by decide +kernel) nn (n0 (by decide)),_,rfl,by unfold Yd;dsimp only;rw[if_neg (by rw[o3];decide)]⟩
 .exact⟨no λ_ _ _ e=>(by injection e with e;injection e with _ e;injection e with _ e;cases e),_,rfl,rfl⟩
 .exact⟨no λ_ _ _ e=>(by cases e),_,rfl,rfl⟩
 .exact⟨yes (by decide +kernel) (λ_ e=>(by cases e)) (n0 (by decide)),_,rfl,by unfold Yd;dsimp only;rw[if_pos o1,if_neg (show ¬Zf ls.length cs.length (.int 0)=qv from Bool.false_ne_true)]⟩
 .refine⟨yes (by decide +kernel) (n0 (by decide)) (n0 (by decide)),_,rfl,?_⟩
  unfold Yd;dsimp only;rw[Qo o2,Qy];show ¬(decide (0=ls.length)&&qv)=qv;rw[Qs (by omega)];decide
 .exact⟨yes (by decide +kernel) nn nn,_,rfl,by unfold Yd;dsimp only;rw[if_pos o2,if_pos (show Zf ls.length cs.length .none=qv from rfl),if_neg (show ¬Yl ls.length .none=qv from Bool.false_ne_true)]⟩
 .refine⟨yes (by decide +kernel) nn (n0 (by decide)),_,rfl,?_⟩
  unfold Yd;dsimp only;rw[Qo o1,Qo (show Zf ls.length cs.length .none=qv from rfl),Qy];show ¬(_&&decide ([(0:Int),0]).Nodup)=qv;rw[show decide ([(0:Int),0]).Nodup=qw by decide,JB];decide
 .refine⟨yes (by decide +kernel) nn (n0 (Qa qt)),_,rfl,?_⟩
  unfold Yd;dsimp only;rw[Qo o1,Qo (show Zf ls.length cs.length .none=qv from rfl),Qy];show ¬(((decide ((0:Int)<=ls.length)&&decide ((ls.length:Int)<ls.length))&&qv)&&_)=qv;rw[Qs (Int.lt_irrefl _),JB];exact JJ
end
theorem Di:∀ns:qy,ns.length<=63->X7 [.list (ns.map int)]=O (.bool qv):=by
 intro ns hns
 let S0:Option Sl:=O (.pub (.list (ns.map int)))
 refine Za (Z:=[S0,qu,qu,qu,qu,qu,qu,qu,qu,qu,qu,qu,qu,qu]) qt ?_;unfold WW;obtain⟨r,hr,cs,ls,rfl,g,_⟩:=AE 6 7 5 (ns:=ns) (by omega) 0;have l7:=g.l7
 let S1:Option Sl:=O (.pub (Ki cs ls))
 refine UZ (Z1:=[S0,S1,qu,qu,qu,qu,qu,qu,qu,qu,qu,qu,qu,qu]) (Kr (Kf (Uz (UB qt) (Uz UE (Uz UE (Uz UE (Uz UE UF))))) qt hr) (Qa qt) qt) ?_;obtain⟨v8,hv8⟩:=SB ns 8 (by omega);obtain⟨r,hd0,ws,rfl,dl⟩:=B2 g v8 8
 let S2:Option Sl:=O (.pub (Ku ws))
 have jc:=dl.len;refine UZ (Z1:=[S0,S1,S2,qu,qu,qu,qu,qu,qu,qu,qu,qu,qu,qu]) (Kr (Kf (Uz (UB qt) (Uz (Kf (Uz (UB qt) (Uz UE UF)) qt hv8) (Uz UE UF))) qt hd0) (Qa qt) qt) ?_
 let am:D:=.tuple [.str "firsts", .none,.list []]
 let S3:Option Sl:=O (.pub am)
 refine UZ (Z1:=[S0,S1,S2,S3,qu,qu,qu,qu,qu,qu,qu,qu,qu,qu]) (Kr (KH (Uz UE (Uz UE (Uz (Kc UF (Qa qt)) UF))) (Qa qt)) (Qa qt) qt) ?_;obtain⟨v0,hv0⟩:=SB ns 0 (by omega);have kC:U9 [Ku ws]=O (.int ls.length):=by unfold Ku;rw[KM,Qd,jc]
 apply U1;apply Yy (λ_ Z=>∃x4 x5 x6 x7 x8 x9 qV qU je q8,Z=[S0,S1,S2,S3,x4,x5,x6,x7,x8,x9,qV,qU,je,q8])
 case h1=>exact WH (Uz (UM (Kc (Uz (Kf (Uz (UB qt) (Uz UE UF)) qt hv0) UF) (Qa qt)) (T5 (UB qt) (WG UE) (WG UE) Sg) (CQ (by omega))) UF) WM
 case h0=>exact⟨_,_,_,_,_,_,_,_,_,_,rfl⟩
 case hst=>
  rintro i d Z hi ⟨x4,x5,x6,x7,x8,x9,qV,qU,je,q8,rfl⟩;obtain⟨x,hx,rfl⟩:=WK hi;obtain⟨c,rfl⟩:=CS hx;rw[JK];refine⟨_,KN qt (U7 (UO (Qa qt) qt) (U7 (UO (Qa qt) qt) KO)),?_⟩;unfold Ov
  let S4:Option Sl:=O (.pub (.int (i:Nat)))
  let S5:Option Sl:=O (.pub (.int c))
  obtain⟨r,hnum,dg,rfl,hdl,hdb⟩:=Tq c (20+(i:Nat)) (sizes:=[16,9,4]) (by decide) (by decide)
  obtain⟨z0,z1,z2,rfl⟩:∃a b c,dg=[a,b,c]:=by
   rcases dg with _|⟨a,_|⟨b,_|⟨c,_|⟨e,r⟩⟩⟩⟩
   .cases hdl
   .cases hdl
   .cases hdl
   .exact⟨a,b,c,rfl⟩
   .cases hdl
  have b0:=hdb 0 z0 _ qt qt;have b1:=hdb 1 z1 _ qt qt;have b2:=hdb 2 z2 _ qt qt;obtain⟨k0,rfl⟩:∃k:Nat,z0=k:=⟨z0.toNat,by omega⟩
  obtain⟨k1,rfl⟩:∃k:Nat,z1=k:=⟨z1.toNat,by omega⟩
  obtain⟨k2,rfl⟩:∃k:Nat,z2=k:=⟨z2.toNat,by omega⟩
  let dg:qy:=[((k0:Nat):Int),(k1:Nat),(k2:Nat)]
  let S6:Option Sl:=O (.pub (.list (dg.map int)))
  have i0:oIx (.list (dg.map int)) (.int 0)=O (.int (k0:Nat)):=rfl;have i1:oIx (.list (dg.map int)) (.int 1)=O (.int (k1:Nat)):=rfl;have i2:oIx (.list (dg.map int)) (.int 2)=O (.int (k2:Nat)):=rfl;refine UZ (Z1:=[S0,S1,S2,S3,S4,S5,S6,x7,x8,x9,qV,qU,je,q8]) (Kr (Kf (Uz (UB qt) (Uz (UM UE (UB qt) ZE) (Uz (Kc (Uz UE (Uz UE (Uz UE UF))) (Qa qt)) UF))) qt hnum) (Qa qt) qt) ?_;have hA1:k1<(Y5 ls.length).length:=by show k1<9;omega
  obtain⟨a,ha⟩:∃a,(Y5 ls.length)[k1]?=O a:=⟨_,Qe hA1⟩
  obtain⟨hk9,hsa,q,hq,hpart⟩:=Dj g ha
  let S7:Option Sl:=O (.pub a)
  refine UZ (Z1:=[S0,S1,S2,S3,S4,S5,S6,O (.own ((Y5 ls.length).take 6)),x8,x9,qV,qU,je,q8]) (Zt (Xp (Uz UE (Uz (KH (Uz UE (Uz UE (Uz (Kc UF (Qa qt)) UF))) (Qa qt)) (Uz (KH (Uz UE (Uz UE UF)) (Qa qt)) (Uz (Kc (Uz UE (Uz UE (Uz (Kc UF (Qa qt)) UF))) (Qa qt)) (Uz (KH (Uz UE (Uz UE (Uz (Kc UF (Qa qt)) UF))) (Qa qt)) (Uz (KH (Uz UE (Uz (Kc UF (Qa qt)) (Uz (Kc UF (Qa qt)) UF))) (Qa qt)) UF)))))) (Qa qt)) (Qa qt) qt) ?_;have hixA:oIx (.list (Y5 ls.length)) (.int ((k1:Nat):Int))=O a:=KS ha;refine UZ (Z1:=[S0,S1,S2,S3,S4,S5,S6,S7,x8,x9,qV,qU,je,q8]) (Kr (UM (UM (Yg qt qt) (Kc (Uz (KH (Uz UE (Uz UE (Uz UE UF))) (Qa qt)) (Uz (KH (Uz UE (Uz UE (Uz (Kc (Uz UE (Uz UE UF)) (Qa qt)) UF))) (Qa qt)) (Uz (KH (Uz UE (Uz UE (Uz (Kc (Uz (Kt qt kC) UF) (Qa qt)) UF))) (Qa qt)) UF))) (Qa qt)) (ZJ (Qa qt))) (Kk qt UE i1) hixA) (Qa qt) qt) ?_;obtain⟨r,hch,W,rfl,kJ,hWl,hW⟩:=BY g jc c (60+(i:Nat))
  let S8:Option Sl:=O (.pub (.list (W.map UV)))
  refine UZ (Z1:=[S0,S1,S2,S3,S4,S5,S6,S7,S8,x9,qV,qU,je,q8]) (Kr (Kf (Uz (UB qt) (Uz (UB qt) (Uz (UB qt) (Uz (UM UE (UB qt) ZE) UF)))) qt hch) (Qa qt) qt) ?_
  obtain⟨od,hod⟩:∃od,oIx (.list [.list (W.map UV),.none,.list [],.tuple [.int 5]]) (.int ((k2:Nat):Int))=O od:=by
   have hl:k2<[Uh (W.map UV),.none,.list [],.tuple [.int 5]].length:=by show k2<4;omega
   exact⟨_,KS (Qe hl)⟩
  let S9:Option Sl:=O (.pub od)
  refine UZ (Z1:=[S0,S1,S2,S3,S4,S5,S6,S7,S8,S9,qV,qU,je,q8]) (Kr (UM (Kc (Uz (UB qt) (Uz UE (Uz (Kc UF (Qa qt)) (Uz (KH (Uz UE UF) (Qa qt)) UF)))) (Qa qt)) (Kk qt UE i2) hod) (Qa qt) qt) ?_;have jU:k0<16:=by omega
  obtain⟨bd,hbd,hno⟩:=AA g jU;obtain⟨_,hsm,hdue⟩:=F3 g hbd;obtain⟨jS,hne⟩:=Dk (m:=ls.length) jU
  let pl:=KB ls.length k0
  let E:D:=exD "NoWishes" [.str pl.1,pl.2]
  obtain⟨aa,haa⟩:∃aa,oIx (.list [am,a]) (.int (((i:Nat):Int) % 2))=O aa:=by
   have h0:0<=((i:Nat):Int) % 2:=JL _ (by decide);have h1:((i:Nat):Int) % 2<2:=JA _ (by decide);have:((i:Nat):Int) % 2=0∨((i:Nat):Int) % 2=1:=by omega
   rcases this with e|e<;>rw[e]<;>exact⟨_,rfl⟩
  apply U1;apply Yy (λ_ Z=>∃qV qU je,Z=[S0,S1,S2,S3,S4,S5,S6,S7,S8,S9,qV,qU,je,q8])
  case h1=>exact Wq (Uz UE UF) (Wt (by decide) (by decide))
  case h0=>exact⟨_,_,_,rfl⟩
  case hst=>
   rintro j d Z hj ⟨qV,qU,je,rfl⟩;obtain⟨rfl,hj4⟩:=Ws hj;rw[JR];refine⟨_,UO (Qa qt) qt,?_⟩;unfold Ow
   let T10:Option Sl:=O (.pub (.int (j:Nat)))
   let T11:Option Sl:=O (.pub bd)
   let T12:Option Sl:=O (.pub E)
   refine UZ (Z1:=[S0,S1,S2,S3,S4,S5,S6,S7,S8,S9,T10,T11,je,q8]) (Kr (Kf (Uz (UB qt) (Uz (Kk qt UE i0) UF)) qt hno) (Qa qt) qt) ?_;have hct:=Nz (DO (a:=aa) (dl:=Ku ws) (w:=od) (show j<4 by omega) hsm hdue) qt;refine UZ (Z1:=[S0,S1,S2,S3,S4,S5,S6,S7,S8,S9,T10,T11,T12,q8]) (Kr (Kf (Uz (UB qt) (Uz (UB qt) (Uz (UM (Kc (Uz (UB qt) (Uz (UB qt) UF)) (Qa qt)) (UM (UB qt) UE (YX (by decide))) haa) (Uz (UB qt) (Uz (UB qt) UF))))) qt hct) (Qa qt) qt) ?_;apply U1;refine UT (b:=qw) (Z1:=[S0,S1,S2,S3,S4,S5,S6,S7,S8,S9,T10,T11,T12,q8]) (UM (Kf (Uz (UB qt) UF) qt (Hx _ _)) UE (show oNe (.str "wishes") (.str "wishes")=O qw by kernel_rfl)) (λz=>by cases z) λ_=>Ke (Kd ?_)
   exact UT (b:=qw) (UM (Kf (Uz (UB qt) UF) qt jS) (Kf (Uz (UB qt) (Uz (Kk qt UE i0) UF)) qt (DP g jU)) hne) (λz=>by cases z) λ_=>Ke (Ye ⟨_,_,_,rfl⟩)
  case hend=>
   rintro Z ⟨y10,y11,y12,rfl⟩;refine Kd ?_
   let E2:D:=exD "NoAim" [.str q]
   have hct:=Nz (DN (dl:=Ku ws) (w:=od) g hsa hpart) qt;refine UZ (Z1:=[S0,S1,S2,S3,S4,S5,S6,S7,S8,S9,y10,y11,pb E2,q8]) (Kr (Kf (Uz UE (Uz (UB qt) (Uz (UB qt) (Uz (UB qt) (Uz (UB qt) UF))))) qt hct) (Qa qt) qt) ?_
   let R:Uw:=[S0,S1,S2,S3,S4,S5,S6,S7,S8,S9,y10,y11,pb E2,O (.own (noPs.map Uj))]
   refine UZ (Z1:=R) (Zt (Xp (Uz UE (Uz UE (Uz UE (Uz UE (Uz UE (Uz UE (Uz UE (Uz UE (Uz UE UF))))))))) (Qa qt)) (Qa qt) qt) ?_;have hqx:oIx (.list (noPs.map Uj)) (.int ((k1:Nat):Int))=O (.str q):=KS (by rw[Qi,hq];rfl);have hqq:oNe (.str q) (.str q)=O qw:=by have hm:q∈noPs:=QP hq;unfold noPs at hm;simp only[QL,List.not_mem_nil,or_false]at hm;rcases hm with rfl|rfl|rfl|rfl|rfl|rfl|rfl|rfl|rfl<;>kernel_rfl
   apply U1;refine UT (b:=qw) (Z1:=R) (Zr (UM (Kf (Uz (UB qt) UF) qt (Hw _)) UE (show oNe (.str "aim") (.str "aim")=O qw by kernel_rfl)) (UM (Km (UB qt) (Zj (show Yo "part" E2=O (.str q)from rfl))) (SZ qt (Kk qt UE i1) qt hqx) hqq)) (λz=>by cases z) λ_=>Ke (Kd ?_)
   obtain⟨b,hb,_⟩:=BZ g jc (d:=.list (W.map UV)) (λxs e=>by injection e with e;rw[←e,Qd];omega);apply U1;refine UT (b:=qw) (Z1:=R) (KE (Kf (Uz (UB qt) (Uz (UB qt) (Uz (UB qt) UF))) qt hb) qt) (λz=>by cases z) λ_=>Ke (Kd ?_)
   exact UT (b:=qw) (UM (Kf (Uz (UB qt) (Uz (UB qt) (Uz (UB qt) UF))) qt (AU g jc)) (Kc UF (Qa qt)) (show oNe (.list []) (.list [])=O qw by kernel_rfl)) (λz=>by cases z) λ_=>Ke (Ye ⟨_,_,_,_,_,_,_,_,_,_,rfl⟩)
 case hend=>rintro Z ⟨x4,x5,x6,x7,x8,x9,qV,qU,je,q8,rfl⟩;exact Kd (U3 UE rfl)
end W
open PySem PySem.W PyProof.Rows
set_option maxRecDepth 100000 in
set_option maxHeartbeats 0 in
theorem PySem.Challenge.cw_wishdeal_k32_no_wishes_no_way_holds : PySem.Challenge.rw_wishdeal_k32_no_wishes_no_way.Holds := by
 w_on;o_law
 refine holds_open (q:=W.q0) (loose:=[]) (Xt:=λs=>xlAt W.q0 [] s&&recOk [] s) (XP:=XL W.q0 []) (Yf:=DL.xSeen W.clsL) (Ya:=λ_=>DL.xGood W.p0 W.clsL) (YP:=λ_ h=>DL.XYP W.p0 W.clsL h) (N:=9178) (d:=W.d_bq) (kwd:=[])
  W.Ht (λ_ _ e=>DL.L0 e) (λ_ _ _ y k=>y.keeps k) (λs e=>xl_of s (Bool.and_eq_true_iff.mp e).1) XL.keeps (by rfl) (by rfl) (by rfl)
  (λs e=>recFacts_of (Bool.and_eq_true_iff.mp e).2) (by rfl) (by assumption) (by decide +kernel) ⟨rfl,rfl,rfl,rfl,rfl,by decide +kernel⟩ ?hw (W.walk W.Di)
 case hw=>w_witness2


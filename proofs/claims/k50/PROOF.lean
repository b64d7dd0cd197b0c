import PyProof.Rows.All
import Wide.All
import OpenK.AllK
import Wide.FinOn
import Lean
import PyProof.EqAt
import PyProof.EqKinds
import PyProof.TupleCall
import PyProof.EnumMake
import PyProof.ZipIter
import PyProof.ExcClass2
import PyProof.ExcInit
import PyProof.ExcBaseAll.ValueError
import PyProof.FString2
import PyProof.ExcArgsOwn
import PyProof.InstStoreFacts
import ObjForm.Fk.InstStore
import ObjForm.Fk.InstLoad
import PyProof.StationsW
import PyProof.RulesAs
import PyProof.NsDelKeeps
import OpenK.KMore
import PyProof.IsiBase
import OpenK.KNot
import PyProof.Rows.RuleN_isinstance
import PyProof.NeData
import PyProof.P3In
import PyProof.StrWalks
import PyProof.ConsumeWalk
import PyProof.SliceStr2
import PyProof.MeetsStr
import KE.KItem
import KE.KUnpack
import KE.KRevSl
import PyProof.Rows.SetFrom
import PyProof.SetRoads
import PyProof.Rows.Range3
import PyProof.CallType
import PyProof.Rows.CallKwBuiltin
import PyProof.Rows.MinMaxN
import PyProof.SumWalkG
import PyProof.Rows.SeqMore
import PyProof.Rows.SortWalk
import PyProof.Rows.SumAny
import PyProof.Rows.SeqMore2
import KE.KSortTup
import PyProof.Rows.SortShellK
import PyProof.ReprRoads
import PyProof.ReprBulk
import PyProof.CallFns
import PyProof.NeKinds
import PyProof.Rows.StrJoinMade
import PyProof.StrCalls
import KE.KIntText
import PyProof.ReprDict
import PyProof.DictIter
import PyProof.Rows.DictUnroll
import PyProof.MeetsStr2
import PyProof.Rows.StrNews
import PyProof.StrLawsChain
import PyProof.Rows.StrItems
import PyProof.SeqRoads2
import PySem.Challenge.RW_wishdeal_k50_odd_covers
set_option compiler.extract_closed false
set_option Elab.async false
set_option linter.all false
set_option maxRecDepth 100000
set_option maxHeartbeats 4000000
open Option renaming some→O,none→jQ
open Bool renaming true→jR,false→jS
theorem jP.{u}{α:Sort u}{a:α}:a=a:=rfl
abbrev jU:=List Int
abbrev j6:=Option Int
abbrev j8:=Option Bool
abbrev j9:=List Nat
theorem Qa:type_of% @of_decide_eq_true:=@of_decide_eq_true
theorem Qs:type_of% @if_pos:=@if_pos
theorem Qt:type_of% @decide_eq_false:=@decide_eq_false
theorem Qw:type_of% @decide_eq_true:=@decide_eq_true
theorem QE:type_of% @if_neg:=@if_neg
theorem Q5:type_of% @decide_eq_true_eq:=@decide_eq_true_eq
theorem Ja:type_of% @of_decide_eq_false:=@of_decide_eq_false
theorem Uh:type_of% @congrArg:=@congrArg
theorem Um:type_of% @if_false:=@if_false
theorem Up:type_of% @if_true:=@if_true
open PySem renaming wpAny_bind→Qb,wpAny_pure→Qg,wpAny_loadPart_at→Qj,wpAny_field→QC,wpAny_mono→QF,wpAny_isSubtype_exc→QK,wpAny_truthy_bool→Q6,mem_of_lookup→Jc,codeAny_call_builtin→Jg,wpAny_callSpecial?_slot→Ji,wpAny_seqItems→Jj,wpAny_Call_Name_kw→Jn,wpAny_standAt→Jp,wpAny_call_entry→Js,codeAny_mono→Jv,wpAny_pyIter_list→Jx,wpAny_holding→JD,sizeLine_eq→JN,wpAny_newObj_type→JO,Value→Ur,Shared→Us,Program→Ut,Addr→Uu,FuncData→Uv,Expr→Uw,sizeLine→Ux,wpAny→Uy,starEach→Uz,compareOp→UA,assignEach→UO,foldedSetIterable→UP
open List renaming length_map→Qd,getElem?_eq_getElem→Qh,getElem?_map→Qi,length_append→Qk,getElem?_set_ne→Qm,mem_cons_self→Qo,mem_cons_of_mem→Qp,getElem?_eq_some_iff→Qq,mem_cons→Qu,getElem?_append_left→Qv,getElem?_append_right→Qx,map_cons→QA,length_cons→QB,getElem?_replicate→QD,mem_map→QG,mem_of_getElem?→QH,flatten_cons→QJ,getElem?_set_self→QL,all_eq_true→QM,mem_singleton→QN,mem_append_right→QP,size_toArray→QQ,length_replicate→QR,lookup_cons→QS,length_nil→QW,map_append→QX,contains_cons→QZ,mem_append→Q0,length_singleton→Q2,append_nil→Q4,append_assoc→Q8,pairwise_cons→Q9,replicate_succ→Jd,length_set→Je,nil_append→Jf,all_cons→Jh,mem_append_left→Jk,mem_range→Jm,not_mem_nil→Jo,map_map→Jr,getD_eq_getElem?_getD→JC,drop_eq_getElem_cons→JF,length_take→JG,zip_cons_cons→JI,getElem_mem→JJ,getElem?_eq_none→JS,getElem_of_mem→JV,filter_eq_self→JW,length_drop→JX,getElem?_cons_succ→JY,take_append_drop→J7,length_range→J8,pairwise_map→J9,mem_flatten→Ub,flatten_append→Ud,forIn_cons→Ue,drop_zero→Uk,all_map→Ul,mem_filter→Uo,range→UB,replicate→UC,Pairwise→UM
open PySem.Heap renaming get?_push_of_some→Qe,lt_size→Qf,get?_push_size→Qn,get?_update_other→QO,size_push→QU,get?_update_self→Q3
open Nat renaming le_refl→Ql,lt_of_lt_of_le→Qy,le_trans→Qz,ne_of_lt→QI,le_of_not_lt→Q7,ne_of_gt→Jl,zero_add→Ju,lt_irrefl→Jz,le_succ→JL,le_add_right→J0,zero_le→Ug,le_of_lt→Ui
open Bool renaming and_eq_true→Qr,false_eq_true→JH,and_eq_true_iff→JM,false_ne_true→JQ,true_and→JU,and_false→J4,false_and→Ua,or_true→Uj
open Option renaming map_eq_some_iff→QT,getD_some→JZ
open Int renaming toNat_natCast→QY,le_refl→JP,emod_lt_of_pos→JR,emod_nonneg→J6,not_lt→Uq
open Array renaming getD_eq_getD_getElem?→Jb,getElem?_eq_some_iff→JB,getElem?_eq_getElem→JT,length_toList→Uc
open PyProof.Rows renaming callWith_type1→Jq
open Option.some renaming inj→Jt
open PySem.W.Fast renaming te1987589406359920131→Jw
open PySem.Obj renaming isFreed_of_fields→Jy,data_mapFields→JK
open PySem.F renaming slot_tuple_iterator_next→JA
open PySem.W renaming kia_one→JE,callWith_K→J5
open Array.Perm renaming refl→Uf
open PySem.PyData renaming list→UD,bool→UE,str→UF,strOk→UG,canLayAll0→UH,depth→UI,eqv→UJ,shown→UN
open PySem.PassesOwn renaming never→UK
open PySem.Str renaming ofString→UL
abbrev jV:=List Ur
abbrev jW:=Option Ur
abbrev jX:=List Uw
abbrev j4:=List Uu
abbrev j7:=Option Uu
abbrev L3:=List (List jU)
abbrev LP:=List (Int×Int)
open PySem.W (Frag)
open PySem.PyData (int)
open List (replicate)
namespace DL
open PySem PySem.Spec PySem.W PyProof.Rows
def topRunT(tb:String->Option Builtin)(p:Ut)(w:World)(m:Nat)(ann:jW):Nat->SharedT->Thread->Option SharedT
 |0,_,_=>jQ
 |n+1,s,t=>match through t,stepOk m ann t with
  |true,_=>O s
  |false,jS=>jQ
  |false,jR=>match stepT (denote tb) p w s t with
   |some x=>topRunT tb p w m ann n x.1 x.2
   |none=>jQ
theorem LG{tb:String->Option Builtin}{p:Ut}{w:World}{m:Nat}{ann:jW}:∀{n:Nat}{s s':SharedT}{t:Thread},topRunT tb p w m ann n s t=O s'->topRun tb p w m ann n s.abs t=O s'.abs
 |0,_,_,_,h=>by cases h
 |n+1,s,s',t,h=>by
  rw[topRunT]at h;rw[topRun];cases ht:through t with
  |true=>rw[ht]at h;cases h;rfl
  |false=>
   rw[ht]at h;cases hk:stepOk m ann t with
   |false=>rw[hk]at h;cases h
   |true=>
    rw[hk]at h;dsimp only at h⊢;cases hs:stepT (denote tb) p w s t with
    |none=>rw[hs]at h;cases h
    |some x=>rw[hs]at h;rw[stepT_spec hs];exact LG h
def btOf(l:List Obj):BT:=(l.foldl (λ(x:BT×Nat) o=>(x.1.ins x.2 o,x.2+1)) (.nil,0)).1
noncomputable def T0 (w:World) (os:OsState):SharedT:=⟨btOf (boot_heap w.params).objs.toList,11,(boot_heap w.params).life,#[],boot_drawn,boot_toks,os⟩
theorem C4(w:World)(os:OsState):(T0 w os).abs=⟨boot_heap w.params,#[],boot_drawn,boot_toks,os⟩:=by kernel_rfl
theorem qg(w:World):((boot_heap w.params).isNs mainGlobals&&(#[]:Array GenState).size==0,(boot_heap w.params).objs.size,(boot_heap w.params).nsMap mainGlobals "__annotations__")=(jR,11,O (.ref 6)):=by kernel_rfl
noncomputable abbrev GV (p q:Ut) (loose:List Str) (Xt:Us->Bool) (w:World) (t:SharedT):=
 ((staticsOk (importedModules p.main.body) (boot_heap w.params) t.abs.heap&&namesBound p t.abs.heap&&gensDone t.abs&&laidKept (boot_heap w.params) t.abs.heap),openSeen q loose (importedModules p.main.body) Xt jR t.abs)
abbrev VB0:jV:=[.type "ValueError", .type "Exception", .type "BaseException", .type "object"]
def RU:List Str:=["__setattr__", "__getattribute__", "__getattr__", "__class__", "part", "number", "row"]
def WL(nm:Str):Str:=nm ++ "." ++ "__init__"
def xB(h:Heap)(nm:Str)(own:Bool):Bool:=match h.nsMap mainGlobals nm with
 |some (.ref C)=>(match h.get? C with
  |some ⟨.type t,_,.cls cd,sl⟩=>(t == "type")&&(cd.name==nm)&&cd.hasDict && !cd.hasDel&&(match sl.toList with | [_,_,_,_,k4,_]=>decide (k4=O (.builtin "ValueError.__new__"))|_=>jS)&&h.isNs cd.ns&&(RU.all λx=>(h.nsMap cd.ns x).isNone)&&(own || (h.nsMap cd.ns "__init__").isNone) &&
   (if nm = "DealError" then decide (cd.mro=.ref C::VB0)else match h.nsMap mainGlobals "DealError" with|some (.ref D)=>decide (cd.mro=.ref C::.ref D::VB0)|_=>jS)
  |_=>jS)
 |_=>jS
def xSh(h:Heap)(nm:Str):Option (Bool×FnShape):=match h.nsMap mainGlobals nm with
 |some (.ref C)=>(match h.get? C with
  |some ⟨_,_,.cls cd,_⟩=>(match h.fnAt cd.ns "__init__", h.shapeAt cd.ns "__init__" with|some (_,o,_),O sh=>O (decide (o.cls=.type "function"),sh)|_,_=>jQ)
  |_=>jQ)
 |_=>jQ
def Yy(st:Stmt):Stmt:=match st with
 |.ClassDef _ _ _ (m::_) _ _ _ _ _ _ _=>m
 |_=>.Pass ⟨0,0,0,0⟩
def OF(s:Stmt):Arguments:=match s with
 |.FunctionDef _ a _ _ _ _ _ _ _ _=>a
 |_=>default
def OE(s:Stmt):List Stmt:=match s with
 |.FunctionDef _ _ b _ _ _ _ _ _ _=>b
 |_=>[]
def OY(s:Stmt):Scope:=match s with
 |.FunctionDef _ _ _ _ _ _ sc _ _ _=>sc
 |_=>{kind:=.function,names:=[],isGenerator:=jS,isCoroutine:=jS}
def Vt(nm:Str)(st:Stmt):FnShape:=⟨"__init__", WL nm,OF st,.stmts (OE st),OY st,mainGlobals,[],.none,.none,jQ,.none,builtinsNs,jR⟩
abbrev XL0:=List (Str×Option Nat)
def xSeen(l:XL0)(s:Us):Bool×List (Bool×Option (Bool×FnShape)):=(s.heap.isNs cStatics&&(s.heap.nsMap cStatics "thirdparty.any").isNone,l.map λc=>(xB s.heap c.1 c.2.isSome,if c.2.isSome then xSh s.heap c.1 else jQ))
def xGood(p:Ut)(l:XL0):Bool×List (Bool×Option (Bool×FnShape)):=(jR,l.map λc=>(jR,c.2.map λi=>(jR,Vt c.1 (Yy (p.main.body.getD i (.Pass ⟨0,0,0,0⟩))))))
theorem C3{α:Type}{Yf:Us->α}{Ya:World->α}{p q:Ut}{loose:List Str}{Xt:Us->Bool}{N M:Nat}(e:opening p=plainProg p.main.scope.names)(hN:Nat.ble 600 N=jR)(f:∀s,fenceModules? p s=O s)(le:Nat.ble M N=jR)
  (run:∀(w:World)(os:OsState),(topRunT treeTable p w 11 (O (.ref 6)) M (T0 w os) (topStub p)).map (λt=>(GV p q loose Xt w t,Yf t.abs))=O ((jR,openGood q loose),Ya w)):LeftO p q loose Xt Yf Ya N:=λw=>by
 obtain⟨⟨h,gs,d,k,os⟩,e0,e'⟩:=Option.map_eq_some_iff.mp (boot_open e hN f w);have e':(h,gs,d,k)=(boot_heap w.params,#[],boot_drawn,boot_toks):=e';obtain⟨rfl,rfl,rfl,rfl⟩:h=boot_heap w.params/\gs=#[]/\d=boot_drawn/\k=boot_toks:=by simpa only[Prod.mk.injEq]using e'
 obtain⟨t,ht,l⟩:=QT.mp (run w os);have hr:=LG ht;rw[C4]at hr;have r:=topRun_mono (N-M) _ _ _ _ hr;rw[show M+(N-M)=N by have:=Nat.le_of_ble_eq_true le;lia]at r;obtain⟨l0,l3⟩:=Prod.mk.inj l;obtain⟨l1,l2⟩:=Prod.mk.inj l0;have z:=qg w;obtain⟨z1,z2,z3⟩:_/\_/\_:=by simpa only[Prod.mk.injEq]using z
 have tf:topFrom treeTable p w N ⟨boot_heap w.params,#[],boot_drawn,boot_toks,os⟩=O t.abs:=by
  unfold topFrom;dsimp only;rw[z1,z2,z3,r]
  show(match staticsOk (importedModules p.main.body) (boot_heap w.params) t.abs.heap&&namesBound p t.abs.heap&&gensDone t.abs&&laidKept (boot_heap w.params) t.abs.heap with|true=>O t.abs|false=>jQ)=_
  rw[l1]
 unfold openEnds;rw[e0]
 show(topFrom treeTable p w N _).map _=_
 rw[tf];exact Uh O (Prod.ext l2 l3)
end DL
open PySem in
lay_quick PySem.Challenge.pw_wishdeal_k50_odd_covers DL.topRunT PySem.W.openGood PySem.W.staticsOk PySem.W.namesBound PySem.W.laidKept PySem.W.xlAt DL.xSeen DL.xGood
namespace W
open PySem PySem.Spec DL
noncomputable abbrev p0:Ut:=PySem.Challenge.pw_wishdeal_k50_odd_covers
noncomputable def Xl:j9:=[1,2,3,5,6,8,9,10,11,12,13,14,15,16,17,18,20,22,24,25,26,27,28,29,30,31,32,33,34,35,36,38,39,40,42,43,44,45,47,48,49,50,51,52,53,54,55,56,57,58,59,60,61,62,63,64]
noncomputable def ixL:j9:=[1,2,3,12,13,14,15,16,17,18,20,22,24,25,26,27,28,29,30,31,32,33,34,35,36,38,39,40,42,43,44,45,47,48,49,50,51,52,53,54,55,56,57,58,59,60,61,62,63,64]
noncomputable abbrev q0:Ut:=PySem.W.view p0 Xl
noncomputable def clsL:XL0:=[("DealError", O 5),("NoWishes", O 6)]
theorem GU:∀(w:World)(os:OsState),(PySem.W.Fast.tw10708255244068714335 PySem.W.Fast.tw14364793385576792824 PySem.W.Fast.tw11098432022064204389 w 11 (O (.ref 6)) 2223 (T0 w os) (PySem.W.topStub PySem.W.Fast.tw11098432022064204389)).map (λt=>(((PySem.W.Fast.tw13471830651028734593 (PySem.W.Fast.tw5923862056798008813 (Program.main PySem.W.Fast.tw11098432022064204389).body) (PySem.W.boot_heap w.params) t.abs.heap&&PySem.W.Fast.tw4683006035507612052 PySem.W.Fast.tw11098432022064204389 t.abs.heap&&PySem.W.gensDone t.abs&&PySem.W.Fast.tw16898566250750103049 (PySem.W.boot_heap w.params) t.abs.heap),PySem.W.Fast.tw4187177175401517315 (PySem.W.view PySem.W.Fast.tw11098432022064204389 Xl) [] (PySem.W.Fast.tw5923862056798008813 (Program.main PySem.W.Fast.tw11098432022064204389).body) (λs=>PySem.W.Fast.tw4757257242682413121 (PySem.W.view PySem.W.Fast.tw11098432022064204389 Xl) [] s&&PySem.W.recOk [] s) jR t.abs),PySem.W.Fast.tw11121216462471823999 clsL t.abs))=O ((jR,PySem.W.Fast.tw3486900944545009338 (PySem.W.view PySem.W.Fast.tw11098432022064204389 Xl) []),PySem.W.Fast.tw18030470931243306169 PySem.W.Fast.tw11098432022064204389 clsL):=by intro w os;kernel_rfl
theorem GT:PySem.W.LeftO p0 q0 [] (λs=>PySem.W.xlAt q0 [] s&&PySem.W.recOk [] s) (xSeen clsL) (λ_=>xGood p0 clsL) 4346:=by
 refine C3 (M:=2223) (by kernel_rfl) jP (λs=>by kernel_rfl) jP λw os=>?_
 have h:=GU w os;rw[←PySem.W.Fast.te10708255244068714335,←PySem.W.Fast.te14364793385576792824,←PySem.W.Fast.te4187177175401517315,←PySem.W.Fast.te5923862056798008813,←PySem.W.Fast.te13471830651028734593,←PySem.W.Fast.te4683006035507612052,←PySem.W.Fast.te16898566250750103049,←PySem.W.Fast.te4757257242682413121,←PySem.W.Fast.te3486900944545009338,←PySem.W.Fast.te11121216462471823999,←PySem.W.Fast.te18030470931243306169,←PySem.W.Fast.te11098432022064204389]at h;exact h
end W
namespace L2
open PySem PySem.Spec PyProof.Rows
abbrev Key:=Sum Int Str
abbrev ka:=List Key
noncomputable def RM:Key->Ur->Bool
 |.inl k,v=>Value.isInt k v
 |.inr x,v=>Value.isStrOf x v
noncomputable def keyH(w:World):Key->Int
 |.inl k=>hashInt k
 |.inr x=>hashStr w x
theorem XZ:∀{k:Key}{v:Ur},RM k v=jR->(∃i t,k=Sum.inl i/\v=Value.int i t)∨(∃x t,k=Sum.inr x/\v=Value.str x t)
 |.inl i,v,h=>by obtain⟨t,e⟩:=Value.isInt_shape (k:=i) (v:=v) h;exact .inl ⟨i,t,rfl,e⟩
 |.inr x,v,h=>by obtain⟨t,e⟩:=Value.isStrOf_shape (x:=x) (v:=v) h;exact .inr ⟨x,t,rfl,e⟩
theorem EL(a b:Int):decide ((Sum.inl a:Key)=Sum.inl b)=(a==b):=by
 by_cases e:a=b
 .subst e;simp
 .have h:¬(Sum.inl a:Key)=Sum.inl b:=λq=>e (Sum.inl.inj q)
  rw[Qt h];exact(beq_eq_false_iff_ne.mpr e).symm
theorem EK(a b:Str):decide ((Sum.inr a:Key)=Sum.inr b)=decide (a=b):=by
 by_cases e:a=b
 .subst e;simp
 .have h:¬(Sum.inr a:Key)=Sum.inr b:=λq=>e (Sum.inr.inj q)
  rw[Qt h,Qt e]
theorem EJ(a:Int)(b:Str):decide ((Sum.inl a:Key)=Sum.inr b)=jS:=Qt (λq=>nomatch q)
theorem Df(a:Str)(b:Int):decide ((Sum.inr a:Key)=Sum.inl b)=jS:=Qt (λq=>nomatch q)
noncomputable def Tk(prog:Ut)(w:World):PySem.KeyKind prog w Key where
 is:=RM
 hash:=keyH w
 inj:=λv a b ha hb=>by
  rcases XZ ha with ⟨i,t,rfl,rfl⟩|⟨x,t,rfl,rfl⟩
  .rcases XZ hb with ⟨j,u,rfl,e⟩|⟨y,u,rfl,e⟩
   .injection e with e1 _;rw[e1]
   .exact nomatch e
  .rcases XZ hb with ⟨j,u,rfl,e⟩|⟨y,u,rfl,e⟩
   .exact nomatch e
   .injection e with e1 _;rw[e1]
 byValue:=λk v h=>by rcases XZ h with ⟨i,t,rfl,rfl⟩|⟨x,t,rfl,rfl⟩<;>rfl
 pyHash:=λhv h=>by
  rcases XZ hv with ⟨i,t,rfl,rfl⟩|⟨x,t,rfl,rfl⟩
  .exact wpAny_pyHash_int h
  .exact wpAny_pyHash_str h
 eqBool:=λhu hv h=>by
  rcases XZ hu with ⟨i,t,rfl,rfl⟩|⟨x,t,rfl,rfl⟩
  .rcases XZ hv with ⟨j,u,rfl,rfl⟩|⟨y,u,rfl,rfl⟩
   .rw[EL]at h;exact wpAny_eqBool_int h
   .rw[EJ]at h;exact SeqAt.EqAt.int_str i t y u _ _ _ _ h
  .rcases XZ hv with ⟨j,u,rfl,rfl⟩|⟨y,u,rfl,rfl⟩
   .rw[Df]at h;exact SeqAt.EqAt.str_int x t j u _ _ _ _ h
   .rw[EK]at h;exact wpAny_eqBool_str h
 «strs»:=λk x t v h=>by
  rcases XZ h with ⟨i,u,rfl,e⟩|⟨y,u,rfl,e⟩
  .exact nomatch e
  .injection e with e1 _
   subst e1;cases v<;>rfl
inductive V where
 |non|bl (b:Bool)|int (i:Int)|str (x:Str)|byt (b:Array UInt8)|flt (b:UInt64)|ref (a:Uu)|ty (n:String)
 deriving DecidableEq
noncomputable def RelV:V->Ur->Prop
 |.non,u=>u=Value.none
 |.bl b,u=>u=Value.bool b
 |.int i,u=>∃t,u=Value.int i t
 |.str x,u=>∃t,u=Value.str x t
 |.byt b,u=>∃t,u=Value.bytes b t
 |.flt b,u=>∃t,u=Value.float b t
 |.ref a,u=>u=Value.ref a
 |.ty n,u=>u=Value.type n
noncomputable abbrev Vals:List V->jV->Prop:=Paired RelV
theorem Vals.length{xs:List V}{us:jV}(r:Vals xs us):xs.length=us.length:=Paired.length r
theorem Vals.get:∀{xs:List V}{us:jV}{i:Nat}{x:V},Vals xs us->xs[i]?=O x->∃u,us[i]?=O u/\RelV x u
 |_,_,_,_,.nil,e=>by simp at e
 |_,_,0,_,.cons r _,e=>by simp at e;subst e;exact⟨_,rfl,r⟩
 |_,_,i+1,x,.cons _ t,e=>by obtain⟨u,h1,h2⟩:=Vals.get (i:=i) (x:=x) t (by simpa using e);exact⟨u,by simpa using h1,h2⟩
theorem Vals.set{x:V}{u:Ur}(r:RelV x u):∀{xs:List V}{us:jV}(i:Nat),Vals xs us->Vals (xs.set i x) (us.set i u)
 |_,_,_,.nil=>.nil
 |_,_,0,.cons _ t=>.cons r t
 |_,_,i+1,.cons q t=>.cons q (Vals.set r i t)
theorem Vals.append:∀{xs ys:List V}{us ws:jV},Vals xs us->Vals ys ws->Vals (xs++ys) (us++ws)
 |_,_,_,_,.nil,s=>s
 |_,_,_,_,.cons r t,s=>.cons r (Vals.append t s)
theorem Vals.take:∀{xs:List V}{us:jV}(n:Nat),Vals xs us->Vals (xs.take n) (us.take n)
 |_,_,0,_=>.nil
 |_,_,_+1,.nil=>.nil
 |_,_,n+1,.cons r t=>.cons r (Vals.take n t)
theorem Vals.drop:∀{xs:List V}{us:jV}(n:Nat),Vals xs us->Vals (xs.drop n) (us.drop n)
 |_,_,0,r=>r
 |_,_,_+1,.nil=>.nil
 |_,_,n+1,.cons _ t=>Vals.drop n t
noncomputable def XB:Option V->jW->Prop
 |some v,O u=>RelV v u
 |none,jQ=>True
 |_,_=>False
noncomputable def KV{κ:Type}:List (κ×V)->List (κ×Ur)->Prop:=Paired λ(p:κ×V) (q:κ×Ur)=>p.1=q.1/\RelV p.2 q.2
noncomputable def kV:Key->V
 |.inl i=>.int i
 |.inr x=>.str x
inductive HO where
  |lst (xs:List V)
  |tup (xs:List V)
  |dK (kvs:List (Key×V))|dT (kvs:List (ka×V))
  |set (S:Int->Bool) (n:Nat)
  |ins (C dx:Uu) (fs:List (Str×V))
  |own (x:Uu)
  |xd (fs:List (Str×V))
  |met (f x:Uu)
  |rng (lo hi:Int)
  |frz (o:Obj) (u:HO)
  |tbl (ps:Array Ur)
  |ext (φ:Heap->Prop)
abbrev Hp:=Uu->Option HO
noncomputable def upd(H:Hp)(a:Uu)(o:HO):Hp:=λb=>if b=a then O o else H b
theorem KO{H:Hp}{a:Uu}{o:HO}:upd H a o a=O o:=by unfold upd;rw[Qs jP]
theorem Kp{H:Hp}{a b:Uu}{o:HO}(h:b≠a):upd H a o b=H b:=by unfold upd;rw[QE h]
theorem N0{H:Hp}{a:Uu}{o u:HO}:upd (upd H a o) a u=upd H a u:=by funext b;unfold upd;split<;>rfl
theorem YR{H:Hp}{a b:Uu}{o:HO}(h:H a=O o)(h':H b=jQ):a≠b:=by intro e;subst e;rw[h]at h';cases h'
section
variable(P:Ut)(w:World)
noncomputable def Zy(H:Hp)(h:Heap)(a:Uu):HO->Prop
 |.lst xs=>xs.length<=Ux/\∃(its:jV)(n:Nat),Vals xs its/\h.get? a=O {cls:=.type "list", data:=.seq its.toArray n}
 |.tup xs=>xs.length<=Ux/\∃its:jV,Vals xs its/\IsTup h a its.toArray
 |.dK kvs=>kvs.length<=Ux/\(a==sysModules)=jS/\∃vs,KV kvs vs/\h.DictOf (Tk P w) a vs
 |.dT kvs=>kvs.length<=Ux/\(a==sysModules)=jS/\∃xs:List (ka×Uu×Ur),
   Paired (λ(p:ka×V) (q:ka×Uu×Ur)=>p.1=q.1/\H q.2.1=O (.tup (p.1.map kV))/\RelV p.2 q.2.2) kvs xs /\
   ∃o es ep,h.get? a=O o/\o.ExactDict/\o.data=.dict es ep/\es.toList=xs.map (entryOfKey (tupleKind (Tk P w)))/\(xs.map (·.1)).Nodup
 |.set S n=>h.SetOf (intKind P w) a S n
 |.ins C dx fs=>H dx=O (.own a)/\fs.length<=1000/\dx≠a/\h.get? a=O (PySem.W.instObj C dx) /\
   ∃mA,h.Ns1 dx mA/\(∀f,XB (fs.lookup f) (mA f))/\PySem.Within mA (fs.map (·.1))
 |.own _=>∃o,h.get? a=O o
 |.xd fs=>∃mA,h.Ns1 a mA/\∀f,XB (fs.lookup f) (mA f)
 |.rng lo hi=>∃t u v,h.get? a=O {cls:=.type "range", data:=.fields #[.int lo t,.int hi u,.int 1 v]}
 |.frz o u=>h.get? a=O o/\Zy H h a u
 |.tbl ps=>h.get? a=O {cls:=.none,data:=.fields ps}
 |.met f x=>h.get? a=O (PySem.W.methodObj (.ref f) (.ref x))
 |.ext φ=>φ h/\(∃o,h.get? a=O o)/\∀h1 h2:Heap,φ h1->(∀o,h1.get? a=O o->h2.get? a=O o)->φ h2
def HOk(H:Hp)(h:Heap):Prop:=∀a o,H a=O o->Zy P w H h a o
end
section
variable{P:Ut}{w:World}{H H':Hp}{h h':Heap}{a:Uu}{o:HO}
theorem Zy.lt(x:Zy P w H h a o):a<h.objs.size:=by
 cases o with
 |lst xs=>obtain⟨_,_,_,_,e⟩:=x;exact Qf e
 |tup xs=>obtain⟨_,_,_,p⟩:=x;exact p.lt
 |dK kvs=>obtain⟨_,_,_,_,o,_,_,e,_⟩:=x;exact Qf e
 |dT kvs=>obtain⟨_,_,_,_,o,_,_,e,_⟩:=x;exact Qf e
 |set S n=>obtain⟨o,_,_,_,e,_⟩:=x;exact Qf e
 |ins C dx fs=>obtain⟨_,_,_,e,_⟩:=x;exact Qf e
 |own y=>obtain⟨_,e⟩:=x;exact Qf e
 |xd fs=>obtain⟨_,⟨_,_,_,e,_⟩,_⟩:=x;exact Qf e
 |rng lo hi=>obtain⟨_,_,_,e⟩:=x;exact Qf e
 |frz ob u=>obtain⟨e,_⟩:=x;exact Qf e
 |tbl ps=>exact Qf (show h.get? a=O _ from x)
 |met f y=>exact Qf (show h.get? a=O _ from x)
 |ext φ=>obtain⟨_,⟨_,e⟩,_⟩:=x;exact Qf e
theorem Paired.mapP{α β:Type}{F G:α->β->Prop}:∀{l₁:List α}{l₂:List β},Paired F l₁ l₂->(∀a b,F a b->G a b)->Paired G l₁ l₂
 |_,_,.nil,_=>.nil
 |_,_,.cons r t,f=>.cons (f _ _ r) (Paired.mapP t f)
theorem Zy.stay(x:Zy P w H h a o)(k:∀b u,(b=a∨H b=O (.own a))->h.get? b=O u->h'.get? b=O u)
  (ho:∀b,H b=O (.own a)->H' b=O (.own a)) (ht:∀b xs,H b=O (.tup xs)->H' b=O (.tup xs)):Zy P w H' h' a o:=by
 induction o with
 |lst xs=>obtain⟨z,its,n,r,e⟩:=x;exact⟨z,its,n,r,k _ _ (.inl jP) e⟩
 |tup xs=>obtain⟨z,its,r,ob,e,c⟩:=x;exact⟨z,its,r,ob,k _ _ (.inl jP) e,c⟩
 |dK kvs=>obtain⟨z,y,vs,r,ob,es,ep,e,c⟩:=x;exact⟨z,y,vs,r,ob,es,ep,k _ _ (.inl jP) e,c⟩
 |dT kvs=>obtain⟨z,y,xs,r,ob,es,ep,e,c⟩:=x;exact⟨z,y,xs,Paired.mapP r λp q z=>⟨z.1,ht _ _ z.2.1,z.2.2⟩,ob,es,ep,k _ _ (.inl jP) e,c⟩
 |set S n=>obtain⟨ob,es,ep,t,e,c⟩:=x;exact⟨ob,es,ep,t,k _ _ (.inl jP) e,c⟩
 |ins C dx fs=>obtain⟨d,z,ne,e,mA,⟨od,es,ep,e2,c⟩,r⟩:=x;exact⟨ho _ d,z,ne,k _ _ (.inl jP) e,mA,⟨od,es,ep,k _ _ (.inr d) e2,c⟩,r⟩
 |own y=>obtain⟨ob,e⟩:=x;exact⟨ob,k _ _ (.inl jP) e⟩
 |xd fs=>obtain⟨mA,⟨od,es,ep,e,c⟩,r⟩:=x;exact⟨mA,⟨od,es,ep,k _ _ (.inl jP) e,c⟩,r⟩
 |rng lo hi=>obtain⟨t,u,v,e⟩:=x;exact⟨t,u,v,k _ _ (.inl jP) e⟩
 |frz ob u ih=>obtain⟨e,q⟩:=x;exact⟨k _ _ (.inl jP) e,ih q⟩
 |tbl ps=>have e:h.get? a=O {cls:=.none,data:=.fields ps}:=x;show h'.get? a=O {cls:=.none,data:=.fields ps};exact k a _ (.inl jP) e
 |met f y=>have e:h.get? a=O (PySem.W.methodObj (.ref f) (.ref y)):=x;show h'.get? a=O (PySem.W.methodObj (.ref f) (.ref y));exact k a _ (.inl jP) e
 |ext φ=>obtain⟨p,⟨o,e⟩,st⟩:=x;exact⟨st _ _ p λo q=>k _ _ (.inl jP) q,⟨o,k _ _ (.inl jP) e⟩,st⟩
theorem HOk.lt(x:HOk P w H h)(e:H a=O o):a<h.objs.size:=(x a o e).lt
theorem HOk.fresh(x:HOk P w H h)(e:h.objs.size<=a):H a=jQ:=by
 cases q:H a with
 |none=>rfl
 |some u=>exact absurd (Qy (x.lt q) e) (Jz _)
theorem HOk.kept(x:HOk P w H h)(k:∀b u,h.get? b=O u->h'.get? b=O u):HOk P w H h':=λa o e=>
 (x a o e).stay (λb u _ q=>k b u q) (λ_ q=>q) λ_ _ q=>q
theorem HOk.laid(x:HOk P w H h)(k:∀b u,h.get? b=O u->h'.get? b=O u)(hp:h.objs.size<=a)(new:Zy P w (upd H a o) h' a o):HOk P w (upd H a o) h':=λb u e=>by
 have hn:=x.fresh hp;by_cases hb:b=a
 .subst hb;rw[KO]at e;cases e;exact new
 .rw[Kp hb]at e
  exact(x b u e).stay (λc v _ q=>k c v q) (λc q=>by rw[Kp (YR q hn)];exact q) λc xs q=>by rw[Kp (YR q hn)];exact q
end
def Rd(H:Hp)(a:Uu)(u:HO):Prop:=H a=O u ∨ ∃o,H a=O (.frz o u)
theorem Rd.ok{P:Ut}{w:World}{H:Hp}{h:Heap}{a:Uu}{u:HO}(r:Rd H a u)(x:HOk P w H h):Zy P w H h a u:=by
 rcases r with r|⟨o,r⟩
 .exact x a u r
 .obtain⟨_,q⟩:=x a _ r
  exact q
noncomputable def Mut:Option HO->Prop
 |some (.lst _)=>True
 |some (.dK _)=>True
 |some (.dT _)=>True
 |some (.set _ _)=>True
 |some (.ins _ _ _)=>True
 |some (.ext _)=>True
 |_=>False
section
variable{P:Ut}{w:World}{H:Hp}{h h':Heap}{x e:Uu}{o':HO}
theorem HOk.write(ok:HOk P w H h)(mu:Mut (H x))(he:e=x∨H e=O (.own x))(k:∀b u,b≠e->h.get? b=O u->h'.get? b=O u)(xQ:∃u,h'.get? e=O u)
  (new:Zy P w (upd H x o') h' x o'):HOk P w (upd H x o') h':=λb u q=>by
 have nown:∀c y,H c=O (.own y)->c≠x:=λc y r z=>by subst z;rw[r]at mu;exact mu
 have ntup:∀c xs,H c=O (.tup xs)->c≠x:=λc xs r z=>by subst z;rw[r]at mu;exact mu
 by_cases hb:b=x
 .subst hb;rw[KO]at q;cases q;exact new
 .rw[Kp hb]at q
  by_cases kL:b=e
  .have q':H b=O (.own x):=by
    rcases he with z|z
    .exact absurd (kL.trans z) hb
    .rw[kL];exact z
   rw[q]at q';cases q';obtain⟨v,hv⟩:=xQ;exact⟨v,by rw[kL];exact hv⟩
  .refine(ok b u q).stay (λc v hc r=>k c v ?_ r) (λc r=>by rw[Kp (nown c b r)];exact r) λc xs r=>by rw[Kp (ntup c xs r)];exact r
   rcases hc with rfl|hc
   .exact kL
   .rintro rfl
    rcases he with z|z
    .exact nown c b hc z
    .rw[hc]at z;cases z;exact hb jP
end
structure Un(fs ex:j4)(H H':Hp)(h h':Heap):Prop where
 keep:∀b o,h.get? b=O o->H b=jQ->b∉fs->b∉ex->h'.get? b=O o
 slot:∀b o,h.get? b=O o->H b=jQ->b∈fs->b∉ex->∃sl,h'.get? b=O {o with slots:=sl}
 free:∀b o,h.get? b=O o->H b=jQ->b∉ex->H' b=jQ
 there:∀b o,h.get? b=O o->b∉ex->∃o',h'.get? b=O o'
 tups:∀b xs,H b=O (.tup xs)->H' b=O (.tup xs)
 frzs:∀b o u,H b=O (.frz o u)->H' b=O (.frz o u)
 tbls:∀b ps,H b=O (.tbl ps)->∃more,H' b=O (.tbl (ps++more))
section
variable{fs fs' ex ex':j4}{H H1 H2:Hp}{h h1 h2 h':Heap}{a x e:Uu}{o:HO}
theorem Un.any(u:Un fs ex H H1 h h1){b:Uu}{ob:Obj}(q:h.get? b=O ob)(n:H b=jQ)(hx:b∉ex):∃sl,h1.get? b=O {ob with slots:=sl}:=by
 by_cases hb:b∈fs
 .exact u.slot b ob q n hb hx
 .exact⟨ob.slots,u.keep b ob q n hb hx⟩
theorem Un.kept(k:∀b u,h.get? b=O u->h'.get? b=O u):Un fs ex H H h h':=
 ⟨λb ob q _ _ _=>k b ob q,λb ob q _ _ _=>⟨ob.slots,k b ob q⟩,λ_ _ _ n _=>n,λb ob q _=>⟨ob,k b ob q⟩,λ_ _ q=>q,λ_ _ _ q=>q,λ_ ps q=>⟨#[],by rw[q];simp⟩⟩
theorem Un.refl:Un fs ex H H h h:=Un.kept λ_ _ q=>q
theorem Un.laid(k:∀b u,h.get? b=O u->h'.get? b=O u)(hp:h.objs.size<=a)(hn:H a=jQ):Un fs ex H (upd H a o) h h' where
 keep:=λb u q _ _ _=>k b u q
 slot:=λb u q _ _ _=>⟨u.slots,k b u q⟩
 free:=λb u q n _=>by rw[Kp (QI (Qy (Qf q) hp))];exact n
 there:=λb u q _=>⟨u,k b u q⟩
 tups:=λb xs q=>by rw[Kp (YR q hn)];exact q
 frzs:=λb u xs q=>by rw[Kp (YR q hn)];exact q
 tbls:=λb ps q=>⟨#[],by rw[Kp (YR q hn),q];simp⟩
theorem Un.write(mu:Mut (H x))(he:e=x∨H e=O (.own x))(k:∀b u,b≠e->h.get? b=O u->h'.get? b=O u)(xQ:∃u,h'.get? e=O u):Un fs ex H (upd H x o) h h':=by
 have hx:∀b,H b=jQ->b≠x:=λb n z=>by subst z;rw[n]at mu;exact mu
 have hb:∀b,H b=jQ->b≠e:=λb n z=>by
  subst z;rcases he with r|r
  .exact hx b n r
  .rw[n]at r;cases r
 have hm:∀b u,H b=O u->¬Mut (O u)->b≠x:=λb u q nm z=>by subst z;rw[q]at mu;exact nm mu
 refine⟨λb u q n _ _=>k b u (hb b n) q,λb u q n _ _=>⟨u.slots,k b u (hb b n) q⟩,λb u q n _=>by rw[Kp (hx b n)];exact n,λb u q _=>?_,
  λb xs q=>by rw[Kp (hm b _ q λz=>z)];exact q,λb u xs q=>by rw[Kp (hm b _ q λz=>z)];exact q,λb ps q=>⟨#[],by rw[Kp (hm b _ q λz=>z),q];simp⟩⟩
 by_cases kL:b=e
 .subst kL;exact xQ
 .exact⟨u,k b u kL q⟩
end
noncomputable def trk(h:Heap)(H:Hp):j4:=(UB h.objs.size).filter λa=>(H a).isSome
noncomputable def Yc(h:Heap)(H:Hp):Heap:=PySem.W.hideAll h (trk h H)
theorem qf(h:Heap)(H:Hp):(Yc h H).objs.size=h.objs.size:=PySem.W.hideAll_size _ _
theorem C2{h:Heap}{H:Hp}{b:Uu}{o:Obj}(e:h.get? b=O o)(n:H b=jQ):(Yc h H).get? b=O o:=
 PySem.W.hideAll_get _ e λhm=>by have q:(H b).isSome=jR:=(Uo.mp hm).2;rw[n]at q;simp at q
theorem DA{h:Heap}{H:Hp}{b:Uu}{o:Obj}(e:(Yc h H).get? b=O o):h.get? b=O o/\H b=jQ:=by
 have e':h.get? b=O o:=PySem.W.of_hideAll (trk h H) e;refine⟨e',?_⟩;cases q:H b with
 |none=>rfl
 |some x=>have hm:b∈trk h H:=List.mem_filter.mpr ⟨List.mem_range.mpr (Heap.lt_size e'),by simp[q]⟩;have z:(Yc h H).get? b=jQ:=PySem.W.hideAll_none (trk h H) hm;rw[z]at e;cases e
structure Mod(K:Frag)(mg:Str->jW)(base:Heap):Prop where
 kin:K.In base
 glob:base.Ns mainGlobals mg
 blt:∃mb,base.Ns builtinsNs mb/\∀x:Str,x ≠ "__name__" -> mb x=bootBuiltins x
 nolimit:base.NoLimit
structure Cx where
 prog:Ut
 w:World
 K:Frag
 mg:Str->jW
 base:Heap
 A:Around
 N:List Str
 s₀:Us
 H₀:Hp
 env:Env
 outer:List Env
 stack:List Env
 ex:j4
 fn:Str->Bool
 calm:Bool
 pn:List (Uu×Obj)
 xe:Ur->Us->Prop
noncomputable def frs(l:List Env):j4:=l.filterMap (·.frame)
noncomputable abbrev Cx.fs(X:Cx):j4:=frs X.outer
def Vis(sc:Scope)(x:Str):Prop:=sc.names.lookup x=O .local∨sc.names.lookup x=O .cell∨sc.names.lookup x=O .free
def Loc(sc:Scope)(x:Str):Prop:=sc.names.lookup x=O .local∨sc.names.lookup x=O .cell
def Look(env:Env)(h:Heap)(m:Str->jW)(x:Str)(u:Ur):Prop:=
 (env.kindOf x=O .local/\m x=O u)∨((env.kindOf x=O .cell∨env.kindOf x=O .free)/\∃c,env.cells.lookup x=O c/\h.IsCell c (O u))
structure Cx.Ok(X:Cx):Prop where
 mod:Mod X.K X.mg X.base
 kind:X.env.scope.kind=.function
 glob:X.env.globals=mainGlobals
 blt:X.env.builtins=builtinsNs
 above:X.s₀.heap.objs.size<=X.env.locals
 inj:∀x y c,X.env.cells.lookup x=O c->X.env.cells.lookup y=O c->x=y
 has:∀x,(X.env.kindOf x=O .cell∨X.env.kindOf x=O .free)->∃c,X.env.cells.lookup x=O c
 cab:∀x c,X.fn x=jR->X.env.cells.lookup x=O c->X.s₀.heap.objs.size<=c
 hd:X.calm=jR->X.A.handled=jQ
 frames:X.A.frames=O X.stack
 stk:X.stack=X.outer∨(X.stack=X.env::X.outer/\X.env.frame=O X.env.locals)
 exf:∀b∈X.ex,b≠X.env.locals/\∀x c,X.env.cells.lookup x=O c->c≠b
 bs:∀b o,X.base.get? b=O o->X.s₀.heap.get? b=O o/\X.H₀ b=jQ
 bsz:X.base.objs.size<=X.s₀.heap.objs.size
 noex:∀b o,X.base.get? b=O o->b∉X.ex
 exfs:∀b∈X.ex,b∉X.fs
 funs:X.s₀.heap.FunFrames X.base X.outer
 frf:∀b∈X.fs,X.H₀ b=jQ
structure Inv(X:Cx)(pins:List (Uu×Obj))(σ:List (Option V))(H:Hp)(s:Us):Prop where
 ok:X.Ok
 os:s.os=X.s₀.os
 bare:AllBare s.gens
 base:Un X.fs X.ex X.H₀ H X.s₀.heap s.heap
 loc:∃m,s.heap.Ns X.env.locals m/\∀(i:Nat)(x:Str)(v:V),X.N[i]?=O x->σ[i]?=O (O v)->Vis X.env.scope x->∃u,RelV v u/\Look X.env s.heap m x u
 cell:∀x c,X.env.cells.lookup x=O c->∃v,s.heap.IsCell c v
 free:H X.env.locals=jQ
 freeC:∀x c,X.env.cells.lookup x=O c->H c=jQ
 pin:∀p∈X.pn++pins,s.heap.get? p.1=O p.2/\H p.1=jQ/\p.1≠X.env.locals/\p.1∉X.fs/\∀v,p.2.data≠.cell v
 hok:HOk X.prog X.w H s.heap
 len:σ.length=X.N.length
section
variable{X:Cx}{pins:List (Uu×Obj)}{σ:List (Option V)}{H H':Hp}{s:Us}{h':Heap}
theorem Cx.Ok.nofr(ok:X.Ok){b:Uu}{o:Obj}(e:X.base.get? b=O o):b∉X.fs:=λhb=>by have:=(ok.funs.mem hb).1;rw[e]at this;cases this
theorem Inv.bs(I:Inv X pins σ H s):∀b o,X.base.get? b=O o->s.heap.get? b=O o/\H b=jQ:=λb o e=>
 ⟨I.base.keep b o (I.ok.bs b o e).1 (I.ok.bs b o e).2 (I.ok.nofr e) (I.ok.noex b o e),I.base.free b o (I.ok.bs b o e).1 (I.ok.bs b o e).2 (I.ok.noex b o e)⟩
theorem Inv.bk(I:Inv X pins σ H s):∀b o,X.base.get? b=O o->s.heap.get? b=O o:=λb o e=>(I.bs b o e).1
theorem Inv.mod(I:Inv X pins σ H s):Mod X.K X.mg X.base:=I.ok.mod
theorem Inv.kIn(I:Inv X pins σ H s):X.K.In s.heap:=I.ok.mod.kin.keeps I.bk
theorem Inv.fr(I:Inv X pins σ H s):∃m,Fr X.base X.env.locals s.heap m:=
 let ⟨m,hn,_⟩:=I.loc
 ⟨m,hn,I.bk,Qz I.ok.bsz I.ok.above⟩
theorem Inv.lt(I:Inv X pins σ H s):X.env.locals<s.heap.objs.size:=let ⟨_,hn,_⟩:=I.loc;hn.lt
theorem Inv.sz(I:Inv X pins σ H s):X.s₀.heap.objs.size<=s.heap.objs.size:=Qz I.ok.above (Ui I.lt)
theorem Inv.nofs(I:Inv X pins σ H s){a:Uu}(h:s.heap.objs.size<=a):a∉X.fs:=λhb=>by obtain⟨_,o,ho,_⟩:=I.ok.funs.mem hb;exact absurd (Qy (Qf ho) (Qz I.sz h)) (Jz _)
theorem Inv.cne(I:Inv X pins σ H s):∀x c,X.env.cells.lookup x=O c->c≠X.env.locals:=λx c e z=>by obtain⟨v,o,ho,hd⟩:=I.cell x c e;obtain⟨m,⟨o',es,ep,ho',hd',_⟩,_⟩:=I.loc;rw[z,ho']at ho;cases ho;rw[hd']at hd;cases hd
theorem Inv.funs(I:Inv X pins σ H s):s.heap.FunFrames X.base X.outer:=by
 have all:∀(l:List Env),(∀b∈frs l,b∈X.fs)->X.s₀.heap.FunFrames X.base l->s.heap.FunFrames X.base l:=by
  intro l;induction l with
  |nil=>intro _ _;trivial
  |cons env r ih=>
   intro hs hl;obtain⟨hk,⟨L,o,hf,hn,ho,hd⟩,hr⟩:=hl;have hL:L∈X.fs:=hs L (by unfold frs;rw[List.filterMap_cons,hf];exact Qo);obtain⟨sl,e⟩:=I.base.slot L o ho (I.ok.frf L hL) hL λz=>I.ok.exfs L z hL
   exact⟨hk,⟨L,_,hf,hn,e,hd⟩,ih (λb hb=>hs b (by unfold frs;rw[List.filterMap_cons,hf];exact Qp _ hb)) hr⟩
 exact all X.outer (λ_ hb=>hb) I.ok.funs
theorem Inv.stack(I:Inv X pins σ H s):s.heap.FunFrames X.base X.stack:=by
 rcases I.ok.stk with e|⟨e,hf⟩
 .rw[e];exact I.funs
 .rw[e]
  obtain⟨m,hn,_⟩:=I.loc;refine .cons (by rw[I.ok.kind];decide) hf hn ?_ I.funs;exact Heap.get?_none_of_le (Qz I.ok.bsz I.ok.above)
theorem Inv.stkSub(I:Inv X pins σ H s):∀b∈frs X.stack,b∈X.env.locals::X.fs:=λb hb=>by
 rcases I.ok.stk with e|⟨e,hf⟩
 .rw[e]at hb;exact Qp _ hb
 .rw[e]at hb
  unfold frs at hb;rw[List.filterMap_cons,hf]at hb;exact hb
theorem Inv.stkFree(I:Inv X pins σ H s):∀b∈frs X.stack,H b=jQ:=λb hb=>by
 rcases Qu.mp (I.stkSub b hb)with e|hb
 .rw[e];exact I.free
 .obtain⟨_,o,ho,_⟩:=I.ok.funs.mem hb
  exact I.base.free b o ho (I.ok.frf b hb) λz=>I.ok.exfs b z hb
theorem Inv.step{g':Array GenState}{t':Nat}{d':Drawn}{ch:j4}(I:Inv X pins σ H s)
  (hch:∀b∈ch,(b∈X.ex∨X.s₀.heap.objs.size<=b)/\b≠X.env.locals/\(∀x c,X.env.cells.lookup x=O c->c≠b)/\∀p∈X.pn++pins,p.1≠b)
  (keep:∀b o,b≠X.env.locals->b∉X.fs->b∉ch->s.heap.get? b=O o->H b=jQ->h'.get? b=O o)
  (slot:∀b o,b≠X.env.locals->b∈X.fs->b∉ch->s.heap.get? b=O o->H b=jQ->∃sl,h'.get? b=O {o with slots:=sl}) (free:∀b o,b∉ch->s.heap.get? b=O o->H b=jQ->H' b=jQ)
  (there:∀b o,b∉ch->s.heap.get? b=O o->∃o',h'.get? b=O o')
  (tups:∀b xs,H b=O (.tup xs)->H' b=O (.tup xs)) (frzs:∀b o u,H b=O (.frz o u)->H' b=O (.frz o u)) (tbls:∀b ps,H b=O (.tbl ps)->∃more,H' b=O (.tbl (ps++more)))
  (ns:∀m,s.heap.Ns X.env.locals m->h'.Ns X.env.locals m) (hok:HOk X.prog X.w H' h') (hg:AllBare g') :
  Inv X pins σ H' {s with heap:=h',gens:=g',drawn:=d',toks:=t'}:=by
 have neL:∀b o,X.s₀.heap.get? b=O o->b≠X.env.locals:=λb o e=>QI (Qy (Qf e) I.ok.above)
 have neC:∀b o,X.s₀.heap.get? b=O o->b∉X.ex->b∉ch:=λb o e hx hb=>by
  rcases(hch b hb).1 with z|z
  .exact hx z
  .exact absurd (Qy (Qf e) z) (Jz _)
 have cellK:∀x c,X.env.cells.lookup x=O c->∀v,s.heap.IsCell c v->h'.IsCell c v:=λx c e v ⟨o,ho,hd⟩=>by
  have nch:c∉ch:=λz=>(hch c z).2.2.1 x c e jP
  by_cases hc:c∈X.fs
  .obtain⟨sl,q⟩:=slot c o (I.cne x c e) hc nch ho (I.freeC x c e)
   exact⟨_,q,hd⟩
  .exact⟨o,keep c o (I.cne x c e) hc nch ho (I.freeC x c e),hd⟩
 refine⟨I.ok,I.os,hg,⟨λb o e n hb hx=>?_,λb o e n hb hx=>?_,λb o e n hx=>?_,λb o e hx=>?_,λb xs e=>tups b xs (I.base.tups b xs e),λb o xs e=>frzs b o xs (I.base.frzs b o xs e),λb ps e=>?_⟩,?_,λx c e=>?_,?_,λx c e=>?_,λp hp=>?_,hok,I.len⟩
 .exact keep b o (neL b o e) hb (neC b o e hx) (I.base.keep b o e n hb hx) (I.base.free b o e n hx)
 .obtain⟨sl,e1⟩:=I.base.slot b o e n hb hx
  obtain⟨kO,e2⟩:=slot b _ (neL b o e) hb (neC b o e hx) e1 (I.base.free b o e n hx);exact⟨kO,e2⟩
 .obtain⟨o',e1⟩:=I.base.there b o e hx
  exact free b o' (neC b o e hx) e1 (I.base.free b o e n hx)
 .obtain⟨o',e1⟩:=I.base.there b o e hx
  exact there b o' (neC b o e hx) e1
 .obtain⟨m1,e1⟩:=I.base.tbls b ps e
  obtain⟨m2,e2⟩:=tbls b _ e1;exact⟨m1++m2,by rw[e2,Array.append_assoc]⟩
 .obtain⟨m,hn,hl⟩:=I.loc
  refine⟨m,ns m hn,λi x v e1 e2 e3=>?_⟩;obtain⟨u,r,l⟩:=hl i x v e1 e2 e3;refine⟨u,r,?_⟩;rcases l with l|⟨k,c,e,z⟩
  .exact .inl l
  .exact .inr ⟨k,c,e,cellK x c e _ z⟩
 .obtain⟨v,z⟩:=I.cell x c e
  exact⟨v,cellK x c e v z⟩
 .obtain⟨m,⟨o,_,_,ho,_⟩,_⟩:=I.loc
  exact free _ o (λz=>(hch _ z).2.1 jP) ho I.free
 .obtain⟨v,o,ho,hd⟩:=I.cell x c e
  exact free c o (λz=>(hch c z).2.2.1 x c e jP) ho (I.freeC x c e)
 .obtain⟨e,n,ne,nf,d⟩:=I.pin p hp
  have nch:p.1∉ch:=λz=>(hch p.1 z).2.2.2 p hp jP
  exact⟨keep p.1 p.2 ne nf nch e n,free p.1 p.2 nch e n,ne,nf,d⟩
theorem Inv.un{t':Nat}(I:Inv X pins σ H s)(u:Un X.fs [] H H' s.heap h')(hok:HOk X.prog X.w H' h'):Inv X pins σ H' {s with heap:=h',toks:=t'}:=by obtain⟨m,⟨o,es,ep,ho,r⟩,_⟩:=id I.loc;obtain⟨sl,hL⟩:=u.any ho I.free (by simp);exact I.step (g':=s.gens) (d':=s.drawn) (ch:=[]) (λ_ z=>nomatch z) (λb o _ hb _ e n=>u.keep b o e n hb (by simp)) (λb o _ hb _ e n=>u.slot b o e n hb (by simp)) (λb o _ e n=>u.free b o e n (by simp)) (λb o _ e=>u.there b o e (by simp)) u.tups u.frzs u.tbls (λm' hm=>by obtain⟨o',es',ep',ho',r'⟩:=hm;rw[ho]at ho';cases ho';exact⟨_,es',ep',hL,r'⟩) hok I.bare
theorem Inv.call{g':Array GenState}{t':Nat}{d':Drawn}{ch:j4}(I:Inv X pins σ H s)(u:Un (frs X.stack) ch H H' s.heap h')(hok:HOk X.prog X.w H' h')(hg:AllBare g')
  (hch:∀b∈ch,(b∈X.ex∨X.s₀.heap.objs.size<=b)/\b≠X.env.locals/\(∀x c,X.env.cells.lookup x=O c->c≠b)/\∀p∈X.pn++pins,p.1≠b) :
  Inv X pins σ H' {s with heap:=h',gens:=g',drawn:=d',toks:=t'}:=by
 obtain⟨m,⟨o,es,ep,ho,r⟩,_⟩:=id I.loc;obtain⟨sl,hL⟩:=u.any ho I.free λz=>(hch _ z).2.1 jP
 exact I.step (ch:=ch) hch (λb o hL hb hc e n=>u.keep b o e n (λz=>(Qu.mp (I.stkSub b z)).elim hL hb) hc) (λb o _ _ hc e n=>u.any e n hc) (λb o hc e n=>u.free b o e n hc) (λb o hc e=>u.there b o e hc) u.tups u.frzs u.tbls (λm' hm=>by obtain⟨o',es',ep',ho',r'⟩:=hm;rw[ho]at ho';cases ho';exact⟨_,es',ep',hL,r'⟩) hok hg
theorem Inv.turned{t':Nat}{it:Uu}(I:Inv X pins σ H s)(k:∀b o,b≠it->s.heap.get? b=O o->h'.get? b=O o)(hn:H it=jQ)(hL:it≠X.env.locals)
  (h1:it∈X.ex∨X.s₀.heap.objs.size<=it) (h2:∀x c,X.env.cells.lookup x=O c->c≠it) (h3:∀p∈X.pn++pins,p.1≠it):Inv X pins σ H {s with heap:=h',toks:=t'}:=by
 have nit:∀b u,H b=O u->b≠it:=λb u e z=>by rw[z,hn]at e;cases e
 refine I.step (g':=s.gens) (d':=s.drawn) (ch:=[it]) (λb hb=>?_) (λb o _ _ hc e _=>k b o (λz=>hc (by simp[z])) e) (λb o _ _ hc e _=>⟨o.slots,k b o (λz=>hc (by simp[z])) e⟩) (λ_ _ _ _ n=>n)
  (λb o hc e=>⟨o,k b o (λz=>hc (by simp[z])) e⟩) (λ_ _ e=>e) (λ_ _ _ e=>e) (λb ps e=>⟨#[],by rw[e];simp⟩) (λm hm=>?_) (λb u e=>?_) I.bare
 .have e:b=it:=by simpa using hb
  subst e;exact⟨h1,hL,h2,h3⟩
 .obtain⟨o,es,ep,ho,r⟩:=hm
  exact⟨o,es,ep,k _ o (Ne.symm hL) ho,r⟩
 .refine(I.hok b u e).stay (λc v hc q=>k c v ?_ q) (λ_ q=>q) λ_ _ q=>q
  rcases hc with z|z
  .rw[z];exact nit b u e
  .exact nit c _ z
theorem Inv.tok(I:Inv X pins σ H s)(t:Nat):Inv X pins σ H {s with toks:=t}:=I.un (h':=s.heap) (t':=t) Un.refl I.hok
theorem Inv.kept{t':Nat}(I:Inv X pins σ H s)(k:∀b u,s.heap.get? b=O u->h'.get? b=O u):Inv X pins σ H {s with heap:=h',toks:=t'}:=I.un (Un.kept k) (I.hok.kept k)
theorem Inv.laid{a:Uu}{o:HO}{t':Nat}(I:Inv X pins σ H s)(k:∀b u,s.heap.get? b=O u->h'.get? b=O u)(hp:s.heap.objs.size<=a)(new:Zy X.prog X.w (upd H a o) h' a o) :
  Inv X pins σ (upd H a o) {s with heap:=h',toks:=t'}:=I.un (Un.laid k hp (I.hok.fresh hp)) (I.hok.laid k hp new)
theorem Inv.write{x e:Uu}{o:HO}{t':Nat}(I:Inv X pins σ H s)(mu:Mut (H x))(he:e=x∨H e=O (.own x))(k:∀b u,b≠e->s.heap.get? b=O u->h'.get? b=O u)(xQ:∃u,h'.get? e=O u)
  (new:Zy X.prog X.w (upd H x o) h' x o):Inv X pins σ (upd H x o) {s with heap:=h',toks:=t'}:=I.un (Un.write mu he k xQ) (I.hok.write mu he k xQ new)
theorem Inv.pins_of{pins':List (Uu×Obj)}(I:Inv X pins σ H s)(h:∀p∈pins',s.heap.get? p.1=O p.2/\H p.1=jQ/\p.1≠X.env.locals/\p.1∉X.fs/\∀v,p.2.data≠.cell v):Inv X pins' σ H s:=
 ⟨I.ok,I.os,I.bare,I.base,I.loc,I.cell,I.free,I.freeC,λp hp=>(Q0.mp hp).elim (λz=>I.pin p (Jk _ z)) (h p),I.hok,I.len⟩
theorem Mj{N:List Str}(hN:N.Nodup){i j:Nat}{x:Str}(a:N[i]?=O x)(b:N[j]?=O x):i=j:=by obtain⟨h1,e1⟩:=Qq.mp a;obtain⟨h2,e2⟩:=Qq.mp b;exact(List.getElem_inj hN).mp (e1.trans e2.symm)
theorem MJ{M:Model}{A:Around}{E:Ur->Us->Prop}{i:Nat}{x:Str}{v:V}{u:Ur}{Q:Unit->Us->Prop}(I:Inv X pins σ H s)(hN:X.N.Nodup)(hi:X.N[i]?=O x)(hx:Loc X.env.scope x)(r:RelV v u)
  (h:∀s',Inv X pins (σ.set i (O v)) H s'->(∃a,Heap.SameBut a s.heap s'.heap/\(a=X.env.locals∨X.env.cells.lookup x=O a))->Q () s') (hf:X.fn x=jR∨X.env.scope.names.lookup x=O .local:=by first|exact .inl rfl|exact .inr rfl|assumption):Uy M A (storeName X.env x u) Q E s:=by
 obtain⟨m,hn,hl⟩:=id I.loc;have hcls:(X.env.scope.kind==.class || (X.env.scope.kind==.module&&X.env.locals != X.env.globals))=jS:=by rw[I.ok.kind];rfl
 have hiσ:i<σ.length:=by rw[I.len];exact(Qq.mp hi).1
 have cne:=I.cne
 have tracked:∀{a:Uu}{h':Heap},(∃o,s.heap.get? a=O o/\H a=jQ)->Heap.SameBut a s.heap h'->HOk X.prog X.w H h':=λ{a h'} ha hs b ob e=>by
  obtain⟨_,_,hfree⟩:=ha;refine(I.hok b ob e).stay (λc w' hc q=>(hs.2 c ?_).trans q) (λ_ q=>q) λ_ _ q=>q
  rintro rfl;rcases hc with rfl|hc
  .rw[hfree]at e;cases e
  .rw[hfree]at hc;cases hc
 rcases hx with hk|hk
 .refine wpAny_storeName_local hk hn (λh' hn' hs=>?_) hcls
  obtain⟨oL,_,_,xZ,_⟩:=id hn;refine h _ ⟨I.ok,I.os,I.bare,⟨λb o e n hb hx=>?_,λb o e n hb hx=>?_,I.base.free,λb o e hx=>?_,I.base.tups,I.base.frzs,I.base.tbls⟩,⟨_,hn',λj y v' e1 e2 e3=>?_⟩,λy c e=>?_,I.free,I.freeC,λp hp=>?_,tracked ⟨oL,xZ,I.free⟩ hs,by simpa using I.len⟩ ⟨_,hs,.inl jP⟩
  .exact(hs.2 b (QI (Qy (Qf e) I.ok.above))).trans (I.base.keep b o e n hb hx)
  .obtain⟨sl,e1⟩:=I.base.slot b o e n hb hx
   exact⟨sl,(hs.2 b (QI (Qy (Qf e) I.ok.above))).trans e1⟩
  .obtain⟨o',e1⟩:=I.base.there b o e hx
   exact⟨o',(hs.2 b (QI (Qy (Qf e) I.ok.above))).trans e1⟩
  .by_cases hj:j=i
   .subst hj
    rw[hi]at e1;cases e1;rw[QL hiσ]at e2;cases e2;exact⟨u,r,.inl ⟨hk,by simp⟩⟩
   .rw[Qm (Ne.symm hj)]at e2
    obtain⟨u',r',q⟩:=hl j y v' e1 e2 e3;refine⟨u',r',?_⟩;rcases q with ⟨k,e⟩|⟨k,c,e,z⟩
    .refine .inl ⟨k,?_⟩
     have:y≠x:=λe=>hj (Mj hN e1 (e ▸ hi))
     simp[this,e]
    .exact .inr ⟨k,c,e,z.sameBut hs (cne y c e)⟩
  .obtain⟨w',z⟩:=I.cell y c e
   exact⟨w',z.sameBut hs (cne y c e)⟩
  .obtain⟨e,n,ne,nf,d⟩:=I.pin p hp
   exact⟨(hs.2 p.1 ne).trans e,n,ne,nf,d⟩
 .have hfn:X.fn x=jR:=by
   rcases hf with z|z
   .exact z
   .rw[z]at hk;cases hk
  obtain⟨c,hc⟩:=I.ok.has x (.inl hk);obtain⟨w',z⟩:=I.cell x c hc;refine wpAny_storeName_cell I.ok.kind hk hc z (λh' hc' hs=>?_);obtain⟨oc,hoc,hocd⟩:=id z;refine h {s with heap:=h'} ⟨I.ok,I.os,I.bare,⟨λb o e n hb hx=>?_,λb o e n hb hx=>?_,I.base.free,λb o e hx=>?_,I.base.tups,I.base.frzs,I.base.tbls⟩,⟨m,hn.sameBut hs (Ne.symm (cne x c hc)),λj y v' e1 e2 e3=>?_⟩,λy c' e=>?_,I.free,I.freeC,λp hp=>?_,tracked ⟨oc,hoc,I.freeC x c hc⟩ hs,by simpa using I.len⟩ ⟨c,hs,.inr hc⟩
  .exact(hs.2 b (QI (Qy (Qf e) (I.ok.cab x c hfn hc)))).trans (I.base.keep b o e n hb hx)
  .obtain⟨sl,e1⟩:=I.base.slot b o e n hb hx
   exact⟨sl,(hs.2 b (QI (Qy (Qf e) (I.ok.cab x c hfn hc)))).trans e1⟩
  .obtain⟨o',e1⟩:=I.base.there b o e hx
   exact⟨o',(hs.2 b (QI (Qy (Qf e) (I.ok.cab x c hfn hc)))).trans e1⟩
  .by_cases hj:j=i
   .subst hj
    rw[hi]at e1;cases e1;rw[QL hiσ]at e2;cases e2;exact⟨u,r,.inr ⟨.inl hk,c,hc,hc'⟩⟩
   .rw[Qm (Ne.symm hj)]at e2
    obtain⟨u',r',q⟩:=hl j y v' e1 e2 e3;refine⟨u',r',?_⟩;rcases q with q|⟨k,c',e,z'⟩
    .exact .inl q
    .refine .inr ⟨k,c',e,z'.sameBut hs ?_⟩
     rintro rfl;exact hj (Mj hN e1 (I.ok.inj _ _ _ e hc ▸ hi))
  .by_cases hcc:c'=c
   .subst hcc;exact⟨_,hc'⟩
   .obtain⟨w2,z2⟩:=I.cell y c' e
    exact⟨w2,z2.sameBut hs hcc⟩
  .obtain⟨e,n,ne,nf,d⟩:=I.pin p hp
   refine⟨(hs.2 p.1 ?_).trans e,n,ne,nf,d⟩;intro q;rw[q,hoc]at e;have q':oc=p.2:=Jt e;exact d w' (by rw[←q'];exact hocd)
theorem Re{M:Model}{A:Around}{E:Ur->Us->Prop}{i:Nat}{x:Str}{v:V}{u:Ur}{Q:Unit->Us->Prop}(I:Inv X pins σ H s)(hN:X.N.Nodup)(hi:X.N[i]?=O x)(hx:Loc X.env.scope x)(r:RelV v u)
  (h:∀s',Inv X pins (σ.set i (O v)) H s'->Q () s') (hf:X.fn x=jR∨X.env.scope.names.lookup x=O .local:=by first|exact .inl rfl|exact .inr rfl|assumption):Uy M A (storeName X.env x u) Q E s:=
 MJ I hN hi hx r (λs' I' _=>h s' I') hf
theorem Inv.call'{s':Us}{ch:j4}(I:Inv X pins σ H s)(ho:s'.os=s.os)(u:Un (frs X.stack) ch H H' s.heap s'.heap)(hok:HOk X.prog X.w H' s'.heap)(hg:AllBare s'.gens)
  (hch:∀b∈ch,(b∈X.ex∨X.s₀.heap.objs.size<=b)/\b≠X.env.locals/\(∀x c,X.env.cells.lookup x=O c->c≠b)/\∀p∈X.pn++pins,p.1≠b):Inv X pins σ H' s':=by
 obtain⟨h',g',d',t',o'⟩:=s';have e:o'=s.os:=ho;subst e;exact I.call (g':=g') (t':=t') (d':=d') u hok hg hch
end
abbrev XK:=Ur->j7->Hp->Prop
abbrev St:=List (Option V)
abbrev VK:=V->Hp->Prop
abbrev TE:=St->Hp->VK->Prop
abbrev TT:=St->Hp->(Bool->Hp->Prop)->Prop
abbrev TA:=St->Hp->(List V->Hp->Prop)->Prop
structure Ends where
 nx:St->Hp->Prop
 rt:VK
 bk:St->Hp->Prop:=λ_ _=>False
 ct:St->Hp->Prop:=λ_ _=>False
abbrev TS:=Ends->St->Hp->Prop
def EP(X:Cx)(pins:List (Uu×Obj))(σ:St)(Q:VK)(u:Ur)(s':Us):Prop:=∃v H',Inv X pins σ H' s'/\RelV v u/\Q v H'
def TP(X:Cx)(pins:List (Uu×Obj))(σ:St)(Q:Bool->Hp->Prop)(b:Bool)(s':Us):Prop:=∃H',Inv X pins σ H' s'/\Q b H'
def AP(X:Cx)(pins:List (Uu×Obj))(σ:St)(Q:List V->Hp->Prop)(us:jV)(s':Us):Prop:=∃vs H',Inv X pins σ H' s'/\Vals vs us/\Q vs H'
def SP(X:Cx)(pins:List (Uu×Obj))(D:Ends)(f:Flow)(s':Us):Prop:=
 match f with
 |.next=>∃σ' H',Inv X pins σ' H' s'/\D.nx σ' H'
 |.brk=>∃σ' H',Inv X pins σ' H' s'/\D.bk σ' H'
 |.cont=>∃σ' H',Inv X pins σ' H' s'/\D.ct σ' H'
 |.ret u=>∃v σ' H',Inv X pins σ' H' s'/\RelV v u/\D.rt v H'
def PE(X:Cx)(e:Uw)(t:TE):Prop:=
 ∀(pins:List (Uu×Obj))(s:Us)(σ:St)(H:Hp)(Q:VK),Inv X pins σ H s->t σ H Q->Uy (model X.prog X.w) X.A (eval e X.env) (EP X pins σ Q) X.xe s
def PT(X:Cx)(e:Uw)(t:TT):Prop:=
 ∀(pins:List (Uu×Obj))(s:Us)(σ:St)(H:Hp)(Q:Bool->Hp->Prop),Inv X pins σ H s->t σ H Q->Uy (model X.prog X.w) X.A (isTrue e X.env (eval e X.env)) (TP X pins σ Q) X.xe s
def PW(X:Cx)(e:Uw)(t:TT):Prop:=
 ∀(whole:Sem Ur)(pins:List (Uu×Obj))(s:Us)(σ:St)(H:Hp)(Q:Bool->Hp->Prop),Inv X pins σ H s->t σ H Q->Uy (model X.prog X.w) X.A (isTrue e X.env whole) (TP X pins σ Q) X.xe s
theorem PW.pt{X:Cx}{e:Uw}{t:TT}(h:PW X e t):PT X e t:=h _
def PA(X:Cx)(es:jX)(t:TA):Prop:=
 ∀(pos:Pos)(pins:List (Uu×Obj))(s:Us)(σ:St)(H:Hp)(Q:List V->Hp->Prop),Inv X pins σ H s->t σ H Q->Uy (model X.prog X.w) X.A (spliced (backTo pos (Uz es X.env))) (AP X pins σ Q) X.xe s
def PS(X:Cx)(st:Stmt)(t:TS):Prop:=
 ∀(pins:List (Uu×Obj))(s:Us)(σ:St)(H:Hp)(D:Ends),Inv X pins σ H s->t D σ H->Uy (model X.prog X.w) X.A (exec st X.env) (SP X pins D) X.xe s
def PSs(X:Cx)(st:List Stmt)(t:TS):Prop:=
 ∀(pins:List (Uu×Obj))(s:Us)(σ:St)(H:Hp)(D:Ends),Inv X pins σ H s->t D σ H->Uy (model X.prog X.w) X.A (execs st X.env) (SP X pins D) X.xe s
theorem thn{α:Type}{t:Sem α}{Q Q':α->Us->Prop}{M:Model}{A:Around}{E:Ur->Us->Prop}{s:Us}(h:Uy M A t Q E s)(hQ:∀a s,Q a s->Q' a s):Uy M A t Q' E s:=QF h hQ λ_ _ x=>x
section
variable{X:Cx}
noncomputable def KL(i:Nat):TE:=λσ H Q=>∃v,σ[i]?=O (O v)/\Q v H
noncomputable def tC(v:V):TE:=λ_ H Q=>Q v H
theorem OX{i:Nat}{x:Str}{pos:Pos}(hN:X.N[i]?=O x)(hv:Vis X.env.scope x)(hd:(x==("__debug__" : Str))=jS:=by decide)(hcd:(x==("__classdict__" : Str))=jS:=by decide):PE X (.Name x pos) (KL i):=by
 intro pins s σ H Q I h;obtain⟨v,e,h⟩:=h;obtain⟨m,hn,hl⟩:=I.loc;obtain⟨u,r,l⟩:=hl i x v hN e hv;have fin:EP X pins σ Q u s:=⟨v,H,I,r,h⟩;rcases l with ⟨hk,hm⟩|⟨hk,c,hc,hcell⟩
 .exact wpAny_Name (wpAny_loadName_local I.ok.kind hk hn hm fin) hd
 .rcases hk with hk|hk
  .exact wpAny_Name (wpAny_loadName_cell I.ok.kind hk hc hcell fin) hd
  .exact wpAny_Name (wpAny_loadName_free I.ok.kind hk hc hcell fin hcd) hd
theorem De{i j pos}:PE X (.Constant (.int i) j pos) (tC (.int i)):=λ_ _ _ H _ I h=>wpAny_Constant_int ⟨.int i,H,I.tok _,⟨_,rfl⟩,h⟩
theorem GS{b j pos}:PE X (.Constant (.bool b) j pos) (tC (.bl b)):=λ_ _ _ H _ I h=>Constant_bool ⟨.bl b,H,I,rfl,h⟩
theorem Dd{j pos}:PE X (.Constant .none j pos) (tC .non):=λ_ _ _ H _ I h=>Constant_none ⟨.non,H,I,rfl,h⟩
theorem RT{x j pos}:PE X (.Constant (.str x) j pos) (tC (.str x)):=λ_ _ _ H _ I h=>Calls.Constant_str ⟨.str x,H,I.tok _,⟨_,rfl⟩,h⟩
def Gl(X:Cx)(x:Str):Prop:=X.env.kindOf x=O .globalImplicit
theorem Vg{E:Ur->Us->Prop}{pins:List (Uu×Obj)}{s:Us}{σ:St}{H:Hp}{x:Str}{u:Ur}{pos:Pos}{Q:Ur->Us->Prop}(I:Inv X pins σ H s)(hg:Gl X x)(hm:X.mg x=O u)(h:Q u s)
  (hd:(x==("__debug__" : Str))=jS:=by decide):Uy (model X.prog X.w) X.A (eval (.Name x pos) X.env) Q E s:=
 Calls.Name_function_global I.ok.kind hg (Calls.loadGlobal_global (by rw[I.ok.glob];exact I.mod.glob.keeps I.bk) hm h) hd
theorem XV{E:Ur->Us->Prop}{pins:List (Uu×Obj)}{s:Us}{σ:St}{H:Hp}{x:Str}{u:Ur}{pos:Pos}{Q:Ur->Us->Prop}(I:Inv X pins σ H s)(hg:Gl X x)(hm:X.mg x=jQ)(hv:bootBuiltins x=O u)(h:Q u s)
  (hn:x ≠ "__name__" :=by decide) (hd:(x==("__debug__" : Str))=jS:=by decide):Uy (model X.prog X.w) X.A (eval (.Name x pos) X.env) Q E s:=by
 obtain⟨mb,h1,h2⟩:=I.mod.blt;exact Calls.Name_function_global I.ok.kind hg (Calls.loadGlobal_builtin (by rw[I.ok.glob];exact I.mod.glob.keeps I.bk) hm (by rw[I.ok.blt];exact h1.keeps I.bk) ((h2 x hn).trans hv) h) hd
theorem NZ{x:Str}{v:V}{u:Ur}{pos:Pos}(hg:Gl X x)(hm:X.mg x=O u)(r:RelV v u)(hd:(x==("__debug__" : Str))=jS:=by decide):PE X (.Name x pos) (tC v):=
 λ_ _ _ H _ I h=>Vg I hg hm ⟨v,H,I,r,h⟩ hd
theorem NY{x:Str}{v:V}{u:Ur}{pos:Pos}(hg:Gl X x)(hm:X.mg x=jQ)(hv:bootBuiltins x=O u)(r:RelV v u)(hn:x ≠ "__name__" :=by decide)(hd:(x==("__debug__" : Str))=jS:=by decide):PE X (.Name x pos) (tC v):=
 λ_ _ _ H _ I h=>XV I hg hm hv ⟨v,H,I,r,h⟩ hn hd
variable{a b:Uw}{ta tb:TE}{pos:Pos}
noncomputable def tB(t:TE):TT:=λσ H Q=>t σ H λx H1=>∃c,x=.bl c/\Q c H1
theorem Dc{e:Uw}{t:TE}(h:PE X e t)(he:∀whole,isTrue e X.env whole=(do let v ←whole;standAt e.pos;holding [v] (truthy v)):=by intro _;rfl):PT X e (tB t):=by intro pins s σ H Q I hw;refine isTrue_plain (thn (h pins s σ H _ I hw) λv s1 ⟨x,H1,I1,r1,q1⟩=>?_) (he _);obtain⟨d,rfl,q⟩:=q1;cases r1;exact Q6 ⟨H1,I1,q⟩
variable{tA tB':TT}{rest:jX}
noncomputable def tAnd(t u:TT):TT:=λσ H Q=>t σ H λc H1=>if c=jR then u σ H1 Q else Q jS H1
noncomputable def tOr(t u:TT):TT:=λσ H Q=>t σ H λc H1=>if c=jR then Q jR H1 else u σ H1 Q
noncomputable def tNot(t:TT):TT:=λσ H Q=>t σ H λc H1=>Q (!c) H1
theorem Dy(ha:PT X a tA):PW X (.BoolOp .And [a] pos) tA:=by
 intro wh pins s σ H Q I h;refine isTrue_and (thn (ha pins s σ H Q I h) λc s1 e=>?_);cases c with
 |true=>exact isTrue_and_nil e
 |false=>exact e
theorem Db(ha:PT X a tA):PW X (.BoolOp .Or [a] pos) tA:=by
 intro wh pins s σ H Q I h;refine isTrue_or (thn (ha pins s σ H Q I h) λc s1 e=>?_);cases c with
 |false=>exact isTrue_or_nil e
 |true=>exact e
theorem Da(ha:PT X a tA)(hb:PW X (.BoolOp .And (b::rest) pos) tB'):PW X (.BoolOp .And (a::b::rest) pos) (tAnd tA tB'):=by
 intro wh pins s σ H Q I h;refine isTrue_and (thn (ha pins s σ H _ I h) λc s1 ⟨H1,I1,q1⟩=>?_);cases c with
 |true=>exact hb wh pins s1 σ H1 Q I1 q1
 |false=>exact⟨H1,I1,q1⟩
theorem GR(ha:PT X a tA)(hb:PW X (.BoolOp .Or (b::rest) pos) tB'):PW X (.BoolOp .Or (a::b::rest) pos) (tOr tA tB'):=by
 intro wh pins s σ H Q I h;refine isTrue_or (thn (ha pins s σ H _ I h) λc s1 ⟨H1,I1,q1⟩=>?_);cases c with
 |true=>exact⟨H1,I1,q1⟩
 |false=>exact hb wh pins s1 σ H1 Q I1 q1
theorem E9(ha:PT X a tA):PT X (.UnaryOp .Not a pos) (tNot tA):=by intro pins s σ H Q I h;exact isTrue_not (ha pins s σ H (λc H1=>Q (!c) H1) I h)
noncomputable def GQ(ta tb:TE):TE:=λσ H Q=>ta σ H λx H1=>∃c,x=.bl c/\if c=jR then tb σ H1 Q else Q (.bl jS) H1
noncomputable def tOrV(ta tb:TE):TE:=λσ H Q=>ta σ H λx H1=>∃c,x=.bl c/\if c=jR then Q (.bl jR) H1 else tb σ H1 Q
noncomputable def GP(ta:TE):TE:=λσ H Q=>ta σ H λx H1=>∃c,x=.bl c/\Q (.bl (!c)) H1
theorem E8{op}{t:TE}(h:PE X a t):PE X (.BoolOp op [a] pos) t:=λpins s σ H Q I hw=>BoolOp_one (h pins s σ H Q I hw)
theorem E7(ha:PE X a ta)(hb:PE X (.BoolOp .And (b::rest) pos) tb):PE X (.BoolOp .And (a::b::rest) pos) (GQ ta tb):=by
 intro pins s σ H Q I h;refine BoolOp_and (thn (ha pins s σ H _ I h) λv s1 ⟨x,H1,I1,r1,q1⟩=>?_);obtain⟨c,rfl,q1⟩:=q1;cases r1;refine Q6 ?_;cases c with
 |true=>exact hb pins s1 σ H1 Q I1 q1
 |false=>exact⟨.bl jS,H1,I1,rfl,q1⟩
theorem GO(ha:PE X a ta)(hb:PE X (.BoolOp .Or (b::rest) pos) tb):PE X (.BoolOp .Or (a::b::rest) pos) (tOrV ta tb):=by
 intro pins s σ H Q I h;refine BoolOp_or (thn (ha pins s σ H _ I h) λv s1 ⟨x,H1,I1,r1,q1⟩=>?_);obtain⟨c,rfl,q1⟩:=q1;cases r1;refine Q6 ?_;cases c with
 |false=>exact hb pins s1 σ H1 Q I1 q1
 |true=>exact⟨.bl jR,H1,I1,rfl,q1⟩
theorem E6(ha:PE X a ta):PE X (.UnaryOp .Not a pos) (GP ta):=by intro pins s σ H Q I h;refine UnaryOp_ (thn (ha pins s σ H _ I h) λv s1 ⟨x,H1,I1,r1,q1⟩=>?_);obtain⟨c,rfl,q1⟩:=q1;cases r1;exact not_of (Q6 ⟨.bl (!c),H1,I1,rfl,q1⟩)
end
def SqL(K:Frag)(H:Hp)(a:Uu)(xs:List V):Prop:=
 Rd H a (.lst xs) ∨
  ∃(o:Obj)(its:Array Ur)(n:Nat),K.lookup a=O o/\o.cls=.type "list" /\ o.dict=jQ/\o.data=.seq its n/\its.size<=Ux/\Vals xs its.toList
def SqT(K:Frag)(H:Hp)(a:Uu)(xs:List V):Prop:=
 Rd H a (.tup xs) ∨
  ∃(o:Obj)(its:Array Ur)(n:Nat),K.lookup a=O o/\o.cls=.type "tuple" /\ o.data=.seq its n/\its.size<=Ux/\Vals xs its.toList
noncomputable def absV:Ur->Option V
 |.none=>O .non
 |.bool b=>O (.bl b)
 |.int i _=>O (.int i)
 |.str x _=>O (.str x)
 |.bytes b _=>O (.byt b)
 |.float b _=>O (.flt b)
 |.ref a=>O (.ref a)
 |.type n=>O (.ty n)
 |_=>jQ
theorem RelV.abs{x:V}{u:Ur}(r:RelV x u):absV u=O x:=by
 cases x with
 |non=>cases r;rfl
 |bl _=>cases r;rfl
 |int _=>obtain⟨t,rfl⟩:=r;rfl
 |str _=>obtain⟨t,rfl⟩:=r;rfl
 |byt _=>obtain⟨t,rfl⟩:=r;rfl
 |flt _=>obtain⟨t,rfl⟩:=r;rfl
 |ref _=>cases r;rfl
 |ty _=>cases r;rfl
theorem RelV.inj{x y:V}{u:Ur}(r:RelV x u)(q:RelV y u):x=y:=Jt (r.abs.symm.trans q.abs)
theorem Vals.inj:∀{xs ys:List V}{us:jV},Vals xs us->Vals ys us->xs=ys
 |_,_,_,.nil,.nil=>rfl
 |_,_,_,.cons r t,.cons r' t'=>by rw[r.inj r',Vals.inj t t']
section
variable{X:Cx}{pins:List (Uu×Obj)}{σ:St}{H:Hp}{s:Us}{a:Uu}{xs ys:List V}
theorem SqL.of{K:Frag}(h:H a=O (.lst xs)):SqL K H a xs:=.inl (.inl h)
theorem SqT.of{K:Frag}(h:H a=O (.tup xs)):SqT K H a xs:=.inl (.inl h)
theorem Inv.list(I:Inv X pins σ H s)(h:SqL X.K H a xs):∃its:jV,Vals xs its/\PlainL s.heap a its.toArray/\xs.length<=Ux:=by
 rcases h with h|⟨o,its,n,hk,hc,hd,hs,hz,r⟩
 .obtain⟨z,its,n,r,e⟩:=h.ok I.hok
  exact⟨its,r,⟨_,n,e,rfl,rfl,rfl⟩,z⟩
 .refine⟨its.toList,r,⟨o,n,I.kIn a o hk,hc,hd,by simpa using hs⟩,?_⟩
  have e:=r.length;simp only[Uc]at e;omega
theorem Inv.tuple(I:Inv X pins σ H s)(h:SqT X.K H a xs):∃its:jV,Vals xs its/\IsTup s.heap a its.toArray/\xs.length<=Ux:=by
 rcases h with h|⟨o,its,n,hk,hc,hs,hz,r⟩
 .obtain⟨z,its,r,p⟩:=h.ok I.hok
  exact⟨its,r,p,z⟩
 .refine⟨its.toList,r,⟨o,I.kIn a o hk,hc,n,by simpa using hs⟩,?_⟩
  have e:=r.length;simp only[Uc]at e;omega
theorem Inv.list_inj(I:Inv X pins σ H s)(h:SqL X.K H a xs)(h':SqL X.K H a ys):xs=ys:=by
 obtain⟨its,r,⟨o,n,e,_,_,d⟩,_⟩:=I.list h;obtain⟨its',r',⟨o',n',e',_,_,d'⟩,_⟩:=I.list h';rw[e]at e';cases e';rw[d]at d';injection d' with d1 _
 have:its=its':=by simpa using congrArg Array.toList d1
 subst this;exact r.inj r'
theorem Inv.tuple_inj(I:Inv X pins σ H s)(h:SqT X.K H a xs)(h':SqT X.K H a ys):xs=ys:=by
 obtain⟨its,r,⟨o,e,_,n,d⟩,_⟩:=I.tuple h;obtain⟨its',r',⟨o',e',_,n',d'⟩,_⟩:=I.tuple h';rw[e]at e';cases e';rw[d]at d';injection d' with d1 _
 have:its=its':=by simpa using congrArg Array.toList d1
 subst this;exact r.inj r'
end
noncomputable abbrev Cx.wish(X:Cx)(E:Ur->Us->Prop):Cx:={X with xe:=E}
noncomputable abbrev Cx.nox(X:Cx):Cx:=X.wish λ_ _=>False
theorem Cx.Ok.wish{X:Cx}(ok:X.Ok)(E:Ur->Us->Prop):(X.wish E).Ok:=
 ⟨ok.mod,ok.kind,ok.glob,ok.blt,ok.above,ok.inj,ok.has,ok.cab,ok.hd,ok.frames,ok.stk,ok.exf,ok.bs,ok.bsz,ok.noex,ok.exfs,ok.funs,ok.frf⟩
theorem Cx.Ok.unwish{X:Cx}{E:Ur->Us->Prop}(ok:(X.wish E).Ok):X.Ok:=
 ⟨ok.mod,ok.kind,ok.glob,ok.blt,ok.above,ok.inj,ok.has,ok.cab,ok.hd,ok.frames,ok.stk,ok.exf,ok.bs,ok.bsz,ok.noex,ok.exfs,ok.funs,ok.frf⟩
section
variable{X:Cx}{pins:List (Uu×Obj)}{σ:St}{H:Hp}{s:Us}{E:Ur->Us->Prop}
theorem Inv.wish(I:Inv X pins σ H s)(E:Ur->Us->Prop):Inv (X.wish E) pins σ H s:=⟨I.ok.wish E,I.os,I.bare,I.base,I.loc,I.cell,I.free,I.freeC,I.pin,I.hok,I.len⟩
theorem Inv.unwish(I:Inv (X.wish E) pins σ H s):Inv X pins σ H s:=⟨I.ok.unwish,I.os,I.bare,I.base,I.loc,I.cell,I.free,I.freeC,I.pin,I.hok,I.len⟩
theorem SP.unwish{D:Ends}{f:Flow}{s':Us}(h:SP (X.wish E) pins D f s'):SP X pins D f s':=by
 cases f with
 |next=>obtain⟨σ',H',I,q⟩:=h;exact⟨σ',H',I.unwish,q⟩
 |brk=>obtain⟨σ',H',I,q⟩:=h;exact⟨σ',H',I.unwish,q⟩
 |cont=>obtain⟨σ',H',I,q⟩:=h;exact⟨σ',H',I.unwish,q⟩
 |ret u=>obtain⟨v,σ',H',I,r,q⟩:=h;exact⟨v,σ',H',I.unwish,r,q⟩
theorem PSs.nox{st:List Stmt}{t:TS}(h:PSs X.nox st t):PSs X st t:=λpins s σ H D I hw=>
 QF (h pins s σ H D (I.wish _) hw) (λ_ _ q=>q.unwish) λ_ _ z=>False.elim z
end
section
variable{X:Cx}{st:Stmt}{rest:List Stmt}{t u:TS}{e:Uw}{te:TE}{pos:Pos}
noncomputable def GN:TS:=λD σ H=>D.nx σ H
noncomputable def Vp(t u:TS):TS:=λD σ H=>t {D with nx:=u D} σ H
theorem Dx:PSs X [] GN:=λ_ _ σ H _ I h=>wpAny_execs_nil ⟨σ,H,I,h⟩
theorem Rk(h1:PS X st t)(h2:PSs X rest u):PSs X (st::rest) (Vp t u):=by
 intro pins s σ H D I h;refine wpAny_execs_cons (thn (h1 pins s σ H {D with nx:=u D} I h) λf s1 q=>?_);cases f with
 |next=>obtain⟨σ',H',I',q⟩:=q;exact h2 pins s1 σ' H' D I' q
 |ret v=>exact q
 |brk=>exact q
 |cont=>exact q
theorem SY(h1:PS X st t):PSs X [st] t:=by
 intro pins s σ H D I h;refine wpAny_execs_cons (thn (h1 pins s σ H D I h) λf s1 q=>?_);cases f with
 |next=>exact wpAny_execs_nil q
 |ret v=>exact q
 |brk=>exact q
 |cont=>exact q
theorem Inv.quiet{pins:List (Uu×Obj)}{σ:St}{H:Hp}{s:Us}(I:Inv X pins σ H s):interactive X.env=jS:=by simp[interactive,I.ok.kind]
noncomputable def RL(te:TE):TS:=λD σ H=>te σ H λ_ H1=>D.nx σ H1
theorem T8(he:PE X e te)(hs:swapsWith e jQ pos.line X.env=pure jS:=by rfl):PS X (.Expr e pos) (RL te):=by intro pins s σ H D I h;exact wpAny_Expr_any (thn (he pins s σ H _ I h) λv s1 ⟨x,H1,I1,r1,q1⟩=>⟨σ,H1,I1,q1⟩) I.quiet hs
noncomputable def tRet(te:TE):TS:=λD σ H=>te σ H D.rt
theorem RS(he:PE X e te):PS X (.Return (O e) pos) (tRet te):=by intro pins s σ H D I h;exact wpAny_Return_some (thn (he pins s σ H _ I h) λv s1 ⟨x,H1,I1,r1,q1⟩=>⟨x,σ,H1,I1,r1,q1⟩)
noncomputable def tIfS(c:TT)(t u:TS):TS:=λD σ H=>c σ H λb H1=>if b=jR then t D σ H1 else u D σ H1
theorem GM{c:Uw}{a b:List Stmt}{tc:TT}(hc:PT X c tc)(ha:PSs X a t)(hb:PSs X b u):PS X (.If c a b pos) (tIfS tc t u):=by
 intro pins s σ H D I h;refine wpAny_If (thn (hc pins s σ H _ I h) λd s1 ⟨H1,I1,q1⟩=>?_);cases d with
 |true=>exact ha pins s1 σ H1 D I1 q1
 |false=>exact hb pins s1 σ H1 D I1 q1
end
abbrev TG:=V->St->Hp->(St->Hp->Prop)->Prop
abbrev TGs:=List V->St->Hp->(St->Hp->Prop)->Prop
def PG(X:Cx)(target:Uw)(t:TG):Prop:=
 ∀(pins:List (Uu×Obj))(s:Us)(σ:St)(H:Hp)(v:V)(u:Ur)(Q:St->Hp->Prop),Inv X pins σ H s->RelV v u->t v σ H Q ->
  Uy (model X.prog X.w) X.A (assign target X.env u) (λ_ s'=>∃σ' H',Inv X pins σ' H' s'/\Q σ' H') X.xe s
def PGs(X:Cx)(ts:jX)(t:TGs):Prop:=
 ∀(pins:List (Uu×Obj))(s:Us)(σ:St)(H:Hp)(vs:List V)(us:jV)(Q:St->Hp->Prop),Inv X pins σ H s->Vals vs us->t vs σ H Q ->
  Uy (model X.prog X.w) X.A (assignInOrder ((UO ts X.env).map (·.2)) us) (λ_ s'=>∃σ' H',Inv X pins σ' H' s'/\Q σ' H') X.xe s
section
variable{X:Cx}{pos:Pos}
noncomputable def TK(i:Nat):TG:=λv σ H Q=>Q (σ.set i (O v)) H
theorem SX{i:Nat}{x:Str}(hN:X.N.Nodup)(hi:X.N[i]?=O x)(hx:Loc X.env.scope x)(hf:X.fn x=jR∨X.env.scope.names.lookup x=O .local:=by first|exact .inl rfl|exact .inr rfl|assumption):PG X (.Name x pos) (TK i):=by intro pins s σ H v u Q I r h;exact wpAny_assign_Name (Re I hN hi hx r (λs' I'=>⟨_,H,I',h⟩) hf)
noncomputable def gNil:TGs:=λvs σ H Q=>vs=[]/\Q σ H
noncomputable def RK(t:TG)(u:TGs):TGs:=λvs σ H Q=>∃v r,vs=v::r/\t v σ H λσ' H'=>u r σ' H' Q
theorem NX:PGs X [] gNil:=by intro pins s σ H vs us Q I r h;obtain⟨e,h⟩:=h;subst e;cases r;exact assignInOrder_nil ⟨σ,H,I,h⟩
theorem Pz{e:Uw}{es:jX}{t:TG}{u:TGs}(h1:PG X e t)(h2:PGs X es u)
  (hs:(UO (e::es) X.env).map (·.2)=assign e X.env::(UO es X.env).map (·.2):=by rfl):PGs X (e::es) (RK t u):=by
 intro pins s σ H vs us Q I r h;obtain⟨v,vr,e1,h⟩:=h;subst e1;cases r with
 |cons r rr=>rw[hs];refine assignInOrder_cons (thn (h1 pins s σ H _ _ _ I r h) λ_ s1 ⟨σ1,H1,I1,q1⟩=>?_);exact h2 pins s1 σ1 H1 _ _ Q I1 rr q1
noncomputable def gTup(K:Frag)(n:Nat)(t:TGs):TG:=λv σ H Q=>∃a xs,v=.ref a/\SqT K H a xs/\xs.length=n/\t xs σ H Q
theorem OW{es:jX}{k:Nat}{t:TGs}{n:Nat}(hc:X.calm=jR)(h:PGs X es t)
  (hn:(UO es X.env).length=n:=by rfl) (hst:(UO es X.env).findIdx? (·.1)=jQ:=by rfl):PG X (.Tuple es k pos) (gTup X.K n t):=by
 intro pins s σ H v u Q I r hw;obtain⟨a,xs,e1,hq,hl,hw⟩:=hw;subst e1;cases r;obtain⟨its,rv,ht,hz⟩:=I.tuple hq;refine assign_Tuple_tuple (I.ok.hd hc) ht (by simp[hn,←hl,rv.length]) hst λh' hx=>?_
 have I1:Inv X pins σ H {s with heap:=h'}:=I.kept (t':=s.toks) λb o e=>hx b o (QI (Qf e)) e;exact h pins _ σ H xs _ Q I1 (by simpa using rv) hw
noncomputable def tAsg(te:TE)(g:TG):TS:=λD σ H=>te σ H λx H1=>g x σ H1 D.nx
theorem OV{tg e:Uw}{te:TE}{g:TG}(he:PE X e te)(hg:PG X tg g)(hs:swapsWithSole [tg] e pos.line X.env=pure jS:=by rfl)(hw:swappedStores [tg] e X.env=pure jQ:=by rfl)
  (h1:(UO [tg] X.env).map (·.2)=[assign tg X.env]:=by rfl):PS X (.Assign [tg] e pos) (tAsg te g):=by
 intro pins s σ H D I h;refine wpAny_Assign_stores (thn (he pins s σ H _ I h) λv s1 ⟨x,H1,I1,r1,q1⟩=>?_) hs hw;rw[h1];exact thn (hg pins s1 σ H1 x v _ I1 r1 q1) λ_ s2 q=>q
theorem RR{i:Nat}{x:Str}{e:Uw}{te:TE}{pos':Pos}(hN:X.N.Nodup)(hi:X.N[i]?=O x)(hx:Loc X.env.scope x)(he:PE X e te)(hs:swapsWith e (O (.Name x pos')) pos.line X.env=pure jS:=by rfl)(hf:X.fn x=jR∨X.env.scope.names.lookup x=O .local:=by first|exact .inl rfl|exact .inr rfl|assumption) :
  PS X (.Assign [.Name x pos'] e pos) (tAsg te (TK i)):=by
 intro pins s σ H D I h;refine wpAny_Assign_Name (thn (he pins s σ H _ I h) λv s1 ⟨y,H1,I1,r1,q1⟩=>?_) hs;exact Re I1 hN hi hx r1 (λs2 I2=>⟨_,H1,I2,q1⟩) hf
end
structure It where
 go:Nat->Hp->Prop
 yld:Nat->Hp->V->Hp->Prop
 stop:Nat->Hp->Prop
def Zt(X:Cx)(pins:List (Uu×Obj))(H:Hp)(b:Uu):Prop:=
 H b=jQ/\b≠X.env.locals/\b∉X.fs/\(b∈X.ex∨X.s₀.heap.objs.size<=b)/\(∀x c,X.env.cells.lookup x=O c->c≠b)/\∀p∈X.pn++pins,p.1≠b
theorem Inv.fpOk{X:Cx}{pins:List (Uu×Obj)}{σ:St}{H H':Hp}{s:Us}{b:Uu}(I:Inv X pins σ H s)(hb:s.heap.objs.size<=b)(hn:H' b=jQ):Zt X pins H' b:=by
 refine⟨hn,Jl (Qy I.lt hb),I.nofs hb,.inr (Qz I.sz hb),λx c e z=>?_,λp hp z=>?_⟩
 .obtain⟨v,q⟩:=I.cell x c e
  exact absurd (Qy q.lt (by rw[z];exact hb)) (Jz _)
 .exact absurd (Qy (Qf (I.pin p hp).1) (by rw[z];exact hb)) (Jz _)
structure Turn(P:Ut)(w:World)(K:Frag)(tg:Uw)(J:It)(fp:j4)(it:Uu)(tn:Nat->Heap->Prop):Prop where
 mem:it∈fp
 obj:∀i h,tn i h->∀b∈fp,∃o,h.get? b=O o/\∀v,o.data≠.cell v
 keep:∀i h h',tn i h->(∀b∈fp,∀o,h.get? b=O o->h'.get? b=O o)->tn i h'
 item:∀(X:Cx),X.prog=P->X.w=w->X.K=K->X.calm=jR->∀(i:Nat)(pins:List (Uu×Obj))(s:Us)(σ:St)(H:Hp)(E:Ur->Us->Prop),Inv X pins σ H s->(∀b∈fp,Zt X pins H b)->tn i s.heap->J.go i H ->
  Uy (model P w) X.A (pyNext (.ref it)) (λr s1=>∃u,r=O u /\
   Uy (model P w) X.A (letOwnedTupleGo tg (.ref it) u) (λ_ s2=>∃x H',Inv X pins σ H' s2/\RelV x u/\J.yld i H x H'/\tn (i+1) s2.heap/\∀b∈fp,H' b=jQ) E s1) E s
 done:∀(X:Cx),X.prog=P->X.w=w->X.K=K->X.calm=jR->∀(i:Nat)(pins:List (Uu×Obj))(s:Us)(σ:St)(H:Hp)(E:Ur->Us->Prop),Inv X pins σ H s->(∀b∈fp,Zt X pins H b)->tn i s.heap->J.stop i H ->
  Uy (model P w) X.A (pyNext (.ref it)) (λr s1=>r=jQ/\Inv X pins σ H s1) E s
 self:∀(A:Around)(i:Nat)(s:Us)(Q:Ur->Us->Prop)(E:Ur->Us->Prop),tn i s.heap->Q (.ref it) s->Uy (model P w) A (pyIter (.ref it)) Q E s
abbrev TI:=St->Hp->(It->Hp->Prop)->Prop
def PIE(X:Cx)(pins:List (Uu×Obj))(σ:St)(tg:Uw)(R:It->Hp->Prop)(itv:Ur)(s2:Us):Prop:=
 ∃(it:Uu)(fp:j4)(tn:Nat->Heap->Prop)(J:It)(H':Hp),itv=.ref it/\Inv X pins σ H' s2/\Turn X.prog X.w X.K tg J fp it tn/\tn 0 s2.heap/\(∀b∈fp,Zt X pins H' b)/\R J H'
def PI(X:Cx)(tg iter:Uw)(wi:TI):Prop:=
 ∀(pins:List (Uu×Obj))(s:Us)(σ:St)(H:Hp)(R:It->Hp->Prop),Inv X pins σ H s->wi σ H R ->
  Uy (model X.prog X.w) X.A (eval iter X.env) (λv s1=>Uy (model X.prog X.w) X.A (pyIter v) (PIE X pins σ tg R) X.xe s1) X.xe s
theorem Sy{M:Model}{A:Around}{E:Ur->Us->Prop}{s:Us}{tg:Uw}{it:Uu}{u:Ur}{o:Obj}{n:String}{vs:Array Ur}{Q:Unit->Us->Prop}(ho:s.heap.get? it=O o)(hc:o.cls=.type n)(hd:o.data=.fields vs)
  (hn:["enumerate", "zip", "dict_itemiterator", "dict_reverseitemiterator", "odict_iterator", "itertools.zip_longest", "itertools.pairwise"].contains n=jS) (hQ:Q () s):Uy M A (letOwnedTupleGo tg (.ref it) u) Q E s:=by
 unfold letOwnedTupleGo
 cases tg<;>first
  |exact Qg hQ
  |(cases u<;>first
    |exact Qg hQ
    |(
      refine Qb (wpAny_load ho ?_);rw[hc,hd];show Uy M A (if(["enumerate", "zip", "dict_itemiterator", "dict_reverseitemiterator", "odict_iterator", "itertools.zip_longest", "itertools.pairwise"].contains n&&vs[0]?==O (rawInt _))=jR then _ else _) Q E s;rw[QE (by intro h;rw[hn,Ua]at h;cases h)];exact Qg hQ))
noncomputable def Itl(K:Frag)(a:Uu):It:=
 ⟨λi H=>∃xs x,SqL K H a xs/\xs[i]?=O x,λi H x H'=>H'=H/\∀xs,SqL K H a xs->xs[i]?=O x,λi H=>∃xs,SqL K H a xs/\xs.length<=i⟩
noncomputable def Itt(K:Frag)(a:Uu):It:=
 ⟨λi H=>∃xs x,SqT K H a xs/\xs[i]?=O x,λi H x H'=>H'=H/\∀xs,SqT K H a xs->xs[i]?=O x,λi H=>∃xs,SqT K H a xs/\xs.length<=i⟩
noncomputable def Itr(lo:Int)(n:Nat):It:=⟨λi _=>i<n,λi H x H'=>H'=H/\x=.int (lo+i),λi _=>n<=i⟩
theorem qe{P:Ut}{w:World}{K:Frag}{tg:Uw}(a it:Uu):Turn P w K tg (Itl K a) [it] it (λi h=>h.IsListIter it a i) where
 mem:=by simp
 obj:=λi h st b hb=>by
  have e:b=it:=by simpa using hb
  subst e;obtain⟨o,e,c,d⟩:=st;exact⟨o,e,λv z=>by rw[d]at z;cases z⟩
 keep:=λi h h' st k=>st.at λo e=>k it (by simp) o e
 item:=by
  intro X hP hw hK hc i pins s σ H E I hf st hg;subst hP hw hK;obtain⟨xs,x,hq,hx⟩:=hg;obtain⟨its,rv,p,hz⟩:=I.list hq;obtain⟨u,hu,ru⟩:=rv.get hx;obtain⟨f0,f1,f2,f3,f4,f5⟩:=hf it (by simp);refine wpAny_pyNext_list_item st p.isList (x:=u) (by simpa using hu) λh' st' sb=>?_
  have I1:Inv X pins σ H {s with heap:=h'}:=I.turned (t':=s.toks) (λb o hb e=>(sb.2 b hb).trans e) f0 f1 f3 f4 f5;obtain⟨o,e,c,d⟩:=id st';exact⟨u,rfl,Sy (s:={s with heap:=h'}) e c d (by decide) ⟨x,H,I1,ru,⟨rfl,λys hy=>by rw[I.list_inj hy hq];exact hx⟩,st',λb hb=>(hf b hb).1⟩⟩
 done:=by intro X hP hw hK hc i pins s σ H E I hf st hg;subst hP hw hK;obtain⟨xs,hq,hx⟩:=hg;obtain⟨its,rv,p,hz⟩:=I.list hq;obtain⟨f0,f1,f2,f3,f4,f5⟩:=hf it (by simp);have hl:=rv.length;exact wpAny_pyNext_list_end (I.ok.hd hc) st p.isList (by simp;omega) λh' eb=>⟨rfl,I.turned (t':=s.toks) (λb o hb e=>eb b o hb e) f0 f1 f3 f4 f5⟩
 self:=λ_ _ _ _ _ st h=>wpAny_pyIter_listiter st h
theorem qH{P:Ut}{w:World}{K:Frag}{tg:Uw}(a it:Uu):Turn P w K tg (Itt K a) [it] it (λi h=>h.IsTupleIter it a i) where
 mem:=by simp
 obj:=λi h st b hb=>by
  have e:b=it:=by simpa using hb
  subst e;obtain⟨o,e,c,d⟩:=st;exact⟨o,e,λv z=>by rw[d]at z;cases z⟩
 keep:=λi h h' st k=>st.at λo e=>k it (by simp) o e
 item:=by
  intro X hP hw hK hc i pins s σ H E I hf st hg;subst hP hw hK;obtain⟨xs,x,hq,hx⟩:=hg;obtain⟨its,rv,p,hz⟩:=I.tuple hq;obtain⟨u,hu,ru⟩:=rv.get hx;obtain⟨f0,f1,f2,f3,f4,f5⟩:=hf it (by simp);refine wpAny_pyNext_tuple_item st (show s.heap.IsTuple a its.toArray from p) (x:=u) (by simpa using hu) λh' st' sb=>?_
  have I1:Inv X pins σ H {s with heap:=h'}:=I.turned (t':=s.toks) (λb o hb e=>(sb.2 b hb).trans e) f0 f1 f3 f4 f5;obtain⟨o,e,c,d⟩:=id st';exact⟨u,rfl,Sy (s:={s with heap:=h'}) e c d (by decide) ⟨x,H,I1,ru,⟨rfl,λys hy=>by rw[I.tuple_inj hy hq];exact hx⟩,st',λb hb=>(hf b hb).1⟩⟩
 done:=by intro X hP hw hK hc i pins s σ H E I hf st hg;subst hP hw hK;obtain⟨xs,hq,hx⟩:=hg;obtain⟨its,rv,p,hz⟩:=I.tuple hq;obtain⟨f0,f1,f2,f3,f4,f5⟩:=hf it (by simp);have hl:=rv.length;exact wpAny_pyNext_tuple_end (I.ok.hd hc) st (show s.heap.IsTuple a its.toArray from p) (by simp;omega) λh' eb=>⟨rfl,I.turned (t':=s.toks) (λb o hb e=>eb b o hb e) f0 f1 f3 f4 f5⟩
 self:=λ_ _ _ _ _ st h=>wpAny_pyIter_tupleiter st h
theorem qG{P:Ut}{w:World}{K:Frag}{tg:Uw}(it:Uu)(lo:Int)(n:Nat):Turn P w K tg (Itr lo n) [it] it (λi h=>IsRangeIter h it (lo+(i:Nat)*1) ((n:Int)-(i:Nat)) 1) where
 mem:=by simp
 obj:=λi h st b hb=>by
  have e:b=it:=by simpa using hb
  subst e;exact⟨_,st,λv z=>by have z':Data.fields _=Data.cell v:=z;cases z'⟩
 keep:=λi h h' st k=>k it (by simp) _ st
 item:=by
  intro X hP hw hK hc i pins s σ H E I hf st hg;subst hP hw hK;obtain⟨f0,f1,f2,f3,f4,f5⟩:=hf it (by simp);have W:=Walks.range (prog:=X.prog) (w:=X.w) (I.ok.hd hc) it lo 1 n;refine W.item i s _ _ hg st λv h' tk hv st' kk=>?_
  obtain⟨t,rfl⟩:=hv;have I1:Inv X pins σ H {s with heap:=h',toks:=tk}:=I.turned (λb o hb e=>kk b o (by simpa using hb) e) f0 f1 f3 f4 f5;refine⟨_,rfl,Sy (s:={s with heap:=h',toks:=tk}) (n:= "range_iterator") st' jP jP (by decide) ⟨.int (lo+i),H,I1,⟨t,?_⟩,⟨rfl,rfl⟩,st',λb hb=>(hf b hb).1⟩⟩;rw[Int.mul_one]
 done:=by intro X hP hw hK hc i pins s σ H E I hf st hg;subst hP hw hK;obtain⟨f0,f1,f2,f3,f4,f5⟩:=hf it (by simp);exact wpAny_pyNext_range_end (I.ok.hd hc) st (by have:n<=i:=hg;omega) λh' eb=>⟨rfl,I.turned (t':=s.toks) (λb o hb e=>eb b o hb e) f0 f1 f3 f4 f5⟩
 self:=λ_ _ _ _ _ st h=>wpAny_pyIter_rangeiter st h
section
variable{X:Cx}{tg:Uw}
theorem Mi{pins:List (Uu×Obj)}{σ:St}{H:Hp}{s:Us}{R:It->Hp->Prop}{E:Ur->Us->Prop}{lo hi:Int}{t u v:Tok}{tk:Nat}(I:Inv X pins σ H s)(h1 : -(2 ^ 62)<=lo)(h2:lo<2 ^ 62)(h3 : -(2 ^ 62)<=hi)(h4:hi<2 ^ 62)
  (q:R (Itr lo (hi-lo).toNat) H):Uy (model X.prog X.w) X.A (pyIter (.ref s.heap.objs.size)) (PIE X pins σ tg R) E {s with heap:=s.heap.push {cls:=.type "range", data:=.fields #[.int lo t,.int hi u,.int 1 v]},toks:=tk}:=by
 refine wpAny_pyIter_range (IsRange.new ..) (small_one h1 h2 h3 h4) ?_;have I1:Inv X pins σ H {s with heap:=s.heap.push {cls:=.type "range", data:=.fields #[.int lo t,.int hi u,.int 1 v]},toks:=tk}:=I.kept λb o e=>Qe _ e
 refine⟨(s.heap.push {cls:=.type "range", data:=.fields #[.int lo t,.int hi u,.int 1 v]}).objs.size,[(s.heap.push {cls:=.type "range", data:=.fields #[.int lo t,.int hi u,.int 1 v]}).objs.size],_,_,H,rfl,
  I1.kept (t':=tk) λb o e=>Qe _ e,qG _ lo (hi-lo).toNat,?_,λb hb=>?_,q⟩
 .have e1:lo+((0:Nat):Int)*1=lo:=by simp
  have e2:(((hi-lo).toNat:Nat):Int)-((0:Nat):Int)=Builtin.Range.rangeSize lo hi 1:=by rw[rangeSize_one];split<;>omega
  show IsRangeIter _ _ (lo+((0:Nat):Int)*1) ((((hi-lo).toNat:Nat):Int)-((0:Nat):Int)) 1;rw[e1,e2];exact Qn _ jP
 .have e:b=(s.heap.push {cls:=.type "range", data:=.fields #[.int lo t,.int hi u,.int 1 v]}).objs.size:=by simpa using hb
  subst e;exact I1.fpOk (Ql _) (I1.hok.fresh (Ql _))
noncomputable def GL(ta:TA):TI:=λσ H R=>ta σ H λvs H1=>∃j:Int,vs=[.int j] /\ -(2 ^ 62)<=j/\j<2 ^ 62/\R (Itr 0 j.toNat) H1
noncomputable def GK(ta:TA):TI:=λσ H R=>ta σ H λvs H1=>∃i j:Int,vs=[.int i,.int j]/\(-(2 ^ 62)<=i/\i<2 ^ 62 /\ -(2 ^ 62)<=j/\j<2 ^ 62)/\R (Itr i (j-i).toNat) H1
theorem qd{a:Uw}{ta:TA}{p pos:Pos}(hg:Gl X "range")(hm:X.mg "range" = jQ)(ha:PA X [a] ta)(hs:Uz [a] X.env=[(jS,eval a X.env)]:=by rfl):PI X tg (.Call (.Name "range" p) [a] [] pos) (GL ta):=by
 intro pins s σ H R I h;refine Call_ (XV I hg hm boot_range (Jq (thn (ha pos pins s σ H _ I h) λus s1 ⟨vs,H1,I1,r1,q1⟩=>?_) hs jP));obtain⟨j,e,q1,q2,q⟩:=q1;subst e;cases r1 with
 |cons r rr=>cases rr;obtain⟨t,rfl⟩:=r;exact call_range_1 (Mi I1 (by omega) (by omega) q1 q2 (by simpa using q))
theorem qc{a b:Uw}{ta:TA}{p pos:Pos}(hg:Gl X "range")(hm:X.mg "range" = jQ)(ha:PA X [a,b] ta)(hs:Uz [a,b] X.env=[(jS,eval a X.env),(jS,eval b X.env)]:=by rfl)(hs2:Uz [b] X.env=[(jS,eval b X.env)]:=by rfl) :
  PI X tg (.Call (.Name "range" p) [a,b] [] pos) (GK ta):=by
 intro pins s σ H R I h;refine Call_ (XV I hg hm boot_range (Jq (thn (ha pos pins s σ H _ I h) λus s1 ⟨vs,H1,I1,r1,q1⟩=>?_) (by rw[hs,hs2]) (by rw[hs2];rfl)));obtain⟨i,j,e,⟨q1,q2,q3,q4⟩,q⟩:=q1;subst e;cases r1 with
 |cons r rr=>
  cases rr with
  |cons r' rr=>cases rr;obtain⟨t,rfl⟩:=r;obtain⟨t',rfl⟩:=r';exact call_range_2 (Mi I1 q1 q2 q3 q4 q)
noncomputable def tFor(wi:TI)(g:TG)(tb:TS):TS:=λD σ H=>wi σ H λJ H1=>∃W:Nat->Nat->St->Hp->Prop,(∃m,W 0 m σ H1)/\∀i m σ H,W i m σ H ->
 (J.stop i H/\D.nx σ H)∨(J.go i H/\∃N:St->Hp->Prop,(∀σ' H',N σ' H'->∃m',m'<m/\W (i+1) m' σ' H')/\∀x H',J.yld i H x H'->g x σ H' λσ2 H2=>tb {D with nx:=N,ct:=N,bk:=D.nx} σ2 H2)
noncomputable def TQ(fp:j4)(h:Heap):List (Uu×Obj):=fp.filterMap λb=>(h.get? b).map λo=>(b,o)
theorem Rn{fp:j4}{h:Heap}{b:Uu}{o:Obj}(hb:b∈fp)(e:h.get? b=O o):(b,o)∈TQ fp h:=List.mem_filterMap.mpr ⟨b,hb,by rw[e];rfl⟩
theorem qb{fp:j4}{h:Heap}{p:Uu×Obj}(hp:p∈TQ fp h):p.1∈fp/\h.get? p.1=O p.2:=by
 obtain⟨b,hb,e⟩:=List.mem_filterMap.mp hp;cases q:h.get? b with
 |none=>rw[q]at e;cases e
 |some o=>rw[q]at e;have e':(b,o)=p:=Jt e;subst e';exact⟨hb,q⟩
theorem Inv.pinned{pins:List (Uu×Obj)}{σ:St}{H:Hp}{s:Us}{fp:j4}(I:Inv X pins σ H s)(hf:∀b∈fp,Zt X pins H b)(ho:∀b∈fp,∃o,s.heap.get? b=O o/\∀v,o.data≠.cell v):Inv X (pins++TQ fp s.heap) σ H s:=
 I.pins_of λp hp=>(Q0.mp hp).elim (λz=>I.pin p (QP _ z)) λz=>by obtain⟨hb,e⟩:=qb z;obtain⟨f0,f1,f2,_⟩:=hf p.1 hb;obtain⟨o,e',d⟩:=ho p.1 hb;rw[e]at e';cases e';exact⟨e,f0,f1,f2,d⟩
theorem Inv.unpinned{pins pl:List (Uu×Obj)}{σ:St}{H:Hp}{s:Us}(I:Inv X (pins++pl) σ H s):Inv X pins σ H s:=I.pins_of λp hp=>I.pin p (QP _ (Jk _ hp))
theorem FO{iter:Uw}{body:List Stmt}{wi:TI}{g:TG}{tb:TS}{pos:Pos}(hp:PassesOwn (model X.prog X.w) X.A X.env X.xe)(hc:X.calm=jR)(hi:PI X tg iter wi)(hg:PG X tg g)(hb:PSs X body tb)
  (hs:∀x,UP iter X.env x=pure x:=by intro _;rfl):PS X (.For tg iter body [] pos) (tFor wi g tb):=by
 intro pins s σ H D I h;refine wpAny_For (thn (hi pins s σ H _ I h) λv s1 h1=>thn h1 λitv s2 h2=>?_) hs;obtain⟨it,fp,tn,J,H2,e,I2,T,st2,f2,W,⟨m0,w0⟩,turn⟩:=h2;subst e;have stat:∀{H':Hp},(∀b∈fp,H' b=jQ)->∀b∈fp,Zt X pins H' b:=λhn b hb=>⟨hn b hb,(f2 b hb).2⟩;refine codeAny_forLoop_any (λn s'=>∃i σ' H',Inv X pins σ' H' s'/\tn i s'.heap/\(∀b∈fp,H' b=jQ)/\W i n σ' H') ?_ m0 ⟨0,σ,H2,I2,st2,λb hb=>(f2 b hb).1,w0⟩;rintro n s3 ⟨i,σ3,H3,I3,st3,fr3,w3⟩;rcases turn i n σ3 H3 w3 with ⟨stop,qn⟩|⟨go,N,hN,step⟩
 .refine wpAny_passesOwn hp (thn (T.done X jP jP jP hc i pins s3 σ3 H3 X.xe I3 (stat fr3) st3 stop) λr s4 ⟨hr,I4⟩=>?_)
  subst hr;exact wpAny_execs_nil ⟨σ3,H3,I4,qn⟩
 .refine wpAny_passesOwn hp (thn (T.item X jP jP jP hc i pins s3 σ3 H3 X.xe I3 (stat fr3) st3 go) λr s4 ⟨u,hr,h4⟩=>?_)
  subst hr;refine wpAny_passesOwn hp (thn h4 λ_ s5 ⟨x,H5,I5,r5,y5,kU,fr5⟩=>?_);have I5':=I5.pinned (stat fr5) (T.obj _ _ kU);refine wpAny_passesOwn hp (thn (hg _ s5 σ3 H5 x u _ I5' r5 (step x H5 y5)) λ_ s6 ⟨σ6,H6,I6,q6⟩=>?_);refine wpAny_passesOwn hp (thn (hb _ s6 σ6 H6 _ I6 q6) λf s7 q7=>?_);have again:∀{σ7:St}{H7:Hp},Inv X (pins++TQ fp s5.heap) σ7 H7 s7->N σ7 H7->∃m,m<n/\∃i σ' H',Inv X pins σ' H' s7/\tn i s7.heap/\(∀b∈fp,H' b=jQ)/\W i m σ' H':=λ{σ7 H7} I7 n7=>by obtain⟨m',hm,w7⟩:=hN σ7 H7 n7;refine⟨m',hm,i+1,σ7,H7,I7.unpinned,T.keep _ _ _ kU λb hb o e=>(I7.pin (b,o) (QP _ (QP _ (Rn hb e)))).1,λb hb=>?_,w7⟩;obtain⟨o,e,d⟩:=T.obj _ _ kU b hb;exact(I7.pin (b,o) (QP _ (QP _ (Rn hb e)))).2.1
  cases f with
  |next=>obtain⟨σ7,H7,I7,n7⟩:=q7;exact again I7 n7
  |cont=>obtain⟨σ7,H7,I7,n7⟩:=q7;exact again I7 n7
  |brk=>obtain⟨σ7,H7,I7,q7⟩:=q7;exact⟨σ7,H7,I7.unpinned,q7⟩
  |ret v=>obtain⟨x7,σ7,H7,I7,r7,q7⟩:=q7;exact⟨x7,σ7,H7,I7.unpinned,r7,q7⟩
end
abbrev R2:=V->V->Hp->VK->Prop
def OpR(X:Cx)(f:Ur->Ur->Sem Ur)(r:R2):Prop:=
 ∀(pins:List (Uu×Obj))(s:Us)(σ:St)(H:Hp)(x y:V)(v u:Ur)(Q:VK),Inv X pins σ H s->RelV x v->RelV y u->r x y H Q ->
  Uy (model X.prog X.w) X.A (f v u) (EP X pins σ Q) X.xe s
def UnR(X:Cx)(f:Ur->Sem Ur)(r:V->Hp->VK->Prop):Prop:=
 ∀(pins:List (Uu×Obj))(s:Us)(σ:St)(H:Hp)(x:V)(v:Ur)(Q:VK),Inv X pins σ H s->RelV x v->r x H Q ->
  Uy (model X.prog X.w) X.A (f v) (EP X pins σ Q) X.xe s
def ZW(X:Cx)(f:Ur)(r:List V->Hp->VK->Prop):Prop:=
 ∀(pins:List (Uu×Obj))(s:Us)(σ:St)(H:Hp)(xs:List V)(us:jV)(Q:VK),Inv X pins σ H s->Vals xs us->r xs H Q ->
  Uy (model X.prog X.w) X.A (call f us) (EP X pins σ Q) X.xe s
noncomputable def tOp(r:R2)(ta tb:TE):TE:=λσ H Q=>ta σ H λx H1=>tb σ H1 λy H2=>r x y H2 Q
noncomputable def tUn(r:V->Hp->VK->Prop)(ta:TE):TE:=λσ H Q=>ta σ H λx H1=>r x H1 Q
noncomputable def rI(C:Int->Int->Prop)(g:Int->Int->V):R2:=λx y H Q=>∃i j,x=.int i/\y=.int j/\C i j/\Q (g i j) H
noncomputable def rI0(g:Int->Int->V):R2:=λx y H Q=>∃i j,x=.int i/\y=.int j/\Q (g i j) H
noncomputable def rU(g:Int->V):V->Hp->VK->Prop:=λx H Q=>∃i,x=.int i/\Q (g i) H
section
variable{X:Cx}{a b c:Uw}{ta tb tc:TE}{pos:Pos}
theorem V2(ha:PE X a ta)(hb:PE X b tb){pins:List (Uu×Obj)}{s:Us}{σ:St}{H:Hp}{R:V->V->Hp->Prop}(I:Inv X pins σ H s)
  (h:ta σ H λx H1=>tb σ H1 λy H2=>R x y H2) {Q:Ur->Us->Prop} {f:Ur->Ur->Sem Ur}
  (hf:∀v u s2 x y H2,Inv X pins σ H2 s2->RelV x v->RelV y u->R x y H2->Uy (model X.prog X.w) X.A (f v u) Q X.xe s2) :
  Uy (model X.prog X.w) X.A (eval a X.env) (λv s₁=>Uy (model X.prog X.w) X.A (eval b X.env) (λu s₂=>Uy (model X.prog X.w) X.A (f v u) Q X.xe s₂) X.xe s₁) X.xe s:=by
 refine thn (ha pins s σ H _ I h) λv s1 ⟨x,H1,I1,r1,q1⟩=>?_;refine thn (hb pins s1 σ H1 _ I1 q1) λu s2 ⟨y,H2,I2,r2,q2⟩=>?_;exact hf v u s2 x y H2 I2 r1 r2 q2
theorem Fq{op:Operator}{r:R2}(ho:OpR X (binaryOp op) r)(ha:PE X a ta)(hb:PE X b tb):PE X (.BinOp a op b pos) (tOp r ta tb):=by intro pins s σ H Q I h;exact wpAny_BinOp (V2 ha hb I h λv u s2 x y H2 I2 rx ry q=>ho pins s2 σ H2 x y v u Q I2 rx ry q)
theorem Fp{op:UnaryOp}{r:V->Hp->VK->Prop}(ho:UnR X (unaryOp op) r)(ha:PE X a ta):PE X (.UnaryOp op a pos) (tUn r ta):=by intro pins s σ H Q I h;exact UnaryOp_ (thn (ha pins s σ H _ I h) λv s1 ⟨x,H1,I1,r1,q1⟩=>ho pins s1 σ H1 x v Q I1 r1 q1)
theorem opI{f:Ur->Ur->Sem Ur}{C:Int->Int->Prop}{g:Int->Int->Int}
  (rule:∀(i j:Int)(t u:Tok)(s:Us)(Q:Ur->Us->Prop)(E:Ur->Us->Prop),C i j->Q (.int (g i j) s.toks) {s with toks:=s.toks+1}->Uy (model X.prog X.w) X.A (f (.int i t) (.int j u)) Q E s) :
  OpR X f (rI C λi j=>.int (g i j)):=by
 intro pins s σ H x y v u Q I rx ry h;obtain⟨i,j,rfl,rfl,hc,q⟩:=h;obtain⟨t,rfl⟩:=rx;obtain⟨t',rfl⟩:=ry;exact rule i j t t' s _ _ hc ⟨.int (g i j),H,I.tok _,⟨_,rfl⟩,q⟩
theorem opI0{f:Ur->Ur->Sem Ur}{g:Int->Int->Int}
  (rule:∀(i j:Int)(t u:Tok)(s:Us)(Q:Ur->Us->Prop)(E:Ur->Us->Prop),Q (.int (g i j) s.toks) {s with toks:=s.toks+1}->Uy (model X.prog X.w) X.A (f (.int i t) (.int j u)) Q E s) :
  OpR X f (rI0 λi j=>.int (g i j)):=by
 intro pins s σ H x y v u Q I rx ry h;obtain⟨i,j,rfl,rfl,q⟩:=h;obtain⟨t,rfl⟩:=rx;obtain⟨t',rfl⟩:=ry;exact rule i j t t' s _ _ ⟨.int (g i j),H,I.tok _,⟨_,rfl⟩,q⟩
theorem Wf{f:Ur->Ur->Sem Ur}{g:Int->Int->Bool}
  (rule:∀(i j:Int)(t u:Tok)(s:Us)(Q:Ur->Us->Prop)(E:Ur->Us->Prop),Q (.bool (g i j)) s->Uy (model X.prog X.w) X.A (f (.int i t) (.int j u)) Q E s) :
  OpR X f (rI0 λi j=>.bl (g i j)):=by
 intro pins s σ H x y v u Q I rx ry h;obtain⟨i,j,rfl,rfl,q⟩:=h;obtain⟨t,rfl⟩:=rx;obtain⟨t',rfl⟩:=ry;exact rule i j t t' s _ _ ⟨.bl (g i j),H,I,rfl,q⟩
def CPow(i j:Int):Prop:=0<=j/\j<=1000000/\i.natAbs<2 ^ 64
def CMul(i j:Int):Prop:=(-(2 ^ 64)<i/\i<2 ^ 64)∨(-(2 ^ 64)<j/\j<2 ^ 64)
theorem CMul.ok{i j:Int}(h:CMul i j):IntMulOk i j:=by
 rcases h with ⟨h1,h2⟩|⟨h1,h2⟩
 .exact .of_left (intBits_le_64 h1 h2)
 .exact .of_right (intBits_le_64 h1 h2)
theorem FN:OpR X (binaryOp .Add) (rI0 λi j=>.int (i+j)):=opI0 λ_ _ _ _ _ _ _ q=>add_int q
theorem FM:OpR X (binaryOp .Sub) (rI0 λi j=>.int (i-j)):=opI0 λ_ _ _ _ _ _ _ q=>sub_int q
theorem FL:OpR X (binaryOp .Mult) (rI CMul λi j=>.int (i*j)):=opI λ_ _ _ _ _ _ _ hc q=>mul_int q hc.ok
theorem FJ:OpR X (binaryOp .Mod) (rI (λ_ j=>0<j) λi j=>.int (i % j)):=opI λi j _ _ _ _ _ hc q=>by have h1:(0:Int)<j:=hc;exact mod_int' (by omega) (by rw[Int.fmod_eq_emod_of_nonneg i (by omega)];exact q)
theorem FI:OpR X (binaryOp .Pow) (rI CPow λi j=>.int (i ^ j.toNat)):=opI λ_ _ _ _ _ _ _ hc q=>pow_int_small hc.1 hc.2.1 hc.2.2 q
theorem unI{f:Ur->Sem Ur}{g:Int->Int}
  (rule:∀(i:Int)(t:Tok)(s:Us)(Q:Ur->Us->Prop)(E:Ur->Us->Prop),Q (.int (g i) s.toks) {s with toks:=s.toks+1}->Uy (model X.prog X.w) X.A (f (.int i t)) Q E s) :
  UnR X f (rU λi=>.int (g i)):=by
 intro pins s σ H x v Q I rx h;obtain⟨i,rfl,q⟩:=h;obtain⟨t,rfl⟩:=rx;exact rule i t s _ _ ⟨.int (g i),H,I.tok _,⟨_,rfl⟩,q⟩
theorem FH:UnR X (unaryOp .USub) (rU λi=>.int (-i)):=unI λ_ _ _ _ _ q=>neg_int q
end
section
variable{X:Cx}{a b c:Uw}{ta tb tc:TE}{pos:Pos}
theorem RQ{pins:List (Uu×Obj)}{σ:St}{H:Hp}{s:Us}{Q:VK}{k k':Bool}(I:Inv X pins σ H s)(q:Q (.bl k) H)(e:k=k'):EP X pins σ Q (.bool k') s:=by subst e;exact⟨.bl k,H,I,rfl,q⟩
theorem Fo:OpR X (UA .Lt) (rI0 λi j=>.bl (decide (i<j))):=Wf λ_ _ _ _ _ _ _ q=>lt_int q
theorem Fn:OpR X (UA .LtE) (rI0 λi j=>.bl (decide (i<=j))):=Wf λ_ _ _ _ _ _ _ q=>le_int q
theorem Fl:OpR X (UA .Gt) (rI0 λi j=>.bl (decide (j<i))):=Wf λ_ _ _ _ _ _ _ q=>gt_int q
theorem Fk:OpR X (UA .GtE) (rI0 λi j=>.bl (decide (j<=i))):=Wf λ_ _ _ _ _ _ _ q=>ge_int q
theorem qa:OpR X (UA .In) (λx y H Q=>∃i j,x=.str i/\y=.str j/\Q (.bl (!(Builtin.Str.occurrences j i 0 j.length 1).isEmpty)) H):=by intro pins s σ H x y v u Q I rx ry h;obtain⟨i,j,rfl,rfl,q⟩:=h;obtain⟨t,rfl⟩:=rx;obtain⟨t',rfl⟩:=ry;exact in_str (RQ I q jP)
theorem jk:OpR X (UA .NotIn) (λx y H Q=>∃i j,x=.str i/\y=.str j/\Q (.bl (!(!(Builtin.Str.occurrences j i 0 j.length 1).isEmpty))) H):=by intro pins s σ H x y v u Q I rx ry h;obtain⟨i,j,rfl,rfl,q⟩:=h;obtain⟨t,rfl⟩:=rx;obtain⟨t',rfl⟩:=ry;exact notIn_str (RQ I q jP)
theorem OpR.or{f:Ur->Ur->Sem Ur}{r r':R2}(h:OpR X f r)(h':OpR X f r'):OpR X f (λx y H Q=>r x y H Q∨r' x y H Q):=by
 intro pins s σ H x y v u Q I rx ry q;rcases q with q|q
 .exact h pins s σ H x y v u Q I rx ry q
 .exact h' pins s σ H x y v u Q I rx ry q
theorem FG(b:Uw){op:CmpOp}(h:op≠.In:=by decide)(h2:op≠.NotIn:=by decide):behindInMarks op b=jS:=by
 have e1:(op==CmpOp.In)=jS:=by cases op<;>first|rfl|exact absurd jP h
 have e2:(op==CmpOp.NotIn)=jS:=by cases op<;>first|rfl|exact absurd jP h2
 cases b<;>simp[behindInMarks,e1,e2]
theorem NW{op:CmpOp}{r:R2}(ho:OpR X (UA op) r)(ha:PE X a ta)(hb:PE X b tb)(hm:behindInMarks op b=jS):PE X (.Compare a [op] [b] pos) (tOp r ta tb):=by intro pins s σ H Q I h;exact wpAny_Compare1 (V2 ha hb I h λv u s2 x y H2 I2 rx ry q=>ho pins s2 σ H2 x y v u Q I2 rx ry q) hm
noncomputable def Ox(t:TE):TT:=λσ H Q=>t σ H λx H'=>∃k,x=.bl k/\Q k H'
theorem R1{op:CmpOp}{r:R2}(ho:OpR X (UA op) r)(ha:PE X a ta)(hb:PE X b tb)(hm:behindInMarks op b=jS):PT X (.Compare a [op] [b] pos) (Ox (tOp r ta tb)):=by
 intro pins s σ H Q I h
 refine wpAny_isTrue_Compare1 (thn (ha pins s σ H _ I h) λv s1 ⟨x,H1,I1,r1,q1⟩=>thn (hb pins s1 σ H1 _ I1 q1) λu s2 ⟨y,H2,I2,r2,q2⟩=>
  thn (ho pins s2 σ H2 x y v u _ I2 r1 r2 q2) λc s3 ⟨z,H3,I3,r3,k,e,q3⟩=>?_) hm
 subst e;cases r3;exact Q6 ⟨H3,I3,q3⟩
noncomputable def OU(r r':R2)(ta tb tc:TE):TE:=λσ H Q=>ta σ H λx H1=>tb σ H1 λy H2=>r x y H2 λz H3=>∃k,z=.bl k /\
 (if k=jR then tc σ H3 λw' H4=>r' y w' H4 Q else Q (.bl jS) H3)
theorem C1{op op':CmpOp}{r r':R2}(ho:OpR X (UA op) r)(ho':OpR X (UA op') r')(ha:PE X a ta)(hb:PE X b tb)(hc:PE X c tc)
  (hm:lastMarks [op,op'] [b,c]=jS:=by with_unfolding_all rfl):PE X (.Compare a [op,op'] [b,c] pos) (OU r r' ta tb tc):=by
 intro pins s σ H Q I h
 refine Compare_chain (thn (ha pins s σ H _ I h) λv s1 ⟨x,H1,I1,r1,q1⟩=>chain_link (thn (hb pins s1 σ H1 _ I1 q1) λu s2 ⟨y,H2,I2,r2,q2⟩=>
  thn (ho pins s2 σ H2 x y v u _ I2 r1 r2 q2) λd s3 ⟨z,H3,I3,r3,k,e,q3⟩=>?_)) hm
 subst e;cases r3;refine Q6 ?_;cases k with
 |false=>exact ite_ff ⟨.bl jS,H3,I3,rfl,q3⟩
 |true=>exact ite_tt (chain_last (thn (hc pins s3 σ H3 _ I3 q3) λw' s4 ⟨z',H4,I4,r4,q4⟩=>ho' pins s4 σ H4 y z' u w' Q I4 r2 r4 q4))
theorem C0{op op':CmpOp}{r r':R2}(ho:OpR X (UA op) r)(ho':OpR X (UA op') r')(ha:PE X a ta)(hb:PE X b tb)(hc:PE X c tc)
  (hm:lastMarks [op,op'] [b,c]=jS:=by with_unfolding_all rfl):PT X (.Compare a [op,op'] [b,c] pos) (Ox (OU r r' ta tb tc)):=by
 intro pins s σ H Q I h
 refine isTrue_chain (thn (ha pins s σ H _ I h) λv s1 ⟨x,H1,I1,r1,q1⟩=>test_link (thn (hb pins s1 σ H1 _ I1 q1) λu s2 ⟨y,H2,I2,r2,q2⟩=>
  thn (ho pins s2 σ H2 x y v u _ I2 r1 r2 q2) λd s3 ⟨z,H3,I3,r3,k,e,q3⟩=>?_)) hm
 subst e;cases r3;refine Q6 ?_;cases k with
 |false=>obtain⟨k',e',q'⟩:=q3;cases e';exact ite_ff ⟨H3,I3,q'⟩
 |true=>refine ite_tt (test_last (thn (hc pins s3 σ H3 _ I3 q3) λw' s4 ⟨z',H4,I4,r4,q4⟩=>thn (ho' pins s4 σ H4 y z' u w' _ I4 r2 r4 q4) λd' s5 ⟨z2,H5,I5,r5,k2,e2,q5⟩=>?_));subst e2;cases r5;exact Q6 ⟨H5,I5,q5⟩
theorem SO:(Ux:Nat)<2 ^ 63:=by rw[JN];decide
theorem qF:OpR X (binaryOp .Add) (λx y H Q=>∃i j,x=.str i/\y=.str j/\i.length+j.length<=Ux/\Q (.str (i++j)) H):=by intro pins s σ H x y v u Q I rx ry h;obtain⟨i,j,rfl,rfl,hz,q⟩:=h;obtain⟨t,rfl⟩:=rx;obtain⟨t',rfl⟩:=ry;exact add_str (λt' tk=>⟨.str (i++j),H,I.tok _,⟨_,rfl⟩,q⟩) hz
theorem V7{x:V}{us:jV}(r:Vals [x] us):∃u,us=[u]/\RelV x u:=by
 cases r with
 |cons r1 r2=>cases r2;exact⟨_,rfl,r1⟩
theorem RJ{x y:V}{us:jV}(r:Vals [x,y] us):∃u w',us=[u,w']/\RelV x u/\RelV y w':=by
 cases r with
 |cons r1 r2=>
  cases r2 with
  |cons r3 r4=>cases r4;exact⟨_,_,rfl,r1,r3⟩
theorem CZ:ZW X (.builtin "abs") (λxs H Q=>∃i,xs=[.int i]/\Q (.int (if i<0 then -i else i)) H):=by intro pins s σ H xs us Q I r h;obtain⟨i,rfl,q⟩:=h;obtain⟨u,rfl,t,rfl⟩:=V7 r;exact call_abs_int λu tk=>⟨.int (if i<0 then -i else i),H,I.tok _,⟨_,rfl⟩,q⟩
theorem A9(hc:X.calm=jR):ZW X (.builtin "max") (λxs H Q=>∃i j,xs=[.int i,.int j]/\Q (.int (if j > i then j else i)) H):=by
 intro pins s σ H xs us Q I r h;obtain⟨i,j,rfl,q⟩:=h;obtain⟨u,w',rfl,⟨t,rfl⟩,⟨t',rfl⟩⟩:=RJ r;refine max_two_ints (I.ok.hd hc) λh' tk k=>⟨_,H,I.kept k,?_,q⟩
 by_cases hj:j > i
 .rw[Qs hj,Qs hj];exact⟨_,rfl⟩
 .rw[QE hj,QE hj];exact⟨_,rfl⟩
theorem A8:ZW X (.type "int") (λxs H Q=>(∃i,xs=[.int i]/\Q (.int i) H) ∨ ∃k,xs=[.bl k]/\Q (.int (if k then 1 else 0)) H):=by
 intro pins s σ H xs us Q I r h;rcases h with ⟨i,rfl,q⟩|⟨k,rfl,q⟩
 .obtain⟨u,rfl,t,rfl⟩:=V7 r
  exact call_int_int ⟨.int i,H,I,⟨_,rfl⟩,q⟩
 .obtain⟨u,rfl,r1⟩:=V7 r
  cases r1;exact call_int_bool ⟨.int (if k then 1 else 0),H,I.tok _,⟨_,rfl⟩,q⟩
def LenV(K:Frag)(x:V)(H:Hp)(n:Nat):Prop:=
 match x with
 |.str y=>y.length<=Ux/\n=y.length
 |.byt y=>y.size<=Ux/\n=y.size
 |.ref p=>(∃xs,SqL K H p xs/\n=xs.length) ∨ ∃xs,SqT K H p xs/\n=xs.length
 |_=>False
theorem Mh:ZW X (.builtin "len") (λxs H Q=>∃x n,xs=[x]/\LenV X.K x H n/\Q (.int n) H):=by
 intro pins s σ H xs us Q I r h;obtain⟨x,n,rfl,e,q⟩:=h;obtain⟨u,rfl,rx⟩:=V7 r;have hl:=SO;have hs:Ux=16777216:=JN;cases x with
 |str y=>obtain⟨t,rfl⟩:=rx;obtain⟨hy,e'⟩:y.length<=Ux/\n=y.length:=e;subst e';exact len_str (by omega) ⟨.int _,H,I.tok _,⟨_,rfl⟩,q⟩
 |byt y=>obtain⟨t,rfl⟩:=rx;obtain⟨hy,e'⟩:y.size<=Ux/\n=y.size:=e;subst e';exact PySem.W.len_bytes (by omega) ⟨.int _,H,I.tok _,⟨_,rfl⟩,q⟩
 |ref p=>
  cases rx;have e':(∃xs,SqL X.K H p xs/\n=xs.length) ∨ ∃xs,SqT X.K H p xs/\n=xs.length:=e;rcases e' with ⟨xs,hx,e'⟩|⟨xs,hx,e'⟩
  .subst e'
   obtain⟨its,r',pl,hz⟩:=I.list hx;have hlen:=r'.length;exact Calls.call_len_list pl.isList (by simp only[QQ];omega) ⟨.int xs.length,H,I.tok _,⟨_,by simp only[QQ];rw[hlen]⟩,q⟩
  .subst e'
   obtain⟨its,r',pl,hz⟩:=I.tuple hx;have hlen:=r'.length;exact len_tuple pl (by simp only[QQ];omega) ⟨.int xs.length,H,I.tok _,⟨_,by simp only[QQ];rw[hlen]⟩,q⟩
 |_=>exact(show False from e).elim
end
noncomputable def Zz(f:Str)(v:V):List (Str×V)->List (Str×V)
 |[]=>[(f,v)]
 |(g,x)::r=>if g=f then(g,v)::r else(g,x)::Zz f v r
theorem PR(f g:Str)(v:V):∀fs:List (Str×V),(Zz f v fs).lookup g=if g=f then O v else fs.lookup g
 |[]=>by
  show List.lookup g [(f,v)]=_;by_cases h:g=f
  .have hb:(g==f)=jR:=beq_iff_eq.mpr h
   simp only[List.lookup,hb,Qs h]
  .have hb:(g==f)=jS:=beq_eq_false_iff_ne.mpr h
   simp only[List.lookup,hb,QE h]
 |(k,x)::r=>by
  have ih:=PR f g v r;rw[show Zz f v ((k,x)::r)=(if k=f then(k,v)::r else(k,x)::Zz f v r)from rfl];by_cases hk:k=f
  .rw[Qs hk]
   by_cases h:g=k
   .have hb:(g==k)=jR:=beq_iff_eq.mpr h
    simp only[List.lookup,hb,Qs (h.trans hk)]
   .have hb:(g==k)=jS:=beq_eq_false_iff_ne.mpr h
    simp only[List.lookup,hb,QE (λe:g=f=>h (e.trans hk.symm))]
  .rw[QE hk]
   by_cases h:g=k
   .have hb:(g==k)=jR:=beq_iff_eq.mpr h
    simp only[List.lookup,hb,QE (λe:g=f=>hk (h.symm.trans e))]
   .have hb:(g==k)=jS:=beq_eq_false_iff_ne.mpr h
    simp only[List.lookup,hb];exact ih
theorem PN(f:Str)(v:V):∀fs:List (Str×V),f∈(Zz f v fs).map (·.1)/\∀g,g∈fs.map (·.1)->g∈(Zz f v fs).map (·.1)
 |[]=>⟨by simp[Zz],λg h=>by simp at h⟩
 |(k,x)::r=>by
  obtain⟨i1,i2⟩:=PN f v r;rw[show Zz f v ((k,x)::r)=(if k=f then(k,v)::r else(k,x)::Zz f v r)from rfl];by_cases hk:k=f
  .rw[Qs hk]
   subst hk;exact⟨by simp,λg h=>by simpa using h⟩
  .rw[QE hk]
   refine⟨?_,λg h=>?_⟩
   .rw[QA]
    exact Qp _ i1
   .rw[QA]at h⊢
    rcases Qu.mp h with e|e
    .exact List.mem_cons.mpr (.inl e)
    .exact Qp _ (i2 g e)
section
variable{X:Cx}{pins:List (Uu×Obj)}{σ:St}{H:Hp}{s:Us}{a C dx:Uu}{fs:List (Str×V)}{f:Str}{v:V}{A:Around}{E:Ur->Us->Prop}
theorem Dw{prog:Ut}{w:World}{env:Env}{e:Uw}{f:Str}{pos:Pos}{s:Us}{Q:Ur->Us->Prop}(hb:attributeBase e f env (eval e env)=eval e env)
  (h:Uy (model prog w) A (eval e env) (λo s₁=>Uy (model prog w) A (getAttr o f jR) Q E s₁) E s):Uy (model prog w) A (eval (.Attribute e f pos) env) Q E s:=
 Attribute_any_ h (by rw[arm_eval_Attribute,hb])
end
structure Room(k:Nat)(A:Around):Prop where
 hd:A.handled=jQ
 dp:A.depth+3*k+5<recursionLimit
 un:A.units+16*k+200<cLine
 gd:A.guards=O []
theorem Room.mono{j k:Nat}{A:Around}(r:Room k A)(h:j<=k):Room j A:=⟨r.hd,by have:=r.dp;omega,by have:=r.un;omega,r.gd⟩
theorem Room.deeper{k:Nat}{A:Around}(r:Room (k+1) A)(env:Env):Room k (A.deeper env):=
 ⟨r.hd,by have:=r.dp;show A.depth+1+3*k+5<_;omega,by have:=r.un;show A.units+3+16*k+200<_;omega,r.gd⟩
theorem qE{A:Around}{C:Uu}{us:jV}{kw:List (Str×Ur)}:(A.under (.builtin "type.__call__" ⟨.ref C::us,kw⟩)).depth=A.depth+1:=by
 first|rfl|simp[Around.under,Code.weight,Code.isCreation,Code.isGuard,Code.isCaller,Code.frames,Code.isFrame,guardIds]
theorem qD{A:Around}{C:Uu}{us:jV}{kw:List (Str×Ur)}:(A.under (.builtin "type.__call__" ⟨.ref C::us,kw⟩)).units=A.units+1:=by
 first|rfl|simp[Around.under,Code.cUnits,Code.frames,Code.isFrame]
theorem Room.make{k:Nat}{A:Around}(r:Room (k+1) A)(C:Uu)(us:jV)(kw:List (Str×Ur)):Room k (A.under (.builtin "type.__call__" ⟨.ref C::us,kw⟩)):=
 ⟨r.hd,by have:=r.dp;rw[qE];omega,by have:=r.un;rw[qD];omega,(by first|exact r.gd|(simp[Around.under,guardIds];exact r.gd))⟩
theorem Room.depth{k:Nat}{A:Around}(r:Room k A):A.depth<recursionLimit:=by have:=r.dp;omega
theorem Room.units{k:Nat}{A:Around}(r:Room k A):A.units+64<cLine:=by have:=r.un;omega
noncomputable def Vq:TA:=λ_ H Q=>Q [] H
noncomputable def TJ(ta:TE)(tr:TA):TA:=λσ H Q=>ta σ H λx H1=>tr σ H1 λxs H2=>Q (x::xs) H2
section
variable{X:Cx}{e:Uw}{es:jX}{te:TE}{t:TA}{pos:Pos}
theorem YN:PA X [] Vq:=λ_ _ _ _ H Q I h=>Calls.spliced_nil ⟨[],H,I,.nil,h⟩
theorem ZT(ha:PE X e te)(hr:PA X es t)(hs:Uz (e::es) X.env=(jS,eval e X.env)::Uz es X.env:=by rfl):PA X (e::es) (TJ te t):=by intro pos pins s σ H Q I h;rw[hs];show Uy _ _ (spliced ((jS,eval e X.env)::backTo pos (Uz es X.env))) _ _ s;refine Calls.spliced_cons (thn (ha pins s σ H _ I h) λu s1 ⟨x,H1,I1,r1,q1⟩=>?_);exact thn (hr pos pins s1 σ H1 _ I1 q1) λus s2 ⟨xs,H2,I2,r2,q2⟩=>⟨x::xs,H2,I2,.cons r1 r2,q2⟩
noncomputable def tTup(t:TA):TE:=λσ H Q=>t σ H λxs H1=>xs.length<=Ux/\∀p,H1 p=jQ->Q (.ref p) (upd H1 p (.tup xs))
noncomputable def tLst(t:TA):TE:=λσ H Q=>t σ H λxs H1=>xs.length<=Ux/\∀p,H1 p=jQ->Q (.ref p) (upd H1 p (.lst xs))
theorem OT{x1}(h:PA X es t):PE X (.Tuple es x1 pos) (tTup t):=by intro pins s σ H Q I hq;refine wpAny_Tuple_spliced (thn (h pos pins s σ H _ I hq) λus s1 ⟨xs,H1,I1,r,z,q⟩=>⟨by rw[←r.length];exact z,?_⟩);have hf:H1 s1.heap.objs.size=jQ:=I1.hok.fresh (Ql _);refine⟨.ref s1.heap.objs.size,upd H1 s1.heap.objs.size (.tup xs),I1.laid (t':=s1.toks) (λb u e=>Qe _ e) (Ql _) ?_,rfl,q _ hf⟩;exact⟨z,us,r,⟨_,Qn _ jP,rfl,_,rfl⟩⟩
theorem OS(h:PA X es t):PE X (.List es pos) (tLst t):=by intro pins s σ H Q I hq;refine wpAny_List_spliced (thn (h pos pins s σ H _ I hq) λus s1 ⟨xs,H1,I1,r,z,q⟩=>⟨by rw[←r.length];exact z,?_⟩);have hf:H1 s1.heap.objs.size=jQ:=I1.hok.fresh (Ql _);refine⟨.ref s1.heap.objs.size,upd H1 s1.heap.objs.size (.lst xs),I1.laid (t':=s1.toks) (λb u e=>Qe _ e) (Ql _) ?_,rfl,q _ hf⟩;exact⟨z,us,0,r,Qn _ jP⟩
end
abbrev Sp:=List V->Hp->VK->XK->Prop
abbrev CXT:=List Env->Hp->Us->XK->Ur->Us->Prop
structure Env0(P:Ut)(w:World)(K:Frag)(mg:Str->jW)(base:Heap)(A:Around)(outer:List Env)(s:Us)(H:Hp):Prop where
 frames:A.frames=O outer
 mod:Mod K mg base
 bs:∀b o,base.get? b=O o->s.heap.get? b=O o/\H b=jQ
 bsz:base.objs.size<=s.heap.objs.size
 funs:s.heap.FunFrames base outer
 frf:∀b∈frs outer,H b=jQ
 hok:HOk P w H s.heap
 bare:AllBare s.gens
def CE(outer:List Env)(P:Ut)(w:World)(H:Hp)(s:Us)(Q:VK)(u:Ur)(s':Us):Prop:=
 ∃v H',s'.os=s.os/\AllBare s'.gens/\Un (frs outer) [] H H' s.heap s'.heap/\HOk P w H' s'.heap/\RelV v u/\Q v H'
def CR(CX:CXT)(outer:List Env)(P:Ut)(w:World)(H:Hp)(s:Us)(Q:VK)(E:XK)(r:Result)(s':Us):Prop:=
 match r with
 |.ok (.ret u)=>CE outer P w H s Q u s'
 |.ok _=>False
 |.error e=>CX outer H s E e s'
structure FnOk(P:Ut)(w:World)(K:Frag)(mg:Str->jW)(base:Heap)(CX:CXT)(k:Nat)(f:Uu)(fd:Uv)(ps:List Str)(sp:Sp):Prop where
 len:∀vs H Q E,sp vs H Q E->vs.length=ps.length
 run:∀(A:Around)(outer:List Env)(s:Us)(H:Hp)(args:Args)(us:jV)(vs:List V)(Q:VK)(E:XK),Room k A->Env0 P w K mg base A outer s H->BindsTo s fd args (ps.zip us)->Vals vs us->sp vs H Q E ->
  codeAny (model P w) A (.call (.ref f) args) (CR CX outer P w H s Q E) s
theorem FnOk.imp{P:Ut}{w:World}{K:Frag}{mg:Str->jW}{base:Heap}{CX:CXT}{k:Nat}{f:Uu}{fd:Uv}{ps:List Str}{sp sp':Sp}(F:FnOk P w K mg base CX k f fd ps sp)
  (h:∀vs H Q E,sp' vs H Q E->sp vs H Q E):FnOk P w K mg base CX k f fd ps sp':=
 ⟨λvs H Q E q=>F.len vs H Q E (h _ _ _ _ q),λA outer s H args us vs Q E hr he hb hv hs=>F.run A outer s H args us vs Q E hr he hb hv (h _ _ _ _ hs)⟩
theorem Env0.make{P:Ut}{w:World}{K:Frag}{mg:Str->jW}{base:Heap}{A:Around}{outer:List Env}{s:Us}{H:Hp}(e:Env0 P w K mg base A outer s H)(C:Uu)(us:jV)(kw:List (Str×Ur)) :
  Env0 P w K mg base (A.under (.builtin "type.__call__" ⟨.ref C::us,kw⟩)) outer s H:=⟨by first|exact e.frames|(simpa[Around.under,Code.envs,Code.isFrame,pushEnvs]using e.frames),e.mod,e.bs,e.bsz,e.funs,e.frf,e.hok,e.bare⟩
section
variable{X:Cx}{pins:List (Uu×Obj)}{σ:St}{H:Hp}{s s':Us}
theorem Inv.env0(I:Inv X pins σ H s):Env0 X.prog X.w X.K X.mg X.base X.A X.stack s H:=
 ⟨I.ok.frames,I.ok.mod,I.bs,Qz I.ok.bsz I.sz,I.stack,I.stkFree,I.hok,I.bare⟩
theorem Inv.after{Q:VK}{u:Ur}(I:Inv X pins σ H s)(h:CE X.stack X.prog X.w H s Q u s'):EP X pins σ Q u s':=by obtain⟨v,H',os,bare,un,hok,r,q⟩:=h;obtain⟨hh,g,d,t,os'⟩:=s';obtain rfl:os'=s.os:=os;exact⟨v,H',I.call (h':=hh) (g':=g) (d':=d) (t':=t) (ch:=[]) un hok bare (λb z=>absurd z (by simp)),r,q⟩
end
noncomputable def RI(sp:Sp)(dvs:List V)(E:XK)(t:TA):TE:=λσ H Q=>t σ H λvs H1=>sp (vs++dvs) H1 Q E
def Ym(K:Frag)(fd:Uv)(ps:List Str)(ds:jV):Prop:=
 ∀(s:Us)(us:jV),K.In s.heap->(us++ds).length=ps.length->BindsTo s fd ⟨us,[]⟩ (ps.zip (us++ds))
theorem Ym.all{K:Frag}{fd:Uv}{ps:List Str}(h:∀us:jV,us.length=ps.length->bindArgs fd ⟨us,[]⟩=pure (ps.zip us)):Ym K fd ps []:=λs us _ hl=>by rw[Q4]at hl⊢;exact .of_eq (h us hl)
def RV(CX:CXT)(X:Cx)(E:XK):Prop:=∀(pins:List (Uu×Obj))(σ:St)(H:Hp)(s:Us)(e:Ur)(s':Us),Inv X pins σ H s->CX X.stack H s E e s'->X.xe e s'
section
variable{X:Cx}{CX:CXT}{k:Nat}{f C:Uu}{fd:Uv}{ps:List Str}{sp:Sp}{dvs:List V}{ds:jV}{E:XK}{x m:Str}{p pos apos:Pos}{e o:Uw}{es:jX}{ta:TE}{t:TA}
theorem OR{pins:List (Uu×Obj)}{σ:St}{H:Hp}{s:Us}{Q:VK}{us:jV}{vs:List V}(F:FnOk X.prog X.w X.K X.mg X.base CX k f fd ps sp)(hr:Room k X.A)(hb:Ym X.K fd ps ds)(hd:Vals dvs ds)(hx:RV CX X E)
  (I:Inv X pins σ H s) (r:Vals vs us) (h:sp (vs++dvs) H Q E):Uy (model X.prog X.w) X.A (call (.ref f) us) (EP X pins σ Q) X.xe s:=by
 have r2:Vals (vs++dvs) (us++ds):=r.append hd;have hl:(us++ds).length=ps.length:=by rw[←r2.length];exact F.len _ _ _ _ h
 refine wpAny_call (Jv (F.run X.A X.stack s H ⟨us,[]⟩ (us++ds) (vs++dvs) Q E hr I.env0 (hb s us I.kIn hl) r2 h) λr s' hq=>?_);cases r with
 |error e=>exact hx pins σ H s e s' I hq
 |ok fl=>
  cases fl with
  |ret u=>exact I.after hq
  |next=>exact False.elim hq
  |brk=>exact False.elim hq
  |cont=>exact False.elim hq
theorem N3(F:FnOk X.prog X.w X.K X.mg X.base CX k f fd ps sp)(hr:Room k X.A)(hg:Gl X x)(hm:X.mg x=O (.ref f))(hk:PySem.W.keepIn X.K (.ref f)=jR)(hb:Ym X.K fd ps ds)(hd:Vals dvs ds)(hx:RV CX X E)
  (ha:PA X (e::es) t) (hdb:(x==("__debug__" : Str))=jS:=by decide) (he:Uz (e::es) X.env=(jS,eval e X.env)::Uz es X.env:=by rfl) (hpl:(backTo pos (Uz es X.env)).any (·.1)=jS:=by rfl) :
  PE X (.Call (.Name x p) (e::es) [] pos) (RI sp dvs E t):=by
 intro pins s σ H Q I h;refine Jn (Vg I hg hm ?_ hdb);refine J5 (h₀:=X.base) I.ok.mod.kin hk (thn (ha pos pins s σ H _ I h) λus s1 ⟨vs,H1,I1,r,q⟩=>⟨I1.kIn,?_⟩) he hpl;exact OR F hr hb hd hx I1 r q
end
structure Vf(N P:List Str)(sc:Scope):Prop where
 kind:sc.kind=.function
 co:sc.isCoroutine=jS
 gen:sc.isGenerator=jS
 nd:N.Nodup
 pre:N.take P.length=P
 par:∀x∈P,sc.names.lookup x=O .local∨sc.names.lookup x=O .cell
 nofree:∀y∈sc.names,y.2≠.free
theorem MI{kindOf:Str->Option NameKind}{x:Str}:∀{binds:List (Str×Ur)}{m:Str->jW},(∀v,(x,v)∉binds)->bindL kindOf binds m x=m x
 |[],_,_=>rfl
 |(n,v)::r,m,h=>by
  unfold bindL;rw[MI λw hw=>h w (Qp _ hw)];split
  .have:x≠n:=by rintro rfl;exact h v Qo
   simp[this]
  .rfl
theorem MH{kindOf:Str->Option NameKind}{x:Str}:∀{binds:List (Str×Ur)}{m:Str->jW},(∀v,(x,v)∉binds)->bindC kindOf binds m x=m x
 |[],_,_=>rfl
 |(n,v)::r,m,h=>by
  unfold bindC;rw[MH λw hw=>h w (Qp _ hw)];split
  .rfl
  .have:x≠n:=by rintro rfl;exact h v Qo
   simp[this]
theorem MX{kindOf:Str->Option NameKind}{x:Str}{v:Ur}:∀{P:List Str}{vs:jV}{i:Nat}{m:Str->jW},P.Nodup->P[i]?=O x->vs[i]?=O v->kindOf x=O .local ->
  bindL kindOf (P.zip vs) m x=O v
 |[],_,_,_,_,h,_,_=>by simp at h
 |_::_,[],_,_,_,_,h,_=>by simp at h
 |p::P,w::vs,0,m,nd,h1,h2,hk=>by simp at h1 h2;subst h1;subst h2;show bindL kindOf ((p,w)::P.zip vs) m p=_;unfold bindL;rw[MI λv hv=>(List.nodup_cons.mp nd).1 (List.of_mem_zip hv).1,Qs hk];simp
 |p::P,w::vs,i+1,m,nd,h1,h2,hk=>by show bindL kindOf ((p,w)::P.zip vs) m x=_;unfold bindL;exact MX (i:=i) (List.nodup_cons.mp nd).2 (by simpa using h1) (by simpa using h2) hk
theorem MW{kindOf:Str->Option NameKind}{x:Str}{v:Ur}:∀{P:List Str}{vs:jV}{i:Nat}{m:Str->jW},P.Nodup->P[i]?=O x->vs[i]?=O v->kindOf x≠O .local ->
  bindC kindOf (P.zip vs) m x=O v
 |[],_,_,_,_,h,_,_=>by simp at h
 |_::_,[],_,_,_,_,h,_=>by simp at h
 |p::P,w::vs,0,m,nd,h1,h2,hk=>by simp at h1 h2;subst h1;subst h2;show bindC kindOf ((p,w)::P.zip vs) m p=_;unfold bindC;rw[MH λv hv=>(List.nodup_cons.mp nd).1 (List.of_mem_zip hv).1,QE hk];simp
 |p::P,w::vs,i+1,m,nd,h1,h2,hk=>by show bindC kindOf ((p,w)::P.zip vs) m x=_;unfold bindC;exact MW (i:=i) (List.nodup_cons.mp nd).2 (by simpa using h1) (by simpa using h2) hk
noncomputable def Xk(N:List Str)(vs:List V):St:=vs.map O++UC (N.length-vs.length) jQ
noncomputable def Zl(CX:CXT)(P:Ut)(w:World)(K:Frag)(mg:Str->jW)(base:Heap)(N:List Str)(qual:Str)(scope:Scope)(f:Uu)(cd:Ur)(A:Around)(outer:List Env)(s:Us)(H:Hp)(E:XK):Cx where
 prog:=P
 w:=w
 K:=K
 mg:=mg
 base:=base
 A:=A.deeper (envOfC qual scope s.heap.objs.size f cd)
 N:=N
 s₀:=s
 H₀:=H
 env:=envOfC qual scope s.heap.objs.size f cd
 outer:=outer
 stack:=envOfC qual scope s.heap.objs.size f cd::outer
 ex:=[]
 calm:=jR
 fn:=λ_=>jR
 pn:=[]
 xe:=λe s'=>Uy (model P w) (A.deeper (envOfC qual scope s.heap.objs.size f cd)) (leaving (envOfC qual scope s.heap.objs.size f cd) e) (λ_ s''=>CX outer H s E e s'') (λe' s''=>CX outer H s E e' s'') s'
theorem Py{sc:Scope}{n:Nat}{x:Str}(h:sc.names.lookup x=O .cell):∃c,(cellsFrom n sc.names []).lookup x=O c:=by have q:=PySem.W.cellsFrom_some sc.names n [] (.inl h);exact Option.isSome_iff_exists.mp q
theorem qy{CX:CXT}{P:Ut}{w:World}{K:Frag}{mg:Str->jW}{base:Heap}{N ps:List Str}{qual:Str}{scope:Scope}{f:Uu}{cd:Ur}{A:Around}{outer:List Env}{s s1:Us}{H:Hp}{E:XK}{us:jV}{vs:List V}
  (S:Vf N ps scope) (hd:A.handled=jQ) (e0:Env0 P w K mg base A outer s H) (hl:vs.length=ps.length) (r:Vals vs us)
  (x:InCallC s s.heap.objs.size (bindL (envOfC qual scope s.heap.objs.size f cd).kindOf (ps.zip us) λ_=>jQ) (cellsFrom (s.heap.objs.size+1) scope.names []) (bindC (envOfC qual scope s.heap.objs.size f cd).kindOf (ps.zip us) λ_=>jQ) s1) :
  Inv (Zl CX P w K mg base N qual scope f cd A outer s H E) [] (Xk N vs) H s1:=by
 have hpl:ps.length<=N.length:=by have:=Uh List.length S.pre;rw[JG]at this;omega
 obtain⟨h1,tk,rfl,hk⟩:=x.done;have noA:∀b:Uu,b∉(Zl CX P w K mg base N qual scope f cd A outer s H E).ex:=λb z=>absurd (show b∈([]:j4)from z) (by simp)
 refine⟨⟨e0.mod,S.kind,rfl,rfl,Ql _,λy z c h1 h2=>?_,λy hy=>?_,λy c _ h=>?_,λ_=>hd,Around.frames_deeper e0.frames,.inr ⟨rfl,rfl⟩,λb z=>absurd z (noA b),e0.bs,e0.bsz,λb _ _=>noA b,λb z=>absurd z (noA b),e0.funs,e0.frf⟩,
  rfl,e0.bare,Un.kept hk,⟨_,x.toInCall.ns,λi y v h1 h2 h3=>?_⟩,λy c h=>⟨_,x.cell y c h⟩,e0.hok.fresh (Nat.le_refl _),λy c h=>?_,λp hp=>absurd (show p∈([]:List (Uu×Obj))from hp) (by simp),e0.hok.kept hk,?_⟩
 .exact name_of_addr x.apart (Jc h1) (Jc h2)
 .have hy:scope.names.lookup y=O .cell∨scope.names.lookup y=O .free:=hy
  rcases hy with hy|hy
  .exact Py hy
  .exact absurd jP (S.nofree _ (Jc hy))
 .exact Ui (x.above y c (Jc h))
 .have hi:i<vs.length:=by
   unfold Xk at h2;by_cases hi:i<vs.length
   .exact hi
   .rw[List.getElem?_append_right (by simpa using hi)]at h2
    rw[QD]at h2;split at h2<;>cases h2
  have ha:vs[i]?=O v:=by
   unfold Xk at h2;rw[List.getElem?_append_left (by simpa using hi),List.getElem?_map]at h2;cases e:vs[i]? with
   |none=>rw[e]at h2;cases h2
   |some a=>rw[e]at h2;cases h2;rfl
  obtain⟨u,hu,rv⟩:=r.get ha;have hp:ps[i]?=O y:=by rw[←S.pre,List.getElem?_take_of_lt (by omega)];exact h1
  have ndP:ps.Nodup:=by rw[←S.pre];exact S.nd.sublist (List.take_sublist _ _)
  refine⟨u,rv,?_⟩;rcases S.par y (QH hp)with k|k
  .exact .inl ⟨k,MX ndP hp hu k⟩
  .obtain⟨c,e⟩:=Py (n:=s.heap.objs.size+1) k
   refine .inr ⟨.inl k,c,e,?_⟩;have q:=x.cell y c e;rw[MW ndP hp hu (by show scope.names.lookup y≠_;rw[k];decide)]at q;exact q
 .exact e0.hok.fresh (Ui (x.above y c (Jc h)))
 .unfold Xk
  show _=N.length;rw[Qk,Qd,QR];omega
theorem Ow{CX:CXT}{P:Ut}{w:World}{K:Frag}{mg:Str->jW}{base:Heap}{k:Nat}{f:Uu}{name qual:Str}{params:Arguments}{body:List Stmt}{scope:Scope}{dV kV doc pm cdv ct oc:Ur}{an od:j7}
  {osl:Array jW} {N ps:List Str} {sp:Sp} (lk:K.lookup f=O ⟨oc,od,.func (PySem.W.fnOf name qual params body scope dV kV doc pm an cdv ct),osl⟩) (hcd:PySem.W.codeIn K cdv qual=jR) (S:Vf N ps scope)
  (len:∀vs H Q E,sp vs H Q E->vs.length=ps.length)
  (hbody:∀(A:Around)(outer:List Env)(s:Us)(H:Hp)(vs:List V)(Q:VK)(E:XK),Room k (A.deeper (envOfC qual scope s.heap.objs.size f cdv))->sp vs H Q E ->
   ∃t,PSs (Zl CX P w K mg base N qual scope f cdv A outer s H E) body t/\t {nx:=λ_ H'=>Q .non H',rt:=Q} (Xk N vs) H) :
  FnOk P w K mg base CX (k+1) f (PySem.W.fnOf name qual params body scope dV kV doc pm an cdv ct) ps sp:=by
 refine⟨len,λA outer s H args us vs Q E hr e0 hb r xu=>?_⟩;have hl:=len _ _ _ _ xu;have KX:K.In s.heap:=e0.mod.kin.keeps λb o e=>(e0.bs b o e).1;have lim:s.heap.NoLimit:=e0.mod.nolimit.keeps λb o e=>(e0.bs b o e).1
 have hkind:∀y∈ps.zip us,scope.names.lookup y.1=O .local∨(scope.names.lookup y.1=O .cell/\((cellsFrom (s.heap.objs.size+1) scope.names []).lookup y.1).isSome=jR):=λ⟨n,v⟩ hy=>by
  rcases S.par n (List.of_mem_zip hy).1 with q|q
  .exact .inl q
  .exact .inr ⟨q,PySem.W.cellsFrom_some _ _ _ (.inl q)⟩
 refine codeAny_call_function hr.depth (KX _ _ lk) jP S.co S.gen jP (PySem.W.codeRec_of KX hcd) (hb _ _ _ _ ?_);refine wpAny_newFunctionEnv_cells S.kind hkind λenv he s1 x=>?_;subst he
 refine⟨lim.keeps x.toInCall.keep,codeAny_func ?_⟩;obtain⟨t,ht,hq⟩:=hbody A outer s H vs Q E (hr.deeper _) xu;have I:Inv (Zl CX P w K mg base N qual scope f cdv A outer s H E) [] (Xk N vs) H s1:=qy S hr.hd e0 hl r x;refine QF (ht [] s1 (Xk N vs) H _ I hq) (λfl s' hs=>?_) λe s' hs=>hs
 have fin:∀{σ':St}{H':Hp}{v:V}{u:Ur},Inv (Zl CX P w K mg base N qual scope f cdv A outer s H E) [] σ' H' s'->RelV v u->Q v H'->CE outer P w H s Q u s':=
  λ{σ' H' v u} J rv q=>⟨v,H',J.os,J.bare,J.base,J.hok,rv,q⟩
 cases fl with
 |ret u=>obtain⟨v,σ',H',J,rv,q⟩:=hs;exact fin J rv q
 |next=>obtain⟨σ',H',J,q⟩:=hs;exact fin (v:=V.non) (u:=Value.none) J jP q
 |brk=>obtain⟨_,_,_,q⟩:=hs;exact False.elim q
 |cont=>obtain⟨_,_,_,q⟩:=hs;exact False.elim q
section
variable{X:Cx}{x:Str}{p pos:Pos}{e:Uw}{es:jX}{t:TA}{id T:String}{r:List V->Hp->VK->Prop}
noncomputable def tCB(r:List V->Hp->VK->Prop)(t:TA):TE:=λσ H Q=>t σ H λvs H1=>r vs H1 Q
theorem Vk(hc:ZW X (.builtin id) r)(hg:Gl X x)(hm:X.mg x=jQ)(hv:bootBuiltins x=O (.builtin id))(ha:PA X (e::es) t)(hn:x ≠ "__name__" :=by decide)(hdb:(x==("__debug__" : Str))=jS:=by decide)
  (he:Uz (e::es) X.env=(jS,eval e X.env)::Uz es X.env:=by rfl) (hpl:(backTo pos (Uz es X.env)).any (·.1)=jS:=by rfl):PE X (.Call (.Name x p) (e::es) [] pos) (tCB r t):=by
 intro pins s σ H Q I h;refine Jn (XV I hg hm hv ?_ hn hdb);exact PyProof.Rows.callWith_builtin1 (thn (ha pos pins s σ H _ I h) λus s1 ⟨vs,H1,I1,r1,q1⟩=>hc pins s1 σ H1 vs us Q I1 r1 q1) he hpl
theorem Tq(hc:ZW X (.type T) r)(hg:Gl X x)(hm:X.mg x=jQ)(hv:bootBuiltins x=O (.type T))(ha:PA X (e::es) t)(hn:x ≠ "__name__" :=by decide)(hdb:(x==("__debug__" : Str))=jS:=by decide)
  (he:Uz (e::es) X.env=(jS,eval e X.env)::Uz es X.env:=by rfl) (hpl:(backTo pos (Uz es X.env)).any (·.1)=jS:=by rfl):PE X (.Call (.Name x p) (e::es) [] pos) (tCB r t):=by
 intro pins s σ H Q I h;refine Jn (XV I hg hm hv ?_ hn hdb);exact Jq (thn (ha pos pins s σ H _ I h) λus s1 ⟨vs,H1,I1,r1,q1⟩=>hc pins s1 σ H1 vs us Q I1 r1 q1) he hpl
end
end L2
namespace HT
open PySem PyProof.Rows
section
variable{prog:Ut}{w:World}{A:Around}{E:Ur->Us->Prop}{s:Us}
noncomputable def sIx(n d:Nat):j6->Nat
 |none=>d
 |some v=>if v<0 then(v+(n:Int)).toNat else min v.toNat n
end
end HT
namespace L2
open PySem PySem.Spec PyProof.Rows
abbrev TO:=St->Hp->(j6->Hp->Prop)->Prop
def PO(X:Cx)(e:Option Uw)(t:TO):Prop:=
 ∀(pins:List (Uu×Obj))(s:Us)(σ:St)(H:Hp)(Q:j6->Hp->Prop),Inv X pins σ H s->t σ H Q ->
  Uy (model X.prog X.w) X.A (evalPart e X.env) (λu s'=>∃o H',Inv X pins σ H' s'/\IsPart u o/\Q o H') X.xe s
noncomputable def Dv:TO:=λ_ H Q=>Q jQ H
noncomputable def Fj(t:TE):TO:=λσ H Q=>t σ H λx H1=>∃i,x=.int i/\Q (O i) H1
section
variable{X:Cx}{e:Uw}{te:TE}{lo hi:Option Uw}{tl th:TO}{pos p2:Pos}
theorem Du:PO X jQ Dv:=by intro pins s σ H Q I h;rw[evalPart_none];exact Qg ⟨jQ,H,I,.none,h⟩
theorem Dt(h:PE X e te):PO X (O e) (Fj te):=by
 intro pins s σ H Q I hw;rw[evalPart_some];refine thn (h pins s σ H _ I hw) λu s1 ⟨x,H1,I1,r1,q1⟩=>?_
 obtain⟨i,rfl,q⟩:=q1;obtain⟨t,rfl⟩:=r1;exact⟨O i,H1,I1,.int i t,q⟩
def SlR(X:Cx)(r:V->j6->j6->Hp->VK->Prop):Prop:=
 ∀(pins:List (Uu×Obj))(s:Us)(σ:St)(H:Hp)(x:V)(v vl vu:Ur)(lo hi:j6)(sl:Uu)(Q:VK),Inv X pins σ H s->RelV x v->s.heap.IsSliceOf sl vl vu .none->IsPart vl lo->IsPart vu hi->r x lo hi H Q ->
  ∃T id,typeLookup (.type T) "__getitem__" = pure (O (.builtin id))/\s.TypeIs v T/\Uy (model X.prog X.w) X.A (getItem v (.ref sl)) (EP X pins σ Q) X.xe s
theorem SlR.or{r r':V->j6->j6->Hp->VK->Prop}(h:SlR X r)(h':SlR X r'):SlR X (λx lo hi H Q=>r x lo hi H Q∨r' x lo hi H Q):=by
 intro pins s σ H x v vl vu lo hi sl Q I rx hs pl pu q;rcases q with q|q
 .exact h pins s σ H x v vl vu lo hi sl Q I rx hs pl pu q
 .exact h' pins s σ H x v vl vu lo hi sl Q I rx hs pl pu q
noncomputable def tSl(r:V->j6->j6->Hp->VK->Prop)(te:TE)(tl th:TO):TE:=λσ H Q=>te σ H λx H1=>tl σ H1 λl H2=>th σ H2 λu H3=>r x l u H3 Q
theorem CY{r:V->j6->j6->Hp->VK->Prop}(hr:SlR X r)(he:PE X e te)(hl:PO X lo tl)(hu:PO X hi th):PE X (.Subscript e (.Slice lo hi jQ p2) pos) (tSl r te tl th):=by
 intro pins s σ H Q I h;refine Subscript_ (thn (he pins s σ H _ I h) λv s1 ⟨x,H1,I1,r1,q1⟩=>?_);refine wpAny_Slice (thn (hl pins s1 σ H1 _ I1 q1) λvl s2 ⟨l,H2,I2,pl,q2⟩=>thn (hu pins s2 σ H2 _ I2 q2) λvu s3 ⟨u,H3,I3,pu,q3⟩=>?_);rw[evalPart_none];refine Qg ?_;have I4:Inv X pins σ H3 {s3 with heap:=s3.heap.push {cls:=.type "slice", data:=.fields #[vl,vu,.none]}}:=I3.kept (t':=s3.toks) λb ob q=>Qe _ q
 obtain⟨T,id,hT,ht,hg⟩:=hr pins {s3 with heap:=s3.heap.push {cls:=.type "slice", data:=.fields #[vl,vu,.none]}} σ H3 x v vl vu l u s3.heap.objs.size Q I4 r1 (Heap.IsSliceOf.new ..) pl pu q3;show Uy (model X.prog X.w) X.A (subscriptTail e (.Slice lo hi jQ p2) v (.ref s3.heap.objs.size)) (EP X pins σ Q) X.xe {s3 with heap:=s3.heap.push {cls:=.type "slice", data:=.fields #[vl,vu,.none]}};exact tail_any (ops:=[.ref s3.heap.objs.size,v]) ht hT hg (by with_unfolding_all rfl)
noncomputable def Y4(xs:List V)(lo hi:j6):List V:=(xs.drop (HT.sIx xs.length 0 lo)).take (HT.sIx xs.length xs.length hi-HT.sIx xs.length 0 lo)
theorem qR(xs:List V)(lo hi:j6):(Y4 xs lo hi).length<=xs.length:=by unfold Y4;rw[JG,JX];omega
end
noncomputable def ixN(n:Nat)(i:Int):Option Nat:=if 0<=i then(if i<n then O i.toNat else jQ)else if -(n:Int)<=i then O (i+n).toNat else jQ
noncomputable def atI{α:Type}(xs:List α)(i:Int):Option α:=(ixN xs.length i).bind λj=>xs[j]?
theorem Ds{n:Nat}{i:Int}{j:Nat}(h:ixN n i=O j):seqIndex? i n=O j/\j<n /\ -(n:Int)<=i/\i<n:=by
 unfold ixN at h;by_cases h0:0<=i
 .rw[Qs h0]at h
  by_cases h1:i<n
  .rw[Qs h1]at h
   have e:i.toNat=j:=Jt h;exact⟨by rw[seqIndex_of h0 h1,e],by omega,by omega,h1⟩
  .rw[QE h1]at h;cases h
 .rw[QE h0]at h
  by_cases h1 : -(n:Int)<=i
  .rw[Qs h1]at h
   have e:(i+n).toNat=j:=Jt h;exact⟨by rw[seqIndex_neg (by omega) h1,e],by omega,h1,by omega⟩
  .rw[QE h1]at h;cases h
theorem RZ{α:Type}{xs:List α}{i:Int}{v:α}(h:atI xs i=O v):∃j,seqIndex? i xs.length=O j/\xs[j]?=O v/\j<xs.length /\ -(xs.length:Int)<=i/\i<xs.length:=by
 unfold atI at h;cases e:ixN xs.length i with
 |none=>rw[e]at h;cases h
 |some j=>rw[e]at h;obtain⟨h1,h2,h3,h4⟩:=Ds e;exact⟨j,h1,h,h2,h3,h4⟩
theorem YY{α:Type}{xs:List α}{j:Nat}{v:α}(h:xs[j]?=O v):atI xs (j:Int)=O v:=by
 have hj:j<xs.length:=(Qq.mp h).1;have e:ixN xs.length (j:Int)=O j:=by unfold ixN;rw[if_pos (by omega),if_pos (by omega)];simp
 unfold atI;rw[e];exact h
def RY(b:Uw):Prop:=∀o i,subscripted b jS o i=operate [o,i] (getItem o i)
def IxR(X:Cx)(r:R2):Prop:=
 ∀(value slice:Uw)(pins:List (Uu×Obj))(s:Us)(σ:St)(H:Hp)(x y:V)(v u:Ur)(Q:VK),Inv X pins σ H s->RelV x v->RelV y u->r x y H Q ->
  subscripted slice jS v u=operate [v,u] (getItem v u)->Uy (model X.prog X.w) X.A (subscriptTail value slice v u) (EP X pins σ Q) X.xe s
def MtR(X:Cx)(id:String)(r:V->List V->Hp->VK->Prop):Prop:=
 ∀(pins:List (Uu×Obj))(s:Us)(σ:St)(H:Hp)(x:V)(xs:List V)(v:Ur)(us:jV)(Q:VK),Inv X pins σ H s->RelV x v->Vals xs us->r x xs H Q ->
  Uy (model X.prog X.w) X.A (call (.builtin id) (v::us)) (EP X pins σ Q) X.xe s
section
variable{X:Cx}{a b:Uw}{ta tb:TE}{pos:Pos}
theorem IxR.or{r r':R2}(h:IxR X r)(h':IxR X r'):IxR X (λx y H Q=>r x y H Q∨r' x y H Q):=by
 intro value slice pins s σ H x y v u Q I rx ry q hs;rcases q with q|q
 .exact h value slice pins s σ H x y v u Q I rx ry q hs
 .exact h' value slice pins s σ H x y v u Q I rx ry q hs
theorem Ov{r:R2}(hr:IxR X r)(ha:PE X a ta)(hb:PE X b tb)(hs:RY b):PE X (.Subscript a b pos) (tOp r ta tb):=by intro pins s σ H Q I h;exact Subscript_ (V2 ha hb I h λv u s2 x y H2 I2 rx ry q=>hr a b pins s2 σ H2 x y v u Q I2 rx ry q (hs _ _))
noncomputable def rIxL(K:Frag):R2:=λx y H Q=>∃p xs i v,x=.ref p/\y=.int i/\SqL K H p xs/\atI xs i=O v/\Q v H
noncomputable def rIxT(K:Frag):R2:=λx y H Q=>∃p xs i v,x=.ref p/\y=.int i/\SqT K H p xs/\atI xs i=O v/\Q v H
noncomputable def rIxS:R2:=λx y H Q=>∃z i c,x=.str z/\y=.int i/\z.length<=Ux/\atI z.cps.toList i=O c/\Q (.str ⟨#[c]⟩) H
theorem Dr:IxR X (rIxL X.K):=by
 intro value slice pins s σ H x y v u Q I rx ry h hs;obtain⟨p,xs,i,z,rfl,rfl,hq,he,q⟩:=h;cases rx;obtain⟨t,rfl⟩:=ry;obtain⟨its,r,pl,hz⟩:=I.list hq;obtain⟨j,h1,h2,h3,h4,h5⟩:=RZ he;obtain⟨w,ew,rw'⟩:=r.get h2;have hl:=r.length;have hn:=SO;have fin:EP X pins σ Q w s:=⟨z,H,I,rw',q⟩
 by_cases h0:0<=i
 .have hj:i.toNat=j:=by
   rw[seqIndex_of h0 h5]at h1;exact Jt h1
  exact item_listR pl.isList h0 (by omega) (by rw[hj];simpa using ew) fin hs
 .have hj:(i+(its.toArray.size:Int)).toNat=j:=by
   rw[seqIndex_neg (by omega) h4]at h1;rw[QQ,←hl];exact Jt h1
  exact subscriptTail_builtinR (x:=w) pl.isList.typeIs slot_list_getitem.lookup
   (wpAny_getItem_list_neg (Q:=λr s'=>r=w/\EP X pins σ Q r s') pl.isList (by omega) (by rw[List.size_toArray]<;>omega) (by omega) (by rw[hj];simpa using ew) ⟨rfl,fin⟩) hs
theorem FF:IxR X (rIxT X.K):=by
 intro value slice pins s σ H x y v u Q I rx ry h hs;obtain⟨p,xs,i,z,rfl,rfl,hq,he,q⟩:=h;cases rx;obtain⟨t,rfl⟩:=ry;obtain⟨its,r,pl,hz⟩:=I.tuple hq;obtain⟨j,h1,h2,h3,h4,h5⟩:=RZ he;obtain⟨w,ew,rw'⟩:=r.get h2;have hl:=r.length;have hn:=SO;have fin:EP X pins σ Q w s:=⟨z,H,I,rw',q⟩
 exact subscriptTail_builtinR (x:=w) pl.typeIs slot_tuple_getitem.lookup
  (getItem_tuple (j:=j) (Q:=λr s'=>r=w/\EP X pins σ Q r s') pl (by omega) (by omega) (by rw[List.size_toArray,←hl];exact h1) (by simpa using ew) ⟨rfl,fin⟩) hs
theorem FE:IxR X rIxS:=by
 intro value slice pins s σ H x y v u Q I rx ry h hs;obtain⟨z,i,c,rfl,rfl,hz,he,q⟩:=h;obtain⟨t,rfl⟩:=rx;obtain⟨t',rfl⟩:=ry;obtain⟨j,h1,h2,h3,h4,h5⟩:=RZ he;have hl:z.cps.toList.length=z.length:=by simp[Str.length]
 rw[hl]at h1 h4 h5;have hn:=SO;exact tail_any (typeIs_str s z t) slot_str_getitem.lookup (getItem_str (c:=c) (by have e1:decide (i < -(2 ^ 63:Int))=jS:=Qt (by omega);have e2:decide (i ≥ 2 ^ 63)=jS:=Qt (by omega);rw[e1,e2,Bool.or_false]) (by rw[h1];simpa using h2) ⟨.str ⟨#[c]⟩,H,I.tok _,⟨_,rfl⟩,q⟩) hs
noncomputable def rIx(K:Frag):R2:=λx y H Q=>rIxL K x y H Q∨rIxT K x y H Q∨rIxS x y H Q
theorem OQ:IxR X (rIx X.K):=Dr.or (FF.or FE)
theorem jv(lo hi:j6)(n:Nat):(sliceBounds lo hi jQ n).1=((HT.sIx n 0 lo:Nat):Int)/\(sliceBounds lo hi jQ n).2.1=((HT.sIx n n hi:Nat):Int)/\(sliceBounds lo hi jQ n).2.2=1:=by
 refine⟨?_,?_,rfl⟩
 .cases lo with
  |none=>simp[sliceBounds,HT.sIx]
  |some i=>
   simp only[sliceBounds,HT.sIx,Option.getD_none,show(1:Int) > 0 by decide,Up];by_cases h:i<0
   .simp only[h,Up]<;>omega
   .simp only[h,Um]<;>omega
 .cases hi with
  |none=>simp[sliceBounds,HT.sIx]
  |some i=>
   simp only[sliceBounds,HT.sIx,Option.getD_none,show(1:Int) > 0 by decide,Up];by_cases h:i<0
   .simp only[h,Up]<;>omega
   .simp only[h,Um]<;>omega
theorem jD(its:jV)(lo hi:j6):slicePick its.toArray lo hi jQ=((its.drop (HT.sIx its.length 0 lo)).take (HT.sIx its.length its.length hi-HT.sIx its.length 0 lo)).toArray:=by obtain⟨h1,h2,h3⟩:=jv lo hi its.toArray.size;unfold slicePick;rw[h1,h2,h3];simp only[sliceRange_one,pick_run,QQ]<;>rfl
noncomputable def rSlL(K:Frag):V->j6->j6->Hp->VK->Prop:=λx lo hi H Q=>∃a xs,x=.ref a/\SqL K H a xs/\∀p,H p=jQ->Q (.ref p) (upd H p (.lst (Y4 xs lo hi)))
theorem Dq:SlR X (rSlL X.K):=by intro pins s σ H x v vl vu lo hi sl Q I rx hs pl pu h;obtain⟨a,xs,rfl,hx,q⟩:=h;cases rx;obtain⟨its,r,ht,hz⟩:=I.list hx;have hlen:=r.length;refine⟨"list", _,slot_list_getitem.lookup,ht.isList.typeIs,?_⟩;refine wpAny_getItem_list_slice ht.isList hs pl pu .none (by simp) ?_ (by rw[List.size_toArray]<;>omega);rw[jD,←hlen];refine⟨.ref s.heap.objs.size,_,I.laid (t':=s.toks) (o:=.lst (Y4 xs lo hi)) (λb ob q=>Qe _ q) (Ql _) ?_,rfl,q _ (I.hok.fresh (Ql _))⟩;exact⟨Qz (qR xs lo hi) hz,_,0,(r.drop (HT.sIx xs.length 0 lo)).take (HT.sIx xs.length xs.length hi-HT.sIx xs.length 0 lo),Qn _ jP⟩
theorem LF:ZW X (.type "list") (λxs H Q=>∃p ys,xs=[.ref p]/\(SqL X.K H p ys∨SqT X.K H p ys)/\∀l,H l=jQ->Q (.ref l) (upd H l (.lst ys))):=by
 intro pins s σ H xs us Q I r h;obtain⟨p,ys,rfl,hq,q⟩:=h;obtain⟨u,rfl,rx⟩:=V7 r;cases rx
 have fin:∀(its:jV),Vals ys its->ys.length<=Ux->∀(h':Heap)(c':Nat),(∀b o',s.heap.get? b=O o'->h'.get? b=O o') ->
   h'.get? s.heap.objs.size=O {cls:=.type "list", dict:=jQ,data:=.seq its.toArray c',slots:=#[]}->EP X pins σ Q (.ref s.heap.objs.size) {s with heap:=h'}:=λits r' hz h' c' kp e=>
  ⟨.ref s.heap.objs.size,_,I.laid (t':=s.toks) kp (Ql _) (show Zy X.prog X.w _ h' _ (.lst ys)from⟨hz,its,c',r',e⟩),rfl,q _ (I.hok.fresh (Ql _))⟩
 rcases hq with hq|hq
 .obtain⟨its,r',pl,hz⟩:=I.list hq
  have hlen:=r'.length;obtain⟨o,ho,hc,n,hd⟩:=pl.isList;exact call_list_seq p (.inl jP) ho hc hd (λh' c' kp e=>fin its r' hz h' c' kp e) (by simp only[QQ]<;>omega)
 .obtain⟨its,r',pl,hz⟩:=I.tuple hq
  have hlen:=r'.length;obtain⟨o,ho,hc,n,hd⟩:=pl;exact call_list_seq p (.inr jP) ho hc hd (λh' c' kp e=>fin its r' hz h' c' kp e) (by simp only[QQ]<;>omega)
theorem jC:ZW X (.type "tuple") (λxs H Q=>∃p ys,xs=[.ref p]/\((SqL X.K H p ys/\∀l,H l=jQ->Q (.ref l) (upd H l (.tup ys)))∨(SqT X.K H p ys/\Q (.ref p) H))):=by
 intro pins s σ H xs us Q I r h;obtain⟨p,ys,rfl,h⟩:=h;obtain⟨u,rfl,rx⟩:=V7 r;cases rx;rcases h with ⟨hq,q⟩|⟨hq,q⟩
 .obtain⟨its,r',pl,hz⟩:=I.list hq
  have hlen:=r'.length;refine call_tuple_list pl.isList (λh' kp=>?_) (by simp only[QQ]<;>omega);have I1:Inv X pins σ H {s with heap:=h'}:=I.kept (t':=s.toks) kp
  have I2:Inv X pins σ (upd H h'.objs.size (.tup ys)) {s with heap:=h'.push {cls:=.type "tuple", data:=.seq its.toArray}}:=
   I1.laid (t':=s.toks) (λb o e=>Qe _ e) (Ql _) (show Zy X.prog X.w _ _ _ (.tup ys)from⟨hz,its,r',IsTup.new _ _⟩)
  exact⟨.ref h'.objs.size,_,I2,rfl,q _ (I1.hok.fresh (Ql _))⟩
 .obtain⟨its,r',pl,hz⟩:=I.tuple hq
  exact call_tuple_same pl ⟨.ref p,H,I,rfl,q⟩
def tyV(K:Frag)(T:String)(x:V)(H:Hp):Prop:=match x with
 |.str _=>T = "str"
 |.int _=>T = "int"
 |.ref p=>(T = "list" /\ ∃xs,SqL K H p xs)∨(T = "tuple" /\ ∃o,K.lookup p=O o/\o.cls=.type "tuple" /\ o.dict=jQ) ∨
   (T = "dict" /\ ((∃kvs,H p=O (.dK kvs)) ∨ ∃kvs,H p=O (.dT kvs)))∨(T = "set" /\ ∃S n,H p=O (.set S n))
 |_=>False
theorem FD{pins:List (Uu×Obj)}{σ:St}{H:Hp}{s:Us}{T:String}{x:V}{v:Ur}(I:Inv X pins σ H s)(r:RelV x v)(ty:tyV X.K T x H) :
  s.TypeIs v T/\∀a,v=.ref a->∃ob,s.heap.get? a=O ob/\ob.dict=jQ:=by
 cases x with
 |str z=>obtain⟨t,rfl⟩:=r;cases (show T = "str" from ty);exact⟨typeIs_str s z t,λ_ e=>nomatch e⟩
 |int i=>obtain⟨t,rfl⟩:=r;cases (show T = "int" from ty);exact⟨typeIs_int s i t,λ_ e=>nomatch e⟩
 |ref p=>
  cases r;rcases ty with ⟨rfl,xs,hq⟩|⟨rfl,o,hk,hc,hd⟩|⟨rfl,hk⟩|⟨rfl,S,n,hk⟩
  .obtain⟨its,_,pl,_⟩:=I.list hq
   refine⟨pl.isList.typeIs,λa e=>?_⟩;cases e;obtain⟨o,n,e,c,hd,_⟩:=pl;exact⟨o,e,hd⟩
  .refine⟨⟨o,I.kIn p o hk,hc⟩,λa e=>?_⟩
   cases e;exact⟨o,I.kIn _ o hk,hd⟩
  .have z:∃o,s.heap.get? p=O o/\o.ExactDict:=by
    rcases hk with ⟨kvs,hk⟩|⟨kvs,hk⟩
    .obtain⟨_,_,_,_,o,_,_,e,ex,_⟩:=I.hok p _ hk
     exact⟨o,e,ex⟩
    .obtain⟨_,_,_,_,o,_,_,e,ex,_⟩:=I.hok p _ hk
     exact⟨o,e,ex⟩
   obtain⟨o,e,ex⟩:=z;refine⟨⟨o,e,ex.1⟩,λa e2=>?_⟩;cases e2;exact⟨o,e,ex.2.1⟩
  .obtain⟨o,_,_,_,e,ex,_⟩:=I.hok p _ hk
   refine⟨⟨o,e,ex.1⟩,λa e2=>?_⟩;cases e2;exact⟨o,e,ex.2.1⟩
 |_=>exact False.elim ty
noncomputable def tBM(K:Frag)(T:String)(r:V->List V->Hp->VK->Prop)(to:TE)(t:TA):TE:=λσ H Q=>to σ H λx H1=>tyV K T x H1/\t σ H1 λxs H2=>r x xs H2 Q
variable{o e:Uw}{es:jX}{to:TE}{t:TA}{name:Str}{apos cpos:Pos}{T id:String}{r:V->List V->Hp->VK->Prop}
theorem Fi(pa:PlainAttrs T)(slot:Slot T name id)(hty:typeOf (.builtin id)=pure (.type "method_descriptor"))(hm:MtR X id r)(ho:PE X o to)(ha:PA X (e::es) t)
  (hbase:attributeBase o name X.env (eval o X.env)=eval o X.env:=by rfl)
  (hfew:((backTo cpos (Uz (e::es) X.env)).all (λx=>!x.1)&&(backToKw cpos (keywordEach [] X.env)).all (λx=>x.1.isSome)
   && decide ((e::es).length+([]:List Keyword).length+(if([]:List Keyword).isEmpty then 0 else 1)<30))=jR:=by rfl)
  (hline:(apos.endLine==cpos.line)=jR:=by rfl) (hs:Uz (e::es) X.env=(jS,eval e X.env)::Uz es X.env:=by rfl) (hplain:(backTo cpos (Uz es X.env)).any (·.1)=jS:=by rfl) :
  PE X (.Call (.Attribute o name apos) (e::es) [] cpos) (tBM X.K T r to t):=by
 intro pins s σ H Q I h;refine wpAny_Call_method_late hbase hfew hline jP (thn (ho pins s σ H _ I h) λv s1 ⟨x,H1,I1,r1,ty,q1⟩=>?_);obtain⟨h1,h2⟩:=FD I1 r1 ty;refine⟨T,id,pa,slot,hty,h1,h2,?_⟩;have hA:=ha cpos pins s1 σ H1 _ I1 q1;rw[hs]at hA⊢;refine Calls.callWith_builtin (by show(jS || (backTo cpos (Uz es X.env)).any (·.1))=jS;rw[hplain]<;>rfl) (Calls.evalArgs_plain ?_);exact thn hA λus s2 ⟨vs,H2,I2,r2,q2⟩=>hm pins s2 σ H2 x vs v us Q I2 r1 r2 q2
end
def MtM(X:Cx)(id:String)(r:V->List V->Hp->VK->Prop):Prop:=
 ∀(pins:List (Uu×Obj))(s:Us)(σ:St)(H:Hp)(x:V)(xs:List V)(v:Ur)(us:jV)(Q:VK),Inv X pins σ H s->RelV x v->Vals xs us->r x xs H Q ->
  Uy (model X.prog X.w) X.A (call (.builtin id) (v::us)) (EP X pins σ Q) X.xe s
theorem Vals.one:∀{x:V}{us:jV},Vals [x] us->∃u,us=[u]/\RelV x u
 |_,_,.cons r .nil=>⟨_,rfl,r⟩
theorem Vals.two:∀{x y:V}{us:jV},Vals [x,y] us->∃u v,us=[u,v]/\RelV x u/\RelV y v
 |_,_,_,.cons r (.cons q .nil)=>⟨_,_,rfl,r,q⟩
theorem Vals.reverse{xs:List V}{us:jV}(h:Vals xs us):Vals xs.reverse us.reverse:=by
 induction h with
 |nil=>exact .nil
 |cons r t ih=>rw[List.reverse_cons,List.reverse_cons];exact Vals.append ih (.cons r .nil)
theorem Vals.rep{xs:List V}{us:jV}(h:Vals xs us):∀k:Nat,Vals (UC k xs).flatten (UC k us).flatten
 |0=>.nil
 |k+1=>by rw[Jd,Jd,QJ,QJ];exact Vals.append h (Vals.rep h k)
theorem MV(its:jV):∀(k:Nat)(acc:jV),
  List.foldl (λx1 x2=>x1++x2) acc.toArray (UC k its.toArray)=(acc++(UC k its).flatten).toArray
 |0,acc=>by simp
 |k+1,acc=>by
  have e:acc.toArray++its.toArray=(acc++its).toArray:=by simp
  have e2:(acc++its)++(UC k its).flatten=acc++(UC (k+1) its).flatten:=by rw[Jd,QJ,Q8]
  rw[←e2,←MV its k (acc++its),←e,Jd,List.foldl_cons]
section
variable{X:Cx}{pins:List (Uu×Obj)}{σ:St}{H:Hp}{s:Us}{l b:Uu}{xs ys zs:List V}
theorem Inv.lset{its its':jV}{n:Nat}{f:Array Ur->Array Ur}{t':Nat}(I:Inv X pins σ H s)(hH:H l=O (.lst xs))
  (e:s.heap.get? l=O {cls:=.type "list", data:=.seq its.toArray n}) (hf:f its.toArray=its'.toArray) (hv:Vals ys its') (hz:ys.length<=Ux) :
  Inv X pins σ (upd H l (.lst ys)) {s with heap:=s.heap.update l (Obj.mapSeq f),toks:=t'}:=by
 have q:=PySem.IsL.update e f;rw[hf]at q;refine I.write (x:=l) (e:=l) (by rw[hH];exact trivial) (.inl jP) (λb' u hb hu=>(QO s.heap (Obj.mapSeq f) (Ne.symm hb)).trans hu) ⟨_,q⟩ ?_;exact⟨hz,its',_,hv,q⟩
theorem Inv.lnew{its:jV}{t':Nat}(I:Inv X pins σ H s)(hv:Vals ys its)(hz:ys.length<=Ux) :
  Inv X pins σ (upd H s.heap.objs.size (.lst ys)) {s with heap:=s.heap.push {cls:=.type "list", data:=.seq its.toArray},toks:=t'}:=
 I.laid (λ_ _ q=>Qe _ q) (Ql _) ⟨hz,its,0,hv,Qn _ jP⟩
theorem Inv.fresh(I:Inv X pins σ H s):H s.heap.objs.size=jQ:=I.hok.fresh (Ql _)
theorem Inv.lstM(I:Inv X pins σ H s)(hH:H l=O (.lst xs)):xs.length<=Ux/\∃(its:jV)(n:Nat),Vals xs its/\xs.length=its.length/\s.heap.get? l=O {cls:=.type "list", data:=.seq its.toArray n}:=by obtain⟨z,its,n,r,e⟩:=I.hok l _ hH;exact⟨z,its,n,r,r.length,e⟩
theorem CW{n:Nat}(h:n<=Ux):Builtin.List.listTooLong n=jS:=by unfold Builtin.List.listTooLong;exact Qt (by omega)
end
section
variable{X:Cx}
noncomputable def Dp:V->List V->Hp->VK->Prop:=λx vs H Q=>∃l xs y,x=.ref l/\vs=[y]/\H l=O (.lst xs)/\xs.length<Ux/\Q .non (upd H l (.lst (xs++[y])))
theorem MU:MtM X "list.append" Dp:=by intro pins s σ H x vs v us Q I rx rv h;obtain⟨l,xs,y,rfl,rfl,hH,hz,q⟩:=h;cases rx;obtain⟨u,rfl,ru⟩:=rv.one;obtain⟨z,its,n,r,hl,e⟩:=I.lstM hH;refine call_meets F.slot_list_append ⟨_,e,rfl⟩ F.entry_list_append (F.args_list_append_2 _ _) (PySem.list_append l its.toArray n u (by rw[QQ];omega)) ⟨e,?_⟩;refine⟨.non,_,I.lset (its':=its++[u]) hH e (by simp) (r.append (.cons ru .nil)) ?_,rfl,q⟩;rw[Qk,Q2];omega
theorem Do{α:Type}(xs:List α)(k:Nat):(UC k xs).flatten.length=k*xs.length:=by
 induction k with
 |zero=>simp
 |succ k ih=>rw[Jd,QJ,Qk,ih,Nat.succ_mul,Nat.add_comm]
end
section
variable{prog:Ut}{w:World}{A:Around}{E:Ur->Us->Prop}{s:Us}
set_option maxRecDepth 100000 in
end
end L2
namespace Att
open PySem PySem.W PySem.Calls PyProof.Rows
theorem jL{P:Params}{h:Heap}:∀(ns:jU)(vs:jV),WellAll P h vs (ns.map WData.int)->IntsAre vs ns:=by
 intro ns;induction ns with
 |nil=>intro vs w;rw[List.map_nil]at w;cases w;exact .nil
 |cons n ns ih=>
  intro vs w;rw[QA]at w;cases w with
  |cons a b=>cases a;exact .cons _ _ (ih _ b)
theorem qx{l:OpenLaw}{n:Nat}(hn:l.most=O n){P:Params}{h:Heap}{args:List WData}{vals:jV}
  (hpre:l.row.toRowW.claim.pre args=jR) (hwl:WellAll P h vals args) :
  ∃a vs ns,vals=[Value.ref a]/\args=[WData.list (ns.map WData.int)]/\h.get? a=O {cls:=.type "list", data:=.seq vs.toArray}/\IntsAre vs ns/\ns.length<=n:=by
 have hsh:WShape.hasAll [] args [.list .int]=jR:=(pre_splitW hpre).1;have hc:l.pre.holds [] {args:=args}=jR:=(pre_splitW hpre).2;obtain⟨d,r,rfl,h1,h2⟩:=hasAllW_cons hsh;obtain rfl:=hasAllW_nil h2;obtain⟨xs,rfl,h3⟩:=hasW_list h1;obtain⟨ns,rfl⟩:=items_int h3
 have hlen:ns.length<=n:=by
  unfold OpenLaw.pre at hc;have h4:(WTm.not (.lt (.lit (.int (n:Int))) (.len (.arg 0)))).holds [] {args:=[.list (ns.map .int)]}=jR:=by have h4:=(holds_andW hc).1;rw[hn]at h4;exact h4
  have h5:=condW_of h4 (w_not (w_lt w_lit (w_len_list (w_arg jP))));rw[Qd]at h5;refine Q7 λq=>?_;have q':(n:Int)<((ns.length:Nat):Int):=by omega
  first
   |(rw[Qw q']at h5;exact absurd h5 (by decide))
   |(simp at h5;omega)
 cases hwl with
 |cons w1 w2=>
  cases w2;cases w1 with
  |list ho hall=>exact⟨_,_,ns,rfl,rfl,ho,jL ns _ hall,hlen⟩
theorem qw(l:OpenLaw)(args:List WData):l.row.toRowW.claim.post args (.bool jR) args=jR:=
 postW_of (r:=l.row.toRowW) (X:=(jR==jR))
  (show WShape.has [] (.bool jR) .bool=jR by first|rfl|decide|simp[WShape.has,WShape.arms,WShape.armsAll])
  (show(WTm.eq .res (.lit (.bool jR))).value [] {args:=args,res:=O (.bool jR),after:=args}=O (.bool (jR==jR))from w_eq_bool (w_res jP) w_lit) jP
theorem attach_call{l:OpenLaw}{n:Nat}{q:Ut}{loose:List Str}{XP:(Str->jW)->Heap->Prop}{YP:World->Heap->Prop}{d:DefRec}
  (hn:l.most=O n) (hdf:d.params.defaults=[])
  (call:∀(w:World)(s₀ s₁:Us)(mg mb:Str->jW)(fa:Uu)(o:Obj)(pm cd doc:Ur)(a:Uu)(vs:jV)(ns:jU),
   Ground q loose [] XP w s₀ mg mb s₁.heap->YP w s₁.heap ->
   s₁.heap.get? fa=O o->o.data=.func (docDef d.name d.params d.body d.scope pm cd doc)->s₁.heap.CodeRec cd d.name->mg d.name=O (.ref fa) ->
   s₁.heap.get? a=O {cls:=.type "list", data:=.seq vs.toArray}->IntsAre vs ns->ns.length<=n->s₁.gens=#[] ->
   codeAny (model l.prog w) callerA (.call (.ref fa) ⟨[.ref a],[]⟩) (λr s'=>r=.ok (.ret (.bool jR))/\OldK s₁.heap s'.heap/\s'.os=s₁.os/\AllBare s'.gens) s₁) :
  WalkO q loose XP YP l.row.toRowW d [] (λf vs=>PySem.call f vs):=by
 intro w s₀ s₁ mg mb G Y fa o pm cd doc dV kV ho hd hcd hD hmg hg args vals as hpre hlay hrd hwl hlo;obtain rfl:dV=.none:=Dflts.none hD hdf;obtain rfl:kV=.none:=Dflts.noKw hD;obtain⟨a,vs,ns,rfl,rfl,hobj,hints,hlen⟩:=qx hn hpre hwl;refine enter_call (Jv (call w s₀ s₁ mg mb fa o pm cd doc a vs ns G Y ho (fd_plain hd) hcd hmg hobj hints hlen hg) λr s' hq=>?_);obtain⟨rfl,h2,h3,h4⟩:=hq;exact⟨.inl ⟨.bool jR,.bool jR,[],rfl,λ_=>rfl,.bool jR,qw l _,λ_=>⟨List.Pairwise.nil,λ_ hm=>(nomatch hm)⟩⟩,h2,h3,h4⟩
end Att
namespace L2
open PySem PySem.Spec PyProof.Rows
theorem Tp:∀{vs:jV}{ns:jU},IntsAre vs ns->Vals (ns.map V.int) vs
 |_,_,.nil=>.nil
 |_,_,.cons n t h=>.cons ⟨t,rfl⟩ (Tp h)
def Only(H:Hp):Prop:=∀b,H b=jQ ∨ ∃o xs,H b=O (.frz o (.lst xs))
theorem CV{P:Ut}{w:World}{K:Frag}{mg mb:Str->jW}{CX:CXT}{k:Nat}{fa a:Uu}{fd:Uv}{x:Str}{sp:Sp}{s₁:Us}{vs:jV}{ns:jU}
  (KX:K.In s₁.heap) (hns:s₁.heap.Ns mainGlobals mg) (hb:s₁.heap.Ns builtinsNs mb) (hbb:∀x:Str,x ≠ "__name__" -> mb x=bootBuiltins x) (hlim:s₁.heap.NoLimit) (hg:s₁.gens=#[])
  (ha:s₁.heap.get? a=O {cls:=.type "list", data:=.seq vs.toArray}) (hi:IntsAre vs ns) (hl:ns.length<=Ux) (hr:Room k callerA)
  (F:∀base:Heap,K.In base->base.Ns mainGlobals mg->FnOk P w K mg base CX k fa fd [x] sp) (hbind:∀(s:Us)(u:Ur),BindsTo s fd ⟨[u],[]⟩ [(x,u)])
  (xu:∀H:Hp,Only H->SqL K H a (ns.map V.int)->sp [.ref a] H (λv _=>v=.bl jR) λ_ _ _=>False)
  (hCX:∀H e s',CX [] H s₁ (λ_ _ _=>False) e s'->False) :
  codeAny (model P w) callerA (.call (.ref fa) ⟨[.ref a],[]⟩) (λr s'=>r=.ok (.ret (.bool jR))/\OldK s₁.heap s'.heap/\s'.os=s₁.os/\AllBare s'.gens) s₁:=by
 have rv:=Tp hi;have lenV:=hi.length
 have core:∀H:Hp,Only H->SqL K H a (ns.map V.int)->HOk P w H s₁.heap->(∀b,H b≠jQ->b=a)->(H a≠jQ->K.lookup a=jQ) ->
   codeAny (model P w) callerA (.call (.ref fa) ⟨[.ref a],[]⟩) (λr s'=>r=.ok (.ret (.bool jR))/\OldK s₁.heap s'.heap/\s'.os=s₁.os/\AllBare s'.gens) s₁:=by
  intro H hO hS hok hA hK;have base_of:∀{b:Uu}{o:Obj},s₁.heap.get? b=O o->H b=jQ->(Yc s₁.heap H).get? b=O o:=λe n=>C2 e n
  have noA:∀{b:Uu}{o:Obj}{es:Array DictEntry}{ep:Nat},s₁.heap.get? b=O o->o.data=.dict es ep->H b=jQ:=λ{b o es ep} e d=>by
   cases q:H b with
   |none=>rfl
   |some u=>have e':b=a:=hA b (by rw[q];simp);subst e';rw[ha]at e;cases e;have d':Data.seq vs.toArray _=Data.dict es ep:=d;cases d'
  have nsK:∀{b:Uu}{m:Str->jW},s₁.heap.Ns b m->(Yc s₁.heap H).Ns b m:=λ{b m} ⟨o,es,ep,e,d,r⟩=>⟨o,es,ep,base_of e (noA e d),d,r⟩
  have hKb:K.In (Yc s₁.heap H):=λb o e=>base_of (KX b o e) (by
   cases q:H b with
   |none=>rfl
   |some u=>have e':b=a:=hA b (by rw[q];simp);subst e';rw[hK (by rw[q];simp)]at e;cases e)
  have hM:Mod K mg (Yc s₁.heap H):=⟨hKb,nsK hns,⟨mb,nsK hb,hbb⟩,let ⟨mc,h1,h2⟩:=hlim;⟨mc,nsK h1,h2⟩⟩
  have e0:Env0 P w K mg (Yc s₁.heap H) callerA [] s₁ H:=⟨rfl,hM,λb o e=>DA e,Nat.le_of_eq (qf _ _),trivial,λb hb=>absurd (show b∈([]:j4)from hb) (by simp),hok,.of_eq hg⟩
  refine Jv ((F _ hKb (nsK hns)).run callerA [] s₁ H ⟨[.ref a],[]⟩ [.ref a] [.ref a] _ _ hr e0 (hbind s₁ (.ref a)) (.cons jP .nil) (xu H hO hS)) λr s' h=>?_
  cases r with
  |error e=>exact(hCX H e s' h).elim
  |ok fl=>
   cases fl with
   |next=>exact False.elim h
   |brk=>exact False.elim h
   |cont=>exact False.elim h
   |ret u=>
    obtain⟨v,H',os,bare,un,hok',r',q⟩:=h;have q':v=.bl jR:=q;subst q';obtain rfl:u=Value.bool jR:=r';refine⟨rfl,OldK.of_keep λb o e=>?_,os,bare⟩;cases q:H b with
    |none=>exact un.keep b o e q (by intro z;exact absurd (show b∈([]:j4)from z) (by simp)) (by simp)
    |some u=>
     rcases hO b with z|⟨ob,xs,z⟩
     .rw[q]at z;cases z
     .have z2:=un.frzs b ob _ z
      obtain⟨e1,_⟩:=hok b _ z;obtain⟨e2,_⟩:=hok' b _ z2;rw[e]at e1;cases e1;exact e2
 cases hk:K.lookup a with
 |some o=>have e:=KX a o hk;rw[ha]at e;cases e;refine core (λ_=>jQ) (λ_=>.inl jP) (.inr ⟨_,vs.toArray,_,hk,rfl,rfl,rfl,by rw[List.size_toArray,lenV];exact hl,by simpa using rv⟩) (λb u z=>by have z':(none:Option HO)=O u:=z;cases z') (λb z=>absurd jP z) λz=>absurd jP z
 |none=>
  refine core (λb=>if b=a then O (.frz {cls:=.type "list", data:=.seq vs.toArray} (.lst (ns.map V.int)))else jQ) (λb=>?_) (.inl (.inr ⟨{cls:=.type "list", data:=.seq vs.toArray},Qs jP⟩)) (λb u z=>?_) (λb z=>?_) λ_=>hk
  .by_cases hb:b=a
   .exact .inr ⟨_,_,Qs hb⟩
   .exact .inl (QE hb)
  .by_cases hb:b=a
   .have z':=(Qs hb).symm.trans z
    cases z';subst hb;exact⟨ha,by rw[Qd];exact hl,vs,_,rv,ha⟩
   .have z':=(QE hb).symm.trans z
    cases z'
  .by_cases hb:b=a
   .exact hb
   .exact absurd (QE hb) z
noncomputable def Xi(s:Stmt):Arguments:=match s with
 |.FunctionDef _ a _ _ _ _ _ _ _ _=>a
 |_=>{posonlyargs:=[],args:=[],vararg:=jQ,kwonlyargs:=[],kw_defaults:=[],kwarg:=jQ,defaults:=[]}
noncomputable def Z6(s:Stmt):List Stmt:=match s with
 |.FunctionDef _ _ b _ _ _ _ _ _ _=>b
 |_=>[]
noncomputable def KY(s:Stmt):Scope:=match s with
 |.FunctionDef _ _ _ _ _ _ sc _ _ _=>sc
 |_=>{kind:=.function,names:=[],isGenerator:=jS,isCoroutine:=jS}
noncomputable abbrev CX0:CXT:=λ_ _ _ _ _ _=>False
noncomputable abbrev E0:XK:=λ_ _ _=>False
theorem RH{X:Cx}:RV CX0 X E0:=λ_ _ _ _ _ _ _ h=>h.elim
structure Fun(K:Frag)(x qual:Str)(st:Stmt)(f:Uu)(fd:Uv):Prop where
 ex:∃(oc:Ur)(od:j7)(kV doc pm:Ur)(an:j7)(cdv ct:Ur)(osl:Array jW),
  fd=PySem.W.fnOf x qual (Xi st) (Z6 st) (KY st) .none kV doc pm an cdv ct/\K.lookup f=O ⟨oc,od,.func fd,osl⟩/\PySem.W.codeIn K cdv qual=jR
 kp:PySem.W.keepIn K (.ref f)=jR
section
variable{P:Ut}{w:World}{K:Frag}{mg:Str->jW}{base:Heap}
theorem Fun.ok{x qual:Str}{st:Stmt}{f:Uu}{fd:Uv}{N ps:List Str}{k:Nat}{sp:Sp}(F:Fun K x qual st f fd)(S:Vf N ps (KY st))(len:∀vs H Q E,sp vs H Q E->vs.length=ps.length)
  (hbody:∀(cdv:Ur)(A:Around)(outer:List Env)(s:Us)(H:Hp)(vs:List V)(Q:VK)(E:XK),Room k (A.deeper (envOfC qual (KY st) s.heap.objs.size f cdv))->sp vs H Q E ->
   ∃t,PSs (Zl CX0 P w K mg base N qual (KY st) f cdv A outer s H E).nox (Z6 st) t/\t {nx:=λ_ H'=>Q .non H',rt:=Q} (Xk N vs) H):FnOk P w K mg base CX0 (k+1) f fd ps sp:=by
 obtain⟨oc,od,kV,doc,pm,an,cdv,ct,osl,rfl,lk,hcd⟩:=F.ex;refine Ow lk hcd S len λA outer s H vs Q E hr xu=>?_
 obtain⟨t,h,q⟩:=hbody cdv A outer s H vs Q E hr xu;exact⟨t,h.nox,q⟩
theorem Fun.binds{x qual:Str}{st:Stmt}{f:Uu}{fd:Uv}{ps:List Str}(F:Fun K x qual st f fd)
  (h:∀(kV doc pm:Ur)(an:j7)(cdv ct:Ur)(us:jV),us.length=ps.length->bindArgs (PySem.W.fnOf x qual (Xi st) (Z6 st) (KY st) .none kV doc pm an cdv ct) ⟨us,[]⟩=pure (ps.zip us)):Ym K fd ps []:=by
 obtain⟨oc,od,kV,doc,pm,an,cdv,ct,osl,rfl,lk,hcd⟩:=F.ex;exact .all (h kV doc pm an cdv ct)
end
def Same(H H':Hp):Prop:=∀b o,H b=O o->H' b=O o
theorem Same.refl(H:Hp):Same H H:=λ_ _ h=>h
theorem Same.trans{H H1 H2:Hp}(a:Same H H1)(b:Same H1 H2):Same H H2:=λc o h=>b c o (a c o h)
theorem Same.free{H H':Hp}(e:Same H H'){l:Uu}(h:H' l=Option.none):H l=Option.none:=by
 cases q:H l with
 |none=>rfl
 |some o=>rw[e l o q]at h;cases h
theorem Same.seq{K:Frag}{H H':Hp}{a:Uu}{xs:List V}(e:Same H H')(h:SqL K H a xs):SqL K H' a xs:=by
 rcases h with (h|⟨o,h⟩)|h
 .exact .inl (.inl (e _ _ h))
 .exact .inl (.inr ⟨o,e _ _ h⟩)
 .exact .inr h
section
variable{X:Cx}{pins:List (Uu×Obj)}{σ:St}{H:Hp}{s:Us}{h':Heap}
theorem Inv.turnedNew{t':Nat}{fp:j4}{p:Uu}{o:HO}(I:Inv X pins σ H s)(hf:∀b∈fp,Zt X pins H b)
  (k:∀b o,b∉fp->s.heap.get? b=O o->h'.get? b=O o) (hp:s.heap.objs.size<=p) (new:Zy X.prog X.w (upd H p o) h' p o) :
  Inv X pins σ (upd H p o) {s with heap:=h',toks:=t'}:=by
 have hn:H p=jQ:=I.hok.fresh hp;have trk:∀b u,H b=O u->b∉fp:=λb u e z=>by rw[(hf b z).1]at e;cases e
 refine I.step (g':=s.gens) (d':=s.drawn) (ch:=fp) (λb hb=>?_) (λb o _ _ hc e _=>k b o hc e) (λb o _ _ hc e _=>⟨o.slots,k b o hc e⟩)
  (λb o _ e n=>by rw[Kp (QI (Qy (Qf e) hp))];exact n) (λb o hc e=>⟨o,k b o hc e⟩)
  (λb xs e=>by rw[Kp (YR e hn)];exact e) (λb ob u e=>by rw[Kp (YR e hn)];exact e) (λb ps e=>⟨#[],by rw[Kp (YR e hn),e];simp⟩)
  (λm hm=>?_) (λb u e=>?_) I.bare
 .obtain⟨_,f1,_,f3,f4,f5⟩:=hf b hb
  exact⟨f3,f1,f4,f5⟩
 .obtain⟨ob,es,ep,ho,r⟩:=hm
  exact⟨ob,es,ep,k _ ob (λz=>(hf _ z).2.1 jP) ho,r⟩
 .by_cases hb:b=p
  .subst hb;rw[KO]at e;cases e;exact new
  .rw[Kp hb]at e
   refine(I.hok b u e).stay (λc v hc q=>k c v ?_ q) (λc q=>by rw[Kp (YR q hn)];exact q) λc xs q=>by rw[Kp (YR q hn)];exact q
   rcases hc with z|z
   .rw[z];exact trk b u e
   .exact trk c _ z
theorem Inv.turnedL{t':Nat}{fp:j4}(I:Inv X pins σ H s)(hf:∀b∈fp,Zt X pins H b)
  (k:∀b o,b∉fp->s.heap.get? b=O o->h'.get? b=O o):Inv X pins σ H {s with heap:=h',toks:=t'}:=by
 have trk:∀b u,H b=O u->b∉fp:=λb u e z=>by rw[(hf b z).1]at e;cases e
 refine I.step (g':=s.gens) (d':=s.drawn) (ch:=fp) (λb hb=>?_) (λb o _ _ hc e _=>k b o hc e) (λb o _ _ hc e _=>⟨o.slots,k b o hc e⟩)
  (λ_ _ _ _ n=>n) (λb o hc e=>⟨o,k b o hc e⟩) (λ_ _ e=>e) (λ_ _ _ e=>e) (λb ps e=>⟨#[],by rw[e];simp⟩) (λm hm=>?_) (λb u e=>?_) I.bare
 .obtain⟨_,f1,_,f3,f4,f5⟩:=hf b hb
  exact⟨f3,f1,f4,f5⟩
 .obtain⟨ob,es,ep,ho,r⟩:=hm
  exact⟨ob,es,ep,k _ ob (λz=>(hf _ z).2.1 jP) ho,r⟩
 .refine(I.hok b u e).stay (λc v hc q=>k c v ?_ q) (λc q=>q) λc xs q=>q
  rcases hc with z|z
  .rw[z];exact trk b u e
  .exact trk c _ z
end
noncomputable def Ite(K:Frag)(a:Uu):It:=
 ⟨λi H=>∃xs x,SqL K H a xs/\xs[i]?=O x,
  λi H v H'=>∃p x,H p=jQ/\v=.ref p/\(∀xs,SqL K H a xs->xs[i]?=O x)/\H'=upd H p (.tup [.int i,x]),
  λi H=>∃xs,SqL K H a xs/\xs.length<=i⟩
theorem qv{P:Ut}{w:World}{K:Frag}{elts:jX}{x1}{tp:Pos}(a e it:Uu)(hne:e≠it) :
  Turn P w K (.Tuple elts x1 tp) (Ite K a) [e,it] e (λi h=>(∃old,IsEnum h e it i old)/\h.IsListIter it a i) where
 mem:=by simp
 obj:=λi h st b hb=>by
  obtain⟨⟨old,he⟩,o,ho,c,d⟩:=st;have hb':b=e∨b=it:=by simpa using hb
  rcases hb' with rfl|rfl
  .exact⟨_,he,λv z=>by have z':Data.fields _=Data.cell v:=z;cases z'⟩
  .exact⟨o,ho,λv z=>by rw[d]at z;cases z⟩
 keep:=λi h h' st k=>by obtain⟨⟨old,he⟩,hi⟩:=st;exact⟨⟨old,k e (by simp) _ he⟩,hi.at λo q=>k it (by simp) o q⟩
 item:=by
  intro X hP hw hK hc i pins s σ H E I hf st hg;subst hP hw hK;obtain⟨⟨old,he⟩,hi⟩:=st;obtain⟨xs,x,hq,hx⟩:=hg;obtain⟨its,rv,p,hz⟩:=I.list hq;obtain⟨u,hu,ru⟩:=rv.get hx;refine wpAny_pyNext_enum_item he hi p.isList (x:=u) (by simpa using hu) hne λh1 out hi1 ht hsz kk=>?_
  refine⟨_,rfl,wpAny_letOwnedTupleGo_enum out λh2 kM hs2=>?_⟩;have hel:e<s.heap.objs.size:=Qf he;have kJ:Heap.SameBut e h1 h2:=hs2;have ht2:h2.get? s.heap.objs.size=O {cls:=.type "tuple", data:=.seq #[.int i s.toks,u]}:=(kJ.2 _ (Jl hel)).trans ht
  have kk2:∀b o,b∉[e,it]->s.heap.get? b=O o->h2.get? b=O o:=λb o hb q=>by
   have kL:b≠e:=λz=>hb (by simp[z])
   have hbi:b≠it:=λz=>hb (by simp[z])
   exact(kJ.2 b kL).trans (kk b o kL hbi q)
  have hn:H s.heap.objs.size=jQ:=I.hok.fresh (Ql _)
  have I2:Inv X pins σ (upd H s.heap.objs.size (.tup [.int i,x])) {s with heap:=h2,toks:=s.toks+1}:=
   I.turnedNew (fp:=[e,it]) hf kk2 (Ql _) ⟨by show 2<=Ux;decide,[.int i s.toks,u],.cons ⟨_,rfl⟩ (.cons ru .nil),⟨_,ht2,rfl,_,rfl⟩⟩
  refine⟨.ref s.heap.objs.size,_,I2,rfl,⟨_,x,hn,rfl,λys hy=>by rw[I.list_inj hy hq];exact hx,rfl⟩,⟨⟨u,?_⟩,?_⟩,λb hb=>?_⟩
  .have:=kM
   simpa using this
  .have hi2:h2.IsListIter it a (i+1):=hi1.at λo q=>(kJ.2 it (Ne.symm hne)).trans q
   exact hi2
  .have fr:=(hf b hb)
   have hlt:b<s.heap.objs.size:=by
    have hb':b=e∨b=it:=by simpa using hb
    rcases hb' with rfl|rfl
    .exact hel
    .obtain⟨o,ho,_⟩:=hi;exact Qf ho
   rw[Kp (QI hlt)];exact fr.1
 done:=by intro X hP hw hK hc i pins s σ H E I hf st hg;subst hP hw hK;obtain⟨⟨old,he⟩,hi⟩:=st;obtain⟨xs,hq,hx⟩:=hg;obtain⟨its,rv,p,hz⟩:=I.list hq;have hl:=rv.length;exact wpAny_pyNext_enum_end (I.ok.hd hc) he hi p.isList (by simp;omega) λh' eb=>⟨rfl,I.turnedL (t':=s.toks) hf λb o hb q=>eb b o (λz=>hb (by simp[z])) q⟩
 self:=λ_ _ _ _ _ st h=>by obtain⟨⟨old,he⟩,_⟩:=st;exact wpAny_pyIter_enum he h
section
variable{X:Cx}
noncomputable def Fh(K:Frag)(ta:TA):TI:=λσ H R=>ta σ H λvs H1=>∃a xs,vs=[.ref a]/\SqL K H1 a xs/\R (Ite K a) H1
theorem Dm{a:Uw}{ta:TA}{p pos:Pos}{elts:jX}{x1}{tp:Pos}(hg:Gl X "enumerate")(hm:X.mg "enumerate" = jQ)(ha:PA X [a] ta)
  (hs:Uz [a] X.env=[(jS,eval a X.env)]:=by rfl):PI X (.Tuple elts x1 tp) (.Call (.Name "enumerate" p) [a] [] pos) (Fh X.K ta):=by
 intro pins s σ H R I h;refine Call_ (XV I hg hm boot_enumerate (Jq (thn (ha pos pins s σ H _ I h) λus s1 ⟨vs,H1,I1,r1,q1⟩=>?_) hs jP));obtain⟨l,xs,e,hq,q⟩:=q1;subst e;cases r1 with
 |cons r rr=>
  cases rr;cases (show _=Value.ref l from r);obtain⟨its,rv,pl,hz⟩:=I1.list hq;refine call_enumerate_list pl.isList λh' he hi hsz kk=>?_;have I2:Inv X pins σ H1 {s1 with heap:=h'}:=I1.kept (t':=s1.toks) kk;refine wpAny_pyIter_enum he ?_
  refine⟨s1.heap.objs.size+1,[s1.heap.objs.size+1,s1.heap.objs.size],_,_,H1,rfl,I2,qv l _ _ (Nat.succ_ne_self _),⟨⟨_,he⟩,hi⟩,λb hb=>?_,q⟩;have hb':b=s1.heap.objs.size+1∨b=s1.heap.objs.size:=by simpa using hb
  rcases hb' with rfl|rfl
  .exact I1.fpOk (JL _) (I1.hok.fresh (JL _))
  .exact I1.fpOk (Ql _) (I1.hok.fresh (Ql _))
end
end L2
namespace L2
open PySem PySem.Spec
def Tail(bmB bm:jV):Prop:=∀(X:String)(b:Bool),bmB.contains (.type X)=b->bm.contains (.type X)=b
theorem Tail.base{bmB:jV}:Tail bmB bmB:=λ_ _ h=>h
theorem Tail.own{bmB bm:jV}{D:Uu}(T:Tail bmB bm):Tail bmB (.ref D::bm):=λX b h=>by rw[QZ,T X b h];rfl
section
variable{prog:Ut}{w:World}{A:Around}{E:Ur->Us->Prop}{h:Heap}{g:Array GenState}{d:Drawn}{t:Nat}{os:OsState}{R:Result->Us->Prop}
variable{nm q:Str}{C N:Uu}{bs bm bmB:jV}{hdct:Bool}{sn:List Str}{sub:jV}{ab:Bool}{col:j8}{dd:j7}{k0 k1 k2 k3 k5:jW}{B newId initId:String}
theorem qC{M:Model}(F:ExcBaseFacts B newId initId bmB)(T:Tail bmB bm){rest:jV}{Q:Unit->Us->Prop}(hC:h.get? C=O (excClassObj nm q C N bs bm hdct sn sub ab col dd k0 k1 k2 k3 k5 newId))
  (hq:Q () ⟨h,g,d,t,os⟩):Uy M A (checkBuiltinCall newId ⟨.ref C::rest,[]⟩) Q E ⟨h,g,d,t,os⟩:=by
 have vj:(Value.ref C::bm).contains (.type B)=jR:=by rw[QZ,T _ _ F.hasB,Uj]
 have hstar:=F.noStar;simp only[checkBuiltinCall,F.newKind,F.newSplit,F.newRow]
 repeat (first|refine Qj hC ?_|(refine QK hC ?_;rw[vj])|refine wpAny_staticBase_exc hC ?_|refine wpAny_madeBy_exc hC ?_|simp only[bne_self_eq_false,JH,Um] | wp_step)
 exact hq
theorem CU(F:ExcBaseFacts B newId initId bmB)(T:Tail bmB bm){rest:jV}(hC:h.get? C=O (excClassObj nm q C N bs bm hdct sn sub ab col dd k0 k1 k2 k3 k5 newId))
  (hq:R (.ok (.ret (.ref (h.objs.size+1)))) ⟨(h.push {cls:=.type "tuple", data:=.seq rest.toArray}).push
   {cls:=.ref C,data:=.fields #[.ref h.objs.size,.none,.none,.none,.bool jS,.none]},g,d,t,os⟩) (hrest:rest.length<=Ux) :
  codeAny (model prog w) A (.builtin newId ⟨.ref C::rest,[]⟩) R ⟨h,g,d,t,os⟩:=by
 have hends:=F.ends;have kQ:(Value.ref C::bm).contains (.type B)=jR:=by rw[QZ,T _ _ F.hasB,Uj]
 have hcA:(Value.ref C::bm).contains (.type "AttributeError")=jS:=by rw[QZ,T _ _ F.noAttr];rfl
 have hcN:(Value.ref C::bm).contains (.type "NameError")=jS:=by rw[QZ,T _ _ F.noName];rfl
 refine codeAny_builtinAt F.entry ?_;unfold Builtin.«BaseException.__new__»;refine wpAt_bind ?_;show wpAt _ _ _ (stack >>= _) _ _ _;refine wpAt_bind (wpAt_stack λp below=>wpAt_of_wpAny ?_)
 wp_walk
 refine wpAt_of_wpAny ?_;rw[F.owner]
 repeat (first|with_reducible refine wpAny_madeHere_exc F.canon hC ?_|with_reducible refine Qj hC ?_|(with_reducible refine QK hC ?_;first|rw[kQ] | rw[hcA] | rw[hcN])|wp_step)
 show R _ _;rw[QU];exact hq
def OP(M:Model)(C fI:Uu)(h:Heap):Prop:=∀(A:Around)(E:Ur->Us->Prop)(Q:jW->Us->Prop)(h':Heap)(g:Array GenState)(d:Drawn)(t:Nat)(os:OsState),
 (∀b o,h.get? b=O o->h'.get? b=O o)->Q (O (.ref fI)) ⟨h',g,d,t,os⟩->Uy M A (typeLookup (.ref C) "__init__") Q E ⟨h',g,d,t,os⟩
theorem qB(F:ExcBaseFacts B newId initId bmB)(T:Tail bmB bm){rest:jV}{fI:Uu}{oI:Obj}{Q:Fin->Us->Prop}
  (hC:h.get? C=O (excClassObj nm q C N bs bm hdct sn sub ab col dd k0 k1 k2 k3 k5 newId)) (hi:OP (model prog w) C fI h)
  (hfI:h.get? fI=O oI) (hfc:oI.cls=.type "function")
  (hq:∀h' e,Heap.MadeExcOf h h' e (.ref C) rest->h.objs.size<=e ->
   Uy (model prog w) A (call (.ref fI) (.ref e::rest)) (λr s'=>r=.none/\Q (.done (.ret (.ref e))) s') E ⟨h',g,d,t,os⟩) (hrest:rest.length<=Ux) :
  Uy (model prog w) A (Builtin.«type.__call__» ⟨.ref C::rest,[]⟩) Q E ⟨h,g,d,t,os⟩:=by
 repeat (first|with_reducible refine Qj hC ?_|with_reducible refine wpAny_madeBy_exc hC ?_|wp_step)
 refine codeAny_call_builtin_code (Code.quiet_builtin _ F.quiet) (qC F T hC ?_);refine CU F T hC ?_ hrest;show Uy _ _ _ _ _ _
 have hC₁:=Qe {cls:=.ref C,data:=.fields #[.ref h.objs.size,.none,.none,.none,.bool jS,.none]}
  (Qe {cls:=.type "tuple", data:=.seq rest.toArray} hC)
 have hfI₁:=Qe {cls:=.ref C,data:=.fields #[.ref h.objs.size,.none,.none,.none,.bool jS,.none]}
  (Qe {cls:=.type "tuple", data:=.seq rest.toArray} hfI)
 have hget:((h.push {cls:=.type "tuple", data:=.seq rest.toArray}).push
   {cls:=.ref C,data:=.fields #[.ref h.objs.size,.none,.none,.none,.bool jS,.none]}).get? (h.objs.size+1)=O
   {cls:=.ref C,data:=.fields #[.ref h.objs.size,.none,.none,.none,.bool jS,.none]}:=by heap_get
 have hcC:(Value.ref C::bm).contains (.ref C)=jR:=by simp
 unfold isInstance
 repeat (first|with_reducible refine Qj hget ?_|(with_reducible refine QK hC₁ ?_;rw[hcC])|wp_step)
 show Uy _ _ (typeLookup (.ref C) _) _ _ _;refine hi _ _ _ _ _ _ _ _ (λb o hb=>Qe _ (Qe _ hb)) ?_;refine JD (Qb ?_);unfold bindSpecial;refine Qb (wpAny_typeOf (T:= "function") ⟨_,hfI₁,hfc⟩ ?_);rw[Qs (by decide)];refine Qg (Qb (QF (hq _ (h.objs.size+1) ⟨λb o hb=>Qe _ (Qe _ hb),Heap.get?_none_of_le (JL _),h.objs.size,hget,Heap.get?_none_of_le (Ql _),?_⟩ (JL _)) (λr s' hr=>?_) λ_ _ x=>x))
 .exact Qe _ (Heap.get?_push_at jP jP)
 .obtain⟨rfl,hQ⟩:=hr
  wp_walk
  exact hQ
theorem qu(F:ExcBaseFacts B newId initId bmB)(T:Tail bmB bm){rest:jV}{fI:Uu}{oI:Obj}{Q:Ur->Us->Prop}
  (hC:h.get? C=O (excClassObj nm q C N bs bm hdct sn sub ab col dd k0 k1 k2 k3 k5 newId)) (hi:OP (model prog w) C fI h)
  (hfI:h.get? fI=O oI) (hfc:oI.cls=.type "function")
  (hq:∀h' e,Heap.MadeExcOf h h' e (.ref C) rest->h.objs.size<=e ->
   Uy (model prog w) (A.under (.builtin "type.__call__" ⟨.ref C::rest,[]⟩)) (call (.ref fI) (.ref e::rest)) (λr s'=>r=.none/\Q (.ref e) s') E ⟨h',g,d,t,os⟩) (hrest:rest.length<=Ux) :
  Uy (model prog w) A (call (.ref C) rest) Q E ⟨h,g,d,t,os⟩:=by
 have f1:=tc_lookup;have f2:=tc_bind (.ref C);have hT:(⟨h,g,d,t,os⟩:Us).TypeIs (.ref C) "type" :=⟨_,hC,rfl⟩
 refine wpAny_call (codeAny_of_tree ?_);show Uy _ _ (callAny (.ref C) _) _ _ _
 repeat (any_goals (first|assumption|with_reducible refine Qj hC ?_|wp_step))
 refine⟨rfl,?_⟩;refine codeAny_call_builtin_at (Code.quiet_builtin _ (by decide +kernel)) entry_typeCall (wpAny_check_type_call_sub hC (qB (hrest:=hrest) F T hC hi hfI hfc λh' e hm hz=>?_));exact hq h' e hm hz
end
def K1(M:Model)(C:Uu)(name:Str)(r:jW)(h:Heap):Prop:=∀(A:Around)(E:Ur->Us->Prop)(Q:jW->Us->Prop)(h':Heap)(g:Array GenState)(d:Drawn)(t:Nat)(os:OsState),
 (∀b o,h.get? b=O o->h'.get? b=O o)->Q r ⟨h',g,d,t,os⟩->Uy M A (typeLookup (.ref C) name) Q E ⟨h',g,d,t,os⟩
theorem K1.keeps{M:Model}{C:Uu}{name:Str}{r:jW}{h h':Heap}(x:K1 M C name r h)(k:∀b o,h.get? b=O o->h'.get? b=O o):K1 M C name r h':=
 λA E Q h2 g d t os k2 q=>x A E Q h2 g d t os (λb o e=>k2 b o (k b o e)) q
theorem K1.at{M:Model}{A:Around}{E:Ur->Us->Prop}{Q:jW->Us->Prop}{C:Uu}{name:Str}{r:jW}{h:Heap}{g:Array GenState}{d:Drawn}{t:Nat}{os:OsState}(x:K1 M C name r h)(q:Q r ⟨h,g,d,t,os⟩):Uy M A (typeLookup (.ref C) name) Q E ⟨h,g,d,t,os⟩:=
 x A E Q h g d t os (λ_ _ e=>e) q
section
variable{prog:Ut}{w:World}{A:Around}{E:Ur->Us->Prop}{h:Heap}{g:Array GenState}{d:Drawn}{t:Nat}{os:OsState}{R:Result->Us->Prop}
variable{nm q:Str}{C N x:Uu}{bs bm bmB:jV}{hdct:Bool}{sn:List Str}{sub:jV}{ab:Bool}{col:j8}{dd:j7}{k0 k1 k2 k3 k5:jW}{B newId sa owner:String}{mN mA:Str->jW}{name:Str}{v:Ur}
def Yv(M:Model)(l:jV)(name:Str)(r:jW)(h:Heap):Prop:=∀(A:Around)(E:Ur->Us->Prop)(Q:jW->Us->Prop)(h':Heap)(g:Array GenState)(d:Drawn)(t:Nat)(os:OsState),
 (∀b o,h.get? b=O o->h'.get? b=O o)->Q r ⟨h',g,d,t,os⟩->Uy M A (lookupAlong l name) Q E ⟨h',g,d,t,os⟩
theorem Yv.base{M:Model}{y:jW}(hm:mroOf (.type B)=pure bm)(hB:typeLookup (.type B) name=pure y):Yv M bm name y h:=λA E Q h' g d t os k q=>by rw[typeLookup_eq,hm]at hB;have hrest:lookupAlong bm name=pure y:=hB;rw[hrest];exact Qg q
theorem Yv.hit{M:Model}{D:Uu}{c0:Ur}{kN:j7}{cd:ClassData}{sl:Array jW}(hD:h.get? D=O {cls:=c0,dict:=kN,data:=.cls cd,slots:=sl})(hn:h.Ns cd.ns mN)(hi:mN name=O v):Yv M (.ref D::bm) name (O v) h:=λA E Q h' g d t os k q=>by rw[lookupAlong_cons];refine Qb (wpAny_classOwn_cls (k _ _ hD) (hn.keeps k) ?_);rw[hi];exact Qg q
theorem Yv.miss{M:Model}{D:Uu}{r:jW}{c0:Ur}{kN:j7}{cd:ClassData}{sl:Array jW}(hD:h.get? D=O {cls:=c0,dict:=kN,data:=.cls cd,slots:=sl})(hn:h.Ns cd.ns mN)(hi:mN name=jQ)(f:Yv M bm name r h):Yv M (.ref D::bm) name r h:=λA E Q h' g d t os k q=>by rw[lookupAlong_cons];refine Qb (wpAny_classOwn_cls (k _ _ hD) (hn.keeps k) ?_);rw[hi];exact f A E Q h' g d t os k q
theorem K1.of{M:Model}{r:jW}(hC:h.get? C=O (excClassObj nm q C N bs bm hdct sn sub ab col dd k0 k1 k2 k3 k5 newId))(f:Yv M (.ref C::bm) name r h):K1 M C name r h:=λA E Q h' g d t os k q=>by rw[typeLookup_eq];exact Qb (wpAny_mroOf_exc (k _ _ hC) (f A E Q h' g d t os k q))
theorem qt{M:Model}{o:Obj}{nameV:Ur}{Q:Unit->Us->Prop}(SF:StoreFacts B bmB sa owner)(T:Tail bmB bm)
  (hC:h.get? C=O (excClassObj nm q C N bs bm hdct sn sub ab col dd k0 k1 k2 k3 k5 newId)) (hx:h.get? x=O o) (hc:o.cls=.ref C) (hq:Q () ⟨h,g,d,t,os⟩) :
  Uy M A (checkBuiltinCall sa ⟨[.ref x,nameV,v],[]⟩) Q E ⟨h,g,d,t,os⟩:=by
 have kQ:(Value.ref C::bm).contains (.type owner)=jR:=by rw[QZ,T _ _ SF.hasOwner,Uj]
 have ha:=SF.args (.ref x) nameV v;simp only[checkBuiltinCall,SF.kind,SF.split];refine Qb ?_
 .unfold isInstance
  repeat (first|(with_reducible refine Qj hx ?_;rw[hc])|(with_reducible refine QK hC ?_;rw[kQ])|wp_step)
  cases hsig:Manifest.signature? sa with
  |none=>exact Qg hq
  |some sig=>simp only[argsOk,hsig]at ha;have h2:Bind.checkArgs sa sig ⟨[.ref x,nameV,v],[]⟩=pure ():=ha;show Uy M A (Bind.checkArgs sa sig ⟨[.ref x,nameV,v],[]⟩) Q E _;rw[h2];exact Qg hq
theorem ju{tk:Tok}{Q:PySem.Fin->Us->Prop}{ns:List Str}(hpass:refuseLoop (.ref x) "__setattr__" bm=pure ())
  (hC:h.get? C=O (excClassObj nm q C N bs bm jR sn sub ab col dd k0 k1 k2 k3 k5 newId)) (hf:K1 (model prog w) C name jQ h) (I:h.InstFk x C mA)
  (hq:∀h' tk',h'.InstFk x C (λy=>if y=name then O v else mA y) ->
   (∀b o,b≠x->(∀o₀ dx,h.get? x=O o₀->o₀.dict=O dx->b≠dx)->h.get? b=O o->h'.get? b=O o) ->
   (∀o₀,h.get? x=O o₀->∃o₁,h'.get? x=O o₁/\o₁.cls=o₀.cls/\o₁.data=o₀.data/\o₁.slots=o₀.slots/\∀dx,o₀.dict=O dx->o₁.dict=O dx)->(∀o₀ o₁ dx,h.get? x=O o₀->o₀.dict=jQ->h'.get? x=O o₁->o₁.dict=O dx->h.objs.size<=dx)->Q (.done (.ret .none)) ⟨h',g,d,tk',os⟩) (hw:PySem.Within mA ns) (hsz:ns.length<=1000) :
  Uy (model prog w) A (Builtin.«object.__setattr__» ⟨[.ref x,.str name tk,v],[]⟩) Q E ⟨h,g,d,t,os⟩:=by
 obtain⟨o,hx,hc,hnc,hd⟩:=I;have hs2:ns.length<=Ux:=by rw[JN];omega
 unfold Builtin.«object.__setattr__»
 repeat (first|rw[refuse_eq] | (rw[refuseLoop_ref,hpass])|(with_reducible refine Qj hx ?_;rw[hc])|with_reducible refine wpAny_mroOf_exc hC ?_|with_reducible refine hf.at ?_|wp_step)
 rcases hd with ⟨hdn,hmA⟩|⟨dx,kR,hne,hns,hed⟩
 ·
  rw[hdn,if_neg (by simp[typeHasDict])];split
  .rename_i hcd
   cases hcd
  split
  .rename_i c hcd
   exact absurd hcd (hnc c)
  .have hx₁:(h.push {cls:=.type "dict", data:=.dict #[]}).get? x=O o:=Qe _ hx
   have hxs:x≠h.objs.size:=QI (Qf hx);refine Qb (wpAny_alloc' ?_);refine Qb (wpAny_update' hx₁ ?_);refine Qg ?_
   have hgd:((h.push {cls:=.type "dict", data:=.dict #[]}).update x λo=>{cls:=o.cls,dict:=O h.objs.size,data:=o.data,slots:=o.slots}).get? h.objs.size
     = O {cls:=.type "dict", data:=.dict #[]}:=
    (Heap.get?_update_ne _ _ _ _ hxs.symm).trans (Heap.get?_push_at jP jP)
   have hnd:((h.push {cls:=.type "dict", data:=.dict #[]}).update x λo=>{cls:=o.cls,dict:=O h.objs.size,data:=o.data,slots:=o.slots}).Ns h.objs.size (λ_=>jQ):=
    ⟨_,#[],_,hgd,rfl,λe he=>absurd he (by simp),λ_=>rfl⟩
   show Uy _ _ (Builtin.ObjectAttr.storeInDict h.objs.size (.str name tk) name v) _ _ _;unfold Builtin.ObjectAttr.storeInDict Builtin.ObjectAttr.newKeyGuard;refine Qb (Qg (Qb (wpAny_nsSet1EFk (Heap.Ns1.of_empty hnd) λh' hn' hs kK=>?_)));obtain⟨oD,esD,epD,hoD,hdD,hcD⟩:=hn'.count (PySem.Within.cons name v PySem.Within.nil);refine Qb (wpAny_lookBehind hoD (by rw[hdD];exact pastItsLine_dict (Qz hcD (by rw[QB,QW,JN];omega))) ?_)
   wp_walk
   have hx':h'.get? x=O {cls:=o.cls,dict:=O h.objs.size,data:=o.data,slots:=o.slots}:=?_
   refine hq h' _ ⟨{cls:=o.cls,dict:=O h.objs.size,data:=o.data,slots:=o.slots},hx',hc,hnc,.inr ⟨h.objs.size,rfl,hxs.symm,?_,(let ⟨od',e',c',d'⟩:=kK _ hgd;⟨od',e',c',d'⟩)⟩⟩ (λb ob hbx _ hb=>?_)
    (λo₀ h₀=>by obtain rfl:o=o₀:=Jt (hx.symm.trans h₀);exact⟨_,hx',rfl,rfl,rfl,λdx e=>by rw[hdn]at e;cases e⟩)
    (λo₀ o₁ dx _ _ e1 e2=>by rw[hx']at e1;cases e1;cases e2;exact Ql _)
   .obtain⟨o',es,ep,e1,e2,e3,eu,e4⟩:=hn'
    exact⟨o',es,ep,e1,e2,e3,eu,λy=>by rw[e4 y];by_cases hy:y=name<;>simp[hy,hmA]⟩
   .exact(hs.2 b (QI (Qf hb))).trans ((Heap.get?_update_ne _ _ _ _ hbx).trans (Qe _ hb))
   .refine(hs.2 x hxs).trans (Q3 _ hx₁ ?_)
    have hfr:=(Heap.get?_some_iff.mp hx).2;obtain⟨oc,od,odt,osl⟩:=o;cases odt<;>first|rfl|exact hfr
 ·
  rw[kR];refine Qg ?_;show Uy _ _ (Builtin.ObjectAttr.storeInDict dx (.str name tk) name v) _ _ _;unfold Builtin.ObjectAttr.storeInDict Builtin.ObjectAttr.newKeyGuard;refine Qb (Qg (Qb (wpAny_nsSet1EFk hns λh' hn' hs kK=>?_)));obtain⟨oD,esD,epD,hoD,hdD,hcD⟩:=hn'.count (PySem.Within.cons name v hw);refine Qb (wpAny_lookBehind hoD (by rw[hdD];exact pastItsLine_dict (Qz hcD (by rw[QB,JN];omega))) ?_)
  wp_walk
  refine hq h' _ ⟨o,(hs.2 x hne.symm).trans hx,hc,hnc,.inr ⟨dx,kR,hne,hn',(let ⟨od,e,c,dd⟩:=hed;let ⟨od',e',c',d'⟩:=kK od e;⟨od',e',c'.trans c,d'.trans dd⟩)⟩⟩ (λb ob _ hbd hb=>?_)
   (λo₀ h₀=>⟨o₀,(hs.2 x hne.symm).trans h₀,rfl,rfl,rfl,λ_ e=>e⟩)
   (λo₀ o₁ dx' e0 e1 _ _=>by rw[hx]at e0;cases e0;rw[kR]at e1;cases e1)
  exact(hs.2 b (hbd o dx hx kR)).trans hb
theorem LM{Q:Unit->Us->Prop}{ns:List Str}(SF:StoreFacts B bmB sa owner)(T:Tail bmB bm)(hpass:refuseLoop (.ref x) "__setattr__" bm=pure ())
  (hC:h.get? C=O (excClassObj nm q C N bs bm jR sn sub ab col dd k0 k1 k2 k3 k5 newId)) (hfs:K1 (model prog w) C "__setattr__" (O (.builtin sa)) h) (hf:K1 (model prog w) C name jQ h) (I:h.InstFk x C mA)
  (hq:∀h' tk',h'.InstFk x C (λy=>if y=name then O v else mA y) ->
   (∀b o,b≠x->(∀o₀ dx,h.get? x=O o₀->o₀.dict=O dx->b≠dx)->h.get? b=O o->h'.get? b=O o) ->
   (∀o₀,h.get? x=O o₀->∃o₁,h'.get? x=O o₁/\o₁.cls=o₀.cls/\o₁.data=o₀.data/\o₁.slots=o₀.slots/\∀dx,o₀.dict=O dx->o₁.dict=O dx)->(∀o₀ o₁ dx,h.get? x=O o₀->o₀.dict=jQ->h'.get? x=O o₁->o₁.dict=O dx->h.objs.size<=dx)->Q () ⟨h',g,d,tk',os⟩) (hw:PySem.Within mA ns) (hsz:ns.length<=1000) :
  Uy (model prog w) A (setAttr (.ref x) name v) Q E ⟨h,g,d,t,os⟩:=by
 obtain⟨o,hx,hc,_⟩:=id I;have f3:=SF.slot.bind (.ref x);unfold setAttr callSpecial? specialOf
 repeat (any_goals (first|assumption|(with_reducible refine Qj hx ?_;rw[hc])|with_reducible refine hfs.at ?_|wp_step))
 refine Jg SF.slot.plain SF.entry (qt SF T hC hx hc (ju hpass hC hf I (λh' tk' I' hk hsame hnew=>?_) hw hsz))
 repeat (any_goals (first|assumption|wp_step))
 exact hq h' tk' I' hk hsame hnew
theorem MT{M:Model}{o:Obj}{nameV:Ur}{Q:Unit->Us->Prop}(T:Tail bmB bm)(hb:bmB.contains (.type "BaseException")=jR)(hC:h.get? C=O (excClassObj nm q C N bs bm hdct sn sub ab col dd k0 k1 k2 k3 k5 newId))
  (hx:h.get? x=O o) (hc:o.cls=.ref C) (hq:Q () ⟨h,g,d,t,os⟩):Uy M A (checkBuiltinCall "BaseException.__getattribute__" ⟨[.ref x,nameV],[]⟩) Q E ⟨h,g,d,t,os⟩:=by
 have hk:builtinKind "BaseException.__getattribute__" = O .slot:=by decide +kernel
 have hsplit:splitId "BaseException.__getattribute__" = O ("BaseException", "__getattribute__"):=by decide +kernel
 have kQ:(Value.ref C::bm).contains (.type "BaseException")=jR:=by rw[QZ,T _ _ hb];rfl
 have ha:=PySem.F.args_bexc_ga (.ref x) nameV;simp only[checkBuiltinCall,hk,hsplit];refine Qb ?_
 .unfold isInstance
  repeat (first|(with_reducible refine Qj hx ?_;rw[hc])|(with_reducible refine QK hC ?_;rw[kQ])|wp_step)
  exact hq
theorem qQ{tk:Tok}{Q:PySem.Fin->Us->Prop}(hC:h.get? C=O (excClassObj nm q C N bs bm jR sn sub ab col dd k0 k1 k2 k3 k5 newId))(hf:K1 (model prog w) C name jQ h)(I:h.InstFk x C mA)(hv:mA name=O v)(hq:Q (.done (.ret v)) ⟨h,g,d,t,os⟩) :
  Uy (model prog w) A (Builtin.«object.__getattribute__» ⟨[.ref x,.str name tk],[]⟩) Q E ⟨h,g,d,t,os⟩:=by
 obtain⟨o,hx,hc,hnc,hd⟩:=I;rcases hd with ⟨_,hmA⟩|⟨dx,kR,hne,hns,_⟩
 .rw[hmA name]at hv;cases hv
 unfold Builtin.«object.__getattribute__»
 repeat (first|(with_reducible refine Qj hx ?_;rw[hc])|with_reducible refine hf.at ?_|wp_step)
 split
 .rename_i c hcd
  exact absurd hcd (hnc c)
 unfold instanceDict
 repeat (first|(with_reducible refine Qj hx ?_;rw[hc])|with_reducible refine Qj hC ?_|wp_step)
 rw[kR]
 repeat (first|(with_reducible refine wpAny_nsGet hns.ns ?_;rw[hv])|wp_step)
 exact hq
theorem qA{expr:Bool}{Q:Ur->Us->Prop}(FB:ExcAttrFacts B)(T:Tail bmB bm)(hb:bmB.contains (.type "BaseException")=jR)(hC:h.get? C=O (excClassObj nm q C N bs bm jR sn sub ab col dd k0 k1 k2 k3 k5 newId))
  (fg:K1 (model prog w) C "__getattribute__" (O (.builtin "BaseException.__getattribute__")) h) (fa:K1 (model prog w) C "__getattr__" none h) (hf:K1 (model prog w) C name jQ h) (I:h.InstFk x C mA) (hv:mA name=O v) (hh:handedOut v=pure v) (hq:Q v ⟨h,g,d,t+1,os⟩) :
  Uy (model prog w) A (getAttr (.ref x) name expr) Q E ⟨h,g,d,t,os⟩:=by
 obtain⟨o,hx,hc,_⟩:=id I;have f3:=FB.ga.bind (.ref x);have hx0:(expr&&onTheHeap (Value.builtin "BaseException.__getattribute__"))=jS:=by cases expr<;>rfl
 have hx2:(Value.builtin "BaseException.__getattribute__" == Value.builtin "object.__getattribute__")=jS:=by decide +kernel
 have hx1:(onTheHeap (Value.ref C)&&Value.builtin "BaseException.__getattribute__" == Value.builtin "object.__getattribute__")=jS:=by rw[hx2];rfl
 unfold getAttr
 repeat (any_goals (first|assumption|(with_reducible refine Qj hx ?_;rw[hc])|with_reducible refine fg.at ?_|with_reducible refine fa.at ?_|wp_step))
 refine Jg FB.ga.plain PySem.F.entry_bexc_ga (MT T hb hC hx hc (qQ hC hf I hv ?_))
 repeat (any_goals (first|assumption|wp_step))
end
theorem Wj{o:Obj}{vs:Array Ur}(f:Array Ur->Array Ur)(h:o.data=.fields vs):Obj.mapFields f o = {o with data:=.fields (f vs)}:=by obtain⟨c,d,dt,sl⟩:=o;cases h;rfl
def Tb(h:Heap)(e:Uu)(vs:Array Ur)(fl:Ur):Prop:=∃T oT ts,vs[1]?=O (.ref T)/\T≠e/\h.get? T=O oT/\oT.data=.fields ts/\ts[3]?=O fl
def Fly(h:Heap)(e:Uu):Prop:=∃oe vs,h.get? e=O oe/\oe.data=.fields vs/\(vs[1]?=O .none∨Tb h e vs .none)
structure SN(fs:j4)(e:Uu)(h h':Heap):Prop where
 keep:∀b o,b≠e->b∉fs->h.get? b=O o->h'.get? b=O o
 slot:∀b o,b≠e->h.get? b=O o->∃sl,h'.get? b=O {o with slots:=sl}
 own:∀oe,h.get? e=O oe->∃vs,h'.get? e=O {oe with data:=.fields vs}
section
variable{M:Model}{A:Around}{E:Ur->Us->Prop}{s:Us}{base:Heap}{env:Env}{outer:List Env}{L e:Uu}
theorem newEntry{oe:Obj}{vs:Array Ur}{head:Ur}{hadNext:Bool}{Q:Unit->Us->Prop}(hfr:A.frames=O (env::outer))(hl:s.heap.FunFrames base (env::outer))(hf:env.frame=O L)
  (he:s.heap.get? e=O oe) (hd:oe.data=.fields vs) (hsz:1<vs.size)
  (h:∀h',SN (frs (env::outer)) e s.heap h'->Fly h' e->Q () {s with heap:=h'}) :
  Uy M A (do let a ←frameOf env;let pl ←entryPlaceOf L hadNext;let b ←EntryCells.newEntry head a .none (rawInt L) .none pl;setField (.ref e) 1 b) (λ_ s'=>Uy M A (setFlight (.ref e) jQ) Q E s') E s:=by
 have hene:e∉(env::outer).filterMap (·.frame):=λhm=>by obtain⟨_,o,ho,hnf⟩:=hl.mem hm;rw[he]at ho;injection ho with ho;subst ho;exact hnf vs hd
 refine Qb (wpAny_frameOf_fun hfr hl hf λh₁ hs₁=>?_);refine Qb (wpAny_entryPlaceOf λpl hpl=>?_);unfold EntryCells.newEntry newFields;refine Qb (JO ?_ (hpl.sizeOk5 _ _ _ _ _));have he₁:h₁.get? e=O oe:=(hs₁.2.1 e hene).trans he;have he₂:=Qe (h:=h₁) {cls:=.type "traceback", dict:=jQ,data:=.fields ([head,.ref L,.none,rawInt L,.none]++(if pl.isEmpty then UC 6 Value.none else pl)).toArray} he₁;refine wpAny_setField he₂ hd hsz ?_;have xR:h₁.objs.size≠e:=Jl (Qf he₁);have hd₃:=JK hd (·.setIfInBounds 1 (Value.ref h₁.objs.size));have he₃:=Q3 (Obj.mapFields (·.setIfInBounds 1 (Value.ref h₁.objs.size))) he₂ (Jy hd₃)
 have hT₃:=(QO (h₁.push {cls:=.type "traceback", dict:=jQ,data:=.fields ([head,.ref L,.none,rawInt L,.none]++(if pl.isEmpty then UC 6 Value.none else pl)).toArray})
  (Obj.mapFields (·.setIfInBounds 1 (Value.ref h₁.objs.size))) (Ne.symm xR)).trans (Qn h₁ jP)
 unfold setFlight;refine wpAny_bind (wpAny_field he₃ hd₃ (x:=.ref h₁.objs.size) (by simp[hsz]) ?_);rw[if_pos (show(Value.ref h₁.objs.size != Value.none)=jR from by simp)];refine wpAny_setField hT₃ jP (by simp only[QQ,Qk,QB,QW]<;>lia) (h _ ?_ ?_)
 .have keep:∀b o,b≠e->h₁.get? b=O o ->
    (((h₁.push {cls:=.type "traceback", dict:=jQ,data:=.fields ([head,.ref L,.none,rawInt L,.none]++(if pl.isEmpty then UC 6 Value.none else pl)).toArray}).update e (Obj.mapFields (·.setIfInBounds 1 (Value.ref h₁.objs.size)))).update h₁.objs.size
     (Obj.mapFields (·.setIfInBounds 3 ((none:j7).elim Value.none λf=>rawInt f)))).get? b=O o:=λb o kL hb=>by
   have xH:h₁.objs.size≠b:=Jl (Qf hb);rw[QO _ _ xH,QO _ _ (Ne.symm kL)];exact Qe _ hb
  refine⟨λb o hb hf hg=>keep b o hb ((hs₁.2.1 b hf).trans hg),λb o hb hg=>?_,λoe' z=>?_⟩
  .obtain⟨sl,hs⟩:=hs₁.2.2 b o hg
   exact⟨sl,keep b _ hb hs⟩
  .rw[he]at z;cases z
   exact⟨_,by rw[QO _ _ xR,he₃,Wj _ hd]⟩
 .refine⟨_,_,?_,hd₃,.inr ⟨h₁.objs.size,_,_,by simp[hsz],xR,Heap.get?_update_self _ hT₃ (Obj.isFreed_of_fields (Obj.data_mapFields rfl _)),Obj.data_mapFields rfl _,by first|(simp;done)|(rcases hpl with rfl|⟨_,_,_,_,_,_,_,rfl⟩<;>simp)⟩⟩
  rw[QO _ _ xR];exact he₃
theorem note{Q:Unit->Us->Prop}(hfr:A.frames=O (env::outer))(hl:s.heap.FunFrames base (env::outer))(hf:env.frame=O L)(x:Fly s.heap e)
  (h:∀h',SN (frs (env::outer)) e s.heap h'->Fly h' e->Q () {s with heap:=h'}):Uy M A (noteFrame (.ref e) env) (λ_ s'=>Uy M A (setFlight (.ref e) jQ) Q E s') E s:=by
 obtain⟨oe,vs,he,hd,h1⟩:=x;unfold noteFrame;simp only[hf];rcases h1 with h1|⟨T,oT,ts,h1,xR,hT,xg,h3⟩
 .refine Qb (QC he hd h1 ?_)
  rw[QE (by decide)];exact newEntry hfr hl hf he hd (JB.mp h1).1 h
 .refine Qb (QC he hd h1 ?_)
  rw[if_pos (show(Value.ref T != Value.none)=jR from by simp)];refine Qb (QC hT xg h3 ?_);rw[if_neg (show ¬((Value.none==rawInt L)=jR)from by simp[rawInt])];obtain⟨hs3,hv3⟩:=JB.mp h3;refine Qb (wpAny_setField hT xg hs3 ?_)
  have same:∀b o,s.heap.get? b=O o->(s.heap.update T (Obj.mapFields (·.setIfInBounds 3 Value.none))).get? b=O o:=λb o hb=>by
   by_cases xH:b=T
   .subst xH
    rw[hT]at hb;cases hb;rw[Q3 _ hT (Jy (JK xg _)),Wj _ xg]
    have:ts.setIfInBounds 3 Value.none=ts:=by
     apply Array.ext_getElem?;intro i;rw[Array.getElem?_setIfInBounds];split
     .rename_i z
      subst z;exact h3.symm
     .rfl
    rw[this,←xg]
   .rw[QO _ _ (Ne.symm xH)];exact hb
  exact newEntry hfr (hl.of_keeps λb o hb hnf=>⟨o,same b o hb,rfl⟩) hf (same e oe he) hd (JB.mp h1).1
   λh' p t=>h h' ⟨λb o a c g=>p.keep b o a c (same b o g),λb o a g=>p.slot b o a (same b o g),λoe' z=>p.own oe' (same e oe' z)⟩ t
theorem FC{Q:Unit->Us->Prop}(hfr:A.frames=O (env::outer))(hl:s.heap.FunFrames base (env::outer))(hf:env.frame=O L)(x:Fly s.heap e)
  (h:∀h',SN (frs (env::outer)) e s.heap h'->Fly h' e->Q () {s with heap:=h'}):Uy M A (leaving env (.ref e)) Q E s:=by
 unfold leaving;exact Qb (note hfr hl hf x h)
end
end L2
namespace L2
open PySem PySem.Spec PyProof.Rows PySem.Calls PyProof.V
noncomputable def XO(fr:Bool)(e C:Uu)(dd:j7):Heap->Prop:=λh=>∃vs sl,h.get? e=O {cls:=.ref C,dict:=dd,data:=.fields vs,slots:=sl}/\(fr=jR->vs[1]?=O .none/\∃t0,vs[0]?=O (.ref t0))
theorem XO.ok{P:Ut}{w:World}{H:Hp}{h:Heap}{fr:Bool}{e C:Uu}{dd:j7}(x:XO fr e C dd h):Zy P w H h e (.ext (XO fr e C dd)):=
 ⟨x,let ⟨_,_,q,_⟩:=x;⟨_,q⟩,λh1 h2 ⟨vs,sl,q,z⟩ k=>⟨vs,sl,k _ q,z⟩⟩
theorem XO.fly{h:Heap}{e C:Uu}{dd:j7}(x:XO jR e C dd h):Fly h e:=let ⟨vs,_,q,z⟩:=x;⟨_,vs,q,rfl,.inl (z jP).1⟩
theorem XO.old{h:Heap}{fr:Bool}{e C:Uu}{dd:j7}(x:XO fr e C dd h):XO jS e C dd h:=let ⟨vs,sl,q,_⟩:=x;⟨vs,sl,q,λz=>nomatch z⟩
noncomputable def CX1(P:Ut)(w:World):CXT:=λouter H s E v s'=>∃e C dd H',v=.ref e/\s'.os=s.os/\AllBare s'.gens/\Un (frs outer) [] H H' s.heap s'.heap/\HOk P w H' s'.heap/\H' e=O (.ext (XO jS e C dd))/\Fly s'.heap e/\E (.ref e) jQ H'
section
variable{X:Cx}{pins:List (Uu×Obj)}{σ:St}{H:Hp}{s:Us}{e C:Uu}{dd:j7}{h':Heap}
theorem Inv.passed(I:Inv X pins σ H s)(hx:H e=O (.ext (XO jS e C dd)))(p:SN (frs X.stack) e s.heap h'):Inv X pins σ H {s with heap:=h'}:=by
 have ne:∀b,H b=jQ->b≠e:=λb n z=>by rw[z,hx]at n;cases n
 refine I.call (g':=s.gens) (t':=s.toks) (d':=s.drawn) (ch:=[]) ⟨λb o g n f _=>p.keep b o (ne b n) f g,λb o g n _ _=>p.slot b o (ne b n) g,λb o _ n _=>n,λb o g _=>?_,λ_ _ z=>z,λ_ _ _ z=>z,λb ps z=>⟨#[],by rw[z];simp⟩⟩ (λa o q=>?_) I.bare λb z=>absurd z (by simp)
 .by_cases hb:b=e
  .subst hb
   obtain⟨vs,z⟩:=p.own o g;exact⟨_,z⟩
  .obtain⟨sl,z⟩:=p.slot b o hb g
   exact⟨_,z⟩
 .by_cases ha:a=e
  .subst ha
   rw[hx]at q;cases q;obtain⟨⟨vs,sl,g,_⟩,_,_⟩:=I.hok a _ hx;obtain⟨vs',z⟩:=p.own _ g;exact XO.ok ⟨vs',sl,z,λz=>nomatch z⟩
  .refine(I.hok a o q).stay (λb u hb g=>p.keep b u ?_ (λz=>?_) g) (λ_ z=>z) λ_ _ z=>z
   .rcases hb with rfl|hb
    .exact ha
    .rintro rfl;rw[hx]at hb;cases hb
   .have n:=I.stkFree b z
    rcases hb with rfl|hb
    .rw[q]at n;cases n
    .rw[hb]at n;cases n
def XS(X:Cx)(KX:V->St->Hp->Prop):Prop:=∀(pins:List (Uu×Obj))(σ:St)(H:Hp)(s:Us)(e C:Uu)(dd:j7),Inv X pins σ H s->H e=O (.ext (XO jS e C dd))->Fly s.heap e->KX (.ref e) σ H->X.xe (.ref e) s
theorem CT{P:Ut}{w:World}{K:Frag}{mg:Str->jW}{base:Heap}{N:List Str}{qual:Str}{scope:Scope}{f:Uu}{cd:Ur}{A:Around}{outer:List Env}{s₀:Us}{H₀:Hp}{E:XK} :
  XS (Zl (CX1 P w) P w K mg base N qual scope f cd A outer s₀ H₀ E) λv _ H=>∃e,v=.ref e/\E (.ref e) jQ H:=by
 intro pins σ H s e C dd I hx fl ⟨e',ee,hE⟩;cases ee;refine FC (L:=s₀.heap.objs.size) I.ok.frames I.stack jP fl λh' p fl'=>?_;have I':=I.passed hx p
 exact⟨e,C,dd,H,rfl,I'.os,I'.bare,I'.base,I'.hok,hx,fl',hE⟩
theorem XS.pass{KX:V->St->Hp->Prop}{E:XK}{v:Ur}{s':Us}(hw:XS X KX)(I:Inv X pins σ H s)(h:CX1 X.prog X.w X.stack H s E v s')(hk:∀e H,E (.ref e) jQ H->KX (.ref e) σ H):X.xe v s':=by obtain⟨e,C,dd,H',rfl,os,bare,un,hok,hx,fl,hE⟩:=h;obtain⟨hh,g,d,t,os'⟩:=s';obtain rfl:os'=s.os:=os;exact hw pins σ H' _ e C dd (I.call (h':=hh) (g':=g) (d':=d) (t':=t) (ch:=[]) un hok bare (λb z=>absurd z (by simp))) hx fl (hk e H' hE)
end
noncomputable abbrev VB:jV:=[.type "ValueError", .type "Exception", .type "BaseException", .type "object"]
structure XCls(M:Model)(base:Heap)(C:Uu)(bm:jV)(fI:Uu):Prop where
 obj:∃nm q N bs sn sub ab col dd k0 k1 k2 k3 k5,base.get? C=O (excClassObj nm q C N bs bm jR sn sub ab col dd k0 k1 k2 k3 k5 "ValueError.__new__")
 tail:Tail VB bm
 init:K1 M C "__init__" (O (.ref fI)) base
 fn:∃o,base.get? fI=O o/\o.cls=.type "function"
 sa:K1 M C "__setattr__" (O (.builtin "object.__setattr__")) base
 ga:K1 M C "__getattribute__" (O (.builtin "BaseException.__getattribute__")) base
 gh:K1 M C "__getattr__" none base
 cl:K1 M C "__class__" (O (.builtin "object.__class__")) base
 pass:∀v,refuseLoop v "__setattr__" bm=pure ()
section
variable{X:Cx}{k:Nat}{f C:Uu}{fd:Uv}{ps:List Str}{sp:Sp}{x:Str}{p pos cpos:Pos}{e:Uw}{es:jX}{t:TA}{bm:jV}
theorem qp{pins:List (Uu×Obj)}{σ:St}{H:Hp}{s:Us}{Q:VK}{us:jV}{vs:List V}(M:XCls (model X.prog X.w) X.base C bm f)(F:FnOk X.prog X.w X.K X.mg X.base CX0 k f fd ps sp)(hr:Room (k+1) X.A)(hb:Ym X.K fd ps [])
  (I:Inv X pins σ H s) (r:Vals vs us) (hl:us.length<=Ux)
  (h:∀a,H a=jQ->sp (.ref a::vs) (upd H a (.ext (XO jR a C jQ))) (λv H2=>v=.non/\Q (.ref a) H2) E0) :
  Uy (model X.prog X.w) X.A (call (.ref C) us) (EP X pins σ Q) X.xe s:=by
 obtain⟨nm,q,N,bs,sn,sub,ab,col,dd,k0,k1,k2,k3,k5,hC⟩:=M.obj;obtain⟨oI,hfI,hfc⟩:=M.fn;obtain⟨hp,g,d,tk,os⟩:=s;refine qu PySem.F.excBase_ValueError M.tail (I.bk _ _ hC) (fI:=f) (M.init.keeps I.bk) (I.bk _ _ hfI) hfc (λh' a made hz=>?_) hl;obtain⟨t',he,htn,ht⟩:=made.there;have I2:Inv X pins σ (upd H a (.ext (XO jR a C jQ))) ⟨h',g,d,tk,os⟩:=I.laid (t':=tk) made.keeps hz (XO.ok ⟨_,_,he,λ_=>⟨rfl,_,rfl⟩⟩);have hq:=h a (I.hok.fresh hz);have r2:Vals (V.ref a::vs) (Value.ref a::us):=.cons jP r;have hl2:(Value.ref a::us++[]).length=ps.length:=by have e:=r2.length;rw[F.len _ _ _ _ hq]at e;rw[Q4];exact e.symm
 refine wpAny_call (Jv (F.run _ X.stack _ _ ⟨Value.ref a::us,[]⟩ (Value.ref a::us) _ _ E0 (hr.make C us []) (I2.env0.make C us []) (by have:=hb _ (Value.ref a::us) I2.kIn hl2;rwa[Q4]at this) r2 hq) λr s' kF=>?_);cases r with
 |error e=>exact kF.elim
 |ok fl=>
  cases fl with
  |ret u=>obtain⟨v,H',I3,rv,ev,q3⟩:=I2.after kF;subst ev;exact⟨rv,⟨V.ref a,H',I3,rfl,q3⟩⟩
  |next=>exact False.elim kF
  |brk=>exact False.elim kF
  |cont=>exact False.elim kF
noncomputable def tMkX(C:Uu)(sp:Sp)(t:TA):TE:=λσ H Q=>t σ H λvs H1=>vs.length<=Ux/\∀a,H1 a=jQ->sp (.ref a::vs) (upd H1 a (.ext (XO jR a C jQ))) (λv H2=>v=.non/\Q (.ref a) H2) E0
theorem CS(M:XCls (model X.prog X.w) X.base C bm f)(F:FnOk X.prog X.w X.K X.mg X.base CX0 k f fd ps sp)(hr:Room (k+1) X.A)(hg:Gl X x)(hm:X.mg x=O (.ref C))(hk:PySem.W.keepIn X.K (.ref C)=jR)(hb:Ym X.K fd ps [])
  (ha:PA X (e::es) t) (hdb:(x==("__debug__" : Str))=jS:=by decide) (he:Uz (e::es) X.env=(jS,eval e X.env)::Uz es X.env:=by rfl) (hpl:(backTo pos (Uz es X.env)).any (·.1)=jS:=by rfl) :
  PE X (.Call (.Name x p) (e::es) [] pos) (tMkX C sp t):=by
 intro pins s σ H Q I h;refine Jn (Vg I hg hm ?_ hdb);refine J5 (h₀:=X.base) I.ok.mod.kin hk (thn (ha pos pins s σ H _ I h) λus s1 ⟨vs,H1,I1,r,hl,q⟩=>⟨I1.kIn,?_⟩) he hpl;exact qp M F hr hb I1 r (by show us.length<=Ux;rw[←r.length];exact hl) q
noncomputable def FA(KC:Uu->Prop)(te:TE)(KX:V->St->Hp->Prop):TS:=λ_ σ H=>te σ H λv H2=>∃a C dd,v=.ref a/\KC C/\H2 a=O (.ext (XO jR a C dd))/\KX (.ref a) σ (upd H2 a (.ext (XO jS a C dd)))
theorem qo{M:Model}{A:Around}{E:Ur->Us->Prop}{env:Env}{s:Us}{Q:Flow->Us->Prop}{y:Sem Ur}
  (hh:A.handled=jQ) (h:Uy M A y (λv s₁=>∃a C dd vs sl nm q N bs bm hdct sn sub ab col kN k0 k1 k2 k3 k5 newId,v=.ref a/\bm.contains (.type "BaseException")=jR/\s₁.heap.get? C=O (excClassObj nm q C N bs bm hdct sn sub ab col kN k0 k1 k2 k3 k5 newId) /\
   s₁.heap.get? a=O {cls:=.ref C,dict:=dd,data:=.fields vs,slots:=sl}/\vs[1]?=O .none/\E (.ref a) s₁) E s) :
  Uy M A (raiseStmt env (O y) jQ) Q E s:=by
 unfold raiseStmt;refine Qb (QF h (λv s₁ h₁=>?_) λ_ _ x=>x);obtain⟨a,C,dd,vs,sl,nm,q,N,bs,bm,hdct,sn,sub,ab,col,kN,k0,k1,k2,k3,k5,newId,rfl,hbase,hC,he,h1,hE⟩:=h₁;have kQ:(Value.ref C::bm).contains (.type "BaseException")=jR:=by rw[QZ,hbase,Uj]
 obtain⟨hp,g,d,tk,os⟩:=s₁
 repeat (first|with_reducible refine QC he jP h1 ?_|with_reducible refine Qj he ?_|with_reducible refine Qj hC ?_|(with_reducible refine QK hC ?_;rw[kQ])|wp_step)
 exact wpAny_raiseNew_none hh hE
theorem Inv.aged{pins:List (Uu×Obj)}{σ:St}{H:Hp}{s:Us}{a C:Uu}{dd:j7}(I:Inv X pins σ H s)(hx:H a=O (.ext (XO jR a C dd))):Inv X pins σ (upd H a (.ext (XO jS a C dd))) s:=by obtain⟨x,_,_⟩:=I.hok a _ hx;have:=I.write (x:=a) (e:=a) (o:=.ext (XO jS a C dd)) (t':=s.toks) (h':=s.heap) (by rw[hx];trivial) (.inl jP) (λ_ _ _ q=>q) (let ⟨_,_,q,_⟩:=x;⟨_,q⟩) (XO.ok x.old);exact this
theorem CQ{KC:Uu->Prop}{te:TE}{KX:V->St->Hp->Prop}{exc:Uw}(hc:X.calm=jR)(hcls:∀C,KC C->∃bm fI,XCls (model X.prog X.w) X.base C bm fI)(hw:XS X KX)(ht:PE X exc te):PS X (.Raise (O exc) jQ pos) (FA KC te KX):=by intro pins s σ H D I h;rw[arm_exec_Raise];refine Qb (Jp ?_);show Uy _ _ (raiseStmt X.env (O (do let v ←eval exc X.env;standAt pos;pure v)) jQ) _ _ _;refine qo (I.ok.hd hc) (Qb (thn (ht pins s σ H _ I h) λu s1 ⟨v,H2,I2,rv,a,C,dd,ev,kc,hx,kx⟩=>Qb (Jp (Qg ?_))));subst ev;obtain rfl:u=Value.ref a:=rv;obtain⟨bm,fI,M⟩:=hcls C kc;obtain⟨nm,q,N,bs,sn,sub,ab,col,kN,k0,k1,k2,k3,k5,hC⟩:=M.obj;obtain⟨⟨vs,sl,g,z⟩,_,_⟩:=I2.hok a _ hx;exact⟨a,C,dd,vs,sl,nm,q,N,bs,bm,jR,sn,sub,ab,col,kN,k0,k1,k2,k3,k5,_,rfl,M.tail _ _ jP,I2.bk _ _ hC,g,(z jP).1,hw pins σ _ s1 a C dd (I2.aged hx) KO (XO.fly ⟨vs,sl,g,z⟩) kx⟩
end
section
variable{M:Model}{A:Around}{E:Ur->Us->Prop}{h:Heap}{g:Array GenState}{d:Drawn}{t:Nat}{os:OsState}
variable{nm q xk q':Str}{C N D N' a:Uu}{bs bm bs' bm':jV}{hdct xb:Bool}{sn sn':List Str}{sub sub':jV}{ab xL:Bool}{col col':j8}{dd kN:j7}{k0 k1 k2 k3 k5 j0 j1 j2 j3 j5:jW}{newId newId':String}
theorem CP{o:Obj}{b:Bool}{Q:Bool->Us->Prop}(hC:h.get? C=O (excClassObj nm q C N bs bm hdct sn sub ab col dd k0 k1 k2 k3 k5 newId))(hD:h.get? D=O (excClassObj xk q' D N' bs' bm' xb sn' sub' xL col' kN j0 j1 j2 j3 j5 newId'))
  (hbase:bm'.contains (.type "BaseException")=jR) (ha:h.get? a=O o) (hc:o.cls=.ref C) (hb:(Value.ref C::bm).contains (.ref D)=b) (hq:Q b ⟨h,g,d,t,os⟩):Uy M A (excMatches (.ref a) (.ref D)) Q E ⟨h,g,d,t,os⟩:=by
 have kQ:(Value.ref D::bm').contains (.type "BaseException")=jR:=by rw[QZ,hbase,Uj]
 have f1:=tc_notTuple;have f2:=tc_sub;have hT:(⟨h,g,d,t,os⟩:Us).TypeIs (.ref D) "type" :=⟨_,hD,rfl⟩
 unfold excMatches
 repeat (any_goals (first|assumption|(with_reducible refine Qj ha ?_;rw[hc])|with_reducible refine Qj hD ?_|with_reducible refine Qj hC ?_|(with_reducible refine QK hD ?_;rw[kQ])|(with_reducible refine QK hC ?_;rw[hb])|wp_step))
 cases b<;>(wp_walk;exact hq)
end
noncomputable def Fz(sp:Sp)(KX:V->St->Hp->Prop)(t:TA):TE:=λσ H Q=>t σ H λvs H1=>sp vs H1 Q λv _ H'=>∀a,v=.ref a->KX (.ref a) σ H'
section
variable{X:Cx}{k:Nat}{f:Uu}{fd:Uv}{ps:List Str}{sp:Sp}{x n:Str}{p pos np hpos:Pos}{e:Uw}{es:jX}{t:TA}{KX:V->St->Hp->Prop}
theorem CO(F:FnOk X.prog X.w X.K X.mg X.base (CX1 X.prog X.w) k f fd ps sp)(hr:Room k X.A)(hg:Gl X x)(hm:X.mg x=O (.ref f))(hk:PySem.W.keepIn X.K (.ref f)=jR)(hb:Ym X.K fd ps [])(hw:XS X KX)
  (ha:PA X (e::es) t) (hdb:(x==("__debug__" : Str))=jS:=by decide) (he:Uz (e::es) X.env=(jS,eval e X.env)::Uz es X.env:=by rfl) (hpl:(backTo pos (Uz es X.env)).any (·.1)=jS:=by rfl) :
  PE X (.Call (.Name x p) (e::es) [] pos) (Fz sp KX t):=by
 intro pins s σ H Q I h;refine Jn (Vg I hg hm ?_ hdb);refine J5 (h₀:=X.base) I.ok.mod.kin hk (thn (ha pos pins s σ H _ I h) λus s1 ⟨vs,H1,I1,r,q⟩=>⟨I1.kIn,?_⟩) he hpl;have hl:(us++[]).length=ps.length:=by rw[Q4,←r.length];exact F.len _ _ _ _ q
 refine wpAny_call (Jv (F.run X.A X.stack s1 H1 ⟨us,[]⟩ us vs Q _ hr I1.env0 (by have:=hb s1 us I1.kIn hl;rwa[Q4]at this) r q) λr s' hq=>?_);cases r with
 |error e=>exact hw.pass (E:=λv _ H'=>∀a,v=.ref a->KX (.ref a) σ H') I1 hq λa H' z=>z a jP
 |ok fl=>
  cases fl with
  |ret u=>exact I1.after hq
  |next=>exact False.elim hq
  |brk=>exact False.elim hq
  |cont=>exact False.elim hq
noncomputable abbrev Cx.suite(X:Cx)(a:Uu):Cx:={X with A:=X.A.mark (O (.ref a)),calm:=jS,xe:=λ_ _=>False}
theorem Cx.Ok.suite(ok:X.Ok)(a:Uu):(X.suite a).Ok:=
 ⟨ok.mod,ok.kind,ok.glob,ok.blt,ok.above,ok.inj,ok.has,ok.cab,λz=>(nomatch z),ok.frames,ok.stk,ok.exf,ok.bs,ok.bsz,ok.noex,ok.exfs,ok.funs,ok.frf⟩
theorem Inv.suite{pins:List (Uu×Obj)}{σ:St}{H:Hp}{s:Us}(I:Inv X pins σ H s)(a:Uu):Inv (X.suite a) pins σ H s:=⟨I.ok.suite a,I.os,I.bare,I.base,I.loc,I.cell,I.free,I.freeC,I.pin,I.hok,I.len⟩
theorem Inv.unsuite{pins:List (Uu×Obj)}{σ σ':St}{H H':Hp}{s s':Us}{a:Uu}(I0:Inv X pins σ H s)(I:Inv (X.suite a) pins σ' H' s'):Inv X pins σ' H' s':=⟨I0.ok,I.os,I.bare,I.base,I.loc,I.cell,I.free,I.freeC,I.pin,I.hok,I.len⟩
theorem Ru{pins:List (Uu×Obj)}{σ:St}{H:Hp}{s:Us}{i:Nat}{Q:Unit->Us->Prop}{E:Ur->Us->Prop}{A:Around}(I:Inv X pins σ H s)(hN:X.N.Nodup)(hi:X.N[i]?=O n)(hl:X.env.kindOf n=O .local)
  (h:∀s',Inv X pins (σ.set i jQ) H s'->Q () s'):Uy (model X.prog X.w) A (do bindName X.env n .none;unbindBehindTheSuite X.env n pos) Q E s:=by
 have hcls:(X.env.scope.kind==.class || (X.env.scope.kind==.module&&X.env.locals != X.env.globals))=jS:=by rw[I.ok.kind];rfl
 refine Qb (wpAny_bindName (Re (v:=.non) (u:=.none) I hN hi (.inl hl) jP (λs1 I1=>?_) (.inr hl)));unfold unbindBehindTheSuite;refine wpAny_onRaise ?_;unfold unbindName;refine Qb (wpAny_point (Qb ?_));unfold deleteName;simp only[hl,hcls];rw[QE (by decide)];obtain⟨m,hn,hlk⟩:=id I1.loc;have hiσ:i<σ.length:=by rw[I.len];exact(Qq.mp hi).1
 refine Qb (wpAny_nsDel_keeps hn λh' v hn' hs=>?_)
 have hsome:(m n).isSome=jR:=by
  obtain⟨u,_,l⟩:=hlk i n .non hi (by rw[QL hiσ]) (.inl hl);rcases l with ⟨_,l⟩|⟨k,_⟩
  .rw[l];rfl
  .rcases k with k|k
   .rw[hl]at k;cases k
   .rw[hl]at k;cases k
 rw[hsome];simp only[Up,Bool.not_true,JH,Um];refine Qg (wpAny_point (h _ ?_));obtain⟨oL,_,_,xZ,_⟩:=id hn;have neL:∀b o,X.s₀.heap.get? b=O o->b≠X.env.locals:=λb o e=>QI (Qy (Qf e) I.ok.above)
 refine⟨I1.ok,I1.os,I1.bare,⟨λb o e n hb hx=>(hs.2 b (neL b o e)).trans (I1.base.keep b o e n hb hx),λb o e n hb hx=>?_,I1.base.free,λb o e hx=>?_,I1.base.tups,I1.base.frzs,I1.base.tbls⟩,⟨_,hn',λj y v' e1 e2 e3=>?_⟩,λy c e=>?_,I1.free,I1.freeC,λp hp=>?_,λb ob e=>?_,?_⟩
 .obtain⟨sl,e1⟩:=I1.base.slot b o e n hb hx
  exact⟨sl,(hs.2 b (neL b o e)).trans e1⟩
 .obtain⟨o',e1⟩:=I1.base.there b o e hx
  exact⟨o',(hs.2 b (neL b o e)).trans e1⟩
 .have hj:j≠i:=by
   rintro rfl;rw[QL hiσ]at e2;cases e2
  rw[Qm (Ne.symm hj)]at e2;obtain⟨u',r',q⟩:=hlk j y v' e1 (by rw[Qm (Ne.symm hj)];exact e2) e3;have hy:y≠n:=by rintro rfl;obtain⟨h1,h2⟩:=Qq.mp e1;obtain⟨h3,h4⟩:=Qq.mp hi;exact hj ((List.getElem_inj hN).mp (h2.trans h4.symm))
  refine⟨u',r',?_⟩;rcases q with ⟨q1,q2⟩|⟨k,c,e,z⟩
  .exact .inl ⟨q1,(QE hy).trans q2⟩
  .obtain⟨o,ho,hd⟩:=z
   exact .inr ⟨k,c,e,o,(hs.2 c (I1.cne y c e)).trans ho,hd⟩
 .obtain⟨v',o,ho,hd⟩:=I1.cell y c e
  exact⟨v',o,(hs.2 c (I1.cne y c e)).trans ho,hd⟩
 .obtain⟨a,b,c,d⟩:=I1.pin p hp
  exact⟨(hs.2 _ c).trans a,b,c,d⟩
 .refine(I1.hok b ob e).stay (λc w' hc q=>(hs.2 c ?_).trans q) (λ_ q=>q) λ_ _ q=>q
  rintro rfl;rcases hc with rfl|hc
  .rw[I1.free]at e;cases e
  .rw[I1.free]at hc;cases hc
 .rw[Je];exact I.len
theorem qz{M:Model}{A:Around}{E:Ur->Us->Prop}{s:Us}{a:Uu}{Q:Unit->Us->Prop}(fl:Fly s.heap a)(h:∀h',(∀b o,s.heap.get? b=O o->h'.get? b=O o)->Q () {s with heap:=h'}):Uy M A (setFlight (.ref a) jQ) Q E s:=by
 obtain⟨oe,vs,he,hd,h1⟩:=fl;unfold setFlight;rcases h1 with h1|⟨T,oT,ts,h1,xR,hT,xg,h3⟩
 .refine Qb (QC he hd h1 ?_)
  rw[QE (by decide)];exact Qg (h s.heap λ_ _ q=>q)
 .obtain⟨hs3,hv3⟩:=JB.mp h3
  refine Qb (QC he hd h1 ?_);rw[if_pos (show(Value.ref T != Value.none)=jR from by simp)];refine wpAny_setField hT xg hs3 (h _ λb o hb=>?_);by_cases xH:b=T
  .subst xH
   rw[hT]at hb;cases hb;rw[Q3 _ hT (Jy (JK xg _)),Wj _ xg];have:ts.setIfInBounds 3 Value.none=ts:=Array.setIfInBounds_same _ _ _ h3;show O {oT with data:=.fields (ts.setIfInBounds 3 Value.none)}=_;rw[this,←xg]
  .rw[QO _ _ (Ne.symm xH)];exact hb
noncomputable def Vs(KC:Uu->jV->Prop)(D:Uu)(i:Nat)(ts:TS)(Dn:Ends):V->St->Hp->Prop:=λv σ H=>∃a C dd bm,v=.ref a/\KC C bm/\H a=O (.ext (XO jS a C dd))/\(Value.ref C::bm).contains (.ref D)=jR /\
 ts {nx:=λσ' H'=>Dn.nx (σ'.set i jQ) H',rt:=Dn.rt,bk:=λσ' H'=>Dn.bk (σ'.set i jQ) H',ct:=λσ' H'=>Dn.ct (σ'.set i jQ) H'} (σ.set i (O (.ref a))) H
noncomputable def tTry(KC:Uu->jV->Prop)(D:Uu)(i:Nat)(tb:(V->St->Hp->Prop)->TS)(ts:TS):TS:=λDn σ H=>tb (Vs KC D i ts Dn) Dn σ H
noncomputable abbrev Cx.tried(X:Cx)(W:Ur->Us->Prop)(pins:List (Uu×Obj)):Cx:={X with xe:=W,pn:=X.pn++pins}
theorem Inv.tried{pins:List (Uu×Obj)}{σ:St}{H:Hp}{s:Us}(I:Inv X pins σ H s)(W:Ur->Us->Prop):Inv (X.tried W pins) [] σ H s:=
 ⟨⟨I.ok.mod,I.ok.kind,I.ok.glob,I.ok.blt,I.ok.above,I.ok.inj,I.ok.has,I.ok.cab,I.ok.hd,I.ok.frames,I.ok.stk,I.ok.exf,I.ok.bs,I.ok.bsz,I.ok.noex,I.ok.exfs,I.ok.funs,I.ok.frf⟩,I.os,I.bare,I.base,I.loc,I.cell,I.free,I.freeC,λp hp=>I.pin p (by simpa using hp),I.hok,I.len⟩
theorem Inv.untried{pins pins':List (Uu×Obj)}{σ σ':St}{H H':Hp}{s s':Us}{W:Ur->Us->Prop}(I0:Inv X pins σ H s)(I:Inv (X.tried W pins) pins' σ' H' s'):Inv X pins σ' H' s':=
 ⟨I0.ok,I.os,I.bare,I.base,I.loc,I.cell,I.free,I.freeC,λp hp=>I.pin p (Jk _ hp),I.hok,I.len⟩
theorem Fy{KC:Uu->jV->Prop}{D fD:Uu}{bmD:jV}{i:Nat}{tb:(V->St->Hp->Prop)->TS}{ts:TS}{body suite:List Stmt}{b₀:Stmt}{st:List Env}(kX:X.stack=X.env::st)(hfr:X.env.frame=O X.env.locals)
  (hcls:∀C bm,KC C bm->∃fI,XCls (model X.prog X.w) X.base C bm fI) (hD:XCls (model X.prog X.w) X.base D bmD fD) (hg:Gl X x) (hm:X.mg x=O (.ref D)) (hN:X.N.Nodup) (hi:X.N[i]?=O n) (hl:X.env.kindOf n=O .local)
  (hb:∀(KX:V->St->Hp->Prop)(W:Ur->Us->Prop)(pn:List (Uu×Obj)),XS (X.tried W pn) KX->PSs (X.tried W pn) body (tb KX)) (hs:∀a,PSs (X.suite a) (b₀::suite) ts) (hdb:(x==("__debug__" : Str))=jS:=by decide) :
  PS X (.Try body [.ExceptHandler (O (.Name x np)) (O n) (b₀::suite) hpos] [] [] pos) (tTry KC D i tb ts):=by
 intro pins s σ H Dn I h;refine wpAny_Try_except ?_
 let W:Ur->Us->Prop:=λv s1=>∃a σ1 H1,v=.ref a/\Inv X pins σ1 H1 s1/\Fly s1.heap a/\Vs KC D i ts Dn (.ref a) σ1 H1
 have hw:XS (X.tried W pins) (Vs KC D i ts Dn):=λpins' σ1 H1 s1 a C dd I1 hx fl hk=>⟨a,σ1,H1,rfl,I.untried I1,fl,hk⟩;refine QF (hb _ W pins hw [] s σ H Dn (I.tried W) h) (λf s1 h1=>?_) λv s1 h1=>?_
 .cases f with
  |next=>obtain⟨σ',H',I',q⟩:=h1;exact wpAny_execs_nil ⟨σ',H',I.untried I',q⟩
  |brk=>obtain⟨σ',H',I',q⟩:=h1;exact⟨σ',H',I.untried I',q⟩
  |cont=>obtain⟨σ',H',I',q⟩:=h1;exact⟨σ',H',I.untried I',q⟩
  |ret u=>obtain⟨v,σ',H',I',r,q⟩:=h1;exact⟨v,σ',H',I.untried I',r,q⟩
 .obtain⟨a,σ1,H1,rfl,I1,fl,a',C,dd,bm,ea,kc,hx,hm',q⟩:=h1
  cases ea;obtain⟨fI,XC⟩:=hcls C bm kc;have hk:=I1.ok.frames;rw[kX]at hk;have hS:=I1.stack;rw[kX]at hS;refine note hk hS hfr fl λh2 p2 fl2=>?_;rw[←kX]at p2;have I2:=I1.passed hx p2;refine wpAny_handleBy_cons (codeAny_handlers_test ?_) (by intro q;cases q)
  refine Vg (I2.suite a) hg hm ?_ hdb;obtain⟨nm,qn,N,bs,sn,sub,ab,col,dd1,k0,k1,k2,k3,k5,hC⟩:=XC.obj;obtain⟨xk,qn',N',bs',sn',sub',xL,col',dd2,j0,j1,j2,j3,j5,kS⟩:=hD.obj;obtain⟨⟨vs,sl,ga,_⟩,_,_⟩:=I2.hok a _ hx;refine CP (I2.bk _ _ hC) (I2.bk _ _ kS) (hD.tail _ _ jP) ga jP hm' ?_;refine codeAny_handlers_suite_as (qz fl2 λh3 k3=>?_);have I3:=I2.kept (t':=s1.toks) k3;refine Re (v:=.ref a) I3 hN hi (.inl hl) jP (λs4 I4=>?_) (.inr hl);refine QF (hs a pins s4 _ H1 _ (I4.suite a) q) (λf s5 h5=>?_) λ_ _ z=>z.elim
  cases f with
  |next=>obtain⟨σ',H',I',q'⟩:=h5;exact Ru (I3.unsuite I') hN hi hl λs6 I6=>⟨_,H',I6,q'⟩
  |brk=>obtain⟨σ',H',I',q'⟩:=h5;exact Ru (I3.unsuite I') hN hi hl λs6 I6=>⟨_,H',I6,q'⟩
  |cont=>obtain⟨σ',H',I',q'⟩:=h5;exact Ru (I3.unsuite I') hN hi hl λs6 I6=>⟨_,H',I6,q'⟩
  |ret u=>obtain⟨v,σ',H',I',r,q'⟩:=h5;exact Ru (I3.unsuite I') hN hi hl λs6 I6=>⟨v,_,H',I6,r,q'⟩
end
section
variable{prog:Ut}{w:World}{A:Around}{E:Ur->Us->Prop}{h:Heap}{g:Array GenState}{d:Drawn}{t:Nat}{os:OsState}
variable{nm q:Str}{C N a:Uu}{bs bm bmB:jV}{hdct:Bool}{sn:List Str}{sub:jV}{ab:Bool}{col:j8}{dd:j7}{k0 k1 k2 k3 k5:jW}{B newId initId nid:String}
theorem qP(F:ExcBaseFacts B nid initId bmB)(T:Tail bmB bm){M:Model}{oe:Obj}{rest:jV}{Q:Unit->Us->Prop}
  (hC:h.get? C=O (excClassObj nm q C N bs bm hdct sn sub ab col dd k0 k1 k2 k3 k5 newId)) (he:h.get? a=O oe) (hcls:oe.cls=.ref C) (hq:Q () ⟨h,g,d,t,os⟩) :
  Uy M A (checkBuiltinCall initId ⟨.ref a::rest,[]⟩) Q E ⟨h,g,d,t,os⟩:=by
 have kQ:(Value.ref C::bm).contains (.type B)=jR:=by rw[QZ,T _ _ F.hasB,Uj]
 have hshort:=F.noStar;simp only[checkBuiltinCall,F.initKind,F.initSplit,F.initRow]
 repeat (first|(with_reducible refine Qj he ?_;rw[hcls])|with_reducible refine Qj hC ?_|(with_reducible refine QK hC ?_;rw[kQ])|wp_step)
 refine wpAny_onRaise ?_
 rw[show ∀(x1 x2:String)(n:Nat),Bind.check ⟨.positional, "*", B,.self,[⟨"args", .varPos,jS⟩]⟩ x1 x2 n (List.map (λx=>x.fst) ({pos:=Value.ref a::rest}:Args).kw)=pure ()from
  λ_ _ n=>check_star_args _ _ _ _ _ _]
 exact Qg hq
theorem qO(F:ExcBaseFacts B nid initId bmB)(T:Tail bmB bm){oe:Obj}{vs:Array Ur}{u:Ur}{Q:Ur->Us->Prop}
  (hC:h.get? C=O (excClassObj nm q C N bs bm hdct sn sub ab col dd k0 k1 k2 k3 k5 newId)) (he:h.get? a=O oe) (hcls:oe.cls=.ref C) (hd:oe.data=.fields vs) {t0:Uu} (h0:vs[0]?=O (.ref t0))
  (hq:∀h',(∀b o,b≠a->h.get? b=O o->h'.get? b=O o)->(∃y,h'.get? a=O {oe with data:=.fields (vs.setIfInBounds 0 (.ref y))})->Q .none ⟨h',g,d,t,os⟩) :
  Uy (model prog w) A (call (.builtin initId) [.ref a,u]) Q E ⟨h,g,d,t,os⟩:=by
 refine wpAny_call (Jg F.init.plain F.initEntry (qP F T hC he hcls ?_));have he₂:(h.push {cls:=.type "tuple", data:=.seq #[u]}).get? a=O oe:=Qe _ he;have hz:0<vs.size:=(JB.mp h0).1
 repeat (first|with_reducible refine QC he₂ hd h0 ?_|with_reducible refine wpAny_setField he₂ hd hz ?_|wp_step)
 have he₃:=Q3 (Obj.mapFields (·.setIfInBounds 0 (Value.ref h.objs.size))) he₂ (Jy (JK hd _));refine hq _ (λb o hb g=>?_) ⟨_,by rw[he₃,Wj _ hd]⟩;rw[QO _ _ (Ne.symm hb)];exact Qe _ g
end
theorem Dl:PySem.W.handedIn (.builtin "ValueError.__init__")=jR:=by decide +kernel
theorem Fx{h:Heap}:PySem.W.Frag.In [] h:=λa o z=>by cases z
theorem NP:typeOf (.type "ValueError")=pure (.type "type"):=by kernel_rfl
theorem Dk:Manifest.isStub "ValueError" = jS:=by decide +kernel
theorem Dj:PySem.W.findCls [] (.type "ValueError") (.type "type") "__init__" = O (.val (.builtin "ValueError.__init__")):=by kernel_rfl
section
variable{X:Cx}{k:Nat}{f D:Uu}{fd:Uv}{ps:List Str}{sp:Sp}{x:Str}{p pos apos:Pos}{e:Uw}{es:jX}{t:TA}
noncomputable def OO(KC:Uu->jV->Prop)(t:TA):TE:=λσ H Q=>t σ H λvs H1=>∃a C dd bm u,vs=[.ref a,u]/\KC C bm/\H1 a=O (.ext (XO jR a C dd))/\Q .non H1
theorem CN{KC:Uu->jV->Prop}{pl:Sem Bool}(hcls:∀C bm,KC C bm->∃fI,XCls (model X.prog X.w) X.base C bm fI)(hg:Gl X "ValueError")(hm:X.mg "ValueError" = jQ)(ha:PA X (e::es) t)
  (hst:Uz (e::es) X.env=(jS,eval e X.env)::Uz es X.env:=by rfl) (hpl:(backTo pos (Uz es X.env)).any (·.1)=jS:=by rfl)
  (ht:eval (.Call (.Attribute (.Name "ValueError" p) "__init__" apos) (e::es) [] pos) X.env=(do
   let ov ←eval (.Name "ValueError" p) X.env
   standAt apos.atName
   let (f,first) ←holding [ov] (getMethod ov "__init__" pl)
   callWith pos f first (backTo pos (Uz (e::es) X.env)) (backToKw pos (keywordEach [] X.env))):=by rfl) :
  PE X (.Call (.Attribute (.Name "ValueError" p) "__init__" apos) (e::es) [] pos) (OO KC t):=by
 intro pins s σ H Q I h;have hB:bootBuiltins "ValueError" = O (.type "ValueError"):=by decide +kernel
 refine PySem.W.methodCall_KW (pl:=pl) (XV I hg hm hB ?_) ht;obtain⟨m,Fm⟩:=I.fr;refine PySem.W.method_type (K:=[]) (v:=.builtin "ValueError.__init__") Fm Fx NP Dk Dj Dl ?_;refine PyProof.Rows.callWith_builtin1 (thn (ha pos pins _ σ H _ (I.tok _) h) λus s1 ⟨vs,H1,I1,r1,a,C,dd,bm,u,ev,kc,hx,q⟩=>?_) hst hpl;subst ev;cases r1 with
 |cons ra r1=>
 cases r1 with
 |cons ru r1=>
 cases r1;have ra':_=Value.ref a:=ra;subst ra';obtain⟨fI,XC⟩:=hcls C bm kc;obtain⟨nm,qn,N,bs,sn,sub,ab,col,dd1,k0,k1,k2,k3,k5,hC⟩:=XC.obj;obtain⟨⟨vs,sl,ga,z⟩,_,_⟩:=I1.hok a _ hx;obtain⟨z1,t0,z0⟩:=z jP;obtain⟨hp,g,d,tk,os⟩:=s1;refine qO PySem.F.excBase_ValueError XC.tail (I1.bk _ _ hC) ga jP jP z0 λh' k ⟨y,hy⟩=>?_;have hw:=I1.write (x:=a) (e:=a) (o:=.ext (XO jR a C dd)) (t':=tk) (h':=h') (by rw[hx];trivial) (.inl jP) k ⟨_,hy⟩ (XO.ok ⟨_,sl,hy,λ_=>⟨by rw[Array.getElem?_setIfInBounds_ne (by decide)];exact z1,y,by simp[(Array.getElem?_eq_some_iff.mp z0).1]⟩⟩)
 have e:upd H1 a (.ext (XO jR a C dd))=H1:=by
  funext b;by_cases hb:b=a
  .subst hb;rw[KO,hx]
  .rw[Kp hb]
 rw[e]at hw;exact⟨.non,H1,hw,rfl,q⟩
end
structure Sx(K:Frag)(D:Uu)(m:Str)(f:Uu):Prop where
 ga:PySem.W.specialIn K (.ref D) "__getattribute__" = O (O (.builtin "type.__getattribute__"))
 rd:PySem.W.readsIn K D (.type "type")=jR
 fd:PySem.W.findCls K (.ref D) (.type "type") m=O (.val (.ref f))
 kp:PySem.W.keepIn K (.ref f)=jR
section
variable{X:Cx}{k:Nat}{f D:Uu}{fd:Uv}{ps:List Str}{sp:Sp}{x m:Str}{p pos apos:Pos}{e:Uw}{es:jX}{t:TA}
theorem CM{pl:Sem Bool}(M:Sx X.K D m f)(F:FnOk X.prog X.w X.K X.mg X.base CX0 k f fd ps sp)(hr:Room k X.A)(hb:Ym X.K fd ps [])(hg:Gl X x)(hm:X.mg x=O (.ref D))(ha:PA X (e::es) t)
  (hdb:(x==("__debug__" : Str))=jS:=by decide) (hst:Uz (e::es) X.env=(jS,eval e X.env)::Uz es X.env:=by rfl) (hpl:(backTo pos (Uz es X.env)).any (·.1)=jS:=by rfl)
  (ht:eval (.Call (.Attribute (.Name x p) m apos) (e::es) [] pos) X.env=(do
   let ov ←eval (.Name x p) X.env
   standAt apos.atName
   let (f,first) ←holding [ov] (getMethod ov m pl)
   callWith pos f first (backTo pos (Uz (e::es) X.env)) (backToKw pos (keywordEach [] X.env))):=by rfl) :
  PE X (.Call (.Attribute (.Name x p) m apos) (e::es) [] pos) (RI sp [] E0 t):=by
 intro pins s σ H Q I h;refine PySem.W.methodCall_KW (pl:=pl) (Vg I hg hm ?_ hdb) ht;refine PySem.W.method_cls I.kIn M.ga (PySem.W.cls_value I.kIn M.rd M.fd jP ?_);refine J5 (h₀:=X.base) I.ok.mod.kin M.kp (thn (ha pos pins _ σ H _ (I.tok _) h) λus s1 ⟨vs,H1,I1,r,q⟩=>⟨I1.kIn,?_⟩) hst hpl;exact OR F hr hb .nil RH I1 r q
end
noncomputable def XD(dx:Uu)(fs:List (Str×V)):Heap->Prop:=λh=>∃mA,h.Ns1 dx mA/\h.ExactDictFk dx/\(∀f,XB (fs.lookup f) (mA f))/\PySem.Within mA (fs.map (·.1))
theorem XD.ok{P:Ut}{w:World}{H:Hp}{h:Heap}{dx:Uu}{fs:List (Str×V)}(x:XD dx fs h):Zy P w H h dx (.ext (XD dx fs)):=
 ⟨x,let ⟨_,⟨o,_,_,q,_⟩,_⟩:=x;⟨o,q⟩,λh1 h2 ⟨mA,⟨o,es,ep,q,c⟩,⟨od,q2,c2⟩,r⟩ k=>⟨mA,⟨o,es,ep,k _ q,c⟩,⟨od,k _ q2,c2⟩,r⟩⟩
theorem XO.inst{h:Heap}{a C:Uu}{vs:Array Ur}{sl:Array jW}(g:h.get? a=O {cls:=.ref C,dict:=jQ,data:=.fields vs,slots:=sl}):h.InstFk a C λ_=>jQ:=
 ⟨_,g,rfl,λ_ z=>(by cases z),.inl ⟨rfl,λ_=>rfl⟩⟩
section
variable{X:Cx}{pins:List (Uu×Obj)}{σ:St}{H:Hp}{s:Us}{a C dx:Uu}{h':Heap}{t':Nat}
theorem Inv.xdict{fs:List (Str×V)}(I:Inv X pins σ H s)(hx:H a=O (.ext (XO jR a C jQ)))(k:∀b o,b≠a->s.heap.get? b=O o->h'.get? b=O o)(hz:s.heap.objs.size<=dx)(h1:XO jR a C (O dx) h')(h2:XD dx fs h') :
  Inv X pins σ (upd (upd H a (.ext (XO jR a C (O dx)))) dx (.ext (XD dx fs))) {s with heap:=h',toks:=t'}:=by
 have hn:H dx=jQ:=I.hok.fresh hz;have hne:dx≠a:=λz=>by rw[z,hx]at hn;cases hn
 have ne:∀b,H b=jQ->b≠a:=λb n z=>by rw[z,hx]at n;cases n
 have nd:∀b o,s.heap.get? b=O o->b≠dx:=λb o g z=>by subst z;exact absurd (Qf g) (Nat.not_lt.mpr hz)
 have oth:∀b,b≠a->b≠dx->upd (upd H a (.ext (XO jR a C (O dx)))) dx (.ext (XD dx fs)) b=H b:=λb h1 h2=>by rw[Kp h2,Kp h1]
 have trk:∀b u,H b=O u->b≠dx:=λb u q z=>by rw[z,hn]at q;cases q
 have nota:∀b(u:HO),H b=O u->(∀φ,u≠.ext φ)->b≠a:=λb u q n z=>by rw[z,hx]at q;cases q;exact n _ jP
 refine I.un (t':=t') ⟨λb o g n _ _=>k b o (ne b n) g,λb o g n _ _=>⟨o.slots,k b o (ne b n) g⟩,λb o g n _=>(oth b (ne b n) (nd b o g)).trans n,λb o g _=>?_,λb xs q=>?_,λb o u q=>?_,λb ps q=>⟨#[],?_⟩⟩ λb u q=>?_
 .by_cases hb:b=a
  .subst hb;obtain⟨_,_,z,_⟩:=h1;exact⟨_,z⟩
  .exact⟨o,k b o hb g⟩
 .exact(oth b (nota b _ q λ_ z=>by cases z) (trk b _ q)).trans q
 .exact(oth b (nota b _ q λ_ z=>by cases z) (trk b _ q)).trans q
 .rw[oth b (nota b _ q λ_ z=>by cases z) (trk b _ q),q];simp
 .by_cases hb:b=dx
  .subst hb;rw[KO]at q;cases q;exact XD.ok h2
  .rw[Kp hb]at q
   by_cases vm:b=a
   .subst vm;rw[KO]at q;cases q;exact XO.ok h1
   .rw[Kp vm]at q
    refine(I.hok b u q).stay (λc v hc g=>k c v ?_ g) (λc r=>(oth c (nota c _ r λ_ z=>by cases z) (trk c _ r)).trans r) λc xs r=>(oth c (nota c _ r λ_ z=>by cases z) (trk c _ r)).trans r
    rcases hc with rfl|hc
    .exact vm
    .exact nota c _ hc λ_ z=>by cases z
end
noncomputable def RG(KC:Uu->jV->Prop)(ta tv:TE)(f:Str):TS:=λD σ H=>tv σ H λy H1=>ta σ H1 λx H2=>∃a C bm,x=.ref a/\KC C bm /\
 ((H2 a=O (.ext (XO jR a C jQ))/\∀dx,H2 dx=jQ->dx≠a->D.nx σ (upd (upd H2 a (.ext (XO jR a C (O dx)))) dx (.ext (XD dx [(f,y)])))) ∨
  ∃dx fs,dx≠a/\H2 a=O (.ext (XO jR a C (O dx)))/\H2 dx=O (.ext (XD dx fs))/\fs.length<900/\D.nx σ (upd H2 dx (.ext (XD dx (Zz f y fs)))))
section
variable{X:Cx}{o value:Uw}{f:Str}{pos pos':Pos}{ta tv:TE}{KC:Uu->jV->Prop}
theorem NO(hcls:∀C bm,KC C bm->∃fI,XCls (model X.prog X.w) X.base C bm fI)(hf:∀C bm,KC C bm->K1 (model X.prog X.w) C f jQ X.base)(ha:PE X o ta)(hv:PE X value tv)
  (hs:swapsWith value (O (.Attribute o f pos')) pos.line X.env=pure jS):PS X (.Assign [.Attribute o f pos'] value pos) (RG KC ta tv f):=by
 intro pins s σ H D I h;refine plainObj_wpAny_Assign_Attribute (thn (hv pins s σ H _ I h) λu s1 ⟨y,H1,I1,ry,q⟩=>thn (ha pins s1 σ H1 _ I1 q) λov s2 ⟨x,H2,I2,rx,a,C,bm,ex,kc,q2⟩=>?_) hs;subst ex;obtain rfl:ov=Value.ref a:=rx;obtain⟨fI,XC⟩:=hcls C bm kc;obtain⟨nm,qn,N,bs,sn,sub,ab,col,dd1,k0,k1,k2,k3,k5,hC⟩:=XC.obj;obtain⟨hp,g,d,tk,os⟩:=s2;rcases q2 with ⟨hx,q2⟩|⟨dx,fs,hne,hx,kR,hl,q2⟩
 .obtain⟨⟨vs,sl,ga,z⟩,_,_⟩:=I2.hok a _ hx
  refine LM (ns:=[]) PySem.F.store_ValueError XC.tail (XC.pass _) (I2.bk _ _ hC) (XC.sa.keeps I2.bk) ((hf C bm kc).keeps I2.bk) (XO.inst ga) (λh' tk' i' hk hsame hnew=>?_) PySem.Within.nil (by decide);obtain⟨o1,g1,c1,d1,xf,_⟩:=hsame _ ga;obtain⟨o2,g2,_,_,dd⟩:=i';rw[g1]at g2;cases g2;rcases dd with ⟨_,dn⟩|⟨dx,kR,hne,hns,hex⟩
  .have:=dn f;simp at this
  .have hz:=hnew _ _ dx ga jP g1 kR
   have o1e:o1 = {cls:=.ref C,dict:=O dx,data:=.fields vs,slots:=sl}:=by obtain⟨oc,od,odt,osl⟩:=o1;cases c1;cases d1;cases xf;cases kR;rfl
   have I3:=I2.xdict (t':=tk') (dx:=dx) (fs:=[(f,y)]) hx (λb ob hb gb=>hk b ob hb (λo₀ dx' e1 e2=>by rw[ga]at e1;cases e1;cases e2) gb) hz ⟨vs,sl,by rw[g1,o1e],z⟩
    ⟨_,hns,hex,λg=>?_,λg hg=>?_⟩
   .exact⟨σ,_,I3,q2 dx (I2.hok.fresh hz) hne⟩
   .show XB ((Zz f y []).lookup g) (if g=f then O u else jQ)
    rw[PR];by_cases e:g=f
    .rw[Qs e,Qs e];exact ry
    .rw[QE e,QE e];trivial
   .show g∈[f]
    by_cases e:g=f
    .rw[e];simp
    .exact absurd (QE e) hg
 .obtain⟨⟨vs,sl,ga,z⟩,_,_⟩:=I2.hok a _ hx
  obtain⟨⟨mA,hns,hex,hr,hwi⟩,_,_⟩:=I2.hok dx _ kR;refine LM (ns:=fs.map (·.1)) PySem.F.store_ValueError XC.tail (XC.pass _) (I2.bk _ _ hC) (XC.sa.keeps I2.bk) ((hf C bm kc).keeps I2.bk) ⟨_,ga,rfl,λ_ z=>(by cases z),.inr ⟨dx,rfl,hne,hns,hex⟩⟩ (λh' tk' i' hk hsame hnew=>?_) hwi (by rw[Qd];omega);obtain⟨o1,g1,c1,d1,xf,dk⟩:=hsame _ ga;have hd1:=dk dx jP;obtain⟨o2,g2,_,_,dd⟩:=i';rw[g1]at g2;cases g2;rcases dd with ⟨dn,_⟩|⟨dx2,vi,hne2,va,hex2⟩
  .rw[hd1]at dn;cases dn
  .rw[hd1]at vi
   cases vi;have o1e:o1 = {cls:=.ref C,dict:=O dx,data:=.fields vs,slots:=sl}:=by obtain⟨oc,od,odt,osl⟩:=o1;cases c1;cases d1;cases xf;cases hd1;rfl
   have I3:=I2.write (x:=dx) (e:=dx) (o:=.ext (XD dx (Zz f y fs))) (t':=tk') (h':=h') (by rw[kR];trivial) (.inl jP) (λb ob hb gb=>by
    by_cases hba:b=a
    .subst hba;rw[ga]at gb;cases gb;rw[g1,o1e]
    .exact hk b ob hba (λo₀ dx' e1 e2=>by rw[ga]at e1;cases e1;cases e2;exact hb) gb) (let ⟨o,_,_,q,_⟩:=va;⟨o,q⟩) (XD.ok ⟨_,va,hex2,λg=>?_,λg hg=>?_⟩)
   .exact⟨σ,_,I3,q2⟩
   .show XB ((Zz f y fs).lookup g) (if g=f then O u else mA g)
    rw[PR];by_cases e:g=f
    .rw[Qs e,Qs e];exact ry
    .rw[QE e,QE e];exact hr g
   .by_cases e:g=f
    .rw[e];exact(PN f y fs).1
    .refine(PN f y fs).2 g (hwi g λz=>hg ?_)
     show(if g=f then O u else mA g)=jQ
     rw[QE e];exact z
end
inductive FmtV:V->Str->Prop
 |str (x:Str) (h:x.length<=Ux):FmtV (.str x) x
 |int (i:Int) (h:i.natAbs.log2<1920):FmtV (.int i) (toString i:String)
 |non:FmtV .non "None"
noncomputable def Vr(te:TE):TE:=λσ H Q=>te σ H λv H1=>∃y,FmtV v y/\Q (.str y) H1
noncomputable def Sw:List TE->Str->TE
 |[],acc=>λ_ H Q=>acc.length<=Ux/\Q (.str acc) H
 |te::r,acc=>λσ H Q=>te σ H λv H1=>∃y,v=.str y/\(acc++y).length<=Ux/\Sw r (acc++y) σ H1 Q
inductive PEs(X:Cx):jX->List TE->Prop
 |nil:PEs X [] []
 |cons {e:Uw} {es:jX} {t:TE} {ts:List TE}:PE X e t->PEs X es ts->PEs X (e::es) (t::ts)
section
variable{X:Cx}{value:Uw}{te:TE}{pos:Pos}
theorem ON(h:PE X value te):PE X (.FormattedValue value (-1) jQ pos) (Vr te):=by
 intro pins s σ H Q I hq;refine wpAny_FormattedValue_plain (thn (h pins s σ H _ I hq) λu s1 ⟨v,H1,I1,rv,y,hy,q⟩=>?_);cases hy with
 |str x hx=>
  obtain⟨t,rfl⟩:=(show ∃t,u=Value.str y t from rv)
  exact wpAny_formatField_str ⟨.str y,H1,I1,⟨_,rfl⟩,q⟩ ⟨.str y,H1,I1.tok _,⟨_,rfl⟩,q⟩ hx
 |int i hi=>
  obtain⟨t,rfl⟩:=(show ∃t,u=Value.int i t from rv)
  exact wpAny_formatField_int hi ⟨.str _,H1,I1.tok _,⟨_,rfl⟩,q⟩
 |non=>obtain rfl:u=Value.none:=rv;exact wpAny_formatField_none ⟨.str _,H1,I1.tok _,⟨_,rfl⟩,q⟩
theorem Mg{E:Ur->Us->Prop}:∀{es:jX}{ts:List TE}{acc:Str}{pins:List (Uu×Obj)}{s:Us}{σ:St}{H:Hp}{Q:VK},PEs X es ts->Inv X pins σ H s->Sw ts acc σ H Q ->
  Joins (model X.prog X.w) X.A X.xe (evalEach es X.env) acc (λout s1=>out.length<=Ux/\EP X pins σ Q (.str out s1.toks) {s1 with toks:=s1.toks+1}) s
 |_,_,acc,pins,s,σ,H,Q,.nil,I,⟨hl,q⟩=>⟨hl,.str acc,H,I.tok _,⟨_,rfl⟩,q⟩
 |_,_,acc,pins,s,σ,H,Q,.cons h r,I,hq=>thn (h pins s σ H _ I hq) λu s1 ⟨v,H1,I1,rv,y,ev,hl,q⟩=>by
  subst ev;obtain⟨t,rfl⟩:=(show ∃t,u=Value.str y t from rv)
  exact⟨y,t,rfl,hl,Mg (E:=E) r I1 q⟩
theorem Ai{v1 v2:Uw}{rest:jX}{ts:List TE}(h:PEs X (v1::v2::rest) ts):PE X (.JoinedStr (v1::v2::rest) pos) (Sw ts Str.empty):=by intro pins s σ H Q I hq;exact wpAny_JoinedStr (Mg (E:=X.xe) h I hq)
end
noncomputable def Fg(KC:Uu->jV->Prop)(ta:TE)(f:Str):TE:=λσ H Q=>ta σ H λx H1=>∃a C bm dx fs v fr,x=.ref a/\KC C bm/\H1 a=O (.ext (XO fr a C (O dx)))/\H1 dx=O (.ext (XD dx fs))/\fs.lookup f=O v/\Q v H1
theorem qN{v:V}{u:Ur}(r:RelV v u):handedOut u=pure u:=by
 cases v with
 |non=>obtain rfl:u=_:=r;rfl
 |bl b=>obtain rfl:u=_:=r;rfl
 |int i=>obtain⟨t,rfl⟩:∃t,u=_:=r;rfl
 |str x=>obtain⟨t,rfl⟩:∃t,u=_:=r;rfl
 |byt b=>obtain⟨t,rfl⟩:∃t,u=_:=r;rfl
 |flt b=>obtain⟨t,rfl⟩:∃t,u=_:=r;rfl
 |ref a=>obtain rfl:u=_:=r;rfl
 |ty n=>obtain rfl:u=_:=r;rfl
section
variable{X:Cx}{e:Uw}{f:Str}{pos:Pos}{ta:TE}{KC:Uu->jV->Prop}
theorem Di(hcls:∀C bm,KC C bm->∃fI,XCls (model X.prog X.w) X.base C bm fI)(hf:∀C bm,KC C bm->K1 (model X.prog X.w) C f jQ X.base)(he:PE X e ta)(hb:attributeBase e f X.env (eval e X.env)=eval e X.env):PE X (.Attribute e f pos) (Fg KC ta f):=by
 intro pins s σ H Q I h;refine Dw hb (thn (he pins s σ H _ I h) λu s1 ⟨x,H1,I1,rx,a,C,bm,dx,fs,v,fr,ex,kc,hx,hd,hl,q⟩=>?_);subst ex;obtain rfl:u=Value.ref a:=rx;obtain⟨fI,XC⟩:=hcls C bm kc;obtain⟨nm,qn,N,bs,sn,sub,ab,col,dd1,k0,k1,k2,k3,k5,hC⟩:=XC.obj;obtain⟨⟨vs,sl,ga,_⟩,_,_⟩:=I1.hok a _ hx;obtain⟨⟨mA,hns,hex,hr,hwi⟩,_,_⟩:=I1.hok dx _ hd;have hne:dx≠a:=by rintro rfl;obtain⟨o,es,ep,g,d,_⟩:=hns;rw[ga]at g;cases g;cases d
 have hr':=hr f;rw[hl]at hr';cases hm:mA f with
 |none=>rw[hm]at hr';exact hr'.elim
 |some u=>rw[hm]at hr';have ru:RelV v u:=hr';obtain⟨hp,g,d,tk,os⟩:=s1;exact qA PySem.F.excAttr_ValueError XC.tail jP (I1.bk _ _ hC) (XC.ga.keeps I1.bk) (XC.gh.keeps I1.bk) ((hf C bm kc).keeps I1.bk) ⟨_,ga,rfl,λ_ z=>(by cases z),.inr ⟨dx,rfl,hne,hns,hex⟩⟩ hm (qN ru) ⟨v,H1,I1.tok _,ru,q⟩
end
end L2
namespace L2
open PySem PySem.Spec
section
variable{prog:Ut}{w:World}{A:Around}{E:Ur->Us->Prop}{h:Heap}{g:Array GenState}{d:Drawn}{t:Nat}{os:OsState}{R:Result->Us->Prop}
variable{nm q:Str}{C N a:Uu}{bs bm bmB:jV}{hdct:Bool}{sn:List Str}{sub:jV}{ab:Bool}{col:j8}{dd:j7}{k0 k1 k2 k3 k5:jW}{newId:String}{o:Obj}
theorem qM(T:Tail bmB bm)(ho:bmB.contains (.type "object")=jR)(hC:h.get? C=O (excClassObj nm q C N bs bm hdct sn sub ab col dd k0 k1 k2 k3 k5 newId))(hx:h.get? a=O o)(hc:o.cls=.ref C)(hq:R (.ok (.ret (.ref C))) ⟨h,g,d,t,os⟩) :
  codeAny (model prog w) A (.call (.builtin "getset_descriptor.__get__") ⟨[.builtin "object.__class__", .ref a,.ref C],[]⟩) R ⟨h,g,d,t,os⟩:=by
 have hT5:(⟨h,g,d,t,os⟩:Us).TypeIs (.builtin "object.__class__") "getset_descriptor" :=PySem.F.typeOf_object_class;have kQ:(Value.ref C::bm).contains (.type (".".intercalate ("object.__class__".cutAt '.').dropLast))=jR:=by rw[PySem.F.owner_object_class,QZ,T _ _ ho];rfl
 refine Jg PySem.F.slot_gs_get.plain PySem.F.entry_gs_get (PySem.F.slot_gs_get.check _ _ _ _ _ _ _ _ hT5 (PySem.F.args_gs_get _ _ _) ?_)
 repeat (any_goals (first|assumption|(with_reducible refine Qj hx ?_;rw[hc])|(with_reducible refine QK hC ?_;rw[kQ])|wp_step))
 refine⟨Code.quiet_builtin _ (by decide +kernel),codeAny_builtin PySem.F.entry_object_class ?_⟩;unfold Builtin.«object.__class__»
 repeat (any_goals (first|assumption|(with_reducible refine Qj hx ?_;rw[hc])|wp_step))
theorem jt{tk:Tok}{Q:PySem.Fin->Us->Prop}(T:Tail bmB bm)(ho:bmB.contains (.type "object")=jR)(hC:h.get? C=O (excClassObj nm q C N bs bm hdct sn sub ab col dd k0 k1 k2 k3 k5 newId))(fc:K1 (model prog w) C "__class__" (O (.builtin "object.__class__")) h)(hx:h.get? a=O o)(hc:o.cls=.ref C)(hq:Q (.done (.ret (.ref C))) ⟨h,g,d,t,os⟩) :
  Uy (model prog w) A (Builtin.«object.__getattribute__» ⟨[.ref a,.str "__class__" tk],[]⟩) Q E ⟨h,g,d,t,os⟩:=by
 have hT5:(⟨h,g,d,t,os⟩:Us).TypeIs (.builtin "object.__class__") "getset_descriptor" :=PySem.F.typeOf_object_class;have f5:=PySem.F.typeOf_object_class;have f6:=PySem.F.slot_gs_get.lookup;have f7:=PySem.F.slot_gs_set.lookup
 repeat (any_goals (first|assumption|(with_reducible refine Qj hx ?_;rw[hc])|with_reducible refine fc.at ?_|wp_step))
 refine qM T ho hC hx hc ?_
 repeat (any_goals (first|assumption|wp_step))
theorem LK{Q:jW->Us->Prop}(FB:ExcAttrFacts "ValueError")(T:Tail VB bm)(hC:h.get? C=O (excClassObj nm q C N bs bm hdct sn sub ab col dd k0 k1 k2 k3 k5 newId))(fc:K1 (model prog w) C "__class__" (O (.builtin "object.__class__")) h)
  (fg:K1 (model prog w) C "__getattribute__" (O (.builtin "BaseException.__getattribute__")) h) (fa:K1 (model prog w) C "__getattr__" none h) (hx:h.get? a=O o) (hc:o.cls=.ref C) (hq:Q (O (.ref C)) ⟨h,g,d,t+1,os⟩) :
  Uy (model prog w) A (getAttr? (.ref a) "__class__") Q E ⟨h,g,d,t,os⟩:=by
 have f3:=FB.ga.bind (.ref a);have hx0:(jS&&onTheHeap (Value.builtin "BaseException.__getattribute__"))=jS:=rfl;have hx2:(Value.builtin "BaseException.__getattribute__" == Value.builtin "object.__getattribute__")=jS:=by decide +kernel
 have hx1:(onTheHeap (Value.ref C)&&Value.builtin "BaseException.__getattribute__" == Value.builtin "object.__getattribute__")=jS:=by rw[hx2];rfl
 unfold getAttr? getAttrBy?;refine Qb (wpAny_mkText (Qb (wpAny_attempt ?_)))
 repeat (any_goals (first|assumption|(with_reducible refine Qj hx ?_;rw[hc])|with_reducible refine fg.at ?_|with_reducible refine fa.at ?_|wp_step))
 refine Jg FB.ga.plain PySem.F.entry_bexc_ga (MT T jP hC hx hc (jt T jP hC fc hx hc ?_))
 repeat (any_goals (first|assumption|wp_step))
end
end L2
namespace L2
open PySem PySem.Spec PyProof.Rows
section
variable{prog:Ut}{w:World}{A:Around}{E:Ur->Us->Prop}{h:Heap}{g:Array GenState}{d:Drawn}{t:Nat}{os:OsState}
variable{nm q xk q':Str}{C N D N' a:Uu}{bs bm bs' bm':jV}{hdct xb:Bool}{sn sn':List Str}{sub sub':jV}{ab xL:Bool}{col col':j8}{dd kN:j7}{k0 k1 k2 k3 k5 j0 j1 j2 j3 j5:jW}{newId newId':String}{o:Obj}{b:Bool}
theorem Dh{Q:Ur->Us->Prop}(T:Tail VB bm)(hC:h.get? C=O (excClassObj nm q C N bs bm hdct sn sub ab col dd k0 k1 k2 k3 k5 newId))(hD:h.get? D=O (excClassObj xk q' D N' bs' bm' xb sn' sub' xL col' kN j0 j1 j2 j3 j5 newId'))
  (fc:K1 (model prog w) C "__class__" (O (.builtin "object.__class__")) h) (fg:K1 (model prog w) C "__getattribute__" (O (.builtin "BaseException.__getattribute__")) h) (fa:K1 (model prog w) C "__getattr__" none h)
  (hx:h.get? a=O o) (hc:o.cls=.ref C) (hb:(Value.ref C::bm).contains (.ref D)=b) (hq:∀tk,Q (.bool b) ⟨h,g,d,tk,os⟩):Uy (model prog w) A (call (.builtin "isinstance") [.ref a,.ref D]) Q E ⟨h,g,d,t,os⟩:=by
 have hT:(⟨h,g,d,t,os⟩:Us).TypeIs (.ref D) "type" :=⟨_,hD,rfl⟩
 have f2:=tc_sub;refine call_isinstance_of ?_ (λz=>nomatch z);unfold Builtin.«isinstance.nested»;refine Qb ?_;unfold typeOf;refine Qb (Qj hx (Qg ?_));rw[hc];by_cases e:C=D
 .subst e
  have hb1:b=jR:=by rw[←hb];simp
  subst hb1;rw[if_pos (by simp)];exact Qb (wpAny_rule (Qg (hq t)))
 .rw[if_neg (by simp[e])]
  refine Qb (Qb (Qj hD (Qg ?_)));rw[Qs (show(Value.type "type" == Value.type "type")=jR by decide)]
  k_delta "plainIsInstance"
  unfold isType isInstance
  repeat (first|(with_reducible refine Qj hx ?_;rw[hc])|with_reducible refine Qj hD ?_|with_reducible refine Qj hC ?_|(with_reducible refine QK hC ?_;rw[hb])|wp_step)
  cases b with
  |true=>wp_walk;exact hq t
  |false=>
   rw[QE (by decide)];refine Qb (LK PySem.F.excAttr_ValueError T hC fc fg fa hx hc ?_)
   repeat (first|with_reducible refine Qj hC ?_|(with_reducible refine QK hC ?_;rw[hb])|wp_step)
   exact hq _
theorem Fw{Q:Ur->Us->Prop}{X:String}(T:Tail VB bm)(hC:h.get? C=O (excClassObj nm q C N bs bm hdct sn sub ab col dd k0 k1 k2 k3 k5 newId))(hX:typeOf (.type X)=pure (.type "type"))
  (fc:K1 (model prog w) C "__class__" (O (.builtin "object.__class__")) h) (fg:K1 (model prog w) C "__getattribute__" (O (.builtin "BaseException.__getattribute__")) h) (fa:K1 (model prog w) C "__getattr__" none h)
  (hx:h.get? a=O o) (hc:o.cls=.ref C) (hb:(Value.ref C::bm).contains (.type X)=b) (hq:∀tk,Q (.bool b) ⟨h,g,d,tk,os⟩):Uy (model prog w) A (call (.builtin "isinstance") [.ref a,.type X]) Q E ⟨h,g,d,t,os⟩:=by
 refine call_isinstance_of ?_ (λz=>nomatch z);unfold Builtin.«isinstance.nested»;refine Qb ?_;have ty:∀{M:Model}{A:Around}{Q:Ur->Us->Prop}{E:Ur->Us->Prop},Q (.ref C) ⟨h,g,d,t,os⟩->Uy M A (typeOf (.ref a)) Q E ⟨h,g,d,t,os⟩:=λq=>by unfold typeOf;refine Qb (Qj hx (Qg ?_));rw[hc];exact q
 refine ty ?_;rw[if_neg (by simp)];refine Qb (wpAny_of_eq hX ?_);rw[Qs (show(Value.type "type" == Value.type "type")=jR by decide)]
 k_delta "plainIsInstance"
 unfold isType isInstance
 repeat (first|(with_reducible refine Qj hx ?_;rw[hc])|with_reducible refine Qj hC ?_|(with_reducible refine QK hC ?_;rw[hb])|wp_step)
 cases b with
 |true=>wp_walk;exact hq t
 |false=>
  rw[QE (by decide)];refine Qb (LK PySem.F.excAttr_ValueError T hC fc fg fa hx hc ?_)
  repeat (first|with_reducible refine Qj hC ?_|(with_reducible refine QK hC ?_;rw[hb])|wp_step)
  exact hq _
end
noncomputable def rIsX(KC:Uu->jV->Prop):List V->Hp->VK->Prop:=λxs H Q=>∃a C dd bm fr c b,xs=[.ref a,c]/\KC C bm/\H a=O (.ext (XO fr a C dd)) /\
 ((∃D bm',c=.ref D/\KC D bm'/\(Value.ref C::bm).contains (.ref D)=b) ∨ ∃T,c=.ty T/\typeOf (.type T)=pure (.type "type")/\(Value.ref C::bm).contains (.type T)=b)/\Q (.bl b) H
theorem Px{X:Cx}{KC:Uu->jV->Prop}(hcls:∀C bm,KC C bm->∃fI,XCls (model X.prog X.w) X.base C bm fI):ZW X (.builtin "isinstance") (rIsX KC):=by
 rintro pins s σ H xs us Q I r ⟨a,C,dd,bm,fr,c,b,rfl,kc,hx,hD,q⟩;cases r with
 |cons ra r=>
 cases r with
 |cons rc r=>
 cases r;have ra':_=Value.ref a:=ra;subst ra';obtain⟨fI,XC⟩:=hcls C bm kc;obtain⟨nm,qn,N,bs,sn,sub,ab,col,dd1,k0,k1,k2,k3,k5,hC⟩:=XC.obj;obtain⟨⟨vs,sl,ga,_⟩,_,_⟩:=I.hok a _ hx;obtain⟨hp,g,d,tk,os⟩:=s;rcases hD with ⟨D,bm',rfl,kd,hb⟩|⟨T,rfl,hT,hb⟩
 .have rc':_=Value.ref D:=rc
  subst rc';obtain⟨fI',XD'⟩:=hcls D bm' kd;obtain⟨xk,qn',N',bs',sn',sub',xL,col',dd2,j0,j1,j2,j3,j5,kS⟩:=XD'.obj;exact Dh XC.tail (I.bk _ _ hC) (I.bk _ _ kS) (XC.cl.keeps I.bk) (XC.ga.keeps I.bk) (XC.gh.keeps I.bk) ga jP hb λtk'=>⟨.bl b,H,I.tok tk',rfl,q⟩
 .have rc':_=Value.type T:=rc
  subst rc';exact Fw XC.tail (I.bk _ _ hC) hT (XC.cl.keeps I.bk) (XC.ga.keeps I.bk) (XC.gh.keeps I.bk) ga jP hb λtk'=>⟨.bl b,H,I.tok tk',rfl,q⟩
theorem Ah{CX:CXT}{P:Ut}{w:World}{K:Frag}{mg:Str->jW}{base:Heap}{N:List Str}{qual:Str}{scope:Scope}{f:Uu}{cd:Ur}{A:Around}{outer:List Env}{s:Us}{H:Hp}{E:XK} :
  PassesOwn (model P w) (Zl CX P w K mg base N qual scope f cd A outer s H E).A (Zl CX P w K mg base N qual scope f cd A outer s H E).env (Zl CX P w K mg base N qual scope f cd A outer s H E).xe:=
 PassesOwn.leaving (Q₁:=λe s''=>CX outer H s E e s'')
noncomputable def Rc(KC:Uu->jV->Prop):Sp:=λvs H Q _=>∃a C dd bm x,vs=[.ref a,.str x]/\KC C bm/\H a=O (.ext (XO jR a C dd))/\Q .non H
noncomputable def Pc(KC:Uu->jV->Prop)(fs:List Str):Sp:=λvs H Q _=>∃a C bm us,vs=.ref a::us/\us.length=fs.length/\KC C bm/\H a=O (.ext (XO jR a C jQ))/\(∀u∈us,∃y,FmtV u y/\y.length<=4000) /\
 ∀dx,H dx=jQ->dx≠a->Q .non (upd (upd H a (.ext (XO jR a C (O dx)))) dx (.ext (XD dx (fs.zip us))))
noncomputable def ZV(nm:Str):List Str:=if nm = "NoWishes" then ["part", "number"]else if nm = "NoAim" then ["part"]else if nm = "NoText" then ["row"]else []
noncomputable def Sv(K:Frag)(nm:Str):j7:=match PySem.W.nsIn K mainGlobals nm with|some (O (.ref C))=>O C|_=>jQ
def NmAt(K:Frag)(nm:Str)(C:Uu):Prop:=∃o cd,K.lookup C=O o/\o.data=.cls cd/\cd.name=nm
structure ClsK(K:Frag)(nm:Str)(C:Uu)(bm:jV):Prop where
 ad:Sv K nm=O C
 nmd:NmAt K nm C
 up:nm = "DealError" /\ bm=VB∨nm ≠ "DealError" /\ ∃D,Sv K "DealError" = O D/\bm=.ref D::VB/\NmAt K "DealError" D
 cls:∀(M:Model)(h:Heap),K.In h->∃fI,XCls M h C bm fI
 fld:∀(M:Model)(h:Heap),K.In h->∀f∈(["part", "number", "row"]:List Str),K1 M C f jQ h
noncomputable def KC(K:Frag):Uu->jV->Prop:=λC bm=>∃nm,ClsK K nm C bm
section
variable{K:Frag}{nm x:Str}{C D:Uu}{bm bm':jV}
theorem NmAt.ne(c:NmAt K nm C)(d:NmAt K x D)(h:x≠nm):C≠D:=λe=>by subst e;obtain⟨o,cd,h1,h2,h3⟩:=c;obtain⟨o',cd',g1,g2,g3⟩:=d;rw[h1]at g1;cases g1;rw[h2]at g2;cases g2;exact h (g3.symm.trans h3)
theorem ClsK.has(c:ClsK K nm C bm)(d:ClsK K x D bm'):(Value.ref C::bm).contains (.ref D)=(decide (x=nm) || decide (x = "DealError")):=by
 by_cases e:x=nm
 .subst e
  have:=c.ad.symm.trans d.ad;cases this;simp
 .have ne:=c.nmd.ne d.nmd e
  rw[Qt e,Bool.false_or];have h0:(Value.ref D==Value.ref C)=jS:=by simp[Ne.symm ne]
  rw[QZ,h0,Bool.false_or];by_cases e2:x = "DealError"
  .subst e2
   rcases c.up with ⟨z,_⟩|⟨_,D',g,rfl,_⟩
   .exact absurd z.symm e
   .have:=g.symm.trans d.ad
    cases this;simp
  .rw[Qt e2]
   rcases c.up with ⟨_,rfl⟩|⟨_,D',g,rfl,n⟩
   .rfl
   .have ne2:=n.ne d.nmd e2
    have h1:(Value.ref D==Value.ref D')=jS:=by simp[Ne.symm ne2]
    rw[QZ,h1,Bool.false_or];rfl
theorem ClsK.ty(c:ClsK K nm C bm)(T:String):(Value.ref C::bm).contains (.type T)=VB.contains (.type T):=by
 rcases c.up with ⟨_,rfl⟩|⟨_,D',g,rfl,n⟩
 .rfl
 .rfl
end
section
variable{X:Cx}{e:Uw}{st:Stmt}{sts:List Stmt}{t:TE}{ts:TS}
theorem PE.kin(h:X.K.In X.base->PE X e t):PE X e t:=λpins s σ H Q I q=>h I.ok.mod.kin pins s σ H Q I q
theorem PS.kin(h:X.K.In X.base->PS X st ts):PS X st ts:=λpins s σ H Q I q=>h I.ok.mod.kin pins s σ H Q I q
theorem PSs.kin(h:X.K.In X.base->PSs X sts ts):PSs X sts ts:=λpins s σ H Q I q=>h I.ok.mod.kin pins s σ H Q I q
theorem WO(k:X.K.In X.base):∀C bm,KC X.K C bm->∃fI,XCls (model X.prog X.w) X.base C bm fI:=λ_ _ ⟨_,c⟩=>c.cls _ _ k
end
def Ou(nm:Str)(us:List V):Prop:=(ZV nm=[]/\∃x,us=[.str x])∨(ZV nm≠[]/\us.length=(ZV nm).length/\∀u∈us,∃y,FmtV u y/\y.length<=4000)
def Ot(nm:Str)(C a:Uu)(us:List V)(H:Hp)(dd:j7)(H':Hp):Prop:=
 (ZV nm=[]/\dd=jQ/\H'=H)∨(ZV nm≠[]/\us.length=(ZV nm).length/\∃dx,dd=O dx/\H dx=jQ/\dx≠a/\H'=upd (upd H a (.ext (XO jR a C (O dx)))) dx (.ext (XD dx ((ZV nm).zip us))))
def OM(K:Frag)(nm:Str)(C:Uu)(sp:Sp):Prop:=∀a us H Q,H a=O (.ext (XO jR a C jQ))->Ou nm us->(∀dd H',Ot nm C a us H dd H'->Q .non H')->sp (.ref a::us) H Q E0
def MkX(P:Ut)(w:World)(K:Frag)(mg:Str->jW)(base:Heap)(nm:Str)(k:Nat):Prop:=
 ∃C bm f fd ps sp,mg nm=O (.ref C)/\PySem.W.keepIn K (.ref C)=jR/\ClsK K nm C bm/\(∀(M:Model)(h:Heap),K.In h->XCls M h C bm f)/\FnOk P w K mg base CX0 k f fd ps sp/\Ym K fd ps []/\OM K nm C sp
theorem CL{K:Frag}{nm:Str}{C:Uu}{bm:jV}(c:ClsK K nm C bm)(hf:ZV nm≠[]):OM K nm C (Pc (KC K) (ZV nm)):=λa us H Q h ar q=>by
 rcases ar with ⟨z,_⟩|⟨_,hl,hu⟩
 .exact absurd z hf
 .exact⟨a,C,bm,us,rfl,hl,⟨nm,c⟩,h,hu,λdx hd hne=>q (O dx) _ (.inr ⟨hf,hl,dx,rfl,hd,hne,rfl⟩)⟩
end L2
namespace DL
open PySem PySem.Spec L2
open PyProof.Rows hiding St
abbrev D:=PyData
abbrev jT:=List D
abbrev jY:=Option D
abbrev XW:=V->St->Hp->Prop
noncomputable abbrev KX0:XW:=λ_ _ _=>False
def XFs(G:Hp)(dd:j7)(fs:List Str)(vs:List V):Prop:=match dd with
 |none=>fs=[]/\vs=[]
 |some dx=>fs.length=vs.length/\G dx=O (.ext (XD dx (fs.zip vs)))
theorem XFs.mono{G G1:Hp}{dd:j7}{fs:List Str}{vs:List V}(e:Same G G1)(h:XFs G dd fs vs):XFs G1 dd fs vs:=by
 cases dd with
 |none=>exact h
 |some dx=>exact⟨h.1,e _ _ h.2⟩
noncomputable def kD:Key->D
 |.inl i=>.int i
 |.inr x=>.str x
noncomputable def tkD(k:ka):D:=.tuple (k.map kD)
noncomputable def pdD(ks:List ka)(ds:jT):List (D×D):=(.bool jR,.none)::(ks.map tkD).zip ds
mutual
inductive Rep(K:Frag)(G:Hp):V->D->Prop where
 |non:Rep K G .non .none
 |bl (b:Bool):Rep K G (.bl b) (.bool b)
 |int (i:Int):Rep K G (.int i) (.int i)
 |str (x:Str):Rep K G (.str x) (.str x)
 |lst {a:Uu} {vs:List V} {ds:jT} (h:SqL K G a vs) (r:Reps K G vs ds):Rep K G (.ref a) (.list ds)
 |tup {a:Uu} {vs:List V} {ds:jT} (h:SqT K G a vs) (r:Reps K G vs ds):Rep K G (.ref a) (.tuple ds)
 |dic {a:Uu} (h:G a=O (.dK [])):Rep K G (.ref a) (.dict [])
 |exc {a C:Uu} {dd:j7} {bm:jV} {nm:Str} {vs:List V} {ds:jT} (c:ClsK K nm C bm) (h:G a=O (.ext (XO jS a C dd))) (hd:XFs G dd (ZV nm) vs) (r:Reps K G vs ds):Rep K G (.ref a) (.dict [(.none,.tuple [.str nm,.list ds])])
 |dct {a:Uu} {ks:ka} {vs:List V} {ds:jT} {kvs:List (D×D)} (e:kvs=(ks.map kD).zip ds) (hne:ks≠[]) (hl:ks.length=ds.length) (h:G a=O (.dK (ks.zip vs))) (r:Reps K G vs ds):Rep K G (.ref a) (.dict kvs)
 |dtt {a:Uu} {o:Obj} {ks:List ka} {vs:List V} {ds:jT} {kvs:List (D×D)} (e:kvs=pdD ks ds) (hl:ks.length=ds.length) (h:G a=O (.frz o (.dT (ks.zip vs)))) (r:Reps K G vs ds):Rep K G (.ref a) (.dict kvs)
inductive Reps(K:Frag)(G:Hp):List V->jT->Prop where
 |nil:Reps K G [] []
 |cons {v:V} {d:D} {vs:List V} {ds:jT} (h:Rep K G v d) (t:Reps K G vs ds):Reps K G (v::vs) (d::ds)
end
variable{K:Frag}{B G0 G G1 G2 H H1 H2:Hp}
theorem ZR{a:Uu}{xs:List V}(e:Same G G1)(h:SqT K G a xs):SqT K G1 a xs:=by
 rcases h with (h|⟨o,h⟩)|h
 .exact .inl (.inl (e _ _ h))
 .exact .inl (.inr ⟨o,e _ _ h⟩)
 .exact .inr h
theorem Rep.mono(e:Same G G1){v:V}{d:D}(r:Rep K G v d):Rep K G1 v d:=Rep.rec (motive_1:=λv d _=>Rep K G1 v d) (motive_2:=λvs ds _=>Reps K G1 vs ds) .non .bl .int .str (λh _ r=>.lst (e.seq h) r) (λh _ r=>.tup (ZR e h) r) (λh=>.dic (e _ _ h)) (λc h hd _ r=>.exc c (e _ _ h) (hd.mono e) r) (λz n l h _ r=>.dct z n l (e _ _ h) r) (λz l h _ r=>.dtt z l (e _ _ h) r) .nil (λ_ _=>.cons) r
theorem Reps.mono(e:Same G G1){vs:List V}{ds:jT}(r:Reps K G vs ds):Reps K G1 vs ds:=Reps.rec (motive_1:=λv d _=>Rep K G1 v d) (motive_2:=λvs ds _=>Reps K G1 vs ds) .non .bl .int .str (λh _ r=>.lst (e.seq h) r) (λh _ r=>.tup (ZR e h) r) (λh=>.dic (e _ _ h)) (λc h hd _ r=>.exc c (e _ _ h) (hd.mono e) r) (λz n l h _ r=>.dct z n l (e _ _ h) r) (λz l h _ r=>.dtt z l (e _ _ h) r) .nil (λ_ _=>.cons) r
theorem Ag{ks:ka}{ds:jT}{d:D}{r:List (D×D)}(e:(.none,d)::r=(ks.map kD).zip ds):False:=by
 cases ks with
 |nil=>cases e
 |cons k ks=>
  cases ds with
  |nil=>cases e
  |cons d ds=>
   rw[QA,JI]at e;injection e with e1 _;injection e1 with e2 _
   cases k<;>cases e2
section
variable{v:V}{vs ws:List V}{ds es:jT}
theorem Rep.bl_inv{b:Bool}(h:Rep K G v (.bool b)):v=.bl b:=by cases h;rfl
theorem Rep.int_inv{i:Int}(h:Rep K G v (.int i)):v=.int i:=by cases h;rfl
theorem Rep.str_inv{x:Str}(h:Rep K G v (.str x)):v=.str x:=by cases h;rfl
theorem Rep.lst_inv(h:Rep K G v (.list ds)):∃a vs,v=.ref a/\SqL K G a vs/\Reps K G vs ds:=by
 cases h with
 |lst h r=>exact⟨_,_,rfl,h,r⟩
theorem Rep.tup_inv(h:Rep K G v (.tuple ds)):∃a vs,v=.ref a/\SqT K G a vs/\Reps K G vs ds:=by
 cases h with
 |tup h r=>exact⟨_,_,rfl,h,r⟩
theorem Rep.exc_inv{d:D}(h:Rep K G v (.dict [(.none,d)])):∃a C dd bm nm vs ds,v=.ref a/\d=.tuple [.str nm,.list ds]/\ClsK K nm C bm/\G a=O (.ext (XO jS a C dd))/\XFs G dd (ZV nm) vs/\Reps K G vs ds:=by
 cases h with
 |exc c h hd r=>exact⟨_,_,_,_,_,_,_,rfl,rfl,c,h,hd,r⟩
 |dct e _ _ _ _=>exact(Ag e).elim
 |dtt e _ _ _=>exact nomatch (Prod.mk.inj (List.cons.inj e).1).1
theorem Reps.length:∀{vs:List V}{ds:jT},Reps K G vs ds->vs.length=ds.length
 |_,_,.nil=>rfl
 |_,_,.cons _ t=>by rw[QB,QB,Reps.length t]
theorem Reps.get:∀{vs:List V}{ds:jT}{i:Nat}{d:D},Reps K G vs ds->ds[i]?=O d->∃v,vs[i]?=O v/\Rep K G v d
 |_,_,_,_,.nil,e=>by simp at e
 |_,_,0,_,.cons h _,e=>by simp at e;subst e;exact⟨_,rfl,h⟩
 |_,_,i+1,d,.cons _ t,e=>by obtain⟨u,h1,h2⟩:=Reps.get (i:=i) (d:=d) t (by simpa using e);exact⟨u,by simpa using h1,h2⟩
theorem Reps.append:∀{vs ws:List V}{ds es:jT},Reps K G vs ds->Reps K G ws es->Reps K G (vs++ws) (ds++es)
 |_,_,_,_,.nil,s=>s
 |_,_,_,_,.cons r t,s=>.cons r (Reps.append t s)
theorem Reps.take:∀{vs:List V}{ds:jT}(n:Nat),Reps K G vs ds->Reps K G (vs.take n) (ds.take n)
 |_,_,0,_=>by rw[List.take_zero,List.take_zero];exact .nil
 |_,_,_+1,.nil=>.nil
 |_,_,n+1,.cons r t=>.cons r (Reps.take n t)
theorem Reps.drop:∀{vs:List V}{ds:jT}(n:Nat),Reps K G vs ds->Reps K G (vs.drop n) (ds.drop n)
 |_,_,0,r=>r
 |_,_,_+1,.nil=>.nil
 |_,_,n+1,.cons _ t=>Reps.drop n t
theorem Reps.reverse:∀{vs:List V}{ds:jT},Reps K G vs ds->Reps K G vs.reverse ds.reverse
 |_,_,.nil=>.nil
 |_,_,.cons r t=>by rw[List.reverse_cons,List.reverse_cons];exact Reps.append (Reps.reverse t) (.cons r .nil)
theorem Reps.set{v:V}{d:D}(r:Rep K G v d):∀{vs:List V}{ds:jT}(i:Nat),Reps K G vs ds->Reps K G (vs.set i v) (ds.set i d)
 |_,_,_,.nil=>.nil
 |_,_,0,.cons _ t=>.cons r t
 |_,_,i+1,.cons q t=>.cons q (Reps.set r i t)
theorem Reps.ints:∀(ns:jU),Reps K G (ns.map V.int) (ns.map int)
 |[]=>.nil
 |n::ns=>.cons (.int n) (Reps.ints ns)
end
inductive MO where
 |l (vs:List V)|k (kvs:List (Key×V))|t (kvs:List (ka×V))|s (S:Int->Bool) (n:Nat)
noncomputable def MO.ho:MO->HO
 |.l vs=>.lst vs
 |.k kvs=>.dK kvs
 |.t kvs=>.dT kvs
 |.s S n=>.set S n
structure Ext(G H G' H':Hp):Prop where
 h:Same H H'
 g:Same G G'
 gh:Same G' H'
 np:∀a(u:MO),H a=O u.ho->G a=jQ->G' a=jQ
theorem Ext.refl(e:Same G H):Ext G H G H:=⟨.refl _,.refl _,e,λ_ _ _ q=>q⟩
theorem Ext.trans{G' H' G'' H'':Hp}(a:Ext G H G' H')(b:Ext G' H' G'' H''):Ext G H G'' H'':=
 ⟨a.h.trans b.h,a.g.trans b.g,b.gh,λx o e q=>b.np x o (a.h x _ e) (a.np x o e q)⟩
theorem Zk{p:Uu}{o:HO}(h:H p=jQ):Same H (upd H p o):=λb u e=>by rw[Kp (YR e h)];exact e
theorem Ext.new{p:Uu}{o:HO}(e:Same G H)(h:H p=jQ):Ext G H (upd G p o) (upd H p o):=by
 have hg:G p=jQ:=e.free h;refine⟨Zk h,Zk hg,λb u q=>?_,λa u q n=>?_⟩
 .by_cases z:b=p
  .subst z;rw[KO]at q⊢;exact q
  .rw[Kp z]at q⊢;exact e b u q
 .rw[Kp (YR q h)];exact n
theorem Ext.hid{p:Uu}{o:HO}(e:Same G H)(h:H p=jQ):Ext G H G (upd H p o):=
 ⟨Zk h,.refl _,e.trans (Zk h),λ_ _ _ n=>n⟩
inductive Pat where
 |leaf|lst (p:Pat)|tup (ps:List Pat)|dic
mutual
inductive RepO(K:Frag)(G H:Hp):Pat->V->D->j4->Prop where
 |leaf {v:V} {d:D} (r:Rep K G v d):RepO K G H .leaf v d []
 |lst {p:Pat} {a:Uu} {vs:List V} {ds:jT} {fp:j4} (h:H a=O (.lst vs)) (r:RepOl K G H p vs ds fp):RepO K G H (.lst p) (.ref a) (.list ds) (a::fp)
 |tup {ps:List Pat} {a:Uu} {vs:List V} {ds:jT} {fp:j4} (h:H a=O (.tup vs)) (r:RepOs K G H ps vs ds fp):RepO K G H (.tup ps) (.ref a) (.tuple ds) fp
 |dic {a:Uu} {ks:ka} {vs:List V} {ds:jT} {kvs:List (D×D)} (e:kvs=(ks.map kD).zip ds) (hl:ks.length=ds.length) (h:H a=O (.dK (ks.zip vs))) (r:Reps K G vs ds):RepO K G H .dic (.ref a) (.dict kvs) [a]
inductive RepOl(K:Frag)(G H:Hp):Pat->List V->jT->j4->Prop where
 |nil {p:Pat}:RepOl K G H p [] [] []
 |cons {p:Pat} {v:V} {d:D} {vs:List V} {ds:jT} {f1 f2:j4} (h:RepO K G H p v d f1) (t:RepOl K G H p vs ds f2):RepOl K G H p (v::vs) (d::ds) (f1++f2)
inductive RepOs(K:Frag)(G H:Hp):List Pat->List V->jT->j4->Prop where
 |nil:RepOs K G H [] [] [] []
 |cons {p:Pat} {ps:List Pat} {v:V} {d:D} {vs:List V} {ds:jT} {f1 f2:j4} (h:RepO K G H p v d f1) (t:RepOs K G H ps vs ds f2):RepOs K G H (p::ps) (v::vs) (d::ds) (f1++f2)
end
def YL(K:Frag)(G H:Hp)(M1:Pat->V->D->j4->Prop)(M2:Pat->List V->jT->j4->Prop)(M3:List Pat->List V->jT->j4->Prop):Prop:=
 (∀{p v d fp},RepO K G H p v d fp->M1 p v d fp)/\(∀{p vs ds fp},RepOl K G H p vs ds fp->M2 p vs ds fp)/\∀{ps vs ds fp},RepOs K G H ps vs ds fp->M3 ps vs ds fp
theorem RepO.ind3{M1:Pat->V->D->j4->Prop}{M2:Pat->List V->jT->j4->Prop}{M3:List Pat->List V->jT->j4->Prop}
  (c1:∀{v d},Rep K G v d->M1 .leaf v d []) (c2:∀{p a vs ds fp},H a=O (.lst vs)->M2 p vs ds fp->M1 (.lst p) (.ref a) (.list ds) (a::fp)) (c3:∀{ps a vs ds fp},H a=O (.tup vs)->M3 ps vs ds fp->M1 (.tup ps) (.ref a) (.tuple ds) fp)
  (c4:∀{a:Uu}{ks:ka}{vs:List V}{ds:jT}{kvs:List (D×D)},kvs=(ks.map kD).zip ds->ks.length=ds.length->H a=O (.dK (ks.zip vs))->Reps K G vs ds->M1 .dic (.ref a) (.dict kvs) [a])
  (c5:∀{p},M2 p [] [] []) (c6:∀{p v d vs ds f1 f2},M1 p v d f1->M2 p vs ds f2->M2 p (v::vs) (d::ds) (f1++f2)) (c7:M3 [] [] [] []) (c8:∀{p ps v d vs ds f1 f2},M1 p v d f1->M3 ps vs ds f2->M3 (p::ps) (v::vs) (d::ds) (f1++f2)) :
  YL K G H M1 M2 M3:=
 ⟨λh=>RepO.rec (motive_1:=λp v d fp _=>M1 p v d fp) (motive_2:=λp v d fp _=>M2 p v d fp) (motive_3:=λp v d fp _=>M3 p v d fp) c1 (λh _=>c2 h) (λh _=>c3 h) c4 c5 (λ_ _=>c6) c7 (λ_ _=>c8) h,
  λh=>RepOl.rec (motive_1:=λp v d fp _=>M1 p v d fp) (motive_2:=λp v d fp _=>M2 p v d fp) (motive_3:=λp v d fp _=>M3 p v d fp) c1 (λh _=>c2 h) (λh _=>c3 h) c4 c5 (λ_ _=>c6) c7 (λ_ _=>c8) h,
  λh=>RepOs.rec (motive_1:=λp v d fp _=>M1 p v d fp) (motive_2:=λp v d fp _=>M2 p v d fp) (motive_3:=λp v d fp _=>M3 p v d fp) c1 (λh _=>c2 h) (λh _=>c3 h) c4 c5 (λ_ _=>c6) c7 (λ_ _=>c8) h⟩
theorem RepO.mono3(sg:Same G G1)(sh:Same H H1):YL K G H (RepO K G1 H1) (RepOl K G1 H1) (RepOs K G1 H1):=
 RepO.ind3 (λr=>.leaf (r.mono sg)) (λh r=>.lst (sh _ _ h) r) (λh r=>.tup (sh _ _ h) r) (λe hl h r=>.dic e hl (sh _ _ h) (r.mono sg)) .nil .cons .nil .cons
theorem RepO.mono(sg:Same G G1)(sh:Same H H1){p:Pat}{v:V}{d:D}{fp:j4}(r:RepO K G H p v d fp):RepO K G1 H1 p v d fp:=(RepO.mono3 sg sh).1 r
theorem RepO.upd3{a:Uu}{o:HO}(nt:∀vs,H a≠O (.tup vs)):YL K G H (λp v d fp=>a∉fp->RepO K G (upd H a o) p v d fp) (λp v d fp=>a∉fp->RepOl K G (upd H a o) p v d fp) (λp v d fp=>a∉fp->RepOs K G (upd H a o) p v d fp):=
 RepO.ind3
 (λr _=>.leaf r) (λh r n=>.lst (by rw[Kp (λz=>n (by rw[z];exact Qo))];exact h) (r λz=>n (Qp _ z))) (λh r n=>.tup (by rw[Kp (λz=>by subst z;exact nt _ h)];exact h) (r n))
 (λe hl h r n=>.dic e hl (by rw[Kp (λz=>n (by rw[z];exact Qo))];exact h) r) (λ_=>.nil) (λh t n=>.cons (h λz=>n (Jk _ z)) (t λz=>n (QP _ z))) (λ_=>.nil) (λh t n=>.cons (h λz=>n (Jk _ z)) (t λz=>n (QP _ z)))
theorem RepO.upd{a:Uu}{o:HO}(nt:∀vs,H a≠O (.tup vs)){p:Pat}{v:V}{d:D}{fp:j4}(r:RepO K G H p v d fp)(n:a∉fp):RepO K G (upd H a o) p v d fp:=(RepO.upd3 nt).1 r n
theorem RepO.rep3(gh:Same G H):YL K G H (λ_ v d _=>Rep K H v d) (λ_ v d _=>Reps K H v d) (λ_ v d _=>Reps K H v d):=
 RepO.ind3 (λr=>r.mono gh) (λh r=>.lst (SqL.of h) r) (λh r=>.tup (SqT.of h) r)
 (λ{a ks vs ds kvs} e hl h r=>by
  cases ks with
  |nil=>subst e;exact .dic h
  |cons k ks=>exact .dct e (λz=>by cases z) hl h (r.mono gh)) .nil .cons .nil .cons
theorem RepO.rep(gh:Same G H){p:Pat}{v:V}{d:D}{fp:j4}(r:RepO K G H p v d fp):Rep K H v d:=(RepO.rep3 gh).1 r
theorem RepO.isl3:YL K G H (λ_ _ _ fp=>∀a∈fp,∃u:MO,H a=O u.ho) (λ_ _ _ fp=>∀a∈fp,∃u:MO,H a=O u.ho) (λ_ _ _ fp=>∀a∈fp,∃u:MO,H a=O u.ho):=
 RepO.ind3 (λ_ a m=>by cases m)
 (λh r b m=>(Qu.mp m).elim (λe=>⟨.l _,e ▸ h⟩) (r b)) (λ_ r=>r) (λ_ _ h _ b m=>⟨.k _,QN.mp m ▸ h⟩) (λa m=>by cases m) (λh t b m=>(Q0.mp m).elim (h b) (t b)) (λa m=>by cases m) (λh t b m=>(Q0.mp m).elim (h b) (t b))
theorem RepO.isl{p:Pat}{v:V}{d:D}{fp:j4}(r:RepO K G H p v d fp):∀a∈fp,∃u:MO,H a=O u.ho:=RepO.isl3.1 r
theorem RepO.uniq3(sh:Same H H1):YL K G H (λp v _ fp=>∀d' fp',RepO K G1 H1 p v d' fp'->fp=fp') (λp v _ fp=>∀d' fp',RepOl K G1 H1 p v d' fp'->fp=fp') (λp v _ fp=>∀d' fp',RepOs K G1 H1 p v d' fp'->fp=fp'):=
 RepO.ind3
 (λ_ d' fp' h=>by cases h;rfl)
 (λh r d' fp' h'=>by
  cases h' with
  |lst h2 r2=>have e:=sh _ _ h;rw[h2]at e;cases e;rw[r _ _ r2])
 (λh r d' fp' h'=>by
  cases h' with
  |tup h2 r2=>have e:=sh _ _ h;rw[h2]at e;cases e;exact r _ _ r2)
 (λ_ _ _ _ d' fp' h=>by cases h;rfl) (λd' fp' h=>by cases h;rfl)
 (λh t d' fp' h'=>by
  cases h' with
  |cons h2 t2=>rw[h _ _ h2,t _ _ t2])
 (λd' fp' h=>by cases h;rfl)
 (λh t d' fp' h'=>by
  cases h' with
  |cons h2 t2=>rw[h _ _ h2,t _ _ t2])
theorem RepO.uniq(sh:Same H H1){p:Pat}{v:V}{d d':D}{fp fp':j4}(r:RepO K G H p v d fp)(r':RepO K G1 H1 p v d' fp'):fp=fp':=(RepO.uniq3 sh).1 r _ _ r'
inductive Sl where
 |pub (d:D)|own (ds:jT)|deep (p:Pat) (d:D)
abbrev UR:=List (Option Sl)
abbrev jZ:=Option UR
def DpOk(K:Frag)(B G H:Hp)(σ:St)(Z:UR):Prop:=∃ω:Uu->Nat,
 (∀(i:Nat) p d,Z[i]?=O (O (.deep p d))->∃v fp,σ[i]?=O (O v)/\RepO K G H p v d fp/\fp.Nodup/\∀a∈fp,B a=jQ/\G a=jQ/\ω a=i) /\
 (∀(i:Nat) ds a,Z[i]?=O (O (.own ds))->σ[i]?=O (O (.ref a))->ω a=i)
theorem DpOk.of{σ:St}{Z:UR}(h1:∀(i:Nat) p d,Z[i]?=O (O (.deep p d))->False)(h2:∀(i:Nat) ds,Z[i]?=O (O (.own ds))->False):DpOk K B G H σ Z:=
 ⟨λ_=>0,λi p d q=>(h1 i p d q).elim,λi ds a q=>(h2 i ds q).elim⟩
theorem DpOk.map{B1:Hp}{σ σ1:St}{Z Z1:UR}(k:DpOk K B G H σ Z)
  (h1:∀(i:Nat) p d,Z1[i]?=O (O (.deep p d))->Z[i]?=O (O (.deep p d))/\σ1[i]?=σ[i]?)
  (h2:∀(i:Nat) ds,Z1[i]?=O (O (.own ds))->∃es,Z[i]?=O (O (.own es))/\σ1[i]?=σ[i]?)
  (h3:∀(i:Nat) p d v fp,Z[i]?=O (O (.deep p d))->σ[i]?=O (O v)->RepO K G H p v d fp->(∀a∈fp,B a=jQ/\G a=jQ)->(∀(j:Nat) ds a,Z[j]?=O (O (.own ds))->σ[j]?=O (O (.ref a))->a∉fp)->RepO K G1 H1 p v d fp/\∀a∈fp,B1 a=jQ/\G1 a=jQ):DpOk K B1 G1 H1 σ1 Z1:=by
 obtain⟨ω,k1,k2⟩:=k;refine⟨ω,λi p d q=>?_,λi ds a q s=>?_⟩
 .obtain⟨q1,e1⟩:=h1 i p d q
  obtain⟨v,fp,s,r,n,w⟩:=k1 i p d q1;obtain⟨r1,w1⟩:=h3 i p d v fp q1 s r (λa m=>⟨(w a m).1,(w a m).2.1⟩) λj ds a qj sj m=>by have z1:=k2 j ds a qj sj;have z2:=(w a m).2.2;rw[z1]at z2;subst z2;rw[q1]at qj;cases qj
  exact⟨v,fp,by rw[e1];exact s,r1,n,λa m=>⟨(w1 a m).1,(w1 a m).2,(w a m).2.2⟩⟩
 .obtain⟨es,q1,e1⟩:=h2 i ds q
  rw[e1]at s;exact k2 i es a q1 s
structure EOk(K:Frag)(B G0 G H:Hp)(σ:St)(Z:UR):Prop where
 bh:Same B H
 gh:Same G H
 g0:Same G0 G
 np:∀a(u:MO),B a=O u.ho->G0 a=jQ->G a=jQ
 len:Z.length=σ.length
 pub:∀(i:Nat) d,Z[i]?=O (O (.pub d))->∃v,σ[i]?=O (O v)/\Rep K G v d
 own:∀(i:Nat) ds,Z[i]?=O (O (.own ds))->∃a vs,σ[i]?=O (O (.ref a))/\B a=jQ/\G a=jQ/\H a=O (.lst vs)/\Reps K G vs ds
 sep:∀(i j:Nat) a ds es,Z[i]?=O (O (.own ds))->Z[j]?=O (O (.own es))->σ[i]?=O (O (.ref a))->σ[j]?=O (O (.ref a))->i=j
 dp:DpOk K B G H σ Z
theorem EOk.ext{G' H':Hp}{σ:St}{Z:UR}(k:EOk K B G0 G H σ Z)(e:Ext G H G' H'):EOk K B G0 G' H' σ Z where
 bh:=k.bh.trans e.h
 gh:=e.gh
 g0:=k.g0.trans e.g
 np:=λa o q n=>e.np a o (k.bh a _ q) (k.np a o q n)
 len:=k.len
 pub:=λi d q=>let ⟨v,h1,h2⟩:=k.pub i d q;⟨v,h1,h2.mono e.g⟩
 own:=λi ds q=>let ⟨a,vs,h1,h2,h3,h4,h5⟩:=k.own i ds q;⟨a,vs,h1,h2,e.np a (.l _) h4 h3,e.h a _ h4,h5.mono e.g⟩
 sep:=k.sep
 dp:=k.dp.map (λ_ _ _ q=>⟨q,rfl⟩) (λ_ ds q=>⟨ds,q,rfl⟩) λi p d v fp q s r w n=>⟨r.mono e.g e.h,λa m=>let ⟨_,hl⟩:=r.isl a m;⟨(w a m).1,e.np a _ hl (w a m).2⟩⟩
theorem EOk.publish{σ:St}{Z:UR}{i:Nat}{ds:jT}(k:EOk K B G0 G H σ Z)(h:Z[i]?=O (O (.own ds))) :
  ∃a G',σ[i]?=O (O (.ref a))/\Same G G'/\Rep K G' (.ref a) (.list ds)/\EOk K B G0 G' H σ (Z.set i (O (.pub (.list ds)))):=by
 obtain⟨a,vs,h1,h2,h3,h4,h5⟩:=k.own i ds h;have sg:Same G (upd G a (.lst vs)):=Zk h3;have hr:Rep K (upd G a (.lst vs)) (.ref a) (.list ds):=.lst (SqL.of KO) (h5.mono sg);refine⟨a,upd G a (.lst vs),h1,sg,hr,⟨k.bh,λb u q=>?_,k.g0.trans sg,λb o q n=>?_,by rw[Je];exact k.len,λj d q=>?_,λj es q=>?_,λj l c es fs q1 q2 s1 s2=>?_,?_⟩⟩
 .by_cases z:b=a
  .subst z;rw[KO]at q;cases q;exact h4
  .rw[Kp z]at q;exact k.gh b u q
 .have z:b≠a:=λz=>by subst z;rw[h2]at q;cases q
  rw[Kp z];exact k.np b o q n
 .by_cases z:i=j
  .subst z
   have hl:i<Z.length:=(Qq.mp h).1;rw[QL hl]at q;cases q;exact⟨.ref a,h1,hr⟩
  .rw[Qm z]at q
   obtain⟨v,g1,g2⟩:=k.pub j d q;exact⟨v,g1,g2.mono sg⟩
 .by_cases z:i=j
  .subst z
   have hl:i<Z.length:=(Qq.mp h).1;rw[QL hl]at q;cases q
  .rw[Qm z]at q
   obtain⟨b,ws,g1,g2,g3,g4,g5⟩:=k.own j es q;have zb:b≠a:=λe=>z (k.sep i j a ds es h q h1 (by rw[←e];exact g1))
   exact⟨b,ws,g1,g2,by rw[Kp zb];exact g3,g4,g5.mono sg⟩
 .have nz:∀{m:Nat}{ts:jT},(Z.set i (O (Sl.pub (.list ds))))[m]?=O (O (.own ts))->Z[m]?=O (O (.own ts)):=λ{m ts} q=>by
   by_cases z:i=m
   .subst z
    have hl:i<Z.length:=(Qq.mp h).1;rw[QL hl]at q;cases q
   .rw[Qm z]at q;exact q
  exact k.sep j l c es fs (nz q1) (nz q2) s1 s2
 .have hl:i<Z.length:=(Qq.mp h).1
  have nz:∀{m:Nat}{s:Sl},(Z.set i (O (Sl.pub (.list ds))))[m]?=O (O s)->(∃d,s=.pub d)∨Z[m]?=O (O s):=λ{m s} q=>by
   by_cases z:i=m
   .subst z
    rw[QL hl]at q;cases q;exact .inl ⟨_,rfl⟩
   .rw[Qm z]at q;exact .inr q
  refine k.dp.map (λm p d q=>?_) (λm es q=>?_) λm p d v fp q s r w n=>⟨r.mono sg (.refl _),λb mb=>⟨(w b mb).1,?_⟩⟩
  .rcases nz q with ⟨_,e⟩|q
   .cases e
   .exact⟨q,rfl⟩
  .rcases nz q with ⟨_,e⟩|q
   .cases e
   .exact⟨es,q,rfl⟩
  .rw[Kp (λz=>by subst z;exact n i ds b h h1 mb)];exact(w b mb).2
inductive Res(α:Type) where
 |ok (a:α) (Z:UR)|bad
noncomputable abbrev M(α:Type):=UR->Res α
noncomputable def UV{α:Type}(a:α):M α:=λZ=>.ok a Z
noncomputable def U2{α:Type}(o:Option α):M α:=λZ=>match o with|some a=>.ok a Z|none=>.bad
noncomputable def U5{α β:Type}(f:M α)(k:α->M β):M β:=λZ=>match f Z with | .ok a Z'=>k a Z' | .bad=>.bad
section
variable(K:Frag)(B G0:Hp)
def aft{α γ:Type}(R:Hp->γ->α->Prop)(r:Res α)(G:Hp)(σ:St)(Q:γ->Hp->Prop):Prop:=
 match r with
 |.ok d Z'=>∀v G' H',EOk K B G0 G' H' σ Z'->Same G G'->R G' v d->Q v H'
 |.bad=>False
noncomputable def tM{α γ:Type}(R:Hp->γ->α->Prop)(f:M α):St->Hp->(γ->Hp->Prop)->Prop:=λσ H Q=>
 ∃G Z,EOk K B G0 G H σ Z/\aft K B G0 R (f Z) G σ Q
noncomputable abbrev tD(f:M D):TE:=tM K B G0 (Rep K) f
noncomputable abbrev tDs(f:M jT):TA:=tM K B G0 (Reps K) f
noncomputable abbrev tBo(f:M Bool):TT:=tM K B G0 (λ_ b c=>b=c) f
noncomputable abbrev tOi(f:M j6):TO:=tM K B G0 (λ_ b c=>b=c) f
end
section
variable{K:Frag}{B G0:Hp}{α β γ δ ε:Type}{R:Hp->γ->α->Prop}{S:Hp->δ->β->Prop}{T:Hp->ε->α->Prop}{σ:St}{H:Hp}
theorem aft.mono{r:Res α}{G G':Hp}{Q:γ->Hp->Prop}(e:Same G G')(h:aft K B G0 R r G σ Q):aft K B G0 R r G' σ Q:=by
 cases r with
 |ok d Z=>exact λv G2 H2 k s q=>h v G2 H2 k (e.trans s) q
 |bad=>exact h
theorem aft.done{d:α}{Z:UR}{G G' H H':Hp}{v:γ}{Q:γ->Hp->Prop}(h:aft K B G0 R (.ok d Z) G σ Q)(k:EOk K B G0 G H σ Z)(e:Ext G H G' H')(r:R G' v d):Q v H':=
 h v G' H' (k.ext e) e.g r
theorem aft.now{d:α}{Z:UR}{G H:Hp}{v:γ}{Q:γ->Hp->Prop}(h:aft K B G0 R (.ok d Z) G σ Q)(k:EOk K B G0 G H σ Z)(r:R G v d):Q v H:=
 h v G H k (.refl _) r
theorem aft.opt{o:Option α}{Z:UR}{G:Hp}{Q:γ->Hp->Prop}(h:aft K B G0 R (U2 o Z) G σ Q):∃d,o=O d/\aft K B G0 R (.ok d Z) G σ Q:=by
 cases o with
 |none=>exact h.elim
 |some d=>exact⟨d,rfl,h⟩
theorem tM.bind{f:M α}{k:α->M β}{Q:δ->Hp->Prop}(h:tM K B G0 S (U5 f k) σ H Q) :
  tM K B G0 R f σ H (λv H1=>∃G Z d,EOk K B G0 G H1 σ Z/\R G v d/\aft K B G0 S (k d Z) G σ Q):=by
 obtain⟨G,Z,e,a⟩:=h;refine⟨G,Z,e,?_⟩;unfold U5 at a;cases q:f Z with
 |bad=>rw[q]at a;exact a.elim
 |ok d Z1=>rw[q]at a;exact λv G' H' e' s r=>⟨G',Z1,d,e',r,aft.mono s a⟩
theorem tM.bind2{α' γ':Type}{R':Hp->γ'->α'->Prop}{f:M α}{g:α->M α'}{k:α->α'->M β}{Q:δ->Hp->Prop}(mo:∀G G' v d,Same G G'->R G v d->R G' v d)
  (h:tM K B G0 S (U5 f λx=>U5 (g x) λy=>k x y) σ H Q) :
  tM K B G0 R f σ H (λv H1=>∃x,tM K B G0 R' (g x) σ H1 λu H2=>∃G Z y,EOk K B G0 G H2 σ Z/\R G v x/\R' G u y/\aft K B G0 S (k x y Z) G σ Q):=by
 obtain⟨G,Z,e,a⟩:=tM.bind (R:=R) h;refine⟨G,Z,e,?_⟩;cases q:f Z with
 |bad=>rw[q]at a;exact a.elim
 |ok d Z1=>
  rw[q]at a;intro v G' H' e' s r;obtain⟨G2,Z2,d2,e2,r2,a2⟩:=a v G' H' e' s r;refine⟨d2,G2,Z2,e2,?_⟩;unfold U5 at a2;cases q2:g d2 Z2 with
  |bad=>rw[q2]at a2;exact a2.elim
  |ok d3 Z3=>rw[q2]at a2;exact λu G3 H3 e3 s3 r3=>⟨G3,Z3,d3,e3,mo _ _ _ _ s3 r2,r3,aft.mono s3 a2⟩
end
theorem NN{K:Frag}(G G':Hp)(v:V)(d:D)(e:Same G G')(r:Rep K G v d):Rep K G' v d:=r.mono e
theorem tM.two{K:Frag}{B G0:Hp}{β δ:Type}{S:Hp->δ->β->Prop}{σ:St}{H:Hp}{f g:M D}{k:D->D->M β}{Q:δ->Hp->Prop}{P:V->V->Hp->Prop}
  (h:tM K B G0 S (U5 f λx=>U5 g λy=>k x y) σ H Q)
  (i:∀v u H2 G Z x y,EOk K B G0 G H2 σ Z->Rep K G v x->Rep K G u y->aft K B G0 S (k x y Z) G σ Q->P v u H2) :
  tD K B G0 f σ H (λv H1=>tD K B G0 g σ H1 λu H2=>P v u H2):=by
 obtain⟨G,Z,e,a⟩:=tM.bind2 (R:=Rep K) (R':=Rep K) NN h;refine⟨G,Z,e,?_⟩;cases q:f Z with
 |bad=>rw[q]at a;exact a.elim
 |ok d Z1=>
  rw[q]at a;intro v G' H' e' s r;obtain⟨x,G2,Z2,e2,a2⟩:=a v G' H' e' s r;refine⟨G2,Z2,e2,?_⟩;cases q2:g Z2 with
  |bad=>rw[q2]at a2;exact a2.elim
  |ok d3 Z3=>rw[q2]at a2;intro u G3 H3 e3 s3 r3;obtain⟨G4,Z4,y,e4,r4,r5,a5⟩:=a2 u G3 H3 e3 s3 r3;exact i v u H3 G4 Z4 x y e4 r4 r5 a5
theorem tM.one{K:Frag}{B G0:Hp}{α β γ δ:Type}{R:Hp->γ->α->Prop}{S:Hp->δ->β->Prop}{σ:St}{H:Hp}{f:M α}{k:α->M β}{Q:δ->Hp->Prop}{P:γ->Hp->Prop}
  (h:tM K B G0 S (U5 f k) σ H Q) (i:∀v H2 G Z x,EOk K B G0 G H2 σ Z->R G v x->aft K B G0 S (k x Z) G σ Q->P v H2):tM K B G0 R f σ H P:=by
 obtain⟨G,Z,e,a⟩:=tM.bind (R:=R) h;refine⟨G,Z,e,?_⟩;cases q:f Z with
 |bad=>rw[q]at a;exact a.elim
 |ok d Z1=>rw[q]at a;intro v G' H' e' s r;obtain⟨G2,Z2,d2,e2,r2,a2⟩:=a v G' H' e' s r;exact i v H' G2 Z2 d2 e2 r2 a2
section
variable{X:Cx}{B G0:Hp}{e a b:Uw}{pos:Pos}
theorem Km{t t':TE}(h:PE X e t)(i:∀σ H Q,t' σ H Q->t σ H Q):PE X e t':=λpins s σ H Q I q=>h pins s σ H Q I (i σ H Q q)
theorem Y1{t t':TT}(h:PT X e t)(i:∀σ H Q,t' σ H Q->t σ H Q):PT X e t':=λpins s σ H Q I q=>h pins s σ H Q I (i σ H Q q)
theorem paof{es:jX}{t t':TA}(h:PA X es t)(i:∀σ H Q,t' σ H Q->t σ H Q):PA X es t':=λps pins s σ H Q I q=>h ps pins s σ H Q I (i σ H Q q)
theorem poof{eo:Option Uw}{t t':TO}(h:PO X eo t)(i:∀σ H Q,t' σ H Q->t σ H Q):PO X eo t':=λpins s σ H Q I q=>h pins s σ H Q I (i σ H Q q)
theorem Ze{st:Stmt}{t t':TS}(h:PS X st t)(i:∀D σ H,t' D σ H->t D σ H):PS X st t':=λpins s σ H D I q=>h pins s σ H D I (i D σ H q)
theorem Su{st:List Stmt}{t t':TS}(h:PSs X st t)(i:∀D σ H,t' D σ H->t D σ H):PSs X st t':=λpins s σ H D I q=>h pins s σ H D I (i D σ H q)
noncomputable def UQ(i:Nat):M D:=λZ=>match Z[i]? with
 |some (O (.pub d))=>.ok d Z
 |some (O (.own ds))=>.ok (.list ds) (Z.set i (O (.pub (.list ds))))
 |_=>.bad
theorem OL{i:Nat}(h:PE X e (KL i)):PE X e (tD X.K B G0 (UQ i)):=Km h λσ H Q ⟨G,Z,k,a⟩=>by
 unfold UQ at a;cases q:Z[i]? with
 |none=>rw[q]at a;exact a.elim
 |some o=>
  cases o with
  |none=>rw[q]at a;exact a.elim
  |some sl=>
   cases sl with
   |deep _ _=>rw[q]at a;exact a.elim
   |pub d=>rw[q]at a;obtain⟨v,h1,h2⟩:=k.pub i d q;exact⟨v,h1,a.now k h2⟩
   |own ds=>rw[q]at a;obtain⟨ad,G',h1,h2,h3,h4⟩:=k.publish q;exact⟨.ref ad,h1,a (.ref ad) G' H h4 h2 h3⟩
theorem SL{v:V}{d:D}(h:PE X e (tC v))(r:∀G,Rep X.K G v d):PE X e (tD X.K B G0 (UV d)):=Km h λσ H Q ⟨G,Z,k,a⟩=>a.now k (r G)
theorem Fv{i:Int}{j}:PE X (.Constant (.int i) j pos) (tD X.K B G0 (UV (.int i))):=SL De λ_=>.int i
theorem Dg{i:Bool}{j}:PE X (.Constant (.bool i) j pos) (tD X.K B G0 (UV (.bool i))):=SL GS λ_=>.bl i
theorem D2{j}:PE X (.Constant .none j pos) (tD X.K B G0 (UV .none)):=SL Dd λ_=>.non
theorem Fu{x:Str}{j}:PE X (.Constant (.str x) j pos) (tD X.K B G0 (UV (.str x))):=SL RT λ_=>.str x
noncomputable def UY{β:Type}(op:D->D->Option β)(f g:M D):M β:=U5 f λx=>U5 g λy=>U2 (op x y)
def OpD(X:Cx)(f:Ur->Ur->Sem Ur)(op:D->D->jY):Prop:=
 ∃r:R2,OpR X f r/\∀v u G H x y d Q,Same G H->Rep X.K G v x->Rep X.K G u y->op x y=O d->(∀w G' H',Ext G H G' H'->Rep X.K G' w d->Q w H')->r v u H Q
theorem W4{op:Operator}{p:D->D->jY}{f g:M D}(o:OpD X (binaryOp op) p)(ha:PE X a (tD X.K B G0 f))(hb:PE X b (tD X.K B G0 g)):PE X (.BinOp a op b pos) (tD X.K B G0 (UY p f g)):=by
 obtain⟨r,h,i⟩:=o;refine Km (Fq h ha hb) λσ H Q q=>?_;refine tM.two q λv u H2 G Z x y k rx ry a=>?_
 obtain⟨d,e,a⟩:=a.opt;exact i v u G H2 x y d Q k.gh rx ry e λw G' H' ex rw=>a.done k ex rw
theorem OpD.or{f:Ur->Ur->Sem Ur}{p q:D->D->jY}(h:OpD X f p)(h':OpD X f q):OpD X f (λx y=>(p x y).orElse λ_=>q x y):=by
 obtain⟨r,h1,i1⟩:=h;obtain⟨r',h2,i2⟩:=h';refine⟨_,h1.or h2,λv u G H x y d Q s rx ry e k=>?_⟩;dsimp only at e;cases z:p x y with
 |some d'=>rw[z]at e;have e':d'=d:=Jt e;subst e';exact .inl (i1 v u G H x y d' Q s rx ry z k)
 |none=>rw[z]at e;exact .inr (i2 v u G H x y d Q s rx ry e k)
noncomputable def oII(g:Int->Int->jY):D->D->jY
 |.int i,.int j=>g i j
 |_,_=>jQ
theorem NM{g:Int->Int->jY}{x y d:D}(e:oII g x y=O d):∃i j,x=.int i/\y=.int j/\g i j=O d:=by
 unfold oII at e;split at e
 .exact⟨_,_,rfl,rfl,e⟩
 .cases e
theorem OpD.int{f:Ur->Ur->Sem Ur}{C:Int->Int->Prop}{g:Int->Int->V}{p:Int->Int->jY}(h:OpR X f (rI C g))(i:∀i j d,p i j=O d->C i j/\∀G,Rep X.K G (g i j) d):OpD X f (oII p):=by refine⟨_,h,λv u G H x y d Q s rx ry e k=>?_⟩;obtain⟨a,b,rfl,rfl,e⟩:=NM e;obtain⟨c,r⟩:=i a b d e;exact⟨a,b,rx.int_inv,ry.int_inv,c,k _ G H (.refl s) (r G)⟩
theorem OpD.int0{f:Ur->Ur->Sem Ur}{g:Int->Int->V}{p:Int->Int->D}(h:OpR X f (rI0 g))(i:∀i j G,Rep X.K G (g i j) (p i j)):OpD X f (oII λi j=>O (p i j)):=by refine⟨_,h,λv u G H x y d Q s rx ry e k=>?_⟩;obtain⟨a,b,rfl,rfl,e⟩:=NM e;cases e;exact⟨a,b,rx.int_inv,ry.int_inv,k _ G H (.refl s) (i a b G)⟩
end
section
variable{X:Cx}{B G0:Hp}{e a b c:Uw}{pos:Pos}
theorem Ft:OpD X (binaryOp .Add) (oII λi j=>O (.int (i+j))):=.int0 FN λ_ _ _=>.int _
theorem Fs:OpD X (binaryOp .Sub) (oII λi j=>O (.int (i-j))):=.int0 FM λ_ _ _=>.int _
noncomputable def Xz(i j:Int):jY:=if(-(2 ^ 64)<i/\i<2 ^ 64)∨(-(2 ^ 64)<j/\j<2 ^ 64)then O (.int (i*j))else jQ
theorem D1:OpD X (binaryOp .Mult) (oII Xz):=.int FL λi j d h=>by
 unfold Xz at h;split at h
 .rename_i c
  cases h;exact⟨c,λ_=>.int _⟩
 .cases h
noncomputable def Ws(i j:Int):jY:=if 0<j then O (.int (i % j))else jQ
theorem Ec:OpD X (binaryOp .Mod) (oII Ws):=.int FJ λi j d h=>by
 unfold Ws at h;split at h
 .rename_i c
  cases h;exact⟨c,λ_=>.int _⟩
 .cases h
theorem CJ:OpR X (binaryOp .FloorDiv) (rI (λi j=>0<j/\j<2 ^ 64) λi j=>.int (i / j)):=opI λi j _ _ _ _ _ hc q=>by
 have h1:(0:Int)<j:=hc.1;have h2:j<2 ^ 64:=hc.2;refine floordiv_int (by lia) (by rw[Int.fdiv_eq_ediv_of_nonneg i (by lia)];exact q) (.inl (PyProof.noPylong_of_log2 ?_));have h0:j.natAbs≠0:=by lia
 have:j.natAbs.log2<64:=(Nat.log2_lt h0).mpr (by lia)
 lia
noncomputable def Wt(i j:Int):jY:=if 0<j/\j<2 ^ 64 then O (.int (i / j))else jQ
theorem Eb:OpD X (binaryOp .FloorDiv) (oII Wt):=.int CJ λi j d h=>by
 unfold Wt at h;split at h
 .rename_i c
  cases h;exact⟨c,λ_=>.int _⟩
 .cases h
noncomputable def Wr(i j:Int):jY:=if 0<=j/\j<=1000000/\i.natAbs<2 ^ 64 then O (.int (i ^ j.toNat))else jQ
theorem Ea:OpD X (binaryOp .Pow) (oII Wr):=.int FI λi j d h=>by
 unfold Wr at h;split at h
 .rename_i c
  cases h;exact⟨c,λ_=>.int _⟩
 .cases h
theorem lim:(1000000:Nat)<=Ux:=by decide
noncomputable def SD:D->D->jY
 |.str x,.str y=>if x.length+y.length<=1000000 then O (.str (x++y))else jQ
 |_,_=>jQ
theorem DZ:OpD X (binaryOp .Add) SD:=by
 refine⟨_,qF,λv u G H x y d Q s rx ry e k=>?_⟩;unfold SD at e;split at e
 .split at e
  .rename_i c
   cases e;exact⟨_,_,rx.str_inv,ry.str_inv,Qz c lim,k _ G H (.refl s) (.str _)⟩
  .cases e
 .cases e
noncomputable def HR(K:Frag):R2:=λx y H Q=>∃l b xs zs,x=.ref l/\y=.ref b/\SqL K H l xs/\SqL K H b zs/\xs.length+zs.length<=Ux/\∀p,H p=jQ->Q (.ref p) (upd H p (.lst (xs++zs)))
theorem DY:OpR X (binaryOp .Add) (HR X.K):=by
 intro pins s σ H x y v u Q I rx ry h;obtain⟨l,b,xs,zs,rfl,rfl,hH,hB,hz,q⟩:=h;cases rx;cases ry;obtain⟨its,r,⟨⟨c1,d1,t1,s1⟩,n1,e1,vv,vq,vo⟩,z1⟩:=I.list hH;obtain⟨its2,r2,⟨⟨c2,d2,t2,s2⟩,n2,e2,ec2,vp,et2⟩,z2⟩:=I.list hB;simp only at vv vq vo ec2 vp et2;subst vv vq vo ec2 vp et2;have hl:=r.length;have hl2:=r2.length;refine concat_meets ⟨_,e1,rfl⟩ ⟨_,e2,rfl⟩ noFill_list_add seq_list_add PySem.F.slot_list_add PySem.F.entry_list_add (PySem.F.args_list_add_2 _ _) (list_addW l b its.toArray its2.toArray n1 n2 jQ jQ s1 s2 (by rw[QQ,QQ];lia)) ⟨e1,e2,?_⟩;have ea:its.toArray++its2.toArray=(its++its2).toArray:=by simp
 rw[ea];exact⟨.ref _,_,I.lnew (t':=s.toks) (r.append r2) (by rw[Qk];lia),rfl,q _ I.fresh⟩
theorem HQ(a:Int)(t:Tok)(l:Uu)(items:Array Ur)(n:Nat)(sl:Array jW) :
  Meets (Builtin.«int.__rmul__» ⟨[.int a t,.ref l],[]⟩) (λ_ R s=>s.heap.get? l=O {cls:=.type "list", dict:=jQ,data:=.seq items n,slots:=sl}/\R (.ok (.ret Value.notImplemented)) s):=
 .of_wp λprog w A R s h=>by obtain⟨hp,g,d,tk,os⟩:=s;obtain⟨hl,h⟩:=h;wp_walk;exact⟨_,rfl,h⟩
theorem mulW(l:Uu)(items:Array Ur)(n:Nat)(x:Int)(u:Tok)(sl:Array jW)(hc0:¬(!Builtin.List.listFitsIndex x)=jR)(hc1:¬items.size*x.toNat > (2 ^ 63-1) / 8)(hc2:¬Builtin.List.listTooLong (items.size*x.toNat)=jR) :
  Meets (Builtin.«list.__mul__» ⟨[.ref l,.int x u],[]⟩) (λ_ R s=>s.heap.get? l=O {cls:=.type "list", dict:=jQ,data:=.seq items n,slots:=sl}/\R (.ok (.ret (Value.ref s.heap.objs.size))) {s with heap:=s.heap.push {cls:=Value.type "list", data:=Data.seq (List.foldl (λx1 x2=>x1++x2) #[] (UC (if items.isEmpty=jR then 0 else x.toNat) items))},toks:=s.toks}):=
 .of_wp λprog w A R s h=>by
  obtain⟨hp,g,d,tk,os⟩:=s;obtain⟨hl,h⟩:=h;have hsz:=AutoListH.joined_fits hc2
  wp_walk;refine wpAny_ite_false (Qt (Nat.not_lt.mpr hsz)) ?_;wp_walk;exact⟨_,rfl,h⟩
noncomputable def HP(K:Frag):R2:=λx y H Q=>∃l k xs,x=.ref l/\y=.int k/\SqL K H l xs /\ -(2 ^ 63)<=k/\k<2 ^ 63/\xs.length*k.toNat<=Ux /\
 ∀p,H p=jQ->Q (.ref p) (upd H p (.lst (UC k.toNat xs).flatten))
theorem DX:OpR X (binaryOp .Mult) (HP X.K):=by
 intro pins s σ H x y v u Q I rx ry h;obtain⟨l,k,xs,rfl,rfl,hH,h1,h2,hz,q⟩:=h;cases rx;obtain⟨t,rfl⟩:=ry;obtain⟨its,r,⟨⟨c1,d1,t1,sl⟩,n,e,vv,vq,vo⟩,z⟩:=I.list hH;simp only at vv vq vo;subst vv vq vo;have hl:=r.length;have hlen:its.toArray.size*k.toNat<=Ux:=by rw[QQ,←hl];exact hz
 have hcap:¬its.toArray.size*k.toNat > (2 ^ 63-1) / 8:=by
  have:(Ux:Nat)<=(2 ^ 63-1) / 8:=by decide
  lia
 have hfit:¬(!Builtin.List.listFitsIndex k)=jR:=by rw[fitsIndex_both h1 h2];exact JQ
 have vc:¬Builtin.List.listTooLong (its.toArray.size*k.toNat)=jR:=by rw[CW hlen];exact JQ
 have hnew:List.foldl (λx1 x2=>x1++x2) #[] (UC (if its.toArray.isEmpty=jR then 0 else k.toNat) its.toArray)=(UC k.toNat its).flatten.toArray:=by
  have f0:∀m:Nat,List.foldl (λx1 x2=>x1++x2) #[] (UC m its.toArray)=(UC m its).flatten.toArray:=λm=>by have:=MV its m [];rw[Jf]at this;exact this
  rw[f0];cases its with
  |nil=>simp
  |cons a r'=>rw[if_neg (by simp)]
 refine wpAny_binaryOp_repeat_ref (T:= "list") (U:= "int") (by decide) ⟨_,e,rfl⟩ (λs'=>typeIs_int s' k t) noFill_list_mul F.fills_int_mul F.slot_int_rmul repeat_list F.slot_int_index.lookup
  (call_meets F.slot_int_rmul (typeIs_int s k t) F.entry_int_rmul (F.args_int_rmul_2 _ _) (HQ k t l its.toArray n sl)
   ⟨e,rfl,⟨_,e,rfl⟩,call_meets F.slot_list_mul ⟨_,e,rfl⟩ F.entry_list_mul (F.args_list_mul_2 _ _) (mulW l its.toArray n k t sl hfit hcap vc) ⟨e,?_⟩⟩)
 rw[hnew];exact⟨.ref _,_,I.lnew (t':=s.toks) (r.rep k.toNat) (by rw[Do,Nat.mul_comm];exact hz),rfl,q _ I.fresh⟩
noncomputable def SB:D->D->jY
 |.list x,.list y=>if x.length+y.length<=1000000 then O (.list (x++y))else jQ
 |_,_=>jQ
theorem DW:OpD X (binaryOp .Add) SB:=by
 refine⟨_,DY,λv u G H x y d Q s rx ry e k=>?_⟩;unfold SB at e;split at e
 .split at e
  .rename_i c
   cases e;obtain⟨l,vs,rfl,h1,r1⟩:=rx.lst_inv;obtain⟨b,ws,rfl,h2,r2⟩:=ry.lst_inv;refine⟨l,b,vs,ws,rfl,rfl,s.seq h1,s.seq h2,by rw[r1.length,r2.length];exact Qz c lim,λp hp=>k _ _ _ (Ext.new s hp) ?_⟩;exact .lst (SqL.of KO) ((r1.append r2).mono (Zk (s.free hp)))
  .cases e
 .cases e
theorem Reps.rep{K:Frag}{G:Hp}{vs:List V}{ds:jT}(r:Reps K G vs ds):∀n:Nat,Reps K G (UC n vs).flatten (UC n ds).flatten
 |0=>.nil
 |n+1=>by rw[Jd,Jd,QJ,QJ];exact r.append (r.rep n)
noncomputable def SA:D->D->jY
 |.list x,.int k=>if -1000000<=k/\k<=1000000/\x.length*k.toNat<=1000000 then O (.list (UC k.toNat x).flatten)else jQ
 |_,_=>jQ
theorem DV:OpD X (binaryOp .Mult) SA:=by
 refine⟨_,DX,λv u G H x y d Q s rx ry e k=>?_⟩;unfold SA at e;split at e
 .split at e
  .rename_i c
   cases e;obtain⟨l,vs,rfl,h1,r1⟩:=rx.lst_inv;refine⟨l,_,vs,rfl,ry.int_inv,s.seq h1,by lia,by lia,by rw[r1.length];exact Qz c.2.2 lim,λp hp=>k _ _ _ (Ext.new s hp) ?_⟩;exact .lst (SqL.of KO) ((r1.rep _).mono (Zk (s.free hp)))
  .cases e
 .cases e
noncomputable def Kb:D->D->jY
 |.int i,.int j=>O (.int (i+j))
 |.str x,.str y=>if x.length+y.length<=1000000 then O (.str (x++y))else jQ
 |.list x,.list y=>if x.length+y.length<=1000000 then O (.list (x++y))else jQ
 |_,_=>jQ
noncomputable def Xw:D->D->jY
 |.int i,.int j=>O (.int (i-j))
 |_,_=>jQ
noncomputable def Kw:D->D->jY
 |.int i,.int j=>Xz i j
 |.list x,.int k=>if -1000000<=k/\k<=1000000/\x.length*k.toNat<=1000000 then O (.list (UC k.toNat x).flatten)else jQ
 |_,_=>jQ
noncomputable def K9:D->D->jY
 |.int i,.int j=>Ws i j
 |_,_=>jQ
noncomputable def Yp:D->D->jY
 |.int i,.int j=>Wt i j
 |_,_=>jQ
noncomputable def ZU:D->D->jY
 |.int i,.int j=>Wr i j
 |_,_=>jQ
theorem OpD.congr{f:Ur->Ur->Sem Ur}{p q:D->D->jY}(h:OpD X f p)(e:∀x y,q x y=p x y):OpD X f q:=by
 have:q=p:=by funext x y;exact e x y
 rw[this];exact h
theorem OB:OpD X (binaryOp .Add) Kb:=(Ft.or (DZ.or DW)).congr λx y=>by cases x<;>cases y<;>first|rfl|(simp only[Kb,oII,SD,SB,Option.orElse];done)|(simp only[Kb,oII,SD,SB,Option.orElse];split<;>rfl)
theorem HN:OpD X (binaryOp .Sub) Xw:=Fs.congr λx y=>by cases x<;>cases y<;>rfl
theorem OA:OpD X (binaryOp .Mult) Kw:=(D1.or DV).congr λx y=>by cases x<;>cases y<;>first|rfl|(simp only[Kw,oII,SA,Option.orElse];done)|(simp only[Kw,oII,SA,Option.orElse];split<;>first|rfl|assumption)
theorem HM:OpD X (binaryOp .Mod) K9:=Ec.congr λx y=>by cases x<;>cases y<;>rfl
theorem HL:OpD X (binaryOp .FloorDiv) Yp:=Eb.congr λx y=>by cases x<;>cases y<;>rfl
theorem HK:OpD X (binaryOp .Pow) ZU:=Ea.congr λx y=>by cases x<;>cases y<;>rfl
end
section
variable{X:Cx}{B G0:Hp}{e a b c:Uw}{pos:Pos}
def OpB(X:Cx)(f:Ur->Ur->Sem Ur)(op:D->D->j8):Prop:=
 ∃r:R2,OpR X f r/\∀v u G H x y d Q,Same G H->Rep X.K G v x->Rep X.K G u y->op x y=O d->Q (.bl d) H->r v u H Q
theorem OpB.or{f:Ur->Ur->Sem Ur}{p q:D->D->j8}(h:OpB X f p)(h':OpB X f q):OpB X f (λx y=>(p x y).orElse λ_=>q x y):=by
 obtain⟨r,h1,i1⟩:=h;obtain⟨r',h2,i2⟩:=h';refine⟨_,h1.or h2,λv u G H x y d Q s rx ry e k=>?_⟩;dsimp only at e;cases z:p x y with
 |some d'=>rw[z]at e;have e':d'=d:=Jt e;subst e';exact .inl (i1 v u G H x y d' Q s rx ry z k)
 |none=>rw[z]at e;exact .inr (i2 v u G H x y d Q s rx ry e k)
theorem OpB.congr{f:Ur->Ur->Sem Ur}{p q:D->D->j8}(h:OpB X f p)(e:∀x y,q x y=p x y):OpB X f q:=by
 have:q=p:=by funext x y;exact e x y
 rw[this];exact h
theorem DU{op:CmpOp}{p:D->D->j8}{f g:M D}(o:OpB X (UA op) p)(ha:PE X a (tD X.K B G0 f))(hb:PE X b (tD X.K B G0 g))(hm:behindInMarks op b=jS) :
  PT X (.Compare a [op] [b] pos) (tBo X.K B G0 (UY p f g)):=by
 obtain⟨r,h,i⟩:=o;refine Y1 (R1 h ha hb hm) λσ H Q q=>?_;refine tM.two q λv u H2 G Z x y k rx ry a=>?_
 obtain⟨d,e,a⟩:=a.opt;exact i v u G H2 x y d _ k.gh rx ry e ⟨d,rfl,a.now k jP⟩
noncomputable def U3{α β:Type}(h:α->β)(f:M α):M β:=U5 f λx=>UV (h x)
theorem tM.map{K:Frag}{α β γ δ:Type}{R:Hp->γ->α->Prop}{S:Hp->δ->β->Prop}{σ:St}{H:Hp}{h:α->β}{f:M α}{Q:δ->Hp->Prop}(j:γ->δ)(q:tM K B G0 S (U3 h f) σ H Q)
  (i:∀G v x,R G v x->S G (j v) (h x)):tM K B G0 R f σ H (λv H'=>Q (j v) H'):=
 tM.one (R:=R) (f:=f) q λv H2 G Z x k r a=>aft.now (show aft K B G0 S (.ok (h x) Z) G σ Q from a) k (i G v x r)
theorem tBo.val{K:Frag}{σ:St}{H:Hp}{f:M Bool}{Q:VK}(q:tD K B G0 (U3 UE f) σ H Q):tBo K B G0 f σ H (λb H'=>Q (.bl b) H'):=
 tM.map (R:=λ_ b c=>b=c) V.bl q λG v x e=>by rw[e];exact .bl x
theorem DT{op:CmpOp}{p:D->D->j8}{f g:M D}(o:OpB X (UA op) p)(ha:PE X a (tD X.K B G0 f))(hb:PE X b (tD X.K B G0 g))(hm:behindInMarks op b=jS) :
  PE X (.Compare a [op] [b] pos) (tD X.K B G0 (U3 UE (UY p f g))):=by
 obtain⟨r,h,i⟩:=o;refine Km (NW h ha hb hm) λσ H Q q=>?_;refine tM.two (tBo.val q) λv u H2 G Z x y k rx ry a=>?_
 obtain⟨d,e,a⟩:=a.opt;exact i v u G H2 x y d _ k.gh rx ry e (a.now k jP)
noncomputable def Xr(p q:D->D->j8)(f g h:M D):M Bool:=U5 f λx=>U5 g λy=>U5 (U2 (p x y)) λt=>if t=jR then U5 h λz=>U2 (q y z)else UV jS
theorem Af{op op':CmpOp}{p q:D->D->j8}{f g h:M D}(o:OpB X (UA op) p)(o':OpB X (UA op') q)(ha:PE X a (tD X.K B G0 f))(hb:PE X b (tD X.K B G0 g))(hc:PE X c (tD X.K B G0 h))
  (hm:lastMarks [op,op'] [b,c]=jS:=by with_unfolding_all rfl):PT X (.Compare a [op,op'] [b,c] pos) (tBo X.K B G0 (Xr p q f g h)):=by
 obtain⟨r,h1,i⟩:=o;obtain⟨r',h2,i'⟩:=o';refine Y1 (C0 h1 h2 ha hb hc hm) λσ H Q w=>?_;refine tM.two w λv u H2 G Z x y k rx ry a=>?_
 cases z:p x y with
 |none=>rw[z]at a;exact a.elim
 |some t=>
  rw[z]at a;refine i v u G H2 x y t _ k.gh rx ry z ⟨t,rfl,?_⟩;cases t with
  |false=>rw[QE JQ];exact⟨jS,rfl,aft.now a k jP⟩
  |true=>
   rw[Qs jP];refine⟨G,Z,k,?_⟩;have a4:aft X.K B G0 (λ_ (b:Bool) c=>b=c) ((U5 h λz=>U2 (q y z)) Z) G σ Q:=a;unfold U5 at a4;cases z2:h Z with
   |bad=>rw[z2]at a4;exact a4.elim
   |ok d Z1=>rw[z2]at a4;intro w G5 H5 k5 s5 r5;obtain⟨t2,e2,a6⟩:=a4.opt;exact i' u w G5 H5 y d t2 _ k5.gh (ry.mono s5) r5 e2 ⟨t2,rfl,a6 t2 G5 H5 k5 s5 jP⟩
theorem Ae{op op':CmpOp}{p q:D->D->j8}{f g h:M D}(o:OpB X (UA op) p)(o':OpB X (UA op') q)(ha:PE X a (tD X.K B G0 f))(hb:PE X b (tD X.K B G0 g))(hc:PE X c (tD X.K B G0 h))
  (hm:lastMarks [op,op'] [b,c]=jS:=by with_unfolding_all rfl):PE X (.Compare a [op,op'] [b,c] pos) (tD X.K B G0 (U3 UE (Xr p q f g h))):=by
 obtain⟨r,h1,i⟩:=o;obtain⟨r',h2,i'⟩:=o';refine Km (C1 h1 h2 ha hb hc hm) λσ H Q w=>?_;refine tM.two (tBo.val w) λv u H2 G Z x y k rx ry a=>?_
 cases z:p x y with
 |none=>rw[z]at a;exact a.elim
 |some t=>
  rw[z]at a;refine i v u G H2 x y t _ k.gh rx ry z ⟨t,rfl,?_⟩;cases t with
  |false=>rw[QE JQ];exact aft.now (v:=jS) a k jP
  |true=>
   rw[Qs jP];refine⟨G,Z,k,?_⟩;have a4:aft X.K B G0 (λ_ (b:Bool) c=>b=c) ((U5 h λz=>U2 (q y z)) Z) G σ (λb H'=>Q (.bl b) H'):=a;unfold U5 at a4;cases z2:h Z with
   |bad=>rw[z2]at a4;exact a4.elim
   |ok d Z1=>rw[z2]at a4;intro w G5 H5 k5 s5 r5;obtain⟨t2,e2,a6⟩:=a4.opt;exact i' u w G5 H5 y d t2 _ k5.gh (ry.mono s5) r5 e2 (a6 t2 G5 H5 k5 s5 jP)
noncomputable def oIB(g:Int->Int->Bool):D->D->j8
 |.int i,.int j=>O (g i j)
 |_,_=>jQ
theorem OpB.int{f:Ur->Ur->Sem Ur}{g:Int->Int->Bool}(h:OpR X f (rI0 λi j=>.bl (g i j))):OpB X f (oIB g):=by
 refine⟨_,h,λv u G H x y d Q s rx ry e k=>?_⟩;unfold oIB at e;split at e
 .cases e
  exact⟨_,_,rx.int_inv,ry.int_inv,k⟩
 .cases e
theorem B_lt:OpB X (UA .Lt) (oIB λi j=>decide (i<j)):=.int Fo
theorem B_le:OpB X (UA .LtE) (oIB λi j=>decide (i<=j)):=.int Fn
theorem B_gt:OpB X (UA .Gt) (oIB λi j=>decide (j<i)):=.int Fl
theorem B_ge:OpB X (UA .GtE) (oIB λi j=>decide (j<=i)):=.int Fk
mutual
theorem YW{pins:List (Uu×Obj)}{s:Us}{σ:St}{G H:Hp}(I:Inv X pins σ H s)(sg:Same G H):∀{v:V}{d:D}{u:Ur},Rep X.K G v d->RelV v u->d.canLay0=jR->∃as,Reads s.heap u d as
 |_,_,_,.non,r,_=>by cases r;exact⟨_,.none⟩
 |_,_,_,.bl b,r,_=>by cases r;exact⟨_,.bool b⟩
 |_,_,_,.int i,r,_=>by obtain⟨t,rfl⟩:=r;exact⟨_,.int i t⟩
 |_,_,_,.str x,r,_=>by obtain⟨t,rfl⟩:=r;exact⟨_,.str x t⟩
 |_,_,_,.lst h q,r,c=>by cases r;obtain⟨its,rv,⟨o,n,e,hc,_,hd⟩,hz⟩:=I.list (sg.seq h);obtain⟨as,ra⟩:=readsAll_of I sg q rv (show UH _=jR by simpa[PyData.canLay0]using c);exact⟨_,.list e hc hd (by simpa using ra)⟩
 |_,_,_,.tup h q,r,c=>by cases r;obtain⟨its,rv,p,hz⟩:=I.tuple (ZR sg h);obtain⟨o,e,hc,n,hd⟩:=p;obtain⟨as,ra⟩:=readsAll_of I sg q rv (show UH _=jR by simpa[PyData.canLay0]using c);exact⟨_,.tuple e hc hd (by simpa using ra)⟩
 |_,_,_,.dic h,r,c=>by simp[PyData.canLay0]at c
 |_,_,_,.exc _ _ _ _,r,c=>by simp[PyData.canLay0]at c
 |_,_,_,.dct _ _ _ _ _,r,c=>by simp[PyData.canLay0]at c
 |_,_,_,.dtt _ _ _ _,r,c=>by simp[PyData.canLay0]at c
theorem readsAll_of{pins:List (Uu×Obj)}{s:Us}{σ:St}{G H:Hp}(I:Inv X pins σ H s)(sg:Same G H):∀{vs:List V}{ds:jT}{us:jV},Reps X.K G vs ds->Vals vs us->UH ds=jR->∃as,ReadsAll s.heap us ds as
 |_,_,_,.nil,r,_=>by cases r;exact⟨_,.nil⟩
 |_,_,_,.cons h t,r,c=>by
  cases r with
  |cons r1 r2=>have c':=c;rw[UH,Qr]at c';obtain⟨as,ra⟩:=YW I sg h r1 c'.1;obtain⟨bs,rb⟩:=readsAll_of I sg t r2 c'.2;exact⟨_,.cons ra rb⟩
end
noncomputable def oEq(x y:D):j8:=if x.canLay0=jR/\y.canLay0=jR/\x.depth<=60 then O (UJ x y)else jQ
noncomputable def oNe(x y:D):j8:=if x.canLay0=jR/\y.canLay0=jR/\x.depth<=60 then O (!UJ x y)else jQ
theorem B_eq(hu:X.A.units+64<cLine):OpB X (UA .Eq) oEq:=by
 refine⟨λv u H Q=>∃G x y d,Same G H/\Rep X.K G v x/\Rep X.K G u y/\oEq x y=O d/\Q (.bl d) H,?_,λv u G H x y d Q s rx ry e k=>⟨G,x,y,d,s,rx,ry,e,k⟩⟩;intro pins s σ H x y v u Q I rx ry ⟨G,dx,dy,d,sg,px,py,e,q⟩;unfold oEq at e;split at e
 .rename_i c
  cases e;obtain⟨as,ra⟩:=YW I sg px rx c.1;obtain⟨bs,rb⟩:=YW I sg py ry c.2.1;exact SeqAt.compareEq_reads ra rb c.1 c.2.1 (by have:=c.2.2;lia) ⟨.bl _,H,I,rfl,q⟩
 .cases e
theorem B_ne(hu:X.A.units+64<cLine):OpB X (UA .NotEq) oNe:=by
 refine⟨λv u H Q=>∃G x y d,Same G H/\Rep X.K G v x/\Rep X.K G u y/\oNe x y=O d/\Q (.bl d) H,?_,λv u G H x y d Q s rx ry e k=>⟨G,x,y,d,s,rx,ry,e,k⟩⟩;intro pins s σ H x y v u Q I rx ry ⟨G,dx,dy,d,sg,px,py,e,q⟩;unfold oNe at e;split at e
 .rename_i c
  cases e;obtain⟨as,ra⟩:=YW I sg px rx c.1;obtain⟨bs,rb⟩:=YW I sg py ry c.2.1;exact SeqAt.compareNe_reads ra rb c.1 c.2.1 (by have:=c.2.2;lia) ⟨.bl _,H,I,rfl,q⟩
 .cases e
end
section
variable{X:Cx}{B G0:Hp}{e a b c:Uw}{pos:Pos}{es rest:jX}
theorem tM.nx{K:Frag}{α β γ δ:Type}{R:Hp->γ->α->Prop}{S:Hp->δ->β->Prop}{σ:St}{G H:Hp}{Z:UR}{f:M α}{g:α->M β}{Q:δ->Hp->Prop}{P:γ->Hp->Prop}
  (k:EOk K B G0 G H σ Z) (a:aft K B G0 S (U5 f g Z) G σ Q) (i:∀v H' G' Z' x,EOk K B G0 G' H' σ Z'->Same G G'->R G' v x->aft K B G0 S (g x Z') G' σ Q->P v H'):tM K B G0 R f σ H P:=by
 refine⟨G,Z,k,?_⟩;unfold U5 at a;cases q:f Z with
 |bad=>rw[q]at a;exact a.elim
 |ok d Z1=>rw[q]at a;exact λv G' H' e s r=>i v H' G' Z1 d e s r (aft.mono s a)
noncomputable def Zq(f g:M Bool):M Bool:=U5 f λt=>if t=jR then g else UV jS
noncomputable def mOr(f g:M Bool):M Bool:=U5 f λt=>if t=jR then UV jR else g
noncomputable def Kf(f:M Bool):M Bool:=U3 (λt=>!t) f
theorem DS{K:Frag}{f g:M Bool}{σ:St}{H:Hp}{Q:Bool->Hp->Prop}(q:tBo K B G0 (Zq f g) σ H Q):tAnd (tBo K B G0 f) (tBo K B G0 g) σ H Q:=
 tM.one (R:=λ_ b c=>b=c) q λv H2 G Z x k r a=>by
  have r:v=x:=r;subst r;cases v with
  |true=>exact⟨G,Z,k,a⟩
  |false=>exact aft.now (v:=jS) a k jP
theorem F9{K:Frag}{f g:M Bool}{σ:St}{H:Hp}{Q:Bool->Hp->Prop}(q:tBo K B G0 (mOr f g) σ H Q):tOr (tBo K B G0 f) (tBo K B G0 g) σ H Q:=
 tM.one (R:=λ_ b c=>b=c) q λv H2 G Z x k r a=>by
  have r:v=x:=r;subst r;cases v with
  |false=>exact⟨G,Z,k,a⟩
  |true=>exact aft.now (v:=jR) a k jP
theorem pwof{t t':TT}(h:PW X e t)(i:∀σ H Q,t' σ H Q->t σ H Q):PW X e t':=λwh pins s σ H Q I q=>h wh pins s σ H Q I (i σ H Q q)
theorem Bs{f:M Bool}(ha:PT X a (tBo X.K B G0 f)):PW X (.BoolOp .And [a] pos) (tBo X.K B G0 f):=Dy ha
theorem DR{f:M Bool}(ha:PT X a (tBo X.K B G0 f)):PW X (.BoolOp .Or [a] pos) (tBo X.K B G0 f):=Db ha
theorem DQ{f g:M Bool}(ha:PT X a (tBo X.K B G0 f))(hb:PW X (.BoolOp .And (b::rest) pos) (tBo X.K B G0 g)):PW X (.BoolOp .And (a::b::rest) pos) (tBo X.K B G0 (Zq f g)):=pwof (Da ha hb) λ_ _ _ q=>DS q
theorem F8{f g:M Bool}(ha:PT X a (tBo X.K B G0 f))(hb:PW X (.BoolOp .Or (b::rest) pos) (tBo X.K B G0 g)):PW X (.BoolOp .Or (a::b::rest) pos) (tBo X.K B G0 (mOr f g)):=pwof (GR ha hb) λ_ _ _ q=>F9 q
theorem DP{f:M Bool}(ha:PT X a (tBo X.K B G0 f)):PT X (.UnaryOp .Not a pos) (tBo X.K B G0 (Kf f)):=Y1 (E9 ha) λσ H Q q=>tM.map (R:=λ_ b c=>b=c) (λt=>!t) q λ_ v x e=>by rw[e]
noncomputable def K0(f:M D):M Bool:=U5 f λx=>match x with | .bool t=>UV t|_=>λ_=>.bad
theorem DO{f:M D}(h:PE X e (tD X.K B G0 f))(he:∀whole,isTrue e X.env whole=(do let v ←whole;standAt e.pos;holding [v] (truthy v)):=by intro _;rfl):PT X e (tBo X.K B G0 (K0 f)):=
 Y1 (Dc h he) λσ H Q q=>tM.one (R:=Rep X.K) q λv H2 G Z x k r a=>by
  cases x with
  |bool t=>exact⟨t,r.bl_inv,aft.now (v:=t) a k jP⟩
  |_=>exact a.elim
noncomputable def XQ(f g:M D):M D:=U5 f λx=>match x with | .bool jR=>g | .bool jS=>UV (.bool jS)|_=>λ_=>.bad
noncomputable def Xy(f g:M D):M D:=U5 f λx=>match x with | .bool jR=>UV (.bool jR) | .bool jS=>g|_=>λ_=>.bad
noncomputable def Ta(f:M D):M D:=U5 f λx=>match x with | .bool t=>UV (.bool (!t))|_=>λ_=>.bad
theorem DN{f g:M D}(ha:PE X a (tD X.K B G0 f))(hb:PE X (.BoolOp .And (b::rest) pos) (tD X.K B G0 g)):PE X (.BoolOp .And (a::b::rest) pos) (tD X.K B G0 (XQ f g)):=
 Km (E7 ha hb) λσ H Q q=>tM.one (R:=Rep X.K) q λv H2 G Z x k r a=>by
  cases x with
  |bool t=>
   refine⟨t,r.bl_inv,?_⟩;cases t with
   |true=>exact⟨G,Z,k,a⟩
   |false=>exact aft.now a k (.bl jS)
  |_=>exact a.elim
theorem F7{f g:M D}(ha:PE X a (tD X.K B G0 f))(hb:PE X (.BoolOp .Or (b::rest) pos) (tD X.K B G0 g)):PE X (.BoolOp .Or (a::b::rest) pos) (tD X.K B G0 (Xy f g)):=
 Km (GO ha hb) λσ H Q q=>tM.one (R:=Rep X.K) q λv H2 G Z x k r a=>by
  cases x with
  |bool t=>
   refine⟨t,r.bl_inv,?_⟩;cases t with
   |false=>exact⟨G,Z,k,a⟩
   |true=>exact aft.now a k (.bl jR)
  |_=>exact a.elim
theorem DM{op}{f:M D}(h:PE X a (tD X.K B G0 f)):PE X (.BoolOp op [a] pos) (tD X.K B G0 f):=E8 h
theorem DK{f:M D}(ha:PE X a (tD X.K B G0 f)):PE X (.UnaryOp .Not a pos) (tD X.K B G0 (Ta f)):=
 Km (E6 ha) λσ H Q q=>tM.one (R:=Rep X.K) q λv H2 G Z x k r a=>by
  cases x with
  |bool t=>exact⟨t,r.bl_inv,aft.now a k (.bl _)⟩
  |_=>exact a.elim
noncomputable def US:M jT:=UV []
noncomputable def UU(f:M D)(g:M jT):M jT:=U5 f λx=>U5 g λxs=>UV (x::xs)
theorem DJ:PA X [] (tDs X.K B G0 US):=paof YN λσ H Q ⟨G,Z,k,a⟩=>aft.now a k .nil
theorem tM.twoA{K:Frag}{σ:St}{H:Hp}{f:M D}{g:M jT}{β δ:Type}{S:Hp->δ->β->Prop}{k:D->jT->M β}{Q:δ->Hp->Prop}{P:V->List V->Hp->Prop}
  (h:tM K B G0 S (U5 f λx=>U5 g λy=>k x y) σ H Q)
  (i:∀v u H2 G Z x y,EOk K B G0 G H2 σ Z->Rep K G v x->Reps K G u y->aft K B G0 S (k x y Z) G σ Q->P v u H2) :
  tD K B G0 f σ H (λv H1=>tDs K B G0 g σ H1 λu H2=>P v u H2):=by
 obtain⟨G,Z,e,a⟩:=tM.bind2 (R:=Rep K) (R':=Reps K) NN h;refine⟨G,Z,e,?_⟩;cases q:f Z with
 |bad=>rw[q]at a;exact a.elim
 |ok d Z1=>
  rw[q]at a;intro v G' H' e' s r;obtain⟨x,G2,Z2,e2,a2⟩:=a v G' H' e' s r;refine⟨G2,Z2,e2,?_⟩;cases q2:g Z2 with
  |bad=>rw[q2]at a2;exact a2.elim
  |ok d3 Z3=>rw[q2]at a2;intro u G3 H3 e3 s3 r3;obtain⟨G4,Z4,y,e4,r4,r5,a5⟩:=a2 u G3 H3 e3 s3 r3;exact i v u H3 G4 Z4 x y e4 r4 r5 a5
theorem Mf{f:M D}{g:M jT}(ha:PE X e (tD X.K B G0 f))(hr:PA X es (tDs X.K B G0 g))(hs:Uz (e::es) X.env=(jS,eval e X.env)::Uz es X.env:=by rfl) :
  PA X (e::es) (tDs X.K B G0 (UU f g)):=paof (ZT ha hr hs) λσ H Q q=>tM.twoA q λv u H2 G Z x y k r1 r2 a=>aft.now a k (.cons r1 r2)
noncomputable def KI(f:M jT):M D:=U5 f λxs=>if xs.length<=1000000 then UV (.tuple xs)else λ_=>.bad
noncomputable def U7(f:M jT):M D:=U5 f λxs=>if xs.length<=1000000 then UV (.list xs)else λ_=>.bad
theorem NL{x1}{f:M jT}(h:PA X es (tDs X.K B G0 f)):PE X (.Tuple es x1 pos) (tD X.K B G0 (KI f)):=
 Km (OT h) λσ H Q q=>tM.one (R:=Reps X.K) q λv H2 G Z x k r a=>by
  split at a
  .rename_i c
   refine⟨by rw[r.length];exact Qz c lim,λp hp=>?_⟩;exact aft.done a k (Ext.new k.gh hp) (.tup (SqT.of KO) (r.mono (Zk (k.gh.free hp))))
  .exact a.elim
theorem NK{f:M jT}(h:PA X es (tDs X.K B G0 f)):PE X (.List es pos) (tD X.K B G0 (U7 f)):=
 Km (OS h) λσ H Q q=>tM.one (R:=Reps X.K) q λv H2 G Z x k r a=>by
  split at a
  .rename_i c
   refine⟨by rw[r.length];exact Qz c lim,λp hp=>?_⟩;exact aft.done a k (Ext.new k.gh hp) (.lst (SqL.of KO) (r.mono (Zk (k.gh.free hp))))
  .exact a.elim
noncomputable def oIx:D->D->jY
 |.list xs,.int i=>atI xs i
 |.tuple xs,.int i=>atI xs i
 |.str z,.int i=>if z.length<=1000000 then(atI z.cps.toList i).map λc=>.str ⟨#[c]⟩else jQ
 |_,_=>jQ
theorem Reps.atI{K:Frag}{G:Hp}{vs:List V}{ds:jT}{i:Int}{d:D}(r:Reps K G vs ds)(h:L2.atI ds i=O d):∃v,L2.atI vs i=O v/\Rep K G v d:=by
 unfold L2.atI at h⊢;rw[r.length];cases z:ixN ds.length i with
 |none=>rw[z]at h;cases h
 |some j=>rw[z]at h;exact r.get (i:=j) h
theorem OK{K:Frag}{v u:V}{G H:Hp}{x y d:D}{Q:VK}(s:Same G H)(rx:Rep K G v x)(ry:Rep K G u y)(e:oIx x y=O d)(k:∀w,Rep K G w d->Q w H):rIx K v u H Q:=by
 unfold oIx at e;split at e
 .obtain⟨l,vs,rfl,h1,r1⟩:=rx.lst_inv
  obtain⟨w,e1,r2⟩:=r1.atI e;exact .inl ⟨l,vs,_,w,rfl,ry.int_inv,s.seq h1,e1,k w r2⟩
 .obtain⟨l,vs,rfl,h1,r1⟩:=rx.tup_inv
  obtain⟨w,e1,r2⟩:=r1.atI e;exact .inr (.inl ⟨l,vs,_,w,rfl,ry.int_inv,ZR s h1,e1,k w r2⟩)
 .split at e
  .rename_i z i hz
   cases q:L2.atI z.cps.toList i with
   |none=>rw[q]at e;cases e
   |some ch=>rw[q]at e;cases e;exact .inr (.inr ⟨z,i,ch,rx.str_inv,ry.int_inv,Qz hz lim,q,k _ (.str _)⟩)
  .cases e
 .cases e
theorem F6{f g:M D}(ha:PE X a (tD X.K B G0 f))(hb:PE X b (tD X.K B G0 g))(hs:RY b):PE X (.Subscript a b pos) (tD X.K B G0 (UY oIx f g)):=
 Km (Ov OQ ha hb hs) λσ H Q q=>tM.two q λv u H2 G Z x y k rx ry a=>by obtain⟨d,e,a⟩:=a.opt;exact OK k.gh rx ry e λw r=>a.now k r
noncomputable def U6(i:Nat)(g:M D):M D:=λZ=>match Z[i]? with
 |some (O (.pub d))=>(U5 g λy=>U2 (oIx d y)) Z
 |some (O (.own _))=>(U5 g λy=>λZ'=>match Z'[i]? with|some (O (.own ds))=>U2 (oIx (.list ds) y) Z'|_=>.bad) Z
 |_=>.bad
theorem DI{i:Nat}{g:M D}(ha:PE X a (KL i))(hb:PE X b (tD X.K B G0 g))(hs:RY b):PE X (.Subscript a b pos) (tD X.K B G0 (U6 i g)):=
 Km (Ov OQ ha hb hs) λσ H Q ⟨G,Z,k,a⟩=>by
  unfold U6 at a;cases q:Z[i]? with
  |none=>rw[q]at a;exact a.elim
  |some o=>
   cases o with
   |none=>rw[q]at a;exact a.elim
   |some sl=>
    cases sl with
    |deep _ _=>rw[q]at a;exact a.elim
    |pub d=>
     rw[q]at a;obtain⟨v,h1,h2⟩:=k.pub i d q;refine⟨v,h1,G,Z,k,?_⟩;dsimp only[U5]at a;cases z:g Z with
     |bad=>rw[z]at a;exact a.elim
     |ok y Z1=>rw[z]at a;intro u G' H' k' s' r';obtain⟨d',e',a'⟩:=aft.opt a;exact OK k'.gh (h2.mono s') r' e' λw r=>a' w G' H' k' s' r
    |own ds=>
     rw[q]at a;obtain⟨ad,vs,h1,h2,h3,h4,h5⟩:=k.own i ds q;refine⟨.ref ad,h1,G,Z,k,?_⟩;dsimp only[U5]at a;cases z:g Z with
     |bad=>rw[z]at a;exact a.elim
     |ok y Z1=>
      rw[z]at a;dsimp only at a;intro u G' H' k' s' r';cases z2:Z1[i]? with
      |none=>rw[z2]at a;exact a.elim
      |some o2=>
       cases o2 with
       |none=>rw[z2]at a;exact a.elim
       |some sl2=>
        cases sl2 with
        |deep _ _=>rw[z2]at a;exact a.elim
        |pub d2=>rw[z2]at a;exact a.elim
        |own es2=>
         rw[z2]at a;obtain⟨d',e',a'⟩:=aft.opt a;obtain⟨ad',vs',g1,g2,g3,g4,g5⟩:=k'.own i es2 z2;rw[h1]at g1;cases g1;unfold oIx at e';cases y with
         |int j=>obtain⟨w,e1,r2⟩:=g5.atI e';exact .inl ⟨ad,vs',j,w,rfl,r'.int_inv,SqL.of g4,e1,a' w G' H' k' s' r2⟩
         |_=>cases e'
noncomputable def cutD(xs:jT)(lo hi:j6):jT:=(xs.drop (HT.sIx xs.length 0 lo)).take (HT.sIx xs.length xs.length hi-HT.sIx xs.length 0 lo)
theorem Reps.cut{K:Frag}{G:Hp}{vs:List V}{ds:jT}(r:Reps K G vs ds)(lo hi:j6):Reps K G (Y4 vs lo hi) (cutD ds lo hi):=by unfold Y4 cutD;rw[r.length];exact(r.drop _).take _
noncomputable def ZJ:D->Option j6
 |.int i=>O (O i)
 |_=>jQ
theorem Br:PO X jQ (tOi X.K B G0 (UV jQ)):=poof Du λσ H Q ⟨G,Z,k,a⟩=>aft.now a k jP
theorem Bq{f:M D}(h:PE X e (tD X.K B G0 f)):PO X (O e) (tOi X.K B G0 (U5 f λx=>U2 (ZJ x))):=poof (Dt h) λσ H Q q=>tM.one (R:=Rep X.K) q λv H2 G Z x k r a=>by
 cases x with
 |int i=>exact⟨i,r.int_inv,aft.now (v:=O i) a k jP⟩
 |_=>exact a.elim
end
noncomputable def YF:List (D×D)->Bool
 |(.none,_)::_=>jR
 |_=>jS
noncomputable def YZ:D->String
 |.none=> "NoneType"
 |.bool _=> "bool"
 |.int _=> "int"
 |.str _=> "str"
 |.list _=> "list"
 |.tuple _=> "tuple"
 |.dict kvs=>if YF kvs=jR then "" else "dict"
noncomputable def Kh(d:D)(c:String):Bool:=YZ d==c || (YZ d == "bool" && c == "int")
noncomputable def W3:D->Bool
 |.dict kvs=>YF kvs
 |_=>jS
theorem nty{kvs:List (D×D)}{c:String}(h:(("dict" == c) || ("" == c))=jS):Kh (.dict kvs) c=jS:=by
 obtain⟨h1,h2⟩:=Bool.or_eq_false_iff.mp h
 show((if YF kvs=jR then "" else "dict")==c || ((if YF kvs=jR then "" else "dict") == "bool" && c == "int"))=jS
 cases YF kvs with
 |true=>rw[Qs jP,h2];rfl
 |false=>rw[QE (by decide),h1];rfl
theorem OJ{ks:ka}{ds:jT}:YZ (.dict ((ks.map kD).zip ds)) = "dict" /\ W3 (.dict ((ks.map kD).zip ds))=jS:=by
 cases ks with
 |nil=>exact⟨rfl,rfl⟩
 |cons k ks=>
  cases ds with
  |nil=>exact⟨rfl,rfl⟩
  |cons d ds=>cases k<;>exact⟨rfl,rfl⟩
theorem DH(K:Frag)(d:D)(c:String)(nx:W3 d=jS)(hc:c = "int" ∨ c = "bool" ∨ c = "str" ∨ c = "list" ∨ c = "tuple" ∨ c = "dict"):PySem.W.kitOne K (.type (YZ d)) (.type c)=O (Kh d c):=by
 cases d with
 |dict kvs=>
  have e:YZ (.dict kvs) = "dict" :=by
   have nx:YF kvs=jS:=nx
   show(if YF kvs=jR then "" else "dict")=_
   rw[nx];rfl
  unfold Kh;rw[e];rcases hc with rfl|rfl|rfl|rfl|rfl|rfl<;>rfl
 |_=>rcases hc with rfl|rfl|rfl|rfl|rfl|rfl<;>rfl
section
variable{X:Cx}{B G0:Hp}{e a b c:Uw}{pos:Pos}{es rest:jX}
def Yl(X:Cx)(f:Ur)(p:jT->jY):Prop:=
 ∃r,ZW X f r/\∀vs G H ds d Q,Same G H->Reps X.K G vs ds->p ds=O d->(∀w G' H',Ext G H G' H'->Rep X.K G' w d->Q w H')->r vs H Q
noncomputable def Za(p:jT->jY)(f:M jT):M D:=U5 f λxs=>U2 (p xs)
theorem Vh{x:Str}{p2:Pos}{id:String}{p:jT->jY}{f:M jT}(hc:Yl X (.builtin id) p)(hg:Gl X x)(hm:X.mg x=jQ)(hv:bootBuiltins x=O (.builtin id))(ha:PA X (e::es) (tDs X.K B G0 f))(hn:x ≠ "__name__" :=by decide)(hdb:(x==("__debug__" : Str))=jS:=by decide)
  (he:Uz (e::es) X.env=(jS,eval e X.env)::Uz es X.env:=by rfl) (hpl:(backTo pos (Uz es X.env)).any (·.1)=jS:=by rfl):PE X (.Call (.Name x p2) (e::es) [] pos) (tD X.K B G0 (Za p f)):=by
 obtain⟨r,h,i⟩:=hc;refine Km (Vk h hg hm hv ha hn hdb he hpl) λσ H Q q=>tM.one (R:=Reps X.K) q λv H2 G Z x k rr a=>?_
 obtain⟨d,e,a⟩:=a.opt;exact i v G H2 x d Q k.gh rr e λw G' H' ex rw=>a.done k ex rw
theorem M7{x:Str}{p2:Pos}{T:String}{p:jT->jY}{f:M jT}(hc:Yl X (.type T) p)(hg:Gl X x)(hm:X.mg x=jQ)(hv:bootBuiltins x=O (.type T))(ha:PA X (e::es) (tDs X.K B G0 f))(hn:x ≠ "__name__" :=by decide)(hdb:(x==("__debug__" : Str))=jS:=by decide)
  (he:Uz (e::es) X.env=(jS,eval e X.env)::Uz es X.env:=by rfl) (hpl:(backTo pos (Uz es X.env)).any (·.1)=jS:=by rfl):PE X (.Call (.Name x p2) (e::es) [] pos) (tD X.K B G0 (Za p f)):=by
 obtain⟨r,h,i⟩:=hc;refine Km (Tq h hg hm hv ha hn hdb he hpl) λσ H Q q=>tM.one (R:=Reps X.K) q λv H2 G Z x k rr a=>?_
 obtain⟨d,e,a⟩:=a.opt;exact i v G H2 x d Q k.gh rr e λw G' H' ex rw=>a.done k ex rw
theorem Reps.nil_inv{K:Frag}{G:Hp}{vs:List V}(r:Reps K G vs []):vs=[]:=by cases r;rfl
theorem Reps.one_inv{K:Frag}{G:Hp}{vs:List V}{d:D}(r:Reps K G vs [d]):∃v,vs=[v]/\Rep K G v d:=by
 cases r with
 |cons h t=>cases t;exact⟨_,rfl,h⟩
theorem Reps.two_inv{K:Frag}{G:Hp}{vs:List V}{d d':D}(r:Reps K G vs [d,d']):∃v v',vs=[v,v']/\Rep K G v d/\Rep K G v' d':=by
 cases r with
 |cons h t=>obtain⟨v',rfl,r'⟩:=t.one_inv;exact⟨_,v',rfl,h,r'⟩
noncomputable def Kj:jT->jY
 |[.list xs]=>O (.int xs.length)
 |[.tuple xs]=>O (.int xs.length)
 |[.str z]=>if z.length<=1000000 then O (.int z.length)else jQ
 |_=>jQ
theorem Oz:Yl X (.builtin "len") Kj:=by
 refine⟨_,Mh,λvs G H ds d Q s r e k=>?_⟩;unfold Kj at e;split at e
 .cases e
  obtain⟨v,rfl,q⟩:=r.one_inv;obtain⟨l,ws,rfl,h1,r1⟩:=q.lst_inv;exact⟨.ref l,ws.length,rfl,.inl ⟨ws,s.seq h1,rfl⟩,by rw[r1.length];exact k _ G H (.refl s) (.int _)⟩
 .cases e
  obtain⟨v,rfl,q⟩:=r.one_inv;obtain⟨l,ws,rfl,h1,r1⟩:=q.tup_inv;exact⟨.ref l,ws.length,rfl,.inr ⟨ws,ZR s h1,rfl⟩,by rw[r1.length];exact k _ G H (.refl s) (.int _)⟩
 .split at e
  .rename_i z hz
   cases e;obtain⟨v,rfl,q⟩:=r.one_inv;exact⟨.str z,z.length,by rw[q.str_inv],⟨Qz hz lim,rfl⟩,k _ G H (.refl s) (.int _)⟩
  .cases e
 .cases e
noncomputable def TD:jT->jY
 |[.int i,.int j]=>O (.int (if j > i then j else i))
 |_=>jQ
theorem F5(hc:X.calm=jR):Yl X (.builtin "max") TD:=by
 refine⟨_,A9 hc,λvs G H ds d Q s r e k=>?_⟩;unfold TD at e;split at e
 .cases e
  obtain⟨v,v',rfl,r1,r2⟩:=r.two_inv;exact⟨_,_,by rw[r1.int_inv,r2.int_inv],k _ G H (.refl s) (.int _)⟩
 .cases e
noncomputable def K8(i:Nat):M D:=λZ=>match Z[i]? with
 |some (O (.pub d))=>U2 (Kj [d]) Z
 |some (O (.own ds))=>.ok (.int ds.length) Z
 |_=>.bad
theorem Bp{i:Nat}{p2:Pos}(hg:Gl X "len")(hm:X.mg "len" = jQ)(ha:PE X e (KL i))(he:Uz [e] X.env=[(jS,eval e X.env)]:=by rfl):PE X (.Call (.Name "len" p2) [e] [] pos) (tD X.K B G0 (K8 i)):=by
 refine Km (Vk Mh hg hm PySem.boot_len (ZT ha YN (by rw[he];rfl)) (by decide) (by decide) (by rw[he];rfl) jP) λσ H Q ⟨G,Z,k,a⟩=>?_
 unfold K8 at a;cases q:Z[i]? with
 |none=>rw[q]at a;exact a.elim
 |some o=>
  cases o with
  |none=>rw[q]at a;exact a.elim
  |some sl=>
   cases sl with
   |deep _ _=>rw[q]at a;exact a.elim
   |pub d=>
    rw[q]at a;obtain⟨v,h1,h2⟩:=k.pub i d q;refine⟨v,h1,?_⟩;obtain⟨d',e',a'⟩:=aft.opt a;obtain⟨r,hr,ir⟩:=@Oz X;show ∃x n,[v]=[x]/\LenV X.K x H n/\Q (.int n) H;unfold Kj at e';split at e'
    .rename_i xs he'
     injection he' with vh kM;subst vh;cases e'
     obtain⟨l,ws,rfl,g1,r1⟩:=h2.lst_inv;exact⟨.ref l,ws.length,rfl,.inl ⟨ws,k.gh.seq g1,rfl⟩,by rw[r1.length];exact a'.now k (.int _)⟩
    .rename_i xs he'
     injection he' with vh kM;subst vh;cases e'
     obtain⟨l,ws,rfl,g1,r1⟩:=h2.tup_inv;exact⟨.ref l,ws.length,rfl,.inr ⟨ws,ZR k.gh g1,rfl⟩,by rw[r1.length];exact a'.now k (.int _)⟩
    .rename_i z he'
     injection he' with vh kM;subst vh
     split at e'
     .rename_i hz
      cases e';exact⟨.str z,z.length,by rw[h2.str_inv],⟨Qz hz lim,rfl⟩,a'.now k (.int _)⟩
     .cases e'
    .cases e'
   |own ds=>rw[q]at a;obtain⟨ad,vs,h1,g2,g3,h4,h5⟩:=k.own i ds q;exact⟨.ref ad,h1,.ref ad,vs.length,rfl,.inl ⟨vs,SqL.of h4,rfl⟩,by rw[h5.length];exact aft.now a k (.int _)⟩
theorem DG{pins:List (Uu×Obj)}{s:Us}{σ:St}{G H:Hp}{v:V}{u:Ur}{d:D}{cv:Ur}{t:Bool}{A:Around}{E:Ur->Us->Prop}{Q:Ur->Us->Prop}(I:Inv X pins σ H s)(sg:Same G H)(r:Rep X.K G v d)(rv:RelV v u)(nx:W3 d=jS)
  (ek:PySem.W.kitOne X.K (.type (YZ d)) cv=O t) (h:∀tk,Q (.bool t) {s with toks:=tk}):Uy (model X.prog X.w) A (call (.builtin "isinstance") [u,cv]) Q E s:=by
 cases r with
 |non=>cases rv;exact JE PySem.W.kitx_none I.kIn True.intro ek (λz=>nomatch z) h
 |bl y=>cases rv;exact JE PySem.W.kitx_bool I.kIn True.intro ek (λz=>nomatch z) h
 |int i=>obtain⟨t',rfl⟩:=rv;exact JE PySem.W.kitx_int I.kIn True.intro ek (λz=>nomatch z) h
 |str y=>obtain⟨t',rfl⟩:=rv;exact JE PySem.W.kitx_str I.kIn True.intro ek (λz=>nomatch z) h
 |lst hl _=>cases rv;obtain⟨its,r,⟨o,n,e,hc,_,hd⟩,hz⟩:=I.list (sg.seq hl);exact JE PySem.W.kitx_list I.kIn ⟨o,e,hc⟩ ek (λz=>nomatch z) h
 |tup hl _=>cases rv;obtain⟨its,r,p,hz⟩:=I.tuple (ZR sg hl);obtain⟨o,e,hc,_⟩:=p;exact JE PySem.W.kitx_tuple I.kIn ⟨o,e,hc⟩ ek (λz=>nomatch z) h
 |@dic ad hd=>
  cases rv;obtain⟨_,_,vs,_,p⟩:=(show Zy X.prog X.w H s.heap ad (.dK [])from I.hok ad _ (sg _ _ hd))
  obtain⟨o,es,ep,h1,h2,_⟩:=p;exact JE PySem.W.kitx_dict I.kIn ⟨o,h1,h2.1⟩ ek (λz=>nomatch z) h
 |exc _ _ _ _=>cases nx
 |@dct ad ks vs ds kvs e0 _ _ hd _=>
  cases rv;subst e0;rw[OJ.1]at ek;obtain⟨_,_,vs,_,p⟩:=(show Zy X.prog X.w H s.heap ad (.dK (ks.zip _))from I.hok ad _ (sg _ _ hd))
  obtain⟨o,es,ep,h1,h2,_⟩:=p;exact JE PySem.W.kitx_dict I.kIn ⟨o,h1,h2.1⟩ ek (λz=>nomatch z) h
 |@dtt ad ob ks vs ds kvs e0 _ hd _=>
  cases rv;subst e0;obtain⟨_,_,_,xs,_,o,es,ep,h1,h2,_⟩:=(show Zy X.prog X.w H s.heap ad (.frz ob (.dT (ks.zip _)))from I.hok ad _ (sg _ _ hd))
  exact JE PySem.W.kitx_dict I.kIn ⟨o,h1,h2.1⟩ ek (λz=>nomatch z) h
theorem DF(c:String)(hc:c = "int" ∨ c = "bool" ∨ c = "str" ∨ c = "list" ∨ c = "tuple" ∨ c = "dict"):typeOf (.type c)=pure (.type "type"):=by rcases hc with rfl|rfl|rfl|rfl|rfl|rfl<;>kernel_rfl
theorem Bo:ZW X (.builtin "isinstance") (λxs H Q=>∃v c G d,xs=[v,.ty c]/\Same G H/\Rep X.K G v d/\(c = "int" ∨ c = "bool" ∨ c = "str" ∨ c = "list" ∨ c = "tuple" ∨ c = "dict")/\Q (.bl (Kh d c)) H):=by
 intro pins s σ H xs us Q I r h;obtain⟨v,c,G,d,rfl,sg,rp,hc,q⟩:=h;obtain⟨u,w',rfl,r1,r2⟩:=RJ r;cases (show w'=Value.type c from r2);by_cases nx:W3 d=jR
 .cases rp with
  |@exc a C dd bm nm vs ds ck hx hd rr=>
   refine Px (WO I.ok.mod.kin) pins s σ H [.ref a,.ty c] [u,.type c] Q I r ⟨a,C,dd,bm,jS,.ty c,jS,rfl,⟨nm,ck⟩,sg _ _ hx,.inr ⟨c,rfl,DF c hc,?_⟩,?_⟩
   .rw[ck.ty];rcases hc with rfl|rfl|rfl|rfl|rfl|rfl<;>rfl
   .have e:Kh (.dict [(.none,.tuple [.str nm,.list ds])]) c=jS:=by rcases hc with rfl|rfl|rfl|rfl|rfl|rfl<;>rfl
    rw[e]at q;exact q
  |dct e _ _ _ _=>subst e;rw[OJ.2]at nx;cases nx
  |dtt e _ _ _=>subst e;cases nx
  |_=>cases nx
 .have nx:W3 d=jS:=by simpa using nx
  exact DG I sg rp r1 nx (DH X.K d c nx hc) λtk=>⟨.bl _,H,I.tok tk,rfl,q⟩
theorem Oh:bootBuiltins "isinstance" = O (.builtin "isinstance"):=by decide +kernel
theorem Rm{f:M D}{p2 p3:Pos}{c:String}(hc:c = "int" ∨ c = "bool" ∨ c = "str" ∨ c = "list" ∨ c = "tuple" ∨ c = "dict")(hg:Gl X "isinstance")(hm:X.mg "isinstance" = jQ)(xm:Gl X (UL c))(hm2:X.mg (UL c)=jQ)
  (hv2:bootBuiltins (UL c)=O (.type c)) (ha:PE X e (tD X.K B G0 f)) (hn2:(UL c) ≠ "__name__") (hd2:((UL c)==("__debug__" : Str))=jS)
  (hs:Uz [e,.Name (UL c) p3] X.env=(jS,eval e X.env)::Uz [.Name (UL c) p3] X.env:=by rfl)
  (hs2:Uz [.Name (UL c) p3] X.env=[(jS,eval (.Name (UL c) p3) X.env)]:=by rfl) :
  PE X (.Call (.Name "isinstance" p2) [e,.Name (UL c) p3] [] pos) (tD X.K B G0 (U3 (λd=>.bool (Kh d c)) f)):=by
 refine Km (Vk Bo hg hm Oh (ZT ha (ZT (NY (v:=.ty c) xm hm2 hv2 jP hn2 hd2) YN (by rw[hs2];rfl)) hs) (by decide) (by decide) hs (by rw[hs2];rfl)) λσ H Q q=>?_
 refine tM.one (R:=Rep X.K) q λv H2 G Z x k r a=>?_
 exact⟨v,c,G,x,rfl,k.gh,r,hc,aft.now a k (.bl _)⟩
end
noncomputable def spD(K:Frag)(n:Nat)(F:jT->jY):Sp:=λvs H Q _=>∃G ds d,vs.length=n/\Same G H/\Reps K G vs ds/\F ds=O d/\∀v G' H',Ext G H G' H'->Rep K G' v d->Q v H'
section
variable{K:Frag}{B G0 G H:Hp}{σ:St}{Z:UR}
theorem EOk.exit(k:EOk K B G0 G H σ Z):Ext G0 B G H:=⟨k.bh,k.g0,k.gh,k.np⟩
theorem Yk{α:Type}{l:List α}{i:Nat}{x y:α}(h:(l.set i x)[i]?=O y):y=x:=by
 by_cases hl:i<l.length
 .rw[QL hl]at h;cases h;rfl
 .rw[JS (by rw[Je];lia)]at h;cases h
theorem DpOk.setOther{i:Nat}{x:Option V}{y:Option Sl}(k:DpOk K B G H σ Z)(hy:∀s,y=O s->∃d,s=.pub d):DpOk K B G H (σ.set i x) (Z.set i y):=by
 have nz:∀{m:Nat}{s:Sl},(Z.set i y)[m]?=O (O s)->(∃d,s=.pub d)∨(Z[m]?=O (O s)/\(σ.set i x)[m]?=σ[m]?):=λ{m s} q=>by
  by_cases z:i=m
  .subst z
   exact .inl (hy s (Yk q).symm)
  .rw[Qm z]at q⊢;exact .inr ⟨q,rfl⟩
 refine k.map (λm p d q=>?_) (λm es q=>?_) λm p d v fp q s r w n=>⟨r,w⟩
 .rcases nz q with ⟨_,e⟩|q
  .cases e
  .exact q
 .rcases nz q with ⟨_,e⟩|q
  .cases e
  .exact⟨es,q⟩
theorem EOk.setPub{i:Nat}{v:V}{d:D}(k:EOk K B G0 G H σ Z)(r:Rep K G v d)(hi:i<Z.length):EOk K B G0 G H (σ.set i (O v)) (Z.set i (O (.pub d))) where
 bh:=k.bh
 gh:=k.gh
 g0:=k.g0
 np:=k.np
 len:=by rw[Je,Je];exact k.len
 pub:=λj d' q=>by
  by_cases z:i=j
  .subst z
   have:=Yk q;cases this;exact⟨v,QL (by rw[←k.len];exact hi),r⟩
  .rw[Qm z]at q⊢
   exact k.pub j d' q
 own:=λj ds q=>by
  by_cases z:i=j
  .subst z
   have:=Yk q;cases this
  .rw[Qm z]at q⊢
   exact k.own j ds q
 sep:=λj l c es fs q1 q2 s1 s2=>by
  have z1:i≠j:=λz=>by subst z;have:=Yk q1;cases this
  have z2:i≠l:=λz=>by subst z;have:=Yk q2;cases this
  rw[Qm z1]at q1 s1;rw[Qm z2]at q2 s2;exact k.sep j l c es fs q1 q2 s1 s2
 dp:=k.dp.setOther (λs e=>by cases e;exact⟨_,rfl⟩)
structure NewL(K:Frag)(B G H:Hp)(σ:St)(Z:UR)(a:Uu)(vs:List V)(ds:jT):Prop where
 b:B a=jQ
 g:G a=jQ
 h:H a=O (.lst vs)
 r:Reps K G vs ds
 f:∀(j:Nat) es,Z[j]?=O (O (.own es))->σ[j]?≠O (O (.ref a))
 dp:∀(j:Nat) p d v fp,Z[j]?=O (O (.deep p d))->σ[j]?=O (O v)->RepO K G H p v d fp->a∉fp
theorem EOk.freshD{H':Hp}{a:Uu}(k:EOk K B G0 G H σ Z)(e:Same H H')(ha:H a=jQ){G':Hp}{j:Nat}{p:Pat}{d:D}{v:V}{fp:j4}(q:Z[j]?=O (O (.deep p d)))(s:σ[j]?=O (O v))(r:RepO K G' H' p v d fp):a∉fp:=λm=>by obtain⟨ω,k1,k2⟩:=k.dp;obtain⟨v',fp',s',r',n,w⟩:=k1 j p d q;rw[s]at s';cases s';have u:=r'.uniq e r;subst u;obtain⟨ws,hl⟩:=r'.isl a m;rw[ha]at hl;cases hl
theorem EOk.setOwn{i:Nat}{a:Uu}{vs:List V}{ds:jT}(k:EOk K B G0 G H σ Z)(n:NewL K B G H σ Z a vs ds)(hi:i<Z.length):EOk K B G0 G H (σ.set i (O (.ref a))) (Z.set i (O (.own ds))) where
 bh:=k.bh
 gh:=k.gh
 g0:=k.g0
 np:=k.np
 len:=by rw[Je,Je];exact k.len
 pub:=λj d' q=>by
  by_cases z:i=j
  .subst z
   have:=Yk q;cases this
  .rw[Qm z]at q⊢
   exact k.pub j d' q
 own:=λj es q=>by
  by_cases z:i=j
  .subst z
   have:=Yk q;cases this;exact⟨a,vs,QL (by rw[←k.len];exact hi),n.b,n.g,n.h,n.r⟩
  .rw[Qm z]at q⊢
   exact k.own j es q
 sep:=λj l c es fs q1 q2 s1 s2=>by
  have hs:i<σ.length:=by rw[←k.len];exact hi
  by_cases z1:i=j
  .subst z1
   rw[QL hs]at s1;cases s1;by_cases z2:i=l
   .exact z2
   .rw[Qm z2]at q2 s2
    exact absurd s2 (n.f l fs q2)
  .by_cases z2:i=l
   .subst z2
    rw[QL hs]at s2;cases s2;rw[Qm z1]at q1 s1;exact absurd s1 (n.f j es q1)
   .rw[Qm z1]at q1 s1
    rw[Qm z2]at q2 s2;exact k.sep j l c es fs q1 q2 s1 s2
 dp:=by
  obtain⟨ω,k1,k2⟩:=k.dp;have hs:i<σ.length:=by rw[←k.len];exact hi
  refine⟨λb=>if b=a then i else ω b,λj p d q=>?_,λj es b q s=>?_⟩
  .by_cases z:i=j
   .subst z;have:=Yk q;cases this
   .rw[Qm z]at q⊢
    obtain⟨v,fp,s,r,nn,w⟩:=k1 j p d q;refine⟨v,fp,s,r,nn,λb m=>⟨(w b m).1,(w b m).2.1,?_⟩⟩;dsimp only;rw[QE (λz=>n.dp j p d v fp q s r (by rw[←z];exact m))];exact(w b m).2.2
  .by_cases z:i=j
   .subst z
    rw[QL hs]at s;cases s;dsimp only;rw[Qs jP]
   .rw[Qm z]at q s
    dsimp only;rw[QE (λe=>n.f j es q (by rw[←e];exact s))];exact k2 j es b q s
theorem EOk.change{i:Nat}{a:Uu}{vs:List V}{ds es:jT}(k:EOk K B G0 G H σ Z)(q:Z[i]?=O (O (.own ds)))(ha:σ[i]?=O (O (.ref a)))(r:Reps K G vs es) :
  EOk K B G0 G (upd H a (.lst vs)) σ (Z.set i (O (.own es))):=by
 obtain⟨a',ws,h1,h2,h3,h4,h5⟩:=k.own i ds q;rw[ha]at h1;cases h1;have hi:i<Z.length:=(Qq.mp q).1;refine⟨λb o e=>?_,λb o e=>?_,k.g0,k.np,by rw[Je];exact k.len,λj d' e=>?_,λj fs e=>?_,λj l c fs gs q1 q2 s1 s2=>?_,?_⟩
 .rw[Kp (YR e h2)];exact k.bh b o e
 .rw[Kp (YR e h3)];exact k.gh b o e
 .by_cases z:i=j
  .subst z
   have:=Yk e;cases this
  .rw[Qm z]at e
   exact k.pub j d' e
 .by_cases z:i=j
  .subst z
   have:=Yk e;cases this;exact⟨a,vs,ha,h2,h3,KO,r⟩
  .rw[Qm z]at e
   obtain⟨c,us,g1,g2,g3,g4,g5⟩:=k.own j fs e;have zc:c≠a:=λw=>z (k.sep i j a ds fs q e ha (by rw[←w];exact g1))
   exact⟨c,us,g1,g2,g3,by rw[Kp zc];exact g4,g5⟩
 .have f:∀{m:Nat}{ts:jT},(Z.set i (O (Sl.own es)))[m]?=O (O (.own ts))->∃ts',Z[m]?=O (O (.own ts')):=λ{m ts} e=>by
   by_cases z:i=m
   .subst z;exact⟨ds,q⟩
   .rw[Qm z]at e;exact⟨ts,e⟩
  obtain⟨f1,w1⟩:=f q1;obtain⟨f2,w2⟩:=f q2;exact k.sep j l c f1 f2 w1 w2 s1 s2
 .refine k.dp.map (λj p d e=>?_) (λj fs e=>?_) λj p d v fp qj s rj w n=>⟨rj.upd (λ_ z=>by rw[h4]at z;cases z) (n i ds a q ha),w⟩
  .by_cases z:i=j
   .subst z;have:=Yk e;cases this
   .rw[Qm z]at e;exact⟨e,rfl⟩
  .by_cases z:i=j
   .subst z;exact⟨ds,q,rfl⟩
   .rw[Qm z]at e;exact⟨fs,e,rfl⟩
end
inductive Out where
 |nx (Z:UR)|rt (d:D)|bk (Z:UR)|ct (Z:UR)|ex (Z:UR) (d:D)|ro (ds:jT)|bad
abbrev SM:=UR->Out
section
variable(K:Frag)(B G0:Hp)(KX:XW)
def aftS(o:Out)(G1:Hp)(Dn:Ends):Prop:=
 match o with
 |.nx Z=>∀σ G H,EOk K B G0 G H σ Z->Same G1 G->Dn.nx σ H
 |.bk Z=>∀σ G H,EOk K B G0 G H σ Z->Same G1 G->Dn.bk σ H
 |.ct Z=>∀σ G H,EOk K B G0 G H σ Z->Same G1 G->Dn.ct σ H
 |.rt d=>∀v G H,Ext G0 B G H->Rep K G v d->Dn.rt v H
 |.ro ds=>∀a vs G H,Ext G0 B G H->B a=jQ->G a=jQ->H a=O (.lst vs)->Reps K G vs ds->Dn.rt (.ref a) H
 |.ex Z d=>∀v σ G H,EOk K B G0 G H σ Z->Same G1 G->Rep K G v d->KX v σ H
 |.bad=>False
noncomputable def tS(g:SM):TS:=λDn σ H=>∃G Z,EOk K B G0 G H σ Z/\aftS K B G0 KX (g Z) G Dn
noncomputable def sB{α:Type}(f:M α)(g:α->SM):SM:=λZ=>match f Z with | .ok a Z'=>g a Z' | .bad=>.bad
end
section
variable{X:Cx}{B G0:Hp}{KX:XW}{e a b c:Uw}{pos:Pos}{es rest:jX}{st:Stmt}{sts sts2:List Stmt}
theorem aftS.mono{K:Frag}{o:Out}{G G':Hp}{Dn:Ends}(e:Same G G')(h:aftS K B G0 KX o G Dn):aftS K B G0 KX o G' Dn:=by
 cases o with
 |nx Z=>exact λσ G2 H2 k s=>h σ G2 H2 k (e.trans s)
 |bk Z=>exact λσ G2 H2 k s=>h σ G2 H2 k (e.trans s)
 |ct Z=>exact λσ G2 H2 k s=>h σ G2 H2 k (e.trans s)
 |rt d=>exact h
 |ro ds=>exact h
 |ex Z d=>exact λv σ G2 H2 k s r=>h v σ G2 H2 k (e.trans s) r
 |bad=>exact h
theorem tS.bnd{K:Frag}{α γ:Type}{R:Hp->γ->α->Prop}{f:M α}{g:α->SM}{Dn:Ends}{σ:St}{H:Hp}{P:γ->Hp->Prop}(q:tS K B G0 KX (sB f g) Dn σ H)
  (i:∀v H' G' Z' x,EOk K B G0 G' H' σ Z'->R G' v x->aftS K B G0 KX (g x Z') G' Dn->P v H'):tM K B G0 R f σ H P:=by
 obtain⟨G,Z,k,a⟩:=q;refine⟨G,Z,k,?_⟩;unfold sB at a;cases z:f Z with
 |bad=>rw[z]at a;exact a.elim
 |ok d Z1=>rw[z]at a;exact λv G' H' e s r=>i v H' G' Z1 d e r (aftS.mono s a)
noncomputable def sNx:SM:=λZ=>.nx Z
noncomputable def UZ(g h:SM):SM:=λZ=>match g Z with | .nx Z'=>h Z'|o=>o
theorem F4:PSs X [] (tS X.K B G0 KX sNx):=Su Dx λD σ H ⟨G,Z,k,a⟩=>a σ G H k (.refl _)
theorem NJ{g h:SM}(h1:PS X st (tS X.K B G0 KX g))(h2:PSs X sts (tS X.K B G0 KX h)):PSs X (st::sts) (tS X.K B G0 KX (UZ g h)):=Su (Rk h1 h2) λD σ H ⟨G,Z,k,a⟩=>by
 refine⟨G,Z,k,?_⟩;unfold UZ at a;cases z:g Z with
 |nx Z1=>rw[z]at a;exact λσ' G' H' k' s'=>⟨G',Z1,k',aftS.mono s' a⟩
 |rt d=>rw[z]at a;exact a
 |ro ds=>rw[z]at a;exact a
 |bk Z1=>rw[z]at a;exact a
 |ct Z1=>rw[z]at a;exact a
 |ex Z1 d=>rw[z]at a;exact a
 |bad=>rw[z]at a;exact a.elim
theorem F3{g:SM}(h1:PS X st (tS X.K B G0 KX g)):PSs X [st] (tS X.K B G0 KX g):=SY h1
noncomputable def Xq:SM:=λ_=>.bad
theorem Bm:PS X st (tS X.K B G0 KX Xq):=λ_ _ _ _ _ _ ⟨_,_,_,a⟩=>a.elim
theorem Ad:PSs X sts (tS X.K B G0 KX Xq):=λ_ _ _ _ _ _ ⟨_,_,_,a⟩=>a.elim
noncomputable def U4(f:M D):SM:=sB f λd _=>.rt d
theorem F2{f:M D}(h:PE X e (tD X.K B G0 f)):PS X (.Return (O e) pos) (tS X.K B G0 KX (U4 f)):=Ze (RS h) λD σ H q=>tS.bnd (R:=Rep X.K) q λv H' G' Z' x k r a=>a v G' H' k.exit r
noncomputable def V9(f:M D):SM:=sB f λ_ Z=>.nx Z
theorem DE{f:M D}(h:PE X e (tD X.K B G0 f))(hs:swapsWith e jQ pos.line X.env=pure jS:=by rfl):PS X (.Expr e pos) (tS X.K B G0 KX (V9 f)):=Ze (T8 h hs) λD σ H q=>tS.bnd (R:=Rep X.K) q λv H' G' Z' x k r a=>a σ G' H' k (.refl _)
noncomputable def sIf(f:M Bool)(g h:SM):SM:=sB f λt=>if t=jR then g else h
theorem HJ{f:M Bool}{g h:SM}(hc:PT X c (tBo X.K B G0 f))(ha:PSs X sts (tS X.K B G0 KX g))(hb:PSs X sts2 (tS X.K B G0 KX h)):PS X (.If c sts sts2 pos) (tS X.K B G0 KX (sIf f g h)):=
 Ze (GM hc ha hb) λD σ H q=>tS.bnd (R:=λ_ b c=>b=c) q λv H' G' Z' x k r a=>by
  have r:v=x:=r;subst r;cases v with
  |true=>exact⟨G',Z',k,a⟩
  |false=>exact⟨G',Z',k,a⟩
noncomputable def tG(K:Frag)(B G0:Hp)(s:D->UR->jZ):TG:=λv σ H Q=>∃G Z d Z',EOk K B G0 G H σ Z/\Rep K G v d/\s d Z=O Z'/\∀σ' G' H',EOk K B G0 G' H' σ' Z'->Same G G'->Q σ' H'
noncomputable def tGs(K:Frag)(B G0:Hp)(s:jT->UR->jZ):TGs:=λv σ H Q=>∃G Z d Z',EOk K B G0 G H σ Z/\Reps K G v d/\s d Z=O Z'/\∀σ' G' H',EOk K B G0 G' H' σ' Z'->Same G G'->Q σ' H'
theorem pgof{t t':TG}(h:PG X e t)(i:∀v σ H Q,t' v σ H Q->t v σ H Q):PG X e t':=λpins s σ H v u Q I r q=>h pins s σ H v u Q I r (i v σ H Q q)
theorem Oy{t t':TGs}(h:PGs X es t)(i:∀v σ H Q,t' v σ H Q->t v σ H Q):PGs X es t':=λpins s σ H v u Q I r q=>h pins s σ H v u Q I r (i v σ H Q q)
noncomputable def gN(i:Nat):D->UR->jZ:=λd Z=>if i<Z.length then O (Z.set i (O (.pub d)))else jQ
theorem NI{i:Nat}(h:PG X e (TK i)):PG X e (tG X.K B G0 (gN i)):=pgof h λv σ H Q ⟨G,Z,d,Z',k,r,e,q⟩=>by
 unfold gN at e;split at e
 .rename_i hi
  cases e;exact q _ G H (k.setPub r hi) (.refl _)
 .cases e
noncomputable def gN0:jT->UR->jZ:=λd Z=>match d with | []=>O Z|_=>jQ
noncomputable def gNC(s:D->UR->jZ)(t:jT->UR->jZ):jT->UR->jZ:=λds Z=>match ds with|d::r=>(s d Z).bind (t r) | []=>jQ
theorem F1:PGs X [] (tGs X.K B G0 gN0):=Oy NX λv σ H Q ⟨G,Z,d,Z',k,r,e,q⟩=>by
 cases r with
 |nil=>cases e;exact⟨rfl,q σ G H k (.refl _)⟩
 |cons _ _=>cases e
theorem DD{s:D->UR->jZ}{t:jT->UR->jZ}(h1:PG X e (tG X.K B G0 s))(h2:PGs X es (tGs X.K B G0 t))
  (hs:(UO (e::es) X.env).map (·.2)=assign e X.env::(UO es X.env).map (·.2):=by rfl):PGs X (e::es) (tGs X.K B G0 (gNC s t)):=Oy (Pz h1 h2 hs) λv σ H Q ⟨G,Z,d,Z',k,r,e,q⟩=>by
 cases r with
 |nil=>cases e
 |@cons w dw ws dws rw rt=>
  unfold gNC at e;dsimp only at e;cases z:s dw Z with
  |none=>rw[z]at e;cases e
  |some Z1=>rw[z]at e;refine⟨w,ws,rfl,G,Z,dw,Z1,k,rw,z,λσ' G' H' k' s'=>?_⟩;exact⟨G',Z1,dws,Z',k',rt.mono s',e,λσ2 G2 H2 k2 s2=>q σ2 G2 H2 k2 (s'.trans s2)⟩
noncomputable def gT(n:Nat)(t:jT->UR->jZ):D->UR->jZ:=λd Z=>match d with | .tuple ds=>if ds.length=n then t ds Z else jQ|_=>jQ
theorem FZ{k1:Nat}{t:jT->UR->jZ}{n:Nat}(hc:X.calm=jR)(h:PGs X es (tGs X.K B G0 t))
  (hn:(UO es X.env).length=n:=by rfl) (hst:(UO es X.env).findIdx? (·.1)=jQ:=by rfl):PG X (.Tuple es k1 pos) (tG X.K B G0 (gT n t)):=pgof (OW hc h hn hst) λv σ H Q ⟨G,Z,d,Z',k,r,e,q⟩=>by
 unfold gT at e;split at e
 .split at e
  .rename_i hl
   obtain⟨ad,vs,rfl,h1,r1⟩:=r.tup_inv;exact⟨ad,vs,rfl,ZR k.gh h1,by rw[r1.length];exact hl,G,Z,_,Z',k,r1,e,q⟩
  .cases e
 .cases e
noncomputable def Yb(f:M D)(s:D->UR->jZ):SM:=sB f λd Z=>match s d Z with|some Z'=>.nx Z'|none=>.bad
theorem FY{tg:Uw}{f:M D}{s:D->UR->jZ}(he:PE X e (tD X.K B G0 f))(hg:PG X tg (tG X.K B G0 s))(hs:swapsWithSole [tg] e pos.line X.env=pure jS:=by rfl)(hw:swappedStores [tg] e X.env=pure jQ:=by rfl)
  (h1:(UO [tg] X.env).map (·.2)=[assign tg X.env]:=by rfl):PS X (.Assign [tg] e pos) (tS X.K B G0 KX (Yb f s)):=
 Ze (OV he hg hs hw h1) λD σ H q=>tS.bnd (R:=Rep X.K) q λv H' G' Z' x k r a=>by
  cases z:s x Z' with
  |none=>rw[z]at a;exact a.elim
  |some Z2=>rw[z]at a;exact⟨G',Z',x,Z2,k,r,z,λσ2 G2 H2 k2 s2=>a σ2 G2 H2 k2 s2⟩
noncomputable def Kg(i:Nat)(f:M D):SM:=Yb f (gN i)
theorem FX{i:Nat}{x:Str}{f:M D}{p2:Pos}(hN:X.N.Nodup)(hi:X.N[i]?=O x)(hx:Loc X.env.scope x)(he:PE X e (tD X.K B G0 f))(hs:swapsWith e (O (.Name x p2)) pos.line X.env=pure jS:=by rfl)
  (hf:X.fn x=jR∨X.env.scope.names.lookup x=O .local:=by first|exact .inl rfl|exact .inr rfl|assumption):PS X (.Assign [.Name x p2] e pos) (tS X.K B G0 KX (Kg i f)):=
 Ze (RR hN hi hx he hs hf) λD σ H q=>tS.bnd (R:=Rep X.K) q λv H' G' Z' x k r a=>by
  unfold gN at a;split at a
  .rename_i Z2 hz
   split at hz
   .rename_i hi2
    cases hz;exact a _ G' H' (k.setPub r hi2) (.refl _)
   .cases hz
  .exact a.elim
noncomputable def tL(K:Frag)(B G0:Hp)(f:M jT):TE:=λσ H Q=>∃G Z,EOk K B G0 G H σ Z/\match f Z with
 |.ok ds Z'=>∀a vs G' H',EOk K B G0 G' H' σ Z'->Same G G'->NewL K B G' H' σ Z' a vs ds->Q (.ref a) H'
 |.bad=>False
noncomputable def Zi(i:Nat)(f:M jT):SM:=sB f λds Z=>if i<Z.length then .nx (Z.set i (O (.own ds)))else .bad
theorem DC{i:Nat}{x:Str}{f:M jT}{p2:Pos}(hN:X.N.Nodup)(hi:X.N[i]?=O x)(hx:Loc X.env.scope x)(he:PE X e (tL X.K B G0 f))(hs:swapsWith e (O (.Name x p2)) pos.line X.env=pure jS:=by rfl)
  (hf:X.fn x=jR∨X.env.scope.names.lookup x=O .local:=by first|exact .inl rfl|exact .inr rfl|assumption):PS X (.Assign [.Name x p2] e pos) (tS X.K B G0 KX (Zi i f)):=
 Ze (RR hN hi hx he hs hf) λD σ H ⟨G,Z,k,a⟩=>by
  refine⟨G,Z,k,?_⟩;unfold Zi sB at a;cases z:f Z with
  |bad=>rw[z]at a;exact a.elim
  |ok ds Z1=>
   rw[z]at a;intro ad vs G' H' k' s' n;dsimp only at a;split at a
   .rename_i hl
    exact a _ G' H' (k'.setOwn n hl) s'
   .exact a.elim
theorem NewL.of{K:Frag}{G H:Hp}{σ:St}{Z:UR}{p:Uu}{vs:List V}{ds:jT}(k:EOk K B G0 G H σ Z)(hp:H p=jQ)(r:Reps K G vs ds):NewL K B G (upd H p (.lst vs)) σ Z p vs ds where
 b:=k.bh.free hp
 g:=k.gh.free hp
 h:=KO
 r:=r
 f:=λj es q z=>by obtain⟨a,ws,h1,h2,h3,h4,h5⟩:=k.own j es q;rw[z]at h1;cases h1;rw[hp]at h4;cases h4
 dp:=λj pt d v fp q s rr=>k.freshD (Zk hp) hp q s rr
theorem NH{f:M jT}(h:PA X es (tDs X.K B G0 f)):PE X (.List es pos) (tL X.K B G0 (U5 f λxs=>if xs.length<=1000000 then UV xs else λ_=>.bad)):=
 Km (OS h) λσ H Q ⟨G,Z,k,a⟩=>by
  refine⟨G,Z,k,?_⟩;unfold U5 at a;cases z:f Z with
  |bad=>rw[z]at a;exact a.elim
  |ok ds Z1=>
   rw[z]at a;dsimp only at a;intro v G' H' k' s' r;by_cases c:ds.length<=1000000
   .rw[Qs c]at a
    refine⟨by rw[r.length];exact Qz c lim,λp hp=>?_⟩;exact a p v G' _ (k'.ext (Ext.hid k'.gh hp)) s' (NewL.of k' hp r)
   .rw[QE c]at a;exact a.elim
noncomputable def ZL(i:Nat)(f:M D):SM:=λZ0=>match Z0[i]? with
 |some (O (.own _))=>sB f (λd Z=>match Z[i]? with
  |some (O (.own ds))=>if ds.length<1000000 then .nx (Z.set i (O (.own (ds++[d]))))else .bad
  |_=>.bad) Z0
 |_=>.bad
theorem FW{i:Nat}{f:M D}{o:Uw}{apos cpos:Pos}(ho:PE X o (KL i))(he:PE X e (tD X.K B G0 f))
  (hbase:attributeBase o "append" X.env (eval o X.env)=eval o X.env:=by rfl)
  (hfew:((backTo cpos (Uz [e] X.env)).all (λx=>!x.1)&&(backToKw cpos (keywordEach [] X.env)).all (λx=>x.1.isSome)
   && decide ([e].length+([]:List Keyword).length+(if([]:List Keyword).isEmpty then 0 else 1)<30))=jR:=by rfl)
  (hline:(apos.endLine==cpos.line)=jR:=by rfl) (hs:Uz [e] X.env=[(jS,eval e X.env)]:=by rfl)
  (hsw:swapsWith (.Call (.Attribute o "append" apos) [e] [] cpos) jQ pos.line X.env=pure jS:=by rfl) :
  PS X (.Expr (.Call (.Attribute o "append" apos) [e] [] cpos) pos) (tS X.K B G0 KX (ZL i f)):=
 Ze (T8 (Fi PySem.F.plainAttrs_list PySem.F.slot_list_append PySem.F.type_list_append MU ho (ZT he YN (by rw[hs];rfl)) hbase hfew hline (by rw[hs];rfl) jP) hsw) λD σ H ⟨G,Z,k,a⟩=>by
  unfold ZL at a;cases q0:Z[i]? with
  |none=>rw[q0]at a;exact a.elim
  |some o0=>
   cases o0 with
   |none=>rw[q0]at a;exact a.elim
   |some sl0=>
    cases sl0 with
    |deep _ _=>rw[q0]at a;exact a.elim
    |pub d=>rw[q0]at a;exact a.elim
    |own xI=>
     rw[q0]at a;obtain⟨ad,vs0,h1,h2,h3,h4,h5⟩:=k.own i xI q0;refine⟨.ref ad,h1,.inl ⟨rfl,_,SqL.of h4⟩,G,Z,k,?_⟩;unfold sB at a;cases z:f Z with
     |bad=>rw[z]at a;exact a.elim
     |ok d Z1=>
      rw[z]at a;dsimp only at a;intro v G' H' k' s' r';cases q:Z1[i]? with
      |none=>rw[q]at a;exact a.elim
      |some o=>
       cases o with
       |none=>rw[q]at a;exact a.elim
       |some sl=>
        cases sl with
        |deep _ _=>rw[q]at a;exact a.elim
        |pub d=>rw[q]at a;exact a.elim
        |own ds=>
         rw[q]at a;dsimp only at a;split at a
         .rename_i hl
          obtain⟨ad',vs,g1,g2,g3,g4,g5⟩:=k'.own i ds q;rw[h1]at g1;cases g1;refine⟨ad,vs,v,rfl,rfl,g4,by rw[g5.length];exact Qy hl lim,?_⟩;exact a σ G' _ (k'.change q h1 (g5.append (.cons r' .nil))) s'
         .exact a.elim
end
structure YT(K:Frag)(J:It)(ds:jT)(G1:Hp):Prop where
 go:∀i G H,Same G1 G->Same G H->i<ds.length->J.go i H
 stop:∀i G H,Same G1 G->Same G H->ds.length<=i->J.stop i H
 yld:∀i G H x H' d,Same G1 G->Same G H->ds[i]?=O d->J.yld i H x H'->∃G',Ext G H G' H'/\Rep K G' x d
noncomputable def iD(K:Frag)(B G0:Hp)(f:M jT):TI:=λσ H R=>∃G Z,EOk K B G0 G H σ Z/\match f Z with
 |.ok ds Z'=>∀J G' H',EOk K B G0 G' H' σ Z'->Same G G'->YT K J ds G'->R J H'
 |.bad=>False
section
variable{X:Cx}{B G0:Hp}{KX:XW}{e a b c tg:Uw}{pos:Pos}{es rest:jX}{st:Stmt}{sts sts2:List Stmt}
theorem YD{t t':TI}(h:PI X tg e t)(i:∀σ H R,t' σ H R->t σ H R):PI X tg e t':=λpins s σ H R I q=>h pins s σ H R I (i σ H R q)
theorem tM.toI{K:Frag}{α γ:Type}{R0:Hp->γ->α->Prop}{f:M α}{g:α->M jT}{σ:St}{H:Hp}{R:It->Hp->Prop}{P:γ->Hp->Prop}(q:iD K B G0 (U5 f g) σ H R)
  (i:∀v H' G' Z' x,EOk K B G0 G' H' σ Z'->R0 G' v x->(match g x Z' with
   |.ok ds Z2=>∀J G2 H2,EOk K B G0 G2 H2 σ Z2->Same G' G2->YT K J ds G2->R J H2
   |.bad=>False)->P v H'):tM K B G0 R0 f σ H P:=by
 obtain⟨G,Z,k,a⟩:=q;refine⟨G,Z,k,?_⟩;unfold U5 at a;cases z:f Z with
 |bad=>rw[z]at a;exact a.elim
 |ok d Z1=>
  rw[z]at a;intro v G' H' e s r;refine i v H' G' Z1 d e r ?_;dsimp only at a;cases z2:g d Z1 with
  |bad=>rw[z2]at a;exact a.elim
  |ok ds Z2=>rw[z2]at a;exact λJ G2 H2 k2 s2 it=>a J G2 H2 k2 (s.trans s2) it
theorem qL{K:Frag}{G1:Hp}{ad:Uu}{vs:List V}{ds:jT}(h:SqL K G1 ad vs)(r:Reps K G1 vs ds):YT K (Itl K ad) ds G1 where
 go:=λi G H s1 s2 hi=>by
  have hi':i<vs.length:=by rw[r.length];exact hi
  exact⟨vs,vs[i],(s1.trans s2).seq h,Qh hi'⟩
 stop:=λi G H s1 s2 hi=>⟨vs,(s1.trans s2).seq h,by rw[r.length];exact hi⟩
 yld:=λi G H x H' d s1 s2 e y=>by obtain⟨rfl,y⟩:=y;obtain⟨v,e1,r1⟩:=r.get e;have:=y vs ((s1.trans s2).seq h);rw[e1]at this;cases this;exact⟨G,.refl s2,r1.mono s1⟩
noncomputable def ZE(lo hi:Int):jT:=(UB (hi-lo).toNat).map λ(k:Nat)=>.int (lo+k)
theorem Vo(lo hi:Int):(ZE lo hi).length=(hi-lo).toNat:=by unfold ZE;rw[Qd,J8]
theorem LJ{K:Frag}{G1:Hp}(lo hi:Int):YT K (Itr lo (hi-lo).toNat) (ZE lo hi) G1 where
 go:=λi G H s1 s2 h=>by rw[Vo]at h;exact h
 stop:=λi G H s1 s2 h=>by rw[Vo]at h;exact h
 yld:=λi G H x H' d s1 s2 e y=>by
  obtain⟨rfl,rfl⟩:=y;unfold ZE at e;rw[Qi]at e;have hi:i<(UB (hi-lo).toNat).length:=by refine Nat.lt_of_not_le λz=>?_;rw[JS z]at e;cases e
  rw[Qh hi,List.getElem_range]at e;cases e;exact⟨G,.refl s2,.int _⟩
noncomputable def X4:jT->Option jT
 |[.int j]=>if j<=1000000 /\ -1000000<=j then O (ZE 0 j)else jQ
 |_=>jQ
noncomputable def WN:jT->Option jT
 |[.int i,.int j]=>if j<=1000000 /\ -1000000<=j/\i<=1000000 /\ -1000000<=i then O (ZE i j)else jQ
 |_=>jQ
noncomputable def W2(f:M jT):M jT:=U5 f λx=>U2 (X4 x)
noncomputable def Sz(f:M jT):M jT:=U5 f λx=>U2 (WN x)
theorem Ac{f:M jT}{p2:Pos}(hg:Gl X "range")(hm:X.mg "range" = jQ)(ha:PA X [a] (tDs X.K B G0 f))(hs:Uz [a] X.env=[(jS,eval a X.env)]:=by rfl) :
  PI X tg (.Call (.Name "range" p2) [a] [] pos) (iD X.K B G0 (W2 f)):=YD (qd hg hm ha hs) λσ H R q=>tM.toI (R0:=Reps X.K) q λv H' G' Z' x k r a=>by
 cases z:X4 x with
 |none=>rw[z]at a;exact a.elim
 |some ds=>
  rw[z]at a;unfold X4 at z;split at z
  .split at z
   .rename_i j c
    cases z;obtain⟨w,rfl,r'⟩:=r.one_inv;refine⟨j,by rw[r'.int_inv],by lia,by lia,?_⟩;have it:=LJ (K:=X.K) (G1:=G') 0 j;rw[Int.sub_zero]at it;exact a _ G' H' k (.refl _) it
   .cases z
  .cases z
theorem Ab{f:M jT}{p2:Pos}(hg:Gl X "range")(hm:X.mg "range" = jQ)(ha:PA X [a,b] (tDs X.K B G0 f))(hs:Uz [a,b] X.env=[(jS,eval a X.env),(jS,eval b X.env)]:=by rfl)(hs2:Uz [b] X.env=[(jS,eval b X.env)]:=by rfl) :
  PI X tg (.Call (.Name "range" p2) [a,b] [] pos) (iD X.K B G0 (Sz f)):=YD (qc hg hm ha hs hs2) λσ H R q=>tM.toI (R0:=Reps X.K) q λv H' G' Z' x k r a=>by
 cases z:WN x with
 |none=>rw[z]at a;exact a.elim
 |some ds=>
  rw[z]at a;unfold WN at z;split at z
  .split at z
   .rename_i i j c
    cases z;obtain⟨w,w',rfl,r1,r2⟩:=r.two_inv;refine⟨i,j,by rw[r1.int_inv,r2.int_inv],⟨by lia,by lia,by lia,by lia⟩,?_⟩;exact a _ G' H' k (.refl _) (LJ i j)
   .cases z
  .cases z
noncomputable def ZQ(n:Nat):jT->jT
 |[]=>[]
 |d::r=>.tuple [.int n,d]::ZQ (n+1) r
theorem XY:∀(n:Nat)(ds:jT),(ZQ n ds).length=ds.length
 |_,[]=>rfl
 |n,d::r=>by rw[ZQ,QB,QB,XY]
theorem PM:∀(n:Nat)(ds:jT)(i:Nat),(ZQ n ds)[i]?=ds[i]?.map λd=>.tuple [.int ((n+i:Nat):Int),d]
 |_,[],i=>by simp[ZQ]
 |n,d::r,0=>by simp[ZQ]
 |n,d::r,i+1=>by
  rw[ZQ,JY,JY,PM (n+1) r i];have:n+1+i=n+(i+1):=by lia
  rw[this]
theorem qK{K:Frag}{G1:Hp}{ad:Uu}{vs:List V}{ds:jT}(h:SqL K G1 ad vs)(r:Reps K G1 vs ds):YT K (Ite K ad) (ZQ 0 ds) G1 where
 go:=λi G H s1 s2 hi=>by
  rw[XY]at hi;have hi':i<vs.length:=by rw[r.length];exact hi
  exact⟨vs,vs[i],(s1.trans s2).seq h,Qh hi'⟩
 stop:=λi G H s1 s2 hi=>by rw[XY]at hi;exact⟨vs,(s1.trans s2).seq h,by rw[r.length];exact hi⟩
 yld:=λi G H x H' d s1 s2 e y=>by
  obtain⟨p,v,hp,rfl,y,rfl⟩:=y;rw[PM]at e;cases z:ds[i]? with
  |none=>rw[z]at e;cases e
  |some d0=>rw[z]at e;cases e;obtain⟨w,e1,r1⟩:=r.get z;have:=y vs ((s1.trans s2).seq h);rw[e1]at this;cases this;refine⟨upd G p (.tup [.int i,v]),Ext.new s2 hp,.tup (SqT.of KO) (.cons ?_ (.cons ((r1.mono s1).mono (Zk (s2.free hp))) .nil))⟩;rw[Ju];exact .int _
noncomputable def TC:jT->Option jT
 |[.list ds]=>O (ZQ 0 ds)
 |_=>jQ
noncomputable def Yu(f:M jT):M jT:=U5 f λx=>U2 (TC x)
theorem DB{f:M jT}{p2:Pos}{elts:jX}{x1}{tp:Pos}(hg:Gl X "enumerate")(hm:X.mg "enumerate" = jQ)(ha:PA X [a] (tDs X.K B G0 f))(hs:Uz [a] X.env=[(jS,eval a X.env)]:=by rfl) :
  PI X (.Tuple elts x1 tp) (.Call (.Name "enumerate" p2) [a] [] pos) (iD X.K B G0 (Yu f)):=YD (Dm hg hm ha hs) λσ H R q=>tM.toI (R0:=Reps X.K) q λv H' G' Z' x k r a=>by
 cases z:TC x with
 |none=>rw[z]at a;exact a.elim
 |some ds=>
  rw[z]at a;unfold TC at z;split at z
  .cases z
   obtain⟨w,rfl,r'⟩:=r.one_inv;obtain⟨ad,vs,rfl,h1,r1⟩:=r'.lst_inv;exact⟨ad,vs,rfl,k.gh.seq h1,a _ G' H' k (.refl _) (qK h1 r1)⟩
  .cases z
noncomputable def Zh(s:D->UR->jZ)(g:SM):jT->SM
 |[],Z=>.nx Z
 |d::r,Z=>match s d Z with
  |none=>.bad
  |some Z1=>match g Z1 with
   |.nx Z2=>Zh s g r Z2
   |.ct Z2=>Zh s g r Z2
   |.bk Z2=>.nx Z2
   |.rt d=>.rt d
   |.ro ds=>.ro ds
   |.ex Z2 d=>.ex Z2 d
   |.bad=>.bad
noncomputable def Kr(f:M jT)(s:D->UR->jZ)(g:SM):SM:=sB f λds=>Zh s g ds
theorem FV{iter:Uw}{body:List Stmt}{f:M jT}{s:D->UR->jZ}{g:SM}(hp:PassesOwn (model X.prog X.w) X.A X.env X.xe)(hc:X.calm=jR)(hi:PI X tg iter (iD X.K B G0 f))(hg:PG X tg (tG X.K B G0 s))(hb:PSs X body (tS X.K B G0 KX g))
  (hs:∀x,UP iter X.env x=pure x:=by intro _;rfl):PS X (.For tg iter body [] pos) (tS X.K B G0 KX (Kr f s g)):=
 Ze (FO hp hc hi hg hb hs) λDn σ H ⟨G,Z,k,a⟩=>by
  refine⟨G,Z,k,?_⟩;unfold Kr sB at a;cases z:f Z with
  |bad=>rw[z]at a;exact a.elim
  |ok ds Z1=>
   rw[z]at a;dsimp only at a⊢;intro J G1 H1 k1 s1 it;refine⟨λi m σ' H'=>m=ds.length-i/\∃G' Z',EOk X.K B G0 G' H' σ' Z'/\Same G1 G'/\aftS X.K B G0 KX (Zh s g (ds.drop i) Z') G' Dn,⟨ds.length,by lia,G1,Z1,k1,.refl _,by rw[Uk];exact aftS.mono s1 a⟩,?_⟩;rintro i m σ' H' ⟨rfl,G',Z',k',s',a'⟩;by_cases hi:i<ds.length
   .right
    refine⟨it.go i G' H' s' k'.gh hi,λσ2 H2=>∃G2 Z2,EOk X.K B G0 G2 H2 σ2 Z2/\Same G1 G2/\aftS X.K B G0 KX (Zh s g (ds.drop (i+1)) Z2) G2 Dn,λσ2 H2 h2=>⟨ds.length-(i+1),by lia,rfl,h2⟩,λx H2 y=>?_⟩;obtain⟨G2,ex,rx⟩:=it.yld i G' H' x H2 ds[i] s' k'.gh (Qh hi) y;rw[JF hi,Zh]at a';cases z2:s ds[i] Z' with
    |none=>rw[z2]at a';exact a'.elim
    |some Z2=>
     rw[z2]at a';dsimp only at a';refine⟨G2,Z',ds[i],Z2,k'.ext ex,rx,z2,λσ3 G3 H3 k3 s3=>⟨G3,Z2,k3,?_⟩⟩;have s13:Same G1 G3:=(s'.trans ex.g).trans s3;cases z3:g Z2 with
     |nx Z3=>rw[z3]at a';exact λσ4 G4 H4 k4 s4=>⟨G4,Z3,k4,s13.trans s4,aftS.mono ((ex.g.trans s3).trans s4) a'⟩
     |ct Z3=>rw[z3]at a';exact λσ4 G4 H4 k4 s4=>⟨G4,Z3,k4,s13.trans s4,aftS.mono ((ex.g.trans s3).trans s4) a'⟩
     |bk Z3=>rw[z3]at a';exact λσ4 G4 H4 k4 s4=>a' σ4 G4 H4 k4 ((ex.g.trans s3).trans s4)
     |rt d=>rw[z3]at a';exact a'
     |ro ds=>rw[z3]at a';exact a'
     |ex Z3 d=>rw[z3]at a';exact λv σ4 G4 H4 k4 s4 r4=>a' v σ4 G4 H4 k4 ((ex.g.trans s3).trans s4) r4
     |bad=>rw[z3]at a';exact a'.elim
   .left
    rw[List.drop_eq_nil_of_le (by lia)]at a';exact⟨it.stop i G' H' s' k'.gh (by lia),a' σ' G' H' k' (.refl _)⟩
theorem Bl{k:Nat}{f:Uu}{fd:Uv}{ps:List Str}{F:jT->jY}{g:M jT}{x:Str}{p2:Pos}{n:Nat}(FK:FnOk X.prog X.w X.K X.mg X.base CX0 k f fd ps (spD X.K n F))(hr:Room k X.A)(hg:Gl X x)(hm:X.mg x=O (.ref f))(hk:PySem.W.keepIn X.K (.ref f)=jR)
  (hb:Ym X.K fd ps []) (ha:PA X (e::es) (tDs X.K B G0 g)) (hn:(e::es).length=n) (hdb:(x==("__debug__" : Str))=jS:=by decide) (he:Uz (e::es) X.env=(jS,eval e X.env)::Uz es X.env:=by rfl) (hpl:(backTo pos (Uz es X.env)).any (·.1)=jS:=by rfl) :
  PE X (.Call (.Name x p2) (e::es) [] pos) (tD X.K B G0 (U5 g λxs=>if xs.length=n then U2 (F xs)else λ_=>.bad)):=
 Km (N3 FK hr hg hm hk hb .nil RH ha hdb he hpl) λσ H Q q=>tM.one (R:=Reps X.K) q λv H2 G Z ds k r a=>by
  split at a
  .rename_i hl
   obtain⟨d,e,a⟩:=a.opt;exact⟨G,ds,d,by rw[Q4,r.length];exact hl,k.gh,by rw[Q4];exact r,e,λw G' H' ex rw=>a.done k ex rw⟩
  .exact a.elim
end
noncomputable def ZN(N:List Str)(ds:jT):UR:=(ds.map λd=>O (Sl.pub d))++UC (N.length-ds.length) jQ
theorem PD{K:Frag}{N:List Str}{G H:Hp}{vs:List V}{ds:jT}(s:Same G H)(r:Reps K G vs ds):EOk K H G G H (L2.Xk N vs) (ZN N ds) where
 bh:=.refl _
 gh:=s
 g0:=.refl _
 np:=λ_ _ _ n=>n
 len:=by unfold L2.Xk ZN;rw[Qk,Qk,Qd,Qd,QR,QR,r.length]
 pub:=λi d q=>by
  unfold ZN at q;unfold L2.Xk;by_cases hi:i<ds.length
  .rw[Qv (by rw[Qd];exact hi),Qi]at q
   cases z:ds[i]? with
   |none=>rw[z]at q;cases q
   |some d'=>rw[z]at q;cases q;obtain⟨v,e1,r1⟩:=r.get z;refine⟨v,?_,r1⟩;rw[Qv (by rw[Qd,r.length];exact hi),Qi,e1];rfl
  .rw[Qx (by rw[Qd];lia),QD]at q
   split at q<;>cases q
 own:=λi es q=>by
  unfold ZN at q;by_cases hi:i<ds.length
  .rw[Qv (by rw[Qd];exact hi),Qi]at q
   cases z:ds[i]? with
   |none=>rw[z]at q;cases q
   |some d'=>rw[z]at q;cases q
  .rw[Qx (by rw[Qd];lia),QD]at q
   split at q<;>cases q
 sep:=λi j a es fs q _ _ _=>by
  unfold ZN at q;by_cases hi:i<ds.length
  .rw[Qv (by rw[Qd];exact hi),Qi]at q
   cases z:ds[i]? with
   |none=>rw[z]at q;cases q
   |some d'=>rw[z]at q;cases q
  .rw[Qx (by rw[Qd];lia),QD]at q
   split at q<;>cases q
 dp:=by
  have key:∀{i:Nat}{s:Sl},(ZN N ds)[i]?=O (O s)->∃d,s=.pub d:=λ{i s} q=>by
   unfold ZN at q;by_cases hi:i<ds.length
   .rw[Qv (by rw[Qd];exact hi),Qi]at q
    cases z:ds[i]? with
    |none=>rw[z]at q;cases q
    |some d'=>rw[z]at q;cases q;exact⟨_,rfl⟩
   .rw[Qx (by rw[Qd];lia),QD]at q
    split at q<;>cases q
  exact .of (λi p d q=>by obtain⟨_,e⟩:=key q;cases e) λi ds q=>by obtain⟨_,e⟩:=key q;cases e
noncomputable def Kl(N:List Str)(g:SM)(ds:jT):jY:=match g (ZN N ds)with
 |.rt d=>O d
 |.nx _=>O .none
 |_=>jQ
theorem okD{P:Ut}{w:World}{K:Frag}{mg:Str->jW}{base:Heap}{x qual:Str}{st:Stmt}{f:Uu}{fd:Uv}{N ps:List Str}{k n:Nat}{g:SM}(F:Fun K x qual st f fd)(S:Vf N ps (KY st))(hn:ps.length=n)
  (der:∀(cdv:Ur)(A:Around)(outer:List Env)(s:Us)(H:Hp)(E:XK)(B G0:Hp),Room k (A.deeper (envOfC qual (KY st) s.heap.objs.size f cdv)) ->
   PSs (Zl CX0 P w K mg base N qual (KY st) f cdv A outer s H E).nox (Z6 st) (tS K B G0 KX0 g)):FnOk P w K mg base CX0 (k+1) f fd ps (spD K n (Kl N g)):=by
 refine F.ok S (λvs H Q E h=>?_) (λcdv A outer s H vs Q E hr h=>?_)
 .obtain⟨_,_,_,hl,_⟩:=h
  rw[hl,hn]
 .obtain⟨G,ds,d,hl,sg,r,hF,q⟩:=h
  refine⟨_,der cdv A outer s H E H G hr,G,ZN N ds,PD sg r,?_⟩;unfold Kl at hF;cases z:g (ZN N ds)with
  |rt d'=>rw[z]at hF;cases hF;exact λv G' H' ex rr=>q v G' H' ex rr
  |nx Z=>rw[z]at hF;cases hF;exact λσ' G' H' k' _=>q .non G' H' k'.exit .non
  |ro ds=>rw[z]at hF;cases hF
  |bk Z=>rw[z]at hF;cases hF
  |ct Z=>rw[z]at hF;cases hF
  |ex Z d=>rw[z]at hF;cases hF
  |bad=>rw[z]at hF;cases hF
section
variable{X:Cx}{B G0:Hp}{e a b c tg:Uw}{pos:Pos}{es rest:jX}
noncomputable def oNeg:D->jY
 |.int i=>O (.int (-i))
 |_=>jQ
noncomputable def ZA(f:M D):M D:=U5 f λx=>U2 (oNeg x)
theorem Cc{f:M D}(h:PE X a (tD X.K B G0 f)):PE X (.UnaryOp .USub a pos) (tD X.K B G0 (ZA f)):=
 Km (Fp FH h) λσ H Q q=>tM.one (R:=Rep X.K) q λv H2 G Z x k r a=>by
  cases x with
  |int i=>exact⟨i,r.int_inv,aft.now a k (.int _)⟩
  |_=>exact a.elim
end
def Def(P:Ut)(w:World)(K:Frag)(mg:Str->jW)(base:Heap)(x:Str)(k n:Nat)(F:jT->jY):Prop:=
 ∃(f:Uu)(fd:Uv)(ps:List Str),mg x=O (.ref f)/\PySem.W.keepIn K (.ref f)=jR/\Ym K fd ps []/\FnOk P w K mg base CX0 k f fd ps (spD K n F)
noncomputable def U8(n:Nat)(F:jT->jY)(g:M jT):M D:=U5 g λxs=>if xs.length=n then U2 (F xs)else λ_=>.bad
section
variable{X:Cx}{B G0:Hp}{e:Uw}{pos:Pos}{es:jX}
theorem Cb{k n:Nat}{F:jT->jY}{g:M jT}{x:Str}{p2:Pos}(d:Def X.prog X.w X.K X.mg X.base x k n F)(hr:Room k X.A)(hg:Gl X x)(ha:PA X (e::es) (tDs X.K B G0 g))(hn:(e::es).length=n:=by rfl)
  (hdb:(x==("__debug__" : Str))=jS:=by decide) (he:Uz (e::es) X.env=(jS,eval e X.env)::Uz es X.env:=by rfl) (hpl:(backTo pos (Uz es X.env)).any (·.1)=jS:=by rfl) :
  PE X (.Call (.Name x p2) (e::es) [] pos) (tD X.K B G0 (U8 n F g)):=by
 obtain⟨f,fd,ps,h1,h2,h3,h4⟩:=d;exact Bl h4 hr hg h1 h2 h3 ha hn hdb he hpl
end
theorem Def.mk{P:Ut}{w:World}{K:Frag}{mg:Str->jW}{base:Heap}{x:Str}{k n:Nat}{F:jT->jY}{st:Stmt}{f:Uu}{fd:Uv}{ps:List Str}(hm:mg x=O (.ref f))(FU:Fun K x x st f fd)(hb:Ym K fd ps [])(ok:FnOk P w K mg base CX0 k f fd ps (spD K n F)) :
  Def P w K mg base x k n F:=⟨f,fd,ps,hm,FU.kp,hb,ok⟩
theorem FT{K:Frag}{H:Hp}{a:Uu}{ns:jU}{F:jT->jY}{E:XK}(hS:SqL K H a (ns.map V.int))(h:F [.list (ns.map int)]=O (.bool jR)):spD K 1 F [.ref a] H (λv _=>v=.bl jR) E:=
 ⟨H,[.list (ns.map int)],.bool jR,rfl,.refl _,.cons (.lst hS (Reps.ints ns)) .nil,h,λ_ _ _ _ r=>r.bl_inv⟩
end DL
namespace L2
open PySem PySem.Spec PyProof.Rows
theorem mem_of_lookup{x:Str}{k:NameKind}:∀{l:List (Str×NameKind)},l.lookup x=O k->(x,k)∈l
 |[],h=>by cases h
 |(y,j)::r,h=>by
  rw[QS]at h;split at h
  .rename_i e
   cases h;have:x=y:=by simpa using e
   rw[this];exact Qo
  .exact Qp _ (mem_of_lookup h)
theorem P7{env:Env}:∀(l:List (Str×NameKind))(acc:List (Str×Uu)),(∀y∈l,y.2=.free->∃c,env.cells.lookup y.1=O c) ->
  ∃cl,(forIn l acc (λx r=>if(x.2==NameKind.free)=jR then(do let a ←cellOf env x.1;pure (ForInStep.yield ((x.1,a)::r)))else pure (ForInStep.yield r)):Sem (List (Str×Uu)))=pure cl /\
   (∀x c,cl.lookup x=O c->acc.lookup x=O c∨env.cells.lookup x=O c)/\(∀y∈l,y.2=.free->∃c,cl.lookup y.1=O c)/\(∀x c,acc.lookup x=O c->∃c',cl.lookup x=O c')
 |[],acc,_=>⟨acc,rfl,λ_ _ h=>.inl h,λ_ h=>absurd h (by simp),λx c h=>⟨c,h⟩⟩
 |(n,k)::r,acc,h=>by
  by_cases hk:k=.free
  .subst hk
   obtain⟨c,hc⟩:=h (n,.free) Qo jP;obtain⟨cl,e,p1,p2,p3⟩:=P7 r ((n,c)::acc) λy hy=>h y (Qp _ hy)
   have hco:cellOf env n=pure c:=by unfold cellOf;rw[hc]
   have key:∀x c',((n,c)::acc).lookup x=O c'->acc.lookup x=O c'∨env.cells.lookup x=O c':=λx c' q=>by
    rw[QS]at q;split at q
    .rename_i e1
     cases q;have:x=n:=by simpa using e1
     subst this;exact .inr hc
    .exact .inl q
   have own:((n,c)::acc).lookup n=O c:=by rw[List.lookup_cons];simp
   refine⟨cl,?_,λx c' q=>?_,λy hy hf=>?_,λx c' q=>?_⟩
   .rw[Ue]
    have:(if(((n,NameKind.free):Str×NameKind).2==NameKind.free)=jR then(do let a ←cellOf env n;pure (ForInStep.yield ((n,a)::acc)))else pure (ForInStep.yield acc):Sem _)=pure (ForInStep.yield ((n,c)::acc)):=by rw[Qs (show((n,NameKind.free).snd==NameKind.free)=jR from rfl),hco];rfl
    refine Eq.trans ?_ e;dsimp only at this⊢;rw[this];rfl
   .rcases p1 x c' q with z|z
    .exact key x c' z
    .exact .inr z
   .rcases Qu.mp hy with z|z
    .subst z
     exact p3 n c own
    .exact p2 y z hf
   .by_cases hx:x=n
    .subst hx;exact p3 x c own
    .refine p3 x c' ?_
     have hb:(x==n)=jS:=by simpa using hx
     rw[QS,hb];exact q
  .obtain⟨cl,e,p1,p2,p3⟩:=P7 r acc λy hy=>h y (Qp _ hy)
   refine⟨cl,?_,p1,λy hy hf=>?_,p3⟩
   .rw[Ue]
    have hb:(k==NameKind.free)=jS:=by cases k<;>first|rfl|exact absurd jP hk
    refine Eq.trans ?_ e;dsimp only;rw[hb,QE (by decide)];rfl
   .rcases Qu.mp hy with z|z
    .subst z;exact absurd hf hk
    .exact p2 y z hf
theorem M6{scope:Scope}{env:Env}(h:∀y∈scope.names,y.2=.free->∃c,env.cells.lookup y.1=O c) :
  ∃cl,closureFor scope env=pure cl/\(∀x c,cl.lookup x=O c->env.cells.lookup x=O c)/\∀y∈scope.names,y.2=.free->∃c,cl.lookup y.1=O c:=by
 obtain⟨cl,e,p1,p2,_⟩:=P7 scope.names [] h;refine⟨cl,?_,λx c q=>(p1 x c q).elim (λz=>by cases z) id,p2⟩;have e2:((forIn scope.names [] (λx r=>if(x.2==NameKind.free)=jR then(do let a ←cellOf env x.1;pure (ForInStep.yield ((x.1,a)::r)))else pure (ForInStep.yield r)):Sem (List (Str×Uu))) >>= λs=>pure s)=pure cl:=by rw[e];rfl
 exact e2
theorem LI{env:Env}{x:Str}{k:NameKind}:∀{names:List (Str×NameKind)},(names.map λ(n,k)=>if(k==NameKind.free&&env.scope.kind==.function&&env.kindOf n==O .cell)then(n,NameKind.cell)else(n,k)).lookup x=O k ->
  names.lookup x=O k∨(names.lookup x=O .free/\k=.cell)
 |[],h=>by cases h
 |(n,j)::r,h=>by
  have ih:=@LI env x k r;have h:List.lookup x ((if(j==NameKind.free&&env.scope.kind==.function&&env.kindOf n==O .cell)=jR then(n,NameKind.cell)else(n,j))::_)=O k:=h;cases hx:x==n with
  |true=>
   by_cases hc:(j==NameKind.free&&env.scope.kind==.function&&env.kindOf n==O .cell)=jR
   .rw[Qs hc]at h
    simp only[QS,hx]at h⊢;cases h;simp only[Qr]at hc;have:j=.free:=by have:=hc.1.1;cases j<;>first|rfl|cases this
    subst this;exact .inr ⟨rfl,rfl⟩
   .rw[QE hc]at h
    simp only[QS,hx]at h⊢;exact .inl h
  |false=>
   by_cases hc:(j==NameKind.free&&env.scope.kind==.function&&env.kindOf n==O .cell)=jR
   .rw[Qs hc]at h
    simp only[QS,hx]at h⊢;exact ih h
   .rw[QE hc]at h
    simp only[QS,hx]at h⊢;exact ih h
theorem LD{env:Env}{x:Str}:∀{names:List (Str×NameKind)},names.lookup x=O .free ->
  (names.map λ(n,k)=>if(k==NameKind.free&&env.scope.kind==.function&&env.kindOf n==O .cell)then(n,NameKind.cell)else(n,k)).lookup x=O .free ∨
  (names.map λ(n,k)=>if(k==NameKind.free&&env.scope.kind==.function&&env.kindOf n==O .cell)then(n,NameKind.cell)else(n,k)).lookup x=O .cell
 |[],h=>by cases h
 |(n,j)::r,h=>by
  have ih:=@LD env x r;show List.lookup x ((if(j==NameKind.free&&env.scope.kind==.function&&env.kindOf n==O .cell)=jR then(n,NameKind.cell)else(n,j))::_)=_∨List.lookup x ((if(j==NameKind.free&&env.scope.kind==.function&&env.kindOf n==O .cell)=jR then(n,NameKind.cell)else(n,j))::_)=_;cases hx:x==n with
  |true=>
   simp only[QS,hx]at h;cases h;by_cases hc:(NameKind.free==NameKind.free&&env.scope.kind==.function&&env.kindOf n==O .cell)=jR
   .rw[if_pos hc];simp[List.lookup_cons,hx]
   .rw[if_neg hc];simp[List.lookup_cons,hx]
  |false=>
   simp only[QS,hx]at h;by_cases hc:(j==NameKind.free&&env.scope.kind==.function&&env.kindOf n==O .cell)=jR
   .rw[Qs hc];simp only[QS,hx];exact ih h
   .rw[QE hc];simp only[QS,hx];exact ih h
theorem Vl{env:Env}{x:Str}{k:NameKind}(hk:k≠.free):∀{names:List (Str×NameKind)},names.lookup x=O k ->
  (names.map λ(n,k)=>if(k==NameKind.free&&env.scope.kind==.function&&env.kindOf n==O .cell)then(n,NameKind.cell)else(n,k)).lookup x=O k
 |[],h=>by cases h
 |(n,j)::r,h=>by
  have ih:=@Vl env x k hk r;show List.lookup x ((if(j==NameKind.free&&env.scope.kind==.function&&env.kindOf n==O .cell)=jR then(n,NameKind.cell)else(n,j))::_)=_;cases hx:x==n with
  |true=>
   simp only[QS,hx]at h;cases h;have:(k==NameKind.free)=jS:=by cases k<;>first|rfl|exact absurd jP hk
   rw[if_neg (by rw[this];simp)];simp[List.lookup_cons,hx]
  |false=>
   simp only[QS,hx]at h;by_cases hc:(j==NameKind.free&&env.scope.kind==.function&&env.kindOf n==O .cell)=jR
   .rw[Qs hc];simp only[QS,hx];exact ih h
   .rw[QE hc];simp only[QS,hx];exact ih h
structure ClOk(env:Env)(scope:Scope)(cl:List (Str×Uu))(L:Uu)(h':Heap):Prop where
 old:∀x c,cl.lookup x=O c->env.cells.lookup x=O c∨(L<c/\h'.IsCell c jQ)
 fre:∀x,scope.names.lookup x=O .free->∃c,cl.lookup x=O c/\env.cells.lookup x=O c
 cel:∀x,scope.names.lookup x=O .cell->∃c,cl.lookup x=O c/\L<c
 inj:∀x y c,cl.lookup x=O c->cl.lookup y=O c->L<c->x=y
theorem Sn:∀(names:List (Str×NameKind))(n:Nat)(acc:List (Str×Uu)),cellsFrom n names acc=cellsFrom n names []++acc
 |[],_,_=>rfl
 |(x,k)::r,n,acc=>by
  unfold cellsFrom;split
  .rw[Sn r (n+1) ((x,n)::acc),Sn r (n+1) [(x,n)],Q8];rfl
  .exact Sn r n acc
theorem P9:∀(names:List (Str×NameKind))(n:Nat)(x:Str)(c:Uu),(x,c)∈cellsFrom n names []->(x,NameKind.cell)∈names
 |[],_,_,_,h=>by cases h
 |(y,k)::r,n,x,c,h=>by
  unfold cellsFrom at h;split at h
  .rename_i hk
   rw[Sn]at h;rcases Q0.mp h with h|h
   .exact Qp _ (P9 r _ x c h)
   .cases QN.mp h
    have:k=.cell:=by simpa using hk
    rw[this];exact Qo
  .exact Qp _ (P9 r _ x c h)
theorem FS{M:Model}{A:Around}{E:Ur->Us->Prop}{scope:Scope}{env:Env}{xK:List (Str×Uu)}{s:Us}{Q:Env->Us->Prop}(xJ:∀x c,xK.lookup x=O c->env.cells.lookup x=O c)(cl2:∀y∈scope.names,y.2=.free->∃c,xK.lookup y.1=O c)(hn:∀y∈scope.names,scope.names.lookup y.1=O y.2)
  (hlt:∀x c,env.cells.lookup x=O c->c<s.heap.objs.size)
  (h:∀h' cl,h'.Ns s.heap.objs.size (λ_=>jQ)->(∀b o,s.heap.get? b=O o->h'.get? b=O o)->ClOk env scope cl s.heap.objs.size h'->Q (newEnv scope s.heap.objs.size env.globals cl env.qual jQ .none (O env) builtinsNs) {s with heap:=h'}) :
  Uy M A (newFunctionEnv scope env.globals xK [] env.qual jQ .none (O env)) Q E s:=by
 simp only[newFunctionEnv,Option.isSome_some,Up];refine Qb (wpAny_alloc ?_);refine wpAny_bind (wpAny_layCells _ (λname kind cells=>by cases hkc:kind==NameKind.cell<;>simp[hkc]) _ _ _ _ ?_);have ok:=cellsFrom_ok scope.names (s.heap.push {cls:=.type "dict", data:=.dict #[]}) (s.heap.objs.size+1) [] ⟨λ_ _ hm=>(nomatch hm),List.Pairwise.nil⟩ (by rw[QU];exact Ql _);rw[QU]at ok;rw[show({s with heap:=s.heap.push {cls:=.type "dict", data:=.dict #[]}}:Us).heap.objs.size=s.heap.objs.size+1 from QU ..];rw[List.forIn_nil];refine Qb (Qg (Qg (h _ _ ((Heap.Ns.new s.heap (.type "dict")).keeps (pushCells_keeps _ _)) (λb o e=>pushCells_keeps _ _ b o (Qe _ e)) ?_)));have look:∀x,(cellsFrom (s.heap.objs.size+1) scope.names xK).lookup x=((cellsFrom (s.heap.objs.size+1) scope.names []).lookup x).or (xK.lookup x):=λx=>by rw[Sn,List.lookup_append]
 have own:∀x c,(cellsFrom (s.heap.objs.size+1) scope.names []).lookup x=O c->scope.names.lookup x=O .cell:=λx c e=>hn _ (P9 _ _ _ _ (Jc e))
 refine⟨λx c e=>?_,λx e=>?_,λx e=>?_,λx y c e1 e2 hc=>?_⟩
 .rw[look]at e
  cases z:(cellsFrom (s.heap.objs.size+1) scope.names []).lookup x with
  |none=>rw[z]at e;exact .inl (xJ x c e)
  |some c'=>rw[z]at e;cases e;obtain⟨h1,h2⟩:=ok.empty x c (Jc z);exact .inr ⟨h2,h1⟩
 .obtain⟨c,hc⟩:=cl2 (x,.free) (mem_of_lookup e) jP
  refine⟨c,?_,xJ x c hc⟩;rw[look];cases z:(cellsFrom (s.heap.objs.size+1) scope.names []).lookup x with
  |none=>exact hc
  |some c'=>have:=own x c' z;rw[e]at this;cases this
 .obtain⟨c,hc⟩:=Py (n:=s.heap.objs.size+1) e
  refine⟨c,by rw[look,hc];rfl,(ok.empty x c (Jc hc)).2⟩
 .rw[look]at e1 e2
  cases z1:(cellsFrom (s.heap.objs.size+1) scope.names []).lookup x with
  |none=>rw[z1]at e1;exact absurd (hlt x c (xJ x c e1)) (Nat.lt_asymm hc)
  |some c1=>
  cases z2:(cellsFrom (s.heap.objs.size+1) scope.names []).lookup y with
  |none=>rw[z2]at e2;exact absurd (hlt y c (xJ y c e2)) (Nat.lt_asymm hc)
  |some c2=>rw[z1]at e1;rw[z2]at e2;cases e1;cases e2;exact name_of_addr ok.apart (Jc z1) (Jc z2)
noncomputable def Cx.blk(X:Cx)(N':List Str)(scope:Scope)(cl:List (Str×Uu))(C:Uu)(s₀:Us)(H₀:Hp)(ex:j4):Cx:=
 {X with N:=N',s₀:=s₀,H₀:=H₀,env:=compEnvC scope cl C X.env,outer:=X.stack,ex:=ex,fn:=λx=>scope.names.lookup x==O .cell,xe:=λ_ _=>False}
section
variable{X:Cx}{N':List Str}{scope:Scope}{cl:List (Str×Uu)}{C:Uu}{s₀:Us}{H₀:Hp}{ex:j4}{x:Str}
noncomputable def visK:Option NameKind->Bool
 |some .local=>jR|some .free=>jR|some .cell=>jR|_=>jS
theorem Ca(h:visK (scope.names.lookup x)=jR):Vis (X.blk N' scope cl C s₀ H₀ ex).env.scope x:=by
 cases z:scope.names.lookup x with
 |none=>rw[z]at h;cases h
 |some y=>
  rw[z]at h;cases y with
  | «local»=>exact .inl (Vl (by decide) z)
  |cell=>exact .inr (.inl (Vl (by decide) z))
  |free=>
   rcases LD (env:=X.env) z with z|z
   .exact .inr (.inr z)
   .exact .inr (.inl z)
  |_=>cases h
noncomputable def locK:Option NameKind->Bool
 |some .local=>jR|some .cell=>jR|_=>jS
theorem NG(h:locK (scope.names.lookup x)=jR):Loc (X.blk N' scope cl C s₀ H₀ ex).env.scope x/\((X.blk N' scope cl C s₀ H₀ ex).fn x=jR∨(X.blk N' scope cl C s₀ H₀ ex).env.scope.names.lookup x=O .local):=by
 cases z:scope.names.lookup x with
 |none=>rw[z]at h;cases h
 |some y=>
  rw[z]at h;cases y with
  | «local»=>exact⟨.inl (Vl (by decide) z),.inr (Vl (by decide) z)⟩
  |cell=>exact⟨.inr (Vl (by decide) z),.inl (by show(scope.names.lookup x==O .cell)=jR;rw[z];rfl)⟩
  |_=>cases h
theorem FR(h:scope.names.lookup x=O .globalImplicit):Gl (X.blk N' scope cl C s₀ H₀ ex) x:=Vl (by decide) h
end
noncomputable def Se(names:List (Str×NameKind))(N N2:List Str)(k:Nat):Bool:=
 N2.length==N.length+k&&(UB N2.length).all λi=>match N2[i]? with
  |none=>jR
  |some x=>match names.lookup x with
   |some .free=>N[i]?==O x
   |some .local=>decide (N.length<=i)&&decide (i<N.length+k)
   |some .cell=>decide (N.length<=i)&&decide (i<N.length+k)
   |_=>jR
theorem jr{names:List (Str×NameKind)}{N N2:List Str}{k:Nat}(h:Se names N N2 k=jR) :
  N2.length=N.length+k/\∀(i:Nat) x,N2[i]?=O x->(names.lookup x=O .free->N[i]?=O x)/\(names.lookup x=O .local∨names.lookup x=O .cell->N.length<=i/\i<N.length+k):=by
 unfold Se at h;simp only[Qr,beq_iff_eq,QM,Jm]at h;refine⟨h.1,λi x e=>?_⟩;have hi:=(Qq.mp e).1;have:=h.2 i hi;rw[e]at this;refine⟨λq=>?_,λq=>?_⟩
 .simp only[q]at this
  simpa using this
 .rcases q with q|q<;>(simp only[q]at this;simpa using this)
theorem Inv.enter{X:Cx}{pins:List (Uu×Obj)}{σ:St}{H:Hp}{s3:Us}(I:Inv X pins σ H s3){scope:Scope}{cl:List (Str×Uu)}{N2:List Str}{k:Nat}{h':Heap}{fp:j4}{t':Nat}{m0:Str->jW}
  (hb:Se scope.names X.N N2 k=jR) (hkind:scope.kind=.function)
  (hfree:∀y∈scope.names,y.2=.free->X.env.scope.names.lookup y.1=O .cell∨X.env.scope.names.lookup y.1=O .free)
  (hc:ClOk X.env scope cl s3.heap.objs.size h')
  (hn:h'.Ns s3.heap.objs.size m0) (hk:∀b o,s3.heap.get? b=O o->h'.get? b=O o) (hf:∀b∈fp,Zt X pins H b) (hfo:∀b∈fp,∃o,s3.heap.get? b=O o) :
  Inv (X.blk N2 scope cl s3.heap.objs.size s3 H fp) pins (σ++UC k jQ) H {s3 with heap:=h',toks:=t'}:=by
 obtain⟨hl,hN⟩:=jr hb;have lt:∀b o,s3.heap.get? b=O o->b≠s3.heap.objs.size:=λb o e=>QI (Qf e);have ofl:∀x,scope.names.lookup x=O .free->(x,NameKind.free)∈scope.names:=λx h=>mem_of_lookup h;have kinv:∀x kk,(X.blk N2 scope cl s3.heap.objs.size s3 H fp).env.scope.names.lookup x=O kk->scope.names.lookup x=O kk∨(scope.names.lookup x=O .free/\kk=.cell):=λx kk h=>LI (env:=X.env) h
 have isfc:∀x,(X.blk N2 scope cl s3.heap.objs.size s3 H fp).env.scope.names.lookup x=O .cell∨(X.blk N2 scope cl s3.heap.objs.size s3 H fp).env.scope.names.lookup x=O .free->scope.names.lookup x=O .free∨scope.names.lookup x=O .cell:=λx h=>by
  rcases h with h|h
  .rcases kinv x _ h with z|z
   .exact .inr z
   .exact .inl z.1
  .rcases kinv x _ h with z|z
   .exact .inl z
   .exact .inl z.1
 have lto:∀x c,X.env.cells.lookup x=O c->c<s3.heap.objs.size:=λx c e=>let ⟨_,q⟩:=I.cell x c e;q.lt
 have ok:(X.blk N2 scope cl s3.heap.objs.size s3 H fp).Ok:=
  {
   mod:=I.ok.mod
   kind:=hkind
   glob:=I.ok.glob
   blt:=I.ok.blt
   above:=Ql _
   inj:=λx y c a b=>by
    rcases hc.old x c a with q|⟨q,_⟩
    .rcases hc.old y c b with q'|⟨q',_⟩
     .exact I.ok.inj x y c q q'
     .exact absurd (lto x c q) (Nat.lt_asymm q')
    .exact hc.inj x y c a b q
   has:=λx h=>by
    rcases isfc x h with z|z
    .exact let ⟨c,e,_⟩:=hc.fre x z;⟨c,e⟩
    .exact let ⟨c,e,_⟩:=hc.cel x z;⟨c,e⟩
   cab:=λx c h e=>by
    have z:scope.names.lookup x=O .cell:=by have h:(scope.names.lookup x==O .cell)=jR:=h;simpa using h
    obtain⟨c',e',l⟩:=hc.cel x z;have e:cl.lookup x=O c:=e;rw[e]at e';cases e';exact Ui l
   hd:=I.ok.hd
   frames:=I.ok.frames
   stk:=.inl jP
   exf:=λb hb=>⟨let ⟨o,e⟩:=hfo b hb;lt b o e,λx c e=>by
    rcases hc.old x c e with q|⟨q,_⟩
    .exact(hf b hb).2.2.2.2.1 x c q
    .obtain⟨o,e'⟩:=hfo b hb
     exact Jl (Nat.lt_trans (Qf e') q)⟩
   bs:=I.bs
   bsz:=Qz I.ok.bsz I.sz
   noex:=λb o e hb=>by
    rcases(hf b hb).2.2.2.1 with z|z
    .exact I.ok.noex b o e z
    .exact absurd (Qy (Qf e) (Qz I.ok.bsz z)) (Jz _)
   exfs:=λb hb hx=>by
    rcases Qu.mp (I.stkSub b hx)with z|z
    .exact(hf b hb).2.1 z
    .exact(hf b hb).2.2.1 z
   funs:=I.stack
   frf:=I.stkFree}
 refine⟨ok,rfl,I.bare,Un.kept hk,⟨m0,hn,λi x v e1 e2 e3=>?_⟩,λx c e=>?_,I.hok.fresh (Ql _),λx c e=>(hc.old x c e).elim (I.freeC x c) λq=>I.hok.fresh (Ui q.1),λp hp=>?_,I.hok.kept hk,?_⟩
 .have nl:¬(scope.names.lookup x=O .local∨scope.names.lookup x=O .cell):=λz=>by
   obtain⟨g1,g2⟩:=(hN i x e1).2 z;rw[←I.len]at g1 g2;rw[Qx g1,QD]at e2;split at e2<;>cases e2
  have fr:scope.names.lookup x=O .free:=by
   rcases e3 with z|z
   .rcases kinv x _ z with q|q
    .exact absurd (.inl q) nl
    .cases q.2
   .rcases isfc x z with q|q
    .exact q
    .exact absurd (.inr q) nl
  have eN:=(hN i x e1).1 fr;have hi:i<σ.length:=by rw[I.len];exact(Qq.mp eN).1
  rw[Qv hi]at e2;obtain⟨m,hm,hlk⟩:=I.loc;have hkd:=hfree _ (ofl x fr) jP;obtain⟨u,r,l⟩:=hlk i x v eN e2 (.inr hkd);refine⟨u,r,.inr ⟨?_,?_⟩⟩
  .rcases e3 with z|z|z
   .rcases kinv x _ z with q|q
    .exact absurd (.inl q) nl
    .cases q.2
   .exact .inl z
   .exact .inr z
  .rcases l with l|⟨_,c,ec,z⟩
   .have:X.env.scope.names.lookup x=O .local:=l.1
    rcases hkd with q|q<;>(dsimp only at q;rw[this]at q;cases q)
   .obtain⟨c',ec',this⟩:=hc.fre x fr
    rw[ec]at this;cases this;obtain⟨o,ho,hd⟩:=z;exact⟨c,ec',o,hk c o ho,hd⟩
 .rcases hc.old x c e with q|⟨_,q⟩
  .obtain⟨v,o,ho,hd⟩:=I.cell x c q
   exact⟨v,o,hk c o ho,hd⟩
  .exact⟨_,q⟩
 .obtain⟨e,n,ne,nf,d⟩:=I.pin p hp
  refine⟨hk _ _ e,n,lt _ _ e,λz=>?_,d⟩;rcases Qu.mp (I.stkSub _ z)with q|q
  .exact ne q
  .exact nf q
 .rw[Qk,QR,I.len]
  exact hl.symm
noncomputable abbrev nox:Ur->Us->Prop:=λ_ _=>False
def Sd(prog:Ut)(w:World)(A:Around)(tg:Uw)(ifs:jX)(env:Env)(it:Ur)(code:Code)(W:(Us->Prop)->Us->Prop):Prop:=
 ∀(R:Result->Us->Prop)(I:Nat->Us->Prop)(n:Nat)(s:Us),I n s ->
  (∀n s,I n s->Uy (model prog w) A (pyNext it) (λr s₁=>match r with
   |none=>R (.ok .next) s₁
   |some v=>Uy (model prog w) A (letOwnedTupleGo tg it v) (λ_ s₁'=>Uy (model prog w) A (assign tg env v) (λ_ s₂=>
     Uy (model prog w) A (forIn ifs jR λc r=>if r=jR then do let ok ←isTrue c env (eval c env);pure (ForInStep.yield ok)else pure (ForInStep.yield r)) (λok s₃=>
      if ok=jR then W (λs₅=>∃m,m<n/\I m s₅) s₃ else ∃m,m<n/\I m s₃) nox s₂) nox s₁') nox s₁) nox s)->codeAny (model prog w) A code R s
section
variable{prog:Ut}{w:World}{A:Around}{elt tg i:Uw}{ifs:jX}{gens:List Comprehension}{scope:Scope}{pos:Pos}{it acc:Ur}{env:Env}{j:Nat}
theorem Aa(hg:gens[j]?=O ⟨tg,i,ifs,0⟩)(hn:gens[j+1]?=jQ):Sd prog w A tg ifs env it (.compLoop (.ListComp elt gens scope pos) j it acc env)
  (λQ s=>Uy (model prog w) A (eval elt env) (λx s₄=>Uy (model prog w) A (call (.builtin "list.append") [acc,x]) (λ_ s₅=>Q s₅) nox s₄) nox s):=by
 intro R I n s h turn;refine codeAny_loop jP I (λn s hI=>?_) n h;show Uy _ A ((compTurn (.ListComp elt gens scope pos) j it acc env).onRaise (λx=>do noteFrame x env;theTreesLotGoes x)) _ _ s;refine wpAny_noted ?_;unfold compTurn;dsimp only;simp only[hg,hn];refine Qb (Jp (Qb (QF (turn n s hI) (λr s₁ h₁=>?_) λ_ _ h'=>h'.elim)));cases r with
 |none=>exact Qg h₁
 |some v=>
  refine Qb (QF h₁ (λ_ s₁' h₁'=>?_) λ_ _ h'=>h'.elim);refine Qb (QF h₁' (λ_ s₂ h₂=>Qb (QF h₂ (λok s₃ h₃=>?_) λ_ _ h'=>h'.elim)) λ_ _ h'=>h'.elim);cases ok with
  |false=>exact Qg ⟨rfl,h₃⟩
  |true=>exact Qb (Qb (QF h₃ (λx s₄ h₄=>Qb (QF h₄ (λ_ s₅ h₅=>Qg (Qg ⟨rfl,h₅⟩)) λ_ _ h'=>h'.elim)) λ_ _ h'=>h'.elim))
theorem B9{kT i1:Uw}{ifs1:jX}(hg:gens[j]?=O ⟨tg,i,ifs,0⟩)(hn:gens[j+1]?=O ⟨kT,i1,ifs1,0⟩)(hs:∀x,UP i1 env x=pure x):Sd prog w A tg ifs env it (.compLoop (.ListComp elt gens scope pos) j it acc env)
  (λQ s=>Uy (model prog w) A (eval i1 env) (λx s₄=>Uy (model prog w) A (pyIter x) (λkE s₅=>codeAny (model prog w) A (.compStart (.ListComp elt gens scope pos) (j+1) kE acc env)
   (λr s₆=>match r with | .ok _=>Q s₆ | .error _=>False) s₅) nox s₄) nox s):=by
 intro R I n s h turn;refine codeAny_loop jP I (λn s hI=>?_) n h;show Uy _ A ((compTurn (.ListComp elt gens scope pos) j it acc env).onRaise (λx=>do noteFrame x env;theTreesLotGoes x)) _ _ s;refine wpAny_noted ?_;unfold compTurn;dsimp only;simp only[hg,hn];refine Qb (Jp (Qb (QF (turn n s hI) (λr s₁ h₁=>?_) λ_ _ h'=>h'.elim)));cases r with
 |none=>exact Qg h₁
 |some v=>
  refine Qb (QF h₁ (λ_ s₁' h₁'=>?_) λ_ _ h'=>h'.elim);refine Qb (QF h₁' (λ_ s₂ h₂=>Qb (QF h₂ (λok s₃ h₃=>?_) λ_ _ h'=>h'.elim)) λ_ _ h'=>h'.elim);cases ok with
  |false=>exact Qg ⟨rfl,h₃⟩
  |true=>
   refine Qb (QF h₃ (λx s₄ h₄=>Qb (Jp (Qb (wpAny_of_eq (hs x) (Qb (JD (QF h₄ (λkE s₅ h₅=>?_) λ_ _ h'=>h'.elim))))))) λ_ _ h'=>h'.elim);refine Qb (wpAny_runOwn (Jv h₅ λr s₆ h₆=>?_));cases r with
   |ok f=>exact Qg ⟨rfl,h₆⟩
   |error x=>exact h₆.elim
theorem jq{R:Result->Us->Prop}{s:Us}(hg:gens[j]?=O ⟨tg,i,ifs,0⟩)
  (h0:codeAny (model prog w) A (.compLoop (.ListComp elt gens scope pos) j it acc env) R s)
  (h:Uy (model prog w) A (pyIter it) (λit' s'=>codeAny (model prog w) A (.compLoop (.ListComp elt gens scope pos) j it' acc env) R s') nox s) :
  codeAny (model prog w) A (.compStart (.ListComp elt gens scope pos) j it acc env) R s:=by
 refine codeAny_of_tree ?_;show Uy _ _ ((compStart (.ListComp elt gens scope pos) j it acc env).onRaise (λx=>do noteFrame x env;standAt theWindowsPlace)) _ _ s;refine wpAny_notedAt ?_;unfold compStart;have hc:(clausesOf (.ListComp elt gens scope pos))[j]?=O ⟨tg,i,ifs,0⟩:=hg;simp only[hc];show Uy _ _ (ask >>= _) _ _ s;refine Qb (wpAny_askSetting (wpAny_ite ?_));split
 .first
   |exact Qb (Qg (Qg (And.intro rfl h0)))
   |exact Qg (And.intro rfl h0)
 .first
   |exact Qb (wpAny_rule (Qb (Jp (Qb (QF h (λit' s' h'=>Qg (And.intro rfl h')) λ_ _ x=>x.elim)))))
   |(refine Qb (wpAny_rule ?_);show Uy _ _ (standAt _ >>= _) _ _ s;exact Qb (Jp (Qb (QF h (λit' s' h'=>Qg (And.intro rfl h')) λ_ _ x=>x.elim))))
end
end L2
namespace DL
open PySem PySem.Spec L2
open PyProof.Rows hiding St
noncomputable def Xj:Option Sl->Option Sl
 |some (.own _)=>jQ
 |some (.deep _ _)=>jQ
 |x=>x
noncomputable def Kk(Z:UR):UR:=Z.map Xj
theorem B8{Z:UR}{i:Nat}{d:D}(h:(Kk Z)[i]?=O (O (.pub d))):Z[i]?=O (O (.pub d)):=by
 unfold Kk at h;rw[Qi]at h;cases e:Z[i]? with
 |none=>rw[e]at h;cases h
 |some o=>
  rw[e]at h;cases o with
  |none=>cases h
  |some sl=>cases sl with
   |pub d'=>cases h;rfl
   |own ds=>cases h
   |deep p d'=>cases h
theorem Wd{Z:UR}{i:Nat}{ds:jT}(h:(Kk Z)[i]?=O (O (.own ds))):False:=by
 unfold Kk at h;rw[Qi]at h;cases e:Z[i]? with
 |none=>rw[e]at h;cases h
 |some o=>
  rw[e]at h;cases o with
  |none=>cases h
  |some sl=>cases sl with
   |pub d'=>cases h
   |own ds=>cases h
   |deep p d'=>cases h
theorem P6{Z:UR}{i:Nat}{p:Pat}{d:D}(h:(Kk Z)[i]?=O (O (.deep p d))):False:=by
 unfold Kk at h;rw[Qi]at h;cases e:Z[i]? with
 |none=>rw[e]at h;cases h
 |some o=>
  rw[e]at h;cases o with
  |none=>cases h
  |some sl=>cases sl<;>cases h
noncomputable def K7(s:D->UR->jZ)(t:M Bool)(g:M D):jT->UR->jT->Option jT
 |[],_,es=>O es
 |d::r,Z,es=>match s d Z with
  |none=>jQ
  |some Z1=>match t Z1 with
   |.bad=>jQ
   |.ok b Z2=>if b=jR then(match g Z2 with
     |.bad=>jQ
     |.ok e Z3=>if es.length<1000000 then K7 s t g r (Kk Z3) (es++[e])else jQ)
    else K7 s t g r (Kk Z2) es
noncomputable def Yt(f:M jT)(k:Nat)(s:D->UR->jZ)(t:M Bool)(g:M D):M jT:=λZ=>match f Z with
 |.bad=>.bad
 |.ok ds Z1=>match K7 s t g ds (Kk Z1++UC k jQ) []with
  |none=>.bad
  |some es=>.ok es Z1
def YG(X:Cx)(ifs:jX)(t:TT):Prop:=
 ∀(pins:List (Uu×Obj))(s:Us)(σ:St)(H:Hp)(Q:Bool->Hp->Prop),Inv X pins σ H s->t σ H Q ->
  Uy (model X.prog X.w) X.A (forIn ifs jR λc r=>if r=jR then do let ok ←isTrue c X.env (eval c X.env);pure (ForInStep.yield ok)else pure (ForInStep.yield r)) (TP X pins σ Q) X.xe s
section
variable{X:Cx}{B G0:Hp}
theorem D9:YG X [] (tBo X.K B G0 (UV jR)):=λpins s σ H Q I ⟨G,Z,k,a⟩=>wpAny_tests_nil ⟨H,I,a jR G H k (.refl _) jP⟩
theorem D8{c:Uw}{t:M Bool}(h:PT X c (tBo X.K B G0 t)):YG X [c] (tBo X.K B G0 t):=λpins s σ H Q I q=>wpAny_tests_one (h pins s σ H Q I q)
theorem EOk.rebase{K:Frag}{G H:Hp}{σ:St}{Z:UR}(k:EOk K B G0 G H σ Z):EOk K H G G H σ (Kk Z) where
 bh:=.refl _
 gh:=k.gh
 g0:=.refl _
 np:=λ_ _ _ n=>n
 len:=by unfold Kk;rw[Qd];exact k.len
 pub:=λi d q=>k.pub i d (B8 q)
 own:=λi ds q=>(Wd q).elim
 sep:=λi j a ds es q=>(Wd q).elim
 dp:=.of (λ_ _ _ q=>P6 q) λ_ _ q=>Wd q
theorem EOk.more{K:Frag}{G H:Hp}{σ:St}{Z:UR}(k:EOk K H G G H σ (Kk Z))(n:Nat):EOk K H G G H (σ++UC n jQ) (Kk Z++UC n jQ) where
 bh:=.refl _
 gh:=k.gh
 g0:=.refl _
 np:=λ_ _ _ n=>n
 len:=by rw[Qk,Qk,k.len,QR,QR]
 pub:=λi d q=>by
  by_cases hi:i<(Kk Z).length
  .rw[Qv hi]at q
   rw[Qv (by rw[←k.len];exact hi)];exact k.pub i d q
  .rw[Qx (Q7 hi),QD]at q
   split at q<;>cases q
 own:=λi ds q=>by
  by_cases hi:i<(Kk Z).length
  .rw[Qv hi]at q
   exact(Wd q).elim
  .rw[Qx (Q7 hi),QD]at q
   split at q<;>cases q
 sep:=λi j a ds es q=>by
  by_cases hi:i<(Kk Z).length
  .rw[Qv hi]at q
   exact(Wd q).elim
  .rw[Qx (Q7 hi),QD]at q
   split at q<;>cases q
 dp:=by
  refine .of (λi p d q=>?_) λi ds q=>?_
  .by_cases hi:i<(Kk Z).length
   .rw[Qv hi]at q;exact P6 q
   .rw[Qx (Q7 hi),QD]at q;split at q<;>cases q
  .by_cases hi:i<(Kk Z).length
   .rw[Qv hi]at q;exact Wd q
   .rw[Qx (Q7 hi),QD]at q;split at q<;>cases q
theorem EOk.beside{K:Frag}{G H:Hp}{σ:St}{Z:UR}{a:Uu}{o:HO}(k:EOk K B G0 G H σ Z)(hg:G a=jQ):EOk K (upd H a o) G G (upd H a o) σ (Kk Z) where
 bh:=.refl _
 gh:=λb u e=>by rw[Kp (λz=>by subst z;rw[hg]at e;cases e)];exact k.gh b u e
 g0:=.refl _
 np:=λ_ _ _ n=>n
 len:=k.rebase.len
 pub:=k.rebase.pub
 own:=λi ds q=>(Wd q).elim
 sep:=λi j a ds es q=>(Wd q).elim
 dp:=.of (λ_ _ _ q=>P6 q) λ_ _ q=>Wd q
theorem lim1:1000000<=Ux:=lim
noncomputable def HI:Option Sl->Option Sl
 |some (.own ds)=>O (.pub (.list ds))
 |some (.deep _ d)=>O (.pub d)
 |x=>x
noncomputable def ZX(Z:UR):UR:=Z.map HI
theorem B7{Z:UR}{i:Nat}{d:D}(h:(ZX Z)[i]?=O (O (.pub d))):Z[i]?=O (O (.pub d))∨(∃ds,d=.list ds/\Z[i]?=O (O (.own ds))) ∨ ∃p,Z[i]?=O (O (.deep p d)):=by
 unfold ZX at h;rw[Qi]at h;cases e:Z[i]? with
 |none=>rw[e]at h;cases h
 |some o=>
  rw[e]at h;cases o with
  |none=>cases h
  |some sl=>cases sl with
   |pub d'=>cases h;exact .inl jP
   |own ds=>cases h;exact .inr (.inl ⟨ds,rfl,rfl⟩)
   |deep p d'=>cases h;exact .inr (.inr ⟨p,rfl⟩)
theorem PL{Z:UR}{i:Nat}{ds:jT}(h:(ZX Z)[i]?=O (O (.own ds))):False:=by
 unfold ZX at h;rw[Qi]at h;cases e:Z[i]? with
 |none=>rw[e]at h;cases h
 |some o=>
  rw[e]at h;cases o with
  |none=>cases h
  |some sl=>cases sl with
   |pub d'=>cases h
   |own ds=>cases h
   |deep p d'=>cases h
theorem qJ{Z:UR}{i:Nat}{p:Pat}{d:D}(h:(ZX Z)[i]?=O (O (.deep p d))):False:=by
 unfold ZX at h;rw[Qi]at h;cases e:Z[i]? with
 |none=>rw[e]at h;cases h
 |some o=>
  rw[e]at h;cases o with
  |none=>cases h
  |some sl=>cases sl<;>cases h
noncomputable def flat:D->Bool
 |.none=>jR | .bool _=>jR | .int _=>jR | .str _=>jR|_=>jS
theorem Rep.flat{K:Frag}{G G':Hp}{v:V}{d:D}(r:Rep K G v d)(h:DL.flat d=jR):Rep K G' v d:=by
 cases r with
 |non=>exact .non
 |bl b=>exact .bl b
 |int i=>exact .int i
 |str x=>exact .str x
 |lst _ _=>cases h
 |tup _ _=>cases h
 |dic _=>cases h
 |exc _ _ _ _=>cases h
 |dct _ _ _ _ _=>cases h
 |dtt _ _ _ _=>cases h
theorem Reps.flat{K:Frag}{G G':Hp}:∀{vs:List V}{ds:jT},Reps K G vs ds->ds.all DL.flat=jR->Reps K G' vs ds
 |_,_,.nil,_=>.nil
 |_,_,.cons r t,h=>by rw[Jh,Qr]at h;exact .cons (r.flat h.1) (Reps.flat t h.2)
theorem EOk.lend{K:Frag}{B G0 G H:Hp}{σ:St}{Z:UR}{D:Uu}{o:HO}(k:EOk K B G0 G H σ Z)(hD:H D=jQ)(n:Nat):EOk K (upd H D o) H H (upd H D o) (σ++UC n jQ) (ZX Z++UC n jQ) where
 bh:=.refl _
 gh:=Zk hD
 g0:=.refl _
 np:=λ_ _ _ n=>n
 len:=by unfold ZX;rw[Qk,Qk,Qd,k.len,QR,QR]
 pub:=λi d q=>by
  have hl:(ZX Z).length=Z.length:=by unfold ZX;rw[Qd]
  by_cases hi:i<(ZX Z).length
  .rw[Qv hi]at q
   rw[Qv (by rw[←k.len,←hl];exact hi)];rcases B7 q with e|⟨ds,rfl,e⟩|⟨p,e⟩
   .obtain⟨v,h1,h2⟩:=k.pub i d e
    exact⟨v,h1,h2.mono k.gh⟩
   .obtain⟨a,vs,h1,h2,h3,h4,h5⟩:=k.own i ds e
    exact⟨.ref a,h1,.lst (SqL.of h4) (h5.mono k.gh)⟩
   .obtain⟨ω,k1,k2⟩:=k.dp
    obtain⟨v,fp,s,r,_⟩:=k1 i p d e;exact⟨v,s,r.rep k.gh⟩
  .rw[Qx (Q7 hi),QD]at q
   split at q<;>cases q
 own:=λi ds q=>by
  by_cases hi:i<(ZX Z).length
  .rw[Qv hi]at q
   exact(PL q).elim
  .rw[Qx (Q7 hi),QD]at q
   split at q<;>cases q
 sep:=λi j a ds es q=>by
  by_cases hi:i<(ZX Z).length
  .rw[Qv hi]at q
   exact(PL q).elim
  .rw[Qx (Q7 hi),QD]at q
   split at q<;>cases q
 dp:=by
  refine .of (λi p d q=>?_) λi ds q=>?_
  .by_cases hi:i<(ZX Z).length
   .rw[Qv hi]at q;exact qJ q
   .rw[Qx (Q7 hi),QD]at q;split at q<;>cases q
  .by_cases hi:i<(ZX Z).length
   .rw[Qv hi]at q;exact PL q
   .rw[Qx (Q7 hi),QD]at q;split at q<;>cases q
noncomputable def TX(f:M jT)(k:Nat)(s:D->UR->jZ)(t:M Bool)(g:M D):M jT:=λZ=>match f Z with
 |.bad=>.bad
 |.ok ds Z1=>match K7 s t g ds (ZX Z1++UC k jQ) []with
  |none=>.bad
  |some es=>if es.all flat=jR then .ok es Z1 else .bad
end
noncomputable def Yo(s:D->UR->jZ)(t:M Bool)(g:M D):jT->UR->jT->Option (jT×UR)
 |[],Z,es=>O (es,Z)
 |d::r,Z,es=>match s d Z with
  |none=>jQ
  |some Z1=>match t Z1 with
   |.bad=>jQ
   |.ok b Z2=>if b=jR then(match g Z2 with
     |.bad=>jQ
     |.ok e Z3=>if es.length<1000000 then Yo s t g r (Kk Z3) (es++[e])else jQ)
    else Yo s t g r (Kk Z2) es
noncomputable def Xd(s0:D->UR->jZ)(t0:M Bool)(f1:M jT)(s1:D->UR->jZ)(t1:M Bool)(g:M D):jT->UR->jT->Option jT
 |[],_,es=>O es
 |d::r,Z,es=>match s0 d Z with
  |none=>jQ
  |some Z1=>match t0 Z1 with
   |.bad=>jQ
   |.ok b Z2=>if b=jR then(match f1 Z2 with
     |.bad=>jQ
     |.ok ds Z3=>match Yo s1 t1 g ds (Kk Z3) es with
      |none=>jQ
      |some (es',Z4)=>Xd s0 t0 f1 s1 t1 g r Z4 es')
    else Xd s0 t0 f1 s1 t1 g r (Kk Z2) es
noncomputable def Va(f:M jT)(k:Nat)(s:D->UR->jZ)(t:M Bool)(f1:M jT)(xf:D->UR->jZ)(t1':M Bool)(g:M D):M jT:=λZ=>match f Z with
 |.bad=>.bad
 |.ok ds Z1=>match Xd s t f1 xf t1' g ds (Kk Z1++UC k jQ) []with
  |none=>.bad
  |some es=>.ok es Z1
noncomputable def YM(s0:D->UR->jZ)(t0:M Bool)(f1:M jT)(Rd:jT->UR->jT->Option (jT×UR)):jT->UR->jT->Option (jT×UR)
 |[],Z,es=>O (es,Z)
 |d::r,Z,es=>match s0 d Z with
  |none=>jQ
  |some Z1=>match t0 Z1 with
   |.bad=>jQ
   |.ok b Z2=>if b=jR then(match f1 Z2 with
     |.bad=>jQ
     |.ok ds Z3=>match Rd ds (Kk Z3) es with
      |none=>jQ
      |some (es',Z4)=>YM s0 t0 f1 Rd r Z4 es')
    else YM s0 t0 f1 Rd r (Kk Z2) es
noncomputable def VA(Rd:jT->UR->jT->Option (jT×UR))(ds:jT)(Z:UR)(es:jT):Option jT:=(Rd ds Z es).map (·.1)
noncomputable def TW(f:M jT)(k:Nat)(s:D->UR->jZ)(t:M Bool)(f1:M jT)(xf:D->UR->jZ)(t1':M Bool)(fx2:M jT)(s2':D->UR->jZ)(t2':M Bool)(g:M D):M jT:=λZ=>match f Z with
 |.bad=>.bad
 |.ok ds Z1=>match VA (YM s t f1 (YM xf t1' fx2 (Yo s2' t2' g))) ds (Kk Z1++UC k jQ) []with
  |none=>.bad
  |some es=>.ok es Z1
abbrev RdB:=UR->jT->Option (jT×UR)
noncomputable def rL(g:M D):RdB:=λZ es=>match g Z with
 |.bad=>jQ
 |.ok e Z3=>if es.length<1000000 then O (es++[e],Kk Z3)else jQ
noncomputable def cT(s:D->UR->jZ)(t:M Bool)(rd:RdB):jT->UR->jT->Option (jT×UR)
 |[],Z,es=>O (es,Z)
 |d::r,Z,es=>match s d Z with
  |none=>jQ
  |some Z1=>match t Z1 with
   |.bad=>jQ
   |.ok b Z2=>if b=jR then(match rd Z2 es with
     |none=>jQ
     |some (es',Z')=>cT s t rd r Z' es')
    else cT s t rd r (Kk Z2) es
noncomputable def rN(f:M jT)(s:D->UR->jZ)(t:M Bool)(rd:RdB):RdB:=λZ es=>match f Z with
 |.bad=>jQ
 |.ok ds Z3=>cT s t rd ds (Kk Z3) es
structure Left(Y:Cx)(D':Uu)(pins:List (Uu×Obj))(H G:Hp)(es':jT)(Z':UR)(σ':St)(H' G':Hp)(vs':List V)(s':Us):Prop where
 inv:Inv Y pins σ' H' s'
 eok:EOk Y.K H' G' G' H' σ' Z'
 hh:∀a o,a≠D'->H a=O o->H' a=O o
 gg:Same G G'
 np:∀a(u:MO),a≠D'->H a=O u.ho->G a=jQ->G' a=jQ
 hd:H' D'=O (.lst vs')
 gd:G' D'=jQ
 rp:Reps Y.K G' vs' es'
def TB(Y:Cx)(D':Uu)(W:(Us->Prop)->Us->Prop)(rd:RdB):Prop:=
 ∀(pins:List (Uu×Obj))(sh:Us)(σ:St)(B1 G1 H G:Hp)(Z Z':UR)(vs:List V)(es es':jT)(Q:Us->Prop),
  Inv Y pins σ H sh->EOk Y.K B1 G1 G H σ Z->B1 D'=O (.lst vs)->G1 D'=jQ->Reps Y.K G1 vs es->rd Z es=O (es',Z') ->
  (∀σ' H' G' vs' s',Left Y D' pins B1 G1 es' Z' σ' H' G' vs' s'->Q s')->W Q sh
section
variable{Y:Cx}{D':Uu}
theorem B6{elt:Uw}{g:M D}(hx:Y.xe=nox)(he:∀B1 G1,PE Y elt (tD Y.K B1 G1 g)) :
  TB Y D' (λQ s=>Uy (model Y.prog Y.w) Y.A (eval elt Y.env) (λx s₄=>Uy (model Y.prog Y.w) Y.A (call (.builtin "list.append") [.ref D',x]) (λ_ s₅=>Q s₅) nox s₄) nox s) (rL g):=by
 intro pins sh σ B1 G1 H G Z Z' vs es es' Q I k hD gD r z fin;unfold rL at z;cases zg:g Z with
 |bad=>rw[zg]at z;cases z
 |ok e Z4=>
 rw[zg]at z;dsimp only at z;split at z
 .rename_i hle
  cases z;have h:=he B1 G1 pins sh σ H (λv H8=>∃G8,EOk Y.K B1 G1 G8 H8 σ Z4/\Rep Y.K G8 v e) I ⟨G,Z,k,by unfold aft;rw[zg];exact λv G8 H8 k8 _ q=>⟨G8,k8,q⟩⟩;rw[hx]at h;refine thn h λev s8 ⟨v,H8,I8,rv,G8,k8,r8⟩=>?_;have h2:=MU pins s8 σ H8 (.ref D') [v] (.ref D') [ev] (λ_ H9=>H9=upd H8 D' (.lst (vs++[v]))) I8 jP (.cons rv .nil) ⟨D',vs,v,rfl,rfl,k8.bh _ _ hD,by have:=lim1;rw[r.length];lia,rfl⟩
  rw[hx]at h2;refine thn h2 λ_ s9 ⟨_,H9,I9,_,e9⟩=>?_;subst e9;have g8:=k8.np _ (.l _) hD gD;exact fin σ _ G8 _ s9 ⟨I9,k8.beside g8,λa o z q=>by rw[Kp z];exact k8.bh a o q,k8.g0,λa o _ q w=>k8.np a o q w,KO,g8,(r.mono k8.g0).append (.cons r8 .nil)⟩
 .cases z
theorem Me{tg:Uw}{ifs:jX}{code:Code}{W:(Us->Prop)->Us->Prop}{s:D->UR->jZ}{t:M Bool}{rd:RdB}{it:Uu}(hx:Y.xe=nox)(hc:Y.calm=jR)(rule:Sd Y.prog Y.w Y.A tg ifs Y.env (.ref it) code W)
  (hg:∀B1 G1,PG Y tg (tG Y.K B1 G1 s)) (ht:∀B1 G1,YG Y ifs (tBo Y.K B1 G1 t)) (hb:TB Y D' W rd)
  {pins:List (Uu×Obj)} {sh:Us} {σ:St} {H G:Hp} {Z ZF:UR} {fp:j4} {tn:Nat->Heap->Prop} {J:It} {ds es esF:jT} {vs:List V} {R:Result->Us->Prop}
  (I:Inv Y pins σ H sh) (T:Turn Y.prog Y.w Y.K tg J fp it tn) (st:tn 0 sh.heap) (hf:∀b∈fp,Zt Y pins H b)
  (k:EOk Y.K H G G H σ Z) (its:YT Y.K J ds G) (hD:H D'=O (.lst vs)) (gD:G D'=jQ) (r:Reps Y.K G vs es) (zl:cT s t rd ds Z es=O (esF,ZF))
  (xF:∀σ' H' G' vs' s',Left Y D' pins H G esF ZF σ' H' G' vs' s'->R (.ok .next) s'):codeAny (model Y.prog Y.w) Y.A code R sh:=by
 have stat:∀{H':Hp},(∀b∈fp,H' b=jQ)->∀b∈fp,Zt Y pins H' b:=λhn b hb=>⟨hn b hb,(hf b hb).2⟩
 refine rule R (λn s'=>∃i σ' H' G' Z' vs' es',n=ds.length-i/\tn i s'.heap/\(∀b∈fp,H' b=jQ)/\Left Y D' pins H G es' Z' σ' H' G' vs' s'/\cT s t rd (ds.drop i) Z' es'=O (esF,ZF)) ds.length sh
  ⟨0,σ,H,G,Z,vs,es,rfl,st,λb hb=>(hf b hb).1,⟨I,k,λ_ _ _ q=>q,.refl _,λ_ _ _ _ n=>n,hD,gD,r⟩,by rw[Uk];exact zl⟩ ?_
 rintro n s' ⟨i,σ',H',G',Z',vs',es',rfl,tn',fr',⟨I',k',xS,xN,np',kS,gD',r'⟩,zc⟩;by_cases hlt:i<ds.length
 .rw[JF hlt,cT]at zc
  cases zs:s ds[i] Z' with
  |none=>rw[zs]at zc;cases zc
  |some Z2=>
  rw[zs]at zc;dsimp only at zc;cases zt:t Z2 with
  |bad=>rw[zt]at zc;cases zc
  |ok b Z3=>
  rw[zt]at zc;dsimp only at zc;refine thn (T.item Y jP jP jP hc i pins s' σ' H' nox I' (stat fr') tn' (its.go i G' H' xN k'.gh hlt)) λrr s4 ⟨u,hr,h4⟩=>?_;subst hr;refine thn h4 λ_ s5 ⟨x,H5,I5,r5,y5,kU,fr5⟩=>?_
  obtain⟨G5,e5,rx⟩:=its.yld i G' H' x H5 ds[i] xN k'.gh (Qh hlt) y5;have h6:=hg H' G' _ s5 σ' H5 x u (λσ6 H6=>∃G6,EOk Y.K H' G' G6 H6 σ6 Z2) (I5.pinned (stat fr5) (T.obj _ _ kU)) r5 ⟨G5,Z',ds[i],Z2,k'.ext e5,rx,zs,λσ6 G6 H6 k6 _=>⟨G6,k6⟩⟩;rw[hx]at h6;refine thn h6 λ_ s6 ⟨σ6,H6,I6,G6,k6⟩=>?_;have h7:=ht H' G' _ s6 σ6 H6 (λc H7=>c=b/\∃G7,EOk Y.K H' G' G7 H7 σ6 Z3) I6 ⟨G6,Z2,k6,by unfold aft;rw[zt];exact λc G7 H7 k7 _ q=>⟨q,G7,k7⟩⟩
  rw[hx]at h7;refine thn h7 λok s7 ⟨H7,I7,hb7,G7,k7⟩=>?_;subst hb7
  have again:∀{H9:Hp}{σ9:St}{s9:Us},Inv Y (pins++TQ fp s5.heap) σ9 H9 s9->Inv Y pins σ9 H9 s9/\tn (i+1) s9.heap/\∀b∈fp,H9 b=jQ:=λ{H9 σ9 s9} I9=>by refine⟨I9.unpinned,T.keep _ _ _ kU λb hb o e=>(I9.pin (b,o) (QP _ (QP _ (Rn hb e)))).1,λb hb=>?_⟩;obtain⟨o,e,d⟩:=T.obj _ _ kU b hb;exact(I9.pin (b,o) (QP _ (QP _ (Rn hb e)))).2.1
  have lt:ds.length-(i+1)<ds.length-i:=Nat.sub_lt_sub_left hlt (Nat.lt_succ_self i);cases ok with
  |false=>rw[QE (by decide)]at zc⊢;obtain⟨J1,J2,J3⟩:=again I7;exact⟨_,lt,i+1,σ6,H7,G7,Kk Z3,vs',es',rfl,J2,J3,⟨J1,k7.rebase,λa o z q=>k7.bh a o (xS a o z q),xN.trans k7.g0,λa o z q w=>k7.np a o (xS a _ z q) (np' a o z q w),k7.bh _ _ kS,k7.np _ (.l _) kS gD',r'.mono k7.g0⟩,zc⟩
  |true=>
   rw[Qs jP]at zc⊢;cases ze:rd Z3 es' with
   |none=>rw[ze]at zc;cases zc
   |some pr=>
   obtain⟨es1,Z5⟩:=pr;rw[ze]at zc;refine hb _ s7 σ6 H' G' H7 G7 Z3 Z5 vs' es' es1 _ I7 k7 kS gD' r' ze λσ9 H9 G9 vs9 s9 L=>?_
   obtain⟨J1,J2,J3⟩:=again L.inv;exact⟨_,lt,i+1,σ9,H9,G9,Z5,vs9,es1,rfl,J2,J3,⟨J1,L.eok,λa o z q=>L.hh a o z (xS a o z q),xN.trans L.gg,λa o z q w=>L.np a o z (xS a _ z q) (np' a o z q w),L.hd,L.gd,L.rp⟩,zc⟩
 .rw[List.drop_eq_nil_of_le (Q7 hlt),cT]at zc
  cases zc;refine thn (T.done Y jP jP jP hc i pins s' σ' H' nox I' (stat fr') tn' (its.stop i G' H' xN k'.gh (Q7 hlt))) λrr s4 ⟨hr,I6⟩=>?_
  subst hr;exact xF σ' H' G' vs' s4 ⟨I6,k',xS,xN,np',kS,gD',r'⟩
theorem AB{elt kT i1:Uw}{ifs1:jX}{gens:List Comprehension}{scope:Scope}{pos:Pos}{j:Nat}{W:Ur->(Us->Prop)->Us->Prop}{f:M jT}{s:D->UR->jZ}{t:M Bool}{rd:RdB}(hx:Y.xe=nox)(hc:Y.calm=jR)
  (hn:gens[j+1]?=O ⟨kT,i1,ifs1,0⟩) (rule:∀kE,Sd Y.prog Y.w Y.A kT ifs1 Y.env kE (.compLoop (.ListComp elt gens scope pos) (j+1) kE (.ref D') Y.env) (W kE))
  (hi:∀B1 G1,PI Y kT i1 (iD Y.K B1 G1 f)) (hg:∀B1 G1,PG Y kT (tG Y.K B1 G1 s)) (ht:∀B1 G1,YG Y ifs1 (tBo Y.K B1 G1 t)) (hb:∀kE,TB Y D' (W kE) rd) :
  TB Y D' (λQ s=>Uy (model Y.prog Y.w) Y.A (eval i1 Y.env) (λx s₄=>Uy (model Y.prog Y.w) Y.A (pyIter x) (λkE s₅=>codeAny (model Y.prog Y.w) Y.A (.compStart (.ListComp elt gens scope pos) (j+1) kE (.ref D') Y.env)
   (λr s₆=>match r with | .ok _=>Q s₆ | .error _=>False) s₅) nox s₄) nox s) (rN f s t rd):=by
 intro pins sh σ B1 G1 H G Z Z' vs es es' Q I k hD gD r z fin;unfold rN at z;cases zf:f Z with
 |bad=>rw[zf]at z;cases z
 |ok ds Z3=>
 rw[zf]at z;have h:=hi B1 G1 pins sh σ H (λJ1 H8=>∃G8,EOk Y.K B1 G1 G8 H8 σ Z3/\YT Y.K J1 ds G8) I ⟨G,Z,k,by rw[zf];exact λJ1 G8 H8 k8 _ q=>⟨G8,k8,q⟩⟩;rw[hx]at h;refine thn h λxv s8 h8=>thn h8 λitv s9 h9=>?_
 obtain⟨kE,fp1,tn1,J1,H9,rfl,I9,T1,st9,f9,G9,k9,its9⟩:=h9
 have loop:codeAny (model Y.prog Y.w) Y.A (.compLoop (.ListComp elt gens scope pos) (j+1) (.ref kE) (.ref D') Y.env) (λr s₆=>match r with | .ok _=>Q s₆ | .error _=>False) s9:=
  Me hx hc (rule (.ref kE)) hg ht (hb _) I9 T1 st9 f9 k9.rebase its9 (k9.bh _ _ hD) (k9.np _ (.l _) hD gD) (r.mono k9.g0) z λσ' H' G' vs' s' L=>
   fin σ' H' G' vs' s' ⟨L.inv,L.eok,λa o z q=>L.hh a o z (k9.bh a o q),k9.g0.trans L.gg,λa o z q w=>L.np a o z (k9.bh a _ q) (k9.np a o q w),L.hd,L.gd,L.rp⟩
 exact jq hn loop (T1.self Y.A 0 _ _ _ st9 loop)
end
def TH(Y:Cx)(e:Uw)(j:Nat)(tg:Uw)(ifs:jX)(rd:RdB):Prop:=
 ∀(D':Uu)(it:Ur),∃W,Sd Y.prog Y.w Y.A tg ifs Y.env it (.compLoop e j it (.ref D') Y.env) W/\TB Y D' W rd
section
variable{Y:Cx}{elt tg i:Uw}{ifs:jX}{gens:List Comprehension}{scope:Scope}{pos:Pos}{j:Nat}
theorem AA{g:M D}(hx:Y.xe=nox)(hg:gens[j]?=O ⟨tg,i,ifs,0⟩)(hn:gens[j+1]?=jQ)(he:∀B1 G1,PE Y elt (tD Y.K B1 G1 g)):TH Y (.ListComp elt gens scope pos) j tg ifs (rL g):=
 λ_ _=>⟨_,Aa hg hn,B6 hx he⟩
theorem Az{kT i1:Uw}{ifs1:jX}{f:M jT}{s:D->UR->jZ}{t:M Bool}{rd:RdB}(hx:Y.xe=nox)(hc:Y.calm=jR)(hg:gens[j]?=O ⟨tg,i,ifs,0⟩)(hn:gens[j+1]?=O ⟨kT,i1,ifs1,0⟩)(hs:∀x,UP i1 Y.env x=pure x)
  (hi:∀B1 G1,PI Y kT i1 (iD Y.K B1 G1 f)) (hgt:∀B1 G1,PG Y kT (tG Y.K B1 G1 s)) (ht:∀B1 G1,YG Y ifs1 (tBo Y.K B1 G1 t)) (hb:TH Y (.ListComp elt gens scope pos) (j+1) kT ifs1 rd):TH Y (.ListComp elt gens scope pos) j tg ifs (rN f s t rd):=
 λD' _=>⟨_,B9 hg hn hs,AB hx hc hn (λkE=>(Classical.choose_spec (hb D' kE)).1) hi hgt ht (λkE=>(Classical.choose_spec (hb D' kE)).2)⟩
end
noncomputable def Yd(l:Bool)(Z:UR):UR:=match l with|true=>ZX Z|false=>Kk Z
theorem entry{K:Frag}{B G0 G1 H2:Hp}{σ:St}{Z1:UR}{D:Uu}(l:Bool)(k1:EOk K B G0 G1 H2 σ Z1)(hfr:H2 D=jQ)(n:Nat) :
  ∃Gb,EOk K (upd H2 D (.lst [])) Gb Gb (upd H2 D (.lst [])) (σ++UC n jQ) (Yd l Z1++UC n jQ)/\Same G1 Gb/\Gb D=jQ /\
   ∀(G' H':Hp) vs es,(l=jR->es.all flat=jR)->Same Gb G'->Same H2 H'->Same G' H'->(∀a(u:MO),H2 a=O u.ho->Gb a=jQ->G' a=jQ)->G' D=jQ->Reps K G' vs es->∃Gf,Ext G1 H2 Gf H'/\Gf D=jQ/\Reps K Gf vs es:=by
 have gD:G1 D=jQ:=k1.gh.free hfr;cases l with
 |false=>exact⟨G1,(k1.beside gD).more n,.refl _,gD,λG' H' vs es _ g h gh np d r=>⟨G',⟨h,g,gh,np⟩,d,r⟩⟩
 |true=>exact⟨H2,k1.lend hfr n,k1.gh,hfr,λG' H' vs es fl _ h _ _ _ r=>⟨G1,⟨h,.refl _,k1.gh.trans h,λ_ _ _ n=>n⟩,gD,r.flat (fl jP)⟩⟩
noncomputable def dCG(l:Bool)(f:M jT)(k:Nat)(s:D->UR->jZ)(t:M Bool)(rd:RdB):M jT:=λZ=>match f Z with
 |.bad=>.bad
 |.ok ds Z1=>match cT s t rd ds (Yd l Z1++UC k jQ) []with
  |none=>.bad
  |some (es,_)=>if l=jR->es.all flat=jR then .ok es Z1 else .bad
theorem NU{l:Bool}{f:M jT}{k:Nat}{s:D->UR->jZ}{t:M Bool}{rd:RdB}{Z Z':UR}{es:jT}(h:dCG l f k s t rd Z=.ok es Z'):∃ds ZF,f Z=.ok ds Z'/\cT s t rd ds (Yd l Z'++UC k jQ) []=O (es,ZF)/\(l=jR->es.all flat=jR):=by
 unfold dCG at h;cases zf:f Z with
 |bad=>rw[zf]at h;cases h
 |ok ds Z1=>
 rw[zf]at h;dsimp only at h;cases zl:cT s t rd ds (Yd l Z1++UC k jQ) []with
 |none=>rw[zl]at h;cases h
 |some pr=>
 obtain⟨esF,ZF⟩:=pr;rw[zl]at h;dsimp only at h;split at h
 .rename_i hf
  cases h;exact⟨ds,ZF,rfl,zl,hf⟩
 .cases h
section
variable{X:Cx}{B G0:Hp}{KX:XW}
def Yq(X:Cx)(N2:List Str)(scope:Scope)(e tg:Uw)(ifs:jX)(s:D->UR->jZ)(t:M Bool)(rd:RdB):Prop:=
 ∀(cl:List (Str×Uu))(C:Uu)(s₀:Us)(H₀:Hp)(ex:j4),(∀B' G',PG (X.blk N2 scope cl C s₀ H₀ ex) tg (tG X.K B' G' s))/\(∀B' G',YG (X.blk N2 scope cl C s₀ H₀ ex) ifs (tBo X.K B' G' t))/\TH (X.blk N2 scope cl C s₀ H₀ ex) e 0 tg ifs rd
structure TF(SC scope:Scope)(N1 N2:List Str)(k:Nat):Prop where
 b:Se scope.names N1 N2 k=jR
 kind:scope.kind=.function
 names:∀y∈scope.names,scope.names.lookup y.1=O y.2
 free:∀y∈scope.names,y.2=.free->SC.names.lookup y.1=O .cell∨SC.names.lookup y.1=O .free
theorem Md{l:Bool}{tg elt iter:Uw}{ifs:jX}{gs:List Comprehension}{scope:Scope}{pos pos':Pos}{N2:List Str}{k:Nat}{f:M jT}{s:D->UR->jZ}{t:M Bool}{rd:RdB}{use:Option (Ur->Sem Unit)}{Qc:Ur->Us->Prop}(hc:X.calm=jR)
  (hi:PI X tg iter (iD X.K B G0 f)) (ku:Yq X N2 scope (.ListComp elt (⟨tg,iter,ifs,0⟩::gs) scope pos) tg ifs s t rd) (hb:TF X.env.scope scope X.N N2 k) (hs:∀x,UP iter X.env x=pure x)
  {pins:List (Uu×Obj)} {s0:Us} {σ:St} {G H:Hp} {Z Z1 ZF:UR} {ds esF:jT} (I:Inv X pins σ H s0) (k0:EOk X.K B G0 G H σ Z) (zf:f Z=.ok ds Z1) (zl:cT s t rd ds (Yd l Z1++UC k jQ) []=O (esF,ZF)) (hfl:l=jR->esF.all flat=jR)
  (xF:∀(C D:Uu)(vs:List V)(G' H':Hp)(s4:Us)(m:Str->jW),Inv X pins σ H' s4->s4.heap.Ns C m->H' C=jQ->C≠X.env.locals->X.s₀.heap.objs.size<=C->(∀x c,X.env.cells.lookup x=O c->c≠C)->(∀p∈X.pn++pins,p.1≠C) ->
   EOk X.K B G0 G' H' σ Z1->Same G G'->NewL X.K B G' H' σ Z1 D vs esF->compPost (model X.prog X.w) X.A X.xe use Qc (.ref D) C (.ok .next) s4) :
  Uy (model X.prog X.w) X.A (comprehension (.ListComp elt (⟨tg,iter,ifs,0⟩::gs) scope pos) scope X.env pos' (newList []) jS (eval iter X.env) use) Qc X.xe s0:=by
 obtain⟨xK,hcl,xJ,cl2⟩:=M6 (scope:=scope) (env:=X.env) λy hy hf=>I.ok.has y.1 (hb.free y hy hf)
 refine wpAny_comprehension_free (use:=use) jP hs hcl hb.kind (λy hy hl=>(hb.names y hy).trans (by rw[hl])) (thn (hi pins s0 σ H (λJ H1=>∃G1,EOk X.K B G0 G1 H1 σ Z1/\Same G G1/\YT X.K J ds G1) I ⟨G,Z,k0,by rw[zf];exact λJ G1 H1 k1 s1 it=>⟨G1,k1,s1,it⟩⟩) λv s1 h1=>thn h1 λitv s2 h2=>?_);obtain⟨it,fp,tn,J,H2,rfl,I2,T,st2,f2,G1,k1,sg1,its⟩:=h2;refine JO (FS xJ cl2 hb.names (λx c e=>let ⟨_,q⟩:=I2.cell x c e;Qy q.lt (by first|exact Ql _|(rw[QU];exact JL _))) λh₁ cl hns₁ kept hco=>?_);dsimp only at hns₁ kept hco⊢;have hfr:H2 s2.heap.objs.size=jQ:=I2.hok.fresh (Ql _)
 have I3:Inv X pins σ (upd H2 s2.heap.objs.size (.lst [])) {s2 with heap:=s2.heap.push {cls:=.type "list", dict:=jQ,data:=.seq ([]:jV).toArray}}:=
  I2.laid (t':=s2.toks) (λb u e=>Qe _ e) (Ql _) ⟨Ug _,[],0,.nil,Qn _ jP⟩
 generalize hP:s2.heap.push {cls:=.type "list", dict:=jQ,data:=.seq ([]:jV).toArray}=P at I3 hns₁ kept hco⊢;have old:∀b o,s2.heap.get? b=O o->P.get? b=O o:=λb o e=>hP ▸ Qe _ e;have fpo:∀b∈fp,∃o,s2.heap.get? b=O o:=λb hb=>let ⟨o,e,_⟩:=T.obj _ _ st2 b hb;⟨o,e⟩
 have fpD:∀b∈fp,b≠s2.heap.objs.size:=λb hb=>let ⟨o,e⟩:=fpo b hb;QI (Qf e)
 have f3:∀b∈fp,Zt X pins (upd H2 s2.heap.objs.size (.lst [])) b:=λb hb=>⟨by rw[Kp (fpD b hb)];exact(f2 b hb).1,(f2 b hb).2⟩
 have I4:=I3.enter (scope:=scope) (cl:=cl) (N2:=N2) (k:=k) (fp:=fp) (t':=s2.toks) hb.b hb.kind hb.free hco hns₁ kept f3 (λb hb=>let ⟨o,e⟩:=fpo b hb;⟨o,old b o e⟩);dsimp only at I4;obtain⟨Gb,kb,sgb,gbD,ex⟩:=entry l k1 hfr k;have sH:Same H2 (upd H2 s2.heap.objs.size (.lst [])):=Zk hfr;have hD3:upd H2 s2.heap.objs.size (.lst []) s2.heap.objs.size=O (.lst []):=KO;generalize upd H2 s2.heap.objs.size (.lst [])=H3 at I3 I4 f3 kb sH hD3;generalize s2.heap.objs.size=D at *;have tn0:tn 0 h₁:=T.keep 0 _ _ st2 λb hb o e=>kept b o (old b o e)
 have stat:∀b∈fp,Zt (X.blk N2 scope cl P.objs.size {s2 with heap:=P} H3 fp) pins H3 b:=λb hb=>by
  obtain⟨z0,z1,z2,z3,z4,z5⟩:=f3 b hb;obtain⟨o,e⟩:=fpo b hb;refine⟨z0,QI (Qf (old b o e)),λz=>?_,.inl hb,λx c q=>(hco.old x c q).elim (z4 x c) λw=>Jl (Nat.lt_trans (Qf (old b o e)) w.1),z5⟩;rcases Qu.mp (I3.stkSub b z)with q|q
  .exact z1 q
  .exact z2 q
 have neD:∀a o,H2 a=O o->a≠D:=λa o q z=>by subst z;rw[hfr]at q;cases q
 obtain⟨hg,ht,hcl'⟩:=ku cl P.objs.size {s2 with heap:=P} H3 fp;obtain⟨W,rule,body⟩:=hcl' D (.ref it)
 have loop:=Me (Y:=X.blk N2 scope cl P.objs.size {s2 with heap:=P} H3 fp) (D':=D) (R:=compPost (model X.prog X.w) X.A X.xe use Qc (.ref D) P.objs.size) jP hc rule hg ht body I4 T tn0 stat kb
  ⟨λi G H s1 s2 hi=>its.go i G H (sgb.trans s1) s2 hi,λi G H s1 s2 hi=>its.stop i G H (sgb.trans s1) s2 hi,λi G H x H' d s1 s2 e y=>its.yld i G H x H' d (sgb.trans s1) s2 e y⟩ hD3 gbD .nil zl λσ' H' G' vs' s4 L=>by
   obtain⟨m,hm,_⟩:=id L.inv.loc;have I7:Inv X pins σ H' s4:=I3.call' (ch:=fp) L.inv.os L.inv.base L.inv.hok L.inv.bare λb hb=>⟨(f3 b hb).2.2.2.1,(f3 b hb).2.1,(f3 b hb).2.2.2.2.1,(f3 b hb).2.2.2.2.2⟩
   obtain⟨Gf,eF,dF,rF⟩:=ex G' H' vs' esF hfl L.gg (λa o q=>L.hh a o (neD a o q) (sH a o q)) L.eok.gh (λa o q z=>L.np a o (neD a _ q) (sH a _ q) z) L.gd L.rp
   refine xF P.objs.size D vs' Gf H' s4 m I7 hm L.inv.free (Jl I3.lt) I3.sz (λx c e z=>by obtain⟨_,q⟩:=I3.cell x c e;exact absurd q.lt (by rw[z];exact Jz _)) (λp hp z=>by have:=Qf (I3.pin p hp).1;exact absurd this (by rw[z];exact Jz _))
    (k1.ext eF) (sg1.trans eF.g) ⟨k1.bh.free hfr,dF,L.hd,rF,λj es' q z=>?_,λj pt d v fp q s r=>k1.freshD eF.h hfr q s r⟩
   obtain⟨a',ws,h1',h2',h3',h4',h5'⟩:=k1.own j es' q;rw[z]at h1';cases h1';rw[hfr]at h4';cases h4'
 exact codeAny_compStart_list loop (T.self X.A 0 _ _ _ tn0 loop)
theorem HH{l:Bool}{tg elt iter:Uw}{ifs:jX}{gs:List Comprehension}{scope:Scope}{pos:Pos}{N2:List Str}{k:Nat}{f:M jT}{s:D->UR->jZ}{t:M Bool}{rd:RdB}(hc:X.calm=jR)
  (hi:PI X tg iter (iD X.K B G0 f)) (ku:Yq X N2 scope (.ListComp elt (⟨tg,iter,ifs,0⟩::gs) scope pos) tg ifs s t rd) (hb:TF X.env.scope scope X.N N2 k) (hs:∀x,UP iter X.env x=pure x:=by intro _;rfl) :
  PE X (.ListComp elt (⟨tg,iter,ifs,0⟩::gs) scope pos) (tL X.K B G0 (dCG l f k s t rd)):=by
 intro pins s0 σ H Q I ⟨G,Z,k0,a⟩;cases z:dCG l f k s t rd Z with
 |bad=>rw[z]at a;exact a.elim
 |ok es Z1=>
 rw[z]at a;obtain⟨ds,ZF,zf,zl,hfl⟩:=NU z;rw[eval_ListComp];refine Md hc hi ku hb hs I k0 zf zl hfl λC D vs G' H' s4 m I7 hm hC hL hz hcl hp k' s' n=>?_
 exact⟨m,hm,λh' sb=>⟨.ref D,H',I7.turned (t':=s4.toks) (it:=C) (λb o hb e=>(sb.2 b hb).trans e) hC hL (.inr hz) hcl hp,rfl,a D vs G' H' k' s' n⟩⟩
theorem sD_g{l:Bool}{y:Str}{j:Nat}{py:Pos}{spos:Pos}{tg elt iter:Uw}{ifs:jX}{gs:List Comprehension}{scope:Scope}{pos:Pos}{N2:List Str}{k:Nat}{f:M jT}{s:D->UR->jZ}{t:M Bool}{rd:RdB}(hN:X.N.Nodup)(hj:X.N[j]?=O y)(hy:X.env.scope.names.lookup y=O .local)(hc:X.calm=jR)
  (hi:PI X tg iter (iD X.K B G0 f)) (ku:Yq X N2 scope (.ListComp elt (⟨tg,iter,ifs,0⟩::gs) scope pos) tg ifs s t rd) (hb:TF X.env.scope scope X.N N2 k) (hs:∀x,UP iter X.env x=pure x:=by intro _;rfl)
  (hsw:swapsWith (.ListComp elt (⟨tg,iter,ifs,0⟩::gs) scope pos) (O (.Name y py)) spos.line X.env=pure jR:=by rfl) :
  PS X (.Assign [.Name y py] (.ListComp elt (⟨tg,iter,ifs,0⟩::gs) scope pos) spos) (tS X.K B G0 KX (Zi j (dCG l f k s t rd))):=by
 intro pins s0 σ H Dn I ⟨G,Z,k0,a⟩;unfold Zi sB at a;cases z:dCG l f k s t rd Z with
 |bad=>rw[z]at a;exact a.elim
 |ok es Z1=>
 rw[z]at a;dsimp only at a;by_cases hl:j<Z1.length
 .rw[Qs hl]at a
  obtain⟨ds,ZF,zf,zl,hfl⟩:=NU z;rw[exec_Assign_Name_used _ _ _ _ hsw];refine Qb (Jp (Qb ?_));show Uy _ X.A (do let _ ←comprehension (.ListComp elt (⟨tg,iter,ifs,0⟩::gs) scope pos) scope X.env _ (newList []) jS (eval iter X.env) (O (assign (.Name y py) X.env))) _ _ s0;refine Qb (QF (Md (use:=O (assign (.Name y py) X.env)) (Qc:=λ_ s'=>SP X pins Dn .next s') hc hi ku hb hs I k0 zf zl hfl λC D vs G' H' s4 m I7 hm hC hL hz hcl hp k' s' n=>?_) (λ_ s' hq=>Qg (Qg hq)) λ_ _ e=>e);show Uy _ X.A (assign (.Name y py) X.env (.ref D)) _ _ s4;refine wpAny_assign_Name (MJ I7 hN hj (.inl hy) (v:=.ref D) jP (λs5 I8 ⟨ad,sb,hx⟩=>?_) (.inr hy))
  have hCa:C≠ad:=by
   rcases hx with e|e
   .rw[e];exact hL
   .exact Ne.symm (hcl y ad e)
  refine⟨m,hm.sameBut sb hCa,λh' kI=>⟨_,H',I8.turned (t':=s5.toks) (it:=C) (λb o hb e=>(kI.2 b hb).trans e) hC hL (.inr hz) hcl hp,?_⟩⟩;exact a _ G' H' (k'.setOwn n hl) s'
 .rw[QE hl]at a;exact a.elim
theorem HG{K:Frag}{f f':M jT}(h:∀Z es Z',f Z=.ok es Z'->f' Z=.ok es Z'){σ:St}{H:Hp}{Q:VK}(q:tL K B G0 f σ H Q):tL K B G0 f' σ H Q:=by
 obtain⟨G,Z,k,a⟩:=q;refine⟨G,Z,k,?_⟩;cases z:f Z with
 |bad=>rw[z]at a;exact a.elim
 |ok es Z'=>rw[z]at a;rw[h Z es Z' z];exact a
theorem FQ{K:Frag}{f f':M jT}{j:Nat}(h:∀Z es Z',f Z=.ok es Z'->f' Z=.ok es Z'){Dn:_}{σ:St}{H:Hp}(q:tS K B G0 KX (Zi j f) Dn σ H):tS K B G0 KX (Zi j f') Dn σ H:=by
 obtain⟨G,Z,k,a⟩:=q;refine⟨G,Z,k,?_⟩;unfold Zi sB at a⊢;cases z:f Z with
 |bad=>rw[z]at a;exact a.elim
 |ok es Z'=>rw[z]at a;rw[h Z es Z' z];exact a
end
theorem Rj{s:D->UR->jZ}{t:M Bool}{g:M D}:∀{ds:jT}{Z:UR}{es esF:jT},K7 s t g ds Z es=O esF->∃ZF,cT s t (rL g) ds Z es=O (esF,ZF)
 |[],Z,es,esF,h=>by rw[K7]at h;cases h;exact⟨Z,rfl⟩
 |d::r,Z,es,esF,h=>by
  rw[K7]at h;rw[cT];cases zs:s d Z with
  |none=>rw[zs]at h;cases h
  |some Z1=>
  rw[zs]at h;dsimp only at h⊢;cases zt:t Z1 with
  |bad=>rw[zt]at h;cases h
  |ok b Z2=>
  rw[zt]at h;dsimp only at h⊢;cases b with
  |false=>exact Rj (ds:=r) h
  |true=>
   rw[Qs jP]at h⊢;unfold rL;cases zg:g Z2 with
   |bad=>rw[zg]at h;cases h
   |ok e Z3=>
   rw[zg]at h;dsimp only at h⊢;split at h
   .rename_i hl
    rw[Qs hl];exact Rj (ds:=r) h
   .cases h
theorem Rt{s:D->UR->jZ}{t:M Bool}{g:M D}:∀{ds:jT}{Z:UR}{es:jT},Yo s t g ds Z es=cT s t (rL g) ds Z es
 |[],Z,es=>rfl
 |d::r,Z,es=>by
  rw[Yo,cT];cases s d Z with
  |none=>rfl
  |some Z1=>
  dsimp only;cases t Z1 with
  |bad=>rfl
  |ok b Z2=>
  dsimp only;cases b with
  |false=>exact Rt (ds:=r)
  |true=>
   rw[Qs jP,Qs jP];unfold rL;cases g Z2 with
   |bad=>rfl
   |ok e Z3=>
   dsimp only;split
   .exact Rt (ds:=r)
   .rfl
theorem Rs{s s1:D->UR->jZ}{t t1:M Bool}{f:M jT}{Rd:jT->UR->jT->Option (jT×UR)}{rd:RdB}(hR:∀ds Z es,Rd ds Z es=cT s1 t1 rd ds Z es) :
  ∀{ds:jT}{Z:UR}{es:jT},YM s t f Rd ds Z es=cT s t (rN f s1 t1 rd) ds Z es
 |[],Z,es=>rfl
 |d::r,Z,es=>by
  rw[YM,cT];cases s d Z with
  |none=>rfl
  |some Z1=>
  dsimp only;cases t Z1 with
  |bad=>rfl
  |ok b Z2=>
  dsimp only;cases b with
  |false=>exact Rs hR (ds:=r)
  |true=>
   rw[Qs jP,Qs jP];unfold rN;cases f Z2 with
   |bad=>rfl
   |ok ds Z3=>
   dsimp only;rw[hR];cases cT s1 t1 rd ds (Kk Z3) es with
   |none=>rfl
   |some pr=>exact Rs hR (ds:=r)
theorem PK{s s1:D->UR->jZ}{t t1:M Bool}{f:M jT}{g:M D}:∀{ds:jT}{Z:UR}{es esF:jT},Xd s t f s1 t1 g ds Z es=O esF->∃ZF,cT s t (rN f s1 t1 (rL g)) ds Z es=O (esF,ZF)
 |[],Z,es,esF,h=>by rw[Xd]at h;cases h;exact⟨Z,rfl⟩
 |d::r,Z,es,esF,h=>by
  rw[Xd]at h;rw[cT];cases zs:s d Z with
  |none=>rw[zs]at h;cases h
  |some Z1=>
  rw[zs]at h;dsimp only at h⊢;cases zt:t Z1 with
  |bad=>rw[zt]at h;cases h
  |ok b Z2=>
  rw[zt]at h;dsimp only at h⊢;cases b with
  |false=>exact PK (ds:=r) h
  |true=>
   rw[Qs jP]at h⊢;unfold rN;cases zg:f Z2 with
   |bad=>rw[zg]at h;cases h
   |ok ds Z3=>
   rw[zg]at h;dsimp only at h⊢;rw[←Rt];cases zl:Yo s1 t1 g ds (Kk Z3) es with
   |none=>rw[zl]at h;cases h
   |some pr=>rw[zl]at h;exact PK (ds:=r) h
theorem Bk{f:M jT}{k:Nat}{s:D->UR->jZ}{t:M Bool}{g:M D}(Z:UR)(es:jT)(Z':UR)(h:Yt f k s t g Z=.ok es Z'):dCG jS f k s t (rL g) Z=.ok es Z':=by
 unfold Yt at h;unfold dCG;cases zf:f Z with
 |bad=>rw[zf]at h;cases h
 |ok ds Z1=>
 rw[zf]at h;dsimp only[Yd]at h⊢;cases zl:K7 s t g ds (Kk Z1++UC k jQ) []with
 |none=>rw[zl]at h;cases h
 |some esF=>
 rw[zl]at h;cases h;obtain⟨ZF,e⟩:=Rj zl;rw[e];exact Qs λz=>by cases z
theorem Ay{f:M jT}{k:Nat}{s:D->UR->jZ}{t:M Bool}{g:M D}(Z:UR)(es:jT)(Z':UR)(h:TX f k s t g Z=.ok es Z'):dCG jR f k s t (rL g) Z=.ok es Z':=by
 unfold TX at h;unfold dCG;cases zf:f Z with
 |bad=>rw[zf]at h;cases h
 |ok ds Z1=>
 rw[zf]at h;dsimp only[Yd]at h⊢;cases zl:K7 s t g ds (ZX Z1++UC k jQ) []with
 |none=>rw[zl]at h;cases h
 |some esF=>
 rw[zl]at h;dsimp only at h;split at h
 .rename_i hf
  cases h;obtain⟨ZF,e⟩:=Rj zl;rw[e];exact Qs λ_=>hf
 .cases h
theorem Ax{f f1:M jT}{k:Nat}{s s1:D->UR->jZ}{t t1:M Bool}{g:M D}(Z:UR)(es:jT)(Z':UR)(h:Va f k s t f1 s1 t1 g Z=.ok es Z'):dCG jS f k s t (rN f1 s1 t1 (rL g)) Z=.ok es Z':=by
 unfold Va at h;unfold dCG;cases zf:f Z with
 |bad=>rw[zf]at h;cases h
 |ok ds Z1=>
 rw[zf]at h;dsimp only[Yd]at h⊢;cases zl:Xd s t f1 s1 t1 g ds (Kk Z1++UC k jQ) []with
 |none=>rw[zl]at h;cases h
 |some esF=>
 rw[zl]at h;cases h;obtain⟨ZF,e⟩:=PK zl;rw[e];exact Qs λz=>by cases z
theorem Aw{f f1 f2:M jT}{k:Nat}{s s1 s2:D->UR->jZ}{t t1 t2:M Bool}{g:M D}(Z:UR)(es:jT)(Z':UR)(h:TW f k s t f1 s1 t1 f2 s2 t2 g Z=.ok es Z'):dCG jS f k s t (rN f1 s1 t1 (rN f2 s2 t2 (rL g))) Z=.ok es Z':=by
 unfold TW at h;unfold dCG;cases zf:f Z with
 |bad=>rw[zf]at h;cases h
 |ok ds Z1=>
 rw[zf]at h;dsimp only[Yd,VA]at h⊢;rw[Rs λ_ _ _=>Rs λ_ _ _=>Rt]at h;cases zl:cT s t (rN f1 s1 t1 (rN f2 s2 t2 (rL g))) ds (Kk Z1++UC k jQ) []with
 |none=>rw[zl]at h;cases h
 |some pr=>
 rw[zl]at h;cases h;exact Qs λz=>by cases z
noncomputable def W9(q:Option NameKind->Bool)(SC scope:Scope)(N1 N2:List Str)(k:Nat):Bool:=
 Se scope.names N1 N2 k&&decide (scope.kind=.function)&&(scope.names.all λy=>decide (scope.names.lookup y.1=O y.2))&&scope.names.all λy=>match y.2 with
  |.free=>q (SC.names.lookup y.1)
  |_=>jR
noncomputable def V8:Option NameKind->Bool
 |some .cell=>jR|some .free=>jR|_=>jS
theorem qI{q:Option NameKind->Bool}{SC SC' scope:Scope}{N1 N2:List Str}{k:Nat}(h:W9 q SC scope N1 N2 k=jR)(f:∀x,q (SC.names.lookup x)=jR->SC'.names.lookup x=O .cell∨SC'.names.lookup x=O .free):TF SC' scope N1 N2 k:=by unfold W9 at h;rw[Qr,Qr,Qr,QM,QM]at h;obtain⟨⟨⟨h1,h2⟩,h0⟩,h3⟩:=h;refine⟨h1,Qa h2,λy hy=>Qa (h0 y hy),λy hy e=>?_⟩;have:=h3 y hy;rw[e]at this;exact f _ this
theorem NT{SC scope:Scope}{N1 N2:List Str}{k:Nat}(h:W9 V8 SC scope N1 N2 k=jR):TF SC scope N1 N2 k:=qI h λx e=>by
 cases z:SC.names.lookup x with
 |none=>rw[z]at e;cases e
 |some y=>rw[z]at e;cases y<;>first|exact .inl rfl|exact .inr rfl|cases e
section
variable{X:Cx}{B G0:Hp}{KX:XW}
theorem HF{l:Bool}{tg elt iter:Uw}{ifs:jX}{gs:List Comprehension}{scope:Scope}{pos:Pos}{f:M jT}{s:D->UR->jZ}{t:M Bool}{rd:RdB}{F:M jT}(SC:Scope)(N1 N2:List Str)(k:Nat)(le:∀Z es Z',F Z=.ok es Z'->dCG l f k s t rd Z=.ok es Z')(hc:X.calm=jR)
  (hi:PI X tg iter (iD X.K B G0 f)) (ku:Yq X N2 scope (.ListComp elt (⟨tg,iter,ifs,0⟩::gs) scope pos) tg ifs s t rd) (h1:X.env.scope=SC) (h2:X.N=N1) (hb:W9 V8 SC scope N1 N2 k=jR) (hs:∀x,UP iter X.env x=pure x:=by intro _;rfl) :
  PE X (.ListComp elt (⟨tg,iter,ifs,0⟩::gs) scope pos) (tL X.K B G0 F):=
 Km (HH hc hi ku (by rw[h1,h2];exact NT hb) hs) λ_ _ _ q=>HG le q
theorem sD_1{l:Bool}{y:Str}{j:Nat}{py:Pos}{spos:Pos}{tg elt iter:Uw}{ifs:jX}{gs:List Comprehension}{scope:Scope}{pos:Pos}{f:M jT}{s:D->UR->jZ}{t:M Bool}{rd:RdB}{F:M jT}(SC:Scope)(N1 N2:List Str)(k:Nat)(le:∀Z es Z',F Z=.ok es Z'->dCG l f k s t rd Z=.ok es Z')(hN:X.N.Nodup)(hj:X.N[j]?=O y)(hy:X.env.scope.names.lookup y=O .local)(hc:X.calm=jR)
  (hi:PI X tg iter (iD X.K B G0 f)) (ku:Yq X N2 scope (.ListComp elt (⟨tg,iter,ifs,0⟩::gs) scope pos) tg ifs s t rd) (h1:X.env.scope=SC) (h2:X.N=N1) (hb:W9 V8 SC scope N1 N2 k=jR) (hs:∀x,UP iter X.env x=pure x:=by intro _;rfl)
  (hsw:swapsWith (.ListComp elt (⟨tg,iter,ifs,0⟩::gs) scope pos) (O (.Name y py)) spos.line X.env=pure jR:=by rfl) :
  PS X (.Assign [.Name y py] (.ListComp elt (⟨tg,iter,ifs,0⟩::gs) scope pos) spos) (tS X.K B G0 KX (Zi j F)):=
 Ze (sD_g hN hj hy hc hi ku (by rw[h1,h2];exact NT hb) hs hsw) λ_ _ _ q=>FQ le q
end
theorem Bj{f:M jT}{k:Nat}{s xf s2':D->UR->jZ}{t t1' t2':M Bool}{f1 f2:M jT}{g:M D}{Z Z1 Z2:UR}{ds es:jT}(h1:f Z=.ok ds Z1)(h2:YM s t f1 (YM xf t1' f2 (Yo s2' t2' g)) ds (Kk Z1++UC k jQ) []=O (es,Z2)) :
  TW f k s t f1 xf t1' f2 s2' t2' g Z=.ok es Z1:=by
 unfold TW;rw[h1];dsimp only[VA];rw[h2];rfl
section
variable{X:Cx}{B G0:Hp}{e a b c tg:Uw}{pos:Pos}{es rest:jX}
theorem EOk.given{K:Frag}{G H:Hp}{σ:St}{Z:UR}{a:Uu}{vs:List V}{ds:jT}(k:EOk K B G0 G H σ Z)(n:NewL K B G H σ Z a vs ds):EOk K B G0 (upd G a (.lst vs)) H σ Z where
 bh:=k.bh
 gh:=λb u q=>by
  by_cases z:b=a
  .subst z;rw[KO]at q;cases q;exact n.h
  .rw[Kp z]at q;exact k.gh b u q
 g0:=k.g0.trans (Zk n.g)
 np:=λb o q z=>by
  have zb:b≠a:=λz=>by subst z;rw[n.b]at q;cases q
  rw[Kp zb];exact k.np b o q z
 len:=k.len
 pub:=λi d q=>let ⟨v,h1,h2⟩:=k.pub i d q;⟨v,h1,h2.mono (Zk n.g)⟩
 own:=λi ds q=>by
  obtain⟨b,ws,h1,h2,h3,h4,h5⟩:=k.own i ds q;have zb:b≠a:=λz=>by subst z;exact n.f i ds q h1
  exact⟨b,ws,h1,h2,by rw[Kp zb];exact h3,h4,h5.mono (Zk n.g)⟩
 sep:=k.sep
 dp:=k.dp.map (λ_ _ _ q=>⟨q,rfl⟩) (λ_ ds q=>⟨ds,q,rfl⟩) λi p d v fp q s r w nn=>⟨r.mono (Zk n.g) (.refl _),λb m=>⟨(w b m).1,by rw[Kp (λz=>n.dp i p d v fp q s r (by rw[←z];exact m))];exact(w b m).2⟩⟩
theorem D7{f:M jT}(h:PE X e (tL X.K B G0 f)):PE X e (tD X.K B G0 (U3 UD f)):=
 Km h λσ H Q ⟨G,Z,k,a⟩=>by
  refine⟨G,Z,k,?_⟩;unfold U3 U5 at a;cases z:f Z with
  |bad=>rw[z]at a;exact a.elim
  |ok ds Z1=>rw[z]at a;intro ad vs G' H' k' s' n;exact a (.ref ad) _ H' (k'.given n) (s'.trans (Zk n.g)) (.lst (SqL.of KO) (n.r.mono (Zk n.g)))
theorem Bh(hc:X.calm=jR):ZW X (.builtin "all") (λxs H Q=>∃l,∃bs:List Bool,xs=[.ref l]/\SqL X.K H l (bs.map V.bl)/\Q (.bl (bs.all id)) H):=by
 intro pins s σ H xs us Q I rx h;obtain⟨l,bs,rfl,hq,q⟩:=h;obtain⟨u,rfl,ru⟩:=rx.one;cases ru;obtain⟨its,rv,p,hz⟩:=I.list hq;have hl:=p.isList;have hlt:l<s.heap.objs.size:=by obtain⟨_,e,_⟩:=id hl;exact Qf e
 have key:∀(i:Nat) v,its.toArray[i]?=O v->∃t,bs[i]?=O t/\v=.bool t:=λi v e=>by
  have e:its[i]?=O v:=by simpa using e
  have hi:i<bs.length:=by
   have:=(Qq.mp e).1;have h2:=rv.length;rw[Qd]at h2
   lia
  obtain⟨u,e2,r2⟩:=rv.get (i:=i) (x:=.bl bs[i]) (by rw[Qi,Qh hi];rfl);rw[e]at e2;cases e2;exact⟨bs[i],Qh hi,r2⟩
 refine call_all_walk (Jx hl ?_)
 refine⟨s.heap.objs.size,[s.heap.objs.size,l],[s.heap.objs.size],its.toArray.size,_,_,λi=>(bs[i]?).getD jR,rfl,Walks.list (A:=X.A.in1) (I.ok.hd hc) _ l (QI hlt) its.toArray,
  ⟨⟨_,Qn _ jP,rfl,rfl⟩,hl.push _⟩,λi v s' Q' E' hP hQ=>?_,λh' tk hk=>?_⟩
 .obtain⟨b,e,rfl⟩:=key i v hP
  simp only[e,JZ]at hQ;exact Q6 hQ
 .have hn:its.toArray.size=bs.length:=by have:=rv.length;rw[List.length_map]at this;simp;lia
  have e:((UB its.toArray.size).all λi=>(bs[i]?).getD jR)=bs.all id:=by
   rw[hn,Bool.eq_iff_iff,QM,QM];constructor
   .intro h b hb
    obtain⟨i,hi,e⟩:=JV hb;have:=h i (Jm.mpr hi);simp only[Qh hi,JZ,e]at this;exact this
   .intro h i hi
    have hi':=Jm.mp hi;simp only[Qh hi',JZ];exact h _ (JJ hi')
  rw[e];exact⟨.bl (bs.all id),H,I.kept (t':=tk) λb x e=>hk b x (λhm=>by rw[QN.mp hm]at e;exact Jz _ (Qf e)) (Qe _ e),rfl,q⟩
noncomputable def WU:jT->Option (List Bool)
 |[]=>O []
 |.bool b::r=>(WU r).map (b :: ·)
 |_=>jQ
theorem LC{K:Frag}{G:Hp}:∀{vs:List V}{ds:jT}{bs:List Bool},Reps K G vs ds->WU ds=O bs->vs=bs.map V.bl
 |_,_,bs,.nil,e=>by cases e;rfl
 |_,_,bs,.cons (d:=d) r t,e=>by
  cases d with
  |bool b=>
   unfold WU at e;cases z:WU _ with
   |none=>rw[z]at e;cases e
   |some cs=>rw[z]at e;cases e;rw[r.bl_inv,LC t z];rfl
  |_=>cases e
noncomputable def ZM:jT->jY
 |[.list ds]=>(WU ds).map λbs=>.bool (bs.all id)
 |_=>jQ
theorem HE(hc:X.calm=jR):Yl X (.builtin "all") ZM:=by
 refine⟨_,Bh hc,λvs G H ds d Q s r e k=>?_⟩;unfold ZM at e;split at e
 .rename_i ds
  cases z:WU ds with
  |none=>rw[z]at e;cases e
  |some bs=>rw[z]at e;cases e;obtain⟨v,rfl,q⟩:=r.one_inv;obtain⟨l,ws,rfl,h1,r1⟩:=q.lst_inv;have hw:=LC r1 z;subst hw;exact⟨l,bs,rfl,s.seq h1,k _ G H (.refl s) (.bl _)⟩
 .cases e
noncomputable def Its(x:Str):It:=⟨λi _=>i<x.cps.size,λi H v H'=>H'=H/\∃c,x.cps[i]?=O c/\v=.str ⟨#[c]⟩,λi _=>x.cps.size<=i⟩
theorem Bg{P:Ut}{w:World}{K:Frag}{tg:Uw}(x:Str)(t:Tok)(it:Uu):Turn P w K tg (Its x) [it] it (λi h=>h.IsStrIter it (strIterType x) x t i) where
 mem:=by simp
 obj:=λi h st b hb=>by
  have e:b=it:=by simpa using hb
  subst e;obtain⟨o,e,c,d⟩:=st;exact⟨o,e,λv z=>by rw[d]at z;cases z⟩
 keep:=λi h h' st k=>by obtain⟨o,e,c,d⟩:=st;exact⟨o,k it (by simp) o e,c,d⟩
 item:=by
  intro X hP hw hK hc i pins s σ H E I hf st hg;subst hP hw hK;obtain⟨f0,f1,f2,f3,f4,f5⟩:=hf it (by simp);have hx:x.cps[i]?=O x.cps[i]:=JT hg
  have fin:∀h' tk(T:String),strIterType x=T->h'.IsStrIter it T x t (i+1)->Heap.SameBut it s.heap h'->["enumerate", "zip", "dict_itemiterator", "dict_reverseitemiterator", "odict_iterator", "itertools.zip_longest", "itertools.pairwise"].contains T=jS ->
    ∃u,O (Value.str ⟨#[x.cps[i]]⟩ s.toks)=O u/\Uy (model X.prog X.w) X.A (letOwnedTupleGo tg (.ref it) u) (λ_ s2=>∃v H',Inv X pins σ H' s2/\RelV v u/\(Its x).yld i H v H'/\s2.heap.IsStrIter it (strIterType x) x t (i+1)/\∀b∈[it],H' b=jQ) E {s with heap:=h',toks:=tk}:=by
   intro h' tk T eT st' sb hn;have I1:Inv X pins σ H {s with heap:=h',toks:=tk}:=I.turned (t':=tk) (λb o hb e=>(sb.2 b hb).trans e) f0 f1 f3 f4 f5;obtain⟨o,e,c,d⟩:=id st';refine⟨_,rfl,Sy (s:={s with heap:=h',toks:=tk}) e c d hn ⟨.str ⟨#[x.cps[i]]⟩,H,I1,⟨_,rfl⟩,⟨rfl,_,hx,rfl⟩,by rw[eT];exact st',λb hb=>(hf b hb).1⟩⟩
  cases ha:x.cps.all (· < 128)with
  |true=>
   have eT:strIterType x = "str_ascii_iterator" :=by simp[strIterType,ha]
   rw[eT]at st;exact wpAny_pyNext_ascii_item st hx λh' st' sb=>fin h' _ _ eT st' sb (by decide)
  |false=>
   have eT:strIterType x = "str_iterator" :=by simp[strIterType,ha]
   rw[eT]at st;exact wpAny_pyNext_wide_item st hx λh' st' sb=>fin h' _ _ eT st' sb (by decide)
 done:=by
  intro X hP hw hK hc i pins s σ H E I hf st hg;subst hP hw hK;obtain⟨f0,f1,f2,f3,f4,f5⟩:=hf it (by simp);have hx:x.cps[i]?=jQ:=Array.getElem?_eq_none hg;cases ha:x.cps.all (· < 128)with
  |true=>
   have eT:strIterType x = "str_ascii_iterator" :=by simp[strIterType,ha]
   rw[eT]at st;exact wpAny_pyNext_ascii_end (I.ok.hd hc) st hx λh' eb=>⟨rfl,I.turned (t':=s.toks) (λb o hb e=>eb b o hb e) f0 f1 f3 f4 f5⟩
  |false=>
   have eT:strIterType x = "str_iterator" :=by simp[strIterType,ha]
   rw[eT]at st;exact wpAny_pyNext_wide_end (I.ok.hd hc) st hx λh' eb=>⟨rfl,I.turned (t':=s.toks) (λb o hb e=>eb b o hb e) f0 f1 f3 f4 f5⟩
 self:=λA i s Q E st h=>by
  cases ha:x.cps.all (· < 128)with
  |true=>
   have eT:strIterType x = "str_ascii_iterator" :=by simp[strIterType,ha]
   rw[eT]at st;exact wpAny_pyIter_striter_ascii st h
  |false=>
   have eT:strIterType x = "str_iterator" :=by simp[strIterType,ha]
   rw[eT]at st;exact wpAny_pyIter_striter_wide st h
noncomputable def iAny(K:Frag)(tl:TE):TI:=λσ H R=>tl σ H λx H1=>(∃a,x=.ref a/\(∃xs,SqL K H1 a xs)/\R (Itl K a) H1)∨(∃a,x=.ref a/\(∃xs,SqT K H1 a xs)/\R (Itt K a) H1) ∨ ∃z,x=.str z/\R (Its z) H1
theorem FP{l:Uw}{tl:TE}(hl:PE X l tl):PI X tg l (iAny X.K tl):=by
 intro pins s σ H R I h;refine thn (hl pins s σ H _ I h) λv s1 ⟨x,H1,I1,r1,q1⟩=>?_
 have fpOk:∀b∈[s1.heap.objs.size],Zt X pins H1 b:=λb hb=>by
  have e:b=s1.heap.objs.size:=by simpa using hb
  subst e;exact I1.fpOk (Ql _) (I1.hok.fresh (Ql _))
 rcases q1 with ⟨a,e,⟨xs,hq⟩,q⟩|⟨a,e,⟨xs,hq⟩,q⟩|⟨z,e,q⟩
 .subst e
  cases r1;obtain⟨its,rv,p,hz⟩:=I1.list hq;refine Jx p.isList ?_;exact⟨s1.heap.objs.size,[s1.heap.objs.size],_,_,H1,rfl,I1.kept (t':=s1.toks) λb o e=>Qe _ e,qe a _,⟨_,Qn _ jP,rfl,rfl⟩,fpOk,q⟩
 .subst e
  cases r1;obtain⟨its,rv,p,hz⟩:=I1.tuple hq;refine wpAny_pyIter_tuple p ?_;exact⟨s1.heap.objs.size,[s1.heap.objs.size],_,_,H1,rfl,I1.kept (t':=s1.toks) λb o e=>Qe _ e,qH a _,⟨_,Qn _ jP,rfl,rfl⟩,fpOk,q⟩
 .subst e
  obtain⟨t,rfl⟩:=r1;refine wpAny_pyIter_strU ?_;exact⟨s1.heap.objs.size,[s1.heap.objs.size],_,_,H1,rfl,I1.kept (t':=s1.toks) λb o e=>Qe _ e,Bg z t _,⟨_,Qn _ jP,rfl,rfl⟩,fpOk,q⟩
noncomputable def TV(z:Str):jT:=z.cps.toList.map λc=>.str ⟨#[c]⟩
noncomputable def Pb:D->Option jT
 |.list ds=>O ds
 |.tuple ds=>O ds
 |.str z=>O (TV z)
 |_=>jQ
theorem jg{K:Frag}{G1:Hp}{ad:Uu}{vs:List V}{ds:jT}(h:SqT K G1 ad vs)(r:Reps K G1 vs ds):YT K (Itt K ad) ds G1 where
 go:=λi G H s1 s2 hi=>by
  have hi':i<vs.length:=by rw[r.length];exact hi
  exact⟨vs,vs[i],ZR (s1.trans s2) h,Qh hi'⟩
 stop:=λi G H s1 s2 hi=>⟨vs,ZR (s1.trans s2) h,by rw[r.length];exact hi⟩
 yld:=λi G H x H' d s1 s2 e y=>by obtain⟨rfl,y⟩:=y;obtain⟨v,e1,r1⟩:=r.get e;have:=y vs (ZR (s1.trans s2) h);rw[e1]at this;cases this;exact⟨G,.refl s2,r1.mono s1⟩
theorem Av{K:Frag}{G1:Hp}{z:Str}:YT K (Its z) (TV z) G1 where
 go:=λi G H s1 s2 hi=>by unfold TV at hi;simpa[Its]using hi
 stop:=λi G H s1 s2 hi=>by unfold TV at hi;simpa[Its]using hi
 yld:=λi G H x H' d s1 s2 e y=>by
  obtain⟨rfl,c,hc,rfl⟩:=y;unfold TV at e;rw[Qi]at e;have:z.cps.toList[i]?=O c:=by simpa using hc
  rw[this]at e;cases e;exact⟨G,.refl s2,.str _⟩
noncomputable def KZ(f:M D):M jT:=U5 f λx=>U2 (Pb x)
theorem Ek{f:M D}(h:PE X e (tD X.K B G0 f)):PI X tg e (iD X.K B G0 (KZ f)):=YD (FP h) λσ H R q=>tM.toI (R0:=Rep X.K) q λv H' G' Z' x k r a=>by
 cases x with
 |list ds=>obtain⟨ad,vs,rfl,h1,r1⟩:=r.lst_inv;exact .inl ⟨ad,rfl,⟨vs,k.gh.seq h1⟩,a _ G' H' k (.refl _) (qL h1 r1)⟩
 |tuple ds=>obtain⟨ad,vs,rfl,h1,r1⟩:=r.tup_inv;exact .inr (.inl ⟨ad,rfl,⟨vs,ZR k.gh h1⟩,a _ G' H' k (.refl _) (jg h1 r1)⟩)
 |str z=>have:=r.str_inv;subst this;exact .inr (.inr ⟨z,rfl,a _ G' H' k (.refl _) Av⟩)
 |_=>exact a.elim
noncomputable def inS(i j:Str):Bool:=!(Builtin.Str.occurrences j i 0 j.length 1).isEmpty
noncomputable def oInS:D->D->j8
 |.str i,.str j=>O (inS i j)
 |_,_=>jQ
noncomputable def OD:D->D->j8
 |.str i,.str j=>O (!inS i j)
 |_,_=>jQ
theorem HD:OpB X (UA .In) oInS:=⟨_,qa,λv u G H x y d Q s rx ry e k=>by
 unfold oInS at e;split at e
 .cases e
  have:=rx.str_inv;subst this;have:=ry.str_inv;subst this;exact⟨_,_,rfl,rfl,k⟩
 .cases e⟩
theorem Ej:OpB X (UA .NotIn) OD:=⟨_,jk,λv u G H x y d Q s rx ry e k=>by
 unfold OD at e;split at e
 .cases e
  have:=rx.str_inv;subst this;have:=ry.str_inv;subst this;exact⟨_,_,rfl,rfl,k⟩
 .cases e⟩
theorem HC{x:Str}{i:Int}(hg:Gl X x)(hm:∃t,X.mg x=O (.int i t))(hd:(x==("__debug__" : Str))=jS:=by decide):PE X (.Name x pos) (tD X.K B G0 (UV (.int i))):=by obtain⟨t,hm⟩:=hm;exact Km (NZ (v:=.int i) hg hm ⟨t,rfl⟩ hd) λσ H Q ⟨G,Z,k,a⟩=>aft.now a k (.int _)
end
section
variable{X:Cx}{B G0:Hp}{KX:XW}{e o a b c tg i:Uw}{pos p2:Pos}{es rest:jX}{te to ti:TE}
noncomputable def Ei(te to ti:TE):TS:=λD σ H=>te σ H λv H1=>to σ H1 λx H2=>ti σ H2 λk H3=>∃l xs n,x=.ref l/\H3 l=O (.lst xs)/\k=.int n/\0<=n/\n<xs.length/\D.nx σ (upd H3 l (.lst (xs.set n.toNat v)))
theorem Bf(he:PE X e te)(ho:PE X o to)(hi:PE X i ti)(hs:swapsWith e (O (.Subscript o i p2)) pos.line X.env=pure jS:=by rfl):PS X (.Assign [.Subscript o i p2] e pos) (Ei te to ti):=by
 intro pins s σ H D I h;refine wpAny_Assign_Subscript (thn (he pins s σ H _ I h) λv s1 ⟨x,H1,I1,r1,q1⟩=>thn (ho pins s1 σ H1 _ I1 q1) λov s2 ⟨y,H2,I2,r2,q2⟩=>thn (hi pins s2 σ H2 _ I2 q2) λiv s3 ⟨k,H3,I3,r3,q3⟩=>?_) hs;obtain⟨l,xs,n,rfl,hl,rfl,h0,h1,q⟩:=q3;cases r2;obtain⟨t,rfl⟩:=r3;obtain⟨z,its,m,r,hlen,ee⟩:=I3.lstM hl
 refine PySem.W.ki_setAt (items:=its.toArray) (n:=m) ee h0 (by
                                  have:Ux<2 ^ 63:=by decide
                                  lia) (by simp;lia) ?_
 refine⟨σ,_,I3.lset (t':=s3.toks) (its:=its) (its':=its.set n.toNat v) (f:=(·.setIfInBounds n.toNat v)) hl ee (by simp) (r.set r1 n.toNat) (by rw[List.length_set];exact z),q⟩
noncomputable def WM(j:Nat)(g f:M D):SM:=sB f λd Z1=>match Z1[j]? with
 |some (O (.own _))=>sB g (λy Z2=>match y with
  |.int k=>(match Z2[j]? with
   |some (O (.own ds))=>if 0<=k/\k<ds.length then .nx (Z2.set j (O (.own (ds.set k.toNat d))))else .bad
   |_=>.bad)
  |_=>.bad) Z1
 |_=>.bad
theorem D6{j:Nat}{f g:M D}(he:PE X e (tD X.K B G0 f))(ho:PE X o (KL j))(hi:PE X i (tD X.K B G0 g))(hs:swapsWith e (O (.Subscript o i p2)) pos.line X.env=pure jS:=by rfl) :
  PS X (.Assign [.Subscript o i p2] e pos) (tS X.K B G0 KX (WM j g f)):=
 Ze (Bf he ho hi hs) λD σ H q=>tS.bnd (R:=Rep X.K) q λv H1 G1 Z1 d k r a=>by
  cases q0:Z1[j]? with
  |none=>rw[q0]at a;exact a.elim
  |some o0=>
   cases o0 with
   |none=>rw[q0]at a;exact a.elim
   |some sl0=>
    cases sl0 with
    |deep _ _=>rw[q0]at a;exact a.elim
    |pub d=>rw[q0]at a;exact a.elim
    |own xI=>
     rw[q0]at a;obtain⟨ad,vs0,h1,h2,h3,h4,h5⟩:=k.own j xI q0;refine⟨.ref ad,h1,G1,Z1,k,?_⟩;dsimp only at a;unfold sB at a;cases z:g Z1 with
     |bad=>rw[z]at a;exact a.elim
     |ok y Z2=>
      rw[z]at a;dsimp only at a;intro kv G' H' k' s' r';cases y with
      |int n=>
       dsimp only at a;cases q:Z2[j]? with
       |none=>rw[q]at a;exact a.elim
       |some oo=>
        cases oo with
        |none=>rw[q]at a;exact a.elim
        |some sl=>
         cases sl with
         |deep _ _=>rw[q]at a;exact a.elim
         |pub d=>rw[q]at a;exact a.elim
         |own ds=>
          rw[q]at a;dsimp only at a;split at a
          .rename_i hn
           obtain⟨ad',vs,g1,g2,g3,g4,g5⟩:=k'.own j ds q;rw[h1]at g1;cases g1;refine⟨ad,vs,n,rfl,g4,r'.int_inv,hn.1,by rw[g5.length];exact hn.2,?_⟩;exact a σ G' _ (k'.change q h1 (g5.set (r.mono s') n.toNat)) s'
          .exact a.elim
      |_=>exact a.elim
noncomputable def Y5(z:Str)(lo hi:j6):Str:=if(Builtin.Str.strSliceIndices lo hi 1 z.length).length=z.length then z else⟨((Builtin.Str.strSliceIndices lo hi 1 z.length).filterMap (z.cps[·]?)).toArray⟩
theorem Eh:SlR X (λx lo hi H Q=>∃z,x=.str z/\(Y5 z lo hi).length<=Ux/\Q (.str (Y5 z lo hi)) H):=by
 intro pins s σ H x v vl vu lo hi sl Q I rx hs pl pu h;obtain⟨z,rfl,hz,q⟩:=h;obtain⟨t,rfl⟩:=rx;refine⟨"str", _,F.slot_str_getitem.lookup,typeIs_str s z t,?_⟩
 obtain⟨l,el,e1⟩:∃l:Option (Int×Tok),vl=partValue l/\l.map (·.1)=lo:=by
  cases pl with
  |none=>exact⟨jQ,rfl,rfl⟩
  |int k t'=>exact⟨O (k,t'),rfl,rfl⟩
 obtain⟨u,eu,e2⟩:∃u:Option (Int×Tok),vu=partValue u/\u.map (·.1)=hi:=by
  cases pu with
  |none=>exact⟨jQ,rfl,rfl⟩
  |int k t'=>exact⟨O (k,t'),rfl,rfl⟩
 subst el eu;refine wpAny_getItem_str_slice (l:=l) (u:=u) (st:=jQ) hs jP ?_;unfold sliceMade slicePicked;rw[e1,e2];unfold Y5 at hz q;by_cases hw:(Builtin.Str.strSliceIndices lo hi 1 z.length).length=z.length
 .rw[Qs hw]at hz q
  rw[if_pos (by simp[hw])];exact⟨.str z,H,I,⟨t,rfl⟩,q⟩
 .rw[QE hw]at hz q
  rw[if_neg (by simp[hw])];exact⟨hz,.str _,H,I.tok _,⟨_,rfl⟩,q⟩
end
section
variable{X:Cx}{B G0:Hp}{KX:XW}{e o a b c tg i:Uw}{pos p2:Pos}{es rest:jX}{te to ti:TE}
theorem pvb(i:Nat){x:Str}{pos:Pos}{N':List Str}{scope:Scope}{cl:List (Str×Uu)}{C:Uu}{s₀:Us}{H₀:Hp}{ex:j4}(hN:N'[i]?=O x:=by rfl)
  (h:visK (scope.names.lookup x)=jR:=by rfl) (hd:(x==("__debug__" : Str))=jS:=by decide) (hcd:(x==("__classdict__" : Str))=jS:=by decide) :
  PE (X.blk N' scope cl C s₀ H₀ ex) (.Name x pos) (KL i):=OX hN (Ca h) hd hcd
noncomputable def Wg:D->j6->j6->jY
 |.list xs,lo,hi=>O (.list (DL.cutD xs lo hi))
 |.str z,lo,hi=>if(Y5 z lo hi).length<=1000000 then O (.str (Y5 z lo hi))else jQ
 |_,_,_=>jQ
noncomputable def KW(f:M D)(lo hi:M j6):M D:=U5 f λx=>U5 lo λl=>U5 hi λh=>U2 (Wg x l h)
theorem A7{lo hi:Option Uw}{f:M D}{l h:M j6}(he:PE X e (tD X.K B G0 f))(hl:PO X lo (tOi X.K B G0 l))(hu:PO X hi (tOi X.K B G0 h)) :
  PE X (.Subscript e (.Slice lo hi jQ p2) pos) (tD X.K B G0 (KW f l h)):=
 Km (CY (Dq.or Eh) he hl hu) λσ H Q q=>by
  refine tM.one (R:=Rep X.K) q λv H2 G Z x k r a=>?_;refine tM.nx (R:=λ_ b c=>b=c) k a λl' H3 G3 Z3 xl k3 s3 r3 a3=>?_;refine tM.nx (R:=λ_ b c=>b=c) k3 a3 λh' H4 G4 Z4 xh k4 s4 r4 a4=>?_;have r3:l'=xl:=r3;have r4:h'=xh:=r4;subst r3 r4;unfold U2 Wg at a4
  cases x with
  |list xs=>obtain⟨ad,vs,rfl,h1,r1⟩:=((r.mono s3).mono s4).lst_inv;exact .inl ⟨ad,vs,rfl,k4.gh.seq h1,λp hp=>aft.done a4 k4 (Ext.new k4.gh hp) (.lst (SqL.of KO) ((r1.cut l' h').mono (Zk (k4.gh.free hp))))⟩
  |str z=>
   dsimp only at a4;have:=r.str_inv;subst this;by_cases hc:(Y5 z l' h').length<=1000000
   .rw[Qs hc]at a4
    exact .inr ⟨z,rfl,Qz hc lim,aft.now a4 k4 (.str _)⟩
   .rw[QE hc]at a4;exact a4.elim
  |_=>exact a4.elim
end
section
variable{X:Cx}{B G0:Hp}{e o a b c tg:Uw}{pos p2:Pos}{es rest:jX}{te to ti:TE}
noncomputable def Kq{β:Type}(p:D->D->Option β)(i:Nat)(g:M D):M β:=λZ=>match Z[i]? with
 |some (O (.pub d))=>(U5 g λy=>U2 (p d y)) Z
 |some (O (.own _))=>(U5 g λy=>λZ'=>match Z'[i]? with|some (O (.own ds))=>U2 (p (.list ds) y) Z'|_=>.bad) Z
 |_=>.bad
theorem OC{K:Frag}{σ:St}{H:Hp}{p:D->D->j8}{r:R2}{i:Nat}{g:M D}{Q:Bool->Hp->Prop}{QV:VK}(hq:∀t H3,Q t H3->QV (.bl t) H3)(hr:∀v u G H x y d Q,Same G H->Rep K G v x->Rep K G u y->p x y=O d->Q (.bl d) H->r v u H Q)
  (q:tBo K B G0 (Kq p i g) σ H Q):KL i σ H λx H1=>tD K B G0 g σ H1 λy H2=>r x y H2 QV:=by
 obtain⟨G,Z,k,a⟩:=q;unfold Kq at a;cases q:Z[i]? with
 |none=>rw[q]at a;exact a.elim
 |some o=>
  cases o with
  |none=>rw[q]at a;exact a.elim
  |some sl=>
   cases sl with
   |deep _ _=>rw[q]at a;exact a.elim
   |pub d=>
    rw[q]at a;obtain⟨v,h1,h2⟩:=k.pub i d q;refine⟨v,h1,G,Z,k,?_⟩;dsimp only[U5]at a;cases z:g Z with
    |bad=>rw[z]at a;exact a.elim
    |ok y Z1=>rw[z]at a;intro u G' H' k' s' r';obtain⟨d',e',a'⟩:=aft.opt a;exact hr v u G' H' d y d' _ k'.gh (h2.mono s') r' e' (hq _ _ (a' d' G' H' k' s' jP))
   |own ds=>
    rw[q]at a;obtain⟨ad,vs,h1,h2,h3,h4,h5⟩:=k.own i ds q;refine⟨.ref ad,h1,G,Z,k,?_⟩;dsimp only[U5]at a;cases z:g Z with
    |bad=>rw[z]at a;exact a.elim
    |ok y Z1=>
     rw[z]at a;dsimp only at a;intro u G' H' k' s' r';cases q1:Z1[i]? with
     |none=>rw[q1]at a;exact a.elim
     |some oo=>
      cases oo with
      |none=>rw[q1]at a;exact a.elim
      |some sl1=>
       cases sl1 with
       |deep _ _=>rw[q1]at a;exact a.elim
       |pub d1=>rw[q1]at a;exact a.elim
       |own ds1=>
        rw[q1]at a;dsimp only at a;obtain⟨ad',ws,g1,g2,g3,g4,g5⟩:=k'.own i ds1 q1;rw[h1]at g1;cases g1;obtain⟨d',e',a'⟩:=aft.opt a;have sg:Same G' (upd G' ad (.lst ws)):=Zk g3
        have sh:Same (upd G' ad (.lst ws)) H':=λb o q=>by
         by_cases z:b=ad
         .subst z;rw[KO]at q;cases q;exact g4
         .rw[Kp z]at q;exact k'.gh b o q
        exact hr (.ref ad) u _ H' (.list ds1) y d' _ sh (.lst (SqL.of KO) (g5.mono sg)) (r'.mono sg) e' (hq _ _ (a' d' G' H' k' s' jP))
theorem D5{op:CmpOp}{p:D->D->j8}{i:Nat}{g:M D}(o:OpB X (UA op) p)(ha:PE X a (KL i))(hb:PE X b (tD X.K B G0 g))(hm:behindInMarks op b=jS) :
  PT X (.Compare a [op] [b] pos) (tBo X.K B G0 (Kq p i g)):=by
 obtain⟨r,h,j⟩:=o;exact Y1 (R1 h ha hb hm) λσ H Q q=>OC (λt H3 z=>⟨t,rfl,z⟩) j q
theorem D4{op:CmpOp}{p:D->D->j8}{i:Nat}{g:M D}(o:OpB X (UA op) p)(ha:PE X a (KL i))(hb:PE X b (tD X.K B G0 g))(hm:behindInMarks op b=jS) :
  PE X (.Compare a [op] [b] pos) (tD X.K B G0 (U3 UE (Kq p i g))):=by
 obtain⟨r,h,j⟩:=o;exact Km (NW h ha hb hm) λσ H Q q=>OC (λt H3 z=>z) j (tBo.val q)
end
end DL
namespace L2
open PySem PySem.Spec PyProof.Rows
noncomputable def Itz(K:Frag)(a b:Uu):It:=
 ⟨λi H=>∃xs x ys y,SqL K H a xs/\xs[i]?=O x/\SqL K H b ys/\ys[i]?=O y,
  λi H v H'=>∃p x y,H p=jQ/\v=.ref p/\(∀xs,SqL K H a xs->xs[i]?=O x)/\(∀ys,SqL K H b ys->ys[i]?=O y)/\H'=upd H p (.tup [x,y]),
  λi H=>∃xs ys,SqL K H a xs/\SqL K H b ys/\(xs.length<=i∨ys.length<=i)⟩
theorem Be{P:Ut}{w:World}{K:Frag}{elts:jX}{x1}{tp:Pos}(a b z TI TO i1 i2:Uu)(Dz:ZipApart z TI TO i1 i2 a b) :
  Turn P w K (.Tuple elts x1 tp) (Itz K a b) [z,TI,TO,i1,i2] z (λi h=>IsZip h z TI TO .none/\IsPair h TI (.ref i1) (.ref i2)/\(∃c d,IsPair h TO c d)/\h.IsListIter i1 a i/\h.IsListIter i2 b i) where
 mem:=by simp
 obj:=λi h st c hc=>by
  obtain⟨h1,h2,⟨c0,d0,h3⟩,⟨o4,h4,_,d4⟩,⟨o5,h5,_,d5⟩⟩:=st;have hc':c=z∨c=TI∨c=TO∨c=i1∨c=i2:=by simpa using hc
  rcases hc' with rfl|rfl|rfl|rfl|rfl
  .exact⟨_,h1,λv q=>by have q':Data.fields _=Data.cell v:=q;cases q'⟩
  .exact⟨_,h2,λv q=>by have q':Data.seq _ _=Data.cell v:=q;cases q'⟩
  .exact⟨_,h3,λv q=>by have q':Data.seq _ _=Data.cell v:=q;cases q'⟩
  .exact⟨o4,h4,λv q=>by rw[d4]at q;cases q⟩
  .exact⟨o5,h5,λv q=>by rw[d5]at q;cases q⟩
 keep:=λi h h' st k=>by obtain⟨h1,h2,⟨c0,d0,h3⟩,h4,h5⟩:=st;exact⟨k z (by simp) _ h1,k TI (by simp) _ h2,⟨c0,d0,k TO (by simp) _ h3⟩,h4.at λo q=>k i1 (by simp) o q,h5.at λo q=>k i2 (by simp) o q⟩
 item:=by
  intro X hP hw hK hc i pins s σ H E I hf st hg;subst hP hw hK;obtain⟨h1,h2,⟨c0,d0,h3⟩,h4,h5⟩:=st;obtain⟨xs,x,ys,y,hq,hx,kF,hy⟩:=hg;obtain⟨its,rv,p,hz⟩:=I.list hq;obtain⟨its',xA,p',hz'⟩:=I.list kF;obtain⟨u,hu,ru⟩:=rv.get hx;obtain⟨u',hu',xT⟩:=xA.get hy;refine wpAny_pyNext_zip_item Dz h1 h2 h3 h4 h5 p.isList p'.isList (x:=u) (y:=u') (by simpa using hu) (by simpa using hu') λh' g1 g3 g4 g5 gp gs gk=>?_
  refine⟨_,rfl,wpAny_letOwnedTupleGo_zip g1 λh2' gz sb=>?_⟩;have xW:z<s.heap.objs.size:=Qf h1;have kI:Heap.SameBut z h' h2':=sb;have gp2:h2'.get? s.heap.objs.size=O {cls:=.type "tuple", data:=.seq #[u,u']}:=(kI.2 _ (Jl xW)).trans gp
  have kk:∀c o,c∉[z,TI,TO,i1,i2]->s.heap.get? c=O o->h2'.get? c=O o:=λc o hc q=>by
   have n1:c≠z:=λe=>hc (by simp[e])
   have n3:c≠TO:=λe=>hc (by simp[e])
   have n4:c≠i1:=λe=>hc (by simp[e])
   have n5:c≠i2:=λe=>hc (by simp[e])
   exact(kI.2 c n1).trans (gk c o n1 n3 n4 n5 q)
  have hn:H s.heap.objs.size=jQ:=I.hok.fresh (Ql _)
  have I2:Inv X pins σ (upd H s.heap.objs.size (.tup [x,y])) {s with heap:=h2'}:=
   I.turnedNew (t':=s.toks) (fp:=[z,TI,TO,i1,i2]) hf kk (Ql _) ⟨by show 2<=Ux;decide,[u,u'],.cons ru (.cons xT .nil),⟨_,gp2,rfl,_,rfl⟩⟩
  have gTI:IsPair h' TI (.ref i1) (.ref i2):=gk TI _ Dz.TIz Dz.TITO Dz.TIi1 Dz.TIi2 h2
  refine⟨.ref s.heap.objs.size,_,I2,rfl,⟨_,x,y,hn,rfl,λws hw=>by rw[I.list_inj hw hq];exact hx,λws hw=>by rw[I.list_inj hw kF];exact hy,rfl⟩,
   ⟨gz,(kI.2 _ Dz.TIz).trans gTI,⟨u,u',(kI.2 _ Dz.TOz).trans g3⟩,g4.at λo q=>(kI.2 _ Dz.i1z).trans q,g5.at λo q=>(kI.2 _ Dz.i2z).trans q⟩,λc hc=>?_⟩
  have hlt:c<s.heap.objs.size:=by
   have hc':c=z∨c=TI∨c=TO∨c=i1∨c=i2:=by simpa using hc
   rcases hc' with rfl|rfl|rfl|rfl|rfl
   .exact xW
   .exact Qf h2
   .exact Qf h3
   .obtain⟨o,ho,_⟩:=h4;exact Qf ho
   .obtain⟨o,ho,_⟩:=h5;exact Qf ho
  rw[Kp (QI hlt)];exact(hf c hc).1
 done:=by
  intro X hP hw hK hc i pins s σ H E I hf st hg;subst hP hw hK;obtain⟨h1,h2,⟨c0,d0,h3⟩,h4,h5⟩:=st;obtain⟨xs,ys,hq,kF,hx⟩:=hg;obtain⟨its,rv,p,hz⟩:=I.list hq;obtain⟨its',xA,p',hz'⟩:=I.list kF;have hl:=rv.length;have hl':=xA.length;refine wpAny_pyNext_zip_end (I.ok.hd hc) Dz h1 h2 h3 h4 h5 p.isList p'.isList ?_ λh' eb=>⟨rfl,I.turnedL (t':=s.toks) hf λc o hb q=>eb c o (λe=>hb (by simp[e])) (λe=>hb (by simp[e])) (λe=>hb (by simp[e])) (λe=>hb (by simp[e])) q⟩
  rcases hx with hx|hx
  .exact .inl (by simp;lia)
  .exact .inr (by simp;lia)
 self:=λ_ _ _ _ _ st h=>wpAny_pyIter_zip st.1 h
section
variable{X:Cx}
noncomputable def iZip(K:Frag)(ta:TA):TI:=λσ H R=>ta σ H λvs H1=>∃a b xs ys,vs=[.ref a,.ref b]/\SqL K H1 a xs/\SqL K H1 b ys/\R (Itz K a b) H1
theorem Eg{a b:Uw}{ta:TA}{p pos:Pos}{elts:jX}{x1}{tp:Pos}(hg:Gl X "zip")(hm:X.mg "zip" = jQ)(ha:PA X [a,b] ta)
  (hs:Uz [a,b] X.env=[(jS,eval a X.env),(jS,eval b X.env)]:=by rfl) (hs2:Uz [b] X.env=[(jS,eval b X.env)]:=by rfl):PI X (.Tuple elts x1 tp) (.Call (.Name "zip" p) [a,b] [] pos) (iZip X.K ta):=by
 intro pins s σ H R I h;refine Call_ (XV I hg hm boot_zip (Jq (thn (ha pos pins s σ H _ I h) λus s1 ⟨vs,H1,I1,r1,q1⟩=>?_) (by rw[hs,hs2]) (by rw[hs2];rfl)));obtain⟨l1,l2,xs,ys,e,hq,kF,q⟩:=q1;subst e;cases r1 with
 |cons r rr=>
  cases rr with
  |cons r' rr=>
   cases rr;cases (show _=Value.ref l1 from r);cases (show _=Value.ref l2 from r');obtain⟨its,rv,pl,hz⟩:=I1.list hq;obtain⟨its',xA,xU,hz'⟩:=I1.list kF;have n1:l1<s1.heap.objs.size:=by obtain⟨_,e,_⟩:=id pl.isList;exact Qf e
   have n2:l2<s1.heap.objs.size:=by obtain⟨_,e,_⟩:=id xU.isList;exact Qf e
   have ne:∀i j:Nat,i≠j->s1.heap.objs.size+i≠s1.heap.objs.size+j:=λi j h e=>h (Nat.add_left_cancel e);have m1:∀m:Nat,l1≠s1.heap.objs.size+m:=λm=>QI (Qy n1 (J0 _ _));have m2:∀m:Nat,l2≠s1.heap.objs.size+m:=λm=>QI (Qy n2 (J0 _ _));refine call_zip_2 pl.isList xU.isList λh' g1 g2 g3 g4 g5 gs kk=>?_;have I2:Inv X pins σ H1 {s1 with heap:=h'}:=I1.kept (t':=s1.toks) kk;refine wpAny_pyIter_zip g1 ?_
   refine⟨s1.heap.objs.size+4,[s1.heap.objs.size+4,s1.heap.objs.size+2,s1.heap.objs.size+3,s1.heap.objs.size,s1.heap.objs.size+1],_,_,H1,rfl,I2,
    Be l1 l2 (s1.heap.objs.size+4) (s1.heap.objs.size+2) (s1.heap.objs.size+3) s1.heap.objs.size (s1.heap.objs.size+1) ⟨ne 2 4 (by decide),ne 3 4 (by decide),ne 0 4 (by decide),ne 1 4 (by decide),ne 2 3 (by decide),ne 2 0 (by decide),ne 2 1 (by decide),ne 3 0 (by decide),ne 3 1 (by decide),ne 0 1 (by decide),m1 4,m1 3,m1 0,m1 1,m2 4,m2 3,m2 0,m2 1⟩,⟨g1,g2,⟨_,_,g3⟩,g4,g5⟩,λc hc=>?_,q⟩
   have hc':s1.heap.objs.size<=c:=by
    have hc':c=s1.heap.objs.size+4∨c=s1.heap.objs.size+2∨c=s1.heap.objs.size+3∨c=s1.heap.objs.size∨c=s1.heap.objs.size+1:=by simpa using hc
    rcases hc' with rfl|rfl|rfl|rfl|rfl<;>first|exact J0 _ _|exact Ql _
   exact I1.fpOk hc' (I1.hok.fresh hc')
end
end L2
namespace DL
open PySem PySem.Spec L2
open PyProof.Rows hiding St
section
variable{X:Cx}{B G0:Hp}{e a b c tg:Uw}{pos:Pos}{es rest:jX}
noncomputable def Zb(xs ys:jT):jT:=(xs.zip ys).map λp=>.tuple [p.1,p.2]
theorem Au{K:Frag}{G1:Hp}{a b:Uu}{vs ws:List V}{ds es:jT}(h:SqL K G1 a vs)(h':SqL K G1 b ws)(r:Reps K G1 vs ds)(r':Reps K G1 ws es):YT K (Itz K a b) (Zb ds es) G1 where
 go:=λi G H s1 s2 hi=>by
  unfold Zb at hi;rw[Qd,List.length_zip]at hi;have hi1:i<vs.length:=by rw[r.length];lia
  have hi2:i<ws.length:=by rw[r'.length];lia
  exact⟨vs,vs[i],ws,ws[i],(s1.trans s2).seq h,Qh hi1,(s1.trans s2).seq h',Qh hi2⟩
 stop:=λi G H s1 s2 hi=>by
  unfold Zb at hi;rw[Qd,List.length_zip]at hi;refine⟨vs,ws,(s1.trans s2).seq h,(s1.trans s2).seq h',?_⟩;rw[r.length,r'.length]
  lia
 yld:=λi G H x H' d s1 s2 e y=>by
  obtain⟨p,u,v,hp,rfl,y1,y2,rfl⟩:=y;have z1:=y1 vs ((s1.trans s2).seq h);have z2:=y2 ws ((s1.trans s2).seq h');unfold Zb at e;rw[Qi]at e;cases q:(ds.zip es)[i]? with
  |none=>rw[q]at e;cases e
  |some pr=>rw[q]at e;cases e;rw[List.getElem?_zip_eq_some]at q;obtain⟨u',e1,r1⟩:=r.get q.1;obtain⟨v',e2,r2⟩:=r'.get q.2;rw[z1]at e1;rw[z2]at e2;cases e1;cases e2;exact⟨upd G p (.tup [u,v]),Ext.new s2 hp,.tup (SqT.of KO) (.cons ((r1.mono s1).mono (Zk (s2.free hp))) (.cons ((r2.mono s1).mono (Zk (s2.free hp))) .nil))⟩
noncomputable def Xv:jT->Option jT
 |[.list xs,.list ys]=>O (Zb xs ys)
 |_=>jQ
theorem Bd{x l:jT}(h:Xv x=O l):∃xs ys,x=[.list xs,.list ys]/\l=Zb xs ys:=by
 unfold Xv at h;split at h
 .cases h;exact⟨_,_,rfl,rfl⟩
 .cases h
noncomputable def Wu(f:M jT):M jT:=U5 f λx=>U2 (Xv x)
theorem Ef{f:M jT}{p2:Pos}{elts:jX}{x1}{tp:Pos}(hg:Gl X "zip")(hm:X.mg "zip" = jQ)(ha:PA X [a,b] (tDs X.K B G0 f))(hs:Uz [a,b] X.env=[(jS,eval a X.env),(jS,eval b X.env)]:=by rfl)(hs2:Uz [b] X.env=[(jS,eval b X.env)]:=by rfl) :
  PI X (.Tuple elts x1 tp) (.Call (.Name "zip" p2) [a,b] [] pos) (iD X.K B G0 (Wu f)):=YD (Eg hg hm ha hs hs2) λσ H R q=>tM.toI (R0:=Reps X.K) q λv H' G' Z' x k r a=>by
 cases z:Xv x with
 |none=>rw[z]at a;exact a.elim
 |some l=>
  rw[z]at a;obtain⟨xs,ys,rfl,rfl⟩:=Bd z;cases r with
  |cons r1 rr=>
   cases rr with
   |cons r2 rr=>cases rr;obtain⟨l1,vs,rfl,h1,q1⟩:=r1.lst_inv;obtain⟨l2,ws,rfl,h2,q2⟩:=r2.lst_inv;exact⟨l1,l2,vs,ws,rfl,k.gh.seq h1,k.gh.seq h2,a _ G' H' k (.refl _) (Au h1 h2 q1 q2)⟩
end
section
variable{X:Cx}{B G0:Hp}{e o a b c tg:Uw}{pos p2 p3:Pos}{es rest:jX}{te to ti:TE}
noncomputable def oIn:D->D->j8
 |.str i,.str j=>O (inS i j)
 |x,.list xs=>if x.canLay0=jR/\UH xs=jR/\x.depth<=60 then O (xs.any λy=>UJ y x)else jQ
 |x,.tuple xs=>if x.canLay0=jR/\UH xs=jR/\x.depth<=60 then O (xs.any λy=>UJ y x)else jQ
 |_,_=>jQ
noncomputable def YE(x y:D):j8:=(oIn x y).map λt=>!t
noncomputable def Y2(x y:D):j8:=match y with
 |.list xs=>if x.canLay0=jR/\UH xs=jR/\x.depth<=60 then O (xs.any λy=>UJ y x)else jQ
 |.tuple xs=>if x.canLay0=jR/\UH xs=jR/\x.depth<=60 then O (xs.any λy=>UJ y x)else jQ
 |_=>jQ
theorem HB(hu:X.A.units+64<cLine):OpB X (UA .In) Y2:=by
 refine⟨λv u H Q=>∃G x y d,Same G H/\Rep X.K G v x/\Rep X.K G u y/\Y2 x y=O d/\Q (.bl d) H,?_,λv u G H x y d Q s rx ry e k=>⟨G,x,y,d,s,rx,ry,e,k⟩⟩;intro pins s σ H x y v u Q I rx ry ⟨G,dx,dy,d,sg,px,py,e,q⟩;unfold Y2 at e;split at e
 .split at e
  .rename_i c
   cases e;obtain⟨as,ra⟩:=YW I sg px rx c.1;obtain⟨bs,rb⟩:=YW I sg py ry (show UH _=jR from c.2.1);exact SeqAt.in_list_reads rb ra c.2.1 c.1 (by have:=c.2.2;lia) ⟨.bl _,H,I,rfl,q⟩
  .cases e
 .split at e
  .rename_i c
   cases e;obtain⟨as,ra⟩:=YW I sg px rx c.1;obtain⟨bs,rb⟩:=YW I sg py ry (show UH _=jR from c.2.1);exact SeqAt.in_tuple_reads rb ra c.2.1 c.1 (by have:=c.2.2;lia) ⟨.bl _,H,I,rfl,q⟩
  .cases e
 .cases e
theorem Ee(hu:X.A.units+64<cLine):OpB X (UA .NotIn) (λx y=>(Y2 x y).map λt=>!t):=by
 refine⟨λv u H Q=>∃G x y d,Same G H/\Rep X.K G v x/\Rep X.K G u y/\(Y2 x y).map (λt=>!t)=O d/\Q (.bl d) H,?_,λv u G H x y d Q s rx ry e k=>⟨G,x,y,d,s,rx,ry,e,k⟩⟩;intro pins s σ H x y v u Q I rx ry ⟨G,dx,dy,d,sg,px,py,e,q⟩;unfold Y2 at e;split at e
 .split at e
  .rename_i c
   cases e;obtain⟨as,ra⟩:=YW I sg px rx c.1;obtain⟨bs,rb⟩:=YW I sg py ry (show UH _=jR from c.2.1);exact SeqAt.notIn_list_reads rb ra c.2.1 c.1 (by have:=c.2.2;lia) ⟨.bl _,H,I,rfl,q⟩
  .cases e
 .split at e
  .rename_i c
   cases e;obtain⟨as,ra⟩:=YW I sg px rx c.1;obtain⟨bs,rb⟩:=YW I sg py ry (show UH _=jR from c.2.1);exact SeqAt.notIn_tuple_reads rb ra c.2.1 c.1 (by have:=c.2.2;lia) ⟨.bl _,H,I,rfl,q⟩
  .cases e
 .cases e
theorem B_in(hu:X.A.units+64<cLine):OpB X (UA .In) oIn:=(HD.or (HB hu)).congr λx y=>by cases x<;>cases y<;>rfl
theorem HA(hu:X.A.units+64<cLine):OpB X (UA .NotIn) YE:=(Ej.or (Ee hu)).congr λx y=>by cases x<;>cases y<;>rfl
theorem At{tl th ts:TO}{lo hi:Option Uw}{st:Uw}(he:PE X e te)(hl:PO X lo tl)(hu:PO X hi th)(hst:PO X (O st) ts):PE X (.Subscript e (.Slice lo hi (O st) p2) pos)
  (λσ H Q=>te σ H λx H1=>tl σ H1 λl H2=>th σ H2 λu H3=>ts σ H3 λt H4=>∃a xs,x=.ref a/\SqL X.K H4 a xs/\l=jQ/\u=jQ/\t=O (-1)/\∀p,H4 p=jQ->Q (.ref p) (upd H4 p (.lst xs.reverse))):=by
 intro pins s σ H Q I h;refine Subscript_ (thn (he pins s σ H _ I h) λv s1 ⟨x,H1,I1,r1,q1⟩=>?_);refine wpAny_Slice (thn (hl pins s1 σ H1 _ I1 q1) λvl s2 ⟨l,H2,I2,pl,q2⟩=>thn (hu pins s2 σ H2 _ I2 q2) λvu s3 ⟨u,H3,I3,pu,q3⟩=>thn (hst pins s3 σ H3 _ I3 q3) λvt s4 ⟨t,H4,I4,pt,q4⟩=>?_);obtain⟨a,xs,rfl,hx,rfl,rfl,rfl,q⟩:=q4;cases r1;have I5:Inv X pins σ H4 {s4 with heap:=s4.heap.push {cls:=.type "slice", data:=.fields #[vl,vu,vt]}}:=I4.kept (t':=s4.toks) λb ob q=>Qe _ q
 obtain⟨its,r,ht,hz⟩:=I5.list hx;have hlen:=r.length;have hg:Uy (model X.prog X.w) X.A (getItem (.ref a) (.ref s4.heap.objs.size)) (EP X pins σ Q) X.xe {s4 with heap:=s4.heap.push {cls:=.type "slice", data:=.fields #[vl,vu,vt]}}:=by refine wpAny_getItem_list_slice ht.isList (Heap.IsSliceOf.new ..) pl pu pt (by simp) ?_ (by rw[List.size_toArray]<;>lia);rw[PySem.W.krv_pick];refine⟨.ref _,_,I5.laid (t':=s4.toks) (o:=.lst xs.reverse) (λb ob q=>Qe _ q) (Ql _) ?_,rfl,q _ (I5.hok.fresh (Ql _))⟩;exact⟨by rw[List.length_reverse];exact hz,its.reverse,0,r.reverse,Qn _ jP⟩
 show Uy (model X.prog X.w) X.A (subscriptTail e (.Slice lo hi (O st) p2) (.ref a) (.ref s4.heap.objs.size)) (EP X pins σ Q) X.xe {s4 with heap:=s4.heap.push {cls:=.type "slice", data:=.fields #[vl,vu,vt]}};exact tail_any (ops:=[.ref a,.ref s4.heap.objs.size]) ht.isList.typeIs slot_list_getitem.lookup hg (by with_unfolding_all rfl)
noncomputable def Wh:D->j6->j6->j6->jY
 |.list xs,jQ,jQ,O i=>if i = -1 then O (.list xs.reverse)else jQ
 |_,_,_,_=>jQ
noncomputable def XA(f:M D)(lo hi st:M j6):M D:=U5 f λx=>U5 lo λl=>U5 hi λh=>U5 st λt=>U2 (Wh x l h t)
theorem D3{lo hi:Option Uw}{st:Uw}{f:M D}{l h t:M j6}(he:PE X e (tD X.K B G0 f))(hl:PO X lo (tOi X.K B G0 l))(hu:PO X hi (tOi X.K B G0 h))(hst:PO X (O st) (tOi X.K B G0 t)) :
  PE X (.Subscript e (.Slice lo hi (O st) p2) pos) (tD X.K B G0 (XA f l h t)):=
 Km (At he hl hu hst) λσ H Q q=>by
  refine tM.one (R:=Rep X.K) q λv H2 G Z x k r a=>?_;refine tM.nx (R:=λ_ b c=>b=c) k a λl' H3 G3 Z3 xl k3 s3 r3 a3=>?_;refine tM.nx (R:=λ_ b c=>b=c) k3 a3 λh' H4 G4 Z4 xh k4 s4 r4 a4=>?_;refine tM.nx (R:=λ_ b c=>b=c) k4 a4 λt' H5 G5 Z5 xt k5 s5 r5 a5=>?_;have r3:l'=xl:=r3;have r4:h'=xh:=r4;have r5:t'=xt:=r5;subst r3 r4 r5
  cases x with
  |list xs=>
   cases l' with
   |some _=>exact a5.elim
   |none=>
   cases h' with
   |some _=>exact a5.elim
   |none=>
   cases t' with
   |none=>exact a5.elim
   |some i=>
   obtain⟨ad,vs,rfl,h1,r1⟩:=(((r.mono s3).mono s4).mono s5).lst_inv;by_cases hi:i = -1
   .subst hi
    exact⟨ad,vs,rfl,k5.gh.seq h1,rfl,rfl,rfl,λp hp=>aft.done a5 k5 (Ext.new k5.gh hp) (.lst (SqL.of KO) (r1.reverse.mono (Zk (k5.gh.free hp))))⟩
   .unfold U2 Wh at a5
    dsimp only at a5;rw[QE hi]at a5;exact a5.elim
  |_=>unfold U2 Wh at a5;exact a5.elim
noncomputable def XN:jT->Option jT
 |[.list xs]=>O xs
 |[.tuple xs]=>O xs
 |_=>jQ
theorem MS{x l:jT}(h:XN x=O l):x=[.list l]∨x=[.tuple l]:=by
 unfold XN at h;split at h
 .cases h;exact .inl jP
 .cases h;exact .inr jP
 .cases h
theorem P5:bootBuiltins "list" = O (.type "list"):=by decide +kernel
theorem Bc{f:M jT}(hg:Gl X "list")(hm:X.mg "list" = jQ)(ha:PA X [a] (tDs X.K B G0 f))(he:Uz [a] X.env=(jS,eval a X.env)::Uz [] X.env:=by rfl) :
  PE X (.Call (.Name "list" p2) [a] [] pos) (tL X.K B G0 (U5 f λxs=>U2 (XN xs))):=
 Km (Tq LF hg hm P5 ha (by decide) (by decide) he jP) λσ H Q ⟨G,Z,k,q⟩=>by
  refine⟨G,Z,k,?_⟩;unfold U5 at q;cases z:f Z with
  |bad=>rw[z]at q;exact q.elim
  |ok xs Z1=>
   rw[z]at q;dsimp only[U2]at q;intro vs G' H' k' s' r;cases z2:XN xs with
   |none=>rw[z2]at q;exact q.elim
   |some l=>
    rw[z2]at q;rcases MS z2 with rfl|rfl
    .obtain⟨v,rfl,q1⟩:=r.one_inv
     obtain⟨p,ws,rfl,h1,r1⟩:=q1.lst_inv;exact⟨p,ws,rfl,.inl (k'.gh.seq h1),λad hp=>q ad ws G' _ (k'.ext (Ext.hid k'.gh hp)) s' (NewL.of k' hp r1)⟩
    .obtain⟨v,rfl,q1⟩:=r.one_inv
     obtain⟨p,ws,rfl,h1,r1⟩:=q1.tup_inv;exact⟨p,ws,rfl,.inr (ZR k'.gh h1),λad hp=>q ad ws G' _ (k'.ext (Ext.hid k'.gh hp)) s' (NewL.of k' hp r1)⟩
noncomputable def W8(i:Nat):M jT:=λZ=>match Z[i]? with
 |some (O (.pub d))=>U2 (XN [d]) Z
 |some (O (.own ds))=>.ok ds Z
 |_=>.bad
theorem As{i:Nat}(hg:Gl X "list")(hm:X.mg "list" = jQ)(ho:PE X a (KL i))(he:Uz [a] X.env=(jS,eval a X.env)::Uz [] X.env:=by rfl) :
  PE X (.Call (.Name "list" p2) [a] [] pos) (tL X.K B G0 (W8 i)):=
 Km (Tq LF hg hm P5 (ZT ho YN he) (by decide) (by decide) he jP) λσ H Q ⟨G,Z,k,q⟩=>by
  unfold W8 at q;cases z:Z[i]? with
  |none=>rw[z]at q;exact q.elim
  |some oo=>
   cases oo with
   |none=>rw[z]at q;exact q.elim
   |some sl=>
    cases sl with
    |deep _ _=>rw[z]at q;exact q.elim
    |own ds=>rw[z]at q;dsimp only at q;obtain⟨ad,vs,h1,h2,h3,h4,h5⟩:=k.own i ds z;exact⟨.ref ad,h1,ad,vs,rfl,.inl (SqL.of h4),λl hp=>q l vs G _ (k.ext (Ext.hid k.gh hp)) (.refl _) (NewL.of k hp h5)⟩
    |pub d=>
     rw[z]at q;dsimp only[U2]at q;obtain⟨v,h1,h2⟩:=k.pub i d z;cases z2:XN [d]with
     |none=>rw[z2]at q;exact q.elim
     |some l=>
      rw[z2]at q;dsimp only at q;rcases MS z2 with e|e
      .cases e
       obtain⟨p,ws,rfl,g1,r1⟩:=h2.lst_inv;exact⟨_,h1,p,ws,rfl,.inl (k.gh.seq g1),λad hp=>q ad ws G _ (k.ext (Ext.hid k.gh hp)) (.refl _) (NewL.of k hp r1)⟩
      .cases e
       obtain⟨p,ws,rfl,g1,r1⟩:=h2.tup_inv;exact⟨_,h1,p,ws,rfl,.inr (ZR k.gh g1),λad hp=>q ad ws G _ (k.ext (Ext.hid k.gh hp)) (.refl _) (NewL.of k hp r1)⟩
noncomputable def RC:jT->jY
 |[.int i]=>O (.int i)
 |[.bool b]=>O (.int (if b then 1 else 0))
 |_=>jQ
theorem Ed:Yl X (.type "int") RC:=by
 refine⟨_,A8,λvs G H ds d Q s r e k=>?_⟩;unfold RC at e;split at e
 .cases e
  obtain⟨v,rfl,q⟩:=r.one_inv;rw[q.int_inv];exact .inl ⟨_,rfl,k _ G H (.refl s) (.int _)⟩
 .cases e
  obtain⟨v,rfl,q⟩:=r.one_inv;rw[q.bl_inv];exact .inr ⟨_,rfl,k _ G H (.refl s) (.int _)⟩
 .cases e
end
section
variable{X:Cx}{B G0:Hp}{e o a b c tg:Uw}{pos p2 p3 p4:Pos}{es rest:jX}{te to ti:TE}
theorem Tp:∀{ns:jU}{us:jV},Vals (ns.map V.int) us->PyProof.Rows.IntsAre us ns
 |[],_,.nil=>.nil
 |n::ns,_,.cons h t=>by obtain⟨tk,rfl⟩:=h;exact .cons n tk (Tp t)
noncomputable def XU(ns:jU):Nat:=(PyProof.Rows.firstMet (λi=>ns.getD i 0) ns.length).length
theorem Ar(hc:X.calm=jR):ZW X (.type "set") (λxs H Q=>∃l,∃ns:jU,xs=[.ref l]/\SqL X.K H l (ns.map V.int)/\ns.length+1<4096/\∀S p,H p=jQ->Q (.ref p) (upd H p (.set S (XU ns)))):=by
 intro pins s σ H xs us Q I rx h;obtain⟨l,ns,rfl,hq,hb,q⟩:=h;obtain⟨u,rfl,ru⟩:=rx.one;cases ru;obtain⟨its,rv,p,hz⟩:=I.list hq;have hi:=Tp rv;have hn:its.toArray.size=ns.length:=by have:=rv.length;rw[List.length_map]at this;simp;lia
 refine call_set_list (I.ok.hd hc) p.isList (ns:=ns) (by simpa using hi) (by rw[hn];exact hb) λh' tk hS hk=>?_
 rw[hn]at hS;refine⟨.ref s.heap.objs.size,_,I.laid (t':=tk) (λb o e=>hk b o (Qf e) e) (Ql _) (show Zy X.prog X.w _ h' _ (.set _ (XU ns))from hS),rfl,q _ _ (I.hok.fresh (Ql _))⟩
theorem Aq:ZW X (.builtin "len") (λxs H Q=>∃p S n,xs=[.ref p]/\H p=O (.set S n)/\Q (.int n) H):=by
 intro pins s σ H xs us Q I rx h;obtain⟨p,S,n,rfl,hp,q⟩:=h;obtain⟨u,rfl,ru⟩:=rx.one;cases ru;obtain⟨o,es,ep,t,h1,h2,h3,h4,h5,h6,h7,h8⟩:=(show s.heap.SetOf (intKind X.prog X.w) p S n from I.hok p _ hp)
 have hsb:scanBound=4096:=rfl;refine call_len_set h1 h2 h3 h7 (by lia) ?_;rw[h8];exact⟨.int n,H,I.tok _,⟨_,rfl⟩,q⟩
noncomputable def Xc:jT->Option jU
 |[]=>O []
 |.int i::r=>(Xc r).map (i :: ·)
 |_=>jQ
theorem PQ{K:Frag}{G:Hp}:∀{vs:List V}{ds:jT}{ns:jU},Reps K G vs ds->Xc ds=O ns->vs=ns.map V.int
 |_,_,ns,.nil,e=>by cases e;rfl
 |_,_,ns,.cons (d:=d) r t,e=>by
  cases d with
  |int b=>
   unfold Xc at e;cases z:Xc _ with
   |none=>rw[z]at e;cases e
   |some cs=>rw[z]at e;cases e;rw[r.int_inv,PQ t z];rfl
  |_=>cases e
theorem P4(ns:jU):Xc (ns.map int)=O ns:=by
 induction ns with
 |nil=>rfl
 |cons b r ih=>rw[QA,Xc,ih];rfl
noncomputable def WT:jT->jY
 |[.list ds]=>(match Xc ds with
  |some ns=>if ns.length+1<4096 then O (.int (XU ns))else jQ
  |none=>jQ)
 |_=>jQ
theorem jf{xs:jT}{d:D}(h:WT xs=O d):∃ds ns,xs=[.list ds]/\Xc ds=O ns/\ns.length+1<4096/\d=.int (XU ns):=by
 unfold WT at h;split at h
 .rename_i ds
  cases z:Xc ds with
  |none=>rw[z]at h;cases h
  |some ns=>
   rw[z]at h;dsimp only at h;split at h
   .rename_i c
    cases h;exact⟨ds,ns,rfl,z,c,rfl⟩
   .cases h
 .cases h
theorem Ap:bootBuiltins "set" = O (.type "set"):=by decide +kernel
theorem A6{f:M jT}(hc:X.calm=jR)(hg:Gl X "len")(hm:X.mg "len" = jQ)(xm:Gl X "set")(hm2:X.mg "set" = jQ)(ha:PA X [a] (tDs X.K B G0 f))(he:Uz [a] X.env=(jS,eval a X.env)::Uz [] X.env:=by rfl)
  (kM:Uz [.Call (.Name "set" p2) [a] [] p3] X.env=(jS,eval (.Call (.Name "set" p2) [a] [] p3) X.env)::Uz [] X.env:=by rfl) :
  PE X (.Call (.Name "len" p4) [.Call (.Name "set" p2) [a] [] p3] [] pos) (tD X.K B G0 (Za WT f)):=
 Km (Vk Aq hg hm boot_len (ZT (Tq (Ar hc) xm hm2 Ap ha (by decide) (by decide) he jP) YN kM) (by decide) (by decide) kM jP) λσ H Q q=>tM.one (R:=Reps X.K) q λvs H2 G Z x k r a=>by obtain⟨d,e,a⟩:=a.opt;obtain⟨ds,ns,rfl,z,c,rfl⟩:=jf e;obtain⟨v,rfl,q1⟩:=r.one_inv;obtain⟨l,ws,rfl,h1,r1⟩:=q1.lst_inv;have:=PQ r1 z;subst this;refine⟨l,ns,rfl,k.gh.seq h1,c,λS p hp=>⟨p,S,XU ns,rfl,KO,?_⟩⟩;exact aft.done a k (Ext.hid k.gh hp) (.int _)
end
end DL
namespace L2
open PySem PySem.Spec PyProof.Rows
end L2
namespace DL
open PySem PySem.Spec L2
open PyProof.Rows hiding St
end DL
namespace L2
open PySem PySem.Spec PyProof.Rows
section
variable{prog:Ut}{w:World}{A:Around}{E:Ur->Us->Prop}{s:Us}{M:Model}{env:Env}
theorem EI{pos:Pos}{T:String}{args:List (Bool×Sem Ur)}{kws:List (Option Str×Sem Ur)}{Q:Ur->Us->Prop}(hp:args.any (·.1)=jS)(hk:kws.any (·.1.isNone)=jS)
  (h:Uy M A (evalArgs (.type T) jR args kws) (λa s1=>Uy M A (call (.type T) a.pos a.kw) Q E s1) E s):Uy M A (callWith pos (.type T) [] args kws) Q E s:=by
 unfold callWith;refine Qb (JD (QF h (λa s1 h1=>Qb (Jp ?_)) λ_ _ z=>z));simp only[hp,hk,Bool.false_or];refine Qb (Qg ?_);exact Qb (QF h1 (λr s2 hr=>Qb (JD (wpAny_point (Qg hr)))) λ_ _ z=>z)
theorem Bb(l:Uu)(t:Tok)(items:Array Ur)(n:Nat)(dct:j7)(sl:Array jW) :
  Meets (Builtin.«enumerate.__new__» ⟨[.type "enumerate", .ref l],[("start", .int 1 t)]⟩) (λ_ R s=>s.heap.get? l=O ⟨.type "list", dct,.seq items n,sl⟩ /\
   R (.ok (.ret (.ref (s.heap.push {cls:=.type "list_iterator", data:=.fields #[.ref l,.int 0 0]}).objs.size))) {s with heap:=(s.heap.push {cls:=.type "list_iterator", data:=.fields #[.ref l,.int 0 0]}).push {cls:=.type "enumerate", data:=.fields #[.none,.bool jS,.ref s.heap.objs.size,rawInt 1,.none,.none]}}):=
 .of_wp λprog w A R s h=>by
  obtain⟨hp,g,d,tk,os⟩:=s;obtain⟨hl,h⟩:=h;have hsub:=sub_enumerate;have hL:Heap.IsList (Shared.heap ⟨hp,g,d,tk,os⟩) l items:=⟨_,hl,rfl,n,rfl⟩
  wp_walk using AutoSeq1.wpAny_loadPart' hl
  refine wpAny_stack_any λst=>(Qg ?_);split
  .rename_i c _ _ _ _ _
   cases (c==Value.type "enumerate")<;>(wp_walk using(AutoSeq1.wpAny_loadPart' hl),(Jx hL))<;>exact⟨_,rfl,h⟩
  ·(wp_walk using(AutoSeq1.wpAny_loadPart' hl),(Jx hL));exact⟨_,rfl,h⟩
theorem jF{T newId initId:String}{Bn Bi:Builtin}{args:jV}{kw:List (Str×Ur)}{S:PySem.Spec}{Q Q1:Ur->Us->Prop}(ft:TypeCalled T newId initId)
  (hct:checkTypeCall T ⟨args,kw⟩=pure ()) (hcn:checkBuiltinCall newId ⟨.type T::args,kw⟩=pure ()) (eN:entryFor table newId=O Bn) (eI:entryFor table initId=O Bi)
  (g:Meets (Bn ⟨.type T::args,kw⟩) S) (h:S A.in1 (wants Q1 E) s)
  (hnext:∀obj s1,Q1 obj s1->s1.TypeIs obj T/\argsOk initId ⟨obj::args,kw⟩/\∃Si,Meets (Bi ⟨obj::args,kw⟩) Si/\Si A.in1 (wants (λr s2=>r=.none/\Q obj s2) E) s1) :
  Uy (model prog w) A (call (.type T) args kw) Q E s:=by
 obtain⟨c,tl,hmro⟩:=ft.mro;have hmade:=ft.made;have hsub:=ft.sub;refine wpAny_call (codeAny_of_tree ?_);show Uy _ _ (callAny (.type T) _) _ _ _;refine Qg ⟨Code.quiet_builtin _ (by decide +kernel),(codeAny_builtin F.entry_type_call ?_)⟩;rw[Around.under_plain (weight_type_call_type T args kw) (units_type_call_type T args kw)];have h1:=ft.notType;have h2:=ft.canCreate
 repeat' (any_goals (first|wp_step|assumption))
 refine Jv (Jg ft.plain eN (wpAny_of_eq hcn (g prog w A.in1 _ s h))) λr s1 hr=>?_
 match r,hr with
 |.error e,hr=>exact hr
 |.ok (.ret obj),hr=>
  obtain⟨hT,hok,Si,gi,hsi⟩:=hnext _ _ hr;have hli:=ft.init.lookup;have hbi:=ft.init.bind obj
  repeat' (any_goals (first|wp_step|assumption))
  refine Jv (Jg ft.init.plain eI (ft.init.check _ _ _ _ _ _ _ _ hT hok (gi prog w A.in1 _ s1 hsi))) λr2 s2 kZ=>?_
  match r2,kZ with
  |.error e,kZ=>exact kZ
  |.ok (.ret r),kZ=>
   obtain⟨rfl,hq⟩:=kZ
   repeat' (any_goals (first|wp_step|assumption))
  |.ok .next,kZ=>exact kZ.elim
  |.ok .brk,kZ=>exact kZ.elim
  |.ok .cont,kZ=>exact kZ.elim
 |.ok .next,hr=>exact hr.elim
 |.ok .brk,hr=>exact hr.elim
 |.ok .cont,hr=>exact hr.elim
theorem je{T newId:String}{self:Ur}{rest:jV}{kw:List (Str×Ur)}(hl:typeLookup (.type T) "__init__" = pure (O (.builtin "object.__init__")))
  (hm:Bind.madeBy (.type T)=pure (O newId)) (hne:(O newId != O "object.__new__")=jR) :
  Meets (Builtin.«object.__init__» ⟨self::rest,kw⟩) (λ_ R s=>s.TypeIs self T/\R (.ok (.ret .none)) s):=by
 refine .of_wp λprog w A R s hs=>?_
 obtain⟨hT,hq⟩:=hs;cases rest with
 |nil=>
  cases kw with
  |nil=>exact Qg ⟨_,rfl,hq⟩
  |cons k kw=>(repeat' (any_goals (first|wp_step|assumption)));exact⟨_,rfl,hq⟩
 |cons a rest=>(repeat' (any_goals (first|wp_step|assumption)));exact⟨_,rfl,hq⟩
theorem jd(a:Ur)(t:Tok):checkTypeCall "enumerate" ⟨[a],[("start", .int 1 t)]⟩=pure ():=by kernel_rfl
theorem A5(a:Ur)(t:Tok):checkBuiltinCall "enumerate.__new__" ⟨[.type "enumerate", a],[("start", .int 1 t)]⟩=pure ():=by kernel_rfl
theorem jc(o a:Ur)(t:Tok):argsOk "object.__init__" ⟨[o,a],[("start", .int 1 t)]⟩:=by unfold argsOk;kernel_rfl
theorem A4{l:Uu}{items:Array Ur}{t:Tok}{Q:Ur->Us->Prop}(hL:s.heap.IsList l items)
  (h:∀h',IsEnum h' (s.heap.objs.size+1) s.heap.objs.size 1 .none->h'.IsListIter s.heap.objs.size l 0->(∀b o,s.heap.get? b=O o->h'.get? b=O o)->Q (.ref (s.heap.objs.size+1)) {s with heap:=h'}) :
  Uy (model prog w) A (call (.type "enumerate") [.ref l] [("start", .int 1 t)]) Q E s:=by
 obtain⟨⟨c,dct,dt,sl⟩,hl,hc,n,hd⟩:=hL;replace hc:c=.type "list" :=hc;replace hd:dt=.seq items n:=hd;subst hc hd;have hz:(s.heap.push {cls:=.type "list_iterator", data:=.fields #[.ref l,.int 0 0]}).objs.size=s.heap.objs.size+1:=QU ..;have he:IsEnum ((s.heap.push {cls:=.type "list_iterator", data:=.fields #[.ref l,.int 0 0]}).push {cls:=.type "enumerate", data:=.fields #[.none,.bool jS,.ref s.heap.objs.size,rawInt 1,.none,.none]}) (s.heap.objs.size+1) s.heap.objs.size 1 .none:=by rw[←hz];exact Qn _ jP
 refine jF F.called_enumerate (jd _ t) (A5 _ t) F.entry_enumerate_new F.entry_object_init (Bb l t items n dct sl) (Q1:=λobj s1=>s1.TypeIs obj "enumerate" /\ Q obj s1) ⟨hl,?_⟩ λobj s1 hq=>
  ⟨hq.1,jc obj _ t,_,je F.called_enumerate.init.lookup F.called_enumerate.made (by decide),hq.1,rfl,hq.2⟩
 show _/\_;rw[hz];exact⟨⟨_,he,rfl⟩,h _ he ⟨_,Qe _ (Qn _ jP),rfl,rfl⟩ λb o x=>Qe _ (Qe _ x)⟩
end
section
variable{prog:Ut}{w:World}{A:Around}{E:Ur->Us->Prop}{s:Us}
theorem Ao{en it l:Uu}{i:Nat}{j:Int}{items:Array Ur}{x old:Ur}{Q:jW->Us->Prop}(st:IsEnum s.heap en it j old)(li:s.heap.IsListIter it l i)(ls:s.heap.IsList l items)
  (at_:items[i]?=O x) (ne:en≠it)
  (k:∀h',IsEnumOut h' en it (j+1) x s.heap.objs.size->h'.IsListIter it l (i+1)->h'.get? s.heap.objs.size=O {cls:=.type "tuple", data:=.seq #[.int j s.toks,x]}->(∀b o,b≠en->b≠it->s.heap.get? b=O o->h'.get? b=O o) ->
   Q (O (.ref s.heap.objs.size)) {s with heap:=h',toks:=s.toks+1}):Uy (model prog w) A (pyNext (.ref en)) Q E s:=by
 have ty:s.TypeIs (.ref en) "enumerate" :=⟨_,st,rfl⟩
 have lt:en<s.heap.objs.size:=Qf st;unfold pyNext;refine Qb (wpAny_attempt (Ji (name:=UL "__next__") ty F.slot_enumerate_next (Js F.slot_enumerate_next ty F.entry_enumerate_next ?_ (F.args_enumerate_next_1 _))));show Uy _ _ (field (.ref en) 2 >>= _) _ _ s;refine Qb (QC st jP (x:=.ref it) jP ?_);refine Qb (wpAny_nextOf_list_item li ls at_ λm1 li1 c1=>?_);have c1:Heap.SameBut it s.heap m1:=c1;have st1:IsEnum m1 en it j old:=(c1.2 en ne).trans st;show Uy _ _ (field (.ref en) 3 >>= _) _ _ {s with heap:=m1};refine Qb (QC st1 jP (x:=rawInt j) jP ?_);show Uy _ _ (field (.ref en) 4 >>= _) _ _ {s with heap:=m1};refine Qb (QC st1 jP (x:=.none) jP ?_);show Uy _ _ (mkInt j >>= _) _ _ {s with heap:=m1};refine Qb (wpAny_mkInt ?_);show Uy _ _ (setField (.ref en) 3 (rawInt (j+1)) >>= _) _ _ {s with heap:=m1,toks:=s.toks+1};refine wpAny_bind (wpAny_setField_rec st1 (by simp) λm2 st2 c2=>?_);have c2:Heap.SameBut en m1 m2:=c2;have st2:IsEnum m2 en it (j+1) old:=st2;show Uy _ _ (setField (.ref en) 4 .none >>= _) _ _ {s with heap:=m2,toks:=s.toks+1};refine wpAny_bind (wpAny_setField_rec st2 (by simp) λm3 st3 c3=>?_);have c3:Heap.SameBut en m2 m3:=c3;have st3:IsEnum m3 en it (j+1) old:=st3;show Uy _ _ (newTuple [.int j s.toks,x] >>= _) _ _ {s with heap:=m3,toks:=s.toks+1};refine Qb (wpAny_newTuple ?_);have z3:m3.objs.size=s.heap.objs.size:=c3.1.trans (c2.1.trans c1.1);have st4:IsEnum (m3.push {cls:=.type "tuple", data:=.seq #[.int j s.toks,x]}) en it (j+1) old:=Qe _ (show IsEnum m3 en it (j+1) old from st3);have tp4:(m3.push {cls:=.type "tuple", data:=.seq #[.int j s.toks,x]}).get? s.heap.objs.size=O {cls:=.type "tuple", data:=.seq #[.int j s.toks,x]}:=by rw[←z3];exact Qn _ jP
 have kp4:∀b o,b≠en->b≠it->s.heap.get? b=O o->(m3.push {cls:=.type "tuple", data:=.seq #[.int j s.toks,x]}).get? b=O o:=λb o n1 n2 q=>Qe _ ((c3.2 b n1).trans ((c2.2 b n1).trans ((c1.2 b n2).trans q)))
 have li4:(m3.push {cls:=.type "tuple", data:=.seq #[.int j s.toks,x]}).IsListIter it l (i+1):=by obtain⟨o,q,r⟩:=li1;exact⟨o,Qe _ ((c3.2 it (Ne.symm ne)).trans ((c2.2 it (Ne.symm ne)).trans q)),r⟩
 generalize m3.push {cls:=.type "tuple", data:=.seq #[.int j s.toks,x]}=m4 at st4 tp4 kp4 li4;show Uy _ _ (Builtin.SmallTypes.ownedTupleIsFree (.ref en) >>= _) _ _ {s with heap:=m4,toks:=s.toks+1};rw[z3];refine Qb ?_;unfold Builtin.SmallTypes.ownedTupleIsFree Builtin.SmallTypes.ownedTupleHandOut;refine Qb (QC st4 jP (x:=.none) jP (Qg ?_));simp only[Up];refine wpAny_bind (wpAny_rule (wpAny_bind (wpAny_field st4 jP (x:=old) jP (wpAny_bind (wpAny_setField_rec st4 (by simp) λm5 kU c5=>?_)))));have c5:Heap.SameBut en m4 m5:=c5;have kU:IsEnum m5 en it (j+1) x:=kU;refine wpAny_bind (wpAny_bind (wpAny_setField_rec kU (by simp) λm6 st6 c6=>?_));have c6:Heap.SameBut en m5 m6:=c6;have st6:IsEnumOut m6 en it (j+1) x s.heap.objs.size:=st6;refine wpAny_setField_rec st6 (by simp) λm7 st7 c7=>?_
 have c7:Heap.SameBut en m6 m7:=c7;have st7:IsEnumOut m7 en it (j+1) x s.heap.objs.size:=st7;have up:∀b,b≠en->m7.get? b=m4.get? b:=λb n=>(c7.2 b n).trans ((c6.2 b n).trans (c5.2 b n));refine Qb (wpAny_letGo (Qg ⟨_,rfl,Qg (k m7 st7 ?_ ((up _ (Jl lt)).trans tp4) λb o n1 n2 q=>(up b n1).trans (kp4 b o n1 n2 q))⟩))
 obtain⟨o,q,r⟩:=li4;exact⟨o,(up it (Ne.symm ne)).trans q,r⟩
theorem An{en it l:Uu}{i:Nat}{j:Int}{items:Array Ur}{old:Ur}{Q:jW->Us->Prop}(hh:A.handled=jQ)(st:IsEnum s.heap en it j old)(li:s.heap.IsListIter it l i)(ls:s.heap.IsList l items)
  (at_:items[i]?=jQ) (k:∀h',Heap.ExtBut it s.heap h'->Q jQ {s with heap:=h'}):Uy (model prog w) A (pyNext (.ref en)) Q E s:=by
 have ty:s.TypeIs (.ref en) "enumerate" :=⟨_,st,rfl⟩
 unfold pyNext;refine Qb (wpAny_attempt (Ji (name:=UL "__next__") ty F.slot_enumerate_next (Js F.slot_enumerate_next ty F.entry_enumerate_next ?_ (F.args_enumerate_next_1 _))));show Uy _ _ (field (.ref en) 2 >>= _) _ _ s;refine Qb (QC st jP (x:=.ref it) jP (Qb (m:=Builtin.SmallTypes.nextOf (.ref it)) (wpAny_nextOf_list_end hh li ls at_ λh' z c y=>?_)));obtain⟨o,q,t⟩:=y;exact Qb (wpAny_isInstance (T:= "StopIteration") (b:=jR) ⟨o,q,t⟩ isSubtype_stop (Qg (k _ c)))
end
noncomputable def V3(K:Frag)(a:Uu):It:=
 ⟨λi H=>∃xs x,SqL K H a xs/\xs[i]?=O x,
  λi H v H'=>∃p x,H p=jQ/\v=.ref p/\(∀xs,SqL K H a xs->xs[i]?=O x)/\H'=upd H p (.tup [.int (1+(i:Int)),x]),
  λi H=>∃xs,SqL K H a xs/\xs.length<=i⟩
theorem A3{P:Ut}{w:World}{K:Frag}{elts:jX}{x1}{tp:Pos}(a e it:Uu)(hne:e≠it) :
  Turn P w K (.Tuple elts x1 tp) (V3 K a) [e,it] e (λi h=>(∃old,IsEnum h e it (1+(i:Int)) old)/\h.IsListIter it a i) where
 mem:=by simp
 obj:=λi h st b hb=>by
  obtain⟨⟨old,he⟩,o,ho,c,d⟩:=st;have hb':b=e∨b=it:=by simpa using hb
  rcases hb' with rfl|rfl
  .exact⟨_,he,λv z=>by have z':Data.fields _=Data.cell v:=z;cases z'⟩
  .exact⟨o,ho,λv z=>by rw[d]at z;cases z⟩
 keep:=λi h h' st k=>by obtain⟨⟨old,he⟩,hi⟩:=st;exact⟨⟨old,k e (by simp) _ he⟩,hi.at λo q=>k it (by simp) o q⟩
 item:=by
  intro X hP hw hK hc i pins s σ H E I hf st hg;subst hP hw hK;obtain⟨⟨old,he⟩,hi⟩:=st;obtain⟨xs,x,hq,hx⟩:=hg;obtain⟨its,rv,p,hz⟩:=I.list hq;obtain⟨u,hu,ru⟩:=rv.get hx;refine Ao he hi p.isList (x:=u) (by simpa using hu) hne λh1 out hi1 ht kk=>?_
  refine⟨_,rfl,wpAny_letOwnedTupleGo_enum out λh2 kM hs2=>?_⟩;have hel:e<s.heap.objs.size:=Qf he;have kJ:Heap.SameBut e h1 h2:=hs2;have ht2:h2.get? s.heap.objs.size=O {cls:=.type "tuple", data:=.seq #[.int (1+(i:Int)) s.toks,u]}:=(kJ.2 _ (Jl hel)).trans ht
  have kk2:∀b o,b∉[e,it]->s.heap.get? b=O o->h2.get? b=O o:=λb o hb q=>by
   have kL:b≠e:=λz=>hb (by simp[z])
   have hbi:b≠it:=λz=>hb (by simp[z])
   exact(kJ.2 b kL).trans (kk b o kL hbi q)
  have hn:H s.heap.objs.size=jQ:=I.hok.fresh (Ql _)
  have I2:Inv X pins σ (upd H s.heap.objs.size (.tup [.int (1+(i:Int)),x])) {s with heap:=h2,toks:=s.toks+1}:=
   I.turnedNew (fp:=[e,it]) hf kk2 (Ql _) ⟨by show 2<=Ux;decide,[.int (1+(i:Int)) s.toks,u],.cons ⟨_,rfl⟩ (.cons ru .nil),⟨_,ht2,rfl,_,rfl⟩⟩
  refine⟨.ref s.heap.objs.size,_,I2,rfl,⟨_,x,hn,rfl,λys hy=>by rw[I.list_inj hy hq];exact hx,rfl⟩,⟨⟨u,?_⟩,?_⟩,λb hb=>?_⟩
  .have e2:(1+((i+1:Nat):Int))=1+(i:Int)+1:=by lia
   rw[e2];exact kM
  .exact hi1.at λo q=>(kJ.2 it (Ne.symm hne)).trans q
  .have hlt:b<s.heap.objs.size:=by
    have hb':b=e∨b=it:=by simpa using hb
    rcases hb' with rfl|rfl
    .exact hel
    .obtain⟨o,ho,_⟩:=hi;exact Qf ho
   rw[Kp (QI hlt)];exact(hf b hb).1
 done:=by intro X hP hw hK hc i pins s σ H E I hf st hg;subst hP hw hK;obtain⟨⟨old,he⟩,hi⟩:=st;obtain⟨xs,hq,hx⟩:=hg;obtain⟨its,rv,p,hz⟩:=I.list hq;have hl:=rv.length;exact An (I.ok.hd hc) he hi p.isList (by simp;lia) λh' eb=>⟨rfl,I.turnedL (t':=s.toks) hf λb o hb q=>eb b o (λz=>hb (by simp[z])) q⟩
 self:=λ_ _ _ _ _ st h=>by obtain⟨⟨old,he⟩,_⟩:=st;exact wpAny_pyIter_enum he h
section
variable{X:Cx}
theorem Ba{a:Uw}{ta:TA}{p pos k1 k2:Pos}{j}{elts:jX}{x1}{tp:Pos}(hg:Gl X "enumerate")(hm:X.mg "enumerate" = jQ)(ha:PA X [a] ta)
  (hs:backTo pos (Uz [a] X.env)=(jS,eval a X.env)::backTo pos (Uz [] X.env):=by rfl) (hpl:(backTo pos (Uz [a] X.env)).any (·.1)=jS:=by rfl) :
  PI X (.Tuple elts x1 tp) (.Call (.Name "enumerate" p) [a] [⟨O "start", .Constant (.int 1) j k1,k2⟩] pos) (λσ H R=>ta σ H λvs H1=>∃a xs,vs=[.ref a]/\SqL X.K H1 a xs/\R (V3 X.K a) H1):=by
 intro pins s σ H R I h;refine Jn (XV I hg hm boot_enumerate (EI hpl jP ?_));rw[hs];refine evalArgs_kwB jP ?_;rw[←hs];refine thn (ha pos pins s σ H _ I h) λus s1 ⟨vs,H1,I1,r1,q1⟩=>?_;refine kws_cons (wpAny_Constant_int (kws_nil ?_))
 obtain⟨l,xs,e,hq,q⟩:=q1;subst e;cases r1 with
 |cons r rr=>
  cases rr;cases (show _=Value.ref l from r);have I1':=I1.tok (s1.toks+1);obtain⟨its,rv,pl,hz⟩:=I1'.list hq;refine A4 pl.isList λh' he hi kk=>?_;have I2:Inv X pins σ H1 {s1 with heap:=h',toks:=s1.toks+1}:=I1'.kept (t':=s1.toks+1) kk;refine wpAny_pyIter_enum he ?_
  refine⟨s1.heap.objs.size+1,[s1.heap.objs.size+1,s1.heap.objs.size],_,_,H1,rfl,I2,A3 l _ _ (Nat.succ_ne_self _),⟨⟨_,he⟩,hi⟩,λb hb=>?_,q⟩;have hb':b=s1.heap.objs.size+1∨b=s1.heap.objs.size:=by simpa using hb
  rcases hb' with rfl|rfl
  .exact I1.fpOk (JL _) (I1.hok.fresh (JL _))
  .exact I1.fpOk (Ql _) (I1.hok.fresh (Ql _))
end
end L2
namespace DL
open PySem PySem.Spec L2
open PyProof.Rows hiding St
section
variable{X:Cx}{B G0:Hp}{e a b c tg:Uw}{pos:Pos}{es rest:jX}
theorem jb{K:Frag}{G1:Hp}{ad:Uu}{vs:List V}{ds:jT}(h:SqL K G1 ad vs)(r:Reps K G1 vs ds):YT K (V3 K ad) (ZQ 1 ds) G1 where
 go:=λi G H s1 s2 hi=>by
  rw[XY]at hi;have hi':i<vs.length:=by rw[r.length];exact hi
  exact⟨vs,vs[i],(s1.trans s2).seq h,Qh hi'⟩
 stop:=λi G H s1 s2 hi=>by rw[XY]at hi;exact⟨vs,(s1.trans s2).seq h,by rw[r.length];exact hi⟩
 yld:=λi G H x H' d s1 s2 e y=>by
  obtain⟨p,v,hp,rfl,y1,rfl⟩:=y;have z1:=y1 vs ((s1.trans s2).seq h);rw[PM]at e;cases q:ds[i]? with
  |none=>rw[q]at e;cases e
  |some dd=>
   rw[q]at e;cases e;obtain⟨v',e1,r1⟩:=r.get q;rw[z1]at e1;cases e1;refine⟨upd G p (.tup [.int (1+(i:Int)),v]),Ext.new s2 hp,.tup (SqT.of KO) (.cons ?_ (.cons ((r1.mono s1).mono (Zk (s2.free hp))) .nil))⟩;have:((1+i:Nat):Int)=1+(i:Int):=by lia
   rw[this];exact .int _
noncomputable def Te:jT->Option jT
 |[.list ds]=>O (ZQ 1 ds)
 |_=>jQ
noncomputable def SK(f:M jT):M jT:=U5 f λx=>U2 (Te x)
theorem A2{x l:jT}(h:Te x=O l):∃ds,x=[.list ds]/\l=ZQ 1 ds:=by
 unfold Te at h;split at h
 .cases h;exact⟨_,rfl,rfl⟩
 .cases h
theorem C9{f:M jT}{p2 k1 k2:Pos}{j}{elts:jX}{x1}{tp:Pos}(hg:Gl X "enumerate")(hm:X.mg "enumerate" = jQ)(ha:PA X [a] (tDs X.K B G0 f))
  (hs:backTo pos (Uz [a] X.env)=(jS,eval a X.env)::backTo pos (Uz [] X.env):=by rfl) (hpl:(backTo pos (Uz [a] X.env)).any (·.1)=jS:=by rfl) :
  PI X (.Tuple elts x1 tp) (.Call (.Name "enumerate" p2) [a] [⟨O "start", .Constant (.int 1) j k1,k2⟩] pos) (iD X.K B G0 (SK f)):=YD (Ba hg hm ha hs hpl) λσ H R q=>tM.toI (R0:=Reps X.K) q λv H' G' Z' x k r a=>by
 cases z:Te x with
 |none=>rw[z]at a;exact a.elim
 |some l=>rw[z]at a;obtain⟨ds,rfl,rfl⟩:=A2 z;obtain⟨v,rfl,q⟩:=r.one_inv;obtain⟨l,ws,rfl,h1,r1⟩:=q.lst_inv;exact⟨l,ws,rfl,k.gh.seq h1,a _ G' H' k (.refl _) (jb h1 r1)⟩
end
section
variable{prog:Ut}{w:World}{A:Around}{R:Result->Us->Prop}{h0:Heap}{l I S:Uu}{rs:List (Uu×jV)}
def Y6(h h':Heap):Prop:=∀b o,h.get? b=O o->h'.get? b=O o
def Ls1(h:Heap)(a:Uu)(its:jV)(sl:Array jW):Prop:=∃n,h.get? a=O {cls:=.type "list", dict:=jQ,data:=.seq its.toArray n,slots:=sl}
def Ls(h:Heap)(a:Uu)(its:jV):Prop:=∃n sl,h.get? a=O {cls:=.type "list", dict:=jQ,data:=.seq its.toArray n,slots:=sl}
theorem Ls.kept{h h':Heap}{a:Uu}{its:jV}(x:Ls h a its)(k:Y6 h h'):Ls h' a its:=by obtain⟨n,sl,e⟩:=x;exact⟨n,sl,k _ _ e⟩
theorem A1(hh:A.in1.handled=jQ)(hI:h0.objs.size<=I)(hS:h0.objs.size<=S)(hIS:S≠I)(hl:h0.IsList l (rs.map λp=>Value.ref p.1).toArray)(hr:∀p∈rs,Ls h0 p.1 p.2) :
  ∀(k i:Nat)(s:Us)(t:Uu)(acc:jV)(c:Nat)(sl:Array jW),rs.length-i=k->i<=rs.length->Y6 h0 s.heap->s.heap.IsListIter I l i ->
   s.heap.get? S=O {cls:=.type "list", dict:=jQ,data:=.seq #[.ref t] c,slots:=#[]}->t≠S->t≠I->Ls1 s.heap t acc sl->acc.length+((rs.drop i).map (·.2)).flatten.length<=Ux ->
   (∀p h' tk kO,Y6 h0 h'->Ls1 h' p (acc++((rs.drop i).map (·.2)).flatten) kO->(p=t/\i=rs.length/\kO=sl∨h0.objs.size<=p/\kO=#[])->R (.ok (.ret (.ref p))) {s with heap:=h',toks:=tk}) ->
   codeAny (model prog w) A (.builtin "sum.loop" ⟨[.ref I,.ref S,rawInt 2,rawInt 0],[]⟩) R s:=by
 intro k;induction k with
 |zero=>
  intro i s t acc c sl hk hi hK hit hSS htS htI ht hz hR;have hin:i=rs.length:=by lia
  subst hin;refine codeAny_builtin F.entry_sum_loop ?_;rw[Around.under_plainId F.plain_sum_loop _];show Uy _ A.in1 (seqItems? (.ref S) >>= _) _ _ s;refine Qb (Jj hSS jP ?_);show Uy _ A.in1 (tryCatch (pyNext (.ref I)) _ >>= _) _ _ s;have hl':s.heap.IsList l (rs.map λp=>Value.ref p.1).toArray:=by obtain⟨o,e,r⟩:=hl;exact⟨o,hK _ _ e,r⟩
  refine wpAny_bind (wpAny_tryCatch (wpAny_pyNext_list_end hh hit hl' (by simp) λh' ex=>?_));refine Qg (hR t h' s.toks sl (λb o e=>?_) ?_ (.inl ⟨rfl,rfl,rfl⟩))
  .exact ex b o (QI (Qy (Qf e) hI)) (hK b o e)
  .obtain⟨n,e⟩:=ht
   rw[List.drop_length,List.map_nil,List.flatten_nil,Q4];exact⟨n,ex _ _ htI e⟩
 |succ k ih=>
  intro i s t acc c sl hk hi hK hit hSS htS htI ht hz hR;have hlt:i<rs.length:=by lia
  refine codeAny_builtin F.entry_sum_loop ?_;rw[Around.under_plainId F.plain_sum_loop _];show Uy _ A.in1 (seqItems? (.ref S) >>= _) _ _ s;refine Qb (Jj hSS jP ?_);show Uy _ A.in1 (tryCatch (pyNext (.ref I)) _ >>= _) _ _ s;have hl':s.heap.IsList l (rs.map λp=>Value.ref p.1).toArray:=by obtain⟨o,e,r⟩:=hl;exact⟨o,hK _ _ e,r⟩
  refine wpAny_bind (wpAny_tryCatch (wpAny_pyNext_list_item (x:=.ref (rs[i]'hlt).1) hit hl' (by simp[hlt]) λh' ve sb=>?_));show Uy _ A.in1 ((holding [Value.ref (rs[i]'hlt).1] (binaryOp .Add (.ref t) (.ref (rs[i]'hlt).1))).attempt >>= _) _ _ _;refine Qb (wpAny_attempt (JD ?_));have hm:rs[i]'hlt∈rs:=JJ hlt;have hd:rs.drop i=rs[i]'hlt::rs.drop (i+1):=JF hlt;have hK':Y6 h0 h':=λb o e=>(sb.2 b (QI (Qy (Qf e) hI))).trans (hK b o e)
  obtain⟨n1,e1⟩:=ht;have e1':=(sb.2 t htI).trans e1;obtain⟨n2,s2,e2⟩:=(hr _ hm).kept hK';have vn:=(sb.2 S hIS).trans hSS;rw[hd,QA,QJ,Qk]at hz;refine concat_meets ⟨_,e1',rfl⟩ ⟨_,e2,rfl⟩ noFill_list_add seq_list_add PySem.F.slot_list_add PySem.F.entry_list_add (PySem.F.args_list_add_2 _ _) (list_addW t _ acc.toArray _ n1 n2 jQ jQ sl s2 (by rw[QQ,QQ];lia)) ⟨e1',e2,?_⟩;have hlS:S<h'.objs.size:=Qf vn;have hlI:I<h'.objs.size:=by obtain⟨o,e,_⟩:=ve;exact Qf e
  have ea:acc.toArray++(rs[i]'hlt).2.toArray=(acc++(rs[i]'hlt).2).toArray:=by simp
  rw[ea];have hP:∀b o,h'.get? b=O o->(h'.push {cls:=Value.type "list", data:=Data.seq (acc++(rs[i]'hlt).2).toArray}).get? b=O o:=λb o e=>Qe _ e
  have hS1:=hP _ _ vn;have hNew:(h'.push {cls:=Value.type "list", data:=Data.seq (acc++(rs[i]'hlt).2).toArray}).get? h'.objs.size=O {cls:=Value.type "list", data:=Data.seq (acc++(rs[i]'hlt).2).toArray}:=Qn _ jP;show Uy _ A.in1 (updateSeq S (λ_=>#[.ref h'.objs.size]) >>= _) _ _ _;refine Qb (wpAny_updateSeq hS1 jP ?_);have hS2:=Q3 (Obj.mapSeq λ_=>#[Value.ref h'.objs.size]) hS1 jP;refine Qb (wpAny_letGo ?_);refine Qb (wpAny_updateSeq hS2 jP (Qg ⟨plainId_quiet F.plain_sum_loop _,?_⟩));have oth:∀b o,b≠S->(h'.push {cls:=Value.type "list", data:=Data.seq (acc++(rs[i]'hlt).2).toArray}).get? b=O o->(((h'.push {cls:=Value.type "list", data:=Data.seq (acc++(rs[i]'hlt).2).toArray}).update S (Obj.mapSeq λx=>#[Value.ref h'.objs.size])).update S (Obj.mapSeq λx=>#[Value.ref h'.objs.size])).get? b=O o:=λb o hb e=>(QO _ _ (Ne.symm hb)).trans ((QO _ _ (Ne.symm hb)).trans e)
  refine ih (i+1) _ h'.objs.size (acc++(rs[i]'hlt).2) _ #[] (by lia) hlt ?_ ?_ (Q3 _ hS2 jP) (Jl hlS) (Jl hlI) ?_ (by rw[Qk];lia) λp h'' tk kO hk'' hp hq=>?_
  .exact λb o e=>oth b o (QI (Qy (Qf e) hS)) (hP b o (hK' b o e))
  .obtain⟨o,e,r⟩:=ve
   exact⟨o,oth I o (Ne.symm hIS) (hP I o e),r⟩
  .exact⟨_,oth _ _ (Jl hlS) hNew⟩
  .refine hR p h'' tk kO hk'' ?_ (.inr ?_)
   .rw[hd,QA,QJ,←Q8];exact hp
   .rcases hq with ⟨rfl, -,e⟩|hq
    .exact⟨Ui (Nat.lt_of_le_of_lt hS hlS),e⟩
    .exact hq
end
section
variable{prog:Ut}{w:World}{A:Around}{E:Ur->Us->Prop}{s:Us}{l z:Uu}{rs:List (Uu×jV)}
theorem Am(a b:Ur):argsOk "sum" ⟨[a,b],[]⟩:=by unfold argsOk;kernel_rfl
theorem A0{Q:Ur->Us->Prop}(hh:A.handled=jQ)(hl:s.heap.IsList l (rs.map λp=>Value.ref p.1).toArray)(hr:∀p∈rs,Ls s.heap p.1 p.2)(hz:Ls s.heap z [])(hb:(rs.map (·.2)).flatten.length<=Ux)
  (h:∀p h' tk kO,Y6 s.heap h'->Ls1 h' p (rs.map (·.2)).flatten kO->(p=z/\rs=[]∨s.heap.objs.size<=p/\kO=#[])->Q (.ref p) {s with heap:=h',toks:=tk}) :
  Uy (model prog w) A (call (.builtin "sum") [.ref l,.ref z]) Q E s:=by
 refine call_function_tree F.kind_sum F.plain_sum F.entry_sum (Am _ _) ?_;unfold Builtin.«sum»;simp only[QB,QW];rw[QE (by decide)];refine Qb (wpAny_of_eq (show Builtin.Builtins.bindParams "sum" ["start"] 0 ⟨[.ref z],[]⟩=pure [O (.ref z)]from rfl) ?_);refine Qb (Jx hl ?_);refine Qb (Qg ?_);obtain⟨n,sl,ez⟩:=id hz;have ty:∀h:Heap,h.get? z=O {cls:=.type "list", dict:=jQ,data:=.seq [].toArray n,slots:=sl}->({s with heap:=h}:Us).TypeIs (.ref z) "list" :=λh e=>⟨_,e,rfl⟩
 have ez':(s.heap.push {cls:=.type "list_iterator", data:=.fields #[.ref l,.int 0 0]}).get? z=_:=Qe _ ez;simp only[Ue,List.forIn_nil];refine Qb (Qb (Qb (wpAny_isInstance (T:= "list") (b:=jS) (ty _ ez') F.sub_list_str ?_)));simp only[JH,Um];refine Qg (Qb (Qb (wpAny_isInstance (T:= "list") (b:=jS) (ty _ ez') F.sub_list_bytes ?_)));simp only[JH,Um];refine Qg (Qb (Qb (wpAny_isInstance (T:= "list") (b:=jS) (ty _ ez') F.sub_list_bytearray ?_)));simp only[JH,Um];refine Qg (Qg ?_);refine Qb (JO ?_);have hzs:=Qf ez;have s1:(s.heap.push {cls:=.type "list_iterator", data:=.fields #[.ref l,.int 0 0]}).objs.size=s.heap.objs.size+1:=QU ..;have k2:Y6 s.heap ((s.heap.push {cls:=.type "list_iterator", data:=.fields #[.ref l,.int 0 0]}).push {cls:=.type "list", data:=.seq #[.ref z]}):=λb o e=>Qe _ (Qe _ e)
 refine Qg ⟨plainId_quiet F.plain_sum_loop _,A1 (h0:=s.heap) (l:=l) (I:=s.heap.objs.size) (S:=(s.heap.push {cls:=.type "list_iterator", data:=.fields #[.ref l,.int 0 0]}).objs.size) (rs:=rs) hh (Ql _) (by rw[s1];exact JL _) (by rw[s1];exact Nat.succ_ne_self _) hl hr rs.length 0 _ z [] 0 sl jP (Ug _)
  k2 ⟨_,Heap.get?_push_of_some _ (Heap.get?_push_size _ jP),rfl,rfl⟩ (Heap.get?_push_size _ jP) (by rw[s1];exact Nat.ne_of_lt (Nat.lt_succ_of_lt hzs)) (Nat.ne_of_lt hzs) ⟨n,k2 _ _ ez⟩ (by simpa using hb) λp h' tk kO hk hp hq=>?_⟩
 exact h p h' tk kO hk (by simpa using hp) (hq.imp (λe=>⟨e.1,List.eq_nil_of_length_eq_zero e.2.1.symm⟩) id)
end
section
variable{X:Cx}{pins:List (Uu×Obj)}{σ:St}{H:Hp}{s:Us}
theorem NS(I:Inv X pins σ H s):∀{rs:List (Uu×List V)},(∀p∈rs,SqL X.K H p.1 p.2) ->
  ∃ts:List (Uu×jV),(ts.map λp=>Value.ref p.1)=(rs.map λp=>Value.ref p.1)/\(∀p∈ts,Ls s.heap p.1 p.2)/\Vals (rs.map (·.2)).flatten (ts.map (·.2)).flatten
 |[],_=>⟨[],rfl,(λ_ h=>by cases h),(show Vals [] []from Paired.nil)⟩
 |p::rs,h=>by
  obtain⟨ts,e,hl,hv⟩:=NS I λq hq=>h q (Qp _ hq)
  obtain⟨its,rv,⟨⟨c1,d1,t1,sl⟩,n,e1,ec,ed,et⟩,z⟩:=I.list (h p (Qo ..));simp only at ec ed et;subst ec ed et;refine⟨(p.1,its)::ts,by rw[QA,QA,e],λq hq=>?_,?_⟩
  .rcases Qu.1 hq with rfl|hq
   .exact⟨n,sl,e1⟩
   .exact hl q hq
  .rw[QA,QA,QJ,QJ]
   exact rv.append hv
theorem MR:∀{as:j4}{us:jV},Vals (as.map V.ref) us->us=as.map Value.ref
 |[],_,.nil=>rfl
 |a::as,_,.cons h t=>by cases h;rw[MR t];rfl
theorem Al(hc:X.calm=jR):ZW X (.builtin "sum") (λxs H Q=>∃l z,∃rs:List (Uu×List V),xs=[.ref l,.ref z]/\SqL X.K H l (rs.map λp=>V.ref p.1)/\(∀p∈rs,SqL X.K H p.1 p.2)/\SqL X.K H z []/\(rs.map (·.2)).flatten.length<=Ux /\
  (rs=[]->Q (.ref z) H)/\∀p,H p=jQ->Q (.ref p) (upd H p (.lst (rs.map (·.2)).flatten))):=by
 intro pins s σ H xs us Q I rx h;obtain⟨l,z,rs,rfl,hq,hr,hz,hb,q0,q⟩:=h;obtain⟨u,u',rfl,ru,xT⟩:=RJ rx;cases ru;cases xT;obtain⟨its,rv,pl, -⟩:=I.list hq;obtain⟨ts,e,hl,hv⟩:=NS I hr;have ei:its=ts.map λp=>Value.ref p.1:=by rw[e];have:=MR (as:=rs.map (·.1)) (us:=its) (by rw[Jr];exact rv);rw[this,Jr];rfl
 subst ei;obtain⟨zi,rz,⟨⟨c1,d1,t1,sl⟩,n,e1,ec,ed,et⟩, -⟩:=I.list hz;cases rz;simp only at ec ed et;subst ec ed et;have hlen:=hv.length;refine A0 (I.ok.hd hc) pl.isList hl ⟨n,sl,e1⟩ (by lia) λp h' tk kO hk hp hq=>?_
 rcases hq with ⟨rfl,rfl⟩|⟨xx,rfl⟩
 .have hr0:rs=[]:=by
   cases rs with
   |nil=>rfl
   |cons a b=>cases e
  exact⟨.ref _,H,I.kept hk,rfl,q0 hr0⟩
 .obtain⟨m,ep⟩:=hp
  exact⟨.ref p,_,I.laid (t':=tk) hk xx (show Zy X.prog X.w _ h' _ (.lst _)from⟨hb,_,m,hv,ep⟩),rfl,q p (I.hok.fresh xx)⟩
noncomputable def ZY:jT->Option (List jT)
 |[]=>O []
 |.list xs::r=>(ZY r).map (xs :: ·)
 |_=>jQ
theorem LH{K:Frag}{G:Hp}:∀{vs:List V}{ds:jT}{ls:List jT},Reps K G vs ds->ZY ds=O ls ->
  ∃rs:List (Uu×List V),vs=(rs.map λp=>V.ref p.1)/\(∀p∈rs,SqL K G p.1 p.2)/\Reps K G (rs.map (·.2)).flatten ls.flatten/\rs.length=ls.length
 |_,_,ls,.nil,e=>by cases e;exact⟨[],rfl,(λ_ h=>by cases h),.nil,rfl⟩
 |_,_,ls,.cons (d:=d) r t,e=>by
  cases d with
  |list xs=>
   unfold ZY at e;cases z:ZY _ with
   |none=>rw[z]at e;cases e
   |some cs=>
    rw[z]at e;cases e;obtain⟨rs,rfl,h1,h2,h3⟩:=LH t z;obtain⟨a,ws,rfl,h,rr⟩:=r.lst_inv;refine⟨(a,ws)::rs,rfl,λp hp=>?_,?_,Uh (· + 1) h3⟩
    .rcases Qu.1 hp with rfl|hp
     .exact h
     .exact h1 p hp
    .rw[QA,QJ,QJ]
     exact rr.append h2
  |_=>cases e
theorem AZ(ls:List jT):ZY (ls.map UD)=O ls:=by
 induction ls with
 |nil=>rfl
 |cons b r ih=>rw[QA,ZY,ih];rfl
noncomputable def W1:jT->jY
 |[.list ds,.list []]=>(match ZY ds with
  |some ls=>if ls.flatten.length<=1000000 then O (.list ls.flatten)else jQ
  |none=>jQ)
 |_=>jQ
theorem Ak{xs:jT}{d:D}(h:W1 xs=O d):∃ds ls,xs=[.list ds,.list []]/\ZY ds=O ls/\ls.flatten.length<=1000000/\d=.list ls.flatten:=by
 unfold W1 at h;split at h
 .rename_i ds
  cases z:ZY ds with
  |none=>rw[z]at h;cases h
  |some ls=>
   rw[z]at h;dsimp only at h;split at h
   .rename_i c
    cases h;exact⟨ds,ls,rfl,z,c,rfl⟩
   .cases h
 .cases h
theorem C8{ls:List jT}(h:ls.flatten.length<=1000000):W1 [.list (ls.map .list),.list []]=O (.list ls.flatten):=by unfold W1;simp only[AZ,Qs h]
theorem GJ(hc:X.calm=jR):Yl X (.builtin "sum") W1:=by
 refine⟨_,Al hc,λvs G H ds d Q s r e k=>?_⟩;obtain⟨ds,ls,rfl,z,c,rfl⟩:=Ak e;obtain⟨v,v',rfl,q1,q2⟩:=r.two_inv;obtain⟨l,ws,rfl,h1,r1⟩:=q1.lst_inv;obtain⟨a,ws2,rfl,h2,r2⟩:=q2.lst_inv;have:=r2.nil_inv;subst this;obtain⟨rs,rfl,g1,g2,g3⟩:=LH r1 z;refine⟨l,a,rs,rfl,s.seq h1,λp hp=>s.seq (g1 p hp),s.seq h2,?_,λe0=>?_,λp hp=>?_⟩
 .rw[g2.length];exact Qz c lim
 .subst e0
  have:ls=[]:=List.eq_nil_of_length_eq_zero g3.symm;subst this;exact k _ G H (.refl s) (.lst h2 .nil)
 .exact k _ _ _ (.new s hp) (.lst (SqL.of KO) (g2.mono (Zk (s.free hp))))
end
section
variable{X:Cx}
noncomputable def Xb(ns:jU):jU:=ns.mergeSort λa b=>decide (a<=b)
theorem Tr(ns:jU):(Xb ns).Perm ns:=List.mergeSort_perm ..
theorem MQ(ns:jU):(Xb ns).Pairwise (· <= ·):=by have:=List.pairwise_mergeSort (le:=λa b:Int=>decide (a<=b)) (by intro a b c;simp;lia) (by intro a b;simp;lia) ns;exact this.imp (by simp)
theorem NR:∀{a b:jU},a.Perm b->a.Pairwise (· <= ·)->b.Pairwise (· <= ·)->a=b
 |[],b,p,_,_=>by rw[List.nil_perm.1 p]
 |x::a,[],p,_,_=>by have:=p.length_eq;simp at this
 |x::a,y::b,p,ha,hb=>by
  have hx:y<=x:=by
   rcases Qu.1 (p.mem_iff.1 (Qo ..))with e|e
   .exact Int.le_of_eq e.symm
   .exact(Q9.1 hb).1 x e
  have hy:x<=y:=by
   rcases Qu.1 (p.mem_iff.2 (Qo ..))with e|e
   .exact Int.le_of_eq e.symm
   .exact(Q9.1 ha).1 y e
  have e:=Int.le_antisymm hy hx;subst e;rw[NR (List.Perm.cons_inv p) (Q9.1 ha).2 (Q9.1 hb).2]
theorem MP:∀{us:jV}{ns:jU},PyProof.Rows.IntsAre us ns->Vals (ns.map V.int) us
 |_,_,.nil=>Paired.nil
 |_,_,.cons n t h=>Paired.cons ⟨t,rfl⟩ (MP h)
theorem AY:ZW X (.builtin "sorted") (λxs H Q=>∃l,∃ns:jU,xs=[.ref l]/\SqL X.K H l (ns.map V.int)/\ns.length<64/\∀p,H p=jQ->Q (.ref p) (upd H p (.lst ((Xb ns).map V.int)))):=by
 intro pins s σ H xs us Q I rx h;obtain⟨l,ns,rfl,hq,hb,q⟩:=h;obtain⟨u,rfl,ru⟩:=rx.one;cases ru;obtain⟨its,rv,p,hz⟩:=I.list hq;have hi:=Tp rv;have hn:its.length=ns.length:=by have:=rv.length;rw[Qd]at this;lia
 refine sorted_ints p.isList hi (by lia) λout ns' a1 a2 a3=>?_
 obtain⟨e,he⟩:=sortedAll_at s.heap its out;have en:ns'=Xb ns:=NR (a2.trans (Tr ns).symm) a3 (MQ ns);subst en;refine⟨.ref (s.heap.objs.size+1),_,I.laid (t':=s.toks) (λb o=>sortedAll_old) (JL _) (show Zy X.prog X.w _ _ _ (.lst ((Xb ns).map V.int))from⟨?_,out.toList,e,MP a1,he⟩),rfl,q _ (I.hok.fresh (JL _))⟩;rw[Qd,(Tr ns).length_eq];rw[Qd]at hz;exact hz
noncomputable def W7:jT->jY
 |[.list ds]=>(match Xc ds with
  |some ns=>if ns.length<64 then O (.list ((Xb ns).map .int))else jQ
  |none=>jQ)
 |_=>jQ
theorem AX{xs:jT}{d:D}(h:W7 xs=O d):∃ds ns,xs=[.list ds]/\Xc ds=O ns/\ns.length<64/\d=.list ((Xb ns).map .int):=by
 unfold W7 at h;split at h
 .rename_i ds
  cases z:Xc ds with
  |none=>rw[z]at h;cases h
  |some ns=>
   rw[z]at h;dsimp only at h;split at h
   .rename_i c
    cases h;exact⟨ds,ns,rfl,z,c,rfl⟩
   .cases h
 .cases h
theorem MN{K:Frag}{G:Hp}:∀ns:jU,Reps K G (ns.map V.int) (ns.map int)
 |[]=>.nil
 |n::r=>.cons (.int n) (MN r)
theorem EH:Yl X (.builtin "sorted") W7:=by refine⟨_,AY,λvs G H ds d Q s r e k=>?_⟩;obtain⟨ds,ns,rfl,z,c,rfl⟩:=AX e;obtain⟨v,rfl,q1⟩:=r.one_inv;obtain⟨l,ws,rfl,h1,r1⟩:=q1.lst_inv;have:=PQ r1 z;subst this;exact⟨l,ns,rfl,s.seq h1,c,λp hp=>k _ _ _ (.new s hp) (.lst (SqL.of KO) (MN _))⟩
theorem Aj{ns:jU}(h:ns.length<64):W7 [.list (ns.map .int)]=O (.list ((Xb ns).map .int)):=by unfold W7;simp only[P4,Qs h]
end
@[simp] theorem mBind_ok{α β:Type}{f:M α}{k:α->M β}{Z Z':UR}{x:α}(h:f Z=.ok x Z'):U5 f k Z=k x Z':=by unfold U5;rw[h]
theorem MM{s:D->UR->jZ}{g:SM}{P:Nat->UR->Prop}{R:Out->Prop}:∀(ds:jT)(n:Nat)(Z:UR),P n Z ->
  (∀i d Z,ds[i]?=O d->P (n+i) Z->∃Z1,s d Z=O Z1/\((∃Z2,(g Z1=.nx Z2∨g Z1=.ct Z2)/\P (n+i+1) Z2)∨(∃x,g Z1=.rt x/\R (.rt x))∨(∃Z2,g Z1=.bk Z2/\R (.nx Z2))∨(∃Z2 x,g Z1=.ex Z2 x/\R (.ex Z2 x)) ∨ ∃x,g Z1=.ro x/\R (.ro x)))->(∀Z,P (n+ds.length) Z->R (.nx Z))->R (Zh s g ds Z)
 |[],n,Z,h,_,f=>f Z h
 |d::r,n,Z,h,st,f=>by
  obtain⟨Z1,e1,e2⟩:=st 0 d Z jP h;rw[Zh,e1];dsimp only;rcases e2 with ⟨Z2,e2,h2⟩|⟨x,e2,h2⟩|⟨Z2,e2,h2⟩|⟨Z2,x,e2,h2⟩|⟨x,e2,h2⟩
  .have goal:=MM (R:=R) r (n+1) Z2 h2 (λi d' Z3 q p=>by
    have e:n+1+i=n+(i+1):=by lia
    rw[e]at p⊢;exact st (i+1) d' Z3 (by simpa using q) p) (λZ3 p=>f Z3 (by
    have e:n+1+r.length=n+(d::r).length:=by rw[QB];lia
    rw[e]at p;exact p))
   rcases e2 with e2|e2<;>(rw[e2];exact goal)
  .rw[e2];exact h2
  .rw[e2];exact h2
  .rw[e2];exact h2
  .rw[e2];exact h2
theorem Rl{lo hi:Int}{i:Nat}{d:D}(h:(ZE lo hi)[i]?=O d):d=.int (lo+i)/\(i:Int)<hi-lo:=by have hl:i<(ZE lo hi).length:=(Qq.mp h).1;rw[Vo]at hl;unfold ZE at h;rw[Qi,Qh (by rw[J8];exact hl),List.getElem_range]at h;cases h;exact⟨rfl,by lia⟩
section
variable{α β:Type}{Z Z1 Z2 Z3 Z':UR}{f g h:M D}
theorem UX{a:α}:UV a Z=.ok a Z:=rfl
theorem U0:US Z=.ok [] Z:=rfl
theorem Zx{o:Option α}{a:α}(h:o=O a):U2 o Z=.ok a Z:=by subst h;rfl
theorem KG{f:M α}{k:α->M β}{x:α}{r:Res β}(h:f Z=.ok x Z1)(h2:k x Z1=r):U5 f k Z=r:=by unfold U5;rw[h];exact h2
theorem K3{f:M α}{k:α->β}{x:α}(h:f Z=.ok x Z1):U3 k f Z=.ok (k x) Z1:=by unfold U3 U5;rw[h];rfl
theorem UW{i:Nat}{d:D}(h:Z[i]?=O (O (.pub d))):UQ i Z=.ok d Z:=by unfold UQ;rw[h]
theorem Zd{i:Nat}{ds:jT}(h:Z[i]?=O (O (.own ds)))(h2:Z.set i (O (.pub (.list ds)))=Z'):UQ i Z=.ok (.list ds) Z':=by unfold UQ;rw[h];subst h2;rfl
theorem U9{op:D->D->Option β}{x y:D}{r:β}(h1:f Z=.ok x Z1)(h2:g Z1=.ok y Z2)(h3:op x y=O r):UY op f g Z=.ok r Z2:=by unfold UY;exact KG h1 (KG h2 (Zx h3))
theorem UT{g:M jT}{x:D}{xs:jT}(h1:f Z=.ok x Z1)(h2:g Z1=.ok xs Z2):UU f g Z=.ok (x::xs) Z2:=by unfold UU;exact KG h1 (KG h2 jP)
theorem ZS{g:M jT}{xs:jT}(h1:g Z=.ok xs Z1)(h2:xs.length<=1000000):KI g Z=.ok (.tuple xs) Z1:=by unfold KI;exact KG h1 (by rw[Qs h2];rfl)
theorem Kt{g:M jT}{xs:jT}(h1:g Z=.ok xs Z1)(h2:xs.length<=1000000):U7 g Z=.ok (.list xs) Z1:=by unfold U7;exact KG h1 (by rw[Qs h2];rfl)
theorem Xh{g:M jT}{xs:jT}(h1:g Z=.ok xs Z1)(h2:xs.length<=1000000):(U5 g λxs=>if xs.length<=1000000 then UV xs else λ_=>.bad) Z=.ok xs Z1:=
 KG h1 (by rw[Qs h2];rfl)
theorem KD{i:Nat}{d y r:D}(h:Z[i]?=O (O (.pub d)))(h1:g Z=.ok y Z1)(h2:oIx d y=O r):U6 i g Z=.ok r Z1:=by unfold U6;rw[h];exact KG h1 (Zx h2)
theorem OI{i:Nat}{ds es:jT}{y r:D}(h:Z[i]?=O (O (.own ds)))(h1:g Z=.ok y Z1)(h3:Z1[i]?=O (O (.own es)))(h2:oIx (.list es) y=O r):U6 i g Z=.ok r Z1:=by unfold U6;rw[h];exact KG h1 (by rw[h3];exact Zx h2)
theorem K4{p:jT->jY}{g:M jT}{xs:jT}{r:D}(h1:g Z=.ok xs Z1)(h2:p xs=O r):Za p g Z=.ok r Z1:=by unfold Za;exact KG h1 (Zx h2)
theorem Kz{n:Nat}{F:jT->jY}{g:M jT}{xs:jT}{r:D}(h1:g Z=.ok xs Z1)(h2:xs.length=n)(h3:F xs=O r):U8 n F g Z=.ok r Z1:=by unfold U8;exact KG h1 (by rw[Qs h2];exact Zx h3)
theorem X5{i:Int}(h1:f Z=.ok (.int i) Z1):ZA f Z=.ok (.int (-i)) Z1:=by unfold ZA;exact KG h1 jP
theorem Zj{i:Nat}{d r:D}(h:Z[i]?=O (O (.pub d)))(h2:Kj [d]=O r):K8 i Z=.ok r Z:=by unfold K8;rw[h];exact Zx h2
theorem To{i:Nat}{ds:jT}(h:Z[i]?=O (O (.own ds))):K8 i Z=.ok (.int ds.length) Z:=by unfold K8;rw[h]
theorem Rb{g:M jT}{i:Int}{r:jT}(h1:g Z=.ok [.int i] Z1)(h2:X4 [.int i]=O r):W2 g Z=.ok r Z1:=by unfold W2;exact KG h1 (Zx h2)
theorem EG{g:M jT}{i j:Int}{r:jT}(h1:g Z=.ok [.int i,.int j] Z1)(h2:WN [.int i,.int j]=O r):Sz g Z=.ok r Z1:=by unfold Sz;exact KG h1 (Zx h2)
theorem Xg{g:M jT}{xs r:jT}(h1:g Z=.ok xs Z1)(h2:TC xs=O r):Yu g Z=.ok r Z1:=by unfold Yu;exact KG h1 (Zx h2)
theorem Z8{i:Int}(h1:f Z=.ok (.int i) Z1):(U5 f λx=>U2 (ZJ x)) Z=.ok (O i) Z1:=KG h1 jP
theorem Zw{f:M Bool}{t:Bool}(h1:f Z=.ok t Z1):Kf f Z=.ok (!t) Z1:=K3 h1
theorem ZP{t:Bool}(h1:f Z=.ok (.bool t) Z1):K0 f Z=.ok t Z1:=by unfold K0;exact KG h1 jP
theorem SJ{f g:M Bool}{t u:Bool}(h1:f Z=.ok t Z)(h2:t=jR->g Z=.ok u Z):Zq f g Z=.ok (t&&u) Z:=by
 unfold Zq;refine KG h1 ?_;cases t with
 |true=>rw[Qs jP];exact h2 jP
 |false=>rfl
theorem Hz{f g:M Bool}{t u:Bool}(h1:f Z=.ok t Z)(h2:t=jS->g Z=.ok u Z):mOr f g Z=.ok (t || u) Z:=by
 unfold mOr;refine KG h1 ?_;cases t with
 |false=>rw[QE (by decide)];exact h2 jP
 |true=>rfl
theorem YA{t u:Bool}(h1:f Z=.ok (.bool t) Z)(h2:t=jR->g Z=.ok (.bool u) Z):XQ f g Z=.ok (.bool (t&&u)) Z:=by
 unfold XQ;refine KG h1 ?_;cases t with
 |true=>exact h2 jP
 |false=>rfl
theorem GI{t u:Bool}(h1:f Z=.ok (.bool t) Z)(h2:t=jS->g Z=.ok (.bool u) Z):Xy f g Z=.ok (.bool (t || u)) Z:=by
 unfold Xy;refine KG h1 ?_;cases t with
 |false=>exact h2 jP
 |true=>rfl
theorem Ra{t:Bool}(h1:f Z=.ok (.bool t) Z1):Ta f Z=.ok (.bool (!t)) Z1:=by unfold Ta;exact KG h1 jP
theorem WS{p q:D->D->j8}{x y z:D}{t u:Bool}(h1:f Z=.ok x Z)(h2:g Z=.ok y Z)(h3:p x y=O t)(h4:t=jR->h Z=.ok z Z)(h5:t=jR->q y z=O u):Xr p q f g h Z=.ok (t&&u) Z:=by
 unfold Xr;refine KG h1 (KG h2 (KG (Zx h3) ?_));cases t with
 |true=>rw[Qs jP];exact KG (h4 jP) (Zx (h5 jP))
 |false=>rfl
theorem ZK{i j:Int}:Kb (.int i) (.int j)=O (.int (i+j)):=rfl
theorem YV{x y:jT}(h:x.length+y.length<=1000000):Kb (.list x) (.list y)=O (.list (x++y)):=by unfold Kb;exact Qs h
theorem T7{i j:Int}:Xw (.int i) (.int j)=O (.int (i-j)):=rfl
theorem Ri{i j:Int}(h1 : -18446744073709551616<i)(h2:i<18446744073709551616):Kw (.int i) (.int j)=O (.int (i*j)):=by unfold Kw Xz;exact Qs (.inl ⟨by lia,by lia⟩)
theorem Rh{i j:Int}(h1 : -18446744073709551616<j)(h2:j<18446744073709551616):Kw (.int i) (.int j)=O (.int (i*j)):=by unfold Kw Xz;exact Qs (.inr ⟨by lia,by lia⟩)
theorem Lu{x:jT}{k:Int}(h : -1000000<=k/\k<=1000000/\x.length*k.toNat<=1000000):Kw (.list x) (.int k)=O (.list (UC k.toNat x).flatten):=by unfold Kw;exact Qs h
theorem YQ{i j:Int}(h:0<j):K9 (.int i) (.int j)=O (.int (i % j)):=by unfold K9 Ws;exact Qs h
theorem T6{i j:Int}(h:0<j)(h2:j<18446744073709551616):Yp (.int i) (.int j)=O (.int (i / j)):=by unfold Yp Wt;exact Qs ⟨h,h2⟩
theorem Tn{i j:Int}(h:0<=j/\j<=1000000/\i.natAbs<2 ^ 64):ZU (.int i) (.int j)=O (.int (i ^ j.toNat)):=by unfold ZU Wr;exact Qs h
theorem Vd{p:Int->Int->Bool}{i j:Int}:oIB p (.int i) (.int j)=O (p i j):=rfl
theorem ZZ{i j:Int}:oEq (.int i) (.int j)=O (decide (i=j)):=by unfold oEq;rw[if_pos ⟨rfl,rfl,by simp[UI]⟩];congr 1
theorem Zc{xs:jT}:Kj [.list xs]=O (.int xs.length):=rfl
theorem Vj{xs:jT}:Kj [.tuple xs]=O (.int xs.length):=rfl
theorem NQ{i j:Int}:TD [.int i,.int j]=O (.int (if j > i then j else i)):=rfl
theorem Sc{j:Int}(h1:j<=1000000)(h2 : -1000000<=j):X4 [.int j]=O (ZE 0 j):=by unfold X4;exact Qs ⟨h1,h2⟩
theorem C7{i j:Int}(h1:j<=1000000)(h2 : -1000000<=j)(h3:i<=1000000)(h4 : -1000000<=i):WN [.int i,.int j]=O (ZE i j):=by unfold WN;exact Qs ⟨h1,h2,h3,h4⟩
theorem Xe{xs:jT}:TC [.list xs]=O (ZQ 0 xs):=rfl
theorem K2{i:Nat}{d:D}(h1:f Z=.ok d Z1)(h2:i<Z1.length)(h3:Z1.set i (O (.pub d))=Z'):Kg i f Z=.nx Z':=by unfold Kg Yb sB gN;rw[h1];dsimp only;rw[if_pos h2];subst h3;rfl
theorem Yi{i:Nat}{f:M jT}{ds:jT}(h1:f Z=.ok ds Z1)(h2:i<Z1.length)(h3:Z1.set i (O (.own ds))=Z'):Zi i f Z=.nx Z':=by unfold Zi sB;rw[h1];dsimp only;rw[if_pos h2];subst h3;rfl
theorem Vc{i:Nat}{d:D}{xI ds:jT}(h0:Z[i]?=O (O (.own xI)))(h1:f Z=.ok d Z1)(h2:Z1[i]?=O (O (.own ds)))(h3:ds.length<1000000)(h4:Z1.set i (O (.own (ds++[d])))=Z'):ZL i f Z=.nx Z':=by unfold ZL sB;rw[h0];dsimp only;rw[h1];dsimp only;rw[h2];dsimp only;rw[if_pos h3];subst h4;rfl
theorem TU{d:D}{s:D->UR->jZ}(h1:f Z=.ok d Z1)(h2:s d Z1=O Z'):Yb f s Z=.nx Z':=by unfold Yb sB;rw[h1];dsimp only;rw[h2]
theorem Pa{d:D}(h1:f Z=.ok d Z1):V9 f Z=.nx Z1:=by unfold V9 sB;rw[h1]
theorem U1{i:Nat}{d:D}(h:i<Z.length)(h2:Z.set i (O (.pub d))=Z'):gN i d Z=O Z':=by unfold gN;rw[Qs h,h2]
theorem KF:gN0 [] Z=O Z:=rfl
theorem Ka{s:D->UR->jZ}{t:jT->UR->jZ}{d:D}{r:jT}(h1:s d Z=O Z1)(h2:t r Z1=O Z'):gNC s t (d::r) Z=O Z':=by unfold gNC;dsimp only;rw[h1];exact h2
theorem KE{n:Nat}{t:jT->UR->jZ}{ds:jT}(h1:ds.length=n)(h2:t ds Z=O Z'):gT n t (.tuple ds) Z=O Z':=by unfold gT;dsimp only;rw[if_pos h1];exact h2
structure Ho(g:SM)(Z:UR)(Q:Out->Prop):Prop where
 out:Q (g Z)
noncomputable def Hy(h:SM)(Q:Out->Prop):Out->Prop
 |.nx Z'=>Ho h Z' Q
 |o=>Q o
structure W0(h:SM)(Q:Out->Prop)(o:Out):Prop where
 out:Hy h Q o
variable{Q:Out->Prop}{s t u:SM}
theorem Kn(h:Ho s Z (W0 t Q)):Ho (UZ s t) Z Q:=by
 have h:=h.out.out;constructor;unfold UZ;cases e:s Z with
 |nx o=>rw[e]at h;exact h.out
 |_=>rw[e]at h;exact h
theorem Ku(h1:s Z=.nx Z1)(h2:Ho t Z1 Q):Ho (UZ s t) Z Q:=by
 constructor;unfold UZ;rw[h1];exact h2.out
theorem KU{o:Out}(h1:s Z=o)(h2:Q o):Ho s Z Q:=by constructor;rw[h1];exact h2
theorem KH(h:Q (.nx Z)):Ho sNx Z Q:=⟨h⟩
theorem KB{o:UR}(h:Ho t o Q):W0 t Q (.nx o):=⟨h⟩
theorem KN{d:D}(h:Q (.rt d)):W0 t Q (.rt d):=⟨h⟩
theorem Kc{f:M Bool}{b:Bool}(h1:f Z=.ok b Z1)(h2:b=jR->Ho s Z1 Q)(h3:b=jS->Ho t Z1 Q):Ho (sIf f s t) Z Q:=by
 constructor;unfold sIf sB;rw[h1];dsimp only
 cases b with
 |true=>rw[Qs jP];exact(h2 jP).out
 |false=>rw[QE (by decide)];exact(h3 jP).out
theorem Ke{d:D}(h1:f Z=.ok d Z1)(h2:Q (.rt d)):Ho (U4 f) Z Q:=by constructor;unfold U4 sB;rw[h1];exact h2
theorem SZ{P:Out->Prop}(h:Ho s Z P)(k:∀o,P o->Q o):Ho s Z Q:=⟨k _ h.out⟩
noncomputable def Hx(I:UR->Prop)(Q:Out->Prop):Out->Prop
 |.nx Z | .ct Z=>I Z
 |.bk Z=>Q (.nx Z)
 |.rt d=>Q (.rt d)
 |.ex Z d=>Q (.ex Z d)
 |.ro ds=>Q (.ro ds)
 |.bad=>False
structure Xn(I:UR->Prop)(Q:Out->Prop)(o:Out):Prop where
 out:Hx I Q o
theorem Z7{I:UR->Prop}(h:I Z):Xn I Q (.nx Z):=⟨h⟩
theorem YU{Z:UR}{d:D}(h:Q (.ex Z d)):W0 t Q (.ex Z d):=⟨h⟩
theorem Tj{I:UR->Prop}{d:D}(h:Q (.rt d)):Xn I Q (.rt d):=⟨h⟩
theorem Yx{f:M jT}{tg:D->UR->jZ}{ds:jT}(I:Nat->UR->Prop)(h1:f Z=.ok ds Z1)(h0:I 0 Z1)
  (hst:∀i d Z,ds[i]?=O d->I i Z->∃Z2,tg d Z=O Z2/\Ho s Z2 (Xn (I (i+1)) Q)) (hend:∀Z,I ds.length Z->Q (.nx Z)):Ho (Kr f tg s) Z Q:=by
 constructor;unfold Kr sB;rw[h1];dsimp only
 refine MM (P:=I) (R:=Q) ds 0 Z1 h0 (λi d Z e p=>?_) (λZ p=>hend Z (by rw[Ju]at p;exact p));rw[Ju]at p;obtain⟨Z2,e2,q⟩:=hst i d Z e p;refine⟨Z2,e2,?_⟩;rw[Ju];have q:=q.out.out;cases z:s Z2 with
 |nx o=>rw[z]at q;exact .inl ⟨o,.inl jP,q⟩
 |ct o=>rw[z]at q;exact .inl ⟨o,.inr jP,q⟩
 |rt o=>rw[z]at q;exact .inr (.inl ⟨o,rfl,q⟩)
 |bk o=>rw[z]at q;exact .inr (.inr (.inl ⟨o,rfl,q⟩))
 |ex o x=>rw[z]at q;exact .inr (.inr (.inr (.inl ⟨o,x,rfl,q⟩)))
 |ro o=>rw[z]at q;exact .inr (.inr (.inr (.inr ⟨o,rfl,q⟩)))
 |bad=>rw[z]at q;exact q.elim
theorem WQ{N:List Str}{ds:jT}{P:D->Prop}(h0:ZN N ds=Z)(h:Ho s Z λo=>∃d,o=.rt d/\P d):∃d,Kl N s ds=O d/\P d:=by subst h0;obtain⟨d,e,p⟩:=h.out;refine⟨d,?_,p⟩;unfold Kl;rw[e]
theorem Zv{N:List Str}{ds:jT}{d:D}(h0:ZN N ds=Z)(h:Ho s Z λo=>o=.rt d):Kl N s ds=O d:=by obtain⟨d',e,p⟩:=WQ (P:=λx=>x=d) h0 (SZ h λo e=>⟨d,e,rfl⟩);rw[e,p]
end
section
variable{α β:Type}{Z Z1 Z2 Z3 Z':UR}{f g h:M D}
theorem Yw{l u:M j6}{x r:D}{a b:j6}(h1:f Z=.ok x Z1)(h2:l Z1=.ok a Z2)(h3:u Z2=.ok b Z3)(h4:Wg x a b=O r):KW f l u Z=.ok r Z3:=by unfold KW;exact KG h1 (KG h2 (KG h3 (Zx h4)))
theorem Zn{f g:M Bool}(h1:f Z=.ok jR Z1):mOr f g Z=.ok jR Z1:=by unfold mOr;exact KG h1 jP
theorem KR{f g:M Bool}{u:Bool}(h1:f Z=.ok jS Z1)(h2:g Z1=.ok u Z2):mOr f g Z=.ok u Z2:=by unfold mOr;exact KG h1 (by rw[QE (by decide)];exact h2)
theorem NV{f g:M Bool}(h1:f Z=.ok jS Z1):Zq f g Z=.ok jS Z1:=by unfold Zq;exact KG h1 jP
theorem R9{f g:M Bool}{u:Bool}(h1:f Z=.ok jR Z1)(h2:g Z1=.ok u Z2):Zq f g Z=.ok u Z2:=by unfold Zq;exact KG h1 (by rw[Qs jP];exact h2)
theorem KQ{c:String}{d:D}{t:Bool}(h:f Z=.ok d Z1)(ht:(!Kh d c)=t):Kf (K0 (U3 (λd=>.bool (Kh d c)) f)) Z=.ok t Z1:=by subst ht;exact Zw (ZP (K3 (k:=λd=>UE (Kh d c)) h))
theorem ZO{x:D}{r:jT}(h1:f Z=.ok x Z1)(h2:Pb x=O r):KZ f Z=.ok r Z1:=by unfold KZ;exact KG h1 (Zx h2)
theorem KP{p:D->D->Option β}{i:Nat}{d y:D}{r:β}(h:Z[i]?=O (O (.pub d)))(h1:g Z=.ok y Z1)(h2:p d y=O r):Kq p i g Z=.ok r Z1:=by unfold Kq;rw[h];exact KG h1 (Zx h2)
theorem Mc{p:D->D->Option β}{i:Nat}{ds es:jT}{y:D}{r:β}(h:Z[i]?=O (O (.own ds)))(h1:g Z=.ok y Z1)(h3:Z1[i]?=O (O (.own es)))(h2:p (.list es) y=O r):Kq p i g Z=.ok r Z1:=by unfold Kq;rw[h];exact KG h1 (by rw[h3];exact Zx h2)
theorem Ys{f:M jT}{k:Nat}{s:D->UR->jZ}{t:M Bool}{ds es:jT}(h1:f Z=.ok ds Z1)(h2:K7 s t g ds (Kk Z1++UC k jQ) []=O es):Yt f k s t g Z=.ok es Z1:=by unfold Yt;rw[h1];dsimp only;rw[h2]
theorem Wc{s:D->UR->jZ}{t:M Bool}(p:D->Bool)(q:D->D)(I:UR->Prop):∀(ds:jT)(Z:UR)(es:jT),(∀d∈ds,∀Z,I Z->∃Z1,s d Z=O Z1/\t Z1=.ok (p d) Z1/\(p d=jR->g Z1=.ok (q d) Z1)/\I (Kk Z1))->I Z->es.length+ds.length<=1000000 ->
  K7 s t g ds Z es=O (es++(ds.filter p).map q)
 |[],Z,es,_,_,_=>by rw[K7];simp
 |d::r,Z,es,st,h0,hz=>by
  obtain⟨Z1,e1,e2,e3,h1⟩:=st d Qo Z h0;have ih:=λes' hz'=>Wc p q I r (Kk Z1) es' (λd' hd=>st d' (Qp _ hd)) h1 hz';rw[QB]at hz;rw[K7,e1];dsimp only;rw[e2];dsimp only
  cases hp:p d with
  |true=>rw[Qs jP,e3 hp];dsimp only;rw[Qs (by lia),ih _ (by rw[Qk,Q2];lia),List.filter_cons_of_pos hp,QA,Q8];rfl
  |false=>rw[QE (by decide),ih _ (by lia),List.filter_cons_of_neg (by rw[hp];decide)]
theorem T9{j:Nat}{d:D}{k:Int}{xI ds:jT}(h1:f Z=.ok d Z1)(h0:Z1[j]?=O (O (.own xI)))(h2:g Z1=.ok (.int k) Z2)(h3:Z2[j]?=O (O (.own ds)))(h4:0<=k/\k<ds.length)(h5:Z2.set j (O (.own (ds.set k.toNat d)))=Z'):WM j g f Z=.nx Z':=by unfold WM sB;rw[h1];dsimp only;rw[h0];dsimp only;rw[h2];dsimp only;rw[h3];dsimp only;rw[if_pos h4];subst h5;rfl
theorem YB{xs:jT}{a b:j6}:Wg (.list xs) a b=O (.list (DL.cutD xs a b)):=rfl
theorem Xp{xs:jT}:Pb (.list xs)=O xs:=rfl
theorem ja(bs:List Bool):WU (bs.map UE)=O bs:=by
 induction bs with
 |nil=>rfl
 |cons b r ih=>rw[QA,WU,ih];rfl
theorem Ve{bs:List Bool}:ZM [.list (bs.map UE)]=O (.bool (bs.all id)):=by unfold ZM;dsimp only;rw[ja];rfl
end
section
variable{α β:Type}{Z Z1 Z2 Z3 Z4 Z':UR}{f g h:M D}{s:SM}
theorem OH{g:M jT}{xs r:jT}(h1:g Z=.ok xs Z1)(h2:Xv xs=O r):Wu g Z=.ok r Z1:=by unfold Wu;exact KG h1 (Zx h2)
theorem OG{l u t:M j6}{xs:jT}(h1:f Z=.ok (.list xs) Z1)(h2:l Z1=.ok jQ Z2)(h3:u Z2=.ok jQ Z3)(h4:t Z3=.ok (O (-1)) Z4):XA f l u t Z=.ok (.list xs.reverse) Z4:=by unfold XA;exact KG h1 (KG h2 (KG h3 (KG h4 (Zx (by unfold Wh;exact Qs jP)))))
theorem Mb{i:Nat}{d:D}{ds:jT}(h:Z[i]?=O (O (.pub d)))(h2:XN [d]=O ds):W8 i Z=.ok ds Z:=by unfold W8;rw[h];exact Zx h2
theorem RP{N:List Str}{ds:jT}(h0:ZN N ds=Z)(h:Ho s Z λo=>∃Z',o=.nx Z'):Kl N s ds=O .none:=by subst h0;obtain⟨Z',e⟩:=h.out;unfold Kl;rw[e]
theorem Tl{i j:Int}:oNe (.int i) (.int j)=O (!decide (i=j)):=by unfold oNe;rw[if_pos ⟨rfl,rfl,by simp[UI]⟩];congr 1
theorem C6{xs:jU}{a b:Int}(ha:0<=a)(hb:0<=b)(hl:b<=xs.length):DL.cutD (xs.map int) (O a) (O b)=((xs.drop a.toNat).take (b.toNat-a.toNat)).map int:=by
 unfold DL.cutD HT.sIx;dsimp only;rw[QE (by lia),QE (by lia),Qd,List.map_take,List.map_drop];have e2:min b.toNat xs.length=b.toNat:=by lia
 rw[e2];by_cases hab:a.toNat<=xs.length
 .have e1:min a.toNat xs.length=a.toNat:=by lia
  rw[e1]
 .have e3:b.toNat-a.toNat=0:=by lia
  have e4:b.toNat-min a.toNat xs.length=0:=by lia
  rw[e3,e4,List.take_zero,List.take_zero]
theorem ML{xs ys:jU}:Zb (xs.map int) (ys.map int)=(xs.zip ys).map λp=>.tuple [.int p.1,.int p.2]:=by unfold Zb;rw[List.zip_map,Jr];rfl
end
section
variable{Z Z1:UR}
theorem C5{g:M jT}{xs r:jT}(h1:g Z=.ok xs Z1)(h2:Te xs=O r):SK g Z=.ok r Z1:=by unfold SK;exact KG h1 (Zx h2)
theorem AJ{xs:jT}:Te [.list xs]=O (ZQ 1 xs):=rfl
end
section
variable{X:Cx}{B G0:Hp}{e o a b c tg i:Uw}{pos p2:Pos}{es rest:jX}
theorem q9:ZW X (.type "range") (λxs H Q=>∃lo hi,(xs=[.int hi]/\lo=0∨xs=[.int lo,.int hi])/\∀p,H p=jQ->Q (.ref p) (upd H p (.rng lo hi))):=by
 intro pins s σ H xs us Q I rx h;obtain⟨lo,hi,h1,q⟩:=h;rcases h1 with ⟨rfl,rfl⟩|rfl
 .obtain⟨u,rfl,ru⟩:=rx.one
  obtain⟨t,rfl⟩:=ru;exact call_range_1 ⟨.ref _,_,I.laid (λb o e=>Qe _ e) (Ql _) (show Zy X.prog X.w _ _ _ (.rng 0 hi)from⟨_,_,_,Qn _ jP⟩),rfl,q _ (I.hok.fresh (Ql _))⟩
 .obtain⟨u1,u2,rfl,ru1,ru2⟩:=rx.two
  obtain⟨t1,rfl⟩:=ru1;obtain⟨t2,rfl⟩:=ru2;exact call_range_2 ⟨.ref _,_,I.laid (λb o e=>Qe _ e) (Ql _) (show Zy X.prog X.w _ _ _ (.rng lo hi)from⟨_,_,_,Qn _ jP⟩),rfl,q _ (I.hok.fresh (Ql _))⟩
theorem jE(hc:X.calm=jR):ZW X (.type "list") (λxs H Q=>∃r lo hi,xs=[.ref r]/\H r=O (.rng lo hi) /\ -1000000<=lo/\lo<=1000000 /\ -1000000<=hi/\hi<=1000000/\(hi-lo).toNat<=1000000/\∀p,H p=jQ->Q (.ref p) (upd H p (.lst ((UB (hi-lo).toNat).map λ(k:Nat)=>V.int (lo+k))))):=by
 intro pins s σ H xs us Q I rx h;obtain⟨r,lo,hi,rfl,hr,h1,h2,h3,h4,h5,q⟩:=h;obtain⟨u,rfl,ru⟩:=rx.one;cases ru;obtain⟨t,u,v,e⟩:=I.hok r _ hr;refine call_list_range (n:=(hi-lo).toNat) (I.ok.hd hc) e (small_one (by lia) (by lia) (by lia) (by lia)) (by rw[rangeSize_one];split<;>lia) (by lia) λh' tk acc' c' hk hS hI=>?_
 refine⟨.ref _,_,I.laid hk (Ql _) (show Zy X.prog X.w _ _ _ (.lst ((UB (hi-lo).toNat).map λ(k:Nat)=>V.int (lo+k)))from ?_),rfl,q _ (I.hok.fresh (Ql _))⟩;refine⟨by rw[List.length_map,List.length_range];exact Nat.le_trans h5 lim,acc'.toList,c',?_,by simpa using hS⟩
 have key:∀(n:Nat)(ys:jV),ys.length=n->(∀(i:Nat)(v:Ur),ys[i]?=O v->∃t,v=Value.int (lo+(i:Int)*1) t)->Vals ((UB n).map λ(k:Nat)=>V.int (lo+k)) ys:=by
  intro n;induction n with
  |zero=>intro ys hl _;rw[List.length_eq_zero_iff.mp hl];exact .nil
  |succ n ih=>
   intro ys hl hy;have hne:ys≠[]:=by rintro rfl;simp at hl
   rw[List.range_succ,QX,←List.dropLast_concat_getLast hne];refine Vals.append (ih _ (by rw[List.length_dropLast];lia) λi v e=>hy i v ?_) (.cons ?_ .nil)
   .have hi:i<ys.dropLast.length:=(Qq.mp e).1
    rw[List.getElem?_dropLast]at e;split at e
    .exact e
    .cases e
   .obtain⟨t,e⟩:=hy n (ys.getLast hne) (by rw[List.getLast_eq_getElem,←Qh];congr 1;lia)
    exact⟨t,by rw[e];congr 1;lia⟩
 exact key _ acc'.toList (by simpa using hI.1) λi v e=>hI.2 i v (by simpa using e)
noncomputable def V6:jT->Option jT
 |[.int j]=>X4 [.int j]
 |[.int i,.int j]=>if(j-i).toNat<=1000000 then WN [.int i,.int j]else jQ
 |_=>jQ
theorem AI{xs l:jT}(h:V6 xs=O l):∃lo hi:Int,(xs=[.int hi]/\lo=0∨xs=[.int lo,.int hi]) /\ -1000000<=lo/\lo<=1000000 /\ -1000000<=hi/\hi<=1000000/\(hi-lo).toNat<=1000000/\l=ZE lo hi:=by
 unfold V6 at h;split at h
 .rename_i j
  unfold X4 at h;dsimp only at h;split at h
  .rename_i c
   cases h;exact⟨0,j,.inl ⟨rfl,rfl⟩,by lia,by lia,by lia,by lia,by lia,rfl⟩
  .cases h
 .rename_i i j
  split at h
  .rename_i c0
   unfold WN at h;dsimp only at h;split at h
   .rename_i c
    cases h;exact⟨i,j,.inr jP,by lia,by lia,by lia,by lia,c0,rfl⟩
   .cases h
  .cases h
 .cases h
theorem Lr{K:Frag}{G:Hp}(lo:Int):∀n:Nat,Reps K G ((UB n).map λ(k:Nat)=>V.int (lo+k)) ((UB n).map λ(k:Nat)=>int (lo+k))
 |0=>.nil
 |n+1=>by rw[List.range_succ,QX,QX];exact(Lr lo n).append (.cons (.int _) .nil)
theorem AH{f:M jT}{p3 p4:Pos}{as:jX}(hc:X.calm=jR)(hg:Gl X "list")(hm:X.mg "list" = jQ)(xm:Gl X "range")(hm2:X.mg "range" = jQ)(ha:PA X (a::as) (tDs X.K B G0 f))(he:Uz (a::as) X.env=(jS,eval a X.env)::Uz as X.env:=by rfl)
  (hp:(backTo p3 (Uz as X.env)).any (·.1)=jS:=by rfl)
  (kM:Uz [.Call (.Name "range" p2) (a::as) [] p3] X.env=(jS,eval (.Call (.Name "range" p2) (a::as) [] p3) X.env)::Uz [] X.env:=by rfl) :
  PE X (.Call (.Name "list" p4) [.Call (.Name "range" p2) (a::as) [] p3] [] pos) (tL X.K B G0 (U5 f λxs=>U2 (V6 xs))):=
 Km (Tq (jE hc) hg hm P5 (ZT (Tq q9 xm hm2 boot_range ha (by decide) (by decide) he hp) YN kM) (by decide) (by decide) kM jP) λσ H Q ⟨G,Z,k,q⟩=>by
  refine⟨G,Z,k,?_⟩;unfold U5 at q;cases z:f Z with
  |bad=>rw[z]at q;exact q.elim
  |ok xs Z1=>
  rw[z]at q;dsimp only[U2]at q;intro vs G' H' k' s' r;cases z2:V6 xs with
  |none=>rw[z2]at q;exact q.elim
  |some l=>
  rw[z2]at q;obtain⟨lo,hi,hx,h1,h2,h3,h4,h5,rfl⟩:=AI z2
  have hv:vs=[.int hi]/\lo=0∨vs=[.int lo,.int hi]:=by
   rcases hx with ⟨rfl,rfl⟩|rfl
   .obtain⟨v,rfl,q1⟩:=r.one_inv
    exact .inl ⟨by rw[q1.int_inv],rfl⟩
   .cases r with
    |cons r1 r2=>obtain⟨v,rfl,q1⟩:=r2.one_inv;exact .inr (by rw[r1.int_inv,q1.int_inv])
  refine⟨lo,hi,hv,λp hp=>⟨p,lo,hi,rfl,KO,h1,h2,h3,h4,h5,λp' xx=>?_⟩⟩;have k2:=k'.ext (Ext.hid (o:=.rng lo hi) k'.gh hp);exact q p' _ G' _ (k2.ext (Ext.hid k2.gh xx)) s' (NewL.of k2 xx (Lr lo _))
theorem q8:bootBuiltins "tuple" = O (.type "tuple"):=by decide +kernel
end
end DL
namespace DL
open PySem PySem.Spec PySem.W PyProof.Rows
noncomputable def Kd{α:Type}(lt:Nat->Nat->Bool):KasT α->α
 |.ret a=>a
 |.ask i j k=>Kd lt (k (lt i j))
theorem Tt{α β:Type}{lt:Nat->Nat->Bool}{f:α->KasT β}:∀t:KasT α,Kd lt (t.bind f)=Kd lt (f (Kd lt t))
 |.ret _=>rfl
 |.ask i j k=>by show Kd lt ((k (lt i j)).bind f)=_;rw[Tt];rfl
section
variable{key:Nat->Int}{p:Array Nat}
noncomputable def KA(key:Nat->Int)(p:Array Nat)(i:Nat):Int:=key (p.getD i 0)
def srt(key:Nat->Int)(p:Array Nat)(m:Nat):Prop:=∀i j,i<=j->j<m->KA key p i<=KA key p j
def dsc(key:Nat->Int)(p:Array Nat)(m:Nat):Prop:=∀i j,i<=j->j<m->KA key p j<=KA key p i
noncomputable abbrev kl(key:Nat->Int)(i j:Nat):Bool:=decide (key i<key j)
theorem MK{k d i:Nat}(hk:k<p.size)(hd:d<=k):KA key (bubble p k d) i=if i=k-d then KA key p k else if k-d<i/\i<=k then KA key p (i-1)else KA key p i:=by
 unfold KA;simp only[Jb];rw[getElem?_bubble hk d hd]
 repeat' split
 all_goals rfl
theorem TR{i j k:Nat}(hj:j<=p.size):KA key (kas_rev p i j) k=if i<=k/\k<j then KA key p (i+j-1-k)else KA key p k:=by
 unfold KA kas_rev;simp only[Jb];rw[getElem?_mirror_all hj]
 split<;>rfl
theorem Vi{i j:Nat}:(kas_rev p i j).size=p.size:=mirror_size _ _ _ _
theorem We{i j:Nat}:(kas_rev p i j).Perm p:=mirror_perm _ _ _ _
theorem PC:∀(f n:Nat),1<=n->srt key p n->srt key p (Kd (kl key) (kas_asc p f n))/\n<=Kd (kl key) (kas_asc p f n)/\Kd (kl key) (kas_asc p f n)<=n+f /\
  (Kd (kl key) (kas_asc p f n)<n+f->KA key p (Kd (kl key) (kas_asc p f n))<KA key p (Kd (kl key) (kas_asc p f n)-1))
 |0,n,h1,hs=>⟨hs,Ql _,Ql _,λh=>absurd h (Jz _)⟩
 |f+1,n,h1,hs=>by
  unfold kas_asc Kd;cases c:kl key (p.getD n 0) (p.getD (n-1) 0)with
  |true=>dsimp only;rw[Qs jP];exact⟨hs,Ql _,by show n<=n+(f+1);lia,λ_=>Qa c⟩
  |false=>
   dsimp only;rw[QE (by decide)];have hle:KA key p (n-1)<=KA key p n:=Uq.mp (Ja c)
   obtain⟨a1,a2,a3,a4⟩:=PC f (n+1) (by lia) (λi j hij hj=>by
    by_cases xE:j=n
    .subst xE
     by_cases hin:i=j
     .subst hin;exact JP _
     .exact Int.le_trans (hs i (j-1) (by lia) (by lia)) hle
    .exact hs i j hij (by lia))
   exact⟨a1,by lia,by lia,λh=>a4 (by lia)⟩
def eqs(key:Nat->Int)(p:Array Nat)(n q:Nat):Prop:=∀i,n-1-q<=i->i<n->KA key p i=KA key p (n-1)
theorem Rr:∀(f:Nat)(p:Array Nat)(n q:Nat),1<=n->q+1<=n->n+f<=p.size->dsc key p n->eqs key p n q ->
  let r:=Kd (kl key) (kas_desc f p n q)
  r.1.Perm p/\r.1.size=p.size/\dsc key r.1 r.2.1/\eqs key r.1 r.2.1 r.2.2/\r.2.2+1<=r.2.1/\n<=r.2.1/\r.2.1<=n+f
 |0,p,n,q,h1,hq,hz,hd,he=>⟨Uf _,rfl,hd,he,hq,Ql _,Ql _⟩
 |f+1,p,n,q,h1,hq,hz,hd,he=>by
  intro r;have hr:r=Kd (kl key) (kas_desc (f+1) p n q):=rfl;unfold kas_desc Kd at hr;cases c:kl key (p.getD n 0) (p.getD (n-1) 0)with
  |true=>
   rw[c]at hr;(try dsimp only at hr);rw[if_pos jP]at hr;have hlt:KA key p n<KA key p (n-1):=Qa c
   have ext:∀p':Array Nat,(∀i,KA key p' i=KA key p i)->dsc key p' (n+1)/\eqs key p' (n+1) 0:=λp' hp=>⟨λi j hij hj=>by
     rw[hp,hp];by_cases xE:j=n
     .subst xE
      by_cases hin:i=j
      .subst hin;exact JP _
      .exact Int.le_trans (Int.le_of_lt hlt) (hd i (j-1) (by lia) (by lia))
     .exact hd i j hij (by lia),λi hi1 hi2=>by
     have:i=n:=by lia
     subst this;rfl⟩
   by_cases hq0:q > 0
   .rw[Qs hq0]at hr
    have same:∀i,KA key (kas_rev p (n-(q+1)) n) i=KA key p i:=λi=>by
     rw[TR (by lia)];split
     .rw[he _ (by lia) (by lia),he i (by lia) (by lia)]
     .rfl
    obtain⟨d1,e1⟩:=ext _ same;obtain⟨a1,a2,a3,a4,a5,a6,a7⟩:=Rr f (kas_rev p (n-(q+1)) n) (n+1) 0 (by lia) (by lia) (by rw[Vi];lia) d1 e1;rw[←hr]at a1 a2 a3 a4 a5 a6 a7;exact⟨a1.trans We,a2.trans Vi,a3,a4,a5,by lia,by lia⟩
   .rw[QE hq0]at hr
    obtain⟨d1,e1⟩:=ext p λ_=>rfl
    obtain⟨a1,a2,a3,a4,a5,a6,a7⟩:=Rr f p (n+1) 0 (by lia) (by lia) (by lia) d1 e1;rw[←hr]at a1 a2 a3 a4 a5 a6 a7;exact⟨a1,a2,a3,a4,a5,by lia,by lia⟩
  |false=>
   rw[c]at hr;(try dsimp only at hr);rw[if_neg (by decide)]at hr;unfold Kd at hr;have hle:KA key p (n-1)<=KA key p n:=Uq.mp (Ja c);cases d:kl key (p.getD (n-1) 0) (p.getD n 0)with
   |true=>rw[d]at hr;(try dsimp only at hr);rw[if_pos jP]at hr;unfold Kd at hr;rw[hr];exact⟨Uf _,rfl,hd,he,hq,Ql _,by show n<=n+(f+1);lia⟩
   |false=>
    rw[d]at hr;(try dsimp only at hr);rw[if_neg (by decide)]at hr;have hge:KA key p n<=KA key p (n-1):=Uq.mp (Ja d)
    obtain⟨a1,a2,a3,a4,a5,a6,a7⟩:=Rr f p (n+1) (q+1) (by lia) (by lia) (by lia) (λi j hij hj=>by
     by_cases xE:j=n
     .subst xE
      by_cases hin:i=j
      .subst hin;exact JP _
      .exact Int.le_trans hge (hd i (j-1) (by lia) (by lia))
     .exact hd i j hij (by lia)) (λi hi1 hi2=>by
     have e0:KA key p n=KA key p (n-1):=Int.le_antisymm hge hle;show KA key p i=KA key p (n+1-1);rw[Nat.add_sub_cancel,e0];by_cases hin:i=n
     .subst hin;exact e0
     .exact he i (by lia) (by lia))
    rw[←hr]at a1 a2 a3 a4 a5 a6 a7;exact⟨a1,a2,a3,a4,a5,by lia,by lia⟩
theorem Lq{n nrem:Nat}(h1:1<=n)(hn:n<=nrem)(hz:nrem<=p.size)(hd:dsc key p n) :
  let r:=Kd (kl key) (kas_tail3 n nrem p)
  r.2.Perm p/\r.2.size=p.size/\srt key r.2 r.1/\1<=r.1/\r.1<=nrem:=by
 intro r;have hr:r=Kd (kl key) (kas_tail3 n nrem p):=rfl;unfold kas_tail3 at hr;rw[Tt]at hr;have hs:srt key (kas_rev p 0 n) n:=λi j hij hj=>by rw[TR (by lia),TR (by lia),Qs (by lia),Qs (by lia)];exact hd _ _ (by lia) (by lia)
 obtain⟨a1,a2,a3,_⟩:=PC (key:=key) (p:=kas_rev p 0 n) (nrem-n) n h1 hs;rw[hr];exact⟨We,Vi,a1,by show 1<=Kd _ _;lia,by show Kd _ _<=_;lia⟩
theorem L6{n nrem:Nat}(h1:1<=n)(hn:n+1<=nrem)(hz:nrem<=p.size)(hd:dsc key p (n+1)) :
  let r:=Kd (kl key) (kas_descPart n nrem p)
  r.2.Perm p/\r.2.size=p.size/\srt key r.2 r.1/\1<=r.1/\r.1<=nrem:=by
 intro r;have hr:r=Kd (kl key) (kas_descPart n nrem p):=rfl;unfold kas_descPart at hr;rw[Tt]at hr
 obtain⟨a1,a2,a3,a4,a5,a6,a7⟩:=Rr (key:=key) (nrem-(n+1)) p (n+1) 0 (by lia) (by lia) (by lia) hd (λi hi1 hi2=>by
  have:i=n:=by lia
  subst this;rfl)
 generalize Kd (kl key) (kas_desc (nrem-(n+1)) p (n+1) 0)=d at hr a1 a2 a3 a4 a5 a6 a7;obtain⟨p1,n1,q1⟩:=d;dsimp only at hr a1 a2 a3 a4 a5 a6 a7;by_cases hq:q1 > 0
 .rw[Qs hq]at hr
  have same:∀i,KA key (kas_rev p1 (n1-(q1+1)) n1) i=KA key p1 i:=λi=>by
   rw[TR (by lia)];split
   .rw[a4 _ (by lia) (by lia),a4 i (by lia) (by lia)]
   .rfl
  obtain⟨b1,b2,b3,b4,b5⟩:=Lq (key:=key) (p:=kas_rev p1 (n1-(q1+1)) n1) (n:=n1) (nrem:=nrem) (by lia) (by lia) (by rw[Vi];lia) (λi j hij hj=>by rw[same,same];exact a3 i j hij hj);rw[hr];exact⟨(b1.trans We).trans a1,(b2.trans Vi).trans a2,b3,b4,b5⟩
 .rw[QE hq]at hr
  obtain⟨b1,b2,b3,b4,b5⟩:=Lq (key:=key) (p:=p1) (n:=n1) (nrem:=nrem) (by lia) (by lia) (by lia) a3;rw[hr];exact⟨b1.trans a1,b2.trans a2,b3,b4,b5⟩
theorem AW{nrem:Nat}(h1:1<=nrem)(hz:nrem<=p.size) :
  let r:=Kd (kl key) (kas_count nrem p)
  r.2.Perm p/\r.2.size=p.size/\srt key r.2 r.1/\1<=r.1/\r.1<=nrem:=by
 intro r;have hr:r=Kd (kl key) (kas_count nrem p):=rfl;unfold kas_count at hr;rw[Tt]at hr
 obtain⟨a1,a2,a3,a4⟩:=PC (key:=key) (p:=p) (nrem-1) 1 (Ql _) (λi j hij hj=>by
  have:i=j:=by lia
  subst this;exact JP _)
 generalize Kd (kl key) (kas_asc p (nrem-1) 1)=n at hr a1 a2 a3 a4;by_cases hn:(n==nrem)=jR
 .rw[Qs hn]at hr
  unfold Kd at hr;rw[hr];exact⟨Uf _,rfl,a1,a2,by show n<=nrem;lia⟩
 .rw[QE hn]at hr
  have hne:n≠nrem:=by simpa using hn
  have hlt:=a4 (by lia);by_cases hn1:n > 1
  .rw[Qs hn1]at hr
   unfold Kd at hr;cases c:kl key (p.getD 0 0) (p.getD (n-1) 0)with
   |true=>rw[c]at hr;(try dsimp only at hr);rw[if_pos jP]at hr;unfold Kd at hr;rw[hr];exact⟨Uf _,rfl,a1,a2,by show n<=nrem;lia⟩
   |false=>
    rw[c]at hr;(try dsimp only at hr);rw[if_neg (by decide)]at hr;have hge:KA key p (n-1)<=KA key p 0:=Uq.mp (Ja c);have all:∀i,i<n->KA key p i=KA key p 0:=λi hi=>Int.le_antisymm (Int.le_trans (a1 i (n-1) (by lia) (by lia)) hge) (a1 0 i (by lia) hi)
    have same:∀i,KA key (kas_rev p 0 n) i=KA key p i:=λi=>by
     rw[TR (by lia)];split
     .rw[all _ (by lia),all i (by lia)]
     .rfl
    obtain⟨b1,b2,b3,b4,b5⟩:=L6 (key:=key) (p:=kas_rev p 0 n) (n:=n) (nrem:=nrem) a2 (by lia) (by rw[Vi];exact hz) (λi j hij hj=>by
     rw[same,same];by_cases xE:j=n
     .subst xE
      by_cases hin:i=j
      .subst hin;exact JP _
      .rw[all i (by lia)]
       rw[all (j-1) (by lia)]at hlt;exact Int.le_of_lt hlt
     .rw[all i (by lia),all j (by lia)];exact JP _)
    rw[hr];exact⟨b1.trans We,b2.trans Vi,b3,b4,b5⟩
  .rw[QE hn1]at hr
   have:n=1:=by lia
   subst this
   obtain⟨b1,b2,b3,b4,b5⟩:=L6 (key:=key) (p:=p) (n:=1) (nrem:=nrem) (Ql _) (by lia) hz (λi j hij hj=>by
    by_cases hij2:i=j
    .subst hij2;exact JP _
    .have h0:i=0:=by lia
     have h1:j=1:=by lia
     subst h0;subst h1;exact Int.le_of_lt hlt)
   rw[hr];exact⟨b1,b2,b3,b4,b5⟩
theorem PZ{k:Nat}(hs:srt key p k):∀(f l r:Nat),l<=r->r<=k->r-l<=f->(∀i,i<l->KA key p i<=KA key p k)->(∀i,r<=i->i<k->KA key p k<KA key p i) ->
  let m:=Kd (kl key) (kas_place p k f l r)
  m<=k/\(∀i,i<m->KA key p i<=KA key p k)/\(∀i,m<=i->i<k->KA key p k<KA key p i)
 |0,l,r,hlr,hrk,hf,h1,h2=>⟨by show l<=k;lia,h1,λi (hi:l<=i)=>h2 i (by lia)⟩
 |f+1,l,r,hlr,hrk,hf,h1,h2=>by
  intro m;have hm:m=Kd (kl key) (kas_place p k (f+1) l r):=rfl;unfold kas_place at hm;by_cases hge:l ≥ r
  .rw[Qs hge]at hm
   unfold Kd at hm;rw[hm];exact⟨by lia,h1,λi hi=>h2 i (by lia)⟩
  .rw[QE hge]at hm
   unfold Kd at hm;cases c:kl key (p.getD k 0) (p.getD ((l+r) / 2) 0)with
   |true=>rw[c]at hm;(try dsimp only at hm);rw[if_pos jP]at hm;rw[hm];have hlt:KA key p k<KA key p ((l+r) / 2):=Qa c;exact PZ hs f l ((l+r) / 2) (by lia) (by lia) (by lia) h1 λi hi hik=>Int.lt_of_lt_of_le hlt (hs _ _ hi hik)
   |false=>rw[c]at hm;(try dsimp only at hm);rw[if_neg (by decide)]at hm;rw[hm];have hle:KA key p ((l+r) / 2)<=KA key p k:=Uq.mp (Ja c);exact PZ hs f ((l+r) / 2+1) r (by lia) hrk (by lia) (λi hi=>Int.le_trans (hs i ((l+r) / 2) (by lia) (by lia)) hle) h2
theorem Ma:∀(f:Nat)(p:Array Nat)(k:Nat),k+f<=p.size->srt key p k->let r:=Kd (kl key) (kas_bin f p k);r.Perm p/\r.size=p.size/\srt key r (k+f)
 |0,p,k,_,hs=>⟨Uf _,rfl,hs⟩
 |f+1,p,k,hz,hs=>by
  intro r;have hr:r=Kd (kl key) (kas_bin (f+1) p k):=rfl;unfold kas_bin at hr;rw[Tt]at hr;obtain⟨a1,a2,a3⟩:=PZ (key:=key) hs k 0 k (Ug _) (Ql _) (by omega) (λi hi=>by omega) (λi h1 h2=>by omega);generalize Kd (kl key) (kas_place p k k 0 k)=l at hr a1 a2 a3;have hk:k<p.size:=by omega
  obtain⟨b1,b2,b3⟩:=Ma f (bubble p k (k-l)) (k+1) (by rw[bubble_size];omega) (λi j hij hj=>by
   rw[MK hk (by omega),MK hk (by omega),show k-(k-l)=l by omega];by_cases hi:i=l
   .rw[Qs hi]
    by_cases kP:j=l
    .rw[Qs kP];exact JP _
    .rw[QE kP,Qs (by omega)]
     exact Int.le_of_lt (a3 (j-1) (by omega) (by omega))
   .rw[QE hi]
    by_cases hi2:l<i/\i<=k
    .rw[Qs hi2,QE (show ¬j=l by omega),Qs (by omega)]
     exact hs _ _ (by omega) (by omega)
    .rw[QE hi2]
     by_cases kP:j=l
     .rw[Qs kP];exact a2 i (by omega)
     .rw[QE kP]
      split
      .exact hs _ _ (by omega) (by omega)
      .exact hs _ _ (by omega) (by omega))
  rw[hr];exact⟨b1.trans (bubble_perm _ _ _),b2.trans (bubble_size _ _ _),by rw[show k+(f+1)=k+1+f by omega];exact b3⟩
theorem AG{n:Nat}(h1:1<=n):let r:=Kd (kl key) (kas_sort n);r.Perm (List.toArray (UB n))/\r.size=n/\srt key r n:=by
 intro r;have hr:r=Kd (kl key) (kas_sort n):=rfl;unfold kas_sort at hr;rw[Tt]at hr;have hsz:(List.toArray (UB n)).size=n:=by simp
 obtain⟨a1,a2,a3,a4,a5⟩:=AW (key:=key) (p:=List.toArray (UB n)) (nrem:=n) h1 (by rw[hsz];exact Ql _);generalize Kd (kl key) (kas_count n (List.toArray (UB n)))=d at hr a1 a2 a3 a4 a5;by_cases hlt:d.1<n
 .rw[Qs hlt]at hr
  have hmax:max d.1 1=d.1:=by lia
  rw[hmax]at hr;obtain⟨b1,b2,b3⟩:=Ma (key:=key) (n-d.1) d.2 d.1 (by lia) a3;rw[hr];exact⟨b1.trans a1,by lia,by rw[show d.1+(n-d.1)=n by lia]at b3;exact b3⟩
 .rw[QE hlt]at hr
  unfold Kd at hr;rw[hr];exact⟨a1,by lia,by rw[show d.1=n by lia]at a3;exact a3⟩
noncomputable def Asks{α:Type}(N:Nat)(R:α->Prop):KasT α->Prop
 |.ret a=>R a
 |.ask i j k=>i<N/\j<N/\∀b,Asks N R (k b)
theorem Asks.bind{α β:Type}{N:Nat}{R:α->Prop}{S:β->Prop}{f:α->KasT β}(hf:∀a,R a->Asks N S (f a)):∀{t:KasT α},Asks N R t->Asks N S (t.bind f)
 |.ret a,h=>hf a h
 |.ask _ _ k,⟨h1,h2,h3⟩=>⟨h1,h2,λb=>Asks.bind hf (h3 b)⟩
theorem N9{α:Type}{lt:Nat->Nat->Bool}{cmp:Nat->Nat->(Bool->Us->Prop)->Us->Prop}{s:Us}{N:Nat}{R:α->Prop}(hc:∀i j C,i<N->j<N->C (lt i j) s->cmp i j C s):∀(t:KasT α)(Q:α->Us->Prop),Asks N R t->Q (Kd lt t) s->t.kasWp cmp Q s
 |.ret _,_,_,h=>h
 |.ask i j k,Q,⟨h1,h2,h3⟩,h=>hc i j _ h1 h2 (N9 hc (k (lt i j)) Q (h3 _) h)
def bnd(N:Nat)(p:Array Nat):Prop:=∀i,p.getD i 0<N
theorem Ti{N:Nat}{p q:Array Nat}(hN:0<N)(h:bnd N p)(e:q.Perm p):bnd N q:=λi=>by
 rw[Jb];cases z:q[i]? with
 |none=>exact hN
 |some v=>have hm:v∈q:=Array.mem_of_getElem? z;have hm2:v∈p:=e.mem_iff.mp hm;obtain⟨j,hj,e2⟩:=Array.mem_iff_getElem.mp hm2;have:=h j;rw[Jb,JT hj,e2]at this;exact this
section
variable{N:Nat}(hN:0<N)
include hN
theorem PB{p:Array Nat}(h:bnd N p):∀(f n:Nat),Asks N (λ_=>True) (kas_asc p f n)
 |0,_=>trivial
 |f+1,n=>⟨h _,h _,λb=>by
  cases b with
  |true=>(try dsimp only);rw[if_pos jP];trivial
  |false=>(try dsimp only);rw[if_neg (by decide)];exact PB h f (n+1)⟩
theorem Rq:∀(f:Nat)(p:Array Nat)(n q:Nat),bnd N p->Asks N (λr=>bnd N r.1) (kas_desc f p n q)
 |0,p,_,_,h=>h
 |f+1,p,n,q,h=>⟨h _,h _,λb=>by
  cases b with
  |true=>
   dsimp only;rw[Qs jP];split
   .exact Rq f _ _ _ (Ti hN h We)
   .exact Rq f _ _ _ h
  |false=>
   dsimp only;rw[QE (by decide)];refine⟨h _,h _,λb=>?_⟩;cases b with
   |true=>(try dsimp only);rw[if_pos jP];exact h
   |false=>(try dsimp only);rw[if_neg (by decide)];exact Rq f _ _ _ h⟩
theorem Lp{p:Array Nat}{n nrem:Nat}(h:bnd N p):Asks N (λr=>bnd N r.2) (kas_tail3 n nrem p):=
 Asks.bind (N:=N) (R:=λ_=>True) (S:=λr:Nat×Array Nat=>bnd N r.2) (f:=λm=>.ret (m,kas_rev p 0 n)) (λ_ _=>Ti (p:=p) (q:=kas_rev p 0 n) hN h We) (PB hN (Ti hN h We) _ _)
theorem L5{p:Array Nat}{n nrem:Nat}(h:bnd N p):Asks N (λr=>bnd N r.2) (kas_descPart n nrem p):=
 Asks.bind (λr hr=>by
  split
  .exact Lp hN (Ti hN hr We)
  .exact Lp hN hr) (Rq hN _ _ _ _ h)
theorem AV{p:Array Nat}{nrem:Nat}(h:bnd N p):Asks N (λr=>bnd N r.2) (kas_count nrem p):=
 Asks.bind (R:=λ_=>True) (λn _=>by
  split
  .exact h
  .split
   .refine⟨h _,h _,λb=>?_⟩
    cases b with
    |true=>(try dsimp only);rw[if_pos jP];exact h
    |false=>(try dsimp only);rw[if_neg (by decide)];exact L5 hN (Ti hN h We)
   .exact L5 hN h) (PB hN h _ _)
theorem PY{p:Array Nat}(h:bnd N p)(k:Nat):∀(f l r:Nat),Asks N (λ_=>True) (kas_place p k f l r)
 |0,_,_=>trivial
 |f+1,l,r=>by
  unfold kas_place;split
  .trivial
  .refine⟨h _,h _,λb=>?_⟩
   cases b with
   |true=>(try dsimp only);rw[if_pos jP];exact PY h k f _ _
   |false=>(try dsimp only);rw[if_neg (by decide)];exact PY h k f _ _
theorem N8:∀(f:Nat)(p:Array Nat)(k:Nat),bnd N p->Asks N (λ_=>True) (kas_bin f p k)
 |0,_,_,_=>trivial
 |f+1,p,k,h=>Asks.bind (R:=λ_=>True) (λl _=>N8 f _ _ (Ti hN h (bubble_perm _ _ _))) (PY hN h k _ _ _)
end
theorem AF{n:Nat}(hn:0<n):Asks n (λ_=>True) (kas_sort n):=by
 have hb:bnd n (List.toArray (UB n)):=λi=>by
  rw[Jb];by_cases hi:i<n
  .simp[hi]
  .simp[hi,hn]
 refine Asks.bind (λr hr=>?_) (AV hn hb);split
 .exact N8 hn _ _ _ hr
 .trivial
end
noncomputable def Ko(q:Int×Int):Int:=q.1*10000000+q.2
def okP(q:Int×Int):Prop:=-1000000<=q.2/\q.2<=1000000
theorem EF{x y:Int×Int}(hx:okP x)(hy:okP y):Ko x<Ko y ↔ (x.1<y.1∨x.1=y.1/\x.2<y.2):=by
 unfold Ko okP at *
 lia
theorem BA{x y:Int×Int}(hx:okP x)(hy:okP y)(h:Ko x=Ko y):x=y:=by
 unfold Ko okP at *;have h1:x.1=y.1:=by lia
 have h2:x.2=y.2:=by lia
 exact Prod.ext h1 h2
section
variable{prog:Ut}{w:World}{A:Around}{E:Ur->Us->Prop}{s:Us}
def SI(h:Heap)(v:Ur)(q:Int×Int):Prop:=∃a t u o n,v=.ref a/\h.get? a=O o/\o.cls=.type "tuple" /\ o.data=.seq #[.int q.1 t,.int q.2 u] n
theorem EE{x y:Ur}{p q:Int×Int}{Q:Bool->Us->Prop}(hx:SI s.heap x p)(hy:SI s.heap y q)(h:Q (decide (p.1<q.1∨p.1=q.1/\p.2<q.2)) s):Uy (model prog w) A (keyLt' (tuples' jR) x y) Q E s:=by
 obtain⟨a,t,u,o,n,rfl,e1,c1,d1⟩:=hx;obtain⟨b,t',u',o',n',rfl,e2,c2,d2⟩:=hy;refine kat_lt e1 d1 e2 d2 ?_;show KatLex prog w A jR _ Q [(Value.int p.1 t,Value.int q.1 t'),(Value.int p.2 u,Value.int q.2 u')] 0 s;refine kat_cons (wpAny_eqBool_int ?_);by_cases h1:p.1=q.1
 .have e:(p.1==q.1)=jR:=by simpa using h1
  rw[e];refine kat_yes (kat_cons (wpAny_eqBool_int ?_));by_cases h2:p.2=q.2
  .have e:(p.2==q.2)=jR:=by simpa using h2
   rw[e];refine kat_yes (kat_nil ?_);have:decide (p.1<q.1∨p.1=q.1/\p.2<q.2)=jS:=Qt (by lia);rw[this]at h;exact h
  .have e:(p.2==q.2)=jS:=by simpa using h2
   rw[e];refine kat_no (kat_one _ _ (PyProof.Rows.lt_int ?_))
   have:decide (p.1<q.1∨p.1=q.1/\p.2<q.2)=decide (p.2<q.2):=by
    by_cases z:p.2<q.2
    .rw[Qw z,Qw (.inr ⟨h1,z⟩)]
    .rw[Qt z,Qt (by lia)]
   rw[this]at h;exact h
 .have e:(p.1==q.1)=jS:=by simpa using h1
  rw[e];refine kat_no (oneLt_int ?_)
  have:decide (p.1<q.1∨p.1=q.1/\p.2<q.2)=decide (p.1<q.1):=by
   by_cases z:p.1<q.1
   .rw[Qw z,Qw (.inl z)]
   .rw[Qt z,Qt (by lia)]
  rw[this]at h;exact h
noncomputable def Yn(h:Heap):jV->LP->Prop
 |[],[]=>True
 |v::vs,q::qs=>SI h v q/\Yn h vs qs
 |_,_=>False
theorem Yn.get{h:Heap}:∀{vs:jV}{qs:LP},Yn h vs qs->vs.length=qs.length/\∀(i:Nat)(hi:i<vs.length),SI h (vs.getD i .none) (qs.getD i (0,0))
 |[],[],_=>⟨rfl,λi hi=>absurd hi (Nat.not_lt_zero _)⟩
 |v::vs,q::qs,⟨h1,h2⟩=>by
  obtain⟨e,f⟩:=Yn.get h2;refine⟨by simp[e],λi hi=>?_⟩;cases i with
  |zero=>exact h1
  |succ i=>exact f i (by simpa using hi)
theorem Yn.tups{h:Heap}:∀{vs:jV}{qs:LP},Yn h vs qs->∃fs:jV,KatTups h vs fs/\fs.length=vs.length/\∀v∈fs,∃i t,v=.int i t
 |[],[],_=>⟨[],trivial,rfl,λ_ h=>by cases h⟩
 |v::vs,q::qs,⟨hp,h2⟩=>by
  obtain⟨a,t,u,o,n,rfl,e1,c1,d1⟩:=hp;obtain⟨fs,f1,f2,f3⟩:=Yn.tups h2;refine⟨.int q.1 t::fs,.cons e1 c1 d1 jP f1,by simp[f2],λv hv=>?_⟩;rcases Qu.mp hv with rfl|hv
  .exact⟨_,_,rfl⟩
  .exact f3 v hv
theorem Yn.mono{h h':Heap}(k:∀b o,h.get? b=O o->h'.get? b=O o):∀{vs:jV}{qs:LP},Yn h vs qs->Yn h' vs qs
 |[],[],_=>trivial
 |v::vs,q::qs,⟨hp,h2⟩=>by obtain⟨a,t,u,o,n,rfl,e1,c1,d1⟩:=hp;exact⟨⟨a,t,u,o,n,rfl,k _ _ e1,c1,d1⟩,Yn.mono k h2⟩
def SG(qs:LP)(π:j9):Prop:=π.Perm (UB qs.length)/\(π.map λi=>qs.getD i (0,0)).Pairwise λx y=>Ko x<=Ko y
theorem jM{a:Uu}{vs:jV}{qs:LP}{n:Nat}{P:Fin->Us->Prop}(ho:s.heap.get? a=O (seqObj "list" vs.toArray n))
  (hp:Yn ((s.heap.update a (Obj.mapSeq λ_=>#[]))) vs qs) (hq:∀q∈qs,okP q) (h64:vs.length<64)
  (h:∀π:j9,SG qs π->P (.done (.ret .none)) {s with heap:=sortedHeap s.heap a vs (List.toArray (π.map λi=>vs.getD i .none))}) :
  Uy (model prog w) A (Builtin.«list.sort» ⟨[.ref a],[]⟩) P E s:=by
 obtain⟨hl,hget⟩:=hp.get;rw[list_sort_plain];have ha:a<s.heap.objs.size:=Qf ho;refine Qb (listItems_at ho jP ?_);refine Qb (listUpdate_at ho jP ?_);obtain⟨e1,ho1⟩:∃e1,(s.heap.update a (Obj.mapSeq λ_=>#[])).get? a=O (seqObj "list" #[] e1):=⟨_,get?_update_seq ho (λ_=>#[])⟩
 refine Qb (seqEpoch_at ho1 jP ?_);refine Qb (wpAny_newTuple ?_);refine Qb (wpAny_newList ?_);refine JD ?_;have ho6:(((s.heap.update a (Obj.mapSeq λ_=>#[])).push (seqObj "tuple" vs.toArray 0)).push (seqObj "list" #[] 0)).get? a=O (seqObj "list" #[] e1):=by rw[Heap.get?_push_ne _ _ _ (by rw[size_push',Heap.size_update];exact QI (Nat.lt_succ_of_lt ha)),Heap.get?_push_ne _ _ _ (by rw[Heap.size_update];exact QI ha)];exact ho1
 have hp6:Yn (((s.heap.update a (Obj.mapSeq λ_=>#[])).push (seqObj "tuple" vs.toArray 0)).push (seqObj "list" #[] 0)) vs qs:=hp.mono λb o e=>Qe _ (Qe _ e)
 show Uy (model prog w) A _ P E {s with heap:=((s.heap.update a (Obj.mapSeq λ_=>#[])).push (seqObj "tuple" vs.toArray 0)).push (seqObj "list" #[] 0)};dsimp only;have hsz:vs.toArray.size=vs.length:=by simp
 by_cases h2:vs.toArray.size<2
 .rw[Qs h2,Qs h2]
  refine Qb (Qg ?_);rw[StateT.run_pure];refine Qb (Qg ?_);dsimp only;refine Qb (seqEpoch_at ho6 jP ?_);refine Qb (listUpdate_at ho6 jP ?_ (hsz2:=by rw[Array.size_map];show(pairsOf vs).size<=_;rw[pairsOf_size,JN];lia));simp only[bne_self_eq_false,JH,Um]
  have hid:(arrOf (SortSt.mk' general' (vs.toArray.zip vs.toArray) #[] 7 jQ)).map (·.2)=List.toArray ((UB vs.length).map λi=>vs.getD i .none):=by
   show(vs.toArray.zip vs.toArray).map (·.2)=_
   apply Array.toList_inj.mp;apply List.ext_getElem?;intro i;simp only[Array.toList_map,Array.toList_zip,Qi,List.getElem?_zip_eq_some];by_cases hi:i<vs.length
   .simp[List.getElem?_zip_eq_some,hi,List.getElem?_range]
   .simp[hi]
  rw[hid];refine Qg (h (UB vs.length) ⟨by rw[hl],?_⟩);rw[J9];rw[hsz]at h2
  rcases(show vs.length=0∨vs.length=1 by lia)with z|z<;>rw[z]
  .exact .nil
  .exact List.pairwise_singleton _ _
 .rw[QE h2,QE h2]
  rw[hsz]at h2;obtain⟨fs,f1,f2,f3⟩:=hp6.tups;refine Qb (kat_kind (T:=.type "int") f1 (by lia) (λv hv=>by obtain⟨i,t,rfl⟩:=f3 v hv;exact(show Looks _ _ (pure (Value.type "int")) _ from .now)) jP ?_)
  refine Qb (QF (kat_run (ks:=vs) (G:=λp s'=>s' = {s with heap:=((s.heap.update a (Obj.mapSeq λ_=>#[])).push (seqObj "tuple" vs.toArray 0)).push (seqObj "list" #[] 0)}/\p=Kd (kl λi=>Ko (qs.getD i (0,0))) (kas_sort vs.length))
   (Q:=λst' s'=>s' = {s with heap:=((s.heap.update a (Obj.mapSeq λ_=>#[])).push (seqObj "tuple" vs.toArray 0)).push (seqObj "list" #[] 0)}/\failedOf st'=jQ/\arrOf st'=(Kd (kl λi=>Ko (qs.getD i (0,0))) (kas_sort vs.length)).map (kas_item (vs.toArray.zip vs.toArray)))
   rfl (by lia) h64 (λp st' s' a1 a2 a3 a4=>⟨a4.1,a3,by rw[a2,a4.2]⟩) ?_) ?_ λ_ _ e=>e)
  .refine N9 (N:=vs.length) (R:=λ_=>True) (lt:=kl λi=>Ko (qs.getD i (0,0))) (λi j C hi hj hC=>?_) _ _ (AF (by lia)) ⟨rfl,rfl⟩
   refine EE (Yn.get hp6 |>.2 i hi) (Yn.get hp6 |>.2 j hj) ?_;have oi:okP (qs.getD i (0,0)):=hq _ (by rw[JC,Qh (by lia)];exact JJ _);have oj:okP (qs.getD j (0,0)):=hq _ (by rw[JC,Qh (by lia)];exact JJ _);have e:decide ((qs.getD i (0,0)).1<(qs.getD j (0,0)).1∨(qs.getD i (0,0)).1=(qs.getD j (0,0)).1/\(qs.getD i (0,0)).2<(qs.getD j (0,0)).2)=kl (λi=>Ko (qs.getD i (0,0))) i j:=by unfold kl;exact decide_eq_decide.mpr (EF oi oj).symm
   rw[e];exact hC
  .rintro⟨⟨⟩,st'⟩ s' ⟨rfl,hf,har⟩
   dsimp only;obtain⟨b1,b2,b3⟩:=AG (key:=λi=>Ko (qs.getD i (0,0))) (n:=vs.length) (by lia);generalize Kd (kl λi=>Ko (qs.getD i (0,0))) (kas_sort vs.length)=p at har b1 b2 b3;have hout:=kat_snds (ks:=vs) (vs:=vs) jP har;have hsz2:((arrOf st').map (·.2)).size=vs.length:=by rw[hout,QQ,Qd,Uc,b2]
   refine Qb (seqEpoch_at ho6 jP ?_);refine Qb (listUpdate_at ho6 jP ?_ (hsz2:=by rw[hsz2,JN];lia));rw[hf];simp only[bne_self_eq_false,JH,Um];rw[hout];refine Qg (h p.toList ⟨?_,?_⟩)
   .have:=Array.perm_iff_toList_perm.mp b1
    rw[←hl];exact this
   .rw[J9,List.pairwise_iff_getElem]
    intro i j hi hj hij;rw[Uc,b2]at hi hj;have:=b3 i j (by lia) hj;unfold KA at this;rw[Jb,Jb,JT (by lia),JT (by lia)]at this;simpa using this
end
section
variable{prog:Ut}{w:World}{A:Around}{E:Ur->Us->Prop}{s:Us}
theorem jw{l:Uu}{vs:jV}{qs:LP}{Q:Ur->Us->Prop}(hl:s.heap.IsList l vs.toArray)(hp:Yn s.heap vs qs)(hq:∀q∈qs,okP q)(h64:vs.length<64)
  (h:∀π:j9,SG qs π->Q (.ref (s.heap.objs.size+1)) {s with heap:=sortedAll s.heap vs (List.toArray (π.map λi=>vs.getD i .none))}) :
  Uy (model prog w) A (call (.builtin "sorted") [.ref l]) Q E s:=by
 refine Calls.call_function_entry kind_sorted plain_sorted entry_sorted (args_sorted1 _) ?_;unfold Builtin.«sorted»;refine Qb (m:=checkCount "sorted" 1 1 _) (Qg ?_);refine Qb (collect_list hl ?_);refine Qb (wpAny_newList ?_);have hsz:((s.heap.push (seqObj "list" #[] 0)).update s.heap.objs.size (Obj.mapSeq (· ++ vs.toArray))).objs.size=s.heap.objs.size+1:=by rw[Heap.size_update,size_push']
 have xZ:(((s.heap.push (seqObj "list" #[] 0)).update s.heap.objs.size (Obj.mapSeq (· ++ vs.toArray))).push (seqObj "list" vs.toArray 0)).get? (s.heap.objs.size+1)=O (seqObj "list" vs.toArray 0):=by rw[←hsz];exact Qn _ jP
 show Uy _ _ _ _ _ {s with heap:=((s.heap.push (seqObj "list" #[] 0)).update s.heap.objs.size (Obj.mapSeq (· ++ vs.toArray))).push (seqObj "list" vs.toArray 0)};rw[hsz];refine Qb (JD (Js slot_list_sort ⟨_,xZ,rfl⟩ entry_list_sort (jM (qs:=qs) xZ (hp.mono λb o e=>?_) hq h64 λπ a1=>⟨_,rfl,?_⟩) (args_list_sort _)))
 .have hlt:b<s.heap.objs.size:=Qf e
  dsimp only;have vb:(b:Nat)<s.heap.objs.size:=hlt;rw[Heap.get?_update_ne _ _ _ _ (QI (Nat.lt_succ_of_lt vb)),Heap.get?_push_ne _ _ _ (by rw[hsz];exact QI (Nat.lt_succ_of_lt vb)),Heap.get?_update_ne _ _ _ _ (QI hlt),Heap.get?_push_ne _ _ _ (QI hlt)];exact e
 .exact Qg ⟨_,rfl,h π a1⟩
end
end DL
namespace DL
open PySem PySem.Spec L2
open PyProof.Rows hiding St
section
variable{X:Cx}
theorem N7{pins:List (Uu×Obj)}{s:Us}{σ:St}{H:Hp}(I:Inv X pins σ H s):∀{as:j4}{us:jV}{qs:LP},Vals (as.map V.ref) us->as.length=qs.length->(∀(i:Nat) a q,as[i]?=O a->qs[i]?=O q->SqT X.K H a [.int q.1,.int q.2])->Yn s.heap us qs
 |[],_,[],.nil,_,_=>trivial
 |a::as,_,q::qs,.cons r t,hl,h=>by refine⟨?_,N7 I t (by simpa using hl) λi a q h1 h2=>h (i+1) a q (by simpa using h1) (by simpa using h2)⟩;cases r;obtain⟨its,rv,⟨o,e,c,n,d⟩,_⟩:=I.tuple (h 0 a q jP jP);obtain⟨u,v,rfl,r1,r2⟩:=rv.two;obtain⟨t1,rfl⟩:=r1;obtain⟨t2,rfl⟩:=r2;exact⟨a,t1,t2,o,n,rfl,e,c,by simpa using d⟩
theorem M5{as:j4}{us:jV}(r:Vals (as.map V.ref) us):∀(π:j9),(∀i∈π,i<as.length)->Vals (π.map λi=>V.ref (as.getD i 0)) (π.map λi=>us.getD i .none)
 |[],_=>.nil
 |i::π,h=>by
  refine .cons ?_ (M5 r π λj hj=>h j (Qp _ hj));have hi:=h i Qo;have e:(as.map V.ref)[i]?=O (.ref (as.getD i 0)):=by rw[List.getElem?_map,List.getElem?_eq_getElem hi];simp[List.getD,List.getElem?_eq_getElem hi]
  obtain⟨u,e2,ru⟩:=r.get e;simp only[List.getD,e2,JZ];exact ru
theorem AU:ZW X (.builtin "sorted") (λxs H Q=>∃l,∃as:j4,∃qs:LP,xs=[.ref l]/\SqL X.K H l (as.map V.ref)/\as.length=qs.length/\(∀(i:Nat) a q,as[i]?=O a->qs[i]?=O q->SqT X.K H a [.int q.1,.int q.2])/\(∀q∈qs,okP q)/\qs.length<64 /\
  ∀π p,SG qs π->H p=jQ->Q (.ref p) (upd H p (.lst (π.map λi=>V.ref (as.getD i 0))))):=by
 intro pins s σ H xs us Q I rx h;obtain⟨l,as,qs,rfl,hq,hl,ht,ho,hb,q⟩:=h;obtain⟨u,rfl,ru⟩:=rx.one;cases ru;obtain⟨its,rv,p,hz⟩:=I.list hq;have hn:its.length=qs.length:=by have:=rv.length;rw[Qd]at this;lia
 refine jw (qs:=qs) p.isList (N7 I rv hl ht) ho (by lia) λπ hπ=>?_
 obtain⟨e,he⟩:=sortedAll_at s.heap its (List.toArray (π.map λi=>its.getD i .none))
 have hπl:∀i∈π,i<as.length:=λi hi=>by
  have:=hπ.1.mem_iff.mp hi;rw[Jm]at this
  lia
 refine⟨.ref (s.heap.objs.size+1),_,I.laid (t':=s.toks) (λb o=>sortedAll_old) (JL _) (show Zy X.prog X.w _ _ _ (.lst (π.map λi=>V.ref (as.getD i 0)))from⟨?_,_,e,M5 rv π hπl,he⟩),rfl,q π _ hπ (I.hok.fresh (JL _))⟩;rw[Qd,hπ.1.length_eq,J8];rw[Qd]at hz
 lia
noncomputable def SH:D->Option (Int×Int)
 |.tuple [.int a,.int b]=>O (a,b)
 |_=>jQ
noncomputable def WR:jT->Option LP
 |[]=>O []
 |d::r=>(SH d).bind λq=>(WR r).map (q :: ·)
noncomputable def KJ(q:Int×Int):D:=.tuple [.int q.1,.int q.2]
theorem AE{d:D}{q:Int×Int}(h:SH d=O q):d=KJ q:=by
 unfold SH at h;split at h
 .cases h;rfl
 .cases h
theorem LQ:∀{ds:jT}{qs:LP},WR ds=O qs->ds=qs.map KJ
 |[],qs,h=>by cases h;rfl
 |d::r,qs,h=>by
  unfold WR at h;cases z:SH d with
  |none=>rw[z]at h;cases h
  |some q=>
   rw[z]at h;cases z2:WR r with
   |none=>rw[z2]at h;cases h
   |some qs'=>rw[z2]at h;cases h;rw[AE z,LQ z2];rfl
theorem LB:∀qs:LP,WR (qs.map KJ)=O qs
 |[]=>rfl
 |q::r=>by rw[QA,WR,LB r];rfl
noncomputable def X3(qs:LP):LP:=qs.mergeSort λx y=>decide (Ko x<=Ko y)
theorem Lo(qs:LP):(X3 qs).Perm qs:=List.mergeSort_perm ..
theorem M4(qs:LP):(X3 qs).Pairwise λx y=>Ko x<=Ko y:=by have:=List.pairwise_mergeSort (le:=λx y:Int×Int=>decide (Ko x<=Ko y)) (by intro a b c;simp;lia) (by intro a b;simp;lia) qs;exact this.imp (by simp)
theorem Pr:∀{a b:LP},(∀x∈a,okP x)->a.Perm b->a.Pairwise (λx y=>Ko x<=Ko y)->b.Pairwise (λx y=>Ko x<=Ko y)->a=b
 |[],b,_,p,_,_=>by rw[List.nil_perm.1 p]
 |x::a,[],_,p,_,_=>by have:=p.length_eq;simp at this
 |x::a,y::b,ok,p,ha,hb=>by
  have hx:Ko y<=Ko x:=by
   rcases Qu.1 (p.mem_iff.1 (Qo ..))with e|e
   .rw[e];exact JP _
   .exact(Q9.1 hb).1 x e
  have hy:Ko x<=Ko y:=by
   rcases Qu.1 (p.mem_iff.2 (Qo ..))with e|e
   .rw[e];exact JP _
   .exact(Q9.1 ha).1 y e
  have oky:okP y:=ok y (p.mem_iff.2 (Qo ..));have e:=BA (ok x (Qo ..)) oky (Int.le_antisymm hy hx);subst e;rw[Pr (λz hz=>ok z (Qp _ hz)) (List.Perm.cons_inv p) (Q9.1 ha).2 (Q9.1 hb).2]
theorem Bz{qs:LP}{π:j9}(ok:∀q∈qs,okP q)(h:SG qs π):(π.map λi=>qs.getD i (0,0))=X3 qs:=by
 have hp:(π.map λi=>qs.getD i (0,0)).Perm qs:=by
  have h1:=h.1.map λi=>qs.getD i (0,0)
  have e:(UB qs.length).map (λi=>qs.getD i (0,0))=qs:=by
   apply List.ext_getElem?;intro i;rw[Qi];by_cases hi:i<qs.length
   .rw[List.getElem?_range hi,List.getElem?_eq_getElem hi];simp[List.getD,List.getElem?_eq_getElem hi]
   .rw[JS (by rw[J8];lia),JS (by lia)];rfl
  rw[e]at h1;exact h1
 exact Pr (λx hx=>ok x (hp.mem_iff.mp hx)) (hp.trans (Lo qs).symm) h.2 (M4 qs)
noncomputable def okPB(q:Int×Int):Bool:=decide (-1000000<=q.2/\q.2<=1000000)
noncomputable def T3:jT->jY
 |[.list ds]=>(match WR ds with
  |some qs=>if qs.length<64/\qs.all okPB=jR then O (.list ((X3 qs).map KJ))else jQ
  |none=>jQ)
 |_=>jQ
theorem AT{xs:jT}{d:D}(h:T3 xs=O d):∃qs:LP,xs=[.list (qs.map KJ)]/\qs.length<64/\(∀q∈qs,okP q)/\d=.list ((X3 qs).map KJ):=by
 unfold T3 at h;split at h
 .rename_i ds
  cases z:WR ds with
  |none=>rw[z]at h;cases h
  |some qs=>
   rw[z]at h;dsimp only at h;split at h
   .rename_i c
    cases h;exact⟨qs,by rw[LQ z],c.1,λq hq=>(show -1000000<=q.2/\q.2<=1000000 from Qa (QM.mp c.2 q hq)),rfl⟩
   .cases h
 .cases h
theorem M0{K:Frag}{G:Hp}:∀{vs:List V}{qs:LP},Reps K G vs (qs.map KJ)->∃as:j4,vs=as.map V.ref/\as.length=qs.length/\∀(i:Nat) a q,as[i]?=O a->qs[i]?=O q->SqT K G a [.int q.1,.int q.2]
 |_,[],.nil=>⟨[],rfl,rfl,λi a q h=>by simp at h⟩
 |_,q::qs,.cons r t=>by
  obtain⟨as,rfl,hl,h⟩:=M0 t;obtain⟨a,ws,rfl,h1,r1⟩:=r.tup_inv;cases r1 with
  |cons ra rb=>
   obtain⟨v,rfl,rb'⟩:=rb.one_inv;refine⟨a::as,rfl,by simp[hl],λi a' q' e1 e2=>?_⟩;cases i with
   |zero=>cases e1;cases e2;rw[ra.int_inv,rb'.int_inv]at h1;exact h1
   |succ i=>exact h i a' q' (by simpa using e1) (by simpa using e2)
theorem By{K:Frag}{G:Hp}{a:Uu}{q:Int×Int}(h:SqT K G a [.int q.1,.int q.2]):Rep K G (.ref a) (KJ q):=.tup h (.cons (.int _) (.cons (.int _) .nil))
theorem MZ{K:Frag}{G:Hp}{as:j4}{qs:LP}(hl:as.length=qs.length)(h:∀(i:Nat) a q,as[i]?=O a->qs[i]?=O q->SqT K G a [.int q.1,.int q.2]):∀π:j9,(∀i∈π,i<qs.length)->Reps K G (π.map λi=>V.ref (as.getD i 0)) ((π.map λi=>qs.getD i (0,0)).map KJ)
 |[],_=>.nil
 |i::π,hb=>by
  refine .cons ?_ (MZ hl h π λj hj=>hb j (Qp _ hj));have hi:=hb i Qo;refine By (h i _ _ ?_ ?_)
  .rw[List.getElem?_eq_getElem (by lia)];simp[List.getD,List.getElem?_eq_getElem (show i<as.length by lia)]
  .rw[List.getElem?_eq_getElem hi];simp[List.getD,List.getElem?_eq_getElem hi]
theorem ED:Yl X (.builtin "sorted") T3:=by refine⟨_,AU,λvs G H ds d Q s r e k=>?_⟩;obtain⟨qs,rfl,h64,ok,rfl⟩:=AT e;obtain⟨v,rfl,q1⟩:=r.one_inv;obtain⟨l,ws,rfl,h1,r1⟩:=q1.lst_inv;obtain⟨as,rfl,hl,ht⟩:=M0 r1;refine⟨l,as,qs,rfl,s.seq h1,hl,λi a q e1 e2=>ZR s (ht i a q e1 e2),ok,h64,λπ p hπ hp=>?_⟩;have hb:∀i∈π,i<qs.length:=λi hi=>Jm.mp (hπ.1.mem_iff.mp hi);have rr:=(MZ hl ht π hb).mono (Zk (s.free hp):Same G (upd G p (.lst (π.map λi=>V.ref (as.getD i 0)))));rw[Bz ok hπ]at rr;exact k _ _ _ (Ext.new s hp) (.lst (SqL.of KO) rr)
theorem Yl.or{f:Ur}{p q:jT->jY}(h1:Yl X f p)(h2:Yl X f q):Yl X f (λxs=>(p xs).orElse λ_=>q xs):=by
 obtain⟨r1,c1,k1⟩:=h1;obtain⟨r2,c2,k2⟩:=h2;refine⟨λxs H Q=>r1 xs H Q∨r2 xs H Q,λpins s σ H xs us Q I rx h=>?_,λvs G H ds d Q s r e k=>?_⟩
 .rcases h with h|h
  .exact c1 pins s σ H xs us Q I rx h
  .exact c2 pins s σ H xs us Q I rx h
 .dsimp only at e
  cases z:p ds with
  |some d'=>rw[z]at e;cases e;exact .inl (k1 vs G H ds _ Q s r z k)
  |none=>rw[z]at e;exact .inr (k2 vs G H ds _ Q s r e k)
noncomputable def V5(xs:jT):jY:=(W7 xs).orElse λ_=>T3 xs
theorem GH:Yl X (.builtin "sorted") V5:=EH.or ED
theorem AS{ns:jU}(h:ns.length<64):V5 [.list (ns.map .int)]=O (.list ((Xb ns).map .int)):=by unfold V5;rw[Aj h];rfl
theorem AD{qs:LP}(h:qs.length<64)(ok:∀q∈qs,okP q):V5 [.list (qs.map KJ)]=O (.list ((X3 qs).map KJ)):=by
 cases qs with
 |nil=>
  have e1:X3 []=[]:=by unfold X3;simp
  have e2:Xb []=[]:=by unfold Xb;simp
  have:=AS (ns:=[]) (by decide);rw[e2]at this;rw[e1];exact this
 |cons q r=>have e1:W7 [.list ((q::r).map KJ)]=jQ:=rfl;unfold V5;rw[e1,Option.orElse];unfold T3;dsimp only;rw[LB];exact Qs ⟨h,QM.mpr λq hq=>Qw (show -1000000<=q.2/\q.2<=1000000 from ok q hq)⟩
end
section
variable{X:Cx}
theorem AR:bootBuiltins "repr" = O (.builtin "repr"):=by decide +kernel
end
section
variable{X:Cx}{B G0:Hp}{e o a b c tg:Uw}{pos p2:Pos}{es rest:jX}{te to ti:TE}
noncomputable def V4{β:Type}(p:D->D->Option β)(f:M D)(j:Nat):M β:=U5 f λx=>λZ=>match Z[j]? with
 |some (O (.pub d))=>U2 (p x d) Z
 |some (O (.own ds))=>U2 (p x (.list ds)) Z
 |_=>.bad
theorem Hw{K:Frag}{σ:St}{H:Hp}{p:D->D->j8}{r:R2}{j:Nat}{f:M D}{Q:Bool->Hp->Prop}{QV:VK}(hq:∀t H3,Q t H3->QV (.bl t) H3)
  (hr:∀v u G H x y d Q,Same G H->Rep K G v x->Rep K G u y->p x y=O d->Q (.bl d) H->r v u H Q)
  (q:tBo K B G0 (V4 p f j) σ H Q):tD K B G0 f σ H λx H1=>KL j σ H1 λy H2=>r x y H2 QV:=by
 refine tM.one (R:=Rep K) q λv H2 G Z x k rx a=>?_
 cases z:Z[j]? with
 |none=>rw[z]at a;exact a.elim
 |some o=>
  cases o with
  |none=>rw[z]at a;exact a.elim
  |some sl=>
   cases sl with
   |deep _ _=>rw[z]at a;exact a.elim
   |pub d=>rw[z]at a;dsimp only at a;obtain⟨d',e',a'⟩:=aft.opt a;obtain⟨u,h1,h2⟩:=k.pub j d z;exact⟨u,h1,hr v u G H2 x d d' _ k.gh rx h2 e' (hq _ _ (a' d' G H2 k (.refl _) jP))⟩
   |own ds=>rw[z]at a;dsimp only at a;obtain⟨d',e',a'⟩:=aft.opt a;obtain⟨ad,vs,h1,h2,h3,h4,h5⟩:=k.own j ds z;exact⟨.ref ad,h1,hr v (.ref ad) H2 H2 x (.list ds) d' _ (.refl _) (rx.mono k.gh) (.lst (SqL.of h4) (h5.mono k.gh)) e' (hq _ _ (a' d' G H2 k (.refl _) jP))⟩
theorem EC{op:CmpOp}{p:D->D->j8}{j:Nat}{f:M D}(o:OpB X (UA op) p)(ha:PE X a (tD X.K B G0 f))(hb:PE X b (KL j))(hm:behindInMarks op b=jS) :
  PT X (.Compare a [op] [b] pos) (tBo X.K B G0 (V4 p f j)):=by
 obtain⟨r,h,i⟩:=o;exact Y1 (R1 h ha hb hm) λσ H Q q=>Hw (λt H3 z=>⟨t,rfl,z⟩) i q
theorem Bx{β:Type}{p:D->D->Option β}{f:M D}{j:Nat}{Z Z1:UR}{x:D}{ds:jT}{r:β}(h1:f Z=.ok x Z1)(h2:Z1[j]?=O (O (.own ds)))(h3:p x (.list ds)=O r):V4 p f j Z=.ok r Z1:=by unfold V4;exact KG h1 (by rw[h2];exact Zx h3)
end
end DL
namespace HT
open PySem PyProof.Rows
end HT
namespace DL
open PySem PySem.Spec L2
open PyProof.Rows hiding St
end DL
namespace DL
open PySem
theorem lz0{P:jV->Prop}{us:jV}(hl:us.length=0)(h:P []):P us:=by
 cases us with
 |nil=>exact h
 |cons a r=>cases hl
theorem lzS{P:jV->Prop}{us:jV}{n:Nat}(hl:us.length=n+1)(h:∀a r,r.length=n->P (a::r)):P us:=by
 cases us with
 |nil=>cases hl
 |cons a r=>exact h a r (Nat.succ.inj hl)
theorem lz1{P:jV->Prop}{us:jV}(hl:us.length=1)(h:∀a,P [a]):P us:=lzS hl λa r e=>lz0 (P:=λr=>P (a::r)) e (h a)
theorem lz2{P:jV->Prop}{us:jV}(hl:us.length=2)(h:∀a b,P [a,b]):P us:=lzS hl λa r e=>lz1 (P:=λr=>P (a::r)) e (h a)
theorem lz3{P:jV->Prop}{us:jV}(hl:us.length=3)(h:∀a b c,P [a,b,c]):P us:=lzS hl λa r e=>lz2 (P:=λr=>P (a::r)) e (h a)
theorem lz4{P:jV->Prop}{us:jV}(hl:us.length=4)(h:∀a b c d,P [a,b,c,d]):P us:=lzS hl λa r e=>lz3 (P:=λr=>P (a::r)) e (h a)
theorem lz5{P:jV->Prop}{us:jV}(hl:us.length=5)(h:∀a b c d e,P [a,b,c,d,e]):P us:=lzS hl λa r e=>lz4 (P:=λr=>P (a::r)) e (h a)
theorem bz1{fd:Uv}{ps:List Str}{us:jV}(hl:us.length=1)(h:∀a,bindArgs fd {pos:=[a]}=pure (ps.zip [a])):bindArgs fd {pos:=us}=pure (ps.zip us):=lz1 (P:=λus=>bindArgs fd {pos:=us}=pure (ps.zip us)) hl h
theorem bz2{fd:Uv}{ps:List Str}{us:jV}(hl:us.length=2)(h:∀a b,bindArgs fd {pos:=[a,b]}=pure (ps.zip [a,b])):bindArgs fd {pos:=us}=pure (ps.zip us):=lz2 (P:=λus=>bindArgs fd {pos:=us}=pure (ps.zip us)) hl h
theorem bz3{fd:Uv}{ps:List Str}{us:jV}(hl:us.length=3)(h:∀a b c,bindArgs fd {pos:=[a,b,c]}=pure (ps.zip [a,b,c])):bindArgs fd {pos:=us}=pure (ps.zip us):=lz3 (P:=λus=>bindArgs fd {pos:=us}=pure (ps.zip us)) hl h
theorem bz4{fd:Uv}{ps:List Str}{us:jV}(hl:us.length=4)(h:∀a b c d,bindArgs fd {pos:=[a,b,c,d]}=pure (ps.zip [a,b,c,d])):bindArgs fd {pos:=us}=pure (ps.zip us):=lz4 (P:=λus=>bindArgs fd {pos:=us}=pure (ps.zip us)) hl h
theorem bz5{fd:Uv}{ps:List Str}{us:jV}(hl:us.length=5)(h:∀a b c d e,bindArgs fd {pos:=[a,b,c,d,e]}=pure (ps.zip [a,b,c,d,e])):bindArgs fd {pos:=us}=pure (ps.zip us):=lz5 (P:=λus=>bindArgs fd {pos:=us}=pure (ps.zip us)) hl h
end DL
namespace DL
open PySem PySem.Spec L2
open PyProof.Rows hiding St
noncomputable def whole(h:Heap):Frag:=(UB h.objs.size).filterMap λa=>(h.get? a).map λo=>(a,o)
theorem MY{g:Uu->Option Obj}{x:Uu}:∀l:j4,(l.filterMap λa=>(g a).map λo=>(a,o)).lookup x=if x∈l then g x else jQ
 |[]=>rfl
 |y::l=>by
  have ih:=MY (g:=g) (x:=x) l;by_cases e:x=y
  .subst e
   rw[Qs Qo];cases z:g x with
   |none=>rw[List.filterMap_cons_none (by rw[z];rfl),ih,z];split<;>rfl
   |some o=>rw[List.filterMap_cons_some (by rw[z];rfl),QS,beq_self_eq_true]
  .have m:(x∈y::l)=(x∈l):=by simp[List.mem_cons,e]
   have b:(x==y)=jS:=by simpa using e
   have ih':(if x∈y::l then g x else jQ)=_:=(by simp only[m];exact ih.symm)
   rw[ih'];cases z:g y with
   |none=>rw[List.filterMap_cons_none (by rw[z];rfl)]
   |some o=>rw[List.filterMap_cons_some (by rw[z];rfl),QS,b]
theorem Yj{h:Heap}{a:Uu}:(whole h).lookup a=h.get? a:=by
 unfold whole;rw[MY];split
 .rfl
 .rename_i n
  cases z:h.get? a with
  |none=>rfl
  |some o=>exact absurd (Jm.mpr (Qf z)) n
theorem Bw(h:Heap):(whole h).In h:=λa o e=>by rw[Yj]at e;exact e
noncomputable def Hv(st:Stmt):Option DefRec:=match st with
 |.FunctionDef name a b _ _ _ sc _ _ pos=>O ⟨name,a,b,sc,pos⟩
 |_=>jQ
noncomputable def Td(st:Stmt):Option Str:=match st with
 |.FunctionDef name _ _ _ _ _ _ _ _ _=>O name
 |_=>jQ
noncomputable def Hu(st:Stmt):Pos:=match st with
 |.FunctionDef _ _ _ _ _ _ _ _ _ pos=>pos
 |_=>⟨0,0,0,0⟩
noncomputable abbrev Ki(p:Ut)(i:Nat):Stmt:=p.main.body.getD i (.Pass ⟨0,0,0,0⟩)
noncomputable def WP(p:Ut)(ix:j9):List DefRec:=ix.filterMap λi=>Hv (Ki p i)
section
variable{p q:Ut}{loose:List Str}{mean:ExcName->jW}{mg mb:Str->jW}{h:Heap}{w:World}
theorem T2{ix:j9}(T:Top q loose mean mg mb h)(e:recsOf q=WP p ix)(i:Nat)(x:Str)(hi:ix.contains i=jR)(hn:Td (Ki p i)=O x):∃f fd,mg x=O (.ref f)/\Fun (whole h) x x (Ki p i) f fd:=by
 cases hs:Ki p i with
 |FunctionDef name a b _ _ _ sc _ _ pos=>
  rw[hs]at hn;cases hn;have hd:(⟨x,a,b,sc,pos⟩:DefRec)∈recsOf q:=by rw[e];exact List.mem_filterMap.mpr ⟨i,by simpa using hi,by rw[hs];rfl⟩
  obtain⟨f,⟨oc,od,dt,osl⟩,pm,cd,doc,h1,h2,h3,h4⟩:=T.fn _ hd;have h3:dt=_:=h3;subst h3;refine⟨f,_,h1,⟨⟨oc,od,.none,doc,pm,_,cd,_,osl,rfl,by rw[Yj];exact h2,?_⟩,?_⟩⟩
  .obtain⟨c,⟨_,_,dc,_⟩,vs,t,rfl,g1,g2,g3⟩:=h4
   have g2:dc=_:=g2;subst g2;unfold PySem.W.codeIn;dsimp only;rw[Yj,g1];dsimp only;have g4:vs.toList[1]?=O (.str x t):=by rw[Array.getElem?_toList];exact g3
   cases hv:vs.toList with
   |nil=>rw[hv]at g4;cases g4
   |cons v0 r=>
    rw[hv]at g4;cases r with
    |nil=>cases g4
    |cons v1 r=>cases g4;exact beq_self_eq_true _
  .unfold PySem.W.keepIn
   dsimp only;rw[Yj,h2]
 |_=>rw[hs]at hn;cases hn
theorem AC{K:Frag}{x qual y:Str}{st:Stmt}{f:Uu}{fd:Uv}(F:Fun K x qual st f fd)
  (hb:∀(kV doc pm:Ur)(an:j7)(cdv ct v:Ur),bindArgs (PySem.W.fnOf x qual (Xi st) (Z6 st) (KY st) .none kV doc pm an cdv ct) ⟨[v],[]⟩=pure [(y,v)]) (s:Us) (v:Ur):BindsTo s fd ⟨[v],[]⟩ [(y,v)]:=by
 obtain⟨oc,od,kV,doc,pm,an,cdv,ct,osl,rfl,lk,hcd⟩:=F.ex;exact .of_eq (hb kV doc pm an cdv ct v)
noncomputable def SE(q:Ut)(loose:List Str)(x:Str):Bool:=
 !startupNames.contains x && !loose.contains x && !((recsOf q).map (·.name)).contains x && !((litsOf q).map (·.1)).contains x && !((clssOf q loose).map (·.name)).contains x
theorem Yh(T:Top q loose mean mg mb h){xs:List Str}(e:xs.all (SE q loose)=jR){x:Str}(hx:x∈xs):mg x=jQ:=by have:=QM.mp e x hx;unfold SE at this;simp only[Qr,Bool.not_eq_true',List.contains_eq_mem,decide_eq_false_iff_not]at this;exact T.free x this.1.1.1.1 this.1.1.1.2 this.1.1.2 this.1.2 this.2
theorem Rp(T:Top q loose mean mg mb h){x:Str}{i:Int}(e:valOf q x=O (.int i)):∃t,mg x=O (.int i t):=by obtain⟨v,h1,h2⟩:=T.const x _ e;have:=h2 h;cases this;exact⟨_,h1⟩
end
noncomputable def scOk(sc:Scope)(N gl:List Str):Bool:=(N.all λx=>match sc.names.lookup x with|some .local=>jR|some .cell=>jR|_=>jS)&&gl.all λx=>match sc.names.lookup x with|some .globalImplicit=>jR|_=>jS
noncomputable def fnB(sc:Scope)(N gl:List Str):Bool:=decide (sc.kind=.function) && !sc.isCoroutine && !sc.isGenerator&&decide N.Nodup&&(sc.names.all λy=>match y.2 with | .free=>jS|_=>jR)&&scOk sc N gl
structure FnNm(sc:Scope)(N gl:List Str):Prop where
 kind:sc.kind=.function
 co:sc.isCoroutine=jS
 gen:sc.isGenerator=jS
 nd:N.Nodup
 nofree:∀y∈sc.names,y.2≠.free
 nm:∀x∈N,sc.names.lookup x=O .local∨sc.names.lookup x=O .cell
 gl:∀x∈gl,sc.names.lookup x=O .globalImplicit
theorem KS{sc:Scope}{N gl:List Str}(H:fnB sc N gl=jR):FnNm sc N gl:=by
 unfold fnB scOk at H;simp only[Qr,Q5,Bool.not_eq_true',QM]at H;obtain⟨⟨⟨⟨⟨h1,h2⟩,h3⟩,h4⟩,h5⟩,h6,h7⟩:=H;refine⟨h1,h2,h3,h4,λy hy e=>?_,λx hx=>?_,λx hx=>?_⟩
 .have:=h5 y hy;rw[e]at this;cases this
 .have:=h6 x hx
  split at this
  .rename_i e;exact .inl e
  .rename_i e;exact .inr e
  .cases this
 .have:=h7 x hx
  split at this
  .rename_i e;exact e
  .cases this
section
variable{sc:Scope}{N gl:List Str}{x:Str}
theorem nq(H:FnNm sc N gl):N.Nodup:=H.nd
theorem fq(H:FnNm sc N gl)(n:Nat):Vf N (N.take n) sc:=⟨H.kind,H.co,H.gen,H.nd,by rw[JG,List.take_eq_take_iff];lia,λx hx=>H.nm x (List.mem_of_mem_take hx),H.nofree⟩
theorem lq(H:FnNm sc N gl)(i:Nat)(h:N[i]?=O x:=by rfl):L2.Loc sc x:=H.nm x (QH h)
theorem gq(H:FnNm sc N gl)(i:Nat)(h:gl[i]?=O x:=by rfl):sc.names.lookup x=O .globalImplicit:=H.gl x (QH h)
theorem pq{X:Cx}{pos:Pos}(H:FnNm X.env.scope X.N gl)(i:Nat)(h:X.N[i]?=O x:=by rfl)(hd:(x==("__debug__" : Str))=jS:=by decide)(hc:(x==("__classdict__" : Str))=jS:=by decide):PE X (.Name x pos) (KL i):=
 OX h ((H.nm x (QH h)).elim .inl λz=>.inr (.inl z)) hd hc
end
theorem Zu{q p:Ut}{loose:List Str}{mean:ExcName->jW}{mg mb:Str->jW}{h:Heap}{ix:j9}(P:Ut)(w:World)(base:Heap){ps:List Str}{k n:Nat}{F:jT->jY}(T:Top q loose mean mg mb h)(e:recsOf q=WP p ix)(i:Nat)(x:Str)(hi:ix.contains i=jR)(hn:Td (Ki p i)=O x)
  (ok:∀{f:Uu}{fd:Uv},Fun (whole h) x x (Ki p i) f fd->FnOk P w (whole h) mg base CX0 k f fd ps (spD (whole h) n F))
  (hb:∀(kV doc pm:Ur)(an:j7)(cdv ct:Ur)(us:jV),us.length=ps.length->bindArgs (PySem.W.fnOf x x (Xi (Ki p i)) (Z6 (Ki p i)) (KY (Ki p i)) .none kV doc pm an cdv ct) ⟨us,[]⟩=pure (ps.zip us)):Def P w (whole h) mg base x k n F:=by
 obtain⟨f,fd,m,FU⟩:=T2 T e i x hi hn;exact Def.mk m FU (FU.binds hb) (ok FU)
section
variable{X:Cx}{B G0:Hp}{e:Uw}{pos:Pos}{es:jX}
theorem pdf{k kk n:Nat}{F:jT->jY}{g:M jT}{x:Str}{p2:Pos}(d:Def X.prog X.w X.K X.mg X.base x k n F)(hr:Room kk X.A)(hg:Gl X x)(ha:PA X (e::es) (tDs X.K B G0 g))(hk:k<=kk:=by decide)(hn:(e::es).length=n:=by rfl)
  (hdb:(x==("__debug__" : Str))=jS:=by decide) (he:Uz (e::es) X.env=(jS,eval e X.env)::Uz es X.env:=by rfl) (hpl:(backTo pos (Uz es X.env)).any (·.1)=jS:=by rfl) :
  PE X (.Call (.Name x p2) (e::es) [] pos) (tD X.K B G0 (U8 n F g)):=Cb d (hr.mono hk) hg ha hn hdb he hpl
end
theorem Ht{q p:Ut}{loose:List Str}{mean:ExcName->jW}{mg mb:Str->jW}{h:Heap}{ix:j9}{P:Ut}{w:World}{k:Nat}{F:jT->jY}{y:Str}{fa:Uu}(T:Top q loose mean mg mb h)(e:recsOf q=WP p ix)(i:Nat)(x:Str)(hi:ix.contains i=jR)(hn:Td (Ki p i)=O x)(vg:mg x=O (.ref fa))
  (hb:∀(kV doc pm:Ur)(an:j7)(cdv ct v:Ur),bindArgs (PySem.W.fnOf x x (Xi (Ki p i)) (Z6 (Ki p i)) (KY (Ki p i)) .none kV doc pm an cdv ct) ⟨[v],[]⟩=pure [(y,v)])
  (ok:∀(base:Heap){f:Uu}{fd:Uv},Fun (whole h) x x (Ki p i) f fd->FnOk P w (whole h) mg base CX0 k f fd [y] (spD (whole h) 1 F)) :
  ∃fd:Uv,(∀(s:Us)(v:Ur),BindsTo s fd ⟨[v],[]⟩ [(y,v)])/\∀base:Heap,FnOk P w (whole h) mg base CX0 k fa fd [y] (spD (whole h) 1 F):=by
 obtain⟨f,fd,m,FU⟩:=T2 T e i x hi hn;cases vg.symm.trans m;exact⟨fd,AC FU hb,λbase=>ok base FU⟩
noncomputable def X2:D->Bool
 |.str x=>decide (x.length<=1000)
 |.int i=>decide (0<=i)&&decide (i<10 ^ 10)
 |.none=>jR
 |_=>jS
noncomputable def X1(nm:Str)(ds:jT):Option jT:=match ZV nm with
 |[]=>(match ds with | [.str _]=>O [] | _=>jQ)
 |f::fs=>if ds.length=(f::fs).length/\ds.all X2=jR then O ds else jQ
noncomputable abbrev exD(nm:Str)(ds:jT):D:=.dict [(.none,.tuple [.str nm,.list ds])]
section
variable{K:Frag}{G H H':Hp}{nm:Str}{C a:Uu}{bm:jV}{vs:List V}{ds fs:jT}{dd:j7}
theorem GF{v:V}{d:D}(r:Rep K G v d)(h:X2 d=jR):∃y,FmtV v y/\y.length<=4000:=by
 cases r with
 |non=>exact⟨_,.non,by decide⟩
 |bl b=>cases h
 |int i=>
  unfold X2 at h;simp only[Qr,Q5]at h;have h64:i.natAbs<2 ^ 64:=by have:=h.2;have:=h.1;lia
  refine⟨_,.int i ?_,Qz (toString_length_le h.1 (by decide:0<10) h.2) (by decide)⟩;by_cases z:i.natAbs=0
  .rw[z];decide
  .have:=(Nat.log2_lt z).mpr h64
   lia
 |str x=>unfold X2 at h;have h:=Qa h;exact⟨x,.str x (Qz h (by decide)),Qz h (by decide)⟩
 |lst _ _=>cases h
 |tup _ _=>cases h
 |dic _=>cases h
 |exc _ _ _ _=>cases h
 |dct _ _ _ _ _=>cases h
 |dtt _ _ _ _=>cases h
theorem No:∀{vs:List V}{ds:jT},Reps K G vs ds->ds.all X2=jR->∀u∈vs,∃y,FmtV u y/\y.length<=4000
 |_,_,.nil,_,u,hu=>by cases hu
 |_,_,.cons r t,h,u,hu=>by
  rw[Jh,Qr]at h;rcases Qu.mp hu with rfl|hu
  .exact GF r h.1
  .exact No t h.2 u hu
theorem Bv(r:Reps K G vs ds)(e:X1 nm ds=O fs):Ou nm vs:=by
 unfold X1 at e;split at e
 .rename_i hf
  split at e
  .obtain⟨v,rfl,q⟩:=r.one_inv
   exact .inl ⟨hf,_,by rw[q.str_inv]⟩
  .cases e
 .rename_i f l hf
  split at e
  .rename_i c
   refine .inr ⟨by rw[hf];simp,by rw[r.length,hf];exact c.1,No r c.2⟩
  .cases e
theorem EB(c:ClsK K nm C bm)(s:Same G H)(ha:H a=jQ)(r:Reps K G vs ds)(e:X1 nm ds=O fs)(p:Ot nm C a vs (upd H a (.ext (XO jR a C jQ))) dd H') :
  ∃G',Ext G H G' (upd H' a (.ext (XO jS a C dd)))/\Rep K G' (.ref a) (exD nm fs)/\H' a=O (.ext (XO jR a C dd)):=by
 unfold X1 at e;rcases p with ⟨hf,rfl,rfl⟩|⟨hf,hl,dx,rfl,hd,hne,rfl⟩
 .rw[hf]at e
  dsimp only at e;split at e
  .cases e
   refine⟨upd G a (.ext (XO jS a C jQ)),?_,.exc (vs:=[]) c KO ⟨hf,rfl⟩ .nil,KO⟩;rw[N0];exact Ext.new s ha
  .cases e
 .split at e
  .rename_i hf';exact absurd hf' hf
  .rename_i f l hf'
   split at e
   .cases e
    have hd':H dx=jQ:=by rw[Kp hne]at hd;exact hd
    have eH:upd (upd (upd (upd H a (.ext (XO jR a C jQ))) a (.ext (XO jR a C (O dx)))) dx (.ext (XD dx ((ZV nm).zip vs)))) a (.ext (XO jS a C (O dx)))=upd (upd H a (.ext (XO jS a C (O dx)))) dx (.ext (XD dx ((ZV nm).zip vs))):=by
     funext b;by_cases h1:b=a
     .subst h1;rw[KO,Kp (Ne.symm hne),KO]
     .rw[Kp h1]
      by_cases h2:b=dx
      .subst h2;rw[KO,KO]
      .rw[Kp h2,Kp h1,Kp h1,Kp h2,Kp h1]
    have x1:Ext G H (upd G a (.ext (XO jS a C (O dx)))) (upd H a (.ext (XO jS a C (O dx)))):=Ext.new s ha;have hd2:upd H a (.ext (XO jS a C (O dx))) dx=jQ:=by rw[Kp hne];exact hd'
    have x2:=x1.trans (Ext.new (o:=.ext (XD dx ((ZV nm).zip vs))) x1.gh hd2);exact⟨_,by rw[eH];exact x2,.exc (dd:=O dx) (vs:=vs) c (by rw[Kp (Ne.symm hne)];exact KO) ⟨hl.symm,KO⟩ (r.mono x2.g),by rw[Kp (Ne.symm hne)];exact KO⟩
   .cases e
end
noncomputable def Wa(nm:Str)(g:M jT):SM:=sB g λds Z=>match X1 nm ds with|some fs=>.ex Z (exD nm fs)|none=>.bad
section
variable{X:Cx}{B G0:Hp}{KX:XW}{e a b c:Uw}{pos p2 cpos:Pos}{es:jX}{st:Stmt}{sts:List Stmt}{nm x:Str}{k kk n:Nat}
theorem Bu{g:M jT}(mk:MkX X.prog X.w X.K X.mg X.base nm k)(hr:Room kk X.A)(hc:X.calm=jR)(hw:XS X KX)(hg:Gl X nm)(ha:PA X (e::es) (tDs X.K B G0 g))(hk:k+1<=kk:=by decide)
  (hdb:(nm==("__debug__" : Str))=jS:=by decide) (he:Uz (e::es) X.env=(jS,eval e X.env)::Uz es X.env:=by rfl) (hpl:(backTo cpos (Uz es X.env)).any (·.1)=jS:=by rfl) :
  PS X (.Raise (O (.Call (.Name nm p2) (e::es) [] cpos)) jQ pos) (tS X.K B G0 KX (Wa nm g)):=PS.kin λkin=>by
 obtain⟨C,bm,f,fd,ps,sp,hm,hkp,ck,xc,F,hb,xu⟩:=mk;refine Ze (CQ (KC:=λC'=>C'=C) hc (λC' z=>by subst z;exact⟨bm,f,xc _ _ kin⟩) hw (CS (xc _ _ kin) F (hr.mono hk) hg hm hkp hb ha hdb he hpl)) λDn σ H q=>?_
 refine tS.bnd (R:=Reps X.K) q λvs H1 G1 Z1 ds k1 r a=>?_
 cases z:X1 nm ds with
 |none=>rw[z]at a;exact a.elim
 |some fs=>
  rw[z]at a;have ar:=Bv r z;refine⟨?_,λad had=>xu ad vs _ _ KO ar λdd H' p=>⟨rfl,?_⟩⟩
  .rcases ar with ⟨_,x,rfl⟩|⟨_,hl,_⟩
   .exact(show 1<=Ux by decide)
   .rw[hl]
    unfold ZV;split
    .decide
    .split
     .decide
     .split<;>decide
  .obtain⟨G',ex,rp,hx⟩:=EB ck k1.gh had r z p
   exact⟨ad,C,dd,rfl,rfl,hx,a (.ref ad) σ G' _ (k1.ext ex) ex.g rp⟩
inductive XR where
 |val (d:D)|exc (d:D)
noncomputable def spX(K:Frag)(n:Nat)(F:jT->Option XR):Sp:=λvs H Q E=>∃G ds r,vs.length=n/\Same G H/\Reps K G vs ds/\F ds=O r/\match r with
 |.val d=>∀v G' H',Ext G H G' H'->Rep K G' v d->Q v H'
 |.exc d=>∀ad G' H',Ext G H G' H'->Rep K G' (.ref ad) d->E (.ref ad) jQ H'
def Zg(P:Ut)(w:World)(K:Frag)(mg:Str->jW)(base:Heap)(x:Str)(k n:Nat)(F:jT->Option XR):Prop:=
 ∃(f:Uu)(fd:Uv)(ps:List Str),mg x=O (.ref f)/\PySem.W.keepIn K (.ref f)=jR/\Ym K fd ps []/\FnOk P w K mg base (CX1 P w) k f fd ps (spX K n F)
def aftX(K:Frag)(B G0:Hp)(KX:XW)(r:Res XR)(G:Hp)(σ:St)(Q:VK):Prop:=match r with
 |.ok (.val d) Z=>∀v G' H',EOk K B G0 G' H' σ Z->Same G G'->Rep K G' v d->Q v H'
 |.ok (.exc d) Z=>∀v G' H',EOk K B G0 G' H' σ Z->Same G G'->Rep K G' v d->KX v σ H'
 |.bad=>False
noncomputable def tX(K:Frag)(B G0:Hp)(KX:XW)(f:M XR):TE:=λσ H Q=>∃G Z,EOk K B G0 G H σ Z/\aftX K B G0 KX (f Z) G σ Q
noncomputable def ZH(n:Nat)(F:jT->Option XR)(g:M jT):M XR:=U5 g λxs=>if xs.length=n then U2 (F xs)else λ_=>.bad
theorem Bt{F:jT->Option XR}{g:M jT}(d:Zg X.prog X.w X.K X.mg X.base x k n F)(hr:Room kk X.A)(hw:XS X KX)(hg:Gl X x)(ha:PA X (e::es) (tDs X.K B G0 g))(hk:k<=kk:=by decide)(hn:(e::es).length=n:=by rfl)
  (hdb:(x==("__debug__" : Str))=jS:=by decide) (he:Uz (e::es) X.env=(jS,eval e X.env)::Uz es X.env:=by rfl) (hpl:(backTo pos (Uz es X.env)).any (·.1)=jS:=by rfl) :
  PE X (.Call (.Name x p2) (e::es) [] pos) (tX X.K B G0 KX (ZH n F g)):=by
 obtain⟨f,fd,ps,h1,h2,h3,h4⟩:=d;refine Km (CO h4 (hr.mono hk) hg h1 h2 h3 hw ha hdb he hpl) λσ H Q ⟨G,Z,k0,a⟩=>?_
 refine⟨G,Z,k0,?_⟩;unfold ZH U5 at a;cases z:g Z with
 |bad=>rw[z]at a;exact a.elim
 |ok xs Z1=>
  rw[z]at a;dsimp only at a;intro vs G1 H1 k1 s1 r;by_cases hl:xs.length=n
  .rw[Qs hl]at a
   cases zF:F xs with
   |none=>rw[zF]at a;exact a.elim
   |some rr=>
    rw[zF]at a;refine⟨G1,xs,rr,by rw[r.length];exact hl,k1.gh,r,zF,?_⟩;cases rr with
    |val d=>exact λv G' H' ex rv=>a v G' H' (k1.ext ex) (s1.trans ex.g) rv
    |exc d=>intro ad' G' H' ex rv ad ev;cases ev;exact a _ G' H' (k1.ext ex) (s1.trans ex.g) rv
  .rw[QE hl]at a;exact a.elim
noncomputable def sX(f:M XR)(g:D->SM):SM:=λZ=>match f Z with
 |.ok (.val d) Z'=>g d Z'
 |.ok (.exc d) Z'=>.ex Z' d
 |.bad=>.bad
theorem tS.bndX{K:Frag}{f:M XR}{g:D->SM}{Dn:Ends}{σ:St}{H:Hp}{P:V->Hp->Prop}(q:tS K B G0 KX (sX f g) Dn σ H)
  (i:∀v H' G' Z' x,EOk K B G0 G' H' σ Z'->Rep K G' v x->aftS K B G0 KX (g x Z') G' Dn->P v H'):tX K B G0 KX f σ H P:=by
 obtain⟨G,Z,k,a⟩:=q;refine⟨G,Z,k,?_⟩;unfold sX at a;cases z:f Z with
 |bad=>rw[z]at a;exact a.elim
 |ok r Z1=>
  rw[z]at a;cases r with
  |val d=>exact λv G' H' e s r=>i v H' G' Z1 d e r (aftS.mono s a)
  |exc d=>exact λv G' H' e s r=>a v σ G' H' e s r
theorem CB{f:M XR}(h:PE X e (tX X.K B G0 KX f))(hs:swapsWith e jQ pos.line X.env=pure jS:=by rfl):PS X (.Expr e pos) (tS X.K B G0 KX (sX f λ_ Z=>.nx Z)):=Ze (T8 h hs) λD σ H q=>tS.bndX q λv H' G' Z' x k r a=>a σ G' H' k (.refl _)
theorem EA{f:M XR}(h:PE X e (tX X.K B G0 KX f)):PS X (.Return (O e) pos) (tS X.K B G0 KX (sX f λd _=>.rt d)):=Ze (RS h) λD σ H q=>tS.bndX q λv H' G' Z' x k r a=>a v G' H' k.exit r
theorem Ez{i:Nat}{y:Str}{f:M XR}(hN:X.N.Nodup)(hi:X.N[i]?=O y)(hx:Loc X.env.scope y)(he:PE X e (tX X.K B G0 KX f))(hs:swapsWith e (O (.Name y p2)) pos.line X.env=pure jS:=by rfl)
  (hf:X.fn y=jR∨X.env.scope.names.lookup y=O .local:=by first|exact .inl rfl|exact .inr rfl|assumption):PS X (.Assign [.Name y p2] e pos) (tS X.K B G0 KX (sX f λd Z=>match gN i d Z with|some Z'=>.nx Z'|none=>.bad)):=
 Ze (RR hN hi hx he hs hf) λD σ H q=>tS.bndX q λv H' G' Z' x k r a=>by
  unfold gN at a;split at a
  .rename_i Z2 hz
   split at hz
   .rename_i hi2
    cases hz;exact a _ G' H' (k.setPub r hi2) (.refl _)
   .cases hz
  .exact a.elim
noncomputable def Zo(N:List Str)(g:SM)(ds:jT):Option XR:=match g (ZN N ds)with
 |.rt d=>O (.val d)
 |.nx _=>O (.val .none)
 |.ex _ d=>if W3 d=jR then O (.exc d)else jQ
 |_=>jQ
noncomputable abbrev kxE(E:XK):XW:=λv _ H=>∃e,v=.ref e/\E (.ref e) jQ H
theorem okX{P:Ut}{w:World}{K:Frag}{mg:Str->jW}{base:Heap}{x qual:Str}{st:Stmt}{f:Uu}{fd:Uv}{N ps:List Str}{k n:Nat}{g:SM}(F:Fun K x qual st f fd)(S:Vf N ps (KY st))(hn:ps.length=n)
  (der:∀(cdv:Ur)(A:Around)(outer:List Env)(s:Us)(H:Hp)(E:XK)(B G0:Hp),Room k (A.deeper (envOfC qual (KY st) s.heap.objs.size f cdv)) ->
   PSs (Zl (CX1 P w) P w K mg base N qual (KY st) f cdv A outer s H E) (Z6 st) (tS K B G0 (kxE E) g)):FnOk P w K mg base (CX1 P w) (k+1) f fd ps (spX K n (Zo N g)):=by
 obtain⟨oc,od,kV,doc,pm,an,cdv,ct,osl,rfl,lk,hcd⟩:=F.ex;refine Ow lk hcd S (λvs H Q E h=>?_) λA outer s H vs Q E hr h=>?_
 .obtain⟨_,_,_,hl,_⟩:=h
  rw[hl,hn]
 .obtain⟨G,ds,r,hl,sg,rp,hF,q⟩:=h
  refine⟨_,der cdv A outer s H E H G hr,G,ZN N ds,PD sg rp,?_⟩;unfold Zo at hF;cases z:g (ZN N ds)with
  |rt d'=>rw[z]at hF;cases hF;exact λv G' H' ex rr=>q v G' H' ex rr
  |nx Z=>rw[z]at hF;cases hF;exact λσ' G' H' k' _=>q .non G' H' k'.exit .non
  |ex Z d=>
   rw[z]at hF;dsimp only at hF;split at hF
   .rename_i hx
    cases hF;intro v σ' G' H' k' _ rv
    obtain⟨ad,rfl⟩:∃ad,v=.ref ad:=by
     cases rv with
     |exc _ _ _ _=>exact⟨_,rfl⟩
     |dct _ _ _ _ _=>exact⟨_,rfl⟩
     |dtt _ _ _ _=>exact⟨_,rfl⟩
     |_=>cases hx
    exact⟨ad,rfl,q ad G' H' k'.exit rv⟩
   .cases hF
  |ro ds=>rw[z]at hF;cases hF
  |bk Z=>rw[z]at hF;cases hF
  |ct Z=>rw[z]at hF;cases hF
  |bad=>rw[z]at hF;cases hF
end
section
variable{K:Frag}{B G0 G H:Hp}{σ:St}{Z:UR}
theorem EOk.unset{i:Nat}(k:EOk K B G0 G H σ Z):EOk K B G0 G H (σ.set i jQ) (Z.set i jQ) where
 bh:=k.bh
 gh:=k.gh
 g0:=k.g0
 np:=k.np
 len:=by rw[Je,Je];exact k.len
 pub:=λj d' q=>by
  by_cases z:i=j
  .subst z
   have:=Yk q;cases this
  .rw[Qm z]at q⊢
   exact k.pub j d' q
 own:=λj ds q=>by
  by_cases z:i=j
  .subst z
   have:=Yk q;cases this
  .rw[Qm z]at q⊢
   exact k.own j ds q
 sep:=λj l c es fs q1 q2 s1 s2=>by
  have z1:i≠j:=λz=>by subst z;have:=Yk q1;cases this
  have z2:i≠l:=λz=>by subst z;have:=Yk q2;cases this
  rw[Qm z1]at q1 s1;rw[Qm z2]at q2 s2;exact k.sep j l c es fs q1 q2 s1 s2
 dp:=k.dp.setOther (λs e=>by cases e)
end
def CK(K:Frag)(mg:Str->jW)(x:Str):Prop:=∃D bm,mg x=O (.ref D)/\ClsK K x D bm
noncomputable def TZ(x:Str):D->Bool
 |.dict [(.none,.tuple [.str nm,_])]=>decide (x=nm) || decide (x = "DealError")
 |_=>jS
noncomputable def Xu(i:Nat)(x:Str)(g h:SM):SM:=λZ=>match g Z with
 |.ex Z1 d=>if TZ x d=jR/\i<Z1.length then(match h (Z1.set i (O (.pub d)))with
  |.nx Z2=>.nx (Z2.set i jQ)
  |.bk Z2=>.bk (Z2.set i jQ)
  |.ct Z2=>.ct (Z2.set i jQ)
  |.rt d2=>.rt d2
  |_=>.bad)else .bad
 |o=>o
section
variable{X:Cx}{B G0:Hp}{KX:XW}{e a b c:Uw}{pos p2 cpos np hpos:Pos}{es:jX}{x n:Str}{k kk:Nat}
theorem BJ{K:Frag}{G:Hp}{v:V}{d:D}{D':Uu}{bmD:jV}(r:Rep K G v d)(h:TZ x d=jR)(cD:ClsK K x D' bmD) :
  ∃a C dd bm,v=.ref a/\KC K C bm/\G a=O (.ext (XO jS a C dd))/\(Value.ref C::bm).contains (.ref D')=jR:=by
 unfold TZ at h;split at h
 .obtain⟨a,C,dd,bm,xk,vs,ds,rfl,e0,c,hx,_,_⟩:=r.exc_inv
  cases e0;exact⟨a,C,dd,bm,rfl,⟨_,c⟩,hx,by rw[c.has cD];exact h⟩
 .cases h
theorem GE{i:Nat}{g h:SM}{body suite:List Stmt}{b₀:Stmt}{st:List Env}(cD:CK X.K X.mg x)(hg:Gl X x)(hN:X.N.Nodup)(hi:X.N[i]?=O n)(hl:X.env.kindOf n=O .local)
  (hb:∀(KX':XW)(W:Ur->Us->Prop)(pn:List (Uu×Obj)),XS (X.tried W pn) KX'->PSs (X.tried W pn) body (tS X.K B G0 KX' g)) (hs:∀a,PSs (X.suite a) (b₀::suite) (tS X.K B G0 KX0 h))
  (kX:X.stack=X.env::st:=by rfl) (hfr:X.env.frame=O X.env.locals:=by rfl) (hdb:(x==("__debug__" : Str))=jS:=by decide) :
  PS X (.Try body [.ExceptHandler (O (.Name x np)) (O n) (b₀::suite) hpos] [] [] pos) (tS X.K B G0 KX (Xu i x g h)):=PS.kin λkin=>by
 obtain⟨D',bmD,hm,ck⟩:=cD;obtain⟨fD,xD⟩:=ck.cls (model X.prog X.w) X.base kin;refine Ze (Fy (KC:=KC X.K) (tb:=λKX'=>tS X.K B G0 KX' g) (ts:=tS X.K B G0 KX0 h) kX hfr (WO kin) xD hg hm hN hi hl hb hs hdb) λDn σ H ⟨G,Z,k,a⟩=>?_
 refine⟨G,Z,k,?_⟩;unfold Xu at a;cases z:g Z with
 |nx Z1=>rw[z]at a;exact a
 |rt d=>rw[z]at a;exact a
 |ro ds=>rw[z]at a;exact a
 |bk Z1=>rw[z]at a;exact a
 |ct Z1=>rw[z]at a;exact a
 |bad=>rw[z]at a;exact a.elim
 |ex Z1 d=>
  rw[z]at a;dsimp only at a;intro v σ1 G1 H1 k1 s1 r;by_cases hc:TZ x d=jR/\i<Z1.length
  .rw[Qs hc]at a
   obtain⟨ad,C,dd,bm,rfl,kc,hx,hct⟩:=BJ r hc.1 ck;refine⟨ad,C,dd,bm,rfl,kc,k1.gh _ _ hx,hct,G1,_,k1.setPub r hc.2,?_⟩;cases z2:h (Z1.set i (O (.pub d)))with
   |nx Z2=>rw[z2]at a;exact λσ2 G2 H2 k2 s2=>a _ G2 H2 k2.unset (s1.trans s2)
   |bk Z2=>rw[z2]at a;exact λσ2 G2 H2 k2 s2=>a _ G2 H2 k2.unset (s1.trans s2)
   |ct Z2=>rw[z2]at a;exact λσ2 G2 H2 k2 s2=>a _ G2 H2 k2.unset (s1.trans s2)
   |rt d2=>rw[z2]at a;exact a
   |ex _ _=>rw[z2]at a;exact a.elim
   |ro _=>rw[z2]at a;exact a.elim
   |bad=>rw[z2]at a;exact a.elim
  .rw[QE hc]at a;exact a.elim
noncomputable def Vu(x:Str):D->jY
 |.dict [(.none,.tuple [.str nm,_])]=>O (.bool (decide (x=nm) || decide (x = "DealError")))
 |_=>jQ
theorem Ey{f:M D}{p3:Pos}(cD:CK X.K X.mg x)(hg:Gl X "isinstance")(hm:X.mg "isinstance" = jQ)(xm:Gl X x)(ha:PE X e (tD X.K B G0 f))(hdb:(x==("__debug__" : Str))=jS:=by decide)
  (hs:Uz [e,.Name x p3] X.env=(jS,eval e X.env)::Uz [.Name x p3] X.env:=by rfl)
  (hs2:Uz [.Name x p3] X.env=[(jS,eval (.Name x p3) X.env)]:=by rfl) :
  PE X (.Call (.Name "isinstance" p2) [e,.Name x p3] [] pos) (tD X.K B G0 (U5 f λd=>U2 (Vu x d))):=PE.kin λkin=>by
 obtain⟨D',bmD,hm2,ck⟩:=cD;refine Km (Vk (Px (WO kin)) hg hm Oh (ZT ha (ZT (NZ (v:=.ref D') xm hm2 jP hdb) YN (by rw[hs2];rfl)) hs) (by decide) (by decide) hs (by rw[hs2];rfl)) λσ H Q q=>?_
 refine tM.one (R:=Rep X.K) q λv H2 G Z d k r a=>?_
 obtain⟨d',e',a'⟩:=aft.opt a;unfold Vu at e';split at e'
 .obtain⟨ad,C,dd,bm,xk,vs,ds,rfl,e0,c,hx,_,_⟩:=r.exc_inv
  cases e0;cases e';exact⟨ad,C,dd,bm,jS,.ref D',_,rfl,⟨_,c⟩,k.gh _ _ hx,.inl ⟨D',bmD,rfl,⟨_,ck⟩,c.has ck⟩,a'.now k (.bl _)⟩
 .cases e'
noncomputable def Vv:D->jY
 |.dict [(.none,_)]=>O (.bool jR)
 |_=>jQ
theorem Ex:bootBuiltins "ValueError" = O (.type "ValueError"):=by decide +kernel
theorem Ew{f:M D}{p3:Pos}(hg:Gl X "isinstance")(hm:X.mg "isinstance" = jQ)(xm:Gl X "ValueError")(hm2:X.mg "ValueError" = jQ)(ha:PE X e (tD X.K B G0 f))
  (hs:Uz [e,.Name "ValueError" p3] X.env=(jS,eval e X.env)::Uz [.Name "ValueError" p3] X.env:=by rfl)
  (hs2:Uz [.Name "ValueError" p3] X.env=[(jS,eval (.Name "ValueError" p3) X.env)]:=by rfl) :
  PE X (.Call (.Name "isinstance" p2) [e,.Name "ValueError" p3] [] pos) (tD X.K B G0 (U5 f λd=>U2 (Vv d))):=PE.kin λkin=>by
 refine Km (Vk (Px (WO kin)) hg hm Oh (ZT ha (ZT (NY (v:=.ty "ValueError") xm hm2 Ex jP (by decide) (by decide)) YN (by rw[hs2];rfl)) hs) (by decide) (by decide) hs (by rw[hs2];rfl)) λσ H Q q=>?_
 refine tM.one (R:=Rep X.K) q λv H2 G Z d k r a=>?_
 obtain⟨d',e',a'⟩:=aft.opt a;unfold Vv at e';split at e'
 .obtain⟨ad,C,dd,bm,xk,vs,ds,rfl,e0,c,hx,_,_⟩:=r.exc_inv
  cases e0;cases e';exact⟨ad,C,dd,bm,jS,.ty "ValueError", jR,rfl,⟨_,c⟩,k.gh _ _ hx,.inr ⟨"ValueError", rfl,NP,by rw[c.ty];rfl⟩,a'.now k (.bl _)⟩
 .cases e'
noncomputable def Wi(f:Str):D->jY
 |.dict [(.none,.tuple [.str nm,.list ds])]=>((ZV nm).zip ds).lookup f
 |_=>jQ
theorem Ln{K:Frag}{G:Hp}{f:Str}:∀{fs:List Str}{vs:List V}{ds:jT}{d:D},Reps K G vs ds->(fs.zip ds).lookup f=O d->f∈fs/\∃v,(fs.zip vs).lookup f=O v/\Rep K G v d
 |[],vs,ds,d,_,e=>by simp at e
 |g::fs,_,_,d,.nil,e=>by simp at e
 |g::fs,_,_,d,@Reps.cons _ _ v d0 vs ds r t,e=>by
  rw[JI,QS]at e;rw[JI,QS];cases z:f==g with
  |true=>rw[z]at e;cases e;exact⟨by rw[beq_iff_eq.mp z];exact Qo,v,rfl,r⟩
  |false=>rw[z]at e;obtain⟨h1,h2⟩:=Ln t e;exact⟨Qp _ h1,h2⟩
theorem CA{f:M D}{fl:Str}(he:PE X e (tD X.K B G0 f))(hb:attributeBase e fl X.env (eval e X.env)=eval e X.env:=by rfl)(hq:fl∈(["part", "number", "row"]:List Str):=by decide) :
  PE X (.Attribute e fl pos) (tD X.K B G0 (U5 f λd=>U2 (Wi fl d))):=PE.kin λkin=>by
 refine Km (Di (WO kin) (λC bm ⟨nm,c⟩=>c.fld _ _ kin fl hq) he hb) λσ H Q q=>?_;refine tM.one (R:=Rep X.K) q λv H2 G Z d k r a=>?_
 obtain⟨d',e',a'⟩:=aft.opt a;unfold Wi at e';split at e'
 .obtain⟨ad,C,dd,bm,xk,vs,ds,rfl,rfl',c,hx,hd,rr⟩:=r.exc_inv
  cases rfl';obtain⟨hm,w,e1,rw⟩:=Ln rr e';cases dd with
  |none=>rw[hd.1]at hm;cases hm
  |some dx=>exact⟨ad,C,bm,dx,_,w,jS,rfl,⟨_,c⟩,k.gh _ _ hx,k.gh _ _ hd.2,e1,a'.now k rw⟩
 .cases e'
end
def RB(o:Uw)(name:Str)(apos:Pos)(args:jX)(pos:Pos):Prop:=∀env:Env,∃pl:Sem Bool,eval (.Call (.Attribute o name apos) args [] pos) env=(do
   let ov ←eval o env
   standAt apos.atName
   let (f,first) ←holding [ov] (getMethod ov name pl)
   callWith pos f first (backTo pos (Uz args env)) (backToKw pos (keywordEach [] env)))
section
variable{P:Ut}{w:World}{K:Frag}{mg:Str->jW}{base:Heap}{st:Stmt}{f f0 D:Uu}{fd fd0:Uv}{q:Str}{p1 p2 p3 p4 p5 p6 p7 p8 p9 r1 r2 r3 r4 r5 r6 r7 r8 r9 q1 q2:Pos}{j1 j2:Nat}
theorem Ev(F:Fun K "__init__" q st f fd)(hn:FnNm (KY st) ["self", "text"] ["ValueError"])(hm:mg "ValueError" = jQ)
  (hb:Z6 st=[.Expr (.Call (.Attribute (.Name "ValueError" p1) "__init__" p2) [.Name "self" p3,.Name "text" p4] [] p5) p6])
  (ht:RB (.Name "ValueError" p1) "__init__" p2 [.Name "self" p3,.Name "text" p4] p5) :
  FnOk P w K mg base CX0 1 f fd ["self", "text"] (Rc (KC K)):=by
 refine F.ok (fq hn 2) (λvs H Q E ⟨a,C,dd,bm,x,e,_⟩=>by rw[e];rfl) λcdv A outer s H vs Q E hr ⟨a,C,dd,bm,x,e,kc,hx,hq⟩=>?_
 subst e;rw[hb];obtain⟨pl,ht⟩:=ht (Zl CX0 P w K mg base ["self", "text"] q (KY st) f cdv A outer s H E).nox.env;refine⟨RL (OO (KC K) (TJ (KL 0) (TJ (KL 1) Vq))),PSs.kin λkin=>SY (T8 (CN (pl:=pl) (WO kin) (gq hn 0) hm (ZT (pq hn 0) (ZT (pq hn 1) YN)) (ht:=ht))),?_⟩;exact⟨_,rfl,_,rfl,a,C,dd,bm,_,rfl,kc,hx,hq⟩
theorem YO(x y:Str):(x++y).length=x.length+y.length:=by
 show(x.cps++y.cps).size=x.cps.size+y.cps.size
 exact Array.size_append
theorem Eu{t1 t2:Str}(M:Sx K D "__init__" f0)(F0:FnOk P w K mg base CX0 1 f0 fd0 ["self", "text"] (Rc (KC K)))(hb0:Ym K fd0 ["self", "text"] [])(hm:mg "DealError" = O (.ref D))
  (F:Fun K "__init__" q st f fd) (hn:FnNm (KY st) ["self", "part", "number"] ["DealError"])
  (hb:Z6 st=[.Expr (.Call (.Attribute (.Name "DealError" p1) "__init__" p2) [.Name "self" p3,.JoinedStr [.Constant (.str t1) j1 p4,.FormattedValue (.Name "part" p5) (-1) jQ p6,.Constant (.str t2) j2 p7,.FormattedValue (.Name "number" p8) (-1) jQ p9] r1] [] r2) r3,
   .Assign [.Attribute (.Name "self" r4) "part" r5] (.Name "part" r6) r7,.Assign [.Attribute (.Name "self" r8) "number" r9] (.Name "number" q1) q2])
  (ht:RB (.Name "DealError" p1) "__init__" p2 [.Name "self" p3,.JoinedStr [.Constant (.str t1) j1 p4,.FormattedValue (.Name "part" p5) (-1) jQ p6,.Constant (.str t2) j2 p7,.FormattedValue (.Name "number" p8) (-1) jQ p9] r1] r2)
  (hl1:t1.length<=1000) (hl2:t2.length<=1000) :
  FnOk P w K mg base CX0 2 f fd ["self", "part", "number"] (Pc (KC K) ["part", "number"]):=by
 refine F.ok (fq hn 3) (λvs H Q E ⟨a,C,bm,us,e,hl,_⟩=>by rw[e,QB,hl];rfl) λcdv A outer s H vs Q E hr ⟨a,C,bm,us,e,hl,kc,hx,hf,hq⟩=>?_
 subst e
 match us,hl with
 |[u1,u2],_=>
 rw[hb];obtain⟨pl,ht⟩:=ht (Zl CX0 P w K mg base ["self", "part", "number"] q (KY st) f cdv A outer s H E).nox.env;obtain⟨y1,f1,g1⟩:=hf u1 (by simp);obtain⟨y2,f2,g2⟩:=hf u2 (by simp)
 refine⟨Vp (RL (RI (Rc (KC K)) [] E0 (TJ (KL 0) (TJ (Sw [tC (.str t1),Vr (KL 1),tC (.str t2),Vr (KL 2)] Str.empty) Vq)))) (Vp (RG (KC K) (KL 0) (KL 1) "part") (RG (KC K) (KL 0) (KL 2) "number")),
  PSs.kin λkin=>Rk (T8 (CM (pl:=pl) M F0 hr hb0 (gq hn 0) hm (ZT (pq hn 0) (ZT (Ai (.cons RT (.cons (ON (pq hn 1)) (.cons RT (.cons (ON (pq hn 2)) .nil))))) YN)) (ht:=ht)))
   (Rk (NO (WO kin) (λC bm ⟨nm,c⟩=>c.fld _ _ kin "part" (by decide)) (pq hn 0) (pq hn 1) jP) (SY (NO (WO kin) (λC bm ⟨nm,c⟩=>c.fld _ _ kin "number" (by decide)) (pq hn 0) (pq hn 2) jP))),?_⟩
 have e0:(Str.empty:Str).length=0:=rfl;have lz:(10000:Nat)<=Ux:=by decide
 refine⟨_,rfl,t1,rfl,by rw[YO];lia,_,rfl,y1,f1,_,rfl,by rw[YO,YO];lia,t2,rfl,by rw[YO,YO,YO];lia,_,rfl,y2,f2,_,rfl,by rw[YO,YO,YO,YO];lia,by rw[YO,YO,YO,YO];lia,?_⟩;refine⟨a,C,jQ,bm,_,rfl,kc,hx,?_⟩;refine⟨_,rfl,_,rfl,a,C,bm,rfl,kc,.inl ⟨hx,λdx hd hne=>?_⟩⟩;refine⟨_,rfl,_,rfl,a,C,bm,rfl,kc,.inr ⟨dx,_,hne,by rw[Kp (Ne.symm hne)];exact KO,KO,(show 1<900 by decide),?_⟩⟩;rw[N0];exact hq dx hd hne
end
structure XSt(h:Heap)(nm:Str)(own:Option Stmt)(C N:Uu)(bm:jV)(mN:Str->jW):Prop where
 ad:h.nsMap mainGlobals nm=O (.ref C)
 obj:∃q bs sn sub ab col dd k0 k1 k2 k3 k5,h.get? C=O (excClassObj nm q C N bs bm jR sn sub ab col dd k0 k1 k2 k3 k5 "ValueError.__new__")
 ns:h.Ns N mN
 quiet:∀x∈RU,mN x=jQ
 up:nm = "DealError" /\ bm=VB∨nm ≠ "DealError" /\ ∃D,h.nsMap mainGlobals "DealError" = O (.ref D)/\bm=.ref D::VB
 init:match own with
  |none=>mN "__init__" = jQ
  |some st=>∃f o pm cd doc,mN "__init__" = O (.ref f)/\h.get? f=O o/\o.cls=.type "function" /\ o.data=.func (methDef "__init__" (WL nm) (Xi st) (Z6 st) (KY st) pm cd doc)/\h.CodeRec cd (WL nm)
section
variable{h h':Heap}{nm:Str}{own:Option Stmt}{C N:Uu}{bm:jV}{mN:Str->jW}
theorem LO{a:Uu}{x:Str}{v:Ur}(e:h.nsMap a x=O v)(k:∀b o,h.get? b=O o->h'.get? b=O o):h'.nsMap a x=O v:=by
 unfold Heap.nsMap at e⊢;cases z:h.get? a with
 |none=>rw[z]at e;cases e
 |some o=>rw[k _ _ z];rw[z]at e;exact e
theorem XSt.keeps(x:XSt h nm own C N bm mN)(k:∀b o,h.get? b=O o->h'.get? b=O o):XSt h' nm own C N bm mN where
 ad:=LO x.ad k
 obj:=let ⟨q,bs,sn,sub,ab,col,dd,k0,k1,k2,k3,k5,e⟩:=x.obj;⟨q,bs,sn,sub,ab,col,dd,k0,k1,k2,k3,k5,k _ _ e⟩
 ns:=x.ns.keeps k
 quiet:=x.quiet
 up:=x.up.imp id λ⟨a,D,b,c⟩=>⟨a,D,LO b k,c⟩
 init:=by
  have z:=x.init;cases own with
  |none=>exact z
  |some st=>obtain⟨f,o,pm,cd,doc,h1,h2,h3,h4,h5⟩:=z;exact⟨f,o,pm,cd,doc,h1,k _ _ h2,h3,h4,h5.keeps k⟩
theorem dA(st:Stmt):OF st=Xi st:=by cases st<;>rfl
theorem dB(st:Stmt):OE st=Z6 st:=by cases st<;>rfl
theorem dS(st:Stmt):OY st=KY st:=by cases st<;>rfl
structure XYP(p:Ut)(l:XL0)(h:Heap):Prop where
 st:∃mc,h.Ns cStatics mc/\mc "thirdparty.any" = jQ
 cl:∀c∈l,∃C N bm mN,XSt h c.1 (c.2.map λi=>Yy (Ki p i)) C N bm mN
theorem XYP.keeps{p:Ut}{l:XL0}(x:XYP p l h)(k:∀b o,h.get? b=O o->h'.get? b=O o):XYP p l h':=
 ⟨let ⟨mc,a,b⟩:=x.st;⟨mc,a.keeps k,b⟩,λc hc=>let ⟨C,N,bm,mN,z⟩:=x.cl c hc;⟨C,N,bm,mN,z.keeps k⟩⟩
theorem GD{st:Stmt}{n:Bool}(b:xB h nm n=jR)(hown:own=jQ->n=jS)(hs:∀st,own=O st->xSh h nm=O (jR,Vt nm st)):∃C N bm mN,XSt h nm own C N bm mN:=by
 unfold xB at b;split at b
 .rename_i C hC
  split at b
  .rename_i t dd cd sl ho
   simp only[Qr,Bool.not_eq_true',beq_iff_eq,Bool.or_eq_true,QM,Option.isNone_iff_eq_none]at b;obtain⟨⟨⟨⟨⟨⟨⟨⟨b1,b2⟩,b3⟩,b4⟩,b5⟩,b6⟩,b7⟩,b8⟩,b9⟩:=b;obtain⟨cn,cb,cm,cns,cq,chd,csn,csub,cab,ccol,cdel⟩:=cd;simp only at b2 b3 b4 b6 b7 b8 b9;subst b1 b2 b3 b4;split at b5
   .rename_i k0 k1 k2 k3 k4 k5 hsl
    have b5:=Qa b5;subst b5;have hsl':sl=#[k0,k1,k2,k3,O (.builtin "ValueError.__new__"),k5]:=by rw[←Array.toList_inj,hsl]
    subst hsl'
    have key:∃bm,cm=.ref C::bm/\(cn = "DealError" /\ bm=VB∨cn ≠ "DealError" /\ ∃D,h.nsMap mainGlobals "DealError" = O (.ref D)/\bm=.ref D::VB):=by
     split at b9
     .rename_i e
      exact⟨VB,Qa b9,.inl ⟨e,rfl⟩⟩
     .rename_i e
      split at b9
      .rename_i D hD
       exact⟨.ref D::VB,Qa b9,.inr ⟨e,D,hD,rfl⟩⟩
      .cases b9
    obtain⟨bm,rfl,up⟩:=key;refine⟨C,cns,bm,h.nsMap cns,hC,⟨_,_,_,_,_,_,_,_,_,_,_,_,ho⟩,.of_isNs b6,b7,up,?_⟩;cases own with
    |none=>
     rcases b8 with b8|b8
     .rw[hown jP]at b8;cases b8
     .exact b8
    |some st=>
     have e:=hs st jP;unfold xSh at e;rw[hC]at e;dsimp only at e;rw[ho]at e;dsimp only at e;split at e
     .rename_i a o fd sh hf hsh
      simp only[Option.some.injEq,Prod.mk.injEq,Q5]at e;obtain⟨e1,rfl⟩:=e;obtain⟨g1,g2,g3⟩:=Heap.fnAt_spec hf;unfold Heap.shapeAt at hsh;rw[hf]at hsh;obtain⟨n,q,ps,b,sc,g,cl,df,kd,doc,pm,an,code,ct,bi⟩:=fd;simp only[Option.map_some,Vt,dA,dB,dS,Option.some.injEq,FnShape.mk.injEq]at hsh;obtain⟨rfl,rfl,rfl,rfl,rfl,rfl,rfl,rfl,rfl,rfl,rfl,rfl,hc⟩:=hsh;exact⟨a,o,pm,code,doc,g1,g2,e1,g3,.of_ok hc⟩
     .cases e
   .cases b5
  .cases b
 .cases b
theorem GC{p:Ut}{l:XL0}{s:Us}(e:xSeen l s=xGood p l):XYP p l s.heap:=by
 unfold xSeen xGood at e;obtain⟨e1,e2⟩:=Prod.mk.inj e;obtain⟨e1,e3⟩:=JM.mp e1;refine⟨⟨_,.of_isNs e1,Option.isNone_iff_eq_none.mp e3⟩,λc hc=>?_⟩;have q:=List.map_inj_left.mp e2 c hc;obtain⟨q1,q2⟩:=Prod.mk.inj q;refine GD (st:=.Pass ⟨0,0,0,0⟩) q1 (λz=>?_) λst z=>?_
 .cases hz:c.2 with
  |none=>rfl
  |some i=>rw[hz]at z;cases z
 .cases hz:c.2 with
  |none=>rw[hz]at z;cases z
  |some i=>rw[hz]at z q2;cases z;exact q2
end
theorem O8:mroOf (.type "ValueError")=pure VB:=by kernel_rfl
theorem Hs:typeLookup (.type "ValueError") "__setattr__" = pure (O (.builtin "object.__setattr__")):=by kernel_rfl
theorem Hr:typeLookup (.type "ValueError") "__getattribute__" = pure (O (.builtin "BaseException.__getattribute__")):=by kernel_rfl
theorem Gm:typeLookup (.type "ValueError") "__getattr__" = pure jQ:=by kernel_rfl
theorem Gk:typeLookup (.type "ValueError") "__class__" = pure (O (.builtin "object.__class__")):=by kernel_rfl
theorem Et:typeLookup (.type "ValueError") "part" = pure jQ:=by kernel_rfl
theorem BI:typeLookup (.type "ValueError") "number" = pure jQ:=by kernel_rfl
theorem GB:typeLookup (.type "ValueError") "row" = pure jQ:=by kernel_rfl
theorem Nn(v:Ur):refuseLoop v "__setattr__" VB=pure ():=by kernel_rfl
section
variable{h h':Heap}{nm:Str}{own ownD:Option Stmt}{C N D ND:Uu}{bm:jV}{mN mD:Str->jW}{M:Model}
theorem XSt.along(x:XSt h nm own C N bm mN)(xD:XSt h "DealError" ownD D ND VB mD){y:Str}{r:jW}(hy:y∈RU)(hB:typeLookup (.type "ValueError") y=pure r):K1 M C y r h:=by
 obtain⟨q,bs,sn,sub,ab,col,dd,k0,k1,k2,k3,k5,e⟩:=x.obj;obtain⟨q',bs',sn',sub',xL,col',kN,k0',k1',k2',k3',k5',e'⟩:=xD.obj;refine K1.of e (Yv.miss e x.ns (x.quiet y hy) ?_);rcases x.up with ⟨_,rfl⟩|⟨_,D',kS,rfl⟩
 .exact Yv.base O8 hB
 .have:=kS.symm.trans xD.ad
  cases this;exact Yv.miss e' xD.ns (xD.quiet y hy) (Yv.base O8 hB)
theorem XSt.tail(x:XSt h nm own C N bm mN):Tail VB bm:=by
 rcases x.up with ⟨_,rfl⟩|⟨_,D',_,rfl⟩
 .exact Tail.base
 .exact Tail.own Tail.base
def Sr(h:Heap)(own ownD:Option Stmt)(mN mD:Str->jW)(nm:Str)(f:Uu):Prop:=match own with
 |some _=>mN "__init__" = O (.ref f)
 |none=>mD "__init__" = O (.ref f)
theorem XSt.xcls(x:XSt h nm own C N bm mN){std:Stmt}(xD:XSt h "DealError" (O std) D ND VB mD){f:Uu}(hf:Sr h own (O std) mN mD nm f):XCls M h C bm f:=by
 have hD:=xD.init;obtain⟨fD,oD,pmD,cdD,docD,g1,g2,g3,g4,g5⟩:=hD;obtain⟨q,bs,sn,sub,ab,col,dd,k0,k1,k2,k3,k5,e⟩:=id x.obj;obtain⟨q',bs',sn',sub',xL,col',kN,k0',k1',k2',k3',k5',e'⟩:=id xD.obj
 have fin:K1 M C "__init__" (O (.ref f)) h/\∃o,h.get? f=O o/\o.cls=.type "function" :=by
  have z:=x.init;unfold Sr at hf;cases own with
  |some st=>obtain⟨f',o,pm,cd,doc,h1,h2,h3,h4,h5⟩:=z;have hf:mN "__init__" = O (.ref f):=hf;rw[h1]at hf;cases hf;exact⟨K1.of e (Yv.hit e x.ns h1),o,h2,h3⟩
  |none=>
   have hf:mD "__init__" = O (.ref f):=hf;have z:mN "__init__" = jQ:=z;rw[g1]at hf;cases hf;refine⟨K1.of e (Yv.miss e x.ns z ?_),oD,g2,g3⟩;rcases x.up with ⟨hn,rfl⟩|⟨_,D',kS,rfl⟩
   .subst hn
    have:=x.ad.symm.trans xD.ad;cases this;rw[e]at e';cases e';have:=x.ns.eq_nsMap.trans xD.ns.eq_nsMap.symm;rw[this]at z;rw[g1]at z;cases z
   .have:=kS.symm.trans xD.ad
    cases this;exact Yv.hit e' xD.ns g1
 refine⟨⟨nm,q,N,bs,sn,sub,ab,col,dd,k0,k1,k2,k3,k5,e⟩,x.tail,fin.1,fin.2,x.along xD (by decide) Hs,x.along xD (by decide) Hr,x.along xD (by decide) Gm,x.along xD (by decide) Gk,λv=>?_⟩;rcases x.up with ⟨_,rfl⟩|⟨_,D',_,rfl⟩
 .exact Nn v
 .rw[refuseLoop_ref];exact Nn v
theorem Tu(k:(whole h).In h'):∀b o,h.get? b=O o->h'.get? b=O o:=λb o e=>k b o (by rw[Yj];exact e)
theorem PJ{mA:Str->jW}{a:Uu}(n:h.Ns a mA)(y:Str):PySem.W.nsIn (whole h) a y=O (mA y):=by
 obtain⟨⟨oc,od,dt,os⟩,es,ep,ho,hd,hk,hf⟩:=n;have hd:dt=_:=hd;subst hd;unfold PySem.W.nsIn;rw[Yj,ho];dsimp only;have:=hf y;unfold nsFind findBy at this;rw[←Array.find?_toList]at this;dsimp only at this;rw[←this];cases z:es.toList.find? (·.key.isStr y)with
 |some e=>rfl
 |none=>
  dsimp only;rw[QE]
  .rfl
  .rw[List.any_eq_true]
   rintro⟨e,he,hr⟩;obtain⟨n,t,hk⟩:=hk e (Array.mem_toList_iff.mp he);unfold DictEntry.refKey at hr;rw[hk]at hr;cases hr
theorem XSt.nmd(x:XSt h nm own C N bm mN):NmAt (whole h) nm C:=by obtain⟨q,bs,sn,sub,ab,col,dd,k0,k1,k2,k3,k5,e⟩:=x.obj;exact⟨_,_,by rw[Yj];exact e,rfl,rfl⟩
theorem LN{mg:Str->jW}(n:h.Ns mainGlobals mg)(e:h.nsMap mainGlobals nm=O (.ref C)):Sv (whole h) nm=O C:=by unfold Sv;rw[PJ n,n.eq_nsMap,e]
theorem XSt.clsK{mg:Str->jW}(n:h.Ns mainGlobals mg)(x:XSt h nm own C N bm mN){std:Stmt}(xD:XSt h "DealError" (O std) D ND VB mD){f:Uu}(hf:Sr h own (O std) mN mD nm f):ClsK (whole h) nm C bm where
 ad:=LN n x.ad
 nmd:=x.nmd
 up:=x.up.imp id λ⟨a,D',b,c⟩=>⟨a,D',LN n b,c,by have:=b.symm.trans xD.ad;cases this;exact xD.nmd⟩
 cls:=λM h' k=>⟨f,(x.keeps (Tu k)).xcls (xD.keeps (Tu k)) (by unfold Sr at hf⊢;cases own<;>exact hf)⟩
 fld:=λM h' k y hy=>by
  have z:=x.keeps (Tu k);have zD:=xD.keeps (Tu k);simp only[Qu,Jo,or_false]at hy;rcases hy with rfl|rfl|rfl
  .exact z.along zD (by decide) Et
  .exact z.along zD (by decide) BI
  .exact z.along zD (by decide) GB
theorem XSt.keep(x:XSt h nm own C N bm mN):PySem.W.keepIn (whole h) (.ref C)=jR:=by obtain⟨q,bs,sn,sub,ab,col,dd,k0,k1,k2,k3,k5,e⟩:=x.obj;unfold PySem.W.keepIn;dsimp only;rw[Yj,e];dsimp only;unfold PySem.W.specialIn PySem.W.typeIn;dsimp only;rw[Yj,e];kernel_rfl
theorem XSt.fun{st:Stmt}(x:XSt h nm (O st) C N bm mN):∃f fd,mN "__init__" = O (.ref f)/\Fun (whole h) "__init__" (WL nm) st f fd:=by
 obtain⟨f,⟨oc,od,dt,osl⟩,pm,cd,doc,h1,h2,h3,h4,h5⟩:=x.init;have h4:dt=_:=h4;subst h4;refine⟨f,_,h1,⟨⟨oc,od,.none,doc,pm,_,cd,_,osl,rfl,by rw[Yj];exact h2,?_⟩,?_⟩⟩
 .obtain⟨c,⟨_,_,dc,_⟩,vs,t,rfl,g1,g2,g3⟩:=h5
  have g2:dc=_:=g2;subst g2;unfold PySem.W.codeIn;dsimp only;rw[Yj,g1];dsimp only;have g4:vs.toList[1]?=O (.str (WL nm) t):=by rw[Array.getElem?_toList];exact g3
  cases hv:vs.toList with
  |nil=>rw[hv]at g4;cases g4
  |cons v0 r=>
   rw[hv]at g4;cases r with
   |nil=>cases g4
   |cons v1 r=>cases g4;exact beq_self_eq_true _
 .unfold PySem.W.keepIn
  dsimp only;rw[Yj,h2]
theorem tf1{K:Frag}:PySem.W.findIn K (.type "type") "__init__" = O (O (.builtin "type.__init__")):=by kernel_rfl
theorem tf2{K:Frag}:PySem.W.specialIn K (.builtin "type.__init__") "__get__" = O (O (.builtin "wrapper_descriptor.__get__")):=by kernel_rfl
theorem tf3{K:Frag}:PySem.W.takesIn K (.builtin "type.__init__")=O jS:=by kernel_rfl
theorem tf4{K:Frag}:PySem.W.findIn K (.type "type") "__getattribute__" = O (O (.builtin "type.__getattribute__")):=by kernel_rfl
theorem tf5{K:Frag}:PySem.W.subIn K (.type "type") (.type "type")=O jR:=by kernel_rfl
theorem XSt.clsFn{st:Stmt}(x:XSt h "DealError" (O st) D ND VB mD)(hs:∃mc,h.Ns cStatics mc/\mc "thirdparty.any" = jQ){f:Uu}(hf:mD "__init__" = O (.ref f)):Sx (whole h) D "__init__" f:=by
 obtain⟨f',o,pm,cd,doc,h1,h2,h3,h4,h5⟩:=x.init;rw[h1]at hf;cases hf;obtain⟨q,bs,sn,sub,ab,col,dd,k0,k1,k2,k3,k5,e⟩:=x.obj;obtain⟨mc,hc1,hc2⟩:=hs;have tD:PySem.W.typeIn (whole h) (.ref D)=O (.type "type"):=by unfold PySem.W.typeIn;dsimp only;rw[Yj,e];rfl
 have tf:PySem.W.typeIn (whole h) (.ref f)=O (.type "function"):=by unfold PySem.W.typeIn;dsimp only;rw[Yj,h2];exact Uh O h3
 refine⟨?_,?_,?_,?_⟩
 .unfold PySem.W.specialIn
  rw[tD];exact tf4 (K:=whole h)
 .unfold PySem.W.readsIn
  rw[PJ hc1,hc2,tD,tf4,tf5];rfl
 .unfold PySem.W.findCls
  rw[tf1];dsimp only[Option.bind_some];rw[tf2];dsimp only[Option.bind_some];rw[tf3];dsimp only[Option.bind_some];have hfi:PySem.W.findIn (whole h) (.ref D) "__init__" = O (O (.ref f)):=by unfold PySem.W.findIn;dsimp only;rw[Yj,e];dsimp only;unfold PySem.W.alongIn PySem.W.ownIn;dsimp only;rw[Yj,e];dsimp only;rw[PJ x.ns,h1]
  rw[hfi];dsimp only[Option.bind_some];rw[QE (show ¬Builtin.heldUnderItsOwnName "__init__" (.ref f)=jR from λz=>by cases z),tf];rfl
 .unfold PySem.W.keepIn
  dsimp only;rw[Yj,h2];obtain⟨oc,od,dt,osl⟩:=o;have h4:dt=_:=h4;subst h4;rfl
end
section
variable{h:Heap}{mg:Str->jW}{p:Ut}{l:XL0}{i j:Nat}{c:Str×Option Nat}{p1 p2 p3 p4 p5 p6 p7 p8 p9 r1 r2 r3 r4 r5 r6 r7 r8 r9 q1 q2:Pos}{j1 j2:Nat}
structure Root(p:Ut)(h:Heap)(mg:Str->jW)(i:Nat)(D f:Uu)(fd:Uv):Prop where
 at':mg "DealError" = O (.ref D)
 ex:∃ND mD,XSt h "DealError" (O (Yy (Ki p i))) D ND VB mD/\mD "__init__" = O (.ref f)
 cf:Sx (whole h) D "__init__" f
 bd:Ym (whole h) fd ["self", "text"] []
 ok:∀(P:Ut)(w:World)(base:Heap),FnOk P w (whole h) mg base CX0 1 f fd ["self", "text"] (Rc (KC (whole h)))
theorem XSt.root{own:Option Stmt}{C N:Uu}{bm:jV}{mN:Str->jW}(x:XSt h "DealError" own C N bm mN):bm=VB:=by
 rcases x.up with ⟨_,rfl⟩|⟨z,_⟩
 .rfl
 .exact absurd jP z
theorem Es(n:h.Ns mainGlobals mg)(Y:XYP p l h)(hD:(((("DealError" : Str),O i):Str×Option Nat)∈l))(hm:mg "ValueError" = jQ)(hn:FnNm (KY (Yy (Ki p i))) ["self", "text"] ["ValueError"])
  (hb:Z6 (Yy (Ki p i))=[.Expr (.Call (.Attribute (.Name "ValueError" p1) "__init__" p2) [.Name "self" p3,.Name "text" p4] [] p5) p6])
  (ht:RB (.Name "ValueError" p1) "__init__" p2 [.Name "self" p3,.Name "text" p4] p5)
  (hbz:∀(kV doc pm:Ur)(an:j7)(cdv ct:Ur)(us:jV),us.length=(["self", "text"]:List Str).length->bindArgs (PySem.W.fnOf "__init__" (WL "DealError") (Xi (Yy (Ki p i))) (Z6 (Yy (Ki p i))) (KY (Yy (Ki p i))) .none kV doc pm an cdv ct) ⟨us,[]⟩=pure ((["self", "text"]:List Str).zip us)) :
  ∃D f fd,Root p h mg i D f fd:=by
 obtain⟨D,ND,bm,mD,x⟩:=Y.cl _ hD;have:=x.root;subst this;obtain⟨f,fd,hf,FU⟩:=XSt.fun (st:=Yy (Ki p i)) x;exact⟨D,f,fd,by rw[n.eq_nsMap];exact x.ad,⟨ND,mD,x,hf⟩,XSt.clsFn (st:=Yy (Ki p i)) x Y.st hf,FU.binds hbz,λP w base=>Ev FU hn hm hb ht⟩
theorem On(n:h.Ns mainGlobals mg)(Y:XYP p l h){D f:Uu}{fd:Uv}(R:Root p h mg i D f fd)(hc:c∈l):CK (whole h) mg c.1:=by
 obtain⟨C,N,bm,mN,x⟩:=Y.cl _ hc;obtain⟨ND,mD,xD,hf⟩:=R.ex;cases hz:c.2 with
 |none=>rw[hz]at x;exact⟨C,bm,by rw[n.eq_nsMap];exact x.ad,XSt.clsK n x xD (f:=f) hf⟩
 |some k=>rw[hz]at x;obtain⟨f',o,pm,cd,doc,h1,h2⟩:=x.init;exact⟨C,bm,by rw[n.eq_nsMap];exact x.ad,XSt.clsK n x xD (f:=f') h1⟩
theorem GA(n:h.Ns mainGlobals mg)(Y:XYP p l h){D f:Uu}{fd:Uv}(R:Root p h mg i D f fd){nm:Str}(hc:(nm,O j)∈l)(hf:ZV nm≠[]){ps:List Str}(P:Ut)(w:World)(base:Heap)
  (hbz:∀(kV doc pm:Ur)(an:j7)(cdv ct:Ur)(us:jV),us.length=ps.length->bindArgs (PySem.W.fnOf "__init__" (WL nm) (Xi (Yy (Ki p j))) (Z6 (Yy (Ki p j))) (KY (Yy (Ki p j))) .none kV doc pm an cdv ct) ⟨us,[]⟩=pure (ps.zip us))
  (ok:∀{f':Uu}{fd':Uv},Fun (whole h) "__init__" (WL nm) (Yy (Ki p j)) f' fd'->FnOk P w (whole h) mg base CX0 2 f' fd' ps (Pc (KC (whole h)) (ZV nm))):MkX P w (whole h) mg base nm 2:=by
 obtain⟨C,N,bm,mN,x⟩:=Y.cl _ hc;obtain⟨ND,mD,xD,hi⟩:=R.ex;obtain⟨f',fd',hf',FU⟩:=XSt.fun (st:=Yy (Ki p j)) x;have ck:=XSt.clsK n x xD (f:=f') hf';exact⟨C,bm,f',fd',_,_,by rw[n.eq_nsMap];exact x.ad,x.keep,ck,λM h' k=>(x.keeps (Tu k)).xcls (xD.keeps (Tu k)) hf',ok FU,FU.binds hbz,CL ck hf⟩
end
theorem XT{q p:Ut}{loose:List Str}{mean:ExcName->jW}{mg mb:Str->jW}{h:Heap}{ix:j9}(P:Ut)(w:World)(base:Heap){ps:List Str}{k n:Nat}{F:jT->Option XR}(T:Top q loose mean mg mb h)(e:recsOf q=WP p ix)(i:Nat)(x:Str)(hi:ix.contains i=jR)(hn:Td (Ki p i)=O x)
  (ok:∀{f:Uu}{fd:Uv},Fun (whole h) x x (Ki p i) f fd->FnOk P w (whole h) mg base (CX1 P w) k f fd ps (spX (whole h) n F))
  (hb:∀(kV doc pm:Ur)(an:j7)(cdv ct:Ur)(us:jV),us.length=ps.length->bindArgs (PySem.W.fnOf x x (Xi (Ki p i)) (Z6 (Ki p i)) (KY (Ki p i)) .none kV doc pm an cdv ct) ⟨us,[]⟩=pure (ps.zip us)):Zg P w (whole h) mg base x k n F:=by
 obtain⟨f,fd,m,FU⟩:=T2 T e i x hi hn;exact⟨f,fd,ps,m,FU.kp,FU.binds hb,ok FU⟩
theorem BH{l:PySem.W.OpenLaw}{n k:Nat}{q:Ut}{loose:List Str}{XP:(Str->jW)->Heap->Prop}{YP:World->Heap->Prop}{d:DefRec}{F:jT->jY}{x:Str}
  (hn:l.most=O n) (hn2:n<=Ux) (hdf:d.params.defaults=[]) (hr:Room k callerA)
  (hF:∀(w:World)(s₀:Us)(mg mb:Str->jW)(fa:Uu)(h:Heap),PySem.W.Ground q loose [] XP w s₀ mg mb h->YP w h->mg d.name=O (.ref fa) ->
   ∃fd:Uv,(∀(s:Us)(u:Ur),BindsTo s fd ⟨[u],[]⟩ [(x,u)])/\∀base:Heap,FnOk l.prog w (whole h) mg base CX0 k fa fd [x] (spD (whole h) 1 F))
  (hl:∀ns:jU,ns.length<=n->F [.list (ns.map int)]=O (.bool jR)) :
  PySem.W.WalkO q loose XP YP l.row.toRowW d [] (λf vs=>PySem.call f vs):=by
 refine Att.attach_call hn hdf λw s₀ s₁ mg mb fa o pm cd doc a vs ns G Y ho hd hcd hmg hobj hints hlen hg=>?_
 obtain⟨fd,hb,hF⟩:=hF w s₀ mg mb fa _ G Y hmg;exact CV (Bw _) G.T.g G.T.b G.T.builtins G.T.nolimit hg hobj hints (Qz hlen hn2) hr (λbase _ _=>hF base) hb (λH hO hS=>FT hS (hl ns hlen)) λH e s' z=>z
section
variable{α β:Type}{Z Z1 Z2 Z3 Z':UR}{f:M D}{s t:SM}{Q:Out->Prop}{d:D}{ds fs:jT}{nm x:Str}{o:Out}
theorem X8{g:M jT}(h1:g Z=.ok ds Z1)(h2:X1 nm ds=O fs):Wa nm g Z=.ex Z1 (exD nm fs):=by unfold Wa sB;rw[h1];dsimp only;rw[h2]
theorem Om{f:M XR}{g:D->SM}(h1:f Z=.ok (.val d) Z1)(h2:g d Z1=o):sX f g Z=o:=by unfold sX;rw[h1];exact h2
theorem YS{f:M XR}{g:D->SM}(h1:f Z=.ok (.exc d) Z1):sX f g Z=.ex Z1 d:=by unfold sX;rw[h1]
theorem Yz{n:Nat}{F:jT->Option XR}{g:M jT}{xs:jT}{r:XR}(h1:g Z=.ok xs Z1)(h2:xs.length=n)(h3:F xs=O r):ZH n F g Z=.ok r Z1:=by unfold ZH;exact KG h1 (by rw[Qs h2];exact Zx h3)
theorem Er{i:Nat}(h1:s Z=.ex Z1 d)(h2:TZ x d=jR)(h3:i<Z1.length)(h4:t (Z1.set i (O (.pub d)))=.nx Z2)(h5:Z2.set i jQ=Z'):Xu i x s t Z=.nx Z':=by unfold Xu;rw[h1];dsimp only;rw[if_pos ⟨h2,h3⟩,h4,←h5]
theorem Th{c:String}{t:Bool}(h:f Z=.ok d Z1)(ht:Kh d c=t):U3 (λd=>UE (Kh d c)) f Z=.ok (UE t) Z1:=by subst ht;exact K3 (k:=λd=>UE (Kh d c)) h
theorem RO{c:String}{kvs:List (D×D)}(h:f Z=.ok (.dict kvs) Z1)(hc:(("dict" == c) || ("" == c))=jS:=by decide):U3 (λd=>UE (Kh d c)) f Z=.ok (UE jS) Z1:=Th h (nty hc)
theorem YX{c:String}{kvs:List (D×D)}(h:f Z=.ok (.dict kvs) Z1)(hc:(("dict" == c) || ("" == c))=jS:=by decide):Kf (K0 (U3 (λd=>.bool (Kh d c)) f)) Z=.ok jR Z1:=KQ h (by rw[nty hc];rfl)
noncomputable def OutX(r:XR):Out->Prop
 |.rt d=>r=.val d
 |.nx _=>r=.val .none
 |.ex _ d=>r=.exc d/\W3 d=jR
 |_=>False
theorem XM{N:List Str}{r:XR}(h0:ZN N ds=Z)(h:Ho s Z (OutX r)):Zo N s ds=O r:=by
 subst h0;have h:=h.out;unfold Zo;cases z:s (ZN N ds)with
 |rt d=>rw[z]at h;rw[show r=.val d from h]
 |nx Z'=>rw[z]at h;rw[show r=.val .none from h]
 |ex Z' d=>rw[z]at h;dsimp only;rw[if_pos h.2,h.1]
 |ro _=>rw[z]at h;exact h.elim
 |bk Z'=>rw[z]at h;exact h.elim
 |ct Z'=>rw[z]at h;exact h.elim
 |bad=>rw[z]at h;exact h.elim
noncomputable def fb(p:D->Bool):Nat->jT->Option Nat
 |_,[]=>jQ
 |k,x::r=>if p x=jR then fb p (k+1) r else O k
noncomputable def Gj:Out->Prop
 |.rt _=>True
 |.ex _ _=>True
 |_=>False
structure fbQ(p:D->Bool)(xs:jT)(I:UR->Prop)(Q:Out->Prop)(x:D)(j:Nat)(o:Out):Prop where
 out:(p x=jR/\∃Z2,o=.nx Z2/\I Z2)∨(p x=jS/\Gj o/\(fb p 0 xs=O j->Q o))
theorem Sq{p:D->Bool}{xs:jT}{I:UR->Prop}{x:D}{j:Nat}(hp:p x=jR)(h:I Z):fbQ p xs I Q x j (.nx Z):=⟨.inl ⟨hp,Z,rfl,h⟩⟩
theorem Ol{p:D->Bool}{xs:jT}{I:UR->Prop}{x:D}{j:Nat}(hp:p x=jS)(h:fb p 0 xs=O j->Q (.rt d)):fbQ p xs I Q x j (.rt d):=⟨.inr ⟨hp,trivial,h⟩⟩
theorem Oj{p:D->Bool}{xs:jT}{I:UR->Prop}{x:D}{j:Nat}(hp:p x=jS)(h:fb p 0 xs=O j->Q (.ex Z d)):fbQ p xs I Q x j (.ex Z d):=⟨.inr ⟨hp,trivial,h⟩⟩
theorem Rg{f:M jT}{sg:D->UR->jZ}{xs:jT}(p:D->Bool)(I:UR->Prop)(h1:f Z=.ok (ZQ 0 xs) Z1)(h0:I Z1)
  (hst:∀x∈xs,∀(j:Nat) Z,j<xs.length->I Z->∃Z1,sg (.tuple [.int j,x]) Z=O Z1/\Ho s Z1 (fbQ p xs I Q x j))
  (hend:fb p 0 xs=jQ->∀Z,I Z->Q (.nx Z)):Ho (Kr f sg s) Z Q:=by
 constructor;unfold Kr sB;rw[h1];dsimp only
 have key:∀(ys:jT)(k:Nat)(Z:UR),I Z->(∀x∈ys,x∈xs)->k+ys.length<=xs.length->fb p k ys=fb p 0 xs->Q (Zh sg s (ZQ k ys) Z):=by
  intro ys;induction ys with
  |nil=>intro k Z hi _ _ he;exact hend he.symm Z hi
  |cons x r ih=>
   intro k Z hi hm hl he;rw[QB]at hl;obtain⟨Z2,e2,a1⟩:=hst x (hm x Qo) k Z (by lia) hi;rw[ZQ,Zh,e2];dsimp only;rw[fb]at he;rcases a1.out.out with ⟨hp,Z3,e3,i3⟩|⟨hp,b1,b2⟩
   .rw[hp,Qs jP]at he
    rw[e3];exact ih (k+1) Z3 i3 (λy hy=>hm y (Qp _ hy)) (by lia) he
   .rw[hp,QE (by decide)]at he
    have b2:=b2 he.symm;cases z:s Z2 with
    |rt d=>rw[z]at b2;exact b2
    |ex Z' d=>rw[z]at b2;exact b2
    |nx Z'=>rw[z]at b1;exact b1.elim
    |ro _=>rw[z]at b1;exact b1.elim
    |bk Z'=>rw[z]at b1;exact b1.elim
    |ct Z'=>rw[z]at b1;exact b1.elim
    |bad=>rw[z]at b1;exact b1.elim
 exact key xs 0 Z1 h0 (λ_ h=>h) (by lia) jP
end
section
variable{X:Cx}{B G0:Hp}{KX:XW}{e o a b c:Uw}{pos p2:Pos}{es rest:jX}
noncomputable def RA:jT->jY
 |[.list xs]=>O (.tuple xs)
 |[.tuple xs]=>O (.tuple xs)
 |_=>jQ
theorem Gi:Yl X (.type "tuple") RA:=by
 refine⟨_,jC,λvs G H ds d Q s r e k=>?_⟩;unfold RA at e;split at e
 .cases e
  obtain⟨v,rfl,q⟩:=r.one_inv;obtain⟨l,ws,rfl,h1,r1⟩:=q.lst_inv;exact⟨l,ws,rfl,.inl ⟨s.seq h1,λp hp=>k _ _ _ (Ext.new s hp) (.tup (SqT.of KO) (r1.mono (Zk (s.free hp))))⟩⟩
 .cases e
  obtain⟨v,rfl,q⟩:=r.one_inv;obtain⟨l,ws,rfl,h1,r1⟩:=q.tup_inv;exact⟨l,ws,rfl,.inr ⟨ZR s h1,k _ G H (.refl s) (.tup h1 r1)⟩⟩
 .cases e
noncomputable def Vz:jT->jY
 |[.int i]=>O (.int (if i<0 then -i else i))
 |_=>jQ
theorem Gh:Yl X (.builtin "abs") Vz:=by
 refine⟨_,CZ,λvs G H ds d Q s r e k=>?_⟩;unfold Vz at e;split at e
 .cases e
  obtain⟨v,rfl,q⟩:=r.one_inv;exact⟨_,by rw[q.int_inv],k _ G H (.refl s) (.int _)⟩
 .cases e
theorem BG:bootBuiltins "abs" = O (.builtin "abs"):=by decide +kernel
end
end DL
namespace L2
open PySem PySem.Spec PyProof.Rows
end L2
namespace DL
open PySem PySem.Spec L2
open PyProof.Rows hiding St
end DL
namespace DL
open PySem PySem.Spec L2 PySem.SeqAt PySem.AutoSeq1
open PyProof.Rows hiding St
section
variable{X:Cx}{pins:List (Uu×Obj)}{s:Us}{σ:L2.St}{G H:Hp}{A:Around}
theorem Nm(I:Inv X pins σ H s){a:Uu}{kvs:List (Key×V)}(h:H a=O (.dK kvs)):(a==sysModules)=jS/\∃o es n vs,s.heap.get? a=O o/\o.cls=.type "dict" /\ o.data=.dict es n/\KV kvs vs/\Pairs (Tk X.prog X.w) es.toList vs:=by
 obtain⟨_,h0,vs,kv,o,es,ep,e1,e2,e3,_,e5,_⟩:=(show kvs.length<=Ux/\(a==sysModules)=jS/\∃vs,KV kvs vs/\s.heap.DictOf (Tk X.prog X.w) a vs from I.hok a _ h)
 exact⟨h0,o,es,ep,vs,e1,e2.1,e3,kv,e5⟩
end
end DL
namespace DL
open PySem PySem.Spec L2
open PyProof.Rows hiding St
noncomputable def Y3:D->Bool
 |.int _=>jR
 |.str _=>jR
 |_=>jS
mutual
noncomputable def K5:D->Bool
 |.none | .bool _ | .int _=>jR
 |.str x=>UG x
 |.list xs | .tuple xs=>Xm xs
 |.dict kvs=>layKv kvs
noncomputable def Xm:jT->Bool
 |[]=>jR
 |x::xs=>K5 x&&Xm xs
noncomputable def layKv:List (D×D)->Bool
 |[]=>jR
 |(k,v)::r=>Y3 k&&K5 v&&layKv r
end
theorem N6:∀{ks:ka}{ds:jT},ks.length=ds.length->layKv ((ks.map kD).zip ds)=jR->Xm ds=jR
 |[],[],_,_=>rfl
 |[],_::_,h,_=>by simp at h
 |_::_,[],h,_=>by simp at h
 |k::ks,d::ds,h,c=>by rw[QA,JI,layKv,Qr,Qr]at c;rw[Xm,c.1.2,N6 (by simpa using h) c.2];rfl
theorem Lm{P:Ut}{w:World}:∀{es:List DictEntry}{vs:List (Key×Ur)},Pairs (Tk P w) es vs->es.map (·.val)=vs.map (·.2)
 |_,_,.nil=>rfl
 |_,_,.cons _ h t=>by rw[QA,QA,h,Lm t]
theorem AQ{P:Ut}{w:World}{h:Heap}{es:List DictEntry}{vs:List (Key×Ur)}(p:Pairs (Tk P w) es vs):ReadsAll h (es.map (·.key)) ((vs.map (·.1)).map kD) []:=by
 induction p with
 |nil=>exact .nil
 |@cons e kv es kvs hk _ t ih=>
  have hk:RM kv.1 e.key=jR:=hk;rw[QA,QA,QA];rcases XZ hk with ⟨i,t,e1,e2⟩|⟨x,t,e1,e2⟩
  .rw[e1,e2];exact .cons (as:=[]) (.int i t) ih
  .rw[e1,e2];exact .cons (as:=[]) (.str x t) ih
theorem N5:∀{ks:ka}{vs:List V}{ws:List (Key×Ur)},ks.length=vs.length->KV (ks.zip vs) ws->ws.map (·.1)=ks/\Vals vs (ws.map (·.2))
 |[],[],_,_,h=>by cases h;exact⟨rfl,.nil⟩
 |[],_::_,_,h,_=>by simp at h
 |_::_,[],_,h,_=>by simp at h
 |k::ks,v::vs,_,hl,h=>by
  rw[JI]at h;cases h with
  |cons a b=>obtain⟨e1,e2⟩:=N5 (by simpa using hl) b;exact⟨by rw[QA,e1,←a.1],.cons a.2 e2⟩
def SmK(K:Frag):Prop:=∃o es n,K.lookup sysModules=O o/\o.data=.dict es n
theorem Gz{h:Heap}(x:h.NoSeer):SmK (whole h):=by obtain⟨mm,⟨o',es,ep,e',d,_⟩,_⟩:=x.mods;exact⟨o',es,ep,by rw[Yj];exact e',d⟩
section
variable{X:Cx}{pins:List (Uu×Obj)}{s:Us}{σ:L2.St}{G H:Hp}
theorem N4(I:Inv X pins σ H s)(hK:SmK X.K):H sysModules=jQ:=by obtain⟨o,es,n,e,_⟩:=hK;exact(I.bs _ _ (I.mod.kin _ _ e)).2
theorem Ep(I:Inv X pins σ H s)(hK:SmK X.K){a:Uu}{xs:List V}(h:SqL X.K H a xs):a≠sysModules:=by
 intro e;subst e;rcases h with h|⟨o,its,n,hk,_,_,hs,_⟩
 .rcases h with h|⟨o,h⟩
  .rw[N4 I hK]at h;cases h
  .rw[N4 I hK]at h;cases h
 .obtain⟨o',es,m,e,d⟩:=hK
  rw[hk]at e;cases e;rw[hs]at d;cases d
mutual
theorem Nl(I:Inv X pins σ H s)(sg:Same G H)(hK:SmK X.K):∀{v:V}{d:D}{u:Ur},Rep X.K G v d->RelV v u->K5 d=jR->∃as,Reads s.heap u d as/\sysModules∉as
 |_,_,_,.non,r,_=>by cases r;exact⟨_,.none,by simp⟩
 |_,_,_,.bl b,r,_=>by cases r;exact⟨_,.bool b,by simp⟩
 |_,_,_,.int i,r,_=>by obtain⟨t,rfl⟩:=r;exact⟨_,.int i t,by simp⟩
 |_,_,_,.str x,r,_=>by obtain⟨t,rfl⟩:=r;exact⟨_,.str x t,by simp⟩
 |_,_,_,.lst h q,r,c=>by cases r;obtain⟨its,rv,⟨o,n,e,hc,_,hd⟩,hz⟩:=I.list (sg.seq h);obtain⟨as,ra,hn⟩:=readsAll_z I sg hK q rv (show Xm _=jR by simpa[K5]using c);refine⟨_,.list e hc hd (by simpa using ra),?_⟩;simp only[Qu,not_or];exact⟨λz=>Ep I hK (sg.seq h) z.symm,hn⟩
 |_,_,_,.tup h q,r,c=>by cases r;obtain⟨its,rv,p,hz⟩:=I.tuple (ZR sg h);obtain⟨o,e,hc,n,hd⟩:=p;obtain⟨as,ra,hn⟩:=readsAll_z I sg hK q rv (show Xm _=jR by simpa[K5]using c);exact⟨_,.tuple e hc hd (by simpa using ra),hn⟩
 |_,_,_,.dic h,r,c=>by
  cases r;obtain⟨p0,o,es,n,vs,e1,e2,e3,kv,ps⟩:=Nm I (sg _ _ h);cases kv
  have z1:es.toList=[]:=by
   cases hz:es.toList with
   |nil=>rfl
   |cons c r=>rw[hz]at ps;cases ps
  refine⟨_,.dict (kvs:=[]) e1 e2 e3 (by rw[z1];exact .nil) (by rw[z1];exact .nil),?_⟩;simp only[Q4,QN];intro z;rw[←z]at p0;simp at p0
 |_,_,_,.exc _ _ _ _,r,c=>by simp[K5,layKv,Y3]at c
 |_,_,_,@Rep.dct _ _ ad ks vs ds kvs e hne hl h q,r,c=>by
  cases r;obtain⟨p0,o,es,n,ws,e1,e2,e3,kv,ps⟩:=Nm I (sg _ _ h);obtain⟨k1,k2⟩:=N5 (by rw[hl,q.length]) kv;have cd:Xm ds=jR:=N6 hl (by rw[←e];simpa[K5]using c);obtain⟨bs,rb,hn⟩:=readsAll_z I sg hK q k2 cd;have hkeys:=AQ (h:=s.heap) ps;rw[k1]at hkeys;have f1:kvs.map (·.1)=ks.map kD:=by rw[e];exact List.map_fst_zip (by rw[Qd];lia)
  have f2:kvs.map (·.2)=ds:=by rw[e];exact List.map_snd_zip (by rw[Qd];lia)
  refine⟨_,.dict (kvs:=kvs) e1 e2 e3 (by rw[f1];exact hkeys) (by rw[f2,Lm ps];exact rb),?_⟩;simp only[List.cons_append,Jf,Qu,not_or];refine⟨?_,hn⟩;intro z;rw[←z]at p0;simp at p0
 |_,_,_,.dtt e _ _ _,r,c=>by subst e;simp[K5,layKv,Y3,pdD]at c
theorem readsAll_z(I:Inv X pins σ H s)(sg:Same G H)(hK:SmK X.K):∀{vs:List V}{ds:jT}{us:jV},Reps X.K G vs ds->Vals vs us->Xm ds=jR->∃as,ReadsAll s.heap us ds as/\sysModules∉as
 |_,_,_,.nil,r,_=>by cases r;exact⟨_,.nil,by simp⟩
 |_,_,_,.cons h t,r,c=>by
  cases r with
  |cons r1 r2=>have c':=c;rw[Xm,Qr]at c';obtain⟨as,ra,n1⟩:=Nl I sg hK h r1 c'.1;obtain⟨bs,rb,n2⟩:=readsAll_z I sg hK t r2 c'.2;exact⟨_,.cons ra rb,by simp[n1,n2]⟩
end
end
section
variable{X:Cx}
noncomputable def Vb:jT->jY
 |[d]=>if K5 d=jR/\d.showable=jR/\d.depth<=50/\d.shown.length<=1000000 then O (.str d.shown)else jQ
 |_=>jQ
theorem AO(hu:X.A.units+64<cLine)(hg:X.A.guards=O [])(hK:SmK X.K):ZW X (.builtin "repr") (λxs H Q=>∃G v d,xs=[v]/\Same G H/\Rep X.K G v d/\K5 d=jR/\d.showable=jR/\d.depth<=50/\d.shown.length<=1000000/\Q (.str d.shown) H):=by
 intro pins s σ H xs us Q I rx h;obtain⟨G,v,d,rfl,sg,r,c1,c2,c4,c5,q⟩:=h;obtain⟨u,rfl,ru⟩:=rx.one;obtain⟨as,ra,hn⟩:=Nl I sg hK r ru c1;have fin:∀h'(t:Tok) tk,(∀b o,s.heap.get? b=O o->h'.get? b=O o)->EP X pins σ Q (.str d.shown t) {s with heap:=h',toks:=tk}:=λh' t tk hk=>⟨.str d.shown,H,I.kept hk,⟨t,rfl⟩,q⟩
 cases r with
 |non=>cases ru;exact P.repr_of_none (fin s.heap _ _ λ_ _ e=>e)
 |bl b=>cases ru;exact P.repr_of_bool (fin s.heap _ _ λ_ _ e=>e)
 |int i=>obtain⟨t,rfl⟩:=ru;exact P.repr_of_int (by have:(int i).showable=jR:=c2;simpa[PyData.showable]using this) (fin s.heap _ _ λ_ _ e=>e)
 |str x=>obtain⟨t,rfl⟩:=ru;exact P.repr_of_str (fin s.heap _ _ λ_ _ e=>e) (Qz c5 lim)
 |lst h r=>cases ru;exact repr_of_reads' ra c2 (λ_=>hn) hg (by lia) (λ_ _ e=>e) (λh' t tk hk=>fin h' t tk hk) (Qz c5 lim)
 |tup h r=>cases ru;exact repr_of_reads' ra c2 (λ_=>hn) hg (by lia) (λ_ _ e=>e) (λh' t tk hk=>fin h' t tk hk) (Qz c5 lim)
 |dic h=>cases ru;exact repr_of_reads' ra c2 (λ_=>hn) hg (by lia) (λ_ _ e=>e) (λh' t tk hk=>fin h' t tk hk) (Qz c5 lim)
 |exc _ _ _ _=>simp[K5,layKv,Y3]at c1
 |dct _ _ _ _ _=>cases ru;exact repr_of_reads' ra c2 (λ_=>hn) hg (by lia) (λ_ _ e=>e) (λh' t tk hk=>fin h' t tk hk) (Qz c5 lim)
 |dtt e _ _ _=>subst e;simp[K5,layKv,Y3,pdD]at c1
theorem Eo(hu:X.A.units+64<cLine)(hg:X.A.guards=O [])(hK:SmK X.K):Yl X (.builtin "repr") Vb:=by
 refine⟨_,AO hu hg hK,λvs G H ds d Q s r e k=>?_⟩;unfold Vb at e;split at e
 .split at e
  .rename_i x c
   cases e;obtain⟨v,rfl,q1⟩:=r.one_inv;exact⟨G,v,_,rfl,s,q1,c.1,c.2.1,c.2.2.1,c.2.2.2,k _ G H (.refl s) (.str _)⟩
  .cases e
 .cases e
theorem BF{d:D}(c:K5 d=jR/\d.showable=jR/\d.depth<=50/\d.shown.length<=1000000):Vb [d]=O (.str d.shown):=by unfold Vb;exact Qs c
noncomputable def Xx:D->D->j8
 |.str a,.str b=>O (!(a==b))
 |_,_=>jQ
theorem Gg:OpB X (UA .NotEq) Xx:=by
 refine⟨λv u H Q=>∃a b,v=.str a/\u=.str b/\Q (.bl (!(a==b))) H,?_,λv u G H x y d Q s rx ry e k=>?_⟩
 .intro pins s σ H x y v u Q I rx ry h
  obtain⟨a,b,rfl,rfl,q⟩:=h;obtain⟨t,rfl⟩:=rx;obtain⟨t2,rfl⟩:=ry;exact SeqAt.RcNeAt.str_str a t b t2 X.prog X.w X.xe _ ⟨.bl _,H,I,rfl,q⟩
 .unfold Xx at e
  split at e
  .cases e
   exact⟨_,_,rx.str_inv,ry.str_inv,k⟩
  .cases e
theorem Cz{a:Str}:Xx (.str a) (.str a)=O jS:=by unfold Xx;simp
end
end DL
namespace L2
open PySem PySem.Spec PyProof.Rows
end L2
namespace DL
open PySem PySem.Spec L2
open PyProof.Rows hiding St
section
variable{X:Cx}
noncomputable def Vw:D->D->j8
 |.bool c,.bool b=>O (c==b)
 |_,_=>jQ
theorem Gy:OpR X (UA .Is) (λx y H Q=>∃c b,x=.bl c/\y=.bl b/\Q (.bl (c==b)) H):=by intro pins s σ H x y v u Q I rx ry h;obtain⟨c,b,rfl,rfl,q⟩:=h;cases rx;cases ry;unfold UA;refine Qb (wpAny_of_eq (a:=(c==b)) (by cases c<;>cases b<;>rfl) (Qg (RQ I q jP)))
theorem Ge:OpB X (UA .Is) Vw:=⟨_,Gy,λv u G H x y d Q s rx ry e q=>by
 unfold Vw at e;split at e
 .cases e;exact⟨_,_,rx.bl_inv,ry.bl_inv,q⟩
 .cases e⟩
end
end DL
namespace L2
open PySem PySem.Spec PyProof.Rows
end L2
namespace DL
open PySem PySem.Spec L2
open PyProof.Rows hiding St
section
variable{prog:Ut}{w:World}{A:Around}{E:Ur->Us->Prop}{s:Us}
theorem Cy{it t:Uu}{i:Nat}{items:Array Ur}{x:Ur}{Q:Ur->Us->Prop}(hit:s.heap.IsTupleIter it t i)(ht:s.heap.IsTuple t items)(hx:items[i]?=O x)
  (hQ:∀h',h'.IsTupleIter it t (i+1)->Heap.SameBut it s.heap h'->Q x {s with heap:=h'}):Uy (model prog w) A (Builtin.SmallTypes.nextOf (.ref it)) Q E s:=by
 obtain⟨o,ho,hc,hd⟩:=id hit;obtain⟨ol,hol,_,nl,hdl⟩:=ht;unfold Builtin.SmallTypes.nextOf
 refine Qb (Ji (name:=UL "__next__") hit.typeIs JA
  (Js JA hit.typeIs F.entry_tuple_iterator_next ?_ (F.args_tuple_iterator_next_1 _)))
 show Uy _ _ (field (.ref it) 0 >>= _) _ _ s;refine Qb (QC ho hd (x:=.ref t) jP ?_);show Uy _ _ (if(Value.ref t==Value.none)=jR then _ else _) _ _ s;rw[QE (show ¬((Value.ref t==Value.none)=jR)from JQ)];show Uy _ _ (field (.ref it) 1 >>= _) _ _ s;refine Qb (QC ho hd (x:=.int i 0) jP ?_);show Uy _ _ (seqItems? (.ref t) >>= _) _ _ s;refine Qb (Jj hol hdl ?_);simp only[QY,hx];refine wpAny_bind (wpAny_setField ho hd (by simp) (wpAny_pure ⟨x,rfl,wpAny_pure (hQ _ ?_ (Heap.SameBut.update ..))⟩));exact⟨_,Q3 _ ho (Jy (JK hd _)),(Obj.cls_mapFields ..).trans hc,by rw[Obj.data_mapFields hd];simp[rawInt]⟩
theorem En{it t:Uu}{i:Nat}{items:Array Ur}{Q:Ur->Us->Prop}(hh:A.handled=jQ)(hit:s.heap.IsTupleIter it t i)(ht:s.heap.IsTuple t items)(hx:items[i]?=jQ)
  (hE:∀h' e,Heap.ExtBut it s.heap h'->(∃o,h'.get? e=O o/\o.cls=.type "StopIteration")->E (.ref e) {s with heap:=h'}):Uy (model prog w) A (Builtin.SmallTypes.nextOf (.ref it)) Q E s:=by
 obtain⟨o,ho,hc,hd⟩:=id hit;obtain⟨ol,hol,_,nl,hdl⟩:=ht;unfold Builtin.SmallTypes.nextOf
 refine Qb (Ji (name:=UL "__next__") hit.typeIs JA
  (Js JA hit.typeIs F.entry_tuple_iterator_next ?_ (F.args_tuple_iterator_next_1 _)))
 show Uy _ _ (field (.ref it) 0 >>= _) _ _ s;refine Qb (QC ho hd (x:=.ref t) jP ?_);show Uy _ _ (if(Value.ref t==Value.none)=jR then _ else _) _ _ s;rw[QE (show ¬((Value.ref t==Value.none)=jR)from JQ)];show Uy _ _ (field (.ref it) 1 >>= _) _ _ s;refine Qb (QC ho hd (x:=.int i 0) jP ?_);show Uy _ _ (seqItems? (.ref t) >>= _) _ _ s;refine Qb (Jj hol hdl ?_);simp only[QY,hx];refine wpAny_bind (wpAny_rule (wpAny_bind (wpAny_setField ho hd (by simp) ?_)));show Uy _ _ (newExc (.type "StopIteration") [] >>= _) _ _ _;refine Qb ?_;simp only[newExc,newTuple];refine Qb (JO ?_ (by size_fits));refine Qb (m:=firstArgMember _ _) (wpAny_of_eq (a:=Value.none) (by first|rfl|(simp only[firstArgMember];rfl)) ?_);refine JO ?_ (by size_fits);simp only[raiseNew];refine Qb (wpAny_handled ?_)
 first|rw[show A.in1.handled=jQ from hh] | rw[hh]
 refine Qb (Qg (wpAny_throw ?_));refine hE _ _ (λc o' c1 e=>?_) ⟨_,Qn _ jP,rfl⟩;exact Qe _ (Qe _ ((Heap.SameBut.update ..).extBut c o' c1 e))
theorem Em{z TI TO i1 i2 l1 l2:Uu}{k1 k2:Nat}{xs ys:Array Ur}{x y a b:Ur}{Q:jW->Us->Prop}(D:ZipApart z TI TO i1 i2 l1 l2)
  (hz:IsZip s.heap z TI TO .none) (hTI:IsPair s.heap TI (.ref i1) (.ref i2)) (hTO:IsPair s.heap TO a b)
  (h1:s.heap.IsTupleIter i1 l1 k1) (h2:s.heap.IsListIter i2 l2 k2) (hl1:s.heap.IsTuple l1 xs) (hl2:s.heap.IsList l2 ys) (hx:xs[k1]?=O x) (hy:ys[k2]?=O y)
  (hQ:∀h',IsZip h' z TI TO (rawInt s.heap.objs.size)->IsPair h' TO x y->h'.IsTupleIter i1 l1 (k1+1)->h'.IsListIter i2 l2 (k2+1)->IsPair h' s.heap.objs.size x y->h'.objs.size=s.heap.objs.size+1 ->
   (∀c o,c≠z->c≠TO->c≠i1->c≠i2->s.heap.get? c=O o->h'.get? c=O o)->Q (O (.ref s.heap.objs.size)) {s with heap:=h'}) :
  Uy (model prog w) A (pyNext (.ref z)) Q E s:=by
 have hT:s.TypeIs (.ref z) "zip" :=⟨_,hz,rfl⟩
 unfold pyNext;refine Qb (wpAny_attempt (Ji (name:=UL "__next__") hT F.slot_zip_next (Js F.slot_zip_next hT F.entry_zip_next ?_ (F.args_zip_next_1 _))));show Uy _ _ (field (.ref z) 2 >>= _) _ _ _;refine Qb (QC hz jP (x:=.bool jS) jP ?_);show Uy _ _ (field (.ref z) 3 >>= _) _ _ _;refine Qb (QC hz jP (x:=.ref TI) jP ?_);refine Qb (Jj hTI jP ?_);show Uy _ _ (Builtin.SmallTypes.ownedTupleIsFree (.ref z) >>= _) _ _ _;refine Qb ?_;unfold Builtin.SmallTypes.ownedTupleIsFree;refine Qb (QC hz jP (x:=.none) jP (Qg ?_));simp only[Up];refine Qb (wpAny_rule ?_);refine Qb (QC hz jP (x:=.ref TO) jP ?_);refine wpAny_bind (wpAny_setField_rec hz (by simp) λg1 z1 b1=>?_);replace z1:IsZip g1 z TI TO .ellipsis:=z1;refine Qb ?_;simp only[List.zipIdx_cons,List.zipIdx_nil,Ue,List.forIn_nil];refine Qb (Qb (wpAny_onRaise ?_));show Uy _ _ (Builtin.SmallTypes.nextOf (.ref i1) >>= _) _ _ _;refine Qb (Cy (h1.extBut b1.extBut D.i1z) (hl1.extBut b1.extBut D.l1z) hx λg2 t2 b2=>Qg ?_);have o2:IsPair g2 TO a b:=b2.extBut _ _ D.TOi1 (b1.extBut _ _ D.TOz hTO);refine Qb (Jj o2 jP ?_);refine Qb (wpAny_updateSeq_pair o2 λg3 o3 b3=>?_);replace o3:IsPair g3 TO x b:=o3;refine Qb (wpAny_letGo (Qg ?_));refine Qb (Qb (wpAny_onRaise ?_));show Uy _ _ (Builtin.SmallTypes.nextOf (.ref i2) >>= _) _ _ _;refine Qb (wpAny_nextOf_list_item (((h2.extBut b1.extBut D.i2z).extBut b2.extBut D.i12.symm).extBut b3.extBut D.TOi2.symm) (((hl2.extBut b1.extBut D.l2z).extBut b2.extBut D.l2i1).extBut b3.extBut D.l2TO) hy λg4 t4 b4=>Qg ?_);have o4:IsPair g4 TO x b:=b4.extBut _ _ D.TOi2 o3;refine Qb (Jj o4 jP ?_);refine Qb (wpAny_updateSeq_pair o4 λg5 o5 b5=>?_);replace o5:IsPair g5 TO x y:=o5;refine Qb (wpAny_letGo (Qg (Qg ?_)));refine Qb (Jj o5 jP ?_);refine Qb (wpAny_newTuple ?_);have hsz:g5.objs.size=s.heap.objs.size:=by rw[b5.1,b4.1,b3.1,b2.1,b1.1]
 have z5:IsZip g5 z TI TO .ellipsis:=b5.extBut _ _ D.TOz.symm (b4.extBut _ _ D.i2z.symm (b3.extBut _ _ D.TOz.symm (b2.extBut _ _ D.i1z.symm z1)))
 have k5:∀c o,c≠z->c≠TO->c≠i1->c≠i2->s.heap.get? c=O o->g5.get? c=O o:=λc o c1 c2 c3 c4 e=>
  b5.extBut _ _ c2 (b4.extBut _ _ c4 (b3.extBut _ _ c2 (b2.extBut _ _ c3 (b1.extBut _ _ c1 e))))
 have t15:g5.IsTupleIter i1 l1 (k1+1):=((t2.extBut b3.extBut D.TOi1.symm).extBut b4.extBut D.i12).extBut b5.extBut D.TOi1.symm;have t25:g5.IsListIter i2 l2 (k2+1):=t4.extBut b5.extBut D.TOi2.symm;have xV:z<g5.objs.size:=Qf z5;show Uy _ _ (Builtin.SmallTypes.ownedTupleHandOut (.ref z) (.ref g5.objs.size) >>= _) _ _ _;refine Qb ?_;unfold Builtin.SmallTypes.ownedTupleHandOut;have z6:IsZip (g5.push {cls:=.type "tuple", data:=.seq #[x,y]}) z TI TO .ellipsis:=Qe _ z5;refine wpAny_bind (wpAny_setField_rec z6 (by simp) λg7 z7 b7=>?_);replace z7:IsZip g7 z TI TO (rawInt g5.objs.size):=z7;refine wpAny_setField_rec z7 (by simp) λg8 z8 b8=>?_
 replace z8:IsZip g8 z TI TO (rawInt g5.objs.size):=z8;have up:∀c o,c≠z->g5.get? c=O o->g8.get? c=O o:=λc o c1 e=>b8.extBut _ _ c1 (b7.extBut _ _ c1 (Qe _ e));have p8:IsPair g8 g5.objs.size x y:=b8.extBut _ _ (Jl xV) (b7.extBut _ _ (Jl xV) (Qn _ jP));have e8:g8.objs.size=g5.objs.size+1:=by rw[b8.1,b7.1,QU]
 rw[hsz]at z8 p8 e8;refine Qg ⟨_,rfl,?_⟩;refine Qg ?_;show Q (O (Value.ref g5.objs.size)) _;rw[hsz];exact hQ g8 z8 (up _ _ D.TOz o5) (t15.at λo e=>up _ o D.i1z e) (t25.at λo e=>up _ o D.i2z e) p8 e8 λc o c1 c2 c3 c4 e=>up c o c1 (k5 c o c1 c2 c3 c4 e)
theorem Gx{z TI TO i1 i2 l1 l2:Uu}{k1:Nat}{xs:Array Ur}{a b:Ur}{Q:jW->Us->Prop}(hh:A.handled=jQ)(D:ZipApart z TI TO i1 i2 l1 l2)
  (hz:IsZip s.heap z TI TO .none) (hTI:IsPair s.heap TI (.ref i1) (.ref i2)) (hTO:IsPair s.heap TO a b) (h1:s.heap.IsTupleIter i1 l1 k1) (hl1:s.heap.IsTuple l1 xs) (hx:xs[k1]?=jQ)
  (hQ:∀h',(∀c o,c≠z->c≠TO->c≠i1->c≠i2->s.heap.get? c=O o->h'.get? c=O o)->Q jQ {s with heap:=h'}):Uy (model prog w) A (pyNext (.ref z)) Q E s:=by
 have hT:s.TypeIs (.ref z) "zip" :=⟨_,hz,rfl⟩
 unfold pyNext;refine Qb (wpAny_attempt (Ji (name:=UL "__next__") hT F.slot_zip_next (Js F.slot_zip_next hT F.entry_zip_next ?_ (F.args_zip_next_1 _))));show Uy _ _ (field (.ref z) 2 >>= _) _ _ _;refine Qb (QC hz jP (x:=.bool jS) jP ?_);show Uy _ _ (field (.ref z) 3 >>= _) _ _ _;refine Qb (QC hz jP (x:=.ref TI) jP ?_);refine Qb (Jj hTI jP ?_);show Uy _ _ (Builtin.SmallTypes.ownedTupleIsFree (.ref z) >>= _) _ _ _;refine Qb ?_;unfold Builtin.SmallTypes.ownedTupleIsFree;refine Qb (QC hz jP (x:=.none) jP (Qg ?_));simp only[Up];refine Qb (wpAny_rule ?_);refine Qb (QC hz jP (x:=.ref TO) jP ?_);refine wpAny_bind (wpAny_setField_rec hz (by simp) λg1 z1 b1=>?_);replace z1:IsZip g1 z TI TO .ellipsis:=z1;refine Qb ?_;simp only[List.zipIdx_cons,List.zipIdx_nil,Ue,List.forIn_nil];refine Qb (Qb (wpAny_onRaise ?_));show Uy _ _ (Builtin.SmallTypes.nextOf (.ref i1) >>= _) _ _ _;refine Qb (En hh (h1.extBut b1.extBut D.i1z) (hl1.extBut b1.extBut D.l1z) hx λg2 e b2 he=>?_);obtain⟨oe,hoe,hce⟩:=he;have z2:IsZip g2 z TI TO .ellipsis:=b2 _ _ D.i1z.symm z1;have hez:e≠z:=λx=>by subst x;rw[z2]at hoe;cases hoe;simp at hce
 refine wpAny_setField_rec z2 (by simp) λg3 _ b3=>?_
 refine Qb (wpAny_isInstance (T:= "StopIteration") (b:=jR) ⟨oe,b3.extBut _ _ hez hoe,hce⟩ isSubtype_stop ?_);exact Qg (hQ _ λc o c1 _ c3 _ x=>b3.extBut _ _ c1 (b2 _ _ c3 (b1.extBut _ _ c1 x)))
theorem Gw(l1 l2:Uu)(xs ys:Array Ur) :
  Meets (Builtin.«zip.__new__» ⟨[.type "zip", .ref l1,.ref l2],[]⟩) (λ_ R s=>s.heap.IsTuple l1 xs/\s.heap.IsList l2 ys/\∀g1 g2 g3 g4 g5:Heap,g1=s.heap.push {cls:=.type "tuple_iterator", data:=.fields #[.ref l1,.int 0 0]} ->
   g2=g1.push {cls:=.type "list_iterator", data:=.fields #[.ref l2,.int 0 0]}->g3=g2.push {cls:=.type "tuple", data:=.seq #[.ref s.heap.objs.size,.ref g1.objs.size]} ->
   g4=g3.push {cls:=.type "tuple", data:=.seq #[.none,.none]}->g5=g4.push {cls:=.type "zip", data:=.fields #[.none,.bool jS,.bool jS,.ref g2.objs.size,.ref g3.objs.size]} ->
   R (.ok (.ret (.ref g4.objs.size))) {s with heap:=g5}):=
 .of_wp λprog w A R s h=>by
  obtain⟨hp,g,d,tk,os⟩:=s;obtain⟨hl1,hl2,h⟩:=h;have hsub:=sub_zip;have hL1:Heap.IsTuple (Shared.heap ⟨hp,g,d,tk,os⟩) l1 xs:=hl1;have hL2:Heap.IsList (Shared.heap ⟨hp.push {cls:=.type "tuple_iterator", data:=.fields #[.ref l1,.int 0 0]},g,d,tk,os⟩) l2 ys:=Heap.IsList.push hl2 _
  wp_walk using wpAny_pyIter_tuple hL1,Jx hL2
  exact⟨_,rfl,h _ _ _ _ _ jP jP jP jP jP⟩
theorem El{l1 l2:Uu}{xs ys:Array Ur}{Q:Ur->Us->Prop}(hl1:s.heap.IsTuple l1 xs)(hl2:s.heap.IsList l2 ys)
  (h:∀h',IsZip h' (s.heap.objs.size+4) (s.heap.objs.size+2) (s.heap.objs.size+3) .none->IsPair h' (s.heap.objs.size+2) (.ref s.heap.objs.size) (.ref (s.heap.objs.size+1)) ->
   IsPair h' (s.heap.objs.size+3) .none .none->h'.IsTupleIter s.heap.objs.size l1 0->h'.IsListIter (s.heap.objs.size+1) l2 0->h'.objs.size=s.heap.objs.size+5 ->
   (∀c o,s.heap.get? c=O o->h'.get? c=O o)->Q (.ref (s.heap.objs.size+4)) {s with heap:=h'}) :
  Uy (model prog w) A (call (.type "zip") [.ref l1,.ref l2]) Q E s:=by
 refine callType_new F.called_zip (by decide) (F.typeCall_zip_2 _ _) (F.newCall_zip_2 _ _) (λobj=>F.args_object_init_3 obj _ _) F.entry_zip_new (Gw l1 l2 xs ys) ⟨hl1,hl2,?_⟩;intro g1 g2 g3 g4 g5 e1 e2 e3 e4 e5;have z1:g1.objs.size=s.heap.objs.size+1:=by rw[e1];exact QU ..
 have z2:g2.objs.size=s.heap.objs.size+2:=by rw[e2,QU,z1]
 have z3:g3.objs.size=s.heap.objs.size+3:=by rw[e3,QU,z2]
 have z4:g4.objs.size=s.heap.objs.size+4:=by rw[e4,QU,z3]
 have z5:g5.objs.size=s.heap.objs.size+5:=by rw[e5,QU,z4]
 have u5:∀c o,g4.get? c=O o->g5.get? c=O o:=λc o e=>by rw[e5];exact Qe _ e
 have u4:∀c o,g3.get? c=O o->g5.get? c=O o:=λc o e=>u5 c o (by rw[e4];exact Qe _ e)
 have u3:∀c o,g2.get? c=O o->g5.get? c=O o:=λc o e=>u4 c o (by rw[e3];exact Qe _ e)
 have u2:∀c o,g1.get? c=O o->g5.get? c=O o:=λc o e=>u3 c o (by rw[e2];exact Qe _ e)
 have u1:∀c o,s.heap.get? c=O o->g5.get? c=O o:=λc o e=>u2 c o (by rw[e1];exact Qe _ e)
 have a5:g5.get? g4.objs.size=O {cls:=.type "zip", data:=.fields #[.none,.bool jS,.bool jS,.ref g2.objs.size,.ref g3.objs.size]}:=by rw[e5];exact Qn _ jP
 have a4:g5.get? g3.objs.size=O {cls:=.type "tuple", data:=.seq #[.none,.none]}:=u5 _ _ (by rw[e4];exact Qn _ jP);have a3:g5.get? g2.objs.size=O {cls:=.type "tuple", data:=.seq #[.ref s.heap.objs.size,.ref g1.objs.size]}:=u4 _ _ (by rw[e3];exact Qn _ jP);have a2:g5.get? g1.objs.size=O {cls:=.type "list_iterator", data:=.fields #[.ref l2,.int 0 0]}:=u3 _ _ (by rw[e2];exact Qn _ jP);have a1:g5.get? s.heap.objs.size=O {cls:=.type "tuple_iterator", data:=.fields #[.ref l1,.int 0 0]}:=u2 _ _ (by rw[e1];exact Qn _ jP);rw[z2,z3,z4]at a5;rw[z1,z2]at a3;rw[z3]at a4;rw[z1]at a2;rw[z4];exact⟨⟨_,a5,rfl⟩,h _ a5 a3 a4 ⟨_,a1,rfl,rfl⟩ ⟨_,a2,rfl,rfl⟩ z5 u1⟩
end
end DL
namespace L2
open PySem PySem.Spec PyProof.Rows
noncomputable def Izt(K:Frag)(a b:Uu):It:=
 ⟨λi H=>∃xs x ys y,SqT K H a xs/\xs[i]?=O x/\SqL K H b ys/\ys[i]?=O y,
  λi H v H'=>∃p x y,H p=jQ/\v=.ref p/\(∀xs,SqT K H a xs->xs[i]?=O x)/\(∀ys,SqL K H b ys->ys[i]?=O y)/\H'=upd H p (.tup [x,y]),
  λi H=>∃xs,SqT K H a xs/\xs.length<=i⟩
theorem E5{P:Ut}{w:World}{K:Frag}{elts:jX}{x1}{tp:Pos}(a b z TI TO i1 i2:Uu)(Dz:ZipApart z TI TO i1 i2 a b) :
  Turn P w K (.Tuple elts x1 tp) (Izt K a b) [z,TI,TO,i1,i2] z (λi h=>IsZip h z TI TO .none/\IsPair h TI (.ref i1) (.ref i2)/\(∃c d,IsPair h TO c d)/\h.IsTupleIter i1 a i/\h.IsListIter i2 b i) where
 mem:=by simp
 obj:=λi h st c hc=>by
  obtain⟨h1,h2,⟨c0,d0,h3⟩,⟨o4,h4,_,d4⟩,⟨o5,h5,_,d5⟩⟩:=st;have hc':c=z∨c=TI∨c=TO∨c=i1∨c=i2:=by simpa using hc
  rcases hc' with rfl|rfl|rfl|rfl|rfl
  .exact⟨_,h1,λv q=>by have q':Data.fields _=Data.cell v:=q;cases q'⟩
  .exact⟨_,h2,λv q=>by have q':Data.seq _ _=Data.cell v:=q;cases q'⟩
  .exact⟨_,h3,λv q=>by have q':Data.seq _ _=Data.cell v:=q;cases q'⟩
  .exact⟨o4,h4,λv q=>by rw[d4]at q;cases q⟩
  .exact⟨o5,h5,λv q=>by rw[d5]at q;cases q⟩
 keep:=λi h h' st k=>by obtain⟨h1,h2,⟨c0,d0,h3⟩,h4,h5⟩:=st;exact⟨k z (by simp) _ h1,k TI (by simp) _ h2,⟨c0,d0,k TO (by simp) _ h3⟩,h4.at λo q=>k i1 (by simp) o q,h5.at λo q=>k i2 (by simp) o q⟩
 item:=by
  intro X hP hw hK hc i pins s σ H E I hf st hg;subst hP hw hK;obtain⟨h1,h2,⟨c0,d0,h3⟩,h4,h5⟩:=st;obtain⟨xs,x,ys,y,hq,hx,kF,hy⟩:=hg;obtain⟨its,rv,p,hz⟩:=I.tuple hq;obtain⟨its',xA,p',hz'⟩:=I.list kF;obtain⟨u,hu,ru⟩:=rv.get hx;obtain⟨u',hu',xT⟩:=xA.get hy;refine DL.Em Dz h1 h2 h3 h4 h5 (show s.heap.IsTuple a its.toArray from p) p'.isList (x:=u) (y:=u') (by simpa using hu) (by simpa using hu') λh' g1 g3 g4 g5 gp gs gk=>?_
  refine⟨_,rfl,wpAny_letOwnedTupleGo_zip g1 λh2' gz sb=>?_⟩;have xW:z<s.heap.objs.size:=Qf h1;have kI:Heap.SameBut z h' h2':=sb;have gp2:h2'.get? s.heap.objs.size=O {cls:=.type "tuple", data:=.seq #[u,u']}:=(kI.2 _ (Jl xW)).trans gp
  have kk:∀c o,c∉[z,TI,TO,i1,i2]->s.heap.get? c=O o->h2'.get? c=O o:=λc o hc q=>by
   have n1:c≠z:=λe=>hc (by simp[e])
   have n3:c≠TO:=λe=>hc (by simp[e])
   have n4:c≠i1:=λe=>hc (by simp[e])
   have n5:c≠i2:=λe=>hc (by simp[e])
   exact(kI.2 c n1).trans (gk c o n1 n3 n4 n5 q)
  have hn:H s.heap.objs.size=jQ:=I.hok.fresh (Ql _)
  have I2:Inv X pins σ (upd H s.heap.objs.size (.tup [x,y])) {s with heap:=h2'}:=
   I.turnedNew (t':=s.toks) (fp:=[z,TI,TO,i1,i2]) hf kk (Ql _) ⟨by show 2<=Ux;decide,[u,u'],.cons ru (.cons xT .nil),⟨_,gp2,rfl,_,rfl⟩⟩
  have gTI:IsPair h' TI (.ref i1) (.ref i2):=gk TI _ Dz.TIz Dz.TITO Dz.TIi1 Dz.TIi2 h2
  refine⟨.ref s.heap.objs.size,_,I2,rfl,⟨_,x,y,hn,rfl,λws hw=>by rw[I.tuple_inj hw hq];exact hx,λws hw=>by rw[I.list_inj hw kF];exact hy,rfl⟩,
   ⟨gz,(kI.2 _ Dz.TIz).trans gTI,⟨u,u',(kI.2 _ Dz.TOz).trans g3⟩,g4.at λo q=>(kI.2 _ Dz.i1z).trans q,g5.at λo q=>(kI.2 _ Dz.i2z).trans q⟩,λc hc=>?_⟩
  have hlt:c<s.heap.objs.size:=by
   have hc':c=z∨c=TI∨c=TO∨c=i1∨c=i2:=by simpa using hc
   rcases hc' with rfl|rfl|rfl|rfl|rfl
   .exact xW
   .exact Qf h2
   .exact Qf h3
   .obtain⟨o,ho,_⟩:=h4;exact Qf ho
   .obtain⟨o,ho,_⟩:=h5;exact Qf ho
  rw[Kp (QI hlt)];exact(hf c hc).1
 done:=by intro X hP hw hK hc i pins s σ H E I hf st hg;subst hP hw hK;obtain⟨h1,h2,⟨c0,d0,h3⟩,h4,h5⟩:=st;obtain⟨xs,hq,hx⟩:=hg;obtain⟨its,rv,p,hz⟩:=I.tuple hq;have hl:=rv.length;exact DL.Gx (I.ok.hd hc) Dz h1 h2 h3 h4 (show s.heap.IsTuple a its.toArray from p) (by simp;omega) λh' eb=>⟨rfl,I.turnedL (t':=s.toks) hf λc o hb q=>eb c o (λe=>hb (by simp[e])) (λe=>hb (by simp[e])) (λe=>hb (by simp[e])) (λe=>hb (by simp[e])) q⟩
 self:=λ_ _ _ _ _ st h=>wpAny_pyIter_zip st.1 h
section
variable{X:Cx}
noncomputable def iZt(K:Frag)(ta:TA):TI:=λσ H R=>ta σ H λvs H1=>∃a b xs ys,vs=[.ref a,.ref b]/\SqT K H1 a xs/\SqL K H1 b ys/\R (Izt K a b) H1
theorem Gd{a b:Uw}{ta:TA}{p pos:Pos}{elts:jX}{x1}{tp:Pos}(hg:Gl X "zip")(hm:X.mg "zip" = jQ)(ha:PA X [a,b] ta)
  (hs:Uz [a,b] X.env=[(jS,eval a X.env),(jS,eval b X.env)]:=by rfl) (hs2:Uz [b] X.env=[(jS,eval b X.env)]:=by rfl):PI X (.Tuple elts x1 tp) (.Call (.Name "zip" p) [a,b] [] pos) (iZt X.K ta):=by
 intro pins s σ H R I h;refine Call_ (XV I hg hm boot_zip (Jq (thn (ha pos pins s σ H _ I h) λus s1 ⟨vs,H1,I1,r1,q1⟩=>?_) (by rw[hs,hs2]) (by rw[hs2];rfl)));obtain⟨l1,l2,xs,ys,e,hq,kF,q⟩:=q1;subst e;cases r1 with
 |cons r rr=>
  cases rr with
  |cons r' rr=>
   cases rr;cases (show _=Value.ref l1 from r);cases (show _=Value.ref l2 from r');obtain⟨its,rv,pl,hz⟩:=I1.tuple hq;obtain⟨its',xA,xU,hz'⟩:=I1.list kF;have tl:s1.heap.IsTuple l1 its.toArray:=pl;have n1:l1<s1.heap.objs.size:=by obtain⟨_,e,_⟩:=id tl;exact Qf e
   have n2:l2<s1.heap.objs.size:=by obtain⟨_,e,_⟩:=id xU.isList;exact Qf e
   have ne:∀i j:Nat,i≠j->s1.heap.objs.size+i≠s1.heap.objs.size+j:=λi j h e=>h (Nat.add_left_cancel e);have m1:∀m:Nat,l1≠s1.heap.objs.size+m:=λm=>QI (Qy n1 (J0 _ _));have m2:∀m:Nat,l2≠s1.heap.objs.size+m:=λm=>QI (Qy n2 (J0 _ _));refine DL.El tl xU.isList λh' g1 g2 g3 g4 g5 gs kk=>?_;have I2:Inv X pins σ H1 {s1 with heap:=h'}:=I1.kept (t':=s1.toks) kk;refine wpAny_pyIter_zip g1 ?_
   refine⟨s1.heap.objs.size+4,[s1.heap.objs.size+4,s1.heap.objs.size+2,s1.heap.objs.size+3,s1.heap.objs.size,s1.heap.objs.size+1],_,_,H1,rfl,I2,
    E5 l1 l2 (s1.heap.objs.size+4) (s1.heap.objs.size+2) (s1.heap.objs.size+3) s1.heap.objs.size (s1.heap.objs.size+1) ⟨ne 2 4 (by decide),ne 3 4 (by decide),ne 0 4 (by decide),ne 1 4 (by decide),ne 2 3 (by decide),ne 2 0 (by decide),ne 2 1 (by decide),ne 3 0 (by decide),ne 3 1 (by decide),ne 0 1 (by decide),m1 4,m1 3,m1 0,m1 1,m2 4,m2 3,m2 0,m2 1⟩,⟨g1,g2,⟨_,_,g3⟩,g4,g5⟩,λc hc=>?_,q⟩
   have hc':s1.heap.objs.size<=c:=by
    have hc':c=s1.heap.objs.size+4∨c=s1.heap.objs.size+2∨c=s1.heap.objs.size+3∨c=s1.heap.objs.size∨c=s1.heap.objs.size+1:=by simpa using hc
    rcases hc' with rfl|rfl|rfl|rfl|rfl<;>first|exact J0 _ _|exact Ql _
   exact I1.fpOk hc' (I1.hok.fresh hc')
end
end L2
namespace DL
open PySem PySem.Spec L2
open PyProof.Rows hiding St
section
variable{X:Cx}{B G0:Hp}{e a b c tg:Uw}{pos:Pos}{es rest:jX}
theorem Cw{K:Frag}{G1:Hp}{a b:Uu}{vs ws:List V}{ds es:jT}(h:SqT K G1 a vs)(h':SqL K G1 b ws)(r:Reps K G1 vs ds)(r':Reps K G1 ws es)(hl:ds.length<=es.length):YT K (Izt K a b) (Zb ds es) G1 where
 go:=λi G H s1 s2 hi=>by
  unfold Zb at hi;rw[Qd,List.length_zip]at hi;have hi1:i<vs.length:=by rw[r.length];lia
  have hi2:i<ws.length:=by rw[r'.length];lia
  exact⟨vs,vs[i],ws,ws[i],ZR (s1.trans s2) h,Qh hi1,(s1.trans s2).seq h',Qh hi2⟩
 stop:=λi G H s1 s2 hi=>by
  unfold Zb at hi;rw[Qd,List.length_zip]at hi;refine⟨vs,ZR (s1.trans s2) h,?_⟩;rw[r.length]
  lia
 yld:=λi G H x H' d s1 s2 e y=>by
  obtain⟨p,u,v,hp,rfl,y1,y2,rfl⟩:=y;have z1:=y1 vs (ZR (s1.trans s2) h);have z2:=y2 ws ((s1.trans s2).seq h');unfold Zb at e;rw[Qi]at e;cases q:(ds.zip es)[i]? with
  |none=>rw[q]at e;cases e
  |some pr=>rw[q]at e;cases e;rw[List.getElem?_zip_eq_some]at q;obtain⟨u',e1,r1⟩:=r.get q.1;obtain⟨v',e2,r2⟩:=r'.get q.2;rw[z1]at e1;rw[z2]at e2;cases e1;cases e2;exact⟨upd G p (.tup [u,v]),Ext.new s2 hp,.tup (SqT.of KO) (.cons ((r1.mono s1).mono (Zk (s2.free hp))) (.cons ((r2.mono s1).mono (Zk (s2.free hp))) .nil))⟩
noncomputable def Tx:jT->Option jT
 |[.tuple xs,.list ys]=>if xs.length<=ys.length then O (Zb xs ys)else jQ
 |_=>jQ
theorem BE{x l:jT}(h:Tx x=O l):∃xs ys,x=[.tuple xs,.list ys]/\xs.length<=ys.length/\l=Zb xs ys:=by
 unfold Tx at h;split at h
 .split at h
  .rename_i hl
   cases h;exact⟨_,_,rfl,hl,rfl⟩
  .cases h
 .cases h
noncomputable def So(f:M jT):M jT:=U5 f λx=>U2 (Tx x)
theorem E4{f:M jT}{p2:Pos}{elts:jX}{x1}{tp:Pos}(hg:Gl X "zip")(hm:X.mg "zip" = jQ)(ha:PA X [a,b] (tDs X.K B G0 f))(hs:Uz [a,b] X.env=[(jS,eval a X.env),(jS,eval b X.env)]:=by rfl)(hs2:Uz [b] X.env=[(jS,eval b X.env)]:=by rfl) :
  PI X (.Tuple elts x1 tp) (.Call (.Name "zip" p2) [a,b] [] pos) (iD X.K B G0 (So f)):=YD (Gd hg hm ha hs hs2) λσ H R q=>tM.toI (R0:=Reps X.K) q λv H' G' Z' x k r a=>by
 cases z:Tx x with
 |none=>rw[z]at a;exact a.elim
 |some l=>
  rw[z]at a;obtain⟨xs,ys,rfl,hl,rfl⟩:=BE z;cases r with
  |cons r1 rr=>
   cases rr with
   |cons r2 rr=>cases rr;obtain⟨l1,vs,rfl,h1,q1⟩:=r1.tup_inv;obtain⟨l2,ws,rfl,h2,q2⟩:=r2.lst_inv;exact⟨l1,l2,vs,ws,rfl,ZR k.gh h1,k.gh.seq h2,a _ G' H' k (.refl _) (Cw h1 h2 q1 q2 hl)⟩
end
theorem Nk{Z Z1:UR}{g:M jT}{xs r:jT}(h1:g Z=.ok xs Z1)(h2:Tx xs=O r):So g Z=.ok r Z1:=by unfold So;exact KG h1 (Zx h2)
end DL
namespace L2
open PySem PySem.Spec PyProof.Rows
end L2
namespace DL
open PySem PySem.Spec L2
open PyProof.Rows hiding St
end DL
namespace L2
open PySem PySem.Spec PyProof.Rows
end L2
namespace DL
open PySem PySem.Spec L2
open PyProof.Rows hiding St
section
variable{K:Frag}{B G0 G H:Hp}{σ:St}{Z:UR}
structure NewT(K:Frag)(B G H:Hp)(σ:St)(Z:UR)(pt:Pat)(v:V)(d:D)(fp:j4):Prop where
 r:RepO K G H pt v d fp
 nd:fp.Nodup
 b:∀a∈fp,B a=jQ/\G a=jQ
 f:∀a∈fp,∀(j:Nat) es,Z[j]?=O (O (.own es))->σ[j]?≠O (O (.ref a))
 dp:∀a∈fp,∀(j:Nat) p d v fp',Z[j]?=O (O (.deep p d))->σ[j]?=O (O v)->RepO K G H p v d fp'->a∉fp'
theorem EOk.newT{G' H':Hp}{pt:Pat}{v:V}{d:D}{fp:j4}(k1:EOk K B G0 G H σ Z)(sh:Same H H')(r:RepO K G' H' pt v d fp)(nd:fp.Nodup)(fr:∀a∈fp,H a=jQ/\G' a=jQ):NewT K B G' H' σ Z pt v d fp where
 r:=r
 nd:=nd
 b:=λa m=>⟨k1.bh.free (fr a m).1,(fr a m).2⟩
 f:=λa m j es q w=>by obtain⟨b,us,g1,g2,g3,g4,g5⟩:=k1.own j es q;rw[g1]at w;cases w;rw[(fr a m).1]at g4;cases g4
 dp:=λa m j p d v fp' q s r=>k1.freshD sh (fr a m).1 q s r
theorem EOk.forget{i:Nat}(k:EOk K B G0 G H σ Z):EOk K B G0 G H σ (Z.set i jQ):=by
 have nz:∀{m:Nat}{s:Sl},(Z.set i jQ)[m]?=O (O s)->Z[m]?=O (O s):=λ{m s} q=>by
  by_cases z:i=m
  .subst z;have:=Yk q;cases this
  .rw[Qm z]at q;exact q
 exact⟨k.bh,k.gh,k.g0,k.np,by rw[Je];exact k.len,λj d q=>k.pub j d (nz q),λj ds q=>k.own j ds (nz q),λj l c es fs q1 q2 s1 s2=>k.sep j l c es fs (nz q1) (nz q2) s1 s2,
  k.dp.map (λm p d q=>⟨nz q,rfl⟩) (λm es q=>⟨es,nz q,rfl⟩) λm p d v fp q s r w n=>⟨r,w⟩⟩
theorem RepOl.leaf:∀{vs:List V}{ds:jT},Reps K G vs ds->RepOl K G H .leaf vs ds []
 |_,_,.nil=>.nil
 |_,_,.cons h t=>.cons (f1:=[]) (f2:=[]) (.leaf h) (RepOl.leaf t)
end
noncomputable def tT(K:Frag)(B G0:Hp)(pt:Pat)(f:M D):TE:=λσ H Q=>∃G Z,EOk K B G0 G H σ Z/\match f Z with
 |.ok d Z'=>∀v fp G' H',EOk K B G0 G' H' σ Z'->Same G G'->NewT K B G' H' σ Z' pt v d fp->Q v H'
 |.bad=>False
noncomputable def spT(K:Frag)(n:Nat)(pt:Pat)(F:jT->jY):Sp:=λvs H Q _=>∃G ds d,vs.length=n/\Same G H/\Reps K G vs ds/\F ds=O d/\∀v fp G' H',Ext G H G' H'->RepO K G' H' pt v d fp->fp.Nodup->(∀a∈fp,H a=jQ/\G' a=jQ)->Q v H'
noncomputable def tST(K:Frag)(B G0:Hp)(pt:Pat)(g:SM)(f:M D):TS:=λDn σ H=>∃G Z,EOk K B G0 G H σ Z/\match g Z with
 |.nx Z1=>(match f Z1 with
  |.ok d _=>∀v fp G' H',Ext G0 B G' H'->RepO K G' H' pt v d fp->fp.Nodup->(∀a∈fp,B a=jQ/\G' a=jQ)->Dn.rt v H'
  |.bad=>False)
 |_=>False
noncomputable def Tw(N:List Str)(g:SM)(f:M D)(ds:jT):jY:=match g (ZN N ds)with
 |.nx Z=>(match f Z with
  |.ok r _=>O r
  |.bad=>jQ)
 |_=>jQ
def DefT(P:Ut)(w:World)(K:Frag)(mg:Str->jW)(base:Heap)(x:Str)(k n:Nat)(pt:Pat)(F:jT->jY):Prop:=
 ∃(f:Uu)(fd:Uv)(ps:List Str),mg x=O (.ref f)/\PySem.W.keepIn K (.ref f)=jR/\Ym K fd ps []/\FnOk P w K mg base CX0 k f fd ps (spT K n pt F)
section
variable{X:Cx}{B G0:Hp}{KX:XW}{e o a b c:Uw}{pos:Pos}{es:jX}{st:Stmt}{sts:List Stmt}{pt:Pat}
theorem Gv{f:M D}(h:PE X e (tT X.K B G0 pt f)):PSs X [.Return (O e) pos] (tST X.K B G0 pt sNx f):=Su (SY (RS h)) λD σ H ⟨G,Z,k,a⟩=>by
 refine⟨G,Z,k,?_⟩;dsimp only[sNx]at a;cases z:f Z with
 |bad=>rw[z]at a;exact a.elim
 |ok ds Z'=>rw[z]at a;exact λv fp G' H' k' s' n=>a v fp G' H' k'.exit n.r n.nd n.b
theorem E3{g h:SM}{f:M D}(h1:PS X st (tS X.K B G0 KX0 g))(h2:PSs X sts (tST X.K B G0 pt h f)):PSs X (st::sts) (tST X.K B G0 pt (UZ g h) f):=Su (Rk h1 h2) λD σ H ⟨G,Z,k,a⟩=>by
 refine⟨G,Z,k,?_⟩;unfold UZ at a;cases z:g Z with
 |nx Z1=>rw[z]at a;exact λσ' G' H' k' s'=>⟨G',Z1,k',a⟩
 |rt d=>rw[z]at a;exact a.elim
 |ro ds=>rw[z]at a;exact a.elim
 |bk Z1=>rw[z]at a;exact a.elim
 |ct Z1=>rw[z]at a;exact a.elim
 |ex Z1 d=>rw[z]at a;exact a.elim
 |bad=>rw[z]at a;exact a.elim
theorem okT{P:Ut}{w:World}{K:Frag}{mg:Str->jW}{base:Heap}{x qual:Str}{st:Stmt}{f:Uu}{fd:Uv}{N ps:List Str}{k n:Nat}{g:SM}{q:M D}(F:Fun K x qual st f fd)(S:Vf N ps (KY st))(hn:ps.length=n)
  (der:∀(cdv:Ur)(A:Around)(outer:List Env)(s:Us)(H:Hp)(E:XK)(B G0:Hp),Room k (A.deeper (envOfC qual (KY st) s.heap.objs.size f cdv)) ->
   PSs (Zl CX0 P w K mg base N qual (KY st) f cdv A outer s H E).nox (Z6 st) (tST K B G0 pt g q)):FnOk P w K mg base CX0 (k+1) f fd ps (spT K n pt (Tw N g q)):=by
 refine F.ok S (λvs H Q E h=>?_) (λcdv A outer s H vs Q E hr h=>?_)
 .obtain⟨_,_,_,hl,_⟩:=h
  rw[hl,hn]
 .obtain⟨G,ds,d,hl,sg,r,hF,qq⟩:=h
  refine⟨_,der cdv A outer s H E H G hr,G,ZN N ds,PD sg r,?_⟩;unfold Tw at hF;cases z:g (ZN N ds)with
  |nx Z=>
   rw[z]at hF;dsimp only at hF⊢;cases z2:q Z with
   |bad=>rw[z2]at hF;cases hF
   |ok d' Z'=>rw[z2]at hF;cases hF;exact λv fp G' H' ex rr nd fr=>qq v fp G' H' ex rr nd fr
  |rt d'=>rw[z]at hF;cases hF
  |ro ds=>rw[z]at hF;cases hF
  |bk Z=>rw[z]at hF;cases hF
  |ct Z=>rw[z]at hF;cases hF
  |ex Z d=>rw[z]at hF;cases hF
  |bad=>rw[z]at hF;cases hF
theorem Cv{k kk n:Nat}{F:jT->jY}{g:M jT}{x:Str}{p2:Pos}(d:DefT X.prog X.w X.K X.mg X.base x k n pt F)(hr:Room kk X.A)(hg:Gl X x)(ha:PA X (e::es) (tDs X.K B G0 g))(hk:k<=kk:=by decide)(hn:(e::es).length=n:=by rfl)
  (hdb:(x==("__debug__" : Str))=jS:=by decide) (he:Uz (e::es) X.env=(jS,eval e X.env)::Uz es X.env:=by rfl) (hpl:(backTo pos (Uz es X.env)).any (·.1)=jS:=by rfl) :
  PE X (.Call (.Name x p2) (e::es) [] pos) (tT X.K B G0 pt (U8 n F g)):=by
 obtain⟨f,fd,ps,h1,h2,h3,h4⟩:=d;refine Km (N3 h4 (hr.mono hk) hg h1 h2 h3 .nil RH ha hdb he hpl) λσ H Q ⟨G,Z,kk0,a⟩=>?_
 refine⟨G,Z,kk0,?_⟩;unfold U8 U5 at a;cases z:g Z with
 |bad=>rw[z]at a;exact a.elim
 |ok xs Z1=>
  rw[z]at a;dsimp only at a⊢;intro vs G1 H1 k1 s1 r1;by_cases hl:xs.length=n
  .rw[Qs hl]at a
   unfold U2 at a;cases zf:F xs with
   |none=>rw[zf]at a;exact a.elim
   |some r=>rw[zf]at a;dsimp only at a;refine⟨G1,xs,r,by rw[Q4,r1.length];exact hl,k1.gh,by rw[Q4];exact r1,zf,λv fp G' H' ex rr nd fr=>?_⟩;exact a v fp G' H' (k1.ext ex) (s1.trans ex.g) (k1.newT ex.h rr nd fr)
  .rw[QE hl]at a
   exact a.elim
end
section
variable{K:Frag}{B G0 G H:Hp}{σ:St}{Z:UR}
theorem RepOl.leaf_inv:∀{vs:List V}{ds:jT}{fp:j4},RepOl K G H .leaf vs ds fp->Reps K G vs ds/\fp=[]
 |_,_,_,.nil=>⟨.nil,rfl⟩
 |_,_,_,.cons (.leaf r) t=>by obtain⟨r2,e⟩:=RepOl.leaf_inv t;subst e;exact⟨.cons r r2,rfl⟩
end
noncomputable def isT:Option HO->Bool
 |some (.tup _)=>jR
 |some (.frz _ (.tup _))=>jR
 |_=>jS
theorem Gu{u:MO}:isT (O u.ho)=jS:=by cases u<;>rfl
noncomputable def Zp(fp:j4)(G H:Hp):Hp:=λb=>if b∈fp∨isT (H b)=jR then H b else G b
section
variable{K:Frag}{B G0 G H:Hp}{fp:j4}
theorem Pw(gh:Same G H):Same G (Zp fp G H):=λb o e=>by
 unfold Zp;split
 .exact gh b o e
 .exact e
theorem E2(gh:Same G H):Same (Zp fp G H) H:=λb o e=>by
 unfold Zp at e;split at e
 .exact e
 .exact gh b o e
theorem R8{b:Uu}(h:b∈fp∨isT (H b)=jR):Zp fp G H b=H b:=by unfold Zp;rw[Qs h]
theorem E1{b:Uu}(h:b∉fp)(h2:isT (H b)=jS):Zp fp G H b=G b:=by
 unfold Zp;rw[QE];rintro(z|z)
 .exact h z
 .rw[h2]at z;cases z
theorem RepO.give3(gh:Same G H):YL K G H (λ_ v d f=>(∀b∈f,b∈fp)->Rep K (Zp fp G H) v d) (λ_ v d f=>(∀b∈f,b∈fp)->Reps K (Zp fp G H) v d) (λ_ v d f=>(∀b∈f,b∈fp)->Reps K (Zp fp G H) v d):=
 RepO.ind3 (λr _=>r.mono (Pw gh)) (λh r m=>.lst (SqL.of ((R8 (.inl (m _ Qo))).trans h)) (r λb z=>m b (Qp _ z))) (λh r m=>.tup (SqT.of ((R8 (.inr (by rw[h];rfl))).trans h)) (r m))
 (λ{a ks vs ds kvs} e hl h r m=>by
  have h':=(R8 (fp:=fp) (G:=G) (H:=H) (.inl (m _ Qo))).trans h;cases ks with
  |nil=>subst e;exact .dic h'
  |cons k ks=>exact .dct e (λz=>by cases z) hl h' (r.mono (Pw gh)))
 (λ_=>.nil) (λh t m=>.cons (h λb z=>m b (Jk _ z)) (t λb z=>m b (QP _ z))) (λ_=>.nil) (λh t m=>.cons (h λb z=>m b (Jk _ z)) (t λb z=>m b (QP _ z)))
theorem RepO.give(gh:Same G H){p:Pat}{v:V}{d:D}{f:j4}(r:RepO K G H p v d f)(m:∀b∈f,b∈fp):Rep K (Zp fp G H) v d:=(RepO.give3 gh).1 r m
theorem Ext.pubT{G' H':Hp}(ex:Ext G H G' H')(fr:∀a∈fp,H a=jQ):Ext G H (Zp fp G' H') H':=
 ⟨ex.h,ex.g.trans (Pw ex.gh),E2 ex.gh,λa u e n=>by rw[E1 (λm=>by rw[fr a m]at e;cases e) (by rw[ex.h a _ e];exact Gu)];exact ex.np a u e n⟩
end
section
variable{X:Cx}{B G0:Hp}{KX:XW}{e o a b c:Uw}{pos:Pos}{es:jX}{pt:Pat}
theorem DefT.def{P:Ut}{w:World}{K:Frag}{mg:Str->jW}{base:Heap}{x:Str}{k n:Nat}{F:jT->jY}(d:DefT P w K mg base x k n pt F):Def P w K mg base x k n F:=by obtain⟨f,fd,ps,h1,h2,h3,h4⟩:=d;refine⟨f,fd,ps,h1,h2,h3,h4.imp λvs H Q E ⟨G,ds,d,hl,sg,r,hF,q⟩=>⟨G,ds,d,hl,sg,r,hF,λv fp G' H' ex rr nd fr=>?_⟩⟩;exact q v (Zp fp G' H') H' (ex.pubT λa m=>(fr a m).1) (rr.give ex.gh λb m=>m)
end
theorem Gs{q p:Ut}{loose:List Str}{mean:ExcName->jW}{mg mb:Str->jW}{h:Heap}{ix:j9}(P:Ut)(w:World)(base:Heap){ps:List Str}{k n:Nat}{pt:Pat}{F:jT->jY}(T:PyProof.Rows.Top q loose mean mg mb h)(e:recsOf q=WP p ix)(i:Nat)(x:Str)(hi:ix.contains i=jR)(hn:Td (Ki p i)=O x)
  (ok:∀{f:Uu}{fd:Uv},Fun (whole h) x x (Ki p i) f fd->FnOk P w (whole h) mg base CX0 k f fd ps (spT (whole h) n pt F))
  (hb:∀(kV doc pm:Ur)(an:j7)(cdv ct:Ur)(us:jV),us.length=ps.length->bindArgs (PySem.W.fnOf x x (Xi (Ki p i)) (Z6 (Ki p i)) (KY (Ki p i)) .none kV doc pm an cdv ct) ⟨us,[]⟩=pure (ps.zip us)):DefT P w (whole h) mg base x k n pt F:=by
 obtain⟨f,fd,m,FU⟩:=T2 T e i x hi hn;exact⟨f,fd,ps,m,FU.kp,FU.binds hb,ok FU⟩
section
variable{Z Z1 Z2 Z':UR}{pt:Pat}
theorem Gc{N:List Str}{g:SM}{f:M D}{ds:jT}{P:D->Prop}(h0:ZN N ds=Z)(h:Ho g Z λo=>∃Z1,o=.nx Z1/\∃d Z2,f Z1=.ok d Z2/\P d):∃d,Tw N g f ds=O d/\P d:=by subst h0;obtain⟨Z1,e,d,Z2,e2,p⟩:=h.out;refine⟨d,?_,p⟩;unfold Tw;rw[e];dsimp only;rw[e2]
end
end DL
namespace L2
open PySem PySem.Spec PyProof.Rows PySem.Calls PyProof.V
end L2
namespace DL
open PySem PySem.Spec L2
open PyProof.Rows hiding St
noncomputable abbrev PLL:Pat:=.tup [.lst .leaf,.lst .leaf]
noncomputable def TY(f:M jT)(j:Nat):M D:=λZ=>match f Z with
 |.ok ds Z1=>(match Z1[j]? with
  |some (O (.own es))=>.ok (.tuple [.list ds,.list es]) (Z1.set j jQ)
  |_=>.bad)
 |.bad=>.bad
section
variable{X:Cx}{B G0:Hp}{KX:XW}{e e1 e2:Uw}{pos:Pos}
theorem BD{f:M jT}{j:Nat}{k1}(h1:PE X e1 (tL X.K B G0 f))(h2:PE X e2 (KL j))(hs1:Uz [e1,e2] X.env=(jS,eval e1 X.env)::Uz [e2] X.env:=by rfl)(hs2:Uz [e2] X.env=[(jS,eval e2 X.env)]:=by rfl) :
  PE X (.Tuple [e1,e2] k1 pos) (tT X.K B G0 PLL (TY f j)):=by
 refine Km (OT (ZT h1 (ZT h2 YN hs2) hs1)) λσ H Q ⟨G,Z,k,q⟩=>?_;unfold TY at q
 refine⟨G,Z,k,?_⟩;cases z1:f Z with
 |bad=>rw[z1]at q;exact q.elim
 |ok d1 Z1=>
 rw[z1]at q;dsimp only at q;split at q
 case h_2=>exact q.elim
 rename_i es d' Z' hq;split at hq
 case h_2=>cases hq
 rename_i es' ho;cases hq;intro a1 vs1 G1 H1 k1 s1 n1;obtain⟨b,ws,g1,g2,g3,g4,g5⟩:=k1.own j es' ho;obtain⟨ω,w1,w2⟩:=id k1.dp;have hwb:=w2 j es' b ho g1;have hne:a1≠b:=λz=>n1.f j es' ho (by rw[z];exact g1)
 refine⟨.ref b,g1,(show 2<=Ux by decide),λp hp=>?_⟩;have sh:Same H1 (upd H1 p (.tup [.ref a1,.ref b])):=Zk hp
 have nz:∀{m:Nat}{s:Sl},(Z1.set j jQ)[m]?=O (O s)->Z1[m]?=O (O s)/\j≠m:=λ{m s} q=>by
  by_cases z:j=m
  .subst z;have:=Yk q;cases this
  .rw[Qm z]at q;exact⟨q,z⟩
 have mem2:∀{c:Uu},c∈[a1]++([b]++[])->c=a1∨c=b:=λm=>by simpa using m
 refine q (.ref p) ([a1]++([b]++[])) G1 _ ((k1.forget).ext (Ext.hid k1.gh hp)) s1 ⟨.tup KO (.cons (.lst (sh _ _ n1.h) (.leaf n1.r)) (.cons (.lst (sh _ _ g4) (.leaf g5)) .nil)),by simp[hne],λc m=>?_,λc m l es ho' w=>?_,λc m l p' d' v' fp' ho' w r m'=>?_⟩
 .rcases mem2 m with rfl|rfl
  .exact⟨n1.b,n1.g⟩
  .exact⟨g2,g3⟩
 .obtain⟨ho',z⟩:=nz ho'
  rcases mem2 m with rfl|rfl
  .exact n1.f l es ho' w
  .exact z (k1.sep j l c es' es ho ho' g1 w)
 .obtain⟨ho',z⟩:=nz ho'
  obtain⟨v2,fp2,s2,r2,n2,w2'⟩:=w1 l p' d' ho';rw[w]at s2;cases s2;have u:=r2.uniq sh r;subst u;rcases mem2 m with rfl|rfl
  .exact n1.dp l p' d' v' _ ho' w r2 m'
  .exact z (hwb.symm.trans (w2' c m').2.2)
theorem Cu{f:M jT}{j:Nat}{Z Z1:UR}{ds es:jT}(h1:f Z=.ok ds Z1)(h2:Z1[j]?=O (O (.own es))):TY f j Z=.ok (.tuple [.list ds,.list es]) (Z1.set j jQ):=by unfold TY;rw[h1];dsimp only;rw[h2]
noncomputable def Tc(i j:Nat)(f:M D):SM:=sB f λd Z=>match d with
 |.tuple [.list d1,.list d2]=>if i≠j/\i<Z.length/\j<Z.length then .nx ((Z.set i (O (.own d1))).set j (O (.own d2)))else .bad
 |_=>.bad
theorem RepO.two_inv{K:Frag}{G H:Hp}{v:V}{d1 d2:jT}{fp:j4}(r:RepO K G H PLL v (.tuple [.list d1,.list d2]) fp):∃p a b vs ws,v=.ref p/\H p=O (.tup [.ref a,.ref b])/\H a=O (.lst vs)/\H b=O (.lst ws)/\Reps K G vs d1/\Reps K G ws d2/\fp=[a,b]:=by
 cases r with
 |tup h rs=>
  cases rs with
  |cons r1 t=>
   cases t with
   |cons r2 t2=>
    cases t2;cases r1 with
    |lst h1 l1=>
     cases r2 with
     |lst h2 l2=>obtain⟨q1,rfl⟩:=RepOl.leaf_inv l1;obtain⟨q2,rfl⟩:=RepOl.leaf_inv l2;exact⟨_,_,_,_,_,rfl,h,h1,h2,q1,q2,rfl⟩
theorem Ct{i j:Nat}{x y:Str}{f:M D}{px py pt:Pos}{kt}(hc:X.calm=jR)(hN:X.N.Nodup)(hi:X.N[i]?=O x)(hj:X.N[j]?=O y)(hx:Loc X.env.scope x)(hy:Loc X.env.scope y)(he:PE X e (tT X.K B G0 PLL f))
  (hs:swapsWithSole [.Tuple [.Name x px,.Name y py] kt pt] e pos.line X.env=pure jS:=by rfl) (hw:swappedStores [.Tuple [.Name x px,.Name y py] kt pt] e X.env=pure jQ:=by rfl)
  (hf:X.fn x=jR∨X.env.scope.names.lookup x=O .local:=by first|exact .inl rfl|exact .inr rfl|assumption) (hf2:X.fn y=jR∨X.env.scope.names.lookup y=O .local:=by first|exact .inl rfl|exact .inr rfl|assumption) :
  PS X (.Assign [.Tuple [.Name x px,.Name y py] kt pt] e pos) (tS X.K B G0 KX (Tc i j f)):=by
 have G2:PG X (.Tuple [.Name x px,.Name y py] kt pt) (gTup X.K 2 (RK (TK i) (RK (TK j) gNil))):=OW hc (Pz (SX hN hi hx hf) (Pz (SX hN hj hy hf2) NX));refine Ze (OV he G2 hs hw) λDn σ H ⟨G,Z,k,a⟩=>?_
 refine⟨G,Z,k,?_⟩;unfold Tc sB at a;cases z:f Z with
 |bad=>rw[z]at a;exact a.elim
 |ok d Z1=>
 rw[z]at a;dsimp only at a;split at a
 case h_2=>exact a.elim
 rename_i d1 d2;split at a
 case isFalse=>exact a.elim
 rename_i hl;obtain⟨hij,xP,kP⟩:=hl;intro v fp G' H' k' s' n;obtain⟨p,b1,b2,vs,ws,rfl,hp,h1,h2,r1,r2,rfl⟩:=n.r.two_inv;have hne:b1≠b2:=by have:=n.nd;simpa using this
 refine⟨p,_,rfl,SqT.of hp,rfl,_,_,rfl,_,_,rfl,rfl,?_⟩;have m1:b1∈[b1,b2]:=by simp
 have m2:b2∈[b1,b2]:=by simp
 have k5:=k'.setOwn (i:=i) (a:=b1) (vs:=vs) (ds:=d1) ⟨(n.b b1 m1).1,(n.b b1 m1).2,h1,r1,n.f b1 m1,n.dp b1 m1⟩ xP
 have k6:=k5.setOwn (i:=j) (a:=b2) (vs:=ws) (ds:=d2) ⟨(n.b b2 m2).1,(n.b b2 m2).2,h2,r2,λl es q w=>by
  by_cases zj:i=l
  .subst zj
   have hl':i<σ.length:=by rw[←k'.len];exact xP
   rw[QL hl']at w;cases w;exact hne jP
  .rw[Qm zj]at q w
   exact n.f b2 m2 l es q w,λl p' d' v' fp' q w r=>by
  by_cases zj:i=l
  .subst zj;have:=Yk q;cases this
  .rw[Qm zj]at q w
   exact n.dp b2 m2 l p' d' v' fp' q w r⟩ (by rw[Je];exact kP)
 exact a _ G' H' k6 s'
theorem Cs{i j:Nat}{f:M D}{Z Z1 Z':UR}{d1 d2:jT}(h1:f Z=.ok (.tuple [.list d1,.list d2]) Z1)(hl:i≠j/\i<Z1.length/\j<Z1.length)(h3:(Z1.set i (O (.own d1))).set j (O (.own d2))=Z'):Tc i j f Z=.nx Z':=by unfold Tc sB;rw[h1];dsimp only;rw[if_pos hl,h3]
end
section
variable{X:Cx}
noncomputable def Vx:D->D->j8
 |.list xs,.list ys=>if xs.length=ys.length then jQ else O jS
 |_,_=>jQ
theorem Ga(hu:X.A.units+64<cLine):OpB X (UA .Eq) Vx:=by
 refine⟨λv u H Q=>∃l m xs ys,v=.ref l/\u=.ref m/\SqL X.K H l xs/\SqL X.K H m ys/\xs.length≠ys.length/\Q (.bl jS) H,?_,λv u G H x y d Q s rx ry e k=>?_⟩
 .intro pins s σ H x y v u Q I rx ry h
  obtain⟨l,m,xs,ys,rfl,rfl,h1,h2,hne,q⟩:=h;cases rx;cases ry;obtain⟨its,r,p,z⟩:=I.list h1;obtain⟨its2,r2,p2,z2⟩:=I.list h2;refine SeqAt.eq_list_lengthsAt p.isList p2.isList ?_ (by lia) ⟨.bl jS,H,I,rfl,q⟩;rw[QQ,QQ,←r.length,←r2.length];simpa using hne
 .unfold Vx at e
  split at e
  .split at e
   .cases e
   .rename_i hl
    cases e;obtain⟨l,vs,rfl,h1,r1⟩:=rx.lst_inv;obtain⟨m,ws,rfl,h2,r2⟩:=ry.lst_inv;exact⟨l,m,vs,ws,rfl,rfl,s.seq h1,s.seq h2,by rw[r1.length,r2.length];exact hl,k⟩
  .cases e
noncomputable def Vy(x y:D):j8:=(Vx x y).orElse λ_=>oEq x y
theorem HZ(hu:X.A.units+64<cLine):OpB X (UA .Eq) Vy:=(Ga hu).or (B_eq hu)
theorem Nj{xs:jT}:Vy (.list xs) (.list [])=O xs.isEmpty:=by
 cases xs with
 |nil=>kernel_rfl
 |cons x r=>rfl
end
noncomputable def tgN:Uw->List Str
 |.Name x _=>[x]
 |.Tuple [.Name x _] _ _=>[x]
 |.Tuple [.Name x _,.Name y _] _ _=>[x,y]
 |.Tuple [.Name x _,.Name y _,.Name z _] _ _=>[x,y,z]
 |.Tuple [.Name x _,.Name y _,.Name z _,.Name u _] _ _=>[x,y,z,u]
 |_=>[]
noncomputable def adN(vs:List Str):List Str->List Str
 |[]=>vs
 |x::r=>adN (if vs.elem x then vs else vs++[x]) r
noncomputable def VC(vs:List Str):List Comprehension->List Str
 |[]=>vs
 |⟨tg,_,_,_⟩::r=>VC (adN vs (tgN tg)) r
noncomputable def dotN(x:Str):Str:=("." : Str)++x
noncomputable def blN(N:List Str)(gs:List Comprehension):List Str:=N.map (λx=>if(VC [] gs).elem x then dotN x else x)++VC [] gs
noncomputable def glN(sc:Scope):List Str:=sc.names.filterMap λy=>match y.2 with | .globalImplicit=>O y.1|_=>jQ
abbrev NmF(s:Stmt)(N:List Str):Prop:=FnNm (KY s) N (glN (KY s))
theorem mq{α:Type}{l:List α}{x:α}(n:Nat)(h:l[n]?=O x):x∈l:=QH h
section
variable{sc:Scope}{N gl:List Str}{x:Str}
theorem gA(H:FnNm sc N gl)(h:gl.elem x=jR):sc.names.lookup x=O .globalImplicit:=H.gl x (by simpa using h)
end
section
variable{X:Cx}{B G0:Hp}{KX:XW}{e e1 e2 o a b c i:Uw}{gl:List Str}{pos p2:Pos}{x:Str}{j:Nat}
theorem HY(H:FnNm X.env.scope X.N gl)(hi:X.N[j]?=O x:=by rfl)(hf:X.fn x=jR∨X.env.scope.names.lookup x=O .local:=by first|exact .inl rfl|exact .inr rfl|assumption):PG X (.Name x pos) (tG X.K B G0 (gN j)):=NI (SX H.nd hi (lq H j hi) hf)
theorem Gr{N':List Str}{scope:Scope}{cl:List (Str×Uu)}{C:Uu}{s₀:Us}{H₀:Hp}{ex:j4}(hN:N'.Nodup:=by decide +kernel)(hi:N'[j]?=O x:=by rfl)(hl:locK (scope.names.lookup x)=jR:=by rfl):PG (X.blk N' scope cl C s₀ H₀ ex) (.Name x pos) (tG X.K B G0 (gN j)):=NI (SX hN hi (NG hl).1 (NG hl).2)
theorem aSet{f:M D}(H:FnNm X.env.scope X.N gl)(he:PE X e (tD X.K B G0 f))(hi:X.N[j]?=O x:=by rfl)(hs:swapsWith e (O (.Name x p2)) pos.line X.env=pure jS:=by rfl)
  (hf:X.fn x=jR∨X.env.scope.names.lookup x=O .local:=by first|exact .inl rfl|exact .inr rfl|assumption):PS X (.Assign [.Name x p2] e pos) (tS X.K B G0 KX (Kg j f)):=FX H.nd hi (lq H j hi) he hs hf
theorem Oi{f:M jT}(H:FnNm X.env.scope X.N gl)(he:PE X e (tL X.K B G0 f))(hi:X.N[j]?=O x:=by rfl)(hs:swapsWith e (O (.Name x p2)) pos.line X.env=pure jS:=by rfl)
  (hf:X.fn x=jR∨X.env.scope.names.lookup x=O .local:=by first|exact .inl rfl|exact .inr rfl|assumption):PS X (.Assign [.Name x p2] e pos) (tS X.K B G0 KX (Zi j f)):=DC H.nd hi (lq H j hi) he hs hf
theorem HX{f:M XR}(H:FnNm X.env.scope X.N gl)(he:PE X e (tX X.K B G0 KX f))(hi:X.N[j]?=O x:=by rfl)(hs:swapsWith e (O (.Name x p2)) pos.line X.env=pure jS:=by rfl)
  (hf:X.fn x=jR∨X.env.scope.names.lookup x=O .local:=by first|exact .inl rfl|exact .inr rfl|assumption):PS X (.Assign [.Name x p2] e pos) (tS X.K B G0 KX (sX f λd Z=>match gN j d Z with|some Z'=>.nx Z'|none=>.bad)):=Ez H.nd hi (lq H j hi) he hs hf
theorem Gq{i j:Nat}{x y:Str}{f:M D}{px py pt:Pos}{kt}(hc:X.calm=jR)(H:FnNm X.env.scope X.N gl)(he:PE X e (tT X.K B G0 PLL f))(hi:X.N[i]?=O x:=by rfl)(hj:X.N[j]?=O y:=by rfl)
  (hs:swapsWithSole [.Tuple [.Name x px,.Name y py] kt pt] e pos.line X.env=pure jS:=by rfl) (hw:swappedStores [.Tuple [.Name x px,.Name y py] kt pt] e X.env=pure jQ:=by rfl)
  (hf:X.fn x=jR∨X.env.scope.names.lookup x=O .local:=by first|exact .inl rfl|exact .inr rfl|assumption) (hf2:X.fn y=jR∨X.env.scope.names.lookup y=O .local:=by first|exact .inl rfl|exact .inr rfl|assumption) :
  PS X (.Assign [.Tuple [.Name x px,.Name y py] kt pt] e pos) (tS X.K B G0 KX (Tc i j f)):=Ct hc H.nd hi hj (lq H i hi) (lq H j hj) he hs hw hf hf2
theorem HW{l:Bool}{tg elt iter:Uw}{ifs:jX}{gs:List Comprehension}{scope:Scope}{f:M jT}{s:D->UR->jZ}{t:M Bool}{rd:RdB}{F:M jT}{k:Nat}{SC:Scope}{N1:List Str}(H:FnNm SC N1 gl)(le:∀Z es Z',F Z=.ok es Z'->dCG l f k s t rd Z=.ok es Z')(hc:X.calm=jR)
  (hi:PI X tg iter (iD X.K B G0 f)) (ku:Yq X (blN N1 (⟨tg,iter,ifs,0⟩::gs)) scope (.ListComp elt (⟨tg,iter,ifs,0⟩::gs) scope pos) tg ifs s t rd) (hb:W9 V8 SC scope N1 (blN N1 (⟨tg,iter,ifs,0⟩::gs)) k=jR) (h1:X.env.scope=SC:=by rfl) (h2:X.N=N1:=by rfl) (hs:∀x,UP iter X.env x=pure x:=by intro _;rfl) :
  PE X (.ListComp elt (⟨tg,iter,ifs,0⟩::gs) scope pos) (tL X.K B G0 F):=HF _ _ _ k le hc hi ku h1 h2 hb hs
theorem HV{l:Bool}{y:Str}{py spos:Pos}{tg elt iter:Uw}{ifs:jX}{gs:List Comprehension}{scope:Scope}{f:M jT}{s:D->UR->jZ}{t:M Bool}{rd:RdB}{F:M jT}{k:Nat}{SC:Scope}{N1:List Str}(H:FnNm SC N1 gl)(le:∀Z es Z',F Z=.ok es Z'->dCG l f k s t rd Z=.ok es Z')(hc:X.calm=jR)
  (hi:PI X tg iter (iD X.K B G0 f)) (ku:Yq X (blN N1 (⟨tg,iter,ifs,0⟩::gs)) scope (.ListComp elt (⟨tg,iter,ifs,0⟩::gs) scope pos) tg ifs s t rd) (hb:W9 V8 SC scope N1 (blN N1 (⟨tg,iter,ifs,0⟩::gs)) k=jR) (hj:N1[j]?=O y:=by rfl) (hy:SC.names.lookup y=O .local:=by rfl) (h1:X.env.scope=SC:=by rfl) (h2:X.N=N1:=by rfl) (hs:∀x,UP iter X.env x=pure x:=by intro _;rfl)
  (hsw:swapsWith (.ListComp elt (⟨tg,iter,ifs,0⟩::gs) scope pos) (O (.Name y py)) spos.line X.env=pure jR:=by rfl) :
  PS X (.Assign [.Name y py] (.ListComp elt (⟨tg,iter,ifs,0⟩::gs) scope pos) spos) (tS X.K B G0 KX (Zi j F)):=sD_1 _ _ _ k le (h2 ▸ H.nd) (h2 ▸ hj) (h1 ▸ hy) hc hi ku h1 h2 hb hs hsw
end
end DL
namespace DL
open PySem PySem.Spec L2
open PyProof.Rows hiding St
open Builtin Builtin.Str
end DL
namespace DL
open PySem PySem.Spec L2
open PyProof.Rows hiding St
end DL
namespace DL
open PySem PySem.Spec L2
open PyProof.Rows hiding St
open PySem.SeqRoads2 PySem.SeqAt
end DL
namespace DL
open PySem PySem.Spec L2
open PyProof.Rows hiding St
end DL
namespace L2
open PySem PySem.Spec PyProof.Rows
end L2
namespace DL
open PySem PySem.Spec L2
open PyProof.Rows hiding St
end DL
namespace DL
open PySem PySem.Spec L2
open PyProof.Rows hiding St
open PySem.SeqRoads2 PySem.SeqAt
end DL
namespace DL
open PySem PySem.Spec L2
open PyProof.Rows hiding St
section
variable{X:Cx}{B G0:Hp}{KX:XW}{e e':Uw}{es es':jX}{st st':Stmt}{sts xz:List Stmt}{pos p2:Pos}{x:Str}{j:Nat}{gl:List Str}
theorem Cr{g h:SM}(q:st::sts=xz)(h1:PS X st (tS X.K B G0 KX g))(h2:PSs X sts (tS X.K B G0 KX h)):PSs X xz (tS X.K B G0 KX (UZ g h)):=q ▸ NJ h1 h2
theorem Gp{f:M jT}(q:Stmt.Assign [.Name x p2] e pos=st')(H:FnNm X.env.scope X.N gl)(he:PE X e (tL X.K B G0 f))(hi:X.N[j]?=O x:=by rfl)(hs:swapsWith e (O (.Name x p2)) pos.line X.env=pure jS:=by rfl)
  (hf:X.fn x=jR∨X.env.scope.names.lookup x=O .local:=by first|exact .inl rfl|exact .inr rfl|assumption):PS X st' (tS X.K B G0 KX (Zi j f)):=q ▸ Oi H he hi hs hf
theorem Cq{f:M jT}(q:Expr.List es pos=e')(h:PA X es (tDs X.K B G0 f)):PE X e' (tL X.K B G0 (U5 f λxs=>if xs.length<=1000000 then UV xs else λ_=>.bad)):=q ▸ NH h
theorem BC{f:M D}{g:M jT}(q:e::es=es')(ha:PE X e (tD X.K B G0 f))(hr:PA X es (tDs X.K B G0 g))(hs:Uz (e::es) X.env=(jS,eval e X.env)::Uz es X.env:=by rfl):PA X es' (tDs X.K B G0 (UU f g)):=q ▸ Mf ha hr hs
end
section
variable{X:Cx}{B G0:Hp}{KX:XW}{a b e e':Uw}{es es':jX}{st st':Stmt}{sts xz:List Stmt}{pos p2:Pos}{x:Str}{j:Nat}{gl:List Str}
theorem HU{f:M D}(q:Stmt.Assign [.Name x p2] e pos=st')(H:FnNm X.env.scope X.N gl)(he:PE X e (tD X.K B G0 f))(hi:X.N[j]?=O x:=by rfl)(hs:swapsWith e (O (.Name x p2)) pos.line X.env=pure jS:=by rfl)
  (hf:X.fn x=jR∨X.env.scope.names.lookup x=O .local:=by first|exact .inl rfl|exact .inr rfl|assumption):PS X st' (tS X.K B G0 KX (Kg j f)):=q ▸ aSet H he hi hs hf
theorem Cp{f:M jT}(q:Expr.List es pos=e')(h:PA X es (tDs X.K B G0 f)):PE X e' (tD X.K B G0 (U7 f)):=q ▸ NK h
theorem Co{x1}{f:M jT}(q:Expr.Tuple es x1 pos=e')(h:PA X es (tDs X.K B G0 f)):PE X e' (tD X.K B G0 (KI f)):=q ▸ NL h
theorem O7{op:Operator}{p:D->D->jY}{f g:M D}(o:OpD X (binaryOp op) p)(q:Expr.BinOp a op b pos=e')(ha:PE X a (tD X.K B G0 f))(hb:PE X b (tD X.K B G0 g)):PE X e' (tD X.K B G0 (UY p f g)):=q ▸ W4 o ha hb
end
noncomputable def mNV(f:M XR):M XR:=λZ=>match f Z with
 |.ok (.exc d) Z'=>.ok (.exc d) Z'
 |_=>.bad
theorem SS{f:M XR}{Z Z':UR}{d:D}(h:f Z=.ok (.exc d) Z'):mNV f Z=.ok (.exc d) Z':=by unfold mNV;rw[h]
def Glb(K:Frag)(mg:Str->jW)(x:Str):Prop:=∃f,mg x=O (.ref f)/\PySem.W.keepIn K (.ref f)=jR
noncomputable def nvB(SC scope:Scope):Bool:=
 decide (scope.kind=.function)&&(scope.names.all λy=>decide (scope.names.lookup y.1=O y.2))&&scope.names.all λy=>match y.2 with
  |.free=>V8 (SC.names.lookup y.1)
  |_=>jR
section
variable{X:Cx}{B G0:Hp}{KX:XW}{e a:Uw}{pos p2:Pos}{es:jX}{f:M XR}{x:Str}
theorem tX.nv{K:Frag}{σ:St}{H:Hp}{Q Q':VK}(q:tX K B G0 KX (mNV f) σ H Q):tX K B G0 KX f σ H Q':=by
 obtain⟨G,Z,k,a⟩:=q;refine⟨G,Z,k,?_⟩;unfold mNV at a;cases z:f Z with
 |bad=>rw[z]at a;exact a.elim
 |ok r Z1=>
  rw[z]at a;cases r with
  |val d=>exact a.elim
  |exc d=>exact a
theorem tX.nv2{K:Frag}{g:M D}{σ:St}{H:Hp}{Q Q':VK}(q:tX K B G0 KX (mNV (U5 g λ_=>f)) σ H Q):tD K B G0 g σ H λ_ H1=>tX K B G0 KX f σ H1 Q':=by
 obtain⟨G,Z,k,a⟩:=q;refine⟨G,Z,k,?_⟩;unfold mNV U5 at a;cases z:g Z with
 |bad=>rw[z]at a;exact a.elim
 |ok d Z1=>
  rw[z]at a;dsimp only at a;intro v G1 H1 k1 s1 _;refine⟨G1,Z1,k1,?_⟩;cases z2:f Z1 with
  |bad=>rw[z2]at a;exact a.elim
  |ok r Z2=>
   rw[z2]at a;cases r with
   |val d=>exact a.elim
   |exc d=>exact λv G' H' e s r=>a v G' H' e (s1.trans s) r
theorem BB{id:String}(hg:Gl X x)(hm:X.mg x=jQ)(hv:bootBuiltins x=O (.builtin id))(ha:PE X e (tX X.K B G0 KX f))(hn:x ≠ "__name__" :=by decide)(hdb:(x==("__debug__" : Str))=jS:=by decide)
  (he:Uz [e] X.env=(jS,eval e X.env)::Uz [] X.env:=by rfl):PE X (.Call (.Name x p2) [e] [] pos) (tX X.K B G0 KX (mNV f)):=
 Km (Vk (r:=λ_ _ _=>False) (λ_ _ _ _ _ _ _ _ _ h=>h.elim) hg hm hv (ZT ha YN he) hn hdb he jP) λσ H Q q=>q.nv
theorem Cn{g:M D}(G:Glb X.K X.mg x)(hg:Gl X x)(ha:PE X a (tD X.K B G0 g))(hb:PE X e (tX X.K B G0 KX f))(hdb:(x==("__debug__" : Str))=jS:=by decide)
  (he:Uz [a,e] X.env=(jS,eval a X.env)::Uz [e] X.env:=by rfl) (kM:Uz [e] X.env=(jS,eval e X.env)::Uz [] X.env:=by rfl) (hpl:(backTo pos (Uz [e] X.env)).any (·.1)=jS:=by rfl) :
  PE X (.Call (.Name x p2) [a,e] [] pos) (tX X.K B G0 KX (mNV (U5 g λ_=>f))):=by
 obtain⟨fa,hm,hk⟩:=G;intro pins s σ H Q I h;refine Jn (Vg I hg hm ?_ hdb);exact J5 (h₀:=X.base) I.ok.mod.kin hk (thn (ZT ha (ZT hb YN kM) he pos pins s σ H (λ_ _=>False) I (tX.nv2 h)) λus s1 ⟨vs,H1,I1,r,q⟩=>q.elim) he hpl
theorem Cm{tg elt iter:Uw}{ifs:jX}{gs:List Comprehension}{scope SC:Scope}{N1 gl:List Str}(nm:FnNm SC N1 gl)(hi:PE X iter (tX X.K B G0 KX f))(hb:nvB SC scope=jR)(h1:X.env.scope=SC:=by rfl)(hs:∀x,UP iter X.env x=pure x:=by intro _;rfl) :
  PE X (.ListComp elt (⟨tg,iter,ifs,0⟩::gs) scope pos) (tX X.K B G0 KX (mNV f)):=by
 intro pins s0 σ H Q I q;subst h1;unfold nvB at hb;rw[Qr,Qr,QM,QM]at hb;obtain⟨⟨h2,h0⟩,h3⟩:=hb
 obtain⟨xK,hcl,xJ,cl2⟩:=M6 (scope:=scope) (env:=X.env) λy hy hf=>I.ok.has y.1 (by
  have:=h3 y hy;rw[hf]at this;dsimp only at this;cases z:X.env.scope.names.lookup y.1 with
  |none=>rw[z]at this;cases this
  |some w=>
   rw[z]at this;cases w with
   |cell=>exact .inl z
   |free=>exact .inr z
   |_=>cases this)
 rw[eval_ListComp];exact wpAny_comprehension_free (use:=jQ) jP hs hcl (Qa h2) (λy hy hl=>(Qa (h0 y hy)).trans (by rw[hl])) (thn (hi pins s0 σ H (λ_ _=>False) I q.nv) λv s1 ⟨_,_,_,_,z⟩=>z.elim)
end
theorem Go{q p:Ut}{loose:List Str}{mean:ExcName->jW}{mg mb:Str->jW}{h:Heap}{ix:j9}(T:Top q loose mean mg mb h)(e:recsOf q=WP p ix)(i:Nat)(x:Str)(hi:ix.contains i=jR)(hn:Td (Ki p i)=O x):Glb (whole h) mg x:=by obtain⟨f,fd,m,FU⟩:=T2 T e i x hi hn;exact⟨f,m,FU.kp⟩
end DL
namespace W
open PySem PySem.Spec L2 DL
open PyProof.Rows hiding St
noncomputable def top(i:Nat):Stmt:=PySem.Challenge.pw_wishdeal_k50_odd_covers.main.body.getD i (.Pass ⟨0,0,0,0⟩)
abbrev GG(s:Stmt)(x:Str):Prop:=(KY s).names.lookup x=O NameKind.globalImplicit
abbrev VV(s:Stmt)(x:Str):Prop:=L2.Vis (KY s) x
abbrev LL(s:Stmt)(x:Str):Prop:=L2.Loc (KY s) x
theorem vk{s:Stmt}{x:Str}(h:(KY s).names.lookup x=O .local∨(KY s).names.lookup x=O .cell∨(KY s).names.lookup x=O .free):VV s x:=h
theorem lk{s:Stmt}{x:Str}(h:(KY s).names.lookup x=O .local∨(KY s).names.lookup x=O .cell):LL s x:=h
structure Txt(K:Frag)(mg:Str->jW):Prop where
 b_ValueError:mg "ValueError" = jQ
 b_abs:mg "abs" = jQ
 b_all:mg "all" = jQ
 b_bool:mg "bool" = jQ
 b_enumerate:mg "enumerate" = jQ
 b_int:mg "int" = jQ
 b_isinstance:mg "isinstance" = jQ
 b_len:mg "len" = jQ
 b_list:mg "list" = jQ
 b_max:mg "max" = jQ
 b_range:mg "range" = jQ
 b_repr:mg "repr" = jQ
 b_set:mg "set" = jQ
 b_sorted:mg "sorted" = jQ
 b_sum:mg "sum" = jQ
 b_tuple:mg "tuple" = jQ
 b_zip:mg "zip" = jQ
 c_MOST_ASKERS:∃t,mg "MOST_ASKERS" = O (Value.int 7 t)
 c_MOST_COPIES:∃t,mg "MOST_COPIES" = O (Value.int 7 t)
 c_MOST_RANKS:∃t,mg "MOST_RANKS" = O (Value.int 5 t)
 c_MOST_THINGS:∃t,mg "MOST_THINGS" = O (Value.int 6 t)
 x_DealError:CK K mg "DealError"
 x_NoWishes:CK K mg "NoWishes"
 sm:SmK K
noncomputable abbrev Saa:Stmt:=top 1
noncomputable abbrev N_aa:List Str:=["thing"]
theorem Haa:NmF Saa N_aa:=KS (by decide +kernel)
noncomputable def V0:SM:=
 U4 (XQ (U3 (λd=>.bool (Kh d "int")) (UQ 0)) (Ta (U3 (λd=>.bool (Kh d "bool")) (UQ 0))))
noncomputable def XI:jT->jY:=Kl N_aa V0
noncomputable abbrev Sac:Stmt:=top 3
noncomputable abbrev N_ac:List Str:=["thing", "many"]
theorem Hac:NmF Sac N_ac:=KS (by decide +kernel)
noncomputable def Wq:SM:=
 U4 (XQ (U8 1 XI (UU (UQ 0) (US))) (U3 UE (Xr (oIB λi j=>decide (i<=j)) (oIB λi j=>decide (i<j)) (UV (.int 0)) (UQ 0) (UQ 1))))
noncomputable def Zm:jT->jY:=Kl N_ac Wq
noncomputable abbrev Sbd:Stmt:=top 43
noncomputable abbrev N_bd:List Str:=["thing", "many"]
theorem Hbd:NmF Sbd N_bd:=KS (by decide +kernel)
noncomputable def Wn:SM:=
 UZ (sIf (mOr (Kf (K0 (U3 (λd=>.bool (Kh d "list")) (UQ 0)))) (Kf (K0 (Za ZM (UU (U3 UD (Yt (KZ (UQ 0)) 1 (gN 2) (UV jR) (U8 2 Zm (UU (UQ 2) (UU (UQ 1) (US)))))) (US))))))
 (U4 (UV (.bool jS)))
 (sNx))
 (U4 (Za ZM (UU (U3 UD (Yt (Wu (UU (UQ 0) (UU (KW (UQ 0) (U5 (UV (.int 1)) λx=>U2 (ZJ x)) (UV jQ)) (US)))) 2 (gT 2 (gNC (gN 2) (gNC (gN 3) (gN0)))) (UV jR) (U3 UE (Kq (oIB λi j=>decide (i<j)) 2 (UQ 3))))) (US))))
noncomputable def Y9:jT->jY:=Kl N_bd Wn
noncomputable abbrev Sae:Stmt:=top 13
noncomputable abbrev N_ae:List Str:=["thing", "things"]
theorem Hae:NmF Sae N_ae:=KS (by decide +kernel)
noncomputable def Wp:SM:=
 UZ (sIf (mOr (Kf (K0 (U3 (λd=>.bool (Kh d "list")) (UQ 0)))) (UY oEq (K8 0) (UV (.int 0))))
 (U4 (UV (.bool jS)))
 (sNx))
 (U4 (Za ZM (UU (U3 UD (Yt (KZ (UQ 0)) 1 (gN 2) (UV jR) (U8 2 Zm (UU (UQ 2) (UU (UQ 1) (US)))))) (US))))
noncomputable def YK:jT->jY:=Kl N_ae Wp
noncomputable abbrev Saf:Stmt:=top 14
noncomputable abbrev N_af:List Str:=["thing", "things", "wished"]
theorem Haf:NmF Saf N_af:=KS (by decide +kernel)
noncomputable def Wo:SM:=
 UZ (sIf (mOr (Kf (K0 (U3 (λd=>.bool (Kh d "list")) (UQ 0)))) (UY (oIB λi j=>decide (j<i)) (K8 0) (UV (.int 5))))
 (U4 (UV (.bool jS)))
 (sNx))
 (UZ (sIf (Kf (K0 (Za ZM (UU (U3 UD (Yt (KZ (UQ 0)) 1 (gN 3) (UV jR) (U8 2 YK (UU (UQ 3) (UU (UQ 1) (US)))))) (US)))))
 (U4 (UV (.bool jS)))
 (sNx))
 (UZ (Zi 2 (Va (KZ (UQ 0)) 2 (gN 3) (UV jR) (KZ (UQ 3)) (gN 4) (UV jR) (UQ 4)))
 (U4 (U3 UE (UY oEq (Za WT (UU (UQ 2) (US))) (K8 2))))))
noncomputable def YJ:jT->jY:=Kl N_af Wo
noncomputable abbrev Sag:Stmt:=top 15
noncomputable abbrev N_ag:List Str:=["lists", "things", "asker", "ranks"]
theorem Hag:NmF Sag N_ag:=KS (by decide +kernel)
noncomputable def Ni:SM:=
 sIf (Kf (K0 (U8 2 YJ (UU (UQ 3) (UU (UQ 1) (US))))))
 (Xq)
 (sNx)
noncomputable def VY:SM:=
 UZ (sIf (mOr (Kf (K0 (U3 (λd=>.bool (Kh d "list")) (UQ 0)))) (Kf (Xr (oIB λi j=>decide (i<=j)) (oIB λi j=>decide (i<=j)) (UV (.int 1)) (K8 0) (UV (.int 7)))))
 (Xq)
 (sNx))
 (Kr (Yu (UU (UQ 0) (US))) (gT 2 (gNC (gN 2) (gNC (gN 3) (gN0)))) Ni)
noncomputable def WI:jT->jY:=Kl N_ag VY
noncomputable abbrev Sad:Stmt:=top 12
noncomputable abbrev N_ad:List Str:=["copies", "number", "many"]
theorem Had:NmF Sad N_ad:=KS (by decide +kernel)
noncomputable def Nh:SM:=
 sIf (Kf (K0 (U8 2 Zm (UU (UQ 2) (UU (UY Kb (UV (.int 7)) (UV (.int 1))) (US))))))
 (Xq)
 (sNx)
noncomputable def VZ:SM:=
 UZ (sIf (mOr (Kf (K0 (U3 (λd=>.bool (Kh d "list")) (UQ 0)))) (Kf (Xr (oIB λi j=>decide (i<=j)) (oIB λi j=>decide (i<=j)) (UV (.int 1)) (K8 0) (UV (.int 6)))))
 (Xq)
 (sNx))
 (Kr (Yu (UU (UQ 0) (US))) (gT 2 (gNC (gN 1) (gNC (gN 2) (gN0)))) Nh)
noncomputable def WJ:jT->jY:=Kl N_ad VZ
noncomputable abbrev Sah:Stmt:=top 16
noncomputable abbrev N_ah:List Str:=["thing", "copies", "lists"]
theorem Hah:NmF Sah N_ah:=KS (by decide +kernel)
noncomputable def VX:SM:=
 UZ (sIf (mOr (Kf (K0 (U3 (λd=>.bool (Kh d "tuple")) (UQ 0)))) (UY oNe (K8 0) (UV (.int 2))))
 (Xq)
 (sNx))
 (UZ (Yb (UQ 0) (gT 2 (gNC (gN 1) (gNC (gN 2) (gN0)))))
 (UZ (V9 (U8 1 WJ (UU (UQ 1) (US))))
 (V9 (U8 2 WI (UU (UQ 2) (UU (K8 1) (US)))))))
noncomputable def WH:jT->jY:=Kl N_ah VX
noncomputable abbrev Saj:Stmt:=top 18
noncomputable abbrev N_aj:List Str:=["wishes"]
theorem Haj:NmF Saj N_aj:=KS (by decide +kernel)
noncomputable def VU:SM:=
 UZ (V9 (U8 1 WH (UU (UQ 0) (US))))
 (U4 (Za V5 (UU (U3 UD (TW (Yu (UU (U6 0 (UV (.int 1))) (US))) 4 (gT 2 (gNC (gN 1) (gNC (gN 2) (gN0)))) (UV jR) (KZ (UQ 2)) (gN 3) (UV jR) (KZ (UQ 3)) (gN 4) (UV jR) (KI (UU (UQ 1) (UU (UQ 4) (US)))))) (US))))
noncomputable def WG:jT->jY:=Kl N_aj VU
noncomputable abbrev Sai:Stmt:=top 17
noncomputable abbrev N_ai:List Str:=["ranks", "thing", "number", "rank"]
theorem Hai:NmF Sai N_ai:=KS (by decide +kernel)
noncomputable def Ng:SM:=
 sIf (Kq oIn 1 (UQ 3))
 (U4 (UQ 2))
 (sNx)
noncomputable def VW:SM:=
 UZ (Kr (SK (UU (UQ 0) (US))) (gT 2 (gNC (gN 2) (gNC (gN 3) (gN0)))) Ng)
 (U4 (UV (.int 0)))
noncomputable def XH:jT->jY:=Kl N_ai VW
noncomputable abbrev Saz:Stmt:=top 38
noncomputable abbrev N_az:List Str:=["wishes", "ranks"]
theorem Haz:NmF Saz N_az:=KS (by decide +kernel)
noncomputable def VT:SM:=
 U4 (U3 UD (Yt (KZ (U8 1 WG (UU (UQ 0) (US)))) 2 (gT 2 (gNC (gN 2) (gNC (gN 3) (gN0)))) (UY (oIB λi j=>decide (i<=j)) (U8 2 XH (UU (UY oIx (U6 0 (UV (.int 1))) (UQ 2)) (UU (UQ 3) (US)))) (UQ 1)) (KI (UU (UQ 2) (UU (UQ 3) (UU (UV (.int 1)) (US)))))))
noncomputable def WF:jT->jY:=Kl N_az VT
noncomputable abbrev Sbe:Stmt:=top 44
noncomputable abbrev N_be:List Str:=["wishes", "ranks", "thing", "worths", "askers", "things"]
theorem Hbe:NmF Sbe N_be:=KS (by decide +kernel)
noncomputable def Wm:SM:=
 UZ (Kg 3 (U8 2 WF (UU (UQ 0) (UU (UQ 1) (US)))))
 (UZ (sIf (mOr (Kf (K0 (U3 (λd=>.bool (Kh d "tuple")) (UQ 2)))) (UY oNe (K8 2) (UV (.int 2))))
 (U4 (UV (.bool jS)))
 (sNx))
 (UZ (Yb (UQ 2) (gT 2 (gNC (gN 4) (gNC (gN 5) (gN0)))))
 (UZ (sIf (mOr (Kf (K0 (U8 2 Y9 (UU (UQ 4) (UU (Za Kj (UU (U6 0 (UV (.int 1))) (US))) (US)))))) (Kf (K0 (U8 2 Y9 (UU (UQ 5) (UU (Za Kj (UU (U6 0 (UV (.int 0))) (US))) (US)))))))
 (U4 (UV (.bool jS)))
 (sNx))
 (U4 (Za ZM (UU (U3 UD (Yt (KZ (UQ 3)) 3 (gT 3 (gNC (gN 6) (gNC (gN 7) (gNC (gN 8) (gN0))))) (UV jR) (Xy (U3 UE (Kq oIn 6 (UQ 4))) (U3 UE (Kq oIn 7 (UQ 5)))))) (US)))))))
noncomputable def YI:jT->jY:=Kl N_be Wm
noncomputable abbrev Sbg:Stmt:=top 47
noncomputable abbrev N_bg:List Str:=["_law_script", "_law_k"]
theorem Hbg:NmF Sbg N_bg:=KS (by decide +kernel)
noncomputable def Wl:SM:=
 UZ (sIf (Kq (oIB λi j=>decide (i<j)) 1 (K8 0))
 (U4 (U6 0 (UQ 1)))
 (sNx))
 (U4 (UV (.int 0)))
noncomputable def YH:jT->jY:=Kl N_bg Wl
noncomputable abbrev Sbt:Stmt:=top 60
noncomputable abbrev N_bt:List Str:=["_law_thing", "_law_most"]
theorem Hbt:NmF Sbt N_bt:=KS (by decide +kernel)
noncomputable def VH:SM:=
 U4 (XQ (U3 (λd=>.bool (Kh d "int")) (UQ 0)) (XQ (Ta (U3 (λd=>.bool (Kh d "bool")) (UQ 0))) (XQ (U3 UE (UY (oIB λi j=>decide (i<=j)) (UV (.int 0)) (UQ 0))) (U3 UE (Kq (oIB λi j=>decide (i<j)) 0 (UQ 1))))))
noncomputable def Ye:jT->jY:=Kl N_bt VH
noncomputable abbrev Sbu:Stmt:=top 61
noncomputable abbrev N_bu:List Str:=["_law_ranks_here", "_law_many", "_law_seen", "_law_row", "_law_one"]
theorem Hbu:NmF Sbu N_bu:=KS (by decide +kernel)
noncomputable def YC:SM:=
 UZ (sIf (mOr (Kf (K0 (U8 2 Ye (UU (UQ 4) (UU (UQ 1) (US)))))) (V4 oIn (UQ 4) 2))
 (U4 (UV (.bool jS)))
 (sNx))
 (ZL 2 (UQ 4))
noncomputable def Yr:SM:=
 UZ (sIf (mOr (Kf (K0 (U3 (λd=>.bool (Kh d "list")) (UQ 3)))) (Kq Vy 3 (U7 (US))))
 (U4 (UV (.bool jS)))
 (sNx))
 (Kr (KZ (UQ 3)) (gN 4) YC)
noncomputable def VG:SM:=
 UZ (sIf (mOr (Kf (K0 (U3 (λd=>.bool (Kh d "list")) (UQ 0)))) (UY (oIB λi j=>decide (j<i)) (K8 0) (UV (.int 5))))
 (U4 (UV (.bool jS)))
 (sNx))
 (UZ (Zi 2 (U5 (US) λxs=>if xs.length<=1000000 then UV xs else λ_=>.bad))
 (UZ (Kr (KZ (UQ 0)) (gN 3) Yr)
 (U4 (UV (.bool jR)))))
noncomputable def Wy:jT->jY:=Kl N_bu VG
noncomputable abbrev Sbv:Stmt:=top 62
noncomputable abbrev N_bv:List Str:=["_law_thing", "_law_copies", "_law_lists", "_law_number", "_law_many", "_law_ranks_here"]
theorem Hbv:NmF Sbv N_bv:=KS (by decide +kernel)
noncomputable def Nf:SM:=
 sIf (Kf (K0 (U8 2 Wy (UU (UQ 5) (UU (K8 1) (US))))))
 (U4 (U7 (UU (UV (.str "lists")) (UU (UQ 3) (US)))))
 (sNx)
noncomputable def Nd:SM:=
 sIf (Kf (K0 (U8 2 Ye (UU (UQ 4) (UU (UV (.int 8)) (US))))))
 (U4 (U7 (UU (UV (.str "copies")) (UU (UQ 3) (US)))))
 (sNx)
noncomputable def VF:SM:=
 UZ (sIf (mOr (Kf (K0 (U3 (λd=>.bool (Kh d "tuple")) (UQ 0)))) (UY oNe (K8 0) (UV (.int 2))))
 (U4 (U7 (UU (UV (.str "wishes")) (UU (UV .none) (US)))))
 (sNx))
 (UZ (Yb (UQ 0) (gT 2 (gNC (gN 1) (gNC (gN 2) (gN0)))))
 (UZ (sIf (mOr (Kf (K0 (U3 (λd=>.bool (Kh d "list")) (UQ 1)))) (Kf (Xr (oIB λi j=>decide (i<=j)) (oIB λi j=>decide (i<=j)) (UV (.int 1)) (K8 1) (UV (.int 6)))))
 (U4 (U7 (UU (UV (.str "copies")) (UU (UV .none) (US)))))
 (sNx))
 (UZ (Kr (Yu (UU (UQ 1) (US))) (gT 2 (gNC (gN 3) (gNC (gN 4) (gN0)))) Nd)
 (UZ (sIf (mOr (Kf (K0 (U3 (λd=>.bool (Kh d "list")) (UQ 2)))) (Kf (Xr (oIB λi j=>decide (i<=j)) (oIB λi j=>decide (i<=j)) (UV (.int 1)) (K8 2) (UV (.int 7)))))
 (U4 (U7 (UU (UV (.str "lists")) (UU (UV .none) (US)))))
 (sNx))
 (UZ (Kr (Yu (UU (UQ 2) (US))) (gT 2 (gNC (gN 3) (gNC (gN 5) (gN0)))) Nf)
 (U4 (U7 (US))))))))
noncomputable def Wx:jT->jY:=Kl N_bv VF
noncomputable abbrev Hf:Stmt:=top 15
noncomputable abbrev He:List Str:=["lists", "things", "asker", "ranks"]
theorem Hm:NmF Hf He:=KS (by decide +kernel)
noncomputable def L9:SM:=
 sIf (Kf (K0 (U8 2 YJ (UU (UQ 3) (UU (UQ 1) (US))))))
 (Wa "NoWishes" (UU (UV (.str "lists")) (UU (UQ 2) (US))))
 (sNx)
noncomputable def Og:SM:=
 UZ (sIf (mOr (Kf (K0 (U3 (λd=>.bool (Kh d "list")) (UQ 0)))) (Kf (Xr (oIB λi j=>decide (i<=j)) (oIB λi j=>decide (i<=j)) (UV (.int 1)) (K8 0) (UV (.int 7)))))
 (Wa "NoWishes" (UU (UV (.str "lists")) (UU (UV .none) (US))))
 (sNx))
 (Kr (Yu (UU (UQ 0) (US))) (gT 2 (gNC (gN 2) (gNC (gN 3) (gN0)))) L9)
noncomputable def Ry:jT->Option XR:=Zo He Og
noncomputable abbrev Hl:Stmt:=top 12
noncomputable abbrev Hk:List Str:=["copies", "number", "many"]
theorem L8:NmF Hl Hk:=KS (by decide +kernel)
noncomputable def Hq:SM:=
 sIf (Kf (K0 (U8 2 Zm (UU (UQ 2) (UU (UY Kb (UV (.int 7)) (UV (.int 1))) (US))))))
 (Wa "NoWishes" (UU (UV (.str "copies")) (UU (UQ 1) (US))))
 (sNx)
noncomputable def Od:SM:=
 UZ (sIf (mOr (Kf (K0 (U3 (λd=>.bool (Kh d "list")) (UQ 0)))) (Kf (Xr (oIB λi j=>decide (i<=j)) (oIB λi j=>decide (i<=j)) (UV (.int 1)) (K8 0) (UV (.int 6)))))
 (Wa "NoWishes" (UU (UV (.str "copies")) (UU (UV .none) (US))))
 (sNx))
 (Kr (Yu (UU (UQ 0) (US))) (gT 2 (gNC (gN 1) (gNC (gN 2) (gN0)))) Hq)
noncomputable def Rz:jT->Option XR:=Zo Hk Od
noncomputable abbrev Hj:Stmt:=top 16
noncomputable abbrev Hi:List Str:=["thing", "copies", "lists"]
theorem L7:NmF Hj Hi:=KS (by decide +kernel)
noncomputable def Oc:SM:=
 UZ (sIf (mOr (Kf (K0 (U3 (λd=>.bool (Kh d "tuple")) (UQ 0)))) (UY oNe (K8 0) (UV (.int 2))))
 (Wa "NoWishes" (UU (UV (.str "wishes")) (UU (UV .none) (US))))
 (sNx))
 (UZ (Yb (UQ 0) (gT 2 (gNC (gN 1) (gNC (gN 2) (gN0)))))
 (UZ (sX (ZH 1 Rz (UU (UQ 1) (US))) λ_ Z=>.nx Z)
 (sX (ZH 2 Ry (UU (UQ 2) (UU (K8 1) (US)))) λ_ Z=>.nx Z)))
noncomputable def Vn:jT->Option XR:=Zo Hi Oc
noncomputable abbrev L4:Stmt:=top 18
noncomputable abbrev L1:List Str:=["wishes"]
theorem LS:NmF L4 L1:=KS (by decide +kernel)
noncomputable def L0:SM:=
 UZ (sX (ZH 1 Vn (UU (UQ 0) (US))) λ_ Z=>.nx Z)
 (Xq)
noncomputable def Rx:jT->Option XR:=Zo L1 L0
noncomputable abbrev Hd:Stmt:=top 38
noncomputable abbrev Hc:List Str:=["wishes", "ranks"]
theorem Hh:NmF Hd Hc:=KS (by decide +kernel)
noncomputable def Of:SM:=
 sX (mNV (ZH 1 Rx (UU (UQ 0) (US)))) λd _=>.rt d
noncomputable def WZ:jT->Option XR:=Zo Hc Of
noncomputable abbrev LZ:Stmt:=top 44
noncomputable abbrev LY:List Str:=["wishes", "ranks", "thing", "worths", "askers", "things"]
theorem LR:NmF LZ LY:=KS (by decide +kernel)
noncomputable def P8:SM:=
 UZ (sX (ZH 2 WZ (UU (UQ 0) (UU (UQ 1) (US)))) λd Z=>match gN 3 d Z with|some Z'=>.nx Z'|none=>.bad)
 (Xq)
noncomputable def Sm:jT->Option XR:=Zo LY P8
noncomputable abbrev Ll:Stmt:=top 45
noncomputable abbrev Lk:List Str:=["wishes", "cover", "askers", "things"]
theorem Lc:NmF Ll Lk:=KS (by decide +kernel)
noncomputable def Lj:SM:=
 UZ (sX (ZH 1 Vn (UU (UQ 0) (US))) λ_ Z=>.nx Z)
 (Xq)
noncomputable def Sg:jT->Option XR:=Zo Lk Lj
noncomputable abbrev LA:Stmt:=top 42
noncomputable abbrev Lz:List Str:=["wishes", "ranks", "worths", "times", "asks", "prices"]
theorem LX:NmF LA Lz:=KS (by decide +kernel)
noncomputable def Ob:SM:=
 UZ (sX (ZH 2 WZ (UU (UQ 0) (UU (UQ 1) (US)))) λd Z=>match gN 2 d Z with|some Z'=>.nx Z'|none=>.bad)
 (Xq)
noncomputable def Sk:jT->Option XR:=Zo Lz Ob
noncomputable abbrev Hb:Stmt:=top 39
noncomputable abbrev Ha:List Str:=["wishes", "ranks"]
theorem Hg:NmF Hb Ha:=KS (by decide +kernel)
noncomputable def Oe:SM:=
 sX (mNV (U5 (UQ 0) λ_=>ZH 2 WZ (UU (UQ 0) (UU (UQ 1) (US))))) λd _=>.rt d
noncomputable def Vm:jT->Option XR:=Zo Ha Oe
noncomputable abbrev Lb:Stmt:=top 40
noncomputable abbrev La:List Str:=["wishes", "ranks"]
theorem Ly:NmF Lb La:=KS (by decide +kernel)
noncomputable def PP:SM:=
 sX (mNV (mNV (ZH 2 Vm (UU (UQ 0) (UU (UQ 1) (US)))))) λd _=>.rt d
noncomputable def Sf:jT->Option XR:=Zo La PP
noncomputable abbrev Sbs:Stmt:=top 59
noncomputable abbrev N_bs:List Str:=["_law_way", "_law_wishes_here", "_law_ranks_here", "_law_cover_here", "_law_found", "e"]
theorem Hbs:NmF Sbs N_bs:=KS (by decide +kernel)
noncomputable def VI:SM:=
 UZ (Zi 4 (U5 (US) λxs=>if xs.length<=1000000 then UV xs else λ_=>.bad))
 (UZ (Xu 5 "NoWishes" (sIf (Kq oEq 0 (UV (.int 0)))
 (sX (ZH 3 Sm (UU (UQ 1) (UU (UQ 2) (UU (UQ 3) (US))))) λ_ Z=>.nx Z)
 (sIf (Kq oEq 0 (UV (.int 1)))
 (sX (ZH 2 Sg (UU (UQ 1) (UU (UQ 3) (US)))) λ_ Z=>.nx Z)
 (sIf (Kq oEq 0 (UV (.int 2)))
 (sX (ZH 2 Sk (UU (UQ 1) (UU (UQ 2) (US)))) λ_ Z=>.nx Z)
 (sIf (Kq oEq 0 (UV (.int 3)))
 (sX (ZH 2 Sf (UU (UQ 1) (UU (UQ 2) (US)))) λ_ Z=>.nx Z)
 (sX (ZH 2 Vm (UU (UQ 1) (UU (UQ 2) (US)))) λ_ Z=>.nx Z))))) (Zi 4 (U5 (UU (U5 (UQ 5) λd=>U2 (Vu "DealError" d)) (UU (U5 (UQ 5) λd=>U2 (Vv d)) (UU (U5 (UQ 5) λd=>U2 (Wi "part" d)) (UU (U5 (UQ 5) λd=>U2 (Wi "number" d)) (US))))) λxs=>if xs.length<=1000000 then UV xs else λ_=>.bad)))
 (U4 (UQ 4)))
noncomputable def Wz:jT->jY:=Kl N_bs VI
noncomputable abbrev Sbh:Stmt:=top 48
noncomputable abbrev N_bh:List Str:=["_law_cell", "_law_salt", "_law_sizes", "_law_number", "_law_left", "_law_found", "_law_k", "_law_one"]
theorem Hbh:NmF Sbh N_bh:=KS (by decide +kernel)
noncomputable def R7:SM:=
 sIf (Zq (Kq (oIB λi j=>decide (j<=i)) 3 (UY ZU (UV (.int 10)) (UV (.int 18)))) (Kq (oIB λi j=>decide (j<i)) 4 (UV (.int 0))))
 (UZ (ZL 5 (UY K9 (UQ 4) (U6 2 (UQ 6))))
 (Kg 4 (UY Yp (UQ 4) (U6 2 (UQ 6)))))
 (UZ (Kg 7 (UY K9 (UY Kb (UY Kb (UY Kb (UQ 3) (UY Kw (UV (.int 7919)) (UQ 1))) (UY Kw (UY Kw (UV (.int 101)) (UQ 6)) (UQ 6))) (UQ 6)) (UV (.int 2147483647))))
 (UZ (Kg 7 (UY K9 (UY Kw (UQ 7) (UV (.int 48271))) (UV (.int 2147483647))))
 (UZ (Kg 7 (UY K9 (UY Kw (UY K9 (UY Kw (UQ 7) (UQ 7)) (UV (.int 2147483629))) (UV (.int 48271))) (UV (.int 2147483647))))
 (ZL 5 (UY K9 (UY Yp (UQ 7) (UV (.int 16))) (U6 2 (UQ 6)))))))
noncomputable def VS:SM:=
 UZ (Kg 3 (Za TD (UU (UQ 0) (UU (UY Xw (ZA (UV (.int 1))) (UQ 0)) (US)))))
 (UZ (Kg 4 (UQ 3))
 (UZ (Zi 5 (U5 (US) λxs=>if xs.length<=1000000 then UV xs else λ_=>.bad))
 (UZ (Kr (W2 (UU (K8 2) (US))) (gN 6) R7)
 (U4 (UQ 5)))))
noncomputable def ZD:jT->jY:=Kl N_bh VS
noncomputable abbrev Lx:Stmt:=top 50
noncomputable abbrev Oa:List Str:=["_law_wishes_here", "_law_lists", "_law_ranks_here"]
theorem LW:NmF Lx Oa:=KS (by decide +kernel)
noncomputable def LU:SM:=
 ZL 1 (U3 UD (Yt (KZ (UQ 2)) 1 (gN 3) (UV jR) (U3 UD (W8 3))))
noncomputable def Rw:SM:=
 UZ (Zi 1 (U5 (US) λxs=>if xs.length<=1000000 then UV xs else λ_=>.bad))
 (UZ (Kr (KZ (U6 0 (UV (.int 1)))) (gN 2) LU)
 (sNx))
noncomputable def Lw:M D:=
 TY (U5 (UU (U6 0 (UV (.int 0))) (US)) λxs=>U2 (XN xs)) 1
noncomputable def Sj:jT->jY:=Tw Oa Rw Lw
noncomputable abbrev Sbk:Stmt:=top 51
noncomputable abbrev N_bk:List Str:=["_law_wishes_here", "_law_cell", "_law_salt", "_law_digits", "_law_copies", "_law_lists", "_law_way", "_law_thing", "_law_asker"]
theorem Hbk:NmF Sbk N_bk:=KS (by decide +kernel)
noncomputable def VQ:SM:=
 UZ (Kg 3 (U8 3 ZD (UU (UQ 1) (UU (UQ 2) (UU (U7 (UU (UV (.int 11)) (UU (UV (.int 42)) (UU (UV (.int 42)) (US))))) (US))))))
 (UZ (Tc 4 5 (U8 1 Sj (UU (UQ 0) (US))))
 (UZ (Kg 6 (U6 3 (UV (.int 0))))
 (UZ (Kg 7 (UY K9 (U6 3 (UV (.int 1))) (K8 4)))
 (UZ (Kg 8 (UY K9 (U6 3 (UV (.int 2))) (K8 5)))
 (UZ (sIf (Kq oEq 6 (UV (.int 0)))
 (U4 (U7 (UU (UQ 4) (UU (UQ 5) (US)))))
 (sNx))
 (UZ (sIf (Kq oEq 6 (UV (.int 1)))
 (U4 (KI (UU (UQ 4) (UU (UQ 5) (UU (U7 (US)) (US))))))
 (sNx))
 (UZ (sIf (Kq oEq 6 (UV (.int 2)))
 (U4 (UY oIx (U7 (UU (UV .none) (UU (UV (.str "wishes")) (UU (UV (.int 3)) (UU (UQ 4) (UU (KI (UU (U7 (US)) (UU (U7 (US)) (US)))) (UU (KI (UU (UQ 4) (US))) (US)))))))) (UY K9 (U6 3 (UV (.int 1))) (UV (.int 6)))))
 (sNx))
 (UZ (sIf (Kq oEq 6 (UV (.int 3)))
 (WM 4 (UQ 7) (UY oIx (U7 (UU (ZA (UV (.int 1))) (UU (UV (.int 8)) (UU (UV (.bool jR)) (UU (UV .none) (UU (UV (.str "1")) (UU (UY ZU (UV (.int 10)) (UV (.int 40))) (US)))))))) (UY K9 (U6 3 (UV (.int 2))) (UV (.int 6)))))
 (sNx))
 (UZ (sIf (Kq oEq 6 (UV (.int 4)))
 (Zi 4 (U5 (US) λxs=>if xs.length<=1000000 then UV xs else λ_=>.bad))
 (sNx))
 (UZ (sIf (Kq oEq 6 (UV (.int 5)))
 (Zi 5 (U5 (US) λxs=>if xs.length<=1000000 then UV xs else λ_=>.bad))
 (sNx))
 (UZ (sIf (Kq oEq 6 (UV (.int 6)))
 (WM 5 (UQ 8) (U7 (UU (U7 (UU (K8 4) (US))) (US))))
 (sNx))
 (UZ (sIf (Kq oEq 6 (UV (.int 7)))
 (WM 5 (UQ 8) (U7 (UU (U7 (UU (UQ 7) (US))) (UU (U7 (UU (UQ 7) (US))) (US)))))
 (sNx))
 (UZ (sIf (Kq oEq 6 (UV (.int 8)))
 (WM 5 (UQ 8) (U7 (UU (U7 (UU (UQ 7) (US))) (UU (U7 (US)) (US)))))
 (sNx))
 (UZ (sIf (Kq oEq 6 (UV (.int 9)))
 (WM 5 (UQ 8) (U7 (UU (KI (UU (UQ 7) (US))) (US))))
 (sNx))
 (UZ (sIf (Kq oEq 6 (UV (.int 10)))
 (Kg 5 (UY Kb (UQ 5) (UY Kw (U7 (UU (U7 (US)) (US))) (UV (.int 7)))))
 (sNx))
 (U4 (KI (UU (UQ 4) (UU (UQ 5) (US))))))))))))))))))))
noncomputable def WD:jT->jY:=Kl N_bk VQ
noncomputable abbrev Sbm:Stmt:=top 53
noncomputable abbrev N_bm:List Str:=["_law_wishes_here", "_law_ranks_here"]
theorem Hbm:NmF Sbm N_bm:=KS (by decide +kernel)
noncomputable def VO:SM:=
 U4 (U3 UD (Yt (KZ (U6 0 (UV (.int 1)))) 1 (gN 2) (UV jR) (Za W1 (UU (KW (UQ 2) (UV jQ) (U5 (UQ 1) λx=>U2 (ZJ x))) (UU (U7 (US)) (US))))))
noncomputable def Y8:jT->jY:=Kl N_bm VO
noncomputable abbrev Sbl:Stmt:=top 52
noncomputable abbrev N_bl:List Str:=["_law_thing"]
theorem Hbl:NmF Sbl N_bl:=KS (by decide +kernel)
noncomputable def VP:SM:=
 U4 (XQ (U3 (λd=>.bool (Kh d "int")) (UQ 0)) (Ta (U3 (λd=>.bool (Kh d "bool")) (UQ 0))))
noncomputable def XG:jT->jY:=Kl N_bl VP
noncomputable abbrev Sbn:Stmt:=top 54
noncomputable abbrev N_bn:List Str:=["_law_wishes_here", "_law_ranks_here", "_law_thing", "_law_row", "_law_many", "_law_at", "_law_one", "_law_asker"]
theorem Hbn:NmF Sbn N_bn:=KS (by decide +kernel)
noncomputable def Nc:SM:=
 sIf (Zq (Kq YE 7 (U6 2 (UV (.int 0)))) (Kq YE 6 (U6 2 (UV (.int 1)))))
 (U4 (UV (.bool jS)))
 (sNx)
noncomputable def Nb:SM:=
 Kr (KZ (UQ 3)) (gN 6) Nc
noncomputable def SW:SM:=
 sIf (mOr (Kf (K0 (U8 1 XG (UU (UQ 6) (US))))) (mOr (Kq (oIB λi j=>decide (i<j)) 6 (UV (.int 0))) (mOr (Kq (oIB λi j=>decide (j<=i)) 6 (UQ 4)) (Zq (Kq (oIB λi j=>decide (j<i)) 5 (UV (.int 0))) (Kq (oIB λi j=>decide (i<=j)) 6 (U6 3 (UY Xw (UQ 5) (UV (.int 1)))))))))
 (U4 (UV (.bool jS)))
 (sNx)
noncomputable def T5:SM:=
 UZ (sIf (Kf (K0 (U3 (λd=>.bool (Kh d "list")) (UQ 3))))
 (U4 (UV (.bool jS)))
 (sNx))
 (Kr (Yu (UU (UQ 3) (US))) (gT 2 (gNC (gN 5) (gNC (gN 6) (gN0)))) SW)
noncomputable def Wk:SM:=
 UZ (sIf (mOr (Kf (K0 (U3 (λd=>.bool (Kh d "tuple")) (UQ 2)))) (UY oNe (K8 2) (UV (.int 2))))
 (U4 (UV (.bool jS)))
 (sNx))
 (UZ (Kr (So (UU (UQ 2) (UU (U7 (UU (Za Kj (UU (U6 0 (UV (.int 1))) (US))) (UU (Za Kj (UU (U6 0 (UV (.int 0))) (US))) (US)))) (US)))) (gT 2 (gNC (gN 3) (gNC (gN 4) (gN0)))) T5)
 (UZ (Kr (Yu (UU (U8 2 Y8 (UU (UQ 0) (UU (UQ 1) (US)))) (US))) (gT 2 (gNC (gN 7) (gNC (gN 3) (gN0)))) Nb)
 (U4 (UV (.bool jR)))))
noncomputable def Y7:jT->jY:=Kl N_bn Wk
noncomputable abbrev Sbw:Stmt:=top 63
noncomputable abbrev N_bw:List Str:=["_law_cell"]
theorem Hbw:NmF Sbw N_bw:=KS (by decide +kernel)
noncomputable def VE:SM:=
 UZ (sIf (UY (oIB λi j=>decide (i<j)) (Za Vz (UU (UQ 0) (US))) (UY ZU (UV (.int 10)) (UV (.int 18))))
 (U4 (UQ 0))
 (sNx))
 (U4 (UY Yp (UQ 0) (UY ZU (UV (.int 10)) (UV (.int 12)))))
noncomputable def XE:jT->jY:=Kl N_bw VE
noncomputable abbrev Sbq:Stmt:=top 57
noncomputable abbrev N_bq:List Str:=["_law_row", "_law_many", "_law_way", "_law_place", "_law_odd_here", "_law_some", "_law_at"]
theorem Hbq:NmF Sbq N_bq:=KS (by decide +kernel)
noncomputable def VL:SM:=
 UZ (Zi 5 (U5 (UU (UV .none) (UU (UV (.bool jR)) (UU (UV (.bool jS)) (UU (ZA (UV (.int 1))) (UU (UQ 1) (UU (UV (.str "0")) (UU (U7 (UU (UV (.int 0)) (US))) (UU (KI (UU (UV (.int 0)) (US))) (UU (UY Kb (UQ 1) (UY ZU (UV (.int 10)) (UV (.int 20)))) (US)))))))))) λxs=>if xs.length<=1000000 then UV xs else λ_=>.bad))
 (UZ (Kg 6 (UY K9 (UQ 3) (UY Kb (K8 0) (UV (.int 1)))))
 (UZ (sIf (Kq oEq 2 (UV (.int 4)))
 (U4 (UY Kb (UY Kb (KW (UQ 0) (UV jQ) (U5 (UQ 6) λx=>U2 (ZJ x))) (U7 (UU (U6 5 (UQ 4)) (US)))) (KW (UQ 0) (U5 (UQ 6) λx=>U2 (ZJ x)) (UV jQ))))
 (sNx))
 (UZ (sIf (Kq oEq 2 (UV (.int 5)))
 (U4 (UY Kb (KW (UQ 0) (UV jQ) (U5 (UQ 6) λx=>U2 (ZJ x))) (KW (UQ 0) (U5 (Za TD (UU (UV (.int 0)) (UU (UY Xw (UQ 6) (UV (.int 1))) (US)))) λx=>U2 (ZJ x)) (UV jQ))))
 (sNx))
 (UZ (sIf (Kq oEq 2 (UV (.int 6)))
 (U4 (UY Kb (XA (KW (UQ 0) (UV jQ) (U5 (UQ 6) λx=>U2 (ZJ x))) (UV jQ) (UV jQ) (U5 (ZA (UV (.int 1))) λx=>U2 (ZJ x))) (KW (UQ 0) (U5 (UQ 6) λx=>U2 (ZJ x)) (UV jQ))))
 (sNx))
 (UZ (sIf (Kq oEq 2 (UV (.int 7)))
 (U4 (UY oIx (U7 (UU (Za RA (UU (UQ 0) (US))) (UU (U6 5 (UQ 4)) (US)))) (UY K9 (UQ 4) (UV (.int 2)))))
 (sNx))
 (U4 (U3 UD (W8 0))))))))
noncomputable def XF:jT->jY:=Kl N_bq VL
noncomputable abbrev Sbr:Stmt:=top 58
noncomputable abbrev N_br:List Str:=["_law_wishes_here", "_law_cover_here", "_law_cell", "_law_salt", "_law_digits", "_law_askers", "_law_things", "_law_some"]
theorem Hbr:NmF Sbr N_br:=KS (by decide +kernel)
noncomputable def VJ:SM:=
 UZ (Kg 4 (U8 3 ZD (UU (UQ 2) (UU (UQ 3) (UU (U7 (UU (UV (.int 8)) (UU (UV (.int 7)) (UU (UV (.int 9)) (UU (UV (.int 8)) (UU (UV (.int 7)) (UU (UV (.int 9)) (UU (UV (.int 8)) (UU (UV (.int 7)) (US)))))))))) (US))))))
 (UZ (Kg 5 (U8 5 XF (UU (U6 1 (UV (.int 0))) (UU (Za Kj (UU (U6 0 (UV (.int 1))) (US))) (UU (U6 4 (UV (.int 0))) (UU (U6 4 (UV (.int 1))) (UU (U6 4 (UV (.int 2))) (US))))))))
 (UZ (Kg 6 (U8 5 XF (UU (U6 1 (UV (.int 1))) (UU (Za Kj (UU (U6 0 (UV (.int 0))) (US))) (UU (U6 4 (UV (.int 3))) (UU (U6 4 (UV (.int 4))) (UU (U6 4 (UV (.int 5))) (US))))))))
 (UZ (sIf (UY oEq (U6 4 (UV (.int 6))) (UV (.int 1)))
 (UZ (Zi 7 (U5 (UU (U7 (UU (UQ 5) (UU (UQ 6) (US)))) (UU (KI (UU (UQ 5) (US))) (UU (KI (UU (UQ 5) (UU (UQ 6) (UU (U7 (US)) (US))))) (US)))) λxs=>if xs.length<=1000000 then UV xs else λ_=>.bad))
 (U4 (UY oIx (UY Kb (UQ 7) (U7 (UU (UV .none) (UU (UQ 5) (UU (UV (.int 0)) (UU (UV (.str "cover")) (US))))))) (U6 4 (UV (.int 7))))))
 (sNx))
 (U4 (KI (UU (UQ 5) (UU (UQ 6) (US))))))))
noncomputable def WA:jT->jY:=Kl N_br VJ
noncomputable abbrev Sbo:Stmt:=top 55
noncomputable abbrev N_bo:List Str:=["_law_wishes_here", "_law_ranks_here", "_law_cell", "_law_salt", "_law_sizes", "_law_digits", "_law_things", "_law_askers", "_law_asker", "_law_row", "_law_lacks", "_law_at"]
theorem Hbo:NmF Sbo N_bo:=KS (by decide +kernel)
noncomputable def Na:SM:=
 UZ (Zi 10 (TX (KZ (UQ 9)) 1 (gN 12) (Kq YE 12 (UQ 6)) (UQ 12)))
 (sIf (mOr (Kq oNe 10 (U7 (US))) (UY oEq (U6 5 (UY Kb (Za Kj (UU (U6 0 (UV (.int 0))) (US))) (UQ 8))) (UV (.int 0))))
 (ZL 7 (UQ 8))
 (sNx))
noncomputable def VN:SM:=
 UZ (Kg 4 (UY Kb (UY Kb (UY Kw (U7 (UU (UV (.int 3)) (US))) (Za Kj (UU (U6 0 (UV (.int 0))) (US)))) (UY Kw (U7 (UU (UV (.int 6)) (US))) (Za Kj (UU (U6 0 (UV (.int 1))) (US))))) (U7 (UU (UV (.int 3)) (UU (UV (.int 7)) (US))))))
 (UZ (Kg 5 (U8 3 ZD (UU (UQ 2) (UU (UQ 3) (UU (UQ 4) (US))))))
 (UZ (Zi 6 (Yt (W2 (UU (Za Kj (UU (U6 0 (UV (.int 0))) (US))) (US))) 1 (gN 12) (UY oEq (U6 5 (UQ 12)) (UV (.int 0))) (UQ 12)))
 (UZ (Zi 7 (U5 (US) λxs=>if xs.length<=1000000 then UV xs else λ_=>.bad))
 (UZ (Kr (Yu (UU (U8 2 Y8 (UU (UQ 0) (UU (UQ 1) (US)))) (US))) (gT 2 (gNC (gN 8) (gNC (gN 9) (gN0)))) Na)
 (UZ (Kg 11 (U6 5 (ZA (UV (.int 1)))))
 (UZ (sIf (Zq (UY oEq (U6 5 (ZA (UV (.int 2)))) (UV (.int 1))) (Kq (oIB λi j=>decide (i<j)) 11 (K8 7)))
 (Kg 7 (UY Kb (KW (UQ 7) (UV jQ) (U5 (UQ 11) λx=>U2 (ZJ x))) (KW (UQ 7) (U5 (UY Kb (UQ 11) (UV (.int 1))) λx=>U2 (ZJ x)) (UV jQ))))
 (sNx))
 (UZ (sIf (Zq (UY oEq (U6 5 (ZA (UV (.int 2)))) (UV (.int 2))) (Kq (oIB λi j=>decide (i<j)) 11 (K8 6)))
 (Kg 6 (UY Kb (KW (UQ 6) (UV jQ) (U5 (UQ 11) λx=>U2 (ZJ x))) (KW (UQ 6) (U5 (UY Kb (UQ 11) (UV (.int 1))) λx=>U2 (ZJ x)) (UV jQ))))
 (sNx))
 (U4 (KI (UU (UQ 7) (UU (UQ 6) (US))))))))))))
noncomputable def WC:jT->jY:=Kl N_bo VN
noncomputable abbrev Sbp:Stmt:=top 56
noncomputable abbrev N_bp:List Str:=["_law_cell", "_law_salt", "_law_digits"]
theorem Hbp:NmF Sbp N_bp:=KS (by decide +kernel)
noncomputable def VM:SM:=
 UZ (Kg 2 (U8 3 ZD (UU (UQ 0) (UU (UQ 1) (UU (U7 (UU (UV (.int 8)) (UU (UY ZU (UV (.int 10)) (UV (.int 18))) (US)))) (US))))))
 (U4 (UY oIx (U7 (UU (UV (.int 0)) (UU (UV (.int 1)) (UU (UV (.int 2)) (UU (UV (.int 3)) (UU (UV (.int 4)) (UU (UV (.int 5)) (UU (UV (.int 6)) (UU (UY Kb (UV (.int 6)) (U6 2 (UV (.int 1)))) (US)))))))))) (U6 2 (UV (.int 0)))))
noncomputable def WB:jT->jY:=Kl N_bp VM
noncomputable abbrev F_bj:jT->jY:=Sj
noncomputable abbrev Sbi:Stmt:=top 49
noncomputable abbrev N_bi:List Str:=["_law_script", "_law_at", "_law_most_things", "_law_most_askers", "_law_most_ranks", "_law_sizes", "_law_digits", "_law_copies", "_law_lists", "_law_asker", "_law_cell", "_law_places", "_law_ranks_here", "_law_rank", "_law_row"]
theorem Hbi:NmF Sbi N_bi:=KS (by decide +kernel)
noncomputable def R6:SM:=
 UZ (Zi 14 (Yt (W2 (UU (K8 7) (US))) 1 (gN 15) (UY oEq (U6 11 (UQ 15)) (UQ 13)) (UQ 15)))
 (sIf (Kq oNe 14 (U7 (US)))
 (ZL 12 (UY oIx (U7 (UU (UQ 14) (UU (XA (UQ 14) (UV jQ) (UV jQ) (U5 (ZA (UV (.int 1))) λx=>U2 (ZJ x))) (US)))) (U6 11 (ZA (UV (.int 1))))))
 (sNx))
noncomputable def R5:SM:=
 UZ (Kg 10 (U8 2 YH (UU (UQ 0) (UU (UY Kb (UY Kb (UQ 1) (UV (.int 1))) (UQ 9)) (US)))))
 (UZ (Kg 11 (U8 3 ZD (UU (UQ 10) (UU (UY Kb (UY Kb (UY Kw (UV (.int 11)) (UQ 1)) (UY Kw (UV (.int 3)) (UQ 9))) (UV (.int 1))) (UU (UY Kb (UY Kw (U7 (UU (UY Kb (UQ 4) (UV (.int 1))) (US))) (UQ 2)) (U7 (UU (UV (.int 2)) (US)))) (US))))))
 (UZ (Zi 12 (U5 (US) λxs=>if xs.length<=1000000 then UV xs else λ_=>.bad))
 (UZ (Kr (Sz (UU (UV (.int 1)) (UU (UY Kb (UQ 4) (UV (.int 1))) (US)))) (gN 13) R6)
 (ZL 8 (UQ 12)))))
noncomputable def VR:SM:=
 UZ (Kg 5 (UY Kb (U7 (UU (UQ 2) (UU (UQ 3) (US)))) (UY Kw (U7 (UU (UV (.int 11)) (US))) (UQ 2))))
 (UZ (Kg 6 (U8 3 ZD (UU (U8 2 YH (UU (UQ 0) (UU (UQ 1) (US)))) (UU (UQ 1) (UU (UQ 5) (US))))))
 (UZ (Zi 7 (Yt (KZ (KW (UQ 6) (U5 (UV (.int 2)) λx=>U2 (ZJ x)) (U5 (UY Kb (UV (.int 3)) (U6 6 (UV (.int 0)))) λx=>U2 (ZJ x)))) 1 (gN 15) (UV jR) (UY oIx (U7 (UU (UV (.int 1)) (UU (UV (.int 1)) (UU (UV (.int 2)) (UU (UV (.int 0)) (UU (UV (.int 3)) (UU (UV (.int 7)) (UU (UV (.int 1)) (UU (UV (.int 4)) (UU (UV (.int 5)) (UU (UV (.int 6)) (UU (UV (.int 1)) (US))))))))))))) (UQ 15))))
 (UZ (Zi 8 (U5 (US) λxs=>if xs.length<=1000000 then UV xs else λ_=>.bad))
 (UZ (Kr (W2 (UU (UY Kb (UV (.int 1)) (U6 6 (UV (.int 1)))) (US))) (gN 9) R5)
 (U4 (KI (UU (UQ 7) (UU (UQ 8) (US)))))))))
noncomputable def WE:jT->jY:=Kl N_bi VR
noncomputable abbrev Sbx:Stmt:=top 64
noncomputable abbrev N_bx:List Str:=["_law_script", "_law_wishes_here", "_law_handed", "_law_k", "_law_cell", "_law_ranks_here", "_law_cover_here", "_law_thing", "_law_shown", "_law_found", "_law_bad", "_law_way", "_law_told"]
theorem Hbx:NmF Sbx N_bx:=KS (by decide +kernel)
noncomputable def Nw:SM:=
 UZ (Kg 5 (U8 2 WB (UU (UQ 4) (UU (UY Kb (UV (.int 31)) (UQ 3)) (US)))))
 (UZ (Kg 6 (U8 4 WC (UU (UQ 1) (UU (UQ 5) (UU (UY Yp (UQ 4) (UV (.int 8))) (UU (UY Kb (UV (.int 61)) (UQ 3)) (US)))))))
 (UZ (Kg 7 (U8 4 WA (UU (UQ 1) (UU (UQ 6) (UU (U8 1 XE (UU (UQ 4) (US))) (UU (UY Kb (UV (.int 131)) (UQ 3)) (US)))))))
 (UZ (Kg 8 (Za Vb (UU (UQ 7) (US))))
 (UZ (Kg 9 (U8 3 YI (UU (UQ 2) (UU (UQ 5) (UU (UQ 7) (US))))))
 (UZ (sIf (mOr (Kf (K0 (U3 (λd=>.bool (Kh d "bool")) (UQ 9)))) (UY Xx (Za Vb (UU (UQ 7) (US))) (UQ 8)))
 (U4 (UV (.bool jS)))
 (sNx))
 (UZ (sIf (Kq oNe 9 (U8 3 Y7 (UU (UQ 1) (UU (UQ 5) (UU (UQ 7) (US))))))
 (U4 (UV (.bool jS)))
 (sNx))
 (sIf (UY oEq (UY K9 (UQ 3) (UV (.int 4))) (UV (.int 0)))
 (UZ (Kg 10 (U8 3 WD (UU (UQ 1) (UU (UQ 4) (UU (UY Kb (UV (.int 191)) (UQ 3)) (US))))))
 (UZ (Kg 11 (UY K9 (UY Yp (UQ 3) (UV (.int 4))) (UV (.int 5))))
 (UZ (Kg 12 (U8 4 Wz (UU (UQ 11) (UU (UQ 10) (UU (UQ 5) (UU (UY oIx (U7 (UU (UQ 6) (UU (UQ 7) (US)))) (Za RC (UU (U3 UE (Kq oEq 11 (UV (.int 0)))) (US)))) (US)))))))
 (sIf (Kq oNe 12 (UY Kb (U7 (UU (UV (.bool jR)) (UU (UV (.bool jR)) (US)))) (U8 1 Wx (UU (UQ 10) (US)))))
 (U4 (UV (.bool jS)))
 (sNx)))))
 (sNx))))))))
noncomputable def VD:SM:=
 UZ (Kg 1 (U8 5 WE (UU (UQ 0) (UU (UV (.int 1)) (UU (UV (.int 5)) (UU (UV (.int 6)) (UU (UV (.int 4)) (US))))))))
 (UZ (Kg 2 (U8 1 F_bj (UU (UQ 1) (US))))
 (UZ (Kr (Yu (UU (UY Kb (U7 (UU (U8 2 YH (UU (UQ 0) (UU (UV (.int 0)) (US)))) (US))) (KW (UQ 0) (U5 (UV (.int 8)) λx=>U2 (ZJ x)) (U5 (UV (.int 63)) λx=>U2 (ZJ x)))) (US))) (gT 2 (gNC (gN 3) (gNC (gN 4) (gN0)))) Nw)
 (U4 (XQ (U3 UE (Kq oEq 2 (UQ 1))) (U3 UE (UY Vw (U8 3 YI (UU (UQ 2) (UU (UV (.int 7)) (UU (KI (UU (U3 UD (U5 (UU (Za Kj (UU (U6 1 (UV (.int 1))) (US))) (US)) λxs=>U2 (V6 xs))) (UU (U7 (US)) (US)))) (US))))) (UV (.bool jR))))))))
noncomputable def Ww:jT->jY:=Kl N_bx VD
set_option hygiene false in
local macro_rules | `(tactic| walk_at "g")=>`(tactic| first | exact gA nm rfl | exact FR rfl)
set_option hygiene false in
local macro_rules | `(tactic| walk_at "v")=>`(tactic| first | exact pq nm _ | exact pvb _)
set_option hygiene false in
local macro_rules | `(tactic| walk_at "b")=>`(tactic| first | ((with_reducible show OpB _ (compareOp CmpOp.Eq) _);first | exact B_eq hu | exact HZ hu) | ((with_reducible show OpB _ (compareOp CmpOp.NotEq) _);first | exact B_ne hu | exact Gg) | ((with_reducible show OpB _ (compareOp CmpOp.Lt) _);first | exact B_lt) | ((with_reducible show OpB _ (compareOp CmpOp.LtE) _);first | exact B_le) | ((with_reducible show OpB _ (compareOp CmpOp.Gt) _);first | exact B_gt) | ((with_reducible show OpB _ (compareOp CmpOp.GtE) _);first | exact B_ge) | ((with_reducible show OpB _ (compareOp CmpOp.In) _);first | exact B_in hu) | ((with_reducible show OpB _ (compareOp CmpOp.NotIn) _);first | exact HA hu) | ((with_reducible show OpB _ (compareOp CmpOp.Is) _);first | exact Ge))
set_option hygiene false in
local macro_rules | `(tactic| walk_at "m")=>`(tactic| first | exact FG _ | exact rfl)
set_option hygiene false in
local macro_rules | `(tactic| walk_at "k")=>`(tactic| first | exact Bk | exact Ay | exact Ax | exact Aw)
set_option hygiene false in
local macro_rules | `(tactic| walk_at "w")=>`(tactic| first | exact PassesOwn.never | exact Ah)
set_option hygiene false in
local macro_rules | `(tactic| walk_at "x")=>`(tactic| first | assumption | exact CT)
set_option hygiene false in
local macro_rules | `(tactic| walk_at "c")=>`(tactic| first | exact T.c_MOST_ASKERS | exact T.c_MOST_COPIES | exact T.c_MOST_RANKS | exact T.c_MOST_THINGS)
set_option hygiene false in
local macro_rules | `(tactic| walk_at "ck")=>`(tactic| first | exact T.x_DealError | exact T.x_NoWishes)
set_option hygiene false in
local macro_rules | `(tactic| walk_at "e")=>`(tactic| first | ((with_reducible show PE _ (Expr.Name _ _) _);first | exact OL (pq nm _) | exact OL (pvb _) | exact HC (by walk_at "g") (by walk_at "c")) | ((with_reducible show PE _ (Expr.Constant _ _ _) _);first | exact Fv | exact D2 | exact Fu | exact Dg) | ((with_reducible show PE _ (Expr.Subscript _ _ _) _);first | refine DI (by walk_at "v") ?_ (fun _ _=>rfl) | refine A7 ?_ ?_ ?_ | refine D3 ?_ ?_ ?_ ?_ | refine F6 ?_ ?_ (fun _ _=>rfl)) | ((with_reducible show PE _ (Expr.BinOp _ Operator.Add _ _) _);first | refine W4 OB ?_ ?_) | ((with_reducible show PE _ (Expr.BinOp _ Operator.Sub _ _) _);first | refine W4 HN ?_ ?_) | ((with_reducible show PE _ (Expr.BinOp _ Operator.Mult _ _) _);first | refine W4 OA ?_ ?_) | ((with_reducible show PE _ (Expr.BinOp _ Operator.Mod _ _) _);first | refine W4 HM ?_ ?_) | ((with_reducible show PE _ (Expr.BinOp _ Operator.FloorDiv _ _) _);first | refine W4 HL ?_ ?_) | ((with_reducible show PE _ (Expr.BinOp _ Operator.Pow _ _) _);first | refine W4 HK ?_ ?_) | ((with_reducible show PE _ (Expr.Call (Expr.Name "len" _) _ _ _) _);first | refine Bp (by walk_at "g") T.b_len (by walk_at "v") | refine Vh Oz (by walk_at "g") T.b_len boot_len ?_ | refine A6 rfl (by walk_at "g") T.b_len (by walk_at "g") T.b_set ?_) | ((with_reducible show PE _ (Expr.Call (Expr.Name "max" _) _ _ _) _);first | refine Vh (F5 rfl) (by walk_at "g") T.b_max boot_max ?_) | ((with_reducible show PE _ (Expr.Call (Expr.Name "sorted" _) _ _ _) _);first | refine Vh GH (by walk_at "g") T.b_sorted PyProof.Rows.boot_sorted ?_) | ((with_reducible show PE _ (Expr.Call (Expr.Name "sum" _) _ _ _) _);first | refine Vh (GJ rfl) (by walk_at "g") T.b_sum PyProof.Rows.boot_sum ?_) | ((with_reducible show PE _ (Expr.Call (Expr.Name "all" _) _ _ _) _);first | refine Vh (HE rfl) (by walk_at "g") T.b_all PyProof.Rows.boot_all ?_) | ((with_reducible show PE _ (Expr.Call (Expr.Name "abs" _) _ _ _) _);first | refine Vh Gh (by walk_at "g") T.b_abs BG ?_) | ((with_reducible show PE _ (Expr.Call (Expr.Name "repr" _) _ _ _) _);first | refine Vh (Eo hu hgd T.sm) (by walk_at "g") T.b_repr AR ?_) | ((with_reducible show PE _ (Expr.Call (Expr.Name "int" _) _ _ _) _);first | refine M7 Ed (by walk_at "g") T.b_int PyProof.Rows.boot_int ?_) | ((with_reducible show PE _ (Expr.Call (Expr.Name "tuple" _) _ _ _) _);first | refine M7 Gi (by walk_at "g") T.b_tuple q8 ?_) | ((with_reducible show PE _ (Expr.Call (Expr.Name "isinstance" _) [_,Expr.Name "int" _] _ _) _);first | refine Rm (c := "int") (by decide) (by walk_at "g") T.b_isinstance (by walk_at "g") T.b_int (by decide +kernel) ?_ (by decide) (by decide)) | ((with_reducible show PE _ (Expr.Call (Expr.Name "isinstance" _) [_,Expr.Name "list" _] _ _) _);first | refine Rm (c := "list") (by decide) (by walk_at "g") T.b_isinstance (by walk_at "g") T.b_list (by decide +kernel) ?_ (by decide) (by decide)) | ((with_reducible show PE _ (Expr.Call (Expr.Name "isinstance" _) [_,Expr.Name "tuple" _] _ _) _);first | refine Rm (c := "tuple") (by decide) (by walk_at "g") T.b_isinstance (by walk_at "g") T.b_tuple (by decide +kernel) ?_ (by decide) (by decide)) | ((with_reducible show PE _ (Expr.Call (Expr.Name "isinstance" _) [_,Expr.Name "bool" _] _ _) _);first | refine Rm (c := "bool") (by decide) (by walk_at "g") T.b_isinstance (by walk_at "g") T.b_bool (by decide +kernel) ?_ (by decide) (by decide)) | ((with_reducible show PE _ (Expr.Call (Expr.Name "isinstance" _) _ _ _) _);first | refine Ew (by walk_at "g") T.b_isinstance (by walk_at "g") T.b_ValueError ?_ | refine Ey (by walk_at "ck") (by walk_at "g") T.b_isinstance (by walk_at "g") ?_) | ((with_reducible show PE _ (Expr.Call (Expr.Name _ _) _ _ _) _);first | refine pdf (by assumption) hr (by walk_at "g") ?_) | refine NK ?_ | refine NL ?_ | ((with_reducible show PE _ (Expr.Compare _ _ _ _) _);first | refine D4 (by walk_at "b") (by walk_at "v") ?_ (by walk_at "m") | refine DT (by walk_at "b") ?_ ?_ (by walk_at "m") | refine Ae (by walk_at "b") (by walk_at "b") ?_ ?_ ?_) | refine D7 ?_ | refine Cc ?_ | refine DK ?_ | refine DN ?_ ?_ | refine F7 ?_ ?_ | refine DM ?_ | refine CA ?_)
set_option hygiene false in
local macro_rules | `(tactic| walk_at "t")=>`(tactic| first | ((with_reducible show PT _ (Expr.Compare _ _ _ _) _);first | refine D5 (by walk_at "b") (by walk_at "v") ?_ (by walk_at "m") | refine EC (by walk_at "b") ?_ (by walk_at "v") (by walk_at "m") | refine DU (by walk_at "b") ?_ ?_ (by walk_at "m") | refine Af (by walk_at "b") (by walk_at "b") ?_ ?_ ?_) | ((with_reducible show PT _ (Expr.BoolOp _ _ _) _);refine PW.pt ?_) | refine DP ?_ | refine DO ?_)
set_option hygiene false in
local macro_rules | `(tactic| walk_at "l")=>`(tactic| first | refine HW nm (by walk_at "k") rfl ?_ ?_ (by decide +kernel) | refine As (by walk_at "g") T.b_list (by walk_at "v") | refine Bc (by walk_at "g") T.b_list ?_ | refine AH rfl (by walk_at "g") T.b_list (by walk_at "g") T.b_range ?_ | refine NH ?_)
set_option hygiene false in
local macro_rules | `(tactic| walk_at "i")=>`(tactic| first | refine Ac (by walk_at "g") T.b_range ?_ | refine Ab (by walk_at "g") T.b_range ?_ | refine DB (by walk_at "g") T.b_enumerate ?_ | refine C9 (by walk_at "g") T.b_enumerate ?_ | refine Ef (by walk_at "g") T.b_zip ?_ | refine E4 (by walk_at "g") T.b_zip ?_ | refine Ek ?_)
set_option hygiene false in
local macro_rules | `(tactic| walk_at "s")=>`(tactic| first | ((with_reducible show PS _ (Stmt.Assign [Expr.Name _ _] _ _) _);first | refine aSet nm ?_ | refine HV nm (by walk_at "k") rfl ?_ ?_ (by decide +kernel) | refine Oi nm ?_ | refine HX nm ?_) | ((with_reducible show PS _ (Stmt.Assign _ _ _) _);first | refine FY ?_ ?_ | refine D6 ?_ (by walk_at "v") ?_ | refine Gq rfl nm ?_) | refine HJ ?_ ?_ ?_ | refine F2 ?_ | refine FV (by walk_at "w") rfl ?_ ?_ ?_ | ((with_reducible show PS _ (Stmt.Expr _ _) _);first | refine FW (by walk_at "v") ?_ | refine CB ?_ | refine DE ?_) | refine EA ?_ | exact Bm | refine Bu (by assumption) hr rfl (by walk_at "x") (by walk_at "g") ?_ | refine GE (by walk_at "ck") (by walk_at "g") (nq nm) rfl rfl (fun KX' W pn hw=>?_) (fun a=>?_))
set_option hygiene false in
local macro_rules | `(tactic| walk_at "d")=>`(tactic| (have hu:=hr.units;have hgd:=hr.gd;repeat' (first | ((with_reducible show PSs _ (Z6 _) _);show PSs _ (_ :: _) _) | ((with_reducible show PSs _ (Stmt.Assign _ _ _ :: _ :: _) _);generalize hS:(_ :: _:List Stmt)=sts;refine Cr hS ?_ ?_) | ((with_reducible show PS _ (Stmt.Assign [Expr.Name _ _] (Expr.List _ _) _) (tS _ _ _ _ (Zi _ _)));generalize hS:Stmt.Assign _ _ _=st;refine Gp hS nm ?_) | ((with_reducible show PS _ (Stmt.Assign [Expr.Name _ _] (Expr.BinOp _ _ _ _) _) (tS _ _ _ _ (Kg _ _)));generalize hS:Stmt.Assign _ _ _=st;refine HU hS nm ?_) | ((with_reducible show PE _ (Expr.List _ _) _);generalize hS:Expr.List _ _=e;first | refine Cq hS ?_ | refine Cp hS ?_) | ((with_reducible show PE _ (Expr.Tuple _ _ _) _);generalize hS:Expr.Tuple _ _ _=e;refine Co hS ?_) | ((with_reducible show PE _ (Expr.BinOp _ Operator.Add _ _) (tD _ _ _ _));generalize hS:Expr.BinOp _ _ _ _=e;refine O7 OB hS ?_ ?_) | ((with_reducible show PE _ (Expr.BinOp _ Operator.Mult _ _) (tD _ _ _ _));generalize hS:Expr.BinOp _ _ _ _=e;refine O7 OA hS ?_ ?_) | ((with_reducible show PA _ (_ :: _) (tDs _ _ _ _));generalize hS:(_ :: _:List Expr)=es;refine BC hS ?_ ?_) | ((with_reducible show PE _ _ (tD _ _ _ _));first | walk_at "e") | ((with_reducible show PA _ _ (tDs _ _ _ _));first | refine Mf ?_ ?_ | exact DJ) | ((with_reducible show PSs _ _ (tS _ _ _ _ _));first | refine NJ ?_ ?_ | refine F3 ?_ | exact F4 | exact Ad) | ((with_reducible show PS _ _ _);walk_at "s") | ((with_reducible show PT _ _ _);walk_at "t") | ((with_reducible show PW _ _ _);first | refine DQ ?_ ?_ | refine F8 ?_ ?_ | refine Bs ?_ | refine DR ?_) | ((with_reducible show PE _ _ (tL _ _ _ _));walk_at "l") | ((with_reducible show PI _ _ _ _);walk_at "i") | ((with_reducible show PG _ _ _);first | exact HY nm | exact Gr | refine FZ rfl ?_) | ((with_reducible show PGs _ _ _);first | exact F1 | refine DD ?_ ?_) | ((with_reducible show PO _ _ _);first | exact Br | refine Bq ?_) | ((with_reducible show Yq _ _ _ _ _ _ _ _ _);refine fun cl C s0 H0 ex=>⟨fun B' G'=>?_,fun B' G'=>?_,?_⟩) | ((with_reducible show YG _ _ _);first | exact D9 | refine D8 ?_) | ((with_reducible show TH _ _ _ _ _ _);first | refine AA rfl rfl rfl fun B' G'=>?_ | refine Az rfl rfl rfl rfl (fun _=>rfl) (fun B' G'=>?_) (fun B' G'=>?_) (fun B' G'=>?_) ?_) | ((with_reducible show PE _ (Expr.ListComp _ _ _ _) (tX _ _ _ _ _));refine Cm nm ?_ (by decide +kernel)) | ((with_reducible show PE _ _ (tX _ _ _ _ (mNV (U5 _ _))));refine Cn (by assumption) (by walk_at "g") ?_ ?_) | ((with_reducible show PE _ _ (tX _ _ _ _ (mNV _)));refine BB (by walk_at "g") T.b_len boot_len ?_) | ((with_reducible show PE _ _ (tX _ _ _ _ _));refine Bt (by assumption) hr (by walk_at "x") (by walk_at "g") ?_) | ((with_reducible show PE _ _ (tT _ _ _ _ _));first | refine Cv (by assumption) hr (by walk_at "g") ?_ | exact peT_nil | exact peT_dnil | refine peT_disp ?_) | ((with_reducible show PSs _ _ (tST _ _ _ _ _ _));first | refine Gv (BD ?_ (by walk_at "v")) | refine E3 ?_ ?_))))
section
variable{P:Ut}{w:World}{K:Frag}{mg:Str->jW}{base:Heap}{f:Uu}{fd:Uv}(T:Txt K mg)
include T
theorem Kaa(F:Fun K "is_whole" "is_whole" Saa f fd):FnOk P w K mg base CX0 1 f fd ["thing"] (spD K 1 XI):=
 okD (k:=0) (g:=V0) F (fq Haa 1) jP λcdv A outer s H E B G0 hr=>
 have nm:=Haa
 by walk_at "d"
theorem Kac(vS:Def P w K mg base "is_whole" 1 1 XI)(F:Fun K "is_number_below" "is_number_below" Sac f fd):FnOk P w K mg base CX0 2 f fd ["thing", "many"] (spD K 2 Zm):=
 okD (k:=1) (g:=Wq) F (fq Hac 2) jP λcdv A outer s H E B G0 hr=>
 have nm:=Hac
 by walk_at "d"
theorem Kbd(kG:Def P w K mg base "is_number_below" 2 2 Zm)(F:Fun K "is_rising" "is_rising" Sbd f fd):FnOk P w K mg base CX0 3 f fd ["thing", "many"] (spD K 2 Y9):=
 okD (k:=2) (g:=Wn) F (fq Hbd 2) jP λcdv A outer s H E B G0 hr=>
 have nm:=Hbd
 by walk_at "d"
theorem Kae(kG:Def P w K mg base "is_number_below" 2 2 Zm)(F:Fun K "is_rank" "is_rank" Sae f fd):FnOk P w K mg base CX0 3 f fd ["thing", "things"] (spD K 2 YK):=
 okD (k:=2) (g:=Wp) F (fq Hae 2) jP λcdv A outer s H E B G0 hr=>
 have nm:=Hae
 by walk_at "d"
theorem Kaf(vQ:Def P w K mg base "is_rank" 3 2 YK)(F:Fun K "is_asker_list" "is_asker_list" Saf f fd):FnOk P w K mg base CX0 4 f fd ["thing", "things"] (spD K 2 YJ):=
 okD (k:=3) (g:=Wo) F (fq Haf 2) jP λcdv A outer s H E B G0 hr=>
 have nm:=Haf
 by walk_at "d"
theorem Kag(xq:Def P w K mg base "is_asker_list" 4 2 YJ)(F:Fun K "look_at_lists" "look_at_lists" Sag f fd):FnOk P w K mg base CX0 5 f fd ["lists", "things"] (spD K 2 WI):=
 okD (k:=4) (g:=VY) F (fq Hag 2) jP λcdv A outer s H E B G0 hr=>
 have nm:=Hag
 by walk_at "d"
theorem Kad(kG:Def P w K mg base "is_number_below" 2 2 Zm)(F:Fun K "look_at_copies" "look_at_copies" Sad f fd):FnOk P w K mg base CX0 3 f fd ["copies"] (spD K 1 WJ):=
 okD (k:=2) (g:=VZ) F (fq Had 1) jP λcdv A outer s H E B G0 hr=>
 have nm:=Had
 by walk_at "d"
theorem Kah(vP:Def P w K mg base "look_at_lists" 5 2 WI)(vR:Def P w K mg base "look_at_copies" 3 1 WJ)(F:Fun K "look_at_wishes" "look_at_wishes" Sah f fd):FnOk P w K mg base CX0 6 f fd ["thing"] (spD K 1 WH):=
 okD (k:=5) (g:=VX) F (fq Hah 1) jP λcdv A outer s H E B G0 hr=>
 have nm:=Hah
 by walk_at "d"
theorem Kaj(vO:Def P w K mg base "look_at_wishes" 6 1 WH)(F:Fun K "all_wishes" "all_wishes" Saj f fd):FnOk P w K mg base CX0 7 f fd ["wishes"] (spD K 1 WG):=
 okD (k:=6) (g:=VU) F (fq Haj 1) jP λcdv A outer s H E B G0 hr=>
 have nm:=Haj
 by walk_at "d"
theorem Kai(F:Fun K "rank_in" "rank_in" Sai f fd):FnOk P w K mg base CX0 1 f fd ["ranks", "thing"] (spD K 2 XH):=
 okD (k:=0) (g:=VW) F (fq Hai 2) jP λcdv A outer s H E B G0 hr=>
 have nm:=Hai
 by walk_at "d"
theorem Kaz(vM:Def P w K mg base "all_wishes" 7 1 WG)(vN:Def P w K mg base "rank_in" 1 2 XH)(F:Fun K "worths_within" "worths_within" Saz f fd):FnOk P w K mg base CX0 8 f fd ["wishes", "ranks"] (spD K 2 WF):=
 okD (k:=7) (g:=VT) F (fq Haz 2) jP λcdv A outer s H E B G0 hr=>
 have nm:=Haz
 by walk_at "d"
theorem Kbe(vK:Def P w K mg base "is_rising" 3 2 Y9)(vL:Def P w K mg base "worths_within" 8 2 WF)(F:Fun K "lets_cover" "lets_cover" Sbe f fd):FnOk P w K mg base CX0 9 f fd ["wishes", "ranks", "thing"] (spD K 3 YI):=
 okD (k:=8) (g:=Wm) F (fq Hbe 3) jP λcdv A outer s H E B G0 hr=>
 have nm:=Hbe
 by walk_at "d"
theorem Kbg(F:Fun K "_law_cell_at" "_law_cell_at" Sbg f fd):FnOk P w K mg base CX0 1 f fd ["_law_script", "_law_k"] (spD K 2 YH):=
 okD (k:=0) (g:=Wl) F (fq Hbg 2) jP λcdv A outer s H E B G0 hr=>
 have nm:=Hbg
 by walk_at "d"
theorem Kbt(F:Fun K "_law_number_below" "_law_number_below" Sbt f fd):FnOk P w K mg base CX0 1 f fd ["_law_thing", "_law_most"] (spD K 2 Ye):=
 okD (k:=0) (g:=VH) F (fq Hbt 2) jP λcdv A outer s H E B G0 hr=>
 have nm:=Hbt
 by walk_at "d"
theorem Kbu(xn:Def P w K mg base "_law_number_below" 1 2 Ye)(F:Fun K "_law_ranked" "_law_ranked" Sbu f fd):FnOk P w K mg base CX0 2 f fd ["_law_ranks_here", "_law_many"] (spD K 2 Wy):=
 okD (k:=1) (g:=VG) F (fq Hbu 2) jP λcdv A outer s H E B G0 hr=>
 have nm:=Hbu
 by walk_at "d"
theorem Kbv(vy:Def P w K mg base "_law_ranked" 2 2 Wy)(xn:Def P w K mg base "_law_number_below" 1 2 Ye)(F:Fun K "_law_fault" "_law_fault" Sbv f fd):FnOk P w K mg base CX0 3 f fd ["_law_thing"] (spD K 1 Wx):=
 okD (k:=2) (g:=VF) F (fq Hbv 1) jP λcdv A outer s H E B G0 hr=>
 have nm:=Hbv
 by walk_at "d"
theorem jK(xq:Def P w K mg base "is_asker_list" 4 2 YJ)(kh:MkX P w K mg base "NoWishes" 2)(F:Fun K "look_at_lists" "look_at_lists" Hf f fd):FnOk P w K mg base (CX1 P w) 5 f fd ["lists", "things"] (spX K 2 Ry):=
 okX (k:=4) (g:=Og) F (fq Hm 2) jP λcdv A outer s H E B G0 hr=>
 have nm:=Hm
 by walk_at "d"
theorem jO(kG:Def P w K mg base "is_number_below" 2 2 Zm)(kh:MkX P w K mg base "NoWishes" 2)(F:Fun K "look_at_copies" "look_at_copies" Hl f fd):FnOk P w K mg base (CX1 P w) 4 f fd ["copies"] (spX K 1 Rz):=
 okX (k:=3) (g:=Od) F (fq L8 1) jP λcdv A outer s H E B G0 hr=>
 have nm:=L8
 by walk_at "d"
theorem jN(kj:Zg P w K mg base "look_at_lists" 5 2 Ry)(ki:Zg P w K mg base "look_at_copies" 4 1 Rz)(kh:MkX P w K mg base "NoWishes" 2)(F:Fun K "look_at_wishes" "look_at_wishes" Hj f fd):FnOk P w K mg base (CX1 P w) 6 f fd ["thing"] (spX K 1 Vn):=
 okX (k:=5) (g:=Oc) F (fq L7 1) jP λcdv A outer s H E B G0 hr=>
 have nm:=L7
 by walk_at "d"
theorem jB(kf:Zg P w K mg base "look_at_wishes" 6 1 Vn)(F:Fun K "all_wishes" "all_wishes" L4 f fd):FnOk P w K mg base (CX1 P w) 7 f fd ["wishes"] (spX K 1 Rx):=
 okX (k:=6) (g:=L0) F (fq LS 1) jP λcdv A outer s H E B G0 hr=>
 have nm:=LS
 by walk_at "d"
theorem jJ(ko:Zg P w K mg base "all_wishes" 7 1 Rx)(F:Fun K "worths_within" "worths_within" Hd f fd):FnOk P w K mg base (CX1 P w) 8 f fd ["wishes", "ranks"] (spX K 2 WZ):=
 okX (k:=7) (g:=Of) F (fq Hh 2) jP λcdv A outer s H E B G0 hr=>
 have nm:=Hh
 by walk_at "d"
theorem jA(ke:Zg P w K mg base "worths_within" 8 2 WZ)(F:Fun K "lets_cover" "lets_cover" LZ f fd):FnOk P w K mg base (CX1 P w) 9 f fd ["wishes", "ranks", "thing"] (spX K 3 Sm):=
 okX (k:=8) (g:=P8) F (fq LR 3) jP λcdv A outer s H E B G0 hr=>
 have nm:=LR
 by walk_at "d"
theorem qZ(kf:Zg P w K mg base "look_at_wishes" 6 1 Vn)(F:Fun K "size_of" "size_of" Ll f fd):FnOk P w K mg base (CX1 P w) 7 f fd ["wishes", "cover"] (spX K 2 Sg):=
 okX (k:=6) (g:=Lj) F (fq Lc 2) jP λcdv A outer s H E B G0 hr=>
 have nm:=Lc
 by walk_at "d"
theorem jp(ke:Zg P w K mg base "worths_within" 8 2 WZ)(F:Fun K "cover_for" "cover_for" LA f fd):FnOk P w K mg base (CX1 P w) 9 f fd ["wishes", "ranks"] (spX K 2 Sk):=
 okX (k:=8) (g:=Ob) F (fq LX 2) jP λcdv A outer s H E B G0 hr=>
 have nm:=LX
 by walk_at "d"
theorem jI(ke:Zg P w K mg base "worths_within" 8 2 WZ)(n_best_by:Glb K mg "best_by")(F:Fun K "level_dealing" "level_dealing" Hb f fd):FnOk P w K mg base (CX1 P w) 9 f fd ["wishes", "ranks"] (spX K 2 Vm):=
 okX (k:=8) (g:=Oe) F (fq Hg 2) jP λcdv A outer s H E B G0 hr=>
 have nm:=Hg
 by walk_at "d"
theorem qX(kg:Zg P w K mg base "level_dealing" 9 2 Vm)(F:Fun K "level_of" "level_of" Lb f fd):FnOk P w K mg base (CX1 P w) 10 f fd ["wishes", "ranks"] (spX K 2 Sf):=
 okX (k:=9) (g:=PP) F (fq Ly 2) jP λcdv A outer s H E B G0 hr=>
 have nm:=Ly
 by walk_at "d"
theorem Kbs(kn:Zg P w K mg base "lets_cover" 9 3 Sm)(kA:Zg P w K mg base "size_of" 7 2 Sg)(kr:Zg P w K mg base "cover_for" 9 2 Sk)(ky:Zg P w K mg base "level_of" 10 2 Sf)(kg:Zg P w K mg base "level_dealing" 9 2 Vm)(F:Fun K "_law_refused" "_law_refused" Sbs f fd):FnOk P w K mg base CX0 11 f fd ["_law_way", "_law_wishes_here", "_law_ranks_here", "_law_cover_here"] (spD K 4 Wz):=
 okD (k:=10) (g:=VI) F (fq Hbs 4) jP λcdv A outer s H E B G0 hr=>
 have nm:=Hbs
 by walk_at "d"
theorem Kbh(F:Fun K "_law_numbers" "_law_numbers" Sbh f fd):FnOk P w K mg base CX0 1 f fd ["_law_cell", "_law_salt", "_law_sizes"] (spD K 3 ZD):=
 okD (k:=0) (g:=VS) F (fq Hbh 3) jP λcdv A outer s H E B G0 hr=>
 have nm:=Hbh
 by walk_at "d"
theorem jo(F:Fun K "_law_copy" "_law_copy" Lx f fd):FnOk P w K mg base CX0 1 f fd ["_law_wishes_here"] (spT K 1 (PLL) Sj):=
 okT (k:=0) (g:=Rw) F (fq LW 1) jP λcdv A outer s H E B G0 hr=>
 have nm:=LW
 by walk_at "d"
theorem Kbk(kB:Def P w K mg base "_law_numbers" 1 3 ZD)(km:DefT P w K mg base "_law_copy" 1 1 (PLL) Sj)(F:Fun K "_law_bad_wishes" "_law_bad_wishes" Sbk f fd):FnOk P w K mg base CX0 2 f fd ["_law_wishes_here", "_law_cell", "_law_salt"] (spD K 3 WD):=
 okD (k:=1) (g:=VQ) F (fq Hbk 3) jP λcdv A outer s H E B G0 hr=>
 have nm:=Hbk
 by walk_at "d"
theorem Kbm(F:Fun K "_law_rows" "_law_rows" Sbm f fd):FnOk P w K mg base CX0 1 f fd ["_law_wishes_here", "_law_ranks_here"] (spD K 2 Y8):=
 okD (k:=0) (g:=VO) F (fq Hbm 2) jP λcdv A outer s H E B G0 hr=>
 have nm:=Hbm
 by walk_at "d"
theorem Kbl(F:Fun K "_law_is_number" "_law_is_number" Sbl f fd):FnOk P w K mg base CX0 1 f fd ["_law_thing"] (spD K 1 XG):=
 okD (k:=0) (g:=VP) F (fq Hbl 1) jP λcdv A outer s H E B G0 hr=>
 have nm:=Hbl
 by walk_at "d"
theorem Kbn(xo:Def P w K mg base "_law_rows" 1 2 Y8)(vF:Def P w K mg base "_law_is_number" 1 1 XG)(F:Fun K "_law_lets_cover" "_law_lets_cover" Sbn f fd):FnOk P w K mg base CX0 2 f fd ["_law_wishes_here", "_law_ranks_here", "_law_thing"] (spD K 3 Y7):=
 okD (k:=1) (g:=Wk) F (fq Hbn 3) jP λcdv A outer s H E B G0 hr=>
 have nm:=Hbn
 by walk_at "d"
theorem Kbw(F:Fun K "_law_rest" "_law_rest" Sbw f fd):FnOk P w K mg base CX0 1 f fd ["_law_cell"] (spD K 1 XE):=
 okD (k:=0) (g:=VE) F (fq Hbw 1) jP λcdv A outer s H E B G0 hr=>
 have nm:=Hbw
 by walk_at "d"
theorem Kbq(F:Fun K "_law_odd_rows" "_law_odd_rows" Sbq f fd):FnOk P w K mg base CX0 1 f fd ["_law_row", "_law_many", "_law_way", "_law_place", "_law_odd_here"] (spD K 5 XF):=
 okD (k:=0) (g:=VL) F (fq Hbq 5) jP λcdv A outer s H E B G0 hr=>
 have nm:=Hbq
 by walk_at "d"
theorem Kbr(vB:Def P w K mg base "_law_odd_rows" 1 5 XF)(kB:Def P w K mg base "_law_numbers" 1 3 ZD)(F:Fun K "_law_odd" "_law_odd" Sbr f fd):FnOk P w K mg base CX0 2 f fd ["_law_wishes_here", "_law_cover_here", "_law_cell", "_law_salt"] (spD K 4 WA):=
 okD (k:=1) (g:=VJ) F (fq Hbr 4) jP λcdv A outer s H E B G0 hr=>
 have nm:=Hbr
 by walk_at "d"
theorem Kbo(xo:Def P w K mg base "_law_rows" 1 2 Y8)(kB:Def P w K mg base "_law_numbers" 1 3 ZD)(F:Fun K "_law_cover" "_law_cover" Sbo f fd):FnOk P w K mg base CX0 2 f fd ["_law_wishes_here", "_law_ranks_here", "_law_cell", "_law_salt"] (spD K 4 WC):=
 okD (k:=1) (g:=VN) F (fq Hbo 4) jP λcdv A outer s H E B G0 hr=>
 have nm:=Hbo
 by walk_at "d"
theorem Kbp(kB:Def P w K mg base "_law_numbers" 1 3 ZD)(F:Fun K "_law_ranks" "_law_ranks" Sbp f fd):FnOk P w K mg base CX0 2 f fd ["_law_cell", "_law_salt"] (spD K 2 WB):=
 okD (k:=1) (g:=VM) F (fq Hbp 2) jP λcdv A outer s H E B G0 hr=>
 have nm:=Hbp
 by walk_at "d"
theorem Kbi(kB:Def P w K mg base "_law_numbers" 1 3 ZD)(xp:Def P w K mg base "_law_cell_at" 1 2 YH)(F:Fun K "_law_wishes" "_law_wishes" Sbi f fd):FnOk P w K mg base CX0 2 f fd ["_law_script", "_law_at", "_law_most_things", "_law_most_askers", "_law_most_ranks"] (spD K 5 WE):=
 okD (k:=1) (g:=VR) F (fq Hbi 5) jP λcdv A outer s H E B G0 hr=>
 have nm:=Hbi
 by walk_at "d"
theorem Kbx(vJ:Def P w K mg base "lets_cover" 9 3 YI)(xp:Def P w K mg base "_law_cell_at" 1 2 YH)(vx:Def P w K mg base "_law_fault" 3 1 Wx)(vz:Def P w K mg base "_law_refused" 11 4 Wz)(vG:Def P w K mg base "_law_bad_wishes" 2 3 WD)(vE:Def P w K mg base "_law_lets_cover" 2 3 Y7)(vw:Def P w K mg base "_law_rest" 1 1 XE)(vA:Def P w K mg base "_law_odd" 2 4 WA)(vD:Def P w K mg base "_law_cover" 2 4 WC)(vC:Def P w K mg base "_law_ranks" 2 2 WB)(vH:Def P w K mg base "_law_copy" 1 1 F_bj)(vI:Def P w K mg base "_law_wishes" 2 5 WE)(F:Fun K "law" "law" Sbx f fd):FnOk P w K mg base CX0 12 f fd ["_law_script"] (spD K 1 Ww):=
 okD (k:=11) (g:=VD) F (fq Hbx 1) jP λcdv A outer s H E B G0 hr=>
 have nm:=Hbx
 by walk_at "d"
end
theorem KT:recsOf q0=WP p0 ixL:=by show recsOf (PySem.W.view PySem.Challenge.pw_wishdeal_k50_odd_covers Xl)=WP PySem.Challenge.pw_wishdeal_k50_odd_covers ixL;rw[PySem.W.Fast.te3399658132070893891,PySem.W.Fast.te11098432022064204389];kernel_rfl
theorem Yg:(["ValueError", "abs", "all", "bool", "enumerate", "int", "isinstance", "len", "list", "max", "range", "repr", "set", "sorted", "sum", "tuple", "zip"]:List Str).all (SE q0 (PySem.W.looseW q0 []))=jR:=by show List.all _ (SE (PySem.W.view PySem.Challenge.pw_wishdeal_k50_odd_covers Xl) (PySem.W.looseW (PySem.W.view PySem.Challenge.pw_wishdeal_k50_odd_covers Xl) []))=jR;k_qdec
theorem jz:valOf q0 "MOST_ASKERS" = O (.int 7):=by show valOf (PySem.W.view PySem.Challenge.pw_wishdeal_k50_odd_covers Xl) _=_;rw[Jw,PySem.W.Fast.te11098432022064204389];kernel_rfl
theorem jy:valOf q0 "MOST_COPIES" = O (.int 7):=by show valOf (PySem.W.view PySem.Challenge.pw_wishdeal_k50_odd_covers Xl) _=_;rw[Jw,PySem.W.Fast.te11098432022064204389];kernel_rfl
theorem jn:valOf q0 "MOST_RANKS" = O (.int 5):=by show valOf (PySem.W.view PySem.Challenge.pw_wishdeal_k50_odd_covers Xl) _=_;rw[Jw,PySem.W.Fast.te11098432022064204389];kernel_rfl
theorem jx:valOf q0 "MOST_THINGS" = O (.int 6):=by show valOf (PySem.W.view PySem.Challenge.pw_wishdeal_k50_odd_covers Xl) _=_;rw[Jw,PySem.W.Fast.te11098432022064204389];kernel_rfl
theorem Gn{l:PySem.W.OpenLaw}{w:World}{s0:Us}{mg mb:Str->jW}{fa:Uu}{h:Heap}{XP:(Str->jW)->Heap->Prop}(G:PySem.W.Ground q0 [] [] XP w s0 mg mb h)(Y:XYP p0 clsL h)(vg:mg "law" = O (.ref fa)) :
  ∃fd:Uv,(∀(s:Us)(v:Ur),BindsTo s fd ⟨[v],[]⟩ [("_law_script", v)])/\∀base:Heap,FnOk l.prog w (whole h) mg base CX0 12 fa fd ["_law_script"] (spD (whole h) 1 Ww):=by
 obtain⟨D0,f0,fd0,R⟩:=Es (i:=5) G.T.g Y (mq 0 jP) (Yh G.T Yg (mq 0 jP)) (KS (by decide +kernel)) jP (λ_=>⟨_,rfl⟩) (λ_ _ _ _ _ _ us hl=>bz2 (us:=us) hl λ_ _=>rfl);have T:Txt (whole h) mg:=⟨Yh G.T Yg (mq 0 jP),Yh G.T Yg (mq 1 jP),Yh G.T Yg (mq 2 jP),Yh G.T Yg (mq 3 jP),Yh G.T Yg (mq 4 jP),Yh G.T Yg (mq 5 jP),Yh G.T Yg (mq 6 jP),Yh G.T Yg (mq 7 jP),Yh G.T Yg (mq 8 jP),Yh G.T Yg (mq 9 jP),Yh G.T Yg (mq 10 jP),Yh G.T Yg (mq 11 jP),Yh G.T Yg (mq 12 jP),Yh G.T Yg (mq 13 jP),Yh G.T Yg (mq 14 jP),Yh G.T Yg (mq 15 jP),Yh G.T Yg (mq 16 jP),Rp G.T jz,Rp G.T jy,Rp G.T jn,Rp G.T jx,On (c:=("DealError", O 5)) G.T.g Y R (mq 0 jP),On (c:=("NoWishes", O 6)) G.T.g Y R (mq 1 jP),Gz (G.T.seer (by decide +kernel))⟩
 refine Ht G.T KT 64 "law" rfl jP vg (λ_ _ _ _ _ _ _=>rfl) λbase=>?_
 have kh:=GA (nm:= "NoWishes") (j:=6) (ps:=["self", "part", "number"]) G.T.g Y R (mq 1 jP) (by decide) l.prog w base (λ_ _ _ _ _ _ us hl=>bz3 (us:=us) hl λ_ _ _=>rfl) (λFU=>Eu R.cf (R.ok l.prog w base) R.bd R.at' FU (KS (by decide +kernel)) jP (λ_=>⟨_,rfl⟩) (by decide) (by decide));have vS:=Zu l.prog w base G.T KT 1 "is_whole" rfl jP (λF=>Kaa T  F) λ_ _ _ _ _ _ us hl=>bz1 (us:=us) hl λ_=>rfl
 have kG:=Zu l.prog w base G.T KT 3 "is_number_below" rfl jP (λF=>Kac T vS F) λ_ _ _ _ _ _ us hl=>bz2 (us:=us) hl λ_ _=>rfl
 have vK:=Zu l.prog w base G.T KT 43 "is_rising" rfl jP (λF=>Kbd T kG F) λ_ _ _ _ _ _ us hl=>bz2 (us:=us) hl λ_ _=>rfl
 have vQ:=Zu l.prog w base G.T KT 13 "is_rank" rfl jP (λF=>Kae T kG F) λ_ _ _ _ _ _ us hl=>bz2 (us:=us) hl λ_ _=>rfl
 have xq:=Zu l.prog w base G.T KT 14 "is_asker_list" rfl jP (λF=>Kaf T vQ F) λ_ _ _ _ _ _ us hl=>bz2 (us:=us) hl λ_ _=>rfl
 have vP:=Zu l.prog w base G.T KT 15 "look_at_lists" rfl jP (λF=>Kag T xq F) λ_ _ _ _ _ _ us hl=>bz2 (us:=us) hl λ_ _=>rfl
 have vR:=Zu l.prog w base G.T KT 12 "look_at_copies" rfl jP (λF=>Kad T kG F) λ_ _ _ _ _ _ us hl=>bz1 (us:=us) hl λ_=>rfl
 have vO:=Zu l.prog w base G.T KT 16 "look_at_wishes" rfl jP (λF=>Kah T vP vR F) λ_ _ _ _ _ _ us hl=>bz1 (us:=us) hl λ_=>rfl
 have vM:=Zu l.prog w base G.T KT 18 "all_wishes" rfl jP (λF=>Kaj T vO F) λ_ _ _ _ _ _ us hl=>bz1 (us:=us) hl λ_=>rfl
 have vN:=Zu l.prog w base G.T KT 17 "rank_in" rfl jP (λF=>Kai T  F) λ_ _ _ _ _ _ us hl=>bz2 (us:=us) hl λ_ _=>rfl
 have vL:=Zu l.prog w base G.T KT 38 "worths_within" rfl jP (λF=>Kaz T vM vN F) λ_ _ _ _ _ _ us hl=>bz2 (us:=us) hl λ_ _=>rfl
 have vJ:=Zu l.prog w base G.T KT 44 "lets_cover" rfl jP (λF=>Kbe T vK vL F) λ_ _ _ _ _ _ us hl=>bz3 (us:=us) hl λ_ _ _=>rfl
 have xp:=Zu l.prog w base G.T KT 47 "_law_cell_at" rfl jP (λF=>Kbg T  F) λ_ _ _ _ _ _ us hl=>bz2 (us:=us) hl λ_ _=>rfl
 have xn:=Zu l.prog w base G.T KT 60 "_law_number_below" rfl jP (λF=>Kbt T  F) λ_ _ _ _ _ _ us hl=>bz2 (us:=us) hl λ_ _=>rfl
 have vy:=Zu l.prog w base G.T KT 61 "_law_ranked" rfl jP (λF=>Kbu T xn F) λ_ _ _ _ _ _ us hl=>bz2 (us:=us) hl λ_ _=>rfl
 have vx:=Zu l.prog w base G.T KT 62 "_law_fault" rfl jP (λF=>Kbv T vy xn F) λ_ _ _ _ _ _ us hl=>bz1 (us:=us) hl λ_=>rfl
 have kj:=XT l.prog w base G.T KT 15 "look_at_lists" rfl jP (λF=>jK T xq kh F) λ_ _ _ _ _ _ us hl=>bz2 (us:=us) hl λ_ _=>rfl
 have ki:=XT l.prog w base G.T KT 12 "look_at_copies" rfl jP (λF=>jO T kG kh F) λ_ _ _ _ _ _ us hl=>bz1 (us:=us) hl λ_=>rfl
 have kf:=XT l.prog w base G.T KT 16 "look_at_wishes" rfl jP (λF=>jN T kj ki kh F) λ_ _ _ _ _ _ us hl=>bz1 (us:=us) hl λ_=>rfl
 have ko:=XT l.prog w base G.T KT 18 "all_wishes" rfl jP (λF=>jB T kf F) λ_ _ _ _ _ _ us hl=>bz1 (us:=us) hl λ_=>rfl
 have ke:=XT l.prog w base G.T KT 38 "worths_within" rfl jP (λF=>jJ T ko F) λ_ _ _ _ _ _ us hl=>bz2 (us:=us) hl λ_ _=>rfl
 have kn:=XT l.prog w base G.T KT 44 "lets_cover" rfl jP (λF=>jA T ke F) λ_ _ _ _ _ _ us hl=>bz3 (us:=us) hl λ_ _ _=>rfl
 have kA:=XT l.prog w base G.T KT 45 "size_of" rfl jP (λF=>qZ T kf F) λ_ _ _ _ _ _ us hl=>bz2 (us:=us) hl λ_ _=>rfl
 have kr:=XT l.prog w base G.T KT 42 "cover_for" rfl jP (λF=>jp T ke F) λ_ _ _ _ _ _ us hl=>bz2 (us:=us) hl λ_ _=>rfl
 have kg:=XT l.prog w base G.T KT 39 "level_dealing" rfl jP (λF=>jI T ke (Go G.T KT 33 "best_by" rfl jP) F) λ_ _ _ _ _ _ us hl=>bz2 (us:=us) hl λ_ _=>rfl
 have ky:=XT l.prog w base G.T KT 40 "level_of" rfl jP (λF=>qX T kg F) λ_ _ _ _ _ _ us hl=>bz2 (us:=us) hl λ_ _=>rfl
 have vz:=Zu l.prog w base G.T KT 59 "_law_refused" rfl jP (λF=>Kbs T kn kA kr ky kg F) λ_ _ _ _ _ _ us hl=>bz4 (us:=us) hl λ_ _ _ _=>rfl
 have kB:=Zu l.prog w base G.T KT 48 "_law_numbers" rfl jP (λF=>Kbh T  F) λ_ _ _ _ _ _ us hl=>bz3 (us:=us) hl λ_ _ _=>rfl
 have km:=Gs l.prog w base G.T KT 50 "_law_copy" rfl jP (λF=>jo T  F) λ_ _ _ _ _ _ us hl=>bz1 (us:=us) hl λ_=>rfl
 have vG:=Zu l.prog w base G.T KT 51 "_law_bad_wishes" rfl jP (λF=>Kbk T kB km F) λ_ _ _ _ _ _ us hl=>bz3 (us:=us) hl λ_ _ _=>rfl
 have xo:=Zu l.prog w base G.T KT 53 "_law_rows" rfl jP (λF=>Kbm T  F) λ_ _ _ _ _ _ us hl=>bz2 (us:=us) hl λ_ _=>rfl
 have vF:=Zu l.prog w base G.T KT 52 "_law_is_number" rfl jP (λF=>Kbl T  F) λ_ _ _ _ _ _ us hl=>bz1 (us:=us) hl λ_=>rfl
 have vE:=Zu l.prog w base G.T KT 54 "_law_lets_cover" rfl jP (λF=>Kbn T xo vF F) λ_ _ _ _ _ _ us hl=>bz3 (us:=us) hl λ_ _ _=>rfl
 have vw:=Zu l.prog w base G.T KT 63 "_law_rest" rfl jP (λF=>Kbw T  F) λ_ _ _ _ _ _ us hl=>bz1 (us:=us) hl λ_=>rfl
 have vB:=Zu l.prog w base G.T KT 57 "_law_odd_rows" rfl jP (λF=>Kbq T  F) λ_ _ _ _ _ _ us hl=>bz5 (us:=us) hl λ_ _ _ _ _=>rfl
 have vA:=Zu l.prog w base G.T KT 58 "_law_odd" rfl jP (λF=>Kbr T vB kB F) λ_ _ _ _ _ _ us hl=>bz4 (us:=us) hl λ_ _ _ _=>rfl
 have vD:=Zu l.prog w base G.T KT 55 "_law_cover" rfl jP (λF=>Kbo T xo kB F) λ_ _ _ _ _ _ us hl=>bz4 (us:=us) hl λ_ _ _ _=>rfl
 have vC:=Zu l.prog w base G.T KT 56 "_law_ranks" rfl jP (λF=>Kbp T kB F) λ_ _ _ _ _ _ us hl=>bz2 (us:=us) hl λ_ _=>rfl
 have vH:=km.def;have vI:=Zu l.prog w base G.T KT 49 "_law_wishes" rfl jP (λF=>Kbi T kB xp F) λ_ _ _ _ _ _ us hl=>bz5 (us:=us) hl λ_ _ _ _ _=>rfl
 exact λ{_ _} F=>Kbx T vJ xp vx vz vG vE vw vA vD vC vH vI F
noncomputable abbrev d_bx:DefRec:=⟨"law", Xi Sbx,Z6 Sbx,KY Sbx,Hu Sbx⟩
theorem walk{XP:(Str->jW)->Heap->Prop}(hlaw:∀ns:jU,ns.length<=63->Ww [.list (ns.map int)]=O (.bool jR)):PySem.W.WalkO q0 [] XP (λ_ h=>XYP p0 clsL h) (PySem.Challenge.rw_wishdeal_k50_odd_covers).row.toRowW d_bx [] (λf vs=>PySem.call f vs):=
 BH (n:=63) (k:=12) (x:= "_law_script") jP (by decide) jP ⟨rfl,by decide,by decide,rfl⟩ (λ_ _ _ _ _ _ G Y hm=>Gn G Y hm) hlaw
theorem Li{sizes found:jU}{z d:Int}(h:∀(j:Nat) d z,found[j]?=O d->sizes[j]?=O z->0<=d/\d<z)(hz:sizes[found.length]?=O z)(h0:0<=d/\d<z) :
  ∀(j:Nat) d' z',(found++[d])[j]?=O d'->sizes[j]?=O z'->0<=d'/\d'<z':=by
 intro j d' z' e1 e2;by_cases hj:j<found.length
 .rw[Qv hj]at e1
  exact h j d' z' e1 e2
 .by_cases hj2:j=found.length
  .subst hj2
   rw[hz]at e2;cases e2;rw[Qx (Ql _),Nat.sub_self,List.getElem?_cons_zero]at e1;cases e1;exact h0
  .rw[JS (by rw[Qk,Q2];lia)]at e1
   cases e1
noncomputable abbrev pb(d:D):Option Sl:=O (.pub d)
def inv(c s:Int)(sizes:jU)(n:Int)(i:Nat)(Z:UR):Prop:=∃left found x6 x7,Z=[O (Sl.pub (.int c)),pb (.int s),pb (.list (sizes.map .int)),pb (.int n),pb (.int left),O (.own ((found:jU).map .int)),x6,x7] /\
 found.length=i/\∀(j:Nat) d z,found[j]?=O d->sizes[j]?=O z->0<=d/\d<z
theorem B4{c s n:Int}{sizes:jU}(hs:∀x∈sizes,0<x/\x<18446744073709551616)(hl:sizes.length<=1000){i:Nat}{d:D}{Z:UR}{Q:Out->Prop}(hi:(ZE 0 sizes.length)[i]?=O d)(h:inv c s sizes n i Z) :
  ∃Z2,gN 6 d Z=O Z2/\Ho R7 Z2 (Xn (inv c s sizes n (i+1)) Q):=by
 obtain⟨left,found,x6,x7,rfl,hf,hfd⟩:=h;obtain⟨rfl,hlt⟩:=Rl hi;obtain⟨z,hz⟩:∃z,sizes[i]?=O z:=⟨sizes[i]'(by lia),Qh _⟩
 obtain⟨z1,z2⟩:=hs z (QH hz);have hix:oIx (.list (sizes.map int)) (.int (0+(i:Int)))=O (.int z):=by rw[Int.zero_add];exact YY (by rw[Qi,hz];rfl)
 generalize hk:(0:Int)+(i:Int)=k at hix⊢;have hk1:k<18446744073709551616:=by lia
 have hk2 : -18446744073709551616<k:=by lia
 have hlen:(found.map int).length<1000000:=by rw[Qd];lia
 have pw:ZU (.int 10) (.int 18)=O (.int 1000000000000000000):=by rw[Tn (by decide)];rfl
 refine⟨_,U1 (Qa jP) jP,?_⟩;unfold R7;apply Kc
 case h1=>exact SJ (KP jP (U9 UX UX pw) jP) λ_=>KP jP UX jP
 case h2=>intro _;refine Ku (Vc jP (U9 (UW jP) (KD jP (UW jP) hix) (YQ (by lia))) jP hlen jP) ?_;refine KU (K2 (U9 (UW jP) (KD jP (UW jP) hix) (T6 (by lia) (by lia))) (Qa jP) jP) (Z7 ?_);exact⟨_,found++[left % z],_,_,by rw[QX];rfl,by rw[Qk,hf];rfl,Li hfd (by rw[hf];exact hz) ⟨J6 _ (by lia),JR _ z1⟩⟩
 case h3=>intro _;refine Ku (K2 (U9 (U9 (U9 (U9 (UW jP) (U9 UX (UW jP) (Ri (by decide) (by decide))) ZK) (U9 (U9 UX (UW jP) (Ri (by decide) (by decide))) (UW jP) (Rh hk2 hk1)) ZK) (UW jP) ZK) UX (YQ (by decide))) (Qa jP) jP) ?_;refine Ku (K2 (U9 (U9 (UW jP) UX (Rh (by decide) (by decide))) UX (YQ (by decide))) (Qa jP) jP) ?_;refine Ku (K2 (U9 (U9 (U9 (U9 (UW jP) (UW jP) (Rh (by lia) (by lia))) UX (YQ (by decide))) UX (Rh (by decide) (by decide))) UX (YQ (by decide))) (Qa jP) jP) ?_;refine KU (Vc jP (U9 (U9 (UW jP) UX (T6 (by decide) (by decide))) (KD jP (UW jP) hix) (YQ (by lia))) jP hlen jP) (Z7 ?_);exact⟨_,found++[_ % z],_,_,by rw[QX];rfl,by rw[Qk,hf];rfl,Li hfd (by rw[hf];exact hz) ⟨J6 _ (by lia),JR _ z1⟩⟩
theorem Tv(c s:Int){sizes:jU}(hs:∀x∈sizes,0<x/\x<18446744073709551616)(hl:sizes.length<=1000) :
  ∃r,ZD [.int c,.int s,.list (sizes.map int)]=O r/\∃ds:jU,r=.list (ds.map .int)/\ds.length=sizes.length/\∀(j:Nat) d z,ds[j]?=O d->sizes[j]?=O z->0<=d/\d<z:=by
 refine WQ (Z:=[pb (.int c),pb (.int s),pb (.list (sizes.map int)),jQ,jQ,jQ,jQ,jQ]) jP ?_;unfold VS;refine Ku (K2 (K4 (UT (UW jP) (UT (U9 (X5 UX) (UW jP) T7) U0)) NQ) (Qa jP) jP) ?_;refine Ku (K2 (UW jP) (Qa jP) jP) ?_;refine Ku (Yi (Xh U0 (Qa jP)) (Qa jP) jP) ?_;apply Kn;apply Yx (ds:=ZE 0 sizes.length) (inv c s sizes (if -1-c > c then -1-c else c))
 case h1=>exact Rb (UT (Zj jP (by rw[Zc,Qd])) U0) (Sc (by lia) (by lia))
 case h0=>exact⟨_,[],jQ,jQ,rfl,rfl,λj d z e=>by cases e⟩
 case hst=>exact λi d Z e h=>B4 hs hl e h
 case hend=>rintro Z ⟨left,found,x6,x7,rfl,hf,hfd⟩;rw[Vo]at hf;exact KB (Ke (Zd rfl rfl) ⟨_,rfl,found,rfl,by lia,hfd⟩)
mutual
theorem Pq:∀(d:PyData),d.canLay0=jR->UJ d d=jR
 |.none,_=>rfl
 |.bool b,_=>by cases b<;>rfl
 |.int i,_=>by simp[UJ]
 |.str s,_=>by simp[UJ]
 |.list xs,h=>eqvAll_refl xs h
 |.tuple xs,h=>eqvAll_refl xs h
 |.dict _,h=>by cases h
theorem eqvAll_refl:∀(xs:List PyData),UH xs=jR->PyData.eqvAll xs xs=jR
 |[],_=>rfl
 |x::r,h=>by
  have h:(PyData.canLay0 x&&UH r)=jR:=h;rw[Qr]at h
  show(UJ x x&&PyData.eqvAll r r)=jR
  rw[Pq x h.1,eqvAll_refl r h.2];rfl
end
theorem Ts:∀{xs:jT},(∀x∈xs,PyData.canLay0 x=jR)->UH xs=jR
 |[],_=>rfl
 |x::r,h=>by
  show(PyData.canLay0 x&&UH r)=jR
  rw[h x Qo,Ts λy hy=>h y (Qp _ hy)];rfl
theorem Sa{n:Nat}:∀{xs:jT},(∀x∈xs,UI x<=n)->PyData.depthAll xs<=n
 |[],_=>by simp[PyData.depthAll]
 |x::r,h=>by
  have h1:=h x Qo;have h2:=Sa (n:=n) λy hy=>h y (Qp _ hy);simp only[PyData.depthAll]
  lia
noncomputable def Kv(r:jU):D:=.list (r.map int)
noncomputable def Ky(rs:List jU):D:=.list (rs.map Kv)
noncomputable def Ks(cs:jU)(ls:L3):D:=.tuple [.list (cs.map int),.list (ls.map Ky)]
structure WY(n:Nat)(rs:List jU):Prop where
 few:rs.length<=5
 some:∀r∈rs,r≠[]
 there:∀r∈rs,∀t∈r,0<=t/\t<n
 once:rs.flatten.Nodup
structure Good(cs:jU)(ls:L3):Prop where
 c1:1<=cs.length
 c6:cs.length<=6
 c7:∀c∈cs,0<=c/\c<8
 l1:1<=ls.length
 l7:ls.length<=7
 rk:∀rs∈ls,WY cs.length rs
theorem Pp(r:jU):(Kv r).canLay0=jR:=Ts λx hx=>by obtain⟨y,_,rfl⟩:=QG.mp hx;rfl
theorem B3(rs:List jU):(Ky rs).canLay0=jR:=Ts λx hx=>by obtain⟨y,_,rfl⟩:=QG.mp hx;exact Pp y
theorem Ck(cs:jU)(ls:L3):(Ks cs ls).canLay0=jR:=Ts λx hx=>by
 have hx:x=.list (cs.map int)∨x=.list (ls.map Ky):=by simpa using hx
 rcases hx with rfl|rfl
 .exact Pp cs
 .exact Ts λx hx=>by obtain⟨y,_,rfl⟩:=QG.mp hx;exact B3 y
theorem EZ(i:Int):(int i).depth<=1:=by simp[UI]
theorem R4{n:Nat}{xs:jT}(h:PyData.depthAll xs<=n):(UD xs).depth<=n+1:=by simp only[UI];lia
theorem Po(r:jU):(Kv r).depth<=2:=R4 (Sa λx hx=>by obtain⟨y,_,rfl⟩:=QG.mp hx;exact EZ y)
theorem B2(rs:List jU):(Ky rs).depth<=3:=R4 (Sa λx hx=>by obtain⟨y,_,rfl⟩:=QG.mp hx;exact Po y)
theorem Cj(cs:jU)(ls:L3):(Ks cs ls).depth<=60:=by
 have h:PyData.depthAll [.list (cs.map int),.list (ls.map Ky)]<=4:=Sa λx hx=>by
  have hx:x=.list (cs.map int)∨x=.list (ls.map Ky):=by simpa using hx
  rcases hx with rfl|rfl
  .have:=Po cs;unfold Kv at this;omega
  .exact R4 (Sa λx hx=>by obtain⟨y,_,rfl⟩:=QG.mp hx;exact B2 y)
 unfold Ks;simp only[UI]at h⊢;omega
theorem B0(i:Int):XI [.int i]=O (.bool jR):=by refine Zv (Z:=[pb (.int i)]) jP ?_;unfold V0;exact Ke (YA (K3 (UW jP)) (λ_=>Ra (K3 (UW jP)))) jP
theorem Pv{i m:Int}(h0:0<=i)(h1:i<m):Zm [.int i,.int m]=O (.bool jR):=by
 refine Zv (Z:=[pb (.int i),pb (.int m)]) jP ?_;unfold Wq;have hb:(decide (0<=i)&&decide (i<m))=jR:=by simp[h0,h1]
 refine Ke (YA (t:=jR) (u:=jR) (Kz (UT (UW jP) U0) jP (B0 i)) (λ_=>?_)) jP;rw[←hb];exact K3 (WS UX (UW jP) jP (λ_=>UW jP) (λ_=>rfl))
theorem MG{α:Type}(l:List α):ZM [.list (l.map λ_=>.bool jR)]=O (.bool jR):=by
 have:(l.map λ_=>UE jR)=(l.map λ_=>jR).map UE:=by rw[Jr];rfl
 rw[this,Ve]
 congr 2
 rw[Ul];induction l with
 |nil=>rfl
 |cons x r ih=>simpa using ih
theorem AN{r:jU}{n:Int}(hne:r≠[])(hl:r.length<=1000)(h:∀t∈r,0<=t/\t<n):YK [Kv r,.int n]=O (.bool jR):=by
 refine Zv (Z:=[pb (Kv r),pb (.int n)]) jP ?_;unfold Wp;apply Kn;have hlen:Kj [Kv r]=O (.int r.length):=by unfold Kv;rw[Zc,Qd]
 have hp:0<r.length:=List.length_pos_iff.mpr hne;apply Kc
 case h1=>exact KR (Z1:=[pb (Kv r),pb (.int n)]) (KQ (UW jP) jP) (U9 (Zj jP hlen) UX ZZ)
 case h2=>
       intro hh;have:(r.length:Int)=0:=by simpa using hh
       lia
 case h3=>
  intro _;refine KH (KB ?_)
  have hc:K7 (gN 2) (UV jR) (U8 2 Zm (UU (UQ 2) (UU (UQ 1) (US)))) (r.map int) (Kk [pb (Kv r),pb (.int n)]++UC 1 jQ) []=O (r.map λ_=>.bool jR):=by
   rw[Wc (λ_=>jR) (λ_=>.bool jR) (λZ=>∃x,Z=[pb (Kv r),pb (.int n),x])]
   .rw[JW.mpr (λ_ _=>rfl),Jf,Jr];rfl
   .rintro d hm Z ⟨x,rfl⟩
    obtain⟨t,ht,rfl⟩:=QG.mp hm;exact⟨_,U1 (Qa jP) jP,rfl,λ_=>Kz (UT (UW jP) (UT (UW jP) U0)) jP (Pv (h t ht).1 (h t ht).2),_,rfl⟩
   .exact⟨jQ,rfl⟩
   .rw[Qd,QW];lia
  exact Ke (K4 (UT (K3 (Ys (ZO (UW jP) jP) hc)) U0) (MG r)) jP
theorem MF{a b c x3:Option Sl}(ha:Xj a=a)(hb:Xj b=b)(hc:Xj c=c)(hx:Xj x3=x3):∀(ds es:jT)(x4:Option Sl),es.length+ds.length<=1000000 ->
  ∃y,Yo (gN 4) (UV jR) (UQ 4) ds [a,b,c,x3,x4] es=O (es++ds,[a,b,c,x3,y])
 |[],es,x4,_=>⟨x4,by rw[Yo,Q4]⟩
 |d::r,es,x4,h=>by
  rw[QB]at h;obtain⟨y,e⟩:=MF ha hb hc hx r (es++[d]) (O (.pub d)) (by rw[Qk,Q2];lia);refine⟨y,?_⟩;rw[Yo];have h1:gN 4 d [a,b,c,x3,x4]=O [a,b,c,x3,pb d]:=U1 (Qa jP) jP;rw[h1];dsimp only[UV];rw[Qs jP];have h2:UQ 4 [a,b,c,x3,pb d]=.ok d [a,b,c,x3,pb d]:=UW jP;rw[h2];dsimp only;rw[Qs (by lia)];have h3:Kk [a,b,c,x3,pb d]=[a,b,c,x3,pb d]:=by unfold Kk;simp only[QA,List.map_nil,ha,hb,hc,hx];rfl
  rw[h3,e,Q8];rfl
theorem PX{a b:D}:∀(rs:List jU)(es:jT)(x3 x4:Option Sl),es.length+rs.flatten.length<=1000000 ->
  Xd (gN 3) (UV jR) (KZ (UQ 3)) (gN 4) (UV jR) (UQ 4) (rs.map Kv) [pb a,pb b,jQ,x3,x4] es=O (es++rs.flatten.map int)
 |[],es,_,_,_=>by rw[List.map_nil,Xd];simp
 |r::rs,es,x3,x4,h=>by rw[QJ,Qk]at h;rw[QA,Xd];have h1:gN 3 (Kv r) [pb a,pb b,jQ,x3,x4]=O [pb a,pb b,jQ,pb (Kv r),x4]:=U1 (Qa jP) jP;rw[h1];dsimp only[UV];rw[Qs jP];have h2:KZ (UQ 3) [pb a,pb b,jQ,pb (Kv r),x4]=.ok (r.map int) [pb a,pb b,jQ,pb (Kv r),x4]:=ZO (UW jP) jP;rw[h2];dsimp only;have h3:Kk [pb a,pb b,jQ,pb (Kv r),x4]=[pb a,pb b,jQ,pb (Kv r),Xj x4]:=rfl;rw[h3];obtain⟨y,e⟩:=MF (a:=O (.pub a)) (b:=O (.pub b)) (c:=jQ) (x3:=O (.pub (Kv r))) jP jP jP jP (r.map int) es (Xj x4) (by rw[Qd];lia);rw[e];dsimp only;have ih:=PX (a:=a) (b:=b) rs (es++r.map int) (O (.pub (Kv r))) y (by rw[Qk,Qd];lia);refine Eq.trans ih ?_;rw[QJ,QX,Q8]
theorem Lh{ns:jU}(h:ns.Nodup):XU ns=ns.length:=by
 unfold XU
 have:∀i,i<=ns.length->(PyProof.Rows.firstMet (λi=>ns.getD i 0) i).length=i:=by
  intro i;induction i with
  |zero=>intro _;rfl
  |succ i ih=>
   intro hi;rw[PyProof.Rows.firstMet_succ]
   have hany:(PyProof.Rows.firstMet (λi=>ns.getD i 0) i).any (· == ns.getD i 0)=jS:=by
    rw[PyProof.Rows.firstMet_any,List.any_eq_false];intro x hx;obtain⟨j,hj,rfl⟩:=QG.mp hx;have hj:=Jm.mp hj;intro e;have e:ns.getD j 0=ns.getD i 0:=by simpa using e
    have l1:j<ns.length:=by lia
    have l2:i<ns.length:=by lia
    simp only[List.getD,Qh l1,Qh l2,JZ]at e;exact absurd ((List.getElem_inj h).mp e) (by lia)
   unfold PyProof.Rows.step_dedup;rw[hany];rw[QE (by decide),Qk,ih (by lia)];rfl
 exact this ns.length (Ql _)
theorem qY{rs:List jU}{n:Nat}(g:WY n rs)(hn:n<=6)(hf:rs.flatten.length<=1000):YJ [Ky rs,.int n]=O (.bool jR):=by
 refine Zv (Z:=[pb (Ky rs),pb (.int n),jQ]) jP ?_;unfold Wo;have hlen:Kj [Ky rs]=O (.int rs.length):=by unfold Ky;rw[Zc,Qd]
 have h5:=g.few;have hrl:∀r∈rs,r.length<=1000:=λr hr=>Qz (List.Sublist.length_le (List.sublist_flatten_of_mem hr)) hf;apply Kn;apply Kc
 case h1=>exact KR (Z1:=[pb (Ky rs),pb (.int n),jQ]) (KQ (UW jP) jP) (U9 (Zj jP hlen) UX jP)
 case h2=>
       intro hh;have:(5:Int)<(rs.length:Int):=by simpa using hh
       lia
 case h3=>
  intro _;refine KH (KB ?_)
  have hc:K7 (gN 3) (UV jR) (U8 2 YK (UU (UQ 3) (UU (UQ 1) (US)))) (rs.map Kv) (Kk [pb (Ky rs),pb (.int n),jQ]++UC 1 jQ) []=O (rs.map λ_=>.bool jR):=by
   rw[Wc (λ_=>jR) (λ_=>.bool jR) (λZ=>∃x,Z=[pb (Ky rs),pb (.int n),jQ,x])]
   .rw[JW.mpr (λ_ _=>rfl),Jf,Jr];rfl
   .rintro d hm Z ⟨x,rfl⟩
    obtain⟨r,hr,rfl⟩:=QG.mp hm;exact⟨_,U1 (Qa jP) jP,rfl,λ_=>Kz (UT (UW jP) (UT (UW jP) U0)) jP (AN (g.some r hr) (hrl r hr) (g.there r hr)),_,rfl⟩
   .exact⟨jQ,rfl⟩
   .rw[Qd,QW];lia
  apply Kn;apply Kc
  case h1=>exact Zw (ZP (K4 (UT (K3 (Ys (ZO (UW jP) jP) hc)) U0) (MG rs)))
  case h2=>intro hh;cases hh
  case h3=>
   intro _;refine KH (KB ?_);have h2:Va (KZ (UQ 0)) 2 (gN 3) (UV jR) (KZ (UQ 3)) (gN 4) (UV jR) (UQ 4) [pb (Ky rs),pb (.int n),jQ]=.ok (rs.flatten.map int) [pb (Ky rs),pb (.int n),jQ]:=by unfold Va;have e1:KZ (UQ 0) [pb (Ky rs),pb (.int n),jQ]=.ok (rs.map Kv) [pb (Ky rs),pb (.int n),jQ]:=ZO (UW jP) jP;rw[e1];dsimp only;have e2:=PX (a:=Ky rs) (b:=.int n) rs [] jQ jQ (by rw[QW];lia);have e3:Xd (gN 3) (UV jR) (KZ (UQ 3)) (gN 4) (UV jR) (UQ 4) (rs.map Kv) (Kk [pb (Ky rs),pb (.int n),jQ]++UC 2 jQ) []=O ([]++rs.flatten.map int):=e2;rw[e3];rfl
   refine Ku (Yi h2 (Qa jP) jP) ?_;have hls:WT [.list (rs.flatten.map int)]=O (.int rs.flatten.length):=by unfold WT;dsimp only;rw[P4];dsimp only;rw[Qs (by lia),Lh g.once]
   refine Ke (K3 (U9 (K4 (UT (Zd jP jP) U0) hls) (Zj jP Zc) ZZ)) ?_;rw[Qd];simp
theorem XX{d:D}:∀{xs:jT}{k i:Nat},(ZQ k xs)[i]?=O d->∃x,xs[i]?=O x/\d=.tuple [.int ((k+i:Nat):Int),x]
 |[],k,i,h=>by cases h
 |x::r,k,0,h=>by cases h;exact⟨x,rfl,rfl⟩
 |x::r,k,i+1,h=>by obtain⟨y,e,q⟩:=XX (xs:=r) (k:=k+1) (i:=i) h;exact⟨y,e,by rw[q];congr 4;lia⟩
theorem Pn:∀(n:Nat)(l:jU),l.Nodup->(∀x∈l,0<=x/\x<n)->l.length<=n
 |0,[],_,_=>Ql _
 |0,x::r,_,h=>by have:=h x Qo;lia
 |n+1,l,hn,h=>by
  by_cases hm:(n:Int)∈l
  .have:=Pn n (l.erase (n:Int)) (hn.erase _) λx hx=>by
    have h1:=(List.Nodup.mem_erase_iff hn).mp hx;have h2:=h x h1.2;have h3:=h1.1
    lia
   rw[List.length_erase_of_mem hm]at this
   lia
  .have:=Pn n l hn λx hx=>by
    have h2:=h x hx;have h3:x≠(n:Int):=λe=>hm (e ▸ hx)
    lia
   lia
theorem Sb{n:Nat}{rs:List jU}(g:WY n rs):rs.flatten.length<=n:=Pn n _ g.once λx hx=>by obtain⟨r,hr,hxr⟩:=Ub.mp hx;exact g.there r hr x hxr
theorem BZ{cs:jU}(h1:1<=cs.length)(h6:cs.length<=6)(h:∀c∈cs,0<=c/\c<8):WJ [.list (cs.map int)]=O .none:=by
 refine RP (Z:=[pb (.list (cs.map int)),jQ,jQ]) jP ?_;unfold VZ;have hlen:Kj [.list (cs.map int)]=O (.int cs.length):=by rw[Zc,Qd]
 apply Kn;apply Kc
 case h1=>exact KR (Z1:=[pb (.list (cs.map int)),jQ,jQ]) (KQ (UW jP) jP) (Zw (WS UX (Zj jP hlen) jP (λ_=>UX) (λ_=>rfl)))
 case h2=>
  intro hh;have a1:(1:Int)<=(cs.length:Int):=by lia
  have a2:(cs.length:Int)<=6:=by lia
  simp[a1,a2]at hh
 case h3=>
  intro _;refine KH (KB ?_);apply Yx (λ_ Z=>∃x1 x2,Z=[pb (.list (cs.map int)),x1,x2])
  case h1=>exact Xg (UT (UW jP) U0) Xe
  case h0=>exact⟨_,_,rfl⟩
  case hst=>
   rintro i d Z hi ⟨x1,x2,rfl⟩;obtain⟨x,hx,rfl⟩:=XX hi;obtain⟨c,hc,rfl⟩:=QG.mp (QH hx);refine⟨_,KE jP (Ka (U1 (Qa jP) jP) (Ka (U1 (Qa jP) jP) KF)),?_⟩;unfold Nh;apply Kc
   case h1=>exact Zw (ZP (Kz (UT (UW jP) (UT (U9 UX UX ZK) U0)) jP (Pv (h c hc).1 (by have:=(h c hc).2;lia))))
   case h2=>intro hh;cases hh
   case h3=>exact λ_=>KH (Z7 ⟨_,_,rfl⟩)
  case hend=>exact λZ ⟨x1,x2,e⟩=>⟨_,rfl⟩
theorem Ci{ls:L3}{n:Nat}(hn:n<=6)(h1:1<=ls.length)(h7:ls.length<=7)(h:∀rs∈ls,WY n rs):WI [.list (ls.map Ky),.int n]=O .none:=by
 refine RP (Z:=[pb (.list (ls.map Ky)),pb (.int n),jQ,jQ]) jP ?_;unfold VY;have hlen:Kj [.list (ls.map Ky)]=O (.int ls.length):=by rw[Zc,Qd]
 apply Kn;apply Kc
 case h1=>exact KR (Z1:=[pb (.list (ls.map Ky)),pb (.int n),jQ,jQ]) (KQ (UW jP) jP) (Zw (WS UX (Zj jP hlen) jP (λ_=>UX) (λ_=>rfl)))
 case h2=>
  intro hh;have a1:(1:Int)<=(ls.length:Int):=by lia
  have a2:(ls.length:Int)<=7:=by lia
  simp[a1,a2]at hh
 case h3=>
  intro _;refine KH (KB ?_);apply Yx (λ_ Z=>∃x2 x3,Z=[pb (.list (ls.map Ky)),pb (.int n),x2,x3])
  case h1=>exact Xg (UT (UW jP) U0) Xe
  case h0=>exact⟨_,_,rfl⟩
  case hst=>
   rintro i d Z hi ⟨x1,x2,rfl⟩;obtain⟨x,hx,rfl⟩:=XX hi;obtain⟨rs,hrs,rfl⟩:=QG.mp (QH hx);refine⟨_,KE jP (Ka (U1 (Qa jP) jP) (Ka (U1 (Qa jP) jP) KF)),?_⟩;unfold Ni;have hfl:=Sb (h rs hrs);apply Kc
   case h1=>exact Zw (ZP (Kz (UT (UW jP) (UT (UW jP) U0)) jP (qY (h rs hrs) hn (by lia))))
   case h2=>intro hh;cases hh
   case h3=>exact λ_=>KH (Z7 ⟨_,_,rfl⟩)
  case hend=>exact λZ ⟨x1,x2,e⟩=>⟨_,rfl⟩
theorem BY{cs:jU}{ls:L3}(g:Good cs ls):WH [Ks cs ls]=O .none:=by
 refine RP (Z:=[pb (Ks cs ls),jQ,jQ]) jP ?_;unfold VX;apply Kn;apply Kc
 case h1=>exact KR (Z1:=[pb (Ks cs ls),jQ,jQ]) (KQ (UW jP) jP) (U9 (Zj jP jP) UX Tl)
 case h2=>intro hh;cases hh
 case h3=>
  intro _;refine KH (KB ?_);have hlen:Kj [.list (cs.map int)]=O (.int (cs.length:Nat)):=by rw[Zc,Qd]
  refine Ku (TU (UW jP) (KE jP (Ka (U1 (Qa jP) jP) (Ka (U1 (Qa jP) jP) KF)))) ?_;refine Ku (Pa (Kz (UT (UW jP) U0) jP (BZ g.c1 g.c6 g.c7))) ?_;exact KU (Pa (Kz (UT (UW jP) (UT (Zj jP hlen) U0)) jP (Ci g.c6 g.l1 g.l7 g.rk))) ⟨_,rfl⟩
theorem Mw:∀(xs ys:jU),PyData.eqvAll (xs.map int) (ys.map int)=decide (xs=ys)
 |[],[]=>rfl
 |[],y::ys=>by simp[PyData.eqvAll]
 |x::xs,[]=>by simp[PyData.eqvAll]
 |x::xs,y::ys=>by
  have ih:=Mw xs ys
  show(UJ (.int x) (.int y)&&PyData.eqvAll (xs.map int) (ys.map int))=_
  rw[ih];have:UJ (.int x) (.int y)=decide (x=y):=rfl;rw[this,Bool.eq_iff_iff];simp
theorem ME{xs:jU}:oNe (.list (xs.map int)) (.list [])=O (!decide (xs=[])):=by
 unfold oNe;have h1:(UD (xs.map int)).canLay0=jR:=Pp xs;have h3:(UD (xs.map int)).depth<=60:=by have:=Po xs;unfold Kv at this;lia
 rw[Qs ⟨h1,rfl,h3⟩]
 congr 2
 exact Mw xs []
theorem Nv{xs:jT}{x:D}(h:xs.getLast?=O x):oIx (.list xs) (.int (-1))=O x:=by
 unfold oIx atI;have hl:xs≠[]:=by rintro rfl;cases h
 have hp:0<xs.length:=List.length_pos_iff.mpr hl;rw[List.getLast?_eq_getElem?]at h
 show(ixN xs.length (-1)).bind _=_
 unfold ixN;rw[QE (by decide),Qs (by lia)];have e2:(-1+(xs.length:Int)).toNat=xs.length-1:=by lia
 simp only[Option.bind_some];rw[e2];exact h
theorem R3{xs:jU}{k:Nat}(h:k<xs.length):oIx (.list (xs.map int)) (.int k)=O (.int (xs.getD k 0)):=by refine YY ?_;rw[Qi,Qh h];simp[List.getD,List.getElem?_eq_getElem h]
theorem PV(ns:jU)(k:Nat)(hl:ns.length<=1000):∃v,YH [.list (ns.map int),.int k]=O (.int v):=by
 have hlen:Kj [.list (ns.map int)]=O (.int ns.length):=by rw[Zc,Qd]
 by_cases h:k<ns.length
 .refine⟨ns.getD k 0,Zv (Z:=[pb (.list (ns.map int)),pb (.int k)]) jP ?_⟩
  unfold Wl;apply Kn;apply Kc
  case h1=>exact KP jP (Zj jP hlen) jP
  case h2=>exact λ_=>Ke (KD jP (UW jP) (R3 h)) (KN jP)
  case h3=>
        intro hh;have:¬(k:Int)<(ns.length:Int):=by simpa using hh
        lia
 .refine⟨0,Zv (Z:=[pb (.list (ns.map int)),pb (.int k)]) jP ?_⟩
  unfold Wl;apply Kn;apply Kc
  case h1=>exact KP jP (Zj jP hlen) jP
  case h2=>
        intro hh;have:(k:Int)<(ns.length:Int):=by simpa using hh
        lia
  case h3=>exact λ_=>KH (KB (Ke UX jP))
noncomputable def tab:jU:=[1,1,2,0,3,7,1,4,5,6,1]
theorem O6{z:Int}(h0:0<=z)(h1:z<11):oIx (.list (tab.map int)) (.int z)=O (.int (tab.getD z.toNat 0))/\0<=tab.getD z.toNat 0/\tab.getD z.toNat 0<8:=by
 have e:z=0∨z=1∨z=2∨z=3∨z=4∨z=5∨z=6∨z=7∨z=8∨z=9∨z=10:=by lia
 rcases e with rfl|rfl|rfl|rfl|rfl|rfl|rfl|rfl|rfl|rfl|rfl<;>exact⟨rfl,by decide,by decide⟩
structure W6(n:Nat)(pl:jU)(j:Nat)(rs:List jU):Prop where
 few:rs.length<=j
 some:∀r∈rs,r≠[]
 there:∀r∈rs,∀t∈r,(0<=t/\t<n)/\pl.getD t.toNat 0<1+(j:Int)
 once:rs.flatten.Nodup
noncomputable def WK(n:Nat)(pl:jU)(r:Int):jU:=((UB n).filter λk=>decide (pl.getD k 0=r)).map λk:Nat=>(k:Int)
theorem jj(n:Nat)(pl:jU)(r:Int):(WK n pl r).Nodup:=by unfold WK;refine List.Pairwise.map _ (λa b h e=>h (by lia)) ((List.nodup_range).filter _)
theorem MD{n:Nat}{pl:jU}{r t:Int}(h:t∈WK n pl r):(0<=t/\t<n)/\pl.getD t.toNat 0=r:=by
 unfold WK at h;obtain⟨k,hk,rfl⟩:=QG.mp h;have hk:=Uo.mp hk;have h1:=Jm.mp hk.1;have h2:pl.getD k 0=r:=by simpa using hk.2
 exact⟨⟨by lia,by lia⟩,by rw[QY];exact h2⟩
theorem W6.add{n:Nat}{pl:jU}{j:Nat}{rs:List jU}{row:jU}(g:W6 n pl j rs)(hne:row≠[])(hm:∀t∈row,t∈WK n pl (1+(j:Int)))(hn:row.Nodup):W6 n pl (j+1) (rs++[row]) where
 few:=by rw[Qk,Q2];have:=g.few;lia
 some:=λr hr=>by
  rcases Q0.mp hr with z|z
  .exact g.some r z
  .rw[QN.mp z];exact hne
 there:=λr hr t ht=>by
  rcases Q0.mp hr with z|z
  .have:=g.there r z t ht;exact⟨this.1,by lia⟩
  .rw[QN.mp z]at ht
   have:=MD (hm t ht);exact⟨this.1,by lia⟩
 once:=by
  rw[Ud,List.flatten_singleton];refine List.nodup_append.mpr ⟨g.once,hn,λa ha b hb e=>?_⟩;subst e;obtain⟨r,hr,har⟩:=Ub.mp ha;have h1:=(g.there r hr a har).2;have h2:=(MD (hm a hb)).2
  lia
theorem W6.next{n:Nat}{pl:jU}{j:Nat}{rs:List jU}(g:W6 n pl j rs):W6 n pl (j+1) rs:=
 ⟨by have:=g.few;lia,g.some,λr hr t ht=>⟨(g.there r hr t ht).1,by have:=(g.there r hr t ht).2;lia⟩,g.once⟩
theorem Nu{x:D}{m:Nat}(h:m<=1000):Kw (.list [x]) (.int m)=O (.list (UC m x)):=by
 rw[Lu ⟨by lia,by lia,by rw[QY];show 1*m<=_;lia⟩,QY]
 congr 2
 induction m with
 |zero=>rfl
 |succ m ih=>rw[Jd,QJ,ih (by lia)];rfl
noncomputable def szG(T A:Nat):jU:=(T:Int)::(A:Int)::UC T 11
noncomputable def Z9(T R:Nat):jU:=UC T ((R:Int)+1)++[2]
theorem Nt{T A:Nat}:(szG T A).length=T+2:=by unfold szG;simp
theorem Mv{T R:Nat}:(Z9 T R).length=T+1:=by unfold Z9;simp
theorem Ff{T A:Nat}(h1:1<=T)(h2:T<=6)(h3:1<=A)(h4:A<=7):∀x∈szG T A,0<x/\x<18446744073709551616:=λx hx=>by unfold szG at hx;simp only[Qu,List.mem_replicate]at hx;rcases hx with rfl|rfl|⟨_,rfl⟩<;>lia
theorem EY{T R:Nat}(h:R<=5):∀x∈Z9 T R,0<x/\x<18446744073709551616:=λx hx=>by unfold Z9 at hx;simp only[Q0,QN,List.mem_replicate]at hx;rcases hx with ⟨_,rfl⟩|rfl<;>lia
theorem BX{T R:Nat}:(Z9 T R)[T]?=O 2:=by unfold Z9;simp
theorem Fe{T A k:Nat}(h:k<T):(szG T A)[2+k]?=O 11:=by unfold szG;rw[show 2+k=k+1+1 by lia,JY,JY,QD,Qs h]
def RF(T A R:Nat)(S dz sz:D)(at_ n:Nat)(cs pl:jU)(ls:L3)(x9 kq:Option Sl)(j:Nat)(Z:UR):Prop:=∃(rs:List jU)(xM xi:Option Sl),
 Z=[pb S,pb (.int at_),pb (.int (T:Nat)),pb (.int (A:Nat)),pb (.int (R:Nat)),pb sz,pb dz,O (.own (cs.map int)),O (.own (ls.map Ky)),x9,kq,pb (.list (pl.map int)),O (.own (rs.map Kv)),xM,xi]/\W6 n pl j rs
theorem AM{T A R:Nat}{S dz sz:D}{at_ n:Nat}{cs pl:jU}{ls:L3}{v9 v10:D}{j:Nat}{d:D}{Z:UR}{Q:Out->Prop}(hcs:cs.length=n)(hT:T<=6)(hR:R<=5)(hn:n<=T)(hpl:pl.length=T+1)(xa:pl.getD T 0=0∨pl.getD T 0=1)
  (hj:(ZE 1 ((R:Int)+1))[j]?=O d) (h:RF T A R S dz sz at_ n cs pl ls (O (.pub v9)) (O (.pub v10)) j Z) :
  ∃Z2,gN 13 d Z=O Z2/\Ho R6 Z2 (Xn (RF T A R S dz sz at_ n cs pl ls (O (.pub v9)) (O (.pub v10)) (j+1)) Q):=by
 obtain⟨rs,xM,xi,rfl,g⟩:=h;obtain⟨rfl,hlt⟩:=Rl hj;have hj5:j<R:=by lia
 refine⟨_,U1 (Qa jP) jP,?_⟩;unfold R6
 have hrd:ZE 0 ((n:Nat):Int)=(UB n).map λk=>.int (k:Int):=by
  unfold ZE;have:((n:Int)-0).toNat=n:=by lia
  rw[this];apply List.map_congr_left;intro k _;rw[Int.zero_add]
 have hc:K7 (gN 15) (UY oEq (U6 11 (UQ 15)) (UQ 13)) (UQ 15) (ZE 0 ((n:Nat):Int)) (Kk [pb S,pb (.int at_),pb (.int (T:Nat)),pb (.int (A:Nat)),pb (.int (R:Nat)),pb sz,pb dz,O (.own (cs.map int)),O (.own (ls.map Ky)),pb v9,pb v10,pb (.list (pl.map int)),O (.own (rs.map Kv)),pb (.int (1+(j:Int))),xi]++UC 1 jQ) []=O ((WK n pl (1+(j:Int))).map int):=by
  rw[hrd,Wc (λd=>match d with | .int k=>decide (pl.getD k.toNat 0=1+(j:Int))|_=>jS) (λd=>d) (λZ=>∃x,Z=[pb S,pb (.int at_),pb (.int (T:Nat)),pb (.int (A:Nat)),pb (.int (R:Nat)),pb sz,pb dz,jQ,jQ,pb v9,pb v10,pb (.list (pl.map int)),jQ,pb (.int (1+(j:Int))),Xj xi,x])]
  .rw[Jf,List.map_id',List.filter_map]
   unfold WK;rw[Jr];rfl
  .rintro d hm Z ⟨x,rfl⟩
   obtain⟨k,hk,rfl⟩:=QG.mp hm;have hk:=Jm.mp hk;refine⟨_,U1 (Qa jP) jP,U9 (KD jP (UW jP) (R3 (by lia))) (UW jP) ZZ,λ_=>UW jP,pb (.int k),?_⟩;unfold Kk;cases xi with
   |none=>rfl
   |some sl=>cases sl<;>rfl
  .exact⟨jQ,rfl⟩
  .rw[Qd,J8,QW];lia
 have hlen:(cs.map int).length=n:=by rw[Qd,hcs]
 refine Ku (Yi (Ys (Rb (UT (To jP) U0) (by rw[hlen];exact Sc (by lia) (by lia))) hc) (Qa jP) jP) ?_;generalize kz:WK n pl (1+(j:Int))=row;apply Kc
 case h1=>exact Mc jP (Kt U0 (by decide)) jP ME
 case h2=>
  intro hh;have hne:row≠[]:=by simpa using hh
  have hlx:oIx (.list (pl.map int)) (.int (-1))=O (.int (pl.getD T 0)):=Nv (by rw[List.getLast?_eq_getElem?,Qd,hpl,Qi,Nat.add_sub_cancel,Qh (show T<pl.length by lia)];simp[List.getD,List.getElem?_eq_getElem (show T<pl.length by lia)])
  obtain⟨kW,hix,kY⟩:∃kW:jU,oIx (.list [.list (row.map int),.list (row.map int).reverse]) (.int (pl.getD T 0))=O (Kv kW)/\(kW=row∨kW=row.reverse):=by
   rcases xa with e|e
   .rw[e];exact⟨row,rfl,.inl jP⟩
   .rw[e];exact⟨row.reverse,by show O (UD (row.map int).reverse)=_;unfold Kv;rw[List.map_reverse],.inr jP⟩
  have hrl:(rs.map Kv).length<1000000:=by rw[Qd];have:=g.few;lia
  refine KU (Vc jP (U9 (Kt (UT (Zd jP jP) (UT (OG (UW jP) UX UX (Z8 (X5 UX))) U0)) (Qa jP)) (KD jP (X5 UX) hlx) hix) jP hrl jP) ?_;refine Z7 ⟨rs++[kW],pb (.int (1+(j:Int))),pb (.list (row.map int)),by rw[QX];rfl,g.add ?_ ?_ ?_⟩
  .rcases kY with e|e<;>rw[e]
   .exact hne
   .exact λz=>hne (List.reverse_eq_nil_iff.mp z)
  .intro t ht
   rw[kz];rcases kY with e|e<;>rw[e]at ht
   .exact ht
   .exact List.mem_reverse.mp ht
  .have hnd:=jj n pl (1+(j:Int))
   rw[kz]at hnd;rcases kY with e|e<;>rw[e]
   .exact hnd
   .exact(List.reverse_perm row).nodup_iff.mpr hnd
 case h3=>exact λ_=>KH (Z7 ⟨rs,_,_,rfl,g.next⟩)
def RE(T A R:Nat)(S dz sz:D)(at_ n:Nat)(cs:jU)(i:Nat)(Z:UR):Prop:=∃(ls:L3)(x9 kq kH kC xM xi:Option Sl),
 Z=[pb S,pb (.int at_),pb (.int (T:Nat)),pb (.int (A:Nat)),pb (.int (R:Nat)),pb sz,pb dz,O (.own (cs.map int)),O (.own (ls.map Ky)),x9,kq,kH,kC,xM,xi]/\ls.length=i/\∀rs∈ls,WY n rs/\rs.length<=R
theorem ji{T A R:Nat}{ns:jU}{dz sz:D}{at_ n:Nat}{cs:jU}{i:Nat}{m:Int}{d:D}{Z:UR}{Q:Out->Prop}(hns:ns.length<=1000)(hT:T<=6)(hR:R<=5)(hcs:cs.length=n)(hn:n<=T)(hm:m<=100)
  (hi:(ZE 0 m)[i]?=O d) (h:RE T A R (.list (ns.map int)) dz sz at_ n cs i Z) :
  ∃Z2,gN 9 d Z=O Z2/\Ho R5 Z2 (Xn (RE T A R (.list (ns.map int)) dz sz at_ n cs (i+1)) Q):=by
 obtain⟨ls,x9,kq,kH,kC,xM,xi,rfl,hl,hg⟩:=h;obtain⟨rfl,hlt⟩:=Rl hi;refine⟨_,U1 (Qa jP) jP,?_⟩;unfold R5;obtain⟨v,hv⟩:=PV ns (at_+1+i) hns;have ev:((at_:Int)+1+(0+(i:Int)))=((at_+1+i:Nat):Int):=by lia
 rw[←ev]at hv;refine Ku (K2 (Kz (UT (UW jP) (UT (U9 (U9 (UW jP) UX ZK) (UW jP) ZK) U0)) jP hv) (Qa jP) jP) ?_;obtain⟨r,hF,pl,rfl,hpl,hpb⟩:=Tv v (11*(at_:Int)+3*(0+(i:Int))+1) (sizes:=Z9 T R) (EY hR) (by rw[Mv];lia);have hpl7:pl.length=T+1:=by rw[hpl,Mv]
 have hmul:Kw (.list [.int ((R:Int)+1)]) (.int (T:Nat))=O (.list (UC T (.int ((R:Int)+1)))):=Nu (by lia);have hadd:Kb (.list (UC T (.int ((R:Int)+1)))) (.list [.int 2])=O (.list ((Z9 T R).map int)):=by rw[YV (by rw[QR];show T+1<=_;lia)];unfold Z9;rw[QX,List.map_replicate];rfl
 refine Ku (K2 (Kz (UT (UW jP) (UT (U9 (U9 (U9 UX (UW jP) (Ri (by decide) (by decide))) (U9 UX (UW jP) (Ri (by decide) (by decide))) ZK) UX ZK) (UT (U9 (U9 (Kt (UT (U9 (UW jP) UX ZK) U0) (Qa jP)) (UW jP) hmul) (Kt (UT UX U0) (Qa jP)) hadd) U0))) jP hF) (Qa jP) jP) ?_;refine Ku (Yi (Xh U0 (Qa jP)) (Qa jP) jP) ?_
 have xa:pl.getD T 0=0∨pl.getD T 0=1:=by
  have e:pl[T]?=O pl[T]:=Qh (by lia);have:=hpb T pl[T] 2 e BX;have e2:pl.getD T 0=pl[T]:=by simp[List.getD,e]
  rw[e2];lia
 apply Kn;apply Yx (RF T A R (.list (ns.map int)) dz sz at_ n cs pl ls (O (.pub (.int (0+(i:Int))))) (O (.pub (.int v))))
 case h1=>exact EG (UT UX (UT (U9 (UW jP) UX ZK) U0)) (C7 (by lia) (by lia) (by decide) (by decide))
 case h0=>exact⟨[],xM,xi,rfl,⟨Ql _,λ_ h=>(by cases h),λ_ h=>(by cases h),List.nodup_nil⟩⟩
 case hst=>exact λj d Z e h=>AM hcs hT hR hn hpl7 xa e h
 case hend=>
  rintro Z ⟨rs,y13,y14,rfl,g⟩;refine KB ?_;have hl5:(ZE 1 ((R:Int)+1)).length=R:=by rw[Vo];lia
  rw[hl5]at g;have vd:(ls.map Ky).length<1000000:=by rw[Qd];lia
  refine KU (Vc jP (Zd jP jP) jP vd jP) ?_;refine Z7 ⟨ls++[rs],pb (.int (0+(i:Int))),pb (.int v),pb (.list (pl.map int)),pb (.list (rs.map Kv)),y13,y14,by rw[QX];rfl,by rw[Qk,hl];rfl,λx hx=>?_⟩;rcases Q0.mp hx with z|z
  .exact hg x z
  .rw[QN.mp z];exact⟨⟨by have:=g.few;lia,g.some,λr hr t ht=>(g.there r hr t ht).1,g.once⟩,g.few⟩
theorem qW(T A R:Nat){ns:jU}(hns:ns.length<=1000)(at_:Nat)(hT1:1<=T:=by decide)(hT:T<=6:=by decide)(hA1:1<=A:=by decide)(hA:A<=7:=by decide)(hR:R<=5:=by decide):∃r,WE [.list (ns.map int),.int at_,.int (T:Nat),.int (A:Nat),.int (R:Nat)]=O r/\∃cs ls,r=Ks cs ls/\Good cs ls/\cs.length<=T/\ls.length<=A/\∀rs∈ls,rs.length<=R:=by
 obtain⟨v,hv⟩:=PV ns at_ hns;obtain⟨r,hF,ds,rfl,hl,hd⟩:=Tv v at_ (sizes:=szG T A) (Ff hT1 hT hA1 hA) (by rw[Nt];lia);have hl8:ds.length=T+2:=by rw[hl,Nt]
 have at':∀(j:Nat)(k z:Int),k=j->(szG T A)[j]?=O z->∃d,oIx (.list (ds.map int)) (.int k)=O (.int d)/\ds[j]?=O d/\0<=d/\d<z:=λj k z hk hz=>by
  subst hk;have hj:j<ds.length:=by rw[hl];exact(Qq.mp hz).1
  have e:ds[j]?=O ds[j]:=Qh hj;obtain⟨p0,p1⟩:=hd j ds[j] z e hz;exact⟨ds[j],YY (by rw[Qi,e];rfl),e,p0,p1⟩
 obtain⟨d0,x0,e0,p0,q0⟩:=at' 0 0 T jP jP;obtain⟨d1,x1,e1,p1,q1⟩:=at' 1 1 A jP jP;have hmul:Kw (.list [.int 11]) (.int (T:Nat))=O (.list (UC T (.int 11))):=Nu (by lia);have hadd:Kb (.list [.int (T:Nat),.int (A:Nat)]) (.list (UC T (.int 11)))=O (.list ((szG T A).map int)):=by rw[YV (by rw[QR];show 2+T<=_;lia)];unfold szG;rw[QA,QA,List.map_replicate];rfl
 obtain⟨n,hn⟩:∃n:Nat,1+d0=n:=⟨(1+d0).toNat,by lia⟩
 refine WQ (Z:=[pb (.list (ns.map int)),pb (.int at_),pb (.int (T:Nat)),pb (.int (A:Nat)),pb (.int (R:Nat)),jQ,jQ,jQ,jQ,jQ,jQ,jQ,jQ,jQ,jQ]) jP ?_;unfold VR;refine Ku (K2 (U9 (Kt (UT (UW jP) (UT (UW jP) U0)) (Qa jP)) (U9 (Kt (UT UX U0) (Qa jP)) (UW jP) hmul) hadd) (Qa jP) jP) ?_;refine Ku (K2 (Kz (UT (Kz (UT (UW jP) (UT (UW jP) U0)) jP hv) (UT (UW jP) (UT (UW jP) U0))) jP hF) (Qa jP) jP) ?_
 have hcut:DL.cutD (ds.map int) (O 2) (O (3+d0))=((ds.drop 2).take n).map int:=by
  rw[C6 (by decide) (by lia) (by lia)];have:(3+d0).toNat-(2:Int).toNat=n:=by lia
  rw[this];rfl
 have xw:((ds.drop 2).take n).length=n:=by rw[JG,JX,hl8];lia
 have each:∀z∈(ds.drop 2).take n,0<=z/\z<11:=λz hz=>by
  have hz:=List.mem_of_mem_take hz;obtain⟨k,hk,e⟩:=JV hz;rw[JX,hl8]at hk;rw[List.getElem_drop]at e;have e2:ds[2+k]?=O z:=by rw[←e];exact Qh _
  refine hd (2+k) z 11 e2 (Fe ?_)
  lia
 let cs:jU:=((ds.drop 2).take n).map λz=>tab.getD z.toNat 0
 have hcl:cs.length=n:=by show(List.map _ _).length=n;rw[Qd,xw]
 have hc:∀xs:List (Option Sl),Kk xs=xs->xs.length=15->K7 (gN 15) (UV jR) (UY oIx (U7 (UU (UV (.int 1)) (UU (UV (.int 1)) (UU (UV (.int 2)) (UU (UV (.int 0)) (UU (UV (.int 3)) (UU (UV (.int 7)) (UU (UV (.int 1)) (UU (UV (.int 4)) (UU (UV (.int 5)) (UU (UV (.int 6)) (UU (UV (.int 1)) (US))))))))))))) (UQ 15)) (((ds.drop 2).take n).map int) (Kk xs++UC 1 jQ) []=O (cs.map int):=by
  intro xs hx xY;rw[hx,Wc (λ_=>jR) (λd=>match d with | .int z=>.int (tab.getD z.toNat 0)|_=>.none) (λZ=>∃x,Z=xs++[x])]
  .rw[JW.mpr (λ_ _=>rfl),Jf,Jr]
   show _=O ((((ds.drop 2).take n).map λz=>tab.getD z.toNat 0).map int);rw[Jr];rfl
  .rintro d hm Z ⟨x,rfl⟩
   obtain⟨z,hz,rfl⟩:=QG.mp hm;have ht:=O6 (each z hz).1 (each z hz).2;have hset:(xs++[x]).set 15 (O (Sl.pub (.int z)))=xs++[pb (.int z)]:=by rw[List.set_append_right _ _ (by lia),xY];rfl
   have hget:(xs++[O (Sl.pub (.int z))])[15]?=O (O (Sl.pub (.int z))):=by rw[Qx (by lia),xY];rfl
   refine⟨_,U1 (by rw[Qk,xY];exact Qa jP) hset,rfl,λ_=>?_,pb (.int z),?_⟩
   .exact U9 (Kt (UT UX (UT UX (UT UX (UT UX (UT UX (UT UX (UT UX (UT UX (UT UX (UT UX (UT UX U0))))))))))) (Qa jP)) (UW hget) ht.1
   .unfold Kk at hx⊢
    rw[QX,hx];rfl
  .exact⟨jQ,rfl⟩
  .rw[Qd,xw,QW];lia
 refine Ku (Yi (Ys (ZO (Yw (UW jP) (Z8 UX) (Z8 (U9 UX (KD jP UX x0) ZK)) (by rw[YB,hcut])) Xp) (hc _ jP jP)) (Qa jP) jP) ?_;refine Ku (Yi (Xh U0 (Qa jP)) (Qa jP) jP) ?_;apply Kn;apply Yx (RE T A R (.list (ns.map int)) (.list (ds.map int)) (.list ((szG T A).map int)) at_ n cs)
 case h1=>exact Rb (UT (U9 UX (KD jP UX x1) ZK) U0) (Sc (by lia) (by lia))
 case h0=>exact⟨[],_,_,_,_,_,_,rfl,rfl,λ_ h=>by cases h⟩
 case hst=>exact λi d Z e h=>ji hns hT hR hcl (by lia) (by lia) e h
 case hend=>rintro Z ⟨ls,y9,y10,y11,y12,y13,y14,rfl,vd,hg⟩;rw[Vo]at vd;refine KB (Ke (ZS (UT (Zd rfl rfl) (UT (Zd rfl rfl) U0)) (Qa rfl)) ⟨_,rfl,cs,ls,rfl,⟨?_,by lia,by lia,λrs hrs=>(hg rs hrs).2⟩⟩);exact⟨by lia,by lia,λc hc=>by obtain⟨z,hz,rfl⟩:=QG.mp hc;exact(O6 (each z hz).1 (each z hz).2).2,by lia,by lia,λrs hrs=>by rw[hcl];exact(hg rs hrs).1⟩
noncomputable def Xo(t:Int)(rs:List jU):Nat:=if rs.findIdx (λr=>r.contains t)<rs.length then rs.findIdx (λr=>r.contains t)+1 else 0
theorem EX(a b:Int):UJ (.int a) (.int b)=(a==b):=by simp[UJ]
theorem Pj(t:Int)(r:jU):oIn (.int t) (Kv r)=O (r.contains t):=by
 have h1:UH (r.map int)=jR:=by
  induction r with
  |nil=>rfl
  |cons x r ih=>rw[QA];unfold UH;rw[ih];rfl
 unfold oIn Kv;dsimp only;rw[Qs ⟨rfl,h1,Ug _⟩]
 congr 1
 rw[List.any_map];clear h1;induction r with
 |nil=>rfl
 |cons x r ih=>
  rw[List.any_cons,ih,QZ]
  congr 1
  show UJ (.int x) (.int t)=(t==x);rw[EX];exact Bool.eq_iff_iff.2 ⟨λh=>beq_iff_eq.2 (beq_iff_eq.1 h).symm,λh=>beq_iff_eq.2 (beq_iff_eq.1 h).symm⟩
theorem BW{t:Int}{rs:List jU}{i:Nat}{r:jU}(hr:rs[i]?=O r)(h:r.contains t=jR)(hb:∀j r,j<i->rs[j]?=O r->r.contains t=jS):Xo t rs=1+i:=by obtain⟨hi,e⟩:=List.getElem?_eq_some_iff.1 hr;have hf:rs.findIdx (λr=>r.contains t)=i:=(List.findIdx_eq hi).2 ⟨by rw[e];exact h,λj hj=>hb j _ hj (Qh (Nat.lt_trans hj hi))⟩;unfold Xo;rw[hf,Qs hi,Nat.add_comm]
theorem BV{t:Int}{rs:List jU}(hb:∀j r,j<rs.length->rs[j]?=O r->r.contains t=jS):Xo t rs=0:=by
 have hf:rs.findIdx (λr=>r.contains t)=rs.length:=List.findIdx_eq_length.2 λr hr=>by obtain⟨j,hj,e⟩:=List.mem_iff_getElem.1 hr;exact hb j r hj (by rw[Qh hj,e])
 unfold Xo;rw[hf,QE (Jz _)]
theorem AL(t:Int)(rs:List jU):XH [Ky rs,.int t]=O (.int (Xo t rs:Nat)):=by
 refine Zv (Z:=[pb (Ky rs),pb (.int t),jQ,jQ]) jP ?_;unfold VW;apply Kn;apply Yx (λi Z=>(∃x2 x3,Z=[pb (Ky rs),pb (.int t),x2,x3])/\∀j r,j<i->rs[j]?=O r->r.contains t=jS)
 case h1=>exact C5 (UT (UW jP) U0) AJ
 case h0=>exact⟨⟨_,_,rfl⟩,λj r h=>absurd h (Nat.not_lt_zero _)⟩
 case hst=>
  rintro i d Z hi ⟨⟨x2,x3,rfl⟩,hb⟩;obtain⟨x,hx,rfl⟩:=XX hi;rw[Qi]at hx;cases hr:rs[i]? with
  |none=>rw[hr]at hx;cases hx
  |some r=>
   rw[hr]at hx;cases hx;refine⟨_,KE jP (Ka (U1 (Qa jP) jP) (Ka (U1 (Qa jP) jP) KF)),?_⟩;unfold Ng;apply Kc
   case h1=>exact KP jP (UW jP) (Pj t r)
   case h2=>intro hh;refine Ke (UW jP) (Tj ?_);rw[BW hr hh hb];exact⟨rfl⟩
   case h3=>
    intro hh;refine KH (Z7 ⟨⟨_,_,rfl⟩,λj r' hj hr'=>?_⟩);rcases Nat.lt_succ_iff_lt_or_eq.1 hj with h|rfl
    .exact hb j r' h hr'
    .rw[hr]at hr';cases hr';exact hh
 case hend=>rintro Z ⟨⟨x2,x3,rfl⟩,hb⟩;rw[XY,Qd]at hb;refine KB ?_;rw[BV hb];exact Ke UX rfl
theorem Ch{f:M jT}{k:Nat}{s:D->UR->jZ}{t:M Bool}{g:M D}{Z Z1:UR}{ds es:jT}(h1:f Z=.ok ds Z1)(h2:K7 s t g ds (ZX Z1++UC k jQ) []=O es)(h3:es.all flat=jR):TX f k s t g Z=.ok es Z1:=by unfold TX;rw[h1];dsimp only;rw[h2];dsimp only;rw[if_pos h3]
theorem WX{s:D->UR->jZ}{t:M Bool}{g:M D}(I:UR->Prop):∀(ds qs:jT)(Z:UR)(es:jT),qs.length=ds.length ->
  (∀(i:Nat) d e,ds[i]?=O d->qs[i]?=O e->∀Z,I Z->∃Z1,s d Z=O Z1/\t Z1=.ok jR Z1/\g Z1=.ok e Z1/\I (Kk Z1))->I Z->es.length+ds.length<=1000000->K7 s t g ds Z es=O (es++qs)
 |[],[],Z,es,_,_,_,_=>by rw[K7,Q4]
 |d::r,e::q,Z,es,hl,st,h0,hz=>by obtain⟨Z1,e1,e2,e3,h1⟩:=st 0 d e jP jP Z h0;rw[QB]at hz;rw[K7,e1];dsimp only;rw[e2];dsimp only;rw[Qs jP,e3];dsimp only;rw[if_pos (by lia),WX I r q (Kk Z1) (es++[e]) (by simpa using hl) (λi d' e' x y=>st (i+1) d' e' (by simpa using x) (by simpa using y)) h1 (by rw[List.length_append,List.length_singleton];lia),List.append_assoc];rfl
theorem Nr{i:Nat}{d:D}{Z:UR}(h:Z[i]?=O (O (.pub d)) ∨ ∃ds,d=.list ds/\Z[i]?=O (O (.own ds))):UQ i Z=.ok d (Z.set i (O (.pub d))):=by
 rcases h with h|⟨ds,rfl,h⟩
 .rw[UW h]
  congr 1
  obtain⟨hi,e⟩:=Qq.mp h;rw[←e,List.set_getElem_self]
 .exact Zd h jP
section
variable{cs:jU}{ls:L3}{ws:List j6}
theorem X0:oIx (Ks cs ls) (.int 0)=O (.list (cs.map int)):=YY (j:=0) jP
theorem Xa:oIx (Ks cs ls) (.int 1)=O (.list (ls.map Ky)):=YY (j:=1) jP
theorem HS{i:Nat}{rs:List jU}(h:ls[i]?=O rs):oIx (.list (ls.map Ky)) (.int i)=O (Ky rs):=YY (by rw[Qi,h];rfl)
end
theorem Pi{d:D}(h1:d.canLay0=jR)(h2:d.depth<=60):oNe d d=O jS:=by unfold oNe;rw[Qs ⟨h1,h1,h2⟩,Pq _ h1];rfl
theorem Mu{xs:jT}{a:Nat}(h:a<=xs.length):DL.cutD xs (O (a:Int)) jQ=xs.drop a:=by
 unfold DL.cutD HT.sIx;dsimp only;rw[QE (by lia),QY];have:min a xs.length=a:=by lia
 rw[this,List.take_of_length_le (by rw[JX];lia)]
theorem Lg{s:D->UR->jZ}{t:M Bool}{g:M D}(I:UR->Prop):∀(ds qs:jT)(Z:UR)(es:jT),qs.length=ds.length ->
  (∀(i:Nat) d e,ds[i]?=O d->qs[i]?=O e->∀Z,I Z->∃Z1,s d Z=O Z1/\t Z1=.ok jR Z1/\g Z1=.ok e Z1/\I (Kk Z1))->I Z->es.length+ds.length<=1000000->∃Z',Yo s t g ds Z es=O (es++qs,Z')/\I Z'
 |[],[],Z,es,_,_,h0,_=>⟨Z,by rw[Yo,Q4],h0⟩
 |d::r,e::q,Z,es,hl,st,h0,hz=>by obtain⟨Z1,e1,e2,e3,h1⟩:=st 0 d e jP jP Z h0;rw[QB]at hz;obtain⟨Z',e',h'⟩:=Lg I r q (Kk Z1) (es++[e]) (by simpa using hl) (λi d' e' x y=>st (i+1) d' e' (by simpa using x) (by simpa using y)) h1 (by rw[List.length_append,List.length_singleton];lia);refine⟨Z',?_,h'⟩;rw[Yo,e1];dsimp only;rw[e2];dsimp only;rw[Qs jP,e3];dsimp only;rw[Qs (by lia),e',Q8];rfl
theorem PH{s:D->UR->jZ}{t:M Bool}{f:M jT}{Rd:jT->UR->jT->Option (jT×UR)}(I:UR->Prop):∀(ds:jT)(qs:List jT)(Z:UR)(es:jT),qs.length=ds.length ->
  (∀(i:Nat) d q,ds[i]?=O d->qs[i]?=O q->∀Z es,I Z->es.length+q.length<=1000000->∃Z1 xs Z2 Z3,s d Z=O Z1/\t Z1=.ok jR Z1/\f Z1=.ok xs Z2/\Rd xs (Kk Z2) es=O (es++q,Z3)/\I Z3)->I Z->es.length+qs.flatten.length<=1000000->∃Z',YM s t f Rd ds Z es=O (es++qs.flatten,Z')/\I Z'
 |[],[],Z,es,_,_,h0,_=>⟨Z,by rw[YM,List.flatten_nil,Q4],h0⟩
 |d::r,q::qr,Z,es,hl,st,h0,hz=>by rw[QJ,Qk]at hz;obtain⟨Z1,xs,Z2,Z3,e1,e2,e3,e4,h1⟩:=st 0 d q jP jP Z es h0 (by lia);obtain⟨Z',e',h'⟩:=PH I r qr Z3 (es++q) (by simpa using hl) (λi d' e' x y=>st (i+1) d' e' (by simpa using x) (by simpa using y)) h1 (by rw[List.length_append];lia);refine⟨Z',?_,h'⟩;rw[YM,e1];dsimp only;rw[e2];dsimp only;rw[Qs jP,e3];dsimp only;rw[e4];dsimp only;rw[e',QJ,Q8]
noncomputable def XJ(i:Nat)(rs:List jU):LP:=rs.flatten.map λt=>((i:Int),t)
noncomputable def ZG(k:Nat):L3->LP
 |[]=>[]
 |rs::ls=>XJ k rs++ZG (k+1) ls
noncomputable def ZB(k:Nat):L3->LP
 |[]=>[]
 |rs::ls=>(Xb rs.flatten).map (λt=>((k:Int),t))++ZB (k+1) ls
theorem Ro:∀(ls:L3)(k:Nat),(ZB k ls).Perm (ZG k ls)
 |[],_=>.nil
 |rs::ls,k=>((Tr rs.flatten).map _).append (Ro ls (k+1))
theorem Mt:∀(ls:L3)(k:Nat),∀q∈ZB k ls,(k:Int)<=q.1
 |[],_,q,h=>by cases h
 |rs::ls,k,q,h=>by
  rcases Q0.mp h with h|h
  .obtain⟨t,_,rfl⟩:=QG.mp h;exact JP _
  .have:=Mt ls (k+1) q h;lia
theorem Tg:∀{ls:L3}{k:Nat}{q:Int×Int},q∈ZB k ls->∃i rs,ls[i]?=O rs/\q.1=((k+i:Nat):Int)/\q.2∈rs.flatten
 |[],_,q,h=>by cases h
 |rs::ls,k,q,h=>by
  rcases Q0.mp h with h|h
  .obtain⟨t,ht,rfl⟩:=QG.mp h
   exact⟨0,rs,rfl,rfl,(Tr _).mem_iff.mp ht⟩
  .obtain⟨i,rs',h1,h2,h3⟩:=Tg h
   exact⟨i+1,rs',by simpa using h1,by rw[h2];congr 1;lia,h3⟩
theorem Ms:∀{ls:L3}{k i:Nat}{rs:List jU}{t:Int},ls[i]?=O rs->t∈rs.flatten->(((k+i:Nat):Int),t)∈ZB k ls
 |rs::ls,k,0,rs',t,h,ht=>by cases h;exact Jk _ (QG.mpr ⟨t,(Tr _).mem_iff.mpr ht,rfl⟩)
 |rs::ls,k,i+1,rs',t,h,ht=>by have:=Ms (ls:=ls) (k:=k+1) (i:=i) (by simpa using h) ht;rw[show k+1+i=k+(i+1)by lia]at this;exact QP _ this
theorem Mr{n:Nat}(hn:n<=6):∀(ls:L3)(k:Nat),(∀rs∈ls,∀t∈rs.flatten,0<=t/\t<n)->(ZB k ls).Pairwise λx y=>Ko x<=Ko y
 |[],_,_=>.nil
 |rs::ls,k,h=>by
  refine List.pairwise_append.mpr ⟨?_,Mr hn ls (k+1) λrs' hr=>h rs' (Qp _ hr),λx hx y hy=>?_⟩
  .rw[J9]
   refine(MQ rs.flatten).imp λ{a b} hab=>?_
   unfold Ko;dsimp only
   lia
  .obtain⟨t,ht,rfl⟩:=QG.mp hx
   have h1:=Mt ls (k+1) y hy;have h2:=h rs Qo t ((Tr _).mem_iff.mp ht);obtain⟨i,rs',g1,g2,g3⟩:=Tg hy;have h3:=h rs' (Qp _ (QH g1)) y.2 g3;unfold Ko;dsimp only
   lia
theorem WY.flat{n:Nat}{rs:List jU}(g:WY n rs):∀t∈rs.flatten,0<=t/\t<n:=λt ht=>by obtain⟨r,h1,h2⟩:=Ub.mp ht;exact g.there r h1 t h2
section
variable{cs:jU}{ls:L3}
theorem Mq(n:Nat):∀(ls:L3)(k:Nat),(∀rs∈ls,rs.flatten.length<=n)->(ZG k ls).length<=ls.length*n
 |[],_,_=>by simp[ZG]
 |rs::ls,k,h=>by
  have h1:=Mq n ls (k+1) λr hr=>h r (Qp _ hr);have h2:=h rs Qo
  show(XJ k rs++ZG (k+1) ls).length<=_
  rw[Qk,QB,Nat.succ_mul];unfold XJ;rw[Qd]
  lia
theorem AK(g:Good cs ls):X3 (ZG 0 ls)=ZB 0 ls:=by
 have hf:∀rs∈ls,∀t∈rs.flatten,0<=t/\t<cs.length:=λrs hr=>(g.rk rs hr).flat
 have ok:∀q∈ZB 0 ls,okP q:=λq hq=>by obtain⟨i,rs,h1,h2,h3⟩:=Tg hq;have:=hf rs (QH h1) q.2 h3;have:=g.c6;exact⟨by lia,by lia⟩
 exact(Pr ok ((Ro ls 0).trans (Lo _).symm) (Mr g.c6 ls 0 hf) (M4 _)).symm
theorem Fd(g:Good cs ls):∀q∈ZG 0 ls,okP q:=λq hq=>by obtain⟨i,rs,h1,h2,h3⟩:=Tg ((Ro ls 0).mem_iff.mpr hq);have:=(g.rk rs (QH h1)).flat q.2 h3;have:=g.c6;exact⟨by lia,by lia⟩
theorem Ph(g:Good cs ls):(ZG 0 ls).length<=42:=by
 have h:=Mq 6 ls 0 λrs hr=>Qz (Sb (g.rk rs hr)) g.c6
 have:=g.l7
 lia
theorem Pg:∀(ls:L3)(k:Nat),((ls.zipIdx k).map λp=>(XJ p.2 p.1).map KJ).flatten=(ZG k ls).map KJ
 |[],_=>rfl
 |rs::ls,k=>by rw[List.zipIdx_cons,QA,QJ,Pg ls (k+1)];show _=(XJ k rs++ZG (k+1) ls).map KJ;rw[QX]
theorem jm(g:Good cs ls):WG [Ks cs ls]=O (.list ((ZB 0 ls).map KJ)):=by
 refine Zv (Z:=[pb (Ks cs ls)]) jP ?_;unfold VU;refine Ku (Pa (Kz (UT (UW jP) U0) jP (BY g))) ?_
 have hc:∃Z',YM (gT 2 (gNC (gN 1) (gNC (gN 2) (gN0)))) (UV jR) (KZ (UQ 2)) (YM (gN 3) (UV jR) (KZ (UQ 3)) (Yo (gN 4) (UV jR) (KI (UU (UQ 1) (UU (UQ 4) (US)))))) (ZQ 0 (ls.map Ky)) (Kk [pb (Ks cs ls)]++UC 4 jQ) []=O ((ZG 0 ls).map KJ,Z'):=by
  have key:=PH (s:=gT 2 (gNC (gN 1) (gNC (gN 2) (gN0)))) (t:=UV jR) (f:=KZ (UQ 2)) (Rd:=YM (gN 3) (UV jR) (KZ (UQ 3)) (Yo (gN 4) (UV jR) (KI (UU (UQ 1) (UU (UQ 4) (US))))))
   (λZ=>∃x1 x2 x3 x4,Z=[pb (Ks cs ls),x1,x2,x3,x4]) (ZQ 0 (ls.map Ky)) ((ls.zipIdx 0).map λp=>(XJ p.2 p.1).map KJ) (Kk [pb (Ks cs ls)]++UC 4 jQ) [] (by rw[Qd,List.length_zipIdx,XY,Qd]) ?_ ⟨jQ,jQ,jQ,jQ,rfl⟩ (by rw[Pg,Qd,QW];have:=Ph g;lia)
  .obtain⟨Z',e,_⟩:=key
   rw[Pg,Jf]at e;exact⟨Z',e⟩
  rintro i d q hd hq Z es ⟨x1,x2,x3,x4,rfl⟩ hlen;obtain⟨z,hz,rfl⟩:=XX hd;rw[Qi]at hz;rw[Qi,List.getElem?_zipIdx]at hq;cases hls:ls[i]? with
  |none=>rw[hls]at hz;cases hz
  |some rs=>
  rw[hls]at hz hq;cases hz;cases hq;rw[Ju]at *;dsimp only at hlen⊢
  have inner:=PH (s:=gN 3) (t:=UV jR) (f:=KZ (UQ 3)) (Rd:=Yo (gN 4) (UV jR) (KI (UU (UQ 1) (UU (UQ 4) (US)))))
   (λZ=>∃x3 x4,Z=[pb (Ks cs ls),pb (.int i),pb (Ky rs),x3,x4]) (rs.map Kv) (rs.map λr=>r.map λt=>KJ ((i:Int),t)) (Kk [pb (Ks cs ls),pb (.int i),pb (Ky rs),x3,x4]) es (by rw[Qd,Qd]) ?_ ⟨Xj x3,Xj x4,rfl⟩ ?_
  .obtain⟨Z3,e3,y3,y4,h3⟩:=inner
   have ef:(rs.map λr=>r.map λt=>KJ ((i:Int),t)).flatten=(XJ i rs).map KJ:=by unfold XJ;rw[Jr,List.map_flatten];rfl
   rw[ef]at e3;exact⟨_,_,_,Z3,KE jP (Ka (U1 (Qa jP) jP) (Ka (U1 (Qa jP) jP) KF)),rfl,ZO (UW jP) jP,e3,_,_,_,_,h3⟩
  .rintro j d q hd hq Z es' ⟨y3,y4,rfl⟩ xy
   rw[Qi]at hd hq;cases hr:rs[j]? with
   |none=>rw[hr]at hd;cases hd
   |some r=>
   rw[hr]at hd hq;cases hd;cases hq
   obtain⟨Z3,e3,z4,h3⟩:=Lg (s:=gN 4) (t:=UV jR) (g:=KI (UU (UQ 1) (UU (UQ 4) (US)))) (λZ=>∃x4,Z=[pb (Ks cs ls),pb (.int i),pb (Ky rs),pb (Kv r),x4]) (r.map int) (r.map λt=>KJ ((i:Int),t)) (Kk [pb (Ks cs ls),pb (.int i),pb (Ky rs),pb (Kv r),y4]) es' (by rw[Qd,Qd]) (by
    rintro m d e hd he Z ⟨x4,rfl⟩;rw[Qi]at hd he;cases hm:r[m]? with
    |none=>rw[hm]at hd;cases hd
    |some t=>
    rw[hm]at hd he;cases hd;cases he;exact⟨_,U1 (Qa jP) jP,rfl,ZS (UT (UW jP) (UT (UW jP) U0)) (Qa jP),_,rfl⟩) ⟨Xj y4,rfl⟩ (by rw[Qd]at xy⊢;exact xy)
   exact⟨_,_,_,Z3,U1 (Qa jP) jP,rfl,ZO (UW jP) jP,e3,_,_,h3⟩
  .have ef:(rs.map λr=>r.map λt=>KJ ((i:Int),t)).flatten=(XJ i rs).map KJ:=by
    unfold XJ;rw[Jr,List.map_flatten];rfl
   rw[ef];exact hlen
 obtain⟨Z',hc⟩:=hc;have hs:=AD (qs:=ZG 0 ls) (by have:=Ph g;lia) (Fd g);rw[AK g]at hs;exact Ke (K4 (UT (K3 (Bj (Xg (UT (KD jP UX Xa) U0) Xe) hc)) U0) hs) jP
end
theorem Pf{t:Int}{r:jU}:oIn (.int t) (.list (r.map int))=O (r.contains t):=Pj t r
theorem O5{x:D}{m:Nat}(h:m<=1000):Kw (.list [x]) (.int m)=O (.list (UC m x)):=by
 rw[Lu ⟨by lia,by lia,by show 1*_<=_;lia⟩]
 congr 2
 rw[QY];clear h;induction m with
 |zero=>rfl
 |succ n ih=>rw[Jd,QJ,ih,Jd];rfl
theorem Pm{t:Int}{r:jU}:YE (.int t) (.list (r.map int))=O (!r.contains t):=by unfold YE;rw[Pf];rfl
theorem MC{s:D->UR->jZ}{t:M Bool}{g:M D}(I:UR->Prop):∀(ds:jT)(qs:List jY)(Z:UR)(es:jT),qs.length=ds.length ->
  (∀(i:Nat) d e,ds[i]?=O d->qs[i]?=O e->∀Z,I Z->∃Z1,s d Z=O Z1/\t Z1=.ok e.isSome Z1/\(∀x,e=O x->g Z1=.ok x Z1)/\I (Kk Z1))->I Z->es.length+ds.length<=1000000->K7 s t g ds Z es=O (es++qs.filterMap id)
 |[],[],Z,es,_,_,_,_=>by rw[K7];simp
 |d::r,e::q,Z,es,hl,st,h0,hz=>by
  obtain⟨Z1,e1,e2,e3,h1⟩:=st 0 d e jP jP Z h0;rw[QB]at hz;have ih:=λes' hz'=>MC I r q (Kk Z1) es' (by simpa using hl) (λi d' e' x y=>st (i+1) d' e' (by simpa using x) (by simpa using y)) h1 hz'
  rw[K7,e1];dsimp only;rw[e2];dsimp only;cases e with
  |none=>rw[if_neg (show ¬(none:jY).isSome=jR by simp),ih es (by lia)];rfl
  |some x=>rw[Qs (show(O x).isSome=jR from rfl),e3 x jP];dsimp only;rw[Qs (by lia),ih (es++[x]) (by rw[Qk,Q2];lia),Q8];rfl
theorem Cg{xs:jT}{a b:j6}:(DL.cutD xs a b).length<=xs.length:=by
 unfold DL.cutD;rw[JG,JX]
 lia
theorem Cf{xs:jT}{a b:j6}{x:D}(h:x∈DL.cutD xs a b):x∈xs:=by unfold DL.cutD at h;exact List.mem_of_mem_drop (List.mem_of_mem_take h)
theorem BU{ns:jU}{n:Int}{a b:j6}{i:Nat}{x:D}(h:(int n::DL.cutD (ns.map int) a b)[i]?=O x):∃c:Int,x=.int c:=by
 have hm:=QH h;rcases Qu.mp hm with rfl|hm
 .exact⟨n,rfl⟩
 .obtain⟨c,_,rfl⟩:=QG.mp (Cf hm)
  exact⟨c,rfl⟩
theorem BS{ns:jU}{n:Int}{a b:j6}(h:ns.length<=1000):Kb (.list [.int n]) (.list (DL.cutD (ns.map int) a b))=O (.list (int n::DL.cutD (ns.map int) a b)):=YV (by
 have:=Cg (xs:=ns.map int) (a:=a) (b:=b);rw[Qd]at this;show 1+_<=_
 lia)
noncomputable def whB:D->Bool
 |.int _=>jR
 |_=>jS
noncomputable def Kx(n:Int):D->Bool
 |.int i=>decide (0<=i)&&decide (i<n)
 |_=>jS
noncomputable def rkB(n:Int):D->Bool
 |.list (x::xs)=>(x::xs).all (Kx n)
 |_=>jS
noncomputable def whI:D->j6
 |.int i=>O i
 |_=>jQ
noncomputable def itI:D->jU
 |.list xs=>xs.filterMap whI
 |_=>[]
noncomputable def flI(rs:jT):jU:=rs.flatMap itI
noncomputable def Zs(n:Int):D->Bool
 |.list rs=>decide (rs.length<=5)&&(rs.all (rkB n)&&decide (flI rs).Nodup)
 |_=>jS
theorem Wb(n:Int)(rs:jT):Zs n (.list rs)=(decide (rs.length<=5)&&(rs.all (rkB n)&&decide (flI rs).Nodup)):=rfl
theorem MB(d:D):XI [d]=O (.bool (whB d)):=by
 cases d with
 |dict kvs=>exact Zv (Z:=[pb (.dict kvs)]) jP (Ke (YA (t:=jS) (u:=jS) (RO (UW jP)) λz=>by cases z) jP)
 |_=>rfl
theorem Pu(d:D)(n:Int):Zm [d,.int n]=O (.bool (Kx n d)):=by
 refine Zv (Z:=[pb d,pb (.int n)]) jP ?_;unfold Wq;cases d with
 |int i=>exact Ke (YA (t:=jR) (u:=decide (0<=i)&&decide (i<n)) (Kz (UT (UW jP) U0) jP (MB (.int i))) (λ_=>K3 (WS UX (UW jP) jP (λ_=>UW jP) (λ_=>rfl)))) jP
 |_=>exact Ke (YA (t:=jS) (u:=jS) (Kz (UT (UW jP) U0) jP (MB _)) (λz=>by cases z)) jP
theorem Pl{n:Int}{d:D}(h:Kx n d=jR):∃i,d=.int i/\0<=i/\i<n:=by
 cases d with
 |int i=>have h:(decide (0<=i)&&decide (i<n))=jR:=h;simp only[Qr,Q5]at h;exact⟨i,rfl,h⟩
 |_=>cases h
theorem Mp{n:Int}:∀{xs:jT},xs.all (Kx n)=jR->xs=(xs.filterMap whI).map int
 |[],_=>rfl
 |x::r,h=>by rw[Jh,Qr]at h;obtain⟨i,rfl,_⟩:=Pl h.1;have ih:=Mp h.2;show _=(i::r.filterMap whI).map int;rw[QA,←ih]
theorem Fc{n:Int}{d:D}(h:rkB n d=jR):d=.list ((itI d).map int):=by
 cases d with
 |list xs=>
  cases xs with
  |nil=>cases h
  |cons x r=>exact Uh UD (Mp h)
 |_=>cases h
theorem MA{q:D->Bool}(xs:jT):ZM [.list (xs.map λd=>.bool (q d))]=O (.bool (xs.all q)):=by
 have:(xs.map λd=>UE (q d))=(xs.map q).map UE:=by rw[Jr];rfl
 rw[this,Ve]
 congr 2
 rw[Ul];rfl
theorem jh{d:D}{n:Int}(hl:∀xs,d=.list xs->xs.length<=700):YK [d,.int n]=O (.bool (rkB n d)):=by
 refine Zv (Z:=[pb d,pb (.int n)]) jP ?_;unfold Wp;apply Kn;cases d with
 |list xs=>
  have hl:=hl xs jP;apply Kc (b:=decide ((xs.length:Int)=0))
  case h1=>exact KR (Z1:=[pb (.list xs),pb (.int n)]) (KQ (UW jP) jP) (U9 (Zj jP Zc) UX ZZ)
  case h2=>
   intro hh;have:(xs.length:Int)=0:=by simpa using hh
   have e:xs=[]:=List.eq_nil_of_length_eq_zero (by lia);subst e;exact Ke UX (KN jP)
  case h3=>
   intro hh;have hne:¬(xs.length:Int)=0:=by simpa using hh
   refine KH (KB ?_)
   have hc:K7 (gN 2) (UV jR) (U8 2 Zm (UU (UQ 2) (UU (UQ 1) (US)))) xs (Kk [pb (.list xs),pb (.int n)]++UC 1 jQ) []=O (xs.map λd=>.bool (Kx n d)):=by
    rw[Wc (λ_=>jR) (λd=>.bool (Kx n d)) (λZ=>∃x,Z=[pb (.list xs),pb (.int n),x])]
    .rw[JW.mpr (λ_ _=>rfl),Jf]
    .rintro d hm Z ⟨x,rfl⟩
     exact⟨_,U1 (Qa jP) jP,rfl,λ_=>Kz (UT (UW jP) (UT (UW jP) U0)) jP (Pu d n),_,rfl⟩
    .exact⟨jQ,rfl⟩
    .rw[QW];lia
   refine Ke (K4 (UT (K3 (Ys (ZO (UW jP) jP) hc)) U0) (MA xs)) ?_;cases xs with
   |nil=>exact absurd jP hne
   |cons x r=>rfl
 |dict kvs=>exact Kc (b:=jR) (Zn (YX (UW jP))) (λ_=>Ke UX (KN jP)) (λz=>by cases z)
 |_=>exact Kc (b:=jR) (Zn (KQ (UW jP) jP)) (λ_=>Ke UX (KN jP)) (λz=>by cases z)
theorem BR{ns:jU}:∀i,(PyProof.Rows.firstMet (λi=>ns.getD i 0) i).length<=i:=by
 intro i;induction i with
 |zero=>exact Ql _
 |succ i ih=>
  rw[PyProof.Rows.firstMet_succ];unfold PyProof.Rows.step_dedup;split
  .lia
  .rw[Qk,Q2];lia
theorem qV{ns:jU}(h:XU ns=ns.length):ns.Nodup:=by
 unfold XU at h
 have key:∀i,i<=ns.length->(PyProof.Rows.firstMet (λi=>ns.getD i 0) i).length=i->(ns.take i).Nodup:=by
  intro i;induction i with
  |zero=>intro _ _;simp
  |succ i ih=>
   intro hi e;rw[PyProof.Rows.firstMet_succ]at e;unfold PyProof.Rows.step_dedup at e;cases hany:(PyProof.Rows.firstMet (λi=>ns.getD i 0) i).any (· == ns.getD i 0)with
   |true=>
    rw[hany,Qs jP]at e;have:=BR (ns:=ns) i
    lia
   |false=>
    rw[hany,QE (by decide),Qk]at e;have e:(PyProof.Rows.firstMet (λi=>ns.getD i 0) i).length=i:=by simpa using e
    have ih:=ih (by lia) e;rw[List.take_succ_eq_append_getElem (by lia),List.nodup_append];refine⟨ih,by simp,λa ha b hb=>?_⟩;rw[QN]at hb;subst hb;rw[PyProof.Rows.firstMet_any,List.any_eq_false]at hany;obtain⟨j,hj,rfl⟩:=List.mem_take_iff_getElem.mp ha;have hj':j<i:=by have:=hj;lia
    have:=hany (ns.getD j 0) (QG.mpr ⟨j,Jm.mpr hj',rfl⟩);have l1:j<ns.length:=by lia
    have l2:i<ns.length:=by lia
    simp only[List.getD,Qh l1,Qh l2,JZ,beq_iff_eq]at this;exact this
 have:=key ns.length (Ql _) h;rwa[List.take_length]at this
theorem BQ{ns:jU}(h:ns.length<=3500):∃u:Nat,WT [.list (ns.map int)]=O (.int u)/\decide ((u:Int)=ns.length)=decide ns.Nodup:=by
 refine⟨XU ns,?_,?_⟩
 .unfold WT
  dsimp only;rw[P4];dsimp only;rw[Qs (by lia)]
 .by_cases e:ns.Nodup
  .rw[Lh e,decide_eq_true e];simp
  .rw[Qt e,Qt]
   intro z;exact e (qV (by lia))
def Wv(d:D):Prop:=∀rs,d=.list rs->∀xs,.list xs∈rs->xs.length<=700
theorem M9{n:Int}:∀{rs:jT},rs.all (rkB n)=jR->(∀xs,.list xs∈rs->xs.length<=700)->∃ls:List jU,rs=ls.map Kv/\flI rs=ls.flatten/\ls.flatten.length<=700*rs.length
 |[],_,_=>⟨[],rfl,rfl,by simp⟩
 |d::r,h,hs=>by
  rw[Jh,Qr]at h;obtain⟨ls,e1,e2,e3⟩:=M9 h.2 λxs hx=>hs xs (Qp _ hx)
  have hd:=Fc h.1;have hl:=hs ((itI d).map int) (by rw[←hd];exact Qo);rw[Qd]at hl;refine⟨itI d::ls,?_,?_,?_⟩
  .rw[QA,←e1]
   exact Uh (· :: r) hd
  .show itI d++flI r=_
   rw[e2,QJ]
  .rw[QJ,Qk,QB];lia
theorem qU{d:D}{n:Int}(hs:Wv d):YJ [d,.int n]=O (.bool (Zs n d)):=by
 refine Zv (Z:=[pb d,pb (.int n),jQ]) jP ?_;unfold Wo;apply Kn;cases d with
 |list rs=>
  have hs:=hs rs jP;apply Kc (b:=decide ((5:Int)<rs.length))
  case h1=>exact KR (Z1:=[pb (.list rs),pb (.int n),jQ]) (KQ (UW jP) jP) (U9 (Zj jP Zc) UX jP)
  case h2=>
   intro hh;have:(5:Int)<(rs.length:Int):=by simpa using hh
   refine Ke UX (KN ?_);rw[Wb,Qt (by lia:¬rs.length<=5)];rfl
  case h3=>
   intro hh;have h5:¬(5:Int)<(rs.length:Int):=by simpa using hh
   refine KH (KB ?_)
   have hc:K7 (gN 3) (UV jR) (U8 2 YK (UU (UQ 3) (UU (UQ 1) (US)))) rs (Kk [pb (.list rs),pb (.int n),jQ]++UC 1 jQ) []=O (rs.map λd=>.bool (rkB n d)):=by
    rw[Wc (λ_=>jR) (λd=>.bool (rkB n d)) (λZ=>∃x,Z=[pb (.list rs),pb (.int n),jQ,x])]
    .rw[JW.mpr (λ_ _=>rfl),Jf]
    .rintro d hm Z ⟨x,rfl⟩
     exact⟨_,U1 (Qa jP) jP,rfl,λ_=>Kz (UT (UW jP) (UT (UW jP) U0)) jP (jh (λxs e=>hs xs (by rw[←e];exact hm))),_,rfl⟩
    .exact⟨jQ,rfl⟩
    .rw[QW];lia
   apply Kn;apply Kc
   case h1=>exact Zw (ZP (K4 (UT (K3 (Ys (ZO (UW jP) jP) hc)) U0) (MA rs)))
   case h2=>
    intro hh;have e:rs.all (rkB n)=jS:=by simpa using hh
    refine Ke UX (KN ?_);rw[Wb,e,Ua,J4]
   case h3=>
    intro hh;have e:rs.all (rkB n)=jR:=by simpa using hh
    refine KH (KB ?_);obtain⟨ls,e1,e2,e3⟩:=M9 e hs;have hfl:ls.flatten.length<=3500:=by lia
    subst e1;have h2:Va (KZ (UQ 0)) 2 (gN 3) (UV jR) (KZ (UQ 3)) (gN 4) (UV jR) (UQ 4) [pb (.list (ls.map Kv)),pb (.int n),jQ]=.ok (ls.flatten.map int) [pb (.list (ls.map Kv)),pb (.int n),jQ]:=by unfold Va;have e1:KZ (UQ 0) [pb (.list (ls.map Kv)),pb (.int n),jQ]=.ok (ls.map Kv) [pb (.list (ls.map Kv)),pb (.int n),jQ]:=ZO (UW jP) jP;rw[e1];dsimp only;have e2:=PX (a:=.list (ls.map Kv)) (b:=.int n) ls [] jQ jQ (by rw[QW];lia);have e3:Xd (gN 3) (UV jR) (KZ (UQ 3)) (gN 4) (UV jR) (UQ 4) (ls.map Kv) (Kk [pb (.list (ls.map Kv)),pb (.int n),jQ]++UC 2 jQ) []=O ([]++ls.flatten.map int):=e2;rw[e3];rfl
    refine Ku (Yi h2 (Qa jP) jP) ?_;obtain⟨u,hu1,hu2⟩:=BQ hfl;refine Ke (K3 (U9 (K4 (UT (Zd jP jP) U0) hu1) (Zj jP Zc) ZZ)) ?_;rw[Qd,hu2];rw[Wb,Qw (by lia:(ls.map Kv).length<=5),e,e2,JU,JU]
 |dict kvs=>exact Kc (b:=jR) (Zn (YX (UW jP))) (λ_=>Ke UX (KN jP)) (λz=>by cases z)
 |_=>exact Kc (b:=jR) (Zn (KQ (UW jP) jP)) (λ_=>Ke UX (KN jP)) (λz=>by cases z)
noncomputable def KM:D->Option (Str×D)
 |.tuple [c,l]=>(match c with
  |.list cs=>if 1<=cs.length/\cs.length<=6 then(match fb (Kx 8) 0 cs with
    |some k=>O ("copies", .int k)
    |none=>(match l with
     |.list ls=>if 1<=ls.length/\ls.length<=7 then(match fb (Zs cs.length) 0 ls with
       |some k=>O ("lists", .int k)
       |none=>jQ)else O ("lists", .none)
     |_=>O ("lists", .none)))else O ("copies", .none)
  |_=>O ("copies", .none))
 |_=>O ("wishes", .none)
noncomputable def V1(o:Option (Str×D)):XR:=match o with
 |none=>.val .none
 |some (p,n)=>.exc (exD "NoWishes" [.str p,n])
theorem X9{p:Str}{n:D}(h1:p.length<=1000)(h2:X2 n=jR):X1 "NoWishes" [.str p,n]=O [.str p,n]:=by have e:ZV "NoWishes" = (["part", "number"]:List Str):=rfl;unfold X1;rw[e];dsimp only;have h3:X2 (.str p)=jR:=Qw h1;rw[Qs ⟨rfl,by rw[Jh,Jh,h2,h3];rfl⟩]
theorem Nq{j:Nat}(h:j<1000000):X2 (.int j)=jR:=by
 unfold X2;simp only[Qr,Q5]
 constructor<;>lia
noncomputable def K6(c:D):Option (Str×D):=match c with
 |.list cs=>if 1<=cs.length/\cs.length<=6 then(match fb (Kx 8) 0 cs with
  |some k=>O ("copies", .int k)
  |none=>jQ)else O ("copies", .none)
 |_=>O ("copies", .none)
noncomputable def Zr(n:Int)(l:D):Option (Str×D):=match l with
 |.list ls=>if 1<=ls.length/\ls.length<=7 then(match fb (Zs n) 0 ls with
  |some k=>O ("lists", .int k)
  |none=>jQ)else O ("lists", .none)
 |_=>O ("lists", .none)
theorem WW{m:Nat}{k:Int}:(!(decide ((1:Int)<=m)&&decide ((m:Int)<=k)))=decide (¬(1<=m/\(m:Int)<=k)):=by
 by_cases h:(1:Int)<=m<;>by_cases h2:(m:Int)<=k
 .rw[Qw h,Qw h2,Qt (by lia)];rfl
 .rw[Qt h2,J4,Qw (by lia)];rfl
 .rw[Qt h,Ua,Qw (by lia)];rfl
 .rw[Qt h,Ua,Qw (by lia)];rfl
theorem EW(d:D):Rz [d]=O (V1 (K6 d)):=by
 refine XM (Z:=[pb d,jQ,jQ]) jP ?_;unfold Od;apply Kn;cases d with
 |list cs=>
  apply Kc
  case h1=>exact KR (Z1:=[pb (.list cs),jQ,jQ]) (KQ (UW jP) jP) (Zw (WS UX (Zj jP Zc) jP (λ_=>UX) (λ_=>rfl)))
  case h2=>intro hh;rw[WW]at hh;have hh:=Qa hh;refine KU (X8 (UT UX (UT UX U0)) (X9 (by decide) jP)) (YU ?_);unfold K6;dsimp only;rw[QE (by lia)];exact⟨rfl,rfl⟩
  case h3=>
   intro hh;rw[WW]at hh;have hh:=Ja hh;have hl:1<=cs.length/\cs.length<=6:=by lia
   have ed:K6 (.list cs)=(match fb (Kx 8) 0 cs with
    |some k=>O ("copies", .int k)
    |none=>jQ):=by unfold K6;dsimp only;rw[if_pos hl]
   refine KH (KB ?_);rw[ed];refine Rg (xs:=cs) (Kx 8) (λZ=>∃x1 x2,Z=[pb (.list cs),x1,x2]) (Xg (UT (UW jP) U0) Xe) ⟨_,_,rfl⟩ ?_ ?_
   .rintro x hx j Z hj ⟨x1,x2,rfl⟩
    refine⟨_,KE jP (Ka (U1 (Qa jP) jP) (Ka (U1 (Qa jP) jP) KF)),?_⟩;unfold Hq;refine Kc (Zw (ZP (Kz (UT (UW jP) (UT (U9 UX UX ZK) U0)) jP (Pu x 8)))) (λz=>?_) λz=>?_
    .refine KU (X8 (UT UX (UT (UW jP) U0)) (X9 (by decide) (Nq (by lia)))) (Oj (by simpa using z) λe=>?_)
     rw[e];exact⟨rfl,rfl⟩
    .exact KH (Sq (by simpa using z) ⟨_,_,rfl⟩)
   .intro e Z _
    rw[e];rfl
 |dict kvs=>exact Kc (b:=jR) (Zn (YX (UW jP))) (λ_=>KU (X8 (UT UX (UT UX U0)) (X9 (by decide) jP)) (YU ⟨rfl,rfl⟩)) (λz=>by cases z)
 |_=>exact Kc (b:=jR) (Zn (KQ (UW jP) jP)) (λ_=>KU (X8 (UT UX (UT UX U0)) (X9 (by decide) jP)) (YU ⟨rfl,rfl⟩)) (λz=>by cases z)
theorem Fb{d:D}{n:Int}(hs:∀ls,d=.list ls->ls.length<=7->∀x∈ls,Wv x):Ry [d,.int n]=O (V1 (Zr n d)):=by
 refine XM (Z:=[pb d,pb (.int n),jQ,jQ]) jP ?_;unfold Og;apply Kn;cases d with
 |list cs=>
  apply Kc
  case h1=>exact KR (Z1:=[pb (.list cs),pb (.int n),jQ,jQ]) (KQ (UW jP) jP) (Zw (WS UX (Zj jP Zc) jP (λ_=>UX) (λ_=>rfl)))
  case h2=>intro hh;rw[WW]at hh;have hh:=Qa hh;refine KU (X8 (UT UX (UT UX U0)) (X9 (by decide) jP)) (YU ?_);unfold Zr;dsimp only;rw[QE (by lia)];exact⟨rfl,rfl⟩
  case h3=>
   intro hh;rw[WW]at hh;have hh:=Ja hh;have hl:1<=cs.length/\cs.length<=7:=by lia
   have hs:=hs cs jP hl.2
   have ed:Zr n (.list cs)=(match fb (Zs n) 0 cs with
    |some k=>O ("lists", .int k)
    |none=>jQ):=by unfold Zr;dsimp only;rw[if_pos hl]
   refine KH (KB ?_);rw[ed];refine Rg (xs:=cs) (Zs n) (λZ=>∃x1 x2,Z=[pb (.list cs),pb (.int n),x1,x2]) (Xg (UT (UW jP) U0) Xe) ⟨_,_,rfl⟩ ?_ ?_
   .rintro x hx j Z hj ⟨x1,x2,rfl⟩
    refine⟨_,KE jP (Ka (U1 (Qa jP) jP) (Ka (U1 (Qa jP) jP) KF)),?_⟩;unfold L9;refine Kc (Zw (ZP (Kz (UT (UW jP) (UT (UW jP) U0)) jP (qU (n:=n) (hs x hx))))) (λz=>?_) λz=>?_
    .refine KU (X8 (UT UX (UT (UW jP) U0)) (X9 (by decide) (Nq (by lia)))) (Oj (by simpa using z) λe=>?_)
     rw[e];exact⟨rfl,rfl⟩
    .exact KH (Sq (by simpa using z) ⟨_,_,rfl⟩)
   .intro e Z _
    rw[e];rfl
 |dict kvs=>exact Kc (b:=jR) (Zn (YX (UW jP))) (λ_=>KU (X8 (UT UX (UT UX U0)) (X9 (by decide) jP)) (YU ⟨rfl,rfl⟩)) (λz=>by cases z)
 |_=>exact Kc (b:=jR) (Zn (KQ (UW jP) jP)) (λ_=>KU (X8 (UT UX (UT UX U0)) (X9 (by decide) jP)) (YU ⟨rfl,rfl⟩)) (λz=>by cases z)
def ZC(d:D):Prop:=∀c ls,d=.tuple [c,.list ls]->ls.length<=7->∀x∈ls,Wv x
theorem WV(c l:D):KM (.tuple [c,l])=(match K6 c with
  |some x=>O x
  |none=>(match c with | .list cs=>Zr cs.length l|_=>jQ)):=by
 unfold KM K6 Zr;cases c with
 |list cs=>
  dsimp only;by_cases h:1<=cs.length/\cs.length<=6
  .rw[Qs h,Qs h]
   cases fb (Kx 8) 0 cs with
   |some k=>rfl
   |none=>cases l<;>rfl
  .rw[QE h,QE h]
 |_=>rfl
theorem EV{d:D}(hs:ZC d):Vn [d]=O (V1 (KM d)):=by
 refine XM (Z:=[pb d,jQ,jQ]) jP ?_;unfold Oc;apply Kn;have odd:∀{o:Out->Prop},Ho (Wa "NoWishes" (UU (UV (.str "wishes")) (UU (UV .none) (US)))) [O (.pub d),jQ,jQ] (λz=>z=.ex [O (.pub d),jQ,jQ] (exD "NoWishes" [.str "wishes", .none])):=KU (X8 (UT UX (UT UX U0)) (X9 (by decide) jP)) jP;cases d with
 |tuple xs=>
  by_cases hl:xs.length=2
  .obtain⟨c,l,rfl⟩:∃c l,xs=[c,l]:=by
    match xs,hl with
    |[c,l],_=>exact⟨c,l,rfl⟩
   apply Kc
   case h1=>exact KR (Z1:=[pb (.tuple [c,l]),jQ,jQ]) (KQ (UW jP) jP) (U9 (Zj jP jP) UX Tl)
   case h2=>intro hh;cases hh
   case h3=>
    intro _;refine KH (KB ?_);refine Ku (TU (UW jP) (KE jP (Ka (U1 (Qa jP) jP) (Ka (U1 (Qa jP) jP) KF)))) ?_;rw[WV];have hc:=EW c;cases z:K6 c with
    |some x=>obtain⟨p,n⟩:=x;rw[z]at hc;apply Kn;exact KU (YS (Yz (UT (UW jP) U0) jP hc)) (YU ⟨rfl,rfl⟩)
    |none=>
     rw[z]at hc
     obtain⟨cs,rfl⟩:∃cs,c=.list cs:=by
      unfold K6 at z;cases c with
      |list cs=>exact⟨cs,rfl⟩
      |_=>cases z
     refine Ku (Om (Yz (UT (UW jP) U0) jP hc) jP) ?_;have hL:=Fb (d:=l) (n:=cs.length) (λls e=>hs (.list cs) ls (by rw[e]));dsimp only;cases z2:Zr cs.length l with
     |some x=>obtain⟨p,n⟩:=x;rw[z2]at hL;exact KU (YS (Yz (UT (UW jP) (UT (Zj jP Zc) U0)) jP hL)) ⟨rfl,rfl⟩
     |none=>rw[z2]at hL;exact KU (Om (Yz (UT (UW jP) (UT (Zj jP Zc) U0)) jP hL) jP) jP
  .have hd:KM (.tuple xs)=O (("wishes" : Str),(.none:D)):=by
    unfold KM;split
    .rename_i h;cases h;exact absurd jP hl
    .rfl
   apply Kc
   case h1=>exact KR (Z1:=[pb (.tuple xs),jQ,jQ]) (KQ (UW jP) jP) (U9 (Zj jP Vj) UX Tl)
   case h2=>intro _;refine SZ (odd (o:=λ_=>True)) λo e=>?_;subst e;exact YU (by rw[hd];exact⟨rfl,rfl⟩)
   case h3=>
    intro hh;have:(xs.length:Int)=2:=by simpa using hh
    lia
 |dict kvs=>exact Kc (b:=jR) (Zn (YX (UW jP))) (λ_=>SZ (odd (o:=λ_=>True)) λo e=>by subst e;exact YU ⟨rfl,rfl⟩) (λz=>by cases z)
 |_=>exact Kc (b:=jR) (Zn (KQ (UW jP) jP)) (λ_=>SZ (odd (o:=λ_=>True)) λo e=>by subst e;exact YU ⟨rfl,rfl⟩) (λz=>by cases z)
mutual
noncomputable def wB(n:Nat):D->Bool
 |.list xs=>decide (xs.length<=n)&&wBs n xs
 |.tuple xs=>decide (xs.length<=n)&&wBs n xs
 |_=>jR
noncomputable def wBs(n:Nat):jT->Bool
 |[]=>jR
 |x::r=>wB n x&&wBs n r
end
theorem Pe{n:Nat}:∀{xs:jT},wBs n xs=jR ↔ ∀x∈xs,wB n x=jR
 |[]=>by simp[wBs]
 |x::r=>by rw[wBs,Bool.and_eq_true,Pe (xs:=r)];simp
theorem Xf{n:Nat}{xs:jT}:wB n (.list xs)=jR ↔ xs.length<=n/\∀x∈xs,wB n x=jR:=by rw[wB,Qr,Q5,Pe]
theorem SR{n:Nat}{xs:jT}:wB n (.tuple xs)=jR ↔ xs.length<=n/\∀x∈xs,wB n x=jR:=by rw[wB,Qr,Q5,Pe]
mutual
theorem SV{n m:Nat}(h:n<=m):∀(d:D),wB n d=jR->wB m d=jR
 |.list xs,e=>by rw[wB,Qr,Q5]at e⊢;exact⟨Qz e.1 h,wBs_mono h xs e.2⟩
 |.tuple xs,e=>by rw[wB,Qr,Q5]at e⊢;exact⟨Qz e.1 h,wBs_mono h xs e.2⟩
 |.none,_=>rfl
 |.bool _,_=>rfl
 |.int _,_=>rfl
 |.str _,_=>rfl
 |.dict _,_=>rfl
theorem wBs_mono{n m:Nat}(h:n<=m):∀(xs:jT),wBs n xs=jR->wBs m xs=jR
 |[],_=>rfl
 |x::r,e=>by rw[wBs,Qr]at e⊢;exact⟨SV h x e.1,wBs_mono h r e.2⟩
end
theorem EU{d:D}(h:wB 700 d=jR):ZC d:=λc ls e _ x hx rs e2 xs hxs=>by subst e;have h1:=(SR.mp h).2 (.list ls) (by simp);have h2:=(Xf.mp h1).2 x hx;subst e2;exact(Xf.mp ((Xf.mp h2).2 _ hxs)).1
theorem BP{cs:jU}{ls:L3}(g:Good cs ls):wB 7 (.list (cs.map int))=jR/\wB 7 (.list (ls.map Ky))=jR:=by
 constructor
 .refine Xf.mpr ⟨by rw[Qd];have:=g.c6;lia,λx hx=>?_⟩
  obtain⟨i,_,rfl⟩:=QG.mp hx;rfl
 .refine Xf.mpr ⟨by rw[Qd];exact g.l7,λx hx=>?_⟩
  obtain⟨rs,hrs,rfl⟩:=QG.mp hx;have gr:=g.rk rs hrs;refine Xf.mpr ⟨by rw[Qd];have:=gr.few;lia,λy hy=>?_⟩;obtain⟨r,hr,rfl⟩:=QG.mp hy;have h1:r.length<=rs.flatten.length:=List.Sublist.length_le (List.sublist_flatten_of_mem hr);have h2:=Sb gr;have:=g.c6;refine Xf.mpr ⟨by rw[Qd];lia,λz hz=>?_⟩;obtain⟨i,_,rfl⟩:=QG.mp hz;rfl
theorem SU:∀(xs:jT),xs.length<=PyData.bulkAll xs
 |[]=>Ug _
 |x::r=>by have:=SU r;simp only[PyData.bulkAll,QB];omega
theorem qm{d:D}{m:Int}(h:d∈ZE 0 m):∃i:Int,(0<=i/\i<m)/\d=.int i:=by
 obtain⟨j,hj,e⟩:=JV h;have h2:(ZE 0 m)[j]?=O d:=by rw[Qh hj,e]
 obtain⟨h3,h4⟩:=Rl h2;exact⟨0+(j:Int),⟨by omega,by omega⟩,h3⟩
theorem ET{d:D}(h1:d.canLay0=jR)(h2:d.depth<=60):oEq d d=O jR:=by unfold oEq;rw[Qs ⟨h1,h1,h2⟩,Pq _ h1]
theorem Rv{i:Int}:oNe (.int i) (.int i)=O jS:=Pi jP (by simp[UI])
theorem qT(i:Int):XG [.int i]=O (.bool jR):=by refine Zv (Z:=[pb (.int i)]) jP ?_;unfold VP;exact Ke (YA (K3 (k:=λd=>UE (Kh d "int")) (UW jP)) (λ_=>Ra (K3 (k:=λd=>UE (Kh d "bool")) (UW jP)))) jP
theorem T4{zs:jU}{k:Nat}{v:Int}(h:zs[k]?=O v):oIx (.list (zs.map int)) (.int k)=O (.int v):=YY (by rw[Qi,h];rfl)
theorem Fa{zs:jU}{k:Int}(h0:0<=k)(h1:k<zs.length):∃v∈zs,oIx (.list (zs.map int)) (.int k)=O (.int v):=by
 obtain⟨n,rfl⟩:∃n:Nat,k=n:=⟨k.toNat,by lia⟩
 have hl:n<zs.length:=by lia
 exact⟨zs[n],JJ hl,T4 (Qh hl)⟩
theorem BO(l:jU):(l.map int).all flat=jR:=by rw[QM];intro x hx;obtain⟨y,_,rfl⟩:=QG.mp hx;rfl
theorem ES{ns:jU}{k:Int}(h0:0<=k)(h1:k<ns.length):oIx (.list (ns.map int)) (.int k)=O (.int (ns.getD k.toNat 0)):=by
 obtain⟨j,rfl⟩:∃j:Nat,k=j:=⟨k.toNat,by lia⟩
 rw[QY];exact R3 (by lia)
mutual
noncomputable def hW:D->Bool
 |.none | .bool _=>jR
 |.int i=>decide (i.natAbs<10 ^ 70)
 |.str z=>UG z&&decide (z.length<=20)
 |.list xs | .tuple xs=>hWs xs
 |.dict kvs=>hWk kvs
noncomputable def hWs:jT->Bool
 |[]=>jR
 |x::xs=>hW x&&hWs xs
noncomputable def hWk:List (D×D)->Bool
 |[]=>jR
 |(.str z,v)::r=>UG z&&(decide (z.length<=20)&&(hW v&&hWk r))
 |(.int i,v)::r=>decide (i.natAbs<10 ^ 70)&&(hW v&&hWk r)
 |_::_=>jS
end
theorem Pd:∀{xs:jT},hWs xs=jR ↔ ∀x∈xs,hW x=jR
 |[]=>by simp[hWs]
 |x::r=>by rw[hWs,Bool.and_eq_true,Pd (xs:=r)];simp
theorem ql{i:Int}(h:i.natAbs<10 ^ 70):i.natAbs.log2<1920:=by
 by_cases z:i.natAbs=0
 .rw[z];decide
 .have:=(Nat.log2_lt z).mpr (show i.natAbs<2 ^ 240 by
                              have:(10:Nat) ^ 70<2 ^ 240:=by decide +kernel
                              lia)
  lia
theorem Mz{z:Str}(h1:UG z=jR)(h2:z.length<=20):(UF z).leavesShort 80=jR:=by
 simp only[PyData.leavesShort,QM,Q5];intro c hc;unfold UG at h1;rw[←Array.all_toList,QM]at h1;have:=h1 c hc;simp only[Q5]at this
 lia
mutual
theorem TN:∀{d:D},hW d=jR->K5 d=jR/\d.showable=jR/\d.leavesShort 80=jR
 |.none,_=>⟨rfl,rfl,rfl⟩
 |.bool _,_=>⟨rfl,rfl,rfl⟩
 |.int i,h=>by
  have h:i.natAbs<10 ^ 70:=Qa (by simpa only[hW]using h);refine⟨rfl,?_,?_⟩
  .simp only[PyData.showable,Q5]
   exact ql h
  .simp only[PyData.leavesShort,Q5]
   show(UL (toString i)).length<=80
   rw[PySem.ofString_length];have:=PySem.int_text_length_le10 (a:=i) (k:=70) (by decide) h
   lia
 |.str z,h=>by
  have h:UG z=jR/\z.length<=20:=by simpa[hW]using h
  exact⟨by simpa[K5]using h.1,rfl,Mz h.1 h.2⟩
 |.list xs,h=>by obtain⟨a,b,c⟩:=hWs_all (xs:=xs) (by simpa[hW]using h);exact⟨by simpa[K5]using a,by simpa[PyData.showable]using b,by simpa[PyData.leavesShort]using c⟩
 |.tuple xs,h=>by obtain⟨a,b,c⟩:=hWs_all (xs:=xs) (by simpa[hW]using h);exact⟨by simpa[K5]using a,by simpa[PyData.showable]using b,by simpa[PyData.leavesShort]using c⟩
 |.dict kvs,h=>by obtain⟨a,b,c⟩:=hWk_all (kvs:=kvs) (by simpa[hW]using h);exact⟨by simpa[K5]using a,by simpa[PyData.showable]using b,by simpa[PyData.leavesShort]using c⟩
theorem hWs_all:∀{xs:jT},hWs xs=jR->Xm xs=jR/\PyData.showableAll xs=jR/\PyData.leavesShortAll 80 xs=jR
 |[],_=>⟨rfl,rfl,rfl⟩
 |x::r,h=>by rw[hWs,Qr]at h;obtain⟨a,b,c⟩:=TN h.1;obtain⟨a',b',c'⟩:=hWs_all h.2;exact⟨by rw[Xm,a,a'];rfl,by rw[PyData.showableAll,b,b'];rfl,by rw[PyData.leavesShortAll,c,c'];rfl⟩
theorem hWk_all:∀{kvs:List (D×D)},hWk kvs=jR->layKv kvs=jR/\PyData.showableKv kvs=jR/\PyData.leavesShortKv 80 kvs=jR
 |[],_=>⟨rfl,rfl,rfl⟩
 |(.str z,v)::r,h=>by
  rw[hWk,Qr,Qr,Qr]at h;obtain⟨h1,h2,h3,h4⟩:=h;have h2:=Qa h2;obtain⟨a,b,c⟩:=TN h3;obtain⟨a',b',c'⟩:=hWk_all h4;refine⟨?_,?_,?_⟩
  .rw[layKv,a,a'];simp[Y3,h1]
  .rw[PyData.showableKv,b,b'];rfl
  .rw[PyData.leavesShortKv,Mz h1 h2,c,c'];rfl
 |(.none,v)::r,h=>by simp[hWk]at h
 |(.bool _,v)::r,h=>by simp[hWk]at h
 |(.int i,v)::r,h=>by
  rw[hWk,Qr,Qr]at h;obtain⟨h1,h3,h4⟩:=h;have hk:=TN (d:=.int i) (by rw[hW];exact h1);obtain⟨a,b,c⟩:=TN h3;obtain⟨a',b',c'⟩:=hWk_all h4;refine⟨?_,?_,?_⟩
  .rw[layKv,a,a'];rfl
  .rw[PyData.showableKv,hk.2.1,b,b'];rfl
  .rw[PyData.leavesShortKv,hk.2.2,c,c'];rfl
 |(.list _,v)::r,h=>by simp[hWk]at h
 |(.tuple _,v)::r,h=>by simp[hWk]at h
 |(.dict _,v)::r,h=>by simp[hWk]at h
end
def Sh(k n:Nat)(d:D):Prop:=hW d=jR/\d.depth<=k/\d.bulk<=n
theorem Sh.mono{k m n p:Nat}{d:D}(h:Sh k n d)(h1:k<=m)(h2:n<=p):Sh m p d:=⟨h.1,Qz h.2.1 h1,Qz h.2.2 h2⟩
theorem Ce{d:D}{k n:Nat}(h:Sh k n d)(hk:k<=50)(hn:n<=10000):Vb [d]=O (.str d.shown):=by
 obtain⟨a,b,c⟩:=TN h.1;refine BF ⟨a,b,Qz h.2.1 hk,?_⟩;have:=PyData.shown_le_bulk 80 (by decide) d c;have:=h.2.2
 lia
theorem Pt{k:Nat}:∀{xs:jT},(∀x∈xs,x.depth<=k)->PyData.depthAll xs<=k
 |[],_=>by simp[PyData.depthAll]
 |x::r,h=>by
  have h1:=h x Qo;have h2:=Pt (xs:=r) λy hy=>h y (Qp _ hy);simp only[PyData.depthAll]
  lia
theorem Pk{n:Nat}:∀{xs:jT},(∀x∈xs,x.bulk<=n)->PyData.bulkAll xs<=xs.length*(n+1)
 |[],_=>by simp[PyData.bulkAll]
 |x::r,h=>by
  have h1:=h x Qo;have h2:=Pk (xs:=r) λy hy=>h y (Qp _ hy);simp only[PyData.bulkAll,QB,Nat.succ_mul]
  lia
theorem RX{k n m:Nat}{xs:jT}(h:∀x∈xs,Sh k n x)(hl:xs.length<=m):Sh (k+1) (m*(n+1)) (.list xs):=by
 refine⟨by simpa[hW]using Pd.mpr λx hx=>(h x hx).1,?_,?_⟩
 .have:=Pt λx hx=>(h x hx).2.1
  simp only[UI]
  lia
 .have h1:=Pk λx hx=>(h x hx).2.2
  have h2:xs.length*(n+1)<=m*(n+1):=Nat.mul_le_mul_right _ hl;simp only[PyData.bulk]
  lia
theorem TM{k n m:Nat}{xs:jT}(h:∀x∈xs,Sh k n x)(hl:xs.length<=m):Sh (k+1) (m*(n+1)) (.tuple xs):=by
 refine⟨by simpa[hW]using Pd.mpr λx hx=>(h x hx).1,?_,?_⟩
 .have:=Pt λx hx=>(h x hx).2.1
  simp only[UI]
  lia
 .have h1:=Pk λx hx=>(h x hx).2.2
  have h2:xs.length*(n+1)<=m*(n+1):=Nat.mul_le_mul_right _ hl;simp only[PyData.bulk]
  lia
theorem W5{k n:Nat}{i:Int}(h:i.natAbs<10 ^ 70):Sh k n (.int i):=⟨by simpa only[hW]using Qw h,by simp[UI],by simp[PyData.bulk]⟩
theorem O4{k n:Nat}:Sh k n .none:=⟨rfl,by simp[UI],by simp[PyData.bulk]⟩
theorem Np{k n:Nat}{b:Bool}:Sh k n (.bool b):=⟨rfl,by simp[UI],by simp[PyData.bulk]⟩
theorem O3{k n:Nat}{z:Str}(h:UG z=jR)(h2:z.length<=20)(h3:z.length<=n):Sh k n (.str z):=⟨by simp[hW,h,h2],by simp[UI],h3⟩
theorem RW{p:D->Bool}:∀{xs:jT}{k:Nat},(∀x∈xs,p x=jR)->fb p k xs=jQ
 |[],_,_=>rfl
 |x::r,k,h=>by unfold fb;rw[Qs (h x Qo)];exact RW λy hy=>h y (Qp _ hy)
theorem ER(rs:List jU):flI (rs.map Kv)=rs.flatten:=by
 unfold flI;induction rs with
 |nil=>rfl
 |cons r t ih=>
  rw[QA,List.flatMap_cons,ih,QJ]
  congr 1
  show(r.map int).filterMap whI=r
  rw[List.filterMap_map];show r.filterMap (λi=>O i)=r;simp
theorem BN{n:Nat}{rs:List jU}(g:WY n rs):Zs n (Ky rs)=jR:=by
 show Zs n (.list (rs.map Kv))=jR;rw[Wb,ER,Qw g.once,Qd,Qw g.few];simp only[JU,Bool.and_true,QM];intro x hx;obtain⟨r,hr,rfl⟩:=QG.mp hx;have hn:=g.some r hr;have ht:=g.there r hr;cases r with
 |nil=>exact absurd jP hn
 |cons i q=>
  show((int i::q.map int).all (Kx n))=jR
  rw[QM];intro y hy;have hy:y∈(i::q).map int:=hy;obtain⟨z,hz,rfl⟩:=QG.mp hy;have:=ht z hz
  show(decide (0<=z)&&decide (z<(n:Int)))=jR
  rw[Qw this.1,Qw this.2];rfl
theorem BM{cs:jU}{ls:L3}(g:Good cs ls):KM (Ks cs ls)=jQ:=by
 show KM (.tuple [.list (cs.map int),.list (ls.map Ky)])=jQ;rw[WV];have c1:=g.c1;have c6:=g.c6;have l1:=g.l1;have l7:=g.l7
 have e1:K6 (.list (cs.map int))=jQ:=by
  unfold K6;dsimp only;rw[Qs (by rw[Qd];lia),RW];intro x hx;obtain⟨i,hi,rfl⟩:=QG.mp hx;have:=g.c7 i hi
  show(decide (0<=i)&&decide (i<8))=jR
  rw[Qw this.1,Qw this.2];rfl
 rw[e1];dsimp only;unfold Zr;dsimp only;rw[Qs (by rw[Qd];lia),RW];intro x hx;obtain⟨rs,hrs,rfl⟩:=QG.mp hx;rw[Qd];exact BN (g.rk rs hrs)
theorem PF(d:D)(n:Int):Ye [d,.int n]=O (.bool (Kx n d)):=by
 refine Zv (Z:=[pb d,pb (.int n)]) jP ?_;unfold VH;cases d with
 |int i=>exact Ke (YA (t:=jR) (u:=decide (0<=i)&&decide (i<n)) (Th (UW jP) jP) λ_=>YA (t:=jR) (u:=decide (0<=i)&&decide (i<n)) (Ra (t:=jS) (Th (UW jP) jP)) λ_=>YA (K3 (U9 UX (UW jP) jP)) λ_=>K3 (KP jP (UW jP) jP)) jP
 |bool b=>exact Ke (YA (t:=jR) (u:=jS) (Th (UW jP) jP) λ_=>YA (t:=jS) (u:=jS) (Ra (t:=jR) (Th (UW jP) jP)) λz=>by cases z) jP
 |dict kvs=>exact Ke (YA (t:=jS) (u:=jS) (RO (UW jP)) λz=>by cases z) jP
 |_=>exact Ke (YA (t:=jS) (u:=jS) (Th (UW jP) jP) λz=>by cases z) jP
theorem ixS{xs:jT}{n:Nat}{i:Int}(h0:0<=i)(h1:i<n)(hl:xs.length=n):∃x∈xs,oIx (.list xs) (.int i)=O x:=by
 obtain⟨k,rfl⟩:∃k:Nat,i=k:=⟨i.toNat,by lia⟩
 have hk:k<xs.length:=by lia
 exact⟨xs[k],JJ hk,YY (Qh hk)⟩
noncomputable def fauD(o:Option (Str×D)):D:=match o with
 |none=>.list []
 |some (p,n)=>.list [.str p,n]
theorem Lf{a c:D}{n:Int}:∀(xs:jT)(ss:jU)(x4:Option Sl),ss.Nodup->ss.length+xs.length<=100000 ->
  ((xs.all (Kx n)&&decide (ss++xs.filterMap whI).Nodup)=jR/\∃y,Zh (gN 4) YC xs [pb a,pb (.int n),O (.own (ss.map int)),pb c,x4]=.nx [pb a,pb (.int n),O (.own ((ss++xs.filterMap whI).map int)),pb c,y]) ∨
  ((xs.all (Kx n)&&decide (ss++xs.filterMap whI).Nodup)=jS/\Zh (gN 4) YC xs [pb a,pb (.int n),O (.own (ss.map int)),pb c,x4]=.rt (.bool jS))
 |[],ss,x4,hn,_=>.inl ⟨by simp[hn],x4,by rw[Zh];simp⟩
 |x::r,ss,x4,hn,hl=>by
  rw[QB]at hl;have h1:gN 4 x [pb a,pb (.int n),O (.own (ss.map int)),pb c,x4]=O [pb a,pb (.int n),O (.own (ss.map int)),pb c,pb x]:=U1 (Qa jP) jP;have bad:Kx n x=jS->YC [pb a,pb (.int n),O (.own (ss.map int)),pb c,pb x]=.rt (.bool jS)->Zh (gN 4) YC (x::r) [pb a,pb (.int n),O (.own (ss.map int)),pb c,x4]=.rt (.bool jS):=λ_ e=>by rw[Zh,h1];dsimp only;rw[e]
  cases hb:Kx n x with
  |false=>
   refine .inr ⟨by rw[Jh,hb];rfl,bad hb ?_⟩
   have:Ho YC [pb a,pb (.int n),O (.own (ss.map int)),pb c,pb x] (λo=>o=.rt (.bool jS)):=by
    unfold YC;apply Kn;have hww:Ye [x,.int n]=O (.bool jS):=by rw[PF,hb]
    exact Kc (b:=jR) (Zn (Zw (ZP (t:=jS) (Kz (UT (UW jP) (UT (UW jP) U0)) jP hww)))) (λ_=>Ke UX (KN jP)) λz=>by cases z
   exact this.out
  |true=>
   obtain⟨i,rfl,h0,h1'⟩:=Pl hb;have ew:(int i::r).filterMap whI=i::r.filterMap whI:=rfl;rw[ew];have hww:Ye [.int i,.int n]=O (.bool jR):=by rw[PF,hb]
   have test:mOr (Kf (K0 (U8 2 Ye (UU (UQ 4) (UU (UQ 1) (US)))))) (V4 oIn (UQ 4) 2) [pb a,pb (.int n),O (.own (ss.map int)),pb c,pb (.int i)]=.ok (ss.contains i) [pb a,pb (.int n),O (.own (ss.map int)),pb c,pb (.int i)]:=
    KR (Zw (ZP (t:=jR) (Kz (UT (UW jP) (UT (UW jP) U0)) jP hww))) (Bx (UW jP) jP (Pj i ss))
   cases hc:ss.contains i with
   |true=>
    rw[hc]at test;have hm:i∈ss:=by simpa using hc
    refine .inr ⟨?_,?_⟩
    .rw[Qt,J4]
     intro z;rw[List.nodup_append]at z;exact z.2.2 i hm i Qo jP
    .have:Ho YC [pb a,pb (.int n),O (.own (ss.map int)),pb c,pb (.int i)] (λo=>o=.rt (.bool jS)):=by
      unfold YC;apply Kn;exact Kc test (λ_=>Ke UX (KN jP)) λz=>by cases z
     rw[Zh,h1];dsimp only;rw[this.out]
   |false=>
    rw[hc]at test;have hm:¬i∈ss:=by simpa using hc
    have hn':(ss++[i]).Nodup:=by rw[List.nodup_append];exact⟨hn,by simp,λx hx y hy=>by rw[List.mem_singleton]at hy;subst hy;exact λe=>hm (e ▸ hx)⟩
    have:Ho YC [pb a,pb (.int n),O (.own (ss.map int)),pb c,pb (.int i)] (λo=>o=.nx [pb a,pb (.int n),O (.own ((ss++[i]).map int)),pb c,pb (.int i)]):=by
     unfold YC;apply Kn;refine Kc test (λz=>by cases z) λ_=>KH (KB ?_)
     exact KU (Vc jP (UW jP) jP (by rw[Qd];lia) (by rw[QX];rfl)) jP
    have st:Zh (gN 4) YC (.int i::r) [pb a,pb (.int n),O (.own (ss.map int)),pb c,x4]=Zh (gN 4) YC r [pb a,pb (.int n),O (.own ((ss++[i]).map int)),pb c,pb (.int i)]:=by rw[Zh,h1];dsimp only;rw[this.out]
    have ea:ss++i::r.filterMap whI=(ss++[i])++r.filterMap whI:=by rw[Q8];rfl
    rw[st,ea,Jh,hb,JU];exact Lf r (ss++[i]) _ hn' (by rw[Qk,Q2];lia)
theorem Le{a:D}{n:Int}:∀(rs:jT)(ss:jU)(x3 x4:Option Sl),(∀xs,.list xs∈rs->xs.length<=700)->ss.Nodup->ss.length+700*rs.length<=100000 ->
  ((rs.all (rkB n)&&decide (ss++flI rs).Nodup)=jR/\∃y z,Zh (gN 3) Yr rs [pb a,pb (.int n),O (.own (ss.map int)),x3,x4]=.nx [pb a,pb (.int n),O (.own ((ss++flI rs).map int)),y,z]) ∨
  ((rs.all (rkB n)&&decide (ss++flI rs).Nodup)=jS/\Zh (gN 3) Yr rs [pb a,pb (.int n),O (.own (ss.map int)),x3,x4]=.rt (.bool jS))
 |[],ss,x3,x4,_,hn,_=>.inl ⟨by simp[flI,hn],x3,x4,by rw[Zh];simp[flI]⟩
 |x::r,ss,x3,x4,hs,hn,hl=>by
  rw[QB]at hl;have h1:gN 3 x [pb a,pb (.int n),O (.own (ss.map int)),x3,x4]=O [pb a,pb (.int n),O (.own (ss.map int)),pb x,x4]:=U1 (Qa jP) jP;have ef:flI (x::r)=itI x++flI r:=rfl
  have odd:∀(hx:rkB n x=jS)(hq:Ho Yr [pb a,pb (.int n),O (.own (ss.map int)),pb x,x4] (λo=>o=.rt (.bool jS))),((x::r).all (rkB n)&&decide (ss++flI (x::r)).Nodup)=jS/\Zh (gN 3) Yr (x::r) [pb a,pb (.int n),O (.own (ss.map int)),x3,x4]=.rt (.bool jS):=λhx hq=>
   ⟨by rw[List.all_cons,hx];rfl,by rw[Zh,h1];dsimp only;rw[hq.out]⟩
  cases x with
  |list xs=>
   have xY:=hs xs Qo;cases xs with
   |nil=>refine .inr (odd jP ?_);unfold Yr;apply Kn;exact Kc (b:=jR) (KR (KQ (UW jP) jP) (KP jP (Kt U0 (Qa jP)) Nj)) (λ_=>Ke UX (KN jP)) λz=>by cases z
   |cons x0 xr=>
    have enter:Yr [pb a,pb (.int n),O (.own (ss.map int)),pb (.list (x0::xr)),x4]=Zh (gN 4) YC (x0::xr) [pb a,pb (.int n),O (.own (ss.map int)),pb (.list (x0::xr)),x4]:=by
     have:Ho Yr [pb a,pb (.int n),O (.own (ss.map int)),pb (.list (x0::xr)),x4] (λo=>o=Zh (gN 4) YC (x0::xr) [pb a,pb (.int n),O (.own (ss.map int)),pb (.list (x0::xr)),x4]):=by
      unfold Yr;apply Kn;refine Kc (b:=jS) (KR (KQ (UW jP) jP) (KP jP (Kt U0 (Qa jP)) Nj)) (λz=>by cases z) λ_=>KH (KB ?_)
      constructor;unfold Kr sB
      have e:KZ (UQ 3) [pb a,pb (.int n),O (.own (ss.map int)),pb (.list (x0::xr)),x4]=.ok (x0::xr) [pb a,pb (.int n),O (.own (ss.map int)),pb (.list (x0::xr)),x4]:=ZO (UW jP) jP;rw[e]
     exact this.out
    have er:rkB n (.list (x0::xr))=(x0::xr).all (Kx n):=rfl;have ei:itI (.list (x0::xr))=(x0::xr).filterMap whI:=rfl;rcases Lf (a:=a) (c:=.list (x0::xr)) (n:=n) (x0::xr) ss x4 hn (by lia)with ⟨e,y,h⟩|⟨e,h⟩
    .rw[Qr]at e
     have hn2:=Qa e.2;have st:Zh (gN 3) Yr (.list (x0::xr)::r) [pb a,pb (.int n),O (.own (ss.map int)),x3,x4]=Zh (gN 3) Yr r [pb a,pb (.int n),O (.own ((ss++(x0::xr).filterMap whI).map int)),pb (.list (x0::xr)),y]:=by rw[Zh,h1];dsimp only;rw[enter,h]
     have hlf:((x0::xr).filterMap whI).length<=700:=Qz (List.length_filterMap_le _ _) xY;rw[st,Jh,er,e.1,JU,ef,ei,←Q8];exact Le r _ _ _ (λxs hx=>hs xs (Qp _ hx)) hn2 (by rw[Qk];lia)
    .refine .inr ⟨?_,by rw[Zh,h1];dsimp only;rw[enter,h]⟩
     rw[Jh,er,ef,ei];cases e1:(x0::xr).all (Kx n)with
     |false=>rfl
     |true=>rw[e1,JU]at e;have e:=Ja e;rw[JU,Qt,J4];intro z;rw[←Q8]at z;exact e (List.nodup_append.mp z).1
  |dict kvs=>refine .inr (odd jP ?_);unfold Yr;apply Kn;exact Kc (b:=jR) (Zn (YX (UW jP))) (λ_=>Ke UX (KN jP)) λz=>by cases z
  |_=>refine .inr (odd jP ?_);unfold Yr;apply Kn;exact Kc (b:=jR) (Zn (KQ (UW jP) jP)) (λ_=>Ke UX (KN jP)) λz=>by cases z
theorem qk{d:D}{n:Int}(hs:Wv d):Wy [d,.int n]=O (.bool (Zs n d)):=by
 refine Zv (Z:=[pb d,pb (.int n),jQ,jQ,jQ]) jP ?_;unfold VG;apply Kn;cases d with
 |list rs=>
  have hs:=hs rs jP;apply Kc (b:=decide ((5:Int)<rs.length))
  case h1=>exact KR (Z1:=[pb (.list rs),pb (.int n),jQ,jQ,jQ]) (KQ (UW jP) jP) (U9 (Zj jP Zc) UX jP)
  case h2=>
   intro hh;have:(5:Int)<(rs.length:Int):=by simpa using hh
   refine Ke UX (KN ?_);rw[Wb,Qt (by lia:¬rs.length<=5)];rfl
  case h3=>
   intro hh;have h5:¬(5:Int)<(rs.length:Int):=by simpa using hh
   refine KH (KB ?_);refine Ku (Yi (Xh U0 (Ug _)) (Qa jP) jP) ?_;apply Kn;constructor;rw[Wb,Qw (by lia:rs.length<=5),JU];have e:KZ (UQ 0) [pb (.list rs),pb (.int n),O (.own []),jQ,jQ]=.ok rs [pb (.list rs),pb (.int n),O (.own []),jQ,jQ]:=ZO (UW jP) jP;have e0:Kr (KZ (UQ 0)) (gN 3) Yr [pb (.list rs),pb (.int n),O (.own []),jQ,jQ]=Zh (gN 3) Yr rs [pb (.list rs),pb (.int n),O (.own (([]:jU).map int)),jQ,jQ]:=by unfold Kr sB;rw[e];rfl
   show W0 _ _ (Kr (KZ (UQ 0)) (gN 3) Yr [pb (.list rs),pb (.int n),O (.own []),jQ,jQ]);rw[e0];rcases Le (a:=.list rs) (n:=n) rs [] jQ jQ hs List.nodup_nil (by rw[QW];lia)with ⟨q,y,z,h⟩|⟨q,h⟩
   .rw[Jf]at q
    rw[h,q];exact KB (Ke UX jP)
   .rw[Jf]at q
    rw[h,q];exact KN jP
 |dict kvs=>exact Kc (b:=jR) (Zn (YX (UW jP))) (λ_=>Ke UX (KN jP)) (λz=>by cases z)
 |_=>exact Kc (b:=jR) (Zn (KQ (UW jP) jP)) (λ_=>Ke UX (KN jP)) (λz=>by cases z)
theorem BL{d:D}(hs:ZC d):Wx [d]=O (fauD (KM d)):=by
 refine Zv (Z:=[pb d,jQ,jQ,jQ,jQ,jQ]) jP ?_;unfold VF;apply Kn;cases d with
 |tuple xs=>
  by_cases hl:xs.length=2
  .obtain⟨c,l,rfl⟩:∃c l,xs=[c,l]:=by
    match xs,hl with
    |[c,l],_=>exact⟨c,l,rfl⟩
   apply Kc
   case h1=>exact KR (Z1:=[pb (.tuple [c,l]),jQ,jQ,jQ,jQ,jQ]) (KQ (UW jP) jP) (U9 (Zj jP jP) UX Tl)
   case h2=>intro hh;cases hh
   case h3=>
    intro _;refine KH (KB ?_);refine Ku (TU (UW jP) (KE jP (Ka (U1 (Qa jP) jP) (Ka (U1 (Qa jP) jP) KF)))) ?_;rw[WV];apply Kn;cases c with
    |list cs=>
     apply Kc
     case h1=>exact KR (KQ (UW jP) jP) (Zw (WS UX (Zj jP Zc) jP (λ_=>UX) (λ_=>rfl)))
     case h2=>
      intro hh;rw[WW]at hh;have hh:=Qa hh;refine Ke (Kt (UT UX (UT UX U0)) (Qa jP)) (KN ?_);have:K6 (.list cs)=O (("copies" : Str),(.none:D)):=by unfold K6;dsimp only;rw[if_neg (by lia)]
      rw[this];rfl
     case h3=>
      intro hh;rw[WW]at hh;have hh:=Ja hh;have hl:1<=cs.length/\cs.length<=6:=by lia
      have ed:K6 (.list cs)=(match fb (Kx 8) 0 cs with
       |some k=>O ("copies", .int k)
       |none=>jQ):=by unfold K6;dsimp only;rw[if_pos hl]
      refine KH (KB ?_);apply Kn;refine Rg (xs:=cs) (Kx 8) (λZ=>∃x3 x4,Z=[pb (.tuple [.list cs,l]),pb (.list cs),pb l,x3,x4,jQ]) (Xg (UT (UW jP) U0) Xe) ⟨_,_,rfl⟩ ?_ ?_
      .rintro x hx j Z hj ⟨x3,x4,rfl⟩
       refine⟨_,KE jP (Ka (U1 (Qa jP) jP) (Ka (U1 (Qa jP) jP) KF)),?_⟩;unfold Nd;refine Kc (Zw (ZP (Kz (UT (UW jP) (UT UX U0)) jP (PF x 8)))) (λz=>?_) λz=>?_
       .refine Ke (Kt (UT UX (UT (UW jP) U0)) (of_decide_eq_true jP)) (Ol (by simpa using z) λe=>KN ?_)
        rw[ed,e];rfl
       .exact KH (Sq (by simpa using z) ⟨_,_,rfl⟩)
      .rintro e Z ⟨x3,x4,rfl⟩
       rw[ed,e];dsimp only;refine KB ?_;apply Kn;cases l with
       |list ls=>
        apply Kc
        case h1=>exact KR (KQ (UW jP) jP) (Zw (WS UX (Zj jP Zc) jP (λ_=>UX) (λ_=>rfl)))
        case h2=>
         intro hh;rw[WW]at hh;have hh:=Qa hh;refine Ke (Kt (UT UX (UT UX U0)) (Qa jP)) (KN ?_);have:Zr cs.length (.list ls)=O (("lists" : Str),(.none:D)):=by unfold Zr;dsimp only;rw[if_neg (by lia)]
         rw[this];rfl
        case h3=>
         intro hh;rw[WW]at hh;have hh:=Ja hh;have hl2:1<=ls.length/\ls.length<=7:=by lia
         have vp:Zr cs.length (.list ls)=(match fb (Zs cs.length) 0 ls with
          |some k=>O ("lists", .int k)
          |none=>jQ):=by unfold Zr;dsimp only;rw[if_pos hl2]
         have hsx:=hs (.list cs) ls jP hl2.2;refine KH (KB ?_);apply Kn;refine Rg (xs:=ls) (Zs cs.length) (λZ=>∃x3 x5,Z=[pb (.tuple [.list cs,.list ls]),pb (.list cs),pb (.list ls),x3,x4,x5]) (Xg (UT (UW jP) U0) Xe) ⟨_,_,rfl⟩ ?_ ?_
         .rintro x hx j Z hj ⟨x3,x5,rfl⟩
          refine⟨_,KE jP (Ka (U1 (Qa jP) jP) (Ka (U1 (Qa jP) jP) KF)),?_⟩;unfold Nf;refine Kc (Zw (ZP (Kz (UT (UW jP) (UT (Zj jP Zc) U0)) jP (qk (n:=cs.length) (hsx x hx))))) (λz=>?_) λz=>?_
          .refine Ke (Kt (UT UX (UT (UW jP) U0)) (of_decide_eq_true jP)) (Ol (by simpa using z) λe=>KN ?_)
           rw[vp,e];rfl
          .exact KH (Sq (by simpa using z) ⟨_,_,rfl⟩)
         .rintro e Z ⟨x3,x5,rfl⟩
          refine KB (Ke (Kt U0 (Qa jP)) ?_);rw[vp,e];rfl
       |dict kvs=>exact Kc (b:=jR) (Zn (YX (UW jP))) (λ_=>Ke (Kt (UT UX (UT UX U0)) (Qa jP)) (KN jP)) (λz=>by cases z)
       |_=>exact Kc (b:=jR) (Zn (KQ (UW jP) jP)) (λ_=>Ke (Kt (UT UX (UT UX U0)) (Qa jP)) (KN jP)) (λz=>by cases z)
    |dict kvs=>exact Kc (b:=jR) (Zn (YX (UW jP))) (λ_=>Ke (Kt (UT UX (UT UX U0)) (Qa jP)) (KN jP)) (λz=>by cases z)
    |_=>exact Kc (b:=jR) (Zn (KQ (UW jP) jP)) (λ_=>Ke (Kt (UT UX (UT UX U0)) (Qa jP)) (KN jP)) (λz=>by cases z)
  .have hd:KM (.tuple xs)=O (("wishes" : Str),(.none:D)):=by
    unfold KM;split
    .rename_i h;cases h;exact absurd jP hl
    .rfl
   apply Kc
   case h1=>exact KR (Z1:=[pb (.tuple xs),jQ,jQ,jQ,jQ,jQ]) (KQ (UW jP) jP) (U9 (Zj jP Vj) UX Tl)
   case h2=>intro _;exact Ke (Kt (UT UX (UT UX U0)) (Qa jP)) (KN (by rw[hd];rfl))
   case h3=>
    intro hh;have:(xs.length:Int)=2:=by simpa using hh
    lia
 |dict kvs=>exact Kc (b:=jR) (Zn (YX (UW jP))) (λ_=>Ke (Kt (UT UX (UT UX U0)) (Qa jP)) (KN jP)) (λz=>by cases z)
 |_=>exact Kc (b:=jR) (Zn (KQ (UW jP) jP)) (λ_=>Ke (Kt (UT UX (UT UX U0)) (Qa jP)) (KN jP)) (λz=>by cases z)
theorem ZI{i:Nat}{k w:Int}{s t:SM}{Z:UR}{Q:Out->Prop}(h:Z[i]?=O (O (.pub (.int w))))(hne:w≠k)(ht:Ho t Z Q):Ho (UZ (sIf (Kq oEq i (UV (.int k))) s sNx) t) Z Q:=by apply Kn;exact Kc (b:=jS) (KP h UX (by rw[ZZ,Qt hne])) (λz=>by cases z) λ_=>KH (KB ht)
theorem Xs{i:Nat}{k w:Int}{s t u:SM}{Z:UR}{Q:Out->Prop}(h:Z[i]?=O (O (.pub (.int w))))(he:w=k)(hs:Ho s Z (W0 t Q)):Ho (UZ (sIf (Kq oEq i (UV (.int k))) s u) t) Z Q:=by apply Kn;exact Kc (b:=jR) (KP h UX (by rw[ZZ,Qw he])) (λ_=>hs) λz=>by cases z
theorem RD{p:D->Bool}{x:D}(hp:p x=jS):∀{xs:jT}{k:Nat},x∈xs->∃j,fb p k xs=O j
 |[],_,h=>by cases h
 |y::r,k,h=>by
  rw[fb];cases hy:p y with
  |false=>exact⟨k,QE (by decide)⟩
  |true=>
   rw[Qs rfl];rcases Qu.mp h with rfl|h
   .rw[hp]at hy;cases hy
   .exact RD hp h
section
variable{cs:jU}{ls:L3}
theorem Mo(g:Good cs ls):Sj [Ks cs ls]=O (Ks cs ls):=by
 have l7:=g.l7
 obtain⟨d,e,rfl⟩:=Gc (P:=λd=>d=Ks cs ls) (N:=Oa) (g:=Rw) (f:=Lw) (ds:=[Ks cs ls]) (Z:=[pb (Ks cs ls),jQ,jQ]) jP (by
  unfold Rw;refine Ku (Yi (Xh U0 (Qa jP)) (Qa jP) jP) ?_;apply Kn;apply Yx (λi Z=>∃x2,Z=[pb (Ks cs ls),O (.own ((ls.take i).map Ky)),x2])
  case h1=>exact ZO (KD jP UX Xa) Xp
  case h0=>exact⟨_,rfl⟩
  case hst=>
   rintro i d Z hi ⟨x2,rfl⟩;rw[Qi]at hi;cases hw:ls[i]? with
   |none=>rw[hw]at hi;cases hi
   |some rs=>
   rw[hw]at hi;cases hi;have hrs:rs.length<=5:=(g.rk rs (QH hw)).few;refine⟨_,U1 (Qa jP) jP,?_⟩;unfold LU
   have hc:∀x1:Option Sl,K7 (gN 3) (UV jR) (U3 UD (W8 3)) (rs.map Kv) (Kk [pb (Ks cs ls),x1,pb (Ky rs)]++UC 1 jQ) []=O (rs.map Kv):=λx1=>by
    refine WX (λZ=>∃a x,Z=[pb (Ks cs ls),a,pb (Ky rs),x]) _ _ _ _ jP ?_ ⟨_,jQ,rfl⟩ (by rw[Qd,QW];lia);rintro j d e hd he Z ⟨a,x,rfl⟩;rw[hd]at he;cases he;rw[Qi]at hd;cases hwj:rs[j]? with
    |none=>rw[hwj]at hd;cases hd
    |some r=>
    rw[hwj]at hd;cases hd;exact⟨_,U1 (Qa jP) jP,rfl,K3 (Mb jP (show XN [Kv r]=O (r.map int)from rfl)),_,_,rfl⟩
   refine KU (Vc jP (K3 (Ys (ZO (UW jP) Xp) (hc _))) jP (by rw[Qd,JG];lia) jP) ?_;refine Z7 ⟨O (.pub (Ky rs)),?_⟩;rw[List.take_succ,hw,QX];rfl
  case hend=>rintro Z ⟨x2,rfl⟩;rw[Qd,List.take_length];exact KB (KH ⟨_,rfl,_,_,Cu (KG (UT (KD rfl UX X0) U0) (Zx (show XN [.list (cs.map int)]=O (cs.map int)from rfl))) rfl,rfl⟩))
 exact e
theorem Ps(g:Good cs ls):K6 (.list (cs.map int))=jQ:=by
 have h:=BM g;unfold Ks at h;rw[WV]at h;cases hc:K6 (.list (cs.map int))with
 |none=>rfl
 |some x=>rw[hc]at h;cases h
theorem BK(g:Good cs ls){xs:jT}{x:D}(hx:x∈xs)(hb:Zs cs.length x=jS):∃p n,KM (.tuple [.list (cs.map int),.list xs])=O (p,n):=by
 rw[WV,Ps g];dsimp only;unfold Zr;dsimp only;split
 .obtain⟨j,e⟩:=RD (p:=Zs ((cs.map int).length:Int)) (x:=x) (by rw[Qd];exact hb) (k:=0) hx
  rw[e];exact⟨_,_,rfl⟩
 .exact⟨_,_,rfl⟩
theorem NF{α:Type}{xs:List α}{k:Nat}{x:α}(h:k<xs.length):x∈xs.set k x:=List.mem_iff_getElem?.mpr ⟨k,QL h⟩
theorem O2{n k:Nat}{xs:jT}{x:D}(h:wB n (.list xs)=jR)(hx:wB n x=jR):wB n (.list (xs.set k x))=jR:=by
 obtain⟨h1,h2⟩:=Xf.mp h;refine Xf.mpr ⟨by rw[Je];exact h1,λy hy=>?_⟩;rcases List.mem_or_eq_of_mem_set hy with hy|rfl
 .exact h2 y hy
 .exact hx
theorem TL{n:Nat}{x y:D}(h:wB n x=jR)(h2:wB n y=jR)(hn:2<=n):wB n (.tuple [x,y])=jR:=SR.mpr ⟨hn,λz hz=>by simp only[Qu,Jo,or_false]at hz;rcases hz with rfl|rfl<;>assumption⟩
theorem Cd(g:Good cs ls)(c s:Int):∃r,WD [Ks cs ls,.int c,.int s]=O r/\wB 14 r=jR/\∃p n,KM r=O (p,n):=by
 have l7:=g.l7;have l1:=g.l1;have c6:=g.c6;have c1:=g.c1;obtain⟨w1,w2⟩:=BP g;have w1:=SV (by decide:7<=14) _ w1;have w2:=SV (by decide:7<=14) _ w2;refine WQ (Z:=[pb (Ks cs ls),pb (.int c),pb (.int s),jQ,jQ,jQ,jQ,jQ,jQ]) jP ?_;unfold VQ;obtain⟨r,hF,dg,rfl,hdl,hdb⟩:=Tv c s (sizes:=[11,42,42]) (by decide) (by decide)
 match dg,hdl with
 |[a,b,d],_=>
 obtain⟨a0,a1⟩:=hdb 0 a 11 jP jP;obtain⟨b0,_⟩:=hdb 1 b 42 jP jP;obtain⟨d0,_⟩:=hdb 2 d 42 jP jP;have m0:0<=b % (cs.length:Int)/\b % (cs.length:Int)<cs.length:=⟨J6 _ (by lia),JR _ (by lia)⟩
 have k0:0<=d % (ls.length:Int)/\d % (ls.length:Int)<ls.length:=⟨J6 _ (by lia),JR _ (by lia)⟩
 generalize hm:b % (cs.length:Int)=m at m0;generalize hk:d % (ls.length:Int)=k at k0
 let P0:Option Sl:=O (.pub (Ks cs ls))
 let P1:Option Sl:=O (.pub (.int c))
 let P2:Option Sl:=O (.pub (.int s))
 let P3:Option Sl:=O (.pub (.list [.int a,.int b,.int d]))
 let C:jT:=cs.map int
 let L:jT:=ls.map Ky
 have hC:C.length=cs.length:=Qd _;have hL:L.length=ls.length:=Qd _;refine Ku (Z1:=[P0,P1,P2,P3,jQ,jQ,jQ,jQ,jQ]) (K2 (Kz (UT (UW jP) (UT (UW jP) (UT (Kt (UT UX (UT UX (UT UX U0))) (Qa jP)) U0))) jP hF) (Qa jP) jP) ?_;refine Ku (Z1:=[P0,P1,P2,P3,O (.own C),O (.own L),jQ,jQ,jQ]) (Cs (Kz (UT (UW jP) U0) jP (Mo g)) ⟨by decide,Qa jP,Qa jP⟩ jP) ?_;refine Ku (Z1:=[P0,P1,P2,P3,O (.own C),O (.own L),pb (.int a),jQ,jQ]) (K2 (KD jP UX jP) (Qa jP) jP) ?_;refine Ku (Z1:=[P0,P1,P2,P3,O (.own C),O (.own L),pb (.int a),pb (.int m),jQ]) (K2 (U9 (KD jP UX jP) (To jP) (by rw[hC,YQ (by lia),hm])) (Qa jP) jP) ?_;refine Ku (Z1:=[P0,P1,P2,P3,O (.own C),O (.own L),pb (.int a),pb (.int m),pb (.int k)]) (K2 (U9 (KD jP UX jP) (To jP) (by rw[hL,YQ (by lia),hk])) (Qa jP) jP) ?_;have wi:∀i:Int,wB 14 (.int i)=jR:=λ_=>rfl;have wt:∀i:Int,wB 14 (.list [.int i])=jR:=λ_=>by kernel_rfl
 have fin:∀{x:D},wB 14 (.list L)=jR->wB 14 x=jR->Zs cs.length x=jS->wB 14 (.tuple [.list C,.list (L.set k.toNat x)])=jR/\∃p n,KM (.tuple [.list C,.list (L.set k.toNat x)])=O (p,n):=λ{x} h1 h2 h3=>
  ⟨TL w1 (O2 h1 h2) (by decide),BK g (NF (by rw[hL];lia)) h3⟩
 have cases11:a=0∨a=1∨a=2∨a=3∨a=4∨a=5∨a=6∨a=7∨a=8∨a=9∨a=10:=by lia
 rcases cases11 with rfl|rfl|rfl|rfl|rfl|rfl|rfl|rfl|rfl|rfl|rfl
 .refine Xs jP jP (Ke (Kt (UT (Zd jP jP) (UT (Zd jP jP) U0)) (Qa jP)) (KN ⟨_,rfl,Xf.mpr ⟨Qa jP,λz hz=>?_⟩,_,_,rfl⟩))
  simp only[Qu,Jo,or_false]at hz;rcases hz with rfl|rfl<;>assumption
 .refine ZI jP (by decide) (Xs jP jP (Ke (ZS (UT (Zd jP jP) (UT (Zd jP jP) (UT (Kt U0 (Qa jP)) U0))) (Qa jP)) (KN ⟨_,rfl,SR.mpr ⟨Qa jP,λz hz=>?_⟩,_,_,rfl⟩)))
  simp only[Qu,Jo,or_false]at hz;rcases hz with rfl|rfl|rfl
  .exact w1
  .exact w2
  .rfl
 .let X:jT:=[.none,.str "wishes", .int 3,.list C,.tuple [.list [],.list []],.tuple [.list C]]
  obtain⟨x,xX,hx⟩:=ixS (xs:=X) (n:=6) (i:=b % 6) (J6 _ (by decide)) (JR _ (by decide)) jP;refine ZI jP (by decide) (ZI jP (by decide) (Xs jP jP (Ke (U9 (Kt (UT UX (UT UX (UT UX (UT (Zd jP jP) (UT (ZS (UT (Kt U0 (Qa jP)) (UT (Kt U0 (Qa jP)) U0)) (Qa jP)) (UT (ZS (UT (UW jP) U0) (Qa jP)) U0)))))) (Qa jP)) (U9 (KD jP UX jP) UX (YQ (by decide))) hx) (KN ⟨_,rfl,?_⟩))));simp only[X,Qu,Jo,or_false]at xX;rcases xX with rfl|rfl|rfl|rfl|rfl|rfl
  .exact⟨rfl,_,_,rfl⟩
  .exact⟨rfl,_,_,rfl⟩
  .exact⟨rfl,_,_,rfl⟩
  .exact⟨w1,_,_,rfl⟩
  .exact⟨by kernel_rfl,_,_,rfl⟩
  .exact⟨SR.mpr ⟨Qa jP,λz hz=>by rw[QN.mp hz];exact w1⟩,_,_,rfl⟩
 .let X:jT:=[.int (-1),.int 8,.bool jR,.none,.str "1", .int (10 ^ (40:Int).toNat)]
  obtain⟨x,xX,hx⟩:=ixS (xs:=X) (n:=6) (i:=d % 6) (J6 _ (by decide)) (JR _ (by decide)) jP
  have hxx:wB 14 x=jR/\Kx 8 x=jS:=by
   simp only[X,Qu,Jo,or_false]at xX;rcases xX with rfl|rfl|rfl|rfl|rfl|rfl
   all_goals first|exact⟨rfl,rfl⟩|exact⟨rfl,by kernel_rfl⟩
  refine ZI jP (by decide) (ZI jP (by decide) (ZI jP (by decide) (Xs jP jP (KU (T9 (U9 (Kt (UT (X5 UX) (UT UX (UT UX (UT UX (UT UX (UT (U9 UX UX (Tn (by decide))) U0)))))) (Qa jP)) (U9 (KD jP UX jP) UX (YQ (by decide))) hx) jP (UW jP) jP ⟨m0.1,by rw[hC];exact m0.2⟩ jP) (KB ?_)))))
  repeat (refine ZI jP (by decide) ?_)
  refine Ke (ZS (UT (Zd jP jP) (UT (Zd jP jP) U0)) (Qa jP)) ⟨_,rfl,TL (O2 w1 hxx.1) w2 (by decide),?_⟩;rw[WV]
  have:∃p n,K6 (.list (C.set m.toNat x))=O (p,n):=by
   unfold K6;dsimp only;split
   .obtain⟨j,e⟩:=RD (p:=Kx 8) (x:=x) hxx.2 (k:=0) (NF (xs:=C) (k:=m.toNat) (by rw[hC];lia))
    rw[e];exact⟨_,_,rfl⟩
   .exact⟨_,_,rfl⟩
  obtain⟨p,n,e⟩:=this;rw[e];exact⟨_,_,rfl⟩
 .repeat (refine ZI jP (by decide) ?_)
  refine Xs jP jP (KU (Yi (Xh U0 (Qa jP)) (Qa jP) jP) (KB ?_))
  repeat (refine ZI jP (by decide) ?_)
  exact Ke (ZS (UT (Zd jP jP) (UT (Zd jP jP) U0)) (Qa jP)) ⟨_,rfl,TL jP w2 (by decide),_,_,rfl⟩
 .repeat (refine ZI jP (by decide) ?_)
  refine Xs jP jP (KU (Yi (Xh U0 (Qa jP)) (Qa jP) jP) (KB ?_))
  repeat (refine ZI jP (by decide) ?_)
  refine Ke (ZS (UT (Zd jP jP) (UT (Zd jP jP) U0)) (Qa jP)) ⟨_,rfl,TL w1 jP (by decide),?_⟩;rw[WV,Ps g];exact⟨_,_,rfl⟩
 .repeat (refine ZI jP (by decide) ?_)
  refine Xs jP jP (KU (T9 (Kt (UT (Kt (UT (To jP) U0) (Qa jP)) U0) (Qa jP)) jP (UW jP) jP ⟨k0.1,by rw[hL];exact k0.2⟩ jP) (KB ?_))
  repeat (refine ZI jP (by decide) ?_)
  refine Ke (ZS (UT (Zd jP jP) (UT (Zd jP jP) U0)) (Qa jP)) ⟨_,rfl,fin w2 (by kernel_rfl) ?_⟩;rw[hC,Wb]
  have:rkB cs.length (.list [.int (cs.length:Int)])=jS:=by
   show([int (cs.length:Int)].all (Kx cs.length))=jS
   rw[Jh]
   have:Kx cs.length (.int (cs.length:Int))=jS:=by
    show(decide (0<=(cs.length:Int))&&decide ((cs.length:Int)<cs.length))=jS
    rw[Qt (by lia:¬(cs.length:Int)<cs.length),J4]
   rw[this];rfl
  rw[Jh,this];rfl
 .repeat (refine ZI jP (by decide) ?_)
  refine Xs jP jP (KU (T9 (Kt (UT (Kt (UT (UW jP) U0) (Qa jP)) (UT (Kt (UT (UW jP) U0) (Qa jP)) U0)) (Qa jP)) jP (UW jP) jP ⟨k0.1,by rw[hL];exact k0.2⟩ jP) (KB ?_))
  repeat (refine ZI jP (by decide) ?_)
  refine Ke (ZS (UT (Zd jP jP) (UT (Zd jP jP) U0)) (Qa jP)) ⟨_,rfl,fin w2 (by kernel_rfl) ?_⟩;rw[Wb];have:flI [.list [.int m],.list [.int m]]=[m,m]:=rfl;rw[this,decide_eq_false (p:=[m,m].Nodup) (by simp),Bool.and_false,Bool.and_false]
 .repeat (refine ZI jP (by decide) ?_)
  refine Xs jP jP (KU (T9 (Kt (UT (Kt (UT (UW jP) U0) (Qa jP)) (UT (Kt U0 (Qa jP)) U0)) (Qa jP)) jP (UW jP) jP ⟨k0.1,by rw[hL];exact k0.2⟩ jP) (KB ?_))
  repeat (refine ZI jP (by decide) ?_)
  refine Ke (ZS (UT (Zd jP jP) (UT (Zd jP jP) U0)) (Qa jP)) ⟨_,rfl,fin w2 (by kernel_rfl) ?_⟩;rw[Wb];have:([.list [.int m],.list []]:jT).all (rkB cs.length)=jS:=by rw[Jh,Jh,show rkB cs.length (.list [])=jS from rfl,Ua,J4]
  rw[this,Ua,J4]
 .repeat (refine ZI jP (by decide) ?_)
  refine Xs jP jP (KU (T9 (Kt (UT (ZS (UT (UW jP) U0) (Qa jP)) U0) (Qa jP)) jP (UW jP) jP ⟨k0.1,by rw[hL];exact k0.2⟩ jP) (KB ?_))
  repeat (refine ZI jP (by decide) ?_)
  exact Ke (ZS (UT (Zd jP jP) (UT (Zd jP jP) U0)) (Qa jP)) ⟨_,rfl,fin w2 (by kernel_rfl) jP⟩
 .repeat (refine ZI jP (by decide) ?_)
  have em:Kw (.list [.list []]) (.int 7)=O (.list (UC 7 (.list []))):=by kernel_rfl
  refine Xs jP jP (KU (K2 (U9 (Zd jP jP) (U9 (Kt (UT (Kt U0 (Qa jP)) U0) (Qa jP)) UX em) (YV (by rw[hL,QR];lia))) (Qa jP) jP) (KB ?_));refine Ke (ZS (UT (Zd jP jP) (UT (UW jP) U0)) (Qa jP)) ⟨_,rfl,TL w1 (Xf.mpr ⟨by rw[Qk,hL,QR];lia,λz hz=>?_⟩) (by decide),?_⟩
  .rcases Q0.mp hz with hz|hz
   .exact(Xf.mp w2).2 z hz
   .rw[(List.mem_replicate.mp hz).2];rfl
  .rw[WV,Ps g]
   dsimp only;unfold Zr;dsimp only;rw[QE (by rw[Qk,hL,QR];lia)];exact⟨_,_,rfl⟩
end
theorem Ld{d:D}{p:Str}{n:D}{g:SM}{Z:UR}(hs:ZC d)(h:KM d=O (p,n))(h0:Z[0]?=O (O (.pub d))):Ho (UZ (sX (ZH 1 Vn (UU (UQ 0) (US))) λ_ Z=>.nx Z) g) Z (OutX (.exc (exD "NoWishes" [.str p,n]))):=by have hx:=EV hs;rw[h]at hx;apply Kn;exact KU (YS (Yz (UT (UW h0) U0) jP hx)) (YU ⟨rfl,rfl⟩)
theorem CI{d:D}{p:Str}{n:D}(h:KM d=O (p,n)):PyData.canLay0 (.tuple [.str p,n])=jR/\UI (.tuple [.str p,n])<=60:=by
 have key:(p = "wishes" ∨ p = "copies" ∨ p = "lists")/\(n=.none ∨ ∃k:Nat,n=.int k):=by
  unfold KM at h;split at h
  .split at h
   .split at h
    .split at h
     .cases h;exact⟨.inr (.inl jP),.inr ⟨_,rfl⟩⟩
     .split at h
      .split at h
       .split at h
        .cases h;exact⟨.inr (.inr jP),.inr ⟨_,rfl⟩⟩
        .cases h
       .cases h;exact⟨.inr (.inr jP),.inl jP⟩
      .cases h;exact⟨.inr (.inr jP),.inl jP⟩
    .cases h;exact⟨.inr (.inl jP),.inl jP⟩
   .cases h;exact⟨.inr (.inl jP),.inl jP⟩
  .cases h;exact⟨.inl jP,.inl jP⟩
 obtain⟨rfl|rfl|rfl,rfl|⟨k,rfl⟩⟩:=key<;>exact⟨by kernel_rfl,by simp[UI,PyData.depthAll]⟩
section
variable{cs:jU}{ls:L3}
theorem NE{xs:jT}{a:Nat}:DL.cutD xs jQ (O (a:Int))=xs.take a:=by
 unfold DL.cutD HT.sIx;dsimp only;rw[QE (by omega),QY];by_cases h:a<=xs.length
 .rw[Nat.min_eq_left h];simp
 .rw[Nat.min_eq_right (by omega),List.take_of_length_le (i:=a) (by omega)];simp
theorem My{xs:jT}:DL.cutD xs (O 1) jQ=xs.drop 1:=by
 cases xs with
 |nil=>rfl
 |cons x r=>exact Mu (a:=1) (by simp)
noncomputable def ZY(r:Nat)(ls:L3):List jU:=ls.map λrs=>(rs.take r).flatten
theorem M8(g:Good cs ls)(r:Nat):Y8 [Ks cs ls,.int r]=O (.list ((ZY r ls).map Kv)):=by
 refine Zv (Z:=[pb (Ks cs ls),pb (.int r)]) jP ?_;unfold VO;have l7:=g.l7
 have hc:K7 (gN 2) (UV jR) (Za W1 (UU (KW (UQ 2) (UV jQ) (U5 (UQ 1) λx=>U2 (ZJ x))) (UU (U7 (US)) (US)))) (ls.map Ky) (Kk [pb (Ks cs ls),pb (.int r)]++UC 1 jQ) []=O ([]++(ZY r ls).map Kv):=by
  refine WX (λZ=>∃x,Z=[pb (Ks cs ls),pb (.int r),x]) _ _ _ _ ?_ ?_ ⟨jQ,rfl⟩ ?_
  .unfold ZY;rw[Qd,Qd,Qd]
  .rintro i d e hd he Z ⟨x,rfl⟩
   rw[Qi]at hd;obtain⟨rs,hrs,rfl⟩:=QT.mp hd;unfold ZY at he;rw[Qi,Qi,hrs]at he;cases he;have gr:=g.rk rs (QH hrs)
   have hfl:((rs.take r).map (List.map int)).flatten.length<=1000000:=by
    rw[←List.map_flatten,Qd];have h1:rs.flatten=(rs.take r).flatten++(rs.drop r).flatten:=by rw[←Ud,J7]
    have h2:=Uh List.length h1;rw[Qk]at h2;have h3:rs.flatten.length<=cs.length:=Sb gr;have:=g.c6;omega
   refine⟨_,U1 (Qa jP) jP,rfl,K4 (UT (Yw (UW jP) UX (Z8 (UW jP)) YB) (UT (Kt U0 (Qa jP)) U0)) ?_,⟨_,rfl⟩⟩;rw[NE,←List.map_take,show(rs.take r).map Kv=((rs.take r).map (List.map int)).map UD by rw[Jr];rfl,C8 hfl,←List.map_flatten];rfl
  .rw[Qd,QW];omega
 exact Ke (K3 (Ys (ZO (KD jP UX Xa) Xp) hc)) jP
structure Asc(n:Nat)(as:jU):Prop where
 up:as.Pairwise (· < ·)
 inn:∀a∈as,0<=a/\a<n
theorem Asc.sub{n:Nat}{as bs:jU}(h:Asc n as)(s:bs.Sublist as):Asc n bs:=⟨h.up.sublist s,λa ha=>h.inn a (s.subset ha)⟩
theorem Asc.cut{n k:Nat}{as:jU}(h:Asc n as):Asc n (as.take k++as.drop (k+1)):=h.sub (by rw[←List.eraseIdx_eq_take_drop_succ];exact List.eraseIdx_sublist _ _)
theorem Mn:∀{as:jU}{lo:Int}{n:Nat},as.Pairwise (· < ·)->(∀a∈as,lo<=a/\a<lo+n)->as.length<=n
 |[],_,_,_,_=>Ug _
 |a::r,lo,n,h,hb=>by
  have ha:=hb a Qo;have h':=Q9.mp h
  have:=Mn (as:=r) (lo:=a+1) (n:=(lo+n-(a+1)).toNat) h'.2 (λb hr=>by
   have h1:=h'.1 b hr;have h2:=hb b (Qp _ hr)
   lia)
  rw[QB]
  lia
theorem Asc.len{n:Nat}{as:jU}(h:Asc n as):as.length<=n:=Mn (lo:=0) h.up λa ha=>by have:=h.inn a ha;lia
noncomputable def Zf(as ps:jU):D:=.tuple [.list (as.map int),.list (ps.map int)]
noncomputable def szc(n m:Nat):jU:=UC n 3++UC m 6++[3,7]
theorem NC(n m:Nat):(szc n m).length=n+m+2:=by unfold szc;simp only[Qk,QR,QB,QW]
theorem EQ{xs:jT}{a b:D}:oIx (.list (xs++[a,b])) (.int (-2))=O a:=by
 unfold oIx atI
 show(ixN (xs++[a,b]).length (-2)).bind _=_
 have hl:(xs++[a,b]).length=xs.length+2:=by rw[Qk];rfl
 unfold ixN;rw[QE (by decide),Qs (by omega)];have e2:(-2+((xs++[a,b]).length:Int)).toNat=xs.length:=by omega
 simp only[Option.bind_some];rw[e2,Qx (Ql _),Nat.sub_self];rfl
theorem CH{dg:jU}{n:Nat}(h:dg.length=n+2):∃pre a b,dg=pre++[a,b]/\dg[n]?=O a/\dg[n+1]?=O b:=by
 have h1:n<dg.length:=by omega
 have h2:n+1<dg.length:=by omega
 refine⟨dg.take n,dg[n],dg[n+1],?_,Qh h1,Qh h2⟩;have e1:=JF h1;have e2:=JF h2;rw[List.drop_of_length_le (i:=n+1+1) (by omega)]at e2;rw[e2]at e1;rw[←e1,J7]
end
section
variable{cs:jU}{ls:L3}
theorem qi(g:Good cs ls)(r:Nat)(c s:Int):∃d,WC [Ks cs ls,.int r,.int c,.int s]=O d/\∃as ps,d=Zf as ps/\Asc ls.length as/\Asc cs.length ps:=by
 have l7:=g.l7;have l1:=g.l1;have c6:=g.c6;have c1:=g.c1;refine WQ (Z:=[pb (Ks cs ls),pb (.int r),pb (.int c),pb (.int s),jQ,jQ,jQ,jQ,jQ,jQ,jQ,jQ]) jP ?_;unfold VN;have hn:Kj [.list (cs.map int)]=O (.int cs.length):=by rw[Zc,Qd]
 have hm:Kj [.list (ls.map Ky)]=O (.int ls.length):=by rw[Zc,Qd]
 have a1:=O5 (x:=.int 3) (m:=cs.length) (by omega);have a2:=O5 (x:=.int 6) (m:=ls.length) (by omega);have e0:∀Z:UR,Z[0]?=O (O (.pub (Ks cs ls)))->UY Kb (UY Kb (UY Kw (U7 (UU (UV (.int 3)) (US))) (Za Kj (UU (U6 0 (UV (.int 0))) (US)))) (UY Kw (U7 (UU (UV (.int 6)) (US))) (Za Kj (UU (U6 0 (UV (.int 1))) (US))))) (U7 (UU (UV (.int 3)) (UU (UV (.int 7)) (US)))) Z=.ok (.list ((szc cs.length ls.length).map int)) Z:=by intro Z h0;have b1:=U9 (U9 (Kt (UT UX U0) (of_decide_eq_true jP)) (K4 (UT (KD h0 UX X0) U0) hn) a1) (U9 (Kt (UT UX U0) (of_decide_eq_true jP)) (K4 (UT (KD h0 UX Xa) U0) hm) a2) (YV (by simp;omega));have b2:=U9 b1 (Kt (UT UX (UT UX U0)) (of_decide_eq_true jP)) (YV (y:=[.int 3,.int 7]) (by simp;omega));refine Eq.trans b2 ?_;unfold szc;simp only[QX,List.map_replicate,QA,List.map_nil]
 refine Ku (K2 (e0 _ jP) (Qa jP) jP) ?_;obtain⟨r',hF,dg,rfl,hdl,hdb⟩:=Tv c s (sizes:=szc cs.length ls.length) (λx hx=>by unfold szc at hx;simp only[Q0,List.mem_replicate,Qu]at hx;rcases hx with (⟨_,rfl⟩|⟨_,rfl⟩)|rfl|rfl|hx<;>first|omega|cases hx) (by rw[NC];omega);rw[NC]at hdl;refine Ku (K2 (Kz (UT (UW jP) (UT (UW jP) (UT (UW jP) U0))) jP hF) (Qa jP) jP) ?_;obtain⟨pre,q2,q1,epre,hq2,hq1⟩:=CH hdl;have hs2:(szc cs.length ls.length)[cs.length+ls.length]?=O 3:=by unfold szc;rw[List.getElem?_append_right (by simp),List.length_append,List.length_replicate,List.length_replicate,Nat.sub_self];rfl
 have hs1:(szc cs.length ls.length)[cs.length+ls.length+1]?=O 7:=by unfold szc;rw[List.getElem?_append_right (by simp),List.length_append,List.length_replicate,List.length_replicate,show cs.length+ls.length+1-(cs.length+ls.length)=1 by omega];rfl
 obtain⟨q20,q23⟩:=hdb _ _ _ hq2 hs2;obtain⟨q10,q17⟩:=hdb _ _ _ hq1 hs1;obtain⟨k,rfl⟩:∃k:Nat,q1=k:=⟨q1.toNat,by omega⟩
 have x1:oIx (.list (dg.map int)) (.int (-1))=O (.int k):=Nv (by rw[epre,List.map_append];simp);have x2:oIx (.list (dg.map int)) (.int (-2))=O (.int q2):=by rw[epre,QX];exact EQ
 let S0:Option Sl:=O (.pub (Ks cs ls))
 let S1:Option Sl:=O (.pub (.int r))
 let S2:Option Sl:=O (.pub (.int c))
 let S3:Option Sl:=O (.pub (.int s))
 let S4:Option Sl:=O (.pub (.list ((szc cs.length ls.length).map int)))
 let S5:Option Sl:=O (.pub (.list (dg.map int)))
 have hc:∃ps:jU,Asc cs.length ps/\K7 (gN 12) (UY oEq (U6 5 (UQ 12)) (UV (.int 0))) (UQ 12) (ZE 0 cs.length) (Kk [S0,S1,S2,S3,S4,S5,jQ,jQ,jQ,jQ,jQ,jQ]++UC 1 jQ) []=O (ps.map int):=by
  refine⟨((UB cs.length).filter λj=>decide (dg.getD j 0=0)).map (λj:Nat=>(j:Int)),⟨?_,?_⟩,?_⟩
  .rw[J9]
   exact((List.pairwise_lt_range).filter _).imp λ{a b} h=>by omega
  .intro a ha
   obtain⟨j,hj,rfl⟩:=QG.mp ha;have:=Jm.mp (Uo.mp hj).1;omega
  .rw[Wc (λd=>match d with | .int j=>decide (dg.getD j.toNat 0=0)|_=>jS) (λd=>d) (λZ=>∃x,Z=[S0,S1,S2,S3,S4,S5,jQ,jQ,jQ,jQ,jQ,jQ,x])]
   .rw[Jf,List.map_id']
    unfold ZE;rw[List.filter_map,Jr];simp only[Int.sub_zero,QY,Int.zero_add];refine Uh (λl=>O (List.map (λk:Nat=>int (k:Int)) l)) (List.filter_congr λj hj=>?_);show decide (dg.getD (j:Int).toNat 0=0)=_;rw[QY]
   .rintro d hd Z ⟨x,rfl⟩
    obtain⟨j,⟨j0,j1⟩,rfl⟩:=qm hd;refine⟨_,U1 (Qa jP) jP,U9 (KD jP (UW jP) (ES j0 (by omega))) UX ZZ,λ_=>UW jP,⟨_,rfl⟩⟩
   .exact⟨jQ,rfl⟩
   .rw[Vo,QW];omega
 obtain⟨ps,xO,hcl⟩:=hc;refine Ku (Yi (Ys (Rb (UT (K4 (UT (KD jP UX X0) U0) hn) U0) (Sc (by omega) (by omega))) hcl) (Qa jP) jP) ?_;refine Ku (Yi (Xh U0 (Qa jP)) (Qa jP) jP) ?_
 let S6:Option Sl:=O (.own (ps.map int))
 let S11:Option Sl:=O (.pub (.int (k:Int)))
 have plen:=xO.len
 have r2:∀(as ps:jU)(X6 X7 x8 x9 kq:Option Sl),(X6=O (.pub (.list (ps.map int)))∨X6=O (.own (ps.map int)))->(X7=O (.pub (.list (as.map int)))∨X7=O (.own (as.map int)))->Asc ls.length as->Asc cs.length ps ->
   Ho (U4 (KI (UU (UQ 7) (UU (UQ 6) (US))))) [S0,S1,S2,S3,S4,S5,X6,X7,x8,x9,kq,S11] (λo=>∃d,o=.rt d/\∃as ps,d=Zf as ps/\Asc ls.length as/\Asc cs.length ps):=by
  intro as ps X6 X7 x8 x9 kq h6 h7 ha hp;refine Ke (ZS (UT (Nr (d:=.list (as.map int)) ?_) (UT (Nr (d:=.list (ps.map int)) ?_) U0)) (Qa jP)) ⟨_,rfl,as,ps,rfl,ha,hp⟩
  .rcases h7 with rfl|rfl
   .exact .inl jP
   .exact .inr ⟨_,rfl,rfl⟩
  .rcases h6 with rfl|rfl
   .exact .inl jP
   .exact .inr ⟨_,rfl,rfl⟩
 have cutK:∀{n:Nat}{xs:jU},Asc n xs->k<xs.length->n<=1000->Kb (.list (DL.cutD (xs.map int) jQ (O (k:Int)))) (.list (DL.cutD (xs.map int) (O ((k:Int)+1)) jQ))=O (.list ((xs.take k++xs.drop (k+1)).map int)):=by intro n xs hx hk hn;have hl:=hx.len;rw[NE,show((k:Int)+1)=((k+1:Nat):Int)by omega,Mu (by rw[Qd];omega),←List.map_take,←List.map_drop,YV (by rw[Qd,Qd,JG,JX];omega),←QX]
 have r1:∀(as:jU)(X7 x8 x9 kq:Option Sl),(X7=O (.pub (.list (as.map int)))∨X7=O (.own (as.map int)))->Asc ls.length as ->
   Ho (UZ (sIf (Zq (UY oEq (U6 5 (ZA (UV (.int 2)))) (UV (.int 2))) (Kq (oIB λi j=>decide (i<j)) 11 (K8 6)))
 (Kg 6 (UY Kb (KW (UQ 6) (UV jQ) (U5 (UQ 11) λx=>U2 (ZJ x))) (KW (UQ 6) (U5 (UY Kb (UQ 11) (UV (.int 1))) λx=>U2 (ZJ x)) (UV jQ))))
 (sNx)) (U4 (KI (UU (UQ 7) (UU (UQ 6) (US)))))) [S0,S1,S2,S3,S4,S5,S6,X7,x8,x9,kq,S11] (λo=>∃d,o=.rt d/\∃as ps,d=Zf as ps/\Asc ls.length as/\Asc cs.length ps):=by
  intro as X7 x8 x9 kq h7 ha;apply Kn;refine Kc (SJ (U9 (KD jP (X5 UX) x2) UX ZZ) (λ_=>KP jP (To jP) Vd)) (λh=>?_) (λ_=>KH (KB (r2 as ps _ _ _ _ _ (.inr jP) h7 ha xO)));have hk:k<ps.length:=by have:=(JM.mp h).2;have:=Qa this;rw[Qd]at this;omega
  refine KU (K2 (U9 (Yw (Zd jP jP) UX (Z8 (UW jP)) YB) (Yw (UW jP) (Z8 (U9 (UW jP) UX ZK)) UX YB) (cutK xO hk (by omega))) (Qa jP) jP) (KB (r2 as (ps.take k++ps.drop (k+1)) _ _ _ _ _ (.inl jP) h7 ha xO.cut))
 apply Kn;apply Yx (λi Z=>∃(as:jU)(x8 x9 kq:Option Sl),Z=[S0,S1,S2,S3,S4,S5,S6,O (.own (as.map int)),x8,x9,kq,jQ]/\Asc i as)
 case h1=>exact Xg (UT (Kz (UT (UW jP) (UT (UW jP) U0)) jP (M8 g r)) U0) Xe
 case h0=>exact⟨[],jQ,jQ,jQ,rfl,.nil,λa h=>by cases h⟩
 case hst=>
  rintro i d Z hi ⟨as,x8,x9,kq,rfl,ha⟩;obtain⟨x,hx,rfl⟩:=XX hi;rw[Qi]at hx;obtain⟨row,kz,rfl⟩:=QT.mp hx;rw[Ju];have xP:i<ls.length:=by have:=(Qq.mp kz).1;unfold ZY at this;rw[Qd]at this;exact this
  have hrl:row.length<=6:=by
   unfold ZY at kz;rw[Qi]at kz;obtain⟨rs,hrs,rfl⟩:=QT.mp kz;have h1:rs.flatten=(rs.take r).flatten++(rs.drop r).flatten:=by rw[←Ud,J7]
   have h2:=Uh List.length h1;rw[Qk]at h2;have h3:rs.flatten.length<=cs.length:=Sb (g.rk rs (QH hrs));omega
  refine⟨[S0,S1,S2,S3,S4,S5,S6,O (.own (as.map int)),pb (.int i),pb (Kv row),kq,jQ],KE jP (Ka (U1 (Qa jP) jP) (Ka (U1 (Qa jP) jP) KF)),?_⟩;unfold Na
  have hc2:K7 (gN 12) (Kq YE 12 (UQ 6)) (UQ 12) (row.map int) (ZX [S0,S1,S2,S3,S4,S5,S6,O (.own (as.map int)),pb (.int i),pb (Kv row),kq,jQ]++UC 1 jQ) []=O ((row.filter λt=>!ps.contains t).map int):=by
   rw[Wc (λd=>match d with | .int t=>!ps.contains t|_=>jS) (λd=>d) (λZ=>∃y6 y7 y10 x,Z=[S0,S1,S2,S3,S4,S5,pb (.list (ps.map int)),y6,y7,pb (Kv row),y10,jQ,x])]
   .rw[Jf,List.map_id',List.filter_map]
    rfl
   .rintro d hd Z ⟨y6,y7,y10,x,rfl⟩
    obtain⟨t,_,rfl⟩:=QG.mp hd;exact⟨_,U1 (Qa jP) jP,KP jP (UW jP) Pm,λ_=>UW jP,_,_,_,_,rfl⟩
   .exact⟨_,_,_,_,rfl⟩
   .rw[Qd,QW];omega
  have hz:(szc cs.length ls.length)[cs.length+i]?=O 6:=by unfold szc;rw[List.append_assoc,List.getElem?_append_right (by simp),List.getElem?_append_left (by simp;omega),List.getElem?_replicate,if_pos (by simp;omega)]
  have hj:cs.length+i<dg.length:=by omega
  have xd:oIx (.list (dg.map int)) (.int ((cs.length:Int)+(i:Int)))=O (.int dg[cs.length+i]):=by rw[show((cs.length:Int)+(i:Int))=((cs.length+i:Nat):Int)by omega];exact T4 (Qh hj)
  let S8:Option Sl:=O (.pub (.int (i:Int)))
  let S9:Option Sl:=O (.pub (Kv row))
  let S10:Option Sl:=O (.own ((row.filter λt=>!ps.contains t).map int))
  refine Ku (Z1:=[S0,S1,S2,S3,S4,S5,S6,O (.own (as.map int)),S8,S9,S10,jQ]) (Yi (Ch (ZO (UW jP) Xp) hc2 (BO _)) (Qa jP) jP) ?_;have up:Asc (i+1) as:=⟨ha.up,λa h=>by have:=ha.inn a h;omega⟩
  have up1:Asc (i+1) (as++[(i:Int)]):=⟨List.pairwise_append.mpr ⟨ha.up,List.pairwise_singleton _ _,λa h b hb=>by
   have:=ha.inn a h;have:=QN.mp hb
   omega⟩,λa h=>by
   rcases Q0.mp h with h|h
   .have:=ha.inn a h;omega
   .have:=QN.mp h;omega⟩
  have alen:=ha.len;refine Kc (Z1:=[S0,S1,S2,S3,S4,S5,S6,O (.own (as.map int)),S8,S9,S10,jQ]) (Hz (Mc jP (Kt U0 (Qa jP)) jP ME) (λ_=>U9 (KD jP (U9 (K4 (UT (KD jP UX X0) U0) hn) (UW jP) ZK) xd) UX ZZ)) (λ_=>?_) (λ_=>KH (Z7 ⟨as,_,_,_,rfl,up⟩));refine KU (Vc jP (UW jP) jP (by rw[Qd];omega) jP) (Z7 ⟨as++[(i:Int)],S8,S9,S10,by rw[QX];rfl,up1⟩)
 case hend=>
  rintro Z ⟨as,x8,x9,kq,rfl,ha⟩;have vd:((ZQ 0 ((ZY r ls).map Kv)).length)=ls.length:=by rw[XY,Qd];unfold ZY;rw[Qd]
  rw[vd]at ha;have alen:=ha.len;refine KB ?_;refine Ku (Z1:=[S0,S1,S2,S3,S4,S5,S6,O (.own (as.map int)),x8,x9,kq,S11]) (K2 (KD jP (X5 UX) x1) (Qa jP) jP) ?_;apply Kn;refine Kc (SJ (U9 (KD jP (X5 UX) x2) UX ZZ) (λ_=>KP jP (To jP) Vd)) (λh=>?_) (λ_=>KH (KB (r1 as _ _ _ _ (.inr jP) ha)));have hk:k<as.length:=by have:=(JM.mp h).2;have:=Qa this;rw[Qd]at this;omega
  exact KU (K2 (U9 (Yw (Zd jP jP) UX (Z8 (UW jP)) YB) (Yw (UW jP) (Z8 (U9 (UW jP) UX ZK)) UX YB) (cutK ha hk (by omega))) (Qa jP) jP) (KB (r1 (as.take k++as.drop (k+1)) _ _ _ _ (.inl jP) ha.cut))
end
section
variable{cs:jU}{ls:L3}{as ps:jU}
theorem NB(g:Good cs ls):(ZB 0 ls).length<=42:=by rw[(Ro ls 0).length_eq];exact Ph g
theorem NA:∀{as:jU},as.Pairwise (· < ·)->∀p∈as.zip (as.drop 1),p.1<p.2
 |[],_,p,h=>by cases h
 |[a],_,p,h=>by cases h
 |a::b::r,h,p,hp=>by
  have h':=Q9.mp h;rw[List.drop_succ_cons,Uk,JI]at hp;rcases Qu.mp hp with rfl|hp
  .exact h'.1 b Qo
  .exact NA (as:=b::r) h'.2 p hp
theorem PU{n:Nat}(h:Asc n as)(hn:n<=1000):Y9 [.list (as.map int),.int n]=O (.bool jR):=by
 refine Zv (Z:=[pb (.list (as.map int)),pb (.int n)]) jP ?_;unfold Wn;have hl:=h.len;have c1:K7 (gN 2) (UV jR) (U8 2 Zm (UU (UQ 2) (UU (UQ 1) (US)))) (as.map int) (Kk [pb (.list (as.map int)),pb (.int n)]++UC 1 jQ) []=O ([]++(as.map λ_=>jR).map UE):=by refine WX (λZ=>∃x,Z=[pb (.list (as.map int)),pb (.int n),x]) _ _ _ _ (by simp) ?_ ⟨jQ,rfl⟩ (by rw[List.length_map,List.length_nil];omega);rintro i d e hd he Z ⟨x,rfl⟩;rw[Qi]at hd;obtain⟨a,ha,rfl⟩:=QT.mp hd;rw[Qi,Qi,ha]at he;cases he;have:=h.inn a (QH ha);exact⟨_,U1 (Qa jP) jP,rfl,Kz (UT (UW jP) (UT (UW jP) U0)) jP (Pv this.1 this.2),_,rfl⟩
 have all1:((as.map λ_=>jR).all id)=jR:=by rw[Ul];exact QM.mpr λ_ _=>rfl
 have c2:K7 (gT 2 (gNC (gN 2) (gNC (gN 3) (gN0)))) (UV jR) (U3 UE (Kq (oIB λi j=>decide (i<j)) 2 (UQ 3))) (Zb (as.map int) (DL.cutD (as.map int) (O 1) jQ)) (Kk [pb (.list (as.map int)),pb (.int n)]++UC 2 jQ) []=O ([]++((as.zip (as.drop 1)).map λ_=>jR).map UE):=by rw[My,←List.map_drop,ML];refine WX (λZ=>∃x y,Z=[pb (.list (as.map int)),pb (.int n),x,y]) _ _ _ _ (by simp) ?_ ⟨jQ,jQ,rfl⟩ (by rw[List.length_map,List.length_nil,List.length_zip];omega);rintro i d e hd he Z ⟨x,y,rfl⟩;rw[Qi]at hd;obtain⟨p,hp,rfl⟩:=QT.mp hd;rw[Qi,Qi,hp]at he;cases he;refine⟨_,KE jP (Ka (U1 (Qa jP) jP) (Ka (U1 (Qa jP) jP) KF)),rfl,K3 (x:=jR) (KP jP (UW jP) ?_),_,_,rfl⟩;show O (decide (p.1<p.2))=_;rw[Qw (NA h.up p (QH hp))]
 have all2:(((as.zip (as.drop 1)).map λ_=>jR).all id)=jR:=by rw[Ul];exact QM.mpr λ_ _=>rfl
 have v1:=Ve (bs:=as.map λ_=>jR);rw[all1]at v1;have v2:=Ve (bs:=(as.zip (as.drop 1)).map λ_=>jR);rw[all2]at v2;apply Kn;refine Kc (b:=jS) (KR (KQ (t:=jS) (UW jP) jP) (Zw (ZP (t:=jR) (K4 (UT (K3 (Ys (ZO (UW jP) Xp) c1)) U0) v1)))) (λz=>by cases z) (λ_=>KH (KB ?_));exact Ke (K4 (UT (K3 (Ys (OH (UT (UW jP) (UT (Yw (UW jP) (Z8 UX) UX YB) U0)) jP) c2)) U0) v2) jP
noncomputable def rk(ls:L3)(q:Int×Int):Nat:=Xo q.2 (ls.getD q.1.toNat [])
noncomputable def wq(r:Nat)(ls:L3):LP:=(ZB 0 ls).filter λq=>decide (rk ls q<=r)
noncomputable def Y0(q:Int×Int):D:=.tuple [.int q.1,.int q.2,.int 1]
theorem Nz(p:Int×Int->Bool):∀(qs:LP),(qs.map λq=>if p q then O (Y0 q)else jQ).filterMap id=(qs.filter p).map Y0
 |[]=>rfl
 |q::r=>by
  have ih:=Nz p r;rw[QA];cases h:p q with
  |true=>rw[List.filter_cons_of_pos h,QA,←ih];rfl
  |false=>rw[List.filter_cons_of_neg (by rw[h];decide),←ih];rfl
theorem Hn(g:Good cs ls)(r:Nat):WF [Ks cs ls,.int r]=O (.list ((wq r ls).map Y0)):=by
 refine Zv (Z:=[pb (Ks cs ls),pb (.int r)]) jP ?_;unfold VT;have few:=NB g
 have hc:K7 (gT 2 (gNC (gN 2) (gNC (gN 3) (gN0)))) (UY (oIB λi j=>decide (i<=j)) (U8 2 XH (UU (UY oIx (U6 0 (UV (.int 1))) (UQ 2)) (UU (UQ 3) (US)))) (UQ 1)) (KI (UU (UQ 2) (UU (UQ 3) (UU (UV (.int 1)) (US))))) ((ZB 0 ls).map KJ) (Kk [pb (Ks cs ls),pb (.int r)]++UC 2 jQ) []=O ([]++(((ZB 0 ls).map λq=>if decide (rk ls q<=r)then O (Y0 q)else jQ).filterMap id)):=by
  refine MC (λZ=>∃x y,Z=[pb (Ks cs ls),pb (.int r),x,y]) _ _ _ _ (by simp) ?_ ⟨jQ,jQ,rfl⟩ (by rw[List.length_map,List.length_nil];omega);rintro i d e hd he Z ⟨x,y,rfl⟩;rw[Qi]at hd;obtain⟨q,hq,rfl⟩:=QT.mp hd;rw[Qi,hq]at he;cases he;obtain⟨j,rs,h1,h2,h3⟩:=Tg (QH hq);rw[Ju]at h2;have hg:ls.getD q.1.toNat []=rs:=by rw[h2,QY,JC,h1];rfl
  have hix:oIx (.list (ls.map Ky)) (.int q.1)=O (Ky rs):=by rw[h2];exact HS h1
  refine⟨[pb (Ks cs ls),pb (.int r),pb (.int q.1),pb (.int q.2)],KE jP (Ka (U1 (Qa jP) jP) (Ka (U1 (Qa jP) jP) KF)),?_,?_,_,_,rfl⟩
  .refine(U9 (Kz (UT (U9 (KD jP UX Xa) (UW jP) hix) (UT (UW jP) U0)) jP (AL q.2 rs)) (UW jP) Vd).trans ?_
   dsimp only;unfold rk;rw[hg];by_cases hr:Xo q.2 rs<=r
   .rw[Qw (show((Xo q.2 rs:Nat):Int)<=(r:Int)by omega),Qw hr];rfl
   .rw[Qt (show ¬((Xo q.2 rs:Nat):Int)<=(r:Int)by omega),Qt hr];rfl
  .intro z hz
   dsimp only at hz;split at hz
   .cases hz
    exact ZS (UT (UW jP) (UT (UW jP) (UT UX U0))) (Qa jP)
   .cases hz
 rw[Nz]at hc;exact Ke (K3 (Ys (ZO (Kz (UT (UW jP) U0) jP (jm g)) Xp) hc)) jP
noncomputable def cvB(r:Nat)(ls:L3)(as ps:jU):Bool:=(wq r ls).all λq=>as.contains q.1 || ps.contains q.2
theorem LV(g:Good cs ls)(r:Nat)(ha:Asc ls.length as)(hp:Asc cs.length ps):YI [Ks cs ls,.int r,Zf as ps]=O (.bool (cvB r ls as ps)):=by
 have l7:=g.l7;have c6:=g.c6;have few:=NB g;have hwl:(wq r ls).length<=42:=Qz (List.length_filter_le _ _) few;refine Zv (Z:=[pb (Ks cs ls),pb (.int r),pb (Zf as ps),jQ,jQ,jQ]) jP ?_;unfold Wm;have hn:Kj [.list (cs.map int)]=O (.int cs.length):=by rw[Zc,Qd]
 have hm:Kj [.list (ls.map Ky)]=O (.int ls.length):=by rw[Zc,Qd]
 let S0:Option Sl:=O (.pub (Ks cs ls))
 let S1:Option Sl:=O (.pub (.int r))
 let S2:Option Sl:=O (.pub (Zf as ps))
 let S3:Option Sl:=O (.pub (.list ((wq r ls).map Y0)))
 let S4:Option Sl:=O (.pub (.list (as.map int)))
 let S5:Option Sl:=O (.pub (.list (ps.map int)))
 refine Ku (Z1:=[S0,S1,S2,S3,jQ,jQ]) (K2 (Kz (UT (UW jP) (UT (UW jP) U0)) jP (Hn g r)) (Qa jP) jP) ?_;apply Kn;refine Kc (b:=jS) (Z1:=[S0,S1,S2,S3,jQ,jQ]) (KR (KQ (t:=jS) (UW jP) jP) (U9 (Zj jP Vj) UX Rv)) (λz=>by cases z) (λ_=>KH (KB ?_));refine Ku (Z1:=[S0,S1,S2,S3,S4,S5]) (TU (UW jP) (KE jP (Ka (U1 (Qa jP) jP) (Ka (U1 (Qa jP) jP) KF)))) ?_;apply Kn;refine Kc (b:=jS) (Z1:=[S0,S1,S2,S3,S4,S5]) (KR (Zw (ZP (t:=jR) (Kz (UT (UW jP) (UT (K4 (UT (KD jP UX Xa) U0) hm) U0)) jP (PU ha (by omega))))) (Zw (ZP (t:=jR) (Kz (UT (UW jP) (UT (K4 (UT (KD jP UX X0) U0) hn) U0)) jP (PU hp (by omega)))))) (λz=>by cases z) (λ_=>KH (KB ?_));have hc:K7 (gT 3 (gNC (gN 6) (gNC (gN 7) (gNC (gN 8) (gN0))))) (UV jR) (Xy (U3 UE (Kq oIn 6 (UQ 4))) (U3 UE (Kq oIn 7 (UQ 5)))) ((wq r ls).map Y0) (Kk [S0,S1,S2,S3,S4,S5]++UC 3 jQ) []=O ([]++((wq r ls).map λq=>as.contains q.1 || ps.contains q.2).map UE):=by refine WX (λZ=>∃x y z,Z=[S0,S1,S2,S3,S4,S5,x,y,z]) _ _ _ _ (by simp) ?_ ⟨jQ,jQ,jQ,rfl⟩ (by rw[List.length_map,List.length_nil];omega);rintro i d e hd he Z ⟨x,y,z,rfl⟩;rw[Qi]at hd;obtain⟨q,hq,rfl⟩:=QT.mp hd;rw[Qi,Qi,hq]at he;cases he;exact⟨_,KE jP (Ka (U1 (Qa jP) jP) (Ka (U1 (Qa jP) jP) (Ka (U1 (Qa jP) jP) KF))),rfl,GI (K3 (KP jP (UW jP) Pf)) (λ_=>K3 (KP jP (UW jP) Pf)),_,_,_,rfl⟩
 have v:=Ve (bs:=(wq r ls).map λq=>as.contains q.1 || ps.contains q.2);rw[Ul]at v;exact Ke (K4 (UT (K3 (Ys (ZO (UW jP) Xp) hc)) U0) v) jP
theorem Mm{t:Int}{rs:List jU}(h:t∈rs.flatten)(r:Nat):Xo t rs<=r ↔ t∈(rs.take r).flatten:=by
 have hx:∃x∈rs,(λr:jU=>r.contains t) x=jR:=by obtain⟨x,hx,ht⟩:=Ub.mp h;exact⟨x,hx,List.contains_iff_mem.mpr ht⟩
 have hlt:=List.findIdx_lt_length.mpr hx;have hat:=List.findIdx_getElem (w:=hlt);unfold Xo;rw[Qs hlt];constructor
 .intro hr
  refine List.mem_flatten.mpr ⟨rs[rs.findIdx λr=>r.contains t],?_,List.contains_iff_mem.mp hat⟩;exact List.mem_take_iff_getElem.mpr ⟨_,by omega,rfl⟩
 .intro ht
  obtain⟨x,hx,hxt⟩:=Ub.mp ht;obtain⟨j,hj,rfl⟩:=List.mem_take_iff_getElem.mp hx;have:¬j<rs.findIdx (λr=>r.contains t):=λhl=>by have:=List.not_of_lt_findIdx hl;exact absurd (List.contains_iff_mem.mpr hxt) (by simpa using this)
  omega
theorem B5{r i:Nat}{rs:List jU}{t:Int}(h1:ls[i]?=O rs)(h2:t∈(rs.take r).flatten)(h3:as.contains (i:Int)=jS)(h4:ps.contains t=jS):cvB r ls as ps=jS:=by
 have hf:t∈rs.flatten:=by
  have e:rs.flatten=(rs.take r).flatten++(rs.drop r).flatten:=by rw[←Ud,J7]
  rw[e];exact Jk _ h2
 have hm:((i:Int),t)∈wq r ls:=by have:=Ms (k:=0) h1 hf;rw[Ju]at this;refine List.mem_filter.mpr ⟨this,Qw ?_⟩;unfold rk;rw[QY,JC,h1];exact(Mm hf r).mpr h2
 cases hb:cvB r ls as ps with
 |false=>rfl
 |true=>have:=QM.mp hb _ hm;rw[h3,h4]at this;cases this
theorem Ml{r:Nat}(h:∀(i:Nat)(rs:List jU),ls[i]?=O rs->∀t∈(rs.take r).flatten,as.contains (i:Int)=jR∨ps.contains t=jR):cvB r ls as ps=jR:=by
 refine QM.mpr λq hq=>?_
 obtain⟨hq1,hq2⟩:=Uo.mp hq;obtain⟨j,rs,h1,h2,h3⟩:=Tg hq1;rw[Ju]at h2;have hr:=Qa hq2;unfold rk at hr;rw[h2,QY,JC,h1]at hr;have:=h j rs h1 q.2 ((Mm h3 r).mp hr);rw[h2];exact Bool.or_eq_true_iff.mpr this
end
section
variable{cs:jU}{ls:L3}{as ps:jU}
theorem Os:oIx (Zf as ps) (.int 0)=O (.list (as.map int)):=YY (j:=0) jP
theorem Oq:oIx (Zf as ps) (.int 1)=O (.list (ps.map int)):=YY (j:=1) jP
theorem Tz{i j:Int}(h:¬i<j):oIB (λi j=>decide (i<j)) (.int i) (.int j)=O jS:=by show O (decide (i<j))=_;rw[Qt h]
theorem Op{i j:Int}(h:¬j<=i):oIB (λi j=>decide (j<=i)) (.int i) (.int j)=O jS:=by show O (decide (j<=i))=_;rw[Qt h]
theorem Oo{i j:Int}(h:¬i<=j):oIB (λi j=>decide (i<=j)) (.int i) (.int j)=O jS:=by show O (decide (i<=j))=_;rw[Qt h]
theorem Ss{n:Nat}{xs:jU}(hx:Asc n xs)(hn:n<=1000)(S0 S1 S2 x5 x6 x7:Option Sl){I:UR->Prop}{Q:Out->Prop}(hI:∀y5 y6,I [S0,S1,S2,pb (.list (xs.map int)),pb (.int n),y5,y6,x7]) :
  Ho T5 [S0,S1,S2,pb (.list (xs.map int)),pb (.int n),x5,x6,x7] (Xn I Q):=by
 unfold T5
 let S3:Option Sl:=O (.pub (.list (xs.map int)))
 let S4:Option Sl:=O (.pub (.int n))
 have hl:=hx.len;apply Kn;refine Kc (b:=jS) (Z1:=[S0,S1,S2,S3,S4,x5,x6,x7]) (KQ (t:=jS) (UW jP) jP) (λz=>by cases z) (λ_=>KH (KB ?_));apply Yx (λ_ Z=>∃y5 y6,Z=[S0,S1,S2,S3,S4,y5,y6,x7])
 case h1=>exact Xg (UT (UW jP) U0) Xe
 case h0=>exact⟨_,_,rfl⟩
 case hst=>
  rintro i d Z hi ⟨y5,y6,rfl⟩;obtain⟨x,hxx,rfl⟩:=XX hi;rw[Qi]at hxx;obtain⟨a,ha,rfl⟩:=QT.mp hxx;rw[Ju];have hin:=hx.inn a (QH ha);obtain⟨xP,hia⟩:=Qq.mp ha;refine⟨[S0,S1,S2,S3,S4,pb (.int i),pb (.int a),x7],KE jP (Ka (U1 (Qa jP) jP) (Ka (U1 (Qa jP) jP) KF)),?_⟩;unfold SW;refine Kc (b:=jS) (Z1:=[S0,S1,S2,S3,S4,pb (.int i),pb (.int a),x7]) (KR (Zw (ZP (t:=jR) (Kz (UT (UW jP) U0) jP (qT _)))) (KR (KP jP UX (Tz (by omega))) (KR (KP jP (UW jP) (Op (by omega))) ?_))) (λz=>by cases z) (λ_=>KH (Z7 ⟨_,_,rfl⟩));by_cases h0:i=0
  .subst h0
   exact NV (KP jP UX jP)
  .obtain⟨j,rfl⟩:∃j,i=j+1:=⟨i-1,by omega⟩
   have kP:j<xs.length:=by omega
   have hlt:xs[j]<a:=by rw[←hia];exact List.pairwise_iff_getElem.mp hx.up j (j+1) kP xP (by omega)
   have xj:oIx (.list (xs.map int)) (.int (((j+1:Nat):Int)-1))=O (.int xs[j]):=by rw[show((j+1:Nat):Int)-1=(j:Int)by omega];exact T4 (Qh kP)
   refine R9 (KP jP UX ?_) (KP jP (KD jP (U9 (UW jP) UX T7) xj) (Oo (by omega)));show O (decide ((0:Int)<((j+1:Nat):Int)))=_;rw[Qw (by omega)]
 case hend=>rintro Z ⟨y5,y6,rfl⟩;exact Z7 (hI _ _)
theorem jH(g:Good cs ls)(r:Nat)(ha:Asc ls.length as)(hp:Asc cs.length ps):Y7 [Ks cs ls,.int r,Zf as ps]=O (.bool (cvB r ls as ps)):=by
 have l7:=g.l7;have c6:=g.c6;refine Zv (Z:=[pb (Ks cs ls),pb (.int r),pb (Zf as ps),jQ,jQ,jQ,jQ,jQ]) jP ?_;unfold Wk;have hn:Kj [.list (cs.map int)]=O (.int cs.length):=by rw[Zc,Qd]
 have hm:Kj [.list (ls.map Ky)]=O (.int ls.length):=by rw[Zc,Qd]
 let S0:Option Sl:=O (.pub (Ks cs ls))
 let S1:Option Sl:=O (.pub (.int r))
 let S2:Option Sl:=O (.pub (Zf as ps))
 apply Kn;refine Kc (b:=jS) (Z1:=[S0,S1,S2,jQ,jQ,jQ,jQ,jQ]) (KR (KQ (t:=jS) (UW jP) jP) (U9 (Zj jP Vj) UX Rv)) (λz=>by cases z) (λ_=>KH (KB ?_));apply Kn;apply Yx (ds:=[.tuple [.list (as.map int),.int ls.length],.tuple [.list (ps.map int),.int cs.length]]) (λ_ Z=>∃y3 y4 y5 y6 y7,Z=[S0,S1,S2,y3,y4,y5,y6,y7])
 case h1=>exact Nk (UT (UW jP) (UT (Kt (UT (K4 (UT (KD jP UX Xa) U0) hm) (UT (K4 (UT (KD jP UX X0) U0) hn) U0)) (Qa jP)) U0)) jP
 case h0=>exact⟨_,_,_,_,_,rfl⟩
 case hst=>
  rintro i d Z hi ⟨y3,y4,y5,y6,y7,rfl⟩;rcases i with _|_|i
  .cases hi
   exact⟨_,KE jP (Ka (U1 (Qa jP) jP) (Ka (U1 (Qa jP) jP) KF)),Ss ha (by omega) _ _ _ _ _ _ λ_ _=>⟨_,_,_,_,_,rfl⟩⟩
  .cases hi
   exact⟨_,KE jP (Ka (U1 (Qa jP) jP) (Ka (U1 (Qa jP) jP) KF)),Ss hp (by omega) _ _ _ _ _ _ λ_ _=>⟨_,_,_,_,_,rfl⟩⟩
  .cases hi
 case hend=>
  rintro Z ⟨y3,y4,y5,y6,y7,rfl⟩;refine KB ?_;apply Kn;apply Yx (λi Z=>∃y3 y4 y5 y6 y7,Z=[S0,S1,S2,y3,y4,y5,y6,y7]/\∀(j:Nat)(rs:List jU),j<i->ls[j]?=O rs->∀t∈(rs.take r).flatten,as.contains (j:Int)=jR∨ps.contains t=jR)
  case h1=>exact Xg (UT (Kz (UT (UW jP) (UT (UW jP) U0)) jP (M8 g r)) U0) Xe
  case h0=>exact⟨_,_,_,_,_,rfl,λj rs h=>absurd h (Nat.not_lt_zero _)⟩
  case hst=>
   rintro i d Z hi ⟨y3,y4,y5,y6,y7,rfl,hI⟩;obtain⟨x,hx,rfl⟩:=XX hi;rw[Qi]at hx;obtain⟨row,kz,rfl⟩:=QT.mp hx;unfold ZY at kz;rw[Qi]at kz;obtain⟨rs,hrs,rfl⟩:=QT.mp kz;rw[Ju]
   let S3:Option Sl:=O (.pub (Kv (rs.take r).flatten))
   let S7:Option Sl:=O (.pub (.int (i:Int)))
   refine⟨[S0,S1,S2,S3,y4,y5,y6,S7],KE jP (Ka (U1 (Qa jP) jP) (Ka (U1 (Qa jP) jP) KF)),?_⟩;unfold Nb;apply Yx (λk Z=>∃y6,Z=[S0,S1,S2,S3,y4,y5,y6,S7]/\∀(j:Nat) t,j<k->(rs.take r).flatten[j]?=O t->as.contains (i:Int)=jR∨ps.contains t=jR)
   case h1=>exact ZO (UW jP) Xp
   case h0=>exact⟨_,rfl,λj t h=>absurd h (Nat.not_lt_zero _)⟩
   case hst=>
    rintro k d Z hk ⟨y6,rfl,hJ⟩;rw[Qi]at hk;obtain⟨t,ht,rfl⟩:=QT.mp hk;refine⟨[S0,S1,S2,S3,y4,y5,pb (.int t),S7],U1 (Qa jP) jP,?_⟩;unfold Nc;refine Kc (Z1:=[S0,S1,S2,S3,y4,y5,pb (.int t),S7]) (SJ (KP jP (KD jP UX Os) Pm) (λ_=>KP jP (KD jP UX Oq) Pm)) (λh=>?_) (λh=>?_)
    .have h':=JM.mp h
     refine Ke UX (Tj (Tj (KN ?_)));rw[B5 hrs (List.mem_of_getElem? ht) (by simpa using h'.1) (by simpa using h'.2)]
    .refine KH (Z7 ⟨_,rfl,λj t' hj ht'=>?_⟩)
     by_cases hjk:j=k
     .subst hjk
      rw[ht]at ht';cases ht';rcases Bool.and_eq_false_iff.mp h with h|h
      .exact .inl (by simpa using h)
      .exact .inr (by simpa using h)
     .exact hJ j t' (by omega) ht'
   case hend=>
    rintro Z ⟨y6,rfl,hJ⟩;refine Z7 ⟨_,_,_,_,_,rfl,λj rs' hj xC t ht=>?_⟩;by_cases hji:j=i
    .subst hji
     rw[hrs]at xC;cases xC;obtain⟨m,hm',e⟩:=JV ht;exact hJ m t (by rw[Qd];exact hm') (by rw[Qh hm',e])
    .exact hI j rs' (by omega) xC t ht
  case hend=>rintro Z ⟨y3,y4,y5,y6,y7,rfl,hI⟩;refine KB (Ke UX ?_);rw[Ml λi rs hi t ht=>hI i rs ?_ hi t ht];rw[XY,Qd];unfold ZY;rw[Qd];exact(Qq.mp hi).1
theorem qS(c s:Int):∃r:Nat,WB [.int c,.int s]=O (.int r):=by
 obtain⟨r',hF,dg,rfl,hdl,hdb⟩:=Tv c s (sizes:=[8,1000000000000000000]) (λx hx=>by simp only[Qu]at hx;rcases hx with rfl|rfl|hx<;>first|omega|cases hx) (by decide);have hdl:dg.length=2:=hdl
 obtain⟨d0,d1,rfl⟩:∃d0 d1,dg=[d0,d1]:=by
  match dg,hdl with
  |[a,b],_=>exact⟨a,b,rfl⟩
 have b0:=hdb 0 d0 8 jP jP;have b1:=hdb 1 d1 1000000000000000000 jP jP;obtain⟨v,hv,ev⟩:=Fa (zs:=[0,1,2,3,4,5,6,6+d1]) (k:=d0) b0.1 b0.2;have v0:0<=v:=by simp only[Qu,Jo,or_false]at hv;omega
 obtain⟨r,rfl⟩:∃r:Nat,v=r:=⟨v.toNat,by omega⟩
 refine⟨r,?_⟩;refine Zv (Z:=[pb (.int c),pb (.int s),jQ]) jP ?_;unfold VM;refine Ku (K2 (Kz (UT (UW jP) (UT (UW jP) (UT (Kt (UT UX (UT (U9 UX UX (Tn (i:=10) (j:=18) (by decide))) U0)) (Qa jP)) U0))) jP hF) (Qa jP) jP) ?_;exact Ke (U9 (Kt (UT UX (UT UX (UT UX (UT UX (UT UX (UT UX (UT UX (UT (U9 UX (KD jP UX (T4 (k:=1) (v:=d1) jP)) ZK) U0)))))))) (Qa jP)) (KD jP UX (T4 (k:=0) (v:=d0) jP)) ev) jP
end
section
variable{cs:jU}{ls:L3}
theorem Mk(d:D):XG [d]=O (.bool (whB d)):=by
 cases d with
 |dict kvs=>exact Zv (Z:=[pb (.dict kvs)]) jP (Ke (YA (t:=jS) (u:=jS) (RO (UW jP)) λz=>by cases z) jP)
 |_=>rfl
def RiP(n:Nat)(a:D):Prop:=∃is:jU,a=.list (is.map int)/\Asc n is
theorem Ny{n:Int}:∀{xs:jT},(xs.map (Kx n)).all id=jR->∃is:jU,xs=is.map int/\∀a∈is,0<=a/\a<n
 |[],_=>⟨[],rfl,λa h=>by cases h⟩
 |x::r,h=>by
  rw[QA,Jh,Qr]at h;obtain⟨i,rfl,h0,h1⟩:=Pl h.1;obtain⟨is,rfl,hi⟩:=Ny h.2;refine⟨i::is,rfl,λa ha=>?_⟩;rcases Qu.mp ha with rfl|ha
  .exact⟨h0,h1⟩
  .exact hi a ha
theorem Nx:∀{as:jU},(∀p∈as.zip (as.drop 1),p.1<p.2)->as.Pairwise (· < ·)
 |[],_=>.nil
 |[a],_=>by simp
 |a::b::r,h=>by
  rw[List.drop_succ_cons,Uk,JI]at h;have ih:=Nx (as:=b::r) λp hp=>h p (Qp _ (by rw[List.drop_succ_cons,Uk]at hp;exact hp))
  have hab:a<b:=h (a,b) Qo;refine List.pairwise_cons.mpr ⟨λx hx=>?_,ih⟩;rcases Qu.mp hx with rfl|hx
  .exact hab
  .have:=(Q9.mp ih).1 x hx;lia
theorem Lv{n:Nat}{a:D}(hs:∀xs,a=.list xs->xs.length<=1000)(h:¬RiP n a):Y9 [a,.int n]=O (.bool jS):=by
 refine Zv (Z:=[pb a,pb (.int n)]) jP ?_;unfold Wn;apply Kn;cases a with
 |list xs=>
  have hl:=hs xs jP;have c1:K7 (gN 2) (UV jR) (U8 2 Zm (UU (UQ 2) (UU (UQ 1) (US)))) xs (Kk [pb (.list xs),pb (.int n)]++UC 1 jQ) []=O ([]++(xs.map (Kx n)).map UE):=by refine WX (λZ=>∃x,Z=[pb (.list xs),pb (.int n),x]) _ _ _ _ (by simp) ?_ ⟨jQ,rfl⟩ (by rw[List.length_nil];lia);rintro i d e hd he Z ⟨x,rfl⟩;rw[Qi,Qi,hd]at he;cases he;exact⟨_,U1 (Qa jP) jP,rfl,Kz (UT (UW jP) (UT (UW jP) U0)) jP (Pu d n),_,rfl⟩
  have v1:=Ve (bs:=xs.map (Kx n));cases hb:(xs.map (Kx n)).all id with
  |true=>
   rw[hb]at v1;refine Kc (b:=jS) (KR (KQ (t:=jS) (UW jP) jP) (Zw (ZP (t:=jR) (K4 (UT (K3 (Ys (ZO (UW jP) Xp) c1)) U0) v1)))) (λz=>by cases z) (λ_=>KH (KB ?_));obtain⟨is,rfl,hin⟩:=Ny hb;rw[Qd]at hl;have c2:K7 (gT 2 (gNC (gN 2) (gNC (gN 3) (gN0)))) (UV jR) (U3 UE (Kq (oIB λi j=>decide (i<j)) 2 (UQ 3))) (Zb (is.map int) (DL.cutD (is.map int) (O 1) jQ)) (Kk [pb (.list (is.map int)),pb (.int n)]++UC 2 jQ) []=O ([]++((is.zip (is.drop 1)).map λp=>decide (p.1<p.2)).map UE):=by rw[My,←List.map_drop,ML];refine WX (λZ=>∃x y,Z=[pb (.list (is.map int)),pb (.int n),x,y]) _ _ _ _ (by simp) ?_ ⟨jQ,jQ,rfl⟩ (by rw[List.length_map,List.length_nil,List.length_zip];lia);rintro i d e hd he Z ⟨x,y,rfl⟩;rw[Qi]at hd;obtain⟨p,hp,rfl⟩:=QT.mp hd;rw[Qi,Qi,hp]at he;cases he;exact⟨_,KE jP (Ka (U1 (Qa jP) jP) (Ka (U1 (Qa jP) jP) KF)),rfl,K3 (KP jP (UW jP) jP),_,_,rfl⟩
   have v2:=Ve (bs:=(is.zip (is.drop 1)).map λp=>decide (p.1<p.2))
   have hf:((is.zip (is.drop 1)).map λp=>decide (p.1<p.2)).all id=jS:=by
    cases hz:((is.zip (is.drop 1)).map λp=>decide (p.1<p.2)).all id with
    |false=>rfl
    |true=>refine absurd ⟨is,rfl,Nx λp hp=>?_,hin⟩ h;rw[Ul]at hz;exact Qa (QM.mp hz p hp)
   rw[hf]at v2;exact Ke (K4 (UT (K3 (Ys (OH (UT (UW jP) (UT (Yw (UW jP) (Z8 UX) UX YB) U0)) jP) c2)) U0) v2) jP
  |false=>rw[hb]at v1;exact Kc (b:=jR) (KR (KQ (t:=jS) (UW jP) jP) (Zw (ZP (t:=jS) (K4 (UT (K3 (Ys (ZO (UW jP) Xp) c1)) U0) v1)))) (λ_=>Ke UX (KN jP)) λz=>by cases z
 |dict kvs=>exact Kc (b:=jR) (Zn (YX (UW jP))) (λ_=>Ke UX (KN jP)) λz=>by cases z
 |_=>exact Kc (b:=jR) (Zn (KQ (UW jP) jP)) (λ_=>Ke UX (KN jP)) λz=>by cases z
theorem O9{Z:UR}{i:Nat}{d:D}(h:Z[i]?=O (O (.pub d)))(hd:¬∃a t,d=.tuple [a,t]):mOr (Kf (K0 (U3 (λd=>.bool (Kh d "tuple")) (UQ i)))) (UY oNe (K8 i) (UV (.int 2))) Z=.ok jR Z:=by
 cases d with
 |tuple xs=>
  refine KR (KQ (t:=jS) (UW h) jP) (U9 (Zj h Vj) UX ?_);rw[Tl,Qt]
  .rfl
  intro z
  match xs,z with
  |[],z=>cases z
  |[a],z=>cases z
  |[a,b],_=>exact hd ⟨a,b,rfl⟩
  |a::b::c::r,z=>rw[QB,QB,QB]at z;lia
 |dict kvs=>exact Zn (YX (UW h))
 |_=>exact Zn (KQ (UW h) jP)
def CoP(n m:Nat)(d:D):Prop:=∃as ps,d=Zf as ps/\Asc m as/\Asc n ps
def ShC(d:D):Prop:=∀a t,d=.tuple [a,t]->(∀xs,a=.list xs->xs.length<=1000)/\∀xs,t=.list xs->xs.length<=1000
theorem jl(g:Good cs ls)(r:Nat){d:D}(hs:ShC d)(h:¬CoP cs.length ls.length d):YI [Ks cs ls,.int r,d]=O (.bool jS):=by
 have l7:=g.l7;have c6:=g.c6;refine Zv (Z:=[pb (Ks cs ls),pb (.int r),pb d,jQ,jQ,jQ]) jP ?_;unfold Wm;have hn:Kj [.list (cs.map int)]=O (.int cs.length):=by rw[Zc,Qd]
 have hm:Kj [.list (ls.map Ky)]=O (.int ls.length):=by rw[Zc,Qd]
 refine Ku (K2 (Kz (UT (UW jP) (UT (UW jP) U0)) jP (Hn g r)) (Qa jP) jP) ?_;apply Kn;by_cases ht:∃a t,d=.tuple [a,t]
 .obtain⟨a,t,rfl⟩:=ht
  obtain⟨sa,st⟩:=hs a t jP;refine Kc (b:=jS) (KR (KQ (t:=jS) (UW jP) jP) (U9 (Zj jP Vj) UX Rv)) (λz=>by cases z) (λ_=>KH (KB ?_));refine Ku (TU (UW jP) (KE jP (Ka (U1 (Qa jP) jP) (Ka (U1 (Qa jP) jP) KF)))) ?_;apply Kn;by_cases ra:RiP ls.length a
  .obtain⟨as,rfl,ha⟩:=ra
   have rt:¬RiP cs.length t:=λ⟨ps,e,hp⟩=>h ⟨as,ps,by rw[e];rfl,ha,hp⟩
   exact Kc (b:=jR) (KR (Zw (ZP (t:=jR) (Kz (UT (UW jP) (UT (K4 (UT (KD jP UX Xa) U0) hm) U0)) jP (PU ha (by lia))))) (Zw (ZP (t:=jS) (Kz (UT (UW jP) (UT (K4 (UT (KD jP UX X0) U0) hn) U0)) jP (Lv st rt))))) (λ_=>Ke UX (KN jP)) λz=>by cases z
  .exact Kc (b:=jR) (Zn (Zw (ZP (t:=jS) (Kz (UT (UW jP) (UT (K4 (UT (KD jP UX Xa) U0) hm) U0)) jP (Lv sa ra))))) (λ_=>Ke UX (KN jP)) λz=>by cases z
 .exact Kc (b:=jR) (O9 jP ht) (λ_=>Ke UX (KN jP)) λz=>by cases z
theorem CG{n:Nat}{is:jU}{v:Int}(h:Asc n is)(h0:0<=v)(h1:v<n)(hl:∀a,is.getLast?=O a->a<v):Asc n (is++[v]):=by
 refine⟨List.pairwise_append.mpr ⟨h.up,by simp,λa ha b hb=>?_⟩,λa ha=>?_⟩
 .rw[QN]at hb
  subst hb;have hne:is≠[]:=λz=>by rw[z]at ha;cases ha
  have hlt:=hl _ (List.getLast?_eq_some_getLast hne);obtain⟨j,hj,rfl⟩:=JV ha;by_cases hz:j=is.length-1
  .subst hz
   rw[List.getLast_eq_getElem]at hlt;exact hlt
  .have:=List.pairwise_iff_getElem.mp h.up j (is.length-1) hj (by lia) (by lia)
   rw[List.getLast_eq_getElem]at hlt
   lia
 .rcases Q0.mp ha with ha|ha
  .exact h.inn a ha
  .rw[QN]at ha;subst ha;exact⟨h0,h1⟩
theorem O1{n:Nat}{a:D}(hs:∀xs,a=.list xs->xs.length<=1000)(h:¬RiP n a)(S0 S1 S2 x5 x6 x7:Option Sl){I:UR->Prop}{Q:Out->Prop}(hQ:Q (.rt (.bool jS))) :
  Ho T5 [S0,S1,S2,pb a,pb (.int n),x5,x6,x7] (Xn I Q):=by
 unfold T5
 let S3:Option Sl:=O (.pub a)
 let S4:Option Sl:=O (.pub (.int n))
 apply Kn
 have odd:Kf (K0 (U3 (λd=>.bool (Kh d "list")) (UQ 3))) [S0,S1,S2,S3,S4,x5,x6,x7]=.ok jR [S0,S1,S2,S3,S4,x5,x6,x7]->Ho (sIf (Kf (K0 (U3 (λd=>.bool (Kh d "list")) (UQ 3)))) (U4 (UV (.bool jS))) sNx) [S0,S1,S2,S3,S4,x5,x6,x7] (W0 (Kr (Yu (UU (UQ 3) (US))) (gT 2 (gNC (gN 5) (gNC (gN 6) (gN0)))) SW) (Xn I Q)):=λe=>
  Kc (b:=jR) e (λ_=>Ke UX (KN (Tj hQ))) λz=>by cases z
 cases a with
 |list xs=>
  have hl:=hs xs jP;refine Kc (b:=jS) (Z1:=[S0,S1,S2,S3,S4,x5,x6,x7]) (KQ (t:=jS) (UW jP) jP) (λz=>by cases z) (λ_=>KH (KB ?_));apply Yx (λk Z=>(∃is:jU,xs.take k=is.map int/\Asc n is)/\∃y5 y6,Z=[S0,S1,S2,S3,S4,y5,y6,x7])
  case h1=>exact Xg (UT (UW jP) U0) Xe
  case h0=>exact⟨⟨[],rfl,.nil,λa h=>by cases h⟩,_,_,rfl⟩
  case hst=>
   rintro i d Z hi ⟨⟨is,his,hasc⟩,y5,y6,rfl⟩;obtain⟨x,hx,rfl⟩:=XX hi;rw[Ju];refine⟨[S0,S1,S2,S3,S4,pb (.int i),pb x,x7],KE jP (Ka (U1 (Qa jP) jP) (Ka (U1 (Qa jP) jP) KF)),?_⟩;unfold SW
   have ret:∀{t:M Bool},t [S0,S1,S2,S3,S4,pb (.int i),pb x,x7]=.ok jR [S0,S1,S2,S3,S4,pb (.int i),pb x,x7]->∀J,Ho (sIf t (U4 (UV (.bool jS))) sNx) [S0,S1,S2,S3,S4,pb (.int i),pb x,x7] (Xn J (Xn I Q)):=λe J=>
    Kc (b:=jR) e (λ_=>Ke UX (Tj (Tj hQ))) λz=>by cases z
   have xP:i<xs.length:=(Qq.mp hx).1
   have vf:is.length=i:=by
    have:=Uh List.length his;rw[JG,Qd]at this
    lia
   cases hw:whB x with
   |false=>exact ret (Zn (Zw (ZP (t:=jS) (Kz (UT (UW jP) U0) jP (by rw[Mk,hw]))))) _
   |true=>
    obtain⟨v,rfl⟩:∃v,x=.int v:=by
     cases x with
     |int v=>exact⟨v,rfl⟩
     |_=>cases hw
    have e1:=Zw (ZP (t:=jR) (Kz (Z:=[S0,S1,S2,S3,S4,pb (.int i),pb (.int v),x7]) (UT (UW (i:=6) jP) U0) jP (Mk (.int v))));by_cases h0:v<0
    .exact ret (KR e1 (Zn (KP jP UX (by rw[Vd,Qw h0])))) _
    by_cases h1:(n:Int)<=v
    .exact ret (KR e1 (KR (KP jP UX (Tz h0)) (Zn (KP jP (UW jP) (by rw[Vd,Qw h1]))))) _
    have e2:∀{u:M Bool}{b:Bool},u [S0,S1,S2,S3,S4,pb (.int i),pb (.int v),x7]=.ok b [S0,S1,S2,S3,S4,pb (.int i),pb (.int v),x7]->mOr (Kq (oIB λi j=>decide (j<=i)) 6 (UQ 4)) u [S0,S1,S2,S3,S4,pb (.int i),pb (.int v),x7]=.ok b [S0,S1,S2,S3,S4,pb (.int i),pb (.int v),x7]:=λh=>KR (KP jP (UW jP) (Op h1)) h
    have go:(∀a,is.getLast?=O a->a<v)->(∃js:jU,xs.take (i+1)=js.map int/\Asc n js):=λhlt=>by refine⟨is++[v],?_,CG hasc (by lia) (by lia) hlt⟩;rw[List.take_add_one,hx,his,QX];rfl
    by_cases hi0:i=0
    .subst hi0
     have:is=[]:=List.length_eq_zero_iff.mp vf;subst this;exact Kc (b:=jS) (KR e1 (KR (KP jP UX (Tz h0)) (e2 (NV (KP jP UX jP))))) (λz=>by cases z) (λ_=>KH (Z7 ⟨go (λa h=>by cases h),_,_,rfl⟩))
    .obtain⟨j,rfl⟩:∃j,i=j+1:=⟨i-1,by lia⟩
     have kP:j<is.length:=by lia
     have xj:oIx (.list xs) (.int (((j+1:Nat):Int)-1))=O (.int is[j]):=by
      rw[show((j+1:Nat):Int)-1=(j:Int)by lia];refine YY ?_;have hz:(xs.take (j+1))[j]?=O (.int is[j]):=by rw[his,Qi,Qh kP];rfl
      rw[List.getElem?_take_of_lt (by lia)]at hz;exact hz
     have e3:oIB (λi j=>decide (j<i)) (.int ((j+1:Nat):Int)) (.int 0)=O jR:=by show O (decide ((0:Int)<((j+1:Nat):Int)))=_;rw[Qw (by lia)]
     by_cases hle:v<=is[j]
     .exact ret (KR e1 (KR (KP jP UX (Tz h0)) (e2 (R9 (KP jP UX e3) (KP jP (KD jP (U9 (UW jP) UX T7) xj) (by rw[Vd,Qw hle])))))) _
     .refine Kc (b:=jS) (KR e1 (KR (KP jP UX (Tz h0)) (e2 (R9 (KP jP UX e3) (KP jP (KD jP (U9 (UW jP) UX T7) xj) (Oo hle)))))) (λz=>by cases z) (λ_=>KH (Z7 ⟨go (λa h=>?_),_,_,rfl⟩))
      rw[List.getLast?_eq_getElem?,vf,Nat.add_sub_cancel,Qh kP]at h;cases h
      lia
  case hend=>rintro Z ⟨⟨is,his,hasc⟩,y5,y6,rfl⟩;rw[XY,List.take_length]at his;exact absurd ⟨is,by rw[his],hasc⟩ h
 |dict kvs=>exact odd (YX (UW jP))
 |_=>exact odd (KQ (UW jP) jP)
theorem jG(g:Good cs ls)(r:Nat){d:D}(hs:ShC d)(h:¬CoP cs.length ls.length d):Y7 [Ks cs ls,.int r,d]=O (.bool jS):=by
 have l7:=g.l7;have c6:=g.c6;refine Zv (Z:=[pb (Ks cs ls),pb (.int r),pb d,jQ,jQ,jQ,jQ,jQ]) jP ?_;unfold Wk;have hn:Kj [.list (cs.map int)]=O (.int cs.length):=by rw[Zc,Qd]
 have hm:Kj [.list (ls.map Ky)]=O (.int ls.length):=by rw[Zc,Qd]
 apply Kn;by_cases ht:∃a t,d=.tuple [a,t]
 .obtain⟨a,t,rfl⟩:=ht
  obtain⟨sa,st⟩:=hs a t jP
  let S0:Option Sl:=O (.pub (Ks cs ls))
  let S1:Option Sl:=O (.pub (.int r))
  let S2:Option Sl:=O (.pub (.tuple [a,t]))
  refine Kc (b:=jS) (Z1:=[S0,S1,S2,jQ,jQ,jQ,jQ,jQ]) (KR (KQ (t:=jS) (UW jP) jP) (U9 (Zj jP Vj) UX Rv)) (λz=>by cases z) (λ_=>KH (KB ?_));apply Kn;apply Yx (ds:=[.tuple [a,.int ls.length],.tuple [t,.int cs.length]]) (λk Z=>(0<k->RiP ls.length a)/\(1<k->RiP cs.length t)/\∃y3 y4 y5 y6 y7,Z=[S0,S1,S2,y3,y4,y5,y6,y7])
  case h1=>exact Nk (UT (UW jP) (UT (Kt (UT (K4 (UT (KD jP UX Xa) U0) hm) (UT (K4 (UT (KD jP UX X0) U0) hn) U0)) (Qa jP)) U0)) jP
  case h0=>exact⟨λz=>absurd z (by decide),λz=>absurd z (by decide),_,_,_,_,_,rfl⟩
  case hst=>
   rintro i d Z hi ⟨i1,i2,y3,y4,y5,y6,y7,rfl⟩;rcases i with _|_|i
   .cases hi
    refine⟨_,KE jP (Ka (U1 (Qa jP) jP) (Ka (U1 (Qa jP) jP) KF)),?_⟩;by_cases ra:RiP ls.length a
    .obtain⟨as,rfl,ha⟩:=ra
     exact Ss ha (by lia) _ _ _ _ _ _ λ_ _=>⟨λ_=>⟨as,rfl,ha⟩,λz=>absurd z (by decide),_,_,_,_,_,rfl⟩
    .exact O1 sa ra _ _ _ _ _ _ (KN jP)
   .cases hi
    refine⟨_,KE jP (Ka (U1 (Qa jP) jP) (Ka (U1 (Qa jP) jP) KF)),?_⟩;by_cases rt:RiP cs.length t
    .obtain⟨ps,rfl,hp⟩:=rt
     exact Ss hp (by lia) _ _ _ _ _ _ λ_ _=>⟨λ_=>i1 (by decide),λ_=>⟨ps,rfl,hp⟩,_,_,_,_,_,rfl⟩
    .exact O1 st rt _ _ _ _ _ _ (KN jP)
   .cases hi
  case hend=>rintro Z ⟨i1,i2,y3,y4,y5,y6,y7,rfl⟩;obtain⟨as,rfl,ha⟩:=i1 (Nat.zero_lt_succ _);obtain⟨ps,rfl,hp⟩:=i2 (Nat.succ_lt_succ (Nat.zero_lt_succ _));exact absurd ⟨as,ps,rfl,ha,hp⟩ h
 .exact Kc (b:=jR) (O9 jP ht) (λ_=>Ke UX (KN jP)) λz=>by cases z
end
section
variable{cs:jU}{ls:L3}
theorem SQ{k n:Nat}{d:D}(h:Sh k n d){xs:jT}(e:d=.list xs):xs.length<=n:=by
 subst e;have h1:=h.2.2;have h2:=SU xs;simp only[PyData.bulk]at h1
 lia
def ShR(d:D):Prop:=(∃xs,(d=.list xs∨d=.tuple xs)/\xs.length<=20/\∀x∈xs,Sh 1 20 x)∨Sh 1 20 d
theorem ShR.sh{d:D}(h:ShR d):Sh 2 420 d:=by
 rcases h with ⟨xs,e|e,hl,hx⟩|h
 .rw[e];exact(RX hx hl).mono (by decide) (by decide)
 .rw[e];exact(TM hx hl).mono (by decide) (by decide)
 .exact h.mono (by decide) (by decide)
theorem Mx{n:Nat}{as:jU}(ha:Asc n as)(hn:n<=7){w p o:Int}(hp:0<=p)(ho:0<=o/\o<9):∃d,XF [.list (as.map int),.int n,.int w,.int p,.int o]=O d/\ShR d:=by
 refine WQ (Z:=[pb (.list (as.map int)),pb (.int n),pb (.int w),pb (.int p),pb (.int o),jQ,jQ]) jP ?_;unfold VL;have hl:=ha.len
 let so:jT:=[.none,.bool jR,.bool jS,.int (-1),.int n,.str "0", .list [.int 0],.tuple [.int 0],.int (n+10 ^ 20)]
 have hso:∀x∈so,Sh 1 20 x:=by
  intro x hx;simp only[so,Qu,Jo,or_false]at hx;rcases hx with rfl|rfl|rfl|rfl|rfl|rfl|rfl|rfl|rfl
  .exact O4
  .exact Np
  .exact Np
  .exact W5 (by decide)
  .exact W5 (by lia)
  .exact O3 (by decide +kernel) (by decide +kernel) (by decide +kernel)
  .exact(RX (k:=0) (n:=0) (m:=1) (λx hx=>by rw[QN]at hx;subst hx;exact W5 (by decide)) (by decide)).mono (by decide) (by decide)
  .exact(TM (k:=0) (n:=0) (m:=1) (λx hx=>by rw[QN]at hx;subst hx;exact W5 (by decide)) (by decide)).mono (by decide) (by decide)
  .exact W5 (by lia)
 obtain⟨x,hx,hix⟩:∃x∈so,oIx (.list so) (.int o)=O x:=by
  obtain⟨k,rfl⟩:∃k:Nat,o=k:=⟨o.toNat,by lia⟩
  have hk:k<so.length:=by show k<9;lia
  exact⟨so[k],JJ hk,YY (Qh hk)⟩
 have hxs:=hso x hx;have hin:∀y∈as.map int,Sh 1 20 y:=λy hy=>by obtain⟨a,ha',rfl⟩:=QG.mp hy;have:=ha.inn a ha';exact W5 (by lia)
 let S0:Option Sl:=O (.pub (.list (as.map int)))
 let S1:Option Sl:=O (.pub (.int n))
 let S2:Option Sl:=O (.pub (.int w))
 let S3:Option Sl:=O (.pub (.int p))
 let S4:Option Sl:=O (.pub (.int o))
 let S5:Option Sl:=O (.own so)
 let q:Int:=p % ((as.map int).length+1)
 let S6:Option Sl:=O (.pub (.int q))
 refine Ku (Z1:=[S0,S1,S2,S3,S4,S5,jQ]) (Yi (Xh (UT UX (UT UX (UT UX (UT (X5 UX) (UT (UW jP) (UT UX (UT (Kt (UT UX U0) (Qa jP)) (UT (ZS (UT UX U0) (Qa jP)) (UT (U9 (UW jP) (U9 UX UX (Tn (i:=10) (j:=20) (by decide))) ZK) U0))))))))) (Qa jP)) (Qa jP) jP) ?_;refine Ku (Z1:=[S0,S1,S2,S3,S4,S5,S6]) (K2 (U9 (UW jP) (U9 (Zj jP Zc) UX ZK) (YQ (by lia))) (Qa jP) jP) ?_
 have hc:∀(a b:j6),(DL.cutD (as.map int) a b).length<=7/\∀y∈DL.cutD (as.map int) a b,Sh 1 20 y:=λa b=>by
  have hsub:(DL.cutD (as.map int) a b).Sublist (as.map int):=by unfold DL.cutD;exact(List.take_sublist _ _).trans (List.drop_sublist _ _)
  exact⟨Qz hsub.length_le (by rw[Qd];lia),λy hy=>hin y (hsub.subset hy)⟩
 have two:∀{xs ys:jT},xs.length<=8->ys.length<=8->(∀y∈xs,Sh 1 20 y)->(∀y∈ys,Sh 1 20 y)->ShR (.list (xs++ys)):=λ{xs ys} h1 h2 h3 h4=>.inl ⟨_,.inl jP,by rw[Qk];lia,λy hy=>(Q0.mp hy).elim (h3 y) (h4 y)⟩
 by_cases z4:w=4
 .apply Kn
  refine Kc (b:=jR) (KP jP UX (by rw[ZZ,Qw z4])) (λ_=>?_) λz=>by cases z
  have t0:=hc jQ (O q);have t1:=hc (O q) jQ;refine Ke (U9 (U9 (Yw (UW jP) UX (Z8 (UW jP)) YB) (Kt (UT (OI jP (UW jP) jP hix) U0) (Qa jP)) (YV (by rw[Q2];lia))) (Yw (UW jP) (Z8 (UW jP)) UX YB) (YV (by rw[Qk,Q2];lia))) (KN ⟨_,rfl,?_⟩);refine two (by rw[Qk,Q2];lia) (by lia) (λy hy=>?_) t1.2;rcases Q0.mp hy with hy|hy
  .exact t0.2 y hy
  .rw[QN]at hy;subst hy;exact hxs
 refine ZI jP z4 ?_;by_cases z5:w=5
 .apply Kn
  refine Kc (b:=jR) (KP jP UX (by rw[ZZ,Qw z5])) (λ_=>?_) λz=>by cases z
  have t0:=hc jQ (O q);have t1:=hc (O (if q-1 > 0 then q-1 else 0)) jQ;exact Ke (U9 (Yw (UW jP) UX (Z8 (UW jP)) YB) (Yw (UW jP) (Z8 (K4 (UT UX (UT (U9 (UW jP) UX T7) U0)) NQ)) UX YB) (YV (by lia))) (KN ⟨_,rfl,two (by lia) (by lia) t0.2 t1.2⟩)
 refine ZI jP z5 ?_;by_cases z6:w=6
 .apply Kn
  refine Kc (b:=jR) (KP jP UX (by rw[ZZ,Qw z6])) (λ_=>?_) λz=>by cases z
  have t0:=hc jQ (O q);have t1:=hc (O q) jQ;exact Ke (U9 (OG (Yw (UW jP) UX (Z8 (UW jP)) YB) UX UX (Z8 (X5 UX))) (Yw (UW jP) (Z8 (UW jP)) UX YB) (YV (by rw[List.length_reverse];lia))) (KN ⟨_,rfl,two (by rw[List.length_reverse];lia) (by lia) (λy hy=>t0.2 y (List.mem_reverse.mp hy)) t1.2⟩)
 refine ZI jP z6 ?_;by_cases z7:w=7
 .apply Kn
  refine Kc (b:=jR) (KP jP UX (by rw[ZZ,Qw z7])) (λ_=>?_) λz=>by cases z
  have hm:o % 2=0∨o % 2=1:=by lia
  have e0:∃y,oIx (.list [.tuple (as.map int),x]) (.int (o % 2))=O y/\ShR y:=by
   rcases hm with h|h<;>rw[h]
   .exact⟨_,rfl,.inl ⟨_,.inr jP,by rw[Qd];lia,hin⟩⟩
   .exact⟨_,rfl,.inr hxs⟩
  obtain⟨y,hy,hsy⟩:=e0;exact Ke (U9 (Kt (UT (K4 (UT (UW jP) U0) jP) (UT (OI jP (UW jP) jP hix) U0)) (Qa jP)) (U9 (UW jP) UX (YQ (by decide))) hy) (KN ⟨_,rfl,hsy⟩)
 refine ZI jP z7 ?_;exact Ke (K3 (Mb jP jP)) ⟨_,rfl,.inl ⟨_,.inl jP,by rw[Qd];lia,hin⟩⟩
end
section
variable{cs:jU}{ls:L3}
theorem CF{a t:D}(ha:ShR a)(ht:ShR t):ShC (.tuple [a,t]):=λa' t' e=>by cases e;exact⟨λxs e=>by have:=SQ ha.sh e;lia,λxs e=>by have:=SQ ht.sh e;lia⟩
theorem Tf{d:D}(h:∀a t,d≠.tuple [a,t]):ShC d:=λa t e=>absurd e (h a t)
theorem O0{k n:Nat}{a b:D}(h1:Sh k n a)(h2:Sh k n b):∀x∈[a,b],Sh k n x:=λx hx=>by
 simp only[Qu,Jo,or_false]at hx;rcases hx with rfl|rfl
 .exact h1
 .exact h2
theorem CD(g:Good cs ls){as ps:jU}(ha:Asc ls.length as)(hp:Asc cs.length ps)(c s:Int):∃d,WA [Ks cs ls,Zf as ps,.int c,.int s]=O d/\ShC d/\Sh 4 9000 d:=by
 have l7:=g.l7;have c6:=g.c6;refine WQ (Z:=[pb (Ks cs ls),pb (Zf as ps),pb (.int c),pb (.int s),jQ,jQ,jQ,jQ]) jP ?_;unfold VJ;have hn:Kj [.list (cs.map int)]=O (.int cs.length):=by rw[Zc,Qd]
 have hm:Kj [.list (ls.map Ky)]=O (.int ls.length):=by rw[Zc,Qd]
 obtain⟨r',hF,dg,rfl,hdl,hdb⟩:=Tv c s (sizes:=[8,7,9,8,7,9,8,7]) (by decide) (by decide)
 match dg,hdl with
 |[d0,d1,d2,d3,d4,d5,d6,d7],_=>
 have b1:=hdb 1 d1 7 jP jP;have b2:=hdb 2 d2 9 jP jP;have b4:=hdb 4 d4 7 jP jP;have b5:=hdb 5 d5 9 jP jP;have b7:=hdb 7 d7 7 jP jP;obtain⟨a,hA,sa⟩:=Mx (w:=d0) ha (by lia) b1.1 b2;obtain⟨t,hT,st⟩:=Mx (w:=d3) hp (by lia) b4.1 b5;refine Ku (K2 (Kz (UT (UW jP) (UT (UW jP) (UT (Kt (UT UX (UT UX (UT UX (UT UX (UT UX (UT UX (UT UX (UT UX U0)))))))) (Qa jP)) U0))) jP hF) (Qa jP) jP) ?_;refine Ku (K2 (Kz (UT (KD jP UX Os) (UT (K4 (UT (KD jP UX Xa) U0) hm) (UT (KD jP UX jP) (UT (KD jP UX jP) (UT (KD jP UX jP) U0))))) jP hA) (Qa jP) jP) ?_;refine Ku (K2 (Kz (UT (KD jP UX Oq) (UT (K4 (UT (KD jP UX X0) U0) hn) (UT (KD jP UX jP) (UT (KD jP UX jP) (UT (KD jP UX jP) U0))))) jP hT) (Qa jP) jP) ?_;have sA:=sa.sh;have sT:=st.sh;have p2:=TM (m:=2) (O0 sA sT) (Ql _)
 have odd:∀x∈[UD [a,t],.tuple [a],.tuple [a,t,.list []],.none,a,.int 0,.str "cover"],ShC x/\Sh 4 9000 x:=by
  intro x hx;have nl:Sh 2 420 (.list []):=⟨rfl,by simp[UI,PyData.depthAll],by simp[PyData.bulk,PyData.bulkAll]⟩
  simp only[Qu,Jo,or_false]at hx;rcases hx with rfl|rfl|rfl|rfl|rfl|rfl|rfl
  .exact⟨Tf (λ_ _ e=>by cases e),(RX (m:=2) (O0 sA sT) (Ql _)).mono (by decide) (by decide)⟩
  .exact⟨Tf (λ_ _ e=>by cases e),(TM (m:=1) (λx hx=>by rw[QN]at hx;subst hx;exact sA) (Ql _)).mono (by decide) (by decide)⟩
  .refine⟨Tf (λ_ _ e=>by cases e),(TM (k:=2) (n:=420) (m:=3) (λx hx=>?_) (Ql _)).mono (by decide) (by decide)⟩
   simp only[Qu,Jo,or_false]at hx;rcases hx with rfl|rfl|rfl
   .exact sA
   .exact sT
   .exact nl
  .exact⟨Tf (λ_ _ e=>by cases e),O4⟩
  .refine⟨λa' t' e=>?_,sA.mono (by decide) (by decide)⟩
   rcases sa with ⟨xs,e1|e1,hl,hx⟩|h
   .rw[e1]at e;cases e
   .rw[e1]at e
    cases e;have q1:=hx a' (by simp);have q2:=hx t' (by simp);exact⟨λxs e=>by have:=SQ q1 e;lia,λxs e=>by have:=SQ q2 e;lia⟩
   .subst e
    have hb:=h.2.2;simp only[PyData.bulk,PyData.bulkAll]at hb;refine⟨λxs e=>?_,λxs e=>?_⟩
    .subst e
     have:=SU xs;simp only[PyData.bulk]at hb
     lia
    .subst e
     have:=SU xs;simp only[PyData.bulk]at hb
     lia
  .exact⟨Tf (λ_ _ e=>by cases e),W5 (by decide)⟩
  .exact⟨Tf (λ_ _ e=>by cases e),O3 (by decide +kernel) (by decide +kernel) (by decide +kernel)⟩
 by_cases z6:d6=1
 .apply Kn
  refine Kc (b:=jR) (U9 (KD jP UX jP) UX (by rw[ZZ,Qw z6])) (λ_=>?_) λz=>by cases z
  refine Ku (Yi (Xh (UT (Kt (UT (UW jP) (UT (UW jP) U0)) (Qa jP)) (UT (ZS (UT (UW jP) U0) (Qa jP)) (UT (ZS (UT (UW jP) (UT (UW jP) (UT (Kt U0 (Qa jP)) U0))) (Qa jP)) U0))) (Qa jP)) (Qa jP) jP) ?_;obtain⟨k,rfl⟩:∃k:Nat,d7=k:=⟨d7.toNat,by lia⟩
  have hk:k<[UD [a,t],.tuple [a],.tuple [a,t,.list []],.none,a,.int 0,.str "cover"].length:=by show k<7;lia
  refine Ke (U9 (U9 (Zd jP jP) (Kt (UT UX (UT (UW jP) (UT UX (UT UX U0)))) (Qa jP)) (YV (Qa jP))) (KD jP UX jP) (YY (Qh hk))) (KN ⟨_,rfl,odd _ (JJ hk)⟩)
 .apply Kn
  refine Kc (b:=jS) (U9 (KD jP UX jP) UX (by rw[ZZ,Qt z6])) (λz=>by cases z) λ_=>KH (KB ?_)
  exact Ke (ZS (UT (UW jP) (UT (UW jP) U0)) (Qa jP)) ⟨_,rfl,CF sa st,p2.mono (by decide) (by decide)⟩
end
section
variable{cs:jU}{ls:L3}{d r c n:D}{p:Str}
theorem EO(hs:ZC d)(h:KM d=O (p,n)):Rx [d]=O (.exc (exD "NoWishes" [.str p,n])):=XM (Z:=[O (.pub d)]) jP (Ld hs h jP)
theorem RN(hs:ZC d)(h:KM d=O (p,n)):WZ [d,r]=O (.exc (exD "NoWishes" [.str p,n])):=by refine XM (Z:=[pb d,pb r]) jP ?_;unfold Of;exact KU (YS (SS (Yz (UT (UW jP) U0) jP (EO hs h)))) ⟨rfl,rfl⟩
theorem OZ(hs:ZC d)(h:KM d=O (p,n)):Vm [d,r]=O (.exc (exD "NoWishes" [.str p,n])):=by refine XM (Z:=[pb d,pb r]) jP ?_;unfold Oe;exact KU (YS (SS (KG (UW jP) (Yz (UT (UW jP) (UT (UW jP) U0)) jP (RN hs h))))) ⟨rfl,rfl⟩
theorem GZ(hs:ZC d)(h:KM d=O (p,n)):Sf [d,r]=O (.exc (exD "NoWishes" [.str p,n])):=by refine XM (Z:=[pb d,pb r]) jP ?_;unfold PP;exact KU (YS (SS (SS (Yz (UT (UW jP) (UT (UW jP) U0)) jP (OZ hs h))))) ⟨rfl,rfl⟩
theorem GY(hs:ZC d)(h:KM d=O (p,n)):Sm [d,r,c]=O (.exc (exD "NoWishes" [.str p,n])):=by refine XM (Z:=[pb d,pb r,pb c,jQ,jQ,jQ]) jP ?_;unfold P8;apply Kn;exact KU (YS (Yz (UT (UW jP) (UT (UW jP) U0)) jP (RN hs h))) (YU ⟨rfl,rfl⟩)
theorem GX(hs:ZC d)(h:KM d=O (p,n)):Sg [d,c]=O (.exc (exD "NoWishes" [.str p,n])):=XM (Z:=[O (.pub d),O (.pub c),jQ,jQ]) jP (Ld hs h jP)
theorem GW(hs:ZC d)(h:KM d=O (p,n)):Sk [d,r]=O (.exc (exD "NoWishes" [.str p,n])):=by refine XM (Z:=[pb d,pb r,jQ,jQ,jQ,jQ]) jP ?_;unfold Ob;apply Kn;exact KU (YS (Yz (UT (UW jP) (UT (UW jP) U0)) jP (RN hs h))) (YU ⟨rfl,rfl⟩)
theorem Rf{i:Nat}{k w:Int}{s t:SM}{Z:UR}{Q:Out->Prop}(h:Z[i]?=O (O (.pub (.int w))))(h1:w=k->Ho s Z Q)(h2:w≠k->Ho t Z Q):Ho (sIf (Kq oEq i (UV (.int k))) s t) Z Q:=
 Kc (b:=decide (w=k)) (KP h UX ZZ) (λz=>h1 (Qa z)) λz=>h2 (Ja z)
theorem qh(hs:ZC d)(h:KM d=O (p,n)){k:Int}:Wz [.int k,d,r,c]=O (.list [.bool jR,.bool jR,.str p,n]):=by
 refine Zv (Z:=[pb (.int k),pb d,pb r,pb c,jQ,jQ]) jP ?_;unfold VI
 let E:D:=exD "NoWishes" [.str p,n]
 let Z1:UR:=[pb (.int k),pb d,pb r,pb c,O (.own []),jQ]
 refine Ku (Z1:=Z1) (Yi (Xh U0 (Qa jP)) (Qa jP) jP) ?_
 have body:=(show Ho _ Z1 (λo=>o=.ex Z1 E)from Rf (s:=sX (ZH 3 Sm (UU (UQ 1) (UU (UQ 2) (UU (UQ 3) (US))))) λ_ Z=>.nx Z) (i:=0) (k:=0) jP (λ_=>KU (YS (Yz (UT (UW jP) (UT (UW jP) (UT (UW jP) U0))) jP (GY hs h))) jP)
  λ_=>Rf (s:=sX (ZH 2 Sg (UU (UQ 1) (UU (UQ 3) (US)))) λ_ Z=>.nx Z) (i:=0) (k:=1) jP (λ_=>KU (YS (Yz (UT (UW jP) (UT (UW jP) U0)) jP (GX hs h))) jP)
  λ_=>Rf (s:=sX (ZH 2 Sk (UU (UQ 1) (UU (UQ 2) (US)))) λ_ Z=>.nx Z) (i:=0) (k:=2) jP (λ_=>KU (YS (Yz (UT (UW jP) (UT (UW jP) U0)) jP (GW hs h))) jP)
  λ_=>Rf (s:=sX (ZH 2 Sf (UU (UQ 1) (UU (UQ 2) (US)))) λ_ Z=>.nx Z) (t:=sX (ZH 2 Vm (UU (UQ 1) (UU (UQ 2) (US)))) λ_ Z=>.nx Z) (i:=0) (k:=3) jP (λ_=>KU (YS (Yz (UT (UW jP) (UT (UW jP) U0)) jP (GZ hs h))) jP)
  λ_=>KU (YS (Yz (UT (UW jP) (UT (UW jP) U0)) jP (OZ hs h))) jP).out
 refine Ku (Z1:=[pb (.int k),pb d,pb r,pb c,O (.own [.bool jR,.bool jR,.str p,n]),jQ]) (Er body jP (Qa jP) (Yi (Xh (UT (KG (UW jP) (Zx jP)) (UT (KG (UW jP) (Zx jP)) (UT (KG (UW jP) (Zx jP)) (UT (KG (UW jP) (Zx jP)) U0)))) (Qa jP)) (Qa jP) jP) jP) ?_;exact Ke (Zd jP jP) jP
end
theorem EN{xs:jT}:UH xs=jR->∀z∈xs,z.canLay0=jR:=by
 induction xs with
 |nil=>intro _ z hz;cases hz
 |cons y r ih=>
  intro hh z hz;simp only[UH,Qr]at hh;rcases Qu.mp hz with rfl|hz
  .exact hh.1
  .exact ih hh.2 z hz
theorem EM(c:Int):∃z:Int,XE [.int c]=O (.int z):=by
 suffices h:∃d,XE [.int c]=O d/\∃z:Int,d=.int z by obtain⟨d,h1,z,rfl⟩:=h;exact⟨z,h1⟩
 refine WQ (Z:=[pb (.int c)]) jP ?_;unfold VE;apply Kn;refine Kc (U9 (K4 (UT (UW jP) U0) jP) (U9 UX UX (Tn (i:=10) (j:=18) (by decide))) Vd) (λ_=>Ke (UW jP) (KN ⟨_,rfl,_,rfl⟩)) λ_=>KH (KB ?_)
 exact Ke (U9 (UW jP) (U9 UX UX (Tn (i:=10) (j:=12) (by decide))) (T6 (by decide) (by decide))) ⟨_,rfl,_,rfl⟩
theorem CC:∀ns:jU,ns.length<=63->Ww [.list (ns.map int)]=O (.bool jR):=by
 intro ns hns;refine Zv (Z:=[pb (.list (ns.map int)),jQ,jQ,jQ,jQ,jQ,jQ,jQ,jQ,jQ,jQ,jQ,jQ]) jP ?_;unfold VD;obtain⟨r,hr,cs,ls,rfl,g,_⟩:=qW 5 6 4 (ns:=ns) (by lia) 1;have l7:=g.l7;have c6:=g.c6
 let S0:Option Sl:=O (.pub (.list (ns.map int)))
 let S1:Option Sl:=O (.pub (Ks cs ls))
 refine Ku (Z1:=[S0,S1,jQ,jQ,jQ,jQ,jQ,jQ,jQ,jQ,jQ,jQ,jQ]) (K2 (Kz (UT (UW jP) (UT UX (UT UX (UT UX (UT UX U0))))) jP hr) (Qa jP) jP) ?_;refine Ku (Z1:=[S0,S1,S1,jQ,jQ,jQ,jQ,jQ,jQ,jQ,jQ,jQ,jQ]) (K2 (Kz (UT (UW jP) U0) jP (Mo g)) (Qa jP) jP) ?_;obtain⟨v,hv⟩:=PV ns 0 (by lia);apply Kn;apply Yx (λ_ Z=>∃x3 x4 x5 x6 x7 x8 x9 kq kH kC,Z=[S0,S1,S1,x3,x4,x5,x6,x7,x8,x9,kq,kH,kC])
 case h1=>exact Xg (UT (U9 (Kt (UT (Kz (UT (UW jP) (UT UX U0)) jP hv) U0) (Qa jP)) (Yw (UW jP) (Z8 UX) (Z8 UX) YB) (BS (by lia))) U0) Xe
 case h0=>exact⟨_,_,_,_,_,_,_,_,_,_,rfl⟩
 case hst=>
  rintro i d Z hi ⟨x3,x4,x5,x6,x7,x8,x9,kq,kH,kC,rfl⟩;obtain⟨x,hx,rfl⟩:=XX hi;obtain⟨c,rfl⟩:=BU hx;rw[Ju]
  let S3:Option Sl:=O (.pub (.int i))
  let S4:Option Sl:=O (.pub (.int c))
  refine⟨[S0,S1,S1,S3,S4,x5,x6,x7,x8,x9,kq,kH,kC],KE jP (Ka (U1 (Qa jP) jP) (Ka (U1 (Qa jP) jP) KF)),?_⟩;unfold Nw;obtain⟨r,hR⟩:=qS c (31+(i:Int))
  let S5:Option Sl:=O (.pub (.int r))
  refine Ku (Z1:=[S0,S1,S1,S3,S4,S5,x6,x7,x8,x9,kq,kH,kC]) (K2 (Kz (UT (UW jP) (UT (U9 UX (UW jP) ZK) U0)) jP hR) (Qa jP) jP) ?_;obtain⟨_,hC,as,ps,rfl,ha,hp⟩:=qi g r (c / 8) (61+(i:Int))
  let S6:Option Sl:=O (.pub (Zf as ps))
  refine Ku (Z1:=[S0,S1,S1,S3,S4,S5,S6,x7,x8,x9,kq,kH,kC]) (K2 (Kz (UT (UW jP) (UT (UW jP) (UT (U9 (UW jP) UX (T6 (by decide) (by decide))) (UT (U9 UX (UW jP) ZK) U0)))) jP hC) (Qa jP) jP) ?_;obtain⟨z,hz⟩:=EM c;obtain⟨th,hth,s1,s2⟩:=CD g ha hp z (131+(i:Int))
  let S7:Option Sl:=O (.pub th)
  refine Ku (Z1:=[S0,S1,S1,S3,S4,S5,S6,S7,x8,x9,kq,kH,kC]) (K2 (Kz (UT (UW jP) (UT (UW jP) (UT (Kz (UT (UW jP) U0) jP hz) (UT (U9 UX (UW jP) ZK) U0)))) jP hth) (Qa jP) jP) ?_;have hrep:=Ce s2 (by decide) (by decide)
  let S8:Option Sl:=O (.pub (.str th.shown))
  refine Ku (Z1:=[S0,S1,S1,S3,S4,S5,S6,S7,S8,x9,kq,kH,kC]) (K2 (K4 (UT (UW jP) U0) hrep) (Qa jP) jP) ?_
  obtain⟨b,hb1,vm⟩:∃b,YI [Ks cs ls,.int r,th]=O (.bool b)/\Y7 [Ks cs ls,.int r,th]=O (.bool b):=by
   by_cases hco:CoP cs.length ls.length th
   .obtain⟨as',ps',rfl,ha',xx⟩:=hco
    exact⟨_,LV g r ha' xx,jH g r ha' xx⟩
   .exact⟨jS,jl g r s1 hco,jG g r s1 hco⟩
  let S9:Option Sl:=O (.pub (.bool b))
  refine Ku (Z1:=[S0,S1,S1,S3,S4,S5,S6,S7,S8,S9,kq,kH,kC]) (K2 (Kz (UT (UW jP) (UT (UW jP) (UT (UW jP) U0))) jP hb1) (Qa jP) jP) ?_;apply Kn;refine Kc (b:=jS) (Z1:=[S0,S1,S1,S3,S4,S5,S6,S7,S8,S9,kq,kH,kC]) (KR (KQ (t:=jS) (UW jP) jP) (U9 (K4 (UT (UW jP) U0) hrep) (UW jP) Cz)) (λz=>by cases z) λ_=>KH (KB ?_)
  apply Kn;refine Kc (b:=jS) (Z1:=[S0,S1,S1,S3,S4,S5,S6,S7,S8,S9,kq,kH,kC]) (KP jP (Kz (UT (UW jP) (UT (UW jP) (UT (UW jP) U0))) jP vm) (Pi jP (by simp[UI]))) (λz=>by cases z) λ_=>KH (KB ?_)
  refine Kc (Z1:=[S0,S1,S1,S3,S4,S5,S6,S7,S8,S9,kq,kH,kC]) (U9 (U9 (UW jP) UX (YQ (by decide))) UX ZZ) (λ_=>?_) λ_=>KH (Z7 ⟨_,_,_,_,_,_,_,_,_,_,rfl⟩)
  obtain⟨bd,hbd,wb,p,n,xG⟩:=Cd g c (191+(i:Int));have hsm:ZC bd:=EU (SV (by decide) bd wb)
  let S10:Option Sl:=O (.pub bd)
  refine Ku (Z1:=[S0,S1,S1,S3,S4,S5,S6,S7,S8,S9,S10,kH,kC]) (K2 (Kz (UT (UW jP) (UT (UW jP) (UT (U9 UX (UW jP) ZK) U0))) jP hbd) (Qa jP) jP) ?_
  let w:Int:=(i:Int) / 4 % 5
  let S11:Option Sl:=O (.pub (.int w))
  refine Ku (Z1:=[S0,S1,S1,S3,S4,S5,S6,S7,S8,S9,S10,S11,kC]) (K2 (U9 (U9 (UW jP) UX (T6 (by decide) (by decide))) UX (YQ (by decide))) (Qa jP) jP) ?_
  obtain⟨gv,hgv⟩:∃gv,oIx (.list [Zf as ps,th]) (.int (if decide (w=0)=jR then 1 else 0))=O gv:=by
   split
   .exact⟨_,rfl⟩
   .exact⟨_,rfl⟩
  let tw:D:=.list [.bool jR,.bool jR,.str p,n]
  refine Ku (Z1:=[S0,S1,S1,S3,S4,S5,S6,S7,S8,S9,S10,S11,pb tw]) (K2 (Kz (UT (UW jP) (UT (UW jP) (UT (UW jP) (UT (U9 (Kt (UT (UW jP) (UT (UW jP) U0)) (Qa jP)) (K4 (UT (K3 (KP jP UX ZZ)) U0) jP) hgv) U0)))) jP (qh hsm xG)) (Qa jP) jP) ?_;have hf:=BL hsm;rw[xG]at hf;have hadd:Kb (.list [.bool jR,.bool jR]) (fauD (O (p,n)))=O tw:=YV (Qa jP);obtain⟨y1,y2⟩:=CI xG
  have hne:oNe tw tw=O jS:=by
   refine Pi (Ts λx hx=>?_) ?_
   .rcases Qu.mp hx with rfl|hx
    .rfl
    rcases Qu.mp hx with rfl|hx
    .rfl
    .exact EN (xs:=[.str p,n]) y1 x hx
   .simp only[tw,UI,PyData.depthAll]at y2⊢
    lia
  exact Kc (b:=jS) (KP jP (U9 (Kt (UT UX (UT UX U0)) (Qa jP)) (Kz (UT (UW jP) U0) jP hf) hadd) hne) (λz=>by cases z) λ_=>KH (Z7 ⟨_,_,_,_,_,_,_,_,_,_,rfl⟩)
 case hend=>
  rintro Z ⟨x3,x4,x5,x6,x7,x8,x9,kq,kH,kC,rfl⟩;refine KB ?_;have hm:Kj [.list (ls.map Ky)]=O (.int ls.length):=by rw[Zc,Qd]
  let fa:jU:=(UB ls.length).map λj:Nat=>(j:Int)
  have vg:Asc ls.length fa:=⟨by
   rw[J9];exact List.pairwise_lt_range.imp λ{a b} h=>by lia,λa h=>by
   obtain⟨j,hj,rfl⟩:=QG.mp h;have:=Jm.mp hj
   lia⟩
  have xO:Asc cs.length []:=⟨.nil,λa h=>by cases h⟩
  have hcv:cvB 7 ls fa []=jR:=Ml λi rs hi t ht=>.inl (List.contains_iff_mem.mpr (QG.mpr ⟨i,Jm.mpr (Qq.mp hi).1,rfl⟩));have hlc:=LV g 7 vg xO;rw[hcv]at hlc
  have hrg:V6 [.int (ls.length:Int)]=O (fa.map int):=by show X4 [.int (ls.length:Int)]=_;rw[Sc (by lia) (by lia)];unfold ZE;simp only[fa,Int.sub_zero,QY,Int.zero_add,Jr];rfl
  exact Ke (YA (t:=jR) (u:=jR) (K3 (KP jP (UW jP) (ET (Ck cs ls) (Cj cs ls)))) λ_=>K3 (U9 (Kz (UT (UW jP) (UT UX (UT (ZS (UT (K3 (KG (UT (K4 (UT (KD jP UX Xa) U0) hm) U0) (Zx hrg))) (UT (Kt U0 (Qa jP)) U0)) (Qa jP)) U0))) jP hlc) UX jP)) jP
end W
open PySem PySem.W PyProof.Rows
set_option maxRecDepth 100000 in
set_option maxHeartbeats 0 in
theorem PySem.Challenge.cw_wishdeal_k50_odd_covers_holds : PySem.Challenge.rw_wishdeal_k50_odd_covers.Holds := by
 w_on;o_law
 refine holds_open (q:=W.q0) (loose:=[]) (Xt:=λs=>xlAt W.q0 [] s&&recOk [] s) (XP:=XL W.q0 []) (Yf:=DL.xSeen W.clsL) (Ya:=λ_=>DL.xGood W.p0 W.clsL) (YP:=λ_ h=>DL.XYP W.p0 W.clsL h) (N:=4346) (d:=W.d_bx) (kwd:=[])
  W.GT (λ_ _ e=>DL.GC e) (λ_ _ _ y k=>y.keeps k) (λs e=>xl_of s (JM.mp e).1) XL.keeps (by rfl) (by rfl) (by rfl)
  (λs e=>recFacts_of (JM.mp e).2) (by rfl) (by assumption) (by decide +kernel) ⟨rfl,rfl,rfl,rfl,rfl,by decide +kernel⟩ ?hw (W.walk W.CC)
 case hw=>w_witness2


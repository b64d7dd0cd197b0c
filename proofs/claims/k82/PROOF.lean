import PyProof.Rows.All
import Wide.All
import OpenK.AllK
import Wide.FinOn
import Lean
import PyProof.EqAt
import PyProof.EqKinds
import PyProof.TupleCall
import PyProof.EnumMake
import PyProof.ZipIter
import PyProof.ExcClass2
import PyProof.ExcInit
import PyProof.ExcBaseAll.ValueError
import PyProof.FString2
import PyProof.ExcArgsOwn
import PyProof.InstStoreFacts
import ObjForm.Fk.InstStore
import ObjForm.Fk.InstLoad
import PyProof.StationsW
import PyProof.RulesAs
import PyProof.NsDelKeeps
import OpenK.KMore
import PyProof.IsiBase
import OpenK.KNot
import PyProof.Rows.RuleN_isinstance
import PyProof.NeData
import PyProof.P3In
import PyProof.StrWalks
import PyProof.ConsumeWalk
import PyProof.SliceStr2
import PyProof.MeetsStr
import KE.KItem
import KE.KUnpack
import KE.KRevSl
import PyProof.Rows.SetFrom
import PyProof.SetRoads
import PyProof.Rows.Range3
import PyProof.CallType
import PyProof.Rows.CallKwBuiltin
import PyProof.Rows.MinMaxN
import PyProof.SumWalkG
import PyProof.Rows.SeqMore
import PyProof.Rows.SortWalk
import PyProof.Rows.SumAny
import PyProof.Rows.SeqMore2
import KE.KSortTup
import PyProof.Rows.SortShellK
import PyProof.ReprRoads
import PyProof.ReprBulk
import PyProof.CallFns
import PyProof.NeKinds
import PyProof.Rows.StrJoinMade
import PyProof.StrCalls
import KE.KIntText
import PyProof.ReprDict
import PyProof.DictIter
import PyProof.Rows.DictUnroll
import PyProof.MeetsStr2
import PyProof.Rows.StrNews
import PyProof.StrLawsChain
import PyProof.Rows.StrItems
import PyProof.SeqRoads2
import PyProof.Rows.StrNews2
import PyProof.Rows.StrLawsPart
import PyProof.Rows.StrFirst
import PySem.Challenge.RW_wishdeal_k82_copy_by_copy
set_option compiler.extract_closed false
set_option Elab.async false
set_option linter.all false
set_option maxRecDepth 100000
set_option maxHeartbeats 4000000
open Option renaming some→O,none→xN
open Bool renaming true→xO,false→xP
theorem xM.{u}{α:Sort u}{a:α}:a=a:=rfl
abbrev xR:=List Int
abbrev xY:=List Nat
abbrev xZ:=Option Int
abbrev vb:=Option Bool
theorem Qa:type_of% @of_decide_eq_true:=@of_decide_eq_true
theorem Qq:type_of% @if_pos:=@if_pos
theorem Qw:type_of% @if_neg:=@if_neg
theorem QN:type_of% @decide_eq_false:=@decide_eq_false
theorem QW:type_of% @decide_eq_true:=@decide_eq_true
theorem Q6:type_of% @decide_eq_true_eq:=@decide_eq_true_eq
theorem JH:type_of% @of_decide_eq_false:=@of_decide_eq_false
theorem JX:type_of% @congrArg:=@congrArg
theorem JZ:type_of% @decide_eq_decide:=@decide_eq_decide
theorem Uo:type_of% @if_false:=@if_false
open List renaming length_map→Qb,getElem?_eq_getElem→Qe,mem_cons_self→Qf,mem_cons_of_mem→Qh,getElem?_set_ne→Qj,length_append→Qk,getElem?_eq_some_iff→Ql,mem_append_right→Qn,getElem?_map→Qp,length_cons→Qs,mem_map→Qu,mem_append_left→Qv,map_cons→Qx,getElem?_append_left→QA,length_replicate→QB,mem_cons→QC,mem_singleton→QE,getElem?_append_right→QF,flatten_cons→QG,append_nil→QH,map_append→QI,getElem?_replicate→QJ,getElem?_set_self→QK,nodup_append→QL,mem_of_getElem?→QM,mem_append→QO,size_toArray→QQ,length_nil→QT,length_set→QU,nodup_cons→QY,lookup_cons→QZ,replicate_succ→Q0,all_eq_true→Q3,length_singleton→Q4,length_range→Q5,length_take→Q7,append_assoc→Ja,contains_cons→Jb,map_map→Jc,getElem?_eq_none→Jd,sublist_flatten_of_mem→Jh,getD_eq_getElem?_getD→Jj,nil_append→Jk,mem_range→Jl,take_length→Jr,pairwise_cons→Ju,getElem?_cons_succ→Jw,getElem_mem→Jx,map_nil→JA,filter_congr→JC,drop_eq_getElem_cons→JE,getElem_range→JG,mem_replicate→JI,all_cons→JK,filter_eq_self→JP,count_singleton_self→JT,mem_filter→JU,reverse_cons→JV,getElem?_cons_zero→J0,cons_append→J5,zip_cons_cons→J6,length_filter_le→J8,ext_getElem?→J9,take_zero→Ua,mem_of_mem_take→Ub,length_drop→Ud,drop_zero→Uj,mem_flatten→Ul,range→UA,replicate→UB,Pairwise→UL
open PySem renaming wpAny_bind→Qd,wpAny_pure→Qm,wpAny_loadPart_at→Qo,wpAny_mono→QP,wpAny_isSubtype_exc→QR,wpAny_truthy_bool→Q8,mem_of_lookup→Ji,wpAny_standAt→Jn,sizeLine_eq→Jy,codeAny_call_builtin→Jz,wpAny_Call_Name_kw→JJ,wpAny_newObj_type→JM,wpAny_field→JN,Value→Uq,Shared→Ur,Program→Us,Addr→Ut,FuncData→Uu,Expr→Uv,sizeLine→Uw,wpAny→Ux,starEach→Uy,compareOp→Uz,assignEach→UN,foldedSetIterable→UO
open PySem.Heap renaming get?_push_of_some→Qg,lt_size→Qi,get?_push_size→QD,get?_update_other→QX,get?_update_self→Jf,size_push→Jo
open Nat renaming le_refl→Qr,le_trans→Qt,lt_of_lt_of_le→Qy,ne_of_lt→QS,le_of_not_lt→Q2,lt_irrefl→Jm,le_succ→Jp,ne_of_gt→Jq,zero_le→JL,zero_add→JR,le_of_lt→Ug
open Bool renaming and_eq_true→Qz,false_eq_true→JF,and_false→Uc,false_and→Uh,or_true→Ui,true_and→Um
open Int renaming toNat_natCast→Q1,le_refl→JW,zero_add→Uk,not_lt→Up
open PySem.F renaming plainAttrs_list→Q9,slot_list_append→Js,type_list_append→Jt
open Option.some renaming inj→Je
open Array renaming getD_eq_getD_getElem?→Jg,getElem?_eq_some_iff→JB,getElem?_eq_getElem→JS,length_toList→Ue
open PySem.W.Fast renaming te1987589406359920131→Jv
open PySem.W renaming kia_one→JD
open Option renaming map_some→JO,getD_some→JY,bind_some→J4
open PyProof.Rows renaming callWith_type1→JQ
open Array.Perm renaming refl→Uf
open PySem.PyData renaming list→UC,bool→UD,str→UE,strOk→UF,canLayAll0→UG,depth→UH,eqv→UI,shown→UM
open PySem.PassesOwn renaming never→UJ
open PySem.Str renaming ofString→UK
abbrev xS:=List Uq
abbrev xU:=List Uv
abbrev xV:=Option Uq
abbrev xW:=List Ut
abbrev va:=Option Ut
abbrev L3:=List (List xR)
abbrev LO:=List xZ
abbrev LP:=List (Int×Int)
open PySem.W (Frag)
open PySem.PyData (int)
open List (replicate)
namespace DL
open PySem PySem.Spec PySem.W PyProof.Rows
def topRunT(tb:String->Option Builtin)(p:Us)(w:World)(m:Nat)(ann:xV):Nat->SharedT->Thread->Option SharedT
 |0,_,_=>xN
 |n+1,s,t=>match through t,stepOk m ann t with
  |true,_=>O s
  |false,xP=>xN
  |false,xO=>match stepT (denote tb) p w s t with
   |some x=>topRunT tb p w m ann n x.1 x.2
   |none=>xN
theorem HQ{tb:String->Option Builtin}{p:Us}{w:World}{m:Nat}{ann:xV}:∀{n:Nat}{s s':SharedT}{t:Thread},topRunT tb p w m ann n s t=O s'->topRun tb p w m ann n s.abs t=O s'.abs
 |0,_,_,_,h=>by cases h
 |n+1,s,s',t,h=>by
  rw[topRunT]at h;rw[topRun];cases ht:through t with
  |true=>rw[ht]at h;cases h;rfl
  |false=>
   rw[ht]at h;cases hk:stepOk m ann t with
   |false=>rw[hk]at h;cases h
   |true=>
    rw[hk]at h;dsimp only at h⊢;cases hs:stepT (denote tb) p w s t with
    |none=>rw[hs]at h;cases h
    |some x=>rw[hs]at h;rw[stepT_spec hs];exact HQ h
def btOf(l:List Obj):BT:=(l.foldl (λ(x:BT×Nat) o=>(x.1.ins x.2 o,x.2+1)) (.nil,0)).1
noncomputable def T0 (w:World) (os:OsState):SharedT:=⟨btOf (boot_heap w.params).objs.toList,11,(boot_heap w.params).life,#[],boot_drawn,boot_toks,os⟩
theorem Ay(w:World)(os:OsState):(T0 w os).abs=⟨boot_heap w.params,#[],boot_drawn,boot_toks,os⟩:=by kernel_rfl
theorem jT(w:World):((boot_heap w.params).isNs mainGlobals&&(#[]:Array GenState).size==0,(boot_heap w.params).objs.size,(boot_heap w.params).nsMap mainGlobals "__annotations__")=(xO,11,O (.ref 6)):=by kernel_rfl
noncomputable abbrev Fj (p q:Us) (loose:List Str) (Xt:Ur->Bool) (w:World) (t:SharedT):=
 ((staticsOk (importedModules p.main.body) (boot_heap w.params) t.abs.heap&&namesBound p t.abs.heap&&gensDone t.abs&&laidKept (boot_heap w.params) t.abs.heap),openSeen q loose (importedModules p.main.body) Xt xO t.abs)
abbrev VB0:xS:=[.type "ValueError", .type "Exception", .type "BaseException", .type "object"]
def PR:List Str:=["__setattr__", "__getattribute__", "__getattr__", "__class__", "part", "number", "row"]
def W3(nm:Str):Str:=nm ++ "." ++ "__init__"
def xB(h:Heap)(nm:Str)(own:Bool):Bool:=match h.nsMap mainGlobals nm with
 |some (.ref C)=>(match h.get? C with
  |some ⟨.type t,_,.cls cd,sl⟩=>(t == "type")&&(cd.name==nm)&&cd.hasDict && !cd.hasDel&&(match sl.toList with | [_,_,_,_,k4,_]=>decide (k4=O (.builtin "ValueError.__new__"))|_=>xP)&&h.isNs cd.ns&&(PR.all λx=>(h.nsMap cd.ns x).isNone)&&(own || (h.nsMap cd.ns "__init__").isNone) &&
   (if nm = "DealError" then decide (cd.mro=.ref C::VB0)else match h.nsMap mainGlobals "DealError" with|some (.ref D)=>decide (cd.mro=.ref C::.ref D::VB0)|_=>xP)
  |_=>xP)
 |_=>xP
def xSh(h:Heap)(nm:Str):Option (Bool×FnShape):=match h.nsMap mainGlobals nm with
 |some (.ref C)=>(match h.get? C with
  |some ⟨_,_,.cls cd,_⟩=>(match h.fnAt cd.ns "__init__", h.shapeAt cd.ns "__init__" with|some (_,o,_),O sh=>O (decide (o.cls=.type "function"),sh)|_,_=>xN)
  |_=>xN)
 |_=>xN
def YL(st:Stmt):Stmt:=match st with
 |.ClassDef _ _ _ (m::_) _ _ _ _ _ _ _=>m
 |_=>.Pass ⟨0,0,0,0⟩
def NI(s:Stmt):Arguments:=match s with
 |.FunctionDef _ a _ _ _ _ _ _ _ _=>a
 |_=>default
def NH(s:Stmt):List Stmt:=match s with
 |.FunctionDef _ _ b _ _ _ _ _ _ _=>b
 |_=>[]
def Mc(s:Stmt):Scope:=match s with
 |.FunctionDef _ _ _ _ _ _ sc _ _ _=>sc
 |_=>{kind:=.function,names:=[],isGenerator:=xP,isCoroutine:=xP}
def V2(nm:Str)(st:Stmt):FnShape:=⟨"__init__", W3 nm,NI st,.stmts (NH st),Mc st,mainGlobals,[],.none,.none,xN,.none,builtinsNs,xO⟩
abbrev XL0:=List (Str×Option Nat)
def xSeen(l:XL0)(s:Ur):Bool×List (Bool×Option (Bool×FnShape)):=(s.heap.isNs cStatics&&(s.heap.nsMap cStatics "thirdparty.any").isNone,l.map λc=>(xB s.heap c.1 c.2.isSome,if c.2.isSome then xSh s.heap c.1 else xN))
def xGood(p:Us)(l:XL0):Bool×List (Bool×Option (Bool×FnShape)):=(xO,l.map λc=>(xO,c.2.map λi=>(xO,V2 c.1 (YL (p.main.body.getD i (.Pass ⟨0,0,0,0⟩))))))
theorem Ax{α:Type}{Yf:Ur->α}{Ya:World->α}{p q:Us}{loose:List Str}{Xt:Ur->Bool}{N M:Nat}(e:opening p=plainProg p.main.scope.names)(hN:Nat.ble 600 N=xO)(f:∀s,fenceModules? p s=O s)(le:Nat.ble M N=xO)
  (run:∀(w:World)(os:OsState),(topRunT treeTable p w 11 (O (.ref 6)) M (T0 w os) (topStub p)).map (λt=>(Fj p q loose Xt w t,Yf t.abs))=O ((xO,openGood q loose),Ya w)):LeftO p q loose Xt Yf Ya N:=λw=>by
 obtain⟨⟨h,gs,d,k,os⟩,e0,e'⟩:=Option.map_eq_some_iff.mp (boot_open e hN f w);have e':(h,gs,d,k)=(boot_heap w.params,#[],boot_drawn,boot_toks):=e';obtain⟨rfl,rfl,rfl,rfl⟩:h=boot_heap w.params/\gs=#[]/\d=boot_drawn/\k=boot_toks:=by simpa only[Prod.mk.injEq]using e'
 obtain⟨t,ht,l⟩:=Option.map_eq_some_iff.mp (run w os);have hr:=HQ ht;rw[Ay]at hr;have r:=topRun_mono (N-M) _ _ _ _ hr;rw[show M+(N-M)=N by have:=Nat.le_of_ble_eq_true le;lia]at r;obtain⟨l0,l3⟩:=Prod.mk.inj l;obtain⟨l1,l2⟩:=Prod.mk.inj l0;have z:=jT w;obtain⟨z1,z2,z3⟩:_/\_/\_:=by simpa only[Prod.mk.injEq]using z
 have tf:topFrom treeTable p w N ⟨boot_heap w.params,#[],boot_drawn,boot_toks,os⟩=O t.abs:=by
  unfold topFrom;dsimp only;rw[z1,z2,z3,r]
  show(match staticsOk (importedModules p.main.body) (boot_heap w.params) t.abs.heap&&namesBound p t.abs.heap&&gensDone t.abs&&laidKept (boot_heap w.params) t.abs.heap with|true=>O t.abs|false=>xN)=_
  rw[l1]
 unfold openEnds;rw[e0]
 show(topFrom treeTable p w N _).map _=_
 rw[tf];exact JX O (Prod.ext l2 l3)
end DL
open PySem in
lay_quick PySem.Challenge.pw_wishdeal_k82_copy_by_copy DL.topRunT PySem.W.openGood PySem.W.staticsOk PySem.W.namesBound PySem.W.laidKept PySem.W.xlAt DL.xSeen DL.xGood
namespace W
open PySem PySem.Spec DL
noncomputable abbrev p0:Us:=PySem.Challenge.pw_wishdeal_k82_copy_by_copy
noncomputable def Xq:xY:=[1,2,3,4,5,6,7,8,9,10,11,12,13,14,16,17,19,20,21,22,23,24,25,26,27,29,30,31,32,33,35,36,37,38,39,40,41,42,43,44,45,46,47,48,49,50]
noncomputable def ixL:xY:=[16,17,23,24,25,26,27,29,30,31,32,33,35,36,37,38,39,40,41,42,43,44,45,46,47,48,49,50]
noncomputable abbrev q0:Us:=PySem.W.view p0 Xq
noncomputable def clsL:XL0:=[("DealError", O 1),("NoWishes", O 2),("NoAim", O 3),("NoText", O 4),("NoWay", xN),("NoPlace", xN),("NoChange", xN),("NoNumbering", xN),("NoJoin", xN),("NoBook", xN),("NoDeed", xN),("NoRow", xN),("NoName", xN),("TooMany", xN)]
theorem Fi:∀(w:World)(os:OsState),(PySem.W.Fast.tw10708255244068714335 PySem.W.Fast.tw14364793385576792824 PySem.W.Fast.tw18444593148757970902 w 11 (O (.ref 6)) 4131 (T0 w os) (PySem.W.topStub PySem.W.Fast.tw18444593148757970902)).map (λt=>(((PySem.W.Fast.tw13471830651028734593 (PySem.W.Fast.tw5923862056798008813 (Program.main PySem.W.Fast.tw18444593148757970902).body) (PySem.W.boot_heap w.params) t.abs.heap&&PySem.W.Fast.tw4683006035507612052 PySem.W.Fast.tw18444593148757970902 t.abs.heap&&PySem.W.gensDone t.abs&&PySem.W.Fast.tw16898566250750103049 (PySem.W.boot_heap w.params) t.abs.heap),PySem.W.Fast.tw4187177175401517315 (PySem.W.view PySem.W.Fast.tw18444593148757970902 Xq) [] (PySem.W.Fast.tw5923862056798008813 (Program.main PySem.W.Fast.tw18444593148757970902).body) (λs=>PySem.W.Fast.tw4757257242682413121 (PySem.W.view PySem.W.Fast.tw18444593148757970902 Xq) [] s&&PySem.W.recOk [] s) xO t.abs),PySem.W.Fast.tw11121216462471823999 clsL t.abs))=O ((xO,PySem.W.Fast.tw3486900944545009338 (PySem.W.view PySem.W.Fast.tw18444593148757970902 Xq) []),PySem.W.Fast.tw18030470931243306169 PySem.W.Fast.tw18444593148757970902 clsL):=by intro w os;kernel_rfl
theorem Fh:PySem.W.LeftO p0 q0 [] (λs=>PySem.W.xlAt q0 [] s&&PySem.W.recOk [] s) (xSeen clsL) (λ_=>xGood p0 clsL) 8162:=by
 refine Ax (M:=4131) (by kernel_rfl) xM (λs=>by kernel_rfl) xM λw os=>?_
 have h:=Fi w os;rw[←PySem.W.Fast.te10708255244068714335,←PySem.W.Fast.te14364793385576792824,←PySem.W.Fast.te4187177175401517315,←PySem.W.Fast.te5923862056798008813,←PySem.W.Fast.te13471830651028734593,←PySem.W.Fast.te4683006035507612052,←PySem.W.Fast.te16898566250750103049,←PySem.W.Fast.te4757257242682413121,←PySem.W.Fast.te3486900944545009338,←PySem.W.Fast.te11121216462471823999,←PySem.W.Fast.te18030470931243306169,←PySem.W.Fast.te18444593148757970902]at h;exact h
end W
namespace L2
open PySem PySem.Spec PyProof.Rows
abbrev Key:=Sum Int Str
noncomputable def NG:Key->Uq->Bool
 |.inl k,v=>Value.isInt k v
 |.inr x,v=>Value.isStrOf x v
noncomputable def keyH(w:World):Key->Int
 |.inl k=>hashInt k
 |.inr x=>hashStr w x
theorem Ww:∀{k:Key}{v:Uq},NG k v=xO->(∃i t,k=Sum.inl i/\v=Value.int i t)∨(∃x t,k=Sum.inr x/\v=Value.str x t)
 |.inl i,v,h=>by obtain⟨t,e⟩:=Value.isInt_shape (k:=i) (v:=v) h;exact .inl ⟨i,t,rfl,e⟩
 |.inr x,v,h=>by obtain⟨t,e⟩:=Value.isStrOf_shape (x:=x) (v:=v) h;exact .inr ⟨x,t,rfl,e⟩
theorem E6(a b:Int):decide ((Sum.inl a:Key)=Sum.inl b)=(a==b):=by
 by_cases e:a=b
 .subst e;simp
 .have h:¬(Sum.inl a:Key)=Sum.inl b:=λq=>e (Sum.inl.inj q)
  rw[QN h];exact(beq_eq_false_iff_ne.mpr e).symm
theorem E5(a b:Str):decide ((Sum.inr a:Key)=Sum.inr b)=decide (a=b):=by
 by_cases e:a=b
 .subst e;simp
 .have h:¬(Sum.inr a:Key)=Sum.inr b:=λq=>e (Sum.inr.inj q)
  rw[QN h,QN e]
theorem E4(a:Int)(b:Str):decide ((Sum.inl a:Key)=Sum.inr b)=xP:=QN (λq=>nomatch q)
theorem E3(a:Str)(b:Int):decide ((Sum.inr a:Key)=Sum.inl b)=xP:=QN (λq=>nomatch q)
noncomputable def P6(prog:Us)(w:World):PySem.KeyKind prog w Key where
 is:=NG
 hash:=keyH w
 inj:=λv a b ha hb=>by
  rcases Ww ha with ⟨i,t,rfl,rfl⟩|⟨x,t,rfl,rfl⟩
  .rcases Ww hb with ⟨j,u,rfl,e⟩|⟨y,u,rfl,e⟩
   .injection e with e1 _;rw[e1]
   .exact nomatch e
  .rcases Ww hb with ⟨j,u,rfl,e⟩|⟨y,u,rfl,e⟩
   .exact nomatch e
   .injection e with e1 _;rw[e1]
 byValue:=λk v h=>by rcases Ww h with ⟨i,t,rfl,rfl⟩|⟨x,t,rfl,rfl⟩<;>rfl
 pyHash:=λhv h=>by
  rcases Ww hv with ⟨i,t,rfl,rfl⟩|⟨x,t,rfl,rfl⟩
  .exact wpAny_pyHash_int h
  .exact wpAny_pyHash_str h
 eqBool:=λhu hv h=>by
  rcases Ww hu with ⟨i,t,rfl,rfl⟩|⟨x,t,rfl,rfl⟩
  .rcases Ww hv with ⟨j,u,rfl,rfl⟩|⟨y,u,rfl,rfl⟩
   .rw[E6]at h;exact wpAny_eqBool_int h
   .rw[E4]at h;exact SeqAt.EqAt.int_str i t y u _ _ _ _ h
  .rcases Ww hv with ⟨j,u,rfl,rfl⟩|⟨y,u,rfl,rfl⟩
   .rw[E3]at h;exact SeqAt.EqAt.str_int x t j u _ _ _ _ h
   .rw[E5]at h;exact wpAny_eqBool_str h
 «strs»:=λk x t v h=>by
  rcases Ww h with ⟨i,u,rfl,e⟩|⟨y,u,rfl,e⟩
  .exact nomatch e
  .injection e with e1 _
   subst e1;cases v<;>rfl
inductive V where
 |non|bl (b:Bool)|int (i:Int)|str (x:Str)|byt (b:Array UInt8)|flt (b:UInt64)|ref (a:Ut)|ty (n:String)
 deriving DecidableEq
noncomputable def RelV:V->Uq->Prop
 |.non,u=>u=Value.none
 |.bl b,u=>u=Value.bool b
 |.int i,u=>∃t,u=Value.int i t
 |.str x,u=>∃t,u=Value.str x t
 |.byt b,u=>∃t,u=Value.bytes b t
 |.flt b,u=>∃t,u=Value.float b t
 |.ref a,u=>u=Value.ref a
 |.ty n,u=>u=Value.type n
noncomputable abbrev Vals:List V->xS->Prop:=Paired RelV
theorem Vals.length{xs:List V}{us:xS}(r:Vals xs us):xs.length=us.length:=Paired.length r
theorem Vals.get:∀{xs:List V}{us:xS}{i:Nat}{x:V},Vals xs us->xs[i]?=O x->∃u,us[i]?=O u/\RelV x u
 |_,_,_,_,.nil,e=>by simp at e
 |_,_,0,_,.cons r _,e=>by simp at e;subst e;exact⟨_,rfl,r⟩
 |_,_,i+1,x,.cons _ t,e=>by obtain⟨u,h1,h2⟩:=Vals.get (i:=i) (x:=x) t (by simpa using e);exact⟨u,by simpa using h1,h2⟩
theorem Vals.set{x:V}{u:Uq}(r:RelV x u):∀{xs:List V}{us:xS}(i:Nat),Vals xs us->Vals (xs.set i x) (us.set i u)
 |_,_,_,.nil=>.nil
 |_,_,0,.cons _ t=>.cons r t
 |_,_,i+1,.cons q t=>.cons q (Vals.set r i t)
theorem Vals.append:∀{xs ys:List V}{us ws:xS},Vals xs us->Vals ys ws->Vals (xs++ys) (us++ws)
 |_,_,_,_,.nil,s=>s
 |_,_,_,_,.cons r t,s=>.cons r (Vals.append t s)
theorem Vals.take:∀{xs:List V}{us:xS}(n:Nat),Vals xs us->Vals (xs.take n) (us.take n)
 |_,_,0,_=>.nil
 |_,_,_+1,.nil=>.nil
 |_,_,n+1,.cons r t=>.cons r (Vals.take n t)
theorem Vals.drop:∀{xs:List V}{us:xS}(n:Nat),Vals xs us->Vals (xs.drop n) (us.drop n)
 |_,_,0,r=>r
 |_,_,_+1,.nil=>.nil
 |_,_,n+1,.cons _ t=>Vals.drop n t
noncomputable def XJ:Option V->xV->Prop
 |some v,O u=>RelV v u
 |none,xN=>True
 |_,_=>False
noncomputable def KV{κ:Type}:List (κ×V)->List (κ×Uq)->Prop:=Paired λ(p:κ×V) (q:κ×Uq)=>p.1=q.1/\RelV p.2 q.2
noncomputable def kV:Key->V
 |.inl i=>.int i
 |.inr x=>.str x
inductive HO where
  |lst (xs:List V)
  |tup (xs:List V)
  |dK (kvs:List (Key×V))|dT (kvs:List (List Key×V))
  |set (S:Int->Bool) (n:Nat)
  |ins (C dx:Ut) (fs:List (Str×V))
  |own (x:Ut)
  |xd (fs:List (Str×V))
  |met (f x:Ut)
  |rng (lo hi:Int)
  |frz (o:Obj) (u:HO)
  |tbl (ps:Array Uq)
  |ext (φ:Heap->Prop)
abbrev Hp:=Ut->Option HO
noncomputable def upd(H:Hp)(a:Ut)(o:HO):Hp:=λb=>if b=a then O o else H b
theorem Ks{H:Hp}{a:Ut}{o:HO}:upd H a o a=O o:=by unfold upd;rw[Qq xM]
theorem Ki{H:Hp}{a b:Ut}{o:HO}(h:b≠a):upd H a o b=H b:=by unfold upd;rw[Qw h]
theorem Lc{H:Hp}{a:Ut}{o u:HO}:upd (upd H a o) a u=upd H a u:=by funext b;unfold upd;split<;>rfl
theorem Yo{H:Hp}{a b:Ut}{o:HO}(h:H a=O o)(h':H b=xN):a≠b:=by intro e;subst e;rw[h]at h';cases h'
section
variable(P:Us)(w:World)
noncomputable def Zj(H:Hp)(h:Heap)(a:Ut):HO->Prop
 |.lst xs=>xs.length<=Uw/\∃(its:xS)(n:Nat),Vals xs its/\h.get? a=O {cls:=.type "list", data:=.seq its.toArray n}
 |.tup xs=>xs.length<=Uw/\∃its:xS,Vals xs its/\IsTup h a its.toArray
 |.dK kvs=>kvs.length<=Uw/\(a==sysModules)=xP/\∃vs,KV kvs vs/\h.DictOf (P6 P w) a vs
 |.dT kvs=>kvs.length<=Uw/\(a==sysModules)=xP/\∃xs:List (List Key×Ut×Uq),
   Paired (λ(p:List Key×V) (q:List Key×Ut×Uq)=>p.1=q.1/\H q.2.1=O (.tup (p.1.map kV))/\RelV p.2 q.2.2) kvs xs /\
   ∃o es ep,h.get? a=O o/\o.ExactDict/\o.data=.dict es ep/\es.toList=xs.map (entryOfKey (tupleKind (P6 P w)))/\(xs.map (·.1)).Nodup
 |.set S n=>h.SetOf (intKind P w) a S n
 |.ins C dx fs=>H dx=O (.own a)/\fs.length<=1000/\dx≠a/\h.get? a=O (PySem.W.instObj C dx) /\
   ∃mA,h.Ns1 dx mA/\(∀f,XJ (fs.lookup f) (mA f))/\PySem.Within mA (fs.map (·.1))
 |.own _=>∃o,h.get? a=O o
 |.xd fs=>∃mA,h.Ns1 a mA/\∀f,XJ (fs.lookup f) (mA f)
 |.rng lo hi=>∃t u v,h.get? a=O {cls:=.type "range", data:=.fields #[.int lo t,.int hi u,.int 1 v]}
 |.frz o u=>h.get? a=O o/\Zj H h a u
 |.tbl ps=>h.get? a=O {cls:=.none,data:=.fields ps}
 |.met f x=>h.get? a=O (PySem.W.methodObj (.ref f) (.ref x))
 |.ext φ=>φ h/\(∃o,h.get? a=O o)/\∀h1 h2:Heap,φ h1->(∀o,h1.get? a=O o->h2.get? a=O o)->φ h2
def HOk(H:Hp)(h:Heap):Prop:=∀a o,H a=O o->Zj P w H h a o
end
section
variable{P:Us}{w:World}{H H':Hp}{h h':Heap}{a:Ut}{o:HO}
theorem Zj.lt(x:Zj P w H h a o):a<h.objs.size:=by
 cases o with
 |lst xs=>obtain⟨_,_,_,_,e⟩:=x;exact Qi e
 |tup xs=>obtain⟨_,_,_,p⟩:=x;exact p.lt
 |dK kvs=>obtain⟨_,_,_,_,o,_,_,e,_⟩:=x;exact Qi e
 |dT kvs=>obtain⟨_,_,_,_,o,_,_,e,_⟩:=x;exact Qi e
 |set S n=>obtain⟨o,_,_,_,e,_⟩:=x;exact Qi e
 |ins C dx fs=>obtain⟨_,_,_,e,_⟩:=x;exact Qi e
 |own y=>obtain⟨_,e⟩:=x;exact Qi e
 |xd fs=>obtain⟨_,⟨_,_,_,e,_⟩,_⟩:=x;exact Qi e
 |rng lo hi=>obtain⟨_,_,_,e⟩:=x;exact Qi e
 |frz ob u=>obtain⟨e,_⟩:=x;exact Qi e
 |tbl ps=>exact Qi (show h.get? a=O _ from x)
 |met f y=>exact Qi (show h.get? a=O _ from x)
 |ext φ=>obtain⟨_,⟨_,e⟩,_⟩:=x;exact Qi e
theorem Paired.mapP{α β:Type}{F G:α->β->Prop}:∀{l₁:List α}{l₂:List β},Paired F l₁ l₂->(∀a b,F a b->G a b)->Paired G l₁ l₂
 |_,_,.nil,_=>.nil
 |_,_,.cons r t,f=>.cons (f _ _ r) (Paired.mapP t f)
theorem Zj.stay(x:Zj P w H h a o)(k:∀b u,(b=a∨H b=O (.own a))->h.get? b=O u->h'.get? b=O u)
  (ho:∀b,H b=O (.own a)->H' b=O (.own a)) (ht:∀b xs,H b=O (.tup xs)->H' b=O (.tup xs)):Zj P w H' h' a o:=by
 induction o with
 |lst xs=>obtain⟨z,its,n,r,e⟩:=x;exact⟨z,its,n,r,k _ _ (.inl xM) e⟩
 |tup xs=>obtain⟨z,its,r,ob,e,c⟩:=x;exact⟨z,its,r,ob,k _ _ (.inl xM) e,c⟩
 |dK kvs=>obtain⟨z,y,vs,r,ob,es,ep,e,c⟩:=x;exact⟨z,y,vs,r,ob,es,ep,k _ _ (.inl xM) e,c⟩
 |dT kvs=>obtain⟨z,y,xs,r,ob,es,ep,e,c⟩:=x;exact⟨z,y,xs,Paired.mapP r λp q z=>⟨z.1,ht _ _ z.2.1,z.2.2⟩,ob,es,ep,k _ _ (.inl xM) e,c⟩
 |set S n=>obtain⟨ob,es,ep,t,e,c⟩:=x;exact⟨ob,es,ep,t,k _ _ (.inl xM) e,c⟩
 |ins C dx fs=>obtain⟨d,z,ne,e,mA,⟨od,es,ep,e2,c⟩,r⟩:=x;exact⟨ho _ d,z,ne,k _ _ (.inl xM) e,mA,⟨od,es,ep,k _ _ (.inr d) e2,c⟩,r⟩
 |own y=>obtain⟨ob,e⟩:=x;exact⟨ob,k _ _ (.inl xM) e⟩
 |xd fs=>obtain⟨mA,⟨od,es,ep,e,c⟩,r⟩:=x;exact⟨mA,⟨od,es,ep,k _ _ (.inl xM) e,c⟩,r⟩
 |rng lo hi=>obtain⟨t,u,v,e⟩:=x;exact⟨t,u,v,k _ _ (.inl xM) e⟩
 |frz ob u ih=>obtain⟨e,q⟩:=x;exact⟨k _ _ (.inl xM) e,ih q⟩
 |tbl ps=>have e:h.get? a=O {cls:=.none,data:=.fields ps}:=x;show h'.get? a=O {cls:=.none,data:=.fields ps};exact k a _ (.inl xM) e
 |met f y=>have e:h.get? a=O (PySem.W.methodObj (.ref f) (.ref y)):=x;show h'.get? a=O (PySem.W.methodObj (.ref f) (.ref y));exact k a _ (.inl xM) e
 |ext φ=>obtain⟨p,⟨o,e⟩,st⟩:=x;exact⟨st _ _ p λo q=>k _ _ (.inl xM) q,⟨o,k _ _ (.inl xM) e⟩,st⟩
theorem HOk.lt(x:HOk P w H h)(e:H a=O o):a<h.objs.size:=(x a o e).lt
theorem HOk.fresh(x:HOk P w H h)(e:h.objs.size<=a):H a=xN:=by
 cases q:H a with
 |none=>rfl
 |some u=>exact absurd (Qy (x.lt q) e) (Jm _)
theorem HOk.kept(x:HOk P w H h)(k:∀b u,h.get? b=O u->h'.get? b=O u):HOk P w H h':=λa o e=>
 (x a o e).stay (λb u _ q=>k b u q) (λ_ q=>q) λ_ _ q=>q
theorem HOk.laid(x:HOk P w H h)(k:∀b u,h.get? b=O u->h'.get? b=O u)(hp:h.objs.size<=a)(new:Zj P w (upd H a o) h' a o):HOk P w (upd H a o) h':=λb u e=>by
 have hn:=x.fresh hp;by_cases hb:b=a
 .subst hb;rw[Ks]at e;cases e;exact new
 .rw[Ki hb]at e
  exact(x b u e).stay (λc v _ q=>k c v q) (λc q=>by rw[Ki (Yo q hn)];exact q) λc xs q=>by rw[Ki (Yo q hn)];exact q
end
def Rd(H:Hp)(a:Ut)(u:HO):Prop:=H a=O u ∨ ∃o,H a=O (.frz o u)
theorem Rd.ok{P:Us}{w:World}{H:Hp}{h:Heap}{a:Ut}{u:HO}(r:Rd H a u)(x:HOk P w H h):Zj P w H h a u:=by
 rcases r with r|⟨o,r⟩
 .exact x a u r
 .obtain⟨_,q⟩:=x a _ r
  exact q
noncomputable def Mut:Option HO->Prop
 |some (.lst _)=>True
 |some (.dK _)=>True
 |some (.dT _)=>True
 |some (.set _ _)=>True
 |some (.ins _ _ _)=>True
 |some (.ext _)=>True
 |_=>False
section
variable{P:Us}{w:World}{H:Hp}{h h':Heap}{x e:Ut}{o':HO}
theorem HOk.write(ok:HOk P w H h)(mu:Mut (H x))(he:e=x∨H e=O (.own x))(k:∀b u,b≠e->h.get? b=O u->h'.get? b=O u)(wT:∃u,h'.get? e=O u)
  (new:Zj P w (upd H x o') h' x o'):HOk P w (upd H x o') h':=λb u q=>by
 have nown:∀c y,H c=O (.own y)->c≠x:=λc y r z=>by subst z;rw[r]at mu;exact mu
 have ntup:∀c xs,H c=O (.tup xs)->c≠x:=λc xs r z=>by subst z;rw[r]at mu;exact mu
 by_cases hb:b=x
 .subst hb;rw[Ks]at q;cases q;exact new
 .rw[Ki hb]at q
  by_cases vS:b=e
  .have q':H b=O (.own x):=by
    rcases he with z|z
    .exact absurd (vS.trans z) hb
    .rw[vS];exact z
   rw[q]at q';cases q';obtain⟨v,hv⟩:=wT;exact⟨v,by rw[vS];exact hv⟩
  .refine(ok b u q).stay (λc v hc r=>k c v ?_ r) (λc r=>by rw[Ki (nown c b r)];exact r) λc xs r=>by rw[Ki (ntup c xs r)];exact r
   rcases hc with rfl|hc
   .exact vS
   .rintro rfl
    rcases he with z|z
    .exact nown c b hc z
    .rw[hc]at z;cases z;exact hb xM
end
structure Un(fs ex:xW)(H H':Hp)(h h':Heap):Prop where
 keep:∀b o,h.get? b=O o->H b=xN->b∉fs->b∉ex->h'.get? b=O o
 slot:∀b o,h.get? b=O o->H b=xN->b∈fs->b∉ex->∃sl,h'.get? b=O {o with slots:=sl}
 free:∀b o,h.get? b=O o->H b=xN->b∉ex->H' b=xN
 there:∀b o,h.get? b=O o->b∉ex->∃o',h'.get? b=O o'
 tups:∀b xs,H b=O (.tup xs)->H' b=O (.tup xs)
 frzs:∀b o u,H b=O (.frz o u)->H' b=O (.frz o u)
 tbls:∀b ps,H b=O (.tbl ps)->∃more,H' b=O (.tbl (ps++more))
section
variable{fs fs' ex ex':xW}{H H1 H2:Hp}{h h1 h2 h':Heap}{a x e:Ut}{o:HO}
theorem Un.any(u:Un fs ex H H1 h h1){b:Ut}{ob:Obj}(q:h.get? b=O ob)(n:H b=xN)(hx:b∉ex):∃sl,h1.get? b=O {ob with slots:=sl}:=by
 by_cases hb:b∈fs
 .exact u.slot b ob q n hb hx
 .exact⟨ob.slots,u.keep b ob q n hb hx⟩
theorem Un.kept(k:∀b u,h.get? b=O u->h'.get? b=O u):Un fs ex H H h h':=
 ⟨λb ob q _ _ _=>k b ob q,λb ob q _ _ _=>⟨ob.slots,k b ob q⟩,λ_ _ _ n _=>n,λb ob q _=>⟨ob,k b ob q⟩,λ_ _ q=>q,λ_ _ _ q=>q,λ_ ps q=>⟨#[],by rw[q];simp⟩⟩
theorem Un.refl:Un fs ex H H h h:=Un.kept λ_ _ q=>q
theorem Un.laid(k:∀b u,h.get? b=O u->h'.get? b=O u)(hp:h.objs.size<=a)(hn:H a=xN):Un fs ex H (upd H a o) h h' where
 keep:=λb u q _ _ _=>k b u q
 slot:=λb u q _ _ _=>⟨u.slots,k b u q⟩
 free:=λb u q n _=>by rw[Ki (QS (Qy (Qi q) hp))];exact n
 there:=λb u q _=>⟨u,k b u q⟩
 tups:=λb xs q=>by rw[Ki (Yo q hn)];exact q
 frzs:=λb u xs q=>by rw[Ki (Yo q hn)];exact q
 tbls:=λb ps q=>⟨#[],by rw[Ki (Yo q hn),q];simp⟩
theorem Un.write(mu:Mut (H x))(he:e=x∨H e=O (.own x))(k:∀b u,b≠e->h.get? b=O u->h'.get? b=O u)(wT:∃u,h'.get? e=O u):Un fs ex H (upd H x o) h h':=by
 have hx:∀b,H b=xN->b≠x:=λb n z=>by subst z;rw[n]at mu;exact mu
 have hb:∀b,H b=xN->b≠e:=λb n z=>by
  subst z;rcases he with r|r
  .exact hx b n r
  .rw[n]at r;cases r
 have hm:∀b u,H b=O u->¬Mut (O u)->b≠x:=λb u q nm z=>by subst z;rw[q]at mu;exact nm mu
 refine⟨λb u q n _ _=>k b u (hb b n) q,λb u q n _ _=>⟨u.slots,k b u (hb b n) q⟩,λb u q n _=>by rw[Ki (hx b n)];exact n,λb u q _=>?_,
  λb xs q=>by rw[Ki (hm b _ q λz=>z)];exact q,λb u xs q=>by rw[Ki (hm b _ q λz=>z)];exact q,λb ps q=>⟨#[],by rw[Ki (hm b _ q λz=>z),q];simp⟩⟩
 by_cases vS:b=e
 .subst vS;exact wT
 .exact⟨u,k b u vS q⟩
end
noncomputable def trk(h:Heap)(H:Hp):xW:=(UA h.objs.size).filter λa=>(H a).isSome
noncomputable def Ye(h:Heap)(H:Hp):Heap:=PySem.W.hideAll h (trk h H)
theorem jS(h:Heap)(H:Hp):(Ye h H).objs.size=h.objs.size:=PySem.W.hideAll_size _ _
theorem Aw{h:Heap}{H:Hp}{b:Ut}{o:Obj}(e:h.get? b=O o)(n:H b=xN):(Ye h H).get? b=O o:=
 PySem.W.hideAll_get _ e λhm=>by have q:(H b).isSome=xO:=(JU.mp hm).2;rw[n]at q;simp at q
theorem CY{h:Heap}{H:Hp}{b:Ut}{o:Obj}(e:(Ye h H).get? b=O o):h.get? b=O o/\H b=xN:=by
 have e':h.get? b=O o:=PySem.W.of_hideAll (trk h H) e;refine⟨e',?_⟩;cases q:H b with
 |none=>rfl
 |some x=>have hm:b∈trk h H:=List.mem_filter.mpr ⟨List.mem_range.mpr (Heap.lt_size e'),by simp[q]⟩;have z:(Ye h H).get? b=xN:=PySem.W.hideAll_none (trk h H) hm;rw[z]at e;cases e
structure Mod(K:Frag)(mg:Str->xV)(base:Heap):Prop where
 kin:K.In base
 glob:base.Ns mainGlobals mg
 blt:∃mb,base.Ns builtinsNs mb/\∀x:Str,x ≠ "__name__" -> mb x=bootBuiltins x
 nolimit:base.NoLimit
structure Cx where
 prog:Us
 w:World
 K:Frag
 mg:Str->xV
 base:Heap
 A:Around
 N:List Str
 s₀:Ur
 H₀:Hp
 env:Env
 outer:List Env
 stack:List Env
 ex:xW
 fn:Str->Bool
 calm:Bool
 pn:List (Ut×Obj)
 xe:Uq->Ur->Prop
noncomputable def frs(l:List Env):xW:=l.filterMap (·.frame)
noncomputable abbrev Cx.fs(X:Cx):xW:=frs X.outer
def Vis(sc:Scope)(x:Str):Prop:=sc.names.lookup x=O .local∨sc.names.lookup x=O .cell∨sc.names.lookup x=O .free
def Loc(sc:Scope)(x:Str):Prop:=sc.names.lookup x=O .local∨sc.names.lookup x=O .cell
def Look(env:Env)(h:Heap)(m:Str->xV)(x:Str)(u:Uq):Prop:=
 (env.kindOf x=O .local/\m x=O u)∨((env.kindOf x=O .cell∨env.kindOf x=O .free)/\∃c,env.cells.lookup x=O c/\h.IsCell c (O u))
structure Cx.Ok(X:Cx):Prop where
 mod:Mod X.K X.mg X.base
 kind:X.env.scope.kind=.function
 glob:X.env.globals=mainGlobals
 blt:X.env.builtins=builtinsNs
 above:X.s₀.heap.objs.size<=X.env.locals
 inj:∀x y c,X.env.cells.lookup x=O c->X.env.cells.lookup y=O c->x=y
 has:∀x,(X.env.kindOf x=O .cell∨X.env.kindOf x=O .free)->∃c,X.env.cells.lookup x=O c
 cab:∀x c,X.fn x=xO->X.env.cells.lookup x=O c->X.s₀.heap.objs.size<=c
 hd:X.calm=xO->X.A.handled=xN
 frames:X.A.frames=O X.stack
 stk:X.stack=X.outer∨(X.stack=X.env::X.outer/\X.env.frame=O X.env.locals)
 exf:∀b∈X.ex,b≠X.env.locals/\∀x c,X.env.cells.lookup x=O c->c≠b
 bs:∀b o,X.base.get? b=O o->X.s₀.heap.get? b=O o/\X.H₀ b=xN
 bsz:X.base.objs.size<=X.s₀.heap.objs.size
 noex:∀b o,X.base.get? b=O o->b∉X.ex
 exfs:∀b∈X.ex,b∉X.fs
 funs:X.s₀.heap.FunFrames X.base X.outer
 frf:∀b∈X.fs,X.H₀ b=xN
structure Inv(X:Cx)(pins:List (Ut×Obj))(σ:List (Option V))(H:Hp)(s:Ur):Prop where
 ok:X.Ok
 os:s.os=X.s₀.os
 bare:AllBare s.gens
 base:Un X.fs X.ex X.H₀ H X.s₀.heap s.heap
 loc:∃m,s.heap.Ns X.env.locals m/\∀(i:Nat)(x:Str)(v:V),X.N[i]?=O x->σ[i]?=O (O v)->Vis X.env.scope x->∃u,RelV v u/\Look X.env s.heap m x u
 cell:∀x c,X.env.cells.lookup x=O c->∃v,s.heap.IsCell c v
 free:H X.env.locals=xN
 freeC:∀x c,X.env.cells.lookup x=O c->H c=xN
 pin:∀p∈X.pn++pins,s.heap.get? p.1=O p.2/\H p.1=xN/\p.1≠X.env.locals/\p.1∉X.fs/\∀v,p.2.data≠.cell v
 hok:HOk X.prog X.w H s.heap
 len:σ.length=X.N.length
section
variable{X:Cx}{pins:List (Ut×Obj)}{σ:List (Option V)}{H H':Hp}{s:Ur}{h':Heap}
theorem Cx.Ok.nofr(ok:X.Ok){b:Ut}{o:Obj}(e:X.base.get? b=O o):b∉X.fs:=λhb=>by have:=(ok.funs.mem hb).1;rw[e]at this;cases this
theorem Inv.bs(I:Inv X pins σ H s):∀b o,X.base.get? b=O o->s.heap.get? b=O o/\H b=xN:=λb o e=>
 ⟨I.base.keep b o (I.ok.bs b o e).1 (I.ok.bs b o e).2 (I.ok.nofr e) (I.ok.noex b o e),I.base.free b o (I.ok.bs b o e).1 (I.ok.bs b o e).2 (I.ok.noex b o e)⟩
theorem Inv.bk(I:Inv X pins σ H s):∀b o,X.base.get? b=O o->s.heap.get? b=O o:=λb o e=>(I.bs b o e).1
theorem Inv.mod(I:Inv X pins σ H s):Mod X.K X.mg X.base:=I.ok.mod
theorem Inv.kIn(I:Inv X pins σ H s):X.K.In s.heap:=I.ok.mod.kin.keeps I.bk
theorem Inv.fr(I:Inv X pins σ H s):∃m,Fr X.base X.env.locals s.heap m:=
 let ⟨m,hn,_⟩:=I.loc
 ⟨m,hn,I.bk,Qt I.ok.bsz I.ok.above⟩
theorem Inv.lt(I:Inv X pins σ H s):X.env.locals<s.heap.objs.size:=let ⟨_,hn,_⟩:=I.loc;hn.lt
theorem Inv.sz(I:Inv X pins σ H s):X.s₀.heap.objs.size<=s.heap.objs.size:=Qt I.ok.above (Ug I.lt)
theorem Inv.nofs(I:Inv X pins σ H s){a:Ut}(h:s.heap.objs.size<=a):a∉X.fs:=λhb=>by obtain⟨_,o,ho,_⟩:=I.ok.funs.mem hb;exact absurd (Qy (Qi ho) (Qt I.sz h)) (Jm _)
theorem Inv.cne(I:Inv X pins σ H s):∀x c,X.env.cells.lookup x=O c->c≠X.env.locals:=λx c e z=>by obtain⟨v,o,ho,hd⟩:=I.cell x c e;obtain⟨m,⟨o',es,ep,ho',hd',_⟩,_⟩:=I.loc;rw[z,ho']at ho;cases ho;rw[hd']at hd;cases hd
theorem Inv.funs(I:Inv X pins σ H s):s.heap.FunFrames X.base X.outer:=by
 have all:∀(l:List Env),(∀b∈frs l,b∈X.fs)->X.s₀.heap.FunFrames X.base l->s.heap.FunFrames X.base l:=by
  intro l;induction l with
  |nil=>intro _ _;trivial
  |cons env r ih=>
   intro hs hl;obtain⟨hk,⟨L,o,hf,hn,ho,hd⟩,hr⟩:=hl;have hL:L∈X.fs:=hs L (by unfold frs;rw[List.filterMap_cons,hf];exact Qf);obtain⟨sl,e⟩:=I.base.slot L o ho (I.ok.frf L hL) hL λz=>I.ok.exfs L z hL
   exact⟨hk,⟨L,_,hf,hn,e,hd⟩,ih (λb hb=>hs b (by unfold frs;rw[List.filterMap_cons,hf];exact Qh _ hb)) hr⟩
 exact all X.outer (λ_ hb=>hb) I.ok.funs
theorem Inv.stack(I:Inv X pins σ H s):s.heap.FunFrames X.base X.stack:=by
 rcases I.ok.stk with e|⟨e,hf⟩
 .rw[e];exact I.funs
 .rw[e]
  obtain⟨m,hn,_⟩:=I.loc;refine .cons (by rw[I.ok.kind];decide) hf hn ?_ I.funs;exact Heap.get?_none_of_le (Qt I.ok.bsz I.ok.above)
theorem Inv.stkSub(I:Inv X pins σ H s):∀b∈frs X.stack,b∈X.env.locals::X.fs:=λb hb=>by
 rcases I.ok.stk with e|⟨e,hf⟩
 .rw[e]at hb;exact Qh _ hb
 .rw[e]at hb
  unfold frs at hb;rw[List.filterMap_cons,hf]at hb;exact hb
theorem Inv.stkFree(I:Inv X pins σ H s):∀b∈frs X.stack,H b=xN:=λb hb=>by
 rcases QC.mp (I.stkSub b hb)with e|hb
 .rw[e];exact I.free
 .obtain⟨_,o,ho,_⟩:=I.ok.funs.mem hb
  exact I.base.free b o ho (I.ok.frf b hb) λz=>I.ok.exfs b z hb
theorem Inv.step{g':Array GenState}{t':Nat}{d':Drawn}{ch:xW}(I:Inv X pins σ H s)
  (hch:∀b∈ch,(b∈X.ex∨X.s₀.heap.objs.size<=b)/\b≠X.env.locals/\(∀x c,X.env.cells.lookup x=O c->c≠b)/\∀p∈X.pn++pins,p.1≠b)
  (keep:∀b o,b≠X.env.locals->b∉X.fs->b∉ch->s.heap.get? b=O o->H b=xN->h'.get? b=O o)
  (slot:∀b o,b≠X.env.locals->b∈X.fs->b∉ch->s.heap.get? b=O o->H b=xN->∃sl,h'.get? b=O {o with slots:=sl}) (free:∀b o,b∉ch->s.heap.get? b=O o->H b=xN->H' b=xN)
  (there:∀b o,b∉ch->s.heap.get? b=O o->∃o',h'.get? b=O o')
  (tups:∀b xs,H b=O (.tup xs)->H' b=O (.tup xs)) (frzs:∀b o u,H b=O (.frz o u)->H' b=O (.frz o u)) (tbls:∀b ps,H b=O (.tbl ps)->∃more,H' b=O (.tbl (ps++more)))
  (ns:∀m,s.heap.Ns X.env.locals m->h'.Ns X.env.locals m) (hok:HOk X.prog X.w H' h') (hg:AllBare g') :
  Inv X pins σ H' {s with heap:=h',gens:=g',drawn:=d',toks:=t'}:=by
 have neL:∀b o,X.s₀.heap.get? b=O o->b≠X.env.locals:=λb o e=>QS (Qy (Qi e) I.ok.above)
 have neC:∀b o,X.s₀.heap.get? b=O o->b∉X.ex->b∉ch:=λb o e hx hb=>by
  rcases(hch b hb).1 with z|z
  .exact hx z
  .exact absurd (Qy (Qi e) z) (Jm _)
 have cellK:∀x c,X.env.cells.lookup x=O c->∀v,s.heap.IsCell c v->h'.IsCell c v:=λx c e v ⟨o,ho,hd⟩=>by
  have nch:c∉ch:=λz=>(hch c z).2.2.1 x c e xM
  by_cases hc:c∈X.fs
  .obtain⟨sl,q⟩:=slot c o (I.cne x c e) hc nch ho (I.freeC x c e)
   exact⟨_,q,hd⟩
  .exact⟨o,keep c o (I.cne x c e) hc nch ho (I.freeC x c e),hd⟩
 refine⟨I.ok,I.os,hg,⟨λb o e n hb hx=>?_,λb o e n hb hx=>?_,λb o e n hx=>?_,λb o e hx=>?_,λb xs e=>tups b xs (I.base.tups b xs e),λb o xs e=>frzs b o xs (I.base.frzs b o xs e),λb ps e=>?_⟩,?_,λx c e=>?_,?_,λx c e=>?_,λp hp=>?_,hok,I.len⟩
 .exact keep b o (neL b o e) hb (neC b o e hx) (I.base.keep b o e n hb hx) (I.base.free b o e n hx)
 .obtain⟨sl,e1⟩:=I.base.slot b o e n hb hx
  obtain⟨vG,e2⟩:=slot b _ (neL b o e) hb (neC b o e hx) e1 (I.base.free b o e n hx);exact⟨vG,e2⟩
 .obtain⟨o',e1⟩:=I.base.there b o e hx
  exact free b o' (neC b o e hx) e1 (I.base.free b o e n hx)
 .obtain⟨o',e1⟩:=I.base.there b o e hx
  exact there b o' (neC b o e hx) e1
 .obtain⟨m1,e1⟩:=I.base.tbls b ps e
  obtain⟨m2,e2⟩:=tbls b _ e1;exact⟨m1++m2,by rw[e2,Array.append_assoc]⟩
 .obtain⟨m,hn,hl⟩:=I.loc
  refine⟨m,ns m hn,λi x v e1 e2 e3=>?_⟩;obtain⟨u,r,l⟩:=hl i x v e1 e2 e3;refine⟨u,r,?_⟩;rcases l with l|⟨k,c,e,z⟩
  .exact .inl l
  .exact .inr ⟨k,c,e,cellK x c e _ z⟩
 .obtain⟨v,z⟩:=I.cell x c e
  exact⟨v,cellK x c e v z⟩
 .obtain⟨m,⟨o,_,_,ho,_⟩,_⟩:=I.loc
  exact free _ o (λz=>(hch _ z).2.1 xM) ho I.free
 .obtain⟨v,o,ho,hd⟩:=I.cell x c e
  exact free c o (λz=>(hch c z).2.2.1 x c e xM) ho (I.freeC x c e)
 .obtain⟨e,n,ne,nf,d⟩:=I.pin p hp
  have nch:p.1∉ch:=λz=>(hch p.1 z).2.2.2 p hp xM
  exact⟨keep p.1 p.2 ne nf nch e n,free p.1 p.2 nch e n,ne,nf,d⟩
theorem Inv.un{t':Nat}(I:Inv X pins σ H s)(u:Un X.fs [] H H' s.heap h')(hok:HOk X.prog X.w H' h'):Inv X pins σ H' {s with heap:=h',toks:=t'}:=by obtain⟨m,⟨o,es,ep,ho,r⟩,_⟩:=id I.loc;obtain⟨sl,hL⟩:=u.any ho I.free (by simp);exact I.step (g':=s.gens) (d':=s.drawn) (ch:=[]) (λ_ z=>nomatch z) (λb o _ hb _ e n=>u.keep b o e n hb (by simp)) (λb o _ hb _ e n=>u.slot b o e n hb (by simp)) (λb o _ e n=>u.free b o e n (by simp)) (λb o _ e=>u.there b o e (by simp)) u.tups u.frzs u.tbls (λm' hm=>by obtain⟨o',es',ep',ho',r'⟩:=hm;rw[ho]at ho';cases ho';exact⟨_,es',ep',hL,r'⟩) hok I.bare
theorem Inv.call{g':Array GenState}{t':Nat}{d':Drawn}{ch:xW}(I:Inv X pins σ H s)(u:Un (frs X.stack) ch H H' s.heap h')(hok:HOk X.prog X.w H' h')(hg:AllBare g')
  (hch:∀b∈ch,(b∈X.ex∨X.s₀.heap.objs.size<=b)/\b≠X.env.locals/\(∀x c,X.env.cells.lookup x=O c->c≠b)/\∀p∈X.pn++pins,p.1≠b) :
  Inv X pins σ H' {s with heap:=h',gens:=g',drawn:=d',toks:=t'}:=by
 obtain⟨m,⟨o,es,ep,ho,r⟩,_⟩:=id I.loc;obtain⟨sl,hL⟩:=u.any ho I.free λz=>(hch _ z).2.1 xM
 exact I.step (ch:=ch) hch (λb o hL hb hc e n=>u.keep b o e n (λz=>(QC.mp (I.stkSub b z)).elim hL hb) hc) (λb o _ _ hc e n=>u.any e n hc) (λb o hc e n=>u.free b o e n hc) (λb o hc e=>u.there b o e hc) u.tups u.frzs u.tbls (λm' hm=>by obtain⟨o',es',ep',ho',r'⟩:=hm;rw[ho]at ho';cases ho';exact⟨_,es',ep',hL,r'⟩) hok hg
theorem Inv.turned{t':Nat}{it:Ut}(I:Inv X pins σ H s)(k:∀b o,b≠it->s.heap.get? b=O o->h'.get? b=O o)(hn:H it=xN)(hL:it≠X.env.locals)
  (h1:it∈X.ex∨X.s₀.heap.objs.size<=it) (h2:∀x c,X.env.cells.lookup x=O c->c≠it) (h3:∀p∈X.pn++pins,p.1≠it):Inv X pins σ H {s with heap:=h',toks:=t'}:=by
 have nit:∀b u,H b=O u->b≠it:=λb u e z=>by rw[z,hn]at e;cases e
 refine I.step (g':=s.gens) (d':=s.drawn) (ch:=[it]) (λb hb=>?_) (λb o _ _ hc e _=>k b o (λz=>hc (by simp[z])) e) (λb o _ _ hc e _=>⟨o.slots,k b o (λz=>hc (by simp[z])) e⟩) (λ_ _ _ _ n=>n)
  (λb o hc e=>⟨o,k b o (λz=>hc (by simp[z])) e⟩) (λ_ _ e=>e) (λ_ _ _ e=>e) (λb ps e=>⟨#[],by rw[e];simp⟩) (λm hm=>?_) (λb u e=>?_) I.bare
 .have e:b=it:=by simpa using hb
  subst e;exact⟨h1,hL,h2,h3⟩
 .obtain⟨o,es,ep,ho,r⟩:=hm
  exact⟨o,es,ep,k _ o (Ne.symm hL) ho,r⟩
 .refine(I.hok b u e).stay (λc v hc q=>k c v ?_ q) (λ_ q=>q) λ_ _ q=>q
  rcases hc with z|z
  .rw[z];exact nit b u e
  .exact nit c _ z
theorem Inv.tok(I:Inv X pins σ H s)(t:Nat):Inv X pins σ H {s with toks:=t}:=I.un (h':=s.heap) (t':=t) Un.refl I.hok
theorem Inv.kept{t':Nat}(I:Inv X pins σ H s)(k:∀b u,s.heap.get? b=O u->h'.get? b=O u):Inv X pins σ H {s with heap:=h',toks:=t'}:=I.un (Un.kept k) (I.hok.kept k)
theorem Inv.laid{a:Ut}{o:HO}{t':Nat}(I:Inv X pins σ H s)(k:∀b u,s.heap.get? b=O u->h'.get? b=O u)(hp:s.heap.objs.size<=a)(new:Zj X.prog X.w (upd H a o) h' a o) :
  Inv X pins σ (upd H a o) {s with heap:=h',toks:=t'}:=I.un (Un.laid k hp (I.hok.fresh hp)) (I.hok.laid k hp new)
theorem Inv.write{x e:Ut}{o:HO}{t':Nat}(I:Inv X pins σ H s)(mu:Mut (H x))(he:e=x∨H e=O (.own x))(k:∀b u,b≠e->s.heap.get? b=O u->h'.get? b=O u)(wT:∃u,h'.get? e=O u)
  (new:Zj X.prog X.w (upd H x o) h' x o):Inv X pins σ (upd H x o) {s with heap:=h',toks:=t'}:=I.un (Un.write mu he k wT) (I.hok.write mu he k wT new)
theorem Inv.pins_of{pins':List (Ut×Obj)}(I:Inv X pins σ H s)(h:∀p∈pins',s.heap.get? p.1=O p.2/\H p.1=xN/\p.1≠X.env.locals/\p.1∉X.fs/\∀v,p.2.data≠.cell v):Inv X pins' σ H s:=
 ⟨I.ok,I.os,I.bare,I.base,I.loc,I.cell,I.free,I.freeC,λp hp=>(QO.mp hp).elim (λz=>I.pin p (Qv _ z)) (h p),I.hok,I.len⟩
theorem Lr{N:List Str}(hN:N.Nodup){i j:Nat}{x:Str}(a:N[i]?=O x)(b:N[j]?=O x):i=j:=by obtain⟨h1,e1⟩:=Ql.mp a;obtain⟨h2,e2⟩:=Ql.mp b;exact(List.getElem_inj hN).mp (e1.trans e2.symm)
theorem OF{M:Model}{A:Around}{E:Uq->Ur->Prop}{i:Nat}{x:Str}{v:V}{u:Uq}{Q:Unit->Ur->Prop}(I:Inv X pins σ H s)(hN:X.N.Nodup)(hi:X.N[i]?=O x)(hx:Loc X.env.scope x)(r:RelV v u)
  (h:∀s',Inv X pins (σ.set i (O v)) H s'->(∃a,Heap.SameBut a s.heap s'.heap/\(a=X.env.locals∨X.env.cells.lookup x=O a))->Q () s') (hf:X.fn x=xO∨X.env.scope.names.lookup x=O .local:=by first|exact .inl rfl|exact .inr rfl|assumption):Ux M A (storeName X.env x u) Q E s:=by
 obtain⟨m,hn,hl⟩:=id I.loc;have hcls:(X.env.scope.kind==.class || (X.env.scope.kind==.module&&X.env.locals != X.env.globals))=xP:=by rw[I.ok.kind];rfl
 have hiσ:i<σ.length:=by rw[I.len];exact(Ql.mp hi).1
 have cne:=I.cne
 have tracked:∀{a:Ut}{h':Heap},(∃o,s.heap.get? a=O o/\H a=xN)->Heap.SameBut a s.heap h'->HOk X.prog X.w H h':=λ{a h'} ha hs b ob e=>by
  obtain⟨_,_,hfree⟩:=ha;refine(I.hok b ob e).stay (λc w' hc q=>(hs.2 c ?_).trans q) (λ_ q=>q) λ_ _ q=>q
  rintro rfl;rcases hc with rfl|hc
  .rw[hfree]at e;cases e
  .rw[hfree]at hc;cases hc
 rcases hx with hk|hk
 .refine wpAny_storeName_local hk hn (λh' hn' hs=>?_) hcls
  obtain⟨oL,_,_,w6,_⟩:=id hn;refine h _ ⟨I.ok,I.os,I.bare,⟨λb o e n hb hx=>?_,λb o e n hb hx=>?_,I.base.free,λb o e hx=>?_,I.base.tups,I.base.frzs,I.base.tbls⟩,⟨_,hn',λj y v' e1 e2 e3=>?_⟩,λy c e=>?_,I.free,I.freeC,λp hp=>?_,tracked ⟨oL,w6,I.free⟩ hs,by simpa using I.len⟩ ⟨_,hs,.inl xM⟩
  .exact(hs.2 b (QS (Qy (Qi e) I.ok.above))).trans (I.base.keep b o e n hb hx)
  .obtain⟨sl,e1⟩:=I.base.slot b o e n hb hx
   exact⟨sl,(hs.2 b (QS (Qy (Qi e) I.ok.above))).trans e1⟩
  .obtain⟨o',e1⟩:=I.base.there b o e hx
   exact⟨o',(hs.2 b (QS (Qy (Qi e) I.ok.above))).trans e1⟩
  .by_cases hj:j=i
   .subst hj
    rw[hi]at e1;cases e1;rw[QK hiσ]at e2;cases e2;exact⟨u,r,.inl ⟨hk,by simp⟩⟩
   .rw[Qj (Ne.symm hj)]at e2
    obtain⟨u',r',q⟩:=hl j y v' e1 e2 e3;refine⟨u',r',?_⟩;rcases q with ⟨k,e⟩|⟨k,c,e,z⟩
    .refine .inl ⟨k,?_⟩
     have:y≠x:=λe=>hj (Lr hN e1 (e ▸ hi))
     simp[this,e]
    .exact .inr ⟨k,c,e,z.sameBut hs (cne y c e)⟩
  .obtain⟨w',z⟩:=I.cell y c e
   exact⟨w',z.sameBut hs (cne y c e)⟩
  .obtain⟨e,n,ne,nf,d⟩:=I.pin p hp
   exact⟨(hs.2 p.1 ne).trans e,n,ne,nf,d⟩
 .have hfn:X.fn x=xO:=by
   rcases hf with z|z
   .exact z
   .rw[z]at hk;cases hk
  obtain⟨c,hc⟩:=I.ok.has x (.inl hk);obtain⟨w',z⟩:=I.cell x c hc;refine wpAny_storeName_cell I.ok.kind hk hc z (λh' hc' hs=>?_);obtain⟨oc,hoc,hocd⟩:=id z;refine h {s with heap:=h'} ⟨I.ok,I.os,I.bare,⟨λb o e n hb hx=>?_,λb o e n hb hx=>?_,I.base.free,λb o e hx=>?_,I.base.tups,I.base.frzs,I.base.tbls⟩,⟨m,hn.sameBut hs (Ne.symm (cne x c hc)),λj y v' e1 e2 e3=>?_⟩,λy c' e=>?_,I.free,I.freeC,λp hp=>?_,tracked ⟨oc,hoc,I.freeC x c hc⟩ hs,by simpa using I.len⟩ ⟨c,hs,.inr hc⟩
  .exact(hs.2 b (QS (Qy (Qi e) (I.ok.cab x c hfn hc)))).trans (I.base.keep b o e n hb hx)
  .obtain⟨sl,e1⟩:=I.base.slot b o e n hb hx
   exact⟨sl,(hs.2 b (QS (Qy (Qi e) (I.ok.cab x c hfn hc)))).trans e1⟩
  .obtain⟨o',e1⟩:=I.base.there b o e hx
   exact⟨o',(hs.2 b (QS (Qy (Qi e) (I.ok.cab x c hfn hc)))).trans e1⟩
  .by_cases hj:j=i
   .subst hj
    rw[hi]at e1;cases e1;rw[QK hiσ]at e2;cases e2;exact⟨u,r,.inr ⟨.inl hk,c,hc,hc'⟩⟩
   .rw[Qj (Ne.symm hj)]at e2
    obtain⟨u',r',q⟩:=hl j y v' e1 e2 e3;refine⟨u',r',?_⟩;rcases q with q|⟨k,c',e,z'⟩
    .exact .inl q
    .refine .inr ⟨k,c',e,z'.sameBut hs ?_⟩
     rintro rfl;exact hj (Lr hN e1 (I.ok.inj _ _ _ e hc ▸ hi))
  .by_cases hcc:c'=c
   .subst hcc;exact⟨_,hc'⟩
   .obtain⟨w2,z2⟩:=I.cell y c' e
    exact⟨w2,z2.sameBut hs hcc⟩
  .obtain⟨e,n,ne,nf,d⟩:=I.pin p hp
   refine⟨(hs.2 p.1 ?_).trans e,n,ne,nf,d⟩;intro q;rw[q,hoc]at e;have q':oc=p.2:=Je e;exact d w' (by rw[←q'];exact hocd)
theorem SK{M:Model}{A:Around}{E:Uq->Ur->Prop}{i:Nat}{x:Str}{v:V}{u:Uq}{Q:Unit->Ur->Prop}(I:Inv X pins σ H s)(hN:X.N.Nodup)(hi:X.N[i]?=O x)(hx:Loc X.env.scope x)(r:RelV v u)
  (h:∀s',Inv X pins (σ.set i (O v)) H s'->Q () s') (hf:X.fn x=xO∨X.env.scope.names.lookup x=O .local:=by first|exact .inl rfl|exact .inr rfl|assumption):Ux M A (storeName X.env x u) Q E s:=
 OF I hN hi hx r (λs' I' _=>h s' I') hf
theorem Inv.call'{s':Ur}{ch:xW}(I:Inv X pins σ H s)(ho:s'.os=s.os)(u:Un (frs X.stack) ch H H' s.heap s'.heap)(hok:HOk X.prog X.w H' s'.heap)(hg:AllBare s'.gens)
  (hch:∀b∈ch,(b∈X.ex∨X.s₀.heap.objs.size<=b)/\b≠X.env.locals/\(∀x c,X.env.cells.lookup x=O c->c≠b)/\∀p∈X.pn++pins,p.1≠b):Inv X pins σ H' s':=by
 obtain⟨h',g',d',t',o'⟩:=s';have e:o'=s.os:=ho;subst e;exact I.call (g':=g') (t':=t') (d':=d') u hok hg hch
end
abbrev XK:=Uq->va->Hp->Prop
abbrev St:=List (Option V)
abbrev VK:=V->Hp->Prop
abbrev TE:=St->Hp->VK->Prop
abbrev TT:=St->Hp->(Bool->Hp->Prop)->Prop
abbrev TA:=St->Hp->(List V->Hp->Prop)->Prop
structure Ends where
 nx:St->Hp->Prop
 rt:VK
 bk:St->Hp->Prop:=λ_ _=>False
 ct:St->Hp->Prop:=λ_ _=>False
abbrev TS:=Ends->St->Hp->Prop
def EP(X:Cx)(pins:List (Ut×Obj))(σ:St)(Q:VK)(u:Uq)(s':Ur):Prop:=∃v H',Inv X pins σ H' s'/\RelV v u/\Q v H'
def TP(X:Cx)(pins:List (Ut×Obj))(σ:St)(Q:Bool->Hp->Prop)(b:Bool)(s':Ur):Prop:=∃H',Inv X pins σ H' s'/\Q b H'
def AP(X:Cx)(pins:List (Ut×Obj))(σ:St)(Q:List V->Hp->Prop)(us:xS)(s':Ur):Prop:=∃vs H',Inv X pins σ H' s'/\Vals vs us/\Q vs H'
def SP(X:Cx)(pins:List (Ut×Obj))(D:Ends)(f:Flow)(s':Ur):Prop:=
 match f with
 |.next=>∃σ' H',Inv X pins σ' H' s'/\D.nx σ' H'
 |.brk=>∃σ' H',Inv X pins σ' H' s'/\D.bk σ' H'
 |.cont=>∃σ' H',Inv X pins σ' H' s'/\D.ct σ' H'
 |.ret u=>∃v σ' H',Inv X pins σ' H' s'/\RelV v u/\D.rt v H'
def PE(X:Cx)(e:Uv)(t:TE):Prop:=
 ∀(pins:List (Ut×Obj))(s:Ur)(σ:St)(H:Hp)(Q:VK),Inv X pins σ H s->t σ H Q->Ux (model X.prog X.w) X.A (eval e X.env) (EP X pins σ Q) X.xe s
def PT(X:Cx)(e:Uv)(t:TT):Prop:=
 ∀(pins:List (Ut×Obj))(s:Ur)(σ:St)(H:Hp)(Q:Bool->Hp->Prop),Inv X pins σ H s->t σ H Q->Ux (model X.prog X.w) X.A (isTrue e X.env (eval e X.env)) (TP X pins σ Q) X.xe s
def PW(X:Cx)(e:Uv)(t:TT):Prop:=
 ∀(whole:Sem Uq)(pins:List (Ut×Obj))(s:Ur)(σ:St)(H:Hp)(Q:Bool->Hp->Prop),Inv X pins σ H s->t σ H Q->Ux (model X.prog X.w) X.A (isTrue e X.env whole) (TP X pins σ Q) X.xe s
theorem PW.pt{X:Cx}{e:Uv}{t:TT}(h:PW X e t):PT X e t:=h _
def PA(X:Cx)(es:xU)(t:TA):Prop:=
 ∀(pos:Pos)(pins:List (Ut×Obj))(s:Ur)(σ:St)(H:Hp)(Q:List V->Hp->Prop),Inv X pins σ H s->t σ H Q->Ux (model X.prog X.w) X.A (spliced (backTo pos (Uy es X.env))) (AP X pins σ Q) X.xe s
def PS(X:Cx)(st:Stmt)(t:TS):Prop:=
 ∀(pins:List (Ut×Obj))(s:Ur)(σ:St)(H:Hp)(D:Ends),Inv X pins σ H s->t D σ H->Ux (model X.prog X.w) X.A (exec st X.env) (SP X pins D) X.xe s
def PSs(X:Cx)(st:List Stmt)(t:TS):Prop:=
 ∀(pins:List (Ut×Obj))(s:Ur)(σ:St)(H:Hp)(D:Ends),Inv X pins σ H s->t D σ H->Ux (model X.prog X.w) X.A (execs st X.env) (SP X pins D) X.xe s
theorem thn{α:Type}{t:Sem α}{Q Q':α->Ur->Prop}{M:Model}{A:Around}{E:Uq->Ur->Prop}{s:Ur}(h:Ux M A t Q E s)(hQ:∀a s,Q a s->Q' a s):Ux M A t Q' E s:=QP h hQ λ_ _ x=>x
section
variable{X:Cx}
noncomputable def Kl(i:Nat):TE:=λσ H Q=>∃v,σ[i]?=O (O v)/\Q v H
noncomputable def tC(v:V):TE:=λ_ H Q=>Q v H
theorem Mb{i:Nat}{x:Str}{pos:Pos}(hN:X.N[i]?=O x)(hv:Vis X.env.scope x)(hd:(x==("__debug__" : Str))=xP:=by decide)(hcd:(x==("__classdict__" : Str))=xP:=by decide):PE X (.Name x pos) (Kl i):=by
 intro pins s σ H Q I h;obtain⟨v,e,h⟩:=h;obtain⟨m,hn,hl⟩:=I.loc;obtain⟨u,r,l⟩:=hl i x v hN e hv;have fin:EP X pins σ Q u s:=⟨v,H,I,r,h⟩;rcases l with ⟨hk,hm⟩|⟨hk,c,hc,hcell⟩
 .exact wpAny_Name (wpAny_loadName_local I.ok.kind hk hn hm fin) hd
 .rcases hk with hk|hk
  .exact wpAny_Name (wpAny_loadName_cell I.ok.kind hk hc hcell fin) hd
  .exact wpAny_Name (wpAny_loadName_free I.ok.kind hk hc hcell fin hcd) hd
theorem Wq{i j pos}:PE X (.Constant (.int i) j pos) (tC (.int i)):=λ_ _ _ H _ I h=>wpAny_Constant_int ⟨.int i,H,I.tok _,⟨_,rfl⟩,h⟩
theorem Fg{b j pos}:PE X (.Constant (.bool b) j pos) (tC (.bl b)):=λ_ _ _ H _ I h=>Constant_bool ⟨.bl b,H,I,rfl,h⟩
theorem E2{j pos}:PE X (.Constant .none j pos) (tC .non):=λ_ _ _ H _ I h=>Constant_none ⟨.non,H,I,rfl,h⟩
theorem PQ{x j pos}:PE X (.Constant (.str x) j pos) (tC (.str x)):=λ_ _ _ H _ I h=>Calls.Constant_str ⟨.str x,H,I.tok _,⟨_,rfl⟩,h⟩
def Gl(X:Cx)(x:Str):Prop:=X.env.kindOf x=O .globalImplicit
theorem TU{E:Uq->Ur->Prop}{pins:List (Ut×Obj)}{s:Ur}{σ:St}{H:Hp}{x:Str}{u:Uq}{pos:Pos}{Q:Uq->Ur->Prop}(I:Inv X pins σ H s)(hg:Gl X x)(hm:X.mg x=O u)(h:Q u s)
  (hd:(x==("__debug__" : Str))=xP:=by decide):Ux (model X.prog X.w) X.A (eval (.Name x pos) X.env) Q E s:=
 Calls.Name_function_global I.ok.kind hg (Calls.loadGlobal_global (by rw[I.ok.glob];exact I.mod.glob.keeps I.bk) hm h) hd
theorem Vy{E:Uq->Ur->Prop}{pins:List (Ut×Obj)}{s:Ur}{σ:St}{H:Hp}{x:Str}{u:Uq}{pos:Pos}{Q:Uq->Ur->Prop}(I:Inv X pins σ H s)(hg:Gl X x)(hm:X.mg x=xN)(hv:bootBuiltins x=O u)(h:Q u s)
  (hn:x ≠ "__name__" :=by decide) (hd:(x==("__debug__" : Str))=xP:=by decide):Ux (model X.prog X.w) X.A (eval (.Name x pos) X.env) Q E s:=by
 obtain⟨mb,h1,h2⟩:=I.mod.blt;exact Calls.Name_function_global I.ok.kind hg (Calls.loadGlobal_builtin (by rw[I.ok.glob];exact I.mod.glob.keeps I.bk) hm (by rw[I.ok.blt];exact h1.keeps I.bk) ((h2 x hn).trans hv) h) hd
theorem Lb{x:Str}{v:V}{u:Uq}{pos:Pos}(hg:Gl X x)(hm:X.mg x=O u)(r:RelV v u)(hd:(x==("__debug__" : Str))=xP:=by decide):PE X (.Name x pos) (tC v):=
 λ_ _ _ H _ I h=>TU I hg hm ⟨v,H,I,r,h⟩ hd
theorem La{x:Str}{v:V}{u:Uq}{pos:Pos}(hg:Gl X x)(hm:X.mg x=xN)(hv:bootBuiltins x=O u)(r:RelV v u)(hn:x ≠ "__name__" :=by decide)(hd:(x==("__debug__" : Str))=xP:=by decide):PE X (.Name x pos) (tC v):=
 λ_ _ _ H _ I h=>Vy I hg hm hv ⟨v,H,I,r,h⟩ hn hd
variable{a b:Uv}{ta tb:TE}{pos:Pos}
def PC(X:Cx)(op:CmpOp)(a b:Uv)(t:TE):Prop:=
 ∀(pins:List (Ut×Obj))(s:Ur)(σ:St)(H:Hp)(Q:VK),Inv X pins σ H s->t σ H Q ->
  Ux (model X.prog X.w) X.A (eval a X.env) (λv s₁=>Ux (model X.prog X.w) X.A (eval b X.env) (λu s₂=>Ux (model X.prog X.w) X.A (Uz op v u) (EP X pins σ Q) X.xe s₂) X.xe s₁) X.xe s
theorem Av(b:Uv){op:CmpOp}(h:op≠.In)(h2:op≠.NotIn):behindInMarks op b=xP:=by
 have e1:(op==CmpOp.In)=xP:=by cases op<;>first|rfl|exact absurd xM h
 have e2:(op==CmpOp.NotIn)=xP:=by cases op<;>first|rfl|exact absurd xM h2
 cases b<;>simp[behindInMarks,e1,e2]
noncomputable def tIsN(ta:TE):TE:=λσ H Q=>ta σ H λx H1=>Q (.bl (decide (x=.non))) H1
noncomputable def Ff(ta:TE):TE:=λσ H Q=>ta σ H λx H1=>Q (.bl (!decide (x=.non))) H1
theorem RelV.none_iff{x:V}{v:Uq}(r:RelV x v):(v==Value.none)=decide (x=.non):=by
 cases x with
 |non=>cases r;rfl
 |bl _=>cases r;rfl
 |int _=>obtain⟨t,rfl⟩:=r;rfl
 |str _=>obtain⟨t,rfl⟩:=r;rfl
 |byt _=>obtain⟨t,rfl⟩:=r;rfl
 |flt _=>obtain⟨t,rfl⟩:=r;rfl
 |ref _=>cases r;rfl
 |ty _=>cases r;rfl
theorem E1{j pos'}(ha:PE X a ta):PC X .Is a (.Constant .none j pos') (tIsN ta):=by intro pins s σ H Q I h;refine thn (ha pins s σ H _ I h) λv s1 ⟨x,H1,I1,r1,q1⟩=>?_;exact Constant_none (is_none_gen ⟨.bl _,H1,I1,by rw[r1.none_iff];rfl,q1⟩)
theorem CW{j pos'}(ha:PE X a ta):PC X .IsNot a (.Constant .none j pos') (Ff ta):=by intro pins s σ H Q I h;refine thn (ha pins s σ H _ I h) λv s1 ⟨x,H1,I1,r1,q1⟩=>?_;exact Constant_none (isnot_none_gen ⟨.bl _,H1,I1,by rw[r1.none_iff];rfl,q1⟩)
noncomputable def tB(t:TE):TT:=λσ H Q=>t σ H λx H1=>∃c,x=.bl c/\Q c H1
theorem Ma{op:CmpOp}{t:TE}(h:PC X op a b t)(h1:behindInMarks op b=xP:=by first|exact Av _ (by decide) (by decide)|rfl):PT X (.Compare a [op] [b] pos) (tB t):=by intro pins s σ H Q I hw;refine wpAny_isTrue_Compare1 (thn (h pins s σ H _ I hw) λv s1 h1=>thn h1 λu s2 h2=>thn h2 λc s3 ⟨x,H1,I1,r1,q1⟩=>?_) h1;obtain⟨d,rfl,q⟩:=q1;cases r1;exact Q8 ⟨H1,I1,q⟩
theorem EZ{e:Uv}{t:TE}(h:PE X e t)(he:∀whole,isTrue e X.env whole=(do let v ←whole;standAt e.pos;holding [v] (truthy v)):=by intro _;rfl):PT X e (tB t):=by intro pins s σ H Q I hw;refine isTrue_plain (thn (h pins s σ H _ I hw) λv s1 ⟨x,H1,I1,r1,q1⟩=>?_) (he _);obtain⟨d,rfl,q⟩:=q1;cases r1;exact Q8 ⟨H1,I1,q⟩
variable{tA tB':TT}{rest:xU}
noncomputable def tAnd(t u:TT):TT:=λσ H Q=>t σ H λc H1=>if c=xO then u σ H1 Q else Q xP H1
noncomputable def tOr(t u:TT):TT:=λσ H Q=>t σ H λc H1=>if c=xO then Q xO H1 else u σ H1 Q
noncomputable def tNot(t:TT):TT:=λσ H Q=>t σ H λc H1=>Q (!c) H1
theorem CV(ha:PT X a tA):PW X (.BoolOp .And [a] pos) tA:=by
 intro wh pins s σ H Q I h;refine isTrue_and (thn (ha pins s σ H Q I h) λc s1 e=>?_);cases c with
 |true=>exact isTrue_and_nil e
 |false=>exact e
theorem EY(ha:PT X a tA):PW X (.BoolOp .Or [a] pos) tA:=by
 intro wh pins s σ H Q I h;refine isTrue_or (thn (ha pins s σ H Q I h) λc s1 e=>?_);cases c with
 |false=>exact isTrue_or_nil e
 |true=>exact e
theorem DJ(ha:PT X a tA)(hb:PW X (.BoolOp .And (b::rest) pos) tB'):PW X (.BoolOp .And (a::b::rest) pos) (tAnd tA tB'):=by
 intro wh pins s σ H Q I h;refine isTrue_and (thn (ha pins s σ H _ I h) λc s1 ⟨H1,I1,q1⟩=>?_);cases c with
 |true=>exact hb wh pins s1 σ H1 Q I1 q1
 |false=>exact⟨H1,I1,q1⟩
theorem Fe(ha:PT X a tA)(hb:PW X (.BoolOp .Or (b::rest) pos) tB'):PW X (.BoolOp .Or (a::b::rest) pos) (tOr tA tB'):=by
 intro wh pins s σ H Q I h;refine isTrue_or (thn (ha pins s σ H _ I h) λc s1 ⟨H1,I1,q1⟩=>?_);cases c with
 |true=>exact⟨H1,I1,q1⟩
 |false=>exact hb wh pins s1 σ H1 Q I1 q1
theorem DI(ha:PT X a tA):PT X (.UnaryOp .Not a pos) (tNot tA):=by intro pins s σ H Q I h;exact isTrue_not (ha pins s σ H (λc H1=>Q (!c) H1) I h)
noncomputable def Fd(ta tb:TE):TE:=λσ H Q=>ta σ H λx H1=>∃c,x=.bl c/\if c=xO then tb σ H1 Q else Q (.bl xP) H1
noncomputable def Fc(ta:TE):TE:=λσ H Q=>ta σ H λx H1=>∃c,x=.bl c/\Q (.bl (!c)) H1
theorem DH{op}{t:TE}(h:PE X a t):PE X (.BoolOp op [a] pos) t:=λpins s σ H Q I hw=>BoolOp_one (h pins s σ H Q I hw)
theorem DG(ha:PE X a ta)(hb:PE X (.BoolOp .And (b::rest) pos) tb):PE X (.BoolOp .And (a::b::rest) pos) (Fd ta tb):=by
 intro pins s σ H Q I h;refine BoolOp_and (thn (ha pins s σ H _ I h) λv s1 ⟨x,H1,I1,r1,q1⟩=>?_);obtain⟨c,rfl,q1⟩:=q1;cases r1;refine Q8 ?_;cases c with
 |true=>exact hb pins s1 σ H1 Q I1 q1
 |false=>exact⟨.bl xP,H1,I1,rfl,q1⟩
theorem DF(ha:PE X a ta):PE X (.UnaryOp .Not a pos) (Fc ta):=by intro pins s σ H Q I h;refine UnaryOp_ (thn (ha pins s σ H _ I h) λv s1 ⟨x,H1,I1,r1,q1⟩=>?_);obtain⟨c,rfl,q1⟩:=q1;cases r1;exact not_of (Q8 ⟨.bl (!c),H1,I1,rfl,q1⟩)
noncomputable def tIf(t:TT)(ta tb:TE):TE:=λσ H Q=>t σ H λc H1=>if c=xO then ta σ H1 Q else tb σ H1 Q
theorem Au{c:Uv}(hc:PT X c tA)(ha:PE X a ta)(hb:PE X b tb):PE X (.IfExp c a b pos) (tIf tA ta tb):=by
 intro pins s σ H Q I h;refine wpAny_IfExp (thn (hc pins s σ H _ I h) λd s1 ⟨H1,I1,q1⟩=>?_);cases d with
 |true=>exact ha pins s1 σ H1 Q I1 q1
 |false=>exact hb pins s1 σ H1 Q I1 q1
end
def SqL(K:Frag)(H:Hp)(a:Ut)(xs:List V):Prop:=
 Rd H a (.lst xs) ∨
  ∃(o:Obj)(its:Array Uq)(n:Nat),K.lookup a=O o/\o.cls=.type "list" /\ o.dict=xN/\o.data=.seq its n/\its.size<=Uw/\Vals xs its.toList
def SqT(K:Frag)(H:Hp)(a:Ut)(xs:List V):Prop:=
 Rd H a (.tup xs) ∨
  ∃(o:Obj)(its:Array Uq)(n:Nat),K.lookup a=O o/\o.cls=.type "tuple" /\ o.data=.seq its n/\its.size<=Uw/\Vals xs its.toList
noncomputable def absV:Uq->Option V
 |.none=>O .non
 |.bool b=>O (.bl b)
 |.int i _=>O (.int i)
 |.str x _=>O (.str x)
 |.bytes b _=>O (.byt b)
 |.float b _=>O (.flt b)
 |.ref a=>O (.ref a)
 |.type n=>O (.ty n)
 |_=>xN
theorem RelV.abs{x:V}{u:Uq}(r:RelV x u):absV u=O x:=by
 cases x with
 |non=>cases r;rfl
 |bl _=>cases r;rfl
 |int _=>obtain⟨t,rfl⟩:=r;rfl
 |str _=>obtain⟨t,rfl⟩:=r;rfl
 |byt _=>obtain⟨t,rfl⟩:=r;rfl
 |flt _=>obtain⟨t,rfl⟩:=r;rfl
 |ref _=>cases r;rfl
 |ty _=>cases r;rfl
theorem RelV.inj{x y:V}{u:Uq}(r:RelV x u)(q:RelV y u):x=y:=Je (r.abs.symm.trans q.abs)
theorem Vals.inj:∀{xs ys:List V}{us:xS},Vals xs us->Vals ys us->xs=ys
 |_,_,_,.nil,.nil=>rfl
 |_,_,_,.cons r t,.cons r' t'=>by rw[r.inj r',Vals.inj t t']
section
variable{X:Cx}{pins:List (Ut×Obj)}{σ:St}{H:Hp}{s:Ur}{a:Ut}{xs ys:List V}
theorem SqL.of{K:Frag}(h:H a=O (.lst xs)):SqL K H a xs:=.inl (.inl h)
theorem SqT.of{K:Frag}(h:H a=O (.tup xs)):SqT K H a xs:=.inl (.inl h)
theorem Inv.list(I:Inv X pins σ H s)(h:SqL X.K H a xs):∃its:xS,Vals xs its/\PlainL s.heap a its.toArray/\xs.length<=Uw:=by
 rcases h with h|⟨o,its,n,hk,hc,hd,hs,hz,r⟩
 .obtain⟨z,its,n,r,e⟩:=h.ok I.hok
  exact⟨its,r,⟨_,n,e,rfl,rfl,rfl⟩,z⟩
 .refine⟨its.toList,r,⟨o,n,I.kIn a o hk,hc,hd,by simpa using hs⟩,?_⟩
  have e:=r.length;simp only[Ue]at e;omega
theorem Inv.tuple(I:Inv X pins σ H s)(h:SqT X.K H a xs):∃its:xS,Vals xs its/\IsTup s.heap a its.toArray/\xs.length<=Uw:=by
 rcases h with h|⟨o,its,n,hk,hc,hs,hz,r⟩
 .obtain⟨z,its,r,p⟩:=h.ok I.hok
  exact⟨its,r,p,z⟩
 .refine⟨its.toList,r,⟨o,I.kIn a o hk,hc,n,by simpa using hs⟩,?_⟩
  have e:=r.length;simp only[Ue]at e;omega
theorem Inv.list_inj(I:Inv X pins σ H s)(h:SqL X.K H a xs)(h':SqL X.K H a ys):xs=ys:=by
 obtain⟨its,r,⟨o,n,e,_,_,d⟩,_⟩:=I.list h;obtain⟨its',r',⟨o',n',e',_,_,d'⟩,_⟩:=I.list h';rw[e]at e';cases e';rw[d]at d';injection d' with d1 _
 have:its=its':=by simpa using congrArg Array.toList d1
 subst this;exact r.inj r'
theorem Inv.tuple_inj(I:Inv X pins σ H s)(h:SqT X.K H a xs)(h':SqT X.K H a ys):xs=ys:=by
 obtain⟨its,r,⟨o,e,_,n,d⟩,_⟩:=I.tuple h;obtain⟨its',r',⟨o',e',_,n',d'⟩,_⟩:=I.tuple h';rw[e]at e';cases e';rw[d]at d';injection d' with d1 _
 have:its=its':=by simpa using congrArg Array.toList d1
 subst this;exact r.inj r'
end
noncomputable abbrev Cx.wish(X:Cx)(E:Uq->Ur->Prop):Cx:={X with xe:=E}
noncomputable abbrev Cx.nox(X:Cx):Cx:=X.wish λ_ _=>False
theorem Cx.Ok.wish{X:Cx}(ok:X.Ok)(E:Uq->Ur->Prop):(X.wish E).Ok:=
 ⟨ok.mod,ok.kind,ok.glob,ok.blt,ok.above,ok.inj,ok.has,ok.cab,ok.hd,ok.frames,ok.stk,ok.exf,ok.bs,ok.bsz,ok.noex,ok.exfs,ok.funs,ok.frf⟩
theorem Cx.Ok.unwish{X:Cx}{E:Uq->Ur->Prop}(ok:(X.wish E).Ok):X.Ok:=
 ⟨ok.mod,ok.kind,ok.glob,ok.blt,ok.above,ok.inj,ok.has,ok.cab,ok.hd,ok.frames,ok.stk,ok.exf,ok.bs,ok.bsz,ok.noex,ok.exfs,ok.funs,ok.frf⟩
section
variable{X:Cx}{pins:List (Ut×Obj)}{σ:St}{H:Hp}{s:Ur}{E:Uq->Ur->Prop}
theorem Inv.wish(I:Inv X pins σ H s)(E:Uq->Ur->Prop):Inv (X.wish E) pins σ H s:=⟨I.ok.wish E,I.os,I.bare,I.base,I.loc,I.cell,I.free,I.freeC,I.pin,I.hok,I.len⟩
theorem Inv.unwish(I:Inv (X.wish E) pins σ H s):Inv X pins σ H s:=⟨I.ok.unwish,I.os,I.bare,I.base,I.loc,I.cell,I.free,I.freeC,I.pin,I.hok,I.len⟩
theorem SP.unwish{D:Ends}{f:Flow}{s':Ur}(h:SP (X.wish E) pins D f s'):SP X pins D f s':=by
 cases f with
 |next=>obtain⟨σ',H',I,q⟩:=h;exact⟨σ',H',I.unwish,q⟩
 |brk=>obtain⟨σ',H',I,q⟩:=h;exact⟨σ',H',I.unwish,q⟩
 |cont=>obtain⟨σ',H',I,q⟩:=h;exact⟨σ',H',I.unwish,q⟩
 |ret u=>obtain⟨v,σ',H',I,r,q⟩:=h;exact⟨v,σ',H',I.unwish,r,q⟩
theorem PSs.nox{st:List Stmt}{t:TS}(h:PSs X.nox st t):PSs X st t:=λpins s σ H D I hw=>
 QP (h pins s σ H D (I.wish _) hw) (λ_ _ q=>q.unwish) λ_ _ z=>False.elim z
end
section
variable{X:Cx}{st:Stmt}{rest:List Stmt}{t u:TS}{e:Uv}{te:TE}{pos:Pos}
noncomputable def Fb:TS:=λD σ H=>D.nx σ H
noncomputable def Y7(t u:TS):TS:=λD σ H=>t {D with nx:=u D} σ H
theorem CU:PSs X [] Fb:=λ_ _ σ H _ I h=>wpAny_execs_nil ⟨σ,H,I,h⟩
theorem VM(h1:PS X st t)(h2:PSs X rest u):PSs X (st::rest) (Y7 t u):=by
 intro pins s σ H D I h;refine wpAny_execs_cons (thn (h1 pins s σ H {D with nx:=u D} I h) λf s1 q=>?_);cases f with
 |next=>obtain⟨σ',H',I',q⟩:=q;exact h2 pins s1 σ' H' D I' q
 |ret v=>exact q
 |brk=>exact q
 |cont=>exact q
theorem TR(h1:PS X st t):PSs X [st] t:=by
 intro pins s σ H D I h;refine wpAny_execs_cons (thn (h1 pins s σ H D I h) λf s1 q=>?_);cases f with
 |next=>exact wpAny_execs_nil q
 |ret v=>exact q
 |brk=>exact q
 |cont=>exact q
theorem Inv.quiet{pins:List (Ut×Obj)}{σ:St}{H:Hp}{s:Ur}(I:Inv X pins σ H s):interactive X.env=xP:=by simp[interactive,I.ok.kind]
noncomputable def PB(te:TE):TS:=λD σ H=>te σ H λ_ H1=>D.nx σ H1
theorem Xz(he:PE X e te)(hs:swapsWith e xN pos.line X.env=pure xP:=by rfl):PS X (.Expr e pos) (PB te):=by intro pins s σ H D I h;exact wpAny_Expr_any (thn (he pins s σ H _ I h) λv s1 ⟨x,H1,I1,r1,q1⟩=>⟨σ,H1,I1,q1⟩) I.quiet hs
noncomputable def tRet(te:TE):TS:=λD σ H=>te σ H D.rt
theorem PP(he:PE X e te):PS X (.Return (O e) pos) (tRet te):=by intro pins s σ H D I h;exact wpAny_Return_some (thn (he pins s σ H _ I h) λv s1 ⟨x,H1,I1,r1,q1⟩=>⟨x,σ,H1,I1,r1,q1⟩)
noncomputable def tIfS(c:TT)(t u:TS):TS:=λD σ H=>c σ H λb H1=>if b=xO then t D σ H1 else u D σ H1
theorem Fa{c:Uv}{a b:List Stmt}{tc:TT}(hc:PT X c tc)(ha:PSs X a t)(hb:PSs X b u):PS X (.If c a b pos) (tIfS tc t u):=by
 intro pins s σ H D I h;refine wpAny_If (thn (hc pins s σ H _ I h) λd s1 ⟨H1,I1,q1⟩=>?_);cases d with
 |true=>exact ha pins s1 σ H1 D I1 q1
 |false=>exact hb pins s1 σ H1 D I1 q1
end
abbrev TG:=V->St->Hp->(St->Hp->Prop)->Prop
abbrev TGs:=List V->St->Hp->(St->Hp->Prop)->Prop
def PG(X:Cx)(target:Uv)(t:TG):Prop:=
 ∀(pins:List (Ut×Obj))(s:Ur)(σ:St)(H:Hp)(v:V)(u:Uq)(Q:St->Hp->Prop),Inv X pins σ H s->RelV v u->t v σ H Q ->
  Ux (model X.prog X.w) X.A (assign target X.env u) (λ_ s'=>∃σ' H',Inv X pins σ' H' s'/\Q σ' H') X.xe s
def PGs(X:Cx)(ts:xU)(t:TGs):Prop:=
 ∀(pins:List (Ut×Obj))(s:Ur)(σ:St)(H:Hp)(vs:List V)(us:xS)(Q:St->Hp->Prop),Inv X pins σ H s->Vals vs us->t vs σ H Q ->
  Ux (model X.prog X.w) X.A (assignInOrder ((UN ts X.env).map (·.2)) us) (λ_ s'=>∃σ' H',Inv X pins σ' H' s'/\Q σ' H') X.xe s
abbrev TIp:=V->V->Hp->VK->Prop
def PIp(X:Cx)(op:Operator)(t:TIp):Prop:=
 ∀(pins:List (Ut×Obj))(s:Ur)(σ:St)(H:Hp)(x y:V)(v u:Uq)(Q:VK),Inv X pins σ H s->RelV x v->RelV y u->t x y H Q ->
  Ux (model X.prog X.w) X.A (inplaceOp op v u) (EP X pins σ Q) X.xe s
section
variable{X:Cx}{pos:Pos}
noncomputable def Sq(i:Nat):TG:=λv σ H Q=>Q (σ.set i (O v)) H
theorem VR{i:Nat}{x:Str}(hN:X.N.Nodup)(hi:X.N[i]?=O x)(hx:Loc X.env.scope x)(hf:X.fn x=xO∨X.env.scope.names.lookup x=O .local:=by first|exact .inl rfl|exact .inr rfl|assumption):PG X (.Name x pos) (Sq i):=by intro pins s σ H v u Q I r h;exact wpAny_assign_Name (SK I hN hi hx r (λs' I'=>⟨_,H,I',h⟩) hf)
noncomputable def gNil:TGs:=λvs σ H Q=>vs=[]/\Q σ H
noncomputable def GZ(t:TG)(u:TGs):TGs:=λvs σ H Q=>∃v r,vs=v::r/\t v σ H λσ' H'=>u r σ' H' Q
theorem CT:PGs X [] gNil:=by intro pins s σ H vs us Q I r h;obtain⟨e,h⟩:=h;subst e;cases r;exact assignInOrder_nil ⟨σ,H,I,h⟩
theorem At{e:Uv}{es:xU}{t:TG}{u:TGs}(h1:PG X e t)(h2:PGs X es u)
  (hs:(UN (e::es) X.env).map (·.2)=assign e X.env::(UN es X.env).map (·.2):=by rfl):PGs X (e::es) (GZ t u):=by
 intro pins s σ H vs us Q I r h;obtain⟨v,vr,e1,h⟩:=h;subst e1;cases r with
 |cons r rr=>rw[hs];refine assignInOrder_cons (thn (h1 pins s σ H _ _ _ I r h) λ_ s1 ⟨σ1,H1,I1,q1⟩=>?_);exact h2 pins s1 σ1 H1 _ _ Q I1 rr q1
noncomputable def gTup(K:Frag)(n:Nat)(t:TGs):TG:=λv σ H Q=>∃a xs,v=.ref a/\SqT K H a xs/\xs.length=n/\t xs σ H Q
theorem DE{es:xU}{k:Nat}{t:TGs}{n:Nat}(hc:X.calm=xO)(h:PGs X es t)
  (hn:(UN es X.env).length=n:=by rfl) (hst:(UN es X.env).findIdx? (·.1)=xN:=by rfl):PG X (.Tuple es k pos) (gTup X.K n t):=by
 intro pins s σ H v u Q I r hw;obtain⟨a,xs,e1,hq,hl,hw⟩:=hw;subst e1;cases r;obtain⟨its,rv,ht,hz⟩:=I.tuple hq;refine assign_Tuple_tuple (I.ok.hd hc) ht (by simp[hn,←hl,rv.length]) hst λh' hx=>?_
 have I1:Inv X pins σ H {s with heap:=h'}:=I.kept (t':=s.toks) λb o e=>hx b o (QS (Qi e)) e;exact h pins _ σ H xs _ Q I1 (by simpa using rv) hw
noncomputable def tAsg(te:TE)(g:TG):TS:=λD σ H=>te σ H λx H1=>g x σ H1 D.nx
theorem DD{tg e:Uv}{te:TE}{g:TG}(he:PE X e te)(hg:PG X tg g)(hs:swapsWithSole [tg] e pos.line X.env=pure xP:=by rfl)(hw:swappedStores [tg] e X.env=pure xN:=by rfl)
  (h1:(UN [tg] X.env).map (·.2)=[assign tg X.env]:=by rfl):PS X (.Assign [tg] e pos) (tAsg te g):=by
 intro pins s σ H D I h;refine wpAny_Assign_stores (thn (he pins s σ H _ I h) λv s1 ⟨x,H1,I1,r1,q1⟩=>?_) hs hw;rw[h1];exact thn (hg pins s1 σ H1 x v _ I1 r1 q1) λ_ s2 q=>q
theorem PN{i:Nat}{x:Str}{e:Uv}{te:TE}{pos':Pos}(hN:X.N.Nodup)(hi:X.N[i]?=O x)(hx:Loc X.env.scope x)(he:PE X e te)(hs:swapsWith e (O (.Name x pos')) pos.line X.env=pure xP:=by rfl)(hf:X.fn x=xO∨X.env.scope.names.lookup x=O .local:=by first|exact .inl rfl|exact .inr rfl|assumption) :
  PS X (.Assign [.Name x pos'] e pos) (tAsg te (Sq i)):=by
 intro pins s σ H D I h;refine wpAny_Assign_Name (thn (he pins s σ H _ I h) λv s1 ⟨y,H1,I1,r1,q1⟩=>?_) hs;exact SK I1 hN hi hx r1 (λs2 I2=>⟨_,H1,I2,q1⟩) hf
noncomputable def tAug(i:Nat)(te:TE)(ti:TIp):TS:=λD σ H=>∃x,σ[i]?=O (O x)/\te σ H λy H1=>ti x y H1 λz H2=>D.nx (σ.set i (O z)) H2
theorem DC{i:Nat}{x:Str}{e:Uv}{te:TE}{op:Operator}{ti:TIp}{pos':Pos}(hN:X.N.Nodup)(hi:X.N[i]?=O x)(hx:Loc X.env.scope x)(he:PE X e te)(ho:PIp X op ti)(hf:X.fn x=xO∨X.env.scope.names.lookup x=O .local:=by first|exact .inl rfl|exact .inr rfl|assumption) :
  PS X (.AugAssign (.Name x pos') op e pos) (tAug i te ti):=by
 intro pins s σ H D I h;obtain⟨v,e1,h⟩:=h;obtain⟨m,hn,hl⟩:=I.loc;have vis:Vis X.env.scope x:=by rcases hx with k|k;exact .inl k;exact .inr (.inl k)
 obtain⟨u,r,l⟩:=hl i x v hi e1 vis;refine wpAny_AugAssign_Name ?_;have go:Ux (model X.prog X.w) X.A (eval e X.env) (λw s₂=>Ux (model X.prog X.w) X.A (inplaceOp op u w) (λr s₃=>Ux (model X.prog X.w) X.A (storeName X.env x r) (λ_=>SP X pins D .next) X.xe s₃) X.xe s₂) X.xe s:=by refine thn (he pins s σ H _ I h) λw s1 ⟨y,H1,I1,r1,q1⟩=>?_;refine thn (ho pins s1 σ H1 v y u w _ I1 r r1 q1) λz s2 ⟨zv,H2,I2,r2,q2⟩=>?_;exact SK I2 hN hi hx r2 (λs3 I3=>⟨_,H2,I3,q2⟩) hf
 rcases l with ⟨hk,hm⟩|⟨hk,c,hc,hcell⟩
 .exact wpAny_loadName_local I.ok.kind hk hn hm go
 .rcases hk with hk|hk
  .exact wpAny_loadName_cell I.ok.kind hk hc hcell go
  .rcases hx with k|k
   .have:X.env.scope.names.lookup x=O .free:=hk
    rw[k]at this;cases this
   .have:X.env.scope.names.lookup x=O .free:=hk
    rw[k]at this;cases this
noncomputable def ipI(f:Int->Int->Int):TIp:=λx y H Q=>∃i j,x=.int i/\y=.int j/\Q (.int (f i j)) H
theorem DB:PIp X .Add (ipI λi j=>i+j):=by intro pins s σ H x y v u Q I r1 r2 h;obtain⟨i,j,e1,e2,q⟩:=h;subst e1;subst e2;obtain⟨t,rfl⟩:=r1;obtain⟨t',rfl⟩:=r2;exact iadd_int ⟨.int _,H,I.tok _,⟨_,rfl⟩,q⟩
end
structure It where
 go:Nat->Hp->Prop
 yld:Nat->Hp->V->Hp->Prop
 stop:Nat->Hp->Prop
def KP(X:Cx)(pins:List (Ut×Obj))(H:Hp)(b:Ut):Prop:=
 H b=xN/\b≠X.env.locals/\b∉X.fs/\(b∈X.ex∨X.s₀.heap.objs.size<=b)/\(∀x c,X.env.cells.lookup x=O c->c≠b)/\∀p∈X.pn++pins,p.1≠b
theorem Inv.fpOk{X:Cx}{pins:List (Ut×Obj)}{σ:St}{H H':Hp}{s:Ur}{b:Ut}(I:Inv X pins σ H s)(hb:s.heap.objs.size<=b)(hn:H' b=xN):KP X pins H' b:=by
 refine⟨hn,Jq (Qy I.lt hb),I.nofs hb,.inr (Qt I.sz hb),λx c e z=>?_,λp hp z=>?_⟩
 .obtain⟨v,q⟩:=I.cell x c e
  exact absurd (Qy q.lt (by rw[z];exact hb)) (Jm _)
 .exact absurd (Qy (Qi (I.pin p hp).1) (by rw[z];exact hb)) (Jm _)
structure Turn(P:Us)(w:World)(K:Frag)(tg:Uv)(J:It)(fp:xW)(it:Ut)(tn:Nat->Heap->Prop):Prop where
 mem:it∈fp
 obj:∀i h,tn i h->∀b∈fp,∃o,h.get? b=O o/\∀v,o.data≠.cell v
 keep:∀i h h',tn i h->(∀b∈fp,∀o,h.get? b=O o->h'.get? b=O o)->tn i h'
 item:∀(X:Cx),X.prog=P->X.w=w->X.K=K->X.calm=xO->∀(i:Nat)(pins:List (Ut×Obj))(s:Ur)(σ:St)(H:Hp)(E:Uq->Ur->Prop),Inv X pins σ H s->(∀b∈fp,KP X pins H b)->tn i s.heap->J.go i H ->
  Ux (model P w) X.A (pyNext (.ref it)) (λr s1=>∃u,r=O u /\
   Ux (model P w) X.A (letOwnedTupleGo tg (.ref it) u) (λ_ s2=>∃x H',Inv X pins σ H' s2/\RelV x u/\J.yld i H x H'/\tn (i+1) s2.heap/\∀b∈fp,H' b=xN) E s1) E s
 done:∀(X:Cx),X.prog=P->X.w=w->X.K=K->X.calm=xO->∀(i:Nat)(pins:List (Ut×Obj))(s:Ur)(σ:St)(H:Hp)(E:Uq->Ur->Prop),Inv X pins σ H s->(∀b∈fp,KP X pins H b)->tn i s.heap->J.stop i H ->
  Ux (model P w) X.A (pyNext (.ref it)) (λr s1=>r=xN/\Inv X pins σ H s1) E s
 self:∀(A:Around)(i:Nat)(s:Ur)(Q:Uq->Ur->Prop)(E:Uq->Ur->Prop),tn i s.heap->Q (.ref it) s->Ux (model P w) A (pyIter (.ref it)) Q E s
abbrev TI:=St->Hp->(It->Hp->Prop)->Prop
def PIE(X:Cx)(pins:List (Ut×Obj))(σ:St)(tg:Uv)(R:It->Hp->Prop)(itv:Uq)(s2:Ur):Prop:=
 ∃(it:Ut)(fp:xW)(tn:Nat->Heap->Prop)(J:It)(H':Hp),itv=.ref it/\Inv X pins σ H' s2/\Turn X.prog X.w X.K tg J fp it tn/\tn 0 s2.heap/\(∀b∈fp,KP X pins H' b)/\R J H'
def PI(X:Cx)(tg iter:Uv)(wi:TI):Prop:=
 ∀(pins:List (Ut×Obj))(s:Ur)(σ:St)(H:Hp)(R:It->Hp->Prop),Inv X pins σ H s->wi σ H R ->
  Ux (model X.prog X.w) X.A (eval iter X.env) (λv s1=>Ux (model X.prog X.w) X.A (pyIter v) (PIE X pins σ tg R) X.xe s1) X.xe s
theorem Re{M:Model}{A:Around}{E:Uq->Ur->Prop}{s:Ur}{tg:Uv}{it:Ut}{u:Uq}{o:Obj}{n:String}{vs:Array Uq}{Q:Unit->Ur->Prop}(ho:s.heap.get? it=O o)(hc:o.cls=.type n)(hd:o.data=.fields vs)
  (hn:["enumerate", "zip", "dict_itemiterator", "dict_reverseitemiterator", "odict_iterator", "itertools.zip_longest", "itertools.pairwise"].contains n=xP) (hQ:Q () s):Ux M A (letOwnedTupleGo tg (.ref it) u) Q E s:=by
 unfold letOwnedTupleGo
 cases tg<;>first
  |exact Qm hQ
  |(cases u<;>first
    |exact Qm hQ
    |(
      refine Qd (wpAny_load ho ?_);rw[hc,hd];show Ux M A (if(["enumerate", "zip", "dict_itemiterator", "dict_reverseitemiterator", "odict_iterator", "itertools.zip_longest", "itertools.pairwise"].contains n&&vs[0]?==O (rawInt _))=xO then _ else _) Q E s;rw[Qw (by intro h;rw[hn,Uh]at h;cases h)];exact Qm hQ))
noncomputable def Itl(K:Frag)(a:Ut):It:=
 ⟨λi H=>∃xs x,SqL K H a xs/\xs[i]?=O x,λi H x H'=>H'=H/\∀xs,SqL K H a xs->xs[i]?=O x,λi H=>∃xs,SqL K H a xs/\xs.length<=i⟩
noncomputable def Itt(K:Frag)(a:Ut):It:=
 ⟨λi H=>∃xs x,SqT K H a xs/\xs[i]?=O x,λi H x H'=>H'=H/\∀xs,SqT K H a xs->xs[i]?=O x,λi H=>∃xs,SqT K H a xs/\xs.length<=i⟩
noncomputable def Itr(lo:Int)(n:Nat):It:=⟨λi _=>i<n,λi H x H'=>H'=H/\x=.int (lo+i),λi _=>n<=i⟩
theorem L8{P:Us}{w:World}{K:Frag}{tg:Uv}(a it:Ut):Turn P w K tg (Itl K a) [it] it (λi h=>h.IsListIter it a i) where
 mem:=by simp
 obj:=λi h st b hb=>by
  have e:b=it:=by simpa using hb
  subst e;obtain⟨o,e,c,d⟩:=st;exact⟨o,e,λv z=>by rw[d]at z;cases z⟩
 keep:=λi h h' st k=>st.at λo e=>k it (by simp) o e
 item:=by
  intro X hP hw hK hc i pins s σ H E I hf st hg;subst hP hw hK;obtain⟨xs,x,hq,hx⟩:=hg;obtain⟨its,rv,p,hz⟩:=I.list hq;obtain⟨u,hu,ru⟩:=rv.get hx;obtain⟨f0,f1,f2,f3,f4,f5⟩:=hf it (by simp);refine wpAny_pyNext_list_item st p.isList (x:=u) (by simpa using hu) λh' st' sb=>?_
  have I1:Inv X pins σ H {s with heap:=h'}:=I.turned (t':=s.toks) (λb o hb e=>(sb.2 b hb).trans e) f0 f1 f3 f4 f5;obtain⟨o,e,c,d⟩:=id st';exact⟨u,rfl,Re (s:={s with heap:=h'}) e c d (by decide) ⟨x,H,I1,ru,⟨rfl,λys hy=>by rw[I.list_inj hy hq];exact hx⟩,st',λb hb=>(hf b hb).1⟩⟩
 done:=by intro X hP hw hK hc i pins s σ H E I hf st hg;subst hP hw hK;obtain⟨xs,hq,hx⟩:=hg;obtain⟨its,rv,p,hz⟩:=I.list hq;obtain⟨f0,f1,f2,f3,f4,f5⟩:=hf it (by simp);have hl:=rv.length;exact wpAny_pyNext_list_end (I.ok.hd hc) st p.isList (by simp;omega) λh' eb=>⟨rfl,I.turned (t':=s.toks) (λb o hb e=>eb b o hb e) f0 f1 f3 f4 f5⟩
 self:=λ_ _ _ _ _ st h=>wpAny_pyIter_listiter st h
theorem ka{P:Us}{w:World}{K:Frag}{tg:Uv}(a it:Ut):Turn P w K tg (Itt K a) [it] it (λi h=>h.IsTupleIter it a i) where
 mem:=by simp
 obj:=λi h st b hb=>by
  have e:b=it:=by simpa using hb
  subst e;obtain⟨o,e,c,d⟩:=st;exact⟨o,e,λv z=>by rw[d]at z;cases z⟩
 keep:=λi h h' st k=>st.at λo e=>k it (by simp) o e
 item:=by
  intro X hP hw hK hc i pins s σ H E I hf st hg;subst hP hw hK;obtain⟨xs,x,hq,hx⟩:=hg;obtain⟨its,rv,p,hz⟩:=I.tuple hq;obtain⟨u,hu,ru⟩:=rv.get hx;obtain⟨f0,f1,f2,f3,f4,f5⟩:=hf it (by simp);refine wpAny_pyNext_tuple_item st (show s.heap.IsTuple a its.toArray from p) (x:=u) (by simpa using hu) λh' st' sb=>?_
  have I1:Inv X pins σ H {s with heap:=h'}:=I.turned (t':=s.toks) (λb o hb e=>(sb.2 b hb).trans e) f0 f1 f3 f4 f5;obtain⟨o,e,c,d⟩:=id st';exact⟨u,rfl,Re (s:={s with heap:=h'}) e c d (by decide) ⟨x,H,I1,ru,⟨rfl,λys hy=>by rw[I.tuple_inj hy hq];exact hx⟩,st',λb hb=>(hf b hb).1⟩⟩
 done:=by intro X hP hw hK hc i pins s σ H E I hf st hg;subst hP hw hK;obtain⟨xs,hq,hx⟩:=hg;obtain⟨its,rv,p,hz⟩:=I.tuple hq;obtain⟨f0,f1,f2,f3,f4,f5⟩:=hf it (by simp);have hl:=rv.length;exact wpAny_pyNext_tuple_end (I.ok.hd hc) st (show s.heap.IsTuple a its.toArray from p) (by simp;omega) λh' eb=>⟨rfl,I.turned (t':=s.toks) (λb o hb e=>eb b o hb e) f0 f1 f3 f4 f5⟩
 self:=λ_ _ _ _ _ st h=>wpAny_pyIter_tupleiter st h
theorem j9{P:Us}{w:World}{K:Frag}{tg:Uv}(it:Ut)(lo:Int)(n:Nat):Turn P w K tg (Itr lo n) [it] it (λi h=>IsRangeIter h it (lo+(i:Nat)*1) ((n:Int)-(i:Nat)) 1) where
 mem:=by simp
 obj:=λi h st b hb=>by
  have e:b=it:=by simpa using hb
  subst e;exact⟨_,st,λv z=>by have z':Data.fields _=Data.cell v:=z;cases z'⟩
 keep:=λi h h' st k=>k it (by simp) _ st
 item:=by
  intro X hP hw hK hc i pins s σ H E I hf st hg;subst hP hw hK;obtain⟨f0,f1,f2,f3,f4,f5⟩:=hf it (by simp);have W:=Walks.range (prog:=X.prog) (w:=X.w) (I.ok.hd hc) it lo 1 n;refine W.item i s _ _ hg st λv h' tk hv st' kk=>?_
  obtain⟨t,rfl⟩:=hv;have I1:Inv X pins σ H {s with heap:=h',toks:=tk}:=I.turned (λb o hb e=>kk b o (by simpa using hb) e) f0 f1 f3 f4 f5;refine⟨_,rfl,Re (s:={s with heap:=h',toks:=tk}) (n:= "range_iterator") st' xM xM (by decide) ⟨.int (lo+i),H,I1,⟨t,?_⟩,⟨rfl,rfl⟩,st',λb hb=>(hf b hb).1⟩⟩;rw[Int.mul_one]
 done:=by intro X hP hw hK hc i pins s σ H E I hf st hg;subst hP hw hK;obtain⟨f0,f1,f2,f3,f4,f5⟩:=hf it (by simp);exact wpAny_pyNext_range_end (I.ok.hd hc) st (by have:n<=i:=hg;omega) λh' eb=>⟨rfl,I.turned (t':=s.toks) (λb o hb e=>eb b o hb e) f0 f1 f3 f4 f5⟩
 self:=λ_ _ _ _ _ st h=>wpAny_pyIter_rangeiter st h
section
variable{X:Cx}{tg:Uv}
noncomputable def GY(K:Frag)(tl:TE):TI:=λσ H R=>tl σ H λx H1=>∃a,x=.ref a/\(∃xs,SqL K H1 a xs)/\R (Itl K a) H1
theorem M9{l:Uv}{tl:TE}(hl:PE X l tl):PI X tg l (GY X.K tl):=by
 intro pins s σ H R I h;refine thn (hl pins s σ H _ I h) λv s1 ⟨x,H1,I1,r1,q1⟩=>?_
 obtain⟨a,e,⟨xs,hq⟩,q⟩:=q1;subst e;cases r1;obtain⟨its,rv,p,hz⟩:=I1.list hq;refine wpAny_pyIter_list p.isList ?_;refine⟨s1.heap.objs.size,[s1.heap.objs.size],_,_,H1,rfl,I1.kept (t':=s1.toks) λb o e=>Qg _ e,L8 a _,⟨_,QD _ xM,rfl,rfl⟩,λb hb=>?_,q⟩;have e:b=s1.heap.objs.size:=by simpa using hb
 subst e;exact I1.fpOk (Qr _) (I1.hok.fresh (Qr _))
theorem Lq{pins:List (Ut×Obj)}{σ:St}{H:Hp}{s:Ur}{R:It->Hp->Prop}{E:Uq->Ur->Prop}{lo hi:Int}{t u v:Tok}{tk:Nat}(I:Inv X pins σ H s)(h1 : -(2 ^ 62)<=lo)(h2:lo<2 ^ 62)(h3 : -(2 ^ 62)<=hi)(h4:hi<2 ^ 62)
  (q:R (Itr lo (hi-lo).toNat) H):Ux (model X.prog X.w) X.A (pyIter (.ref s.heap.objs.size)) (PIE X pins σ tg R) E {s with heap:=s.heap.push {cls:=.type "range", data:=.fields #[.int lo t,.int hi u,.int 1 v]},toks:=tk}:=by
 refine wpAny_pyIter_range (IsRange.new ..) (small_one h1 h2 h3 h4) ?_;have I1:Inv X pins σ H {s with heap:=s.heap.push {cls:=.type "range", data:=.fields #[.int lo t,.int hi u,.int 1 v]},toks:=tk}:=I.kept λb o e=>Qg _ e
 refine⟨(s.heap.push {cls:=.type "range", data:=.fields #[.int lo t,.int hi u,.int 1 v]}).objs.size,[(s.heap.push {cls:=.type "range", data:=.fields #[.int lo t,.int hi u,.int 1 v]}).objs.size],_,_,H,rfl,
  I1.kept (t':=tk) λb o e=>Qg _ e,j9 _ lo (hi-lo).toNat,?_,λb hb=>?_,q⟩
 .have e1:lo+((0:Nat):Int)*1=lo:=by simp
  have e2:(((hi-lo).toNat:Nat):Int)-((0:Nat):Int)=Builtin.Range.rangeSize lo hi 1:=by rw[rangeSize_one];split<;>omega
  show IsRangeIter _ _ (lo+((0:Nat):Int)*1) ((((hi-lo).toNat:Nat):Int)-((0:Nat):Int)) 1;rw[e1,e2];exact QD _ xM
 .have e:b=(s.heap.push {cls:=.type "range", data:=.fields #[.int lo t,.int hi u,.int 1 v]}).objs.size:=by simpa using hb
  subst e;exact I1.fpOk (Qr _) (I1.hok.fresh (Qr _))
noncomputable def GX(ta:TA):TI:=λσ H R=>ta σ H λvs H1=>∃j:Int,vs=[.int j] /\ -(2 ^ 62)<=j/\j<2 ^ 62/\R (Itr 0 j.toNat) H1
noncomputable def F1(ta:TA):TI:=λσ H R=>ta σ H λvs H1=>∃i j:Int,vs=[.int i,.int j]/\(-(2 ^ 62)<=i/\i<2 ^ 62 /\ -(2 ^ 62)<=j/\j<2 ^ 62)/\R (Itr i (j-i).toNat) H1
theorem jR{a:Uv}{ta:TA}{p pos:Pos}(hg:Gl X "range")(hm:X.mg "range" = xN)(ha:PA X [a] ta)(hs:Uy [a] X.env=[(xP,eval a X.env)]:=by rfl):PI X tg (.Call (.Name "range" p) [a] [] pos) (GX ta):=by
 intro pins s σ H R I h;refine Call_ (Vy I hg hm boot_range (JQ (thn (ha pos pins s σ H _ I h) λus s1 ⟨vs,H1,I1,r1,q1⟩=>?_) hs xM));obtain⟨j,e,q1,q2,q⟩:=q1;subst e;cases r1 with
 |cons r rr=>cases rr;obtain⟨t,rfl⟩:=r;exact call_range_1 (Lq I1 (by omega) (by omega) q1 q2 (by simpa using q))
theorem jQ{a b:Uv}{ta:TA}{p pos:Pos}(hg:Gl X "range")(hm:X.mg "range" = xN)(ha:PA X [a,b] ta)(hs:Uy [a,b] X.env=[(xP,eval a X.env),(xP,eval b X.env)]:=by rfl)(hs2:Uy [b] X.env=[(xP,eval b X.env)]:=by rfl) :
  PI X tg (.Call (.Name "range" p) [a,b] [] pos) (F1 ta):=by
 intro pins s σ H R I h;refine Call_ (Vy I hg hm boot_range (JQ (thn (ha pos pins s σ H _ I h) λus s1 ⟨vs,H1,I1,r1,q1⟩=>?_) (by rw[hs,hs2]) (by rw[hs2];rfl)));obtain⟨i,j,e,⟨q1,q2,q3,q4⟩,q⟩:=q1;subst e;cases r1 with
 |cons r rr=>
  cases rr with
  |cons r' rr=>cases rr;obtain⟨t,rfl⟩:=r;obtain⟨t',rfl⟩:=r';exact call_range_2 (Lq I1 q1 q2 q3 q4 q)
noncomputable def tFor(wi:TI)(g:TG)(tb:TS):TS:=λD σ H=>wi σ H λJ H1=>∃W:Nat->Nat->St->Hp->Prop,(∃m,W 0 m σ H1)/\∀i m σ H,W i m σ H ->
 (J.stop i H/\D.nx σ H)∨(J.go i H/\∃N:St->Hp->Prop,(∀σ' H',N σ' H'->∃m',m'<m/\W (i+1) m' σ' H')/\∀x H',J.yld i H x H'->g x σ H' λσ2 H2=>tb {D with nx:=N,ct:=N,bk:=D.nx} σ2 H2)
noncomputable def Vx(fp:xW)(h:Heap):List (Ut×Obj):=fp.filterMap λb=>(h.get? b).map λo=>(b,o)
theorem Vj{fp:xW}{h:Heap}{b:Ut}{o:Obj}(hb:b∈fp)(e:h.get? b=O o):(b,o)∈Vx fp h:=List.mem_filterMap.mpr ⟨b,hb,by rw[e];rfl⟩
theorem jP{fp:xW}{h:Heap}{p:Ut×Obj}(hp:p∈Vx fp h):p.1∈fp/\h.get? p.1=O p.2:=by
 obtain⟨b,hb,e⟩:=List.mem_filterMap.mp hp;cases q:h.get? b with
 |none=>rw[q]at e;cases e
 |some o=>rw[q]at e;have e':(b,o)=p:=Je e;subst e';exact⟨hb,q⟩
theorem Inv.pinned{pins:List (Ut×Obj)}{σ:St}{H:Hp}{s:Ur}{fp:xW}(I:Inv X pins σ H s)(hf:∀b∈fp,KP X pins H b)(ho:∀b∈fp,∃o,s.heap.get? b=O o/\∀v,o.data≠.cell v):Inv X (pins++Vx fp s.heap) σ H s:=
 I.pins_of λp hp=>(QO.mp hp).elim (λz=>I.pin p (Qn _ z)) λz=>by obtain⟨hb,e⟩:=jP z;obtain⟨f0,f1,f2,_⟩:=hf p.1 hb;obtain⟨o,e',d⟩:=ho p.1 hb;rw[e]at e';cases e';exact⟨e,f0,f1,f2,d⟩
theorem Inv.unpinned{pins pl:List (Ut×Obj)}{σ:St}{H:Hp}{s:Ur}(I:Inv X (pins++pl) σ H s):Inv X pins σ H s:=I.pins_of λp hp=>I.pin p (Qn _ (Qv _ hp))
theorem N9{iter:Uv}{body:List Stmt}{wi:TI}{g:TG}{tb:TS}{pos:Pos}(hp:PassesOwn (model X.prog X.w) X.A X.env X.xe)(hc:X.calm=xO)(hi:PI X tg iter wi)(hg:PG X tg g)(hb:PSs X body tb)
  (hs:∀x,UO iter X.env x=pure x:=by intro _;rfl):PS X (.For tg iter body [] pos) (tFor wi g tb):=by
 intro pins s σ H D I h;refine wpAny_For (thn (hi pins s σ H _ I h) λv s1 h1=>thn h1 λitv s2 h2=>?_) hs;obtain⟨it,fp,tn,J,H2,e,I2,T,st2,f2,W,⟨m0,w0⟩,turn⟩:=h2;subst e;have stat:∀{H':Hp},(∀b∈fp,H' b=xN)->∀b∈fp,KP X pins H' b:=λhn b hb=>⟨hn b hb,(f2 b hb).2⟩;refine codeAny_forLoop_any (λn s'=>∃i σ' H',Inv X pins σ' H' s'/\tn i s'.heap/\(∀b∈fp,H' b=xN)/\W i n σ' H') ?_ m0 ⟨0,σ,H2,I2,st2,λb hb=>(f2 b hb).1,w0⟩;rintro n s3 ⟨i,σ3,H3,I3,st3,fr3,w3⟩;rcases turn i n σ3 H3 w3 with ⟨stop,qn⟩|⟨go,N,hN,step⟩
 .refine wpAny_passesOwn hp (thn (T.done X xM xM xM hc i pins s3 σ3 H3 X.xe I3 (stat fr3) st3 stop) λr s4 ⟨hr,I4⟩=>?_)
  subst hr;exact wpAny_execs_nil ⟨σ3,H3,I4,qn⟩
 .refine wpAny_passesOwn hp (thn (T.item X xM xM xM hc i pins s3 σ3 H3 X.xe I3 (stat fr3) st3 go) λr s4 ⟨u,hr,h4⟩=>?_)
  subst hr;refine wpAny_passesOwn hp (thn h4 λ_ s5 ⟨x,H5,I5,r5,y5,vH,wJ⟩=>?_);have I5':=I5.pinned (stat wJ) (T.obj _ _ vH);refine wpAny_passesOwn hp (thn (hg _ s5 σ3 H5 x u _ I5' r5 (step x H5 y5)) λ_ s6 ⟨σ6,H6,I6,q6⟩=>?_);refine wpAny_passesOwn hp (thn (hb _ s6 σ6 H6 _ I6 q6) λf s7 q7=>?_);have again:∀{σ7:St}{H7:Hp},Inv X (pins++Vx fp s5.heap) σ7 H7 s7->N σ7 H7->∃m,m<n/\∃i σ' H',Inv X pins σ' H' s7/\tn i s7.heap/\(∀b∈fp,H' b=xN)/\W i m σ' H':=λ{σ7 H7} I7 n7=>by obtain⟨m',hm,w7⟩:=hN σ7 H7 n7;refine⟨m',hm,i+1,σ7,H7,I7.unpinned,T.keep _ _ _ vH λb hb o e=>(I7.pin (b,o) (Qn _ (Qn _ (Vj hb e)))).1,λb hb=>?_,w7⟩;obtain⟨o,e,d⟩:=T.obj _ _ vH b hb;exact(I7.pin (b,o) (Qn _ (Qn _ (Vj hb e)))).2.1
  cases f with
  |next=>obtain⟨σ7,H7,I7,n7⟩:=q7;exact again I7 n7
  |cont=>obtain⟨σ7,H7,I7,n7⟩:=q7;exact again I7 n7
  |brk=>obtain⟨σ7,H7,I7,q7⟩:=q7;exact⟨σ7,H7,I7.unpinned,q7⟩
  |ret v=>obtain⟨x7,σ7,H7,I7,r7,q7⟩:=q7;exact⟨x7,σ7,H7,I7.unpinned,r7,q7⟩
end
abbrev R2:=V->V->Hp->VK->Prop
def OpR(X:Cx)(f:Uq->Uq->Sem Uq)(r:R2):Prop:=
 ∀(pins:List (Ut×Obj))(s:Ur)(σ:St)(H:Hp)(x y:V)(v u:Uq)(Q:VK),Inv X pins σ H s->RelV x v->RelV y u->r x y H Q ->
  Ux (model X.prog X.w) X.A (f v u) (EP X pins σ Q) X.xe s
def UnR(X:Cx)(f:Uq->Sem Uq)(r:V->Hp->VK->Prop):Prop:=
 ∀(pins:List (Ut×Obj))(s:Ur)(σ:St)(H:Hp)(x:V)(v:Uq)(Q:VK),Inv X pins σ H s->RelV x v->r x H Q ->
  Ux (model X.prog X.w) X.A (f v) (EP X pins σ Q) X.xe s
def ZS(X:Cx)(f:Uq)(r:List V->Hp->VK->Prop):Prop:=
 ∀(pins:List (Ut×Obj))(s:Ur)(σ:St)(H:Hp)(xs:List V)(us:xS)(Q:VK),Inv X pins σ H s->Vals xs us->r xs H Q ->
  Ux (model X.prog X.w) X.A (call f us) (EP X pins σ Q) X.xe s
def TruR(X:Cx)(r:V->Hp->(Bool->Hp->Prop)->Prop):Prop:=
 ∀(pins:List (Ut×Obj))(s:Ur)(σ:St)(H:Hp)(x:V)(v:Uq)(Q:Bool->Hp->Prop),Inv X pins σ H s->RelV x v->r x H Q ->
  Ux (model X.prog X.w) X.A (truthy v) (TP X pins σ Q) X.xe s
noncomputable def tOp(r:R2)(ta tb:TE):TE:=λσ H Q=>ta σ H λx H1=>tb σ H1 λy H2=>r x y H2 Q
noncomputable def tUn(r:V->Hp->VK->Prop)(ta:TE):TE:=λσ H Q=>ta σ H λx H1=>r x H1 Q
noncomputable def rI(C:Int->Int->Prop)(g:Int->Int->V):R2:=λx y H Q=>∃i j,x=.int i/\y=.int j/\C i j/\Q (g i j) H
noncomputable def rI0(g:Int->Int->V):R2:=λx y H Q=>∃i j,x=.int i/\y=.int j/\Q (g i j) H
noncomputable def rU(g:Int->V):V->Hp->VK->Prop:=λx H Q=>∃i,x=.int i/\Q (g i) H
section
variable{X:Cx}{a b c:Uv}{ta tb tc:TE}{pos:Pos}
theorem Tv(ha:PE X a ta)(hb:PE X b tb){pins:List (Ut×Obj)}{s:Ur}{σ:St}{H:Hp}{R:V->V->Hp->Prop}(I:Inv X pins σ H s)
  (h:ta σ H λx H1=>tb σ H1 λy H2=>R x y H2) {Q:Uq->Ur->Prop} {f:Uq->Uq->Sem Uq}
  (hf:∀v u s2 x y H2,Inv X pins σ H2 s2->RelV x v->RelV y u->R x y H2->Ux (model X.prog X.w) X.A (f v u) Q X.xe s2) :
  Ux (model X.prog X.w) X.A (eval a X.env) (λv s₁=>Ux (model X.prog X.w) X.A (eval b X.env) (λu s₂=>Ux (model X.prog X.w) X.A (f v u) Q X.xe s₂) X.xe s₁) X.xe s:=by
 refine thn (ha pins s σ H _ I h) λv s1 ⟨x,H1,I1,r1,q1⟩=>?_;refine thn (hb pins s1 σ H1 _ I1 q1) λu s2 ⟨y,H2,I2,r2,q2⟩=>?_;exact hf v u s2 x y H2 I2 r1 r2 q2
theorem Pz{op:Operator}{r:R2}(ho:OpR X (binaryOp op) r)(ha:PE X a ta)(hb:PE X b tb):PE X (.BinOp a op b pos) (tOp r ta tb):=by intro pins s σ H Q I h;exact wpAny_BinOp (Tv ha hb I h λv u s2 x y H2 I2 rx ry q=>ho pins s2 σ H2 x y v u Q I2 rx ry q)
theorem FZ{op:UnaryOp}{r:V->Hp->VK->Prop}(ho:UnR X (unaryOp op) r)(ha:PE X a ta):PE X (.UnaryOp op a pos) (tUn r ta):=by intro pins s σ H Q I h;exact UnaryOp_ (thn (ha pins s σ H _ I h) λv s1 ⟨x,H1,I1,r1,q1⟩=>ho pins s1 σ H1 x v Q I1 r1 q1)
theorem opI{f:Uq->Uq->Sem Uq}{C:Int->Int->Prop}{g:Int->Int->Int}
  (rule:∀(i j:Int)(t u:Tok)(s:Ur)(Q:Uq->Ur->Prop)(E:Uq->Ur->Prop),C i j->Q (.int (g i j) s.toks) {s with toks:=s.toks+1}->Ux (model X.prog X.w) X.A (f (.int i t) (.int j u)) Q E s) :
  OpR X f (rI C λi j=>.int (g i j)):=by
 intro pins s σ H x y v u Q I rx ry h;obtain⟨i,j,rfl,rfl,hc,q⟩:=h;obtain⟨t,rfl⟩:=rx;obtain⟨t',rfl⟩:=ry;exact rule i j t t' s _ _ hc ⟨.int (g i j),H,I.tok _,⟨_,rfl⟩,q⟩
theorem opI0{f:Uq->Uq->Sem Uq}{g:Int->Int->Int}
  (rule:∀(i j:Int)(t u:Tok)(s:Ur)(Q:Uq->Ur->Prop)(E:Uq->Ur->Prop),Q (.int (g i j) s.toks) {s with toks:=s.toks+1}->Ux (model X.prog X.w) X.A (f (.int i t) (.int j u)) Q E s) :
  OpR X f (rI0 λi j=>.int (g i j)):=by
 intro pins s σ H x y v u Q I rx ry h;obtain⟨i,j,rfl,rfl,q⟩:=h;obtain⟨t,rfl⟩:=rx;obtain⟨t',rfl⟩:=ry;exact rule i j t t' s _ _ ⟨.int (g i j),H,I.tok _,⟨_,rfl⟩,q⟩
theorem Wy{f:Uq->Uq->Sem Uq}{g:Int->Int->Bool}
  (rule:∀(i j:Int)(t u:Tok)(s:Ur)(Q:Uq->Ur->Prop)(E:Uq->Ur->Prop),Q (.bool (g i j)) s->Ux (model X.prog X.w) X.A (f (.int i t) (.int j u)) Q E s) :
  OpR X f (rI0 λi j=>.bl (g i j)):=by
 intro pins s σ H x y v u Q I rx ry h;obtain⟨i,j,rfl,rfl,q⟩:=h;obtain⟨t,rfl⟩:=rx;obtain⟨t',rfl⟩:=ry;exact rule i j t t' s _ _ ⟨.bl (g i j),H,I,rfl,q⟩
def CPow(i j:Int):Prop:=0<=j/\j<=1000000/\i.natAbs<2 ^ 64
def CMul(i j:Int):Prop:=(-(2 ^ 64)<i/\i<2 ^ 64)∨(-(2 ^ 64)<j/\j<2 ^ 64)
theorem CMul.ok{i j:Int}(h:CMul i j):IntMulOk i j:=by
 rcases h with ⟨h1,h2⟩|⟨h1,h2⟩
 .exact .of_left (intBits_le_64 h1 h2)
 .exact .of_right (intBits_le_64 h1 h2)
theorem DA:OpR X (binaryOp .Add) (rI0 λi j=>.int (i+j)):=opI0 λ_ _ _ _ _ _ _ q=>add_int q
theorem Dz:OpR X (binaryOp .Sub) (rI0 λi j=>.int (i-j)):=opI0 λ_ _ _ _ _ _ _ q=>sub_int q
theorem Dy:OpR X (binaryOp .Mult) (rI CMul λi j=>.int (i*j)):=opI λ_ _ _ _ _ _ _ hc q=>mul_int q hc.ok
theorem Dx:OpR X (binaryOp .Mod) (rI (λ_ j=>0<j) λi j=>.int (i % j)):=opI λi j _ _ _ _ _ hc q=>by have h1:(0:Int)<j:=hc;exact mod_int' (by omega) (by rw[Int.fmod_eq_emod_of_nonneg i (by omega)];exact q)
theorem Dw:OpR X (binaryOp .Pow) (rI CPow λi j=>.int (i ^ j.toNat)):=opI λ_ _ _ _ _ _ _ hc q=>pow_int_small hc.1 hc.2.1 hc.2.2 q
theorem unI{f:Uq->Sem Uq}{g:Int->Int}
  (rule:∀(i:Int)(t:Tok)(s:Ur)(Q:Uq->Ur->Prop)(E:Uq->Ur->Prop),Q (.int (g i) s.toks) {s with toks:=s.toks+1}->Ux (model X.prog X.w) X.A (f (.int i t)) Q E s) :
  UnR X f (rU λi=>.int (g i)):=by
 intro pins s σ H x v Q I rx h;obtain⟨i,rfl,q⟩:=h;obtain⟨t,rfl⟩:=rx;exact rule i t s _ _ ⟨.int (g i),H,I.tok _,⟨_,rfl⟩,q⟩
theorem Dv:UnR X (unaryOp .USub) (rU λi=>.int (-i)):=unI λ_ _ _ _ _ q=>neg_int q
end
section
variable{X:Cx}{a b c:Uv}{ta tb tc:TE}{pos:Pos}
theorem FY:OpR X (Uz .Lt) (rI0 λi j=>.bl (decide (i<j))):=Wy λ_ _ _ _ _ _ _ q=>lt_int q
theorem FX:OpR X (Uz .LtE) (rI0 λi j=>.bl (decide (i<=j))):=Wy λ_ _ _ _ _ _ _ q=>le_int q
theorem FW:OpR X (Uz .Gt) (rI0 λi j=>.bl (decide (j<i))):=Wy λ_ _ _ _ _ _ _ q=>gt_int q
theorem FV:OpR X (Uz .GtE) (rI0 λi j=>.bl (decide (j<=i))):=Wy λ_ _ _ _ _ _ _ q=>ge_int q
theorem OpR.or{f:Uq->Uq->Sem Uq}{r r':R2}(h:OpR X f r)(h':OpR X f r'):OpR X f (λx y H Q=>r x y H Q∨r' x y H Q):=by
 intro pins s σ H x y v u Q I rx ry q;rcases q with q|q
 .exact h pins s σ H x y v u Q I rx ry q
 .exact h' pins s σ H x y v u Q I rx ry q
theorem Du(b:Uv){op:CmpOp}(h:op≠.In:=by decide)(h2:op≠.NotIn:=by decide):behindInMarks op b=xP:=by
 have e1:(op==CmpOp.In)=xP:=by cases op<;>first|rfl|exact absurd xM h
 have e2:(op==CmpOp.NotIn)=xP:=by cases op<;>first|rfl|exact absurd xM h2
 cases b<;>simp[behindInMarks,e1,e2]
theorem M8{op:CmpOp}{r:R2}(ho:OpR X (Uz op) r)(ha:PE X a ta)(hb:PE X b tb)(hm:behindInMarks op b=xP):PE X (.Compare a [op] [b] pos) (tOp r ta tb):=by intro pins s σ H Q I h;exact wpAny_Compare1 (Tv ha hb I h λv u s2 x y H2 I2 rx ry q=>ho pins s2 σ H2 x y v u Q I2 rx ry q) hm
noncomputable def NK(t:TE):TT:=λσ H Q=>t σ H λx H'=>∃k,x=.bl k/\Q k H'
theorem P5{op:CmpOp}{r:R2}(ho:OpR X (Uz op) r)(ha:PE X a ta)(hb:PE X b tb)(hm:behindInMarks op b=xP):PT X (.Compare a [op] [b] pos) (NK (tOp r ta tb)):=by
 intro pins s σ H Q I h
 refine wpAny_isTrue_Compare1 (thn (ha pins s σ H _ I h) λv s1 ⟨x,H1,I1,r1,q1⟩=>thn (hb pins s1 σ H1 _ I1 q1) λu s2 ⟨y,H2,I2,r2,q2⟩=>
  thn (ho pins s2 σ H2 x y v u _ I2 r1 r2 q2) λc s3 ⟨z,H3,I3,r3,k,e,q3⟩=>?_) hm
 subst e;cases r3;exact Q8 ⟨H3,I3,q3⟩
noncomputable def N8(r r':R2)(ta tb tc:TE):TE:=λσ H Q=>ta σ H λx H1=>tb σ H1 λy H2=>r x y H2 λz H3=>∃k,z=.bl k /\
 (if k=xO then tc σ H3 λw' H4=>r' y w' H4 Q else Q (.bl xP) H3)
theorem As{op op':CmpOp}{r r':R2}(ho:OpR X (Uz op) r)(ho':OpR X (Uz op') r')(ha:PE X a ta)(hb:PE X b tb)(hc:PE X c tc)
  (hm:lastMarks [op,op'] [b,c]=xP:=by with_unfolding_all rfl):PE X (.Compare a [op,op'] [b,c] pos) (N8 r r' ta tb tc):=by
 intro pins s σ H Q I h
 refine Compare_chain (thn (ha pins s σ H _ I h) λv s1 ⟨x,H1,I1,r1,q1⟩=>chain_link (thn (hb pins s1 σ H1 _ I1 q1) λu s2 ⟨y,H2,I2,r2,q2⟩=>
  thn (ho pins s2 σ H2 x y v u _ I2 r1 r2 q2) λd s3 ⟨z,H3,I3,r3,k,e,q3⟩=>?_)) hm
 subst e;cases r3;refine Q8 ?_;cases k with
 |false=>exact ite_ff ⟨.bl xP,H3,I3,rfl,q3⟩
 |true=>exact ite_tt (chain_last (thn (hc pins s3 σ H3 _ I3 q3) λw' s4 ⟨z',H4,I4,r4,q4⟩=>ho' pins s4 σ H4 y z' u w' Q I4 r2 r4 q4))
theorem Ar{op op':CmpOp}{r r':R2}(ho:OpR X (Uz op) r)(ho':OpR X (Uz op') r')(ha:PE X a ta)(hb:PE X b tb)(hc:PE X c tc)
  (hm:lastMarks [op,op'] [b,c]=xP:=by with_unfolding_all rfl):PT X (.Compare a [op,op'] [b,c] pos) (NK (N8 r r' ta tb tc)):=by
 intro pins s σ H Q I h
 refine isTrue_chain (thn (ha pins s σ H _ I h) λv s1 ⟨x,H1,I1,r1,q1⟩=>test_link (thn (hb pins s1 σ H1 _ I1 q1) λu s2 ⟨y,H2,I2,r2,q2⟩=>
  thn (ho pins s2 σ H2 x y v u _ I2 r1 r2 q2) λd s3 ⟨z,H3,I3,r3,k,e,q3⟩=>?_)) hm
 subst e;cases r3;refine Q8 ?_;cases k with
 |false=>obtain⟨k',e',q'⟩:=q3;cases e';exact ite_ff ⟨H3,I3,q'⟩
 |true=>refine ite_tt (test_last (thn (hc pins s3 σ H3 _ I3 q3) λw' s4 ⟨z',H4,I4,r4,q4⟩=>thn (ho' pins s4 σ H4 y z' u w' _ I4 r2 r4 q4) λd' s5 ⟨z2,H5,I5,r5,k2,e2,q5⟩=>?_));subst e2;cases r5;exact Q8 ⟨H5,I5,q5⟩
def Tw(K:Frag)(x:V)(H:Hp)(k:Bool):Prop:=
 match x with
 |.non=>k=xP
 |.bl b=>k=b
 |.int i=>k=(i != 0)
 |.str y=>y.length<=Uw/\k=((y.length:Int) != 0)
 |.byt y=>y.size<=Uw/\k=((y.size:Int) != 0)
 |.ref p=>(∃xs,SqL K H p xs/\k = !xs.isEmpty)∨(∃xs,SqT K H p xs/\k = !xs.isEmpty) ∨ ∃kvs,H p=O (.dK kvs)/\k = !kvs.isEmpty
 |_=>False
theorem j8{κ:Type}{kvs:List (κ×V)}{vs:List (κ×Uq)}(r:KV kvs vs):(!vs.isEmpty) = !kvs.isEmpty:=by cases r<;>rfl
theorem HJ{xs:List V}{its:xS}(r:Vals xs its):(!its.toArray.isEmpty) = !xs.isEmpty:=by cases r<;>simp
theorem Ss:(Uw:Nat)<2 ^ 63:=by rw[Jy];decide
theorem Dt:TruR X (λx H Q=>∃k,Tw X.K x H k/\Q k H):=by
 intro pins s σ H x v Q I rx h;obtain⟨k,e,q⟩:=h;have hl:=Ss;have hs:Uw=16777216:=Jy;cases x with
 |non=>cases rx;have e':k=xP:=e;subst e';exact truthy_none ⟨H,I,q⟩
 |bl b=>cases rx;have e':k=b:=e;subst e';exact Q8 ⟨H,I,q⟩
 |int i=>obtain⟨t,rfl⟩:=rx;have e':k=(i != 0):=e;subst e';exact PySem.P.truthy_int ⟨H,I,q⟩
 |str y=>obtain⟨t,rfl⟩:=rx;obtain⟨hy,e'⟩:y.length<=Uw/\k=((y.length:Int) != 0):=e;subst e';exact PySem.P.truthy_str (by omega) ⟨H,I.tok _,q⟩
 |byt y=>obtain⟨t,rfl⟩:=rx;obtain⟨hy,e'⟩:y.size<=Uw/\k=((y.size:Int) != 0):=e;subst e';exact PySem.W.truthy_bytes (by omega) ⟨H,I.tok _,q⟩
 |ref p=>
  cases rx;have e':(∃xs,SqL X.K H p xs/\k = !xs.isEmpty)∨(∃xs,SqT X.K H p xs/\k = !xs.isEmpty) ∨ ∃kvs,H p=O (.dK kvs)/\k = !kvs.isEmpty:=e;rcases e' with ⟨xs,hx,e'⟩|⟨xs,hx,e'⟩|⟨kvs,hx,e'⟩
  .subst e'
   obtain⟨its,r,pl,hz⟩:=I.list hx;have hlen:=r.length;exact wpAny_truthy_list pl.isList (by simp only[QQ];omega) ⟨H,I.tok _,by rw[HJ r];exact q⟩
  .subst e'
   obtain⟨its,r,pl,hz⟩:=I.tuple hx;have hlen:=r.length;exact truthy_tuple pl (by simp only[QQ];omega) ⟨H,I.tok _,by rw[HJ r];exact q⟩
  .subst e'
   obtain⟨hz,hS,vs,r,m⟩:kvs.length<=Uw/\(p==sysModules)=xP/\∃vs,KV kvs vs/\s.heap.DictOf (P6 X.prog X.w) p vs:=I.hok p _ hx;have hlen:kvs.length=vs.length:=Paired.length r;exact wpAny_truthy_dict hS m (by omega) ⟨H,I.tok _,by rw[j8 r];exact q⟩
 |_=>exact(show False from e).elim
theorem Aq(ha:PE X a ta)(he:∀whole,isTrue a X.env whole=(do let v ←whole;standAt a.pos;holding [v] (truthy v))) :
  PT X a (λσ H Q=>ta σ H λx H'=>∃k,Tw X.K x H' k/\Q k H'):=by
 intro pins s σ H Q I h;exact isTrue_plain (thn (ha pins s σ H _ I h) λv s1 ⟨x,H1,I1,r1,q1⟩=>Dt pins s1 σ H1 x v Q I1 r1 q1) (he _)
theorem j7:OpR X (binaryOp .Add) (λx y H Q=>∃i j,x=.str i/\y=.str j/\i.length+j.length<=Uw/\Q (.str (i++j)) H):=by intro pins s σ H x y v u Q I rx ry h;obtain⟨i,j,rfl,rfl,hz,q⟩:=h;obtain⟨t,rfl⟩:=rx;obtain⟨t',rfl⟩:=ry;exact add_str (λt' tk=>⟨.str (i++j),H,I.tok _,⟨_,rfl⟩,q⟩) hz
theorem So{x:V}{us:xS}(r:Vals [x] us):∃u,us=[u]/\RelV x u:=by
 cases r with
 |cons r1 r2=>cases r2;exact⟨_,rfl,r1⟩
theorem Rc{x y:V}{us:xS}(r:Vals [x,y] us):∃u w',us=[u,w']/\RelV x u/\RelV y w':=by
 cases r with
 |cons r1 r2=>
  cases r2 with
  |cons r3 r4=>cases r4;exact⟨_,_,rfl,r1,r3⟩
theorem jO(hc:X.calm=xO):ZS X (.builtin "max") (λxs H Q=>∃i j,xs=[.int i,.int j]/\Q (.int (if j > i then j else i)) H):=by
 intro pins s σ H xs us Q I r h;obtain⟨i,j,rfl,q⟩:=h;obtain⟨u,w',rfl,⟨t,rfl⟩,⟨t',rfl⟩⟩:=Rc r;refine max_two_ints (I.ok.hd hc) λh' tk k=>⟨_,H,I.kept k,?_,q⟩
 by_cases hj:j > i
 .rw[Qq hj,Qq hj];exact⟨_,rfl⟩
 .rw[Qw hj,Qw hj];exact⟨_,rfl⟩
theorem jN(hc:X.calm=xO):ZS X (.builtin "min") (λxs H Q=>∃i j,xs=[.int i,.int j]/\Q (.int (if j<i then j else i)) H):=by
 intro pins s σ H xs us Q I r h;obtain⟨i,j,rfl,q⟩:=h;obtain⟨u,w',rfl,⟨t,rfl⟩,⟨t',rfl⟩⟩:=Rc r;refine min_two_ints (I.ok.hd hc) λh' tk k=>⟨_,H,I.kept k,?_,q⟩
 by_cases hj:j<i
 .rw[Qq hj,Qq hj];exact⟨_,rfl⟩
 .rw[Qw hj,Qw hj];exact⟨_,rfl⟩
theorem jM:ZS X (.type "int") (λxs H Q=>(∃i,xs=[.int i]/\Q (.int i) H) ∨ ∃k,xs=[.bl k]/\Q (.int (if k then 1 else 0)) H):=by
 intro pins s σ H xs us Q I r h;rcases h with ⟨i,rfl,q⟩|⟨k,rfl,q⟩
 .obtain⟨u,rfl,t,rfl⟩:=So r
  exact call_int_int ⟨.int i,H,I,⟨_,rfl⟩,q⟩
 .obtain⟨u,rfl,r1⟩:=So r
  cases r1;exact call_int_bool ⟨.int (if k then 1 else 0),H,I.tok _,⟨_,rfl⟩,q⟩
def LenV(K:Frag)(x:V)(H:Hp)(n:Nat):Prop:=
 match x with
 |.str y=>y.length<=Uw/\n=y.length
 |.byt y=>y.size<=Uw/\n=y.size
 |.ref p=>(∃xs,SqL K H p xs/\n=xs.length) ∨ ∃xs,SqT K H p xs/\n=xs.length
 |_=>False
theorem Lp:ZS X (.builtin "len") (λxs H Q=>∃x n,xs=[x]/\LenV X.K x H n/\Q (.int n) H):=by
 intro pins s σ H xs us Q I r h;obtain⟨x,n,rfl,e,q⟩:=h;obtain⟨u,rfl,rx⟩:=So r;have hl:=Ss;have hs:Uw=16777216:=Jy;cases x with
 |str y=>obtain⟨t,rfl⟩:=rx;obtain⟨hy,e'⟩:y.length<=Uw/\n=y.length:=e;subst e';exact len_str (by omega) ⟨.int _,H,I.tok _,⟨_,rfl⟩,q⟩
 |byt y=>obtain⟨t,rfl⟩:=rx;obtain⟨hy,e'⟩:y.size<=Uw/\n=y.size:=e;subst e';exact PySem.W.len_bytes (by omega) ⟨.int _,H,I.tok _,⟨_,rfl⟩,q⟩
 |ref p=>
  cases rx;have e':(∃xs,SqL X.K H p xs/\n=xs.length) ∨ ∃xs,SqT X.K H p xs/\n=xs.length:=e;rcases e' with ⟨xs,hx,e'⟩|⟨xs,hx,e'⟩
  .subst e'
   obtain⟨its,r',pl,hz⟩:=I.list hx;have hlen:=r'.length;exact Calls.call_len_list pl.isList (by simp only[QQ];omega) ⟨.int xs.length,H,I.tok _,⟨_,by simp only[QQ];rw[hlen]⟩,q⟩
  .subst e'
   obtain⟨its,r',pl,hz⟩:=I.tuple hx;have hlen:=r'.length;exact len_tuple pl (by simp only[QQ];omega) ⟨.int xs.length,H,I.tok _,⟨_,by simp only[QQ];rw[hlen]⟩,q⟩
 |_=>exact(show False from e).elim
end
noncomputable def Zl(f:Str)(v:V):List (Str×V)->List (Str×V)
 |[]=>[(f,v)]
 |(g,x)::r=>if g=f then(g,v)::r else(g,x)::Zl f v r
theorem Nf(f g:Str)(v:V):∀fs:List (Str×V),(Zl f v fs).lookup g=if g=f then O v else fs.lookup g
 |[]=>by
  show List.lookup g [(f,v)]=_;by_cases h:g=f
  .have hb:(g==f)=xO:=beq_iff_eq.mpr h
   simp only[List.lookup,hb,Qq h]
  .have hb:(g==f)=xP:=beq_eq_false_iff_ne.mpr h
   simp only[List.lookup,hb,Qw h]
 |(k,x)::r=>by
  have ih:=Nf f g v r;rw[show Zl f v ((k,x)::r)=(if k=f then(k,v)::r else(k,x)::Zl f v r)from rfl];by_cases hk:k=f
  .rw[Qq hk]
   by_cases h:g=k
   .have hb:(g==k)=xO:=beq_iff_eq.mpr h
    simp only[List.lookup,hb,Qq (h.trans hk)]
   .have hb:(g==k)=xP:=beq_eq_false_iff_ne.mpr h
    simp only[List.lookup,hb,Qw (λe:g=f=>h (e.trans hk.symm))]
  .rw[Qw hk]
   by_cases h:g=k
   .have hb:(g==k)=xO:=beq_iff_eq.mpr h
    simp only[List.lookup,hb,Qw (λe:g=f=>hk (h.symm.trans e))]
   .have hb:(g==k)=xP:=beq_eq_false_iff_ne.mpr h
    simp only[List.lookup,hb];exact ih
theorem OK(f:Str)(v:V):∀fs:List (Str×V),f∈(Zl f v fs).map (·.1)/\∀g,g∈fs.map (·.1)->g∈(Zl f v fs).map (·.1)
 |[]=>⟨by simp[Zl],λg h=>by simp at h⟩
 |(k,x)::r=>by
  obtain⟨i1,i2⟩:=OK f v r;rw[show Zl f v ((k,x)::r)=(if k=f then(k,v)::r else(k,x)::Zl f v r)from rfl];by_cases hk:k=f
  .rw[Qq hk]
   subst hk;exact⟨by simp,λg h=>by simpa using h⟩
  .rw[Qw hk]
   refine⟨?_,λg h=>?_⟩
   .rw[Qx]
    exact Qh _ i1
   .rw[Qx]at h⊢
    rcases QC.mp h with e|e
    .exact List.mem_cons.mpr (.inl e)
    .exact Qh _ (i2 g e)
section
variable{X:Cx}{pins:List (Ut×Obj)}{σ:St}{H:Hp}{s:Ur}{a C dx:Ut}{fs:List (Str×V)}{f:Str}{v:V}{A:Around}{E:Uq->Ur->Prop}
theorem CS{prog:Us}{w:World}{env:Env}{e:Uv}{f:Str}{pos:Pos}{s:Ur}{Q:Uq->Ur->Prop}(hb:attributeBase e f env (eval e env)=eval e env)
  (h:Ux (model prog w) A (eval e env) (λo s₁=>Ux (model prog w) A (getAttr o f xO) Q E s₁) E s):Ux (model prog w) A (eval (.Attribute e f pos) env) Q E s:=
 Attribute_any_ h (by rw[arm_eval_Attribute,hb])
end
structure Room(k:Nat)(A:Around):Prop where
 hd:A.handled=xN
 dp:A.depth+3*k+5<recursionLimit
 un:A.units+16*k+200<cLine
 gd:A.guards=O []
theorem Room.mono{j k:Nat}{A:Around}(r:Room k A)(h:j<=k):Room j A:=⟨r.hd,by have:=r.dp;omega,by have:=r.un;omega,r.gd⟩
theorem Room.deeper{k:Nat}{A:Around}(r:Room (k+1) A)(env:Env):Room k (A.deeper env):=
 ⟨r.hd,by have:=r.dp;show A.depth+1+3*k+5<_;omega,by have:=r.un;show A.units+3+16*k+200<_;omega,r.gd⟩
theorem kq{A:Around}{C:Ut}{us:xS}{kw:List (Str×Uq)}:(A.under (.builtin "type.__call__" ⟨.ref C::us,kw⟩)).depth=A.depth+1:=by
 first|rfl|simp[Around.under,Code.weight,Code.isCreation,Code.isGuard,Code.isCaller,Code.frames,Code.isFrame,guardIds]
theorem ko{A:Around}{C:Ut}{us:xS}{kw:List (Str×Uq)}:(A.under (.builtin "type.__call__" ⟨.ref C::us,kw⟩)).units=A.units+1:=by
 first|rfl|simp[Around.under,Code.cUnits,Code.frames,Code.isFrame]
theorem Room.make{k:Nat}{A:Around}(r:Room (k+1) A)(C:Ut)(us:xS)(kw:List (Str×Uq)):Room k (A.under (.builtin "type.__call__" ⟨.ref C::us,kw⟩)):=
 ⟨r.hd,by have:=r.dp;rw[kq];omega,by have:=r.un;rw[ko];omega,(by first|exact r.gd|(simp[Around.under,guardIds];exact r.gd))⟩
theorem Room.depth{k:Nat}{A:Around}(r:Room k A):A.depth<recursionLimit:=by have:=r.dp;omega
theorem Room.units{k:Nat}{A:Around}(r:Room k A):A.units+64<cLine:=by have:=r.un;omega
noncomputable def VZ:TA:=λ_ H Q=>Q [] H
noncomputable def Sn(ta:TE)(tr:TA):TA:=λσ H Q=>ta σ H λx H1=>tr σ H1 λxs H2=>Q (x::xs) H2
section
variable{X:Cx}{e:Uv}{es:xU}{te:TE}{t:TA}{pos:Pos}
theorem Z4:PA X [] VZ:=λ_ _ _ _ H Q I h=>Calls.spliced_nil ⟨[],H,I,.nil,h⟩
theorem Zq(ha:PE X e te)(hr:PA X es t)(hs:Uy (e::es) X.env=(xP,eval e X.env)::Uy es X.env:=by rfl):PA X (e::es) (Sn te t):=by intro pos pins s σ H Q I h;rw[hs];show Ux _ _ (spliced ((xP,eval e X.env)::backTo pos (Uy es X.env))) _ _ s;refine Calls.spliced_cons (thn (ha pins s σ H _ I h) λu s1 ⟨x,H1,I1,r1,q1⟩=>?_);exact thn (hr pos pins s1 σ H1 _ I1 q1) λus s2 ⟨xs,H2,I2,r2,q2⟩=>⟨x::xs,H2,I2,.cons r1 r2,q2⟩
noncomputable def tTup(t:TA):TE:=λσ H Q=>t σ H λxs H1=>xs.length<=Uw/\∀p,H1 p=xN->Q (.ref p) (upd H1 p (.tup xs))
noncomputable def tLst(t:TA):TE:=λσ H Q=>t σ H λxs H1=>xs.length<=Uw/\∀p,H1 p=xN->Q (.ref p) (upd H1 p (.lst xs))
theorem Mm{x1}(h:PA X es t):PE X (.Tuple es x1 pos) (tTup t):=by intro pins s σ H Q I hq;refine wpAny_Tuple_spliced (thn (h pos pins s σ H _ I hq) λus s1 ⟨xs,H1,I1,r,z,q⟩=>⟨by rw[←r.length];exact z,?_⟩);have hf:H1 s1.heap.objs.size=xN:=I1.hok.fresh (Qr _);refine⟨.ref s1.heap.objs.size,upd H1 s1.heap.objs.size (.tup xs),I1.laid (t':=s1.toks) (λb u e=>Qg _ e) (Qr _) ?_,rfl,q _ hf⟩;exact⟨z,us,r,⟨_,QD _ xM,rfl,_,rfl⟩⟩
theorem RC(h:PA X es t):PE X (.List es pos) (tLst t):=by intro pins s σ H Q I hq;refine wpAny_List_spliced (thn (h pos pins s σ H _ I hq) λus s1 ⟨xs,H1,I1,r,z,q⟩=>⟨by rw[←r.length];exact z,?_⟩);have hf:H1 s1.heap.objs.size=xN:=I1.hok.fresh (Qr _);refine⟨.ref s1.heap.objs.size,upd H1 s1.heap.objs.size (.lst xs),I1.laid (t':=s1.toks) (λb u e=>Qg _ e) (Qr _) ?_,rfl,q _ hf⟩;exact⟨z,us,0,r,QD _ xM⟩
end
abbrev Sp:=List V->Hp->VK->XK->Prop
abbrev CXT:=List Env->Hp->Ur->XK->Uq->Ur->Prop
structure Env0(P:Us)(w:World)(K:Frag)(mg:Str->xV)(base:Heap)(A:Around)(outer:List Env)(s:Ur)(H:Hp):Prop where
 frames:A.frames=O outer
 mod:Mod K mg base
 bs:∀b o,base.get? b=O o->s.heap.get? b=O o/\H b=xN
 bsz:base.objs.size<=s.heap.objs.size
 funs:s.heap.FunFrames base outer
 frf:∀b∈frs outer,H b=xN
 hok:HOk P w H s.heap
 bare:AllBare s.gens
def CE(outer:List Env)(P:Us)(w:World)(H:Hp)(s:Ur)(Q:VK)(u:Uq)(s':Ur):Prop:=
 ∃v H',s'.os=s.os/\AllBare s'.gens/\Un (frs outer) [] H H' s.heap s'.heap/\HOk P w H' s'.heap/\RelV v u/\Q v H'
def CR(CX:CXT)(outer:List Env)(P:Us)(w:World)(H:Hp)(s:Ur)(Q:VK)(E:XK)(r:Result)(s':Ur):Prop:=
 match r with
 |.ok (.ret u)=>CE outer P w H s Q u s'
 |.ok _=>False
 |.error e=>CX outer H s E e s'
structure FnOk(P:Us)(w:World)(K:Frag)(mg:Str->xV)(base:Heap)(CX:CXT)(k:Nat)(f:Ut)(fd:Uu)(ps:List Str)(sp:Sp):Prop where
 len:∀vs H Q E,sp vs H Q E->vs.length=ps.length
 run:∀(A:Around)(outer:List Env)(s:Ur)(H:Hp)(args:Args)(us:xS)(vs:List V)(Q:VK)(E:XK),Room k A->Env0 P w K mg base A outer s H->BindsTo s fd args (ps.zip us)->Vals vs us->sp vs H Q E ->
  codeAny (model P w) A (.call (.ref f) args) (CR CX outer P w H s Q E) s
theorem FnOk.imp{P:Us}{w:World}{K:Frag}{mg:Str->xV}{base:Heap}{CX:CXT}{k:Nat}{f:Ut}{fd:Uu}{ps:List Str}{sp sp':Sp}(F:FnOk P w K mg base CX k f fd ps sp)
  (h:∀vs H Q E,sp' vs H Q E->sp vs H Q E):FnOk P w K mg base CX k f fd ps sp':=
 ⟨λvs H Q E q=>F.len vs H Q E (h _ _ _ _ q),λA outer s H args us vs Q E hr he hb hv hs=>F.run A outer s H args us vs Q E hr he hb hv (h _ _ _ _ hs)⟩
theorem Env0.make{P:Us}{w:World}{K:Frag}{mg:Str->xV}{base:Heap}{A:Around}{outer:List Env}{s:Ur}{H:Hp}(e:Env0 P w K mg base A outer s H)(C:Ut)(us:xS)(kw:List (Str×Uq)) :
  Env0 P w K mg base (A.under (.builtin "type.__call__" ⟨.ref C::us,kw⟩)) outer s H:=⟨by first|exact e.frames|(simpa[Around.under,Code.envs,Code.isFrame,pushEnvs]using e.frames),e.mod,e.bs,e.bsz,e.funs,e.frf,e.hok,e.bare⟩
section
variable{X:Cx}{pins:List (Ut×Obj)}{σ:St}{H:Hp}{s s':Ur}
theorem Inv.env0(I:Inv X pins σ H s):Env0 X.prog X.w X.K X.mg X.base X.A X.stack s H:=
 ⟨I.ok.frames,I.ok.mod,I.bs,Qt I.ok.bsz I.sz,I.stack,I.stkFree,I.hok,I.bare⟩
theorem Inv.after{Q:VK}{u:Uq}(I:Inv X pins σ H s)(h:CE X.stack X.prog X.w H s Q u s'):EP X pins σ Q u s':=by obtain⟨v,H',os,bare,un,hok,r,q⟩:=h;obtain⟨hh,g,d,t,os'⟩:=s';obtain rfl:os'=s.os:=os;exact⟨v,H',I.call (h':=hh) (g':=g) (d':=d) (t':=t) (ch:=[]) un hok bare (λb z=>absurd z (by simp)),r,q⟩
end
noncomputable def PF(sp:Sp)(dvs:List V)(E:XK)(t:TA):TE:=λσ H Q=>t σ H λvs H1=>sp (vs++dvs) H1 Q E
def Yl(K:Frag)(fd:Uu)(ps:List Str)(ds:xS):Prop:=
 ∀(s:Ur)(us:xS),K.In s.heap->(us++ds).length=ps.length->BindsTo s fd ⟨us,[]⟩ (ps.zip (us++ds))
theorem Yl.all{K:Frag}{fd:Uu}{ps:List Str}(h:∀us:xS,us.length=ps.length->bindArgs fd ⟨us,[]⟩=pure (ps.zip us)):Yl K fd ps []:=λs us _ hl=>by rw[QH]at hl⊢;exact .of_eq (h us hl)
def PM(CX:CXT)(X:Cx)(E:XK):Prop:=∀(pins:List (Ut×Obj))(σ:St)(H:Hp)(s:Ur)(e:Uq)(s':Ur),Inv X pins σ H s->CX X.stack H s E e s'->X.xe e s'
section
variable{X:Cx}{CX:CXT}{k:Nat}{f C:Ut}{fd:Uu}{ps:List Str}{sp:Sp}{dvs:List V}{ds:xS}{E:XK}{x m:Str}{p pos apos:Pos}{e o:Uv}{es:xU}{ta:TE}{t:TA}
theorem Ml{pins:List (Ut×Obj)}{σ:St}{H:Hp}{s:Ur}{Q:VK}{us:xS}{vs:List V}(F:FnOk X.prog X.w X.K X.mg X.base CX k f fd ps sp)(hr:Room k X.A)(hb:Yl X.K fd ps ds)(hd:Vals dvs ds)(hx:PM CX X E)
  (I:Inv X pins σ H s) (r:Vals vs us) (h:sp (vs++dvs) H Q E):Ux (model X.prog X.w) X.A (call (.ref f) us) (EP X pins σ Q) X.xe s:=by
 have r2:Vals (vs++dvs) (us++ds):=r.append hd;have hl:(us++ds).length=ps.length:=by rw[←r2.length];exact F.len _ _ _ _ h
 refine wpAny_call (codeAny_mono (F.run X.A X.stack s H ⟨us,[]⟩ (us++ds) (vs++dvs) Q E hr I.env0 (hb s us I.kIn hl) r2 h) λr s' hq=>?_);cases r with
 |error e=>exact hx pins σ H s e s' I hq
 |ok fl=>
  cases fl with
  |ret u=>exact I.after hq
  |next=>exact False.elim hq
  |brk=>exact False.elim hq
  |cont=>exact False.elim hq
theorem P4(F:FnOk X.prog X.w X.K X.mg X.base CX k f fd ps sp)(hr:Room k X.A)(hg:Gl X x)(hm:X.mg x=O (.ref f))(hk:PySem.W.keepIn X.K (.ref f)=xO)(hb:Yl X.K fd ps ds)(hd:Vals dvs ds)(hx:PM CX X E)
  (ha:PA X (e::es) t) (hdb:(x==("__debug__" : Str))=xP:=by decide) (he:Uy (e::es) X.env=(xP,eval e X.env)::Uy es X.env:=by rfl) (hpl:(backTo pos (Uy es X.env)).any (·.1)=xP:=by rfl) :
  PE X (.Call (.Name x p) (e::es) [] pos) (PF sp dvs E t):=by
 intro pins s σ H Q I h;refine JJ (TU I hg hm ?_ hdb);refine PySem.W.callWith_K (h₀:=X.base) I.ok.mod.kin hk (thn (ha pos pins s σ H _ I h) λus s1 ⟨vs,H1,I1,r,q⟩=>⟨I1.kIn,?_⟩) he hpl;exact Ml F hr hb hd hx I1 r q
end
structure W8(N P:List Str)(sc:Scope):Prop where
 kind:sc.kind=.function
 co:sc.isCoroutine=xP
 gen:sc.isGenerator=xP
 nd:N.Nodup
 pre:N.take P.length=P
 par:∀x∈P,sc.names.lookup x=O .local∨sc.names.lookup x=O .cell
 nofree:∀y∈sc.names,y.2≠.free
theorem L7{kindOf:Str->Option NameKind}{x:Str}:∀{binds:List (Str×Uq)}{m:Str->xV},(∀v,(x,v)∉binds)->bindL kindOf binds m x=m x
 |[],_,_=>rfl
 |(n,v)::r,m,h=>by
  unfold bindL;rw[L7 λw hw=>h w (Qh _ hw)];split
  .have:x≠n:=by rintro rfl;exact h v Qf
   simp[this]
  .rfl
theorem L6{kindOf:Str->Option NameKind}{x:Str}:∀{binds:List (Str×Uq)}{m:Str->xV},(∀v,(x,v)∉binds)->bindC kindOf binds m x=m x
 |[],_,_=>rfl
 |(n,v)::r,m,h=>by
  unfold bindC;rw[L6 λw hw=>h w (Qh _ hw)];split
  .rfl
  .have:x≠n:=by rintro rfl;exact h v Qf
   simp[this]
theorem L5{kindOf:Str->Option NameKind}{x:Str}{v:Uq}:∀{P:List Str}{vs:xS}{i:Nat}{m:Str->xV},P.Nodup->P[i]?=O x->vs[i]?=O v->kindOf x=O .local ->
  bindL kindOf (P.zip vs) m x=O v
 |[],_,_,_,_,h,_,_=>by simp at h
 |_::_,[],_,_,_,_,h,_=>by simp at h
 |p::P,w::vs,0,m,nd,h1,h2,hk=>by simp at h1 h2;subst h1;subst h2;show bindL kindOf ((p,w)::P.zip vs) m p=_;unfold bindL;rw[L7 λv hv=>(QY.mp nd).1 (List.of_mem_zip hv).1,Qq hk];simp
 |p::P,w::vs,i+1,m,nd,h1,h2,hk=>by show bindL kindOf ((p,w)::P.zip vs) m x=_;unfold bindL;exact L5 (i:=i) (List.nodup_cons.mp nd).2 (by simpa using h1) (by simpa using h2) hk
theorem L4{kindOf:Str->Option NameKind}{x:Str}{v:Uq}:∀{P:List Str}{vs:xS}{i:Nat}{m:Str->xV},P.Nodup->P[i]?=O x->vs[i]?=O v->kindOf x≠O .local ->
  bindC kindOf (P.zip vs) m x=O v
 |[],_,_,_,_,h,_,_=>by simp at h
 |_::_,[],_,_,_,_,h,_=>by simp at h
 |p::P,w::vs,0,m,nd,h1,h2,hk=>by simp at h1 h2;subst h1;subst h2;show bindC kindOf ((p,w)::P.zip vs) m p=_;unfold bindC;rw[L6 λv hv=>(QY.mp nd).1 (List.of_mem_zip hv).1,Qw hk];simp
 |p::P,w::vs,i+1,m,nd,h1,h2,hk=>by show bindC kindOf ((p,w)::P.zip vs) m x=_;unfold bindC;exact L4 (i:=i) (List.nodup_cons.mp nd).2 (by simpa using h1) (by simpa using h2) hk
noncomputable def Xu(N:List Str)(vs:List V):St:=vs.map O++UB (N.length-vs.length) xN
noncomputable def K7(CX:CXT)(P:Us)(w:World)(K:Frag)(mg:Str->xV)(base:Heap)(N:List Str)(qual:Str)(scope:Scope)(f:Ut)(cd:Uq)(A:Around)(outer:List Env)(s:Ur)(H:Hp)(E:XK):Cx where
 prog:=P
 w:=w
 K:=K
 mg:=mg
 base:=base
 A:=A.deeper (envOfC qual scope s.heap.objs.size f cd)
 N:=N
 s₀:=s
 H₀:=H
 env:=envOfC qual scope s.heap.objs.size f cd
 outer:=outer
 stack:=envOfC qual scope s.heap.objs.size f cd::outer
 ex:=[]
 calm:=xO
 fn:=λ_=>xO
 pn:=[]
 xe:=λe s'=>Ux (model P w) (A.deeper (envOfC qual scope s.heap.objs.size f cd)) (leaving (envOfC qual scope s.heap.objs.size f cd) e) (λ_ s''=>CX outer H s E e s'') (λe' s''=>CX outer H s E e' s'') s'
theorem OA{sc:Scope}{n:Nat}{x:Str}(h:sc.names.lookup x=O .cell):∃c,(cellsFrom n sc.names []).lookup x=O c:=by have q:=PySem.W.cellsFrom_some sc.names n [] (.inl h);exact Option.isSome_iff_exists.mp q
theorem jL{CX:CXT}{P:Us}{w:World}{K:Frag}{mg:Str->xV}{base:Heap}{N ps:List Str}{qual:Str}{scope:Scope}{f:Ut}{cd:Uq}{A:Around}{outer:List Env}{s s1:Ur}{H:Hp}{E:XK}{us:xS}{vs:List V}
  (S:W8 N ps scope) (hd:A.handled=xN) (e0:Env0 P w K mg base A outer s H) (hl:vs.length=ps.length) (r:Vals vs us)
  (x:InCallC s s.heap.objs.size (bindL (envOfC qual scope s.heap.objs.size f cd).kindOf (ps.zip us) λ_=>xN) (cellsFrom (s.heap.objs.size+1) scope.names []) (bindC (envOfC qual scope s.heap.objs.size f cd).kindOf (ps.zip us) λ_=>xN) s1) :
  Inv (K7 CX P w K mg base N qual scope f cd A outer s H E) [] (Xu N vs) H s1:=by
 have hpl:ps.length<=N.length:=by have:=JX List.length S.pre;rw[Q7]at this;omega
 obtain⟨h1,tk,rfl,hk⟩:=x.done;have noA:∀b:Ut,b∉(K7 CX P w K mg base N qual scope f cd A outer s H E).ex:=λb z=>absurd (show b∈([]:xW)from z) (by simp)
 refine⟨⟨e0.mod,S.kind,rfl,rfl,Qr _,λy z c h1 h2=>?_,λy hy=>?_,λy c _ h=>?_,λ_=>hd,Around.frames_deeper e0.frames,.inr ⟨rfl,rfl⟩,λb z=>absurd z (noA b),e0.bs,e0.bsz,λb _ _=>noA b,λb z=>absurd z (noA b),e0.funs,e0.frf⟩,
  rfl,e0.bare,Un.kept hk,⟨_,x.toInCall.ns,λi y v h1 h2 h3=>?_⟩,λy c h=>⟨_,x.cell y c h⟩,e0.hok.fresh (Nat.le_refl _),λy c h=>?_,λp hp=>absurd (show p∈([]:List (Ut×Obj))from hp) (by simp),e0.hok.kept hk,?_⟩
 .exact name_of_addr x.apart (Ji h1) (Ji h2)
 .have hy:scope.names.lookup y=O .cell∨scope.names.lookup y=O .free:=hy
  rcases hy with hy|hy
  .exact OA hy
  .exact absurd xM (S.nofree _ (Ji hy))
 .exact Ug (x.above y c (Ji h))
 .have hi:i<vs.length:=by
   unfold Xu at h2;by_cases hi:i<vs.length
   .exact hi
   .rw[List.getElem?_append_right (by simpa using hi)]at h2
    rw[QJ]at h2;split at h2<;>cases h2
  have ha:vs[i]?=O v:=by
   unfold Xu at h2;rw[List.getElem?_append_left (by simpa using hi),List.getElem?_map]at h2;cases e:vs[i]? with
   |none=>rw[e]at h2;cases h2
   |some a=>rw[e]at h2;cases h2;rfl
  obtain⟨u,hu,rv⟩:=r.get ha;have hp:ps[i]?=O y:=by rw[←S.pre,List.getElem?_take_of_lt (by omega)];exact h1
  have ndP:ps.Nodup:=by rw[←S.pre];exact S.nd.sublist (List.take_sublist _ _)
  refine⟨u,rv,?_⟩;rcases S.par y (QM hp)with k|k
  .exact .inl ⟨k,L5 ndP hp hu k⟩
  .obtain⟨c,e⟩:=OA (n:=s.heap.objs.size+1) k
   refine .inr ⟨.inl k,c,e,?_⟩;have q:=x.cell y c e;rw[L4 ndP hp hu (by show scope.names.lookup y≠_;rw[k];decide)]at q;exact q
 .exact e0.hok.fresh (Ug (x.above y c (Ji h)))
 .unfold Xu
  show _=N.length;rw[Qk,Qb,QB];omega
theorem NJ{CX:CXT}{P:Us}{w:World}{K:Frag}{mg:Str->xV}{base:Heap}{k:Nat}{f:Ut}{name qual:Str}{params:Arguments}{body:List Stmt}{scope:Scope}{dV kV doc pm cdv ct oc:Uq}{an od:va}
  {osl:Array xV} {N ps:List Str} {sp:Sp} (lk:K.lookup f=O ⟨oc,od,.func (PySem.W.fnOf name qual params body scope dV kV doc pm an cdv ct),osl⟩) (hcd:PySem.W.codeIn K cdv qual=xO) (S:W8 N ps scope)
  (len:∀vs H Q E,sp vs H Q E->vs.length=ps.length)
  (hbody:∀(A:Around)(outer:List Env)(s:Ur)(H:Hp)(vs:List V)(Q:VK)(E:XK),Room k (A.deeper (envOfC qual scope s.heap.objs.size f cdv))->sp vs H Q E ->
   ∃t,PSs (K7 CX P w K mg base N qual scope f cdv A outer s H E) body t/\t {nx:=λ_ H'=>Q .non H',rt:=Q} (Xu N vs) H) :
  FnOk P w K mg base CX (k+1) f (PySem.W.fnOf name qual params body scope dV kV doc pm an cdv ct) ps sp:=by
 refine⟨len,λA outer s H args us vs Q E hr e0 hb r wq=>?_⟩;have hl:=len _ _ _ _ wq;have KX:K.In s.heap:=e0.mod.kin.keeps λb o e=>(e0.bs b o e).1;have lim:s.heap.NoLimit:=e0.mod.nolimit.keeps λb o e=>(e0.bs b o e).1
 have hkind:∀y∈ps.zip us,scope.names.lookup y.1=O .local∨(scope.names.lookup y.1=O .cell/\((cellsFrom (s.heap.objs.size+1) scope.names []).lookup y.1).isSome=xO):=λ⟨n,v⟩ hy=>by
  rcases S.par n (List.of_mem_zip hy).1 with q|q
  .exact .inl q
  .exact .inr ⟨q,PySem.W.cellsFrom_some _ _ _ (.inl q)⟩
 refine codeAny_call_function hr.depth (KX _ _ lk) xM S.co S.gen xM (PySem.W.codeRec_of KX hcd) (hb _ _ _ _ ?_);refine wpAny_newFunctionEnv_cells S.kind hkind λenv he s1 x=>?_;subst he
 refine⟨lim.keeps x.toInCall.keep,codeAny_func ?_⟩;obtain⟨t,ht,hq⟩:=hbody A outer s H vs Q E (hr.deeper _) wq;have I:Inv (K7 CX P w K mg base N qual scope f cdv A outer s H E) [] (Xu N vs) H s1:=jL S hr.hd e0 hl r x;refine QP (ht [] s1 (Xu N vs) H _ I hq) (λfl s' hs=>?_) λe s' hs=>hs
 have fin:∀{σ':St}{H':Hp}{v:V}{u:Uq},Inv (K7 CX P w K mg base N qual scope f cdv A outer s H E) [] σ' H' s'->RelV v u->Q v H'->CE outer P w H s Q u s':=
  λ{σ' H' v u} J rv q=>⟨v,H',J.os,J.bare,J.base,J.hok,rv,q⟩
 cases fl with
 |ret u=>obtain⟨v,σ',H',J,rv,q⟩:=hs;exact fin J rv q
 |next=>obtain⟨σ',H',J,q⟩:=hs;exact fin (v:=V.non) (u:=Value.none) J xM q
 |brk=>obtain⟨_,_,_,q⟩:=hs;exact False.elim q
 |cont=>obtain⟨_,_,_,q⟩:=hs;exact False.elim q
section
variable{X:Cx}{x:Str}{p pos:Pos}{e:Uv}{es:xU}{t:TA}{id T:String}{r:List V->Hp->VK->Prop}
noncomputable def tCB(r:List V->Hp->VK->Prop)(t:TA):TE:=λσ H Q=>t σ H λvs H1=>r vs H1 Q
theorem T5(hc:ZS X (.builtin id) r)(hg:Gl X x)(hm:X.mg x=xN)(hv:bootBuiltins x=O (.builtin id))(ha:PA X (e::es) t)(hn:x ≠ "__name__" :=by decide)(hdb:(x==("__debug__" : Str))=xP:=by decide)
  (he:Uy (e::es) X.env=(xP,eval e X.env)::Uy es X.env:=by rfl) (hpl:(backTo pos (Uy es X.env)).any (·.1)=xP:=by rfl):PE X (.Call (.Name x p) (e::es) [] pos) (tCB r t):=by
 intro pins s σ H Q I h;refine JJ (Vy I hg hm hv ?_ hn hdb);exact PyProof.Rows.callWith_builtin1 (thn (ha pos pins s σ H _ I h) λus s1 ⟨vs,H1,I1,r1,q1⟩=>hc pins s1 σ H1 vs us Q I1 r1 q1) he hpl
theorem Sa(hc:ZS X (.type T) r)(hg:Gl X x)(hm:X.mg x=xN)(hv:bootBuiltins x=O (.type T))(ha:PA X (e::es) t)(hn:x ≠ "__name__" :=by decide)(hdb:(x==("__debug__" : Str))=xP:=by decide)
  (he:Uy (e::es) X.env=(xP,eval e X.env)::Uy es X.env:=by rfl) (hpl:(backTo pos (Uy es X.env)).any (·.1)=xP:=by rfl):PE X (.Call (.Name x p) (e::es) [] pos) (tCB r t):=by
 intro pins s σ H Q I h;refine JJ (Vy I hg hm hv ?_ hn hdb);exact JQ (thn (ha pos pins s σ H _ I h) λus s1 ⟨vs,H1,I1,r1,q1⟩=>hc pins s1 σ H1 vs us Q I1 r1 q1) he hpl
end
end L2
namespace HT
open PySem PyProof.Rows
section
variable{prog:Us}{w:World}{A:Around}{E:Uq->Ur->Prop}{s:Ur}
noncomputable def sIx(n d:Nat):xZ->Nat
 |none=>d
 |some v=>if v<0 then(v+(n:Int)).toNat else min v.toNat n
end
end HT
namespace L2
open PySem PySem.Spec PyProof.Rows
abbrev TO:=St->Hp->(xZ->Hp->Prop)->Prop
def PO(X:Cx)(e:Option Uv)(t:TO):Prop:=
 ∀(pins:List (Ut×Obj))(s:Ur)(σ:St)(H:Hp)(Q:xZ->Hp->Prop),Inv X pins σ H s->t σ H Q ->
  Ux (model X.prog X.w) X.A (evalPart e X.env) (λu s'=>∃o H',Inv X pins σ H' s'/\IsPart u o/\Q o H') X.xe s
noncomputable def Bn:TO:=λ_ H Q=>Q xN H
noncomputable def FT(t:TE):TO:=λσ H Q=>t σ H λx H1=>∃i,x=.int i/\Q (O i) H1
section
variable{X:Cx}{e:Uv}{te:TE}{lo hi:Option Uv}{tl th:TO}{pos p2:Pos}
theorem Bm:PO X xN Bn:=by intro pins s σ H Q I h;rw[evalPart_none];exact Qm ⟨xN,H,I,.none,h⟩
theorem Bl(h:PE X e te):PO X (O e) (FT te):=by
 intro pins s σ H Q I hw;rw[evalPart_some];refine thn (h pins s σ H _ I hw) λu s1 ⟨x,H1,I1,r1,q1⟩=>?_
 obtain⟨i,rfl,q⟩:=q1;obtain⟨t,rfl⟩:=r1;exact⟨O i,H1,I1,.int i t,q⟩
def SlR(X:Cx)(r:V->xZ->xZ->Hp->VK->Prop):Prop:=
 ∀(pins:List (Ut×Obj))(s:Ur)(σ:St)(H:Hp)(x:V)(v vl vu:Uq)(lo hi:xZ)(sl:Ut)(Q:VK),Inv X pins σ H s->RelV x v->s.heap.IsSliceOf sl vl vu .none->IsPart vl lo->IsPart vu hi->r x lo hi H Q ->
  ∃T id,typeLookup (.type T) "__getitem__" = pure (O (.builtin id))/\s.TypeIs v T/\Ux (model X.prog X.w) X.A (getItem v (.ref sl)) (EP X pins σ Q) X.xe s
theorem SlR.or{r r':V->xZ->xZ->Hp->VK->Prop}(h:SlR X r)(h':SlR X r'):SlR X (λx lo hi H Q=>r x lo hi H Q∨r' x lo hi H Q):=by
 intro pins s σ H x v vl vu lo hi sl Q I rx hs pl pu q;rcases q with q|q
 .exact h pins s σ H x v vl vu lo hi sl Q I rx hs pl pu q
 .exact h' pins s σ H x v vl vu lo hi sl Q I rx hs pl pu q
noncomputable def tSl(r:V->xZ->xZ->Hp->VK->Prop)(te:TE)(tl th:TO):TE:=λσ H Q=>te σ H λx H1=>tl σ H1 λl H2=>th σ H2 λu H3=>r x l u H3 Q
theorem Ap{r:V->xZ->xZ->Hp->VK->Prop}(hr:SlR X r)(he:PE X e te)(hl:PO X lo tl)(hu:PO X hi th):PE X (.Subscript e (.Slice lo hi xN p2) pos) (tSl r te tl th):=by
 intro pins s σ H Q I h;refine Subscript_ (thn (he pins s σ H _ I h) λv s1 ⟨x,H1,I1,r1,q1⟩=>?_);refine wpAny_Slice (thn (hl pins s1 σ H1 _ I1 q1) λvl s2 ⟨l,H2,I2,pl,q2⟩=>thn (hu pins s2 σ H2 _ I2 q2) λvu s3 ⟨u,H3,I3,pu,q3⟩=>?_);rw[evalPart_none];refine Qm ?_;have I4:Inv X pins σ H3 {s3 with heap:=s3.heap.push {cls:=.type "slice", data:=.fields #[vl,vu,.none]}}:=I3.kept (t':=s3.toks) λb ob q=>Qg _ q
 obtain⟨T,id,hT,ht,hg⟩:=hr pins {s3 with heap:=s3.heap.push {cls:=.type "slice", data:=.fields #[vl,vu,.none]}} σ H3 x v vl vu l u s3.heap.objs.size Q I4 r1 (Heap.IsSliceOf.new ..) pl pu q3;show Ux (model X.prog X.w) X.A (subscriptTail e (.Slice lo hi xN p2) v (.ref s3.heap.objs.size)) (EP X pins σ Q) X.xe {s3 with heap:=s3.heap.push {cls:=.type "slice", data:=.fields #[vl,vu,.none]}};exact tail_any (ops:=[.ref s3.heap.objs.size,v]) ht hT hg (by with_unfolding_all rfl)
noncomputable def Xd(xs:List V)(lo hi:xZ):List V:=(xs.drop (HT.sIx xs.length 0 lo)).take (HT.sIx xs.length xs.length hi-HT.sIx xs.length 0 lo)
theorem kI(xs:List V)(lo hi:xZ):(Xd xs lo hi).length<=xs.length:=by unfold Xd;rw[Q7,Ud];omega
end
noncomputable def ixN(n:Nat)(i:Int):Option Nat:=if 0<=i then(if i<n then O i.toNat else xN)else if -(n:Int)<=i then O (i+n).toNat else xN
noncomputable def atI{α:Type}(xs:List α)(i:Int):Option α:=(ixN xs.length i).bind λj=>xs[j]?
theorem M7{n:Nat}{i:Int}{j:Nat}(h:ixN n i=O j):seqIndex? i n=O j/\j<n /\ -(n:Int)<=i/\i<n:=by
 unfold ixN at h;by_cases h0:0<=i
 .rw[Qq h0]at h
  by_cases h1:i<n
  .rw[Qq h1]at h
   have e:i.toNat=j:=Je h;exact⟨by rw[seqIndex_of h0 h1,e],by omega,by omega,h1⟩
  .rw[Qw h1]at h;cases h
 .rw[Qw h0]at h
  by_cases h1 : -(n:Int)<=i
  .rw[Qq h1]at h
   have e:(i+n).toNat=j:=Je h;exact⟨by rw[seqIndex_neg (by omega) h1,e],by omega,h1,by omega⟩
  .rw[Qw h1]at h;cases h
theorem P3{α:Type}{xs:List α}{i:Int}{v:α}(h:atI xs i=O v):∃j,seqIndex? i xs.length=O j/\xs[j]?=O v/\j<xs.length /\ -(xs.length:Int)<=i/\i<xs.length:=by
 unfold atI at h;cases e:ixN xs.length i with
 |none=>rw[e]at h;cases h
 |some j=>rw[e]at h;obtain⟨h1,h2,h3,h4⟩:=M7 e;exact⟨j,h1,h,h2,h3,h4⟩
theorem ZQ{α:Type}{xs:List α}{j:Nat}{v:α}(h:xs[j]?=O v):atI xs (j:Int)=O v:=by
 have hj:j<xs.length:=(Ql.mp h).1;have e:ixN xs.length (j:Int)=O j:=by unfold ixN;rw[if_pos (by omega),if_pos (by omega)];simp
 unfold atI;rw[e];exact h
def SG(b:Uv):Prop:=∀o i,subscripted b xP o i=operate [o,i] (getItem o i)
def IxR(X:Cx)(r:R2):Prop:=
 ∀(value slice:Uv)(pins:List (Ut×Obj))(s:Ur)(σ:St)(H:Hp)(x y:V)(v u:Uq)(Q:VK),Inv X pins σ H s->RelV x v->RelV y u->r x y H Q ->
  subscripted slice xP v u=operate [v,u] (getItem v u)->Ux (model X.prog X.w) X.A (subscriptTail value slice v u) (EP X pins σ Q) X.xe s
def MtR(X:Cx)(id:String)(r:V->List V->Hp->VK->Prop):Prop:=
 ∀(pins:List (Ut×Obj))(s:Ur)(σ:St)(H:Hp)(x:V)(xs:List V)(v:Uq)(us:xS)(Q:VK),Inv X pins σ H s->RelV x v->Vals xs us->r x xs H Q ->
  Ux (model X.prog X.w) X.A (call (.builtin id) (v::us)) (EP X pins σ Q) X.xe s
section
variable{X:Cx}{a b:Uv}{ta tb:TE}{pos:Pos}
theorem IxR.or{r r':R2}(h:IxR X r)(h':IxR X r'):IxR X (λx y H Q=>r x y H Q∨r' x y H Q):=by
 intro value slice pins s σ H x y v u Q I rx ry q hs;rcases q with q|q
 .exact h value slice pins s σ H x y v u Q I rx ry q hs
 .exact h' value slice pins s σ H x y v u Q I rx ry q hs
theorem Rb{r:R2}(hr:IxR X r)(ha:PE X a ta)(hb:PE X b tb)(hs:SG b):PE X (.Subscript a b pos) (tOp r ta tb):=by intro pins s σ H Q I h;exact Subscript_ (Tv ha hb I h λv u s2 x y H2 I2 rx ry q=>hr a b pins s2 σ H2 x y v u Q I2 rx ry q (hs _ _))
noncomputable def rIxL(K:Frag):R2:=λx y H Q=>∃p xs i v,x=.ref p/\y=.int i/\SqL K H p xs/\atI xs i=O v/\Q v H
noncomputable def rIxT(K:Frag):R2:=λx y H Q=>∃p xs i v,x=.ref p/\y=.int i/\SqT K H p xs/\atI xs i=O v/\Q v H
noncomputable def rIxS:R2:=λx y H Q=>∃z i c,x=.str z/\y=.int i/\z.length<=Uw/\atI z.cps.toList i=O c/\Q (.str ⟨#[c]⟩) H
theorem Bk:IxR X (rIxL X.K):=by
 intro value slice pins s σ H x y v u Q I rx ry h hs;obtain⟨p,xs,i,z,rfl,rfl,hq,he,q⟩:=h;cases rx;obtain⟨t,rfl⟩:=ry;obtain⟨its,r,pl,hz⟩:=I.list hq;obtain⟨j,h1,h2,h3,h4,h5⟩:=P3 he;obtain⟨w,ew,wD⟩:=r.get h2;have hl:=r.length;have hn:=Ss;have fin:EP X pins σ Q w s:=⟨z,H,I,wD,q⟩
 by_cases h0:0<=i
 .have hj:i.toNat=j:=by
   rw[seqIndex_of h0 h5]at h1;exact Je h1
  exact item_listR pl.isList h0 (by omega) (by rw[hj];simpa using ew) fin hs
 .have hj:(i+(its.toArray.size:Int)).toNat=j:=by
   rw[seqIndex_neg (by omega) h4]at h1;rw[QQ,←hl];exact Je h1
  exact subscriptTail_builtinR (x:=w) pl.isList.typeIs slot_list_getitem.lookup
   (wpAny_getItem_list_neg (Q:=λr s'=>r=w/\EP X pins σ Q r s') pl.isList (by omega) (by rw[List.size_toArray]<;>omega) (by omega) (by rw[hj];simpa using ew) ⟨rfl,fin⟩) hs
theorem Ds:IxR X (rIxT X.K):=by
 intro value slice pins s σ H x y v u Q I rx ry h hs;obtain⟨p,xs,i,z,rfl,rfl,hq,he,q⟩:=h;cases rx;obtain⟨t,rfl⟩:=ry;obtain⟨its,r,pl,hz⟩:=I.tuple hq;obtain⟨j,h1,h2,h3,h4,h5⟩:=P3 he;obtain⟨w,ew,wD⟩:=r.get h2;have hl:=r.length;have hn:=Ss;have fin:EP X pins σ Q w s:=⟨z,H,I,wD,q⟩
 exact subscriptTail_builtinR (x:=w) pl.typeIs slot_tuple_getitem.lookup
  (getItem_tuple (j:=j) (Q:=λr s'=>r=w/\EP X pins σ Q r s') pl (by omega) (by omega) (by rw[List.size_toArray,←hl];exact h1) (by simpa using ew) ⟨rfl,fin⟩) hs
theorem Dr:IxR X rIxS:=by
 intro value slice pins s σ H x y v u Q I rx ry h hs;obtain⟨z,i,c,rfl,rfl,hz,he,q⟩:=h;obtain⟨t,rfl⟩:=rx;obtain⟨t',rfl⟩:=ry;obtain⟨j,h1,h2,h3,h4,h5⟩:=P3 he;have hl:z.cps.toList.length=z.length:=by simp[Str.length]
 rw[hl]at h1 h4 h5;have hn:=Ss;exact tail_any (typeIs_str s z t) slot_str_getitem.lookup (getItem_str (c:=c) (by have e1:decide (i < -(2 ^ 63:Int))=xP:=QN (by omega);have e2:decide (i ≥ 2 ^ 63)=xP:=QN (by omega);rw[e1,e2,Bool.or_false]) (by rw[h1];simpa using h2) ⟨.str ⟨#[c]⟩,H,I.tok _,⟨_,rfl⟩,q⟩) hs
noncomputable def rIx(K:Frag):R2:=λx y H Q=>rIxL K x y H Q∨rIxT K x y H Q∨rIxS x y H Q
theorem RB:IxR X (rIx X.K):=Bk.or (Ds.or Dr)
theorem kY(lo hi:xZ)(n:Nat):(sliceBounds lo hi xN n).1=((HT.sIx n 0 lo:Nat):Int)/\(sliceBounds lo hi xN n).2.1=((HT.sIx n n hi:Nat):Int)/\(sliceBounds lo hi xN n).2.2=1:=by
 refine⟨?_,?_,rfl⟩
 .cases lo with
  |none=>simp[sliceBounds,HT.sIx]
  |some i=>
   simp only[sliceBounds,HT.sIx,Option.getD_none,show(1:Int) > 0 by decide,if_true];by_cases h:i<0
   .simp only[h,if_true]<;>omega
   .simp only[h,Uo]<;>omega
 .cases hi with
  |none=>simp[sliceBounds,HT.sIx]
  |some i=>
   simp only[sliceBounds,HT.sIx,Option.getD_none,show(1:Int) > 0 by decide,if_true];by_cases h:i<0
   .simp only[h,if_true]<;>omega
   .simp only[h,Uo]<;>omega
theorem xn(its:xS)(lo hi:xZ):slicePick its.toArray lo hi xN=((its.drop (HT.sIx its.length 0 lo)).take (HT.sIx its.length its.length hi-HT.sIx its.length 0 lo)).toArray:=by obtain⟨h1,h2,h3⟩:=kY lo hi its.toArray.size;unfold slicePick;rw[h1,h2,h3];simp only[sliceRange_one,pick_run,QQ]<;>rfl
noncomputable def rSlL(K:Frag):V->xZ->xZ->Hp->VK->Prop:=λx lo hi H Q=>∃a xs,x=.ref a/\SqL K H a xs/\∀p,H p=xN->Q (.ref p) (upd H p (.lst (Xd xs lo hi)))
theorem Bj:SlR X (rSlL X.K):=by intro pins s σ H x v vl vu lo hi sl Q I rx hs pl pu h;obtain⟨a,xs,rfl,hx,q⟩:=h;cases rx;obtain⟨its,r,ht,hz⟩:=I.list hx;have hlen:=r.length;refine⟨"list", _,slot_list_getitem.lookup,ht.isList.typeIs,?_⟩;refine wpAny_getItem_list_slice ht.isList hs pl pu .none (by simp) ?_ (by rw[List.size_toArray]<;>omega);rw[xn,←hlen];refine⟨.ref s.heap.objs.size,_,I.laid (t':=s.toks) (o:=.lst (Xd xs lo hi)) (λb ob q=>Qg _ q) (Qr _) ?_,rfl,q _ (I.hok.fresh (Qr _))⟩;exact⟨Qt (kI xs lo hi) hz,_,0,(r.drop (HT.sIx xs.length 0 lo)).take (HT.sIx xs.length xs.length hi-HT.sIx xs.length 0 lo),QD _ xM⟩
theorem HP:ZS X (.type "list") (λxs H Q=>∃p ys,xs=[.ref p]/\(SqL X.K H p ys∨SqT X.K H p ys)/\∀l,H l=xN->Q (.ref l) (upd H l (.lst ys))):=by
 intro pins s σ H xs us Q I r h;obtain⟨p,ys,rfl,hq,q⟩:=h;obtain⟨u,rfl,rx⟩:=So r;cases rx
 have fin:∀(its:xS),Vals ys its->ys.length<=Uw->∀(h':Heap)(c':Nat),(∀b o',s.heap.get? b=O o'->h'.get? b=O o') ->
   h'.get? s.heap.objs.size=O {cls:=.type "list", dict:=xN,data:=.seq its.toArray c',slots:=#[]}->EP X pins σ Q (.ref s.heap.objs.size) {s with heap:=h'}:=λits r' hz h' c' kp e=>
  ⟨.ref s.heap.objs.size,_,I.laid (t':=s.toks) kp (Qr _) (show Zj X.prog X.w _ h' _ (.lst ys)from⟨hz,its,c',r',e⟩),rfl,q _ (I.hok.fresh (Qr _))⟩
 rcases hq with hq|hq
 .obtain⟨its,r',pl,hz⟩:=I.list hq
  have hlen:=r'.length;obtain⟨o,ho,hc,n,hd⟩:=pl.isList;exact call_list_seq p (.inl xM) ho hc hd (λh' c' kp e=>fin its r' hz h' c' kp e) (by simp only[QQ]<;>omega)
 .obtain⟨its,r',pl,hz⟩:=I.tuple hq
  have hlen:=r'.length;obtain⟨o,ho,hc,n,hd⟩:=pl;exact call_list_seq p (.inr xM) ho hc hd (λh' c' kp e=>fin its r' hz h' c' kp e) (by simp only[QQ]<;>omega)
theorem xm:ZS X (.type "tuple") (λxs H Q=>∃p ys,xs=[.ref p]/\((SqL X.K H p ys/\∀l,H l=xN->Q (.ref l) (upd H l (.tup ys)))∨(SqT X.K H p ys/\Q (.ref p) H))):=by
 intro pins s σ H xs us Q I r h;obtain⟨p,ys,rfl,h⟩:=h;obtain⟨u,rfl,rx⟩:=So r;cases rx;rcases h with ⟨hq,q⟩|⟨hq,q⟩
 .obtain⟨its,r',pl,hz⟩:=I.list hq
  have hlen:=r'.length;refine call_tuple_list pl.isList (λh' kp=>?_) (by simp only[QQ]<;>omega);have I1:Inv X pins σ H {s with heap:=h'}:=I.kept (t':=s.toks) kp
  have I2:Inv X pins σ (upd H h'.objs.size (.tup ys)) {s with heap:=h'.push {cls:=.type "tuple", data:=.seq its.toArray}}:=
   I1.laid (t':=s.toks) (λb o e=>Qg _ e) (Qr _) (show Zj X.prog X.w _ _ _ (.tup ys)from⟨hz,its,r',IsTup.new _ _⟩)
  exact⟨.ref h'.objs.size,_,I2,rfl,q _ (I1.hok.fresh (Qr _))⟩
 .obtain⟨its,r',pl,hz⟩:=I.tuple hq
  exact call_tuple_same pl ⟨.ref p,H,I,rfl,q⟩
def tyV(K:Frag)(T:String)(x:V)(H:Hp):Prop:=match x with
 |.str _=>T = "str"
 |.int _=>T = "int"
 |.ref p=>(T = "list" /\ ∃xs,SqL K H p xs)∨(T = "tuple" /\ ∃o,K.lookup p=O o/\o.cls=.type "tuple" /\ o.dict=xN) ∨
   (T = "dict" /\ ((∃kvs,H p=O (.dK kvs)) ∨ ∃kvs,H p=O (.dT kvs)))∨(T = "set" /\ ∃S n,H p=O (.set S n))
 |_=>False
theorem Mk{pins:List (Ut×Obj)}{σ:St}{H:Hp}{s:Ur}{T:String}{x:V}{v:Uq}(I:Inv X pins σ H s)(r:RelV x v)(ty:tyV X.K T x H) :
  s.TypeIs v T/\∀a,v=.ref a->∃ob,s.heap.get? a=O ob/\ob.dict=xN:=by
 cases x with
 |str z=>obtain⟨t,rfl⟩:=r;cases (show T = "str" from ty);exact⟨typeIs_str s z t,λ_ e=>nomatch e⟩
 |int i=>obtain⟨t,rfl⟩:=r;cases (show T = "int" from ty);exact⟨typeIs_int s i t,λ_ e=>nomatch e⟩
 |ref p=>
  cases r;rcases ty with ⟨rfl,xs,hq⟩|⟨rfl,o,hk,hc,hd⟩|⟨rfl,hk⟩|⟨rfl,S,n,hk⟩
  .obtain⟨its,_,pl,_⟩:=I.list hq
   refine⟨pl.isList.typeIs,λa e=>?_⟩;cases e;obtain⟨o,n,e,c,hd,_⟩:=pl;exact⟨o,e,hd⟩
  .refine⟨⟨o,I.kIn p o hk,hc⟩,λa e=>?_⟩
   cases e;exact⟨o,I.kIn _ o hk,hd⟩
  .have z:∃o,s.heap.get? p=O o/\o.ExactDict:=by
    rcases hk with ⟨kvs,hk⟩|⟨kvs,hk⟩
    .obtain⟨_,_,_,_,o,_,_,e,ex,_⟩:=I.hok p _ hk
     exact⟨o,e,ex⟩
    .obtain⟨_,_,_,_,o,_,_,e,ex,_⟩:=I.hok p _ hk
     exact⟨o,e,ex⟩
   obtain⟨o,e,ex⟩:=z;refine⟨⟨o,e,ex.1⟩,λa e2=>?_⟩;cases e2;exact⟨o,e,ex.2.1⟩
  .obtain⟨o,_,_,_,e,ex,_⟩:=I.hok p _ hk
   refine⟨⟨o,e,ex.1⟩,λa e2=>?_⟩;cases e2;exact⟨o,e,ex.2.1⟩
 |_=>exact False.elim ty
noncomputable def tBM0(K:Frag)(T:String)(r:V->List V->Hp->VK->Prop)(to:TE):TE:=λσ H Q=>to σ H λx H1=>tyV K T x H1/\r x [] H1 Q
noncomputable def tBM(K:Frag)(T:String)(r:V->List V->Hp->VK->Prop)(to:TE)(t:TA):TE:=λσ H Q=>to σ H λx H1=>tyV K T x H1/\t σ H1 λxs H2=>r x xs H2 Q
variable{o e:Uv}{es:xU}{to:TE}{t:TA}{name:Str}{apos cpos:Pos}{T id:String}{r:V->List V->Hp->VK->Prop}
theorem Dq(pa:PlainAttrs T)(slot:Slot T name id)(hty:typeOf (.builtin id)=pure (.type "method_descriptor"))(hm:MtR X id r)(ho:PE X o to)
  (hbase:attributeBase o name X.env (eval o X.env)=eval o X.env:=by rfl) (hline:(apos.endLine==cpos.line)=xO:=by rfl):PE X (.Call (.Attribute o name apos) [] [] cpos) (tBM0 X.K T r to):=by
 intro pins s σ H Q I h;refine wpAny_Call_method0_late hbase hline (thn (ho pins s σ H _ I h) λv s1 ⟨x,H1,I1,r1,ty,q1⟩=>?_);obtain⟨h1,h2⟩:=Mk I1 r1 ty;exact⟨T,id,pa,slot,hty,h1,h2,Calls.callWith_builtin xM (PySem.evalArgs_none (hm pins s1 σ H1 x [] v [] Q I1 r1 .nil q1))⟩
theorem Wl(pa:PlainAttrs T)(slot:Slot T name id)(hty:typeOf (.builtin id)=pure (.type "method_descriptor"))(hm:MtR X id r)(ho:PE X o to)(ha:PA X (e::es) t)
  (hbase:attributeBase o name X.env (eval o X.env)=eval o X.env:=by rfl)
  (hfew:((backTo cpos (Uy (e::es) X.env)).all (λx=>!x.1)&&(backToKw cpos (keywordEach [] X.env)).all (λx=>x.1.isSome)
   && decide ((e::es).length+([]:List Keyword).length+(if([]:List Keyword).isEmpty then 0 else 1)<30))=xO:=by rfl)
  (hline:(apos.endLine==cpos.line)=xO:=by rfl) (hs:Uy (e::es) X.env=(xP,eval e X.env)::Uy es X.env:=by rfl) (hplain:(backTo cpos (Uy es X.env)).any (·.1)=xP:=by rfl) :
  PE X (.Call (.Attribute o name apos) (e::es) [] cpos) (tBM X.K T r to t):=by
 intro pins s σ H Q I h;refine wpAny_Call_method_late hbase hfew hline xM (thn (ho pins s σ H _ I h) λv s1 ⟨x,H1,I1,r1,ty,q1⟩=>?_);obtain⟨h1,h2⟩:=Mk I1 r1 ty;refine⟨T,id,pa,slot,hty,h1,h2,?_⟩;have hA:=ha cpos pins s1 σ H1 _ I1 q1;rw[hs]at hA⊢;refine Calls.callWith_builtin (by show(xP || (backTo cpos (Uy es X.env)).any (·.1))=xP;rw[hplain]<;>rfl) (Calls.evalArgs_plain ?_);exact thn hA λus s2 ⟨vs,H2,I2,r2,q2⟩=>hm pins s2 σ H2 x vs v us Q I2 r1 r2 q2
end
def MtM(X:Cx)(id:String)(r:V->List V->Hp->VK->Prop):Prop:=
 ∀(pins:List (Ut×Obj))(s:Ur)(σ:St)(H:Hp)(x:V)(xs:List V)(v:Uq)(us:xS)(Q:VK),Inv X pins σ H s->RelV x v->Vals xs us->r x xs H Q ->
  Ux (model X.prog X.w) X.A (call (.builtin id) (v::us)) (EP X pins σ Q) X.xe s
theorem Vals.one:∀{x:V}{us:xS},Vals [x] us->∃u,us=[u]/\RelV x u
 |_,_,.cons r .nil=>⟨_,rfl,r⟩
theorem Vals.two:∀{x y:V}{us:xS},Vals [x,y] us->∃u v,us=[u,v]/\RelV x u/\RelV y v
 |_,_,_,.cons r (.cons q .nil)=>⟨_,_,rfl,r,q⟩
theorem Vals.zero:∀{us:xS},Vals [] us->us=[]
 |_,.nil=>rfl
theorem Vals.eraseIdx:∀{xs:List V}{us:xS}(i:Nat),Vals xs us->Vals (xs.eraseIdx i) (us.eraseIdx i)
 |_,_,_,.nil=>.nil
 |_,_,0,.cons _ t=>t
 |_,_,i+1,.cons r t=>.cons r (Vals.eraseIdx i t)
theorem Vals.reverse{xs:List V}{us:xS}(h:Vals xs us):Vals xs.reverse us.reverse:=by
 induction h with
 |nil=>exact .nil
 |cons r t ih=>rw[JV,JV];exact Vals.append ih (.cons r .nil)
theorem Vals.rep{xs:List V}{us:xS}(h:Vals xs us):∀k:Nat,Vals (UB k xs).flatten (UB k us).flatten
 |0=>.nil
 |k+1=>by rw[Q0,Q0,QG,QG];exact Vals.append h (Vals.rep h k)
theorem L0{α:Type}:∀(l:List α)(i:Nat),(l.eraseIdx i).length<=l.length
 |[],_=>Qr _
 |_::_,0=>Jp _
 |_::r,i+1=>Nat.succ_le_succ (L0 r i)
theorem LZ(its:xS):∀(k:Nat)(acc:xS),
  List.foldl (λx1 x2=>x1++x2) acc.toArray (UB k its.toArray)=(acc++(UB k its).flatten).toArray
 |0,acc=>by simp
 |k+1,acc=>by
  have e:acc.toArray++its.toArray=(acc++its).toArray:=by simp
  have e2:(acc++its)++(UB k its).flatten=acc++(UB (k+1) its).flatten:=by rw[Q0,QG,Ja]
  rw[←e2,←LZ its k (acc++its),←e,Q0,List.foldl_cons]
section
variable{X:Cx}{pins:List (Ut×Obj)}{σ:St}{H:Hp}{s:Ur}{l b:Ut}{xs ys zs:List V}
theorem Inv.lset{its its':xS}{n:Nat}{f:Array Uq->Array Uq}{t':Nat}(I:Inv X pins σ H s)(hH:H l=O (.lst xs))
  (e:s.heap.get? l=O {cls:=.type "list", data:=.seq its.toArray n}) (hf:f its.toArray=its'.toArray) (hv:Vals ys its') (hz:ys.length<=Uw) :
  Inv X pins σ (upd H l (.lst ys)) {s with heap:=s.heap.update l (Obj.mapSeq f),toks:=t'}:=by
 have q:=PySem.IsL.update e f;rw[hf]at q;refine I.write (x:=l) (e:=l) (by rw[hH];exact trivial) (.inl xM) (λb' u hb hu=>(QX s.heap (Obj.mapSeq f) (Ne.symm hb)).trans hu) ⟨_,q⟩ ?_;exact⟨hz,its',_,hv,q⟩
theorem Inv.lnew{its:xS}{t':Nat}(I:Inv X pins σ H s)(hv:Vals ys its)(hz:ys.length<=Uw) :
  Inv X pins σ (upd H s.heap.objs.size (.lst ys)) {s with heap:=s.heap.push {cls:=.type "list", data:=.seq its.toArray},toks:=t'}:=
 I.laid (λ_ _ q=>Qg _ q) (Qr _) ⟨hz,its,0,hv,QD _ xM⟩
theorem Inv.fresh(I:Inv X pins σ H s):H s.heap.objs.size=xN:=I.hok.fresh (Qr _)
theorem Inv.lstM(I:Inv X pins σ H s)(hH:H l=O (.lst xs)):xs.length<=Uw/\∃(its:xS)(n:Nat),Vals xs its/\xs.length=its.length/\s.heap.get? l=O {cls:=.type "list", data:=.seq its.toArray n}:=by obtain⟨z,its,n,r,e⟩:=I.hok l _ hH;exact⟨z,its,n,r,r.length,e⟩
theorem Ao{n:Nat}(h:n<=Uw):Builtin.List.listTooLong n=xP:=by unfold Builtin.List.listTooLong;exact QN (by omega)
end
section
variable{X:Cx}
noncomputable def Bi:V->List V->Hp->VK->Prop:=λx vs H Q=>∃l xs y,x=.ref l/\vs=[y]/\H l=O (.lst xs)/\xs.length<Uw/\Q .non (upd H l (.lst (xs++[y])))
theorem Wv:MtM X "list.append" Bi:=by intro pins s σ H x vs v us Q I rx rv h;obtain⟨l,xs,y,rfl,rfl,hH,hz,q⟩:=h;cases rx;obtain⟨u,rfl,ru⟩:=rv.one;obtain⟨z,its,n,r,hl,e⟩:=I.lstM hH;refine call_meets F.slot_list_append ⟨_,e,rfl⟩ F.entry_list_append (F.args_list_append_2 _ _) (PySem.list_append l its.toArray n u (by rw[QQ];omega)) ⟨e,?_⟩;refine⟨.non,_,I.lset (its':=its++[u]) hH e (by simp) (r.append (.cons ru .nil)) ?_,rfl,q⟩;rw[Qk,Q4];omega
noncomputable def Dp:V->List V->Hp->VK->Prop:=λx vs H Q=>∃l xs i k y,x=.ref l/\vs=[.int i]/\H l=O (.lst xs) /\ -(2 ^ 63)<=i/\i<2 ^ 63/\seqIndex? i xs.length=O k/\xs[k]?=O y/\Q y (upd H l (.lst (xs.eraseIdx k)))
theorem An:MtM X "list.pop" Dp:=by
 intro pins s σ H x vs v us Q I rx rv h;obtain⟨l,xs,i,k,y,rfl,rfl,hH,h1,h2,hk,hy,q⟩:=h;cases rx;obtain⟨u,rfl,ru⟩:=rv.one;obtain⟨t,rfl⟩:=ru;obtain⟨z,its,n,r,hl,e⟩:=I.lstM hH;obtain⟨w,hw,wD⟩:=r.get hy
 refine call_meets F.slot_list_pop ⟨_,e,rfl⟩ F.entry_list_pop (F.args_list_pop_2 _ _)
  (MeetsSeq.list_pop_at l its.toArray n i t k w (fitsIndex_both h1 h2) (by rw[QQ,←hl];exact hk) (by rw[←Array.getElem?_toList];exact hw) (by rw[QQ];omega)) ⟨e,?_⟩
 refine⟨y,_,I.lset (its':=its.eraseIdx k) hH e ?_ (r.eraseIdx k) ?_,wD,q⟩
 .show its.toArray.eraseIdxIfInBounds k=(its.eraseIdx k).toArray
  rw[List.eraseIdxIfInBounds_toArray]
 .have:=L0 xs k
  omega
noncomputable def Do:V->List V->Hp->VK->Prop:=λx vs H Q=>∃l xs,x=.ref l/\vs=[]/\H l=O (.lst xs)/\Q .non (upd H l (.lst []))
theorem Am:MtM X "list.clear" Do:=by intro pins s σ H x vs v us Q I rx rv h;obtain⟨l,xs,rfl,rfl,hH,q⟩:=h;cases rx;have hus:=rv.zero;subst hus;obtain⟨z,its,n,r,hl,e⟩:=I.lstM hH;refine call_meets F.slot_list_clear ⟨_,e,rfl⟩ F.entry_list_clear (F.args_list_clear_1 _) (AutoSeq1.list_clear_list_0 l its.toArray n (by rw[QQ];omega)) ⟨e,?_⟩;exact⟨.non,_,I.lset (its':=[]) (ys:=[]) hH e xM .nil (JL _),rfl,q⟩
theorem Bh{α:Type}(xs:List α)(k:Nat):(UB k xs).flatten.length=k*xs.length:=by
 induction k with
 |zero=>simp
 |succ k ih=>rw[Q0,QG,Qk,ih,Nat.succ_mul,Nat.add_comm]
end
section
variable{prog:Us}{w:World}{A:Around}{E:Uq->Ur->Prop}{s:Ur}
set_option maxRecDepth 100000 in
end
end L2
namespace Att
open PySem PySem.W PySem.Calls PyProof.Rows
theorem xw{P:Params}{h:Heap}:∀(ns:xR)(vs:xS),WellAll P h vs (ns.map WData.int)->IntsAre vs ns:=by
 intro ns;induction ns with
 |nil=>intro vs w;rw[JA]at w;cases w;exact .nil
 |cons n ns ih=>
  intro vs w;rw[Qx]at w;cases w with
  |cons a b=>cases a;exact .cons _ _ (ih _ b)
theorem jK{l:OpenLaw}{n:Nat}(hn:l.most=O n){P:Params}{h:Heap}{args:List WData}{vals:xS}
  (hpre:l.row.toRowW.claim.pre args=xO) (wQ:WellAll P h vals args) :
  ∃a vs ns,vals=[Value.ref a]/\args=[WData.list (ns.map WData.int)]/\h.get? a=O {cls:=.type "list", data:=.seq vs.toArray}/\IntsAre vs ns/\ns.length<=n:=by
 have hsh:WShape.hasAll [] args [.list .int]=xO:=(pre_splitW hpre).1;have hc:l.pre.holds [] {args:=args}=xO:=(pre_splitW hpre).2;obtain⟨d,r,rfl,h1,h2⟩:=hasAllW_cons hsh;obtain rfl:=hasAllW_nil h2;obtain⟨xs,rfl,h3⟩:=hasW_list h1;obtain⟨ns,rfl⟩:=items_int h3
 have hlen:ns.length<=n:=by
  unfold OpenLaw.pre at hc;have h4:(WTm.not (.lt (.lit (.int (n:Int))) (.len (.arg 0)))).holds [] {args:=[.list (ns.map .int)]}=xO:=by have h4:=(holds_andW hc).1;rw[hn]at h4;exact h4
  have h5:=condW_of h4 (w_not (w_lt w_lit (w_len_list (w_arg xM))));rw[Qb]at h5;refine Q2 λq=>?_;have q':(n:Int)<((ns.length:Nat):Int):=by omega
  first
   |(rw[QW q']at h5;exact absurd h5 (by decide))
   |(simp at h5;omega)
 cases wQ with
 |cons w1 w2=>
  cases w2;cases w1 with
  |list ho hall=>exact⟨_,_,ns,rfl,rfl,ho,xw ns _ hall,hlen⟩
theorem jJ(l:OpenLaw)(args:List WData):l.row.toRowW.claim.post args (.bool xO) args=xO:=
 postW_of (r:=l.row.toRowW) (X:=(xO==xO))
  (show WShape.has [] (.bool xO) .bool=xO by first|rfl|decide|simp[WShape.has,WShape.arms,WShape.armsAll])
  (show(WTm.eq .res (.lit (.bool xO))).value [] {args:=args,res:=O (.bool xO),after:=args}=O (.bool (xO==xO))from w_eq_bool (w_res xM) w_lit) xM
theorem attach_call{l:OpenLaw}{n:Nat}{q:Us}{loose:List Str}{XP:(Str->xV)->Heap->Prop}{YP:World->Heap->Prop}{d:DefRec}
  (hn:l.most=O n) (hdf:d.params.defaults=[])
  (call:∀(w:World)(s₀ s₁:Ur)(mg mb:Str->xV)(fa:Ut)(o:Obj)(pm cd doc:Uq)(a:Ut)(vs:xS)(ns:xR),
   Ground q loose [] XP w s₀ mg mb s₁.heap->YP w s₁.heap ->
   s₁.heap.get? fa=O o->o.data=.func (docDef d.name d.params d.body d.scope pm cd doc)->s₁.heap.CodeRec cd d.name->mg d.name=O (.ref fa) ->
   s₁.heap.get? a=O {cls:=.type "list", data:=.seq vs.toArray}->IntsAre vs ns->ns.length<=n->s₁.gens=#[] ->
   codeAny (model l.prog w) callerA (.call (.ref fa) ⟨[.ref a],[]⟩) (λr s'=>r=.ok (.ret (.bool xO))/\OldK s₁.heap s'.heap/\s'.os=s₁.os/\AllBare s'.gens) s₁) :
  WalkO q loose XP YP l.row.toRowW d [] (λf vs=>PySem.call f vs):=by
 intro w s₀ s₁ mg mb G Y fa o pm cd doc dV kV ho hd hcd hD hmg hg args vals as hpre hlay hrd wQ hlo;obtain rfl:dV=.none:=Dflts.none hD hdf;obtain rfl:kV=.none:=Dflts.noKw hD;obtain⟨a,vs,ns,rfl,rfl,hobj,hints,hlen⟩:=jK hn hpre wQ;refine enter_call (codeAny_mono (call w s₀ s₁ mg mb fa o pm cd doc a vs ns G Y ho (fd_plain hd) hcd hmg hobj hints hlen hg) λr s' hq=>?_);obtain⟨rfl,h2,h3,h4⟩:=hq;exact⟨.inl ⟨.bool xO,.bool xO,[],rfl,λ_=>rfl,.bool xO,jJ l _,λ_=>⟨List.Pairwise.nil,λ_ hm=>(nomatch hm)⟩⟩,h2,h3,h4⟩
end Att
namespace L2
open PySem PySem.Spec PyProof.Rows
theorem VS:∀{vs:xS}{ns:xR},IntsAre vs ns->Vals (ns.map V.int) vs
 |_,_,.nil=>.nil
 |_,_,.cons n t h=>.cons ⟨t,rfl⟩ (VS h)
def Only(H:Hp):Prop:=∀b,H b=xN ∨ ∃o xs,H b=O (.frz o (.lst xs))
theorem Al{P:Us}{w:World}{K:Frag}{mg mb:Str->xV}{CX:CXT}{k:Nat}{fa a:Ut}{fd:Uu}{x:Str}{sp:Sp}{s₁:Ur}{vs:xS}{ns:xR}
  (KX:K.In s₁.heap) (hns:s₁.heap.Ns mainGlobals mg) (hb:s₁.heap.Ns builtinsNs mb) (hbb:∀x:Str,x ≠ "__name__" -> mb x=bootBuiltins x) (hlim:s₁.heap.NoLimit) (hg:s₁.gens=#[])
  (ha:s₁.heap.get? a=O {cls:=.type "list", data:=.seq vs.toArray}) (hi:IntsAre vs ns) (hl:ns.length<=Uw) (hr:Room k callerA)
  (F:∀base:Heap,K.In base->base.Ns mainGlobals mg->FnOk P w K mg base CX k fa fd [x] sp) (hbind:∀(s:Ur)(u:Uq),BindsTo s fd ⟨[u],[]⟩ [(x,u)])
  (wq:∀H:Hp,Only H->SqL K H a (ns.map V.int)->sp [.ref a] H (λv _=>v=.bl xO) λ_ _ _=>False)
  (hCX:∀H e s',CX [] H s₁ (λ_ _ _=>False) e s'->False) :
  codeAny (model P w) callerA (.call (.ref fa) ⟨[.ref a],[]⟩) (λr s'=>r=.ok (.ret (.bool xO))/\OldK s₁.heap s'.heap/\s'.os=s₁.os/\AllBare s'.gens) s₁:=by
 have rv:=VS hi;have lenV:=hi.length
 have core:∀H:Hp,Only H->SqL K H a (ns.map V.int)->HOk P w H s₁.heap->(∀b,H b≠xN->b=a)->(H a≠xN->K.lookup a=xN) ->
   codeAny (model P w) callerA (.call (.ref fa) ⟨[.ref a],[]⟩) (λr s'=>r=.ok (.ret (.bool xO))/\OldK s₁.heap s'.heap/\s'.os=s₁.os/\AllBare s'.gens) s₁:=by
  intro H hO hS hok hA hK;have base_of:∀{b:Ut}{o:Obj},s₁.heap.get? b=O o->H b=xN->(Ye s₁.heap H).get? b=O o:=λe n=>Aw e n
  have noA:∀{b:Ut}{o:Obj}{es:Array DictEntry}{ep:Nat},s₁.heap.get? b=O o->o.data=.dict es ep->H b=xN:=λ{b o es ep} e d=>by
   cases q:H b with
   |none=>rfl
   |some u=>have e':b=a:=hA b (by rw[q];simp);subst e';rw[ha]at e;cases e;have d':Data.seq vs.toArray _=Data.dict es ep:=d;cases d'
  have nsK:∀{b:Ut}{m:Str->xV},s₁.heap.Ns b m->(Ye s₁.heap H).Ns b m:=λ{b m} ⟨o,es,ep,e,d,r⟩=>⟨o,es,ep,base_of e (noA e d),d,r⟩
  have hKb:K.In (Ye s₁.heap H):=λb o e=>base_of (KX b o e) (by
   cases q:H b with
   |none=>rfl
   |some u=>have e':b=a:=hA b (by rw[q];simp);subst e';rw[hK (by rw[q];simp)]at e;cases e)
  have hM:Mod K mg (Ye s₁.heap H):=⟨hKb,nsK hns,⟨mb,nsK hb,hbb⟩,let ⟨mc,h1,h2⟩:=hlim;⟨mc,nsK h1,h2⟩⟩
  have e0:Env0 P w K mg (Ye s₁.heap H) callerA [] s₁ H:=⟨rfl,hM,λb o e=>CY e,Nat.le_of_eq (jS _ _),trivial,λb hb=>absurd (show b∈([]:xW)from hb) (by simp),hok,.of_eq hg⟩
  refine codeAny_mono ((F _ hKb (nsK hns)).run callerA [] s₁ H ⟨[.ref a],[]⟩ [.ref a] [.ref a] _ _ hr e0 (hbind s₁ (.ref a)) (.cons xM .nil) (wq H hO hS)) λr s' h=>?_
  cases r with
  |error e=>exact(hCX H e s' h).elim
  |ok fl=>
   cases fl with
   |next=>exact False.elim h
   |brk=>exact False.elim h
   |cont=>exact False.elim h
   |ret u=>
    obtain⟨v,H',os,bare,un,hok',r',q⟩:=h;have q':v=.bl xO:=q;subst q';obtain rfl:u=Value.bool xO:=r';refine⟨rfl,OldK.of_keep λb o e=>?_,os,bare⟩;cases q:H b with
    |none=>exact un.keep b o e q (by intro z;exact absurd (show b∈([]:xW)from z) (by simp)) (by simp)
    |some u=>
     rcases hO b with z|⟨ob,xs,z⟩
     .rw[q]at z;cases z
     .have z2:=un.frzs b ob _ z
      obtain⟨e1,_⟩:=hok b _ z;obtain⟨e2,_⟩:=hok' b _ z2;rw[e]at e1;cases e1;exact e2
 cases hk:K.lookup a with
 |some o=>have e:=KX a o hk;rw[ha]at e;cases e;refine core (λ_=>xN) (λ_=>.inl xM) (.inr ⟨_,vs.toArray,_,hk,rfl,rfl,rfl,by rw[List.size_toArray,lenV];exact hl,by simpa using rv⟩) (λb u z=>by have z':(none:Option HO)=O u:=z;cases z') (λb z=>absurd xM z) λz=>absurd xM z
 |none=>
  refine core (λb=>if b=a then O (.frz {cls:=.type "list", data:=.seq vs.toArray} (.lst (ns.map V.int)))else xN) (λb=>?_) (.inl (.inr ⟨{cls:=.type "list", data:=.seq vs.toArray},Qq xM⟩)) (λb u z=>?_) (λb z=>?_) λ_=>hk
  .by_cases hb:b=a
   .exact .inr ⟨_,_,Qq hb⟩
   .exact .inl (Qw hb)
  .by_cases hb:b=a
   .have z':=(Qq hb).symm.trans z
    cases z';subst hb;exact⟨ha,by rw[Qb];exact hl,vs,_,rv,ha⟩
   .have z':=(Qw hb).symm.trans z
    cases z'
  .by_cases hb:b=a
   .exact hb
   .exact absurd (Qw hb) z
noncomputable def Y4(s:Stmt):Arguments:=match s with
 |.FunctionDef _ a _ _ _ _ _ _ _ _=>a
 |_=>{posonlyargs:=[],args:=[],vararg:=xN,kwonlyargs:=[],kw_defaults:=[],kwarg:=xN,defaults:=[]}
noncomputable def ZP(s:Stmt):List Stmt:=match s with
 |.FunctionDef _ _ b _ _ _ _ _ _ _=>b
 |_=>[]
noncomputable def KI(s:Stmt):Scope:=match s with
 |.FunctionDef _ _ _ _ _ _ sc _ _ _=>sc
 |_=>{kind:=.function,names:=[],isGenerator:=xP,isCoroutine:=xP}
noncomputable abbrev CX0:CXT:=λ_ _ _ _ _ _=>False
noncomputable abbrev E0:XK:=λ_ _ _=>False
theorem Ra{X:Cx}:PM CX0 X E0:=λ_ _ _ _ _ _ _ h=>h.elim
structure Fun(K:Frag)(x qual:Str)(st:Stmt)(f:Ut)(fd:Uu):Prop where
 ex:∃(oc:Uq)(od:va)(kV doc pm:Uq)(an:va)(cdv ct:Uq)(osl:Array xV),
  fd=PySem.W.fnOf x qual (Y4 st) (ZP st) (KI st) .none kV doc pm an cdv ct/\K.lookup f=O ⟨oc,od,.func fd,osl⟩/\PySem.W.codeIn K cdv qual=xO
 kp:PySem.W.keepIn K (.ref f)=xO
section
variable{P:Us}{w:World}{K:Frag}{mg:Str->xV}{base:Heap}
theorem Fun.ok{x qual:Str}{st:Stmt}{f:Ut}{fd:Uu}{N ps:List Str}{k:Nat}{sp:Sp}(F:Fun K x qual st f fd)(S:W8 N ps (KI st))(len:∀vs H Q E,sp vs H Q E->vs.length=ps.length)
  (hbody:∀(cdv:Uq)(A:Around)(outer:List Env)(s:Ur)(H:Hp)(vs:List V)(Q:VK)(E:XK),Room k (A.deeper (envOfC qual (KI st) s.heap.objs.size f cdv))->sp vs H Q E ->
   ∃t,PSs (K7 CX0 P w K mg base N qual (KI st) f cdv A outer s H E).nox (ZP st) t/\t {nx:=λ_ H'=>Q .non H',rt:=Q} (Xu N vs) H):FnOk P w K mg base CX0 (k+1) f fd ps sp:=by
 obtain⟨oc,od,kV,doc,pm,an,cdv,ct,osl,rfl,lk,hcd⟩:=F.ex;refine NJ lk hcd S len λA outer s H vs Q E hr wq=>?_
 obtain⟨t,h,q⟩:=hbody cdv A outer s H vs Q E hr wq;exact⟨t,h.nox,q⟩
theorem Fun.binds{x qual:Str}{st:Stmt}{f:Ut}{fd:Uu}{ps:List Str}(F:Fun K x qual st f fd)
  (h:∀(kV doc pm:Uq)(an:va)(cdv ct:Uq)(us:xS),us.length=ps.length->bindArgs (PySem.W.fnOf x qual (Y4 st) (ZP st) (KI st) .none kV doc pm an cdv ct) ⟨us,[]⟩=pure (ps.zip us)):Yl K fd ps []:=by
 obtain⟨oc,od,kV,doc,pm,an,cdv,ct,osl,rfl,lk,hcd⟩:=F.ex;exact .all (h kV doc pm an cdv ct)
end
def Same(H H':Hp):Prop:=∀b o,H b=O o->H' b=O o
theorem Same.refl(H:Hp):Same H H:=λ_ _ h=>h
theorem Same.trans{H H1 H2:Hp}(a:Same H H1)(b:Same H1 H2):Same H H2:=λc o h=>b c o (a c o h)
theorem Same.free{H H':Hp}(e:Same H H'){l:Ut}(h:H' l=Option.none):H l=Option.none:=by
 cases q:H l with
 |none=>rfl
 |some o=>rw[e l o q]at h;cases h
theorem Same.seq{K:Frag}{H H':Hp}{a:Ut}{xs:List V}(e:Same H H')(h:SqL K H a xs):SqL K H' a xs:=by
 rcases h with (h|⟨o,h⟩)|h
 .exact .inl (.inl (e _ _ h))
 .exact .inl (.inr ⟨o,e _ _ h⟩)
 .exact .inr h
section
variable{X:Cx}{pins:List (Ut×Obj)}{σ:St}{H:Hp}{s:Ur}{h':Heap}
theorem Inv.turnedNew{t':Nat}{fp:xW}{p:Ut}{o:HO}(I:Inv X pins σ H s)(hf:∀b∈fp,KP X pins H b)
  (k:∀b o,b∉fp->s.heap.get? b=O o->h'.get? b=O o) (hp:s.heap.objs.size<=p) (new:Zj X.prog X.w (upd H p o) h' p o) :
  Inv X pins σ (upd H p o) {s with heap:=h',toks:=t'}:=by
 have hn:H p=xN:=I.hok.fresh hp;have trk:∀b u,H b=O u->b∉fp:=λb u e z=>by rw[(hf b z).1]at e;cases e
 refine I.step (g':=s.gens) (d':=s.drawn) (ch:=fp) (λb hb=>?_) (λb o _ _ hc e _=>k b o hc e) (λb o _ _ hc e _=>⟨o.slots,k b o hc e⟩)
  (λb o _ e n=>by rw[Ki (QS (Qy (Qi e) hp))];exact n) (λb o hc e=>⟨o,k b o hc e⟩)
  (λb xs e=>by rw[Ki (Yo e hn)];exact e) (λb ob u e=>by rw[Ki (Yo e hn)];exact e) (λb ps e=>⟨#[],by rw[Ki (Yo e hn),e];simp⟩)
  (λm hm=>?_) (λb u e=>?_) I.bare
 .obtain⟨_,f1,_,f3,f4,f5⟩:=hf b hb
  exact⟨f3,f1,f4,f5⟩
 .obtain⟨ob,es,ep,ho,r⟩:=hm
  exact⟨ob,es,ep,k _ ob (λz=>(hf _ z).2.1 xM) ho,r⟩
 .by_cases hb:b=p
  .subst hb;rw[Ks]at e;cases e;exact new
  .rw[Ki hb]at e
   refine(I.hok b u e).stay (λc v hc q=>k c v ?_ q) (λc q=>by rw[Ki (Yo q hn)];exact q) λc xs q=>by rw[Ki (Yo q hn)];exact q
   rcases hc with z|z
   .rw[z];exact trk b u e
   .exact trk c _ z
theorem Inv.turnedL{t':Nat}{fp:xW}(I:Inv X pins σ H s)(hf:∀b∈fp,KP X pins H b)
  (k:∀b o,b∉fp->s.heap.get? b=O o->h'.get? b=O o):Inv X pins σ H {s with heap:=h',toks:=t'}:=by
 have trk:∀b u,H b=O u->b∉fp:=λb u e z=>by rw[(hf b z).1]at e;cases e
 refine I.step (g':=s.gens) (d':=s.drawn) (ch:=fp) (λb hb=>?_) (λb o _ _ hc e _=>k b o hc e) (λb o _ _ hc e _=>⟨o.slots,k b o hc e⟩)
  (λ_ _ _ _ n=>n) (λb o hc e=>⟨o,k b o hc e⟩) (λ_ _ e=>e) (λ_ _ _ e=>e) (λb ps e=>⟨#[],by rw[e];simp⟩) (λm hm=>?_) (λb u e=>?_) I.bare
 .obtain⟨_,f1,_,f3,f4,f5⟩:=hf b hb
  exact⟨f3,f1,f4,f5⟩
 .obtain⟨ob,es,ep,ho,r⟩:=hm
  exact⟨ob,es,ep,k _ ob (λz=>(hf _ z).2.1 xM) ho,r⟩
 .refine(I.hok b u e).stay (λc v hc q=>k c v ?_ q) (λc q=>q) λc xs q=>q
  rcases hc with z|z
  .rw[z];exact trk b u e
  .exact trk c _ z
end
noncomputable def Ite(K:Frag)(a:Ut):It:=
 ⟨λi H=>∃xs x,SqL K H a xs/\xs[i]?=O x,
  λi H v H'=>∃p x,H p=xN/\v=.ref p/\(∀xs,SqL K H a xs->xs[i]?=O x)/\H'=upd H p (.tup [.int i,x]),
  λi H=>∃xs,SqL K H a xs/\xs.length<=i⟩
theorem j6{P:Us}{w:World}{K:Frag}{elts:xU}{x1}{tp:Pos}(a e it:Ut)(hne:e≠it) :
  Turn P w K (.Tuple elts x1 tp) (Ite K a) [e,it] e (λi h=>(∃old,IsEnum h e it i old)/\h.IsListIter it a i) where
 mem:=by simp
 obj:=λi h st b hb=>by
  obtain⟨⟨old,he⟩,o,ho,c,d⟩:=st;have hb':b=e∨b=it:=by simpa using hb
  rcases hb' with rfl|rfl
  .exact⟨_,he,λv z=>by have z':Data.fields _=Data.cell v:=z;cases z'⟩
  .exact⟨o,ho,λv z=>by rw[d]at z;cases z⟩
 keep:=λi h h' st k=>by obtain⟨⟨old,he⟩,hi⟩:=st;exact⟨⟨old,k e (by simp) _ he⟩,hi.at λo q=>k it (by simp) o q⟩
 item:=by
  intro X hP hw hK hc i pins s σ H E I hf st hg;subst hP hw hK;obtain⟨⟨old,he⟩,hi⟩:=st;obtain⟨xs,x,hq,hx⟩:=hg;obtain⟨its,rv,p,hz⟩:=I.list hq;obtain⟨u,hu,ru⟩:=rv.get hx;refine wpAny_pyNext_enum_item he hi p.isList (x:=u) (by simpa using hu) hne λh1 out hi1 ht hsz kk=>?_
  refine⟨_,rfl,wpAny_letOwnedTupleGo_enum out λh2 wa hs2=>?_⟩;have hel:e<s.heap.objs.size:=Qi he;have wF:Heap.SameBut e h1 h2:=hs2;have ht2:h2.get? s.heap.objs.size=O {cls:=.type "tuple", data:=.seq #[.int i s.toks,u]}:=(wF.2 _ (Jq hel)).trans ht
  have kk2:∀b o,b∉[e,it]->s.heap.get? b=O o->h2.get? b=O o:=λb o hb q=>by
   have vS:b≠e:=λz=>hb (by simp[z])
   have hbi:b≠it:=λz=>hb (by simp[z])
   exact(wF.2 b vS).trans (kk b o vS hbi q)
  have hn:H s.heap.objs.size=xN:=I.hok.fresh (Qr _)
  have I2:Inv X pins σ (upd H s.heap.objs.size (.tup [.int i,x])) {s with heap:=h2,toks:=s.toks+1}:=
   I.turnedNew (fp:=[e,it]) hf kk2 (Qr _) ⟨by show 2<=Uw;decide,[.int i s.toks,u],.cons ⟨_,rfl⟩ (.cons ru .nil),⟨_,ht2,rfl,_,rfl⟩⟩
  refine⟨.ref s.heap.objs.size,_,I2,rfl,⟨_,x,hn,rfl,λys hy=>by rw[I.list_inj hy hq];exact hx,rfl⟩,⟨⟨u,?_⟩,?_⟩,λb hb=>?_⟩
  .have:=wa
   simpa using this
  .have hi2:h2.IsListIter it a (i+1):=hi1.at λo q=>(wF.2 it (Ne.symm hne)).trans q
   exact hi2
  .have fr:=(hf b hb)
   have hlt:b<s.heap.objs.size:=by
    have hb':b=e∨b=it:=by simpa using hb
    rcases hb' with rfl|rfl
    .exact hel
    .obtain⟨o,ho,_⟩:=hi;exact Qi ho
   rw[Ki (QS hlt)];exact fr.1
 done:=by intro X hP hw hK hc i pins s σ H E I hf st hg;subst hP hw hK;obtain⟨⟨old,he⟩,hi⟩:=st;obtain⟨xs,hq,hx⟩:=hg;obtain⟨its,rv,p,hz⟩:=I.list hq;have hl:=rv.length;exact wpAny_pyNext_enum_end (I.ok.hd hc) he hi p.isList (by simp;omega) λh' eb=>⟨rfl,I.turnedL (t':=s.toks) hf λb o hb q=>eb b o (λz=>hb (by simp[z])) q⟩
 self:=λ_ _ _ _ _ st h=>by obtain⟨⟨old,he⟩,_⟩:=st;exact wpAny_pyIter_enum he h
section
variable{X:Cx}
noncomputable def FS(K:Frag)(ta:TA):TI:=λσ H R=>ta σ H λvs H1=>∃a xs,vs=[.ref a]/\SqL K H1 a xs/\R (Ite K a) H1
theorem Bg{a:Uv}{ta:TA}{p pos:Pos}{elts:xU}{x1}{tp:Pos}(hg:Gl X "enumerate")(hm:X.mg "enumerate" = xN)(ha:PA X [a] ta)
  (hs:Uy [a] X.env=[(xP,eval a X.env)]:=by rfl):PI X (.Tuple elts x1 tp) (.Call (.Name "enumerate" p) [a] [] pos) (FS X.K ta):=by
 intro pins s σ H R I h;refine Call_ (Vy I hg hm boot_enumerate (JQ (thn (ha pos pins s σ H _ I h) λus s1 ⟨vs,H1,I1,r1,q1⟩=>?_) hs xM));obtain⟨l,xs,e,hq,q⟩:=q1;subst e;cases r1 with
 |cons r rr=>
  cases rr;cases (show _=Value.ref l from r);obtain⟨its,rv,pl,hz⟩:=I1.list hq;refine call_enumerate_list pl.isList λh' he hi hsz kk=>?_;have I2:Inv X pins σ H1 {s1 with heap:=h'}:=I1.kept (t':=s1.toks) kk;refine wpAny_pyIter_enum he ?_
  refine⟨s1.heap.objs.size+1,[s1.heap.objs.size+1,s1.heap.objs.size],_,_,H1,rfl,I2,j6 l _ _ (Nat.succ_ne_self _),⟨⟨_,he⟩,hi⟩,λb hb=>?_,q⟩;have hb':b=s1.heap.objs.size+1∨b=s1.heap.objs.size:=by simpa using hb
  rcases hb' with rfl|rfl
  .exact I1.fpOk (Jp _) (I1.hok.fresh (Jp _))
  .exact I1.fpOk (Qr _) (I1.hok.fresh (Qr _))
end
end L2
namespace L2
open PySem PySem.Spec
def Tail(bmB bm:xS):Prop:=∀(X:String)(b:Bool),bmB.contains (.type X)=b->bm.contains (.type X)=b
theorem Tail.base{bmB:xS}:Tail bmB bmB:=λ_ _ h=>h
theorem Tail.own{bmB bm:xS}{D:Ut}(T:Tail bmB bm):Tail bmB (.ref D::bm):=λX b h=>by rw[Jb,T X b h];rfl
section
variable{prog:Us}{w:World}{A:Around}{E:Uq->Ur->Prop}{h:Heap}{g:Array GenState}{d:Drawn}{t:Nat}{os:OsState}{R:Result->Ur->Prop}
variable{nm q:Str}{C N:Ut}{bs bm bmB:xS}{hdct:Bool}{sn:List Str}{sub:xS}{ab:Bool}{col:vb}{dd:va}{k0 k1 k2 k3 k5:xV}{B newId initId:String}
theorem kn{M:Model}(F:ExcBaseFacts B newId initId bmB)(T:Tail bmB bm){rest:xS}{Q:Unit->Ur->Prop}(hC:h.get? C=O (excClassObj nm q C N bs bm hdct sn sub ab col dd k0 k1 k2 k3 k5 newId))
  (hq:Q () ⟨h,g,d,t,os⟩):Ux M A (checkBuiltinCall newId ⟨.ref C::rest,[]⟩) Q E ⟨h,g,d,t,os⟩:=by
 have yj:(Value.ref C::bm).contains (.type B)=xO:=by rw[Jb,T _ _ F.hasB,Ui]
 have hstar:=F.noStar;simp only[checkBuiltinCall,F.newKind,F.newSplit,F.newRow]
 repeat (first|refine Qo hC ?_|(refine QR hC ?_;rw[yj])|refine wpAny_staticBase_exc hC ?_|refine wpAny_madeBy_exc hC ?_|simp only[bne_self_eq_false,JF,Uo] | wp_step)
 exact hq
theorem Ak(F:ExcBaseFacts B newId initId bmB)(T:Tail bmB bm){rest:xS}(hC:h.get? C=O (excClassObj nm q C N bs bm hdct sn sub ab col dd k0 k1 k2 k3 k5 newId))
  (hq:R (.ok (.ret (.ref (h.objs.size+1)))) ⟨(h.push {cls:=.type "tuple", data:=.seq rest.toArray}).push
   {cls:=.ref C,data:=.fields #[.ref h.objs.size,.none,.none,.none,.bool xP,.none]},g,d,t,os⟩) (hrest:rest.length<=Uw) :
  codeAny (model prog w) A (.builtin newId ⟨.ref C::rest,[]⟩) R ⟨h,g,d,t,os⟩:=by
 have hends:=F.ends;have vN:(Value.ref C::bm).contains (.type B)=xO:=by rw[Jb,T _ _ F.hasB,Ui]
 have hcA:(Value.ref C::bm).contains (.type "AttributeError")=xP:=by rw[Jb,T _ _ F.noAttr];rfl
 have hcN:(Value.ref C::bm).contains (.type "NameError")=xP:=by rw[Jb,T _ _ F.noName];rfl
 refine codeAny_builtinAt F.entry ?_;unfold Builtin.«BaseException.__new__»;refine wpAt_bind ?_;show wpAt _ _ _ (stack >>= _) _ _ _;refine wpAt_bind (wpAt_stack λp below=>wpAt_of_wpAny ?_)
 wp_walk
 refine wpAt_of_wpAny ?_;rw[F.owner]
 repeat (first|with_reducible refine wpAny_madeHere_exc F.canon hC ?_|with_reducible refine Qo hC ?_|(with_reducible refine QR hC ?_;first|rw[vN] | rw[hcA] | rw[hcN])|wp_step)
 show R _ _;rw[Jo];exact hq
def Mj(M:Model)(C fI:Ut)(h:Heap):Prop:=∀(A:Around)(E:Uq->Ur->Prop)(Q:xV->Ur->Prop)(h':Heap)(g:Array GenState)(d:Drawn)(t:Nat)(os:OsState),
 (∀b o,h.get? b=O o->h'.get? b=O o)->Q (O (.ref fI)) ⟨h',g,d,t,os⟩->Ux M A (typeLookup (.ref C) "__init__") Q E ⟨h',g,d,t,os⟩
theorem km(F:ExcBaseFacts B newId initId bmB)(T:Tail bmB bm){rest:xS}{fI:Ut}{oI:Obj}{Q:Fin->Ur->Prop}
  (hC:h.get? C=O (excClassObj nm q C N bs bm hdct sn sub ab col dd k0 k1 k2 k3 k5 newId)) (hi:Mj (model prog w) C fI h)
  (hfI:h.get? fI=O oI) (hfc:oI.cls=.type "function")
  (hq:∀h' e,Heap.MadeExcOf h h' e (.ref C) rest->h.objs.size<=e ->
   Ux (model prog w) A (call (.ref fI) (.ref e::rest)) (λr s'=>r=.none/\Q (.done (.ret (.ref e))) s') E ⟨h',g,d,t,os⟩) (hrest:rest.length<=Uw) :
  Ux (model prog w) A (Builtin.«type.__call__» ⟨.ref C::rest,[]⟩) Q E ⟨h,g,d,t,os⟩:=by
 repeat (first|with_reducible refine Qo hC ?_|with_reducible refine wpAny_madeBy_exc hC ?_|wp_step)
 refine codeAny_call_builtin_code (Code.quiet_builtin _ F.quiet) (kn F T hC ?_);refine Ak F T hC ?_ hrest;show Ux _ _ _ _ _ _
 have hC₁:=Qg {cls:=.ref C,data:=.fields #[.ref h.objs.size,.none,.none,.none,.bool xP,.none]}
  (Qg {cls:=.type "tuple", data:=.seq rest.toArray} hC)
 have hfI₁:=Qg {cls:=.ref C,data:=.fields #[.ref h.objs.size,.none,.none,.none,.bool xP,.none]}
  (Qg {cls:=.type "tuple", data:=.seq rest.toArray} hfI)
 have hget:((h.push {cls:=.type "tuple", data:=.seq rest.toArray}).push
   {cls:=.ref C,data:=.fields #[.ref h.objs.size,.none,.none,.none,.bool xP,.none]}).get? (h.objs.size+1)=O
   {cls:=.ref C,data:=.fields #[.ref h.objs.size,.none,.none,.none,.bool xP,.none]}:=by heap_get
 have hcC:(Value.ref C::bm).contains (.ref C)=xO:=by simp
 unfold isInstance
 repeat (first|with_reducible refine Qo hget ?_|(with_reducible refine QR hC₁ ?_;rw[hcC])|wp_step)
 show Ux _ _ (typeLookup (.ref C) _) _ _ _;refine hi _ _ _ _ _ _ _ _ (λb o hb=>Qg _ (Qg _ hb)) ?_;refine wpAny_holding (Qd ?_);unfold bindSpecial;refine Qd (wpAny_typeOf (T:= "function") ⟨_,hfI₁,hfc⟩ ?_);rw[Qq (by decide)];refine Qm (Qd (QP (hq _ (h.objs.size+1) ⟨λb o hb=>Qg _ (Qg _ hb),Heap.get?_none_of_le (Jp _),h.objs.size,hget,Heap.get?_none_of_le (Qr _),?_⟩ (Jp _)) (λr s' hr=>?_) λ_ _ x=>x))
 .exact Qg _ (Heap.get?_push_at xM xM)
 .obtain⟨rfl,hQ⟩:=hr
  wp_walk
  exact hQ
theorem j4(F:ExcBaseFacts B newId initId bmB)(T:Tail bmB bm){rest:xS}{fI:Ut}{oI:Obj}{Q:Uq->Ur->Prop}
  (hC:h.get? C=O (excClassObj nm q C N bs bm hdct sn sub ab col dd k0 k1 k2 k3 k5 newId)) (hi:Mj (model prog w) C fI h)
  (hfI:h.get? fI=O oI) (hfc:oI.cls=.type "function")
  (hq:∀h' e,Heap.MadeExcOf h h' e (.ref C) rest->h.objs.size<=e ->
   Ux (model prog w) (A.under (.builtin "type.__call__" ⟨.ref C::rest,[]⟩)) (call (.ref fI) (.ref e::rest)) (λr s'=>r=.none/\Q (.ref e) s') E ⟨h',g,d,t,os⟩) (hrest:rest.length<=Uw) :
  Ux (model prog w) A (call (.ref C) rest) Q E ⟨h,g,d,t,os⟩:=by
 have f1:=tc_lookup;have f2:=tc_bind (.ref C);have hT:(⟨h,g,d,t,os⟩:Ur).TypeIs (.ref C) "type" :=⟨_,hC,rfl⟩
 refine wpAny_call (codeAny_of_tree ?_);show Ux _ _ (callAny (.ref C) _) _ _ _
 repeat (any_goals (first|assumption|with_reducible refine Qo hC ?_|wp_step))
 refine⟨rfl,?_⟩;refine codeAny_call_builtin_at (Code.quiet_builtin _ (by decide +kernel)) entry_typeCall (wpAny_check_type_call_sub hC (km (hrest:=hrest) F T hC hi hfI hfc λh' e hm hz=>?_));exact hq h' e hm hz
end
def KY(M:Model)(C:Ut)(name:Str)(r:xV)(h:Heap):Prop:=∀(A:Around)(E:Uq->Ur->Prop)(Q:xV->Ur->Prop)(h':Heap)(g:Array GenState)(d:Drawn)(t:Nat)(os:OsState),
 (∀b o,h.get? b=O o->h'.get? b=O o)->Q r ⟨h',g,d,t,os⟩->Ux M A (typeLookup (.ref C) name) Q E ⟨h',g,d,t,os⟩
theorem KY.keeps{M:Model}{C:Ut}{name:Str}{r:xV}{h h':Heap}(x:KY M C name r h)(k:∀b o,h.get? b=O o->h'.get? b=O o):KY M C name r h':=
 λA E Q h2 g d t os k2 q=>x A E Q h2 g d t os (λb o e=>k2 b o (k b o e)) q
theorem KY.at{M:Model}{A:Around}{E:Uq->Ur->Prop}{Q:xV->Ur->Prop}{C:Ut}{name:Str}{r:xV}{h:Heap}{g:Array GenState}{d:Drawn}{t:Nat}{os:OsState}(x:KY M C name r h)(q:Q r ⟨h,g,d,t,os⟩):Ux M A (typeLookup (.ref C) name) Q E ⟨h,g,d,t,os⟩:=
 x A E Q h g d t os (λ_ _ e=>e) q
section
variable{prog:Us}{w:World}{A:Around}{E:Uq->Ur->Prop}{h:Heap}{g:Array GenState}{d:Drawn}{t:Nat}{os:OsState}{R:Result->Ur->Prop}
variable{nm q:Str}{C N x:Ut}{bs bm bmB:xS}{hdct:Bool}{sn:List Str}{sub:xS}{ab:Bool}{col:vb}{dd:va}{k0 k1 k2 k3 k5:xV}{B newId sa owner:String}{mN mA:Str->xV}{name:Str}{v:Uq}
def YH(M:Model)(l:xS)(name:Str)(r:xV)(h:Heap):Prop:=∀(A:Around)(E:Uq->Ur->Prop)(Q:xV->Ur->Prop)(h':Heap)(g:Array GenState)(d:Drawn)(t:Nat)(os:OsState),
 (∀b o,h.get? b=O o->h'.get? b=O o)->Q r ⟨h',g,d,t,os⟩->Ux M A (lookupAlong l name) Q E ⟨h',g,d,t,os⟩
theorem YH.base{M:Model}{y:xV}(hm:mroOf (.type B)=pure bm)(hB:typeLookup (.type B) name=pure y):YH M bm name y h:=λA E Q h' g d t os k q=>by rw[typeLookup_eq,hm]at hB;have hrest:lookupAlong bm name=pure y:=hB;rw[hrest];exact Qm q
theorem YH.hit{M:Model}{D:Ut}{c0:Uq}{vJ:va}{cd:ClassData}{sl:Array xV}(hD:h.get? D=O {cls:=c0,dict:=vJ,data:=.cls cd,slots:=sl})(hn:h.Ns cd.ns mN)(hi:mN name=O v):YH M (.ref D::bm) name (O v) h:=λA E Q h' g d t os k q=>by rw[lookupAlong_cons];refine Qd (wpAny_classOwn_cls (k _ _ hD) (hn.keeps k) ?_);rw[hi];exact Qm q
theorem YH.miss{M:Model}{D:Ut}{r:xV}{c0:Uq}{vJ:va}{cd:ClassData}{sl:Array xV}(hD:h.get? D=O {cls:=c0,dict:=vJ,data:=.cls cd,slots:=sl})(hn:h.Ns cd.ns mN)(hi:mN name=xN)(f:YH M bm name r h):YH M (.ref D::bm) name r h:=λA E Q h' g d t os k q=>by rw[lookupAlong_cons];refine Qd (wpAny_classOwn_cls (k _ _ hD) (hn.keeps k) ?_);rw[hi];exact f A E Q h' g d t os k q
theorem KY.of{M:Model}{r:xV}(hC:h.get? C=O (excClassObj nm q C N bs bm hdct sn sub ab col dd k0 k1 k2 k3 k5 newId))(f:YH M (.ref C::bm) name r h):KY M C name r h:=λA E Q h' g d t os k q=>by rw[typeLookup_eq];exact Qd (wpAny_mroOf_exc (k _ _ hC) (f A E Q h' g d t os k q))
theorem jZ{M:Model}{o:Obj}{nameV:Uq}{Q:Unit->Ur->Prop}(SF:StoreFacts B bmB sa owner)(T:Tail bmB bm)
  (hC:h.get? C=O (excClassObj nm q C N bs bm hdct sn sub ab col dd k0 k1 k2 k3 k5 newId)) (hx:h.get? x=O o) (hc:o.cls=.ref C) (hq:Q () ⟨h,g,d,t,os⟩) :
  Ux M A (checkBuiltinCall sa ⟨[.ref x,nameV,v],[]⟩) Q E ⟨h,g,d,t,os⟩:=by
 have vN:(Value.ref C::bm).contains (.type owner)=xO:=by rw[Jb,T _ _ SF.hasOwner,Ui]
 have ha:=SF.args (.ref x) nameV v;simp only[checkBuiltinCall,SF.kind,SF.split];refine Qd ?_
 .unfold isInstance
  repeat (first|(with_reducible refine Qo hx ?_;rw[hc])|(with_reducible refine QR hC ?_;rw[vN])|wp_step)
  cases hsig:Manifest.signature? sa with
  |none=>exact Qm hq
  |some sig=>simp only[argsOk,hsig]at ha;have h2:Bind.checkArgs sa sig ⟨[.ref x,nameV,v],[]⟩=pure ():=ha;show Ux M A (Bind.checkArgs sa sig ⟨[.ref x,nameV,v],[]⟩) Q E _;rw[h2];exact Qm hq
theorem kX{tk:Tok}{Q:PySem.Fin->Ur->Prop}{ns:List Str}(hpass:refuseLoop (.ref x) "__setattr__" bm=pure ())
  (hC:h.get? C=O (excClassObj nm q C N bs bm xO sn sub ab col dd k0 k1 k2 k3 k5 newId)) (hf:KY (model prog w) C name xN h) (I:h.InstFk x C mA)
  (hq:∀h' tk',h'.InstFk x C (λy=>if y=name then O v else mA y) ->
   (∀b o,b≠x->(∀o₀ dx,h.get? x=O o₀->o₀.dict=O dx->b≠dx)->h.get? b=O o->h'.get? b=O o) ->
   (∀o₀,h.get? x=O o₀->∃o₁,h'.get? x=O o₁/\o₁.cls=o₀.cls/\o₁.data=o₀.data/\o₁.slots=o₀.slots/\∀dx,o₀.dict=O dx->o₁.dict=O dx)->(∀o₀ o₁ dx,h.get? x=O o₀->o₀.dict=xN->h'.get? x=O o₁->o₁.dict=O dx->h.objs.size<=dx)->Q (.done (.ret .none)) ⟨h',g,d,tk',os⟩) (hw:PySem.Within mA ns) (hsz:ns.length<=1000) :
  Ux (model prog w) A (Builtin.«object.__setattr__» ⟨[.ref x,.str name tk,v],[]⟩) Q E ⟨h,g,d,t,os⟩:=by
 obtain⟨o,hx,hc,hnc,hd⟩:=I;have hs2:ns.length<=Uw:=by rw[Jy];omega
 unfold Builtin.«object.__setattr__»
 repeat (first|rw[refuse_eq] | (rw[refuseLoop_ref,hpass])|(with_reducible refine Qo hx ?_;rw[hc])|with_reducible refine wpAny_mroOf_exc hC ?_|with_reducible refine hf.at ?_|wp_step)
 rcases hd with ⟨hdn,hmA⟩|⟨dx,vR,hne,hns,hed⟩
 ·
  rw[hdn,if_neg (by simp[typeHasDict])];split
  .rename_i hcd
   cases hcd
  split
  .rename_i c hcd
   exact absurd hcd (hnc c)
  .have hx₁:(h.push {cls:=.type "dict", data:=.dict #[]}).get? x=O o:=Qg _ hx
   have hxs:x≠h.objs.size:=QS (Qi hx);refine Qd (wpAny_alloc' ?_);refine Qd (wpAny_update' hx₁ ?_);refine Qm ?_
   have hgd:((h.push {cls:=.type "dict", data:=.dict #[]}).update x λo=>{cls:=o.cls,dict:=O h.objs.size,data:=o.data,slots:=o.slots}).get? h.objs.size
     = O {cls:=.type "dict", data:=.dict #[]}:=
    (Heap.get?_update_ne _ _ _ _ hxs.symm).trans (Heap.get?_push_at xM xM)
   have hnd:((h.push {cls:=.type "dict", data:=.dict #[]}).update x λo=>{cls:=o.cls,dict:=O h.objs.size,data:=o.data,slots:=o.slots}).Ns h.objs.size (λ_=>xN):=
    ⟨_,#[],_,hgd,rfl,λe he=>absurd he (by simp),λ_=>rfl⟩
   show Ux _ _ (Builtin.ObjectAttr.storeInDict h.objs.size (.str name tk) name v) _ _ _;unfold Builtin.ObjectAttr.storeInDict Builtin.ObjectAttr.newKeyGuard;refine Qd (Qm (Qd (wpAny_nsSet1EFk (Heap.Ns1.of_empty hnd) λh' hn' hs vI=>?_)));obtain⟨oD,esD,epD,hoD,hdD,hcD⟩:=hn'.count (PySem.Within.cons name v PySem.Within.nil);refine Qd (wpAny_lookBehind hoD (by rw[hdD];exact pastItsLine_dict (Qt hcD (by rw[Qs,QT,Jy];omega))) ?_)
   wp_walk
   have hx':h'.get? x=O {cls:=o.cls,dict:=O h.objs.size,data:=o.data,slots:=o.slots}:=?_
   refine hq h' _ ⟨{cls:=o.cls,dict:=O h.objs.size,data:=o.data,slots:=o.slots},hx',hc,hnc,.inr ⟨h.objs.size,rfl,hxs.symm,?_,(let ⟨od',e',c',d'⟩:=vI _ hgd;⟨od',e',c',d'⟩)⟩⟩ (λb ob hbx _ hb=>?_)
    (λo₀ h₀=>by obtain rfl:o=o₀:=Je (hx.symm.trans h₀);exact⟨_,hx',rfl,rfl,rfl,λdx e=>by rw[hdn]at e;cases e⟩)
    (λo₀ o₁ dx _ _ e1 e2=>by rw[hx']at e1;cases e1;cases e2;exact Qr _)
   .obtain⟨o',es,ep,e1,e2,e3,eu,e4⟩:=hn'
    exact⟨o',es,ep,e1,e2,e3,eu,λy=>by rw[e4 y];by_cases hy:y=name<;>simp[hy,hmA]⟩
   .exact(hs.2 b (QS (Qi hb))).trans ((Heap.get?_update_ne _ _ _ _ hbx).trans (Qg _ hb))
   .refine(hs.2 x hxs).trans (Jf _ hx₁ ?_)
    have hfr:=(Heap.get?_some_iff.mp hx).2;obtain⟨oc,od,odt,osl⟩:=o;cases odt<;>first|rfl|exact hfr
 ·
  rw[vR];refine Qm ?_;show Ux _ _ (Builtin.ObjectAttr.storeInDict dx (.str name tk) name v) _ _ _;unfold Builtin.ObjectAttr.storeInDict Builtin.ObjectAttr.newKeyGuard;refine Qd (Qm (Qd (wpAny_nsSet1EFk hns λh' hn' hs vI=>?_)));obtain⟨oD,esD,epD,hoD,hdD,hcD⟩:=hn'.count (PySem.Within.cons name v hw);refine Qd (wpAny_lookBehind hoD (by rw[hdD];exact pastItsLine_dict (Qt hcD (by rw[Qs,Jy];omega))) ?_)
  wp_walk
  refine hq h' _ ⟨o,(hs.2 x hne.symm).trans hx,hc,hnc,.inr ⟨dx,vR,hne,hn',(let ⟨od,e,c,dd⟩:=hed;let ⟨od',e',c',d'⟩:=vI od e;⟨od',e',c'.trans c,d'.trans dd⟩)⟩⟩ (λb ob _ hbd hb=>?_)
   (λo₀ h₀=>⟨o₀,(hs.2 x hne.symm).trans h₀,rfl,rfl,rfl,λ_ e=>e⟩)
   (λo₀ o₁ dx' e0 e1 _ _=>by rw[hx]at e0;cases e0;rw[vR]at e1;cases e1)
  exact(hs.2 b (hbd o dx hx vR)).trans hb
theorem HZ{Q:Unit->Ur->Prop}{ns:List Str}(SF:StoreFacts B bmB sa owner)(T:Tail bmB bm)(hpass:refuseLoop (.ref x) "__setattr__" bm=pure ())
  (hC:h.get? C=O (excClassObj nm q C N bs bm xO sn sub ab col dd k0 k1 k2 k3 k5 newId)) (hfs:KY (model prog w) C "__setattr__" (O (.builtin sa)) h) (hf:KY (model prog w) C name xN h) (I:h.InstFk x C mA)
  (hq:∀h' tk',h'.InstFk x C (λy=>if y=name then O v else mA y) ->
   (∀b o,b≠x->(∀o₀ dx,h.get? x=O o₀->o₀.dict=O dx->b≠dx)->h.get? b=O o->h'.get? b=O o) ->
   (∀o₀,h.get? x=O o₀->∃o₁,h'.get? x=O o₁/\o₁.cls=o₀.cls/\o₁.data=o₀.data/\o₁.slots=o₀.slots/\∀dx,o₀.dict=O dx->o₁.dict=O dx)->(∀o₀ o₁ dx,h.get? x=O o₀->o₀.dict=xN->h'.get? x=O o₁->o₁.dict=O dx->h.objs.size<=dx)->Q () ⟨h',g,d,tk',os⟩) (hw:PySem.Within mA ns) (hsz:ns.length<=1000) :
  Ux (model prog w) A (setAttr (.ref x) name v) Q E ⟨h,g,d,t,os⟩:=by
 obtain⟨o,hx,hc,_⟩:=id I;have f3:=SF.slot.bind (.ref x);unfold setAttr callSpecial? specialOf
 repeat (any_goals (first|assumption|(with_reducible refine Qo hx ?_;rw[hc])|with_reducible refine hfs.at ?_|wp_step))
 refine Jz SF.slot.plain SF.entry (jZ SF T hC hx hc (kX hpass hC hf I (λh' tk' I' hk hsame hnew=>?_) hw hsz))
 repeat (any_goals (first|assumption|wp_step))
 exact hq h' tk' I' hk hsame hnew
theorem LY{M:Model}{o:Obj}{nameV:Uq}{Q:Unit->Ur->Prop}(T:Tail bmB bm)(hb:bmB.contains (.type "BaseException")=xO)(hC:h.get? C=O (excClassObj nm q C N bs bm hdct sn sub ab col dd k0 k1 k2 k3 k5 newId))
  (hx:h.get? x=O o) (hc:o.cls=.ref C) (hq:Q () ⟨h,g,d,t,os⟩):Ux M A (checkBuiltinCall "BaseException.__getattribute__" ⟨[.ref x,nameV],[]⟩) Q E ⟨h,g,d,t,os⟩:=by
 have hk:builtinKind "BaseException.__getattribute__" = O .slot:=by decide +kernel
 have hsplit:splitId "BaseException.__getattribute__" = O ("BaseException", "__getattribute__"):=by decide +kernel
 have vN:(Value.ref C::bm).contains (.type "BaseException")=xO:=by rw[Jb,T _ _ hb];rfl
 have ha:=PySem.F.args_bexc_ga (.ref x) nameV;simp only[checkBuiltinCall,hk,hsplit];refine Qd ?_
 .unfold isInstance
  repeat (first|(with_reducible refine Qo hx ?_;rw[hc])|(with_reducible refine QR hC ?_;rw[vN])|wp_step)
  exact hq
theorem kH{tk:Tok}{Q:PySem.Fin->Ur->Prop}(hC:h.get? C=O (excClassObj nm q C N bs bm xO sn sub ab col dd k0 k1 k2 k3 k5 newId))(hf:KY (model prog w) C name xN h)(I:h.InstFk x C mA)(hv:mA name=O v)(hq:Q (.done (.ret v)) ⟨h,g,d,t,os⟩) :
  Ux (model prog w) A (Builtin.«object.__getattribute__» ⟨[.ref x,.str name tk],[]⟩) Q E ⟨h,g,d,t,os⟩:=by
 obtain⟨o,hx,hc,hnc,hd⟩:=I;rcases hd with ⟨_,hmA⟩|⟨dx,vR,hne,hns,_⟩
 .rw[hmA name]at hv;cases hv
 unfold Builtin.«object.__getattribute__»
 repeat (first|(with_reducible refine Qo hx ?_;rw[hc])|with_reducible refine hf.at ?_|wp_step)
 split
 .rename_i c hcd
  exact absurd hcd (hnc c)
 unfold instanceDict
 repeat (first|(with_reducible refine Qo hx ?_;rw[hc])|with_reducible refine Qo hC ?_|wp_step)
 rw[vR]
 repeat (first|(with_reducible refine wpAny_nsGet hns.ns ?_;rw[hv])|wp_step)
 exact hq
theorem kj{expr:Bool}{Q:Uq->Ur->Prop}(FB:ExcAttrFacts B)(T:Tail bmB bm)(hb:bmB.contains (.type "BaseException")=xO)(hC:h.get? C=O (excClassObj nm q C N bs bm xO sn sub ab col dd k0 k1 k2 k3 k5 newId))
  (fg:KY (model prog w) C "__getattribute__" (O (.builtin "BaseException.__getattribute__")) h) (fa:KY (model prog w) C "__getattr__" none h) (hf:KY (model prog w) C name xN h) (I:h.InstFk x C mA) (hv:mA name=O v) (hh:handedOut v=pure v) (hq:Q v ⟨h,g,d,t+1,os⟩) :
  Ux (model prog w) A (getAttr (.ref x) name expr) Q E ⟨h,g,d,t,os⟩:=by
 obtain⟨o,hx,hc,_⟩:=id I;have f3:=FB.ga.bind (.ref x);have hx0:(expr&&onTheHeap (Value.builtin "BaseException.__getattribute__"))=xP:=by cases expr<;>rfl
 have hx2:(Value.builtin "BaseException.__getattribute__" == Value.builtin "object.__getattribute__")=xP:=by decide +kernel
 have hx1:(onTheHeap (Value.ref C)&&Value.builtin "BaseException.__getattribute__" == Value.builtin "object.__getattribute__")=xP:=by rw[hx2];rfl
 unfold getAttr
 repeat (any_goals (first|assumption|(with_reducible refine Qo hx ?_;rw[hc])|with_reducible refine fg.at ?_|with_reducible refine fa.at ?_|wp_step))
 refine Jz FB.ga.plain PySem.F.entry_bexc_ga (LY T hb hC hx hc (kH hC hf I hv ?_))
 repeat (any_goals (first|assumption|wp_step))
end
theorem WA{o:Obj}{vs:Array Uq}(f:Array Uq->Array Uq)(h:o.data=.fields vs):Obj.mapFields f o = {o with data:=.fields (f vs)}:=by obtain⟨c,d,dt,sl⟩:=o;cases h;rfl
def Tb(h:Heap)(e:Ut)(vs:Array Uq)(fl:Uq):Prop:=∃T oT ts,vs[1]?=O (.ref T)/\T≠e/\h.get? T=O oT/\oT.data=.fields ts/\ts[3]?=O fl
def Fly(c:Bool)(h:Heap)(e:Ut):Prop:=∃oe vs,h.get? e=O oe/\oe.data=.fields vs/\(vs[1]?=O .none∨Tb h e vs .none)/\(c=xO->vs[2]?=O .none)
theorem Fly.weak{c c1:Bool}{h:Heap}{e:Ut}(x:Fly c1 h e)(hcc:c=xO->c1=xO):Fly c h e:=let ⟨oe,vs,a,b,d,z⟩:=x;⟨oe,vs,a,b,d,λq=>z (hcc q)⟩
structure RA(fs:xW)(e:Ut)(h h':Heap):Prop where
 keep:∀b o,b≠e->b∉fs->h.get? b=O o->h'.get? b=O o
 slot:∀b o,b≠e->h.get? b=O o->∃sl,h'.get? b=O {o with slots:=sl}
 own:∀oe,h.get? e=O oe->∃vs,h'.get? e=O {oe with data:=.fields vs}
section
variable{M:Model}{A:Around}{E:Uq->Ur->Prop}{s:Ur}{base:Heap}{env:Env}{outer:List Env}{L e:Ut}{c:Bool}
theorem newEntry{oe:Obj}{vs:Array Uq}{head:Uq}{hadNext:Bool}{Q:Unit->Ur->Prop}(hfr:A.frames=O (env::outer))(hl:s.heap.FunFrames base (env::outer))(hf:env.frame=O L)
  (he:s.heap.get? e=O oe) (hd:oe.data=.fields vs) (hsz:1<vs.size) (hc2:c=xO->vs[2]?=O .none)
  (h:∀h',RA (frs (env::outer)) e s.heap h'->Fly c h' e->Q () {s with heap:=h'}) :
  Ux M A (do let a ←frameOf env;let pl ←entryPlaceOf L hadNext;let b ←EntryCells.newEntry head a .none (rawInt L) .none pl;setField (.ref e) 1 b) (λ_ s'=>Ux M A (setFlight (.ref e) xN) Q E s') E s:=by
 have hene:e∉(env::outer).filterMap (·.frame):=λhm=>by obtain⟨_,o,ho,hnf⟩:=hl.mem hm;rw[he]at ho;injection ho with ho;subst ho;exact hnf vs hd
 refine Qd (wpAny_frameOf_fun hfr hl hf λh₁ hs₁=>?_);refine Qd (wpAny_entryPlaceOf λpl hpl=>?_);unfold EntryCells.newEntry newFields;refine Qd (JM ?_ (hpl.sizeOk5 _ _ _ _ _));have he₁:h₁.get? e=O oe:=(hs₁.2.1 e hene).trans he;have he₂:=Qg (h:=h₁) {cls:=.type "traceback", dict:=xN,data:=.fields ([head,.ref L,.none,rawInt L,.none]++(if pl.isEmpty then UB 6 Value.none else pl)).toArray} he₁;refine wpAny_setField he₂ hd hsz ?_;have wU:h₁.objs.size≠e:=Jq (Qi he₁);have hd₃:=Obj.data_mapFields hd (·.setIfInBounds 1 (Value.ref h₁.objs.size));have he₃:=Jf (Obj.mapFields (·.setIfInBounds 1 (Value.ref h₁.objs.size))) he₂ (Obj.isFreed_of_fields hd₃)
 have hT₃:=(QX (h₁.push {cls:=.type "traceback", dict:=xN,data:=.fields ([head,.ref L,.none,rawInt L,.none]++(if pl.isEmpty then UB 6 Value.none else pl)).toArray})
  (Obj.mapFields (·.setIfInBounds 1 (Value.ref h₁.objs.size))) (Ne.symm wU)).trans (QD h₁ xM)
 unfold setFlight;refine wpAny_bind (wpAny_field he₃ hd₃ (x:=.ref h₁.objs.size) (by simp[hsz]) ?_);rw[if_pos (show(Value.ref h₁.objs.size != Value.none)=xO from by simp)];refine wpAny_setField hT₃ xM (by simp only[QQ,Qk,Qs,QT]<;>lia) (h _ ?_ ?_)
 .have keep:∀b o,b≠e->h₁.get? b=O o ->
    (((h₁.push {cls:=.type "traceback", dict:=xN,data:=.fields ([head,.ref L,.none,rawInt L,.none]++(if pl.isEmpty then UB 6 Value.none else pl)).toArray}).update e (Obj.mapFields (·.setIfInBounds 1 (Value.ref h₁.objs.size)))).update h₁.objs.size
     (Obj.mapFields (·.setIfInBounds 3 ((none:va).elim Value.none λf=>rawInt f)))).get? b=O o:=λb o vS hb=>by
   have wI:h₁.objs.size≠b:=Jq (Qi hb);rw[QX _ _ wI,QX _ _ (Ne.symm vS)];exact Qg _ hb
  refine⟨λb o hb hf hg=>keep b o hb ((hs₁.2.1 b hf).trans hg),λb o hb hg=>?_,λoe' z=>?_⟩
  .obtain⟨sl,hs⟩:=hs₁.2.2 b o hg
   exact⟨sl,keep b _ hb hs⟩
  .rw[he]at z;cases z
   exact⟨_,by rw[QX _ _ wU,he₃,WA _ hd]⟩
 .refine⟨_,_,?_,hd₃,.inr ⟨h₁.objs.size,_,_,by simp[hsz],wU,Heap.get?_update_self _ hT₃ (Obj.isFreed_of_fields (Obj.data_mapFields rfl _)),Obj.data_mapFields rfl _,by first|(simp;done)|(rcases hpl with rfl|⟨_,_,_,_,_,_,_,rfl⟩<;>simp)⟩,?_⟩
  .rw[QX _ _ wU];exact he₃
  .intro z;rw[Array.getElem?_setIfInBounds_ne (by decide)];exact hc2 z
theorem note{Q:Unit->Ur->Prop}(hfr:A.frames=O (env::outer))(hl:s.heap.FunFrames base (env::outer))(hf:env.frame=O L)(x:Fly c s.heap e)
  (h:∀h',RA (frs (env::outer)) e s.heap h'->Fly c h' e->Q () {s with heap:=h'}):Ux M A (noteFrame (.ref e) env) (λ_ s'=>Ux M A (setFlight (.ref e) xN) Q E s') E s:=by
 obtain⟨oe,vs,he,hd,h1,h2⟩:=x;unfold noteFrame;simp only[hf];rcases h1 with h1|⟨T,oT,ts,h1,wU,hT,wb,h3⟩
 .refine Qd (JN he hd h1 ?_)
  rw[Qw (by decide)];exact newEntry hfr hl hf he hd (JB.mp h1).1 h2 h
 .refine Qd (JN he hd h1 ?_)
  rw[if_pos (show(Value.ref T != Value.none)=xO from by simp)];refine Qd (JN hT wb h3 ?_);rw[if_neg (show ¬((Value.none==rawInt L)=xO)from by simp[rawInt])];obtain⟨hs3,hv3⟩:=JB.mp h3;refine Qd (wpAny_setField hT wb hs3 ?_)
  have same:∀b o,s.heap.get? b=O o->(s.heap.update T (Obj.mapFields (·.setIfInBounds 3 Value.none))).get? b=O o:=λb o hb=>by
   by_cases wI:b=T
   .subst wI
    rw[hT]at hb;cases hb;rw[Jf _ hT (Obj.isFreed_of_fields (Obj.data_mapFields wb _)),WA _ wb]
    have:ts.setIfInBounds 3 Value.none=ts:=by
     apply Array.ext_getElem?;intro i;rw[Array.getElem?_setIfInBounds];split
     .rename_i z
      subst z;exact h3.symm
     .rfl
    rw[this,←wb]
   .rw[QX _ _ (Ne.symm wI)];exact hb
  exact newEntry hfr (hl.of_keeps λb o hb hnf=>⟨o,same b o hb,rfl⟩) hf (same e oe he) hd (JB.mp h1).1 h2
   λh' p t=>h h' ⟨λb o a c g=>p.keep b o a c (same b o g),λb o a g=>p.slot b o a (same b o g),λoe' z=>p.own oe' (same e oe' z)⟩ t
theorem Dm{Q:Unit->Ur->Prop}(hfr:A.frames=O (env::outer))(hl:s.heap.FunFrames base (env::outer))(hf:env.frame=O L)(x:Fly c s.heap e)
  (h:∀h',RA (frs (env::outer)) e s.heap h'->Fly c h' e->Q () {s with heap:=h'}):Ux M A (leaving env (.ref e)) Q E s:=by
 unfold leaving;exact Qd (note hfr hl hf x h)
end
end L2
namespace L2
open PySem PySem.Spec PyProof.Rows PySem.Calls PyProof.V
noncomputable def XO(fr:Bool)(e C:Ut)(dd:va):Heap->Prop:=λh=>∃vs sl,h.get? e=O {cls:=.ref C,dict:=dd,data:=.fields vs,slots:=sl}/\(fr=xO->vs[1]?=O .none/\(∃t0,vs[0]?=O (.ref t0))/\vs[2]?=O .none/\4<vs.size)
theorem XO.ok{P:Us}{w:World}{H:Hp}{h:Heap}{fr:Bool}{e C:Ut}{dd:va}(x:XO fr e C dd h):Zj P w H h e (.ext (XO fr e C dd)):=
 ⟨x,let ⟨_,_,q,_⟩:=x;⟨_,q⟩,λh1 h2 ⟨vs,sl,q,z⟩ k=>⟨vs,sl,k _ q,z⟩⟩
theorem XO.fly{c:Bool}{h:Heap}{e C:Ut}{dd:va}(x:XO xO e C dd h):Fly c h e:=let ⟨vs,_,q,z⟩:=x;⟨_,vs,q,rfl,.inl (z xM).1,λ_=>(z xM).2.2.1⟩
theorem XO.old{h:Heap}{fr:Bool}{e C:Ut}{dd:va}(x:XO fr e C dd h):XO xP e C dd h:=let ⟨vs,sl,q,_⟩:=x;⟨vs,sl,q,λz=>nomatch z⟩
noncomputable def YC(c:Bool)(P:Us)(w:World):CXT:=λouter H s E v s'=>∃e C dd H',v=.ref e/\s'.os=s.os/\AllBare s'.gens/\Un (frs outer) [] H H' s.heap s'.heap/\HOk P w H' s'.heap/\H' e=O (.ext (XO xP e C dd))/\Fly c s'.heap e/\E (.ref e) xN H'
abbrev CX1:=YC xO
section
variable{X:Cx}{pins:List (Ut×Obj)}{σ:St}{H:Hp}{s:Ur}{e C:Ut}{dd:va}{h':Heap}
theorem Inv.passed(I:Inv X pins σ H s)(hx:H e=O (.ext (XO xP e C dd)))(p:RA (frs X.stack) e s.heap h'):Inv X pins σ H {s with heap:=h'}:=by
 have ne:∀b,H b=xN->b≠e:=λb n z=>by rw[z,hx]at n;cases n
 refine I.call (g':=s.gens) (t':=s.toks) (d':=s.drawn) (ch:=[]) ⟨λb o g n f _=>p.keep b o (ne b n) f g,λb o g n _ _=>p.slot b o (ne b n) g,λb o _ n _=>n,λb o g _=>?_,λ_ _ z=>z,λ_ _ _ z=>z,λb ps z=>⟨#[],by rw[z];simp⟩⟩ (λa o q=>?_) I.bare λb z=>absurd z (by simp)
 .by_cases hb:b=e
  .subst hb
   obtain⟨vs,z⟩:=p.own o g;exact⟨_,z⟩
  .obtain⟨sl,z⟩:=p.slot b o hb g
   exact⟨_,z⟩
 .by_cases ha:a=e
  .subst ha
   rw[hx]at q;cases q;obtain⟨⟨vs,sl,g,_⟩,_,_⟩:=I.hok a _ hx;obtain⟨vs',z⟩:=p.own _ g;exact XO.ok ⟨vs',sl,z,λz=>nomatch z⟩
  .refine(I.hok a o q).stay (λb u hb g=>p.keep b u ?_ (λz=>?_) g) (λ_ z=>z) λ_ _ z=>z
   .rcases hb with rfl|hb
    .exact ha
    .rintro rfl;rw[hx]at hb;cases hb
   .have n:=I.stkFree b z
    rcases hb with rfl|hb
    .rw[q]at n;cases n
    .rw[hb]at n;cases n
def XZ(c:Bool)(X:Cx)(KX:V->St->Hp->Prop):Prop:=∀(pins:List (Ut×Obj))(σ:St)(H:Hp)(s:Ur)(e C:Ut)(dd:va),Inv X pins σ H s->H e=O (.ext (XO xP e C dd))->Fly c s.heap e->KX (.ref e) σ H->X.xe (.ref e) s
theorem Lo{c:Bool}{P:Us}{w:World}{K:Frag}{mg:Str->xV}{base:Heap}{N:List Str}{qual:Str}{scope:Scope}{f:Ut}{cd:Uq}{A:Around}{outer:List Env}{s₀:Ur}{H₀:Hp}{E:XK} :
  XZ c (K7 (YC c P w) P w K mg base N qual scope f cd A outer s₀ H₀ E) λv _ H=>∃e,v=.ref e/\E (.ref e) xN H:=by
 intro pins σ H s e C dd I hx fl ⟨e',ee,hE⟩;cases ee;refine Dm (L:=s₀.heap.objs.size) I.ok.frames I.stack xM fl λh' p fl'=>?_;have I':=I.passed hx p
 exact⟨e,C,dd,H,rfl,I'.os,I'.bare,I'.base,I'.hok,hx,fl',hE⟩
theorem XZ.pass{c c1:Bool}{KX:V->St->Hp->Prop}{E:XK}{v:Uq}{s':Ur}(hw:XZ c X KX)(hcc:c=xO->c1=xO)(I:Inv X pins σ H s)(h:YC c1 X.prog X.w X.stack H s E v s')(hk:∀e H,E (.ref e) xN H->KX (.ref e) σ H):X.xe v s':=by obtain⟨e,C,dd,H',rfl,os,bare,un,hok,hx,fl,hE⟩:=h;obtain⟨hh,g,d,t,os'⟩:=s';obtain rfl:os'=s.os:=os;exact hw pins σ H' _ e C dd (I.call (h':=hh) (g':=g) (d':=d) (t':=t) (ch:=[]) un hok bare (λb z=>absurd z (by simp))) hx (fl.weak hcc) (hk e H' hE)
end
noncomputable abbrev VB:xS:=[.type "ValueError", .type "Exception", .type "BaseException", .type "object"]
structure XCls(M:Model)(base:Heap)(C:Ut)(bm:xS)(fI:Ut):Prop where
 obj:∃nm q N bs sn sub ab col dd k0 k1 k2 k3 k5,base.get? C=O (excClassObj nm q C N bs bm xO sn sub ab col dd k0 k1 k2 k3 k5 "ValueError.__new__")
 tail:Tail VB bm
 init:KY M C "__init__" (O (.ref fI)) base
 fn:∃o,base.get? fI=O o/\o.cls=.type "function"
 sa:KY M C "__setattr__" (O (.builtin "object.__setattr__")) base
 ga:KY M C "__getattribute__" (O (.builtin "BaseException.__getattribute__")) base
 gh:KY M C "__getattr__" none base
 cl:KY M C "__class__" (O (.builtin "object.__class__")) base
 pass:∀v,refuseLoop v "__setattr__" bm=pure ()
section
variable{X:Cx}{k:Nat}{f C:Ut}{fd:Uu}{ps:List Str}{sp:Sp}{x:Str}{p pos cpos:Pos}{e:Uv}{es:xU}{t:TA}{bm:xS}
theorem jY{pins:List (Ut×Obj)}{σ:St}{H:Hp}{s:Ur}{Q:VK}{us:xS}{vs:List V}(M:XCls (model X.prog X.w) X.base C bm f)(F:FnOk X.prog X.w X.K X.mg X.base CX0 k f fd ps sp)(hr:Room (k+1) X.A)(hb:Yl X.K fd ps [])
  (I:Inv X pins σ H s) (r:Vals vs us) (hl:us.length<=Uw)
  (h:∀a,H a=xN->sp (.ref a::vs) (upd H a (.ext (XO xO a C xN))) (λv H2=>v=.non/\Q (.ref a) H2) E0) :
  Ux (model X.prog X.w) X.A (call (.ref C) us) (EP X pins σ Q) X.xe s:=by
 obtain⟨nm,q,N,bs,sn,sub,ab,col,dd,k0,k1,k2,k3,k5,hC⟩:=M.obj;obtain⟨oI,hfI,hfc⟩:=M.fn;obtain⟨hp,g,d,tk,os⟩:=s;refine j4 PySem.F.excBase_ValueError M.tail (I.bk _ _ hC) (fI:=f) (M.init.keeps I.bk) (I.bk _ _ hfI) hfc (λh' a made hz=>?_) hl;obtain⟨t',he,htn,ht⟩:=made.there;have I2:Inv X pins σ (upd H a (.ext (XO xO a C xN))) ⟨h',g,d,tk,os⟩:=I.laid (t':=tk) made.keeps hz (XO.ok ⟨_,_,he,λ_=>⟨rfl,⟨_,rfl⟩,rfl,by simp⟩⟩);have hq:=h a (I.hok.fresh hz);have r2:Vals (V.ref a::vs) (Value.ref a::us):=.cons xM r;have hl2:(Value.ref a::us++[]).length=ps.length:=by have e:=r2.length;rw[F.len _ _ _ _ hq]at e;rw[QH];exact e.symm
 refine wpAny_call (codeAny_mono (F.run _ X.stack _ _ ⟨Value.ref a::us,[]⟩ (Value.ref a::us) _ _ E0 (hr.make C us []) (I2.env0.make C us []) (by have:=hb _ (Value.ref a::us) I2.kIn hl2;rwa[QH]at this) r2 hq) λr s' we=>?_);cases r with
 |error e=>exact we.elim
 |ok fl=>
  cases fl with
  |ret u=>obtain⟨v,H',I3,rv,ev,q3⟩:=I2.after we;subst ev;exact⟨rv,⟨V.ref a,H',I3,rfl,q3⟩⟩
  |next=>exact False.elim we
  |brk=>exact False.elim we
  |cont=>exact False.elim we
noncomputable def tMkX(C:Ut)(sp:Sp)(t:TA):TE:=λσ H Q=>t σ H λvs H1=>vs.length<=Uw/\∀a,H1 a=xN->sp (.ref a::vs) (upd H1 a (.ext (XO xO a C xN))) (λv H2=>v=.non/\Q (.ref a) H2) E0
theorem Aj(M:XCls (model X.prog X.w) X.base C bm f)(F:FnOk X.prog X.w X.K X.mg X.base CX0 k f fd ps sp)(hr:Room (k+1) X.A)(hg:Gl X x)(hm:X.mg x=O (.ref C))(hk:PySem.W.keepIn X.K (.ref C)=xO)(hb:Yl X.K fd ps [])
  (ha:PA X (e::es) t) (hdb:(x==("__debug__" : Str))=xP:=by decide) (he:Uy (e::es) X.env=(xP,eval e X.env)::Uy es X.env:=by rfl) (hpl:(backTo pos (Uy es X.env)).any (·.1)=xP:=by rfl) :
  PE X (.Call (.Name x p) (e::es) [] pos) (tMkX C sp t):=by
 intro pins s σ H Q I h;refine JJ (TU I hg hm ?_ hdb);refine PySem.W.callWith_K (h₀:=X.base) I.ok.mod.kin hk (thn (ha pos pins s σ H _ I h) λus s1 ⟨vs,H1,I1,r,hl,q⟩=>⟨I1.kIn,?_⟩) he hpl;exact jY M F hr hb I1 r (by show us.length<=Uw;rw[←r.length];exact hl) q
noncomputable def Dl(KC:Ut->Prop)(te:TE)(KX:V->St->Hp->Prop):TS:=λ_ σ H=>te σ H λv H2=>∃a C dd,v=.ref a/\KC C/\H2 a=O (.ext (XO xO a C dd))/\KX (.ref a) σ (upd H2 a (.ext (XO xP a C dd)))
theorem jX{M:Model}{A:Around}{E:Uq->Ur->Prop}{env:Env}{s:Ur}{Q:Flow->Ur->Prop}{y:Sem Uq}
  (hh:A.handled=xN) (h:Ux M A y (λv s₁=>∃a C dd vs sl nm q N bs bm hdct sn sub ab col vJ k0 k1 k2 k3 k5 newId,v=.ref a/\bm.contains (.type "BaseException")=xO/\s₁.heap.get? C=O (excClassObj nm q C N bs bm hdct sn sub ab col vJ k0 k1 k2 k3 k5 newId) /\
   s₁.heap.get? a=O {cls:=.ref C,dict:=dd,data:=.fields vs,slots:=sl}/\vs[1]?=O .none/\E (.ref a) s₁) E s) :
  Ux M A (raiseStmt env (O y) xN) Q E s:=by
 unfold raiseStmt;refine Qd (QP h (λv s₁ h₁=>?_) λ_ _ x=>x);obtain⟨a,C,dd,vs,sl,nm,q,N,bs,bm,hdct,sn,sub,ab,col,vJ,k0,k1,k2,k3,k5,newId,rfl,hbase,hC,he,h1,hE⟩:=h₁;have vN:(Value.ref C::bm).contains (.type "BaseException")=xO:=by rw[Jb,hbase,Ui]
 obtain⟨hp,g,d,tk,os⟩:=s₁
 repeat (first|with_reducible refine JN he xM h1 ?_|with_reducible refine Qo he ?_|with_reducible refine Qo hC ?_|(with_reducible refine QR hC ?_;rw[vN])|wp_step)
 exact wpAny_raiseNew_none hh hE
theorem Inv.aged{pins:List (Ut×Obj)}{σ:St}{H:Hp}{s:Ur}{a C:Ut}{dd:va}(I:Inv X pins σ H s)(hx:H a=O (.ext (XO xO a C dd))):Inv X pins σ (upd H a (.ext (XO xP a C dd))) s:=by obtain⟨x,_,_⟩:=I.hok a _ hx;have:=I.write (x:=a) (e:=a) (o:=.ext (XO xP a C dd)) (t':=s.toks) (h':=s.heap) (by rw[hx];trivial) (.inl xM) (λ_ _ _ q=>q) (let ⟨_,_,q,_⟩:=x;⟨_,q⟩) (XO.ok x.old);exact this
theorem Ai{c:Bool}{KC:Ut->Prop}{te:TE}{KX:V->St->Hp->Prop}{exc:Uv}(hc:X.calm=xO)(hcls:∀C,KC C->∃bm fI,XCls (model X.prog X.w) X.base C bm fI)(hw:XZ c X KX)(ht:PE X exc te):PS X (.Raise (O exc) xN pos) (Dl KC te KX):=by intro pins s σ H D I h;rw[arm_exec_Raise];refine Qd (Jn ?_);show Ux _ _ (raiseStmt X.env (O (do let v ←eval exc X.env;standAt pos;pure v)) xN) _ _ _;refine jX (I.ok.hd hc) (Qd (thn (ht pins s σ H _ I h) λu s1 ⟨v,H2,I2,rv,a,C,dd,ev,kc,hx,kx⟩=>Qd (Jn (Qm ?_))));subst ev;obtain rfl:u=Value.ref a:=rv;obtain⟨bm,fI,M⟩:=hcls C kc;obtain⟨nm,q,N,bs,sn,sub,ab,col,vJ,k0,k1,k2,k3,k5,hC⟩:=M.obj;obtain⟨⟨vs,sl,g,z⟩,_,_⟩:=I2.hok a _ hx;exact⟨a,C,dd,vs,sl,nm,q,N,bs,bm,xO,sn,sub,ab,col,vJ,k0,k1,k2,k3,k5,_,rfl,M.tail _ _ xM,I2.bk _ _ hC,g,(z xM).1,hw pins σ _ s1 a C dd (I2.aged hx) Ks (XO.fly ⟨vs,sl,g,z⟩) kx⟩
end
section
variable{M:Model}{A:Around}{E:Uq->Ur->Prop}{h:Heap}{g:Array GenState}{d:Drawn}{t:Nat}{os:OsState}
variable{nm q wd q':Str}{C N D N' a:Ut}{bs bm bs' bm':xS}{hdct v6:Bool}{sn sn':List Str}{sub sub':xS}{ab wM:Bool}{col col':vb}{dd vJ:va}{k0 k1 k2 k3 k5 j0 j1 j2 j3 j5:xV}{newId newId':String}
theorem Ah{o:Obj}{b:Bool}{Q:Bool->Ur->Prop}(hC:h.get? C=O (excClassObj nm q C N bs bm hdct sn sub ab col dd k0 k1 k2 k3 k5 newId))(hD:h.get? D=O (excClassObj wd q' D N' bs' bm' v6 sn' sub' wM col' vJ j0 j1 j2 j3 j5 newId'))
  (hbase:bm'.contains (.type "BaseException")=xO) (ha:h.get? a=O o) (hc:o.cls=.ref C) (hb:(Value.ref C::bm).contains (.ref D)=b) (hq:Q b ⟨h,g,d,t,os⟩):Ux M A (excMatches (.ref a) (.ref D)) Q E ⟨h,g,d,t,os⟩:=by
 have vN:(Value.ref D::bm').contains (.type "BaseException")=xO:=by rw[Jb,hbase,Ui]
 have f1:=tc_notTuple;have f2:=tc_sub;have hT:(⟨h,g,d,t,os⟩:Ur).TypeIs (.ref D) "type" :=⟨_,hD,rfl⟩
 unfold excMatches
 repeat (any_goals (first|assumption|(with_reducible refine Qo ha ?_;rw[hc])|with_reducible refine Qo hD ?_|with_reducible refine Qo hC ?_|(with_reducible refine QR hD ?_;rw[vN])|(with_reducible refine QR hC ?_;rw[hb])|wp_step))
 cases b<;>(wp_walk;exact hq)
end
noncomputable def DS(sp:Sp)(KX:V->St->Hp->Prop)(t:TA):TE:=λσ H Q=>t σ H λvs H1=>sp vs H1 Q λv _ H'=>∀a,v=.ref a->KX (.ref a) σ H'
section
variable{X:Cx}{k:Nat}{f:Ut}{fd:Uu}{ps:List Str}{sp:Sp}{x n:Str}{p pos np hpos:Pos}{e:Uv}{es:xU}{t:TA}{KX:V->St->Hp->Prop}
theorem Ag{c c1:Bool}(F:FnOk X.prog X.w X.K X.mg X.base (YC c1 X.prog X.w) k f fd ps sp)(hr:Room k X.A)(hg:Gl X x)(hm:X.mg x=O (.ref f))(hk:PySem.W.keepIn X.K (.ref f)=xO)(hb:Yl X.K fd ps [])(hw:XZ c X KX)
  (ha:PA X (e::es) t) (hcc:c=xO->c1=xO:=by decide) (hdb:(x==("__debug__" : Str))=xP:=by decide) (he:Uy (e::es) X.env=(xP,eval e X.env)::Uy es X.env:=by rfl) (hpl:(backTo pos (Uy es X.env)).any (·.1)=xP:=by rfl) :
  PE X (.Call (.Name x p) (e::es) [] pos) (DS sp KX t):=by
 intro pins s σ H Q I h;refine JJ (TU I hg hm ?_ hdb);refine PySem.W.callWith_K (h₀:=X.base) I.ok.mod.kin hk (thn (ha pos pins s σ H _ I h) λus s1 ⟨vs,H1,I1,r,q⟩=>⟨I1.kIn,?_⟩) he hpl;have hl:(us++[]).length=ps.length:=by rw[QH,←r.length];exact F.len _ _ _ _ q
 refine wpAny_call (codeAny_mono (F.run X.A X.stack s1 H1 ⟨us,[]⟩ us vs Q _ hr I1.env0 (by have:=hb s1 us I1.kIn hl;rwa[QH]at this) r q) λr s' hq=>?_);cases r with
 |error e=>exact hw.pass hcc (E:=λv _ H'=>∀a,v=.ref a->KX (.ref a) σ H') I1 hq λa H' z=>z a xM
 |ok fl=>
  cases fl with
  |ret u=>exact I1.after hq
  |next=>exact False.elim hq
  |brk=>exact False.elim hq
  |cont=>exact False.elim hq
noncomputable abbrev Cx.suite(X:Cx)(a:Ut):Cx:={X with A:=X.A.mark (O (.ref a)),calm:=xP,xe:=λ_ _=>False}
theorem Cx.Ok.suite(ok:X.Ok)(a:Ut):(X.suite a).Ok:=
 ⟨ok.mod,ok.kind,ok.glob,ok.blt,ok.above,ok.inj,ok.has,ok.cab,λz=>(nomatch z),ok.frames,ok.stk,ok.exf,ok.bs,ok.bsz,ok.noex,ok.exfs,ok.funs,ok.frf⟩
theorem Inv.suite{pins:List (Ut×Obj)}{σ:St}{H:Hp}{s:Ur}(I:Inv X pins σ H s)(a:Ut):Inv (X.suite a) pins σ H s:=⟨I.ok.suite a,I.os,I.bare,I.base,I.loc,I.cell,I.free,I.freeC,I.pin,I.hok,I.len⟩
theorem Inv.unsuite{pins:List (Ut×Obj)}{σ σ':St}{H H':Hp}{s s':Ur}{a:Ut}(I0:Inv X pins σ H s)(I:Inv (X.suite a) pins σ' H' s'):Inv X pins σ' H' s':=⟨I0.ok,I.os,I.bare,I.base,I.loc,I.cell,I.free,I.freeC,I.pin,I.hok,I.len⟩
theorem Pe{pins:List (Ut×Obj)}{σ:St}{H:Hp}{s:Ur}{i:Nat}{Q:Unit->Ur->Prop}{E:Uq->Ur->Prop}{A:Around}(I:Inv X pins σ H s)(hN:X.N.Nodup)(hi:X.N[i]?=O n)(hl:X.env.kindOf n=O .local)
  (h:∀s',Inv X pins (σ.set i xN) H s'->Q () s'):Ux (model X.prog X.w) A (do bindName X.env n .none;unbindBehindTheSuite X.env n pos) Q E s:=by
 have hcls:(X.env.scope.kind==.class || (X.env.scope.kind==.module&&X.env.locals != X.env.globals))=xP:=by rw[I.ok.kind];rfl
 refine Qd (wpAny_bindName (SK (v:=.non) (u:=.none) I hN hi (.inl hl) xM (λs1 I1=>?_) (.inr hl)));unfold unbindBehindTheSuite;refine wpAny_onRaise ?_;unfold unbindName;refine Qd (wpAny_point (Qd ?_));unfold deleteName;simp only[hl,hcls];rw[Qw (by decide)];obtain⟨m,hn,hlk⟩:=id I1.loc;have hiσ:i<σ.length:=by rw[I.len];exact(Ql.mp hi).1
 refine Qd (wpAny_nsDel_keeps hn λh' v hn' hs=>?_)
 have hsome:(m n).isSome=xO:=by
  obtain⟨u,_,l⟩:=hlk i n .non hi (by rw[QK hiσ]) (.inl hl);rcases l with ⟨_,l⟩|⟨k,_⟩
  .rw[l];rfl
  .rcases k with k|k
   .rw[hl]at k;cases k
   .rw[hl]at k;cases k
 rw[hsome];simp only[if_true,Bool.not_true,JF,Uo];refine Qm (wpAny_point (h _ ?_));obtain⟨oL,_,_,w6,_⟩:=id hn;have neL:∀b o,X.s₀.heap.get? b=O o->b≠X.env.locals:=λb o e=>QS (Qy (Qi e) I.ok.above)
 refine⟨I1.ok,I1.os,I1.bare,⟨λb o e n hb hx=>(hs.2 b (neL b o e)).trans (I1.base.keep b o e n hb hx),λb o e n hb hx=>?_,I1.base.free,λb o e hx=>?_,I1.base.tups,I1.base.frzs,I1.base.tbls⟩,⟨_,hn',λj y v' e1 e2 e3=>?_⟩,λy c e=>?_,I1.free,I1.freeC,λp hp=>?_,λb ob e=>?_,?_⟩
 .obtain⟨sl,e1⟩:=I1.base.slot b o e n hb hx
  exact⟨sl,(hs.2 b (neL b o e)).trans e1⟩
 .obtain⟨o',e1⟩:=I1.base.there b o e hx
  exact⟨o',(hs.2 b (neL b o e)).trans e1⟩
 .have hj:j≠i:=by
   rintro rfl;rw[QK hiσ]at e2;cases e2
  rw[Qj (Ne.symm hj)]at e2;obtain⟨u',r',q⟩:=hlk j y v' e1 (by rw[Qj (Ne.symm hj)];exact e2) e3;have hy:y≠n:=by rintro rfl;obtain⟨h1,h2⟩:=Ql.mp e1;obtain⟨h3,h4⟩:=Ql.mp hi;exact hj ((List.getElem_inj hN).mp (h2.trans h4.symm))
  refine⟨u',r',?_⟩;rcases q with ⟨q1,q2⟩|⟨k,c,e,z⟩
  .exact .inl ⟨q1,(Qw hy).trans q2⟩
  .obtain⟨o,ho,hd⟩:=z
   exact .inr ⟨k,c,e,o,(hs.2 c (I1.cne y c e)).trans ho,hd⟩
 .obtain⟨v',o,ho,hd⟩:=I1.cell y c e
  exact⟨v',o,(hs.2 c (I1.cne y c e)).trans ho,hd⟩
 .obtain⟨a,b,c,d⟩:=I1.pin p hp
  exact⟨(hs.2 _ c).trans a,b,c,d⟩
 .refine(I1.hok b ob e).stay (λc w' hc q=>(hs.2 c ?_).trans q) (λ_ q=>q) λ_ _ q=>q
  rintro rfl;rcases hc with rfl|hc
  .rw[I1.free]at e;cases e
  .rw[I1.free]at hc;cases hc
 .rw[QU];exact I.len
theorem ki{c:Bool}{M:Model}{A:Around}{E:Uq->Ur->Prop}{s:Ur}{a:Ut}{Q:Unit->Ur->Prop}(fl:Fly c s.heap a)(h:∀h',(∀b o,s.heap.get? b=O o->h'.get? b=O o)->Q () {s with heap:=h'}):Ux M A (setFlight (.ref a) xN) Q E s:=by
 obtain⟨oe,vs,he,hd,h1,_⟩:=fl;unfold setFlight;rcases h1 with h1|⟨T,oT,ts,h1,wU,hT,wb,h3⟩
 .refine Qd (JN he hd h1 ?_)
  rw[Qw (by decide)];exact Qm (h s.heap λ_ _ q=>q)
 .obtain⟨hs3,hv3⟩:=JB.mp h3
  refine Qd (JN he hd h1 ?_);rw[if_pos (show(Value.ref T != Value.none)=xO from by simp)];refine wpAny_setField hT wb hs3 (h _ λb o hb=>?_);by_cases wI:b=T
  .subst wI
   rw[hT]at hb;cases hb;rw[Jf _ hT (Obj.isFreed_of_fields (Obj.data_mapFields wb _)),WA _ wb];have:ts.setIfInBounds 3 Value.none=ts:=Array.setIfInBounds_same _ _ _ h3;show O {oT with data:=.fields (ts.setIfInBounds 3 Value.none)}=_;rw[this,←wb]
  .rw[QX _ _ (Ne.symm wI)];exact hb
noncomputable def V1(KC:Ut->xS->Prop)(D:Ut)(i:Nat)(ts:TS)(Dn:Ends):V->St->Hp->Prop:=λv σ H=>∃a C dd bm,v=.ref a/\KC C bm/\H a=O (.ext (XO xP a C dd))/\(Value.ref C::bm).contains (.ref D)=xO /\
 ts {nx:=λσ' H'=>Dn.nx (σ'.set i xN) H',rt:=Dn.rt,bk:=λσ' H'=>Dn.bk (σ'.set i xN) H',ct:=λσ' H'=>Dn.ct (σ'.set i xN) H'} (σ.set i (O (.ref a))) H
noncomputable def tTry(KC:Ut->xS->Prop)(D:Ut)(i:Nat)(tb:(V->St->Hp->Prop)->TS)(ts:TS):TS:=λDn σ H=>tb (V1 KC D i ts Dn) Dn σ H
noncomputable abbrev Cx.tried(X:Cx)(W:Uq->Ur->Prop)(pins:List (Ut×Obj)):Cx:={X with xe:=W,pn:=X.pn++pins}
theorem Inv.tried{pins:List (Ut×Obj)}{σ:St}{H:Hp}{s:Ur}(I:Inv X pins σ H s)(W:Uq->Ur->Prop):Inv (X.tried W pins) [] σ H s:=
 ⟨⟨I.ok.mod,I.ok.kind,I.ok.glob,I.ok.blt,I.ok.above,I.ok.inj,I.ok.has,I.ok.cab,I.ok.hd,I.ok.frames,I.ok.stk,I.ok.exf,I.ok.bs,I.ok.bsz,I.ok.noex,I.ok.exfs,I.ok.funs,I.ok.frf⟩,I.os,I.bare,I.base,I.loc,I.cell,I.free,I.freeC,λp hp=>I.pin p (by simpa using hp),I.hok,I.len⟩
theorem Inv.untried{pins pins':List (Ut×Obj)}{σ σ':St}{H H':Hp}{s s':Ur}{W:Uq->Ur->Prop}(I0:Inv X pins σ H s)(I:Inv (X.tried W pins) pins' σ' H' s'):Inv X pins σ' H' s':=
 ⟨I0.ok,I.os,I.bare,I.base,I.loc,I.cell,I.free,I.freeC,λp hp=>I.pin p (Qv _ hp),I.hok,I.len⟩
theorem DR{KC:Ut->xS->Prop}{D fD:Ut}{bmD:xS}{i:Nat}{tb:(V->St->Hp->Prop)->TS}{ts:TS}{body suite:List Stmt}{b₀:Stmt}{st:List Env}(vW:X.stack=X.env::st)(hfr:X.env.frame=O X.env.locals)
  (hcls:∀C bm,KC C bm->∃fI,XCls (model X.prog X.w) X.base C bm fI) (hD:XCls (model X.prog X.w) X.base D bmD fD) (hg:Gl X x) (hm:X.mg x=O (.ref D)) (hN:X.N.Nodup) (hi:X.N[i]?=O n) (hl:X.env.kindOf n=O .local)
  (hb:∀(KX:V->St->Hp->Prop)(W:Uq->Ur->Prop)(pn:List (Ut×Obj)),XZ xP (X.tried W pn) KX->PSs (X.tried W pn) body (tb KX)) (hs:∀a,PSs (X.suite a) (b₀::suite) ts) (hdb:(x==("__debug__" : Str))=xP:=by decide) :
  PS X (.Try body [.ExceptHandler (O (.Name x np)) (O n) (b₀::suite) hpos] [] [] pos) (tTry KC D i tb ts):=by
 intro pins s σ H Dn I h;refine wpAny_Try_except ?_
 let W:Uq->Ur->Prop:=λv s1=>∃a σ1 H1,v=.ref a/\Inv X pins σ1 H1 s1/\Fly xP s1.heap a/\V1 KC D i ts Dn (.ref a) σ1 H1
 have hw:XZ xP (X.tried W pins) (V1 KC D i ts Dn):=λpins' σ1 H1 s1 a C dd I1 hx fl hk=>⟨a,σ1,H1,rfl,I.untried I1,fl,hk⟩;refine QP (hb _ W pins hw [] s σ H Dn (I.tried W) h) (λf s1 h1=>?_) λv s1 h1=>?_
 .cases f with
  |next=>obtain⟨σ',H',I',q⟩:=h1;exact wpAny_execs_nil ⟨σ',H',I.untried I',q⟩
  |brk=>obtain⟨σ',H',I',q⟩:=h1;exact⟨σ',H',I.untried I',q⟩
  |cont=>obtain⟨σ',H',I',q⟩:=h1;exact⟨σ',H',I.untried I',q⟩
  |ret u=>obtain⟨v,σ',H',I',r,q⟩:=h1;exact⟨v,σ',H',I.untried I',r,q⟩
 .obtain⟨a,σ1,H1,rfl,I1,fl,a',C,dd,bm,ea,kc,hx,hm',q⟩:=h1
  cases ea;obtain⟨fI,XC⟩:=hcls C bm kc;have hk:=I1.ok.frames;rw[vW]at hk;have hS:=I1.stack;rw[vW]at hS;refine note hk hS hfr fl λh2 p2 fl2=>?_;rw[←vW]at p2;have I2:=I1.passed hx p2;refine wpAny_handleBy_cons (codeAny_handlers_test ?_) (by intro q;cases q)
  refine TU (I2.suite a) hg hm ?_ hdb;obtain⟨nm,qn,N,bs,sn,sub,ab,col,dd1,k0,k1,k2,k3,k5,hC⟩:=XC.obj;obtain⟨wd,qn',N',bs',sn',sub',wM,col',dd2,j0,j1,j2,j3,j5,vw⟩:=hD.obj;obtain⟨⟨vs,sl,ga,_⟩,_,_⟩:=I2.hok a _ hx;refine Ah (I2.bk _ _ hC) (I2.bk _ _ vw) (hD.tail _ _ xM) ga xM hm' ?_;refine codeAny_handlers_suite_as (ki fl2 λh3 k3=>?_);have I3:=I2.kept (t':=s1.toks) k3;refine SK (v:=.ref a) I3 hN hi (.inl hl) xM (λs4 I4=>?_) (.inr hl);refine QP (hs a pins s4 _ H1 _ (I4.suite a) q) (λf s5 h5=>?_) λ_ _ z=>z.elim
  cases f with
  |next=>obtain⟨σ',H',I',q'⟩:=h5;exact Pe (I3.unsuite I') hN hi hl λs6 I6=>⟨_,H',I6,q'⟩
  |brk=>obtain⟨σ',H',I',q'⟩:=h5;exact Pe (I3.unsuite I') hN hi hl λs6 I6=>⟨_,H',I6,q'⟩
  |cont=>obtain⟨σ',H',I',q'⟩:=h5;exact Pe (I3.unsuite I') hN hi hl λs6 I6=>⟨_,H',I6,q'⟩
  |ret u=>obtain⟨v,σ',H',I',r,q'⟩:=h5;exact Pe (I3.unsuite I') hN hi hl λs6 I6=>⟨v,_,H',I6,r,q'⟩
end
section
variable{prog:Us}{w:World}{A:Around}{E:Uq->Ur->Prop}{h:Heap}{g:Array GenState}{d:Drawn}{t:Nat}{os:OsState}
variable{nm q:Str}{C N a:Ut}{bs bm bmB:xS}{hdct:Bool}{sn:List Str}{sub:xS}{ab:Bool}{col:vb}{dd:va}{k0 k1 k2 k3 k5:xV}{B newId initId nid:String}
theorem kG(F:ExcBaseFacts B nid initId bmB)(T:Tail bmB bm){M:Model}{oe:Obj}{rest:xS}{Q:Unit->Ur->Prop}
  (hC:h.get? C=O (excClassObj nm q C N bs bm hdct sn sub ab col dd k0 k1 k2 k3 k5 newId)) (he:h.get? a=O oe) (hcls:oe.cls=.ref C) (hq:Q () ⟨h,g,d,t,os⟩) :
  Ux M A (checkBuiltinCall initId ⟨.ref a::rest,[]⟩) Q E ⟨h,g,d,t,os⟩:=by
 have vN:(Value.ref C::bm).contains (.type B)=xO:=by rw[Jb,T _ _ F.hasB,Ui]
 have hshort:=F.noStar;simp only[checkBuiltinCall,F.initKind,F.initSplit,F.initRow]
 repeat (first|(with_reducible refine Qo he ?_;rw[hcls])|with_reducible refine Qo hC ?_|(with_reducible refine QR hC ?_;rw[vN])|wp_step)
 refine wpAny_onRaise ?_
 rw[show ∀(x1 x2:String)(n:Nat),Bind.check ⟨.positional, "*", B,.self,[⟨"args", .varPos,xP⟩]⟩ x1 x2 n (List.map (λx=>x.fst) ({pos:=Value.ref a::rest}:Args).kw)=pure ()from
  λ_ _ n=>check_star_args _ _ _ _ _ _]
 exact Qm hq
theorem kh(F:ExcBaseFacts B nid initId bmB)(T:Tail bmB bm){oe:Obj}{vs:Array Uq}{u:Uq}{Q:Uq->Ur->Prop}
  (hC:h.get? C=O (excClassObj nm q C N bs bm hdct sn sub ab col dd k0 k1 k2 k3 k5 newId)) (he:h.get? a=O oe) (hcls:oe.cls=.ref C) (hd:oe.data=.fields vs) {t0:Ut} (h0:vs[0]?=O (.ref t0))
  (hq:∀h',(∀b o,b≠a->h.get? b=O o->h'.get? b=O o)->(∃y,h'.get? a=O {oe with data:=.fields (vs.setIfInBounds 0 (.ref y))})->Q .none ⟨h',g,d,t,os⟩) :
  Ux (model prog w) A (call (.builtin initId) [.ref a,u]) Q E ⟨h,g,d,t,os⟩:=by
 refine wpAny_call (Jz F.init.plain F.initEntry (kG F T hC he hcls ?_));have he₂:(h.push {cls:=.type "tuple", data:=.seq #[u]}).get? a=O oe:=Qg _ he;have hz:0<vs.size:=(JB.mp h0).1
 repeat (first|with_reducible refine JN he₂ hd h0 ?_|with_reducible refine wpAny_setField he₂ hd hz ?_|wp_step)
 have he₃:=Jf (Obj.mapFields (·.setIfInBounds 0 (Value.ref h.objs.size))) he₂ (Obj.isFreed_of_fields (Obj.data_mapFields hd _));refine hq _ (λb o hb g=>?_) ⟨_,by rw[he₃,WA _ hd]⟩;rw[QX _ _ (Ne.symm hb)];exact Qg _ g
end
theorem Bf:PySem.W.handedIn (.builtin "ValueError.__init__")=xO:=by decide +kernel
theorem DQ{h:Heap}:PySem.W.Frag.In [] h:=λa o z=>by cases z
theorem Le:typeOf (.type "ValueError")=pure (.type "type"):=by kernel_rfl
theorem Be:Manifest.isStub "ValueError" = xP:=by decide +kernel
theorem Bd:PySem.W.findCls [] (.type "ValueError") (.type "type") "__init__" = O (.val (.builtin "ValueError.__init__")):=by kernel_rfl
section
variable{X:Cx}{k:Nat}{f D:Ut}{fd:Uu}{ps:List Str}{sp:Sp}{x:Str}{p pos apos:Pos}{e:Uv}{es:xU}{t:TA}
noncomputable def Mi(KC:Ut->xS->Prop)(t:TA):TE:=λσ H Q=>t σ H λvs H1=>∃a C dd bm u,vs=[.ref a,u]/\KC C bm/\H1 a=O (.ext (XO xO a C dd))/\Q .non H1
theorem Af{KC:Ut->xS->Prop}{pl:Sem Bool}(hcls:∀C bm,KC C bm->∃fI,XCls (model X.prog X.w) X.base C bm fI)(hg:Gl X "ValueError")(hm:X.mg "ValueError" = xN)(ha:PA X (e::es) t)
  (hst:Uy (e::es) X.env=(xP,eval e X.env)::Uy es X.env:=by rfl) (hpl:(backTo pos (Uy es X.env)).any (·.1)=xP:=by rfl)
  (ht:eval (.Call (.Attribute (.Name "ValueError" p) "__init__" apos) (e::es) [] pos) X.env=(do
   let ov ←eval (.Name "ValueError" p) X.env
   standAt apos.atName
   let (f,first) ←holding [ov] (getMethod ov "__init__" pl)
   callWith pos f first (backTo pos (Uy (e::es) X.env)) (backToKw pos (keywordEach [] X.env))):=by rfl) :
  PE X (.Call (.Attribute (.Name "ValueError" p) "__init__" apos) (e::es) [] pos) (Mi KC t):=by
 intro pins s σ H Q I h;have hB:bootBuiltins "ValueError" = O (.type "ValueError"):=by decide +kernel
 refine PySem.W.methodCall_KW (pl:=pl) (Vy I hg hm hB ?_) ht;obtain⟨m,Fm⟩:=I.fr;refine PySem.W.method_type (K:=[]) (v:=.builtin "ValueError.__init__") Fm DQ Le Be Bd Bf ?_;refine PyProof.Rows.callWith_builtin1 (thn (ha pos pins _ σ H _ (I.tok _) h) λus s1 ⟨vs,H1,I1,r1,a,C,dd,bm,u,ev,kc,hx,q⟩=>?_) hst hpl;subst ev;cases r1 with
 |cons ra r1=>
 cases r1 with
 |cons ru r1=>
 cases r1;have ra':_=Value.ref a:=ra;subst ra';obtain⟨fI,XC⟩:=hcls C bm kc;obtain⟨nm,qn,N,bs,sn,sub,ab,col,dd1,k0,k1,k2,k3,k5,hC⟩:=XC.obj;obtain⟨⟨vs,sl,ga,z⟩,_,_⟩:=I1.hok a _ hx;obtain⟨z1,⟨t0,z0⟩,z2⟩:=z xM;obtain⟨hp,g,d,tk,os⟩:=s1;refine kh PySem.F.excBase_ValueError XC.tail (I1.bk _ _ hC) ga xM xM z0 λh' k ⟨y,hy⟩=>?_;have hw:=I1.write (x:=a) (e:=a) (o:=.ext (XO xO a C dd)) (t':=tk) (h':=h') (by rw[hx];trivial) (.inl xM) k ⟨_,hy⟩ (XO.ok ⟨_,sl,hy,λ_=>⟨by rw[Array.getElem?_setIfInBounds_ne (by decide)];exact z1,⟨y,by simp[(Array.getElem?_eq_some_iff.mp z0).1]⟩,by rw[Array.getElem?_setIfInBounds_ne (by decide)];exact z2.1,by rw[Array.size_setIfInBounds];exact z2.2⟩⟩)
 have e:upd H1 a (.ext (XO xO a C dd))=H1:=by
  funext b;by_cases hb:b=a
  .subst hb;rw[Ks,hx]
  .rw[Ki hb]
 rw[e]at hw;exact⟨.non,H1,hw,rfl,q⟩
end
structure S9(K:Frag)(D:Ut)(m:Str)(f:Ut):Prop where
 ga:PySem.W.specialIn K (.ref D) "__getattribute__" = O (O (.builtin "type.__getattribute__"))
 rd:PySem.W.readsIn K D (.type "type")=xO
 fd:PySem.W.findCls K (.ref D) (.type "type") m=O (.val (.ref f))
 kp:PySem.W.keepIn K (.ref f)=xO
section
variable{X:Cx}{k:Nat}{f D:Ut}{fd:Uu}{ps:List Str}{sp:Sp}{x m:Str}{p pos apos:Pos}{e:Uv}{es:xU}{t:TA}
theorem Ae{pl:Sem Bool}(M:S9 X.K D m f)(F:FnOk X.prog X.w X.K X.mg X.base CX0 k f fd ps sp)(hr:Room k X.A)(hb:Yl X.K fd ps [])(hg:Gl X x)(hm:X.mg x=O (.ref D))(ha:PA X (e::es) t)
  (hdb:(x==("__debug__" : Str))=xP:=by decide) (hst:Uy (e::es) X.env=(xP,eval e X.env)::Uy es X.env:=by rfl) (hpl:(backTo pos (Uy es X.env)).any (·.1)=xP:=by rfl)
  (ht:eval (.Call (.Attribute (.Name x p) m apos) (e::es) [] pos) X.env=(do
   let ov ←eval (.Name x p) X.env
   standAt apos.atName
   let (f,first) ←holding [ov] (getMethod ov m pl)
   callWith pos f first (backTo pos (Uy (e::es) X.env)) (backToKw pos (keywordEach [] X.env))):=by rfl) :
  PE X (.Call (.Attribute (.Name x p) m apos) (e::es) [] pos) (PF sp [] E0 t):=by
 intro pins s σ H Q I h;refine PySem.W.methodCall_KW (pl:=pl) (TU I hg hm ?_ hdb) ht;refine PySem.W.method_cls I.kIn M.ga (PySem.W.cls_value I.kIn M.rd M.fd xM ?_);refine PySem.W.callWith_K (h₀:=X.base) I.ok.mod.kin M.kp (thn (ha pos pins _ σ H _ (I.tok _) h) λus s1 ⟨vs,H1,I1,r,q⟩=>⟨I1.kIn,?_⟩) hst hpl;exact Ml F hr hb .nil Ra I1 r q
end
noncomputable def XD(dx:Ut)(fs:List (Str×V)):Heap->Prop:=λh=>∃mA,h.Ns1 dx mA/\h.ExactDictFk dx/\(∀f,XJ (fs.lookup f) (mA f))/\PySem.Within mA (fs.map (·.1))
theorem XD.ok{P:Us}{w:World}{H:Hp}{h:Heap}{dx:Ut}{fs:List (Str×V)}(x:XD dx fs h):Zj P w H h dx (.ext (XD dx fs)):=
 ⟨x,let ⟨_,⟨o,_,_,q,_⟩,_⟩:=x;⟨o,q⟩,λh1 h2 ⟨mA,⟨o,es,ep,q,c⟩,⟨od,q2,c2⟩,r⟩ k=>⟨mA,⟨o,es,ep,k _ q,c⟩,⟨od,k _ q2,c2⟩,r⟩⟩
theorem XO.inst{h:Heap}{a C:Ut}{vs:Array Uq}{sl:Array xV}(g:h.get? a=O {cls:=.ref C,dict:=xN,data:=.fields vs,slots:=sl}):h.InstFk a C λ_=>xN:=
 ⟨_,g,rfl,λ_ z=>(by cases z),.inl ⟨rfl,λ_=>rfl⟩⟩
section
variable{X:Cx}{pins:List (Ut×Obj)}{σ:St}{H:Hp}{s:Ur}{a C dx:Ut}{h':Heap}{t':Nat}
theorem Inv.xdict{fs:List (Str×V)}(I:Inv X pins σ H s)(hx:H a=O (.ext (XO xO a C xN)))(k:∀b o,b≠a->s.heap.get? b=O o->h'.get? b=O o)(hz:s.heap.objs.size<=dx)(h1:XO xO a C (O dx) h')(h2:XD dx fs h') :
  Inv X pins σ (upd (upd H a (.ext (XO xO a C (O dx)))) dx (.ext (XD dx fs))) {s with heap:=h',toks:=t'}:=by
 have hn:H dx=xN:=I.hok.fresh hz;have hne:dx≠a:=λz=>by rw[z,hx]at hn;cases hn
 have ne:∀b,H b=xN->b≠a:=λb n z=>by rw[z,hx]at n;cases n
 have nd:∀b o,s.heap.get? b=O o->b≠dx:=λb o g z=>by subst z;exact absurd (Qi g) (Nat.not_lt.mpr hz)
 have oth:∀b,b≠a->b≠dx->upd (upd H a (.ext (XO xO a C (O dx)))) dx (.ext (XD dx fs)) b=H b:=λb h1 h2=>by rw[Ki h2,Ki h1]
 have trk:∀b u,H b=O u->b≠dx:=λb u q z=>by rw[z,hn]at q;cases q
 have nota:∀b(u:HO),H b=O u->(∀φ,u≠.ext φ)->b≠a:=λb u q n z=>by rw[z,hx]at q;cases q;exact n _ xM
 refine I.un (t':=t') ⟨λb o g n _ _=>k b o (ne b n) g,λb o g n _ _=>⟨o.slots,k b o (ne b n) g⟩,λb o g n _=>(oth b (ne b n) (nd b o g)).trans n,λb o g _=>?_,λb xs q=>?_,λb o u q=>?_,λb ps q=>⟨#[],?_⟩⟩ λb u q=>?_
 .by_cases hb:b=a
  .subst hb;obtain⟨_,_,z,_⟩:=h1;exact⟨_,z⟩
  .exact⟨o,k b o hb g⟩
 .exact(oth b (nota b _ q λ_ z=>by cases z) (trk b _ q)).trans q
 .exact(oth b (nota b _ q λ_ z=>by cases z) (trk b _ q)).trans q
 .rw[oth b (nota b _ q λ_ z=>by cases z) (trk b _ q),q];simp
 .by_cases hb:b=dx
  .subst hb;rw[Ks]at q;cases q;exact XD.ok h2
  .rw[Ki hb]at q
   by_cases hb2:b=a
   .subst hb2;rw[Ks]at q;cases q;exact XO.ok h1
   .rw[Ki hb2]at q
    refine(I.hok b u q).stay (λc v hc g=>k c v ?_ g) (λc r=>(oth c (nota c _ r λ_ z=>by cases z) (trk c _ r)).trans r) λc xs r=>(oth c (nota c _ r λ_ z=>by cases z) (trk c _ r)).trans r
    rcases hc with rfl|hc
    .exact hb2
    .exact nota c _ hc λ_ z=>by cases z
end
noncomputable def PD(KC:Ut->xS->Prop)(ta tv:TE)(f:Str):TS:=λD σ H=>tv σ H λy H1=>ta σ H1 λx H2=>∃a C bm,x=.ref a/\KC C bm /\
 ((H2 a=O (.ext (XO xO a C xN))/\∀dx,H2 dx=xN->dx≠a->D.nx σ (upd (upd H2 a (.ext (XO xO a C (O dx)))) dx (.ext (XD dx [(f,y)])))) ∨
  ∃dx fs,dx≠a/\H2 a=O (.ext (XO xO a C (O dx)))/\H2 dx=O (.ext (XD dx fs))/\fs.length<900/\D.nx σ (upd H2 dx (.ext (XD dx (Zl f y fs)))))
section
variable{X:Cx}{o value:Uv}{f:Str}{pos pos':Pos}{ta tv:TE}{KC:Ut->xS->Prop}
theorem Ld(hcls:∀C bm,KC C bm->∃fI,XCls (model X.prog X.w) X.base C bm fI)(hf:∀C bm,KC C bm->KY (model X.prog X.w) C f xN X.base)(ha:PE X o ta)(hv:PE X value tv)
  (hs:swapsWith value (O (.Attribute o f pos')) pos.line X.env=pure xP):PS X (.Assign [.Attribute o f pos'] value pos) (PD KC ta tv f):=by
 intro pins s σ H D I h;refine plainObj_wpAny_Assign_Attribute (thn (hv pins s σ H _ I h) λu s1 ⟨y,H1,I1,ry,q⟩=>thn (ha pins s1 σ H1 _ I1 q) λov s2 ⟨x,H2,I2,rx,a,C,bm,ex,kc,q2⟩=>?_) hs;subst ex;obtain rfl:ov=Value.ref a:=rx;obtain⟨fI,XC⟩:=hcls C bm kc;obtain⟨nm,qn,N,bs,sn,sub,ab,col,dd1,k0,k1,k2,k3,k5,hC⟩:=XC.obj;obtain⟨hp,g,d,tk,os⟩:=s2;rcases q2 with ⟨hx,q2⟩|⟨dx,fs,hne,hx,vR,hl,q2⟩
 .obtain⟨⟨vs,sl,ga,z⟩,_,_⟩:=I2.hok a _ hx
  refine HZ (ns:=[]) PySem.F.store_ValueError XC.tail (XC.pass _) (I2.bk _ _ hC) (XC.sa.keeps I2.bk) ((hf C bm kc).keeps I2.bk) (XO.inst ga) (λh' tk' i' hk hsame hnew=>?_) PySem.Within.nil (by decide);obtain⟨o1,g1,c1,d1,wV,_⟩:=hsame _ ga;obtain⟨o2,g2,_,_,dd⟩:=i';rw[g1]at g2;cases g2;rcases dd with ⟨_,dn⟩|⟨dx,vR,hne,hns,hex⟩
  .have:=dn f;simp at this
  .have hz:=hnew _ _ dx ga xM g1 vR
   have o1e:o1 = {cls:=.ref C,dict:=O dx,data:=.fields vs,slots:=sl}:=by obtain⟨oc,od,odt,osl⟩:=o1;cases c1;cases d1;cases wV;cases vR;rfl
   have I3:=I2.xdict (t':=tk') (dx:=dx) (fs:=[(f,y)]) hx (λb ob hb gb=>hk b ob hb (λo₀ dx' e1 e2=>by rw[ga]at e1;cases e1;cases e2) gb) hz ⟨vs,sl,by rw[g1,o1e],z⟩
    ⟨_,hns,hex,λg=>?_,λg hg=>?_⟩
   .exact⟨σ,_,I3,q2 dx (I2.hok.fresh hz) hne⟩
   .show XJ ((Zl f y []).lookup g) (if g=f then O u else xN)
    rw[Nf];by_cases e:g=f
    .rw[Qq e,Qq e];exact ry
    .rw[Qw e,Qw e];trivial
   .show g∈[f]
    by_cases e:g=f
    .rw[e];simp
    .exact absurd (Qw e) hg
 .obtain⟨⟨vs,sl,ga,z⟩,_,_⟩:=I2.hok a _ hx
  obtain⟨⟨mA,hns,hex,hr,hwi⟩,_,_⟩:=I2.hok dx _ vR;refine HZ (ns:=fs.map (·.1)) PySem.F.store_ValueError XC.tail (XC.pass _) (I2.bk _ _ hC) (XC.sa.keeps I2.bk) ((hf C bm kc).keeps I2.bk) ⟨_,ga,rfl,λ_ z=>(by cases z),.inr ⟨dx,rfl,hne,hns,hex⟩⟩ (λh' tk' i' hk hsame hnew=>?_) hwi (by rw[Qb];omega);obtain⟨o1,g1,c1,d1,wV,dk⟩:=hsame _ ga;have hd1:=dk dx xM;obtain⟨o2,g2,_,_,dd⟩:=i';rw[g1]at g2;cases g2;rcases dd with ⟨dn,_⟩|⟨dx2,yi,hne2,w8,hex2⟩
  .rw[hd1]at dn;cases dn
  .rw[hd1]at yi
   cases yi;have o1e:o1 = {cls:=.ref C,dict:=O dx,data:=.fields vs,slots:=sl}:=by obtain⟨oc,od,odt,osl⟩:=o1;cases c1;cases d1;cases wV;cases hd1;rfl
   have I3:=I2.write (x:=dx) (e:=dx) (o:=.ext (XD dx (Zl f y fs))) (t':=tk') (h':=h') (by rw[vR];trivial) (.inl xM) (λb ob hb gb=>by
    by_cases hba:b=a
    .subst hba;rw[ga]at gb;cases gb;rw[g1,o1e]
    .exact hk b ob hba (λo₀ dx' e1 e2=>by rw[ga]at e1;cases e1;cases e2;exact hb) gb) (let ⟨o,_,_,q,_⟩:=w8;⟨o,q⟩) (XD.ok ⟨_,w8,hex2,λg=>?_,λg hg=>?_⟩)
   .exact⟨σ,_,I3,q2⟩
   .show XJ ((Zl f y fs).lookup g) (if g=f then O u else mA g)
    rw[Nf];by_cases e:g=f
    .rw[Qq e,Qq e];exact ry
    .rw[Qw e,Qw e];exact hr g
   .by_cases e:g=f
    .rw[e];exact(OK f y fs).1
    .refine(OK f y fs).2 g (hwi g λz=>hg ?_)
     show(if g=f then O u else mA g)=xN
     rw[Qw e];exact z
end
inductive FmtV:V->Str->Prop
 |str (x:Str) (h:x.length<=Uw):FmtV (.str x) x
 |int (i:Int) (h:i.natAbs.log2<1920):FmtV (.int i) (toString i:String)
 |non:FmtV .non "None"
noncomputable def V0(te:TE):TE:=λσ H Q=>te σ H λv H1=>∃y,FmtV v y/\Q (.str y) H1
noncomputable def Rm:List TE->Str->TE
 |[],acc=>λ_ H Q=>acc.length<=Uw/\Q (.str acc) H
 |te::r,acc=>λσ H Q=>te σ H λv H1=>∃y,v=.str y/\(acc++y).length<=Uw/\Rm r (acc++y) σ H1 Q
inductive PEs(X:Cx):xU->List TE->Prop
 |nil:PEs X [] []
 |cons {e:Uv} {es:xU} {t:TE} {ts:List TE}:PE X e t->PEs X es ts->PEs X (e::es) (t::ts)
section
variable{X:Cx}{value:Uv}{te:TE}{pos:Pos}
theorem Mh(h:PE X value te):PE X (.FormattedValue value (-1) xN pos) (V0 te):=by
 intro pins s σ H Q I hq;refine wpAny_FormattedValue_plain (thn (h pins s σ H _ I hq) λu s1 ⟨v,H1,I1,rv,y,hy,q⟩=>?_);cases hy with
 |str x hx=>
  obtain⟨t,rfl⟩:=(show ∃t,u=Value.str y t from rv)
  exact wpAny_formatField_str ⟨.str y,H1,I1,⟨_,rfl⟩,q⟩ ⟨.str y,H1,I1.tok _,⟨_,rfl⟩,q⟩ hx
 |int i hi=>
  obtain⟨t,rfl⟩:=(show ∃t,u=Value.int i t from rv)
  exact wpAny_formatField_int hi ⟨.str _,H1,I1.tok _,⟨_,rfl⟩,q⟩
 |non=>obtain rfl:u=Value.none:=rv;exact wpAny_formatField_none ⟨.str _,H1,I1.tok _,⟨_,rfl⟩,q⟩
theorem Ln{E:Uq->Ur->Prop}:∀{es:xU}{ts:List TE}{acc:Str}{pins:List (Ut×Obj)}{s:Ur}{σ:St}{H:Hp}{Q:VK},PEs X es ts->Inv X pins σ H s->Rm ts acc σ H Q ->
  Joins (model X.prog X.w) X.A X.xe (evalEach es X.env) acc (λout s1=>out.length<=Uw/\EP X pins σ Q (.str out s1.toks) {s1 with toks:=s1.toks+1}) s
 |_,_,acc,pins,s,σ,H,Q,.nil,I,⟨hl,q⟩=>⟨hl,.str acc,H,I.tok _,⟨_,rfl⟩,q⟩
 |_,_,acc,pins,s,σ,H,Q,.cons h r,I,hq=>thn (h pins s σ H _ I hq) λu s1 ⟨v,H1,I1,rv,y,ev,hl,q⟩=>by
  subst ev;obtain⟨t,rfl⟩:=(show ∃t,u=Value.str y t from rv)
  exact⟨y,t,rfl,hl,Ln (E:=E) r I1 q⟩
theorem jW{v1 v2:Uv}{rest:xU}{ts:List TE}(h:PEs X (v1::v2::rest) ts):PE X (.JoinedStr (v1::v2::rest) pos) (Rm ts Str.empty):=by intro pins s σ H Q I hq;exact wpAny_JoinedStr (Ln (E:=X.xe) h I hq)
end
noncomputable def FR(KC:Ut->xS->Prop)(ta:TE)(f:Str):TE:=λσ H Q=>ta σ H λx H1=>∃a C bm dx fs v fr,x=.ref a/\KC C bm/\H1 a=O (.ext (XO fr a C (O dx)))/\H1 dx=O (.ext (XD dx fs))/\fs.lookup f=O v/\Q v H1
theorem kg{v:V}{u:Uq}(r:RelV v u):handedOut u=pure u:=by
 cases v with
 |non=>obtain rfl:u=_:=r;rfl
 |bl b=>obtain rfl:u=_:=r;rfl
 |int i=>obtain⟨t,rfl⟩:∃t,u=_:=r;rfl
 |str x=>obtain⟨t,rfl⟩:∃t,u=_:=r;rfl
 |byt b=>obtain⟨t,rfl⟩:∃t,u=_:=r;rfl
 |flt b=>obtain⟨t,rfl⟩:∃t,u=_:=r;rfl
 |ref a=>obtain rfl:u=_:=r;rfl
 |ty n=>obtain rfl:u=_:=r;rfl
section
variable{X:Cx}{e:Uv}{f:Str}{pos:Pos}{ta:TE}{KC:Ut->xS->Prop}
theorem Bc(hcls:∀C bm,KC C bm->∃fI,XCls (model X.prog X.w) X.base C bm fI)(hf:∀C bm,KC C bm->KY (model X.prog X.w) C f xN X.base)(he:PE X e ta)(hb:attributeBase e f X.env (eval e X.env)=eval e X.env):PE X (.Attribute e f pos) (FR KC ta f):=by
 intro pins s σ H Q I h;refine CS hb (thn (he pins s σ H _ I h) λu s1 ⟨x,H1,I1,rx,a,C,bm,dx,fs,v,fr,ex,kc,hx,hd,hl,q⟩=>?_);subst ex;obtain rfl:u=Value.ref a:=rx;obtain⟨fI,XC⟩:=hcls C bm kc;obtain⟨nm,qn,N,bs,sn,sub,ab,col,dd1,k0,k1,k2,k3,k5,hC⟩:=XC.obj;obtain⟨⟨vs,sl,ga,_⟩,_,_⟩:=I1.hok a _ hx;obtain⟨⟨mA,hns,hex,hr,hwi⟩,_,_⟩:=I1.hok dx _ hd;have hne:dx≠a:=by rintro rfl;obtain⟨o,es,ep,g,d,_⟩:=hns;rw[ga]at g;cases g;cases d
 have hr':=hr f;rw[hl]at hr';cases hm:mA f with
 |none=>rw[hm]at hr';exact hr'.elim
 |some u=>rw[hm]at hr';have ru:RelV v u:=hr';obtain⟨hp,g,d,tk,os⟩:=s1;exact kj PySem.F.excAttr_ValueError XC.tail xM (I1.bk _ _ hC) (XC.ga.keeps I1.bk) (XC.gh.keeps I1.bk) ((hf C bm kc).keeps I1.bk) ⟨_,ga,rfl,λ_ z=>(by cases z),.inr ⟨dx,rfl,hne,hns,hex⟩⟩ hm (kg ru) ⟨v,H1,I1.tok _,ru,q⟩
end
end L2
namespace L2
open PySem PySem.Spec
section
variable{prog:Us}{w:World}{A:Around}{E:Uq->Ur->Prop}{h:Heap}{g:Array GenState}{d:Drawn}{t:Nat}{os:OsState}{R:Result->Ur->Prop}
variable{nm q:Str}{C N a:Ut}{bs bm bmB:xS}{hdct:Bool}{sn:List Str}{sub:xS}{ab:Bool}{col:vb}{dd:va}{k0 k1 k2 k3 k5:xV}{newId:String}{o:Obj}
theorem kf(T:Tail bmB bm)(ho:bmB.contains (.type "object")=xO)(hC:h.get? C=O (excClassObj nm q C N bs bm hdct sn sub ab col dd k0 k1 k2 k3 k5 newId))(hx:h.get? a=O o)(hc:o.cls=.ref C)(hq:R (.ok (.ret (.ref C))) ⟨h,g,d,t,os⟩) :
  codeAny (model prog w) A (.call (.builtin "getset_descriptor.__get__") ⟨[.builtin "object.__class__", .ref a,.ref C],[]⟩) R ⟨h,g,d,t,os⟩:=by
 have hT5:(⟨h,g,d,t,os⟩:Ur).TypeIs (.builtin "object.__class__") "getset_descriptor" :=PySem.F.typeOf_object_class;have vN:(Value.ref C::bm).contains (.type (".".intercalate ("object.__class__".cutAt '.').dropLast))=xO:=by rw[PySem.F.owner_object_class,Jb,T _ _ ho];rfl
 refine Jz PySem.F.slot_gs_get.plain PySem.F.entry_gs_get (PySem.F.slot_gs_get.check _ _ _ _ _ _ _ _ hT5 (PySem.F.args_gs_get _ _ _) ?_)
 repeat (any_goals (first|assumption|(with_reducible refine Qo hx ?_;rw[hc])|(with_reducible refine QR hC ?_;rw[vN])|wp_step))
 refine⟨Code.quiet_builtin _ (by decide +kernel),codeAny_builtin PySem.F.entry_object_class ?_⟩;unfold Builtin.«object.__class__»
 repeat (any_goals (first|assumption|(with_reducible refine Qo hx ?_;rw[hc])|wp_step))
theorem kW{tk:Tok}{Q:PySem.Fin->Ur->Prop}(T:Tail bmB bm)(ho:bmB.contains (.type "object")=xO)(hC:h.get? C=O (excClassObj nm q C N bs bm hdct sn sub ab col dd k0 k1 k2 k3 k5 newId))(fc:KY (model prog w) C "__class__" (O (.builtin "object.__class__")) h)(hx:h.get? a=O o)(hc:o.cls=.ref C)(hq:Q (.done (.ret (.ref C))) ⟨h,g,d,t,os⟩) :
  Ux (model prog w) A (Builtin.«object.__getattribute__» ⟨[.ref a,.str "__class__" tk],[]⟩) Q E ⟨h,g,d,t,os⟩:=by
 have hT5:(⟨h,g,d,t,os⟩:Ur).TypeIs (.builtin "object.__class__") "getset_descriptor" :=PySem.F.typeOf_object_class;have f5:=PySem.F.typeOf_object_class;have f6:=PySem.F.slot_gs_get.lookup;have f7:=PySem.F.slot_gs_set.lookup
 repeat (any_goals (first|assumption|(with_reducible refine Qo hx ?_;rw[hc])|with_reducible refine fc.at ?_|wp_step))
 refine kf T ho hC hx hc ?_
 repeat (any_goals (first|assumption|wp_step))
theorem HY{Q:xV->Ur->Prop}(FB:ExcAttrFacts "ValueError")(T:Tail VB bm)(hC:h.get? C=O (excClassObj nm q C N bs bm hdct sn sub ab col dd k0 k1 k2 k3 k5 newId))(fc:KY (model prog w) C "__class__" (O (.builtin "object.__class__")) h)
  (fg:KY (model prog w) C "__getattribute__" (O (.builtin "BaseException.__getattribute__")) h) (fa:KY (model prog w) C "__getattr__" none h) (hx:h.get? a=O o) (hc:o.cls=.ref C) (hq:Q (O (.ref C)) ⟨h,g,d,t+1,os⟩) :
  Ux (model prog w) A (getAttr? (.ref a) "__class__") Q E ⟨h,g,d,t,os⟩:=by
 have f3:=FB.ga.bind (.ref a);have hx0:(xP&&onTheHeap (Value.builtin "BaseException.__getattribute__"))=xP:=rfl;have hx2:(Value.builtin "BaseException.__getattribute__" == Value.builtin "object.__getattribute__")=xP:=by decide +kernel
 have hx1:(onTheHeap (Value.ref C)&&Value.builtin "BaseException.__getattribute__" == Value.builtin "object.__getattribute__")=xP:=by rw[hx2];rfl
 unfold getAttr? getAttrBy?;refine Qd (wpAny_mkText (Qd (wpAny_attempt ?_)))
 repeat (any_goals (first|assumption|(with_reducible refine Qo hx ?_;rw[hc])|with_reducible refine fg.at ?_|with_reducible refine fa.at ?_|wp_step))
 refine Jz FB.ga.plain PySem.F.entry_bexc_ga (LY T xM hC hx hc (kW T xM hC fc hx hc ?_))
 repeat (any_goals (first|assumption|wp_step))
end
end L2
namespace L2
open PySem PySem.Spec PyProof.Rows
section
variable{prog:Us}{w:World}{A:Around}{E:Uq->Ur->Prop}{h:Heap}{g:Array GenState}{d:Drawn}{t:Nat}{os:OsState}
variable{nm q wd q':Str}{C N D N' a:Ut}{bs bm bs' bm':xS}{hdct v6:Bool}{sn sn':List Str}{sub sub':xS}{ab wM:Bool}{col col':vb}{dd vJ:va}{k0 k1 k2 k3 k5 j0 j1 j2 j3 j5:xV}{newId newId':String}{o:Obj}{b:Bool}
theorem Bb{Q:Uq->Ur->Prop}(T:Tail VB bm)(hC:h.get? C=O (excClassObj nm q C N bs bm hdct sn sub ab col dd k0 k1 k2 k3 k5 newId))(hD:h.get? D=O (excClassObj wd q' D N' bs' bm' v6 sn' sub' wM col' vJ j0 j1 j2 j3 j5 newId'))
  (fc:KY (model prog w) C "__class__" (O (.builtin "object.__class__")) h) (fg:KY (model prog w) C "__getattribute__" (O (.builtin "BaseException.__getattribute__")) h) (fa:KY (model prog w) C "__getattr__" none h)
  (hx:h.get? a=O o) (hc:o.cls=.ref C) (hb:(Value.ref C::bm).contains (.ref D)=b) (hq:∀tk,Q (.bool b) ⟨h,g,d,tk,os⟩):Ux (model prog w) A (call (.builtin "isinstance") [.ref a,.ref D]) Q E ⟨h,g,d,t,os⟩:=by
 have hT:(⟨h,g,d,t,os⟩:Ur).TypeIs (.ref D) "type" :=⟨_,hD,rfl⟩
 have f2:=tc_sub;refine call_isinstance_of ?_ (λz=>nomatch z);unfold Builtin.«isinstance.nested»;refine Qd ?_;unfold typeOf;refine Qd (Qo hx (Qm ?_));rw[hc];by_cases e:C=D
 .subst e
  have hb1:b=xO:=by rw[←hb];simp
  subst hb1;rw[if_pos (by simp)];exact Qd (wpAny_rule (Qm (hq t)))
 .rw[if_neg (by simp[e])]
  refine Qd (Qd (Qo hD (Qm ?_)));rw[Qq (show(Value.type "type" == Value.type "type")=xO by decide)]
  k_delta "plainIsInstance"
  unfold isType isInstance
  repeat (first|(with_reducible refine Qo hx ?_;rw[hc])|with_reducible refine Qo hD ?_|with_reducible refine Qo hC ?_|(with_reducible refine QR hC ?_;rw[hb])|wp_step)
  cases b with
  |true=>wp_walk;exact hq t
  |false=>
   rw[Qw (by decide)];refine Qd (HY PySem.F.excAttr_ValueError T hC fc fg fa hx hc ?_)
   repeat (first|with_reducible refine Qo hC ?_|(with_reducible refine QR hC ?_;rw[hb])|wp_step)
   exact hq _
theorem DP{Q:Uq->Ur->Prop}{X:String}(T:Tail VB bm)(hC:h.get? C=O (excClassObj nm q C N bs bm hdct sn sub ab col dd k0 k1 k2 k3 k5 newId))(hX:typeOf (.type X)=pure (.type "type"))
  (fc:KY (model prog w) C "__class__" (O (.builtin "object.__class__")) h) (fg:KY (model prog w) C "__getattribute__" (O (.builtin "BaseException.__getattribute__")) h) (fa:KY (model prog w) C "__getattr__" none h)
  (hx:h.get? a=O o) (hc:o.cls=.ref C) (hb:(Value.ref C::bm).contains (.type X)=b) (hq:∀tk,Q (.bool b) ⟨h,g,d,tk,os⟩):Ux (model prog w) A (call (.builtin "isinstance") [.ref a,.type X]) Q E ⟨h,g,d,t,os⟩:=by
 refine call_isinstance_of ?_ (λz=>nomatch z);unfold Builtin.«isinstance.nested»;refine Qd ?_;have ty:∀{M:Model}{A:Around}{Q:Uq->Ur->Prop}{E:Uq->Ur->Prop},Q (.ref C) ⟨h,g,d,t,os⟩->Ux M A (typeOf (.ref a)) Q E ⟨h,g,d,t,os⟩:=λq=>by unfold typeOf;refine Qd (Qo hx (Qm ?_));rw[hc];exact q
 refine ty ?_;rw[if_neg (by simp)];refine Qd (wpAny_of_eq hX ?_);rw[Qq (show(Value.type "type" == Value.type "type")=xO by decide)]
 k_delta "plainIsInstance"
 unfold isType isInstance
 repeat (first|(with_reducible refine Qo hx ?_;rw[hc])|with_reducible refine Qo hC ?_|(with_reducible refine QR hC ?_;rw[hb])|wp_step)
 cases b with
 |true=>wp_walk;exact hq t
 |false=>
  rw[Qw (by decide)];refine Qd (HY PySem.F.excAttr_ValueError T hC fc fg fa hx hc ?_)
  repeat (first|with_reducible refine Qo hC ?_|(with_reducible refine QR hC ?_;rw[hb])|wp_step)
  exact hq _
end
noncomputable def rIsX(KC:Ut->xS->Prop):List V->Hp->VK->Prop:=λxs H Q=>∃a C dd bm fr c b,xs=[.ref a,c]/\KC C bm/\H a=O (.ext (XO fr a C dd)) /\
 ((∃D bm',c=.ref D/\KC D bm'/\(Value.ref C::bm).contains (.ref D)=b) ∨ ∃T,c=.ty T/\typeOf (.type T)=pure (.type "type")/\(Value.ref C::bm).contains (.type T)=b)/\Q (.bl b) H
theorem Oz{X:Cx}{KC:Ut->xS->Prop}(hcls:∀C bm,KC C bm->∃fI,XCls (model X.prog X.w) X.base C bm fI):ZS X (.builtin "isinstance") (rIsX KC):=by
 rintro pins s σ H xs us Q I r ⟨a,C,dd,bm,fr,c,b,rfl,kc,hx,hD,q⟩;cases r with
 |cons ra r=>
 cases r with
 |cons rc r=>
 cases r;have ra':_=Value.ref a:=ra;subst ra';obtain⟨fI,XC⟩:=hcls C bm kc;obtain⟨nm,qn,N,bs,sn,sub,ab,col,dd1,k0,k1,k2,k3,k5,hC⟩:=XC.obj;obtain⟨⟨vs,sl,ga,_⟩,_,_⟩:=I.hok a _ hx;obtain⟨hp,g,d,tk,os⟩:=s;rcases hD with ⟨D,bm',rfl,kd,hb⟩|⟨T,rfl,hT,hb⟩
 .have rc':_=Value.ref D:=rc
  subst rc';obtain⟨fI',XD'⟩:=hcls D bm' kd;obtain⟨wd,qn',N',bs',sn',sub',wM,col',dd2,j0,j1,j2,j3,j5,vw⟩:=XD'.obj;exact Bb XC.tail (I.bk _ _ hC) (I.bk _ _ vw) (XC.cl.keeps I.bk) (XC.ga.keeps I.bk) (XC.gh.keeps I.bk) ga xM hb λtk'=>⟨.bl b,H,I.tok tk',rfl,q⟩
 .have rc':_=Value.type T:=rc
  subst rc';exact DP XC.tail (I.bk _ _ hC) hT (XC.cl.keeps I.bk) (XC.ga.keeps I.bk) (XC.gh.keeps I.bk) ga xM hb λtk'=>⟨.bl b,H,I.tok tk',rfl,q⟩
theorem LX{CX:CXT}{P:Us}{w:World}{K:Frag}{mg:Str->xV}{base:Heap}{N:List Str}{qual:Str}{scope:Scope}{f:Ut}{cd:Uq}{A:Around}{outer:List Env}{s:Ur}{H:Hp}{E:XK} :
  PassesOwn (model P w) (K7 CX P w K mg base N qual scope f cd A outer s H E).A (K7 CX P w K mg base N qual scope f cd A outer s H E).env (K7 CX P w K mg base N qual scope f cd A outer s H E).xe:=
 PassesOwn.leaving (Q₁:=λe s''=>CX outer H s E e s'')
noncomputable def SE(KC:Ut->xS->Prop):Sp:=λvs H Q _=>∃a C dd bm x,vs=[.ref a,.str x]/\KC C bm/\H a=O (.ext (XO xO a C dd))/\Q .non H
noncomputable def P2(KC:Ut->xS->Prop)(fs:List Str):Sp:=λvs H Q _=>∃a C bm us,vs=.ref a::us/\us.length=fs.length/\KC C bm/\H a=O (.ext (XO xO a C xN))/\(∀u∈us,∃y,FmtV u y/\y.length<=4000) /\
 ∀dx,H dx=xN->dx≠a->Q .non (upd (upd H a (.ext (XO xO a C (O dx)))) dx (.ext (XD dx (fs.zip us))))
noncomputable def ZO(nm:Str):List Str:=if nm = "NoWishes" then ["part", "number"]else if nm = "NoAim" then ["part"]else if nm = "NoText" then ["row"]else []
noncomputable def Rl(K:Frag)(nm:Str):va:=match PySem.W.nsIn K mainGlobals nm with|some (O (.ref C))=>O C|_=>xN
def NmAt(K:Frag)(nm:Str)(C:Ut):Prop:=∃o cd,K.lookup C=O o/\o.data=.cls cd/\cd.name=nm
structure ClsK(K:Frag)(nm:Str)(C:Ut)(bm:xS):Prop where
 ad:Rl K nm=O C
 nmd:NmAt K nm C
 up:nm = "DealError" /\ bm=VB∨nm ≠ "DealError" /\ ∃D,Rl K "DealError" = O D/\bm=.ref D::VB/\NmAt K "DealError" D
 cls:∀(M:Model)(h:Heap),K.In h->∃fI,XCls M h C bm fI
 fld:∀(M:Model)(h:Heap),K.In h->∀f∈(["part", "number", "row"]:List Str),KY M C f xN h
noncomputable def KC(K:Frag):Ut->xS->Prop:=λC bm=>∃nm,ClsK K nm C bm
section
variable{K:Frag}{nm x:Str}{C D:Ut}{bm bm':xS}
theorem NmAt.ne(c:NmAt K nm C)(d:NmAt K x D)(h:x≠nm):C≠D:=λe=>by subst e;obtain⟨o,cd,h1,h2,h3⟩:=c;obtain⟨o',cd',g1,g2,g3⟩:=d;rw[h1]at g1;cases g1;rw[h2]at g2;cases g2;exact h (g3.symm.trans h3)
theorem ClsK.has(c:ClsK K nm C bm)(d:ClsK K x D bm'):(Value.ref C::bm).contains (.ref D)=(decide (x=nm) || decide (x = "DealError")):=by
 by_cases e:x=nm
 .subst e
  have:=c.ad.symm.trans d.ad;cases this;simp
 .have ne:=c.nmd.ne d.nmd e
  rw[QN e,Bool.false_or];have h0:(Value.ref D==Value.ref C)=xP:=by simp[Ne.symm ne]
  rw[Jb,h0,Bool.false_or];by_cases e2:x = "DealError"
  .subst e2
   rcases c.up with ⟨z,_⟩|⟨_,D',g,rfl,_⟩
   .exact absurd z.symm e
   .have:=g.symm.trans d.ad
    cases this;simp
  .rw[QN e2]
   rcases c.up with ⟨_,rfl⟩|⟨_,D',g,rfl,n⟩
   .rfl
   .have ne2:=n.ne d.nmd e2
    have h1:(Value.ref D==Value.ref D')=xP:=by simp[Ne.symm ne2]
    rw[Jb,h1,Bool.false_or];rfl
theorem ClsK.ty(c:ClsK K nm C bm)(T:String):(Value.ref C::bm).contains (.type T)=VB.contains (.type T):=by
 rcases c.up with ⟨_,rfl⟩|⟨_,D',g,rfl,n⟩
 .rfl
 .rfl
end
section
variable{X:Cx}{e:Uv}{st:Stmt}{sts:List Stmt}{t:TE}{ts:TS}
theorem PE.kin(h:X.K.In X.base->PE X e t):PE X e t:=λpins s σ H Q I q=>h I.ok.mod.kin pins s σ H Q I q
theorem PS.kin(h:X.K.In X.base->PS X st ts):PS X st ts:=λpins s σ H Q I q=>h I.ok.mod.kin pins s σ H Q I q
theorem PSs.kin(h:X.K.In X.base->PSs X sts ts):PSs X sts ts:=λpins s σ H Q I q=>h I.ok.mod.kin pins s σ H Q I q
theorem W2(k:X.K.In X.base):∀C bm,KC X.K C bm->∃fI,XCls (model X.prog X.w) X.base C bm fI:=λ_ _ ⟨_,c⟩=>c.cls _ _ k
end
def NM(nm:Str)(us:List V):Prop:=(ZO nm=[]/\∃x,us=[.str x])∨(ZO nm≠[]/\us.length=(ZO nm).length/\∀u∈us,∃y,FmtV u y/\y.length<=4000)
def NL(nm:Str)(C a:Ut)(us:List V)(H:Hp)(dd:va)(H':Hp):Prop:=
 (ZO nm=[]/\dd=xN/\H'=H)∨(ZO nm≠[]/\us.length=(ZO nm).length/\∃dx,dd=O dx/\H dx=xN/\dx≠a/\H'=upd (upd H a (.ext (XO xO a C (O dx)))) dx (.ext (XD dx ((ZO nm).zip us))))
def PU(K:Frag)(nm:Str)(C:Ut)(sp:Sp):Prop:=∀a us H Q,H a=O (.ext (XO xO a C xN))->NM nm us->(∀dd H',NL nm C a us H dd H'->Q .non H')->sp (.ref a::us) H Q E0
def MkX(P:Us)(w:World)(K:Frag)(mg:Str->xV)(base:Heap)(nm:Str)(k:Nat):Prop:=
 ∃C bm f fd ps sp,mg nm=O (.ref C)/\PySem.W.keepIn K (.ref C)=xO/\ClsK K nm C bm/\(∀(M:Model)(h:Heap),K.In h->XCls M h C bm f)/\FnOk P w K mg base CX0 k f fd ps sp/\Yl K fd ps []/\PU K nm C sp
theorem AR{K:Frag}{nm:Str}{C:Ut}{bm:xS}(c:ClsK K nm C bm)(hf:ZO nm=[]):PU K nm C (SE (KC K)):=λa us H Q h ar q=>by
 rcases ar with ⟨_,x,rfl⟩|⟨z,_⟩
 .exact⟨a,C,xN,bm,x,rfl,⟨nm,c⟩,h,q xN H (.inl ⟨hf,rfl,rfl⟩)⟩
 .exact absurd hf z
theorem AQ{K:Frag}{nm:Str}{C:Ut}{bm:xS}(c:ClsK K nm C bm)(hf:ZO nm≠[]):PU K nm C (P2 (KC K) (ZO nm)):=λa us H Q h ar q=>by
 rcases ar with ⟨z,_⟩|⟨_,hl,hu⟩
 .exact absurd z hf
 .exact⟨a,C,bm,us,rfl,hl,⟨nm,c⟩,h,hu,λdx hd hne=>q (O dx) _ (.inr ⟨hf,hl,dx,rfl,hd,hne,rfl⟩)⟩
end L2
namespace DL
open PySem PySem.Spec L2
open PyProof.Rows hiding St
abbrev D:=PyData
abbrev xQ:=List D
abbrev xT:=Option D
abbrev XW:=V->St->Hp->Prop
noncomputable abbrev KX0:XW:=λ_ _ _=>False
def XFs(G:Hp)(dd:va)(fs:List Str)(vs:List V):Prop:=match dd with
 |none=>fs=[]/\vs=[]
 |some dx=>fs.length=vs.length/\G dx=O (.ext (XD dx (fs.zip vs)))
theorem XFs.mono{G G1:Hp}{dd:va}{fs:List Str}{vs:List V}(e:Same G G1)(h:XFs G dd fs vs):XFs G1 dd fs vs:=by
 cases dd with
 |none=>exact h
 |some dx=>exact⟨h.1,e _ _ h.2⟩
noncomputable def kD:Key->D
 |.inl i=>.int i
 |.inr x=>.str x
noncomputable def tkD(k:List Key):D:=.tuple (k.map kD)
noncomputable def pdD(ks:List (List Key))(ds:xQ):List (D×D):=(.bool xO,.none)::(ks.map tkD).zip ds
mutual
inductive Rep(K:Frag)(G:Hp):V->D->Prop where
 |non:Rep K G .non .none
 |bl (b:Bool):Rep K G (.bl b) (.bool b)
 |int (i:Int):Rep K G (.int i) (.int i)
 |str (x:Str):Rep K G (.str x) (.str x)
 |lst {a:Ut} {vs:List V} {ds:xQ} (h:SqL K G a vs) (r:Reps K G vs ds):Rep K G (.ref a) (.list ds)
 |tup {a:Ut} {vs:List V} {ds:xQ} (h:SqT K G a vs) (r:Reps K G vs ds):Rep K G (.ref a) (.tuple ds)
 |dic {a:Ut} (h:G a=O (.dK [])):Rep K G (.ref a) (.dict [])
 |exc {a C:Ut} {dd:va} {bm:xS} {nm:Str} {vs:List V} {ds:xQ} (c:ClsK K nm C bm) (h:G a=O (.ext (XO xP a C dd))) (hd:XFs G dd (ZO nm) vs) (r:Reps K G vs ds):Rep K G (.ref a) (.dict [(.none,.tuple [.str nm,.list ds])])
 |dct {a:Ut} {ks:List Key} {vs:List V} {ds:xQ} {kvs:List (D×D)} (e:kvs=(ks.map kD).zip ds) (hne:ks≠[]) (hl:ks.length=ds.length) (h:G a=O (.dK (ks.zip vs))) (r:Reps K G vs ds):Rep K G (.ref a) (.dict kvs)
 |dtt {a:Ut} {o:Obj} {ks:List (List Key)} {vs:List V} {ds:xQ} {kvs:List (D×D)} (e:kvs=pdD ks ds) (hl:ks.length=ds.length) (h:G a=O (.frz o (.dT (ks.zip vs)))) (r:Reps K G vs ds):Rep K G (.ref a) (.dict kvs)
inductive Reps(K:Frag)(G:Hp):List V->xQ->Prop where
 |nil:Reps K G [] []
 |cons {v:V} {d:D} {vs:List V} {ds:xQ} (h:Rep K G v d) (t:Reps K G vs ds):Reps K G (v::vs) (d::ds)
end
variable{K:Frag}{B G0 G G1 G2 H H1 H2:Hp}
theorem YE{a:Ut}{xs:List V}(e:Same G G1)(h:SqT K G a xs):SqT K G1 a xs:=by
 rcases h with (h|⟨o,h⟩)|h
 .exact .inl (.inl (e _ _ h))
 .exact .inl (.inr ⟨o,e _ _ h⟩)
 .exact .inr h
theorem Rep.mono(e:Same G G1){v:V}{d:D}(r:Rep K G v d):Rep K G1 v d:=Rep.rec (motive_1:=λv d _=>Rep K G1 v d) (motive_2:=λvs ds _=>Reps K G1 vs ds) .non .bl .int .str (λh _ r=>.lst (e.seq h) r) (λh _ r=>.tup (YE e h) r) (λh=>.dic (e _ _ h)) (λc h hd _ r=>.exc c (e _ _ h) (hd.mono e) r) (λz n l h _ r=>.dct z n l (e _ _ h) r) (λz l h _ r=>.dtt z l (e _ _ h) r) .nil (λ_ _=>.cons) r
theorem Reps.mono(e:Same G G1){vs:List V}{ds:xQ}(r:Reps K G vs ds):Reps K G1 vs ds:=Reps.rec (motive_1:=λv d _=>Rep K G1 v d) (motive_2:=λvs ds _=>Reps K G1 vs ds) .non .bl .int .str (λh _ r=>.lst (e.seq h) r) (λh _ r=>.tup (YE e h) r) (λh=>.dic (e _ _ h)) (λc h hd _ r=>.exc c (e _ _ h) (hd.mono e) r) (λz n l h _ r=>.dct z n l (e _ _ h) r) (λz l h _ r=>.dtt z l (e _ _ h) r) .nil (λ_ _=>.cons) r
theorem jV{ks:List Key}{ds:xQ}{d:D}{r:List (D×D)}(e:(.none,d)::r=(ks.map kD).zip ds):False:=by
 cases ks with
 |nil=>cases e
 |cons k ks=>
  cases ds with
  |nil=>cases e
  |cons d ds=>
   rw[Qx,J6]at e;injection e with e1 _;injection e1 with e2 _
   cases k<;>cases e2
section
variable{v:V}{vs ws:List V}{ds es:xQ}
theorem Rep.bl_inv{b:Bool}(h:Rep K G v (.bool b)):v=.bl b:=by cases h;rfl
theorem Rep.int_inv{i:Int}(h:Rep K G v (.int i)):v=.int i:=by cases h;rfl
theorem Rep.str_inv{x:Str}(h:Rep K G v (.str x)):v=.str x:=by cases h;rfl
theorem Rep.lst_inv(h:Rep K G v (.list ds)):∃a vs,v=.ref a/\SqL K G a vs/\Reps K G vs ds:=by
 cases h with
 |lst h r=>exact⟨_,_,rfl,h,r⟩
theorem Rep.tup_inv(h:Rep K G v (.tuple ds)):∃a vs,v=.ref a/\SqT K G a vs/\Reps K G vs ds:=by
 cases h with
 |tup h r=>exact⟨_,_,rfl,h,r⟩
theorem Rep.exc_inv{d:D}(h:Rep K G v (.dict [(.none,d)])):∃a C dd bm nm vs ds,v=.ref a/\d=.tuple [.str nm,.list ds]/\ClsK K nm C bm/\G a=O (.ext (XO xP a C dd))/\XFs G dd (ZO nm) vs/\Reps K G vs ds:=by
 cases h with
 |exc c h hd r=>exact⟨_,_,_,_,_,_,_,rfl,rfl,c,h,hd,r⟩
 |dct e _ _ _ _=>exact(jV e).elim
 |dtt e _ _ _=>exact nomatch (Prod.mk.inj (List.cons.inj e).1).1
theorem Reps.length:∀{vs:List V}{ds:xQ},Reps K G vs ds->vs.length=ds.length
 |_,_,.nil=>rfl
 |_,_,.cons _ t=>by rw[Qs,Qs,Reps.length t]
theorem Reps.get:∀{vs:List V}{ds:xQ}{i:Nat}{d:D},Reps K G vs ds->ds[i]?=O d->∃v,vs[i]?=O v/\Rep K G v d
 |_,_,_,_,.nil,e=>by simp at e
 |_,_,0,_,.cons h _,e=>by simp at e;subst e;exact⟨_,rfl,h⟩
 |_,_,i+1,d,.cons _ t,e=>by obtain⟨u,h1,h2⟩:=Reps.get (i:=i) (d:=d) t (by simpa using e);exact⟨u,by simpa using h1,h2⟩
theorem Reps.append:∀{vs ws:List V}{ds es:xQ},Reps K G vs ds->Reps K G ws es->Reps K G (vs++ws) (ds++es)
 |_,_,_,_,.nil,s=>s
 |_,_,_,_,.cons r t,s=>.cons r (Reps.append t s)
theorem Reps.take:∀{vs:List V}{ds:xQ}(n:Nat),Reps K G vs ds->Reps K G (vs.take n) (ds.take n)
 |_,_,0,_=>by rw[Ua,Ua];exact .nil
 |_,_,_+1,.nil=>.nil
 |_,_,n+1,.cons r t=>.cons r (Reps.take n t)
theorem Reps.drop:∀{vs:List V}{ds:xQ}(n:Nat),Reps K G vs ds->Reps K G (vs.drop n) (ds.drop n)
 |_,_,0,r=>r
 |_,_,_+1,.nil=>.nil
 |_,_,n+1,.cons _ t=>Reps.drop n t
theorem Reps.reverse:∀{vs:List V}{ds:xQ},Reps K G vs ds->Reps K G vs.reverse ds.reverse
 |_,_,.nil=>.nil
 |_,_,.cons r t=>by rw[JV,JV];exact Reps.append (Reps.reverse t) (.cons r .nil)
theorem Reps.set{v:V}{d:D}(r:Rep K G v d):∀{vs:List V}{ds:xQ}(i:Nat),Reps K G vs ds->Reps K G (vs.set i v) (ds.set i d)
 |_,_,_,.nil=>.nil
 |_,_,0,.cons _ t=>.cons r t
 |_,_,i+1,.cons q t=>.cons q (Reps.set r i t)
theorem Reps.ints:∀(ns:xR),Reps K G (ns.map V.int) (ns.map int)
 |[]=>.nil
 |n::ns=>.cons (.int n) (Reps.ints ns)
end
inductive MO where
 |l (vs:List V)|k (kvs:List (Key×V))|t (kvs:List (List Key×V))|s (S:Int->Bool) (n:Nat)
noncomputable def MO.ho:MO->HO
 |.l vs=>.lst vs
 |.k kvs=>.dK kvs
 |.t kvs=>.dT kvs
 |.s S n=>.set S n
structure Ext(G H G' H':Hp):Prop where
 h:Same H H'
 g:Same G G'
 gh:Same G' H'
 np:∀a(u:MO),H a=O u.ho->G a=xN->G' a=xN
theorem Ext.refl(e:Same G H):Ext G H G H:=⟨.refl _,.refl _,e,λ_ _ _ q=>q⟩
theorem Ext.trans{G' H' G'' H'':Hp}(a:Ext G H G' H')(b:Ext G' H' G'' H''):Ext G H G'' H'':=
 ⟨a.h.trans b.h,a.g.trans b.g,b.gh,λx o e q=>b.np x o (a.h x _ e) (a.np x o e q)⟩
theorem Zd{p:Ut}{o:HO}(h:H p=xN):Same H (upd H p o):=λb u e=>by rw[Ki (Yo e h)];exact e
theorem Ext.new{p:Ut}{o:HO}(e:Same G H)(h:H p=xN):Ext G H (upd G p o) (upd H p o):=by
 have hg:G p=xN:=e.free h;refine⟨Zd h,Zd hg,λb u q=>?_,λa u q n=>?_⟩
 .by_cases z:b=p
  .subst z;rw[Ks]at q⊢;exact q
  .rw[Ki z]at q⊢;exact e b u q
 .rw[Ki (Yo q h)];exact n
theorem Ext.hid{p:Ut}{o:HO}(e:Same G H)(h:H p=xN):Ext G H G (upd H p o):=
 ⟨Zd h,.refl _,e.trans (Zd h),λ_ _ _ n=>n⟩
inductive Pat where
 |leaf|lst (p:Pat)|tup (ps:List Pat)|dic
mutual
inductive RepO(K:Frag)(G H:Hp):Pat->V->D->xW->Prop where
 |leaf {v:V} {d:D} (r:Rep K G v d):RepO K G H .leaf v d []
 |lst {p:Pat} {a:Ut} {vs:List V} {ds:xQ} {fp:xW} (h:H a=O (.lst vs)) (r:RepOl K G H p vs ds fp):RepO K G H (.lst p) (.ref a) (.list ds) (a::fp)
 |tup {ps:List Pat} {a:Ut} {vs:List V} {ds:xQ} {fp:xW} (h:H a=O (.tup vs)) (r:RepOs K G H ps vs ds fp):RepO K G H (.tup ps) (.ref a) (.tuple ds) fp
 |dic {a:Ut} {ks:List Key} {vs:List V} {ds:xQ} {kvs:List (D×D)} (e:kvs=(ks.map kD).zip ds) (hl:ks.length=ds.length) (h:H a=O (.dK (ks.zip vs))) (r:Reps K G vs ds):RepO K G H .dic (.ref a) (.dict kvs) [a]
inductive RepOl(K:Frag)(G H:Hp):Pat->List V->xQ->xW->Prop where
 |nil {p:Pat}:RepOl K G H p [] [] []
 |cons {p:Pat} {v:V} {d:D} {vs:List V} {ds:xQ} {f1 f2:xW} (h:RepO K G H p v d f1) (t:RepOl K G H p vs ds f2):RepOl K G H p (v::vs) (d::ds) (f1++f2)
inductive RepOs(K:Frag)(G H:Hp):List Pat->List V->xQ->xW->Prop where
 |nil:RepOs K G H [] [] [] []
 |cons {p:Pat} {ps:List Pat} {v:V} {d:D} {vs:List V} {ds:xQ} {f1 f2:xW} (h:RepO K G H p v d f1) (t:RepOs K G H ps vs ds f2):RepOs K G H (p::ps) (v::vs) (d::ds) (f1++f2)
end
def Yi(K:Frag)(G H:Hp)(M1:Pat->V->D->xW->Prop)(M2:Pat->List V->xQ->xW->Prop)(M3:List Pat->List V->xQ->xW->Prop):Prop:=
 (∀{p v d fp},RepO K G H p v d fp->M1 p v d fp)/\(∀{p vs ds fp},RepOl K G H p vs ds fp->M2 p vs ds fp)/\∀{ps vs ds fp},RepOs K G H ps vs ds fp->M3 ps vs ds fp
theorem RepO.ind3{M1:Pat->V->D->xW->Prop}{M2:Pat->List V->xQ->xW->Prop}{M3:List Pat->List V->xQ->xW->Prop}
  (c1:∀{v d},Rep K G v d->M1 .leaf v d []) (c2:∀{p a vs ds fp},H a=O (.lst vs)->M2 p vs ds fp->M1 (.lst p) (.ref a) (.list ds) (a::fp)) (c3:∀{ps a vs ds fp},H a=O (.tup vs)->M3 ps vs ds fp->M1 (.tup ps) (.ref a) (.tuple ds) fp)
  (c4:∀{a:Ut}{ks:List Key}{vs:List V}{ds:xQ}{kvs:List (D×D)},kvs=(ks.map kD).zip ds->ks.length=ds.length->H a=O (.dK (ks.zip vs))->Reps K G vs ds->M1 .dic (.ref a) (.dict kvs) [a])
  (c5:∀{p},M2 p [] [] []) (c6:∀{p v d vs ds f1 f2},M1 p v d f1->M2 p vs ds f2->M2 p (v::vs) (d::ds) (f1++f2)) (c7:M3 [] [] [] []) (c8:∀{p ps v d vs ds f1 f2},M1 p v d f1->M3 ps vs ds f2->M3 (p::ps) (v::vs) (d::ds) (f1++f2)) :
  Yi K G H M1 M2 M3:=
 ⟨λh=>RepO.rec (motive_1:=λp v d fp _=>M1 p v d fp) (motive_2:=λp v d fp _=>M2 p v d fp) (motive_3:=λp v d fp _=>M3 p v d fp) c1 (λh _=>c2 h) (λh _=>c3 h) c4 c5 (λ_ _=>c6) c7 (λ_ _=>c8) h,
  λh=>RepOl.rec (motive_1:=λp v d fp _=>M1 p v d fp) (motive_2:=λp v d fp _=>M2 p v d fp) (motive_3:=λp v d fp _=>M3 p v d fp) c1 (λh _=>c2 h) (λh _=>c3 h) c4 c5 (λ_ _=>c6) c7 (λ_ _=>c8) h,
  λh=>RepOs.rec (motive_1:=λp v d fp _=>M1 p v d fp) (motive_2:=λp v d fp _=>M2 p v d fp) (motive_3:=λp v d fp _=>M3 p v d fp) c1 (λh _=>c2 h) (λh _=>c3 h) c4 c5 (λ_ _=>c6) c7 (λ_ _=>c8) h⟩
theorem RepO.mono3(sg:Same G G1)(sh:Same H H1):Yi K G H (RepO K G1 H1) (RepOl K G1 H1) (RepOs K G1 H1):=
 RepO.ind3 (λr=>.leaf (r.mono sg)) (λh r=>.lst (sh _ _ h) r) (λh r=>.tup (sh _ _ h) r) (λe hl h r=>.dic e hl (sh _ _ h) (r.mono sg)) .nil .cons .nil .cons
theorem RepO.mono(sg:Same G G1)(sh:Same H H1){p:Pat}{v:V}{d:D}{fp:xW}(r:RepO K G H p v d fp):RepO K G1 H1 p v d fp:=(RepO.mono3 sg sh).1 r
theorem RepOl.mono(sg:Same G G1)(sh:Same H H1){p:Pat}{v:List V}{d:xQ}{fp:xW}(r:RepOl K G H p v d fp):RepOl K G1 H1 p v d fp:=(RepO.mono3 sg sh).2.1 r
theorem RepO.upd3{a:Ut}{o:HO}(nt:∀vs,H a≠O (.tup vs)):Yi K G H (λp v d fp=>a∉fp->RepO K G (upd H a o) p v d fp) (λp v d fp=>a∉fp->RepOl K G (upd H a o) p v d fp) (λp v d fp=>a∉fp->RepOs K G (upd H a o) p v d fp):=
 RepO.ind3
 (λr _=>.leaf r) (λh r n=>.lst (by rw[Ki (λz=>n (by rw[z];exact Qf))];exact h) (r λz=>n (Qh _ z))) (λh r n=>.tup (by rw[Ki (λz=>by subst z;exact nt _ h)];exact h) (r n))
 (λe hl h r n=>.dic e hl (by rw[Ki (λz=>n (by rw[z];exact Qf))];exact h) r) (λ_=>.nil) (λh t n=>.cons (h λz=>n (Qv _ z)) (t λz=>n (Qn _ z))) (λ_=>.nil) (λh t n=>.cons (h λz=>n (Qv _ z)) (t λz=>n (Qn _ z)))
theorem RepO.upd{a:Ut}{o:HO}(nt:∀vs,H a≠O (.tup vs)){p:Pat}{v:V}{d:D}{fp:xW}(r:RepO K G H p v d fp)(n:a∉fp):RepO K G (upd H a o) p v d fp:=(RepO.upd3 nt).1 r n
theorem RepOl.upd{a:Ut}{o:HO}(nt:∀vs,H a≠O (.tup vs)){p:Pat}{v:List V}{d:xQ}{fp:xW}(r:RepOl K G H p v d fp)(n:a∉fp):RepOl K G (upd H a o) p v d fp:=(RepO.upd3 nt).2.1 r n
theorem RepOs.upd{a:Ut}{o:HO}(nt:∀vs,H a≠O (.tup vs)){p:List Pat}{v:List V}{d:xQ}{fp:xW}(r:RepOs K G H p v d fp)(n:a∉fp):RepOs K G (upd H a o) p v d fp:=(RepO.upd3 nt).2.2 r n
theorem RepO.rep3(gh:Same G H):Yi K G H (λ_ v d _=>Rep K H v d) (λ_ v d _=>Reps K H v d) (λ_ v d _=>Reps K H v d):=
 RepO.ind3 (λr=>r.mono gh) (λh r=>.lst (SqL.of h) r) (λh r=>.tup (SqT.of h) r)
 (λ{a ks vs ds kvs} e hl h r=>by
  cases ks with
  |nil=>subst e;exact .dic h
  |cons k ks=>exact .dct e (λz=>by cases z) hl h (r.mono gh)) .nil .cons .nil .cons
theorem RepO.rep(gh:Same G H){p:Pat}{v:V}{d:D}{fp:xW}(r:RepO K G H p v d fp):Rep K H v d:=(RepO.rep3 gh).1 r
theorem RepO.isl3:Yi K G H (λ_ _ _ fp=>∀a∈fp,∃u:MO,H a=O u.ho) (λ_ _ _ fp=>∀a∈fp,∃u:MO,H a=O u.ho) (λ_ _ _ fp=>∀a∈fp,∃u:MO,H a=O u.ho):=
 RepO.ind3 (λ_ a m=>by cases m)
 (λh r b m=>(QC.mp m).elim (λe=>⟨.l _,e ▸ h⟩) (r b)) (λ_ r=>r) (λ_ _ h _ b m=>⟨.k _,QE.mp m ▸ h⟩) (λa m=>by cases m) (λh t b m=>(QO.mp m).elim (h b) (t b)) (λa m=>by cases m) (λh t b m=>(QO.mp m).elim (h b) (t b))
theorem RepO.isl{p:Pat}{v:V}{d:D}{fp:xW}(r:RepO K G H p v d fp):∀a∈fp,∃u:MO,H a=O u.ho:=RepO.isl3.1 r
theorem RepOl.isl{p:Pat}{v:List V}{d:xQ}{fp:xW}(r:RepOl K G H p v d fp):∀a∈fp,∃u:MO,H a=O u.ho:=RepO.isl3.2.1 r
theorem RepO.uniq3(sh:Same H H1):Yi K G H (λp v _ fp=>∀d' fp',RepO K G1 H1 p v d' fp'->fp=fp') (λp v _ fp=>∀d' fp',RepOl K G1 H1 p v d' fp'->fp=fp') (λp v _ fp=>∀d' fp',RepOs K G1 H1 p v d' fp'->fp=fp'):=
 RepO.ind3
 (λ_ d' fp' h=>by cases h;rfl)
 (λh r d' fp' h'=>by
  cases h' with
  |lst h2 r2=>have e:=sh _ _ h;rw[h2]at e;cases e;rw[r _ _ r2])
 (λh r d' fp' h'=>by
  cases h' with
  |tup h2 r2=>have e:=sh _ _ h;rw[h2]at e;cases e;exact r _ _ r2)
 (λ_ _ _ _ d' fp' h=>by cases h;rfl) (λd' fp' h=>by cases h;rfl)
 (λh t d' fp' h'=>by
  cases h' with
  |cons h2 t2=>rw[h _ _ h2,t _ _ t2])
 (λd' fp' h=>by cases h;rfl)
 (λh t d' fp' h'=>by
  cases h' with
  |cons h2 t2=>rw[h _ _ h2,t _ _ t2])
theorem RepO.uniq(sh:Same H H1){p:Pat}{v:V}{d d':D}{fp fp':xW}(r:RepO K G H p v d fp)(r':RepO K G1 H1 p v d' fp'):fp=fp':=(RepO.uniq3 sh).1 r _ _ r'
inductive Sl where
 |pub (d:D)|own (ds:xQ)|deep (p:Pat) (d:D)
abbrev UQ:=List (Option Sl)
abbrev xX:=Option UQ
def DpOk(K:Frag)(B G H:Hp)(σ:St)(ρ:UQ):Prop:=∃ω:Ut->Nat,
 (∀(i:Nat) p d,ρ[i]?=O (O (.deep p d))->∃v fp,σ[i]?=O (O v)/\RepO K G H p v d fp/\fp.Nodup/\∀a∈fp,B a=xN/\G a=xN/\ω a=i) /\
 (∀(i:Nat) ds a,ρ[i]?=O (O (.own ds))->σ[i]?=O (O (.ref a))->ω a=i)
theorem DpOk.of{σ:St}{ρ:UQ}(h1:∀(i:Nat) p d,ρ[i]?=O (O (.deep p d))->False)(h2:∀(i:Nat) ds,ρ[i]?=O (O (.own ds))->False):DpOk K B G H σ ρ:=
 ⟨λ_=>0,λi p d q=>(h1 i p d q).elim,λi ds a q=>(h2 i ds q).elim⟩
theorem DpOk.map{B1:Hp}{σ σ1:St}{ρ ρ1:UQ}(k:DpOk K B G H σ ρ)
  (h1:∀(i:Nat) p d,ρ1[i]?=O (O (.deep p d))->ρ[i]?=O (O (.deep p d))/\σ1[i]?=σ[i]?)
  (h2:∀(i:Nat) ds,ρ1[i]?=O (O (.own ds))->∃es,ρ[i]?=O (O (.own es))/\σ1[i]?=σ[i]?)
  (h3:∀(i:Nat) p d v fp,ρ[i]?=O (O (.deep p d))->σ[i]?=O (O v)->RepO K G H p v d fp->(∀a∈fp,B a=xN/\G a=xN)->(∀(j:Nat) ds a,ρ[j]?=O (O (.own ds))->σ[j]?=O (O (.ref a))->a∉fp)->RepO K G1 H1 p v d fp/\∀a∈fp,B1 a=xN/\G1 a=xN):DpOk K B1 G1 H1 σ1 ρ1:=by
 obtain⟨ω,k1,k2⟩:=k;refine⟨ω,λi p d q=>?_,λi ds a q s=>?_⟩
 .obtain⟨q1,e1⟩:=h1 i p d q
  obtain⟨v,fp,s,r,n,w⟩:=k1 i p d q1;obtain⟨r1,w1⟩:=h3 i p d v fp q1 s r (λa m=>⟨(w a m).1,(w a m).2.1⟩) λj ds a qj sj m=>by have z1:=k2 j ds a qj sj;have z2:=(w a m).2.2;rw[z1]at z2;subst z2;rw[q1]at qj;cases qj
  exact⟨v,fp,by rw[e1];exact s,r1,n,λa m=>⟨(w1 a m).1,(w1 a m).2,(w a m).2.2⟩⟩
 .obtain⟨es,q1,e1⟩:=h2 i ds q
  rw[e1]at s;exact k2 i es a q1 s
structure EOk(K:Frag)(B G0 G H:Hp)(σ:St)(ρ:UQ):Prop where
 bh:Same B H
 gh:Same G H
 g0:Same G0 G
 np:∀a(u:MO),B a=O u.ho->G0 a=xN->G a=xN
 len:ρ.length=σ.length
 pub:∀(i:Nat) d,ρ[i]?=O (O (.pub d))->∃v,σ[i]?=O (O v)/\Rep K G v d
 own:∀(i:Nat) ds,ρ[i]?=O (O (.own ds))->∃a vs,σ[i]?=O (O (.ref a))/\B a=xN/\G a=xN/\H a=O (.lst vs)/\Reps K G vs ds
 sep:∀(i j:Nat) a ds es,ρ[i]?=O (O (.own ds))->ρ[j]?=O (O (.own es))->σ[i]?=O (O (.ref a))->σ[j]?=O (O (.ref a))->i=j
 dp:DpOk K B G H σ ρ
theorem EOk.ext{G' H':Hp}{σ:St}{ρ:UQ}(k:EOk K B G0 G H σ ρ)(e:Ext G H G' H'):EOk K B G0 G' H' σ ρ where
 bh:=k.bh.trans e.h
 gh:=e.gh
 g0:=k.g0.trans e.g
 np:=λa o q n=>e.np a o (k.bh a _ q) (k.np a o q n)
 len:=k.len
 pub:=λi d q=>let ⟨v,h1,h2⟩:=k.pub i d q;⟨v,h1,h2.mono e.g⟩
 own:=λi ds q=>let ⟨a,vs,h1,h2,h3,h4,h5⟩:=k.own i ds q;⟨a,vs,h1,h2,e.np a (.l _) h4 h3,e.h a _ h4,h5.mono e.g⟩
 sep:=k.sep
 dp:=k.dp.map (λ_ _ _ q=>⟨q,rfl⟩) (λ_ ds q=>⟨ds,q,rfl⟩) λi p d v fp q s r w n=>⟨r.mono e.g e.h,λa m=>let ⟨_,hl⟩:=r.isl a m;⟨(w a m).1,e.np a _ hl (w a m).2⟩⟩
theorem EOk.publish{σ:St}{ρ:UQ}{i:Nat}{ds:xQ}(k:EOk K B G0 G H σ ρ)(h:ρ[i]?=O (O (.own ds))) :
  ∃a G',σ[i]?=O (O (.ref a))/\Same G G'/\Rep K G' (.ref a) (.list ds)/\EOk K B G0 G' H σ (ρ.set i (O (.pub (.list ds)))):=by
 obtain⟨a,vs,h1,h2,h3,h4,h5⟩:=k.own i ds h;have sg:Same G (upd G a (.lst vs)):=Zd h3;have hr:Rep K (upd G a (.lst vs)) (.ref a) (.list ds):=.lst (SqL.of Ks) (h5.mono sg);refine⟨a,upd G a (.lst vs),h1,sg,hr,⟨k.bh,λb u q=>?_,k.g0.trans sg,λb o q n=>?_,by rw[QU];exact k.len,λj d q=>?_,λj es q=>?_,λj l c es fs q1 q2 s1 s2=>?_,?_⟩⟩
 .by_cases z:b=a
  .subst z;rw[Ks]at q;cases q;exact h4
  .rw[Ki z]at q;exact k.gh b u q
 .have z:b≠a:=λz=>by subst z;rw[h2]at q;cases q
  rw[Ki z];exact k.np b o q n
 .by_cases z:i=j
  .subst z
   have hl:i<ρ.length:=(Ql.mp h).1;rw[QK hl]at q;cases q;exact⟨.ref a,h1,hr⟩
  .rw[Qj z]at q
   obtain⟨v,g1,g2⟩:=k.pub j d q;exact⟨v,g1,g2.mono sg⟩
 .by_cases z:i=j
  .subst z
   have hl:i<ρ.length:=(Ql.mp h).1;rw[QK hl]at q;cases q
  .rw[Qj z]at q
   obtain⟨b,ws,g1,g2,g3,g4,g5⟩:=k.own j es q;have zb:b≠a:=λe=>z (k.sep i j a ds es h q h1 (by rw[←e];exact g1))
   exact⟨b,ws,g1,g2,by rw[Ki zb];exact g3,g4,g5.mono sg⟩
 .have nz:∀{m:Nat}{ts:xQ},(ρ.set i (O (Sl.pub (.list ds))))[m]?=O (O (.own ts))->ρ[m]?=O (O (.own ts)):=λ{m ts} q=>by
   by_cases z:i=m
   .subst z
    have hl:i<ρ.length:=(Ql.mp h).1;rw[QK hl]at q;cases q
   .rw[Qj z]at q;exact q
  exact k.sep j l c es fs (nz q1) (nz q2) s1 s2
 .have hl:i<ρ.length:=(Ql.mp h).1
  have nz:∀{m:Nat}{s:Sl},(ρ.set i (O (Sl.pub (.list ds))))[m]?=O (O s)->(∃d,s=.pub d)∨ρ[m]?=O (O s):=λ{m s} q=>by
   by_cases z:i=m
   .subst z
    rw[QK hl]at q;cases q;exact .inl ⟨_,rfl⟩
   .rw[Qj z]at q;exact .inr q
  refine k.dp.map (λm p d q=>?_) (λm es q=>?_) λm p d v fp q s r w n=>⟨r.mono sg (.refl _),λb mb=>⟨(w b mb).1,?_⟩⟩
  .rcases nz q with ⟨_,e⟩|q
   .cases e
   .exact⟨q,rfl⟩
  .rcases nz q with ⟨_,e⟩|q
   .cases e
   .exact⟨es,q,rfl⟩
  .rw[Ki (λz=>by subst z;exact n i ds b h h1 mb)];exact(w b mb).2
inductive Res(α:Type) where
 |ok (a:α) (ρ:UQ)|bad
noncomputable abbrev M(α:Type):=UQ->Res α
noncomputable def UU{α:Type}(a:α):M α:=λρ=>.ok a ρ
noncomputable def U1{α:Type}(o:Option α):M α:=λρ=>match o with|some a=>.ok a ρ|none=>.bad
noncomputable def U2{α β:Type}(f:M α)(k:α->M β):M β:=λρ=>match f ρ with | .ok a ρ'=>k a ρ' | .bad=>.bad
section
variable(K:Frag)(B G0:Hp)
def aft{α γ:Type}(R:Hp->γ->α->Prop)(r:Res α)(G:Hp)(σ:St)(Q:γ->Hp->Prop):Prop:=
 match r with
 |.ok d ρ'=>∀v G' H',EOk K B G0 G' H' σ ρ'->Same G G'->R G' v d->Q v H'
 |.bad=>False
noncomputable def tM{α γ:Type}(R:Hp->γ->α->Prop)(f:M α):St->Hp->(γ->Hp->Prop)->Prop:=λσ H Q=>
 ∃G ρ,EOk K B G0 G H σ ρ/\aft K B G0 R (f ρ) G σ Q
noncomputable abbrev tD(f:M D):TE:=tM K B G0 (Rep K) f
noncomputable abbrev tDs(f:M xQ):TA:=tM K B G0 (Reps K) f
noncomputable abbrev tBo(f:M Bool):TT:=tM K B G0 (λ_ b c=>b=c) f
noncomputable abbrev tOi(f:M xZ):TO:=tM K B G0 (λ_ b c=>b=c) f
end
section
variable{K:Frag}{B G0:Hp}{α β γ δ ε:Type}{R:Hp->γ->α->Prop}{S:Hp->δ->β->Prop}{T:Hp->ε->α->Prop}{σ:St}{H:Hp}
theorem aft.mono{r:Res α}{G G':Hp}{Q:γ->Hp->Prop}(e:Same G G')(h:aft K B G0 R r G σ Q):aft K B G0 R r G' σ Q:=by
 cases r with
 |ok d ρ=>exact λv G2 H2 k s q=>h v G2 H2 k (e.trans s) q
 |bad=>exact h
theorem aft.done{d:α}{ρ:UQ}{G G' H H':Hp}{v:γ}{Q:γ->Hp->Prop}(h:aft K B G0 R (.ok d ρ) G σ Q)(k:EOk K B G0 G H σ ρ)(e:Ext G H G' H')(r:R G' v d):Q v H':=
 h v G' H' (k.ext e) e.g r
theorem aft.now{d:α}{ρ:UQ}{G H:Hp}{v:γ}{Q:γ->Hp->Prop}(h:aft K B G0 R (.ok d ρ) G σ Q)(k:EOk K B G0 G H σ ρ)(r:R G v d):Q v H:=
 h v G H k (.refl _) r
theorem aft.opt{o:Option α}{ρ:UQ}{G:Hp}{Q:γ->Hp->Prop}(h:aft K B G0 R (U1 o ρ) G σ Q):∃d,o=O d/\aft K B G0 R (.ok d ρ) G σ Q:=by
 cases o with
 |none=>exact h.elim
 |some d=>exact⟨d,rfl,h⟩
theorem tM.bind{f:M α}{k:α->M β}{Q:δ->Hp->Prop}(h:tM K B G0 S (U2 f k) σ H Q) :
  tM K B G0 R f σ H (λv H1=>∃G ρ d,EOk K B G0 G H1 σ ρ/\R G v d/\aft K B G0 S (k d ρ) G σ Q):=by
 obtain⟨G,ρ,e,a⟩:=h;refine⟨G,ρ,e,?_⟩;unfold U2 at a;cases q:f ρ with
 |bad=>rw[q]at a;exact a.elim
 |ok d ρ1=>rw[q]at a;exact λv G' H' e' s r=>⟨G',ρ1,d,e',r,aft.mono s a⟩
theorem tM.bind2{α' γ':Type}{R':Hp->γ'->α'->Prop}{f:M α}{g:α->M α'}{k:α->α'->M β}{Q:δ->Hp->Prop}(mo:∀G G' v d,Same G G'->R G v d->R G' v d)
  (h:tM K B G0 S (U2 f λx=>U2 (g x) λy=>k x y) σ H Q) :
  tM K B G0 R f σ H (λv H1=>∃x,tM K B G0 R' (g x) σ H1 λu H2=>∃G ρ y,EOk K B G0 G H2 σ ρ/\R G v x/\R' G u y/\aft K B G0 S (k x y ρ) G σ Q):=by
 obtain⟨G,ρ,e,a⟩:=tM.bind (R:=R) h;refine⟨G,ρ,e,?_⟩;cases q:f ρ with
 |bad=>rw[q]at a;exact a.elim
 |ok d ρ1=>
  rw[q]at a;intro v G' H' e' s r;obtain⟨G2,ρ2,d2,e2,r2,a2⟩:=a v G' H' e' s r;refine⟨d2,G2,ρ2,e2,?_⟩;unfold U2 at a2;cases q2:g d2 ρ2 with
  |bad=>rw[q2]at a2;exact a2.elim
  |ok d3 ρ3=>rw[q2]at a2;exact λu G3 H3 e3 s3 r3=>⟨G3,ρ3,d3,e3,mo _ _ _ _ s3 r2,r3,aft.mono s3 a2⟩
end
theorem MU{K:Frag}(G G':Hp)(v:V)(d:D)(e:Same G G')(r:Rep K G v d):Rep K G' v d:=r.mono e
theorem tM.two{K:Frag}{B G0:Hp}{β δ:Type}{S:Hp->δ->β->Prop}{σ:St}{H:Hp}{f g:M D}{k:D->D->M β}{Q:δ->Hp->Prop}{P:V->V->Hp->Prop}
  (h:tM K B G0 S (U2 f λx=>U2 g λy=>k x y) σ H Q)
  (i:∀v u H2 G ρ x y,EOk K B G0 G H2 σ ρ->Rep K G v x->Rep K G u y->aft K B G0 S (k x y ρ) G σ Q->P v u H2) :
  tD K B G0 f σ H (λv H1=>tD K B G0 g σ H1 λu H2=>P v u H2):=by
 obtain⟨G,ρ,e,a⟩:=tM.bind2 (R:=Rep K) (R':=Rep K) MU h;refine⟨G,ρ,e,?_⟩;cases q:f ρ with
 |bad=>rw[q]at a;exact a.elim
 |ok d ρ1=>
  rw[q]at a;intro v G' H' e' s r;obtain⟨x,G2,ρ2,e2,a2⟩:=a v G' H' e' s r;refine⟨G2,ρ2,e2,?_⟩;cases q2:g ρ2 with
  |bad=>rw[q2]at a2;exact a2.elim
  |ok d3 ρ3=>rw[q2]at a2;intro u G3 H3 e3 s3 r3;obtain⟨G4,ρ4,y,e4,r4,r5,a5⟩:=a2 u G3 H3 e3 s3 r3;exact i v u H3 G4 ρ4 x y e4 r4 r5 a5
theorem tM.one{K:Frag}{B G0:Hp}{α β γ δ:Type}{R:Hp->γ->α->Prop}{S:Hp->δ->β->Prop}{σ:St}{H:Hp}{f:M α}{k:α->M β}{Q:δ->Hp->Prop}{P:γ->Hp->Prop}
  (h:tM K B G0 S (U2 f k) σ H Q) (i:∀v H2 G ρ x,EOk K B G0 G H2 σ ρ->R G v x->aft K B G0 S (k x ρ) G σ Q->P v H2):tM K B G0 R f σ H P:=by
 obtain⟨G,ρ,e,a⟩:=tM.bind (R:=R) h;refine⟨G,ρ,e,?_⟩;cases q:f ρ with
 |bad=>rw[q]at a;exact a.elim
 |ok d ρ1=>rw[q]at a;intro v G' H' e' s r;obtain⟨G2,ρ2,d2,e2,r2,a2⟩:=a v G' H' e' s r;exact i v H' G2 ρ2 d2 e2 r2 a2
section
variable{X:Cx}{B G0:Hp}{e a b:Uv}{pos:Pos}
theorem Kb{t t':TE}(h:PE X e t)(i:∀σ H Q,t' σ H Q->t σ H Q):PE X e t':=λpins s σ H Q I q=>h pins s σ H Q I (i σ H Q q)
theorem Yc{t t':TT}(h:PT X e t)(i:∀σ H Q,t' σ H Q->t σ H Q):PT X e t':=λpins s σ H Q I q=>h pins s σ H Q I (i σ H Q q)
theorem paof{es:xU}{t t':TA}(h:PA X es t)(i:∀σ H Q,t' σ H Q->t σ H Q):PA X es t':=λps pins s σ H Q I q=>h ps pins s σ H Q I (i σ H Q q)
theorem poof{eo:Option Uv}{t t':TO}(h:PO X eo t)(i:∀σ H Q,t' σ H Q->t σ H Q):PO X eo t':=λpins s σ H Q I q=>h pins s σ H Q I (i σ H Q q)
theorem KO{st:Stmt}{t t':TS}(h:PS X st t)(i:∀D σ H,t' D σ H->t D σ H):PS X st t':=λpins s σ H D I q=>h pins s σ H D I (i D σ H q)
theorem W1{st:List Stmt}{t t':TS}(h:PSs X st t)(i:∀D σ H,t' D σ H->t D σ H):PSs X st t':=λpins s σ H D I q=>h pins s σ H D I (i D σ H q)
noncomputable def UP(i:Nat):M D:=λρ=>match ρ[i]? with
 |some (O (.pub d))=>.ok d ρ
 |some (O (.own ds))=>.ok (.list ds) (ρ.set i (O (.pub (.list ds))))
 |_=>.bad
theorem YG{i:Nat}(h:PE X e (Kl i)):PE X e (tD X.K B G0 (UP i)):=Kb h λσ H Q ⟨G,ρ,k,a⟩=>by
 unfold UP at a;cases q:ρ[i]? with
 |none=>rw[q]at a;exact a.elim
 |some o=>
  cases o with
  |none=>rw[q]at a;exact a.elim
  |some sl=>
   cases sl with
   |deep _ _=>rw[q]at a;exact a.elim
   |pub d=>rw[q]at a;obtain⟨v,h1,h2⟩:=k.pub i d q;exact⟨v,h1,a.now k h2⟩
   |own ds=>rw[q]at a;obtain⟨ad,G',h1,h2,h3,h4⟩:=k.publish q;exact⟨.ref ad,h1,a (.ref ad) G' H h4 h2 h3⟩
theorem Rz{v:V}{d:D}(h:PE X e (tC v))(r:∀G,Rep X.K G v d):PE X e (tD X.K B G0 (UU d)):=Kb h λσ H Q ⟨G,ρ,k,a⟩=>a.now k (r G)
theorem Ry{i:Int}{j}:PE X (.Constant (.int i) j pos) (tD X.K B G0 (UU (.int i))):=Rz Wq λ_=>.int i
theorem Ba{i:Bool}{j}:PE X (.Constant (.bool i) j pos) (tD X.K B G0 (UU (.bool i))):=Rz Fg λ_=>.bl i
theorem RN{j}:PE X (.Constant .none j pos) (tD X.K B G0 (UU .none)):=Rz E2 λ_=>.non
theorem DO{x:Str}{j}:PE X (.Constant (.str x) j pos) (tD X.K B G0 (UU (.str x))):=Rz PQ λ_=>.str x
noncomputable def UY{β:Type}(op:D->D->Option β)(f g:M D):M β:=U2 f λx=>U2 g λy=>U1 (op x y)
def OpD(X:Cx)(f:Uq->Uq->Sem Uq)(op:D->D->xT):Prop:=
 ∃r:R2,OpR X f r/\∀v u G H x y d Q,Same G H->Rep X.K G v x->Rep X.K G u y->op x y=O d->(∀w G' H',Ext G H G' H'->Rep X.K G' w d->Q w H')->r v u H Q
theorem Vp{op:Operator}{p:D->D->xT}{f g:M D}(o:OpD X (binaryOp op) p)(ha:PE X a (tD X.K B G0 f))(hb:PE X b (tD X.K B G0 g)):PE X (.BinOp a op b pos) (tD X.K B G0 (UY p f g)):=by
 obtain⟨r,h,i⟩:=o;refine Kb (Pz h ha hb) λσ H Q q=>?_;refine tM.two q λv u H2 G ρ x y k rx ry a=>?_
 obtain⟨d,e,a⟩:=a.opt;exact i v u G H2 x y d Q k.gh rx ry e λw G' H' ex rw=>a.done k ex rw
theorem OpD.or{f:Uq->Uq->Sem Uq}{p q:D->D->xT}(h:OpD X f p)(h':OpD X f q):OpD X f (λx y=>(p x y).orElse λ_=>q x y):=by
 obtain⟨r,h1,i1⟩:=h;obtain⟨r',h2,i2⟩:=h';refine⟨_,h1.or h2,λv u G H x y d Q s rx ry e k=>?_⟩;dsimp only at e;cases z:p x y with
 |some d'=>rw[z]at e;have e':d'=d:=Je e;subst e';exact .inl (i1 v u G H x y d' Q s rx ry z k)
 |none=>rw[z]at e;exact .inr (i2 v u G H x y d Q s rx ry e k)
noncomputable def oII(g:Int->Int->xT):D->D->xT
 |.int i,.int j=>g i j
 |_,_=>xN
theorem MT{g:Int->Int->xT}{x y d:D}(e:oII g x y=O d):∃i j,x=.int i/\y=.int j/\g i j=O d:=by
 unfold oII at e;split at e
 .exact⟨_,_,rfl,rfl,e⟩
 .cases e
theorem OpD.int{f:Uq->Uq->Sem Uq}{C:Int->Int->Prop}{g:Int->Int->V}{p:Int->Int->xT}(h:OpR X f (rI C g))(i:∀i j d,p i j=O d->C i j/\∀G,Rep X.K G (g i j) d):OpD X f (oII p):=by refine⟨_,h,λv u G H x y d Q s rx ry e k=>?_⟩;obtain⟨a,b,rfl,rfl,e⟩:=MT e;obtain⟨c,r⟩:=i a b d e;exact⟨a,b,rx.int_inv,ry.int_inv,c,k _ G H (.refl s) (r G)⟩
theorem OpD.int0{f:Uq->Uq->Sem Uq}{g:Int->Int->V}{p:Int->Int->D}(h:OpR X f (rI0 g))(i:∀i j G,Rep X.K G (g i j) (p i j)):OpD X f (oII λi j=>O (p i j)):=by refine⟨_,h,λv u G H x y d Q s rx ry e k=>?_⟩;obtain⟨a,b,rfl,rfl,e⟩:=MT e;cases e;exact⟨a,b,rx.int_inv,ry.int_inv,k _ G H (.refl s) (i a b G)⟩
end
section
variable{X:Cx}{B G0:Hp}{e a b c:Uv}{pos:Pos}
theorem DN:OpD X (binaryOp .Add) (oII λi j=>O (.int (i+j))):=.int0 DA λ_ _ _=>.int _
theorem DM:OpD X (binaryOp .Sub) (oII λi j=>O (.int (i-j))):=.int0 Dz λ_ _ _=>.int _
noncomputable def XG(i j:Int):xT:=if(-(2 ^ 64)<i/\i<2 ^ 64)∨(-(2 ^ 64)<j/\j<2 ^ 64)then O (.int (i*j))else xN
theorem C9:OpD X (binaryOp .Mult) (oII XG):=.int Dy λi j d h=>by
 unfold XG at h;split at h
 .rename_i c
  cases h;exact⟨c,λ_=>.int _⟩
 .cases h
noncomputable def WH(i j:Int):xT:=if 0<j then O (.int (i % j))else xN
theorem DK:OpD X (binaryOp .Mod) (oII WH):=.int Dx λi j d h=>by
 unfold WH at h;split at h
 .rename_i c
  cases h;exact⟨c,λ_=>.int _⟩
 .cases h
theorem AO:OpR X (binaryOp .FloorDiv) (rI (λi j=>0<j/\j<2 ^ 200) λi j=>.int (i / j)):=opI λi j _ _ _ _ _ hc q=>by
 have h1:(0:Int)<j:=hc.1;have h2:j<2 ^ 200:=hc.2;refine floordiv_int (by lia) (by rw[Int.fdiv_eq_ediv_of_nonneg i (by lia)];exact q) (.inl (PyProof.noPylong_of_log2 ?_));have h0:j.natAbs≠0:=by lia
 have:j.natAbs.log2<200:=(Nat.log2_lt h0).mpr (by lia)
 lia
noncomputable def WI(i j:Int):xT:=if 0<j/\j<2 ^ 200 then O (.int (i / j))else xN
theorem Ew:OpD X (binaryOp .FloorDiv) (oII WI):=.int AO λi j d h=>by
 unfold WI at h;split at h
 .rename_i c
  cases h;exact⟨c,λ_=>.int _⟩
 .cases h
noncomputable def WG(i j:Int):xT:=if 0<=j/\j<=1000000/\i.natAbs<2 ^ 64 then O (.int (i ^ j.toNat))else xN
theorem Ev:OpD X (binaryOp .Pow) (oII WG):=.int Dw λi j d h=>by
 unfold WG at h;split at h
 .rename_i c
  cases h;exact⟨c,λ_=>.int _⟩
 .cases h
theorem lim:(1000000:Nat)<=Uw:=by decide
noncomputable def Rk:D->D->xT
 |.str x,.str y=>if x.length+y.length<=1000000 then O (.str (x++y))else xN
 |_,_=>xN
theorem C8:OpD X (binaryOp .Add) Rk:=by
 refine⟨_,j7,λv u G H x y d Q s rx ry e k=>?_⟩;unfold Rk at e;split at e
 .split at e
  .rename_i c
   cases e;exact⟨_,_,rx.str_inv,ry.str_inv,Qt c lim,k _ G H (.refl s) (.str _)⟩
  .cases e
 .cases e
noncomputable def FQ(K:Frag):R2:=λx y H Q=>∃l b xs zs,x=.ref l/\y=.ref b/\SqL K H l xs/\SqL K H b zs/\xs.length+zs.length<=Uw/\∀p,H p=xN->Q (.ref p) (upd H p (.lst (xs++zs)))
theorem MS:OpR X (binaryOp .Add) (FQ X.K):=by
 intro pins s σ H x y v u Q I rx ry h;obtain⟨l,b,xs,zs,rfl,rfl,hH,hB,hz,q⟩:=h;cases rx;cases ry;obtain⟨its,r,⟨⟨c1,d1,t1,s1⟩,n1,e1,yo,yn,ym⟩,z1⟩:=I.list hH;obtain⟨its2,r2,⟨⟨c2,d2,t2,s2⟩,n2,e2,ec2,ed2,et2⟩,z2⟩:=I.list hB;simp only at yo yn ym ec2 ed2 et2;subst yo yn ym ec2 ed2 et2;have hl:=r.length;have hl2:=r2.length;refine concat_meets ⟨_,e1,rfl⟩ ⟨_,e2,rfl⟩ noFill_list_add seq_list_add PySem.F.slot_list_add PySem.F.entry_list_add (PySem.F.args_list_add_2 _ _) (list_addW l b its.toArray its2.toArray n1 n2 xN xN s1 s2 (by rw[QQ,QQ];lia)) ⟨e1,e2,?_⟩;have ea:its.toArray++its2.toArray=(its++its2).toArray:=by simp
 rw[ea];exact⟨.ref _,_,I.lnew (t':=s.toks) (r.append r2) (by rw[Qk];lia),rfl,q _ I.fresh⟩
theorem FP(a:Int)(t:Tok)(l:Ut)(items:Array Uq)(n:Nat)(sl:Array xV) :
  Meets (Builtin.«int.__rmul__» ⟨[.int a t,.ref l],[]⟩) (λ_ R s=>s.heap.get? l=O {cls:=.type "list", dict:=xN,data:=.seq items n,slots:=sl}/\R (.ok (.ret Value.notImplemented)) s):=
 .of_wp λprog w A R s h=>by obtain⟨hp,g,d,tk,os⟩:=s;obtain⟨hl,h⟩:=h;wp_walk;exact⟨_,rfl,h⟩
theorem mulW(l:Ut)(items:Array Uq)(n:Nat)(x:Int)(u:Tok)(sl:Array xV)(hc0:¬(!Builtin.List.listFitsIndex x)=xO)(hc1:¬items.size*x.toNat > (2 ^ 63-1) / 8)(hc2:¬Builtin.List.listTooLong (items.size*x.toNat)=xO) :
  Meets (Builtin.«list.__mul__» ⟨[.ref l,.int x u],[]⟩) (λ_ R s=>s.heap.get? l=O {cls:=.type "list", dict:=xN,data:=.seq items n,slots:=sl}/\R (.ok (.ret (Value.ref s.heap.objs.size))) {s with heap:=s.heap.push {cls:=Value.type "list", data:=Data.seq (List.foldl (λx1 x2=>x1++x2) #[] (UB (if items.isEmpty=xO then 0 else x.toNat) items))},toks:=s.toks}):=
 .of_wp λprog w A R s h=>by
  obtain⟨hp,g,d,tk,os⟩:=s;obtain⟨hl,h⟩:=h;have hsz:=AutoListH.joined_fits hc2
  wp_walk;refine wpAny_ite_false (QN (Nat.not_lt.mpr hsz)) ?_;wp_walk;exact⟨_,rfl,h⟩
noncomputable def FO(K:Frag):R2:=λx y H Q=>∃l k xs,x=.ref l/\y=.int k/\SqL K H l xs /\ -(2 ^ 63)<=k/\k<2 ^ 63/\xs.length*k.toNat<=Uw /\
 ∀p,H p=xN->Q (.ref p) (upd H p (.lst (UB k.toNat xs).flatten))
theorem MR:OpR X (binaryOp .Mult) (FO X.K):=by
 intro pins s σ H x y v u Q I rx ry h;obtain⟨l,k,xs,rfl,rfl,hH,h1,h2,hz,q⟩:=h;cases rx;obtain⟨t,rfl⟩:=ry;obtain⟨its,r,⟨⟨c1,d1,t1,sl⟩,n,e,yo,yn,ym⟩,z⟩:=I.list hH;simp only at yo yn ym;subst yo yn ym;have hl:=r.length;have hlen:its.toArray.size*k.toNat<=Uw:=by rw[QQ,←hl];exact hz
 have hcap:¬its.toArray.size*k.toNat > (2 ^ 63-1) / 8:=by
  have:(Uw:Nat)<=(2 ^ 63-1) / 8:=by decide
  lia
 have hfit:¬(!Builtin.List.listFitsIndex k)=xO:=by rw[fitsIndex_both h1 h2];exact Bool.false_ne_true
 have yb:¬Builtin.List.listTooLong (its.toArray.size*k.toNat)=xO:=by rw[Ao hlen];exact Bool.false_ne_true
 have hnew:List.foldl (λx1 x2=>x1++x2) #[] (UB (if its.toArray.isEmpty=xO then 0 else k.toNat) its.toArray)=(UB k.toNat its).flatten.toArray:=by
  have f0:∀m:Nat,List.foldl (λx1 x2=>x1++x2) #[] (UB m its.toArray)=(UB m its).flatten.toArray:=λm=>by have:=LZ its m [];rw[Jk]at this;exact this
  rw[f0];cases its with
  |nil=>simp
  |cons a r'=>rw[if_neg (by simp)]
 refine wpAny_binaryOp_repeat_ref (T:= "list") (U:= "int") (by decide) ⟨_,e,rfl⟩ (λs'=>typeIs_int s' k t) noFill_list_mul F.fills_int_mul F.slot_int_rmul repeat_list F.slot_int_index.lookup
  (call_meets F.slot_int_rmul (typeIs_int s k t) F.entry_int_rmul (F.args_int_rmul_2 _ _) (FP k t l its.toArray n sl)
   ⟨e,rfl,⟨_,e,rfl⟩,call_meets F.slot_list_mul ⟨_,e,rfl⟩ F.entry_list_mul (F.args_list_mul_2 _ _) (mulW l its.toArray n k t sl hfit hcap yb) ⟨e,?_⟩⟩)
 rw[hnew];exact⟨.ref _,_,I.lnew (t':=s.toks) (r.rep k.toNat) (by rw[Bh,Nat.mul_comm];exact hz),rfl,q _ I.fresh⟩
noncomputable def Rj:D->D->xT
 |.list x,.list y=>if x.length+y.length<=1000000 then O (.list (x++y))else xN
 |_,_=>xN
theorem C7:OpD X (binaryOp .Add) Rj:=by
 refine⟨_,MS,λv u G H x y d Q s rx ry e k=>?_⟩;unfold Rj at e;split at e
 .split at e
  .rename_i c
   cases e;obtain⟨l,vs,rfl,h1,r1⟩:=rx.lst_inv;obtain⟨b,ws,rfl,h2,r2⟩:=ry.lst_inv;refine⟨l,b,vs,ws,rfl,rfl,s.seq h1,s.seq h2,by rw[r1.length,r2.length];exact Qt c lim,λp hp=>k _ _ _ (Ext.new s hp) ?_⟩;exact .lst (SqL.of Ks) ((r1.append r2).mono (Zd (s.free hp)))
  .cases e
 .cases e
theorem Reps.rep{K:Frag}{G:Hp}{vs:List V}{ds:xQ}(r:Reps K G vs ds):∀n:Nat,Reps K G (UB n vs).flatten (UB n ds).flatten
 |0=>.nil
 |n+1=>by rw[Q0,Q0,QG,QG];exact r.append (r.rep n)
noncomputable def Ri:D->D->xT
 |.list x,.int k=>if -1000000<=k/\k<=1000000/\x.length*k.toNat<=1000000 then O (.list (UB k.toNat x).flatten)else xN
 |_,_=>xN
theorem C6:OpD X (binaryOp .Mult) Ri:=by
 refine⟨_,MR,λv u G H x y d Q s rx ry e k=>?_⟩;unfold Ri at e;split at e
 .split at e
  .rename_i c
   cases e;obtain⟨l,vs,rfl,h1,r1⟩:=rx.lst_inv;refine⟨l,_,vs,rfl,ry.int_inv,s.seq h1,by lia,by lia,by rw[r1.length];exact Qt c.2.2 lim,λp hp=>k _ _ _ (Ext.new s hp) ?_⟩;exact .lst (SqL.of Ks) ((r1.rep _).mono (Zd (s.free hp)))
  .cases e
 .cases e
noncomputable def U9:D->D->xT
 |.int i,.int j=>O (.int (i+j))
 |.str x,.str y=>if x.length+y.length<=1000000 then O (.str (x++y))else xN
 |.list x,.list y=>if x.length+y.length<=1000000 then O (.list (x++y))else xN
 |_,_=>xN
noncomputable def XB:D->D->xT
 |.int i,.int j=>O (.int (i-j))
 |_,_=>xN
noncomputable def Ko:D->D->xT
 |.int i,.int j=>XG i j
 |.list x,.int k=>if -1000000<=k/\k<=1000000/\x.length*k.toNat<=1000000 then O (.list (UB k.toNat x).flatten)else xN
 |_,_=>xN
noncomputable def ZW:D->D->xT
 |.int i,.int j=>WH i j
 |_,_=>xN
noncomputable def Xb:D->D->xT
 |.int i,.int j=>WI i j
 |_,_=>xN
noncomputable def XE:D->D->xT
 |.int i,.int j=>WG i j
 |_,_=>xN
theorem OpD.congr{f:Uq->Uq->Sem Uq}{p q:D->D->xT}(h:OpD X f p)(e:∀x y,q x y=p x y):OpD X f q:=by
 have:q=p:=by funext x y;exact e x y
 rw[this];exact h
theorem Nu:OpD X (binaryOp .Add) U9:=(DN.or (C8.or C7)).congr λx y=>by cases x<;>cases y<;>first|rfl|(simp only[U9,oII,Rk,Rj,Option.orElse];done)|(simp only[U9,oII,Rk,Rj,Option.orElse];split<;>rfl)
theorem FN:OpD X (binaryOp .Sub) XB:=DM.congr λx y=>by cases x<;>cases y<;>rfl
theorem Nt:OpD X (binaryOp .Mult) Ko:=(C9.or C6).congr λx y=>by cases x<;>cases y<;>first|rfl|(simp only[Ko,oII,Ri,Option.orElse];done)|(simp only[Ko,oII,Ri,Option.orElse];split<;>first|rfl|assumption)
theorem FM:OpD X (binaryOp .Mod) ZW:=DK.congr λx y=>by cases x<;>cases y<;>rfl
theorem FL:OpD X (binaryOp .FloorDiv) Xb:=Ew.congr λx y=>by cases x<;>cases y<;>rfl
theorem FJ:OpD X (binaryOp .Pow) XE:=Ev.congr λx y=>by cases x<;>cases y<;>rfl
end
section
variable{X:Cx}{B G0:Hp}{e a b c:Uv}{pos:Pos}
def OpB(X:Cx)(f:Uq->Uq->Sem Uq)(op:D->D->vb):Prop:=
 ∃r:R2,OpR X f r/\∀v u G H x y d Q,Same G H->Rep X.K G v x->Rep X.K G u y->op x y=O d->Q (.bl d) H->r v u H Q
theorem C5{op:CmpOp}{p:D->D->vb}{f g:M D}(o:OpB X (Uz op) p)(ha:PE X a (tD X.K B G0 f))(hb:PE X b (tD X.K B G0 g))(hm:behindInMarks op b=xP) :
  PT X (.Compare a [op] [b] pos) (tBo X.K B G0 (UY p f g)):=by
 obtain⟨r,h,i⟩:=o;refine Yc (P5 h ha hb hm) λσ H Q q=>?_;refine tM.two q λv u H2 G ρ x y k rx ry a=>?_
 obtain⟨d,e,a⟩:=a.opt;exact i v u G H2 x y d _ k.gh rx ry e ⟨d,rfl,a.now k xM⟩
noncomputable def U3{α β:Type}(h:α->β)(f:M α):M β:=U2 f λx=>UU (h x)
theorem tM.map{K:Frag}{α β γ δ:Type}{R:Hp->γ->α->Prop}{S:Hp->δ->β->Prop}{σ:St}{H:Hp}{h:α->β}{f:M α}{Q:δ->Hp->Prop}(j:γ->δ)(q:tM K B G0 S (U3 h f) σ H Q)
  (i:∀G v x,R G v x->S G (j v) (h x)):tM K B G0 R f σ H (λv H'=>Q (j v) H'):=
 tM.one (R:=R) (f:=f) q λv H2 G ρ x k r a=>aft.now (show aft K B G0 S (.ok (h x) ρ) G σ Q from a) k (i G v x r)
theorem tBo.val{K:Frag}{σ:St}{H:Hp}{f:M Bool}{Q:VK}(q:tD K B G0 (U3 UD f) σ H Q):tBo K B G0 f σ H (λb H'=>Q (.bl b) H'):=
 tM.map (R:=λ_ b c=>b=c) V.bl q λG v x e=>by rw[e];exact .bl x
theorem C4{op:CmpOp}{p:D->D->vb}{f g:M D}(o:OpB X (Uz op) p)(ha:PE X a (tD X.K B G0 f))(hb:PE X b (tD X.K B G0 g))(hm:behindInMarks op b=xP) :
  PE X (.Compare a [op] [b] pos) (tD X.K B G0 (U3 UD (UY p f g))):=by
 obtain⟨r,h,i⟩:=o;refine Kb (M8 h ha hb hm) λσ H Q q=>?_;refine tM.two (tBo.val q) λv u H2 G ρ x y k rx ry a=>?_
 obtain⟨d,e,a⟩:=a.opt;exact i v u G H2 x y d _ k.gh rx ry e (a.now k xM)
noncomputable def Xl(p q:D->D->vb)(f g h:M D):M Bool:=U2 f λx=>U2 g λy=>U2 (U1 (p x y)) λt=>if t=xO then U2 h λz=>U1 (q y z)else UU xP
theorem qO{op op':CmpOp}{p q:D->D->vb}{f g h:M D}(o:OpB X (Uz op) p)(o':OpB X (Uz op') q)(ha:PE X a (tD X.K B G0 f))(hb:PE X b (tD X.K B G0 g))(hc:PE X c (tD X.K B G0 h))
  (hm:lastMarks [op,op'] [b,c]=xP:=by with_unfolding_all rfl):PT X (.Compare a [op,op'] [b,c] pos) (tBo X.K B G0 (Xl p q f g h)):=by
 obtain⟨r,h1,i⟩:=o;obtain⟨r',h2,i'⟩:=o';refine Yc (Ar h1 h2 ha hb hc hm) λσ H Q w=>?_;refine tM.two w λv u H2 G ρ x y k rx ry a=>?_
 cases z:p x y with
 |none=>rw[z]at a;exact a.elim
 |some t=>
  rw[z]at a;refine i v u G H2 x y t _ k.gh rx ry z ⟨t,rfl,?_⟩;cases t with
  |false=>rw[Qw Bool.false_ne_true];exact⟨xP,rfl,aft.now a k xM⟩
  |true=>
   rw[Qq xM];refine⟨G,ρ,k,?_⟩;have a4:aft X.K B G0 (λ_ (b:Bool) c=>b=c) ((U2 h λz=>U1 (q y z)) ρ) G σ Q:=a;unfold U2 at a4;cases z2:h ρ with
   |bad=>rw[z2]at a4;exact a4.elim
   |ok d ρ1=>rw[z2]at a4;intro w G5 H5 k5 s5 r5;obtain⟨t2,e2,a6⟩:=a4.opt;exact i' u w G5 H5 y d t2 _ k5.gh (ry.mono s5) r5 e2 ⟨t2,rfl,a6 t2 G5 H5 k5 s5 xM⟩
theorem qN{op op':CmpOp}{p q:D->D->vb}{f g h:M D}(o:OpB X (Uz op) p)(o':OpB X (Uz op') q)(ha:PE X a (tD X.K B G0 f))(hb:PE X b (tD X.K B G0 g))(hc:PE X c (tD X.K B G0 h))
  (hm:lastMarks [op,op'] [b,c]=xP:=by with_unfolding_all rfl):PE X (.Compare a [op,op'] [b,c] pos) (tD X.K B G0 (U3 UD (Xl p q f g h))):=by
 obtain⟨r,h1,i⟩:=o;obtain⟨r',h2,i'⟩:=o';refine Kb (As h1 h2 ha hb hc hm) λσ H Q w=>?_;refine tM.two (tBo.val w) λv u H2 G ρ x y k rx ry a=>?_
 cases z:p x y with
 |none=>rw[z]at a;exact a.elim
 |some t=>
  rw[z]at a;refine i v u G H2 x y t _ k.gh rx ry z ⟨t,rfl,?_⟩;cases t with
  |false=>rw[Qw Bool.false_ne_true];exact aft.now (v:=xP) a k xM
  |true=>
   rw[Qq xM];refine⟨G,ρ,k,?_⟩;have a4:aft X.K B G0 (λ_ (b:Bool) c=>b=c) ((U2 h λz=>U1 (q y z)) ρ) G σ (λb H'=>Q (.bl b) H'):=a;unfold U2 at a4;cases z2:h ρ with
   |bad=>rw[z2]at a4;exact a4.elim
   |ok d ρ1=>rw[z2]at a4;intro w G5 H5 k5 s5 r5;obtain⟨t2,e2,a6⟩:=a4.opt;exact i' u w G5 H5 y d t2 _ k5.gh (ry.mono s5) r5 e2 (a6 t2 G5 H5 k5 s5 xM)
noncomputable def oIB(g:Int->Int->Bool):D->D->vb
 |.int i,.int j=>O (g i j)
 |_,_=>xN
theorem OpB.int{f:Uq->Uq->Sem Uq}{g:Int->Int->Bool}(h:OpR X f (rI0 λi j=>.bl (g i j))):OpB X f (oIB g):=by
 refine⟨_,h,λv u G H x y d Q s rx ry e k=>?_⟩;unfold oIB at e;split at e
 .cases e
  exact⟨_,_,rx.int_inv,ry.int_inv,k⟩
 .cases e
theorem B_lt:OpB X (Uz .Lt) (oIB λi j=>decide (i<j)):=.int FY
theorem B_le:OpB X (Uz .LtE) (oIB λi j=>decide (i<=j)):=.int FX
theorem B_gt:OpB X (Uz .Gt) (oIB λi j=>decide (j<i)):=.int FW
theorem B_ge:OpB X (Uz .GtE) (oIB λi j=>decide (j<=i)):=.int FV
mutual
theorem Vf{pins:List (Ut×Obj)}{s:Ur}{σ:St}{G H:Hp}(I:Inv X pins σ H s)(sg:Same G H):∀{v:V}{d:D}{u:Uq},Rep X.K G v d->RelV v u->d.canLay0=xO->∃as,Reads s.heap u d as
 |_,_,_,.non,r,_=>by cases r;exact⟨_,.none⟩
 |_,_,_,.bl b,r,_=>by cases r;exact⟨_,.bool b⟩
 |_,_,_,.int i,r,_=>by obtain⟨t,rfl⟩:=r;exact⟨_,.int i t⟩
 |_,_,_,.str x,r,_=>by obtain⟨t,rfl⟩:=r;exact⟨_,.str x t⟩
 |_,_,_,.lst h q,r,c=>by cases r;obtain⟨its,rv,⟨o,n,e,hc,_,hd⟩,hz⟩:=I.list (sg.seq h);obtain⟨as,ra⟩:=readsAll_of I sg q rv (show UG _=xO by simpa[PyData.canLay0]using c);exact⟨_,.list e hc hd (by simpa using ra)⟩
 |_,_,_,.tup h q,r,c=>by cases r;obtain⟨its,rv,p,hz⟩:=I.tuple (YE sg h);obtain⟨o,e,hc,n,hd⟩:=p;obtain⟨as,ra⟩:=readsAll_of I sg q rv (show UG _=xO by simpa[PyData.canLay0]using c);exact⟨_,.tuple e hc hd (by simpa using ra)⟩
 |_,_,_,.dic h,r,c=>by simp[PyData.canLay0]at c
 |_,_,_,.exc _ _ _ _,r,c=>by simp[PyData.canLay0]at c
 |_,_,_,.dct _ _ _ _ _,r,c=>by simp[PyData.canLay0]at c
 |_,_,_,.dtt _ _ _ _,r,c=>by simp[PyData.canLay0]at c
theorem readsAll_of{pins:List (Ut×Obj)}{s:Ur}{σ:St}{G H:Hp}(I:Inv X pins σ H s)(sg:Same G H):∀{vs:List V}{ds:xQ}{us:xS},Reps X.K G vs ds->Vals vs us->UG ds=xO->∃as,ReadsAll s.heap us ds as
 |_,_,_,.nil,r,_=>by cases r;exact⟨_,.nil⟩
 |_,_,_,.cons h t,r,c=>by
  cases r with
  |cons r1 r2=>have c':=c;rw[UG,Qz]at c';obtain⟨as,ra⟩:=Vf I sg h r1 c'.1;obtain⟨bs,rb⟩:=readsAll_of I sg t r2 c'.2;exact⟨_,.cons ra rb⟩
end
noncomputable def oEq(x y:D):vb:=if x.canLay0=xO/\y.canLay0=xO/\x.depth<=60 then O (UI x y)else xN
noncomputable def oNe(x y:D):vb:=if x.canLay0=xO/\y.canLay0=xO/\x.depth<=60 then O (!UI x y)else xN
theorem B_eq(hu:X.A.units+64<cLine):OpB X (Uz .Eq) oEq:=by
 refine⟨λv u H Q=>∃G x y d,Same G H/\Rep X.K G v x/\Rep X.K G u y/\oEq x y=O d/\Q (.bl d) H,?_,λv u G H x y d Q s rx ry e k=>⟨G,x,y,d,s,rx,ry,e,k⟩⟩;intro pins s σ H x y v u Q I rx ry ⟨G,dx,dy,d,sg,px,py,e,q⟩;unfold oEq at e;split at e
 .rename_i c
  cases e;obtain⟨as,ra⟩:=Vf I sg px rx c.1;obtain⟨bs,rb⟩:=Vf I sg py ry c.2.1;exact SeqAt.compareEq_reads ra rb c.1 c.2.1 (by have:=c.2.2;lia) ⟨.bl _,H,I,rfl,q⟩
 .cases e
theorem B_ne(hu:X.A.units+64<cLine):OpB X (Uz .NotEq) oNe:=by
 refine⟨λv u H Q=>∃G x y d,Same G H/\Rep X.K G v x/\Rep X.K G u y/\oNe x y=O d/\Q (.bl d) H,?_,λv u G H x y d Q s rx ry e k=>⟨G,x,y,d,s,rx,ry,e,k⟩⟩;intro pins s σ H x y v u Q I rx ry ⟨G,dx,dy,d,sg,px,py,e,q⟩;unfold oNe at e;split at e
 .rename_i c
  cases e;obtain⟨as,ra⟩:=Vf I sg px rx c.1;obtain⟨bs,rb⟩:=Vf I sg py ry c.2.1;exact SeqAt.compareNe_reads ra rb c.1 c.2.1 (by have:=c.2.2;lia) ⟨.bl _,H,I,rfl,q⟩
 .cases e
noncomputable def isNon:D->Bool
 |.none=>xO
 |_=>xP
theorem Rep.isNon{K:Frag}{G:Hp}{v:V}{d:D}(r:Rep K G v d):DL.isNon d=decide (v=.non):=by cases r<;>simp[DL.isNon]
end
section
variable{X:Cx}{B G0:Hp}{e a b c:Uv}{pos:Pos}{es rest:xU}
theorem tM.nx{K:Frag}{α β γ δ:Type}{R:Hp->γ->α->Prop}{S:Hp->δ->β->Prop}{σ:St}{G H:Hp}{ρ:UQ}{f:M α}{g:α->M β}{Q:δ->Hp->Prop}{P:γ->Hp->Prop}
  (k:EOk K B G0 G H σ ρ) (a:aft K B G0 S (U2 f g ρ) G σ Q) (i:∀v H' G' ρ' x,EOk K B G0 G' H' σ ρ'->Same G G'->R G' v x->aft K B G0 S (g x ρ') G' σ Q->P v H'):tM K B G0 R f σ H P:=by
 refine⟨G,ρ,k,?_⟩;unfold U2 at a;cases q:f ρ with
 |bad=>rw[q]at a;exact a.elim
 |ok d ρ1=>rw[q]at a;exact λv G' H' e s r=>i v H' G' ρ1 d e s r (aft.mono s a)
noncomputable def ZJ(f g:M Bool):M Bool:=U2 f λt=>if t=xO then g else UU xP
noncomputable def mOr(f g:M Bool):M Bool:=U2 f λt=>if t=xO then UU xO else g
noncomputable def Kv(f:M Bool):M Bool:=U3 (λt=>!t) f
theorem C3{K:Frag}{f g:M Bool}{σ:St}{H:Hp}{Q:Bool->Hp->Prop}(q:tBo K B G0 (ZJ f g) σ H Q):tAnd (tBo K B G0 f) (tBo K B G0 g) σ H Q:=
 tM.one (R:=λ_ b c=>b=c) q λv H2 G ρ x k r a=>by
  have r:v=x:=r;subst r;cases v with
  |true=>exact⟨G,ρ,k,a⟩
  |false=>exact aft.now (v:=xP) a k xM
theorem Eu{K:Frag}{f g:M Bool}{σ:St}{H:Hp}{Q:Bool->Hp->Prop}(q:tBo K B G0 (mOr f g) σ H Q):tOr (tBo K B G0 f) (tBo K B G0 g) σ H Q:=
 tM.one (R:=λ_ b c=>b=c) q λv H2 G ρ x k r a=>by
  have r:v=x:=r;subst r;cases v with
  |false=>exact⟨G,ρ,k,a⟩
  |true=>exact aft.now (v:=xO) a k xM
theorem pwof{t t':TT}(h:PW X e t)(i:∀σ H Q,t' σ H Q->t σ H Q):PW X e t':=λwh pins s σ H Q I q=>h wh pins s σ H Q I (i σ H Q q)
theorem AN{f:M Bool}(ha:PT X a (tBo X.K B G0 f)):PW X (.BoolOp .And [a] pos) (tBo X.K B G0 f):=CV ha
theorem C2{f:M Bool}(ha:PT X a (tBo X.K B G0 f)):PW X (.BoolOp .Or [a] pos) (tBo X.K B G0 f):=EY ha
theorem C0{f g:M Bool}(ha:PT X a (tBo X.K B G0 f))(hb:PW X (.BoolOp .And (b::rest) pos) (tBo X.K B G0 g)):PW X (.BoolOp .And (a::b::rest) pos) (tBo X.K B G0 (ZJ f g)):=pwof (DJ ha hb) λ_ _ _ q=>C3 q
theorem Et{f g:M Bool}(ha:PT X a (tBo X.K B G0 f))(hb:PW X (.BoolOp .Or (b::rest) pos) (tBo X.K B G0 g)):PW X (.BoolOp .Or (a::b::rest) pos) (tBo X.K B G0 (mOr f g)):=pwof (Fe ha hb) λ_ _ _ q=>Eu q
theorem CZ{f:M Bool}(ha:PT X a (tBo X.K B G0 f)):PT X (.UnaryOp .Not a pos) (tBo X.K B G0 (Kv f)):=Yc (DI ha) λσ H Q q=>tM.map (R:=λ_ b c=>b=c) (λt=>!t) q λ_ v x e=>by rw[e]
noncomputable def ZC(f:M D):M Bool:=U2 f λx=>match x with | .bool t=>UU t|_=>λ_=>.bad
theorem Bx{f:M D}(h:PE X e (tD X.K B G0 f))(he:∀whole,isTrue e X.env whole=(do let v ←whole;standAt e.pos;holding [v] (truthy v)):=by intro _;rfl):PT X e (tBo X.K B G0 (ZC f)):=
 Yc (EZ h he) λσ H Q q=>tM.one (R:=Rep X.K) q λv H2 G ρ x k r a=>by
  cases x with
  |bool t=>exact⟨t,r.bl_inv,aft.now (v:=t) a k xM⟩
  |_=>exact a.elim
noncomputable def Vo(f g:M D):M D:=U2 f λx=>match x with | .bool xO=>g | .bool xP=>UU (.bool xP)|_=>λ_=>.bad
noncomputable def Rh(f:M D):M D:=U2 f λx=>match x with | .bool t=>UU (.bool (!t))|_=>λ_=>.bad
theorem Bw{f g:M D}(ha:PE X a (tD X.K B G0 f))(hb:PE X (.BoolOp .And (b::rest) pos) (tD X.K B G0 g)):PE X (.BoolOp .And (a::b::rest) pos) (tD X.K B G0 (Vo f g)):=
 Kb (DG ha hb) λσ H Q q=>tM.one (R:=Rep X.K) q λv H2 G ρ x k r a=>by
  cases x with
  |bool t=>
   refine⟨t,r.bl_inv,?_⟩;cases t with
   |true=>exact⟨G,ρ,k,a⟩
   |false=>exact aft.now a k (.bl xP)
  |_=>exact a.elim
theorem Bv{op}{f:M D}(h:PE X a (tD X.K B G0 f)):PE X (.BoolOp op [a] pos) (tD X.K B G0 f):=DH h
theorem Bu{f:M D}(ha:PE X a (tD X.K B G0 f)):PE X (.UnaryOp .Not a pos) (tD X.K B G0 (Rh f)):=
 Kb (DF ha) λσ H Q q=>tM.one (R:=Rep X.K) q λv H2 G ρ x k r a=>by
  cases x with
  |bool t=>exact⟨t,r.bl_inv,aft.now a k (.bl _)⟩
  |_=>exact a.elim
noncomputable def mIf{α:Type}(f:M Bool)(g h:M α):M α:=U2 f λt=>if t=xO then g else h
theorem Pd{f:M Bool}{g h:M D}(hc:PT X c (tBo X.K B G0 f))(ha:PE X a (tD X.K B G0 g))(hb:PE X b (tD X.K B G0 h)):PE X (.IfExp c a b pos) (tD X.K B G0 (mIf f g h)):=
 Kb (Au hc ha hb) λσ H Q q=>tM.one (R:=λ_ b c=>b=c) q λv H2 G ρ x k r a=>by
  have r:v=x:=r;subst r;cases v with
  |true=>exact⟨G,ρ,k,a⟩
  |false=>exact⟨G,ρ,k,a⟩
theorem RM{f:M D}{j p2}(ha:PE X a (tD X.K B G0 f)):PT X (.Compare a [.Is] [.Constant .none j p2] pos) (tBo X.K B G0 (U3 isNon f)):=
 Yc (Ma (E1 ha)) λσ H Q q=>tM.one (R:=Rep X.K) q λv H2 G ρ x k r a=>⟨_,rfl,aft.now a k (by rw[r.isNon])⟩
theorem AM{f:M D}{j p2}(ha:PE X a (tD X.K B G0 f)):PT X (.Compare a [.IsNot] [.Constant .none j p2] pos) (tBo X.K B G0 (U3 (λd=>!isNon d) f)):=
 Yc (Ma (CW ha)) λσ H Q q=>tM.one (R:=Rep X.K) q λv H2 G ρ x k r a=>⟨_,rfl,aft.now a k (by dsimp only;rw[r.isNon])⟩
noncomputable def UR:M xQ:=UU []
noncomputable def UT(f:M D)(g:M xQ):M xQ:=U2 f λx=>U2 g λxs=>UU (x::xs)
theorem Xy:PA X [] (tDs X.K B G0 UR):=paof Z4 λσ H Q ⟨G,ρ,k,a⟩=>aft.now a k .nil
theorem tM.twoA{K:Frag}{σ:St}{H:Hp}{f:M D}{g:M xQ}{β δ:Type}{S:Hp->δ->β->Prop}{k:D->xQ->M β}{Q:δ->Hp->Prop}{P:V->List V->Hp->Prop}
  (h:tM K B G0 S (U2 f λx=>U2 g λy=>k x y) σ H Q)
  (i:∀v u H2 G ρ x y,EOk K B G0 G H2 σ ρ->Rep K G v x->Reps K G u y->aft K B G0 S (k x y ρ) G σ Q->P v u H2) :
  tD K B G0 f σ H (λv H1=>tDs K B G0 g σ H1 λu H2=>P v u H2):=by
 obtain⟨G,ρ,e,a⟩:=tM.bind2 (R:=Rep K) (R':=Reps K) MU h;refine⟨G,ρ,e,?_⟩;cases q:f ρ with
 |bad=>rw[q]at a;exact a.elim
 |ok d ρ1=>
  rw[q]at a;intro v G' H' e' s r;obtain⟨x,G2,ρ2,e2,a2⟩:=a v G' H' e' s r;refine⟨G2,ρ2,e2,?_⟩;cases q2:g ρ2 with
  |bad=>rw[q2]at a2;exact a2.elim
  |ok d3 ρ3=>rw[q2]at a2;intro u G3 H3 e3 s3 r3;obtain⟨G4,ρ4,y,e4,r4,r5,a5⟩:=a2 u G3 H3 e3 s3 r3;exact i v u H3 G4 ρ4 x y e4 r4 r5 a5
theorem Ve{f:M D}{g:M xQ}(ha:PE X e (tD X.K B G0 f))(hr:PA X es (tDs X.K B G0 g))(hs:Uy (e::es) X.env=(xP,eval e X.env)::Uy es X.env:=by rfl) :
  PA X (e::es) (tDs X.K B G0 (UT f g)):=paof (Zq ha hr hs) λσ H Q q=>tM.twoA q λv u H2 G ρ x y k r1 r2 a=>aft.now a k (.cons r1 r2)
noncomputable def Kp(f:M xQ):M D:=U2 f λxs=>if xs.length<=1000000 then UU (.tuple xs)else λ_=>.bad
noncomputable def U7(f:M xQ):M D:=U2 f λxs=>if xs.length<=1000000 then UU (.list xs)else λ_=>.bad
theorem MQ{x1}{f:M xQ}(h:PA X es (tDs X.K B G0 f)):PE X (.Tuple es x1 pos) (tD X.K B G0 (Kp f)):=
 Kb (Mm h) λσ H Q q=>tM.one (R:=Reps X.K) q λv H2 G ρ x k r a=>by
  split at a
  .rename_i c
   refine⟨by rw[r.length];exact Qt c lim,λp hp=>?_⟩;exact aft.done a k (Ext.new k.gh hp) (.tup (SqT.of Ks) (r.mono (Zd (k.gh.free hp))))
  .exact a.elim
theorem MP{f:M xQ}(h:PA X es (tDs X.K B G0 f)):PE X (.List es pos) (tD X.K B G0 (U7 f)):=
 Kb (RC h) λσ H Q q=>tM.one (R:=Reps X.K) q λv H2 G ρ x k r a=>by
  split at a
  .rename_i c
   refine⟨by rw[r.length];exact Qt c lim,λp hp=>?_⟩;exact aft.done a k (Ext.new k.gh hp) (.lst (SqL.of Ks) (r.mono (Zd (k.gh.free hp))))
  .exact a.elim
noncomputable def oIx:D->D->xT
 |.list xs,.int i=>atI xs i
 |.tuple xs,.int i=>atI xs i
 |.str z,.int i=>if z.length<=1000000 then(atI z.cps.toList i).map λc=>.str ⟨#[c]⟩else xN
 |_,_=>xN
theorem Reps.atI{K:Frag}{G:Hp}{vs:List V}{ds:xQ}{i:Int}{d:D}(r:Reps K G vs ds)(h:L2.atI ds i=O d):∃v,L2.atI vs i=O v/\Rep K G v d:=by
 unfold L2.atI at h⊢;rw[r.length];cases z:ixN ds.length i with
 |none=>rw[z]at h;cases h
 |some j=>rw[z]at h;exact r.get (i:=j) h
theorem Mg{K:Frag}{v u:V}{G H:Hp}{x y d:D}{Q:VK}(s:Same G H)(rx:Rep K G v x)(ry:Rep K G u y)(e:oIx x y=O d)(k:∀w,Rep K G w d->Q w H):rIx K v u H Q:=by
 unfold oIx at e;split at e
 .obtain⟨l,vs,rfl,h1,r1⟩:=rx.lst_inv
  obtain⟨w,e1,r2⟩:=r1.atI e;exact .inl ⟨l,vs,_,w,rfl,ry.int_inv,s.seq h1,e1,k w r2⟩
 .obtain⟨l,vs,rfl,h1,r1⟩:=rx.tup_inv
  obtain⟨w,e1,r2⟩:=r1.atI e;exact .inr (.inl ⟨l,vs,_,w,rfl,ry.int_inv,YE s h1,e1,k w r2⟩)
 .split at e
  .rename_i z i hz
   cases q:L2.atI z.cps.toList i with
   |none=>rw[q]at e;cases e
   |some ch=>rw[q]at e;cases e;exact .inr (.inr ⟨z,i,ch,rx.str_inv,ry.int_inv,Qt hz lim,q,k _ (.str _)⟩)
  .cases e
 .cases e
theorem Es{f g:M D}(ha:PE X a (tD X.K B G0 f))(hb:PE X b (tD X.K B G0 g))(hs:SG b):PE X (.Subscript a b pos) (tD X.K B G0 (UY oIx f g)):=
 Kb (Rb RB ha hb hs) λσ H Q q=>tM.two q λv u H2 G ρ x y k rx ry a=>by obtain⟨d,e,a⟩:=a.opt;exact Mg k.gh rx ry e λw r=>a.now k r
noncomputable def U5(i:Nat)(g:M D):M D:=λρ=>match ρ[i]? with
 |some (O (.pub d))=>(U2 g λy=>U1 (oIx d y)) ρ
 |some (O (.own _))=>(U2 g λy=>λρ'=>match ρ'[i]? with|some (O (.own ds))=>U1 (oIx (.list ds) y) ρ'|_=>.bad) ρ
 |_=>.bad
theorem RL{i:Nat}{g:M D}(ha:PE X a (Kl i))(hb:PE X b (tD X.K B G0 g))(hs:SG b):PE X (.Subscript a b pos) (tD X.K B G0 (U5 i g)):=
 Kb (Rb RB ha hb hs) λσ H Q ⟨G,ρ,k,a⟩=>by
  unfold U5 at a;cases q:ρ[i]? with
  |none=>rw[q]at a;exact a.elim
  |some o=>
   cases o with
   |none=>rw[q]at a;exact a.elim
   |some sl=>
    cases sl with
    |deep _ _=>rw[q]at a;exact a.elim
    |pub d=>
     rw[q]at a;obtain⟨v,h1,h2⟩:=k.pub i d q;refine⟨v,h1,G,ρ,k,?_⟩;dsimp only[U2]at a;cases z:g ρ with
     |bad=>rw[z]at a;exact a.elim
     |ok y ρ1=>rw[z]at a;intro u G' H' k' s' r';obtain⟨d',e',a'⟩:=aft.opt a;exact Mg k'.gh (h2.mono s') r' e' λw r=>a' w G' H' k' s' r
    |own ds=>
     rw[q]at a;obtain⟨ad,vs,h1,h2,h3,h4,h5⟩:=k.own i ds q;refine⟨.ref ad,h1,G,ρ,k,?_⟩;dsimp only[U2]at a;cases z:g ρ with
     |bad=>rw[z]at a;exact a.elim
     |ok y ρ1=>
      rw[z]at a;dsimp only at a;intro u G' H' k' s' r';cases z2:ρ1[i]? with
      |none=>rw[z2]at a;exact a.elim
      |some o2=>
       cases o2 with
       |none=>rw[z2]at a;exact a.elim
       |some sl2=>
        cases sl2 with
        |deep _ _=>rw[z2]at a;exact a.elim
        |pub d2=>rw[z2]at a;exact a.elim
        |own es2=>
         rw[z2]at a;obtain⟨d',e',a'⟩:=aft.opt a;obtain⟨ad',vs',g1,g2,g3,g4,g5⟩:=k'.own i es2 z2;rw[h1]at g1;cases g1;unfold oIx at e';cases y with
         |int j=>obtain⟨w,e1,r2⟩:=g5.atI e';exact .inl ⟨ad,vs',j,w,rfl,r'.int_inv,SqL.of g4,e1,a' w G' H' k' s' r2⟩
         |_=>cases e'
noncomputable def cutD(xs:xQ)(lo hi:xZ):xQ:=(xs.drop (HT.sIx xs.length 0 lo)).take (HT.sIx xs.length xs.length hi-HT.sIx xs.length 0 lo)
theorem Reps.cut{K:Frag}{G:Hp}{vs:List V}{ds:xQ}(r:Reps K G vs ds)(lo hi:xZ):Reps K G (Xd vs lo hi) (cutD ds lo hi):=by unfold Xd cutD;rw[r.length];exact(r.drop _).take _
noncomputable def Z7:D->Option xZ
 |.int i=>O (O i)
 |_=>xN
theorem AL:PO X xN (tOi X.K B G0 (UU xN)):=poof Bm λσ H Q ⟨G,ρ,k,a⟩=>aft.now a k xM
theorem AK{f:M D}(h:PE X e (tD X.K B G0 f)):PO X (O e) (tOi X.K B G0 (U2 f λx=>U1 (Z7 x))):=poof (Bl h) λσ H Q q=>tM.one (R:=Rep X.K) q λv H2 G ρ x k r a=>by
 cases x with
 |int i=>exact⟨i,r.int_inv,aft.now (v:=O i) a k xM⟩
 |_=>exact a.elim
end
noncomputable def YM:List (D×D)->Bool
 |(.none,_)::_=>xO
 |_=>xP
noncomputable def Y6:D->String
 |.none=> "NoneType"
 |.bool _=> "bool"
 |.int _=> "int"
 |.str _=> "str"
 |.list _=> "list"
 |.tuple _=> "tuple"
 |.dict kvs=>if YM kvs=xO then "" else "dict"
noncomputable def KD(d:D)(c:String):Bool:=Y6 d==c || (Y6 d == "bool" && c == "int")
noncomputable def Xs:D->Bool
 |.dict kvs=>YM kvs
 |_=>xP
theorem nty{kvs:List (D×D)}{c:String}(h:(("dict" == c) || ("" == c))=xP):KD (.dict kvs) c=xP:=by
 obtain⟨h1,h2⟩:=Bool.or_eq_false_iff.mp h
 show((if YM kvs=xO then "" else "dict")==c || ((if YM kvs=xO then "" else "dict") == "bool" && c == "int"))=xP
 cases YM kvs with
 |true=>rw[Qq xM,h2];rfl
 |false=>rw[Qw (by decide),h1];rfl
theorem Mf{ks:List Key}{ds:xQ}:Y6 (.dict ((ks.map kD).zip ds)) = "dict" /\ Xs (.dict ((ks.map kD).zip ds))=xP:=by
 cases ks with
 |nil=>exact⟨rfl,rfl⟩
 |cons k ks=>
  cases ds with
  |nil=>exact⟨rfl,rfl⟩
  |cons d ds=>cases k<;>exact⟨rfl,rfl⟩
theorem Bt(K:Frag)(d:D)(c:String)(nx:Xs d=xP)(hc:c = "int" ∨ c = "bool" ∨ c = "str" ∨ c = "list" ∨ c = "tuple" ∨ c = "dict"):PySem.W.kitOne K (.type (Y6 d)) (.type c)=O (KD d c):=by
 cases d with
 |dict kvs=>
  have e:Y6 (.dict kvs) = "dict" :=by
   have nx:YM kvs=xP:=nx
   show(if YM kvs=xO then "" else "dict")=_
   rw[nx];rfl
  unfold KD;rw[e];rcases hc with rfl|rfl|rfl|rfl|rfl|rfl<;>rfl
 |_=>rcases hc with rfl|rfl|rfl|rfl|rfl|rfl<;>rfl
section
variable{X:Cx}{B G0:Hp}{e a b c:Uv}{pos:Pos}{es rest:xU}
def Yk(X:Cx)(f:Uq)(p:xQ->xT):Prop:=
 ∃r,ZS X f r/\∀vs G H ds d Q,Same G H->Reps X.K G vs ds->p ds=O d->(∀w G' H',Ext G H G' H'->Rep X.K G' w d->Q w H')->r vs H Q
noncomputable def Zc(p:xQ->xT)(f:M xQ):M D:=U2 f λxs=>U1 (p xs)
theorem Vl{x:Str}{p2:Pos}{id:String}{p:xQ->xT}{f:M xQ}(hc:Yk X (.builtin id) p)(hg:Gl X x)(hm:X.mg x=xN)(hv:bootBuiltins x=O (.builtin id))(ha:PA X (e::es) (tDs X.K B G0 f))(hn:x ≠ "__name__" :=by decide)(hdb:(x==("__debug__" : Str))=xP:=by decide)
  (he:Uy (e::es) X.env=(xP,eval e X.env)::Uy es X.env:=by rfl) (hpl:(backTo pos (Uy es X.env)).any (·.1)=xP:=by rfl):PE X (.Call (.Name x p2) (e::es) [] pos) (tD X.K B G0 (Zc p f)):=by
 obtain⟨r,h,i⟩:=hc;refine Kb (T5 h hg hm hv ha hn hdb he hpl) λσ H Q q=>tM.one (R:=Reps X.K) q λv H2 G ρ x k rr a=>?_
 obtain⟨d,e,a⟩:=a.opt;exact i v G H2 x d Q k.gh rr e λw G' H' ex rw=>a.done k ex rw
theorem HI{x:Str}{p2:Pos}{T:String}{p:xQ->xT}{f:M xQ}(hc:Yk X (.type T) p)(hg:Gl X x)(hm:X.mg x=xN)(hv:bootBuiltins x=O (.type T))(ha:PA X (e::es) (tDs X.K B G0 f))(hn:x ≠ "__name__" :=by decide)(hdb:(x==("__debug__" : Str))=xP:=by decide)
  (he:Uy (e::es) X.env=(xP,eval e X.env)::Uy es X.env:=by rfl) (hpl:(backTo pos (Uy es X.env)).any (·.1)=xP:=by rfl):PE X (.Call (.Name x p2) (e::es) [] pos) (tD X.K B G0 (Zc p f)):=by
 obtain⟨r,h,i⟩:=hc;refine Kb (Sa h hg hm hv ha hn hdb he hpl) λσ H Q q=>tM.one (R:=Reps X.K) q λv H2 G ρ x k rr a=>?_
 obtain⟨d,e,a⟩:=a.opt;exact i v G H2 x d Q k.gh rr e λw G' H' ex rw=>a.done k ex rw
theorem Reps.nil_inv{K:Frag}{G:Hp}{vs:List V}(r:Reps K G vs []):vs=[]:=by cases r;rfl
theorem Reps.one_inv{K:Frag}{G:Hp}{vs:List V}{d:D}(r:Reps K G vs [d]):∃v,vs=[v]/\Rep K G v d:=by
 cases r with
 |cons h t=>cases t;exact⟨_,rfl,h⟩
theorem Reps.two_inv{K:Frag}{G:Hp}{vs:List V}{d d':D}(r:Reps K G vs [d,d']):∃v v',vs=[v,v']/\Rep K G v d/\Rep K G v' d':=by
 cases r with
 |cons h t=>obtain⟨v',rfl,r'⟩:=t.one_inv;exact⟨_,v',rfl,h,r'⟩
noncomputable def KB:xQ->xT
 |[.list xs]=>O (.int xs.length)
 |[.tuple xs]=>O (.int xs.length)
 |[.str z]=>if z.length<=1000000 then O (.int z.length)else xN
 |_=>xN
theorem Nr:Yk X (.builtin "len") KB:=by
 refine⟨_,Lp,λvs G H ds d Q s r e k=>?_⟩;unfold KB at e;split at e
 .cases e
  obtain⟨v,rfl,q⟩:=r.one_inv;obtain⟨l,ws,rfl,h1,r1⟩:=q.lst_inv;exact⟨.ref l,ws.length,rfl,.inl ⟨ws,s.seq h1,rfl⟩,by rw[r1.length];exact k _ G H (.refl s) (.int _)⟩
 .cases e
  obtain⟨v,rfl,q⟩:=r.one_inv;obtain⟨l,ws,rfl,h1,r1⟩:=q.tup_inv;exact⟨.ref l,ws.length,rfl,.inr ⟨ws,YE s h1,rfl⟩,by rw[r1.length];exact k _ G H (.refl s) (.int _)⟩
 .split at e
  .rename_i z hz
   cases e;obtain⟨v,rfl,q⟩:=r.one_inv;exact⟨.str z,z.length,by rw[q.str_inv],⟨Qt hz lim,rfl⟩,k _ G H (.refl s) (.int _)⟩
  .cases e
 .cases e
noncomputable def Sj:xQ->xT
 |[.int i,.int j]=>O (.int (if j > i then j else i))
 |_=>xN
theorem Er(hc:X.calm=xO):Yk X (.builtin "max") Sj:=by
 refine⟨_,jO hc,λvs G H ds d Q s r e k=>?_⟩;unfold Sj at e;split at e
 .cases e
  obtain⟨v,v',rfl,r1,r2⟩:=r.two_inv;exact⟨_,_,by rw[r1.int_inv,r2.int_inv],k _ G H (.refl s) (.int _)⟩
 .cases e
noncomputable def Rg:xQ->xT
 |[.int i,.int j]=>O (.int (if j<i then j else i))
 |_=>xN
theorem Ep(hc:X.calm=xO):Yk X (.builtin "min") Rg:=by
 refine⟨_,jN hc,λvs G H ds d Q s r e k=>?_⟩;unfold Rg at e;split at e
 .cases e
  obtain⟨v,v',rfl,r1,r2⟩:=r.two_inv;exact⟨_,_,by rw[r1.int_inv,r2.int_inv],k _ G H (.refl s) (.int _)⟩
 .cases e
noncomputable def K6(i:Nat):M D:=λρ=>match ρ[i]? with
 |some (O (.pub d))=>U1 (KB [d]) ρ
 |some (O (.own ds))=>.ok (.int ds.length) ρ
 |_=>.bad
theorem AJ{i:Nat}{p2:Pos}(hg:Gl X "len")(hm:X.mg "len" = xN)(ha:PE X e (Kl i))(he:Uy [e] X.env=[(xP,eval e X.env)]:=by rfl):PE X (.Call (.Name "len" p2) [e] [] pos) (tD X.K B G0 (K6 i)):=by
 refine Kb (T5 Lp hg hm PySem.boot_len (Zq ha Z4 (by rw[he];rfl)) (by decide) (by decide) (by rw[he];rfl) xM) λσ H Q ⟨G,ρ,k,a⟩=>?_
 unfold K6 at a;cases q:ρ[i]? with
 |none=>rw[q]at a;exact a.elim
 |some o=>
  cases o with
  |none=>rw[q]at a;exact a.elim
  |some sl=>
   cases sl with
   |deep _ _=>rw[q]at a;exact a.elim
   |pub d=>
    rw[q]at a;obtain⟨v,h1,h2⟩:=k.pub i d q;refine⟨v,h1,?_⟩;obtain⟨d',e',a'⟩:=aft.opt a;obtain⟨r,hr,ir⟩:=@Nr X;show ∃x n,[v]=[x]/\LenV X.K x H n/\Q (.int n) H;unfold KB at e';split at e'
    .rename_i xs he'
     injection he' with yh wa;subst yh;cases e'
     obtain⟨l,ws,rfl,g1,r1⟩:=h2.lst_inv;exact⟨.ref l,ws.length,rfl,.inl ⟨ws,k.gh.seq g1,rfl⟩,by rw[r1.length];exact a'.now k (.int _)⟩
    .rename_i xs he'
     injection he' with yh wa;subst yh;cases e'
     obtain⟨l,ws,rfl,g1,r1⟩:=h2.tup_inv;exact⟨.ref l,ws.length,rfl,.inr ⟨ws,YE k.gh g1,rfl⟩,by rw[r1.length];exact a'.now k (.int _)⟩
    .rename_i z he'
     injection he' with yh wa;subst yh
     split at e'
     .rename_i hz
      cases e';exact⟨.str z,z.length,by rw[h2.str_inv],⟨Qt hz lim,rfl⟩,a'.now k (.int _)⟩
     .cases e'
    .cases e'
   |own ds=>rw[q]at a;obtain⟨ad,vs,h1,g2,g3,h4,h5⟩:=k.own i ds q;exact⟨.ref ad,h1,.ref ad,vs.length,rfl,.inl ⟨vs,SqL.of h4,rfl⟩,by rw[h5.length];exact aft.now a k (.int _)⟩
theorem Bs{pins:List (Ut×Obj)}{s:Ur}{σ:St}{G H:Hp}{v:V}{u:Uq}{d:D}{cv:Uq}{t:Bool}{A:Around}{E:Uq->Ur->Prop}{Q:Uq->Ur->Prop}(I:Inv X pins σ H s)(sg:Same G H)(r:Rep X.K G v d)(rv:RelV v u)(nx:Xs d=xP)
  (ek:PySem.W.kitOne X.K (.type (Y6 d)) cv=O t) (h:∀tk,Q (.bool t) {s with toks:=tk}):Ux (model X.prog X.w) A (call (.builtin "isinstance") [u,cv]) Q E s:=by
 cases r with
 |non=>cases rv;exact JD PySem.W.kitx_none I.kIn True.intro ek (λz=>nomatch z) h
 |bl y=>cases rv;exact JD PySem.W.kitx_bool I.kIn True.intro ek (λz=>nomatch z) h
 |int i=>obtain⟨t',rfl⟩:=rv;exact JD PySem.W.kitx_int I.kIn True.intro ek (λz=>nomatch z) h
 |str y=>obtain⟨t',rfl⟩:=rv;exact JD PySem.W.kitx_str I.kIn True.intro ek (λz=>nomatch z) h
 |lst hl _=>cases rv;obtain⟨its,r,⟨o,n,e,hc,_,hd⟩,hz⟩:=I.list (sg.seq hl);exact JD PySem.W.kitx_list I.kIn ⟨o,e,hc⟩ ek (λz=>nomatch z) h
 |tup hl _=>cases rv;obtain⟨its,r,p,hz⟩:=I.tuple (YE sg hl);obtain⟨o,e,hc,_⟩:=p;exact JD PySem.W.kitx_tuple I.kIn ⟨o,e,hc⟩ ek (λz=>nomatch z) h
 |@dic ad hd=>
  cases rv;obtain⟨_,_,vs,_,p⟩:=(show Zj X.prog X.w H s.heap ad (.dK [])from I.hok ad _ (sg _ _ hd))
  obtain⟨o,es,ep,h1,h2,_⟩:=p;exact JD PySem.W.kitx_dict I.kIn ⟨o,h1,h2.1⟩ ek (λz=>nomatch z) h
 |exc _ _ _ _=>cases nx
 |@dct ad ks vs ds kvs e0 _ _ hd _=>
  cases rv;subst e0;rw[Mf.1]at ek;obtain⟨_,_,vs,_,p⟩:=(show Zj X.prog X.w H s.heap ad (.dK (ks.zip _))from I.hok ad _ (sg _ _ hd))
  obtain⟨o,es,ep,h1,h2,_⟩:=p;exact JD PySem.W.kitx_dict I.kIn ⟨o,h1,h2.1⟩ ek (λz=>nomatch z) h
 |@dtt ad ob ks vs ds kvs e0 _ hd _=>
  cases rv;subst e0;obtain⟨_,_,_,xs,_,o,es,ep,h1,h2,_⟩:=(show Zj X.prog X.w H s.heap ad (.frz ob (.dT (ks.zip _)))from I.hok ad _ (sg _ _ hd))
  exact JD PySem.W.kitx_dict I.kIn ⟨o,h1,h2.1⟩ ek (λz=>nomatch z) h
theorem Br(c:String)(hc:c = "int" ∨ c = "bool" ∨ c = "str" ∨ c = "list" ∨ c = "tuple" ∨ c = "dict"):typeOf (.type c)=pure (.type "type"):=by rcases hc with rfl|rfl|rfl|rfl|rfl|rfl<;>kernel_rfl
theorem AI:ZS X (.builtin "isinstance") (λxs H Q=>∃v c G d,xs=[v,.ty c]/\Same G H/\Rep X.K G v d/\(c = "int" ∨ c = "bool" ∨ c = "str" ∨ c = "list" ∨ c = "tuple" ∨ c = "dict")/\Q (.bl (KD d c)) H):=by
 intro pins s σ H xs us Q I r h;obtain⟨v,c,G,d,rfl,sg,rp,hc,q⟩:=h;obtain⟨u,w',rfl,r1,r2⟩:=Rc r;cases (show w'=Value.type c from r2);by_cases nx:Xs d=xO
 .cases rp with
  |@exc a C dd bm nm vs ds ck hx hd rr=>
   refine Oz (W2 I.ok.mod.kin) pins s σ H [.ref a,.ty c] [u,.type c] Q I r ⟨a,C,dd,bm,xP,.ty c,xP,rfl,⟨nm,ck⟩,sg _ _ hx,.inr ⟨c,rfl,Br c hc,?_⟩,?_⟩
   .rw[ck.ty];rcases hc with rfl|rfl|rfl|rfl|rfl|rfl<;>rfl
   .have e:KD (.dict [(.none,.tuple [.str nm,.list ds])]) c=xP:=by rcases hc with rfl|rfl|rfl|rfl|rfl|rfl<;>rfl
    rw[e]at q;exact q
  |dct e _ _ _ _=>subst e;rw[Mf.2]at nx;cases nx
  |dtt e _ _ _=>subst e;cases nx
  |_=>cases nx
 .have nx:Xs d=xP:=by simpa using nx
  exact Bs I sg rp r1 nx (Bt X.K d c nx hc) λtk=>⟨.bl _,H,I.tok tk,rfl,q⟩
theorem Nm:bootBuiltins "isinstance" = O (.builtin "isinstance"):=by decide +kernel
theorem Pj{f:M D}{p2 p3:Pos}{c:String}(hc:c = "int" ∨ c = "bool" ∨ c = "str" ∨ c = "list" ∨ c = "tuple" ∨ c = "dict")(hg:Gl X "isinstance")(hm:X.mg "isinstance" = xN)(wf:Gl X (UK c))(hm2:X.mg (UK c)=xN)
  (hv2:bootBuiltins (UK c)=O (.type c)) (ha:PE X e (tD X.K B G0 f)) (hn2:(UK c) ≠ "__name__") (hd2:((UK c)==("__debug__" : Str))=xP)
  (hs:Uy [e,.Name (UK c) p3] X.env=(xP,eval e X.env)::Uy [.Name (UK c) p3] X.env:=by rfl)
  (hs2:Uy [.Name (UK c) p3] X.env=[(xP,eval (.Name (UK c) p3) X.env)]:=by rfl) :
  PE X (.Call (.Name "isinstance" p2) [e,.Name (UK c) p3] [] pos) (tD X.K B G0 (U3 (λd=>.bool (KD d c)) f)):=by
 refine Kb (T5 AI hg hm Nm (Zq ha (Zq (La (v:=.ty c) wf hm2 hv2 xM hn2 hd2) Z4 (by rw[hs2];rfl)) hs) (by decide) (by decide) hs (by rw[hs2];rfl)) λσ H Q q=>?_
 refine tM.one (R:=Rep X.K) q λv H2 G ρ x k r a=>?_
 exact⟨v,c,G,x,rfl,k.gh,r,hc,aft.now a k (.bl _)⟩
end
noncomputable def spD(K:Frag)(n:Nat)(F:xQ->xT):Sp:=λvs H Q _=>∃G ds d,vs.length=n/\Same G H/\Reps K G vs ds/\F ds=O d/\∀v G' H',Ext G H G' H'->Rep K G' v d->Q v H'
section
variable{K:Frag}{B G0 G H:Hp}{σ:St}{ρ:UQ}
theorem EOk.exit(k:EOk K B G0 G H σ ρ):Ext G0 B G H:=⟨k.bh,k.g0,k.gh,k.np⟩
theorem KS{α:Type}{l:List α}{i:Nat}{x y:α}(h:(l.set i x)[i]?=O y):y=x:=by
 by_cases hl:i<l.length
 .rw[QK hl]at h;cases h;rfl
 .rw[Jd (by rw[QU];lia)]at h;cases h
theorem DpOk.setOther{i:Nat}{x:Option V}{y:Option Sl}(k:DpOk K B G H σ ρ)(hy:∀s,y=O s->∃d,s=.pub d):DpOk K B G H (σ.set i x) (ρ.set i y):=by
 have nz:∀{m:Nat}{s:Sl},(ρ.set i y)[m]?=O (O s)->(∃d,s=.pub d)∨(ρ[m]?=O (O s)/\(σ.set i x)[m]?=σ[m]?):=λ{m s} q=>by
  by_cases z:i=m
  .subst z
   exact .inl (hy s (KS q).symm)
  .rw[Qj z]at q⊢;exact .inr ⟨q,rfl⟩
 refine k.map (λm p d q=>?_) (λm es q=>?_) λm p d v fp q s r w n=>⟨r,w⟩
 .rcases nz q with ⟨_,e⟩|q
  .cases e
  .exact q
 .rcases nz q with ⟨_,e⟩|q
  .cases e
  .exact⟨es,q⟩
theorem EOk.setPub{i:Nat}{v:V}{d:D}(k:EOk K B G0 G H σ ρ)(r:Rep K G v d)(hi:i<ρ.length):EOk K B G0 G H (σ.set i (O v)) (ρ.set i (O (.pub d))) where
 bh:=k.bh
 gh:=k.gh
 g0:=k.g0
 np:=k.np
 len:=by rw[QU,QU];exact k.len
 pub:=λj d' q=>by
  by_cases z:i=j
  .subst z
   have:=KS q;cases this;exact⟨v,QK (by rw[←k.len];exact hi),r⟩
  .rw[Qj z]at q⊢
   exact k.pub j d' q
 own:=λj ds q=>by
  by_cases z:i=j
  .subst z
   have:=KS q;cases this
  .rw[Qj z]at q⊢
   exact k.own j ds q
 sep:=λj l c es fs q1 q2 s1 s2=>by
  have z1:i≠j:=λz=>by subst z;have:=KS q1;cases this
  have z2:i≠l:=λz=>by subst z;have:=KS q2;cases this
  rw[Qj z1]at q1 s1;rw[Qj z2]at q2 s2;exact k.sep j l c es fs q1 q2 s1 s2
 dp:=k.dp.setOther (λs e=>by cases e;exact⟨_,rfl⟩)
structure NewL(K:Frag)(B G H:Hp)(σ:St)(ρ:UQ)(a:Ut)(vs:List V)(ds:xQ):Prop where
 b:B a=xN
 g:G a=xN
 h:H a=O (.lst vs)
 r:Reps K G vs ds
 f:∀(j:Nat) es,ρ[j]?=O (O (.own es))->σ[j]?≠O (O (.ref a))
 dp:∀(j:Nat) p d v fp,ρ[j]?=O (O (.deep p d))->σ[j]?=O (O v)->RepO K G H p v d fp->a∉fp
theorem EOk.freshD{H':Hp}{a:Ut}(k:EOk K B G0 G H σ ρ)(e:Same H H')(ha:H a=xN){G':Hp}{j:Nat}{p:Pat}{d:D}{v:V}{fp:xW}(q:ρ[j]?=O (O (.deep p d)))(s:σ[j]?=O (O v))(r:RepO K G' H' p v d fp):a∉fp:=λm=>by obtain⟨ω,k1,k2⟩:=k.dp;obtain⟨v',fp',s',r',n,w⟩:=k1 j p d q;rw[s]at s';cases s';have u:=r'.uniq e r;subst u;obtain⟨ws,hl⟩:=r'.isl a m;rw[ha]at hl;cases hl
theorem EOk.setOwn{i:Nat}{a:Ut}{vs:List V}{ds:xQ}(k:EOk K B G0 G H σ ρ)(n:NewL K B G H σ ρ a vs ds)(hi:i<ρ.length):EOk K B G0 G H (σ.set i (O (.ref a))) (ρ.set i (O (.own ds))) where
 bh:=k.bh
 gh:=k.gh
 g0:=k.g0
 np:=k.np
 len:=by rw[QU,QU];exact k.len
 pub:=λj d' q=>by
  by_cases z:i=j
  .subst z
   have:=KS q;cases this
  .rw[Qj z]at q⊢
   exact k.pub j d' q
 own:=λj es q=>by
  by_cases z:i=j
  .subst z
   have:=KS q;cases this;exact⟨a,vs,QK (by rw[←k.len];exact hi),n.b,n.g,n.h,n.r⟩
  .rw[Qj z]at q⊢
   exact k.own j es q
 sep:=λj l c es fs q1 q2 s1 s2=>by
  have hs:i<σ.length:=by rw[←k.len];exact hi
  by_cases z1:i=j
  .subst z1
   rw[QK hs]at s1;cases s1;by_cases z2:i=l
   .exact z2
   .rw[Qj z2]at q2 s2
    exact absurd s2 (n.f l fs q2)
  .by_cases z2:i=l
   .subst z2
    rw[QK hs]at s2;cases s2;rw[Qj z1]at q1 s1;exact absurd s1 (n.f j es q1)
   .rw[Qj z1]at q1 s1
    rw[Qj z2]at q2 s2;exact k.sep j l c es fs q1 q2 s1 s2
 dp:=by
  obtain⟨ω,k1,k2⟩:=k.dp;have hs:i<σ.length:=by rw[←k.len];exact hi
  refine⟨λb=>if b=a then i else ω b,λj p d q=>?_,λj es b q s=>?_⟩
  .by_cases z:i=j
   .subst z;have:=KS q;cases this
   .rw[Qj z]at q⊢
    obtain⟨v,fp,s,r,nn,w⟩:=k1 j p d q;refine⟨v,fp,s,r,nn,λb m=>⟨(w b m).1,(w b m).2.1,?_⟩⟩;dsimp only;rw[Qw (λz=>n.dp j p d v fp q s r (by rw[←z];exact m))];exact(w b m).2.2
  .by_cases z:i=j
   .subst z
    rw[QK hs]at s;cases s;dsimp only;rw[Qq xM]
   .rw[Qj z]at q s
    dsimp only;rw[Qw (λe=>n.f j es q (by rw[←e];exact s))];exact k2 j es b q s
theorem EOk.change{i:Nat}{a:Ut}{vs:List V}{ds es:xQ}(k:EOk K B G0 G H σ ρ)(q:ρ[i]?=O (O (.own ds)))(ha:σ[i]?=O (O (.ref a)))(r:Reps K G vs es) :
  EOk K B G0 G (upd H a (.lst vs)) σ (ρ.set i (O (.own es))):=by
 obtain⟨a',ws,h1,h2,h3,h4,h5⟩:=k.own i ds q;rw[ha]at h1;cases h1;have hi:i<ρ.length:=(Ql.mp q).1;refine⟨λb o e=>?_,λb o e=>?_,k.g0,k.np,by rw[QU];exact k.len,λj d' e=>?_,λj fs e=>?_,λj l c fs gs q1 q2 s1 s2=>?_,?_⟩
 .rw[Ki (Yo e h2)];exact k.bh b o e
 .rw[Ki (Yo e h3)];exact k.gh b o e
 .by_cases z:i=j
  .subst z
   have:=KS e;cases this
  .rw[Qj z]at e
   exact k.pub j d' e
 .by_cases z:i=j
  .subst z
   have:=KS e;cases this;exact⟨a,vs,ha,h2,h3,Ks,r⟩
  .rw[Qj z]at e
   obtain⟨c,us,g1,g2,g3,g4,g5⟩:=k.own j fs e;have zc:c≠a:=λw=>z (k.sep i j a ds fs q e ha (by rw[←w];exact g1))
   exact⟨c,us,g1,g2,g3,by rw[Ki zc];exact g4,g5⟩
 .have f:∀{m:Nat}{ts:xQ},(ρ.set i (O (Sl.own es)))[m]?=O (O (.own ts))->∃ts',ρ[m]?=O (O (.own ts')):=λ{m ts} e=>by
   by_cases z:i=m
   .subst z;exact⟨ds,q⟩
   .rw[Qj z]at e;exact⟨ts,e⟩
  obtain⟨f1,w1⟩:=f q1;obtain⟨f2,w2⟩:=f q2;exact k.sep j l c f1 f2 w1 w2 s1 s2
 .refine k.dp.map (λj p d e=>?_) (λj fs e=>?_) λj p d v fp qj s rj w n=>⟨rj.upd (λ_ z=>by rw[h4]at z;cases z) (n i ds a q ha),w⟩
  .by_cases z:i=j
   .subst z;have:=KS e;cases this
   .rw[Qj z]at e;exact⟨e,rfl⟩
  .by_cases z:i=j
   .subst z;exact⟨ds,q,rfl⟩
   .rw[Qj z]at e;exact⟨fs,e,rfl⟩
end
inductive Out where
 |nx (ρ:UQ)|rt (d:D)|bk (ρ:UQ)|ct (ρ:UQ)|ex (ρ:UQ) (d:D)|ro (ds:xQ)|bad
abbrev SM:=UQ->Out
section
variable(K:Frag)(B G0:Hp)(KX:XW)
def aftS(o:Out)(G1:Hp)(Dn:Ends):Prop:=
 match o with
 |.nx ρ=>∀σ G H,EOk K B G0 G H σ ρ->Same G1 G->Dn.nx σ H
 |.bk ρ=>∀σ G H,EOk K B G0 G H σ ρ->Same G1 G->Dn.bk σ H
 |.ct ρ=>∀σ G H,EOk K B G0 G H σ ρ->Same G1 G->Dn.ct σ H
 |.rt d=>∀v G H,Ext G0 B G H->Rep K G v d->Dn.rt v H
 |.ro ds=>∀a vs G H,Ext G0 B G H->B a=xN->G a=xN->H a=O (.lst vs)->Reps K G vs ds->Dn.rt (.ref a) H
 |.ex ρ d=>∀v σ G H,EOk K B G0 G H σ ρ->Same G1 G->Rep K G v d->KX v σ H
 |.bad=>False
noncomputable def tS(g:SM):TS:=λDn σ H=>∃G ρ,EOk K B G0 G H σ ρ/\aftS K B G0 KX (g ρ) G Dn
noncomputable def sB{α:Type}(f:M α)(g:α->SM):SM:=λρ=>match f ρ with | .ok a ρ'=>g a ρ' | .bad=>.bad
end
section
variable{X:Cx}{B G0:Hp}{KX:XW}{e a b c:Uv}{pos:Pos}{es rest:xU}{st:Stmt}{sts sts2:List Stmt}
theorem aftS.mono{K:Frag}{o:Out}{G G':Hp}{Dn:Ends}(e:Same G G')(h:aftS K B G0 KX o G Dn):aftS K B G0 KX o G' Dn:=by
 cases o with
 |nx ρ=>exact λσ G2 H2 k s=>h σ G2 H2 k (e.trans s)
 |bk ρ=>exact λσ G2 H2 k s=>h σ G2 H2 k (e.trans s)
 |ct ρ=>exact λσ G2 H2 k s=>h σ G2 H2 k (e.trans s)
 |rt d=>exact h
 |ro ds=>exact h
 |ex ρ d=>exact λv σ G2 H2 k s r=>h v σ G2 H2 k (e.trans s) r
 |bad=>exact h
theorem tS.bnd{K:Frag}{α γ:Type}{R:Hp->γ->α->Prop}{f:M α}{g:α->SM}{Dn:Ends}{σ:St}{H:Hp}{P:γ->Hp->Prop}(q:tS K B G0 KX (sB f g) Dn σ H)
  (i:∀v H' G' ρ' x,EOk K B G0 G' H' σ ρ'->R G' v x->aftS K B G0 KX (g x ρ') G' Dn->P v H'):tM K B G0 R f σ H P:=by
 obtain⟨G,ρ,k,a⟩:=q;refine⟨G,ρ,k,?_⟩;unfold sB at a;cases z:f ρ with
 |bad=>rw[z]at a;exact a.elim
 |ok d ρ1=>rw[z]at a;exact λv G' H' e s r=>i v H' G' ρ1 d e r (aftS.mono s a)
noncomputable def sNx:SM:=λρ=>.nx ρ
noncomputable def UV(g h:SM):SM:=λρ=>match g ρ with | .nx ρ'=>h ρ'|o=>o
theorem Eo:PSs X [] (tS X.K B G0 KX sNx):=W1 CU λD σ H ⟨G,ρ,k,a⟩=>a σ G H k (.refl _)
theorem X4{g h:SM}(h1:PS X st (tS X.K B G0 KX g))(h2:PSs X sts (tS X.K B G0 KX h)):PSs X (st::sts) (tS X.K B G0 KX (UV g h)):=W1 (VM h1 h2) λD σ H ⟨G,ρ,k,a⟩=>by
 refine⟨G,ρ,k,?_⟩;unfold UV at a;cases z:g ρ with
 |nx ρ1=>rw[z]at a;exact λσ' G' H' k' s'=>⟨G',ρ1,k',aftS.mono s' a⟩
 |rt d=>rw[z]at a;exact a
 |ro ds=>rw[z]at a;exact a
 |bk ρ1=>rw[z]at a;exact a
 |ct ρ1=>rw[z]at a;exact a
 |ex ρ1 d=>rw[z]at a;exact a
 |bad=>rw[z]at a;exact a.elim
theorem TM{g:SM}(h1:PS X st (tS X.K B G0 KX g)):PSs X [st] (tS X.K B G0 KX g):=TR h1
noncomputable def VD:SM:=λ_=>.bad
theorem AH:PS X st (tS X.K B G0 KX VD):=λ_ _ _ _ _ _ ⟨_,_,_,a⟩=>a.elim
noncomputable def Kc(f:M D):SM:=sB f λd _=>.rt d
theorem PL{f:M D}(h:PE X e (tD X.K B G0 f)):PS X (.Return (O e) pos) (tS X.K B G0 KX (Kc f)):=KO (PP h) λD σ H q=>tS.bnd (R:=Rep X.K) q λv H' G' ρ' x k r a=>a v G' H' k.exit r
noncomputable def Xj(f:M D):SM:=sB f λ_ ρ=>.nx ρ
theorem P1{f:M D}(h:PE X e (tD X.K B G0 f))(hs:swapsWith e xN pos.line X.env=pure xP:=by rfl):PS X (.Expr e pos) (tS X.K B G0 KX (Xj f)):=KO (Xz h hs) λD σ H q=>tS.bnd (R:=Rep X.K) q λv H' G' ρ' x k r a=>a σ G' H' k (.refl _)
noncomputable def sIf(f:M Bool)(g h:SM):SM:=sB f λt=>if t=xO then g else h
theorem FI{f:M Bool}{g h:SM}(hc:PT X c (tBo X.K B G0 f))(ha:PSs X sts (tS X.K B G0 KX g))(hb:PSs X sts2 (tS X.K B G0 KX h)):PS X (.If c sts sts2 pos) (tS X.K B G0 KX (sIf f g h)):=
 KO (Fa hc ha hb) λD σ H q=>tS.bnd (R:=λ_ b c=>b=c) q λv H' G' ρ' x k r a=>by
  have r:v=x:=r;subst r;cases v with
  |true=>exact⟨G',ρ',k,a⟩
  |false=>exact⟨G',ρ',k,a⟩
noncomputable def tG(K:Frag)(B G0:Hp)(s:D->UQ->xX):TG:=λv σ H Q=>∃G ρ d ρ',EOk K B G0 G H σ ρ/\Rep K G v d/\s d ρ=O ρ'/\∀σ' G' H',EOk K B G0 G' H' σ' ρ'->Same G G'->Q σ' H'
noncomputable def tGs(K:Frag)(B G0:Hp)(s:xQ->UQ->xX):TGs:=λv σ H Q=>∃G ρ d ρ',EOk K B G0 G H σ ρ/\Reps K G v d/\s d ρ=O ρ'/\∀σ' G' H',EOk K B G0 G' H' σ' ρ'->Same G G'->Q σ' H'
theorem pgof{t t':TG}(h:PG X e t)(i:∀v σ H Q,t' v σ H Q->t v σ H Q):PG X e t':=λpins s σ H v u Q I r q=>h pins s σ H v u Q I r (i v σ H Q q)
theorem Nq{t t':TGs}(h:PGs X es t)(i:∀v σ H Q,t' v σ H Q->t v σ H Q):PGs X es t':=λpins s σ H v u Q I r q=>h pins s σ H v u Q I r (i v σ H Q q)
noncomputable def gN(i:Nat):D->UQ->xX:=λd ρ=>if i<ρ.length then O (ρ.set i (O (.pub d)))else xN
theorem SD{i:Nat}(h:PG X e (Sq i)):PG X e (tG X.K B G0 (gN i)):=pgof h λv σ H Q ⟨G,ρ,d,ρ',k,r,e,q⟩=>by
 unfold gN at e;split at e
 .rename_i hi
  cases e;exact q _ G H (k.setPub r hi) (.refl _)
 .cases e
noncomputable def gN0:xQ->UQ->xX:=λd ρ=>match d with | []=>O ρ|_=>xN
noncomputable def gNC(s:D->UQ->xX)(t:xQ->UQ->xX):xQ->UQ->xX:=λds ρ=>match ds with|d::r=>(s d ρ).bind (t r) | []=>xN
theorem En:PGs X [] (tGs X.K B G0 gN0):=Nq CT λv σ H Q ⟨G,ρ,d,ρ',k,r,e,q⟩=>by
 cases r with
 |nil=>cases e;exact⟨rfl,q σ G H k (.refl _)⟩
 |cons _ _=>cases e
theorem Bq{s:D->UQ->xX}{t:xQ->UQ->xX}(h1:PG X e (tG X.K B G0 s))(h2:PGs X es (tGs X.K B G0 t))
  (hs:(UN (e::es) X.env).map (·.2)=assign e X.env::(UN es X.env).map (·.2):=by rfl):PGs X (e::es) (tGs X.K B G0 (gNC s t)):=Nq (At h1 h2 hs) λv σ H Q ⟨G,ρ,d,ρ',k,r,e,q⟩=>by
 cases r with
 |nil=>cases e
 |@cons w dw ws dws rw rt=>
  unfold gNC at e;dsimp only at e;cases z:s dw ρ with
  |none=>rw[z]at e;cases e
  |some ρ1=>rw[z]at e;refine⟨w,ws,rfl,G,ρ,dw,ρ1,k,rw,z,λσ' G' H' k' s'=>?_⟩;exact⟨G',ρ1,dws,ρ',k',rt.mono s',e,λσ2 G2 H2 k2 s2=>q σ2 G2 H2 k2 (s'.trans s2)⟩
noncomputable def gT(n:Nat)(t:xQ->UQ->xX):D->UQ->xX:=λd ρ=>match d with | .tuple ds=>if ds.length=n then t ds ρ else xN|_=>xN
theorem Em{k1:Nat}{t:xQ->UQ->xX}{n:Nat}(hc:X.calm=xO)(h:PGs X es (tGs X.K B G0 t))
  (hn:(UN es X.env).length=n:=by rfl) (hst:(UN es X.env).findIdx? (·.1)=xN:=by rfl):PG X (.Tuple es k1 pos) (tG X.K B G0 (gT n t)):=pgof (DE hc h hn hst) λv σ H Q ⟨G,ρ,d,ρ',k,r,e,q⟩=>by
 unfold gT at e;split at e
 .split at e
  .rename_i hl
   obtain⟨ad,vs,rfl,h1,r1⟩:=r.tup_inv;exact⟨ad,vs,rfl,YE k.gh h1,by rw[r1.length];exact hl,G,ρ,_,ρ',k,r1,e,q⟩
  .cases e
 .cases e
noncomputable def ZV(f:M D)(s:D->UQ->xX):SM:=sB f λd ρ=>match s d ρ with|some ρ'=>.nx ρ'|none=>.bad
theorem El{tg:Uv}{f:M D}{s:D->UQ->xX}(he:PE X e (tD X.K B G0 f))(hg:PG X tg (tG X.K B G0 s))(hs:swapsWithSole [tg] e pos.line X.env=pure xP:=by rfl)(hw:swappedStores [tg] e X.env=pure xN:=by rfl)
  (h1:(UN [tg] X.env).map (·.2)=[assign tg X.env]:=by rfl):PS X (.Assign [tg] e pos) (tS X.K B G0 KX (ZV f s)):=
 KO (DD he hg hs hw h1) λD σ H q=>tS.bnd (R:=Rep X.K) q λv H' G' ρ' x k r a=>by
  cases z:s x ρ' with
  |none=>rw[z]at a;exact a.elim
  |some ρ2=>rw[z]at a;exact⟨G',ρ',x,ρ2,k,r,z,λσ2 G2 H2 k2 s2=>a σ2 G2 H2 k2 s2⟩
noncomputable def Kh(i:Nat)(f:M D):SM:=ZV f (gN i)
theorem Ek{i:Nat}{x:Str}{f:M D}{p2:Pos}(hN:X.N.Nodup)(hi:X.N[i]?=O x)(hx:Loc X.env.scope x)(he:PE X e (tD X.K B G0 f))(hs:swapsWith e (O (.Name x p2)) pos.line X.env=pure xP:=by rfl)
  (hf:X.fn x=xO∨X.env.scope.names.lookup x=O .local:=by first|exact .inl rfl|exact .inr rfl|assumption):PS X (.Assign [.Name x p2] e pos) (tS X.K B G0 KX (Kh i f)):=
 KO (PN hN hi hx he hs hf) λD σ H q=>tS.bnd (R:=Rep X.K) q λv H' G' ρ' x k r a=>by
  unfold gN at a;split at a
  .rename_i ρ2 hz
   split at hz
   .rename_i hi2
    cases hz;exact a _ G' H' (k.setPub r hi2) (.refl _)
   .cases hz
  .exact a.elim
noncomputable def tL(K:Frag)(B G0:Hp)(f:M xQ):TE:=λσ H Q=>∃G ρ,EOk K B G0 G H σ ρ/\match f ρ with
 |.ok ds ρ'=>∀a vs G' H',EOk K B G0 G' H' σ ρ'->Same G G'->NewL K B G' H' σ ρ' a vs ds->Q (.ref a) H'
 |.bad=>False
noncomputable def Kz(i:Nat)(f:M xQ):SM:=sB f λds ρ=>if i<ρ.length then .nx (ρ.set i (O (.own ds)))else .bad
theorem RJ{i:Nat}{x:Str}{f:M xQ}{p2:Pos}(hN:X.N.Nodup)(hi:X.N[i]?=O x)(hx:Loc X.env.scope x)(he:PE X e (tL X.K B G0 f))(hs:swapsWith e (O (.Name x p2)) pos.line X.env=pure xP:=by rfl)
  (hf:X.fn x=xO∨X.env.scope.names.lookup x=O .local:=by first|exact .inl rfl|exact .inr rfl|assumption):PS X (.Assign [.Name x p2] e pos) (tS X.K B G0 KX (Kz i f)):=
 KO (PN hN hi hx he hs hf) λD σ H ⟨G,ρ,k,a⟩=>by
  refine⟨G,ρ,k,?_⟩;unfold Kz sB at a;cases z:f ρ with
  |bad=>rw[z]at a;exact a.elim
  |ok ds ρ1=>
   rw[z]at a;intro ad vs G' H' k' s' n;dsimp only at a;split at a
   .rename_i hl
    exact a _ G' H' (k'.setOwn n hl) s'
   .exact a.elim
theorem NewL.of{K:Frag}{G H:Hp}{σ:St}{ρ:UQ}{p:Ut}{vs:List V}{ds:xQ}(k:EOk K B G0 G H σ ρ)(hp:H p=xN)(r:Reps K G vs ds):NewL K B G (upd H p (.lst vs)) σ ρ p vs ds where
 b:=k.bh.free hp
 g:=k.gh.free hp
 h:=Ks
 r:=r
 f:=λj es q z=>by obtain⟨a,ws,h1,h2,h3,h4,h5⟩:=k.own j es q;rw[z]at h1;cases h1;rw[hp]at h4;cases h4
 dp:=λj pt d v fp q s rr=>k.freshD (Zd hp) hp q s rr
theorem TQ{f:M xQ}(h:PA X es (tDs X.K B G0 f)):PE X (.List es pos) (tL X.K B G0 (U2 f λxs=>if xs.length<=1000000 then UU xs else λ_=>.bad)):=
 Kb (RC h) λσ H Q ⟨G,ρ,k,a⟩=>by
  refine⟨G,ρ,k,?_⟩;unfold U2 at a;cases z:f ρ with
  |bad=>rw[z]at a;exact a.elim
  |ok ds ρ1=>
   rw[z]at a;dsimp only at a;intro v G' H' k' s' r;by_cases c:ds.length<=1000000
   .rw[Qq c]at a
    refine⟨by rw[r.length];exact Qt c lim,λp hp=>?_⟩;exact a p v G' _ (k'.ext (Ext.hid k'.gh hp)) s' (NewL.of k' hp r)
   .rw[Qw c]at a;exact a.elim
noncomputable def KN(i:Nat)(f:M D):SM:=λρ0=>match ρ0[i]? with
 |some (O (.own _))=>sB f (λd ρ=>match ρ[i]? with
  |some (O (.own ds))=>if ds.length<1000000 then .nx (ρ.set i (O (.own (ds++[d]))))else .bad
  |_=>.bad) ρ0
 |_=>.bad
theorem Rx{i:Nat}{f:M D}{o:Uv}{apos cpos:Pos}(ho:PE X o (Kl i))(he:PE X e (tD X.K B G0 f))
  (hbase:attributeBase o "append" X.env (eval o X.env)=eval o X.env:=by rfl)
  (hfew:((backTo cpos (Uy [e] X.env)).all (λx=>!x.1)&&(backToKw cpos (keywordEach [] X.env)).all (λx=>x.1.isSome)
   && decide ([e].length+([]:List Keyword).length+(if([]:List Keyword).isEmpty then 0 else 1)<30))=xO:=by rfl)
  (hline:(apos.endLine==cpos.line)=xO:=by rfl) (hs:Uy [e] X.env=[(xP,eval e X.env)]:=by rfl)
  (hsw:swapsWith (.Call (.Attribute o "append" apos) [e] [] cpos) xN pos.line X.env=pure xP:=by rfl) :
  PS X (.Expr (.Call (.Attribute o "append" apos) [e] [] cpos) pos) (tS X.K B G0 KX (KN i f)):=
 KO (Xz (Wl Q9 Js Jt Wv ho (Zq he Z4 (by rw[hs];rfl)) hbase hfew hline (by rw[hs];rfl) xM) hsw) λD σ H ⟨G,ρ,k,a⟩=>by
  unfold KN at a;cases q0:ρ[i]? with
  |none=>rw[q0]at a;exact a.elim
  |some o0=>
   cases o0 with
   |none=>rw[q0]at a;exact a.elim
   |some sl0=>
    cases sl0 with
    |deep _ _=>rw[q0]at a;exact a.elim
    |pub d=>rw[q0]at a;exact a.elim
    |own ww=>
     rw[q0]at a;obtain⟨ad,vs0,h1,h2,h3,h4,h5⟩:=k.own i ww q0;refine⟨.ref ad,h1,.inl ⟨rfl,_,SqL.of h4⟩,G,ρ,k,?_⟩;unfold sB at a;cases z:f ρ with
     |bad=>rw[z]at a;exact a.elim
     |ok d ρ1=>
      rw[z]at a;dsimp only at a;intro v G' H' k' s' r';cases q:ρ1[i]? with
      |none=>rw[q]at a;exact a.elim
      |some o=>
       cases o with
       |none=>rw[q]at a;exact a.elim
       |some sl=>
        cases sl with
        |deep _ _=>rw[q]at a;exact a.elim
        |pub d=>rw[q]at a;exact a.elim
        |own ds=>
         rw[q]at a;dsimp only at a;split at a
         .rename_i hl
          obtain⟨ad',vs,g1,g2,g3,g4,g5⟩:=k'.own i ds q;rw[h1]at g1;cases g1;refine⟨ad,vs,v,rfl,rfl,g4,by rw[g5.length];exact Qy hl lim,?_⟩;exact a σ G' _ (k'.change q h1 (g5.append (.cons r' .nil))) s'
         .exact a.elim
end
structure Xi(K:Frag)(J:It)(ds:xQ)(G1:Hp):Prop where
 go:∀i G H,Same G1 G->Same G H->i<ds.length->J.go i H
 stop:∀i G H,Same G1 G->Same G H->ds.length<=i->J.stop i H
 yld:∀i G H x H' d,Same G1 G->Same G H->ds[i]?=O d->J.yld i H x H'->∃G',Ext G H G' H'/\Rep K G' x d
noncomputable def iD(K:Frag)(B G0:Hp)(f:M xQ):TI:=λσ H R=>∃G ρ,EOk K B G0 G H σ ρ/\match f ρ with
 |.ok ds ρ'=>∀J G' H',EOk K B G0 G' H' σ ρ'->Same G G'->Xi K J ds G'->R J H'
 |.bad=>False
section
variable{X:Cx}{B G0:Hp}{KX:XW}{e a b c tg:Uv}{pos:Pos}{es rest:xU}{st:Stmt}{sts sts2:List Stmt}
theorem Wx{t t':TI}(h:PI X tg e t)(i:∀σ H R,t' σ H R->t σ H R):PI X tg e t':=λpins s σ H R I q=>h pins s σ H R I (i σ H R q)
theorem tM.toI{K:Frag}{α γ:Type}{R0:Hp->γ->α->Prop}{f:M α}{g:α->M xQ}{σ:St}{H:Hp}{R:It->Hp->Prop}{P:γ->Hp->Prop}(q:iD K B G0 (U2 f g) σ H R)
  (i:∀v H' G' ρ' x,EOk K B G0 G' H' σ ρ'->R0 G' v x->(match g x ρ' with
   |.ok ds ρ2=>∀J G2 H2,EOk K B G0 G2 H2 σ ρ2->Same G' G2->Xi K J ds G2->R J H2
   |.bad=>False)->P v H'):tM K B G0 R0 f σ H P:=by
 obtain⟨G,ρ,k,a⟩:=q;refine⟨G,ρ,k,?_⟩;unfold U2 at a;cases z:f ρ with
 |bad=>rw[z]at a;exact a.elim
 |ok d ρ1=>
  rw[z]at a;intro v G' H' e s r;refine i v H' G' ρ1 d e r ?_;dsimp only at a;cases z2:g d ρ1 with
  |bad=>rw[z2]at a;exact a.elim
  |ok ds ρ2=>rw[z2]at a;exact λJ G2 H2 k2 s2 it=>a J G2 H2 k2 (s.trans s2) it
theorem ke{K:Frag}{G1:Hp}{ad:Ut}{vs:List V}{ds:xQ}(h:SqL K G1 ad vs)(r:Reps K G1 vs ds):Xi K (Itl K ad) ds G1 where
 go:=λi G H s1 s2 hi=>by
  have hi':i<vs.length:=by rw[r.length];exact hi
  exact⟨vs,vs[i],(s1.trans s2).seq h,Qe hi'⟩
 stop:=λi G H s1 s2 hi=>⟨vs,(s1.trans s2).seq h,by rw[r.length];exact hi⟩
 yld:=λi G H x H' d s1 s2 e y=>by obtain⟨rfl,y⟩:=y;obtain⟨v,e1,r1⟩:=r.get e;have:=y vs ((s1.trans s2).seq h);rw[e1]at this;cases this;exact⟨G,.refl s2,r1.mono s1⟩
noncomputable def Zr(lo hi:Int):xQ:=(UA (hi-lo).toNat).map λ(k:Nat)=>.int (lo+k)
theorem VY(lo hi:Int):(Zr lo hi).length=(hi-lo).toNat:=by unfold Zr;rw[Qb,Q5]
theorem HX{K:Frag}{G1:Hp}(lo hi:Int):Xi K (Itr lo (hi-lo).toNat) (Zr lo hi) G1 where
 go:=λi G H s1 s2 h=>by rw[VY]at h;exact h
 stop:=λi G H s1 s2 h=>by rw[VY]at h;exact h
 yld:=λi G H x H' d s1 s2 e y=>by
  obtain⟨rfl,rfl⟩:=y;unfold Zr at e;rw[Qp]at e;have hi:i<(UA (hi-lo).toNat).length:=by refine Nat.lt_of_not_le λz=>?_;rw[Jd z]at e;cases e
  rw[Qe hi,JG]at e;cases e;exact⟨G,.refl s2,.int _⟩
noncomputable def Wk:xQ->Option xQ
 |[.int j]=>if j<=1000000 /\ -1000000<=j then O (Zr 0 j)else xN
 |_=>xN
noncomputable def W0:xQ->Option xQ
 |[.int i,.int j]=>if j<=1000000 /\ -1000000<=j/\i<=1000000 /\ -1000000<=i then O (Zr i j)else xN
 |_=>xN
noncomputable def Xr(f:M xQ):M xQ:=U2 f λx=>U1 (Wk x)
noncomputable def Rf(f:M xQ):M xQ:=U2 f λx=>U1 (W0 x)
theorem qM{f:M xQ}{p2:Pos}(hg:Gl X "range")(hm:X.mg "range" = xN)(ha:PA X [a] (tDs X.K B G0 f))(hs:Uy [a] X.env=[(xP,eval a X.env)]:=by rfl) :
  PI X tg (.Call (.Name "range" p2) [a] [] pos) (iD X.K B G0 (Xr f)):=Wx (jR hg hm ha hs) λσ H R q=>tM.toI (R0:=Reps X.K) q λv H' G' ρ' x k r a=>by
 cases z:Wk x with
 |none=>rw[z]at a;exact a.elim
 |some ds=>
  rw[z]at a;unfold Wk at z;split at z
  .split at z
   .rename_i j c
    cases z;obtain⟨w,rfl,r'⟩:=r.one_inv;refine⟨j,by rw[r'.int_inv],by lia,by lia,?_⟩;have it:=HX (K:=X.K) (G1:=G') 0 j;rw[Int.sub_zero]at it;exact a _ G' H' k (.refl _) it
   .cases z
  .cases z
theorem qL{f:M xQ}{p2:Pos}(hg:Gl X "range")(hm:X.mg "range" = xN)(ha:PA X [a,b] (tDs X.K B G0 f))(hs:Uy [a,b] X.env=[(xP,eval a X.env),(xP,eval b X.env)]:=by rfl)(hs2:Uy [b] X.env=[(xP,eval b X.env)]:=by rfl) :
  PI X tg (.Call (.Name "range" p2) [a,b] [] pos) (iD X.K B G0 (Rf f)):=Wx (jQ hg hm ha hs hs2) λσ H R q=>tM.toI (R0:=Reps X.K) q λv H' G' ρ' x k r a=>by
 cases z:W0 x with
 |none=>rw[z]at a;exact a.elim
 |some ds=>
  rw[z]at a;unfold W0 at z;split at z
  .split at z
   .rename_i i j c
    cases z;obtain⟨w,w',rfl,r1,r2⟩:=r.two_inv;refine⟨i,j,by rw[r1.int_inv,r2.int_inv],⟨by lia,by lia,by lia,by lia⟩,?_⟩;exact a _ G' H' k (.refl _) (HX i j)
   .cases z
  .cases z
noncomputable def ZB(n:Nat):xQ->xQ
 |[]=>[]
 |d::r=>.tuple [.int n,d]::ZB (n+1) r
theorem Na:∀(n:Nat)(ds:xQ),(ZB n ds).length=ds.length
 |_,[]=>rfl
 |n,d::r=>by rw[ZB,Qs,Qs,Na]
theorem LW:∀(n:Nat)(ds:xQ)(i:Nat),(ZB n ds)[i]?=ds[i]?.map λd=>.tuple [.int ((n+i:Nat):Int),d]
 |_,[],i=>by simp[ZB]
 |n,d::r,0=>by simp[ZB]
 |n,d::r,i+1=>by
  rw[ZB,Jw,Jw,LW (n+1) r i];have:n+1+i=n+(i+1):=by lia
  rw[this]
theorem jI{K:Frag}{G1:Hp}{ad:Ut}{vs:List V}{ds:xQ}(h:SqL K G1 ad vs)(r:Reps K G1 vs ds):Xi K (Ite K ad) (ZB 0 ds) G1 where
 go:=λi G H s1 s2 hi=>by
  rw[Na]at hi;have hi':i<vs.length:=by rw[r.length];exact hi
  exact⟨vs,vs[i],(s1.trans s2).seq h,Qe hi'⟩
 stop:=λi G H s1 s2 hi=>by rw[Na]at hi;exact⟨vs,(s1.trans s2).seq h,by rw[r.length];exact hi⟩
 yld:=λi G H x H' d s1 s2 e y=>by
  obtain⟨p,v,hp,rfl,y,rfl⟩:=y;rw[LW]at e;cases z:ds[i]? with
  |none=>rw[z]at e;cases e
  |some d0=>rw[z]at e;cases e;obtain⟨w,e1,r1⟩:=r.get z;have:=y vs ((s1.trans s2).seq h);rw[e1]at this;cases this;refine⟨upd G p (.tup [.int i,v]),Ext.new s2 hp,.tup (SqT.of Ks) (.cons ?_ (.cons ((r1.mono s1).mono (Zd (s2.free hp))) .nil))⟩;rw[JR];exact .int _
noncomputable def Si:xQ->Option xQ
 |[.list ds]=>O (ZB 0 ds)
 |_=>xN
noncomputable def YV(f:M xQ):M xQ:=U2 f λx=>U1 (Si x)
theorem Bp{f:M xQ}{p2:Pos}{elts:xU}{x1}{tp:Pos}(hg:Gl X "enumerate")(hm:X.mg "enumerate" = xN)(ha:PA X [a] (tDs X.K B G0 f))(hs:Uy [a] X.env=[(xP,eval a X.env)]:=by rfl) :
  PI X (.Tuple elts x1 tp) (.Call (.Name "enumerate" p2) [a] [] pos) (iD X.K B G0 (YV f)):=Wx (Bg hg hm ha hs) λσ H R q=>tM.toI (R0:=Reps X.K) q λv H' G' ρ' x k r a=>by
 cases z:Si x with
 |none=>rw[z]at a;exact a.elim
 |some ds=>
  rw[z]at a;unfold Si at z;split at z
  .cases z
   obtain⟨w,rfl,r'⟩:=r.one_inv;obtain⟨ad,vs,rfl,h1,r1⟩:=r'.lst_inv;exact⟨ad,vs,rfl,k.gh.seq h1,a _ G' H' k (.refl _) (jI h1 r1)⟩
  .cases z
noncomputable def XV(s:D->UQ->xX)(g:SM):xQ->SM
 |[],ρ=>.nx ρ
 |d::r,ρ=>match s d ρ with
  |none=>.bad
  |some ρ1=>match g ρ1 with
   |.nx ρ2=>XV s g r ρ2
   |.ct ρ2=>XV s g r ρ2
   |.bk ρ2=>.nx ρ2
   |.rt d=>.rt d
   |.ro ds=>.ro ds
   |.ex ρ2 d=>.ex ρ2 d
   |.bad=>.bad
noncomputable def Kq(f:M xQ)(s:D->UQ->xX)(g:SM):SM:=sB f λds=>XV s g ds
theorem Rw{iter:Uv}{body:List Stmt}{f:M xQ}{s:D->UQ->xX}{g:SM}(hp:PassesOwn (model X.prog X.w) X.A X.env X.xe)(hc:X.calm=xO)(hi:PI X tg iter (iD X.K B G0 f))(hg:PG X tg (tG X.K B G0 s))(hb:PSs X body (tS X.K B G0 KX g))
  (hs:∀x,UO iter X.env x=pure x:=by intro _;rfl):PS X (.For tg iter body [] pos) (tS X.K B G0 KX (Kq f s g)):=
 KO (N9 hp hc hi hg hb hs) λDn σ H ⟨G,ρ,k,a⟩=>by
  refine⟨G,ρ,k,?_⟩;unfold Kq sB at a;cases z:f ρ with
  |bad=>rw[z]at a;exact a.elim
  |ok ds ρ1=>
   rw[z]at a;dsimp only at a⊢;intro J G1 H1 k1 s1 it;refine⟨λi m σ' H'=>m=ds.length-i/\∃G' ρ',EOk X.K B G0 G' H' σ' ρ'/\Same G1 G'/\aftS X.K B G0 KX (XV s g (ds.drop i) ρ') G' Dn,⟨ds.length,by lia,G1,ρ1,k1,.refl _,by rw[Uj];exact aftS.mono s1 a⟩,?_⟩;rintro i m σ' H' ⟨rfl,G',ρ',k',s',a'⟩;by_cases hi:i<ds.length
   .right
    refine⟨it.go i G' H' s' k'.gh hi,λσ2 H2=>∃G2 ρ2,EOk X.K B G0 G2 H2 σ2 ρ2/\Same G1 G2/\aftS X.K B G0 KX (XV s g (ds.drop (i+1)) ρ2) G2 Dn,λσ2 H2 h2=>⟨ds.length-(i+1),by lia,rfl,h2⟩,λx H2 y=>?_⟩;obtain⟨G2,ex,rx⟩:=it.yld i G' H' x H2 ds[i] s' k'.gh (Qe hi) y;rw[JE hi,XV]at a';cases z2:s ds[i] ρ' with
    |none=>rw[z2]at a';exact a'.elim
    |some ρ2=>
     rw[z2]at a';dsimp only at a';refine⟨G2,ρ',ds[i],ρ2,k'.ext ex,rx,z2,λσ3 G3 H3 k3 s3=>⟨G3,ρ2,k3,?_⟩⟩;have s13:Same G1 G3:=(s'.trans ex.g).trans s3;cases z3:g ρ2 with
     |nx ρ3=>rw[z3]at a';exact λσ4 G4 H4 k4 s4=>⟨G4,ρ3,k4,s13.trans s4,aftS.mono ((ex.g.trans s3).trans s4) a'⟩
     |ct ρ3=>rw[z3]at a';exact λσ4 G4 H4 k4 s4=>⟨G4,ρ3,k4,s13.trans s4,aftS.mono ((ex.g.trans s3).trans s4) a'⟩
     |bk ρ3=>rw[z3]at a';exact λσ4 G4 H4 k4 s4=>a' σ4 G4 H4 k4 ((ex.g.trans s3).trans s4)
     |rt d=>rw[z3]at a';exact a'
     |ro ds=>rw[z3]at a';exact a'
     |ex ρ3 d=>rw[z3]at a';exact λv σ4 G4 H4 k4 s4 r4=>a' v σ4 G4 H4 k4 ((ex.g.trans s3).trans s4) r4
     |bad=>rw[z3]at a';exact a'.elim
   .left
    rw[List.drop_eq_nil_of_le (by lia)]at a';exact⟨it.stop i G' H' s' k'.gh (by lia),a' σ' G' H' k' (.refl _)⟩
theorem AG{k:Nat}{f:Ut}{fd:Uu}{ps:List Str}{F:xQ->xT}{g:M xQ}{x:Str}{p2:Pos}{n:Nat}(FK:FnOk X.prog X.w X.K X.mg X.base CX0 k f fd ps (spD X.K n F))(hr:Room k X.A)(hg:Gl X x)(hm:X.mg x=O (.ref f))(hk:PySem.W.keepIn X.K (.ref f)=xO)
  (hb:Yl X.K fd ps []) (ha:PA X (e::es) (tDs X.K B G0 g)) (hn:(e::es).length=n) (hdb:(x==("__debug__" : Str))=xP:=by decide) (he:Uy (e::es) X.env=(xP,eval e X.env)::Uy es X.env:=by rfl) (hpl:(backTo pos (Uy es X.env)).any (·.1)=xP:=by rfl) :
  PE X (.Call (.Name x p2) (e::es) [] pos) (tD X.K B G0 (U2 g λxs=>if xs.length=n then U1 (F xs)else λ_=>.bad)):=
 Kb (P4 FK hr hg hm hk hb .nil Ra ha hdb he hpl) λσ H Q q=>tM.one (R:=Reps X.K) q λv H2 G ρ ds k r a=>by
  split at a
  .rename_i hl
   obtain⟨d,e,a⟩:=a.opt;exact⟨G,ds,d,by rw[QH,r.length];exact hl,k.gh,by rw[QH];exact r,e,λw G' H' ex rw=>a.done k ex rw⟩
  .exact a.elim
end
noncomputable def Zk(N:List Str)(ds:xQ):UQ:=(ds.map λd=>O (Sl.pub d))++UB (N.length-ds.length) xN
theorem R8{K:Frag}{N:List Str}{G H:Hp}{vs:List V}{ds:xQ}(s:Same G H)(r:Reps K G vs ds):EOk K H G G H (L2.Xu N vs) (Zk N ds) where
 bh:=.refl _
 gh:=s
 g0:=.refl _
 np:=λ_ _ _ n=>n
 len:=by unfold L2.Xu Zk;rw[Qk,Qk,Qb,Qb,QB,QB,r.length]
 pub:=λi d q=>by
  unfold Zk at q;unfold L2.Xu;by_cases hi:i<ds.length
  .rw[QA (by rw[Qb];exact hi),Qp]at q
   cases z:ds[i]? with
   |none=>rw[z]at q;cases q
   |some d'=>rw[z]at q;cases q;obtain⟨v,e1,r1⟩:=r.get z;refine⟨v,?_,r1⟩;rw[QA (by rw[Qb,r.length];exact hi),Qp,e1];rfl
  .rw[QF (by rw[Qb];lia),QJ]at q
   split at q<;>cases q
 own:=λi es q=>by
  unfold Zk at q;by_cases hi:i<ds.length
  .rw[QA (by rw[Qb];exact hi),Qp]at q
   cases z:ds[i]? with
   |none=>rw[z]at q;cases q
   |some d'=>rw[z]at q;cases q
  .rw[QF (by rw[Qb];lia),QJ]at q
   split at q<;>cases q
 sep:=λi j a es fs q _ _ _=>by
  unfold Zk at q;by_cases hi:i<ds.length
  .rw[QA (by rw[Qb];exact hi),Qp]at q
   cases z:ds[i]? with
   |none=>rw[z]at q;cases q
   |some d'=>rw[z]at q;cases q
  .rw[QF (by rw[Qb];lia),QJ]at q
   split at q<;>cases q
 dp:=by
  have key:∀{i:Nat}{s:Sl},(Zk N ds)[i]?=O (O s)->∃d,s=.pub d:=λ{i s} q=>by
   unfold Zk at q;by_cases hi:i<ds.length
   .rw[QA (by rw[Qb];exact hi),Qp]at q
    cases z:ds[i]? with
    |none=>rw[z]at q;cases q
    |some d'=>rw[z]at q;cases q;exact⟨_,rfl⟩
   .rw[QF (by rw[Qb];lia),QJ]at q
    split at q<;>cases q
  exact .of (λi p d q=>by obtain⟨_,e⟩:=key q;cases e) λi ds q=>by obtain⟨_,e⟩:=key q;cases e
noncomputable def Kn(N:List Str)(g:SM)(ds:xQ):xT:=match g (Zk N ds)with
 |.rt d=>O d
 |.nx _=>O .none
 |_=>xN
theorem okD{P:Us}{w:World}{K:Frag}{mg:Str->xV}{base:Heap}{x qual:Str}{st:Stmt}{f:Ut}{fd:Uu}{N ps:List Str}{k n:Nat}{g:SM}(F:Fun K x qual st f fd)(S:W8 N ps (KI st))(hn:ps.length=n)
  (der:∀(cdv:Uq)(A:Around)(outer:List Env)(s:Ur)(H:Hp)(E:XK)(B G0:Hp),Room k (A.deeper (envOfC qual (KI st) s.heap.objs.size f cdv)) ->
   PSs (K7 CX0 P w K mg base N qual (KI st) f cdv A outer s H E).nox (ZP st) (tS K B G0 KX0 g)):FnOk P w K mg base CX0 (k+1) f fd ps (spD K n (Kn N g)):=by
 refine F.ok S (λvs H Q E h=>?_) (λcdv A outer s H vs Q E hr h=>?_)
 .obtain⟨_,_,_,hl,_⟩:=h
  rw[hl,hn]
 .obtain⟨G,ds,d,hl,sg,r,hF,q⟩:=h
  refine⟨_,der cdv A outer s H E H G hr,G,Zk N ds,R8 sg r,?_⟩;unfold Kn at hF;cases z:g (Zk N ds)with
  |rt d'=>rw[z]at hF;cases hF;exact λv G' H' ex rr=>q v G' H' ex rr
  |nx ρ=>rw[z]at hF;cases hF;exact λσ' G' H' k' _=>q .non G' H' k'.exit .non
  |ro ds=>rw[z]at hF;cases hF
  |bk ρ=>rw[z]at hF;cases hF
  |ct ρ=>rw[z]at hF;cases hF
  |ex ρ d=>rw[z]at hF;cases hF
  |bad=>rw[z]at hF;cases hF
section
variable{X:Cx}{B G0:Hp}{e a b c tg:Uv}{pos:Pos}{es rest:xU}
noncomputable def oNeg:D->xT
 |.int i=>O (.int (-i))
 |_=>xN
noncomputable def YN(f:M D):M D:=U2 f λx=>U1 (oNeg x)
theorem Bo{f:M D}(h:PE X a (tD X.K B G0 f)):PE X (.UnaryOp .USub a pos) (tD X.K B G0 (YN f)):=
 Kb (FZ Dv h) λσ H Q q=>tM.one (R:=Rep X.K) q λv H2 G ρ x k r a=>by
  cases x with
  |int i=>exact⟨i,r.int_inv,aft.now a k (.int _)⟩
  |_=>exact a.elim
end
def Def(P:Us)(w:World)(K:Frag)(mg:Str->xV)(base:Heap)(x:Str)(k n:Nat)(F:xQ->xT):Prop:=
 ∃(f:Ut)(fd:Uu)(ps:List Str),mg x=O (.ref f)/\PySem.W.keepIn K (.ref f)=xO/\Yl K fd ps []/\FnOk P w K mg base CX0 k f fd ps (spD K n F)
noncomputable def U4(n:Nat)(F:xQ->xT)(g:M xQ):M D:=U2 g λxs=>if xs.length=n then U1 (F xs)else λ_=>.bad
section
variable{X:Cx}{B G0:Hp}{e:Uv}{pos:Pos}{es:xU}
theorem Cg{k n:Nat}{F:xQ->xT}{g:M xQ}{x:Str}{p2:Pos}(d:Def X.prog X.w X.K X.mg X.base x k n F)(hr:Room k X.A)(hg:Gl X x)(ha:PA X (e::es) (tDs X.K B G0 g))(hn:(e::es).length=n:=by rfl)
  (hdb:(x==("__debug__" : Str))=xP:=by decide) (he:Uy (e::es) X.env=(xP,eval e X.env)::Uy es X.env:=by rfl) (hpl:(backTo pos (Uy es X.env)).any (·.1)=xP:=by rfl) :
  PE X (.Call (.Name x p2) (e::es) [] pos) (tD X.K B G0 (U4 n F g)):=by
 obtain⟨f,fd,ps,h1,h2,h3,h4⟩:=d;exact AG h4 hr hg h1 h2 h3 ha hn hdb he hpl
end
theorem Def.mk{P:Us}{w:World}{K:Frag}{mg:Str->xV}{base:Heap}{x:Str}{k n:Nat}{F:xQ->xT}{st:Stmt}{f:Ut}{fd:Uu}{ps:List Str}(hm:mg x=O (.ref f))(FU:Fun K x x st f fd)(hb:Yl K fd ps [])(ok:FnOk P w K mg base CX0 k f fd ps (spD K n F)) :
  Def P w K mg base x k n F:=⟨f,fd,ps,hm,FU.kp,hb,ok⟩
theorem Ej{K:Frag}{H:Hp}{a:Ut}{ns:xR}{F:xQ->xT}{E:XK}(hS:SqL K H a (ns.map V.int))(h:F [.list (ns.map int)]=O (.bool xO)):spD K 1 F [.ref a] H (λv _=>v=.bl xO) E:=
 ⟨H,[.list (ns.map int)],.bool xO,rfl,.refl _,.cons (.lst hS (Reps.ints ns)) .nil,h,λ_ _ _ _ r=>r.bl_inv⟩
end DL
namespace L2
open PySem PySem.Spec PyProof.Rows
theorem mem_of_lookup{x:Str}{k:NameKind}:∀{l:List (Str×NameKind)},l.lookup x=O k->(x,k)∈l
 |[],h=>by cases h
 |(y,j)::r,h=>by
  rw[QZ]at h;split at h
  .rename_i e
   cases h;have:x=y:=by simpa using e
   rw[this];exact Qf
  .exact Qh _ (mem_of_lookup h)
theorem O1{env:Env}:∀(l:List (Str×NameKind))(acc:List (Str×Ut)),(∀y∈l,y.2=.free->∃c,env.cells.lookup y.1=O c) ->
  ∃cl,(forIn l acc (λx r=>if(x.2==NameKind.free)=xO then(do let a ←cellOf env x.1;pure (ForInStep.yield ((x.1,a)::r)))else pure (ForInStep.yield r)):Sem (List (Str×Ut)))=pure cl /\
   (∀x c,cl.lookup x=O c->acc.lookup x=O c∨env.cells.lookup x=O c)/\(∀y∈l,y.2=.free->∃c,cl.lookup y.1=O c)/\(∀x c,acc.lookup x=O c->∃c',cl.lookup x=O c')
 |[],acc,_=>⟨acc,rfl,λ_ _ h=>.inl h,λ_ h=>absurd h (by simp),λx c h=>⟨c,h⟩⟩
 |(n,k)::r,acc,h=>by
  by_cases hk:k=.free
  .subst hk
   obtain⟨c,hc⟩:=h (n,.free) Qf xM;obtain⟨cl,e,p1,p2,p3⟩:=O1 r ((n,c)::acc) λy hy=>h y (Qh _ hy)
   have hco:cellOf env n=pure c:=by unfold cellOf;rw[hc]
   have key:∀x c',((n,c)::acc).lookup x=O c'->acc.lookup x=O c'∨env.cells.lookup x=O c':=λx c' q=>by
    rw[QZ]at q;split at q
    .rename_i e1
     cases q;have:x=n:=by simpa using e1
     subst this;exact .inr hc
    .exact .inl q
   have own:((n,c)::acc).lookup n=O c:=by rw[List.lookup_cons];simp
   refine⟨cl,?_,λx c' q=>?_,λy hy hf=>?_,λx c' q=>?_⟩
   .rw[List.forIn_cons]
    have:(if(((n,NameKind.free):Str×NameKind).2==NameKind.free)=xO then(do let a ←cellOf env n;pure (ForInStep.yield ((n,a)::acc)))else pure (ForInStep.yield acc):Sem _)=pure (ForInStep.yield ((n,c)::acc)):=by rw[Qq (show((n,NameKind.free).snd==NameKind.free)=xO from rfl),hco];rfl
    refine Eq.trans ?_ e;dsimp only at this⊢;rw[this];rfl
   .rcases p1 x c' q with z|z
    .exact key x c' z
    .exact .inr z
   .rcases QC.mp hy with z|z
    .subst z
     exact p3 n c own
    .exact p2 y z hf
   .by_cases hx:x=n
    .subst hx;exact p3 x c own
    .refine p3 x c' ?_
     have hb:(x==n)=xP:=by simpa using hx
     rw[QZ,hb];exact q
  .obtain⟨cl,e,p1,p2,p3⟩:=O1 r acc λy hy=>h y (Qh _ hy)
   refine⟨cl,?_,p1,λy hy hf=>?_,p3⟩
   .rw[List.forIn_cons]
    have hb:(k==NameKind.free)=xP:=by cases k<;>first|rfl|exact absurd xM hk
    refine Eq.trans ?_ e;dsimp only;rw[hb,Qw (by decide)];rfl
   .rcases QC.mp hy with z|z
    .subst z;exact absurd hf hk
    .exact p2 y z hf
theorem O0{scope:Scope}{env:Env}(h:∀y∈scope.names,y.2=.free->∃c,env.cells.lookup y.1=O c) :
  ∃cl,closureFor scope env=pure cl/\(∀x c,cl.lookup x=O c->env.cells.lookup x=O c)/\∀y∈scope.names,y.2=.free->∃c,cl.lookup y.1=O c:=by
 obtain⟨cl,e,p1,p2,_⟩:=O1 scope.names [] h;refine⟨cl,?_,λx c q=>(p1 x c q).elim (λz=>by cases z) id,p2⟩;have e2:((forIn scope.names [] (λx r=>if(x.2==NameKind.free)=xO then(do let a ←cellOf env x.1;pure (ForInStep.yield ((x.1,a)::r)))else pure (ForInStep.yield r)):Sem (List (Str×Ut))) >>= λs=>pure s)=pure cl:=by rw[e];rfl
 exact e2
theorem HW{env:Env}{x:Str}{k:NameKind}:∀{names:List (Str×NameKind)},(names.map λ(n,k)=>if(k==NameKind.free&&env.scope.kind==.function&&env.kindOf n==O .cell)then(n,NameKind.cell)else(n,k)).lookup x=O k ->
  names.lookup x=O k∨(names.lookup x=O .free/\k=.cell)
 |[],h=>by cases h
 |(n,j)::r,h=>by
  have ih:=@HW env x k r;have h:List.lookup x ((if(j==NameKind.free&&env.scope.kind==.function&&env.kindOf n==O .cell)=xO then(n,NameKind.cell)else(n,j))::_)=O k:=h;cases hx:x==n with
  |true=>
   by_cases hc:(j==NameKind.free&&env.scope.kind==.function&&env.kindOf n==O .cell)=xO
   .rw[Qq hc]at h
    simp only[QZ,hx]at h⊢;cases h;simp only[Qz]at hc;have:j=.free:=by have:=hc.1.1;cases j<;>first|rfl|cases this
    subst this;exact .inr ⟨rfl,rfl⟩
   .rw[Qw hc]at h
    simp only[QZ,hx]at h⊢;exact .inl h
  |false=>
   by_cases hc:(j==NameKind.free&&env.scope.kind==.function&&env.kindOf n==O .cell)=xO
   .rw[Qq hc]at h
    simp only[QZ,hx]at h⊢;exact ih h
   .rw[Qw hc]at h
    simp only[QZ,hx]at h⊢;exact ih h
theorem O9{env:Env}{x:Str}:∀{names:List (Str×NameKind)},names.lookup x=O .free ->
  (names.map λ(n,k)=>if(k==NameKind.free&&env.scope.kind==.function&&env.kindOf n==O .cell)then(n,NameKind.cell)else(n,k)).lookup x=O .free ∨
  (names.map λ(n,k)=>if(k==NameKind.free&&env.scope.kind==.function&&env.kindOf n==O .cell)then(n,NameKind.cell)else(n,k)).lookup x=O .cell
 |[],h=>by cases h
 |(n,j)::r,h=>by
  have ih:=@O9 env x r;show List.lookup x ((if(j==NameKind.free&&env.scope.kind==.function&&env.kindOf n==O .cell)=xO then(n,NameKind.cell)else(n,j))::_)=_∨List.lookup x ((if(j==NameKind.free&&env.scope.kind==.function&&env.kindOf n==O .cell)=xO then(n,NameKind.cell)else(n,j))::_)=_;cases hx:x==n with
  |true=>
   simp only[QZ,hx]at h;cases h;by_cases hc:(NameKind.free==NameKind.free&&env.scope.kind==.function&&env.kindOf n==O .cell)=xO
   .rw[if_pos hc];simp[List.lookup_cons,hx]
   .rw[if_neg hc];simp[List.lookup_cons,hx]
  |false=>
   simp only[QZ,hx]at h;by_cases hc:(j==NameKind.free&&env.scope.kind==.function&&env.kindOf n==O .cell)=xO
   .rw[Qq hc];simp only[QZ,hx];exact ih h
   .rw[Qw hc];simp only[QZ,hx];exact ih h
theorem Vm{env:Env}{x:Str}{k:NameKind}(hk:k≠.free):∀{names:List (Str×NameKind)},names.lookup x=O k ->
  (names.map λ(n,k)=>if(k==NameKind.free&&env.scope.kind==.function&&env.kindOf n==O .cell)then(n,NameKind.cell)else(n,k)).lookup x=O k
 |[],h=>by cases h
 |(n,j)::r,h=>by
  have ih:=@Vm env x k hk r;show List.lookup x ((if(j==NameKind.free&&env.scope.kind==.function&&env.kindOf n==O .cell)=xO then(n,NameKind.cell)else(n,j))::_)=_;cases hx:x==n with
  |true=>
   simp only[QZ,hx]at h;cases h;have:(k==NameKind.free)=xP:=by cases k<;>first|rfl|exact absurd xM hk
   rw[if_neg (by rw[this];simp)];simp[List.lookup_cons,hx]
  |false=>
   simp only[QZ,hx]at h;by_cases hc:(j==NameKind.free&&env.scope.kind==.function&&env.kindOf n==O .cell)=xO
   .rw[Qq hc];simp only[QZ,hx];exact ih h
   .rw[Qw hc];simp only[QZ,hx];exact ih h
structure ClOk(env:Env)(scope:Scope)(cl:List (Str×Ut))(L:Ut)(h':Heap):Prop where
 old:∀x c,cl.lookup x=O c->env.cells.lookup x=O c∨(L<c/\h'.IsCell c xN)
 fre:∀x,scope.names.lookup x=O .free->∃c,cl.lookup x=O c/\env.cells.lookup x=O c
 cel:∀x,scope.names.lookup x=O .cell->∃c,cl.lookup x=O c/\L<c
 inj:∀x y c,cl.lookup x=O c->cl.lookup y=O c->L<c->x=y
theorem SV:∀(names:List (Str×NameKind))(n:Nat)(acc:List (Str×Ut)),cellsFrom n names acc=cellsFrom n names []++acc
 |[],_,_=>rfl
 |(x,k)::r,n,acc=>by
  unfold cellsFrom;split
  .rw[SV r (n+1) ((x,n)::acc),SV r (n+1) [(x,n)],Ja];rfl
  .exact SV r n acc
theorem Nb:∀(names:List (Str×NameKind))(n:Nat)(x:Str)(c:Ut),(x,c)∈cellsFrom n names []->(x,NameKind.cell)∈names
 |[],_,_,_,h=>by cases h
 |(y,k)::r,n,x,c,h=>by
  unfold cellsFrom at h;split at h
  .rename_i hk
   rw[SV]at h;rcases QO.mp h with h|h
   .exact Qh _ (Nb r _ x c h)
   .cases QE.mp h
    have:k=.cell:=by simpa using hk
    rw[this];exact Qf
  .exact Qh _ (Nb r _ x c h)
theorem PK{M:Model}{A:Around}{E:Uq->Ur->Prop}{scope:Scope}{env:Env}{wy:List (Str×Ut)}{s:Ur}{Q:Env->Ur->Prop}(wc:∀x c,wy.lookup x=O c->env.cells.lookup x=O c)(wL:∀y∈scope.names,y.2=.free->∃c,wy.lookup y.1=O c)(hn:∀y∈scope.names,scope.names.lookup y.1=O y.2)
  (hlt:∀x c,env.cells.lookup x=O c->c<s.heap.objs.size)
  (h:∀h' cl,h'.Ns s.heap.objs.size (λ_=>xN)->(∀b o,s.heap.get? b=O o->h'.get? b=O o)->ClOk env scope cl s.heap.objs.size h'->Q (newEnv scope s.heap.objs.size env.globals cl env.qual xN .none (O env) builtinsNs) {s with heap:=h'}) :
  Ux M A (newFunctionEnv scope env.globals wy [] env.qual xN .none (O env)) Q E s:=by
 simp only[newFunctionEnv,Option.isSome_some,if_true];refine Qd (wpAny_alloc ?_);refine wpAny_bind (wpAny_layCells _ (λname kind cells=>by cases hkc:kind==NameKind.cell<;>simp[hkc]) _ _ _ _ ?_);have ok:=cellsFrom_ok scope.names (s.heap.push {cls:=.type "dict", data:=.dict #[]}) (s.heap.objs.size+1) [] ⟨λ_ _ hm=>(nomatch hm),List.Pairwise.nil⟩ (by rw[Jo];exact Qr _);rw[Jo]at ok;rw[show({s with heap:=s.heap.push {cls:=.type "dict", data:=.dict #[]}}:Ur).heap.objs.size=s.heap.objs.size+1 from Jo ..];rw[List.forIn_nil];refine Qd (Qm (Qm (h _ _ ((Heap.Ns.new s.heap (.type "dict")).keeps (pushCells_keeps _ _)) (λb o e=>pushCells_keeps _ _ b o (Qg _ e)) ?_)));have look:∀x,(cellsFrom (s.heap.objs.size+1) scope.names wy).lookup x=((cellsFrom (s.heap.objs.size+1) scope.names []).lookup x).or (wy.lookup x):=λx=>by rw[SV,List.lookup_append]
 have own:∀x c,(cellsFrom (s.heap.objs.size+1) scope.names []).lookup x=O c->scope.names.lookup x=O .cell:=λx c e=>hn _ (Nb _ _ _ _ (Ji e))
 refine⟨λx c e=>?_,λx e=>?_,λx e=>?_,λx y c e1 e2 hc=>?_⟩
 .rw[look]at e
  cases z:(cellsFrom (s.heap.objs.size+1) scope.names []).lookup x with
  |none=>rw[z]at e;exact .inl (wc x c e)
  |some c'=>rw[z]at e;cases e;obtain⟨h1,h2⟩:=ok.empty x c (Ji z);exact .inr ⟨h2,h1⟩
 .obtain⟨c,hc⟩:=wL (x,.free) (mem_of_lookup e) xM
  refine⟨c,?_,wc x c hc⟩;rw[look];cases z:(cellsFrom (s.heap.objs.size+1) scope.names []).lookup x with
  |none=>exact hc
  |some c'=>have:=own x c' z;rw[e]at this;cases this
 .obtain⟨c,hc⟩:=OA (n:=s.heap.objs.size+1) e
  refine⟨c,by rw[look,hc];rfl,(ok.empty x c (Ji hc)).2⟩
 .rw[look]at e1 e2
  cases z1:(cellsFrom (s.heap.objs.size+1) scope.names []).lookup x with
  |none=>rw[z1]at e1;exact absurd (hlt x c (wc x c e1)) (Nat.lt_asymm hc)
  |some c1=>
  cases z2:(cellsFrom (s.heap.objs.size+1) scope.names []).lookup y with
  |none=>rw[z2]at e2;exact absurd (hlt y c (wc y c e2)) (Nat.lt_asymm hc)
  |some c2=>rw[z1]at e1;rw[z2]at e2;cases e1;cases e2;exact name_of_addr ok.apart (Ji z1) (Ji z2)
noncomputable def Cx.blk(X:Cx)(N':List Str)(scope:Scope)(cl:List (Str×Ut))(C:Ut)(s₀:Ur)(H₀:Hp)(ex:xW):Cx:=
 {X with N:=N',s₀:=s₀,H₀:=H₀,env:=compEnvC scope cl C X.env,outer:=X.stack,ex:=ex,fn:=λx=>scope.names.lookup x==O .cell,xe:=λ_ _=>False}
section
variable{X:Cx}{N':List Str}{scope:Scope}{cl:List (Str×Ut)}{C:Ut}{s₀:Ur}{H₀:Hp}{ex:xW}{x:Str}
noncomputable def visK:Option NameKind->Bool
 |some .local=>xO|some .free=>xO|some .cell=>xO|_=>xP
theorem Cf(h:visK (scope.names.lookup x)=xO):Vis (X.blk N' scope cl C s₀ H₀ ex).env.scope x:=by
 cases z:scope.names.lookup x with
 |none=>rw[z]at h;cases h
 |some y=>
  rw[z]at h;cases y with
  | «local»=>exact .inl (Vm (by decide) z)
  |cell=>exact .inr (.inl (Vm (by decide) z))
  |free=>
   rcases O9 (env:=X.env) z with z|z
   .exact .inr (.inr z)
   .exact .inr (.inl z)
  |_=>cases h
noncomputable def locK:Option NameKind->Bool
 |some .local=>xO|some .cell=>xO|_=>xP
theorem RI(h:locK (scope.names.lookup x)=xO):Loc (X.blk N' scope cl C s₀ H₀ ex).env.scope x/\((X.blk N' scope cl C s₀ H₀ ex).fn x=xO∨(X.blk N' scope cl C s₀ H₀ ex).env.scope.names.lookup x=O .local):=by
 cases z:scope.names.lookup x with
 |none=>rw[z]at h;cases h
 |some y=>
  rw[z]at h;cases y with
  | «local»=>exact⟨.inl (Vm (by decide) z),.inr (Vm (by decide) z)⟩
  |cell=>exact⟨.inr (Vm (by decide) z),.inl (by show(scope.names.lookup x==O .cell)=xO;rw[z];rfl)⟩
  |_=>cases h
theorem Ei(h:scope.names.lookup x=O .globalImplicit):Gl (X.blk N' scope cl C s₀ H₀ ex) x:=Vm (by decide) h
end
noncomputable def SJ(names:List (Str×NameKind))(N N2:List Str)(k:Nat):Bool:=
 N2.length==N.length+k&&(UA N2.length).all λi=>match N2[i]? with
  |none=>xO
  |some x=>match names.lookup x with
   |some .free=>N[i]?==O x
   |some .local=>decide (N.length<=i)&&decide (i<N.length+k)
   |some .cell=>decide (N.length<=i)&&decide (i<N.length+k)
   |_=>xO
theorem kU{names:List (Str×NameKind)}{N N2:List Str}{k:Nat}(h:SJ names N N2 k=xO) :
  N2.length=N.length+k/\∀(i:Nat) x,N2[i]?=O x->(names.lookup x=O .free->N[i]?=O x)/\(names.lookup x=O .local∨names.lookup x=O .cell->N.length<=i/\i<N.length+k):=by
 unfold SJ at h;simp only[Qz,beq_iff_eq,Q3,Jl]at h;refine⟨h.1,λi x e=>?_⟩;have hi:=(Ql.mp e).1;have:=h.2 i hi;rw[e]at this;refine⟨λq=>?_,λq=>?_⟩
 .simp only[q]at this
  simpa using this
 .rcases q with q|q<;>(simp only[q]at this;simpa using this)
theorem Inv.enter{X:Cx}{pins:List (Ut×Obj)}{σ:St}{H:Hp}{s3:Ur}(I:Inv X pins σ H s3){scope:Scope}{cl:List (Str×Ut)}{N2:List Str}{k:Nat}{h':Heap}{fp:xW}{t':Nat}{m0:Str->xV}
  (hb:SJ scope.names X.N N2 k=xO) (hkind:scope.kind=.function)
  (hfree:∀y∈scope.names,y.2=.free->X.env.scope.names.lookup y.1=O .cell∨X.env.scope.names.lookup y.1=O .free)
  (hc:ClOk X.env scope cl s3.heap.objs.size h')
  (hn:h'.Ns s3.heap.objs.size m0) (hk:∀b o,s3.heap.get? b=O o->h'.get? b=O o) (hf:∀b∈fp,KP X pins H b) (hfo:∀b∈fp,∃o,s3.heap.get? b=O o) :
  Inv (X.blk N2 scope cl s3.heap.objs.size s3 H fp) pins (σ++UB k xN) H {s3 with heap:=h',toks:=t'}:=by
 obtain⟨hl,hN⟩:=kU hb;have lt:∀b o,s3.heap.get? b=O o->b≠s3.heap.objs.size:=λb o e=>QS (Qi e);have ofl:∀x,scope.names.lookup x=O .free->(x,NameKind.free)∈scope.names:=λx h=>mem_of_lookup h;have kinv:∀x kk,(X.blk N2 scope cl s3.heap.objs.size s3 H fp).env.scope.names.lookup x=O kk->scope.names.lookup x=O kk∨(scope.names.lookup x=O .free/\kk=.cell):=λx kk h=>HW (env:=X.env) h
 have isfc:∀x,(X.blk N2 scope cl s3.heap.objs.size s3 H fp).env.scope.names.lookup x=O .cell∨(X.blk N2 scope cl s3.heap.objs.size s3 H fp).env.scope.names.lookup x=O .free->scope.names.lookup x=O .free∨scope.names.lookup x=O .cell:=λx h=>by
  rcases h with h|h
  .rcases kinv x _ h with z|z
   .exact .inr z
   .exact .inl z.1
  .rcases kinv x _ h with z|z
   .exact .inl z
   .exact .inl z.1
 have lto:∀x c,X.env.cells.lookup x=O c->c<s3.heap.objs.size:=λx c e=>let ⟨_,q⟩:=I.cell x c e;q.lt
 have ok:(X.blk N2 scope cl s3.heap.objs.size s3 H fp).Ok:=
  {
   mod:=I.ok.mod
   kind:=hkind
   glob:=I.ok.glob
   blt:=I.ok.blt
   above:=Qr _
   inj:=λx y c a b=>by
    rcases hc.old x c a with q|⟨q,_⟩
    .rcases hc.old y c b with q'|⟨q',_⟩
     .exact I.ok.inj x y c q q'
     .exact absurd (lto x c q) (Nat.lt_asymm q')
    .exact hc.inj x y c a b q
   has:=λx h=>by
    rcases isfc x h with z|z
    .exact let ⟨c,e,_⟩:=hc.fre x z;⟨c,e⟩
    .exact let ⟨c,e,_⟩:=hc.cel x z;⟨c,e⟩
   cab:=λx c h e=>by
    have z:scope.names.lookup x=O .cell:=by have h:(scope.names.lookup x==O .cell)=xO:=h;simpa using h
    obtain⟨c',e',l⟩:=hc.cel x z;have e:cl.lookup x=O c:=e;rw[e]at e';cases e';exact Ug l
   hd:=I.ok.hd
   frames:=I.ok.frames
   stk:=.inl xM
   exf:=λb hb=>⟨let ⟨o,e⟩:=hfo b hb;lt b o e,λx c e=>by
    rcases hc.old x c e with q|⟨q,_⟩
    .exact(hf b hb).2.2.2.2.1 x c q
    .obtain⟨o,e'⟩:=hfo b hb
     exact Jq (Nat.lt_trans (Qi e') q)⟩
   bs:=I.bs
   bsz:=Qt I.ok.bsz I.sz
   noex:=λb o e hb=>by
    rcases(hf b hb).2.2.2.1 with z|z
    .exact I.ok.noex b o e z
    .exact absurd (Qy (Qi e) (Qt I.ok.bsz z)) (Jm _)
   exfs:=λb hb hx=>by
    rcases QC.mp (I.stkSub b hx)with z|z
    .exact(hf b hb).2.1 z
    .exact(hf b hb).2.2.1 z
   funs:=I.stack
   frf:=I.stkFree}
 refine⟨ok,rfl,I.bare,Un.kept hk,⟨m0,hn,λi x v e1 e2 e3=>?_⟩,λx c e=>?_,I.hok.fresh (Qr _),λx c e=>(hc.old x c e).elim (I.freeC x c) λq=>I.hok.fresh (Ug q.1),λp hp=>?_,I.hok.kept hk,?_⟩
 .have nl:¬(scope.names.lookup x=O .local∨scope.names.lookup x=O .cell):=λz=>by
   obtain⟨g1,g2⟩:=(hN i x e1).2 z;rw[←I.len]at g1 g2;rw[QF g1,QJ]at e2;split at e2<;>cases e2
  have fr:scope.names.lookup x=O .free:=by
   rcases e3 with z|z
   .rcases kinv x _ z with q|q
    .exact absurd (.inl q) nl
    .cases q.2
   .rcases isfc x z with q|q
    .exact q
    .exact absurd (.inr q) nl
  have eN:=(hN i x e1).1 fr;have hi:i<σ.length:=by rw[I.len];exact(Ql.mp eN).1
  rw[QA hi]at e2;obtain⟨m,hm,hlk⟩:=I.loc;have hkd:=hfree _ (ofl x fr) xM;obtain⟨u,r,l⟩:=hlk i x v eN e2 (.inr hkd);refine⟨u,r,.inr ⟨?_,?_⟩⟩
  .rcases e3 with z|z|z
   .rcases kinv x _ z with q|q
    .exact absurd (.inl q) nl
    .cases q.2
   .exact .inl z
   .exact .inr z
  .rcases l with l|⟨_,c,ec,z⟩
   .have:X.env.scope.names.lookup x=O .local:=l.1
    rcases hkd with q|q<;>(dsimp only at q;rw[this]at q;cases q)
   .obtain⟨c',ec',this⟩:=hc.fre x fr
    rw[ec]at this;cases this;obtain⟨o,ho,hd⟩:=z;exact⟨c,ec',o,hk c o ho,hd⟩
 .rcases hc.old x c e with q|⟨_,q⟩
  .obtain⟨v,o,ho,hd⟩:=I.cell x c q
   exact⟨v,o,hk c o ho,hd⟩
  .exact⟨_,q⟩
 .obtain⟨e,n,ne,nf,d⟩:=I.pin p hp
  refine⟨hk _ _ e,n,lt _ _ e,λz=>?_,d⟩;rcases QC.mp (I.stkSub _ z)with q|q
  .exact ne q
  .exact nf q
 .rw[Qk,QB,I.len]
  exact hl.symm
noncomputable abbrev nox:Uq->Ur->Prop:=λ_ _=>False
def VL(prog:Us)(w:World)(A:Around)(tg:Uv)(ifs:xU)(env:Env)(it:Uq)(code:Code)(W:(Ur->Prop)->Ur->Prop):Prop:=
 ∀(R:Result->Ur->Prop)(I:Nat->Ur->Prop)(n:Nat)(s:Ur),I n s ->
  (∀n s,I n s->Ux (model prog w) A (pyNext it) (λr s₁=>match r with
   |none=>R (.ok .next) s₁
   |some v=>Ux (model prog w) A (letOwnedTupleGo tg it v) (λ_ s₁'=>Ux (model prog w) A (assign tg env v) (λ_ s₂=>
     Ux (model prog w) A (forIn ifs xO λc r=>if r=xO then do let ok ←isTrue c env (eval c env);pure (ForInStep.yield ok)else pure (ForInStep.yield r)) (λok s₃=>
      if ok=xO then W (λs₅=>∃m,m<n/\I m s₅) s₃ else ∃m,m<n/\I m s₃) nox s₂) nox s₁') nox s₁) nox s)->codeAny (model prog w) A code R s
section
variable{prog:Us}{w:World}{A:Around}{elt tg i:Uv}{ifs:xU}{gens:List Comprehension}{scope:Scope}{pos:Pos}{it acc:Uq}{env:Env}{j:Nat}
theorem OJ(hg:gens[j]?=O ⟨tg,i,ifs,0⟩)(hn:gens[j+1]?=xN):VL prog w A tg ifs env it (.compLoop (.ListComp elt gens scope pos) j it acc env)
  (λQ s=>Ux (model prog w) A (eval elt env) (λx s₄=>Ux (model prog w) A (call (.builtin "list.append") [acc,x]) (λ_ s₅=>Q s₅) nox s₄) nox s):=by
 intro R I n s h turn;refine codeAny_loop xM I (λn s hI=>?_) n h;show Ux _ A ((compTurn (.ListComp elt gens scope pos) j it acc env).onRaise (λx=>do noteFrame x env;theTreesLotGoes x)) _ _ s;refine wpAny_noted ?_;unfold compTurn;dsimp only;simp only[hg,hn];refine Qd (Jn (Qd (QP (turn n s hI) (λr s₁ h₁=>?_) λ_ _ h'=>h'.elim)));cases r with
 |none=>exact Qm h₁
 |some v=>
  refine Qd (QP h₁ (λ_ s₁' h₁'=>?_) λ_ _ h'=>h'.elim);refine Qd (QP h₁' (λ_ s₂ h₂=>Qd (QP h₂ (λok s₃ h₃=>?_) λ_ _ h'=>h'.elim)) λ_ _ h'=>h'.elim);cases ok with
  |false=>exact Qm ⟨rfl,h₃⟩
  |true=>exact Qd (Qd (QP h₃ (λx s₄ h₄=>Qd (QP h₄ (λ_ s₅ h₅=>Qm (Qm ⟨rfl,h₅⟩)) λ_ _ h'=>h'.elim)) λ_ _ h'=>h'.elim))
theorem qK{vT i1:Uv}{ifs1:xU}(hg:gens[j]?=O ⟨tg,i,ifs,0⟩)(hn:gens[j+1]?=O ⟨vT,i1,ifs1,0⟩)(hs:∀x,UO i1 env x=pure x):VL prog w A tg ifs env it (.compLoop (.ListComp elt gens scope pos) j it acc env)
  (λQ s=>Ux (model prog w) A (eval i1 env) (λx s₄=>Ux (model prog w) A (pyIter x) (λvF s₅=>codeAny (model prog w) A (.compStart (.ListComp elt gens scope pos) (j+1) vF acc env)
   (λr s₆=>match r with | .ok _=>Q s₆ | .error _=>False) s₅) nox s₄) nox s):=by
 intro R I n s h turn;refine codeAny_loop xM I (λn s hI=>?_) n h;show Ux _ A ((compTurn (.ListComp elt gens scope pos) j it acc env).onRaise (λx=>do noteFrame x env;theTreesLotGoes x)) _ _ s;refine wpAny_noted ?_;unfold compTurn;dsimp only;simp only[hg,hn];refine Qd (Jn (Qd (QP (turn n s hI) (λr s₁ h₁=>?_) λ_ _ h'=>h'.elim)));cases r with
 |none=>exact Qm h₁
 |some v=>
  refine Qd (QP h₁ (λ_ s₁' h₁'=>?_) λ_ _ h'=>h'.elim);refine Qd (QP h₁' (λ_ s₂ h₂=>Qd (QP h₂ (λok s₃ h₃=>?_) λ_ _ h'=>h'.elim)) λ_ _ h'=>h'.elim);cases ok with
  |false=>exact Qm ⟨rfl,h₃⟩
  |true=>
   refine Qd (QP h₃ (λx s₄ h₄=>Qd (Jn (Qd (wpAny_of_eq (hs x) (Qd (wpAny_holding (QP h₄ (λvF s₅ h₅=>?_) λ_ _ h'=>h'.elim))))))) λ_ _ h'=>h'.elim);refine Qd (wpAny_runOwn (codeAny_mono h₅ λr s₆ h₆=>?_));cases r with
   |ok f=>exact Qm ⟨rfl,h₆⟩
   |error x=>exact h₆.elim
theorem kT{R:Result->Ur->Prop}{s:Ur}(hg:gens[j]?=O ⟨tg,i,ifs,0⟩)
  (h0:codeAny (model prog w) A (.compLoop (.ListComp elt gens scope pos) j it acc env) R s)
  (h:Ux (model prog w) A (pyIter it) (λit' s'=>codeAny (model prog w) A (.compLoop (.ListComp elt gens scope pos) j it' acc env) R s') nox s) :
  codeAny (model prog w) A (.compStart (.ListComp elt gens scope pos) j it acc env) R s:=by
 refine codeAny_of_tree ?_;show Ux _ _ ((compStart (.ListComp elt gens scope pos) j it acc env).onRaise (λx=>do noteFrame x env;standAt theWindowsPlace)) _ _ s;refine wpAny_notedAt ?_;unfold compStart;have hc:(clausesOf (.ListComp elt gens scope pos))[j]?=O ⟨tg,i,ifs,0⟩:=hg;simp only[hc];show Ux _ _ (ask >>= _) _ _ s;refine Qd (wpAny_askSetting (wpAny_ite ?_));split
 .first
   |exact Qd (Qm (Qm (And.intro rfl h0)))
   |exact Qm (And.intro rfl h0)
 .first
   |exact Qd (wpAny_rule (Qd (Jn (Qd (QP h (λit' s' h'=>Qm (And.intro rfl h')) λ_ _ x=>x.elim)))))
   |(refine Qd (wpAny_rule ?_);show Ux _ _ (standAt _ >>= _) _ _ s;exact Qd (Jn (Qd (QP h (λit' s' h'=>Qm (And.intro rfl h')) λ_ _ x=>x.elim))))
end
end L2
namespace DL
open PySem PySem.Spec L2
open PyProof.Rows hiding St
noncomputable def Ku:Option Sl->Option Sl
 |some (.own _)=>xN
 |some (.deep _ _)=>xN
 |x=>x
noncomputable def Km(ρ:UQ):UQ:=ρ.map Ku
theorem qJ{ρ:UQ}{i:Nat}{d:D}(h:(Km ρ)[i]?=O (O (.pub d))):ρ[i]?=O (O (.pub d)):=by
 unfold Km at h;rw[Qp]at h;cases e:ρ[i]? with
 |none=>rw[e]at h;cases h
 |some o=>
  rw[e]at h;cases o with
  |none=>cases h
  |some sl=>cases sl with
   |pub d'=>cases h;rfl
   |own ds=>cases h
   |deep p d'=>cases h
theorem Wu{ρ:UQ}{i:Nat}{ds:xQ}(h:(Km ρ)[i]?=O (O (.own ds))):False:=by
 unfold Km at h;rw[Qp]at h;cases e:ρ[i]? with
 |none=>rw[e]at h;cases h
 |some o=>
  rw[e]at h;cases o with
  |none=>cases h
  |some sl=>cases sl with
   |pub d'=>cases h
   |own ds=>cases h
   |deep p d'=>cases h
theorem OZ{ρ:UQ}{i:Nat}{p:Pat}{d:D}(h:(Km ρ)[i]?=O (O (.deep p d))):False:=by
 unfold Km at h;rw[Qp]at h;cases e:ρ[i]? with
 |none=>rw[e]at h;cases h
 |some o=>
  rw[e]at h;cases o with
  |none=>cases h
  |some sl=>cases sl<;>cases h
noncomputable def Zi(s:D->UQ->xX)(t:M Bool)(g:M D):xQ->UQ->xQ->Option xQ
 |[],_,es=>O es
 |d::r,ρ,es=>match s d ρ with
  |none=>xN
  |some ρ1=>match t ρ1 with
   |.bad=>xN
   |.ok b ρ2=>if b=xO then(match g ρ2 with
     |.bad=>xN
     |.ok e ρ3=>if es.length<1000000 then Zi s t g r (Km ρ3) (es++[e])else xN)
    else Zi s t g r (Km ρ2) es
noncomputable def Z6(f:M xQ)(k:Nat)(s:D->UQ->xX)(t:M Bool)(g:M D):M xQ:=λρ=>match f ρ with
 |.bad=>.bad
 |.ok ds ρ1=>match Zi s t g ds (Km ρ1++UB k xN) []with
  |none=>.bad
  |some es=>.ok es ρ1
def ZA(X:Cx)(ifs:xU)(t:TT):Prop:=
 ∀(pins:List (Ut×Obj))(s:Ur)(σ:St)(H:Hp)(Q:Bool->Hp->Prop),Inv X pins σ H s->t σ H Q ->
  Ux (model X.prog X.w) X.A (forIn ifs xO λc r=>if r=xO then do let ok ←isTrue c X.env (eval c X.env);pure (ForInStep.yield ok)else pure (ForInStep.yield r)) (TP X pins σ Q) X.xe s
section
variable{X:Cx}{B G0:Hp}
theorem Ce:ZA X [] (tBo X.K B G0 (UU xO)):=λpins s σ H Q I ⟨G,ρ,k,a⟩=>wpAny_tests_nil ⟨H,I,a xO G H k (.refl _) xM⟩
theorem Cd{c:Uv}{t:M Bool}(h:PT X c (tBo X.K B G0 t)):ZA X [c] (tBo X.K B G0 t):=λpins s σ H Q I q=>wpAny_tests_one (h pins s σ H Q I q)
theorem EOk.rebase{K:Frag}{G H:Hp}{σ:St}{ρ:UQ}(k:EOk K B G0 G H σ ρ):EOk K H G G H σ (Km ρ) where
 bh:=.refl _
 gh:=k.gh
 g0:=.refl _
 np:=λ_ _ _ n=>n
 len:=by unfold Km;rw[Qb];exact k.len
 pub:=λi d q=>k.pub i d (qJ q)
 own:=λi ds q=>(Wu q).elim
 sep:=λi j a ds es q=>(Wu q).elim
 dp:=.of (λ_ _ _ q=>OZ q) λ_ _ q=>Wu q
theorem EOk.more{K:Frag}{G H:Hp}{σ:St}{ρ:UQ}(k:EOk K H G G H σ (Km ρ))(n:Nat):EOk K H G G H (σ++UB n xN) (Km ρ++UB n xN) where
 bh:=.refl _
 gh:=k.gh
 g0:=.refl _
 np:=λ_ _ _ n=>n
 len:=by rw[Qk,Qk,k.len,QB,QB]
 pub:=λi d q=>by
  by_cases hi:i<(Km ρ).length
  .rw[QA hi]at q
   rw[QA (by rw[←k.len];exact hi)];exact k.pub i d q
  .rw[QF (Q2 hi),QJ]at q
   split at q<;>cases q
 own:=λi ds q=>by
  by_cases hi:i<(Km ρ).length
  .rw[QA hi]at q
   exact(Wu q).elim
  .rw[QF (Q2 hi),QJ]at q
   split at q<;>cases q
 sep:=λi j a ds es q=>by
  by_cases hi:i<(Km ρ).length
  .rw[QA hi]at q
   exact(Wu q).elim
  .rw[QF (Q2 hi),QJ]at q
   split at q<;>cases q
 dp:=by
  refine .of (λi p d q=>?_) λi ds q=>?_
  .by_cases hi:i<(Km ρ).length
   .rw[QA hi]at q;exact OZ q
   .rw[QF (Q2 hi),QJ]at q;split at q<;>cases q
  .by_cases hi:i<(Km ρ).length
   .rw[QA hi]at q;exact Wu q
   .rw[QF (Q2 hi),QJ]at q;split at q<;>cases q
theorem EOk.beside{K:Frag}{G H:Hp}{σ:St}{ρ:UQ}{a:Ut}{o:HO}(k:EOk K B G0 G H σ ρ)(hg:G a=xN):EOk K (upd H a o) G G (upd H a o) σ (Km ρ) where
 bh:=.refl _
 gh:=λb u e=>by rw[Ki (λz=>by subst z;rw[hg]at e;cases e)];exact k.gh b u e
 g0:=.refl _
 np:=λ_ _ _ n=>n
 len:=k.rebase.len
 pub:=k.rebase.pub
 own:=λi ds q=>(Wu q).elim
 sep:=λi j a ds es q=>(Wu q).elim
 dp:=.of (λ_ _ _ q=>OZ q) λ_ _ q=>Wu q
theorem lim1:1000000<=Uw:=lim
noncomputable def Pu:Option Sl->Option Sl
 |some (.own ds)=>O (.pub (.list ds))
 |some (.deep _ d)=>O (.pub d)
 |x=>x
noncomputable def Zb(ρ:UQ):UQ:=ρ.map Pu
theorem LV{ρ:UQ}{i:Nat}{d:D}(h:(Zb ρ)[i]?=O (O (.pub d))):ρ[i]?=O (O (.pub d))∨(∃ds,d=.list ds/\ρ[i]?=O (O (.own ds))) ∨ ∃p,ρ[i]?=O (O (.deep p d)):=by
 unfold Zb at h;rw[Qp]at h;cases e:ρ[i]? with
 |none=>rw[e]at h;cases h
 |some o=>
  rw[e]at h;cases o with
  |none=>cases h
  |some sl=>cases sl with
   |pub d'=>cases h;exact .inl xM
   |own ds=>cases h;exact .inr (.inl ⟨ds,rfl,rfl⟩)
   |deep p d'=>cases h;exact .inr (.inr ⟨p,rfl⟩)
theorem T9{ρ:UQ}{i:Nat}{ds:xQ}(h:(Zb ρ)[i]?=O (O (.own ds))):False:=by
 unfold Zb at h;rw[Qp]at h;cases e:ρ[i]? with
 |none=>rw[e]at h;cases h
 |some o=>
  rw[e]at h;cases o with
  |none=>cases h
  |some sl=>cases sl with
   |pub d'=>cases h
   |own ds=>cases h
   |deep p d'=>cases h
theorem HH{ρ:UQ}{i:Nat}{p:Pat}{d:D}(h:(Zb ρ)[i]?=O (O (.deep p d))):False:=by
 unfold Zb at h;rw[Qp]at h;cases e:ρ[i]? with
 |none=>rw[e]at h;cases h
 |some o=>
  rw[e]at h;cases o with
  |none=>cases h
  |some sl=>cases sl<;>cases h
noncomputable def flat:D->Bool
 |.none=>xO | .bool _=>xO | .int _=>xO | .str _=>xO|_=>xP
theorem Rep.flat{K:Frag}{G G':Hp}{v:V}{d:D}(r:Rep K G v d)(h:DL.flat d=xO):Rep K G' v d:=by
 cases r with
 |non=>exact .non
 |bl b=>exact .bl b
 |int i=>exact .int i
 |str x=>exact .str x
 |lst _ _=>cases h
 |tup _ _=>cases h
 |dic _=>cases h
 |exc _ _ _ _=>cases h
 |dct _ _ _ _ _=>cases h
 |dtt _ _ _ _=>cases h
theorem Reps.flat{K:Frag}{G G':Hp}:∀{vs:List V}{ds:xQ},Reps K G vs ds->ds.all DL.flat=xO->Reps K G' vs ds
 |_,_,.nil,_=>.nil
 |_,_,.cons r t,h=>by rw[JK,Qz]at h;exact .cons (r.flat h.1) (Reps.flat t h.2)
theorem EOk.lend{K:Frag}{B G0 G H:Hp}{σ:St}{ρ:UQ}{D:Ut}{o:HO}(k:EOk K B G0 G H σ ρ)(hD:H D=xN)(n:Nat):EOk K (upd H D o) H H (upd H D o) (σ++UB n xN) (Zb ρ++UB n xN) where
 bh:=.refl _
 gh:=Zd hD
 g0:=.refl _
 np:=λ_ _ _ n=>n
 len:=by unfold Zb;rw[Qk,Qk,Qb,k.len,QB,QB]
 pub:=λi d q=>by
  have hl:(Zb ρ).length=ρ.length:=by unfold Zb;rw[Qb]
  by_cases hi:i<(Zb ρ).length
  .rw[QA hi]at q
   rw[QA (by rw[←k.len,←hl];exact hi)];rcases LV q with e|⟨ds,rfl,e⟩|⟨p,e⟩
   .obtain⟨v,h1,h2⟩:=k.pub i d e
    exact⟨v,h1,h2.mono k.gh⟩
   .obtain⟨a,vs,h1,h2,h3,h4,h5⟩:=k.own i ds e
    exact⟨.ref a,h1,.lst (SqL.of h4) (h5.mono k.gh)⟩
   .obtain⟨ω,k1,k2⟩:=k.dp
    obtain⟨v,fp,s,r,_⟩:=k1 i p d e;exact⟨v,s,r.rep k.gh⟩
  .rw[QF (Q2 hi),QJ]at q
   split at q<;>cases q
 own:=λi ds q=>by
  by_cases hi:i<(Zb ρ).length
  .rw[QA hi]at q
   exact(T9 q).elim
  .rw[QF (Q2 hi),QJ]at q
   split at q<;>cases q
 sep:=λi j a ds es q=>by
  by_cases hi:i<(Zb ρ).length
  .rw[QA hi]at q
   exact(T9 q).elim
  .rw[QF (Q2 hi),QJ]at q
   split at q<;>cases q
 dp:=by
  refine .of (λi p d q=>?_) λi ds q=>?_
  .by_cases hi:i<(Zb ρ).length
   .rw[QA hi]at q;exact HH q
   .rw[QF (Q2 hi),QJ]at q;split at q<;>cases q
  .by_cases hi:i<(Zb ρ).length
   .rw[QA hi]at q;exact T9 q
   .rw[QF (Q2 hi),QJ]at q;split at q<;>cases q
noncomputable def Wp(f:M xQ)(k:Nat)(s:D->UQ->xX)(t:M Bool)(g:M D):M xQ:=λρ=>match f ρ with
 |.bad=>.bad
 |.ok ds ρ1=>match Zi s t g ds (Zb ρ1++UB k xN) []with
  |none=>.bad
  |some es=>if es.all flat=xO then .ok es ρ1 else .bad
end
noncomputable def Y3(s:D->UQ->xX)(t:M Bool)(g:M D):xQ->UQ->xQ->Option (xQ×UQ)
 |[],ρ,es=>O (es,ρ)
 |d::r,ρ,es=>match s d ρ with
  |none=>xN
  |some ρ1=>match t ρ1 with
   |.bad=>xN
   |.ok b ρ2=>if b=xO then(match g ρ2 with
     |.bad=>xN
     |.ok e ρ3=>if es.length<1000000 then Y3 s t g r (Km ρ3) (es++[e])else xN)
    else Y3 s t g r (Km ρ2) es
noncomputable def YF(s0:D->UQ->xX)(t0:M Bool)(f1:M xQ)(s1:D->UQ->xX)(t1:M Bool)(g:M D):xQ->UQ->xQ->Option xQ
 |[],_,es=>O es
 |d::r,ρ,es=>match s0 d ρ with
  |none=>xN
  |some ρ1=>match t0 ρ1 with
   |.bad=>xN
   |.ok b ρ2=>if b=xO then(match f1 ρ2 with
     |.bad=>xN
     |.ok ds ρ3=>match Y3 s1 t1 g ds (Km ρ3) es with
      |none=>xN
      |some (es',ρ4)=>YF s0 t0 f1 s1 t1 g r ρ4 es')
    else YF s0 t0 f1 s1 t1 g r (Km ρ2) es
noncomputable def YK(f:M xQ)(k:Nat)(s:D->UQ->xX)(t:M Bool)(f1:M xQ)(wV:D->UQ->xX)(t1':M Bool)(g:M D):M xQ:=λρ=>match f ρ with
 |.bad=>.bad
 |.ok ds ρ1=>match YF s t f1 wV t1' g ds (Km ρ1++UB k xN) []with
  |none=>.bad
  |some es=>.ok es ρ1
abbrev RdB:=UQ->xQ->Option (xQ×UQ)
noncomputable def rL(g:M D):RdB:=λρ es=>match g ρ with
 |.bad=>xN
 |.ok e ρ3=>if es.length<1000000 then O (es++[e],Km ρ3)else xN
noncomputable def cT(s:D->UQ->xX)(t:M Bool)(rd:RdB):xQ->UQ->xQ->Option (xQ×UQ)
 |[],ρ,es=>O (es,ρ)
 |d::r,ρ,es=>match s d ρ with
  |none=>xN
  |some ρ1=>match t ρ1 with
   |.bad=>xN
   |.ok b ρ2=>if b=xO then(match rd ρ2 es with
     |none=>xN
     |some (es',ρ')=>cT s t rd r ρ' es')
    else cT s t rd r (Km ρ2) es
noncomputable def rN(f:M xQ)(s:D->UQ->xX)(t:M Bool)(rd:RdB):RdB:=λρ es=>match f ρ with
 |.bad=>xN
 |.ok ds ρ3=>cT s t rd ds (Km ρ3) es
structure Left(Y:Cx)(D':Ut)(pins:List (Ut×Obj))(H G:Hp)(es':xQ)(ρ':UQ)(σ':St)(H' G':Hp)(vs':List V)(s':Ur):Prop where
 inv:Inv Y pins σ' H' s'
 eok:EOk Y.K H' G' G' H' σ' ρ'
 hh:∀a o,a≠D'->H a=O o->H' a=O o
 gg:Same G G'
 np:∀a(u:MO),a≠D'->H a=O u.ho->G a=xN->G' a=xN
 hd:H' D'=O (.lst vs')
 gd:G' D'=xN
 rp:Reps Y.K G' vs' es'
def Sh(Y:Cx)(D':Ut)(W:(Ur->Prop)->Ur->Prop)(rd:RdB):Prop:=
 ∀(pins:List (Ut×Obj))(sh:Ur)(σ:St)(B1 G1 H G:Hp)(ρ ρ':UQ)(vs:List V)(es es':xQ)(Q:Ur->Prop),
  Inv Y pins σ H sh->EOk Y.K B1 G1 G H σ ρ->B1 D'=O (.lst vs)->G1 D'=xN->Reps Y.K G1 vs es->rd ρ es=O (es',ρ') ->
  (∀σ' H' G' vs' s',Left Y D' pins B1 G1 es' ρ' σ' H' G' vs' s'->Q s')->W Q sh
section
variable{Y:Cx}{D':Ut}
theorem qI{elt:Uv}{g:M D}(hx:Y.xe=nox)(he:∀B1 G1,PE Y elt (tD Y.K B1 G1 g)) :
  Sh Y D' (λQ s=>Ux (model Y.prog Y.w) Y.A (eval elt Y.env) (λx s₄=>Ux (model Y.prog Y.w) Y.A (call (.builtin "list.append") [.ref D',x]) (λ_ s₅=>Q s₅) nox s₄) nox s) (rL g):=by
 intro pins sh σ B1 G1 H G ρ ρ' vs es es' Q I k hD gD r z fin;unfold rL at z;cases zg:g ρ with
 |bad=>rw[zg]at z;cases z
 |ok e ρ4=>
 rw[zg]at z;dsimp only at z;split at z
 .rename_i hle
  cases z;have h:=he B1 G1 pins sh σ H (λv H8=>∃G8,EOk Y.K B1 G1 G8 H8 σ ρ4/\Rep Y.K G8 v e) I ⟨G,ρ,k,by unfold aft;rw[zg];exact λv G8 H8 k8 _ q=>⟨G8,k8,q⟩⟩;rw[hx]at h;refine thn h λev s8 ⟨v,H8,I8,rv,G8,k8,r8⟩=>?_;have h2:=Wv pins s8 σ H8 (.ref D') [v] (.ref D') [ev] (λ_ H9=>H9=upd H8 D' (.lst (vs++[v]))) I8 xM (.cons rv .nil) ⟨D',vs,v,rfl,rfl,k8.bh _ _ hD,by have:=lim1;rw[r.length];lia,rfl⟩
  rw[hx]at h2;refine thn h2 λ_ s9 ⟨_,H9,I9,_,e9⟩=>?_;subst e9;have g8:=k8.np _ (.l _) hD gD;exact fin σ _ G8 _ s9 ⟨I9,k8.beside g8,λa o z q=>by rw[Ki z];exact k8.bh a o q,k8.g0,λa o _ q w=>k8.np a o q w,Ks,g8,(r.mono k8.g0).append (.cons r8 .nil)⟩
 .cases z
theorem Lm{tg:Uv}{ifs:xU}{code:Code}{W:(Ur->Prop)->Ur->Prop}{s:D->UQ->xX}{t:M Bool}{rd:RdB}{it:Ut}(hx:Y.xe=nox)(hc:Y.calm=xO)(rule:VL Y.prog Y.w Y.A tg ifs Y.env (.ref it) code W)
  (hg:∀B1 G1,PG Y tg (tG Y.K B1 G1 s)) (ht:∀B1 G1,ZA Y ifs (tBo Y.K B1 G1 t)) (hb:Sh Y D' W rd)
  {pins:List (Ut×Obj)} {sh:Ur} {σ:St} {H G:Hp} {ρ ρF:UQ} {fp:xW} {tn:Nat->Heap->Prop} {J:It} {ds es esF:xQ} {vs:List V} {R:Result->Ur->Prop}
  (I:Inv Y pins σ H sh) (T:Turn Y.prog Y.w Y.K tg J fp it tn) (st:tn 0 sh.heap) (hf:∀b∈fp,KP Y pins H b)
  (k:EOk Y.K H G G H σ ρ) (its:Xi Y.K J ds G) (hD:H D'=O (.lst vs)) (gD:G D'=xN) (r:Reps Y.K G vs es) (zl:cT s t rd ds ρ es=O (esF,ρF))
  (vD:∀σ' H' G' vs' s',Left Y D' pins H G esF ρF σ' H' G' vs' s'->R (.ok .next) s'):codeAny (model Y.prog Y.w) Y.A code R sh:=by
 have stat:∀{H':Hp},(∀b∈fp,H' b=xN)->∀b∈fp,KP Y pins H' b:=λhn b hb=>⟨hn b hb,(hf b hb).2⟩
 refine rule R (λn s'=>∃i σ' H' G' ρ' vs' es',n=ds.length-i/\tn i s'.heap/\(∀b∈fp,H' b=xN)/\Left Y D' pins H G es' ρ' σ' H' G' vs' s'/\cT s t rd (ds.drop i) ρ' es'=O (esF,ρF)) ds.length sh
  ⟨0,σ,H,G,ρ,vs,es,rfl,st,λb hb=>(hf b hb).1,⟨I,k,λ_ _ _ q=>q,.refl _,λ_ _ _ _ n=>n,hD,gD,r⟩,by rw[Uj];exact zl⟩ ?_
 rintro n s' ⟨i,σ',H',G',ρ',vs',es',rfl,wp,wv,⟨I',k',vU,vM,wP,vw,gD',r'⟩,zc⟩;by_cases hlt:i<ds.length
 .rw[JE hlt,cT]at zc
  cases zs:s ds[i] ρ' with
  |none=>rw[zs]at zc;cases zc
  |some ρ2=>
  rw[zs]at zc;dsimp only at zc;cases zt:t ρ2 with
  |bad=>rw[zt]at zc;cases zc
  |ok b ρ3=>
  rw[zt]at zc;dsimp only at zc;refine thn (T.item Y xM xM xM hc i pins s' σ' H' nox I' (stat wv) wp (its.go i G' H' vM k'.gh hlt)) λrr s4 ⟨u,hr,h4⟩=>?_;subst hr;refine thn h4 λ_ s5 ⟨x,H5,I5,r5,y5,vH,wJ⟩=>?_
  obtain⟨G5,e5,rx⟩:=its.yld i G' H' x H5 ds[i] vM k'.gh (Qe hlt) y5;have h6:=hg H' G' _ s5 σ' H5 x u (λσ6 H6=>∃G6,EOk Y.K H' G' G6 H6 σ6 ρ2) (I5.pinned (stat wJ) (T.obj _ _ vH)) r5 ⟨G5,ρ',ds[i],ρ2,k'.ext e5,rx,zs,λσ6 G6 H6 k6 _=>⟨G6,k6⟩⟩;rw[hx]at h6;refine thn h6 λ_ s6 ⟨σ6,H6,I6,G6,k6⟩=>?_;have h7:=ht H' G' _ s6 σ6 H6 (λc H7=>c=b/\∃G7,EOk Y.K H' G' G7 H7 σ6 ρ3) I6 ⟨G6,ρ2,k6,by unfold aft;rw[zt];exact λc G7 H7 k7 _ q=>⟨q,G7,k7⟩⟩
  rw[hx]at h7;refine thn h7 λok s7 ⟨H7,I7,hb7,G7,k7⟩=>?_;subst hb7
  have again:∀{H9:Hp}{σ9:St}{s9:Ur},Inv Y (pins++Vx fp s5.heap) σ9 H9 s9->Inv Y pins σ9 H9 s9/\tn (i+1) s9.heap/\∀b∈fp,H9 b=xN:=λ{H9 σ9 s9} I9=>by refine⟨I9.unpinned,T.keep _ _ _ vH λb hb o e=>(I9.pin (b,o) (Qn _ (Qn _ (Vj hb e)))).1,λb hb=>?_⟩;obtain⟨o,e,d⟩:=T.obj _ _ vH b hb;exact(I9.pin (b,o) (Qn _ (Qn _ (Vj hb e)))).2.1
  have lt:ds.length-(i+1)<ds.length-i:=Nat.sub_lt_sub_left hlt (Nat.lt_succ_self i);cases ok with
  |false=>rw[Qw (by decide)]at zc⊢;obtain⟨J1,J2,J3⟩:=again I7;exact⟨_,lt,i+1,σ6,H7,G7,Km ρ3,vs',es',rfl,J2,J3,⟨J1,k7.rebase,λa o z q=>k7.bh a o (vU a o z q),vM.trans k7.g0,λa o z q w=>k7.np a o (vU a _ z q) (wP a o z q w),k7.bh _ _ vw,k7.np _ (.l _) vw gD',r'.mono k7.g0⟩,zc⟩
  |true=>
   rw[Qq xM]at zc⊢;cases ze:rd ρ3 es' with
   |none=>rw[ze]at zc;cases zc
   |some pr=>
   obtain⟨es1,ρ5⟩:=pr;rw[ze]at zc;refine hb _ s7 σ6 H' G' H7 G7 ρ3 ρ5 vs' es' es1 _ I7 k7 vw gD' r' ze λσ9 H9 G9 vs9 s9 L=>?_
   obtain⟨J1,J2,J3⟩:=again L.inv;exact⟨_,lt,i+1,σ9,H9,G9,ρ5,vs9,es1,rfl,J2,J3,⟨J1,L.eok,λa o z q=>L.hh a o z (vU a o z q),vM.trans L.gg,λa o z q w=>L.np a o z (vU a _ z q) (wP a o z q w),L.hd,L.gd,L.rp⟩,zc⟩
 .rw[List.drop_eq_nil_of_le (Q2 hlt),cT]at zc
  cases zc;refine thn (T.done Y xM xM xM hc i pins s' σ' H' nox I' (stat wv) wp (its.stop i G' H' vM k'.gh (Q2 hlt))) λrr s4 ⟨hr,I6⟩=>?_
  subst hr;exact vD σ' H' G' vs' s4 ⟨I6,k',vU,vM,wP,vw,gD',r'⟩
theorem qH{elt vT i1:Uv}{ifs1:xU}{gens:List Comprehension}{scope:Scope}{pos:Pos}{j:Nat}{W:Uq->(Ur->Prop)->Ur->Prop}{f:M xQ}{s:D->UQ->xX}{t:M Bool}{rd:RdB}(hx:Y.xe=nox)(hc:Y.calm=xO)
  (hn:gens[j+1]?=O ⟨vT,i1,ifs1,0⟩) (rule:∀vF,VL Y.prog Y.w Y.A vT ifs1 Y.env vF (.compLoop (.ListComp elt gens scope pos) (j+1) vF (.ref D') Y.env) (W vF))
  (hi:∀B1 G1,PI Y vT i1 (iD Y.K B1 G1 f)) (hg:∀B1 G1,PG Y vT (tG Y.K B1 G1 s)) (ht:∀B1 G1,ZA Y ifs1 (tBo Y.K B1 G1 t)) (hb:∀vF,Sh Y D' (W vF) rd) :
  Sh Y D' (λQ s=>Ux (model Y.prog Y.w) Y.A (eval i1 Y.env) (λx s₄=>Ux (model Y.prog Y.w) Y.A (pyIter x) (λvF s₅=>codeAny (model Y.prog Y.w) Y.A (.compStart (.ListComp elt gens scope pos) (j+1) vF (.ref D') Y.env)
   (λr s₆=>match r with | .ok _=>Q s₆ | .error _=>False) s₅) nox s₄) nox s) (rN f s t rd):=by
 intro pins sh σ B1 G1 H G ρ ρ' vs es es' Q I k hD gD r z fin;unfold rN at z;cases zf:f ρ with
 |bad=>rw[zf]at z;cases z
 |ok ds ρ3=>
 rw[zf]at z;have h:=hi B1 G1 pins sh σ H (λJ1 H8=>∃G8,EOk Y.K B1 G1 G8 H8 σ ρ3/\Xi Y.K J1 ds G8) I ⟨G,ρ,k,by rw[zf];exact λJ1 G8 H8 k8 _ q=>⟨G8,k8,q⟩⟩;rw[hx]at h;refine thn h λxv s8 h8=>thn h8 λitv s9 h9=>?_
 obtain⟨vF,fp1,tn1,J1,H9,rfl,I9,T1,st9,f9,G9,k9,its9⟩:=h9
 have loop:codeAny (model Y.prog Y.w) Y.A (.compLoop (.ListComp elt gens scope pos) (j+1) (.ref vF) (.ref D') Y.env) (λr s₆=>match r with | .ok _=>Q s₆ | .error _=>False) s9:=
  Lm hx hc (rule (.ref vF)) hg ht (hb _) I9 T1 st9 f9 k9.rebase its9 (k9.bh _ _ hD) (k9.np _ (.l _) hD gD) (r.mono k9.g0) z λσ' H' G' vs' s' L=>
   fin σ' H' G' vs' s' ⟨L.inv,L.eok,λa o z q=>L.hh a o z (k9.bh a o q),k9.g0.trans L.gg,λa o z q w=>L.np a o z (k9.bh a _ q) (k9.np a o q w),L.hd,L.gd,L.rp⟩
 exact kT hn loop (T1.self Y.A 0 _ _ _ st9 loop)
end
def Sg(Y:Cx)(e:Uv)(j:Nat)(tg:Uv)(ifs:xU)(rd:RdB):Prop:=
 ∀(D':Ut)(it:Uq),∃W,VL Y.prog Y.w Y.A tg ifs Y.env it (.compLoop e j it (.ref D') Y.env) W/\Sh Y D' W rd
section
variable{Y:Cx}{elt tg i:Uv}{ifs:xU}{gens:List Comprehension}{scope:Scope}{pos:Pos}{j:Nat}
theorem qG{g:M D}(hx:Y.xe=nox)(hg:gens[j]?=O ⟨tg,i,ifs,0⟩)(hn:gens[j+1]?=xN)(he:∀B1 G1,PE Y elt (tD Y.K B1 G1 g)):Sg Y (.ListComp elt gens scope pos) j tg ifs (rL g):=
 λ_ _=>⟨_,OJ hg hn,qI hx he⟩
theorem qF{vT i1:Uv}{ifs1:xU}{f:M xQ}{s:D->UQ->xX}{t:M Bool}{rd:RdB}(hx:Y.xe=nox)(hc:Y.calm=xO)(hg:gens[j]?=O ⟨tg,i,ifs,0⟩)(hn:gens[j+1]?=O ⟨vT,i1,ifs1,0⟩)(hs:∀x,UO i1 Y.env x=pure x)
  (hi:∀B1 G1,PI Y vT i1 (iD Y.K B1 G1 f)) (hgt:∀B1 G1,PG Y vT (tG Y.K B1 G1 s)) (ht:∀B1 G1,ZA Y ifs1 (tBo Y.K B1 G1 t)) (hb:Sg Y (.ListComp elt gens scope pos) (j+1) vT ifs1 rd):Sg Y (.ListComp elt gens scope pos) j tg ifs (rN f s t rd):=
 λD' _=>⟨_,qK hg hn hs,qH hx hc hn (λvF=>(Classical.choose_spec (hb D' vF)).1) hi hgt ht (λvF=>(Classical.choose_spec (hb D' vF)).2)⟩
end
noncomputable def Yz(l:Bool)(ρ:UQ):UQ:=match l with|true=>Zb ρ|false=>Km ρ
theorem entry{K:Frag}{B G0 G1 H2:Hp}{σ:St}{ρ1:UQ}{D:Ut}(l:Bool)(k1:EOk K B G0 G1 H2 σ ρ1)(hfr:H2 D=xN)(n:Nat) :
  ∃Gb,EOk K (upd H2 D (.lst [])) Gb Gb (upd H2 D (.lst [])) (σ++UB n xN) (Yz l ρ1++UB n xN)/\Same G1 Gb/\Gb D=xN /\
   ∀(G' H':Hp) vs es,(l=xO->es.all flat=xO)->Same Gb G'->Same H2 H'->Same G' H'->(∀a(u:MO),H2 a=O u.ho->Gb a=xN->G' a=xN)->G' D=xN->Reps K G' vs es->∃Gf,Ext G1 H2 Gf H'/\Gf D=xN/\Reps K Gf vs es:=by
 have gD:G1 D=xN:=k1.gh.free hfr;cases l with
 |false=>exact⟨G1,(k1.beside gD).more n,.refl _,gD,λG' H' vs es _ g h gh np d r=>⟨G',⟨h,g,gh,np⟩,d,r⟩⟩
 |true=>exact⟨H2,k1.lend hfr n,k1.gh,hfr,λG' H' vs es fl _ h _ _ _ r=>⟨G1,⟨h,.refl _,k1.gh.trans h,λ_ _ _ n=>n⟩,gD,r.flat (fl xM)⟩⟩
noncomputable def dCG(l:Bool)(f:M xQ)(k:Nat)(s:D->UQ->xX)(t:M Bool)(rd:RdB):M xQ:=λρ=>match f ρ with
 |.bad=>.bad
 |.ok ds ρ1=>match cT s t rd ds (Yz l ρ1++UB k xN) []with
  |none=>.bad
  |some (es,_)=>if l=xO->es.all flat=xO then .ok es ρ1 else .bad
theorem MN{l:Bool}{f:M xQ}{k:Nat}{s:D->UQ->xX}{t:M Bool}{rd:RdB}{ρ ρ':UQ}{es:xQ}(h:dCG l f k s t rd ρ=.ok es ρ'):∃ds ρF,f ρ=.ok ds ρ'/\cT s t rd ds (Yz l ρ'++UB k xN) []=O (es,ρF)/\(l=xO->es.all flat=xO):=by
 unfold dCG at h;cases zf:f ρ with
 |bad=>rw[zf]at h;cases h
 |ok ds ρ1=>
 rw[zf]at h;dsimp only at h;cases zl:cT s t rd ds (Yz l ρ1++UB k xN) []with
 |none=>rw[zl]at h;cases h
 |some pr=>
 obtain⟨esF,ρF⟩:=pr;rw[zl]at h;dsimp only at h;split at h
 .rename_i hf
  cases h;exact⟨ds,ρF,rfl,zl,hf⟩
 .cases h
section
variable{X:Cx}{B G0:Hp}{KX:XW}
def Z0(X:Cx)(N2:List Str)(scope:Scope)(e tg:Uv)(ifs:xU)(s:D->UQ->xX)(t:M Bool)(rd:RdB):Prop:=
 ∀(cl:List (Str×Ut))(C:Ut)(s₀:Ur)(H₀:Hp)(ex:xW),(∀B' G',PG (X.blk N2 scope cl C s₀ H₀ ex) tg (tG X.K B' G' s))/\(∀B' G',ZA (X.blk N2 scope cl C s₀ H₀ ex) ifs (tBo X.K B' G' t))/\Sg (X.blk N2 scope cl C s₀ H₀ ex) e 0 tg ifs rd
structure WZ(SC scope:Scope)(N1 N2:List Str)(k:Nat):Prop where
 b:SJ scope.names N1 N2 k=xO
 kind:scope.kind=.function
 names:∀y∈scope.names,scope.names.lookup y.1=O y.2
 free:∀y∈scope.names,y.2=.free->SC.names.lookup y.1=O .cell∨SC.names.lookup y.1=O .free
theorem Ll{l:Bool}{tg elt iter:Uv}{ifs:xU}{gs:List Comprehension}{scope:Scope}{pos pos':Pos}{N2:List Str}{k:Nat}{f:M xQ}{s:D->UQ->xX}{t:M Bool}{rd:RdB}{use:Option (Uq->Sem Unit)}{Qc:Uq->Ur->Prop}(hc:X.calm=xO)
  (hi:PI X tg iter (iD X.K B G0 f)) (vf:Z0 X N2 scope (.ListComp elt (⟨tg,iter,ifs,0⟩::gs) scope pos) tg ifs s t rd) (hb:WZ X.env.scope scope X.N N2 k) (hs:∀x,UO iter X.env x=pure x)
  {pins:List (Ut×Obj)} {s0:Ur} {σ:St} {G H:Hp} {ρ ρ1 ρF:UQ} {ds esF:xQ} (I:Inv X pins σ H s0) (k0:EOk X.K B G0 G H σ ρ) (zf:f ρ=.ok ds ρ1) (zl:cT s t rd ds (Yz l ρ1++UB k xN) []=O (esF,ρF)) (hfl:l=xO->esF.all flat=xO)
  (vD:∀(C D:Ut)(vs:List V)(G' H':Hp)(s4:Ur)(m:Str->xV),Inv X pins σ H' s4->s4.heap.Ns C m->H' C=xN->C≠X.env.locals->X.s₀.heap.objs.size<=C->(∀x c,X.env.cells.lookup x=O c->c≠C)->(∀p∈X.pn++pins,p.1≠C) ->
   EOk X.K B G0 G' H' σ ρ1->Same G G'->NewL X.K B G' H' σ ρ1 D vs esF->compPost (model X.prog X.w) X.A X.xe use Qc (.ref D) C (.ok .next) s4) :
  Ux (model X.prog X.w) X.A (comprehension (.ListComp elt (⟨tg,iter,ifs,0⟩::gs) scope pos) scope X.env pos' (newList []) xP (eval iter X.env) use) Qc X.xe s0:=by
 obtain⟨wy,hcl,wc,wL⟩:=O0 (scope:=scope) (env:=X.env) λy hy hf=>I.ok.has y.1 (hb.free y hy hf)
 refine wpAny_comprehension_free (use:=use) xM hs hcl hb.kind (λy hy hl=>(hb.names y hy).trans (by rw[hl])) (thn (hi pins s0 σ H (λJ H1=>∃G1,EOk X.K B G0 G1 H1 σ ρ1/\Same G G1/\Xi X.K J ds G1) I ⟨G,ρ,k0,by rw[zf];exact λJ G1 H1 k1 s1 it=>⟨G1,k1,s1,it⟩⟩) λv s1 h1=>thn h1 λitv s2 h2=>?_);obtain⟨it,fp,tn,J,H2,rfl,I2,T,st2,f2,G1,k1,sg1,its⟩:=h2;refine JM (PK wc wL hb.names (λx c e=>let ⟨_,q⟩:=I2.cell x c e;Qy q.lt (by first|exact Qr _|(rw[Jo];exact Jp _))) λh₁ cl hns₁ kept hco=>?_);dsimp only at hns₁ kept hco⊢;have hfr:H2 s2.heap.objs.size=xN:=I2.hok.fresh (Qr _)
 have I3:Inv X pins σ (upd H2 s2.heap.objs.size (.lst [])) {s2 with heap:=s2.heap.push {cls:=.type "list", dict:=xN,data:=.seq ([]:xS).toArray}}:=
  I2.laid (t':=s2.toks) (λb u e=>Qg _ e) (Qr _) ⟨JL _,[],0,.nil,QD _ xM⟩
 generalize hP:s2.heap.push {cls:=.type "list", dict:=xN,data:=.seq ([]:xS).toArray}=P at I3 hns₁ kept hco⊢;have old:∀b o,s2.heap.get? b=O o->P.get? b=O o:=λb o e=>hP ▸ Qg _ e;have fpo:∀b∈fp,∃o,s2.heap.get? b=O o:=λb hb=>let ⟨o,e,_⟩:=T.obj _ _ st2 b hb;⟨o,e⟩
 have fpD:∀b∈fp,b≠s2.heap.objs.size:=λb hb=>let ⟨o,e⟩:=fpo b hb;QS (Qi e)
 have f3:∀b∈fp,KP X pins (upd H2 s2.heap.objs.size (.lst [])) b:=λb hb=>⟨by rw[Ki (fpD b hb)];exact(f2 b hb).1,(f2 b hb).2⟩
 have I4:=I3.enter (scope:=scope) (cl:=cl) (N2:=N2) (k:=k) (fp:=fp) (t':=s2.toks) hb.b hb.kind hb.free hco hns₁ kept f3 (λb hb=>let ⟨o,e⟩:=fpo b hb;⟨o,old b o e⟩);dsimp only at I4;obtain⟨Gb,kb,sgb,gbD,ex⟩:=entry l k1 hfr k;have sH:Same H2 (upd H2 s2.heap.objs.size (.lst [])):=Zd hfr;have wj:upd H2 s2.heap.objs.size (.lst []) s2.heap.objs.size=O (.lst []):=Ks;generalize upd H2 s2.heap.objs.size (.lst [])=H3 at I3 I4 f3 kb sH wj;generalize s2.heap.objs.size=D at *;have wo:tn 0 h₁:=T.keep 0 _ _ st2 λb hb o e=>kept b o (old b o e)
 have stat:∀b∈fp,KP (X.blk N2 scope cl P.objs.size {s2 with heap:=P} H3 fp) pins H3 b:=λb hb=>by
  obtain⟨z0,z1,z2,z3,z4,z5⟩:=f3 b hb;obtain⟨o,e⟩:=fpo b hb;refine⟨z0,QS (Qi (old b o e)),λz=>?_,.inl hb,λx c q=>(hco.old x c q).elim (z4 x c) λw=>Jq (Nat.lt_trans (Qi (old b o e)) w.1),z5⟩;rcases QC.mp (I3.stkSub b z)with q|q
  .exact z1 q
  .exact z2 q
 have neD:∀a o,H2 a=O o->a≠D:=λa o q z=>by subst z;rw[hfr]at q;cases q
 obtain⟨hg,ht,hcl'⟩:=vf cl P.objs.size {s2 with heap:=P} H3 fp;obtain⟨W,rule,body⟩:=hcl' D (.ref it)
 have loop:=Lm (Y:=X.blk N2 scope cl P.objs.size {s2 with heap:=P} H3 fp) (D':=D) (R:=compPost (model X.prog X.w) X.A X.xe use Qc (.ref D) P.objs.size) xM hc rule hg ht body I4 T wo stat kb
  ⟨λi G H s1 s2 hi=>its.go i G H (sgb.trans s1) s2 hi,λi G H s1 s2 hi=>its.stop i G H (sgb.trans s1) s2 hi,λi G H x H' d s1 s2 e y=>its.yld i G H x H' d (sgb.trans s1) s2 e y⟩ wj gbD .nil zl λσ' H' G' vs' s4 L=>by
   obtain⟨m,hm,_⟩:=id L.inv.loc;have I7:Inv X pins σ H' s4:=I3.call' (ch:=fp) L.inv.os L.inv.base L.inv.hok L.inv.bare λb hb=>⟨(f3 b hb).2.2.2.1,(f3 b hb).2.1,(f3 b hb).2.2.2.2.1,(f3 b hb).2.2.2.2.2⟩
   obtain⟨Gf,eF,dF,rF⟩:=ex G' H' vs' esF hfl L.gg (λa o q=>L.hh a o (neD a o q) (sH a o q)) L.eok.gh (λa o q z=>L.np a o (neD a _ q) (sH a _ q) z) L.gd L.rp
   refine vD P.objs.size D vs' Gf H' s4 m I7 hm L.inv.free (Jq I3.lt) I3.sz (λx c e z=>by obtain⟨_,q⟩:=I3.cell x c e;exact absurd q.lt (by rw[z];exact Jm _)) (λp hp z=>by have:=Qi (I3.pin p hp).1;exact absurd this (by rw[z];exact Jm _))
    (k1.ext eF) (sg1.trans eF.g) ⟨k1.bh.free hfr,dF,L.hd,rF,λj es' q z=>?_,λj pt d v fp q s r=>k1.freshD eF.h hfr q s r⟩
   obtain⟨a',ws,h1',h2',h3',wk,h5'⟩:=k1.own j es' q;rw[z]at h1';cases h1';rw[hfr]at wk;cases wk
 exact codeAny_compStart_list loop (T.self X.A 0 _ _ _ wo loop)
theorem Np{l:Bool}{tg elt iter:Uv}{ifs:xU}{gs:List Comprehension}{scope:Scope}{pos:Pos}{N2:List Str}{k:Nat}{f:M xQ}{s:D->UQ->xX}{t:M Bool}{rd:RdB}(hc:X.calm=xO)
  (hi:PI X tg iter (iD X.K B G0 f)) (vf:Z0 X N2 scope (.ListComp elt (⟨tg,iter,ifs,0⟩::gs) scope pos) tg ifs s t rd) (hb:WZ X.env.scope scope X.N N2 k) (hs:∀x,UO iter X.env x=pure x:=by intro _;rfl) :
  PE X (.ListComp elt (⟨tg,iter,ifs,0⟩::gs) scope pos) (tL X.K B G0 (dCG l f k s t rd)):=by
 intro pins s0 σ H Q I ⟨G,ρ,k0,a⟩;cases z:dCG l f k s t rd ρ with
 |bad=>rw[z]at a;exact a.elim
 |ok es ρ1=>
 rw[z]at a;obtain⟨ds,ρF,zf,zl,hfl⟩:=MN z;rw[eval_ListComp];refine Ll hc hi vf hb hs I k0 zf zl hfl λC D vs G' H' s4 m I7 hm hC hL hz hcl hp k' s' n=>?_
 exact⟨m,hm,λh' sb=>⟨.ref D,H',I7.turned (t':=s4.toks) (it:=C) (λb o hb e=>(sb.2 b hb).trans e) hC hL (.inr hz) hcl hp,rfl,a D vs G' H' k' s' n⟩⟩
theorem sD_g{l:Bool}{y:Str}{j:Nat}{py:Pos}{spos:Pos}{tg elt iter:Uv}{ifs:xU}{gs:List Comprehension}{scope:Scope}{pos:Pos}{N2:List Str}{k:Nat}{f:M xQ}{s:D->UQ->xX}{t:M Bool}{rd:RdB}(hN:X.N.Nodup)(hj:X.N[j]?=O y)(hy:X.env.scope.names.lookup y=O .local)(hc:X.calm=xO)
  (hi:PI X tg iter (iD X.K B G0 f)) (vf:Z0 X N2 scope (.ListComp elt (⟨tg,iter,ifs,0⟩::gs) scope pos) tg ifs s t rd) (hb:WZ X.env.scope scope X.N N2 k) (hs:∀x,UO iter X.env x=pure x:=by intro _;rfl)
  (hsw:swapsWith (.ListComp elt (⟨tg,iter,ifs,0⟩::gs) scope pos) (O (.Name y py)) spos.line X.env=pure xO:=by rfl) :
  PS X (.Assign [.Name y py] (.ListComp elt (⟨tg,iter,ifs,0⟩::gs) scope pos) spos) (tS X.K B G0 KX (Kz j (dCG l f k s t rd))):=by
 intro pins s0 σ H Dn I ⟨G,ρ,k0,a⟩;unfold Kz sB at a;cases z:dCG l f k s t rd ρ with
 |bad=>rw[z]at a;exact a.elim
 |ok es ρ1=>
 rw[z]at a;dsimp only at a;by_cases hl:j<ρ1.length
 .rw[Qq hl]at a
  obtain⟨ds,ρF,zf,zl,hfl⟩:=MN z;rw[exec_Assign_Name_used _ _ _ _ hsw];refine Qd (Jn (Qd ?_));show Ux _ X.A (do let _ ←comprehension (.ListComp elt (⟨tg,iter,ifs,0⟩::gs) scope pos) scope X.env _ (newList []) xP (eval iter X.env) (O (assign (.Name y py) X.env))) _ _ s0;refine Qd (QP (Ll (use:=O (assign (.Name y py) X.env)) (Qc:=λ_ s'=>SP X pins Dn .next s') hc hi vf hb hs I k0 zf zl hfl λC D vs G' H' s4 m I7 hm hC hL hz hcl hp k' s' n=>?_) (λ_ s' hq=>Qm (Qm hq)) λ_ _ e=>e);show Ux _ X.A (assign (.Name y py) X.env (.ref D)) _ _ s4;refine wpAny_assign_Name (OF I7 hN hj (.inl hy) (v:=.ref D) xM (λs5 I8 ⟨ad,sb,hx⟩=>?_) (.inr hy))
  have hCa:C≠ad:=by
   rcases hx with e|e
   .rw[e];exact hL
   .exact Ne.symm (hcl y ad e)
  refine⟨m,hm.sameBut sb hCa,λh' sb'=>⟨_,H',I8.turned (t':=s5.toks) (it:=C) (λb o hb e=>(sb'.2 b hb).trans e) hC hL (.inr hz) hcl hp,?_⟩⟩;exact a _ G' H' (k'.setOwn n hl) s'
 .rw[Qw hl]at a;exact a.elim
theorem No{K:Frag}{f f':M xQ}(h:∀ρ es ρ',f ρ=.ok es ρ'->f' ρ=.ok es ρ'){σ:St}{H:Hp}{Q:VK}(q:tL K B G0 f σ H Q):tL K B G0 f' σ H Q:=by
 obtain⟨G,ρ,k,a⟩:=q;refine⟨G,ρ,k,?_⟩;cases z:f ρ with
 |bad=>rw[z]at a;exact a.elim
 |ok es ρ'=>rw[z]at a;rw[h ρ es ρ' z];exact a
theorem Eh{K:Frag}{f f':M xQ}{j:Nat}(h:∀ρ es ρ',f ρ=.ok es ρ'->f' ρ=.ok es ρ'){Dn:_}{σ:St}{H:Hp}(q:tS K B G0 KX (Kz j f) Dn σ H):tS K B G0 KX (Kz j f') Dn σ H:=by
 obtain⟨G,ρ,k,a⟩:=q;refine⟨G,ρ,k,?_⟩;unfold Kz sB at a⊢;cases z:f ρ with
 |bad=>rw[z]at a;exact a.elim
 |ok es ρ'=>rw[z]at a;rw[h ρ es ρ' z];exact a
end
theorem R7{s:D->UQ->xX}{t:M Bool}{g:M D}:∀{ds:xQ}{ρ:UQ}{es esF:xQ},Zi s t g ds ρ es=O esF->∃ρF,cT s t (rL g) ds ρ es=O (esF,ρF)
 |[],ρ,es,esF,h=>by rw[Zi]at h;cases h;exact⟨ρ,rfl⟩
 |d::r,ρ,es,esF,h=>by
  rw[Zi]at h;rw[cT];cases zs:s d ρ with
  |none=>rw[zs]at h;cases h
  |some ρ1=>
  rw[zs]at h;dsimp only at h⊢;cases zt:t ρ1 with
  |bad=>rw[zt]at h;cases h
  |ok b ρ2=>
  rw[zt]at h;dsimp only at h⊢;cases b with
  |false=>exact R7 (ds:=r) h
  |true=>
   rw[Qq xM]at h⊢;unfold rL;cases zg:g ρ2 with
   |bad=>rw[zg]at h;cases h
   |ok e ρ3=>
   rw[zg]at h;dsimp only at h⊢;split at h
   .rename_i hl
    rw[Qq hl];exact R7 (ds:=r) h
   .cases h
theorem OI{s:D->UQ->xX}{t:M Bool}{g:M D}:∀{ds:xQ}{ρ:UQ}{es:xQ},Y3 s t g ds ρ es=cT s t (rL g) ds ρ es
 |[],ρ,es=>rfl
 |d::r,ρ,es=>by
  rw[Y3,cT];cases s d ρ with
  |none=>rfl
  |some ρ1=>
  dsimp only;cases t ρ1 with
  |bad=>rfl
  |ok b ρ2=>
  dsimp only;cases b with
  |false=>exact OI (ds:=r)
  |true=>
   rw[Qq xM,Qq xM];unfold rL;cases g ρ2 with
   |bad=>rfl
   |ok e ρ3=>
   dsimp only;split
   .exact OI (ds:=r)
   .rfl
theorem OH{s s1:D->UQ->xX}{t t1:M Bool}{f:M xQ}{g:M D}:∀{ds:xQ}{ρ:UQ}{es esF:xQ},YF s t f s1 t1 g ds ρ es=O esF->∃ρF,cT s t (rN f s1 t1 (rL g)) ds ρ es=O (esF,ρF)
 |[],ρ,es,esF,h=>by rw[YF]at h;cases h;exact⟨ρ,rfl⟩
 |d::r,ρ,es,esF,h=>by
  rw[YF]at h;rw[cT];cases zs:s d ρ with
  |none=>rw[zs]at h;cases h
  |some ρ1=>
  rw[zs]at h;dsimp only at h⊢;cases zt:t ρ1 with
  |bad=>rw[zt]at h;cases h
  |ok b ρ2=>
  rw[zt]at h;dsimp only at h⊢;cases b with
  |false=>exact OH (ds:=r) h
  |true=>
   rw[Qq xM]at h⊢;unfold rN;cases zg:f ρ2 with
   |bad=>rw[zg]at h;cases h
   |ok ds ρ3=>
   rw[zg]at h;dsimp only at h⊢;rw[←OI];cases zl:Y3 s1 t1 g ds (Km ρ3) es with
   |none=>rw[zl]at h;cases h
   |some pr=>rw[zl]at h;exact OH (ds:=r) h
theorem AF{f:M xQ}{k:Nat}{s:D->UQ->xX}{t:M Bool}{g:M D}(ρ:UQ)(es:xQ)(ρ':UQ)(h:Z6 f k s t g ρ=.ok es ρ'):dCG xP f k s t (rL g) ρ=.ok es ρ':=by
 unfold Z6 at h;unfold dCG;cases zf:f ρ with
 |bad=>rw[zf]at h;cases h
 |ok ds ρ1=>
 rw[zf]at h;dsimp only[Yz]at h⊢;cases zl:Zi s t g ds (Km ρ1++UB k xN) []with
 |none=>rw[zl]at h;cases h
 |some esF=>
 rw[zl]at h;cases h;obtain⟨ρF,e⟩:=R7 zl;rw[e];exact Qq λz=>by cases z
theorem qE{f:M xQ}{k:Nat}{s:D->UQ->xX}{t:M Bool}{g:M D}(ρ:UQ)(es:xQ)(ρ':UQ)(h:Wp f k s t g ρ=.ok es ρ'):dCG xO f k s t (rL g) ρ=.ok es ρ':=by
 unfold Wp at h;unfold dCG;cases zf:f ρ with
 |bad=>rw[zf]at h;cases h
 |ok ds ρ1=>
 rw[zf]at h;dsimp only[Yz]at h⊢;cases zl:Zi s t g ds (Zb ρ1++UB k xN) []with
 |none=>rw[zl]at h;cases h
 |some esF=>
 rw[zl]at h;dsimp only at h;split at h
 .rename_i hf
  cases h;obtain⟨ρF,e⟩:=R7 zl;rw[e];exact Qq λ_=>hf
 .cases h
theorem qD{f f1:M xQ}{k:Nat}{s s1:D->UQ->xX}{t t1:M Bool}{g:M D}(ρ:UQ)(es:xQ)(ρ':UQ)(h:YK f k s t f1 s1 t1 g ρ=.ok es ρ'):dCG xP f k s t (rN f1 s1 t1 (rL g)) ρ=.ok es ρ':=by
 unfold YK at h;unfold dCG;cases zf:f ρ with
 |bad=>rw[zf]at h;cases h
 |ok ds ρ1=>
 rw[zf]at h;dsimp only[Yz]at h⊢;cases zl:YF s t f1 s1 t1 g ds (Km ρ1++UB k xN) []with
 |none=>rw[zl]at h;cases h
 |some esF=>
 rw[zl]at h;cases h;obtain⟨ρF,e⟩:=OH zl;rw[e];exact Qq λz=>by cases z
noncomputable def Xv(q:Option NameKind->Bool)(SC scope:Scope)(N1 N2:List Str)(k:Nat):Bool:=
 SJ scope.names N1 N2 k&&decide (scope.kind=.function)&&(scope.names.all λy=>decide (scope.names.lookup y.1=O y.2))&&scope.names.all λy=>match y.2 with
  |.free=>q (SC.names.lookup y.1)
  |_=>xO
noncomputable def Wj:Option NameKind->Bool
 |some .cell=>xO|some .free=>xO|_=>xP
theorem HG{q:Option NameKind->Bool}{SC SC' scope:Scope}{N1 N2:List Str}{k:Nat}(h:Xv q SC scope N1 N2 k=xO)(f:∀x,q (SC.names.lookup x)=xO->SC'.names.lookup x=O .cell∨SC'.names.lookup x=O .free):WZ SC' scope N1 N2 k:=by unfold Xv at h;rw[Qz,Qz,Qz,Q3,Q3]at h;obtain⟨⟨⟨h1,h2⟩,h0⟩,h3⟩:=h;refine⟨h1,Qa h2,λy hy=>Qa (h0 y hy),λy hy e=>?_⟩;have:=h3 y hy;rw[e]at this;exact f _ this
theorem RH{SC scope:Scope}{N1 N2:List Str}{k:Nat}(h:Xv Wj SC scope N1 N2 k=xO):WZ SC scope N1 N2 k:=HG h λx e=>by
 cases z:SC.names.lookup x with
 |none=>rw[z]at e;cases e
 |some y=>rw[z]at e;cases y<;>first|exact .inl rfl|exact .inr rfl|cases e
section
variable{X:Cx}{B G0:Hp}{KX:XW}
theorem FH{l:Bool}{tg elt iter:Uv}{ifs:xU}{gs:List Comprehension}{scope:Scope}{pos:Pos}{f:M xQ}{s:D->UQ->xX}{t:M Bool}{rd:RdB}{F:M xQ}(SC:Scope)(N1 N2:List Str)(k:Nat)(le:∀ρ es ρ',F ρ=.ok es ρ'->dCG l f k s t rd ρ=.ok es ρ')(hc:X.calm=xO)
  (hi:PI X tg iter (iD X.K B G0 f)) (vf:Z0 X N2 scope (.ListComp elt (⟨tg,iter,ifs,0⟩::gs) scope pos) tg ifs s t rd) (h1:X.env.scope=SC) (h2:X.N=N1) (hb:Xv Wj SC scope N1 N2 k=xO) (hs:∀x,UO iter X.env x=pure x:=by intro _;rfl) :
  PE X (.ListComp elt (⟨tg,iter,ifs,0⟩::gs) scope pos) (tL X.K B G0 F):=
 Kb (Np hc hi vf (by rw[h1,h2];exact RH hb) hs) λ_ _ _ q=>No le q
theorem sD_1{l:Bool}{y:Str}{j:Nat}{py:Pos}{spos:Pos}{tg elt iter:Uv}{ifs:xU}{gs:List Comprehension}{scope:Scope}{pos:Pos}{f:M xQ}{s:D->UQ->xX}{t:M Bool}{rd:RdB}{F:M xQ}(SC:Scope)(N1 N2:List Str)(k:Nat)(le:∀ρ es ρ',F ρ=.ok es ρ'->dCG l f k s t rd ρ=.ok es ρ')(hN:X.N.Nodup)(hj:X.N[j]?=O y)(hy:X.env.scope.names.lookup y=O .local)(hc:X.calm=xO)
  (hi:PI X tg iter (iD X.K B G0 f)) (vf:Z0 X N2 scope (.ListComp elt (⟨tg,iter,ifs,0⟩::gs) scope pos) tg ifs s t rd) (h1:X.env.scope=SC) (h2:X.N=N1) (hb:Xv Wj SC scope N1 N2 k=xO) (hs:∀x,UO iter X.env x=pure x:=by intro _;rfl)
  (hsw:swapsWith (.ListComp elt (⟨tg,iter,ifs,0⟩::gs) scope pos) (O (.Name y py)) spos.line X.env=pure xO:=by rfl) :
  PS X (.Assign [.Name y py] (.ListComp elt (⟨tg,iter,ifs,0⟩::gs) scope pos) spos) (tS X.K B G0 KX (Kz j F)):=
 KO (sD_g hN hj hy hc hi vf (by rw[h1,h2];exact RH hb) hs hsw) λ_ _ _ q=>Eh le q
theorem Eg{l:Bool}{scope0:Scope}{cl:List (Str×Ut)}{C:Ut}{s₀:Ur}{H₀:Hp}{ex:xW}{N2:List Str}{tg elt iter:Uv}{ifs:xU}{gs:List Comprehension}{scope:Scope}{pos:Pos}{f:M xQ}{s:D->UQ->xX}{t:M Bool}{rd:RdB}{F:M xQ}(N3:List Str)(k:Nat)(le:∀ρ es ρ',F ρ=.ok es ρ'->dCG l f k s t rd ρ=.ok es ρ')(hc:X.calm=xO)
  (hi:PI (X.blk N2 scope0 cl C s₀ H₀ ex) tg iter (iD X.K B G0 f)) (vf:Z0 (X.blk N2 scope0 cl C s₀ H₀ ex) N3 scope (.ListComp elt (⟨tg,iter,ifs,0⟩::gs) scope pos) tg ifs s t rd) (hb:Xv Wj scope0 scope N2 N3 k=xO) (hs:∀x,UO iter (X.blk N2 scope0 cl C s₀ H₀ ex).env x=pure x:=by intro _;rfl) :
  PE (X.blk N2 scope0 cl C s₀ H₀ ex) (.ListComp elt (⟨tg,iter,ifs,0⟩::gs) scope pos) (tL X.K B G0 F):=by
 refine Kb (Np (X:=X.blk N2 scope0 cl C s₀ H₀ ex) hc hi vf (HG hb λx e=>?_) hs) λ_ _ _ q=>No le q
 cases z:scope0.names.lookup x with
 |none=>rw[z]at e;cases e
 |some y=>
  rw[z]at e;cases y with
  |free=>exact(O9 (env:=X.env) z).symm
  |cell=>exact .inl (Vm (by decide) z)
  |_=>cases e
end
section
variable{X:Cx}{B G0:Hp}{e a b c tg:Uv}{pos:Pos}{es rest:xU}
theorem EOk.given{K:Frag}{G H:Hp}{σ:St}{ρ:UQ}{a:Ut}{vs:List V}{ds:xQ}(k:EOk K B G0 G H σ ρ)(n:NewL K B G H σ ρ a vs ds):EOk K B G0 (upd G a (.lst vs)) H σ ρ where
 bh:=k.bh
 gh:=λb u q=>by
  by_cases z:b=a
  .subst z;rw[Ks]at q;cases q;exact n.h
  .rw[Ki z]at q;exact k.gh b u q
 g0:=k.g0.trans (Zd n.g)
 np:=λb o q z=>by
  have zb:b≠a:=λz=>by subst z;rw[n.b]at q;cases q
  rw[Ki zb];exact k.np b o q z
 len:=k.len
 pub:=λi d q=>let ⟨v,h1,h2⟩:=k.pub i d q;⟨v,h1,h2.mono (Zd n.g)⟩
 own:=λi ds q=>by
  obtain⟨b,ws,h1,h2,h3,h4,h5⟩:=k.own i ds q;have zb:b≠a:=λz=>by subst z;exact n.f i ds q h1
  exact⟨b,ws,h1,h2,by rw[Ki zb];exact h3,h4,h5.mono (Zd n.g)⟩
 sep:=k.sep
 dp:=k.dp.map (λ_ _ _ q=>⟨q,rfl⟩) (λ_ ds q=>⟨ds,q,rfl⟩) λi p d v fp q s r w nn=>⟨r.mono (Zd n.g) (.refl _),λb m=>⟨(w b m).1,by rw[Ki (λz=>n.dp i p d v fp q s r (by rw[←z];exact m))];exact(w b m).2⟩⟩
theorem Cc{f:M xQ}(h:PE X e (tL X.K B G0 f)):PE X e (tD X.K B G0 (U3 UC f)):=
 Kb h λσ H Q ⟨G,ρ,k,a⟩=>by
  refine⟨G,ρ,k,?_⟩;unfold U3 U2 at a;cases z:f ρ with
  |bad=>rw[z]at a;exact a.elim
  |ok ds ρ1=>rw[z]at a;intro ad vs G' H' k' s' n;exact a (.ref ad) _ H' (k'.given n) (s'.trans (Zd n.g)) (.lst (SqL.of Ks) (n.r.mono (Zd n.g)))
theorem AE(hc:X.calm=xO):ZS X (.builtin "all") (λxs H Q=>∃l,∃bs:List Bool,xs=[.ref l]/\SqL X.K H l (bs.map V.bl)/\Q (.bl (bs.all id)) H):=by
 intro pins s σ H xs us Q I rx h;obtain⟨l,bs,rfl,hq,q⟩:=h;obtain⟨u,rfl,ru⟩:=rx.one;cases ru;obtain⟨its,rv,p,hz⟩:=I.list hq;have hl:=p.isList;have hlt:l<s.heap.objs.size:=by obtain⟨_,e,_⟩:=id hl;exact Qi e
 have key:∀(i:Nat) v,its.toArray[i]?=O v->∃t,bs[i]?=O t/\v=.bool t:=λi v e=>by
  have e:its[i]?=O v:=by simpa using e
  have hi:i<bs.length:=by
   have:=(Ql.mp e).1;have h2:=rv.length;rw[Qb]at h2
   lia
  obtain⟨u,e2,r2⟩:=rv.get (i:=i) (x:=.bl bs[i]) (by rw[Qp,Qe hi];rfl);rw[e]at e2;cases e2;exact⟨bs[i],Qe hi,r2⟩
 refine call_all_walk (wpAny_pyIter_list hl ?_)
 refine⟨s.heap.objs.size,[s.heap.objs.size,l],[s.heap.objs.size],its.toArray.size,_,_,λi=>(bs[i]?).getD xO,rfl,Walks.list (A:=X.A.in1) (I.ok.hd hc) _ l (QS hlt) its.toArray,
  ⟨⟨_,QD _ xM,rfl,rfl⟩,hl.push _⟩,λi v s' Q' E' hP hQ=>?_,λh' tk hk=>?_⟩
 .obtain⟨b,e,rfl⟩:=key i v hP
  simp only[e,JY]at hQ;exact Q8 hQ
 .have hn:its.toArray.size=bs.length:=by have:=rv.length;rw[List.length_map]at this;simp;lia
  have e:((UA its.toArray.size).all λi=>(bs[i]?).getD xO)=bs.all id:=by
   rw[hn,Bool.eq_iff_iff,Q3,Q3];constructor
   .intro h b hb
    obtain⟨i,hi,e⟩:=List.getElem_of_mem hb;have:=h i (Jl.mpr hi);simp only[Qe hi,JY,e]at this;exact this
   .intro h i hi
    have hi':=Jl.mp hi;simp only[Qe hi',JY];exact h _ (Jx hi')
  rw[e];exact⟨.bl (bs.all id),H,I.kept (t':=tk) λb x e=>hk b x (λhm=>by rw[QE.mp hm]at e;exact Jm _ (Qi e)) (Qg _ e),rfl,q⟩
noncomputable def Xx:xQ->Option (List Bool)
 |[]=>O []
 |.bool b::r=>(Xx r).map (b :: ·)
 |_=>xN
theorem Nc{K:Frag}{G:Hp}:∀{vs:List V}{ds:xQ}{bs:List Bool},Reps K G vs ds->Xx ds=O bs->vs=bs.map V.bl
 |_,_,bs,.nil,e=>by cases e;rfl
 |_,_,bs,.cons (d:=d) r t,e=>by
  cases d with
  |bool b=>
   unfold Xx at e;cases z:Xx _ with
   |none=>rw[z]at e;cases e
   |some cs=>rw[z]at e;cases e;rw[r.bl_inv,Nc t z];rfl
  |_=>cases e
noncomputable def Yy:xQ->xT
 |[.list ds]=>(Xx ds).map λbs=>.bool (bs.all id)
 |_=>xN
theorem FG(hc:X.calm=xO):Yk X (.builtin "all") Yy:=by
 refine⟨_,AE hc,λvs G H ds d Q s r e k=>?_⟩;unfold Yy at e;split at e
 .rename_i ds
  cases z:Xx ds with
  |none=>rw[z]at e;cases e
  |some bs=>rw[z]at e;cases e;obtain⟨v,rfl,q⟩:=r.one_inv;obtain⟨l,ws,rfl,h1,r1⟩:=q.lst_inv;have hw:=Nc r1 z;subst hw;exact⟨l,bs,rfl,s.seq h1,k _ G H (.refl s) (.bl _)⟩
 .cases e
noncomputable def Its(x:Str):It:=⟨λi _=>i<x.cps.size,λi H v H'=>H'=H/\∃c,x.cps[i]?=O c/\v=.str ⟨#[c]⟩,λi _=>x.cps.size<=i⟩
theorem AD{P:Us}{w:World}{K:Frag}{tg:Uv}(x:Str)(t:Tok)(it:Ut):Turn P w K tg (Its x) [it] it (λi h=>h.IsStrIter it (strIterType x) x t i) where
 mem:=by simp
 obj:=λi h st b hb=>by
  have e:b=it:=by simpa using hb
  subst e;obtain⟨o,e,c,d⟩:=st;exact⟨o,e,λv z=>by rw[d]at z;cases z⟩
 keep:=λi h h' st k=>by obtain⟨o,e,c,d⟩:=st;exact⟨o,k it (by simp) o e,c,d⟩
 item:=by
  intro X hP hw hK hc i pins s σ H E I hf st hg;subst hP hw hK;obtain⟨f0,f1,f2,f3,f4,f5⟩:=hf it (by simp);have hx:x.cps[i]?=O x.cps[i]:=JS hg
  have fin:∀h' tk(T:String),strIterType x=T->h'.IsStrIter it T x t (i+1)->Heap.SameBut it s.heap h'->["enumerate", "zip", "dict_itemiterator", "dict_reverseitemiterator", "odict_iterator", "itertools.zip_longest", "itertools.pairwise"].contains T=xP ->
    ∃u,O (Value.str ⟨#[x.cps[i]]⟩ s.toks)=O u/\Ux (model X.prog X.w) X.A (letOwnedTupleGo tg (.ref it) u) (λ_ s2=>∃v H',Inv X pins σ H' s2/\RelV v u/\(Its x).yld i H v H'/\s2.heap.IsStrIter it (strIterType x) x t (i+1)/\∀b∈[it],H' b=xN) E {s with heap:=h',toks:=tk}:=by
   intro h' tk T eT st' sb hn;have I1:Inv X pins σ H {s with heap:=h',toks:=tk}:=I.turned (t':=tk) (λb o hb e=>(sb.2 b hb).trans e) f0 f1 f3 f4 f5;obtain⟨o,e,c,d⟩:=id st';refine⟨_,rfl,Re (s:={s with heap:=h',toks:=tk}) e c d hn ⟨.str ⟨#[x.cps[i]]⟩,H,I1,⟨_,rfl⟩,⟨rfl,_,hx,rfl⟩,by rw[eT];exact st',λb hb=>(hf b hb).1⟩⟩
  cases ha:x.cps.all (· < 128)with
  |true=>
   have eT:strIterType x = "str_ascii_iterator" :=by simp[strIterType,ha]
   rw[eT]at st;exact wpAny_pyNext_ascii_item st hx λh' st' sb=>fin h' _ _ eT st' sb (by decide)
  |false=>
   have eT:strIterType x = "str_iterator" :=by simp[strIterType,ha]
   rw[eT]at st;exact wpAny_pyNext_wide_item st hx λh' st' sb=>fin h' _ _ eT st' sb (by decide)
 done:=by
  intro X hP hw hK hc i pins s σ H E I hf st hg;subst hP hw hK;obtain⟨f0,f1,f2,f3,f4,f5⟩:=hf it (by simp);have hx:x.cps[i]?=xN:=Array.getElem?_eq_none hg;cases ha:x.cps.all (· < 128)with
  |true=>
   have eT:strIterType x = "str_ascii_iterator" :=by simp[strIterType,ha]
   rw[eT]at st;exact wpAny_pyNext_ascii_end (I.ok.hd hc) st hx λh' eb=>⟨rfl,I.turned (t':=s.toks) (λb o hb e=>eb b o hb e) f0 f1 f3 f4 f5⟩
  |false=>
   have eT:strIterType x = "str_iterator" :=by simp[strIterType,ha]
   rw[eT]at st;exact wpAny_pyNext_wide_end (I.ok.hd hc) st hx λh' eb=>⟨rfl,I.turned (t':=s.toks) (λb o hb e=>eb b o hb e) f0 f1 f3 f4 f5⟩
 self:=λA i s Q E st h=>by
  cases ha:x.cps.all (· < 128)with
  |true=>
   have eT:strIterType x = "str_ascii_iterator" :=by simp[strIterType,ha]
   rw[eT]at st;exact wpAny_pyIter_striter_ascii st h
  |false=>
   have eT:strIterType x = "str_iterator" :=by simp[strIterType,ha]
   rw[eT]at st;exact wpAny_pyIter_striter_wide st h
noncomputable def iAny(K:Frag)(tl:TE):TI:=λσ H R=>tl σ H λx H1=>(∃a,x=.ref a/\(∃xs,SqL K H1 a xs)/\R (Itl K a) H1)∨(∃a,x=.ref a/\(∃xs,SqT K H1 a xs)/\R (Itt K a) H1) ∨ ∃z,x=.str z/\R (Its z) H1
theorem Ef{l:Uv}{tl:TE}(hl:PE X l tl):PI X tg l (iAny X.K tl):=by
 intro pins s σ H R I h;refine thn (hl pins s σ H _ I h) λv s1 ⟨x,H1,I1,r1,q1⟩=>?_
 have fpOk:∀b∈[s1.heap.objs.size],KP X pins H1 b:=λb hb=>by
  have e:b=s1.heap.objs.size:=by simpa using hb
  subst e;exact I1.fpOk (Qr _) (I1.hok.fresh (Qr _))
 rcases q1 with ⟨a,e,⟨xs,hq⟩,q⟩|⟨a,e,⟨xs,hq⟩,q⟩|⟨z,e,q⟩
 .subst e
  cases r1;obtain⟨its,rv,p,hz⟩:=I1.list hq;refine wpAny_pyIter_list p.isList ?_;exact⟨s1.heap.objs.size,[s1.heap.objs.size],_,_,H1,rfl,I1.kept (t':=s1.toks) λb o e=>Qg _ e,L8 a _,⟨_,QD _ xM,rfl,rfl⟩,fpOk,q⟩
 .subst e
  cases r1;obtain⟨its,rv,p,hz⟩:=I1.tuple hq;refine wpAny_pyIter_tuple p ?_;exact⟨s1.heap.objs.size,[s1.heap.objs.size],_,_,H1,rfl,I1.kept (t':=s1.toks) λb o e=>Qg _ e,ka a _,⟨_,QD _ xM,rfl,rfl⟩,fpOk,q⟩
 .subst e
  obtain⟨t,rfl⟩:=r1;refine wpAny_pyIter_strU ?_;exact⟨s1.heap.objs.size,[s1.heap.objs.size],_,_,H1,rfl,I1.kept (t':=s1.toks) λb o e=>Qg _ e,AD z t _,⟨_,QD _ xM,rfl,rfl⟩,fpOk,q⟩
noncomputable def Sr(z:Str):xQ:=z.cps.toList.map λc=>.str ⟨#[c]⟩
noncomputable def P0:D->Option xQ
 |.list ds=>O ds
 |.tuple ds=>O ds
 |.str z=>O (Sr z)
 |_=>xN
theorem kE{K:Frag}{G1:Hp}{ad:Ut}{vs:List V}{ds:xQ}(h:SqT K G1 ad vs)(r:Reps K G1 vs ds):Xi K (Itt K ad) ds G1 where
 go:=λi G H s1 s2 hi=>by
  have hi':i<vs.length:=by rw[r.length];exact hi
  exact⟨vs,vs[i],YE (s1.trans s2) h,Qe hi'⟩
 stop:=λi G H s1 s2 hi=>⟨vs,YE (s1.trans s2) h,by rw[r.length];exact hi⟩
 yld:=λi G H x H' d s1 s2 e y=>by obtain⟨rfl,y⟩:=y;obtain⟨v,e1,r1⟩:=r.get e;have:=y vs (YE (s1.trans s2) h);rw[e1]at this;cases this;exact⟨G,.refl s2,r1.mono s1⟩
theorem qC{K:Frag}{G1:Hp}{z:Str}:Xi K (Its z) (Sr z) G1 where
 go:=λi G H s1 s2 hi=>by unfold Sr at hi;simpa[Its]using hi
 stop:=λi G H s1 s2 hi=>by unfold Sr at hi;simpa[Its]using hi
 yld:=λi G H x H' d s1 s2 e y=>by
  obtain⟨rfl,c,hc,rfl⟩:=y;unfold Sr at e;rw[Qp]at e;have:z.cps.toList[i]?=O c:=by simpa using hc
  rw[this]at e;cases e;exact⟨G,.refl s2,.str _⟩
noncomputable def Kx(f:M D):M xQ:=U2 f λx=>U1 (P0 x)
theorem Rv{f:M D}(h:PE X e (tD X.K B G0 f)):PI X tg e (iD X.K B G0 (Kx f)):=Wx (Ef h) λσ H R q=>tM.toI (R0:=Rep X.K) q λv H' G' ρ' x k r a=>by
 cases x with
 |list ds=>obtain⟨ad,vs,rfl,h1,r1⟩:=r.lst_inv;exact .inl ⟨ad,rfl,⟨vs,k.gh.seq h1⟩,a _ G' H' k (.refl _) (ke h1 r1)⟩
 |tuple ds=>obtain⟨ad,vs,rfl,h1,r1⟩:=r.tup_inv;exact .inr (.inl ⟨ad,rfl,⟨vs,YE k.gh h1⟩,a _ G' H' k (.refl _) (kE h1 r1)⟩)
 |str z=>have:=r.str_inv;subst this;exact .inr (.inr ⟨z,rfl,a _ G' H' k (.refl _) qC⟩)
 |_=>exact a.elim
theorem FF{x:Str}{i:Int}(hg:Gl X x)(hm:∃t,X.mg x=O (.int i t))(hd:(x==("__debug__" : Str))=xP:=by decide):PE X (.Name x pos) (tD X.K B G0 (UU (.int i))):=by obtain⟨t,hm⟩:=hm;exact Kb (Lb (v:=.int i) hg hm ⟨t,rfl⟩ hd) λσ H Q ⟨G,ρ,k,a⟩=>aft.now a k (.int _)
end
section
variable{X:Cx}{B G0:Hp}{KX:XW}{e o a b c tg i:Uv}{pos p2:Pos}{es rest:xU}{te to ti:TE}
noncomputable def Ee(te to ti:TE):TS:=λD σ H=>te σ H λv H1=>to σ H1 λx H2=>ti σ H2 λk H3=>∃l xs n,x=.ref l/\H3 l=O (.lst xs)/\k=.int n/\0<=n/\n<xs.length/\D.nx σ (upd H3 l (.lst (xs.set n.toNat v)))
theorem AC(he:PE X e te)(ho:PE X o to)(hi:PE X i ti)(hs:swapsWith e (O (.Subscript o i p2)) pos.line X.env=pure xP:=by rfl):PS X (.Assign [.Subscript o i p2] e pos) (Ee te to ti):=by
 intro pins s σ H D I h;refine wpAny_Assign_Subscript (thn (he pins s σ H _ I h) λv s1 ⟨x,H1,I1,r1,q1⟩=>thn (ho pins s1 σ H1 _ I1 q1) λov s2 ⟨y,H2,I2,r2,q2⟩=>thn (hi pins s2 σ H2 _ I2 q2) λiv s3 ⟨k,H3,I3,r3,q3⟩=>?_) hs;obtain⟨l,xs,n,rfl,hl,rfl,h0,h1,q⟩:=q3;cases r2;obtain⟨t,rfl⟩:=r3;obtain⟨z,its,m,r,hlen,ee⟩:=I3.lstM hl
 refine PySem.W.ki_setAt (items:=its.toArray) (n:=m) ee h0 (by
                                  have:Uw<2 ^ 63:=by decide
                                  lia) (by simp;lia) ?_
 refine⟨σ,_,I3.lset (t':=s3.toks) (its:=its) (its':=its.set n.toNat v) (f:=(·.setIfInBounds n.toNat v)) hl ee (by simp) (r.set r1 n.toNat) (by rw[List.length_set];exact z),q⟩
noncomputable def TD(j:Nat)(g f:M D):SM:=sB f λd ρ1=>match ρ1[j]? with
 |some (O (.own _))=>sB g (λy ρ2=>match y with
  |.int k=>(match ρ2[j]? with
   |some (O (.own ds))=>if 0<=k/\k<ds.length then .nx (ρ2.set j (O (.own (ds.set k.toNat d))))else .bad
   |_=>.bad)
  |_=>.bad) ρ1
 |_=>.bad
theorem Cb{j:Nat}{f g:M D}(he:PE X e (tD X.K B G0 f))(ho:PE X o (Kl j))(hi:PE X i (tD X.K B G0 g))(hs:swapsWith e (O (.Subscript o i p2)) pos.line X.env=pure xP:=by rfl) :
  PS X (.Assign [.Subscript o i p2] e pos) (tS X.K B G0 KX (TD j g f)):=
 KO (AC he ho hi hs) λD σ H q=>tS.bnd (R:=Rep X.K) q λv H1 G1 ρ1 d k r a=>by
  cases q0:ρ1[j]? with
  |none=>rw[q0]at a;exact a.elim
  |some o0=>
   cases o0 with
   |none=>rw[q0]at a;exact a.elim
   |some sl0=>
    cases sl0 with
    |deep _ _=>rw[q0]at a;exact a.elim
    |pub d=>rw[q0]at a;exact a.elim
    |own ww=>
     rw[q0]at a;obtain⟨ad,vs0,h1,h2,h3,h4,h5⟩:=k.own j ww q0;refine⟨.ref ad,h1,G1,ρ1,k,?_⟩;dsimp only at a;unfold sB at a;cases z:g ρ1 with
     |bad=>rw[z]at a;exact a.elim
     |ok y ρ2=>
      rw[z]at a;dsimp only at a;intro kv G' H' k' s' r';cases y with
      |int n=>
       dsimp only at a;cases q:ρ2[j]? with
       |none=>rw[q]at a;exact a.elim
       |some oo=>
        cases oo with
        |none=>rw[q]at a;exact a.elim
        |some sl=>
         cases sl with
         |deep _ _=>rw[q]at a;exact a.elim
         |pub d=>rw[q]at a;exact a.elim
         |own ds=>
          rw[q]at a;dsimp only at a;split at a
          .rename_i hn
           obtain⟨ad',vs,g1,g2,g3,g4,g5⟩:=k'.own j ds q;rw[h1]at g1;cases g1;refine⟨ad,vs,n,rfl,g4,r'.int_inv,hn.1,by rw[g5.length];exact hn.2,?_⟩;exact a σ G' _ (k'.change q h1 (g5.set (r.mono s') n.toNat)) s'
          .exact a.elim
      |_=>exact a.elim
noncomputable def Xe(z:Str)(lo hi:xZ):Str:=if(Builtin.Str.strSliceIndices lo hi 1 z.length).length=z.length then z else⟨((Builtin.Str.strSliceIndices lo hi 1 z.length).filterMap (z.cps[·]?)).toArray⟩
theorem Ed:SlR X (λx lo hi H Q=>∃z,x=.str z/\(Xe z lo hi).length<=Uw/\Q (.str (Xe z lo hi)) H):=by
 intro pins s σ H x v vl vu lo hi sl Q I rx hs pl pu h;obtain⟨z,rfl,hz,q⟩:=h;obtain⟨t,rfl⟩:=rx;refine⟨"str", _,F.slot_str_getitem.lookup,typeIs_str s z t,?_⟩
 obtain⟨l,el,e1⟩:∃l:Option (Int×Tok),vl=partValue l/\l.map (·.1)=lo:=by
  cases pl with
  |none=>exact⟨xN,rfl,rfl⟩
  |int k t'=>exact⟨O (k,t'),rfl,rfl⟩
 obtain⟨u,eu,e2⟩:∃u:Option (Int×Tok),vu=partValue u/\u.map (·.1)=hi:=by
  cases pu with
  |none=>exact⟨xN,rfl,rfl⟩
  |int k t'=>exact⟨O (k,t'),rfl,rfl⟩
 subst el eu;refine wpAny_getItem_str_slice (l:=l) (u:=u) (st:=xN) hs xM ?_;unfold sliceMade slicePicked;rw[e1,e2];unfold Xe at hz q;by_cases hw:(Builtin.Str.strSliceIndices lo hi 1 z.length).length=z.length
 .rw[Qq hw]at hz q
  rw[if_pos (by simp[hw])];exact⟨.str z,H,I,⟨t,rfl⟩,q⟩
 .rw[Qw hw]at hz q
  rw[if_neg (by simp[hw])];exact⟨hz,.str _,H,I.tok _,⟨_,rfl⟩,q⟩
end
section
variable{X:Cx}{B G0:Hp}{KX:XW}{e o a b c tg i:Uv}{pos p2:Pos}{es rest:xU}{te to ti:TE}
theorem pvb(i:Nat){x:Str}{pos:Pos}{N':List Str}{scope:Scope}{cl:List (Str×Ut)}{C:Ut}{s₀:Ur}{H₀:Hp}{ex:xW}(hN:N'[i]?=O x:=by rfl)
  (h:visK (scope.names.lookup x)=xO:=by rfl) (hd:(x==("__debug__" : Str))=xP:=by decide) (hcd:(x==("__classdict__" : Str))=xP:=by decide) :
  PE (X.blk N' scope cl C s₀ H₀ ex) (.Name x pos) (Kl i):=Mb hN (Cf h) hd hcd
noncomputable def Xa:D->xZ->xZ->xT
 |.list xs,lo,hi=>O (.list (DL.cutD xs lo hi))
 |.str z,lo,hi=>if(Xe z lo hi).length<=1000000 then O (.str (Xe z lo hi))else xN
 |_,_,_=>xN
noncomputable def K3(f:M D)(lo hi:M xZ):M D:=U2 f λx=>U2 lo λl=>U2 hi λh=>U1 (Xa x l h)
theorem jH{lo hi:Option Uv}{f:M D}{l h:M xZ}(he:PE X e (tD X.K B G0 f))(hl:PO X lo (tOi X.K B G0 l))(hu:PO X hi (tOi X.K B G0 h)) :
  PE X (.Subscript e (.Slice lo hi xN p2) pos) (tD X.K B G0 (K3 f l h)):=
 Kb (Ap (Bj.or Ed) he hl hu) λσ H Q q=>by
  refine tM.one (R:=Rep X.K) q λv H2 G ρ x k r a=>?_;refine tM.nx (R:=λ_ b c=>b=c) k a λl' H3 G3 ρ3 xl k3 s3 r3 a3=>?_;refine tM.nx (R:=λ_ b c=>b=c) k3 a3 λh' H4 G4 ρ4 xh k4 s4 r4 a4=>?_;have r3:l'=xl:=r3;have r4:h'=xh:=r4;subst r3 r4;unfold U1 Xa at a4
  cases x with
  |list xs=>obtain⟨ad,vs,rfl,h1,r1⟩:=((r.mono s3).mono s4).lst_inv;exact .inl ⟨ad,vs,rfl,k4.gh.seq h1,λp hp=>aft.done a4 k4 (Ext.new k4.gh hp) (.lst (SqL.of Ks) ((r1.cut l' h').mono (Zd (k4.gh.free hp))))⟩
  |str z=>
   dsimp only at a4;have:=r.str_inv;subst this;by_cases hc:(Xe z l' h').length<=1000000
   .rw[Qq hc]at a4
    exact .inr ⟨z,rfl,Qt hc lim,aft.now a4 k4 (.str _)⟩
   .rw[Qw hc]at a4;exact a4.elim
  |_=>exact a4.elim
end
section
variable{X:Cx}{B G0:Hp}{e o a b c tg:Uv}{pos p2:Pos}{es rest:xU}{te to ti:TE}
noncomputable def Zu{β:Type}(p:D->D->Option β)(i:Nat)(g:M D):M β:=λρ=>match ρ[i]? with
 |some (O (.pub d))=>(U2 g λy=>U1 (p d y)) ρ
 |some (O (.own _))=>(U2 g λy=>λρ'=>match ρ'[i]? with|some (O (.own ds))=>U1 (p (.list ds) y) ρ'|_=>.bad) ρ
 |_=>.bad
theorem FE{K:Frag}{σ:St}{H:Hp}{p:D->D->vb}{r:R2}{i:Nat}{g:M D}{Q:Bool->Hp->Prop}{QV:VK}(hq:∀t H3,Q t H3->QV (.bl t) H3)(hr:∀v u G H x y d Q,Same G H->Rep K G v x->Rep K G u y->p x y=O d->Q (.bl d) H->r v u H Q)
  (q:tBo K B G0 (Zu p i g) σ H Q):Kl i σ H λx H1=>tD K B G0 g σ H1 λy H2=>r x y H2 QV:=by
 obtain⟨G,ρ,k,a⟩:=q;unfold Zu at a;cases q:ρ[i]? with
 |none=>rw[q]at a;exact a.elim
 |some o=>
  cases o with
  |none=>rw[q]at a;exact a.elim
  |some sl=>
   cases sl with
   |deep _ _=>rw[q]at a;exact a.elim
   |pub d=>
    rw[q]at a;obtain⟨v,h1,h2⟩:=k.pub i d q;refine⟨v,h1,G,ρ,k,?_⟩;dsimp only[U2]at a;cases z:g ρ with
    |bad=>rw[z]at a;exact a.elim
    |ok y ρ1=>rw[z]at a;intro u G' H' k' s' r';obtain⟨d',e',a'⟩:=aft.opt a;exact hr v u G' H' d y d' _ k'.gh (h2.mono s') r' e' (hq _ _ (a' d' G' H' k' s' xM))
   |own ds=>
    rw[q]at a;obtain⟨ad,vs,h1,h2,h3,h4,h5⟩:=k.own i ds q;refine⟨.ref ad,h1,G,ρ,k,?_⟩;dsimp only[U2]at a;cases z:g ρ with
    |bad=>rw[z]at a;exact a.elim
    |ok y ρ1=>
     rw[z]at a;dsimp only at a;intro u G' H' k' s' r';cases q1:ρ1[i]? with
     |none=>rw[q1]at a;exact a.elim
     |some oo=>
      cases oo with
      |none=>rw[q1]at a;exact a.elim
      |some sl1=>
       cases sl1 with
       |deep _ _=>rw[q1]at a;exact a.elim
       |pub d1=>rw[q1]at a;exact a.elim
       |own ds1=>
        rw[q1]at a;dsimp only at a;obtain⟨ad',ws,g1,g2,g3,g4,g5⟩:=k'.own i ds1 q1;rw[h1]at g1;cases g1;obtain⟨d',e',a'⟩:=aft.opt a;have sg:Same G' (upd G' ad (.lst ws)):=Zd g3
        have sh:Same (upd G' ad (.lst ws)) H':=λb o q=>by
         by_cases z:b=ad
         .subst z;rw[Ks]at q;cases q;exact g4
         .rw[Ki z]at q;exact k'.gh b o q
        exact hr (.ref ad) u _ H' (.list ds1) y d' _ sh (.lst (SqL.of Ks) (g5.mono sg)) (r'.mono sg) e' (hq _ _ (a' d' G' H' k' s' xM))
theorem Ca{op:CmpOp}{p:D->D->vb}{i:Nat}{g:M D}(o:OpB X (Uz op) p)(ha:PE X a (Kl i))(hb:PE X b (tD X.K B G0 g))(hm:behindInMarks op b=xP) :
  PT X (.Compare a [op] [b] pos) (tBo X.K B G0 (Zu p i g)):=by
 obtain⟨r,h,j⟩:=o;exact Yc (P5 h ha hb hm) λσ H Q q=>FE (λt H3 z=>⟨t,rfl,z⟩) j q
end
end DL
namespace L2
open PySem PySem.Spec PyProof.Rows
end L2
namespace DL
open PySem PySem.Spec L2
open PyProof.Rows hiding St
section
variable{X:Cx}{B G0:Hp}{e o a b c tg:Uv}{pos p2 p3:Pos}{es rest:xU}{te to ti:TE}
theorem jf{tl th ts:TO}{lo hi:Option Uv}{st:Uv}(he:PE X e te)(hl:PO X lo tl)(hu:PO X hi th)(hst:PO X (O st) ts):PE X (.Subscript e (.Slice lo hi (O st) p2) pos)
  (λσ H Q=>te σ H λx H1=>tl σ H1 λl H2=>th σ H2 λu H3=>ts σ H3 λt H4=>∃a xs,x=.ref a/\SqL X.K H4 a xs/\l=xN/\u=xN/\t=O (-1)/\∀p,H4 p=xN->Q (.ref p) (upd H4 p (.lst xs.reverse))):=by
 intro pins s σ H Q I h;refine Subscript_ (thn (he pins s σ H _ I h) λv s1 ⟨x,H1,I1,r1,q1⟩=>?_);refine wpAny_Slice (thn (hl pins s1 σ H1 _ I1 q1) λvl s2 ⟨l,H2,I2,pl,q2⟩=>thn (hu pins s2 σ H2 _ I2 q2) λvu s3 ⟨u,H3,I3,pu,q3⟩=>thn (hst pins s3 σ H3 _ I3 q3) λvt s4 ⟨t,H4,I4,pt,q4⟩=>?_);obtain⟨a,xs,rfl,hx,rfl,rfl,rfl,q⟩:=q4;cases r1;have I5:Inv X pins σ H4 {s4 with heap:=s4.heap.push {cls:=.type "slice", data:=.fields #[vl,vu,vt]}}:=I4.kept (t':=s4.toks) λb ob q=>Qg _ q
 obtain⟨its,r,ht,hz⟩:=I5.list hx;have hlen:=r.length;have hg:Ux (model X.prog X.w) X.A (getItem (.ref a) (.ref s4.heap.objs.size)) (EP X pins σ Q) X.xe {s4 with heap:=s4.heap.push {cls:=.type "slice", data:=.fields #[vl,vu,vt]}}:=by refine wpAny_getItem_list_slice ht.isList (Heap.IsSliceOf.new ..) pl pu pt (by simp) ?_ (by rw[List.size_toArray]<;>lia);rw[PySem.W.krv_pick];refine⟨.ref _,_,I5.laid (t':=s4.toks) (o:=.lst xs.reverse) (λb ob q=>Qg _ q) (Qr _) ?_,rfl,q _ (I5.hok.fresh (Qr _))⟩;exact⟨by rw[List.length_reverse];exact hz,its.reverse,0,r.reverse,QD _ xM⟩
 show Ux (model X.prog X.w) X.A (subscriptTail e (.Slice lo hi (O st) p2) (.ref a) (.ref s4.heap.objs.size)) (EP X pins σ Q) X.xe {s4 with heap:=s4.heap.push {cls:=.type "slice", data:=.fields #[vl,vu,vt]}};exact tail_any (ops:=[.ref a,.ref s4.heap.objs.size]) ht.isList.typeIs slot_list_getitem.lookup hg (by with_unfolding_all rfl)
noncomputable def Wz:D->xZ->xZ->xZ->xT
 |.list xs,xN,xN,O i=>if i = -1 then O (.list xs.reverse)else xN
 |_,_,_,_=>xN
noncomputable def WJ(f:M D)(lo hi st:M xZ):M D:=U2 f λx=>U2 lo λl=>U2 hi λh=>U2 st λt=>U1 (Wz x l h t)
theorem D9{lo hi:Option Uv}{st:Uv}{f:M D}{l h t:M xZ}(he:PE X e (tD X.K B G0 f))(hl:PO X lo (tOi X.K B G0 l))(hu:PO X hi (tOi X.K B G0 h))(hst:PO X (O st) (tOi X.K B G0 t)) :
  PE X (.Subscript e (.Slice lo hi (O st) p2) pos) (tD X.K B G0 (WJ f l h t)):=
 Kb (jf he hl hu hst) λσ H Q q=>by
  refine tM.one (R:=Rep X.K) q λv H2 G ρ x k r a=>?_;refine tM.nx (R:=λ_ b c=>b=c) k a λl' H3 G3 ρ3 xl k3 s3 r3 a3=>?_;refine tM.nx (R:=λ_ b c=>b=c) k3 a3 λh' H4 G4 ρ4 xh k4 s4 r4 a4=>?_;refine tM.nx (R:=λ_ b c=>b=c) k4 a4 λt' H5 G5 ρ5 xt k5 s5 r5 a5=>?_;have r3:l'=xl:=r3;have r4:h'=xh:=r4;have r5:t'=xt:=r5;subst r3 r4 r5
  cases x with
  |list xs=>
   cases l' with
   |some _=>exact a5.elim
   |none=>
   cases h' with
   |some _=>exact a5.elim
   |none=>
   cases t' with
   |none=>exact a5.elim
   |some i=>
   obtain⟨ad,vs,rfl,h1,r1⟩:=(((r.mono s3).mono s4).mono s5).lst_inv;by_cases hi:i = -1
   .subst hi
    exact⟨ad,vs,rfl,k5.gh.seq h1,rfl,rfl,rfl,λp hp=>aft.done a5 k5 (Ext.new k5.gh hp) (.lst (SqL.of Ks) (r1.reverse.mono (Zd (k5.gh.free hp))))⟩
   .unfold U1 Wz at a5
    dsimp only at a5;rw[Qw hi]at a5;exact a5.elim
  |_=>unfold U1 Wz at a5;exact a5.elim
noncomputable def XU:xQ->Option xQ
 |[.list xs]=>O xs
 |[.tuple xs]=>O xs
 |_=>xN
theorem LU{x l:xQ}(h:XU x=O l):x=[.list l]∨x=[.tuple l]:=by
 unfold XU at h;split at h
 .cases h;exact .inl xM
 .cases h;exact .inr xM
 .cases h
theorem OY:bootBuiltins "list" = O (.type "list"):=by decide +kernel
theorem AB{f:M xQ}(hg:Gl X "list")(hm:X.mg "list" = xN)(ha:PA X [a] (tDs X.K B G0 f))(he:Uy [a] X.env=(xP,eval a X.env)::Uy [] X.env:=by rfl) :
  PE X (.Call (.Name "list" p2) [a] [] pos) (tL X.K B G0 (U2 f λxs=>U1 (XU xs))):=
 Kb (Sa HP hg hm OY ha (by decide) (by decide) he xM) λσ H Q ⟨G,ρ,k,q⟩=>by
  refine⟨G,ρ,k,?_⟩;unfold U2 at q;cases z:f ρ with
  |bad=>rw[z]at q;exact q.elim
  |ok xs ρ1=>
   rw[z]at q;dsimp only[U1]at q;intro vs G' H' k' s' r;cases z2:XU xs with
   |none=>rw[z2]at q;exact q.elim
   |some l=>
    rw[z2]at q;rcases LU z2 with rfl|rfl
    .obtain⟨v,rfl,q1⟩:=r.one_inv
     obtain⟨p,ws,rfl,h1,r1⟩:=q1.lst_inv;exact⟨p,ws,rfl,.inl (k'.gh.seq h1),λad hp=>q ad ws G' _ (k'.ext (Ext.hid k'.gh hp)) s' (NewL.of k' hp r1)⟩
    .obtain⟨v,rfl,q1⟩:=r.one_inv
     obtain⟨p,ws,rfl,h1,r1⟩:=q1.tup_inv;exact⟨p,ws,rfl,.inr (YE k'.gh h1),λad hp=>q ad ws G' _ (k'.ext (Ext.hid k'.gh hp)) s' (NewL.of k' hp r1)⟩
noncomputable def VC(i:Nat):M xQ:=λρ=>match ρ[i]? with
 |some (O (.pub d))=>U1 (XU [d]) ρ
 |some (O (.own ds))=>.ok ds ρ
 |_=>.bad
theorem je{i:Nat}(hg:Gl X "list")(hm:X.mg "list" = xN)(ho:PE X a (Kl i))(he:Uy [a] X.env=(xP,eval a X.env)::Uy [] X.env:=by rfl) :
  PE X (.Call (.Name "list" p2) [a] [] pos) (tL X.K B G0 (VC i)):=
 Kb (Sa HP hg hm OY (Zq ho Z4 he) (by decide) (by decide) he xM) λσ H Q ⟨G,ρ,k,q⟩=>by
  unfold VC at q;cases z:ρ[i]? with
  |none=>rw[z]at q;exact q.elim
  |some oo=>
   cases oo with
   |none=>rw[z]at q;exact q.elim
   |some sl=>
    cases sl with
    |deep _ _=>rw[z]at q;exact q.elim
    |own ds=>rw[z]at q;dsimp only at q;obtain⟨ad,vs,h1,h2,h3,h4,h5⟩:=k.own i ds z;exact⟨.ref ad,h1,ad,vs,rfl,.inl (SqL.of h4),λl hp=>q l vs G _ (k.ext (Ext.hid k.gh hp)) (.refl _) (NewL.of k hp h5)⟩
    |pub d=>
     rw[z]at q;dsimp only[U1]at q;obtain⟨v,h1,h2⟩:=k.pub i d z;cases z2:XU [d]with
     |none=>rw[z2]at q;exact q.elim
     |some l=>
      rw[z2]at q;dsimp only at q;rcases LU z2 with e|e
      .cases e
       obtain⟨p,ws,rfl,g1,r1⟩:=h2.lst_inv;exact⟨_,h1,p,ws,rfl,.inl (k.gh.seq g1),λad hp=>q ad ws G _ (k.ext (Ext.hid k.gh hp)) (.refl _) (NewL.of k hp r1)⟩
      .cases e
       obtain⟨p,ws,rfl,g1,r1⟩:=h2.tup_inv;exact⟨_,h1,p,ws,rfl,.inr (YE k.gh g1),λad hp=>q ad ws G _ (k.ext (Ext.hid k.gh hp)) (.refl _) (NewL.of k hp r1)⟩
noncomputable def Pt:xQ->xT
 |[.int i]=>O (.int i)
 |[.bool b]=>O (.int (if b then 1 else 0))
 |_=>xN
theorem Ec:Yk X (.type "int") Pt:=by
 refine⟨_,jM,λvs G H ds d Q s r e k=>?_⟩;unfold Pt at e;split at e
 .cases e
  obtain⟨v,rfl,q⟩:=r.one_inv;rw[q.int_inv];exact .inl ⟨_,rfl,k _ G H (.refl s) (.int _)⟩
 .cases e
  obtain⟨v,rfl,q⟩:=r.one_inv;rw[q.bl_inv];exact .inr ⟨_,rfl,k _ G H (.refl s) (.int _)⟩
 .cases e
end
section
variable{X:Cx}{B G0:Hp}{e o a b c tg:Uv}{pos p2 p3 p4:Pos}{es rest:xU}{te to ti:TE}
theorem VS:∀{ns:xR}{us:xS},Vals (ns.map V.int) us->PyProof.Rows.IntsAre us ns
 |[],_,.nil=>.nil
 |n::ns,_,.cons h t=>by obtain⟨tk,rfl⟩:=h;exact .cons n tk (VS t)
noncomputable def XY(ns:xR):Nat:=(PyProof.Rows.firstMet (λi=>ns.getD i 0) ns.length).length
theorem jd(hc:X.calm=xO):ZS X (.type "set") (λxs H Q=>∃l,∃ns:xR,xs=[.ref l]/\SqL X.K H l (ns.map V.int)/\ns.length+1<4096/\∀S p,H p=xN->Q (.ref p) (upd H p (.set S (XY ns)))):=by
 intro pins s σ H xs us Q I rx h;obtain⟨l,ns,rfl,hq,hb,q⟩:=h;obtain⟨u,rfl,ru⟩:=rx.one;cases ru;obtain⟨its,rv,p,hz⟩:=I.list hq;have hi:=VS rv;have hn:its.toArray.size=ns.length:=by have:=rv.length;rw[List.length_map]at this;simp;lia
 refine call_set_list (I.ok.hd hc) p.isList (ns:=ns) (by simpa using hi) (by rw[hn];exact hb) λh' tk hS hk=>?_
 rw[hn]at hS;refine⟨.ref s.heap.objs.size,_,I.laid (t':=tk) (λb o e=>hk b o (Qi e) e) (Qr _) (show Zj X.prog X.w _ h' _ (.set _ (XY ns))from hS),rfl,q _ _ (I.hok.fresh (Qr _))⟩
theorem jc:ZS X (.builtin "len") (λxs H Q=>∃p S n,xs=[.ref p]/\H p=O (.set S n)/\Q (.int n) H):=by
 intro pins s σ H xs us Q I rx h;obtain⟨p,S,n,rfl,hp,q⟩:=h;obtain⟨u,rfl,ru⟩:=rx.one;cases ru;obtain⟨o,es,ep,t,h1,h2,h3,h4,h5,h6,h7,h8⟩:=(show s.heap.SetOf (intKind X.prog X.w) p S n from I.hok p _ hp)
 have hsb:scanBound=4096:=rfl;refine call_len_set h1 h2 h3 h7 (by lia) ?_;rw[h8];exact⟨.int n,H,I.tok _,⟨_,rfl⟩,q⟩
noncomputable def YJ:xQ->Option xR
 |[]=>O []
 |.int i::r=>(YJ r).map (i :: ·)
 |_=>xN
theorem Ph{K:Frag}{G:Hp}:∀{vs:List V}{ds:xQ}{ns:xR},Reps K G vs ds->YJ ds=O ns->vs=ns.map V.int
 |_,_,ns,.nil,e=>by cases e;rfl
 |_,_,ns,.cons (d:=d) r t,e=>by
  cases d with
  |int b=>
   unfold YJ at e;cases z:YJ _ with
   |none=>rw[z]at e;cases e
   |some cs=>rw[z]at e;cases e;rw[r.int_inv,Ph t z];rfl
  |_=>cases e
theorem Pi(ns:xR):YJ (ns.map int)=O ns:=by
 induction ns with
 |nil=>rfl
 |cons b r ih=>rw[Qx,YJ,ih];rfl
noncomputable def Vc:xQ->xT
 |[.list ds]=>(match YJ ds with
  |some ns=>if ns.length+1<4096 then O (.int (XY ns))else xN
  |none=>xN)
 |_=>xN
theorem kB{xs:xQ}{d:D}(h:Vc xs=O d):∃ds ns,xs=[.list ds]/\YJ ds=O ns/\ns.length+1<4096/\d=.int (XY ns):=by
 unfold Vc at h;split at h
 .rename_i ds
  cases z:YJ ds with
  |none=>rw[z]at h;cases h
  |some ns=>
   rw[z]at h;dsimp only at h;split at h
   .rename_i c
    cases h;exact⟨ds,ns,rfl,z,c,rfl⟩
   .cases h
 .cases h
theorem jb:bootBuiltins "set" = O (.type "set"):=by decide +kernel
theorem jG{f:M xQ}(hc:X.calm=xO)(hg:Gl X "len")(hm:X.mg "len" = xN)(wf:Gl X "set")(hm2:X.mg "set" = xN)(ha:PA X [a] (tDs X.K B G0 f))(he:Uy [a] X.env=(xP,eval a X.env)::Uy [] X.env:=by rfl)
  (wa:Uy [.Call (.Name "set" p2) [a] [] p3] X.env=(xP,eval (.Call (.Name "set" p2) [a] [] p3) X.env)::Uy [] X.env:=by rfl) :
  PE X (.Call (.Name "len" p4) [.Call (.Name "set" p2) [a] [] p3] [] pos) (tD X.K B G0 (Zc Vc f)):=
 Kb (T5 jc hg hm boot_len (Zq (Sa (jd hc) wf hm2 jb ha (by decide) (by decide) he xM) Z4 wa) (by decide) (by decide) wa xM) λσ H Q q=>tM.one (R:=Reps X.K) q λvs H2 G ρ x k r a=>by obtain⟨d,e,a⟩:=a.opt;obtain⟨ds,ns,rfl,z,c,rfl⟩:=kB e;obtain⟨v,rfl,q1⟩:=r.one_inv;obtain⟨l,ws,rfl,h1,r1⟩:=q1.lst_inv;have:=Ph r1 z;subst this;refine⟨l,ns,rfl,k.gh.seq h1,c,λS p hp=>⟨p,S,XY ns,rfl,Ks,?_⟩⟩;exact aft.done a k (Ext.hid k.gh hp) (.int _)
end
end DL
namespace L2
open PySem PySem.Spec PyProof.Rows
end L2
namespace DL
open PySem PySem.Spec L2
open PyProof.Rows hiding St
end DL
namespace L2
open PySem PySem.Spec PyProof.Rows
end L2
namespace DL
open PySem PySem.Spec L2
open PyProof.Rows hiding St
section
variable{X:Cx}{B G0:Hp}{e o:Uv}{es:xU}
theorem kz{h:Heap}{vs:xS}{xs:xQ}{as:xW}{d:D}(rs:ReadsAll h vs xs as)(hxs:UG xs=xO) :
  vs.countP (λy=>UI (SeqAt.readOf h y) d)=xs.countP (λy=>UI y d):=by
 have key:xs=vs.map (SeqAt.readOf h):=(SeqAt.readsAll_map xs vs as hxs rs).symm;rw[key,List.countP_map];rfl
noncomputable def SB(y x:D):xT:=match y with
 |.list ds=>if x.canLay0=xO/\UG ds=xO/\x.depth<=60 then O (.int (ds.countP λy=>UI y x))else xN
 |_=>xN
theorem AA(hu:X.A.units+64<cLine):MtR X "list.count" (λv vs H Q=>∃G u y x d,vs=[u]/\Same G H/\Rep X.K G v y/\Rep X.K G u x/\SB y x=O (.int d)/\Q (.int d) H):=by
 intro pins s σ H x xs v us Q I rx rs h;obtain⟨G,u,dy,dx,d,rfl,sg,py,px,e,q⟩:=h;obtain⟨w,rfl,wD⟩:=rs.one;unfold SB at e;split at e
 .rename_i ds
  split at e
  .rename_i c
   obtain⟨bs,rb⟩:=Vf I sg py rx (show UG _=xO from c.2.1);obtain⟨as,ra⟩:=Vf I sg px wD c.1;cases rb with
   |list h1 h2 h3 h4=>rename_i l ob its cs n;obtain⟨cls,dd,data,sl⟩:=ob;simp only at h2 h3;subst h2 h3;refine call_meets F.slot_list_count ⟨_,h1,rfl⟩ F.entry_list_count (F.args_list_count_2 _ _) (SeqAt.list_countAt _ _ _ dd sl _ (λy=>UI (SeqAt.readOf s.heap y) dx)) ⟨h1,SeqAt.items_eqAt h4 ra c.2.1 c.1 (by have:=c.2.2;lia),?_⟩;rw[kz h4 c.2.1];cases e;exact⟨.int _,H,I.tok _,⟨_,rfl⟩,q⟩
  .cases e
 .cases e
noncomputable def PZ(y:D)(xs:xQ):xT:=match xs with
 |[x]=>SB y x
 |_=>xN
theorem ky{ds xs:xQ}{d:D}(h:PZ (.list ds) xs=O d):∃x n,xs=[x]/\d=.int n/\SB (.list ds) x=O (.int n):=by
 unfold PZ at h;split at h
 .rename_i x
  have h':=h;unfold SB at h;dsimp only at h;split at h
  .cases h;exact⟨x,_,rfl,rfl,h'⟩
  .cases h
 .cases h
noncomputable def Me(f:M D)(g:M xQ):M D:=U2 f λy=>U2 g λxs=>U1 (match y with | .list ds=>PZ (.list ds) xs|_=>xN)
theorem ja{apos cpos:Pos}{f:M D}{g:M xQ}(hu:X.A.units+64<cLine)(ho:PE X o (tD X.K B G0 f))(ha:PA X (e::es) (tDs X.K B G0 g))
  (hbase:attributeBase o "count" X.env (eval o X.env)=eval o X.env:=by rfl)
  (hfew:((backTo cpos (Uy (e::es) X.env)).all (λx=>!x.1)&&(backToKw cpos (keywordEach [] X.env)).all (λx=>x.1.isSome)
   && decide ((e::es).length+([]:List Keyword).length+(if([]:List Keyword).isEmpty then 0 else 1)<30))=xO:=by rfl)
  (hline:(apos.endLine==cpos.line)=xO:=by rfl) (hs:Uy (e::es) X.env=(xP,eval e X.env)::Uy es X.env:=by rfl) (hplain:(backTo cpos (Uy es X.env)).any (·.1)=xP:=by rfl) :
  PE X (.Call (.Attribute o "count" apos) (e::es) [] cpos) (tD X.K B G0 (Me f g)):=
 Kb (Wl Q9 F.slot_list_count F.type_list_count (AA hu) ho ha hbase hfew hline hs hplain) λσ H Q q=>by
  refine tM.one (R:=Rep X.K) q λv H2 G ρ y k r a=>?_
  cases y with
  |list ds=>
   obtain⟨l,ws,rfl,h1,r1⟩:=r.lst_inv;refine⟨.inl ⟨rfl,ws,k.gh.seq h1⟩,?_⟩;refine tM.nx (R:=Reps X.K) k a λxs H3 G3 ρ3 es k3 s3 r3 a3=>?_
   obtain⟨d,e,a3⟩:=a3.opt;obtain⟨x,n,rfl,rfl,e'⟩:=ky e;obtain⟨u,rfl,ru⟩:=r3.one_inv;exact⟨G3,u,.list ds,x,n,rfl,k3.gh,r.mono s3,ru,e',aft.now a3 k3 (.int _)⟩
  |_=>
   unfold U2 at a;cases z:g ρ with
   |bad=>rw[z]at a;exact a.elim
   |ok xs ρ1=>rw[z]at a;exact a.elim
end
section
variable{prog:Us}{w:World}{A:Around}{R:Result->Ur->Prop}{h0:Heap}{l I S:Ut}{rs:List (Ut×xS)}
def Xg(h h':Heap):Prop:=∀b o,h.get? b=O o->h'.get? b=O o
def Ls1(h:Heap)(a:Ut)(its:xS)(sl:Array xV):Prop:=∃n,h.get? a=O {cls:=.type "list", dict:=xN,data:=.seq its.toArray n,slots:=sl}
def Ls(h:Heap)(a:Ut)(its:xS):Prop:=∃n sl,h.get? a=O {cls:=.type "list", dict:=xN,data:=.seq its.toArray n,slots:=sl}
theorem Ls.kept{h h':Heap}{a:Ut}{its:xS}(x:Ls h a its)(k:Xg h h'):Ls h' a its:=by obtain⟨n,sl,e⟩:=x;exact⟨n,sl,k _ _ e⟩
theorem jF(hh:A.in1.handled=xN)(hI:h0.objs.size<=I)(hS:h0.objs.size<=S)(hIS:S≠I)(hl:h0.IsList l (rs.map λp=>Value.ref p.1).toArray)(hr:∀p∈rs,Ls h0 p.1 p.2) :
  ∀(k i:Nat)(s:Ur)(t:Ut)(acc:xS)(c:Nat)(sl:Array xV),rs.length-i=k->i<=rs.length->Xg h0 s.heap->s.heap.IsListIter I l i ->
   s.heap.get? S=O {cls:=.type "list", dict:=xN,data:=.seq #[.ref t] c,slots:=#[]}->t≠S->t≠I->Ls1 s.heap t acc sl->acc.length+((rs.drop i).map (·.2)).flatten.length<=Uw ->
   (∀p h' tk vG,Xg h0 h'->Ls1 h' p (acc++((rs.drop i).map (·.2)).flatten) vG->(p=t/\i=rs.length/\vG=sl∨h0.objs.size<=p/\vG=#[])->R (.ok (.ret (.ref p))) {s with heap:=h',toks:=tk}) ->
   codeAny (model prog w) A (.builtin "sum.loop" ⟨[.ref I,.ref S,rawInt 2,rawInt 0],[]⟩) R s:=by
 intro k;induction k with
 |zero=>
  intro i s t acc c sl hk hi hK hit hSS htS htI ht hz hR;have hin:i=rs.length:=by lia
  subst hin;refine codeAny_builtin F.entry_sum_loop ?_;rw[Around.under_plainId F.plain_sum_loop _];show Ux _ A.in1 (seqItems? (.ref S) >>= _) _ _ s;refine Qd (wpAny_seqItems hSS xM ?_);show Ux _ A.in1 (tryCatch (pyNext (.ref I)) _ >>= _) _ _ s;have hl':s.heap.IsList l (rs.map λp=>Value.ref p.1).toArray:=by obtain⟨o,e,r⟩:=hl;exact⟨o,hK _ _ e,r⟩
  refine wpAny_bind (wpAny_tryCatch (wpAny_pyNext_list_end hh hit hl' (by simp) λh' ex=>?_));refine Qm (hR t h' s.toks sl (λb o e=>?_) ?_ (.inl ⟨rfl,rfl,rfl⟩))
  .exact ex b o (QS (Qy (Qi e) hI)) (hK b o e)
  .obtain⟨n,e⟩:=ht
   rw[List.drop_length,JA,List.flatten_nil,QH];exact⟨n,ex _ _ htI e⟩
 |succ k ih=>
  intro i s t acc c sl hk hi hK hit hSS htS htI ht hz hR;have hlt:i<rs.length:=by lia
  refine codeAny_builtin F.entry_sum_loop ?_;rw[Around.under_plainId F.plain_sum_loop _];show Ux _ A.in1 (seqItems? (.ref S) >>= _) _ _ s;refine Qd (wpAny_seqItems hSS xM ?_);show Ux _ A.in1 (tryCatch (pyNext (.ref I)) _ >>= _) _ _ s;have hl':s.heap.IsList l (rs.map λp=>Value.ref p.1).toArray:=by obtain⟨o,e,r⟩:=hl;exact⟨o,hK _ _ e,r⟩
  refine wpAny_bind (wpAny_tryCatch (wpAny_pyNext_list_item (x:=.ref (rs[i]'hlt).1) hit hl' (by simp[hlt]) λh' yf sb=>?_));show Ux _ A.in1 ((holding [Value.ref (rs[i]'hlt).1] (binaryOp .Add (.ref t) (.ref (rs[i]'hlt).1))).attempt >>= _) _ _ _;refine Qd (wpAny_attempt (wpAny_holding ?_));have hm:rs[i]'hlt∈rs:=Jx hlt;have hd:rs.drop i=rs[i]'hlt::rs.drop (i+1):=JE hlt;have hK':Xg h0 h':=λb o e=>(sb.2 b (QS (Qy (Qi e) hI))).trans (hK b o e)
  obtain⟨n1,e1⟩:=ht;have e1':=(sb.2 t htI).trans e1;obtain⟨n2,s2,e2⟩:=(hr _ hm).kept hK';have yk:=(sb.2 S hIS).trans hSS;rw[hd,Qx,QG,Qk]at hz;refine concat_meets ⟨_,e1',rfl⟩ ⟨_,e2,rfl⟩ noFill_list_add seq_list_add PySem.F.slot_list_add PySem.F.entry_list_add (PySem.F.args_list_add_2 _ _) (list_addW t _ acc.toArray _ n1 n2 xN xN sl s2 (by rw[QQ,QQ];lia)) ⟨e1',e2,?_⟩;have hlS:S<h'.objs.size:=Qi yk;have hlI:I<h'.objs.size:=by obtain⟨o,e,_⟩:=yf;exact Qi e
  have ea:acc.toArray++(rs[i]'hlt).2.toArray=(acc++(rs[i]'hlt).2).toArray:=by simp
  rw[ea];have hP:∀b o,h'.get? b=O o->(h'.push {cls:=Value.type "list", data:=Data.seq (acc++(rs[i]'hlt).2).toArray}).get? b=O o:=λb o e=>Qg _ e
  have hS1:=hP _ _ yk;have hNew:(h'.push {cls:=Value.type "list", data:=Data.seq (acc++(rs[i]'hlt).2).toArray}).get? h'.objs.size=O {cls:=Value.type "list", data:=Data.seq (acc++(rs[i]'hlt).2).toArray}:=QD _ xM;show Ux _ A.in1 (updateSeq S (λ_=>#[.ref h'.objs.size]) >>= _) _ _ _;refine Qd (wpAny_updateSeq hS1 xM ?_);have hS2:=Jf (Obj.mapSeq λ_=>#[Value.ref h'.objs.size]) hS1 xM;refine Qd (wpAny_letGo ?_);refine Qd (wpAny_updateSeq hS2 xM (Qm ⟨plainId_quiet F.plain_sum_loop _,?_⟩));have oth:∀b o,b≠S->(h'.push {cls:=Value.type "list", data:=Data.seq (acc++(rs[i]'hlt).2).toArray}).get? b=O o->(((h'.push {cls:=Value.type "list", data:=Data.seq (acc++(rs[i]'hlt).2).toArray}).update S (Obj.mapSeq λx=>#[Value.ref h'.objs.size])).update S (Obj.mapSeq λx=>#[Value.ref h'.objs.size])).get? b=O o:=λb o hb e=>(QX _ _ (Ne.symm hb)).trans ((QX _ _ (Ne.symm hb)).trans e)
  refine ih (i+1) _ h'.objs.size (acc++(rs[i]'hlt).2) _ #[] (by lia) hlt ?_ ?_ (Jf _ hS2 xM) (Jq hlS) (Jq hlI) ?_ (by rw[Qk];lia) λp h'' tk vG hk'' hp hq=>?_
  .exact λb o e=>oth b o (QS (Qy (Qi e) hS)) (hP b o (hK' b o e))
  .obtain⟨o,e,r⟩:=yf
   exact⟨o,oth I o (Ne.symm hIS) (hP I o e),r⟩
  .exact⟨_,oth _ _ (Jq hlS) hNew⟩
  .refine hR p h'' tk vG hk'' ?_ (.inr ?_)
   .rw[hd,Qx,QG,←Ja];exact hp
   .rcases hq with ⟨rfl, -,e⟩|hq
    .exact⟨Ug (Nat.lt_of_le_of_lt hS hlS),e⟩
    .exact hq
end
section
variable{prog:Us}{w:World}{A:Around}{E:Uq->Ur->Prop}{s:Ur}{l z:Ut}{rs:List (Ut×xS)}
theorem q9(a b:Uq):argsOk "sum" ⟨[a,b],[]⟩:=by unfold argsOk;kernel_rfl
theorem jE{Q:Uq->Ur->Prop}(hh:A.handled=xN)(hl:s.heap.IsList l (rs.map λp=>Value.ref p.1).toArray)(hr:∀p∈rs,Ls s.heap p.1 p.2)(hz:Ls s.heap z [])(hb:(rs.map (·.2)).flatten.length<=Uw)
  (h:∀p h' tk vG,Xg s.heap h'->Ls1 h' p (rs.map (·.2)).flatten vG->(p=z/\rs=[]∨s.heap.objs.size<=p/\vG=#[])->Q (.ref p) {s with heap:=h',toks:=tk}) :
  Ux (model prog w) A (call (.builtin "sum") [.ref l,.ref z]) Q E s:=by
 refine call_function_tree F.kind_sum F.plain_sum F.entry_sum (q9 _ _) ?_;unfold Builtin.«sum»;simp only[Qs,QT];rw[Qw (by decide)];refine Qd (wpAny_of_eq (show Builtin.Builtins.bindParams "sum" ["start"] 0 ⟨[.ref z],[]⟩=pure [O (.ref z)]from rfl) ?_);refine Qd (wpAny_pyIter_list hl ?_);refine Qd (Qm ?_);obtain⟨n,sl,ez⟩:=id hz;have ty:∀h:Heap,h.get? z=O {cls:=.type "list", dict:=xN,data:=.seq [].toArray n,slots:=sl}->({s with heap:=h}:Ur).TypeIs (.ref z) "list" :=λh e=>⟨_,e,rfl⟩
 have ez':(s.heap.push {cls:=.type "list_iterator", data:=.fields #[.ref l,.int 0 0]}).get? z=_:=Qg _ ez;simp only[List.forIn_cons,List.forIn_nil];refine Qd (Qd (Qd (wpAny_isInstance (T:= "list") (b:=xP) (ty _ ez') F.sub_list_str ?_)));simp only[JF,Uo];refine Qm (Qd (Qd (wpAny_isInstance (T:= "list") (b:=xP) (ty _ ez') F.sub_list_bytes ?_)));simp only[JF,Uo];refine Qm (Qd (Qd (wpAny_isInstance (T:= "list") (b:=xP) (ty _ ez') F.sub_list_bytearray ?_)));simp only[JF,Uo];refine Qm (Qm ?_);refine Qd (JM ?_);have hzs:=Qi ez;have s1:(s.heap.push {cls:=.type "list_iterator", data:=.fields #[.ref l,.int 0 0]}).objs.size=s.heap.objs.size+1:=Jo ..;have k2:Xg s.heap ((s.heap.push {cls:=.type "list_iterator", data:=.fields #[.ref l,.int 0 0]}).push {cls:=.type "list", data:=.seq #[.ref z]}):=λb o e=>Qg _ (Qg _ e)
 refine Qm ⟨plainId_quiet F.plain_sum_loop _,jF (h0:=s.heap) (l:=l) (I:=s.heap.objs.size) (S:=(s.heap.push {cls:=.type "list_iterator", data:=.fields #[.ref l,.int 0 0]}).objs.size) (rs:=rs) hh (Qr _) (by rw[s1];exact Jp _) (by rw[s1];exact Nat.succ_ne_self _) hl hr rs.length 0 _ z [] 0 sl xM (JL _)
  k2 ⟨_,Heap.get?_push_of_some _ (Heap.get?_push_size _ xM),rfl,rfl⟩ (Heap.get?_push_size _ xM) (by rw[s1];exact Nat.ne_of_lt (Nat.lt_succ_of_lt hzs)) (Nat.ne_of_lt hzs) ⟨n,k2 _ _ ez⟩ (by simpa using hb) λp h' tk vG hk hp hq=>?_⟩
 exact h p h' tk vG hk (by simpa using hp) (hq.imp (λe=>⟨e.1,List.eq_nil_of_length_eq_zero e.2.1.symm⟩) id)
end
section
variable{X:Cx}{pins:List (Ut×Obj)}{σ:St}{H:Hp}{s:Ur}
theorem M4(I:Inv X pins σ H s):∀{rs:List (Ut×List V)},(∀p∈rs,SqL X.K H p.1 p.2) ->
  ∃ts:List (Ut×xS),(ts.map λp=>Value.ref p.1)=(rs.map λp=>Value.ref p.1)/\(∀p∈ts,Ls s.heap p.1 p.2)/\Vals (rs.map (·.2)).flatten (ts.map (·.2)).flatten
 |[],_=>⟨[],rfl,(λ_ h=>by cases h),(show Vals [] []from Paired.nil)⟩
 |p::rs,h=>by
  obtain⟨ts,e,hl,hv⟩:=M4 I λq hq=>h q (Qh _ hq)
  obtain⟨its,rv,⟨⟨c1,d1,t1,sl⟩,n,e1,ec,ed,et⟩,z⟩:=I.list (h p (Qf ..));simp only at ec ed et;subst ec ed et;refine⟨(p.1,its)::ts,by rw[Qx,Qx,e],λq hq=>?_,?_⟩
  .rcases QC.1 hq with rfl|hq
   .exact⟨n,sl,e1⟩
   .exact hl q hq
  .rw[Qx,Qx,QG,QG]
   exact rv.append hv
theorem LS:∀{as:xW}{us:xS},Vals (as.map V.ref) us->us=as.map Value.ref
 |[],_,.nil=>rfl
 |a::as,_,.cons h t=>by cases h;rw[LS t];rfl
theorem q8(hc:X.calm=xO):ZS X (.builtin "sum") (λxs H Q=>∃l z,∃rs:List (Ut×List V),xs=[.ref l,.ref z]/\SqL X.K H l (rs.map λp=>V.ref p.1)/\(∀p∈rs,SqL X.K H p.1 p.2)/\SqL X.K H z []/\(rs.map (·.2)).flatten.length<=Uw /\
  (rs=[]->Q (.ref z) H)/\∀p,H p=xN->Q (.ref p) (upd H p (.lst (rs.map (·.2)).flatten))):=by
 intro pins s σ H xs us Q I rx h;obtain⟨l,z,rs,rfl,hq,hr,hz,hb,q0,q⟩:=h;obtain⟨u,u',rfl,ru,ru'⟩:=Rc rx;cases ru;cases ru';obtain⟨its,rv,pl, -⟩:=I.list hq;obtain⟨ts,e,hl,hv⟩:=M4 I hr;have ei:its=ts.map λp=>Value.ref p.1:=by rw[e];have:=LS (as:=rs.map (·.1)) (us:=its) (by rw[Jc];exact rv);rw[this,Jc];rfl
 subst ei;obtain⟨zi,rz,⟨⟨c1,d1,t1,sl⟩,n,e1,ec,ed,et⟩, -⟩:=I.list hz;cases rz;simp only at ec ed et;subst ec ed et;have hlen:=hv.length;refine jE (I.ok.hd hc) pl.isList hl ⟨n,sl,e1⟩ (by lia) λp h' tk vG hk hp hq=>?_
 rcases hq with ⟨rfl,rfl⟩|⟨w4,rfl⟩
 .have hr0:rs=[]:=by
   cases rs with
   |nil=>rfl
   |cons a b=>cases e
  exact⟨.ref _,H,I.kept hk,rfl,q0 hr0⟩
 .obtain⟨m,ep⟩:=hp
  exact⟨.ref p,_,I.laid (t':=tk) hk w4 (show Zj X.prog X.w _ h' _ (.lst _)from⟨hb,_,m,hv,ep⟩),rfl,q p (I.hok.fresh w4)⟩
noncomputable def Wo:xQ->Option (List xQ)
 |[]=>O []
 |.list xs::r=>(Wo r).map (xs :: ·)
 |_=>xN
theorem HV{K:Frag}{G:Hp}:∀{vs:List V}{ds:xQ}{ls:List xQ},Reps K G vs ds->Wo ds=O ls ->
  ∃rs:List (Ut×List V),vs=(rs.map λp=>V.ref p.1)/\(∀p∈rs,SqL K G p.1 p.2)/\Reps K G (rs.map (·.2)).flatten ls.flatten/\rs.length=ls.length
 |_,_,ls,.nil,e=>by cases e;exact⟨[],rfl,(λ_ h=>by cases h),.nil,rfl⟩
 |_,_,ls,.cons (d:=d) r t,e=>by
  cases d with
  |list xs=>
   unfold Wo at e;cases z:Wo _ with
   |none=>rw[z]at e;cases e
   |some cs=>
    rw[z]at e;cases e;obtain⟨rs,rfl,h1,h2,h3⟩:=HV t z;obtain⟨a,ws,rfl,h,rr⟩:=r.lst_inv;refine⟨(a,ws)::rs,rfl,λp hp=>?_,?_,JX (· + 1) h3⟩
    .rcases QC.1 hp with rfl|hp
     .exact h
     .exact h1 p hp
    .rw[Qx,QG,QG]
     exact rr.append h2
  |_=>cases e
theorem jD(ls:List xQ):Wo (ls.map UC)=O ls:=by
 induction ls with
 |nil=>rfl
 |cons b r ih=>rw[Qx,Wo,ih];rfl
noncomputable def TC:xQ->xT
 |[.list ds,.list []]=>(match Wo ds with
  |some ls=>if ls.flatten.length<=1000000 then O (.list ls.flatten)else xN
  |none=>xN)
 |_=>xN
theorem qZ{xs:xQ}{d:D}(h:TC xs=O d):∃ds ls,xs=[.list ds,.list []]/\Wo ds=O ls/\ls.flatten.length<=1000000/\d=.list ls.flatten:=by
 unfold TC at h;split at h
 .rename_i ds
  cases z:Wo ds with
  |none=>rw[z]at h;cases h
  |some ls=>
   rw[z]at h;dsimp only at h;split at h
   .rename_i c
    cases h;exact⟨ds,ls,rfl,z,c,rfl⟩
   .cases h
 .cases h
theorem ES(hc:X.calm=xO):Yk X (.builtin "sum") TC:=by
 refine⟨_,q8 hc,λvs G H ds d Q s r e k=>?_⟩;obtain⟨ds,ls,rfl,z,c,rfl⟩:=qZ e;obtain⟨v,v',rfl,q1,q2⟩:=r.two_inv;obtain⟨l,ws,rfl,h1,r1⟩:=q1.lst_inv;obtain⟨a,ws2,rfl,h2,r2⟩:=q2.lst_inv;have:=r2.nil_inv;subst this;obtain⟨rs,rfl,g1,g2,g3⟩:=HV r1 z;refine⟨l,a,rs,rfl,s.seq h1,λp hp=>s.seq (g1 p hp),s.seq h2,?_,λe0=>?_,λp hp=>?_⟩
 .rw[g2.length];exact Qt c lim
 .subst e0
  have:ls=[]:=List.eq_nil_of_length_eq_zero g3.symm;subst this;exact k _ G H (.refl s) (.lst h2 .nil)
 .exact k _ _ _ (.new s hp) (.lst (SqL.of Ks) (g2.mono (Zd (s.free hp))))
end
section
variable{X:Cx}
noncomputable def YU(ns:xR):xR:=ns.mergeSort λa b=>decide (a<=b)
theorem SO(ns:xR):(YU ns).Perm ns:=List.mergeSort_perm ..
theorem qY(ns:xR):(YU ns).Pairwise (· <= ·):=by have:=List.pairwise_mergeSort (le:=λa b:Int=>decide (a<=b)) (by intro a b c;simp;lia) (by intro a b;simp;lia) ns;exact this.imp (by simp)
theorem M0:∀{a b:xR},a.Perm b->a.Pairwise (· <= ·)->b.Pairwise (· <= ·)->a=b
 |[],b,p,_,_=>by rw[List.nil_perm.1 p]
 |x::a,[],p,_,_=>by have:=p.length_eq;simp at this
 |x::a,y::b,p,ha,hb=>by
  have hx:y<=x:=by
   rcases QC.1 (p.mem_iff.1 (Qf ..))with e|e
   .exact Int.le_of_eq e.symm
   .exact(Ju.1 hb).1 x e
  have hy:x<=y:=by
   rcases QC.1 (p.mem_iff.2 (Qf ..))with e|e
   .exact Int.le_of_eq e.symm
   .exact(Ju.1 ha).1 y e
  have e:=Int.le_antisymm hy hx;subst e;rw[M0 (List.Perm.cons_inv p) (Ju.1 ha).2 (Ju.1 hb).2]
theorem Hn:∀{us:xS}{ns:xR},PyProof.Rows.IntsAre us ns->Vals (ns.map V.int) us
 |_,_,.nil=>Paired.nil
 |_,_,.cons n t h=>Paired.cons ⟨t,rfl⟩ (Hn h)
theorem jC:ZS X (.builtin "sorted") (λxs H Q=>∃l,∃ns:xR,xs=[.ref l]/\SqL X.K H l (ns.map V.int)/\ns.length<64/\∀p,H p=xN->Q (.ref p) (upd H p (.lst ((YU ns).map V.int)))):=by
 intro pins s σ H xs us Q I rx h;obtain⟨l,ns,rfl,hq,hb,q⟩:=h;obtain⟨u,rfl,ru⟩:=rx.one;cases ru;obtain⟨its,rv,p,hz⟩:=I.list hq;have hi:=VS rv;have hn:its.length=ns.length:=by have:=rv.length;rw[Qb]at this;lia
 refine sorted_ints p.isList hi (by lia) λout ns' a1 a2 a3=>?_
 obtain⟨e,he⟩:=sortedAll_at s.heap its out;have en:ns'=YU ns:=M0 (a2.trans (SO ns).symm) a3 (qY ns);subst en;refine⟨.ref (s.heap.objs.size+1),_,I.laid (t':=s.toks) (λb o=>sortedAll_old) (Jp _) (show Zj X.prog X.w _ _ _ (.lst ((YU ns).map V.int))from⟨?_,out.toList,e,Hn a1,he⟩),rfl,q _ (I.hok.fresh (Jp _))⟩;rw[Qb,(SO ns).length_eq];rw[Qb]at hz;exact hz
noncomputable def TL:xQ->xT
 |[.list ds]=>(match YJ ds with
  |some ns=>if ns.length<64 then O (.list ((YU ns).map .int))else xN
  |none=>xN)
 |_=>xN
theorem jB{xs:xQ}{d:D}(h:TL xs=O d):∃ds ns,xs=[.list ds]/\YJ ds=O ns/\ns.length<64/\d=.list ((YU ns).map .int):=by
 unfold TL at h;split at h
 .rename_i ds
  cases z:YJ ds with
  |none=>rw[z]at h;cases h
  |some ns=>
   rw[z]at h;dsimp only at h;split at h
   .rename_i c
    cases h;exact⟨ds,ns,rfl,z,c,rfl⟩
   .cases h
 .cases h
theorem Hm{K:Frag}{G:Hp}:∀ns:xR,Reps K G (ns.map V.int) (ns.map int)
 |[]=>.nil
 |n::r=>.cons (.int n) (Hm r)
theorem D8:Yk X (.builtin "sorted") TL:=by refine⟨_,jC,λvs G H ds d Q s r e k=>?_⟩;obtain⟨ds,ns,rfl,z,c,rfl⟩:=jB e;obtain⟨v,rfl,q1⟩:=r.one_inv;obtain⟨l,ws,rfl,h1,r1⟩:=q1.lst_inv;have:=Ph r1 z;subst this;exact⟨l,ns,rfl,s.seq h1,c,λp hp=>k _ _ _ (.new s hp) (.lst (SqL.of Ks) (Hm _))⟩
theorem qX{ns:xR}(h:ns.length<64):TL [.list (ns.map .int)]=O (.list ((YU ns).map .int)):=by unfold TL;simp only[Pi,Qq h]
end
@[simp] theorem mBind_ok{α β:Type}{f:M α}{k:α->M β}{ρ ρ':UQ}{x:α}(h:f ρ=.ok x ρ'):U2 f k ρ=k x ρ':=by unfold U2;rw[h]
theorem Hl{s:D->UQ->xX}{g:SM}{P:Nat->UQ->Prop}{R:Out->Prop}:∀(ds:xQ)(n:Nat)(ρ:UQ),P n ρ ->
  (∀i d ρ,ds[i]?=O d->P (n+i) ρ->∃ρ1,s d ρ=O ρ1/\((∃ρ2,(g ρ1=.nx ρ2∨g ρ1=.ct ρ2)/\P (n+i+1) ρ2)∨(∃x,g ρ1=.rt x/\R (.rt x))∨(∃ρ2,g ρ1=.bk ρ2/\R (.nx ρ2))∨(∃ρ2 x,g ρ1=.ex ρ2 x/\R (.ex ρ2 x)) ∨ ∃x,g ρ1=.ro x/\R (.ro x)))->(∀ρ,P (n+ds.length) ρ->R (.nx ρ))->R (XV s g ds ρ)
 |[],n,ρ,h,_,f=>f ρ h
 |d::r,n,ρ,h,st,f=>by
  obtain⟨ρ1,e1,e2⟩:=st 0 d ρ xM h;rw[XV,e1];dsimp only;rcases e2 with ⟨ρ2,e2,h2⟩|⟨x,e2,h2⟩|⟨ρ2,e2,h2⟩|⟨ρ2,x,e2,h2⟩|⟨x,e2,h2⟩
  .have goal:=Hl (R:=R) r (n+1) ρ2 h2 (λi d' ρ3 q p=>by
    have e:n+1+i=n+(i+1):=by lia
    rw[e]at p⊢;exact st (i+1) d' ρ3 (by simpa using q) p) (λρ3 p=>f ρ3 (by
    have e:n+1+r.length=n+(d::r).length:=by rw[Qs];lia
    rw[e]at p;exact p))
   rcases e2 with e2|e2<;>(rw[e2];exact goal)
  .rw[e2];exact h2
  .rw[e2];exact h2
  .rw[e2];exact h2
  .rw[e2];exact h2
theorem T7{lo hi:Int}{i:Nat}{d:D}(h:(Zr lo hi)[i]?=O d):d=.int (lo+i)/\(i:Int)<hi-lo:=by have hl:i<(Zr lo hi).length:=(Ql.mp h).1;rw[VY]at hl;unfold Zr at h;rw[Qp,Qe (by rw[Q5];exact hl),JG]at h;cases h;exact⟨rfl,by lia⟩
theorem Md{α:Type}{xs:List α}{i:Int}{v:α}(h0:0<=i)(h:xs[i.toNat]?=O v):atI xs i=O v:=by have:=ZQ (xs:=xs) (j:=i.toNat) h;rw[Int.toNat_of_nonneg h0]at this;exact this
section
variable{α β:Type}{ρ ρ1 ρ2 ρ3 ρ':UQ}{f g h:M D}
theorem U0{a:α}:UU a ρ=.ok a ρ:=rfl
theorem UZ:UR ρ=.ok [] ρ:=rfl
theorem ZG{o:Option α}{a:α}(h:o=O a):U1 o ρ=.ok a ρ:=by subst h;rfl
theorem KM{f:M α}{k:α->M β}{x:α}{r:Res β}(h:f ρ=.ok x ρ1)(h2:k x ρ1=r):U2 f k ρ=r:=by unfold U2;rw[h];exact h2
theorem K5{f:M α}{k:α->β}{x:α}(h:f ρ=.ok x ρ1):U3 k f ρ=.ok (k x) ρ1:=by unfold U3 U2;rw[h];rfl
theorem UX{i:Nat}{d:D}(h:ρ[i]?=O (O (.pub d))):UP i ρ=.ok d ρ:=by unfold UP;rw[h]
theorem Z8{i:Nat}{ds:xQ}(h:ρ[i]?=O (O (.own ds)))(h2:ρ.set i (O (.pub (.list ds)))=ρ'):UP i ρ=.ok (.list ds) ρ':=by unfold UP;rw[h];subst h2;rfl
theorem Ka{op:D->D->Option β}{x y:D}{r:β}(h1:f ρ=.ok x ρ1)(h2:g ρ1=.ok y ρ2)(h3:op x y=O r):UY op f g ρ=.ok r ρ2:=by unfold UY;exact KM h1 (KM h2 (ZG h3))
theorem UW{g:M xQ}{x:D}{xs:xQ}(h1:f ρ=.ok x ρ1)(h2:g ρ1=.ok xs ρ2):UT f g ρ=.ok (x::xs) ρ2:=by unfold UT;exact KM h1 (KM h2 xM)
theorem Zs{g:M xQ}{xs:xQ}(h1:g ρ=.ok xs ρ1)(h2:xs.length<=1000000):Kp g ρ=.ok (.tuple xs) ρ1:=by unfold Kp;exact KM h1 (by rw[Qq h2];rfl)
theorem KJ{g:M xQ}{xs:xQ}(h1:g ρ=.ok xs ρ1)(h2:xs.length<=1000000):U7 g ρ=.ok (.list xs) ρ1:=by unfold U7;exact KM h1 (by rw[Qq h2];rfl)
theorem Xp{g:M xQ}{xs:xQ}(h1:g ρ=.ok xs ρ1)(h2:xs.length<=1000000):(U2 g λxs=>if xs.length<=1000000 then UU xs else λ_=>.bad) ρ=.ok xs ρ1:=
 KM h1 (by rw[Qq h2];rfl)
theorem K2{i:Nat}{d y r:D}(h:ρ[i]?=O (O (.pub d)))(h1:g ρ=.ok y ρ1)(h2:oIx d y=O r):U5 i g ρ=.ok r ρ1:=by unfold U5;rw[h];exact KM h1 (ZG h2)
theorem ER{i:Nat}{ds es:xQ}{y r:D}(h:ρ[i]?=O (O (.own ds)))(h1:g ρ=.ok y ρ1)(h3:ρ1[i]?=O (O (.own es)))(h2:oIx (.list es) y=O r):U5 i g ρ=.ok r ρ1:=by unfold U5;rw[h];exact KM h1 (by rw[h3];exact ZG h2)
theorem ZU{p:xQ->xT}{g:M xQ}{xs:xQ}{r:D}(h1:g ρ=.ok xs ρ1)(h2:p xs=O r):Zc p g ρ=.ok r ρ1:=by unfold Zc;exact KM h1 (ZG h2)
theorem Ky{n:Nat}{F:xQ->xT}{g:M xQ}{xs:xQ}{r:D}(h1:g ρ=.ok xs ρ1)(h2:xs.length=n)(h3:F xs=O r):U4 n F g ρ=.ok r ρ1:=by unfold U4;exact KM h1 (by rw[Qq h2];exact ZG h3)
theorem Ru{i:Int}(h1:f ρ=.ok (.int i) ρ1):YN f ρ=.ok (.int (-i)) ρ1:=by unfold YN;exact KM h1 xM
theorem Zp{i:Nat}{d r:D}(h:ρ[i]?=O (O (.pub d)))(h2:KB [d]=O r):K6 i ρ=.ok r ρ:=by unfold K6;rw[h];exact ZG h2
theorem MZ{i:Nat}{ds:xQ}(h:ρ[i]?=O (O (.own ds))):K6 i ρ=.ok (.int ds.length) ρ:=by unfold K6;rw[h]
theorem VQ{g:M xQ}{i:Int}{r:xQ}(h1:g ρ=.ok [.int i] ρ1)(h2:Wk [.int i]=O r):Xr g ρ=.ok r ρ1:=by unfold Xr;exact KM h1 (ZG h2)
theorem D7{g:M xQ}{i j:Int}{r:xQ}(h1:g ρ=.ok [.int i,.int j] ρ1)(h2:W0 [.int i,.int j]=O r):Rf g ρ=.ok r ρ1:=by unfold Rf;exact KM h1 (ZG h2)
theorem Vb{g:M xQ}{xs r:xQ}(h1:g ρ=.ok xs ρ1)(h2:Si xs=O r):YV g ρ=.ok r ρ1:=by unfold YV;exact KM h1 (ZG h2)
theorem X3{i:Int}(h1:f ρ=.ok (.int i) ρ1):(U2 f λx=>U1 (Z7 x)) ρ=.ok (O i) ρ1:=KM h1 xM
theorem YI{f:M Bool}{t:Bool}(h1:f ρ=.ok t ρ1):Kv f ρ=.ok (!t) ρ1:=K5 h1
theorem Xn{t:Bool}(h1:f ρ=.ok (.bool t) ρ1):ZC f ρ=.ok t ρ1:=by unfold ZC;exact KM h1 xM
theorem N7{f g:M Bool}{t u:Bool}(h1:f ρ=.ok t ρ)(h2:t=xO->g ρ=.ok u ρ):ZJ f g ρ=.ok (t&&u) ρ:=by
 unfold ZJ;refine KM h1 ?_;cases t with
 |true=>rw[Qq xM];exact h2 xM
 |false=>rfl
theorem TN{t u:Bool}(h1:f ρ=.ok (.bool t) ρ)(h2:t=xO->g ρ=.ok (.bool u) ρ):Vo f g ρ=.ok (.bool (t&&u)) ρ:=by
 unfold Vo;refine KM h1 ?_;cases t with
 |true=>exact h2 xM
 |false=>rfl
theorem D6{t:Bool}(h1:f ρ=.ok (.bool t) ρ1):Rh f ρ=.ok (.bool (!t)) ρ1:=by unfold Rh;exact KM h1 xM
theorem N6{f:M Bool}{g h:M α}{r:Res α}(h1:f ρ=.ok xO ρ1)(h2:g ρ1=r):mIf f g h ρ=r:=by unfold mIf;exact KM h1 (by rw[Qq xM];exact h2)
theorem N5{f:M Bool}{g h:M α}{r:Res α}(h1:f ρ=.ok xP ρ1)(h2:h ρ1=r):mIf f g h ρ=r:=by unfold mIf;exact KM h1 (by rw[Qw (by decide)];exact h2)
theorem VJ{p q:D->D->vb}{x y z:D}{t u:Bool}(h1:f ρ=.ok x ρ)(h2:g ρ=.ok y ρ)(h3:p x y=O t)(h4:t=xO->h ρ=.ok z ρ)(h5:t=xO->q y z=O u):Xl p q f g h ρ=.ok (t&&u) ρ:=by
 unfold Xl;refine KM h1 (KM h2 (KM (ZG h3) ?_));cases t with
 |true=>rw[Qq xM];exact KM (h4 xM) (ZG (h5 xM))
 |false=>rfl
theorem Yt{i j:Int}:U9 (.int i) (.int j)=O (.int (i+j)):=rfl
theorem Yn{x y:xQ}(h:x.length+y.length<=1000000):U9 (.list x) (.list y)=O (.list (x++y)):=by unfold U9;exact Qq h
theorem PY{i j:Int}:XB (.int i) (.int j)=O (.int (i-j)):=rfl
theorem R6{i j:Int}(h1 : -18446744073709551616<i)(h2:i<18446744073709551616):Ko (.int i) (.int j)=O (.int (i*j)):=by unfold Ko XG;exact Qq (.inl ⟨by lia,by lia⟩)
theorem R5{i j:Int}(h1 : -18446744073709551616<j)(h2:j<18446744073709551616):Ko (.int i) (.int j)=O (.int (i*j)):=by unfold Ko XG;exact Qq (.inr ⟨by lia,by lia⟩)
theorem OX{x:xQ}{k:Int}(h : -1000000<=k/\k<=1000000/\x.length*k.toNat<=1000000):Ko (.list x) (.int k)=O (.list (UB k.toNat x).flatten):=by unfold Ko;exact Qq h
theorem VP{i j:Int}(h:0<j):ZW (.int i) (.int j)=O (.int (i % j)):=by unfold ZW WH;exact Qq h
theorem Az{i j:Int}(h:0<j)(h2:j<2 ^ 200):Xb (.int i) (.int j)=O (.int (i / j)):=by unfold Xb WI;exact Qq ⟨h,h2⟩
theorem MY{i j:Int}(h:0<j)(h2:j<18446744073709551616):Xb (.int i) (.int j)=O (.int (i / j)):=Az h (Int.lt_trans h2 (by decide))
theorem D5{i j:Int}(h:0<=j/\j<=1000000/\i.natAbs<2 ^ 64):XE (.int i) (.int j)=O (.int (i ^ j.toNat)):=by unfold XE WG;exact Qq h
theorem Y0{i j:Int}:oEq (.int i) (.int j)=O (decide (i=j)):=by unfold oEq;rw[if_pos ⟨rfl,rfl,by simp[UH]⟩];congr 1
theorem ZE{xs:xQ}:KB [.list xs]=O (.int xs.length):=rfl
theorem AY{xs:xQ}:KB [.tuple xs]=O (.int xs.length):=rfl
theorem MX{i j:Int}:Sj [.int i,.int j]=O (.int (if j > i then j else i)):=rfl
theorem D4{i j:Int}:Rg [.int i,.int j]=O (.int (if j<i then j else i)):=rfl
theorem Vd{j:Int}(h1:j<=1000000)(h2 : -1000000<=j):Wk [.int j]=O (Zr 0 j):=by unfold Wk;exact Qq ⟨h1,h2⟩
theorem Lk{i j:Int}(h1:j<=1000000)(h2 : -1000000<=j)(h3:i<=1000000)(h4 : -1000000<=i):W0 [.int i,.int j]=O (Zr i j):=by unfold W0;exact Qq ⟨h1,h2,h3,h4⟩
theorem Vh{xs:xQ}:Si [.list xs]=O (ZB 0 xs):=rfl
theorem qW{z:Str}:(UE z).depth<=60:=by simp[UH]
theorem K0{i:Nat}{d:D}(h1:f ρ=.ok d ρ1)(h2:i<ρ1.length)(h3:ρ1.set i (O (.pub d))=ρ'):Kh i f ρ=.nx ρ':=by unfold Kh ZV sB gN;rw[h1];dsimp only;rw[if_pos h2];subst h3;rfl
theorem Zo{i:Nat}{f:M xQ}{ds:xQ}(h1:f ρ=.ok ds ρ1)(h2:i<ρ1.length)(h3:ρ1.set i (O (.own ds))=ρ'):Kz i f ρ=.nx ρ':=by unfold Kz sB;rw[h1];dsimp only;rw[if_pos h2];subst h3;rfl
theorem YW{i:Nat}{d:D}{ww ds:xQ}(h0:ρ[i]?=O (O (.own ww)))(h1:f ρ=.ok d ρ1)(h2:ρ1[i]?=O (O (.own ds)))(h3:ds.length<1000000)(h4:ρ1.set i (O (.own (ds++[d])))=ρ'):KN i f ρ=.nx ρ':=by unfold KN sB;rw[h0];dsimp only;rw[h1];dsimp only;rw[h2];dsimp only;rw[if_pos h3];subst h4;rfl
theorem Rt{d:D}{s:D->UQ->xX}(h1:f ρ=.ok d ρ1)(h2:s d ρ1=O ρ'):ZV f s ρ=.nx ρ':=by unfold ZV sB;rw[h1];dsimp only;rw[h2]
theorem VO{d:D}(h1:f ρ=.ok d ρ1):Xj f ρ=.nx ρ1:=by unfold Xj sB;rw[h1]
theorem U8{i:Nat}{d:D}(h:i<ρ.length)(h2:ρ.set i (O (.pub d))=ρ'):gN i d ρ=O ρ':=by unfold gN;rw[Qq h,h2]
theorem Zx:gN0 [] ρ=O ρ:=rfl
theorem KF{s:D->UQ->xX}{t:xQ->UQ->xX}{d:D}{r:xQ}(h1:s d ρ=O ρ1)(h2:t r ρ1=O ρ'):gNC s t (d::r) ρ=O ρ':=by unfold gNC;dsimp only;rw[h1];exact h2
theorem Zw{n:Nat}{t:xQ->UQ->xX}{ds:xQ}(h1:ds.length=n)(h2:t ds ρ=O ρ'):gT n t (.tuple ds) ρ=O ρ':=by unfold gT;dsimp only;rw[if_pos h1];exact h2
structure Ho(g:SM)(ρ:UQ)(Q:Out->Prop):Prop where
 out:Q (g ρ)
noncomputable def FD(h:SM)(Q:Out->Prop):Out->Prop
 |.nx ρ'=>Ho h ρ' Q
 |o=>Q o
structure Rp(h:SM)(Q:Out->Prop)(o:Out):Prop where
 out:FD h Q o
variable{Q:Out->Prop}{s t u:SM}
theorem KH(h:Ho s ρ (Rp t Q)):Ho (UV s t) ρ Q:=by
 have h:=h.out.out;constructor;unfold UV;cases e:s ρ with
 |nx o=>rw[e]at h;exact h.out
 |_=>rw[e]at h;exact h
theorem Kk(h1:s ρ=.nx ρ1)(h2:Ho t ρ1 Q):Ho (UV s t) ρ Q:=by
 constructor;unfold UV;rw[h1];exact h2.out
theorem KQ{o:Out}(h1:s ρ=o)(h2:Q o):Ho s ρ Q:=by constructor;rw[h1];exact h2
theorem KT(h:Q (.nx ρ)):Ho sNx ρ Q:=⟨h⟩
theorem KR{o:UQ}(h:Ho t o Q):Rp t Q (.nx o):=⟨h⟩
theorem Wc{d:D}(h:Q (.rt d)):Rp t Q (.rt d):=⟨h⟩
theorem Kt{f:M Bool}{b:Bool}(h1:f ρ=.ok b ρ1)(h2:b=xO->Ho s ρ1 Q)(h3:b=xP->Ho t ρ1 Q):Ho (sIf f s t) ρ Q:=by
 constructor;unfold sIf sB;rw[h1];dsimp only
 cases b with
 |true=>rw[Qq xM];exact(h2 xM).out
 |false=>rw[Qw (by decide)];exact(h3 xM).out
theorem K4{d:D}(h1:f ρ=.ok d ρ1)(h2:Q (.rt d)):Ho (Kc f) ρ Q:=by constructor;unfold Kc sB;rw[h1];exact h2
theorem VN{P:Out->Prop}(h:Ho s ρ P)(k:∀o,P o->Q o):Ho s ρ Q:=⟨k _ h.out⟩
noncomputable def FC(I:UQ->Prop)(Q:Out->Prop):Out->Prop
 |.nx ρ | .ct ρ=>I ρ
 |.bk ρ=>Q (.nx ρ)
 |.rt d=>Q (.rt d)
 |.ex ρ d=>Q (.ex ρ d)
 |.ro ds=>Q (.ro ds)
 |.bad=>False
structure Vn(I:UQ->Prop)(Q:Out->Prop)(o:Out):Prop where
 out:FC I Q o
theorem Zv{I:UQ->Prop}(h:I ρ):Vn I Q (.nx ρ):=⟨h⟩
theorem YX{ρ:UQ}{d:D}(h:Q (.ex ρ d)):Rp t Q (.ex ρ d):=⟨h⟩
theorem Ym{f:M xQ}{tg:D->UQ->xX}{ds:xQ}(I:Nat->UQ->Prop)(h1:f ρ=.ok ds ρ1)(h0:I 0 ρ1)
  (hst:∀i d ρ,ds[i]?=O d->I i ρ->∃ρ2,tg d ρ=O ρ2/\Ho s ρ2 (Vn (I (i+1)) Q)) (hend:∀ρ,I ds.length ρ->Q (.nx ρ)):Ho (Kq f tg s) ρ Q:=by
 constructor;unfold Kq sB;rw[h1];dsimp only
 refine Hl (P:=I) (R:=Q) ds 0 ρ1 h0 (λi d ρ e p=>?_) (λρ p=>hend ρ (by rw[JR]at p;exact p));rw[JR]at p;obtain⟨ρ2,e2,q⟩:=hst i d ρ e p;refine⟨ρ2,e2,?_⟩;rw[JR];have q:=q.out.out;cases z:s ρ2 with
 |nx o=>rw[z]at q;exact .inl ⟨o,.inl xM,q⟩
 |ct o=>rw[z]at q;exact .inl ⟨o,.inr xM,q⟩
 |rt o=>rw[z]at q;exact .inr (.inl ⟨o,rfl,q⟩)
 |bk o=>rw[z]at q;exact .inr (.inr (.inl ⟨o,rfl,q⟩))
 |ex o x=>rw[z]at q;exact .inr (.inr (.inr (.inl ⟨o,x,rfl,q⟩)))
 |ro o=>rw[z]at q;exact .inr (.inr (.inr (.inr ⟨o,rfl,q⟩)))
 |bad=>rw[z]at q;exact q.elim
theorem Sz{N:List Str}{ds:xQ}{P:D->Prop}(h0:Zk N ds=ρ)(h:Ho s ρ λo=>∃d,o=.rt d/\P d):∃d,Kn N s ds=O d/\P d:=by subst h0;obtain⟨d,e,p⟩:=h.out;refine⟨d,?_,p⟩;unfold Kn;rw[e]
theorem ZT{N:List Str}{ds:xQ}{d:D}(h0:Zk N ds=ρ)(h:Ho s ρ λo=>o=.rt d):Kn N s ds=O d:=by obtain⟨d',e,p⟩:=Sz (P:=λx=>x=d) h0 (VN h λo e=>⟨d,e,rfl⟩);rw[e,p]
end
section
variable{α β:Type}{ρ ρ1 ρ2 ρ3 ρ':UQ}{f g h:M D}
theorem VA{l u:M xZ}{x r:D}{a b:xZ}(h1:f ρ=.ok x ρ1)(h2:l ρ1=.ok a ρ2)(h3:u ρ2=.ok b ρ3)(h4:Xa x a b=O r):K3 f l u ρ=.ok r ρ3:=by unfold K3;exact KM h1 (KM h2 (KM h3 (ZG h4)))
theorem XX{f g:M Bool}(h1:f ρ=.ok xO ρ1):mOr f g ρ=.ok xO ρ1:=by unfold mOr;exact KM h1 xM
theorem Xk{f g:M Bool}{u:Bool}(h1:f ρ=.ok xP ρ1)(h2:g ρ1=.ok u ρ2):mOr f g ρ=.ok u ρ2:=by unfold mOr;exact KM h1 (by rw[Qw (by decide)];exact h2)
theorem D3{f g:M Bool}(h1:f ρ=.ok xP ρ1):ZJ f g ρ=.ok xP ρ1:=by unfold ZJ;exact KM h1 xM
theorem D2{f g:M Bool}{u:Bool}(h1:f ρ=.ok xO ρ1)(h2:g ρ1=.ok u ρ2):ZJ f g ρ=.ok u ρ2:=by unfold ZJ;exact KM h1 (by rw[Qq xM];exact h2)
theorem Yx{c:String}{d:D}{t:Bool}(h:f ρ=.ok d ρ1)(ht:(!KD d c)=t):Kv (ZC (U3 (λd=>.bool (KD d c)) f)) ρ=.ok t ρ1:=by subst ht;exact YI (Xn (K5 (k:=λd=>UD (KD d c)) h))
theorem ZD{x:D}{r:xQ}(h1:f ρ=.ok x ρ1)(h2:P0 x=O r):Kx f ρ=.ok r ρ1:=by unfold Kx;exact KM h1 (ZG h2)
theorem YZ{p:D->D->Option β}{i:Nat}{d y:D}{r:β}(h:ρ[i]?=O (O (.pub d)))(h1:g ρ=.ok y ρ1)(h2:p d y=O r):Zu p i g ρ=.ok r ρ1:=by unfold Zu;rw[h];exact KM h1 (ZG h2)
theorem AX{p:D->D->Option β}{i:Nat}{ds es:xQ}{y:D}{r:β}(h:ρ[i]?=O (O (.own ds)))(h1:g ρ=.ok y ρ1)(h3:ρ1[i]?=O (O (.own es)))(h2:p (.list es) y=O r):Zu p i g ρ=.ok r ρ1:=by unfold Zu;rw[h];exact KM h1 (by rw[h3];exact ZG h2)
theorem X2{f:M xQ}{k:Nat}{s:D->UQ->xX}{t:M Bool}{ds es:xQ}(h1:f ρ=.ok ds ρ1)(h2:Zi s t g ds (Km ρ1++UB k xN) []=O es):Z6 f k s t g ρ=.ok es ρ1:=by unfold Z6;rw[h1];dsimp only;rw[h2]
theorem Vk{s:D->UQ->xX}{t:M Bool}(p:D->Bool)(q:D->D)(I:UQ->Prop):∀(ds:xQ)(ρ:UQ)(es:xQ),(∀d∈ds,∀ρ,I ρ->∃ρ1,s d ρ=O ρ1/\t ρ1=.ok (p d) ρ1/\(p d=xO->g ρ1=.ok (q d) ρ1)/\I (Km ρ1))->I ρ->es.length+ds.length<=1000000 ->
  Zi s t g ds ρ es=O (es++(ds.filter p).map q)
 |[],ρ,es,_,_,_=>by rw[Zi];simp
 |d::r,ρ,es,st,h0,hz=>by
  obtain⟨ρ1,e1,e2,e3,h1⟩:=st d Qf ρ h0;have ih:=λes' hz'=>Vk p q I r (Km ρ1) es' (λd' hd=>st d' (Qh _ hd)) h1 hz';rw[Qs]at hz;rw[Zi,e1];dsimp only;rw[e2];dsimp only
  cases hp:p d with
  |true=>rw[Qq xM,e3 hp];dsimp only;rw[Qq (by lia),ih _ (by rw[Qk,Q4];lia),List.filter_cons_of_pos hp,Qx,Ja];rfl
  |false=>rw[Qw (by decide),ih _ (by lia),List.filter_cons_of_neg (by rw[hp];decide)]
theorem PX{j:Nat}{d:D}{k:Int}{ww ds:xQ}(h1:f ρ=.ok d ρ1)(h0:ρ1[j]?=O (O (.own ww)))(h2:g ρ1=.ok (.int k) ρ2)(h3:ρ2[j]?=O (O (.own ds)))(h4:0<=k/\k<ds.length)(h5:ρ2.set j (O (.own (ds.set k.toNat d)))=ρ'):TD j g f ρ=.nx ρ':=by unfold TD sB;rw[h1];dsimp only;rw[h0];dsimp only;rw[h2];dsimp only;rw[h3];dsimp only;rw[if_pos h4];subst h5;rfl
theorem T4{xs:xQ}{a b:xZ}:Xa (.list xs) a b=O (.list (DL.cutD xs a b)):=rfl
theorem MW{xs:xQ}:P0 (.list xs)=O xs:=rfl
theorem ku(bs:List Bool):Xx (bs.map UD)=O bs:=by
 induction bs with
 |nil=>rfl
 |cons b r ih=>rw[Qx,Xx,ih];rfl
theorem MV{bs:List Bool}:Yy [.list (bs.map UD)]=O (.bool (bs.all id)):=by unfold Yy;dsimp only;rw[ku];rfl
end
section
variable{α β:Type}{ρ ρ1 ρ2 ρ3 ρ4 ρ':UQ}{f g h:M D}{s:SM}
theorem EQ{l u t:M xZ}{xs:xQ}(h1:f ρ=.ok (.list xs) ρ1)(h2:l ρ1=.ok xN ρ2)(h3:u ρ2=.ok xN ρ3)(h4:t ρ3=.ok (O (-1)) ρ4):WJ f l u t ρ=.ok (.list xs.reverse) ρ4:=by unfold WJ;exact KM h1 (KM h2 (KM h3 (KM h4 (ZG (by unfold Wz;exact Qq xM)))))
theorem Oy{i:Nat}{d:D}{ds:xQ}(h:ρ[i]?=O (O (.pub d)))(h2:XU [d]=O ds):VC i ρ=.ok ds ρ:=by unfold VC;rw[h];exact ZG h2
theorem Rs{N:List Str}{ds:xQ}(h0:Zk N ds=ρ)(h:Ho s ρ λo=>∃ρ',o=.nx ρ'):Kn N s ds=O .none:=by subst h0;obtain⟨ρ',e⟩:=h.out;unfold Kn;rw[e]
theorem PV{i j:Int}:oNe (.int i) (.int j)=O (!decide (i=j)):=by unfold oNe;rw[if_pos ⟨rfl,rfl,by simp[UH]⟩];congr 1
theorem Lj{xs:xR}{j:Nat}{v:Int}:(xs.map int).set j (.int v)=(xs.set j v).map int:=by rw[List.map_set]
theorem AW{xs:xR}{a b:Int}(ha:0<=a)(hb:0<=b)(hl:b<=xs.length):DL.cutD (xs.map int) (O a) (O b)=((xs.drop a.toNat).take (b.toNat-a.toNat)).map int:=by
 unfold DL.cutD HT.sIx;dsimp only;rw[Qw (by lia),Qw (by lia),Qb,List.map_take,List.map_drop];have e2:min b.toNat xs.length=b.toNat:=by lia
 rw[e2];by_cases hab:a.toNat<=xs.length
 .have e1:min a.toNat xs.length=a.toNat:=by lia
  rw[e1]
 .have e3:b.toNat-a.toNat=0:=by lia
  have e4:b.toNat-min a.toNat xs.length=0:=by lia
  rw[e3,e4,Ua,Ua]
end
section
variable{X:Cx}{B G0:Hp}{KX:XW}{e o a b c tg i:Uv}{pos p2:Pos}{es rest:xU}
noncomputable def Y8(op:Int->Int->xT)(j:Nat)(f:M D):SM:=λρ=>match ρ[j]? with
 |some (O (.pub (.int a)))=>sB f (λy ρ1=>match y with
  |.int b=>(match op a b with
   |some d=>if j<ρ1.length then .nx (ρ1.set j (O (.pub d)))else .bad
   |none=>.bad)
  |_=>.bad) ρ
 |_=>.bad
def IpD(X:Cx)(op:Operator)(p:Int->Int->xT):Prop:=∃ti,PIp X op ti/\∀i j d,p i j=O d->∃v:V,(∀G,Rep X.K G v d)/\∀H(Q:VK),Q v H->ti (.int i) (.int j) H Q
theorem D1:IpD X .Add (λi j=>O (.int (i+j))):=⟨_,DB,λi j d e=>by cases e;exact⟨_,λ_=>.int _,λH Q q=>⟨i,j,rfl,rfl,q⟩⟩⟩
theorem EO{j:Nat}{x:Str}{op:Operator}{p:Int->Int->xT}{f:M D}{pos':Pos}(hN:X.N.Nodup)(hi:X.N[j]?=O x)(hx:Loc X.env.scope x)(ho:IpD X op p)(he:PE X e (tD X.K B G0 f))(hf:X.fn x=xO∨X.env.scope.names.lookup x=O .local:=by first|exact .inl rfl|exact .inr rfl|assumption) :
  PS X (.AugAssign (.Name x pos') op e pos) (tS X.K B G0 KX (Y8 p j f)):=by
 obtain⟨ti,hti,hp⟩:=ho;refine KO (DC hN hi hx he hti hf) λDn σ H ⟨G,ρ,k,a⟩=>?_;unfold Y8 at a
 cases q:ρ[j]? with
 |none=>rw[q]at a;exact a.elim
 |some o0=>
  cases o0 with
  |none=>rw[q]at a;exact a.elim
  |some sl=>
   cases sl with
   |deep _ _=>rw[q]at a;exact a.elim
   |own ds=>rw[q]at a;exact a.elim
   |pub d0=>
    rw[q]at a;cases d0 with
    |int i0=>
     dsimp only at a;obtain⟨v,h1,h2⟩:=k.pub j _ q;cases h2.int_inv;refine⟨.int i0,h1,G,ρ,k,?_⟩;unfold sB at a;cases z:f ρ with
     |bad=>rw[z]at a;exact a.elim
     |ok y ρ1=>
      rw[z]at a;dsimp only at a;intro u G1 H1 k1 s1 r1;cases y with
      |int i1=>
       cases r1.int_inv;dsimp only at a;cases w:p i0 i1 with
       |none=>rw[w]at a;exact a.elim
       |some d=>
        rw[w]at a;dsimp only at a;split at a
        .rename_i hl
         obtain⟨v',rv,hq⟩:=hp i0 i1 d w;exact hq H1 _ (a _ G1 H1 (k1.setPub (rv G1) hl) s1)
        .exact a.elim
      |_=>exact a.elim
    |_=>exact a.elim
end
section
variable{X:Cx}{B G0:Hp}{e o a b c tg i:Uv}{pos p2:Pos}{es rest:xU}
theorem qV(hc:X.calm=xO):ZS X (.builtin "sum") (λxs H Q=>∃l,∃ns:xR,xs=[.ref l]/\SqL X.K H l (ns.map V.int)/\Q (.int ns.sum) H):=by
 intro pins s σ H xs us Q I rx h;obtain⟨l,ns,rfl,hq,q⟩:=h;obtain⟨u,rfl,ru⟩:=rx.one;cases ru;obtain⟨its,rv,p,hz⟩:=I.list hq;have hi:=VS rv;obtain⟨ys,e⟩:=hi.allInts.items;have hns:ns=ys.toList.map (·.1):=by rw[←hi.numsOf,←nums_intItems,←e]
 have hl:=p.isList;rw[e]at hl;refine sum_intListG (I.ok.hd hc) hl λh' tk t' hk=>?_
 have e2:preSum (numAt ys) ys.size=ns.sum:=by rw[preSum_eq,List.take_of_length_le (by simp),hns]
 rw[e2];exact⟨.int ns.sum,H,I.kept hk,⟨t',rfl⟩,q⟩
noncomputable def Y2:xQ->xT
 |[.list ds]=>(YJ ds).map λns=>.int ns.sum
 |_=>xN
theorem qU{xs:xQ}{d:D}(h:Y2 xs=O d):∃ds ns,xs=[.list ds]/\YJ ds=O ns/\d=.int ns.sum:=by
 unfold Y2 at h;split at h
 .rename_i ds
  cases z:YJ ds with
  |none=>rw[z]at h;cases h
  |some ns=>rw[z]at h;cases h;exact⟨ds,ns,rfl,z,rfl⟩
 .cases h
theorem EN(hc:X.calm=xO):Yk X (.builtin "sum") Y2:=by refine⟨_,qV hc,λvs G H ds d Q s r e k=>?_⟩;obtain⟨ds,ns,rfl,z,rfl⟩:=qU e;obtain⟨v,rfl,q1⟩:=r.one_inv;obtain⟨l,ws,rfl,h1,r1⟩:=q1.lst_inv;have:=Ph r1 z;subst this;exact⟨l,ns,rfl,s.seq h1,k _ G H (.refl s) (.int _)⟩
theorem Ox{ns:xR}:Y2 [.list (ns.map .int)]=O (.int ns.sum):=by unfold Y2;dsimp only;rw[Pi];rfl
theorem kt:ZS X (.type "range") (λxs H Q=>∃lo hi,(xs=[.int hi]/\lo=0∨xs=[.int lo,.int hi])/\∀p,H p=xN->Q (.ref p) (upd H p (.rng lo hi))):=by
 intro pins s σ H xs us Q I rx h;obtain⟨lo,hi,h1,q⟩:=h;rcases h1 with ⟨rfl,rfl⟩|rfl
 .obtain⟨u,rfl,ru⟩:=rx.one
  obtain⟨t,rfl⟩:=ru;exact call_range_1 ⟨.ref _,_,I.laid (λb o e=>Qg _ e) (Qr _) (show Zj X.prog X.w _ _ _ (.rng 0 hi)from⟨_,_,_,QD _ xM⟩),rfl,q _ (I.hok.fresh (Qr _))⟩
 .obtain⟨u1,u2,rfl,ru1,ru2⟩:=rx.two
  obtain⟨t1,rfl⟩:=ru1;obtain⟨t2,rfl⟩:=ru2;exact call_range_2 ⟨.ref _,_,I.laid (λb o e=>Qg _ e) (Qr _) (show Zj X.prog X.w _ _ _ (.rng lo hi)from⟨_,_,_,QD _ xM⟩),rfl,q _ (I.hok.fresh (Qr _))⟩
theorem xk(hc:X.calm=xO):ZS X (.type "list") (λxs H Q=>∃r lo hi,xs=[.ref r]/\H r=O (.rng lo hi) /\ -1000000<=lo/\lo<=1000000 /\ -1000000<=hi/\hi<=1000000/\(hi-lo).toNat<=1000000/\∀p,H p=xN->Q (.ref p) (upd H p (.lst ((UA (hi-lo).toNat).map λ(k:Nat)=>V.int (lo+k))))):=by
 intro pins s σ H xs us Q I rx h;obtain⟨r,lo,hi,rfl,hr,h1,h2,h3,h4,h5,q⟩:=h;obtain⟨u,rfl,ru⟩:=rx.one;cases ru;obtain⟨t,u,v,e⟩:=I.hok r _ hr;refine call_list_range (n:=(hi-lo).toNat) (I.ok.hd hc) e (small_one (by lia) (by lia) (by lia) (by lia)) (by rw[rangeSize_one];split<;>lia) (by lia) λh' tk acc' c' hk hS hI=>?_
 refine⟨.ref _,_,I.laid hk (Qr _) (show Zj X.prog X.w _ _ _ (.lst ((UA (hi-lo).toNat).map λ(k:Nat)=>V.int (lo+k)))from ?_),rfl,q _ (I.hok.fresh (Qr _))⟩;refine⟨by rw[List.length_map,List.length_range];exact Nat.le_trans h5 lim,acc'.toList,c',?_,by simpa using hS⟩
 have key:∀(n:Nat)(ys:xS),ys.length=n->(∀(i:Nat)(v:Uq),ys[i]?=O v->∃t,v=Value.int (lo+(i:Int)*1) t)->Vals ((UA n).map λ(k:Nat)=>V.int (lo+k)) ys:=by
  intro n;induction n with
  |zero=>intro ys hl _;rw[List.length_eq_zero_iff.mp hl];exact .nil
  |succ n ih=>
   intro ys hl hy;have hne:ys≠[]:=by rintro rfl;simp at hl
   rw[List.range_succ,QI,←List.dropLast_concat_getLast hne];refine Vals.append (ih _ (by rw[List.length_dropLast];lia) λi v e=>hy i v ?_) (.cons ?_ .nil)
   .have hi:i<ys.dropLast.length:=(Ql.mp e).1
    rw[List.getElem?_dropLast]at e;split at e
    .exact e
    .cases e
   .obtain⟨t,e⟩:=hy n (ys.getLast hne) (by rw[List.getLast_eq_getElem,←Qe];congr 1;lia)
    exact⟨t,by rw[e];congr 1;lia⟩
 exact key _ acc'.toList (by simpa using hI.1) λi v e=>hI.2 i v (by simpa using e)
noncomputable def Wi:xQ->Option xQ
 |[.int j]=>Wk [.int j]
 |[.int i,.int j]=>if(j-i).toNat<=1000000 then W0 [.int i,.int j]else xN
 |_=>xN
theorem qT{xs l:xQ}(h:Wi xs=O l):∃lo hi:Int,(xs=[.int hi]/\lo=0∨xs=[.int lo,.int hi]) /\ -1000000<=lo/\lo<=1000000 /\ -1000000<=hi/\hi<=1000000/\(hi-lo).toNat<=1000000/\l=Zr lo hi:=by
 unfold Wi at h;split at h
 .rename_i j
  unfold Wk at h;dsimp only at h;split at h
  .rename_i c
   cases h;exact⟨0,j,.inl ⟨rfl,rfl⟩,by lia,by lia,by lia,by lia,by lia,rfl⟩
  .cases h
 .rename_i i j
  split at h
  .rename_i c0
   unfold W0 at h;dsimp only at h;split at h
   .rename_i c
    cases h;exact⟨i,j,.inr xM,by lia,by lia,by lia,by lia,c0,rfl⟩
   .cases h
  .cases h
 .cases h
theorem HF{K:Frag}{G:Hp}(lo:Int):∀n:Nat,Reps K G ((UA n).map λ(k:Nat)=>V.int (lo+k)) ((UA n).map λ(k:Nat)=>int (lo+k))
 |0=>.nil
 |n+1=>by rw[List.range_succ,QI,QI];exact(HF lo n).append (.cons (.int _) .nil)
theorem qS{f:M xQ}{p3 p4:Pos}{as:xU}(hc:X.calm=xO)(hg:Gl X "list")(hm:X.mg "list" = xN)(wf:Gl X "range")(hm2:X.mg "range" = xN)(ha:PA X (a::as) (tDs X.K B G0 f))(he:Uy (a::as) X.env=(xP,eval a X.env)::Uy as X.env:=by rfl)
  (hp:(backTo p3 (Uy as X.env)).any (·.1)=xP:=by rfl)
  (wa:Uy [.Call (.Name "range" p2) (a::as) [] p3] X.env=(xP,eval (.Call (.Name "range" p2) (a::as) [] p3) X.env)::Uy [] X.env:=by rfl) :
  PE X (.Call (.Name "list" p4) [.Call (.Name "range" p2) (a::as) [] p3] [] pos) (tL X.K B G0 (U2 f λxs=>U1 (Wi xs))):=
 Kb (Sa (xk hc) hg hm OY (Zq (Sa kt wf hm2 boot_range ha (by decide) (by decide) he hp) Z4 wa) (by decide) (by decide) wa xM) λσ H Q ⟨G,ρ,k,q⟩=>by
  refine⟨G,ρ,k,?_⟩;unfold U2 at q;cases z:f ρ with
  |bad=>rw[z]at q;exact q.elim
  |ok xs ρ1=>
  rw[z]at q;dsimp only[U1]at q;intro vs G' H' k' s' r;cases z2:Wi xs with
  |none=>rw[z2]at q;exact q.elim
  |some l=>
  rw[z2]at q;obtain⟨lo,hi,hx,h1,h2,h3,h4,h5,rfl⟩:=qT z2
  have hv:vs=[.int hi]/\lo=0∨vs=[.int lo,.int hi]:=by
   rcases hx with ⟨rfl,rfl⟩|rfl
   .obtain⟨v,rfl,q1⟩:=r.one_inv
    exact .inl ⟨by rw[q1.int_inv],rfl⟩
   .cases r with
    |cons r1 r2=>obtain⟨v,rfl,q1⟩:=r2.one_inv;exact .inr (by rw[r1.int_inv,q1.int_inv])
  refine⟨lo,hi,hv,λp hp=>⟨p,lo,hi,rfl,Ks,h1,h2,h3,h4,h5,λp' w4=>?_⟩⟩;have k2:=k'.ext (Ext.hid (o:=.rng lo hi) k'.gh hp);exact q p' _ G' _ (k2.ext (Ext.hid k2.gh w4)) s' (NewL.of k2 w4 (HF lo _))
theorem kr:bootBuiltins "tuple" = O (.type "tuple"):=by decide +kernel
end
end DL
namespace DL
open PySem PySem.Spec PySem.W PyProof.Rows
noncomputable def Kd{α:Type}(lt:Nat->Nat->Bool):KasT α->α
 |.ret a=>a
 |.ask i j k=>Kd lt (k (lt i j))
theorem T8{α β:Type}{lt:Nat->Nat->Bool}{f:α->KasT β}:∀t:KasT α,Kd lt (t.bind f)=Kd lt (f (Kd lt t))
 |.ret _=>rfl
 |.ask i j k=>by show Kd lt ((k (lt i j)).bind f)=_;rw[T8];rfl
section
variable{key:Nat->Int}{p:Array Nat}
noncomputable def KA(key:Nat->Int)(p:Array Nat)(i:Nat):Int:=key (p.getD i 0)
def srt(key:Nat->Int)(p:Array Nat)(m:Nat):Prop:=∀i j,i<=j->j<m->KA key p i<=KA key p j
def dsc(key:Nat->Int)(p:Array Nat)(m:Nat):Prop:=∀i j,i<=j->j<m->KA key p j<=KA key p i
noncomputable abbrev kl(key:Nat->Int)(i j:Nat):Bool:=decide (key i<key j)
theorem Hk{k d i:Nat}(hk:k<p.size)(hd:d<=k):KA key (bubble p k d) i=if i=k-d then KA key p k else if k-d<i/\i<=k then KA key p (i-1)else KA key p i:=by
 unfold KA;simp only[Jg];rw[getElem?_bubble hk d hd]
 repeat' split
 all_goals rfl
theorem Sy{i j k:Nat}(hj:j<=p.size):KA key (kas_rev p i j) k=if i<=k/\k<j then KA key p (i+j-1-k)else KA key p k:=by
 unfold KA kas_rev;simp only[Jg];rw[getElem?_mirror_all hj]
 split<;>rfl
theorem VI{i j:Nat}:(kas_rev p i j).size=p.size:=mirror_size _ _ _ _
theorem Wt{i j:Nat}:(kas_rev p i j).Perm p:=mirror_perm _ _ _ _
theorem Ow:∀(f n:Nat),1<=n->srt key p n->srt key p (Kd (kl key) (kas_asc p f n))/\n<=Kd (kl key) (kas_asc p f n)/\Kd (kl key) (kas_asc p f n)<=n+f /\
  (Kd (kl key) (kas_asc p f n)<n+f->KA key p (Kd (kl key) (kas_asc p f n))<KA key p (Kd (kl key) (kas_asc p f n)-1))
 |0,n,h1,hs=>⟨hs,Qr _,Qr _,λh=>absurd h (Jm _)⟩
 |f+1,n,h1,hs=>by
  unfold kas_asc Kd;cases c:kl key (p.getD n 0) (p.getD (n-1) 0)with
  |true=>dsimp only;rw[Qq xM];exact⟨hs,Qr _,by show n<=n+(f+1);lia,λ_=>Qa c⟩
  |false=>
   dsimp only;rw[Qw (by decide)];have hle:KA key p (n-1)<=KA key p n:=Up.mp (JH c)
   obtain⟨a1,a2,a3,a4⟩:=Ow f (n+1) (by lia) (λi j hij hj=>by
    by_cases v4:j=n
    .subst v4
     by_cases hin:i=j
     .subst hin;exact JW _
     .exact Int.le_trans (hs i (j-1) (by lia) (by lia)) hle
    .exact hs i j hij (by lia))
   exact⟨a1,by lia,by lia,λh=>a4 (by lia)⟩
def eqs(key:Nat->Int)(p:Array Nat)(n q:Nat):Prop:=∀i,n-1-q<=i->i<n->KA key p i=KA key p (n-1)
theorem Pc:∀(f:Nat)(p:Array Nat)(n q:Nat),1<=n->q+1<=n->n+f<=p.size->dsc key p n->eqs key p n q ->
  let r:=Kd (kl key) (kas_desc f p n q)
  r.1.Perm p/\r.1.size=p.size/\dsc key r.1 r.2.1/\eqs key r.1 r.2.1 r.2.2/\r.2.2+1<=r.2.1/\n<=r.2.1/\r.2.1<=n+f
 |0,p,n,q,h1,hq,hz,hd,he=>⟨Uf _,rfl,hd,he,hq,Qr _,Qr _⟩
 |f+1,p,n,q,h1,hq,hz,hd,he=>by
  intro r;have hr:r=Kd (kl key) (kas_desc (f+1) p n q):=rfl;unfold kas_desc Kd at hr;cases c:kl key (p.getD n 0) (p.getD (n-1) 0)with
  |true=>
   rw[c]at hr;(try dsimp only at hr);rw[if_pos xM]at hr;have hlt:KA key p n<KA key p (n-1):=Qa c
   have ext:∀p':Array Nat,(∀i,KA key p' i=KA key p i)->dsc key p' (n+1)/\eqs key p' (n+1) 0:=λp' hp=>⟨λi j hij hj=>by
     rw[hp,hp];by_cases v4:j=n
     .subst v4
      by_cases hin:i=j
      .subst hin;exact JW _
      .exact Int.le_trans (Int.le_of_lt hlt) (hd i (j-1) (by lia) (by lia))
     .exact hd i j hij (by lia),λi hi1 hi2=>by
     have:i=n:=by lia
     subst this;rfl⟩
   by_cases hq0:q > 0
   .rw[Qq hq0]at hr
    have same:∀i,KA key (kas_rev p (n-(q+1)) n) i=KA key p i:=λi=>by
     rw[Sy (by lia)];split
     .rw[he _ (by lia) (by lia),he i (by lia) (by lia)]
     .rfl
    obtain⟨d1,e1⟩:=ext _ same;obtain⟨a1,a2,a3,a4,a5,a6,a7⟩:=Pc f (kas_rev p (n-(q+1)) n) (n+1) 0 (by lia) (by lia) (by rw[VI];lia) d1 e1;rw[←hr]at a1 a2 a3 a4 a5 a6 a7;exact⟨a1.trans Wt,a2.trans VI,a3,a4,a5,by lia,by lia⟩
   .rw[Qw hq0]at hr
    obtain⟨d1,e1⟩:=ext p λ_=>rfl
    obtain⟨a1,a2,a3,a4,a5,a6,a7⟩:=Pc f p (n+1) 0 (by lia) (by lia) (by lia) d1 e1;rw[←hr]at a1 a2 a3 a4 a5 a6 a7;exact⟨a1,a2,a3,a4,a5,by lia,by lia⟩
  |false=>
   rw[c]at hr;(try dsimp only at hr);rw[if_neg (by decide)]at hr;unfold Kd at hr;have hle:KA key p (n-1)<=KA key p n:=Up.mp (JH c);cases d:kl key (p.getD (n-1) 0) (p.getD n 0)with
   |true=>rw[d]at hr;(try dsimp only at hr);rw[if_pos xM]at hr;unfold Kd at hr;rw[hr];exact⟨Uf _,rfl,hd,he,hq,Qr _,by show n<=n+(f+1);lia⟩
   |false=>
    rw[d]at hr;(try dsimp only at hr);rw[if_neg (by decide)]at hr;have hge:KA key p n<=KA key p (n-1):=Up.mp (JH d)
    obtain⟨a1,a2,a3,a4,a5,a6,a7⟩:=Pc f p (n+1) (q+1) (by lia) (by lia) (by lia) (λi j hij hj=>by
     by_cases v4:j=n
     .subst v4
      by_cases hin:i=j
      .subst hin;exact JW _
      .exact Int.le_trans hge (hd i (j-1) (by lia) (by lia))
     .exact hd i j hij (by lia)) (λi hi1 hi2=>by
     have e0:KA key p n=KA key p (n-1):=Int.le_antisymm hge hle;show KA key p i=KA key p (n+1-1);rw[Nat.add_sub_cancel,e0];by_cases hin:i=n
     .subst hin;exact e0
     .exact he i (by lia) (by lia))
    rw[←hr]at a1 a2 a3 a4 a5 a6 a7;exact⟨a1,a2,a3,a4,a5,by lia,by lia⟩
theorem HE{n nrem:Nat}(h1:1<=n)(hn:n<=nrem)(hz:nrem<=p.size)(hd:dsc key p n) :
  let r:=Kd (kl key) (kas_tail3 n nrem p)
  r.2.Perm p/\r.2.size=p.size/\srt key r.2 r.1/\1<=r.1/\r.1<=nrem:=by
 intro r;have hr:r=Kd (kl key) (kas_tail3 n nrem p):=rfl;unfold kas_tail3 at hr;rw[T8]at hr;have hs:srt key (kas_rev p 0 n) n:=λi j hij hj=>by rw[Sy (by lia),Sy (by lia),Qq (by lia),Qq (by lia)];exact hd _ _ (by lia) (by lia)
 obtain⟨a1,a2,a3,_⟩:=Ow (key:=key) (p:=kas_rev p 0 n) (nrem-n) n h1 hs;rw[hr];exact⟨Wt,VI,a1,by show 1<=Kd _ _;lia,by show Kd _ _<=_;lia⟩
theorem Gi{n nrem:Nat}(h1:1<=n)(hn:n+1<=nrem)(hz:nrem<=p.size)(hd:dsc key p (n+1)) :
  let r:=Kd (kl key) (kas_descPart n nrem p)
  r.2.Perm p/\r.2.size=p.size/\srt key r.2 r.1/\1<=r.1/\r.1<=nrem:=by
 intro r;have hr:r=Kd (kl key) (kas_descPart n nrem p):=rfl;unfold kas_descPart at hr;rw[T8]at hr
 obtain⟨a1,a2,a3,a4,a5,a6,a7⟩:=Pc (key:=key) (nrem-(n+1)) p (n+1) 0 (by lia) (by lia) (by lia) hd (λi hi1 hi2=>by
  have:i=n:=by lia
  subst this;rfl)
 generalize Kd (kl key) (kas_desc (nrem-(n+1)) p (n+1) 0)=d at hr a1 a2 a3 a4 a5 a6 a7;obtain⟨p1,n1,q1⟩:=d;dsimp only at hr a1 a2 a3 a4 a5 a6 a7;by_cases hq:q1 > 0
 .rw[Qq hq]at hr
  have same:∀i,KA key (kas_rev p1 (n1-(q1+1)) n1) i=KA key p1 i:=λi=>by
   rw[Sy (by lia)];split
   .rw[a4 _ (by lia) (by lia),a4 i (by lia) (by lia)]
   .rfl
  obtain⟨b1,b2,b3,b4,b5⟩:=HE (key:=key) (p:=kas_rev p1 (n1-(q1+1)) n1) (n:=n1) (nrem:=nrem) (by lia) (by lia) (by rw[VI];lia) (λi j hij hj=>by rw[same,same];exact a3 i j hij hj);rw[hr];exact⟨(b1.trans Wt).trans a1,(b2.trans VI).trans a2,b3,b4,b5⟩
 .rw[Qw hq]at hr
  obtain⟨b1,b2,b3,b4,b5⟩:=HE (key:=key) (p:=p1) (n:=n1) (nrem:=nrem) (by lia) (by lia) (by lia) a3;rw[hr];exact⟨b1.trans a1,b2.trans a2,b3,b4,b5⟩
theorem jA{nrem:Nat}(h1:1<=nrem)(hz:nrem<=p.size) :
  let r:=Kd (kl key) (kas_count nrem p)
  r.2.Perm p/\r.2.size=p.size/\srt key r.2 r.1/\1<=r.1/\r.1<=nrem:=by
 intro r;have hr:r=Kd (kl key) (kas_count nrem p):=rfl;unfold kas_count at hr;rw[T8]at hr
 obtain⟨a1,a2,a3,a4⟩:=Ow (key:=key) (p:=p) (nrem-1) 1 (Qr _) (λi j hij hj=>by
  have:i=j:=by lia
  subst this;exact JW _)
 generalize Kd (kl key) (kas_asc p (nrem-1) 1)=n at hr a1 a2 a3 a4;by_cases hn:(n==nrem)=xO
 .rw[Qq hn]at hr
  unfold Kd at hr;rw[hr];exact⟨Uf _,rfl,a1,a2,by show n<=nrem;lia⟩
 .rw[Qw hn]at hr
  have hne:n≠nrem:=by simpa using hn
  have hlt:=a4 (by lia);by_cases hn1:n > 1
  .rw[Qq hn1]at hr
   unfold Kd at hr;cases c:kl key (p.getD 0 0) (p.getD (n-1) 0)with
   |true=>rw[c]at hr;(try dsimp only at hr);rw[if_pos xM]at hr;unfold Kd at hr;rw[hr];exact⟨Uf _,rfl,a1,a2,by show n<=nrem;lia⟩
   |false=>
    rw[c]at hr;(try dsimp only at hr);rw[if_neg (by decide)]at hr;have hge:KA key p (n-1)<=KA key p 0:=Up.mp (JH c);have all:∀i,i<n->KA key p i=KA key p 0:=λi hi=>Int.le_antisymm (Int.le_trans (a1 i (n-1) (by lia) (by lia)) hge) (a1 0 i (by lia) hi)
    have same:∀i,KA key (kas_rev p 0 n) i=KA key p i:=λi=>by
     rw[Sy (by lia)];split
     .rw[all _ (by lia),all i (by lia)]
     .rfl
    obtain⟨b1,b2,b3,b4,b5⟩:=Gi (key:=key) (p:=kas_rev p 0 n) (n:=n) (nrem:=nrem) a2 (by lia) (by rw[VI];exact hz) (λi j hij hj=>by
     rw[same,same];by_cases v4:j=n
     .subst v4
      by_cases hin:i=j
      .subst hin;exact JW _
      .rw[all i (by lia)]
       rw[all (j-1) (by lia)]at hlt;exact Int.le_of_lt hlt
     .rw[all i (by lia),all j (by lia)];exact JW _)
    rw[hr];exact⟨b1.trans Wt,b2.trans VI,b3,b4,b5⟩
  .rw[Qw hn1]at hr
   have:n=1:=by lia
   subst this
   obtain⟨b1,b2,b3,b4,b5⟩:=Gi (key:=key) (p:=p) (n:=1) (nrem:=nrem) (Qr _) (by lia) hz (λi j hij hj=>by
    by_cases hij2:i=j
    .subst hij2;exact JW _
    .have h0:i=0:=by lia
     have h1:j=1:=by lia
     subst h0;subst h1;exact Int.le_of_lt hlt)
   rw[hr];exact⟨b1,b2,b3,b4,b5⟩
theorem OW{k:Nat}(hs:srt key p k):∀(f l r:Nat),l<=r->r<=k->r-l<=f->(∀i,i<l->KA key p i<=KA key p k)->(∀i,r<=i->i<k->KA key p k<KA key p i) ->
  let m:=Kd (kl key) (kas_place p k f l r)
  m<=k/\(∀i,i<m->KA key p i<=KA key p k)/\(∀i,m<=i->i<k->KA key p k<KA key p i)
 |0,l,r,hlr,hrk,hf,h1,h2=>⟨by show l<=k;lia,h1,λi (hi:l<=i)=>h2 i (by lia)⟩
 |f+1,l,r,hlr,hrk,hf,h1,h2=>by
  intro m;have hm:m=Kd (kl key) (kas_place p k (f+1) l r):=rfl;unfold kas_place at hm;by_cases hge:l ≥ r
  .rw[Qq hge]at hm
   unfold Kd at hm;rw[hm];exact⟨by lia,h1,λi hi=>h2 i (by lia)⟩
  .rw[Qw hge]at hm
   unfold Kd at hm;cases c:kl key (p.getD k 0) (p.getD ((l+r) / 2) 0)with
   |true=>rw[c]at hm;(try dsimp only at hm);rw[if_pos xM]at hm;rw[hm];have hlt:KA key p k<KA key p ((l+r) / 2):=Qa c;exact OW hs f l ((l+r) / 2) (by lia) (by lia) (by lia) h1 λi hi hik=>Int.lt_of_lt_of_le hlt (hs _ _ hi hik)
   |false=>rw[c]at hm;(try dsimp only at hm);rw[if_neg (by decide)]at hm;rw[hm];have hle:KA key p ((l+r) / 2)<=KA key p k:=Up.mp (JH c);exact OW hs f ((l+r) / 2+1) r (by lia) hrk (by lia) (λi hi=>Int.le_trans (hs i ((l+r) / 2) (by lia) (by lia)) hle) h2
theorem Li:∀(f:Nat)(p:Array Nat)(k:Nat),k+f<=p.size->srt key p k->let r:=Kd (kl key) (kas_bin f p k);r.Perm p/\r.size=p.size/\srt key r (k+f)
 |0,p,k,_,hs=>⟨Uf _,rfl,hs⟩
 |f+1,p,k,hz,hs=>by
  intro r;have hr:r=Kd (kl key) (kas_bin (f+1) p k):=rfl;unfold kas_bin at hr;rw[T8]at hr;obtain⟨a1,a2,a3⟩:=OW (key:=key) hs k 0 k (JL _) (Qr _) (by omega) (λi hi=>by omega) (λi h1 h2=>by omega);generalize Kd (kl key) (kas_place p k k 0 k)=l at hr a1 a2 a3;have hk:k<p.size:=by omega
  obtain⟨b1,b2,b3⟩:=Li f (bubble p k (k-l)) (k+1) (by rw[bubble_size];omega) (λi j hij hj=>by
   rw[Hk hk (by omega),Hk hk (by omega),show k-(k-l)=l by omega];by_cases hi:i=l
   .rw[Qq hi]
    by_cases wR:j=l
    .rw[Qq wR];exact JW _
    .rw[Qw wR,Qq (by omega)]
     exact Int.le_of_lt (a3 (j-1) (by omega) (by omega))
   .rw[Qw hi]
    by_cases hi2:l<i/\i<=k
    .rw[Qq hi2,Qw (show ¬j=l by omega),Qq (by omega)]
     exact hs _ _ (by omega) (by omega)
    .rw[Qw hi2]
     by_cases wR:j=l
     .rw[Qq wR];exact a2 i (by omega)
     .rw[Qw wR]
      split
      .exact hs _ _ (by omega) (by omega)
      .exact hs _ _ (by omega) (by omega))
  rw[hr];exact⟨b1.trans (bubble_perm _ _ _),b2.trans (bubble_size _ _ _),by rw[show k+(f+1)=k+1+f by omega];exact b3⟩
theorem qR{n:Nat}(h1:1<=n):let r:=Kd (kl key) (kas_sort n);r.Perm (List.toArray (UA n))/\r.size=n/\srt key r n:=by
 intro r;have hr:r=Kd (kl key) (kas_sort n):=rfl;unfold kas_sort at hr;rw[T8]at hr;have hsz:(List.toArray (UA n)).size=n:=by simp
 obtain⟨a1,a2,a3,a4,a5⟩:=jA (key:=key) (p:=List.toArray (UA n)) (nrem:=n) h1 (by rw[hsz];exact Qr _);generalize Kd (kl key) (kas_count n (List.toArray (UA n)))=d at hr a1 a2 a3 a4 a5;by_cases hlt:d.1<n
 .rw[Qq hlt]at hr
  have hmax:max d.1 1=d.1:=by lia
  rw[hmax]at hr;obtain⟨b1,b2,b3⟩:=Li (key:=key) (n-d.1) d.2 d.1 (by lia) a3;rw[hr];exact⟨b1.trans a1,by lia,by rw[show d.1+(n-d.1)=n by lia]at b3;exact b3⟩
 .rw[Qw hlt]at hr
  unfold Kd at hr;rw[hr];exact⟨a1,by lia,by rw[show d.1=n by lia]at a3;exact a3⟩
noncomputable def Asks{α:Type}(N:Nat)(R:α->Prop):KasT α->Prop
 |.ret a=>R a
 |.ask i j k=>i<N/\j<N/\∀b,Asks N R (k b)
theorem Asks.bind{α β:Type}{N:Nat}{R:α->Prop}{S:β->Prop}{f:α->KasT β}(hf:∀a,R a->Asks N S (f a)):∀{t:KasT α},Asks N R t->Asks N S (t.bind f)
 |.ret a,h=>hf a h
 |.ask _ _ k,⟨h1,h2,h3⟩=>⟨h1,h2,λb=>Asks.bind hf (h3 b)⟩
theorem Lh{α:Type}{lt:Nat->Nat->Bool}{cmp:Nat->Nat->(Bool->Ur->Prop)->Ur->Prop}{s:Ur}{N:Nat}{R:α->Prop}(hc:∀i j C,i<N->j<N->C (lt i j) s->cmp i j C s):∀(t:KasT α)(Q:α->Ur->Prop),Asks N R t->Q (Kd lt t) s->t.kasWp cmp Q s
 |.ret _,_,_,h=>h
 |.ask i j k,Q,⟨h1,h2,h3⟩,h=>hc i j _ h1 h2 (Lh hc (k (lt i j)) Q (h3 _) h)
def bnd(N:Nat)(p:Array Nat):Prop:=∀i,p.getD i 0<N
theorem T3{N:Nat}{p q:Array Nat}(hN:0<N)(h:bnd N p)(e:q.Perm p):bnd N q:=λi=>by
 rw[Jg];cases z:q[i]? with
 |none=>exact hN
 |some v=>have hm:v∈q:=Array.mem_of_getElem? z;have hm2:v∈p:=e.mem_iff.mp hm;obtain⟨j,hj,e2⟩:=Array.mem_iff_getElem.mp hm2;have:=h j;rw[Jg,JS hj,e2]at this;exact this
section
variable{N:Nat}(hN:0<N)
include hN
theorem Ov{p:Array Nat}(h:bnd N p):∀(f n:Nat),Asks N (λ_=>True) (kas_asc p f n)
 |0,_=>trivial
 |f+1,n=>⟨h _,h _,λb=>by
  cases b with
  |true=>(try dsimp only);rw[if_pos xM];trivial
  |false=>(try dsimp only);rw[if_neg (by decide)];exact Ov h f (n+1)⟩
theorem Pb:∀(f:Nat)(p:Array Nat)(n q:Nat),bnd N p->Asks N (λr=>bnd N r.1) (kas_desc f p n q)
 |0,p,_,_,h=>h
 |f+1,p,n,q,h=>⟨h _,h _,λb=>by
  cases b with
  |true=>
   dsimp only;rw[Qq xM];split
   .exact Pb f _ _ _ (T3 hN h Wt)
   .exact Pb f _ _ _ h
  |false=>
   dsimp only;rw[Qw (by decide)];refine⟨h _,h _,λb=>?_⟩;cases b with
   |true=>(try dsimp only);rw[if_pos xM];exact h
   |false=>(try dsimp only);rw[if_neg (by decide)];exact Pb f _ _ _ h⟩
theorem HD{p:Array Nat}{n nrem:Nat}(h:bnd N p):Asks N (λr=>bnd N r.2) (kas_tail3 n nrem p):=
 Asks.bind (N:=N) (R:=λ_=>True) (S:=λr:Nat×Array Nat=>bnd N r.2) (f:=λm=>.ret (m,kas_rev p 0 n)) (λ_ _=>T3 (p:=p) (q:=kas_rev p 0 n) hN h Wt) (Ov hN (T3 hN h Wt) _ _)
theorem Gh{p:Array Nat}{n nrem:Nat}(h:bnd N p):Asks N (λr=>bnd N r.2) (kas_descPart n nrem p):=
 Asks.bind (λr hr=>by
  split
  .exact HD hN (T3 hN hr Wt)
  .exact HD hN hr) (Pb hN _ _ _ _ h)
theorem jz{p:Array Nat}{nrem:Nat}(h:bnd N p):Asks N (λr=>bnd N r.2) (kas_count nrem p):=
 Asks.bind (R:=λ_=>True) (λn _=>by
  split
  .exact h
  .split
   .refine⟨h _,h _,λb=>?_⟩
    cases b with
    |true=>(try dsimp only);rw[if_pos xM];exact h
    |false=>(try dsimp only);rw[if_neg (by decide)];exact Gh hN (T3 hN h Wt)
   .exact Gh hN h) (Ov hN h _ _)
theorem OV{p:Array Nat}(h:bnd N p)(k:Nat):∀(f l r:Nat),Asks N (λ_=>True) (kas_place p k f l r)
 |0,_,_=>trivial
 |f+1,l,r=>by
  unfold kas_place;split
  .trivial
  .refine⟨h _,h _,λb=>?_⟩
   cases b with
   |true=>(try dsimp only);rw[if_pos xM];exact OV h k f _ _
   |false=>(try dsimp only);rw[if_neg (by decide)];exact OV h k f _ _
theorem Lg:∀(f:Nat)(p:Array Nat)(k:Nat),bnd N p->Asks N (λ_=>True) (kas_bin f p k)
 |0,_,_,_=>trivial
 |f+1,p,k,h=>Asks.bind (R:=λ_=>True) (λl _=>Lg f _ _ (T3 hN h (bubble_perm _ _ _))) (OV hN h k _ _ _)
end
theorem qQ{n:Nat}(hn:0<n):Asks n (λ_=>True) (kas_sort n):=by
 have hb:bnd n (List.toArray (UA n)):=λi=>by
  rw[Jg];by_cases hi:i<n
  .simp[hi]
  .simp[hi,hn]
 refine Asks.bind (λr hr=>?_) (jz hn hb);split
 .exact Lg hn _ _ _ hr
 .trivial
end
noncomputable def Kr(q:Int×Int):Int:=q.1*10000000+q.2
def okP(q:Int×Int):Prop:=-1000000<=q.2/\q.2<=1000000
theorem DZ{x y:Int×Int}(hx:okP x)(hy:okP y):Kr x<Kr y ↔ (x.1<y.1∨x.1=y.1/\x.2<y.2):=by
 unfold Kr okP at *
 lia
theorem AV{x y:Int×Int}(hx:okP x)(hy:okP y)(h:Kr x=Kr y):x=y:=by
 unfold Kr okP at *;have h1:x.1=y.1:=by lia
 have h2:x.2=y.2:=by lia
 exact Prod.ext h1 h2
section
variable{prog:Us}{w:World}{A:Around}{E:Uq->Ur->Prop}{s:Ur}
def Rr(h:Heap)(v:Uq)(q:Int×Int):Prop:=∃a t u o n,v=.ref a/\h.get? a=O o/\o.cls=.type "tuple" /\ o.data=.seq #[.int q.1 t,.int q.2 u] n
theorem DY{x y:Uq}{p q:Int×Int}{Q:Bool->Ur->Prop}(hx:Rr s.heap x p)(hy:Rr s.heap y q)(h:Q (decide (p.1<q.1∨p.1=q.1/\p.2<q.2)) s):Ux (model prog w) A (keyLt' (tuples' xO) x y) Q E s:=by
 obtain⟨a,t,u,o,n,rfl,e1,c1,d1⟩:=hx;obtain⟨b,t',u',o',n',rfl,e2,c2,d2⟩:=hy;refine kat_lt e1 d1 e2 d2 ?_;show KatLex prog w A xO _ Q [(Value.int p.1 t,Value.int q.1 t'),(Value.int p.2 u,Value.int q.2 u')] 0 s;refine kat_cons (wpAny_eqBool_int ?_);by_cases h1:p.1=q.1
 .have e:(p.1==q.1)=xO:=by simpa using h1
  rw[e];refine kat_yes (kat_cons (wpAny_eqBool_int ?_));by_cases h2:p.2=q.2
  .have e:(p.2==q.2)=xO:=by simpa using h2
   rw[e];refine kat_yes (kat_nil ?_);have:decide (p.1<q.1∨p.1=q.1/\p.2<q.2)=xP:=QN (by lia);rw[this]at h;exact h
  .have e:(p.2==q.2)=xP:=by simpa using h2
   rw[e];refine kat_no (kat_one _ _ (PyProof.Rows.lt_int ?_))
   have:decide (p.1<q.1∨p.1=q.1/\p.2<q.2)=decide (p.2<q.2):=by
    by_cases z:p.2<q.2
    .rw[QW z,QW (.inr ⟨h1,z⟩)]
    .rw[QN z,QN (by lia)]
   rw[this]at h;exact h
 .have e:(p.1==q.1)=xP:=by simpa using h1
  rw[e];refine kat_no (oneLt_int ?_)
  have:decide (p.1<q.1∨p.1=q.1/\p.2<q.2)=decide (p.1<q.1):=by
   by_cases z:p.1<q.1
   .rw[QW z,QW (.inl z)]
   .rw[QN z,QN (by lia)]
  rw[this]at h;exact h
noncomputable def Ys(h:Heap):xS->LP->Prop
 |[],[]=>True
 |v::vs,q::qs=>Rr h v q/\Ys h vs qs
 |_,_=>False
theorem Ys.get{h:Heap}:∀{vs:xS}{qs:LP},Ys h vs qs->vs.length=qs.length/\∀(i:Nat)(hi:i<vs.length),Rr h (vs.getD i .none) (qs.getD i (0,0))
 |[],[],_=>⟨rfl,λi hi=>absurd hi (Nat.not_lt_zero _)⟩
 |v::vs,q::qs,⟨h1,h2⟩=>by
  obtain⟨e,f⟩:=Ys.get h2;refine⟨by simp[e],λi hi=>?_⟩;cases i with
  |zero=>exact h1
  |succ i=>exact f i (by simpa using hi)
theorem Ys.tups{h:Heap}:∀{vs:xS}{qs:LP},Ys h vs qs->∃fs:xS,KatTups h vs fs/\fs.length=vs.length/\∀v∈fs,∃i t,v=.int i t
 |[],[],_=>⟨[],trivial,rfl,λ_ h=>by cases h⟩
 |v::vs,q::qs,⟨hp,h2⟩=>by
  obtain⟨a,t,u,o,n,rfl,e1,c1,d1⟩:=hp;obtain⟨fs,f1,f2,f3⟩:=Ys.tups h2;refine⟨.int q.1 t::fs,.cons e1 c1 d1 xM f1,by simp[f2],λv hv=>?_⟩;rcases QC.mp hv with rfl|hv
  .exact⟨_,_,rfl⟩
  .exact f3 v hv
theorem Ys.mono{h h':Heap}(k:∀b o,h.get? b=O o->h'.get? b=O o):∀{vs:xS}{qs:LP},Ys h vs qs->Ys h' vs qs
 |[],[],_=>trivial
 |v::vs,q::qs,⟨hp,h2⟩=>by obtain⟨a,t,u,o,n,rfl,e1,c1,d1⟩:=hp;exact⟨⟨a,t,u,o,n,rfl,k _ _ e1,c1,d1⟩,Ys.mono k h2⟩
def Ro(qs:LP)(π:xY):Prop:=π.Perm (UA qs.length)/\(π.map λi=>qs.getD i (0,0)).Pairwise λx y=>Kr x<=Kr y
theorem xu{a:Ut}{vs:xS}{qs:LP}{n:Nat}{P:Fin->Ur->Prop}(ho:s.heap.get? a=O (seqObj "list" vs.toArray n))
  (hp:Ys ((s.heap.update a (Obj.mapSeq λ_=>#[]))) vs qs) (hq:∀q∈qs,okP q) (h64:vs.length<64)
  (h:∀π:xY,Ro qs π->P (.done (.ret .none)) {s with heap:=sortedHeap s.heap a vs (List.toArray (π.map λi=>vs.getD i .none))}) :
  Ux (model prog w) A (Builtin.«list.sort» ⟨[.ref a],[]⟩) P E s:=by
 obtain⟨hl,hget⟩:=hp.get;rw[list_sort_plain];have ha:a<s.heap.objs.size:=Qi ho;refine Qd (listItems_at ho xM ?_);refine Qd (listUpdate_at ho xM ?_);obtain⟨e1,ho1⟩:∃e1,(s.heap.update a (Obj.mapSeq λ_=>#[])).get? a=O (seqObj "list" #[] e1):=⟨_,get?_update_seq ho (λ_=>#[])⟩
 refine Qd (seqEpoch_at ho1 xM ?_);refine Qd (wpAny_newTuple ?_);refine Qd (wpAny_newList ?_);refine wpAny_holding ?_;have ho6:(((s.heap.update a (Obj.mapSeq λ_=>#[])).push (seqObj "tuple" vs.toArray 0)).push (seqObj "list" #[] 0)).get? a=O (seqObj "list" #[] e1):=by rw[Heap.get?_push_ne _ _ _ (by rw[size_push',Heap.size_update];exact QS (Nat.lt_succ_of_lt ha)),Heap.get?_push_ne _ _ _ (by rw[Heap.size_update];exact QS ha)];exact ho1
 have hp6:Ys (((s.heap.update a (Obj.mapSeq λ_=>#[])).push (seqObj "tuple" vs.toArray 0)).push (seqObj "list" #[] 0)) vs qs:=hp.mono λb o e=>Qg _ (Qg _ e)
 show Ux (model prog w) A _ P E {s with heap:=((s.heap.update a (Obj.mapSeq λ_=>#[])).push (seqObj "tuple" vs.toArray 0)).push (seqObj "list" #[] 0)};dsimp only;have hsz:vs.toArray.size=vs.length:=by simp
 by_cases h2:vs.toArray.size<2
 .rw[Qq h2,Qq h2]
  refine Qd (Qm ?_);rw[StateT.run_pure];refine Qd (Qm ?_);dsimp only;refine Qd (seqEpoch_at ho6 xM ?_);refine Qd (listUpdate_at ho6 xM ?_ (hsz2:=by rw[Array.size_map];show(pairsOf vs).size<=_;rw[pairsOf_size,Jy];lia));simp only[bne_self_eq_false,JF,Uo]
  have hid:(arrOf (SortSt.mk' general' (vs.toArray.zip vs.toArray) #[] 7 xN)).map (·.2)=List.toArray ((UA vs.length).map λi=>vs.getD i .none):=by
   show(vs.toArray.zip vs.toArray).map (·.2)=_
   apply Array.toList_inj.mp;apply J9;intro i;simp only[Array.toList_map,Array.toList_zip,Qp,List.getElem?_zip_eq_some];by_cases hi:i<vs.length
   .simp[List.getElem?_zip_eq_some,hi,List.getElem?_range]
   .simp[hi]
  rw[hid];refine Qm (h (UA vs.length) ⟨by rw[hl],?_⟩);rw[List.pairwise_map];rw[hsz]at h2
  rcases(show vs.length=0∨vs.length=1 by lia)with z|z<;>rw[z]
  .exact .nil
  .exact List.pairwise_singleton _ _
 .rw[Qw h2,Qw h2]
  rw[hsz]at h2;obtain⟨fs,f1,f2,f3⟩:=hp6.tups;refine Qd (kat_kind (T:=.type "int") f1 (by lia) (λv hv=>by obtain⟨i,t,rfl⟩:=f3 v hv;exact(show Looks _ _ (pure (Value.type "int")) _ from .now)) xM ?_)
  refine Qd (QP (kat_run (ks:=vs) (G:=λp s'=>s' = {s with heap:=((s.heap.update a (Obj.mapSeq λ_=>#[])).push (seqObj "tuple" vs.toArray 0)).push (seqObj "list" #[] 0)}/\p=Kd (kl λi=>Kr (qs.getD i (0,0))) (kas_sort vs.length))
   (Q:=λst' s'=>s' = {s with heap:=((s.heap.update a (Obj.mapSeq λ_=>#[])).push (seqObj "tuple" vs.toArray 0)).push (seqObj "list" #[] 0)}/\failedOf st'=xN/\arrOf st'=(Kd (kl λi=>Kr (qs.getD i (0,0))) (kas_sort vs.length)).map (kas_item (vs.toArray.zip vs.toArray)))
   rfl (by lia) h64 (λp st' s' a1 a2 a3 a4=>⟨a4.1,a3,by rw[a2,a4.2]⟩) ?_) ?_ λ_ _ e=>e)
  .refine Lh (N:=vs.length) (R:=λ_=>True) (lt:=kl λi=>Kr (qs.getD i (0,0))) (λi j C hi hj hC=>?_) _ _ (qQ (by lia)) ⟨rfl,rfl⟩
   refine DY (Ys.get hp6 |>.2 i hi) (Ys.get hp6 |>.2 j hj) ?_;have oi:okP (qs.getD i (0,0)):=hq _ (by rw[Jj,Qe (by lia)];exact Jx _);have oj:okP (qs.getD j (0,0)):=hq _ (by rw[Jj,Qe (by lia)];exact Jx _);have e:decide ((qs.getD i (0,0)).1<(qs.getD j (0,0)).1∨(qs.getD i (0,0)).1=(qs.getD j (0,0)).1/\(qs.getD i (0,0)).2<(qs.getD j (0,0)).2)=kl (λi=>Kr (qs.getD i (0,0))) i j:=by unfold kl;exact JZ.mpr (DZ oi oj).symm
   rw[e];exact hC
  .rintro⟨⟨⟩,st'⟩ s' ⟨rfl,hf,har⟩
   dsimp only;obtain⟨b1,b2,b3⟩:=qR (key:=λi=>Kr (qs.getD i (0,0))) (n:=vs.length) (by lia);generalize Kd (kl λi=>Kr (qs.getD i (0,0))) (kas_sort vs.length)=p at har b1 b2 b3;have hout:=kat_snds (ks:=vs) (vs:=vs) xM har;have hsz2:((arrOf st').map (·.2)).size=vs.length:=by rw[hout,QQ,Qb,Ue,b2]
   refine Qd (seqEpoch_at ho6 xM ?_);refine Qd (listUpdate_at ho6 xM ?_ (hsz2:=by rw[hsz2,Jy];lia));rw[hf];simp only[bne_self_eq_false,JF,Uo];rw[hout];refine Qm (h p.toList ⟨?_,?_⟩)
   .have:=Array.perm_iff_toList_perm.mp b1
    rw[←hl];exact this
   .rw[List.pairwise_map,List.pairwise_iff_getElem]
    intro i j hi hj hij;rw[Ue,b2]at hi hj;have:=b3 i j (by lia) hj;unfold KA at this;rw[Jg,Jg,JS (by lia),JS (by lia)]at this;simpa using this
end
section
variable{prog:Us}{w:World}{A:Around}{E:Uq->Ur->Prop}{s:Ur}
theorem xa{l:Ut}{vs:xS}{qs:LP}{Q:Uq->Ur->Prop}(hl:s.heap.IsList l vs.toArray)(hp:Ys s.heap vs qs)(hq:∀q∈qs,okP q)(h64:vs.length<64)
  (h:∀π:xY,Ro qs π->Q (.ref (s.heap.objs.size+1)) {s with heap:=sortedAll s.heap vs (List.toArray (π.map λi=>vs.getD i .none))}) :
  Ux (model prog w) A (call (.builtin "sorted") [.ref l]) Q E s:=by
 refine Calls.call_function_entry kind_sorted plain_sorted entry_sorted (args_sorted1 _) ?_;unfold Builtin.«sorted»;refine Qd (m:=checkCount "sorted" 1 1 _) (Qm ?_);refine Qd (collect_list hl ?_);refine Qd (wpAny_newList ?_);have hsz:((s.heap.push (seqObj "list" #[] 0)).update s.heap.objs.size (Obj.mapSeq (· ++ vs.toArray))).objs.size=s.heap.objs.size+1:=by rw[Heap.size_update,size_push']
 have w6:(((s.heap.push (seqObj "list" #[] 0)).update s.heap.objs.size (Obj.mapSeq (· ++ vs.toArray))).push (seqObj "list" vs.toArray 0)).get? (s.heap.objs.size+1)=O (seqObj "list" vs.toArray 0):=by rw[←hsz];exact QD _ xM
 show Ux _ _ _ _ _ {s with heap:=((s.heap.push (seqObj "list" #[] 0)).update s.heap.objs.size (Obj.mapSeq (· ++ vs.toArray))).push (seqObj "list" vs.toArray 0)};rw[hsz];refine Qd (wpAny_holding (wpAny_call_entry slot_list_sort ⟨_,w6,rfl⟩ entry_list_sort (xu (qs:=qs) w6 (hp.mono λb o e=>?_) hq h64 λπ a1=>⟨_,rfl,?_⟩) (args_list_sort _)))
 .have hlt:b<s.heap.objs.size:=Qi e
  dsimp only;have w9:(b:Nat)<s.heap.objs.size:=hlt;rw[Heap.get?_update_ne _ _ _ _ (QS (Nat.lt_succ_of_lt w9)),Heap.get?_push_ne _ _ _ (by rw[hsz];exact QS (Nat.lt_succ_of_lt w9)),Heap.get?_update_ne _ _ _ _ (QS hlt),Heap.get?_push_ne _ _ _ (QS hlt)];exact e
 .exact Qm ⟨_,rfl,h π a1⟩
end
end DL
namespace DL
open PySem PySem.Spec L2
open PyProof.Rows hiding St
section
variable{X:Cx}
theorem Lf{pins:List (Ut×Obj)}{s:Ur}{σ:St}{H:Hp}(I:Inv X pins σ H s):∀{as:xW}{us:xS}{qs:LP},Vals (as.map V.ref) us->as.length=qs.length->(∀(i:Nat) a q,as[i]?=O a->qs[i]?=O q->SqT X.K H a [.int q.1,.int q.2])->Ys s.heap us qs
 |[],_,[],.nil,_,_=>trivial
 |a::as,_,q::qs,.cons r t,hl,h=>by refine⟨?_,Lf I t (by simpa using hl) λi a q h1 h2=>h (i+1) a q (by simpa using h1) (by simpa using h2)⟩;cases r;obtain⟨its,rv,⟨o,e,c,n,d⟩,_⟩:=I.tuple (h 0 a q xM xM);obtain⟨u,v,rfl,r1,r2⟩:=rv.two;obtain⟨t1,rfl⟩:=r1;obtain⟨t2,rfl⟩:=r2;exact⟨a,t1,t2,o,n,rfl,e,c,by simpa using d⟩
theorem Hj{as:xW}{us:xS}(r:Vals (as.map V.ref) us):∀(π:xY),(∀i∈π,i<as.length)->Vals (π.map λi=>V.ref (as.getD i 0)) (π.map λi=>us.getD i .none)
 |[],_=>.nil
 |i::π,h=>by
  refine .cons ?_ (Hj r π λj hj=>h j (Qh _ hj));have hi:=h i Qf;have e:(as.map V.ref)[i]?=O (.ref (as.getD i 0)):=by rw[List.getElem?_map,List.getElem?_eq_getElem hi];simp[List.getD,List.getElem?_eq_getElem hi]
  obtain⟨u,e2,ru⟩:=r.get e;simp only[List.getD,e2,JY];exact ru
theorem jw:ZS X (.builtin "sorted") (λxs H Q=>∃l,∃as:xW,∃qs:LP,xs=[.ref l]/\SqL X.K H l (as.map V.ref)/\as.length=qs.length/\(∀(i:Nat) a q,as[i]?=O a->qs[i]?=O q->SqT X.K H a [.int q.1,.int q.2])/\(∀q∈qs,okP q)/\qs.length<64 /\
  ∀π p,Ro qs π->H p=xN->Q (.ref p) (upd H p (.lst (π.map λi=>V.ref (as.getD i 0))))):=by
 intro pins s σ H xs us Q I rx h;obtain⟨l,as,qs,rfl,hq,hl,ht,ho,hb,q⟩:=h;obtain⟨u,rfl,ru⟩:=rx.one;cases ru;obtain⟨its,rv,p,hz⟩:=I.list hq;have hn:its.length=qs.length:=by have:=rv.length;rw[Qb]at this;lia
 refine xa (qs:=qs) p.isList (Lf I rv hl ht) ho (by lia) λπ hπ=>?_
 obtain⟨e,he⟩:=sortedAll_at s.heap its (List.toArray (π.map λi=>its.getD i .none))
 have hπl:∀i∈π,i<as.length:=λi hi=>by
  have:=hπ.1.mem_iff.mp hi;rw[Jl]at this
  lia
 refine⟨.ref (s.heap.objs.size+1),_,I.laid (t':=s.toks) (λb o=>sortedAll_old) (Jp _) (show Zj X.prog X.w _ _ _ (.lst (π.map λi=>V.ref (as.getD i 0)))from⟨?_,_,e,Hj rv π hπl,he⟩),rfl,q π _ hπ (I.hok.fresh (Jp _))⟩;rw[Qb,hπ.1.length_eq,Q5];rw[Qb]at hz
 lia
noncomputable def Rq:D->Option (Int×Int)
 |.tuple [.int a,.int b]=>O (a,b)
 |_=>xN
noncomputable def TZ:xQ->Option LP
 |[]=>O []
 |d::r=>(Rq d).bind λq=>(TZ r).map (q :: ·)
noncomputable def YA(q:Int×Int):D:=.tuple [.int q.1,.int q.2]
theorem qP{d:D}{q:Int×Int}(h:Rq d=O q):d=YA q:=by
 unfold Rq at h;split at h
 .cases h;rfl
 .cases h
theorem HU:∀{ds:xQ}{qs:LP},TZ ds=O qs->ds=qs.map YA
 |[],qs,h=>by cases h;rfl
 |d::r,qs,h=>by
  unfold TZ at h;cases z:Rq d with
  |none=>rw[z]at h;cases h
  |some q=>
   rw[z]at h;cases z2:TZ r with
   |none=>rw[z2]at h;cases h
   |some qs'=>rw[z2]at h;cases h;rw[qP z,HU z2];rfl
noncomputable def Sm(qs:LP):LP:=qs.mergeSort λx y=>decide (Kr x<=Kr y)
theorem jv(qs:LP):(Sm qs).Perm qs:=List.mergeSort_perm ..
theorem jl(qs:LP):(Sm qs).Pairwise λx y=>Kr x<=Kr y:=by have:=List.pairwise_mergeSort (le:=λx y:Int×Int=>decide (Kr x<=Kr y)) (by intro a b c;simp;lia) (by intro a b;simp;lia) qs;exact this.imp (by simp)
theorem LR:∀{a b:LP},(∀x∈a,okP x)->a.Perm b->a.Pairwise (λx y=>Kr x<=Kr y)->b.Pairwise (λx y=>Kr x<=Kr y)->a=b
 |[],b,_,p,_,_=>by rw[List.nil_perm.1 p]
 |x::a,[],_,p,_,_=>by have:=p.length_eq;simp at this
 |x::a,y::b,ok,p,ha,hb=>by
  have hx:Kr y<=Kr x:=by
   rcases QC.1 (p.mem_iff.1 (Qf ..))with e|e
   .rw[e];exact JW _
   .exact(Ju.1 hb).1 x e
  have hy:Kr x<=Kr y:=by
   rcases QC.1 (p.mem_iff.2 (Qf ..))with e|e
   .rw[e];exact JW _
   .exact(Ju.1 ha).1 y e
  have oky:okP y:=ok y (p.mem_iff.2 (Qf ..));have e:=AV (ok x (Qf ..)) oky (Int.le_antisymm hy hx);subst e;rw[LR (λz hz=>ok z (Qh _ hz)) (List.Perm.cons_inv p) (Ju.1 ha).2 (Ju.1 hb).2]
theorem AU{qs:LP}{π:xY}(ok:∀q∈qs,okP q)(h:Ro qs π):(π.map λi=>qs.getD i (0,0))=Sm qs:=by
 have hp:(π.map λi=>qs.getD i (0,0)).Perm qs:=by
  have h1:=h.1.map λi=>qs.getD i (0,0)
  have e:(UA qs.length).map (λi=>qs.getD i (0,0))=qs:=by
   apply J9;intro i;rw[Qp];by_cases hi:i<qs.length
   .rw[List.getElem?_range hi,List.getElem?_eq_getElem hi];simp[List.getD,List.getElem?_eq_getElem hi]
   .rw[Jd (by rw[Q5];lia),Jd (by lia)];rfl
  rw[e]at h1;exact h1
 exact LR (λx hx=>ok x (hp.mem_iff.mp hx)) (hp.trans (jv qs).symm) h.2 (jl qs)
noncomputable def okPB(q:Int×Int):Bool:=decide (-1000000<=q.2/\q.2<=1000000)
noncomputable def RE:xQ->xT
 |[.list ds]=>(match TZ ds with
  |some qs=>if qs.length<64/\qs.all okPB=xO then O (.list ((Sm qs).map YA))else xN
  |none=>xN)
 |_=>xN
theorem ju{xs:xQ}{d:D}(h:RE xs=O d):∃qs:LP,xs=[.list (qs.map YA)]/\qs.length<64/\(∀q∈qs,okP q)/\d=.list ((Sm qs).map YA):=by
 unfold RE at h;split at h
 .rename_i ds
  cases z:TZ ds with
  |none=>rw[z]at h;cases h
  |some qs=>
   rw[z]at h;dsimp only at h;split at h
   .rename_i c
    cases h;exact⟨qs,by rw[HU z],c.1,λq hq=>(show -1000000<=q.2/\q.2<=1000000 from Qa (Q3.mp c.2 q hq)),rfl⟩
   .cases h
 .cases h
theorem Hi{K:Frag}{G:Hp}:∀{vs:List V}{qs:LP},Reps K G vs (qs.map YA)->∃as:xW,vs=as.map V.ref/\as.length=qs.length/\∀(i:Nat) a q,as[i]?=O a->qs[i]?=O q->SqT K G a [.int q.1,.int q.2]
 |_,[],.nil=>⟨[],rfl,rfl,λi a q h=>by simp at h⟩
 |_,q::qs,.cons r t=>by
  obtain⟨as,rfl,hl,h⟩:=Hi t;obtain⟨a,ws,rfl,h1,r1⟩:=r.tup_inv;cases r1 with
  |cons ra rb=>
   obtain⟨v,rfl,rb'⟩:=rb.one_inv;refine⟨a::as,rfl,by simp[hl],λi a' q' e1 e2=>?_⟩;cases i with
   |zero=>cases e1;cases e2;rw[ra.int_inv,rb'.int_inv]at h1;exact h1
   |succ i=>exact h i a' q' (by simpa using e1) (by simpa using e2)
theorem AT{K:Frag}{G:Hp}{a:Ut}{q:Int×Int}(h:SqT K G a [.int q.1,.int q.2]):Rep K G (.ref a) (YA q):=.tup h (.cons (.int _) (.cons (.int _) .nil))
theorem Hh{K:Frag}{G:Hp}{as:xW}{qs:LP}(hl:as.length=qs.length)(h:∀(i:Nat) a q,as[i]?=O a->qs[i]?=O q->SqT K G a [.int q.1,.int q.2]):∀π:xY,(∀i∈π,i<qs.length)->Reps K G (π.map λi=>V.ref (as.getD i 0)) ((π.map λi=>qs.getD i (0,0)).map YA)
 |[],_=>.nil
 |i::π,hb=>by
  refine .cons ?_ (Hh hl h π λj hj=>hb j (Qh _ hj));have hi:=hb i Qf;refine AT (h i _ _ ?_ ?_)
  .rw[List.getElem?_eq_getElem (by lia)];simp[List.getD,List.getElem?_eq_getElem (show i<as.length by lia)]
  .rw[List.getElem?_eq_getElem hi];simp[List.getD,List.getElem?_eq_getElem hi]
theorem DX:Yk X (.builtin "sorted") RE:=by refine⟨_,jw,λvs G H ds d Q s r e k=>?_⟩;obtain⟨qs,rfl,h64,ok,rfl⟩:=ju e;obtain⟨v,rfl,q1⟩:=r.one_inv;obtain⟨l,ws,rfl,h1,r1⟩:=q1.lst_inv;obtain⟨as,rfl,hl,ht⟩:=Hi r1;refine⟨l,as,qs,rfl,s.seq h1,hl,λi a q e1 e2=>YE s (ht i a q e1 e2),ok,h64,λπ p hπ hp=>?_⟩;have hb:∀i∈π,i<qs.length:=λi hi=>Jl.mp (hπ.1.mem_iff.mp hi);have rr:=(Hh hl ht π hb).mono (Zd (s.free hp):Same G (upd G p (.lst (π.map λi=>V.ref (as.getD i 0)))));rw[AU ok hπ]at rr;exact k _ _ _ (Ext.new s hp) (.lst (SqL.of Ks) rr)
theorem Yk.or{f:Uq}{p q:xQ->xT}(h1:Yk X f p)(h2:Yk X f q):Yk X f (λxs=>(p xs).orElse λ_=>q xs):=by
 obtain⟨r1,c1,k1⟩:=h1;obtain⟨r2,c2,k2⟩:=h2;refine⟨λxs H Q=>r1 xs H Q∨r2 xs H Q,λpins s σ H xs us Q I rx h=>?_,λvs G H ds d Q s r e k=>?_⟩
 .rcases h with h|h
  .exact c1 pins s σ H xs us Q I rx h
  .exact c2 pins s σ H xs us Q I rx h
 .dsimp only at e
  cases z:p ds with
  |some d'=>rw[z]at e;cases e;exact .inl (k1 vs G H ds _ Q s r z k)
  |none=>rw[z]at e;exact .inr (k2 vs G H ds _ Q s r e k)
noncomputable def Rn(xs:xQ):xT:=(TL xs).orElse λ_=>RE xs
theorem EM:Yk X (.builtin "sorted") Rn:=D8.or DX
theorem jt{ns:xR}(h:ns.length<64):Rn [.list (ns.map .int)]=O (.list ((YU ns).map .int)):=by unfold Rn;rw[qX h];rfl
end
section
variable{X:Cx}
noncomputable def Vv:xQ->xT
 |[d]=>if d.canLay0=xO/\d.showable=xO/\d.hasDict=xP/\d.depth<=50/\d.shown.length<=1000000 then O (.str d.shown)else xN
 |_=>xN
theorem jk(hu:X.A.units+64<cLine)(hg:X.A.guards=O []):ZS X (.builtin "repr") (λxs H Q=>∃G v d,xs=[v]/\Same G H/\Rep X.K G v d/\d.canLay0=xO/\d.showable=xO/\d.hasDict=xP/\d.depth<=50/\d.shown.length<=1000000/\Q (.str d.shown) H):=by
 intro pins s σ H xs us Q I rx h;obtain⟨G,v,d,rfl,sg,r,c1,c2,c3,c4,c5,q⟩:=h;obtain⟨u,rfl,ru⟩:=rx.one;obtain⟨as,ra⟩:=Vf I sg r ru c1;have fin:∀h'(t:Tok) tk,(∀b o,s.heap.get? b=O o->h'.get? b=O o)->EP X pins σ Q (.str d.shown t) {s with heap:=h',toks:=tk}:=λh' t tk hk=>⟨.str d.shown,H,I.kept hk,⟨t,rfl⟩,q⟩
 cases r with
 |non=>cases ru;exact P.repr_of_none (fin s.heap _ _ λ_ _ e=>e)
 |bl b=>cases ru;exact P.repr_of_bool (fin s.heap _ _ λ_ _ e=>e)
 |int i=>obtain⟨t,rfl⟩:=ru;exact P.repr_of_int (by have:(int i).showable=xO:=c2;simpa[PyData.showable]using this) (fin s.heap _ _ λ_ _ e=>e)
 |str x=>obtain⟨t,rfl⟩:=ru;exact P.repr_of_str (fin s.heap _ _ λ_ _ e=>e) (Qt c5 lim)
 |lst h r=>cases ru;exact repr_of_reads' ra c2 (λz=>by rw[c3]at z;cases z) hg (by lia) (λ_ _ e=>e) (λh' t tk hk=>fin h' t tk hk) (Qt c5 lim)
 |tup h r=>cases ru;exact repr_of_reads' ra c2 (λz=>by rw[c3]at z;cases z) hg (by lia) (λ_ _ e=>e) (λh' t tk hk=>fin h' t tk hk) (Qt c5 lim)
 |dic h=>cases c1
 |exc _ _ _ _=>cases c1
 |dct _ _ _ _ _=>cases c1
 |dtt _ _ _ _=>cases c1
theorem EL(hu:X.A.units+64<cLine)(hg:X.A.guards=O []):Yk X (.builtin "repr") Vv:=by
 refine⟨_,jk hu hg,λvs G H ds d Q s r e k=>?_⟩;unfold Vv at e;split at e
 .split at e
  .rename_i x c
   cases e;obtain⟨v,rfl,q1⟩:=r.one_inv;exact⟨G,v,_,rfl,s,q1,c.1,c.2.1,c.2.2.1,c.2.2.2.1,c.2.2.2.2,k _ G H (.refl s) (.str _)⟩
  .cases e
 .cases e
theorem js:bootBuiltins "repr" = O (.builtin "repr"):=by decide +kernel
theorem AS{d:D}(c:d.canLay0=xO/\d.showable=xO/\d.hasDict=xP/\d.depth<=50/\d.shown.length<=1000000):Vv [d]=O (.str d.shown):=by unfold Vv;exact Qq c
end
section
variable{X:Cx}{B G0:Hp}{e o a b c tg:Uv}{pos p2:Pos}{es rest:xU}{te to ti:TE}
noncomputable def Vu{β:Type}(p:D->D->Option β)(f:M D)(j:Nat):M β:=U2 f λx=>λρ=>match ρ[j]? with
 |some (O (.pub d))=>U1 (p x d) ρ
 |some (O (.own ds))=>U1 (p x (.list ds)) ρ
 |_=>.bad
theorem Nz{K:Frag}{σ:St}{H:Hp}{p:D->D->vb}{r:R2}{j:Nat}{f:M D}{Q:Bool->Hp->Prop}{QV:VK}(hq:∀t H3,Q t H3->QV (.bl t) H3)
  (hr:∀v u G H x y d Q,Same G H->Rep K G v x->Rep K G u y->p x y=O d->Q (.bl d) H->r v u H Q)
  (q:tBo K B G0 (Vu p f j) σ H Q):tD K B G0 f σ H λx H1=>Kl j σ H1 λy H2=>r x y H2 QV:=by
 refine tM.one (R:=Rep K) q λv H2 G ρ x k rx a=>?_
 cases z:ρ[j]? with
 |none=>rw[z]at a;exact a.elim
 |some o=>
  cases o with
  |none=>rw[z]at a;exact a.elim
  |some sl=>
   cases sl with
   |deep _ _=>rw[z]at a;exact a.elim
   |pub d=>rw[z]at a;dsimp only at a;obtain⟨d',e',a'⟩:=aft.opt a;obtain⟨u,h1,h2⟩:=k.pub j d z;exact⟨u,h1,hr v u G H2 x d d' _ k.gh rx h2 e' (hq _ _ (a' d' G H2 k (.refl _) xM))⟩
   |own ds=>rw[z]at a;dsimp only at a;obtain⟨d',e',a'⟩:=aft.opt a;obtain⟨ad,vs,h1,h2,h3,h4,h5⟩:=k.own j ds z;exact⟨.ref ad,h1,hr v (.ref ad) H2 H2 x (.list ds) d' _ (.refl _) (rx.mono k.gh) (.lst (SqL.of h4) (h5.mono k.gh)) e' (hq _ _ (a' d' G H2 k (.refl _) xM))⟩
theorem DW{op:CmpOp}{p:D->D->vb}{j:Nat}{f:M D}(o:OpB X (Uz op) p)(ha:PE X a (tD X.K B G0 f))(hb:PE X b (Kl j))(hm:behindInMarks op b=xP) :
  PT X (.Compare a [op] [b] pos) (tBo X.K B G0 (Vu p f j)):=by
 obtain⟨r,h,i⟩:=o;exact Yc (P5 h ha hb hm) λσ H Q q=>Nz (λt H3 z=>⟨t,rfl,z⟩) i q
theorem DV{op:CmpOp}{p:D->D->vb}{j:Nat}{f:M D}(o:OpB X (Uz op) p)(ha:PE X a (tD X.K B G0 f))(hb:PE X b (Kl j))(hm:behindInMarks op b=xP) :
  PE X (.Compare a [op] [b] pos) (tD X.K B G0 (U3 UD (Vu p f j))):=by
 obtain⟨r,h,i⟩:=o;exact Kb (M8 h ha hb hm) λσ H Q q=>Nz (λt H3 z=>z) i (tBo.val q)
theorem LQ{β:Type}{p:D->D->Option β}{f:M D}{j:Nat}{ρ ρ1:UQ}{x:D}{ds:xQ}{r:β}(h1:f ρ=.ok x ρ1)(h2:ρ1[j]?=O (O (.own ds)))(h3:p x (.list ds)=O r):Vu p f j ρ=.ok r ρ1:=by unfold Vu;exact KM h1 (by rw[h2];exact ZG h3)
end
noncomputable def Sx(ρ:UQ)(j:Nat):xT:=match ρ[j]? with
 |some (O (.pub d))=>O d
 |some (O (.own ds))=>O (.list ds)
 |some (O (.deep _ d))=>O d
 |_=>xN
theorem EOk.tree{K:Frag}{B G0 G H:Hp}{σ:St}{ρ:UQ}{j:Nat}{d:D}(k:EOk K B G0 G H σ ρ)(h:Sx ρ j=O d):∃v,σ[j]?=O (O v)/\Rep K H v d:=by
 unfold Sx at h;split at h
 .rename_i d' e
  cases h;obtain⟨v,h1,h2⟩:=k.pub j _ e;exact⟨v,h1,h2.mono k.gh⟩
 .rename_i ds e
  cases h;obtain⟨a,vs,h1,h2,h3,h4,h5⟩:=k.own j ds e;exact⟨.ref a,h1,.lst (SqL.of h4) (h5.mono k.gh)⟩
 .rename_i p d' e
  cases h;obtain⟨ω,k1,k2⟩:=k.dp;obtain⟨v,fp,s,r,_⟩:=k1 j p _ e;exact⟨v,s,r.rep k.gh⟩
 .cases h
end DL
namespace HT
open PySem PyProof.Rows
end HT
namespace DL
open PySem PySem.Spec L2
open PyProof.Rows hiding St
section
variable{X:Cx}
noncomputable def TB(x y:D):Option xQ:=match x,y with
 |.list xs,.int k=>if -1000000<=k/\k<=1000000/\xs.length*k.toNat<=1000000 then O (UB k.toNat xs).flatten else xN
 |_,_=>xN
theorem jj{x y:D}{ds:xQ}(h:TB x y=O ds):∃xs k,x=.list xs/\y=.int k/\(-1000000<=k/\k<=1000000/\xs.length*k.toNat<=1000000)/\ds=(UB k.toNat xs).flatten:=by
 unfold TB at h;split at h
 .split at h
  .rename_i xs k c
   cases h;exact⟨xs,k,rfl,rfl,c,rfl⟩
  .cases h
 .cases h
noncomputable def Sk(f g:M D):M xQ:=U2 f λx=>U2 g λy=>U1 (TB x y)
theorem M6{f g:M D}(ha:PE X a (tD X.K B G0 f))(hb:PE X b (tD X.K B G0 g)):PE X (.BinOp a .Mult b pos) (tL X.K B G0 (Sk f g)):=
 Kb (Pz MR ha hb) λσ H Q ⟨G,ρ,k,q⟩=>by
  refine⟨G,ρ,k,?_⟩;unfold Sk U2 at q;cases z:f ρ with
  |bad=>rw[z]at q;exact q.elim
  |ok x ρ1=>
   rw[z]at q;dsimp only at q;intro v G1 H1 k1 s1 r1;refine⟨G1,ρ1,k1,?_⟩;cases z2:g ρ1 with
   |bad=>rw[z2]at q;exact q.elim
   |ok y ρ2=>
    rw[z2]at q;dsimp only[U1]at q;intro u G2 H2 k2 s2 r2;cases z3:TB x y with
    |none=>rw[z3]at q;exact q.elim
    |some ds=>rw[z3]at q;obtain⟨xs,i,rfl,rfl,c,rfl⟩:=jj z3;obtain⟨l,vs,rfl,h1,w⟩:=r1.lst_inv;exact⟨l,i,vs,rfl,r2.int_inv,k2.gh.seq (s2.seq h1),by lia,by lia,by rw[w.length];exact Qt c.2.2 lim,λp hp=>q p _ G2 _ (k2.ext (Ext.hid k2.gh hp)) (s1.trans s2) (NewL.of k2 hp ((w.mono s2).rep _))⟩
theorem DU{f g:M D}{ρ ρ1 ρ2:UQ}{x:D}{n:Nat}(h1:f ρ=.ok (.list [x]) ρ1)(h2:g ρ1=.ok (.int n) ρ2)(h:n<=1000):Sk f g ρ=.ok (UB n x) ρ2:=by
 unfold Sk U2;rw[h1];dsimp only;rw[h2];dsimp only[U1]
 have e:TB (.list [x]) (.int n)=O (UB n x):=by
  unfold TB;dsimp only;rw[Qq ⟨by lia,by lia,by show 1*_<=_;lia⟩]
  congr 1
  rw[Q1];clear h2 h;induction n with
  |zero=>rfl
  |succ n ih=>rw[Q0,QG,ih,Q0];rfl
 rw[e]
end
end DL
namespace DL
open PySem
theorem lz0{P:xS->Prop}{us:xS}(hl:us.length=0)(h:P []):P us:=by
 cases us with
 |nil=>exact h
 |cons a r=>cases hl
theorem lzS{P:xS->Prop}{us:xS}{n:Nat}(hl:us.length=n+1)(h:∀a r,r.length=n->P (a::r)):P us:=by
 cases us with
 |nil=>cases hl
 |cons a r=>exact h a r (Nat.succ.inj hl)
theorem lz1{P:xS->Prop}{us:xS}(hl:us.length=1)(h:∀a,P [a]):P us:=lzS hl λa r e=>lz0 (P:=λr=>P (a::r)) e (h a)
theorem lz2{P:xS->Prop}{us:xS}(hl:us.length=2)(h:∀a b,P [a,b]):P us:=lzS hl λa r e=>lz1 (P:=λr=>P (a::r)) e (h a)
theorem lz3{P:xS->Prop}{us:xS}(hl:us.length=3)(h:∀a b c,P [a,b,c]):P us:=lzS hl λa r e=>lz2 (P:=λr=>P (a::r)) e (h a)
theorem lz4{P:xS->Prop}{us:xS}(hl:us.length=4)(h:∀a b c d,P [a,b,c,d]):P us:=lzS hl λa r e=>lz3 (P:=λr=>P (a::r)) e (h a)
theorem lz5{P:xS->Prop}{us:xS}(hl:us.length=5)(h:∀a b c d e,P [a,b,c,d,e]):P us:=lzS hl λa r e=>lz4 (P:=λr=>P (a::r)) e (h a)
theorem bz1{fd:Uu}{ps:List Str}{us:xS}(hl:us.length=1)(h:∀a,bindArgs fd {pos:=[a]}=pure (ps.zip [a])):bindArgs fd {pos:=us}=pure (ps.zip us):=lz1 (P:=λus=>bindArgs fd {pos:=us}=pure (ps.zip us)) hl h
theorem bz2{fd:Uu}{ps:List Str}{us:xS}(hl:us.length=2)(h:∀a b,bindArgs fd {pos:=[a,b]}=pure (ps.zip [a,b])):bindArgs fd {pos:=us}=pure (ps.zip us):=lz2 (P:=λus=>bindArgs fd {pos:=us}=pure (ps.zip us)) hl h
theorem bz3{fd:Uu}{ps:List Str}{us:xS}(hl:us.length=3)(h:∀a b c,bindArgs fd {pos:=[a,b,c]}=pure (ps.zip [a,b,c])):bindArgs fd {pos:=us}=pure (ps.zip us):=lz3 (P:=λus=>bindArgs fd {pos:=us}=pure (ps.zip us)) hl h
theorem bz4{fd:Uu}{ps:List Str}{us:xS}(hl:us.length=4)(h:∀a b c d,bindArgs fd {pos:=[a,b,c,d]}=pure (ps.zip [a,b,c,d])):bindArgs fd {pos:=us}=pure (ps.zip us):=lz4 (P:=λus=>bindArgs fd {pos:=us}=pure (ps.zip us)) hl h
theorem bz5{fd:Uu}{ps:List Str}{us:xS}(hl:us.length=5)(h:∀a b c d e,bindArgs fd {pos:=[a,b,c,d,e]}=pure (ps.zip [a,b,c,d,e])):bindArgs fd {pos:=us}=pure (ps.zip us):=lz5 (P:=λus=>bindArgs fd {pos:=us}=pure (ps.zip us)) hl h
end DL
namespace DL
open PySem PySem.Spec L2
open PyProof.Rows hiding St
noncomputable def whole(h:Heap):Frag:=(UA h.objs.size).filterMap λa=>(h.get? a).map λo=>(a,o)
theorem Hg{g:Ut->Option Obj}{x:Ut}:∀l:xW,(l.filterMap λa=>(g a).map λo=>(a,o)).lookup x=if x∈l then g x else xN
 |[]=>rfl
 |y::l=>by
  have ih:=Hg (g:=g) (x:=x) l;by_cases e:x=y
  .subst e
   rw[Qq Qf];cases z:g x with
   |none=>rw[List.filterMap_cons_none (by rw[z];rfl),ih,z];split<;>rfl
   |some o=>rw[List.filterMap_cons_some (by rw[z];rfl),QZ,beq_self_eq_true]
  .have m:(x∈y::l)=(x∈l):=by simp[List.mem_cons,e]
   have b:(x==y)=xP:=by simpa using e
   have ih':(if x∈y::l then g x else xN)=_:=(by simp only[m];exact ih.symm)
   rw[ih'];cases z:g y with
   |none=>rw[List.filterMap_cons_none (by rw[z];rfl)]
   |some o=>rw[List.filterMap_cons_some (by rw[z];rfl),QZ,b]
theorem Yw{h:Heap}{a:Ut}:(whole h).lookup a=h.get? a:=by
 unfold whole;rw[Hg];split
 .rfl
 .rename_i n
  cases z:h.get? a with
  |none=>rfl
  |some o=>exact absurd (Jl.mpr (Qi z)) n
theorem BS(h:Heap):(whole h).In h:=λa o e=>by rw[Yw]at e;exact e
noncomputable def FA(st:Stmt):Option DefRec:=match st with
 |.FunctionDef name a b _ _ _ sc _ _ pos=>O ⟨name,a,b,sc,pos⟩
 |_=>xN
noncomputable def TK(st:Stmt):Option Str:=match st with
 |.FunctionDef name _ _ _ _ _ _ _ _ _=>O name
 |_=>xN
noncomputable def Fz(st:Stmt):Pos:=match st with
 |.FunctionDef _ _ _ _ _ _ _ _ _ pos=>pos
 |_=>⟨0,0,0,0⟩
noncomputable abbrev Kg(p:Us)(i:Nat):Stmt:=p.main.body.getD i (.Pass ⟨0,0,0,0⟩)
noncomputable def W7(p:Us)(ix:xY):List DefRec:=ix.filterMap λi=>FA (Kg p i)
section
variable{p q:Us}{loose:List Str}{mean:ExcName->xV}{mg mb:Str->xV}{h:Heap}{w:World}
theorem Sw{ix:xY}(T:Top q loose mean mg mb h)(e:recsOf q=W7 p ix)(i:Nat)(x:Str)(hi:ix.contains i=xO)(hn:TK (Kg p i)=O x):∃f fd,mg x=O (.ref f)/\Fun (whole h) x x (Kg p i) f fd:=by
 cases hs:Kg p i with
 |FunctionDef name a b _ _ _ sc _ _ pos=>
  rw[hs]at hn;cases hn;have hd:(⟨x,a,b,sc,pos⟩:DefRec)∈recsOf q:=by rw[e];exact List.mem_filterMap.mpr ⟨i,by simpa using hi,by rw[hs];rfl⟩
  obtain⟨f,⟨oc,od,dt,osl⟩,pm,cd,doc,h1,h2,h3,h4⟩:=T.fn _ hd;have h3:dt=_:=h3;subst h3;refine⟨f,_,h1,⟨⟨oc,od,.none,doc,pm,_,cd,_,osl,rfl,by rw[Yw];exact h2,?_⟩,?_⟩⟩
  .obtain⟨c,⟨_,_,dc,_⟩,vs,t,rfl,g1,g2,g3⟩:=h4
   have g2:dc=_:=g2;subst g2;unfold PySem.W.codeIn;dsimp only;rw[Yw,g1];dsimp only;have g4:vs.toList[1]?=O (.str x t):=by rw[Array.getElem?_toList];exact g3
   cases hv:vs.toList with
   |nil=>rw[hv]at g4;cases g4
   |cons v0 r=>
    rw[hv]at g4;cases r with
    |nil=>cases g4
    |cons v1 r=>cases g4;exact beq_self_eq_true _
  .unfold PySem.W.keepIn
   dsimp only;rw[Yw,h2]
 |_=>rw[hs]at hn;cases hn
theorem ji{K:Frag}{x qual y:Str}{st:Stmt}{f:Ut}{fd:Uu}(F:Fun K x qual st f fd)
  (hb:∀(kV doc pm:Uq)(an:va)(cdv ct v:Uq),bindArgs (PySem.W.fnOf x qual (Y4 st) (ZP st) (KI st) .none kV doc pm an cdv ct) ⟨[v],[]⟩=pure [(y,v)]) (s:Ur) (v:Uq):BindsTo s fd ⟨[v],[]⟩ [(y,v)]:=by
 obtain⟨oc,od,kV,doc,pm,an,cdv,ct,osl,rfl,lk,hcd⟩:=F.ex;exact .of_eq (hb kV doc pm an cdv ct v)
noncomputable def S6(q:Us)(loose:List Str)(x:Str):Bool:=
 !startupNames.contains x && !loose.contains x && !((recsOf q).map (·.name)).contains x && !((litsOf q).map (·.1)).contains x && !((clssOf q loose).map (·.name)).contains x
theorem Yr(T:Top q loose mean mg mb h){xs:List Str}(e:xs.all (S6 q loose)=xO){x:Str}(hx:x∈xs):mg x=xN:=by have:=Q3.mp e x hx;unfold S6 at this;simp only[Qz,Bool.not_eq_true',List.contains_eq_mem,decide_eq_false_iff_not]at this;exact T.free x this.1.1.1.1 this.1.1.1.2 this.1.1.2 this.1.2 this.2
theorem Pa(T:Top q loose mean mg mb h){x:Str}{i:Int}(e:valOf q x=O (.int i)):∃t,mg x=O (.int i t):=by obtain⟨v,h1,h2⟩:=T.const x _ e;have:=h2 h;cases this;exact⟨_,h1⟩
end
noncomputable def scOk(sc:Scope)(N gl:List Str):Bool:=(N.all λx=>match sc.names.lookup x with|some .local=>xO|some .cell=>xO|_=>xP)&&gl.all λx=>match sc.names.lookup x with|some .globalImplicit=>xO|_=>xP
noncomputable def fnB(sc:Scope)(N gl:List Str):Bool:=decide (sc.kind=.function) && !sc.isCoroutine && !sc.isGenerator&&decide N.Nodup&&(sc.names.all λy=>match y.2 with | .free=>xP|_=>xO)&&scOk sc N gl
structure FnNm(sc:Scope)(N gl:List Str):Prop where
 kind:sc.kind=.function
 co:sc.isCoroutine=xP
 gen:sc.isGenerator=xP
 nd:N.Nodup
 nofree:∀y∈sc.names,y.2≠.free
 nm:∀x∈N,sc.names.lookup x=O .local∨sc.names.lookup x=O .cell
 gl:∀x∈gl,sc.names.lookup x=O .globalImplicit
theorem KU{sc:Scope}{N gl:List Str}(H:fnB sc N gl=xO):FnNm sc N gl:=by
 unfold fnB scOk at H;simp only[Qz,Q6,Bool.not_eq_true',Q3]at H;obtain⟨⟨⟨⟨⟨h1,h2⟩,h3⟩,h4⟩,h5⟩,h6,h7⟩:=H;refine⟨h1,h2,h3,h4,λy hy e=>?_,λx hx=>?_,λx hx=>?_⟩
 .have:=h5 y hy;rw[e]at this;cases this
 .have:=h6 x hx
  split at this
  .rename_i e;exact .inl e
  .rename_i e;exact .inr e
  .cases this
 .have:=h7 x hx
  split at this
  .rename_i e;exact e
  .cases this
section
variable{sc:Scope}{N gl:List Str}{x:Str}
theorem nq(H:FnNm sc N gl):N.Nodup:=H.nd
theorem fq(H:FnNm sc N gl)(n:Nat):W8 N (N.take n) sc:=⟨H.kind,H.co,H.gen,H.nd,by rw[Q7,List.take_eq_take_iff];lia,λx hx=>H.nm x (Ub hx),H.nofree⟩
theorem lq(H:FnNm sc N gl)(i:Nat)(h:N[i]?=O x:=by rfl):L2.Loc sc x:=H.nm x (QM h)
theorem gq(H:FnNm sc N gl)(i:Nat)(h:gl[i]?=O x:=by rfl):sc.names.lookup x=O .globalImplicit:=H.gl x (QM h)
theorem pq{X:Cx}{pos:Pos}(H:FnNm X.env.scope X.N gl)(i:Nat)(h:X.N[i]?=O x:=by rfl)(hd:(x==("__debug__" : Str))=xP:=by decide)(hc:(x==("__classdict__" : Str))=xP:=by decide):PE X (.Name x pos) (Kl i):=
 Mb h ((H.nm x (QM h)).elim .inl λz=>.inr (.inl z)) hd hc
end
theorem Zt{q p:Us}{loose:List Str}{mean:ExcName->xV}{mg mb:Str->xV}{h:Heap}{ix:xY}(P:Us)(w:World)(base:Heap){ps:List Str}{k n:Nat}{F:xQ->xT}(T:Top q loose mean mg mb h)(e:recsOf q=W7 p ix)(i:Nat)(x:Str)(hi:ix.contains i=xO)(hn:TK (Kg p i)=O x)
  (ok:∀{f:Ut}{fd:Uu},Fun (whole h) x x (Kg p i) f fd->FnOk P w (whole h) mg base CX0 k f fd ps (spD (whole h) n F))
  (hb:∀(kV doc pm:Uq)(an:va)(cdv ct:Uq)(us:xS),us.length=ps.length->bindArgs (PySem.W.fnOf x x (Y4 (Kg p i)) (ZP (Kg p i)) (KI (Kg p i)) .none kV doc pm an cdv ct) ⟨us,[]⟩=pure (ps.zip us)):Def P w (whole h) mg base x k n F:=by
 obtain⟨f,fd,m,FU⟩:=Sw T e i x hi hn;exact Def.mk m FU (FU.binds hb) (ok FU)
section
variable{X:Cx}{B G0:Hp}{e:Uv}{pos:Pos}{es:xU}
theorem pdf{k kk n:Nat}{F:xQ->xT}{g:M xQ}{x:Str}{p2:Pos}(d:Def X.prog X.w X.K X.mg X.base x k n F)(hr:Room kk X.A)(hg:Gl X x)(ha:PA X (e::es) (tDs X.K B G0 g))(hk:k<=kk:=by decide)(hn:(e::es).length=n:=by rfl)
  (hdb:(x==("__debug__" : Str))=xP:=by decide) (he:Uy (e::es) X.env=(xP,eval e X.env)::Uy es X.env:=by rfl) (hpl:(backTo pos (Uy es X.env)).any (·.1)=xP:=by rfl) :
  PE X (.Call (.Name x p2) (e::es) [] pos) (tD X.K B G0 (U4 n F g)):=Cg d (hr.mono hk) hg ha hn hdb he hpl
end
theorem Fy{q p:Us}{loose:List Str}{mean:ExcName->xV}{mg mb:Str->xV}{h:Heap}{ix:xY}{P:Us}{w:World}{k:Nat}{F:xQ->xT}{y:Str}{fa:Ut}(T:Top q loose mean mg mb h)(e:recsOf q=W7 p ix)(i:Nat)(x:Str)(hi:ix.contains i=xO)(hn:TK (Kg p i)=O x)(hfa:mg x=O (.ref fa))
  (hb:∀(kV doc pm:Uq)(an:va)(cdv ct v:Uq),bindArgs (PySem.W.fnOf x x (Y4 (Kg p i)) (ZP (Kg p i)) (KI (Kg p i)) .none kV doc pm an cdv ct) ⟨[v],[]⟩=pure [(y,v)])
  (ok:∀(base:Heap){f:Ut}{fd:Uu},Fun (whole h) x x (Kg p i) f fd->FnOk P w (whole h) mg base CX0 k f fd [y] (spD (whole h) 1 F)) :
  ∃fd:Uu,(∀(s:Ur)(v:Uq),BindsTo s fd ⟨[v],[]⟩ [(y,v)])/\∀base:Heap,FnOk P w (whole h) mg base CX0 k fa fd [y] (spD (whole h) 1 F):=by
 obtain⟨f,fd,m,FU⟩:=Sw T e i x hi hn;cases hfa.symm.trans m;exact⟨fd,ji FU hb,λbase=>ok base FU⟩
noncomputable def Wh:D->Bool
 |.str x=>decide (x.length<=1000)
 |.int i=>decide (0<=i)&&decide (i<10 ^ 10)
 |.none=>xO
 |_=>xP
noncomputable def Wg(nm:Str)(ds:xQ):Option xQ:=match ZO nm with
 |[]=>(match ds with | [.str _]=>O [] | _=>xN)
 |f::fs=>if ds.length=(f::fs).length/\ds.all Wh=xO then O ds else xN
noncomputable abbrev exD(nm:Str)(ds:xQ):D:=.dict [(.none,.tuple [.str nm,.list ds])]
section
variable{K:Frag}{G H H':Hp}{nm:Str}{C a:Ut}{bm:xS}{vs:List V}{ds fs:xQ}{dd:va}
theorem EK{v:V}{d:D}(r:Rep K G v d)(h:Wh d=xO):∃y,FmtV v y/\y.length<=4000:=by
 cases r with
 |non=>exact⟨_,.non,by decide⟩
 |bl b=>cases h
 |int i=>
  unfold Wh at h;simp only[Qz,Q6]at h;have h64:i.natAbs<2 ^ 64:=by have:=h.2;have:=h.1;lia
  refine⟨_,.int i ?_,Qt (toString_length_le h.1 (by decide:0<10) h.2) (by decide)⟩;by_cases z:i.natAbs=0
  .rw[z];decide
  .have:=(Nat.log2_lt z).mpr h64
   lia
 |str x=>unfold Wh at h;have h:=Qa h;exact⟨x,.str x (Qt h (by decide)),Qt h (by decide)⟩
 |lst _ _=>cases h
 |tup _ _=>cases h
 |dic _=>cases h
 |exc _ _ _ _=>cases h
 |dct _ _ _ _ _=>cases h
 |dtt _ _ _ _=>cases h
theorem M5:∀{vs:List V}{ds:xQ},Reps K G vs ds->ds.all Wh=xO->∀u∈vs,∃y,FmtV u y/\y.length<=4000
 |_,_,.nil,_,u,hu=>by cases hu
 |_,_,.cons r t,h,u,hu=>by
  rw[JK,Qz]at h;rcases QC.mp hu with rfl|hu
  .exact EK r h.1
  .exact M5 t h.2 u hu
theorem BR(r:Reps K G vs ds)(e:Wg nm ds=O fs):NM nm vs:=by
 unfold Wg at e;split at e
 .rename_i hf
  split at e
  .obtain⟨v,rfl,q⟩:=r.one_inv
   exact .inl ⟨hf,_,by rw[q.str_inv]⟩
  .cases e
 .rename_i f l hf
  split at e
  .rename_i c
   refine .inr ⟨by rw[hf];simp,by rw[r.length,hf];exact c.1,M5 r c.2⟩
  .cases e
theorem DT(c:ClsK K nm C bm)(s:Same G H)(ha:H a=xN)(r:Reps K G vs ds)(e:Wg nm ds=O fs)(p:NL nm C a vs (upd H a (.ext (XO xO a C xN))) dd H') :
  ∃G',Ext G H G' (upd H' a (.ext (XO xP a C dd)))/\Rep K G' (.ref a) (exD nm fs)/\H' a=O (.ext (XO xO a C dd)):=by
 unfold Wg at e;rcases p with ⟨hf,rfl,rfl⟩|⟨hf,hl,dx,rfl,hd,hne,rfl⟩
 .rw[hf]at e
  dsimp only at e;split at e
  .cases e
   refine⟨upd G a (.ext (XO xP a C xN)),?_,.exc (vs:=[]) c Ks ⟨hf,rfl⟩ .nil,Ks⟩;rw[Lc];exact Ext.new s ha
  .cases e
 .split at e
  .rename_i hf';exact absurd hf' hf
  .rename_i f l hf'
   split at e
   .cases e
    have hd':H dx=xN:=by rw[Ki hne]at hd;exact hd
    have eH:upd (upd (upd (upd H a (.ext (XO xO a C xN))) a (.ext (XO xO a C (O dx)))) dx (.ext (XD dx ((ZO nm).zip vs)))) a (.ext (XO xP a C (O dx)))=upd (upd H a (.ext (XO xP a C (O dx)))) dx (.ext (XD dx ((ZO nm).zip vs))):=by
     funext b;by_cases h1:b=a
     .subst h1;rw[Ks,Ki (Ne.symm hne),Ks]
     .rw[Ki h1]
      by_cases h2:b=dx
      .subst h2;rw[Ks,Ks]
      .rw[Ki h2,Ki h1,Ki h1,Ki h2,Ki h1]
    have x1:Ext G H (upd G a (.ext (XO xP a C (O dx)))) (upd H a (.ext (XO xP a C (O dx)))):=Ext.new s ha;have hd2:upd H a (.ext (XO xP a C (O dx))) dx=xN:=by rw[Ki hne];exact hd'
    have x2:=x1.trans (Ext.new (o:=.ext (XD dx ((ZO nm).zip vs))) x1.gh hd2);exact⟨_,by rw[eH];exact x2,.exc (dd:=O dx) (vs:=vs) c (by rw[Ki (Ne.symm hne)];exact Ks) ⟨hl.symm,Ks⟩ (r.mono x2.g),by rw[Ki (Ne.symm hne)];exact Ks⟩
   .cases e
end
noncomputable def X1(nm:Str)(g:M xQ):SM:=sB g λds ρ=>match Wg nm ds with|some fs=>.ex ρ (exD nm fs)|none=>.bad
section
variable{X:Cx}{B G0:Hp}{KX:XW}{e a b c:Uv}{pos p2 cpos:Pos}{es:xU}{st:Stmt}{sts:List Stmt}{nm x:Str}{k kk n:Nat}
theorem BQ{c:Bool}{g:M xQ}(mk:MkX X.prog X.w X.K X.mg X.base nm k)(hr:Room kk X.A)(hc:X.calm=xO)(hw:XZ c X KX)(hg:Gl X nm)(ha:PA X (e::es) (tDs X.K B G0 g))(hk:k+1<=kk:=by decide)
  (hdb:(nm==("__debug__" : Str))=xP:=by decide) (he:Uy (e::es) X.env=(xP,eval e X.env)::Uy es X.env:=by rfl) (hpl:(backTo cpos (Uy es X.env)).any (·.1)=xP:=by rfl) :
  PS X (.Raise (O (.Call (.Name nm p2) (e::es) [] cpos)) xN pos) (tS X.K B G0 KX (X1 nm g)):=PS.kin λkin=>by
 obtain⟨C,bm,f,fd,ps,sp,hm,hkp,ck,xc,F,hb,wq⟩:=mk;refine KO (Ai (KC:=λC'=>C'=C) hc (λC' z=>by subst z;exact⟨bm,f,xc _ _ kin⟩) hw (Aj (xc _ _ kin) F (hr.mono hk) hg hm hkp hb ha hdb he hpl)) λDn σ H q=>?_
 refine tS.bnd (R:=Reps X.K) q λvs H1 G1 ρ1 ds k1 r a=>?_
 cases z:Wg nm ds with
 |none=>rw[z]at a;exact a.elim
 |some fs=>
  rw[z]at a;have ar:=BR r z;refine⟨?_,λad had=>wq ad vs _ _ Ks ar λdd H' p=>⟨rfl,?_⟩⟩
  .rcases ar with ⟨_,x,rfl⟩|⟨_,hl,_⟩
   .exact(show 1<=Uw by decide)
   .rw[hl]
    unfold ZO;split
    .decide
    .split
     .decide
     .split<;>decide
  .obtain⟨G',ex,rp,hx⟩:=DT ck k1.gh had r z p
   exact⟨ad,C,dd,rfl,rfl,hx,a (.ref ad) σ G' _ (k1.ext ex) ex.g rp⟩
inductive XR where
 |val (d:D)|exc (d:D)
noncomputable def spX(K:Frag)(n:Nat)(F:xQ->Option XR):Sp:=λvs H Q E=>∃G ds r,vs.length=n/\Same G H/\Reps K G vs ds/\F ds=O r/\match r with
 |.val d=>∀v G' H',Ext G H G' H'->Rep K G' v d->Q v H'
 |.exc d=>∀ad G' H',Ext G H G' H'->Rep K G' (.ref ad) d->E (.ref ad) xN H'
def Ps(c:Bool)(P:Us)(w:World)(K:Frag)(mg:Str->xV)(base:Heap)(x:Str)(k n:Nat)(F:xQ->Option XR):Prop:=
 ∃(f:Ut)(fd:Uu)(ps:List Str),mg x=O (.ref f)/\PySem.W.keepIn K (.ref f)=xO/\Yl K fd ps []/\FnOk P w K mg base (YC c P w) k f fd ps (spX K n F)
abbrev Yh:=Ps xO
def aftX(K:Frag)(B G0:Hp)(KX:XW)(r:Res XR)(G:Hp)(σ:St)(Q:VK):Prop:=match r with
 |.ok (.val d) ρ=>∀v G' H',EOk K B G0 G' H' σ ρ->Same G G'->Rep K G' v d->Q v H'
 |.ok (.exc d) ρ=>∀v G' H',EOk K B G0 G' H' σ ρ->Same G G'->Rep K G' v d->KX v σ H'
 |.bad=>False
noncomputable def tX(K:Frag)(B G0:Hp)(KX:XW)(f:M XR):TE:=λσ H Q=>∃G ρ,EOk K B G0 G H σ ρ/\aftX K B G0 KX (f ρ) G σ Q
noncomputable def Z5(n:Nat)(F:xQ->Option XR)(g:M xQ):M XR:=U2 g λxs=>if xs.length=n then U1 (F xs)else λ_=>.bad
theorem LN{c c1:Bool}{F:xQ->Option XR}{g:M xQ}(d:Ps c1 X.prog X.w X.K X.mg X.base x k n F)(hr:Room kk X.A)(hw:XZ c X KX)(hg:Gl X x)(ha:PA X (e::es) (tDs X.K B G0 g))(hk:k<=kk:=by decide)(hn:(e::es).length=n:=by rfl)(hcc:c=xO->c1=xO:=by decide)
  (hdb:(x==("__debug__" : Str))=xP:=by decide) (he:Uy (e::es) X.env=(xP,eval e X.env)::Uy es X.env:=by rfl) (hpl:(backTo pos (Uy es X.env)).any (·.1)=xP:=by rfl) :
  PE X (.Call (.Name x p2) (e::es) [] pos) (tX X.K B G0 KX (Z5 n F g)):=by
 obtain⟨f,fd,ps,h1,h2,h3,h4⟩:=d;refine Kb (Ag h4 (hr.mono hk) hg h1 h2 h3 hw ha hcc hdb he hpl) λσ H Q ⟨G,ρ,k0,a⟩=>?_
 refine⟨G,ρ,k0,?_⟩;unfold Z5 U2 at a;cases z:g ρ with
 |bad=>rw[z]at a;exact a.elim
 |ok xs ρ1=>
  rw[z]at a;dsimp only at a;intro vs G1 H1 k1 s1 r;by_cases hl:xs.length=n
  .rw[Qq hl]at a
   cases zF:F xs with
   |none=>rw[zF]at a;exact a.elim
   |some rr=>
    rw[zF]at a;refine⟨G1,xs,rr,by rw[r.length];exact hl,k1.gh,r,zF,?_⟩;cases rr with
    |val d=>exact λv G' H' ex rv=>a v G' H' (k1.ext ex) (s1.trans ex.g) rv
    |exc d=>intro ad' G' H' ex rv ad ev;cases ev;exact a _ G' H' (k1.ext ex) (s1.trans ex.g) rv
  .rw[Qw hl]at a;exact a.elim
noncomputable def sX(f:M XR)(g:D->SM):SM:=λρ=>match f ρ with
 |.ok (.val d) ρ'=>g d ρ'
 |.ok (.exc d) ρ'=>.ex ρ' d
 |.bad=>.bad
theorem tS.bndX{K:Frag}{f:M XR}{g:D->SM}{Dn:Ends}{σ:St}{H:Hp}{P:V->Hp->Prop}(q:tS K B G0 KX (sX f g) Dn σ H)
  (i:∀v H' G' ρ' x,EOk K B G0 G' H' σ ρ'->Rep K G' v x->aftS K B G0 KX (g x ρ') G' Dn->P v H'):tX K B G0 KX f σ H P:=by
 obtain⟨G,ρ,k,a⟩:=q;refine⟨G,ρ,k,?_⟩;unfold sX at a;cases z:f ρ with
 |bad=>rw[z]at a;exact a.elim
 |ok r ρ1=>
  rw[z]at a;cases r with
  |val d=>exact λv G' H' e s r=>i v H' G' ρ1 d e r (aftS.mono s a)
  |exc d=>exact λv G' H' e s r=>a v σ G' H' e s r
theorem LM{f:M XR}(h:PE X e (tX X.K B G0 KX f))(hs:swapsWith e xN pos.line X.env=pure xP:=by rfl):PS X (.Expr e pos) (tS X.K B G0 KX (sX f λ_ ρ=>.nx ρ)):=KO (Xz h hs) λD σ H q=>tS.bndX q λv H' G' ρ' x k r a=>a σ G' H' k (.refl _)
noncomputable def ZI(N:List Str)(g:SM)(ds:xQ):Option XR:=match g (Zk N ds)with
 |.rt d=>O (.val d)
 |.nx _=>O (.val .none)
 |.ex _ d=>if Xs d=xO then O (.exc d)else xN
 |_=>xN
noncomputable abbrev kxE(E:XK):XW:=λv _ H=>∃e,v=.ref e/\E (.ref e) xN H
theorem okX{c:Bool}{P:Us}{w:World}{K:Frag}{mg:Str->xV}{base:Heap}{x qual:Str}{st:Stmt}{f:Ut}{fd:Uu}{N ps:List Str}{k n:Nat}{g:SM}(F:Fun K x qual st f fd)(S:W8 N ps (KI st))(hn:ps.length=n)
  (der:∀(cdv:Uq)(A:Around)(outer:List Env)(s:Ur)(H:Hp)(E:XK)(B G0:Hp),Room k (A.deeper (envOfC qual (KI st) s.heap.objs.size f cdv)) ->
   PSs (K7 (YC c P w) P w K mg base N qual (KI st) f cdv A outer s H E) (ZP st) (tS K B G0 (kxE E) g)):FnOk P w K mg base (YC c P w) (k+1) f fd ps (spX K n (ZI N g)):=by
 obtain⟨oc,od,kV,doc,pm,an,cdv,ct,osl,rfl,lk,hcd⟩:=F.ex;refine NJ lk hcd S (λvs H Q E h=>?_) λA outer s H vs Q E hr h=>?_
 .obtain⟨_,_,_,hl,_⟩:=h
  rw[hl,hn]
 .obtain⟨G,ds,r,hl,sg,rp,hF,q⟩:=h
  refine⟨_,der cdv A outer s H E H G hr,G,Zk N ds,R8 sg rp,?_⟩;unfold ZI at hF;cases z:g (Zk N ds)with
  |rt d'=>rw[z]at hF;cases hF;exact λv G' H' ex rr=>q v G' H' ex rr
  |nx ρ=>rw[z]at hF;cases hF;exact λσ' G' H' k' _=>q .non G' H' k'.exit .non
  |ex ρ d=>
   rw[z]at hF;dsimp only at hF;split at hF
   .rename_i hx
    cases hF;intro v σ' G' H' k' _ rv
    obtain⟨ad,rfl⟩:∃ad,v=.ref ad:=by
     cases rv with
     |exc _ _ _ _=>exact⟨_,rfl⟩
     |dct _ _ _ _ _=>exact⟨_,rfl⟩
     |dtt _ _ _ _=>exact⟨_,rfl⟩
     |_=>cases hx
    exact⟨ad,rfl,q ad G' H' k'.exit rv⟩
   .cases hF
  |ro ds=>rw[z]at hF;cases hF
  |bk ρ=>rw[z]at hF;cases hF
  |ct ρ=>rw[z]at hF;cases hF
  |bad=>rw[z]at hF;cases hF
end
section
variable{K:Frag}{B G0 G H:Hp}{σ:St}{ρ:UQ}
theorem EOk.unset{i:Nat}(k:EOk K B G0 G H σ ρ):EOk K B G0 G H (σ.set i xN) (ρ.set i xN) where
 bh:=k.bh
 gh:=k.gh
 g0:=k.g0
 np:=k.np
 len:=by rw[QU,QU];exact k.len
 pub:=λj d' q=>by
  by_cases z:i=j
  .subst z
   have:=KS q;cases this
  .rw[Qj z]at q⊢
   exact k.pub j d' q
 own:=λj ds q=>by
  by_cases z:i=j
  .subst z
   have:=KS q;cases this
  .rw[Qj z]at q⊢
   exact k.own j ds q
 sep:=λj l c es fs q1 q2 s1 s2=>by
  have z1:i≠j:=λz=>by subst z;have:=KS q1;cases this
  have z2:i≠l:=λz=>by subst z;have:=KS q2;cases this
  rw[Qj z1]at q1 s1;rw[Qj z2]at q2 s2;exact k.sep j l c es fs q1 q2 s1 s2
 dp:=k.dp.setOther (λs e=>by cases e)
end
def CK(K:Frag)(mg:Str->xV)(x:Str):Prop:=∃D bm,mg x=O (.ref D)/\ClsK K x D bm
noncomputable def TJ(x:Str):D->Bool
 |.dict [(.none,.tuple [.str nm,_])]=>decide (x=nm) || decide (x = "DealError")
 |_=>xP
noncomputable def XA(i:Nat)(x:Str)(g h:SM):SM:=λρ=>match g ρ with
 |.ex ρ1 d=>if TJ x d=xO/\i<ρ1.length then(match h (ρ1.set i (O (.pub d)))with
  |.nx ρ2=>.nx (ρ2.set i xN)
  |.bk ρ2=>.bk (ρ2.set i xN)
  |.ct ρ2=>.ct (ρ2.set i xN)
  |.rt d2=>.rt d2
  |_=>.bad)else .bad
 |o=>o
section
variable{X:Cx}{B G0:Hp}{KX:XW}{e a b c:Uv}{pos p2 cpos np hpos:Pos}{es:xU}{x n:Str}{k kk:Nat}
theorem jh{K:Frag}{G:Hp}{v:V}{d:D}{D':Ut}{bmD:xS}(r:Rep K G v d)(h:TJ x d=xO)(cD:ClsK K x D' bmD) :
  ∃a C dd bm,v=.ref a/\KC K C bm/\G a=O (.ext (XO xP a C dd))/\(Value.ref C::bm).contains (.ref D')=xO:=by
 unfold TJ at h;split at h
 .obtain⟨a,C,dd,bm,wd,vs,ds,rfl,e0,c,hx,_,_⟩:=r.exc_inv
  cases e0;exact⟨a,C,dd,bm,rfl,⟨_,c⟩,hx,by rw[c.has cD];exact h⟩
 .cases h
theorem EJ{i:Nat}{g h:SM}{body suite:List Stmt}{b₀:Stmt}{st:List Env}(cD:CK X.K X.mg x)(hg:Gl X x)(hN:X.N.Nodup)(hi:X.N[i]?=O n)(hl:X.env.kindOf n=O .local)
  (hb:∀(KX':XW)(W:Uq->Ur->Prop)(pn:List (Ut×Obj)),XZ xP (X.tried W pn) KX'->PSs (X.tried W pn) body (tS X.K B G0 KX' g)) (hs:∀a,PSs (X.suite a) (b₀::suite) (tS X.K B G0 KX0 h))
  (vW:X.stack=X.env::st:=by rfl) (hfr:X.env.frame=O X.env.locals:=by rfl) (hdb:(x==("__debug__" : Str))=xP:=by decide) :
  PS X (.Try body [.ExceptHandler (O (.Name x np)) (O n) (b₀::suite) hpos] [] [] pos) (tS X.K B G0 KX (XA i x g h)):=PS.kin λkin=>by
 obtain⟨D',bmD,hm,ck⟩:=cD;obtain⟨fD,xD⟩:=ck.cls (model X.prog X.w) X.base kin;refine KO (DR (KC:=KC X.K) (tb:=λKX'=>tS X.K B G0 KX' g) (ts:=tS X.K B G0 KX0 h) vW hfr (W2 kin) xD hg hm hN hi hl hb hs hdb) λDn σ H ⟨G,ρ,k,a⟩=>?_
 refine⟨G,ρ,k,?_⟩;unfold XA at a;cases z:g ρ with
 |nx ρ1=>rw[z]at a;exact a
 |rt d=>rw[z]at a;exact a
 |ro ds=>rw[z]at a;exact a
 |bk ρ1=>rw[z]at a;exact a
 |ct ρ1=>rw[z]at a;exact a
 |bad=>rw[z]at a;exact a.elim
 |ex ρ1 d=>
  rw[z]at a;dsimp only at a;intro v σ1 G1 H1 k1 s1 r;by_cases hc:TJ x d=xO/\i<ρ1.length
  .rw[Qq hc]at a
   obtain⟨ad,C,dd,bm,rfl,kc,hx,hct⟩:=jh r hc.1 ck;refine⟨ad,C,dd,bm,rfl,kc,k1.gh _ _ hx,hct,G1,_,k1.setPub r hc.2,?_⟩;cases z2:h (ρ1.set i (O (.pub d)))with
   |nx ρ2=>rw[z2]at a;exact λσ2 G2 H2 k2 s2=>a _ G2 H2 k2.unset (s1.trans s2)
   |bk ρ2=>rw[z2]at a;exact λσ2 G2 H2 k2 s2=>a _ G2 H2 k2.unset (s1.trans s2)
   |ct ρ2=>rw[z2]at a;exact λσ2 G2 H2 k2 s2=>a _ G2 H2 k2.unset (s1.trans s2)
   |rt d2=>rw[z2]at a;exact a
   |ex _ _=>rw[z2]at a;exact a.elim
   |ro _=>rw[z2]at a;exact a.elim
   |bad=>rw[z2]at a;exact a.elim
  .rw[Qw hc]at a;exact a.elim
noncomputable def K8(x:Str):D->xT
 |.dict [(.none,.tuple [.str nm,_])]=>O (.bool (decide (x=nm) || decide (x = "DealError")))
 |_=>xN
theorem CH{f:M D}{p3:Pos}(cD:CK X.K X.mg x)(hg:Gl X "isinstance")(hm:X.mg "isinstance" = xN)(wf:Gl X x)(ha:PE X e (tD X.K B G0 f))(hdb:(x==("__debug__" : Str))=xP:=by decide)
  (hs:Uy [e,.Name x p3] X.env=(xP,eval e X.env)::Uy [.Name x p3] X.env:=by rfl)
  (hs2:Uy [.Name x p3] X.env=[(xP,eval (.Name x p3) X.env)]:=by rfl) :
  PE X (.Call (.Name "isinstance" p2) [e,.Name x p3] [] pos) (tD X.K B G0 (U2 f λd=>U1 (K8 x d))):=PE.kin λkin=>by
 obtain⟨D',bmD,hm2,ck⟩:=cD;refine Kb (T5 (Oz (W2 kin)) hg hm Nm (Zq ha (Zq (Lb (v:=.ref D') wf hm2 xM hdb) Z4 (by rw[hs2];rfl)) hs) (by decide) (by decide) hs (by rw[hs2];rfl)) λσ H Q q=>?_
 refine tM.one (R:=Rep X.K) q λv H2 G ρ d k r a=>?_
 obtain⟨d',e',a'⟩:=aft.opt a;unfold K8 at e';split at e'
 .obtain⟨ad,C,dd,bm,wd,vs,ds,rfl,e0,c,hx,_,_⟩:=r.exc_inv
  cases e0;cases e';exact⟨ad,C,dd,bm,xP,.ref D',_,rfl,⟨_,c⟩,k.gh _ _ hx,.inl ⟨D',bmD,rfl,⟨_,ck⟩,c.has ck⟩,a'.now k (.bl _)⟩
 .cases e'
noncomputable def V3:D->xT
 |.dict [(.none,_)]=>O (.bool xO)
 |_=>xN
theorem CG:bootBuiltins "ValueError" = O (.type "ValueError"):=by decide +kernel
theorem CF{f:M D}{p3:Pos}(hg:Gl X "isinstance")(hm:X.mg "isinstance" = xN)(wf:Gl X "ValueError")(hm2:X.mg "ValueError" = xN)(ha:PE X e (tD X.K B G0 f))
  (hs:Uy [e,.Name "ValueError" p3] X.env=(xP,eval e X.env)::Uy [.Name "ValueError" p3] X.env:=by rfl)
  (hs2:Uy [.Name "ValueError" p3] X.env=[(xP,eval (.Name "ValueError" p3) X.env)]:=by rfl) :
  PE X (.Call (.Name "isinstance" p2) [e,.Name "ValueError" p3] [] pos) (tD X.K B G0 (U2 f λd=>U1 (V3 d))):=PE.kin λkin=>by
 refine Kb (T5 (Oz (W2 kin)) hg hm Nm (Zq ha (Zq (La (v:=.ty "ValueError") wf hm2 CG xM (by decide) (by decide)) Z4 (by rw[hs2];rfl)) hs) (by decide) (by decide) hs (by rw[hs2];rfl)) λσ H Q q=>?_
 refine tM.one (R:=Rep X.K) q λv H2 G ρ d k r a=>?_
 obtain⟨d',e',a'⟩:=aft.opt a;unfold V3 at e';split at e'
 .obtain⟨ad,C,dd,bm,wd,vs,ds,rfl,e0,c,hx,_,_⟩:=r.exc_inv
  cases e0;cases e';exact⟨ad,C,dd,bm,xP,.ty "ValueError", xO,rfl,⟨_,c⟩,k.gh _ _ hx,.inr ⟨"ValueError", rfl,Le,by rw[c.ty];rfl⟩,a'.now k (.bl _)⟩
 .cases e'
noncomputable def XF(f:Str):D->xT
 |.dict [(.none,.tuple [.str nm,.list ds])]=>((ZO nm).zip ds).lookup f
 |_=>xN
theorem HC{K:Frag}{G:Hp}{f:Str}:∀{fs:List Str}{vs:List V}{ds:xQ}{d:D},Reps K G vs ds->(fs.zip ds).lookup f=O d->f∈fs/\∃v,(fs.zip vs).lookup f=O v/\Rep K G v d
 |[],vs,ds,d,_,e=>by simp at e
 |g::fs,_,_,d,.nil,e=>by simp at e
 |g::fs,_,_,d,@Reps.cons _ _ v d0 vs ds r t,e=>by
  rw[J6,QZ]at e;rw[J6,QZ];cases z:f==g with
  |true=>rw[z]at e;cases e;exact⟨by rw[beq_iff_eq.mp z];exact Qf,v,rfl,r⟩
  |false=>rw[z]at e;obtain⟨h1,h2⟩:=HC t e;exact⟨Qh _ h1,h2⟩
theorem BP{f:M D}{fl:Str}(he:PE X e (tD X.K B G0 f))(hb:attributeBase e fl X.env (eval e X.env)=eval e X.env:=by rfl)(hq:fl∈(["part", "number", "row"]:List Str):=by decide) :
  PE X (.Attribute e fl pos) (tD X.K B G0 (U2 f λd=>U1 (XF fl d))):=PE.kin λkin=>by
 refine Kb (Bc (W2 kin) (λC bm ⟨nm,c⟩=>c.fld _ _ kin fl hq) he hb) λσ H Q q=>?_;refine tM.one (R:=Rep X.K) q λv H2 G ρ d k r a=>?_
 obtain⟨d',e',a'⟩:=aft.opt a;unfold XF at e';split at e'
 .obtain⟨ad,C,dd,bm,wd,vs,ds,rfl,rfl',c,hx,hd,rr⟩:=r.exc_inv
  cases rfl';obtain⟨hm,w,e1,rw⟩:=HC rr e';cases dd with
  |none=>rw[hd.1]at hm;cases hm
  |some dx=>exact⟨ad,C,bm,dx,_,w,xP,rfl,⟨_,c⟩,k.gh _ _ hx,k.gh _ _ hd.2,e1,a'.now k rw⟩
 .cases e'
end
def Pw(o:Uv)(name:Str)(apos:Pos)(args:xU)(pos:Pos):Prop:=∀env:Env,∃pl:Sem Bool,eval (.Call (.Attribute o name apos) args [] pos) env=(do
   let ov ←eval o env
   standAt apos.atName
   let (f,first) ←holding [ov] (getMethod ov name pl)
   callWith pos f first (backTo pos (Uy args env)) (backToKw pos (keywordEach [] env)))
section
variable{P:Us}{w:World}{K:Frag}{mg:Str->xV}{base:Heap}{st:Stmt}{f f0 D:Ut}{fd fd0:Uu}{q:Str}{p1 p2 p3 p4 p5 p6 p7 p8 p9 r1 r2 r3 r4 r5 r6 r7 r8 r9 q1 q2:Pos}{j1 j2:Nat}
theorem CD(F:Fun K "__init__" q st f fd)(hn:FnNm (KI st) ["self", "text"] ["ValueError"])(hm:mg "ValueError" = xN)
  (hb:ZP st=[.Expr (.Call (.Attribute (.Name "ValueError" p1) "__init__" p2) [.Name "self" p3,.Name "text" p4] [] p5) p6])
  (ht:Pw (.Name "ValueError" p1) "__init__" p2 [.Name "self" p3,.Name "text" p4] p5) :
  FnOk P w K mg base CX0 1 f fd ["self", "text"] (SE (KC K)):=by
 refine F.ok (fq hn 2) (λvs H Q E ⟨a,C,dd,bm,x,e,_⟩=>by rw[e];rfl) λcdv A outer s H vs Q E hr ⟨a,C,dd,bm,x,e,kc,hx,hq⟩=>?_
 subst e;rw[hb];obtain⟨pl,ht⟩:=ht (K7 CX0 P w K mg base ["self", "text"] q (KI st) f cdv A outer s H E).nox.env;refine⟨PB (Mi (KC K) (Sn (Kl 0) (Sn (Kl 1) VZ))),PSs.kin λkin=>TR (Xz (Af (pl:=pl) (W2 kin) (gq hn 0) hm (Zq (pq hn 0) (Zq (pq hn 1) Z4)) (ht:=ht))),?_⟩;exact⟨_,rfl,_,rfl,a,C,dd,bm,_,rfl,kc,hx,hq⟩
theorem YY(x y:Str):(x++y).length=x.length+y.length:=by
 show(x.cps++y.cps).size=x.cps.size+y.cps.size
 exact Array.size_append
theorem CC{t1 t2:Str}(M:S9 K D "__init__" f0)(F0:FnOk P w K mg base CX0 1 f0 fd0 ["self", "text"] (SE (KC K)))(hb0:Yl K fd0 ["self", "text"] [])(hm:mg "DealError" = O (.ref D))
  (F:Fun K "__init__" q st f fd) (hn:FnNm (KI st) ["self", "part", "number"] ["DealError"])
  (hb:ZP st=[.Expr (.Call (.Attribute (.Name "DealError" p1) "__init__" p2) [.Name "self" p3,.JoinedStr [.Constant (.str t1) j1 p4,.FormattedValue (.Name "part" p5) (-1) xN p6,.Constant (.str t2) j2 p7,.FormattedValue (.Name "number" p8) (-1) xN p9] r1] [] r2) r3,
   .Assign [.Attribute (.Name "self" r4) "part" r5] (.Name "part" r6) r7,.Assign [.Attribute (.Name "self" r8) "number" r9] (.Name "number" q1) q2])
  (ht:Pw (.Name "DealError" p1) "__init__" p2 [.Name "self" p3,.JoinedStr [.Constant (.str t1) j1 p4,.FormattedValue (.Name "part" p5) (-1) xN p6,.Constant (.str t2) j2 p7,.FormattedValue (.Name "number" p8) (-1) xN p9] r1] r2)
  (hl1:t1.length<=1000) (hl2:t2.length<=1000) :
  FnOk P w K mg base CX0 2 f fd ["self", "part", "number"] (P2 (KC K) ["part", "number"]):=by
 refine F.ok (fq hn 3) (λvs H Q E ⟨a,C,bm,us,e,hl,_⟩=>by rw[e,Qs,hl];rfl) λcdv A outer s H vs Q E hr ⟨a,C,bm,us,e,hl,kc,hx,hf,hq⟩=>?_
 subst e
 match us,hl with
 |[u1,u2],_=>
 rw[hb];obtain⟨pl,ht⟩:=ht (K7 CX0 P w K mg base ["self", "part", "number"] q (KI st) f cdv A outer s H E).nox.env;obtain⟨y1,f1,g1⟩:=hf u1 (by simp);obtain⟨y2,f2,g2⟩:=hf u2 (by simp)
 refine⟨Y7 (PB (PF (SE (KC K)) [] E0 (Sn (Kl 0) (Sn (Rm [tC (.str t1),V0 (Kl 1),tC (.str t2),V0 (Kl 2)] Str.empty) VZ)))) (Y7 (PD (KC K) (Kl 0) (Kl 1) "part") (PD (KC K) (Kl 0) (Kl 2) "number")),
  PSs.kin λkin=>VM (Xz (Ae (pl:=pl) M F0 hr hb0 (gq hn 0) hm (Zq (pq hn 0) (Zq (jW (.cons PQ (.cons (Mh (pq hn 1)) (.cons PQ (.cons (Mh (pq hn 2)) .nil))))) Z4)) (ht:=ht)))
   (VM (Ld (W2 kin) (λC bm ⟨nm,c⟩=>c.fld _ _ kin "part" (by decide)) (pq hn 0) (pq hn 1) xM) (TR (Ld (W2 kin) (λC bm ⟨nm,c⟩=>c.fld _ _ kin "number" (by decide)) (pq hn 0) (pq hn 2) xM))),?_⟩
 have e0:(Str.empty:Str).length=0:=rfl;have lz:(10000:Nat)<=Uw:=by decide
 refine⟨_,rfl,t1,rfl,by rw[YY];lia,_,rfl,y1,f1,_,rfl,by rw[YY,YY];lia,t2,rfl,by rw[YY,YY,YY];lia,_,rfl,y2,f2,_,rfl,by rw[YY,YY,YY,YY];lia,by rw[YY,YY,YY,YY];lia,?_⟩;refine⟨a,C,xN,bm,_,rfl,kc,hx,?_⟩;refine⟨_,rfl,_,rfl,a,C,bm,rfl,kc,.inl ⟨hx,λdx hd hne=>?_⟩⟩;refine⟨_,rfl,_,rfl,a,C,bm,rfl,kc,.inr ⟨dx,_,hne,by rw[Ki (Ne.symm hne)];exact Ks,Ks,(show 1<900 by decide),?_⟩⟩;rw[Lc];exact hq dx hd hne
end
structure XSt(h:Heap)(nm:Str)(own:Option Stmt)(C N:Ut)(bm:xS)(mN:Str->xV):Prop where
 ad:h.nsMap mainGlobals nm=O (.ref C)
 obj:∃q bs sn sub ab col dd k0 k1 k2 k3 k5,h.get? C=O (excClassObj nm q C N bs bm xO sn sub ab col dd k0 k1 k2 k3 k5 "ValueError.__new__")
 ns:h.Ns N mN
 quiet:∀x∈PR,mN x=xN
 up:nm = "DealError" /\ bm=VB∨nm ≠ "DealError" /\ ∃D,h.nsMap mainGlobals "DealError" = O (.ref D)/\bm=.ref D::VB
 init:match own with
  |none=>mN "__init__" = xN
  |some st=>∃f o pm cd doc,mN "__init__" = O (.ref f)/\h.get? f=O o/\o.cls=.type "function" /\ o.data=.func (methDef "__init__" (W3 nm) (Y4 st) (ZP st) (KI st) pm cd doc)/\h.CodeRec cd (W3 nm)
section
variable{h h':Heap}{nm:Str}{own:Option Stmt}{C N:Ut}{bm:xS}{mN:Str->xV}
theorem HS{a:Ut}{x:Str}{v:Uq}(e:h.nsMap a x=O v)(k:∀b o,h.get? b=O o->h'.get? b=O o):h'.nsMap a x=O v:=by
 unfold Heap.nsMap at e⊢;cases z:h.get? a with
 |none=>rw[z]at e;cases e
 |some o=>rw[k _ _ z];rw[z]at e;exact e
theorem XSt.keeps(x:XSt h nm own C N bm mN)(k:∀b o,h.get? b=O o->h'.get? b=O o):XSt h' nm own C N bm mN where
 ad:=HS x.ad k
 obj:=let ⟨q,bs,sn,sub,ab,col,dd,k0,k1,k2,k3,k5,e⟩:=x.obj;⟨q,bs,sn,sub,ab,col,dd,k0,k1,k2,k3,k5,k _ _ e⟩
 ns:=x.ns.keeps k
 quiet:=x.quiet
 up:=x.up.imp id λ⟨a,D,b,c⟩=>⟨a,D,HS b k,c⟩
 init:=by
  have z:=x.init;cases own with
  |none=>exact z
  |some st=>obtain⟨f,o,pm,cd,doc,h1,h2,h3,h4,h5⟩:=z;exact⟨f,o,pm,cd,doc,h1,k _ _ h2,h3,h4,h5.keeps k⟩
theorem dA(st:Stmt):NI st=Y4 st:=by cases st<;>rfl
theorem dB(st:Stmt):NH st=ZP st:=by cases st<;>rfl
theorem dS(st:Stmt):Mc st=KI st:=by cases st<;>rfl
structure XYP(p:Us)(l:XL0)(h:Heap):Prop where
 st:∃mc,h.Ns cStatics mc/\mc "thirdparty.any" = xN
 cl:∀c∈l,∃C N bm mN,XSt h c.1 (c.2.map λi=>YL (Kg p i)) C N bm mN
theorem XYP.keeps{p:Us}{l:XL0}(x:XYP p l h)(k:∀b o,h.get? b=O o->h'.get? b=O o):XYP p l h':=
 ⟨let ⟨mc,a,b⟩:=x.st;⟨mc,a.keeps k,b⟩,λc hc=>let ⟨C,N,bm,mN,z⟩:=x.cl c hc;⟨C,N,bm,mN,z.keeps k⟩⟩
theorem EI{st:Stmt}{n:Bool}(b:xB h nm n=xO)(hown:own=xN->n=xP)(hs:∀st,own=O st->xSh h nm=O (xO,V2 nm st)):∃C N bm mN,XSt h nm own C N bm mN:=by
 unfold xB at b;split at b
 .rename_i C hC
  split at b
  .rename_i t dd cd sl ho
   simp only[Qz,Bool.not_eq_true',beq_iff_eq,Bool.or_eq_true,Q3,Option.isNone_iff_eq_none]at b;obtain⟨⟨⟨⟨⟨⟨⟨⟨b1,b2⟩,b3⟩,b4⟩,b5⟩,b6⟩,b7⟩,b8⟩,b9⟩:=b;obtain⟨cn,cb,cm,cns,cq,chd,csn,csub,cab,ccol,cdel⟩:=cd;simp only at b2 b3 b4 b6 b7 b8 b9;subst b1 b2 b3 b4;split at b5
   .rename_i k0 k1 k2 k3 k4 k5 hsl
    have b5:=Qa b5;subst b5;have hsl':sl=#[k0,k1,k2,k3,O (.builtin "ValueError.__new__"),k5]:=by rw[←Array.toList_inj,hsl]
    subst hsl'
    have key:∃bm,cm=.ref C::bm/\(cn = "DealError" /\ bm=VB∨cn ≠ "DealError" /\ ∃D,h.nsMap mainGlobals "DealError" = O (.ref D)/\bm=.ref D::VB):=by
     split at b9
     .rename_i e
      exact⟨VB,Qa b9,.inl ⟨e,rfl⟩⟩
     .rename_i e
      split at b9
      .rename_i D hD
       exact⟨.ref D::VB,Qa b9,.inr ⟨e,D,hD,rfl⟩⟩
      .cases b9
    obtain⟨bm,rfl,up⟩:=key;refine⟨C,cns,bm,h.nsMap cns,hC,⟨_,_,_,_,_,_,_,_,_,_,_,_,ho⟩,.of_isNs b6,b7,up,?_⟩;cases own with
    |none=>
     rcases b8 with b8|b8
     .rw[hown xM]at b8;cases b8
     .exact b8
    |some st=>
     have e:=hs st xM;unfold xSh at e;rw[hC]at e;dsimp only at e;rw[ho]at e;dsimp only at e;split at e
     .rename_i a o fd sh hf hsh
      simp only[Option.some.injEq,Prod.mk.injEq,Q6]at e;obtain⟨e1,rfl⟩:=e;obtain⟨g1,g2,g3⟩:=Heap.fnAt_spec hf;unfold Heap.shapeAt at hsh;rw[hf]at hsh;obtain⟨n,q,ps,b,sc,g,cl,df,kd,doc,pm,an,code,ct,bi⟩:=fd;simp only[JO,V2,dA,dB,dS,Option.some.injEq,FnShape.mk.injEq]at hsh;obtain⟨rfl,rfl,rfl,rfl,rfl,rfl,rfl,rfl,rfl,rfl,rfl,rfl,hc⟩:=hsh;exact⟨a,o,pm,code,doc,g1,g2,e1,g3,.of_ok hc⟩
     .cases e
   .cases b5
  .cases b
 .cases b
theorem EH{p:Us}{l:XL0}{s:Ur}(e:xSeen l s=xGood p l):XYP p l s.heap:=by
 unfold xSeen xGood at e;obtain⟨e1,e2⟩:=Prod.mk.inj e;obtain⟨e1,e3⟩:=Bool.and_eq_true_iff.mp e1;refine⟨⟨_,.of_isNs e1,Option.isNone_iff_eq_none.mp e3⟩,λc hc=>?_⟩;have q:=List.map_inj_left.mp e2 c hc;obtain⟨q1,q2⟩:=Prod.mk.inj q;refine EI (st:=.Pass ⟨0,0,0,0⟩) q1 (λz=>?_) λst z=>?_
 .cases hz:c.2 with
  |none=>rfl
  |some i=>rw[hz]at z;cases z
 .cases hz:c.2 with
  |none=>rw[hz]at z;cases z
  |some i=>rw[hz]at z q2;cases z;exact q2
end
theorem N4:mroOf (.type "ValueError")=pure VB:=by kernel_rfl
theorem Eb:typeLookup (.type "ValueError") "__setattr__" = pure (O (.builtin "object.__setattr__")):=by kernel_rfl
theorem Ea:typeLookup (.type "ValueError") "__getattribute__" = pure (O (.builtin "BaseException.__getattribute__")):=by kernel_rfl
theorem F9:typeLookup (.type "ValueError") "__getattr__" = pure xN:=by kernel_rfl
theorem F8:typeLookup (.type "ValueError") "__class__" = pure (O (.builtin "object.__class__")):=by kernel_rfl
theorem CB:typeLookup (.type "ValueError") "part" = pure xN:=by kernel_rfl
theorem jg:typeLookup (.type "ValueError") "number" = pure xN:=by kernel_rfl
theorem EG:typeLookup (.type "ValueError") "row" = pure xN:=by kernel_rfl
theorem MB(v:Uq):refuseLoop v "__setattr__" VB=pure ():=by kernel_rfl
section
variable{h h':Heap}{nm:Str}{own ownD:Option Stmt}{C N D ND:Ut}{bm:xS}{mN mD:Str->xV}{M:Model}
theorem XSt.along(x:XSt h nm own C N bm mN)(xD:XSt h "DealError" ownD D ND VB mD){y:Str}{r:xV}(hy:y∈PR)(hB:typeLookup (.type "ValueError") y=pure r):KY M C y r h:=by
 obtain⟨q,bs,sn,sub,ab,col,dd,k0,k1,k2,k3,k5,e⟩:=x.obj;obtain⟨q',bs',sn',sub',wM,col',vJ,k0',k1',k2',k3',k5',e'⟩:=xD.obj;refine KY.of e (YH.miss e x.ns (x.quiet y hy) ?_);rcases x.up with ⟨_,rfl⟩|⟨_,D',vw,rfl⟩
 .exact YH.base N4 hB
 .have:=vw.symm.trans xD.ad
  cases this;exact YH.miss e' xD.ns (xD.quiet y hy) (YH.base N4 hB)
theorem XSt.tail(x:XSt h nm own C N bm mN):Tail VB bm:=by
 rcases x.up with ⟨_,rfl⟩|⟨_,D',_,rfl⟩
 .exact Tail.base
 .exact Tail.own Tail.base
def S5(h:Heap)(own ownD:Option Stmt)(mN mD:Str->xV)(nm:Str)(f:Ut):Prop:=match own with
 |some _=>mN "__init__" = O (.ref f)
 |none=>mD "__init__" = O (.ref f)
theorem XSt.xcls(x:XSt h nm own C N bm mN){std:Stmt}(xD:XSt h "DealError" (O std) D ND VB mD){f:Ut}(hf:S5 h own (O std) mN mD nm f):XCls M h C bm f:=by
 have hD:=xD.init;obtain⟨fD,oD,pmD,cdD,docD,g1,g2,g3,g4,g5⟩:=hD;obtain⟨q,bs,sn,sub,ab,col,dd,k0,k1,k2,k3,k5,e⟩:=id x.obj;obtain⟨q',bs',sn',sub',wM,col',vJ,k0',k1',k2',k3',k5',e'⟩:=id xD.obj
 have fin:KY M C "__init__" (O (.ref f)) h/\∃o,h.get? f=O o/\o.cls=.type "function" :=by
  have z:=x.init;unfold S5 at hf;cases own with
  |some st=>obtain⟨f',o,pm,cd,doc,h1,h2,h3,h4,h5⟩:=z;have hf:mN "__init__" = O (.ref f):=hf;rw[h1]at hf;cases hf;exact⟨KY.of e (YH.hit e x.ns h1),o,h2,h3⟩
  |none=>
   have hf:mD "__init__" = O (.ref f):=hf;have z:mN "__init__" = xN:=z;rw[g1]at hf;cases hf;refine⟨KY.of e (YH.miss e x.ns z ?_),oD,g2,g3⟩;rcases x.up with ⟨hn,rfl⟩|⟨_,D',vw,rfl⟩
   .subst hn
    have:=x.ad.symm.trans xD.ad;cases this;rw[e]at e';cases e';have:=x.ns.eq_nsMap.trans xD.ns.eq_nsMap.symm;rw[this]at z;rw[g1]at z;cases z
   .have:=vw.symm.trans xD.ad
    cases this;exact YH.hit e' xD.ns g1
 refine⟨⟨nm,q,N,bs,sn,sub,ab,col,dd,k0,k1,k2,k3,k5,e⟩,x.tail,fin.1,fin.2,x.along xD (by decide) Eb,x.along xD (by decide) Ea,x.along xD (by decide) F9,x.along xD (by decide) F8,λv=>?_⟩;rcases x.up with ⟨_,rfl⟩|⟨_,D',_,rfl⟩
 .exact MB v
 .rw[refuseLoop_ref];exact MB v
theorem Vi(k:(whole h).In h'):∀b o,h.get? b=O o->h'.get? b=O o:=λb o e=>k b o (by rw[Yw];exact e)
theorem OU{mA:Str->xV}{a:Ut}(n:h.Ns a mA)(y:Str):PySem.W.nsIn (whole h) a y=O (mA y):=by
 obtain⟨⟨oc,od,dt,os⟩,es,ep,ho,hd,hk,hf⟩:=n;have hd:dt=_:=hd;subst hd;unfold PySem.W.nsIn;rw[Yw,ho];dsimp only;have:=hf y;unfold nsFind findBy at this;rw[←Array.find?_toList]at this;dsimp only at this;rw[←this];cases z:es.toList.find? (·.key.isStr y)with
 |some e=>rfl
 |none=>
  dsimp only;rw[Qw]
  .rfl
  .rw[List.any_eq_true]
   rintro⟨e,he,hr⟩;obtain⟨n,t,hk⟩:=hk e (Array.mem_toList_iff.mp he);unfold DictEntry.refKey at hr;rw[hk]at hr;cases hr
theorem XSt.nmd(x:XSt h nm own C N bm mN):NmAt (whole h) nm C:=by obtain⟨q,bs,sn,sub,ab,col,dd,k0,k1,k2,k3,k5,e⟩:=x.obj;exact⟨_,_,by rw[Yw];exact e,rfl,rfl⟩
theorem HR{mg:Str->xV}(n:h.Ns mainGlobals mg)(e:h.nsMap mainGlobals nm=O (.ref C)):Rl (whole h) nm=O C:=by unfold Rl;rw[OU n,n.eq_nsMap,e]
theorem XSt.clsK{mg:Str->xV}(n:h.Ns mainGlobals mg)(x:XSt h nm own C N bm mN){std:Stmt}(xD:XSt h "DealError" (O std) D ND VB mD){f:Ut}(hf:S5 h own (O std) mN mD nm f):ClsK (whole h) nm C bm where
 ad:=HR n x.ad
 nmd:=x.nmd
 up:=x.up.imp id λ⟨a,D',b,c⟩=>⟨a,D',HR n b,c,by have:=b.symm.trans xD.ad;cases this;exact xD.nmd⟩
 cls:=λM h' k=>⟨f,(x.keeps (Vi k)).xcls (xD.keeps (Vi k)) (by unfold S5 at hf⊢;cases own<;>exact hf)⟩
 fld:=λM h' k y hy=>by
  have z:=x.keeps (Vi k);have zD:=xD.keeps (Vi k);simp only[QC,List.not_mem_nil,or_false]at hy;rcases hy with rfl|rfl|rfl
  .exact z.along zD (by decide) CB
  .exact z.along zD (by decide) jg
  .exact z.along zD (by decide) EG
theorem XSt.keep(x:XSt h nm own C N bm mN):PySem.W.keepIn (whole h) (.ref C)=xO:=by obtain⟨q,bs,sn,sub,ab,col,dd,k0,k1,k2,k3,k5,e⟩:=x.obj;unfold PySem.W.keepIn;dsimp only;rw[Yw,e];dsimp only;unfold PySem.W.specialIn PySem.W.typeIn;dsimp only;rw[Yw,e];kernel_rfl
theorem XSt.fun{st:Stmt}(x:XSt h nm (O st) C N bm mN):∃f fd,mN "__init__" = O (.ref f)/\Fun (whole h) "__init__" (W3 nm) st f fd:=by
 obtain⟨f,⟨oc,od,dt,osl⟩,pm,cd,doc,h1,h2,h3,h4,h5⟩:=x.init;have h4:dt=_:=h4;subst h4;refine⟨f,_,h1,⟨⟨oc,od,.none,doc,pm,_,cd,_,osl,rfl,by rw[Yw];exact h2,?_⟩,?_⟩⟩
 .obtain⟨c,⟨_,_,dc,_⟩,vs,t,rfl,g1,g2,g3⟩:=h5
  have g2:dc=_:=g2;subst g2;unfold PySem.W.codeIn;dsimp only;rw[Yw,g1];dsimp only;have g4:vs.toList[1]?=O (.str (W3 nm) t):=by rw[Array.getElem?_toList];exact g3
  cases hv:vs.toList with
  |nil=>rw[hv]at g4;cases g4
  |cons v0 r=>
   rw[hv]at g4;cases r with
   |nil=>cases g4
   |cons v1 r=>cases g4;exact beq_self_eq_true _
 .unfold PySem.W.keepIn
  dsimp only;rw[Yw,h2]
theorem tf1{K:Frag}:PySem.W.findIn K (.type "type") "__init__" = O (O (.builtin "type.__init__")):=by kernel_rfl
theorem tf2{K:Frag}:PySem.W.specialIn K (.builtin "type.__init__") "__get__" = O (O (.builtin "wrapper_descriptor.__get__")):=by kernel_rfl
theorem tf3{K:Frag}:PySem.W.takesIn K (.builtin "type.__init__")=O xP:=by kernel_rfl
theorem tf4{K:Frag}:PySem.W.findIn K (.type "type") "__getattribute__" = O (O (.builtin "type.__getattribute__")):=by kernel_rfl
theorem tf5{K:Frag}:PySem.W.subIn K (.type "type") (.type "type")=O xO:=by kernel_rfl
theorem XSt.clsFn{st:Stmt}(x:XSt h "DealError" (O st) D ND VB mD)(hs:∃mc,h.Ns cStatics mc/\mc "thirdparty.any" = xN){f:Ut}(hf:mD "__init__" = O (.ref f)):S9 (whole h) D "__init__" f:=by
 obtain⟨f',o,pm,cd,doc,h1,h2,h3,h4,h5⟩:=x.init;rw[h1]at hf;cases hf;obtain⟨q,bs,sn,sub,ab,col,dd,k0,k1,k2,k3,k5,e⟩:=x.obj;obtain⟨mc,hc1,hc2⟩:=hs;have tD:PySem.W.typeIn (whole h) (.ref D)=O (.type "type"):=by unfold PySem.W.typeIn;dsimp only;rw[Yw,e];rfl
 have tf:PySem.W.typeIn (whole h) (.ref f)=O (.type "function"):=by unfold PySem.W.typeIn;dsimp only;rw[Yw,h2];exact JX O h3
 refine⟨?_,?_,?_,?_⟩
 .unfold PySem.W.specialIn
  rw[tD];exact tf4 (K:=whole h)
 .unfold PySem.W.readsIn
  rw[OU hc1,hc2,tD,tf4,tf5];rfl
 .unfold PySem.W.findCls
  rw[tf1];dsimp only[Option.bind_some];rw[tf2];dsimp only[Option.bind_some];rw[tf3];dsimp only[Option.bind_some];have hfi:PySem.W.findIn (whole h) (.ref D) "__init__" = O (O (.ref f)):=by unfold PySem.W.findIn;dsimp only;rw[Yw,e];dsimp only;unfold PySem.W.alongIn PySem.W.ownIn;dsimp only;rw[Yw,e];dsimp only;rw[OU x.ns,h1]
  rw[hfi];dsimp only[Option.bind_some];rw[Qw (show ¬Builtin.heldUnderItsOwnName "__init__" (.ref f)=xO from λz=>by cases z),tf];rfl
 .unfold PySem.W.keepIn
  dsimp only;rw[Yw,h2];obtain⟨oc,od,dt,osl⟩:=o;have h4:dt=_:=h4;subst h4;rfl
end
section
variable{h:Heap}{mg:Str->xV}{p:Us}{l:XL0}{i j:Nat}{c:Str×Option Nat}{p1 p2 p3 p4 p5 p6 p7 p8 p9 r1 r2 r3 r4 r5 r6 r7 r8 r9 q1 q2:Pos}{j1 j2:Nat}
structure Root(p:Us)(h:Heap)(mg:Str->xV)(i:Nat)(D f:Ut)(fd:Uu):Prop where
 at':mg "DealError" = O (.ref D)
 ex:∃ND mD,XSt h "DealError" (O (YL (Kg p i))) D ND VB mD/\mD "__init__" = O (.ref f)
 cf:S9 (whole h) D "__init__" f
 bd:Yl (whole h) fd ["self", "text"] []
 ok:∀(P:Us)(w:World)(base:Heap),FnOk P w (whole h) mg base CX0 1 f fd ["self", "text"] (SE (KC (whole h)))
theorem XSt.root{own:Option Stmt}{C N:Ut}{bm:xS}{mN:Str->xV}(x:XSt h "DealError" own C N bm mN):bm=VB:=by
 rcases x.up with ⟨_,rfl⟩|⟨z,_⟩
 .rfl
 .exact absurd xM z
theorem CA(n:h.Ns mainGlobals mg)(Y:XYP p l h)(hD:(((("DealError" : Str),O i):Str×Option Nat)∈l))(hm:mg "ValueError" = xN)(hn:FnNm (KI (YL (Kg p i))) ["self", "text"] ["ValueError"])
  (hb:ZP (YL (Kg p i))=[.Expr (.Call (.Attribute (.Name "ValueError" p1) "__init__" p2) [.Name "self" p3,.Name "text" p4] [] p5) p6])
  (ht:Pw (.Name "ValueError" p1) "__init__" p2 [.Name "self" p3,.Name "text" p4] p5)
  (hbz:∀(kV doc pm:Uq)(an:va)(cdv ct:Uq)(us:xS),us.length=(["self", "text"]:List Str).length->bindArgs (PySem.W.fnOf "__init__" (W3 "DealError") (Y4 (YL (Kg p i))) (ZP (YL (Kg p i))) (KI (YL (Kg p i))) .none kV doc pm an cdv ct) ⟨us,[]⟩=pure ((["self", "text"]:List Str).zip us)) :
  ∃D f fd,Root p h mg i D f fd:=by
 obtain⟨D,ND,bm,mD,x⟩:=Y.cl _ hD;have:=x.root;subst this;obtain⟨f,fd,hf,FU⟩:=XSt.fun (st:=YL (Kg p i)) x;exact⟨D,f,fd,by rw[n.eq_nsMap];exact x.ad,⟨ND,mD,x,hf⟩,XSt.clsFn (st:=YL (Kg p i)) x Y.st hf,FU.binds hbz,λP w base=>CD FU hn hm hb ht⟩
theorem YT(n:h.Ns mainGlobals mg)(Y:XYP p l h){D f:Ut}{fd:Uu}(R:Root p h mg i D f fd)(hc:c∈l):CK (whole h) mg c.1:=by
 obtain⟨C,N,bm,mN,x⟩:=Y.cl _ hc;obtain⟨ND,mD,xD,hf⟩:=R.ex;cases hz:c.2 with
 |none=>rw[hz]at x;exact⟨C,bm,by rw[n.eq_nsMap];exact x.ad,XSt.clsK n x xD (f:=f) hf⟩
 |some k=>rw[hz]at x;obtain⟨f',o,pm,cd,doc,h1,h2⟩:=x.init;exact⟨C,bm,by rw[n.eq_nsMap];exact x.ad,XSt.clsK n x xD (f:=f') h1⟩
theorem EF(n:h.Ns mainGlobals mg)(Y:XYP p l h){D f:Ut}{fd:Uu}(R:Root p h mg i D f fd){nm:Str}(hc:(nm,xN)∈l)(hf:ZO nm=[])(P:Us)(w:World)(base:Heap):MkX P w (whole h) mg base nm 1:=by obtain⟨C,N,bm,mN,x⟩:=Y.cl _ hc;obtain⟨ND,mD,xD,hi⟩:=R.ex;have ck:=XSt.clsK n x xD (f:=f) hi;exact⟨C,bm,f,fd,_,_,by rw[n.eq_nsMap];exact x.ad,x.keep,ck,λM h' k=>(x.keeps (Vi k)).xcls (xD.keeps (Vi k)) hi,R.ok P w base,R.bd,AR ck hf⟩
theorem EE(n:h.Ns mainGlobals mg)(Y:XYP p l h){D f:Ut}{fd:Uu}(R:Root p h mg i D f fd){nm:Str}(hc:(nm,O j)∈l)(hf:ZO nm≠[]){ps:List Str}(P:Us)(w:World)(base:Heap)
  (hbz:∀(kV doc pm:Uq)(an:va)(cdv ct:Uq)(us:xS),us.length=ps.length->bindArgs (PySem.W.fnOf "__init__" (W3 nm) (Y4 (YL (Kg p j))) (ZP (YL (Kg p j))) (KI (YL (Kg p j))) .none kV doc pm an cdv ct) ⟨us,[]⟩=pure (ps.zip us))
  (ok:∀{f':Ut}{fd':Uu},Fun (whole h) "__init__" (W3 nm) (YL (Kg p j)) f' fd'->FnOk P w (whole h) mg base CX0 2 f' fd' ps (P2 (KC (whole h)) (ZO nm))):MkX P w (whole h) mg base nm 2:=by
 obtain⟨C,N,bm,mN,x⟩:=Y.cl _ hc;obtain⟨ND,mD,xD,hi⟩:=R.ex;obtain⟨f',fd',hf',FU⟩:=XSt.fun (st:=YL (Kg p j)) x;have ck:=XSt.clsK n x xD (f:=f') hf';exact⟨C,bm,f',fd',_,_,by rw[n.eq_nsMap];exact x.ad,x.keep,ck,λM h' k=>(x.keeps (Vi k)).xcls (xD.keeps (Vi k)) hf',ok FU,FU.binds hbz,AQ ck hf⟩
end
theorem Vz{cc:Bool}{q p:Us}{loose:List Str}{mean:ExcName->xV}{mg mb:Str->xV}{h:Heap}{ix:xY}(P:Us)(w:World)(base:Heap){ps:List Str}{k n:Nat}{F:xQ->Option XR}(T:Top q loose mean mg mb h)(e:recsOf q=W7 p ix)(i:Nat)(x:Str)(hi:ix.contains i=xO)(hn:TK (Kg p i)=O x)
  (ok:∀{f:Ut}{fd:Uu},Fun (whole h) x x (Kg p i) f fd->FnOk P w (whole h) mg base (YC cc P w) k f fd ps (spX (whole h) n F))
  (hb:∀(kV doc pm:Uq)(an:va)(cdv ct:Uq)(us:xS),us.length=ps.length->bindArgs (PySem.W.fnOf x x (Y4 (Kg p i)) (ZP (Kg p i)) (KI (Kg p i)) .none kV doc pm an cdv ct) ⟨us,[]⟩=pure (ps.zip us)):Ps cc P w (whole h) mg base x k n F:=by
 obtain⟨f,fd,m,FU⟩:=Sw T e i x hi hn;exact⟨f,fd,ps,m,FU.kp,FU.binds hb,ok FU⟩
theorem A8{l:PySem.W.OpenLaw}{n k:Nat}{q:Us}{loose:List Str}{XP:(Str->xV)->Heap->Prop}{YP:World->Heap->Prop}{d:DefRec}{F:xQ->xT}{x:Str}
  (hn:l.most=O n) (hn2:n<=Uw) (hdf:d.params.defaults=[]) (hr:Room k callerA)
  (hF:∀(w:World)(s₀:Ur)(mg mb:Str->xV)(fa:Ut)(h:Heap),PySem.W.Ground q loose [] XP w s₀ mg mb h->YP w h->mg d.name=O (.ref fa) ->
   ∃fd:Uu,(∀(s:Ur)(u:Uq),BindsTo s fd ⟨[u],[]⟩ [(x,u)])/\∀base:Heap,FnOk l.prog w (whole h) mg base CX0 k fa fd [x] (spD (whole h) 1 F))
  (hl:∀ns:xR,ns.length<=n->F [.list (ns.map int)]=O (.bool xO)) :
  PySem.W.WalkO q loose XP YP l.row.toRowW d [] (λf vs=>PySem.call f vs):=by
 refine Att.attach_call hn hdf λw s₀ s₁ mg mb fa o pm cd doc a vs ns G Y ho hd hcd hmg hobj hints hlen hg=>?_
 obtain⟨fd,hb,hF⟩:=hF w s₀ mg mb fa _ G Y hmg;exact Al (BS _) G.T.g G.T.b G.T.builtins G.T.nolimit hg hobj hints (Qt hlen hn2) hr (λbase _ _=>hF base) hb (λH hO hS=>Ej hS (hl ns hlen)) λH e s' z=>z
section
variable{α β:Type}{ρ ρ1 ρ2 ρ3 ρ':UQ}{f:M D}{s t:SM}{Q:Out->Prop}{d:D}{ds fs:xQ}{nm x:Str}{o:Out}
theorem Wb{g:M xQ}(h1:g ρ=.ok ds ρ1)(h2:Wg nm ds=O fs):X1 nm g ρ=.ex ρ1 (exD nm fs):=by unfold X1 sB;rw[h1];dsimp only;rw[h2]
theorem Pv{f:M XR}{g:D->SM}(h1:f ρ=.ok (.val d) ρ1)(h2:g d ρ1=o):sX f g ρ=o:=by unfold sX;rw[h1];exact h2
theorem Wf{f:M XR}{g:D->SM}(h1:f ρ=.ok (.exc d) ρ1):sX f g ρ=.ex ρ1 d:=by unfold sX;rw[h1]
theorem Xo{n:Nat}{F:xQ->Option XR}{g:M xQ}{xs:xQ}{r:XR}(h1:g ρ=.ok xs ρ1)(h2:xs.length=n)(h3:F xs=O r):Z5 n F g ρ=.ok r ρ1:=by unfold Z5;exact KM h1 (by rw[Qq h2];exact ZG h3)
theorem BO{c:String}{t:Bool}(h:f ρ=.ok d ρ1)(ht:KD d c=t):U3 (λd=>UD (KD d c)) f ρ=.ok (UD t) ρ1:=by subst ht;exact K5 (k:=λd=>UD (KD d c)) h
theorem ED{c:String}{kvs:List (D×D)}(h:f ρ=.ok (.dict kvs) ρ1)(hc:(("dict" == c) || ("" == c))=xP:=by decide):U3 (λd=>UD (KD d c)) f ρ=.ok (UD xP) ρ1:=BO h (nty hc)
theorem SA{c:String}{kvs:List (D×D)}(h:f ρ=.ok (.dict kvs) ρ1)(hc:(("dict" == c) || ("" == c))=xP:=by decide):Kv (ZC (U3 (λd=>.bool (KD d c)) f)) ρ=.ok xO ρ1:=Yx h (by rw[nty hc];rfl)
noncomputable def OutX(r:XR):Out->Prop
 |.rt d=>r=.val d
 |.nx _=>r=.val .none
 |.ex _ d=>r=.exc d/\Xs d=xO
 |_=>False
theorem W6{N:List Str}{r:XR}(h0:Zk N ds=ρ)(h:Ho s ρ (OutX r)):ZI N s ds=O r:=by
 subst h0;have h:=h.out;unfold ZI;cases z:s (Zk N ds)with
 |rt d=>rw[z]at h;rw[show r=.val d from h]
 |nx ρ'=>rw[z]at h;rw[show r=.val .none from h]
 |ex ρ' d=>rw[z]at h;dsimp only;rw[if_pos h.2,h.1]
 |ro _=>rw[z]at h;exact h.elim
 |bk ρ'=>rw[z]at h;exact h.elim
 |ct ρ'=>rw[z]at h;exact h.elim
 |bad=>rw[z]at h;exact h.elim
noncomputable def fb(p:D->Bool):Nat->xQ->Option Nat
 |_,[]=>xN
 |k,x::r=>if p x=xO then fb p (k+1) r else O k
noncomputable def F7:Out->Prop
 |.rt _=>True
 |.ex _ _=>True
 |_=>False
structure fbQ(p:D->Bool)(xs:xQ)(I:UQ->Prop)(Q:Out->Prop)(x:D)(j:Nat)(o:Out):Prop where
 out:(p x=xO/\∃ρ2,o=.nx ρ2/\I ρ2)∨(p x=xP/\F7 o/\(fb p 0 xs=O j->Q o))
theorem Ny{p:D->Bool}{xs:xQ}{I:UQ->Prop}{x:D}{j:Nat}(hp:p x=xO)(h:I ρ):fbQ p xs I Q x j (.nx ρ):=⟨.inl ⟨hp,ρ,rfl,h⟩⟩
theorem Nx{p:D->Bool}{xs:xQ}{I:UQ->Prop}{x:D}{j:Nat}(hp:p x=xP)(h:fb p 0 xs=O j->Q (.ex ρ d)):fbQ p xs I Q x j (.ex ρ d):=⟨.inr ⟨hp,trivial,h⟩⟩
theorem LK{f:M xQ}{sg:D->UQ->xX}{xs:xQ}(p:D->Bool)(I:UQ->Prop)(h1:f ρ=.ok (ZB 0 xs) ρ1)(h0:I ρ1)
  (hst:∀x∈xs,∀(j:Nat) ρ,j<xs.length->I ρ->∃ρ1,sg (.tuple [.int j,x]) ρ=O ρ1/\Ho s ρ1 (fbQ p xs I Q x j))
  (hend:fb p 0 xs=xN->∀ρ,I ρ->Q (.nx ρ)):Ho (Kq f sg s) ρ Q:=by
 constructor;unfold Kq sB;rw[h1];dsimp only
 have key:∀(ys:xQ)(k:Nat)(ρ:UQ),I ρ->(∀x∈ys,x∈xs)->k+ys.length<=xs.length->fb p k ys=fb p 0 xs->Q (XV sg s (ZB k ys) ρ):=by
  intro ys;induction ys with
  |nil=>intro k ρ hi _ _ he;exact hend he.symm ρ hi
  |cons x r ih=>
   intro k ρ hi hm hl he;rw[Qs]at hl;obtain⟨ρ2,e2,a1⟩:=hst x (hm x Qf) k ρ (by lia) hi;rw[ZB,XV,e2];dsimp only;rw[fb]at he;rcases a1.out.out with ⟨hp,ρ3,e3,i3⟩|⟨hp,b1,b2⟩
   .rw[hp,Qq xM]at he
    rw[e3];exact ih (k+1) ρ3 i3 (λy hy=>hm y (Qh _ hy)) (by lia) he
   .rw[hp,Qw (by decide)]at he
    have b2:=b2 he.symm;cases z:s ρ2 with
    |rt d=>rw[z]at b2;exact b2
    |ex ρ' d=>rw[z]at b2;exact b2
    |nx ρ'=>rw[z]at b1;exact b1.elim
    |ro _=>rw[z]at b1;exact b1.elim
    |bk ρ'=>rw[z]at b1;exact b1.elim
    |ct ρ'=>rw[z]at b1;exact b1.elim
    |bad=>rw[z]at b1;exact b1.elim
 exact key xs 0 ρ1 h0 (λ_ h=>h) (by lia) xM
end
section
variable{X:Cx}{B G0:Hp}{KX:XW}{e o a b c:Uv}{pos p2:Pos}{es rest:xU}
noncomputable def S4:xQ->xT
 |[.list xs]=>O (.tuple xs)
 |[.tuple xs]=>O (.tuple xs)
 |_=>xN
theorem F6:Yk X (.type "tuple") S4:=by
 refine⟨_,xm,λvs G H ds d Q s r e k=>?_⟩;unfold S4 at e;split at e
 .cases e
  obtain⟨v,rfl,q⟩:=r.one_inv;obtain⟨l,ws,rfl,h1,r1⟩:=q.lst_inv;exact⟨l,ws,rfl,.inl ⟨s.seq h1,λp hp=>k _ _ _ (Ext.new s hp) (.tup (SqT.of Ks) (r1.mono (Zd (s.free hp))))⟩⟩
 .cases e
  obtain⟨v,rfl,q⟩:=r.one_inv;obtain⟨l,ws,rfl,h1,r1⟩:=q.tup_inv;exact⟨l,ws,rfl,.inr ⟨YE s h1,k _ G H (.refl s) (.tup h1 r1)⟩⟩
 .cases e
end
end DL
namespace L2
open PySem PySem.Spec PyProof.Rows
end L2
namespace DL
open PySem PySem.Spec L2
open PyProof.Rows hiding St
end DL
namespace DL
open PySem PySem.Spec L2 PySem.SeqAt PySem.AutoSeq1
open PyProof.Rows hiding St
end DL
namespace DL
open PySem PySem.Spec L2
open PyProof.Rows hiding St
end DL
namespace L2
open PySem PySem.Spec PyProof.Rows
end L2
namespace DL
open PySem PySem.Spec L2
open PyProof.Rows hiding St
end DL
namespace L2
open PySem PySem.Spec PyProof.Rows
end L2
namespace DL
open PySem PySem.Spec L2
open PyProof.Rows hiding St
noncomputable def spO(K:Frag)(n:Nat)(F:xQ->Option xQ):Sp:=λvs H Q _=>∃G ds r,vs.length=n/\Same G H/\Reps K G vs ds/\F ds=O r/\∀a ws G' H',Ext G H G' H'->H a=xN->G' a=xN->H' a=O (.lst ws)->Reps K G' ws r->Q (.ref a) H'
noncomputable def tSO(K:Frag)(B G0:Hp)(g:SM)(f:M xQ):TS:=λDn σ H=>∃G ρ,EOk K B G0 G H σ ρ/\match g ρ with
 |.nx ρ1=>(match f ρ1 with
  |.ok ds _=>∀a vs G' H',Ext G0 B G' H'->B a=xN->G' a=xN->H' a=O (.lst vs)->Reps K G' vs ds->Dn.rt (.ref a) H'
  |.bad=>False)
 |.ro ds=>∀a vs G' H',Ext G0 B G' H'->B a=xN->G' a=xN->H' a=O (.lst vs)->Reps K G' vs ds->Dn.rt (.ref a) H'
 |_=>False
section
variable{X:Cx}{B G0:Hp}{e:Uv}{pos:Pos}{es:xU}{st:Stmt}{sts:List Stmt}
theorem N0{f:M xQ}(h:PE X e (tL X.K B G0 f)):PSs X [.Return (O e) pos] (tSO X.K B G0 sNx f):=W1 (TR (PP h)) λD σ H ⟨G,ρ,k,a⟩=>by
 refine⟨G,ρ,k,?_⟩;dsimp only[sNx]at a;cases z:f ρ with
 |bad=>rw[z]at a;exact a.elim
 |ok ds ρ'=>rw[z]at a;exact λad vs G' H' k' s' n=>a ad vs G' H' k'.exit n.b n.g n.h n.r
theorem SI{g h:SM}{f:M xQ}(h1:PS X st (tS X.K B G0 KX0 g))(h2:PSs X sts (tSO X.K B G0 h f)):PSs X (st::sts) (tSO X.K B G0 (UV g h) f):=W1 (VM h1 h2) λD σ H ⟨G,ρ,k,a⟩=>by
 refine⟨G,ρ,k,?_⟩;unfold UV at a;cases z:g ρ with
 |nx ρ1=>rw[z]at a;exact λσ' G' H' k' s'=>⟨G',ρ1,k',a⟩
 |rt d=>rw[z]at a;exact a.elim
 |ro ds=>rw[z]at a;exact a
 |bk ρ1=>rw[z]at a;exact a.elim
 |ct ρ1=>rw[z]at a;exact a.elim
 |ex ρ1 d=>rw[z]at a;exact a.elim
 |bad=>rw[z]at a;exact a.elim
noncomputable def Y9(N:List Str)(g:SM)(f:M xQ)(ds:xQ):Option xQ:=match g (Zk N ds)with
 |.nx ρ=>(match f ρ with
  |.ok r _=>O r
  |.bad=>xN)
 |.ro ds=>O ds
 |_=>xN
theorem okO{P:Us}{w:World}{K:Frag}{mg:Str->xV}{base:Heap}{x qual:Str}{st:Stmt}{f:Ut}{fd:Uu}{N ps:List Str}{k n:Nat}{g:SM}{q:M xQ}(F:Fun K x qual st f fd)(S:W8 N ps (KI st))(hn:ps.length=n)
  (der:∀(cdv:Uq)(A:Around)(outer:List Env)(s:Ur)(H:Hp)(E:XK)(B G0:Hp),Room k (A.deeper (envOfC qual (KI st) s.heap.objs.size f cdv)) ->
   PSs (K7 CX0 P w K mg base N qual (KI st) f cdv A outer s H E).nox (ZP st) (tSO K B G0 g q)):FnOk P w K mg base CX0 (k+1) f fd ps (spO K n (Y9 N g q)):=by
 refine F.ok S (λvs H Q E h=>?_) (λcdv A outer s H vs Q E hr h=>?_)
 .obtain⟨_,_,_,hl,_⟩:=h
  rw[hl,hn]
 .obtain⟨G,ds,d,hl,sg,r,hF,qq⟩:=h
  refine⟨_,der cdv A outer s H E H G hr,G,Zk N ds,R8 sg r,?_⟩;unfold Y9 at hF;cases z:g (Zk N ds)with
  |nx ρ=>
   rw[z]at hF;dsimp only at hF⊢;cases z2:q ρ with
   |bad=>rw[z2]at hF;cases hF
   |ok d' ρ'=>rw[z2]at hF;cases hF;exact λa vs G' H' ex hb hg hh rr=>qq a vs G' H' ex hb hg hh rr
  |rt d'=>rw[z]at hF;cases hF
  |ro d'=>rw[z]at hF;cases hF;exact λa vs G' H' ex hb hg hh rr=>qq a vs G' H' ex hb hg hh rr
  |bk ρ=>rw[z]at hF;cases hF
  |ct ρ=>rw[z]at hF;cases hF
  |ex ρ d=>rw[z]at hF;cases hF
  |bad=>rw[z]at hF;cases hF
def WY(P:Us)(w:World)(K:Frag)(mg:Str->xV)(base:Heap)(x:Str)(k n:Nat)(F:xQ->Option xQ):Prop:=
 ∃(f:Ut)(fd:Uu)(ps:List Str),mg x=O (.ref f)/\PySem.W.keepIn K (.ref f)=xO/\Yl K fd ps []/\FnOk P w K mg base CX0 k f fd ps (spO K n F)
noncomputable def Vt(n:Nat)(F:xQ->Option xQ)(g:M xQ):M xQ:=U2 g λxs=>if xs.length=n then U1 (F xs)else λ_=>.bad
theorem A7{k kk n:Nat}{F:xQ->Option xQ}{g:M xQ}{x:Str}{p2:Pos}(d:WY X.prog X.w X.K X.mg X.base x k n F)(hr:Room kk X.A)(hg:Gl X x)(ha:PA X (e::es) (tDs X.K B G0 g))(hk:k<=kk:=by decide)(hn:(e::es).length=n:=by rfl)
  (hdb:(x==("__debug__" : Str))=xP:=by decide) (he:Uy (e::es) X.env=(xP,eval e X.env)::Uy es X.env:=by rfl) (hpl:(backTo pos (Uy es X.env)).any (·.1)=xP:=by rfl) :
  PE X (.Call (.Name x p2) (e::es) [] pos) (tL X.K B G0 (Vt n F g)):=by
 obtain⟨f,fd,ps,h1,h2,h3,h4⟩:=d;refine Kb (P4 h4 (hr.mono hk) hg h1 h2 h3 .nil Ra ha hdb he hpl) λσ H Q ⟨G,ρ,kk0,a⟩=>?_
 refine⟨G,ρ,kk0,?_⟩;unfold Vt U2 at a;cases z:g ρ with
 |bad=>rw[z]at a;exact a.elim
 |ok xs ρ1=>
  rw[z]at a;dsimp only at a⊢;intro vs G1 H1 k1 s1 r1;by_cases hl:xs.length=n
  .rw[Qq hl]at a
   unfold U1 at a;cases zf:F xs with
   |none=>rw[zf]at a;exact a.elim
   |some r=>
    rw[zf]at a;dsimp only at a;refine⟨G1,xs,r,by rw[QH,r1.length];exact hl,k1.gh,by rw[QH];exact r1,zf,λad ws G' H' ex hh wH hH rr=>?_⟩;refine a ad ws G' H' (k1.ext ex) (s1.trans ex.g) ⟨?_,wH,hH,rr,λj es q w=>?_,λj pt d v fp q s r=>k1.freshD ex.h hh q s r⟩
    .cases q:B ad with
     |none=>rfl
     |some u=>have:=k1.bh ad u q;rw[hh]at this;cases this
    .obtain⟨b,us,g1,g2,g3,g4,g5⟩:=k1.own j es q
     rw[g1]at w;cases w;rw[hh]at g4;cases g4
  .rw[Qw hl]at a
   exact a.elim
end
theorem NZ{q p:Us}{loose:List Str}{mean:ExcName->xV}{mg mb:Str->xV}{h:Heap}{ix:xY}(P:Us)(w:World)(base:Heap){ps:List Str}{k n:Nat}{F:xQ->Option xQ}(T:PyProof.Rows.Top q loose mean mg mb h)(e:recsOf q=W7 p ix)(i:Nat)(x:Str)(hi:ix.contains i=xO)(hn:TK (Kg p i)=O x)
  (ok:∀{f:Ut}{fd:Uu},Fun (whole h) x x (Kg p i) f fd->FnOk P w (whole h) mg base CX0 k f fd ps (spO (whole h) n F))
  (hb:∀(kV doc pm:Uq)(an:va)(cdv ct:Uq)(us:xS),us.length=ps.length->bindArgs (PySem.W.fnOf x x (Y4 (Kg p i)) (ZP (Kg p i)) (KI (Kg p i)) .none kV doc pm an cdv ct) ⟨us,[]⟩=pure (ps.zip us)):WY P w (whole h) mg base x k n F:=by
 obtain⟨f,fd,m,FU⟩:=Sw T e i x hi hn;exact⟨f,fd,ps,m,FU.kp,FU.binds hb,ok FU⟩
theorem Oi{n:Nat}{F:xQ->Option xQ}{g:M xQ}{ρ ρ1:UQ}{xs r:xQ}(h1:g ρ=.ok xs ρ1)(h2:xs.length=n)(h3:F xs=O r):Vt n F g ρ=.ok r ρ1:=by unfold Vt U2;rw[h1];dsimp only;rw[Qq h2,h3];rfl
theorem Nw{N:List Str}{g:SM}{f:M xQ}{ds r:xQ}{ρ ρ1 ρ2:UQ}(h0:Zk N ds=ρ)(h1:g ρ=.nx ρ1)(h2:f ρ1=.ok r ρ2):Y9 N g f ds=O r:=by subst h0;unfold Y9;rw[h1];dsimp only;rw[h2]
end DL
namespace L2
open PySem PySem.Spec PyProof.Rows
end L2
namespace DL
open PySem PySem.Spec L2
open PyProof.Rows hiding St
theorem EOk.lent{K:Frag}{B G0 G H:Hp}{σ:St}{ρ:UQ}(k:EOk K B G0 G H σ ρ):EOk K H H H H σ (Zb ρ) where
 bh:=.refl _
 gh:=.refl _
 g0:=.refl _
 np:=λ_ _ e n=>by rw[n]at e;cases e
 len:=by unfold Zb;rw[Qb];exact k.len
 pub:=λi d e=>by
  rcases LV e with e2|⟨ds,rfl,e2⟩|⟨p,e2⟩
  .exact k.tree (by unfold Sx;rw[e2])
  .exact k.tree (by unfold Sx;rw[e2])
  .exact k.tree (by unfold Sx;rw[e2])
 own:=λi ds e=>(T9 e).elim
 sep:=λi j a ds es e=>(T9 e).elim
 dp:=.of (λ_ _ _ q=>HH q) λ_ _ q=>T9 q
theorem EOk.back{K:Frag}{B G0 G H H':Hp}{σ:St}{ρ:UQ}(k:EOk K B G0 G H σ ρ)(e:Same H H'):EOk K B G0 G H' σ ρ:=k.ext ⟨e,.refl _,k.gh.trans e,λ_ _ _ n=>n⟩
noncomputable def W5(f:M Bool):M Bool:=λρ=>match f (Zb ρ)with
 |.ok b _=>.ok b ρ
 |.bad=>.bad
section
variable{X:Cx}{B G0:Hp}{KX:XW}{e a b c tg iter:Uv}{pos:Pos}
theorem BN{f:M Bool}(h:∀B' G',PT X e (tBo X.K B' G' f)):PT X e (tBo X.K B G0 (W5 f)):=by
 have h':PT X e (λσ H Q=>∃B' G',tBo X.K B' G' f σ H Q):=λpins s σ H Q I ⟨B',G',q⟩=>h B' G' pins s σ H Q I q;refine Yc h' λσ H Q ⟨G,ρ,k,a⟩=>⟨H,H,H,Zb ρ,k.lent,?_⟩;unfold W5 at a
 cases z:f (Zb ρ)with
 |bad=>rw[z]at a;exact a.elim
 |ok t ρ'=>rw[z]at a;dsimp only at a⊢;exact λv G' H' k' s' r=>a v G H' (k.back k'.bh) (.refl _) r
end
theorem Oh{f:M Bool}{ρ ρ':UQ}{b:Bool}(h:f (Zb ρ)=.ok b ρ'):W5 f ρ=.ok b ρ:=by unfold W5;rw[h]
end DL
namespace L2
open PySem PySem.Spec PyProof.Rows
end L2
namespace DL
open PySem PySem.Spec L2
open PyProof.Rows hiding St
end DL
namespace L2
open PySem PySem.Spec PyProof.Rows
end L2
namespace DL
open PySem PySem.Spec L2
open PyProof.Rows hiding St
theorem PH{α:Type}(a:α):[a].Nodup:=by simp
section
variable{K:Frag}{B G0 G H:Hp}{σ:St}{ρ:UQ}
structure NewT(K:Frag)(B G H:Hp)(σ:St)(ρ:UQ)(pt:Pat)(v:V)(d:D)(fp:xW):Prop where
 r:RepO K G H pt v d fp
 nd:fp.Nodup
 b:∀a∈fp,B a=xN/\G a=xN
 f:∀a∈fp,∀(j:Nat) es,ρ[j]?=O (O (.own es))->σ[j]?≠O (O (.ref a))
 dp:∀a∈fp,∀(j:Nat) p d v fp',ρ[j]?=O (O (.deep p d))->σ[j]?=O (O v)->RepO K G H p v d fp'->a∉fp'
theorem EOk.setDeep{i:Nat}{pt:Pat}{v:V}{d:D}{fp:xW}(k:EOk K B G0 G H σ ρ)(n:NewT K B G H σ ρ pt v d fp)(hi:i<ρ.length):EOk K B G0 G H (σ.set i (O v)) (ρ.set i (O (.deep pt d))) where
 bh:=k.bh
 gh:=k.gh
 g0:=k.g0
 np:=k.np
 len:=by rw[QU,QU];exact k.len
 pub:=λj d' q=>by
  by_cases z:i=j
  .subst z;have:=KS q;cases this
  .rw[Qj z]at q⊢
   exact k.pub j d' q
 own:=λj es q=>by
  by_cases z:i=j
  .subst z;have:=KS q;cases this
  .rw[Qj z]at q⊢
   exact k.own j es q
 sep:=λj l c es fs q1 q2 s1 s2=>by
  have z1:i≠j:=λz=>by subst z;have:=KS q1;cases this
  have z2:i≠l:=λz=>by subst z;have:=KS q2;cases this
  rw[Qj z1]at q1 s1;rw[Qj z2]at q2 s2;exact k.sep j l c es fs q1 q2 s1 s2
 dp:=by
  obtain⟨ω,k1,k2⟩:=k.dp;have hs:i<σ.length:=by rw[←k.len];exact hi
  refine⟨λb=>if b∈fp then i else ω b,λj p d' q=>?_,λj es b q s=>?_⟩
  .by_cases z:i=j
   .subst z
    have:=KS q;cases this;exact⟨v,fp,QK hs,n.r,n.nd,λa m=>⟨(n.b a m).1,(n.b a m).2,Qq m⟩⟩
   .rw[Qj z]at q⊢
    obtain⟨v',fp',s,r,nn,w⟩:=k1 j p d' q;refine⟨v',fp',s,r,nn,λb m=>⟨(w b m).1,(w b m).2.1,?_⟩⟩;dsimp only;rw[Qw (λz=>n.dp b z j p d' v' fp' q s r m)];exact(w b m).2.2
  .by_cases z:i=j
   .subst z;have:=KS q;cases this
   .rw[Qj z]at q s
    dsimp only;rw[Qw (λz=>n.f b z j es q s)];exact k2 j es b q s
theorem EOk.newT{G' H':Hp}{pt:Pat}{v:V}{d:D}{fp:xW}(k1:EOk K B G0 G H σ ρ)(sh:Same H H')(r:RepO K G' H' pt v d fp)(nd:fp.Nodup)(fr:∀a∈fp,H a=xN/\G' a=xN):NewT K B G' H' σ ρ pt v d fp where
 r:=r
 nd:=nd
 b:=λa m=>⟨k1.bh.free (fr a m).1,(fr a m).2⟩
 f:=λa m j es q w=>by obtain⟨b,us,g1,g2,g3,g4,g5⟩:=k1.own j es q;rw[g1]at w;cases w;rw[(fr a m).1]at g4;cases g4
 dp:=λa m j p d v fp' q s r=>k1.freshD sh (fr a m).1 q s r
theorem EOk.forget{i:Nat}(k:EOk K B G0 G H σ ρ):EOk K B G0 G H σ (ρ.set i xN):=by
 have nz:∀{m:Nat}{s:Sl},(ρ.set i xN)[m]?=O (O s)->ρ[m]?=O (O s):=λ{m s} q=>by
  by_cases z:i=m
  .subst z;have:=KS q;cases this
  .rw[Qj z]at q;exact q
 exact⟨k.bh,k.gh,k.g0,k.np,by rw[QU];exact k.len,λj d q=>k.pub j d (nz q),λj ds q=>k.own j ds (nz q),λj l c es fs q1 q2 s1 s2=>k.sep j l c es fs (nz q1) (nz q2) s1 s2,
  k.dp.map (λm p d q=>⟨nz q,rfl⟩) (λm es q=>⟨es,nz q,rfl⟩) λm p d v fp q s r w n=>⟨r,w⟩⟩
theorem RepOl.leaf:∀{vs:List V}{ds:xQ},Reps K G vs ds->RepOl K G H .leaf vs ds []
 |_,_,.nil=>.nil
 |_,_,.cons h t=>.cons (f1:=[]) (f2:=[]) (.leaf h) (RepOl.leaf t)
theorem RepOl.append{p:Pat}:∀{vs ws:List V}{ds es:xQ}{f1 f2:xW},RepOl K G H p vs ds f1->RepOl K G H p ws es f2->RepOl K G H p (vs++ws) (ds++es) (f1++f2)
 |_,_,_,_,_,_,.nil,s=>s
 |_,_,_,_,_,_,.cons r t,s=>by rw[Ja];exact .cons r (RepOl.append t s)
theorem RepOl.length{p:Pat}:∀{vs:List V}{ds:xQ}{fp:xW},RepOl K G H p vs ds fp->vs.length=ds.length
 |_,_,_,.nil=>rfl
 |_,_,_,.cons _ t=>by rw[Qs,Qs,RepOl.length t]
noncomputable def ZF(ρ:UQ)(i:Nat):Option (Pat×D):=match ρ[i]? with
 |some (O (.own ds))=>O (.lst .leaf,.list ds)
 |some (O (.deep p d))=>O (p,d)
 |_=>xN
theorem EOk.slots(k:EOk K B G0 G H σ ρ):∃ω:Ut->Nat,∀(i:Nat) p d,ZF ρ i=O (p,d)->∃v fp,σ[i]?=O (O v)/\RepO K G H p v d fp/\fp.Nodup/\∀a∈fp,B a=xN/\G a=xN/\ω a=i:=by
 obtain⟨ω,k1,k2⟩:=k.dp;refine⟨ω,λi p d h=>?_⟩;unfold ZF at h;split at h
 .rename_i ds q
  cases h;obtain⟨a,vs,h1,h2,h3,h4,h5⟩:=k.own i ds q;refine⟨.ref a,[a],h1,.lst h4 (.leaf h5),PH a,λb m=>?_⟩;rw[QE.mp m];exact⟨h2,h3,k2 i ds a q h1⟩
 .rename_i p' d' q
  cases h;exact k1 i p d q
 .cases h
theorem EOk.mutD{j:Nat}{p:Pat}{d d':D}{v:V}{fp fp':xW}{a:Ut}{o:HO}(k:EOk K B G0 G H σ ρ)(hd:ρ[j]?=O (O (.deep p d)))(hv:σ[j]?=O (O v))(r:RepO K G H p v d fp)(ha:a∈fp)
  (r':RepO K G (upd H a o) p v d' fp') (vz:fp'.Nodup) (sub:∀b∈fp',b∈fp):EOk K B G0 G (upd H a o) σ (ρ.set j (O (.deep p d'))):=by
 obtain⟨ω,k1,k2⟩:=k.dp;obtain⟨v0,fp0,s0,r0,n0,w0⟩:=k1 j p d hd;rw[hv]at s0;cases s0;have e0:=r0.uniq (.refl _) r;subst e0;obtain⟨hb,hg,hw⟩:=w0 a ha;obtain⟨ws,hl⟩:=r.isl a ha;have nt:∀vs,H a≠O (.tup vs):=λvs z=>by rw[hl]at z;cases ws<;>cases z
 have wR:j<ρ.length:=(Ql.mp hd).1;have nz:∀{m:Nat}{s:Sl},j≠m->(ρ.set j (O (.deep p d')))[m]?=O (O s)->ρ[m]?=O (O s):=λ{m s} z q=>by rw[Qj z]at q;exact q
 refine⟨λb u e=>?_,λb u e=>?_,k.g0,k.np,by rw[QU];exact k.len,λm dm e=>?_,λm es e=>?_,λm l c es fs q1 q2 s1 s2=>?_,ω,λm pm dm e=>?_,λm es b e s=>?_⟩
 .rw[Ki (Yo e hb)];exact k.bh b u e
 .rw[Ki (Yo e hg)];exact k.gh b u e
 .by_cases z:j=m
  .subst z;have:=KS e;cases this
  .exact k.pub m dm (nz z e)
 .by_cases z:j=m
  .subst z;have:=KS e;cases this
  .have e:=nz z e
   obtain⟨c,us,g1,g2,g3,g4,g5⟩:=k.own m es e;have zc:c≠a:=λw=>by subst w;exact z (hw.symm.trans (k2 m es c e g1))
   exact⟨c,us,g1,g2,g3,by rw[Ki zc];exact g4,g5⟩
 .have z1:j≠m:=λz=>by subst z;have:=KS q1;cases this
  have z2:j≠l:=λz=>by subst z;have:=KS q2;cases this
  exact k.sep m l c es fs (nz z1 q1) (nz z2 q2) s1 s2
 .by_cases z:j=m
  .subst z
   have:=KS e;cases this;exact⟨v,fp',hv,r',vz,λb mb=>w0 b (sub b mb)⟩
  .obtain⟨vm,fm,sm,rm,nm,wm⟩:=k1 m pm dm (nz z e)
   exact⟨vm,fm,sm,rm.upd nt (λmm=>z (hw.symm.trans (wm a mm).2.2)),nm,wm⟩
 .have z:j≠m:=λz=>by subst z;have:=KS e;cases this
  exact k2 m es b (nz z e) s
end
noncomputable def tT(K:Frag)(B G0:Hp)(pt:Pat)(f:M D):TE:=λσ H Q=>∃G ρ,EOk K B G0 G H σ ρ/\match f ρ with
 |.ok d ρ'=>∀v fp G' H',EOk K B G0 G' H' σ ρ'->Same G G'->NewT K B G' H' σ ρ' pt v d fp->Q v H'
 |.bad=>False
noncomputable def Yq(i:Nat)(pt:Pat)(f:M D):SM:=sB f λd ρ=>if i<ρ.length then .nx (ρ.set i (O (.deep pt d)))else .bad
noncomputable def spT(K:Frag)(n:Nat)(pt:Pat)(F:xQ->xT):Sp:=λvs H Q _=>∃G ds d,vs.length=n/\Same G H/\Reps K G vs ds/\F ds=O d/\∀v fp G' H',Ext G H G' H'->RepO K G' H' pt v d fp->fp.Nodup->(∀a∈fp,H a=xN/\G' a=xN)->Q v H'
noncomputable def tST(K:Frag)(B G0:Hp)(pt:Pat)(g:SM)(f:M D):TS:=λDn σ H=>∃G ρ,EOk K B G0 G H σ ρ/\match g ρ with
 |.nx ρ1=>(match f ρ1 with
  |.ok d _=>∀v fp G' H',Ext G0 B G' H'->RepO K G' H' pt v d fp->fp.Nodup->(∀a∈fp,B a=xN/\G' a=xN)->Dn.rt v H'
  |.bad=>False)
 |_=>False
noncomputable def Vs(N:List Str)(g:SM)(f:M D)(ds:xQ):xT:=match g (Zk N ds)with
 |.nx ρ=>(match f ρ with
  |.ok r _=>O r
  |.bad=>xN)
 |_=>xN
def DefT(P:Us)(w:World)(K:Frag)(mg:Str->xV)(base:Heap)(x:Str)(k n:Nat)(pt:Pat)(F:xQ->xT):Prop:=
 ∃(f:Ut)(fd:Uu)(ps:List Str),mg x=O (.ref f)/\PySem.W.keepIn K (.ref f)=xO/\Yl K fd ps []/\FnOk P w K mg base CX0 k f fd ps (spT K n pt F)
section
variable{X:Cx}{B G0:Hp}{KX:XW}{e o a b c:Uv}{pos:Pos}{es:xU}{st:Stmt}{sts:List Stmt}{pt:Pat}
theorem RG{i:Nat}{x:Str}{f:M D}{p2:Pos}(hN:X.N.Nodup)(hi:X.N[i]?=O x)(hx:Loc X.env.scope x)(he:PE X e (tT X.K B G0 pt f))(hs:swapsWith e (O (.Name x p2)) pos.line X.env=pure xP:=by rfl)
  (hf:X.fn x=xO∨X.env.scope.names.lookup x=O .local:=by first|exact .inl rfl|exact .inr rfl|assumption):PS X (.Assign [.Name x p2] e pos) (tS X.K B G0 KX (Yq i pt f)):=
 KO (PN hN hi hx he hs hf) λD σ H ⟨G,ρ,k,a⟩=>by
  refine⟨G,ρ,k,?_⟩;unfold Yq sB at a;cases z:f ρ with
  |bad=>rw[z]at a;exact a.elim
  |ok ds ρ1=>
   rw[z]at a;intro v fp G' H' k' s' n;dsimp only at a;split at a
   .rename_i hl
    exact a _ G' H' (k'.setDeep n hl) s'
   .exact a.elim
theorem NewL.tree{K:Frag}{G H:Hp}{σ:St}{ρ:UQ}{ad:Ut}{vs:List V}{ds:xQ}(n:NewL K B G H σ ρ ad vs ds){p:Pat}(r:RepOl K G H p vs ds []):NewT K B G H σ ρ (.lst p) (.ref ad) (.list ds) [ad] where
 r:=.lst n.h r
 nd:=PH ad
 b:=λb m=>by rw[QE.mp m];exact⟨n.b,n.g⟩
 f:=λb m=>by rw[QE.mp m];exact n.f
 dp:=λb m=>by rw[QE.mp m];exact n.dp
theorem Cz{p:Pat}:PE X (.List [] pos) (tT X.K B G0 (.lst p) (UU (.list []))):=Kb (TQ (B:=B) (G0:=G0) Xy) λσ H Q ⟨G,ρ,k,a⟩=>by
 refine⟨G,ρ,k,?_⟩;intro ad vs G' H' k' s' n;have hv:vs=[]:=by have:=n.r;cases this;rfl
 subst hv;exact a _ _ G' H' k' s' (n.tree .nil)
theorem Cy{f:M xQ}(h:PE X e (tL X.K B G0 f)):PE X e (tT X.K B G0 (.lst .leaf) (U3 UC f)):=Kb h λσ H Q ⟨G,ρ,k,a⟩=>by
 refine⟨G,ρ,k,?_⟩;unfold U3 U2 at a;cases z:f ρ with
 |bad=>rw[z]at a;exact a.elim
 |ok ds ρ1=>rw[z]at a;intro ad vs G' H' k' s' n;exact a _ _ G' H' k' s' (n.tree (.leaf n.r))
theorem NY{f:M D}(h:PE X e (tT X.K B G0 pt f)):PSs X [.Return (O e) pos] (tST X.K B G0 pt sNx f):=W1 (TR (PP h)) λD σ H ⟨G,ρ,k,a⟩=>by
 refine⟨G,ρ,k,?_⟩;dsimp only[sNx]at a;cases z:f ρ with
 |bad=>rw[z]at a;exact a.elim
 |ok ds ρ'=>rw[z]at a;exact λv fp G' H' k' s' n=>a v fp G' H' k'.exit n.r n.nd n.b
theorem Cw{g h:SM}{f:M D}(h1:PS X st (tS X.K B G0 KX0 g))(h2:PSs X sts (tST X.K B G0 pt h f)):PSs X (st::sts) (tST X.K B G0 pt (UV g h) f):=W1 (VM h1 h2) λD σ H ⟨G,ρ,k,a⟩=>by
 refine⟨G,ρ,k,?_⟩;unfold UV at a;cases z:g ρ with
 |nx ρ1=>rw[z]at a;exact λσ' G' H' k' s'=>⟨G',ρ1,k',a⟩
 |rt d=>rw[z]at a;exact a.elim
 |ro ds=>rw[z]at a;exact a.elim
 |bk ρ1=>rw[z]at a;exact a.elim
 |ct ρ1=>rw[z]at a;exact a.elim
 |ex ρ1 d=>rw[z]at a;exact a.elim
 |bad=>rw[z]at a;exact a.elim
theorem okT{P:Us}{w:World}{K:Frag}{mg:Str->xV}{base:Heap}{x qual:Str}{st:Stmt}{f:Ut}{fd:Uu}{N ps:List Str}{k n:Nat}{g:SM}{q:M D}(F:Fun K x qual st f fd)(S:W8 N ps (KI st))(hn:ps.length=n)
  (der:∀(cdv:Uq)(A:Around)(outer:List Env)(s:Ur)(H:Hp)(E:XK)(B G0:Hp),Room k (A.deeper (envOfC qual (KI st) s.heap.objs.size f cdv)) ->
   PSs (K7 CX0 P w K mg base N qual (KI st) f cdv A outer s H E).nox (ZP st) (tST K B G0 pt g q)):FnOk P w K mg base CX0 (k+1) f fd ps (spT K n pt (Vs N g q)):=by
 refine F.ok S (λvs H Q E h=>?_) (λcdv A outer s H vs Q E hr h=>?_)
 .obtain⟨_,_,_,hl,_⟩:=h
  rw[hl,hn]
 .obtain⟨G,ds,d,hl,sg,r,hF,qq⟩:=h
  refine⟨_,der cdv A outer s H E H G hr,G,Zk N ds,R8 sg r,?_⟩;unfold Vs at hF;cases z:g (Zk N ds)with
  |nx ρ=>
   rw[z]at hF;dsimp only at hF⊢;cases z2:q ρ with
   |bad=>rw[z2]at hF;cases hF
   |ok d' ρ'=>rw[z2]at hF;cases hF;exact λv fp G' H' ex rr nd fr=>qq v fp G' H' ex rr nd fr
  |rt d'=>rw[z]at hF;cases hF
  |ro ds=>rw[z]at hF;cases hF
  |bk ρ=>rw[z]at hF;cases hF
  |ct ρ=>rw[z]at hF;cases hF
  |ex ρ d=>rw[z]at hF;cases hF
  |bad=>rw[z]at hF;cases hF
theorem R4{k kk n:Nat}{F:xQ->xT}{g:M xQ}{x:Str}{p2:Pos}(d:DefT X.prog X.w X.K X.mg X.base x k n pt F)(hr:Room kk X.A)(hg:Gl X x)(ha:PA X (e::es) (tDs X.K B G0 g))(hk:k<=kk:=by decide)(hn:(e::es).length=n:=by rfl)
  (hdb:(x==("__debug__" : Str))=xP:=by decide) (he:Uy (e::es) X.env=(xP,eval e X.env)::Uy es X.env:=by rfl) (hpl:(backTo pos (Uy es X.env)).any (·.1)=xP:=by rfl) :
  PE X (.Call (.Name x p2) (e::es) [] pos) (tT X.K B G0 pt (U4 n F g)):=by
 obtain⟨f,fd,ps,h1,h2,h3,h4⟩:=d;refine Kb (P4 h4 (hr.mono hk) hg h1 h2 h3 .nil Ra ha hdb he hpl) λσ H Q ⟨G,ρ,kk0,a⟩=>?_
 refine⟨G,ρ,kk0,?_⟩;unfold U4 U2 at a;cases z:g ρ with
 |bad=>rw[z]at a;exact a.elim
 |ok xs ρ1=>
  rw[z]at a;dsimp only at a⊢;intro vs G1 H1 k1 s1 r1;by_cases hl:xs.length=n
  .rw[Qq hl]at a
   unfold U1 at a;cases zf:F xs with
   |none=>rw[zf]at a;exact a.elim
   |some r=>rw[zf]at a;dsimp only at a;refine⟨G1,xs,r,by rw[QH,r1.length];exact hl,k1.gh,by rw[QH];exact r1,zf,λv fp G' H' ex rr nd fr=>?_⟩;exact a v fp G' H' (k1.ext ex) (s1.trans ex.g) (k1.newT ex.h rr nd fr)
  .rw[Qw hl]at a
   exact a.elim
end
section
variable{K:Frag}{B G0 G H:Hp}{σ:St}{ρ:UQ}
inductive MOp where
 |rev|clr|app (d:D)|set (k:Nat) (d:D)
noncomputable def MOp.dOf:MOp->Pat->xQ->Option xQ
 |.rev,_,ds=>O ds.reverse
 |.clr,_,_=>O []
 |.app d,.leaf,ds=>if ds.length<1000000 then O (ds++[d])else xN
 |.set k d,.leaf,ds=>if k<ds.length then O (ds.set k d)else xN
 |_,_,_=>xN
noncomputable def MOp.vOf:MOp->V->List V->List V
 |.rev,_,vs=>vs.reverse
 |.clr,_,_=>[]
 |.app _,u,vs=>vs++[u]
 |.set k _,u,vs=>vs.set k u
noncomputable def MOp.arg(K:Frag)(G:Hp):MOp->V->Prop
 |.app d,u=>Rep K G u d
 |.set _ d,u=>Rep K G u d
 |_,_=>True
theorem MOp.app_inv{d:D}{p:Pat}{ds ds':xQ}(e:(MOp.app d).dOf p ds=O ds'):p=.leaf/\ds.length<1000000/\ds'=ds++[d]:=by
 cases p with
 |leaf=>
  have e:(if ds.length<1000000 then O (ds++[d])else xN)=O ds':=e;split at e
  .rename_i h;exact⟨rfl,h,(Je e).symm⟩
  .cases e
 |lst _=>cases e
 |tup _=>cases e
 |dic=>cases e
theorem MOp.set_inv{d:D}{k:Nat}{p:Pat}{ds ds':xQ}(e:(MOp.set k d).dOf p ds=O ds'):p=.leaf/\k<ds.length/\ds'=ds.set k d:=by
 cases p with
 |leaf=>
  have e:(if k<ds.length then O (ds.set k d)else xN)=O ds':=e;split at e
  .rename_i h;exact⟨rfl,h,(Je e).symm⟩
  .cases e
 |lst _=>cases e
 |tup _=>cases e
 |dic=>cases e
theorem RepOl.leaf_inv:∀{vs:List V}{ds:xQ}{fp:xW},RepOl K G H .leaf vs ds fp->Reps K G vs ds/\fp=[]
 |_,_,_,.nil=>⟨.nil,rfl⟩
 |_,_,_,.cons (.leaf r) t=>by obtain⟨r2,e⟩:=RepOl.leaf_inv t;subst e;exact⟨.cons r r2,rfl⟩
theorem RepOl.reverse{p:Pat}:∀{vs:List V}{ds:xQ}{fp:xW},RepOl K G H p vs ds fp->∃fp',RepOl K G H p vs.reverse ds.reverse fp'/\fp'.Perm fp
 |_,_,_,.nil=>⟨[],.nil,.refl _⟩
 |_,_,_,.cons (f1:=f1) (f2:=f2) r t=>by obtain⟨f,r2,e⟩:=RepOl.reverse t;refine⟨f++(f1++[]),by rw[JV,JV];exact r2.append (.cons r .nil),?_⟩;rw[QH];exact(e.append_right f1).trans List.perm_append_comm
theorem MOp.ok{op:MOp}{p:Pat}{vs:List V}{ds ds':xQ}{fp:xW}{u:V}(r:RepOl K G H p vs ds fp)(e:op.dOf p ds=O ds')(ha:op.arg K G u):∃fp',RepOl K G H p (op.vOf u vs) ds' fp'/\(∀b∈fp',b∈fp)/\(fp.Nodup->fp'.Nodup):=by
 cases op with
 |rev=>cases e;obtain⟨fp',r2,pm⟩:=r.reverse;exact⟨fp',r2,λb m=>pm.mem_iff.mp m,λn=>pm.nodup_iff.mpr n⟩
 |clr=>cases e;exact⟨[],.nil,(λb m=>by simp at m),λ_=>List.nodup_nil⟩
 |app d=>obtain⟨rfl,_,rfl⟩:=MOp.app_inv e;obtain⟨r2,rfl⟩:=r.leaf_inv;exact⟨[],.leaf (r2.append (.cons ha .nil)),λb m=>m,λn=>n⟩
 |set k d=>obtain⟨rfl,_,rfl⟩:=MOp.set_inv e;obtain⟨r2,rfl⟩:=r.leaf_inv;exact⟨[],.leaf (r2.set ha k),λb m=>m,λn=>n⟩
noncomputable def Z3(op:MOp):xY->Pat->D->xT
 |[],.lst p,.list ds=>(op.dOf p ds).map .list
 |k::r,.lst p,.list ds=>(ds[k]?).bind λd=>(Z3 op r p d).map λd'=>.list (ds.set k d')
 |k::r,.tup ps,.tuple ds=>(ps[k]?).bind λp=>(ds[k]?).bind λd=>(Z3 op r p d).map λd'=>.tuple (ds.set k d')
 |_,_,_=>xN
noncomputable def YD(H:Hp):xY->V->Option V
 |[],v=>O v
 |k::r,.ref a=>match H a with
  |some (.lst vs)=>(vs[k]?).bind (YD H r)
  |some (.tup vs)=>(vs[k]?).bind (YD H r)
  |_=>xN
 |_::_,_=>xN
theorem RepOl.at{p:Pat}:∀{vs:List V}{ds:xQ}{fp:xW}{k:Nat}{d:D},RepOl K G H p vs ds fp->ds[k]?=O d->fp.Nodup->∃v f,vs[k]?=O v/\RepO K G H p v d f/\f.Nodup/\(∀b∈f,b∈fp) /\
  ∀a∈f,(∀ws,H a≠O (.tup ws))->∀o d' f',RepO K G (L2.upd H a o) p v d' f'->f'.Nodup->(∀b∈f',b∈f)->∃fp',RepOl K G (L2.upd H a o) p vs (ds.set k d') fp'/\fp'.Nodup/\∀b∈fp',b∈fp
 |_,_,_,_,_,.nil,e,_=>by cases e
 |_,_,_,0,_,.cons (f1:=f1) (f2:=f2) r t,e,n=>by
  cases e;obtain⟨n1,n2,nn⟩:=QL.mp n;refine⟨_,f1,rfl,r,n1,λb m=>Qv _ m,λa m nt o d' f' r' vz sub=>⟨f'++f2,.cons r' (t.upd nt (λm2=>nn a m a m2 xM)),QL.mpr ⟨vz,n2,λx hx y hy=>nn x (sub x hx) y hy⟩,λb m=>?_⟩⟩;rcases QO.mp m with m|m
  .exact Qv _ (sub b m)
  .exact Qn _ m
 |_,_,_,k+1,d,.cons (f1:=f1) (f2:=f2) r t,e,n=>by
  obtain⟨n1,n2,nn⟩:=QL.mp n;obtain⟨v,f,h1,h2,h3,h4,h5⟩:=RepOl.at (k:=k) (d:=d) t (by simpa using e) n2;refine⟨v,f,by simpa using h1,h2,h3,λb m=>List.mem_append_right _ (h4 b m),λa m nt o d' f' r' vz sub=>?_⟩;obtain⟨fp',g1,g2,g3⟩:=h5 a m nt o d' f' r' vz sub;refine⟨f1++fp',.cons (r.upd nt (λm2=>nn a m2 a (h4 a m) xM)) g1,QL.mpr ⟨n1,g2,λx hx y hy=>nn x hx y (g3 y hy)⟩,λb m=>?_⟩;rcases QO.mp m with m|m
  .exact Qv _ m
  .exact Qn _ (g3 b m)
theorem RepOs.at:∀{ps:List Pat}{vs:List V}{ds:xQ}{fp:xW}{k:Nat}{p:Pat}{d:D},RepOs K G H ps vs ds fp->ps[k]?=O p->ds[k]?=O d->fp.Nodup->∃v f,vs[k]?=O v/\RepO K G H p v d f/\f.Nodup/\(∀b∈f,b∈fp) /\
  ∀a∈f,(∀ws,H a≠O (.tup ws))->∀o d' f',RepO K G (L2.upd H a o) p v d' f'->f'.Nodup->(∀b∈f',b∈f)->∃fp',RepOs K G (L2.upd H a o) ps vs (ds.set k d') fp'/\fp'.Nodup/\∀b∈fp',b∈fp
 |_,_,_,_,_,_,_,.nil,_,e,_=>by cases e
 |_,_,_,_,0,_,_,.cons (f1:=f1) (f2:=f2) r t,e0,e,n=>by
  cases e;cases e0;obtain⟨n1,n2,nn⟩:=QL.mp n;refine⟨_,f1,rfl,r,n1,λb m=>Qv _ m,λa m nt o d' f' r' vz sub=>⟨f'++f2,.cons r' (t.upd nt (λm2=>nn a m a m2 xM)),QL.mpr ⟨vz,n2,λx hx y hy=>nn x (sub x hx) y hy⟩,λb m=>?_⟩⟩;rcases QO.mp m with m|m
  .exact Qv _ (sub b m)
  .exact Qn _ m
 |_,_,_,_,k+1,p,d,.cons (f1:=f1) (f2:=f2) r t,e0,e,n=>by
  obtain⟨n1,n2,nn⟩:=QL.mp n;obtain⟨v,f,h1,h2,h3,h4,h5⟩:=RepOs.at (k:=k) (p:=p) (d:=d) t (by simpa using e0) (by simpa using e) n2;refine⟨v,f,by simpa using h1,h2,h3,λb m=>List.mem_append_right _ (h4 b m),λa m nt o d' f' r' vz sub=>?_⟩;obtain⟨fp',g1,g2,g3⟩:=h5 a m nt o d' f' r' vz sub;refine⟨f1++fp',.cons (r.upd nt (λm2=>nn a m2 a (h4 a m) xM)) g1,QL.mpr ⟨n1,g2,λx hx y hy=>nn x hx y (g3 y hy)⟩,λb m=>?_⟩;rcases QO.mp m with m|m
  .exact Qv _ m
  .exact Qn _ (g3 b m)
theorem RepO.mut{op:MOp}{u:V}(ha:op.arg K G u):∀(path:xY){p:Pat}{v:V}{d d':D}{fp:xW},RepO K G H p v d fp->fp.Nodup->Z3 op path p d=O d'->∃a vs,YD H path v=O (.ref a)/\a∈fp/\H a=O (.lst vs) /\
  (∃q ds ds',vs.length=ds.length/\op.dOf q ds=O ds')/\∃fp',RepO K G (L2.upd H a (.lst (op.vOf u vs))) p v d' fp'/\fp'.Nodup/\∀b∈fp',b∈fp
 |[],p,v,d,d',fp,r,n,e=>by
  cases r with
  |leaf r=>cases e
  |tup h r=>cases e
  |dic _ _ h r=>cases e
  |lst h r=>
   rename_i p a vs ds fp;unfold Z3 at e;cases z:op.dOf p ds with
   |none=>rw[z]at e;cases e
   |some ds'=>
   rw[z]at e;cases e;obtain⟨na,nf⟩:=QY.mp n;obtain⟨fp',r',sub,nn⟩:=MOp.ok r z ha;refine⟨a,vs,rfl,Qf,h,⟨p,ds,ds',r.length,z⟩,a::fp',.lst Ks (r'.upd (λws y=>by rw[h]at y;cases y) (λm=>na (sub a m))),QY.mpr ⟨λm=>na (sub a m),nn nf⟩,λb m=>?_⟩;rcases QC.mp m with rfl|m
   .exact Qf
   .exact Qh _ (sub b m)
 |k::path,p,v,d,d',fp,r,n,e=>by
  cases r with
  |leaf r=>cases e
  |dic _ _ h r=>cases e
  |lst h r=>
   rename_i p a0 vs ds fp;unfold Z3 at e;cases z:ds[k]? with
   |none=>rw[z]at e;cases e
   |some d0=>
   rw[z]at e;dsimp only[Option.bind_some]at e;cases z2:Z3 op path p d0 with
   |none=>rw[z2]at e;cases e
   |some d1=>
   rw[z2]at e;cases e;obtain⟨na,nf⟩:=QY.mp n;obtain⟨v0,f,h1,h2,h3,h4,h5⟩:=r.at z nf;obtain⟨a,ws,g1,g2,g3,g4,f',g5,g6,g7⟩:=RepO.mut ha path h2 h3 z2;have nt:∀us,H a≠O (.tup us):=λus y=>by rw[g3]at y;cases y
   obtain⟨fp',k1,k2,k3⟩:=h5 a g2 nt _ _ _ g5 g6 g7;have hne:a0≠a:=λy=>by subst y;exact na (h4 a0 g2)
   refine⟨a,ws,?_,Qh _ (h4 a g2),g3,g4,a0::fp',.lst (by rw[Ki hne];exact h) k1,QY.mpr ⟨λm=>na (k3 a0 m),k2⟩,λb m=>?_⟩
   .unfold YD
    rw[h];dsimp only;rw[h1];exact g1
   .rcases QC.mp m with rfl|m
    .exact Qf
    .exact Qh _ (k3 b m)
  |tup h r=>
   rename_i ps a0 vs ds;unfold Z3 at e;cases zp:ps[k]? with
   |none=>rw[zp]at e;cases e
   |some p0=>
   rw[zp]at e;dsimp only[Option.bind_some]at e;cases z:ds[k]? with
   |none=>rw[z]at e;cases e
   |some d0=>
   rw[z]at e;dsimp only[Option.bind_some]at e;cases z2:Z3 op path p0 d0 with
   |none=>rw[z2]at e;cases e
   |some d1=>
   rw[z2]at e;cases e;obtain⟨v0,f,h1,h2,h3,h4,h5⟩:=r.at zp z n;obtain⟨a,ws,g1,g2,g3,g4,f',g5,g6,g7⟩:=RepO.mut ha path h2 h3 z2;have nt:∀us,H a≠O (.tup us):=λus y=>by rw[g3]at y;cases y
   obtain⟨fp',k1,k2,k3⟩:=h5 a g2 nt _ _ _ g5 g6 g7;have hne:a0≠a:=λy=>by subst y;rw[h]at g3;cases g3
   refine⟨a,ws,?_,h4 a g2,g3,g4,fp',.tup (by rw[Ki hne];exact h) k1,k2,k3⟩;unfold YD;rw[h];dsimp only;rw[h1];exact g1
noncomputable def YS(K:Frag):xY->V->Hp->VK->Prop
 |[],v,H,Q=>Q v H
 |k::r,v,H,Q=>rIx K v (.int k) H λu H'=>YS K r u H' Q
noncomputable def Z9(K:Frag)(i:Nat)(path:xY):TE:=λσ H Q=>∃v,σ[i]?=O (O v)/\YS K path v H Q
theorem BM{v u:V}{Q Q':VK}(h:rIx K v u H Q)(i:∀w H',Q w H'->Q' w H'):rIx K v u H Q':=by
 rcases h with ⟨p,xs,j,w,a,b,c,d,q⟩|⟨p,xs,j,w,a,b,c,d,q⟩|⟨z,j,w,a,b,c,d,q⟩
 .exact .inl ⟨p,xs,j,w,a,b,c,d,i _ _ q⟩
 .exact .inr (.inl ⟨p,xs,j,w,a,b,c,d,i _ _ q⟩)
 .exact .inr (.inr ⟨z,j,w,a,b,c,d,i _ _ q⟩)
theorem HB{k:Nat}{Q:VK}:∀{path:xY}{v:V}{H:Hp},YS K (path++[k]) v H Q->YS K path v H λx H1=>rIx K x (.int k) H1 Q
 |[],v,H,h=>h
 |j::r,v,H,h=>BM h λw H' q=>HB q
theorem YS.of{Q:VK}:∀{path:xY}{v u:V},YD H path v=O u->Q u H->YS K path v H Q
 |[],v,u,e,q=>by cases e;exact q
 |k::r,v,u,e,q=>by
  cases v with
  |ref a=>
   unfold YD at e;split at e
   .rename_i vs h
    cases z:vs[k]? with
    |none=>rw[z]at e;cases e
    |some w=>rw[z]at e;exact .inl ⟨a,vs,k,w,rfl,rfl,SqL.of h,ZQ z,YS.of e q⟩
   .rename_i vs h
    cases z:vs[k]? with
    |none=>rw[z]at e;cases e
    |some w=>rw[z]at e;exact .inr (.inl ⟨a,vs,k,w,rfl,rfl,SqT.of h,ZQ z,YS.of e q⟩)
   .cases e
  |_=>cases e
end
noncomputable def Zy(i:Nat)(path:xY)(op:MOp):SM:=λρ=>match ZF ρ i with
 |some (p,d)=>(match Z3 op path p d with
  |some d'=>(match ρ[i]? with
   |some (O (.own _))=>(match d' with
    |.list ds'=>.nx (ρ.set i (O (.own ds')))
    |_=>.bad)
   |_=>.nx (ρ.set i (O (.deep p d'))))
  |none=>.bad)
 |none=>.bad
section
variable{X:Cx}{B G0:Hp}{KX:XW}{e o a b c:Uv}{pos:Pos}{es:xU}
theorem LJ{i:Nat}{path:xY}{op:MOp}{Dn:Ends}{σ:St}{H:Hp}{G:Hp}{ρ:UQ}{u:V}(k:EOk X.K B G0 G H σ ρ)(q:aftS X.K B G0 KX (Zy i path op ρ) G Dn)(ha:op.arg X.K G u):∃v ad vs,σ[i]?=O (O v)/\YD H path v=O (.ref ad)/\H ad=O (.lst vs) /\
  (∃q ds ds',vs.length=ds.length/\op.dOf q ds=O ds')/\Dn.nx σ (upd H ad (.lst (op.vOf u vs))):=by
 unfold Zy at q;cases z:ZF ρ i with
 |none=>rw[z]at q;exact q.elim
 |some pd=>
 obtain⟨p,d⟩:=pd;rw[z]at q;dsimp only at q;cases z2:Z3 op path p d with
 |none=>rw[z2]at q;exact q.elim
 |some d'=>
 rw[z2]at q;dsimp only at q;obtain⟨ω,ks⟩:=k.slots;obtain⟨v,fp,hv,r,nd,w⟩:=ks i p d z;obtain⟨ad,vs,g1,g2,g3,g4,fp',g5,g6,g7⟩:=r.mut ha path nd z2;refine⟨v,ad,vs,hv,g1,g3,g4,?_⟩;unfold ZF at z;split at z
 .rename_i ds hi
  cases z;rw[hi]at q;dsimp only at q;split at q
  .rename_i ds'
   obtain⟨a',us,i1,i2,i3,i4,i5⟩:=k.own i ds hi;rw[hv]at i1;cases i1;cases path with
   |nil=>
    cases g1;rw[i4]at g3;cases g3;cases g5 with
    |lst h rl=>
    rw[Ks]at h;cases h;exact q σ G _ (k.change hi hv rl.leaf_inv.1) (.refl _)
   |cons k0 r0=>
    unfold Z3 at z2;cases zz:ds[k0]? with
    |none=>rw[zz]at z2;cases z2
    |some dd=>rw[zz]at z2;cases r0<;>cases z2
  .exact q.elim
 .rename_i p' d0 hi
  cases z;rw[hi]at q;exact q σ G _ (k.mutD hi hv r g2 g5 g6 g7) (.refl _)
 .cases z
theorem Xw{i:Nat}(h:PE X e (Kl i)):PE X e (Z9 X.K i []):=h
theorem Va{i:Nat}{path:xY}{k:Nat}{j}{p1:Pos}(h:PE X a (Z9 X.K i path))(hs:SG (.Constant (.int (k:Int)) j p1):=by exact λ_ _=>rfl):PE X (.Subscript a (.Constant (.int (k:Int)) j p1) pos) (Z9 X.K i (path++[k])):=
 Kb (Rb RB h Wq hs) λσ H Q ⟨v,hv,q⟩=>⟨v,hv,HB q⟩
theorem EC{i:Nat}{path:xY}{apos cpos:Pos}(ho:PE X o (Z9 X.K i path))
  (hbase:attributeBase o "clear" X.env (eval o X.env)=eval o X.env:=by rfl) (hline:(apos.endLine==cpos.line)=xO:=by rfl)
  (hsw:swapsWith (.Call (.Attribute o "clear" apos) [] [] cpos) xN pos.line X.env=pure xP:=by rfl) :
  PS X (.Expr (.Call (.Attribute o "clear" apos) [] [] cpos) pos) (tS X.K B G0 KX (Zy i path .clr)):=
 KO (Xz (Dq Q9 PySem.F.slot_list_clear PySem.F.type_list_clear Am ho hbase hline) hsw) λD σ H ⟨G,ρ,k,q⟩=>by obtain⟨v,ad,vs,h1,h2,h3,h4,h5⟩:=LJ (u:=.non) k q trivial;exact⟨v,h1,YS.of h2 ⟨.inl ⟨rfl,_,SqL.of h3⟩,ad,vs,rfl,rfl,h3,h5⟩⟩
theorem Cv{i:Nat}{path:xY}{d:D}{u:V}{apos cpos:Pos}(ho:PE X o (Z9 X.K i path))(he:PE X e (tC u))(hd:∀G,Rep X.K G u d)
  (hbase:attributeBase o "append" X.env (eval o X.env)=eval o X.env:=by rfl)
  (hfew:((backTo cpos (Uy [e] X.env)).all (λx=>!x.1)&&(backToKw cpos (keywordEach [] X.env)).all (λx=>x.1.isSome)
   && decide ([e].length+([]:List Keyword).length+(if([]:List Keyword).isEmpty then 0 else 1)<30))=xO:=by rfl)
  (hline:(apos.endLine==cpos.line)=xO:=by rfl) (hs:Uy [e] X.env=[(xP,eval e X.env)]:=by rfl)
  (hsw:swapsWith (.Call (.Attribute o "append" apos) [e] [] cpos) xN pos.line X.env=pure xP:=by rfl) :
  PS X (.Expr (.Call (.Attribute o "append" apos) [e] [] cpos) pos) (tS X.K B G0 KX (Zy i path (.app d))):=
 KO (Xz (Wl Q9 Js Jt Wv ho (Zq he Z4 (by rw[hs];rfl)) hbase hfew hline (by rw[hs];rfl) xM) hsw) λD σ H ⟨G,ρ,k,q⟩=>by
  obtain⟨v,ad,vs,h1,h2,h3,⟨pp,ds,ds',h4,wk⟩,h5⟩:=LJ (u:=u) k q (hd G)
  have hlen:vs.length<1000000:=by
   have:=(MOp.app_inv wk).2.1
   lia
  exact⟨v,h1,YS.of h2 ⟨.inl ⟨rfl,_,SqL.of h3⟩,ad,vs,u,rfl,rfl,h3,Qy hlen lim,h5⟩⟩
noncomputable def Sv(f:M D):M D:=λρ=>match f (Zb ρ)with
 |.ok d _=>if flat d=xO then .ok d ρ else .bad
 |.bad=>.bad
theorem BL{f:M D}(h:∀B' G',PE X e (tD X.K B' G' f)):PE X e (tD X.K B G0 (Sv f)):=by
 have h':PE X e (λσ H Q=>∃B' G',tD X.K B' G' f σ H Q):=λpins s σ H Q I ⟨B',G',q⟩=>h B' G' pins s σ H Q I q;refine Kb h' λσ H Q ⟨G,ρ,k,a⟩=>⟨H,H,H,Zb ρ,k.lent,?_⟩;unfold Sv at a
 cases z:f (Zb ρ)with
 |bad=>rw[z]at a;exact a.elim
 |ok d ρ'=>
  rw[z]at a;dsimp only at a⊢;split at a
  .rename_i hf
   exact λv G' H' k' s' r=>a v G H' (k.back k'.bh) (.refl _) (r.flat hf)
  .exact a.elim
end
noncomputable def isT:Option HO->Bool
 |some (.tup _)=>xO
 |some (.frz _ (.tup _))=>xO
 |_=>xP
theorem EB{u:MO}:isT (O u.ho)=xP:=by cases u<;>rfl
noncomputable def Zf(fp:xW)(G H:Hp):Hp:=λb=>if b∈fp∨isT (H b)=xO then H b else G b
section
variable{K:Frag}{B G0 G H:Hp}{fp:xW}
theorem OM(gh:Same G H):Same G (Zf fp G H):=λb o e=>by
 unfold Zf;split
 .exact gh b o e
 .exact e
theorem Cu(gh:Same G H):Same (Zf fp G H) H:=λb o e=>by
 unfold Zf at e;split at e
 .exact e
 .exact gh b o e
theorem Og{b:Ut}(h:b∈fp∨isT (H b)=xO):Zf fp G H b=H b:=by unfold Zf;rw[Qq h]
theorem Ct{b:Ut}(h:b∉fp)(h2:isT (H b)=xP):Zf fp G H b=G b:=by
 unfold Zf;rw[Qw];rintro(z|z)
 .exact h z
 .rw[h2]at z;cases z
theorem RepO.give3(gh:Same G H):Yi K G H (λ_ v d f=>(∀b∈f,b∈fp)->Rep K (Zf fp G H) v d) (λ_ v d f=>(∀b∈f,b∈fp)->Reps K (Zf fp G H) v d) (λ_ v d f=>(∀b∈f,b∈fp)->Reps K (Zf fp G H) v d):=
 RepO.ind3 (λr _=>r.mono (OM gh)) (λh r m=>.lst (SqL.of ((Og (.inl (m _ Qf))).trans h)) (r λb z=>m b (Qh _ z))) (λh r m=>.tup (SqT.of ((Og (.inr (by rw[h];rfl))).trans h)) (r m))
 (λ{a ks vs ds kvs} e hl h r m=>by
  have h':=(Og (fp:=fp) (G:=G) (H:=H) (.inl (m _ Qf))).trans h;cases ks with
  |nil=>subst e;exact .dic h'
  |cons k ks=>exact .dct e (λz=>by cases z) hl h' (r.mono (OM gh)))
 (λ_=>.nil) (λh t m=>.cons (h λb z=>m b (Qv _ z)) (t λb z=>m b (Qn _ z))) (λ_=>.nil) (λh t m=>.cons (h λb z=>m b (Qv _ z)) (t λb z=>m b (Qn _ z)))
theorem RepO.give(gh:Same G H){p:Pat}{v:V}{d:D}{f:xW}(r:RepO K G H p v d f)(m:∀b∈f,b∈fp):Rep K (Zf fp G H) v d:=(RepO.give3 gh).1 r m
theorem Ext.pubT{G' H':Hp}(ex:Ext G H G' H')(fr:∀a∈fp,H a=xN):Ext G H (Zf fp G' H') H':=
 ⟨ex.h,ex.g.trans (OM ex.gh),Cu ex.gh,λa u e n=>by rw[Ct (λm=>by rw[fr a m]at e;cases e) (by rw[ex.h a _ e];exact EB)];exact ex.np a u e n⟩
end
noncomputable def Pat.is:Pat->Pat->Bool
 |.leaf,.leaf=>xO
 |.lst p,.lst q=>p.is q
 |_,_=>xP
theorem Pat.is_eq:∀{p q:Pat},p.is q=xO->p=q
 |.leaf,.leaf,_=>rfl
 |.lst p,.lst q,h=>by rw[Pat.is_eq (p:=p) (q:=q) h]
 |.leaf,.lst _,h=>by cases h
 |.leaf,.tup _,h=>by cases h
 |.lst _,.leaf,h=>by cases h
 |.lst _,.tup _,h=>by cases h
 |.tup _,.leaf,h=>by cases h
 |.tup _,.lst _,h=>by cases h
 |.tup _,.tup _,h=>by cases h
section
variable{X:Cx}{B G0:Hp}{KX:XW}{e o a b c:Uv}{pos:Pos}{es:xU}{pt:Pat}
theorem DefT.def{P:Us}{w:World}{K:Frag}{mg:Str->xV}{base:Heap}{x:Str}{k n:Nat}{F:xQ->xT}(d:DefT P w K mg base x k n pt F):Def P w K mg base x k n F:=by obtain⟨f,fd,ps,h1,h2,h3,h4⟩:=d;refine⟨f,fd,ps,h1,h2,h3,h4.imp λvs H Q E ⟨G,ds,d,hl,sg,r,hF,q⟩=>⟨G,ds,d,hl,sg,r,hF,λv fp G' H' ex rr nd fr=>?_⟩⟩;exact q v (Zf fp G' H') H' (ex.pubT λa m=>(fr a m).1) (rr.give ex.gh λb m=>m)
end
theorem NX{q p:Us}{loose:List Str}{mean:ExcName->xV}{mg mb:Str->xV}{h:Heap}{ix:xY}(P:Us)(w:World)(base:Heap){ps:List Str}{k n:Nat}{pt:Pat}{F:xQ->xT}(T:PyProof.Rows.Top q loose mean mg mb h)(e:recsOf q=W7 p ix)(i:Nat)(x:Str)(hi:ix.contains i=xO)(hn:TK (Kg p i)=O x)
  (ok:∀{f:Ut}{fd:Uu},Fun (whole h) x x (Kg p i) f fd->FnOk P w (whole h) mg base CX0 k f fd ps (spT (whole h) n pt F))
  (hb:∀(kV doc pm:Uq)(an:va)(cdv ct:Uq)(us:xS),us.length=ps.length->bindArgs (PySem.W.fnOf x x (Y4 (Kg p i)) (ZP (Kg p i)) (KI (Kg p i)) .none kV doc pm an cdv ct) ⟨us,[]⟩=pure (ps.zip us)):DefT P w (whole h) mg base x k n pt F:=by
 obtain⟨f,fd,m,FU⟩:=Sw T e i x hi hn;exact⟨f,fd,ps,m,FU.kp,FU.binds hb,ok FU⟩
section
variable{ρ ρ1 ρ2 ρ':UQ}{pt:Pat}
theorem SH{i:Nat}{f:M D}{d:D}(h1:f ρ=.ok d ρ1)(h2:i<ρ1.length)(h3:ρ1.set i (O (.deep pt d))=ρ'):Yq i pt f ρ=.nx ρ':=by unfold Yq sB;rw[h1];dsimp only;rw[if_pos h2];subst h3;rfl
theorem Cs{i:Nat}{path:xY}{op:MOp}{p:Pat}{d d':D}(h1:ρ[i]?=O (O (.deep p d)))(h2:Z3 op path p d=O d')(h3:ρ.set i (O (.deep p d'))=ρ'):Zy i path op ρ=.nx ρ':=by unfold Zy ZF;rw[h1];dsimp only;rw[h2];dsimp only;rw[h3]
theorem Cr{i:Nat}{op:MOp}{ds ds':xQ}(h1:ρ[i]?=O (O (.own ds)))(h2:op.dOf .leaf ds=O ds')(h3:ρ.set i (O (.own ds'))=ρ'):Zy i [] op ρ=.nx ρ':=by
 unfold Zy ZF;rw[h1];dsimp only;have:Z3 op [] (.lst .leaf) (.list ds)=O (.list ds'):=by unfold Z3;rw[h2];rfl
 rw[this];dsimp only;rw[h3]
theorem BK{f:M D}{d:D}(h:f (Zb ρ)=.ok d ρ')(hf:flat d=xO):Sv f ρ=.ok d ρ:=by unfold Sv;rw[h];dsimp only;rw[if_pos hf]
theorem F5{N:List Str}{g:SM}{f:M D}{ds:xQ}{P:D->Prop}(h0:Zk N ds=ρ)(h:Ho g ρ λo=>∃ρ1,o=.nx ρ1/\∃d ρ2,f ρ1=.ok d ρ2/\P d):∃d,Vs N g f ds=O d/\P d:=by subst h0;obtain⟨ρ1,e,d,ρ2,e2,p⟩:=h.out;refine⟨d,?_,p⟩;unfold Vs;rw[e];dsimp only;rw[e2]
end
noncomputable def Yd(i:Nat):M xQ:=λρ=>match ρ[i]? with
 |some (O (.own ds))=>.ok ds (ρ.set i xN)
 |_=>.bad
section
variable{X:Cx}{B G0:Hp}{e:Uv}
theorem MA{i:Nat}(h:PE X e (Kl i)):PE X e (tL X.K B G0 (Yd i)):=Kb h λσ H Q ⟨G,ρ,k,q⟩=>by
 cases ho:ρ[i]? with
 |none=>unfold Yd at q;rw[ho]at q;exact q.elim
 |some oo=>
 cases oo with
 |none=>unfold Yd at q;rw[ho]at q;exact q.elim
 |some sl=>
 cases sl with
 |pub d=>unfold Yd at q;rw[ho]at q;exact q.elim
 |deep p d=>unfold Yd at q;rw[ho]at q;exact q.elim
 |own ds=>
 unfold Yd at q;rw[ho]at q;dsimp only at q;obtain⟨ad,vs,h1,h2,h3,h4,h5⟩:=k.own i ds ho;obtain⟨ω,k1,k2⟩:=id k.dp;have hw:=k2 i ds ad ho h1
 have nz:∀{m:Nat}{s:Sl},(ρ.set i xN)[m]?=O (O s)->ρ[m]?=O (O s)/\i≠m:=λ{m s} q=>by
  by_cases z:i=m
  .subst z;have:=KS q;cases this
  .rw[Qj z]at q;exact⟨q,z⟩
 refine⟨.ref ad,h1,q ad vs G H k.forget (.refl _) ⟨h2,h3,h4,h5,λj es e w=>?_,λj p d v fp e w r m=>?_⟩⟩
 .obtain⟨e,z⟩:=nz e
  exact z (k.sep i j ad ds es ho e h1 w)
 .obtain⟨e,z⟩:=nz e
  obtain⟨v',fp',s',r',n',w'⟩:=k1 j p d e;rw[w]at s';cases s';have u:=r'.uniq (.refl _) r;subst u;exact z (hw.symm.trans (w' ad m).2.2)
theorem EA{i:Nat}{ρ:UQ}{ds:xQ}(h:ρ[i]?=O (O (.own ds))):Yd i ρ=.ok ds (ρ.set i xN):=by unfold Yd;rw[h]
end
noncomputable def V4(x y:D):Option xQ:=match x,y with
 |.list x,.list y=>if x.length+y.length<=1000000 then O (x++y)else xN
 |_,_=>xN
noncomputable def XH(f g:M D):M xQ:=U2 f λx=>U2 g λy=>U1 (V4 x y)
section
variable{X:Cx}{B G0:Hp}{e o a b c:Uv}{pos:Pos}{es:xU}
theorem Cq{f g:M D}(ha:PE X a (tD X.K B G0 f))(hb:PE X b (tD X.K B G0 g)):PE X (.BinOp a .Add b pos) (tL X.K B G0 (XH f g)):=
 Kb (Pz MS ha hb) λσ H Q ⟨G,ρ,k,q⟩=>by
  refine⟨G,ρ,k,?_⟩;unfold XH U2 at q;cases z:f ρ with
  |bad=>rw[z]at q;exact q.elim
  |ok x ρ1=>
   rw[z]at q;dsimp only at q;intro v G1 H1 k1 s1 r1;refine⟨G1,ρ1,k1,?_⟩;cases z2:g ρ1 with
   |bad=>rw[z2]at q;exact q.elim
   |ok y ρ2=>
    rw[z2]at q;dsimp only[U1]at q;intro u G2 H2 k2 s2 r2;cases x with
    |list xs=>
     cases y with
     |list ys=>
      by_cases c:xs.length+ys.length<=1000000
      .have e:V4 (.list xs) (.list ys)=O (xs++ys):=Qq c
       rw[e]at q;obtain⟨l,vs,rfl,h1,w1⟩:=r1.lst_inv;obtain⟨m,us,rfl,h2,w2⟩:=r2.lst_inv;exact⟨l,m,vs,us,rfl,rfl,k2.gh.seq (s2.seq h1),k2.gh.seq h2,by rw[w1.length,w2.length];exact Qt c lim,λp hp=>q p _ G2 _ (k2.ext (Ext.hid k2.gh hp)) (s1.trans s2) (NewL.of k2 hp ((w1.mono s2).append w2))⟩
      .have e:V4 (.list xs) (.list ys)=xN:=Qw c
       rw[e]at q;exact q.elim
     |_=>exact q.elim
    |_=>exact q.elim
end
noncomputable def ZK(fp:xW)(H:Hp):Hp:=λb=>if b∈fp then xN else H b
section
variable{K:Frag}{B G0 G H:Hp}{fp:xW}
theorem Cp{b:Ut}(h:b∈fp):ZK fp H b=xN:=by unfold ZK;rw[Qq h]
theorem Vg{b:Ut}(h:b∉fp):ZK fp H b=H b:=by unfold ZK;rw[Qw h]
theorem RepO.cut3(hl:∀a∈fp,∃u:MO,H a=O u.ho):Yi K G H (λp v d f=>(∀a∈f,a∉fp)->RepO K G (ZK fp H) p v d f) (λp v d f=>(∀a∈f,a∉fp)->RepOl K G (ZK fp H) p v d f) (λp v d f=>(∀a∈f,a∉fp)->RepOs K G (ZK fp H) p v d f):=
 RepO.ind3 (λr _=>.leaf r) (λh r n=>.lst ((Vg (n _ Qf)).trans h) (r λb m=>n b (Qh _ m))) (λh r n=>.tup ((Vg (λm=>by obtain⟨u,e⟩:=hl _ m;rw[h]at e;cases u<;>cases e)).trans h) (r n)) (λe hl' h r n=>.dic e hl' ((Vg (n _ Qf)).trans h) r)
 (λ_=>.nil) (λh t n=>.cons (h λb m=>n b (Qv _ m)) (t λb m=>n b (Qn _ m))) (λ_=>.nil) (λh t n=>.cons (h λb m=>n b (Qv _ m)) (t λb m=>n b (Qn _ m)))
theorem RepO.cut(hl:∀a∈fp,∃u:MO,H a=O u.ho){p:Pat}{v:V}{d:D}{f:xW}(r:RepO K G H p v d f)(n:∀a∈f,a∉fp):RepO K G (ZK fp H) p v d f:=(RepO.cut3 hl).1 r n
end
section
variable{X:Cx}{B G0:Hp}{KX:XW}{e a b:Uv}{pos:Pos}{es:xU}
theorem EOk.eaten{K:Frag}{G H G' H':Hp}{σ:St}{ρ:UQ}{i1 i2:Nat}{ω:Ut->Nat}{fp:xW}(k:EOk K B G0 G H σ ρ)
  (ks:∀(i:Nat) p d,ZF ρ i=O (p,d)->∃v fp,σ[i]?=O (O v)/\RepO K G H p v d fp/\fp.Nodup/\∀a∈fp,B a=xN/\G a=xN/\ω a=i)
  (hl:∀a∈fp,∃u:MO,H a=O u.ho) (hf:∀a∈fp,B a=xN/\(ω a=i1∨ω a=i2)) (ex:Ext G (ZK fp H) G' H'):EOk K B G0 G' H' σ ((ρ.set i1 xN).set i2 xN):=by
 have nz:∀{m:Nat}{s:Sl},((ρ.set i1 xN).set i2 xN)[m]?=O (O s)->ρ[m]?=O (O s)/\i1≠m/\i2≠m:=λ{m s} q=>by
  by_cases y2:i2=m
  .subst y2;have:=KS q;cases this
  .rw[Qj y2]at q
   by_cases y1:i1=m
   .subst y1;have:=KS q;cases this
   .rw[Qj y1]at q;exact⟨q,y1,y2⟩
 have bo:∀{b:Ut}{u:HO},B b=O u->b∉fp:=λ{b u} e m=>by rw[(hf b m).1]at e;cases e
 refine⟨λb u e=>ex.h b u ((Vg (bo e)).trans (k.bh b u e)),ex.gh,k.g0.trans ex.g,λb u e n=>ex.np b u ((Vg (bo e)).trans (k.bh b _ e)) (k.np b u e n),by rw[QU,QU];exact k.len,
  λj d q=>let ⟨v,h1,h2⟩:=k.pub j d (nz q).1;⟨v,h1,h2.mono ex.g⟩,λj ds q=>?_,λj l c es fs q1 q2 s1 s2=>k.sep j l c es fs (nz q1).1 (nz q2).1 s1 s2,ω,λj p d q=>?_,λj ds ad q s=>?_⟩
 .obtain⟨q,y1,y2⟩:=nz q
  obtain⟨ad,vs,h1,h2,h3,h4,h5⟩:=k.own j ds q;obtain⟨v,f,hv,r,nd,w⟩:=ks j (.lst .leaf) (.list ds) (by unfold ZF;rw[q]);rw[h1]at hv;cases hv;have m:ad∈f:=by cases r with|lst h rl=>exact Qf
  have no:ad∉fp:=λz=>by
   rcases(hf ad z).2 with z|z
   .exact y1 (z.symm.trans (w ad m).2.2)
   .exact y2 (z.symm.trans (w ad m).2.2)
  have hc:ZK fp H ad=O (.lst vs):=(Vg no).trans h4;exact⟨ad,vs,h1,h2,ex.np ad (.l vs) hc h3,ex.h ad _ hc,h5.mono ex.g⟩
 .obtain⟨q,y1,y2⟩:=nz q
  obtain⟨v,f,hv,r,nd,w⟩:=ks j p d (by unfold ZF;rw[q])
  have no:∀b∈f,b∉fp:=λb m z=>by
   rcases(hf b z).2 with z|z
   .exact y1 (z.symm.trans (w b m).2.2)
   .exact y2 (z.symm.trans (w b m).2.2)
  refine⟨v,f,hv,(r.cut hl no).mono ex.g ex.h,nd,λb m=>?_⟩;obtain⟨vs,hb⟩:=r.isl b m;exact⟨(w b m).1,ex.np b vs ((Vg (no b m)).trans hb) (w b m).2.1,(w b m).2.2⟩
 .obtain⟨q,y1,y2⟩:=nz q
  obtain⟨v,f,hv,r,nd,w⟩:=ks j (.lst .leaf) (.list ds) (by unfold ZF;rw[q]);rw[s]at hv;cases hv;have m:ad∈f:=by cases r with|lst h rl=>exact Qf
  exact(w ad m).2.2
end
section
variable{X:Cx}{B G0:Hp}{e:Uv}
theorem kR{α β:Type}{xs:List α}{ys:List β}(h:xs.length=ys.length):xs.isEmpty=ys.isEmpty:=by cases xs<;>cases ys<;>first|rfl|(simp at h)
end
end DL
namespace L2
open PySem PySem.Spec PyProof.Rows PySem.Calls PyProof.V
end L2
namespace DL
open PySem PySem.Spec L2
open PyProof.Rows hiding St
noncomputable def tgN:Uv->List Str
 |.Name x _=>[x]
 |.Tuple [.Name x _] _ _=>[x]
 |.Tuple [.Name x _,.Name y _] _ _=>[x,y]
 |.Tuple [.Name x _,.Name y _,.Name z _] _ _=>[x,y,z]
 |.Tuple [.Name x _,.Name y _,.Name z _,.Name u _] _ _=>[x,y,z,u]
 |_=>[]
noncomputable def adN(vs:List Str):List Str->List Str
 |[]=>vs
 |x::r=>adN (if vs.elem x then vs else vs++[x]) r
noncomputable def V6(vs:List Str):List Comprehension->List Str
 |[]=>vs
 |⟨tg,_,_,_⟩::r=>V6 (adN vs (tgN tg)) r
noncomputable def dotN(x:Str):Str:=("." : Str)++x
noncomputable def blN(N:List Str)(gs:List Comprehension):List Str:=N.map (λx=>if(V6 [] gs).elem x then dotN x else x)++V6 [] gs
noncomputable def glN(sc:Scope):List Str:=sc.names.filterMap λy=>match y.2 with | .globalImplicit=>O y.1|_=>xN
abbrev NmF(s:Stmt)(N:List Str):Prop:=FnNm (KI s) N (glN (KI s))
theorem mq{α:Type}{l:List α}{x:α}(n:Nat)(h:l[n]?=O x):x∈l:=QM h
section
variable{sc:Scope}{N gl:List Str}{x:Str}
theorem gA(H:FnNm sc N gl)(h:gl.elem x=xO):sc.names.lookup x=O .globalImplicit:=H.gl x (by simpa using h)
end
section
variable{X:Cx}{B G0:Hp}{KX:XW}{e e1 e2 o a b c i:Uv}{gl:List Str}{pos p2:Pos}{x:Str}{j:Nat}
theorem F4(H:FnNm X.env.scope X.N gl)(hi:X.N[j]?=O x:=by rfl)(hf:X.fn x=xO∨X.env.scope.names.lookup x=O .local:=by first|exact .inl rfl|exact .inr rfl|assumption):PG X (.Name x pos) (tG X.K B G0 (gN j)):=SD (VR H.nd hi (lq H j hi) hf)
theorem Ez{N':List Str}{scope:Scope}{cl:List (Str×Ut)}{C:Ut}{s₀:Ur}{H₀:Hp}{ex:xW}(hN:N'.Nodup:=by decide +kernel)(hi:N'[j]?=O x:=by rfl)(hl:locK (scope.names.lookup x)=xO:=by rfl):PG (X.blk N' scope cl C s₀ H₀ ex) (.Name x pos) (tG X.K B G0 (gN j)):=SD (VR hN hi (RI hl).1 (RI hl).2)
theorem aSet{f:M D}(H:FnNm X.env.scope X.N gl)(he:PE X e (tD X.K B G0 f))(hi:X.N[j]?=O x:=by rfl)(hs:swapsWith e (O (.Name x p2)) pos.line X.env=pure xP:=by rfl)
  (hf:X.fn x=xO∨X.env.scope.names.lookup x=O .local:=by first|exact .inl rfl|exact .inr rfl|assumption):PS X (.Assign [.Name x p2] e pos) (tS X.K B G0 KX (Kh j f)):=Ek H.nd hi (lq H j hi) he hs hf
theorem Nv{f:M xQ}(H:FnNm X.env.scope X.N gl)(he:PE X e (tL X.K B G0 f))(hi:X.N[j]?=O x:=by rfl)(hs:swapsWith e (O (.Name x p2)) pos.line X.env=pure xP:=by rfl)
  (hf:X.fn x=xO∨X.env.scope.names.lookup x=O .local:=by first|exact .inl rfl|exact .inr rfl|assumption):PS X (.Assign [.Name x p2] e pos) (tS X.K B G0 KX (Kz j f)):=RJ H.nd hi (lq H j hi) he hs hf
theorem F3{f:M D}{pt:Pat}(H:FnNm X.env.scope X.N gl)(he:PE X e (tT X.K B G0 pt f))(hi:X.N[j]?=O x:=by rfl)(hs:swapsWith e (O (.Name x p2)) pos.line X.env=pure xP:=by rfl)
  (hf:X.fn x=xO∨X.env.scope.names.lookup x=O .local:=by first|exact .inl rfl|exact .inr rfl|assumption):PS X (.Assign [.Name x p2] e pos) (tS X.K B G0 KX (Yq j pt f)):=RG H.nd hi (lq H j hi) he hs hf
theorem aAug{op:Operator}{p:Int->Int->xT}{f:M D}{pos':Pos}(H:FnNm X.env.scope X.N gl)(ho:IpD X op p)(he:PE X e (tD X.K B G0 f))(hi:X.N[j]?=O x:=by rfl)(hf:X.fn x=xO∨X.env.scope.names.lookup x=O .local:=by first|exact .inl rfl|exact .inr rfl|assumption):PS X (.AugAssign (.Name x pos') op e pos) (tS X.K B G0 KX (Y8 p j f)):=EO H.nd hi (lq H j hi) ho he hf
theorem F2{l:Bool}{tg elt iter:Uv}{ifs:xU}{gs:List Comprehension}{scope:Scope}{f:M xQ}{s:D->UQ->xX}{t:M Bool}{rd:RdB}{F:M xQ}{k:Nat}{SC:Scope}{N1:List Str}(H:FnNm SC N1 gl)(le:∀ρ es ρ',F ρ=.ok es ρ'->dCG l f k s t rd ρ=.ok es ρ')(hc:X.calm=xO)
  (hi:PI X tg iter (iD X.K B G0 f)) (vf:Z0 X (blN N1 (⟨tg,iter,ifs,0⟩::gs)) scope (.ListComp elt (⟨tg,iter,ifs,0⟩::gs) scope pos) tg ifs s t rd) (hb:Xv Wj SC scope N1 (blN N1 (⟨tg,iter,ifs,0⟩::gs)) k=xO) (h1:X.env.scope=SC:=by rfl) (h2:X.N=N1:=by rfl) (hs:∀x,UO iter X.env x=pure x:=by intro _;rfl) :
  PE X (.ListComp elt (⟨tg,iter,ifs,0⟩::gs) scope pos) (tL X.K B G0 F):=FH _ _ _ k le hc hi vf h1 h2 hb hs
theorem GW{l:Bool}{y:Str}{py spos:Pos}{tg elt iter:Uv}{ifs:xU}{gs:List Comprehension}{scope:Scope}{f:M xQ}{s:D->UQ->xX}{t:M Bool}{rd:RdB}{F:M xQ}{k:Nat}{SC:Scope}{N1:List Str}(H:FnNm SC N1 gl)(le:∀ρ es ρ',F ρ=.ok es ρ'->dCG l f k s t rd ρ=.ok es ρ')(hc:X.calm=xO)
  (hi:PI X tg iter (iD X.K B G0 f)) (vf:Z0 X (blN N1 (⟨tg,iter,ifs,0⟩::gs)) scope (.ListComp elt (⟨tg,iter,ifs,0⟩::gs) scope pos) tg ifs s t rd) (hb:Xv Wj SC scope N1 (blN N1 (⟨tg,iter,ifs,0⟩::gs)) k=xO) (hj:N1[j]?=O y:=by rfl) (hy:SC.names.lookup y=O .local:=by rfl) (h1:X.env.scope=SC:=by rfl) (h2:X.N=N1:=by rfl) (hs:∀x,UO iter X.env x=pure x:=by intro _;rfl)
  (hsw:swapsWith (.ListComp elt (⟨tg,iter,ifs,0⟩::gs) scope pos) (O (.Name y py)) spos.line X.env=pure xO:=by rfl) :
  PS X (.Assign [.Name y py] (.ListComp elt (⟨tg,iter,ifs,0⟩::gs) scope pos) spos) (tS X.K B G0 KX (Kz j F)):=sD_1 _ _ _ k le (h2 ▸ H.nd) (h2 ▸ hj) (h1 ▸ hy) hc hi vf h1 h2 hb hs hsw
theorem Ey{l:Bool}{scope0:Scope}{cl:List (Str×Ut)}{C:Ut}{s₀:Ur}{H₀:Hp}{ex:xW}{N2:List Str}{tg elt iter:Uv}{ifs:xU}{gs:List Comprehension}{scope:Scope}{f:M xQ}{s:D->UQ->xX}{t:M Bool}{rd:RdB}{F:M xQ}{k:Nat}(le:∀ρ es ρ',F ρ=.ok es ρ'->dCG l f k s t rd ρ=.ok es ρ')(hc:X.calm=xO)
  (hi:PI (X.blk N2 scope0 cl C s₀ H₀ ex) tg iter (iD X.K B G0 f)) (vf:Z0 (X.blk N2 scope0 cl C s₀ H₀ ex) (blN N2 (⟨tg,iter,ifs,0⟩::gs)) scope (.ListComp elt (⟨tg,iter,ifs,0⟩::gs) scope pos) tg ifs s t rd) (hb:Xv Wj scope0 scope N2 (blN N2 (⟨tg,iter,ifs,0⟩::gs)) k=xO) (hs:∀x,UO iter (X.blk N2 scope0 cl C s₀ H₀ ex).env x=pure x:=by intro _;rfl) :
  PE (X.blk N2 scope0 cl C s₀ H₀ ex) (.ListComp elt (⟨tg,iter,ifs,0⟩::gs) scope pos) (tL X.K B G0 F):=Eg _ k le hc hi vf hb hs
end
end DL
namespace DL
open PySem PySem.Spec L2
open PyProof.Rows hiding St
open Builtin Builtin.Str
end DL
namespace DL
open PySem PySem.Spec L2
open PyProof.Rows hiding St
end DL
namespace DL
open PySem PySem.Spec L2
open PyProof.Rows hiding St
open PySem.SeqRoads2 PySem.SeqAt
end DL
namespace DL
open PySem PySem.Spec L2
open PyProof.Rows hiding St
end DL
namespace L2
open PySem PySem.Spec PyProof.Rows
end L2
namespace DL
open PySem PySem.Spec L2
open PyProof.Rows hiding St
end DL
namespace DL
open PySem PySem.Spec L2
open PyProof.Rows hiding St
open PySem.SeqRoads2 PySem.SeqAt
noncomputable def WB(z:Bool):Uq->Bool
 |.bool x=>x==z
 |_=>xP
theorem Of:∀{ts:List Bool}{us:xS}{i:Nat}{v:Uq},Vals (ts.map V.bl) us->us[i]?=O v->∃x,ts[i]?=O x/\v=.bool x
 |[],_,_,_,.nil,e=>by cases e
 |x::ts,_,0,_,.cons h _,e=>by cases e;cases h;exact⟨x,rfl,rfl⟩
 |x::ts,_,i+1,_,.cons _ r,e=>Of (i:=i) r e
theorem A6{X:Cx}:MtR X "list.index" (λv vs H Q=>∃l z,∃ts:List Bool,v=.ref l/\vs=[.bl z]/\SqL X.K H l (ts.map V.bl)/\z∈ts/\Q (.int (ts.idxOf z:Nat)) H):=by
 intro pins s σ H x vs v us Q I rx rv h;obtain⟨l,z,ts,rfl,rfl,hq,hk,q⟩:=h;cases rx;obtain⟨u,rfl,ru⟩:=rv.one;cases ru;obtain⟨its,rv,p,hz⟩:=I.list hq;obtain⟨⟨cls,dd,data,sl⟩,ho,hc,n,hd⟩:=id p.isList;simp only at hc hd;subst hc hd;have hlen:ts.length=its.length:=by have:=rv.length;rwa[Qb]at this
 have hj:ts.idxOf z<ts.length:=List.idxOf_lt_length_iff.mpr hk;have hsz:its.length<=Uw:=by rw[←hlen];rw[Qb]at hz;exact hz
 have hS:(Uw:Int)<2 ^ 63-1:=by decide
 have tx:∀(i:Nat)(hi:i<its.length)(hi':i<ts.length),WB z its[i]=(ts[i]==z):=λi hi hi'=>by obtain⟨x,e1,e2⟩:=Of rv (Qe hi);rw[Qe hi']at e1;cases e1;rw[e2];rfl
 refine call_meets PySem.F.slot_list_index ⟨_,ho,rfl⟩ PySem.F.entry_list_index (PySem.F.args_list_index_2 _ _)
  (list_indexAt l its.toArray n dd sl (.bool z) (WB z) (ts.idxOf z) (by simpa[←hlen]using hj) (by lia) ?_ ?_) ⟨ho,λy hy=>?_,⟨.int _,H,I.tok _,⟨_,rfl⟩,q⟩⟩
 .show WB z its[ts.idxOf z]=xO
  rw[tx _ (by lia) hj];simpa using List.getElem_idxOf hj
 .intro j hjs hlt
  have hjs:j<its.length:=by simpa using hjs
  show WB z its[j]=xP;rw[tx j hjs (by lia)];have:=List.not_of_lt_findIdx (p:=(· == z)) (xs:=ts) hlt;simpa using this
 .have hm:y∈its:=by simpa using hy
  obtain⟨i,hi,e⟩:=List.getElem_of_mem hm;obtain⟨x,e1,e2⟩:=Of rv (Qe hi);rw[e]at e2;subst e2;exact EqAt.bool_bool _ _
noncomputable def Oe(y:D)(xs:xQ):xT:=match y,xs with
 |.list ds,[.bool k]=>(match Xx ds with
  |some ns=>if k∈ns then O (.int (ns.idxOf k:Nat))else xN
  |none=>xN)
 |_,_=>xN
theorem kQ{ds xs:xQ}{d:D}(h:Oe (.list ds) xs=O d):∃k ns,xs=[.bool k]/\Xx ds=O ns/\k∈ns/\d=.int (ns.idxOf k:Nat):=by
 unfold Oe at h;split at h
 .rename_i ds' k e1
  cases e1;cases z:Xx ds with
  |none=>rw[z]at h;cases h
  |some ns=>
   rw[z]at h;dsimp only at h;split at h
   .rename_i c
    cases h;exact⟨k,ns,rfl,rfl,c,rfl⟩
   .cases h
 .cases h
noncomputable def Mz(f:M D)(g:M xQ):M D:=U2 f λy=>U2 g λxs=>U1 (match y with | .list ds=>Oe (.list ds) xs|_=>xN)
section
variable{X:Cx}{B G0:Hp}{e o:Uv}{es:xU}
theorem jr{apos cpos:Pos}{f:M D}{g:M xQ}(ho:PE X o (tD X.K B G0 f))(ha:PA X (e::es) (tDs X.K B G0 g))
  (hbase:attributeBase o "index" X.env (eval o X.env)=eval o X.env:=by rfl)
  (hfew:((backTo cpos (Uy (e::es) X.env)).all (λx=>!x.1)&&(backToKw cpos (keywordEach [] X.env)).all (λx=>x.1.isSome)
   && decide ((e::es).length+([]:List Keyword).length+(if([]:List Keyword).isEmpty then 0 else 1)<30))=xO:=by rfl)
  (hline:(apos.endLine==cpos.line)=xO:=by rfl) (hs:Uy (e::es) X.env=(xP,eval e X.env)::Uy es X.env:=by rfl) (hplain:(backTo cpos (Uy es X.env)).any (·.1)=xP:=by rfl) :
  PE X (.Call (.Attribute o "index" apos) (e::es) [] cpos) (tD X.K B G0 (Mz f g)):=
 Kb (Wl Q9 F.slot_list_index F.type_list_index A6 ho ha hbase hfew hline hs hplain) λσ H Q q=>by
  refine tM.one (R:=Rep X.K) q λv H2 G ρ y k r a=>?_
  cases y with
  |list ds=>
   obtain⟨l,ws,rfl,h1,r1⟩:=r.lst_inv;refine⟨.inl ⟨rfl,ws,k.gh.seq h1⟩,?_⟩;refine tM.nx (R:=Reps X.K) k a λxs H3 G3 ρ3 es k3 s3 r3 a3=>?_
   obtain⟨d,e,a3⟩:=a3.opt;obtain⟨x,ns,rfl,z,hk,rfl⟩:=kQ e;obtain⟨u,rfl,ru⟩:=r3.one_inv;have:=Nc r1 z;subst this;exact⟨l,x,ns,rfl,by rw[ru.bl_inv],k3.gh.seq (s3.seq h1),hk,aft.now a3 k3 (.int _)⟩
  |_=>
   unfold U2 at a;cases z:g ρ with
   |bad=>rw[z]at a;exact a.elim
   |ok xs ρ1=>rw[z]at a;exact a.elim
end
end DL
namespace DL
open PySem PySem.Spec L2
open PyProof.Rows hiding St
section
variable{X:Cx}{B G0:Hp}{KX:XW}{e e':Uv}{es es':xU}{st st':Stmt}{sts wC:List Stmt}{pos p2:Pos}{x:Str}{j:Nat}{gl:List Str}
theorem BJ{g h:SM}(q:st::sts=wC)(h1:PS X st (tS X.K B G0 KX g))(h2:PSs X sts (tS X.K B G0 KX h)):PSs X wC (tS X.K B G0 KX (UV g h)):=q ▸ X4 h1 h2
theorem Ex{f:M xQ}(q:Stmt.Assign [.Name x p2] e pos=st')(H:FnNm X.env.scope X.N gl)(he:PE X e (tL X.K B G0 f))(hi:X.N[j]?=O x:=by rfl)(hs:swapsWith e (O (.Name x p2)) pos.line X.env=pure xP:=by rfl)
  (hf:X.fn x=xO∨X.env.scope.names.lookup x=O .local:=by first|exact .inl rfl|exact .inr rfl|assumption):PS X st' (tS X.K B G0 KX (Kz j f)):=q ▸ Nv H he hi hs hf
theorem BI{f:M xQ}(q:Expr.List es pos=e')(h:PA X es (tDs X.K B G0 f)):PE X e' (tL X.K B G0 (U2 f λxs=>if xs.length<=1000000 then UU xs else λ_=>.bad)):=q ▸ TQ h
theorem A5{f:M D}{g:M xQ}(q:e::es=es')(ha:PE X e (tD X.K B G0 f))(hr:PA X es (tDs X.K B G0 g))(hs:Uy (e::es) X.env=(xP,eval e X.env)::Uy es X.env:=by rfl):PA X es' (tDs X.K B G0 (UT f g)):=q ▸ Ve ha hr hs
end
section
variable{X:Cx}{B G0:Hp}{KX:XW}{a b e e':Uv}{es es':xU}{st st':Stmt}{sts wC:List Stmt}{pos p2:Pos}{x:Str}{j:Nat}{gl:List Str}
theorem GV{f:M D}(q:Stmt.Assign [.Name x p2] e pos=st')(H:FnNm X.env.scope X.N gl)(he:PE X e (tD X.K B G0 f))(hi:X.N[j]?=O x:=by rfl)(hs:swapsWith e (O (.Name x p2)) pos.line X.env=pure xP:=by rfl)
  (hf:X.fn x=xO∨X.env.scope.names.lookup x=O .local:=by first|exact .inl rfl|exact .inr rfl|assumption):PS X st' (tS X.K B G0 KX (Kh j f)):=q ▸ aSet H he hi hs hf
theorem BH{f:M xQ}(q:Expr.List es pos=e')(h:PA X es (tDs X.K B G0 f)):PE X e' (tD X.K B G0 (U7 f)):=q ▸ MP h
theorem BG{x1}{f:M xQ}(q:Expr.Tuple es x1 pos=e')(h:PA X es (tDs X.K B G0 f)):PE X e' (tD X.K B G0 (Kp f)):=q ▸ MQ h
theorem NW{op:Operator}{p:D->D->xT}{f g:M D}(o:OpD X (binaryOp op) p)(q:Expr.BinOp a op b pos=e')(ha:PE X a (tD X.K B G0 f))(hb:PE X b (tD X.K B G0 g)):PE X e' (tD X.K B G0 (UY p f g)):=q ▸ Vp o ha hb
end
noncomputable def cTT(s:D->UQ->xX)(t:M Bool)(g:M D):xQ->UQ->xQ->Option xQ
 |[],_,es=>O es
 |d::r,ρ,es=>match s d ρ with
  |none=>xN
  |some ρ1=>match t ρ1 with
   |.bad=>xN
   |.ok b ρ2=>if b=xO then(match g ρ2 with
     |.ok x ρ3=>if es.length<1000000 then cTT s t g r (Km ρ3) (es++[x])else xN
     |.bad=>xN)
    else cTT s t g r (Km ρ2) es
noncomputable def Wn(f:M xQ)(k:Nat)(s:D->UQ->xX)(t:M Bool)(g:M D):M D:=λρ=>match f ρ with
 |.bad=>.bad
 |.ok ds ρ1=>match cTT s t g ds (Km ρ1++UB k xN) []with
  |none=>.bad
  |some es=>.ok (.list es) ρ1
structure NF(Y:Cx)(D':Ut)(pt:Pat)(pins:List (Ut×Obj))(H G:Hp)(es:xQ)(ρ':UQ)(σ':St)(H' G':Hp)(vs:List V)(fq:xW)(s':Ur):Prop where
 inv:Inv Y pins σ' H' s'
 eok:EOk Y.K H' G' G' H' σ' ρ'
 hh:∀a o,a≠D'->H a=O o->H' a=O o
 gg:Same G G'
 np:∀a(u:MO),H a=O u.ho->G a=xN->G' a=xN
 hd:H' D'=O (.lst vs)
 gd:G' D'=xN
 pr:RepOl Y.K G' H' pt vs es fq
 nd:fq.Nodup
 fr:∀a∈fq,H a=xN/\G' a=xN
section
variable{Y:Cx}{D':Ut}{pt:Pat}
theorem A4{tg elt:Uv}{ifs:xU}{code:Code}{s:D->UQ->xX}{t:M Bool}{g:M D}{it:Ut}(hx:Y.xe=nox)(hc:Y.calm=xO)
  (rule:VL Y.prog Y.w Y.A tg ifs Y.env (.ref it) code (λQ s=>Ux (model Y.prog Y.w) Y.A (eval elt Y.env) (λx s₄=>Ux (model Y.prog Y.w) Y.A (call (.builtin "list.append") [.ref D',x]) (λ_ s₅=>Q s₅) nox s₄) nox s))
  (hg:∀B1 G1,PG Y tg (tG Y.K B1 G1 s)) (ht:∀B1 G1,ZA Y ifs (tBo Y.K B1 G1 t)) (he:∀B1 G1,PE Y elt (tT Y.K B1 G1 pt g))
  {pins:List (Ut×Obj)} {sh:Ur} {σ:St} {H G:Hp} {ρ:UQ} {fp:xW} {tn:Nat->Heap->Prop} {J:It} {ds esF:xQ} {R:Result->Ur->Prop}
  (I:Inv Y pins σ H sh) (T:Turn Y.prog Y.w Y.K tg J fp it tn) (st:tn 0 sh.heap) (hf:∀b∈fp,KP Y pins H b)
  (k:EOk Y.K H G G H σ ρ) (its:Xi Y.K J ds G) (hD:H D'=O (.lst [])) (gD:G D'=xN) (zl:cTT s t g ds ρ []=O esF)
  (vD:∀ρ' σ' H' G' vs' fq s',NF Y D' pt pins H G esF ρ' σ' H' G' vs' fq s'->R (.ok .next) s'):codeAny (model Y.prog Y.w) Y.A code R sh:=by
 have stat:∀{H':Hp},(∀b∈fp,H' b=xN)->∀b∈fp,KP Y pins H' b:=λhn b hb=>⟨hn b hb,(hf b hb).2⟩
 refine rule R (λn s'=>∃i σ' H' G' ρ' vs' es' fq,n=ds.length-i/\tn i s'.heap/\(∀b∈fp,H' b=xN)/\NF Y D' pt pins H G es' ρ' σ' H' G' vs' fq s'/\cTT s t g (ds.drop i) ρ' es'=O esF) ds.length sh
  ⟨0,σ,H,G,ρ,[],[],[],rfl,st,λb hb=>(hf b hb).1,⟨I,k,λ_ _ _ q=>q,.refl _,λ_ _ _ z=>z,hD,gD,.nil,List.nodup_nil,λ_ m=>nomatch m⟩,by rw[Uj];exact zl⟩ ?_
 rintro n s' ⟨i,σ',H',G',ρ',vs',es',fq,rfl,wp,wv,⟨I',k',vU,vM,wP,vw,gD',wO,vz,ff'⟩,zc⟩
 have keepN:∀{G6 H6:Hp}{σ6:St}{ρ6:UQ},EOk Y.K H' G' G6 H6 σ6 ρ6->∀a(u:MO),H a=O u.ho->G a=xN->G6 a=xN:=λ{G6 H6 σ6 ρ6} k6 a u e z=>by
  by_cases hz:a=D'
  .subst hz;exact k6.np _ (.l _) vw gD'
  .exact k6.np a u (vU a _ hz e) (wP a u e z)
 have keepF:∀{G6 H6:Hp}{σ6:St}{ρ6:UQ},EOk Y.K H' G' G6 H6 σ6 ρ6->∀a∈fq,H a=xN/\G6 a=xN:=λ{G6 H6 σ6 ρ6} k6 a m=>by obtain⟨u,hu⟩:=wO.isl a m;exact⟨(ff' a m).1,k6.np a u hu (ff' a m).2⟩
 by_cases hlt:i<ds.length
 .rw[JE hlt,cTT]at zc
  cases zs:s ds[i] ρ' with
  |none=>rw[zs]at zc;cases zc
  |some ρ2=>
  rw[zs]at zc;dsimp only at zc;cases zt:t ρ2 with
  |bad=>rw[zt]at zc;cases zc
  |ok b ρ3=>
  rw[zt]at zc;dsimp only at zc;refine thn (T.item Y xM xM xM hc i pins s' σ' H' nox I' (stat wv) wp (its.go i G' H' vM k'.gh hlt)) λrr s4 ⟨u,hr,h4⟩=>?_;subst hr;refine thn h4 λ_ s5 ⟨x,H5,I5,r5,y5,vH,wJ⟩=>?_
  obtain⟨G5,e5,rx⟩:=its.yld i G' H' x H5 ds[i] vM k'.gh (Qe hlt) y5;have h6:=hg H' G' _ s5 σ' H5 x u (λσ6 H6=>∃G6,EOk Y.K H' G' G6 H6 σ6 ρ2) (I5.pinned (stat wJ) (T.obj _ _ vH)) r5 ⟨G5,ρ',ds[i],ρ2,k'.ext e5,rx,zs,λσ6 G6 H6 k6 _=>⟨G6,k6⟩⟩;rw[hx]at h6;refine thn h6 λ_ s6 ⟨σ6,H6,I6,G6,k6⟩=>?_;have h7:=ht H' G' _ s6 σ6 H6 (λc H7=>c=b/\∃G7,EOk Y.K H' G' G7 H7 σ6 ρ3) I6 ⟨G6,ρ2,k6,by unfold aft;rw[zt];exact λc G7 H7 k7 _ q=>⟨q,G7,k7⟩⟩
  rw[hx]at h7;refine thn h7 λok s7 ⟨H7,I7,hb7,G7,k7⟩=>?_;subst hb7
  have again:∀{H9:Hp}{σ9:St}{s9:Ur},Inv Y (pins++Vx fp s5.heap) σ9 H9 s9->Inv Y pins σ9 H9 s9/\tn (i+1) s9.heap/\∀b∈fp,H9 b=xN:=λ{H9 σ9 s9} I9=>by refine⟨I9.unpinned,T.keep _ _ _ vH λb hb o e=>(I9.pin (b,o) (Qn _ (Qn _ (Vj hb e)))).1,λb hb=>?_⟩;obtain⟨o,e,d⟩:=T.obj _ _ vH b hb;exact(I9.pin (b,o) (Qn _ (Qn _ (Vj hb e)))).2.1
  have lt:ds.length-(i+1)<ds.length-i:=Nat.sub_lt_sub_left hlt (Nat.lt_succ_self i);cases ok with
  |false=>rw[Qw (by decide)]at zc⊢;obtain⟨J1,J2,J3⟩:=again I7;exact⟨_,lt,i+1,σ6,H7,G7,Km ρ3,vs',es',fq,rfl,J2,J3,⟨J1,k7.rebase,λa o z q=>k7.bh a o (vU a o z q),vM.trans k7.g0,keepN k7,k7.bh _ _ vw,k7.np _ (.l _) vw gD',wO.mono k7.g0 k7.bh,vz,keepF k7⟩,zc⟩
  |true=>
   rw[Qq xM]at zc⊢;cases zg:g ρ3 with
   |bad=>rw[zg]at zc;cases zc
   |ok dE ρ4=>
   rw[zg]at zc;dsimp only at zc;split at zc
   .rename_i hle
    have h8:=he H' G' _ s7 σ6 H7 (λv H8=>∃fv G8,EOk Y.K H' G' G8 H8 σ6 ρ4/\NewT Y.K H' G8 H8 σ6 ρ4 pt v dE fv) I7 ⟨G7,ρ3,k7,by rw[zg];exact λv fv G8 H8 k8 _ n=>⟨fv,G8,k8,n⟩⟩;rw[hx]at h8;refine thn h8 λev s8 ⟨v,H8,I8,rv,fv,G8,k8,n8⟩=>?_;have g8:=k8.np _ (.l _) vw gD';have hD8:=k8.bh _ _ vw;have h2:=Wv _ s8 σ6 H8 (.ref D') [v] (.ref D') [ev] (λ_ H9=>H9=upd H8 D' (.lst (vs'++[v]))) I8 xM (.cons rv .nil) ⟨D',vs',v,rfl,rfl,hD8,by have:=lim1;rw[wO.length];omega,rfl⟩
    rw[hx]at h2;refine thn h2 λ_ s9 ⟨_,H9,I9,_,e9⟩=>?_;subst e9
    obtain⟨J1,J2,J3⟩:=again I9;have nt:∀ws,H8 D'≠O (.tup ws):=λws z=>by rw[hD8]at z;cases z
    have nq:D'∉fq:=λm=>by have:=(ff' D' m).1;rw[hD]at this;cases this
    have nv:D'∉fv:=λm=>by have:=(n8.b D' m).1;rw[vw]at this;cases this
    have up:∀b o,b≠D'->H8 b=O o->upd H8 D' (.lst (vs'++[v])) b=O o:=λb o z q=>by rw[Ki z];exact q
    have fvH:∀b∈fv,H b=xN:=λb m=>by
     cases q:H b with
     |none=>rfl
     |some o=>have:=vU b o (λz=>by subst z;exact nv m) q;rw[(n8.b b m).1]at this;cases this
    refine⟨_,lt,i+1,σ6,_,G8,_,_,_,fq++(fv++[]),rfl,J2,J3,⟨J1,k8.beside g8,λa o z q=>up a o z (k8.bh a o (vU a o z q)),vM.trans k8.g0,keepN k8,Ks,g8,
     ((wO.mono k8.g0 k8.bh).upd nt nq).append (.cons (n8.r.upd nt nv) .nil),?_,λa m=>?_⟩,zc⟩
    .rw[QH]
     refine QL.mpr ⟨vz,n8.nd,λx hx y hy z=>?_⟩;subst z;obtain⟨u,hu⟩:=wO.isl x hx;rw[(n8.b x hy).1]at hu;cases hu
    .rw[QH]at m
     rcases QO.mp m with m|m
     .exact keepF k8 a m
     .exact⟨fvH a m,(n8.b a m).2⟩
   .cases zc
 .rw[List.drop_eq_nil_of_le (Q2 hlt),cTT]at zc
  cases zc;refine thn (T.done Y xM xM xM hc i pins s' σ' H' nox I' (stat wv) wp (its.stop i G' H' vM k'.gh (Q2 hlt))) λrr s4 ⟨hr,I6⟩=>?_
  subst hr;exact vD ρ' σ' H' G' vs' fq s4 ⟨I6,k',vU,vM,wP,vw,gD',wO,vz,ff'⟩
end
section
variable{X:Cx}{B G0:Hp}{KX:XW}{pt:Pat}
def SZ(X:Cx)(N2:List Str)(scope:Scope)(elt tg:Uv)(ifs:xU)(s:D->UQ->xX)(t:M Bool)(pt:Pat)(g:M D):Prop:=
 ∀(cl:List (Str×Ut))(C:Ut)(s₀:Ur)(H₀:Hp)(ex:xW),(∀B' G',PG (X.blk N2 scope cl C s₀ H₀ ex) tg (tG X.K B' G' s))/\(∀B' G',ZA (X.blk N2 scope cl C s₀ H₀ ex) ifs (tBo X.K B' G' t))/\∀B' G',PE (X.blk N2 scope cl C s₀ H₀ ex) elt (tT X.K B' G' pt g)
theorem jq{f:M xQ}{k:Nat}{s:D->UQ->xX}{t:M Bool}{g:M D}{ρ ρ':UQ}{d:D}(h:Wn f k s t g ρ=.ok d ρ'):∃ds es,d=.list es/\f ρ=.ok ds ρ'/\cTT s t g ds (Km ρ'++UB k xN) []=O es:=by
 unfold Wn at h;cases zf:f ρ with
 |bad=>rw[zf]at h;cases h
 |ok ds ρ1=>
 rw[zf]at h;dsimp only at h;cases zl:cTT s t g ds (Km ρ1++UB k xN) []with
 |none=>rw[zl]at h;cases h
 |some es'=>rw[zl]at h;cases h;exact⟨ds,es',rfl,rfl,zl⟩
theorem A3{tg elt iter:Uv}{ifs:xU}{scope:Scope}{pos pos':Pos}{N2:List Str}{k:Nat}{f:M xQ}{s:D->UQ->xX}{t:M Bool}{g:M D}{use:Option (Uq->Sem Unit)}{Qc:Uq->Ur->Prop}(hc:X.calm=xO)
  (hi:PI X tg iter (iD X.K B G0 f)) (vf:SZ X N2 scope elt tg ifs s t pt g) (hb:WZ X.env.scope scope X.N N2 k) (hs:∀x,UO iter X.env x=pure x)
  {pins:List (Ut×Obj)} {s0:Ur} {σ:St} {G H:Hp} {ρ ρ1:UQ} {ds esF:xQ} (I:Inv X pins σ H s0) (k0:EOk X.K B G0 G H σ ρ) (zf:f ρ=.ok ds ρ1) (zl:cTT s t g ds (Km ρ1++UB k xN) []=O esF)
  (vD:∀(C:Ut)(v:V)(fq:xW)(u:Uq)(G' H':Hp)(s4:Ur)(m:Str->xV),RelV v u->Inv X pins σ H' s4->s4.heap.Ns C m->H' C=xN->C≠X.env.locals->X.s₀.heap.objs.size<=C->(∀x c,X.env.cells.lookup x=O c->c≠C)->(∀p∈X.pn++pins,p.1≠C) ->
   EOk X.K B G0 G' H' σ ρ1->Same G G'->NewT X.K B G' H' σ ρ1 (.lst pt) v (.list esF) fq->compPost (model X.prog X.w) X.A X.xe use Qc u C (.ok .next) s4) :
  Ux (model X.prog X.w) X.A (comprehension (.ListComp elt [⟨tg,iter,ifs,0⟩] scope pos) scope X.env pos' (newList []) xP (eval iter X.env) use) Qc X.xe s0:=by
 obtain⟨wy,hcl,wc,wL⟩:=O0 (scope:=scope) (env:=X.env) λy hy hf=>I.ok.has y.1 (hb.free y hy hf)
 refine wpAny_comprehension_free (use:=use) xM hs hcl hb.kind (λy hy hl=>(hb.names y hy).trans (by rw[hl])) (thn (hi pins s0 σ H (λJ H1=>∃G1,EOk X.K B G0 G1 H1 σ ρ1/\Same G G1/\Xi X.K J ds G1) I ⟨G,ρ,k0,by rw[zf];exact λJ G1 H1 k1 s1 it=>⟨G1,k1,s1,it⟩⟩) λv s1 h1=>thn h1 λitv s2 h2=>?_);obtain⟨it,fp,tn,J,H2,rfl,I2,T,st2,f2,G1,k1,sg1,its⟩:=h2;refine JM (PK wc wL hb.names (λx c e=>let ⟨_,q⟩:=I2.cell x c e;Qy q.lt (by first|exact Qr _|(rw[Jo];exact Jp _))) λh₁ cl hns₁ kept hco=>?_);dsimp only at hns₁ kept hco⊢;have hfr:H2 s2.heap.objs.size=xN:=I2.hok.fresh (Qr _)
 have I3:Inv X pins σ (upd H2 s2.heap.objs.size (.lst [])) {s2 with heap:=s2.heap.push {cls:=.type "list", dict:=xN,data:=.seq ([]:xS).toArray}}:=
  I2.laid (t':=s2.toks) (λb u e=>Qg _ e) (Qr _) ⟨JL _,[],0,.nil,QD _ xM⟩
 generalize hP:s2.heap.push {cls:=.type "list", dict:=xN,data:=.seq ([]:xS).toArray}=P at I3 hns₁ kept hco⊢;have old:∀b o,s2.heap.get? b=O o->P.get? b=O o:=λb o e=>hP ▸ Qg _ e;have fpo:∀b∈fp,∃o,s2.heap.get? b=O o:=λb hb=>let ⟨o,e,_⟩:=T.obj _ _ st2 b hb;⟨o,e⟩
 have fpD:∀b∈fp,b≠s2.heap.objs.size:=λb hb=>let ⟨o,e⟩:=fpo b hb;QS (Qi e)
 have f3:∀b∈fp,KP X pins (upd H2 s2.heap.objs.size (.lst [])) b:=λb hb=>⟨by rw[Ki (fpD b hb)];exact(f2 b hb).1,(f2 b hb).2⟩
 have I4:=I3.enter (scope:=scope) (cl:=cl) (N2:=N2) (k:=k) (fp:=fp) (t':=s2.toks) hb.b hb.kind hb.free hco hns₁ kept f3 (λb hb=>let ⟨o,e⟩:=fpo b hb;⟨o,old b o e⟩);dsimp only at I4;have gD:G1 s2.heap.objs.size=xN:=k1.gh.free hfr;have kb:=(k1.beside (o:=.lst []) gD).more k;have sH:Same H2 (upd H2 s2.heap.objs.size (.lst [])):=Zd hfr;have wj:upd H2 s2.heap.objs.size (.lst []) s2.heap.objs.size=O (.lst []):=Ks;generalize upd H2 s2.heap.objs.size (.lst [])=H3 at I3 I4 f3 kb sH wj;generalize s2.heap.objs.size=D at *;have wo:tn 0 h₁:=T.keep 0 _ _ st2 λb hb o e=>kept b o (old b o e)
 have stat:∀b∈fp,KP (X.blk N2 scope cl P.objs.size {s2 with heap:=P} H3 fp) pins H3 b:=λb hb=>by
  obtain⟨z0,z1,z2,z3,z4,z5⟩:=f3 b hb;obtain⟨o,e⟩:=fpo b hb;refine⟨z0,QS (Qi (old b o e)),λz=>?_,.inl hb,λx c q=>(hco.old x c q).elim (z4 x c) λw=>Jq (Nat.lt_trans (Qi (old b o e)) w.1),z5⟩;rcases QC.mp (I3.stkSub b z)with q|q
  .exact z1 q
  .exact z2 q
 have neD:∀a o,H2 a=O o->a≠D:=λa o q z=>by subst z;rw[hfr]at q;cases q
 obtain⟨hg,ht,he⟩:=vf cl P.objs.size {s2 with heap:=P} H3 fp
 have loop:=A4 (Y:=X.blk N2 scope cl P.objs.size {s2 with heap:=P} H3 fp) (D':=D) (R:=compPost (model X.prog X.w) X.A X.xe use Qc (.ref D) P.objs.size) xM hc (OJ (elt:=elt) (gens:=[⟨tg,iter,ifs,0⟩]) (scope:=scope) (pos:=pos) (j:=0) (i:=iter) xM xM) hg ht he I4 T wo stat kb its wj gD zl λρ' σ' H' G' vs' fq s4 L=>by
   obtain⟨m,hm,_⟩:=id L.inv.loc;have I7:Inv X pins σ H' s4:=I3.call' (ch:=fp) L.inv.os L.inv.base L.inv.hok L.inv.bare λb hb=>⟨(f3 b hb).2.2.2.1,(f3 b hb).2.1,(f3 b hb).2.2.2.2.1,(f3 b hb).2.2.2.2.2⟩;have hH:Same H2 H':=λa o q=>L.hh a o (neD a o q) (sH a o q)
   have hf2:∀a,H3 a=xN->H2 a=xN:=λa q=>by
    cases z:H2 a with
    |none=>rfl
    |some o=>rw[sH a o z]at q;cases q
   have ex:Ext G1 H2 G' H':=⟨hH,L.gg,L.eok.gh,λa u e z=>L.np a u (sH a _ e) z⟩
   refine vD P.objs.size (.ref D) (D::fq) (.ref D) G' H' s4 m xM I7 hm L.inv.free (Jq I3.lt) I3.sz (λx c e z=>by obtain⟨_,q⟩:=I3.cell x c e;exact absurd q.lt (by rw[z];exact Jm _)) (λp hp z=>by have:=Qi (I3.pin p hp).1;exact absurd this (by rw[z];exact Jm _))
    (k1.ext ex) (sg1.trans L.gg) (k1.newT hH (.lst L.hd L.pr) (QY.mpr ⟨(λm=>by have:=(L.fr D m).1;rw[wj]at this;cases this),L.nd⟩) λa m=>?_)
   rcases QC.mp m with rfl|m
   .exact⟨hfr,L.gd⟩
   .exact⟨hf2 a (L.fr a m).1,(L.fr a m).2⟩
 exact codeAny_compStart_list loop (T.self X.A 0 _ _ _ wo loop)
end
section
variable{X:Cx}{B G0:Hp}{KX:XW}{e o:Uv}{es:xU}{pos:Pos}{pt:Pat}
theorem BF{f:M xQ}{k:Nat}{s:D->UQ->xX}{t:M Bool}{g:M D}{ρ ρ1:UQ}{ds es:xQ}(h1:f ρ=.ok ds ρ1)(h2:cTT s t g ds (Km ρ1++UB k xN) []=O es):Wn f k s t g ρ=.ok (.list es) ρ1:=by unfold Wn;rw[h1];dsimp only;rw[h2]
end
section
variable{K:Frag}{B G0 G H:Hp}{σ:St}{ρ:UQ}
theorem VX{i:Nat}{p:Pat}{d:D}(h:ρ[i]?=O (O (.deep p d))):ZF ρ i=O (p,d):=by unfold ZF;rw[h]
theorem Hf{i:Nat}{ds:xQ}(h:ρ[i]?=O (O (.own ds))):ZF ρ i=O (.lst .leaf,.list ds):=by unfold ZF;rw[h]
theorem EOk.mutN{j:Nat}{p pn:Pat}{d d' dn:D}{v vn:V}{fp fp' fn:xW}{a:Ut}{o:HO}(k:EOk K B G0 G H σ ρ)(hd:ρ[j]?=O (O (.deep p d)))(hv:σ[j]?=O (O v))(r:RepO K G H p v d fp)(ha:a∈fp)
  (n:NewT K B G H σ ρ pn vn dn fn) (r':RepO K G (upd H a o) p v d' fp') (vz:fp'.Nodup) (sub:∀b∈fp',b∈fp∨b∈fn):EOk K B G0 G (upd H a o) σ (ρ.set j (O (.deep p d'))):=by
 obtain⟨ω,k1,k2⟩:=k.dp;obtain⟨v0,fp0,s0,r0,n0,w0⟩:=k1 j p d hd;rw[hv]at s0;cases s0;have e0:=r0.uniq (.refl _) r;subst e0;obtain⟨hb,hg,hw⟩:=w0 a ha;obtain⟨ws,hl⟩:=r.isl a ha;have nt:∀vs,H a≠O (.tup vs):=λvs z=>by rw[hl]at z;cases ws<;>cases z
 have nz:∀{m:Nat}{s:Sl},j≠m->(ρ.set j (O (.deep p d')))[m]?=O (O s)->ρ[m]?=O (O s):=λ{m s} z q=>by rw[Qj z]at q;exact q
 refine⟨λb u e=>?_,λb u e=>?_,k.g0,k.np,by rw[QU];exact k.len,λm dm e=>?_,λm es e=>?_,λm l c es fs q1 q2 s1 s2=>?_,λb=>if b∈fn then j else ω b,λm pm dm e=>?_,λm es b e s=>?_⟩
 .rw[Ki (Yo e hb)];exact k.bh b u e
 .rw[Ki (Yo e hg)];exact k.gh b u e
 .by_cases z:j=m
  .subst z;have:=KS e;cases this
  .exact k.pub m dm (nz z e)
 .by_cases z:j=m
  .subst z;have:=KS e;cases this
  .have e:=nz z e
   obtain⟨c,us,g1,g2,g3,g4,g5⟩:=k.own m es e;have zc:c≠a:=λw=>by subst w;exact z (hw.symm.trans (k2 m es c e g1))
   exact⟨c,us,g1,g2,g3,by rw[Ki zc];exact g4,g5⟩
 .have z1:j≠m:=λz=>by subst z;have:=KS q1;cases this
  have z2:j≠l:=λz=>by subst z;have:=KS q2;cases this
  exact k.sep m l c es fs (nz z1 q1) (nz z2 q2) s1 s2
 .by_cases z:j=m
  .subst z
   have:=KS e;cases this;refine⟨v,fp',hv,r',vz,λb mb=>?_⟩;dsimp only;by_cases hbn:b∈fn
   .rw[Qq hbn];exact⟨(n.b b hbn).1,(n.b b hbn).2,rfl⟩
   .rw[Qw hbn]
    rcases sub b mb with mb|mb
    .exact w0 b mb
    .exact(hbn mb).elim
  .have e:=nz z e
   obtain⟨vm,fm,sm,rm,nm,wm⟩:=k1 m pm dm e;refine⟨vm,fm,sm,rm.upd nt (λmm=>z (hw.symm.trans (wm a mm).2.2)),nm,λb mb=>⟨(wm b mb).1,(wm b mb).2.1,?_⟩⟩;dsimp only;rw[Qw (λy=>n.dp b y m pm dm vm fm e sm rm mb)];exact(wm b mb).2.2
 .have z:j≠m:=λz=>by subst z;have:=KS e;cases this
  have e:=nz z e;dsimp only;rw[Qw (λy=>n.f b y m es e s)];exact k2 m es b e s
end
noncomputable def NE:Option (Pat×D)->Bool
 |some (.lst _,_)=>xO
 |_=>xP
noncomputable def Vr(j:Nat)(p:Pat)(f:M D):SM:=λρ=>match f ρ with
 |.ok d ρ1=>if NE (ZF ρ j)=xP then .bad else(match ρ1[j]? with
  |some (O (.deep (.lst q) (.list ds)))=>if q.is p=xO/\ds.length<1000000 then .nx (ρ1.set j (O (.deep (.lst p) (.list (ds++[d])))))else .bad
  |_=>.bad)
 |.bad=>.bad
section
variable{X:Cx}{B G0:Hp}{KX:XW}{st:Stmt}{o e e1 e2 e3 e4:Uv}{pos:Pos}{p:Pat}
theorem Co{j:Nat}{f:M D}{apos cpos:Pos}(ho:PE X o (Kl j))(he:PE X e (tT X.K B G0 p f))
  (hbase:attributeBase o "append" X.env (eval o X.env)=eval o X.env:=by rfl)
  (hfew:((backTo cpos (Uy [e] X.env)).all (λx=>!x.1)&&(backToKw cpos (keywordEach [] X.env)).all (λx=>x.1.isSome)
   && decide ([e].length+([]:List Keyword).length+(if([]:List Keyword).isEmpty then 0 else 1)<30))=xO:=by rfl)
  (hline:(apos.endLine==cpos.line)=xO:=by rfl) (hs:Uy [e] X.env=[(xP,eval e X.env)]:=by rfl)
  (hsw:swapsWith (.Call (.Attribute o "append" apos) [e] [] cpos) xN pos.line X.env=pure xP:=by rfl) :
  PS X (.Expr (.Call (.Attribute o "append" apos) [e] [] cpos) pos) (tS X.K B G0 KX (Vr j p f)):=
 KO (Xz (Wl Q9 Js Jt Wv ho (Zq he Z4 (by rw[hs];rfl)) hbase hfew hline (by rw[hs];rfl) xM) hsw) λD σ H ⟨G,ρ,k,q⟩=>by
  unfold Vr at q;cases z:f ρ with
  |bad=>rw[z]at q;exact q.elim
  |ok d ρ1=>
  rw[z]at q;dsimp only at q;split at q
  case isTrue=>exact q.elim
  case isFalse hn=>
  split at q
  case h_2=>exact q.elim
  case h_1 qq ds hj=>
  split at q
  case isFalse=>exact q.elim
  case isTrue hl=>
  have hq:=Pat.is_eq hl.1;subst hq;cases z0:ZF ρ j with
  |none=>rw[z0]at hn;exact(hn xM).elim
  |some pd=>
  obtain⟨p0,d0⟩:=pd;obtain⟨ω0,ks0⟩:=k.slots;obtain⟨v,f0,hv,r0,_⟩:=ks0 j _ _ z0;cases r0 with
  |leaf _=>rw[z0]at hn;exact(hn xM).elim
  |tup _ _=>rw[z0]at hn;exact(hn xM).elim
  |dic _ _ _ _=>rw[z0]at hn;exact(hn xM).elim
  |lst h0 rl0=>
  rename_i pp ad vs0 ww fp0 _;refine⟨_,hv,.inl ⟨rfl,_,SqL.of h0⟩,G,ρ,k,?_⟩;rw[z];intro vn fn G1 H1 k1 s1 n;obtain⟨ω,ks⟩:=k1.slots;obtain⟨v',fp,hv',r,nd,w⟩:=ks j _ _ (VX hj);rw[hv]at hv';cases hv';cases r with
  |lst h rl=>
  rename_i vs fp;have nt:∀ws,H1 ad≠O (.tup ws):=λws z=>by rw[h]at z;cases z
  obtain⟨na,nf⟩:=QY.mp nd;have dj:∀b∈fn,b∉ad::fp:=λb m=>n.dp b m j _ _ _ _ hj hv (.lst h rl)
  refine⟨ad,vs,vn,rfl,rfl,h,by rw[rl.length];exact Qy hl.2 lim,?_⟩;refine q σ G1 _ (k1.mutN hj hv (.lst h rl) Qf n (d':=.list (ds++[d])) (fp':=ad::(fp++(fn++[]))) (.lst Ks ((rl.upd nt na).append (.cons (n.r.upd nt (λm=>dj ad m Qf)) .nil))) ?_ ?_) s1
  .rw[QH]
   refine QY.mpr ⟨λm=>?_,QL.mpr ⟨nf,n.nd,λx hx y hy e=>?_⟩⟩
   .rcases QO.mp m with m|m
    .exact na m
    .exact dj ad m Qf
   .subst e
    exact dj x hy (Qh _ hx)
  .intro b mb
   rw[QH]at mb;rcases QC.mp mb with rfl|mb
   .exact .inl Qf
   .rcases QO.mp mb with mb|mb
    .exact .inl (Qh _ mb)
    .exact .inr mb
end
section
variable{ρ ρ1 ρ':UQ}{p:Pat}
theorem My{j:Nat}{f:M D}{d:D}{ds:xQ}{q:Pat}(h1:f ρ=.ok d ρ1)(h0:NE (ZF ρ j)=xO)(h2:ρ1[j]?=O (O (.deep (.lst q) (.list ds))))(h3:q.is p=xO)(h4:ds.length<1000000)(h5:ρ1.set j (O (.deep (.lst p) (.list (ds++[d]))))=ρ'):Vr j p f ρ=.nx ρ':=by unfold Vr;rw[h1];dsimp only;rw[if_neg (by rw[h0];decide),h2];dsimp only;rw[if_pos ⟨h3,h4⟩,h5]
end
abbrev TyM:=Ut->Option Nat
def SpI(H:Hp)(T:TyM)(c:Nat):Prop:=∀a n,T a=O n->∃vs,H a=O (.lst vs)/\vs.length<=c/\∀m,n=m+1->∀v∈vs,∃b,v=.ref b/\T b=O m
noncomputable def X0(H:Hp):xY->V->Option V
 |[],v=>O v
 |k::r,.ref a=>match H a with
  |some (.tup vs)=>(vs[k]?).bind (X0 H r)
  |_=>xN
 |_,_=>xN
theorem R3{H:Hp}:∀{π:xY}{v u:V},X0 H π v=O u->YD H π v=O u
 |[],v,u,e=>by cases e;rfl
 |k::r,.ref a,u,e=>by
  unfold X0 at e;unfold YD;split at e
  .rename_i vs h
   rw[h];dsimp only;cases z:vs[k]? with
   |none=>rw[z]at e;cases e
   |some w=>rw[z]at e;exact R3 e
  .cases e
 |k::r,.int _,u,e=>nomatch e
 |k::r,.non,u,e=>nomatch e
 |k::r,.bl _,u,e=>nomatch e
 |k::r,.str _,u,e=>nomatch e
abbrev Gam:=List (Nat×xY×Nat)
def GOk(H:Hp)(T:TyM)(σ:St)(Γ:Gam):Prop:=∀x∈Γ,∃v a,σ[x.1]?=O (O v)/\X0 H x.2.1 v=O (.ref a)/\T a=O x.2.2
structure SpR(H:Hp)(T:TyM)(σ:St)(ns:xY)(top:Nat)(H':Hp)(T':TyM)(σ':St):Prop where
 oth:∀a u,T a=xN->H a=O u->H' a=O u
 ext:∀a n,T a=O n->T' a=O n
 new:∀a n,T' a=O n->T a=O n∨H a=xN
 low:∀a n,T a=O n->top<n->H' a=H a
 len:σ'.length=σ.length
 st:∀i,i∉ns->σ'[i]?=σ[i]?
section
variable{H H' H'':Hp}{T T' T'':TyM}{σ σ' σ'':St}{ns ms:xY}{top top' c c':Nat}{Γ:Gam}
theorem SpR.refl:SpR H T σ ns top H T σ:=⟨λ_ _ _ q=>q,λ_ _ q=>q,λ_ _ q=>.inl q,λ_ _ _ _=>rfl,rfl,λ_ _=>rfl⟩
theorem SpR.trans(a:SpR H T σ ns top H' T' σ')(b:SpR H' T' σ' ms top H'' T'' σ''):SpR H T σ (ns++ms) top H'' T'' σ'' where
 oth:=λx u t h=>b.oth x u (by
  cases z:T' x with
  |none=>rfl
  |some n=>
   rcases a.new x n z with q|q
   .rw[t]at q;cases q
   .rw[h]at q;cases q) (a.oth x u t h)
 ext:=λx n q=>b.ext x n (a.ext x n q)
 new:=λx n q0=>by
  rcases b.new x n q0 with q|q
  .exact a.new x n q
  .cases z:T x with
   |some m=>have h1:=b.ext x m (a.ext x m z);rw[q0]at h1;cases h1;exact .inl xM
   |none=>
    cases y:H x with
    |none=>exact .inr xM
    |some u=>rw[a.oth x u z y]at q;cases q
 low:=λx n q l=>(b.low x n (a.ext x n q) l).trans (a.low x n q l)
 len:=b.len.trans a.len
 st:=λi h=>(b.st i λm=>h (Qn _ m)).trans (a.st i λm=>h (Qv _ m))
theorem SpR.up(a:SpR H T σ ns top H' T' σ')(h:top<=top'):SpR H T σ ns top' H' T' σ':=⟨a.oth,a.ext,a.new,λx n q l=>a.low x n q (Nat.lt_of_le_of_lt h l),a.len,a.st⟩
theorem Gg(I:SpI H T c)(a:SpR H T σ ns top H' T' σ'):∀{π:xY}{v u:V},X0 H π v=O u->X0 H' π v=O u
 |[],v,u,e=>e
 |k::r,.ref x,u,e=>by
  unfold X0 at e⊢;split at e
  .rename_i vs h
   have:T x=xN:=by
    cases z:T x with
    |none=>rfl
    |some n=>obtain⟨ws,hw,_⟩:=I x n z;rw[h]at hw;cases hw
   rw[a.oth x _ this h];dsimp only;cases z:vs[k]? with
   |none=>rw[z]at e;cases e
   |some w=>rw[z]at e;exact Gg I a e
  .cases e
 |k::r,.int _,u,e=>nomatch e
 |k::r,.non,u,e=>nomatch e
 |k::r,.bl _,u,e=>nomatch e
 |k::r,.str _,u,e=>nomatch e
theorem GOk.keep(I:SpI H T c)(g:GOk H T σ Γ)(a:SpR H T σ ns top H' T' σ')(h:∀x∈Γ,x.1∉ns):GOk H' T' σ' Γ:=λx m=>by obtain⟨v,b,h1,h2,h3⟩:=g x m;exact⟨v,b,by rw[a.st x.1 (h x m)];exact h1,Gg I a h2,a.ext b _ h3⟩
theorem SpI.le(I:SpI H T c)(h:c<=c'):SpI H T c':=λa n q=>let ⟨vs,h1,h2,h3⟩:=I a n q;⟨vs,h1,Qt h2 h,h3⟩
theorem SpI.put{a:Ut}{n:Nat}{us:List V}(I:SpI H T c)(h:c<=c')(ha:T a=O n)(hl:us.length<=c')(ty:∀m,n=m+1->∀v∈us,∃b,v=.ref b/\T b=O m):SpI (upd H a (.lst us)) T c':=λb k q=>by
 by_cases z:b=a
 .subst z
  rw[ha]at q;cases q;exact⟨us,Ks,hl,ty⟩
 .obtain⟨vs,h1,h2,h3⟩:=I b k q
  exact⟨vs,by rw[Ki z];exact h1,Qt h2 h,h3⟩
theorem SpR.put{a:Ut}{n:Nat}{o:HO}(ha:T a=O n)(h:n<=top):SpR H T σ ns top (upd H a o) T σ:=
 ⟨λb u q e=>by rw[Ki (λz=>by subst z;rw[ha]at q;cases q)];exact e,λ_ _ q=>q,λ_ _ q=>.inl q,λb m q l=>by rw[Ki (λz=>by subst z;rw[ha]at q;cases q;exact absurd l (Nat.not_lt.mpr h))],rfl,λ_ _=>rfl⟩
noncomputable def Ze(T:TyM)(a:Ut)(m:Nat):TyM:=λb=>if b=a then O m else T b
theorem SpI.new{a:Ut}{m:Nat}{us:List V}(I:SpI H T c)(ha:H a=xN)(hl:us.length<=c)(ty:∀k,m=k+1->us=[]):SpI (upd H a (.lst us)) (Ze T a m) c/\SpR H T σ ns top (upd H a (.lst us)) (Ze T a m) σ:=by
 have tn:T a=xN:=by
  cases z:T a with
  |none=>rfl
  |some n=>obtain⟨ws,hw,_⟩:=I a n z;rw[ha]at hw;cases hw
 have ne:∀{b n},T b=O n->b≠a:=λ{b n} q z=>by subst z;rw[tn]at q;cases q
 refine⟨λb k q=>?_,λb u q e=>?_,λb n q=>?_,λb n q=>?_,λb n q l=>?_,rfl,λ_ _=>rfl⟩
 .unfold Ze at q
  by_cases z:b=a
  .subst z
   rw[Qq xM]at q;cases q;exact⟨us,Ks,hl,λk e v mv=>by rw[ty k e]at mv;cases mv⟩
  .rw[Qw z]at q
   obtain⟨vs,h1,h2,h3⟩:=I b k q;refine⟨vs,by rw[Ki z];exact h1,h2,λk' e v mv=>?_⟩;obtain⟨b',e1,e2⟩:=h3 k' e v mv;exact⟨b',e1,by unfold Ze;rw[Qw (ne e2)];exact e2⟩
 .rw[Ki (λz=>by subst z;rw[ha]at e;cases e)];exact e
 .unfold Ze;rw[Qw (ne q)];exact q
 .unfold Ze at q
  by_cases z:b=a
  .subst z;exact .inr ha
  .rw[Qw z]at q;exact .inl q
 .exact Ki (ne q)
end
noncomputable def KW(Γ:Gam)(ns:xY)(top:Nat)(κ:Nat->Nat):TS:=λDn σ H=>∃T c,SpI H T c/\GOk H T σ Γ/\κ c<=1000000/\(∀i∈ns,i<σ.length)/\∀σ' H' T',SpR H T σ ns top H' T' σ'->SpI H' T' (κ c)->Dn.nx σ' H'
noncomputable def SY(Γ:Gam)(j:Nat)(π:xY):Option Nat:=Γ.findSome? λx=>if x.1=j/\x.2.1=π then O x.2.2 else xN
theorem OL{Γ:Gam}{j:Nat}{π:xY}{n:Nat}(h:SY Γ j π=O n):(j,π,n)∈Γ:=by
 obtain⟨⟨a,b,c⟩,m,e⟩:=List.exists_of_findSome?_eq_some h;split at e
 .rename_i hh
  obtain⟨h1,h2⟩:=hh;cases e;cases h1;cases h2;exact m
 .cases e
noncomputable def itK(κ:Nat->Nat):Nat->Nat->Nat
 |0,c=>c
 |n+1,c=>κ (itK κ n c)
noncomputable def kA(c:Nat):Nat:=c+1
noncomputable def kC(κ1 κ2:Nat->Nat)(c:Nat):Nat:=κ2 (κ1 c)
noncomputable def kF(κ:Nat->Nat)(c:Nat):Nat:=itK κ c c
def Inf(κ:Nat->Nat):Prop:=∀c,c<=κ c
theorem infA:Inf kA:=λc=>Jp c
theorem infC{κ1 κ2:Nat->Nat}(h1:Inf κ1)(h2:Inf κ2):Inf (kC κ1 κ2):=λc=>Qt (h1 c) (h2 _)
theorem RD{κ:Nat->Nat}(h:∀c,c<=κ c)(c:Nat):∀{m n:Nat},m<=n->itK κ m c<=itK κ n c
 |m,0,e=>by rw[Nat.le_zero.mp e];exact Qr _
 |m,n+1,e=>by
  by_cases z:m=n+1
  .rw[z];exact Qr _
  .exact Qt (RD h c (m:=m) (n:=n) (by omega)) (h _)
theorem infF{κ:Nat->Nat}(h:Inf κ):Inf (kF κ):=λc=>RD h c (m:=0) (n:=c) (JL c)
section
variable{X:Cx}{B G0:Hp}{KX:XW}{e o iter:Uv}{pos:Pos}{st:Stmt}{sts body:List Stmt}{Γ:Gam}{ns ms:xY}{top top':Nat}{κ κ1 κ2:Nat->Nat}{j n:Nat}{π:xY}
theorem EX{U:TS}(hn:∀x∈Γ,x.1∉ns)(h1:Inf κ2){Dn:Ends}{σ:St}{H:Hp}(h:KW Γ (ns++ms) top (kC κ1 κ2) {Dn with nx:=U Dn} σ H):KW Γ ns top κ1 {Dn with nx:=KW Γ ms top κ2 {Dn with nx:=U Dn}} σ H:=by obtain⟨T,c,I,g,hk,hl,q⟩:=h;refine⟨T,c,I,g,Qt (h1 _) hk,λi m=>hl i (Qv _ m),λσ' H' T' r I'=>⟨T',κ1 c,I',g.keep I r hn,hk,λi m=>by rw[r.len];exact hl i (Qn _ m),λσ2 H2 T2 r2 I2=>q σ2 H2 T2 (r.trans r2) I2⟩⟩
theorem BE(h1:PS X st (KW Γ ns top κ1))(h2:PSs X sts (KW Γ ms top κ2))(hn:∀x∈Γ,x.1∉ns:=by decide +kernel)(hi:Inf κ2:=by repeat' first|exact infI|exact infA|refine infF ?_|refine infC ?_ ?_):PSs X (st::sts) (KW Γ (ns++ms) top (kC κ1 κ2)):=
 W1 (VM h1 h2) λDn σ H h=>EX (U:=λD=>D.nx) hn hi h
theorem Cn(h1:PS X st (KW Γ ns top κ)):PSs X [st] (KW Γ ns top κ):=TR h1
theorem EW{U:TS}(h1:PS X st (KW Γ ns top κ))(h2:PSs X sts U):PSs X (st::sts) (Y7 (KW Γ ns top κ) U):=VM h1 h2
theorem EV{u:V}{apos cpos:Pos}(ho:PE X o (Z9 X.K j π))(he:PE X e (tC u))(wH:SY Γ j π=O 0:=by rfl)
  (hbase:attributeBase o "append" X.env (eval o X.env)=eval o X.env:=by rfl)
  (hfew:((backTo cpos (Uy [e] X.env)).all (λx=>!x.1)&&(backToKw cpos (keywordEach [] X.env)).all (λx=>x.1.isSome)
   && decide ([e].length+([]:List Keyword).length+(if([]:List Keyword).isEmpty then 0 else 1)<30))=xO:=by rfl)
  (hline:(apos.endLine==cpos.line)=xO:=by rfl) (hs:Uy [e] X.env=[(xP,eval e X.env)]:=by rfl)
  (hsw:swapsWith (.Call (.Attribute o "append" apos) [e] [] cpos) xN pos.line X.env=pure xP:=by rfl) :
  PS X (.Expr (.Call (.Attribute o "append" apos) [e] [] cpos) pos) (KW Γ [] top kA):=
 KO (Xz (Wl Q9 Js Jt Wv ho (Zq he Z4 (by rw[hs];rfl)) hbase hfew hline (by rw[hs];rfl) xM) hsw) λD σ H ⟨T,c,I,g,hk,hl,q⟩=>by obtain⟨v,ad,h1,h2,h3⟩:=g _ (OL wH);obtain⟨vs,h4,h5,h6⟩:=I ad 0 h3;exact⟨v,h1,YS.of (R3 h2) ⟨.inl ⟨rfl,_,SqL.of h4⟩,ad,vs,u,rfl,rfl,h4,Qy (Nat.lt_of_le_of_lt h5 hk) lim,q σ _ T (SpR.put h3 (JL _)) (I.put (Jp _) h3 (by rw[Qk];exact Nat.succ_le_succ h5) λm e=>(nomatch e))⟩⟩
noncomputable def NC(us:List V):TE:=λ_ H Q=>∀p,H p=xN->Q (.ref p) (upd H p (.lst us))
theorem Cm{u:V}(he:PE X e (tC u))(hs:Uy [e] X.env=[(xP,eval e X.env)]:=by rfl):PE X (.List [e] pos) (NC [u]):=Kb (RC (Zq he Z4 (by rw[hs];rfl))) λσ H Q h=>⟨(show 1<=Uw by decide),h⟩
theorem Ck{us:List V}{m:Nat}{apos cpos:Pos}(ho:PE X o (Z9 X.K j π))(he:PE X e (NC us))(hu:us.length<=1/\(us=[]∨m=0):=by exact⟨by decide,by first|exact .inl rfl|exact .inr xM⟩)(wH:SY Γ j π=O (m+1):=by rfl)(ht:m+1<=top:=by decide)
  (hbase:attributeBase o "append" X.env (eval o X.env)=eval o X.env:=by rfl)
  (hfew:((backTo cpos (Uy [e] X.env)).all (λx=>!x.1)&&(backToKw cpos (keywordEach [] X.env)).all (λx=>x.1.isSome)
   && decide ([e].length+([]:List Keyword).length+(if([]:List Keyword).isEmpty then 0 else 1)<30))=xO:=by rfl)
  (hline:(apos.endLine==cpos.line)=xO:=by rfl) (hs:Uy [e] X.env=[(xP,eval e X.env)]:=by rfl)
  (hsw:swapsWith (.Call (.Attribute o "append" apos) [e] [] cpos) xN pos.line X.env=pure xP:=by rfl) :
  PS X (.Expr (.Call (.Attribute o "append" apos) [e] [] cpos) pos) (KW Γ [] top kA):=
 KO (Xz (Wl Q9 Js Jt Wv ho (Zq he Z4 (by rw[hs];rfl)) hbase hfew hline (by rw[hs];rfl) xM) hsw) λD σ H ⟨T,c,I,g,hk,hl,q⟩=>by
  obtain⟨v,ad,h1,h2,h3⟩:=g _ (OL wH);obtain⟨vs,h4,h5,h6⟩:=I ad (m+1) h3;refine⟨v,h1,YS.of (R3 h2) ⟨.inl ⟨rfl,_,SqL.of h4⟩,λp hp=>?_⟩⟩;have ne:ad≠p:=λz=>by subst z;rw[h4]at hp;cases hp
  obtain⟨I1,R1⟩:=SpI.new (σ:=σ) (ns:=[]) (top:=top) (m:=m) (us:=us) (I.le (Jp c)) hp (Qt hu.1 (Nat.le_add_left 1 c)) λk e=>hu.2.elim id λz=>by rw[z]at e;cases e
  have t1:=R1.ext ad _ h3;refine⟨ad,vs,.ref p,rfl,rfl,by rw[Ki ne];exact h4,Qy (Nat.lt_of_le_of_lt h5 hk) lim,?_⟩;refine q σ _ _ (R1.trans (SpR.put t1 ht)) (I1.put (Qr _) t1 (by rw[Qk];exact Nat.succ_le_succ h5) λk e v' mv=>?_);cases e;rcases QO.mp mv with mv|mv
  .obtain⟨b,e1,e2⟩:=h6 m xM v' mv
   exact⟨b,e1,R1.ext b _ e2⟩
  .exact⟨p,QE.mp mv,by unfold Ze;rw[Qq xM]⟩
theorem NV{y:Str}{iy:Nat}{p1 p4:Pos}(hp:PassesOwn (model X.prog X.w) X.A X.env X.xe)(hc:X.calm=xO)(hN:X.N.Nodup)(hy:X.N[iy]?=O y)(ly:Loc X.env.scope y)(ho:PE X iter (Z9 X.K j π))
  (hb:PSs X body (KW ((iy,[],n)::Γ) ns n κ)) (wH:SY Γ j π=O (n+1):=by rfl) (htt:n<=top:=by decide) (hi:Inf κ:=by repeat' first|exact infI|exact infA|refine infF ?_|refine infC ?_ ?_) (hn:∀x∈Γ,x.1∉iy::ns:=by decide +kernel) (hyn:iy∉ns:=by decide)
  (hfy:X.fn y=xO∨X.env.scope.names.lookup y=O .local:=by first|exact .inl rfl|exact .inr rfl|assumption) (hs:∀x,UO iter X.env x=pure x:=by intro _;rfl) :
  PS X (.For (.Name y p1) iter body [] p4) (KW Γ (iy::ns) top (kF κ)):=by
 refine KO (N9 (pos:=p4) hp hc (M9 ho) (VR (pos:=p1) hN hy ly hfy) hb hs) λDn σ H ⟨T,c,I,g,hk,hl,q⟩=>?_
 obtain⟨v,ad,h1,h2,h3⟩:=g _ (OL wH);obtain⟨vs,h4,h5,h6⟩:=I ad (n+1) h3;refine⟨v,h1,YS.of (R3 h2) ⟨ad,rfl,⟨vs,SqL.of h4⟩,λi m σ' H'=>m=vs.length-i/\i<=vs.length/\∃T',SpR H T σ (iy::ns) n H' T' σ'/\SpI H' T' (itK κ i c),⟨vs.length,rfl,JL _,T,.refl,I⟩,?_⟩⟩;rintro i m σ' H' ⟨rfl,hle,T',R,I'⟩;have wk:H' ad=O (.lst vs):=(R.low ad _ h3 (Nat.lt_succ_self n)).trans h4;have hiy:iy<σ.length:=hl iy Qf;by_cases hlt:i<vs.length
 .right
  refine⟨⟨vs,vs[i],SqL.of wk,Qe hlt⟩,λσ2 H2=>∃T2,SpR H T σ (iy::ns) n H2 T2 σ2/\SpI H2 T2 (itK κ (i+1) c),λσ2 H2 ⟨T2,r2,i2⟩=>⟨vs.length-(i+1),by omega,rfl,hlt,T2,r2,i2⟩,λx H2 yl=>?_⟩;obtain⟨rfl,yl⟩:=yl;have hx:=yl vs (SqL.of wk);rw[Qe hlt]at hx;cases hx;obtain⟨ws,w1,w2,w3⟩:=I' ad (n+1) (R.ext ad _ h3);rw[wk]at w1;cases w1;obtain⟨b,e1,e2⟩:=w3 n xM vs[i] (Jx hlt);show KW _ _ _ _ _ (σ'.set iy (O vs[i])) _;rw[e1];have gk:=g.keep I R hn;refine⟨T',itK κ i c,I',λx m=>?_,Qt (RD hi c (m:=i+1) (n:=c) (Qt hlt h5)) hk,λz m=>by rw[QU,R.len];exact hl z (Qh _ m),λσ2 H2 T2 r2 i2=>⟨T2,?_,i2⟩⟩
  .rcases QC.mp m with rfl|m
   .exact⟨.ref b,b,QK (by rw[R.len];exact hiy),rfl,e2⟩
   .obtain⟨v',b',g1,g2,g3⟩:=gk x m
    exact⟨v',b',by rw[Qj (λz=>hn x m (by rw[z];exact Qf))];exact g1,g2,g3⟩
  .have r3:=R.trans (ms:=iy::ns) (σ'':=σ2) (H'':=H2) (T'':=T2) ⟨r2.oth,r2.ext,r2.new,r2.low,by rw[r2.len,QU],λk wu=>by
    rw[r2.st k (λz=>wu (Qh _ z)),Qj (λz=>wu (by rw[z];exact Qf))]⟩
   exact⟨r3.oth,r3.ext,r3.new,r3.low,r3.len,λk wu=>r3.st k λz=>(QO.mp z).elim wu wu⟩
 .left
  have e:i=vs.length:=by omega
  exact⟨⟨vs,SqL.of wk,Q2 hlt⟩,q σ' H' T' (R.up htt) (I'.le (RD hi c (by rw[e];exact h5)))⟩
end
noncomputable def dep:Pat->Option Nat
 |.lst p=>O ((dep p).elim 0 (· + 1))
 |_=>xN
noncomputable def Xc:Nat->Pat->List (xY×Nat)
 |_,.lst p=>[([],(dep p).elim 0 (· + 1))]
 |n+1,.tup ps=>ps.zipIdx.flatMap λx=>(Xc n x.1).map λy=>(x.2::y.1,y.2)
 |_,_=>[]
noncomputable def gamO(i n:Nat)(p:Pat):Gam:=(Xc n p).map λx=>(i,x)
noncomputable def eqF:Nat->Pat->Pat->Bool
 |_,.leaf,.leaf=>xO
 |n+1,.lst p,.lst q=>eqF n p q
 |n+1,.tup ps,.tup qs=>ps.length==qs.length&&(ps.zip qs).all λx=>eqF n x.1 x.2
 |_,_,_=>xP
theorem Mx{f:Pat->Pat->Bool}(h:∀p q,f p q=xO->p=q):∀{ps qs:List Pat},ps.length=qs.length->(ps.zip qs).all (λx=>f x.1 x.2)=xO->ps=qs
 |[],[],_,_=>rfl
 |[],_::_,e,_=>nomatch e
 |_::_,[],e,_=>nomatch e
 |p::ps,q::qs,e,a=>by rw[J6,JK,Qz]at a;rw[h p q a.1,Mx h (Nat.succ.inj e) a.2]
theorem Su:∀(n:Nat)(p q:Pat),eqF n p q=xO->p=q
 |0,.leaf,.leaf,_=>rfl
 |0,.lst _,_,h=>by simp[eqF]at h
 |0,.tup _,_,h=>by simp[eqF]at h
 |0,.dic,_,h=>by simp[eqF]at h
 |0,.leaf,.lst _,h=>by simp[eqF]at h
 |0,.leaf,.tup _,h=>by simp[eqF]at h
 |0,.leaf,.dic,h=>by simp[eqF]at h
 |n+1,.leaf,.leaf,_=>rfl
 |n+1,.lst p,.lst q,h=>by rw[Su n p q h]
 |n+1,.tup ps,.tup qs,h=>by simp only[eqF,Qz,beq_iff_eq]at h;rw[Mx (Su n) h.1 h.2]
 |n+1,.leaf,.lst _,h=>by simp[eqF]at h
 |n+1,.leaf,.tup _,h=>by simp[eqF]at h
 |n+1,.leaf,.dic,h=>by simp[eqF]at h
 |n+1,.lst _,.leaf,h=>by simp[eqF]at h
 |n+1,.lst _,.tup _,h=>by simp[eqF]at h
 |n+1,.lst _,.dic,h=>by simp[eqF]at h
 |n+1,.tup _,.leaf,h=>by simp[eqF]at h
 |n+1,.tup _,.lst _,h=>by simp[eqF]at h
 |n+1,.tup _,.dic,h=>by simp[eqF]at h
 |n+1,.dic,_,h=>by simp[eqF]at h
noncomputable def Kw:Nat->Nat->Pat->D->Bool
 |n+1,c,.lst p,.list ds=>decide (ds.length<=c)&&ds.all (Kw n c p)
 |n+1,c,.tup ps,.tuple ds=>(ps.zip ds).all λx=>Kw n c x.1 x.2
 |_,_,.leaf,_=>xO
 |_,_,_,_=>xP
section
variable{K:Frag}{G H:Hp}
def TyAt(H:Hp)(T:TyM)(fp:xW)(c:Nat):Prop:=(∀a k,T a=O k->a∈fp)/\SpI H T c
theorem TyAt.join{T1 T2:TyM}{f1 f2:xW}{c:Nat}(h1:TyAt H T1 f1 c)(h2:TyAt H T2 f2 c)(nd:(f1++f2).Nodup):∃T,TyAt H T (f1++f2) c/\(∀a k,T1 a=O k->T a=O k)/\∀a k,T2 a=O k->T a=O k:=by
 have dj:∀{a k},T2 a=O k->T1 a=xN:=λ{a k} q=>by
  cases z:T1 a with
  |none=>rfl
  |some n=>exact((QL.mp nd).2.2 a (h1.1 a n z) a (h2.1 a k q) xM).elim
 have e1:∀a k,T1 a=O k->(T1 a).or (T2 a)=O k:=λa k q=>by rw[q];rfl
 have e2:∀a k,T2 a=O k->(T1 a).or (T2 a)=O k:=λa k q=>by rw[dj q];exact q
 refine⟨λa=>(T1 a).or (T2 a),⟨λa k q=>?_,λa k q=>?_⟩,e1,e2⟩<;>dsimp only at q⊢
 .cases z:T1 a with
  |some n=>exact Qv _ (h1.1 a n z)
  |none=>rw[z]at q;exact Qn _ (h2.1 a k q)
 .cases z:T1 a with
  |some n=>rw[z]at q;cases q;obtain⟨vs,a1,a2,a3⟩:=h1.2 a k z;exact⟨vs,a1,a2,λm e v mv=>let ⟨b,b1,b2⟩:=a3 m e v mv;⟨b,b1,e1 b m b2⟩⟩
  |none=>rw[z]at q;obtain⟨vs,a1,a2,a3⟩:=h2.2 a k q;exact⟨vs,a1,a2,λm e v mv=>let ⟨b,b1,b2⟩:=a3 m e v mv;⟨b,b1,e2 b m b2⟩⟩
theorem RepO.ty3(c:Nat):Yi K G H
  (λp v d fp=>∀n,Kw n c p d=xO->fp.Nodup->∃T,TyAt H T fp c/\(∀k,dep p=O k->∃b,v=.ref b/\T b=O k)/\∀x∈Xc n p,∃a,X0 H x.1 v=O (.ref a)/\T a=O x.2)
  (λp vs ds fp=>vs.length=ds.length/\∀n,ds.all (Kw n c p)=xO->fp.Nodup->∃T,TyAt H T fp c/\∀k,dep p=O k->∀v∈vs,∃b,v=.ref b/\T b=O k)
  (λps vs ds fp=>∀n,(ps.zip ds).all (λx=>Kw n c x.1 x.2)=xO->fp.Nodup->∃T,TyAt H T fp c/\∀(k i:Nat) p,ps[k]?=O p->∀x∈Xc n p,∃v a,vs[k]?=O v/\X0 H x.1 v=O (.ref a)/\T a=O x.2):=
 RepO.ind3
 (λr n _ _=>⟨λ_=>xN,⟨λ_ _ q=>(nomatch q),λ_ _ q=>(nomatch q)⟩,λk e=>(nomatch e),λx m=>by cases n<;>cases m⟩)
 (λ{p a vs ds fp} h r n hl nd=>by
  cases n with
  |zero=>simp[Kw]at hl
  |succ n=>
  simp only[Kw,Qz,Q6]at hl;obtain⟨na,nf⟩:=QY.mp nd;obtain⟨T,t1,t2⟩:=r.2 n hl.2 nf;have hv:vs.length<=c:=by rw[r.1];exact hl.1
  have ne:∀{b k},T b=O k->b≠a:=λ{b k} q z=>by subst z;exact na (t1.1 _ _ q)
  have up:∀b k,T b=O k->Ze T a ((dep p).elim 0 (· + 1)) b=O k:=λb k q=>by unfold Ze;rw[Qw (ne q)];exact q
  have me:Ze T a ((dep p).elim 0 (· + 1)) a=O ((dep p).elim 0 (· + 1)):=by unfold Ze;rw[Qq xM]
  refine⟨Ze T a ((dep p).elim 0 (· + 1)),⟨λb k q=>?_,λb k q=>?_⟩,λk e=>⟨a,rfl,by rw[me];exact e⟩,λx m=>?_⟩
  .unfold Ze at q
   by_cases z:b=a
   .subst z;exact Qf
   .rw[Qw z]at q;exact Qh _ (t1.1 b k q)
  .by_cases z:b=a
   .subst z
    rw[me]at q;cases q;refine⟨vs,h,hv,λm e v mv=>?_⟩
    have zd:dep p=O m:=by
     cases zd:dep p with
     |none=>rw[zd]at e;cases e
     |some k0=>rw[zd]at e;rw[Nat.succ.inj e]
    obtain⟨b',b1,b2⟩:=t2 m zd v mv;exact⟨b',b1,up b' m b2⟩
   .unfold Ze at q
    rw[Qw z]at q;obtain⟨ws,a1,a2,a3⟩:=t1.2 b k q;exact⟨ws,a1,a2,λm e v mv=>let ⟨b',b1,b2⟩:=a3 m e v mv;⟨b',b1,up b' m b2⟩⟩
  .simp only[Xc,QE]at m
   subst m;exact⟨a,rfl,me⟩)
 (λ{ps a vs ds fp} h r n hl nd=>by
  cases n with
  |zero=>simp[Kw]at hl
  |succ n=>
  simp only[Kw]at hl;obtain⟨T,t1,t2⟩:=r n hl nd;refine⟨T,t1,λk e=>(nomatch e),λx m=>?_⟩;simp only[Xc,List.mem_flatMap,List.mem_map]at m;obtain⟨⟨q,k⟩,mk,y,my,rfl⟩:=m;have hk:=List.mem_zipIdx_iff_getElem?.mp mk;obtain⟨v,b,e1,e2,e3⟩:=t2 k 0 q hk y my;exact⟨b,by unfold X0;rw[h];dsimp only;rw[e1];exact e2,e3⟩)
 (λe hl h r n hh _=>by cases n<;>simp[Kw]at hh)
 ⟨rfl,λn _ _=>⟨λ_=>xN,⟨λ_ _ q=>(nomatch q),λ_ _ q=>(nomatch q)⟩,λk e v m=>(nomatch m)⟩⟩
 (λh t=>⟨JX Nat.succ t.1,λn hl nd=>by
  rw[JK,Qz]at hl;obtain⟨n1,n2,_⟩:=QL.mp nd;obtain⟨T1,a1,a2,a3⟩:=h n hl.1 n1;obtain⟨T2,b1,b2⟩:=t.2 n hl.2 n2;obtain⟨T,c1,c2,c3⟩:=a1.join b1 nd;refine⟨T,c1,λk e v m=>?_⟩;rcases QC.mp m with rfl|m
  .obtain⟨b,e1,e2⟩:=a2 k e
   exact⟨b,e1,c2 b k e2⟩
  .obtain⟨b,e1,e2⟩:=b2 k e v m
   exact⟨b,e1,c3 b k e2⟩⟩)
 (λn _ _=>⟨λ_=>xN,⟨λ_ _ q=>(nomatch q),λ_ _ q=>(nomatch q)⟩,λk i p e=>(by cases e)⟩)
 (λh t n hl nd=>by
  rw[J6,JK,Qz]at hl;obtain⟨n1,n2,_⟩:=QL.mp nd;obtain⟨T1,a1,a2,a3⟩:=h n hl.1 n1;obtain⟨T2,b1,b2⟩:=t n hl.2 n2;obtain⟨T,c1,c2,c3⟩:=a1.join b1 nd;refine⟨T,c1,λk i p e x m=>?_⟩;cases k with
  |zero=>cases e;obtain⟨b,e1,e2⟩:=a3 x m;exact⟨_,b,rfl,e1,c2 b _ e2⟩
  |succ k=>obtain⟨v,b,e0,e1,e2⟩:=b2 k i p (by simpa using e) x m;exact⟨v,b,by simpa using e0,e1,c3 b _ e2⟩)
end
noncomputable def W9(ns:xY)(ρ:UQ):UQ:=ns.foldl (λr j=>r.set j xN) ρ
theorem Ge:∀(ns:xY)(ρ:UQ),(W9 ns ρ).length=ρ.length
 |[],ρ=>rfl
 |j::ns,ρ=>by unfold W9;rw[List.foldl_cons];exact(Ge ns (ρ.set j xN)).trans (by rw[QU])
theorem VT:∀{ns:xY}{ρ:UQ}{m:Nat}{s:Sl},(W9 ns ρ)[m]?=O (O s)->ρ[m]?=O (O s)/\m∉ns
 |[],ρ,m,s,e=>⟨e,λz=>(by cases z)⟩
 |j::ns,ρ,m,s,e=>by
  have e':(W9 ns (ρ.set j xN))[m]?=O (O s):=e;obtain⟨h1,h2⟩:=VT e';by_cases z:j=m
  .subst z;have:=KS h1;cases this
  .rw[Qj z]at h1
   exact⟨h1,λq=>(QC.mp q).elim (λy=>z y.symm) h2⟩
noncomputable def TH(i:Nat)(p:Pat)(ns:xY)(κ:Nat->Nat)(c:Nat):SM:=λρ=>match ZF ρ i with
 |some (q,d)=>if eqF 9 q p=xO/\Kw 9 c q d=xO/\κ c<=1000000/\(∀j∈ns,j<ρ.length)then .nx (W9 (i::i::ns) ρ)else .bad
 |none=>.bad
section
variable{X:Cx}{B G0:Hp}{KX:XW}{sts:List Stmt}
theorem EOk.lose{K:Frag}{G H:Hp}{σ σ':St}{ρ:UQ}{ns:xY}(k:EOk K B G0 G H σ ρ)(hl:σ'.length=σ.length)(h:∀i,i∉ns->σ'[i]?=σ[i]?):EOk K B G0 G H σ' (W9 ns ρ):=
 ⟨k.bh,k.gh,k.g0,k.np,by rw[Ge,hl];exact k.len,λi d q=>let ⟨q1,q2⟩:=VT q;by rw[h i q2];exact k.pub i d q1,λi d q=>let ⟨q1,q2⟩:=VT q;by rw[h i q2];exact k.own i d q1,
  λi j a ds es q1 q2 s1 s2=>by obtain⟨q1,z1⟩:=VT q1;obtain⟨q2,z2⟩:=VT q2;rw[h i z1]at s1;rw[h j z2]at s2;exact k.sep i j a ds es q1 q2 s1 s2,
  k.dp.map (λm p d q=>let ⟨q1,q2⟩:=VT q;⟨q1,h m q2⟩) (λm es q=>let ⟨q1,q2⟩:=VT q;⟨es,q1,h m q2⟩) λm p d v fp q s r w n=>⟨r,w⟩⟩
theorem BD{i:Nat}{p:Pat}{ns:xY}{top:Nat}{κ:Nat->Nat}{c:Nat}{h:SM}(hs:PSs X sts (Y7 (KW (gamO i 9 p) ns top κ) (tS X.K B G0 KX h))):PSs X sts (tS X.K B G0 KX (UV (TH i p ns κ c) h)):=W1 hs λDn σ H ⟨G,ρ,k,q⟩=>by
 unfold UV TH at q;cases z:ZF ρ i with
 |none=>rw[z]at q;exact q.elim
 |some pd=>
 obtain⟨pp,d⟩:=pd;rw[z]at q;dsimp only at q;by_cases hc:eqF 9 pp p=xO/\Kw 9 c pp d=xO/\κ c<=1000000/\(∀j∈ns,j<ρ.length)
 case neg=>rw[Qw hc]at q;exact q.elim
 rw[Qq hc]at q;obtain⟨c1,c2,c3,c4⟩:=hc;cases Su 9 _ _ c1;obtain⟨ω,ks⟩:=k.slots;obtain⟨v,fp,hv,r,nd,w⟩:=ks i p d z;obtain⟨T,t1,_,t3⟩:=(RepO.ty3 c).1 r 9 c2 nd;refine⟨T,c,t1.2,λx m=>?_,c3,λj m=>by rw[←k.len];exact c4 j m,λσ' H' T' R I'=>?_⟩
 .unfold gamO at m
  obtain⟨y,my,rfl⟩:=Qu.mp m;obtain⟨a,e1,e2⟩:=t3 y my;exact⟨v,a,hv,e1,e2⟩
 .have ex:Ext G (ZK fp H) G H':=⟨λb u e=>by
    have hb:b∉fp:=λm=>by rw[Cp m]at e;cases e
    rw[Vg hb]at e;refine R.oth b u ?_ e;cases zt:T b with
    |none=>rfl
    |some n=>exact(hb (t1.1 b n zt)).elim,.refl _,λb u e=>by
    have hb:b∉fp:=λm=>by rw[(w b m).2.1]at e;cases e
    refine R.oth b u ?_ (k.gh b u e);cases zt:T b with
    |none=>rfl
    |some n=>exact(hb (t1.1 b n zt)).elim,λ_ _ _ n=>n⟩
  have k2:=(k.eaten (i1:=i) (i2:=i) ks (λb m=>r.isl b m) (λb m=>⟨(w b m).1,.inl (w b m).2.2⟩) ex).lose (ns:=ns) R.len R.st;exact⟨G,_,k2,by first|exact q|(show aftS X.K B G0 KX (h (W9 ns ((ρ.set i xN).set i xN))) G Dn;exact q)⟩
end
theorem BC{ρ ρ':UQ}{i:Nat}{p q:Pat}{ns:xY}{κ:Nat->Nat}{c:Nat}{d:D}(h1:ZF ρ i=O (q,d))(h2:eqF 9 q p=xO)(h3:Kw 9 c q d=xO)(h4:κ c<=1000000)(h5:∀j∈ns,j<ρ.length)(h6:W9 (i::i::ns) ρ=ρ'):TH i p ns κ c ρ=.nx ρ':=by unfold TH;rw[h1];dsimp only;rw[if_pos ⟨h2,h3,h4,h5⟩,h6]
noncomputable def Sf(i:Nat)(p:Pat):M D:=λρ=>match ρ[i]? with
 |some (O (.deep q d))=>if eqF 9 q p=xO then .ok d (ρ.set i xN)else .bad
 |_=>.bad
section
variable{X:Cx}{B G0:Hp}{e:Uv}{p:Pat}
theorem Cj{i:Nat}(h:PE X e (Kl i)):PE X e (tT X.K B G0 p (Sf i p)):=Kb h λσ H Q ⟨G,ρ,k,q⟩=>by
 unfold Sf at q;cases ho:ρ[i]? with
 |none=>rw[ho]at q;exact q.elim
 |some oo=>
 cases oo with
 |none=>rw[ho]at q;exact q.elim
 |some sl=>
 cases sl with
 |pub d=>rw[ho]at q;exact q.elim
 |own ds=>rw[ho]at q;exact q.elim
 |deep pp d=>
 rw[ho]at q;dsimp only at q;by_cases hc:eqF 9 pp p=xO
 case neg=>rw[Qw hc]at q;exact q.elim
 rw[Qq hc]at q;cases Su 9 _ _ hc;obtain⟨ω,ks⟩:=k.slots;obtain⟨v,fp,hv,r,nd,w⟩:=ks i p d (VX ho)
 have nz:∀{m:Nat}{s:Sl},(ρ.set i xN)[m]?=O (O s)->ρ[m]?=O (O s)/\i≠m:=λ{m s} q=>by
  by_cases z:i=m
  .subst z;have:=KS q;cases this
  .rw[Qj z]at q;exact⟨q,z⟩
 have off:∀(j:Nat) p' d' v' fp',ZF ρ j=O (p',d')->i≠j->σ[j]?=O (O v')->∀b∈fp,RepO X.K G H p' v' d' fp'->b∉fp':=λj p' d' v' fp' z y hs b m rr mm=>by obtain⟨v5,f5,wY,r5,n5,w5⟩:=ks j _ _ z;rw[hs]at wY;cases wY;have eu:=r5.uniq (.refl _) rr;subst eu;exact y ((w b m).2.2.symm.trans (w5 b mm).2.2)
 refine⟨v,hv,q v fp G H k.forget (.refl _) ⟨r,nd,λb m=>⟨(w b m).1,(w b m).2.1⟩,λb m j es ho' hs=>?_,λb m j p' d' v' fp' ho' hs rr mm=>?_⟩⟩
 .obtain⟨ho',y⟩:=nz ho'
  obtain⟨a5,us,wX,i2',i3',i4',i5'⟩:=k.own j es ho';rw[hs]at wX;cases wX;exact off j _ _ _ [b] (Hf ho') y hs b m (.lst i4' (.leaf i5')) (QE.mpr xM)
 .obtain⟨ho',y⟩:=nz ho'
  exact off j _ _ _ fp' (VX ho') y hs b m rr mm
theorem Ci{i:Nat}{ρ:UQ}{q:Pat}{d:D}(h:ρ[i]?=O (O (.deep q d)))(h2:eqF 9 q p=xO):Sf i p ρ=.ok d (ρ.set i xN):=by unfold Sf;rw[h];dsimp only;rw[if_pos h2]
end
end DL
namespace L2
open PySem PySem.Spec PyProof.Rows PySem.Calls PyProof.V
end L2
namespace DL
open PySem PySem.Spec L2
open PyProof.Rows hiding St
section
variable{K:Frag}{B G0 G H:Hp}{σ:St}{ρ:UQ}{fn:xW}
theorem RepOl.atN{p:Pat}:∀{vs:List V}{ds:xQ}{fp:xW}{k:Nat}{d:D},RepOl K G H p vs ds fp->ds[k]?=O d->fp.Nodup->(∀b∈fn,b∉fp)->∃v f,vs[k]?=O v/\RepO K G H p v d f/\f.Nodup/\(∀b∈f,b∈fp) /\
  ∀a∈f,(∀ws,H a≠O (.tup ws))->∀o d' f',RepO K G (L2.upd H a o) p v d' f'->f'.Nodup->(∀b∈f',b∈f∨b∈fn)->∃fp',RepOl K G (L2.upd H a o) p vs (ds.set k d') fp'/\fp'.Nodup/\∀b∈fp',b∈fp∨b∈fn
 |_,_,_,_,_,.nil,e,_,_=>by cases e
 |_,_,_,0,_,.cons (f1:=f1) (f2:=f2) r t,e,n,hd=>by
  cases e;obtain⟨n1,n2,nn⟩:=QL.mp n;refine⟨_,f1,rfl,r,n1,λb m=>Qv _ m,λa m nt o d' f' r' vz sub=>⟨f'++f2,.cons r' (t.upd nt (λm2=>nn a m a m2 xM)),QL.mpr ⟨vz,n2,λx hx y hy=>?_⟩,λb m=>?_⟩⟩
  .rcases sub x hx with m|m
   .exact nn x m y hy
   .intro e
    subst e;exact hd x m (Qn _ hy)
  .rcases QO.mp m with m|m
   .exact(sub b m).elim (λm=>.inl (Qv _ m)) .inr
   .exact .inl (Qn _ m)
 |_,_,_,k+1,d,.cons (f1:=f1) (f2:=f2) r t,e,n,hd=>by
  obtain⟨n1,n2,nn⟩:=QL.mp n;obtain⟨v,f,h1,h2,h3,h4,h5⟩:=RepOl.atN (k:=k) (d:=d) t (by simpa using e) n2 λb m y=>hd b m (List.mem_append_right _ y)
  refine⟨v,f,by simpa using h1,h2,h3,λb m=>List.mem_append_right _ (h4 b m),λa m nt o d' f' r' vz sub=>?_⟩;obtain⟨fp',g1,g2,g3⟩:=h5 a m nt o d' f' r' vz sub;refine⟨f1++fp',.cons (r.upd nt (λm2=>nn a m2 a (h4 a m) xM)) g1,QL.mpr ⟨n1,g2,λx hx y hy=>?_⟩,λb m=>?_⟩
  .rcases g3 y hy with m|m
   .exact nn x hx y m
   .intro e
    subst e;exact hd x m (Qv _ hx)
  .rcases QO.mp m with m|m
   .exact .inl (Qv _ m)
   .exact(g3 b m).elim (λm=>.inl (Qn _ m)) .inr
theorem RepOs.atN:∀{ps:List Pat}{vs:List V}{ds:xQ}{fp:xW}{k:Nat}{p:Pat}{d:D},RepOs K G H ps vs ds fp->ps[k]?=O p->ds[k]?=O d->fp.Nodup->(∀b∈fn,b∉fp)->∃v f,vs[k]?=O v/\RepO K G H p v d f/\f.Nodup/\(∀b∈f,b∈fp) /\
  ∀a∈f,(∀ws,H a≠O (.tup ws))->∀o d' f',RepO K G (L2.upd H a o) p v d' f'->f'.Nodup->(∀b∈f',b∈f∨b∈fn)->∃fp',RepOs K G (L2.upd H a o) ps vs (ds.set k d') fp'/\fp'.Nodup/\∀b∈fp',b∈fp∨b∈fn
 |_,_,_,_,_,_,_,.nil,_,e,_,_=>by cases e
 |_,_,_,_,0,_,_,.cons (f1:=f1) (f2:=f2) r t,e0,e,n,hd=>by
  cases e;cases e0;obtain⟨n1,n2,nn⟩:=QL.mp n;refine⟨_,f1,rfl,r,n1,λb m=>Qv _ m,λa m nt o d' f' r' vz sub=>⟨f'++f2,.cons r' (t.upd nt (λm2=>nn a m a m2 xM)),QL.mpr ⟨vz,n2,λx hx y hy=>?_⟩,λb m=>?_⟩⟩
  .rcases sub x hx with m|m
   .exact nn x m y hy
   .intro e
    subst e;exact hd x m (Qn _ hy)
  .rcases QO.mp m with m|m
   .exact(sub b m).elim (λm=>.inl (Qv _ m)) .inr
   .exact .inl (Qn _ m)
 |_,_,_,_,k+1,p,d,.cons (f1:=f1) (f2:=f2) r t,e0,e,n,hd=>by
  obtain⟨n1,n2,nn⟩:=QL.mp n;obtain⟨v,f,h1,h2,h3,h4,h5⟩:=RepOs.atN (k:=k) (p:=p) (d:=d) t (by simpa using e0) (by simpa using e) n2 λb m y=>hd b m (List.mem_append_right _ y)
  refine⟨v,f,by simpa using h1,h2,h3,λb m=>List.mem_append_right _ (h4 b m),λa m nt o d' f' r' vz sub=>?_⟩;obtain⟨fp',g1,g2,g3⟩:=h5 a m nt o d' f' r' vz sub;refine⟨f1++fp',.cons (r.upd nt (λm2=>nn a m2 a (h4 a m) xM)) g1,QL.mpr ⟨n1,g2,λx hx y hy=>?_⟩,λb m=>?_⟩
  .rcases g3 y hy with m|m
   .exact nn x hx y m
   .intro e
    subst e;exact hd x m (Qv _ hx)
  .rcases QO.mp m with m|m
   .exact .inl (Qv _ m)
   .exact(g3 b m).elim (λm=>.inl (Qn _ m)) .inr
noncomputable def Z2(pn:Pat)(x:D):xY->Pat->D->xT
 |[],.lst p,.list ds=>if p.is pn=xO/\ds.length<1000000 then O (.list (ds++[x]))else xN
 |k::r,.lst p,.list ds=>(ds[k]?).bind λd=>(Z2 pn x r p d).map λd'=>.list (ds.set k d')
 |k::r,.tup ps,.tuple ds=>(ps[k]?).bind λp=>(ds[k]?).bind λd=>(Z2 pn x r p d).map λd'=>.tuple (ds.set k d')
 |_,_,_=>xN
theorem RepO.putN{pn:Pat}{vn:V}{dn:D}(rn:RepO K G H pn vn dn fn)(nn:fn.Nodup):∀(path:xY){p:Pat}{v:V}{d d':D}{fp:xW},RepO K G H p v d fp->fp.Nodup->(∀b∈fn,b∉fp)->Z2 pn dn path p d=O d'->∃a vs,YD H path v=O (.ref a)/\a∈fp/\H a=O (.lst vs) /\
  vs.length<1000000/\∃fp',RepO K G (L2.upd H a (.lst (vs++[vn]))) p v d' fp'/\fp'.Nodup/\∀b∈fp',b∈fp∨b∈fn
 |[],p,v,d,d',fp,r,n,hd,e=>by
  cases r with
  |leaf r=>cases e
  |tup h r=>cases e
  |dic _ _ h r=>cases e
  |lst h r=>
   rename_i p a vs ds fp;unfold Z2 at e;split at e
   case isFalse=>cases e
   rename_i hc;cases e;have hq:=Pat.is_eq hc.1;subst hq;obtain⟨na,nf⟩:=QY.mp n;have nt:∀ws,H a≠O (.tup ws):=λws z=>by rw[h]at z;cases z
   have da:a∉fn:=λm=>hd a m Qf
   refine⟨a,vs,rfl,Qf,h,by rw[r.length];exact hc.2,a::(fp++(fn++[])),.lst Ks ((r.upd nt na).append (.cons (rn.upd nt da) .nil)),?_,λb m=>?_⟩
   .rw[QH]
    refine QY.mpr ⟨λm=>(QO.mp m).elim na da,QL.mpr ⟨nf,nn,λx hx y hy e=>?_⟩⟩;subst e;exact hd x hy (Qh _ hx)
   .rw[QH]at m
    rcases QC.mp m with rfl|m
    .exact .inl Qf
    .exact(QO.mp m).elim (λm=>.inl (Qh _ m)) .inr
 |k::path,p,v,d,d',fp,r,n,hd,e=>by
  cases r with
  |leaf r=>cases e
  |dic _ _ h r=>cases e
  |lst h r=>
   rename_i p a0 vs ds fp;unfold Z2 at e;cases z:ds[k]? with
   |none=>rw[z]at e;cases e
   |some d0=>
   rw[z]at e;dsimp only[Option.bind_some]at e;cases z2:Z2 pn dn path p d0 with
   |none=>rw[z2]at e;cases e
   |some d1=>
   rw[z2]at e;cases e;obtain⟨na,nf⟩:=QY.mp n;obtain⟨v0,f,h1,h2,h3,h4,h5⟩:=r.atN z nf λb m y=>hd b m (Qh _ y)
   obtain⟨a,ws,g1,g2,g3,g4,f',g5,g6,g7⟩:=RepO.putN rn nn path h2 h3 (λb m y=>hd b m (Qh _ (h4 b y))) z2;have nt:∀us,H a≠O (.tup us):=λus y=>by rw[g3]at y;cases y
   obtain⟨fp',k1,k2,k3⟩:=h5 a g2 nt _ _ _ g5 g6 g7;have hne:a0≠a:=λy=>by subst y;exact na (h4 a0 g2)
   refine⟨a,ws,?_,Qh _ (h4 a g2),g3,g4,a0::fp',.lst (by rw[Ki hne];exact h) k1,QY.mpr ⟨λm=>(k3 a0 m).elim na λm=>hd a0 m Qf,k2⟩,λb m=>?_⟩
   .unfold YD
    rw[h];dsimp only;rw[h1];exact g1
   .rcases QC.mp m with rfl|m
    .exact .inl Qf
    .exact(k3 b m).elim (λm=>.inl (Qh _ m)) .inr
  |tup h r=>
   rename_i ps a0 vs ds;unfold Z2 at e;cases zp:ps[k]? with
   |none=>rw[zp]at e;cases e
   |some p0=>
   rw[zp]at e;dsimp only[Option.bind_some]at e;cases z:ds[k]? with
   |none=>rw[z]at e;cases e
   |some d0=>
   rw[z]at e;dsimp only[Option.bind_some]at e;cases z2:Z2 pn dn path p0 d0 with
   |none=>rw[z2]at e;cases e
   |some d1=>
   rw[z2]at e;cases e;obtain⟨v0,f,h1,h2,h3,h4,h5⟩:=r.atN zp z n hd;obtain⟨a,ws,g1,g2,g3,g4,f',g5,g6,g7⟩:=RepO.putN rn nn path h2 h3 (λb m y=>hd b m (h4 b y)) z2;have nt:∀us,H a≠O (.tup us):=λus y=>by rw[g3]at y;cases y
   obtain⟨fp',k1,k2,k3⟩:=h5 a g2 nt _ _ _ g5 g6 g7;have hne:a0≠a:=λy=>by subst y;rw[h]at g3;cases g3
   refine⟨a,ws,?_,h4 a g2,g3,g4,fp',.tup (by rw[Ki hne];exact h) k1,k2,k3⟩;unfold YD;rw[h];dsimp only;rw[h1];exact g1
theorem OT{H':Hp}(h:Same H H'):∀{path:xY}{v u:V},YD H path v=O u->YD H' path v=O u
 |[],v,u,e=>e
 |k::r,v,u,e=>by
  cases v with
  |ref a=>
   unfold YD at e⊢;split at e
   .rename_i vs ha
    rw[h a _ ha];dsimp only;cases z:vs[k]? with
    |none=>rw[z]at e;cases e
    |some w=>rw[z]at e;exact OT h e
   .rename_i vs ha
    rw[h a _ ha];dsimp only;cases z:vs[k]? with
    |none=>rw[z]at e;cases e
    |some w=>rw[z]at e;exact OT h e
   .cases e
  |_=>cases e
theorem Od{pn:Pat}{x:D}:∀{path:xY}{p:Pat}{d d':D},Z2 pn x path p d=O d'->∃d'',Z3 .rev path p d=O d''
 |[],p,d,d',e=>by cases p<;>cases d<;>first|exact⟨_,rfl⟩|cases e
 |k::r,p,d,d',e=>by
  cases p with
  |lst p=>
   cases d with
   |list ds=>
    unfold Z2 at e;unfold Z3;cases z:ds[k]? with
    |none=>rw[z]at e;cases e
    |some d0=>
     rw[z]at e;dsimp only[Option.bind_some]at e⊢;cases z2:Z2 pn x r p d0 with
     |none=>rw[z2]at e;cases e
     |some d1=>obtain⟨y,hy⟩:=Od z2;exact⟨_,by rw[hy];rfl⟩
   |_=>cases e
  |tup ps=>
   cases d with
   |tuple ds=>
    unfold Z2 at e;unfold Z3;cases zp:ps[k]? with
    |none=>rw[zp]at e;cases e
    |some p0=>
    rw[zp]at e;dsimp only[Option.bind_some]at e⊢;cases z:ds[k]? with
    |none=>rw[z]at e;cases e
    |some d0=>
     rw[z]at e;dsimp only[Option.bind_some]at e⊢;cases z2:Z2 pn x r p0 d0 with
     |none=>rw[z2]at e;cases e
     |some d1=>obtain⟨y,hy⟩:=Od z2;exact⟨_,by rw[hy];rfl⟩
   |_=>cases e
  |leaf=>cases e
  |dic=>cases e
end
noncomputable def Tz(i:Nat)(path:xY)(c:Int):SM:=λρ=>match ρ[i]? with
 |some (O (.deep p d))=>(match Z2 (.lst .leaf) (.list [.int c]) path p d with
  |some d'=>.nx (ρ.set i (O (.deep p d')))
  |none=>.bad)
 |_=>.bad
theorem Ch{ρ ρ':UQ}{i:Nat}{path:xY}{c:Int}{p:Pat}{d d':D}(h1:ρ[i]?=O (O (.deep p d)))(h2:Z2 (.lst .leaf) (.list [.int c]) path p d=O d')(h3:ρ.set i (O (.deep p d'))=ρ'):Tz i path c ρ=.nx ρ':=by unfold Tz;rw[h1];dsimp only;rw[h2];dsimp only;rw[h3]
section
variable{X:Cx}{B G0:Hp}{KX:XW}{o:Uv}{pos:Pos}
theorem CQ{i:Nat}{path:xY}{c:Int}{j:Nat}{p1 p2 apos cpos:Pos}(ho:PE X o (Z9 X.K i path))
  (hbase:attributeBase o "append" X.env (eval o X.env)=eval o X.env:=by rfl)
  (hfew:((backTo cpos (Uy [.List [.Constant (.int c) j p1] p2] X.env)).all (λx=>!x.1)&&(backToKw cpos (keywordEach [] X.env)).all (λx=>x.1.isSome)
   && decide (([.List [.Constant (.int c) j p1] p2]:xU).length+([]:List Keyword).length+(if([]:List Keyword).isEmpty then 0 else 1)<30))=xO:=by rfl)
  (hline:(apos.endLine==cpos.line)=xO:=by rfl) (hs:Uy [.List [.Constant (.int c) j p1] p2] X.env=[(xP,eval (.List [.Constant (.int c) j p1] p2) X.env)]:=by rfl)
  (hs1:Uy [.Constant (.int c) j p1] X.env=[(xP,eval (.Constant (.int c) j p1) X.env)]:=by rfl)
  (hsw:swapsWith (.Call (.Attribute o "append" apos) [.List [.Constant (.int c) j p1] p2] [] cpos) xN pos.line X.env=pure xP:=by rfl) :
  PS X (.Expr (.Call (.Attribute o "append" apos) [.List [.Constant (.int c) j p1] p2] [] cpos) pos) (tS X.K B G0 KX (Tz i path c)):=
 KO (Xz (Wl Q9 Js Jt Wv ho (Zq (RC (Zq Wq Z4 (by rw[hs1];rfl))) Z4 (by rw[hs];rfl)) hbase hfew hline (by rw[hs];rfl) xM) hsw) λD σ H ⟨G,ρ,k,q⟩=>by
  unfold Tz at q;split at q
  case h_2=>exact q.elim
  rename_i p d hi;split at q
  case h_2=>exact q.elim
  rename_i d' z;obtain⟨ω,ks⟩:=k.slots;obtain⟨v,fp,hv,r,nd,w⟩:=ks i p d (VX hi);obtain⟨d2,hz⟩:=Od z;obtain⟨a,vs,h1,h2,h3,_⟩:=r.mut (op:=.rev) (u:=.non) trivial path nd hz;refine⟨v,hv,YS.of h1 ⟨.inl ⟨rfl,_,SqL.of h3⟩,(show 1<=Uw by decide),λnw hnw=>?_⟩⟩;have sh:Same H (upd H nw (.lst [.int c])):=Zd hnw;have k1:EOk X.K B G0 G (upd H nw (.lst [.int c])) σ ρ:=k.ext (Ext.hid (o:=.lst [.int c]) k.gh hnw);have rn:RepO X.K G (upd H nw (.lst [.int c])) (.lst .leaf) (.ref nw) (.list [.int c]) [nw]:=.lst Ks (.leaf (.cons (.int c) .nil))
  have nT:NewT X.K B G (upd H nw (.lst [.int c])) σ ρ (.lst .leaf) (.ref nw) (.list [.int c]) [nw]:=k.newT sh rn (List.nodup_cons.mpr ⟨by simp,List.nodup_nil⟩) λb m=>by
   rw[QE]at m;subst m;refine⟨hnw,?_⟩;cases y:G b with
   |none=>rfl
   |some o=>have:=k.gh b o y;rw[hnw]at this;cases this
  have r1:=r.mono (.refl _) sh;obtain⟨a',vs',g1,g2,g3,g4,fp',g5,g6,g7⟩:=RepO.putN rn nT.nd path r1 nd (λb m y=>by rw[QE]at m;subst m;obtain⟨us,hl⟩:=r.isl b y;rw[hnw]at hl;cases us<;>cases hl) z;have ea:=OT sh h1;rw[g1]at ea;cases ea;refine⟨_,vs',.ref nw,rfl,rfl,g3,Qy g4 lim,?_⟩;exact q σ G _ (k1.mutN hi hv r1 g2 nT g5 g6 g7) (.refl _)
end
end DL
namespace L2
open PySem PySem.Spec PyProof.Rows
end L2
namespace DL
open PySem PySem.Spec L2
open PyProof.Rows hiding St
end DL
namespace L2
open PySem PySem.Spec PyProof.Rows
end L2
namespace DL
open PySem PySem.Spec L2
open PyProof.Rows hiding St
end DL
namespace DL
open PySem PySem.Spec L2
open PyProof.Rows hiding St
open Builtin Builtin.Str
end DL
namespace DL
open PySem PySem.Spec L2
open PyProof.Rows hiding St
noncomputable def We(j:Nat)(g:M D):M D:=λρ=>match ρ[j]? with
 |some (O (.deep (.lst (.lst .leaf)) _))=>(match g ρ with
  |.ok (.int i) ρ1=>(match ρ1[j]? with
   |some (O (.deep (.lst (.lst .leaf)) (.list dss)))=>if 0<=i then(match dss[i.toNat]? with
    |some (.list (y::ds))=>.ok y (ρ1.set j (O (.deep (.lst (.lst .leaf)) (.list (dss.set i.toNat (.list ds))))))
    |_=>.bad)else .bad
   |_=>.bad)
  |_=>.bad)
 |_=>.bad
section
variable{X:Cx}{B G0:Hp}{o e c0:Uv}
theorem OE{j:Nat}{g:M D}{p2 apos cpos:Pos}(ho:PE X o (Kl j))(hi:PE X e (tD X.K B G0 g))(hc:PE X c0 (tC (.int 0)))(hs2:SG e)
  (hbase:attributeBase (.Subscript o e p2) "pop" X.env (eval (.Subscript o e p2) X.env)=eval (.Subscript o e p2) X.env:=by rfl)
  (hfew:((backTo cpos (Uy [c0] X.env)).all (λx=>!x.1)&&(backToKw cpos (keywordEach [] X.env)).all (λx=>x.1.isSome)
   && decide ([c0].length+([]:List Keyword).length+(if([]:List Keyword).isEmpty then 0 else 1)<30))=xO:=by rfl)
  (hline:(apos.endLine==cpos.line)=xO:=by rfl) (hs:Uy [c0] X.env=[(xP,eval c0 X.env)]:=by rfl) :
  PE X (.Call (.Attribute (.Subscript o e p2) "pop" apos) [c0] [] cpos) (tD X.K B G0 (We j g)):=
 Kb (Wl Q9 PySem.F.slot_list_pop PySem.F.type_list_pop An (Rb RB ho hi hs2) (Zq hc Z4 (by rw[hs];rfl)) hbase hfew hline (by rw[hs];rfl) xM) λσ H Q ⟨G,ρ,k,a⟩=>by
  unfold We at a;split at a
  case h_2=>exact a.elim
  rename_i d0 q0;obtain⟨ω,ks,_⟩:=k.dp;obtain⟨v,fp0,hv,rz,nz,wz⟩:=ks j _ _ q0;clear rz nz wz;refine⟨v,hv,G,ρ,k,?_⟩;cases z:g ρ with
  |bad=>rw[z]at a;exact a.elim
  |ok d ρ1=>
  rw[z]at a;intro iv G1 H1 k1 s1 r1;cases d with
  |int i=>
   dsimp only at a;split at a
   case h_2=>exact a.elim
   rename_i dss q1;split at a
   case isFalse=>exact a.elim
   rename_i h0;split at a
   case h_2=>exact a.elim
   rename_i y ds qk;obtain⟨n,rfl⟩:=Int.eq_ofNat_of_zero_le h0;rw[Q1]at a qk;obtain rfl:=r1.int_inv;obtain⟨ω1,ks1,_⟩:=k1.dp;obtain⟨v1,fp,hv1,r,nd,w⟩:=ks1 j _ _ q1;rw[hv]at hv1;cases hv1;have r0:=r;cases r with
   |lst h rl=>
   rename_i a0 vs fp;obtain⟨na,nf⟩:=QY.mp nd;obtain⟨v0,f,g1,g2,g3,g4,g5⟩:=rl.at qk nf;cases g2 with
   |lst hb rb=>
   rename_i b us fb;obtain⟨rr,rfl⟩:=rb.leaf_inv;cases rr with
   |@cons u _ us _ ru rt=>
   have nt:∀ws,H1 b≠O (.tup ws):=λws z=>by rw[hb]at z;cases z
   obtain⟨fp',m1,m2,m3⟩:=g5 b Qf nt (.lst us) (.list ds) [b] (.lst Ks (.leaf rt)) (PH b) (λc m=>m);have hne:a0≠b:=λz=>by subst z;exact na (g4 a0 Qf)
   refine .inl ⟨a0,vs,n,.ref b,rfl,rfl,SqL.of h,ZQ g1,.inl ⟨rfl,_,SqL.of hb⟩,b,u::us,0,0,u,rfl,rfl,hb,by decide,by decide,(M7 (n:=(u::us).length) (i:=0) (j:=0) (by unfold ixN;rw[Qq (by decide),Qq (by rw[Qs];lia)];rfl)).1,rfl,?_⟩
   exact a u G1 _ (k1.mutD q1 hv r0 (Qh _ (g4 b Qf)) (.lst (by rw[Ki hne];exact h) m1) (QY.mpr ⟨λz=>na (m3 a0 z),m2⟩) (λc m=>by
    rcases QC.mp m with rfl|m
    .exact Qf
    .exact Qh _ (m3 c m))) s1 ru
  |_=>exact a.elim
theorem CP{j:Nat}{g:M D}{ρ ρ1:UQ}{d0 y:D}{dss ds:xQ}{n:Nat}(h0:ρ[j]?=O (O (.deep (.lst (.lst .leaf)) d0)))(h1:g ρ=.ok (.int (n:Nat)) ρ1)(h2:ρ1[j]?=O (O (.deep (.lst (.lst .leaf)) (.list dss))))(h3:dss[n]?=O (.list (y::ds))) :
  We j g ρ=.ok y (ρ1.set j (O (.deep (.lst (.lst .leaf)) (.list (dss.set n (.list ds)))))):=by
 unfold We;rw[h0];dsimp only;rw[h1];dsimp only;rw[h2];dsimp only;rw[Qq (Int.natCast_nonneg _),Q1,h3]
end
noncomputable def Y1(H:Hp):V->Bool
 |.ref b=>(match H b with|some (.lst us)=>!us.isEmpty|_=>xP)
 |_=>xP
noncomputable def Vq:D->Bool
 |.list ds=>!ds.isEmpty
 |_=>xP
theorem R9{H:Hp}{b:Ut}{us:List V}(hb:H b=O (.lst us)):Y1 H (.ref b) = !us.isEmpty:=by
 show(match H b with|some (.lst us)=>!us.isEmpty|_=>xP)=_
 rw[hb]
noncomputable def Wm(j:Nat):M D:=λρ=>match ρ[j]? with
 |some (O (.deep (.lst (.lst .leaf)) (.list dss)))=>.ok (.list (dss.filter Vq)) (ρ.set j xN)
 |_=>.bad
noncomputable def Py(K:Frag)(jx:Nat):TT:=λσ H Q=>Kl jx σ H λx H'=>∃k,Tw K x H' k/\Q k H'
section
variable{Y:Cx}{D' a0:Ut}
theorem A1{tg elt:Uv}{ifs:xU}{code:Code}{jx:Nat}{it:Ut}(hx:Y.xe=nox)(hc:Y.calm=xO)
  (rule:VL Y.prog Y.w Y.A tg ifs Y.env (.ref it) code (λQ s=>Ux (model Y.prog Y.w) Y.A (eval elt Y.env) (λx s₄=>Ux (model Y.prog Y.w) Y.A (call (.builtin "list.append") [.ref D',x]) (λ_ s₅=>Q s₅) nox s₄) nox s))
  (hg:PG Y tg (Sq jx)) (ht:ZA Y ifs (Py Y.K jx)) (he:PE Y elt (Kl jx))
  {pins:List (Ut×Obj)} {sh:Ur} {σ:St} {H:Hp} {fp:xW} {tn:Nat->Heap->Prop} {vs:List V} {R:Result->Ur->Prop}
  (I:Inv Y pins σ H sh) (T:Turn Y.prog Y.w Y.K tg (Itl Y.K a0) fp it tn) (st:tn 0 sh.heap) (hf:∀b∈fp,KP Y pins H b)
  (yd:jx<σ.length) (h0:H a0=O (.lst vs)) (ne0:a0≠D') (hin:∀v∈vs,∃b us,v=.ref b/\H b=O (.lst us)/\b≠D') (hlen:vs.length<=Uw) (hD:H D'=O (.lst []))
  (vD:∀σ' H' s',Inv Y pins σ' H' s'->(∀a o,a≠D'->H a=O o->H' a=O o)->H' D'=O (.lst (vs.filter (Y1 H)))->R (.ok .next) s'):codeAny (model Y.prog Y.w) Y.A code R sh:=by
 have stat:∀{H':Hp},(∀b∈fp,H' b=xN)->∀b∈fp,KP Y pins H' b:=λhn b hb=>⟨hn b hb,(hf b hb).2⟩
 refine rule R (λn s'=>∃i σ' H',n=vs.length-i/\tn i s'.heap/\(∀b∈fp,H' b=xN)/\Inv Y pins σ' H' s'/\σ'.length=σ.length/\(∀a o,a≠D'->H a=O o->H' a=O o)/\H' D'=O (.lst ((vs.take i).filter (Y1 H)))) vs.length sh
  ⟨0,σ,H,rfl,st,λb hb=>(hf b hb).1,I,rfl,λ_ _ _ q=>q,hD⟩ ?_
 rintro n s' ⟨i,σ',H',rfl,wp,wv,I',vG,yg,vw⟩;have sq:SqL Y.K H' a0 vs:=SqL.of (yg a0 _ ne0 h0);by_cases hlt:i<vs.length
 .have hvi:vs[i]?=O vs[i]:=Qe hlt
  refine thn (T.item Y xM xM xM hc i pins s' σ' H' nox I' (stat wv) wp ⟨vs,vs[i],sq,hvi⟩) λrr s4 ⟨u,hr,h4⟩=>?_;subst hr;refine thn h4 λ_ s5 ⟨x,H5,I5,r5,y5,vH,wJ⟩=>?_
  obtain⟨rfl,y5⟩:=y5;have hx5:=y5 vs sq;rw[hvi]at hx5;cases hx5;obtain⟨b,us,hv,hb,hbD⟩:=hin vs[i] (Jx hlt);have hb':H5 b=O (.lst us):=yg b _ hbD hb;have hk:Y1 H vs[i] = !us.isEmpty:=by rw[hv];exact R9 hb
  have h6:=hg _ s5 σ' H5 vs[i] u (λσ6 H6=>σ6=σ'.set jx (O vs[i])/\H6=H5) (I5.pinned (stat wJ) (T.obj _ _ vH)) r5 ⟨rfl,rfl⟩;rw[hx]at h6;refine thn h6 λ_ s6 ⟨σ6,H6,I6,e6,e6'⟩=>?_;subst e6 e6';have hget:(σ'.set jx (O vs[i]))[jx]?=O (O vs[i]):=QK (by rw[vG];exact yd)
  have h7:=ht _ s6 _ H6 (λc H7=>c = !us.isEmpty/\H7=H6) I6 ⟨vs[i],hget,!us.isEmpty,by rw[hv];exact .inl ⟨us,SqL.of hb',rfl⟩,rfl,rfl⟩;rw[hx]at h7;refine thn h7 λok s7 ⟨H7,I7,hok,e7⟩=>?_;subst hok e7
  have again:∀{H9:Hp}{σ9:St}{s9:Ur},Inv Y (pins++Vx fp s5.heap) σ9 H9 s9->Inv Y pins σ9 H9 s9/\tn (i+1) s9.heap/\∀b∈fp,H9 b=xN:=λ{H9 σ9 s9} I9=>by refine⟨I9.unpinned,T.keep _ _ _ vH λb hb o e=>(I9.pin (b,o) (Qn _ (Qn _ (Vj hb e)))).1,λb hb=>?_⟩;obtain⟨o,e,d⟩:=T.obj _ _ vH b hb;exact(I9.pin (b,o) (Qn _ (Qn _ (Vj hb e)))).2.1
  have lt:vs.length-(i+1)<vs.length-i:=Nat.sub_lt_sub_left hlt (Nat.lt_succ_self i)
  have htk:(vs.take (i+1)).filter (Y1 H)=(vs.take i).filter (Y1 H)++(if(!us.isEmpty)=xO then [vs[i]]else []):=by
   rw[List.take_add_one,hvi,List.filter_append]
   congr 1
   show [vs[i]].filter (Y1 H)=_;rw[List.filter_cons,hk];rfl
  have sl6:(σ'.set jx (O vs[i])).length=σ.length:=by rw[QU];exact vG
  cases hus:(!us.isEmpty)with
  |false=>rw[hus]at htk;rw[Qw (by decide)];obtain⟨J1,J2,J3⟩:=again I7;exact⟨_,lt,i+1,_,H7,rfl,J2,J3,J1,sl6,yg,by rw[htk,Qw (by decide),QH];exact vw⟩
  |true=>
   rw[hus]at htk;rw[Qq xM];have h8:=he _ s7 _ H7 (λv H8=>v=vs[i]/\H8=H7) I7 ⟨vs[i],hget,rfl,rfl⟩;rw[hx]at h8;refine thn h8 λev s8 ⟨v,H8,I8,rv,e8,e8'⟩=>?_;subst e8 e8'
   have h2:=Wv _ s8 _ H8 (.ref D') [vs[i]] (.ref D') [ev] (λ_ H9=>H9=upd H8 D' (.lst ((vs.take i).filter (Y1 H)++[vs[i]]))) I8 xM (.cons rv .nil) ⟨D',_,vs[i],rfl,rfl,vw,by
    have h1:((vs.take i).filter (Y1 H)).length<=(vs.take i).length:=J8 _ _;rw[Q7]at h1
    lia,rfl⟩
   rw[hx]at h2;refine thn h2 λ_ s9 ⟨_,H9,I9,_,e9⟩=>?_;subst e9
   obtain⟨J1,J2,J3⟩:=again I9;exact⟨_,lt,i+1,_,_,rfl,J2,J3,J1,sl6,λa o z q=>by rw[Ki z];exact yg a o z q,by rw[Ks,htk,Qq xM]⟩
 .refine thn (T.done Y xM xM xM hc i pins s' σ' H' nox I' (stat wv) wp ⟨vs,sq,Q2 hlt⟩) λrr s4 ⟨hr,I6⟩=>?_
  subst hr;rw[List.take_of_length_le (Q2 hlt)]at vw;exact vD σ' H' s4 I6 yg vw
end
section
variable{K:Frag}{G H:Hp}
theorem RepOl.keep:∀{vs:List V}{dss:xQ}{fp:xW},RepOl K G H (.lst .leaf) vs dss fp->(∃fq,RepOl K G H (.lst .leaf) (vs.filter (Y1 H)) (dss.filter Vq) fq/\fq.Sublist fp)/\∀v∈vs,∃b us,v=.ref b/\H b=O (.lst us)/\b∈fp
 |_,_,_,.nil=>⟨⟨[],.nil,.slnil⟩,λv m=>by cases m⟩
 |_,_,_,.cons (v:=v) (d:=d) (f1:=f1) (f2:=f2) r t=>by
  obtain⟨⟨fq,h1,h2⟩,h3⟩:=RepOl.keep t;have r0:=r;cases r with
  |@lst _ b us ds fb hb rb=>
  have hk:Y1 H (.ref b) = !us.isEmpty:=R9 hb;have hd:Vq (.list ds) = !us.isEmpty:=by show(!ds.isEmpty)=_;rw[kR rb.length]
  refine⟨?_,λv m=>?_⟩
  .rw[List.filter_cons,List.filter_cons,hk,hd]
   cases (!us.isEmpty)with
   |true=>exact⟨_,.cons r0 h1,(List.Sublist.refl _).append h2⟩
   |false=>exact⟨fq,h1,h2.trans (List.sublist_append_right _ _)⟩
  .rcases QC.mp m with rfl|m
   .exact⟨b,us,rfl,hb,Qv _ Qf⟩
   .obtain⟨b',us',e1,e2,e3⟩:=h3 v m
    exact⟨b',us',e1,e2,Qn _ e3⟩
end
section
variable{X:Cx}{B G0:Hp}{e:Uv}{p:Pat}{σ:St}{G H:Hp}{ρ:UQ}
theorem LI{i:Nat}{d:D}(k:EOk X.K B G0 G H σ ρ)(ho:ρ[i]?=O (O (.deep p d))):∃v fp,σ[i]?=O (O v)/\NewT X.K B G H σ (ρ.set i xN) p v d fp:=by
 obtain⟨ω,ks⟩:=k.slots;obtain⟨v,fp,hv,r,nd,w⟩:=ks i p d (VX ho)
 have nz:∀{m:Nat}{s:Sl},(ρ.set i xN)[m]?=O (O s)->ρ[m]?=O (O s)/\i≠m:=λ{m s} q=>by
  by_cases z:i=m
  .subst z;have:=KS q;cases this
  .rw[Qj z]at q;exact⟨q,z⟩
 have off:∀(j:Nat) p' d' v' fp',ZF ρ j=O (p',d')->i≠j->σ[j]?=O (O v')->∀b∈fp,RepO X.K G H p' v' d' fp'->b∉fp':=λj p' d' v' fp' z y hs b m rr mm=>by obtain⟨v5,f5,wY,r5,n5,w5⟩:=ks j _ _ z;rw[hs]at wY;cases wY;have eu:=r5.uniq (.refl _) rr;subst eu;exact y ((w b m).2.2.symm.trans (w5 b mm).2.2)
 refine⟨v,fp,hv,r,nd,λb m=>⟨(w b m).1,(w b m).2.1⟩,λb m j es ho' hs=>?_,λb m j p' d' v' fp' ho' hs rr mm=>?_⟩
 .obtain⟨ho',y⟩:=nz ho'
  obtain⟨a5,us,wX,i2',i3',i4',i5'⟩:=k.own j es ho';rw[hs]at wX;cases wX;exact off j _ _ _ [b] (Hf ho') y hs b m (.lst i4' (.leaf i5')) (QE.mpr xM)
 .obtain⟨ho',y⟩:=nz ho'
  exact off j _ _ _ fp' (VX ho') y hs b m rr mm
def NB(X:Cx)(N2:List Str)(scope:Scope)(elt tg:Uv)(ifs:xU)(jx:Nat):Prop:=
 ∀(cl:List (Str×Ut))(C:Ut)(s₀:Ur)(H₀:Hp)(ex:xW),PG (X.blk N2 scope cl C s₀ H₀ ex) tg (Sq jx)/\ZA (X.blk N2 scope cl C s₀ H₀ ex) ifs (Py X.K jx)/\PE (X.blk N2 scope cl C s₀ H₀ ex) elt (Kl jx)
theorem jp{j:Nat}{ρ ρ':UQ}{d:D}(h:Wm j ρ=.ok d ρ'):∃dss,ρ[j]?=O (O (.deep (.lst (.lst .leaf)) (.list dss)))/\d=.list (dss.filter Vq)/\ρ'=ρ.set j xN:=by
 unfold Wm at h;split at h
 .rename_i dss q
  cases h;exact⟨dss,q,rfl,rfl⟩
 .cases h
theorem BB{tg elt iter:Uv}{ifs:xU}{scope:Scope}{pos:Pos}{N2:List Str}{jx jy:Nat}(hc:X.calm=xO)(hi:PE X iter (Kl jy))(vf:NB X N2 scope elt tg ifs jx)(hb:WZ X.env.scope scope X.N N2 1)(yd:jx<N2.length)(hs:∀x,UO iter X.env x=pure x:=by intro _;rfl) :
  PE X (.ListComp elt [⟨tg,iter,ifs,0⟩] scope pos) (tT X.K B G0 (.lst (.lst .leaf)) (Wm jy)):=by
 intro pins s0 σ H Q I ⟨G,ρ,k,a⟩;cases z:Wm jy ρ with
 |bad=>rw[z]at a;exact a.elim
 |ok d ρ1=>
 rw[z]at a;obtain⟨dss,q0,rfl,rfl⟩:=jp z;obtain⟨v,fpT,hv,n⟩:=LI k q0;have nr:=n.r;cases nr with
 |@lst _ a0 vs _ fpi h rl=>
 obtain⟨⟨fq,hq,hsub⟩,hin⟩:=rl.keep;have hz0:=(I.lstM h).1;rw[eval_ListComp];obtain⟨wy,hcl,wc,wL⟩:=O0 (scope:=scope) (env:=X.env) λy hy hf=>I.ok.has y.1 (hb.free y hy hf)
 refine wpAny_comprehension_free xM hs hcl hb.kind (λy hy hl=>(hb.names y hy).trans (by rw[hl])) (thn (M9 (tg:=tg) hi pins s0 σ H (λJ H1=>J=Itl X.K a0/\H1=H) I ⟨.ref a0,hv,a0,rfl,⟨vs,SqL.of h⟩,rfl,rfl⟩) λv s1 h1=>thn h1 λitv s2 h2=>?_);obtain⟨it,fp,tn,J,H2,rfl,I2,T,st2,f2,eJ,eH⟩:=h2;subst eJ eH;refine JM (PK wc wL hb.names (λx c e=>let ⟨_,q⟩:=I2.cell x c e;Qy q.lt (by first|exact Qr _|(rw[Jo];exact Jp _))) λh₁ cl hns₁ kept hco=>?_);dsimp only at hns₁ kept hco⊢;have hfr:H2 s2.heap.objs.size=xN:=I2.hok.fresh (Qr _)
 have I3:Inv X pins σ (upd H2 s2.heap.objs.size (.lst [])) {s2 with heap:=s2.heap.push {cls:=.type "list", dict:=xN,data:=.seq ([]:xS).toArray}}:=
  I2.laid (t':=s2.toks) (λb u e=>Qg _ e) (Qr _) ⟨JL _,[],0,.nil,QD _ xM⟩
 generalize hP:s2.heap.push {cls:=.type "list", dict:=xN,data:=.seq ([]:xS).toArray}=P at I3 hns₁ kept hco⊢;have old:∀b o,s2.heap.get? b=O o->P.get? b=O o:=λb o e=>hP ▸ Qg _ e;have fpo:∀b∈fp,∃o,s2.heap.get? b=O o:=λb hb=>let ⟨o,e,_⟩:=T.obj _ _ st2 b hb;⟨o,e⟩
 have fpD:∀b∈fp,b≠s2.heap.objs.size:=λb hb=>let ⟨o,e⟩:=fpo b hb;QS (Qi e)
 have f3:∀b∈fp,KP X pins (upd H2 s2.heap.objs.size (.lst [])) b:=λb hb=>⟨by rw[Ki (fpD b hb)];exact(f2 b hb).1,(f2 b hb).2⟩
 have I4:=I3.enter (scope:=scope) (cl:=cl) (N2:=N2) (k:=1) (fp:=fp) (t':=s2.toks) hb.b hb.kind hb.free hco hns₁ kept f3 (λb hb=>let ⟨o,e⟩:=fpo b hb;⟨o,old b o e⟩);dsimp only at I4;have gD:G s2.heap.objs.size=xN:=k.gh.free hfr;have bD:B s2.heap.objs.size=xN:=k.bh.free hfr;have sH:Same H2 (upd H2 s2.heap.objs.size (.lst [])):=Zd hfr;have wj:upd H2 s2.heap.objs.size (.lst []) s2.heap.objs.size=O (.lst []):=Ks;have sE:∀b,b≠s2.heap.objs.size->upd H2 s2.heap.objs.size (.lst []) b=H2 b:=λb hb=>Ki hb;generalize upd H2 s2.heap.objs.size (.lst [])=H3 at I3 I4 f3 sH wj sE;generalize s2.heap.objs.size=D at *;have wo:tn 0 h₁:=T.keep 0 _ _ st2 λb hb o e=>kept b o (old b o e)
 have stat:∀b∈fp,KP (X.blk N2 scope cl P.objs.size {s2 with heap:=P} H3 fp) pins H3 b:=λb hb=>by
  obtain⟨z0,z1,z2,z3,z4,z5⟩:=f3 b hb;obtain⟨o,e⟩:=fpo b hb;refine⟨z0,QS (Qi (old b o e)),λz=>?_,.inl hb,λx c q=>(hco.old x c q).elim (z4 x c) λw=>Jq (Nat.lt_trans (Qi (old b o e)) w.1),z5⟩;rcases QC.mp (I3.stkSub b z)with q|q
  .exact z1 q
  .exact z2 q
 have neD:∀a o,H2 a=O o->a≠D:=λa o q z=>by subst z;rw[hfr]at q;cases q
 have hin3:∀v∈vs,∃b us,v=.ref b/\H3 b=O (.lst us)/\b≠D:=λv m=>by obtain⟨b,us,e1,e2,_⟩:=hin v m;exact⟨b,us,e1,sH _ _ e2,neD _ _ e2⟩
 have hkeep:vs.filter (Y1 H3)=vs.filter (Y1 H2):=JC λv m=>by obtain⟨b,us,e1,e2,_⟩:=hin v m;rw[e1,R9 e2,R9 (sH _ _ e2)]
 obtain⟨hg,ht,he⟩:=vf cl P.objs.size {s2 with heap:=P} H3 fp
 have loop:=A1 (Y:=X.blk N2 scope cl P.objs.size {s2 with heap:=P} H3 fp) (D':=D) (R:=compPost (model X.prog X.w) X.A X.xe xN (EP X pins σ Q) (.ref D) P.objs.size) xM hc (OJ (elt:=elt) (gens:=[⟨tg,iter,ifs,0⟩]) (scope:=scope) (pos:=pos) (j:=0) (i:=iter) xM xM) hg ht he I4 T wo stat (by rw[I4.len];exact yd) (sH _ _ h) (neD _ _ h) hin3 hz0 wj λσ' H' s4 J7 hh vw=>by
   obtain⟨m,hm,_⟩:=id J7.loc;have I7:Inv X pins σ H' s4:=I3.call' (ch:=fp) J7.os J7.base J7.hok J7.bare λb hb=>⟨(f3 b hb).2.2.2.1,(f3 b hb).2.1,(f3 b hb).2.2.2.2.1,(f3 b hb).2.2.2.2.2⟩;have hH:Same H2 H':=λa o q=>hh a o (neD a o q) (sH a o q);have ex:Ext G H2 G H':=⟨hH,.refl _,k.gh.trans hH,λ_ _ _ z=>z⟩;rw[hkeep]at vw
   obtain⟨na,nf⟩:=QY.mp n.nd;have hDq:D∉fq:=λm=>by obtain⟨u,hu⟩:=hq.isl D m;rw[hfr]at hu;cases hu
   have nw:NewT X.K B G H' σ (ρ.set jy xN) (.lst (.lst .leaf)) (.ref D) (.list (dss.filter Vq)) (D::fq):=by
    refine⟨.lst vw (hq.mono (.refl _) hH),QY.mpr ⟨hDq,nf.sublist hsub⟩,λb m=>?_,λb m j es q s=>?_,λb m j p d v fp' q s rr mm=>?_⟩
    .rcases QC.mp m with rfl|m
     .exact⟨bD,gD⟩
     .exact n.b b (Qh _ (hsub.mem m))
    .rcases QC.mp m with rfl|m
     .obtain⟨a5,us,i1,i2,i3,i4,i5⟩:=k.forget.own j es q
      rw[s]at i1;cases i1;rw[hfr]at i4;cases i4
     .exact n.f b (Qh _ (hsub.mem m)) j es q s
    .obtain⟨ω,ks⟩:=(k.forget (i:=jy)).slots
     obtain⟨v0,fp0,hv0,r0,_,_⟩:=ks j p d (VX q);rw[s]at hv0;cases hv0;have eu:=r0.uniq hH rr;subst eu;rcases QC.mp m with rfl|m
     .obtain⟨u,hu⟩:=r0.isl b mm
      rw[hfr]at hu;cases hu
     .exact n.dp b (Qh _ (hsub.mem m)) j p d _ _ q s r0 mm
   exact⟨m,hm,λh' sb=>⟨.ref D,H',I7.turned (t':=s4.toks) (it:=P.objs.size) (λb o hb e=>(sb.2 b hb).trans e) J7.free (Jq I3.lt) (.inr I3.sz) (λx c e z=>by obtain⟨_,q⟩:=I3.cell x c e;exact absurd q.lt (by rw[z];exact Jm _)) (λp hp z=>by have:=Qi (I3.pin p hp).1;exact absurd this (by rw[z];exact Jm _)),rfl,a (.ref D) (D::fq) G H' (k.forget.ext ex) (.refl _) nw⟩⟩
 exact codeAny_compStart_list loop (T.self X.A 0 _ _ _ wo loop)
theorem BA{j:Nat}{dss:xQ}(h:ρ[j]?=O (O (.deep (.lst (.lst .leaf)) (.list dss)))):Wm j ρ=.ok (.list (dss.filter Vq)) (ρ.set j xN):=by unfold Wm;rw[h]
theorem A0{tg elt iter:Uv}{ifs:xU}{scope:Scope}{pos:Pos}{jy:Nat}(SC:Scope)(N1 N2:List Str)(jx:Nat)(hc:X.calm=xO)(hi:PE X iter (Kl jy))(vf:NB X N2 scope elt tg ifs jx)(h1:X.env.scope=SC)(h2:X.N=N1)(hb:Xv Wj SC scope N1 N2 1=xO)(yd:jx<N2.length)(hs:∀x,UO iter X.env x=pure x:=by intro _;rfl) :
  PE X (.ListComp elt [⟨tg,iter,ifs,0⟩] scope pos) (tT X.K B G0 (.lst (.lst .leaf)) (Wm jy)):=BB hc hi vf (by rw[h1,h2];exact RH hb) yd hs
end
section
variable{X:Cx}{c:Uv}{jx:Nat}
theorem Bz(h:PE X c (Kl jx))(he:∀whole,isTrue c X.env whole=(do let v ←whole;standAt c.pos;holding [v] (truthy v)):=by intro _;rfl):ZA X [c] (Py X.K jx):=λpins s σ H Q I q=>wpAny_tests_one (Aq h he pins s σ H Q I q)
end
noncomputable def TF(f:M xQ)(j:Nat)(p:Pat):M D:=λρ=>match f ρ with
 |.ok ds ρ1=>(match ρ1[j]? with
  |some (O (.deep q d))=>if eqF 9 q p=xO then .ok (.tuple [.list ds,d]) (ρ1.set j xN)else .bad
  |_=>.bad)
 |.bad=>.bad
section
variable{X:Cx}{B G0:Hp}{e1 e2:Uv}{pos:Pos}{p:Pat}
theorem AZ{f:M xQ}{j:Nat}{k1}(h1:PE X e1 (tL X.K B G0 f))(h2:PE X e2 (Kl j))(hs1:Uy [e1,e2] X.env=(xP,eval e1 X.env)::Uy [e2] X.env:=by rfl)(hs2:Uy [e2] X.env=[(xP,eval e2 X.env)]:=by rfl) :
  PE X (.Tuple [e1,e2] k1 pos) (tT X.K B G0 (.tup [.lst .leaf,p]) (TF f j p)):=by
 refine Kb (Mm (Zq h1 (Zq h2 Z4 hs2) hs1)) λσ H Q ⟨G,ρ,k,q⟩=>?_;unfold TF at q
 refine⟨G,ρ,k,?_⟩;cases z1:f ρ with
 |bad=>rw[z1]at q;exact q.elim
 |ok d1 ρ1=>
 rw[z1]at q;dsimp only at q;split at q
 case h_2=>exact q.elim
 rename_i d' ρ' hq;split at hq
 case h_2=>cases hq
 rename_i q0 dt ho;by_cases hc:eqF 9 q0 p=xO
 case neg=>rw[Qw hc]at hq;cases hq
 rw[Qq hc]at hq;cases Su 9 _ _ hc;cases hq;intro a1 vs1 G1 H1 k1 s1 n1;obtain⟨v2,fp,g1,n2⟩:=LI k1 ho;obtain⟨ω,w1,w2⟩:=id k1.dp;have hne:a1∉fp:=n1.dp j _ _ _ fp ho g1 n2.r;refine⟨v2,g1,(show 2<=Uw by decide),λpp hp=>?_⟩;have sh:Same H1 (upd H1 pp (.tup [.ref a1,v2])):=Zd hp
 have nz:∀{m:Nat}{s:Sl},(ρ1.set j xN)[m]?=O (O s)->ρ1[m]?=O (O s)/\j≠m:=λ{m s} q=>by
  by_cases z:j=m
  .subst z;have:=KS q;cases this
  .rw[Qj z]at q;exact⟨q,z⟩
 have mem2:∀{c:Ut},c∈[a1]++(fp++[])->c=a1∨c∈fp:=λm=>by simpa using m
 refine q (.ref pp) ([a1]++(fp++[])) G1 _ ((k1.forget).ext (Ext.hid k1.gh hp)) s1 ⟨.tup Ks (.cons (.lst (sh _ _ n1.h) (.leaf n1.r)) (.cons (n2.r.mono (.refl _) sh) .nil)),?_,λc m=>?_,λc m l es ho' w=>?_,λc m l p' d' v' fp' ho' w r m'=>?_⟩
 .rw[QH]
  exact QY.mpr ⟨hne,n2.nd⟩
 .rcases mem2 m with rfl|m
  .exact⟨n1.b,n1.g⟩
  .exact n2.b c m
 .rcases mem2 m with rfl|m
  .exact n1.f l es (nz ho').1 w
  .exact n2.f c m l es ho' w
 .obtain⟨ho2,z⟩:=nz ho'
  obtain⟨v3,fp2,s2,r2,n3,w2'⟩:=w1 l p' d' ho2;rw[w]at s2;cases s2;have u:=r2.uniq sh r;subst u;rcases mem2 m with rfl|m
  .exact n1.dp l p' d' v' _ ho2 w r2 m'
  .exact n2.dp c m l p' d' v' _ ho' w r2 m'
theorem By{f:M xQ}{j:Nat}{ρ ρ1:UQ}{ds:xQ}{d:D}(h1:f ρ=.ok ds ρ1)(h2:ρ1[j]?=O (O (.deep p d)))(h3:eqF 9 p p=xO):TF f j p ρ=.ok (.tuple [.list ds,d]) (ρ1.set j xN):=by unfold TF;rw[h1];dsimp only;rw[h2];dsimp only;rw[if_pos h3]
end
section
variable{X:Cx}{B G0:Hp}{KX:XW}{pt:Pat}
theorem CO{y:Str}{j:Nat}{py:Pos}{spos:Pos}{tg elt iter:Uv}{ifs:xU}{scope:Scope}{pos:Pos}{N2:List Str}{n:Nat}{f:M xQ}{s:D->UQ->xX}{t:M Bool}{g:M D}(hN:X.N.Nodup)(hj:X.N[j]?=O y)(hy:X.env.scope.names.lookup y=O .local)(hc:X.calm=xO)
  (hi:PI X tg iter (iD X.K B G0 f)) (vf:SZ X N2 scope elt tg ifs s t pt g) (hb:WZ X.env.scope scope X.N N2 n) (hs:∀x,UO iter X.env x=pure x:=by intro _;rfl)
  (hsw:swapsWith (.ListComp elt [⟨tg,iter,ifs,0⟩] scope pos) (O (.Name y py)) spos.line X.env=pure xO:=by rfl) :
  PS X (.Assign [.Name y py] (.ListComp elt [⟨tg,iter,ifs,0⟩] scope pos) spos) (tS X.K B G0 KX (Yq j (.lst pt) (Wn f n s t g))):=by
 intro pins s0 σ H Dn I ⟨G,ρ,k0,a⟩;unfold Yq sB at a;cases z:Wn f n s t g ρ with
 |bad=>rw[z]at a;exact a.elim
 |ok d ρ1=>
 rw[z]at a;dsimp only at a;by_cases hl:j<ρ1.length
 .rw[Qq hl]at a
  obtain⟨ds,es,rfl,zf,zl⟩:=jq z;rw[exec_Assign_Name_used _ _ _ _ hsw];refine Qd (Jn (Qd ?_));show Ux _ X.A (do let _ ←comprehension (.ListComp elt [⟨tg,iter,ifs,0⟩] scope pos) scope X.env _ (newList []) xP (eval iter X.env) (O (assign (.Name y py) X.env))) _ _ s0;refine Qd (QP (A3 (use:=O (assign (.Name y py) X.env)) (Qc:=λ_ s'=>SP X pins Dn .next s') hc hi vf hb hs I k0 zf zl λC v fq u G' H' s4 m rv I7 hm hC hL hz hcl hp k' s' nw=>?_) (λ_ s' hq=>Qm (Qm hq)) λ_ _ e=>e);show Ux _ X.A (assign (.Name y py) X.env u) _ _ s4;refine wpAny_assign_Name (OF I7 hN hj (.inl hy) (v:=v) rv (λs5 I8 ⟨ad,sb,hx⟩=>?_) (.inr hy))
  have hCa:C≠ad:=by
   rcases hx with e|e
   .rw[e];exact hL
   .exact Ne.symm (hcl y ad e)
  refine⟨m,hm.sameBut sb hCa,λh' sb'=>⟨_,H',I8.turned (t':=s5.toks) (it:=C) (λb o hb e=>(sb'.2 b hb).trans e) hC hL (.inr hz) hcl hp,?_⟩⟩;exact a _ G' H' (k'.setDeep nw hl) s'
 .rw[Qw hl]at a;exact a.elim
theorem Ad{gl:List Str}{y:Str}{j:Nat}{py:Pos}{spos:Pos}{tg elt iter:Uv}{ifs:xU}{scope:Scope}{pos:Pos}{f:M xQ}{s:D->UQ->xX}{t:M Bool}{g:M D}{n:Nat}{SC:Scope}{N1:List Str}(H:FnNm SC N1 gl)(hj:N1[j]?=O y)(hy:SC.names.lookup y=O .local)(hc:X.calm=xO)
  (hi:PI X tg iter (iD X.K B G0 f)) (vf:SZ X (blN N1 [⟨tg,iter,ifs,0⟩]) scope elt tg ifs s t pt g) (hb:Xv Wj SC scope N1 (blN N1 [⟨tg,iter,ifs,0⟩]) n=xO) (h1:X.env.scope=SC:=by rfl) (h2:X.N=N1:=by rfl) (hs:∀x,UO iter X.env x=pure x:=by intro _;rfl)
  (hsw:swapsWith (.ListComp elt [⟨tg,iter,ifs,0⟩] scope pos) (O (.Name y py)) spos.line X.env=pure xO:=by rfl) :
  PS X (.Assign [.Name y py] (.ListComp elt [⟨tg,iter,ifs,0⟩] scope pos) spos) (tS X.K B G0 KX (Yq j (.lst pt) (Wn f n s t g))):=CO (h2 ▸ H.nd) (h2 ▸ hj) (h1 ▸ hy) hc hi vf (by rw[h1,h2];exact RH hb) hs hsw
end
end DL
namespace W
open PySem PySem.Spec L2 DL
open PyProof.Rows hiding St
noncomputable def top(i:Nat):Stmt:=PySem.Challenge.pw_wishdeal_k82_copy_by_copy.main.body.getD i (.Pass ⟨0,0,0,0⟩)
abbrev GG(s:Stmt)(x:Str):Prop:=(KI s).names.lookup x=O NameKind.globalImplicit
abbrev VV(s:Stmt)(x:Str):Prop:=L2.Vis (KI s) x
abbrev LL(s:Stmt)(x:Str):Prop:=L2.Loc (KI s) x
theorem vk{s:Stmt}{x:Str}(h:(KI s).names.lookup x=O .local∨(KI s).names.lookup x=O .cell∨(KI s).names.lookup x=O .free):VV s x:=h
theorem lk{s:Stmt}{x:Str}(h:(KI s).names.lookup x=O .local∨(KI s).names.lookup x=O .cell):LL s x:=h
structure Txt(K:Frag)(mg:Str->xV):Prop where
 b_ValueError:mg "ValueError" = xN
 b_all:mg "all" = xN
 b_bool:mg "bool" = xN
 b_enumerate:mg "enumerate" = xN
 b_int:mg "int" = xN
 b_isinstance:mg "isinstance" = xN
 b_len:mg "len" = xN
 b_list:mg "list" = xN
 b_max:mg "max" = xN
 b_min:mg "min" = xN
 b_range:mg "range" = xN
 b_repr:mg "repr" = xN
 b_set:mg "set" = xN
 b_sorted:mg "sorted" = xN
 b_sum:mg "sum" = xN
 b_tuple:mg "tuple" = xN
 c_MOST_ASKERS:∃t,mg "MOST_ASKERS" = O (Value.int 7 t)
 c_MOST_COPIES:∃t,mg "MOST_COPIES" = O (Value.int 7 t)
 c_MOST_RANKS:∃t,mg "MOST_RANKS" = O (Value.int 5 t)
 c_MOST_THINGS:∃t,mg "MOST_THINGS" = O (Value.int 6 t)
 x_DealError:CK K mg "DealError"
 x_NoAim:CK K mg "NoAim"
 x_NoBook:CK K mg "NoBook"
 x_NoChange:CK K mg "NoChange"
 x_NoDeed:CK K mg "NoDeed"
 x_NoJoin:CK K mg "NoJoin"
 x_NoName:CK K mg "NoName"
 x_NoNumbering:CK K mg "NoNumbering"
 x_NoPlace:CK K mg "NoPlace"
 x_NoRow:CK K mg "NoRow"
 x_NoText:CK K mg "NoText"
 x_NoWay:CK K mg "NoWay"
 x_NoWishes:CK K mg "NoWishes"
 x_TooMany:CK K mg "TooMany"
noncomputable abbrev Sam:Stmt:=top 35
noncomputable abbrev N_am:List Str:=["_law_script", "_law_k"]
theorem Ham:NmF Sam N_am:=KU (by decide +kernel)
noncomputable def WC:SM:=
 UV (sIf (Zu (oIB λi j=>decide (i<j)) 1 (K6 0))
 (Kc (U5 0 (UP 1)))
 (sNx))
 (Kc (UU (.int 0)))
noncomputable def YB:xQ->xT:=Kn N_am WC
noncomputable abbrev Sau:Stmt:=top 43
noncomputable abbrev N_au:List Str:=["_law_caught_here"]
theorem Hau:NmF Sau N_au:=KU (by decide +kernel)
noncomputable def g_au:SM:=
 Kc (Kp (UT (U2 (UP 0) λd=>U1 (XF "part" d)) (UT (UY oIx (U7 (UT (U2 (UP 0) λd=>U1 (XF "number" d)) (UT (UU (.str "truth")) (UR)))) (Zc Pt (UT (U3 (λd=>.bool (KD d "bool")) (U2 (UP 0) λd=>U1 (XF "number" d))) (UR)))) (UR))))
noncomputable def XN:xQ->xT:=Kn N_au g_au
noncomputable abbrev Sat:Stmt:=top 42
noncomputable abbrev N_at:List Str:=["_law_wishes_here", "_law_number", "_law_places"]
theorem Hat:NmF Sat N_at:=KU (by decide +kernel)
noncomputable def Tf:SM:=
 UV (Kh 2 (UY U9 (UY Ko (U7 (UT (Kp (UT (UU (.str "wishes")) (UT (UU .none) (UR)))) (UR))) (UU (.int 4))) (U7 (UT (Kp (UT (UU (.str "copies")) (UT (UU .none) (UR)))) (UT (Kp (UT (UU (.str "lists")) (UT (UU .none) (UR)))) (UT (Kp (UT (UU (.str "copies")) (UT (UU .none) (UR)))) (UR)))))))
 (UV (Kh 2 (UY U9 (UY U9 (UY U9 (UP 2) (UY Ko (U7 (UT (Kp (UT (UU (.str "copies")) (UT (UU (.int 0)) (UR)))) (UR))) (UU (.int 3)))) (UY Ko (U7 (UT (Kp (UT (UU (.str "lists")) (UT (UU (.int 0)) (UR)))) (UR))) (UU (.int 5)))) (U7 (UT (Kp (UT (UU (.str "lists")) (UT (UU .none) (UR)))) (UR)))))
 (UV (sIf (ZJ (Zu oEq 1 (UU (.int 10))) (UY oEq (Zc KB (UT (U5 0 (UU (.int 1))) (UR))) (UU (.int 7))))
 (Kc (Kp (UT (UU (.str "lists")) (UT (UU .none) (UR)))))
 (sNx))
 (Kc (U5 2 (UP 1)))))
noncomputable def WQ:xQ->xT:=Kn N_at Tf
noncomputable abbrev Sar:Stmt:=top 40
noncomputable abbrev N_ar:List Str:=["_law_caught_here", "_law_words", "_law_names"]
theorem Har:NmF Sar N_ar:=KU (by decide +kernel)
noncomputable def g_ar:SM:=
 UV (Kz 1 (U2 (UT (U2 (UP 0) λd=>U1 (K8 "NoWishes" d)) (UT (U2 (UP 0) λd=>U1 (K8 "NoAim" d)) (UT (U2 (UP 0) λd=>U1 (K8 "NoWay" d)) (UR)))) λxs=>if xs.length<=1000000 then UU xs else λ_=>.bad))
 (UV (Kz 1 (XH (UP 1) (U7 (UT (U2 (UP 0) λd=>U1 (K8 "NoNumbering" d)) (UT (U2 (UP 0) λd=>U1 (K8 "NoJoin" d)) (UT (U2 (UP 0) λd=>U1 (K8 "NoBook" d)) (UR)))))))
 (UV (Kz 1 (XH (UP 1) (U7 (UT (U2 (UP 0) λd=>U1 (K8 "NoChange" d)) (UT (U2 (UP 0) λd=>U1 (K8 "NoDeed" d)) (UT (U2 (UP 0) λd=>U1 (K8 "NoName" d)) (UR)))))))
 (UV (Kz 1 (XH (UP 1) (U7 (UT (U2 (UP 0) λd=>U1 (K8 "NoPlace" d)) (UT (U2 (UP 0) λd=>U1 (K8 "NoRow" d)) (UT (U2 (UP 0) λd=>U1 (K8 "NoText" d)) (UR)))))))
 (UV (KN 1 (U2 (UP 0) λd=>U1 (K8 "TooMany" d)))
 (UV (sIf (mOr (UY oNe (Me (UP 1) (UT (UU (.bool xO)) (UR))) (UU (.int 1))) (Kv (ZC (U2 (UP 0) λd=>U1 (V3 d)))))
 (Kc (UU (.str "none")))
 (sNx))
 (UV (Kz 2 (U2 (UT (UU (.str "wishes")) (UT (UU (.str "aim")) (UT (UU (.str "way")) (UT (UU (.str "numbering")) (UT (UU (.str "join")) (UT (UU (.str "book")) (UT (UU (.str "change")) (UT (UU (.str "deed")) (UT (UU (.str "name")) (UT (UU (.str "place")) (UT (UU (.str "row")) (UT (UU (.str "text")) (UR))))))))))))) λxs=>if xs.length<=1000000 then UU xs else λ_=>.bad))
 (Kc (UY oIx (UY U9 (UP 2) (U7 (UT (UU (.str "many")) (UR)))) (Mz (UP 1) (UT (UU (.bool xO)) (UR)))))))))))
noncomputable def Xh:xQ->xT:=Kn N_ar g_ar
noncomputable abbrev Sas:Stmt:=top 41
noncomputable abbrev N_as:List Str:=["_law_wishes_here", "_law_number", "_law_copies", "_law_lists", "_law_some"]
theorem Has:NmF Sas N_as:=KU (by decide +kernel)
noncomputable def Tg:SM:=
 UV (ZV (UP 0) (gT 2 (gNC (gN 2) (gNC (gN 3) (gN0)))))
 (UV (Kz 4 (U2 (UT (UU .none) (UT (Kp (UT (UP 2) (UR))) (UT (U7 (UT (UP 2) (UT (UP 3) (UR)))) (UT (Kp (UT (UP 2) (UT (UP 3) (UT (UU (.int 0)) (UR))))) (UT (Kp (UT (U7 (UR)) (UT (UP 3) (UR)))) (UT (Kp (UT (UP 2) (UT (U7 (UR)) (UR)))) (UR))))))) λxs=>if xs.length<=1000000 then UU xs else λ_=>.bad))
 (UV (Kh 4 (UY U9 (UP 4) (U7 (UT (Kp (UT (Zc S4 (UT (UP 2) (UR))) (UT (UP 3) (UR)))) (UT (Kp (UT (UY U9 (U7 (UT (UU (.bool xO)) (UR))) (K3 (UP 2) (U2 (UU (.int 1)) λx=>U1 (Z7 x)) (UU xN))) (UT (UP 3) (UR)))) (UT (Kp (UT (UY U9 (U7 (UT (YN (UU (.int 1))) (UR))) (K3 (UP 2) (U2 (UU (.int 1)) λx=>U1 (Z7 x)) (UU xN))) (UT (UP 3) (UR)))) (UR)))))))
 (UV (Kh 4 (UY U9 (UP 4) (U7 (UT (Kp (UT (UY U9 (U7 (UT (UU (.int 8)) (UR))) (K3 (UP 2) (U2 (UU (.int 1)) λx=>U1 (Z7 x)) (UU xN))) (UT (UP 3) (UR)))) (UT (Kp (UT (UP 2) (UT (UY U9 (U7 (UT (UU .none) (UR))) (UP 3)) (UR)))) (UT (Kp (UT (UP 2) (UT (UY U9 (U7 (UT (U7 (UT (U7 (UR)) (UR))) (UR))) (K3 (UP 3) (U2 (UU (.int 1)) λx=>U1 (Z7 x)) (UU xN))) (UR)))) (UR)))))))
 (UV (Kh 4 (UY U9 (UP 4) (U7 (UT (Kp (UT (UP 2) (UT (UY U9 (U7 (UT (U7 (UT (U7 (UT (UU (.int 0)) (UT (UU (.int 0)) (UR)))) (UR))) (UR))) (K3 (UP 3) (U2 (UU (.int 1)) λx=>U1 (Z7 x)) (UU xN))) (UR)))) (UT (Kp (UT (UP 2) (UT (UY U9 (U7 (UT (U7 (UT (U7 (UT (K6 2) (UR))) (UR))) (UR))) (K3 (UP 3) (U2 (UU (.int 1)) λx=>U1 (Z7 x)) (UU xN))) (UR)))) (UR))))))
 (UV (Kh 4 (UY U9 (UP 4) (U7 (UT (Kp (UT (UP 2) (UT (UY U9 (U7 (UT (U7 (UT (UU (.int 0)) (UR))) (UR))) (K3 (UP 3) (U2 (UU (.int 1)) λx=>U1 (Z7 x)) (UU xN))) (UR)))) (UT (Kp (UT (UP 2) (UT (Zc S4 (UT (UP 3) (UR))) (UR)))) (UR))))))
 (Kc (U5 4 (UP 1))))))))
noncomputable def WR:xQ->xT:=Kn N_as Tg
noncomputable abbrev Gv:Stmt:=top 30
noncomputable abbrev Gu:List Str:=["copies", "told", "ahead", "many"]
theorem GO:NmF Gv Gu:=KU (by decide +kernel)
noncomputable def GL:SM:=
 UV (Vr 1 (.lst .leaf) (U3 UC (U2 (UT (UP 2) (UT (UY U9 (UP 2) (UP 3)) (UR))) λxs=>U1 (Wi xs))))
 (Y8 (λi j=>O (.int (i+j))) 2 (UP 3))
noncomputable def Nh:SM:=
 UV (Yq 1 (.lst (.lst .leaf)) (UU (.list [])))
 (UV (Kh 2 (UU (.int 0)))
 (UV (Kq (Kx (UP 0)) (gN 3) GL)
 (sNx)))
noncomputable abbrev xG:M D:=
 Sf 1 (.lst (.lst .leaf))
noncomputable def Wd:xQ->xT:=Vs Gu Nh xG
noncomputable abbrev ZM:xQ->xT:=Wd
noncomputable abbrev Saa:Stmt:=top 16
noncomputable abbrev N_aa:List Str:=["thing"]
theorem Haa:NmF Saa N_aa:=KU (by decide +kernel)
noncomputable def Ts:SM:=
 Kc (Vo (U3 (λd=>.bool (KD d "int")) (UP 0)) (Rh (U3 (λd=>.bool (KD d "bool")) (UP 0))))
noncomputable def XT:xQ->xT:=Kn N_aa Ts
noncomputable abbrev Sab:Stmt:=top 17
noncomputable abbrev N_ab:List Str:=["thing", "many"]
theorem Hab:NmF Sab N_ab:=KU (by decide +kernel)
noncomputable def WF:SM:=
 Kc (Vo (U4 1 XT (UT (UP 0) (UR))) (U3 UD (Xl (oIB λi j=>decide (i<=j)) (oIB λi j=>decide (i<j)) (UU (.int 0)) (UP 0) (UP 1))))
noncomputable def ZN:xQ->xT:=Kn N_ab WF
noncomputable abbrev Sad:Stmt:=top 24
noncomputable abbrev N_ad:List Str:=["thing", "things"]
theorem Had:NmF Sad N_ad:=KU (by decide +kernel)
noncomputable def WE:SM:=
 UV (sIf (mOr (Kv (ZC (U3 (λd=>.bool (KD d "list")) (UP 0)))) (UY oEq (K6 0) (UU (.int 0))))
 (Kc (UU (.bool xP)))
 (sNx))
 (Kc (Zc Yy (UT (U3 UC (Z6 (Kx (UP 0)) 1 (gN 2) (UU xO) (U4 2 ZN (UT (UP 2) (UT (UP 1) (UR)))))) (UR))))
noncomputable def YR:xQ->xT:=Kn N_ad WE
noncomputable abbrev Sae:Stmt:=top 25
noncomputable abbrev N_ae:List Str:=["thing", "things", "wished"]
theorem Hae:NmF Sae N_ae:=KU (by decide +kernel)
noncomputable def WD:SM:=
 UV (sIf (mOr (Kv (ZC (U3 (λd=>.bool (KD d "list")) (UP 0)))) (UY (oIB λi j=>decide (j<i)) (K6 0) (UU (.int 5))))
 (Kc (UU (.bool xP)))
 (sNx))
 (UV (sIf (Kv (ZC (Zc Yy (UT (U3 UC (Z6 (Kx (UP 0)) 1 (gN 3) (UU xO) (U4 2 YR (UT (UP 3) (UT (UP 1) (UR)))))) (UR)))))
 (Kc (UU (.bool xP)))
 (sNx))
 (UV (Kz 2 (YK (Kx (UP 0)) 2 (gN 3) (UU xO) (Kx (UP 3)) (gN 4) (UU xO) (UP 4)))
 (Kc (U3 UD (UY oEq (Zc Vc (UT (UP 2) (UR))) (K6 2))))))
noncomputable def YQ:xQ->xT:=Kn N_ae WD
noncomputable abbrev Gq:Stmt:=top 26
noncomputable abbrev Gp:List Str:=["lists", "things", "asker", "ranks"]
theorem Gx:NmF Gq Gp:=KU (by decide +kernel)
noncomputable def Gr:SM:=
 sIf (Kv (ZC (U4 2 YQ (UT (UP 3) (UT (UP 1) (UR))))))
 (X1 "NoWishes" (UT (UU (.str "lists")) (UT (UP 2) (UR))))
 (sNx)
noncomputable def Nl:SM:=
 UV (sIf (mOr (Kv (ZC (U3 (λd=>.bool (KD d "list")) (UP 0)))) (Kv (Xl (oIB λi j=>decide (i<=j)) (oIB λi j=>decide (i<=j)) (UU (.int 1)) (K6 0) (UU (.int 7)))))
 (X1 "NoWishes" (UT (UU (.str "lists")) (UT (UU .none) (UR))))
 (sNx))
 (Kq (YV (UT (UP 0) (UR))) (gT 2 (gNC (gN 2) (gNC (gN 3) (gN0)))) Gr)
noncomputable def Pm:xQ->Option XR:=ZI Gp Nl
noncomputable abbrev Gw:Stmt:=top 23
noncomputable abbrev GJ:List Str:=["copies", "number", "many"]
theorem GD:NmF Gw GJ:=KU (by decide +kernel)
noncomputable def Gs:SM:=
 sIf (Kv (ZC (U4 2 ZN (UT (UP 2) (UT (UY U9 (UU (.int 7)) (UU (.int 1))) (UR))))))
 (X1 "NoWishes" (UT (UU (.str "copies")) (UT (UP 1) (UR))))
 (sNx)
noncomputable def Nj:SM:=
 UV (sIf (mOr (Kv (ZC (U3 (λd=>.bool (KD d "list")) (UP 0)))) (Kv (Xl (oIB λi j=>decide (i<=j)) (oIB λi j=>decide (i<=j)) (UU (.int 1)) (K6 0) (UU (.int 6)))))
 (X1 "NoWishes" (UT (UU (.str "copies")) (UT (UU .none) (UR))))
 (sNx))
 (Kq (YV (UT (UP 0) (UR))) (gT 2 (gNC (gN 1) (gNC (gN 2) (gN0)))) Gs)
noncomputable def Pn:xQ->Option XR:=ZI GJ Nj
noncomputable abbrev GI:Stmt:=top 27
noncomputable abbrev GH:List Str:=["thing", "copies", "lists"]
theorem GC:NmF GI GH:=KU (by decide +kernel)
noncomputable def Ni:SM:=
 UV (sIf (mOr (Kv (ZC (U3 (λd=>.bool (KD d "tuple")) (UP 0)))) (UY oNe (K6 0) (UU (.int 2))))
 (X1 "NoWishes" (UT (UU (.str "wishes")) (UT (UU .none) (UR))))
 (sNx))
 (UV (ZV (UP 0) (gT 2 (gNC (gN 1) (gNC (gN 2) (gN0)))))
 (UV (sX (Z5 1 Pn (UT (UP 1) (UR))) λ_ ρ=>.nx ρ)
 (sX (Z5 2 Pm (UT (UP 2) (UT (K6 1) (UR)))) λ_ ρ=>.nx ρ)))
noncomputable def SX:xQ->Option XR:=ZI GH Ni
noncomputable abbrev GN:Stmt:=top 29
noncomputable abbrev GM:List Str:=["wishes"]
theorem GK:NmF GN GM:=KU (by decide +kernel)
noncomputable def Pq:SM:=
 UV (sX (Z5 1 SX (UT (UP 0) (UR))) λ_ ρ=>.nx ρ)
 (sIf (Kv (Xl (oIB λi j=>decide (i<=j)) (oIB λi j=>decide (i<=j)) (UU (.int 1)) (Zc Y2 (UT (U5 0 (UU (.int 0))) (UR))) (UU (.int 6))))
 (X1 "NoJoin" (UT (UU (.str "copy by copy there would be no thing, or too many")) (UR)))
 (sNx))
noncomputable def Y5:xQ->Option XR:=ZI GM Pq
noncomputable abbrev HA:Stmt:=top 31
noncomputable abbrev Hz:List Str:=["wishes", "copies", "lists", "numbers", "told", "ranks", "by_copy"]
theorem Gd:NmF HA Hz:=KU (by decide +kernel)
noncomputable def xq:SM:=
 UV (Kz 6 (Z6 (Kx (UP 5)) 1 (gN 7) (UU xO) (U3 UC (YK (Kx (UP 7)) 2 (gN 8) (UU xO) (Kx (U5 3 (UP 8))) (gN 9) (UU xO) (UP 9)))))
 (KN 4 (U3 UC (Z6 (Kx (UP 6)) 1 (gN 7) (ZC (UP 7)) (UP 7))))
noncomputable def OS:SM:=
 UV (sX (Z5 1 Y5 (UT (UP 0) (UR))) λ_ ρ=>.nx ρ)
 (UV (ZV (UP 0) (gT 2 (gNC (gN 1) (gNC (gN 2) (gN0)))))
 (UV (Kh 3 (U4 1 ZM (UT (UP 1) (UR))))
 (UV (Kz 4 (U2 (UR) λxs=>if xs.length<=1000000 then UU xs else λ_=>.bad))
 (UV (Kq (Kx (UP 2)) (gN 5) xq)
 (Kc (Kp (UT (UY Ko (U7 (UT (UU (.int 1)) (UR))) (Zc Y2 (UT (UP 1) (UR)))) (UT (UP 4) (UR)))))))))
noncomputable def T6:xQ->Option XR:=ZI Hz OS
noncomputable abbrev GB:Stmt:=top 32
noncomputable abbrev GA:List Str:=["wishes", "dealing", "left", "told", "got"]
theorem Yv:FnNm (KI GB) GA ["numbers_of_copies", "look_at_copies_in_all"]:=KU (by decide +kernel)
noncomputable def xJ:SM:=
 KN 3 (mIf (U3 isNon (UP 4)) (UU .none) (We 2 (UP 4)))
noncomputable def Nk:SM:=
 UV (sX (Z5 1 Y5 (UT (UP 0) (UR))) λ_ ρ=>.nx ρ)
 (UV (Yq 2 (.lst (.lst .leaf)) (U4 1 Wd (UT (U5 0 (UU (.int 0))) (UR))))
 (UV (Kz 3 (U2 (UR) λxs=>if xs.length<=1000000 then UU xs else λ_=>.bad))
 (UV (Kq (Kx (UP 1)) (gN 4) xJ)
 (Kc (UP 3)))))
noncomputable def Se:xQ->Option XR:=ZI GA Nk
noncomputable abbrev Go:Stmt:=top 33
noncomputable abbrev Gn:List Str:=["wishes", "dealing", "things"]
theorem GF:NmF Go Gn:=KU (by decide +kernel)
noncomputable def Ng:SM:=
 UV (sX (Z5 1 Y5 (UT (UP 0) (UR))) λ_ ρ=>.nx ρ)
 (UV (Kz 2 (YK (YV (UT (U4 1 ZM (UT (U5 0 (UU (.int 0))) (UR))) (UR))) 3 (gT 2 (gNC (gN 3) (gNC (gN 4) (gN0)))) (UU xO) (Kx (UP 4)) (gN 5) (UU xO) (UP 3)))
 (Kc (U3 UC (Wp (Kx (UP 1)) 1 (gN 3) (UU xO) (mIf (U3 isNon (UP 3)) (UU .none) (U5 2 (UP 3)))))))
noncomputable def Sd:xQ->Option XR:=ZI Gn Ng
noncomputable abbrev Sav:Stmt:=top 44
noncomputable abbrev N_av:List Str:=["_law_number", "_law_wishes_here", "_law_dealing", "e"]
theorem Hav:NmF Sav N_av:=KU (by decide +kernel)
noncomputable def Te:SM:=
 UV (XA 3 "DealError" (sIf (Zu oEq 0 (UU (.int 0)))
 (sX (Z5 1 T6 (UT (UP 1) (UR))) λ_ ρ=>.nx ρ)
 (sIf (Zu oEq 0 (UU (.int 1)))
 (sX (Z5 2 Se (UT (UP 1) (UT (UP 2) (UR)))) λ_ ρ=>.nx ρ)
 (sX (Z5 2 Sd (UT (UP 1) (UT (UP 2) (UR)))) λ_ ρ=>.nx ρ))) (Kc (UP 3)))
 (Kc (UU .none))
noncomputable def XM:xQ->xT:=Kn N_av Te
noncomputable abbrev San:Stmt:=top 36
noncomputable abbrev N_an:List Str:=["_law_cell", "_law_salt", "_law_sizes", "_law_number", "_law_left", "_law_found", "_law_k", "_law_one"]
theorem Han:NmF San N_an:=KU (by decide +kernel)
noncomputable def Oc:SM:=
 sIf (ZJ (Zu (oIB λi j=>decide (j<=i)) 3 (UY XE (UU (.int 10)) (UU (.int 18)))) (Zu (oIB λi j=>decide (j<i)) 4 (UU (.int 0))))
 (UV (KN 5 (UY ZW (UP 4) (U5 2 (UP 6))))
 (Kh 4 (UY Xb (UP 4) (U5 2 (UP 6)))))
 (UV (Kh 7 (UY ZW (UY U9 (UY U9 (UY U9 (UP 3) (UY Ko (UU (.int 7919)) (UP 1))) (UY Ko (UY Ko (UU (.int 101)) (UP 6)) (UP 6))) (UP 6)) (UU (.int 2147483647))))
 (UV (Kh 7 (UY ZW (UY Ko (UP 7) (UU (.int 48271))) (UU (.int 2147483647))))
 (UV (Kh 7 (UY ZW (UY Ko (UY ZW (UY Ko (UP 7) (UP 7)) (UU (.int 2147483629))) (UU (.int 48271))) (UU (.int 2147483647))))
 (KN 5 (UY ZW (UY Xb (UP 7) (UU (.int 16))) (U5 2 (UP 6)))))))
noncomputable def Tk:SM:=
 UV (Kh 3 (Zc Sj (UT (UP 0) (UT (UY XB (YN (UU (.int 1))) (UP 0)) (UR)))))
 (UV (Kh 4 (UP 3))
 (UV (Kz 5 (U2 (UR) λxs=>if xs.length<=1000000 then UU xs else λ_=>.bad))
 (UV (Kq (Xr (UT (K6 2) (UR))) (gN 6) Oc)
 (Kc (UP 5)))))
noncomputable def Z1:xQ->xT:=Kn N_an Tk
noncomputable abbrev Saf:Stmt:=top 26
noncomputable abbrev N_af:List Str:=["lists", "things", "asker", "ranks"]
theorem Haf:NmF Saf N_af:=KU (by decide +kernel)
noncomputable def Mw:SM:=
 sIf (Kv (ZC (U4 2 YQ (UT (UP 3) (UT (UP 1) (UR))))))
 (VD)
 (sNx)
noncomputable def Tq:SM:=
 UV (sIf (mOr (Kv (ZC (U3 (λd=>.bool (KD d "list")) (UP 0)))) (Kv (Xl (oIB λi j=>decide (i<=j)) (oIB λi j=>decide (i<=j)) (UU (.int 1)) (K6 0) (UU (.int 7)))))
 (VD)
 (sNx))
 (Kq (YV (UT (UP 0) (UR))) (gT 2 (gNC (gN 2) (gNC (gN 3) (gN0)))) Mw)
noncomputable def WW:xQ->xT:=Kn N_af Tq
noncomputable abbrev Sac:Stmt:=top 23
noncomputable abbrev N_ac:List Str:=["copies", "number", "many"]
theorem Hac:NmF Sac N_ac:=KU (by decide +kernel)
noncomputable def Mv:SM:=
 sIf (Kv (ZC (U4 2 ZN (UT (UP 2) (UT (UY U9 (UU (.int 7)) (UU (.int 1))) (UR))))))
 (VD)
 (sNx)
noncomputable def Tr:SM:=
 UV (sIf (mOr (Kv (ZC (U3 (λd=>.bool (KD d "list")) (UP 0)))) (Kv (Xl (oIB λi j=>decide (i<=j)) (oIB λi j=>decide (i<=j)) (UU (.int 1)) (K6 0) (UU (.int 6)))))
 (VD)
 (sNx))
 (Kq (YV (UT (UP 0) (UR))) (gT 2 (gNC (gN 1) (gNC (gN 2) (gN0)))) Mv)
noncomputable def WX:xQ->xT:=Kn N_ac Tr
noncomputable abbrev Sag:Stmt:=top 27
noncomputable abbrev N_ag:List Str:=["thing", "copies", "lists"]
theorem Hag:NmF Sag N_ag:=KU (by decide +kernel)
noncomputable def Tp:SM:=
 UV (sIf (mOr (Kv (ZC (U3 (λd=>.bool (KD d "tuple")) (UP 0)))) (UY oNe (K6 0) (UU (.int 2))))
 (VD)
 (sNx))
 (UV (ZV (UP 0) (gT 2 (gNC (gN 1) (gNC (gN 2) (gN0)))))
 (UV (Xj (U4 1 WX (UT (UP 1) (UR))))
 (Xj (U4 2 WW (UT (UP 2) (UT (K6 1) (UR)))))))
noncomputable def WV:xQ->xT:=Kn N_ag Tp
noncomputable abbrev Sah:Stmt:=top 29
noncomputable abbrev N_ah:List Str:=["wishes"]
theorem Hah:NmF Sah N_ah:=KU (by decide +kernel)
noncomputable def To:SM:=
 UV (Xj (U4 1 WV (UT (UP 0) (UR))))
 (sIf (Kv (Xl (oIB λi j=>decide (i<=j)) (oIB λi j=>decide (i<=j)) (UU (.int 1)) (Zc Y2 (UT (U5 0 (UU (.int 0))) (UR))) (UU (.int 6))))
 (VD)
 (sNx))
noncomputable def Zn:xQ->xT:=Kn N_ah To
noncomputable abbrev Sal:Stmt:=top 33
noncomputable abbrev N_al:List Str:=["wishes", "dealing", "things"]
theorem Hal:NmF Sal N_al:=KU (by decide +kernel)
noncomputable def Tl:SM:=
 UV (Xj (U4 1 Zn (UT (UP 0) (UR))))
 (UV (Kz 2 (YK (YV (UT (U4 1 ZM (UT (U5 0 (UU (.int 0))) (UR))) (UR))) 3 (gT 2 (gNC (gN 3) (gNC (gN 4) (gN0)))) (UU xO) (Kx (UP 4)) (gN 5) (UU xO) (UP 3)))
 (Kc (U3 UC (Wp (Kx (UP 1)) 1 (gN 3) (UU xO) (mIf (U3 isNon (UP 3)) (UU .none) (U5 2 (UP 3)))))))
noncomputable def XS:xQ->xT:=Kn N_al Tl
noncomputable abbrev Sak:Stmt:=top 32
noncomputable abbrev N_ak:List Str:=["wishes", "dealing", "left", "told", "got"]
theorem Hak:FnNm (KI Sak) N_ak ["numbers_of_copies", "look_at_copies_in_all"]:=KU (by decide +kernel)
noncomputable def CN:SM:=
 KN 3 (mIf (U3 isNon (UP 4)) (UU .none) (We 2 (UP 4)))
noncomputable def Tn:SM:=
 UV (Xj (U4 1 Zn (UT (UP 0) (UR))))
 (UV (Yq 2 (.lst (.lst .leaf)) (U4 1 Wd (UT (U5 0 (UU (.int 0))) (UR))))
 (UV (Kz 3 (U2 (UR) λxs=>if xs.length<=1000000 then UU xs else λ_=>.bad))
 (UV (Kq (Kx (UP 1)) (gN 4) CN)
 (Kc (UP 3)))))
noncomputable def WU:xQ->xT:=Kn N_ak Tn
noncomputable abbrev Saz:Stmt:=top 48
noncomputable abbrev N_az:List Str:=["_law_dealing", "_law_owners_here", "_law_left", "_law_found", "_law_what", "_law_some"]
theorem Haz:NmF Saz N_az:=KU (by decide +kernel)
noncomputable def Mu:SM:=
 UV (Kh 5 (UY U9 (U3 UC (Z6 (Kx (UP 2)) 1 (gN 6) (UY oEq (U5 1 (UP 6)) (UP 4)) (UP 6))) (U7 (UT (UU .none) (UR)))))
 (UV (Kz 2 (Z6 (Kx (UP 2)) 1 (gN 6) (Zu oNe 6 (U5 5 (UU (.int 0)))) (UP 6)))
 (KN 3 (U5 5 (UU (.int 0)))))
noncomputable def V9:SM:=
 UV (Kz 2 (U2 (UT (K6 1) (UR)) λxs=>U1 (Wi xs)))
 (UV (Kz 3 (U2 (UR) λxs=>if xs.length<=1000000 then UU xs else λ_=>.bad))
 (UV (Kq (Kx (UP 0)) (gN 4) Mu)
 (Kc (UP 3))))
noncomputable def WM:xQ->xT:=Kn N_az V9
noncomputable abbrev Gm:Stmt:=top 33
noncomputable abbrev Gk:List Str:=["wishes", "dealing", "things"]
theorem GE:NmF Gm Gk:=KU (by decide +kernel)
noncomputable def Pl:SM:=
 UV (Xj (U4 1 Zn (UT (UP 0) (UR))))
 (UV (Kz 2 (YK (YV (UT (U4 1 ZM (UT (U5 0 (UU (.int 0))) (UR))) (UR))) 3 (gT 2 (gNC (gN 3) (gNC (gN 4) (gN0)))) (UU xO) (Kx (UP 4)) (gN 5) (UU xO) (UP 3)))
 (sNx))
noncomputable def xr:M xQ:=
 Wp (Kx (UP 1)) 1 (gN 3) (UU xO) (mIf (U3 isNon (UP 3)) (UU .none) (U5 2 (UP 3)))
noncomputable def SU:xQ->Option xQ:=Y9 Gk Pl xr
noncomputable abbrev Gz:Stmt:=top 32
noncomputable abbrev Gy:List Str:=["wishes", "dealing", "left", "told", "got"]
theorem Yu:FnNm (KI Gz) Gy ["numbers_of_copies", "look_at_copies_in_all"]:=KU (by decide +kernel)
noncomputable def xI:SM:=
 KN 3 (mIf (U3 isNon (UP 4)) (UU .none) (We 2 (UP 4)))
noncomputable def Pp:SM:=
 UV (Xj (U4 1 Zn (UT (UP 0) (UR))))
 (UV (Yq 2 (.lst (.lst .leaf)) (U4 1 Wd (UT (U5 0 (UU (.int 0))) (UR))))
 (UV (Kz 3 (U2 (UR) λxs=>if xs.length<=1000000 then UU xs else λ_=>.bad))
 (UV (Kq (Kx (UP 1)) (gN 4) xI)
 (sNx))))
noncomputable def xA:M xQ:=
 Yd 3
noncomputable def Po:xQ->Option xQ:=Y9 Gy Pp xA
noncomputable abbrev Sba:Stmt:=top 49
noncomputable abbrev N_ba:List Str:=["_law_wishes_here", "_law_owners_here", "_law_dealing", "_law_other", "_law_single_here", "_law_found", "_law_back", "_law_kept", "_law_due_here", "_law_asker", "_law_copy"]
theorem Hba:NmF Sba N_ba:=KU (by decide +kernel)
noncomputable def Mt:SM:=
 sIf (U3 (λd=>!isNon d) (UP 10))
 (TD 8 (UP 9) (U5 1 (UP 10)))
 (sNx)
noncomputable def V8:SM:=
 UV (Kh 4 (U4 2 WM (UT (UP 2) (UT (UP 1) (UR)))))
 (UV (Kz 5 (Vt 2 Po (UT (UP 0) (UT (UP 2) (UR)))))
 (UV (sIf (W5 (mOr (Zu oNe 5 (UP 4)) (UY oNe (U4 2 XS (UT (UP 0) (UT (UP 5) (UR)))) (UP 2))))
 (Kc (UU (.bool xP)))
 (sNx))
 (UV (Zy 5 [] .clr)
 (UV (sIf (UY oNe (U4 2 WU (UT (UP 0) (UT (UP 2) (UR)))) (UP 4))
 (Kc (UU (.bool xP)))
 (sNx))
 (UV (Kz 6 (Vt 2 SU (UT (UP 0) (UT (UP 4) (UR)))))
 (UV (KN 6 (UU .none))
 (UV (Kz 7 (U2 (UT (U3 UC (VC 2)) (UT (U3 UC (VC 3)) (UR))) λxs=>if xs.length<=1000000 then UU xs else λ_=>.bad))
 (UV (Kz 6 (Vt 2 SU (UT (UP 0) (UT (UP 3) (UR)))))
 (UV (KN 6 (UU .none))
 (UV (sIf (Vu oNe (U7 (UT (UP 2) (UT (UP 3) (UR)))) 7)
 (Kc (UU (.bool xP)))
 (sNx))
 (UV (Kz 8 (VC 3))
 (UV (Kq (YV (UT (UP 3) (UR))) (gT 2 (gNC (gN 9) (gNC (gN 10) (gN0)))) Mt)
 (Kc (U3 UD (Vu oEq (U4 2 XS (UT (UP 0) (UT (UP 3) (UR)))) 8)))))))))))))))
noncomputable def WL:xQ->xT:=Kn N_ba V8
noncomputable abbrev Sap:Stmt:=top 38
noncomputable abbrev N_ap:List Str:=["_law_wishes_here", "_law_asker"]
theorem Hap:NmF Sap N_ap:=KU (by decide +kernel)
noncomputable def Ti:SM:=
 Kc (Zc Rn (UT (Zc TC (UT (UY oIx (U5 0 (UU (.int 1))) (UP 1)) (UT (U7 (UR)) (UR)))) (UR)))
noncomputable def WS:xQ->xT:=Kn N_ap Ti
noncomputable abbrev Saq:Stmt:=top 39
noncomputable abbrev N_aq:List Str:=["_law_wishes_here", "_law_cell", "_law_salt", "_law_left", "_law_digits", "_law_found", "_law_asker", "_law_some", "_law_thing"]
theorem Haq:NmF Saq N_aq:=KU (by decide +kernel)
noncomputable def Ob:SM:=
 UV (Kh 7 (UY U9 (U3 UC (Wp (Kx (U4 2 WS (UT (UP 0) (UT (UP 6) (UR))))) 1 (gN 9) (UY (oIB λi j=>decide (j<i)) (U5 3 (UP 9)) (UU (.int 0))) (UP 9))) (U7 (UT (UU .none) (UR)))))
 (UV (Kh 8 (U5 7 (UY ZW (U5 4 (UP 6)) (K6 7))))
 (UV (sIf (U3 (λd=>!isNon d) (UP 8))
 (TD 3 (UP 8) (UY XB (U5 3 (UP 8)) (UU (.int 1))))
 (sNx))
 (KN 5 (UP 8))))
noncomputable def Th:SM:=
 UV (Kz 3 (U2 (UT (U5 0 (UU (.int 0))) (UR)) λxs=>U1 (XU xs)))
 (UV (Kh 4 (U4 3 Z1 (UT (UP 1) (UT (UP 2) (UT (UY Ko (U7 (UT (UU (.int 61)) (UR))) (Zc KB (UT (U5 0 (UU (.int 1))) (UR)))) (UR))))))
 (UV (Kz 5 (U2 (UR) λxs=>if xs.length<=1000000 then UU xs else λ_=>.bad))
 (UV (Kq (Xr (UT (Zc KB (UT (U5 0 (UU (.int 1))) (UR))) (UR))) (gN 6) Ob)
 (Kc (UP 5)))))
noncomputable def XQ:xQ->xT:=Kn N_aq Th
noncomputable abbrev OR:Stmt:=top 31
noncomputable abbrev OQ:List Str:=["wishes", "copies", "lists", "numbers", "told", "ranks", "by_copy"]
theorem Nd:NmF OR OQ:=KU (by decide +kernel)
noncomputable def Gj:SM:=
 UV (Yq 6 (.lst (.lst .leaf)) (Wn (Kx (UP 5)) 1 (gN 7) (UU xO) (U3 UC (YK (Kx (UP 7)) 2 (gN 8) (UU xO) (Kx (U5 3 (UP 8))) (gN 9) (UU xO) (UP 9)))))
 (Vr 4 (.lst (.lst .leaf)) (Wm 6))
noncomputable def O8:SM:=
 UV (Xj (U4 1 Zn (UT (UP 0) (UR))))
 (UV (ZV (UP 0) (gT 2 (gNC (gN 1) (gNC (gN 2) (gN0)))))
 (UV (Kh 3 (U4 1 ZM (UT (UP 1) (UR))))
 (UV (Yq 4 (.lst (.lst (.lst .leaf))) (UU (.list [])))
 (UV (Kq (Kx (UP 2)) (gN 5) Gj)
 (sNx)))))
noncomputable abbrev jo:M D:=
 TF (Sk (U7 (UT (UU (.int 1)) (UR))) (Zc Y2 (UT (UP 1) (UR)))) 4 (.lst (.lst (.lst .leaf)))
noncomputable def SS:xQ->xT:=Vs OQ O8 jo
noncomputable abbrev F_aj:xQ->xT:=SS
noncomputable abbrev Say:Stmt:=top 47
noncomputable abbrev N_ay:List Str:=["_law_wishes_here", "_law_owners_here", "_law_lists", "_law_ranks", "_law_rows", "_law_rank", "_law_row", "_law_what"]
theorem Hay:NmF Say N_ay:=KU (by decide +kernel)
noncomputable def Ms:SM:=
 Kh 6 (UY U9 (UP 6) (U3 UC (Z6 (Xr (UT (K6 1) (UR))) 1 (gN 8) (UY oEq (U5 1 (UP 8)) (UP 7)) (UP 8))))
noncomputable def Mr:SM:=
 UV (Kz 6 (U2 (UR) λxs=>if xs.length<=1000000 then UU xs else λ_=>.bad))
 (UV (Kq (Kx (UP 5)) (gN 7) Ms)
 (KN 4 (UP 6)))
noncomputable def Mq:SM:=
 UV (Kz 4 (U2 (UR) λxs=>if xs.length<=1000000 then UU xs else λ_=>.bad))
 (UV (Kq (Kx (UP 3)) (gN 5) Mr)
 (KN 2 (U3 UC (Z6 (Kx (UP 4)) 1 (gN 8) (Zu oNe 8 (U7 (UR))) (UP 8)))))
noncomputable def Ta:SM:=
 UV (Kz 2 (U2 (UR) λxs=>if xs.length<=1000000 then UU xs else λ_=>.bad))
 (UV (Kq (Kx (U5 0 (UU (.int 1)))) (gN 3) Mq)
 (Kc (Kp (UT (UY Ko (U7 (UT (UU (.int 1)) (UR))) (K6 1)) (UT (UP 2) (UR))))))
noncomputable def WN:xQ->xT:=Kn N_ay Ta
noncomputable abbrev Sax:Stmt:=top 46
noncomputable abbrev N_ax:List Str:=["_law_wishes_here", "_law_found", "_law_what", "_law_number"]
theorem Hax:NmF Sax N_ax:=KU (by decide +kernel)
noncomputable def Mp:SM:=
 Kh 1 (UY U9 (UP 1) (UY Ko (U7 (UT (UP 2) (UR))) (UP 3)))
noncomputable def Tc:SM:=
 UV (Kz 1 (U2 (UR) λxs=>if xs.length<=1000000 then UU xs else λ_=>.bad))
 (UV (Kq (YV (UT (U5 0 (UU (.int 0))) (UR))) (gT 2 (gNC (gN 2) (gNC (gN 3) (gN0)))) Mp)
 (Kc (UP 1)))
noncomputable def WO:xQ->xT:=Kn N_ax Tc
noncomputable abbrev Saw:Stmt:=top 45
noncomputable abbrev N_aw:List Str:=["_law_wishes_here", "_law_copies", "_law_k"]
theorem Haw:NmF Saw N_aw:=KU (by decide +kernel)
noncomputable def Mo:SM:=
 TD 1 (UP 2) (Sv (Zc Rg (UT (U5 1 (UP 2)) (UT (Zc Sj (UT (UU (.int 0)) (UT (UY XB (UU (.int 6)) (Zc Y2 (UT (K3 (UP 1) (UU xN) (U2 (UP 2) λx=>U1 (Z7 x))) (UR)))) (UR)))) (UR)))))
noncomputable def Td:SM:=
 UV (Kz 1 (U2 (UT (U5 0 (UU (.int 0))) (UR)) λxs=>U1 (XU xs)))
 (UV (Kq (Xr (UT (K6 1) (UR))) (gN 2) Mo)
 (Kc (Kp (UT (UP 1) (UT (U5 0 (UU (.int 1))) (UR))))))
noncomputable def WP:xQ->xT:=Kn N_aw Td
noncomputable abbrev Sao:Stmt:=top 37
noncomputable abbrev N_ao:List Str:=["_law_script", "_law_at", "_law_most_things", "_law_most_askers", "_law_most_ranks", "_law_digits", "_law_copies", "_law_lists", "_law_asker", "_law_cell", "_law_places", "_law_ranks", "_law_rank", "_law_row"]
theorem Hao:NmF Sao N_ao:=KU (by decide +kernel)
noncomputable def Oa:SM:=
 UV (Kz 13 (Z6 (Xr (UT (K6 6) (UR))) 1 (gN 14) (UY oEq (U5 10 (UP 14)) (UP 12)) (UP 14)))
 (sIf (Zu oNe 13 (U7 (UR)))
 (KN 11 (UY oIx (U7 (UT (UP 13) (UT (WJ (UP 13) (UU xN) (UU xN) (U2 (YN (UU (.int 1))) λx=>U1 (Z7 x))) (UR)))) (U5 10 (YN (UU (.int 1))))))
 (sNx))
noncomputable def P9:SM:=
 UV (Kh 9 (U4 2 YB (UT (UP 0) (UT (UY U9 (UY U9 (UP 1) (UU (.int 1))) (UP 8)) (UR)))))
 (UV (Kh 10 (U4 3 Z1 (UT (UP 9) (UT (UY U9 (UY U9 (UY Ko (UU (.int 11)) (UP 1)) (UY Ko (UU (.int 3)) (UP 8))) (UU (.int 1))) (UT (UY U9 (UY Ko (U7 (UT (UY U9 (UP 4) (UU (.int 1))) (UR))) (UP 2)) (U7 (UT (UU (.int 2)) (UR)))) (UR))))))
 (UV (Kz 11 (U2 (UR) λxs=>if xs.length<=1000000 then UU xs else λ_=>.bad))
 (UV (Kq (Rf (UT (UU (.int 1)) (UT (UY U9 (UP 4) (UU (.int 1))) (UR)))) (gN 12) Oa)
 (KN 7 (UP 11)))))
noncomputable def Tj:SM:=
 UV (Kh 5 (U4 3 Z1 (UT (U4 2 YB (UT (UP 0) (UT (UP 1) (UR)))) (UT (UP 1) (UT (UY U9 (U7 (UT (UP 2) (UT (UP 3) (UR)))) (UY Ko (U7 (UT (UU (.int 11)) (UR))) (UP 2))) (UR))))))
 (UV (Kz 6 (Z6 (Kx (K3 (UP 5) (U2 (UU (.int 2)) λx=>U1 (Z7 x)) (U2 (UY U9 (UU (.int 3)) (U5 5 (UU (.int 0)))) λx=>U1 (Z7 x)))) 1 (gN 14) (UU xO) (UY oIx (U7 (UT (UU (.int 1)) (UT (UU (.int 1)) (UT (UU (.int 2)) (UT (UU (.int 0)) (UT (UU (.int 3)) (UT (UU (.int 7)) (UT (UU (.int 1)) (UT (UU (.int 4)) (UT (UU (.int 5)) (UT (UU (.int 6)) (UT (UU (.int 1)) (UR))))))))))))) (UP 14))))
 (UV (Kz 7 (U2 (UR) λxs=>if xs.length<=1000000 then UU xs else λ_=>.bad))
 (UV (Kq (Xr (UT (UY U9 (UU (.int 1)) (U5 5 (UU (.int 1)))) (UR))) (gN 8) P9)
 (Kc (Kp (UT (UP 6) (UT (UP 7) (UR))))))))
noncomputable def WT:xQ->xT:=Kn N_ao Tj
noncomputable abbrev Sbb:Stmt:=top 50
noncomputable abbrev N_bb:List Str:=["_law_script", "_law_wishes_here", "_law_kept", "_law_owners_here", "_law_good", "_law_due_here", "_law_found", "_law_ranks", "_law_rank", "_law_k", "_law_cell", "_law_dealing", "_law_other", "_law_place_here", "_law_number", "_law_caught_here"]
theorem Hbb:NmF Sbb N_bb:=KU (by decide +kernel)
noncomputable def Mn:SM:=
 UV (sIf (Kv (ZC (UP 4)))
 (UV (Kh 15 (U4 3 XM (UT (UP 14) (UT (UP 1) (UT (UP 11) (UR))))))
 (sIf (UY oNe (U4 1 Xh (UT (UP 15) (UR))) (UU (.str "join")))
 (Kc (UU (.bool xP)))
 (sNx)))
 (sNx))
 (UV (Kh 15 (U4 3 XM (UT (UP 14) (UT (U4 2 WR (UT (UP 1) (UT (UP 13) (UR)))) (UT (UP 11) (UR))))))
 (UV (sIf (UY oNe (U4 1 Xh (UT (UP 15) (UR))) (UU (.str "wishes")))
 (Kc (UU (.bool xP)))
 (sNx))
 (sIf (UY oNe (U4 1 XN (UT (UP 15) (UR))) (U4 2 WQ (UT (UP 1) (UT (UP 13) (UR)))))
 (Kc (UU (.bool xP)))
 (sNx))))
noncomputable def ML:SM:=
 UV (Kh 11 (U4 3 XQ (UT (UP 1) (UT (UP 10) (UT (UY U9 (UU (.int 20)) (UP 9)) (UR))))))
 (UV (Kh 12 (U4 3 XQ (UT (UP 5) (UT (UP 10) (UT (UY U9 (UU (.int 60)) (UP 9)) (UR))))))
 (UV (sIf (ZJ (ZC (UP 4)) (Kv (ZC (U4 4 WL (UT (UP 1) (UT (UP 3) (UT (UP 11) (UT (UP 12) (UR)))))))))
 (Kc (UU (.bool xP)))
 (sNx))
 (UV (Kh 13 (UY oIx (U4 3 Z1 (UT (UP 10) (UT (UY U9 (UU (.int 100)) (UP 9)) (UT (U7 (UT (UU (.int 16)) (UR))) (UR))))) (UU (.int 0))))
 (Kq (Xr (UT (UU (.int 3)) (UR))) (gN 14) Mn))))
noncomputable def V7:SM:=
 UV (Kh 1 (U4 5 WT (UT (UP 0) (UT (UU (.int 0)) (UT (UU (.int 6)) (UT (UU (.int 7)) (UT (UU (.int 5)) (UR))))))))
 (UV (sIf (UY oEq (UY oIx (U4 3 Z1 (UT (U4 2 YB (UT (UP 0) (UT (UU (.int 8)) (UR)))) (UT (UU (.int 8)) (UT (U7 (UT (UU (.int 2)) (UR))) (UR))))) (UU (.int 0))) (UU (.int 1)))
 (Kh 1 (U4 1 WP (UT (UP 1) (UR))))
 (sNx))
 (UV (Kh 2 (Zc Vv (UT (UP 1) (UR))))
 (UV (Kh 3 (U4 1 WO (UT (UP 1) (UR))))
 (UV (Kh 4 (Vo (U3 UD (UY (oIB λi j=>decide (i<=j)) (UU (.int 1)) (K6 3))) (U3 UD (UY (oIB λi j=>decide (i<=j)) (K6 3) (UU (.int 6))))))
 (UV (Kh 5 (U4 2 WN (UT (UP 1) (UT (UP 3) (UR)))))
 (UV (sIf (ZC (UP 4))
 (UV (Yq 6 (.tup [.lst .leaf,.lst (.lst (.lst .leaf))]) (U4 1 SS (UT (UP 1) (UR))))
 (UV (sIf (W5 (Zu oNe 6 (UP 5)))
 (Kc (UU (.bool xP)))
 (sNx))
 (UV (Zy 6 [0] (.app (.int 0)))
 (UV (Tz 6 [1,0] 0)
 (UV (sIf (W5 (UY oNe (K3 (U5 6 (UU (.int 1))) (U2 (UU (.int 1)) λx=>U1 (Z7 x)) (UU xN)) (K3 (U5 5 (UU (.int 1))) (U2 (UU (.int 1)) λx=>U1 (Z7 x)) (UU xN))))
 (Kc (UU (.bool xP)))
 (sNx))
 (UV (TH 6 (.tup [.lst .leaf,.lst (.lst (.lst .leaf))]) (7::((8::[])++[])) (kF (kC (kF kA) kA)) 8)
 (sIf (UY oNe (U4 1 F_aj (UT (UP 1) (UR))) (UP 5))
 (Kc (UU (.bool xP)))
 (sNx))))))))
 (sNx))
 (UV (Kq (YV (UT (UY U9 (U7 (UT (U4 2 YB (UT (UP 0) (UT (UU (.int 0)) (UR)))) (UR))) (K3 (UP 0) (U2 (UU (.int 9)) λx=>U1 (Z7 x)) (U2 (UU (.int 30)) λx=>U1 (Z7 x)))) (UR))) (gT 2 (gNC (gN 9) (gNC (gN 10) (gN0)))) ML)
 (Kc (U3 UD (UY oEq (Zc Vv (UT (UP 1) (UR))) (UP 2)))))))))))
noncomputable def WK:xQ->xT:=Kn N_bb V7
set_option hygiene false in
local macro_rules | `(tactic| walk_at "g")=>`(tactic| first | exact gA nm rfl | exact Ei rfl)
set_option hygiene false in
local macro_rules | `(tactic| walk_at "v")=>`(tactic| first | exact pq nm _ | exact pvb _)
set_option hygiene false in
local macro_rules | `(tactic| walk_at "b")=>`(tactic| first | ((with_reducible show OpB _ (compareOp CmpOp.Eq) _);first | exact B_eq hu) | ((with_reducible show OpB _ (compareOp CmpOp.NotEq) _);first | exact B_ne hu) | ((with_reducible show OpB _ (compareOp CmpOp.Lt) _);first | exact B_lt) | ((with_reducible show OpB _ (compareOp CmpOp.LtE) _);first | exact B_le) | ((with_reducible show OpB _ (compareOp CmpOp.Gt) _);first | exact B_gt) | ((with_reducible show OpB _ (compareOp CmpOp.GtE) _);first | exact B_ge))
set_option hygiene false in
local macro_rules | `(tactic| walk_at "m")=>`(tactic| first | exact Du _ | exact rfl)
set_option hygiene false in
local macro_rules | `(tactic| walk_at "k")=>`(tactic| first | exact AF | exact qE | exact qD)
set_option hygiene false in
local macro_rules | `(tactic| walk_at "w")=>`(tactic| first | exact PassesOwn.never | exact LX)
set_option hygiene false in
local macro_rules | `(tactic| walk_at "x")=>`(tactic| first | assumption | exact Lo)
set_option hygiene false in
local macro_rules | `(tactic| walk_at "c")=>`(tactic| first | exact T.c_MOST_ASKERS | exact T.c_MOST_COPIES | exact T.c_MOST_RANKS | exact T.c_MOST_THINGS)
set_option hygiene false in
local macro_rules | `(tactic| walk_at "ck")=>`(tactic| first | exact T.x_DealError | exact T.x_NoAim | exact T.x_NoBook | exact T.x_NoChange | exact T.x_NoDeed | exact T.x_NoJoin | exact T.x_NoName | exact T.x_NoNumbering | exact T.x_NoPlace | exact T.x_NoRow | exact T.x_NoText | exact T.x_NoWay | exact T.x_NoWishes | exact T.x_TooMany)
set_option hygiene false in
local macro_rules | `(tactic| walk_at "e")=>`(tactic| first | ((with_reducible show PE _ (Expr.Name _ _) _);first | exact YG (pq nm _) | exact YG (pvb _) | exact FF (by walk_at "g") (by walk_at "c")) | ((with_reducible show PE _ (Expr.Constant _ _ _) _);first | exact Ry | exact RN | exact DO | exact Ba) | ((with_reducible show PE _ (Expr.Subscript _ _ _) _);first | refine RL (by walk_at "v") ?_ (fun _ _=>rfl) | refine jH ?_ ?_ ?_ | refine D9 ?_ ?_ ?_ ?_ | refine Es ?_ ?_ (fun _ _=>rfl)) | ((with_reducible show PE _ (Expr.BinOp _ Operator.Add _ _) _);first | refine Vp Nu ?_ ?_) | ((with_reducible show PE _ (Expr.BinOp _ Operator.Sub _ _) _);first | refine Vp FN ?_ ?_) | ((with_reducible show PE _ (Expr.BinOp _ Operator.Mult _ _) _);first | refine Vp Nt ?_ ?_) | ((with_reducible show PE _ (Expr.BinOp _ Operator.Mod _ _) _);first | refine Vp FM ?_ ?_) | ((with_reducible show PE _ (Expr.BinOp _ Operator.FloorDiv _ _) _);first | refine Vp FL ?_ ?_) | ((with_reducible show PE _ (Expr.BinOp _ Operator.Pow _ _) _);first | refine Vp FJ ?_ ?_) | ((with_reducible show PE _ (Expr.Call (Expr.Name "len" _) _ _ _) _);first | refine AJ (by walk_at "g") T.b_len (by walk_at "v") | refine Vl Nr (by walk_at "g") T.b_len boot_len ?_ | refine jG rfl (by walk_at "g") T.b_len (by walk_at "g") T.b_set ?_) | ((with_reducible show PE _ (Expr.Call (Expr.Name "max" _) _ _ _) _);first | refine Vl (Er rfl) (by walk_at "g") T.b_max boot_max ?_) | ((with_reducible show PE _ (Expr.Call (Expr.Name "min" _) _ _ _) _);first | refine Vl (Ep rfl) (by walk_at "g") T.b_min boot_min ?_) | ((with_reducible show PE _ (Expr.Call (Expr.Name "sorted" _) _ _ _) _);first | refine Vl EM (by walk_at "g") T.b_sorted PyProof.Rows.boot_sorted ?_) | ((with_reducible show PE _ (Expr.Call (Expr.Name "sum" _) _ _ _) _);first | refine Vl (EN rfl) (by walk_at "g") T.b_sum PyProof.Rows.boot_sum ?_ | refine Vl (ES rfl) (by walk_at "g") T.b_sum PyProof.Rows.boot_sum ?_) | ((with_reducible show PE _ (Expr.Call (Expr.Name "all" _) _ _ _) _);first | refine Vl (FG rfl) (by walk_at "g") T.b_all PyProof.Rows.boot_all ?_) | ((with_reducible show PE _ (Expr.Call (Expr.Name "repr" _) _ _ _) _);first | refine Vl (EL hu hgd) (by walk_at "g") T.b_repr js ?_) | ((with_reducible show PE _ (Expr.Call (Expr.Name "int" _) _ _ _) _);first | refine HI Ec (by walk_at "g") T.b_int PyProof.Rows.boot_int ?_) | ((with_reducible show PE _ (Expr.Call (Expr.Name "tuple" _) _ _ _) _);first | refine HI F6 (by walk_at "g") T.b_tuple kr ?_) | ((with_reducible show PE _ (Expr.Call (Expr.Name "isinstance" _) [_,Expr.Name "int" _] _ _) _);first | refine Pj (c := "int") (by decide) (by walk_at "g") T.b_isinstance (by walk_at "g") T.b_int (by decide +kernel) ?_ (by decide) (by decide)) | ((with_reducible show PE _ (Expr.Call (Expr.Name "isinstance" _) [_,Expr.Name "list" _] _ _) _);first | refine Pj (c := "list") (by decide) (by walk_at "g") T.b_isinstance (by walk_at "g") T.b_list (by decide +kernel) ?_ (by decide) (by decide)) | ((with_reducible show PE _ (Expr.Call (Expr.Name "isinstance" _) [_,Expr.Name "tuple" _] _ _) _);first | refine Pj (c := "tuple") (by decide) (by walk_at "g") T.b_isinstance (by walk_at "g") T.b_tuple (by decide +kernel) ?_ (by decide) (by decide)) | ((with_reducible show PE _ (Expr.Call (Expr.Name "isinstance" _) [_,Expr.Name "bool" _] _ _) _);first | refine Pj (c := "bool") (by decide) (by walk_at "g") T.b_isinstance (by walk_at "g") T.b_bool (by decide +kernel) ?_ (by decide) (by decide)) | ((with_reducible show PE _ (Expr.Call (Expr.Name "isinstance" _) _ _ _) _);first | refine CF (by walk_at "g") T.b_isinstance (by walk_at "g") T.b_ValueError ?_ | refine CH (by walk_at "ck") (by walk_at "g") T.b_isinstance (by walk_at "g") ?_) | ((with_reducible show PE _ (Expr.Call (Expr.Name _ _) _ _ _) _);first | refine pdf (by assumption) hr (by walk_at "g") ?_) | ((with_reducible show PE _ (Expr.Call _ _ _ _) _);first | refine ja hu ?_ ?_ | refine jr ?_ ?_) | refine MP ?_ | refine MQ ?_ | ((with_reducible show PE _ (Expr.Compare _ _ _ _) _);first | refine DV (by walk_at "b") ?_ (by walk_at "v") (by walk_at "m") | refine C4 (by walk_at "b") ?_ ?_ (by walk_at "m") | refine qN (by walk_at "b") (by walk_at "b") ?_ ?_ ?_) | refine Cc ?_ | refine Bo ?_ | refine Bu ?_ | refine Bw ?_ ?_ | refine Bv ?_ | refine Pd ?_ ?_ ?_ | refine BP ?_ | refine BL fun B' G'=>?_)
set_option hygiene false in
local macro_rules | `(tactic| walk_at "t")=>`(tactic| first | ((with_reducible show PT _ _ (tBo _ _ _ (W5 _)));refine BN fun B' G'=>?_) | ((with_reducible show PT _ (Expr.Compare _ _ _ _) _);first | refine RM ?_ | refine AM ?_ | refine Ca (by walk_at "b") (by walk_at "v") ?_ (by walk_at "m") | refine DW (by walk_at "b") ?_ (by walk_at "v") (by walk_at "m") | refine C5 (by walk_at "b") ?_ ?_ (by walk_at "m") | refine qO (by walk_at "b") (by walk_at "b") ?_ ?_ ?_) | ((with_reducible show PT _ (Expr.BoolOp _ _ _) _);refine PW.pt ?_) | refine CZ ?_ | refine Bx ?_)
set_option hygiene false in
local macro_rules | `(tactic| walk_at "l")=>`(tactic| first | refine F2 nm (by walk_at "k") rfl ?_ ?_ (by decide +kernel) | refine Ey (by walk_at "k") rfl ?_ ?_ (by decide +kernel) | refine je (by walk_at "g") T.b_list (by walk_at "v") | refine AB (by walk_at "g") T.b_list ?_ | refine qS rfl (by walk_at "g") T.b_list (by walk_at "g") T.b_range ?_ | refine TQ ?_ | refine A7 (by assumption) hr (by walk_at "g") ?_ | refine M6 ?_ ?_ | refine Cq ?_ ?_ | refine MA (by walk_at "v"))
set_option hygiene false in
local macro_rules | `(tactic| walk_at "i")=>`(tactic| first | refine qM (by walk_at "g") T.b_range ?_ | refine qL (by walk_at "g") T.b_range ?_ | refine Bp (by walk_at "g") T.b_enumerate ?_ | refine Rv ?_)
set_option hygiene false in
local macro_rules | `(tactic| walk_at "s")=>`(tactic| first | ((with_reducible show PS _ _ (tS _ _ _ _ (Vr _ _ _)));refine Co (by walk_at "v") ?_) | ((with_reducible show PS _ _ (tS _ _ _ _ (Tz _ _ _)));refine CQ (by first | exact Xw (pq nm _) | exact Va (path:=[]) (Xw (pq nm _)) | exact Va (path:=[_]) (Va (path:=[]) (Xw (pq nm _))))) | ((with_reducible show PS _ _ (tS _ _ _ _ (Zy _ _ MOp.clr)));refine EC (by first | exact Xw (pq nm _) | exact Va (path:=[]) (Xw (pq nm _)) | exact Va (path:=[_]) (Va (path:=[]) (Xw (pq nm _))))) | ((with_reducible show PS _ (Stmt.Assign [Expr.Name _ _] _ _) _);first | refine aSet nm ?_ | refine GW nm (by walk_at "k") rfl ?_ ?_ (by decide +kernel) | refine Nv nm ?_ | refine F3 nm ?_) | ((with_reducible show PS _ (Stmt.Assign _ _ _) _);first | refine El ?_ ?_ | refine Cb ?_ (by walk_at "v") ?_) | refine FI ?_ ?_ ?_ | refine PL ?_ | refine Rw (by walk_at "w") rfl ?_ ?_ ?_ | ((with_reducible show PS _ (Stmt.Expr _ _) _);first | refine Rx (by walk_at "v") ?_ | refine LM ?_ | refine P1 ?_) | refine aAug nm D1 ?_ | exact AH | refine BQ (by assumption) hr rfl (by walk_at "x") (by walk_at "g") ?_ | refine EJ (by walk_at "ck") (by walk_at "g") (nq nm) rfl rfl (fun KX' W pn hw=>?_) (fun a=>?_))
set_option hygiene false in
local macro_rules | `(tactic| walk_at "d")=>`(tactic| (have hu:=hr.units;have hgd:=hr.gd;repeat' (first | ((with_reducible show PSs _ (ZP _) _);show PSs _ (_ :: _) _) | ((with_reducible show PSs _ (Stmt.Assign _ _ _ :: _ :: _) _);generalize hS:(_ :: _:List Stmt)=sts;refine BJ hS ?_ ?_) | ((with_reducible show PS _ (Stmt.Assign [Expr.Name _ _] (Expr.List _ _) _) (tS _ _ _ _ (Kz _ _)));generalize hS:Stmt.Assign _ _ _=st;refine Ex hS nm ?_) | ((with_reducible show PS _ (Stmt.Assign [Expr.Name _ _] (Expr.BinOp _ _ _ _) _) (tS _ _ _ _ (Kh _ _)));generalize hS:Stmt.Assign _ _ _=st;refine GV hS nm ?_) | ((with_reducible show PE _ (Expr.List _ _) _);generalize hS:Expr.List _ _=e;first | refine BI hS ?_ | refine BH hS ?_) | ((with_reducible show PE _ (Expr.Tuple _ _ _) _);generalize hS:Expr.Tuple _ _ _=e;refine BG hS ?_) | ((with_reducible show PE _ (Expr.BinOp _ Operator.Add _ _) (tD _ _ _ _));generalize hS:Expr.BinOp _ _ _ _=e;refine NW Nu hS ?_ ?_) | ((with_reducible show PE _ (Expr.BinOp _ Operator.Mult _ _) (tD _ _ _ _));generalize hS:Expr.BinOp _ _ _ _=e;refine NW Nt hS ?_ ?_) | ((with_reducible show PA _ (_ :: _) (tDs _ _ _ _));generalize hS:(_ :: _:List Expr)=es;refine A5 hS ?_ ?_) | ((with_reducible show PSs _ _ (tS _ _ _ _ (UV (TH _ _ _ _ _) _)));refine BD (top:=4) ?_) | ((with_reducible show PS _ (Stmt.Assign [Expr.Name _ _] (Expr.ListComp _ _ _ _) _) (tS _ _ _ _ (Yq _ _ _))));refine Ad nm rfl rfl rfl ?_ ?_ (by decide +kernel) | ((with_reducible show PS _ _ (tS _ _ _ _ (Zy _ _ (MOp.app _))));exact (Cv (Va (k:=0) (Xw (pq Hbb 6))) Wq (fun _=>.int _))) | ((with_reducible show PE _ _ (tT _ _ _ _ (Wm _)));exact (A0 (KI OR) OQ ["wishes", "copies", "lists", "numbers", "told", "ranks", "by_copy", "rank"] 7 rfl (pq Nd 6) (fun cl C s0 H0 ex=>⟨VR (i:=7) (by decide +kernel:(["wishes", "copies", "lists", "numbers", "told", "ranks", "by_copy", "rank"]:List Str).Nodup) rfl (RI rfl).1 (RI rfl).2,Bz (pvb 7),pvb 7⟩) rfl rfl (by decide +kernel) (by decide))) | ((with_reducible show PE _ _ (tT _ _ _ _ (TF _ _ _)));refine AZ (M6 ?_ ?_) (by walk_at "v")) | ((with_reducible show PE _ _ (tD _ _ _ _));first | walk_at "e") | ((with_reducible show PA _ _ (tDs _ _ _ _));first | refine Ve ?_ ?_ | exact Xy) | ((with_reducible show PSs _ _ (tS _ _ _ _ _));first | refine X4 ?_ ?_ | refine TM ?_ | exact Eo | exact sD_nevers) | ((with_reducible show PS _ _ _);walk_at "s") | ((with_reducible show PT _ _ _);walk_at "t") | ((with_reducible show PW _ _ _);first | refine C0 ?_ ?_ | refine Et ?_ ?_ | refine AN ?_ | refine C2 ?_) | ((with_reducible show PE _ _ (tL _ _ _ _));walk_at "l") | ((with_reducible show PI _ _ _ _);walk_at "i") | ((with_reducible show PG _ _ _);first | exact F4 nm | exact Ez | refine Em rfl ?_) | ((with_reducible show PGs _ _ _);first | exact En | refine Bq ?_ ?_) | ((with_reducible show PO _ _ _);first | exact AL | refine AK ?_) | ((with_reducible show Z0 _ _ _ _ _ _ _ _ _);refine fun cl C s0 H0 ex=>⟨fun B' G'=>?_,fun B' G'=>?_,?_⟩) | ((with_reducible show ZA _ _ _);first | exact Ce | refine Cd ?_) | ((with_reducible show Sg _ _ _ _ _ _);first | refine qG rfl rfl rfl fun B' G'=>?_ | refine qF rfl rfl rfl rfl (fun _=>rfl) (fun B' G'=>?_) (fun B' G'=>?_) (fun B' G'=>?_) ?_) | ((with_reducible show PE _ _ (tX _ _ _ _ _));refine LN (by assumption) hr (by walk_at "x") (by walk_at "g") ?_) | ((with_reducible show PE _ _ (tT _ _ _ _ (Wn _ _ _ _ _)));first | refine aCompT nm rfl ?_ ?_ (by decide +kernel) | refine aCompTI rfl ?_ ?_ (by decide +kernel)) | ((with_reducible show SZ _ _ _ _ _ _ _ _ _ _);refine fun cl C s0 H0 ex=>⟨fun B' G'=>?_,fun B' G'=>?_,fun B' G'=>?_⟩) | ((with_reducible show PE _ _ (tT _ _ _ (Pat.lst Pat.leaf) (U3 PyData.list _)));refine Cy ?_) | ((with_reducible show PSs _ _ (Y7 (KW _ _ _ _) _));first | (with_reducible refine sp_cons ?_ ?_) | refine EW ?_ ?_) | ((with_reducible show PSs _ _ (KW _ _ _ _));first | refine Cn ?_ | refine BE ?_ ?_) | ((with_reducible show PS _ _ (KW _ _ _ _));first | refine NV (j:=6) (π:=[1]) (n:=1) (iy:=7) PassesOwn.never rfl nm.nd rfl (lq nm 7 rfl) (Va (k:=1) (Xw (pq nm 6))) ?_ | refine NV (j:=7) (π:=[]) (n:=0) (iy:=8) PassesOwn.never rfl nm.nd rfl (lq nm 8 rfl) (Xw (pq nm 7)) ?_ | exact EV (j:=8) (π:=[]) (Xw (pq nm 8)) Wq | exact Ck (j:=7) (π:=[]) (m:=0) (Xw (pq nm 7)) (Cm Wq)) | ((with_reducible show PE _ _ (tT _ _ _ _ _));first | refine R4 (by assumption) hr (by walk_at "g") ?_ | exact Cz | exact peT_dnil | refine peT_disp ?_) | ((with_reducible show PSs _ _ (tSO _ _ _ _ _));first | refine N0 ?_ | refine SI ?_ ?_) | ((with_reducible show PSs _ _ (tST _ _ _ _ _ _));first | refine NY (Cj (by walk_at "v")) | refine NY ?_ | refine Cw ?_ ?_))))
section
variable{P:Us}{w:World}{K:Frag}{mg:Str->xV}{base:Heap}{f:Ut}{fd:Uu}(T:Txt K mg)
include T
theorem Kam(F:Fun K "_law_cell_at" "_law_cell_at" Sam f fd):FnOk P w K mg base CX0 1 f fd ["_law_script", "_law_k"] (spD K 2 YB):=
 okD (k:=0) (g:=WC) F (fq Ham 2) xM λcdv A outer s H E B G0 hr=>
 have nm:=Ham
 by walk_at "d"
theorem Kau(F:Fun K "_law_where" "_law_where" Sau f fd):FnOk P w K mg base CX0 1 f fd ["_law_caught_here"] (spD K 1 XN):=
 okD (k:=0) (g:=g_au) F (fq Hau 1) xM λcdv A outer s H E B G0 hr=>
 have nm:=Hau
 by walk_at "d"
theorem Kat(F:Fun K "_law_place" "_law_place" Sat f fd):FnOk P w K mg base CX0 1 f fd ["_law_wishes_here", "_law_number"] (spD K 2 WQ):=
 okD (k:=0) (g:=Tf) F (fq Hat 2) xM λcdv A outer s H E B G0 hr=>
 have nm:=Hat
 by walk_at "d"
theorem Kar(F:Fun K "_law_word" "_law_word" Sar f fd):FnOk P w K mg base CX0 1 f fd ["_law_caught_here"] (spD K 1 Xh):=
 okD (k:=0) (g:=g_ar) F (fq Har 1) xM λcdv A outer s H E B G0 hr=>
 have nm:=Har
 by walk_at "d"
theorem Kas(F:Fun K "_law_no_wishes" "_law_no_wishes" Sas f fd):FnOk P w K mg base CX0 1 f fd ["_law_wishes_here", "_law_number"] (spD K 2 WR):=
 okD (k:=0) (g:=Tg) F (fq Has 2) xM λcdv A outer s H E B G0 hr=>
 have nm:=Has
 by walk_at "d"
theorem xH(F:Fun K "numbers_of_copies" "numbers_of_copies" Gv f fd):FnOk P w K mg base CX0 1 f fd ["copies"] (spT K 1 (.lst (.lst .leaf)) Wd):=
 okT (k:=0) (g:=Nh) F (fq GO 1) xM λcdv A outer s H E B G0 hr=>
 have nm:=GO
 by walk_at "d"
theorem Kaa(F:Fun K "is_whole" "is_whole" Saa f fd):FnOk P w K mg base CX0 1 f fd ["thing"] (spD K 1 XT):=
 okD (k:=0) (g:=Ts) F (fq Haa 1) xM λcdv A outer s H E B G0 hr=>
 have nm:=Haa
 by walk_at "d"
theorem Kab(yK:Def P w K mg base "is_whole" 1 1 XT)(F:Fun K "is_number_below" "is_number_below" Sab f fd):FnOk P w K mg base CX0 2 f fd ["thing", "many"] (spD K 2 ZN):=
 okD (k:=1) (g:=WF) F (fq Hab 2) xM λcdv A outer s H E B G0 hr=>
 have nm:=Hab
 by walk_at "d"
theorem Kad(vP:Def P w K mg base "is_number_below" 2 2 ZN)(F:Fun K "is_rank" "is_rank" Sad f fd):FnOk P w K mg base CX0 3 f fd ["thing", "things"] (spD K 2 YR):=
 okD (k:=2) (g:=WE) F (fq Had 2) xM λcdv A outer s H E B G0 hr=>
 have nm:=Had
 by walk_at "d"
theorem Kae(yI:Def P w K mg base "is_rank" 3 2 YR)(F:Fun K "is_asker_list" "is_asker_list" Sae f fd):FnOk P w K mg base CX0 4 f fd ["thing", "things"] (spD K 2 YQ):=
 okD (k:=3) (g:=WD) F (fq Hae 2) xM λcdv A outer s H E B G0 hr=>
 have nm:=Hae
 by walk_at "d"
theorem xF(wn:Def P w K mg base "is_asker_list" 4 2 YQ)(ve:MkX P w K mg base "NoWishes" 2)(F:Fun K "look_at_lists" "look_at_lists" Gq f fd):FnOk P w K mg base (CX1 P w) 5 f fd ["lists", "things"] (spX K 2 Pm):=
 okX (k:=4) (g:=Nl) F (fq Gx 2) xM λcdv A outer s H E B G0 hr=>
 have nm:=Gx
 by walk_at "d"
theorem xz(vP:Def P w K mg base "is_number_below" 2 2 ZN)(ve:MkX P w K mg base "NoWishes" 2)(F:Fun K "look_at_copies" "look_at_copies" Gw f fd):FnOk P w K mg base (CX1 P w) 4 f fd ["copies"] (spX K 1 Pn):=
 okX (k:=3) (g:=Nj) F (fq GD 1) xM λcdv A outer s H E B G0 hr=>
 have nm:=GD
 by walk_at "d"
theorem xy(vp:Yh P w K mg base "look_at_lists" 5 2 Pm)(vj:Yh P w K mg base "look_at_copies" 4 1 Pn)(ve:MkX P w K mg base "NoWishes" 2)(F:Fun K "look_at_wishes" "look_at_wishes" GI f fd):FnOk P w K mg base (CX1 P w) 6 f fd ["thing"] (spX K 1 SX):=
 okX (k:=5) (g:=Ni) F (fq GC 1) xM λcdv A outer s H E B G0 hr=>
 have nm:=GC
 by walk_at "d"
theorem xL(vi:Yh P w K mg base "look_at_wishes" 6 1 SX)(vE:MkX P w K mg base "NoJoin" 1)(F:Fun K "look_at_copies_in_all" "look_at_copies_in_all" GN f fd):FnOk P w K mg base (CX1 P w) 7 f fd ["wishes"] (spX K 1 Y5):=
 okX (k:=6) (g:=Pq) F (fq GK 1) xM λcdv A outer s H E B G0 hr=>
 have nm:=GK
 by walk_at "d"
theorem kP(vC:Def P w K mg base "numbers_of_copies" 1 1 ZM)(vd:Yh P w K mg base "look_at_copies_in_all" 7 1 Y5)(F:Fun K "singled" "singled" HA f fd):FnOk P w K mg base (CX1 P w) 8 f fd ["wishes"] (spX K 1 T6):=
 okX (k:=7) (g:=OS) F (fq Gd 1) xM λcdv A outer s H E B G0 hr=>
 have nm:=Gd
 by walk_at "d"
theorem xK(vd:Yh P w K mg base "look_at_copies_in_all" 7 1 Y5)(vc:DefT P w K mg base "numbers_of_copies" 1 1 (.lst (.lst .leaf)) Wd)(F:Fun K "singled_dealing" "singled_dealing" GB f fd):FnOk P w K mg base (CX1 P w) 8 f fd ["wishes", "dealing"] (spX K 2 Se):=
 okX (k:=7) (g:=Nk) F (fq Yv 2) xM λcdv A outer s H E B G0 hr=>
 have hu:=hr.units;have hgd:=hr.gd
 (X4 (LM (LN vd hr Lo (gq Yv 1) (Ve (YG (pq Yv 0)) Xy)))
 (X4 (RG (i:=2) (nq Yv) xM (lq Yv 2) (R4 vc hr (gq Yv 0) (Ve (RL (pq Yv 0) Ry (λ_ _=>rfl)) Xy)))
 (X4 (RJ (i:=3) (nq Yv) xM (lq Yv 3) (TQ Xy))
 (X4 (Rw LX xM (Rv (YG (pq Yv 1))) (SD (VR (i:=4) (nq Yv) xM (lq Yv 4)))
 (TM (Rx (pq Yv 3) (Pd (RM (YG (pq Yv 4))) RN (OE (pq Yv 2) (YG (pq Yv 4)) Wq (λ_ _=>rfl))))))
 (TM (PL (YG (pq Yv 3))))))))
theorem xE(vC:Def P w K mg base "numbers_of_copies" 1 1 ZM)(vd:Yh P w K mg base "look_at_copies_in_all" 7 1 Y5)(F:Fun K "whole_dealing" "whole_dealing" Go f fd):FnOk P w K mg base (CX1 P w) 8 f fd ["wishes", "dealing"] (spX K 2 Sd):=
 okX (k:=7) (g:=Ng) F (fq GF 2) xM λcdv A outer s H E B G0 hr=>
 have nm:=GF
 by walk_at "d"
theorem Kav(vA:Yh P w K mg base "singled" 8 1 T6)(vg:Yh P w K mg base "singled_dealing" 8 2 Se)(vo:Yh P w K mg base "whole_dealing" 8 2 Sd)(F:Fun K "_law_caught" "_law_caught" Sav f fd):FnOk P w K mg base CX0 9 f fd ["_law_number", "_law_wishes_here", "_law_dealing"] (spD K 3 XM):=
 okD (k:=8) (g:=Te) F (fq Hav 3) xM λcdv A outer s H E B G0 hr=>
 have nm:=Hav
 by walk_at "d"
theorem Kan(F:Fun K "_law_numbers" "_law_numbers" San f fd):FnOk P w K mg base CX0 1 f fd ["_law_cell", "_law_salt", "_law_sizes"] (spD K 3 Z1):=
 okD (k:=0) (g:=Tk) F (fq Han 3) xM λcdv A outer s H E B G0 hr=>
 have nm:=Han
 by walk_at "d"
theorem Kaf(wn:Def P w K mg base "is_asker_list" 4 2 YQ)(F:Fun K "look_at_lists" "look_at_lists" Saf f fd):FnOk P w K mg base CX0 5 f fd ["lists", "things"] (spD K 2 WW):=
 okD (k:=4) (g:=Tq) F (fq Haf 2) xM λcdv A outer s H E B G0 hr=>
 have nm:=Haf
 by walk_at "d"
theorem Kac(vP:Def P w K mg base "is_number_below" 2 2 ZN)(F:Fun K "look_at_copies" "look_at_copies" Sac f fd):FnOk P w K mg base CX0 3 f fd ["copies"] (spD K 1 WX):=
 okD (k:=2) (g:=Tr) F (fq Hac 1) xM λcdv A outer s H E B G0 hr=>
 have nm:=Hac
 by walk_at "d"
theorem Kag(yH:Def P w K mg base "look_at_lists" 5 2 WW)(yJ:Def P w K mg base "look_at_copies" 3 1 WX)(F:Fun K "look_at_wishes" "look_at_wishes" Sag f fd):FnOk P w K mg base CX0 6 f fd ["thing"] (spD K 1 WV):=
 okD (k:=5) (g:=Tp) F (fq Hag 1) xM λcdv A outer s H E B G0 hr=>
 have nm:=Hag
 by walk_at "d"
theorem Kah(yG:Def P w K mg base "look_at_wishes" 6 1 WV)(F:Fun K "look_at_copies_in_all" "look_at_copies_in_all" Sah f fd):FnOk P w K mg base CX0 7 f fd ["wishes"] (spD K 1 Zn):=
 okD (k:=6) (g:=To) F (fq Hah 1) xM λcdv A outer s H E B G0 hr=>
 have nm:=Hah
 by walk_at "d"
theorem Kal(vC:Def P w K mg base "numbers_of_copies" 1 1 ZM)(vy:Def P w K mg base "look_at_copies_in_all" 7 1 Zn)(F:Fun K "whole_dealing" "whole_dealing" Sal f fd):FnOk P w K mg base CX0 8 f fd ["wishes", "dealing"] (spD K 2 XS):=
 okD (k:=7) (g:=Tl) F (fq Hal 2) xM λcdv A outer s H E B G0 hr=>
 have nm:=Hal
 by walk_at "d"
theorem Kak(vy:Def P w K mg base "look_at_copies_in_all" 7 1 Zn)(vc:DefT P w K mg base "numbers_of_copies" 1 1 (.lst (.lst .leaf)) Wd)(F:Fun K "singled_dealing" "singled_dealing" Sak f fd):FnOk P w K mg base CX0 8 f fd ["wishes", "dealing"] (spD K 2 WU):=
 okD (k:=7) (g:=Tn) F (fq Hak 2) xM λcdv A outer s H E B G0 hr=>
 have hu:=hr.units;have hgd:=hr.gd
 (X4 (P1 (pdf vy hr (gq Hak 1) (Ve (YG (pq Hak 0)) Xy)))
 (X4 (RG (i:=2) (nq Hak) xM (lq Hak 2) (R4 vc hr (gq Hak 0) (Ve (RL (pq Hak 0) Ry (λ_ _=>rfl)) Xy)))
 (X4 (RJ (i:=3) (nq Hak) xM (lq Hak 3) (TQ Xy))
 (X4 (Rw UJ xM (Rv (YG (pq Hak 1))) (SD (VR (i:=4) (nq Hak) xM (lq Hak 4)))
 (TM (Rx (pq Hak 3) (Pd (RM (YG (pq Hak 4))) RN (OE (pq Hak 2) (YG (pq Hak 4)) Wq (λ_ _=>rfl))))))
 (TM (PL (YG (pq Hak 3))))))))
theorem Kaz(F:Fun K "_law_single" "_law_single" Saz f fd):FnOk P w K mg base CX0 1 f fd ["_law_dealing", "_law_owners_here"] (spD K 2 WM):=
 okD (k:=0) (g:=V9) F (fq Haz 2) xM λcdv A outer s H E B G0 hr=>
 have nm:=Haz
 by walk_at "d"
theorem xC(vC:Def P w K mg base "numbers_of_copies" 1 1 ZM)(vy:Def P w K mg base "look_at_copies_in_all" 7 1 Zn)(F:Fun K "whole_dealing" "whole_dealing" Gm f fd):FnOk P w K mg base CX0 8 f fd ["wishes", "dealing"] (spO K 2 SU):=
 okO (k:=7) (g:=Pl) F (fq GE 2) xM λcdv A outer s H E B G0 hr=>
 have nm:=GE
 by walk_at "d"
theorem xx(vy:Def P w K mg base "look_at_copies_in_all" 7 1 Zn)(vc:DefT P w K mg base "numbers_of_copies" 1 1 (.lst (.lst .leaf)) Wd)(F:Fun K "singled_dealing" "singled_dealing" Gz f fd):FnOk P w K mg base CX0 8 f fd ["wishes", "dealing"] (spO K 2 Po):=
 okO (k:=7) (g:=Pp) F (fq Yu 2) xM λcdv A outer s H E B G0 hr=>
 have hu:=hr.units;have hgd:=hr.gd
 (SI (P1 (pdf vy hr (gq Yu 1) (Ve (YG (pq Yu 0)) Xy)))
 (SI (RG (i:=2) (nq Yu) xM (lq Yu 2) (R4 vc hr (gq Yu 0) (Ve (RL (pq Yu 0) Ry (λ_ _=>rfl)) Xy)))
 (SI (RJ (i:=3) (nq Yu) xM (lq Yu 3) (TQ Xy))
 (SI (Rw UJ xM (Rv (YG (pq Yu 1))) (SD (VR (i:=4) (nq Yu) xM (lq Yu 4)))
 (TM (Rx (pq Yu 3) (Pd (RM (YG (pq Yu 4))) RN (OE (pq Yu 2) (YG (pq Yu 4)) Wq (λ_ _=>rfl))))))
 (N0 (MA (pq Yu 3)))))))
theorem Kba(yD:Def P w K mg base "whole_dealing" 8 2 XS)(yE:Def P w K mg base "singled_dealing" 8 2 WU)(yq:Def P w K mg base "_law_single" 1 2 WM)(vq:WY P w K mg base "whole_dealing" 8 2 SU)(vh:WY P w K mg base "singled_dealing" 8 2 Po)(F:Fun K "_law_told" "_law_told" Sba f fd):FnOk P w K mg base CX0 9 f fd ["_law_wishes_here", "_law_owners_here", "_law_dealing", "_law_other"] (spD K 4 WL):=
 okD (k:=8) (g:=V8) F (fq Hba 4) xM λcdv A outer s H E B G0 hr=>
 have nm:=Hba
 by walk_at "d"
theorem Kap(F:Fun K "_law_wished" "_law_wished" Sap f fd):FnOk P w K mg base CX0 1 f fd ["_law_wishes_here", "_law_asker"] (spD K 2 WS):=
 okD (k:=0) (g:=Ti) F (fq Hap 2) xM λcdv A outer s H E B G0 hr=>
 have nm:=Hap
 by walk_at "d"
theorem Kaq(yB:Def P w K mg base "_law_wished" 1 2 WS)(vO:Def P w K mg base "_law_numbers" 1 3 Z1)(F:Fun K "_law_dealt" "_law_dealt" Saq f fd):FnOk P w K mg base CX0 2 f fd ["_law_wishes_here", "_law_cell", "_law_salt"] (spD K 3 XQ):=
 okD (k:=1) (g:=Th) F (fq Haq 3) xM λcdv A outer s H E B G0 hr=>
 have nm:=Haq
 by walk_at "d"
theorem kO(vC:Def P w K mg base "numbers_of_copies" 1 1 ZM)(vy:Def P w K mg base "look_at_copies_in_all" 7 1 Zn)(F:Fun K "singled" "singled" OR f fd):FnOk P w K mg base CX0 8 f fd ["wishes"] (spT K 1 (.tup [.lst .leaf,.lst (.lst (.lst .leaf))]) SS):=
 okT (k:=7) (g:=O8) F (fq Nd 1) xM λcdv A outer s H E B G0 hr=>
 have nm:=Nd
 by walk_at "d"
theorem Kay(F:Fun K "_law_due" "_law_due" Say f fd):FnOk P w K mg base CX0 1 f fd ["_law_wishes_here", "_law_owners_here"] (spD K 2 WN):=
 okD (k:=0) (g:=Ta) F (fq Hay 2) xM λcdv A outer s H E B G0 hr=>
 have nm:=Hay
 by walk_at "d"
theorem Kax(F:Fun K "_law_owners" "_law_owners" Sax f fd):FnOk P w K mg base CX0 1 f fd ["_law_wishes_here"] (spD K 1 WO):=
 okD (k:=0) (g:=Tc) F (fq Hax 1) xM λcdv A outer s H E B G0 hr=>
 have nm:=Hax
 by walk_at "d"
theorem Kaw(F:Fun K "_law_cut" "_law_cut" Saw f fd):FnOk P w K mg base CX0 1 f fd ["_law_wishes_here"] (spD K 1 WP):=
 okD (k:=0) (g:=Td) F (fq Haw 1) xM λcdv A outer s H E B G0 hr=>
 have nm:=Haw
 by walk_at "d"
theorem Kao(vO:Def P w K mg base "_law_numbers" 1 3 Z1)(wl:Def P w K mg base "_law_cell_at" 1 2 YB)(F:Fun K "_law_wishes" "_law_wishes" Sao f fd):FnOk P w K mg base CX0 2 f fd ["_law_script", "_law_at", "_law_most_things", "_law_most_askers", "_law_most_ranks"] (spD K 5 WT):=
 okD (k:=1) (g:=Tj) F (fq Hao 5) xM λcdv A outer s H E B G0 hr=>
 have nm:=Hao
 by walk_at "d"
theorem Kbb(wl:Def P w K mg base "_law_cell_at" 1 2 YB)(yw:Def P w K mg base "_law_where" 1 1 XN)(yx:Def P w K mg base "_law_place" 1 2 WQ)(yz:Def P w K mg base "_law_word" 1 1 Xh)(yy:Def P w K mg base "_law_no_wishes" 1 2 WR)(yv:Def P w K mg base "_law_caught" 9 3 XM)(vO:Def P w K mg base "_law_numbers" 1 3 Z1)(yp:Def P w K mg base "_law_told" 9 4 WL)(yA:Def P w K mg base "_law_dealt" 2 3 XQ)(yF:Def P w K mg base "singled" 8 1 F_aj)(yr:Def P w K mg base "_law_due" 1 2 WN)(yt:Def P w K mg base "_law_owners" 1 1 WO)(yu:Def P w K mg base "_law_cut" 1 1 WP)(yC:Def P w K mg base "_law_wishes" 2 5 WT)(vv:DefT P w K mg base "singled" 8 1 (.tup [.lst .leaf,.lst (.lst (.lst .leaf))]) SS)(F:Fun K "law" "law" Sbb f fd):FnOk P w K mg base CX0 10 f fd ["_law_script"] (spD K 1 WK):=
 okD (k:=9) (g:=V7) F (fq Hbb 1) xM λcdv A outer s H E B G0 hr=>
 have nm:=Hbb
 by walk_at "d"
end
theorem KZ:recsOf q0=W7 p0 ixL:=by show recsOf (PySem.W.view PySem.Challenge.pw_wishdeal_k82_copy_by_copy Xq)=W7 PySem.Challenge.pw_wishdeal_k82_copy_by_copy ixL;rw[PySem.W.Fast.te3399658132070893891,PySem.W.Fast.te18444593148757970902];kernel_rfl
theorem Yp:(["ValueError", "all", "bool", "enumerate", "int", "isinstance", "len", "list", "max", "min", "range", "repr", "set", "sorted", "sum", "tuple"]:List Str).all (S6 q0 (PySem.W.looseW q0 []))=xO:=by show List.all _ (S6 (PySem.W.view PySem.Challenge.pw_wishdeal_k82_copy_by_copy Xq) (PySem.W.looseW (PySem.W.view PySem.Challenge.pw_wishdeal_k82_copy_by_copy Xq) []))=xO;k_qdec
theorem xj:valOf q0 "MOST_ASKERS" = O (.int 7):=by show valOf (PySem.W.view PySem.Challenge.pw_wishdeal_k82_copy_by_copy Xq) _=_;rw[Jv,PySem.W.Fast.te18444593148757970902];kernel_rfl
theorem xi:valOf q0 "MOST_COPIES" = O (.int 7):=by show valOf (PySem.W.view PySem.Challenge.pw_wishdeal_k82_copy_by_copy Xq) _=_;rw[Jv,PySem.W.Fast.te18444593148757970902];kernel_rfl
theorem xp:valOf q0 "MOST_RANKS" = O (.int 5):=by show valOf (PySem.W.view PySem.Challenge.pw_wishdeal_k82_copy_by_copy Xq) _=_;rw[Jv,PySem.W.Fast.te18444593148757970902];kernel_rfl
theorem xg:valOf q0 "MOST_THINGS" = O (.int 6):=by show valOf (PySem.W.view PySem.Challenge.pw_wishdeal_k82_copy_by_copy Xq) _=_;rw[Jv,PySem.W.Fast.te18444593148757970902];kernel_rfl
theorem EU{l:PySem.W.OpenLaw}{w:World}{s0:Ur}{mg mb:Str->xV}{fa:Ut}{h:Heap}{XP:(Str->xV)->Heap->Prop}(G:PySem.W.Ground q0 [] [] XP w s0 mg mb h)(Y:XYP p0 clsL h)(hfa:mg "law" = O (.ref fa)) :
  ∃fd:Uu,(∀(s:Ur)(v:Uq),BindsTo s fd ⟨[v],[]⟩ [("_law_script", v)])/\∀base:Heap,FnOk l.prog w (whole h) mg base CX0 10 fa fd ["_law_script"] (spD (whole h) 1 WK):=by
 obtain⟨D0,f0,fd0,R⟩:=CA (i:=1) G.T.g Y (mq 0 xM) (Yr G.T Yp (mq 0 xM)) (KU (by decide +kernel)) xM (λ_=>⟨_,rfl⟩) (λ_ _ _ _ _ _ us hl=>bz2 (us:=us) hl λ_ _=>rfl);have T:Txt (whole h) mg:=⟨Yr G.T Yp (mq 0 xM),Yr G.T Yp (mq 1 xM),Yr G.T Yp (mq 2 xM),Yr G.T Yp (mq 3 xM),Yr G.T Yp (mq 4 xM),Yr G.T Yp (mq 5 xM),Yr G.T Yp (mq 6 xM),Yr G.T Yp (mq 7 xM),Yr G.T Yp (mq 8 xM),Yr G.T Yp (mq 9 xM),Yr G.T Yp (mq 10 xM),Yr G.T Yp (mq 11 xM),Yr G.T Yp (mq 12 xM),Yr G.T Yp (mq 13 xM),Yr G.T Yp (mq 14 xM),Yr G.T Yp (mq 15 xM),Pa G.T xj,Pa G.T xi,Pa G.T xp,Pa G.T xg,YT (c:=("DealError", O 1)) G.T.g Y R (mq 0 xM),YT (c:=("NoAim", O 3)) G.T.g Y R (mq 2 xM),YT (c:=("NoBook", xN)) G.T.g Y R (mq 9 xM),YT (c:=("NoChange", xN)) G.T.g Y R (mq 6 xM),YT (c:=("NoDeed", xN)) G.T.g Y R (mq 10 xM),YT (c:=("NoJoin", xN)) G.T.g Y R (mq 8 xM),YT (c:=("NoName", xN)) G.T.g Y R (mq 12 xM),YT (c:=("NoNumbering", xN)) G.T.g Y R (mq 7 xM),YT (c:=("NoPlace", xN)) G.T.g Y R (mq 5 xM),YT (c:=("NoRow", xN)) G.T.g Y R (mq 11 xM),YT (c:=("NoText", O 4)) G.T.g Y R (mq 3 xM),YT (c:=("NoWay", xN)) G.T.g Y R (mq 4 xM),YT (c:=("NoWishes", O 2)) G.T.g Y R (mq 1 xM),YT (c:=("TooMany", xN)) G.T.g Y R (mq 13 xM)⟩
 refine Fy G.T KZ 50 "law" rfl xM hfa (λ_ _ _ _ _ _ _=>rfl) λbase=>?_
 have ve:=EE (nm:= "NoWishes") (j:=2) (ps:=["self", "part", "number"]) G.T.g Y R (mq 1 xM) (by decide) l.prog w base (λ_ _ _ _ _ _ us hl=>bz3 (us:=us) hl λ_ _ _=>rfl) (λFU=>CC R.cf (R.ok l.prog w base) R.bd R.at' FU (KU (by decide +kernel)) xM (λ_=>⟨_,rfl⟩) (by decide) (by decide));have vE:=EF (nm:= "NoJoin") G.T.g Y R (mq 8 xM) xM l.prog w base;have wl:=Zt l.prog w base G.T KZ 35 "_law_cell_at" rfl xM (λF=>Kam T  F) λ_ _ _ _ _ _ us hl=>bz2 (us:=us) hl λ_ _=>rfl
 have yw:=Zt l.prog w base G.T KZ 43 "_law_where" rfl xM (λF=>Kau T  F) λ_ _ _ _ _ _ us hl=>bz1 (us:=us) hl λ_=>rfl
 have yx:=Zt l.prog w base G.T KZ 42 "_law_place" rfl xM (λF=>Kat T  F) λ_ _ _ _ _ _ us hl=>bz2 (us:=us) hl λ_ _=>rfl
 have yz:=Zt l.prog w base G.T KZ 40 "_law_word" rfl xM (λF=>Kar T  F) λ_ _ _ _ _ _ us hl=>bz1 (us:=us) hl λ_=>rfl
 have yy:=Zt l.prog w base G.T KZ 41 "_law_no_wishes" rfl xM (λF=>Kas T  F) λ_ _ _ _ _ _ us hl=>bz2 (us:=us) hl λ_ _=>rfl
 have vc:=NX l.prog w base G.T KZ 30 "numbers_of_copies" rfl xM (λF=>xH T  F) λ_ _ _ _ _ _ us hl=>bz1 (us:=us) hl λ_=>rfl
 have vC:=vc.def;have yK:=Zt l.prog w base G.T KZ 16 "is_whole" rfl xM (λF=>Kaa T  F) λ_ _ _ _ _ _ us hl=>bz1 (us:=us) hl λ_=>rfl
 have vP:=Zt l.prog w base G.T KZ 17 "is_number_below" rfl xM (λF=>Kab T yK F) λ_ _ _ _ _ _ us hl=>bz2 (us:=us) hl λ_ _=>rfl
 have yI:=Zt l.prog w base G.T KZ 24 "is_rank" rfl xM (λF=>Kad T vP F) λ_ _ _ _ _ _ us hl=>bz2 (us:=us) hl λ_ _=>rfl
 have wn:=Zt l.prog w base G.T KZ 25 "is_asker_list" rfl xM (λF=>Kae T yI F) λ_ _ _ _ _ _ us hl=>bz2 (us:=us) hl λ_ _=>rfl
 have vp:=Vz l.prog w base G.T KZ 26 "look_at_lists" rfl xM (λF=>xF T wn ve F) λ_ _ _ _ _ _ us hl=>bz2 (us:=us) hl λ_ _=>rfl
 have vj:=Vz l.prog w base G.T KZ 23 "look_at_copies" rfl xM (λF=>xz T vP ve F) λ_ _ _ _ _ _ us hl=>bz1 (us:=us) hl λ_=>rfl
 have vi:=Vz l.prog w base G.T KZ 27 "look_at_wishes" rfl xM (λF=>xy T vp vj ve F) λ_ _ _ _ _ _ us hl=>bz1 (us:=us) hl λ_=>rfl
 have vd:=Vz l.prog w base G.T KZ 29 "look_at_copies_in_all" rfl xM (λF=>xL T vi vE F) λ_ _ _ _ _ _ us hl=>bz1 (us:=us) hl λ_=>rfl
 have vA:=Vz l.prog w base G.T KZ 31 "singled" rfl xM (λF=>kP T vC vd F) λ_ _ _ _ _ _ us hl=>bz1 (us:=us) hl λ_=>rfl
 have vg:=Vz l.prog w base G.T KZ 32 "singled_dealing" rfl xM (λF=>xK T vd vc F) λ_ _ _ _ _ _ us hl=>bz2 (us:=us) hl λ_ _=>rfl
 have vo:=Vz l.prog w base G.T KZ 33 "whole_dealing" rfl xM (λF=>xE T vC vd F) λ_ _ _ _ _ _ us hl=>bz2 (us:=us) hl λ_ _=>rfl
 have yv:=Zt l.prog w base G.T KZ 44 "_law_caught" rfl xM (λF=>Kav T vA vg vo F) λ_ _ _ _ _ _ us hl=>bz3 (us:=us) hl λ_ _ _=>rfl
 have vO:=Zt l.prog w base G.T KZ 36 "_law_numbers" rfl xM (λF=>Kan T  F) λ_ _ _ _ _ _ us hl=>bz3 (us:=us) hl λ_ _ _=>rfl
 have yH:=Zt l.prog w base G.T KZ 26 "look_at_lists" rfl xM (λF=>Kaf T wn F) λ_ _ _ _ _ _ us hl=>bz2 (us:=us) hl λ_ _=>rfl
 have yJ:=Zt l.prog w base G.T KZ 23 "look_at_copies" rfl xM (λF=>Kac T vP F) λ_ _ _ _ _ _ us hl=>bz1 (us:=us) hl λ_=>rfl
 have yG:=Zt l.prog w base G.T KZ 27 "look_at_wishes" rfl xM (λF=>Kag T yH yJ F) λ_ _ _ _ _ _ us hl=>bz1 (us:=us) hl λ_=>rfl
 have vy:=Zt l.prog w base G.T KZ 29 "look_at_copies_in_all" rfl xM (λF=>Kah T yG F) λ_ _ _ _ _ _ us hl=>bz1 (us:=us) hl λ_=>rfl
 have yD:=Zt l.prog w base G.T KZ 33 "whole_dealing" rfl xM (λF=>Kal T vC vy F) λ_ _ _ _ _ _ us hl=>bz2 (us:=us) hl λ_ _=>rfl
 have yE:=Zt l.prog w base G.T KZ 32 "singled_dealing" rfl xM (λF=>Kak T vy vc F) λ_ _ _ _ _ _ us hl=>bz2 (us:=us) hl λ_ _=>rfl
 have yq:=Zt l.prog w base G.T KZ 48 "_law_single" rfl xM (λF=>Kaz T  F) λ_ _ _ _ _ _ us hl=>bz2 (us:=us) hl λ_ _=>rfl
 have vq:=NZ l.prog w base G.T KZ 33 "whole_dealing" rfl xM (λF=>xC T vC vy F) λ_ _ _ _ _ _ us hl=>bz2 (us:=us) hl λ_ _=>rfl
 have vh:=NZ l.prog w base G.T KZ 32 "singled_dealing" rfl xM (λF=>xx T vy vc F) λ_ _ _ _ _ _ us hl=>bz2 (us:=us) hl λ_ _=>rfl
 have yp:=Zt l.prog w base G.T KZ 49 "_law_told" rfl xM (λF=>Kba T yD yE yq vq vh F) λ_ _ _ _ _ _ us hl=>bz4 (us:=us) hl λ_ _ _ _=>rfl
 have yB:=Zt l.prog w base G.T KZ 38 "_law_wished" rfl xM (λF=>Kap T  F) λ_ _ _ _ _ _ us hl=>bz2 (us:=us) hl λ_ _=>rfl
 have yA:=Zt l.prog w base G.T KZ 39 "_law_dealt" rfl xM (λF=>Kaq T yB vO F) λ_ _ _ _ _ _ us hl=>bz3 (us:=us) hl λ_ _ _=>rfl
 have vv:=NX l.prog w base G.T KZ 31 "singled" rfl xM (λF=>kO T vC vy F) λ_ _ _ _ _ _ us hl=>bz1 (us:=us) hl λ_=>rfl
 have yF:=vv.def;have yr:=Zt l.prog w base G.T KZ 47 "_law_due" rfl xM (λF=>Kay T  F) λ_ _ _ _ _ _ us hl=>bz2 (us:=us) hl λ_ _=>rfl
 have yt:=Zt l.prog w base G.T KZ 46 "_law_owners" rfl xM (λF=>Kax T  F) λ_ _ _ _ _ _ us hl=>bz1 (us:=us) hl λ_=>rfl
 have yu:=Zt l.prog w base G.T KZ 45 "_law_cut" rfl xM (λF=>Kaw T  F) λ_ _ _ _ _ _ us hl=>bz1 (us:=us) hl λ_=>rfl
 have yC:=Zt l.prog w base G.T KZ 37 "_law_wishes" rfl xM (λF=>Kao T vO wl F) λ_ _ _ _ _ _ us hl=>bz5 (us:=us) hl λ_ _ _ _ _=>rfl
 exact λ{_ _} F=>Kbb T wl yw yx yz yy yv vO yp yA yF yr yt yu yC vv F
noncomputable abbrev d_bb:DefRec:=⟨"law", Y4 Sbb,ZP Sbb,KI Sbb,Fz Sbb⟩
theorem walk{XP:(Str->xV)->Heap->Prop}(hlaw:∀ns:xR,ns.length<=63->WK [.list (ns.map int)]=O (.bool xO)):PySem.W.WalkO q0 [] XP (λ_ h=>XYP p0 clsL h) (PySem.Challenge.rw_wishdeal_k82_copy_by_copy).row.toRowW d_bb [] (λf vs=>PySem.call f vs):=
 A8 (n:=63) (k:=10) (x:= "_law_script") xM (by decide) xM ⟨rfl,by decide,by decide,rfl⟩ (λ_ _ _ _ _ _ G Y hm=>EU G Y hm) hlaw
theorem NA{f:M D}{ρ ρ1:UQ}{d:D}{t:Bool}(h:f ρ=.ok d ρ1)(ht:(!isNon d)=t):U3 (λd=>!isNon d) f ρ=.ok t ρ1:=by subst ht;exact K5 (k:=λd=>!isNon d) h
theorem Hy{sizes found:xR}{z d:Int}(h:∀(j:Nat) d z,found[j]?=O d->sizes[j]?=O z->0<=d/\d<z)(hz:sizes[found.length]?=O z)(h0:0<=d/\d<z) :
  ∀(j:Nat) d' z',(found++[d])[j]?=O d'->sizes[j]?=O z'->0<=d'/\d'<z':=by
 intro j d' z' e1 e2;by_cases hj:j<found.length
 .rw[QA hj]at e1
  exact h j d' z' e1 e2
 .by_cases ye:j=found.length
  .subst ye
   rw[hz]at e2;cases e2;rw[QF (Qr _),Nat.sub_self,J0]at e1;cases e1;exact h0
  .rw[Jd (by rw[Qk,Q4];lia)]at e1
   cases e1
noncomputable abbrev pb(d:D):Option Sl:=O (.pub d)
def inv(c s:Int)(sizes:xR)(n:Int)(i:Nat)(ρ:UQ):Prop:=∃left found x6 x7,ρ=[O (Sl.pub (.int c)),pb (.int s),pb (.list (sizes.map .int)),pb (.int n),pb (.int left),O (.own ((found:xR).map .int)),x6,x7] /\
 found.length=i/\∀(j:Nat) d z,found[j]?=O d->sizes[j]?=O z->0<=d/\d<z
theorem qr{c s n:Int}{sizes:xR}(hs:∀x∈sizes,0<x/\x<18446744073709551616)(hl:sizes.length<=1000){i:Nat}{d:D}{ρ:UQ}{Q:Out->Prop}(hi:(Zr 0 sizes.length)[i]?=O d)(h:inv c s sizes n i ρ) :
  ∃ρ2,gN 6 d ρ=O ρ2/\Ho Oc ρ2 (Vn (inv c s sizes n (i+1)) Q):=by
 obtain⟨left,found,x6,x7,rfl,hf,hfd⟩:=h;obtain⟨rfl,hlt⟩:=T7 hi;obtain⟨z,hz⟩:∃z,sizes[i]?=O z:=⟨sizes[i]'(by lia),Qe _⟩
 obtain⟨z1,z2⟩:=hs z (QM hz);have hix:oIx (.list (sizes.map int)) (.int (0+(i:Int)))=O (.int z):=by rw[Uk];exact ZQ (by rw[Qp,hz];rfl)
 generalize hk:(0:Int)+(i:Int)=k at hix⊢;have hk1:k<18446744073709551616:=by lia
 have hk2 : -18446744073709551616<k:=by lia
 have hlen:(found.map int).length<1000000:=by rw[Qb];lia
 have pw:XE (.int 10) (.int 18)=O (.int 1000000000000000000):=by rw[D5 (by decide)];rfl
 refine⟨_,U8 (Qa xM) xM,?_⟩;unfold Oc;apply Kt
 case h1=>exact N7 (YZ xM (Ka U0 U0 pw) xM) λ_=>YZ xM U0 xM
 case h2=>intro _;refine Kk (YW xM (Ka (UX xM) (K2 xM (UX xM) hix) (VP (by lia))) xM hlen xM) ?_;refine KQ (K0 (Ka (UX xM) (K2 xM (UX xM) hix) (MY (by lia) (by lia))) (Qa xM) xM) (Zv ?_);exact⟨_,found++[left % z],_,_,by rw[QI];rfl,by rw[Qk,hf];rfl,Hy hfd (by rw[hf];exact hz) ⟨Int.emod_nonneg _ (by lia),Int.emod_lt_of_pos _ z1⟩⟩
 case h3=>intro _;refine Kk (K0 (Ka (Ka (Ka (Ka (UX xM) (Ka U0 (UX xM) (R6 (by decide) (by decide))) Yt) (Ka (Ka U0 (UX xM) (R6 (by decide) (by decide))) (UX xM) (R5 hk2 hk1)) Yt) (UX xM) Yt) U0 (VP (by decide))) (Qa xM) xM) ?_;refine Kk (K0 (Ka (Ka (UX xM) U0 (R5 (by decide) (by decide))) U0 (VP (by decide))) (Qa xM) xM) ?_;refine Kk (K0 (Ka (Ka (Ka (Ka (UX xM) (UX xM) (R5 (by lia) (by lia))) U0 (VP (by decide))) U0 (R5 (by decide) (by decide))) U0 (VP (by decide))) (Qa xM) xM) ?_;refine KQ (YW xM (Ka (Ka (UX xM) U0 (MY (by decide) (by decide))) (K2 xM (UX xM) hix) (VP (by lia))) xM hlen xM) (Zv ?_);exact⟨_,found++[_ % z],_,_,by rw[QI];rfl,by rw[Qk,hf];rfl,Hy hfd (by rw[hf];exact hz) ⟨Int.emod_nonneg _ (by lia),Int.emod_lt_of_pos _ z1⟩⟩
theorem SW(c s:Int){sizes:xR}(hs:∀x∈sizes,0<x/\x<18446744073709551616)(hl:sizes.length<=1000) :
  ∃r,Z1 [.int c,.int s,.list (sizes.map int)]=O r/\∃ds:xR,r=.list (ds.map .int)/\ds.length=sizes.length/\∀(j:Nat) d z,ds[j]?=O d->sizes[j]?=O z->0<=d/\d<z:=by
 refine Sz (ρ:=[pb (.int c),pb (.int s),pb (.list (sizes.map int)),xN,xN,xN,xN,xN]) xM ?_;unfold Tk;refine Kk (K0 (ZU (UW (UX xM) (UW (Ka (Ru U0) (UX xM) PY) UZ)) MX) (Qa xM) xM) ?_;refine Kk (K0 (UX xM) (Qa xM) xM) ?_;refine Kk (Zo (Xp UZ (Qa xM)) (Qa xM) xM) ?_;apply KH;apply Ym (ds:=Zr 0 sizes.length) (inv c s sizes (if -1-c > c then -1-c else c))
 case h1=>exact VQ (UW (Zp xM (by rw[ZE,Qb])) UZ) (Vd (by lia) (by lia))
 case h0=>exact⟨_,[],xN,xN,rfl,rfl,λj d z e=>by cases e⟩
 case hst=>exact λi d ρ e h=>qr hs hl e h
 case hend=>rintro ρ ⟨left,found,x6,x7,rfl,hf,hfd⟩;rw[VY]at hf;exact KR (K4 (Z8 rfl rfl) ⟨_,rfl,found,rfl,by lia,hfd⟩)
mutual
theorem TY:∀(d:PyData),d.canLay0=xO->UI d d=xO
 |.none,_=>rfl
 |.bool b,_=>by cases b<;>rfl
 |.int i,_=>by simp[UI]
 |.str s,_=>by simp[UI]
 |.list xs,h=>eqvAll_refl xs h
 |.tuple xs,h=>eqvAll_refl xs h
 |.dict _,h=>by cases h
theorem eqvAll_refl:∀(xs:List PyData),UG xs=xO->PyData.eqvAll xs xs=xO
 |[],_=>rfl
 |x::r,h=>by
  have h:(PyData.canLay0 x&&UG r)=xO:=h;rw[Qz]at h
  show(UI x x&&PyData.eqvAll r r)=xO
  rw[TY x h.1,eqvAll_refl r h.2];rfl
end
theorem Wa:∀{xs:xQ},(∀x∈xs,PyData.canLay0 x=xO)->UG xs=xO
 |[],_=>rfl
 |x::r,h=>by
  show(PyData.canLay0 x&&UG r)=xO
  rw[h x Qf,Wa λy hy=>h y (Qh _ hy)];rfl
theorem X9{n:Nat}:∀{xs:xQ},(∀x∈xs,UH x<=n)->PyData.depthAll xs<=n
 |[],_=>by simp[PyData.depthAll]
 |x::r,h=>by
  have h1:=h x Qf;have h2:=X9 (n:=n) λy hy=>h y (Qh _ hy);simp only[PyData.depthAll]
  lia
noncomputable def Kf(r:xR):D:=.list (r.map int)
noncomputable def Ke(rs:List xR):D:=.list (rs.map Kf)
noncomputable def Kj(cs:xR)(ls:L3):D:=.tuple [.list (cs.map int),.list (ls.map Ke)]
structure X8(n:Nat)(rs:List xR):Prop where
 few:rs.length<=5
 some:∀r∈rs,r≠[]
 there:∀r∈rs,∀t∈r,0<=t/\t<n
 once:rs.flatten.Nodup
structure Good(cs:xR)(ls:L3):Prop where
 c1:1<=cs.length
 c6:cs.length<=6
 c7:∀c∈cs,0<=c/\c<8
 l1:1<=ls.length
 l7:ls.length<=7
 rk:∀rs∈ls,X8 cs.length rs
theorem RZ(r:xR):(Kf r).canLay0=xO:=Wa λx hx=>by obtain⟨y,_,rfl⟩:=Qu.mp hx;rfl
theorem He(rs:List xR):(Ke rs).canLay0=xO:=Wa λx hx=>by obtain⟨y,_,rfl⟩:=Qu.mp hx;exact RZ y
theorem OD(cs:xR)(ls:L3):(Kj cs ls).canLay0=xO:=Wa λx hx=>by
 have hx:x=.list (cs.map int)∨x=.list (ls.map Ke):=by simpa using hx
 rcases hx with rfl|rfl
 .exact RZ cs
 .exact Wa λx hx=>by obtain⟨y,_,rfl⟩:=Qu.mp hx;exact He y
theorem CM(i:Int):(int i).depth<=1:=by simp[UH]
theorem VH{n:Nat}{xs:xQ}(h:PyData.depthAll xs<=n):(UC xs).depth<=n+1:=by simp only[UH];lia
theorem RY(r:xR):(Kf r).depth<=2:=VH (X9 λx hx=>by obtain⟨y,_,rfl⟩:=Qu.mp hx;exact CM y)
theorem Hd(rs:List xR):(Ke rs).depth<=3:=VH (X9 λx hx=>by obtain⟨y,_,rfl⟩:=Qu.mp hx;exact RY y)
theorem Ac(cs:xR)(ls:L3):(Kj cs ls).depth<=60:=by
 have h:PyData.depthAll [.list (cs.map int),.list (ls.map Ke)]<=4:=X9 λx hx=>by
  have hx:x=.list (cs.map int)∨x=.list (ls.map Ke):=by simpa using hx
  rcases hx with rfl|rfl
  .have:=RY cs;unfold Kf at this;omega
  .exact VH (X9 λx hx=>by obtain⟨y,_,rfl⟩:=Qu.mp hx;exact Hd y)
 unfold Kj;simp only[UH]at h⊢;omega
theorem CL(cs:xR)(ls:L3):oNe (Kj cs ls) (Kj cs ls)=O xP:=by unfold oNe;rw[Qq ⟨OD cs ls,OD cs ls,Ac cs ls⟩,TY _ (OD cs ls)];rfl
theorem qp(i:Int):XT [.int i]=O (.bool xO):=by refine ZT (ρ:=[pb (.int i)]) xM ?_;unfold Ts;exact K4 (TN (K5 (UX xM)) (λ_=>D6 (K5 (UX xM)))) xM
theorem Hc{i m:Int}(h0:0<=i)(h1:i<m):ZN [.int i,.int m]=O (.bool xO):=by
 refine ZT (ρ:=[pb (.int i),pb (.int m)]) xM ?_;unfold WF;have hb:(decide (0<=i)&&decide (i<m))=xO:=by simp[h0,h1]
 refine K4 (TN (t:=xO) (u:=xO) (Ky (UW (UX xM) UZ) xM (qp i)) (λ_=>?_)) xM;rw[←hb];exact K5 (VJ U0 (UX xM) xM (λ_=>UX xM) (λ_=>rfl))
theorem Hb{α:Type}(l:List α):Yy [.list (l.map λ_=>.bool xO)]=O (.bool xO):=by
 have:(l.map λ_=>UD xO)=(l.map λ_=>xO).map UD:=by rw[Jc];rfl
 rw[this,MV]
 congr 2
 rw[List.all_map];induction l with
 |nil=>rfl
 |cons x r ih=>simpa using ih
theorem jn{r:xR}{n:Int}(hne:r≠[])(hl:r.length<=1000)(h:∀t∈r,0<=t/\t<n):YR [Kf r,.int n]=O (.bool xO):=by
 refine ZT (ρ:=[pb (Kf r),pb (.int n)]) xM ?_;unfold WE;apply KH;have hlen:KB [Kf r]=O (.int r.length):=by unfold Kf;rw[ZE,Qb]
 have hp:0<r.length:=List.length_pos_iff.mpr hne;apply Kt
 case h1=>exact Xk (ρ1:=[pb (Kf r),pb (.int n)]) (Yx (UX xM) xM) (Ka (Zp xM hlen) U0 Y0)
 case h2=>
       intro hh;have:(r.length:Int)=0:=by simpa using hh
       lia
 case h3=>
  intro _;refine KT (KR ?_)
  have hc:Zi (gN 2) (UU xO) (U4 2 ZN (UT (UP 2) (UT (UP 1) (UR)))) (r.map int) (Km [pb (Kf r),pb (.int n)]++UB 1 xN) []=O (r.map λ_=>.bool xO):=by
   rw[Vk (λ_=>xO) (λ_=>.bool xO) (λρ=>∃x,ρ=[pb (Kf r),pb (.int n),x])]
   .rw[JP.mpr (λ_ _=>rfl),Jk,Jc];rfl
   .rintro d hm ρ ⟨x,rfl⟩
    obtain⟨t,ht,rfl⟩:=Qu.mp hm;exact⟨_,U8 (Qa xM) xM,rfl,λ_=>Ky (UW (UX xM) (UW (UX xM) UZ)) xM (Hc (h t ht).1 (h t ht).2),_,rfl⟩
   .exact⟨xN,rfl⟩
   .rw[Qb,QT];lia
  exact K4 (ZU (UW (K5 (X2 (ZD (UX xM) xM) hc)) UZ) (Hb r)) xM
theorem Ha{a b c x3:Option Sl}(ha:Ku a=a)(hb:Ku b=b)(hc:Ku c=c)(hx:Ku x3=x3):∀(ds es:xQ)(x4:Option Sl),es.length+ds.length<=1000000 ->
  ∃y,Y3 (gN 4) (UU xO) (UP 4) ds [a,b,c,x3,x4] es=O (es++ds,[a,b,c,x3,y])
 |[],es,x4,_=>⟨x4,by rw[Y3,QH]⟩
 |d::r,es,x4,h=>by
  rw[Qs]at h;obtain⟨y,e⟩:=Ha ha hb hc hx r (es++[d]) (O (.pub d)) (by rw[Qk,Q4];lia);refine⟨y,?_⟩;rw[Y3];have h1:gN 4 d [a,b,c,x3,x4]=O [a,b,c,x3,pb d]:=U8 (Qa xM) xM;rw[h1];dsimp only[UU];rw[Qq xM];have h2:UP 4 [a,b,c,x3,pb d]=.ok d [a,b,c,x3,pb d]:=UX xM;rw[h2];dsimp only;rw[Qq (by lia)];have h3:Km [a,b,c,x3,pb d]=[a,b,c,x3,pb d]:=by unfold Km;simp only[Qx,JA,ha,hb,hc,hx];rfl
  rw[h3,e,Ja];rfl
theorem OP{a b:D}:∀(rs:List xR)(es:xQ)(x3 x4:Option Sl),es.length+rs.flatten.length<=1000000 ->
  YF (gN 3) (UU xO) (Kx (UP 3)) (gN 4) (UU xO) (UP 4) (rs.map Kf) [pb a,pb b,xN,x3,x4] es=O (es++rs.flatten.map int)
 |[],es,_,_,_=>by rw[List.map_nil,YF];simp
 |r::rs,es,x3,x4,h=>by rw[QG,Qk]at h;rw[Qx,YF];have h1:gN 3 (Kf r) [pb a,pb b,xN,x3,x4]=O [pb a,pb b,xN,pb (Kf r),x4]:=U8 (Qa xM) xM;rw[h1];dsimp only[UU];rw[Qq xM];have h2:Kx (UP 3) [pb a,pb b,xN,pb (Kf r),x4]=.ok (r.map int) [pb a,pb b,xN,pb (Kf r),x4]:=ZD (UX xM) xM;rw[h2];dsimp only;have h3:Km [pb a,pb b,xN,pb (Kf r),x4]=[pb a,pb b,xN,pb (Kf r),Ku x4]:=rfl;rw[h3];obtain⟨y,e⟩:=Ha (a:=O (.pub a)) (b:=O (.pub b)) (c:=xN) (x3:=O (.pub (Kf r))) xM xM xM xM (r.map int) es (Ku x4) (by rw[Qb];lia);rw[e];dsimp only;have ih:=OP (a:=a) (b:=b) rs (es++r.map int) (O (.pub (Kf r))) y (by rw[Qk,Qb];lia);refine Eq.trans ih ?_;rw[QG,QI,Ja]
theorem HM{ns:xR}(h:ns.Nodup):XY ns=ns.length:=by
 unfold XY
 have:∀i,i<=ns.length->(PyProof.Rows.firstMet (λi=>ns.getD i 0) i).length=i:=by
  intro i;induction i with
  |zero=>intro _;rfl
  |succ i ih=>
   intro hi;rw[PyProof.Rows.firstMet_succ]
   have hany:(PyProof.Rows.firstMet (λi=>ns.getD i 0) i).any (· == ns.getD i 0)=xP:=by
    rw[PyProof.Rows.firstMet_any,List.any_eq_false];intro x hx;obtain⟨j,hj,rfl⟩:=Qu.mp hx;have hj:=Jl.mp hj;intro e;have e:ns.getD j 0=ns.getD i 0:=by simpa using e
    have l1:j<ns.length:=by lia
    have l2:i<ns.length:=by lia
    simp only[List.getD,Qe l1,Qe l2,JY]at e;exact absurd ((List.getElem_inj h).mp e) (by lia)
   unfold PyProof.Rows.step_dedup;rw[hany];rw[Qw (by decide),Qk,ih (by lia)];rfl
 exact this ns.length (Qr _)
theorem kN{rs:List xR}{n:Nat}(g:X8 n rs)(hn:n<=6)(hf:rs.flatten.length<=1000):YQ [Ke rs,.int n]=O (.bool xO):=by
 refine ZT (ρ:=[pb (Ke rs),pb (.int n),xN]) xM ?_;unfold WD;have hlen:KB [Ke rs]=O (.int rs.length):=by unfold Ke;rw[ZE,Qb]
 have h5:=g.few;have hrl:∀r∈rs,r.length<=1000:=λr hr=>Qt (List.Sublist.length_le (Jh hr)) hf;apply KH;apply Kt
 case h1=>exact Xk (ρ1:=[pb (Ke rs),pb (.int n),xN]) (Yx (UX xM) xM) (Ka (Zp xM hlen) U0 xM)
 case h2=>
       intro hh;have:(5:Int)<(rs.length:Int):=by simpa using hh
       lia
 case h3=>
  intro _;refine KT (KR ?_)
  have hc:Zi (gN 3) (UU xO) (U4 2 YR (UT (UP 3) (UT (UP 1) (UR)))) (rs.map Kf) (Km [pb (Ke rs),pb (.int n),xN]++UB 1 xN) []=O (rs.map λ_=>.bool xO):=by
   rw[Vk (λ_=>xO) (λ_=>.bool xO) (λρ=>∃x,ρ=[pb (Ke rs),pb (.int n),xN,x])]
   .rw[JP.mpr (λ_ _=>rfl),Jk,Jc];rfl
   .rintro d hm ρ ⟨x,rfl⟩
    obtain⟨r,hr,rfl⟩:=Qu.mp hm;exact⟨_,U8 (Qa xM) xM,rfl,λ_=>Ky (UW (UX xM) (UW (UX xM) UZ)) xM (jn (g.some r hr) (hrl r hr) (g.there r hr)),_,rfl⟩
   .exact⟨xN,rfl⟩
   .rw[Qb,QT];lia
  apply KH;apply Kt
  case h1=>exact YI (Xn (ZU (UW (K5 (X2 (ZD (UX xM) xM) hc)) UZ) (Hb rs)))
  case h2=>intro hh;cases hh
  case h3=>
   intro _;refine KT (KR ?_);have h2:YK (Kx (UP 0)) 2 (gN 3) (UU xO) (Kx (UP 3)) (gN 4) (UU xO) (UP 4) [pb (Ke rs),pb (.int n),xN]=.ok (rs.flatten.map int) [pb (Ke rs),pb (.int n),xN]:=by unfold YK;have e1:Kx (UP 0) [pb (Ke rs),pb (.int n),xN]=.ok (rs.map Kf) [pb (Ke rs),pb (.int n),xN]:=ZD (UX xM) xM;rw[e1];dsimp only;have e2:=OP (a:=Ke rs) (b:=.int n) rs [] xN xN (by rw[QT];lia);have e3:YF (gN 3) (UU xO) (Kx (UP 3)) (gN 4) (UU xO) (UP 4) (rs.map Kf) (Km [pb (Ke rs),pb (.int n),xN]++UB 2 xN) []=O ([]++rs.flatten.map int):=e2;rw[e3];rfl
   refine Kk (Zo h2 (Qa xM) xM) ?_;have hls:Vc [.list (rs.flatten.map int)]=O (.int rs.flatten.length):=by unfold Vc;dsimp only;rw[Pi];dsimp only;rw[Qq (by lia),HM g.once]
   refine K4 (K5 (Ka (ZU (UW (Z8 xM xM) UZ) hls) (Zp xM ZE) Y0)) ?_;rw[Qb];simp
theorem TX{d:D}:∀{xs:xQ}{k i:Nat},(ZB k xs)[i]?=O d->∃x,xs[i]?=O x/\d=.tuple [.int ((k+i:Nat):Int),x]
 |[],k,i,h=>by cases h
 |x::r,k,0,h=>by cases h;exact⟨x,rfl,rfl⟩
 |x::r,k,i+1,h=>by obtain⟨y,e,q⟩:=TX (xs:=r) (k:=k+1) (i:=i) h;exact⟨y,e,by rw[q];congr 4;lia⟩
theorem SN:∀(n:Nat)(l:xR),l.Nodup->(∀x∈l,0<=x/\x<n)->l.length<=n
 |0,[],_,_=>Qr _
 |0,x::r,_,h=>by have:=h x Qf;lia
 |n+1,l,hn,h=>by
  by_cases hm:(n:Int)∈l
  .have:=SN n (l.erase (n:Int)) (hn.erase _) λx hx=>by
    have h1:=(List.Nodup.mem_erase_iff hn).mp hx;have h2:=h x h1.2;have h3:=h1.1
    lia
   rw[List.length_erase_of_mem hm]at this
   lia
  .have:=SN n l hn λx hx=>by
    have h2:=h x hx;have h3:x≠(n:Int):=λe=>hm (e ▸ hx)
    lia
   lia
theorem TW{n:Nat}{rs:List xR}(g:X8 n rs):rs.flatten.length<=n:=SN n _ g.once λx hx=>by obtain⟨r,hr,hxr⟩:=Ul.mp hx;exact g.there r hr x hxr
theorem qo{cs:xR}(h1:1<=cs.length)(h6:cs.length<=6)(h:∀c∈cs,0<=c/\c<8):WX [.list (cs.map int)]=O .none:=by
 refine Rs (ρ:=[pb (.list (cs.map int)),xN,xN]) xM ?_;unfold Tr;have hlen:KB [.list (cs.map int)]=O (.int cs.length):=by rw[ZE,Qb]
 apply KH;apply Kt
 case h1=>exact Xk (ρ1:=[pb (.list (cs.map int)),xN,xN]) (Yx (UX xM) xM) (YI (VJ U0 (Zp xM hlen) xM (λ_=>U0) (λ_=>rfl)))
 case h2=>
  intro hh;have a1:(1:Int)<=(cs.length:Int):=by lia
  have a2:(cs.length:Int)<=6:=by lia
  simp[a1,a2]at hh
 case h3=>
  intro _;refine KT (KR ?_);apply Ym (λ_ ρ=>∃x1 x2,ρ=[pb (.list (cs.map int)),x1,x2])
  case h1=>exact Vb (UW (UX xM) UZ) Vh
  case h0=>exact⟨_,_,rfl⟩
  case hst=>
   rintro i d ρ hi ⟨x1,x2,rfl⟩;obtain⟨x,hx,rfl⟩:=TX hi;obtain⟨c,hc,rfl⟩:=Qu.mp (QM hx);refine⟨_,Zw xM (KF (U8 (Qa xM) xM) (KF (U8 (Qa xM) xM) Zx)),?_⟩;unfold Mv;apply Kt
   case h1=>exact YI (Xn (Ky (UW (UX xM) (UW (Ka U0 U0 Yt) UZ)) xM (Hc (h c hc).1 (by have:=(h c hc).2;lia))))
   case h2=>intro hh;cases hh
   case h3=>exact λ_=>KT (Zv ⟨_,_,rfl⟩)
  case hend=>exact λρ ⟨x1,x2,e⟩=>⟨_,rfl⟩
theorem Ab{ls:L3}{n:Nat}(hn:n<=6)(h1:1<=ls.length)(h7:ls.length<=7)(h:∀rs∈ls,X8 n rs):WW [.list (ls.map Ke),.int n]=O .none:=by
 refine Rs (ρ:=[pb (.list (ls.map Ke)),pb (.int n),xN,xN]) xM ?_;unfold Tq;have hlen:KB [.list (ls.map Ke)]=O (.int ls.length):=by rw[ZE,Qb]
 apply KH;apply Kt
 case h1=>exact Xk (ρ1:=[pb (.list (ls.map Ke)),pb (.int n),xN,xN]) (Yx (UX xM) xM) (YI (VJ U0 (Zp xM hlen) xM (λ_=>U0) (λ_=>rfl)))
 case h2=>
  intro hh;have a1:(1:Int)<=(ls.length:Int):=by lia
  have a2:(ls.length:Int)<=7:=by lia
  simp[a1,a2]at hh
 case h3=>
  intro _;refine KT (KR ?_);apply Ym (λ_ ρ=>∃x2 x3,ρ=[pb (.list (ls.map Ke)),pb (.int n),x2,x3])
  case h1=>exact Vb (UW (UX xM) UZ) Vh
  case h0=>exact⟨_,_,rfl⟩
  case hst=>
   rintro i d ρ hi ⟨x1,x2,rfl⟩;obtain⟨x,hx,rfl⟩:=TX hi;obtain⟨rs,hrs,rfl⟩:=Qu.mp (QM hx);refine⟨_,Zw xM (KF (U8 (Qa xM) xM) (KF (U8 (Qa xM) xM) Zx)),?_⟩;unfold Mw;have hfl:=TW (h rs hrs);apply Kt
   case h1=>exact YI (Xn (Ky (UW (UX xM) (UW (UX xM) UZ)) xM (kN (h rs hrs) hn (by lia))))
   case h2=>intro hh;cases hh
   case h3=>exact λ_=>KT (Zv ⟨_,_,rfl⟩)
  case hend=>exact λρ ⟨x1,x2,e⟩=>⟨_,rfl⟩
theorem qm{cs:xR}{ls:L3}(g:Good cs ls):WV [Kj cs ls]=O .none:=by
 refine Rs (ρ:=[pb (Kj cs ls),xN,xN]) xM ?_;unfold Tp;apply KH;apply Kt
 case h1=>exact Xk (ρ1:=[pb (Kj cs ls),xN,xN]) (Yx (UX xM) xM) (Ka (Zp xM xM) U0 PV)
 case h2=>intro hh;cases hh
 case h3=>
  intro _;refine KT (KR ?_);have hlen:KB [.list (cs.map int)]=O (.int (cs.length:Nat)):=by rw[ZE,Qb]
  refine Kk (Rt (UX xM) (Zw xM (KF (U8 (Qa xM) xM) (KF (U8 (Qa xM) xM) Zx)))) ?_;refine Kk (VO (Ky (UW (UX xM) UZ) xM (qo g.c1 g.c6 g.c7))) ?_;exact KQ (VO (Ky (UW (UX xM) (UW (Zp xM hlen) UZ)) xM (Ab g.c6 g.l1 g.l7 g.rk))) ⟨_,rfl⟩
theorem LH:∀(xs ys:xR),PyData.eqvAll (xs.map int) (ys.map int)=decide (xs=ys)
 |[],[]=>rfl
 |[],y::ys=>by simp[PyData.eqvAll]
 |x::xs,[]=>by simp[PyData.eqvAll]
 |x::xs,y::ys=>by
  have ih:=LH xs ys
  show(UI (.int x) (.int y)&&PyData.eqvAll (xs.map int) (ys.map int))=_
  rw[ih];have:UI (.int x) (.int y)=decide (x=y):=rfl;rw[this,Bool.eq_iff_iff];simp
theorem ql{xs:xR}:oNe (.list (xs.map int)) (.list [])=O (!decide (xs=[])):=by
 unfold oNe;have h1:(UC (xs.map int)).canLay0=xO:=RZ xs;have h3:(UC (xs.map int)).depth<=60:=by have:=RY xs;unfold Kf at this;lia
 rw[Qq ⟨h1,rfl,h3⟩]
 congr 2
 exact LH xs []
theorem CJ{xs:xQ}{x:D}(h:xs.getLast?=O x):oIx (.list xs) (.int (-1))=O x:=by
 unfold oIx atI;have hl:xs≠[]:=by rintro rfl;cases h
 have hp:0<xs.length:=List.length_pos_iff.mpr hl;rw[List.getLast?_eq_getElem?]at h
 show(ixN xs.length (-1)).bind _=_
 unfold ixN;rw[Qw (by decide),Qq (by lia)];have e2:(-1+(xs.length:Int)).toNat=xs.length-1:=by lia
 simp only[J4];rw[e2];exact h
theorem P8{xs:xR}{k:Nat}(h:k<xs.length):oIx (.list (xs.map int)) (.int k)=O (.int (xs.getD k 0)):=by refine ZQ ?_;rw[Qp,Qe h];simp[List.getD,List.getElem?_eq_getElem h]
theorem Pk(ns:xR)(k:Nat)(hl:ns.length<=1000):∃v,YB [.list (ns.map int),.int k]=O (.int v):=by
 have hlen:KB [.list (ns.map int)]=O (.int ns.length):=by rw[ZE,Qb]
 by_cases h:k<ns.length
 .refine⟨ns.getD k 0,ZT (ρ:=[pb (.list (ns.map int)),pb (.int k)]) xM ?_⟩
  unfold WC;apply KH;apply Kt
  case h1=>exact YZ xM (Zp xM hlen) xM
  case h2=>exact λ_=>K4 (K2 xM (UX xM) (P8 h)) (Wc xM)
  case h3=>
        intro hh;have:¬(k:Int)<(ns.length:Int):=by simpa using hh
        lia
 .refine⟨0,ZT (ρ:=[pb (.list (ns.map int)),pb (.int k)]) xM ?_⟩
  unfold WC;apply KH;apply Kt
  case h1=>exact YZ xM (Zp xM hlen) xM
  case h2=>
        intro hh;have:(k:Int)<(ns.length:Int):=by simpa using hh
        lia
  case h3=>exact λ_=>KT (KR (K4 U0 xM))
noncomputable def tab:xR:=[1,1,2,0,3,7,1,4,5,6,1]
theorem NU{z:Int}(h0:0<=z)(h1:z<11):oIx (.list (tab.map int)) (.int z)=O (.int (tab.getD z.toNat 0))/\0<=tab.getD z.toNat 0/\tab.getD z.toNat 0<8:=by
 have e:z=0∨z=1∨z=2∨z=3∨z=4∨z=5∨z=6∨z=7∨z=8∨z=9∨z=10:=by lia
 rcases e with rfl|rfl|rfl|rfl|rfl|rfl|rfl|rfl|rfl|rfl|rfl<;>exact⟨rfl,by decide,by decide⟩
structure VE(n:Nat)(pl:xR)(j:Nat)(rs:List xR):Prop where
 few:rs.length<=j
 some:∀r∈rs,r≠[]
 there:∀r∈rs,∀t∈r,(0<=t/\t<n)/\pl.getD t.toNat 0<1+(j:Int)
 once:rs.flatten.Nodup
noncomputable def W4(n:Nat)(pl:xR)(r:Int):xR:=((UA n).filter λk=>decide (pl.getD k 0=r)).map λk:Nat=>(k:Int)
theorem kM(n:Nat)(pl:xR)(r:Int):(W4 n pl r).Nodup:=by unfold W4;refine List.Pairwise.map _ (λa b h e=>h (by lia)) ((List.nodup_range).filter _)
theorem L9{n:Nat}{pl:xR}{r t:Int}(h:t∈W4 n pl r):(0<=t/\t<n)/\pl.getD t.toNat 0=r:=by
 unfold W4 at h;obtain⟨k,hk,rfl⟩:=Qu.mp h;have hk:=JU.mp hk;have h1:=Jl.mp hk.1;have h2:pl.getD k 0=r:=by simpa using hk.2
 exact⟨⟨by lia,by lia⟩,by rw[Q1];exact h2⟩
theorem VE.add{n:Nat}{pl:xR}{j:Nat}{rs:List xR}{row:xR}(g:VE n pl j rs)(hne:row≠[])(hm:∀t∈row,t∈W4 n pl (1+(j:Int)))(hn:row.Nodup):VE n pl (j+1) (rs++[row]) where
 few:=by rw[Qk,Q4];have:=g.few;lia
 some:=λr hr=>by
  rcases QO.mp hr with z|z
  .exact g.some r z
  .rw[QE.mp z];exact hne
 there:=λr hr t ht=>by
  rcases QO.mp hr with z|z
  .have:=g.there r z t ht;exact⟨this.1,by lia⟩
  .rw[QE.mp z]at ht
   have:=L9 (hm t ht);exact⟨this.1,by lia⟩
 once:=by
  rw[List.flatten_append,List.flatten_singleton];refine QL.mpr ⟨g.once,hn,λa ha b hb e=>?_⟩;subst e;obtain⟨r,hr,har⟩:=Ul.mp ha;have h1:=(g.there r hr a har).2;have h2:=(L9 (hm a hb)).2
  lia
theorem VE.next{n:Nat}{pl:xR}{j:Nat}{rs:List xR}(g:VE n pl j rs):VE n pl (j+1) rs:=
 ⟨by have:=g.few;lia,g.some,λr hr t ht=>⟨(g.there r hr t ht).1,by have:=(g.there r hr t ht).2;lia⟩,g.once⟩
theorem MK{x:D}{m:Nat}(h:m<=1000):Ko (.list [x]) (.int m)=O (.list (UB m x)):=by
 rw[OX ⟨by lia,by lia,by rw[Q1];show 1*m<=_;lia⟩,Q1]
 congr 2
 induction m with
 |zero=>rfl
 |succ m ih=>rw[Q0,QG,ih (by lia)];rfl
noncomputable def szG(T A:Nat):xR:=(T:Int)::(A:Int)::UB T 11
noncomputable def Yb(T R:Nat):xR:=UB T ((R:Int)+1)++[2]
theorem MJ{T A:Nat}:(szG T A).length=T+2:=by unfold szG;simp
theorem LG{T R:Nat}:(Yb T R).length=T+1:=by unfold Yb;simp
theorem ET{T A:Nat}(h1:1<=T)(h2:T<=6)(h3:1<=A)(h4:A<=7):∀x∈szG T A,0<x/\x<18446744073709551616:=λx hx=>by unfold szG at hx;simp only[QC,JI]at hx;rcases hx with rfl|rfl|⟨_,rfl⟩<;>lia
theorem CI{T R:Nat}(h:R<=5):∀x∈Yb T R,0<x/\x<18446744073709551616:=λx hx=>by unfold Yb at hx;simp only[List.mem_append,QE,JI]at hx;rcases hx with ⟨_,rfl⟩|rfl<;>lia
theorem qi{T R:Nat}:(Yb T R)[T]?=O 2:=by unfold Yb;simp
theorem Fx{T A k:Nat}(h:k<T):(szG T A)[2+k]?=O 11:=by unfold szG;rw[show 2+k=k+1+1 by lia,Jw,Jw,QJ,Qq h]
def Px(T A R:Nat)(S dz:D)(at_ n:Nat)(cs pl:xR)(ls:L3)(x9 v7:Option Sl)(j:Nat)(ρ:UQ):Prop:=∃(rs:List xR)(vL vB:Option Sl),
 ρ=[pb S,pb (.int at_),pb (.int (T:Nat)),pb (.int (A:Nat)),pb (.int (R:Nat)),pb dz,O (.own (cs.map int)),O (.own (ls.map Ke)),x9,v7,pb (.list (pl.map int)),O (.own (rs.map Kf)),vL,vB]/\VE n pl j rs
theorem jm{T A R:Nat}{S dz:D}{at_ n:Nat}{cs pl:xR}{ls:L3}{v9 v10:D}{j:Nat}{d:D}{ρ:UQ}{Q:Out->Prop}(hcs:cs.length=n)(hT:T<=6)(hR:R<=5)(hn:n<=T)(hpl:pl.length=T+1)(vZ:pl.getD T 0=0∨pl.getD T 0=1)
  (hj:(Zr 1 ((R:Int)+1))[j]?=O d) (h:Px T A R S dz at_ n cs pl ls (O (.pub v9)) (O (.pub v10)) j ρ) :
  ∃ρ2,gN 12 d ρ=O ρ2/\Ho Oa ρ2 (Vn (Px T A R S dz at_ n cs pl ls (O (.pub v9)) (O (.pub v10)) (j+1)) Q):=by
 obtain⟨rs,vL,vB,rfl,g⟩:=h;obtain⟨rfl,hlt⟩:=T7 hj;have hj5:j<R:=by lia
 refine⟨_,U8 (Qa xM) xM,?_⟩;unfold Oa
 have hrd:Zr 0 ((n:Nat):Int)=(UA n).map λk=>.int (k:Int):=by
  unfold Zr;have:((n:Int)-0).toNat=n:=by lia
  rw[this];apply List.map_congr_left;intro k _;rw[Uk]
 have hc:Zi (gN 14) (UY oEq (U5 10 (UP 14)) (UP 12)) (UP 14) (Zr 0 ((n:Nat):Int)) (Km [pb S,pb (.int at_),pb (.int (T:Nat)),pb (.int (A:Nat)),pb (.int (R:Nat)),pb dz,O (.own (cs.map int)),O (.own (ls.map Ke)),pb v9,pb v10,pb (.list (pl.map int)),O (.own (rs.map Kf)),pb (.int (1+(j:Int))),vB]++UB 1 xN) []=O ((W4 n pl (1+(j:Int))).map int):=by
  rw[hrd,Vk (λd=>match d with | .int k=>decide (pl.getD k.toNat 0=1+(j:Int))|_=>xP) (λd=>d) (λρ=>∃x,ρ=[pb S,pb (.int at_),pb (.int (T:Nat)),pb (.int (A:Nat)),pb (.int (R:Nat)),pb dz,xN,xN,pb v9,pb v10,pb (.list (pl.map int)),xN,pb (.int (1+(j:Int))),Ku vB,x])]
  .rw[Jk,List.map_id',List.filter_map]
   unfold W4;rw[Jc];rfl
  .rintro d hm ρ ⟨x,rfl⟩
   obtain⟨k,hk,rfl⟩:=Qu.mp hm;have hk:=Jl.mp hk;refine⟨_,U8 (Qa xM) xM,Ka (K2 xM (UX xM) (P8 (by lia))) (UX xM) Y0,λ_=>UX xM,pb (.int k),?_⟩;unfold Km;cases vB with
   |none=>rfl
   |some sl=>cases sl<;>rfl
  .exact⟨xN,rfl⟩
  .rw[Qb,Q5,QT];lia
 have hlen:(cs.map int).length=n:=by rw[Qb,hcs]
 refine Kk (Zo (X2 (VQ (UW (MZ xM) UZ) (by rw[hlen];exact Vd (by lia) (by lia))) hc) (Qa xM) xM) ?_;generalize wZ:W4 n pl (1+(j:Int))=row;apply Kt
 case h1=>exact AX xM (KJ UZ (by decide)) xM ql
 case h2=>
  intro hh;have hne:row≠[]:=by simpa using hh
  have hlx:oIx (.list (pl.map int)) (.int (-1))=O (.int (pl.getD T 0)):=CJ (by rw[List.getLast?_eq_getElem?,Qb,hpl,Qp,Nat.add_sub_cancel,Qe (show T<pl.length by lia)];simp[List.getD,List.getElem?_eq_getElem (show T<pl.length by lia)])
  obtain⟨vV,hix,vX⟩:∃vV:xR,oIx (.list [.list (row.map int),.list (row.map int).reverse]) (.int (pl.getD T 0))=O (Kf vV)/\(vV=row∨vV=row.reverse):=by
   rcases vZ with e|e
   .rw[e];exact⟨row,rfl,.inl xM⟩
   .rw[e];exact⟨row.reverse,by show O (UC (row.map int).reverse)=_;unfold Kf;rw[List.map_reverse],.inr xM⟩
  have hrl:(rs.map Kf).length<1000000:=by rw[Qb];have:=g.few;lia
  refine KQ (YW xM (Ka (KJ (UW (Z8 xM xM) (UW (EQ (UX xM) U0 U0 (X3 (Ru U0))) UZ)) (Qa xM)) (K2 xM (Ru U0) hlx) hix) xM hrl xM) ?_;refine Zv ⟨rs++[vV],pb (.int (1+(j:Int))),pb (.list (row.map int)),by rw[QI];rfl,g.add ?_ ?_ ?_⟩
  .rcases vX with e|e<;>rw[e]
   .exact hne
   .exact λz=>hne (List.reverse_eq_nil_iff.mp z)
  .intro t ht
   rw[wZ];rcases vX with e|e<;>rw[e]at ht
   .exact ht
   .exact List.mem_reverse.mp ht
  .have hnd:=kM n pl (1+(j:Int))
   rw[wZ]at hnd;rcases vX with e|e<;>rw[e]
   .exact hnd
   .exact(List.reverse_perm row).nodup_iff.mpr hnd
 case h3=>exact λ_=>KT (Zv ⟨rs,_,_,rfl,g.next⟩)
def Pr(T A R:Nat)(S dz:D)(at_ n:Nat)(cs:xR)(i:Nat)(ρ:UQ):Prop:=∃(ls:L3)(x9 v7 wN wA vL vB:Option Sl),
 ρ=[pb S,pb (.int at_),pb (.int (T:Nat)),pb (.int (A:Nat)),pb (.int (R:Nat)),pb dz,O (.own (cs.map int)),O (.own (ls.map Ke)),x9,v7,wN,wA,vL,vB]/\ls.length=i/\∀rs∈ls,X8 n rs/\rs.length<=R
theorem kL{T A R:Nat}{ns:xR}{dz:D}{at_ n:Nat}{cs:xR}{i:Nat}{m:Int}{d:D}{ρ:UQ}{Q:Out->Prop}(hns:ns.length<=1000)(hT:T<=6)(hR:R<=5)(hcs:cs.length=n)(hn:n<=T)(hm:m<=100)
  (hi:(Zr 0 m)[i]?=O d) (h:Pr T A R (.list (ns.map int)) dz at_ n cs i ρ) :
  ∃ρ2,gN 8 d ρ=O ρ2/\Ho P9 ρ2 (Vn (Pr T A R (.list (ns.map int)) dz at_ n cs (i+1)) Q):=by
 obtain⟨ls,x9,v7,wN,wA,vL,vB,rfl,hl,hg⟩:=h;obtain⟨rfl,hlt⟩:=T7 hi;refine⟨_,U8 (Qa xM) xM,?_⟩;unfold P9;obtain⟨v,hv⟩:=Pk ns (at_+1+i) hns;have ev:((at_:Int)+1+(0+(i:Int)))=((at_+1+i:Nat):Int):=by lia
 rw[←ev]at hv;refine Kk (K0 (Ky (UW (UX xM) (UW (Ka (Ka (UX xM) U0 Yt) (UX xM) Yt) UZ)) xM hv) (Qa xM) xM) ?_;obtain⟨r,hF,pl,rfl,hpl,hpb⟩:=SW v (11*(at_:Int)+3*(0+(i:Int))+1) (sizes:=Yb T R) (CI hR) (by rw[LG];lia);have hpl7:pl.length=T+1:=by rw[hpl,LG]
 have hmul:Ko (.list [.int ((R:Int)+1)]) (.int (T:Nat))=O (.list (UB T (.int ((R:Int)+1)))):=MK (by lia);have hadd:U9 (.list (UB T (.int ((R:Int)+1)))) (.list [.int 2])=O (.list ((Yb T R).map int)):=by rw[Yn (by rw[QB];show T+1<=_;lia)];unfold Yb;rw[QI,List.map_replicate];rfl
 refine Kk (K0 (Ky (UW (UX xM) (UW (Ka (Ka (Ka U0 (UX xM) (R6 (by decide) (by decide))) (Ka U0 (UX xM) (R6 (by decide) (by decide))) Yt) U0 Yt) (UW (Ka (Ka (KJ (UW (Ka (UX xM) U0 Yt) UZ) (Qa xM)) (UX xM) hmul) (KJ (UW U0 UZ) (Qa xM)) hadd) UZ))) xM hF) (Qa xM) xM) ?_;refine Kk (Zo (Xp UZ (Qa xM)) (Qa xM) xM) ?_
 have vZ:pl.getD T 0=0∨pl.getD T 0=1:=by
  have e:pl[T]?=O pl[T]:=Qe (by lia);have:=hpb T pl[T] 2 e qi;have e2:pl.getD T 0=pl[T]:=by simp[List.getD,e]
  rw[e2];lia
 apply KH;apply Ym (Px T A R (.list (ns.map int)) dz at_ n cs pl ls (O (.pub (.int (0+(i:Int))))) (O (.pub (.int v))))
 case h1=>exact D7 (UW U0 (UW (Ka (UX xM) U0 Yt) UZ)) (Lk (by lia) (by lia) (by decide) (by decide))
 case h0=>exact⟨[],vL,vB,rfl,⟨Qr _,λ_ h=>(by cases h),λ_ h=>(by cases h),List.nodup_nil⟩⟩
 case hst=>exact λj d ρ e h=>jm hcs hT hR hn hpl7 vZ e h
 case hend=>
  rintro ρ ⟨rs,y13,y14,rfl,g⟩;refine KR ?_;have hl5:(Zr 1 ((R:Int)+1)).length=R:=by rw[VY];lia
  rw[hl5]at g;have yc:(ls.map Ke).length<1000000:=by rw[Qb];lia
  refine KQ (YW xM (Z8 xM xM) xM yc xM) ?_;refine Zv ⟨ls++[rs],pb (.int (0+(i:Int))),pb (.int v),pb (.list (pl.map int)),pb (.list (rs.map Kf)),y13,y14,by rw[QI];rfl,by rw[Qk,hl];rfl,λx hx=>?_⟩;rcases QO.mp hx with z|z
  .exact hg x z
  .rw[QE.mp z];exact⟨⟨by have:=g.few;lia,g.some,λr hr t ht=>(g.there r hr t ht).1,g.once⟩,g.few⟩
theorem kZ(T A R:Nat){ns:xR}(hns:ns.length<=1000)(at_:Nat)(hT1:1<=T:=by decide)(hT:T<=6:=by decide)(hA1:1<=A:=by decide)(hA:A<=7:=by decide)(hR:R<=5:=by decide):∃r,WT [.list (ns.map int),.int at_,.int (T:Nat),.int (A:Nat),.int (R:Nat)]=O r/\∃cs ls,r=Kj cs ls/\Good cs ls/\cs.length<=T/\ls.length<=A/\∀rs∈ls,rs.length<=R:=by
 obtain⟨v,hv⟩:=Pk ns at_ hns;obtain⟨r,hF,ds,rfl,hl,hd⟩:=SW v at_ (sizes:=szG T A) (ET hT1 hT hA1 hA) (by rw[MJ];lia);have hl8:ds.length=T+2:=by rw[hl,MJ]
 have at':∀(j:Nat)(k z:Int),k=j->(szG T A)[j]?=O z->∃d,oIx (.list (ds.map int)) (.int k)=O (.int d)/\ds[j]?=O d/\0<=d/\d<z:=λj k z hk hz=>by
  subst hk;have hj:j<ds.length:=by rw[hl];exact(Ql.mp hz).1
  have e:ds[j]?=O ds[j]:=Qe hj;obtain⟨p0,p1⟩:=hd j ds[j] z e hz;exact⟨ds[j],ZQ (by rw[Qp,e];rfl),e,p0,p1⟩
 obtain⟨d0,x0,e0,p0,q0⟩:=at' 0 0 T xM xM;obtain⟨d1,x1,e1,p1,q1⟩:=at' 1 1 A xM xM;have hmul:Ko (.list [.int 11]) (.int (T:Nat))=O (.list (UB T (.int 11))):=MK (by lia);have hadd:U9 (.list [.int (T:Nat),.int (A:Nat)]) (.list (UB T (.int 11)))=O (.list ((szG T A).map int)):=by rw[Yn (by rw[QB];show 2+T<=_;lia)];unfold szG;rw[Qx,Qx,List.map_replicate];rfl
 obtain⟨n,hn⟩:∃n:Nat,1+d0=n:=⟨(1+d0).toNat,by lia⟩
 refine Sz (ρ:=[pb (.list (ns.map int)),pb (.int at_),pb (.int (T:Nat)),pb (.int (A:Nat)),pb (.int (R:Nat)),xN,xN,xN,xN,xN,xN,xN,xN,xN]) xM ?_;unfold Tj;refine Kk (K0 (Ky (UW (Ky (UW (UX xM) (UW (UX xM) UZ)) xM hv) (UW (UX xM) (UW (Ka (KJ (UW (UX xM) (UW (UX xM) UZ)) (Qa xM)) (Ka (KJ (UW U0 UZ) (Qa xM)) (UX xM) hmul) hadd) UZ))) xM hF) (Qa xM) xM) ?_
 have hcut:DL.cutD (ds.map int) (O 2) (O (3+d0))=((ds.drop 2).take n).map int:=by
  rw[AW (by decide) (by lia) (by lia)];have:(3+d0).toNat-(2:Int).toNat=n:=by lia
  rw[this];rfl
 have wt:((ds.drop 2).take n).length=n:=by rw[Q7,Ud,hl8];lia
 have each:∀z∈(ds.drop 2).take n,0<=z/\z<11:=λz hz=>by
  have hz:=Ub hz;obtain⟨k,hk,e⟩:=List.getElem_of_mem hz;rw[Ud,hl8]at hk;rw[List.getElem_drop]at e;have e2:ds[2+k]?=O z:=by rw[←e];exact Qe _
  refine hd (2+k) z 11 e2 (Fx ?_)
  lia
 let cs:xR:=((ds.drop 2).take n).map λz=>tab.getD z.toNat 0
 have hcl:cs.length=n:=by show(List.map _ _).length=n;rw[Qb,wt]
 have hc:∀xs:List (Option Sl),Km xs=xs->xs.length=14->Zi (gN 14) (UU xO) (UY oIx (U7 (UT (UU (.int 1)) (UT (UU (.int 1)) (UT (UU (.int 2)) (UT (UU (.int 0)) (UT (UU (.int 3)) (UT (UU (.int 7)) (UT (UU (.int 1)) (UT (UU (.int 4)) (UT (UU (.int 5)) (UT (UU (.int 6)) (UT (UU (.int 1)) (UR))))))))))))) (UP 14)) (((ds.drop 2).take n).map int) (Km xs++UB 1 xN) []=O (cs.map int):=by
  intro xs hx hxl;rw[hx,Vk (λ_=>xO) (λd=>match d with | .int z=>.int (tab.getD z.toNat 0)|_=>.none) (λρ=>∃x,ρ=xs++[x])]
  .rw[JP.mpr (λ_ _=>rfl),Jk,Jc]
   show _=O ((((ds.drop 2).take n).map λz=>tab.getD z.toNat 0).map int);rw[Jc];rfl
  .rintro d hm ρ ⟨x,rfl⟩
   obtain⟨z,hz,rfl⟩:=Qu.mp hm;have ht:=NU (each z hz).1 (each z hz).2;have hset:(xs++[x]).set 14 (O (Sl.pub (.int z)))=xs++[pb (.int z)]:=by rw[List.set_append_right _ _ (by lia),hxl];rfl
   have hget:(xs++[O (Sl.pub (.int z))])[14]?=O (O (Sl.pub (.int z))):=by rw[QF (by lia),hxl];rfl
   refine⟨_,U8 (by rw[Qk,hxl];exact Qa xM) hset,rfl,λ_=>?_,pb (.int z),?_⟩
   .exact Ka (KJ (UW U0 (UW U0 (UW U0 (UW U0 (UW U0 (UW U0 (UW U0 (UW U0 (UW U0 (UW U0 (UW U0 UZ))))))))))) (Qa xM)) (UX hget) ht.1
   .unfold Km at hx⊢
    rw[QI,hx];rfl
  .exact⟨xN,rfl⟩
  .rw[Qb,wt,QT];lia
 refine Kk (Zo (X2 (ZD (VA (UX xM) (X3 U0) (X3 (Ka U0 (K2 xM U0 x0) Yt)) (by rw[T4,hcut])) MW) (hc _ xM xM)) (Qa xM) xM) ?_;refine Kk (Zo (Xp UZ (Qa xM)) (Qa xM) xM) ?_;apply KH;apply Ym (Pr T A R (.list (ns.map int)) (.list (ds.map int)) at_ n cs)
 case h1=>exact VQ (UW (Ka U0 (K2 xM U0 x1) Yt) UZ) (Vd (by lia) (by lia))
 case h0=>exact⟨[],_,_,_,_,_,_,rfl,rfl,λ_ h=>by cases h⟩
 case hst=>exact λi d ρ e h=>kL hns hT hR hcl (by lia) (by lia) e h
 case hend=>rintro ρ ⟨ls,y9,y10,y11,y12,y13,y14,rfl,yc,hg⟩;rw[VY]at yc;refine KR (K4 (Zs (UW (Z8 rfl rfl) (UW (Z8 rfl rfl) UZ)) (Qa rfl)) ⟨_,rfl,cs,ls,rfl,⟨?_,by lia,by lia,λrs hrs=>(hg rs hrs).2⟩⟩);exact⟨by lia,by lia,λc hc=>by obtain⟨z,hz,rfl⟩:=Qu.mp hc;exact(NU (each z hz).1 (each z hz).2).2,by lia,by lia,λrs hrs=>by rw[hcl];exact(hg rs hrs).1⟩
noncomputable def U6:xZ->D
 |none=>.none
 |some t=>.int t
noncomputable def KE(ws:LO):D:=.list (ws.map U6)
structure Deal(cs:xR)(ls:L3)(ws:LO):Prop where
 len:ws.length=ls.length
 wish:∀(i:Nat) t rs,ws[i]?=O (O t)->ls[i]?=O rs->t∈rs.flatten
 cop:∀(k:Nat) c,cs[k]?=O c->((ws.count (O (k:Int)):Nat):Int)<=c
theorem RX(ws:LO):UG (ws.map U6)=xO:=Wa λx hx=>by obtain⟨y,_,rfl⟩:=Qu.mp hx;cases y<;>rfl
theorem MI(a b:xZ):UI (U6 a) (U6 b)=decide (a=b):=by rw[Bool.eq_iff_iff];cases a<;>cases b<;>simp[U6,UI]
theorem LF{f:M xQ}{k:Nat}{s:D->UQ->xX}{t:M Bool}{g:M D}{ρ ρ1:UQ}{ds es:xQ}(h1:f ρ=.ok ds ρ1)(h2:Zi s t g ds (Zb ρ1++UB k xN) []=O es)(h3:es.all flat=xO):Wp f k s t g ρ=.ok es ρ1:=by unfold Wp;rw[h1];dsimp only;rw[h2];dsimp only;rw[if_pos h3]
theorem qh{cs:xR}{ls:L3}{rs:List xR}{i:Nat}(hi:ls[i]?=O rs)(hl:rs.flatten.length<64):WS [Kj cs ls,.int i]=O (.list ((YU rs.flatten).map int)):=by
 refine ZT (ρ:=[pb (Kj cs ls),pb (.int i)]) xM ?_;unfold Ti;have i1:oIx (Kj cs ls) (.int 1)=O (.list (ls.map Ke)):=ZQ (j:=1) xM;have i2:oIx (.list (ls.map Ke)) (.int i)=O (Ke rs):=ZQ (by rw[Qp,hi];rfl)
 have hs:TC [Ke rs,.list []]=O (.list (rs.flatten.map int)):=by
  have e:Ke rs=.list ((rs.map λr=>r.map int).map UC):=by unfold Ke;rw[Jc];rfl
  have e2:(rs.map λr=>r.map int).flatten=rs.flatten.map int:=by rw[List.map_flatten]
  rw[e];unfold TC;dsimp only;rw[jD];dsimp only;rw[e2,Qq (by rw[Qb];lia)]
 exact K4 (ZU (UW (ZU (UW (Ka (K2 xM U0 i1) (UX xM) i2) (UW (KJ UZ (Qa xM)) UZ)) hs) UZ) (jt hl)) xM
structure VG(cs:xR)(ls:L3)(lf:xR)(ws:LO):Prop where
 wish:∀(i:Nat) t rs,ws[i]?=O (O t)->ls[i]?=O rs->t∈rs.flatten
 len:lf.length=cs.length
 cop:∀(k:Nat) c,cs[k]?=O c->lf[k]?=O (c-((ws.count (O (k:Int)):Nat):Int))/\0<=c-((ws.count (O (k:Int)):Nat):Int)
theorem Hx{ls:L3}{ws:LO}{o:xZ}{rs:List xR}(h:∀(i:Nat) t rs,ws[i]?=O (O t)->ls[i]?=O rs->t∈rs.flatten)(hi:ls[ws.length]?=O rs)(ho:∀t,o=O t->t∈rs.flatten) :
  ∀(i:Nat) t rs,(ws++[o])[i]?=O (O t)->ls[i]?=O rs->t∈rs.flatten:=by
 intro j t rs' e1 e2;by_cases hj:j<ws.length
 .rw[QA hj]at e1;exact h j t rs' e1 e2
 .by_cases ye:j=ws.length
  .subst ye
   rw[hi]at e2;cases e2;rw[QF (Qr _),Nat.sub_self,J0]at e1;cases e1;exact ho t xM
  .rw[Jd (by rw[Qk,Q4];lia)]at e1
   cases e1
theorem VG.none{cs:xR}{ls:L3}{lf:xR}{ws:LO}{rs:List xR}(d:VG cs ls lf ws)(hi:ls[ws.length]?=O rs):VG cs ls lf (ws++[Option.none]) where
 wish:=Hx d.wish hi λt e=>by cases e
 len:=d.len
 cop:=λk c e=>by rw[List.count_append];simpa using d.cop k c e
theorem VG.give{cs:xR}{ls:L3}{lf:xR}{ws:LO}{rs:List xR}{t v:Int}(d:VG cs ls lf ws)(hi:ls[ws.length]?=O rs)(ht:t∈rs.flatten)(h0:0<=t)(hv:lf[t.toNat]?=O v)(hp:0<v):VG cs ls (lf.set t.toNat (v-1)) (ws++[O t]) where
 wish:=Hx d.wish hi λt' e=>by cases e;exact ht
 len:=by rw[QU];exact d.len
 cop:=λk c e=>by
  obtain⟨h1,h2⟩:=d.cop k c e;rw[List.count_append];by_cases hk:t=(k:Int)
  .subst hk
   rw[Q1]at hv⊢;rw[h1]at hv;cases hv;have hl:k<lf.length:=(Ql.mp h1).1;rw[QK hl];simp only[JT];refine⟨by congr 1;lia,by lia⟩
  .have hne:t.toNat≠k:=by lia
   rw[Qj hne];have:List.count (O (k:Int)) [O t]=0:=by rw[List.count_eq_zero];intro z;have:=QE.mp z;exact hk (Je this).symm
   rw[this];exact⟨h1,h2⟩
theorem Fw{os:LO}{k:Nat}(h:k<os.length):oIx (.list (os.map U6)) (.int k)=O (U6 os[k]):=ZQ (by rw[Qp,Qe h];rfl)
theorem LD{ws:LO}{o:xZ}:(ws++[o]).map U6=ws.map U6++[U6 o]:=by rw[QI];rfl
def V5(cs:xR)(ls:L3)(c s:D)(dg:xR)(i:Nat)(ρ:UQ):Prop:=∃(lf:xR)(ws:LO)(x6 x7 x8:Option Sl),
 ρ=[pb (Kj cs ls),pb c,pb s,O (.own (lf.map int)),pb (.list (dg.map int)),O (.own (ws.map U6)),x6,x7,x8]/\ws.length=i/\VG cs ls lf ws
theorem RW(ws:LO):(KE ws).depth<=2:=VH (X9 λx hx=>by obtain⟨y,_,rfl⟩:=Qu.mp hx;cases y<;>simp[U6,UH])
theorem P7(ws:LO):oNe (KE ws) (KE ws)=O xP:=by unfold oNe;have h:(KE ws).canLay0=xO:=RX ws;rw[Qq ⟨h,h,by have:=RW ws;omega⟩,TY _ h];rfl
section
variable{cs:xR}{ls:L3}{ws:LO}
theorem GU:oIx (Kj cs ls) (.int 1)=O (.list (ls.map Ke)):=ZQ (j:=1) xM
end
theorem Fv{a b:xZ}:oEq (U6 a) (U6 b)=O (decide (a=b)):=by unfold oEq;rw[if_pos ⟨by cases a<;>rfl,by cases b<;>rfl,by cases a<;>simp[U6,UH]⟩,MI]
theorem Fu{a b:xZ}:oNe (U6 a) (U6 b)=O (!decide (a=b)):=by unfold oNe;rw[if_pos ⟨by cases a<;>rfl,by cases b<;>rfl,by cases a<;>simp[U6,UH]⟩,MI]
theorem PJ{x:D}{m:Nat}(h:m<=1000):Ko (.list [x]) (.int m)=O (.list (UB m x)):=by
 rw[OX ⟨by lia,by lia,by show 1*_<=_;lia⟩]
 congr 2
 rw[Q1];clear h;induction m with
 |zero=>rfl
 |succ n ih=>rw[Q0,QG,ih,Q0];rfl
theorem Dk{op:Int->Int->xT}{j:Nat}{f:M D}{ρ ρ1 ρ':UQ}{a b:Int}{d:D}(h0:ρ[j]?=O (O (.pub (.int a))))(h1:f ρ=.ok (.int b) ρ1)(h2:op a b=O d)(h3:j<ρ1.length)(h4:ρ1.set j (O (.pub d))=ρ'):Y8 op j f ρ=.nx ρ':=by unfold Y8;rw[h0];dsimp only[sB];rw[h1];dsimp only;rw[h2];dsimp only;rw[Qq h3,h4]
theorem OO{B:Nat}:∀{xs:xQ},(∀x∈xs,PyData.leavesShort B x=xO)->PyData.leavesShortAll B xs=xO
 |[],_=>rfl
 |x::xs,h=>by rw[PyData.leavesShortAll,h x Qf,OO λy hy=>h y (Qh _ hy)];rfl
theorem O7:∀{xs:xQ},(∀x∈xs,PyData.showable x=xO)->PyData.showableAll xs=xO
 |[],_=>rfl
 |x::xs,h=>by rw[PyData.showableAll,h x Qf,O7 λy hy=>h y (Qh _ hy)];rfl
theorem O6{n:Nat}:∀{xs:xQ},(∀x∈xs,PyData.bulk x<=n)->PyData.bulkAll xs<=xs.length*(n+1)
 |[],_=>by simp[PyData.bulkAll]
 |x::xs,h=>by have h1:=h x Qf;have h2:=O6 (xs:=xs) λy hy=>h y (Qh _ hy);rw[PyData.bulkAll,Qs,Nat.succ_mul];omega
theorem ten{i:Int}(h:0<=i/\i<10):(int i).leavesShort 8=xO/\(int i).showable=xO:=by
 have:i=0∨i=1∨i=2∨i=3∨i=4∨i=5∨i=6∨i=7∨i=8∨i=9:=by omega
 rcases this with rfl|rfl|rfl|rfl|rfl|rfl|rfl|rfl|rfl|rfl<;>decide +kernel
theorem VU{a b:Str}(h1:UF a=xO)(h2:UF b=xO):UF (a++b)=xO:=by unfold UF at *;rw[PySem.Str.cps_append,Array.all_append,h1,h2];rfl
theorem Gc:∀(ts:List Str)(k:Nat)(acc:Str),UF acc=xO->(∀t∈ts,UF t=xO)->UF (textFrom k acc ts)=xO
 |[],k,acc,h,_=>h
 |t::r,k,acc,h,ht=>by
  refine Gc r (k+1) _ (VU (VU h ?_) (ht t Qf)) λx hx=>ht x (Qh _ hx)
  split<;>decide +kernel
theorem HN:∀{xs:xQ}{t:Str},t∈PyData.shownAll xs->∃x∈xs,t=x.shown
 |[],t,h=>by cases h
 |x::xs,t,h=>by
  rw[PyData.shownAll]at h;rcases QC.mp h with h|h
  .exact⟨x,Qf,h⟩
  .obtain⟨y,hy,e⟩:=HN h
   exact⟨y,Qh _ hy,e⟩
theorem xo{xs:xQ}(h:∀x∈xs,UF x.shown=xO):UF (UC xs).shown=xO:=by show UF (textFrom 0 "[" (PyData.shownAll xs) ++ "]")=xO;exact VU (Gc _ _ _ (by decide +kernel) λt ht=>by obtain⟨x,hx,rfl⟩:=HN ht;exact h x hx) (by decide +kernel)
theorem Ft{i:Int}(h:0<=i/\i<10):UF (int i).shown=xO:=by
 have:i=0∨i=1∨i=2∨i=3∨i=4∨i=5∨i=6∨i=7∨i=8∨i=9:=by omega
 rcases this with rfl|rfl|rfl|rfl|rfl|rfl|rfl|rfl|rfl|rfl<;>decide +kernel
theorem Aa{xs:xQ}{a b:xZ}:(DL.cutD xs a b).length<=xs.length:=by
 unfold DL.cutD;rw[Q7,Ud]
 lia
theorem B9{xs:xQ}{a b:xZ}{x:D}(h:x∈DL.cutD xs a b):x∈xs:=by unfold DL.cutD at h;exact List.mem_of_mem_drop (Ub h)
theorem qg{ns:xR}{n:Int}{a b:xZ}{i:Nat}{x:D}(h:(int n::DL.cutD (ns.map int) a b)[i]?=O x):∃c:Int,x=.int c:=by
 have hm:=QM h;rcases QC.mp hm with rfl|hm
 .exact⟨n,rfl⟩
 .obtain⟨c,_,rfl⟩:=Qu.mp (B9 hm)
  exact⟨c,rfl⟩
theorem qf{ns:xR}{n:Int}{a b:xZ}(h:ns.length<=1000):U9 (.list [.int n]) (.list (DL.cutD (ns.map int) a b))=O (.list (int n::DL.cutD (ns.map int) a b)):=Yn (by
 have:=Aa (xs:=ns.map int) (a:=a) (b:=b);rw[Qb]at this;show 1+_<=_
 lia)
noncomputable def whB:D->Bool
 |.int _=>xO
 |_=>xP
noncomputable def Zm(n:Int):D->Bool
 |.int i=>decide (0<=i)&&decide (i<n)
 |_=>xP
noncomputable def rkB(n:Int):D->Bool
 |.list (x::xs)=>(x::xs).all (Zm n)
 |_=>xP
noncomputable def whI:D->xZ
 |.int i=>O i
 |_=>xN
noncomputable def itI:D->xR
 |.list xs=>xs.filterMap whI
 |_=>[]
noncomputable def flI(rs:xQ):xR:=rs.flatMap itI
noncomputable def Yg(n:Int):D->Bool
 |.list rs=>decide (rs.length<=5)&&(rs.all (rkB n)&&decide (flI rs).Nodup)
 |_=>xP
theorem Sc(n:Int)(rs:xQ):Yg n (.list rs)=(decide (rs.length<=5)&&(rs.all (rkB n)&&decide (flI rs).Nodup)):=rfl
theorem Hw(d:D):XT [d]=O (.bool (whB d)):=by
 cases d with
 |dict kvs=>exact ZT (ρ:=[pb (.dict kvs)]) xM (K4 (TN (t:=xP) (u:=xP) (ED (UX xM)) λz=>by cases z) xM)
 |_=>rfl
theorem Hv(d:D)(n:Int):ZN [d,.int n]=O (.bool (Zm n d)):=by
 refine ZT (ρ:=[pb d,pb (.int n)]) xM ?_;unfold WF;cases d with
 |int i=>exact K4 (TN (t:=xO) (u:=decide (0<=i)&&decide (i<n)) (Ky (UW (UX xM) UZ) xM (Hw (.int i))) (λ_=>K5 (VJ U0 (UX xM) xM (λ_=>UX xM) (λ_=>rfl)))) xM
 |_=>exact K4 (TN (t:=xP) (u:=xP) (Ky (UW (UX xM) UZ) xM (Hw _)) (λz=>by cases z)) xM
theorem B8{n:Int}{d:D}(h:Zm n d=xO):∃i,d=.int i/\0<=i/\i<n:=by
 cases d with
 |int i=>have h:(decide (0<=i)&&decide (i<n))=xO:=h;simp only[Qz,Q6]at h;exact⟨i,rfl,h⟩
 |_=>cases h
theorem LC{n:Int}:∀{xs:xQ},xs.all (Zm n)=xO->xs=(xs.filterMap whI).map int
 |[],_=>rfl
 |x::r,h=>by rw[JK,Qz]at h;obtain⟨i,rfl,_⟩:=B8 h.1;have ih:=LC h.2;show _=(i::r.filterMap whI).map int;rw[Qx,←ih]
theorem Fs{n:Int}{d:D}(h:rkB n d=xO):d=.list ((itI d).map int):=by
 cases d with
 |list xs=>
  cases xs with
  |nil=>cases h
  |cons x r=>exact JX UC (LC h)
 |_=>cases h
theorem Hu{q:D->Bool}(xs:xQ):Yy [.list (xs.map λd=>.bool (q d))]=O (.bool (xs.all q)):=by
 have:(xs.map λd=>UD (q d))=(xs.map q).map UD:=by rw[Jc];rfl
 rw[this,MV]
 congr 2
 rw[List.all_map];rfl
theorem kK{d:D}{n:Int}(hl:∀xs,d=.list xs->xs.length<=700):YR [d,.int n]=O (.bool (rkB n d)):=by
 refine ZT (ρ:=[pb d,pb (.int n)]) xM ?_;unfold WE;apply KH;cases d with
 |list xs=>
  have hl:=hl xs xM;apply Kt (b:=decide ((xs.length:Int)=0))
  case h1=>exact Xk (ρ1:=[pb (.list xs),pb (.int n)]) (Yx (UX xM) xM) (Ka (Zp xM ZE) U0 Y0)
  case h2=>
   intro hh;have:(xs.length:Int)=0:=by simpa using hh
   have e:xs=[]:=List.eq_nil_of_length_eq_zero (by lia);subst e;exact K4 U0 (Wc xM)
  case h3=>
   intro hh;have hne:¬(xs.length:Int)=0:=by simpa using hh
   refine KT (KR ?_)
   have hc:Zi (gN 2) (UU xO) (U4 2 ZN (UT (UP 2) (UT (UP 1) (UR)))) xs (Km [pb (.list xs),pb (.int n)]++UB 1 xN) []=O (xs.map λd=>.bool (Zm n d)):=by
    rw[Vk (λ_=>xO) (λd=>.bool (Zm n d)) (λρ=>∃x,ρ=[pb (.list xs),pb (.int n),x])]
    .rw[JP.mpr (λ_ _=>rfl),Jk]
    .rintro d hm ρ ⟨x,rfl⟩
     exact⟨_,U8 (Qa xM) xM,rfl,λ_=>Ky (UW (UX xM) (UW (UX xM) UZ)) xM (Hv d n),_,rfl⟩
    .exact⟨xN,rfl⟩
    .rw[QT];lia
   refine K4 (ZU (UW (K5 (X2 (ZD (UX xM) xM) hc)) UZ) (Hu xs)) ?_;cases xs with
   |nil=>exact absurd xM hne
   |cons x r=>rfl
 |dict kvs=>exact Kt (b:=xO) (XX (SA (UX xM))) (λ_=>K4 U0 (Wc xM)) (λz=>by cases z)
 |_=>exact Kt (b:=xO) (XX (Yx (UX xM) xM)) (λ_=>K4 U0 (Wc xM)) (λz=>by cases z)
theorem qe{ns:xR}:∀i,(PyProof.Rows.firstMet (λi=>ns.getD i 0) i).length<=i:=by
 intro i;induction i with
 |zero=>exact Qr _
 |succ i ih=>
  rw[PyProof.Rows.firstMet_succ];unfold PyProof.Rows.step_dedup;split
  .lia
  .rw[Qk,Q4];lia
theorem xf{ns:xR}(h:XY ns=ns.length):ns.Nodup:=by
 unfold XY at h
 have key:∀i,i<=ns.length->(PyProof.Rows.firstMet (λi=>ns.getD i 0) i).length=i->(ns.take i).Nodup:=by
  intro i;induction i with
  |zero=>intro _ _;simp
  |succ i ih=>
   intro hi e;rw[PyProof.Rows.firstMet_succ]at e;unfold PyProof.Rows.step_dedup at e;cases hany:(PyProof.Rows.firstMet (λi=>ns.getD i 0) i).any (· == ns.getD i 0)with
   |true=>
    rw[hany,Qq xM]at e;have:=qe (ns:=ns) i
    lia
   |false=>
    rw[hany,Qw (by decide),Qk]at e;have e:(PyProof.Rows.firstMet (λi=>ns.getD i 0) i).length=i:=by simpa using e
    have ih:=ih (by lia) e;rw[List.take_succ_eq_append_getElem (by lia),List.nodup_append];refine⟨ih,by simp,λa ha b hb=>?_⟩;rw[QE]at hb;subst hb;rw[PyProof.Rows.firstMet_any,List.any_eq_false]at hany;obtain⟨j,hj,rfl⟩:=List.mem_take_iff_getElem.mp ha;have hj':j<i:=by have:=hj;lia
    have:=hany (ns.getD j 0) (List.mem_map.mpr ⟨j,Jl.mpr hj',rfl⟩);have l1:j<ns.length:=by lia
    have l2:i<ns.length:=by lia
    simp only[List.getD,Qe l1,Qe l2,JY,beq_iff_eq]at this;exact this
 have:=key ns.length (Qr _) h;rwa[Jr]at this
theorem qd{ns:xR}(h:ns.length<=3500):∃u:Nat,Vc [.list (ns.map int)]=O (.int u)/\decide ((u:Int)=ns.length)=decide ns.Nodup:=by
 refine⟨XY ns,?_,?_⟩
 .unfold Vc
  dsimp only;rw[Pi];dsimp only;rw[Qq (by lia)]
 .by_cases e:ns.Nodup
  .rw[HM e,decide_eq_true e];simp
  .rw[QN e,QN]
   intro z;exact e (xf (by lia))
def ZL(d:D):Prop:=∀rs,d=.list rs->∀xs,.list xs∈rs->xs.length<=700
theorem Ga{n:Int}:∀{rs:xQ},rs.all (rkB n)=xO->(∀xs,.list xs∈rs->xs.length<=700)->∃ls:List xR,rs=ls.map Kf/\flI rs=ls.flatten/\ls.flatten.length<=700*rs.length
 |[],_,_=>⟨[],rfl,rfl,by simp⟩
 |d::r,h,hs=>by
  rw[JK,Qz]at h;obtain⟨ls,e1,e2,e3⟩:=Ga h.2 λxs hx=>hs xs (Qh _ hx)
  have hd:=Fs h.1;have hl:=hs ((itI d).map int) (by rw[←hd];exact Qf);rw[Qb]at hl;refine⟨itI d::ls,?_,?_,?_⟩
  .rw[Qx,←e1]
   exact JX (· :: r) hd
  .show itI d++flI r=_
   rw[e2,QG]
  .rw[QG,Qk,Qs];lia
theorem xb{d:D}{n:Int}(hs:ZL d):YQ [d,.int n]=O (.bool (Yg n d)):=by
 refine ZT (ρ:=[pb d,pb (.int n),xN]) xM ?_;unfold WD;apply KH;cases d with
 |list rs=>
  have hs:=hs rs xM;apply Kt (b:=decide ((5:Int)<rs.length))
  case h1=>exact Xk (ρ1:=[pb (.list rs),pb (.int n),xN]) (Yx (UX xM) xM) (Ka (Zp xM ZE) U0 xM)
  case h2=>
   intro hh;have:(5:Int)<(rs.length:Int):=by simpa using hh
   refine K4 U0 (Wc ?_);rw[Sc,QN (by lia:¬rs.length<=5)];rfl
  case h3=>
   intro hh;have h5:¬(5:Int)<(rs.length:Int):=by simpa using hh
   refine KT (KR ?_)
   have hc:Zi (gN 3) (UU xO) (U4 2 YR (UT (UP 3) (UT (UP 1) (UR)))) rs (Km [pb (.list rs),pb (.int n),xN]++UB 1 xN) []=O (rs.map λd=>.bool (rkB n d)):=by
    rw[Vk (λ_=>xO) (λd=>.bool (rkB n d)) (λρ=>∃x,ρ=[pb (.list rs),pb (.int n),xN,x])]
    .rw[JP.mpr (λ_ _=>rfl),Jk]
    .rintro d hm ρ ⟨x,rfl⟩
     exact⟨_,U8 (Qa xM) xM,rfl,λ_=>Ky (UW (UX xM) (UW (UX xM) UZ)) xM (kK (λxs e=>hs xs (by rw[←e];exact hm))),_,rfl⟩
    .exact⟨xN,rfl⟩
    .rw[QT];lia
   apply KH;apply Kt
   case h1=>exact YI (Xn (ZU (UW (K5 (X2 (ZD (UX xM) xM) hc)) UZ) (Hu rs)))
   case h2=>
    intro hh;have e:rs.all (rkB n)=xP:=by simpa using hh
    refine K4 U0 (Wc ?_);rw[Sc,e,Uh,Uc]
   case h3=>
    intro hh;have e:rs.all (rkB n)=xO:=by simpa using hh
    refine KT (KR ?_);obtain⟨ls,e1,e2,e3⟩:=Ga e hs;have hfl:ls.flatten.length<=3500:=by lia
    subst e1;have h2:YK (Kx (UP 0)) 2 (gN 3) (UU xO) (Kx (UP 3)) (gN 4) (UU xO) (UP 4) [pb (.list (ls.map Kf)),pb (.int n),xN]=.ok (ls.flatten.map int) [pb (.list (ls.map Kf)),pb (.int n),xN]:=by unfold YK;have e1:Kx (UP 0) [pb (.list (ls.map Kf)),pb (.int n),xN]=.ok (ls.map Kf) [pb (.list (ls.map Kf)),pb (.int n),xN]:=ZD (UX xM) xM;rw[e1];dsimp only;have e2:=OP (a:=.list (ls.map Kf)) (b:=.int n) ls [] xN xN (by rw[QT];lia);have e3:YF (gN 3) (UU xO) (Kx (UP 3)) (gN 4) (UU xO) (UP 4) (ls.map Kf) (Km [pb (.list (ls.map Kf)),pb (.int n),xN]++UB 2 xN) []=O ([]++ls.flatten.map int):=e2;rw[e3];rfl
    refine Kk (Zo h2 (Qa xM) xM) ?_;obtain⟨u,hu1,hu2⟩:=qd hfl;refine K4 (K5 (Ka (ZU (UW (Z8 xM xM) UZ) hu1) (Zp xM ZE) Y0)) ?_;rw[Qb,hu2];rw[Sc,QW (by lia:(ls.map Kf).length<=5),e,e2,Um,Um]
 |dict kvs=>exact Kt (b:=xO) (XX (SA (UX xM))) (λ_=>K4 U0 (Wc xM)) (λz=>by cases z)
 |_=>exact Kt (b:=xO) (XX (Yx (UX xM) xM)) (λ_=>K4 U0 (Wc xM)) (λz=>by cases z)
noncomputable def ZY:D->Option (Str×D)
 |.tuple [c,l]=>(match c with
  |.list cs=>if 1<=cs.length/\cs.length<=6 then(match fb (Zm 8) 0 cs with
    |some k=>O ("copies", .int k)
    |none=>(match l with
     |.list ls=>if 1<=ls.length/\ls.length<=7 then(match fb (Yg cs.length) 0 ls with
       |some k=>O ("lists", .int k)
       |none=>xN)else O ("lists", .none)
     |_=>O ("lists", .none)))else O ("copies", .none)
  |_=>O ("copies", .none))
 |_=>O ("wishes", .none)
noncomputable def Tt(o:Option (Str×D)):XR:=match o with
 |none=>.val .none
 |some (p,n)=>.exc (exD "NoWishes" [.str p,n])
theorem Ws{p:Str}{n:D}(h1:p.length<=1000)(h2:Wh n=xO):Wg "NoWishes" [.str p,n]=O [.str p,n]:=by have e:ZO "NoWishes" = (["part", "number"]:List Str):=rfl;unfold Wg;rw[e];dsimp only;have h3:Wh (.str p)=xO:=QW h1;rw[Qq ⟨rfl,by rw[JK,JK,h2,h3];rfl⟩]
theorem MH{j:Nat}(h:j<1000000):Wh (.int j)=xO:=by
 unfold Wh;simp only[Qz,Q6]
 constructor<;>lia
noncomputable def Zg(c:D):Option (Str×D):=match c with
 |.list cs=>if 1<=cs.length/\cs.length<=6 then(match fb (Zm 8) 0 cs with
  |some k=>O ("copies", .int k)
  |none=>xN)else O ("copies", .none)
 |_=>O ("copies", .none)
noncomputable def Zz(n:Int)(l:D):Option (Str×D):=match l with
 |.list ls=>if 1<=ls.length/\ls.length<=7 then(match fb (Yg n) 0 ls with
  |some k=>O ("lists", .int k)
  |none=>xN)else O ("lists", .none)
 |_=>O ("lists", .none)
theorem Pf{m:Nat}{k:Int}:(!(decide ((1:Int)<=m)&&decide ((m:Int)<=k)))=decide (¬(1<=m/\(m:Int)<=k)):=by
 by_cases h:(1:Int)<=m<;>by_cases h2:(m:Int)<=k
 .rw[QW h,QW h2,QN (by lia)];rfl
 .rw[QN h2,Uc,QW (by lia)];rfl
 .rw[QN h,Uh,QW (by lia)];rfl
 .rw[QN h,Uh,QW (by lia)];rfl
theorem Dj(d:D):Pn [d]=O (Tt (Zg d)):=by
 refine W6 (ρ:=[pb d,xN,xN]) xM ?_;unfold Nj;apply KH;cases d with
 |list cs=>
  apply Kt
  case h1=>exact Xk (ρ1:=[pb (.list cs),xN,xN]) (Yx (UX xM) xM) (YI (VJ U0 (Zp xM ZE) xM (λ_=>U0) (λ_=>rfl)))
  case h2=>intro hh;rw[Pf]at hh;have hh:=Qa hh;refine KQ (Wb (UW U0 (UW U0 UZ)) (Ws (by decide) xM)) (YX ?_);unfold Zg;dsimp only;rw[Qw (by lia)];exact⟨rfl,rfl⟩
  case h3=>
   intro hh;rw[Pf]at hh;have hh:=JH hh;have hl:1<=cs.length/\cs.length<=6:=by lia
   have ed:Zg (.list cs)=(match fb (Zm 8) 0 cs with
    |some k=>O ("copies", .int k)
    |none=>xN):=by unfold Zg;dsimp only;rw[if_pos hl]
   refine KT (KR ?_);rw[ed];refine LK (xs:=cs) (Zm 8) (λρ=>∃x1 x2,ρ=[pb (.list cs),x1,x2]) (Vb (UW (UX xM) UZ) Vh) ⟨_,_,rfl⟩ ?_ ?_
   .rintro x hx j ρ hj ⟨x1,x2,rfl⟩
    refine⟨_,Zw xM (KF (U8 (Qa xM) xM) (KF (U8 (Qa xM) xM) Zx)),?_⟩;unfold Gs;refine Kt (YI (Xn (Ky (UW (UX xM) (UW (Ka U0 U0 Yt) UZ)) xM (Hv x 8)))) (λz=>?_) λz=>?_
    .refine KQ (Wb (UW U0 (UW (UX xM) UZ)) (Ws (by decide) (MH (by lia)))) (Nx (by simpa using z) λe=>?_)
     rw[e];exact⟨rfl,rfl⟩
    .exact KT (Ny (by simpa using z) ⟨_,_,rfl⟩)
   .intro e ρ _
    rw[e];rfl
 |dict kvs=>exact Kt (b:=xO) (XX (SA (UX xM))) (λ_=>KQ (Wb (UW U0 (UW U0 UZ)) (Ws (by decide) xM)) (YX ⟨rfl,rfl⟩)) (λz=>by cases z)
 |_=>exact Kt (b:=xO) (XX (Yx (UX xM) xM)) (λ_=>KQ (Wb (UW U0 (UW U0 UZ)) (Ws (by decide) xM)) (YX ⟨rfl,rfl⟩)) (λz=>by cases z)
theorem Fq{d:D}{n:Int}(hs:∀ls,d=.list ls->ls.length<=7->∀x∈ls,ZL x):Pm [d,.int n]=O (Tt (Zz n d)):=by
 refine W6 (ρ:=[pb d,pb (.int n),xN,xN]) xM ?_;unfold Nl;apply KH;cases d with
 |list cs=>
  apply Kt
  case h1=>exact Xk (ρ1:=[pb (.list cs),pb (.int n),xN,xN]) (Yx (UX xM) xM) (YI (VJ U0 (Zp xM ZE) xM (λ_=>U0) (λ_=>rfl)))
  case h2=>intro hh;rw[Pf]at hh;have hh:=Qa hh;refine KQ (Wb (UW U0 (UW U0 UZ)) (Ws (by decide) xM)) (YX ?_);unfold Zz;dsimp only;rw[Qw (by lia)];exact⟨rfl,rfl⟩
  case h3=>
   intro hh;rw[Pf]at hh;have hh:=JH hh;have hl:1<=cs.length/\cs.length<=7:=by lia
   have hs:=hs cs xM hl.2
   have ed:Zz n (.list cs)=(match fb (Yg n) 0 cs with
    |some k=>O ("lists", .int k)
    |none=>xN):=by unfold Zz;dsimp only;rw[if_pos hl]
   refine KT (KR ?_);rw[ed];refine LK (xs:=cs) (Yg n) (λρ=>∃x1 x2,ρ=[pb (.list cs),pb (.int n),x1,x2]) (Vb (UW (UX xM) UZ) Vh) ⟨_,_,rfl⟩ ?_ ?_
   .rintro x hx j ρ hj ⟨x1,x2,rfl⟩
    refine⟨_,Zw xM (KF (U8 (Qa xM) xM) (KF (U8 (Qa xM) xM) Zx)),?_⟩;unfold Gr;refine Kt (YI (Xn (Ky (UW (UX xM) (UW (UX xM) UZ)) xM (xb (n:=n) (hs x hx))))) (λz=>?_) λz=>?_
    .refine KQ (Wb (UW U0 (UW (UX xM) UZ)) (Ws (by decide) (MH (by lia)))) (Nx (by simpa using z) λe=>?_)
     rw[e];exact⟨rfl,rfl⟩
    .exact KT (Ny (by simpa using z) ⟨_,_,rfl⟩)
   .intro e ρ _
    rw[e];rfl
 |dict kvs=>exact Kt (b:=xO) (XX (SA (UX xM))) (λ_=>KQ (Wb (UW U0 (UW U0 UZ)) (Ws (by decide) xM)) (YX ⟨rfl,rfl⟩)) (λz=>by cases z)
 |_=>exact Kt (b:=xO) (XX (Yx (UX xM) xM)) (λ_=>KQ (Wb (UW U0 (UW U0 UZ)) (Ws (by decide) xM)) (YX ⟨rfl,rfl⟩)) (λz=>by cases z)
def YO(d:D):Prop:=∀c ls,d=.tuple [c,.list ls]->ls.length<=7->∀x∈ls,ZL x
theorem Sb(c l:D):ZY (.tuple [c,l])=(match Zg c with
  |some x=>O x
  |none=>(match c with | .list cs=>Zz cs.length l|_=>xN)):=by
 unfold ZY Zg Zz;cases c with
 |list cs=>
  dsimp only;by_cases h:1<=cs.length/\cs.length<=6
  .rw[Qq h,Qq h]
   cases fb (Zm 8) 0 cs with
   |some k=>rfl
   |none=>cases l<;>rfl
  .rw[Qw h,Qw h]
 |_=>rfl
theorem MG{d:D}(hs:YO d):SX [d]=O (Tt (ZY d)):=by
 refine W6 (ρ:=[pb d,xN,xN]) xM ?_;unfold Ni;apply KH;have odd:∀{o:Out->Prop},Ho (X1 "NoWishes" (UT (UU (.str "wishes")) (UT (UU .none) (UR)))) [O (.pub d),xN,xN] (λz=>z=.ex [O (.pub d),xN,xN] (exD "NoWishes" [.str "wishes", .none])):=KQ (Wb (UW U0 (UW U0 UZ)) (Ws (by decide) xM)) xM;cases d with
 |tuple xs=>
  by_cases hl:xs.length=2
  .obtain⟨c,l,rfl⟩:∃c l,xs=[c,l]:=by
    match xs,hl with
    |[c,l],_=>exact⟨c,l,rfl⟩
   apply Kt
   case h1=>exact Xk (ρ1:=[pb (.tuple [c,l]),xN,xN]) (Yx (UX xM) xM) (Ka (Zp xM xM) U0 PV)
   case h2=>intro hh;cases hh
   case h3=>
    intro _;refine KT (KR ?_);refine Kk (Rt (UX xM) (Zw xM (KF (U8 (Qa xM) xM) (KF (U8 (Qa xM) xM) Zx)))) ?_;rw[Sb];have hc:=Dj c;cases z:Zg c with
    |some x=>obtain⟨p,n⟩:=x;rw[z]at hc;apply KH;exact KQ (Wf (Xo (UW (UX xM) UZ) xM hc)) (YX ⟨rfl,rfl⟩)
    |none=>
     rw[z]at hc
     obtain⟨cs,rfl⟩:∃cs,c=.list cs:=by
      unfold Zg at z;cases c with
      |list cs=>exact⟨cs,rfl⟩
      |_=>cases z
     refine Kk (Pv (Xo (UW (UX xM) UZ) xM hc) xM) ?_;have hL:=Fq (d:=l) (n:=cs.length) (λls e=>hs (.list cs) ls (by rw[e]));dsimp only;cases z2:Zz cs.length l with
     |some x=>obtain⟨p,n⟩:=x;rw[z2]at hL;exact KQ (Wf (Xo (UW (UX xM) (UW (Zp xM ZE) UZ)) xM hL)) ⟨rfl,rfl⟩
     |none=>rw[z2]at hL;exact KQ (Pv (Xo (UW (UX xM) (UW (Zp xM ZE) UZ)) xM hL) xM) xM
  .have hd:ZY (.tuple xs)=O (("wishes" : Str),(.none:D)):=by
    unfold ZY;split
    .rename_i h;cases h;exact absurd xM hl
    .rfl
   apply Kt
   case h1=>exact Xk (ρ1:=[pb (.tuple xs),xN,xN]) (Yx (UX xM) xM) (Ka (Zp xM AY) U0 PV)
   case h2=>intro _;refine VN (odd (o:=λ_=>True)) λo e=>?_;subst e;exact YX (by rw[hd];exact⟨rfl,rfl⟩)
   case h3=>
    intro hh;have:(xs.length:Int)=2:=by simpa using hh
    lia
 |dict kvs=>exact Kt (b:=xO) (XX (SA (UX xM))) (λ_=>VN (odd (o:=λ_=>True)) λo e=>by subst e;exact YX ⟨rfl,rfl⟩) (λz=>by cases z)
 |_=>exact Kt (b:=xO) (XX (Yx (UX xM) xM)) (λ_=>VN (odd (o:=λ_=>True)) λo e=>by subst e;exact YX ⟨rfl,rfl⟩) (λz=>by cases z)
mutual
noncomputable def wB(n:Nat):D->Bool
 |.list xs=>decide (xs.length<=n)&&wBs n xs
 |.tuple xs=>decide (xs.length<=n)&&wBs n xs
 |_=>xO
noncomputable def wBs(n:Nat):xQ->Bool
 |[]=>xO
 |x::r=>wB n x&&wBs n r
end
theorem Os{n:Nat}:∀{xs:xQ},wBs n xs=xO ↔ ∀x∈xs,wB n x=xO
 |[]=>by simp[wBs]
 |x::r=>by rw[wBs,Bool.and_eq_true,Os (xs:=r)];simp
theorem VF{n:Nat}{xs:xQ}:wB n (.list xs)=xO ↔ xs.length<=n/\∀x∈xs,wB n x=xO:=by rw[wB,Qz,Q6,Os]
theorem NT{n:Nat}{xs:xQ}:wB n (.tuple xs)=xO ↔ xs.length<=n/\∀x∈xs,wB n x=xO:=by rw[wB,Qz,Q6,Os]
mutual
theorem Oq{n m:Nat}(h:n<=m):∀(d:D),wB n d=xO->wB m d=xO
 |.list xs,e=>by rw[wB,Qz,Q6]at e⊢;exact⟨Qt e.1 h,wBs_mono h xs e.2⟩
 |.tuple xs,e=>by rw[wB,Qz,Q6]at e⊢;exact⟨Qt e.1 h,wBs_mono h xs e.2⟩
 |.none,_=>rfl
 |.bool _,_=>rfl
 |.int _,_=>rfl
 |.str _,_=>rfl
 |.dict _,_=>rfl
theorem wBs_mono{n m:Nat}(h:n<=m):∀(xs:xQ),wBs n xs=xO->wBs m xs=xO
 |[],_=>rfl
 |x::r,e=>by rw[wBs,Qz]at e⊢;exact⟨Oq h x e.1,wBs_mono h r e.2⟩
end
theorem Di{d:D}(h:wB 700 d=xO):YO d:=λc ls e _ x hx rs e2 xs hxs=>by subst e;have h1:=(NT.mp h).2 (.list ls) (by simp);have h2:=(VF.mp h1).2 x hx;subst e2;exact(VF.mp ((VF.mp h2).2 _ hxs)).1
theorem qc{cs:xR}{ls:L3}(g:Good cs ls):wB 7 (.list (cs.map int))=xO/\wB 7 (.list (ls.map Ke))=xO:=by
 constructor
 .refine VF.mpr ⟨by rw[Qb];have:=g.c6;lia,λx hx=>?_⟩
  obtain⟨i,_,rfl⟩:=Qu.mp hx;rfl
 .refine VF.mpr ⟨by rw[Qb];exact g.l7,λx hx=>?_⟩
  obtain⟨rs,hrs,rfl⟩:=Qu.mp hx;have gr:=g.rk rs hrs;refine VF.mpr ⟨by rw[Qb];have:=gr.few;lia,λy hy=>?_⟩;obtain⟨r,hr,rfl⟩:=Qu.mp hy;have h1:r.length<=rs.flatten.length:=List.Sublist.length_le (Jh hr);have h2:=TW gr;have:=g.c6;refine VF.mpr ⟨by rw[Qb];lia,λz hz=>?_⟩;obtain⟨i,_,rfl⟩:=Qu.mp hz;rfl
theorem Dh{a b:Str}(ha:UF a=xO)(hb:UF b=xO):oEq (.str a) (.str b)=O (a==b):=by unfold oEq;rw[Qq ⟨ha,hb,qW⟩];rfl
theorem Op{p:D->Bool}:∀{xs:xQ}{k:Nat},(∀x∈xs,p x=xO)->fb p k xs=xN
 |[],_,_=>rfl
 |x::r,k,h=>by unfold fb;rw[Qq (h x Qf)];exact Op λy hy=>h y (Qh _ hy)
theorem Dg(rs:List xR):flI (rs.map Kf)=rs.flatten:=by
 unfold flI;induction rs with
 |nil=>rfl
 |cons r t ih=>
  rw[Qx,List.flatMap_cons,ih,QG]
  congr 1
  show(r.map int).filterMap whI=r
  rw[List.filterMap_map];show r.filterMap (λi=>O i)=r;simp
theorem qb{n:Nat}{rs:List xR}(g:X8 n rs):Yg n (Ke rs)=xO:=by
 show Yg n (.list (rs.map Kf))=xO;rw[Sc,Dg,QW g.once,Qb,QW g.few];simp only[Um,Bool.and_true,Q3];intro x hx;obtain⟨r,hr,rfl⟩:=Qu.mp hx;have hn:=g.some r hr;have ht:=g.there r hr;cases r with
 |nil=>exact absurd xM hn
 |cons i q=>
  show((int i::q.map int).all (Zm n))=xO
  rw[Q3];intro y hy;have hy:y∈(i::q).map int:=hy;obtain⟨z,hz,rfl⟩:=Qu.mp hy;have:=ht z hz
  show(decide (0<=z)&&decide (z<(n:Int)))=xO
  rw[QW this.1,QW this.2];rfl
theorem qa{cs:xR}{ls:L3}(g:Good cs ls):ZY (Kj cs ls)=xN:=by
 show ZY (.tuple [.list (cs.map int),.list (ls.map Ke)])=xN;rw[Sb];have c1:=g.c1;have c6:=g.c6;have l1:=g.l1;have l7:=g.l7
 have e1:Zg (.list (cs.map int))=xN:=by
  unfold Zg;dsimp only;rw[Qq (by rw[Qb];lia),Op];intro x hx;obtain⟨i,hi,rfl⟩:=Qu.mp hx;have:=g.c7 i hi
  show(decide (0<=i)&&decide (i<8))=xO
  rw[QW this.1,QW this.2];rfl
 rw[e1];dsimp only;unfold Zz;dsimp only;rw[Qq (by rw[Qb];lia),Op];intro x hx;obtain⟨rs,hrs,rfl⟩:=Qu.mp hx;rw[Qb];exact qb (g.rk rs hrs)
theorem GT{cs:xR}{ls:L3}(g:Good cs ls):SX [Kj cs ls]=O (.val .none):=by
 have wg:wB 448 (Kj cs ls)=xO:=by
  obtain⟨a1,a2⟩:=qc g
  exact Oq (n:=7) (by decide) _ (NT.mpr ⟨show 2<=7 by decide,λx hx=>by
   have hx:x=.list (cs.map int)∨x=.list (ls.map Ke):=by simpa using hx
   rcases hx with rfl|rfl
   .exact a1
   .exact a2⟩)
 have hx:=MG (Di (Oq (m:=700) (by decide) _ wg));rw[qa g]at hx;exact hx
theorem cTTM{α:Type}{s:D->UQ->xX}{f:M D}(e k:α->D)(I:UQ->Prop):∀(l:List α)(ρ:UQ)(es:xQ),(∀x∈l,∀ρ,I ρ->∃ρ1,s (e x) ρ=O ρ1/\f ρ1=.ok (k x) ρ1/\I (Km ρ1))->I ρ->es.length+l.length<=1000000 ->
  cTT s (UU xO) f (l.map e) ρ es=O (es++l.map k)
 |[],ρ,es,_,_,_=>by rw[JA,cTT,JA,QH]
 |x::l,ρ,es,st,h0,hz=>by rw[Qs]at hz;obtain⟨ρ1,e1,e2,e3⟩:=st x Qf ρ h0;rw[Qx,cTT,e1];dsimp only[UU];rw[Qq xM,e2];dsimp only;rw[Qq (by lia),Qx];refine(cTTM e k I l _ (es++[k x]) (λy hy=>st y (Qh _ hy)) e3 (by rw[Qk,Q4];lia)).trans ?_;rw[Ja];rfl
theorem MF{N:List Str}{g:SM}{f:M D}{ds:xQ}{d:D}{ρ:UQ}(h0:Zk N ds=ρ)(h:Ho g ρ λo=>∃ρ1,o=.nx ρ1/\∃ρ2,f ρ1=.ok d ρ2):Vs N g f ds=O d:=by obtain⟨d',h1,h2⟩:=F5 (P:=λx=>x=d) h0 (by obtain⟨ρ1,e,ρ2,e2⟩:=h.out;exact⟨⟨ρ1,e,d,ρ2,e2,rfl⟩⟩);rw[←h2];exact h1
theorem Df{xs:xQ}{a:Nat}:DL.cutD xs xN (O (a:Int))=xs.take a:=by
 unfold DL.cutD HT.sIx;dsimp only;rw[Qw (by omega),Uj,Nat.sub_zero,Q1];rcases Nat.le_total a xs.length with h|h
 .rw[Nat.min_eq_left h]
 .rw[Nat.min_eq_right h,Jr,List.take_of_length_le h]
theorem cLpM{α:Type}{s:D->UQ->xX}{f:M D}(e k:α->D)(I:UQ->Prop):∀(l:List α)(ρ:UQ)(es:xQ),(∀x∈l,∀ρ,I ρ->∃ρ1,s (e x) ρ=O ρ1/\f ρ1=.ok (k x) ρ1/\I (Km ρ1))->I ρ->es.length+l.length<=1000000 ->
  Zi s (UU xO) f (l.map e) ρ es=O (es++l.map k)
 |[],ρ,es,_,_,_=>by rw[JA,Zi,JA,QH]
 |x::l,ρ,es,st,h0,hz=>by rw[Qs]at hz;obtain⟨ρ1,e1,e2,e3⟩:=st x Qf ρ h0;rw[Qx,Zi,e1];dsimp only[UU];rw[Qq xM,e2];dsimp only;rw[Qq (by omega),Qx];refine(cLpM e k I l _ (es++[k x]) (λy hy=>st y (Qh _ hy)) e3 (by rw[Qk,Q4];omega)).trans ?_;rw[Ja];rfl
section
variable{cs:xR}{ls:L3}{ts as:List Str}
theorem LB{n:Nat}{rs:List xR}{r:xR}(g:X8 n rs)(hr:r∈rs):r.length<=n:=Qt (List.Sublist.length_le (Jh hr)) (TW g)
end
theorem cLpE{α:Type}{s:D->UQ->xX}{f:M D}(e k:α->D)(I:UQ->Prop):∀(l:List α)(ρ:UQ)(es:xQ),(∀x∈l,∀ρ,I ρ->∃ρ1,s (e x) ρ=O ρ1/\f ρ1=.ok (k x) ρ1/\I (Km ρ1))->I ρ->es.length+l.length<=1000000 ->
  ∃ρ',I ρ'/\Y3 s (UU xO) f (l.map e) ρ es=O (es++l.map k,ρ')
 |[],ρ,es,_,h0,_=>⟨ρ,h0,by rw[JA,Y3,JA,QH]⟩
 |x::l,ρ,es,st,h0,hz=>by rw[Qs]at hz;obtain⟨ρ1,e1,e2,e3⟩:=st x Qf ρ h0;obtain⟨ρ',h',q⟩:=cLpE e k I l _ (es++[k x]) (λy hy=>st y (Qh _ hy)) e3 (by rw[Qk,Q4];omega);refine⟨ρ',h',?_⟩;rw[Qx,Y3,e1];dsimp only[UU];rw[Qq xM,e2];dsimp only;rw[Qq (by omega),Qx];refine q.trans ?_;rw[Ja];rfl
theorem Tu{α β:Type}{s0 s1:D->UQ->xX}{f1:M xQ}{g:M D}(e:α->D)(e1:β->D)(p:α->List β)(k:β->D)(I:UQ->Prop)(J:α->UQ->Prop) :
  ∀(l:List α)(ρ:UQ)(es:xQ),(∀x∈l,∀ρ,I ρ->∃ρ1,s0 (e x) ρ=O ρ1/\f1 ρ1=.ok ((p x).map e1) ρ1/\J x (Km ρ1))->(∀x∈l,∀y∈p x,∀ρ,J x ρ->∃ρ1,s1 (e1 y) ρ=O ρ1/\g ρ1=.ok (k y) ρ1/\J x (Km ρ1))->(∀x ρ,J x ρ->I ρ)->I ρ->es.length+(l.map p).flatten.length<=1000000 ->
  YF s0 (UU xO) f1 s1 (UU xO) g (l.map e) ρ es=O (es++(l.map p).flatten.map k)
 |[],ρ,es,_,_,_,_,_=>by rw[List.map_nil,YF];simp
 |x::l,ρ,es,h1,h2,h3,h0,hz=>by
  rw[Qx,QG,Qk]at hz;obtain⟨ρ1,a1,a2,a3⟩:=h1 x Qf ρ h0;obtain⟨ρ',j',q⟩:=cLpE e1 k (J x) (p x) (Km ρ1) es (h2 x Qf) a3 (by omega);rw[Qx,YF,a1];dsimp only[UU];rw[Qq xM,a2];dsimp only;have q':Y3 s1 (λρ=>Res.ok xO ρ) g ((p x).map e1) (Km ρ1) es=O (es++(p x).map k,ρ'):=q
  first|rw[q] | rw[q']
  dsimp only;refine(Tu e e1 p k I J l ρ' (es++(p x).map k) (λy hy=>h1 y (Qh _ hy)) (λy hy=>h2 y (Qh _ hy)) h3 (h3 x ρ' j') (by rw[Qk,Qb];omega)).trans ?_;rw[Qx,QG,QI,Ja]
def Vw(n b:Nat)(d:D):Prop:=d.canLay0=xO/\d.leavesShort 8=xO/\d.showable=xO/\d.depth<=n/\d.bulk<=b/\UF d.shown=xO
theorem O5{n b m:Nat}{xs:xQ}(h:∀x∈xs,Vw n b x)(hm:xs.length<=m):Vw (n+1) (m*(b+1)) (.list xs):=by
 refine⟨Wa λx hx=>(h x hx).1,OO λx hx=>(h x hx).2.1,O7 λx hx=>(h x hx).2.2.1,VH (X9 λx hx=>(h x hx).2.2.2.1),?_,xo λx hx=>(h x hx).2.2.2.2.2⟩;have:=O6 (n:=b) (xs:=xs) λx hx=>(h x hx).2.2.2.2.1
 exact Qt this (Nat.mul_le_mul_right _ hm)
theorem A9{i:Int}(h:0<=i/\i<10):Vw 0 0 (.int i):=⟨rfl,(ten h).1,(ten h).2,by simp[UH],Nat.le_refl 0,Ft h⟩
theorem HL{m:Nat}{xs:xR}(h:∀t∈xs,0<=t/\t<10)(hm:xs.length<=m):Vw 1 (m*1) (.list (xs.map int)):=O5 (λx hx=>by obtain⟨t,ht,rfl⟩:=Qu.mp hx;exact A9 (h t ht)) (by rw[Qb];exact hm)
section
variable{cs:xR}{ls:L3}{ws:LO}
theorem Ht(g:Good cs ls):Vw 5 10000 (Kj cs ls):=by
 have e1:Vw 1 (6*1) (.list (cs.map int)):=HL (λt ht=>by have:=g.c7 t ht;lia) g.c6
 have e2:Vw 3 (7*(5*(6*1+1)+1)) (.list (ls.map Ke)):=by
  refine O5 (λx hx=>?_) (by rw[Qb];exact g.l7);obtain⟨rs,hrs,rfl⟩:=Qu.mp hx;have gr:=g.rk rs hrs;refine O5 (λy hy=>?_) (by rw[Qb];exact gr.few);obtain⟨r,hr,rfl⟩:=Qu.mp hy;refine HL (λt ht=>by have:=gr.there r hr t ht;have:=g.c6;lia) ?_;have h1:r.length<=rs.flatten.length:=(Jh hr).length_le;have h2:=TW gr;have:=g.c6
  lia
 have all:∀{P:D->Prop},P (.list (cs.map int))->P (.list (ls.map Ke))->∀x∈[UC (cs.map int),.list (ls.map Ke)],P x:=λh1 h2 x hx=>by
  have hx:x=.list (cs.map int)∨x=.list (ls.map Ke):=by simpa using hx
  rcases hx with rfl|rfl
  .exact h1
  .exact h2
 obtain⟨a1,a2,a3,a4,a5,a6⟩:=e1;obtain⟨b1,b2,b3,b4,b5,b6⟩:=e2;refine⟨Wa (all a1 b1),OO (all a2 b2),O7 (all a3 b3),?_,?_,?_⟩
 .have:=X9 (n:=4) (all (P:=λx=>UH x<=4) (by lia) (by lia))
  show(PyData.tuple _).depth<=5
  simp only[UH]
  lia
 .have:=O6 (n:=300) (all (P:=λx=>PyData.bulk x<=300) (by lia) (by lia))
  exact Qt this (show 2*301<=10000 by decide)
 .show UF (("(" : Str)++(_ ++ ", " ++ _) ++ ")")=xO
  exact VU (VU (by decide +kernel) (VU (VU a6 (by decide +kernel)) b6)) (by decide +kernel)
end
structure S8(cs:xR)(ls:L3):Prop where
 c42:cs.length<=42
 c0:∀c∈cs,0<=c
 l7:ls.length<=7
 rk:∀rs∈ls,rs.flatten.length<=42/\∀t∈rs.flatten,0<=t/\t<cs.length
theorem kS{cs:xR}{ls:L3}{c s:D}{dg:xR}{i:Nat}{d:D}{ρ:UQ}{Q:Out->Prop}(g:S8 cs ls)(hdl:dg.length=ls.length)(hd0:∀x∈dg,0<=x)(hi:(Zr 0 ls.length)[i]?=O d)(h:V5 cs ls c s dg i ρ) :
  ∃ρ2,gN 6 d ρ=O ρ2/\Ho Ob ρ2 (Vn (V5 cs ls c s dg (i+1)) Q):=by
 obtain⟨lf,ws,x6,x7,x8,rfl,hw,dl⟩:=h;obtain⟨rfl,hlt⟩:=T7 hi;have vQ:i<ls.length:=by omega
 have hls:ls[i]?=O ls[i]:=Qe vQ;obtain⟨hfl,hth⟩:=g.rk _ (QM hls);refine⟨_,U8 (Qa xM) xM,?_⟩;unfold Ob;rw[Uk];generalize hrs:ls[i]=rs at *;have hmem:∀t∈YU rs.flatten,t∈rs.flatten:=λt ht=>(SO _).mem_iff.mp ht;have hthere:∀t∈rs.flatten,0<=t/\t<lf.length:=λt ht=>by rw[dl.len];exact hth t ht
 let L:=(YU rs.flatten).filter λt=>decide (0<lf.getD t.toNat 0)
 have hc:Zi (gN 9) (UY (oIB λi j=>decide (j<i)) (U5 3 (UP 9)) (UU (.int 0))) (UP 9) ((YU rs.flatten).map int) (Zb [pb (Kj cs ls),pb c,pb s,O (.own (lf.map int)),pb (.list (dg.map int)),O (.own (ws.map U6)),pb (.int (i:Int)),x7,x8]++UB 1 xN) []=O (L.map int):=by
  rw[Vk (λd=>match d with | .int t=>decide (0<lf.getD t.toNat 0)|_=>xP) (λd=>d) (λρ=>∃x y7 y8,ρ=[pb (Kj cs ls),pb c,pb s,pb (.list (lf.map int)),pb (.list (dg.map int)),pb (.list (ws.map U6)),pb (.int (i:Int)),y7,y8,x])]
  .rw[Jk,List.map_id',List.filter_map]
   rfl
  .rintro d hm ρ ⟨x,y7,y8,rfl⟩
   obtain⟨t,ht,rfl⟩:=Qu.mp hm;obtain⟨h0,h1⟩:=hthere t (hmem t ht);obtain⟨k,rfl⟩:∃k:Nat,t=k:=⟨t.toNat,by omega⟩
   refine⟨_,U8 (Qa xM) xM,Ka (K2 xM (UX xM) (P8 (by omega))) U0 xM,λ_=>UX xM,pb (.int k),Ku y7,Ku y8,rfl⟩
  .exact⟨xN,Pu x7,Pu x8,rfl⟩
  .rw[Qb,QT,(SO _).length_eq];omega
 have hLl:L.length<=42:=by have:L.length<=(YU rs.flatten).length:=J8 _ _;rw[(SO _).length_eq]at this;omega
 have hadd:U9 (.list (L.map int)) (.list [.none])=O (.list ((L.map O++[xN]).map U6)):=by rw[Yn (by rw[Qb];show L.length+1<=_;omega),QI,Jc];rfl
 refine Kk (K0 (Ka (K5 (LF (ZD (Ky (UW (UX xM) (UW (UX xM) UZ)) xM (qh (cs:=cs) hls (by omega))) MW) hc (by rw[List.all_map,Q3];exact λ_ _=>rfl))) (KJ (UW U0 UZ) (Qa xM)) hadd) (Qa xM) xM) ?_;have hol:(L.map O++[xN]:LO).length=L.length+1:=by rw[Qk,Qb];rfl
 have hlen:KB [.list ((L.map O++[xN]:LO).map U6)]=O (.int ((L.length+1:Nat):Int)):=by rw[ZE,Qb,hol]
 have hdi:dg[i]?=O dg[i]:=Qe (by omega);have hx0:=hd0 _ (QM hdi);have hix:oIx (.list (dg.map int)) (.int (i:Int))=O (.int dg[i]):=ZQ (by rw[Qp,hdi];rfl);have hm0:0<=dg[i] % ((L.length+1:Nat):Int):=Int.emod_nonneg _ (by omega);have hm1:dg[i] % ((L.length+1:Nat):Int)<((L.length+1:Nat):Int):=Int.emod_lt_of_pos _ (by omega);obtain⟨k,hk⟩:∃k:Nat,dg[i] % ((L.length+1:Nat):Int)=k:=⟨(dg[i] % ((L.length+1:Nat):Int)).toNat,by omega⟩
 have hkl:k<(L.map O++[xN]:LO).length:=by rw[hol];omega
 have vY:=Fw (os:=L.map O++[xN]) hkl;rw[←hk]at vY;generalize ho:(L.map O++[xN]:LO)[k]=o at vY;refine Kk (K0 (K2 xM (Ka (K2 xM (UX xM) hix) (Zp xM hlen) (VP (by omega))) vY) (Qa xM) xM) ?_;have wQ:(ws.map U6).length<1000000:=by rw[Qb];have:=g.l7;omega
 have ya:ls[ws.length]?=O rs:=by rw[hw];exact hls
 cases o with
 |none=>
  apply KH;apply Kt
  case h1=>exact NA (UX xM) xM
  case h2=>intro hh;cases hh
  case h3=>intro _;refine KT (KR ?_);refine KQ (YW xM (UX xM) xM wQ xM) ?_;exact Zv ⟨lf,ws++[xN],_,_,_,by rw[LD (ws:=ws)];rfl,by rw[Qk,hw];rfl,dl.none ya⟩
 |some t=>
  have htL:t∈L:=by
   have hm:O t∈(L.map O++[xN]:LO):=ho ▸ Jx hkl;rcases QO.mp hm with z|z
   .obtain⟨t',h1,h2⟩:=Qu.mp z
    cases h2;exact h1
   .cases QE.mp z
  obtain⟨htm,htp⟩:=JU.mp htL;have htf:=hmem t htm;obtain⟨h0,h1⟩:=hthere t htf;have hv:lf[t.toNat]?=O lf[t.toNat]:=Qe (by omega);have hvd:lf.getD t.toNat 0=lf[t.toNat]:=by simp[List.getD,hv]
  have hpos:0<lf[t.toNat]:=by rw[hvd]at htp;simpa using htp
  have hvx:oIx (.list (lf.map int)) (.int t)=O (.int lf[t.toNat]):=Md h0 (by rw[Qp,hv];rfl);apply KH;apply Kt
  case h1=>exact NA (UX xM) xM
  case h2=>intro _;refine KQ (PX (Ka (ER xM (UX xM) xM hvx) U0 PY) xM (UX xM) xM ⟨h0,by rw[Qb];exact h1⟩ xM) ?_;refine KR ?_;refine KQ (YW xM (UX xM) xM wQ xM) ?_;exact Zv ⟨lf.set t.toNat (lf[t.toNat]-1),ws++[O t],_,_,_,by rw[LD (ws:=ws),←Lj];rfl,by rw[Qk,hw];rfl,dl.give ya htf h0 hv hpos⟩
  case h3=>intro hh;cases hh
theorem HK{cs:xR}{ls:L3}(g:S8 cs ls)(c s:Int):∃r,XQ [Kj cs ls,.int c,.int s]=O r/\∃ws,r=KE ws/\Deal cs ls ws:=by
 refine Sz (ρ:=[pb (Kj cs ls),pb (.int c),pb (.int s),xN,xN,xN,xN,xN,xN]) xM ?_;unfold Th;have i0:oIx (Kj cs ls) (.int 0)=O (.list (cs.map int)):=ZQ (j:=0) xM;have i1:oIx (Kj cs ls) (.int 1)=O (.list (ls.map Ke)):=ZQ (j:=1) xM;have hlen:KB [.list (ls.map Ke)]=O (.int ls.length):=by rw[ZE,Qb]
 refine Kk (Zo (KM (UW (K2 xM U0 i0) UZ) (ZG (show XU [.list (cs.map int)]=O (cs.map int)from rfl))) (Qa xM) xM) ?_
 have hmul:Ko (.list [.int 61]) (.int ls.length)=O (.list ((UB ls.length (61:Int)).map int)):=by
  rw[OX ⟨by omega,by have:=g.l7;omega,by show 1*_<=_;have:=g.l7;omega⟩]
  congr 2
  rw[Q1];generalize ls.length=n;induction n with
  |zero=>rfl
  |succ n ih=>rw[Q0,QG,ih,Q0,Qx];rfl
 obtain⟨r,hF,dg,rfl,hdl,hdb⟩:=SW c s (sizes:=UB ls.length (61:Int)) (λx hx=>by rw[(JI.mp hx).2];decide) (by rw[QB];have:=g.l7;omega);rw[QB]at hdl;refine Kk (K0 (Ky (UW (UX xM) (UW (UX xM) (UW (Ka (KJ (UW U0 UZ) (Qa xM)) (ZU (UW (K2 xM U0 i1) UZ) hlen) hmul) UZ))) xM hF) (Qa xM) xM) ?_;refine Kk (Zo (Xp UZ (Qa xM)) (Qa xM) xM) ?_;apply KH;apply Ym (V5 cs ls (.int c) (.int s) dg)
 case h1=>exact VQ (UW (ZU (UW (K2 xM U0 i1) UZ) hlen) UZ) (Vd (by have:=g.l7;omega) (by omega))
 case h0=>exact⟨cs,[],_,_,_,rfl,rfl,⟨λ_ _ _ h=>(by cases h),rfl,λk c e=>by have:=g.c0 c (QM e);simp only[List.count_nil];exact⟨by rw[e];congr 1;omega,by omega⟩⟩⟩
 case hst=>exact λi d ρ e h=>kS g hdl (λx hx=>by obtain⟨j,hj,e⟩:=List.mem_iff_getElem.mp hx;exact(hdb j x 61 (by rw[Qe hj,e]) (by rw[QJ,Qq (by omega)])).1) e h
 case hend=>rintro ρ ⟨lf,ws,x6,x7,x8,rfl,hw,dl⟩;rw[VY]at hw;refine KR (K4 (Z8 rfl rfl) ⟨_,rfl,ws,rfl,⟨by omega,dl.wish,λk c e=>by have:=(dl.cop k c e).2;omega⟩⟩)
noncomputable def US:Nat->xR->xR
 |_,[]=>[]
 |i,c::cs=>UB c.toNat (i:Int)++US (i+1) cs
noncomputable def K9:Nat->xR->List xR
 |_,[]=>[]
 |s,c::cs=>(List.range' s c.toNat).map (λk=>((k:Nat):Int))::K9 (s+c.toNat) cs
noncomputable def Zh(x:Int):Nat->xR->xR
 |_,[]=>[]
 |s,o::ow=>if o=x then(s:Int)::Zh x (s+1) ow else Zh x (s+1) ow
theorem OC(x:Int):∀(a b:xR)(s:Nat),Zh x s (a++b)=Zh x s a++Zh x (s+a.length) b
 |[],b,s=>rfl
 |o::a,b,s=>by
  rw[J5,Zh,Zh,OC x a b (s+1),Qs,show s+1+a.length=s+(a.length+1)by omega]
  split<;>rfl
theorem LA(x:Int):∀(n s:Nat),Zh x s (UB n x)=(List.range' s n).map λk=>((k:Nat):Int)
 |0,s=>rfl
 |n+1,s=>by rw[Q0,Zh,Qq xM,LA x n (s+1),List.range'_succ,Qx]
theorem Oo{x:Int}:∀{ow:xR}{s:Nat},(∀o∈ow,o≠x)->Zh x s ow=[]
 |[],_,_=>rfl
 |o::ow,s,h=>by rw[Zh,Qw (h o Qf)];exact Oo λy hy=>h y (Qh _ hy)
theorem NS:∀{cs:xR}{i:Nat}{o:Int},o∈US i cs->(i:Int)<=o/\o<i+cs.length
 |[],_,_,h=>by cases h
 |c::cs,i,o,h=>by
  rw[US]at h;rw[Qs];rcases QO.mp h with h|h
  .rw[(JI.mp h).2];omega
  .have:=NS h;omega
theorem RV:∀{cs:xR}{i s j:Nat},j<cs.length->(K9 s cs)[j]?=O (Zh ((i+j:Nat):Int) s (US i cs))
 |[],_,_,_,h=>by cases h
 |c::cs,i,s,0,_=>by rw[K9,US,J0,OC,Nat.add_zero,LA,Oo,QH];intro o ho e;have:=NS ho;omega
 |c::cs,i,s,j+1,h=>by rw[K9,US,Jw,OC,QB,RV (i:=i+1) (Nat.lt_of_succ_lt_succ h),Oo (s:=s),Jk,show i+1+j=i+(j+1)by omega];intro o ho e;rw[(JI.mp ho).2]at e;omega
theorem On:∀{cs:xR}{s:Nat},(K9 s cs).length=cs.length
 |[],_=>rfl
 |c::cs,s=>by rw[K9,Qs,Qs,On]
theorem ME:∀{cs:xR}{i:Nat},(∀c∈cs,0<=c)->((US i cs).length:Int)=cs.sum
 |[],_,_=>rfl
 |c::cs,i,h=>by
  have:=ME (i:=i+1) λx hx=>h x (Qh _ hx)
  have:=h c Qf;rw[US,Qk,QB,List.sum_cons];omega
theorem SL{x:Int}:∀{ow:xR}{s:Nat}{k:Int},k∈Zh x s ow->∃j:Nat,k=((s+j:Nat):Int)/\ow[j]?=O x
 |[],_,_,h=>by cases h
 |o::ow,s,k,h=>by
  have nx:k∈Zh x (s+1) ow->∃j:Nat,k=((s+j:Nat):Int)/\(o::ow)[j]?=O x:=λh=>by obtain⟨j,e1,e2⟩:=SL h;exact⟨j+1,by omega,e2⟩
  rw[Zh]at h;by_cases e:o=x
  .rw[Qq e]at h
   rcases QC.mp h with h|h
   .exact⟨0,h,by rw[e];rfl⟩
   .exact nx h
  .rw[Qw e]at h;exact nx h
theorem O4{x:Int}:∀{ow:xR}{s:Nat},(Zh x s ow).Nodup
 |[],_=>List.nodup_nil
 |o::ow,s=>by
  rw[Zh];split
  .refine QY.mpr ⟨λh=>?_,O4⟩
   obtain⟨j,e,_⟩:=SL h;omega
  .exact O4
theorem Pg(x:Int):∀(ow:xR)(s:Nat),((List.range' s ow.length).filter λk=>decide (ow[k-s]?=O x)).map (λk=>((k:Nat):Int))=Zh x s ow
 |[],_=>rfl
 |o::ow,s=>by
  have e:((List.range' (s+1) ow.length).filter λk=>decide ((o::ow)[k-s]?=O x))=(List.range' (s+1) ow.length).filter λk=>decide (ow[k-(s+1)]?=O x):=by
   refine JC λk hk=>?_
   have:=(List.mem_range'_1.mp hk).1;rw[show k-s=(k-(s+1))+1 by omega,Jw]
  have e0:(decide ((o::ow)[s-s]?=O x))=decide (o=x):=by rw[Nat.sub_self,List.getElem?_cons_zero];simp
  rw[Qs,List.range'_succ,List.filter_cons,e0,e,Zh];by_cases h:o=x
  .rw[Qq (QW h),Qq h,Qx,Pg x ow (s+1)]
  .rw[Qw (by rw[QN h];decide),Qw h,Pg x ow (s+1)]
noncomputable def cpR(ow:xR)(r:xR):xR:=r.flatMap λt=>Zh t 0 ow
noncomputable def cpA(ow:xR)(rs:List xR):List xR:=(rs.map (cpR ow)).filter λr=>decide (r≠[])
theorem Ou:∀(l:List xR),(l.filter λr=>decide (r≠[])).flatten=l.flatten
 |[]=>rfl
 |[]::l=>by rw[List.filter_cons_of_neg (by decide),Ou l];rfl
 |(x::r)::l=>by rw[List.filter_cons_of_pos xM,QG,Ou l];rfl
theorem OB(ow:xR)(rs:List xR):(cpA ow rs).flatten=cpR ow rs.flatten:=by
 unfold cpA;rw[Ou];unfold cpR;induction rs with
 |nil=>rfl
 |cons r rs ih=>rw[Qx,QG,ih,QG,List.flatMap_append]
theorem Ot{ow:xR}:∀{r:xR},r.Nodup->(cpR ow r).Nodup
 |[],_=>List.nodup_nil
 |t::r,h=>by
  obtain⟨h1,h2⟩:=QY.mp h;unfold cpR;rw[List.flatMap_cons];refine QL.mpr ⟨O4,Ot h2,λa ha b hb e=>?_⟩;subst e;obtain⟨t2,ht2,hb⟩:=List.mem_flatMap.mp hb;obtain⟨j,e1,e2⟩:=SL ha;obtain⟨j2,e3,e4⟩:=SL hb;have:j=j2:=by omega
  subst this;rw[e2]at e4;cases e4;exact h1 ht2
theorem RQ{ow r:xR}{k:Int}(h:k∈cpR ow r):0<=k/\k<ow.length:=by obtain⟨t,_,hb⟩:=List.mem_flatMap.mp h;obtain⟨j,e1,e2⟩:=SL hb;have:=(Ql.mp e2).1;omega
noncomputable def KL(ow:xR)(L:xY)(x:Int):xR:=(L.filter λk=>decide (ow[k]?=O x)).map λk=>((k:Nat):Int)
theorem MD(ow:xR)(x:Int):KL ow (UA ow.length) x=Zh x 0 ow:=by rw[←Pg x ow 0];unfold KL;rw[List.range_eq_range'];simp only[Nat.sub_zero]
theorem MC{ow:xR}{x y:Int}{k:Nat}(hk:ow[k]?=O x)(h:y≠x)(L:xY):KL ow (L.filter λj=>decide (j≠k)) y=KL ow L y:=by
 unfold KL;rw[List.filter_filter]
 congr 1
 refine JC λj _=>?_
 by_cases e:j=k
 .subst e
  rw[hk,QN (λz=>h (Je z).symm)];rfl
 .rw[QW e,Bool.and_true]
theorem B7{ow:xR}{x:Int}{k:Nat}{r:xR}:∀{L:xY},L.Nodup->KL ow L x=(k:Int)::r->ow[k]?=O x/\k∈L/\KL ow (L.filter λj=>decide (j≠k)) x=r:=by
 intro L nd h;have hm:(k:Int)∈KL ow L x:=by rw[h];exact Qf
 obtain⟨j,hj,e⟩:=Qu.mp hm;obtain rfl:j=k:=by omega
 obtain⟨hj1,ye⟩:=JU.mp hj;refine⟨Qa ye,hj1,?_⟩;unfold KL at h⊢;rw[List.filter_filter];have e:(L.filter λa=>decide (ow[a]?=O x)&&decide (a≠j))=(L.filter λa=>decide (ow[a]?=O x)).filter λa=>decide (a≠j):=by rw[List.filter_filter];refine JC λa _=>Bool.and_comm _ _
 rw[e];have nd2:(L.filter λa=>decide (ow[a]?=O x)).Nodup:=nd.filter _;generalize (L.filter λa=>decide (ow[a]?=O x))=M at h nd2⊢;cases M with
 |nil=>cases h
 |cons m M=>
  rw[Qx]at h;injection h with h1 h2;obtain rfl:m=j:=by omega
  obtain⟨n1,n2⟩:=QY.mp nd2;rw[List.filter_cons_of_neg (by simp),List.filter_eq_self.mpr,h2];intro a ha;refine QW λz=>?_;subst z;exact n1 ha
theorem Lz{f:M xQ}{k:Nat}{s s1:D->UQ->xX}{t t1:M Bool}{f1:M xQ}{g:M D}{ρ ρ1:UQ}{ds es:xQ}(h1:f ρ=.ok ds ρ1)(h2:YF s t f1 s1 t1 g ds (Km ρ1++UB k xN) []=O es):YK f k s t f1 s1 t1 g ρ=.ok es ρ1:=by unfold YK;rw[h1];dsimp only;rw[h2]
section
variable{cs:xR}{ls:L3}{us ws:LO}
theorem Ly(c:Int):∀(a:xR)(i s:Nat),K9 s (a++[c])=K9 s a++[(List.range' (s+(US i a).length) c.toNat).map λk=>((k:Nat):Int)]
 |[],_,_=>rfl
 |x::a,i,s=>by rw[J5,K9,K9,Ly c a (i+1),US,Qk,QB,J5,show s+x.toNat+(US (i+1) a).length=s+(x.toNat+(US (i+1) a).length)by omega]
theorem RU(c:Int):∀(a:xR)(i:Nat),US i (a++[c])=US i a++UB c.toNat ((i+a.length:Nat):Int)
 |[],i=>by rw[Jk,US,US,US,QH];rfl
 |x::a,i=>by rw[J5,US,US,RU c a (i+1),Ja,Qs,show i+1+a.length=i+(a.length+1)by omega]
theorem Wr(g:Good cs ls):(US 0 cs).length<=42:=by
 have key:∀{a:xR}{i:Nat},(∀c∈a,c<8)->(US i a).length<=a.length*7:=λ{a}=>by
  induction a with
  |nil=>intro i _;exact JL _
  |cons c a ih=>intro i h;have h1:=h c Qf;have h2:=ih (i:=i+1) λx hx=>h x (Qh _ hx);rw[US,Qk,QB,Qs];omega
 have h1:=key (a:=cs) (i:=0) λc hc=>(g.c7 c hc).2;have h2:=g.c6;omega
theorem B6(s n:Nat):Zr (s:Int) ((s:Int)+n)=((List.range' s n).map λk=>((k:Nat):Int)).map int:=by
 unfold Zr;have e:List.range' s n=(List.range' 0 n).map (λk=>s+k):=by rw[List.map_add_range'];rfl
 rw[show((s:Int)+n-s).toNat=n by omega,List.range_eq_range',e,Jc,Jc];exact List.map_congr_left λk _=>JX int (show(s:Int)+(k:Int)=((s+k:Nat):Int)by omega)
theorem Xm{α:Type}{l:List α}{i:Nat}{x:α}(h:l[i]?=O x):l.take (i+1)=l.take i++[x]:=by have vQ:=(Ql.mp h).1;rw[List.take_succ_eq_append_getElem vQ,(Ql.mp h).2]
noncomputable def nmD(cs:xR):D:=.list ((K9 0 cs).map Kf)
theorem Om(g:Good cs ls):Wd [.list (cs.map int)]=O (nmD cs):=by
 have c6:=g.c6
 let C:Option Sl:=O (.pub (.list (cs.map int)))
 refine MF (ρ:=[C,xN,xN,xN]) xM ?_;unfold Nh;refine Kk (SH U0 (Qa xM) xM) ?_;refine Kk (K0 U0 (Qa xM) xM) ?_;apply KH;apply Ym (ds:=cs.map int) (λi ρ=>∃x,ρ=[C,O (.deep (.lst (.lst .leaf)) (nmD (cs.take i))),pb (.int ((US 0 (cs.take i)).length:Nat)),x])
 case h1=>exact ZD (UX xM) xM
 case h0=>exact⟨xN,rfl⟩
 case hst=>
  rintro i d ρ hi ⟨x,rfl⟩;rw[Qp]at hi;cases hx:cs[i]? with
  |none=>rw[hx]at hi;cases hi
  |some c=>
  rw[hx]at hi;cases hi;have hc:=g.c7 c (QM hx)
  have hb:(US 0 (cs.take i)).length<=42:=by
   have e:cs=cs.take i++cs.drop i:=(List.take_append_drop i cs).symm
   have key:∀(a b:xR)(j:Nat),(US j a).length<=(US j (a++b)).length:=λa=>by
    induction a with
    |nil=>intro b j;exact JL _
    |cons c a ih=>intro b j;rw[J5,US,US,Qk,Qk];have:=ih b (j+1);omega
   have:=key (cs.take i) (cs.drop i) 0;rw[←e]at this;exact Qt this (Wr g)
  refine⟨[C,O (.deep (.lst (.lst .leaf)) (nmD (cs.take i))),pb (.int ((US 0 (cs.take i)).length:Nat)),pb (.int c)],U8 (Qa xM) xM,?_⟩;unfold GL;have hl:((K9 0 (cs.take i)).map Kf).length<1000000:=by rw[Qb,On,Q7];omega
  obtain⟨n,rfl⟩:∃n:Nat,c=n:=⟨c.toNat,by omega⟩
  have hr:Wi [.int ((US 0 (cs.take i)).length:Nat),.int (((US 0 (cs.take i)).length:Nat)+(n:Int))]=O (((List.range' (US 0 (cs.take i)).length n).map λk=>((k:Nat):Int)).map int):=by rw[←B6];unfold Wi;dsimp only;rw[Qq (by omega),Lk (by omega) (by omega) (by omega) (by omega)]
  refine Kk (My (K5 (KM (UW (UX xM) (UW (Ka (UX xM) (UX xM) Yt) UZ)) (ZG hr))) xM xM xM hl xM) ?_;refine KQ (Dk xM (UX xM) xM (Qa xM) xM) (Zv ⟨O (.pub (.int n)),?_⟩);rw[Xm hx];unfold nmD;rw[Ly _ _ 0,RU,Qk,QB,JR,QI,Q1];simp[Kf]
 case hend=>rintro ρ ⟨x,rfl⟩;rw[Qb,Jr];exact KR (KT ⟨_,rfl,_,Ci rfl rfl⟩)
noncomputable def KG(cs:xR):Bool:=decide (1<=(US 0 cs).length)&&decide ((US 0 cs).length<=6)
theorem NR(g:Good cs ls):cs.sum=((US 0 cs).length:Nat):=(ME λc hc=>(g.c7 c hc).1).symm
theorem w_0:oIx (Kj cs ls) (.int 0)=O (.list (cs.map int)):=ZQ (j:=0) xM
theorem Hs(g:Good cs ls){ρ:UQ}(h:ρ[0]?=O (O (.pub (Kj cs ls)))):Xl (oIB λi j=>decide (i<=j)) (oIB λi j=>decide (i<=j)) (UU (.int 1)) (Zc Y2 (UT (U5 0 (UU (.int 0))) (UR))) (UU (.int 6)) ρ=.ok (KG cs) ρ:=by
 have e:=VJ (p:=oIB λi j=>decide (i<=j)) (q:=oIB λi j=>decide (i<=j)) (f:=UU (.int 1)) (g:=Zc Y2 (UT (U5 0 (UU (.int 0))) (UR))) (h:=UU (.int 6)) (ρ:=ρ) (x:=.int 1) (y:=.int cs.sum) (z:=.int 6) (t:=decide ((1:Int)<=cs.sum)) (u:=decide (cs.sum<=6)) U0 (ZU (UW (K2 h U0 w_0) UZ) Ox) xM (λ_=>U0) λ_=>rfl;rw[e]
 congr 1
 have s:=NR g;unfold KG;rw[s]
 congr 1<;>exact JZ.mpr (by omega)
theorem GS(g:Good cs ls):Y5 [Kj cs ls]=O (if KG cs=xO then .val .none else .exc (exD "NoJoin" [])):=by
 refine W6 (ρ:=[pb (Kj cs ls)]) xM ?_;unfold Pq;refine Kk (Pv (Xo (UW (UX xM) UZ) xM (GT g)) xM) ?_;refine Kt (YI (Hs g xM)) (λz=>?_) λz=>?_
 .rw[Qw (by revert z;cases KG cs<;>decide)]
  exact KQ (Wb (UW U0 UZ) xM) ⟨rfl,rfl⟩
 .rw[Qq (by revert z;cases KG cs<;>decide)]
  exact KT xM
theorem S7(g:Good cs ls)(h:KG cs=xO):Zn [Kj cs ls]=O .none:=by refine Rs (ρ:=[pb (Kj cs ls)]) xM ?_;unfold To;refine Kk (VO (Ky (UW (UX xM) UZ) xM (qm g))) ?_;refine Kt (YI (Hs g xM)) (λz=>?_) λz=>KT ⟨_,rfl⟩;rw[h]at z;cases z
theorem GR{d:D}{p:Str}{n:D}(hs:YO d)(h:ZY d=O (p,n)):Y5 [d]=O (.exc (exD "NoWishes" [.str p,n])):=by refine W6 (ρ:=[pb d]) xM ?_;unfold Pq;have hx:=MG hs;rw[h]at hx;apply KH;exact KQ (Wf (Xo (UW (UX xM) UZ) xM hx)) (YX ⟨rfl,rfl⟩)
noncomputable def ZZ(cs:xR)(ls:L3):D:=Kj (UB (US 0 cs).length 1) (ls.map (cpA (US 0 cs)))
theorem GQ{t:Int}(h:0<=t/\t<cs.length):oIx (nmD cs) (.int t)=O (Kf (Zh t 0 (US 0 cs))):=by
 obtain⟨j,rfl⟩:∃j:Nat,t=j:=⟨t.toNat,by omega⟩
 refine ZQ ?_;rw[Qp,RV (i:=0) (by omega),JR];rfl
theorem Lx:∀(n:Nat),(UB n (1:Int)).map int=UB n (int 1):=λn=>List.map_replicate
theorem qB(rows:List xR):(rows.map Kf).filter Vq=(rows.filter λr=>decide (r≠[])).map Kf:=by
 rw[List.filter_map]
 congr 1
 refine JC λr _=>?_;cases r<;>rfl
theorem Ol{r:xR}{n:Nat}(h:r.Nodup):(cpR (US 0 cs) r).length<=(US 0 cs).length:=SN _ _ (Ot h) λx hx=>RQ hx
theorem B5(g:Good cs ls)(h:KG cs=xO):SS [Kj cs ls]=O (ZZ cs ls):=by
 have c6:=g.c6;have l7:=g.l7;have o42:=Wr g
 let W:Option Sl:=O (.pub (Kj cs ls))
 let C:Option Sl:=O (.pub (.list (cs.map int)))
 let L:Option Sl:=O (.pub (.list (ls.map Ke)))
 let N:Option Sl:=O (.pub (nmD cs))
 refine MF (ρ:=[W,xN,xN,xN,xN,xN,xN]) xM ?_;unfold O8;refine Kk (VO (Ky (UW (UX xM) UZ) xM (S7 g h))) ?_;refine Kk (ρ1:=[W,C,L,xN,xN,xN,xN]) (Rt (UX xM) (Zw xM (KF (U8 (Qa xM) xM) (KF (U8 (Qa xM) xM) Zx)))) ?_;refine Kk (ρ1:=[W,C,L,N,xN,xN,xN]) (K0 (Ky (UW (UX xM) UZ) xM (Om g)) (Qa xM) xM) ?_;refine Kk (SH U0 (Qa xM) xM) ?_;apply KH;apply Ym (ds:=ls.map Ke) (λi ρ=>∃x,ρ=[W,C,L,N,O (.deep (.lst (.lst (.lst .leaf))) (.list (((ls.take i).map (cpA (US 0 cs))).map Ke))),x,xN])
 case h1=>exact ZD (UX xM) xM
 case h0=>exact⟨xN,rfl⟩
 case hst=>
  rintro i d ρ hi ⟨x,rfl⟩;rw[Qp]at hi;cases hx:ls[i]? with
  |none=>rw[hx]at hi;cases hi
  |some rs=>
  rw[hx]at hi;cases hi;have gr:=g.rk rs (QM hx);have few:=gr.few;refine⟨_,U8 (Qa xM) xM,?_⟩;unfold Gj;refine Kk (ρ1:=[W,C,L,N,O (.deep (.lst (.lst (.lst .leaf))) (.list (((ls.take i).map (cpA (US 0 cs))).map Ke))),pb (Ke rs),O (.deep (.lst (.lst .leaf)) (.list ((rs.map (cpR (US 0 cs))).map Kf)))]) (SH (BF (ZD (UX xM) xM) ?_) (Qa xM) xM) ?_
  .rw[show(rs.map (cpR (US 0 cs))).map Kf=rs.map (Kf ∘ cpR (US 0 cs))from Jc ..]
   refine(cTTM Kf (Kf ∘ cpR (US 0 cs)) (λρ=>∃y,ρ=[W,C,L,N,xN,pb (Ke rs),xN,y]) rs _ [] ?_ ⟨xN,rfl⟩ (by rw[QT];omega)).trans xM;rintro r hr ρ ⟨y,rfl⟩;have rn:r.Nodup:=gr.once.sublist (Jh hr);have e:(r.map λt=>Zh t 0 (US 0 cs)).flatten=cpR (US 0 cs) r:=by unfold cpR;rw[List.flatMap_def]
   have hl:=Ol (cs:=cs) (n:=0) rn;refine⟨_,U8 (Qa xM) xM,K5 (x:=(cpR (US 0 cs) r).map int) (Lz (ZD (UX xM) xM) ?_),pb (Kf r),rfl⟩;rw[←e]at hl⊢
   exact(Tu int int (λt=>Zh t 0 (US 0 cs)) int (λρ=>∃y z,ρ=[W,C,L,N,xN,pb (Ke rs),xN,pb (Kf r),y,z]) (λt ρ=>∃z,ρ=[W,C,L,N,xN,pb (Ke rs),xN,pb (Kf r),pb (.int t),z]) r _ [] (λt ht ρ ⟨y,z,e⟩=>by
    subst e;exact⟨_,U8 (Qa xM) xM,ZD (K2 xM (UX xM) (GQ (gr.there r hr t ht))) xM,Ku z,rfl⟩) (λt ht k hk ρ ⟨z,e⟩=>by
    subst e;exact⟨_,U8 (Qa xM) xM,UX xM,_,rfl⟩) (λt ρ ⟨z,e⟩=>⟨_,z,e⟩) ⟨xN,xN,rfl⟩ (by rw[QT];omega)).trans xM
  .refine KQ (My (BA xM) xM xM xM (by rw[Qb,Qb,Q7];omega) xM) (Zv ⟨O (.pub (Ke rs)),?_⟩)
   rw[Xm hx,QI,QI,qB];rfl
 case hend=>
  rintro ρ ⟨x,rfl⟩;rw[Qb,Jr];have s:=NR g;have m:=DU (f:=U7 (UT (UU (.int 1)) (UR))) (g:=Zc Y2 (UT (UP 1) (UR))) (ρ:=[W,C,L,N,O (.deep (.lst (.lst (.lst .leaf))) (.list ((ls.map (cpA (US 0 cs))).map Ke))),x,xN]) (x:=.int 1) (n:=(US 0 cs).length) (KJ (UW U0 UZ) (Qa rfl)) (ZU (UW (UX rfl) UZ) (by rw[Ox,s])) (by omega);have:=By m xM (p:=.lst (.lst (.lst .leaf))) (j:=4) (d:=.list ((ls.map (cpA (US 0 cs))).map Ke)) xM;have hd:ZZ cs ls=.tuple [.list (UB (US 0 cs).length (int 1)),.list ((ls.map (cpA (US 0 cs))).map Ke)]:=by unfold ZZ Kj;rw[Lx]
  rw[hd];exact KR (KT ⟨_,rfl,_,this⟩)
theorem B4{d:D}{e:D}(he:Xs e=xO)(h:Y5 [d]=O (.exc e)):T6 [d]=O (.exc e):=by refine W6 (ρ:=[pb d,xN,xN,xN,xN,xN,xN]) xM ?_;unfold OS;apply KH;exact KQ (Wf (Xo (UW (UX xM) UZ) xM h)) (YX ⟨rfl,he⟩)
theorem qA{d d2:D}{e:D}(he:Xs e=xO)(h:Y5 [d]=O (.exc e)):Se [d,d2]=O (.exc e):=by refine W6 (ρ:=[pb d,pb d2,xN,xN,xN]) xM ?_;unfold Nk;apply KH;exact KQ (Wf (Xo (UW (UX xM) UZ) xM h)) (YX ⟨rfl,he⟩)
theorem De{d d2:D}{e:D}(he:Xs e=xO)(h:Y5 [d]=O (.exc e)):Sd [d,d2]=O (.exc e):=by refine W6 (ρ:=[pb d,pb d2,xN]) xM ?_;unfold Ng;apply KH;exact KQ (Wf (Xo (UW (UX xM) UZ) xM h)) (YX ⟨rfl,he⟩)
end
noncomputable def Tx(ow:xR)(L:xY):xZ->xZ×xY
 |none=>(xN,L)
 |some x=>match KL ow L x with
  |[]=>(xN,L)
  |k::_=>(O k,L.filter λj=>decide ((j:Int)≠k))
noncomputable def Za(ow:xR)(us:LO):Nat->xY
 |0=>UA ow.length
 |i+1=>(Tx ow (Za ow us i) (us.getD i xN)).2
noncomputable def ZX(ow:xR)(us:LO)(i:Nat):xZ:=(Tx ow (Za ow us i) (us.getD i xN)).1
noncomputable def ZH(ow:xR)(us:LO):LO:=(UA us.length).map (ZX ow us)
noncomputable def Yj(ow:xR):xZ->xZ
 |none=>xN
 |some k=>ow[k.toNat]?
theorem ON(ow:xR){L:xY}(nd:L.Nodup)(hb:∀k∈L,k<ow.length)(x:Int):(KL ow L x=[]/\Tx ow L (O x)=(xN,L)) ∨ ∃(k:Nat)(r:xR),KL ow L x=(k:Int)::r/\ow[k]?=O x/\k∈L/\Tx ow L (O x)=(O (k:Int),L.filter λj=>decide (j≠k))/\KL ow (L.filter λj=>decide (j≠k)) x=r:=by
 cases h:KL ow L x with
 |nil=>exact .inl ⟨rfl,by unfold Tx;dsimp only;rw[h]⟩
 |cons k r=>
  have hk:k∈KL ow L x:=by rw[h];exact Qf
  obtain⟨n,_,rfl⟩:=Qu.mp hk;obtain⟨h1,h2,h3⟩:=B7 nd h;refine .inr ⟨n,r,rfl,h1,h2,?_,h3⟩;unfold Tx;dsimp only;rw[h];dsimp only
  congr 1
  refine JC λj _=>JZ.mpr (by omega)
theorem RT(ow:xR)(us:LO):∀i,(Za ow us i).Nodup/\∀k∈Za ow us i,k<ow.length
 |0=>⟨List.nodup_range,λk hk=>Jl.mp hk⟩
 |i+1=>by
  obtain⟨h1,h2⟩:=RT ow us i;rw[Za];cases us.getD i xN with
  |none=>exact⟨h1,h2⟩
  |some x=>
   rcases ON ow h1 h2 x with ⟨_,e⟩|⟨k,r,_,_,_,e,_⟩
   .rw[e];exact⟨h1,h2⟩
   .rw[e];exact⟨h1.filter _,λj hj=>h2 j (JU.mp hj).1⟩
section
variable{cs:xR}{ls:L3}{us ws:LO}
theorem O3(g:Good cs ls)(d:Deal cs ls us){i:Nat}{t:Int}(h:us[i]?=O (O t)):0<=t/\t<cs.length:=by have hi:=(Ql.mp h).1;have hl:=d.len;have e:ls[i]?=O (ls[i]'(by omega)):=Qe (by omega);obtain⟨r,hr,ht⟩:=Ul.mp (d.wish i t _ h e);exact(g.rk _ (QM e)).there r hr t ht
theorem qz(g:Good cs ls){j:Nat}{c:Int}(h:cs[j]?=O c):((Zh (j:Int) 0 (US 0 cs)).length:Int)=c:=by
 have key:∀{a:xR}{s j:Nat}{c:Int},(∀c∈a,0<=c)->a[j]?=O c->∃r,(K9 s a)[j]?=O r/\(r.length:Int)=c:=λ{a}=>by
  induction a with
  |nil=>intro s j c _ h;cases h
  |cons x a ih=>
   intro s j c h0 h;cases j with
   |zero=>rw[J0]at h;cases h;refine⟨_,rfl,?_⟩;have:=h0 x Qf;rw[Qb,List.length_range'];omega
   |succ j=>exact ih (λy hy=>h0 y (Qh _ hy)) h
 obtain⟨r,h1,h2⟩:=key (s:=0) (λc hc=>(g.c7 c hc).1) h;have e:=RV (cs:=cs) (i:=0) (s:=0) (j:=j) (Ql.mp h).1;rw[h1,JR]at e;cases e;exact h2
theorem O2(g:Good cs ls)(d:Deal cs ls us):∀i,i<=us.length->∀(j:Nat) c,cs[j]?=O c->((KL (US 0 cs) (Za (US 0 cs) us i) (j:Int)).length:Int)+(((us.take i).count (O (j:Int)):Nat):Int)=c
 |0,_,j,c,h=>by rw[Za,MD,qz g h,Ua,List.count_nil];omega
 |i+1,hi,j,c,h=>by
  have ih:=O2 g d i (by omega) j c h;obtain⟨h1,h2⟩:=RT (US 0 cs) us i;have hx:us[i]?=O us[i]:=Qe (by omega);have hd:us.getD i xN=us[i]:=by rw[Jj,hx];rfl
  rw[Za,hd,Xm hx,List.count_append];cases hu:us[i]with
  |none=>
   have:List.count (O (j:Int)) [xN]=0:=by rw[List.count_eq_zero];intro z;cases QE.mp z
   rw[this];exact ih
  |some x=>
   rw[hu]at hx;obtain⟨x0,x1⟩:=O3 g d hx;obtain⟨m,rfl⟩:∃m:Nat,x=m:=⟨x.toNat,by omega⟩
   have hm:cs[m]?=O (cs[m]'(by omega)):=Qe (by omega);have im:=O2 g d i (by omega) m _ hm;have cm:=d.cop m _ hm;have ct:(us.take (i+1)).count (O (m:Int))<=us.count (O (m:Int)):=(List.take_sublist _ _).count_le _;rw[Xm hx,List.count_append,JT]at ct;rcases ON (US 0 cs) h1 h2 (m:Int)with ⟨e,_⟩|⟨k,r,e1,e2,_,e3,e4⟩
   .rw[e,QT]at im;omega
   .rw[e3]
    by_cases hj:j=m
    .subst hj
     rw[e1,Qs]at ih;rw[e4,JT];omega
    .have:List.count (O (j:Int)) [O (m:Int)]=0:=by
      rw[List.count_eq_zero];intro z;have:=Je (QE.mp z);omega
     rw[MC e2 (by omega),this];exact ih
theorem RP(g:Good cs ls)(d:Deal cs ls us){i:Nat}{x:Int}(hx:us[i]?=O (O x)):∃(k:Nat)(r:xR),KL (US 0 cs) (Za (US 0 cs) us i) x=(k:Int)::r/\(US 0 cs)[k]?=O x/\ZX (US 0 cs) us i=O (k:Int)/\Za (US 0 cs) us (i+1)=(Za (US 0 cs) us i).filter (λj=>decide (j≠k))/\KL (US 0 cs) (Za (US 0 cs) us (i+1)) x=r:=by
 have hi:=(Ql.mp hx).1;obtain⟨h1,h2⟩:=RT (US 0 cs) us i;have hd:us.getD i xN=O x:=by rw[Jj,hx];rfl
 obtain⟨x0,x1⟩:=O3 g d hx;obtain⟨m,rfl⟩:∃m:Nat,x=m:=⟨x.toNat,by omega⟩
 rcases ON (US 0 cs) h1 h2 (m:Int)with ⟨e,_⟩|⟨k,r,e1,e2,_,e3,e4⟩
 .have hm:cs[m]?=O (cs[m]'(by omega)):=Qe (by omega)
  have im:=O2 g d i (by omega) m _ hm;have cm:=d.cop m _ hm;have ct:(us.take (i+1)).count (O (m:Int))<=us.count (O (m:Int)):=(List.take_sublist _ _).count_le _;rw[Xm hx,List.count_append,JT]at ct;rw[e,QT]at im;omega
 .refine⟨k,r,e1,e2,?_,?_,?_⟩
  .unfold ZX;rw[hd,e3]
  .rw[Za,hd,e3]
  .rw[Za,hd,e3];exact e4
theorem RO{ow:xR}{i:Nat}(hx:us[i]?=O xN):ZX ow us i=xN/\Za ow us (i+1)=Za ow us i:=by
 have hd:us.getD i xN=xN:=by rw[Jj,hx];rfl
 constructor
 .unfold ZX;rw[hd];rfl
 .rw[Za,hd];rfl
theorem qy(g:Good cs ls)(d:Deal cs ls us):(ZH (US 0 cs) us).map (Yj (US 0 cs))=us:=by
 refine J9 λi=>?_;unfold ZH;rw[Jc,Qp]
 by_cases hi:i<us.length
 .rw[Qe (by rw[Q5];exact hi),JG,JO,Qe hi]
  have hx:us[i]?=O us[i]:=Qe hi
  congr 1
  show Yj _ (ZX _ us i)=us[i];cases hu:us[i]with
  |none=>rw[hu]at hx;rw[(RO hx).1];rfl
  |some x=>
   rw[hu]at hx;obtain⟨k,r,_,e2,e3,_⟩:=RP g d hx;rw[e3]
   show(US 0 cs)[(k:Int).toNat]?=O x
   rw[Q1];exact e2
 .rw[Jd (by rw[Q5];omega),Jd (by omega)];rfl
theorem jU(g:Good cs ls)(d:Deal cs ls us):∀w∈ZH (US 0 cs) us,∀k,w=O k->0<=k/\k<(US 0 cs).length:=by
 rintro w hw k rfl;unfold ZH at hw;obtain⟨i,hi,e⟩:=Qu.mp hw;have hi:=Jl.mp hi;have hx:us[i]?=O us[i]:=Qe hi;cases hu:us[i]with
 |none=>rw[hu]at hx;rw[(RO hx).1]at e;cases e
 |some x=>rw[hu]at hx;obtain⟨n,r,_,e2,e3,_⟩:=RP g d hx;rw[e3]at e;cases e;have:=(Ql.mp e2).1;omega
noncomputable def lfD(cs:xR)(L:xY):D:=.list ((UA cs.length).map λj=>Kf (KL (US 0 cs) L ((j:Nat):Int)))
theorem Fp:lfD cs (UA (US 0 cs).length)=nmD cs:=by
 unfold lfD nmD
 congr 1
 refine J9 λj=>?_;rw[Qp,Qp]
 by_cases hj:j<cs.length
 .rw[Qe (by rw[Q5];exact hj),JG,JO,RV (i:=0) hj,JR,JO,MD]
 .rw[Jd (by rw[Q5];omega),Jd (by rw[On];omega)];rfl
noncomputable def ZR(cs:xR)(us:LO)(i:Nat):xQ:=((UA i).map (ZX (US 0 cs) us)).map U6
theorem Dd(g:Good cs ls)(d:Deal cs ls us){i:Nat}{y:D}{x:Option Sl}(hi:(us.map U6)[i]?=O y):∃ρ1,gN 4 y [pb (Kj cs ls),pb (KE us),O (.deep (.lst (.lst .leaf)) (lfD cs (Za (US 0 cs) us i))),O (.own (ZR cs us i)),x]=O ρ1/\KN 3 (mIf (U3 isNon (UP 4)) (UU .none) (We 2 (UP 4))) ρ1=.nx [pb (Kj cs ls),pb (KE us),O (.deep (.lst (.lst .leaf)) (lfD cs (Za (US 0 cs) us (i+1)))),O (.own (ZR cs us (i+1))),pb y]:=by
 have hl:=d.len;have l7:=g.l7;rw[Qp]at hi;cases hx:us[i]? with
 |none=>rw[hx]at hi;cases hi
 |some u=>
 rw[hx]at hi;cases hi;have vQ:=(Ql.mp hx).1;have tk:ZR cs us (i+1)=ZR cs us i++[U6 (ZX (US 0 cs) us i)]:=by unfold ZR;rw[List.range_succ,QI,QI];rfl
 have tl:(ZR cs us i).length<1000000:=by unfold ZR;rw[Qb,Qb,Q5];omega
 refine⟨_,U8 (Qa xM) xM,?_⟩;cases u with
 |none=>obtain⟨e1,e2⟩:=RO (ow:=US 0 cs) hx;rw[tk,e1,e2];exact YW xM (N6 (K5 (x:=.none) (UX xM)) U0) xM tl xM
 |some t=>
  obtain⟨k,r,e1,e2,e3,e4,e5⟩:=RP g d hx;obtain⟨t0,t1⟩:=O3 g d hx;obtain⟨m,rfl⟩:∃m:Nat,t=m:=⟨t.toNat,by omega⟩
  have hm:((UA cs.length).map λj=>Kf (KL (US 0 cs) (Za (US 0 cs) us i) ((j:Nat):Int)))[m]?=O (.list (.int k::r.map int)):=by rw[Qp,Qe (by rw[Q5];omega),JG,JO,e1];rfl
  have hs:((UA cs.length).map λj=>Kf (KL (US 0 cs) (Za (US 0 cs) us i) ((j:Nat):Int))).set m (.list (r.map int))=(UA cs.length).map λj=>Kf (KL (US 0 cs) (Za (US 0 cs) us (i+1)) ((j:Nat):Int)):=by
   refine J9 λj=>?_;rw[List.getElem?_set]
   by_cases hj:m=j
   .subst hj
    rw[Qq xM,Qq (by rw[Qb,Q5];omega),Qp,Qe (by rw[Q5];omega),JG,JO,e5];rfl
   .rw[Qw hj,Qp,Qp]
    cases hr:(UA cs.length)[j]? with
    |none=>rfl
    |some z=>obtain⟨h1,h2⟩:=Ql.mp hr;rw[JG]at h2;subst h2;rw[JO,JO,e4,MC e2 (by omega)]
  rw[tk,e3];refine YW xM (N5 (K5 (x:=.int (m:Nat)) (UX xM)) (CP xM (UX xM) xM hm)) xM tl ?_;rw[hs];rfl
theorem Nn(g:Good cs ls)(d:Deal cs ls us)(h:KG cs=xO){Q:Out->Prop}{s t:SM}(hs:s=KN 3 (mIf (U3 isNon (UP 4)) (UU .none) (We 2 (UP 4))))(hq:∀x y,Ho t [pb (Kj cs ls),pb (KE us),x,O (.own ((ZH (US 0 cs) us).map U6)),y] Q) :
  Ho (UV (Xj (U4 1 Zn (UT (UP 0) (UR)))) (UV (Yq 2 (.lst (.lst .leaf)) (U4 1 Wd (UT (U5 0 (UU (.int 0))) (UR)))) (UV (Kz 3 (U2 (UR) λxs=>if xs.length<=1000000 then UU xs else λ_=>.bad)) (UV (Kq (Kx (UP 1)) (gN 4) s) t))))
   [pb (Kj cs ls),pb (KE us),xN,xN,xN] Q:=by
 refine Kk (VO (Ky (UW (UX xM) UZ) xM (S7 g h))) ?_;refine Kk (SH (Ky (UW (K2 xM U0 w_0) UZ) xM (Om g)) (Qa xM) xM) ?_;refine Kk (Zo (Xp UZ (Qa xM)) (Qa xM) xM) ?_;apply KH;apply Ym (ds:=us.map U6) (λi ρ=>∃x,ρ=[pb (Kj cs ls),pb (KE us),O (.deep (.lst (.lst .leaf)) (lfD cs (Za (US 0 cs) us i))),O (.own (ZR cs us i)),x])
 case h1=>exact ZD (UX xM) xM
 case h0=>exact⟨xN,by rw[Za,Fp];rfl⟩
 case hst=>rintro i y ρ hi ⟨x,rfl⟩;obtain⟨ρ1,a,b⟩:=Dd g d (x:=x) hi;rw[hs];exact⟨ρ1,a,KQ b (Zv ⟨_,rfl⟩)⟩
 case hend=>rintro ρ ⟨x,rfl⟩;rw[Qb];exact KR (hq _ _)
theorem B3(g:Good cs ls)(d:Deal cs ls us)(h:KG cs=xO):WU [Kj cs ls,KE us]=O (KE (ZH (US 0 cs) us)):=by refine ZT (ρ:=[pb (Kj cs ls),pb (KE us),xN,xN,xN]) xM ?_;unfold Tn;exact Nn g d h xM λx y=>K4 (Z8 xM xM) xM
theorem B2(g:Good cs ls)(d:Deal cs ls us)(h:KG cs=xO):Po [Kj cs ls,KE us]=O ((ZH (US 0 cs) us).map U6):=by
 have e:Ho Pp [pb (Kj cs ls),pb (KE us),xN,xN,xN] (λo=>∃x y,o=.nx [pb (Kj cs ls),pb (KE us),x,O (.own ((ZH (US 0 cs) us).map U6)),y]):=by unfold Pp;exact Nn g d h xM λx y=>KT ⟨_,_,rfl⟩
 obtain⟨x,y,e⟩:=e.out;exact Nw xM e (EA xM)
noncomputable def nmE:Nat->Nat->xR->List (Nat×xR)
 |_,_,[]=>[]
 |i,s,c::cs=>(i,(List.range' s c.toNat).map λk=>((k:Nat):Int))::nmE (i+1) (s+c.toNat) cs
noncomputable def nmP(p:Nat×xR):D:=.tuple [.int (p.1:Nat),Kf p.2]
theorem Lw:∀(a:xR)(i s:Nat),ZB i ((K9 s a).map Kf)=(nmE i s a).map nmP
 |[],_,_=>rfl
 |c::a,i,s=>by rw[K9,nmE,Qx,Qx,ZB,Lw a];rfl
theorem Lv:∀(a:xR)(i s:Nat),((nmE i s a).map λp=>p.2.map λk=>((p.1:Int),k)).flatten.map (λq:Int×Int=>q.1)=US i a
 |[],_,_=>rfl
 |c::a,i,s=>by
  rw[nmE,US,Qx,QG,QI,Lv a]
  congr 1
  dsimp only;refine List.eq_replicate_iff.mpr ⟨by rw[Qb,Qb,Qb,List.length_range'],λx hx=>?_⟩;obtain⟨q,hq,rfl⟩:=Qu.mp hx;obtain⟨k,_,rfl⟩:=Qu.mp hq;rfl
theorem Hr(g:Good cs ls){A B:Option Sl}(hA:A=O (.pub (Kj cs ls)))(hB:Ku B=B):YK (YV (UT (U4 1 ZM (UT (U5 0 (UU (.int 0))) (UR))) (UR))) 3 (gT 2 (gNC (gN 3) (gNC (gN 4) (gN0)))) (UU xO) (Kx (UP 4)) (gN 5) (UU xO) (UP 3) [A,B,xN]=.ok ((US 0 cs).map int) [A,B,xN]:=by
 subst hA;have o:=Wr g;have f:=Lv cs 0 0;refine Lz (ds:=(nmE 0 0 cs).map nmP) (Vb (UW (Ky (UW (K2 xM U0 w_0) UZ) xM (Om g)) UZ) (by unfold nmD;rw[Vh,Lw])) ?_;have e:((nmE 0 0 cs).map λp=>p.2.map λk=>((p.1:Int),k)).flatten.map (λq:Int×Int=>int q.1)=(US 0 cs).map int:=by rw[←f,Jc];rfl
 have fl:=JX List.length f;rw[Qb]at fl;rw[←e];have hh:Km [pb (Kj cs ls),B,xN]=[pb (Kj cs ls),B,xN]:=by unfold Km;rw[Qx,Qx,hB];rfl
 rw[hh]
 exact(Tu nmP (λq:Int×Int=>int q.2) (λp=>p.2.map λk=>((p.1:Int),k)) (λq:Int×Int=>int q.1) (λρ=>∃x y z,ρ=[pb (Kj cs ls),B,xN,x,y,z]) (λp ρ=>∃y z,ρ=[pb (Kj cs ls),B,xN,pb (.int p.1),y,z]) (nmE 0 0 cs) _ [] (λp _ ρ ⟨x,y,z,e⟩=>by
  subst e;refine⟨_,Zw xM (KF (U8 (Qa xM) xM) (KF (U8 (Qa xM) xM) Zx)),ZD (UX xM) (by rw[Jc];rfl),pb (Kf p.2),Ku z,?_⟩;show [_,Ku B,_,_,_,_]=_;rw[hB];rfl) (λp _ q hq ρ ⟨y,z,e⟩=>by
  subst e;obtain⟨k,_,rfl⟩:=Qu.mp hq;refine⟨_,U8 (Qa xM) xM,UX xM,Ku y,pb (.int k),?_⟩;show [_,Ku B,_,_,_,_]=_;rw[hB];rfl) (λp ρ ⟨y,z,e⟩=>⟨_,y,z,e⟩) ⟨xN,xN,xN,rfl⟩ (by rw[QT];omega)).trans xM
theorem Hq(h:∀w∈ws,∀k,w=O k->0<=k/\k<(US 0 cs).length)(hl:ws.length<=1000):Wp (Kx (UP 1)) 1 (gN 3) (UU xO) (mIf (U3 isNon (UP 3)) (UU .none) (U5 2 (UP 3))) [pb (Kj cs ls),pb (KE ws),O (.own ((US 0 cs).map int))]=.ok ((ws.map (Yj (US 0 cs))).map U6) [pb (Kj cs ls),pb (KE ws),O (.own ((US 0 cs).map int))]:=by
 refine LF (ds:=ws.map U6) (ZD (UX xM) xM) ?_ ?_
 .rw[Jc]
  refine(cLpM U6 (λw=>U6 (Yj (US 0 cs) w)) (λρ=>∃x,ρ=[pb (Kj cs ls),pb (KE ws),pb (.list ((US 0 cs).map int)),x]) ws _ [] ?_ ⟨xN,rfl⟩ (by rw[QT];omega)).trans xM;rintro w hw ρ ⟨x,rfl⟩;refine⟨_,U8 (Qa xM) xM,?_,_,rfl⟩;cases w with
  |none=>exact N6 (K5 (x:=.none) (UX xM)) U0
  |some t=>obtain⟨t0,t1⟩:=h _ hw t xM;refine N5 (K5 (x:=.int t) (UX xM)) (K2 xM (UX xM) ?_);have e:(US 0 cs)[t.toNat]?=O ((US 0 cs)[t.toNat]'(by omega)):=Qe (by omega);show oIx _ _=O (U6 ((US 0 cs)[t.toNat]?));rw[e];exact Md t0 (by rw[Qp,e];rfl)
 .rw[List.all_map,List.all_map,Q3]
  intro w _;show flat (U6 _)=xO;cases Yj (US 0 cs) w<;>rfl
theorem NQ(g:Good cs ls)(f:KG cs=xO)(h:∀w∈ws,∀k,w=O k->0<=k/\k<(US 0 cs).length)(hl:ws.length<=1000):XS [Kj cs ls,KE ws]=O (KE (ws.map (Yj (US 0 cs)))):=by refine ZT (ρ:=[pb (Kj cs ls),pb (KE ws),xN]) xM ?_;unfold Tl;refine Kk (VO (Ky (UW (UX xM) UZ) xM (S7 g f))) ?_;refine Kk (Zo (Hr g xM xM) (Qa xM) xM) ?_;exact K4 (K5 (Hq h hl)) xM
theorem NP(g:Good cs ls)(f:KG cs=xO)(h:∀w∈ws,∀k,w=O k->0<=k/\k<(US 0 cs).length)(hl:ws.length<=1000):SU [Kj cs ls,KE ws]=O ((ws.map (Yj (US 0 cs))).map U6):=by
 have e:Ho Pl [pb (Kj cs ls),pb (KE ws),xN] (λo=>o=.nx [pb (Kj cs ls),pb (KE ws),O (.own ((US 0 cs).map int))]):=by unfold Pl;refine Kk (VO (Ky (UW (UX xM) UZ) xM (S7 g f))) ?_;exact Kk (Zo (Hr g xM xM) (Qa xM) xM) (KT xM)
 exact Nw xM e.out (Hq h hl)
end
theorem Xf{α:Type}{s:D->UQ->xX}{t:M Bool}{f:M D}(e:α->D)(p:α->Bool)(k:α->D)(I:UQ->Prop):∀(l:List α)(ρ:UQ)(es:xQ),(∀x∈l,∀ρ,I ρ->∃ρ1,s (e x) ρ=O ρ1/\t ρ1=.ok (p x) ρ1/\f ρ1=.ok (k x) ρ1/\I (Km ρ1))->I ρ->es.length+l.length<=1000000 ->
  Zi s t f (l.map e) ρ es=O (es++(l.filter p).map k)
 |[],ρ,es,_,_,_=>by rw[JA,Zi,List.filter_nil,JA,QH]
 |x::l,ρ,es,st,h0,hz=>by
  rw[Qs]at hz;obtain⟨ρ1,e1,e2,e3,e4⟩:=st x Qf ρ h0;rw[Qx,Zi,e1];dsimp only;rw[e2];dsimp only;cases hp:p x with
  |true=>rw[Qq xM,e3];dsimp only;rw[Qq (by omega),List.filter_cons_of_pos hp,Qx];refine(Xf e p k I l _ (es++[k x]) (λy hy=>st y (Qh _ hy)) e4 (by rw[Qk,Q4];omega)).trans ?_;rw[Ja];rfl
  |false=>rw[Qw (by decide),List.filter_cons_of_neg (by rw[hp];decide)];exact Xf e p k I l _ es (λy hy=>st y (Qh _ hy)) e4 (by omega)
def IsL(xs:xQ)(s:Option Sl):Prop:=s=O (.own xs)∨s=O (.pub (.list xs))
section
variable{cs:xR}{ls:L3}{us ws:LO}
theorem B0(ns:xR):oNe (.list (ns.map int)) (.list [])=O (!decide (ns=[])):=by
 show oNe (Kf ns) (.list [])=_;unfold oNe;rw[Qq ⟨RZ ns,rfl,Qt (RY ns) (by decide)⟩];cases ns with
 |nil=>rfl
 |cons a r=>rfl
theorem qx(g:Good cs ls):WO [Kj cs ls]=O (.list ((US 0 cs).map int)):=by
 let W:Option Sl:=O (.pub (Kj cs ls))
 refine ZT (ρ:=[W,xN,xN,xN]) xM ?_;unfold Tc;refine Kk (Zo (Xp UZ (Qa xM)) (Qa xM) xM) ?_;apply KH;apply Ym (ds:=ZB 0 (cs.map int)) (λi ρ=>∃s x y,IsL ((US 0 (cs.take i)).map int) s/\ρ=[W,s,x,y])
 case h1=>exact Vb (UW (K2 xM U0 w_0) UZ) Vh
 case h0=>exact⟨_,xN,xN,.inl xM,rfl⟩
 case hst=>
  rintro i d ρ hi ⟨s,x,y,hs,rfl⟩;obtain⟨z,hz,rfl⟩:=TX hi;rw[Qp]at hz;cases hx:cs[i]? with
  |none=>rw[hx]at hz;cases hz
  |some c=>
  rw[hx]at hz;cases hz;have hc:=g.c7 c (QM hx);obtain⟨n,rfl⟩:∃n:Nat,c=n:=⟨c.toNat,by omega⟩
  have vQ:=(Ql.mp hx).1;have o:=Wr g
  have hb:(US 0 (cs.take (i+1))).length<=42:=by
   have key:∀(a b:xR)(j:Nat),(US j a).length<=(US j (a++b)).length:=λa=>by
    induction a with
    |nil=>intro b j;exact JL _
    |cons c a ih=>intro b j;rw[J5,US,US,Qk,Qk];have:=ih b (j+1);omega
   have:=key (cs.take (i+1)) (cs.drop (i+1)) 0;rw[List.take_append_drop]at this;exact Qt this o
  rw[Xm hx,RU,Qk]at hb;have ha:=Yn (x:=(US 0 (cs.take i)).map int) (y:=UB n (int ((0+i:Nat):Int))) (by rw[Qb,QB];rw[QB,Q1]at hb;omega);have e:(US 0 (cs.take i)).map int++UB n (int ((0+i:Nat):Int))=(US 0 (cs.take (i+1))).map int:=by rw[Xm hx,RU,QI,List.map_replicate,Q1,Q7,Nat.min_eq_left (by omega)]
  rw[e]at ha;have hm:Ko (.list [.int ((0+i:Nat):Int)]) (.int (n:Nat))=O (.list (UB n (.int ((0+i:Nat):Int)))):=PJ (by omega);refine⟨[W,s,pb (.int ((0+i:Nat):Int)),pb (.int (n:Nat))],Zw xM (KF (U8 (Qa xM) xM) (KF (U8 (Qa xM) xM) Zx)),?_⟩;unfold Mp;rcases hs with rfl|rfl
  .exact KQ (K0 (Ka (Z8 xM xM) (Ka (KJ (UW (UX xM) UZ) (Qa xM)) (UX xM) hm) ha) (Qa xM) xM) (Zv ⟨_,_,_,.inr xM,rfl⟩)
  .exact KQ (K0 (Ka (UX xM) (Ka (KJ (UW (UX xM) UZ) (Qa xM)) (UX xM) hm) ha) (Qa xM) xM) (Zv ⟨_,_,_,.inr xM,rfl⟩)
 case hend=>
  rintro ρ ⟨s,x,y,hs,rfl⟩
  have hl:(ZB 0 (cs.map int)).length=cs.length:=by
   have:∀(l:xQ)(k:Nat),(ZB k l).length=l.length:=λl=>by
    induction l with
    |nil=>intro k;rfl
    |cons a l ih=>intro k;rw[ZB,Qs,Qs,ih]
   rw[this,Qb]
  rw[hl,Jr]at hs;rcases hs with rfl|rfl
  .exact KR (K4 (Z8 xM xM) xM)
  .exact KR (K4 (UX xM) xM)
theorem RF{ow:xR}{k:Nat}(h:k<ow.length):oIx (.list (ow.map int)) (.int (k:Nat))=O (.int ow[k]):=ZQ (by rw[Qp,Qe h];rfl)
theorem MM(n:Nat):Zr 0 (n:Int)=(UA n).map λk=>int ((k:Nat):Int):=by unfold Zr;rw[show((n:Int)-0).toNat=n by omega];exact List.map_congr_left λk _=>by rw[Uk]
theorem NO{ow:xR}{t:Int}{A B C E R Y W T:Option Sl}(ho:ow.length<=42)(hB:B=O (.pub (.list (ow.map int))))(hT:T=O (.pub (.int t))){ρ:UQ}(hρ:ρ=[A,B,C,E,R,Y,W,T]) :
  Z6 (Xr (UT (K6 1) (UR))) 1 (gN 8) (UY oEq (U5 1 (UP 8)) (UP 7)) (UP 8) ρ=.ok ((Zh t 0 ow).map int) ρ:=by
 subst hρ hB hT;have ln:KB [.list (ow.map int)]=O (.int ow.length):=by rw[ZE,Qb]
 have e:=Pg t ow 0;simp only[Nat.sub_zero]at e;rw[←List.range_eq_range']at e;refine X2 (ds:=(UA ow.length).map λk=>int ((k:Nat):Int)) (VQ (UW (Zp xM ln) UZ) (by rw[Vd (by omega) (by omega),MM])) ?_;rw[←e,Jc];refine(Xf (λk=>int ((k:Nat):Int)) (λk=>decide (ow[k]?=O t)) (λk=>int ((k:Nat):Int)) (λρ=>∃x,ρ=[Ku A,pb (.list (ow.map int)),Ku C,Ku E,Ku R,Ku Y,Ku W,pb (.int t),x]) (UA ow.length) _ [] ?_ ⟨xN,rfl⟩ (by rw[QT,Q5];omega)).trans xM;rintro k hk ρ ⟨x,rfl⟩;have hk:=Jl.mp hk;refine⟨_,U8 (Qa xM) xM,Ka (K2 xM (UX xM) (RF hk)) (UX xM) ?_,UX xM,pb (.int (k:Nat)),?_⟩
 .rw[Y0,List.getElem?_eq_getElem hk];simp
 .have hh:∀s:Option Sl,Ku (Ku s)=Ku s:=λs=>by rcases s with _|(_|_|_)<;>rfl
  show [Ku (Ku A),_,Ku (Ku C),Ku (Ku E),Ku (Ku R),Ku (Ku Y),Ku (Ku W),_,_]=_;rw[hh,hh,hh,hh,hh,hh];rfl
theorem Fo(g:Good cs ls):WN [Kj cs ls,.list ((US 0 cs).map int)]=O (ZZ cs ls):=by
 have c6:=g.c6;have l7:=g.l7;have o:=Wr g
 let W:Option Sl:=O (.pub (Kj cs ls))
 let B:Option Sl:=O (.pub (.list ((US 0 cs).map int)))
 have w1:oIx (Kj cs ls) (.int 1)=O (.list (ls.map Ke)):=ZQ (j:=1) xM;refine ZT (ρ:=[W,B,xN,xN,xN,xN,xN,xN]) xM ?_;unfold Ta;refine Kk (Zo (Xp UZ (Qa xM)) (Qa xM) xM) ?_;apply KH;apply Ym (ds:=ls.map Ke) (λi ρ=>∃x3 x4 x5 x6 x7,ρ=[W,B,O (.own (((ls.take i).map (cpA (US 0 cs))).map Ke)),x3,x4,x5,x6,x7])
 case h1=>exact ZD (K2 xM U0 w1) xM
 case h0=>exact⟨_,_,_,_,_,rfl⟩
 case hst=>
  rintro i d ρ hi ⟨x3,x4,x5,x6,x7,rfl⟩;rw[Qp]at hi;cases hx:ls[i]? with
  |none=>rw[hx]at hi;cases hi
  |some rs=>
  rw[hx]at hi;cases hi;have gr:=g.rk rs (QM hx);have few:=gr.few
  let LL:Option Sl:=O (.own (((ls.take i).map (cpA (US 0 cs))).map Ke))
  let R:Option Sl:=O (.pub (Ke rs))
  refine⟨[W,B,LL,R,x4,x5,x6,x7],U8 (Qa xM) xM,?_⟩;unfold Mq;refine Kk (ρ1:=[W,B,LL,R,O (.own []),x5,x6,x7]) (Zo (Xp UZ (Qa xM)) (Qa xM) xM) ?_;apply KH;apply Ym (ds:=rs.map Kf) (λj ρ=>∃x5 x6 x7,ρ=[W,B,LL,R,O (.own (((rs.take j).map (cpR (US 0 cs))).map Kf)),x5,x6,x7])
  case h1=>exact ZD (UX xM) xM
  case h0=>exact⟨_,_,_,rfl⟩
  case hst=>
   rintro j d ρ hj ⟨x5,x6,x7,rfl⟩;rw[Qp]at hj;cases hy:rs[j]? with
   |none=>rw[hy]at hj;cases hj
   |some r=>
   rw[hy]at hj;cases hj;have hr:=QM hy;have rn:r.Nodup:=gr.once.sublist (Jh hr)
   let RR:Option Sl:=O (.own (((rs.take j).map (cpR (US 0 cs))).map Kf))
   let RK:Option Sl:=O (.pub (Kf r))
   refine⟨[W,B,LL,R,RR,RK,x6,x7],U8 (Qa xM) xM,?_⟩;unfold Mr;refine Kk (ρ1:=[W,B,LL,R,RR,RK,O (.own []),x7]) (Zo (Xp UZ (Qa xM)) (Qa xM) xM) ?_;apply KH;apply Ym (ds:=r.map int) (λk ρ=>∃s x7,IsL ((cpR (US 0 cs) (r.take k)).map int) s/\ρ=[W,B,LL,R,RR,RK,s,x7])
   case h1=>exact ZD (UX xM) xM
   case h0=>exact⟨_,_,.inl xM,rfl⟩
   case hst=>
    rintro k d ρ hk ⟨s,x7,hs,rfl⟩;rw[Qp]at hk;cases hz:r[k]? with
    |none=>rw[hz]at hk;cases hk
    |some t=>
    rw[hz]at hk;cases hk;refine⟨[W,B,LL,R,RR,RK,s,pb (.int t)],U8 (Qa xM) xM,?_⟩;unfold Ms;have e:cpR (US 0 cs) (r.take (k+1))=cpR (US 0 cs) (r.take k)++Zh t 0 (US 0 cs):=by unfold cpR;rw[Xm hz,List.flatMap_append,List.flatMap_cons,List.flatMap_nil,QH]
    have hl:(cpR (US 0 cs) (r.take (k+1))).length<=(US 0 cs).length:=Ol (n:=0) (rn.sublist (List.take_sublist _ _));have ha:=Yn (x:=(cpR (US 0 cs) (r.take k)).map int) (y:=(Zh t 0 (US 0 cs)).map int) (by rw[e,Qk]at hl;rw[Qb,Qb];omega);rw[←QI,←e]at ha;rcases hs with rfl|rfl
    .exact KQ (K0 (Ka (Z8 xM xM) (K5 (NO o xM xM xM)) ha) (Qa xM) xM) (Zv ⟨_,_,.inr xM,rfl⟩)
    .exact KQ (K0 (Ka (UX xM) (K5 (NO o xM xM xM)) ha) (Qa xM) xM) (Zv ⟨_,_,.inr xM,rfl⟩)
   case hend=>
    rintro ρ ⟨s,x7,hs,rfl⟩;rw[Qb,Jr]at hs;have hl:(((rs.take j).map (cpR (US 0 cs))).map Kf).length<1000000:=by rw[Qb,Qb,Q7];omega
    refine KR ?_;rcases hs with rfl|rfl
    .refine KQ (YW xM (Z8 xM xM) xM hl xM) (Zv ⟨RK,pb (Kf (cpR (US 0 cs) r)),x7,?_⟩)
     rw[Xm hy,QI,QI];rfl
    .refine KQ (YW xM (UX xM) xM hl xM) (Zv ⟨RK,pb (Kf (cpR (US 0 cs) r)),x7,?_⟩)
     rw[Xm hy,QI,QI];rfl
  case hend=>
   rintro ρ ⟨x5,x6,x7,rfl⟩;rw[Qb,Jr];refine KR ?_
   have hc:Z6 (Kx (UP 4)) 1 (gN 8) (Zu oNe 8 (U7 (UR))) (UP 8) [W,B,LL,R,O (.own ((rs.map (cpR (US 0 cs))).map Kf)),x5,x6,x7]=.ok ((cpA (US 0 cs) rs).map Kf) [W,B,LL,R,pb (.list ((rs.map (cpR (US 0 cs))).map Kf)),x5,x6,x7]:=by
    refine X2 (ZD (Z8 rfl rfl) rfl) ?_;have hh:∀s:Option Sl,Ku (Ku s)=Ku s:=λs=>by rcases s with _|(_|_|_)<;>rfl
    refine(Xf Kf (λr=>!decide (r=[])) Kf (λρ=>∃x,ρ=[W,B,xN,R,pb (.list ((rs.map (cpR (US 0 cs))).map Kf)),Ku x5,Ku x6,Ku x7,x]) (rs.map (cpR (US 0 cs))) _ [] ?_ ⟨xN,rfl⟩ (by rw[QT,Qb];omega)).trans ?_
    .rintro r _ ρ ⟨x,rfl⟩
     refine⟨_,U8 (Qa xM) xM,YZ xM (KJ UZ (Qa xM)) (B0 r),UX xM,pb (Kf r),?_⟩;show [_,_,_,_,_,Ku (Ku x5),Ku (Ku x6),Ku (Ku x7),_]=_;rw[hh,hh,hh];rfl
    .rw[Jk]
     unfold cpA
     congr 2
     refine JC λr _=>?_;rw[decide_not]
   refine KQ (YW xM (K5 hc) xM (by rw[Qb,Qb,Q7];omega) xM) (Zv ⟨R,pb (.list ((rs.map (cpR (US 0 cs))).map Kf)),x5,x6,x7,?_⟩);rw[Xm hx,QI,QI];rfl
 case hend=>
  rintro ρ ⟨x3,x4,x5,x6,x7,rfl⟩;rw[Qb,Jr];have ln:KB [.list ((US 0 cs).map int)]=O (.int (US 0 cs).length):=by rw[ZE,Qb]
  refine KR (K4 (Zs (UW (Ka (KJ (UW U0 UZ) (Qa xM)) (Zp xM ln) (PJ (by omega))) (UW (Z8 xM xM) UZ)) (Qa xM)) ?_);unfold ZZ Kj;rw[Lx]
theorem qw(g:Good cs ls)(d:Deal cs ls us):WM [KE us,.list ((US 0 cs).map int)]=O (KE (ZH (US 0 cs) us)):=by
 have l7:=g.l7;have ul:=d.len;have o:=Wr g
 let U:Option Sl:=O (.pub (KE us))
 let B:Option Sl:=O (.pub (.list ((US 0 cs).map int)))
 let I:=λL:xY=>L.map λk=>int ((k:Nat):Int)
 have ln:KB [.list ((US 0 cs).map int)]=O (.int (US 0 cs).length):=by rw[ZE,Qb]
 refine ZT (ρ:=[U,B,xN,xN,xN,xN]) xM ?_;unfold V9;refine Kk (ρ1:=[U,B,O (.own (I (UA (US 0 cs).length))),xN,xN,xN]) (Zo (KM (UW (Zp xM ln) UZ) (ZG (show Wi [.int (US 0 cs).length]=O (I (UA (US 0 cs).length))from by show Wk [.int (US 0 cs).length]=_;rw[Vd (by omega) (by omega),MM]))) (Qa xM) xM) ?_;refine Kk (Zo (Xp UZ (Qa xM)) (Qa xM) xM) ?_;apply KH;apply Ym (ds:=us.map U6) (λi ρ=>∃x4 x5,ρ=[U,B,O (.own (I (Za (US 0 cs) us i))),O (.own (ZR cs us i)),x4,x5])
 case h1=>exact ZD (UX xM) xM
 case h0=>exact⟨xN,xN,rfl⟩
 case hst=>
  rintro i y ρ hi ⟨x4,x5,rfl⟩;rw[Qp]at hi;cases hx:us[i]? with
  |none=>rw[hx]at hi;cases hi
  |some u=>
  rw[hx]at hi;cases hi;have vQ:=(Ql.mp hx).1;obtain⟨nd,hb⟩:=RT (US 0 cs) us i
  have few:(Za (US 0 cs) us i).length<=42:=by
   have:=SN (US 0 cs).length ((Za (US 0 cs) us i).map λk=>((k:Nat):Int)) (List.pairwise_map.mpr (nd.imp λh e=>h (by omega))) λx hx=>by obtain⟨k,hk,rfl⟩:=Qu.mp hx;have:=hb k hk;omega
   rw[Qb]at this;omega
  have tk:ZR cs us (i+1)=ZR cs us i++[U6 (ZX (US 0 cs) us i)]:=by unfold ZR;rw[List.range_succ,QI,QI];rfl
  have tl:(ZR cs us i).length<1000000:=by unfold ZR;rw[Qb,Qb,Q5];omega
  generalize hL:Za (US 0 cs) us i=L at *;refine⟨[U,B,O (.own (I L)),O (.own (ZR cs us i)),pb (U6 u),x5],U8 (Qa xM) xM,?_⟩;unfold Mu;have hh:∀s:Option Sl,Ku (Ku s)=Ku s:=λs=>by rcases s with _|(_|_|_)<;>rfl
  have c1:Z6 (Kx (UP 2)) 1 (gN 6) (UY oEq (U5 1 (UP 6)) (UP 4)) (UP 6) [U,B,O (.own (I L)),O (.own (ZR cs us i)),pb (U6 u),x5]=.ok ((L.filter λk=>decide ((US 0 cs)[k]?=u)).map λk=>int ((k:Nat):Int)) [U,B,pb (.list (I L)),O (.own (ZR cs us i)),pb (U6 u),x5]:=by
   refine X2 (ZD (Z8 xM xM) xM) ?_;refine(Xf (λk=>int ((k:Nat):Int)) (λk=>decide ((US 0 cs)[k]?=u)) (λk=>int ((k:Nat):Int)) (λρ=>∃x,ρ=[U,B,pb (.list (I L)),xN,pb (U6 u),Ku x5,x]) L _ [] ?_ ⟨xN,rfl⟩ (by rw[QT];omega)).trans xM;rintro k hk ρ ⟨x,rfl⟩;have hk:=hb k hk;refine⟨_,U8 (Qa xM) xM,Ka (K2 xM (UX xM) (RF hk)) (UX xM) ?_,UX xM,pb (.int (k:Nat)),?_⟩
   .rw[Qe hk]
    exact Fv (a:=O _)
   .show [_,_,_,_,_,Ku (Ku x5),_]=_
    rw[hh];rfl
  have add:∀zs:xQ,zs.length<=42->U9 (.list zs) (.list [.none])=O (.list (zs++[.none])):=λzs h=>Yn (show zs.length+1<=_ by omega)
  have fl:((L.filter λk=>decide ((US 0 cs)[k]?=u)).map λk=>int ((k:Nat):Int)).length<=42:=by rw[Qb];exact Qt (J8 _ _) few
  refine Kk (K0 (Ka (K5 c1) (KJ (UW U0 UZ) (Qa xM)) (add _ fl)) (Qa xM) xM) ?_
  have key:∀{Q:Out->Prop}(w:xZ),oIx (.list (((L.filter λk=>decide ((US 0 cs)[k]?=u)).map λk=>int ((k:Nat):Int))++[.none])) (.int 0)=O (U6 w)->ZX (US 0 cs) us i=w->Za (US 0 cs) us (i+1)=L.filter (λk=>!decide (O ((k:Nat):Int)=w)) ->
    Ho (UV (Kz 2 (Z6 (Kx (UP 2)) 1 (gN 6) (Zu oNe 6 (U5 5 (UU (.int 0)))) (UP 6))) (KN 3 (U5 5 (UU (.int 0))))) [U,B,pb (.list (I L)),O (.own (ZR cs us i)),pb (U6 u),pb (.list (((L.filter λk=>decide ((US 0 cs)[k]?=u)).map λk=>int ((k:Nat):Int))++[.none]))] (Vn (λρ=>∃x4 x5,ρ=[U,B,O (.own (I (Za (US 0 cs) us (i+1)))),O (.own (ZR cs us (i+1))),x4,x5]) Q):=λ{Q} w hw hg hn=>by
   generalize (((L.filter λk=>decide ((US 0 cs)[k]?=u)).map λk=>int ((k:Nat):Int))++[.none])=zs at hw;have c2:Z6 (Kx (UP 2)) 1 (gN 6) (Zu oNe 6 (U5 5 (UU (.int 0)))) (UP 6) [U,B,pb (.list (I L)),O (.own (ZR cs us i)),pb (U6 u),pb (.list zs)]=.ok (I (L.filter λk=>!decide (O ((k:Nat):Int)=w))) [U,B,pb (.list (I L)),O (.own (ZR cs us i)),pb (U6 u),pb (.list zs)]:=by refine X2 (ZD (UX xM) xM) ?_;refine(Xf (λk=>int ((k:Nat):Int)) (λk=>!decide (O ((k:Nat):Int)=w)) (λk=>int ((k:Nat):Int)) (λρ=>∃x,ρ=[U,B,pb (.list (I L)),xN,pb (U6 u),pb (.list zs),x]) L _ [] ?_ ⟨xN,rfl⟩ (by rw[QT];omega)).trans xM;rintro k hk ρ ⟨x,rfl⟩;exact⟨_,U8 (Qa xM) xM,YZ xM (K2 xM U0 hw) (Fu (a:=O ((k:Nat):Int))),UX xM,pb (.int (k:Nat)),rfl⟩
   refine Kk (Zo c2 (Qa xM) xM) ?_;refine KQ (YW xM (K2 xM U0 hw) xM tl xM) (Zv ⟨O (.pub (U6 u)),pb (.list zs),?_⟩);rw[tk,hg,hn];rfl
  cases u with
  |none=>
   obtain⟨e1,e2⟩:=RO (ow:=US 0 cs) hx;have en:L.filter (λk=>decide ((US 0 cs)[k]?=xN))=[]:=List.filter_eq_nil_iff.mpr λk hk=>by rw[List.getElem?_eq_getElem (hb k hk)];simp
   refine key xN ?_ e1 ?_
   .rw[en];rfl
   .rw[e2,hL]
    exact(JP.mpr λk _=>rfl).symm
  |some t=>
   obtain⟨k,r,e1,e2,e3,e4,e5⟩:=RP g d hx;rw[hL]at e1 e4;refine key (O (k:Int)) ?_ e3 ?_
   .have e6:(L.filter λk=>decide ((US 0 cs)[k]?=O t)).map (λk=>int ((k:Nat):Int))=((k:Int)::r).map int:=by
     rw[←e1];unfold KL;rw[Jc];rfl
    rw[e6];exact ZQ (j:=0) xM
   .rw[e4]
    refine JC λj _=>?_;rw[←decide_not];refine JZ.mpr ?_;simp;omega
 case hend=>rintro ρ ⟨x4,x5,rfl⟩;rw[Qb];exact KR (K4 (Z8 rfl rfl) rfl)
theorem BZ(g:Good cs ls):∃r,WP [Kj cs ls]=O r/\∃wK,r=Kj wK ls/\Good wK ls:=by
 have c6:=g.c6;have ln:KB [.list (cs.map int)]=O (.int cs.length):=by rw[ZE,Qb]
 have w1:oIx (Kj cs ls) (.int 1)=O (.list (ls.map Ke)):=ZQ (j:=1) xM
 let W:Option Sl:=O (.pub (Kj cs ls))
 refine Sz (ρ:=[W,xN,xN]) xM ?_;unfold Td;refine Kk (ρ1:=[W,O (.own (cs.map int)),xN]) (Zo (KM (UW (K2 xM U0 w_0) UZ) (ZG xM)) (Qa xM) xM) ?_;apply KH;apply Ym (ds:=Zr 0 cs.length) (λi ρ=>∃(xs:xR)(x2:Option Sl),xs.length=cs.length/\(∀x∈xs,0<=x/\x<8)/\ρ=[W,O (.own (xs.map int)),x2])
 case h1=>exact VQ (UW (MZ xM) UZ) (by rw[Qb,Vd (by omega) (by omega)])
 case h0=>exact⟨cs,xN,rfl,g.c7,rfl⟩
 case hst=>
  rintro i d ρ hi ⟨xs,x2,hl,hx,rfl⟩;obtain⟨rfl,vQ⟩:=T7 hi;rw[Uk];have vQ:i<xs.length:=by omega
  have hm:=hx _ (Jx vQ);have tl:∀z∈xs.take i,0<=z/\z<8:=λz hz=>hx z (Ub hz)
  refine⟨_,U8 (Qa xM) xM,?_⟩;unfold Mo;have sl:Xa (.list (xs.map int)) xN (O (i:Int))=O (.list ((xs.take i).map int)):=by rw[T4,Df,List.map_take]
  refine KQ (PX (d:=.int (if(if(6-(xs.take i).sum) > 0 then(6-(xs.take i).sum)else 0)<xs[i]then(if(6-(xs.take i).sum) > 0 then(6-(xs.take i).sum)else 0)else xs[i])) (BK (ZU (UW (K2 xM (UX xM) (RF vQ)) (UW (ZU (UW U0 (UW (Ka U0 (ZU (UW (VA (UX xM) U0 (X3 (UX xM)) sl) UZ) Ox) PY) UZ)) MX) UZ)) D4) xM) xM (UX xM) xM ⟨by omega,by rw[Qb];omega⟩ xM) (Zv ?_);refine⟨xs.set i (if(if(6-(xs.take i).sum) > 0 then(6-(xs.take i).sum)else 0)<xs[i]then(if(6-(xs.take i).sum) > 0 then(6-(xs.take i).sum)else 0)else xs[i]),pb (.int i),by rw[QU];exact hl,λx hx'=>?_,?_⟩
  .rcases List.mem_or_eq_of_mem_set hx' with h|h
   .exact hx x h
   .rw[h];split<;>(try split)<;>omega
  .rw[Q1,Lj];rfl
 case hend=>rintro ρ ⟨xs,x2,hl,hx,rfl⟩;refine KR (K4 (Zs (UW (Z8 rfl rfl) (UW (K2 rfl U0 w1) UZ)) (Qa rfl)) ⟨_,rfl,xs,rfl,?_⟩);have c1:=g.c1;exact⟨by omega,by omega,hx,g.l1,g.l7,λrs h=>by rw[hl];exact g.rk rs h⟩
theorem BY(g:Good cs ls):S8 (UB (US 0 cs).length 1) (ls.map (cpA (US 0 cs))):=by have o:=Wr g;refine⟨by rw[QB];exact o,λc hc=>by rw[(JI.mp hc).2];decide,by rw[Qb];exact g.l7,λrs hrs=>?_⟩;obtain⟨q,hq,rfl⟩:=Qu.mp hrs;rw[OB,QB];exact⟨Qt (Ol (n:=0) (g.rk q hq).once) o,λt ht=>RQ ht⟩
theorem wide(g:Good cs ls):S8 cs ls:=⟨by have:=g.c6;omega,λc hc=>(g.c7 c hc).1,g.l7,λrs hrs=>by have gr:=g.rk rs hrs;have:=TW gr;have:=g.c6;refine⟨by omega,λt ht=>?_⟩;obtain⟨r,hr,ht⟩:=Ul.mp ht;exact gr.there r hr t ht⟩
end
section
variable{cs:xR}{ls:L3}{ws:LO}
theorem Dc{i:Nat}{x:Str}{s t:SM}{ρ ρ1:UQ}{d d2:D}(h1:s ρ=.ex ρ1 d)(h2:TJ x d=xO)(h3:i<ρ1.length)(h4:t (ρ1.set i (O (.pub d)))=.rt d2):XA i x s t ρ=.rt d2:=by unfold XA;rw[h1];dsimp only;rw[if_pos ⟨h2,h3⟩,h4]
theorem Oj{x:D}{r:xQ}:DL.cutD (x::r) (O 1) xN=r:=by
 unfold DL.cutD;have e1:HT.sIx (x::r).length 0 (O 1)=1:=by show HT.sIx (r.length+1) 0 (O 1)=1;unfold HT.sIx;simp
 have e2:HT.sIx (x::r).length (x::r).length xN=r.length+1:=rfl;rw[e1,e2];show List.take (r.length+1-1) r=r;rw[Nat.add_sub_cancel,Jr]
theorem NN{p:D->Bool}:∀{xs:xQ}{k:Nat},(∀x∈xs,p x=xO)->fb p k xs=xN
 |[],_,_=>rfl
 |x::r,k,h=>by rw[fb,Qq (h x Qf)];exact NN λy hy=>h y (Qh _ hy)
theorem Db(g:Good cs ls):Zg (.list (cs.map int))=xN:=by
 unfold Zg;dsimp only;rw[Qb,Qq ⟨g.c1,g.c6⟩,NN];intro x hx;obtain⟨c,hc,rfl⟩:=Qu.mp hx;have:=g.c7 c hc
 show(decide (0<=c)&&decide (c<8))=xO
 rw[QW this.1,QW this.2];rfl
theorem VW(g:Good cs ls){l:D}:ZY (.tuple [.list (cs.map int),l])=Zz cs.length l:=by rw[Sb,Db g];dsimp only;rw[Qb]
theorem SR{n:Int}{x:D}{r:xQ}(h:Yg n x=xP)(hl:r.length<7):Zz n (.list (x::r))=O (("lists" : Str),int 0):=by unfold Zz;dsimp only;rw[Qs,Qq ⟨by omega,by omega⟩,fb,Qw (by rw[h];decide)];rfl
theorem OG{x:D}{r:xQ}(h:Zm 8 x=xP)(hl:r.length<6):Zg (.list (x::r))=O (("copies" : Str),int 0):=by unfold Zg;dsimp only;rw[Qs,Qq ⟨by omega,by omega⟩,fb,Qw (by rw[h];decide)];rfl
theorem qv(g:Good cs ls){rs:List xR}(h:rs∈ls):ZL (Ke rs):=λys e xs hx=>by
 have gr:=g.rk rs h;have e:rs.map Kf=ys:=by injection e
 rw[←e]at hx;obtain⟨r,hr,e2⟩:=Qu.mp hx;have e2:r.map int=xs:=by injection e2
 rw[←e2,Qb];have h1:=TW gr;have h2:r.length<=rs.flatten.length:=(Jh hr).length_le;have:=g.c6;omega
theorem SQ{c x:D}{r:xQ}(hx:ZL x)(hr:∀y∈r,ZL y):YO (.tuple [c,.list (x::r)]):=λc' v8 e _ y hy=>by
 injection e with e;injection e with _ e;injection e with e;injection e with e;rw[←e]at hy;rcases QC.mp hy with rfl|hy
 .exact hx
 .exact hr y hy
theorem TV{c:D}{r:xQ}(hr:∀y∈r,ZL y):YO (.tuple [c,.list r]):=λc' v8 e _ y hy=>by injection e with e;injection e with _ e;injection e with e;injection e with e;rw[←e]at hy;exact hr y hy
theorem RS{rs:xQ}(h:∀xs,.list xs∈rs->xs.length<=700):ZL (.list rs):=λys e xs hx=>by injection e with e;rw[←e]at hx;exact h xs hx
noncomputable def XI(cs:xR)(ls:L3):xQ:=
 let C:D:=.list (cs.map int)
 let L:D:=.list (ls.map Ke)
 let C1:=(cs.map int).tail
 let L1:=(ls.map Ke).tail
 [.none,.tuple [C],.list [C,L],.tuple [C,L,.int 0],.tuple [.list [],L],.tuple [C,.list []],.tuple [.tuple (cs.map int),L],.tuple [.list (.bool true::C1),L],.tuple [.list (.int (-1)::C1),L],.tuple [.list (.int 8::C1),L],
  .tuple [C,.list (.none::ls.map Ke)],.tuple [C,.list (.list [.list []]::L1)],.tuple [C,.list (.list [.list [.int 0,.int 0]]::L1)],.tuple [C,.list (.list [.list [.int cs.length]]::L1)],.tuple [C,.list (.list [.int 0]::L1)],.tuple [C,.tuple (ls.map Ke)]]
noncomputable def plcs:List (Str×D):=[("wishes", .none),("wishes", .none),("wishes", .none),("wishes", .none),("copies", .none),("lists", .none),("copies", .none),("copies", .int 0),("copies", .int 0),("copies", .int 0),("lists", .int 0),("lists", .int 0),("lists", .int 0),("lists", .int 0),("lists", .int 0),("lists", .none)]
noncomputable def K1(m k:Nat):Str×D:=if k=10/\m=7 then("lists", .none)else plcs.getD k ("", .none)
theorem Da(g:Good cs ls){k:Nat}{d:D}(h:(XI cs ls)[k]?=O d):k<16/\YO d/\ZY d=O (K1 ls.length k):=by
 have l7:=g.l7;have l1:=g.l1;have c6:=g.c6;have c1:=g.c1;have hk:k<16:=(Ql.mp h).1;refine⟨hk,?_⟩;have hC1:((cs.map int).tail).length<6:=by rw[List.length_tail,Qb];omega
 have hL1:((ls.map Ke).tail).length<7:=by rw[List.length_tail,Qb];omega
 have hL:∀y∈ls.map Ke,ZL y:=λy hy=>by obtain⟨rs,hrs,rfl⟩:=Qu.mp hy;exact qv g hrs
 have hT:∀y∈(ls.map Ke).tail,ZL y:=λy hy=>hL y (List.mem_of_mem_tail hy);have no:∀{x:D},(∀c l,x≠.tuple [c,.list l])->YO x:=λh c l e=>absurd e (h c l);have n0:ZL .none:=λ_ e=>by cases e
 have pl:∀{j:Nat},j≠10->K1 ls.length j=plcs.getD j ("", .none):=λh=>Qw λe=>h e.1
 have hks:k=0∨k=1∨k=2∨k=3∨k=4∨k=5∨k=6∨k=7∨k=8∨k=9∨k=10∨k=11∨k=12∨k=13∨k=14∨k=15:=by omega
 rcases hks with rfl|rfl|rfl|rfl|rfl|rfl|rfl|rfl|rfl|rfl|rfl|rfl|rfl|rfl|rfl|rfl<;>cases h
 .exact⟨no λ_ _ e=>(by cases e),rfl⟩
 .exact⟨no λ_ _ e=>(by injection e with e;injection e with _ e;cases e),rfl⟩
 .exact⟨no λ_ _ e=>(by cases e),rfl⟩
 .exact⟨no λ_ _ e=>(by injection e with e;injection e with _ e;injection e with _ e;cases e),rfl⟩
 .exact⟨TV hL,rfl⟩
 .exact⟨TV λ_ h=>(by cases h),VW g⟩
 .exact⟨TV hL,rfl⟩
 .exact⟨TV hL,by rw[Sb,OG xM hC1];rfl⟩
 .exact⟨TV hL,by rw[Sb,OG xM hC1];rfl⟩
 .exact⟨TV hL,by rw[Sb,OG xM hC1];rfl⟩
 .refine⟨SQ n0 hL,?_⟩
  rw[VW g];by_cases h7:ls.length=7
  .unfold K1
   rw[Qq ⟨rfl,h7⟩];unfold Zz;dsimp only;rw[Qw (by rw[Qs,Qb];omega)]
  .unfold K1
   rw[Qw λe=>h7 e.2];exact SR xM (by rw[Qb];omega)
 .exact⟨SQ (RS λxs hx=>(by have e:=QE.mp hx;injection e with e;rw[e];decide)) hT,(VW g).trans (SR xM hL1)⟩
 .refine⟨SQ (RS λxs hx=>(by have e:=QE.mp hx;injection e with e;rw[e];decide)) hT,(VW g).trans (SR ?_ hL1)⟩
  rw[Sc];have:decide (flI [.list [.int 0,.int 0]]).Nodup=xP:=by decide
  rw[this,Uc,Uc]
 .refine⟨SQ (RS λxs hx=>(by have e:=QE.mp hx;injection e with e;rw[e];exact Qa xM)) hT,(VW g).trans (SR ?_ hL1)⟩
  rw[Sc]
  have:([UC [.int cs.length]].all (rkB cs.length))=xP:=by
   show((((decide ((0:Int)<=cs.length)&&decide ((cs.length:Int)<cs.length))&&xO))&&xO)=xP
   rw[QN (Int.lt_irrefl _),Uc];rfl
  rw[this,Uh,Uc]
 .exact⟨SQ (RS λxs hx=>(by cases QE.mp hx)) hT,(VW g).trans (SR xM hL1)⟩
 .exact⟨no λ_ _ e=>(by injection e with e;injection e with _ e;injection e with e;cases e),VW g⟩
theorem kJ(g:Good cs ls){k:Nat}(hk:k<16):∃d,(XI cs ls)[k]?=O d/\WR [Kj cs ls,.int k]=O d:=by
 have l7:=g.l7;have l1:=g.l1;have c6:=g.c6;have c1:=g.c1;have wu:k<(XI cs ls).length:=hk;refine⟨(XI cs ls)[k],Qe wu,?_⟩
 obtain⟨c0,wx,rfl⟩:∃c r,cs=c::r:=by
  cases cs with
  |nil=>exact absurd c1 (by decide)
  |cons c r=>exact⟨c,r,rfl⟩
 obtain⟨r0,v8,rfl⟩:∃c r,ls=c::r:=by
  cases ls with
  |nil=>exact absurd l1 (by decide)
  |cons c r=>exact⟨c,r,rfl⟩
 let S0:Option Sl:=O (.pub (Kj (c0::wx) (r0::v8)))
 let S1:Option Sl:=O (.pub (.int k))
 let C:D:=.list ((c0::wx).map int)
 let L:D:=.list ((r0::v8).map Ke)
 let S2:Option Sl:=O (.pub C)
 let S3:Option Sl:=O (.pub L)
 refine ZT (ρ:=[S0,S1,xN,xN,xN]) xM ?_;unfold Tg;refine Kk (ρ1:=[S0,S1,S2,S3,xN]) (Rt (UX xM) (Zw xM (KF (U8 (Qa xM) xM) (KF (U8 (Qa xM) xM) Zx)))) ?_
 let B:=XI (c0::wx) (r0::v8)
 have eC:∀{x:Option Sl},K3 (UP 2) (U2 (UU (.int 1)) λx=>U1 (Z7 x)) (UU xN) [S0,S1,S2,S3,x]=.ok (.list (wx.map int)) [S0,S1,S2,S3,x]:=VA (UX xM) (X3 U0) U0 (T4.trans (JX (λl=>O (UC l)) Oj));have eL:∀{x:Option Sl},K3 (UP 3) (U2 (UU (.int 1)) λx=>U1 (Z7 x)) (UU xN) [S0,S1,S2,S3,x]=.ok (.list (v8.map Ke)) [S0,S1,S2,S3,x]:=VA (UX xM) (X3 U0) U0 (T4.trans (JX (λl=>O (UC l)) Oj));have hc':wx.length<=5:=by rw[Qs]at c6;omega
 have hl':v8.length<=6:=by rw[Qs]at l7;omega
 have aC:∀{x:D},U9 (.list [x]) (.list (wx.map int))=O (.list (x::wx.map int)):=Yn (by rw[Qb];show 1+_<=_;omega);have aL:∀{x:D},U9 (.list [x]) (.list (v8.map Ke))=O (.list (x::v8.map Ke)):=Yn (by rw[Qb];show 1+_<=_;omega);have aL0:U9 (.list [.none]) L=O (.list (.none::(r0::v8).map Ke)):=Yn (by rw[Qb];show 1+_<=_;omega);refine Kk (ρ1:=[S0,S1,S2,S3,O (.own (B.take 6))]) (Zo (Xp (UW U0 (UW (Zs (UW (UX xM) UZ) (Qa xM)) (UW (KJ (UW (UX xM) (UW (UX xM) UZ)) (Qa xM)) (UW (Zs (UW (UX xM) (UW (UX xM) (UW U0 UZ))) (Qa xM)) (UW (Zs (UW (KJ UZ (Qa xM)) (UW (UX xM) UZ)) (Qa xM)) (UW (Zs (UW (UX xM) (UW (KJ UZ (Qa xM)) UZ)) (Qa xM)) UZ)))))) (Qa xM)) (Qa xM) xM) ?_;refine Kk (ρ1:=[S0,S1,S2,S3,pb (.list (B.take 9))]) (K0 (Ka (Z8 xM xM) (KJ (UW (Zs (UW (ZU (UW (UX xM) UZ) xM) (UW (UX xM) UZ)) (Qa xM)) (UW (Zs (UW (Ka (KJ (UW U0 UZ) (Qa xM)) eC aC) (UW (UX xM) UZ)) (Qa xM)) (UW (Zs (UW (Ka (KJ (UW (Ru U0) UZ) (Qa xM)) eC aC) (UW (UX xM) UZ)) (Qa xM)) UZ))) (Qa xM)) (Yn (Qa xM))) (Qa xM) xM) ?_;refine Kk (ρ1:=[S0,S1,S2,S3,pb (.list (B.take 12))]) (K0 (Ka (UX xM) (KJ (UW (Zs (UW (Ka (KJ (UW U0 UZ) (Qa xM)) eC aC) (UW (UX xM) UZ)) (Qa xM)) (UW (Zs (UW (UX xM) (UW (Ka (KJ (UW U0 UZ) (Qa xM)) (UX xM) aL0) UZ)) (Qa xM)) (UW (Zs (UW (UX xM) (UW (Ka (KJ (UW (KJ (UW (KJ UZ (Qa xM)) UZ) (Qa xM)) UZ) (Qa xM)) eL aL) UZ)) (Qa xM)) UZ))) (Qa xM)) (Yn (Qa xM))) (Qa xM) xM) ?_;have hlc:KB [C]=O (.int (c0::wx).length):=by unfold C;rw[ZE,Qb]
 refine Kk (ρ1:=[S0,S1,S2,S3,pb (.list (B.take 14))]) (K0 (Ka (UX xM) (KJ (UW (Zs (UW (UX xM) (UW (Ka (KJ (UW (KJ (UW (KJ (UW U0 (UW U0 UZ)) (Qa xM)) UZ) (Qa xM)) UZ) (Qa xM)) eL aL) UZ)) (Qa xM)) (UW (Zs (UW (UX xM) (UW (Ka (KJ (UW (KJ (UW (KJ (UW (Zp xM hlc) UZ) (Qa xM)) UZ) (Qa xM)) UZ) (Qa xM)) eL aL) UZ)) (Qa xM)) UZ)) (Qa xM)) (Yn (Qa xM))) (Qa xM) xM) ?_;refine Kk (ρ1:=[S0,S1,S2,S3,pb (.list B)]) (K0 (Ka (UX xM) (KJ (UW (Zs (UW (UX xM) (UW (Ka (KJ (UW (KJ (UW U0 UZ) (Qa xM)) UZ) (Qa xM)) eL aL) UZ)) (Qa xM)) (UW (Zs (UW (UX xM) (UW (ZU (UW (UX xM) UZ) xM) UZ)) (Qa xM)) UZ)) (Qa xM)) (Yn (Qa xM))) (Qa xM) xM) ?_;exact K4 (K2 xM (UX xM) (show oIx (.list B) (.int ((k:Nat):Int))=O _ from ZQ (Qe wu))) xM
theorem Fn(x y:D):Xh [exD "NoWishes" [x,y]]=O (.str "wishes"):=by kernel_rfl
theorem Fl:Xh [exD "NoJoin" []]=O (.str "join"):=by kernel_rfl
theorem BX{m k:Nat}(hk:k<16):XN [exD "NoWishes" [.str (K1 m k).1,(K1 m k).2]]=O (.tuple [.str (K1 m k).1,(K1 m k).2])/\oNe (.tuple [.str (K1 m k).1,(K1 m k).2]) (.tuple [.str (K1 m k).1,(K1 m k).2])=O xP:=by
 have key:∀q∈(("lists" : Str),PyData.none)::plcs,XN [exD "NoWishes" [.str q.1,q.2]]=O (.tuple [.str q.1,q.2])/\oNe (.tuple [.str q.1,q.2]) (.tuple [.str q.1,q.2])=O xP:=by intro q hq;unfold plcs at hq;simp only[QC,List.not_mem_nil,or_false]at hq;rcases hq with rfl|rfl|rfl|rfl|rfl|rfl|rfl|rfl|rfl|rfl|rfl|rfl|rfl|rfl|rfl|rfl|rfl<;>exact⟨by kernel_rfl,by kernel_rfl⟩
 refine key _ ?_;unfold K1;split
 .exact Qf
 .have hl:k<plcs.length:=hk
  rw[Jj,Qe hl];exact Qh _ (Jx hl)
noncomputable def plD(q:Str×D):D:=.tuple [.str q.1,q.2]
theorem qu(g:Good cs ls){k:Nat}(hk:k<16):WQ [Kj cs ls,.int k]=O (plD (K1 ls.length k)):=by
 let S0:Option Sl:=O (.pub (Kj cs ls))
 let S1:Option Sl:=O (.pub (.int k))
 refine ZT (ρ:=[S0,S1,xN]) xM ?_;unfold Tf;have mul:∀{x:D}{n:Nat},n<=1000->Ko (.list [x]) (.int n)=O (.list (UB n x)):=λh=>PJ h;refine Kk (ρ1:=[S0,S1,pb (.list ((plcs.take 7).map plD))]) (K0 (Ka (Ka (KJ (UW (Zs (UW U0 (UW U0 UZ)) (Qa xM)) UZ) (Qa xM)) U0 (mul (n:=4) (by decide))) (KJ (UW (Zs (UW U0 (UW U0 UZ)) (Qa xM)) (UW (Zs (UW U0 (UW U0 UZ)) (Qa xM)) (UW (Zs (UW U0 (UW U0 UZ)) (Qa xM)) UZ))) (Qa xM)) (Yn (Qa xM))) (Qa xM) xM) ?_
 refine Kk (ρ1:=[S0,S1,pb (.list (plcs.map plD))]) (K0 (Ka (Ka (Ka (UX xM) (Ka (KJ (UW (Zs (UW U0 (UW U0 UZ)) (Qa xM)) UZ) (Qa xM)) U0 (mul (n:=3) (by decide))) (Yn (Qa xM))) (Ka (KJ (UW (Zs (UW U0 (UW U0 UZ)) (Qa xM)) UZ) (Qa xM)) U0 (mul (n:=5) (by decide))) (Yn (Qa xM))) (KJ (UW (Zs (UW U0 (UW U0 UZ)) (Qa xM)) UZ) (Qa xM)) (Yn (Qa xM))) (Qa xM) xM) ?_;have yc:KB [.list (ls.map Ke)]=O (.int ls.length):=by rw[ZE,Qb]
 apply KH;refine Kt (b:=decide (((k:Nat):Int)=10)&&decide (((ls.length:Nat):Int)=7)) (ρ1:=[S0,S1,pb (.list (plcs.map plD))]) (N7 (YZ xM U0 Y0) λ_=>Ka (ZU (UW (K2 xM U0 GU) UZ) yc) U0 Y0) (λz=>K4 (Zs (UW U0 (UW U0 UZ)) (Qa xM)) (Wc ?_)) λz=>KT (KR ?_)
 .rw[Qz,Q6,Q6]at z
  unfold K1;rw[Qq ⟨by omega,by omega⟩];rfl
 .have hl:k<plcs.length:=hk
  have e:K1 ls.length k=plcs[k]:=by
   unfold K1;rw[Qw,Jj,Qe hl]
   .rfl
   .rintro⟨h1,h2⟩
    rw[h1,h2]at z;cases z
  rw[e];exact K4 (K2 xM (UX xM) (ZQ (by rw[Qp,Qe hl];rfl))) xM
end
section
variable{cs:xR}{ls:L3}{us ws:LO}
theorem E9{f:M D}{ρ ρ1:UQ}{d:D}(h:f ρ=.ok d ρ1):Kc f ρ=.rt d:=by unfold Kc sB;rw[h]
theorem Lu{j:Nat}(hj:j<3){d e:D}(d2:D)(h:Y5 [d]=O (.exc e))(hu:TJ "DealError" e=xO)(he:Xs e=xO):XM [.int (j:Nat),d,d2]=O e:=by
 let ρ0:UQ:=[pb (.int (j:Nat)),pb d,pb d2,xN]
 refine ZT (ρ:=ρ0) xM ?_;unfold Te
 have key:(sIf (Zu oEq 0 (UU (.int 0))) (sX (Z5 1 T6 (UT (UP 1) (UR))) λ_ ρ=>.nx ρ) (sIf (Zu oEq 0 (UU (.int 1))) (sX (Z5 2 Se (UT (UP 1) (UT (UP 2) (UR)))) λ_ ρ=>.nx ρ) (sX (Z5 2 Sd (UT (UP 1) (UT (UP 2) (UR)))) λ_ ρ=>.nx ρ))) ρ0=.ex ρ0 e:=by
  have hj:j=0∨j=1∨j=2:=by omega
  have key:Ho (sIf (Zu oEq 0 (UU (.int 0))) (sX (Z5 1 T6 (UT (UP 1) (UR))) λ_ ρ=>.nx ρ) (sIf (Zu oEq 0 (UU (.int 1))) (sX (Z5 2 Se (UT (UP 1) (UT (UP 2) (UR)))) λ_ ρ=>.nx ρ) (sX (Z5 2 Sd (UT (UP 1) (UT (UP 2) (UR)))) λ_ ρ=>.nx ρ))) ρ0 (λo=>o=.ex ρ0 e):=by
   rcases hj with rfl|rfl|rfl
   .exact Kt (b:=xO) (ρ1:=ρ0) (YZ xM U0 Y0) (λ_=>KQ (Wf (Xo (UW (UX xM) UZ) xM (B4 he h))) xM) λz=>by cases z
   .refine Kt (b:=xP) (ρ1:=ρ0) (YZ xM U0 Y0) (λz=>by cases z) λ_=>?_
    exact Kt (b:=xO) (ρ1:=ρ0) (YZ xM U0 Y0) (λ_=>KQ (Wf (Xo (UW (UX xM) (UW (UX xM) UZ)) xM (qA he h))) xM) λz=>by cases z
   .refine Kt (b:=xP) (ρ1:=ρ0) (YZ xM U0 Y0) (λz=>by cases z) λ_=>?_
    exact Kt (b:=xP) (ρ1:=ρ0) (YZ xM U0 Y0) (λz=>by cases z) λ_=>KQ (Wf (Xo (UW (UX xM) (UW (UX xM) UZ)) xM (De he h))) xM
  exact key.out
 apply KH;exact KQ (Dc key hu (Qa xM) (E9 (UX xM))) (Wc xM)
theorem Fk:oNe (.list [KE us,KE ws]) (.list [KE us,KE ws])=O xP:=by
 have lay:(UC [KE us,KE ws]).canLay0=xO:=Wa λx hx=>by
  have hx:x=KE us∨x=KE ws:=by simpa using hx
  rcases hx with rfl|rfl
  .exact RX us
  .exact RX ws
 have dep:(UC [KE us,KE ws]).depth<=3:=VH (X9 λx hx=>by
  have hx:x=KE us∨x=KE ws:=by simpa using hx
  rcases hx with rfl|rfl
  .exact RW us
  .exact RW ws)
 unfold oNe;rw[Qq ⟨lay,lay,by omega⟩,TY _ lay];rfl
theorem E8(ws:LO):oEq (KE ws) (KE ws)=O xO:=by unfold oEq;have h:(KE ws).canLay0=xO:=RX ws;rw[Qq ⟨h,h,by have:=RW ws;omega⟩,TY _ h]
theorem BW(g:Good cs ls)(f:KG cs=xO)(d:Deal cs ls us)(h:∀w∈ws,∀k,w=O k->0<=k/\k<(US 0 cs).length)(hl:ws.length<=1000):WL [Kj cs ls,.list ((US 0 cs).map int),KE us,KE ws]=O (.bool xO):=by
 have l7:=g.l7;have ul:=d.len;have o:=Wr g
 let W:Option Sl:=O (.pub (Kj cs ls))
 let B:Option Sl:=O (.pub (.list ((US 0 cs).map int)))
 let U:Option Sl:=O (.pub (KE us))
 let V:Option Sl:=O (.pub (KE ws))
 let ss:=ZH (US 0 cs) us
 let S:Option Sl:=O (.pub (KE ss))
 have hss:=jU g d;have sl:ss.length=us.length:=by unfold ss ZH;rw[Qb,Q5]
 have sb:ss.map (Yj (US 0 cs))=us:=qy g d;have wS:=NQ g f hss (by rw[sl];omega);rw[sb]at wS;have oS:=NP g f hss (by rw[sl];omega);have wW:=NQ g f h hl;have oW:=NP g f h hl;have sF:=B3 g d f;refine ZT (ρ:=[W,B,U,V,xN,xN,xN,xN,xN,xN,xN]) xM ?_;unfold V8;refine Kk (ρ1:=[W,B,U,V,S,xN,xN,xN,xN,xN,xN]) (K0 (Ky (UW (UX xM) (UW (UX xM) UZ)) xM (qw g d)) (Qa xM) xM) ?_;refine Kk (ρ1:=[W,B,U,V,S,O (.own (ss.map U6)),xN,xN,xN,xN,xN]) (Zo (Oi (UW (UX xM) (UW (UX xM) UZ)) xM (B2 g d f)) (Qa xM) xM) ?_;apply KH;refine Kt (b:=xP) (Oh (Xk (YZ xM (UX xM) (P7 ss)) (Ka (Ky (UW (UX xM) (UW (UX xM) UZ)) xM wS) (UX xM) (P7 us)))) (λz=>by cases z) λ_=>KT (KR ?_)
 refine Kk (ρ1:=[W,B,U,V,S,O (.own []),xN,xN,xN,xN,xN]) (Cr xM xM xM) ?_;apply KH;refine Kt (b:=xP) (Ka (Ky (UW (UX xM) (UW (UX xM) UZ)) xM sF) (UX xM) (P7 ss)) (λz=>by cases z) λ_=>KT (KR ?_)
 refine Kk (Zo (Oi (UW (UX xM) (UW (UX xM) UZ)) xM oS) (Qa xM) xM) ?_;refine Kk (YW xM U0 xM (by rw[Qb,Qb,sl];omega) xM) ?_;refine Kk (Zo (Xp (UW (K5 (Oy xM xM)) (UW (K5 (Oy xM xM)) UZ)) (Qa xM)) (Qa xM) xM) ?_;refine Kk (Zo (Oi (UW (UX xM) (UW (UX xM) UZ)) xM oW) (Qa xM) xM) ?_;refine Kk (YW xM U0 xM (by rw[Qb,Qb];omega) xM) ?_;apply KH;refine Kt (b:=xP) (LQ (KJ (UW (UX xM) (UW (UX xM) UZ)) (Qa xM)) xM Fk) (λz=>by cases z) λ_=>KT (KR ?_)
 refine Kk (Zo (Oy xM xM) (Qa xM) xM) ?_
 let X5:Option Sl:=O (.own [])
 let X6:Option Sl:=O (.own ((ws.map (Yj (US 0 cs))).map U6++[.none]))
 let X7:Option Sl:=O (.own [.list (us.map U6),.list (ws.map U6)])
 apply KH;apply Ym (ds:=ZB 0 (ws.map U6)) (λi ρ=>∃x y,ρ=[W,B,U,V,S,X5,X6,X7,O (.own (((ws.take i).map (Yj (US 0 cs))++ws.drop i).map U6)),x,y])
 case h1=>exact Vb (UW (UX xM) UZ) Vh
 case h0=>exact⟨xN,xN,by rw[Ua,JA,Jk,Uj];rfl⟩
 case hst=>
  rintro i y ρ hi ⟨x9,v7,rfl⟩;obtain⟨z,hz,rfl⟩:=TX hi;rw[Qp]at hz;cases hx:ws[i]? with
  |none=>rw[hx]at hz;cases hz
  |some w=>
  rw[hx]at hz;cases hz;have vQ:=(Ql.mp hx).1;have hw:=h w (QM hx);have dr:ws.drop i=w::ws.drop (i+1):=by rw[JE vQ,(Ql.mp hx).2]
  have nxt:((ws.take i).map (Yj (US 0 cs))++ws.drop i).set i (Yj (US 0 cs) w)=(ws.take (i+1)).map (Yj (US 0 cs))++ws.drop (i+1):=by rw[dr,Xm hx,QI,List.set_append_right _ _ (by rw[Qb,Q7];omega),Qb,Q7,Nat.min_eq_left (by omega),Nat.sub_self,List.set_cons_zero,Ja];rfl
  refine⟨[W,B,U,V,S,X5,X6,X7,O (.own (((ws.take i).map (Yj (US 0 cs))++ws.drop i).map U6)),pb (.int ((0+i:Nat):Int)),pb (U6 w)],Zw xM (KF (U8 (Qa xM) xM) (KF (U8 (Qa xM) xM) Zx)),?_⟩;unfold Mt;cases w with
  |none=>
   refine Kt (b:=xP) (K5 (x:=.none) (UX xM)) (λz=>by cases z) λ_=>KT (Zv ⟨O (.pub (.int ((0+i:Nat):Int))),pb (U6 xN),?_⟩)
   rw[←nxt,dr];have e:((ws.take i).map (Yj (US 0 cs))++none::ws.drop (i+1)).set i (Yj (US 0 cs) xN)=(ws.take i).map (Yj (US 0 cs))++none::ws.drop (i+1):=by rw[List.set_append_right _ _ (by rw[Qb,Q7];omega),Qb,Q7,Nat.min_eq_left (by omega),Nat.sub_self,List.set_cons_zero];rfl
   rw[e]
  |some k=>
   obtain⟨k0,k1⟩:=hw k xM;obtain⟨n,rfl⟩:∃n:Nat,k=n:=⟨k.toNat,by omega⟩
   have hn:n<(US 0 cs).length:=by omega
   refine Kt (b:=xO) (K5 (x:=.int (n:Nat)) (UX xM)) (λ_=>?_) λz=>by cases z
   refine KQ (PX (K2 xM (UX xM) (RF hn)) xM (UX xM) xM ⟨by omega,by rw[Qb,Qk,Qb,Q7,Ud];omega⟩ xM) (Zv ⟨O (.pub (.int ((0+i:Nat):Int))),pb (U6 (O (n:Int))),?_⟩);rw[←nxt,List.map_set]
   have e:Yj (US 0 cs) (O (n:Int))=O (US 0 cs)[n]:=by
    show(US 0 cs)[(n:Int).toNat]?=_
    rw[Q1,Qe hn]
   rw[e,Q1,JR];rfl
 case hend=>
  rintro ρ ⟨x9,v7,rfl⟩
  have hl:(ZB 0 (ws.map U6)).length=ws.length:=by
   have:∀(l:xQ)(k:Nat),(ZB k l).length=l.length:=λl=>by
    induction l with
    |nil=>intro k;rfl
    |cons a l ih=>intro k;rw[ZB,Qs,Qs,ih]
   rw[this,Qb]
  rw[hl,Jr,List.drop_length,QH];exact KR (K4 (K5 (k:=UD) (LQ (Ky (UW (UX xM) (UW (UX xM) UZ)) xM wW) xM (E8 _))) xM)
theorem BV(g:Good cs ls)(f:KG cs=xO):Good (UB (US 0 cs).length 1) (ls.map (cpA (US 0 cs))):=by
 unfold KG at f;rw[Qz]at f;have f1:=Qa f.1;have f2:=Qa f.2;refine⟨by rw[QB];exact f1,by rw[QB];exact f2,λc hc=>by rw[(JI.mp hc).2];decide,by rw[Qb];exact g.l1,by rw[Qb];exact g.l7,λrs hrs=>?_⟩;obtain⟨q,hq,rfl⟩:=Qu.mp hrs;have gq:=g.rk q hq;have few:=gq.few;rw[QB];refine⟨?_,λr hr=>Qa (JU.mp hr).2,λr hr t ht=>?_,by rw[OB];exact Ot gq.once⟩
 .unfold cpA
  refine Qt (J8 _ _) ?_;rw[Qb];exact few
 .obtain⟨r0,_,rfl⟩:=Qu.mp (JU.mp hr).1
  exact RQ ht
theorem GP{C:D}{q rest:xQ}(h:q.length<1000000):Z2 (.lst .leaf) (.list [.int 0]) [1,0] (.tup [.lst .leaf,.lst (.lst (.lst .leaf))]) (.tuple [C,.list (.list q::rest)])=O (.tuple [C,.list (.list (q++[.list [.int 0]])::rest)]):=by
 have e:Z2 (.lst .leaf) (.list [.int 0]) [] (.lst (.lst .leaf)) (.list q)=O (.list (q++[.list [.int 0]])):=Qq ⟨rfl,h⟩
 have e1:Z2 (.lst .leaf) (.list [.int 0]) [0] (.lst (.lst (.lst .leaf))) (.list (.list q::rest))=O (.list (.list (q++[.list [.int 0]])::rest)):=by
  show((O (UC q)).bind λd=>(Z2 (.lst .leaf) (.list [.int 0]) [] (.lst (.lst .leaf)) d).map λd'=>UC ((UC q::rest).set 0 d'))=_
  rw[J4,e];rfl
 show((O (Pat.lst (.lst (.lst .leaf)))).bind λp=>(O (UC (.list q::rest))).bind λd=>(Z2 (.lst .leaf) (.list [.int 0]) [0] p d).map λd'=>PyData.tuple ([C,.list (.list q::rest)].set 1 d'))=_
 rw[J4,J4,e1];rfl
theorem app0{q:xQ}{p:Pat}{y:D}(h:q.length<1000000):Z3 (.app (.int 0)) [0] (.tup [.lst .leaf,p]) (.tuple [.list q,y])=O (.tuple [.list (q++[.int 0]),y]):=by
 have e:Z3 (.app (.int 0)) [] (.lst .leaf) (.list q)=O (.list (q++[.int 0])):=by
  show(if q.length<1000000 then O (q++[int 0])else xN).map UC=_
  rw[Qq h];rfl
 show((O (Pat.lst .leaf)).bind λp'=>(O (UC q)).bind λd=>(Z3 (.app (.int 0)) [] p' d).map λd'=>PyData.tuple ([.list q,y].set 0 d'))=_
 rw[J4,J4,e];rfl
theorem E7(qs:L3):oNe (.list (qs.map Ke)) (.list (qs.map Ke))=O xP:=by
 have lay:(UC (qs.map Ke)).canLay0=xO:=Wa λx hx=>by obtain⟨y,_,rfl⟩:=Qu.mp hx;exact He y
 have dep:(UC (qs.map Ke)).depth<=60:=Qt (VH (n:=3) (X9 λx hx=>by obtain⟨y,_,rfl⟩:=Qu.mp hx;exact Hd y)) (by decide);unfold oNe;rw[Qq ⟨lay,lay,dep⟩,TY _ lay];rfl
theorem qt{n:Nat}{C:xQ}{r0:List xR}{qs:L3}(hC:C.length<=8)(h0:X8 n r0)(hq:∀q∈qs,X8 n q)(hn:n<=6)(hl:qs.length<=6):Kw 9 8 (.tup [.lst .leaf,.lst (.lst (.lst .leaf))]) (.tuple [.list C,.list (.list (r0.map Kf++[.list [.int 0]])::qs.map Ke)])=xO:=by
 have lr:∀(m:Nat)(r:xR),r.length<=6->Kw (m+2) 8 (.lst .leaf) (Kf r)=xO:=λm r h=>by unfold Kf;simp only[Kw,Qz,Q6,Q3,Qb];exact⟨by omega,λ_ _=>trivial⟩
 have lc:Kw 8 8 (.lst .leaf) (.list C)=xO:=by simp only[Kw,Qz,Q6,Q3];exact⟨hC,λ_ _=>trivial⟩
 have l1:Kw 7 8 (.lst (.lst .leaf)) (.list (r0.map Kf++[.list [.int 0]]))=xO:=by
  simp only[Kw,Qz,Q6,Q3,Qk,Qb,Q4];have:=h0.few;refine⟨by omega,λx hx=>?_⟩;rcases QO.mp hx with hx|hx
  .obtain⟨r,hr,rfl⟩:=Qu.mp hx
   exact lr 4 r (Qt (LB h0 hr) hn)
  .rw[QE]at hx
   subst hx;rfl
 have l2:∀q∈qs,Kw 7 8 (.lst (.lst .leaf)) (Ke q)=xO:=λq we=>by have g:=hq q we;unfold Ke;simp only[Kw,Qz,Q6,Q3,Qb];have:=g.few;refine⟨by omega,λx hx=>?_⟩;obtain⟨r,hr,rfl⟩:=Qu.mp hx;exact lr 4 r (Qt (LB g hr) hn)
 have l4:Kw 8 8 (.lst (.lst (.lst .leaf))) (.list (.list (r0.map Kf++[.list [.int 0]])::qs.map Ke))=xO:=by rw[Kw,JK,l1,QW (by rw[Qs,Qb];omega),Um,Um,Q3];intro x hx;obtain⟨q,we,rfl⟩:=Qu.mp hx;exact l2 q we
 show(Kw 8 8 (.lst .leaf) (.list C)&&(Kw 8 8 (.lst (.lst (.lst .leaf))) (.list (.list (r0.map Kf++[.list [.int 0]])::qs.map Ke))&&xO))=xO
 rw[l4,lc];rfl
theorem BU:∀ns:xR,ns.length<=63->WK [.list (ns.map int)]=O (.bool xO):=by
 intro ns hns;refine ZT (ρ:=[pb (.list (ns.map int)),xN,xN,xN,xN,xN,xN,xN,xN,xN,xN,xN,xN,xN,xN,xN]) xM ?_;unfold V7;obtain⟨r,hr,cs,ls,rfl,g,_⟩:=kZ 6 7 5 (ns:=ns) (by omega) 0
 let S:Option Sl:=O (.pub (.list (ns.map int)))
 refine Kk (ρ1:=[S,pb (Kj cs ls),xN,xN,xN,xN,xN,xN,xN,xN,xN,xN,xN,xN,xN,xN]) (K0 (Ky (UW (UX xM) (UW U0 (UW U0 (UW U0 (UW U0 UZ))))) xM hr) (Qa xM) xM) ?_;apply KH;refine VN (P:=λo=>∃wK,Good wK ls/\o=.nx [S,pb (Kj wK ls),xN,xN,xN,xN,xN,xN,xN,xN,xN,xN,xN,xN,xN,xN]) ?_ ?_
 .obtain⟨v,hv⟩:=Pk ns 8 (by omega)
  obtain⟨r,hn,ds,rfl,hdl,hdb⟩:=SW v 8 (sizes:=[2]) (by decide) (by decide)
  match ds,hdl with
  |[k0],_=>
  refine Kt (b:=decide (k0=1)) (ρ1:=[S,pb (Kj cs ls),xN,xN,xN,xN,xN,xN,xN,xN,xN,xN,xN,xN,xN,xN]) (Ka (Ka (Ky (UW (Ky (UW (UX xM) (UW U0 UZ)) xM hv) (UW U0 (UW (KJ (UW U0 UZ) (Qa xM)) UZ))) xM hn) U0 (show oIx (.list ([k0].map int)) (.int 0)=O (.int k0)from rfl)) U0 Y0) (λ_=>?_) λ_=>KT ⟨cs,g,rfl⟩
  obtain⟨r,hc,wK,rfl,g2⟩:=BZ g;exact KQ (K0 (Ky (UW (UX xM) UZ) xM hc) (Qa xM) xM) ⟨wK,g2,rfl⟩
 rintro _ ⟨cs,g,rfl⟩;refine KR ?_;have c6:=g.c6;have l7:=g.l7;have o:=Wr g
 let A:Option Sl:=O (.pub (Kj cs ls))
 have hrp:Vv [Kj cs ls]=O (.str (Kj cs ls).shown):=by obtain⟨h1,h2,h3,h4,h5,h6⟩:=Ht g;refine AS ⟨h1,h3,PyData.hasDict_of_canLay _ h1,by omega,?_⟩;have:=PyData.shown_le_bulk 8 (by decide) _ h2;omega
 have hok:UF (Kj cs ls).shown=xO:=(Ht g).2.2.2.2.2;generalize (Kj cs ls).shown=z at hrp hok
 let Z:Option Sl:=O (.pub (.str z))
 let B:Option Sl:=O (.pub (.list ((US 0 cs).map int)))
 let F:Option Sl:=O (.pub (.bool (KG cs)))
 let T:Option Sl:=O (.pub (ZZ cs ls))
 refine Kk (ρ1:=[S,A,Z,xN,xN,xN,xN,xN,xN,xN,xN,xN,xN,xN,xN,xN]) (K0 (ZU (UW (UX xM) UZ) hrp) (Qa xM) xM) ?_;refine Kk (ρ1:=[S,A,Z,B,xN,xN,xN,xN,xN,xN,xN,xN,xN,xN,xN,xN]) (K0 (Ky (UW (UX xM) UZ) xM (qx g)) (Qa xM) xM) ?_;have ln:KB [.list ((US 0 cs).map int)]=O (.int (US 0 cs).length):=by rw[ZE,Qb]
 have hF:Vo (U3 UD (UY (oIB λi j=>decide (i<=j)) (UU (.int 1)) (K6 3))) (U3 UD (UY (oIB λi j=>decide (i<=j)) (K6 3) (UU (.int 6)))) [S,A,Z,B,xN,xN,xN,xN,xN,xN,xN,xN,xN,xN,xN,xN]=.ok (.bool (KG cs)) [S,A,Z,B,xN,xN,xN,xN,xN,xN,xN,xN,xN,xN,xN,xN]:=by
  have e:=TN (f:=U3 UD (UY (oIB λi j=>decide (i<=j)) (UU (.int 1)) (K6 3))) (g:=U3 UD (UY (oIB λi j=>decide (i<=j)) (K6 3) (UU (.int 6)))) (ρ:=[S,A,Z,B,xN,xN,xN,xN,xN,xN,xN,xN,xN,xN,xN,xN]) (t:=decide ((1:Int)<=((US 0 cs).length:Nat))) (u:=decide ((((US 0 cs).length:Nat):Int)<=6)) (K5 (Ka U0 (Zp xM ln) xM)) λ_=>K5 (Ka (Zp xM ln) U0 xM);rw[e];unfold KG;have e1:decide ((1:Int)<=((US 0 cs).length:Nat))=decide (1<=(US 0 cs).length):=JZ.mpr (by omega)
  have e2:decide ((((US 0 cs).length:Nat):Int)<=6)=decide ((US 0 cs).length<=6):=JZ.mpr (by omega);rw[e1,e2]
 refine Kk (ρ1:=[S,A,Z,B,F,xN,xN,xN,xN,xN,xN,xN,xN,xN,xN,xN]) (K0 hF (Qa xM) xM) ?_;refine Kk (ρ1:=[S,A,Z,B,F,T,xN,xN,xN,xN,xN,xN,xN,xN,xN,xN]) (K0 (Ky (UW (UX xM) (UW (UX xM) UZ)) xM (Fo g)) (Qa xM) xM) ?_;apply KH;refine VN (P:=λo=>∃x6 x7 x8,o=.nx [S,A,Z,B,F,T,x6,x7,x8,xN,xN,xN,xN,xN,xN,xN]) ?_ ?_
 .refine Kt (b:=KG cs) (Xn (UX xM)) (λhb=>?_) λhb=>KT ⟨_,_,_,rfl⟩
  have gj:=BV g hb;have hT:=B5 g hb;have hl1:=g.l1
  obtain⟨r0,qs,hq⟩:∃r0 qs,ls.map (cpA (US 0 cs))=r0::qs:=by
   cases e:ls.map (cpA (US 0 cs))with
   |nil=>have:=JX List.length e;rw[Qb,QT]at this;omega
   |cons a b=>exact⟨a,b,rfl⟩
  have hj:ZZ cs ls=.tuple [.list ((UB (US 0 cs).length (1:Int)).map int),.list (.list (r0.map Kf)::qs.map Ke)]:=by unfold ZZ Kj;rw[hq];rfl
  have v4:oNe (ZZ cs ls) (ZZ cs ls)=O xP:=CL _ _;have hl:=gj.l7;rw[hq,Qs]at hl;have nl:=gj.c6;have gr:∀q∈r0::qs,X8 (UB (US 0 cs).length (1:Int)).length q:=λq m=>gj.rk q (by rw[hq];exact m)
  have hlen:=qt (C:=(UB (US 0 cs).length (1:Int)).map int++[.int 0]) (by rw[Qk,Qb,Q4];omega) (gr r0 Qf) (λq m=>gr q (Qh _ m)) gj.c6 (by omega);have hr0:=(gr r0 Qf).few;have eT:T=O (.pub (.tuple [.list ((UB (US 0 cs).length (1:Int)).map int),.list (.list (r0.map Kf)::qs.map Ke)])):=JX (λz=>O (Sl.pub z)) hj;rw[hj]at hT v4;rw[eT];refine Kk (SH (Ky (UW (UX xM) UZ) xM hT) (Qa xM) xM) ?_;apply KH;refine Kt (b:=xP) (Oh (YZ xM (UX xM) v4)) (λz=>by cases z) λ_=>KT (KR ?_)
  refine Kk (Cs xM (app0 (by rw[Qb];omega)) xM) ?_;refine Kk (Ch xM (GP (by rw[Qb];omega)) xM) ?_;apply KH;have d1:∀x:D,Xa (.list (x::qs.map Ke)) (O 1) xN=O (.list (qs.map Ke)):=λx=>by rw[T4];exact JX (λz=>O (UC z)) Oj
  refine Kt (b:=xP) (Oh (Ka (VA (K2 xM U0 xM) (X3 U0) U0 (d1 _)) (VA (K2 xM U0 xM) (X3 U0) U0 (d1 _)) (E7 qs))) (λz=>by cases z) λ_=>KT (KR ?_)
  refine Kk (BC xM xM hlen (by decide +kernel) (by simp) xM) ?_;exact Kt (b:=xP) (Ka (Ky (UW (UX xM) UZ) xM hT) (UX xM) v4) (λz=>by cases z) λ_=>KT ⟨_,_,_,rfl⟩
 rintro _ ⟨x6,x7,x8,rfl⟩;refine KR ?_;obtain⟨v,hv⟩:=Pk ns 0 (by omega);apply KH;apply Ym (λ_ ρ=>∃x9 v7 wN wA vL vB vK,ρ=[S,A,Z,B,F,T,x6,x7,x8,x9,v7,wN,wA,vL,vB,vK])
 case h1=>exact Vb (UW (Ka (KJ (UW (Ky (UW (UX xM) (UW U0 UZ)) xM hv) UZ) (Qa xM)) (VA (UX xM) (X3 U0) (X3 U0) T4) (qf (by omega))) UZ) Vh
 case h0=>exact⟨_,_,_,_,_,_,_,rfl⟩
 case hst=>
  rintro i d ρ hi ⟨x9,v7,wN,wA,vL,vB,vK,rfl⟩;obtain⟨x,hx,rfl⟩:=TX hi;obtain⟨c,rfl⟩:=qg hx;rw[JR];refine⟨_,Zw xM (KF (U8 (Qa xM) xM) (KF (U8 (Qa xM) xM) Zx)),?_⟩;unfold ML;obtain⟨r,hm,us,rfl,dm⟩:=HK (wide g) c (20+(i:Int));obtain⟨r,hy,ws,rfl,dy⟩:=HK (BY g) c (60+(i:Int));have lw:=dy.len;rw[Qb]at lw
  have there:∀w∈ws,∀k,w=O k->0<=k/\k<(US 0 cs).length:=by
   rintro w hw k rfl;obtain⟨j,hj,e⟩:=List.mem_iff_getElem.mp hw;have e1:ws[j]?=O (O k):=by rw[Qe hj,e]
   have e2:(ls.map (cpA (US 0 cs)))[j]?=O (cpA (US 0 cs) (ls[j]'(by omega))):=by rw[Qp,Qe (by omega)];rfl
   have:=dy.wish j k _ e1 e2;rw[OB]at this;exact RQ this
  obtain⟨r,hn,ds,rfl,hdl,hdb⟩:=SW c (100+(i:Int)) (sizes:=[16]) (by decide) (by decide)
  match ds,hdl with
  |[z0],_=>
  have b0:=hdb 0 z0 16 xM xM;obtain⟨k0,rfl⟩:∃k:Nat,z0=k:=⟨z0.toNat,by omega⟩
  have wG:k0<16:=by omega
  let I:Option Sl:=O (.pub (.int i))
  let C:Option Sl:=O (.pub (.int c))
  let U:Option Sl:=O (.pub (KE us))
  let V:Option Sl:=O (.pub (KE ws))
  let K:Option Sl:=O (.pub (.int (k0:Nat)))
  refine Kk (ρ1:=[S,A,Z,B,F,T,x6,x7,x8,I,C,U,wA,vL,vB,vK]) (K0 (Ky (UW (UX xM) (UW (UX xM) (UW (Ka U0 (UX xM) Yt) UZ))) xM hm) (Qa xM) xM) ?_;refine Kk (ρ1:=[S,A,Z,B,F,T,x6,x7,x8,I,C,U,V,vL,vB,vK]) (K0 (Ky (UW (UX xM) (UW (UX xM) (UW (Ka U0 (UX xM) Yt) UZ))) xM hy) (Qa xM) xM) ?_;apply KH;refine Kt (b:=xP) (ρ1:=[S,A,Z,B,F,T,x6,x7,x8,I,C,U,V,vL,vB,vK]) ?_ (λz=>by cases z) λ_=>KT (KR ?_)
  .cases hf:KG cs with
   |false=>exact D3 (Xn (UX (by show O (O (Sl.pub (.bool (KG cs))))=_;rw[hf])))
   |true=>exact D2 (Xn (UX (by show O (O (Sl.pub (.bool (KG cs))))=_;rw[hf]))) (YI (t:=xO) (Xn (Ky (UW (UX xM) (UW (UX xM) (UW (UX xM) (UW (UX xM) UZ)))) xM (BW g hf dm there (by omega)))))
  refine Kk (ρ1:=[S,A,Z,B,F,T,x6,x7,x8,I,C,U,V,K,vB,vK]) (K0 (Ka (Ky (UW (UX xM) (UW (Ka U0 (UX xM) Yt) (UW (KJ (UW U0 UZ) (Qa xM)) UZ))) xM hn) U0 (show oIx (.list ([((k0:Nat):Int)].map int)) (.int 0)=O (.int (k0:Nat))from rfl)) (Qa xM) xM) ?_;obtain⟨bd,hbd,hno⟩:=kJ g wG;obtain⟨_,hsm,hdue⟩:=Da g hbd;obtain⟨wE,hne⟩:=BX (m:=ls.length) wG;apply Ym (λ_ ρ=>∃vB vK,ρ=[S,A,Z,B,F,T,x6,x7,x8,I,C,U,V,K,vB,vK])
  case h1=>exact VQ (UW U0 UZ) (Vd (by decide) (by decide))
  case h0=>exact⟨_,_,rfl⟩
  case hst=>
   rintro j d ρ hj ⟨vB,vK,rfl⟩;obtain⟨rfl,hj3⟩:=T7 hj;rw[Uk];have hj3:j<3:=by omega
   refine⟨_,U8 (Qa xM) xM,?_⟩;unfold Mn
   let J:Option Sl:=O (.pub (.int (j:Nat)))
   apply KH;refine VN (P:=λo=>∃vK,o=.nx [S,A,Z,B,F,T,x6,x7,x8,I,C,U,V,K,J,vK]) ?_ ?_
   .refine Kt (b:=!KG cs) (YI (Xn (UX xM))) (λhb=>?_) λ_=>KT ⟨_,rfl⟩
    have hx:=GS g;rw[Qw (by revert hb;cases KG cs<;>decide)]at hx;refine Kk (ρ1:=[S,A,Z,B,F,T,x6,x7,x8,I,C,U,V,K,J,O (.pub (exD "NoJoin" []))]) (K0 (Ky (UW (UX xM) (UW (UX xM) (UW (UX xM) UZ))) xM (Lu hj3 _ hx xM xM)) (Qa xM) xM) ?_;exact Kt (b:=xP) (ρ1:=[S,A,Z,B,F,T,x6,x7,x8,I,C,U,V,K,J,O (.pub (exD "NoJoin" []))]) (Ka (Ky (UW (UX xM) UZ) xM Fl) U0 (show oNe (.str "join") (.str "join")=O xP by kernel_rfl)) (λz=>by cases z) λ_=>KT ⟨_,rfl⟩
   rintro _ ⟨y15,rfl⟩;refine KR ?_
   let pl:=K1 ls.length k0
   let E:D:=exD "NoWishes" [.str pl.1,pl.2]
   refine Kk (ρ1:=[S,A,Z,B,F,T,x6,x7,x8,I,C,U,V,K,J,pb E]) (K0 (Ky (UW (UX xM) (UW (Ky (UW (UX xM) (UW (UX xM) UZ)) xM hno) (UW (UX xM) UZ))) xM (Lu hj3 _ (GR hsm hdue) xM xM)) (Qa xM) xM) ?_;apply KH;refine Kt (b:=xP) (ρ1:=[S,A,Z,B,F,T,x6,x7,x8,I,C,U,V,K,J,O (.pub E)]) (Ka (Ky (UW (UX xM) UZ) xM (Fn _ _)) U0 (show oNe (.str "wishes") (.str "wishes")=O xP by kernel_rfl)) (λz=>by cases z) λ_=>KT (KR ?_)
   exact Kt (b:=xP) (Ka (Ky (UW (UX xM) UZ) xM wE) (Ky (UW (UX xM) (UW (UX xM) UZ)) xM (qu g wG)) hne) (λz=>by cases z) λ_=>KT (Zv ⟨_,_,rfl⟩)
  case hend=>rintro ρ ⟨vB,vK,rfl⟩;exact Zv ⟨_,_,_,_,_,_,_,rfl⟩
 case hend=>
  rintro ρ ⟨x9,v7,wN,wA,vL,vB,vK,rfl⟩;have hze:oEq (.str z) (.str z)=O xO:=by rw[Dh hok hok];simp
  exact KR (K4 (K5 (k:=UD) (Ka (ZU (UW (UX xM) UZ) hrp) (UX xM) hze)) xM)
end
end W
open PySem PySem.W PyProof.Rows
set_option maxRecDepth 100000 in
set_option maxHeartbeats 0 in
theorem PySem.Challenge.cw_wishdeal_k82_copy_by_copy_holds : PySem.Challenge.rw_wishdeal_k82_copy_by_copy.Holds := by
 w_on;o_law
 refine holds_open (q:=W.q0) (loose:=[]) (Xt:=λs=>xlAt W.q0 [] s&&recOk [] s) (XP:=XL W.q0 []) (Yf:=DL.xSeen W.clsL) (Ya:=λ_=>DL.xGood W.p0 W.clsL) (YP:=λ_ h=>DL.XYP W.p0 W.clsL h) (N:=8162) (d:=W.d_bb) (kwd:=[])
  W.Fh (λ_ _ e=>DL.EH e) (λ_ _ _ y k=>y.keeps k) (λs e=>xl_of s (Bool.and_eq_true_iff.mp e).1) XL.keeps (by rfl) (by rfl) (by rfl)
  (λs e=>recFacts_of (Bool.and_eq_true_iff.mp e).2) (by rfl) (by assumption) (by decide +kernel) ⟨rfl,rfl,rfl,rfl,rfl,by decide +kernel⟩ ?hw (W.walk W.BU)
 case hw=>w_witness2


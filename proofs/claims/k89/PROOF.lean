import PyProof.Rows.All
import Wide.All
import OpenK.AllK
import Wide.FinOn
import Lean
import PyProof.EqAt
import PyProof.EqKinds
import PyProof.TupleCall
import PyProof.EnumMake
import PyProof.ZipIter
import PyProof.ExcClass2
import PyProof.ExcInit
import PyProof.ExcBaseAll.ValueError
import PyProof.FString2
import PyProof.ExcArgsOwn
import PyProof.InstStoreFacts
import ObjForm.Fk.InstStore
import ObjForm.Fk.InstLoad
import PyProof.StationsW
import PyProof.RulesAs
import PyProof.NsDelKeeps
import OpenK.KMore
import PyProof.IsiBase
import OpenK.KNot
import PyProof.Rows.RuleN_isinstance
import PyProof.NeData
import PyProof.P3In
import PyProof.StrWalks
import PyProof.ConsumeWalk
import PyProof.SliceStr2
import PyProof.MeetsStr
import KE.KItem
import KE.KUnpack
import KE.KRevSl
import PyProof.Rows.SetFrom
import PyProof.SetRoads
import PyProof.Rows.Range3
import PyProof.CallType
import PyProof.Rows.CallKwBuiltin
import PyProof.Rows.MinMaxN
import PyProof.SumWalkG
import PyProof.Rows.SeqMore
import PyProof.Rows.SortWalk
import PyProof.Rows.SumAny
import PyProof.Rows.SeqMore2
import KE.KSortTup
import PyProof.Rows.SortShellK
import PyProof.ReprRoads
import PyProof.ReprBulk
import PyProof.CallFns
import PyProof.NeKinds
import PyProof.Rows.StrJoinMade
import PyProof.StrCalls
import KE.KIntText
import PyProof.ReprDict
import PyProof.DictIter
import PyProof.Rows.DictUnroll
import PyProof.MeetsStr2
import PyProof.Rows.StrNews
import PyProof.StrLawsChain
import PyProof.Rows.StrItems
import PyProof.SeqRoads2
import PySem.Challenge.RW_wishdeal_k89_papers_written_and_read
set_option compiler.extract_closed false
set_option Elab.async false
set_option linter.all false
set_option maxRecDepth 100000
set_option maxHeartbeats 4000000
open Option renaming some→O,none→Cu
open Bool renaming true→Cv,false→Cw
theorem Ct.{u}{α:Sort u}{a:α}:a=a:=rfl
abbrev CD:=List Int
abbrev CG:=List Nat
abbrev CH:=Option Int
abbrev CL:=Option Bool
theorem Qa:type_of% @of_decide_eq_true:=@of_decide_eq_true
theorem Qo:type_of% @if_pos:=@if_pos
theorem Qt:type_of% @decide_eq_false:=@decide_eq_false
theorem Qv:type_of% @if_neg:=@if_neg
theorem QM:type_of% @decide_eq_true:=@decide_eq_true
theorem Q4:type_of% @decide_eq_true_eq:=@decide_eq_true_eq
theorem Q7:type_of% @decide_eq_false_iff_not:=@decide_eq_false_iff_not
theorem JK:type_of% @of_decide_eq_false:=@of_decide_eq_false
theorem JV:type_of% @congrArg:=@congrArg
open PySem renaming wpAny_bind→Qb,wpAny_loadPart_at→Qh,wpAny_pure→Qk,wpAny_isSubtype_exc→QB,wpAny_field→QE,wpAny_mono→QU,wpAny_truthy_bool→QX,mem_of_lookup→QZ,wpAny_Call_Name_kw→Q9,wpAny_seqItems→Jb,codeAny_call_builtin→Jf,typeIs_str→Jn,call_meets→Jo,Value→JX,Shared→JY,Program→JZ,Addr→J0,FuncData→J4,Expr→J5,sizeLine→J6,wpAny→J7,starEach→J8,compareOp→J9,assignEach→Uo,foldedSetIterable→Up
open PySem.Heap renaming get?_push_of_some→Qd,lt_size→Qf,get?_push_size→Qp,get?_update_other→QN,size_push→QS,get?_update_self→Q3
open List renaming getElem?_set_ne→Qe,length_map→Qg,getElem?_eq_getElem→Qi,mem_cons_self→Qj,mem_cons_of_mem→Ql,getElem?_eq_some_iff→Qm,getElem?_append_left→Qq,getElem?_append_right→Qr,length_append→Qu,getElem?_map→Qx,getElem?_set_self→Qz,getElem?_replicate→QA,mem_cons→QC,mem_append_right→QD,length_cons→QF,all_eq_true→QG,lookup_cons→QH,map_cons→QI,length_set→QJ,mem_singleton→QK,mem_of_getElem?→QL,append_nil→QO,size_toArray→QQ,contains_cons→QR,mem_append_left→QT,mem_append→QW,map_append→Q1,length_replicate→Q2,nodup_append→Q5,mem_map→Q6,drop_eq_getElem_cons→Q8,sum_cons→Ja,length_drop→Jc,not_mem_nil→Jd,drop_eq_nil_of_le→Ji,replicate_succ→Jj,length_nil→Jk,append_assoc→Jq,nodup_cons→Js,map_congr_left→Jt,length_take→Jx,reverse_cons→Jy,flatten_cons→Jz,mem_of_mem_take→JC,mem_of_mem_drop→JD,map_map→JE,getElem_mem→JG,all_cons→JL,length_singleton→JM,length_pos_iff→JQ,nil_append→JR,drop_zero→JT,mem_range→JW,range→Ua,replicate→Ub,Pairwise→Ul
open Nat renaming le_trans→Qn,le_refl→Qs,lt_of_lt_of_le→Qy,ne_of_lt→QP,le_of_not_lt→QY,ne_of_gt→Ju,lt_irrefl→Jw,zero_add→JI,zero_le→JN,sub_self→JU
open Bool renaming and_eq_true→Qw,not_eq_true'→JB,false_ne_true→JH,and_eq_true_iff→JO,or_true→JP
open Option.some renaming inj→Q0
open PySem.Obj renaming isFreed_of_fields→Je,data_mapFields→Jp
open PySem.F renaming slot_tuple_iterator_next→Jg,plainAttrs_list→JF
open Array renaming getElem?_eq_some_iff→Jh
open PySem.W renaming kia_one→Jl,kia_tup→Jm,kitx_dict→JA
open Int renaming toNat_natCast→Jr,emod_lt_of_pos→JJ,emod_nonneg→JS
open PyProof.Rows renaming callWith_type1→Jv
open PySem.PyData renaming list→Uc,bool→Ud,str→Ue,strOk→Uf,canLayAll0→Ug,depth→Uh,eqv→Ui,shown→Um
open PySem.PassesOwn renaming never→Uj
open PySem.Str renaming ofString→Uk
abbrev Cz:=List JX
abbrev CB:=Option JX
abbrev CC:=List J5
abbrev CF:=List J0
abbrev CJ:=Option J0
abbrev L3:=List (List CD)
open PySem.W (Frag)
open PySem.PyData (int)
open List (replicate)
namespace DL
open PySem PySem.Spec PySem.W PyProof.Rows
def topRunT(tb:String->Option Builtin)(p:JZ)(w:World)(m:Nat)(ann:CB):Nat->SharedT->Thread->Option SharedT
 |0,_,_=>Cu
 |n+1,s,t=>match through t,stepOk m ann t with
  |true,_=>O s
  |false,Cw=>Cu
  |false,Cv=>match stepT (denote tb) p w s t with
   |some x=>topRunT tb p w m ann n x.1 x.2
   |none=>Cu
theorem NA{tb:String->Option Builtin}{p:JZ}{w:World}{m:Nat}{ann:CB}:∀{n:Nat}{s s':SharedT}{t:Thread},topRunT tb p w m ann n s t=O s'->topRun tb p w m ann n s.abs t=O s'.abs
 |0,_,_,_,h=>by cases h
 |n+1,s,s',t,h=>by
  rw[topRunT]at h;rw[topRun];cases ht:through t with
  |true=>rw[ht]at h;cases h;rfl
  |false=>
   rw[ht]at h;cases hk:stepOk m ann t with
   |false=>rw[hk]at h;cases h
   |true=>
    rw[hk]at h;dsimp only at h⊢;cases hs:stepT (denote tb) p w s t with
    |none=>rw[hs]at h;cases h
    |some x=>rw[hs]at h;rw[stepT_spec hs];exact NA h
def btOf(l:List Obj):BT:=(l.foldl (λ(x:BT×Nat) o=>(x.1.ins x.2 o,x.2+1)) (.nil,0)).1
noncomputable def T0 (w:World) (os:OsState):SharedT:=⟨btOf (boot_heap w.params).objs.toList,11,(boot_heap w.params).life,#[],boot_drawn,boot_toks,os⟩
theorem EH(w:World)(os:OsState):(T0 w os).abs=⟨boot_heap w.params,#[],boot_drawn,boot_toks,os⟩:=by kernel_rfl
theorem DE(w:World):((boot_heap w.params).isNs mainGlobals&&(#[]:Array GenState).size==0,(boot_heap w.params).objs.size,(boot_heap w.params).nsMap mainGlobals "__annotations__")=(Cv,11,O (.ref 6)):=by kernel_rfl
noncomputable abbrev Lr (p q:JZ) (loose:List Str) (Xt:JY->Bool) (w:World) (t:SharedT):=
 ((staticsOk (importedModules p.main.body) (boot_heap w.params) t.abs.heap&&namesBound p t.abs.heap&&gensDone t.abs&&laidKept (boot_heap w.params) t.abs.heap),openSeen q loose (importedModules p.main.body) Xt Cv t.abs)
abbrev VB0:Cz:=[.type "ValueError", .type "Exception", .type "BaseException", .type "object"]
def Sm:List Str:=["__setattr__", "__getattribute__", "__getattr__", "__class__", "part", "number", "row"]
def Xj(nm:Str):Str:=nm ++ "." ++ "__init__"
def xB(h:Heap)(nm:Str)(own:Bool):Bool:=match h.nsMap mainGlobals nm with
 |some (.ref C)=>(match h.get? C with
  |some ⟨.type t,_,.cls cd,sl⟩=>(t == "type")&&(cd.name==nm)&&cd.hasDict && !cd.hasDel&&(match sl.toList with | [_,_,_,_,k4,_]=>decide (k4=O (.builtin "ValueError.__new__"))|_=>Cw)&&h.isNs cd.ns&&(Sm.all λx=>(h.nsMap cd.ns x).isNone)&&(own || (h.nsMap cd.ns "__init__").isNone) &&
   (if nm = "DealError" then decide (cd.mro=.ref C::VB0)else match h.nsMap mainGlobals "DealError" with|some (.ref D)=>decide (cd.mro=.ref C::.ref D::VB0)|_=>Cw)
  |_=>Cw)
 |_=>Cw
def xSh(h:Heap)(nm:Str):Option (Bool×FnShape):=match h.nsMap mainGlobals nm with
 |some (.ref C)=>(match h.get? C with
  |some ⟨_,_,.cls cd,_⟩=>(match h.fnAt cd.ns "__init__", h.shapeAt cd.ns "__init__" with|some (_,o,_),O sh=>O (decide (o.cls=.type "function"),sh)|_,_=>Cu)
  |_=>Cu)
 |_=>Cu
def ZE(st:Stmt):Stmt:=match st with
 |.ClassDef _ _ _ (m::_) _ _ _ _ _ _ _=>m
 |_=>.Pass ⟨0,0,0,0⟩
def RE(s:Stmt):Arguments:=match s with
 |.FunctionDef _ a _ _ _ _ _ _ _ _=>a
 |_=>default
def RD(s:Stmt):List Stmt:=match s with
 |.FunctionDef _ _ b _ _ _ _ _ _ _=>b
 |_=>[]
def Ph(s:Stmt):Scope:=match s with
 |.FunctionDef _ _ _ _ _ _ sc _ _ _=>sc
 |_=>{kind:=.function,names:=[],isGenerator:=Cw,isCoroutine:=Cw}
def XY(nm:Str)(st:Stmt):FnShape:=⟨"__init__", Xj nm,RE st,.stmts (RD st),Ph st,mainGlobals,[],.none,.none,Cu,.none,builtinsNs,Cv⟩
abbrev XL0:=List (Str×Option Nat)
def xSeen(l:XL0)(s:JY):Bool×List (Bool×Option (Bool×FnShape)):=(s.heap.isNs cStatics&&(s.heap.nsMap cStatics "thirdparty.any").isNone,l.map λc=>(xB s.heap c.1 c.2.isSome,if c.2.isSome then xSh s.heap c.1 else Cu))
def xGood(p:JZ)(l:XL0):Bool×List (Bool×Option (Bool×FnShape)):=(Cv,l.map λc=>(Cv,c.2.map λi=>(Cv,XY c.1 (ZE (p.main.body.getD i (.Pass ⟨0,0,0,0⟩))))))
theorem EG{α:Type}{Yf:JY->α}{Ya:World->α}{p q:JZ}{loose:List Str}{Xt:JY->Bool}{N M:Nat}(e:opening p=plainProg p.main.scope.names)(hN:Nat.ble 600 N=Cv)(f:∀s,fenceModules? p s=O s)(le:Nat.ble M N=Cv)
  (run:∀(w:World)(os:OsState),(topRunT treeTable p w 11 (O (.ref 6)) M (T0 w os) (topStub p)).map (λt=>(Lr p q loose Xt w t,Yf t.abs))=O ((Cv,openGood q loose),Ya w)):LeftO p q loose Xt Yf Ya N:=λw=>by
 obtain⟨⟨h,gs,d,k,os⟩,e0,e'⟩:=Option.map_eq_some_iff.mp (boot_open e hN f w);have e':(h,gs,d,k)=(boot_heap w.params,#[],boot_drawn,boot_toks):=e';obtain⟨rfl,rfl,rfl,rfl⟩:h=boot_heap w.params/\gs=#[]/\d=boot_drawn/\k=boot_toks:=by simpa only[Prod.mk.injEq]using e'
 obtain⟨t,ht,l⟩:=Option.map_eq_some_iff.mp (run w os);have hr:=NA ht;rw[EH]at hr;have r:=topRun_mono (N-M) _ _ _ _ hr;rw[show M+(N-M)=N by have:=Nat.le_of_ble_eq_true le;lia]at r;obtain⟨l0,l3⟩:=Prod.mk.inj l;obtain⟨l1,l2⟩:=Prod.mk.inj l0;have z:=DE w;obtain⟨z1,z2,z3⟩:_/\_/\_:=by simpa only[Prod.mk.injEq]using z
 have tf:topFrom treeTable p w N ⟨boot_heap w.params,#[],boot_drawn,boot_toks,os⟩=O t.abs:=by
  unfold topFrom;dsimp only;rw[z1,z2,z3,r]
  show(match staticsOk (importedModules p.main.body) (boot_heap w.params) t.abs.heap&&namesBound p t.abs.heap&&gensDone t.abs&&laidKept (boot_heap w.params) t.abs.heap with|true=>O t.abs|false=>Cu)=_
  rw[l1]
 unfold openEnds;rw[e0]
 show(topFrom treeTable p w N _).map _=_
 rw[tf];exact JV O (Prod.ext l2 l3)
end DL
open PySem in
lay_quick PySem.Challenge.pw_wishdeal_k89_papers_written_and_read DL.topRunT PySem.W.openGood PySem.W.staticsOk PySem.W.namesBound PySem.W.laidKept PySem.W.xlAt DL.xSeen DL.xGood
namespace W
open PySem PySem.Spec DL
noncomputable abbrev p0:JZ:=PySem.Challenge.pw_wishdeal_k89_papers_written_and_read
noncomputable def Yt:CG:=[1,2,3,4,5,6,7,8,9,10,11,12,13,14,16,17,18,19,20,22,23,24,25,26,27,28,29,31,32,33,34,35,36,37,38,39,40,41,42]
noncomputable def ixL:CG:=[18,19,20,23,24,25,26,27,28,29,31,32,33,34,35,36,37,38,39,40,41,42]
noncomputable abbrev q0:JZ:=PySem.W.view p0 Yt
noncomputable def clsL:XL0:=[("DealError", O 1),("NoWishes", O 2),("NoAim", O 3),("NoText", O 4),("NoWay", Cu),("NoPlace", Cu),("NoChange", Cu),("NoNumbering", Cu),("NoJoin", Cu),("NoBook", Cu),("NoDeed", Cu),("NoRow", Cu),("NoName", Cu),("TooMany", Cu)]
theorem Lq:∀(w:World)(os:OsState),(PySem.W.Fast.tw10708255244068714335 PySem.W.Fast.tw14364793385576792824 PySem.W.Fast.tw3067351940574629671 w 11 (O (.ref 6)) 3915 (T0 w os) (PySem.W.topStub PySem.W.Fast.tw3067351940574629671)).map (λt=>(((PySem.W.Fast.tw13471830651028734593 (PySem.W.Fast.tw5923862056798008813 (Program.main PySem.W.Fast.tw3067351940574629671).body) (PySem.W.boot_heap w.params) t.abs.heap&&PySem.W.Fast.tw4683006035507612052 PySem.W.Fast.tw3067351940574629671 t.abs.heap&&PySem.W.gensDone t.abs&&PySem.W.Fast.tw16898566250750103049 (PySem.W.boot_heap w.params) t.abs.heap),PySem.W.Fast.tw4187177175401517315 (PySem.W.view PySem.W.Fast.tw3067351940574629671 Yt) [] (PySem.W.Fast.tw5923862056798008813 (Program.main PySem.W.Fast.tw3067351940574629671).body) (λs=>PySem.W.Fast.tw4757257242682413121 (PySem.W.view PySem.W.Fast.tw3067351940574629671 Yt) [] s&&PySem.W.recOk [] s) Cv t.abs),PySem.W.Fast.tw11121216462471823999 clsL t.abs))=O ((Cv,PySem.W.Fast.tw3486900944545009338 (PySem.W.view PySem.W.Fast.tw3067351940574629671 Yt) []),PySem.W.Fast.tw18030470931243306169 PySem.W.Fast.tw3067351940574629671 clsL):=by intro w os;kernel_rfl
theorem Lp:PySem.W.LeftO p0 q0 [] (λs=>PySem.W.xlAt q0 [] s&&PySem.W.recOk [] s) (xSeen clsL) (λ_=>xGood p0 clsL) 7730:=by
 refine EG (M:=3915) (by kernel_rfl) Ct (λs=>by kernel_rfl) Ct λw os=>?_
 have h:=Lq w os;rw[←PySem.W.Fast.te10708255244068714335,←PySem.W.Fast.te14364793385576792824,←PySem.W.Fast.te4187177175401517315,←PySem.W.Fast.te5923862056798008813,←PySem.W.Fast.te13471830651028734593,←PySem.W.Fast.te4683006035507612052,←PySem.W.Fast.te16898566250750103049,←PySem.W.Fast.te4757257242682413121,←PySem.W.Fast.te3486900944545009338,←PySem.W.Fast.te11121216462471823999,←PySem.W.Fast.te18030470931243306169,←PySem.W.Fast.te3067351940574629671]at h;exact h
end W
namespace L2
open PySem PySem.Spec PyProof.Rows
abbrev Key:=Sum Int Str
noncomputable def RC:Key->JX->Bool
 |.inl k,v=>Value.isInt k v
 |.inr x,v=>Value.isStrOf x v
noncomputable def keyH(w:World):Key->Int
 |.inl k=>hashInt k
 |.inr x=>hashStr w x
theorem YJ:∀{k:Key}{v:JX},RC k v=Cv->(∃i t,k=Sum.inl i/\v=Value.int i t)∨(∃x t,k=Sum.inr x/\v=Value.str x t)
 |.inl i,v,h=>by obtain⟨t,e⟩:=Value.isInt_shape (k:=i) (v:=v) h;exact .inl ⟨i,t,rfl,e⟩
 |.inr x,v,h=>by obtain⟨t,e⟩:=Value.isStrOf_shape (x:=x) (v:=v) h;exact .inr ⟨x,t,rfl,e⟩
theorem LJ(a b:Int):decide ((Sum.inl a:Key)=Sum.inl b)=(a==b):=by
 by_cases e:a=b
 .subst e;simp
 .have h:¬(Sum.inl a:Key)=Sum.inl b:=λq=>e (Sum.inl.inj q)
  rw[Qt h];exact(beq_eq_false_iff_ne.mpr e).symm
theorem LI(a b:Str):decide ((Sum.inr a:Key)=Sum.inr b)=decide (a=b):=by
 by_cases e:a=b
 .subst e;simp
 .have h:¬(Sum.inr a:Key)=Sum.inr b:=λq=>e (Sum.inr.inj q)
  rw[Qt h,Qt e]
theorem LH(a:Int)(b:Str):decide ((Sum.inl a:Key)=Sum.inr b)=Cw:=Qt (λq=>nomatch q)
theorem LG(a:Str)(b:Int):decide ((Sum.inr a:Key)=Sum.inl b)=Cw:=Qt (λq=>nomatch q)
noncomputable def P6(prog:JZ)(w:World):PySem.KeyKind prog w Key where
 is:=RC
 hash:=keyH w
 inj:=λv a b ha hb=>by
  rcases YJ ha with ⟨i,t,rfl,rfl⟩|⟨x,t,rfl,rfl⟩
  .rcases YJ hb with ⟨j,u,rfl,e⟩|⟨y,u,rfl,e⟩
   .injection e with e1 _;rw[e1]
   .exact nomatch e
  .rcases YJ hb with ⟨j,u,rfl,e⟩|⟨y,u,rfl,e⟩
   .exact nomatch e
   .injection e with e1 _;rw[e1]
 byValue:=λk v h=>by rcases YJ h with ⟨i,t,rfl,rfl⟩|⟨x,t,rfl,rfl⟩<;>rfl
 pyHash:=λhv h=>by
  rcases YJ hv with ⟨i,t,rfl,rfl⟩|⟨x,t,rfl,rfl⟩
  .exact wpAny_pyHash_int h
  .exact wpAny_pyHash_str h
 eqBool:=λhu hv h=>by
  rcases YJ hu with ⟨i,t,rfl,rfl⟩|⟨x,t,rfl,rfl⟩
  .rcases YJ hv with ⟨j,u,rfl,rfl⟩|⟨y,u,rfl,rfl⟩
   .rw[LJ]at h;exact wpAny_eqBool_int h
   .rw[LH]at h;exact SeqAt.EqAt.int_str i t y u _ _ _ _ h
  .rcases YJ hv with ⟨j,u,rfl,rfl⟩|⟨y,u,rfl,rfl⟩
   .rw[LG]at h;exact SeqAt.EqAt.str_int x t j u _ _ _ _ h
   .rw[LI]at h;exact wpAny_eqBool_str h
 «strs»:=λk x t v h=>by
  rcases YJ h with ⟨i,u,rfl,e⟩|⟨y,u,rfl,e⟩
  .exact nomatch e
  .injection e with e1 _
   subst e1;cases v<;>rfl
inductive V where
 |non|bl (b:Bool)|int (i:Int)|str (x:Str)|byt (b:Array UInt8)|flt (b:UInt64)|ref (a:J0)|ty (n:String)
 deriving DecidableEq
noncomputable def RelV:V->JX->Prop
 |.non,u=>u=Value.none
 |.bl b,u=>u=Value.bool b
 |.int i,u=>∃t,u=Value.int i t
 |.str x,u=>∃t,u=Value.str x t
 |.byt b,u=>∃t,u=Value.bytes b t
 |.flt b,u=>∃t,u=Value.float b t
 |.ref a,u=>u=Value.ref a
 |.ty n,u=>u=Value.type n
noncomputable abbrev Vals:List V->Cz->Prop:=Paired RelV
theorem Vals.length{xs:List V}{us:Cz}(r:Vals xs us):xs.length=us.length:=Paired.length r
theorem Vals.get:∀{xs:List V}{us:Cz}{i:Nat}{x:V},Vals xs us->xs[i]?=O x->∃u,us[i]?=O u/\RelV x u
 |_,_,_,_,.nil,e=>by simp at e
 |_,_,0,_,.cons r _,e=>by simp at e;subst e;exact⟨_,rfl,r⟩
 |_,_,i+1,x,.cons _ t,e=>by obtain⟨u,h1,h2⟩:=Vals.get (i:=i) (x:=x) t (by simpa using e);exact⟨u,by simpa using h1,h2⟩
theorem Vals.append:∀{xs ys:List V}{us ws:Cz},Vals xs us->Vals ys ws->Vals (xs++ys) (us++ws)
 |_,_,_,_,.nil,s=>s
 |_,_,_,_,.cons r t,s=>.cons r (Vals.append t s)
theorem Vals.take:∀{xs:List V}{us:Cz}(n:Nat),Vals xs us->Vals (xs.take n) (us.take n)
 |_,_,0,_=>.nil
 |_,_,_+1,.nil=>.nil
 |_,_,n+1,.cons r t=>.cons r (Vals.take n t)
theorem Vals.drop:∀{xs:List V}{us:Cz}(n:Nat),Vals xs us->Vals (xs.drop n) (us.drop n)
 |_,_,0,r=>r
 |_,_,_+1,.nil=>.nil
 |_,_,n+1,.cons _ t=>Vals.drop n t
noncomputable def Yl:Option V->CB->Prop
 |some v,O u=>RelV v u
 |none,Cu=>True
 |_,_=>False
noncomputable def KV{κ:Type}:List (κ×V)->List (κ×JX)->Prop:=Paired λ(p:κ×V) (q:κ×JX)=>p.1=q.1/\RelV p.2 q.2
noncomputable def kV:Key->V
 |.inl i=>.int i
 |.inr x=>.str x
inductive HO where
  |lst (xs:List V)
  |tup (xs:List V)
  |dK (kvs:List (Key×V))|dT (kvs:List (List Key×V))
  |set (S:Int->Bool) (n:Nat)
  |ins (C dx:J0) (fs:List (Str×V))
  |own (x:J0)
  |xd (fs:List (Str×V))
  |met (f x:J0)
  |rng (lo hi:Int)
  |frz (o:Obj) (u:HO)
  |tbl (ps:Array JX)
  |ext (φ:Heap->Prop)
abbrev Hp:=J0->Option HO
noncomputable def upd(H:Hp)(a:J0)(o:HO):Hp:=λb=>if b=a then O o else H b
theorem U9{H:Hp}{a:J0}{o:HO}:upd H a o a=O o:=by unfold upd;rw[Qo Ct]
theorem UR{H:Hp}{a b:J0}{o:HO}(h:b≠a):upd H a o b=H b:=by unfold upd;rw[Qv h]
theorem GF{H:Hp}{a:J0}{o u:HO}:upd (upd H a o) a u=upd H a u:=by funext b;unfold upd;split<;>rfl
theorem Zn{H:Hp}{a b:J0}{o:HO}(h:H a=O o)(h':H b=Cu):a≠b:=by intro e;subst e;rw[h]at h';cases h'
section
variable(P:JZ)(w:World)
noncomputable def KW(H:Hp)(h:Heap)(a:J0):HO->Prop
 |.lst xs=>xs.length<=J6/\∃(its:Cz)(n:Nat),Vals xs its/\h.get? a=O {cls:=.type "list", data:=.seq its.toArray n}
 |.tup xs=>xs.length<=J6/\∃its:Cz,Vals xs its/\IsTup h a its.toArray
 |.dK kvs=>kvs.length<=J6/\(a==sysModules)=Cw/\∃vs,KV kvs vs/\h.DictOf (P6 P w) a vs
 |.dT kvs=>kvs.length<=J6/\(a==sysModules)=Cw/\∃xs:List (List Key×J0×JX),
   Paired (λ(p:List Key×V) (q:List Key×J0×JX)=>p.1=q.1/\H q.2.1=O (.tup (p.1.map kV))/\RelV p.2 q.2.2) kvs xs /\
   ∃o es ep,h.get? a=O o/\o.ExactDict/\o.data=.dict es ep/\es.toList=xs.map (entryOfKey (tupleKind (P6 P w)))/\(xs.map (·.1)).Nodup
 |.set S n=>h.SetOf (intKind P w) a S n
 |.ins C dx fs=>H dx=O (.own a)/\fs.length<=1000/\dx≠a/\h.get? a=O (PySem.W.instObj C dx) /\
   ∃mA,h.Ns1 dx mA/\(∀f,Yl (fs.lookup f) (mA f))/\PySem.Within mA (fs.map (·.1))
 |.own _=>∃o,h.get? a=O o
 |.xd fs=>∃mA,h.Ns1 a mA/\∀f,Yl (fs.lookup f) (mA f)
 |.rng lo hi=>∃t u v,h.get? a=O {cls:=.type "range", data:=.fields #[.int lo t,.int hi u,.int 1 v]}
 |.frz o u=>h.get? a=O o/\KW H h a u
 |.tbl ps=>h.get? a=O {cls:=.none,data:=.fields ps}
 |.met f x=>h.get? a=O (PySem.W.methodObj (.ref f) (.ref x))
 |.ext φ=>φ h/\(∃o,h.get? a=O o)/\∀h1 h2:Heap,φ h1->(∀o,h1.get? a=O o->h2.get? a=O o)->φ h2
def HOk(H:Hp)(h:Heap):Prop:=∀a o,H a=O o->KW P w H h a o
end
section
variable{P:JZ}{w:World}{H H':Hp}{h h':Heap}{a:J0}{o:HO}
theorem KW.lt(x:KW P w H h a o):a<h.objs.size:=by
 cases o with
 |lst xs=>obtain⟨_,_,_,_,e⟩:=x;exact Qf e
 |tup xs=>obtain⟨_,_,_,p⟩:=x;exact p.lt
 |dK kvs=>obtain⟨_,_,_,_,o,_,_,e,_⟩:=x;exact Qf e
 |dT kvs=>obtain⟨_,_,_,_,o,_,_,e,_⟩:=x;exact Qf e
 |set S n=>obtain⟨o,_,_,_,e,_⟩:=x;exact Qf e
 |ins C dx fs=>obtain⟨_,_,_,e,_⟩:=x;exact Qf e
 |own y=>obtain⟨_,e⟩:=x;exact Qf e
 |xd fs=>obtain⟨_,⟨_,_,_,e,_⟩,_⟩:=x;exact Qf e
 |rng lo hi=>obtain⟨_,_,_,e⟩:=x;exact Qf e
 |frz ob u=>obtain⟨e,_⟩:=x;exact Qf e
 |tbl ps=>exact Qf (show h.get? a=O _ from x)
 |met f y=>exact Qf (show h.get? a=O _ from x)
 |ext φ=>obtain⟨_,⟨_,e⟩,_⟩:=x;exact Qf e
theorem Paired.mapP{α β:Type}{F G:α->β->Prop}:∀{l₁:List α}{l₂:List β},Paired F l₁ l₂->(∀a b,F a b->G a b)->Paired G l₁ l₂
 |_,_,.nil,_=>.nil
 |_,_,.cons r t,f=>.cons (f _ _ r) (Paired.mapP t f)
theorem KW.stay(x:KW P w H h a o)(k:∀b u,(b=a∨H b=O (.own a))->h.get? b=O u->h'.get? b=O u)
  (ho:∀b,H b=O (.own a)->H' b=O (.own a)) (ht:∀b xs,H b=O (.tup xs)->H' b=O (.tup xs)):KW P w H' h' a o:=by
 induction o with
 |lst xs=>obtain⟨z,its,n,r,e⟩:=x;exact⟨z,its,n,r,k _ _ (.inl Ct) e⟩
 |tup xs=>obtain⟨z,its,r,ob,e,c⟩:=x;exact⟨z,its,r,ob,k _ _ (.inl Ct) e,c⟩
 |dK kvs=>obtain⟨z,y,vs,r,ob,es,ep,e,c⟩:=x;exact⟨z,y,vs,r,ob,es,ep,k _ _ (.inl Ct) e,c⟩
 |dT kvs=>obtain⟨z,y,xs,r,ob,es,ep,e,c⟩:=x;exact⟨z,y,xs,Paired.mapP r λp q z=>⟨z.1,ht _ _ z.2.1,z.2.2⟩,ob,es,ep,k _ _ (.inl Ct) e,c⟩
 |set S n=>obtain⟨ob,es,ep,t,e,c⟩:=x;exact⟨ob,es,ep,t,k _ _ (.inl Ct) e,c⟩
 |ins C dx fs=>obtain⟨d,z,ne,e,mA,⟨od,es,ep,e2,c⟩,r⟩:=x;exact⟨ho _ d,z,ne,k _ _ (.inl Ct) e,mA,⟨od,es,ep,k _ _ (.inr d) e2,c⟩,r⟩
 |own y=>obtain⟨ob,e⟩:=x;exact⟨ob,k _ _ (.inl Ct) e⟩
 |xd fs=>obtain⟨mA,⟨od,es,ep,e,c⟩,r⟩:=x;exact⟨mA,⟨od,es,ep,k _ _ (.inl Ct) e,c⟩,r⟩
 |rng lo hi=>obtain⟨t,u,v,e⟩:=x;exact⟨t,u,v,k _ _ (.inl Ct) e⟩
 |frz ob u ih=>obtain⟨e,q⟩:=x;exact⟨k _ _ (.inl Ct) e,ih q⟩
 |tbl ps=>have e:h.get? a=O {cls:=.none,data:=.fields ps}:=x;show h'.get? a=O {cls:=.none,data:=.fields ps};exact k a _ (.inl Ct) e
 |met f y=>have e:h.get? a=O (PySem.W.methodObj (.ref f) (.ref y)):=x;show h'.get? a=O (PySem.W.methodObj (.ref f) (.ref y));exact k a _ (.inl Ct) e
 |ext φ=>obtain⟨p,⟨o,e⟩,st⟩:=x;exact⟨st _ _ p λo q=>k _ _ (.inl Ct) q,⟨o,k _ _ (.inl Ct) e⟩,st⟩
theorem HOk.lt(x:HOk P w H h)(e:H a=O o):a<h.objs.size:=(x a o e).lt
theorem HOk.fresh(x:HOk P w H h)(e:h.objs.size<=a):H a=Cu:=by
 cases q:H a with
 |none=>rfl
 |some u=>exact absurd (Qy (x.lt q) e) (Jw _)
theorem HOk.kept(x:HOk P w H h)(k:∀b u,h.get? b=O u->h'.get? b=O u):HOk P w H h':=λa o e=>
 (x a o e).stay (λb u _ q=>k b u q) (λ_ q=>q) λ_ _ q=>q
theorem HOk.laid(x:HOk P w H h)(k:∀b u,h.get? b=O u->h'.get? b=O u)(hp:h.objs.size<=a)(new:KW P w (upd H a o) h' a o):HOk P w (upd H a o) h':=λb u e=>by
 have hn:=x.fresh hp;by_cases hb:b=a
 .subst hb;rw[U9]at e;cases e;exact new
 .rw[UR hb]at e
  exact(x b u e).stay (λc v _ q=>k c v q) (λc q=>by rw[UR (Zn q hn)];exact q) λc xs q=>by rw[UR (Zn q hn)];exact q
end
def Rd(H:Hp)(a:J0)(u:HO):Prop:=H a=O u ∨ ∃o,H a=O (.frz o u)
theorem Rd.ok{P:JZ}{w:World}{H:Hp}{h:Heap}{a:J0}{u:HO}(r:Rd H a u)(x:HOk P w H h):KW P w H h a u:=by
 rcases r with r|⟨o,r⟩
 .exact x a u r
 .obtain⟨_,q⟩:=x a _ r
  exact q
noncomputable def Mut:Option HO->Prop
 |some (.lst _)=>True
 |some (.dK _)=>True
 |some (.dT _)=>True
 |some (.set _ _)=>True
 |some (.ins _ _ _)=>True
 |some (.ext _)=>True
 |_=>False
section
variable{P:JZ}{w:World}{H:Hp}{h h':Heap}{x e:J0}{o':HO}
theorem HOk.write(ok:HOk P w H h)(mu:Mut (H x))(he:e=x∨H e=O (.own x))(k:∀b u,b≠e->h.get? b=O u->h'.get? b=O u)(BS:∃u,h'.get? e=O u)
  (new:KW P w (upd H x o') h' x o'):HOk P w (upd H x o') h':=λb u q=>by
 have nown:∀c y,H c=O (.own y)->c≠x:=λc y r z=>by subst z;rw[r]at mu;exact mu
 have ntup:∀c xs,H c=O (.tup xs)->c≠x:=λc xs r z=>by subst z;rw[r]at mu;exact mu
 by_cases hb:b=x
 .subst hb;rw[U9]at q;cases q;exact new
 .rw[UR hb]at q
  by_cases Bf:b=e
  .have q':H b=O (.own x):=by
    rcases he with z|z
    .exact absurd (Bf.trans z) hb
    .rw[Bf];exact z
   rw[q]at q';cases q';obtain⟨v,hv⟩:=BS;exact⟨v,by rw[Bf];exact hv⟩
  .refine(ok b u q).stay (λc v hc r=>k c v ?_ r) (λc r=>by rw[UR (nown c b r)];exact r) λc xs r=>by rw[UR (ntup c xs r)];exact r
   rcases hc with rfl|hc
   .exact Bf
   .rintro rfl
    rcases he with z|z
    .exact nown c b hc z
    .rw[hc]at z;cases z;exact hb Ct
end
structure Un(fs ex:CF)(H H':Hp)(h h':Heap):Prop where
 keep:∀b o,h.get? b=O o->H b=Cu->b∉fs->b∉ex->h'.get? b=O o
 slot:∀b o,h.get? b=O o->H b=Cu->b∈fs->b∉ex->∃sl,h'.get? b=O {o with slots:=sl}
 free:∀b o,h.get? b=O o->H b=Cu->b∉ex->H' b=Cu
 there:∀b o,h.get? b=O o->b∉ex->∃o',h'.get? b=O o'
 tups:∀b xs,H b=O (.tup xs)->H' b=O (.tup xs)
 frzs:∀b o u,H b=O (.frz o u)->H' b=O (.frz o u)
 tbls:∀b ps,H b=O (.tbl ps)->∃more,H' b=O (.tbl (ps++more))
section
variable{fs fs' ex ex':CF}{H H1 H2:Hp}{h h1 h2 h':Heap}{a x e:J0}{o:HO}
theorem Un.any(u:Un fs ex H H1 h h1){b:J0}{ob:Obj}(q:h.get? b=O ob)(n:H b=Cu)(hx:b∉ex):∃sl,h1.get? b=O {ob with slots:=sl}:=by
 by_cases hb:b∈fs
 .exact u.slot b ob q n hb hx
 .exact⟨ob.slots,u.keep b ob q n hb hx⟩
theorem Un.kept(k:∀b u,h.get? b=O u->h'.get? b=O u):Un fs ex H H h h':=
 ⟨λb ob q _ _ _=>k b ob q,λb ob q _ _ _=>⟨ob.slots,k b ob q⟩,λ_ _ _ n _=>n,λb ob q _=>⟨ob,k b ob q⟩,λ_ _ q=>q,λ_ _ _ q=>q,λ_ ps q=>⟨#[],by rw[q];simp⟩⟩
theorem Un.refl:Un fs ex H H h h:=Un.kept λ_ _ q=>q
theorem Un.laid(k:∀b u,h.get? b=O u->h'.get? b=O u)(hp:h.objs.size<=a)(hn:H a=Cu):Un fs ex H (upd H a o) h h' where
 keep:=λb u q _ _ _=>k b u q
 slot:=λb u q _ _ _=>⟨u.slots,k b u q⟩
 free:=λb u q n _=>by rw[UR (QP (Qy (Qf q) hp))];exact n
 there:=λb u q _=>⟨u,k b u q⟩
 tups:=λb xs q=>by rw[UR (Zn q hn)];exact q
 frzs:=λb u xs q=>by rw[UR (Zn q hn)];exact q
 tbls:=λb ps q=>⟨#[],by rw[UR (Zn q hn),q];simp⟩
theorem Un.write(mu:Mut (H x))(he:e=x∨H e=O (.own x))(k:∀b u,b≠e->h.get? b=O u->h'.get? b=O u)(BS:∃u,h'.get? e=O u):Un fs ex H (upd H x o) h h':=by
 have hx:∀b,H b=Cu->b≠x:=λb n z=>by subst z;rw[n]at mu;exact mu
 have hb:∀b,H b=Cu->b≠e:=λb n z=>by
  subst z;rcases he with r|r
  .exact hx b n r
  .rw[n]at r;cases r
 have hm:∀b u,H b=O u->¬Mut (O u)->b≠x:=λb u q nm z=>by subst z;rw[q]at mu;exact nm mu
 refine⟨λb u q n _ _=>k b u (hb b n) q,λb u q n _ _=>⟨u.slots,k b u (hb b n) q⟩,λb u q n _=>by rw[UR (hx b n)];exact n,λb u q _=>?_,
  λb xs q=>by rw[UR (hm b _ q λz=>z)];exact q,λb u xs q=>by rw[UR (hm b _ q λz=>z)];exact q,λb ps q=>⟨#[],by rw[UR (hm b _ q λz=>z),q];simp⟩⟩
 by_cases Bf:b=e
 .subst Bf;exact BS
 .exact⟨u,k b u Bf q⟩
end
noncomputable def trk(h:Heap)(H:Hp):CF:=(Ua h.objs.size).filter λa=>(H a).isSome
noncomputable def Zk(h:Heap)(H:Hp):Heap:=PySem.W.hideAll h (trk h H)
theorem DD(h:Heap)(H:Hp):(Zk h H).objs.size=h.objs.size:=PySem.W.hideAll_size _ _
theorem EF{h:Heap}{H:Hp}{b:J0}{o:Obj}(e:h.get? b=O o)(n:H b=Cu):(Zk h H).get? b=O o:=
 PySem.W.hideAll_get _ e λhm=>by have q:(H b).isSome=Cv:=(List.mem_filter.mp hm).2;rw[n]at q;simp at q
theorem GE{h:Heap}{H:Hp}{b:J0}{o:Obj}(e:(Zk h H).get? b=O o):h.get? b=O o/\H b=Cu:=by
 have e':h.get? b=O o:=PySem.W.of_hideAll (trk h H) e;refine⟨e',?_⟩;cases q:H b with
 |none=>rfl
 |some x=>have hm:b∈trk h H:=List.mem_filter.mpr ⟨List.mem_range.mpr (Heap.lt_size e'),by simp[q]⟩;have z:(Zk h H).get? b=Cu:=PySem.W.hideAll_none (trk h H) hm;rw[z]at e;cases e
structure Mod(K:Frag)(mg:Str->CB)(base:Heap):Prop where
 kin:K.In base
 glob:base.Ns mainGlobals mg
 blt:∃mb,base.Ns builtinsNs mb/\∀x:Str,x ≠ "__name__" -> mb x=bootBuiltins x
 nolimit:base.NoLimit
structure Cx where
 prog:JZ
 w:World
 K:Frag
 mg:Str->CB
 base:Heap
 A:Around
 N:List Str
 s₀:JY
 H₀:Hp
 env:Env
 outer:List Env
 stack:List Env
 ex:CF
 fn:Str->Bool
 calm:Bool
 pn:List (J0×Obj)
 xe:JX->JY->Prop
noncomputable def frs(l:List Env):CF:=l.filterMap (·.frame)
noncomputable abbrev Cx.fs(X:Cx):CF:=frs X.outer
def Vis(sc:Scope)(x:Str):Prop:=sc.names.lookup x=O .local∨sc.names.lookup x=O .cell∨sc.names.lookup x=O .free
def Loc(sc:Scope)(x:Str):Prop:=sc.names.lookup x=O .local∨sc.names.lookup x=O .cell
def Look(env:Env)(h:Heap)(m:Str->CB)(x:Str)(u:JX):Prop:=
 (env.kindOf x=O .local/\m x=O u)∨((env.kindOf x=O .cell∨env.kindOf x=O .free)/\∃c,env.cells.lookup x=O c/\h.IsCell c (O u))
structure Cx.Ok(X:Cx):Prop where
 mod:Mod X.K X.mg X.base
 kind:X.env.scope.kind=.function
 glob:X.env.globals=mainGlobals
 blt:X.env.builtins=builtinsNs
 above:X.s₀.heap.objs.size<=X.env.locals
 inj:∀x y c,X.env.cells.lookup x=O c->X.env.cells.lookup y=O c->x=y
 has:∀x,(X.env.kindOf x=O .cell∨X.env.kindOf x=O .free)->∃c,X.env.cells.lookup x=O c
 cab:∀x c,X.fn x=Cv->X.env.cells.lookup x=O c->X.s₀.heap.objs.size<=c
 hd:X.calm=Cv->X.A.handled=Cu
 frames:X.A.frames=O X.stack
 stk:X.stack=X.outer∨(X.stack=X.env::X.outer/\X.env.frame=O X.env.locals)
 exf:∀b∈X.ex,b≠X.env.locals/\∀x c,X.env.cells.lookup x=O c->c≠b
 bs:∀b o,X.base.get? b=O o->X.s₀.heap.get? b=O o/\X.H₀ b=Cu
 bsz:X.base.objs.size<=X.s₀.heap.objs.size
 noex:∀b o,X.base.get? b=O o->b∉X.ex
 exfs:∀b∈X.ex,b∉X.fs
 funs:X.s₀.heap.FunFrames X.base X.outer
 frf:∀b∈X.fs,X.H₀ b=Cu
structure Inv(X:Cx)(pins:List (J0×Obj))(σ:List (Option V))(H:Hp)(s:JY):Prop where
 ok:X.Ok
 os:s.os=X.s₀.os
 bare:AllBare s.gens
 base:Un X.fs X.ex X.H₀ H X.s₀.heap s.heap
 loc:∃m,s.heap.Ns X.env.locals m/\∀(i:Nat)(x:Str)(v:V),X.N[i]?=O x->σ[i]?=O (O v)->Vis X.env.scope x->∃u,RelV v u/\Look X.env s.heap m x u
 cell:∀x c,X.env.cells.lookup x=O c->∃v,s.heap.IsCell c v
 free:H X.env.locals=Cu
 freeC:∀x c,X.env.cells.lookup x=O c->H c=Cu
 pin:∀p∈X.pn++pins,s.heap.get? p.1=O p.2/\H p.1=Cu/\p.1≠X.env.locals/\p.1∉X.fs/\∀v,p.2.data≠.cell v
 hok:HOk X.prog X.w H s.heap
 len:σ.length=X.N.length
section
variable{X:Cx}{pins:List (J0×Obj)}{σ:List (Option V)}{H H':Hp}{s:JY}{h':Heap}
theorem Cx.Ok.nofr(ok:X.Ok){b:J0}{o:Obj}(e:X.base.get? b=O o):b∉X.fs:=λhb=>by have:=(ok.funs.mem hb).1;rw[e]at this;cases this
theorem Inv.bs(I:Inv X pins σ H s):∀b o,X.base.get? b=O o->s.heap.get? b=O o/\H b=Cu:=λb o e=>
 ⟨I.base.keep b o (I.ok.bs b o e).1 (I.ok.bs b o e).2 (I.ok.nofr e) (I.ok.noex b o e),I.base.free b o (I.ok.bs b o e).1 (I.ok.bs b o e).2 (I.ok.noex b o e)⟩
theorem Inv.bk(I:Inv X pins σ H s):∀b o,X.base.get? b=O o->s.heap.get? b=O o:=λb o e=>(I.bs b o e).1
theorem Inv.mod(I:Inv X pins σ H s):Mod X.K X.mg X.base:=I.ok.mod
theorem Inv.kIn(I:Inv X pins σ H s):X.K.In s.heap:=I.ok.mod.kin.keeps I.bk
theorem Inv.fr(I:Inv X pins σ H s):∃m,Fr X.base X.env.locals s.heap m:=
 let ⟨m,hn,_⟩:=I.loc
 ⟨m,hn,I.bk,Qn I.ok.bsz I.ok.above⟩
theorem Inv.lt(I:Inv X pins σ H s):X.env.locals<s.heap.objs.size:=let ⟨_,hn,_⟩:=I.loc;hn.lt
theorem Inv.sz(I:Inv X pins σ H s):X.s₀.heap.objs.size<=s.heap.objs.size:=Qn I.ok.above (Nat.le_of_lt I.lt)
theorem Inv.nofs(I:Inv X pins σ H s){a:J0}(h:s.heap.objs.size<=a):a∉X.fs:=λhb=>by obtain⟨_,o,ho,_⟩:=I.ok.funs.mem hb;exact absurd (Qy (Qf ho) (Qn I.sz h)) (Jw _)
theorem Inv.cne(I:Inv X pins σ H s):∀x c,X.env.cells.lookup x=O c->c≠X.env.locals:=λx c e z=>by obtain⟨v,o,ho,hd⟩:=I.cell x c e;obtain⟨m,⟨o',es,ep,ho',hd',_⟩,_⟩:=I.loc;rw[z,ho']at ho;cases ho;rw[hd']at hd;cases hd
theorem Inv.funs(I:Inv X pins σ H s):s.heap.FunFrames X.base X.outer:=by
 have all:∀(l:List Env),(∀b∈frs l,b∈X.fs)->X.s₀.heap.FunFrames X.base l->s.heap.FunFrames X.base l:=by
  intro l;induction l with
  |nil=>intro _ _;trivial
  |cons env r ih=>
   intro hs hl;obtain⟨hk,⟨L,o,hf,hn,ho,hd⟩,hr⟩:=hl;have hL:L∈X.fs:=hs L (by unfold frs;rw[List.filterMap_cons,hf];exact Qj);obtain⟨sl,e⟩:=I.base.slot L o ho (I.ok.frf L hL) hL λz=>I.ok.exfs L z hL
   exact⟨hk,⟨L,_,hf,hn,e,hd⟩,ih (λb hb=>hs b (by unfold frs;rw[List.filterMap_cons,hf];exact Ql _ hb)) hr⟩
 exact all X.outer (λ_ hb=>hb) I.ok.funs
theorem Inv.stack(I:Inv X pins σ H s):s.heap.FunFrames X.base X.stack:=by
 rcases I.ok.stk with e|⟨e,hf⟩
 .rw[e];exact I.funs
 .rw[e]
  obtain⟨m,hn,_⟩:=I.loc;refine .cons (by rw[I.ok.kind];decide) hf hn ?_ I.funs;exact Heap.get?_none_of_le (Qn I.ok.bsz I.ok.above)
theorem Inv.stkSub(I:Inv X pins σ H s):∀b∈frs X.stack,b∈X.env.locals::X.fs:=λb hb=>by
 rcases I.ok.stk with e|⟨e,hf⟩
 .rw[e]at hb;exact Ql _ hb
 .rw[e]at hb
  unfold frs at hb;rw[List.filterMap_cons,hf]at hb;exact hb
theorem Inv.stkFree(I:Inv X pins σ H s):∀b∈frs X.stack,H b=Cu:=λb hb=>by
 rcases QC.mp (I.stkSub b hb)with e|hb
 .rw[e];exact I.free
 .obtain⟨_,o,ho,_⟩:=I.ok.funs.mem hb
  exact I.base.free b o ho (I.ok.frf b hb) λz=>I.ok.exfs b z hb
theorem Inv.step{g':Array GenState}{t':Nat}{d':Drawn}{ch:CF}(I:Inv X pins σ H s)
  (hch:∀b∈ch,(b∈X.ex∨X.s₀.heap.objs.size<=b)/\b≠X.env.locals/\(∀x c,X.env.cells.lookup x=O c->c≠b)/\∀p∈X.pn++pins,p.1≠b)
  (keep:∀b o,b≠X.env.locals->b∉X.fs->b∉ch->s.heap.get? b=O o->H b=Cu->h'.get? b=O o)
  (slot:∀b o,b≠X.env.locals->b∈X.fs->b∉ch->s.heap.get? b=O o->H b=Cu->∃sl,h'.get? b=O {o with slots:=sl}) (free:∀b o,b∉ch->s.heap.get? b=O o->H b=Cu->H' b=Cu)
  (there:∀b o,b∉ch->s.heap.get? b=O o->∃o',h'.get? b=O o')
  (tups:∀b xs,H b=O (.tup xs)->H' b=O (.tup xs)) (frzs:∀b o u,H b=O (.frz o u)->H' b=O (.frz o u)) (tbls:∀b ps,H b=O (.tbl ps)->∃more,H' b=O (.tbl (ps++more)))
  (ns:∀m,s.heap.Ns X.env.locals m->h'.Ns X.env.locals m) (hok:HOk X.prog X.w H' h') (hg:AllBare g') :
  Inv X pins σ H' {s with heap:=h',gens:=g',drawn:=d',toks:=t'}:=by
 have neL:∀b o,X.s₀.heap.get? b=O o->b≠X.env.locals:=λb o e=>QP (Qy (Qf e) I.ok.above)
 have neC:∀b o,X.s₀.heap.get? b=O o->b∉X.ex->b∉ch:=λb o e hx hb=>by
  rcases(hch b hb).1 with z|z
  .exact hx z
  .exact absurd (Qy (Qf e) z) (Jw _)
 have cellK:∀x c,X.env.cells.lookup x=O c->∀v,s.heap.IsCell c v->h'.IsCell c v:=λx c e v ⟨o,ho,hd⟩=>by
  have nch:c∉ch:=λz=>(hch c z).2.2.1 x c e Ct
  by_cases hc:c∈X.fs
  .obtain⟨sl,q⟩:=slot c o (I.cne x c e) hc nch ho (I.freeC x c e)
   exact⟨_,q,hd⟩
  .exact⟨o,keep c o (I.cne x c e) hc nch ho (I.freeC x c e),hd⟩
 refine⟨I.ok,I.os,hg,⟨λb o e n hb hx=>?_,λb o e n hb hx=>?_,λb o e n hx=>?_,λb o e hx=>?_,λb xs e=>tups b xs (I.base.tups b xs e),λb o xs e=>frzs b o xs (I.base.frzs b o xs e),λb ps e=>?_⟩,?_,λx c e=>?_,?_,λx c e=>?_,λp hp=>?_,hok,I.len⟩
 .exact keep b o (neL b o e) hb (neC b o e hx) (I.base.keep b o e n hb hx) (I.base.free b o e n hx)
 .obtain⟨sl,e1⟩:=I.base.slot b o e n hb hx
  obtain⟨sl',e2⟩:=slot b _ (neL b o e) hb (neC b o e hx) e1 (I.base.free b o e n hx);exact⟨sl',e2⟩
 .obtain⟨o',e1⟩:=I.base.there b o e hx
  exact free b o' (neC b o e hx) e1 (I.base.free b o e n hx)
 .obtain⟨o',e1⟩:=I.base.there b o e hx
  exact there b o' (neC b o e hx) e1
 .obtain⟨m1,e1⟩:=I.base.tbls b ps e
  obtain⟨m2,e2⟩:=tbls b _ e1;exact⟨m1++m2,by rw[e2,Array.append_assoc]⟩
 .obtain⟨m,hn,hl⟩:=I.loc
  refine⟨m,ns m hn,λi x v e1 e2 e3=>?_⟩;obtain⟨u,r,l⟩:=hl i x v e1 e2 e3;refine⟨u,r,?_⟩;rcases l with l|⟨k,c,e,z⟩
  .exact .inl l
  .exact .inr ⟨k,c,e,cellK x c e _ z⟩
 .obtain⟨v,z⟩:=I.cell x c e
  exact⟨v,cellK x c e v z⟩
 .obtain⟨m,⟨o,_,_,ho,_⟩,_⟩:=I.loc
  exact free _ o (λz=>(hch _ z).2.1 Ct) ho I.free
 .obtain⟨v,o,ho,hd⟩:=I.cell x c e
  exact free c o (λz=>(hch c z).2.2.1 x c e Ct) ho (I.freeC x c e)
 .obtain⟨e,n,ne,nf,d⟩:=I.pin p hp
  have nch:p.1∉ch:=λz=>(hch p.1 z).2.2.2 p hp Ct
  exact⟨keep p.1 p.2 ne nf nch e n,free p.1 p.2 nch e n,ne,nf,d⟩
theorem Inv.un{t':Nat}(I:Inv X pins σ H s)(u:Un X.fs [] H H' s.heap h')(hok:HOk X.prog X.w H' h'):Inv X pins σ H' {s with heap:=h',toks:=t'}:=by obtain⟨m,⟨o,es,ep,ho,r⟩,_⟩:=id I.loc;obtain⟨sl,hL⟩:=u.any ho I.free (by simp);exact I.step (g':=s.gens) (d':=s.drawn) (ch:=[]) (λ_ z=>nomatch z) (λb o _ hb _ e n=>u.keep b o e n hb (by simp)) (λb o _ hb _ e n=>u.slot b o e n hb (by simp)) (λb o _ e n=>u.free b o e n (by simp)) (λb o _ e=>u.there b o e (by simp)) u.tups u.frzs u.tbls (λm' hm=>by obtain⟨o',es',ep',ho',r'⟩:=hm;rw[ho]at ho';cases ho';exact⟨_,es',ep',hL,r'⟩) hok I.bare
theorem Inv.call{g':Array GenState}{t':Nat}{d':Drawn}{ch:CF}(I:Inv X pins σ H s)(u:Un (frs X.stack) ch H H' s.heap h')(hok:HOk X.prog X.w H' h')(hg:AllBare g')
  (hch:∀b∈ch,(b∈X.ex∨X.s₀.heap.objs.size<=b)/\b≠X.env.locals/\(∀x c,X.env.cells.lookup x=O c->c≠b)/\∀p∈X.pn++pins,p.1≠b) :
  Inv X pins σ H' {s with heap:=h',gens:=g',drawn:=d',toks:=t'}:=by
 obtain⟨m,⟨o,es,ep,ho,r⟩,_⟩:=id I.loc;obtain⟨sl,hL⟩:=u.any ho I.free λz=>(hch _ z).2.1 Ct
 exact I.step (ch:=ch) hch (λb o hL hb hc e n=>u.keep b o e n (λz=>(QC.mp (I.stkSub b z)).elim hL hb) hc) (λb o _ _ hc e n=>u.any e n hc) (λb o hc e n=>u.free b o e n hc) (λb o hc e=>u.there b o e hc) u.tups u.frzs u.tbls (λm' hm=>by obtain⟨o',es',ep',ho',r'⟩:=hm;rw[ho]at ho';cases ho';exact⟨_,es',ep',hL,r'⟩) hok hg
theorem Inv.turned{t':Nat}{it:J0}(I:Inv X pins σ H s)(k:∀b o,b≠it->s.heap.get? b=O o->h'.get? b=O o)(hn:H it=Cu)(hL:it≠X.env.locals)
  (h1:it∈X.ex∨X.s₀.heap.objs.size<=it) (h2:∀x c,X.env.cells.lookup x=O c->c≠it) (h3:∀p∈X.pn++pins,p.1≠it):Inv X pins σ H {s with heap:=h',toks:=t'}:=by
 have nit:∀b u,H b=O u->b≠it:=λb u e z=>by rw[z,hn]at e;cases e
 refine I.step (g':=s.gens) (d':=s.drawn) (ch:=[it]) (λb hb=>?_) (λb o _ _ hc e _=>k b o (λz=>hc (by simp[z])) e) (λb o _ _ hc e _=>⟨o.slots,k b o (λz=>hc (by simp[z])) e⟩) (λ_ _ _ _ n=>n)
  (λb o hc e=>⟨o,k b o (λz=>hc (by simp[z])) e⟩) (λ_ _ e=>e) (λ_ _ _ e=>e) (λb ps e=>⟨#[],by rw[e];simp⟩) (λm hm=>?_) (λb u e=>?_) I.bare
 .have e:b=it:=by simpa using hb
  subst e;exact⟨h1,hL,h2,h3⟩
 .obtain⟨o,es,ep,ho,r⟩:=hm
  exact⟨o,es,ep,k _ o (Ne.symm hL) ho,r⟩
 .refine(I.hok b u e).stay (λc v hc q=>k c v ?_ q) (λ_ q=>q) λ_ _ q=>q
  rcases hc with z|z
  .rw[z];exact nit b u e
  .exact nit c _ z
theorem Inv.tok(I:Inv X pins σ H s)(t:Nat):Inv X pins σ H {s with toks:=t}:=I.un (h':=s.heap) (t':=t) Un.refl I.hok
theorem Inv.kept{t':Nat}(I:Inv X pins σ H s)(k:∀b u,s.heap.get? b=O u->h'.get? b=O u):Inv X pins σ H {s with heap:=h',toks:=t'}:=I.un (Un.kept k) (I.hok.kept k)
theorem Inv.laid{a:J0}{o:HO}{t':Nat}(I:Inv X pins σ H s)(k:∀b u,s.heap.get? b=O u->h'.get? b=O u)(hp:s.heap.objs.size<=a)(new:KW X.prog X.w (upd H a o) h' a o) :
  Inv X pins σ (upd H a o) {s with heap:=h',toks:=t'}:=I.un (Un.laid k hp (I.hok.fresh hp)) (I.hok.laid k hp new)
theorem Inv.write{x e:J0}{o:HO}{t':Nat}(I:Inv X pins σ H s)(mu:Mut (H x))(he:e=x∨H e=O (.own x))(k:∀b u,b≠e->s.heap.get? b=O u->h'.get? b=O u)(BS:∃u,h'.get? e=O u)
  (new:KW X.prog X.w (upd H x o) h' x o):Inv X pins σ (upd H x o) {s with heap:=h',toks:=t'}:=I.un (Un.write mu he k BS) (I.hok.write mu he k BS new)
theorem Inv.pins_of{pins':List (J0×Obj)}(I:Inv X pins σ H s)(h:∀p∈pins',s.heap.get? p.1=O p.2/\H p.1=Cu/\p.1≠X.env.locals/\p.1∉X.fs/\∀v,p.2.data≠.cell v):Inv X pins' σ H s:=
 ⟨I.ok,I.os,I.bare,I.base,I.loc,I.cell,I.free,I.freeC,λp hp=>(QW.mp hp).elim (λz=>I.pin p (QT _ z)) (h p),I.hok,I.len⟩
theorem P8{N:List Str}(hN:N.Nodup){i j:Nat}{x:Str}(a:N[i]?=O x)(b:N[j]?=O x):i=j:=by obtain⟨h1,e1⟩:=Qm.mp a;obtain⟨h2,e2⟩:=Qm.mp b;exact(List.getElem_inj hN).mp (e1.trans e2.symm)
theorem O8{M:Model}{A:Around}{E:JX->JY->Prop}{i:Nat}{x:Str}{v:V}{u:JX}{Q:Unit->JY->Prop}(I:Inv X pins σ H s)(hN:X.N.Nodup)(hi:X.N[i]?=O x)(hx:Loc X.env.scope x)(r:RelV v u)
  (h:∀s',Inv X pins (σ.set i (O v)) H s'->(∃a,Heap.SameBut a s.heap s'.heap/\(a=X.env.locals∨X.env.cells.lookup x=O a))->Q () s') (hf:X.fn x=Cv∨X.env.scope.names.lookup x=O .local:=by first|exact .inl rfl|exact .inr rfl|assumption):J7 M A (storeName X.env x u) Q E s:=by
 obtain⟨m,hn,hl⟩:=id I.loc;have hcls:(X.env.scope.kind==.class || (X.env.scope.kind==.module&&X.env.locals != X.env.globals))=Cw:=by rw[I.ok.kind];rfl
 have hiσ:i<σ.length:=by rw[I.len];exact(Qm.mp hi).1
 have cne:=I.cne
 have tracked:∀{a:J0}{h':Heap},(∃o,s.heap.get? a=O o/\H a=Cu)->Heap.SameBut a s.heap h'->HOk X.prog X.w H h':=λ{a h'} ha hs b ob e=>by
  obtain⟨_,_,hfree⟩:=ha;refine(I.hok b ob e).stay (λc w' hc q=>(hs.2 c ?_).trans q) (λ_ q=>q) λ_ _ q=>q
  rintro rfl;rcases hc with rfl|hc
  .rw[hfree]at e;cases e
  .rw[hfree]at hc;cases hc
 rcases hx with hk|hk
 .refine wpAny_storeName_local hk hn (λh' hn' hs=>?_) hcls
  obtain⟨oL,_,_,hoL,_⟩:=id hn;refine h _ ⟨I.ok,I.os,I.bare,⟨λb o e n hb hx=>?_,λb o e n hb hx=>?_,I.base.free,λb o e hx=>?_,I.base.tups,I.base.frzs,I.base.tbls⟩,⟨_,hn',λj y v' e1 e2 e3=>?_⟩,λy c e=>?_,I.free,I.freeC,λp hp=>?_,tracked ⟨oL,hoL,I.free⟩ hs,by simpa using I.len⟩ ⟨_,hs,.inl Ct⟩
  .exact(hs.2 b (QP (Qy (Qf e) I.ok.above))).trans (I.base.keep b o e n hb hx)
  .obtain⟨sl,e1⟩:=I.base.slot b o e n hb hx
   exact⟨sl,(hs.2 b (QP (Qy (Qf e) I.ok.above))).trans e1⟩
  .obtain⟨o',e1⟩:=I.base.there b o e hx
   exact⟨o',(hs.2 b (QP (Qy (Qf e) I.ok.above))).trans e1⟩
  .by_cases hj:j=i
   .subst hj
    rw[hi]at e1;cases e1;rw[Qz hiσ]at e2;cases e2;exact⟨u,r,.inl ⟨hk,by simp⟩⟩
   .rw[Qe (Ne.symm hj)]at e2
    obtain⟨u',r',q⟩:=hl j y v' e1 e2 e3;refine⟨u',r',?_⟩;rcases q with ⟨k,e⟩|⟨k,c,e,z⟩
    .refine .inl ⟨k,?_⟩
     have:y≠x:=λe=>hj (P8 hN e1 (e ▸ hi))
     simp[this,e]
    .exact .inr ⟨k,c,e,z.sameBut hs (cne y c e)⟩
  .obtain⟨w',z⟩:=I.cell y c e
   exact⟨w',z.sameBut hs (cne y c e)⟩
  .obtain⟨e,n,ne,nf,d⟩:=I.pin p hp
   exact⟨(hs.2 p.1 ne).trans e,n,ne,nf,d⟩
 .have hfn:X.fn x=Cv:=by
   rcases hf with z|z
   .exact z
   .rw[z]at hk;cases hk
  obtain⟨c,hc⟩:=I.ok.has x (.inl hk);obtain⟨w',z⟩:=I.cell x c hc;refine wpAny_storeName_cell I.ok.kind hk hc z (λh' hc' hs=>?_);obtain⟨oc,hoc,hocd⟩:=id z;refine h {s with heap:=h'} ⟨I.ok,I.os,I.bare,⟨λb o e n hb hx=>?_,λb o e n hb hx=>?_,I.base.free,λb o e hx=>?_,I.base.tups,I.base.frzs,I.base.tbls⟩,⟨m,hn.sameBut hs (Ne.symm (cne x c hc)),λj y v' e1 e2 e3=>?_⟩,λy c' e=>?_,I.free,I.freeC,λp hp=>?_,tracked ⟨oc,hoc,I.freeC x c hc⟩ hs,by simpa using I.len⟩ ⟨c,hs,.inr hc⟩
  .exact(hs.2 b (QP (Qy (Qf e) (I.ok.cab x c hfn hc)))).trans (I.base.keep b o e n hb hx)
  .obtain⟨sl,e1⟩:=I.base.slot b o e n hb hx
   exact⟨sl,(hs.2 b (QP (Qy (Qf e) (I.ok.cab x c hfn hc)))).trans e1⟩
  .obtain⟨o',e1⟩:=I.base.there b o e hx
   exact⟨o',(hs.2 b (QP (Qy (Qf e) (I.ok.cab x c hfn hc)))).trans e1⟩
  .by_cases hj:j=i
   .subst hj
    rw[hi]at e1;cases e1;rw[Qz hiσ]at e2;cases e2;exact⟨u,r,.inr ⟨.inl hk,c,hc,hc'⟩⟩
   .rw[Qe (Ne.symm hj)]at e2
    obtain⟨u',r',q⟩:=hl j y v' e1 e2 e3;refine⟨u',r',?_⟩;rcases q with q|⟨k,c',e,z'⟩
    .exact .inl q
    .refine .inr ⟨k,c',e,z'.sameBut hs ?_⟩
     rintro rfl;exact hj (P8 hN e1 (I.ok.inj _ _ _ e hc ▸ hi))
  .by_cases hcc:c'=c
   .subst hcc;exact⟨_,hc'⟩
   .obtain⟨w2,z2⟩:=I.cell y c' e
    exact⟨w2,z2.sameBut hs hcc⟩
  .obtain⟨e,n,ne,nf,d⟩:=I.pin p hp
   refine⟨(hs.2 p.1 ?_).trans e,n,ne,nf,d⟩;intro q;rw[q,hoc]at e;have q':oc=p.2:=Q0 e;exact d w' (by rw[←q'];exact hocd)
theorem TH{M:Model}{A:Around}{E:JX->JY->Prop}{i:Nat}{x:Str}{v:V}{u:JX}{Q:Unit->JY->Prop}(I:Inv X pins σ H s)(hN:X.N.Nodup)(hi:X.N[i]?=O x)(hx:Loc X.env.scope x)(r:RelV v u)
  (h:∀s',Inv X pins (σ.set i (O v)) H s'->Q () s') (hf:X.fn x=Cv∨X.env.scope.names.lookup x=O .local:=by first|exact .inl rfl|exact .inr rfl|assumption):J7 M A (storeName X.env x u) Q E s:=
 O8 I hN hi hx r (λs' I' _=>h s' I') hf
theorem Inv.call'{s':JY}{ch:CF}(I:Inv X pins σ H s)(ho:s'.os=s.os)(u:Un (frs X.stack) ch H H' s.heap s'.heap)(hok:HOk X.prog X.w H' s'.heap)(hg:AllBare s'.gens)
  (hch:∀b∈ch,(b∈X.ex∨X.s₀.heap.objs.size<=b)/\b≠X.env.locals/\(∀x c,X.env.cells.lookup x=O c->c≠b)/\∀p∈X.pn++pins,p.1≠b):Inv X pins σ H' s':=by
 obtain⟨h',g',d',t',o'⟩:=s';have e:o'=s.os:=ho;subst e;exact I.call (g':=g') (t':=t') (d':=d') u hok hg hch
end
abbrev XK:=JX->CJ->Hp->Prop
abbrev St:=List (Option V)
abbrev VK:=V->Hp->Prop
abbrev TE:=St->Hp->VK->Prop
abbrev TT:=St->Hp->(Bool->Hp->Prop)->Prop
abbrev TA:=St->Hp->(List V->Hp->Prop)->Prop
structure Ends where
 nx:St->Hp->Prop
 rt:VK
 bk:St->Hp->Prop:=λ_ _=>False
 ct:St->Hp->Prop:=λ_ _=>False
abbrev TS:=Ends->St->Hp->Prop
def EP(X:Cx)(pins:List (J0×Obj))(σ:St)(Q:VK)(u:JX)(s':JY):Prop:=∃v H',Inv X pins σ H' s'/\RelV v u/\Q v H'
def TP(X:Cx)(pins:List (J0×Obj))(σ:St)(Q:Bool->Hp->Prop)(b:Bool)(s':JY):Prop:=∃H',Inv X pins σ H' s'/\Q b H'
def AP(X:Cx)(pins:List (J0×Obj))(σ:St)(Q:List V->Hp->Prop)(us:Cz)(s':JY):Prop:=∃vs H',Inv X pins σ H' s'/\Vals vs us/\Q vs H'
def SP(X:Cx)(pins:List (J0×Obj))(D:Ends)(f:Flow)(s':JY):Prop:=
 match f with
 |.next=>∃σ' H',Inv X pins σ' H' s'/\D.nx σ' H'
 |.brk=>∃σ' H',Inv X pins σ' H' s'/\D.bk σ' H'
 |.cont=>∃σ' H',Inv X pins σ' H' s'/\D.ct σ' H'
 |.ret u=>∃v σ' H',Inv X pins σ' H' s'/\RelV v u/\D.rt v H'
def PE(X:Cx)(e:J5)(t:TE):Prop:=
 ∀(pins:List (J0×Obj))(s:JY)(σ:St)(H:Hp)(Q:VK),Inv X pins σ H s->t σ H Q->J7 (model X.prog X.w) X.A (eval e X.env) (EP X pins σ Q) X.xe s
def PT(X:Cx)(e:J5)(t:TT):Prop:=
 ∀(pins:List (J0×Obj))(s:JY)(σ:St)(H:Hp)(Q:Bool->Hp->Prop),Inv X pins σ H s->t σ H Q->J7 (model X.prog X.w) X.A (isTrue e X.env (eval e X.env)) (TP X pins σ Q) X.xe s
def PW(X:Cx)(e:J5)(t:TT):Prop:=
 ∀(whole:Sem JX)(pins:List (J0×Obj))(s:JY)(σ:St)(H:Hp)(Q:Bool->Hp->Prop),Inv X pins σ H s->t σ H Q->J7 (model X.prog X.w) X.A (isTrue e X.env whole) (TP X pins σ Q) X.xe s
theorem PW.pt{X:Cx}{e:J5}{t:TT}(h:PW X e t):PT X e t:=h _
def PA(X:Cx)(es:CC)(t:TA):Prop:=
 ∀(pos:Pos)(pins:List (J0×Obj))(s:JY)(σ:St)(H:Hp)(Q:List V->Hp->Prop),Inv X pins σ H s->t σ H Q->J7 (model X.prog X.w) X.A (spliced (backTo pos (J8 es X.env))) (AP X pins σ Q) X.xe s
def PS(X:Cx)(st:Stmt)(t:TS):Prop:=
 ∀(pins:List (J0×Obj))(s:JY)(σ:St)(H:Hp)(D:Ends),Inv X pins σ H s->t D σ H->J7 (model X.prog X.w) X.A (exec st X.env) (SP X pins D) X.xe s
def PSs(X:Cx)(st:List Stmt)(t:TS):Prop:=
 ∀(pins:List (J0×Obj))(s:JY)(σ:St)(H:Hp)(D:Ends),Inv X pins σ H s->t D σ H->J7 (model X.prog X.w) X.A (execs st X.env) (SP X pins D) X.xe s
theorem thn{α:Type}{t:Sem α}{Q Q':α->JY->Prop}{M:Model}{A:Around}{E:JX->JY->Prop}{s:JY}(h:J7 M A t Q E s)(hQ:∀a s,Q a s->Q' a s):J7 M A t Q' E s:=QU h hQ λ_ _ x=>x
section
variable{X:Cx}
noncomputable def U1(i:Nat):TE:=λσ H Q=>∃v,σ[i]?=O (O v)/\Q v H
noncomputable def tC(v:V):TE:=λ_ H Q=>Q v H
theorem Pg{i:Nat}{x:Str}{pos:Pos}(hN:X.N[i]?=O x)(hv:Vis X.env.scope x)(hd:(x==("__debug__" : Str))=Cw:=by decide)(hcd:(x==("__classdict__" : Str))=Cw:=by decide):PE X (.Name x pos) (U1 i):=by
 intro pins s σ H Q I h;obtain⟨v,e,h⟩:=h;obtain⟨m,hn,hl⟩:=I.loc;obtain⟨u,r,l⟩:=hl i x v hN e hv;have fin:EP X pins σ Q u s:=⟨v,H,I,r,h⟩;rcases l with ⟨hk,hm⟩|⟨hk,c,hc,hcell⟩
 .exact wpAny_Name (wpAny_loadName_local I.ok.kind hk hn hm fin) hd
 .rcases hk with hk|hk
  .exact wpAny_Name (wpAny_loadName_cell I.ok.kind hk hc hcell fin) hd
  .exact wpAny_Name (wpAny_loadName_free I.ok.kind hk hc hcell fin hcd) hd
theorem Sk{i j pos}:PE X (.Constant (.int i) j pos) (tC (.int i)):=λ_ _ _ H _ I h=>wpAny_Constant_int ⟨.int i,H,I.tok _,⟨_,rfl⟩,h⟩
theorem Lo{b j pos}:PE X (.Constant (.bool b) j pos) (tC (.bl b)):=λ_ _ _ H _ I h=>Constant_bool ⟨.bl b,H,I,rfl,h⟩
theorem LF{j pos}:PE X (.Constant .none j pos) (tC .non):=λ_ _ _ H _ I h=>Constant_none ⟨.non,H,I,rfl,h⟩
theorem Pf{x j pos}:PE X (.Constant (.str x) j pos) (tC (.str x)):=λ_ _ _ H _ I h=>Calls.Constant_str ⟨.str x,H,I.tok _,⟨_,rfl⟩,h⟩
def Gl(X:Cx)(x:Str):Prop:=X.env.kindOf x=O .globalImplicit
theorem XQ{E:JX->JY->Prop}{pins:List (J0×Obj)}{s:JY}{σ:St}{H:Hp}{x:Str}{u:JX}{pos:Pos}{Q:JX->JY->Prop}(I:Inv X pins σ H s)(hg:Gl X x)(hm:X.mg x=O u)(h:Q u s)
  (hd:(x==("__debug__" : Str))=Cw:=by decide):J7 (model X.prog X.w) X.A (eval (.Name x pos) X.env) Q E s:=
 Calls.Name_function_global I.ok.kind hg (Calls.loadGlobal_global (by rw[I.ok.glob];exact I.mod.glob.keeps I.bk) hm h) hd
theorem Xy{E:JX->JY->Prop}{pins:List (J0×Obj)}{s:JY}{σ:St}{H:Hp}{x:Str}{u:JX}{pos:Pos}{Q:JX->JY->Prop}(I:Inv X pins σ H s)(hg:Gl X x)(hm:X.mg x=Cu)(hv:bootBuiltins x=O u)(h:Q u s)
  (hn:x ≠ "__name__" :=by decide) (hd:(x==("__debug__" : Str))=Cw:=by decide):J7 (model X.prog X.w) X.A (eval (.Name x pos) X.env) Q E s:=by
 obtain⟨mb,h1,h2⟩:=I.mod.blt;exact Calls.Name_function_global I.ok.kind hg (Calls.loadGlobal_builtin (by rw[I.ok.glob];exact I.mod.glob.keeps I.bk) hm (by rw[I.ok.blt];exact h1.keeps I.bk) ((h2 x hn).trans hv) h) hd
theorem Te{x:Str}{v:V}{u:JX}{pos:Pos}(hg:Gl X x)(hm:X.mg x=O u)(r:RelV v u)(hd:(x==("__debug__" : Str))=Cw:=by decide):PE X (.Name x pos) (tC v):=
 λ_ _ _ H _ I h=>XQ I hg hm ⟨v,H,I,r,h⟩ hd
theorem Td{x:Str}{v:V}{u:JX}{pos:Pos}(hg:Gl X x)(hm:X.mg x=Cu)(hv:bootBuiltins x=O u)(r:RelV v u)(hn:x ≠ "__name__" :=by decide)(hd:(x==("__debug__" : Str))=Cw:=by decide):PE X (.Name x pos) (tC v):=
 λ_ _ _ H _ I h=>Xy I hg hm hv ⟨v,H,I,r,h⟩ hn hd
variable{a b:J5}{ta tb:TE}{pos:Pos}
def PC(X:Cx)(op:CmpOp)(a b:J5)(t:TE):Prop:=
 ∀(pins:List (J0×Obj))(s:JY)(σ:St)(H:Hp)(Q:VK),Inv X pins σ H s->t σ H Q ->
  J7 (model X.prog X.w) X.A (eval a X.env) (λv s₁=>J7 (model X.prog X.w) X.A (eval b X.env) (λu s₂=>J7 (model X.prog X.w) X.A (J9 op v u) (EP X pins σ Q) X.xe s₂) X.xe s₁) X.xe s
theorem P7(b:J5){op:CmpOp}(h:op≠.In)(h2:op≠.NotIn):behindInMarks op b=Cw:=by
 have e1:(op==CmpOp.In)=Cw:=by cases op<;>first|rfl|exact absurd Ct h
 have e2:(op==CmpOp.NotIn)=Cw:=by cases op<;>first|rfl|exact absurd Ct h2
 cases b<;>simp[behindInMarks,e1,e2]
noncomputable def tIsN(ta:TE):TE:=λσ H Q=>ta σ H λx H1=>Q (.bl (decide (x=.non))) H1
theorem RelV.none_iff{x:V}{v:JX}(r:RelV x v):(v==Value.none)=decide (x=.non):=by
 cases x with
 |non=>cases r;rfl
 |bl _=>cases r;rfl
 |int _=>obtain⟨t,rfl⟩:=r;rfl
 |str _=>obtain⟨t,rfl⟩:=r;rfl
 |byt _=>obtain⟨t,rfl⟩:=r;rfl
 |flt _=>obtain⟨t,rfl⟩:=r;rfl
 |ref _=>cases r;rfl
 |ty _=>cases r;rfl
theorem Pe{j pos'}(ha:PE X a ta):PC X .Is a (.Constant .none j pos') (tIsN ta):=by intro pins s σ H Q I h;refine thn (ha pins s σ H _ I h) λv s1 ⟨x,H1,I1,r1,q1⟩=>?_;exact Constant_none (is_none_gen ⟨.bl _,H1,I1,by rw[r1.none_iff];rfl,q1⟩)
noncomputable def tB(t:TE):TT:=λσ H Q=>t σ H λx H1=>∃c,x=.bl c/\Q c H1
theorem LD{op:CmpOp}{t:TE}(h:PC X op a b t)(h1:behindInMarks op b=Cw:=by first|exact P7 _ (by decide) (by decide)|rfl):PE X (.Compare a [op] [b] pos) t:=λpins s σ H Q I hw=>wpAny_Compare1 (h pins s σ H Q I hw) h1
theorem LC{op:CmpOp}{t:TE}(h:PC X op a b t)(h1:behindInMarks op b=Cw:=by first|exact P7 _ (by decide) (by decide)|rfl):PT X (.Compare a [op] [b] pos) (tB t):=by intro pins s σ H Q I hw;refine wpAny_isTrue_Compare1 (thn (h pins s σ H _ I hw) λv s1 h1=>thn h1 λu s2 h2=>thn h2 λc s3 ⟨x,H1,I1,r1,q1⟩=>?_) h1;obtain⟨d,rfl,q⟩:=q1;cases r1;exact QX ⟨H1,I1,q⟩
theorem LB{e:J5}{t:TE}(h:PE X e t)(he:∀whole,isTrue e X.env whole=(do let v ←whole;standAt e.pos;holding [v] (truthy v)):=by intro _;rfl):PT X e (tB t):=by intro pins s σ H Q I hw;refine isTrue_plain (thn (h pins s σ H _ I hw) λv s1 ⟨x,H1,I1,r1,q1⟩=>?_) (he _);obtain⟨d,rfl,q⟩:=q1;cases r1;exact QX ⟨H1,I1,q⟩
variable{tA tB':TT}{rest:CC}
noncomputable def tAnd(t u:TT):TT:=λσ H Q=>t σ H λc H1=>if c=Cv then u σ H1 Q else Q Cw H1
noncomputable def tOr(t u:TT):TT:=λσ H Q=>t σ H λc H1=>if c=Cv then Q Cv H1 else u σ H1 Q
noncomputable def tNot(t:TT):TT:=λσ H Q=>t σ H λc H1=>Q (!c) H1
theorem GD(ha:PT X a tA):PW X (.BoolOp .And [a] pos) tA:=by
 intro wh pins s σ H Q I h;refine isTrue_and (thn (ha pins s σ H Q I h) λc s1 e=>?_);cases c with
 |true=>exact isTrue_and_nil e
 |false=>exact e
theorem LA(ha:PT X a tA):PW X (.BoolOp .Or [a] pos) tA:=by
 intro wh pins s σ H Q I h;refine isTrue_or (thn (ha pins s σ H Q I h) λc s1 e=>?_);cases c with
 |false=>exact isTrue_or_nil e
 |true=>exact e
theorem Lz(ha:PT X a tA)(hb:PW X (.BoolOp .And (b::rest) pos) tB'):PW X (.BoolOp .And (a::b::rest) pos) (tAnd tA tB'):=by
 intro wh pins s σ H Q I h;refine isTrue_and (thn (ha pins s σ H _ I h) λc s1 ⟨H1,I1,q1⟩=>?_);cases c with
 |true=>exact hb wh pins s1 σ H1 Q I1 q1
 |false=>exact⟨H1,I1,q1⟩
theorem N7(ha:PT X a tA)(hb:PW X (.BoolOp .Or (b::rest) pos) tB'):PW X (.BoolOp .Or (a::b::rest) pos) (tOr tA tB'):=by
 intro wh pins s σ H Q I h;refine isTrue_or (thn (ha pins s σ H _ I h) λc s1 ⟨H1,I1,q1⟩=>?_);cases c with
 |true=>exact⟨H1,I1,q1⟩
 |false=>exact hb wh pins s1 σ H1 Q I1 q1
theorem Ly(ha:PT X a tA):PT X (.UnaryOp .Not a pos) (tNot tA):=by intro pins s σ H Q I h;exact isTrue_not (ha pins s σ H (λc H1=>Q (!c) H1) I h)
noncomputable def N6(ta tb:TE):TE:=λσ H Q=>ta σ H λx H1=>∃c,x=.bl c/\if c=Cv then tb σ H1 Q else Q (.bl Cw) H1
noncomputable def tOrV(ta tb:TE):TE:=λσ H Q=>ta σ H λx H1=>∃c,x=.bl c/\if c=Cv then Q (.bl Cv) H1 else tb σ H1 Q
noncomputable def N5(ta:TE):TE:=λσ H Q=>ta σ H λx H1=>∃c,x=.bl c/\Q (.bl (!c)) H1
theorem Lx{op}{t:TE}(h:PE X a t):PE X (.BoolOp op [a] pos) t:=λpins s σ H Q I hw=>BoolOp_one (h pins s σ H Q I hw)
theorem Lw(ha:PE X a ta)(hb:PE X (.BoolOp .And (b::rest) pos) tb):PE X (.BoolOp .And (a::b::rest) pos) (N6 ta tb):=by
 intro pins s σ H Q I h;refine BoolOp_and (thn (ha pins s σ H _ I h) λv s1 ⟨x,H1,I1,r1,q1⟩=>?_);obtain⟨c,rfl,q1⟩:=q1;cases r1;refine QX ?_;cases c with
 |true=>exact hb pins s1 σ H1 Q I1 q1
 |false=>exact⟨.bl Cw,H1,I1,rfl,q1⟩
theorem N4(ha:PE X a ta)(hb:PE X (.BoolOp .Or (b::rest) pos) tb):PE X (.BoolOp .Or (a::b::rest) pos) (tOrV ta tb):=by
 intro pins s σ H Q I h;refine BoolOp_or (thn (ha pins s σ H _ I h) λv s1 ⟨x,H1,I1,r1,q1⟩=>?_);obtain⟨c,rfl,q1⟩:=q1;cases r1;refine QX ?_;cases c with
 |false=>exact hb pins s1 σ H1 Q I1 q1
 |true=>exact⟨.bl Cv,H1,I1,rfl,q1⟩
theorem Hi(ha:PE X a ta):PE X (.UnaryOp .Not a pos) (N5 ta):=by intro pins s σ H Q I h;refine UnaryOp_ (thn (ha pins s σ H _ I h) λv s1 ⟨x,H1,I1,r1,q1⟩=>?_);obtain⟨c,rfl,q1⟩:=q1;cases r1;exact not_of (QX ⟨.bl (!c),H1,I1,rfl,q1⟩)
end
def SqL(K:Frag)(H:Hp)(a:J0)(xs:List V):Prop:=
 Rd H a (.lst xs) ∨
  ∃(o:Obj)(its:Array JX)(n:Nat),K.lookup a=O o/\o.cls=.type "list" /\ o.dict=Cu/\o.data=.seq its n/\its.size<=J6/\Vals xs its.toList
def SqT(K:Frag)(H:Hp)(a:J0)(xs:List V):Prop:=
 Rd H a (.tup xs) ∨
  ∃(o:Obj)(its:Array JX)(n:Nat),K.lookup a=O o/\o.cls=.type "tuple" /\ o.data=.seq its n/\its.size<=J6/\Vals xs its.toList
noncomputable def absV:JX->Option V
 |.none=>O .non
 |.bool b=>O (.bl b)
 |.int i _=>O (.int i)
 |.str x _=>O (.str x)
 |.bytes b _=>O (.byt b)
 |.float b _=>O (.flt b)
 |.ref a=>O (.ref a)
 |.type n=>O (.ty n)
 |_=>Cu
theorem RelV.abs{x:V}{u:JX}(r:RelV x u):absV u=O x:=by
 cases x with
 |non=>cases r;rfl
 |bl _=>cases r;rfl
 |int _=>obtain⟨t,rfl⟩:=r;rfl
 |str _=>obtain⟨t,rfl⟩:=r;rfl
 |byt _=>obtain⟨t,rfl⟩:=r;rfl
 |flt _=>obtain⟨t,rfl⟩:=r;rfl
 |ref _=>cases r;rfl
 |ty _=>cases r;rfl
theorem RelV.inj{x y:V}{u:JX}(r:RelV x u)(q:RelV y u):x=y:=Q0 (r.abs.symm.trans q.abs)
theorem Vals.inj:∀{xs ys:List V}{us:Cz},Vals xs us->Vals ys us->xs=ys
 |_,_,_,.nil,.nil=>rfl
 |_,_,_,.cons r t,.cons r' t'=>by rw[r.inj r',Vals.inj t t']
section
variable{X:Cx}{pins:List (J0×Obj)}{σ:St}{H:Hp}{s:JY}{a:J0}{xs ys:List V}
theorem SqL.of{K:Frag}(h:H a=O (.lst xs)):SqL K H a xs:=.inl (.inl h)
theorem SqT.of{K:Frag}(h:H a=O (.tup xs)):SqT K H a xs:=.inl (.inl h)
theorem Inv.list(I:Inv X pins σ H s)(h:SqL X.K H a xs):∃its:Cz,Vals xs its/\PlainL s.heap a its.toArray/\xs.length<=J6:=by
 rcases h with h|⟨o,its,n,hk,hc,hd,hs,hz,r⟩
 .obtain⟨z,its,n,r,e⟩:=h.ok I.hok
  exact⟨its,r,⟨_,n,e,rfl,rfl,rfl⟩,z⟩
 .refine⟨its.toList,r,⟨o,n,I.kIn a o hk,hc,hd,by simpa using hs⟩,?_⟩
  have e:=r.length;simp only[Array.length_toList]at e;omega
theorem Inv.tuple(I:Inv X pins σ H s)(h:SqT X.K H a xs):∃its:Cz,Vals xs its/\IsTup s.heap a its.toArray/\xs.length<=J6:=by
 rcases h with h|⟨o,its,n,hk,hc,hs,hz,r⟩
 .obtain⟨z,its,r,p⟩:=h.ok I.hok
  exact⟨its,r,p,z⟩
 .refine⟨its.toList,r,⟨o,I.kIn a o hk,hc,n,by simpa using hs⟩,?_⟩
  have e:=r.length;simp only[Array.length_toList]at e;omega
theorem Inv.list_inj(I:Inv X pins σ H s)(h:SqL X.K H a xs)(h':SqL X.K H a ys):xs=ys:=by
 obtain⟨its,r,⟨o,n,e,_,_,d⟩,_⟩:=I.list h;obtain⟨its',r',⟨o',n',e',_,_,d'⟩,_⟩:=I.list h';rw[e]at e';cases e';rw[d]at d';injection d' with d1 _
 have:its=its':=by simpa using congrArg Array.toList d1
 subst this;exact r.inj r'
theorem Inv.tuple_inj(I:Inv X pins σ H s)(h:SqT X.K H a xs)(h':SqT X.K H a ys):xs=ys:=by
 obtain⟨its,r,⟨o,e,_,n,d⟩,_⟩:=I.tuple h;obtain⟨its',r',⟨o',e',_,n',d'⟩,_⟩:=I.tuple h';rw[e]at e';cases e';rw[d]at d';injection d' with d1 _
 have:its=its':=by simpa using congrArg Array.toList d1
 subst this;exact r.inj r'
end
noncomputable abbrev Cx.wish(X:Cx)(E:JX->JY->Prop):Cx:={X with xe:=E}
noncomputable abbrev Cx.nox(X:Cx):Cx:=X.wish λ_ _=>False
theorem Cx.Ok.wish{X:Cx}(ok:X.Ok)(E:JX->JY->Prop):(X.wish E).Ok:=
 ⟨ok.mod,ok.kind,ok.glob,ok.blt,ok.above,ok.inj,ok.has,ok.cab,ok.hd,ok.frames,ok.stk,ok.exf,ok.bs,ok.bsz,ok.noex,ok.exfs,ok.funs,ok.frf⟩
theorem Cx.Ok.unwish{X:Cx}{E:JX->JY->Prop}(ok:(X.wish E).Ok):X.Ok:=
 ⟨ok.mod,ok.kind,ok.glob,ok.blt,ok.above,ok.inj,ok.has,ok.cab,ok.hd,ok.frames,ok.stk,ok.exf,ok.bs,ok.bsz,ok.noex,ok.exfs,ok.funs,ok.frf⟩
section
variable{X:Cx}{pins:List (J0×Obj)}{σ:St}{H:Hp}{s:JY}{E:JX->JY->Prop}
theorem Inv.wish(I:Inv X pins σ H s)(E:JX->JY->Prop):Inv (X.wish E) pins σ H s:=⟨I.ok.wish E,I.os,I.bare,I.base,I.loc,I.cell,I.free,I.freeC,I.pin,I.hok,I.len⟩
theorem Inv.unwish(I:Inv (X.wish E) pins σ H s):Inv X pins σ H s:=⟨I.ok.unwish,I.os,I.bare,I.base,I.loc,I.cell,I.free,I.freeC,I.pin,I.hok,I.len⟩
theorem SP.unwish{D:Ends}{f:Flow}{s':JY}(h:SP (X.wish E) pins D f s'):SP X pins D f s':=by
 cases f with
 |next=>obtain⟨σ',H',I,q⟩:=h;exact⟨σ',H',I.unwish,q⟩
 |brk=>obtain⟨σ',H',I,q⟩:=h;exact⟨σ',H',I.unwish,q⟩
 |cont=>obtain⟨σ',H',I,q⟩:=h;exact⟨σ',H',I.unwish,q⟩
 |ret u=>obtain⟨v,σ',H',I,r,q⟩:=h;exact⟨v,σ',H',I.unwish,r,q⟩
theorem PSs.nox{st:List Stmt}{t:TS}(h:PSs X.nox st t):PSs X st t:=λpins s σ H D I hw=>
 QU (h pins s σ H D (I.wish _) hw) (λ_ _ q=>q.unwish) λ_ _ z=>False.elim z
end
section
variable{X:Cx}{st:Stmt}{rest:List Stmt}{t u:TS}{e:J5}{te:TE}{pos:Pos}
noncomputable def N3:TS:=λD σ H=>D.nx σ H
noncomputable def tSeq(t u:TS):TS:=λD σ H=>t {D with nx:=u D} σ H
theorem GC:PSs X [] N3:=λ_ _ σ H _ I h=>wpAny_execs_nil ⟨σ,H,I,h⟩
theorem Vm(h1:PS X st t)(h2:PSs X rest u):PSs X (st::rest) (tSeq t u):=by
 intro pins s σ H D I h;refine wpAny_execs_cons (thn (h1 pins s σ H {D with nx:=u D} I h) λf s1 q=>?_);cases f with
 |next=>obtain⟨σ',H',I',q⟩:=q;exact h2 pins s1 σ' H' D I' q
 |ret v=>exact q
 |brk=>exact q
 |cont=>exact q
theorem WR(h1:PS X st t):PSs X [st] t:=by
 intro pins s σ H D I h;refine wpAny_execs_cons (thn (h1 pins s σ H D I h) λf s1 q=>?_);cases f with
 |next=>exact wpAny_execs_nil q
 |ret v=>exact q
 |brk=>exact q
 |cont=>exact q
theorem Inv.quiet{pins:List (J0×Obj)}{σ:St}{H:Hp}{s:JY}(I:Inv X pins σ H s):interactive X.env=Cw:=by simp[interactive,I.ok.kind]
noncomputable def T6(te:TE):TS:=λD σ H=>te σ H λ_ H1=>D.nx σ H1
theorem WQ(he:PE X e te)(hs:swapsWith e Cu pos.line X.env=pure Cw:=by rfl):PS X (.Expr e pos) (T6 te):=by intro pins s σ H D I h;exact wpAny_Expr_any (thn (he pins s σ H _ I h) λv s1 ⟨x,H1,I1,r1,q1⟩=>⟨σ,H1,I1,q1⟩) I.quiet hs
noncomputable def tRet(te:TE):TS:=λD σ H=>te σ H D.rt
theorem Vf(he:PE X e te):PS X (.Return (O e) pos) (tRet te):=by intro pins s σ H D I h;exact wpAny_Return_some (thn (he pins s σ H _ I h) λv s1 ⟨x,H1,I1,r1,q1⟩=>⟨x,σ,H1,I1,r1,q1⟩)
noncomputable def tIfS(c:TT)(t u:TS):TS:=λD σ H=>c σ H λb H1=>if b=Cv then t D σ H1 else u D σ H1
theorem RJ{c:J5}{a b:List Stmt}{tc:TT}(hc:PT X c tc)(ha:PSs X a t)(hb:PSs X b u):PS X (.If c a b pos) (tIfS tc t u):=by
 intro pins s σ H D I h;refine wpAny_If (thn (hc pins s σ H _ I h) λd s1 ⟨H1,I1,q1⟩=>?_);cases d with
 |true=>exact ha pins s1 σ H1 D I1 q1
 |false=>exact hb pins s1 σ H1 D I1 q1
end
abbrev TG:=V->St->Hp->(St->Hp->Prop)->Prop
abbrev TGs:=List V->St->Hp->(St->Hp->Prop)->Prop
def PG(X:Cx)(target:J5)(t:TG):Prop:=
 ∀(pins:List (J0×Obj))(s:JY)(σ:St)(H:Hp)(v:V)(u:JX)(Q:St->Hp->Prop),Inv X pins σ H s->RelV v u->t v σ H Q ->
  J7 (model X.prog X.w) X.A (assign target X.env u) (λ_ s'=>∃σ' H',Inv X pins σ' H' s'/\Q σ' H') X.xe s
def PGs(X:Cx)(ts:CC)(t:TGs):Prop:=
 ∀(pins:List (J0×Obj))(s:JY)(σ:St)(H:Hp)(vs:List V)(us:Cz)(Q:St->Hp->Prop),Inv X pins σ H s->Vals vs us->t vs σ H Q ->
  J7 (model X.prog X.w) X.A (assignInOrder ((Uo ts X.env).map (·.2)) us) (λ_ s'=>∃σ' H',Inv X pins σ' H' s'/\Q σ' H') X.xe s
section
variable{X:Cx}{pos:Pos}
noncomputable def Wu(i:Nat):TG:=λv σ H Q=>Q (σ.set i (O v)) H
theorem Ye{i:Nat}{x:Str}(hN:X.N.Nodup)(hi:X.N[i]?=O x)(hx:Loc X.env.scope x)(hf:X.fn x=Cv∨X.env.scope.names.lookup x=O .local:=by first|exact .inl rfl|exact .inr rfl|assumption):PG X (.Name x pos) (Wu i):=by intro pins s σ H v u Q I r h;exact wpAny_assign_Name (TH I hN hi hx r (λs' I'=>⟨_,H,I',h⟩) hf)
noncomputable def gNil:TGs:=λvs σ H Q=>vs=[]/\Q σ H
noncomputable def VO(t:TG)(u:TGs):TGs:=λvs σ H Q=>∃v r,vs=v::r/\t v σ H λσ' H'=>u r σ' H' Q
theorem P5:PGs X [] gNil:=by intro pins s σ H vs us Q I r h;obtain⟨e,h⟩:=h;subst e;cases r;exact assignInOrder_nil ⟨σ,H,I,h⟩
theorem TF{e:J5}{es:CC}{t:TG}{u:TGs}(h1:PG X e t)(h2:PGs X es u)
  (hs:(Uo (e::es) X.env).map (·.2)=assign e X.env::(Uo es X.env).map (·.2):=by rfl):PGs X (e::es) (VO t u):=by
 intro pins s σ H vs us Q I r h;obtain⟨v,vr,e1,h⟩:=h;subst e1;cases r with
 |cons r rr=>rw[hs];refine assignInOrder_cons (thn (h1 pins s σ H _ _ _ I r h) λ_ s1 ⟨σ1,H1,I1,q1⟩=>?_);exact h2 pins s1 σ1 H1 _ _ Q I1 rr q1
noncomputable def gTup(K:Frag)(n:Nat)(t:TGs):TG:=λv σ H Q=>∃a xs,v=.ref a/\SqT K H a xs/\xs.length=n/\t xs σ H Q
theorem Hh{es:CC}{k:Nat}{t:TGs}{n:Nat}(hc:X.calm=Cv)(h:PGs X es t)
  (hn:(Uo es X.env).length=n:=by rfl) (hst:(Uo es X.env).findIdx? (·.1)=Cu:=by rfl):PG X (.Tuple es k pos) (gTup X.K n t):=by
 intro pins s σ H v u Q I r hw;obtain⟨a,xs,e1,hq,hl,hw⟩:=hw;subst e1;cases r;obtain⟨its,rv,ht,hz⟩:=I.tuple hq;refine assign_Tuple_tuple (I.ok.hd hc) ht (by simp[hn,←hl,rv.length]) hst λh' hx=>?_
 have I1:Inv X pins σ H {s with heap:=h'}:=I.kept (t':=s.toks) λb o e=>hx b o (QP (Qf e)) e;exact h pins _ σ H xs _ Q I1 (by simpa using rv) hw
noncomputable def tAsg(te:TE)(g:TG):TS:=λD σ H=>te σ H λx H1=>g x σ H1 D.nx
theorem Pd{tg e:J5}{te:TE}{g:TG}(he:PE X e te)(hg:PG X tg g)(hs:swapsWithSole [tg] e pos.line X.env=pure Cw:=by rfl)(hw:swappedStores [tg] e X.env=pure Cu:=by rfl)
  (h1:(Uo [tg] X.env).map (·.2)=[assign tg X.env]:=by rfl):PS X (.Assign [tg] e pos) (tAsg te g):=by
 intro pins s σ H D I h;refine wpAny_Assign_stores (thn (he pins s σ H _ I h) λv s1 ⟨x,H1,I1,r1,q1⟩=>?_) hs hw;rw[h1];exact thn (hg pins s1 σ H1 x v _ I1 r1 q1) λ_ s2 q=>q
theorem VX{i:Nat}{x:Str}{e:J5}{te:TE}{pos':Pos}(hN:X.N.Nodup)(hi:X.N[i]?=O x)(hx:Loc X.env.scope x)(he:PE X e te)(hs:swapsWith e (O (.Name x pos')) pos.line X.env=pure Cw:=by rfl)(hf:X.fn x=Cv∨X.env.scope.names.lookup x=O .local:=by first|exact .inl rfl|exact .inr rfl|assumption) :
  PS X (.Assign [.Name x pos'] e pos) (tAsg te (Wu i)):=by
 intro pins s σ H D I h;refine wpAny_Assign_Name (thn (he pins s σ H _ I h) λv s1 ⟨y,H1,I1,r1,q1⟩=>?_) hs;exact TH I1 hN hi hx r1 (λs2 I2=>⟨_,H1,I2,q1⟩) hf
end
structure It where
 go:Nat->Hp->Prop
 yld:Nat->Hp->V->Hp->Prop
 stop:Nat->Hp->Prop
def Ky(X:Cx)(pins:List (J0×Obj))(H:Hp)(b:J0):Prop:=
 H b=Cu/\b≠X.env.locals/\b∉X.fs/\(b∈X.ex∨X.s₀.heap.objs.size<=b)/\(∀x c,X.env.cells.lookup x=O c->c≠b)/\∀p∈X.pn++pins,p.1≠b
theorem Inv.fpOk{X:Cx}{pins:List (J0×Obj)}{σ:St}{H H':Hp}{s:JY}{b:J0}(I:Inv X pins σ H s)(hb:s.heap.objs.size<=b)(hn:H' b=Cu):Ky X pins H' b:=by
 refine⟨hn,Ju (Qy I.lt hb),I.nofs hb,.inr (Qn I.sz hb),λx c e z=>?_,λp hp z=>?_⟩
 .obtain⟨v,q⟩:=I.cell x c e
  exact absurd (Qy q.lt (by rw[z];exact hb)) (Jw _)
 .exact absurd (Qy (Qf (I.pin p hp).1) (by rw[z];exact hb)) (Jw _)
structure Turn(P:JZ)(w:World)(K:Frag)(tg:J5)(J:It)(fp:CF)(it:J0)(tn:Nat->Heap->Prop):Prop where
 mem:it∈fp
 obj:∀i h,tn i h->∀b∈fp,∃o,h.get? b=O o/\∀v,o.data≠.cell v
 keep:∀i h h',tn i h->(∀b∈fp,∀o,h.get? b=O o->h'.get? b=O o)->tn i h'
 item:∀(X:Cx),X.prog=P->X.w=w->X.K=K->X.calm=Cv->∀(i:Nat)(pins:List (J0×Obj))(s:JY)(σ:St)(H:Hp)(E:JX->JY->Prop),Inv X pins σ H s->(∀b∈fp,Ky X pins H b)->tn i s.heap->J.go i H ->
  J7 (model P w) X.A (pyNext (.ref it)) (λr s1=>∃u,r=O u /\
   J7 (model P w) X.A (letOwnedTupleGo tg (.ref it) u) (λ_ s2=>∃x H',Inv X pins σ H' s2/\RelV x u/\J.yld i H x H'/\tn (i+1) s2.heap/\∀b∈fp,H' b=Cu) E s1) E s
 done:∀(X:Cx),X.prog=P->X.w=w->X.K=K->X.calm=Cv->∀(i:Nat)(pins:List (J0×Obj))(s:JY)(σ:St)(H:Hp)(E:JX->JY->Prop),Inv X pins σ H s->(∀b∈fp,Ky X pins H b)->tn i s.heap->J.stop i H ->
  J7 (model P w) X.A (pyNext (.ref it)) (λr s1=>r=Cu/\Inv X pins σ H s1) E s
 self:∀(A:Around)(i:Nat)(s:JY)(Q:JX->JY->Prop)(E:JX->JY->Prop),tn i s.heap->Q (.ref it) s->J7 (model P w) A (pyIter (.ref it)) Q E s
abbrev TI:=St->Hp->(It->Hp->Prop)->Prop
def PIE(X:Cx)(pins:List (J0×Obj))(σ:St)(tg:J5)(R:It->Hp->Prop)(itv:JX)(s2:JY):Prop:=
 ∃(it:J0)(fp:CF)(tn:Nat->Heap->Prop)(J:It)(H':Hp),itv=.ref it/\Inv X pins σ H' s2/\Turn X.prog X.w X.K tg J fp it tn/\tn 0 s2.heap/\(∀b∈fp,Ky X pins H' b)/\R J H'
def PI(X:Cx)(tg iter:J5)(wi:TI):Prop:=
 ∀(pins:List (J0×Obj))(s:JY)(σ:St)(H:Hp)(R:It->Hp->Prop),Inv X pins σ H s->wi σ H R ->
  J7 (model X.prog X.w) X.A (eval iter X.env) (λv s1=>J7 (model X.prog X.w) X.A (pyIter v) (PIE X pins σ tg R) X.xe s1) X.xe s
theorem VN{M:Model}{A:Around}{E:JX->JY->Prop}{s:JY}{tg:J5}{it:J0}{u:JX}{o:Obj}{n:String}{vs:Array JX}{Q:Unit->JY->Prop}(ho:s.heap.get? it=O o)(hc:o.cls=.type n)(hd:o.data=.fields vs)
  (hn:["enumerate", "zip", "dict_itemiterator", "dict_reverseitemiterator", "odict_iterator", "itertools.zip_longest", "itertools.pairwise"].contains n=Cw) (hQ:Q () s):J7 M A (letOwnedTupleGo tg (.ref it) u) Q E s:=by
 unfold letOwnedTupleGo
 cases tg<;>first
  |exact Qk hQ
  |(cases u<;>first
    |exact Qk hQ
    |(
      refine Qb (wpAny_load ho ?_);rw[hc,hd];show J7 M A (if(["enumerate", "zip", "dict_itemiterator", "dict_reverseitemiterator", "odict_iterator", "itertools.zip_longest", "itertools.pairwise"].contains n&&vs[0]?==O (rawInt _))=Cv then _ else _) Q E s;rw[Qv (by intro h;rw[hn,Bool.false_and]at h;cases h)];exact Qk hQ))
noncomputable def Itl(K:Frag)(a:J0):It:=
 ⟨λi H=>∃xs x,SqL K H a xs/\xs[i]?=O x,λi H x H'=>H'=H/\∀xs,SqL K H a xs->xs[i]?=O x,λi H=>∃xs,SqL K H a xs/\xs.length<=i⟩
noncomputable def Itt(K:Frag)(a:J0):It:=
 ⟨λi H=>∃xs x,SqT K H a xs/\xs[i]?=O x,λi H x H'=>H'=H/\∀xs,SqT K H a xs->xs[i]?=O x,λi H=>∃xs,SqT K H a xs/\xs.length<=i⟩
noncomputable def Itr(lo:Int)(n:Nat):It:=⟨λi _=>i<n,λi H x H'=>H'=H/\x=.int (lo+i),λi _=>n<=i⟩
theorem DC{P:JZ}{w:World}{K:Frag}{tg:J5}(a it:J0):Turn P w K tg (Itl K a) [it] it (λi h=>h.IsListIter it a i) where
 mem:=by simp
 obj:=λi h st b hb=>by
  have e:b=it:=by simpa using hb
  subst e;obtain⟨o,e,c,d⟩:=st;exact⟨o,e,λv z=>by rw[d]at z;cases z⟩
 keep:=λi h h' st k=>st.at λo e=>k it (by simp) o e
 item:=by
  intro X hP hw hK hc i pins s σ H E I hf st hg;subst hP hw hK;obtain⟨xs,x,hq,hx⟩:=hg;obtain⟨its,rv,p,hz⟩:=I.list hq;obtain⟨u,hu,ru⟩:=rv.get hx;obtain⟨f0,f1,f2,f3,f4,f5⟩:=hf it (by simp);refine wpAny_pyNext_list_item st p.isList (x:=u) (by simpa using hu) λh' st' sb=>?_
  have I1:Inv X pins σ H {s with heap:=h'}:=I.turned (t':=s.toks) (λb o hb e=>(sb.2 b hb).trans e) f0 f1 f3 f4 f5;obtain⟨o,e,c,d⟩:=id st';exact⟨u,rfl,VN (s:={s with heap:=h'}) e c d (by decide) ⟨x,H,I1,ru,⟨rfl,λys hy=>by rw[I.list_inj hy hq];exact hx⟩,st',λb hb=>(hf b hb).1⟩⟩
 done:=by intro X hP hw hK hc i pins s σ H E I hf st hg;subst hP hw hK;obtain⟨xs,hq,hx⟩:=hg;obtain⟨its,rv,p,hz⟩:=I.list hq;obtain⟨f0,f1,f2,f3,f4,f5⟩:=hf it (by simp);have hl:=rv.length;exact wpAny_pyNext_list_end (I.ok.hd hc) st p.isList (by simp;omega) λh' eb=>⟨rfl,I.turned (t':=s.toks) (λb o hb e=>eb b o hb e) f0 f1 f3 f4 f5⟩
 self:=λ_ _ _ _ _ st h=>wpAny_pyIter_listiter st h
theorem Dw{P:JZ}{w:World}{K:Frag}{tg:J5}(a it:J0):Turn P w K tg (Itt K a) [it] it (λi h=>h.IsTupleIter it a i) where
 mem:=by simp
 obj:=λi h st b hb=>by
  have e:b=it:=by simpa using hb
  subst e;obtain⟨o,e,c,d⟩:=st;exact⟨o,e,λv z=>by rw[d]at z;cases z⟩
 keep:=λi h h' st k=>st.at λo e=>k it (by simp) o e
 item:=by
  intro X hP hw hK hc i pins s σ H E I hf st hg;subst hP hw hK;obtain⟨xs,x,hq,hx⟩:=hg;obtain⟨its,rv,p,hz⟩:=I.tuple hq;obtain⟨u,hu,ru⟩:=rv.get hx;obtain⟨f0,f1,f2,f3,f4,f5⟩:=hf it (by simp);refine wpAny_pyNext_tuple_item st (show s.heap.IsTuple a its.toArray from p) (x:=u) (by simpa using hu) λh' st' sb=>?_
  have I1:Inv X pins σ H {s with heap:=h'}:=I.turned (t':=s.toks) (λb o hb e=>(sb.2 b hb).trans e) f0 f1 f3 f4 f5;obtain⟨o,e,c,d⟩:=id st';exact⟨u,rfl,VN (s:={s with heap:=h'}) e c d (by decide) ⟨x,H,I1,ru,⟨rfl,λys hy=>by rw[I.tuple_inj hy hq];exact hx⟩,st',λb hb=>(hf b hb).1⟩⟩
 done:=by intro X hP hw hK hc i pins s σ H E I hf st hg;subst hP hw hK;obtain⟨xs,hq,hx⟩:=hg;obtain⟨its,rv,p,hz⟩:=I.tuple hq;obtain⟨f0,f1,f2,f3,f4,f5⟩:=hf it (by simp);have hl:=rv.length;exact wpAny_pyNext_tuple_end (I.ok.hd hc) st (show s.heap.IsTuple a its.toArray from p) (by simp;omega) λh' eb=>⟨rfl,I.turned (t':=s.toks) (λb o hb e=>eb b o hb e) f0 f1 f3 f4 f5⟩
 self:=λ_ _ _ _ _ st h=>wpAny_pyIter_tupleiter st h
theorem Dv{P:JZ}{w:World}{K:Frag}{tg:J5}(it:J0)(lo:Int)(n:Nat):Turn P w K tg (Itr lo n) [it] it (λi h=>IsRangeIter h it (lo+(i:Nat)*1) ((n:Int)-(i:Nat)) 1) where
 mem:=by simp
 obj:=λi h st b hb=>by
  have e:b=it:=by simpa using hb
  subst e;exact⟨_,st,λv z=>by have z':Data.fields _=Data.cell v:=z;cases z'⟩
 keep:=λi h h' st k=>k it (by simp) _ st
 item:=by
  intro X hP hw hK hc i pins s σ H E I hf st hg;subst hP hw hK;obtain⟨f0,f1,f2,f3,f4,f5⟩:=hf it (by simp);have W:=Walks.range (prog:=X.prog) (w:=X.w) (I.ok.hd hc) it lo 1 n;refine W.item i s _ _ hg st λv h' tk hv st' kk=>?_
  obtain⟨t,rfl⟩:=hv;have I1:Inv X pins σ H {s with heap:=h',toks:=tk}:=I.turned (λb o hb e=>kk b o (by simpa using hb) e) f0 f1 f3 f4 f5;refine⟨_,rfl,VN (s:={s with heap:=h',toks:=tk}) (n:= "range_iterator") st' Ct Ct (by decide) ⟨.int (lo+i),H,I1,⟨t,?_⟩,⟨rfl,rfl⟩,st',λb hb=>(hf b hb).1⟩⟩;rw[Int.mul_one]
 done:=by intro X hP hw hK hc i pins s σ H E I hf st hg;subst hP hw hK;obtain⟨f0,f1,f2,f3,f4,f5⟩:=hf it (by simp);exact wpAny_pyNext_range_end (I.ok.hd hc) st (by have:n<=i:=hg;omega) λh' eb=>⟨rfl,I.turned (t':=s.toks) (λb o hb e=>eb b o hb e) f0 f1 f3 f4 f5⟩
 self:=λ_ _ _ _ _ st h=>wpAny_pyIter_rangeiter st h
section
variable{X:Cx}{tg:J5}
theorem EE{pins:List (J0×Obj)}{σ:St}{H:Hp}{s:JY}{R:It->Hp->Prop}{E:JX->JY->Prop}{lo hi:Int}{t u v:Tok}{tk:Nat}(I:Inv X pins σ H s)(h1 : -(2 ^ 62)<=lo)(h2:lo<2 ^ 62)(h3 : -(2 ^ 62)<=hi)(h4:hi<2 ^ 62)
  (q:R (Itr lo (hi-lo).toNat) H):J7 (model X.prog X.w) X.A (pyIter (.ref s.heap.objs.size)) (PIE X pins σ tg R) E {s with heap:=s.heap.push {cls:=.type "range", data:=.fields #[.int lo t,.int hi u,.int 1 v]},toks:=tk}:=by
 refine wpAny_pyIter_range (IsRange.new ..) (small_one h1 h2 h3 h4) ?_;have I1:Inv X pins σ H {s with heap:=s.heap.push {cls:=.type "range", data:=.fields #[.int lo t,.int hi u,.int 1 v]},toks:=tk}:=I.kept λb o e=>Qd _ e
 refine⟨(s.heap.push {cls:=.type "range", data:=.fields #[.int lo t,.int hi u,.int 1 v]}).objs.size,[(s.heap.push {cls:=.type "range", data:=.fields #[.int lo t,.int hi u,.int 1 v]}).objs.size],_,_,H,rfl,
  I1.kept (t':=tk) λb o e=>Qd _ e,Dv _ lo (hi-lo).toNat,?_,λb hb=>?_,q⟩
 .have e1:lo+((0:Nat):Int)*1=lo:=by simp
  have e2:(((hi-lo).toNat:Nat):Int)-((0:Nat):Int)=Builtin.Range.rangeSize lo hi 1:=by rw[rangeSize_one];split<;>omega
  show IsRangeIter _ _ (lo+((0:Nat):Int)*1) ((((hi-lo).toNat:Nat):Int)-((0:Nat):Int)) 1;rw[e1,e2];exact Qp _ Ct
 .have e:b=(s.heap.push {cls:=.type "range", data:=.fields #[.int lo t,.int hi u,.int 1 v]}).objs.size:=by simpa using hb
  subst e;exact I1.fpOk (Qs _) (I1.hok.fresh (Qs _))
noncomputable def N0(ta:TA):TI:=λσ H R=>ta σ H λvs H1=>∃j:Int,vs=[.int j] /\ -(2 ^ 62)<=j/\j<2 ^ 62/\R (Itr 0 j.toNat) H1
theorem DB{a:J5}{ta:TA}{p pos:Pos}(hg:Gl X "range")(hm:X.mg "range" = Cu)(ha:PA X [a] ta)(hs:J8 [a] X.env=[(Cw,eval a X.env)]:=by rfl):PI X tg (.Call (.Name "range" p) [a] [] pos) (N0 ta):=by
 intro pins s σ H R I h;refine Call_ (Xy I hg hm boot_range (Jv (thn (ha pos pins s σ H _ I h) λus s1 ⟨vs,H1,I1,r1,q1⟩=>?_) hs Ct));obtain⟨j,e,q1,q2,q⟩:=q1;subst e;cases r1 with
 |cons r rr=>cases rr;obtain⟨t,rfl⟩:=r;exact call_range_1 (EE I1 (by omega) (by omega) q1 q2 (by simpa using q))
noncomputable def tFor(wi:TI)(g:TG)(tb:TS):TS:=λD σ H=>wi σ H λJ H1=>∃W:Nat->Nat->St->Hp->Prop,(∃m,W 0 m σ H1)/\∀i m σ H,W i m σ H ->
 (J.stop i H/\D.nx σ H)∨(J.go i H/\∃N:St->Hp->Prop,(∀σ' H',N σ' H'->∃m',m'<m/\W (i+1) m' σ' H')/\∀x H',J.yld i H x H'->g x σ H' λσ2 H2=>tb {D with nx:=N,ct:=N,bk:=D.nx} σ2 H2)
noncomputable def Ve(fp:CF)(h:Heap):List (J0×Obj):=fp.filterMap λb=>(h.get? b).map λo=>(b,o)
theorem TM{fp:CF}{h:Heap}{b:J0}{o:Obj}(hb:b∈fp)(e:h.get? b=O o):(b,o)∈Ve fp h:=List.mem_filterMap.mpr ⟨b,hb,by rw[e];rfl⟩
theorem DA{fp:CF}{h:Heap}{p:J0×Obj}(hp:p∈Ve fp h):p.1∈fp/\h.get? p.1=O p.2:=by
 obtain⟨b,hb,e⟩:=List.mem_filterMap.mp hp;cases q:h.get? b with
 |none=>rw[q]at e;cases e
 |some o=>rw[q]at e;have e':(b,o)=p:=Q0 e;subst e';exact⟨hb,q⟩
theorem Inv.pinned{pins:List (J0×Obj)}{σ:St}{H:Hp}{s:JY}{fp:CF}(I:Inv X pins σ H s)(hf:∀b∈fp,Ky X pins H b)(ho:∀b∈fp,∃o,s.heap.get? b=O o/\∀v,o.data≠.cell v):Inv X (pins++Ve fp s.heap) σ H s:=
 I.pins_of λp hp=>(QW.mp hp).elim (λz=>I.pin p (QD _ z)) λz=>by obtain⟨hb,e⟩:=DA z;obtain⟨f0,f1,f2,_⟩:=hf p.1 hb;obtain⟨o,e',d⟩:=ho p.1 hb;rw[e]at e';cases e';exact⟨e,f0,f1,f2,d⟩
theorem Inv.unpinned{pins pl:List (J0×Obj)}{σ:St}{H:Hp}{s:JY}(I:Inv X (pins++pl) σ H s):Inv X pins σ H s:=I.pins_of λp hp=>I.pin p (QD _ (QT _ hp))
theorem Hg{iter:J5}{body:List Stmt}{wi:TI}{g:TG}{tb:TS}{pos:Pos}(hp:PassesOwn (model X.prog X.w) X.A X.env X.xe)(hc:X.calm=Cv)(hi:PI X tg iter wi)(hg:PG X tg g)(hb:PSs X body tb)
  (hs:∀x,Up iter X.env x=pure x:=by intro _;rfl):PS X (.For tg iter body [] pos) (tFor wi g tb):=by
 intro pins s σ H D I h;refine wpAny_For (thn (hi pins s σ H _ I h) λv s1 h1=>thn h1 λitv s2 h2=>?_) hs;obtain⟨it,fp,tn,J,H2,e,I2,T,st2,f2,W,⟨m0,w0⟩,turn⟩:=h2;subst e;have stat:∀{H':Hp},(∀b∈fp,H' b=Cu)->∀b∈fp,Ky X pins H' b:=λhn b hb=>⟨hn b hb,(f2 b hb).2⟩;refine codeAny_forLoop_any (λn s'=>∃i σ' H',Inv X pins σ' H' s'/\tn i s'.heap/\(∀b∈fp,H' b=Cu)/\W i n σ' H') ?_ m0 ⟨0,σ,H2,I2,st2,λb hb=>(f2 b hb).1,w0⟩;rintro n s3 ⟨i,σ3,H3,I3,st3,fr3,w3⟩;rcases turn i n σ3 H3 w3 with ⟨stop,qn⟩|⟨go,N,hN,step⟩
 .refine wpAny_passesOwn hp (thn (T.done X Ct Ct Ct hc i pins s3 σ3 H3 X.xe I3 (stat fr3) st3 stop) λr s4 ⟨hr,I4⟩=>?_)
  subst hr;exact wpAny_execs_nil ⟨σ3,H3,I4,qn⟩
 .refine wpAny_passesOwn hp (thn (T.item X Ct Ct Ct hc i pins s3 σ3 H3 X.xe I3 (stat fr3) st3 go) λr s4 ⟨u,hr,h4⟩=>?_)
  subst hr;refine wpAny_passesOwn hp (thn h4 λ_ s5 ⟨x,H5,I5,r5,y5,BE,fr5⟩=>?_);have I5':=I5.pinned (stat fr5) (T.obj _ _ BE);refine wpAny_passesOwn hp (thn (hg _ s5 σ3 H5 x u _ I5' r5 (step x H5 y5)) λ_ s6 ⟨σ6,H6,I6,q6⟩=>?_);refine wpAny_passesOwn hp (thn (hb _ s6 σ6 H6 _ I6 q6) λf s7 q7=>?_);have again:∀{σ7:St}{H7:Hp},Inv X (pins++Ve fp s5.heap) σ7 H7 s7->N σ7 H7->∃m,m<n/\∃i σ' H',Inv X pins σ' H' s7/\tn i s7.heap/\(∀b∈fp,H' b=Cu)/\W i m σ' H':=λ{σ7 H7} I7 n7=>by obtain⟨m',hm,w7⟩:=hN σ7 H7 n7;refine⟨m',hm,i+1,σ7,H7,I7.unpinned,T.keep _ _ _ BE λb hb o e=>(I7.pin (b,o) (QD _ (QD _ (TM hb e)))).1,λb hb=>?_,w7⟩;obtain⟨o,e,d⟩:=T.obj _ _ BE b hb;exact(I7.pin (b,o) (QD _ (QD _ (TM hb e)))).2.1
  cases f with
  |next=>obtain⟨σ7,H7,I7,n7⟩:=q7;exact again I7 n7
  |cont=>obtain⟨σ7,H7,I7,n7⟩:=q7;exact again I7 n7
  |brk=>obtain⟨σ7,H7,I7,q7⟩:=q7;exact⟨σ7,H7,I7.unpinned,q7⟩
  |ret v=>obtain⟨x7,σ7,H7,I7,r7,q7⟩:=q7;exact⟨x7,σ7,H7,I7.unpinned,r7,q7⟩
end
abbrev R2:=V->V->Hp->VK->Prop
def OpR(X:Cx)(f:JX->JX->Sem JX)(r:R2):Prop:=
 ∀(pins:List (J0×Obj))(s:JY)(σ:St)(H:Hp)(x y:V)(v u:JX)(Q:VK),Inv X pins σ H s->RelV x v->RelV y u->r x y H Q ->
  J7 (model X.prog X.w) X.A (f v u) (EP X pins σ Q) X.xe s
def UnR(X:Cx)(f:JX->Sem JX)(r:V->Hp->VK->Prop):Prop:=
 ∀(pins:List (J0×Obj))(s:JY)(σ:St)(H:Hp)(x:V)(v:JX)(Q:VK),Inv X pins σ H s->RelV x v->r x H Q ->
  J7 (model X.prog X.w) X.A (f v) (EP X pins σ Q) X.xe s
def Ys(X:Cx)(f:JX)(r:List V->Hp->VK->Prop):Prop:=
 ∀(pins:List (J0×Obj))(s:JY)(σ:St)(H:Hp)(xs:List V)(us:Cz)(Q:VK),Inv X pins σ H s->Vals xs us->r xs H Q ->
  J7 (model X.prog X.w) X.A (call f us) (EP X pins σ Q) X.xe s
noncomputable def tOp(r:R2)(ta tb:TE):TE:=λσ H Q=>ta σ H λx H1=>tb σ H1 λy H2=>r x y H2 Q
noncomputable def tUn(r:V->Hp->VK->Prop)(ta:TE):TE:=λσ H Q=>ta σ H λx H1=>r x H1 Q
noncomputable def rI(C:Int->Int->Prop)(g:Int->Int->V):R2:=λx y H Q=>∃i j,x=.int i/\y=.int j/\C i j/\Q (g i j) H
noncomputable def rI0(g:Int->Int->V):R2:=λx y H Q=>∃i j,x=.int i/\y=.int j/\Q (g i j) H
noncomputable def rU(g:Int->V):V->Hp->VK->Prop:=λx H Q=>∃i,x=.int i/\Q (g i) H
section
variable{X:Cx}{a b c:J5}{ta tb tc:TE}{pos:Pos}
theorem Wj(ha:PE X a ta)(hb:PE X b tb){pins:List (J0×Obj)}{s:JY}{σ:St}{H:Hp}{R:V->V->Hp->Prop}(I:Inv X pins σ H s)
  (h:ta σ H λx H1=>tb σ H1 λy H2=>R x y H2) {Q:JX->JY->Prop} {f:JX->JX->Sem JX}
  (hf:∀v u s2 x y H2,Inv X pins σ H2 s2->RelV x v->RelV y u->R x y H2->J7 (model X.prog X.w) X.A (f v u) Q X.xe s2) :
  J7 (model X.prog X.w) X.A (eval a X.env) (λv s₁=>J7 (model X.prog X.w) X.A (eval b X.env) (λu s₂=>J7 (model X.prog X.w) X.A (f v u) Q X.xe s₂) X.xe s₁) X.xe s:=by
 refine thn (ha pins s σ H _ I h) λv s1 ⟨x,H1,I1,r1,q1⟩=>?_;refine thn (hb pins s1 σ H1 _ I1 q1) λu s2 ⟨y,H2,I2,r2,q2⟩=>?_;exact hf v u s2 x y H2 I2 r1 r2 q2
theorem NZ{op:Operator}{r:R2}(ho:OpR X (binaryOp op) r)(ha:PE X a ta)(hb:PE X b tb):PE X (.BinOp a op b pos) (tOp r ta tb):=by intro pins s σ H Q I h;exact wpAny_BinOp (Wj ha hb I h λv u s2 x y H2 I2 rx ry q=>ho pins s2 σ H2 x y v u Q I2 rx ry q)
theorem NY{op:UnaryOp}{r:V->Hp->VK->Prop}(ho:UnR X (unaryOp op) r)(ha:PE X a ta):PE X (.UnaryOp op a pos) (tUn r ta):=by intro pins s σ H Q I h;exact UnaryOp_ (thn (ha pins s σ H _ I h) λv s1 ⟨x,H1,I1,r1,q1⟩=>ho pins s1 σ H1 x v Q I1 r1 q1)
theorem opI{f:JX->JX->Sem JX}{C:Int->Int->Prop}{g:Int->Int->Int}
  (rule:∀(i j:Int)(t u:Tok)(s:JY)(Q:JX->JY->Prop)(E:JX->JY->Prop),C i j->Q (.int (g i j) s.toks) {s with toks:=s.toks+1}->J7 (model X.prog X.w) X.A (f (.int i t) (.int j u)) Q E s) :
  OpR X f (rI C λi j=>.int (g i j)):=by
 intro pins s σ H x y v u Q I rx ry h;obtain⟨i,j,rfl,rfl,hc,q⟩:=h;obtain⟨t,rfl⟩:=rx;obtain⟨t',rfl⟩:=ry;exact rule i j t t' s _ _ hc ⟨.int (g i j),H,I.tok _,⟨_,rfl⟩,q⟩
theorem opI0{f:JX->JX->Sem JX}{g:Int->Int->Int}
  (rule:∀(i j:Int)(t u:Tok)(s:JY)(Q:JX->JY->Prop)(E:JX->JY->Prop),Q (.int (g i j) s.toks) {s with toks:=s.toks+1}->J7 (model X.prog X.w) X.A (f (.int i t) (.int j u)) Q E s) :
  OpR X f (rI0 λi j=>.int (g i j)):=by
 intro pins s σ H x y v u Q I rx ry h;obtain⟨i,j,rfl,rfl,q⟩:=h;obtain⟨t,rfl⟩:=rx;obtain⟨t',rfl⟩:=ry;exact rule i j t t' s _ _ ⟨.int (g i j),H,I.tok _,⟨_,rfl⟩,q⟩
theorem YM{f:JX->JX->Sem JX}{g:Int->Int->Bool}
  (rule:∀(i j:Int)(t u:Tok)(s:JY)(Q:JX->JY->Prop)(E:JX->JY->Prop),Q (.bool (g i j)) s->J7 (model X.prog X.w) X.A (f (.int i t) (.int j u)) Q E s) :
  OpR X f (rI0 λi j=>.bl (g i j)):=by
 intro pins s σ H x y v u Q I rx ry h;obtain⟨i,j,rfl,rfl,q⟩:=h;obtain⟨t,rfl⟩:=rx;obtain⟨t',rfl⟩:=ry;exact rule i j t t' s _ _ ⟨.bl (g i j),H,I,rfl,q⟩
def CPow(i j:Int):Prop:=0<=j/\j<=1000000/\i.natAbs<2 ^ 64
def CMul(i j:Int):Prop:=(-(2 ^ 64)<i/\i<2 ^ 64)∨(-(2 ^ 64)<j/\j<2 ^ 64)
theorem CMul.ok{i j:Int}(h:CMul i j):IntMulOk i j:=by
 rcases h with ⟨h1,h2⟩|⟨h1,h2⟩
 .exact .of_left (intBits_le_64 h1 h2)
 .exact .of_right (intBits_le_64 h1 h2)
theorem Hf:OpR X (binaryOp .Add) (rI0 λi j=>.int (i+j)):=opI0 λ_ _ _ _ _ _ _ q=>add_int q
theorem He:OpR X (binaryOp .Sub) (rI0 λi j=>.int (i-j)):=opI0 λ_ _ _ _ _ _ _ q=>sub_int q
theorem Hd:OpR X (binaryOp .Mult) (rI CMul λi j=>.int (i*j)):=opI λ_ _ _ _ _ _ _ hc q=>mul_int q hc.ok
theorem Hc:OpR X (binaryOp .Mod) (rI (λ_ j=>0<j) λi j=>.int (i % j)):=opI λi j _ _ _ _ _ hc q=>by have h1:(0:Int)<j:=hc;exact mod_int' (by omega) (by rw[Int.fmod_eq_emod_of_nonneg i (by omega)];exact q)
theorem Hb:OpR X (binaryOp .Pow) (rI CPow λi j=>.int (i ^ j.toNat)):=opI λ_ _ _ _ _ _ _ hc q=>pow_int_small hc.1 hc.2.1 hc.2.2 q
theorem unI{f:JX->Sem JX}{g:Int->Int}
  (rule:∀(i:Int)(t:Tok)(s:JY)(Q:JX->JY->Prop)(E:JX->JY->Prop),Q (.int (g i) s.toks) {s with toks:=s.toks+1}->J7 (model X.prog X.w) X.A (f (.int i t)) Q E s) :
  UnR X f (rU λi=>.int (g i)):=by
 intro pins s σ H x v Q I rx h;obtain⟨i,rfl,q⟩:=h;obtain⟨t,rfl⟩:=rx;exact rule i t s _ _ ⟨.int (g i),H,I.tok _,⟨_,rfl⟩,q⟩
theorem Ha:UnR X (unaryOp .USub) (rU λi=>.int (-i)):=unI λ_ _ _ _ _ q=>neg_int q
end
section
variable{X:Cx}{a b c:J5}{ta tb tc:TE}{pos:Pos}
theorem Pc{pins:List (J0×Obj)}{σ:St}{H:Hp}{s:JY}{Q:VK}{k k':Bool}(I:Inv X pins σ H s)(q:Q (.bl k) H)(e:k=k'):EP X pins σ Q (.bool k') s:=by subst e;exact⟨.bl k,H,I,rfl,q⟩
theorem NX:OpR X (J9 .Lt) (rI0 λi j=>.bl (decide (i<j))):=YM λ_ _ _ _ _ _ _ q=>lt_int q
theorem NW:OpR X (J9 .LtE) (rI0 λi j=>.bl (decide (i<=j))):=YM λ_ _ _ _ _ _ _ q=>le_int q
theorem NV:OpR X (J9 .Gt) (rI0 λi j=>.bl (decide (j<i))):=YM λ_ _ _ _ _ _ _ q=>gt_int q
theorem NU:OpR X (J9 .GtE) (rI0 λi j=>.bl (decide (j<=i))):=YM λ_ _ _ _ _ _ _ q=>ge_int q
theorem Dy:OpR X (J9 .In) (λx y H Q=>∃i j,x=.str i/\y=.str j/\Q (.bl (!(Builtin.Str.occurrences j i 0 j.length 1).isEmpty)) H):=by intro pins s σ H x y v u Q I rx ry h;obtain⟨i,j,rfl,rfl,q⟩:=h;obtain⟨t,rfl⟩:=rx;obtain⟨t',rfl⟩:=ry;exact in_str (Pc I q Ct)
theorem Cj:OpR X (J9 .NotIn) (λx y H Q=>∃i j,x=.str i/\y=.str j/\Q (.bl (!(!(Builtin.Str.occurrences j i 0 j.length 1).isEmpty))) H):=by intro pins s σ H x y v u Q I rx ry h;obtain⟨i,j,rfl,rfl,q⟩:=h;obtain⟨t,rfl⟩:=rx;obtain⟨t',rfl⟩:=ry;exact notIn_str (Pc I q Ct)
theorem OpR.or{f:JX->JX->Sem JX}{r r':R2}(h:OpR X f r)(h':OpR X f r'):OpR X f (λx y H Q=>r x y H Q∨r' x y H Q):=by
 intro pins s σ H x y v u Q I rx ry q;rcases q with q|q
 .exact h pins s σ H x y v u Q I rx ry q
 .exact h' pins s σ H x y v u Q I rx ry q
theorem Vg(b:J5){op:CmpOp}(h:op≠.In:=by decide)(h2:op≠.NotIn:=by decide):behindInMarks op b=Cw:=by
 have e1:(op==CmpOp.In)=Cw:=by cases op<;>first|rfl|exact absurd Ct h
 have e2:(op==CmpOp.NotIn)=Cw:=by cases op<;>first|rfl|exact absurd Ct h2
 cases b<;>simp[behindInMarks,e1,e2]
theorem P4{op:CmpOp}{r:R2}(ho:OpR X (J9 op) r)(ha:PE X a ta)(hb:PE X b tb)(hm:behindInMarks op b=Cw):PE X (.Compare a [op] [b] pos) (tOp r ta tb):=by intro pins s σ H Q I h;exact wpAny_Compare1 (Wj ha hb I h λv u s2 x y H2 I2 rx ry q=>ho pins s2 σ H2 x y v u Q I2 rx ry q) hm
noncomputable def RI(t:TE):TT:=λσ H Q=>t σ H λx H'=>∃k,x=.bl k/\Q k H'
theorem SI{op:CmpOp}{r:R2}(ho:OpR X (J9 op) r)(ha:PE X a ta)(hb:PE X b tb)(hm:behindInMarks op b=Cw):PT X (.Compare a [op] [b] pos) (RI (tOp r ta tb)):=by
 intro pins s σ H Q I h
 refine wpAny_isTrue_Compare1 (thn (ha pins s σ H _ I h) λv s1 ⟨x,H1,I1,r1,q1⟩=>thn (hb pins s1 σ H1 _ I1 q1) λu s2 ⟨y,H2,I2,r2,q2⟩=>
  thn (ho pins s2 σ H2 x y v u _ I2 r1 r2 q2) λc s3 ⟨z,H3,I3,r3,k,e,q3⟩=>?_) hm
 subst e;cases r3;exact QX ⟨H3,I3,q3⟩
noncomputable def L9(r r':R2)(ta tb tc:TE):TE:=λσ H Q=>ta σ H λx H1=>tb σ H1 λy H2=>r x y H2 λz H3=>∃k,z=.bl k /\
 (if k=Cv then tc σ H3 λw' H4=>r' y w' H4 Q else Q (.bl Cw) H3)
theorem ED{op op':CmpOp}{r r':R2}(ho:OpR X (J9 op) r)(ho':OpR X (J9 op') r')(ha:PE X a ta)(hb:PE X b tb)(hc:PE X c tc)
  (hm:lastMarks [op,op'] [b,c]=Cw:=by with_unfolding_all rfl):PT X (.Compare a [op,op'] [b,c] pos) (RI (L9 r r' ta tb tc)):=by
 intro pins s σ H Q I h
 refine isTrue_chain (thn (ha pins s σ H _ I h) λv s1 ⟨x,H1,I1,r1,q1⟩=>test_link (thn (hb pins s1 σ H1 _ I1 q1) λu s2 ⟨y,H2,I2,r2,q2⟩=>
  thn (ho pins s2 σ H2 x y v u _ I2 r1 r2 q2) λd s3 ⟨z,H3,I3,r3,k,e,q3⟩=>?_)) hm
 subst e;cases r3;refine QX ?_;cases k with
 |false=>obtain⟨k',e',q'⟩:=q3;cases e';exact ite_ff ⟨H3,I3,q'⟩
 |true=>refine ite_tt (test_last (thn (hc pins s3 σ H3 _ I3 q3) λw' s4 ⟨z',H4,I4,r4,q4⟩=>thn (ho' pins s4 σ H4 y z' u w' _ I4 r2 r4 q4) λd' s5 ⟨z2,H5,I5,r5,k2,e2,q5⟩=>?_));subst e2;cases r5;exact QX ⟨H5,I5,q5⟩
theorem VW:(J6:Nat)<2 ^ 63:=by rw[sizeLine_eq];decide
theorem Du:OpR X (binaryOp .Add) (λx y H Q=>∃i j,x=.str i/\y=.str j/\i.length+j.length<=J6/\Q (.str (i++j)) H):=by intro pins s σ H x y v u Q I rx ry h;obtain⟨i,j,rfl,rfl,hz,q⟩:=h;obtain⟨t,rfl⟩:=rx;obtain⟨t',rfl⟩:=ry;exact add_str (λt' tk=>⟨.str (i++j),H,I.tok _,⟨_,rfl⟩,q⟩) hz
theorem Wt{x:V}{us:Cz}(r:Vals [x] us):∃u,us=[u]/\RelV x u:=by
 cases r with
 |cons r1 r2=>cases r2;exact⟨_,rfl,r1⟩
theorem VM{x y:V}{us:Cz}(r:Vals [x,y] us):∃u w',us=[u,w']/\RelV x u/\RelV y w':=by
 cases r with
 |cons r1 r2=>
  cases r2 with
  |cons r3 r4=>cases r4;exact⟨_,_,rfl,r1,r3⟩
theorem Dx(hc:X.calm=Cv):Ys X (.builtin "max") (λxs H Q=>∃i j,xs=[.int i,.int j]/\Q (.int (if j > i then j else i)) H):=by
 intro pins s σ H xs us Q I r h;obtain⟨i,j,rfl,q⟩:=h;obtain⟨u,w',rfl,⟨t,rfl⟩,⟨t',rfl⟩⟩:=VM r;refine max_two_ints (I.ok.hd hc) λh' tk k=>⟨_,H,I.kept k,?_,q⟩
 by_cases hj:j > i
 .rw[Qo hj,Qo hj];exact⟨_,rfl⟩
 .rw[Qv hj,Qv hj];exact⟨_,rfl⟩
theorem Ci:Ys X (.type "str") (λxs H Q=>∃i,xs=[.int i]/\i.natAbs.log2<1920/\Q (.str (toString i)) H):=by intro pins s σ H xs us Q I r h;obtain⟨i,rfl,hz,q⟩:=h;obtain⟨u,rfl,t,rfl⟩:=Wt r;exact PySem.P.str_of_int hz ⟨.str _,H,I.tok _,⟨_,rfl⟩,q⟩
def LenV(K:Frag)(x:V)(H:Hp)(n:Nat):Prop:=
 match x with
 |.str y=>y.length<=J6/\n=y.length
 |.byt y=>y.size<=J6/\n=y.size
 |.ref p=>(∃xs,SqL K H p xs/\n=xs.length) ∨ ∃xs,SqT K H p xs/\n=xs.length
 |_=>False
theorem Oo:Ys X (.builtin "len") (λxs H Q=>∃x n,xs=[x]/\LenV X.K x H n/\Q (.int n) H):=by
 intro pins s σ H xs us Q I r h;obtain⟨x,n,rfl,e,q⟩:=h;obtain⟨u,rfl,rx⟩:=Wt r;have hl:=VW;have hs:J6=16777216:=sizeLine_eq;cases x with
 |str y=>obtain⟨t,rfl⟩:=rx;obtain⟨hy,e'⟩:y.length<=J6/\n=y.length:=e;subst e';exact len_str (by omega) ⟨.int _,H,I.tok _,⟨_,rfl⟩,q⟩
 |byt y=>obtain⟨t,rfl⟩:=rx;obtain⟨hy,e'⟩:y.size<=J6/\n=y.size:=e;subst e';exact PySem.W.len_bytes (by omega) ⟨.int _,H,I.tok _,⟨_,rfl⟩,q⟩
 |ref p=>
  cases rx;have e':(∃xs,SqL X.K H p xs/\n=xs.length) ∨ ∃xs,SqT X.K H p xs/\n=xs.length:=e;rcases e' with ⟨xs,hx,e'⟩|⟨xs,hx,e'⟩
  .subst e'
   obtain⟨its,r',pl,hz⟩:=I.list hx;have hlen:=r'.length;exact Calls.call_len_list pl.isList (by simp only[QQ];omega) ⟨.int xs.length,H,I.tok _,⟨_,by simp only[QQ];rw[hlen]⟩,q⟩
  .subst e'
   obtain⟨its,r',pl,hz⟩:=I.tuple hx;have hlen:=r'.length;exact len_tuple pl (by simp only[QQ];omega) ⟨.int xs.length,H,I.tok _,⟨_,by simp only[QQ];rw[hlen]⟩,q⟩
 |_=>exact(show False from e).elim
end
noncomputable def KE(f:Str)(v:V):List (Str×V)->List (Str×V)
 |[]=>[(f,v)]
 |(g,x)::r=>if g=f then(g,v)::r else(g,x)::KE f v r
theorem Ra(f g:Str)(v:V):∀fs:List (Str×V),(KE f v fs).lookup g=if g=f then O v else fs.lookup g
 |[]=>by
  show List.lookup g [(f,v)]=_;by_cases h:g=f
  .have hb:(g==f)=Cv:=beq_iff_eq.mpr h
   simp only[List.lookup,hb,Qo h]
  .have hb:(g==f)=Cw:=beq_eq_false_iff_ne.mpr h
   simp only[List.lookup,hb,Qv h]
 |(k,x)::r=>by
  have ih:=Ra f g v r;rw[show KE f v ((k,x)::r)=(if k=f then(k,v)::r else(k,x)::KE f v r)from rfl];by_cases hk:k=f
  .rw[Qo hk]
   by_cases h:g=k
   .have hb:(g==k)=Cv:=beq_iff_eq.mpr h
    simp only[List.lookup,hb,Qo (h.trans hk)]
   .have hb:(g==k)=Cw:=beq_eq_false_iff_ne.mpr h
    simp only[List.lookup,hb,Qv (λe:g=f=>h (e.trans hk.symm))]
  .rw[Qv hk]
   by_cases h:g=k
   .have hb:(g==k)=Cv:=beq_iff_eq.mpr h
    simp only[List.lookup,hb,Qv (λe:g=f=>hk (h.symm.trans e))]
   .have hb:(g==k)=Cw:=beq_eq_false_iff_ne.mpr h
    simp only[List.lookup,hb];exact ih
theorem S5(f:Str)(v:V):∀fs:List (Str×V),f∈(KE f v fs).map (·.1)/\∀g,g∈fs.map (·.1)->g∈(KE f v fs).map (·.1)
 |[]=>⟨by simp[KE],λg h=>by simp at h⟩
 |(k,x)::r=>by
  obtain⟨i1,i2⟩:=S5 f v r;rw[show KE f v ((k,x)::r)=(if k=f then(k,v)::r else(k,x)::KE f v r)from rfl];by_cases hk:k=f
  .rw[Qo hk]
   subst hk;exact⟨by simp,λg h=>by simpa using h⟩
  .rw[Qv hk]
   refine⟨?_,λg h=>?_⟩
   .rw[QI]
    exact Ql _ i1
   .rw[QI]at h⊢
    rcases QC.mp h with e|e
    .exact List.mem_cons.mpr (.inl e)
    .exact Ql _ (i2 g e)
section
variable{X:Cx}{pins:List (J0×Obj)}{σ:St}{H:Hp}{s:JY}{a C dx:J0}{fs:List (Str×V)}{f:Str}{v:V}{A:Around}{E:JX->JY->Prop}
theorem Fe{prog:JZ}{w:World}{env:Env}{e:J5}{f:Str}{pos:Pos}{s:JY}{Q:JX->JY->Prop}(hb:attributeBase e f env (eval e env)=eval e env)
  (h:J7 (model prog w) A (eval e env) (λo s₁=>J7 (model prog w) A (getAttr o f Cv) Q E s₁) E s):J7 (model prog w) A (eval (.Attribute e f pos) env) Q E s:=
 Attribute_any_ h (by rw[arm_eval_Attribute,hb])
end
structure Room(k:Nat)(A:Around):Prop where
 hd:A.handled=Cu
 dp:A.depth+3*k+5<recursionLimit
 un:A.units+16*k+200<cLine
 gd:A.guards=O []
theorem Room.mono{j k:Nat}{A:Around}(r:Room k A)(h:j<=k):Room j A:=⟨r.hd,by have:=r.dp;omega,by have:=r.un;omega,r.gd⟩
theorem Room.deeper{k:Nat}{A:Around}(r:Room (k+1) A)(env:Env):Room k (A.deeper env):=
 ⟨r.hd,by have:=r.dp;show A.depth+1+3*k+5<_;omega,by have:=r.un;show A.units+3+16*k+200<_;omega,r.gd⟩
theorem Dt{A:Around}{C:J0}{us:Cz}{kw:List (Str×JX)}:(A.under (.builtin "type.__call__" ⟨.ref C::us,kw⟩)).depth=A.depth+1:=by
 first|rfl|simp[Around.under,Code.weight,Code.isCreation,Code.isGuard,Code.isCaller,Code.frames,Code.isFrame,guardIds]
theorem Ds{A:Around}{C:J0}{us:Cz}{kw:List (Str×JX)}:(A.under (.builtin "type.__call__" ⟨.ref C::us,kw⟩)).units=A.units+1:=by
 first|rfl|simp[Around.under,Code.cUnits,Code.frames,Code.isFrame]
theorem Room.make{k:Nat}{A:Around}(r:Room (k+1) A)(C:J0)(us:Cz)(kw:List (Str×JX)):Room k (A.under (.builtin "type.__call__" ⟨.ref C::us,kw⟩)):=
 ⟨r.hd,by have:=r.dp;rw[Dt];omega,by have:=r.un;rw[Ds];omega,(by first|exact r.gd|(simp[Around.under,guardIds];exact r.gd))⟩
theorem Room.depth{k:Nat}{A:Around}(r:Room k A):A.depth<recursionLimit:=by have:=r.dp;omega
theorem Room.units{k:Nat}{A:Around}(r:Room k A):A.units+64<cLine:=by have:=r.un;omega
noncomputable def YK:TA:=λ_ H Q=>Q [] H
noncomputable def W5(ta:TE)(tr:TA):TA:=λσ H Q=>ta σ H λx H1=>tr σ H1 λxs H2=>Q (x::xs) H2
section
variable{X:Cx}{e:J5}{es:CC}{te:TE}{t:TA}{pos:Pos}
theorem ZR:PA X [] YK:=λ_ _ _ _ H Q I h=>Calls.spliced_nil ⟨[],H,I,.nil,h⟩
theorem KP(ha:PE X e te)(hr:PA X es t)(hs:J8 (e::es) X.env=(Cw,eval e X.env)::J8 es X.env:=by rfl):PA X (e::es) (W5 te t):=by intro pos pins s σ H Q I h;rw[hs];show J7 _ _ (spliced ((Cw,eval e X.env)::backTo pos (J8 es X.env))) _ _ s;refine Calls.spliced_cons (thn (ha pins s σ H _ I h) λu s1 ⟨x,H1,I1,r1,q1⟩=>?_);exact thn (hr pos pins s1 σ H1 _ I1 q1) λus s2 ⟨xs,H2,I2,r2,q2⟩=>⟨x::xs,H2,I2,.cons r1 r2,q2⟩
noncomputable def tTup(t:TA):TE:=λσ H Q=>t σ H λxs H1=>xs.length<=J6/\∀p,H1 p=Cu->Q (.ref p) (upd H1 p (.tup xs))
noncomputable def tLst(t:TA):TE:=λσ H Q=>t σ H λxs H1=>xs.length<=J6/\∀p,H1 p=Cu->Q (.ref p) (upd H1 p (.lst xs))
theorem Sj{x1}(h:PA X es t):PE X (.Tuple es x1 pos) (tTup t):=by intro pins s σ H Q I hq;refine wpAny_Tuple_spliced (thn (h pos pins s σ H _ I hq) λus s1 ⟨xs,H1,I1,r,z,q⟩=>⟨by rw[←r.length];exact z,?_⟩);have hf:H1 s1.heap.objs.size=Cu:=I1.hok.fresh (Qs _);refine⟨.ref s1.heap.objs.size,upd H1 s1.heap.objs.size (.tup xs),I1.laid (t':=s1.toks) (λb u e=>Qd _ e) (Qs _) ?_,rfl,q _ hf⟩;exact⟨z,us,r,⟨_,Qp _ Ct,rfl,_,rfl⟩⟩
theorem Pb(h:PA X es t):PE X (.List es pos) (tLst t):=by intro pins s σ H Q I hq;refine wpAny_List_spliced (thn (h pos pins s σ H _ I hq) λus s1 ⟨xs,H1,I1,r,z,q⟩=>⟨by rw[←r.length];exact z,?_⟩);have hf:H1 s1.heap.objs.size=Cu:=I1.hok.fresh (Qs _);refine⟨.ref s1.heap.objs.size,upd H1 s1.heap.objs.size (.lst xs),I1.laid (t':=s1.toks) (λb u e=>Qd _ e) (Qs _) ?_,rfl,q _ hf⟩;exact⟨z,us,0,r,Qp _ Ct⟩
end
abbrev Sp:=List V->Hp->VK->XK->Prop
abbrev CXT:=List Env->Hp->JY->XK->JX->JY->Prop
structure Env0(P:JZ)(w:World)(K:Frag)(mg:Str->CB)(base:Heap)(A:Around)(outer:List Env)(s:JY)(H:Hp):Prop where
 frames:A.frames=O outer
 mod:Mod K mg base
 bs:∀b o,base.get? b=O o->s.heap.get? b=O o/\H b=Cu
 bsz:base.objs.size<=s.heap.objs.size
 funs:s.heap.FunFrames base outer
 frf:∀b∈frs outer,H b=Cu
 hok:HOk P w H s.heap
 bare:AllBare s.gens
def CE(outer:List Env)(P:JZ)(w:World)(H:Hp)(s:JY)(Q:VK)(u:JX)(s':JY):Prop:=
 ∃v H',s'.os=s.os/\AllBare s'.gens/\Un (frs outer) [] H H' s.heap s'.heap/\HOk P w H' s'.heap/\RelV v u/\Q v H'
def CR(CX:CXT)(outer:List Env)(P:JZ)(w:World)(H:Hp)(s:JY)(Q:VK)(E:XK)(r:Result)(s':JY):Prop:=
 match r with
 |.ok (.ret u)=>CE outer P w H s Q u s'
 |.ok _=>False
 |.error e=>CX outer H s E e s'
structure FnOk(P:JZ)(w:World)(K:Frag)(mg:Str->CB)(base:Heap)(CX:CXT)(k:Nat)(f:J0)(fd:J4)(ps:List Str)(sp:Sp):Prop where
 len:∀vs H Q E,sp vs H Q E->vs.length=ps.length
 run:∀(A:Around)(outer:List Env)(s:JY)(H:Hp)(args:Args)(us:Cz)(vs:List V)(Q:VK)(E:XK),Room k A->Env0 P w K mg base A outer s H->BindsTo s fd args (ps.zip us)->Vals vs us->sp vs H Q E ->
  codeAny (model P w) A (.call (.ref f) args) (CR CX outer P w H s Q E) s
theorem Env0.make{P:JZ}{w:World}{K:Frag}{mg:Str->CB}{base:Heap}{A:Around}{outer:List Env}{s:JY}{H:Hp}(e:Env0 P w K mg base A outer s H)(C:J0)(us:Cz)(kw:List (Str×JX)) :
  Env0 P w K mg base (A.under (.builtin "type.__call__" ⟨.ref C::us,kw⟩)) outer s H:=⟨by first|exact e.frames|(simpa[Around.under,Code.envs,Code.isFrame,pushEnvs]using e.frames),e.mod,e.bs,e.bsz,e.funs,e.frf,e.hok,e.bare⟩
section
variable{X:Cx}{pins:List (J0×Obj)}{σ:St}{H:Hp}{s s':JY}
theorem Inv.env0(I:Inv X pins σ H s):Env0 X.prog X.w X.K X.mg X.base X.A X.stack s H:=
 ⟨I.ok.frames,I.ok.mod,I.bs,Qn I.ok.bsz I.sz,I.stack,I.stkFree,I.hok,I.bare⟩
theorem Inv.after{Q:VK}{u:JX}(I:Inv X pins σ H s)(h:CE X.stack X.prog X.w H s Q u s'):EP X pins σ Q u s':=by obtain⟨v,H',os,bare,un,hok,r,q⟩:=h;obtain⟨hh,g,d,t,os'⟩:=s';obtain rfl:os'=s.os:=os;exact⟨v,H',I.call (h':=hh) (g':=g) (d':=d) (t':=t) (ch:=[]) un hok bare (λb z=>absurd z (by simp)),r,q⟩
end
noncomputable def VL(sp:Sp)(dvs:List V)(E:XK)(t:TA):TE:=λσ H Q=>t σ H λvs H1=>sp (vs++dvs) H1 Q E
def Zd(K:Frag)(fd:J4)(ps:List Str)(ds:Cz):Prop:=
 ∀(s:JY)(us:Cz),K.In s.heap->(us++ds).length=ps.length->BindsTo s fd ⟨us,[]⟩ (ps.zip (us++ds))
theorem Zd.all{K:Frag}{fd:J4}{ps:List Str}(h:∀us:Cz,us.length=ps.length->bindArgs fd ⟨us,[]⟩=pure (ps.zip us)):Zd K fd ps []:=λs us _ hl=>by rw[QO]at hl⊢;exact .of_eq (h us hl)
def V8(CX:CXT)(X:Cx)(E:XK):Prop:=∀(pins:List (J0×Obj))(σ:St)(H:Hp)(s:JY)(e:JX)(s':JY),Inv X pins σ H s->CX X.stack H s E e s'->X.xe e s'
section
variable{X:Cx}{CX:CXT}{k:Nat}{f C:J0}{fd:J4}{ps:List Str}{sp:Sp}{dvs:List V}{ds:Cz}{E:XK}{x m:Str}{p pos apos:Pos}{e o:J5}{es:CC}{ta:TE}{t:TA}
theorem So{pins:List (J0×Obj)}{σ:St}{H:Hp}{s:JY}{Q:VK}{us:Cz}{vs:List V}(F:FnOk X.prog X.w X.K X.mg X.base CX k f fd ps sp)(hr:Room k X.A)(hb:Zd X.K fd ps ds)(hd:Vals dvs ds)(hx:V8 CX X E)
  (I:Inv X pins σ H s) (r:Vals vs us) (h:sp (vs++dvs) H Q E):J7 (model X.prog X.w) X.A (call (.ref f) us) (EP X pins σ Q) X.xe s:=by
 have r2:Vals (vs++dvs) (us++ds):=r.append hd;have hl:(us++ds).length=ps.length:=by rw[←r2.length];exact F.len _ _ _ _ h
 refine wpAny_call (codeAny_mono (F.run X.A X.stack s H ⟨us,[]⟩ (us++ds) (vs++dvs) Q E hr I.env0 (hb s us I.kIn hl) r2 h) λr s' hq=>?_);cases r with
 |error e=>exact hx pins σ H s e s' I hq
 |ok fl=>
  cases fl with
  |ret u=>exact I.after hq
  |next=>exact False.elim hq
  |brk=>exact False.elim hq
  |cont=>exact False.elim hq
theorem SH(F:FnOk X.prog X.w X.K X.mg X.base CX k f fd ps sp)(hr:Room k X.A)(hg:Gl X x)(hm:X.mg x=O (.ref f))(hk:PySem.W.keepIn X.K (.ref f)=Cv)(hb:Zd X.K fd ps ds)(hd:Vals dvs ds)(hx:V8 CX X E)
  (ha:PA X (e::es) t) (hdb:(x==("__debug__" : Str))=Cw:=by decide) (he:J8 (e::es) X.env=(Cw,eval e X.env)::J8 es X.env:=by rfl) (hpl:(backTo pos (J8 es X.env)).any (·.1)=Cw:=by rfl) :
  PE X (.Call (.Name x p) (e::es) [] pos) (VL sp dvs E t):=by
 intro pins s σ H Q I h;refine Q9 (XQ I hg hm ?_ hdb);refine PySem.W.callWith_K (h₀:=X.base) I.ok.mod.kin hk (thn (ha pos pins s σ H _ I h) λus s1 ⟨vs,H1,I1,r,q⟩=>⟨I1.kIn,?_⟩) he hpl;exact So F hr hb hd hx I1 r q
theorem EC(F:FnOk X.prog X.w X.K X.mg X.base CX k f fd ps sp)(hr:Room k X.A)(hg:Gl X x)(hm:X.mg x=O (.ref f))(hk:PySem.W.keepIn X.K (.ref f)=Cv)(hb:Zd X.K fd ps ds)(hd:Vals dvs ds)(hx:V8 CX X E)
  (hdb:(x==("__debug__" : Str))=Cw:=by decide):PE X (.Call (.Name x p) [] [] pos) (VL sp dvs E YK):=by
 intro pins s σ H Q I h;refine Q9 (XQ I hg hm ?_ hdb);exact PySem.W.callWith_K0 I.kIn hk (So (us:=[]) F hr hb hd hx I .nil h)
end
structure Xq(N P:List Str)(sc:Scope):Prop where
 kind:sc.kind=.function
 co:sc.isCoroutine=Cw
 gen:sc.isGenerator=Cw
 nd:N.Nodup
 pre:N.take P.length=P
 par:∀x∈P,sc.names.lookup x=O .local∨sc.names.lookup x=O .cell
 nofree:∀y∈sc.names,y.2≠.free
theorem Nf{kindOf:Str->Option NameKind}{x:Str}:∀{binds:List (Str×JX)}{m:Str->CB},(∀v,(x,v)∉binds)->bindL kindOf binds m x=m x
 |[],_,_=>rfl
 |(n,v)::r,m,h=>by
  unfold bindL;rw[Nf λw hw=>h w (Ql _ hw)];split
  .have:x≠n:=by rintro rfl;exact h v Qj
   simp[this]
  .rfl
theorem Nd{kindOf:Str->Option NameKind}{x:Str}:∀{binds:List (Str×JX)}{m:Str->CB},(∀v,(x,v)∉binds)->bindC kindOf binds m x=m x
 |[],_,_=>rfl
 |(n,v)::r,m,h=>by
  unfold bindC;rw[Nd λw hw=>h w (Ql _ hw)];split
  .rfl
  .have:x≠n:=by rintro rfl;exact h v Qj
   simp[this]
theorem Nc{kindOf:Str->Option NameKind}{x:Str}{v:JX}:∀{P:List Str}{vs:Cz}{i:Nat}{m:Str->CB},P.Nodup->P[i]?=O x->vs[i]?=O v->kindOf x=O .local ->
  bindL kindOf (P.zip vs) m x=O v
 |[],_,_,_,_,h,_,_=>by simp at h
 |_::_,[],_,_,_,_,h,_=>by simp at h
 |p::P,w::vs,0,m,nd,h1,h2,hk=>by simp at h1 h2;subst h1;subst h2;show bindL kindOf ((p,w)::P.zip vs) m p=_;unfold bindL;rw[Nf λv hv=>(Js.mp nd).1 (List.of_mem_zip hv).1,Qo hk];simp
 |p::P,w::vs,i+1,m,nd,h1,h2,hk=>by show bindL kindOf ((p,w)::P.zip vs) m x=_;unfold bindL;exact Nc (i:=i) (List.nodup_cons.mp nd).2 (by simpa using h1) (by simpa using h2) hk
theorem Nb{kindOf:Str->Option NameKind}{x:Str}{v:JX}:∀{P:List Str}{vs:Cz}{i:Nat}{m:Str->CB},P.Nodup->P[i]?=O x->vs[i]?=O v->kindOf x≠O .local ->
  bindC kindOf (P.zip vs) m x=O v
 |[],_,_,_,_,h,_,_=>by simp at h
 |_::_,[],_,_,_,_,h,_=>by simp at h
 |p::P,w::vs,0,m,nd,h1,h2,hk=>by simp at h1 h2;subst h1;subst h2;show bindC kindOf ((p,w)::P.zip vs) m p=_;unfold bindC;rw[Nd λv hv=>(Js.mp nd).1 (List.of_mem_zip hv).1,Qv hk];simp
 |p::P,w::vs,i+1,m,nd,h1,h2,hk=>by show bindC kindOf ((p,w)::P.zip vs) m x=_;unfold bindC;exact Nb (i:=i) (List.nodup_cons.mp nd).2 (by simpa using h1) (by simpa using h2) hk
noncomputable def Yb(N:List Str)(vs:List V):St:=vs.map O++Ub (N.length-vs.length) Cu
noncomputable def Kp(CX:CXT)(P:JZ)(w:World)(K:Frag)(mg:Str->CB)(base:Heap)(N:List Str)(qual:Str)(scope:Scope)(f:J0)(cd:JX)(A:Around)(outer:List Env)(s:JY)(H:Hp)(E:XK):Cx where
 prog:=P
 w:=w
 K:=K
 mg:=mg
 base:=base
 A:=A.deeper (envOfC qual scope s.heap.objs.size f cd)
 N:=N
 s₀:=s
 H₀:=H
 env:=envOfC qual scope s.heap.objs.size f cd
 outer:=outer
 stack:=envOfC qual scope s.heap.objs.size f cd::outer
 ex:=[]
 calm:=Cv
 fn:=λ_=>Cv
 pn:=[]
 xe:=λe s'=>J7 (model P w) (A.deeper (envOfC qual scope s.heap.objs.size f cd)) (leaving (envOfC qual scope s.heap.objs.size f cd) e) (λ_ s''=>CX outer H s E e s'') (λe' s''=>CX outer H s E e' s'') s'
theorem SW{sc:Scope}{n:Nat}{x:Str}(h:sc.names.lookup x=O .cell):∃c,(cellsFrom n sc.names []).lookup x=O c:=by have q:=PySem.W.cellsFrom_some sc.names n [] (.inl h);exact Option.isSome_iff_exists.mp q
theorem DR{CX:CXT}{P:JZ}{w:World}{K:Frag}{mg:Str->CB}{base:Heap}{N ps:List Str}{qual:Str}{scope:Scope}{f:J0}{cd:JX}{A:Around}{outer:List Env}{s s1:JY}{H:Hp}{E:XK}{us:Cz}{vs:List V}
  (S:Xq N ps scope) (hd:A.handled=Cu) (e0:Env0 P w K mg base A outer s H) (hl:vs.length=ps.length) (r:Vals vs us)
  (x:InCallC s s.heap.objs.size (bindL (envOfC qual scope s.heap.objs.size f cd).kindOf (ps.zip us) λ_=>Cu) (cellsFrom (s.heap.objs.size+1) scope.names []) (bindC (envOfC qual scope s.heap.objs.size f cd).kindOf (ps.zip us) λ_=>Cu) s1) :
  Inv (Kp CX P w K mg base N qual scope f cd A outer s H E) [] (Yb N vs) H s1:=by
 have hpl:ps.length<=N.length:=by have:=JV List.length S.pre;rw[Jx]at this;omega
 obtain⟨h1,tk,rfl,hk⟩:=x.done;have noA:∀b:J0,b∉(Kp CX P w K mg base N qual scope f cd A outer s H E).ex:=λb z=>absurd (show b∈([]:CF)from z) (by simp)
 refine⟨⟨e0.mod,S.kind,rfl,rfl,Qs _,λy z c h1 h2=>?_,λy hy=>?_,λy c _ h=>?_,λ_=>hd,Around.frames_deeper e0.frames,.inr ⟨rfl,rfl⟩,λb z=>absurd z (noA b),e0.bs,e0.bsz,λb _ _=>noA b,λb z=>absurd z (noA b),e0.funs,e0.frf⟩,
  rfl,e0.bare,Un.kept hk,⟨_,x.toInCall.ns,λi y v h1 h2 h3=>?_⟩,λy c h=>⟨_,x.cell y c h⟩,e0.hok.fresh (Nat.le_refl _),λy c h=>?_,λp hp=>absurd (show p∈([]:List (J0×Obj))from hp) (by simp),e0.hok.kept hk,?_⟩
 .exact name_of_addr x.apart (QZ h1) (QZ h2)
 .have hy:scope.names.lookup y=O .cell∨scope.names.lookup y=O .free:=hy
  rcases hy with hy|hy
  .exact SW hy
  .exact absurd Ct (S.nofree _ (QZ hy))
 .exact Nat.le_of_lt (x.above y c (QZ h))
 .have hi:i<vs.length:=by
   unfold Yb at h2;by_cases hi:i<vs.length
   .exact hi
   .rw[List.getElem?_append_right (by simpa using hi)]at h2
    rw[QA]at h2;split at h2<;>cases h2
  have ha:vs[i]?=O v:=by
   unfold Yb at h2;rw[List.getElem?_append_left (by simpa using hi),List.getElem?_map]at h2;cases e:vs[i]? with
   |none=>rw[e]at h2;cases h2
   |some a=>rw[e]at h2;cases h2;rfl
  obtain⟨u,hu,rv⟩:=r.get ha;have hp:ps[i]?=O y:=by rw[←S.pre,List.getElem?_take_of_lt (by omega)];exact h1
  have ndP:ps.Nodup:=by rw[←S.pre];exact S.nd.sublist (List.take_sublist _ _)
  refine⟨u,rv,?_⟩;rcases S.par y (QL hp)with k|k
  .exact .inl ⟨k,Nc ndP hp hu k⟩
  .obtain⟨c,e⟩:=SW (n:=s.heap.objs.size+1) k
   refine .inr ⟨.inl k,c,e,?_⟩;have q:=x.cell y c e;rw[Nb ndP hp hu (by show scope.names.lookup y≠_;rw[k];decide)]at q;exact q
 .exact e0.hok.fresh (Nat.le_of_lt (x.above y c (QZ h)))
 .unfold Yb
  show _=N.length;rw[Qu,Qg,Q2];omega
theorem RH{CX:CXT}{P:JZ}{w:World}{K:Frag}{mg:Str->CB}{base:Heap}{k:Nat}{f:J0}{name qual:Str}{params:Arguments}{body:List Stmt}{scope:Scope}{dV kV doc pm cdv ct oc:JX}{an od:CJ}
  {osl:Array CB} {N ps:List Str} {sp:Sp} (lk:K.lookup f=O ⟨oc,od,.func (PySem.W.fnOf name qual params body scope dV kV doc pm an cdv ct),osl⟩) (hcd:PySem.W.codeIn K cdv qual=Cv) (S:Xq N ps scope)
  (len:∀vs H Q E,sp vs H Q E->vs.length=ps.length)
  (hbody:∀(A:Around)(outer:List Env)(s:JY)(H:Hp)(vs:List V)(Q:VK)(E:XK),Room k (A.deeper (envOfC qual scope s.heap.objs.size f cdv))->sp vs H Q E ->
   ∃t,PSs (Kp CX P w K mg base N qual scope f cdv A outer s H E) body t/\t {nx:=λ_ H'=>Q .non H',rt:=Q} (Yb N vs) H) :
  FnOk P w K mg base CX (k+1) f (PySem.W.fnOf name qual params body scope dV kV doc pm an cdv ct) ps sp:=by
 refine⟨len,λA outer s H args us vs Q E hr e0 hb r Bc=>?_⟩;have hl:=len _ _ _ _ Bc;have KX:K.In s.heap:=e0.mod.kin.keeps λb o e=>(e0.bs b o e).1;have lim:s.heap.NoLimit:=e0.mod.nolimit.keeps λb o e=>(e0.bs b o e).1
 have hkind:∀y∈ps.zip us,scope.names.lookup y.1=O .local∨(scope.names.lookup y.1=O .cell/\((cellsFrom (s.heap.objs.size+1) scope.names []).lookup y.1).isSome=Cv):=λ⟨n,v⟩ hy=>by
  rcases S.par n (List.of_mem_zip hy).1 with q|q
  .exact .inl q
  .exact .inr ⟨q,PySem.W.cellsFrom_some _ _ _ (.inl q)⟩
 refine codeAny_call_function hr.depth (KX _ _ lk) Ct S.co S.gen Ct (PySem.W.codeRec_of KX hcd) (hb _ _ _ _ ?_);refine wpAny_newFunctionEnv_cells S.kind hkind λenv he s1 x=>?_;subst he
 refine⟨lim.keeps x.toInCall.keep,codeAny_func ?_⟩;obtain⟨t,ht,hq⟩:=hbody A outer s H vs Q E (hr.deeper _) Bc;have I:Inv (Kp CX P w K mg base N qual scope f cdv A outer s H E) [] (Yb N vs) H s1:=DR S hr.hd e0 hl r x;refine QU (ht [] s1 (Yb N vs) H _ I hq) (λfl s' hs=>?_) λe s' hs=>hs
 have fin:∀{σ':St}{H':Hp}{v:V}{u:JX},Inv (Kp CX P w K mg base N qual scope f cdv A outer s H E) [] σ' H' s'->RelV v u->Q v H'->CE outer P w H s Q u s':=
  λ{σ' H' v u} J rv q=>⟨v,H',J.os,J.bare,J.base,J.hok,rv,q⟩
 cases fl with
 |ret u=>obtain⟨v,σ',H',J,rv,q⟩:=hs;exact fin J rv q
 |next=>obtain⟨σ',H',J,q⟩:=hs;exact fin (v:=V.non) (u:=Value.none) J Ct q
 |brk=>obtain⟨_,_,_,q⟩:=hs;exact False.elim q
 |cont=>obtain⟨_,_,_,q⟩:=hs;exact False.elim q
section
variable{X:Cx}{x:Str}{p pos:Pos}{e:J5}{es:CC}{t:TA}{id T:String}{r:List V->Hp->VK->Prop}
noncomputable def tCB(r:List V->Hp->VK->Prop)(t:TA):TE:=λσ H Q=>t σ H λvs H1=>r vs H1 Q
theorem WO(hc:Ys X (.builtin id) r)(hg:Gl X x)(hm:X.mg x=Cu)(hv:bootBuiltins x=O (.builtin id))(ha:PA X (e::es) t)(hn:x ≠ "__name__" :=by decide)(hdb:(x==("__debug__" : Str))=Cw:=by decide)
  (he:J8 (e::es) X.env=(Cw,eval e X.env)::J8 es X.env:=by rfl) (hpl:(backTo pos (J8 es X.env)).any (·.1)=Cw:=by rfl):PE X (.Call (.Name x p) (e::es) [] pos) (tCB r t):=by
 intro pins s σ H Q I h;refine Q9 (Xy I hg hm hv ?_ hn hdb);exact PyProof.Rows.callWith_builtin1 (thn (ha pos pins s σ H _ I h) λus s1 ⟨vs,H1,I1,r1,q1⟩=>hc pins s1 σ H1 vs us Q I1 r1 q1) he hpl
theorem Na(hc:Ys X (.type T) r)(hg:Gl X x)(hm:X.mg x=Cu)(hv:bootBuiltins x=O (.type T))(ha:PA X (e::es) t)(hn:x ≠ "__name__" :=by decide)(hdb:(x==("__debug__" : Str))=Cw:=by decide)
  (he:J8 (e::es) X.env=(Cw,eval e X.env)::J8 es X.env:=by rfl) (hpl:(backTo pos (J8 es X.env)).any (·.1)=Cw:=by rfl):PE X (.Call (.Name x p) (e::es) [] pos) (tCB r t):=by
 intro pins s σ H Q I h;refine Q9 (Xy I hg hm hv ?_ hn hdb);exact Jv (thn (ha pos pins s σ H _ I h) λus s1 ⟨vs,H1,I1,r1,q1⟩=>hc pins s1 σ H1 vs us Q I1 r1 q1) he hpl
end
end L2
namespace HT
open PySem PyProof.Rows
section
variable{prog:JZ}{w:World}{A:Around}{E:JX->JY->Prop}{s:JY}
noncomputable def sIx(n d:Nat):CH->Nat
 |none=>d
 |some v=>if v<0 then(v+(n:Int)).toNat else min v.toNat n
end
end HT
namespace L2
open PySem PySem.Spec PyProof.Rows
abbrev TO:=St->Hp->(CH->Hp->Prop)->Prop
def PO(X:Cx)(e:Option J5)(t:TO):Prop:=
 ∀(pins:List (J0×Obj))(s:JY)(σ:St)(H:Hp)(Q:CH->Hp->Prop),Inv X pins σ H s->t σ H Q ->
  J7 (model X.prog X.w) X.A (evalPart e X.env) (λu s'=>∃o H',Inv X pins σ H' s'/\IsPart u o/\Q o H') X.xe s
noncomputable def Fd:TO:=λ_ H Q=>Q Cu H
noncomputable def NT(t:TE):TO:=λσ H Q=>t σ H λx H1=>∃i,x=.int i/\Q (O i) H1
section
variable{X:Cx}{e:J5}{te:TE}{lo hi:Option J5}{tl th:TO}{pos p2:Pos}
theorem Fc:PO X Cu Fd:=by intro pins s σ H Q I h;rw[evalPart_none];exact Qk ⟨Cu,H,I,.none,h⟩
theorem Fb(h:PE X e te):PO X (O e) (NT te):=by
 intro pins s σ H Q I hw;rw[evalPart_some];refine thn (h pins s σ H _ I hw) λu s1 ⟨x,H1,I1,r1,q1⟩=>?_
 obtain⟨i,rfl,q⟩:=q1;obtain⟨t,rfl⟩:=r1;exact⟨O i,H1,I1,.int i t,q⟩
def SlR(X:Cx)(r:V->CH->CH->Hp->VK->Prop):Prop:=
 ∀(pins:List (J0×Obj))(s:JY)(σ:St)(H:Hp)(x:V)(v vl vu:JX)(lo hi:CH)(sl:J0)(Q:VK),Inv X pins σ H s->RelV x v->s.heap.IsSliceOf sl vl vu .none->IsPart vl lo->IsPart vu hi->r x lo hi H Q ->
  ∃T id,typeLookup (.type T) "__getitem__" = pure (O (.builtin id))/\s.TypeIs v T/\J7 (model X.prog X.w) X.A (getItem v (.ref sl)) (EP X pins σ Q) X.xe s
theorem SlR.or{r r':V->CH->CH->Hp->VK->Prop}(h:SlR X r)(h':SlR X r'):SlR X (λx lo hi H Q=>r x lo hi H Q∨r' x lo hi H Q):=by
 intro pins s σ H x v vl vu lo hi sl Q I rx hs pl pu q;rcases q with q|q
 .exact h pins s σ H x v vl vu lo hi sl Q I rx hs pl pu q
 .exact h' pins s σ H x v vl vu lo hi sl Q I rx hs pl pu q
noncomputable def tSl(r:V->CH->CH->Hp->VK->Prop)(te:TE)(tl th:TO):TE:=λσ H Q=>te σ H λx H1=>tl σ H1 λl H2=>th σ H2 λu H3=>r x l u H3 Q
theorem EB{r:V->CH->CH->Hp->VK->Prop}(hr:SlR X r)(he:PE X e te)(hl:PO X lo tl)(hu:PO X hi th):PE X (.Subscript e (.Slice lo hi Cu p2) pos) (tSl r te tl th):=by
 intro pins s σ H Q I h;refine Subscript_ (thn (he pins s σ H _ I h) λv s1 ⟨x,H1,I1,r1,q1⟩=>?_);refine wpAny_Slice (thn (hl pins s1 σ H1 _ I1 q1) λvl s2 ⟨l,H2,I2,pl,q2⟩=>thn (hu pins s2 σ H2 _ I2 q2) λvu s3 ⟨u,H3,I3,pu,q3⟩=>?_);rw[evalPart_none];refine Qk ?_;have I4:Inv X pins σ H3 {s3 with heap:=s3.heap.push {cls:=.type "slice", data:=.fields #[vl,vu,.none]}}:=I3.kept (t':=s3.toks) λb ob q=>Qd _ q
 obtain⟨T,id,hT,ht,hg⟩:=hr pins {s3 with heap:=s3.heap.push {cls:=.type "slice", data:=.fields #[vl,vu,.none]}} σ H3 x v vl vu l u s3.heap.objs.size Q I4 r1 (Heap.IsSliceOf.new ..) pl pu q3;show J7 (model X.prog X.w) X.A (subscriptTail e (.Slice lo hi Cu p2) v (.ref s3.heap.objs.size)) (EP X pins σ Q) X.xe {s3 with heap:=s3.heap.push {cls:=.type "slice", data:=.fields #[vl,vu,.none]}};exact tail_any (ops:=[.ref s3.heap.objs.size,v]) ht hT hg (by with_unfolding_all rfl)
noncomputable def Z1(xs:List V)(lo hi:CH):List V:=(xs.drop (HT.sIx xs.length 0 lo)).take (HT.sIx xs.length xs.length hi-HT.sIx xs.length 0 lo)
theorem D6(xs:List V)(lo hi:CH):(Z1 xs lo hi).length<=xs.length:=by unfold Z1;rw[Jx,Jc];omega
end
noncomputable def ixN(n:Nat)(i:Int):Option Nat:=if 0<=i then(if i<n then O i.toNat else Cu)else if -(n:Int)<=i then O (i+n).toNat else Cu
noncomputable def atI{α:Type}(xs:List α)(i:Int):Option α:=(ixN xs.length i).bind λj=>xs[j]?
theorem Fa{n:Nat}{i:Int}{j:Nat}(h:ixN n i=O j):seqIndex? i n=O j/\j<n /\ -(n:Int)<=i/\i<n:=by
 unfold ixN at h;by_cases h0:0<=i
 .rw[Qo h0]at h
  by_cases h1:i<n
  .rw[Qo h1]at h
   have e:i.toNat=j:=Q0 h;exact⟨by rw[seqIndex_of h0 h1,e],by omega,by omega,h1⟩
  .rw[Qv h1]at h;cases h
 .rw[Qv h0]at h
  by_cases h1 : -(n:Int)<=i
  .rw[Qo h1]at h
   have e:(i+n).toNat=j:=Q0 h;exact⟨by rw[seqIndex_neg (by omega) h1,e],by omega,h1,by omega⟩
  .rw[Qv h1]at h;cases h
theorem SG{α:Type}{xs:List α}{i:Int}{v:α}(h:atI xs i=O v):∃j,seqIndex? i xs.length=O j/\xs[j]?=O v/\j<xs.length /\ -(xs.length:Int)<=i/\i<xs.length:=by
 unfold atI at h;cases e:ixN xs.length i with
 |none=>rw[e]at h;cases h
 |some j=>rw[e]at h;obtain⟨h1,h2,h3,h4⟩:=Fa e;exact⟨j,h1,h,h2,h3,h4⟩
theorem ZC{α:Type}{xs:List α}{j:Nat}{v:α}(h:xs[j]?=O v):atI xs (j:Int)=O v:=by
 have hj:j<xs.length:=(Qm.mp h).1;have e:ixN xs.length (j:Int)=O j:=by unfold ixN;rw[if_pos (by omega),if_pos (by omega)];simp
 unfold atI;rw[e];exact h
def Tc(b:J5):Prop:=∀o i,subscripted b Cw o i=operate [o,i] (getItem o i)
def IxR(X:Cx)(r:R2):Prop:=
 ∀(value slice:J5)(pins:List (J0×Obj))(s:JY)(σ:St)(H:Hp)(x y:V)(v u:JX)(Q:VK),Inv X pins σ H s->RelV x v->RelV y u->r x y H Q ->
  subscripted slice Cw v u=operate [v,u] (getItem v u)->J7 (model X.prog X.w) X.A (subscriptTail value slice v u) (EP X pins σ Q) X.xe s
def MtR(X:Cx)(id:String)(r:V->List V->Hp->VK->Prop):Prop:=
 ∀(pins:List (J0×Obj))(s:JY)(σ:St)(H:Hp)(x:V)(xs:List V)(v:JX)(us:Cz)(Q:VK),Inv X pins σ H s->RelV x v->Vals xs us->r x xs H Q ->
  J7 (model X.prog X.w) X.A (call (.builtin id) (v::us)) (EP X pins σ Q) X.xe s
section
variable{X:Cx}{a b:J5}{ta tb:TE}{pos:Pos}
theorem IxR.or{r r':R2}(h:IxR X r)(h':IxR X r'):IxR X (λx y H Q=>r x y H Q∨r' x y H Q):=by
 intro value slice pins s σ H x y v u Q I rx ry q hs;rcases q with q|q
 .exact h value slice pins s σ H x y v u Q I rx ry q hs
 .exact h' value slice pins s σ H x y v u Q I rx ry q hs
theorem T8{r:R2}(hr:IxR X r)(ha:PE X a ta)(hb:PE X b tb)(hs:Tc b):PE X (.Subscript a b pos) (tOp r ta tb):=by intro pins s σ H Q I h;exact Subscript_ (Wj ha hb I h λv u s2 x y H2 I2 rx ry q=>hr a b pins s2 σ H2 x y v u Q I2 rx ry q (hs _ _))
noncomputable def rIxL(K:Frag):R2:=λx y H Q=>∃p xs i v,x=.ref p/\y=.int i/\SqL K H p xs/\atI xs i=O v/\Q v H
noncomputable def rIxT(K:Frag):R2:=λx y H Q=>∃p xs i v,x=.ref p/\y=.int i/\SqT K H p xs/\atI xs i=O v/\Q v H
noncomputable def rIxS:R2:=λx y H Q=>∃z i c,x=.str z/\y=.int i/\z.length<=J6/\atI z.cps.toList i=O c/\Q (.str ⟨#[c]⟩) H
theorem GZ:IxR X (rIxL X.K):=by
 intro value slice pins s σ H x y v u Q I rx ry h hs;obtain⟨p,xs,i,z,rfl,rfl,hq,he,q⟩:=h;cases rx;obtain⟨t,rfl⟩:=ry;obtain⟨its,r,pl,hz⟩:=I.list hq;obtain⟨j,h1,h2,h3,h4,h5⟩:=SG he;obtain⟨w,ew,rw'⟩:=r.get h2;have hl:=r.length;have hn:=VW;have fin:EP X pins σ Q w s:=⟨z,H,I,rw',q⟩
 by_cases h0:0<=i
 .have hj:i.toNat=j:=by
   rw[seqIndex_of h0 h5]at h1;exact Q0 h1
  exact item_listR pl.isList h0 (by omega) (by rw[hj];simpa using ew) fin hs
 .have hj:(i+(its.toArray.size:Int)).toNat=j:=by
   rw[seqIndex_neg (by omega) h4]at h1;rw[QQ,←hl];exact Q0 h1
  exact subscriptTail_builtinR (x:=w) pl.isList.typeIs slot_list_getitem.lookup
   (wpAny_getItem_list_neg (Q:=λr s'=>r=w/\EP X pins σ Q r s') pl.isList (by omega) (by rw[List.size_toArray]<;>omega) (by omega) (by rw[hj];simpa using ew) ⟨rfl,fin⟩) hs
theorem L8:IxR X (rIxT X.K):=by
 intro value slice pins s σ H x y v u Q I rx ry h hs;obtain⟨p,xs,i,z,rfl,rfl,hq,he,q⟩:=h;cases rx;obtain⟨t,rfl⟩:=ry;obtain⟨its,r,pl,hz⟩:=I.tuple hq;obtain⟨j,h1,h2,h3,h4,h5⟩:=SG he;obtain⟨w,ew,rw'⟩:=r.get h2;have hl:=r.length;have hn:=VW;have fin:EP X pins σ Q w s:=⟨z,H,I,rw',q⟩
 exact subscriptTail_builtinR (x:=w) pl.typeIs slot_tuple_getitem.lookup
  (getItem_tuple (j:=j) (Q:=λr s'=>r=w/\EP X pins σ Q r s') pl (by omega) (by omega) (by rw[List.size_toArray,←hl];exact h1) (by simpa using ew) ⟨rfl,fin⟩) hs
theorem L7:IxR X rIxS:=by
 intro value slice pins s σ H x y v u Q I rx ry h hs;obtain⟨z,i,c,rfl,rfl,hz,he,q⟩:=h;obtain⟨t,rfl⟩:=rx;obtain⟨t',rfl⟩:=ry;obtain⟨j,h1,h2,h3,h4,h5⟩:=SG he;have hl:z.cps.toList.length=z.length:=by simp[Str.length]
 rw[hl]at h1 h4 h5;have hn:=VW;exact tail_any (Jn s z t) slot_str_getitem.lookup (getItem_str (c:=c) (by have e1:decide (i < -(2 ^ 63:Int))=Cw:=Qt (by omega);have e2:decide (i ≥ 2 ^ 63)=Cw:=Qt (by omega);rw[e1,e2,Bool.or_false]) (by rw[h1];simpa using h2) ⟨.str ⟨#[c]⟩,H,I.tok _,⟨_,rfl⟩,q⟩) hs
noncomputable def rIx(K:Frag):R2:=λx y H Q=>rIxL K x y H Q∨rIxT K x y H Q∨rIxS x y H Q
theorem Sn:IxR X (rIx X.K):=GZ.or (L8.or L7)
theorem Ch(lo hi:CH)(n:Nat):(sliceBounds lo hi Cu n).1=((HT.sIx n 0 lo:Nat):Int)/\(sliceBounds lo hi Cu n).2.1=((HT.sIx n n hi:Nat):Int)/\(sliceBounds lo hi Cu n).2.2=1:=by
 refine⟨?_,?_,rfl⟩
 .cases lo with
  |none=>simp[sliceBounds,HT.sIx]
  |some i=>
   simp only[sliceBounds,HT.sIx,Option.getD_none,show(1:Int) > 0 by decide,if_true];by_cases h:i<0
   .simp only[h,if_true]<;>omega
   .simp only[h,if_false]<;>omega
 .cases hi with
  |none=>simp[sliceBounds,HT.sIx]
  |some i=>
   simp only[sliceBounds,HT.sIx,Option.getD_none,show(1:Int) > 0 by decide,if_true];by_cases h:i<0
   .simp only[h,if_true]<;>omega
   .simp only[h,if_false]<;>omega
theorem Cb(its:Cz)(lo hi:CH):slicePick its.toArray lo hi Cu=((its.drop (HT.sIx its.length 0 lo)).take (HT.sIx its.length its.length hi-HT.sIx its.length 0 lo)).toArray:=by obtain⟨h1,h2,h3⟩:=Ch lo hi its.toArray.size;unfold slicePick;rw[h1,h2,h3];simp only[sliceRange_one,pick_run,QQ]<;>rfl
noncomputable def rSlL(K:Frag):V->CH->CH->Hp->VK->Prop:=λx lo hi H Q=>∃a xs,x=.ref a/\SqL K H a xs/\∀p,H p=Cu->Q (.ref p) (upd H p (.lst (Z1 xs lo hi)))
theorem GY:SlR X (rSlL X.K):=by intro pins s σ H x v vl vu lo hi sl Q I rx hs pl pu h;obtain⟨a,xs,rfl,hx,q⟩:=h;cases rx;obtain⟨its,r,ht,hz⟩:=I.list hx;have hlen:=r.length;refine⟨"list", _,slot_list_getitem.lookup,ht.isList.typeIs,?_⟩;refine wpAny_getItem_list_slice ht.isList hs pl pu .none (by simp) ?_ (by rw[List.size_toArray]<;>omega);rw[Cb,←hlen];refine⟨.ref s.heap.objs.size,_,I.laid (t':=s.toks) (o:=.lst (Z1 xs lo hi)) (λb ob q=>Qd _ q) (Qs _) ?_,rfl,q _ (I.hok.fresh (Qs _))⟩;exact⟨Qn (D6 xs lo hi) hz,_,0,(r.drop (HT.sIx xs.length 0 lo)).take (HT.sIx xs.length xs.length hi-HT.sIx xs.length 0 lo),Qp _ Ct⟩
def tyV(K:Frag)(T:String)(x:V)(H:Hp):Prop:=match x with
 |.str _=>T = "str"
 |.int _=>T = "int"
 |.ref p=>(T = "list" /\ ∃xs,SqL K H p xs)∨(T = "tuple" /\ ∃o,K.lookup p=O o/\o.cls=.type "tuple" /\ o.dict=Cu) ∨
   (T = "dict" /\ ((∃kvs,H p=O (.dK kvs)) ∨ ∃kvs,H p=O (.dT kvs)))∨(T = "set" /\ ∃S n,H p=O (.set S n))
 |_=>False
theorem Pa{pins:List (J0×Obj)}{σ:St}{H:Hp}{s:JY}{T:String}{x:V}{v:JX}(I:Inv X pins σ H s)(r:RelV x v)(ty:tyV X.K T x H) :
  s.TypeIs v T/\∀a,v=.ref a->∃ob,s.heap.get? a=O ob/\ob.dict=Cu:=by
 cases x with
 |str z=>obtain⟨t,rfl⟩:=r;cases (show T = "str" from ty);exact⟨Jn s z t,λ_ e=>nomatch e⟩
 |int i=>obtain⟨t,rfl⟩:=r;cases (show T = "int" from ty);exact⟨typeIs_int s i t,λ_ e=>nomatch e⟩
 |ref p=>
  cases r;rcases ty with ⟨rfl,xs,hq⟩|⟨rfl,o,hk,hc,hd⟩|⟨rfl,hk⟩|⟨rfl,S,n,hk⟩
  .obtain⟨its,_,pl,_⟩:=I.list hq
   refine⟨pl.isList.typeIs,λa e=>?_⟩;cases e;obtain⟨o,n,e,c,hd,_⟩:=pl;exact⟨o,e,hd⟩
  .refine⟨⟨o,I.kIn p o hk,hc⟩,λa e=>?_⟩
   cases e;exact⟨o,I.kIn _ o hk,hd⟩
  .have z:∃o,s.heap.get? p=O o/\o.ExactDict:=by
    rcases hk with ⟨kvs,hk⟩|⟨kvs,hk⟩
    .obtain⟨_,_,_,_,o,_,_,e,ex,_⟩:=I.hok p _ hk
     exact⟨o,e,ex⟩
    .obtain⟨_,_,_,_,o,_,_,e,ex,_⟩:=I.hok p _ hk
     exact⟨o,e,ex⟩
   obtain⟨o,e,ex⟩:=z;refine⟨⟨o,e,ex.1⟩,λa e2=>?_⟩;cases e2;exact⟨o,e,ex.2.1⟩
  .obtain⟨o,_,_,_,e,ex,_⟩:=I.hok p _ hk
   refine⟨⟨o,e,ex.1⟩,λa e2=>?_⟩;cases e2;exact⟨o,e,ex.2.1⟩
 |_=>exact False.elim ty
noncomputable def tBM0(K:Frag)(T:String)(r:V->List V->Hp->VK->Prop)(to:TE):TE:=λσ H Q=>to σ H λx H1=>tyV K T x H1/\r x [] H1 Q
noncomputable def tBM(K:Frag)(T:String)(r:V->List V->Hp->VK->Prop)(to:TE)(t:TA):TE:=λσ H Q=>to σ H λx H1=>tyV K T x H1/\t σ H1 λxs H2=>r x xs H2 Q
variable{o e:J5}{es:CC}{to:TE}{t:TA}{name:Str}{apos cpos:Pos}{T id:String}{r:V->List V->Hp->VK->Prop}
theorem L6(pa:PlainAttrs T)(slot:Slot T name id)(hty:typeOf (.builtin id)=pure (.type "method_descriptor"))(hm:MtR X id r)(ho:PE X o to)
  (hbase:attributeBase o name X.env (eval o X.env)=eval o X.env:=by rfl) (hline:(apos.endLine==cpos.line)=Cv:=by rfl):PE X (.Call (.Attribute o name apos) [] [] cpos) (tBM0 X.K T r to):=by
 intro pins s σ H Q I h;refine wpAny_Call_method0_late hbase hline (thn (ho pins s σ H _ I h) λv s1 ⟨x,H1,I1,r1,ty,q1⟩=>?_);obtain⟨h1,h2⟩:=Pa I1 r1 ty;exact⟨T,id,pa,slot,hty,h1,h2,Calls.callWith_builtin Ct (PySem.evalArgs_none (hm pins s1 σ H1 x [] v [] Q I1 r1 .nil q1))⟩
theorem Wr(pa:PlainAttrs T)(slot:Slot T name id)(hty:typeOf (.builtin id)=pure (.type "method_descriptor"))(hm:MtR X id r)(ho:PE X o to)(ha:PA X (e::es) t)
  (hbase:attributeBase o name X.env (eval o X.env)=eval o X.env:=by rfl)
  (hfew:((backTo cpos (J8 (e::es) X.env)).all (λx=>!x.1)&&(backToKw cpos (keywordEach [] X.env)).all (λx=>x.1.isSome)
   && decide ((e::es).length+([]:List Keyword).length+(if([]:List Keyword).isEmpty then 0 else 1)<30))=Cv:=by rfl)
  (hline:(apos.endLine==cpos.line)=Cv:=by rfl) (hs:J8 (e::es) X.env=(Cw,eval e X.env)::J8 es X.env:=by rfl) (hplain:(backTo cpos (J8 es X.env)).any (·.1)=Cw:=by rfl) :
  PE X (.Call (.Attribute o name apos) (e::es) [] cpos) (tBM X.K T r to t):=by
 intro pins s σ H Q I h;refine wpAny_Call_method_late hbase hfew hline Ct (thn (ho pins s σ H _ I h) λv s1 ⟨x,H1,I1,r1,ty,q1⟩=>?_);obtain⟨h1,h2⟩:=Pa I1 r1 ty;refine⟨T,id,pa,slot,hty,h1,h2,?_⟩;have hA:=ha cpos pins s1 σ H1 _ I1 q1;rw[hs]at hA⊢;refine Calls.callWith_builtin (by show(Cw || (backTo cpos (J8 es X.env)).any (·.1))=Cw;rw[hplain]<;>rfl) (Calls.evalArgs_plain ?_);exact thn hA λus s2 ⟨vs,H2,I2,r2,q2⟩=>hm pins s2 σ H2 x vs v us Q I2 r1 r2 q2
end
def MtM(X:Cx)(id:String)(r:V->List V->Hp->VK->Prop):Prop:=
 ∀(pins:List (J0×Obj))(s:JY)(σ:St)(H:Hp)(x:V)(xs:List V)(v:JX)(us:Cz)(Q:VK),Inv X pins σ H s->RelV x v->Vals xs us->r x xs H Q ->
  J7 (model X.prog X.w) X.A (call (.builtin id) (v::us)) (EP X pins σ Q) X.xe s
theorem Vals.one:∀{x:V}{us:Cz},Vals [x] us->∃u,us=[u]/\RelV x u
 |_,_,.cons r .nil=>⟨_,rfl,r⟩
theorem Vals.zero:∀{us:Cz},Vals [] us->us=[]
 |_,.nil=>rfl
theorem Vals.reverse{xs:List V}{us:Cz}(h:Vals xs us):Vals xs.reverse us.reverse:=by
 induction h with
 |nil=>exact .nil
 |cons r t ih=>rw[Jy,Jy];exact Vals.append ih (.cons r .nil)
theorem Vals.rep{xs:List V}{us:Cz}(h:Vals xs us):∀k:Nat,Vals (Ub k xs).flatten (Ub k us).flatten
 |0=>.nil
 |k+1=>by rw[Jj,Jj,Jz,Jz];exact Vals.append h (Vals.rep h k)
theorem O9(its:Cz):∀(k:Nat)(acc:Cz),
  List.foldl (λx1 x2=>x1++x2) acc.toArray (Ub k its.toArray)=(acc++(Ub k its).flatten).toArray
 |0,acc=>by simp
 |k+1,acc=>by
  have e:acc.toArray++its.toArray=(acc++its).toArray:=by simp
  have e2:(acc++its)++(Ub k its).flatten=acc++(Ub (k+1) its).flatten:=by rw[Jj,Jz,Jq]
  rw[←e2,←O9 its k (acc++its),←e,Jj,List.foldl_cons]
section
variable{X:Cx}{pins:List (J0×Obj)}{σ:St}{H:Hp}{s:JY}{l b:J0}{xs ys zs:List V}
theorem Inv.lset{its its':Cz}{n:Nat}{f:Array JX->Array JX}{t':Nat}(I:Inv X pins σ H s)(hH:H l=O (.lst xs))
  (e:s.heap.get? l=O {cls:=.type "list", data:=.seq its.toArray n}) (hf:f its.toArray=its'.toArray) (hv:Vals ys its') (hz:ys.length<=J6) :
  Inv X pins σ (upd H l (.lst ys)) {s with heap:=s.heap.update l (Obj.mapSeq f),toks:=t'}:=by
 have q:=PySem.IsL.update e f;rw[hf]at q;refine I.write (x:=l) (e:=l) (by rw[hH];exact trivial) (.inl Ct) (λb' u hb hu=>(QN s.heap (Obj.mapSeq f) (Ne.symm hb)).trans hu) ⟨_,q⟩ ?_;exact⟨hz,its',_,hv,q⟩
theorem Inv.lnew{its:Cz}{t':Nat}(I:Inv X pins σ H s)(hv:Vals ys its)(hz:ys.length<=J6) :
  Inv X pins σ (upd H s.heap.objs.size (.lst ys)) {s with heap:=s.heap.push {cls:=.type "list", data:=.seq its.toArray},toks:=t'}:=
 I.laid (λ_ _ q=>Qd _ q) (Qs _) ⟨hz,its,0,hv,Qp _ Ct⟩
theorem Inv.fresh(I:Inv X pins σ H s):H s.heap.objs.size=Cu:=I.hok.fresh (Qs _)
theorem Inv.lstM(I:Inv X pins σ H s)(hH:H l=O (.lst xs)):xs.length<=J6/\∃(its:Cz)(n:Nat),Vals xs its/\xs.length=its.length/\s.heap.get? l=O {cls:=.type "list", data:=.seq its.toArray n}:=by obtain⟨z,its,n,r,e⟩:=I.hok l _ hH;exact⟨z,its,n,r,r.length,e⟩
theorem EA{n:Nat}(h:n<=J6):Builtin.List.listTooLong n=Cw:=by unfold Builtin.List.listTooLong;exact Qt (by omega)
end
section
variable{X:Cx}
noncomputable def GX:V->List V->Hp->VK->Prop:=λx vs H Q=>∃l xs y,x=.ref l/\vs=[y]/\H l=O (.lst xs)/\xs.length<J6/\Q .non (upd H l (.lst (xs++[y])))
theorem TK:MtM X "list.append" GX:=by intro pins s σ H x vs v us Q I rx rv h;obtain⟨l,xs,y,rfl,rfl,hH,hz,q⟩:=h;cases rx;obtain⟨u,rfl,ru⟩:=rv.one;obtain⟨z,its,n,r,hl,e⟩:=I.lstM hH;refine Jo F.slot_list_append ⟨_,e,rfl⟩ F.entry_list_append (F.args_list_append_2 _ _) (PySem.list_append l its.toArray n u (by rw[QQ];omega)) ⟨e,?_⟩;refine⟨.non,_,I.lset (its':=its++[u]) hH e (by simp) (r.append (.cons ru .nil)) ?_,rfl,q⟩;rw[Qu,JM];omega
noncomputable def L5:V->List V->Hp->VK->Prop:=λx vs H Q=>∃l xs,x=.ref l/\vs=[]/\H l=O (.lst xs)/\Q .non (upd H l (.lst []))
theorem Ez:MtM X "list.clear" L5:=by intro pins s σ H x vs v us Q I rx rv h;obtain⟨l,xs,rfl,rfl,hH,q⟩:=h;cases rx;have hus:=rv.zero;subst hus;obtain⟨z,its,n,r,hl,e⟩:=I.lstM hH;refine Jo F.slot_list_clear ⟨_,e,rfl⟩ F.entry_list_clear (F.args_list_clear_1 _) (AutoSeq1.list_clear_list_0 l its.toArray n (by rw[QQ];omega)) ⟨e,?_⟩;exact⟨.non,_,I.lset (its':=[]) (ys:=[]) hH e Ct .nil (JN _),rfl,q⟩
theorem GW{α:Type}(xs:List α)(k:Nat):(Ub k xs).flatten.length=k*xs.length:=by
 induction k with
 |zero=>simp
 |succ k ih=>rw[Jj,Jz,Qu,ih,Nat.succ_mul,Nat.add_comm]
end
section
variable{prog:JZ}{w:World}{A:Around}{E:JX->JY->Prop}{s:JY}
set_option maxRecDepth 100000 in
end
end L2
namespace Att
open PySem PySem.W PySem.Calls PyProof.Rows
theorem Ck{P:Params}{h:Heap}:∀(ns:CD)(vs:Cz),WellAll P h vs (ns.map WData.int)->IntsAre vs ns:=by
 intro ns;induction ns with
 |nil=>intro vs w;rw[List.map_nil]at w;cases w;exact .nil
 |cons n ns ih=>
  intro vs w;rw[QI]at w;cases w with
  |cons a b=>cases a;exact .cons _ _ (ih _ b)
theorem DQ{l:OpenLaw}{n:Nat}(hn:l.most=O n){P:Params}{h:Heap}{args:List WData}{vals:Cz}
  (hpre:l.row.toRowW.claim.pre args=Cv) (BZ:WellAll P h vals args) :
  ∃a vs ns,vals=[Value.ref a]/\args=[WData.list (ns.map WData.int)]/\h.get? a=O {cls:=.type "list", data:=.seq vs.toArray}/\IntsAre vs ns/\ns.length<=n:=by
 have hsh:WShape.hasAll [] args [.list .int]=Cv:=(pre_splitW hpre).1;have hc:l.pre.holds [] {args:=args}=Cv:=(pre_splitW hpre).2;obtain⟨d,r,rfl,h1,h2⟩:=hasAllW_cons hsh;obtain rfl:=hasAllW_nil h2;obtain⟨xs,rfl,h3⟩:=hasW_list h1;obtain⟨ns,rfl⟩:=items_int h3
 have hlen:ns.length<=n:=by
  unfold OpenLaw.pre at hc;have h4:(WTm.not (.lt (.lit (.int (n:Int))) (.len (.arg 0)))).holds [] {args:=[.list (ns.map .int)]}=Cv:=by have h4:=(holds_andW hc).1;rw[hn]at h4;exact h4
  have h5:=condW_of h4 (w_not (w_lt w_lit (w_len_list (w_arg Ct))));rw[Qg]at h5;refine QY λq=>?_;have q':(n:Int)<((ns.length:Nat):Int):=by omega
  first
   |(rw[QM q']at h5;exact absurd h5 (by decide))
   |(simp at h5;omega)
 cases BZ with
 |cons w1 w2=>
  cases w2;cases w1 with
  |list ho hall=>exact⟨_,_,ns,rfl,rfl,ho,Ck ns _ hall,hlen⟩
theorem DP(l:OpenLaw)(args:List WData):l.row.toRowW.claim.post args (.bool Cv) args=Cv:=
 postW_of (r:=l.row.toRowW) (X:=(Cv==Cv))
  (show WShape.has [] (.bool Cv) .bool=Cv by first|rfl|decide|simp[WShape.has,WShape.arms,WShape.armsAll])
  (show(WTm.eq .res (.lit (.bool Cv))).value [] {args:=args,res:=O (.bool Cv),after:=args}=O (.bool (Cv==Cv))from w_eq_bool (w_res Ct) w_lit) Ct
theorem attach_call{l:OpenLaw}{n:Nat}{q:JZ}{loose:List Str}{XP:(Str->CB)->Heap->Prop}{YP:World->Heap->Prop}{d:DefRec}
  (hn:l.most=O n) (hdf:d.params.defaults=[])
  (call:∀(w:World)(s₀ s₁:JY)(mg mb:Str->CB)(fa:J0)(o:Obj)(pm cd doc:JX)(a:J0)(vs:Cz)(ns:CD),
   Ground q loose [] XP w s₀ mg mb s₁.heap->YP w s₁.heap ->
   s₁.heap.get? fa=O o->o.data=.func (docDef d.name d.params d.body d.scope pm cd doc)->s₁.heap.CodeRec cd d.name->mg d.name=O (.ref fa) ->
   s₁.heap.get? a=O {cls:=.type "list", data:=.seq vs.toArray}->IntsAre vs ns->ns.length<=n->s₁.gens=#[] ->
   codeAny (model l.prog w) callerA (.call (.ref fa) ⟨[.ref a],[]⟩) (λr s'=>r=.ok (.ret (.bool Cv))/\OldK s₁.heap s'.heap/\s'.os=s₁.os/\AllBare s'.gens) s₁) :
  WalkO q loose XP YP l.row.toRowW d [] (λf vs=>PySem.call f vs):=by
 intro w s₀ s₁ mg mb G Y fa o pm cd doc dV kV ho hd hcd hD hmg hg args vals as hpre hlay hrd BZ hlo;obtain rfl:dV=.none:=Dflts.none hD hdf;obtain rfl:kV=.none:=Dflts.noKw hD;obtain⟨a,vs,ns,rfl,rfl,hobj,hints,hlen⟩:=DQ hn hpre BZ;refine enter_call (codeAny_mono (call w s₀ s₁ mg mb fa o pm cd doc a vs ns G Y ho (fd_plain hd) hcd hmg hobj hints hlen hg) λr s' hq=>?_);obtain⟨rfl,h2,h3,h4⟩:=hq;exact⟨.inl ⟨.bool Cv,.bool Cv,[],rfl,λ_=>rfl,.bool Cv,DP l _,λ_=>⟨List.Pairwise.nil,λ_ hm=>(nomatch hm)⟩⟩,h2,h3,h4⟩
end Att
namespace L2
open PySem PySem.Spec PyProof.Rows
theorem OK:∀{vs:Cz}{ns:CD},IntsAre vs ns->Vals (ns.map V.int) vs
 |_,_,.nil=>.nil
 |_,_,.cons n t h=>.cons ⟨t,rfl⟩ (OK h)
def Only(H:Hp):Prop:=∀b,H b=Cu ∨ ∃o xs,H b=O (.frz o (.lst xs))
theorem Ey{P:JZ}{w:World}{K:Frag}{mg mb:Str->CB}{CX:CXT}{k:Nat}{fa a:J0}{fd:J4}{x:Str}{sp:Sp}{s₁:JY}{vs:Cz}{ns:CD}
  (KX:K.In s₁.heap) (hns:s₁.heap.Ns mainGlobals mg) (hb:s₁.heap.Ns builtinsNs mb) (hbb:∀x:Str,x ≠ "__name__" -> mb x=bootBuiltins x) (hlim:s₁.heap.NoLimit) (hg:s₁.gens=#[])
  (ha:s₁.heap.get? a=O {cls:=.type "list", data:=.seq vs.toArray}) (hi:IntsAre vs ns) (hl:ns.length<=J6) (hr:Room k callerA)
  (F:∀base:Heap,K.In base->base.Ns mainGlobals mg->FnOk P w K mg base CX k fa fd [x] sp) (hbind:∀(s:JY)(u:JX),BindsTo s fd ⟨[u],[]⟩ [(x,u)])
  (Bc:∀H:Hp,Only H->SqL K H a (ns.map V.int)->sp [.ref a] H (λv _=>v=.bl Cv) λ_ _ _=>False)
  (hCX:∀H e s',CX [] H s₁ (λ_ _ _=>False) e s'->False) :
  codeAny (model P w) callerA (.call (.ref fa) ⟨[.ref a],[]⟩) (λr s'=>r=.ok (.ret (.bool Cv))/\OldK s₁.heap s'.heap/\s'.os=s₁.os/\AllBare s'.gens) s₁:=by
 have rv:=OK hi;have lenV:=hi.length
 have core:∀H:Hp,Only H->SqL K H a (ns.map V.int)->HOk P w H s₁.heap->(∀b,H b≠Cu->b=a)->(H a≠Cu->K.lookup a=Cu) ->
   codeAny (model P w) callerA (.call (.ref fa) ⟨[.ref a],[]⟩) (λr s'=>r=.ok (.ret (.bool Cv))/\OldK s₁.heap s'.heap/\s'.os=s₁.os/\AllBare s'.gens) s₁:=by
  intro H hO hS hok hA hK;have base_of:∀{b:J0}{o:Obj},s₁.heap.get? b=O o->H b=Cu->(Zk s₁.heap H).get? b=O o:=λe n=>EF e n
  have noA:∀{b:J0}{o:Obj}{es:Array DictEntry}{ep:Nat},s₁.heap.get? b=O o->o.data=.dict es ep->H b=Cu:=λ{b o es ep} e d=>by
   cases q:H b with
   |none=>rfl
   |some u=>have e':b=a:=hA b (by rw[q];simp);subst e';rw[ha]at e;cases e;have d':Data.seq vs.toArray _=Data.dict es ep:=d;cases d'
  have nsK:∀{b:J0}{m:Str->CB},s₁.heap.Ns b m->(Zk s₁.heap H).Ns b m:=λ{b m} ⟨o,es,ep,e,d,r⟩=>⟨o,es,ep,base_of e (noA e d),d,r⟩
  have hKb:K.In (Zk s₁.heap H):=λb o e=>base_of (KX b o e) (by
   cases q:H b with
   |none=>rfl
   |some u=>have e':b=a:=hA b (by rw[q];simp);subst e';rw[hK (by rw[q];simp)]at e;cases e)
  have hM:Mod K mg (Zk s₁.heap H):=⟨hKb,nsK hns,⟨mb,nsK hb,hbb⟩,let ⟨mc,h1,h2⟩:=hlim;⟨mc,nsK h1,h2⟩⟩
  have e0:Env0 P w K mg (Zk s₁.heap H) callerA [] s₁ H:=⟨rfl,hM,λb o e=>GE e,Nat.le_of_eq (DD _ _),trivial,λb hb=>absurd (show b∈([]:CF)from hb) (by simp),hok,.of_eq hg⟩
  refine codeAny_mono ((F _ hKb (nsK hns)).run callerA [] s₁ H ⟨[.ref a],[]⟩ [.ref a] [.ref a] _ _ hr e0 (hbind s₁ (.ref a)) (.cons Ct .nil) (Bc H hO hS)) λr s' h=>?_
  cases r with
  |error e=>exact(hCX H e s' h).elim
  |ok fl=>
   cases fl with
   |next=>exact False.elim h
   |brk=>exact False.elim h
   |cont=>exact False.elim h
   |ret u=>
    obtain⟨v,H',os,bare,un,hok',r',q⟩:=h;have q':v=.bl Cv:=q;subst q';obtain rfl:u=Value.bool Cv:=r';refine⟨rfl,OldK.of_keep λb o e=>?_,os,bare⟩;cases q:H b with
    |none=>exact un.keep b o e q (by intro z;exact absurd (show b∈([]:CF)from z) (by simp)) (by simp)
    |some u=>
     rcases hO b with z|⟨ob,xs,z⟩
     .rw[q]at z;cases z
     .have z2:=un.frzs b ob _ z
      obtain⟨e1,_⟩:=hok b _ z;obtain⟨e2,_⟩:=hok' b _ z2;rw[e]at e1;cases e1;exact e2
 cases hk:K.lookup a with
 |some o=>have e:=KX a o hk;rw[ha]at e;cases e;refine core (λ_=>Cu) (λ_=>.inl Ct) (.inr ⟨_,vs.toArray,_,hk,rfl,rfl,rfl,by rw[List.size_toArray,lenV];exact hl,by simpa using rv⟩) (λb u z=>by have z':(none:Option HO)=O u:=z;cases z') (λb z=>absurd Ct z) λz=>absurd Ct z
 |none=>
  refine core (λb=>if b=a then O (.frz {cls:=.type "list", data:=.seq vs.toArray} (.lst (ns.map V.int)))else Cu) (λb=>?_) (.inl (.inr ⟨{cls:=.type "list", data:=.seq vs.toArray},Qo Ct⟩)) (λb u z=>?_) (λb z=>?_) λ_=>hk
  .by_cases hb:b=a
   .exact .inr ⟨_,_,Qo hb⟩
   .exact .inl (Qv hb)
  .by_cases hb:b=a
   .have z':=(Qo hb).symm.trans z
    cases z';subst hb;exact⟨ha,by rw[Qg];exact hl,vs,_,rv,ha⟩
   .have z':=(Qv hb).symm.trans z
    cases z'
  .by_cases hb:b=a
   .exact hb
   .exact absurd (Qv hb) z
noncomputable def ZT(s:Stmt):Arguments:=match s with
 |.FunctionDef _ a _ _ _ _ _ _ _ _=>a
 |_=>{posonlyargs:=[],args:=[],vararg:=Cu,kwonlyargs:=[],kw_defaults:=[],kwarg:=Cu,defaults:=[]}
noncomputable def KZ(s:Stmt):List Stmt:=match s with
 |.FunctionDef _ _ b _ _ _ _ _ _ _=>b
 |_=>[]
noncomputable def U6(s:Stmt):Scope:=match s with
 |.FunctionDef _ _ _ _ _ _ sc _ _ _=>sc
 |_=>{kind:=.function,names:=[],isGenerator:=Cw,isCoroutine:=Cw}
noncomputable abbrev CX0:CXT:=λ_ _ _ _ _ _=>False
noncomputable abbrev E0:XK:=λ_ _ _=>False
theorem W6{X:Cx}:V8 CX0 X E0:=λ_ _ _ _ _ _ _ h=>h.elim
structure Fun(K:Frag)(x qual:Str)(st:Stmt)(f:J0)(fd:J4):Prop where
 ex:∃(oc:JX)(od:CJ)(kV doc pm:JX)(an:CJ)(cdv ct:JX)(osl:Array CB),
  fd=PySem.W.fnOf x qual (ZT st) (KZ st) (U6 st) .none kV doc pm an cdv ct/\K.lookup f=O ⟨oc,od,.func fd,osl⟩/\PySem.W.codeIn K cdv qual=Cv
 kp:PySem.W.keepIn K (.ref f)=Cv
section
variable{P:JZ}{w:World}{K:Frag}{mg:Str->CB}{base:Heap}
theorem Fun.ok{x qual:Str}{st:Stmt}{f:J0}{fd:J4}{N ps:List Str}{k:Nat}{sp:Sp}(F:Fun K x qual st f fd)(S:Xq N ps (U6 st))(len:∀vs H Q E,sp vs H Q E->vs.length=ps.length)
  (hbody:∀(cdv:JX)(A:Around)(outer:List Env)(s:JY)(H:Hp)(vs:List V)(Q:VK)(E:XK),Room k (A.deeper (envOfC qual (U6 st) s.heap.objs.size f cdv))->sp vs H Q E ->
   ∃t,PSs (Kp CX0 P w K mg base N qual (U6 st) f cdv A outer s H E).nox (KZ st) t/\t {nx:=λ_ H'=>Q .non H',rt:=Q} (Yb N vs) H):FnOk P w K mg base CX0 (k+1) f fd ps sp:=by
 obtain⟨oc,od,kV,doc,pm,an,cdv,ct,osl,rfl,lk,hcd⟩:=F.ex;refine RH lk hcd S len λA outer s H vs Q E hr Bc=>?_
 obtain⟨t,h,q⟩:=hbody cdv A outer s H vs Q E hr Bc;exact⟨t,h.nox,q⟩
theorem Fun.binds{x qual:Str}{st:Stmt}{f:J0}{fd:J4}{ps:List Str}(F:Fun K x qual st f fd)
  (h:∀(kV doc pm:JX)(an:CJ)(cdv ct:JX)(us:Cz),us.length=ps.length->bindArgs (PySem.W.fnOf x qual (ZT st) (KZ st) (U6 st) .none kV doc pm an cdv ct) ⟨us,[]⟩=pure (ps.zip us)):Zd K fd ps []:=by
 obtain⟨oc,od,kV,doc,pm,an,cdv,ct,osl,rfl,lk,hcd⟩:=F.ex;exact .all (h kV doc pm an cdv ct)
end
def Same(H H':Hp):Prop:=∀b o,H b=O o->H' b=O o
theorem Same.refl(H:Hp):Same H H:=λ_ _ h=>h
theorem Same.trans{H H1 H2:Hp}(a:Same H H1)(b:Same H1 H2):Same H H2:=λc o h=>b c o (a c o h)
theorem Same.free{H H':Hp}(e:Same H H'){l:J0}(h:H' l=Option.none):H l=Option.none:=by
 cases q:H l with
 |none=>rfl
 |some o=>rw[e l o q]at h;cases h
theorem Same.seq{K:Frag}{H H':Hp}{a:J0}{xs:List V}(e:Same H H')(h:SqL K H a xs):SqL K H' a xs:=by
 rcases h with (h|⟨o,h⟩)|h
 .exact .inl (.inl (e _ _ h))
 .exact .inl (.inr ⟨o,e _ _ h⟩)
 .exact .inr h
section
variable{X:Cx}{pins:List (J0×Obj)}{σ:St}{H:Hp}{s:JY}{h':Heap}
theorem Inv.turnedNew{t':Nat}{fp:CF}{p:J0}{o:HO}(I:Inv X pins σ H s)(hf:∀b∈fp,Ky X pins H b)
  (k:∀b o,b∉fp->s.heap.get? b=O o->h'.get? b=O o) (hp:s.heap.objs.size<=p) (new:KW X.prog X.w (upd H p o) h' p o) :
  Inv X pins σ (upd H p o) {s with heap:=h',toks:=t'}:=by
 have hn:H p=Cu:=I.hok.fresh hp;have trk:∀b u,H b=O u->b∉fp:=λb u e z=>by rw[(hf b z).1]at e;cases e
 refine I.step (g':=s.gens) (d':=s.drawn) (ch:=fp) (λb hb=>?_) (λb o _ _ hc e _=>k b o hc e) (λb o _ _ hc e _=>⟨o.slots,k b o hc e⟩)
  (λb o _ e n=>by rw[UR (QP (Qy (Qf e) hp))];exact n) (λb o hc e=>⟨o,k b o hc e⟩)
  (λb xs e=>by rw[UR (Zn e hn)];exact e) (λb ob u e=>by rw[UR (Zn e hn)];exact e) (λb ps e=>⟨#[],by rw[UR (Zn e hn),e];simp⟩)
  (λm hm=>?_) (λb u e=>?_) I.bare
 .obtain⟨_,f1,_,f3,f4,f5⟩:=hf b hb
  exact⟨f3,f1,f4,f5⟩
 .obtain⟨ob,es,ep,ho,r⟩:=hm
  exact⟨ob,es,ep,k _ ob (λz=>(hf _ z).2.1 Ct) ho,r⟩
 .by_cases hb:b=p
  .subst hb;rw[U9]at e;cases e;exact new
  .rw[UR hb]at e
   refine(I.hok b u e).stay (λc v hc q=>k c v ?_ q) (λc q=>by rw[UR (Zn q hn)];exact q) λc xs q=>by rw[UR (Zn q hn)];exact q
   rcases hc with z|z
   .rw[z];exact trk b u e
   .exact trk c _ z
theorem Inv.turnedL{t':Nat}{fp:CF}(I:Inv X pins σ H s)(hf:∀b∈fp,Ky X pins H b)
  (k:∀b o,b∉fp->s.heap.get? b=O o->h'.get? b=O o):Inv X pins σ H {s with heap:=h',toks:=t'}:=by
 have trk:∀b u,H b=O u->b∉fp:=λb u e z=>by rw[(hf b z).1]at e;cases e
 refine I.step (g':=s.gens) (d':=s.drawn) (ch:=fp) (λb hb=>?_) (λb o _ _ hc e _=>k b o hc e) (λb o _ _ hc e _=>⟨o.slots,k b o hc e⟩)
  (λ_ _ _ _ n=>n) (λb o hc e=>⟨o,k b o hc e⟩) (λ_ _ e=>e) (λ_ _ _ e=>e) (λb ps e=>⟨#[],by rw[e];simp⟩) (λm hm=>?_) (λb u e=>?_) I.bare
 .obtain⟨_,f1,_,f3,f4,f5⟩:=hf b hb
  exact⟨f3,f1,f4,f5⟩
 .obtain⟨ob,es,ep,ho,r⟩:=hm
  exact⟨ob,es,ep,k _ ob (λz=>(hf _ z).2.1 Ct) ho,r⟩
 .refine(I.hok b u e).stay (λc v hc q=>k c v ?_ q) (λc q=>q) λc xs q=>q
  rcases hc with z|z
  .rw[z];exact trk b u e
  .exact trk c _ z
end
noncomputable def Ite(K:Frag)(a:J0):It:=
 ⟨λi H=>∃xs x,SqL K H a xs/\xs[i]?=O x,
  λi H v H'=>∃p x,H p=Cu/\v=.ref p/\(∀xs,SqL K H a xs->xs[i]?=O x)/\H'=upd H p (.tup [.int i,x]),
  λi H=>∃xs,SqL K H a xs/\xs.length<=i⟩
theorem DO{P:JZ}{w:World}{K:Frag}{elts:CC}{x1}{tp:Pos}(a e it:J0)(hne:e≠it) :
  Turn P w K (.Tuple elts x1 tp) (Ite K a) [e,it] e (λi h=>(∃old,IsEnum h e it i old)/\h.IsListIter it a i) where
 mem:=by simp
 obj:=λi h st b hb=>by
  obtain⟨⟨old,he⟩,o,ho,c,d⟩:=st;have hb':b=e∨b=it:=by simpa using hb
  rcases hb' with rfl|rfl
  .exact⟨_,he,λv z=>by have z':Data.fields _=Data.cell v:=z;cases z'⟩
  .exact⟨o,ho,λv z=>by rw[d]at z;cases z⟩
 keep:=λi h h' st k=>by obtain⟨⟨old,he⟩,hi⟩:=st;exact⟨⟨old,k e (by simp) _ he⟩,hi.at λo q=>k it (by simp) o q⟩
 item:=by
  intro X hP hw hK hc i pins s σ H E I hf st hg;subst hP hw hK;obtain⟨⟨old,he⟩,hi⟩:=st;obtain⟨xs,x,hq,hx⟩:=hg;obtain⟨its,rv,p,hz⟩:=I.list hq;obtain⟨u,hu,ru⟩:=rv.get hx;refine wpAny_pyNext_enum_item he hi p.isList (x:=u) (by simpa using hu) hne λh1 out hi1 ht hsz kk=>?_
  refine⟨_,rfl,wpAny_letOwnedTupleGo_enum out λh2 he2 hs2=>?_⟩;have hel:e<s.heap.objs.size:=Qf he;have BH:Heap.SameBut e h1 h2:=hs2;have ht2:h2.get? s.heap.objs.size=O {cls:=.type "tuple", data:=.seq #[.int i s.toks,u]}:=(BH.2 _ (Ju hel)).trans ht
  have kk2:∀b o,b∉[e,it]->s.heap.get? b=O o->h2.get? b=O o:=λb o hb q=>by
   have Bf:b≠e:=λz=>hb (by simp[z])
   have hbi:b≠it:=λz=>hb (by simp[z])
   exact(BH.2 b Bf).trans (kk b o Bf hbi q)
  have hn:H s.heap.objs.size=Cu:=I.hok.fresh (Qs _)
  have I2:Inv X pins σ (upd H s.heap.objs.size (.tup [.int i,x])) {s with heap:=h2,toks:=s.toks+1}:=
   I.turnedNew (fp:=[e,it]) hf kk2 (Qs _) ⟨by show 2<=J6;decide,[.int i s.toks,u],.cons ⟨_,rfl⟩ (.cons ru .nil),⟨_,ht2,rfl,_,rfl⟩⟩
  refine⟨.ref s.heap.objs.size,_,I2,rfl,⟨_,x,hn,rfl,λys hy=>by rw[I.list_inj hy hq];exact hx,rfl⟩,⟨⟨u,?_⟩,?_⟩,λb hb=>?_⟩
  .have:=he2
   simpa using this
  .have hi2:h2.IsListIter it a (i+1):=hi1.at λo q=>(BH.2 it (Ne.symm hne)).trans q
   exact hi2
  .have fr:=(hf b hb)
   have hlt:b<s.heap.objs.size:=by
    have hb':b=e∨b=it:=by simpa using hb
    rcases hb' with rfl|rfl
    .exact hel
    .obtain⟨o,ho,_⟩:=hi;exact Qf ho
   rw[UR (QP hlt)];exact fr.1
 done:=by intro X hP hw hK hc i pins s σ H E I hf st hg;subst hP hw hK;obtain⟨⟨old,he⟩,hi⟩:=st;obtain⟨xs,hq,hx⟩:=hg;obtain⟨its,rv,p,hz⟩:=I.list hq;have hl:=rv.length;exact wpAny_pyNext_enum_end (I.ok.hd hc) he hi p.isList (by simp;omega) λh' eb=>⟨rfl,I.turnedL (t':=s.toks) hf λb o hb q=>eb b o (λz=>hb (by simp[z])) q⟩
 self:=λ_ _ _ _ _ st h=>by obtain⟨⟨old,he⟩,_⟩:=st;exact wpAny_pyIter_enum he h
section
variable{X:Cx}
noncomputable def NS(K:Frag)(ta:TA):TI:=λσ H R=>ta σ H λvs H1=>∃a xs,vs=[.ref a]/\SqL K H1 a xs/\R (Ite K a) H1
theorem GV{a:J5}{ta:TA}{p pos:Pos}{elts:CC}{x1}{tp:Pos}(hg:Gl X "enumerate")(hm:X.mg "enumerate" = Cu)(ha:PA X [a] ta)
  (hs:J8 [a] X.env=[(Cw,eval a X.env)]:=by rfl):PI X (.Tuple elts x1 tp) (.Call (.Name "enumerate" p) [a] [] pos) (NS X.K ta):=by
 intro pins s σ H R I h;refine Call_ (Xy I hg hm boot_enumerate (Jv (thn (ha pos pins s σ H _ I h) λus s1 ⟨vs,H1,I1,r1,q1⟩=>?_) hs Ct));obtain⟨l,xs,e,hq,q⟩:=q1;subst e;cases r1 with
 |cons r rr=>
  cases rr;cases (show _=Value.ref l from r);obtain⟨its,rv,pl,hz⟩:=I1.list hq;refine call_enumerate_list pl.isList λh' he hi hsz kk=>?_;have I2:Inv X pins σ H1 {s1 with heap:=h'}:=I1.kept (t':=s1.toks) kk;refine wpAny_pyIter_enum he ?_
  refine⟨s1.heap.objs.size+1,[s1.heap.objs.size+1,s1.heap.objs.size],_,_,H1,rfl,I2,DO l _ _ (Nat.succ_ne_self _),⟨⟨_,he⟩,hi⟩,λb hb=>?_,q⟩;have hb':b=s1.heap.objs.size+1∨b=s1.heap.objs.size:=by simpa using hb
  rcases hb' with rfl|rfl
  .exact I1.fpOk (Nat.le_succ _) (I1.hok.fresh (Nat.le_succ _))
  .exact I1.fpOk (Qs _) (I1.hok.fresh (Qs _))
end
end L2
namespace L2
open PySem PySem.Spec
def Tail(bmB bm:Cz):Prop:=∀(X:String)(b:Bool),bmB.contains (.type X)=b->bm.contains (.type X)=b
theorem Tail.base{bmB:Cz}:Tail bmB bmB:=λ_ _ h=>h
theorem Tail.own{bmB bm:Cz}{D:J0}(T:Tail bmB bm):Tail bmB (.ref D::bm):=λX b h=>by rw[QR,T X b h];rfl
section
variable{prog:JZ}{w:World}{A:Around}{E:JX->JY->Prop}{h:Heap}{g:Array GenState}{d:Drawn}{t:Nat}{os:OsState}{R:Result->JY->Prop}
variable{nm q:Str}{C N:J0}{bs bm bmB:Cz}{hdct:Bool}{sn:List Str}{sub:Cz}{ab:Bool}{col:CL}{dd:CJ}{k0 k1 k2 k3 k5:CB}{B newId initId:String}
theorem Dr{M:Model}(F:ExcBaseFacts B newId initId bmB)(T:Tail bmB bm){rest:Cz}{Q:Unit->JY->Prop}(hC:h.get? C=O (excClassObj nm q C N bs bm hdct sn sub ab col dd k0 k1 k2 k3 k5 newId))
  (hq:Q () ⟨h,g,d,t,os⟩):J7 M A (checkBuiltinCall newId ⟨.ref C::rest,[]⟩) Q E ⟨h,g,d,t,os⟩:=by
 have C4:(Value.ref C::bm).contains (.type B)=Cv:=by rw[QR,T _ _ F.hasB,JP]
 have hstar:=F.noStar;simp only[checkBuiltinCall,F.newKind,F.newSplit,F.newRow]
 repeat (first|refine Qh hC ?_|(refine QB hC ?_;rw[C4])|refine wpAny_staticBase_exc hC ?_|refine wpAny_madeBy_exc hC ?_|simp only[bne_self_eq_false,Bool.false_eq_true,if_false] | wp_step)
 exact hq
theorem Ex(F:ExcBaseFacts B newId initId bmB)(T:Tail bmB bm){rest:Cz}(hC:h.get? C=O (excClassObj nm q C N bs bm hdct sn sub ab col dd k0 k1 k2 k3 k5 newId))
  (hq:R (.ok (.ret (.ref (h.objs.size+1)))) ⟨(h.push {cls:=.type "tuple", data:=.seq rest.toArray}).push
   {cls:=.ref C,data:=.fields #[.ref h.objs.size,.none,.none,.none,.bool Cw,.none]},g,d,t,os⟩) (hrest:rest.length<=J6) :
  codeAny (model prog w) A (.builtin newId ⟨.ref C::rest,[]⟩) R ⟨h,g,d,t,os⟩:=by
 have hends:=F.ends;have Bd:(Value.ref C::bm).contains (.type B)=Cv:=by rw[QR,T _ _ F.hasB,JP]
 have hcA:(Value.ref C::bm).contains (.type "AttributeError")=Cw:=by rw[QR,T _ _ F.noAttr];rfl
 have hcN:(Value.ref C::bm).contains (.type "NameError")=Cw:=by rw[QR,T _ _ F.noName];rfl
 refine codeAny_builtinAt F.entry ?_;unfold Builtin.«BaseException.__new__»;refine wpAt_bind ?_;show wpAt _ _ _ (stack >>= _) _ _ _;refine wpAt_bind (wpAt_stack λp below=>wpAt_of_wpAny ?_)
 wp_walk
 refine wpAt_of_wpAny ?_;rw[F.owner]
 repeat (first|with_reducible refine wpAny_madeHere_exc F.canon hC ?_|with_reducible refine Qh hC ?_|(with_reducible refine QB hC ?_;first|rw[Bd] | rw[hcA] | rw[hcN])|wp_step)
 show R _ _;rw[QS];exact hq
def R9(M:Model)(C fI:J0)(h:Heap):Prop:=∀(A:Around)(E:JX->JY->Prop)(Q:CB->JY->Prop)(h':Heap)(g:Array GenState)(d:Drawn)(t:Nat)(os:OsState),
 (∀b o,h.get? b=O o->h'.get? b=O o)->Q (O (.ref fI)) ⟨h',g,d,t,os⟩->J7 M A (typeLookup (.ref C) "__init__") Q E ⟨h',g,d,t,os⟩
theorem Dq(F:ExcBaseFacts B newId initId bmB)(T:Tail bmB bm){rest:Cz}{fI:J0}{oI:Obj}{Q:Fin->JY->Prop}
  (hC:h.get? C=O (excClassObj nm q C N bs bm hdct sn sub ab col dd k0 k1 k2 k3 k5 newId)) (hi:R9 (model prog w) C fI h)
  (hfI:h.get? fI=O oI) (hfc:oI.cls=.type "function")
  (hq:∀h' e,Heap.MadeExcOf h h' e (.ref C) rest->h.objs.size<=e ->
   J7 (model prog w) A (call (.ref fI) (.ref e::rest)) (λr s'=>r=.none/\Q (.done (.ret (.ref e))) s') E ⟨h',g,d,t,os⟩) (hrest:rest.length<=J6) :
  J7 (model prog w) A (Builtin.«type.__call__» ⟨.ref C::rest,[]⟩) Q E ⟨h,g,d,t,os⟩:=by
 repeat (first|with_reducible refine Qh hC ?_|with_reducible refine wpAny_madeBy_exc hC ?_|wp_step)
 refine codeAny_call_builtin_code (Code.quiet_builtin _ F.quiet) (Dr F T hC ?_);refine Ex F T hC ?_ hrest;show J7 _ _ _ _ _ _
 have hC₁:=Qd {cls:=.ref C,data:=.fields #[.ref h.objs.size,.none,.none,.none,.bool Cw,.none]}
  (Qd {cls:=.type "tuple", data:=.seq rest.toArray} hC)
 have hfI₁:=Qd {cls:=.ref C,data:=.fields #[.ref h.objs.size,.none,.none,.none,.bool Cw,.none]}
  (Qd {cls:=.type "tuple", data:=.seq rest.toArray} hfI)
 have hget:((h.push {cls:=.type "tuple", data:=.seq rest.toArray}).push
   {cls:=.ref C,data:=.fields #[.ref h.objs.size,.none,.none,.none,.bool Cw,.none]}).get? (h.objs.size+1)=O
   {cls:=.ref C,data:=.fields #[.ref h.objs.size,.none,.none,.none,.bool Cw,.none]}:=by heap_get
 have hcC:(Value.ref C::bm).contains (.ref C)=Cv:=by simp
 unfold isInstance
 repeat (first|with_reducible refine Qh hget ?_|(with_reducible refine QB hC₁ ?_;rw[hcC])|wp_step)
 show J7 _ _ (typeLookup (.ref C) _) _ _ _;refine hi _ _ _ _ _ _ _ _ (λb o hb=>Qd _ (Qd _ hb)) ?_;refine wpAny_holding (Qb ?_);unfold bindSpecial;refine Qb (wpAny_typeOf (T:= "function") ⟨_,hfI₁,hfc⟩ ?_);rw[Qo (by decide)];refine Qk (Qb (QU (hq _ (h.objs.size+1) ⟨λb o hb=>Qd _ (Qd _ hb),Heap.get?_none_of_le (Nat.le_succ _),h.objs.size,hget,Heap.get?_none_of_le (Qs _),?_⟩ (Nat.le_succ _)) (λr s' hr=>?_) λ_ _ x=>x))
 .exact Qd _ (Heap.get?_push_at Ct Ct)
 .obtain⟨rfl,hQ⟩:=hr
  wp_walk
  exact hQ
theorem DN(F:ExcBaseFacts B newId initId bmB)(T:Tail bmB bm){rest:Cz}{fI:J0}{oI:Obj}{Q:JX->JY->Prop}
  (hC:h.get? C=O (excClassObj nm q C N bs bm hdct sn sub ab col dd k0 k1 k2 k3 k5 newId)) (hi:R9 (model prog w) C fI h)
  (hfI:h.get? fI=O oI) (hfc:oI.cls=.type "function")
  (hq:∀h' e,Heap.MadeExcOf h h' e (.ref C) rest->h.objs.size<=e ->
   J7 (model prog w) (A.under (.builtin "type.__call__" ⟨.ref C::rest,[]⟩)) (call (.ref fI) (.ref e::rest)) (λr s'=>r=.none/\Q (.ref e) s') E ⟨h',g,d,t,os⟩) (hrest:rest.length<=J6) :
  J7 (model prog w) A (call (.ref C) rest) Q E ⟨h,g,d,t,os⟩:=by
 have f1:=tc_lookup;have f2:=tc_bind (.ref C);have hT:(⟨h,g,d,t,os⟩:JY).TypeIs (.ref C) "type" :=⟨_,hC,rfl⟩
 refine wpAny_call (codeAny_of_tree ?_);show J7 _ _ (callAny (.ref C) _) _ _ _
 repeat (any_goals (first|assumption|with_reducible refine Qh hC ?_|wp_step))
 refine⟨rfl,?_⟩;refine codeAny_call_builtin_at (Code.quiet_builtin _ (by decide +kernel)) entry_typeCall (wpAny_check_type_call_sub hC (Dq (hrest:=hrest) F T hC hi hfI hfc λh' e hm hz=>?_));exact hq h' e hm hz
end
def Kh(M:Model)(C:J0)(name:Str)(r:CB)(h:Heap):Prop:=∀(A:Around)(E:JX->JY->Prop)(Q:CB->JY->Prop)(h':Heap)(g:Array GenState)(d:Drawn)(t:Nat)(os:OsState),
 (∀b o,h.get? b=O o->h'.get? b=O o)->Q r ⟨h',g,d,t,os⟩->J7 M A (typeLookup (.ref C) name) Q E ⟨h',g,d,t,os⟩
theorem Kh.keeps{M:Model}{C:J0}{name:Str}{r:CB}{h h':Heap}(x:Kh M C name r h)(k:∀b o,h.get? b=O o->h'.get? b=O o):Kh M C name r h':=
 λA E Q h2 g d t os k2 q=>x A E Q h2 g d t os (λb o e=>k2 b o (k b o e)) q
theorem Kh.at{M:Model}{A:Around}{E:JX->JY->Prop}{Q:CB->JY->Prop}{C:J0}{name:Str}{r:CB}{h:Heap}{g:Array GenState}{d:Drawn}{t:Nat}{os:OsState}(x:Kh M C name r h)(q:Q r ⟨h,g,d,t,os⟩):J7 M A (typeLookup (.ref C) name) Q E ⟨h,g,d,t,os⟩:=
 x A E Q h g d t os (λ_ _ e=>e) q
section
variable{prog:JZ}{w:World}{A:Around}{E:JX->JY->Prop}{h:Heap}{g:Array GenState}{d:Drawn}{t:Nat}{os:OsState}{R:Result->JY->Prop}
variable{nm q:Str}{C N x:J0}{bs bm bmB:Cz}{hdct:Bool}{sn:List Str}{sub:Cz}{ab:Bool}{col:CL}{dd:CJ}{k0 k1 k2 k3 k5:CB}{B newId sa owner:String}{mN mA:Str->CB}{name:Str}{v:JX}
def ZD(M:Model)(l:Cz)(name:Str)(r:CB)(h:Heap):Prop:=∀(A:Around)(E:JX->JY->Prop)(Q:CB->JY->Prop)(h':Heap)(g:Array GenState)(d:Drawn)(t:Nat)(os:OsState),
 (∀b o,h.get? b=O o->h'.get? b=O o)->Q r ⟨h',g,d,t,os⟩->J7 M A (lookupAlong l name) Q E ⟨h',g,d,t,os⟩
theorem ZD.base{M:Model}{y:CB}(hm:mroOf (.type B)=pure bm)(hB:typeLookup (.type B) name=pure y):ZD M bm name y h:=λA E Q h' g d t os k q=>by rw[typeLookup_eq,hm]at hB;have hrest:lookupAlong bm name=pure y:=hB;rw[hrest];exact Qk q
theorem ZD.hit{M:Model}{D:J0}{c0:JX}{Bb:CJ}{cd:ClassData}{sl:Array CB}(hD:h.get? D=O {cls:=c0,dict:=Bb,data:=.cls cd,slots:=sl})(hn:h.Ns cd.ns mN)(hi:mN name=O v):ZD M (.ref D::bm) name (O v) h:=λA E Q h' g d t os k q=>by rw[lookupAlong_cons];refine Qb (wpAny_classOwn_cls (k _ _ hD) (hn.keeps k) ?_);rw[hi];exact Qk q
theorem ZD.miss{M:Model}{D:J0}{r:CB}{c0:JX}{Bb:CJ}{cd:ClassData}{sl:Array CB}(hD:h.get? D=O {cls:=c0,dict:=Bb,data:=.cls cd,slots:=sl})(hn:h.Ns cd.ns mN)(hi:mN name=Cu)(f:ZD M bm name r h):ZD M (.ref D::bm) name r h:=λA E Q h' g d t os k q=>by rw[lookupAlong_cons];refine Qb (wpAny_classOwn_cls (k _ _ hD) (hn.keeps k) ?_);rw[hi];exact f A E Q h' g d t os k q
theorem Kh.of{M:Model}{r:CB}(hC:h.get? C=O (excClassObj nm q C N bs bm hdct sn sub ab col dd k0 k1 k2 k3 k5 newId))(f:ZD M (.ref C::bm) name r h):Kh M C name r h:=λA E Q h' g d t os k q=>by rw[typeLookup_eq];exact Qb (wpAny_mroOf_exc (k _ _ hC) (f A E Q h' g d t os k q))
theorem DM{M:Model}{o:Obj}{nameV:JX}{Q:Unit->JY->Prop}(SF:StoreFacts B bmB sa owner)(T:Tail bmB bm)
  (hC:h.get? C=O (excClassObj nm q C N bs bm hdct sn sub ab col dd k0 k1 k2 k3 k5 newId)) (hx:h.get? x=O o) (hc:o.cls=.ref C) (hq:Q () ⟨h,g,d,t,os⟩) :
  J7 M A (checkBuiltinCall sa ⟨[.ref x,nameV,v],[]⟩) Q E ⟨h,g,d,t,os⟩:=by
 have Bd:(Value.ref C::bm).contains (.type owner)=Cv:=by rw[QR,T _ _ SF.hasOwner,JP]
 have ha:=SF.args (.ref x) nameV v;simp only[checkBuiltinCall,SF.kind,SF.split];refine Qb ?_
 .unfold isInstance
  repeat (first|(with_reducible refine Qh hx ?_;rw[hc])|(with_reducible refine QB hC ?_;rw[Bd])|wp_step)
  cases hsig:Manifest.signature? sa with
  |none=>exact Qk hq
  |some sig=>simp only[argsOk,hsig]at ha;have h2:Bind.checkArgs sa sig ⟨[.ref x,nameV,v],[]⟩=pure ():=ha;show J7 M A (Bind.checkArgs sa sig ⟨[.ref x,nameV,v],[]⟩) Q E _;rw[h2];exact Qk hq
theorem D2{tk:Tok}{Q:PySem.Fin->JY->Prop}{ns:List Str}(hpass:refuseLoop (.ref x) "__setattr__" bm=pure ())
  (hC:h.get? C=O (excClassObj nm q C N bs bm Cv sn sub ab col dd k0 k1 k2 k3 k5 newId)) (hf:Kh (model prog w) C name Cu h) (I:h.InstFk x C mA)
  (hq:∀h' tk',h'.InstFk x C (λy=>if y=name then O v else mA y) ->
   (∀b o,b≠x->(∀o₀ dx,h.get? x=O o₀->o₀.dict=O dx->b≠dx)->h.get? b=O o->h'.get? b=O o) ->
   (∀o₀,h.get? x=O o₀->∃o₁,h'.get? x=O o₁/\o₁.cls=o₀.cls/\o₁.data=o₀.data/\o₁.slots=o₀.slots/\∀dx,o₀.dict=O dx->o₁.dict=O dx)->(∀o₀ o₁ dx,h.get? x=O o₀->o₀.dict=Cu->h'.get? x=O o₁->o₁.dict=O dx->h.objs.size<=dx)->Q (.done (.ret .none)) ⟨h',g,d,tk',os⟩) (hw:PySem.Within mA ns) (hsz:ns.length<=1000) :
  J7 (model prog w) A (Builtin.«object.__setattr__» ⟨[.ref x,.str name tk,v],[]⟩) Q E ⟨h,g,d,t,os⟩:=by
 obtain⟨o,hx,hc,hnc,hd⟩:=I;have hs2:ns.length<=J6:=by rw[sizeLine_eq];omega
 unfold Builtin.«object.__setattr__»
 repeat (first|rw[refuse_eq] | (rw[refuseLoop_ref,hpass])|(with_reducible refine Qh hx ?_;rw[hc])|with_reducible refine wpAny_mroOf_exc hC ?_|with_reducible refine hf.at ?_|wp_step)
 rcases hd with ⟨hdn,hmA⟩|⟨dx,Be,hne,hns,hed⟩
 ·
  rw[hdn,if_neg (by simp[typeHasDict])];split
  .rename_i hcd
   cases hcd
  split
  .rename_i c hcd
   exact absurd hcd (hnc c)
  .have hx₁:(h.push {cls:=.type "dict", data:=.dict #[]}).get? x=O o:=Qd _ hx
   have hxs:x≠h.objs.size:=QP (Qf hx);refine Qb (wpAny_alloc' ?_);refine Qb (wpAny_update' hx₁ ?_);refine Qk ?_
   have hgd:((h.push {cls:=.type "dict", data:=.dict #[]}).update x λo=>{cls:=o.cls,dict:=O h.objs.size,data:=o.data,slots:=o.slots}).get? h.objs.size
     = O {cls:=.type "dict", data:=.dict #[]}:=
    (Heap.get?_update_ne _ _ _ _ hxs.symm).trans (Heap.get?_push_at Ct Ct)
   have hnd:((h.push {cls:=.type "dict", data:=.dict #[]}).update x λo=>{cls:=o.cls,dict:=O h.objs.size,data:=o.data,slots:=o.slots}).Ns h.objs.size (λ_=>Cu):=
    ⟨_,#[],_,hgd,rfl,λe he=>absurd he (by simp),λ_=>rfl⟩
   show J7 _ _ (Builtin.ObjectAttr.storeInDict h.objs.size (.str name tk) name v) _ _ _;unfold Builtin.ObjectAttr.storeInDict Builtin.ObjectAttr.newKeyGuard;refine Qb (Qk (Qb (wpAny_nsSet1EFk (Heap.Ns1.of_empty hnd) λh' hn' hs C7=>?_)));obtain⟨oD,esD,epD,hoD,hdD,hcD⟩:=hn'.count (PySem.Within.cons name v PySem.Within.nil);refine Qb (wpAny_lookBehind hoD (by rw[hdD];exact pastItsLine_dict (Qn hcD (by rw[QF,Jk,sizeLine_eq];omega))) ?_)
   wp_walk
   have hx':h'.get? x=O {cls:=o.cls,dict:=O h.objs.size,data:=o.data,slots:=o.slots}:=?_
   refine hq h' _ ⟨{cls:=o.cls,dict:=O h.objs.size,data:=o.data,slots:=o.slots},hx',hc,hnc,.inr ⟨h.objs.size,rfl,hxs.symm,?_,(let ⟨od',e',c',d'⟩:=C7 _ hgd;⟨od',e',c',d'⟩)⟩⟩ (λb ob hbx _ hb=>?_)
    (λo₀ h₀=>by obtain rfl:o=o₀:=Q0 (hx.symm.trans h₀);exact⟨_,hx',rfl,rfl,rfl,λdx e=>by rw[hdn]at e;cases e⟩)
    (λo₀ o₁ dx _ _ e1 e2=>by rw[hx']at e1;cases e1;cases e2;exact Qs _)
   .obtain⟨o',es,ep,e1,e2,e3,eu,e4⟩:=hn'
    exact⟨o',es,ep,e1,e2,e3,eu,λy=>by rw[e4 y];by_cases hy:y=name<;>simp[hy,hmA]⟩
   .exact(hs.2 b (QP (Qf hb))).trans ((Heap.get?_update_ne _ _ _ _ hbx).trans (Qd _ hb))
   .refine(hs.2 x hxs).trans (Q3 _ hx₁ ?_)
    have hfr:=(Heap.get?_some_iff.mp hx).2;obtain⟨oc,od,odt,osl⟩:=o;cases odt<;>first|rfl|exact hfr
 ·
  rw[Be];refine Qk ?_;show J7 _ _ (Builtin.ObjectAttr.storeInDict dx (.str name tk) name v) _ _ _;unfold Builtin.ObjectAttr.storeInDict Builtin.ObjectAttr.newKeyGuard;refine Qb (Qk (Qb (wpAny_nsSet1EFk hns λh' hn' hs C7=>?_)));obtain⟨oD,esD,epD,hoD,hdD,hcD⟩:=hn'.count (PySem.Within.cons name v hw);refine Qb (wpAny_lookBehind hoD (by rw[hdD];exact pastItsLine_dict (Qn hcD (by rw[QF,sizeLine_eq];omega))) ?_)
  wp_walk
  refine hq h' _ ⟨o,(hs.2 x hne.symm).trans hx,hc,hnc,.inr ⟨dx,Be,hne,hn',(let ⟨od,e,c,dd⟩:=hed;let ⟨od',e',c',d'⟩:=C7 od e;⟨od',e',c'.trans c,d'.trans dd⟩)⟩⟩ (λb ob _ hbd hb=>?_)
   (λo₀ h₀=>⟨o₀,(hs.2 x hne.symm).trans h₀,rfl,rfl,rfl,λ_ e=>e⟩)
   (λo₀ o₁ dx' e0 e1 _ _=>by rw[hx]at e0;cases e0;rw[Be]at e1;cases e1)
  exact(hs.2 b (hbd o dx hx Be)).trans hb
theorem Nh{Q:Unit->JY->Prop}{ns:List Str}(SF:StoreFacts B bmB sa owner)(T:Tail bmB bm)(hpass:refuseLoop (.ref x) "__setattr__" bm=pure ())
  (hC:h.get? C=O (excClassObj nm q C N bs bm Cv sn sub ab col dd k0 k1 k2 k3 k5 newId)) (hfs:Kh (model prog w) C "__setattr__" (O (.builtin sa)) h) (hf:Kh (model prog w) C name Cu h) (I:h.InstFk x C mA)
  (hq:∀h' tk',h'.InstFk x C (λy=>if y=name then O v else mA y) ->
   (∀b o,b≠x->(∀o₀ dx,h.get? x=O o₀->o₀.dict=O dx->b≠dx)->h.get? b=O o->h'.get? b=O o) ->
   (∀o₀,h.get? x=O o₀->∃o₁,h'.get? x=O o₁/\o₁.cls=o₀.cls/\o₁.data=o₀.data/\o₁.slots=o₀.slots/\∀dx,o₀.dict=O dx->o₁.dict=O dx)->(∀o₀ o₁ dx,h.get? x=O o₀->o₀.dict=Cu->h'.get? x=O o₁->o₁.dict=O dx->h.objs.size<=dx)->Q () ⟨h',g,d,tk',os⟩) (hw:PySem.Within mA ns) (hsz:ns.length<=1000) :
  J7 (model prog w) A (setAttr (.ref x) name v) Q E ⟨h,g,d,t,os⟩:=by
 obtain⟨o,hx,hc,_⟩:=id I;have f3:=SF.slot.bind (.ref x);unfold setAttr callSpecial? specialOf
 repeat (any_goals (first|assumption|(with_reducible refine Qh hx ?_;rw[hc])|with_reducible refine hfs.at ?_|wp_step))
 refine Jf SF.slot.plain SF.entry (DM SF T hC hx hc (D2 hpass hC hf I (λh' tk' I' hk hsame hnew=>?_) hw hsz))
 repeat (any_goals (first|assumption|wp_step))
 exact hq h' tk' I' hk hsame hnew
theorem OJ{M:Model}{o:Obj}{nameV:JX}{Q:Unit->JY->Prop}(T:Tail bmB bm)(hb:bmB.contains (.type "BaseException")=Cv)(hC:h.get? C=O (excClassObj nm q C N bs bm hdct sn sub ab col dd k0 k1 k2 k3 k5 newId))
  (hx:h.get? x=O o) (hc:o.cls=.ref C) (hq:Q () ⟨h,g,d,t,os⟩):J7 M A (checkBuiltinCall "BaseException.__getattribute__" ⟨[.ref x,nameV],[]⟩) Q E ⟨h,g,d,t,os⟩:=by
 have hk:builtinKind "BaseException.__getattribute__" = O .slot:=by decide +kernel
 have hsplit:splitId "BaseException.__getattribute__" = O ("BaseException", "__getattribute__"):=by decide +kernel
 have Bd:(Value.ref C::bm).contains (.type "BaseException")=Cv:=by rw[QR,T _ _ hb];rfl
 have ha:=PySem.F.args_bexc_ga (.ref x) nameV;simp only[checkBuiltinCall,hk,hsplit];refine Qb ?_
 .unfold isInstance
  repeat (first|(with_reducible refine Qh hx ?_;rw[hc])|(with_reducible refine QB hC ?_;rw[Bd])|wp_step)
  exact hq
theorem D4{tk:Tok}{Q:PySem.Fin->JY->Prop}(hC:h.get? C=O (excClassObj nm q C N bs bm Cv sn sub ab col dd k0 k1 k2 k3 k5 newId))(hf:Kh (model prog w) C name Cu h)(I:h.InstFk x C mA)(hv:mA name=O v)(hq:Q (.done (.ret v)) ⟨h,g,d,t,os⟩) :
  J7 (model prog w) A (Builtin.«object.__getattribute__» ⟨[.ref x,.str name tk],[]⟩) Q E ⟨h,g,d,t,os⟩:=by
 obtain⟨o,hx,hc,hnc,hd⟩:=I;rcases hd with ⟨_,hmA⟩|⟨dx,Be,hne,hns,_⟩
 .rw[hmA name]at hv;cases hv
 unfold Builtin.«object.__getattribute__»
 repeat (first|(with_reducible refine Qh hx ?_;rw[hc])|with_reducible refine hf.at ?_|wp_step)
 split
 .rename_i c hcd
  exact absurd hcd (hnc c)
 unfold instanceDict
 repeat (first|(with_reducible refine Qh hx ?_;rw[hc])|with_reducible refine Qh hC ?_|wp_step)
 rw[Be]
 repeat (first|(with_reducible refine wpAny_nsGet hns.ns ?_;rw[hv])|wp_step)
 exact hq
theorem Dp{expr:Bool}{Q:JX->JY->Prop}(FB:ExcAttrFacts B)(T:Tail bmB bm)(hb:bmB.contains (.type "BaseException")=Cv)(hC:h.get? C=O (excClassObj nm q C N bs bm Cv sn sub ab col dd k0 k1 k2 k3 k5 newId))
  (fg:Kh (model prog w) C "__getattribute__" (O (.builtin "BaseException.__getattribute__")) h) (fa:Kh (model prog w) C "__getattr__" none h) (hf:Kh (model prog w) C name Cu h) (I:h.InstFk x C mA) (hv:mA name=O v) (hh:handedOut v=pure v) (hq:Q v ⟨h,g,d,t+1,os⟩) :
  J7 (model prog w) A (getAttr (.ref x) name expr) Q E ⟨h,g,d,t,os⟩:=by
 obtain⟨o,hx,hc,_⟩:=id I;have f3:=FB.ga.bind (.ref x);have hx0:(expr&&onTheHeap (Value.builtin "BaseException.__getattribute__"))=Cw:=by cases expr<;>rfl
 have hx2:(Value.builtin "BaseException.__getattribute__" == Value.builtin "object.__getattribute__")=Cw:=by decide +kernel
 have hx1:(onTheHeap (Value.ref C)&&Value.builtin "BaseException.__getattribute__" == Value.builtin "object.__getattribute__")=Cw:=by rw[hx2];rfl
 unfold getAttr
 repeat (any_goals (first|assumption|(with_reducible refine Qh hx ?_;rw[hc])|with_reducible refine fg.at ?_|with_reducible refine fa.at ?_|wp_step))
 refine Jf FB.ga.plain PySem.F.entry_bexc_ga (OJ T hb hC hx hc (D4 hC hf I hv ?_))
 repeat (any_goals (first|assumption|wp_step))
end
theorem YO{o:Obj}{vs:Array JX}(f:Array JX->Array JX)(h:o.data=.fields vs):Obj.mapFields f o = {o with data:=.fields (f vs)}:=by obtain⟨c,d,dt,sl⟩:=o;cases h;rfl
def Tb(h:Heap)(e:J0)(vs:Array JX)(fl:JX):Prop:=∃T oT ts,vs[1]?=O (.ref T)/\T≠e/\h.get? T=O oT/\oT.data=.fields ts/\ts[3]?=O fl
def Fly(c:Bool)(h:Heap)(e:J0):Prop:=∃oe vs,h.get? e=O oe/\oe.data=.fields vs/\(vs[1]?=O .none∨Tb h e vs .none)/\(c=Cv->vs[2]?=O .none)
theorem Fly.weak{c c1:Bool}{h:Heap}{e:J0}(x:Fly c1 h e)(hcc:c=Cv->c1=Cv):Fly c h e:=let ⟨oe,vs,a,b,d,z⟩:=x;⟨oe,vs,a,b,d,λq=>z (hcc q)⟩
structure V7(fs:CF)(e:J0)(h h':Heap):Prop where
 keep:∀b o,b≠e->b∉fs->h.get? b=O o->h'.get? b=O o
 slot:∀b o,b≠e->h.get? b=O o->∃sl,h'.get? b=O {o with slots:=sl}
 own:∀oe,h.get? e=O oe->∃vs,h'.get? e=O {oe with data:=.fields vs}
section
variable{M:Model}{A:Around}{E:JX->JY->Prop}{s:JY}{base:Heap}{env:Env}{outer:List Env}{L e:J0}{c:Bool}
theorem newEntry{oe:Obj}{vs:Array JX}{head:JX}{hadNext:Bool}{Q:Unit->JY->Prop}(hfr:A.frames=O (env::outer))(hl:s.heap.FunFrames base (env::outer))(hf:env.frame=O L)
  (he:s.heap.get? e=O oe) (hd:oe.data=.fields vs) (hsz:1<vs.size) (hc2:c=Cv->vs[2]?=O .none)
  (h:∀h',V7 (frs (env::outer)) e s.heap h'->Fly c h' e->Q () {s with heap:=h'}) :
  J7 M A (do let a ←frameOf env;let pl ←entryPlaceOf L hadNext;let b ←EntryCells.newEntry head a .none (rawInt L) .none pl;setField (.ref e) 1 b) (λ_ s'=>J7 M A (setFlight (.ref e) Cu) Q E s') E s:=by
 have hene:e∉(env::outer).filterMap (·.frame):=λhm=>by obtain⟨_,o,ho,hnf⟩:=hl.mem hm;rw[he]at ho;injection ho with ho;subst ho;exact hnf vs hd
 refine Qb (wpAny_frameOf_fun hfr hl hf λh₁ hs₁=>?_);refine Qb (wpAny_entryPlaceOf λpl hpl=>?_);unfold EntryCells.newEntry newFields;refine Qb (wpAny_newObj_type ?_ (hpl.sizeOk5 _ _ _ _ _));have he₁:h₁.get? e=O oe:=(hs₁.2.1 e hene).trans he;have he₂:=Qd (h:=h₁) {cls:=.type "traceback", dict:=Cu,data:=.fields ([head,.ref L,.none,rawInt L,.none]++(if pl.isEmpty then Ub 6 Value.none else pl)).toArray} he₁;refine wpAny_setField he₂ hd hsz ?_;have BU:h₁.objs.size≠e:=Ju (Qf he₁);have hd₃:=Jp hd (·.setIfInBounds 1 (Value.ref h₁.objs.size));have he₃:=Q3 (Obj.mapFields (·.setIfInBounds 1 (Value.ref h₁.objs.size))) he₂ (Je hd₃)
 have hT₃:=(QN (h₁.push {cls:=.type "traceback", dict:=Cu,data:=.fields ([head,.ref L,.none,rawInt L,.none]++(if pl.isEmpty then Ub 6 Value.none else pl)).toArray})
  (Obj.mapFields (·.setIfInBounds 1 (Value.ref h₁.objs.size))) (Ne.symm BU)).trans (Qp h₁ Ct)
 unfold setFlight;refine wpAny_bind (wpAny_field he₃ hd₃ (x:=.ref h₁.objs.size) (by simp[hsz]) ?_);rw[if_pos (show(Value.ref h₁.objs.size != Value.none)=Cv from by simp)];refine wpAny_setField hT₃ Ct (by simp only[QQ,Qu,QF,Jk]<;>lia) (h _ ?_ ?_)
 .have keep:∀b o,b≠e->h₁.get? b=O o ->
    (((h₁.push {cls:=.type "traceback", dict:=Cu,data:=.fields ([head,.ref L,.none,rawInt L,.none]++(if pl.isEmpty then Ub 6 Value.none else pl)).toArray}).update e (Obj.mapFields (·.setIfInBounds 1 (Value.ref h₁.objs.size)))).update h₁.objs.size
     (Obj.mapFields (·.setIfInBounds 3 ((none:CJ).elim Value.none λf=>rawInt f)))).get? b=O o:=λb o Bf hb=>by
   have BK:h₁.objs.size≠b:=Ju (Qf hb);rw[QN _ _ BK,QN _ _ (Ne.symm Bf)];exact Qd _ hb
  refine⟨λb o hb hf hg=>keep b o hb ((hs₁.2.1 b hf).trans hg),λb o hb hg=>?_,λoe' z=>?_⟩
  .obtain⟨sl,hs⟩:=hs₁.2.2 b o hg
   exact⟨sl,keep b _ hb hs⟩
  .rw[he]at z;cases z
   exact⟨_,by rw[QN _ _ BU,he₃,YO _ hd]⟩
 .refine⟨_,_,?_,hd₃,.inr ⟨h₁.objs.size,_,_,by simp[hsz],BU,Heap.get?_update_self _ hT₃ (Obj.isFreed_of_fields (Obj.data_mapFields rfl _)),Obj.data_mapFields rfl _,by first|(simp;done)|(rcases hpl with rfl|⟨_,_,_,_,_,_,_,rfl⟩<;>simp)⟩,?_⟩
  .rw[QN _ _ BU];exact he₃
  .intro z;rw[Array.getElem?_setIfInBounds_ne (by decide)];exact hc2 z
theorem note{Q:Unit->JY->Prop}(hfr:A.frames=O (env::outer))(hl:s.heap.FunFrames base (env::outer))(hf:env.frame=O L)(x:Fly c s.heap e)
  (h:∀h',V7 (frs (env::outer)) e s.heap h'->Fly c h' e->Q () {s with heap:=h'}):J7 M A (noteFrame (.ref e) env) (λ_ s'=>J7 M A (setFlight (.ref e) Cu) Q E s') E s:=by
 obtain⟨oe,vs,he,hd,h1,h2⟩:=x;unfold noteFrame;simp only[hf];rcases h1 with h1|⟨T,oT,ts,h1,BU,hT,Bp,h3⟩
 .refine Qb (QE he hd h1 ?_)
  rw[Qv (by decide)];exact newEntry hfr hl hf he hd (Jh.mp h1).1 h2 h
 .refine Qb (QE he hd h1 ?_)
  rw[if_pos (show(Value.ref T != Value.none)=Cv from by simp)];refine Qb (QE hT Bp h3 ?_);rw[if_neg (show ¬((Value.none==rawInt L)=Cv)from by simp[rawInt])];obtain⟨B2,BF⟩:=Jh.mp h3;refine Qb (wpAny_setField hT Bp B2 ?_)
  have same:∀b o,s.heap.get? b=O o->(s.heap.update T (Obj.mapFields (·.setIfInBounds 3 Value.none))).get? b=O o:=λb o hb=>by
   by_cases BK:b=T
   .subst BK
    rw[hT]at hb;cases hb;rw[Q3 _ hT (Je (Jp Bp _)),YO _ Bp]
    have:ts.setIfInBounds 3 Value.none=ts:=by
     apply Array.ext_getElem?;intro i;rw[Array.getElem?_setIfInBounds];split
     .rename_i z
      subst z;exact h3.symm
     .rfl
    rw[this,←Bp]
   .rw[QN _ _ (Ne.symm BK)];exact hb
  exact newEntry hfr (hl.of_keeps λb o hb hnf=>⟨o,same b o hb,rfl⟩) hf (same e oe he) hd (Jh.mp h1).1 h2
   λh' p t=>h h' ⟨λb o a c g=>p.keep b o a c (same b o g),λb o a g=>p.slot b o a (same b o g),λoe' z=>p.own oe' (same e oe' z)⟩ t
theorem L4{Q:Unit->JY->Prop}(hfr:A.frames=O (env::outer))(hl:s.heap.FunFrames base (env::outer))(hf:env.frame=O L)(x:Fly c s.heap e)
  (h:∀h',V7 (frs (env::outer)) e s.heap h'->Fly c h' e->Q () {s with heap:=h'}):J7 M A (leaving env (.ref e)) Q E s:=by
 unfold leaving;exact Qb (note hfr hl hf x h)
end
end L2
namespace L2
open PySem PySem.Spec PyProof.Rows PySem.Calls PyProof.V
noncomputable def XO(fr:Bool)(e C:J0)(dd:CJ):Heap->Prop:=λh=>∃vs sl,h.get? e=O {cls:=.ref C,dict:=dd,data:=.fields vs,slots:=sl}/\(fr=Cv->vs[1]?=O .none/\(∃t0,vs[0]?=O (.ref t0))/\vs[2]?=O .none/\4<vs.size)
theorem XO.ok{P:JZ}{w:World}{H:Hp}{h:Heap}{fr:Bool}{e C:J0}{dd:CJ}(x:XO fr e C dd h):KW P w H h e (.ext (XO fr e C dd)):=
 ⟨x,let ⟨_,_,q,_⟩:=x;⟨_,q⟩,λh1 h2 ⟨vs,sl,q,z⟩ k=>⟨vs,sl,k _ q,z⟩⟩
theorem XO.fly{c:Bool}{h:Heap}{e C:J0}{dd:CJ}(x:XO Cv e C dd h):Fly c h e:=let ⟨vs,_,q,z⟩:=x;⟨_,vs,q,rfl,.inl (z Ct).1,λ_=>(z Ct).2.2.1⟩
theorem XO.old{h:Heap}{fr:Bool}{e C:J0}{dd:CJ}(x:XO fr e C dd h):XO Cw e C dd h:=let ⟨vs,sl,q,_⟩:=x;⟨vs,sl,q,λz=>nomatch z⟩
noncomputable def ZA(c:Bool)(P:JZ)(w:World):CXT:=λouter H s E v s'=>∃e C dd H',v=.ref e/\s'.os=s.os/\AllBare s'.gens/\Un (frs outer) [] H H' s.heap s'.heap/\HOk P w H' s'.heap/\H' e=O (.ext (XO Cw e C dd))/\Fly c s'.heap e/\E (.ref e) Cu H'
abbrev CX1:=ZA Cv
section
variable{X:Cx}{pins:List (J0×Obj)}{σ:St}{H:Hp}{s:JY}{e C:J0}{dd:CJ}{h':Heap}
theorem Inv.passed(I:Inv X pins σ H s)(hx:H e=O (.ext (XO Cw e C dd)))(p:V7 (frs X.stack) e s.heap h'):Inv X pins σ H {s with heap:=h'}:=by
 have ne:∀b,H b=Cu->b≠e:=λb n z=>by rw[z,hx]at n;cases n
 refine I.call (g':=s.gens) (t':=s.toks) (d':=s.drawn) (ch:=[]) ⟨λb o g n f _=>p.keep b o (ne b n) f g,λb o g n _ _=>p.slot b o (ne b n) g,λb o _ n _=>n,λb o g _=>?_,λ_ _ z=>z,λ_ _ _ z=>z,λb ps z=>⟨#[],by rw[z];simp⟩⟩ (λa o q=>?_) I.bare λb z=>absurd z (by simp)
 .by_cases hb:b=e
  .subst hb
   obtain⟨vs,z⟩:=p.own o g;exact⟨_,z⟩
  .obtain⟨sl,z⟩:=p.slot b o hb g
   exact⟨_,z⟩
 .by_cases ha:a=e
  .subst ha
   rw[hx]at q;cases q;obtain⟨⟨vs,sl,g,_⟩,_,_⟩:=I.hok a _ hx;obtain⟨vs',z⟩:=p.own _ g;exact XO.ok ⟨vs',sl,z,λz=>nomatch z⟩
  .refine(I.hok a o q).stay (λb u hb g=>p.keep b u ?_ (λz=>?_) g) (λ_ z=>z) λ_ _ z=>z
   .rcases hb with rfl|hb
    .exact ha
    .rintro rfl;rw[hx]at hb;cases hb
   .have n:=I.stkFree b z
    rcases hb with rfl|hb
    .rw[q]at n;cases n
    .rw[hb]at n;cases n
def Yz(c:Bool)(X:Cx)(KX:V->St->Hp->Prop):Prop:=∀(pins:List (J0×Obj))(σ:St)(H:Hp)(s:JY)(e C:J0)(dd:CJ),Inv X pins σ H s->H e=O (.ext (XO Cw e C dd))->Fly c s.heap e->KX (.ref e) σ H->X.xe (.ref e) s
theorem Ew{c:Bool}{P:JZ}{w:World}{K:Frag}{mg:Str->CB}{base:Heap}{N:List Str}{qual:Str}{scope:Scope}{f:J0}{cd:JX}{A:Around}{outer:List Env}{s₀:JY}{H₀:Hp}{E:XK} :
  Yz c (Kp (ZA c P w) P w K mg base N qual scope f cd A outer s₀ H₀ E) λv _ H=>∃e,v=.ref e/\E (.ref e) Cu H:=by
 intro pins σ H s e C dd I hx fl ⟨e',ee,hE⟩;cases ee;refine L4 (L:=s₀.heap.objs.size) I.ok.frames I.stack Ct fl λh' p fl'=>?_;have I':=I.passed hx p
 exact⟨e,C,dd,H,rfl,I'.os,I'.bare,I'.base,I'.hok,hx,fl',hE⟩
theorem Yz.pass{c c1:Bool}{KX:V->St->Hp->Prop}{E:XK}{v:JX}{s':JY}(hw:Yz c X KX)(hcc:c=Cv->c1=Cv)(I:Inv X pins σ H s)(h:ZA c1 X.prog X.w X.stack H s E v s')(hk:∀e H,E (.ref e) Cu H->KX (.ref e) σ H):X.xe v s':=by obtain⟨e,C,dd,H',rfl,os,bare,un,hok,hx,fl,hE⟩:=h;obtain⟨hh,g,d,t,os'⟩:=s';obtain rfl:os'=s.os:=os;exact hw pins σ H' _ e C dd (I.call (h':=hh) (g':=g) (d':=d) (t':=t) (ch:=[]) un hok bare (λb z=>absurd z (by simp))) hx (fl.weak hcc) (hk e H' hE)
end
noncomputable abbrev VB:Cz:=[.type "ValueError", .type "Exception", .type "BaseException", .type "object"]
structure XCls(M:Model)(base:Heap)(C:J0)(bm:Cz)(fI:J0):Prop where
 obj:∃nm q N bs sn sub ab col dd k0 k1 k2 k3 k5,base.get? C=O (excClassObj nm q C N bs bm Cv sn sub ab col dd k0 k1 k2 k3 k5 "ValueError.__new__")
 tail:Tail VB bm
 init:Kh M C "__init__" (O (.ref fI)) base
 fn:∃o,base.get? fI=O o/\o.cls=.type "function"
 sa:Kh M C "__setattr__" (O (.builtin "object.__setattr__")) base
 ga:Kh M C "__getattribute__" (O (.builtin "BaseException.__getattribute__")) base
 gh:Kh M C "__getattr__" none base
 cl:Kh M C "__class__" (O (.builtin "object.__class__")) base
 pass:∀v,refuseLoop v "__setattr__" bm=pure ()
section
variable{X:Cx}{k:Nat}{f C:J0}{fd:J4}{ps:List Str}{sp:Sp}{x:Str}{p pos cpos:Pos}{e:J5}{es:CC}{t:TA}{bm:Cz}
theorem DK{pins:List (J0×Obj)}{σ:St}{H:Hp}{s:JY}{Q:VK}{us:Cz}{vs:List V}(M:XCls (model X.prog X.w) X.base C bm f)(F:FnOk X.prog X.w X.K X.mg X.base CX0 k f fd ps sp)(hr:Room (k+1) X.A)(hb:Zd X.K fd ps [])
  (I:Inv X pins σ H s) (r:Vals vs us) (hl:us.length<=J6)
  (h:∀a,H a=Cu->sp (.ref a::vs) (upd H a (.ext (XO Cv a C Cu))) (λv H2=>v=.non/\Q (.ref a) H2) E0) :
  J7 (model X.prog X.w) X.A (call (.ref C) us) (EP X pins σ Q) X.xe s:=by
 obtain⟨nm,q,N,bs,sn,sub,ab,col,dd,k0,k1,k2,k3,k5,hC⟩:=M.obj;obtain⟨oI,hfI,hfc⟩:=M.fn;obtain⟨hp,g,d,tk,os⟩:=s;refine DN PySem.F.excBase_ValueError M.tail (I.bk _ _ hC) (fI:=f) (M.init.keeps I.bk) (I.bk _ _ hfI) hfc (λh' a made hz=>?_) hl;obtain⟨t',he,htn,ht⟩:=made.there;have I2:Inv X pins σ (upd H a (.ext (XO Cv a C Cu))) ⟨h',g,d,tk,os⟩:=I.laid (t':=tk) made.keeps hz (XO.ok ⟨_,_,he,λ_=>⟨rfl,⟨_,rfl⟩,rfl,by simp⟩⟩);have hq:=h a (I.hok.fresh hz);have r2:Vals (V.ref a::vs) (Value.ref a::us):=.cons Ct r;have hl2:(Value.ref a::us++[]).length=ps.length:=by have e:=r2.length;rw[F.len _ _ _ _ hq]at e;rw[QO];exact e.symm
 refine wpAny_call (codeAny_mono (F.run _ X.stack _ _ ⟨Value.ref a::us,[]⟩ (Value.ref a::us) _ _ E0 (hr.make C us []) (I2.env0.make C us []) (by have:=hb _ (Value.ref a::us) I2.kIn hl2;rwa[QO]at this) r2 hq) λr s' Ba=>?_);cases r with
 |error e=>exact Ba.elim
 |ok fl=>
  cases fl with
  |ret u=>obtain⟨v,H',I3,rv,ev,q3⟩:=I2.after Ba;subst ev;exact⟨rv,⟨V.ref a,H',I3,rfl,q3⟩⟩
  |next=>exact False.elim Ba
  |brk=>exact False.elim Ba
  |cont=>exact False.elim Ba
noncomputable def tMkX(C:J0)(sp:Sp)(t:TA):TE:=λσ H Q=>t σ H λvs H1=>vs.length<=J6/\∀a,H1 a=Cu->sp (.ref a::vs) (upd H1 a (.ext (XO Cv a C Cu))) (λv H2=>v=.non/\Q (.ref a) H2) E0
theorem Ev(M:XCls (model X.prog X.w) X.base C bm f)(F:FnOk X.prog X.w X.K X.mg X.base CX0 k f fd ps sp)(hr:Room (k+1) X.A)(hg:Gl X x)(hm:X.mg x=O (.ref C))(hk:PySem.W.keepIn X.K (.ref C)=Cv)(hb:Zd X.K fd ps [])
  (ha:PA X (e::es) t) (hdb:(x==("__debug__" : Str))=Cw:=by decide) (he:J8 (e::es) X.env=(Cw,eval e X.env)::J8 es X.env:=by rfl) (hpl:(backTo pos (J8 es X.env)).any (·.1)=Cw:=by rfl) :
  PE X (.Call (.Name x p) (e::es) [] pos) (tMkX C sp t):=by
 intro pins s σ H Q I h;refine Q9 (XQ I hg hm ?_ hdb);refine PySem.W.callWith_K (h₀:=X.base) I.ok.mod.kin hk (thn (ha pos pins s σ H _ I h) λus s1 ⟨vs,H1,I1,r,hl,q⟩=>⟨I1.kIn,?_⟩) he hpl;exact DK M F hr hb I1 r (by show us.length<=J6;rw[←r.length];exact hl) q
noncomputable def L1(KC:J0->Prop)(te:TE)(KX:V->St->Hp->Prop):TS:=λ_ σ H=>te σ H λv H2=>∃a C dd,v=.ref a/\KC C/\H2 a=O (.ext (XO Cv a C dd))/\KX (.ref a) σ (upd H2 a (.ext (XO Cw a C dd)))
theorem EZ{M:Model}{A:Around}{E:JX->JY->Prop}{env:Env}{s:JY}{Q:Flow->JY->Prop}{y:Sem JX}
  (hh:A.handled=Cu) (h:J7 M A y (λv s₁=>∃a C dd vs sl nm q N bs bm hdct sn sub ab col Bb k0 k1 k2 k3 k5 newId,v=.ref a/\bm.contains (.type "BaseException")=Cv/\s₁.heap.get? C=O (excClassObj nm q C N bs bm hdct sn sub ab col Bb k0 k1 k2 k3 k5 newId) /\
   s₁.heap.get? a=O {cls:=.ref C,dict:=dd,data:=.fields vs,slots:=sl}/\vs[1]?=O .none/\E (.ref a) s₁) E s) :
  J7 M A (raiseStmt env (O y) Cu) Q E s:=by
 unfold raiseStmt;refine Qb (QU h (λv s₁ h₁=>?_) λ_ _ x=>x);obtain⟨a,C,dd,vs,sl,nm,q,N,bs,bm,hdct,sn,sub,ab,col,Bb,k0,k1,k2,k3,k5,newId,rfl,hbase,hC,he,h1,hE⟩:=h₁;have Bd:(Value.ref C::bm).contains (.type "BaseException")=Cv:=by rw[QR,hbase,JP]
 obtain⟨hp,g,d,tk,os⟩:=s₁
 repeat (first|with_reducible refine QE he Ct h1 ?_|with_reducible refine Qh he ?_|with_reducible refine Qh hC ?_|(with_reducible refine QB hC ?_;rw[Bd])|wp_step)
 exact wpAny_raiseNew_none hh hE
theorem Inv.aged{pins:List (J0×Obj)}{σ:St}{H:Hp}{s:JY}{a C:J0}{dd:CJ}(I:Inv X pins σ H s)(hx:H a=O (.ext (XO Cv a C dd))):Inv X pins σ (upd H a (.ext (XO Cw a C dd))) s:=by obtain⟨x,_,_⟩:=I.hok a _ hx;have:=I.write (x:=a) (e:=a) (o:=.ext (XO Cw a C dd)) (t':=s.toks) (h':=s.heap) (by rw[hx];trivial) (.inl Ct) (λ_ _ _ q=>q) (let ⟨_,_,q,_⟩:=x;⟨_,q⟩) (XO.ok x.old);exact this
theorem Eu{c:Bool}{KC:J0->Prop}{te:TE}{KX:V->St->Hp->Prop}{exc:J5}(hc:X.calm=Cv)(hcls:∀C,KC C->∃bm fI,XCls (model X.prog X.w) X.base C bm fI)(hw:Yz c X KX)(ht:PE X exc te):PS X (.Raise (O exc) Cu pos) (L1 KC te KX):=by intro pins s σ H D I h;rw[arm_exec_Raise];refine Qb (wpAny_standAt ?_);show J7 _ _ (raiseStmt X.env (O (do let v ←eval exc X.env;standAt pos;pure v)) Cu) _ _ _;refine EZ (I.ok.hd hc) (Qb (thn (ht pins s σ H _ I h) λu s1 ⟨v,H2,I2,rv,a,C,dd,ev,kc,hx,kx⟩=>Qb (wpAny_standAt (Qk ?_))));subst ev;obtain rfl:u=Value.ref a:=rv;obtain⟨bm,fI,M⟩:=hcls C kc;obtain⟨nm,q,N,bs,sn,sub,ab,col,Bb,k0,k1,k2,k3,k5,hC⟩:=M.obj;obtain⟨⟨vs,sl,g,z⟩,_,_⟩:=I2.hok a _ hx;exact⟨a,C,dd,vs,sl,nm,q,N,bs,bm,Cv,sn,sub,ab,col,Bb,k0,k1,k2,k3,k5,_,rfl,M.tail _ _ Ct,I2.bk _ _ hC,g,(z Ct).1,hw pins σ _ s1 a C dd (I2.aged hx) U9 (XO.fly ⟨vs,sl,g,z⟩) kx⟩
end
section
variable{M:Model}{A:Around}{E:JX->JY->Prop}{h:Heap}{g:Array GenState}{d:Drawn}{t:Nat}{os:OsState}
variable{nm q Bq q':Str}{C N D N' a:J0}{bs bm bs' bm':Cz}{hdct Bl:Bool}{sn sn':List Str}{sub sub':Cz}{ab BQ:Bool}{col col':CL}{dd Bb:CJ}{k0 k1 k2 k3 k5 j0 j1 j2 j3 j5:CB}{newId newId':String}
theorem Et{o:Obj}{b:Bool}{Q:Bool->JY->Prop}(hC:h.get? C=O (excClassObj nm q C N bs bm hdct sn sub ab col dd k0 k1 k2 k3 k5 newId))(hD:h.get? D=O (excClassObj Bq q' D N' bs' bm' Bl sn' sub' BQ col' Bb j0 j1 j2 j3 j5 newId'))
  (hbase:bm'.contains (.type "BaseException")=Cv) (ha:h.get? a=O o) (hc:o.cls=.ref C) (hb:(Value.ref C::bm).contains (.ref D)=b) (hq:Q b ⟨h,g,d,t,os⟩):J7 M A (excMatches (.ref a) (.ref D)) Q E ⟨h,g,d,t,os⟩:=by
 have Bd:(Value.ref D::bm').contains (.type "BaseException")=Cv:=by rw[QR,hbase,JP]
 have f1:=tc_notTuple;have f2:=tc_sub;have hT:(⟨h,g,d,t,os⟩:JY).TypeIs (.ref D) "type" :=⟨_,hD,rfl⟩
 unfold excMatches
 repeat (any_goals (first|assumption|(with_reducible refine Qh ha ?_;rw[hc])|with_reducible refine Qh hD ?_|with_reducible refine Qh hC ?_|(with_reducible refine QB hD ?_;rw[Bd])|(with_reducible refine QB hC ?_;rw[hb])|wp_step))
 cases b<;>(wp_walk;exact hq)
end
noncomputable def L0(sp:Sp)(KX:V->St->Hp->Prop)(t:TA):TE:=λσ H Q=>t σ H λvs H1=>sp vs H1 Q λv _ H'=>∀a,v=.ref a->KX (.ref a) σ H'
section
variable{X:Cx}{k:Nat}{f:J0}{fd:J4}{ps:List Str}{sp:Sp}{x n:Str}{p pos np hpos:Pos}{e:J5}{es:CC}{t:TA}{KX:V->St->Hp->Prop}
theorem Es{c c1:Bool}(F:FnOk X.prog X.w X.K X.mg X.base (ZA c1 X.prog X.w) k f fd ps sp)(hr:Room k X.A)(hg:Gl X x)(hm:X.mg x=O (.ref f))(hk:PySem.W.keepIn X.K (.ref f)=Cv)(hb:Zd X.K fd ps [])(hw:Yz c X KX)
  (ha:PA X (e::es) t) (hcc:c=Cv->c1=Cv:=by decide) (hdb:(x==("__debug__" : Str))=Cw:=by decide) (he:J8 (e::es) X.env=(Cw,eval e X.env)::J8 es X.env:=by rfl) (hpl:(backTo pos (J8 es X.env)).any (·.1)=Cw:=by rfl) :
  PE X (.Call (.Name x p) (e::es) [] pos) (L0 sp KX t):=by
 intro pins s σ H Q I h;refine Q9 (XQ I hg hm ?_ hdb);refine PySem.W.callWith_K (h₀:=X.base) I.ok.mod.kin hk (thn (ha pos pins s σ H _ I h) λus s1 ⟨vs,H1,I1,r,q⟩=>⟨I1.kIn,?_⟩) he hpl;have hl:(us++[]).length=ps.length:=by rw[QO,←r.length];exact F.len _ _ _ _ q
 refine wpAny_call (codeAny_mono (F.run X.A X.stack s1 H1 ⟨us,[]⟩ us vs Q _ hr I1.env0 (by have:=hb s1 us I1.kIn hl;rwa[QO]at this) r q) λr s' hq=>?_);cases r with
 |error e=>exact hw.pass hcc (E:=λv _ H'=>∀a,v=.ref a->KX (.ref a) σ H') I1 hq λa H' z=>z a Ct
 |ok fl=>
  cases fl with
  |ret u=>exact I1.after hq
  |next=>exact False.elim hq
  |brk=>exact False.elim hq
  |cont=>exact False.elim hq
noncomputable abbrev Cx.suite(X:Cx)(a:J0):Cx:={X with A:=X.A.mark (O (.ref a)),calm:=Cw,xe:=λ_ _=>False}
theorem Cx.Ok.suite(ok:X.Ok)(a:J0):(X.suite a).Ok:=
 ⟨ok.mod,ok.kind,ok.glob,ok.blt,ok.above,ok.inj,ok.has,ok.cab,λz=>(nomatch z),ok.frames,ok.stk,ok.exf,ok.bs,ok.bsz,ok.noex,ok.exfs,ok.funs,ok.frf⟩
theorem Inv.suite{pins:List (J0×Obj)}{σ:St}{H:Hp}{s:JY}(I:Inv X pins σ H s)(a:J0):Inv (X.suite a) pins σ H s:=⟨I.ok.suite a,I.os,I.bare,I.base,I.loc,I.cell,I.free,I.freeC,I.pin,I.hok,I.len⟩
theorem Inv.unsuite{pins:List (J0×Obj)}{σ σ':St}{H H':Hp}{s s':JY}{a:J0}(I0:Inv X pins σ H s)(I:Inv (X.suite a) pins σ' H' s'):Inv X pins σ' H' s':=⟨I0.ok,I.os,I.bare,I.base,I.loc,I.cell,I.free,I.freeC,I.pin,I.hok,I.len⟩
theorem TJ{pins:List (J0×Obj)}{σ:St}{H:Hp}{s:JY}{i:Nat}{Q:Unit->JY->Prop}{E:JX->JY->Prop}{A:Around}(I:Inv X pins σ H s)(hN:X.N.Nodup)(hi:X.N[i]?=O n)(hl:X.env.kindOf n=O .local)
  (h:∀s',Inv X pins (σ.set i Cu) H s'->Q () s'):J7 (model X.prog X.w) A (do bindName X.env n .none;unbindBehindTheSuite X.env n pos) Q E s:=by
 have hcls:(X.env.scope.kind==.class || (X.env.scope.kind==.module&&X.env.locals != X.env.globals))=Cw:=by rw[I.ok.kind];rfl
 refine Qb (wpAny_bindName (TH (v:=.non) (u:=.none) I hN hi (.inl hl) Ct (λs1 I1=>?_) (.inr hl)));unfold unbindBehindTheSuite;refine wpAny_onRaise ?_;unfold unbindName;refine Qb (wpAny_point (Qb ?_));unfold deleteName;simp only[hl,hcls];rw[Qv (by decide)];obtain⟨m,hn,hlk⟩:=id I1.loc;have hiσ:i<σ.length:=by rw[I.len];exact(Qm.mp hi).1
 refine Qb (wpAny_nsDel_keeps hn λh' v hn' hs=>?_)
 have hsome:(m n).isSome=Cv:=by
  obtain⟨u,_,l⟩:=hlk i n .non hi (by rw[Qz hiσ]) (.inl hl);rcases l with ⟨_,l⟩|⟨k,_⟩
  .rw[l];rfl
  .rcases k with k|k
   .rw[hl]at k;cases k
   .rw[hl]at k;cases k
 rw[hsome];simp only[if_true,Bool.not_true,Bool.false_eq_true,if_false];refine Qk (wpAny_point (h _ ?_));obtain⟨oL,_,_,hoL,_⟩:=id hn;have neL:∀b o,X.s₀.heap.get? b=O o->b≠X.env.locals:=λb o e=>QP (Qy (Qf e) I.ok.above)
 refine⟨I1.ok,I1.os,I1.bare,⟨λb o e n hb hx=>(hs.2 b (neL b o e)).trans (I1.base.keep b o e n hb hx),λb o e n hb hx=>?_,I1.base.free,λb o e hx=>?_,I1.base.tups,I1.base.frzs,I1.base.tbls⟩,⟨_,hn',λj y v' e1 e2 e3=>?_⟩,λy c e=>?_,I1.free,I1.freeC,λp hp=>?_,λb ob e=>?_,?_⟩
 .obtain⟨sl,e1⟩:=I1.base.slot b o e n hb hx
  exact⟨sl,(hs.2 b (neL b o e)).trans e1⟩
 .obtain⟨o',e1⟩:=I1.base.there b o e hx
  exact⟨o',(hs.2 b (neL b o e)).trans e1⟩
 .have hj:j≠i:=by
   rintro rfl;rw[Qz hiσ]at e2;cases e2
  rw[Qe (Ne.symm hj)]at e2;obtain⟨u',r',q⟩:=hlk j y v' e1 (by rw[Qe (Ne.symm hj)];exact e2) e3;have hy:y≠n:=by rintro rfl;obtain⟨h1,h2⟩:=Qm.mp e1;obtain⟨h3,h4⟩:=Qm.mp hi;exact hj ((List.getElem_inj hN).mp (h2.trans h4.symm))
  refine⟨u',r',?_⟩;rcases q with ⟨q1,q2⟩|⟨k,c,e,z⟩
  .exact .inl ⟨q1,(Qv hy).trans q2⟩
  .obtain⟨o,ho,hd⟩:=z
   exact .inr ⟨k,c,e,o,(hs.2 c (I1.cne y c e)).trans ho,hd⟩
 .obtain⟨v',o,ho,hd⟩:=I1.cell y c e
  exact⟨v',o,(hs.2 c (I1.cne y c e)).trans ho,hd⟩
 .obtain⟨a,b,c,d⟩:=I1.pin p hp
  exact⟨(hs.2 _ c).trans a,b,c,d⟩
 .refine(I1.hok b ob e).stay (λc w' hc q=>(hs.2 c ?_).trans q) (λ_ q=>q) λ_ _ q=>q
  rintro rfl;rcases hc with rfl|hc
  .rw[I1.free]at e;cases e
  .rw[I1.free]at hc;cases hc
 .rw[QJ];exact I.len
theorem Do{c:Bool}{M:Model}{A:Around}{E:JX->JY->Prop}{s:JY}{a:J0}{Q:Unit->JY->Prop}(fl:Fly c s.heap a)(h:∀h',(∀b o,s.heap.get? b=O o->h'.get? b=O o)->Q () {s with heap:=h'}):J7 M A (setFlight (.ref a) Cu) Q E s:=by
 obtain⟨oe,vs,he,hd,h1,_⟩:=fl;unfold setFlight;rcases h1 with h1|⟨T,oT,ts,h1,BU,hT,Bp,h3⟩
 .refine Qb (QE he hd h1 ?_)
  rw[Qv (by decide)];exact Qk (h s.heap λ_ _ q=>q)
 .obtain⟨B2,BF⟩:=Jh.mp h3
  refine Qb (QE he hd h1 ?_);rw[if_pos (show(Value.ref T != Value.none)=Cv from by simp)];refine wpAny_setField hT Bp B2 (h _ λb o hb=>?_);by_cases BK:b=T
  .subst BK
   rw[hT]at hb;cases hb;rw[Q3 _ hT (Je (Jp Bp _)),YO _ Bp];have:ts.setIfInBounds 3 Value.none=ts:=Array.setIfInBounds_same _ _ _ h3;show O {oT with data:=.fields (ts.setIfInBounds 3 Value.none)}=_;rw[this,←Bp]
  .rw[QN _ _ (Ne.symm BK)];exact hb
noncomputable def XX(KC:J0->Cz->Prop)(D:J0)(i:Nat)(ts:TS)(Dn:Ends):V->St->Hp->Prop:=λv σ H=>∃a C dd bm,v=.ref a/\KC C bm/\H a=O (.ext (XO Cw a C dd))/\(Value.ref C::bm).contains (.ref D)=Cv /\
 ts {nx:=λσ' H'=>Dn.nx (σ'.set i Cu) H',rt:=Dn.rt,bk:=λσ' H'=>Dn.bk (σ'.set i Cu) H',ct:=λσ' H'=>Dn.ct (σ'.set i Cu) H'} (σ.set i (O (.ref a))) H
noncomputable def tTry(KC:J0->Cz->Prop)(D:J0)(i:Nat)(tb:(V->St->Hp->Prop)->TS)(ts:TS):TS:=λDn σ H=>tb (XX KC D i ts Dn) Dn σ H
noncomputable abbrev Cx.tried(X:Cx)(W:JX->JY->Prop)(pins:List (J0×Obj)):Cx:={X with xe:=W,pn:=X.pn++pins}
theorem Inv.tried{pins:List (J0×Obj)}{σ:St}{H:Hp}{s:JY}(I:Inv X pins σ H s)(W:JX->JY->Prop):Inv (X.tried W pins) [] σ H s:=
 ⟨⟨I.ok.mod,I.ok.kind,I.ok.glob,I.ok.blt,I.ok.above,I.ok.inj,I.ok.has,I.ok.cab,I.ok.hd,I.ok.frames,I.ok.stk,I.ok.exf,I.ok.bs,I.ok.bsz,I.ok.noex,I.ok.exfs,I.ok.funs,I.ok.frf⟩,I.os,I.bare,I.base,I.loc,I.cell,I.free,I.freeC,λp hp=>I.pin p (by simpa using hp),I.hok,I.len⟩
theorem Inv.untried{pins pins':List (J0×Obj)}{σ σ':St}{H H':Hp}{s s':JY}{W:JX->JY->Prop}(I0:Inv X pins σ H s)(I:Inv (X.tried W pins) pins' σ' H' s'):Inv X pins σ' H' s':=
 ⟨I0.ok,I.os,I.bare,I.base,I.loc,I.cell,I.free,I.freeC,λp hp=>I.pin p (QT _ hp),I.hok,I.len⟩
theorem LZ{KC:J0->Cz->Prop}{D fD:J0}{bmD:Cz}{i:Nat}{tb:(V->St->Hp->Prop)->TS}{ts:TS}{body suite:List Stmt}{b₀:Stmt}{st:List Env}(Bj:X.stack=X.env::st)(hfr:X.env.frame=O X.env.locals)
  (hcls:∀C bm,KC C bm->∃fI,XCls (model X.prog X.w) X.base C bm fI) (hD:XCls (model X.prog X.w) X.base D bmD fD) (hg:Gl X x) (hm:X.mg x=O (.ref D)) (hN:X.N.Nodup) (hi:X.N[i]?=O n) (hl:X.env.kindOf n=O .local)
  (hb:∀(KX:V->St->Hp->Prop)(W:JX->JY->Prop)(pn:List (J0×Obj)),Yz Cw (X.tried W pn) KX->PSs (X.tried W pn) body (tb KX)) (hs:∀a,PSs (X.suite a) (b₀::suite) ts) (hdb:(x==("__debug__" : Str))=Cw:=by decide) :
  PS X (.Try body [.ExceptHandler (O (.Name x np)) (O n) (b₀::suite) hpos] [] [] pos) (tTry KC D i tb ts):=by
 intro pins s σ H Dn I h;refine wpAny_Try_except ?_
 let W:JX->JY->Prop:=λv s1=>∃a σ1 H1,v=.ref a/\Inv X pins σ1 H1 s1/\Fly Cw s1.heap a/\XX KC D i ts Dn (.ref a) σ1 H1
 have hw:Yz Cw (X.tried W pins) (XX KC D i ts Dn):=λpins' σ1 H1 s1 a C dd I1 hx fl hk=>⟨a,σ1,H1,rfl,I.untried I1,fl,hk⟩;refine QU (hb _ W pins hw [] s σ H Dn (I.tried W) h) (λf s1 h1=>?_) λv s1 h1=>?_
 .cases f with
  |next=>obtain⟨σ',H',I',q⟩:=h1;exact wpAny_execs_nil ⟨σ',H',I.untried I',q⟩
  |brk=>obtain⟨σ',H',I',q⟩:=h1;exact⟨σ',H',I.untried I',q⟩
  |cont=>obtain⟨σ',H',I',q⟩:=h1;exact⟨σ',H',I.untried I',q⟩
  |ret u=>obtain⟨v,σ',H',I',r,q⟩:=h1;exact⟨v,σ',H',I.untried I',r,q⟩
 .obtain⟨a,σ1,H1,rfl,I1,fl,a',C,dd,bm,ea,kc,hx,hm',q⟩:=h1
  cases ea;obtain⟨fI,XC⟩:=hcls C bm kc;have hk:=I1.ok.frames;rw[Bj]at hk;have hS:=I1.stack;rw[Bj]at hS;refine note hk hS hfr fl λh2 p2 fl2=>?_;rw[←Bj]at p2;have I2:=I1.passed hx p2;refine wpAny_handleBy_cons (codeAny_handlers_test ?_) (by intro q;cases q)
  refine XQ (I2.suite a) hg hm ?_ hdb;obtain⟨nm,qn,N,bs,sn,sub,ab,col,dd1,k0,k1,k2,k3,k5,hC⟩:=XC.obj;obtain⟨Bq,qn',N',bs',sn',sub',BQ,col',dd2,j0,j1,j2,j3,j5,Bg⟩:=hD.obj;obtain⟨⟨vs,sl,ga,_⟩,_,_⟩:=I2.hok a _ hx;refine Et (I2.bk _ _ hC) (I2.bk _ _ Bg) (hD.tail _ _ Ct) ga Ct hm' ?_;refine codeAny_handlers_suite_as (Do fl2 λh3 k3=>?_);have I3:=I2.kept (t':=s1.toks) k3;refine TH (v:=.ref a) I3 hN hi (.inl hl) Ct (λs4 I4=>?_) (.inr hl);refine QU (hs a pins s4 _ H1 _ (I4.suite a) q) (λf s5 h5=>?_) λ_ _ z=>z.elim
  cases f with
  |next=>obtain⟨σ',H',I',q'⟩:=h5;exact TJ (I3.unsuite I') hN hi hl λs6 I6=>⟨_,H',I6,q'⟩
  |brk=>obtain⟨σ',H',I',q'⟩:=h5;exact TJ (I3.unsuite I') hN hi hl λs6 I6=>⟨_,H',I6,q'⟩
  |cont=>obtain⟨σ',H',I',q'⟩:=h5;exact TJ (I3.unsuite I') hN hi hl λs6 I6=>⟨_,H',I6,q'⟩
  |ret u=>obtain⟨v,σ',H',I',r,q'⟩:=h5;exact TJ (I3.unsuite I') hN hi hl λs6 I6=>⟨v,_,H',I6,r,q'⟩
end
section
variable{prog:JZ}{w:World}{A:Around}{E:JX->JY->Prop}{h:Heap}{g:Array GenState}{d:Drawn}{t:Nat}{os:OsState}
variable{nm q:Str}{C N a:J0}{bs bm bmB:Cz}{hdct:Bool}{sn:List Str}{sub:Cz}{ab:Bool}{col:CL}{dd:CJ}{k0 k1 k2 k3 k5:CB}{B newId initId nid:String}
theorem D3(F:ExcBaseFacts B nid initId bmB)(T:Tail bmB bm){M:Model}{oe:Obj}{rest:Cz}{Q:Unit->JY->Prop}
  (hC:h.get? C=O (excClassObj nm q C N bs bm hdct sn sub ab col dd k0 k1 k2 k3 k5 newId)) (he:h.get? a=O oe) (hcls:oe.cls=.ref C) (hq:Q () ⟨h,g,d,t,os⟩) :
  J7 M A (checkBuiltinCall initId ⟨.ref a::rest,[]⟩) Q E ⟨h,g,d,t,os⟩:=by
 have Bd:(Value.ref C::bm).contains (.type B)=Cv:=by rw[QR,T _ _ F.hasB,JP]
 have hshort:=F.noStar;simp only[checkBuiltinCall,F.initKind,F.initSplit,F.initRow]
 repeat (first|(with_reducible refine Qh he ?_;rw[hcls])|with_reducible refine Qh hC ?_|(with_reducible refine QB hC ?_;rw[Bd])|wp_step)
 refine wpAny_onRaise ?_
 rw[show ∀(x1 x2:String)(n:Nat),Bind.check ⟨.positional, "*", B,.self,[⟨"args", .varPos,Cw⟩]⟩ x1 x2 n (List.map (λx=>x.fst) ({pos:=Value.ref a::rest}:Args).kw)=pure ()from
  λ_ _ n=>check_star_args _ _ _ _ _ _]
 exact Qk hq
theorem Dm(F:ExcBaseFacts B nid initId bmB)(T:Tail bmB bm){oe:Obj}{vs:Array JX}{u:JX}{Q:JX->JY->Prop}
  (hC:h.get? C=O (excClassObj nm q C N bs bm hdct sn sub ab col dd k0 k1 k2 k3 k5 newId)) (he:h.get? a=O oe) (hcls:oe.cls=.ref C) (hd:oe.data=.fields vs) {t0:J0} (h0:vs[0]?=O (.ref t0))
  (hq:∀h',(∀b o,b≠a->h.get? b=O o->h'.get? b=O o)->(∃y,h'.get? a=O {oe with data:=.fields (vs.setIfInBounds 0 (.ref y))})->Q .none ⟨h',g,d,t,os⟩) :
  J7 (model prog w) A (call (.builtin initId) [.ref a,u]) Q E ⟨h,g,d,t,os⟩:=by
 refine wpAny_call (Jf F.init.plain F.initEntry (D3 F T hC he hcls ?_));have he₂:(h.push {cls:=.type "tuple", data:=.seq #[u]}).get? a=O oe:=Qd _ he;have hz:0<vs.size:=(Jh.mp h0).1
 repeat (first|with_reducible refine QE he₂ hd h0 ?_|with_reducible refine wpAny_setField he₂ hd hz ?_|wp_step)
 have he₃:=Q3 (Obj.mapFields (·.setIfInBounds 0 (Value.ref h.objs.size))) he₂ (Je (Jp hd _));refine hq _ (λb o hb g=>?_) ⟨_,by rw[he₃,YO _ hd]⟩;rw[QN _ _ (Ne.symm hb)];exact Qd _ g
end
theorem GU:PySem.W.handedIn (.builtin "ValueError.__init__")=Cv:=by decide +kernel
theorem LY{h:Heap}:PySem.W.Frag.In [] h:=λa o z=>by cases z
theorem PH:typeOf (.type "ValueError")=pure (.type "type"):=by kernel_rfl
theorem GT:Manifest.isStub "ValueError" = Cw:=by decide +kernel
theorem GS:PySem.W.findCls [] (.type "ValueError") (.type "type") "__init__" = O (.val (.builtin "ValueError.__init__")):=by kernel_rfl
section
variable{X:Cx}{k:Nat}{f D:J0}{fd:J4}{ps:List Str}{sp:Sp}{x:Str}{p pos apos:Pos}{e:J5}{es:CC}{t:TA}
noncomputable def R8(KC:J0->Cz->Prop)(t:TA):TE:=λσ H Q=>t σ H λvs H1=>∃a C dd bm u,vs=[.ref a,u]/\KC C bm/\H1 a=O (.ext (XO Cv a C dd))/\Q .non H1
theorem Er{KC:J0->Cz->Prop}{pl:Sem Bool}(hcls:∀C bm,KC C bm->∃fI,XCls (model X.prog X.w) X.base C bm fI)(hg:Gl X "ValueError")(hm:X.mg "ValueError" = Cu)(ha:PA X (e::es) t)
  (hst:J8 (e::es) X.env=(Cw,eval e X.env)::J8 es X.env:=by rfl) (hpl:(backTo pos (J8 es X.env)).any (·.1)=Cw:=by rfl)
  (ht:eval (.Call (.Attribute (.Name "ValueError" p) "__init__" apos) (e::es) [] pos) X.env=(do
   let ov ←eval (.Name "ValueError" p) X.env
   standAt apos.atName
   let (f,first) ←holding [ov] (getMethod ov "__init__" pl)
   callWith pos f first (backTo pos (J8 (e::es) X.env)) (backToKw pos (keywordEach [] X.env))):=by rfl) :
  PE X (.Call (.Attribute (.Name "ValueError" p) "__init__" apos) (e::es) [] pos) (R8 KC t):=by
 intro pins s σ H Q I h;have hB:bootBuiltins "ValueError" = O (.type "ValueError"):=by decide +kernel
 refine PySem.W.methodCall_KW (pl:=pl) (Xy I hg hm hB ?_) ht;obtain⟨m,Fm⟩:=I.fr;refine PySem.W.method_type (K:=[]) (v:=.builtin "ValueError.__init__") Fm LY PH GT GS GU ?_;refine PyProof.Rows.callWith_builtin1 (thn (ha pos pins _ σ H _ (I.tok _) h) λus s1 ⟨vs,H1,I1,r1,a,C,dd,bm,u,ev,kc,hx,q⟩=>?_) hst hpl;subst ev;cases r1 with
 |cons ra r1=>
 cases r1 with
 |cons ru r1=>
 cases r1;have ra':_=Value.ref a:=ra;subst ra';obtain⟨fI,XC⟩:=hcls C bm kc;obtain⟨nm,qn,N,bs,sn,sub,ab,col,dd1,k0,k1,k2,k3,k5,hC⟩:=XC.obj;obtain⟨⟨vs,sl,ga,z⟩,_,_⟩:=I1.hok a _ hx;obtain⟨z1,⟨t0,z0⟩,z2⟩:=z Ct;obtain⟨hp,g,d,tk,os⟩:=s1;refine Dm PySem.F.excBase_ValueError XC.tail (I1.bk _ _ hC) ga Ct Ct z0 λh' k ⟨y,hy⟩=>?_;have hw:=I1.write (x:=a) (e:=a) (o:=.ext (XO Cv a C dd)) (t':=tk) (h':=h') (by rw[hx];trivial) (.inl Ct) k ⟨_,hy⟩ (XO.ok ⟨_,sl,hy,λ_=>⟨by rw[Array.getElem?_setIfInBounds_ne (by decide)];exact z1,⟨y,by simp[(Array.getElem?_eq_some_iff.mp z0).1]⟩,by rw[Array.getElem?_setIfInBounds_ne (by decide)];exact z2.1,by rw[Array.size_setIfInBounds];exact z2.2⟩⟩)
 have e:upd H1 a (.ext (XO Cv a C dd))=H1:=by
  funext b;by_cases hb:b=a
  .subst hb;rw[U9,hx]
  .rw[UR hb]
 rw[e]at hw;exact⟨.non,H1,hw,rfl,q⟩
end
structure VJ(K:Frag)(D:J0)(m:Str)(f:J0):Prop where
 ga:PySem.W.specialIn K (.ref D) "__getattribute__" = O (O (.builtin "type.__getattribute__"))
 rd:PySem.W.readsIn K D (.type "type")=Cv
 fd:PySem.W.findCls K (.ref D) (.type "type") m=O (.val (.ref f))
 kp:PySem.W.keepIn K (.ref f)=Cv
section
variable{X:Cx}{k:Nat}{f D:J0}{fd:J4}{ps:List Str}{sp:Sp}{x m:Str}{p pos apos:Pos}{e:J5}{es:CC}{t:TA}
theorem EQ{pl:Sem Bool}(M:VJ X.K D m f)(F:FnOk X.prog X.w X.K X.mg X.base CX0 k f fd ps sp)(hr:Room k X.A)(hb:Zd X.K fd ps [])(hg:Gl X x)(hm:X.mg x=O (.ref D))(ha:PA X (e::es) t)
  (hdb:(x==("__debug__" : Str))=Cw:=by decide) (hst:J8 (e::es) X.env=(Cw,eval e X.env)::J8 es X.env:=by rfl) (hpl:(backTo pos (J8 es X.env)).any (·.1)=Cw:=by rfl)
  (ht:eval (.Call (.Attribute (.Name x p) m apos) (e::es) [] pos) X.env=(do
   let ov ←eval (.Name x p) X.env
   standAt apos.atName
   let (f,first) ←holding [ov] (getMethod ov m pl)
   callWith pos f first (backTo pos (J8 (e::es) X.env)) (backToKw pos (keywordEach [] X.env))):=by rfl) :
  PE X (.Call (.Attribute (.Name x p) m apos) (e::es) [] pos) (VL sp [] E0 t):=by
 intro pins s σ H Q I h;refine PySem.W.methodCall_KW (pl:=pl) (XQ I hg hm ?_ hdb) ht;refine PySem.W.method_cls I.kIn M.ga (PySem.W.cls_value I.kIn M.rd M.fd Ct ?_);refine PySem.W.callWith_K (h₀:=X.base) I.ok.mod.kin M.kp (thn (ha pos pins _ σ H _ (I.tok _) h) λus s1 ⟨vs,H1,I1,r,q⟩=>⟨I1.kIn,?_⟩) hst hpl;exact So F hr hb .nil W6 I1 r q
end
noncomputable def XD(dx:J0)(fs:List (Str×V)):Heap->Prop:=λh=>∃mA,h.Ns1 dx mA/\h.ExactDictFk dx/\(∀f,Yl (fs.lookup f) (mA f))/\PySem.Within mA (fs.map (·.1))
theorem XD.ok{P:JZ}{w:World}{H:Hp}{h:Heap}{dx:J0}{fs:List (Str×V)}(x:XD dx fs h):KW P w H h dx (.ext (XD dx fs)):=
 ⟨x,let ⟨_,⟨o,_,_,q,_⟩,_⟩:=x;⟨o,q⟩,λh1 h2 ⟨mA,⟨o,es,ep,q,c⟩,⟨od,q2,c2⟩,r⟩ k=>⟨mA,⟨o,es,ep,k _ q,c⟩,⟨od,k _ q2,c2⟩,r⟩⟩
theorem XO.inst{h:Heap}{a C:J0}{vs:Array JX}{sl:Array CB}(g:h.get? a=O {cls:=.ref C,dict:=Cu,data:=.fields vs,slots:=sl}):h.InstFk a C λ_=>Cu:=
 ⟨_,g,rfl,λ_ z=>(by cases z),.inl ⟨rfl,λ_=>rfl⟩⟩
section
variable{X:Cx}{pins:List (J0×Obj)}{σ:St}{H:Hp}{s:JY}{a C dx:J0}{h':Heap}{t':Nat}
theorem Inv.xdict{fs:List (Str×V)}(I:Inv X pins σ H s)(hx:H a=O (.ext (XO Cv a C Cu)))(k:∀b o,b≠a->s.heap.get? b=O o->h'.get? b=O o)(hz:s.heap.objs.size<=dx)(h1:XO Cv a C (O dx) h')(h2:XD dx fs h') :
  Inv X pins σ (upd (upd H a (.ext (XO Cv a C (O dx)))) dx (.ext (XD dx fs))) {s with heap:=h',toks:=t'}:=by
 have hn:H dx=Cu:=I.hok.fresh hz;have hne:dx≠a:=λz=>by rw[z,hx]at hn;cases hn
 have ne:∀b,H b=Cu->b≠a:=λb n z=>by rw[z,hx]at n;cases n
 have nd:∀b o,s.heap.get? b=O o->b≠dx:=λb o g z=>by subst z;exact absurd (Qf g) (Nat.not_lt.mpr hz)
 have oth:∀b,b≠a->b≠dx->upd (upd H a (.ext (XO Cv a C (O dx)))) dx (.ext (XD dx fs)) b=H b:=λb h1 h2=>by rw[UR h2,UR h1]
 have trk:∀b u,H b=O u->b≠dx:=λb u q z=>by rw[z,hn]at q;cases q
 have nota:∀b(u:HO),H b=O u->(∀φ,u≠.ext φ)->b≠a:=λb u q n z=>by rw[z,hx]at q;cases q;exact n _ Ct
 refine I.un (t':=t') ⟨λb o g n _ _=>k b o (ne b n) g,λb o g n _ _=>⟨o.slots,k b o (ne b n) g⟩,λb o g n _=>(oth b (ne b n) (nd b o g)).trans n,λb o g _=>?_,λb xs q=>?_,λb o u q=>?_,λb ps q=>⟨#[],?_⟩⟩ λb u q=>?_
 .by_cases hb:b=a
  .subst hb;obtain⟨_,_,z,_⟩:=h1;exact⟨_,z⟩
  .exact⟨o,k b o hb g⟩
 .exact(oth b (nota b _ q λ_ z=>by cases z) (trk b _ q)).trans q
 .exact(oth b (nota b _ q λ_ z=>by cases z) (trk b _ q)).trans q
 .rw[oth b (nota b _ q λ_ z=>by cases z) (trk b _ q),q];simp
 .by_cases hb:b=dx
  .subst hb;rw[U9]at q;cases q;exact XD.ok h2
  .rw[UR hb]at q
   by_cases Aa:b=a
   .subst Aa;rw[U9]at q;cases q;exact XO.ok h1
   .rw[UR Aa]at q
    refine(I.hok b u q).stay (λc v hc g=>k c v ?_ g) (λc r=>(oth c (nota c _ r λ_ z=>by cases z) (trk c _ r)).trans r) λc xs r=>(oth c (nota c _ r λ_ z=>by cases z) (trk c _ r)).trans r
    rcases hc with rfl|hc
    .exact Aa
    .exact nota c _ hc λ_ z=>by cases z
end
noncomputable def RG(KC:J0->Cz->Prop)(ta tv:TE)(f:Str):TS:=λD σ H=>tv σ H λy H1=>ta σ H1 λx H2=>∃a C bm,x=.ref a/\KC C bm /\
 ((H2 a=O (.ext (XO Cv a C Cu))/\∀dx,H2 dx=Cu->dx≠a->D.nx σ (upd (upd H2 a (.ext (XO Cv a C (O dx)))) dx (.ext (XD dx [(f,y)])))) ∨
  ∃dx fs,dx≠a/\H2 a=O (.ext (XO Cv a C (O dx)))/\H2 dx=O (.ext (XD dx fs))/\fs.length<900/\D.nx σ (upd H2 dx (.ext (XD dx (KE f y fs)))))
section
variable{X:Cx}{o value:J5}{f:Str}{pos pos':Pos}{ta tv:TE}{KC:J0->Cz->Prop}
theorem GR(hcls:∀C bm,KC C bm->∃fI,XCls (model X.prog X.w) X.base C bm fI)(hf:∀C bm,KC C bm->Kh (model X.prog X.w) C f Cu X.base)(ha:PE X o ta)(hv:PE X value tv)
  (hs:swapsWith value (O (.Attribute o f pos')) pos.line X.env=pure Cw):PS X (.Assign [.Attribute o f pos'] value pos) (RG KC ta tv f):=by
 intro pins s σ H D I h;refine plainObj_wpAny_Assign_Attribute (thn (hv pins s σ H _ I h) λu s1 ⟨y,H1,I1,ry,q⟩=>thn (ha pins s1 σ H1 _ I1 q) λov s2 ⟨x,H2,I2,rx,a,C,bm,ex,kc,q2⟩=>?_) hs;subst ex;obtain rfl:ov=Value.ref a:=rx;obtain⟨fI,XC⟩:=hcls C bm kc;obtain⟨nm,qn,N,bs,sn,sub,ab,col,dd1,k0,k1,k2,k3,k5,hC⟩:=XC.obj;obtain⟨hp,g,d,tk,os⟩:=s2;rcases q2 with ⟨hx,q2⟩|⟨dx,fs,hne,hx,Be,hl,q2⟩
 .obtain⟨⟨vs,sl,ga,z⟩,_,_⟩:=I2.hok a _ hx
  refine Nh (ns:=[]) PySem.F.store_ValueError XC.tail (XC.pass _) (I2.bk _ _ hC) (XC.sa.keeps I2.bk) ((hf C bm kc).keeps I2.bk) (XO.inst ga) (λh' tk' i' hk hsame hnew=>?_) PySem.Within.nil (by decide);obtain⟨o1,g1,c1,d1,s1',_⟩:=hsame _ ga;obtain⟨o2,g2,_,_,dd⟩:=i';rw[g1]at g2;cases g2;rcases dd with ⟨_,dn⟩|⟨dx,Be,hne,hns,hex⟩
  .have:=dn f;simp at this
  .have hz:=hnew _ _ dx ga Ct g1 Be
   have o1e:o1 = {cls:=.ref C,dict:=O dx,data:=.fields vs,slots:=sl}:=by obtain⟨oc,od,odt,osl⟩:=o1;cases c1;cases d1;cases s1';cases Be;rfl
   have I3:=I2.xdict (t':=tk') (dx:=dx) (fs:=[(f,y)]) hx (λb ob hb gb=>hk b ob hb (λo₀ dx' e1 e2=>by rw[ga]at e1;cases e1;cases e2) gb) hz ⟨vs,sl,by rw[g1,o1e],z⟩
    ⟨_,hns,hex,λg=>?_,λg hg=>?_⟩
   .exact⟨σ,_,I3,q2 dx (I2.hok.fresh hz) hne⟩
   .show Yl ((KE f y []).lookup g) (if g=f then O u else Cu)
    rw[Ra];by_cases e:g=f
    .rw[Qo e,Qo e];exact ry
    .rw[Qv e,Qv e];trivial
   .show g∈[f]
    by_cases e:g=f
    .rw[e];simp
    .exact absurd (Qv e) hg
 .obtain⟨⟨vs,sl,ga,z⟩,_,_⟩:=I2.hok a _ hx
  obtain⟨⟨mA,hns,hex,hr,hwi⟩,_,_⟩:=I2.hok dx _ Be;refine Nh (ns:=fs.map (·.1)) PySem.F.store_ValueError XC.tail (XC.pass _) (I2.bk _ _ hC) (XC.sa.keeps I2.bk) ((hf C bm kc).keeps I2.bk) ⟨_,ga,rfl,λ_ z=>(by cases z),.inr ⟨dx,rfl,hne,hns,hex⟩⟩ (λh' tk' i' hk hsame hnew=>?_) hwi (by rw[Qg];omega);obtain⟨o1,g1,c1,d1,s1',dk⟩:=hsame _ ga;have hd1:=dk dx Ct;obtain⟨o2,g2,_,_,dd⟩:=i';rw[g1]at g2;cases g2;rcases dd with ⟨dn,_⟩|⟨dx2,B9,hne2,B3,hex2⟩
  .rw[hd1]at dn;cases dn
  .rw[hd1]at B9
   cases B9;have o1e:o1 = {cls:=.ref C,dict:=O dx,data:=.fields vs,slots:=sl}:=by obtain⟨oc,od,odt,osl⟩:=o1;cases c1;cases d1;cases s1';cases hd1;rfl
   have I3:=I2.write (x:=dx) (e:=dx) (o:=.ext (XD dx (KE f y fs))) (t':=tk') (h':=h') (by rw[Be];trivial) (.inl Ct) (λb ob hb gb=>by
    by_cases hba:b=a
    .subst hba;rw[ga]at gb;cases gb;rw[g1,o1e]
    .exact hk b ob hba (λo₀ dx' e1 e2=>by rw[ga]at e1;cases e1;cases e2;exact hb) gb) (let ⟨o,_,_,q,_⟩:=B3;⟨o,q⟩) (XD.ok ⟨_,B3,hex2,λg=>?_,λg hg=>?_⟩)
   .exact⟨σ,_,I3,q2⟩
   .show Yl ((KE f y fs).lookup g) (if g=f then O u else mA g)
    rw[Ra];by_cases e:g=f
    .rw[Qo e,Qo e];exact ry
    .rw[Qv e,Qv e];exact hr g
   .by_cases e:g=f
    .rw[e];exact(S5 f y fs).1
    .refine(S5 f y fs).2 g (hwi g λz=>hg ?_)
     show(if g=f then O u else mA g)=Cu
     rw[Qv e];exact z
end
inductive FmtV:V->Str->Prop
 |str (x:Str) (h:x.length<=J6):FmtV (.str x) x
 |int (i:Int) (h:i.natAbs.log2<1920):FmtV (.int i) (toString i:String)
 |non:FmtV .non "None"
noncomputable def tFmt(te:TE):TE:=λσ H Q=>te σ H λv H1=>∃y,FmtV v y/\Q (.str y) H1
noncomputable def VU:List TE->Str->TE
 |[],acc=>λ_ H Q=>acc.length<=J6/\Q (.str acc) H
 |te::r,acc=>λσ H Q=>te σ H λv H1=>∃y,v=.str y/\(acc++y).length<=J6/\VU r (acc++y) σ H1 Q
inductive PEs(X:Cx):CC->List TE->Prop
 |nil:PEs X [] []
 |cons {e:J5} {es:CC} {t:TE} {ts:List TE}:PE X e t->PEs X es ts->PEs X (e::es) (t::ts)
section
variable{X:Cx}{value:J5}{te:TE}{pos:Pos}
theorem LX(h:PE X value te):PE X (.FormattedValue value (-1) Cu pos) (tFmt te):=by
 intro pins s σ H Q I hq;refine wpAny_FormattedValue_plain (thn (h pins s σ H _ I hq) λu s1 ⟨v,H1,I1,rv,y,hy,q⟩=>?_);cases hy with
 |str x hx=>
  obtain⟨t,rfl⟩:=(show ∃t,u=Value.str y t from rv)
  exact wpAny_formatField_str ⟨.str y,H1,I1,⟨_,rfl⟩,q⟩ ⟨.str y,H1,I1.tok _,⟨_,rfl⟩,q⟩ hx
 |int i hi=>
  obtain⟨t,rfl⟩:=(show ∃t,u=Value.int i t from rv)
  exact wpAny_formatField_int hi ⟨.str _,H1,I1.tok _,⟨_,rfl⟩,q⟩
 |non=>obtain rfl:u=Value.none:=rv;exact wpAny_formatField_none ⟨.str _,H1,I1.tok _,⟨_,rfl⟩,q⟩
theorem On{E:JX->JY->Prop}:∀{es:CC}{ts:List TE}{acc:Str}{pins:List (J0×Obj)}{s:JY}{σ:St}{H:Hp}{Q:VK},PEs X es ts->Inv X pins σ H s->VU ts acc σ H Q ->
  Joins (model X.prog X.w) X.A X.xe (evalEach es X.env) acc (λout s1=>out.length<=J6/\EP X pins σ Q (.str out s1.toks) {s1 with toks:=s1.toks+1}) s
 |_,_,acc,pins,s,σ,H,Q,.nil,I,⟨hl,q⟩=>⟨hl,.str acc,H,I.tok _,⟨_,rfl⟩,q⟩
 |_,_,acc,pins,s,σ,H,Q,.cons h r,I,hq=>thn (h pins s σ H _ I hq) λu s1 ⟨v,H1,I1,rv,y,ev,hl,q⟩=>by
  subst ev;obtain⟨t,rfl⟩:=(show ∃t,u=Value.str y t from rv)
  exact⟨y,t,rfl,hl,On (E:=E) r I1 q⟩
theorem EY{v1 v2:J5}{rest:CC}{ts:List TE}(h:PEs X (v1::v2::rest) ts):PE X (.JoinedStr (v1::v2::rest) pos) (VU ts Str.empty):=by intro pins s σ H Q I hq;exact wpAny_JoinedStr (On (E:=X.xe) h I hq)
end
noncomputable def NR(KC:J0->Cz->Prop)(ta:TE)(f:Str):TE:=λσ H Q=>ta σ H λx H1=>∃a C bm dx fs v fr,x=.ref a/\KC C bm/\H1 a=O (.ext (XO fr a C (O dx)))/\H1 dx=O (.ext (XD dx fs))/\fs.lookup f=O v/\Q v H1
theorem Dl{v:V}{u:JX}(r:RelV v u):handedOut u=pure u:=by
 cases v with
 |non=>obtain rfl:u=_:=r;rfl
 |bl b=>obtain rfl:u=_:=r;rfl
 |int i=>obtain⟨t,rfl⟩:∃t,u=_:=r;rfl
 |str x=>obtain⟨t,rfl⟩:∃t,u=_:=r;rfl
 |byt b=>obtain⟨t,rfl⟩:∃t,u=_:=r;rfl
 |flt b=>obtain⟨t,rfl⟩:∃t,u=_:=r;rfl
 |ref a=>obtain rfl:u=_:=r;rfl
 |ty n=>obtain rfl:u=_:=r;rfl
section
variable{X:Cx}{e:J5}{f:Str}{pos:Pos}{ta:TE}{KC:J0->Cz->Prop}
theorem GQ(hcls:∀C bm,KC C bm->∃fI,XCls (model X.prog X.w) X.base C bm fI)(hf:∀C bm,KC C bm->Kh (model X.prog X.w) C f Cu X.base)(he:PE X e ta)(hb:attributeBase e f X.env (eval e X.env)=eval e X.env):PE X (.Attribute e f pos) (NR KC ta f):=by
 intro pins s σ H Q I h;refine Fe hb (thn (he pins s σ H _ I h) λu s1 ⟨x,H1,I1,rx,a,C,bm,dx,fs,v,fr,ex,kc,hx,hd,hl,q⟩=>?_);subst ex;obtain rfl:u=Value.ref a:=rx;obtain⟨fI,XC⟩:=hcls C bm kc;obtain⟨nm,qn,N,bs,sn,sub,ab,col,dd1,k0,k1,k2,k3,k5,hC⟩:=XC.obj;obtain⟨⟨vs,sl,ga,_⟩,_,_⟩:=I1.hok a _ hx;obtain⟨⟨mA,hns,hex,hr,hwi⟩,_,_⟩:=I1.hok dx _ hd;have hne:dx≠a:=by rintro rfl;obtain⟨o,es,ep,g,d,_⟩:=hns;rw[ga]at g;cases g;cases d
 have hr':=hr f;rw[hl]at hr';cases hm:mA f with
 |none=>rw[hm]at hr';exact hr'.elim
 |some u=>rw[hm]at hr';have ru:RelV v u:=hr';obtain⟨hp,g,d,tk,os⟩:=s1;exact Dp PySem.F.excAttr_ValueError XC.tail Ct (I1.bk _ _ hC) (XC.ga.keeps I1.bk) (XC.gh.keeps I1.bk) ((hf C bm kc).keeps I1.bk) ⟨_,ga,rfl,λ_ z=>(by cases z),.inr ⟨dx,rfl,hne,hns,hex⟩⟩ hm (Dl ru) ⟨v,H1,I1.tok _,ru,q⟩
end
end L2
namespace L2
open PySem PySem.Spec
section
variable{prog:JZ}{w:World}{A:Around}{E:JX->JY->Prop}{h:Heap}{g:Array GenState}{d:Drawn}{t:Nat}{os:OsState}{R:Result->JY->Prop}
variable{nm q:Str}{C N a:J0}{bs bm bmB:Cz}{hdct:Bool}{sn:List Str}{sub:Cz}{ab:Bool}{col:CL}{dd:CJ}{k0 k1 k2 k3 k5:CB}{newId:String}{o:Obj}
theorem Dk(T:Tail bmB bm)(ho:bmB.contains (.type "object")=Cv)(hC:h.get? C=O (excClassObj nm q C N bs bm hdct sn sub ab col dd k0 k1 k2 k3 k5 newId))(hx:h.get? a=O o)(hc:o.cls=.ref C)(hq:R (.ok (.ret (.ref C))) ⟨h,g,d,t,os⟩) :
  codeAny (model prog w) A (.call (.builtin "getset_descriptor.__get__") ⟨[.builtin "object.__class__", .ref a,.ref C],[]⟩) R ⟨h,g,d,t,os⟩:=by
 have hT5:(⟨h,g,d,t,os⟩:JY).TypeIs (.builtin "object.__class__") "getset_descriptor" :=PySem.F.typeOf_object_class;have Bd:(Value.ref C::bm).contains (.type (".".intercalate ("object.__class__".cutAt '.').dropLast))=Cv:=by rw[PySem.F.owner_object_class,QR,T _ _ ho];rfl
 refine Jf PySem.F.slot_gs_get.plain PySem.F.entry_gs_get (PySem.F.slot_gs_get.check _ _ _ _ _ _ _ _ hT5 (PySem.F.args_gs_get _ _ _) ?_)
 repeat (any_goals (first|assumption|(with_reducible refine Qh hx ?_;rw[hc])|(with_reducible refine QB hC ?_;rw[Bd])|wp_step))
 refine⟨Code.quiet_builtin _ (by decide +kernel),codeAny_builtin PySem.F.entry_object_class ?_⟩;unfold Builtin.«object.__class__»
 repeat (any_goals (first|assumption|(with_reducible refine Qh hx ?_;rw[hc])|wp_step))
theorem D1{tk:Tok}{Q:PySem.Fin->JY->Prop}(T:Tail bmB bm)(ho:bmB.contains (.type "object")=Cv)(hC:h.get? C=O (excClassObj nm q C N bs bm hdct sn sub ab col dd k0 k1 k2 k3 k5 newId))(fc:Kh (model prog w) C "__class__" (O (.builtin "object.__class__")) h)(hx:h.get? a=O o)(hc:o.cls=.ref C)(hq:Q (.done (.ret (.ref C))) ⟨h,g,d,t,os⟩) :
  J7 (model prog w) A (Builtin.«object.__getattribute__» ⟨[.ref a,.str "__class__" tk],[]⟩) Q E ⟨h,g,d,t,os⟩:=by
 have hT5:(⟨h,g,d,t,os⟩:JY).TypeIs (.builtin "object.__class__") "getset_descriptor" :=PySem.F.typeOf_object_class;have f5:=PySem.F.typeOf_object_class;have f6:=PySem.F.slot_gs_get.lookup;have f7:=PySem.F.slot_gs_set.lookup
 repeat (any_goals (first|assumption|(with_reducible refine Qh hx ?_;rw[hc])|with_reducible refine fc.at ?_|wp_step))
 refine Dk T ho hC hx hc ?_
 repeat (any_goals (first|assumption|wp_step))
theorem Ng{Q:CB->JY->Prop}(FB:ExcAttrFacts "ValueError")(T:Tail VB bm)(hC:h.get? C=O (excClassObj nm q C N bs bm hdct sn sub ab col dd k0 k1 k2 k3 k5 newId))(fc:Kh (model prog w) C "__class__" (O (.builtin "object.__class__")) h)
  (fg:Kh (model prog w) C "__getattribute__" (O (.builtin "BaseException.__getattribute__")) h) (fa:Kh (model prog w) C "__getattr__" none h) (hx:h.get? a=O o) (hc:o.cls=.ref C) (hq:Q (O (.ref C)) ⟨h,g,d,t+1,os⟩) :
  J7 (model prog w) A (getAttr? (.ref a) "__class__") Q E ⟨h,g,d,t,os⟩:=by
 have f3:=FB.ga.bind (.ref a);have hx0:(Cw&&onTheHeap (Value.builtin "BaseException.__getattribute__"))=Cw:=rfl;have hx2:(Value.builtin "BaseException.__getattribute__" == Value.builtin "object.__getattribute__")=Cw:=by decide +kernel
 have hx1:(onTheHeap (Value.ref C)&&Value.builtin "BaseException.__getattribute__" == Value.builtin "object.__getattribute__")=Cw:=by rw[hx2];rfl
 unfold getAttr? getAttrBy?;refine Qb (wpAny_mkText (Qb (wpAny_attempt ?_)))
 repeat (any_goals (first|assumption|(with_reducible refine Qh hx ?_;rw[hc])|with_reducible refine fg.at ?_|with_reducible refine fa.at ?_|wp_step))
 refine Jf FB.ga.plain PySem.F.entry_bexc_ga (OJ T Ct hC hx hc (D1 T Ct hC fc hx hc ?_))
 repeat (any_goals (first|assumption|wp_step))
end
end L2
namespace L2
open PySem PySem.Spec PyProof.Rows
section
variable{prog:JZ}{w:World}{A:Around}{E:JX->JY->Prop}{h:Heap}{g:Array GenState}{d:Drawn}{t:Nat}{os:OsState}
variable{nm q Bq q':Str}{C N D N' a:J0}{bs bm bs' bm':Cz}{hdct Bl:Bool}{sn sn':List Str}{sub sub':Cz}{ab BQ:Bool}{col col':CL}{dd Bb:CJ}{k0 k1 k2 k3 k5 j0 j1 j2 j3 j5:CB}{newId newId':String}{o:Obj}{b:Bool}
theorem GP{Q:JX->JY->Prop}(T:Tail VB bm)(hC:h.get? C=O (excClassObj nm q C N bs bm hdct sn sub ab col dd k0 k1 k2 k3 k5 newId))(hD:h.get? D=O (excClassObj Bq q' D N' bs' bm' Bl sn' sub' BQ col' Bb j0 j1 j2 j3 j5 newId'))
  (fc:Kh (model prog w) C "__class__" (O (.builtin "object.__class__")) h) (fg:Kh (model prog w) C "__getattribute__" (O (.builtin "BaseException.__getattribute__")) h) (fa:Kh (model prog w) C "__getattr__" none h)
  (hx:h.get? a=O o) (hc:o.cls=.ref C) (hb:(Value.ref C::bm).contains (.ref D)=b) (hq:∀tk,Q (.bool b) ⟨h,g,d,tk,os⟩):J7 (model prog w) A (call (.builtin "isinstance") [.ref a,.ref D]) Q E ⟨h,g,d,t,os⟩:=by
 have hT:(⟨h,g,d,t,os⟩:JY).TypeIs (.ref D) "type" :=⟨_,hD,rfl⟩
 have f2:=tc_sub;refine call_isinstance_of ?_ (λz=>nomatch z);unfold Builtin.«isinstance.nested»;refine Qb ?_;unfold typeOf;refine Qb (Qh hx (Qk ?_));rw[hc];by_cases e:C=D
 .subst e
  have hb1:b=Cv:=by rw[←hb];simp
  subst hb1;rw[if_pos (by simp)];exact Qb (wpAny_rule (Qk (hq t)))
 .rw[if_neg (by simp[e])]
  refine Qb (Qb (Qh hD (Qk ?_)));rw[Qo (show(Value.type "type" == Value.type "type")=Cv by decide)]
  k_delta "plainIsInstance"
  unfold isType isInstance
  repeat (first|(with_reducible refine Qh hx ?_;rw[hc])|with_reducible refine Qh hD ?_|with_reducible refine Qh hC ?_|(with_reducible refine QB hC ?_;rw[hb])|wp_step)
  cases b with
  |true=>wp_walk;exact hq t
  |false=>
   rw[Qv (by decide)];refine Qb (Ng PySem.F.excAttr_ValueError T hC fc fg fa hx hc ?_)
   repeat (first|with_reducible refine Qh hC ?_|(with_reducible refine QB hC ?_;rw[hb])|wp_step)
   exact hq _
theorem LW{Q:JX->JY->Prop}{X:String}(T:Tail VB bm)(hC:h.get? C=O (excClassObj nm q C N bs bm hdct sn sub ab col dd k0 k1 k2 k3 k5 newId))(hX:typeOf (.type X)=pure (.type "type"))
  (fc:Kh (model prog w) C "__class__" (O (.builtin "object.__class__")) h) (fg:Kh (model prog w) C "__getattribute__" (O (.builtin "BaseException.__getattribute__")) h) (fa:Kh (model prog w) C "__getattr__" none h)
  (hx:h.get? a=O o) (hc:o.cls=.ref C) (hb:(Value.ref C::bm).contains (.type X)=b) (hq:∀tk,Q (.bool b) ⟨h,g,d,tk,os⟩):J7 (model prog w) A (call (.builtin "isinstance") [.ref a,.type X]) Q E ⟨h,g,d,t,os⟩:=by
 refine call_isinstance_of ?_ (λz=>nomatch z);unfold Builtin.«isinstance.nested»;refine Qb ?_;have ty:∀{M:Model}{A:Around}{Q:JX->JY->Prop}{E:JX->JY->Prop},Q (.ref C) ⟨h,g,d,t,os⟩->J7 M A (typeOf (.ref a)) Q E ⟨h,g,d,t,os⟩:=λq=>by unfold typeOf;refine Qb (Qh hx (Qk ?_));rw[hc];exact q
 refine ty ?_;rw[if_neg (by simp)];refine Qb (wpAny_of_eq hX ?_);rw[Qo (show(Value.type "type" == Value.type "type")=Cv by decide)]
 k_delta "plainIsInstance"
 unfold isType isInstance
 repeat (first|(with_reducible refine Qh hx ?_;rw[hc])|with_reducible refine Qh hC ?_|(with_reducible refine QB hC ?_;rw[hb])|wp_step)
 cases b with
 |true=>wp_walk;exact hq t
 |false=>
  rw[Qv (by decide)];refine Qb (Ng PySem.F.excAttr_ValueError T hC fc fg fa hx hc ?_)
  repeat (first|with_reducible refine Qh hC ?_|(with_reducible refine QB hC ?_;rw[hb])|wp_step)
  exact hq _
end
noncomputable def rIsX(KC:J0->Cz->Prop):List V->Hp->VK->Prop:=λxs H Q=>∃a C dd bm fr c b,xs=[.ref a,c]/\KC C bm/\H a=O (.ext (XO fr a C dd)) /\
 ((∃D bm',c=.ref D/\KC D bm'/\(Value.ref C::bm).contains (.ref D)=b) ∨ ∃T,c=.ty T/\typeOf (.type T)=pure (.type "type")/\(Value.ref C::bm).contains (.type T)=b)/\Q (.bl b) H
theorem SV{X:Cx}{KC:J0->Cz->Prop}(hcls:∀C bm,KC C bm->∃fI,XCls (model X.prog X.w) X.base C bm fI):Ys X (.builtin "isinstance") (rIsX KC):=by
 rintro pins s σ H xs us Q I r ⟨a,C,dd,bm,fr,c,b,rfl,kc,hx,hD,q⟩;cases r with
 |cons ra r=>
 cases r with
 |cons rc r=>
 cases r;have ra':_=Value.ref a:=ra;subst ra';obtain⟨fI,XC⟩:=hcls C bm kc;obtain⟨nm,qn,N,bs,sn,sub,ab,col,dd1,k0,k1,k2,k3,k5,hC⟩:=XC.obj;obtain⟨⟨vs,sl,ga,_⟩,_,_⟩:=I.hok a _ hx;obtain⟨hp,g,d,tk,os⟩:=s;rcases hD with ⟨D,bm',rfl,kd,hb⟩|⟨T,rfl,hT,hb⟩
 .have rc':_=Value.ref D:=rc
  subst rc';obtain⟨fI',XD'⟩:=hcls D bm' kd;obtain⟨Bq,qn',N',bs',sn',sub',BQ,col',dd2,j0,j1,j2,j3,j5,Bg⟩:=XD'.obj;exact GP XC.tail (I.bk _ _ hC) (I.bk _ _ Bg) (XC.cl.keeps I.bk) (XC.ga.keeps I.bk) (XC.gh.keeps I.bk) ga Ct hb λtk'=>⟨.bl b,H,I.tok tk',rfl,q⟩
 .have rc':_=Value.type T:=rc
  subst rc';exact LW XC.tail (I.bk _ _ hC) hT (XC.cl.keeps I.bk) (XC.ga.keeps I.bk) (XC.gh.keeps I.bk) ga Ct hb λtk'=>⟨.bl b,H,I.tok tk',rfl,q⟩
theorem EX{CX:CXT}{P:JZ}{w:World}{K:Frag}{mg:Str->CB}{base:Heap}{N:List Str}{qual:Str}{scope:Scope}{f:J0}{cd:JX}{A:Around}{outer:List Env}{s:JY}{H:Hp}{E:XK} :
  PassesOwn (model P w) (Kp CX P w K mg base N qual scope f cd A outer s H E).A (Kp CX P w K mg base N qual scope f cd A outer s H E).env (Kp CX P w K mg base N qual scope f cd A outer s H E).xe:=
 PassesOwn.leaving (Q₁:=λe s''=>CX outer H s E e s'')
noncomputable def Ta(KC:J0->Cz->Prop):Sp:=λvs H Q _=>∃a C dd bm x,vs=[.ref a,.str x]/\KC C bm/\H a=O (.ext (XO Cv a C dd))/\Q .non H
noncomputable def SE(KC:J0->Cz->Prop)(fs:List Str):Sp:=λvs H Q _=>∃a C bm us,vs=.ref a::us/\us.length=fs.length/\KC C bm/\H a=O (.ext (XO Cv a C Cu))/\(∀u∈us,∃y,FmtV u y/\y.length<=4000) /\
 ∀dx,H dx=Cu->dx≠a->Q .non (upd (upd H a (.ext (XO Cv a C (O dx)))) dx (.ext (XD dx (fs.zip us))))
noncomputable def Za(nm:Str):List Str:=if nm = "NoWishes" then ["part", "number"]else if nm = "NoAim" then ["part"]else if nm = "NoText" then ["row"]else []
noncomputable def VT(K:Frag)(nm:Str):CJ:=match PySem.W.nsIn K mainGlobals nm with|some (O (.ref C))=>O C|_=>Cu
def NmAt(K:Frag)(nm:Str)(C:J0):Prop:=∃o cd,K.lookup C=O o/\o.data=.cls cd/\cd.name=nm
structure ClsK(K:Frag)(nm:Str)(C:J0)(bm:Cz):Prop where
 ad:VT K nm=O C
 nmd:NmAt K nm C
 up:nm = "DealError" /\ bm=VB∨nm ≠ "DealError" /\ ∃D,VT K "DealError" = O D/\bm=.ref D::VB/\NmAt K "DealError" D
 cls:∀(M:Model)(h:Heap),K.In h->∃fI,XCls M h C bm fI
 fld:∀(M:Model)(h:Heap),K.In h->∀f∈(["part", "number", "row"]:List Str),Kh M C f Cu h
noncomputable def KC(K:Frag):J0->Cz->Prop:=λC bm=>∃nm,ClsK K nm C bm
section
variable{K:Frag}{nm x:Str}{C D:J0}{bm bm':Cz}
theorem NmAt.ne(c:NmAt K nm C)(d:NmAt K x D)(h:x≠nm):C≠D:=λe=>by subst e;obtain⟨o,cd,h1,h2,h3⟩:=c;obtain⟨o',cd',g1,g2,g3⟩:=d;rw[h1]at g1;cases g1;rw[h2]at g2;cases g2;exact h (g3.symm.trans h3)
theorem ClsK.has(c:ClsK K nm C bm)(d:ClsK K x D bm'):(Value.ref C::bm).contains (.ref D)=(decide (x=nm) || decide (x = "DealError")):=by
 by_cases e:x=nm
 .subst e
  have:=c.ad.symm.trans d.ad;cases this;simp
 .have ne:=c.nmd.ne d.nmd e
  rw[Qt e,Bool.false_or];have h0:(Value.ref D==Value.ref C)=Cw:=by simp[Ne.symm ne]
  rw[QR,h0,Bool.false_or];by_cases e2:x = "DealError"
  .subst e2
   rcases c.up with ⟨z,_⟩|⟨_,D',g,rfl,_⟩
   .exact absurd z.symm e
   .have:=g.symm.trans d.ad
    cases this;simp
  .rw[Qt e2]
   rcases c.up with ⟨_,rfl⟩|⟨_,D',g,rfl,n⟩
   .rfl
   .have ne2:=n.ne d.nmd e2
    have h1:(Value.ref D==Value.ref D')=Cw:=by simp[Ne.symm ne2]
    rw[QR,h1,Bool.false_or];rfl
theorem ClsK.ty(c:ClsK K nm C bm)(T:String):(Value.ref C::bm).contains (.type T)=VB.contains (.type T):=by
 rcases c.up with ⟨_,rfl⟩|⟨_,D',g,rfl,n⟩
 .rfl
 .rfl
end
section
variable{X:Cx}{e:J5}{st:Stmt}{sts:List Stmt}{t:TE}{ts:TS}
theorem PE.kin(h:X.K.In X.base->PE X e t):PE X e t:=λpins s σ H Q I q=>h I.ok.mod.kin pins s σ H Q I q
theorem PS.kin(h:X.K.In X.base->PS X st ts):PS X st ts:=λpins s σ H Q I q=>h I.ok.mod.kin pins s σ H Q I q
theorem PSs.kin(h:X.K.In X.base->PSs X sts ts):PSs X sts ts:=λpins s σ H Q I q=>h I.ok.mod.kin pins s σ H Q I q
theorem Xw(k:X.K.In X.base):∀C bm,KC X.K C bm->∃fI,XCls (model X.prog X.w) X.base C bm fI:=λ_ _ ⟨_,c⟩=>c.cls _ _ k
end
def RF(nm:Str)(us:List V):Prop:=(Za nm=[]/\∃x,us=[.str x])∨(Za nm≠[]/\us.length=(Za nm).length/\∀u∈us,∃y,FmtV u y/\y.length<=4000)
def RL(nm:Str)(C a:J0)(us:List V)(H:Hp)(dd:CJ)(H':Hp):Prop:=
 (Za nm=[]/\dd=Cu/\H'=H)∨(Za nm≠[]/\us.length=(Za nm).length/\∃dx,dd=O dx/\H dx=Cu/\dx≠a/\H'=upd (upd H a (.ext (XO Cv a C (O dx)))) dx (.ext (XD dx ((Za nm).zip us))))
def R7(K:Frag)(nm:Str)(C:J0)(sp:Sp):Prop:=∀a us H Q,H a=O (.ext (XO Cv a C Cu))->RF nm us->(∀dd H',RL nm C a us H dd H'->Q .non H')->sp (.ref a::us) H Q E0
def MkX(P:JZ)(w:World)(K:Frag)(mg:Str->CB)(base:Heap)(nm:Str)(k:Nat):Prop:=
 ∃C bm f fd ps sp,mg nm=O (.ref C)/\PySem.W.keepIn K (.ref C)=Cv/\ClsK K nm C bm/\(∀(M:Model)(h:Heap),K.In h->XCls M h C bm f)/\FnOk P w K mg base CX0 k f fd ps sp/\Zd K fd ps []/\R7 K nm C sp
theorem EO{K:Frag}{nm:Str}{C:J0}{bm:Cz}(c:ClsK K nm C bm)(hf:Za nm≠[]):R7 K nm C (SE (KC K) (Za nm)):=λa us H Q h ar q=>by
 rcases ar with ⟨z,_⟩|⟨_,hl,hu⟩
 .exact absurd z hf
 .exact⟨a,C,bm,us,rfl,hl,⟨nm,c⟩,h,hu,λdx hd hne=>q (O dx) _ (.inr ⟨hf,hl,dx,rfl,hd,hne,rfl⟩)⟩
end L2
namespace DL
open PySem PySem.Spec L2
open PyProof.Rows hiding St
abbrev D:=PyData
abbrev Cy:=List D
abbrev CA:=Option D
abbrev XW:=V->St->Hp->Prop
noncomputable abbrev KX0:XW:=λ_ _ _=>False
def XFs(G:Hp)(dd:CJ)(fs:List Str)(vs:List V):Prop:=match dd with
 |none=>fs=[]/\vs=[]
 |some dx=>fs.length=vs.length/\G dx=O (.ext (XD dx (fs.zip vs)))
theorem XFs.mono{G G1:Hp}{dd:CJ}{fs:List Str}{vs:List V}(e:Same G G1)(h:XFs G dd fs vs):XFs G1 dd fs vs:=by
 cases dd with
 |none=>exact h
 |some dx=>exact⟨h.1,e _ _ h.2⟩
noncomputable def kD:Key->D
 |.inl i=>.int i
 |.inr x=>.str x
noncomputable def tkD(k:List Key):D:=.tuple (k.map kD)
noncomputable def pdD(ks:List (List Key))(ds:Cy):List (D×D):=(.bool Cv,.none)::(ks.map tkD).zip ds
mutual
inductive Rep(K:Frag)(G:Hp):V->D->Prop where
 |non:Rep K G .non .none
 |bl (b:Bool):Rep K G (.bl b) (.bool b)
 |int (i:Int):Rep K G (.int i) (.int i)
 |str (x:Str):Rep K G (.str x) (.str x)
 |lst {a:J0} {vs:List V} {ds:Cy} (h:SqL K G a vs) (r:Reps K G vs ds):Rep K G (.ref a) (.list ds)
 |tup {a:J0} {vs:List V} {ds:Cy} (h:SqT K G a vs) (r:Reps K G vs ds):Rep K G (.ref a) (.tuple ds)
 |dic {a:J0} (h:G a=O (.dK [])):Rep K G (.ref a) (.dict [])
 |exc {a C:J0} {dd:CJ} {bm:Cz} {nm:Str} {vs:List V} {ds:Cy} (c:ClsK K nm C bm) (h:G a=O (.ext (XO Cw a C dd))) (hd:XFs G dd (Za nm) vs) (r:Reps K G vs ds):Rep K G (.ref a) (.dict [(.none,.tuple [.str nm,.list ds])])
 |dct {a:J0} {ks:List Key} {vs:List V} {ds:Cy} {kvs:List (D×D)} (e:kvs=(ks.map kD).zip ds) (hne:ks≠[]) (hl:ks.length=ds.length) (h:G a=O (.dK (ks.zip vs))) (r:Reps K G vs ds):Rep K G (.ref a) (.dict kvs)
 |dtt {a:J0} {o:Obj} {ks:List (List Key)} {vs:List V} {ds:Cy} {kvs:List (D×D)} (e:kvs=pdD ks ds) (hl:ks.length=ds.length) (h:G a=O (.frz o (.dT (ks.zip vs)))) (r:Reps K G vs ds):Rep K G (.ref a) (.dict kvs)
inductive Reps(K:Frag)(G:Hp):List V->Cy->Prop where
 |nil:Reps K G [] []
 |cons {v:V} {d:D} {vs:List V} {ds:Cy} (h:Rep K G v d) (t:Reps K G vs ds):Reps K G (v::vs) (d::ds)
end
variable{K:Frag}{B G0 G G1 G2 H H1 H2:Hp}
theorem Zr{a:J0}{xs:List V}(e:Same G G1)(h:SqT K G a xs):SqT K G1 a xs:=by
 rcases h with (h|⟨o,h⟩)|h
 .exact .inl (.inl (e _ _ h))
 .exact .inl (.inr ⟨o,e _ _ h⟩)
 .exact .inr h
theorem Rep.mono(e:Same G G1){v:V}{d:D}(r:Rep K G v d):Rep K G1 v d:=Rep.rec (motive_1:=λv d _=>Rep K G1 v d) (motive_2:=λvs ds _=>Reps K G1 vs ds) .non .bl .int .str (λh _ r=>.lst (e.seq h) r) (λh _ r=>.tup (Zr e h) r) (λh=>.dic (e _ _ h)) (λc h hd _ r=>.exc c (e _ _ h) (hd.mono e) r) (λz n l h _ r=>.dct z n l (e _ _ h) r) (λz l h _ r=>.dtt z l (e _ _ h) r) .nil (λ_ _=>.cons) r
theorem Reps.mono(e:Same G G1){vs:List V}{ds:Cy}(r:Reps K G vs ds):Reps K G1 vs ds:=Reps.rec (motive_1:=λv d _=>Rep K G1 v d) (motive_2:=λvs ds _=>Reps K G1 vs ds) .non .bl .int .str (λh _ r=>.lst (e.seq h) r) (λh _ r=>.tup (Zr e h) r) (λh=>.dic (e _ _ h)) (λc h hd _ r=>.exc c (e _ _ h) (hd.mono e) r) (λz n l h _ r=>.dct z n l (e _ _ h) r) (λz l h _ r=>.dtt z l (e _ _ h) r) .nil (λ_ _=>.cons) r
theorem EW{ks:List Key}{ds:Cy}{d:D}{r:List (D×D)}(e:(.none,d)::r=(ks.map kD).zip ds):False:=by
 cases ks with
 |nil=>cases e
 |cons k ks=>
  cases ds with
  |nil=>cases e
  |cons d ds=>
   rw[QI,List.zip_cons_cons]at e;injection e with e1 _;injection e1 with e2 _
   cases k<;>cases e2
section
variable{v:V}{vs ws:List V}{ds es:Cy}
theorem Rep.bl_inv{b:Bool}(h:Rep K G v (.bool b)):v=.bl b:=by cases h;rfl
theorem Rep.int_inv{i:Int}(h:Rep K G v (.int i)):v=.int i:=by cases h;rfl
theorem Rep.str_inv{x:Str}(h:Rep K G v (.str x)):v=.str x:=by cases h;rfl
theorem Rep.lst_inv(h:Rep K G v (.list ds)):∃a vs,v=.ref a/\SqL K G a vs/\Reps K G vs ds:=by
 cases h with
 |lst h r=>exact⟨_,_,rfl,h,r⟩
theorem Rep.tup_inv(h:Rep K G v (.tuple ds)):∃a vs,v=.ref a/\SqT K G a vs/\Reps K G vs ds:=by
 cases h with
 |tup h r=>exact⟨_,_,rfl,h,r⟩
theorem Rep.exc_inv{d:D}(h:Rep K G v (.dict [(.none,d)])):∃a C dd bm nm vs ds,v=.ref a/\d=.tuple [.str nm,.list ds]/\ClsK K nm C bm/\G a=O (.ext (XO Cw a C dd))/\XFs G dd (Za nm) vs/\Reps K G vs ds:=by
 cases h with
 |exc c h hd r=>exact⟨_,_,_,_,_,_,_,rfl,rfl,c,h,hd,r⟩
 |dct e _ _ _ _=>exact(EW e).elim
 |dtt e _ _ _=>exact nomatch (Prod.mk.inj (List.cons.inj e).1).1
theorem Reps.length:∀{vs:List V}{ds:Cy},Reps K G vs ds->vs.length=ds.length
 |_,_,.nil=>rfl
 |_,_,.cons _ t=>by rw[QF,QF,Reps.length t]
theorem Reps.get:∀{vs:List V}{ds:Cy}{i:Nat}{d:D},Reps K G vs ds->ds[i]?=O d->∃v,vs[i]?=O v/\Rep K G v d
 |_,_,_,_,.nil,e=>by simp at e
 |_,_,0,_,.cons h _,e=>by simp at e;subst e;exact⟨_,rfl,h⟩
 |_,_,i+1,d,.cons _ t,e=>by obtain⟨u,h1,h2⟩:=Reps.get (i:=i) (d:=d) t (by simpa using e);exact⟨u,by simpa using h1,h2⟩
theorem Reps.append:∀{vs ws:List V}{ds es:Cy},Reps K G vs ds->Reps K G ws es->Reps K G (vs++ws) (ds++es)
 |_,_,_,_,.nil,s=>s
 |_,_,_,_,.cons r t,s=>.cons r (Reps.append t s)
theorem Reps.take:∀{vs:List V}{ds:Cy}(n:Nat),Reps K G vs ds->Reps K G (vs.take n) (ds.take n)
 |_,_,0,_=>by rw[List.take_zero,List.take_zero];exact .nil
 |_,_,_+1,.nil=>.nil
 |_,_,n+1,.cons r t=>.cons r (Reps.take n t)
theorem Reps.drop:∀{vs:List V}{ds:Cy}(n:Nat),Reps K G vs ds->Reps K G (vs.drop n) (ds.drop n)
 |_,_,0,r=>r
 |_,_,_+1,.nil=>.nil
 |_,_,n+1,.cons _ t=>Reps.drop n t
theorem Reps.reverse:∀{vs:List V}{ds:Cy},Reps K G vs ds->Reps K G vs.reverse ds.reverse
 |_,_,.nil=>.nil
 |_,_,.cons r t=>by rw[Jy,Jy];exact Reps.append (Reps.reverse t) (.cons r .nil)
theorem Reps.set{v:V}{d:D}(r:Rep K G v d):∀{vs:List V}{ds:Cy}(i:Nat),Reps K G vs ds->Reps K G (vs.set i v) (ds.set i d)
 |_,_,_,.nil=>.nil
 |_,_,0,.cons _ t=>.cons r t
 |_,_,i+1,.cons q t=>.cons q (Reps.set r i t)
theorem Reps.ints:∀(ns:CD),Reps K G (ns.map V.int) (ns.map int)
 |[]=>.nil
 |n::ns=>.cons (.int n) (Reps.ints ns)
end
inductive MO where
 |l (vs:List V)|k (kvs:List (Key×V))|t (kvs:List (List Key×V))|s (S:Int->Bool) (n:Nat)
noncomputable def MO.ho:MO->HO
 |.l vs=>.lst vs
 |.k kvs=>.dK kvs
 |.t kvs=>.dT kvs
 |.s S n=>.set S n
structure Ext(G H G' H':Hp):Prop where
 h:Same H H'
 g:Same G G'
 gh:Same G' H'
 np:∀a(u:MO),H a=O u.ho->G a=Cu->G' a=Cu
theorem Ext.refl(e:Same G H):Ext G H G H:=⟨.refl _,.refl _,e,λ_ _ _ q=>q⟩
theorem Ext.trans{G' H' G'' H'':Hp}(a:Ext G H G' H')(b:Ext G' H' G'' H''):Ext G H G'' H'':=
 ⟨a.h.trans b.h,a.g.trans b.g,b.gh,λx o e q=>b.np x o (a.h x _ e) (a.np x o e q)⟩
theorem KG{p:J0}{o:HO}(h:H p=Cu):Same H (upd H p o):=λb u e=>by rw[UR (Zn e h)];exact e
theorem Ext.new{p:J0}{o:HO}(e:Same G H)(h:H p=Cu):Ext G H (upd G p o) (upd H p o):=by
 have hg:G p=Cu:=e.free h;refine⟨KG h,KG hg,λb u q=>?_,λa u q n=>?_⟩
 .by_cases z:b=p
  .subst z;rw[U9]at q⊢;exact q
  .rw[UR z]at q⊢;exact e b u q
 .rw[UR (Zn q h)];exact n
theorem Ext.hid{p:J0}{o:HO}(e:Same G H)(h:H p=Cu):Ext G H G (upd H p o):=
 ⟨KG h,.refl _,e.trans (KG h),λ_ _ _ n=>n⟩
inductive Pat where
 |leaf|lst (p:Pat)|tup (ps:List Pat)|dic
mutual
inductive RepO(K:Frag)(G H:Hp):Pat->V->D->CF->Prop where
 |leaf {v:V} {d:D} (r:Rep K G v d):RepO K G H .leaf v d []
 |lst {p:Pat} {a:J0} {vs:List V} {ds:Cy} {fp:CF} (h:H a=O (.lst vs)) (r:RepOl K G H p vs ds fp):RepO K G H (.lst p) (.ref a) (.list ds) (a::fp)
 |tup {ps:List Pat} {a:J0} {vs:List V} {ds:Cy} {fp:CF} (h:H a=O (.tup vs)) (r:RepOs K G H ps vs ds fp):RepO K G H (.tup ps) (.ref a) (.tuple ds) fp
 |dic {a:J0} {ks:List Key} {vs:List V} {ds:Cy} {kvs:List (D×D)} (e:kvs=(ks.map kD).zip ds) (hl:ks.length=ds.length) (h:H a=O (.dK (ks.zip vs))) (r:Reps K G vs ds):RepO K G H .dic (.ref a) (.dict kvs) [a]
inductive RepOl(K:Frag)(G H:Hp):Pat->List V->Cy->CF->Prop where
 |nil {p:Pat}:RepOl K G H p [] [] []
 |cons {p:Pat} {v:V} {d:D} {vs:List V} {ds:Cy} {f1 f2:CF} (h:RepO K G H p v d f1) (t:RepOl K G H p vs ds f2):RepOl K G H p (v::vs) (d::ds) (f1++f2)
inductive RepOs(K:Frag)(G H:Hp):List Pat->List V->Cy->CF->Prop where
 |nil:RepOs K G H [] [] [] []
 |cons {p:Pat} {ps:List Pat} {v:V} {d:D} {vs:List V} {ds:Cy} {f1 f2:CF} (h:RepO K G H p v d f1) (t:RepOs K G H ps vs ds f2):RepOs K G H (p::ps) (v::vs) (d::ds) (f1++f2)
end
def Z4(K:Frag)(G H:Hp)(M1:Pat->V->D->CF->Prop)(M2:Pat->List V->Cy->CF->Prop)(M3:List Pat->List V->Cy->CF->Prop):Prop:=
 (∀{p v d fp},RepO K G H p v d fp->M1 p v d fp)/\(∀{p vs ds fp},RepOl K G H p vs ds fp->M2 p vs ds fp)/\∀{ps vs ds fp},RepOs K G H ps vs ds fp->M3 ps vs ds fp
theorem RepO.ind3{M1:Pat->V->D->CF->Prop}{M2:Pat->List V->Cy->CF->Prop}{M3:List Pat->List V->Cy->CF->Prop}
  (c1:∀{v d},Rep K G v d->M1 .leaf v d []) (c2:∀{p a vs ds fp},H a=O (.lst vs)->M2 p vs ds fp->M1 (.lst p) (.ref a) (.list ds) (a::fp)) (c3:∀{ps a vs ds fp},H a=O (.tup vs)->M3 ps vs ds fp->M1 (.tup ps) (.ref a) (.tuple ds) fp)
  (c4:∀{a:J0}{ks:List Key}{vs:List V}{ds:Cy}{kvs:List (D×D)},kvs=(ks.map kD).zip ds->ks.length=ds.length->H a=O (.dK (ks.zip vs))->Reps K G vs ds->M1 .dic (.ref a) (.dict kvs) [a])
  (c5:∀{p},M2 p [] [] []) (c6:∀{p v d vs ds f1 f2},M1 p v d f1->M2 p vs ds f2->M2 p (v::vs) (d::ds) (f1++f2)) (c7:M3 [] [] [] []) (c8:∀{p ps v d vs ds f1 f2},M1 p v d f1->M3 ps vs ds f2->M3 (p::ps) (v::vs) (d::ds) (f1++f2)) :
  Z4 K G H M1 M2 M3:=
 ⟨λh=>RepO.rec (motive_1:=λp v d fp _=>M1 p v d fp) (motive_2:=λp v d fp _=>M2 p v d fp) (motive_3:=λp v d fp _=>M3 p v d fp) c1 (λh _=>c2 h) (λh _=>c3 h) c4 c5 (λ_ _=>c6) c7 (λ_ _=>c8) h,
  λh=>RepOl.rec (motive_1:=λp v d fp _=>M1 p v d fp) (motive_2:=λp v d fp _=>M2 p v d fp) (motive_3:=λp v d fp _=>M3 p v d fp) c1 (λh _=>c2 h) (λh _=>c3 h) c4 c5 (λ_ _=>c6) c7 (λ_ _=>c8) h,
  λh=>RepOs.rec (motive_1:=λp v d fp _=>M1 p v d fp) (motive_2:=λp v d fp _=>M2 p v d fp) (motive_3:=λp v d fp _=>M3 p v d fp) c1 (λh _=>c2 h) (λh _=>c3 h) c4 c5 (λ_ _=>c6) c7 (λ_ _=>c8) h⟩
theorem RepO.mono3(sg:Same G G1)(sh:Same H H1):Z4 K G H (RepO K G1 H1) (RepOl K G1 H1) (RepOs K G1 H1):=
 RepO.ind3 (λr=>.leaf (r.mono sg)) (λh r=>.lst (sh _ _ h) r) (λh r=>.tup (sh _ _ h) r) (λe hl h r=>.dic e hl (sh _ _ h) (r.mono sg)) .nil .cons .nil .cons
theorem RepO.mono(sg:Same G G1)(sh:Same H H1){p:Pat}{v:V}{d:D}{fp:CF}(r:RepO K G H p v d fp):RepO K G1 H1 p v d fp:=(RepO.mono3 sg sh).1 r
theorem RepO.upd3{a:J0}{o:HO}(nt:∀vs,H a≠O (.tup vs)):Z4 K G H (λp v d fp=>a∉fp->RepO K G (upd H a o) p v d fp) (λp v d fp=>a∉fp->RepOl K G (upd H a o) p v d fp) (λp v d fp=>a∉fp->RepOs K G (upd H a o) p v d fp):=
 RepO.ind3
 (λr _=>.leaf r) (λh r n=>.lst (by rw[UR (λz=>n (by rw[z];exact Qj))];exact h) (r λz=>n (Ql _ z))) (λh r n=>.tup (by rw[UR (λz=>by subst z;exact nt _ h)];exact h) (r n))
 (λe hl h r n=>.dic e hl (by rw[UR (λz=>n (by rw[z];exact Qj))];exact h) r) (λ_=>.nil) (λh t n=>.cons (h λz=>n (QT _ z)) (t λz=>n (QD _ z))) (λ_=>.nil) (λh t n=>.cons (h λz=>n (QT _ z)) (t λz=>n (QD _ z)))
theorem RepO.upd{a:J0}{o:HO}(nt:∀vs,H a≠O (.tup vs)){p:Pat}{v:V}{d:D}{fp:CF}(r:RepO K G H p v d fp)(n:a∉fp):RepO K G (upd H a o) p v d fp:=(RepO.upd3 nt).1 r n
theorem RepOl.upd{a:J0}{o:HO}(nt:∀vs,H a≠O (.tup vs)){p:Pat}{v:List V}{d:Cy}{fp:CF}(r:RepOl K G H p v d fp)(n:a∉fp):RepOl K G (upd H a o) p v d fp:=(RepO.upd3 nt).2.1 r n
theorem RepOs.upd{a:J0}{o:HO}(nt:∀vs,H a≠O (.tup vs)){p:List Pat}{v:List V}{d:Cy}{fp:CF}(r:RepOs K G H p v d fp)(n:a∉fp):RepOs K G (upd H a o) p v d fp:=(RepO.upd3 nt).2.2 r n
theorem RepO.rep3(gh:Same G H):Z4 K G H (λ_ v d _=>Rep K H v d) (λ_ v d _=>Reps K H v d) (λ_ v d _=>Reps K H v d):=
 RepO.ind3 (λr=>r.mono gh) (λh r=>.lst (SqL.of h) r) (λh r=>.tup (SqT.of h) r)
 (λ{a ks vs ds kvs} e hl h r=>by
  cases ks with
  |nil=>subst e;exact .dic h
  |cons k ks=>exact .dct e (λz=>by cases z) hl h (r.mono gh)) .nil .cons .nil .cons
theorem RepO.rep(gh:Same G H){p:Pat}{v:V}{d:D}{fp:CF}(r:RepO K G H p v d fp):Rep K H v d:=(RepO.rep3 gh).1 r
theorem RepO.isl3:Z4 K G H (λ_ _ _ fp=>∀a∈fp,∃u:MO,H a=O u.ho) (λ_ _ _ fp=>∀a∈fp,∃u:MO,H a=O u.ho) (λ_ _ _ fp=>∀a∈fp,∃u:MO,H a=O u.ho):=
 RepO.ind3 (λ_ a m=>by cases m)
 (λh r b m=>(QC.mp m).elim (λe=>⟨.l _,e ▸ h⟩) (r b)) (λ_ r=>r) (λ_ _ h _ b m=>⟨.k _,QK.mp m ▸ h⟩) (λa m=>by cases m) (λh t b m=>(QW.mp m).elim (h b) (t b)) (λa m=>by cases m) (λh t b m=>(QW.mp m).elim (h b) (t b))
theorem RepO.isl{p:Pat}{v:V}{d:D}{fp:CF}(r:RepO K G H p v d fp):∀a∈fp,∃u:MO,H a=O u.ho:=RepO.isl3.1 r
theorem RepO.uniq3(sh:Same H H1):Z4 K G H (λp v _ fp=>∀d' fp',RepO K G1 H1 p v d' fp'->fp=fp') (λp v _ fp=>∀d' fp',RepOl K G1 H1 p v d' fp'->fp=fp') (λp v _ fp=>∀d' fp',RepOs K G1 H1 p v d' fp'->fp=fp'):=
 RepO.ind3
 (λ_ d' fp' h=>by cases h;rfl)
 (λh r d' fp' h'=>by
  cases h' with
  |lst h2 r2=>have e:=sh _ _ h;rw[h2]at e;cases e;rw[r _ _ r2])
 (λh r d' fp' h'=>by
  cases h' with
  |tup h2 r2=>have e:=sh _ _ h;rw[h2]at e;cases e;exact r _ _ r2)
 (λ_ _ _ _ d' fp' h=>by cases h;rfl) (λd' fp' h=>by cases h;rfl)
 (λh t d' fp' h'=>by
  cases h' with
  |cons h2 t2=>rw[h _ _ h2,t _ _ t2])
 (λd' fp' h=>by cases h;rfl)
 (λh t d' fp' h'=>by
  cases h' with
  |cons h2 t2=>rw[h _ _ h2,t _ _ t2])
theorem RepO.uniq(sh:Same H H1){p:Pat}{v:V}{d d':D}{fp fp':CF}(r:RepO K G H p v d fp)(r':RepO K G1 H1 p v d' fp'):fp=fp':=(RepO.uniq3 sh).1 r _ _ r'
inductive Sl where
 |pub (d:D)|own (ds:Cy)|deep (p:Pat) (d:D)
abbrev Ur:=List (Option Sl)
abbrev CI:=Option Ur
def DpOk(K:Frag)(B G H:Hp)(σ:St)(ρ:Ur):Prop:=∃ω:J0->Nat,
 (∀(i:Nat) p d,ρ[i]?=O (O (.deep p d))->∃v fp,σ[i]?=O (O v)/\RepO K G H p v d fp/\fp.Nodup/\∀a∈fp,B a=Cu/\G a=Cu/\ω a=i) /\
 (∀(i:Nat) ds a,ρ[i]?=O (O (.own ds))->σ[i]?=O (O (.ref a))->ω a=i)
theorem DpOk.of{σ:St}{ρ:Ur}(h1:∀(i:Nat) p d,ρ[i]?=O (O (.deep p d))->False)(h2:∀(i:Nat) ds,ρ[i]?=O (O (.own ds))->False):DpOk K B G H σ ρ:=
 ⟨λ_=>0,λi p d q=>(h1 i p d q).elim,λi ds a q=>(h2 i ds q).elim⟩
theorem DpOk.map{B1:Hp}{σ σ1:St}{ρ ρ1:Ur}(k:DpOk K B G H σ ρ)
  (h1:∀(i:Nat) p d,ρ1[i]?=O (O (.deep p d))->ρ[i]?=O (O (.deep p d))/\σ1[i]?=σ[i]?)
  (h2:∀(i:Nat) ds,ρ1[i]?=O (O (.own ds))->∃es,ρ[i]?=O (O (.own es))/\σ1[i]?=σ[i]?)
  (h3:∀(i:Nat) p d v fp,ρ[i]?=O (O (.deep p d))->σ[i]?=O (O v)->RepO K G H p v d fp->(∀a∈fp,B a=Cu/\G a=Cu)->(∀(j:Nat) ds a,ρ[j]?=O (O (.own ds))->σ[j]?=O (O (.ref a))->a∉fp)->RepO K G1 H1 p v d fp/\∀a∈fp,B1 a=Cu/\G1 a=Cu):DpOk K B1 G1 H1 σ1 ρ1:=by
 obtain⟨ω,k1,k2⟩:=k;refine⟨ω,λi p d q=>?_,λi ds a q s=>?_⟩
 .obtain⟨q1,e1⟩:=h1 i p d q
  obtain⟨v,fp,s,r,n,w⟩:=k1 i p d q1;obtain⟨r1,w1⟩:=h3 i p d v fp q1 s r (λa m=>⟨(w a m).1,(w a m).2.1⟩) λj ds a qj sj m=>by have z1:=k2 j ds a qj sj;have z2:=(w a m).2.2;rw[z1]at z2;subst z2;rw[q1]at qj;cases qj
  exact⟨v,fp,by rw[e1];exact s,r1,n,λa m=>⟨(w1 a m).1,(w1 a m).2,(w a m).2.2⟩⟩
 .obtain⟨es,q1,e1⟩:=h2 i ds q
  rw[e1]at s;exact k2 i es a q1 s
structure EOk(K:Frag)(B G0 G H:Hp)(σ:St)(ρ:Ur):Prop where
 bh:Same B H
 gh:Same G H
 g0:Same G0 G
 np:∀a(u:MO),B a=O u.ho->G0 a=Cu->G a=Cu
 len:ρ.length=σ.length
 pub:∀(i:Nat) d,ρ[i]?=O (O (.pub d))->∃v,σ[i]?=O (O v)/\Rep K G v d
 own:∀(i:Nat) ds,ρ[i]?=O (O (.own ds))->∃a vs,σ[i]?=O (O (.ref a))/\B a=Cu/\G a=Cu/\H a=O (.lst vs)/\Reps K G vs ds
 sep:∀(i j:Nat) a ds es,ρ[i]?=O (O (.own ds))->ρ[j]?=O (O (.own es))->σ[i]?=O (O (.ref a))->σ[j]?=O (O (.ref a))->i=j
 dp:DpOk K B G H σ ρ
theorem EOk.ext{G' H':Hp}{σ:St}{ρ:Ur}(k:EOk K B G0 G H σ ρ)(e:Ext G H G' H'):EOk K B G0 G' H' σ ρ where
 bh:=k.bh.trans e.h
 gh:=e.gh
 g0:=k.g0.trans e.g
 np:=λa o q n=>e.np a o (k.bh a _ q) (k.np a o q n)
 len:=k.len
 pub:=λi d q=>let ⟨v,h1,h2⟩:=k.pub i d q;⟨v,h1,h2.mono e.g⟩
 own:=λi ds q=>let ⟨a,vs,h1,h2,h3,h4,h5⟩:=k.own i ds q;⟨a,vs,h1,h2,e.np a (.l _) h4 h3,e.h a _ h4,h5.mono e.g⟩
 sep:=k.sep
 dp:=k.dp.map (λ_ _ _ q=>⟨q,rfl⟩) (λ_ ds q=>⟨ds,q,rfl⟩) λi p d v fp q s r w n=>⟨r.mono e.g e.h,λa m=>let ⟨_,hl⟩:=r.isl a m;⟨(w a m).1,e.np a _ hl (w a m).2⟩⟩
theorem EOk.publish{σ:St}{ρ:Ur}{i:Nat}{ds:Cy}(k:EOk K B G0 G H σ ρ)(h:ρ[i]?=O (O (.own ds))) :
  ∃a G',σ[i]?=O (O (.ref a))/\Same G G'/\Rep K G' (.ref a) (.list ds)/\EOk K B G0 G' H σ (ρ.set i (O (.pub (.list ds)))):=by
 obtain⟨a,vs,h1,h2,h3,h4,h5⟩:=k.own i ds h;have sg:Same G (upd G a (.lst vs)):=KG h3;have hr:Rep K (upd G a (.lst vs)) (.ref a) (.list ds):=.lst (SqL.of U9) (h5.mono sg);refine⟨a,upd G a (.lst vs),h1,sg,hr,⟨k.bh,λb u q=>?_,k.g0.trans sg,λb o q n=>?_,by rw[QJ];exact k.len,λj d q=>?_,λj es q=>?_,λj l c es fs q1 q2 s1 s2=>?_,?_⟩⟩
 .by_cases z:b=a
  .subst z;rw[U9]at q;cases q;exact h4
  .rw[UR z]at q;exact k.gh b u q
 .have z:b≠a:=λz=>by subst z;rw[h2]at q;cases q
  rw[UR z];exact k.np b o q n
 .by_cases z:i=j
  .subst z
   have hl:i<ρ.length:=(Qm.mp h).1;rw[Qz hl]at q;cases q;exact⟨.ref a,h1,hr⟩
  .rw[Qe z]at q
   obtain⟨v,g1,g2⟩:=k.pub j d q;exact⟨v,g1,g2.mono sg⟩
 .by_cases z:i=j
  .subst z
   have hl:i<ρ.length:=(Qm.mp h).1;rw[Qz hl]at q;cases q
  .rw[Qe z]at q
   obtain⟨b,ws,g1,g2,g3,g4,g5⟩:=k.own j es q;have zb:b≠a:=λe=>z (k.sep i j a ds es h q h1 (by rw[←e];exact g1))
   exact⟨b,ws,g1,g2,by rw[UR zb];exact g3,g4,g5.mono sg⟩
 .have nz:∀{m:Nat}{ts:Cy},(ρ.set i (O (Sl.pub (.list ds))))[m]?=O (O (.own ts))->ρ[m]?=O (O (.own ts)):=λ{m ts} q=>by
   by_cases z:i=m
   .subst z
    have hl:i<ρ.length:=(Qm.mp h).1;rw[Qz hl]at q;cases q
   .rw[Qe z]at q;exact q
  exact k.sep j l c es fs (nz q1) (nz q2) s1 s2
 .have hl:i<ρ.length:=(Qm.mp h).1
  have nz:∀{m:Nat}{s:Sl},(ρ.set i (O (Sl.pub (.list ds))))[m]?=O (O s)->(∃d,s=.pub d)∨ρ[m]?=O (O s):=λ{m s} q=>by
   by_cases z:i=m
   .subst z
    rw[Qz hl]at q;cases q;exact .inl ⟨_,rfl⟩
   .rw[Qe z]at q;exact .inr q
  refine k.dp.map (λm p d q=>?_) (λm es q=>?_) λm p d v fp q s r w n=>⟨r.mono sg (.refl _),λb mb=>⟨(w b mb).1,?_⟩⟩
  .rcases nz q with ⟨_,e⟩|q
   .cases e
   .exact⟨q,rfl⟩
  .rcases nz q with ⟨_,e⟩|q
   .cases e
   .exact⟨es,q,rfl⟩
  .rw[UR (λz=>by subst z;exact n i ds b h h1 mb)];exact(w b mb).2
inductive Res(α:Type) where
 |ok (a:α) (ρ:Ur)|bad
noncomputable abbrev M(α:Type):=Ur->Res α
noncomputable def Us{α:Type}(a:α):M α:=λρ=>.ok a ρ
noncomputable def Uz{α:Type}(o:Option α):M α:=λρ=>match o with|some a=>.ok a ρ|none=>.bad
noncomputable def UB{α β:Type}(f:M α)(k:α->M β):M β:=λρ=>match f ρ with | .ok a ρ'=>k a ρ' | .bad=>.bad
section
variable(K:Frag)(B G0:Hp)
def aft{α γ:Type}(R:Hp->γ->α->Prop)(r:Res α)(G:Hp)(σ:St)(Q:γ->Hp->Prop):Prop:=
 match r with
 |.ok d ρ'=>∀v G' H',EOk K B G0 G' H' σ ρ'->Same G G'->R G' v d->Q v H'
 |.bad=>False
noncomputable def tM{α γ:Type}(R:Hp->γ->α->Prop)(f:M α):St->Hp->(γ->Hp->Prop)->Prop:=λσ H Q=>
 ∃G ρ,EOk K B G0 G H σ ρ/\aft K B G0 R (f ρ) G σ Q
noncomputable abbrev tD(f:M D):TE:=tM K B G0 (Rep K) f
noncomputable abbrev tDs(f:M Cy):TA:=tM K B G0 (Reps K) f
noncomputable abbrev tBo(f:M Bool):TT:=tM K B G0 (λ_ b c=>b=c) f
noncomputable abbrev tOi(f:M CH):TO:=tM K B G0 (λ_ b c=>b=c) f
end
section
variable{K:Frag}{B G0:Hp}{α β γ δ ε:Type}{R:Hp->γ->α->Prop}{S:Hp->δ->β->Prop}{T:Hp->ε->α->Prop}{σ:St}{H:Hp}
theorem aft.mono{r:Res α}{G G':Hp}{Q:γ->Hp->Prop}(e:Same G G')(h:aft K B G0 R r G σ Q):aft K B G0 R r G' σ Q:=by
 cases r with
 |ok d ρ=>exact λv G2 H2 k s q=>h v G2 H2 k (e.trans s) q
 |bad=>exact h
theorem aft.done{d:α}{ρ:Ur}{G G' H H':Hp}{v:γ}{Q:γ->Hp->Prop}(h:aft K B G0 R (.ok d ρ) G σ Q)(k:EOk K B G0 G H σ ρ)(e:Ext G H G' H')(r:R G' v d):Q v H':=
 h v G' H' (k.ext e) e.g r
theorem aft.now{d:α}{ρ:Ur}{G H:Hp}{v:γ}{Q:γ->Hp->Prop}(h:aft K B G0 R (.ok d ρ) G σ Q)(k:EOk K B G0 G H σ ρ)(r:R G v d):Q v H:=
 h v G H k (.refl _) r
theorem aft.opt{o:Option α}{ρ:Ur}{G:Hp}{Q:γ->Hp->Prop}(h:aft K B G0 R (Uz o ρ) G σ Q):∃d,o=O d/\aft K B G0 R (.ok d ρ) G σ Q:=by
 cases o with
 |none=>exact h.elim
 |some d=>exact⟨d,rfl,h⟩
theorem tM.bind{f:M α}{k:α->M β}{Q:δ->Hp->Prop}(h:tM K B G0 S (UB f k) σ H Q) :
  tM K B G0 R f σ H (λv H1=>∃G ρ d,EOk K B G0 G H1 σ ρ/\R G v d/\aft K B G0 S (k d ρ) G σ Q):=by
 obtain⟨G,ρ,e,a⟩:=h;refine⟨G,ρ,e,?_⟩;unfold UB at a;cases q:f ρ with
 |bad=>rw[q]at a;exact a.elim
 |ok d ρ1=>rw[q]at a;exact λv G' H' e' s r=>⟨G',ρ1,d,e',r,aft.mono s a⟩
theorem tM.bind2{α' γ':Type}{R':Hp->γ'->α'->Prop}{f:M α}{g:α->M α'}{k:α->α'->M β}{Q:δ->Hp->Prop}(mo:∀G G' v d,Same G G'->R G v d->R G' v d)
  (h:tM K B G0 S (UB f λx=>UB (g x) λy=>k x y) σ H Q) :
  tM K B G0 R f σ H (λv H1=>∃x,tM K B G0 R' (g x) σ H1 λu H2=>∃G ρ y,EOk K B G0 G H2 σ ρ/\R G v x/\R' G u y/\aft K B G0 S (k x y ρ) G σ Q):=by
 obtain⟨G,ρ,e,a⟩:=tM.bind (R:=R) h;refine⟨G,ρ,e,?_⟩;cases q:f ρ with
 |bad=>rw[q]at a;exact a.elim
 |ok d ρ1=>
  rw[q]at a;intro v G' H' e' s r;obtain⟨G2,ρ2,d2,e2,r2,a2⟩:=a v G' H' e' s r;refine⟨d2,G2,ρ2,e2,?_⟩;unfold UB at a2;cases q2:g d2 ρ2 with
  |bad=>rw[q2]at a2;exact a2.elim
  |ok d3 ρ3=>rw[q2]at a2;exact λu G3 H3 e3 s3 r3=>⟨G3,ρ3,d3,e3,mo _ _ _ _ s3 r2,r3,aft.mono s3 a2⟩
end
theorem PF{K:Frag}(G G':Hp)(v:V)(d:D)(e:Same G G')(r:Rep K G v d):Rep K G' v d:=r.mono e
theorem tM.two{K:Frag}{B G0:Hp}{β δ:Type}{S:Hp->δ->β->Prop}{σ:St}{H:Hp}{f g:M D}{k:D->D->M β}{Q:δ->Hp->Prop}{P:V->V->Hp->Prop}
  (h:tM K B G0 S (UB f λx=>UB g λy=>k x y) σ H Q)
  (i:∀v u H2 G ρ x y,EOk K B G0 G H2 σ ρ->Rep K G v x->Rep K G u y->aft K B G0 S (k x y ρ) G σ Q->P v u H2) :
  tD K B G0 f σ H (λv H1=>tD K B G0 g σ H1 λu H2=>P v u H2):=by
 obtain⟨G,ρ,e,a⟩:=tM.bind2 (R:=Rep K) (R':=Rep K) PF h;refine⟨G,ρ,e,?_⟩;cases q:f ρ with
 |bad=>rw[q]at a;exact a.elim
 |ok d ρ1=>
  rw[q]at a;intro v G' H' e' s r;obtain⟨x,G2,ρ2,e2,a2⟩:=a v G' H' e' s r;refine⟨G2,ρ2,e2,?_⟩;cases q2:g ρ2 with
  |bad=>rw[q2]at a2;exact a2.elim
  |ok d3 ρ3=>rw[q2]at a2;intro u G3 H3 e3 s3 r3;obtain⟨G4,ρ4,y,e4,r4,r5,a5⟩:=a2 u G3 H3 e3 s3 r3;exact i v u H3 G4 ρ4 x y e4 r4 r5 a5
theorem tM.one{K:Frag}{B G0:Hp}{α β γ δ:Type}{R:Hp->γ->α->Prop}{S:Hp->δ->β->Prop}{σ:St}{H:Hp}{f:M α}{k:α->M β}{Q:δ->Hp->Prop}{P:γ->Hp->Prop}
  (h:tM K B G0 S (UB f k) σ H Q) (i:∀v H2 G ρ x,EOk K B G0 G H2 σ ρ->R G v x->aft K B G0 S (k x ρ) G σ Q->P v H2):tM K B G0 R f σ H P:=by
 obtain⟨G,ρ,e,a⟩:=tM.bind (R:=R) h;refine⟨G,ρ,e,?_⟩;cases q:f ρ with
 |bad=>rw[q]at a;exact a.elim
 |ok d ρ1=>rw[q]at a;intro v G' H' e' s r;obtain⟨G2,ρ2,d2,e2,r2,a2⟩:=a v G' H' e' s r;exact i v H' G2 ρ2 d2 e2 r2 a2
section
variable{X:Cx}{B G0:Hp}{e a b:J5}{pos:Pos}
theorem UN{t t':TE}(h:PE X e t)(i:∀σ H Q,t' σ H Q->t σ H Q):PE X e t':=λpins s σ H Q I q=>h pins s σ H Q I (i σ H Q q)
theorem Zv{t t':TT}(h:PT X e t)(i:∀σ H Q,t' σ H Q->t σ H Q):PT X e t':=λpins s σ H Q I q=>h pins s σ H Q I (i σ H Q q)
theorem paof{es:CC}{t t':TA}(h:PA X es t)(i:∀σ H Q,t' σ H Q->t σ H Q):PA X es t':=λps pins s σ H Q I q=>h ps pins s σ H Q I (i σ H Q q)
theorem poof{eo:Option J5}{t t':TO}(h:PO X eo t)(i:∀σ H Q,t' σ H Q->t σ H Q):PO X eo t':=λpins s σ H Q I q=>h pins s σ H Q I (i σ H Q q)
theorem Ko{st:Stmt}{t t':TS}(h:PS X st t)(i:∀D σ H,t' D σ H->t D σ H):PS X st t':=λpins s σ H D I q=>h pins s σ H D I (i D σ H q)
theorem Xv{st:List Stmt}{t t':TS}(h:PSs X st t)(i:∀D σ H,t' D σ H->t D σ H):PSs X st t':=λpins s σ H D I q=>h pins s σ H D I (i D σ H q)
noncomputable def Uq(i:Nat):M D:=λρ=>match ρ[i]? with
 |some (O (.pub d))=>.ok d ρ
 |some (O (.own ds))=>.ok (.list ds) (ρ.set i (O (.pub (.list ds))))
 |_=>.bad
theorem Ke{i:Nat}(h:PE X e (U1 i)):PE X e (tD X.K B G0 (Uq i)):=UN h λσ H Q ⟨G,ρ,k,a⟩=>by
 unfold Uq at a;cases q:ρ[i]? with
 |none=>rw[q]at a;exact a.elim
 |some o=>
  cases o with
  |none=>rw[q]at a;exact a.elim
  |some sl=>
   cases sl with
   |deep _ _=>rw[q]at a;exact a.elim
   |pub d=>rw[q]at a;obtain⟨v,h1,h2⟩:=k.pub i d q;exact⟨v,h1,a.now k h2⟩
   |own ds=>rw[q]at a;obtain⟨ad,G',h1,h2,h3,h4⟩:=k.publish q;exact⟨.ref ad,h1,a (.ref ad) G' H h4 h2 h3⟩
theorem V6{v:V}{d:D}(h:PE X e (tC v))(r:∀G,Rep X.K G v d):PE X e (tD X.K B G0 (Us d)):=UN h λσ H Q ⟨G,ρ,k,a⟩=>a.now k (r G)
theorem Zl{i:Int}{j}:PE X (.Constant (.int i) j pos) (tD X.K B G0 (Us (.int i))):=V6 Sk λ_=>.int i
theorem YI{i:Bool}{j}:PE X (.Constant (.bool i) j pos) (tD X.K B G0 (Us (.bool i))):=V6 Lo λ_=>.bl i
theorem PD{j}:PE X (.Constant .none j pos) (tD X.K B G0 (Us .none)):=V6 LF λ_=>.non
theorem WI{x:Str}{j}:PE X (.Constant (.str x) j pos) (tD X.K B G0 (Us (.str x))):=V6 Pf λ_=>.str x
noncomputable def Uu{β:Type}(op:D->D->Option β)(f g:M D):M β:=UB f λx=>UB g λy=>Uz (op x y)
def OpD(X:Cx)(f:JX->JX->Sem JX)(op:D->D->CA):Prop:=
 ∃r:R2,OpR X f r/\∀v u G H x y d Q,Same G H->Rep X.K G v x->Rep X.K G u y->op x y=O d->(∀w G' H',Ext G H G' H'->Rep X.K G' w d->Q w H')->r v u H Q
theorem K9{op:Operator}{p:D->D->CA}{f g:M D}(o:OpD X (binaryOp op) p)(ha:PE X a (tD X.K B G0 f))(hb:PE X b (tD X.K B G0 g)):PE X (.BinOp a op b pos) (tD X.K B G0 (Uu p f g)):=by
 obtain⟨r,h,i⟩:=o;refine UN (NZ h ha hb) λσ H Q q=>?_;refine tM.two q λv u H2 G ρ x y k rx ry a=>?_
 obtain⟨d,e,a⟩:=a.opt;exact i v u G H2 x y d Q k.gh rx ry e λw G' H' ex rw=>a.done k ex rw
theorem OpD.or{f:JX->JX->Sem JX}{p q:D->D->CA}(h:OpD X f p)(h':OpD X f q):OpD X f (λx y=>(p x y).orElse λ_=>q x y):=by
 obtain⟨r,h1,i1⟩:=h;obtain⟨r',h2,i2⟩:=h';refine⟨_,h1.or h2,λv u G H x y d Q s rx ry e k=>?_⟩;dsimp only at e;cases z:p x y with
 |some d'=>rw[z]at e;have e':d'=d:=Q0 e;subst e';exact .inl (i1 v u G H x y d' Q s rx ry z k)
 |none=>rw[z]at e;exact .inr (i2 v u G H x y d Q s rx ry e k)
noncomputable def oII(g:Int->Int->CA):D->D->CA
 |.int i,.int j=>g i j
 |_,_=>Cu
theorem PB{g:Int->Int->CA}{x y d:D}(e:oII g x y=O d):∃i j,x=.int i/\y=.int j/\g i j=O d:=by
 unfold oII at e;split at e
 .exact⟨_,_,rfl,rfl,e⟩
 .cases e
theorem OpD.int{f:JX->JX->Sem JX}{C:Int->Int->Prop}{g:Int->Int->V}{p:Int->Int->CA}(h:OpR X f (rI C g))(i:∀i j d,p i j=O d->C i j/\∀G,Rep X.K G (g i j) d):OpD X f (oII p):=by refine⟨_,h,λv u G H x y d Q s rx ry e k=>?_⟩;obtain⟨a,b,rfl,rfl,e⟩:=PB e;obtain⟨c,r⟩:=i a b d e;exact⟨a,b,rx.int_inv,ry.int_inv,c,k _ G H (.refl s) (r G)⟩
theorem OpD.int0{f:JX->JX->Sem JX}{g:Int->Int->V}{p:Int->Int->D}(h:OpR X f (rI0 g))(i:∀i j G,Rep X.K G (g i j) (p i j)):OpD X f (oII λi j=>O (p i j)):=by refine⟨_,h,λv u G H x y d Q s rx ry e k=>?_⟩;obtain⟨a,b,rfl,rfl,e⟩:=PB e;cases e;exact⟨a,b,rx.int_inv,ry.int_inv,k _ G H (.refl s) (i a b G)⟩
end
section
variable{X:Cx}{B G0:Hp}{e a b c:J5}{pos:Pos}
theorem Hs:OpD X (binaryOp .Add) (oII λi j=>O (.int (i+j))):=.int0 Hf λ_ _ _=>.int _
theorem Hr:OpD X (binaryOp .Sub) (oII λi j=>O (.int (i-j))):=.int0 He λ_ _ _=>.int _
noncomputable def Yk(i j:Int):CA:=if(-(2 ^ 64)<i/\i<2 ^ 64)∨(-(2 ^ 64)<j/\j<2 ^ 64)then O (.int (i*j))else Cu
theorem GO:OpD X (binaryOp .Mult) (oII Yk):=.int Hd λi j d h=>by
 unfold Yk at h;split at h
 .rename_i c
  cases h;exact⟨c,λ_=>.int _⟩
 .cases h
noncomputable def YX(i j:Int):CA:=if 0<j then O (.int (i % j))else Cu
theorem Hq:OpD X (binaryOp .Mod) (oII YX):=.int Hc λi j d h=>by
 unfold YX at h;split at h
 .rename_i c
  cases h;exact⟨c,λ_=>.int _⟩
 .cases h
theorem EN:OpR X (binaryOp .FloorDiv) (rI (λi j=>0<j/\j<2 ^ 200) λi j=>.int (i / j)):=opI λi j _ _ _ _ _ hc q=>by
 have h1:(0:Int)<j:=hc.1;have h2:j<2 ^ 200:=hc.2;refine floordiv_int (by lia) (by rw[Int.fdiv_eq_ediv_of_nonneg i (by lia)];exact q) (.inl (PyProof.noPylong_of_log2 ?_));have h0:j.natAbs≠0:=by lia
 have:j.natAbs.log2<200:=(Nat.log2_lt h0).mpr (by lia)
 lia
noncomputable def YY(i j:Int):CA:=if 0<j/\j<2 ^ 200 then O (.int (i / j))else Cu
theorem Hn:OpD X (binaryOp .FloorDiv) (oII YY):=.int EN λi j d h=>by
 unfold YY at h;split at h
 .rename_i c
  cases h;exact⟨c,λ_=>.int _⟩
 .cases h
noncomputable def YW(i j:Int):CA:=if 0<=j/\j<=1000000/\i.natAbs<2 ^ 64 then O (.int (i ^ j.toNat))else Cu
theorem Hm:OpD X (binaryOp .Pow) (oII YW):=.int Hb λi j d h=>by
 unfold YW at h;split at h
 .rename_i c
  cases h;exact⟨c,λ_=>.int _⟩
 .cases h
theorem lim:(1000000:Nat)<=J6:=by decide
noncomputable def VS:D->D->CA
 |.str x,.str y=>if x.length+y.length<=1000000 then O (.str (x++y))else Cu
 |_,_=>Cu
theorem GN:OpD X (binaryOp .Add) VS:=by
 refine⟨_,Du,λv u G H x y d Q s rx ry e k=>?_⟩;unfold VS at e;split at e
 .split at e
  .rename_i c
   cases e;exact⟨_,_,rx.str_inv,ry.str_inv,Qn c lim,k _ G H (.refl s) (.str _)⟩
  .cases e
 .cases e
noncomputable def NQ(K:Frag):R2:=λx y H Q=>∃l b xs zs,x=.ref l/\y=.ref b/\SqL K H l xs/\SqL K H b zs/\xs.length+zs.length<=J6/\∀p,H p=Cu->Q (.ref p) (upd H p (.lst (xs++zs)))
theorem GM:OpR X (binaryOp .Add) (NQ X.K):=by
 intro pins s σ H x y v u Q I rx ry h;obtain⟨l,b,xs,zs,rfl,rfl,hH,hB,hz,q⟩:=h;cases rx;cases ry;obtain⟨its,r,⟨⟨c1,d1,t1,s1⟩,n1,e1,Ae,Ad,Ac⟩,z1⟩:=I.list hH;obtain⟨its2,r2,⟨⟨c2,d2,t2,s2⟩,n2,e2,ec2,ed2,et2⟩,z2⟩:=I.list hB;simp only at Ae Ad Ac ec2 ed2 et2;subst Ae Ad Ac ec2 ed2 et2;have hl:=r.length;have hl2:=r2.length;refine concat_meets ⟨_,e1,rfl⟩ ⟨_,e2,rfl⟩ noFill_list_add seq_list_add PySem.F.slot_list_add PySem.F.entry_list_add (PySem.F.args_list_add_2 _ _) (list_addW l b its.toArray its2.toArray n1 n2 Cu Cu s1 s2 (by rw[QQ,QQ];lia)) ⟨e1,e2,?_⟩;have ea:its.toArray++its2.toArray=(its++its2).toArray:=by simp
 rw[ea];exact⟨.ref _,_,I.lnew (t':=s.toks) (r.append r2) (by rw[Qu];lia),rfl,q _ I.fresh⟩
theorem NP(a:Int)(t:Tok)(l:J0)(items:Array JX)(n:Nat)(sl:Array CB) :
  Meets (Builtin.«int.__rmul__» ⟨[.int a t,.ref l],[]⟩) (λ_ R s=>s.heap.get? l=O {cls:=.type "list", dict:=Cu,data:=.seq items n,slots:=sl}/\R (.ok (.ret Value.notImplemented)) s):=
 .of_wp λprog w A R s h=>by obtain⟨hp,g,d,tk,os⟩:=s;obtain⟨hl,h⟩:=h;wp_walk;exact⟨_,rfl,h⟩
theorem mulW(l:J0)(items:Array JX)(n:Nat)(x:Int)(u:Tok)(sl:Array CB)(hc0:¬(!Builtin.List.listFitsIndex x)=Cv)(hc1:¬items.size*x.toNat > (2 ^ 63-1) / 8)(hc2:¬Builtin.List.listTooLong (items.size*x.toNat)=Cv) :
  Meets (Builtin.«list.__mul__» ⟨[.ref l,.int x u],[]⟩) (λ_ R s=>s.heap.get? l=O {cls:=.type "list", dict:=Cu,data:=.seq items n,slots:=sl}/\R (.ok (.ret (Value.ref s.heap.objs.size))) {s with heap:=s.heap.push {cls:=Value.type "list", data:=Data.seq (List.foldl (λx1 x2=>x1++x2) #[] (Ub (if items.isEmpty=Cv then 0 else x.toNat) items))},toks:=s.toks}):=
 .of_wp λprog w A R s h=>by
  obtain⟨hp,g,d,tk,os⟩:=s;obtain⟨hl,h⟩:=h;have hsz:=AutoListH.joined_fits hc2
  wp_walk;refine wpAny_ite_false (Qt (Nat.not_lt.mpr hsz)) ?_;wp_walk;exact⟨_,rfl,h⟩
noncomputable def NO(K:Frag):R2:=λx y H Q=>∃l k xs,x=.ref l/\y=.int k/\SqL K H l xs /\ -(2 ^ 63)<=k/\k<2 ^ 63/\xs.length*k.toNat<=J6 /\
 ∀p,H p=Cu->Q (.ref p) (upd H p (.lst (Ub k.toNat xs).flatten))
theorem GL:OpR X (binaryOp .Mult) (NO X.K):=by
 intro pins s σ H x y v u Q I rx ry h;obtain⟨l,k,xs,rfl,rfl,hH,h1,h2,hz,q⟩:=h;cases rx;obtain⟨t,rfl⟩:=ry;obtain⟨its,r,⟨⟨c1,d1,t1,sl⟩,n,e,Ae,Ad,Ac⟩,z⟩:=I.list hH;simp only at Ae Ad Ac;subst Ae Ad Ac;have hl:=r.length;have hlen:its.toArray.size*k.toNat<=J6:=by rw[QQ,←hl];exact hz
 have hcap:¬its.toArray.size*k.toNat > (2 ^ 63-1) / 8:=by
  have:(J6:Nat)<=(2 ^ 63-1) / 8:=by decide
  lia
 have hfit:¬(!Builtin.List.listFitsIndex k)=Cv:=by rw[fitsIndex_both h1 h2];exact JH
 have B4:¬Builtin.List.listTooLong (its.toArray.size*k.toNat)=Cv:=by rw[EA hlen];exact JH
 have hnew:List.foldl (λx1 x2=>x1++x2) #[] (Ub (if its.toArray.isEmpty=Cv then 0 else k.toNat) its.toArray)=(Ub k.toNat its).flatten.toArray:=by
  have f0:∀m:Nat,List.foldl (λx1 x2=>x1++x2) #[] (Ub m its.toArray)=(Ub m its).flatten.toArray:=λm=>by have:=O9 its m [];rw[JR]at this;exact this
  rw[f0];cases its with
  |nil=>simp
  |cons a r'=>rw[if_neg (by simp)]
 refine wpAny_binaryOp_repeat_ref (T:= "list") (U:= "int") (by decide) ⟨_,e,rfl⟩ (λs'=>typeIs_int s' k t) noFill_list_mul F.fills_int_mul F.slot_int_rmul repeat_list F.slot_int_index.lookup
  (Jo F.slot_int_rmul (typeIs_int s k t) F.entry_int_rmul (F.args_int_rmul_2 _ _) (NP k t l its.toArray n sl)
   ⟨e,rfl,⟨_,e,rfl⟩,Jo F.slot_list_mul ⟨_,e,rfl⟩ F.entry_list_mul (F.args_list_mul_2 _ _) (mulW l its.toArray n k t sl hfit hcap B4) ⟨e,?_⟩⟩)
 rw[hnew];exact⟨.ref _,_,I.lnew (t':=s.toks) (r.rep k.toNat) (by rw[GW,Nat.mul_comm];exact hz),rfl,q _ I.fresh⟩
noncomputable def VR:D->D->CA
 |.list x,.list y=>if x.length+y.length<=1000000 then O (.list (x++y))else Cu
 |_,_=>Cu
theorem GK:OpD X (binaryOp .Add) VR:=by
 refine⟨_,GM,λv u G H x y d Q s rx ry e k=>?_⟩;unfold VR at e;split at e
 .split at e
  .rename_i c
   cases e;obtain⟨l,vs,rfl,h1,r1⟩:=rx.lst_inv;obtain⟨b,ws,rfl,h2,r2⟩:=ry.lst_inv;refine⟨l,b,vs,ws,rfl,rfl,s.seq h1,s.seq h2,by rw[r1.length,r2.length];exact Qn c lim,λp hp=>k _ _ _ (Ext.new s hp) ?_⟩;exact .lst (SqL.of U9) ((r1.append r2).mono (KG (s.free hp)))
  .cases e
 .cases e
theorem Reps.rep{K:Frag}{G:Hp}{vs:List V}{ds:Cy}(r:Reps K G vs ds):∀n:Nat,Reps K G (Ub n vs).flatten (Ub n ds).flatten
 |0=>.nil
 |n+1=>by rw[Jj,Jj,Jz,Jz];exact r.append (r.rep n)
noncomputable def VQ:D->D->CA
 |.list x,.int k=>if -1000000<=k/\k<=1000000/\x.length*k.toNat<=1000000 then O (.list (Ub k.toNat x).flatten)else Cu
 |_,_=>Cu
theorem GJ:OpD X (binaryOp .Mult) VQ:=by
 refine⟨_,GL,λv u G H x y d Q s rx ry e k=>?_⟩;unfold VQ at e;split at e
 .split at e
  .rename_i c
   cases e;obtain⟨l,vs,rfl,h1,r1⟩:=rx.lst_inv;refine⟨l,_,vs,rfl,ry.int_inv,s.seq h1,by lia,by lia,by rw[r1.length];exact Qn c.2.2 lim,λp hp=>k _ _ _ (Ext.new s hp) ?_⟩;exact .lst (SqL.of U9) ((r1.rep _).mono (KG (s.free hp)))
  .cases e
 .cases e
noncomputable def UC:D->D->CA
 |.int i,.int j=>O (.int (i+j))
 |.str x,.str y=>if x.length+y.length<=1000000 then O (.str (x++y))else Cu
 |.list x,.list y=>if x.length+y.length<=1000000 then O (.list (x++y))else Cu
 |_,_=>Cu
noncomputable def X0:D->D->CA
 |.int i,.int j=>O (.int (i-j))
 |_,_=>Cu
noncomputable def U7:D->D->CA
 |.int i,.int j=>Yk i j
 |.list x,.int k=>if -1000000<=k/\k<=1000000/\x.length*k.toNat<=1000000 then O (.list (Ub k.toNat x).flatten)else Cu
 |_,_=>Cu
noncomputable def Kc:D->D->CA
 |.int i,.int j=>YX i j
 |_,_=>Cu
noncomputable def ZZ:D->D->CA
 |.int i,.int j=>YY i j
 |_,_=>Cu
noncomputable def Zw:D->D->CA
 |.int i,.int j=>YW i j
 |_,_=>Cu
theorem OpD.congr{f:JX->JX->Sem JX}{p q:D->D->CA}(h:OpD X f p)(e:∀x y,q x y=p x y):OpD X f q:=by
 have:q=p:=by funext x y;exact e x y
 rw[this];exact h
theorem Z7:OpD X (binaryOp .Add) UC:=(Hs.or (GN.or GK)).congr λx y=>by cases x<;>cases y<;>first|rfl|(simp only[UC,oII,VS,VR,Option.orElse];done)|(simp only[UC,oII,VS,VR,Option.orElse];split<;>rfl)
theorem NN:OpD X (binaryOp .Sub) X0:=Hr.congr λx y=>by cases x<;>cases y<;>rfl
theorem T7:OpD X (binaryOp .Mult) U7:=(GO.or GJ).congr λx y=>by cases x<;>cases y<;>first|rfl|(simp only[U7,oII,VQ,Option.orElse];done)|(simp only[U7,oII,VQ,Option.orElse];split<;>first|rfl|assumption)
theorem RK:OpD X (binaryOp .Mod) Kc:=Hq.congr λx y=>by cases x<;>cases y<;>rfl
theorem NM:OpD X (binaryOp .FloorDiv) ZZ:=Hn.congr λx y=>by cases x<;>cases y<;>rfl
theorem NL:OpD X (binaryOp .Pow) Zw:=Hm.congr λx y=>by cases x<;>cases y<;>rfl
end
section
variable{X:Cx}{B G0:Hp}{e a b c:J5}{pos:Pos}
def OpB(X:Cx)(f:JX->JX->Sem JX)(op:D->D->CL):Prop:=
 ∃r:R2,OpR X f r/\∀v u G H x y d Q,Same G H->Rep X.K G v x->Rep X.K G u y->op x y=O d->Q (.bl d) H->r v u H Q
theorem OpB.or{f:JX->JX->Sem JX}{p q:D->D->CL}(h:OpB X f p)(h':OpB X f q):OpB X f (λx y=>(p x y).orElse λ_=>q x y):=by
 obtain⟨r,h1,i1⟩:=h;obtain⟨r',h2,i2⟩:=h';refine⟨_,h1.or h2,λv u G H x y d Q s rx ry e k=>?_⟩;dsimp only at e;cases z:p x y with
 |some d'=>rw[z]at e;have e':d'=d:=Q0 e;subst e';exact .inl (i1 v u G H x y d' Q s rx ry z k)
 |none=>rw[z]at e;exact .inr (i2 v u G H x y d Q s rx ry e k)
theorem OpB.congr{f:JX->JX->Sem JX}{p q:D->D->CL}(h:OpB X f p)(e:∀x y,q x y=p x y):OpB X f q:=by
 have:q=p:=by funext x y;exact e x y
 rw[this];exact h
theorem Pz{op:CmpOp}{p:D->D->CL}{f g:M D}(o:OpB X (J9 op) p)(ha:PE X a (tD X.K B G0 f))(hb:PE X b (tD X.K B G0 g))(hm:behindInMarks op b=Cw) :
  PT X (.Compare a [op] [b] pos) (tBo X.K B G0 (Uu p f g)):=by
 obtain⟨r,h,i⟩:=o;refine Zv (SI h ha hb hm) λσ H Q q=>?_;refine tM.two q λv u H2 G ρ x y k rx ry a=>?_
 obtain⟨d,e,a⟩:=a.opt;exact i v u G H2 x y d _ k.gh rx ry e ⟨d,rfl,a.now k Ct⟩
noncomputable def UJ{α β:Type}(h:α->β)(f:M α):M β:=UB f λx=>Us (h x)
theorem tM.map{K:Frag}{α β γ δ:Type}{R:Hp->γ->α->Prop}{S:Hp->δ->β->Prop}{σ:St}{H:Hp}{h:α->β}{f:M α}{Q:δ->Hp->Prop}(j:γ->δ)(q:tM K B G0 S (UJ h f) σ H Q)
  (i:∀G v x,R G v x->S G (j v) (h x)):tM K B G0 R f σ H (λv H'=>Q (j v) H'):=
 tM.one (R:=R) (f:=f) q λv H2 G ρ x k r a=>aft.now (show aft K B G0 S (.ok (h x) ρ) G σ Q from a) k (i G v x r)
theorem tBo.val{K:Frag}{σ:St}{H:Hp}{f:M Bool}{Q:VK}(q:tD K B G0 (UJ Ud f) σ H Q):tBo K B G0 f σ H (λb H'=>Q (.bl b) H'):=
 tM.map (R:=λ_ b c=>b=c) V.bl q λG v x e=>by rw[e];exact .bl x
theorem GI{op:CmpOp}{p:D->D->CL}{f g:M D}(o:OpB X (J9 op) p)(ha:PE X a (tD X.K B G0 f))(hb:PE X b (tD X.K B G0 g))(hm:behindInMarks op b=Cw) :
  PE X (.Compare a [op] [b] pos) (tD X.K B G0 (UJ Ud (Uu p f g))):=by
 obtain⟨r,h,i⟩:=o;refine UN (P4 h ha hb hm) λσ H Q q=>?_;refine tM.two (tBo.val q) λv u H2 G ρ x y k rx ry a=>?_
 obtain⟨d,e,a⟩:=a.opt;exact i v u G H2 x y d _ k.gh rx ry e (a.now k Ct)
noncomputable def V5(p q:D->D->CL)(f g h:M D):M Bool:=UB f λx=>UB g λy=>UB (Uz (p x y)) λt=>if t=Cv then UB h λz=>Uz (q y z)else Us Cw
theorem EV{op op':CmpOp}{p q:D->D->CL}{f g h:M D}(o:OpB X (J9 op) p)(o':OpB X (J9 op') q)(ha:PE X a (tD X.K B G0 f))(hb:PE X b (tD X.K B G0 g))(hc:PE X c (tD X.K B G0 h))
  (hm:lastMarks [op,op'] [b,c]=Cw:=by with_unfolding_all rfl):PT X (.Compare a [op,op'] [b,c] pos) (tBo X.K B G0 (V5 p q f g h)):=by
 obtain⟨r,h1,i⟩:=o;obtain⟨r',h2,i'⟩:=o';refine Zv (ED h1 h2 ha hb hc hm) λσ H Q w=>?_;refine tM.two w λv u H2 G ρ x y k rx ry a=>?_
 cases z:p x y with
 |none=>rw[z]at a;exact a.elim
 |some t=>
  rw[z]at a;refine i v u G H2 x y t _ k.gh rx ry z ⟨t,rfl,?_⟩;cases t with
  |false=>rw[Qv JH];exact⟨Cw,rfl,aft.now a k Ct⟩
  |true=>
   rw[Qo Ct];refine⟨G,ρ,k,?_⟩;have a4:aft X.K B G0 (λ_ (b:Bool) c=>b=c) ((UB h λz=>Uz (q y z)) ρ) G σ Q:=a;unfold UB at a4;cases z2:h ρ with
   |bad=>rw[z2]at a4;exact a4.elim
   |ok d ρ1=>rw[z2]at a4;intro w G5 H5 k5 s5 r5;obtain⟨t2,e2,a6⟩:=a4.opt;exact i' u w G5 H5 y d t2 _ k5.gh (ry.mono s5) r5 e2 ⟨t2,rfl,a6 t2 G5 H5 k5 s5 Ct⟩
noncomputable def oIB(g:Int->Int->Bool):D->D->CL
 |.int i,.int j=>O (g i j)
 |_,_=>Cu
theorem OpB.int{f:JX->JX->Sem JX}{g:Int->Int->Bool}(h:OpR X f (rI0 λi j=>.bl (g i j))):OpB X f (oIB g):=by
 refine⟨_,h,λv u G H x y d Q s rx ry e k=>?_⟩;unfold oIB at e;split at e
 .cases e
  exact⟨_,_,rx.int_inv,ry.int_inv,k⟩
 .cases e
theorem B_lt:OpB X (J9 .Lt) (oIB λi j=>decide (i<j)):=.int NX
theorem B_le:OpB X (J9 .LtE) (oIB λi j=>decide (i<=j)):=.int NW
theorem B_gt:OpB X (J9 .Gt) (oIB λi j=>decide (j<i)):=.int NV
theorem B_ge:OpB X (J9 .GtE) (oIB λi j=>decide (j<=i)):=.int NU
mutual
theorem ZV{pins:List (J0×Obj)}{s:JY}{σ:St}{G H:Hp}(I:Inv X pins σ H s)(sg:Same G H):∀{v:V}{d:D}{u:JX},Rep X.K G v d->RelV v u->d.canLay0=Cv->∃as,Reads s.heap u d as
 |_,_,_,.non,r,_=>by cases r;exact⟨_,.none⟩
 |_,_,_,.bl b,r,_=>by cases r;exact⟨_,.bool b⟩
 |_,_,_,.int i,r,_=>by obtain⟨t,rfl⟩:=r;exact⟨_,.int i t⟩
 |_,_,_,.str x,r,_=>by obtain⟨t,rfl⟩:=r;exact⟨_,.str x t⟩
 |_,_,_,.lst h q,r,c=>by cases r;obtain⟨its,rv,⟨o,n,e,hc,_,hd⟩,hz⟩:=I.list (sg.seq h);obtain⟨as,ra⟩:=readsAll_of I sg q rv (show Ug _=Cv by simpa[PyData.canLay0]using c);exact⟨_,.list e hc hd (by simpa using ra)⟩
 |_,_,_,.tup h q,r,c=>by cases r;obtain⟨its,rv,p,hz⟩:=I.tuple (Zr sg h);obtain⟨o,e,hc,n,hd⟩:=p;obtain⟨as,ra⟩:=readsAll_of I sg q rv (show Ug _=Cv by simpa[PyData.canLay0]using c);exact⟨_,.tuple e hc hd (by simpa using ra)⟩
 |_,_,_,.dic h,r,c=>by simp[PyData.canLay0]at c
 |_,_,_,.exc _ _ _ _,r,c=>by simp[PyData.canLay0]at c
 |_,_,_,.dct _ _ _ _ _,r,c=>by simp[PyData.canLay0]at c
 |_,_,_,.dtt _ _ _ _,r,c=>by simp[PyData.canLay0]at c
theorem readsAll_of{pins:List (J0×Obj)}{s:JY}{σ:St}{G H:Hp}(I:Inv X pins σ H s)(sg:Same G H):∀{vs:List V}{ds:Cy}{us:Cz},Reps X.K G vs ds->Vals vs us->Ug ds=Cv->∃as,ReadsAll s.heap us ds as
 |_,_,_,.nil,r,_=>by cases r;exact⟨_,.nil⟩
 |_,_,_,.cons h t,r,c=>by
  cases r with
  |cons r1 r2=>have c':=c;rw[Ug,Qw]at c';obtain⟨as,ra⟩:=ZV I sg h r1 c'.1;obtain⟨bs,rb⟩:=readsAll_of I sg t r2 c'.2;exact⟨_,.cons ra rb⟩
end
noncomputable def oEq(x y:D):CL:=if x.canLay0=Cv/\y.canLay0=Cv/\x.depth<=60 then O (Ui x y)else Cu
noncomputable def oNe(x y:D):CL:=if x.canLay0=Cv/\y.canLay0=Cv/\x.depth<=60 then O (!Ui x y)else Cu
theorem B_eq(hu:X.A.units+64<cLine):OpB X (J9 .Eq) oEq:=by
 refine⟨λv u H Q=>∃G x y d,Same G H/\Rep X.K G v x/\Rep X.K G u y/\oEq x y=O d/\Q (.bl d) H,?_,λv u G H x y d Q s rx ry e k=>⟨G,x,y,d,s,rx,ry,e,k⟩⟩;intro pins s σ H x y v u Q I rx ry ⟨G,dx,dy,d,sg,px,py,e,q⟩;unfold oEq at e;split at e
 .rename_i c
  cases e;obtain⟨as,ra⟩:=ZV I sg px rx c.1;obtain⟨bs,rb⟩:=ZV I sg py ry c.2.1;exact SeqAt.compareEq_reads ra rb c.1 c.2.1 (by have:=c.2.2;lia) ⟨.bl _,H,I,rfl,q⟩
 .cases e
theorem Wm(hu:X.A.units+64<cLine):OpB X (J9 .NotEq) oNe:=by
 refine⟨λv u H Q=>∃G x y d,Same G H/\Rep X.K G v x/\Rep X.K G u y/\oNe x y=O d/\Q (.bl d) H,?_,λv u G H x y d Q s rx ry e k=>⟨G,x,y,d,s,rx,ry,e,k⟩⟩;intro pins s σ H x y v u Q I rx ry ⟨G,dx,dy,d,sg,px,py,e,q⟩;unfold oNe at e;split at e
 .rename_i c
  cases e;obtain⟨as,ra⟩:=ZV I sg px rx c.1;obtain⟨bs,rb⟩:=ZV I sg py ry c.2.1;exact SeqAt.compareNe_reads ra rb c.1 c.2.1 (by have:=c.2.2;lia) ⟨.bl _,H,I,rfl,q⟩
 .cases e
noncomputable def isNon:D->Bool
 |.none=>Cv
 |_=>Cw
theorem Rep.isNon{K:Frag}{G:Hp}{v:V}{d:D}(r:Rep K G v d):DL.isNon d=decide (v=.non):=by cases r<;>simp[DL.isNon]
end
section
variable{X:Cx}{B G0:Hp}{e a b c:J5}{pos:Pos}{es rest:CC}
theorem tM.nx{K:Frag}{α β γ δ:Type}{R:Hp->γ->α->Prop}{S:Hp->δ->β->Prop}{σ:St}{G H:Hp}{ρ:Ur}{f:M α}{g:α->M β}{Q:δ->Hp->Prop}{P:γ->Hp->Prop}
  (k:EOk K B G0 G H σ ρ) (a:aft K B G0 S (UB f g ρ) G σ Q) (i:∀v H' G' ρ' x,EOk K B G0 G' H' σ ρ'->Same G G'->R G' v x->aft K B G0 S (g x ρ') G' σ Q->P v H'):tM K B G0 R f σ H P:=by
 refine⟨G,ρ,k,?_⟩;unfold UB at a;cases q:f ρ with
 |bad=>rw[q]at a;exact a.elim
 |ok d ρ1=>rw[q]at a;exact λv G' H' e s r=>i v H' G' ρ1 d e s r (aft.mono s a)
noncomputable def Zj(f g:M Bool):M Bool:=UB f λt=>if t=Cv then g else Us Cw
noncomputable def mOr(f g:M Bool):M Bool:=UB f λt=>if t=Cv then Us Cv else g
noncomputable def U2(f:M Bool):M Bool:=UJ (λt=>!t) f
theorem GH{K:Frag}{f g:M Bool}{σ:St}{H:Hp}{Q:Bool->Hp->Prop}(q:tBo K B G0 (Zj f g) σ H Q):tAnd (tBo K B G0 f) (tBo K B G0 g) σ H Q:=
 tM.one (R:=λ_ b c=>b=c) q λv H2 G ρ x k r a=>by
  have r:v=x:=r;subst r;cases v with
  |true=>exact⟨G,ρ,k,a⟩
  |false=>exact aft.now (v:=Cw) a k Ct
theorem Hl{K:Frag}{f g:M Bool}{σ:St}{H:Hp}{Q:Bool->Hp->Prop}(q:tBo K B G0 (mOr f g) σ H Q):tOr (tBo K B G0 f) (tBo K B G0 g) σ H Q:=
 tM.one (R:=λ_ b c=>b=c) q λv H2 G ρ x k r a=>by
  have r:v=x:=r;subst r;cases v with
  |false=>exact⟨G,ρ,k,a⟩
  |true=>exact aft.now (v:=Cv) a k Ct
theorem pwof{t t':TT}(h:PW X e t)(i:∀σ H Q,t' σ H Q->t σ H Q):PW X e t':=λwh pins s σ H Q I q=>h wh pins s σ H Q I (i σ H Q q)
theorem EM{f:M Bool}(ha:PT X a (tBo X.K B G0 f)):PW X (.BoolOp .And [a] pos) (tBo X.K B G0 f):=GD ha
theorem Py{f:M Bool}(ha:PT X a (tBo X.K B G0 f)):PW X (.BoolOp .Or [a] pos) (tBo X.K B G0 f):=LA ha
theorem Fp{f g:M Bool}(ha:PT X a (tBo X.K B G0 f))(hb:PW X (.BoolOp .And (b::rest) pos) (tBo X.K B G0 g)):PW X (.BoolOp .And (a::b::rest) pos) (tBo X.K B G0 (Zj f g)):=pwof (Lz ha hb) λ_ _ _ q=>GH q
theorem R6{f g:M Bool}(ha:PT X a (tBo X.K B G0 f))(hb:PW X (.BoolOp .Or (b::rest) pos) (tBo X.K B G0 g)):PW X (.BoolOp .Or (a::b::rest) pos) (tBo X.K B G0 (mOr f g)):=pwof (N7 ha hb) λ_ _ _ q=>Hl q
theorem XN{f:M Bool}(ha:PT X a (tBo X.K B G0 f)):PT X (.UnaryOp .Not a pos) (tBo X.K B G0 (U2 f)):=Zv (Ly ha) λσ H Q q=>tM.map (R:=λ_ b c=>b=c) (λt=>!t) q λ_ v x e=>by rw[e]
noncomputable def Kx(f:M D):M Bool:=UB f λx=>match x with | .bool t=>Us t|_=>λ_=>.bad
theorem XM{f:M D}(h:PE X e (tD X.K B G0 f))(he:∀whole,isTrue e X.env whole=(do let v ←whole;standAt e.pos;holding [v] (truthy v)):=by intro _;rfl):PT X e (tBo X.K B G0 (Kx f)):=
 Zv (LB h he) λσ H Q q=>tM.one (R:=Rep X.K) q λv H2 G ρ x k r a=>by
  cases x with
  |bool t=>exact⟨t,r.bl_inv,aft.now (v:=t) a k Ct⟩
  |_=>exact a.elim
noncomputable def Xg(f g:M D):M D:=UB f λx=>match x with | .bool Cv=>g | .bool Cw=>Us (.bool Cw)|_=>λ_=>.bad
noncomputable def YQ(f g:M D):M D:=UB f λx=>match x with | .bool Cv=>Us (.bool Cv) | .bool Cw=>g|_=>λ_=>.bad
noncomputable def W0(f:M D):M D:=UB f λx=>match x with | .bool t=>Us (.bool (!t))|_=>λ_=>.bad
theorem Fo{f g:M D}(ha:PE X a (tD X.K B G0 f))(hb:PE X (.BoolOp .And (b::rest) pos) (tD X.K B G0 g)):PE X (.BoolOp .And (a::b::rest) pos) (tD X.K B G0 (Xg f g)):=
 UN (Lw ha hb) λσ H Q q=>tM.one (R:=Rep X.K) q λv H2 G ρ x k r a=>by
  cases x with
  |bool t=>
   refine⟨t,r.bl_inv,?_⟩;cases t with
   |true=>exact⟨G,ρ,k,a⟩
   |false=>exact aft.now a k (.bl Cw)
  |_=>exact a.elim
theorem Hk{f g:M D}(ha:PE X a (tD X.K B G0 f))(hb:PE X (.BoolOp .Or (b::rest) pos) (tD X.K B G0 g)):PE X (.BoolOp .Or (a::b::rest) pos) (tD X.K B G0 (YQ f g)):=
 UN (N4 ha hb) λσ H Q q=>tM.one (R:=Rep X.K) q λv H2 G ρ x k r a=>by
  cases x with
  |bool t=>
   refine⟨t,r.bl_inv,?_⟩;cases t with
   |false=>exact⟨G,ρ,k,a⟩
   |true=>exact aft.now a k (.bl Cv)
  |_=>exact a.elim
theorem Fn{op}{f:M D}(h:PE X a (tD X.K B G0 f)):PE X (.BoolOp op [a] pos) (tD X.K B G0 f):=Lx h
theorem Fl{f:M D}(ha:PE X a (tD X.K B G0 f)):PE X (.UnaryOp .Not a pos) (tD X.K B G0 (W0 f)):=
 UN (Hi ha) λσ H Q q=>tM.one (R:=Rep X.K) q λv H2 G ρ x k r a=>by
  cases x with
  |bool t=>exact⟨t,r.bl_inv,aft.now a k (.bl _)⟩
  |_=>exact a.elim
theorem Fk{f:M D}{j p2}(ha:PE X a (tD X.K B G0 f)):PT X (.Compare a [.Is] [.Constant .none j p2] pos) (tBo X.K B G0 (UJ isNon f)):=
 Zv (LC (Pe ha)) λσ H Q q=>tM.one (R:=Rep X.K) q λv H2 G ρ x k r a=>⟨_,rfl,aft.now a k (by rw[r.isNon])⟩
theorem Fj{f:M D}{j p2}(ha:PE X a (tD X.K B G0 f)):PE X (.Compare a [.Is] [.Constant .none j p2] pos) (tD X.K B G0 (UJ (λd=>.bool (isNon d)) f)):=
 UN (LD (Pe ha)) λσ H Q q=>tM.one (R:=Rep X.K) q λv H2 G ρ x k r a=>aft.now a k (by dsimp only;rw[r.isNon];exact .bl _)
noncomputable def Ut:M Cy:=Us []
noncomputable def Uw(f:M D)(g:M Cy):M Cy:=UB f λx=>UB g λxs=>Us (x::xs)
theorem Kf:PA X [] (tDs X.K B G0 Ut):=paof ZR λσ H Q ⟨G,ρ,k,a⟩=>aft.now a k .nil
theorem tM.twoA{K:Frag}{σ:St}{H:Hp}{f:M D}{g:M Cy}{β δ:Type}{S:Hp->δ->β->Prop}{k:D->Cy->M β}{Q:δ->Hp->Prop}{P:V->List V->Hp->Prop}
  (h:tM K B G0 S (UB f λx=>UB g λy=>k x y) σ H Q)
  (i:∀v u H2 G ρ x y,EOk K B G0 G H2 σ ρ->Rep K G v x->Reps K G u y->aft K B G0 S (k x y ρ) G σ Q->P v u H2) :
  tD K B G0 f σ H (λv H1=>tDs K B G0 g σ H1 λu H2=>P v u H2):=by
 obtain⟨G,ρ,e,a⟩:=tM.bind2 (R:=Rep K) (R':=Reps K) PF h;refine⟨G,ρ,e,?_⟩;cases q:f ρ with
 |bad=>rw[q]at a;exact a.elim
 |ok d ρ1=>
  rw[q]at a;intro v G' H' e' s r;obtain⟨x,G2,ρ2,e2,a2⟩:=a v G' H' e' s r;refine⟨G2,ρ2,e2,?_⟩;cases q2:g ρ2 with
  |bad=>rw[q2]at a2;exact a2.elim
  |ok d3 ρ3=>rw[q2]at a2;intro u G3 H3 e3 s3 r3;obtain⟨G4,ρ4,y,e4,r4,r5,a5⟩:=a2 u G3 H3 e3 s3 r3;exact i v u H3 G4 ρ4 x y e4 r4 r5 a5
theorem UT{f:M D}{g:M Cy}(ha:PE X e (tD X.K B G0 f))(hr:PA X es (tDs X.K B G0 g))(hs:J8 (e::es) X.env=(Cw,eval e X.env)::J8 es X.env:=by rfl) :
  PA X (e::es) (tDs X.K B G0 (Uw f g)):=paof (KP ha hr hs) λσ H Q q=>tM.twoA q λv u H2 G ρ x y k r1 r2 a=>aft.now a k (.cons r1 r2)
noncomputable def KT(f:M Cy):M D:=UB f λxs=>if xs.length<=1000000 then Us (.tuple xs)else λ_=>.bad
noncomputable def UL(f:M Cy):M D:=UB f λxs=>if xs.length<=1000000 then Us (.list xs)else λ_=>.bad
theorem SR{x1}{f:M Cy}(h:PA X es (tDs X.K B G0 f)):PE X (.Tuple es x1 pos) (tD X.K B G0 (KT f)):=
 UN (Sj h) λσ H Q q=>tM.one (R:=Reps X.K) q λv H2 G ρ x k r a=>by
  split at a
  .rename_i c
   refine⟨by rw[r.length];exact Qn c lim,λp hp=>?_⟩;exact aft.done a k (Ext.new k.gh hp) (.tup (SqT.of U9) (r.mono (KG (k.gh.free hp))))
  .exact a.elim
theorem Xp{f:M Cy}(h:PA X es (tDs X.K B G0 f)):PE X (.List es pos) (tD X.K B G0 (UL f)):=
 UN (Pb h) λσ H Q q=>tM.one (R:=Reps X.K) q λv H2 G ρ x k r a=>by
  split at a
  .rename_i c
   refine⟨by rw[r.length];exact Qn c lim,λp hp=>?_⟩;exact aft.done a k (Ext.new k.gh hp) (.lst (SqL.of U9) (r.mono (KG (k.gh.free hp))))
  .exact a.elim
noncomputable def oIx:D->D->CA
 |.list xs,.int i=>atI xs i
 |.tuple xs,.int i=>atI xs i
 |.str z,.int i=>if z.length<=1000000 then(atI z.cps.toList i).map λc=>.str ⟨#[c]⟩else Cu
 |_,_=>Cu
theorem Reps.atI{K:Frag}{G:Hp}{vs:List V}{ds:Cy}{i:Int}{d:D}(r:Reps K G vs ds)(h:L2.atI ds i=O d):∃v,L2.atI vs i=O v/\Rep K G v d:=by
 unfold L2.atI at h⊢;rw[r.length];cases z:ixN ds.length i with
 |none=>rw[z]at h;cases h
 |some j=>rw[z]at h;exact r.get (i:=j) h
theorem R5{K:Frag}{v u:V}{G H:Hp}{x y d:D}{Q:VK}(s:Same G H)(rx:Rep K G v x)(ry:Rep K G u y)(e:oIx x y=O d)(k:∀w,Rep K G w d->Q w H):rIx K v u H Q:=by
 unfold oIx at e;split at e
 .obtain⟨l,vs,rfl,h1,r1⟩:=rx.lst_inv
  obtain⟨w,e1,r2⟩:=r1.atI e;exact .inl ⟨l,vs,_,w,rfl,ry.int_inv,s.seq h1,e1,k w r2⟩
 .obtain⟨l,vs,rfl,h1,r1⟩:=rx.tup_inv
  obtain⟨w,e1,r2⟩:=r1.atI e;exact .inr (.inl ⟨l,vs,_,w,rfl,ry.int_inv,Zr s h1,e1,k w r2⟩)
 .split at e
  .rename_i z i hz
   cases q:L2.atI z.cps.toList i with
   |none=>rw[q]at e;cases e
   |some ch=>rw[q]at e;cases e;exact .inr (.inr ⟨z,i,ch,rx.str_inv,ry.int_inv,Qn hz lim,q,k _ (.str _)⟩)
  .cases e
 .cases e
theorem Sf{f g:M D}(ha:PE X a (tD X.K B G0 f))(hb:PE X b (tD X.K B G0 g))(hs:Tc b):PE X (.Subscript a b pos) (tD X.K B G0 (Uu oIx f g)):=
 UN (T8 Sn ha hb hs) λσ H Q q=>tM.two q λv u H2 G ρ x y k rx ry a=>by obtain⟨d,e,a⟩:=a.opt;exact R5 k.gh rx ry e λw r=>a.now k r
noncomputable def UM(i:Nat)(g:M D):M D:=λρ=>match ρ[i]? with
 |some (O (.pub d))=>(UB g λy=>Uz (oIx d y)) ρ
 |some (O (.own _))=>(UB g λy=>λρ'=>match ρ'[i]? with|some (O (.own ds))=>Uz (oIx (.list ds) y) ρ'|_=>.bad) ρ
 |_=>.bad
theorem SQ{i:Nat}{g:M D}(ha:PE X a (U1 i))(hb:PE X b (tD X.K B G0 g))(hs:Tc b):PE X (.Subscript a b pos) (tD X.K B G0 (UM i g)):=
 UN (T8 Sn ha hb hs) λσ H Q ⟨G,ρ,k,a⟩=>by
  unfold UM at a;cases q:ρ[i]? with
  |none=>rw[q]at a;exact a.elim
  |some o=>
   cases o with
   |none=>rw[q]at a;exact a.elim
   |some sl=>
    cases sl with
    |deep _ _=>rw[q]at a;exact a.elim
    |pub d=>
     rw[q]at a;obtain⟨v,h1,h2⟩:=k.pub i d q;refine⟨v,h1,G,ρ,k,?_⟩;dsimp only[UB]at a;cases z:g ρ with
     |bad=>rw[z]at a;exact a.elim
     |ok y ρ1=>rw[z]at a;intro u G' H' k' s' r';obtain⟨d',e',a'⟩:=aft.opt a;exact R5 k'.gh (h2.mono s') r' e' λw r=>a' w G' H' k' s' r
    |own ds=>
     rw[q]at a;obtain⟨ad,vs,h1,h2,h3,h4,h5⟩:=k.own i ds q;refine⟨.ref ad,h1,G,ρ,k,?_⟩;dsimp only[UB]at a;cases z:g ρ with
     |bad=>rw[z]at a;exact a.elim
     |ok y ρ1=>
      rw[z]at a;dsimp only at a;intro u G' H' k' s' r';cases z2:ρ1[i]? with
      |none=>rw[z2]at a;exact a.elim
      |some o2=>
       cases o2 with
       |none=>rw[z2]at a;exact a.elim
       |some sl2=>
        cases sl2 with
        |deep _ _=>rw[z2]at a;exact a.elim
        |pub d2=>rw[z2]at a;exact a.elim
        |own es2=>
         rw[z2]at a;obtain⟨d',e',a'⟩:=aft.opt a;obtain⟨ad',vs',g1,g2,g3,g4,g5⟩:=k'.own i es2 z2;rw[h1]at g1;cases g1;unfold oIx at e';cases y with
         |int j=>obtain⟨w,e1,r2⟩:=g5.atI e';exact .inl ⟨ad,vs',j,w,rfl,r'.int_inv,SqL.of g4,e1,a' w G' H' k' s' r2⟩
         |_=>cases e'
noncomputable def cutD(xs:Cy)(lo hi:CH):Cy:=(xs.drop (HT.sIx xs.length 0 lo)).take (HT.sIx xs.length xs.length hi-HT.sIx xs.length 0 lo)
theorem Reps.cut{K:Frag}{G:Hp}{vs:List V}{ds:Cy}(r:Reps K G vs ds)(lo hi:CH):Reps K G (Z1 vs lo hi) (cutD ds lo hi):=by unfold Z1 cutD;rw[r.length];exact(r.drop _).take _
noncomputable def Kq:D->Option CH
 |.int i=>O (O i)
 |_=>Cu
theorem SU:PO X Cu (tOi X.K B G0 (Us Cu)):=poof Fc λσ H Q ⟨G,ρ,k,a⟩=>aft.now a k Ct
theorem SS{f:M D}(h:PE X e (tD X.K B G0 f)):PO X (O e) (tOi X.K B G0 (UB f λx=>Uz (Kq x))):=poof (Fb h) λσ H Q q=>tM.one (R:=Rep X.K) q λv H2 G ρ x k r a=>by
 cases x with
 |int i=>exact⟨i,r.int_inv,aft.now (v:=O i) a k Ct⟩
 |_=>exact a.elim
end
noncomputable def YZ:List (D×D)->Bool
 |(.none,_)::_=>Cv
 |_=>Cw
noncomputable def ZG:D->String
 |.none=> "NoneType"
 |.bool _=> "bool"
 |.int _=> "int"
 |.str _=> "str"
 |.list _=> "list"
 |.tuple _=> "tuple"
 |.dict kvs=>if YZ kvs=Cv then "" else "dict"
noncomputable def UQ(d:D)(c:String):Bool:=ZG d==c || (ZG d == "bool" && c == "int")
noncomputable def Z6:D->Bool
 |.dict kvs=>YZ kvs
 |_=>Cw
theorem Se{ks:List Key}{ds:Cy}:ZG (.dict ((ks.map kD).zip ds)) = "dict" /\ Z6 (.dict ((ks.map kD).zip ds))=Cw:=by
 cases ks with
 |nil=>exact⟨rfl,rfl⟩
 |cons k ks=>
  cases ds with
  |nil=>exact⟨rfl,rfl⟩
  |cons d ds=>cases k<;>exact⟨rfl,rfl⟩
theorem SO(K:Frag)(d:D)(c:String)(nx:Z6 d=Cw)(hc:c = "int" ∨ c = "bool" ∨ c = "str" ∨ c = "list" ∨ c = "tuple" ∨ c = "dict"):PySem.W.kitOne K (.type (ZG d)) (.type c)=O (UQ d c):=by
 cases d with
 |dict kvs=>
  have e:ZG (.dict kvs) = "dict" :=by
   have nx:YZ kvs=Cw:=nx
   show(if YZ kvs=Cv then "" else "dict")=_
   rw[nx];rfl
  unfold UQ;rw[e];rcases hc with rfl|rfl|rfl|rfl|rfl|rfl<;>rfl
 |_=>rcases hc with rfl|rfl|rfl|rfl|rfl|rfl<;>rfl
section
variable{X:Cx}{B G0:Hp}{e a b c:J5}{pos:Pos}{es rest:CC}
def Xx(X:Cx)(f:JX)(p:Cy->CA):Prop:=
 ∃r,Ys X f r/\∀vs G H ds d Q,Same G H->Reps X.K G vs ds->p ds=O d->(∀w G' H',Ext G H G' H'->Rep X.K G' w d->Q w H')->r vs H Q
noncomputable def KI(p:Cy->CA)(f:M Cy):M D:=UB f λxs=>Uz (p xs)
theorem VA{x:Str}{p2:Pos}{id:String}{p:Cy->CA}{f:M Cy}(hc:Xx X (.builtin id) p)(hg:Gl X x)(hm:X.mg x=Cu)(hv:bootBuiltins x=O (.builtin id))(ha:PA X (e::es) (tDs X.K B G0 f))(hn:x ≠ "__name__" :=by decide)(hdb:(x==("__debug__" : Str))=Cw:=by decide)
  (he:J8 (e::es) X.env=(Cw,eval e X.env)::J8 es X.env:=by rfl) (hpl:(backTo pos (J8 es X.env)).any (·.1)=Cw:=by rfl):PE X (.Call (.Name x p2) (e::es) [] pos) (tD X.K B G0 (KI p f)):=by
 obtain⟨r,h,i⟩:=hc;refine UN (WO h hg hm hv ha hn hdb he hpl) λσ H Q q=>tM.one (R:=Reps X.K) q λv H2 G ρ x k rr a=>?_
 obtain⟨d,e,a⟩:=a.opt;exact i v G H2 x d Q k.gh rr e λw G' H' ex rw=>a.done k ex rw
theorem Ri{x:Str}{p2:Pos}{T:String}{p:Cy->CA}{f:M Cy}(hc:Xx X (.type T) p)(hg:Gl X x)(hm:X.mg x=Cu)(hv:bootBuiltins x=O (.type T))(ha:PA X (e::es) (tDs X.K B G0 f))(hn:x ≠ "__name__" :=by decide)(hdb:(x==("__debug__" : Str))=Cw:=by decide)
  (he:J8 (e::es) X.env=(Cw,eval e X.env)::J8 es X.env:=by rfl) (hpl:(backTo pos (J8 es X.env)).any (·.1)=Cw:=by rfl):PE X (.Call (.Name x p2) (e::es) [] pos) (tD X.K B G0 (KI p f)):=by
 obtain⟨r,h,i⟩:=hc;refine UN (Na h hg hm hv ha hn hdb he hpl) λσ H Q q=>tM.one (R:=Reps X.K) q λv H2 G ρ x k rr a=>?_
 obtain⟨d,e,a⟩:=a.opt;exact i v G H2 x d Q k.gh rr e λw G' H' ex rw=>a.done k ex rw
theorem Reps.one_inv{K:Frag}{G:Hp}{vs:List V}{d:D}(r:Reps K G vs [d]):∃v,vs=[v]/\Rep K G v d:=by
 cases r with
 |cons h t=>cases t;exact⟨_,rfl,h⟩
theorem Reps.two_inv{K:Frag}{G:Hp}{vs:List V}{d d':D}(r:Reps K G vs [d,d']):∃v v',vs=[v,v']/\Rep K G v d/\Rep K G v' d':=by
 cases r with
 |cons h t=>obtain⟨v',rfl,r'⟩:=t.one_inv;exact⟨_,v',rfl,h,r'⟩
noncomputable def Kd:Cy->CA
 |[.list xs]=>O (.int xs.length)
 |[.tuple xs]=>O (.int xs.length)
 |[.str z]=>if z.length<=1000000 then O (.int z.length)else Cu
 |_=>Cu
theorem VP:Xx X (.builtin "len") Kd:=by
 refine⟨_,Oo,λvs G H ds d Q s r e k=>?_⟩;unfold Kd at e;split at e
 .cases e
  obtain⟨v,rfl,q⟩:=r.one_inv;obtain⟨l,ws,rfl,h1,r1⟩:=q.lst_inv;exact⟨.ref l,ws.length,rfl,.inl ⟨ws,s.seq h1,rfl⟩,by rw[r1.length];exact k _ G H (.refl s) (.int _)⟩
 .cases e
  obtain⟨v,rfl,q⟩:=r.one_inv;obtain⟨l,ws,rfl,h1,r1⟩:=q.tup_inv;exact⟨.ref l,ws.length,rfl,.inr ⟨ws,Zr s h1,rfl⟩,by rw[r1.length];exact k _ G H (.refl s) (.int _)⟩
 .split at e
  .rename_i z hz
   cases e;obtain⟨v,rfl,q⟩:=r.one_inv;exact⟨.str z,z.length,by rw[q.str_inv],⟨Qn hz lim,rfl⟩,k _ G H (.refl s) (.int _)⟩
  .cases e
 .cases e
noncomputable def WZ:Cy->CA
 |[.int i,.int j]=>O (.int (if j > i then j else i))
 |_=>Cu
theorem Hj(hc:X.calm=Cv):Xx X (.builtin "max") WZ:=by
 refine⟨_,Dx hc,λvs G H ds d Q s r e k=>?_⟩;unfold WZ at e;split at e
 .cases e
  obtain⟨v,v',rfl,r1,r2⟩:=r.two_inv;exact⟨_,_,by rw[r1.int_inv,r2.int_inv],k _ G H (.refl s) (.int _)⟩
 .cases e
noncomputable def Yd:Cy->CA
 |[.int i]=>if i.natAbs.log2<1920 then O (.str (toString i))else Cu
 |_=>Cu
theorem R4:Xx X (.type "str") Yd:=by
 refine⟨_,Ci,λvs G H ds d Q s r e k=>?_⟩;unfold Yd at e;split at e
 .split at e
  .rename_i hz
   cases e;obtain⟨v,rfl,q⟩:=r.one_inv;exact⟨_,by rw[q.int_inv],hz,k _ G H (.refl s) (.str _)⟩
  .cases e
 .cases e
noncomputable def Ku(i:Nat):M D:=λρ=>match ρ[i]? with
 |some (O (.pub d))=>Uz (Kd [d]) ρ
 |some (O (.own ds))=>.ok (.int ds.length) ρ
 |_=>.bad
theorem Om{i:Nat}{p2:Pos}(hg:Gl X "len")(hm:X.mg "len" = Cu)(ha:PE X e (U1 i))(he:J8 [e] X.env=[(Cw,eval e X.env)]:=by rfl):PE X (.Call (.Name "len" p2) [e] [] pos) (tD X.K B G0 (Ku i)):=by
 refine UN (WO Oo hg hm PySem.boot_len (KP ha ZR (by rw[he];rfl)) (by decide) (by decide) (by rw[he];rfl) Ct) λσ H Q ⟨G,ρ,k,a⟩=>?_
 unfold Ku at a;cases q:ρ[i]? with
 |none=>rw[q]at a;exact a.elim
 |some o=>
  cases o with
  |none=>rw[q]at a;exact a.elim
  |some sl=>
   cases sl with
   |deep _ _=>rw[q]at a;exact a.elim
   |pub d=>
    rw[q]at a;obtain⟨v,h1,h2⟩:=k.pub i d q;refine⟨v,h1,?_⟩;obtain⟨d',e',a'⟩:=aft.opt a;obtain⟨r,hr,ir⟩:=@VP X;show ∃x n,[v]=[x]/\LenV X.K x H n/\Q (.int n) H;unfold Kd at e';split at e'
    .rename_i xs he'
     injection he' with B8 he2;subst B8;cases e'
     obtain⟨l,ws,rfl,g1,r1⟩:=h2.lst_inv;exact⟨.ref l,ws.length,rfl,.inl ⟨ws,k.gh.seq g1,rfl⟩,by rw[r1.length];exact a'.now k (.int _)⟩
    .rename_i xs he'
     injection he' with B8 he2;subst B8;cases e'
     obtain⟨l,ws,rfl,g1,r1⟩:=h2.tup_inv;exact⟨.ref l,ws.length,rfl,.inr ⟨ws,Zr k.gh g1,rfl⟩,by rw[r1.length];exact a'.now k (.int _)⟩
    .rename_i z he'
     injection he' with B8 he2;subst B8
     split at e'
     .rename_i hz
      cases e';exact⟨.str z,z.length,by rw[h2.str_inv],⟨Qn hz lim,rfl⟩,a'.now k (.int _)⟩
     .cases e'
    .cases e'
   |own ds=>rw[q]at a;obtain⟨ad,vs,h1,g2,g3,h4,h5⟩:=k.own i ds q;exact⟨.ref ad,h1,.ref ad,vs.length,rfl,.inl ⟨vs,SqL.of h4,rfl⟩,by rw[h5.length];exact aft.now a k (.int _)⟩
theorem Fi{pins:List (J0×Obj)}{s:JY}{σ:St}{G H:Hp}{v:V}{u:JX}{d:D}{cv:JX}{t:Bool}{A:Around}{E:JX->JY->Prop}{Q:JX->JY->Prop}(I:Inv X pins σ H s)(sg:Same G H)(r:Rep X.K G v d)(rv:RelV v u)(nx:Z6 d=Cw)
  (ek:PySem.W.kitOne X.K (.type (ZG d)) cv=O t) (h:∀tk,Q (.bool t) {s with toks:=tk}):J7 (model X.prog X.w) A (call (.builtin "isinstance") [u,cv]) Q E s:=by
 cases r with
 |non=>cases rv;exact Jl PySem.W.kitx_none I.kIn True.intro ek (λz=>nomatch z) h
 |bl y=>cases rv;exact Jl PySem.W.kitx_bool I.kIn True.intro ek (λz=>nomatch z) h
 |int i=>obtain⟨t',rfl⟩:=rv;exact Jl PySem.W.kitx_int I.kIn True.intro ek (λz=>nomatch z) h
 |str y=>obtain⟨t',rfl⟩:=rv;exact Jl PySem.W.kitx_str I.kIn True.intro ek (λz=>nomatch z) h
 |lst hl _=>cases rv;obtain⟨its,r,⟨o,n,e,hc,_,hd⟩,hz⟩:=I.list (sg.seq hl);exact Jl PySem.W.kitx_list I.kIn ⟨o,e,hc⟩ ek (λz=>nomatch z) h
 |tup hl _=>cases rv;obtain⟨its,r,p,hz⟩:=I.tuple (Zr sg hl);obtain⟨o,e,hc,_⟩:=p;exact Jl PySem.W.kitx_tuple I.kIn ⟨o,e,hc⟩ ek (λz=>nomatch z) h
 |@dic ad hd=>
  cases rv;obtain⟨_,_,vs,_,p⟩:=(show KW X.prog X.w H s.heap ad (.dK [])from I.hok ad _ (sg _ _ hd))
  obtain⟨o,es,ep,h1,h2,_⟩:=p;exact Jl JA I.kIn ⟨o,h1,h2.1⟩ ek (λz=>nomatch z) h
 |exc _ _ _ _=>cases nx
 |@dct ad ks vs ds kvs e0 _ _ hd _=>
  cases rv;subst e0;rw[Se.1]at ek;obtain⟨_,_,vs,_,p⟩:=(show KW X.prog X.w H s.heap ad (.dK (ks.zip _))from I.hok ad _ (sg _ _ hd))
  obtain⟨o,es,ep,h1,h2,_⟩:=p;exact Jl JA I.kIn ⟨o,h1,h2.1⟩ ek (λz=>nomatch z) h
 |@dtt ad ob ks vs ds kvs e0 _ hd _=>
  cases rv;subst e0;obtain⟨_,_,_,xs,_,o,es,ep,h1,h2,_⟩:=(show KW X.prog X.w H s.heap ad (.frz ob (.dT (ks.zip _)))from I.hok ad _ (sg _ _ hd))
  exact Jl JA I.kIn ⟨o,h1,h2.1⟩ ek (λz=>nomatch z) h
theorem Fh(c:String)(hc:c = "int" ∨ c = "bool" ∨ c = "str" ∨ c = "list" ∨ c = "tuple" ∨ c = "dict"):typeOf (.type c)=pure (.type "type"):=by rcases hc with rfl|rfl|rfl|rfl|rfl|rfl<;>kernel_rfl
theorem FN:Ys X (.builtin "isinstance") (λxs H Q=>∃v c G d,xs=[v,.ty c]/\Same G H/\Rep X.K G v d/\(c = "int" ∨ c = "bool" ∨ c = "str" ∨ c = "list" ∨ c = "tuple" ∨ c = "dict")/\Q (.bl (UQ d c)) H):=by
 intro pins s σ H xs us Q I r h;obtain⟨v,c,G,d,rfl,sg,rp,hc,q⟩:=h;obtain⟨u,w',rfl,r1,r2⟩:=VM r;cases (show w'=Value.type c from r2);by_cases nx:Z6 d=Cv
 .cases rp with
  |@exc a C dd bm nm vs ds ck hx hd rr=>
   refine SV (Xw I.ok.mod.kin) pins s σ H [.ref a,.ty c] [u,.type c] Q I r ⟨a,C,dd,bm,Cw,.ty c,Cw,rfl,⟨nm,ck⟩,sg _ _ hx,.inr ⟨c,rfl,Fh c hc,?_⟩,?_⟩
   .rw[ck.ty];rcases hc with rfl|rfl|rfl|rfl|rfl|rfl<;>rfl
   .have e:UQ (.dict [(.none,.tuple [.str nm,.list ds])]) c=Cw:=by rcases hc with rfl|rfl|rfl|rfl|rfl|rfl<;>rfl
    rw[e]at q;exact q
  |dct e _ _ _ _=>subst e;rw[Se.2]at nx;cases nx
  |dtt e _ _ _=>subst e;cases nx
  |_=>cases nx
 .have nx:Z6 d=Cw:=by simpa using nx
  exact Fi I sg rp r1 nx (SO X.K d c nx hc) λtk=>⟨.bl _,H,I.tok tk,rfl,q⟩
theorem TX:bootBuiltins "isinstance" = O (.builtin "isinstance"):=by decide +kernel
theorem Vy{f:M D}{p2 p3:Pos}{c:String}(hc:c = "int" ∨ c = "bool" ∨ c = "str" ∨ c = "list" ∨ c = "tuple" ∨ c = "dict")(hg:Gl X "isinstance")(hm:X.mg "isinstance" = Cu)(BI:Gl X (Uk c))(hm2:X.mg (Uk c)=Cu)
  (hv2:bootBuiltins (Uk c)=O (.type c)) (ha:PE X e (tD X.K B G0 f)) (hn2:(Uk c) ≠ "__name__") (hd2:((Uk c)==("__debug__" : Str))=Cw)
  (hs:J8 [e,.Name (Uk c) p3] X.env=(Cw,eval e X.env)::J8 [.Name (Uk c) p3] X.env:=by rfl)
  (hs2:J8 [.Name (Uk c) p3] X.env=[(Cw,eval (.Name (Uk c) p3) X.env)]:=by rfl) :
  PE X (.Call (.Name "isinstance" p2) [e,.Name (Uk c) p3] [] pos) (tD X.K B G0 (UJ (λd=>.bool (UQ d c)) f)):=by
 refine UN (WO FN hg hm TX (KP ha (KP (Td (v:=.ty c) BI hm2 hv2 Ct hn2 hd2) ZR (by rw[hs2];rfl)) hs) (by decide) (by decide) hs (by rw[hs2];rfl)) λσ H Q q=>?_
 refine tM.one (R:=Rep X.K) q λv H2 G ρ x k r a=>?_
 exact⟨v,c,G,x,rfl,k.gh,r,hc,aft.now a k (.bl _)⟩
end
noncomputable def spD(K:Frag)(n:Nat)(F:Cy->CA):Sp:=λvs H Q _=>∃G ds d,vs.length=n/\Same G H/\Reps K G vs ds/\F ds=O d/\∀v G' H',Ext G H G' H'->Rep K G' v d->Q v H'
section
variable{K:Frag}{B G0 G H:Hp}{σ:St}{ρ:Ur}
theorem EOk.exit(k:EOk K B G0 G H σ ρ):Ext G0 B G H:=⟨k.bh,k.g0,k.gh,k.np⟩
theorem Kl{α:Type}{l:List α}{i:Nat}{x y:α}(h:(l.set i x)[i]?=O y):y=x:=by
 by_cases hl:i<l.length
 .rw[Qz hl]at h;cases h;rfl
 .rw[List.getElem?_eq_none (by rw[QJ];lia)]at h;cases h
theorem DpOk.setOther{i:Nat}{x:Option V}{y:Option Sl}(k:DpOk K B G H σ ρ)(hy:∀s,y=O s->∃d,s=.pub d):DpOk K B G H (σ.set i x) (ρ.set i y):=by
 have nz:∀{m:Nat}{s:Sl},(ρ.set i y)[m]?=O (O s)->(∃d,s=.pub d)∨(ρ[m]?=O (O s)/\(σ.set i x)[m]?=σ[m]?):=λ{m s} q=>by
  by_cases z:i=m
  .subst z
   exact .inl (hy s (Kl q).symm)
  .rw[Qe z]at q⊢;exact .inr ⟨q,rfl⟩
 refine k.map (λm p d q=>?_) (λm es q=>?_) λm p d v fp q s r w n=>⟨r,w⟩
 .rcases nz q with ⟨_,e⟩|q
  .cases e
  .exact q
 .rcases nz q with ⟨_,e⟩|q
  .cases e
  .exact⟨es,q⟩
theorem EOk.setPub{i:Nat}{v:V}{d:D}(k:EOk K B G0 G H σ ρ)(r:Rep K G v d)(hi:i<ρ.length):EOk K B G0 G H (σ.set i (O v)) (ρ.set i (O (.pub d))) where
 bh:=k.bh
 gh:=k.gh
 g0:=k.g0
 np:=k.np
 len:=by rw[QJ,QJ];exact k.len
 pub:=λj d' q=>by
  by_cases z:i=j
  .subst z
   have:=Kl q;cases this;exact⟨v,Qz (by rw[←k.len];exact hi),r⟩
  .rw[Qe z]at q⊢
   exact k.pub j d' q
 own:=λj ds q=>by
  by_cases z:i=j
  .subst z
   have:=Kl q;cases this
  .rw[Qe z]at q⊢
   exact k.own j ds q
 sep:=λj l c es fs q1 q2 s1 s2=>by
  have z1:i≠j:=λz=>by subst z;have:=Kl q1;cases this
  have z2:i≠l:=λz=>by subst z;have:=Kl q2;cases this
  rw[Qe z1]at q1 s1;rw[Qe z2]at q2 s2;exact k.sep j l c es fs q1 q2 s1 s2
 dp:=k.dp.setOther (λs e=>by cases e;exact⟨_,rfl⟩)
structure NewL(K:Frag)(B G H:Hp)(σ:St)(ρ:Ur)(a:J0)(vs:List V)(ds:Cy):Prop where
 b:B a=Cu
 g:G a=Cu
 h:H a=O (.lst vs)
 r:Reps K G vs ds
 f:∀(j:Nat) es,ρ[j]?=O (O (.own es))->σ[j]?≠O (O (.ref a))
 dp:∀(j:Nat) p d v fp,ρ[j]?=O (O (.deep p d))->σ[j]?=O (O v)->RepO K G H p v d fp->a∉fp
theorem EOk.freshD{H':Hp}{a:J0}(k:EOk K B G0 G H σ ρ)(e:Same H H')(ha:H a=Cu){G':Hp}{j:Nat}{p:Pat}{d:D}{v:V}{fp:CF}(q:ρ[j]?=O (O (.deep p d)))(s:σ[j]?=O (O v))(r:RepO K G' H' p v d fp):a∉fp:=λm=>by obtain⟨ω,k1,k2⟩:=k.dp;obtain⟨v',fp',s',r',n,w⟩:=k1 j p d q;rw[s]at s';cases s';have u:=r'.uniq e r;subst u;obtain⟨ws,hl⟩:=r'.isl a m;rw[ha]at hl;cases hl
theorem EOk.setOwn{i:Nat}{a:J0}{vs:List V}{ds:Cy}(k:EOk K B G0 G H σ ρ)(n:NewL K B G H σ ρ a vs ds)(hi:i<ρ.length):EOk K B G0 G H (σ.set i (O (.ref a))) (ρ.set i (O (.own ds))) where
 bh:=k.bh
 gh:=k.gh
 g0:=k.g0
 np:=k.np
 len:=by rw[QJ,QJ];exact k.len
 pub:=λj d' q=>by
  by_cases z:i=j
  .subst z
   have:=Kl q;cases this
  .rw[Qe z]at q⊢
   exact k.pub j d' q
 own:=λj es q=>by
  by_cases z:i=j
  .subst z
   have:=Kl q;cases this;exact⟨a,vs,Qz (by rw[←k.len];exact hi),n.b,n.g,n.h,n.r⟩
  .rw[Qe z]at q⊢
   exact k.own j es q
 sep:=λj l c es fs q1 q2 s1 s2=>by
  have hs:i<σ.length:=by rw[←k.len];exact hi
  by_cases z1:i=j
  .subst z1
   rw[Qz hs]at s1;cases s1;by_cases z2:i=l
   .exact z2
   .rw[Qe z2]at q2 s2
    exact absurd s2 (n.f l fs q2)
  .by_cases z2:i=l
   .subst z2
    rw[Qz hs]at s2;cases s2;rw[Qe z1]at q1 s1;exact absurd s1 (n.f j es q1)
   .rw[Qe z1]at q1 s1
    rw[Qe z2]at q2 s2;exact k.sep j l c es fs q1 q2 s1 s2
 dp:=by
  obtain⟨ω,k1,k2⟩:=k.dp;have hs:i<σ.length:=by rw[←k.len];exact hi
  refine⟨λb=>if b=a then i else ω b,λj p d q=>?_,λj es b q s=>?_⟩
  .by_cases z:i=j
   .subst z;have:=Kl q;cases this
   .rw[Qe z]at q⊢
    obtain⟨v,fp,s,r,nn,w⟩:=k1 j p d q;refine⟨v,fp,s,r,nn,λb m=>⟨(w b m).1,(w b m).2.1,?_⟩⟩;dsimp only;rw[Qv (λz=>n.dp j p d v fp q s r (by rw[←z];exact m))];exact(w b m).2.2
  .by_cases z:i=j
   .subst z
    rw[Qz hs]at s;cases s;dsimp only;rw[Qo Ct]
   .rw[Qe z]at q s
    dsimp only;rw[Qv (λe=>n.f j es q (by rw[←e];exact s))];exact k2 j es b q s
theorem EOk.change{i:Nat}{a:J0}{vs:List V}{ds es:Cy}(k:EOk K B G0 G H σ ρ)(q:ρ[i]?=O (O (.own ds)))(ha:σ[i]?=O (O (.ref a)))(r:Reps K G vs es) :
  EOk K B G0 G (upd H a (.lst vs)) σ (ρ.set i (O (.own es))):=by
 obtain⟨a',ws,h1,h2,h3,h4,h5⟩:=k.own i ds q;rw[ha]at h1;cases h1;have hi:i<ρ.length:=(Qm.mp q).1;refine⟨λb o e=>?_,λb o e=>?_,k.g0,k.np,by rw[QJ];exact k.len,λj d' e=>?_,λj fs e=>?_,λj l c fs gs q1 q2 s1 s2=>?_,?_⟩
 .rw[UR (Zn e h2)];exact k.bh b o e
 .rw[UR (Zn e h3)];exact k.gh b o e
 .by_cases z:i=j
  .subst z
   have:=Kl e;cases this
  .rw[Qe z]at e
   exact k.pub j d' e
 .by_cases z:i=j
  .subst z
   have:=Kl e;cases this;exact⟨a,vs,ha,h2,h3,U9,r⟩
  .rw[Qe z]at e
   obtain⟨c,us,g1,g2,g3,g4,g5⟩:=k.own j fs e;have zc:c≠a:=λw=>z (k.sep i j a ds fs q e ha (by rw[←w];exact g1))
   exact⟨c,us,g1,g2,g3,by rw[UR zc];exact g4,g5⟩
 .have f:∀{m:Nat}{ts:Cy},(ρ.set i (O (Sl.own es)))[m]?=O (O (.own ts))->∃ts',ρ[m]?=O (O (.own ts')):=λ{m ts} e=>by
   by_cases z:i=m
   .subst z;exact⟨ds,q⟩
   .rw[Qe z]at e;exact⟨ts,e⟩
  obtain⟨f1,w1⟩:=f q1;obtain⟨f2,w2⟩:=f q2;exact k.sep j l c f1 f2 w1 w2 s1 s2
 .refine k.dp.map (λj p d e=>?_) (λj fs e=>?_) λj p d v fp qj s rj w n=>⟨rj.upd (λ_ z=>by rw[h4]at z;cases z) (n i ds a q ha),w⟩
  .by_cases z:i=j
   .subst z;have:=Kl e;cases this
   .rw[Qe z]at e;exact⟨e,rfl⟩
  .by_cases z:i=j
   .subst z;exact⟨ds,q,rfl⟩
   .rw[Qe z]at e;exact⟨fs,e,rfl⟩
end
inductive Out where
 |nx (ρ:Ur)|rt (d:D)|bk (ρ:Ur)|ct (ρ:Ur)|ex (ρ:Ur) (d:D)|ro (ds:Cy)|bad
abbrev SM:=Ur->Out
section
variable(K:Frag)(B G0:Hp)(KX:XW)
def aftS(o:Out)(G1:Hp)(Dn:Ends):Prop:=
 match o with
 |.nx ρ=>∀σ G H,EOk K B G0 G H σ ρ->Same G1 G->Dn.nx σ H
 |.bk ρ=>∀σ G H,EOk K B G0 G H σ ρ->Same G1 G->Dn.bk σ H
 |.ct ρ=>∀σ G H,EOk K B G0 G H σ ρ->Same G1 G->Dn.ct σ H
 |.rt d=>∀v G H,Ext G0 B G H->Rep K G v d->Dn.rt v H
 |.ro ds=>∀a vs G H,Ext G0 B G H->B a=Cu->G a=Cu->H a=O (.lst vs)->Reps K G vs ds->Dn.rt (.ref a) H
 |.ex ρ d=>∀v σ G H,EOk K B G0 G H σ ρ->Same G1 G->Rep K G v d->KX v σ H
 |.bad=>False
noncomputable def tS(g:SM):TS:=λDn σ H=>∃G ρ,EOk K B G0 G H σ ρ/\aftS K B G0 KX (g ρ) G Dn
noncomputable def sB{α:Type}(f:M α)(g:α->SM):SM:=λρ=>match f ρ with | .ok a ρ'=>g a ρ' | .bad=>.bad
end
section
variable{X:Cx}{B G0:Hp}{KX:XW}{e a b c:J5}{pos:Pos}{es rest:CC}{st:Stmt}{sts sts2:List Stmt}
theorem aftS.mono{K:Frag}{o:Out}{G G':Hp}{Dn:Ends}(e:Same G G')(h:aftS K B G0 KX o G Dn):aftS K B G0 KX o G' Dn:=by
 cases o with
 |nx ρ=>exact λσ G2 H2 k s=>h σ G2 H2 k (e.trans s)
 |bk ρ=>exact λσ G2 H2 k s=>h σ G2 H2 k (e.trans s)
 |ct ρ=>exact λσ G2 H2 k s=>h σ G2 H2 k (e.trans s)
 |rt d=>exact h
 |ro ds=>exact h
 |ex ρ d=>exact λv σ G2 H2 k s r=>h v σ G2 H2 k (e.trans s) r
 |bad=>exact h
theorem tS.bnd{K:Frag}{α γ:Type}{R:Hp->γ->α->Prop}{f:M α}{g:α->SM}{Dn:Ends}{σ:St}{H:Hp}{P:γ->Hp->Prop}(q:tS K B G0 KX (sB f g) Dn σ H)
  (i:∀v H' G' ρ' x,EOk K B G0 G' H' σ ρ'->R G' v x->aftS K B G0 KX (g x ρ') G' Dn->P v H'):tM K B G0 R f σ H P:=by
 obtain⟨G,ρ,k,a⟩:=q;refine⟨G,ρ,k,?_⟩;unfold sB at a;cases z:f ρ with
 |bad=>rw[z]at a;exact a.elim
 |ok d ρ1=>rw[z]at a;exact λv G' H' e s r=>i v H' G' ρ1 d e r (aftS.mono s a)
noncomputable def sNx:SM:=λρ=>.nx ρ
noncomputable def Uv(g h:SM):SM:=λρ=>match g ρ with | .nx ρ'=>h ρ'|o=>o
theorem Yy:PSs X [] (tS X.K B G0 KX sNx):=Xv GC λD σ H ⟨G,ρ,k,a⟩=>a σ G H k (.refl _)
theorem K2{g h:SM}(h1:PS X st (tS X.K B G0 KX g))(h2:PSs X sts (tS X.K B G0 KX h)):PSs X (st::sts) (tS X.K B G0 KX (Uv g h)):=Xv (Vm h1 h2) λD σ H ⟨G,ρ,k,a⟩=>by
 refine⟨G,ρ,k,?_⟩;unfold Uv at a;cases z:g ρ with
 |nx ρ1=>rw[z]at a;exact λσ' G' H' k' s'=>⟨G',ρ1,k',aftS.mono s' a⟩
 |rt d=>rw[z]at a;exact a
 |ro ds=>rw[z]at a;exact a
 |bk ρ1=>rw[z]at a;exact a
 |ct ρ1=>rw[z]at a;exact a
 |ex ρ1 d=>rw[z]at a;exact a
 |bad=>rw[z]at a;exact a.elim
theorem ZQ{g:SM}(h1:PS X st (tS X.K B G0 KX g)):PSs X [st] (tS X.K B G0 KX g):=WR h1
noncomputable def XG:SM:=λ_=>.bad
theorem TD:PS X st (tS X.K B G0 KX XG):=λ_ _ _ _ _ _ ⟨_,_,_,a⟩=>a.elim
noncomputable def UE(f:M D):SM:=sB f λd _=>.rt d
theorem Xl{f:M D}(h:PE X e (tD X.K B G0 f)):PS X (.Return (O e) pos) (tS X.K B G0 KX (UE f)):=Ko (Vf h) λD σ H q=>tS.bnd (R:=Rep X.K) q λv H' G' ρ' x k r a=>a v G' H' k.exit r
noncomputable def sIf(f:M Bool)(g h:SM):SM:=sB f λt=>if t=Cv then g else h
theorem Yr{f:M Bool}{g h:SM}(hc:PT X c (tBo X.K B G0 f))(ha:PSs X sts (tS X.K B G0 KX g))(hb:PSs X sts2 (tS X.K B G0 KX h)):PS X (.If c sts sts2 pos) (tS X.K B G0 KX (sIf f g h)):=
 Ko (RJ hc ha hb) λD σ H q=>tS.bnd (R:=λ_ b c=>b=c) q λv H' G' ρ' x k r a=>by
  have r:v=x:=r;subst r;cases v with
  |true=>exact⟨G',ρ',k,a⟩
  |false=>exact⟨G',ρ',k,a⟩
noncomputable def tG(K:Frag)(B G0:Hp)(s:D->Ur->CI):TG:=λv σ H Q=>∃G ρ d ρ',EOk K B G0 G H σ ρ/\Rep K G v d/\s d ρ=O ρ'/\∀σ' G' H',EOk K B G0 G' H' σ' ρ'->Same G G'->Q σ' H'
noncomputable def tGs(K:Frag)(B G0:Hp)(s:Cy->Ur->CI):TGs:=λv σ H Q=>∃G ρ d ρ',EOk K B G0 G H σ ρ/\Reps K G v d/\s d ρ=O ρ'/\∀σ' G' H',EOk K B G0 G' H' σ' ρ'->Same G G'->Q σ' H'
theorem XZ{t t':TG}(h:PG X e t)(i:∀v σ H Q,t' v σ H Q->t v σ H Q):PG X e t':=λpins s σ H v u Q I r q=>h pins s σ H v u Q I r (i v σ H Q q)
theorem Rs{t t':TGs}(h:PGs X es t)(i:∀v σ H Q,t' v σ H Q->t v σ H Q):PGs X es t':=λpins s σ H v u Q I r q=>h pins s σ H v u Q I r (i v σ H Q q)
noncomputable def gN(i:Nat):D->Ur->CI:=λd ρ=>if i<ρ.length then O (ρ.set i (O (.pub d)))else Cu
theorem Xo{i:Nat}(h:PG X e (Wu i)):PG X e (tG X.K B G0 (gN i)):=XZ h λv σ H Q ⟨G,ρ,d,ρ',k,r,e,q⟩=>by
 unfold gN at e;split at e
 .rename_i hi
  cases e;exact q _ G H (k.setPub r hi) (.refl _)
 .cases e
noncomputable def gN0:Cy->Ur->CI:=λd ρ=>match d with | []=>O ρ|_=>Cu
noncomputable def gNC(s:D->Ur->CI)(t:Cy->Ur->CI):Cy->Ur->CI:=λds ρ=>match ds with|d::r=>(s d ρ).bind (t r) | []=>Cu
theorem Sd:PGs X [] (tGs X.K B G0 gN0):=Rs P5 λv σ H Q ⟨G,ρ,d,ρ',k,r,e,q⟩=>by
 cases r with
 |nil=>cases e;exact⟨rfl,q σ G H k (.refl _)⟩
 |cons _ _=>cases e
theorem Vl{s:D->Ur->CI}{t:Cy->Ur->CI}(h1:PG X e (tG X.K B G0 s))(h2:PGs X es (tGs X.K B G0 t))
  (hs:(Uo (e::es) X.env).map (·.2)=assign e X.env::(Uo es X.env).map (·.2):=by rfl):PGs X (e::es) (tGs X.K B G0 (gNC s t)):=Rs (TF h1 h2 hs) λv σ H Q ⟨G,ρ,d,ρ',k,r,e,q⟩=>by
 cases r with
 |nil=>cases e
 |@cons w dw ws dws rw rt=>
  unfold gNC at e;dsimp only at e;cases z:s dw ρ with
  |none=>rw[z]at e;cases e
  |some ρ1=>rw[z]at e;refine⟨w,ws,rfl,G,ρ,dw,ρ1,k,rw,z,λσ' G' H' k' s'=>?_⟩;exact⟨G',ρ1,dws,ρ',k',rt.mono s',e,λσ2 G2 H2 k2 s2=>q σ2 G2 H2 k2 (s'.trans s2)⟩
noncomputable def gT(n:Nat)(t:Cy->Ur->CI):D->Ur->CI:=λd ρ=>match d with | .tuple ds=>if ds.length=n then t ds ρ else Cu|_=>Cu
theorem Sc{k1:Nat}{t:Cy->Ur->CI}{n:Nat}(hc:X.calm=Cv)(h:PGs X es (tGs X.K B G0 t))
  (hn:(Uo es X.env).length=n:=by rfl) (hst:(Uo es X.env).findIdx? (·.1)=Cu:=by rfl):PG X (.Tuple es k1 pos) (tG X.K B G0 (gT n t)):=XZ (Hh hc h hn hst) λv σ H Q ⟨G,ρ,d,ρ',k,r,e,q⟩=>by
 unfold gT at e;split at e
 .split at e
  .rename_i hl
   obtain⟨ad,vs,rfl,h1,r1⟩:=r.tup_inv;exact⟨ad,vs,rfl,Zr k.gh h1,by rw[r1.length];exact hl,G,ρ,_,ρ',k,r1,e,q⟩
  .cases e
 .cases e
noncomputable def Zi(f:M D)(s:D->Ur->CI):SM:=sB f λd ρ=>match s d ρ with|some ρ'=>.nx ρ'|none=>.bad
theorem M0{tg:J5}{f:M D}{s:D->Ur->CI}(he:PE X e (tD X.K B G0 f))(hg:PG X tg (tG X.K B G0 s))(hs:swapsWithSole [tg] e pos.line X.env=pure Cw:=by rfl)(hw:swappedStores [tg] e X.env=pure Cu:=by rfl)
  (h1:(Uo [tg] X.env).map (·.2)=[assign tg X.env]:=by rfl):PS X (.Assign [tg] e pos) (tS X.K B G0 KX (Zi f s)):=
 Ko (Pd he hg hs hw h1) λD σ H q=>tS.bnd (R:=Rep X.K) q λv H' G' ρ' x k r a=>by
  cases z:s x ρ' with
  |none=>rw[z]at a;exact a.elim
  |some ρ2=>rw[z]at a;exact⟨G',ρ',x,ρ2,k,r,z,λσ2 G2 H2 k2 s2=>a σ2 G2 H2 k2 s2⟩
noncomputable def UF(i:Nat)(f:M D):SM:=Zi f (gN i)
theorem WH{i:Nat}{x:Str}{f:M D}{p2:Pos}(hN:X.N.Nodup)(hi:X.N[i]?=O x)(hx:Loc X.env.scope x)(he:PE X e (tD X.K B G0 f))(hs:swapsWith e (O (.Name x p2)) pos.line X.env=pure Cw:=by rfl)
  (hf:X.fn x=Cv∨X.env.scope.names.lookup x=O .local:=by first|exact .inl rfl|exact .inr rfl|assumption):PS X (.Assign [.Name x p2] e pos) (tS X.K B G0 KX (UF i f)):=
 Ko (VX hN hi hx he hs hf) λD σ H q=>tS.bnd (R:=Rep X.K) q λv H' G' ρ' x k r a=>by
  unfold gN at a;split at a
  .rename_i ρ2 hz
   split at hz
   .rename_i hi2
    cases hz;exact a _ G' H' (k.setPub r hi2) (.refl _)
   .cases hz
  .exact a.elim
noncomputable def tL(K:Frag)(B G0:Hp)(f:M Cy):TE:=λσ H Q=>∃G ρ,EOk K B G0 G H σ ρ/\match f ρ with
 |.ok ds ρ'=>∀a vs G' H',EOk K B G0 G' H' σ ρ'->Same G G'->NewL K B G' H' σ ρ' a vs ds->Q (.ref a) H'
 |.bad=>False
noncomputable def KH(i:Nat)(f:M Cy):SM:=sB f λds ρ=>if i<ρ.length then .nx (ρ.set i (O (.own ds)))else .bad
theorem SN{i:Nat}{x:Str}{f:M Cy}{p2:Pos}(hN:X.N.Nodup)(hi:X.N[i]?=O x)(hx:Loc X.env.scope x)(he:PE X e (tL X.K B G0 f))(hs:swapsWith e (O (.Name x p2)) pos.line X.env=pure Cw:=by rfl)
  (hf:X.fn x=Cv∨X.env.scope.names.lookup x=O .local:=by first|exact .inl rfl|exact .inr rfl|assumption):PS X (.Assign [.Name x p2] e pos) (tS X.K B G0 KX (KH i f)):=
 Ko (VX hN hi hx he hs hf) λD σ H ⟨G,ρ,k,a⟩=>by
  refine⟨G,ρ,k,?_⟩;unfold KH sB at a;cases z:f ρ with
  |bad=>rw[z]at a;exact a.elim
  |ok ds ρ1=>
   rw[z]at a;intro ad vs G' H' k' s' n;dsimp only at a;split at a
   .rename_i hl
    exact a _ G' H' (k'.setOwn n hl) s'
   .exact a.elim
theorem NewL.of{K:Frag}{G H:Hp}{σ:St}{ρ:Ur}{p:J0}{vs:List V}{ds:Cy}(k:EOk K B G0 G H σ ρ)(hp:H p=Cu)(r:Reps K G vs ds):NewL K B G (upd H p (.lst vs)) σ ρ p vs ds where
 b:=k.bh.free hp
 g:=k.gh.free hp
 h:=U9
 r:=r
 f:=λj es q z=>by obtain⟨a,ws,h1,h2,h3,h4,h5⟩:=k.own j es q;rw[z]at h1;cases h1;rw[hp]at h4;cases h4
 dp:=λj pt d v fp q s rr=>k.freshD (KG hp) hp q s rr
theorem Tn{f:M Cy}(h:PA X es (tDs X.K B G0 f)):PE X (.List es pos) (tL X.K B G0 (UB f λxs=>if xs.length<=1000000 then Us xs else λ_=>.bad)):=
 UN (Pb h) λσ H Q ⟨G,ρ,k,a⟩=>by
  refine⟨G,ρ,k,?_⟩;unfold UB at a;cases z:f ρ with
  |bad=>rw[z]at a;exact a.elim
  |ok ds ρ1=>
   rw[z]at a;dsimp only at a;intro v G' H' k' s' r;by_cases c:ds.length<=1000000
   .rw[Qo c]at a
    refine⟨by rw[r.length];exact Qn c lim,λp hp=>?_⟩;exact a p v G' _ (k'.ext (Ext.hid k'.gh hp)) s' (NewL.of k' hp r)
   .rw[Qv c]at a;exact a.elim
noncomputable def KR(i:Nat)(f:M D):SM:=λρ0=>match ρ0[i]? with
 |some (O (.own _))=>sB f (λd ρ=>match ρ[i]? with
  |some (O (.own ds))=>if ds.length<1000000 then .nx (ρ.set i (O (.own (ds++[d]))))else .bad
  |_=>.bad) ρ0
 |_=>.bad
theorem MZ{i:Nat}{f:M D}{o:J5}{apos cpos:Pos}(ho:PE X o (U1 i))(he:PE X e (tD X.K B G0 f))
  (hbase:attributeBase o "append" X.env (eval o X.env)=eval o X.env:=by rfl)
  (hfew:((backTo cpos (J8 [e] X.env)).all (λx=>!x.1)&&(backToKw cpos (keywordEach [] X.env)).all (λx=>x.1.isSome)
   && decide ([e].length+([]:List Keyword).length+(if([]:List Keyword).isEmpty then 0 else 1)<30))=Cv:=by rfl)
  (hline:(apos.endLine==cpos.line)=Cv:=by rfl) (hs:J8 [e] X.env=[(Cw,eval e X.env)]:=by rfl)
  (hsw:swapsWith (.Call (.Attribute o "append" apos) [e] [] cpos) Cu pos.line X.env=pure Cw:=by rfl) :
  PS X (.Expr (.Call (.Attribute o "append" apos) [e] [] cpos) pos) (tS X.K B G0 KX (KR i f)):=
 Ko (WQ (Wr JF PySem.F.slot_list_append PySem.F.type_list_append TK ho (KP he ZR (by rw[hs];rfl)) hbase hfew hline (by rw[hs];rfl) Ct) hsw) λD σ H ⟨G,ρ,k,a⟩=>by
  unfold KR at a;cases q0:ρ[i]? with
  |none=>rw[q0]at a;exact a.elim
  |some o0=>
   cases o0 with
   |none=>rw[q0]at a;exact a.elim
   |some sl0=>
    cases sl0 with
    |deep _ _=>rw[q0]at a;exact a.elim
    |pub d=>rw[q0]at a;exact a.elim
    |own ds0=>
     rw[q0]at a;obtain⟨ad,vs0,h1,h2,h3,h4,h5⟩:=k.own i ds0 q0;refine⟨.ref ad,h1,.inl ⟨rfl,_,SqL.of h4⟩,G,ρ,k,?_⟩;unfold sB at a;cases z:f ρ with
     |bad=>rw[z]at a;exact a.elim
     |ok d ρ1=>
      rw[z]at a;dsimp only at a;intro v G' H' k' s' r';cases q:ρ1[i]? with
      |none=>rw[q]at a;exact a.elim
      |some o=>
       cases o with
       |none=>rw[q]at a;exact a.elim
       |some sl=>
        cases sl with
        |deep _ _=>rw[q]at a;exact a.elim
        |pub d=>rw[q]at a;exact a.elim
        |own ds=>
         rw[q]at a;dsimp only at a;split at a
         .rename_i hl
          obtain⟨ad',vs,g1,g2,g3,g4,g5⟩:=k'.own i ds q;rw[h1]at g1;cases g1;refine⟨ad,vs,v,rfl,rfl,g4,by rw[g5.length];exact Qy hl lim,?_⟩;exact a σ G' _ (k'.change q h1 (g5.append (.cons r' .nil))) s'
         .exact a.elim
end
structure Yx(K:Frag)(J:It)(ds:Cy)(G1:Hp):Prop where
 go:∀i G H,Same G1 G->Same G H->i<ds.length->J.go i H
 stop:∀i G H,Same G1 G->Same G H->ds.length<=i->J.stop i H
 yld:∀i G H x H' d,Same G1 G->Same G H->ds[i]?=O d->J.yld i H x H'->∃G',Ext G H G' H'/\Rep K G' x d
noncomputable def iD(K:Frag)(B G0:Hp)(f:M Cy):TI:=λσ H R=>∃G ρ,EOk K B G0 G H σ ρ/\match f ρ with
 |.ok ds ρ'=>∀J G' H',EOk K B G0 G' H' σ ρ'->Same G G'->Yx K J ds G'->R J H'
 |.bad=>False
section
variable{X:Cx}{B G0:Hp}{KX:XW}{e a b c tg:J5}{pos:Pos}{es rest:CC}{st:Stmt}{sts sts2:List Stmt}
theorem YL{t t':TI}(h:PI X tg e t)(i:∀σ H R,t' σ H R->t σ H R):PI X tg e t':=λpins s σ H R I q=>h pins s σ H R I (i σ H R q)
theorem tM.toI{K:Frag}{α γ:Type}{R0:Hp->γ->α->Prop}{f:M α}{g:α->M Cy}{σ:St}{H:Hp}{R:It->Hp->Prop}{P:γ->Hp->Prop}(q:iD K B G0 (UB f g) σ H R)
  (i:∀v H' G' ρ' x,EOk K B G0 G' H' σ ρ'->R0 G' v x->(match g x ρ' with
   |.ok ds ρ2=>∀J G2 H2,EOk K B G0 G2 H2 σ ρ2->Same G' G2->Yx K J ds G2->R J H2
   |.bad=>False)->P v H'):tM K B G0 R0 f σ H P:=by
 obtain⟨G,ρ,k,a⟩:=q;refine⟨G,ρ,k,?_⟩;unfold UB at a;cases z:f ρ with
 |bad=>rw[z]at a;exact a.elim
 |ok d ρ1=>
  rw[z]at a;intro v G' H' e s r;refine i v H' G' ρ1 d e r ?_;dsimp only at a;cases z2:g d ρ1 with
  |bad=>rw[z2]at a;exact a.elim
  |ok ds ρ2=>rw[z2]at a;exact λJ G2 H2 k2 s2 it=>a J G2 H2 k2 (s.trans s2) it
theorem Dj{K:Frag}{G1:Hp}{ad:J0}{vs:List V}{ds:Cy}(h:SqL K G1 ad vs)(r:Reps K G1 vs ds):Yx K (Itl K ad) ds G1 where
 go:=λi G H s1 s2 hi=>by
  have hi':i<vs.length:=by rw[r.length];exact hi
  exact⟨vs,vs[i],(s1.trans s2).seq h,Qi hi'⟩
 stop:=λi G H s1 s2 hi=>⟨vs,(s1.trans s2).seq h,by rw[r.length];exact hi⟩
 yld:=λi G H x H' d s1 s2 e y=>by obtain⟨rfl,y⟩:=y;obtain⟨v,e1,r1⟩:=r.get e;have:=y vs ((s1.trans s2).seq h);rw[e1]at this;cases this;exact⟨G,.refl s2,r1.mono s1⟩
noncomputable def Zp(lo hi:Int):Cy:=(Ua (hi-lo).toNat).map λ(k:Nat)=>.int (lo+k)
theorem TU(lo hi:Int):(Zp lo hi).length=(hi-lo).toNat:=by unfold Zp;rw[Qg,List.length_range]
theorem Ca{K:Frag}{G1:Hp}(lo hi:Int):Yx K (Itr lo (hi-lo).toNat) (Zp lo hi) G1 where
 go:=λi G H s1 s2 h=>by rw[TU]at h;exact h
 stop:=λi G H s1 s2 h=>by rw[TU]at h;exact h
 yld:=λi G H x H' d s1 s2 e y=>by
  obtain⟨rfl,rfl⟩:=y;unfold Zp at e;rw[Qx]at e;have hi:i<(Ua (hi-lo).toNat).length:=by refine Nat.lt_of_not_le λz=>?_;rw[List.getElem?_eq_none z]at e;cases e
  rw[Qi hi,List.getElem_range]at e;cases e;exact⟨G,.refl s2,.int _⟩
noncomputable def Wq:Cy->Option Cy
 |[.int j]=>if j<=1000000 /\ -1000000<=j then O (Zp 0 j)else Cu
 |_=>Cu
noncomputable def Xf(f:M Cy):M Cy:=UB f λx=>Uz (Wq x)
theorem EU{f:M Cy}{p2:Pos}(hg:Gl X "range")(hm:X.mg "range" = Cu)(ha:PA X [a] (tDs X.K B G0 f))(hs:J8 [a] X.env=[(Cw,eval a X.env)]:=by rfl) :
  PI X tg (.Call (.Name "range" p2) [a] [] pos) (iD X.K B G0 (Xf f)):=YL (DB hg hm ha hs) λσ H R q=>tM.toI (R0:=Reps X.K) q λv H' G' ρ' x k r a=>by
 cases z:Wq x with
 |none=>rw[z]at a;exact a.elim
 |some ds=>
  rw[z]at a;unfold Wq at z;split at z
  .split at z
   .rename_i j c
    cases z;obtain⟨w,rfl,r'⟩:=r.one_inv;refine⟨j,by rw[r'.int_inv],by lia,by lia,?_⟩;have it:=Ca (K:=X.K) (G1:=G') 0 j;rw[Int.sub_zero]at it;exact a _ G' H' k (.refl _) it
   .cases z
  .cases z
noncomputable def ZB(n:Nat):Cy->Cy
 |[]=>[]
 |d::r=>.tuple [.int n,d]::ZB (n+1) r
theorem Vv:∀(n:Nat)(ds:Cy),(ZB n ds).length=ds.length
 |_,[]=>rfl
 |n,d::r=>by rw[ZB,QF,QF,Vv]
theorem OI:∀(n:Nat)(ds:Cy)(i:Nat),(ZB n ds)[i]?=ds[i]?.map λd=>.tuple [.int ((n+i:Nat):Int),d]
 |_,[],i=>by simp[ZB]
 |n,d::r,0=>by simp[ZB]
 |n,d::r,i+1=>by
  rw[ZB,List.getElem?_cons_succ,List.getElem?_cons_succ,OI (n+1) r i];have:n+1+i=n+(i+1):=by lia
  rw[this]
theorem Di{K:Frag}{G1:Hp}{ad:J0}{vs:List V}{ds:Cy}(h:SqL K G1 ad vs)(r:Reps K G1 vs ds):Yx K (Ite K ad) (ZB 0 ds) G1 where
 go:=λi G H s1 s2 hi=>by
  rw[Vv]at hi;have hi':i<vs.length:=by rw[r.length];exact hi
  exact⟨vs,vs[i],(s1.trans s2).seq h,Qi hi'⟩
 stop:=λi G H s1 s2 hi=>by rw[Vv]at hi;exact⟨vs,(s1.trans s2).seq h,by rw[r.length];exact hi⟩
 yld:=λi G H x H' d s1 s2 e y=>by
  obtain⟨p,v,hp,rfl,y,rfl⟩:=y;rw[OI]at e;cases z:ds[i]? with
  |none=>rw[z]at e;cases e
  |some d0=>rw[z]at e;cases e;obtain⟨w,e1,r1⟩:=r.get z;have:=y vs ((s1.trans s2).seq h);rw[e1]at this;cases this;refine⟨upd G p (.tup [.int i,v]),Ext.new s2 hp,.tup (SqT.of U9) (.cons ?_ (.cons ((r1.mono s1).mono (KG (s2.free hp))) .nil))⟩;rw[JI];exact .int _
noncomputable def Wp:Cy->Option Cy
 |[.list ds]=>O (ZB 0 ds)
 |_=>Cu
noncomputable def Xe(f:M Cy):M Cy:=UB f λx=>Uz (Wp x)
theorem SL{f:M Cy}{p2:Pos}{elts:CC}{x1}{tp:Pos}(hg:Gl X "enumerate")(hm:X.mg "enumerate" = Cu)(ha:PA X [a] (tDs X.K B G0 f))(hs:J8 [a] X.env=[(Cw,eval a X.env)]:=by rfl) :
  PI X (.Tuple elts x1 tp) (.Call (.Name "enumerate" p2) [a] [] pos) (iD X.K B G0 (Xe f)):=YL (GV hg hm ha hs) λσ H R q=>tM.toI (R0:=Reps X.K) q λv H' G' ρ' x k r a=>by
 cases z:Wp x with
 |none=>rw[z]at a;exact a.elim
 |some ds=>
  rw[z]at a;unfold Wp at z;split at z
  .cases z
   obtain⟨w,rfl,r'⟩:=r.one_inv;obtain⟨ad,vs,rfl,h1,r1⟩:=r'.lst_inv;exact⟨ad,vs,rfl,k.gh.seq h1,a _ G' H' k (.refl _) (Di h1 r1)⟩
  .cases z
noncomputable def Xd(s:D->Ur->CI)(g:SM):Cy->SM
 |[],ρ=>.nx ρ
 |d::r,ρ=>match s d ρ with
  |none=>.bad
  |some ρ1=>match g ρ1 with
   |.nx ρ2=>Xd s g r ρ2
   |.ct ρ2=>Xd s g r ρ2
   |.bk ρ2=>.nx ρ2
   |.rt d=>.rt d
   |.ro ds=>.ro ds
   |.ex ρ2 d=>.ex ρ2 d
   |.bad=>.bad
noncomputable def Kv(f:M Cy)(s:D->Ur->CI)(g:SM):SM:=sB f λds=>Xd s g ds
theorem V4{iter:J5}{body:List Stmt}{f:M Cy}{s:D->Ur->CI}{g:SM}(hp:PassesOwn (model X.prog X.w) X.A X.env X.xe)(hc:X.calm=Cv)(hi:PI X tg iter (iD X.K B G0 f))(hg:PG X tg (tG X.K B G0 s))(hb:PSs X body (tS X.K B G0 KX g))
  (hs:∀x,Up iter X.env x=pure x:=by intro _;rfl):PS X (.For tg iter body [] pos) (tS X.K B G0 KX (Kv f s g)):=
 Ko (Hg hp hc hi hg hb hs) λDn σ H ⟨G,ρ,k,a⟩=>by
  refine⟨G,ρ,k,?_⟩;unfold Kv sB at a;cases z:f ρ with
  |bad=>rw[z]at a;exact a.elim
  |ok ds ρ1=>
   rw[z]at a;dsimp only at a⊢;intro J G1 H1 k1 s1 it;refine⟨λi m σ' H'=>m=ds.length-i/\∃G' ρ',EOk X.K B G0 G' H' σ' ρ'/\Same G1 G'/\aftS X.K B G0 KX (Xd s g (ds.drop i) ρ') G' Dn,⟨ds.length,by lia,G1,ρ1,k1,.refl _,by rw[JT];exact aftS.mono s1 a⟩,?_⟩;rintro i m σ' H' ⟨rfl,G',ρ',k',s',a'⟩;by_cases hi:i<ds.length
   .right
    refine⟨it.go i G' H' s' k'.gh hi,λσ2 H2=>∃G2 ρ2,EOk X.K B G0 G2 H2 σ2 ρ2/\Same G1 G2/\aftS X.K B G0 KX (Xd s g (ds.drop (i+1)) ρ2) G2 Dn,λσ2 H2 h2=>⟨ds.length-(i+1),by lia,rfl,h2⟩,λx H2 y=>?_⟩;obtain⟨G2,ex,rx⟩:=it.yld i G' H' x H2 ds[i] s' k'.gh (Qi hi) y;rw[Q8 hi,Xd]at a';cases z2:s ds[i] ρ' with
    |none=>rw[z2]at a';exact a'.elim
    |some ρ2=>
     rw[z2]at a';dsimp only at a';refine⟨G2,ρ',ds[i],ρ2,k'.ext ex,rx,z2,λσ3 G3 H3 k3 s3=>⟨G3,ρ2,k3,?_⟩⟩;have s13:Same G1 G3:=(s'.trans ex.g).trans s3;cases z3:g ρ2 with
     |nx ρ3=>rw[z3]at a';exact λσ4 G4 H4 k4 s4=>⟨G4,ρ3,k4,s13.trans s4,aftS.mono ((ex.g.trans s3).trans s4) a'⟩
     |ct ρ3=>rw[z3]at a';exact λσ4 G4 H4 k4 s4=>⟨G4,ρ3,k4,s13.trans s4,aftS.mono ((ex.g.trans s3).trans s4) a'⟩
     |bk ρ3=>rw[z3]at a';exact λσ4 G4 H4 k4 s4=>a' σ4 G4 H4 k4 ((ex.g.trans s3).trans s4)
     |rt d=>rw[z3]at a';exact a'
     |ro ds=>rw[z3]at a';exact a'
     |ex ρ3 d=>rw[z3]at a';exact λv σ4 G4 H4 k4 s4 r4=>a' v σ4 G4 H4 k4 ((ex.g.trans s3).trans s4) r4
     |bad=>rw[z3]at a';exact a'.elim
   .left
    rw[Ji (by lia)]at a';exact⟨it.stop i G' H' s' k'.gh (by lia),a' σ' G' H' k' (.refl _)⟩
theorem FM{k:Nat}{f:J0}{fd:J4}{ps:List Str}{F:Cy->CA}{g:M Cy}{x:Str}{p2:Pos}{n:Nat}(FK:FnOk X.prog X.w X.K X.mg X.base CX0 k f fd ps (spD X.K n F))(hr:Room k X.A)(hg:Gl X x)(hm:X.mg x=O (.ref f))(hk:PySem.W.keepIn X.K (.ref f)=Cv)
  (hb:Zd X.K fd ps []) (ha:PA X (e::es) (tDs X.K B G0 g)) (hn:(e::es).length=n) (hdb:(x==("__debug__" : Str))=Cw:=by decide) (he:J8 (e::es) X.env=(Cw,eval e X.env)::J8 es X.env:=by rfl) (hpl:(backTo pos (J8 es X.env)).any (·.1)=Cw:=by rfl) :
  PE X (.Call (.Name x p2) (e::es) [] pos) (tD X.K B G0 (UB g λxs=>if xs.length=n then Uz (F xs)else λ_=>.bad)):=
 UN (SH FK hr hg hm hk hb .nil W6 ha hdb he hpl) λσ H Q q=>tM.one (R:=Reps X.K) q λv H2 G ρ ds k r a=>by
  split at a
  .rename_i hl
   obtain⟨d,e,a⟩:=a.opt;exact⟨G,ds,d,by rw[QO,r.length];exact hl,k.gh,by rw[QO];exact r,e,λw G' H' ex rw=>a.done k ex rw⟩
  .exact a.elim
end
noncomputable def KA(N:List Str)(ds:Cy):Ur:=(ds.map λd=>O (Sl.pub d))++Ub (N.length-ds.length) Cu
theorem TC{K:Frag}{N:List Str}{G H:Hp}{vs:List V}{ds:Cy}(s:Same G H)(r:Reps K G vs ds):EOk K H G G H (L2.Yb N vs) (KA N ds) where
 bh:=.refl _
 gh:=s
 g0:=.refl _
 np:=λ_ _ _ n=>n
 len:=by unfold L2.Yb KA;rw[Qu,Qu,Qg,Qg,Q2,Q2,r.length]
 pub:=λi d q=>by
  unfold KA at q;unfold L2.Yb;by_cases hi:i<ds.length
  .rw[Qq (by rw[Qg];exact hi),Qx]at q
   cases z:ds[i]? with
   |none=>rw[z]at q;cases q
   |some d'=>rw[z]at q;cases q;obtain⟨v,e1,r1⟩:=r.get z;refine⟨v,?_,r1⟩;rw[Qq (by rw[Qg,r.length];exact hi),Qx,e1];rfl
  .rw[Qr (by rw[Qg];lia),QA]at q
   split at q<;>cases q
 own:=λi es q=>by
  unfold KA at q;by_cases hi:i<ds.length
  .rw[Qq (by rw[Qg];exact hi),Qx]at q
   cases z:ds[i]? with
   |none=>rw[z]at q;cases q
   |some d'=>rw[z]at q;cases q
  .rw[Qr (by rw[Qg];lia),QA]at q
   split at q<;>cases q
 sep:=λi j a es fs q _ _ _=>by
  unfold KA at q;by_cases hi:i<ds.length
  .rw[Qq (by rw[Qg];exact hi),Qx]at q
   cases z:ds[i]? with
   |none=>rw[z]at q;cases q
   |some d'=>rw[z]at q;cases q
  .rw[Qr (by rw[Qg];lia),QA]at q
   split at q<;>cases q
 dp:=by
  have key:∀{i:Nat}{s:Sl},(KA N ds)[i]?=O (O s)->∃d,s=.pub d:=λ{i s} q=>by
   unfold KA at q;by_cases hi:i<ds.length
   .rw[Qq (by rw[Qg];exact hi),Qx]at q
    cases z:ds[i]? with
    |none=>rw[z]at q;cases q
    |some d'=>rw[z]at q;cases q;exact⟨_,rfl⟩
   .rw[Qr (by rw[Qg];lia),QA]at q
    split at q<;>cases q
  exact .of (λi p d q=>by obtain⟨_,e⟩:=key q;cases e) λi ds q=>by obtain⟨_,e⟩:=key q;cases e
noncomputable def UX(N:List Str)(g:SM)(ds:Cy):CA:=match g (KA N ds)with
 |.rt d=>O d
 |.nx _=>O .none
 |_=>Cu
theorem okD{P:JZ}{w:World}{K:Frag}{mg:Str->CB}{base:Heap}{x qual:Str}{st:Stmt}{f:J0}{fd:J4}{N ps:List Str}{k n:Nat}{g:SM}(F:Fun K x qual st f fd)(S:Xq N ps (U6 st))(hn:ps.length=n)
  (der:∀(cdv:JX)(A:Around)(outer:List Env)(s:JY)(H:Hp)(E:XK)(B G0:Hp),Room k (A.deeper (envOfC qual (U6 st) s.heap.objs.size f cdv)) ->
   PSs (Kp CX0 P w K mg base N qual (U6 st) f cdv A outer s H E).nox (KZ st) (tS K B G0 KX0 g)):FnOk P w K mg base CX0 (k+1) f fd ps (spD K n (UX N g)):=by
 refine F.ok S (λvs H Q E h=>?_) (λcdv A outer s H vs Q E hr h=>?_)
 .obtain⟨_,_,_,hl,_⟩:=h
  rw[hl,hn]
 .obtain⟨G,ds,d,hl,sg,r,hF,q⟩:=h
  refine⟨_,der cdv A outer s H E H G hr,G,KA N ds,TC sg r,?_⟩;unfold UX at hF;cases z:g (KA N ds)with
  |rt d'=>rw[z]at hF;cases hF;exact λv G' H' ex rr=>q v G' H' ex rr
  |nx ρ=>rw[z]at hF;cases hF;exact λσ' G' H' k' _=>q .non G' H' k'.exit .non
  |ro ds=>rw[z]at hF;cases hF
  |bk ρ=>rw[z]at hF;cases hF
  |ct ρ=>rw[z]at hF;cases hF
  |ex ρ d=>rw[z]at hF;cases hF
  |bad=>rw[z]at hF;cases hF
section
variable{X:Cx}{B G0:Hp}{e a b c tg:J5}{pos:Pos}{es rest:CC}
noncomputable def oNeg:D->CA
 |.int i=>O (.int (-i))
 |_=>Cu
noncomputable def Z0(f:M D):M D:=UB f λx=>Uz (oNeg x)
theorem Fg{f:M D}(h:PE X a (tD X.K B G0 f)):PE X (.UnaryOp .USub a pos) (tD X.K B G0 (Z0 f)):=
 UN (NY Ha h) λσ H Q q=>tM.one (R:=Rep X.K) q λv H2 G ρ x k r a=>by
  cases x with
  |int i=>exact⟨i,r.int_inv,aft.now a k (.int _)⟩
  |_=>exact a.elim
end
def Def(P:JZ)(w:World)(K:Frag)(mg:Str->CB)(base:Heap)(x:Str)(k n:Nat)(F:Cy->CA):Prop:=
 ∃(f:J0)(fd:J4)(ps:List Str),mg x=O (.ref f)/\PySem.W.keepIn K (.ref f)=Cv/\Zd K fd ps []/\FnOk P w K mg base CX0 k f fd ps (spD K n F)
noncomputable def UG(n:Nat)(F:Cy->CA)(g:M Cy):M D:=UB g λxs=>if xs.length=n then Uz (F xs)else λ_=>.bad
section
variable{X:Cx}{B G0:Hp}{e:J5}{pos:Pos}{es:CC}
theorem Ff{k n:Nat}{F:Cy->CA}{g:M Cy}{x:Str}{p2:Pos}(d:Def X.prog X.w X.K X.mg X.base x k n F)(hr:Room k X.A)(hg:Gl X x)(ha:PA X (e::es) (tDs X.K B G0 g))(hn:(e::es).length=n:=by rfl)
  (hdb:(x==("__debug__" : Str))=Cw:=by decide) (he:J8 (e::es) X.env=(Cw,eval e X.env)::J8 es X.env:=by rfl) (hpl:(backTo pos (J8 es X.env)).any (·.1)=Cw:=by rfl) :
  PE X (.Call (.Name x p2) (e::es) [] pos) (tD X.K B G0 (UG n F g)):=by
 obtain⟨f,fd,ps,h1,h2,h3,h4⟩:=d;exact FM h4 hr hg h1 h2 h3 ha hn hdb he hpl
end
theorem Def.mk{P:JZ}{w:World}{K:Frag}{mg:Str->CB}{base:Heap}{x:Str}{k n:Nat}{F:Cy->CA}{st:Stmt}{f:J0}{fd:J4}{ps:List Str}(hm:mg x=O (.ref f))(FU:Fun K x x st f fd)(hb:Zd K fd ps [])(ok:FnOk P w K mg base CX0 k f fd ps (spD K n F)) :
  Def P w K mg base x k n F:=⟨f,fd,ps,hm,FU.kp,hb,ok⟩
theorem MY{K:Frag}{H:Hp}{a:J0}{ns:CD}{F:Cy->CA}{E:XK}(hS:SqL K H a (ns.map V.int))(h:F [.list (ns.map int)]=O (.bool Cv)):spD K 1 F [.ref a] H (λv _=>v=.bl Cv) E:=
 ⟨H,[.list (ns.map int)],.bool Cv,rfl,.refl _,.cons (.lst hS (Reps.ints ns)) .nil,h,λ_ _ _ _ r=>r.bl_inv⟩
end DL
namespace L2
open PySem PySem.Spec PyProof.Rows
theorem mem_of_lookup{x:Str}{k:NameKind}:∀{l:List (Str×NameKind)},l.lookup x=O k->(x,k)∈l
 |[],h=>by cases h
 |(y,j)::r,h=>by
  rw[QH]at h;split at h
  .rename_i e
   cases h;have:x=y:=by simpa using e
   rw[this];exact Qj
  .exact Ql _ (mem_of_lookup h)
theorem Rh{env:Env}:∀(l:List (Str×NameKind))(acc:List (Str×J0)),(∀y∈l,y.2=.free->∃c,env.cells.lookup y.1=O c) ->
  ∃cl,(forIn l acc (λx r=>if(x.2==NameKind.free)=Cv then(do let a ←cellOf env x.1;pure (ForInStep.yield ((x.1,a)::r)))else pure (ForInStep.yield r)):Sem (List (Str×J0)))=pure cl /\
   (∀x c,cl.lookup x=O c->acc.lookup x=O c∨env.cells.lookup x=O c)/\(∀y∈l,y.2=.free->∃c,cl.lookup y.1=O c)/\(∀x c,acc.lookup x=O c->∃c',cl.lookup x=O c')
 |[],acc,_=>⟨acc,rfl,λ_ _ h=>.inl h,λ_ h=>absurd h (by simp),λx c h=>⟨c,h⟩⟩
 |(n,k)::r,acc,h=>by
  by_cases hk:k=.free
  .subst hk
   obtain⟨c,hc⟩:=h (n,.free) Qj Ct;obtain⟨cl,e,p1,p2,p3⟩:=Rh r ((n,c)::acc) λy hy=>h y (Ql _ hy)
   have hco:cellOf env n=pure c:=by unfold cellOf;rw[hc]
   have key:∀x c',((n,c)::acc).lookup x=O c'->acc.lookup x=O c'∨env.cells.lookup x=O c':=λx c' q=>by
    rw[QH]at q;split at q
    .rename_i e1
     cases q;have:x=n:=by simpa using e1
     subst this;exact .inr hc
    .exact .inl q
   have own:((n,c)::acc).lookup n=O c:=by rw[List.lookup_cons];simp
   refine⟨cl,?_,λx c' q=>?_,λy hy hf=>?_,λx c' q=>?_⟩
   .rw[List.forIn_cons]
    have:(if(((n,NameKind.free):Str×NameKind).2==NameKind.free)=Cv then(do let a ←cellOf env n;pure (ForInStep.yield ((n,a)::acc)))else pure (ForInStep.yield acc):Sem _)=pure (ForInStep.yield ((n,c)::acc)):=by rw[Qo (show((n,NameKind.free).snd==NameKind.free)=Cv from rfl),hco];rfl
    refine Eq.trans ?_ e;dsimp only at this⊢;rw[this];rfl
   .rcases p1 x c' q with z|z
    .exact key x c' z
    .exact .inr z
   .rcases QC.mp hy with z|z
    .subst z
     exact p3 n c own
    .exact p2 y z hf
   .by_cases hx:x=n
    .subst hx;exact p3 x c own
    .refine p3 x c' ?_
     have hb:(x==n)=Cw:=by simpa using hx
     rw[QH,hb];exact q
  .obtain⟨cl,e,p1,p2,p3⟩:=Rh r acc λy hy=>h y (Ql _ hy)
   refine⟨cl,?_,p1,λy hy hf=>?_,p3⟩
   .rw[List.forIn_cons]
    have hb:(k==NameKind.free)=Cw:=by cases k<;>first|rfl|exact absurd Ct hk
    refine Eq.trans ?_ e;dsimp only;rw[hb,Qv (by decide)];rfl
   .rcases QC.mp hy with z|z
    .subst z;exact absurd hf hk
    .exact p2 y z hf
theorem Dh{scope:Scope}{env:Env}(h:∀y∈scope.names,y.2=.free->∃c,env.cells.lookup y.1=O c) :
  ∃cl,closureFor scope env=pure cl/\(∀x c,cl.lookup x=O c->env.cells.lookup x=O c)/\∀y∈scope.names,y.2=.free->∃c,cl.lookup y.1=O c:=by
 obtain⟨cl,e,p1,p2,_⟩:=Rh scope.names [] h;refine⟨cl,?_,λx c q=>(p1 x c q).elim (λz=>by cases z) id,p2⟩;have e2:((forIn scope.names [] (λx r=>if(x.2==NameKind.free)=Cv then(do let a ←cellOf env x.1;pure (ForInStep.yield ((x.1,a)::r)))else pure (ForInStep.yield r)):Sem (List (Str×J0))) >>= λs=>pure s)=pure cl:=by rw[e];rfl
 exact e2
theorem Nm{env:Env}{x:Str}{k:NameKind}:∀{names:List (Str×NameKind)},(names.map λ(n,k)=>if(k==NameKind.free&&env.scope.kind==.function&&env.kindOf n==O .cell)then(n,NameKind.cell)else(n,k)).lookup x=O k ->
  names.lookup x=O k∨(names.lookup x=O .free/\k=.cell)
 |[],h=>by cases h
 |(n,j)::r,h=>by
  have ih:=@Nm env x k r;have h:List.lookup x ((if(j==NameKind.free&&env.scope.kind==.function&&env.kindOf n==O .cell)=Cv then(n,NameKind.cell)else(n,j))::_)=O k:=h;cases hx:x==n with
  |true=>
   by_cases hc:(j==NameKind.free&&env.scope.kind==.function&&env.kindOf n==O .cell)=Cv
   .rw[Qo hc]at h
    simp only[QH,hx]at h⊢;cases h;simp only[Qw]at hc;have:j=.free:=by have:=hc.1.1;cases j<;>first|rfl|cases this
    subst this;exact .inr ⟨rfl,rfl⟩
   .rw[Qv hc]at h
    simp only[QH,hx]at h⊢;exact .inl h
  |false=>
   by_cases hc:(j==NameKind.free&&env.scope.kind==.function&&env.kindOf n==O .cell)=Cv
   .rw[Qo hc]at h
    simp only[QH,hx]at h⊢;exact ih h
   .rw[Qv hc]at h
    simp only[QH,hx]at h⊢;exact ih h
theorem Nz{env:Env}{x:Str}:∀{names:List (Str×NameKind)},names.lookup x=O .free ->
  (names.map λ(n,k)=>if(k==NameKind.free&&env.scope.kind==.function&&env.kindOf n==O .cell)then(n,NameKind.cell)else(n,k)).lookup x=O .free ∨
  (names.map λ(n,k)=>if(k==NameKind.free&&env.scope.kind==.function&&env.kindOf n==O .cell)then(n,NameKind.cell)else(n,k)).lookup x=O .cell
 |[],h=>by cases h
 |(n,j)::r,h=>by
  have ih:=@Nz env x r;show List.lookup x ((if(j==NameKind.free&&env.scope.kind==.function&&env.kindOf n==O .cell)=Cv then(n,NameKind.cell)else(n,j))::_)=_∨List.lookup x ((if(j==NameKind.free&&env.scope.kind==.function&&env.kindOf n==O .cell)=Cv then(n,NameKind.cell)else(n,j))::_)=_;cases hx:x==n with
  |true=>
   simp only[QH,hx]at h;cases h;by_cases hc:(NameKind.free==NameKind.free&&env.scope.kind==.function&&env.kindOf n==O .cell)=Cv
   .rw[if_pos hc];simp[List.lookup_cons,hx]
   .rw[if_neg hc];simp[List.lookup_cons,hx]
  |false=>
   simp only[QH,hx]at h;by_cases hc:(j==NameKind.free&&env.scope.kind==.function&&env.kindOf n==O .cell)=Cv
   .rw[Qo hc];simp only[QH,hx];exact ih h
   .rw[Qv hc];simp only[QH,hx];exact ih h
theorem XT{env:Env}{x:Str}{k:NameKind}(hk:k≠.free):∀{names:List (Str×NameKind)},names.lookup x=O k ->
  (names.map λ(n,k)=>if(k==NameKind.free&&env.scope.kind==.function&&env.kindOf n==O .cell)then(n,NameKind.cell)else(n,k)).lookup x=O k
 |[],h=>by cases h
 |(n,j)::r,h=>by
  have ih:=@XT env x k hk r;show List.lookup x ((if(j==NameKind.free&&env.scope.kind==.function&&env.kindOf n==O .cell)=Cv then(n,NameKind.cell)else(n,j))::_)=_;cases hx:x==n with
  |true=>
   simp only[QH,hx]at h;cases h;have:(k==NameKind.free)=Cw:=by cases k<;>first|rfl|exact absurd Ct hk
   rw[if_neg (by rw[this];simp)];simp[List.lookup_cons,hx]
  |false=>
   simp only[QH,hx]at h;by_cases hc:(j==NameKind.free&&env.scope.kind==.function&&env.kindOf n==O .cell)=Cv
   .rw[Qo hc];simp only[QH,hx];exact ih h
   .rw[Qv hc];simp only[QH,hx];exact ih h
structure ClOk(env:Env)(scope:Scope)(cl:List (Str×J0))(L:J0)(h':Heap):Prop where
 old:∀x c,cl.lookup x=O c->env.cells.lookup x=O c∨(L<c/\h'.IsCell c Cu)
 fre:∀x,scope.names.lookup x=O .free->∃c,cl.lookup x=O c/\env.cells.lookup x=O c
 cel:∀x,scope.names.lookup x=O .cell->∃c,cl.lookup x=O c/\L<c
 inj:∀x y c,cl.lookup x=O c->cl.lookup y=O c->L<c->x=y
theorem Vw:∀(names:List (Str×NameKind))(n:Nat)(acc:List (Str×J0)),cellsFrom n names acc=cellsFrom n names []++acc
 |[],_,_=>rfl
 |(x,k)::r,n,acc=>by
  unfold cellsFrom;split
  .rw[Vw r (n+1) ((x,n)::acc),Vw r (n+1) [(x,n)],Jq];rfl
  .exact Vw r n acc
theorem Rl:∀(names:List (Str×NameKind))(n:Nat)(x:Str)(c:J0),(x,c)∈cellsFrom n names []->(x,NameKind.cell)∈names
 |[],_,_,_,h=>by cases h
 |(y,k)::r,n,x,c,h=>by
  unfold cellsFrom at h;split at h
  .rename_i hk
   rw[Vw]at h;rcases QW.mp h with h|h
   .exact Ql _ (Rl r _ x c h)
   .cases QK.mp h
    have:k=.cell:=by simpa using hk
    rw[this];exact Qj
  .exact Ql _ (Rl r _ x c h)
theorem MX{M:Model}{A:Around}{E:JX->JY->Prop}{scope:Scope}{env:Env}{BW:List (Str×J0)}{s:JY}{Q:Env->JY->Prop}(BV:∀x c,BW.lookup x=O c->env.cells.lookup x=O c)(cl2:∀y∈scope.names,y.2=.free->∃c,BW.lookup y.1=O c)(hn:∀y∈scope.names,scope.names.lookup y.1=O y.2)
  (hlt:∀x c,env.cells.lookup x=O c->c<s.heap.objs.size)
  (h:∀h' cl,h'.Ns s.heap.objs.size (λ_=>Cu)->(∀b o,s.heap.get? b=O o->h'.get? b=O o)->ClOk env scope cl s.heap.objs.size h'->Q (newEnv scope s.heap.objs.size env.globals cl env.qual Cu .none (O env) builtinsNs) {s with heap:=h'}) :
  J7 M A (newFunctionEnv scope env.globals BW [] env.qual Cu .none (O env)) Q E s:=by
 simp only[newFunctionEnv,Option.isSome_some,if_true];refine Qb (wpAny_alloc ?_);refine wpAny_bind (wpAny_layCells _ (λname kind cells=>by cases hkc:kind==NameKind.cell<;>simp[hkc]) _ _ _ _ ?_);have ok:=cellsFrom_ok scope.names (s.heap.push {cls:=.type "dict", data:=.dict #[]}) (s.heap.objs.size+1) [] ⟨λ_ _ hm=>(nomatch hm),List.Pairwise.nil⟩ (by rw[QS];exact Qs _);rw[QS]at ok;rw[show({s with heap:=s.heap.push {cls:=.type "dict", data:=.dict #[]}}:JY).heap.objs.size=s.heap.objs.size+1 from QS ..];rw[List.forIn_nil];refine Qb (Qk (Qk (h _ _ ((Heap.Ns.new s.heap (.type "dict")).keeps (pushCells_keeps _ _)) (λb o e=>pushCells_keeps _ _ b o (Qd _ e)) ?_)));have look:∀x,(cellsFrom (s.heap.objs.size+1) scope.names BW).lookup x=((cellsFrom (s.heap.objs.size+1) scope.names []).lookup x).or (BW.lookup x):=λx=>by rw[Vw,List.lookup_append]
 have own:∀x c,(cellsFrom (s.heap.objs.size+1) scope.names []).lookup x=O c->scope.names.lookup x=O .cell:=λx c e=>hn _ (Rl _ _ _ _ (QZ e))
 refine⟨λx c e=>?_,λx e=>?_,λx e=>?_,λx y c e1 e2 hc=>?_⟩
 .rw[look]at e
  cases z:(cellsFrom (s.heap.objs.size+1) scope.names []).lookup x with
  |none=>rw[z]at e;exact .inl (BV x c e)
  |some c'=>rw[z]at e;cases e;obtain⟨h1,h2⟩:=ok.empty x c (QZ z);exact .inr ⟨h2,h1⟩
 .obtain⟨c,hc⟩:=cl2 (x,.free) (mem_of_lookup e) Ct
  refine⟨c,?_,BV x c hc⟩;rw[look];cases z:(cellsFrom (s.heap.objs.size+1) scope.names []).lookup x with
  |none=>exact hc
  |some c'=>have:=own x c' z;rw[e]at this;cases this
 .obtain⟨c,hc⟩:=SW (n:=s.heap.objs.size+1) e
  refine⟨c,by rw[look,hc];rfl,(ok.empty x c (QZ hc)).2⟩
 .rw[look]at e1 e2
  cases z1:(cellsFrom (s.heap.objs.size+1) scope.names []).lookup x with
  |none=>rw[z1]at e1;exact absurd (hlt x c (BV x c e1)) (Nat.lt_asymm hc)
  |some c1=>
  cases z2:(cellsFrom (s.heap.objs.size+1) scope.names []).lookup y with
  |none=>rw[z2]at e2;exact absurd (hlt y c (BV y c e2)) (Nat.lt_asymm hc)
  |some c2=>rw[z1]at e1;rw[z2]at e2;cases e1;cases e2;exact name_of_addr ok.apart (QZ z1) (QZ z2)
noncomputable def Cx.blk(X:Cx)(N':List Str)(scope:Scope)(cl:List (Str×J0))(C:J0)(s₀:JY)(H₀:Hp)(ex:CF):Cx:=
 {X with N:=N',s₀:=s₀,H₀:=H₀,env:=compEnvC scope cl C X.env,outer:=X.stack,ex:=ex,fn:=λx=>scope.names.lookup x==O .cell,xe:=λ_ _=>False}
section
variable{X:Cx}{N':List Str}{scope:Scope}{cl:List (Str×J0)}{C:J0}{s₀:JY}{H₀:Hp}{ex:CF}{x:Str}
noncomputable def visK:Option NameKind->Bool
 |some .local=>Cv|some .free=>Cv|some .cell=>Cv|_=>Cw
theorem HP(h:visK (scope.names.lookup x)=Cv):Vis (X.blk N' scope cl C s₀ H₀ ex).env.scope x:=by
 cases z:scope.names.lookup x with
 |none=>rw[z]at h;cases h
 |some y=>
  rw[z]at h;cases y with
  | «local»=>exact .inl (XT (by decide) z)
  |cell=>exact .inr (.inl (XT (by decide) z))
  |free=>
   rcases Nz (env:=X.env) z with z|z
   .exact .inr (.inr z)
   .exact .inr (.inl z)
  |_=>cases h
noncomputable def locK:Option NameKind->Bool
 |some .local=>Cv|some .cell=>Cv|_=>Cw
theorem Tl(h:locK (scope.names.lookup x)=Cv):Loc (X.blk N' scope cl C s₀ H₀ ex).env.scope x/\((X.blk N' scope cl C s₀ H₀ ex).fn x=Cv∨(X.blk N' scope cl C s₀ H₀ ex).env.scope.names.lookup x=O .local):=by
 cases z:scope.names.lookup x with
 |none=>rw[z]at h;cases h
 |some y=>
  rw[z]at h;cases y with
  | «local»=>exact⟨.inl (XT (by decide) z),.inr (XT (by decide) z)⟩
  |cell=>exact⟨.inr (XT (by decide) z),.inl (by show(scope.names.lookup x==O .cell)=Cv;rw[z];rfl)⟩
  |_=>cases h
theorem R3(h:scope.names.lookup x=O .globalImplicit):Gl (X.blk N' scope cl C s₀ H₀ ex) x:=XT (by decide) h
end
noncomputable def Vt(names:List (Str×NameKind))(N N2:List Str)(k:Nat):Bool:=
 N2.length==N.length+k&&(Ua N2.length).all λi=>match N2[i]? with
  |none=>Cv
  |some x=>match names.lookup x with
   |some .free=>N[i]?==O x
   |some .local=>decide (N.length<=i)&&decide (i<N.length+k)
   |some .cell=>decide (N.length<=i)&&decide (i<N.length+k)
   |_=>Cv
theorem DZ{names:List (Str×NameKind)}{N N2:List Str}{k:Nat}(h:Vt names N N2 k=Cv) :
  N2.length=N.length+k/\∀(i:Nat) x,N2[i]?=O x->(names.lookup x=O .free->N[i]?=O x)/\(names.lookup x=O .local∨names.lookup x=O .cell->N.length<=i/\i<N.length+k):=by
 unfold Vt at h;simp only[Qw,beq_iff_eq,QG,List.mem_range]at h;refine⟨h.1,λi x e=>?_⟩;have hi:=(Qm.mp e).1;have:=h.2 i hi;rw[e]at this;refine⟨λq=>?_,λq=>?_⟩
 .simp only[q]at this
  simpa using this
 .rcases q with q|q<;>(simp only[q]at this;simpa using this)
theorem Inv.enter{X:Cx}{pins:List (J0×Obj)}{σ:St}{H:Hp}{s3:JY}(I:Inv X pins σ H s3){scope:Scope}{cl:List (Str×J0)}{N2:List Str}{k:Nat}{h':Heap}{fp:CF}{t':Nat}{m0:Str->CB}
  (hb:Vt scope.names X.N N2 k=Cv) (hkind:scope.kind=.function)
  (hfree:∀y∈scope.names,y.2=.free->X.env.scope.names.lookup y.1=O .cell∨X.env.scope.names.lookup y.1=O .free)
  (hc:ClOk X.env scope cl s3.heap.objs.size h')
  (hn:h'.Ns s3.heap.objs.size m0) (hk:∀b o,s3.heap.get? b=O o->h'.get? b=O o) (hf:∀b∈fp,Ky X pins H b) (hfo:∀b∈fp,∃o,s3.heap.get? b=O o) :
  Inv (X.blk N2 scope cl s3.heap.objs.size s3 H fp) pins (σ++Ub k Cu) H {s3 with heap:=h',toks:=t'}:=by
 obtain⟨hl,hN⟩:=DZ hb;have lt:∀b o,s3.heap.get? b=O o->b≠s3.heap.objs.size:=λb o e=>QP (Qf e);have ofl:∀x,scope.names.lookup x=O .free->(x,NameKind.free)∈scope.names:=λx h=>mem_of_lookup h;have kinv:∀x kk,(X.blk N2 scope cl s3.heap.objs.size s3 H fp).env.scope.names.lookup x=O kk->scope.names.lookup x=O kk∨(scope.names.lookup x=O .free/\kk=.cell):=λx kk h=>Nm (env:=X.env) h
 have isfc:∀x,(X.blk N2 scope cl s3.heap.objs.size s3 H fp).env.scope.names.lookup x=O .cell∨(X.blk N2 scope cl s3.heap.objs.size s3 H fp).env.scope.names.lookup x=O .free->scope.names.lookup x=O .free∨scope.names.lookup x=O .cell:=λx h=>by
  rcases h with h|h
  .rcases kinv x _ h with z|z
   .exact .inr z
   .exact .inl z.1
  .rcases kinv x _ h with z|z
   .exact .inl z
   .exact .inl z.1
 have lto:∀x c,X.env.cells.lookup x=O c->c<s3.heap.objs.size:=λx c e=>let ⟨_,q⟩:=I.cell x c e;q.lt
 have ok:(X.blk N2 scope cl s3.heap.objs.size s3 H fp).Ok:=
  {
   mod:=I.ok.mod
   kind:=hkind
   glob:=I.ok.glob
   blt:=I.ok.blt
   above:=Qs _
   inj:=λx y c a b=>by
    rcases hc.old x c a with q|⟨q,_⟩
    .rcases hc.old y c b with q'|⟨q',_⟩
     .exact I.ok.inj x y c q q'
     .exact absurd (lto x c q) (Nat.lt_asymm q')
    .exact hc.inj x y c a b q
   has:=λx h=>by
    rcases isfc x h with z|z
    .exact let ⟨c,e,_⟩:=hc.fre x z;⟨c,e⟩
    .exact let ⟨c,e,_⟩:=hc.cel x z;⟨c,e⟩
   cab:=λx c h e=>by
    have z:scope.names.lookup x=O .cell:=by have h:(scope.names.lookup x==O .cell)=Cv:=h;simpa using h
    obtain⟨c',e',l⟩:=hc.cel x z;have e:cl.lookup x=O c:=e;rw[e]at e';cases e';exact Nat.le_of_lt l
   hd:=I.ok.hd
   frames:=I.ok.frames
   stk:=.inl Ct
   exf:=λb hb=>⟨let ⟨o,e⟩:=hfo b hb;lt b o e,λx c e=>by
    rcases hc.old x c e with q|⟨q,_⟩
    .exact(hf b hb).2.2.2.2.1 x c q
    .obtain⟨o,e'⟩:=hfo b hb
     exact Ju (Nat.lt_trans (Qf e') q)⟩
   bs:=I.bs
   bsz:=Qn I.ok.bsz I.sz
   noex:=λb o e hb=>by
    rcases(hf b hb).2.2.2.1 with z|z
    .exact I.ok.noex b o e z
    .exact absurd (Qy (Qf e) (Qn I.ok.bsz z)) (Jw _)
   exfs:=λb hb hx=>by
    rcases QC.mp (I.stkSub b hx)with z|z
    .exact(hf b hb).2.1 z
    .exact(hf b hb).2.2.1 z
   funs:=I.stack
   frf:=I.stkFree}
 refine⟨ok,rfl,I.bare,Un.kept hk,⟨m0,hn,λi x v e1 e2 e3=>?_⟩,λx c e=>?_,I.hok.fresh (Qs _),λx c e=>(hc.old x c e).elim (I.freeC x c) λq=>I.hok.fresh (Nat.le_of_lt q.1),λp hp=>?_,I.hok.kept hk,?_⟩
 .have nl:¬(scope.names.lookup x=O .local∨scope.names.lookup x=O .cell):=λz=>by
   obtain⟨g1,g2⟩:=(hN i x e1).2 z;rw[←I.len]at g1 g2;rw[Qr g1,QA]at e2;split at e2<;>cases e2
  have fr:scope.names.lookup x=O .free:=by
   rcases e3 with z|z
   .rcases kinv x _ z with q|q
    .exact absurd (.inl q) nl
    .cases q.2
   .rcases isfc x z with q|q
    .exact q
    .exact absurd (.inr q) nl
  have eN:=(hN i x e1).1 fr;have hi:i<σ.length:=by rw[I.len];exact(Qm.mp eN).1
  rw[Qq hi]at e2;obtain⟨m,hm,hlk⟩:=I.loc;have hkd:=hfree _ (ofl x fr) Ct;obtain⟨u,r,l⟩:=hlk i x v eN e2 (.inr hkd);refine⟨u,r,.inr ⟨?_,?_⟩⟩
  .rcases e3 with z|z|z
   .rcases kinv x _ z with q|q
    .exact absurd (.inl q) nl
    .cases q.2
   .exact .inl z
   .exact .inr z
  .rcases l with l|⟨_,c,ec,z⟩
   .have:X.env.scope.names.lookup x=O .local:=l.1
    rcases hkd with q|q<;>(dsimp only at q;rw[this]at q;cases q)
   .obtain⟨c',ec',this⟩:=hc.fre x fr
    rw[ec]at this;cases this;obtain⟨o,ho,hd⟩:=z;exact⟨c,ec',o,hk c o ho,hd⟩
 .rcases hc.old x c e with q|⟨_,q⟩
  .obtain⟨v,o,ho,hd⟩:=I.cell x c q
   exact⟨v,o,hk c o ho,hd⟩
  .exact⟨_,q⟩
 .obtain⟨e,n,ne,nf,d⟩:=I.pin p hp
  refine⟨hk _ _ e,n,lt _ _ e,λz=>?_,d⟩;rcases QC.mp (I.stkSub _ z)with q|q
  .exact ne q
  .exact nf q
 .rw[Qu,Q2,I.len]
  exact hl.symm
noncomputable abbrev nox:JX->JY->Prop:=λ_ _=>False
def S4(prog:JZ)(w:World)(A:Around)(tg:J5)(ifs:CC)(env:Env)(it:JX)(code:Code)(W:(JY->Prop)->JY->Prop):Prop:=
 ∀(R:Result->JY->Prop)(I:Nat->JY->Prop)(n:Nat)(s:JY),I n s ->
  (∀n s,I n s->J7 (model prog w) A (pyNext it) (λr s₁=>match r with
   |none=>R (.ok .next) s₁
   |some v=>J7 (model prog w) A (letOwnedTupleGo tg it v) (λ_ s₁'=>J7 (model prog w) A (assign tg env v) (λ_ s₂=>
     J7 (model prog w) A (forIn ifs Cv λc r=>if r=Cv then do let ok ←isTrue c env (eval c env);pure (ForInStep.yield ok)else pure (ForInStep.yield r)) (λok s₃=>
      if ok=Cv then W (λs₅=>∃m,m<n/\I m s₅) s₃ else ∃m,m<n/\I m s₃) nox s₂) nox s₁') nox s₁) nox s)->codeAny (model prog w) A code R s
section
variable{prog:JZ}{w:World}{A:Around}{elt tg i:J5}{ifs:CC}{gens:List Comprehension}{scope:Scope}{pos:Pos}{it acc:JX}{env:Env}{j:Nat}
theorem ET(hg:gens[j]?=O ⟨tg,i,ifs,0⟩)(hn:gens[j+1]?=Cu):S4 prog w A tg ifs env it (.compLoop (.ListComp elt gens scope pos) j it acc env)
  (λQ s=>J7 (model prog w) A (eval elt env) (λx s₄=>J7 (model prog w) A (call (.builtin "list.append") [acc,x]) (λ_ s₅=>Q s₅) nox s₄) nox s):=by
 intro R I n s h turn;refine codeAny_loop Ct I (λn s hI=>?_) n h;show J7 _ A ((compTurn (.ListComp elt gens scope pos) j it acc env).onRaise (λx=>do noteFrame x env;theTreesLotGoes x)) _ _ s;refine wpAny_noted ?_;unfold compTurn;dsimp only;simp only[hg,hn];refine Qb (wpAny_standAt (Qb (QU (turn n s hI) (λr s₁ h₁=>?_) λ_ _ h'=>h'.elim)));cases r with
 |none=>exact Qk h₁
 |some v=>
  refine Qb (QU h₁ (λ_ s₁' h₁'=>?_) λ_ _ h'=>h'.elim);refine Qb (QU h₁' (λ_ s₂ h₂=>Qb (QU h₂ (λok s₃ h₃=>?_) λ_ _ h'=>h'.elim)) λ_ _ h'=>h'.elim);cases ok with
  |false=>exact Qk ⟨rfl,h₃⟩
  |true=>exact Qb (Qb (QU h₃ (λx s₄ h₄=>Qb (QU h₄ (λ_ s₅ h₅=>Qk (Qk ⟨rfl,h₅⟩)) λ_ _ h'=>h'.elim)) λ_ _ h'=>h'.elim))
end
end L2
namespace DL
open PySem PySem.Spec L2
open PyProof.Rows hiding St
noncomputable def Rr:Option Sl->Option Sl
 |some (.own _)=>Cu
 |some (.deep _ _)=>Cu
 |x=>x
noncomputable def Kb(ρ:Ur):Ur:=ρ.map Rr
theorem ES{ρ:Ur}{i:Nat}{d:D}(h:(Kb ρ)[i]?=O (O (.pub d))):ρ[i]?=O (O (.pub d)):=by
 unfold Kb at h;rw[Qx]at h;cases e:ρ[i]? with
 |none=>rw[e]at h;cases h
 |some o=>
  rw[e]at h;cases o with
  |none=>cases h
  |some sl=>cases sl with
   |pub d'=>cases h;rfl
   |own ds=>cases h
   |deep p d'=>cases h
theorem YG{ρ:Ur}{i:Nat}{ds:Cy}(h:(Kb ρ)[i]?=O (O (.own ds))):False:=by
 unfold Kb at h;rw[Qx]at h;cases e:ρ[i]? with
 |none=>rw[e]at h;cases h
 |some o=>
  rw[e]at h;cases o with
  |none=>cases h
  |some sl=>cases sl with
   |pub d'=>cases h
   |own ds=>cases h
   |deep p d'=>cases h
theorem Rg{ρ:Ur}{i:Nat}{p:Pat}{d:D}(h:(Kb ρ)[i]?=O (O (.deep p d))):False:=by
 unfold Kb at h;rw[Qx]at h;cases e:ρ[i]? with
 |none=>rw[e]at h;cases h
 |some o=>
  rw[e]at h;cases o with
  |none=>cases h
  |some sl=>cases sl<;>cases h
noncomputable def K1(s:D->Ur->CI)(t:M Bool)(g:M D):Cy->Ur->Cy->Option Cy
 |[],_,es=>O es
 |d::r,ρ,es=>match s d ρ with
  |none=>Cu
  |some ρ1=>match t ρ1 with
   |.bad=>Cu
   |.ok b ρ2=>if b=Cv then(match g ρ2 with
     |.bad=>Cu
     |.ok e ρ3=>if es.length<1000000 then K1 s t g r (Kb ρ3) (es++[e])else Cu)
    else K1 s t g r (Kb ρ2) es
noncomputable def KO(f:M Cy)(k:Nat)(s:D->Ur->CI)(t:M Bool)(g:M D):M Cy:=λρ=>match f ρ with
 |.bad=>.bad
 |.ok ds ρ1=>match K1 s t g ds (Kb ρ1++Ub k Cu) []with
  |none=>.bad
  |some es=>.ok es ρ1
def Ym(X:Cx)(ifs:CC)(t:TT):Prop:=
 ∀(pins:List (J0×Obj))(s:JY)(σ:St)(H:Hp)(Q:Bool->Hp->Prop),Inv X pins σ H s->t σ H Q ->
  J7 (model X.prog X.w) X.A (forIn ifs Cv λc r=>if r=Cv then do let ok ←isTrue c X.env (eval c X.env);pure (ForInStep.yield ok)else pure (ForInStep.yield r)) (TP X pins σ Q) X.xe s
section
variable{X:Cx}{B G0:Hp}
theorem Px:Ym X [] (tBo X.K B G0 (Us Cv)):=λpins s σ H Q I ⟨G,ρ,k,a⟩=>wpAny_tests_nil ⟨H,I,a Cv G H k (.refl _) Ct⟩
theorem HN{c:J5}{t:M Bool}(h:PT X c (tBo X.K B G0 t)):Ym X [c] (tBo X.K B G0 t):=λpins s σ H Q I q=>wpAny_tests_one (h pins s σ H Q I q)
theorem EOk.rebase{K:Frag}{G H:Hp}{σ:St}{ρ:Ur}(k:EOk K B G0 G H σ ρ):EOk K H G G H σ (Kb ρ) where
 bh:=.refl _
 gh:=k.gh
 g0:=.refl _
 np:=λ_ _ _ n=>n
 len:=by unfold Kb;rw[Qg];exact k.len
 pub:=λi d q=>k.pub i d (ES q)
 own:=λi ds q=>(YG q).elim
 sep:=λi j a ds es q=>(YG q).elim
 dp:=.of (λ_ _ _ q=>Rg q) λ_ _ q=>YG q
theorem EOk.more{K:Frag}{G H:Hp}{σ:St}{ρ:Ur}(k:EOk K H G G H σ (Kb ρ))(n:Nat):EOk K H G G H (σ++Ub n Cu) (Kb ρ++Ub n Cu) where
 bh:=.refl _
 gh:=k.gh
 g0:=.refl _
 np:=λ_ _ _ n=>n
 len:=by rw[Qu,Qu,k.len,Q2,Q2]
 pub:=λi d q=>by
  by_cases hi:i<(Kb ρ).length
  .rw[Qq hi]at q
   rw[Qq (by rw[←k.len];exact hi)];exact k.pub i d q
  .rw[Qr (QY hi),QA]at q
   split at q<;>cases q
 own:=λi ds q=>by
  by_cases hi:i<(Kb ρ).length
  .rw[Qq hi]at q
   exact(YG q).elim
  .rw[Qr (QY hi),QA]at q
   split at q<;>cases q
 sep:=λi j a ds es q=>by
  by_cases hi:i<(Kb ρ).length
  .rw[Qq hi]at q
   exact(YG q).elim
  .rw[Qr (QY hi),QA]at q
   split at q<;>cases q
 dp:=by
  refine .of (λi p d q=>?_) λi ds q=>?_
  .by_cases hi:i<(Kb ρ).length
   .rw[Qq hi]at q;exact Rg q
   .rw[Qr (QY hi),QA]at q;split at q<;>cases q
  .by_cases hi:i<(Kb ρ).length
   .rw[Qq hi]at q;exact YG q
   .rw[Qr (QY hi),QA]at q;split at q<;>cases q
theorem EOk.beside{K:Frag}{G H:Hp}{σ:St}{ρ:Ur}{a:J0}{o:HO}(k:EOk K B G0 G H σ ρ)(hg:G a=Cu):EOk K (upd H a o) G G (upd H a o) σ (Kb ρ) where
 bh:=.refl _
 gh:=λb u e=>by rw[UR (λz=>by subst z;rw[hg]at e;cases e)];exact k.gh b u e
 g0:=.refl _
 np:=λ_ _ _ n=>n
 len:=k.rebase.len
 pub:=k.rebase.pub
 own:=λi ds q=>(YG q).elim
 sep:=λi j a ds es q=>(YG q).elim
 dp:=.of (λ_ _ _ q=>Rg q) λ_ _ q=>YG q
theorem lim1:1000000<=J6:=lim
noncomputable def NK:Option Sl->Option Sl
 |some (.own ds)=>O (.pub (.list ds))
 |some (.deep _ d)=>O (.pub d)
 |x=>x
noncomputable def KM(ρ:Ur):Ur:=ρ.map NK
theorem OH{ρ:Ur}{i:Nat}{d:D}(h:(KM ρ)[i]?=O (O (.pub d))):ρ[i]?=O (O (.pub d))∨(∃ds,d=.list ds/\ρ[i]?=O (O (.own ds))) ∨ ∃p,ρ[i]?=O (O (.deep p d)):=by
 unfold KM at h;rw[Qx]at h;cases e:ρ[i]? with
 |none=>rw[e]at h;cases h
 |some o=>
  rw[e]at h;cases o with
  |none=>cases h
  |some sl=>cases sl with
   |pub d'=>cases h;exact .inl Ct
   |own ds=>cases h;exact .inr (.inl ⟨ds,rfl,rfl⟩)
   |deep p d'=>cases h;exact .inr (.inr ⟨p,rfl⟩)
theorem WU{ρ:Ur}{i:Nat}{ds:Cy}(h:(KM ρ)[i]?=O (O (.own ds))):False:=by
 unfold KM at h;rw[Qx]at h;cases e:ρ[i]? with
 |none=>rw[e]at h;cases h
 |some o=>
  rw[e]at h;cases o with
  |none=>cases h
  |some sl=>cases sl with
   |pub d'=>cases h
   |own ds=>cases h
   |deep p d'=>cases h
theorem O7{ρ:Ur}{i:Nat}{p:Pat}{d:D}(h:(KM ρ)[i]?=O (O (.deep p d))):False:=by
 unfold KM at h;rw[Qx]at h;cases e:ρ[i]? with
 |none=>rw[e]at h;cases h
 |some o=>
  rw[e]at h;cases o with
  |none=>cases h
  |some sl=>cases sl<;>cases h
noncomputable def flat:D->Bool
 |.none=>Cv | .bool _=>Cv | .int _=>Cv | .str _=>Cv|_=>Cw
theorem Rep.flat{K:Frag}{G G':Hp}{v:V}{d:D}(r:Rep K G v d)(h:DL.flat d=Cv):Rep K G' v d:=by
 cases r with
 |non=>exact .non
 |bl b=>exact .bl b
 |int i=>exact .int i
 |str x=>exact .str x
 |lst _ _=>cases h
 |tup _ _=>cases h
 |dic _=>cases h
 |exc _ _ _ _=>cases h
 |dct _ _ _ _ _=>cases h
 |dtt _ _ _ _=>cases h
theorem Reps.flat{K:Frag}{G G':Hp}:∀{vs:List V}{ds:Cy},Reps K G vs ds->ds.all DL.flat=Cv->Reps K G' vs ds
 |_,_,.nil,_=>.nil
 |_,_,.cons r t,h=>by rw[JL,Qw]at h;exact .cons (r.flat h.1) (Reps.flat t h.2)
theorem EOk.lend{K:Frag}{B G0 G H:Hp}{σ:St}{ρ:Ur}{D:J0}{o:HO}(k:EOk K B G0 G H σ ρ)(hD:H D=Cu)(n:Nat):EOk K (upd H D o) H H (upd H D o) (σ++Ub n Cu) (KM ρ++Ub n Cu) where
 bh:=.refl _
 gh:=KG hD
 g0:=.refl _
 np:=λ_ _ _ n=>n
 len:=by unfold KM;rw[Qu,Qu,Qg,k.len,Q2,Q2]
 pub:=λi d q=>by
  have hl:(KM ρ).length=ρ.length:=by unfold KM;rw[Qg]
  by_cases hi:i<(KM ρ).length
  .rw[Qq hi]at q
   rw[Qq (by rw[←k.len,←hl];exact hi)];rcases OH q with e|⟨ds,rfl,e⟩|⟨p,e⟩
   .obtain⟨v,h1,h2⟩:=k.pub i d e
    exact⟨v,h1,h2.mono k.gh⟩
   .obtain⟨a,vs,h1,h2,h3,h4,h5⟩:=k.own i ds e
    exact⟨.ref a,h1,.lst (SqL.of h4) (h5.mono k.gh)⟩
   .obtain⟨ω,k1,k2⟩:=k.dp
    obtain⟨v,fp,s,r,_⟩:=k1 i p d e;exact⟨v,s,r.rep k.gh⟩
  .rw[Qr (QY hi),QA]at q
   split at q<;>cases q
 own:=λi ds q=>by
  by_cases hi:i<(KM ρ).length
  .rw[Qq hi]at q
   exact(WU q).elim
  .rw[Qr (QY hi),QA]at q
   split at q<;>cases q
 sep:=λi j a ds es q=>by
  by_cases hi:i<(KM ρ).length
  .rw[Qq hi]at q
   exact(WU q).elim
  .rw[Qr (QY hi),QA]at q
   split at q<;>cases q
 dp:=by
  refine .of (λi p d q=>?_) λi ds q=>?_
  .by_cases hi:i<(KM ρ).length
   .rw[Qq hi]at q;exact O7 q
   .rw[Qr (QY hi),QA]at q;split at q<;>cases q
  .by_cases hi:i<(KM ρ).length
   .rw[Qq hi]at q;exact WU q
   .rw[Qr (QY hi),QA]at q;split at q<;>cases q
noncomputable def Sb(f:M Cy)(k:Nat)(s:D->Ur->CI)(t:M Bool)(g:M D):M Cy:=λρ=>match f ρ with
 |.bad=>.bad
 |.ok ds ρ1=>match K1 s t g ds (KM ρ1++Ub k Cu) []with
  |none=>.bad
  |some es=>if es.all flat=Cv then .ok es ρ1 else .bad
end
abbrev RdB:=Ur->Cy->Option (Cy×Ur)
noncomputable def rL(g:M D):RdB:=λρ es=>match g ρ with
 |.bad=>Cu
 |.ok e ρ3=>if es.length<1000000 then O (es++[e],Kb ρ3)else Cu
noncomputable def cT(s:D->Ur->CI)(t:M Bool)(rd:RdB):Cy->Ur->Cy->Option (Cy×Ur)
 |[],ρ,es=>O (es,ρ)
 |d::r,ρ,es=>match s d ρ with
  |none=>Cu
  |some ρ1=>match t ρ1 with
   |.bad=>Cu
   |.ok b ρ2=>if b=Cv then(match rd ρ2 es with
     |none=>Cu
     |some (es',ρ')=>cT s t rd r ρ' es')
    else cT s t rd r (Kb ρ2) es
structure Left(Y:Cx)(D':J0)(pins:List (J0×Obj))(H G:Hp)(es':Cy)(ρ':Ur)(σ':St)(H' G':Hp)(vs':List V)(s':JY):Prop where
 inv:Inv Y pins σ' H' s'
 eok:EOk Y.K H' G' G' H' σ' ρ'
 hh:∀a o,a≠D'->H a=O o->H' a=O o
 gg:Same G G'
 np:∀a(u:MO),a≠D'->H a=O u.ho->G a=Cu->G' a=Cu
 hd:H' D'=O (.lst vs')
 gd:G' D'=Cu
 rp:Reps Y.K G' vs' es'
def T2(Y:Cx)(D':J0)(W:(JY->Prop)->JY->Prop)(rd:RdB):Prop:=
 ∀(pins:List (J0×Obj))(sh:JY)(σ:St)(B1 G1 H G:Hp)(ρ ρ':Ur)(vs:List V)(es es':Cy)(Q:JY->Prop),
  Inv Y pins σ H sh->EOk Y.K B1 G1 G H σ ρ->B1 D'=O (.lst vs)->G1 D'=Cu->Reps Y.K G1 vs es->rd ρ es=O (es',ρ') ->
  (∀σ' H' G' vs' s',Left Y D' pins B1 G1 es' ρ' σ' H' G' vs' s'->Q s')->W Q sh
section
variable{Y:Cx}{D':J0}
theorem ER{elt:J5}{g:M D}(hx:Y.xe=nox)(he:∀B1 G1,PE Y elt (tD Y.K B1 G1 g)) :
  T2 Y D' (λQ s=>J7 (model Y.prog Y.w) Y.A (eval elt Y.env) (λx s₄=>J7 (model Y.prog Y.w) Y.A (call (.builtin "list.append") [.ref D',x]) (λ_ s₅=>Q s₅) nox s₄) nox s) (rL g):=by
 intro pins sh σ B1 G1 H G ρ ρ' vs es es' Q I k hD gD r z fin;unfold rL at z;cases zg:g ρ with
 |bad=>rw[zg]at z;cases z
 |ok e ρ4=>
 rw[zg]at z;dsimp only at z;split at z
 .rename_i hle
  cases z;have h:=he B1 G1 pins sh σ H (λv H8=>∃G8,EOk Y.K B1 G1 G8 H8 σ ρ4/\Rep Y.K G8 v e) I ⟨G,ρ,k,by unfold aft;rw[zg];exact λv G8 H8 k8 _ q=>⟨G8,k8,q⟩⟩;rw[hx]at h;refine thn h λev s8 ⟨v,H8,I8,rv,G8,k8,r8⟩=>?_;have h2:=TK pins s8 σ H8 (.ref D') [v] (.ref D') [ev] (λ_ H9=>H9=upd H8 D' (.lst (vs++[v]))) I8 Ct (.cons rv .nil) ⟨D',vs,v,rfl,rfl,k8.bh _ _ hD,by have:=lim1;rw[r.length];lia,rfl⟩
  rw[hx]at h2;refine thn h2 λ_ s9 ⟨_,H9,I9,_,e9⟩=>?_;subst e9;have g8:=k8.np _ (.l _) hD gD;exact fin σ _ G8 _ s9 ⟨I9,k8.beside g8,λa o z q=>by rw[UR z];exact k8.bh a o q,k8.g0,λa o _ q w=>k8.np a o q w,U9,g8,(r.mono k8.g0).append (.cons r8 .nil)⟩
 .cases z
theorem FL{tg:J5}{ifs:CC}{code:Code}{W:(JY->Prop)->JY->Prop}{s:D->Ur->CI}{t:M Bool}{rd:RdB}{it:J0}(hx:Y.xe=nox)(hc:Y.calm=Cv)(rule:S4 Y.prog Y.w Y.A tg ifs Y.env (.ref it) code W)
  (hg:∀B1 G1,PG Y tg (tG Y.K B1 G1 s)) (ht:∀B1 G1,Ym Y ifs (tBo Y.K B1 G1 t)) (hb:T2 Y D' W rd)
  {pins:List (J0×Obj)} {sh:JY} {σ:St} {H G:Hp} {ρ ρF:Ur} {fp:CF} {tn:Nat->Heap->Prop} {J:It} {ds es esF:Cy} {vs:List V} {R:Result->JY->Prop}
  (I:Inv Y pins σ H sh) (T:Turn Y.prog Y.w Y.K tg J fp it tn) (st:tn 0 sh.heap) (hf:∀b∈fp,Ky Y pins H b)
  (k:EOk Y.K H G G H σ ρ) (its:Yx Y.K J ds G) (hD:H D'=O (.lst vs)) (gD:G D'=Cu) (r:Reps Y.K G vs es) (zl:cT s t rd ds ρ es=O (esF,ρF))
  (BJ:∀σ' H' G' vs' s',Left Y D' pins H G esF ρF σ' H' G' vs' s'->R (.ok .next) s'):codeAny (model Y.prog Y.w) Y.A code R sh:=by
 have stat:∀{H':Hp},(∀b∈fp,H' b=Cu)->∀b∈fp,Ky Y pins H' b:=λhn b hb=>⟨hn b hb,(hf b hb).2⟩
 refine rule R (λn s'=>∃i σ' H' G' ρ' vs' es',n=ds.length-i/\tn i s'.heap/\(∀b∈fp,H' b=Cu)/\Left Y D' pins H G es' ρ' σ' H' G' vs' s'/\cT s t rd (ds.drop i) ρ' es'=O (esF,ρF)) ds.length sh
  ⟨0,σ,H,G,ρ,vs,es,rfl,st,λb hb=>(hf b hb).1,⟨I,k,λ_ _ _ q=>q,.refl _,λ_ _ _ _ n=>n,hD,gD,r⟩,by rw[JT];exact zl⟩ ?_
 rintro n s' ⟨i,σ',H',G',ρ',vs',es',rfl,tn',fr',⟨I',k',BX,BR,np',Bg,gD',r'⟩,zc⟩;by_cases hlt:i<ds.length
 .rw[Q8 hlt,cT]at zc
  cases zs:s ds[i] ρ' with
  |none=>rw[zs]at zc;cases zc
  |some ρ2=>
  rw[zs]at zc;dsimp only at zc;cases zt:t ρ2 with
  |bad=>rw[zt]at zc;cases zc
  |ok b ρ3=>
  rw[zt]at zc;dsimp only at zc;refine thn (T.item Y Ct Ct Ct hc i pins s' σ' H' nox I' (stat fr') tn' (its.go i G' H' BR k'.gh hlt)) λrr s4 ⟨u,hr,h4⟩=>?_;subst hr;refine thn h4 λ_ s5 ⟨x,H5,I5,r5,y5,BE,fr5⟩=>?_
  obtain⟨G5,e5,rx⟩:=its.yld i G' H' x H5 ds[i] BR k'.gh (Qi hlt) y5;have h6:=hg H' G' _ s5 σ' H5 x u (λσ6 H6=>∃G6,EOk Y.K H' G' G6 H6 σ6 ρ2) (I5.pinned (stat fr5) (T.obj _ _ BE)) r5 ⟨G5,ρ',ds[i],ρ2,k'.ext e5,rx,zs,λσ6 G6 H6 k6 _=>⟨G6,k6⟩⟩;rw[hx]at h6;refine thn h6 λ_ s6 ⟨σ6,H6,I6,G6,k6⟩=>?_;have h7:=ht H' G' _ s6 σ6 H6 (λc H7=>c=b/\∃G7,EOk Y.K H' G' G7 H7 σ6 ρ3) I6 ⟨G6,ρ2,k6,by unfold aft;rw[zt];exact λc G7 H7 k7 _ q=>⟨q,G7,k7⟩⟩
  rw[hx]at h7;refine thn h7 λok s7 ⟨H7,I7,hb7,G7,k7⟩=>?_;subst hb7
  have again:∀{H9:Hp}{σ9:St}{s9:JY},Inv Y (pins++Ve fp s5.heap) σ9 H9 s9->Inv Y pins σ9 H9 s9/\tn (i+1) s9.heap/\∀b∈fp,H9 b=Cu:=λ{H9 σ9 s9} I9=>by refine⟨I9.unpinned,T.keep _ _ _ BE λb hb o e=>(I9.pin (b,o) (QD _ (QD _ (TM hb e)))).1,λb hb=>?_⟩;obtain⟨o,e,d⟩:=T.obj _ _ BE b hb;exact(I9.pin (b,o) (QD _ (QD _ (TM hb e)))).2.1
  have lt:ds.length-(i+1)<ds.length-i:=Nat.sub_lt_sub_left hlt (Nat.lt_succ_self i);cases ok with
  |false=>rw[Qv (by decide)]at zc⊢;obtain⟨J1,J2,J3⟩:=again I7;exact⟨_,lt,i+1,σ6,H7,G7,Kb ρ3,vs',es',rfl,J2,J3,⟨J1,k7.rebase,λa o z q=>k7.bh a o (BX a o z q),BR.trans k7.g0,λa o z q w=>k7.np a o (BX a _ z q) (np' a o z q w),k7.bh _ _ Bg,k7.np _ (.l _) Bg gD',r'.mono k7.g0⟩,zc⟩
  |true=>
   rw[Qo Ct]at zc⊢;cases ze:rd ρ3 es' with
   |none=>rw[ze]at zc;cases zc
   |some pr=>
   obtain⟨es1,ρ5⟩:=pr;rw[ze]at zc;refine hb _ s7 σ6 H' G' H7 G7 ρ3 ρ5 vs' es' es1 _ I7 k7 Bg gD' r' ze λσ9 H9 G9 vs9 s9 L=>?_
   obtain⟨J1,J2,J3⟩:=again L.inv;exact⟨_,lt,i+1,σ9,H9,G9,ρ5,vs9,es1,rfl,J2,J3,⟨J1,L.eok,λa o z q=>L.hh a o z (BX a o z q),BR.trans L.gg,λa o z q w=>L.np a o z (BX a _ z q) (np' a o z q w),L.hd,L.gd,L.rp⟩,zc⟩
 .rw[Ji (QY hlt),cT]at zc
  cases zc;refine thn (T.done Y Ct Ct Ct hc i pins s' σ' H' nox I' (stat fr') tn' (its.stop i G' H' BR k'.gh (QY hlt))) λrr s4 ⟨hr,I6⟩=>?_
  subst hr;exact BJ σ' H' G' vs' s4 ⟨I6,k',BX,BR,np',Bg,gD',r'⟩
end
def T1(Y:Cx)(e:J5)(j:Nat)(tg:J5)(ifs:CC)(rd:RdB):Prop:=
 ∀(D':J0)(it:JX),∃W,S4 Y.prog Y.w Y.A tg ifs Y.env it (.compLoop e j it (.ref D') Y.env) W/\T2 Y D' W rd
section
variable{Y:Cx}{elt tg i:J5}{ifs:CC}{gens:List Comprehension}{scope:Scope}{pos:Pos}{j:Nat}
theorem OG{g:M D}(hx:Y.xe=nox)(hg:gens[j]?=O ⟨tg,i,ifs,0⟩)(hn:gens[j+1]?=Cu)(he:∀B1 G1,PE Y elt (tD Y.K B1 G1 g)):T1 Y (.ListComp elt gens scope pos) j tg ifs (rL g):=
 λ_ _=>⟨_,ET hg hn,ER hx he⟩
end
noncomputable def ZI(l:Bool)(ρ:Ur):Ur:=match l with|true=>KM ρ|false=>Kb ρ
theorem entry{K:Frag}{B G0 G1 H2:Hp}{σ:St}{ρ1:Ur}{D:J0}(l:Bool)(k1:EOk K B G0 G1 H2 σ ρ1)(hfr:H2 D=Cu)(n:Nat) :
  ∃Gb,EOk K (upd H2 D (.lst [])) Gb Gb (upd H2 D (.lst [])) (σ++Ub n Cu) (ZI l ρ1++Ub n Cu)/\Same G1 Gb/\Gb D=Cu /\
   ∀(G' H':Hp) vs es,(l=Cv->es.all flat=Cv)->Same Gb G'->Same H2 H'->Same G' H'->(∀a(u:MO),H2 a=O u.ho->Gb a=Cu->G' a=Cu)->G' D=Cu->Reps K G' vs es->∃Gf,Ext G1 H2 Gf H'/\Gf D=Cu/\Reps K Gf vs es:=by
 have gD:G1 D=Cu:=k1.gh.free hfr;cases l with
 |false=>exact⟨G1,(k1.beside gD).more n,.refl _,gD,λG' H' vs es _ g h gh np d r=>⟨G',⟨h,g,gh,np⟩,d,r⟩⟩
 |true=>exact⟨H2,k1.lend hfr n,k1.gh,hfr,λG' H' vs es fl _ h _ _ _ r=>⟨G1,⟨h,.refl _,k1.gh.trans h,λ_ _ _ n=>n⟩,gD,r.flat (fl Ct)⟩⟩
noncomputable def dCG(l:Bool)(f:M Cy)(k:Nat)(s:D->Ur->CI)(t:M Bool)(rd:RdB):M Cy:=λρ=>match f ρ with
 |.bad=>.bad
 |.ok ds ρ1=>match cT s t rd ds (ZI l ρ1++Ub k Cu) []with
  |none=>.bad
  |some (es,_)=>if l=Cv->es.all flat=Cv then .ok es ρ1 else .bad
theorem Pw{l:Bool}{f:M Cy}{k:Nat}{s:D->Ur->CI}{t:M Bool}{rd:RdB}{ρ ρ':Ur}{es:Cy}(h:dCG l f k s t rd ρ=.ok es ρ'):∃ds ρF,f ρ=.ok ds ρ'/\cT s t rd ds (ZI l ρ'++Ub k Cu) []=O (es,ρF)/\(l=Cv->es.all flat=Cv):=by
 unfold dCG at h;cases zf:f ρ with
 |bad=>rw[zf]at h;cases h
 |ok ds ρ1=>
 rw[zf]at h;dsimp only at h;cases zl:cT s t rd ds (ZI l ρ1++Ub k Cu) []with
 |none=>rw[zl]at h;cases h
 |some pr=>
 obtain⟨esF,ρF⟩:=pr;rw[zl]at h;dsimp only at h;split at h
 .rename_i hf
  cases h;exact⟨ds,ρF,rfl,zl,hf⟩
 .cases h
section
variable{X:Cx}{B G0:Hp}{KX:XW}
def Zy(X:Cx)(N2:List Str)(scope:Scope)(e tg:J5)(ifs:CC)(s:D->Ur->CI)(t:M Bool)(rd:RdB):Prop:=
 ∀(cl:List (Str×J0))(C:J0)(s₀:JY)(H₀:Hp)(ex:CF),(∀B' G',PG (X.blk N2 scope cl C s₀ H₀ ex) tg (tG X.K B' G' s))/\(∀B' G',Ym (X.blk N2 scope cl C s₀ H₀ ex) ifs (tBo X.K B' G' t))/\T1 (X.blk N2 scope cl C s₀ H₀ ex) e 0 tg ifs rd
structure WY(SC scope:Scope)(N1 N2:List Str)(k:Nat):Prop where
 b:Vt scope.names N1 N2 k=Cv
 kind:scope.kind=.function
 names:∀y∈scope.names,scope.names.lookup y.1=O y.2
 free:∀y∈scope.names,y.2=.free->SC.names.lookup y.1=O .cell∨SC.names.lookup y.1=O .free
theorem Ol{l:Bool}{tg elt iter:J5}{ifs:CC}{gs:List Comprehension}{scope:Scope}{pos pos':Pos}{N2:List Str}{k:Nat}{f:M Cy}{s:D->Ur->CI}{t:M Bool}{rd:RdB}{use:Option (JX->Sem Unit)}{Qc:JX->JY->Prop}(hc:X.calm=Cv)
  (hi:PI X tg iter (iD X.K B G0 f)) (CS:Zy X N2 scope (.ListComp elt (⟨tg,iter,ifs,0⟩::gs) scope pos) tg ifs s t rd) (hb:WY X.env.scope scope X.N N2 k) (hs:∀x,Up iter X.env x=pure x)
  {pins:List (J0×Obj)} {s0:JY} {σ:St} {G H:Hp} {ρ ρ1 ρF:Ur} {ds esF:Cy} (I:Inv X pins σ H s0) (k0:EOk X.K B G0 G H σ ρ) (zf:f ρ=.ok ds ρ1) (zl:cT s t rd ds (ZI l ρ1++Ub k Cu) []=O (esF,ρF)) (hfl:l=Cv->esF.all flat=Cv)
  (BJ:∀(C D:J0)(vs:List V)(G' H':Hp)(s4:JY)(m:Str->CB),Inv X pins σ H' s4->s4.heap.Ns C m->H' C=Cu->C≠X.env.locals->X.s₀.heap.objs.size<=C->(∀x c,X.env.cells.lookup x=O c->c≠C)->(∀p∈X.pn++pins,p.1≠C) ->
   EOk X.K B G0 G' H' σ ρ1->Same G G'->NewL X.K B G' H' σ ρ1 D vs esF->compPost (model X.prog X.w) X.A X.xe use Qc (.ref D) C (.ok .next) s4) :
  J7 (model X.prog X.w) X.A (comprehension (.ListComp elt (⟨tg,iter,ifs,0⟩::gs) scope pos) scope X.env pos' (newList []) Cw (eval iter X.env) use) Qc X.xe s0:=by
 obtain⟨BW,hcl,BV,cl2⟩:=Dh (scope:=scope) (env:=X.env) λy hy hf=>I.ok.has y.1 (hb.free y hy hf)
 refine wpAny_comprehension_free (use:=use) Ct hs hcl hb.kind (λy hy hl=>(hb.names y hy).trans (by rw[hl])) (thn (hi pins s0 σ H (λJ H1=>∃G1,EOk X.K B G0 G1 H1 σ ρ1/\Same G G1/\Yx X.K J ds G1) I ⟨G,ρ,k0,by rw[zf];exact λJ G1 H1 k1 s1 it=>⟨G1,k1,s1,it⟩⟩) λv s1 h1=>thn h1 λitv s2 h2=>?_);obtain⟨it,fp,tn,J,H2,rfl,I2,T,st2,f2,G1,k1,sg1,its⟩:=h2;refine wpAny_newObj_type (MX BV cl2 hb.names (λx c e=>let ⟨_,q⟩:=I2.cell x c e;Qy q.lt (by first|exact Qs _|(rw[QS];exact Nat.le_succ _))) λh₁ cl hns₁ kept hco=>?_);dsimp only at hns₁ kept hco⊢;have hfr:H2 s2.heap.objs.size=Cu:=I2.hok.fresh (Qs _)
 have I3:Inv X pins σ (upd H2 s2.heap.objs.size (.lst [])) {s2 with heap:=s2.heap.push {cls:=.type "list", dict:=Cu,data:=.seq ([]:Cz).toArray}}:=
  I2.laid (t':=s2.toks) (λb u e=>Qd _ e) (Qs _) ⟨JN _,[],0,.nil,Qp _ Ct⟩
 generalize hP:s2.heap.push {cls:=.type "list", dict:=Cu,data:=.seq ([]:Cz).toArray}=P at I3 hns₁ kept hco⊢;have old:∀b o,s2.heap.get? b=O o->P.get? b=O o:=λb o e=>hP ▸ Qd _ e;have fpo:∀b∈fp,∃o,s2.heap.get? b=O o:=λb hb=>let ⟨o,e,_⟩:=T.obj _ _ st2 b hb;⟨o,e⟩
 have fpD:∀b∈fp,b≠s2.heap.objs.size:=λb hb=>let ⟨o,e⟩:=fpo b hb;QP (Qf e)
 have f3:∀b∈fp,Ky X pins (upd H2 s2.heap.objs.size (.lst [])) b:=λb hb=>⟨by rw[UR (fpD b hb)];exact(f2 b hb).1,(f2 b hb).2⟩
 have I4:=I3.enter (scope:=scope) (cl:=cl) (N2:=N2) (k:=k) (fp:=fp) (t':=s2.toks) hb.b hb.kind hb.free hco hns₁ kept f3 (λb hb=>let ⟨o,e⟩:=fpo b hb;⟨o,old b o e⟩);dsimp only at I4;obtain⟨Gb,kb,sgb,gbD,ex⟩:=entry l k1 hfr k;have sH:Same H2 (upd H2 s2.heap.objs.size (.lst [])):=KG hfr;have hD3:upd H2 s2.heap.objs.size (.lst []) s2.heap.objs.size=O (.lst []):=U9;generalize upd H2 s2.heap.objs.size (.lst [])=H3 at I3 I4 f3 kb sH hD3;generalize s2.heap.objs.size=D at *;have tn0:tn 0 h₁:=T.keep 0 _ _ st2 λb hb o e=>kept b o (old b o e)
 have stat:∀b∈fp,Ky (X.blk N2 scope cl P.objs.size {s2 with heap:=P} H3 fp) pins H3 b:=λb hb=>by
  obtain⟨z0,z1,z2,z3,z4,z5⟩:=f3 b hb;obtain⟨o,e⟩:=fpo b hb;refine⟨z0,QP (Qf (old b o e)),λz=>?_,.inl hb,λx c q=>(hco.old x c q).elim (z4 x c) λw=>Ju (Nat.lt_trans (Qf (old b o e)) w.1),z5⟩;rcases QC.mp (I3.stkSub b z)with q|q
  .exact z1 q
  .exact z2 q
 have neD:∀a o,H2 a=O o->a≠D:=λa o q z=>by subst z;rw[hfr]at q;cases q
 obtain⟨hg,ht,hcl'⟩:=CS cl P.objs.size {s2 with heap:=P} H3 fp;obtain⟨W,rule,body⟩:=hcl' D (.ref it)
 have loop:=FL (Y:=X.blk N2 scope cl P.objs.size {s2 with heap:=P} H3 fp) (D':=D) (R:=compPost (model X.prog X.w) X.A X.xe use Qc (.ref D) P.objs.size) Ct hc rule hg ht body I4 T tn0 stat kb
  ⟨λi G H s1 s2 hi=>its.go i G H (sgb.trans s1) s2 hi,λi G H s1 s2 hi=>its.stop i G H (sgb.trans s1) s2 hi,λi G H x H' d s1 s2 e y=>its.yld i G H x H' d (sgb.trans s1) s2 e y⟩ hD3 gbD .nil zl λσ' H' G' vs' s4 L=>by
   obtain⟨m,hm,_⟩:=id L.inv.loc;have I7:Inv X pins σ H' s4:=I3.call' (ch:=fp) L.inv.os L.inv.base L.inv.hok L.inv.bare λb hb=>⟨(f3 b hb).2.2.2.1,(f3 b hb).2.1,(f3 b hb).2.2.2.2.1,(f3 b hb).2.2.2.2.2⟩
   obtain⟨Gf,eF,dF,rF⟩:=ex G' H' vs' esF hfl L.gg (λa o q=>L.hh a o (neD a o q) (sH a o q)) L.eok.gh (λa o q z=>L.np a o (neD a _ q) (sH a _ q) z) L.gd L.rp
   refine BJ P.objs.size D vs' Gf H' s4 m I7 hm L.inv.free (Ju I3.lt) I3.sz (λx c e z=>by obtain⟨_,q⟩:=I3.cell x c e;exact absurd q.lt (by rw[z];exact Jw _)) (λp hp z=>by have:=Qf (I3.pin p hp).1;exact absurd this (by rw[z];exact Jw _))
    (k1.ext eF) (sg1.trans eF.g) ⟨k1.bh.free hfr,dF,L.hd,rF,λj es' q z=>?_,λj pt d v fp q s r=>k1.freshD eF.h hfr q s r⟩
   obtain⟨a',ws,h1',h2',h3',h4',h5'⟩:=k1.own j es' q;rw[z]at h1';cases h1';rw[hfr]at h4';cases h4'
 exact codeAny_compStart_list loop (T.self X.A 0 _ _ _ tn0 loop)
theorem NJ{l:Bool}{tg elt iter:J5}{ifs:CC}{gs:List Comprehension}{scope:Scope}{pos:Pos}{N2:List Str}{k:Nat}{f:M Cy}{s:D->Ur->CI}{t:M Bool}{rd:RdB}(hc:X.calm=Cv)
  (hi:PI X tg iter (iD X.K B G0 f)) (CS:Zy X N2 scope (.ListComp elt (⟨tg,iter,ifs,0⟩::gs) scope pos) tg ifs s t rd) (hb:WY X.env.scope scope X.N N2 k) (hs:∀x,Up iter X.env x=pure x:=by intro _;rfl) :
  PE X (.ListComp elt (⟨tg,iter,ifs,0⟩::gs) scope pos) (tL X.K B G0 (dCG l f k s t rd)):=by
 intro pins s0 σ H Q I ⟨G,ρ,k0,a⟩;cases z:dCG l f k s t rd ρ with
 |bad=>rw[z]at a;exact a.elim
 |ok es ρ1=>
 rw[z]at a;obtain⟨ds,ρF,zf,zl,hfl⟩:=Pw z;rw[eval_ListComp];refine Ol hc hi CS hb hs I k0 zf zl hfl λC D vs G' H' s4 m I7 hm hC hL hz hcl hp k' s' n=>?_
 exact⟨m,hm,λh' sb=>⟨.ref D,H',I7.turned (t':=s4.toks) (it:=C) (λb o hb e=>(sb.2 b hb).trans e) hC hL (.inr hz) hcl hp,rfl,a D vs G' H' k' s' n⟩⟩
theorem sD_g{l:Bool}{y:Str}{j:Nat}{py:Pos}{spos:Pos}{tg elt iter:J5}{ifs:CC}{gs:List Comprehension}{scope:Scope}{pos:Pos}{N2:List Str}{k:Nat}{f:M Cy}{s:D->Ur->CI}{t:M Bool}{rd:RdB}(hN:X.N.Nodup)(hj:X.N[j]?=O y)(hy:X.env.scope.names.lookup y=O .local)(hc:X.calm=Cv)
  (hi:PI X tg iter (iD X.K B G0 f)) (CS:Zy X N2 scope (.ListComp elt (⟨tg,iter,ifs,0⟩::gs) scope pos) tg ifs s t rd) (hb:WY X.env.scope scope X.N N2 k) (hs:∀x,Up iter X.env x=pure x:=by intro _;rfl)
  (hsw:swapsWith (.ListComp elt (⟨tg,iter,ifs,0⟩::gs) scope pos) (O (.Name y py)) spos.line X.env=pure Cv:=by rfl) :
  PS X (.Assign [.Name y py] (.ListComp elt (⟨tg,iter,ifs,0⟩::gs) scope pos) spos) (tS X.K B G0 KX (KH j (dCG l f k s t rd))):=by
 intro pins s0 σ H Dn I ⟨G,ρ,k0,a⟩;unfold KH sB at a;cases z:dCG l f k s t rd ρ with
 |bad=>rw[z]at a;exact a.elim
 |ok es ρ1=>
 rw[z]at a;dsimp only at a;by_cases hl:j<ρ1.length
 .rw[Qo hl]at a
  obtain⟨ds,ρF,zf,zl,hfl⟩:=Pw z;rw[exec_Assign_Name_used _ _ _ _ hsw];refine Qb (wpAny_standAt (Qb ?_));show J7 _ X.A (do let _ ←comprehension (.ListComp elt (⟨tg,iter,ifs,0⟩::gs) scope pos) scope X.env _ (newList []) Cw (eval iter X.env) (O (assign (.Name y py) X.env))) _ _ s0;refine Qb (QU (Ol (use:=O (assign (.Name y py) X.env)) (Qc:=λ_ s'=>SP X pins Dn .next s') hc hi CS hb hs I k0 zf zl hfl λC D vs G' H' s4 m I7 hm hC hL hz hcl hp k' s' n=>?_) (λ_ s' hq=>Qk (Qk hq)) λ_ _ e=>e);show J7 _ X.A (assign (.Name y py) X.env (.ref D)) _ _ s4;refine wpAny_assign_Name (O8 I7 hN hj (.inl hy) (v:=.ref D) Ct (λs5 I8 ⟨ad,sb,hx⟩=>?_) (.inr hy))
  have hCa:C≠ad:=by
   rcases hx with e|e
   .rw[e];exact hL
   .exact Ne.symm (hcl y ad e)
  refine⟨m,hm.sameBut sb hCa,λh' Bx=>⟨_,H',I8.turned (t':=s5.toks) (it:=C) (λb o hb e=>(Bx.2 b hb).trans e) hC hL (.inr hz) hcl hp,?_⟩⟩;exact a _ G' H' (k'.setOwn n hl) s'
 .rw[Qv hl]at a;exact a.elim
theorem NI{K:Frag}{f f':M Cy}(h:∀ρ es ρ',f ρ=.ok es ρ'->f' ρ=.ok es ρ'){σ:St}{H:Hp}{Q:VK}(q:tL K B G0 f σ H Q):tL K B G0 f' σ H Q:=by
 obtain⟨G,ρ,k,a⟩:=q;refine⟨G,ρ,k,?_⟩;cases z:f ρ with
 |bad=>rw[z]at a;exact a.elim
 |ok es ρ'=>rw[z]at a;rw[h ρ es ρ' z];exact a
theorem MW{K:Frag}{f f':M Cy}{j:Nat}(h:∀ρ es ρ',f ρ=.ok es ρ'->f' ρ=.ok es ρ'){Dn:_}{σ:St}{H:Hp}(q:tS K B G0 KX (KH j f) Dn σ H):tS K B G0 KX (KH j f') Dn σ H:=by
 obtain⟨G,ρ,k,a⟩:=q;refine⟨G,ρ,k,?_⟩;unfold KH sB at a⊢;cases z:f ρ with
 |bad=>rw[z]at a;exact a.elim
 |ok es ρ'=>rw[z]at a;rw[h ρ es ρ' z];exact a
end
theorem TB{s:D->Ur->CI}{t:M Bool}{g:M D}:∀{ds:Cy}{ρ:Ur}{es esF:Cy},K1 s t g ds ρ es=O esF->∃ρF,cT s t (rL g) ds ρ es=O (esF,ρF)
 |[],ρ,es,esF,h=>by rw[K1]at h;cases h;exact⟨ρ,rfl⟩
 |d::r,ρ,es,esF,h=>by
  rw[K1]at h;rw[cT];cases zs:s d ρ with
  |none=>rw[zs]at h;cases h
  |some ρ1=>
  rw[zs]at h;dsimp only at h⊢;cases zt:t ρ1 with
  |bad=>rw[zt]at h;cases h
  |ok b ρ2=>
  rw[zt]at h;dsimp only at h⊢;cases b with
  |false=>exact TB (ds:=r) h
  |true=>
   rw[Qo Ct]at h⊢;unfold rL;cases zg:g ρ2 with
   |bad=>rw[zg]at h;cases h
   |ok e ρ3=>
   rw[zg]at h;dsimp only at h⊢;split at h
   .rename_i hl
    rw[Qo hl];exact TB (ds:=r) h
   .cases h
theorem Oj{f:M Cy}{k:Nat}{s:D->Ur->CI}{t:M Bool}{g:M D}(ρ:Ur)(es:Cy)(ρ':Ur)(h:KO f k s t g ρ=.ok es ρ'):dCG Cw f k s t (rL g) ρ=.ok es ρ':=by
 unfold KO at h;unfold dCG;cases zf:f ρ with
 |bad=>rw[zf]at h;cases h
 |ok ds ρ1=>
 rw[zf]at h;dsimp only[ZI]at h⊢;cases zl:K1 s t g ds (Kb ρ1++Ub k Cu) []with
 |none=>rw[zl]at h;cases h
 |some esF=>
 rw[zl]at h;cases h;obtain⟨ρF,e⟩:=TB zl;rw[e];exact Qo λz=>by cases z
theorem Db{f:M Cy}{k:Nat}{s:D->Ur->CI}{t:M Bool}{g:M D}(ρ:Ur)(es:Cy)(ρ':Ur)(h:Sb f k s t g ρ=.ok es ρ'):dCG Cv f k s t (rL g) ρ=.ok es ρ':=by
 unfold Sb at h;unfold dCG;cases zf:f ρ with
 |bad=>rw[zf]at h;cases h
 |ok ds ρ1=>
 rw[zf]at h;dsimp only[ZI]at h⊢;cases zl:K1 s t g ds (KM ρ1++Ub k Cu) []with
 |none=>rw[zl]at h;cases h
 |some esF=>
 rw[zl]at h;dsimp only at h;split at h
 .rename_i hf
  cases h;obtain⟨ρF,e⟩:=TB zl;rw[e];exact Qo λ_=>hf
 .cases h
noncomputable def XF(q:Option NameKind->Bool)(SC scope:Scope)(N1 N2:List Str)(k:Nat):Bool:=
 Vt scope.names N1 N2 k&&decide (scope.kind=.function)&&(scope.names.all λy=>decide (scope.names.lookup y.1=O y.2))&&scope.names.all λy=>match y.2 with
  |.free=>q (SC.names.lookup y.1)
  |_=>Cv
noncomputable def W2:Option NameKind->Bool
 |some .cell=>Cv|some .free=>Cv|_=>Cw
theorem Dg{q:Option NameKind->Bool}{SC SC' scope:Scope}{N1 N2:List Str}{k:Nat}(h:XF q SC scope N1 N2 k=Cv)(f:∀x,q (SC.names.lookup x)=Cv->SC'.names.lookup x=O .cell∨SC'.names.lookup x=O .free):WY SC' scope N1 N2 k:=by unfold XF at h;rw[Qw,Qw,Qw,QG,QG]at h;obtain⟨⟨⟨h1,h2⟩,h0⟩,h3⟩:=h;refine⟨h1,Qa h2,λy hy=>Qa (h0 y hy),λy hy e=>?_⟩;have:=h3 y hy;rw[e]at this;exact f _ this
theorem PX{SC scope:Scope}{N1 N2:List Str}{k:Nat}(h:XF W2 SC scope N1 N2 k=Cv):WY SC scope N1 N2 k:=Dg h λx e=>by
 cases z:SC.names.lookup x with
 |none=>rw[z]at e;cases e
 |some y=>rw[z]at e;cases y<;>first|exact .inl rfl|exact .inr rfl|cases e
section
variable{X:Cx}{B G0:Hp}{KX:XW}
theorem NH{l:Bool}{tg elt iter:J5}{ifs:CC}{gs:List Comprehension}{scope:Scope}{pos:Pos}{f:M Cy}{s:D->Ur->CI}{t:M Bool}{rd:RdB}{F:M Cy}(SC:Scope)(N1 N2:List Str)(k:Nat)(le:∀ρ es ρ',F ρ=.ok es ρ'->dCG l f k s t rd ρ=.ok es ρ')(hc:X.calm=Cv)
  (hi:PI X tg iter (iD X.K B G0 f)) (CS:Zy X N2 scope (.ListComp elt (⟨tg,iter,ifs,0⟩::gs) scope pos) tg ifs s t rd) (h1:X.env.scope=SC) (h2:X.N=N1) (hb:XF W2 SC scope N1 N2 k=Cv) (hs:∀x,Up iter X.env x=pure x:=by intro _;rfl) :
  PE X (.ListComp elt (⟨tg,iter,ifs,0⟩::gs) scope pos) (tL X.K B G0 F):=
 UN (NJ hc hi CS (by rw[h1,h2];exact PX hb) hs) λ_ _ _ q=>NI le q
theorem sD_1{l:Bool}{y:Str}{j:Nat}{py:Pos}{spos:Pos}{tg elt iter:J5}{ifs:CC}{gs:List Comprehension}{scope:Scope}{pos:Pos}{f:M Cy}{s:D->Ur->CI}{t:M Bool}{rd:RdB}{F:M Cy}(SC:Scope)(N1 N2:List Str)(k:Nat)(le:∀ρ es ρ',F ρ=.ok es ρ'->dCG l f k s t rd ρ=.ok es ρ')(hN:X.N.Nodup)(hj:X.N[j]?=O y)(hy:X.env.scope.names.lookup y=O .local)(hc:X.calm=Cv)
  (hi:PI X tg iter (iD X.K B G0 f)) (CS:Zy X N2 scope (.ListComp elt (⟨tg,iter,ifs,0⟩::gs) scope pos) tg ifs s t rd) (h1:X.env.scope=SC) (h2:X.N=N1) (hb:XF W2 SC scope N1 N2 k=Cv) (hs:∀x,Up iter X.env x=pure x:=by intro _;rfl)
  (hsw:swapsWith (.ListComp elt (⟨tg,iter,ifs,0⟩::gs) scope pos) (O (.Name y py)) spos.line X.env=pure Cv:=by rfl) :
  PS X (.Assign [.Name y py] (.ListComp elt (⟨tg,iter,ifs,0⟩::gs) scope pos) spos) (tS X.K B G0 KX (KH j F)):=
 Ko (sD_g hN hj hy hc hi CS (by rw[h1,h2];exact PX hb) hs hsw) λ_ _ _ q=>MW le q
end
section
variable{X:Cx}{B G0:Hp}{e a b c tg:J5}{pos:Pos}{es rest:CC}
theorem EOk.given{K:Frag}{G H:Hp}{σ:St}{ρ:Ur}{a:J0}{vs:List V}{ds:Cy}(k:EOk K B G0 G H σ ρ)(n:NewL K B G H σ ρ a vs ds):EOk K B G0 (upd G a (.lst vs)) H σ ρ where
 bh:=k.bh
 gh:=λb u q=>by
  by_cases z:b=a
  .subst z;rw[U9]at q;cases q;exact n.h
  .rw[UR z]at q;exact k.gh b u q
 g0:=k.g0.trans (KG n.g)
 np:=λb o q z=>by
  have zb:b≠a:=λz=>by subst z;rw[n.b]at q;cases q
  rw[UR zb];exact k.np b o q z
 len:=k.len
 pub:=λi d q=>let ⟨v,h1,h2⟩:=k.pub i d q;⟨v,h1,h2.mono (KG n.g)⟩
 own:=λi ds q=>by
  obtain⟨b,ws,h1,h2,h3,h4,h5⟩:=k.own i ds q;have zb:b≠a:=λz=>by subst z;exact n.f i ds q h1
  exact⟨b,ws,h1,h2,by rw[UR zb];exact h3,h4,h5.mono (KG n.g)⟩
 sep:=k.sep
 dp:=k.dp.map (λ_ _ _ q=>⟨q,rfl⟩) (λ_ ds q=>⟨ds,q,rfl⟩) λi p d v fp q s r w nn=>⟨r.mono (KG n.g) (.refl _),λb m=>⟨(w b m).1,by rw[UR (λz=>n.dp i p d v fp q s r (by rw[←z];exact m))];exact(w b m).2⟩⟩
theorem HM{f:M Cy}(h:PE X e (tL X.K B G0 f)):PE X e (tD X.K B G0 (UJ Uc f)):=
 UN h λσ H Q ⟨G,ρ,k,a⟩=>by
  refine⟨G,ρ,k,?_⟩;unfold UJ UB at a;cases z:f ρ with
  |bad=>rw[z]at a;exact a.elim
  |ok ds ρ1=>rw[z]at a;intro ad vs G' H' k' s' n;exact a (.ref ad) _ H' (k'.given n) (s'.trans (KG n.g)) (.lst (SqL.of U9) (n.r.mono (KG n.g)))
theorem FJ(hc:X.calm=Cv):Ys X (.builtin "all") (λxs H Q=>∃l,∃bs:List Bool,xs=[.ref l]/\SqL X.K H l (bs.map V.bl)/\Q (.bl (bs.all id)) H):=by
 intro pins s σ H xs us Q I rx h;obtain⟨l,bs,rfl,hq,q⟩:=h;obtain⟨u,rfl,ru⟩:=rx.one;cases ru;obtain⟨its,rv,p,hz⟩:=I.list hq;have hl:=p.isList;have hlt:l<s.heap.objs.size:=by obtain⟨_,e,_⟩:=id hl;exact Qf e
 have key:∀(i:Nat) v,its.toArray[i]?=O v->∃t,bs[i]?=O t/\v=.bool t:=λi v e=>by
  have e:its[i]?=O v:=by simpa using e
  have hi:i<bs.length:=by
   have:=(Qm.mp e).1;have h2:=rv.length;rw[Qg]at h2
   lia
  obtain⟨u,e2,r2⟩:=rv.get (i:=i) (x:=.bl bs[i]) (by rw[Qx,Qi hi];rfl);rw[e]at e2;cases e2;exact⟨bs[i],Qi hi,r2⟩
 refine call_all_walk (wpAny_pyIter_list hl ?_)
 refine⟨s.heap.objs.size,[s.heap.objs.size,l],[s.heap.objs.size],its.toArray.size,_,_,λi=>(bs[i]?).getD Cv,rfl,Walks.list (A:=X.A.in1) (I.ok.hd hc) _ l (QP hlt) its.toArray,
  ⟨⟨_,Qp _ Ct,rfl,rfl⟩,hl.push _⟩,λi v s' Q' E' hP hQ=>?_,λh' tk hk=>?_⟩
 .obtain⟨b,e,rfl⟩:=key i v hP
  simp only[e,Option.getD_some]at hQ;exact QX hQ
 .have hn:its.toArray.size=bs.length:=by have:=rv.length;rw[List.length_map]at this;simp;lia
  have e:((Ua its.toArray.size).all λi=>(bs[i]?).getD Cv)=bs.all id:=by
   rw[hn,Bool.eq_iff_iff,QG,QG];constructor
   .intro h b hb
    obtain⟨i,hi,e⟩:=List.getElem_of_mem hb;have:=h i (JW.mpr hi);simp only[Qi hi,Option.getD_some,e]at this;exact this
   .intro h i hi
    have hi':=JW.mp hi;simp only[Qi hi',Option.getD_some];exact h _ (JG hi')
  rw[e];exact⟨.bl (bs.all id),H,I.kept (t':=tk) λb x e=>hk b x (λhm=>by rw[QK.mp hm]at e;exact Jw _ (Qf e)) (Qd _ e),rfl,q⟩
noncomputable def Xn:Cy->Option (List Bool)
 |[]=>O []
 |.bool b::r=>(Xn r).map (b :: ·)
 |_=>Cu
theorem Ny{K:Frag}{G:Hp}:∀{vs:List V}{ds:Cy}{bs:List Bool},Reps K G vs ds->Xn ds=O bs->vs=bs.map V.bl
 |_,_,bs,.nil,e=>by cases e;rfl
 |_,_,bs,.cons (d:=d) r t,e=>by
  cases d with
  |bool b=>
   unfold Xn at e;cases z:Xn _ with
   |none=>rw[z]at e;cases e
   |some cs=>rw[z]at e;cases e;rw[r.bl_inv,Ny t z];rfl
  |_=>cases e
noncomputable def K4:Cy->CA
 |[.list ds]=>(Xn ds).map λbs=>.bool (bs.all id)
 |_=>Cu
theorem NG(hc:X.calm=Cv):Xx X (.builtin "all") K4:=by
 refine⟨_,FJ hc,λvs G H ds d Q s r e k=>?_⟩;unfold K4 at e;split at e
 .rename_i ds
  cases z:Xn ds with
  |none=>rw[z]at e;cases e
  |some bs=>rw[z]at e;cases e;obtain⟨v,rfl,q⟩:=r.one_inv;obtain⟨l,ws,rfl,h1,r1⟩:=q.lst_inv;have hw:=Ny r1 z;subst hw;exact⟨l,bs,rfl,s.seq h1,k _ G H (.refl s) (.bl _)⟩
 .cases e
noncomputable def Its(x:Str):It:=⟨λi _=>i<x.cps.size,λi H v H'=>H'=H/\∃c,x.cps[i]?=O c/\v=.str ⟨#[c]⟩,λi _=>x.cps.size<=i⟩
theorem FI{P:JZ}{w:World}{K:Frag}{tg:J5}(x:Str)(t:Tok)(it:J0):Turn P w K tg (Its x) [it] it (λi h=>h.IsStrIter it (strIterType x) x t i) where
 mem:=by simp
 obj:=λi h st b hb=>by
  have e:b=it:=by simpa using hb
  subst e;obtain⟨o,e,c,d⟩:=st;exact⟨o,e,λv z=>by rw[d]at z;cases z⟩
 keep:=λi h h' st k=>by obtain⟨o,e,c,d⟩:=st;exact⟨o,k it (by simp) o e,c,d⟩
 item:=by
  intro X hP hw hK hc i pins s σ H E I hf st hg;subst hP hw hK;obtain⟨f0,f1,f2,f3,f4,f5⟩:=hf it (by simp);have hx:x.cps[i]?=O x.cps[i]:=Array.getElem?_eq_getElem hg
  have fin:∀h' tk(T:String),strIterType x=T->h'.IsStrIter it T x t (i+1)->Heap.SameBut it s.heap h'->["enumerate", "zip", "dict_itemiterator", "dict_reverseitemiterator", "odict_iterator", "itertools.zip_longest", "itertools.pairwise"].contains T=Cw ->
    ∃u,O (Value.str ⟨#[x.cps[i]]⟩ s.toks)=O u/\J7 (model X.prog X.w) X.A (letOwnedTupleGo tg (.ref it) u) (λ_ s2=>∃v H',Inv X pins σ H' s2/\RelV v u/\(Its x).yld i H v H'/\s2.heap.IsStrIter it (strIterType x) x t (i+1)/\∀b∈[it],H' b=Cu) E {s with heap:=h',toks:=tk}:=by
   intro h' tk T eT st' sb hn;have I1:Inv X pins σ H {s with heap:=h',toks:=tk}:=I.turned (t':=tk) (λb o hb e=>(sb.2 b hb).trans e) f0 f1 f3 f4 f5;obtain⟨o,e,c,d⟩:=id st';refine⟨_,rfl,VN (s:={s with heap:=h',toks:=tk}) e c d hn ⟨.str ⟨#[x.cps[i]]⟩,H,I1,⟨_,rfl⟩,⟨rfl,_,hx,rfl⟩,by rw[eT];exact st',λb hb=>(hf b hb).1⟩⟩
  cases ha:x.cps.all (· < 128)with
  |true=>
   have eT:strIterType x = "str_ascii_iterator" :=by simp[strIterType,ha]
   rw[eT]at st;exact wpAny_pyNext_ascii_item st hx λh' st' sb=>fin h' _ _ eT st' sb (by decide)
  |false=>
   have eT:strIterType x = "str_iterator" :=by simp[strIterType,ha]
   rw[eT]at st;exact wpAny_pyNext_wide_item st hx λh' st' sb=>fin h' _ _ eT st' sb (by decide)
 done:=by
  intro X hP hw hK hc i pins s σ H E I hf st hg;subst hP hw hK;obtain⟨f0,f1,f2,f3,f4,f5⟩:=hf it (by simp);have hx:x.cps[i]?=Cu:=Array.getElem?_eq_none hg;cases ha:x.cps.all (· < 128)with
  |true=>
   have eT:strIterType x = "str_ascii_iterator" :=by simp[strIterType,ha]
   rw[eT]at st;exact wpAny_pyNext_ascii_end (I.ok.hd hc) st hx λh' eb=>⟨rfl,I.turned (t':=s.toks) (λb o hb e=>eb b o hb e) f0 f1 f3 f4 f5⟩
  |false=>
   have eT:strIterType x = "str_iterator" :=by simp[strIterType,ha]
   rw[eT]at st;exact wpAny_pyNext_wide_end (I.ok.hd hc) st hx λh' eb=>⟨rfl,I.turned (t':=s.toks) (λb o hb e=>eb b o hb e) f0 f1 f3 f4 f5⟩
 self:=λA i s Q E st h=>by
  cases ha:x.cps.all (· < 128)with
  |true=>
   have eT:strIterType x = "str_ascii_iterator" :=by simp[strIterType,ha]
   rw[eT]at st;exact wpAny_pyIter_striter_ascii st h
  |false=>
   have eT:strIterType x = "str_iterator" :=by simp[strIterType,ha]
   rw[eT]at st;exact wpAny_pyIter_striter_wide st h
noncomputable def iAny(K:Frag)(tl:TE):TI:=λσ H R=>tl σ H λx H1=>(∃a,x=.ref a/\(∃xs,SqL K H1 a xs)/\R (Itl K a) H1)∨(∃a,x=.ref a/\(∃xs,SqT K H1 a xs)/\R (Itt K a) H1) ∨ ∃z,x=.str z/\R (Its z) H1
theorem MV{l:J5}{tl:TE}(hl:PE X l tl):PI X tg l (iAny X.K tl):=by
 intro pins s σ H R I h;refine thn (hl pins s σ H _ I h) λv s1 ⟨x,H1,I1,r1,q1⟩=>?_
 have fpOk:∀b∈[s1.heap.objs.size],Ky X pins H1 b:=λb hb=>by
  have e:b=s1.heap.objs.size:=by simpa using hb
  subst e;exact I1.fpOk (Qs _) (I1.hok.fresh (Qs _))
 rcases q1 with ⟨a,e,⟨xs,hq⟩,q⟩|⟨a,e,⟨xs,hq⟩,q⟩|⟨z,e,q⟩
 .subst e
  cases r1;obtain⟨its,rv,p,hz⟩:=I1.list hq;refine wpAny_pyIter_list p.isList ?_;exact⟨s1.heap.objs.size,[s1.heap.objs.size],_,_,H1,rfl,I1.kept (t':=s1.toks) λb o e=>Qd _ e,DC a _,⟨_,Qp _ Ct,rfl,rfl⟩,fpOk,q⟩
 .subst e
  cases r1;obtain⟨its,rv,p,hz⟩:=I1.tuple hq;refine wpAny_pyIter_tuple p ?_;exact⟨s1.heap.objs.size,[s1.heap.objs.size],_,_,H1,rfl,I1.kept (t':=s1.toks) λb o e=>Qd _ e,Dw a _,⟨_,Qp _ Ct,rfl,rfl⟩,fpOk,q⟩
 .subst e
  obtain⟨t,rfl⟩:=r1;refine wpAny_pyIter_strU ?_;exact⟨s1.heap.objs.size,[s1.heap.objs.size],_,_,H1,rfl,I1.kept (t':=s1.toks) λb o e=>Qd _ e,FI z t _,⟨_,Qp _ Ct,rfl,rfl⟩,fpOk,q⟩
noncomputable def ZP(z:Str):Cy:=z.cps.toList.map λc=>.str ⟨#[c]⟩
noncomputable def SK:D->Option Cy
 |.list ds=>O ds
 |.tuple ds=>O ds
 |.str z=>O (ZP z)
 |_=>Cu
theorem D9{K:Frag}{G1:Hp}{ad:J0}{vs:List V}{ds:Cy}(h:SqT K G1 ad vs)(r:Reps K G1 vs ds):Yx K (Itt K ad) ds G1 where
 go:=λi G H s1 s2 hi=>by
  have hi':i<vs.length:=by rw[r.length];exact hi
  exact⟨vs,vs[i],Zr (s1.trans s2) h,Qi hi'⟩
 stop:=λi G H s1 s2 hi=>⟨vs,Zr (s1.trans s2) h,by rw[r.length];exact hi⟩
 yld:=λi G H x H' d s1 s2 e y=>by obtain⟨rfl,y⟩:=y;obtain⟨v,e1,r1⟩:=r.get e;have:=y vs (Zr (s1.trans s2) h);rw[e1]at this;cases this;exact⟨G,.refl s2,r1.mono s1⟩
theorem Da{K:Frag}{G1:Hp}{z:Str}:Yx K (Its z) (ZP z) G1 where
 go:=λi G H s1 s2 hi=>by unfold ZP at hi;simpa[Its]using hi
 stop:=λi G H s1 s2 hi=>by unfold ZP at hi;simpa[Its]using hi
 yld:=λi G H x H' d s1 s2 e y=>by
  obtain⟨rfl,c,hc,rfl⟩:=y;unfold ZP at e;rw[Qx]at e;have:z.cps.toList[i]?=O c:=by simpa using hc
  rw[this]at e;cases e;exact⟨G,.refl s2,.str _⟩
noncomputable def KQ(f:M D):M Cy:=UB f λx=>Uz (SK x)
theorem Sh{f:M D}(h:PE X e (tD X.K B G0 f)):PI X tg e (iD X.K B G0 (KQ f)):=YL (MV h) λσ H R q=>tM.toI (R0:=Rep X.K) q λv H' G' ρ' x k r a=>by
 cases x with
 |list ds=>obtain⟨ad,vs,rfl,h1,r1⟩:=r.lst_inv;exact .inl ⟨ad,rfl,⟨vs,k.gh.seq h1⟩,a _ G' H' k (.refl _) (Dj h1 r1)⟩
 |tuple ds=>obtain⟨ad,vs,rfl,h1,r1⟩:=r.tup_inv;exact .inr (.inl ⟨ad,rfl,⟨vs,Zr k.gh h1⟩,a _ G' H' k (.refl _) (D9 h1 r1)⟩)
 |str z=>have:=r.str_inv;subst this;exact .inr (.inr ⟨z,rfl,a _ G' H' k (.refl _) Da⟩)
 |_=>exact a.elim
theorem Inv.big{pins:List (J0×Obj)}{σ:St}{H:Hp}{s:JY}(I:Inv X pins σ H s):sysModules<s.heap.objs.size:=by have h:mainGlobals<s.heap.objs.size:=(I.mod.glob.keeps I.bk).lt;exact Nat.lt_trans (by decide) h
theorem FH{P:JZ}{w:World}{H:Hp}(h:Heap)(hb:sysModules<h.objs.size):KW P w H (h.push {cls:=.type "dict", data:=.dict #[]}) h.objs.size (.dK []):=
 ⟨JN _,beq_eq_false_iff_ne.mpr (Ne.symm (QP hb)),[],.nil,Heap.DictOf.new h⟩
theorem HL:PE X (.Dict [] [] pos) (λσ H Q=>∀d,H d=Cu->Q (.ref d) (upd H d (.dK []))):=λpins s σ H Q I h=>
 wpAny_Dict_empty ⟨.ref s.heap.objs.size,_,I.laid (a:=s.heap.objs.size) (o:=.dK []) (t':=s.toks) (λ_ _ q=>Qd _ q) (Qs _) (FH s.heap (Inv.big I)),rfl,h _ (I.hok.fresh (Qs _))⟩
theorem PV:PE X (.Dict [] [] pos) (tD X.K B G0 (Us (.dict []))):=UN HL λσ H Q ⟨G,ρ,k,a⟩ d hd=>aft.done a k (Ext.new k.gh hd) (.dic U9)
noncomputable def inS(i j:Str):Bool:=!(Builtin.Str.occurrences j i 0 j.length 1).isEmpty
noncomputable def oInS:D->D->CL
 |.str i,.str j=>O (inS i j)
 |_,_=>Cu
noncomputable def Rq:D->D->CL
 |.str i,.str j=>O (!inS i j)
 |_,_=>Cu
theorem Mx:OpB X (J9 .In) oInS:=⟨_,Dy,λv u G H x y d Q s rx ry e k=>by
 unfold oInS at e;split at e
 .cases e
  have:=rx.str_inv;subst this;have:=ry.str_inv;subst this;exact⟨_,_,rfl,rfl,k⟩
 .cases e⟩
theorem MU:OpB X (J9 .NotIn) Rq:=⟨_,Cj,λv u G H x y d Q s rx ry e k=>by
 unfold Rq at e;split at e
 .cases e
  have:=rx.str_inv;subst this;have:=ry.str_inv;subst this;exact⟨_,_,rfl,rfl,k⟩
 .cases e⟩
theorem Mw{x:Str}{i:Int}(hg:Gl X x)(hm:∃t,X.mg x=O (.int i t))(hd:(x==("__debug__" : Str))=Cw:=by decide):PE X (.Name x pos) (tD X.K B G0 (Us (.int i))):=by obtain⟨t,hm⟩:=hm;exact UN (Te (v:=.int i) hg hm ⟨t,rfl⟩ hd) λσ H Q ⟨G,ρ,k,a⟩=>aft.now a k (.int _)
theorem Mv{x:Str}{z:Str}(hg:Gl X x)(hm:∃t,X.mg x=O (.str z t))(hd:(x==("__debug__" : Str))=Cw:=by decide):PE X (.Name x pos) (tD X.K B G0 (Us (.str z))):=by obtain⟨t,hm⟩:=hm;exact UN (Te (v:=.str z) hg hm ⟨t,rfl⟩ hd) λσ H Q ⟨G,ρ,k,a⟩=>aft.now a k (.str _)
end
section
variable{X:Cx}{B G0:Hp}{KX:XW}{e o a b c tg i:J5}{pos p2:Pos}{es rest:CC}{te to ti:TE}
noncomputable def KF(z:Str)(lo hi:CH):Str:=if(Builtin.Str.strSliceIndices lo hi 1 z.length).length=z.length then z else⟨((Builtin.Str.strSliceIndices lo hi 1 z.length).filterMap (z.cps[·]?)).toArray⟩
theorem MT:SlR X (λx lo hi H Q=>∃z,x=.str z/\(KF z lo hi).length<=J6/\Q (.str (KF z lo hi)) H):=by
 intro pins s σ H x v vl vu lo hi sl Q I rx hs pl pu h;obtain⟨z,rfl,hz,q⟩:=h;obtain⟨t,rfl⟩:=rx;refine⟨"str", _,F.slot_str_getitem.lookup,Jn s z t,?_⟩
 obtain⟨l,el,e1⟩:∃l:Option (Int×Tok),vl=partValue l/\l.map (·.1)=lo:=by
  cases pl with
  |none=>exact⟨Cu,rfl,rfl⟩
  |int k t'=>exact⟨O (k,t'),rfl,rfl⟩
 obtain⟨u,eu,e2⟩:∃u:Option (Int×Tok),vu=partValue u/\u.map (·.1)=hi:=by
  cases pu with
  |none=>exact⟨Cu,rfl,rfl⟩
  |int k t'=>exact⟨O (k,t'),rfl,rfl⟩
 subst el eu;refine wpAny_getItem_str_slice (l:=l) (u:=u) (st:=Cu) hs Ct ?_;unfold sliceMade slicePicked;rw[e1,e2];unfold KF at hz q;by_cases hw:(Builtin.Str.strSliceIndices lo hi 1 z.length).length=z.length
 .rw[Qo hw]at hz q
  rw[if_pos (by simp[hw])];exact⟨.str z,H,I,⟨t,rfl⟩,q⟩
 .rw[Qv hw]at hz q
  rw[if_neg (by simp[hw])];exact⟨hz,.str _,H,I.tok _,⟨_,rfl⟩,q⟩
noncomputable def YD(sep:Str):List Str->Str
 |[z]=>z
 |zs=>Builtin.Str.glued sep zs
noncomputable def Tz(sep:Str)(zs:List Str):Bool:=decide (zs.toArray.foldl (λn z=>n+z.length+sep.length) 0<=1000000)&&decide ((YD sep zs).length<=1000000)
theorem OF:∀{zs:List Str}{us:Cz},Vals (zs.map V.str) us->∃l:List (Str×Tok),us=strValues l/\l.map (·.1)=zs
 |[],_,.nil=>⟨[],rfl,rfl⟩
 |z::zs,_,.cons h t=>by obtain⟨tk,rfl⟩:=h;obtain⟨l,e1,e2⟩:=OF t;exact⟨(z,tk)::l,by rw[e1];rfl,by rw[←e2];rfl⟩
theorem HK:MtR X "str.join" (λx vs H Q=>∃sep l zs,x=.str sep/\vs=[.ref l]/\SqL X.K H l (zs.map V.str)/\Tz sep zs=Cv/\Q (.str (YD sep zs)) H):=by
 intro pins s σ H x vs v us Q I rx rv h;obtain⟨sep,l,zs,rfl,rfl,hq,hf,q⟩:=h;obtain⟨t,rfl⟩:=rx;obtain⟨u,rfl,ru⟩:=rv.one;cases ru;obtain⟨its,r,p,hz⟩:=I.list hq;obtain⟨ls,rfl,e2⟩:=OF r;unfold Tz at hf;simp only[Qw,Q4]at hf;have lm:=lim1
 refine Jo F.slot_str_join (Jn s sep t) F.entry_str_join (F.args_str_join_2 _ _) (meets_str_join_list sep t l ls (by
  rw[e2];unfold Builtin.Str.tooLong;simp only[Q7,Nat.not_lt,gt_iff_lt]
  lia)) ⟨p.isList,?_⟩
 have key:(joinMade sep ls).post (λv s'=>EP X pins σ Q v s') s:=by
  cases ls with
  |nil=>subst e2;exact⟨Qn hf.2 lm,.str _,H,I.tok _,⟨_,rfl⟩,q⟩
  |cons p0 r0=>cases r0 with
   |nil=>subst e2;exact⟨.str _,H,I,⟨_,rfl⟩,q⟩
   |cons p1 r1=>subst e2;exact⟨Qn hf.2 lm,.str _,H,I.tok _,⟨_,rfl⟩,q⟩
 exact key
noncomputable def XE:Cy->Option (List Str)
 |[]=>O []
 |.str z::r=>(XE r).map (z :: ·)
 |_=>Cu
theorem Nl{K:Frag}{G:Hp}:∀{vs:List V}{ds:Cy}{zs:List Str},Reps K G vs ds->XE ds=O zs->vs=zs.map V.str
 |_,_,zs,.nil,e=>by cases e;rfl
 |_,_,zs,.cons (d:=d) r t,e=>by
  cases d with
  |str b=>
   unfold XE at e;cases z:XE _ with
   |none=>rw[z]at e;cases e
   |some cs=>rw[z]at e;cases e;rw[r.str_inv,Nl t z];rfl
  |_=>cases e
noncomputable def Yw(sep:D)(xs:Cy):CA:=match sep,xs with
 |.str sep,[.list ds]=>(match XE ds with
  |some zs=>if Tz sep zs=Cv then O (.str (YD sep zs))else Cu
  |none=>Cu)
 |_,_=>Cu
noncomputable def Yc(f:M D)(g:M Cy):M D:=UB f λx=>UB g λxs=>Uz (Yw x xs)
theorem S3{apos cpos:Pos}{f:M D}{g:M Cy}(ho:PE X o (tD X.K B G0 f))(ha:PA X (e::es) (tDs X.K B G0 g))
  (hbase:attributeBase o "join" X.env (eval o X.env)=eval o X.env:=by rfl)
  (hfew:((backTo cpos (J8 (e::es) X.env)).all (λx=>!x.1)&&(backToKw cpos (keywordEach [] X.env)).all (λx=>x.1.isSome)
   && decide ((e::es).length+([]:List Keyword).length+(if([]:List Keyword).isEmpty then 0 else 1)<30))=Cv:=by rfl)
  (hline:(apos.endLine==cpos.line)=Cv:=by rfl) (hs:J8 (e::es) X.env=(Cw,eval e X.env)::J8 es X.env:=by rfl) (hplain:(backTo cpos (J8 es X.env)).any (·.1)=Cw:=by rfl) :
  PE X (.Call (.Attribute o "join" apos) (e::es) [] cpos) (tD X.K B G0 (Yc f g)):=
 UN (Wr F.plainAttrs_str F.slot_str_join F.type_str_join HK ho ha hbase hfew hline hs hplain) λσ H Q q=>by
  refine tM.one (R:=Rep X.K) q λv H2 G ρ x k r a=>?_
  cases x with
  |str sep=>
   have:=r.str_inv;subst this;refine⟨rfl,?_⟩;refine tM.nx (R:=Reps X.K) k a λxs H3 G3 ρ3 ds k3 s3 r3 a3=>?_;unfold Uz Yw at a3
   split at a3
   .rename_i d hd
    split at hd
    .rename_i _ _ sep' ds' e1
     cases e1;split at hd
     .rename_i zs ez
      split at hd
      .rename_i hf
       cases hd;obtain⟨v,rfl,q⟩:=r3.one_inv;obtain⟨l,ws,rfl,h1,r1⟩:=q.lst_inv;have:=Nl r1 ez;subst this;exact⟨sep,l,zs,rfl,rfl,k3.gh.seq h1,hf,aft.now a3 k3 (.str _)⟩
      .cases hd
     .cases hd
    .cases hd
   .exact a3.elim
  |_=>
   unfold UB at a;cases z:g ρ with
   |bad=>rw[z]at a;exact a.elim
   |ok xs ρ1=>rw[z]at a;exact a.elim
end
section
variable{X:Cx}{B G0:Hp}{KX:XW}{e o a b c tg i:J5}{pos p2:Pos}{es rest:CC}{te to ti:TE}
theorem pvb(i:Nat){x:Str}{pos:Pos}{N':List Str}{scope:Scope}{cl:List (Str×J0)}{C:J0}{s₀:JY}{H₀:Hp}{ex:CF}(hN:N'[i]?=O x:=by rfl)
  (h:visK (scope.names.lookup x)=Cv:=by rfl) (hd:(x==("__debug__" : Str))=Cw:=by decide) (hcd:(x==("__classdict__" : Str))=Cw:=by decide) :
  PE (X.blk N' scope cl C s₀ H₀ ex) (.Name x pos) (U1 i):=Pg hN (HP h) hd hcd
noncomputable def KL:D->CH->CH->CA
 |.list xs,lo,hi=>O (.list (DL.cutD xs lo hi))
 |.str z,lo,hi=>if(KF z lo hi).length<=1000000 then O (.str (KF z lo hi))else Cu
 |_,_,_=>Cu
noncomputable def UU(f:M D)(lo hi:M CH):M D:=UB f λx=>UB lo λl=>UB hi λh=>Uz (KL x l h)
theorem Rf{lo hi:Option J5}{f:M D}{l h:M CH}(he:PE X e (tD X.K B G0 f))(hl:PO X lo (tOi X.K B G0 l))(hu:PO X hi (tOi X.K B G0 h)) :
  PE X (.Subscript e (.Slice lo hi Cu p2) pos) (tD X.K B G0 (UU f l h)):=
 UN (EB (GY.or MT) he hl hu) λσ H Q q=>by
  refine tM.one (R:=Rep X.K) q λv H2 G ρ x k r a=>?_;refine tM.nx (R:=λ_ b c=>b=c) k a λl' H3 G3 ρ3 xl k3 s3 r3 a3=>?_;refine tM.nx (R:=λ_ b c=>b=c) k3 a3 λh' H4 G4 ρ4 xh k4 s4 r4 a4=>?_;have r3:l'=xl:=r3;have r4:h'=xh:=r4;subst r3 r4;unfold Uz KL at a4
  cases x with
  |list xs=>obtain⟨ad,vs,rfl,h1,r1⟩:=((r.mono s3).mono s4).lst_inv;exact .inl ⟨ad,vs,rfl,k4.gh.seq h1,λp hp=>aft.done a4 k4 (Ext.new k4.gh hp) (.lst (SqL.of U9) ((r1.cut l' h').mono (KG (k4.gh.free hp))))⟩
  |str z=>
   dsimp only at a4;have:=r.str_inv;subst this;by_cases hc:(KF z l' h').length<=1000000
   .rw[Qo hc]at a4
    exact .inr ⟨z,rfl,Qn hc lim,aft.now a4 k4 (.str _)⟩
   .rw[Qv hc]at a4;exact a4.elim
  |_=>exact a4.elim
end
section
variable{X:Cx}{B G0:Hp}{e o a b c tg:J5}{pos p2:Pos}{es rest:CC}{te to ti:TE}
noncomputable def Kg{β:Type}(p:D->D->Option β)(i:Nat)(g:M D):M β:=λρ=>match ρ[i]? with
 |some (O (.pub d))=>(UB g λy=>Uz (p d y)) ρ
 |some (O (.own _))=>(UB g λy=>λρ'=>match ρ'[i]? with|some (O (.own ds))=>Uz (p (.list ds) y) ρ'|_=>.bad) ρ
 |_=>.bad
theorem Rp{K:Frag}{σ:St}{H:Hp}{p:D->D->CL}{r:R2}{i:Nat}{g:M D}{Q:Bool->Hp->Prop}{QV:VK}(hq:∀t H3,Q t H3->QV (.bl t) H3)(hr:∀v u G H x y d Q,Same G H->Rep K G v x->Rep K G u y->p x y=O d->Q (.bl d) H->r v u H Q)
  (q:tBo K B G0 (Kg p i g) σ H Q):U1 i σ H λx H1=>tD K B G0 g σ H1 λy H2=>r x y H2 QV:=by
 obtain⟨G,ρ,k,a⟩:=q;unfold Kg at a;cases q:ρ[i]? with
 |none=>rw[q]at a;exact a.elim
 |some o=>
  cases o with
  |none=>rw[q]at a;exact a.elim
  |some sl=>
   cases sl with
   |deep _ _=>rw[q]at a;exact a.elim
   |pub d=>
    rw[q]at a;obtain⟨v,h1,h2⟩:=k.pub i d q;refine⟨v,h1,G,ρ,k,?_⟩;dsimp only[UB]at a;cases z:g ρ with
    |bad=>rw[z]at a;exact a.elim
    |ok y ρ1=>rw[z]at a;intro u G' H' k' s' r';obtain⟨d',e',a'⟩:=aft.opt a;exact hr v u G' H' d y d' _ k'.gh (h2.mono s') r' e' (hq _ _ (a' d' G' H' k' s' Ct))
   |own ds=>
    rw[q]at a;obtain⟨ad,vs,h1,h2,h3,h4,h5⟩:=k.own i ds q;refine⟨.ref ad,h1,G,ρ,k,?_⟩;dsimp only[UB]at a;cases z:g ρ with
    |bad=>rw[z]at a;exact a.elim
    |ok y ρ1=>
     rw[z]at a;dsimp only at a;intro u G' H' k' s' r';cases q1:ρ1[i]? with
     |none=>rw[q1]at a;exact a.elim
     |some oo=>
      cases oo with
      |none=>rw[q1]at a;exact a.elim
      |some sl1=>
       cases sl1 with
       |deep _ _=>rw[q1]at a;exact a.elim
       |pub d1=>rw[q1]at a;exact a.elim
       |own ds1=>
        rw[q1]at a;dsimp only at a;obtain⟨ad',ws,g1,g2,g3,g4,g5⟩:=k'.own i ds1 q1;rw[h1]at g1;cases g1;obtain⟨d',e',a'⟩:=aft.opt a;have sg:Same G' (upd G' ad (.lst ws)):=KG g3
        have sh:Same (upd G' ad (.lst ws)) H':=λb o q=>by
         by_cases z:b=ad
         .subst z;rw[U9]at q;cases q;exact g4
         .rw[UR z]at q;exact k'.gh b o q
        exact hr (.ref ad) u _ H' (.list ds1) y d' _ sh (.lst (SqL.of U9) (g5.mono sg)) (r'.mono sg) e' (hq _ _ (a' d' G' H' k' s' Ct))
theorem Tk{op:CmpOp}{p:D->D->CL}{i:Nat}{g:M D}(o:OpB X (J9 op) p)(ha:PE X a (U1 i))(hb:PE X b (tD X.K B G0 g))(hm:behindInMarks op b=Cw) :
  PT X (.Compare a [op] [b] pos) (tBo X.K B G0 (Kg p i g)):=by
 obtain⟨r,h,j⟩:=o;exact Zv (SI h ha hb hm) λσ H Q q=>Rp (λt H3 z=>⟨t,rfl,z⟩) j q
theorem HJ{op:CmpOp}{p:D->D->CL}{i:Nat}{g:M D}(o:OpB X (J9 op) p)(ha:PE X a (U1 i))(hb:PE X b (tD X.K B G0 g))(hm:behindInMarks op b=Cw) :
  PE X (.Compare a [op] [b] pos) (tD X.K B G0 (UJ Ud (Kg p i g))):=by
 obtain⟨r,h,j⟩:=o;exact UN (P4 h ha hb hm) λσ H Q q=>Rp (λt H3 z=>z) j (tBo.val q)
end
end DL
namespace L2
open PySem PySem.Spec PyProof.Rows
end L2
namespace DL
open PySem PySem.Spec L2
open PyProof.Rows hiding St
section
variable{X:Cx}{B G0:Hp}{e a b c tg:J5}{pos:Pos}{es rest:CC}
noncomputable def ZS(xs ys:Cy):Cy:=(xs.zip ys).map λp=>.tuple [p.1,p.2]
end
section
variable{X:Cx}{B G0:Hp}{e o a b c tg:J5}{pos p2 p3:Pos}{es rest:CC}{te to ti:TE}
noncomputable def oIn:D->D->CL
 |.str i,.str j=>O (inS i j)
 |x,.list xs=>if x.canLay0=Cv/\Ug xs=Cv/\x.depth<=60 then O (xs.any λy=>Ui y x)else Cu
 |x,.tuple xs=>if x.canLay0=Cv/\Ug xs=Cv/\x.depth<=60 then O (xs.any λy=>Ui y x)else Cu
 |_,_=>Cu
noncomputable def oNin(x y:D):CL:=(oIn x y).map λt=>!t
noncomputable def ZY(x y:D):CL:=match y with
 |.list xs=>if x.canLay0=Cv/\Ug xs=Cv/\x.depth<=60 then O (xs.any λy=>Ui y x)else Cu
 |.tuple xs=>if x.canLay0=Cv/\Ug xs=Cv/\x.depth<=60 then O (xs.any λy=>Ui y x)else Cu
 |_=>Cu
theorem Mu(hu:X.A.units+64<cLine):OpB X (J9 .In) ZY:=by
 refine⟨λv u H Q=>∃G x y d,Same G H/\Rep X.K G v x/\Rep X.K G u y/\ZY x y=O d/\Q (.bl d) H,?_,λv u G H x y d Q s rx ry e k=>⟨G,x,y,d,s,rx,ry,e,k⟩⟩;intro pins s σ H x y v u Q I rx ry ⟨G,dx,dy,d,sg,px,py,e,q⟩;unfold ZY at e;split at e
 .split at e
  .rename_i c
   cases e;obtain⟨as,ra⟩:=ZV I sg px rx c.1;obtain⟨bs,rb⟩:=ZV I sg py ry (show Ug _=Cv from c.2.1);exact SeqAt.in_list_reads rb ra c.2.1 c.1 (by have:=c.2.2;lia) ⟨.bl _,H,I,rfl,q⟩
  .cases e
 .split at e
  .rename_i c
   cases e;obtain⟨as,ra⟩:=ZV I sg px rx c.1;obtain⟨bs,rb⟩:=ZV I sg py ry (show Ug _=Cv from c.2.1);exact SeqAt.in_tuple_reads rb ra c.2.1 c.1 (by have:=c.2.2;lia) ⟨.bl _,H,I,rfl,q⟩
  .cases e
 .cases e
theorem MS(hu:X.A.units+64<cLine):OpB X (J9 .NotIn) (λx y=>(ZY x y).map λt=>!t):=by
 refine⟨λv u H Q=>∃G x y d,Same G H/\Rep X.K G v x/\Rep X.K G u y/\(ZY x y).map (λt=>!t)=O d/\Q (.bl d) H,?_,λv u G H x y d Q s rx ry e k=>⟨G,x,y,d,s,rx,ry,e,k⟩⟩;intro pins s σ H x y v u Q I rx ry ⟨G,dx,dy,d,sg,px,py,e,q⟩;unfold ZY at e;split at e
 .split at e
  .rename_i c
   cases e;obtain⟨as,ra⟩:=ZV I sg px rx c.1;obtain⟨bs,rb⟩:=ZV I sg py ry (show Ug _=Cv from c.2.1);exact SeqAt.notIn_list_reads rb ra c.2.1 c.1 (by have:=c.2.2;lia) ⟨.bl _,H,I,rfl,q⟩
  .cases e
 .split at e
  .rename_i c
   cases e;obtain⟨as,ra⟩:=ZV I sg px rx c.1;obtain⟨bs,rb⟩:=ZV I sg py ry (show Ug _=Cv from c.2.1);exact SeqAt.notIn_tuple_reads rb ra c.2.1 c.1 (by have:=c.2.2;lia) ⟨.bl _,H,I,rfl,q⟩
  .cases e
 .cases e
theorem B_in(hu:X.A.units+64<cLine):OpB X (J9 .In) oIn:=(Mx.or (Mu hu)).congr λx y=>by cases x<;>cases y<;>rfl
theorem Mt(hu:X.A.units+64<cLine):OpB X (J9 .NotIn) oNin:=(MU.or (MS hu)).congr λx y=>by cases x<;>cases y<;>rfl
theorem E9{tl th ts:TO}{lo hi:Option J5}{st:J5}(he:PE X e te)(hl:PO X lo tl)(hu:PO X hi th)(hst:PO X (O st) ts):PE X (.Subscript e (.Slice lo hi (O st) p2) pos)
  (λσ H Q=>te σ H λx H1=>tl σ H1 λl H2=>th σ H2 λu H3=>ts σ H3 λt H4=>∃a xs,x=.ref a/\SqL X.K H4 a xs/\l=Cu/\u=Cu/\t=O (-1)/\∀p,H4 p=Cu->Q (.ref p) (upd H4 p (.lst xs.reverse))):=by
 intro pins s σ H Q I h;refine Subscript_ (thn (he pins s σ H _ I h) λv s1 ⟨x,H1,I1,r1,q1⟩=>?_);refine wpAny_Slice (thn (hl pins s1 σ H1 _ I1 q1) λvl s2 ⟨l,H2,I2,pl,q2⟩=>thn (hu pins s2 σ H2 _ I2 q2) λvu s3 ⟨u,H3,I3,pu,q3⟩=>thn (hst pins s3 σ H3 _ I3 q3) λvt s4 ⟨t,H4,I4,pt,q4⟩=>?_);obtain⟨a,xs,rfl,hx,rfl,rfl,rfl,q⟩:=q4;cases r1;have I5:Inv X pins σ H4 {s4 with heap:=s4.heap.push {cls:=.type "slice", data:=.fields #[vl,vu,vt]}}:=I4.kept (t':=s4.toks) λb ob q=>Qd _ q
 obtain⟨its,r,ht,hz⟩:=I5.list hx;have hlen:=r.length;have hg:J7 (model X.prog X.w) X.A (getItem (.ref a) (.ref s4.heap.objs.size)) (EP X pins σ Q) X.xe {s4 with heap:=s4.heap.push {cls:=.type "slice", data:=.fields #[vl,vu,vt]}}:=by refine wpAny_getItem_list_slice ht.isList (Heap.IsSliceOf.new ..) pl pu pt (by simp) ?_ (by rw[List.size_toArray]<;>lia);rw[PySem.W.krv_pick];refine⟨.ref _,_,I5.laid (t':=s4.toks) (o:=.lst xs.reverse) (λb ob q=>Qd _ q) (Qs _) ?_,rfl,q _ (I5.hok.fresh (Qs _))⟩;exact⟨by rw[List.length_reverse];exact hz,its.reverse,0,r.reverse,Qp _ Ct⟩
 show J7 (model X.prog X.w) X.A (subscriptTail e (.Slice lo hi (O st) p2) (.ref a) (.ref s4.heap.objs.size)) (EP X pins σ Q) X.xe {s4 with heap:=s4.heap.push {cls:=.type "slice", data:=.fields #[vl,vu,vt]}};exact tail_any (ops:=[.ref a,.ref s4.heap.objs.size]) ht.isList.typeIs slot_list_getitem.lookup hg (by with_unfolding_all rfl)
noncomputable def YN:D->CH->CH->CH->CA
 |.list xs,Cu,Cu,O i=>if i = -1 then O (.list xs.reverse)else Cu
 |_,_,_,_=>Cu
noncomputable def Y0(f:M D)(lo hi st:M CH):M D:=UB f λx=>UB lo λl=>UB hi λh=>UB st λt=>Uz (YN x l h t)
theorem HI{lo hi:Option J5}{st:J5}{f:M D}{l h t:M CH}(he:PE X e (tD X.K B G0 f))(hl:PO X lo (tOi X.K B G0 l))(hu:PO X hi (tOi X.K B G0 h))(hst:PO X (O st) (tOi X.K B G0 t)) :
  PE X (.Subscript e (.Slice lo hi (O st) p2) pos) (tD X.K B G0 (Y0 f l h t)):=
 UN (E9 he hl hu hst) λσ H Q q=>by
  refine tM.one (R:=Rep X.K) q λv H2 G ρ x k r a=>?_;refine tM.nx (R:=λ_ b c=>b=c) k a λl' H3 G3 ρ3 xl k3 s3 r3 a3=>?_;refine tM.nx (R:=λ_ b c=>b=c) k3 a3 λh' H4 G4 ρ4 xh k4 s4 r4 a4=>?_;refine tM.nx (R:=λ_ b c=>b=c) k4 a4 λt' H5 G5 ρ5 xt k5 s5 r5 a5=>?_;have r3:l'=xl:=r3;have r4:h'=xh:=r4;have r5:t'=xt:=r5;subst r3 r4 r5
  cases x with
  |list xs=>
   cases l' with
   |some _=>exact a5.elim
   |none=>
   cases h' with
   |some _=>exact a5.elim
   |none=>
   cases t' with
   |none=>exact a5.elim
   |some i=>
   obtain⟨ad,vs,rfl,h1,r1⟩:=(((r.mono s3).mono s4).mono s5).lst_inv;by_cases hi:i = -1
   .subst hi
    exact⟨ad,vs,rfl,k5.gh.seq h1,rfl,rfl,rfl,λp hp=>aft.done a5 k5 (Ext.new k5.gh hp) (.lst (SqL.of U9) (r1.reverse.mono (KG (k5.gh.free hp))))⟩
   .unfold Uz YN at a5
    dsimp only at a5;rw[Qv hi]at a5;exact a5.elim
  |_=>unfold Uz YN at a5;exact a5.elim
noncomputable def Ro(K:Frag)(n:Nat)(t:TGs):TG:=λv σ H Q=>∃a xs,v=.ref a/\SqL K H a xs/\xs.length=n/\t xs σ H Q
theorem PU{es:CC}{k:Nat}{t:TGs}{n:Nat}(hc:X.calm=Cv)(h:PGs X es t)
  (hn:(Uo es X.env).length=n:=by rfl) (hst:(Uo es X.env).findIdx? (·.1)=Cu:=by rfl):PG X (.Tuple es k pos) (Ro X.K n t):=by
 intro pins s σ H v u Q I r hw;obtain⟨a,xs,e1,hq,hl,hw⟩:=hw;subst e1;cases r;obtain⟨its,rv,ht,hz⟩:=I.list hq;rw[assign_Tuple];refine Qb (wpAny_standAt ?_);unfold unpack;have hl2:(Uo es X.env).length=its.toArray.size:=by simp[hn,←hl,rv.length]
 rw[hl2,hst];refine Qb (wpAny_holding (PySem.W.kun_itemsOf (I.ok.hd hc) ht.isList λh' hx=>?_));have I1:Inv X pins σ H {s with heap:=h'}:=I.kept (t':=s.toks) λb o e=>hx b o (QP (Qf e)) e;exact h pins _ σ H xs _ Q I1 (by simpa using rv) hw
noncomputable def gL(n:Nat)(t:Cy->Ur->CI):D->Ur->CI:=λd ρ=>match d with | .list ds=>if ds.length=n then t ds ρ else Cu|_=>Cu
theorem MR{k1:Nat}{t:Cy->Ur->CI}{n:Nat}(hc:X.calm=Cv)(h:PGs X es (tGs X.K B G0 t))
  (hn:(Uo es X.env).length=n:=by rfl) (hst:(Uo es X.env).findIdx? (·.1)=Cu:=by rfl):PG X (.Tuple es k1 pos) (tG X.K B G0 (gL n t)):=XZ (PU hc h hn hst) λv σ H Q ⟨G,ρ,d,ρ',k,r,e,q⟩=>by
 unfold gL at e;split at e
 .split at e
  .rename_i hl
   obtain⟨ad,vs,rfl,h1,r1⟩:=r.lst_inv;exact⟨ad,vs,rfl,k.gh.seq h1,by rw[r1.length];exact hl,G,ρ,_,ρ',k,r1,e,q⟩
  .cases e
 .cases e
theorem VG{x:Str}{zs:List Str}(hg:Gl X x)(hm:∃ad o its n,X.mg x=O (.ref ad)/\X.K.lookup ad=O o/\o.cls=.type "tuple" /\ o.data=.seq its n/\its.size<=J6/\Vals (zs.map V.str) its.toList)(hd:(x==("__debug__" : Str))=Cw:=by decide) :
  PE X (.Name x pos) (tD X.K B G0 (Us (.tuple (zs.map Ue)))):=by
 obtain⟨ad,o,its,n,hm,h1,h2,h3,h4,h5⟩:=hm;refine UN (Te (v:=.ref ad) hg hm Ct hd) λσ H Q ⟨G,ρ,k,a⟩=>aft.now a k (.tup (.inr ⟨o,its,n,h1,h2,h3,h4,h5⟩) ?_)
 have:∀zs:List Str,Reps X.K G (zs.map V.str) (zs.map Ue):=λzs=>by
  induction zs with
  |nil=>exact .nil
  |cons z r ih=>exact .cons (.str _) ih
 exact this zs
end
end DL
namespace L2
open PySem PySem.Spec PyProof.Rows
end L2
namespace DL
open PySem PySem.Spec L2
open PyProof.Rows hiding St
end DL
namespace L2
open PySem PySem.Spec PyProof.Rows
end L2
namespace DL
open PySem PySem.Spec L2
open PyProof.Rows hiding St
@[simp] theorem mBind_ok{α β:Type}{f:M α}{k:α->M β}{ρ ρ':Ur}{x:α}(h:f ρ=.ok x ρ'):UB f k ρ=k x ρ':=by unfold UB;rw[h]
theorem OE{s:D->Ur->CI}{g:SM}{P:Nat->Ur->Prop}{R:Out->Prop}:∀(ds:Cy)(n:Nat)(ρ:Ur),P n ρ ->
  (∀i d ρ,ds[i]?=O d->P (n+i) ρ->∃ρ1,s d ρ=O ρ1/\((∃ρ2,(g ρ1=.nx ρ2∨g ρ1=.ct ρ2)/\P (n+i+1) ρ2)∨(∃x,g ρ1=.rt x/\R (.rt x))∨(∃ρ2,g ρ1=.bk ρ2/\R (.nx ρ2))∨(∃ρ2 x,g ρ1=.ex ρ2 x/\R (.ex ρ2 x)) ∨ ∃x,g ρ1=.ro x/\R (.ro x)))->(∀ρ,P (n+ds.length) ρ->R (.nx ρ))->R (Xd s g ds ρ)
 |[],n,ρ,h,_,f=>f ρ h
 |d::r,n,ρ,h,st,f=>by
  obtain⟨ρ1,e1,e2⟩:=st 0 d ρ Ct h;rw[Xd,e1];dsimp only;rcases e2 with ⟨ρ2,e2,h2⟩|⟨x,e2,h2⟩|⟨ρ2,e2,h2⟩|⟨ρ2,x,e2,h2⟩|⟨x,e2,h2⟩
  .have goal:=OE (R:=R) r (n+1) ρ2 h2 (λi d' ρ3 q p=>by
    have e:n+1+i=n+(i+1):=by lia
    rw[e]at p⊢;exact st (i+1) d' ρ3 (by simpa using q) p) (λρ3 p=>f ρ3 (by
    have e:n+1+r.length=n+(d::r).length:=by rw[QF];lia
    rw[e]at p;exact p))
   rcases e2 with e2|e2<;>(rw[e2];exact goal)
  .rw[e2];exact h2
  .rw[e2];exact h2
  .rw[e2];exact h2
  .rw[e2];exact h2
theorem Re{lo hi:Int}{i:Nat}{d:D}(h:(Zp lo hi)[i]?=O d):d=.int (lo+i)/\(i:Int)<hi-lo:=by have hl:i<(Zp lo hi).length:=(Qm.mp h).1;rw[TU]at hl;unfold Zp at h;rw[Qx,Qi (by rw[List.length_range];exact hl),List.getElem_range]at h;cases h;exact⟨rfl,by lia⟩
theorem V3{α:Type}{xs:List α}{i:Int}{v:α}(h0:0<=i)(h:xs[i.toNat]?=O v):atI xs i=O v:=by have:=ZC (xs:=xs) (j:=i.toNat) h;rw[Int.toNat_of_nonneg h0]at this;exact this
section
variable{α β:Type}{ρ ρ1 ρ2 ρ3 ρ':Ur}{f g h:M D}
theorem Uy{a:α}:Us a ρ=.ok a ρ:=rfl
theorem UD:Ut ρ=.ok [] ρ:=rfl
theorem K0{o:Option α}{a:α}(h:o=O a):Uz o ρ=.ok a ρ:=by subst h;rfl
theorem U4{f:M α}{k:α->M β}{x:α}{r:Res β}(h:f ρ=.ok x ρ1)(h2:k x ρ1=r):UB f k ρ=r:=by unfold UB;rw[h];exact h2
theorem KN{f:M α}{k:α->β}{x:α}(h:f ρ=.ok x ρ1):UJ k f ρ=.ok (k x) ρ1:=by unfold UJ UB;rw[h];rfl
theorem Ux{i:Nat}{d:D}(h:ρ[i]?=O (O (.pub d))):Uq i ρ=.ok d ρ:=by unfold Uq;rw[h]
theorem WP{i:Nat}{ds:Cy}(h:ρ[i]?=O (O (.own ds)))(h2:ρ.set i (O (.pub (.list ds)))=ρ'):Uq i ρ=.ok (.list ds) ρ':=by unfold Uq;rw[h];subst h2;rfl
theorem UI{op:D->D->Option β}{x y:D}{r:β}(h1:f ρ=.ok x ρ1)(h2:g ρ1=.ok y ρ2)(h3:op x y=O r):Uu op f g ρ=.ok r ρ2:=by unfold Uu;exact U4 h1 (U4 h2 (K0 h3))
theorem UA{g:M Cy}{x:D}{xs:Cy}(h1:f ρ=.ok x ρ1)(h2:g ρ1=.ok xs ρ2):Uw f g ρ=.ok (x::xs) ρ2:=by unfold Uw;exact U4 h1 (U4 h2 Ct)
theorem WG{g:M Cy}{xs:Cy}(h1:g ρ=.ok xs ρ1)(h2:xs.length<=1000000):KT g ρ=.ok (.tuple xs) ρ1:=by unfold KT;exact U4 h1 (by rw[Qo h2];rfl)
theorem KD{g:M Cy}{xs:Cy}(h1:g ρ=.ok xs ρ1)(h2:xs.length<=1000000):UL g ρ=.ok (.list xs) ρ1:=by unfold UL;exact U4 h1 (by rw[Qo h2];rfl)
theorem Xm{g:M Cy}{xs:Cy}(h1:g ρ=.ok xs ρ1)(h2:xs.length<=1000000):(UB g λxs=>if xs.length<=1000000 then Us xs else λ_=>.bad) ρ=.ok xs ρ1:=
 U4 h1 (by rw[Qo h2];rfl)
theorem KU{i:Nat}{d y r:D}(h:ρ[i]?=O (O (.pub d)))(h1:g ρ=.ok y ρ1)(h2:oIx d y=O r):UM i g ρ=.ok r ρ1:=by unfold UM;rw[h];exact U4 h1 (K0 h2)
theorem XB{i:Nat}{ds es:Cy}{y r:D}(h:ρ[i]?=O (O (.own ds)))(h1:g ρ=.ok y ρ1)(h3:ρ1[i]?=O (O (.own es)))(h2:oIx (.list es) y=O r):UM i g ρ=.ok r ρ1:=by unfold UM;rw[h];exact U4 h1 (by rw[h3];exact K0 h2)
theorem YC{p:Cy->CA}{g:M Cy}{xs:Cy}{r:D}(h1:g ρ=.ok xs ρ1)(h2:p xs=O r):KI p g ρ=.ok r ρ1:=by unfold KI;exact U4 h1 (K0 h2)
theorem Kn{n:Nat}{F:Cy->CA}{g:M Cy}{xs:Cy}{r:D}(h1:g ρ=.ok xs ρ1)(h2:xs.length=n)(h3:F xs=O r):UG n F g ρ=.ok r ρ1:=by unfold UG;exact U4 h1 (by rw[Qo h2];exact K0 h3)
theorem R1{i:Int}(h1:f ρ=.ok (.int i) ρ1):Z0 f ρ=.ok (.int (-i)) ρ1:=by unfold Z0;exact U4 h1 Ct
theorem Zg{i:Nat}{d r:D}(h:ρ[i]?=O (O (.pub d)))(h2:Kd [d]=O r):Ku i ρ=.ok r ρ:=by unfold Ku;rw[h];exact K0 h2
theorem SJ{i:Nat}{ds:Cy}(h:ρ[i]?=O (O (.own ds))):Ku i ρ=.ok (.int ds.length) ρ:=by unfold Ku;rw[h]
theorem Tj{g:M Cy}{i:Int}{r:Cy}(h1:g ρ=.ok [.int i] ρ1)(h2:Wq [.int i]=O r):Xf g ρ=.ok r ρ1:=by unfold Xf;exact U4 h1 (K0 h2)
theorem SD{g:M Cy}{xs r:Cy}(h1:g ρ=.ok xs ρ1)(h2:Wp xs=O r):Xe g ρ=.ok r ρ1:=by unfold Xe;exact U4 h1 (K0 h2)
theorem KJ{i:Int}(h1:f ρ=.ok (.int i) ρ1):(UB f λx=>Uz (Kq x)) ρ=.ok (O i) ρ1:=U4 h1 Ct
theorem ZU{f:M Bool}{t:Bool}(h1:f ρ=.ok t ρ1):U2 f ρ=.ok (!t) ρ1:=KN h1
theorem ZF{t:Bool}(h1:f ρ=.ok (.bool t) ρ1):Kx f ρ=.ok t ρ1:=by unfold Kx;exact U4 h1 Ct
theorem Sg{f g:M Bool}{t u:Bool}(h1:f ρ=.ok t ρ)(h2:t=Cv->g ρ=.ok u ρ):Zj f g ρ=.ok (t&&u) ρ:=by
 unfold Zj;refine U4 h1 ?_;cases t with
 |true=>rw[Qo Ct];exact h2 Ct
 |false=>rfl
theorem VF{f g:M Bool}{t u:Bool}(h1:f ρ=.ok t ρ)(h2:t=Cw->g ρ=.ok u ρ):mOr f g ρ=.ok (t || u) ρ:=by
 unfold mOr;refine U4 h1 ?_;cases t with
 |false=>rw[Qv (by decide)];exact h2 Ct
 |true=>rfl
theorem Vk{t u:Bool}(h1:f ρ=.ok (.bool t) ρ)(h2:t=Cv->g ρ=.ok (.bool u) ρ):Xg f g ρ=.ok (.bool (t&&u)) ρ:=by
 unfold Xg;refine U4 h1 ?_;cases t with
 |true=>exact h2 Ct
 |false=>rfl
theorem MQ{t u:Bool}(h1:f ρ=.ok (.bool t) ρ)(h2:t=Cw->g ρ=.ok (.bool u) ρ):YQ f g ρ=.ok (.bool (t || u)) ρ:=by
 unfold YQ;refine U4 h1 ?_;cases t with
 |false=>exact h2 Ct
 |true=>rfl
theorem PR{t:Bool}(h1:f ρ=.ok (.bool t) ρ1):W0 f ρ=.ok (.bool (!t)) ρ1:=by unfold W0;exact U4 h1 Ct
theorem FG{p q:D->D->CL}{x y z:D}{t u:Bool}(h1:f ρ=.ok x ρ)(h2:g ρ=.ok y ρ)(h3:p x y=O t)(h4:t=Cv->h ρ=.ok z ρ)(h5:t=Cv->q y z=O u):V5 p q f g h ρ=.ok (t&&u) ρ:=by
 unfold V5;refine U4 h1 (U4 h2 (U4 (K0 h3) ?_));cases t with
 |true=>rw[Qo Ct];exact U4 (h4 Ct) (K0 (h5 Ct))
 |false=>rfl
theorem Zb{i j:Int}:UC (.int i) (.int j)=O (.int (i+j)):=rfl
theorem XS{x y:Str}(h:x.length+y.length<=1000000):UC (.str x) (.str y)=O (.str (x++y)):=by unfold UC;exact Qo h
theorem Tx{x y:Cy}(h:x.length+y.length<=1000000):UC (.list x) (.list y)=O (.list (x++y)):=by unfold UC;exact Qo h
theorem HH{i j:Int}:X0 (.int i) (.int j)=O (.int (i-j)):=rfl
theorem Vs{i j:Int}(h1 : -18446744073709551616<i)(h2:i<18446744073709551616):U7 (.int i) (.int j)=O (.int (i*j)):=by unfold U7 Yk;exact Qo (.inl ⟨by lia,by lia⟩)
theorem Vr{i j:Int}(h1 : -18446744073709551616<j)(h2:j<18446744073709551616):U7 (.int i) (.int j)=O (.int (i*j)):=by unfold U7 Yk;exact Qo (.inr ⟨by lia,by lia⟩)
theorem Df{x:Cy}{k:Int}(h : -1000000<=k/\k<=1000000/\x.length*k.toNat<=1000000):U7 (.list x) (.int k)=O (.list (Ub k.toNat x).flatten):=by unfold U7;exact Qo h
theorem ZO{i j:Int}(h:0<j):Kc (.int i) (.int j)=O (.int (i % j)):=by unfold Kc YX;exact Qo h
theorem FF{i j:Int}(h:0<j)(h2:j<2 ^ 200):ZZ (.int i) (.int j)=O (.int (i / j)):=by unfold ZZ YY;exact Qo ⟨h,h2⟩
theorem PQ{i j:Int}(h:0<j)(h2:j<18446744073709551616):ZZ (.int i) (.int j)=O (.int (i / j)):=FF h (Int.lt_trans h2 (by decide))
theorem SB{i j:Int}(h:0<=j/\j<=1000000/\i.natAbs<2 ^ 64):Zw (.int i) (.int j)=O (.int (i ^ j.toNat)):=by unfold Zw YW;exact Qo h
theorem Vb{p:Int->Int->Bool}{i j:Int}:oIB p (.int i) (.int j)=O (p i j):=rfl
theorem Z8{i j:Int}:oEq (.int i) (.int j)=O (decide (i=j)):=by unfold oEq;rw[if_pos ⟨rfl,rfl,by simp[Uh]⟩];congr 1
theorem Tw{xs:Cy}:Kd [.list xs]=O (.int xs.length):=rfl
theorem PP{i j:Int}:WZ [.int i,.int j]=O (.int (if j > i then j else i)):=rfl
theorem Tv{j:Int}(h1:j<=1000000)(h2 : -1000000<=j):Wq [.int j]=O (Zp 0 j):=by unfold Wq;exact Qo ⟨h1,h2⟩
theorem Oi{xs:Cy}:Wp [.list xs]=O (ZB 0 xs):=rfl
noncomputable def tx(l:List Char):Str:=⟨(l.map Char.toNat).toArray⟩
theorem Rn(s:String):Uk s=tx s.toList:=Str.ofString_eq_toList s
theorem OD{z:Str}:(Ue z).depth<=60:=by simp[Uh]
theorem Kj{i:Nat}{d:D}(h1:f ρ=.ok d ρ1)(h2:i<ρ1.length)(h3:ρ1.set i (O (.pub d))=ρ'):UF i f ρ=.nx ρ':=by unfold UF Zi sB gN;rw[h1];dsimp only;rw[if_pos h2];subst h3;rfl
theorem YB{i:Nat}{f:M Cy}{ds:Cy}(h1:f ρ=.ok ds ρ1)(h2:i<ρ1.length)(h3:ρ1.set i (O (.own ds))=ρ'):KH i f ρ=.nx ρ':=by unfold KH sB;rw[h1];dsimp only;rw[if_pos h2];subst h3;rfl
theorem XA{i:Nat}{d:D}{ds0 ds:Cy}(h0:ρ[i]?=O (O (.own ds0)))(h1:f ρ=.ok d ρ1)(h2:ρ1[i]?=O (O (.own ds)))(h3:ds.length<1000000)(h4:ρ1.set i (O (.own (ds++[d])))=ρ'):KR i f ρ=.nx ρ':=by unfold KR sB;rw[h0];dsimp only;rw[h1];dsimp only;rw[h2];dsimp only;rw[if_pos h3];subst h4;rfl
theorem V2{d:D}{s:D->Ur->CI}(h1:f ρ=.ok d ρ1)(h2:s d ρ1=O ρ'):Zi f s ρ=.nx ρ':=by unfold Zi sB;rw[h1];dsimp only;rw[h2]
theorem UP{i:Nat}{d:D}(h:i<ρ.length)(h2:ρ.set i (O (.pub d))=ρ'):gN i d ρ=O ρ':=by unfold gN;rw[Qo h,h2]
theorem Zh:gN0 [] ρ=O ρ:=rfl
theorem U0{s:D->Ur->CI}{t:Cy->Ur->CI}{d:D}{r:Cy}(h1:s d ρ=O ρ1)(h2:t r ρ1=O ρ'):gNC s t (d::r) ρ=O ρ':=by unfold gNC;dsimp only;rw[h1];exact h2
theorem ZW{n:Nat}{t:Cy->Ur->CI}{ds:Cy}(h1:ds.length=n)(h2:t ds ρ=O ρ'):gT n t (.tuple ds) ρ=O ρ':=by unfold gT;dsimp only;rw[if_pos h1];exact h2
structure Ho(g:SM)(ρ:Ur)(Q:Out->Prop):Prop where
 out:Q (g ρ)
noncomputable def Ms(h:SM)(Q:Out->Prop):Out->Prop
 |.nx ρ'=>Ho h ρ' Q
 |o=>Q o
structure Xu(h:SM)(Q:Out->Prop)(o:Out):Prop where
 out:Ms h Q o
variable{Q:Out->Prop}{s t u:SM}
theorem UZ(h:Ho s ρ (Xu t Q)):Ho (Uv s t) ρ Q:=by
 have h:=h.out.out;constructor;unfold Uv;cases e:s ρ with
 |nx o=>rw[e]at h;exact h.out
 |_=>rw[e]at h;exact h
theorem UY(h1:s ρ=.nx ρ1)(h2:Ho t ρ1 Q):Ho (Uv s t) ρ Q:=by
 constructor;unfold Uv;rw[h1];exact h2.out
theorem Zs{o:Out}(h1:s ρ=o)(h2:Q o):Ho s ρ Q:=by constructor;rw[h1];exact h2
theorem Ka(h:Q (.nx ρ)):Ho sNx ρ Q:=⟨h⟩
theorem U8{o:Ur}(h:Ho t o Q):Xu t Q (.nx o):=⟨h⟩
theorem KY{d:D}(h:Q (.rt d)):Xu t Q (.rt d):=⟨h⟩
theorem U5{f:M Bool}{b:Bool}(h1:f ρ=.ok b ρ1)(h2:b=Cv->Ho s ρ1 Q)(h3:b=Cw->Ho t ρ1 Q):Ho (sIf f s t) ρ Q:=by
 constructor;unfold sIf sB;rw[h1];dsimp only
 cases b with
 |true=>rw[Qo Ct];exact(h2 Ct).out
 |false=>rw[Qv (by decide)];exact(h3 Ct).out
theorem Ki{d:D}(h1:f ρ=.ok d ρ1)(h2:Q (.rt d)):Ho (UE f) ρ Q:=by constructor;unfold UE sB;rw[h1];exact h2
theorem Ti{P:Out->Prop}(h:Ho s ρ P)(k:∀o,P o->Q o):Ho s ρ Q:=⟨k _ h.out⟩
noncomputable def Mr(I:Ur->Prop)(Q:Out->Prop):Out->Prop
 |.nx ρ | .ct ρ=>I ρ
 |.bk ρ=>Q (.nx ρ)
 |.rt d=>Q (.rt d)
 |.ex ρ d=>Q (.ex ρ d)
 |.ro ds=>Q (.ro ds)
 |.bad=>False
structure Wo(I:Ur->Prop)(Q:Out->Prop)(o:Out):Prop where
 out:Mr I Q o
theorem Yg{I:Ur->Prop}(h:I ρ):Wo I Q (.nx ρ):=⟨h⟩
theorem Oh{I:Ur->Prop}{ρ:Ur}{d:D}(h:Q (.ex ρ d)):Wo I Q (.ex ρ d):=⟨h⟩
theorem WN{ρ:Ur}{d:D}(h:Q (.ex ρ d)):Xu t Q (.ex ρ d):=⟨h⟩
theorem Tu{I:Ur->Prop}{d:D}(h:Q (.rt d)):Wo I Q (.rt d):=⟨h⟩
theorem YF{f:M Cy}{tg:D->Ur->CI}{ds:Cy}(I:Nat->Ur->Prop)(h1:f ρ=.ok ds ρ1)(h0:I 0 ρ1)
  (hst:∀i d ρ,ds[i]?=O d->I i ρ->∃ρ2,tg d ρ=O ρ2/\Ho s ρ2 (Wo (I (i+1)) Q)) (hend:∀ρ,I ds.length ρ->Q (.nx ρ)):Ho (Kv f tg s) ρ Q:=by
 constructor;unfold Kv sB;rw[h1];dsimp only
 refine OE (P:=I) (R:=Q) ds 0 ρ1 h0 (λi d ρ e p=>?_) (λρ p=>hend ρ (by rw[JI]at p;exact p));rw[JI]at p;obtain⟨ρ2,e2,q⟩:=hst i d ρ e p;refine⟨ρ2,e2,?_⟩;rw[JI];have q:=q.out.out;cases z:s ρ2 with
 |nx o=>rw[z]at q;exact .inl ⟨o,.inl Ct,q⟩
 |ct o=>rw[z]at q;exact .inl ⟨o,.inr Ct,q⟩
 |rt o=>rw[z]at q;exact .inr (.inl ⟨o,rfl,q⟩)
 |bk o=>rw[z]at q;exact .inr (.inr (.inl ⟨o,rfl,q⟩))
 |ex o x=>rw[z]at q;exact .inr (.inr (.inr (.inl ⟨o,x,rfl,q⟩)))
 |ro o=>rw[z]at q;exact .inr (.inr (.inr (.inr ⟨o,rfl,q⟩)))
 |bad=>rw[z]at q;exact q.elim
theorem V1{N:List Str}{ds:Cy}{P:D->Prop}(h0:KA N ds=ρ)(h:Ho s ρ λo=>∃d,o=.rt d/\P d):∃d,UX N s ds=O d/\P d:=by subst h0;obtain⟨d,e,p⟩:=h.out;refine⟨d,?_,p⟩;unfold UX;rw[e]
theorem Zc{N:List Str}{ds:Cy}{d:D}(h0:KA N ds=ρ)(h:Ho s ρ λo=>o=.rt d):UX N s ds=O d:=by obtain⟨d',e,p⟩:=V1 (P:=λx=>x=d) h0 (Ti h λo e=>⟨d,e,rfl⟩);rw[e,p]
end
section
variable{α β:Type}{ρ ρ1 ρ2 ρ3 ρ':Ur}{f g h:M D}
theorem K3{l u:M CH}{x r:D}{a b:CH}(h1:f ρ=.ok x ρ1)(h2:l ρ1=.ok a ρ2)(h3:u ρ2=.ok b ρ3)(h4:KL x a b=O r):UU f l u ρ=.ok r ρ3:=by unfold UU;exact U4 h1 (U4 h2 (U4 h3 (K0 h4)))
theorem RZ{f g:M Bool}(h1:f ρ=.ok Cv ρ1):mOr f g ρ=.ok Cv ρ1:=by unfold mOr;exact U4 h1 Ct
theorem Va{f g:M Bool}{u:Bool}(h1:f ρ=.ok Cw ρ1)(h2:g ρ1=.ok u ρ2):mOr f g ρ=.ok u ρ2:=by unfold mOr;exact U4 h1 (by rw[Qv (by decide)];exact h2)
theorem HG{f g:M Bool}(h1:f ρ=.ok Cw ρ1):Zj f g ρ=.ok Cw ρ1:=by unfold Zj;exact U4 h1 Ct
theorem Vq{c:String}{d:D}{t:Bool}(h:f ρ=.ok d ρ1)(ht:(!UQ d c)=t):U2 (Kx (UJ (λd=>.bool (UQ d c)) f)) ρ=.ok t ρ1:=by subst ht;exact ZU (ZF (KN (k:=λd=>Ud (UQ d c)) h))
theorem HF{c:String}{d:D}{t:Bool}(h:f ρ=.ok d ρ1)(ht:UQ d c=t):Kx (UJ (λd=>.bool (UQ d c)) f) ρ=.ok t ρ1:=by subst ht;exact ZF (KN (k:=λd=>Ud (UQ d c)) h)
theorem YA{x:D}{r:Cy}(h1:f ρ=.ok x ρ1)(h2:SK x=O r):KQ f ρ=.ok r ρ1:=by unfold KQ;exact U4 h1 (K0 h2)
theorem Zf{p:D->D->Option β}{i:Nat}{d y:D}{r:β}(h:ρ[i]?=O (O (.pub d)))(h1:g ρ=.ok y ρ1)(h2:p d y=O r):Kg p i g ρ=.ok r ρ1:=by unfold Kg;rw[h];exact U4 h1 (K0 h2)
theorem FE{p:D->D->Option β}{i:Nat}{ds es:Cy}{y:D}{r:β}(h:ρ[i]?=O (O (.own ds)))(h1:g ρ=.ok y ρ1)(h3:ρ1[i]?=O (O (.own es)))(h2:p (.list es) y=O r):Kg p i g ρ=.ok r ρ1:=by unfold Kg;rw[h];exact U4 h1 (by rw[h3];exact K0 h2)
theorem XJ{g:M Cy}{x r:D}{xs:Cy}(h1:f ρ=.ok x ρ1)(h2:g ρ1=.ok xs ρ2)(h3:Yw x xs=O r):Yc f g ρ=.ok r ρ2:=by unfold Yc;exact U4 h1 (U4 h2 (K0 h3))
theorem YH{f:M Cy}{k:Nat}{s:D->Ur->CI}{t:M Bool}{ds es:Cy}(h1:f ρ=.ok ds ρ1)(h2:K1 s t g ds (Kb ρ1++Ub k Cu) []=O es):KO f k s t g ρ=.ok es ρ1:=by unfold KO;rw[h1];dsimp only;rw[h2]
theorem OC{s:D->Ur->CI}{t:M Bool}(p:D->Bool)(q:D->D)(I:Ur->Prop):∀(ds:Cy)(ρ:Ur)(es:Cy),(∀d∈ds,∀ρ,I ρ->∃ρ1,s d ρ=O ρ1/\t ρ1=.ok (p d) ρ1/\(p d=Cv->g ρ1=.ok (q d) ρ1)/\I (Kb ρ1))->I ρ->es.length+ds.length<=1000000 ->
  K1 s t g ds ρ es=O (es++(ds.filter p).map q)
 |[],ρ,es,_,_,_=>by rw[K1];simp
 |d::r,ρ,es,st,h0,hz=>by
  obtain⟨ρ1,e1,e2,e3,h1⟩:=st d Qj ρ h0;have ih:=λes' hz'=>OC p q I r (Kb ρ1) es' (λd' hd=>st d' (Ql _ hd)) h1 hz';rw[QF]at hz;rw[K1,e1];dsimp only;rw[e2];dsimp only
  cases hp:p d with
  |true=>rw[Qo Ct,e3 hp];dsimp only;rw[Qo (by lia),ih _ (by rw[Qu,JM];lia),List.filter_cons_of_pos hp,QI,Jq];rfl
  |false=>rw[Qv (by decide),ih _ (by lia),List.filter_cons_of_neg (by rw[hp];decide)]
theorem WM{xs:Cy}{a b:CH}:KL (.list xs) a b=O (.list (DL.cutD xs a b)):=rfl
theorem FD{z:Str}{a b:CH}(h:(KF z a b).length<=1000000):KL (.str z) a b=O (.str (KF z a b)):=by unfold KL;exact Qo h
theorem PN{z:Str}:SK (.str z)=O (ZP z):=rfl
theorem S2{z:Str}(h:z.length<=1000000):Kd [.str z]=O (.int z.length):=by unfold Kd;exact Qo h
theorem DY(bs:List Bool):Xn (bs.map Ud)=O bs:=by
 induction bs with
 |nil=>rfl
 |cons b r ih=>rw[QI,Xn,ih];rfl
theorem PM{bs:List Bool}:K4 [.list (bs.map Ud)]=O (.bool (bs.all id)):=by unfold K4;dsimp only;rw[DY];rfl
theorem De(zs:List Str):XE (zs.map Ue)=O zs:=by
 induction zs with
 |nil=>rfl
 |cons b r ih=>rw[QI,XE,ih];rfl
theorem OB{sep:Str}:∀(parts:List Str)(acc:Array Nat),(parts.foldl (λacc p=>acc++sep.cps++p.cps) acc).size=acc.size+(parts.map λp=>sep.length+p.length).sum
 |[],acc=>by simp
 |p::r,acc=>by
  rw[List.foldl_cons,OB r,QI,Ja,Array.size_append,Array.size_append];show acc.size+sep.cps.size+p.cps.size+_=acc.size+(sep.cps.size+p.cps.size+_)
  lia
theorem E8{sep:Str}{zs:List Str}:(Builtin.Str.glued sep zs).length<=(zs.map λp=>sep.length+p.length).sum:=by
 cases zs with
 |nil=>exact JN _
 |cons p r=>
  have e:=OB (sep:=sep) r p.cps;have e2:(Builtin.Str.glued sep (p::r)).length=p.length+(r.map λp=>sep.length+p.length).sum:=e;rw[e2,QI,Ja]
  lia
theorem Og{sep:Str}:∀(zs:List Str)(n:Nat),zs.foldl (λn z=>n+z.length+sep.length) n=n+(zs.map λp=>sep.length+p.length).sum
 |[],n=>by simp
 |p::r,n=>by rw[List.foldl_cons,Og r,QI,Ja];lia
theorem Vz{sep:Str}{zs:List Str}:(YD sep zs).length<=(zs.map λp=>sep.length+p.length).sum:=by
 unfold YD;split
 .simp
 .exact E8
theorem Of{sep:Str}{zs:List Str}(h:(zs.map λp=>sep.length+p.length).sum<=1000000):Yw (.str sep) [.list (zs.map Ue)]=O (.str (YD sep zs)):=by unfold Yw;dsimp only;rw[De];have hj:=Vz (sep:=sep) (zs:=zs);exact if_pos (by unfold Tz;rw[List.foldl_toArray,Og];simp;lia)
end
section
variable{α β:Type}{ρ ρ1 ρ2 ρ3 ρ4 ρ':Ur}{f g h:M D}{s:SM}
theorem MP{l u t:M CH}{xs:Cy}(h1:f ρ=.ok (.list xs) ρ1)(h2:l ρ1=.ok Cu ρ2)(h3:u ρ2=.ok Cu ρ3)(h4:t ρ3=.ok (O (-1)) ρ4):Y0 f l u t ρ=.ok (.list xs.reverse) ρ4:=by unfold Y0;exact U4 h1 (U4 h2 (U4 h3 (U4 h4 (K0 (by unfold YN;exact Qo Ct)))))
theorem XV{n:Nat}{t:Cy->Ur->CI}{ds:Cy}(h1:ds.length=n)(h2:t ds ρ=O ρ'):gL n t (.list ds) ρ=O ρ':=by unfold gL;dsimp only;rw[if_pos h1];exact h2
theorem HE{i j:Int}:oNe (.int i) (.int j)=O (!decide (i=j)):=by unfold oNe;rw[if_pos ⟨rfl,rfl,by simp[Uh]⟩];congr 1
end
end DL
namespace DL
open PySem PySem.Spec PySem.W PyProof.Rows
end DL
namespace DL
open PySem PySem.Spec L2
open PyProof.Rows hiding St
section
variable{X:Cx}{B G0:Hp}{e o a b c tg:J5}{pos p2:Pos}{es rest:CC}{te to ti:TE}
noncomputable def Wn{β:Type}(p:D->D->Option β)(f:M D)(j:Nat):M β:=UB f λx=>λρ=>match ρ[j]? with
 |some (O (.pub d))=>Uz (p x d) ρ
 |some (O (.own ds))=>Uz (p x (.list ds)) ρ
 |_=>.bad
theorem Mq{K:Frag}{σ:St}{H:Hp}{p:D->D->CL}{r:R2}{j:Nat}{f:M D}{Q:Bool->Hp->Prop}{QV:VK}(hq:∀t H3,Q t H3->QV (.bl t) H3)
  (hr:∀v u G H x y d Q,Same G H->Rep K G v x->Rep K G u y->p x y=O d->Q (.bl d) H->r v u H Q)
  (q:tBo K B G0 (Wn p f j) σ H Q):tD K B G0 f σ H λx H1=>U1 j σ H1 λy H2=>r x y H2 QV:=by
 refine tM.one (R:=Rep K) q λv H2 G ρ x k rx a=>?_
 cases z:ρ[j]? with
 |none=>rw[z]at a;exact a.elim
 |some o=>
  cases o with
  |none=>rw[z]at a;exact a.elim
  |some sl=>
   cases sl with
   |deep _ _=>rw[z]at a;exact a.elim
   |pub d=>rw[z]at a;dsimp only at a;obtain⟨d',e',a'⟩:=aft.opt a;obtain⟨u,h1,h2⟩:=k.pub j d z;exact⟨u,h1,hr v u G H2 x d d' _ k.gh rx h2 e' (hq _ _ (a' d' G H2 k (.refl _) Ct))⟩
   |own ds=>rw[z]at a;dsimp only at a;obtain⟨d',e',a'⟩:=aft.opt a;obtain⟨ad,vs,h1,h2,h3,h4,h5⟩:=k.own j ds z;exact⟨.ref ad,h1,hr v (.ref ad) H2 H2 x (.list ds) d' _ (.refl _) (rx.mono k.gh) (.lst (SqL.of h4) (h5.mono k.gh)) e' (hq _ _ (a' d' G H2 k (.refl _) Ct))⟩
theorem HD{op:CmpOp}{p:D->D->CL}{j:Nat}{f:M D}(o:OpB X (J9 op) p)(ha:PE X a (tD X.K B G0 f))(hb:PE X b (U1 j))(hm:behindInMarks op b=Cw) :
  PT X (.Compare a [op] [b] pos) (tBo X.K B G0 (Wn p f j)):=by
 obtain⟨r,h,i⟩:=o;exact Zv (SI h ha hb hm) λσ H Q q=>Mq (λt H3 z=>⟨t,rfl,z⟩) i q
theorem FC{β:Type}{p:D->D->Option β}{f:M D}{j:Nat}{ρ ρ1:Ur}{x:D}{ds:Cy}{r:β}(h1:f ρ=.ok x ρ1)(h2:ρ1[j]?=O (O (.own ds)))(h3:p x (.list ds)=O r):Wn p f j ρ=.ok r ρ1:=by unfold Wn;exact U4 h1 (by rw[h2];exact K0 h3)
end
noncomputable def W9(ρ:Ur)(j:Nat):CA:=match ρ[j]? with
 |some (O (.pub d))=>O d
 |some (O (.own ds))=>O (.list ds)
 |some (O (.deep _ d))=>O d
 |_=>Cu
theorem EOk.tree{K:Frag}{B G0 G H:Hp}{σ:St}{ρ:Ur}{j:Nat}{d:D}(k:EOk K B G0 G H σ ρ)(h:W9 ρ j=O d):∃v,σ[j]?=O (O v)/\Rep K H v d:=by
 unfold W9 at h;split at h
 .rename_i d' e
  cases h;obtain⟨v,h1,h2⟩:=k.pub j _ e;exact⟨v,h1,h2.mono k.gh⟩
 .rename_i ds e
  cases h;obtain⟨a,vs,h1,h2,h3,h4,h5⟩:=k.own j ds e;exact⟨.ref a,h1,.lst (SqL.of h4) (h5.mono k.gh)⟩
 .rename_i p d' e
  cases h;obtain⟨ω,k1,k2⟩:=k.dp;obtain⟨v,fp,s,r,_⟩:=k1 j p _ e;exact⟨v,s,r.rep k.gh⟩
 .cases h
end DL
namespace HT
open PySem PyProof.Rows
end HT
namespace DL
open PySem PySem.Spec L2
open PyProof.Rows hiding St
end DL
namespace DL
open PySem
theorem lz0{P:Cz->Prop}{us:Cz}(hl:us.length=0)(h:P []):P us:=by
 cases us with
 |nil=>exact h
 |cons a r=>cases hl
theorem lzS{P:Cz->Prop}{us:Cz}{n:Nat}(hl:us.length=n+1)(h:∀a r,r.length=n->P (a::r)):P us:=by
 cases us with
 |nil=>cases hl
 |cons a r=>exact h a r (Nat.succ.inj hl)
theorem lz1{P:Cz->Prop}{us:Cz}(hl:us.length=1)(h:∀a,P [a]):P us:=lzS hl λa r e=>lz0 (P:=λr=>P (a::r)) e (h a)
theorem lz2{P:Cz->Prop}{us:Cz}(hl:us.length=2)(h:∀a b,P [a,b]):P us:=lzS hl λa r e=>lz1 (P:=λr=>P (a::r)) e (h a)
theorem lz3{P:Cz->Prop}{us:Cz}(hl:us.length=3)(h:∀a b c,P [a,b,c]):P us:=lzS hl λa r e=>lz2 (P:=λr=>P (a::r)) e (h a)
theorem lz4{P:Cz->Prop}{us:Cz}(hl:us.length=4)(h:∀a b c d,P [a,b,c,d]):P us:=lzS hl λa r e=>lz3 (P:=λr=>P (a::r)) e (h a)
theorem bz0{fd:J4}{ps:List Str}{us:Cz}(hl:us.length=0)(h:bindArgs fd {pos:=[]}=pure (ps.zip [])):bindArgs fd {pos:=us}=pure (ps.zip us):=lz0 (P:=λus=>bindArgs fd {pos:=us}=pure (ps.zip us)) hl h
theorem bz1{fd:J4}{ps:List Str}{us:Cz}(hl:us.length=1)(h:∀a,bindArgs fd {pos:=[a]}=pure (ps.zip [a])):bindArgs fd {pos:=us}=pure (ps.zip us):=lz1 (P:=λus=>bindArgs fd {pos:=us}=pure (ps.zip us)) hl h
theorem bz2{fd:J4}{ps:List Str}{us:Cz}(hl:us.length=2)(h:∀a b,bindArgs fd {pos:=[a,b]}=pure (ps.zip [a,b])):bindArgs fd {pos:=us}=pure (ps.zip us):=lz2 (P:=λus=>bindArgs fd {pos:=us}=pure (ps.zip us)) hl h
theorem bz3{fd:J4}{ps:List Str}{us:Cz}(hl:us.length=3)(h:∀a b c,bindArgs fd {pos:=[a,b,c]}=pure (ps.zip [a,b,c])):bindArgs fd {pos:=us}=pure (ps.zip us):=lz3 (P:=λus=>bindArgs fd {pos:=us}=pure (ps.zip us)) hl h
theorem bz4{fd:J4}{ps:List Str}{us:Cz}(hl:us.length=4)(h:∀a b c d,bindArgs fd {pos:=[a,b,c,d]}=pure (ps.zip [a,b,c,d])):bindArgs fd {pos:=us}=pure (ps.zip us):=lz4 (P:=λus=>bindArgs fd {pos:=us}=pure (ps.zip us)) hl h
end DL
namespace DL
open PySem PySem.Spec L2
open PyProof.Rows hiding St
noncomputable def whole(h:Heap):Frag:=(Ua h.objs.size).filterMap λa=>(h.get? a).map λo=>(a,o)
theorem OA{g:J0->Option Obj}{x:J0}:∀l:CF,(l.filterMap λa=>(g a).map λo=>(a,o)).lookup x=if x∈l then g x else Cu
 |[]=>rfl
 |y::l=>by
  have ih:=OA (g:=g) (x:=x) l;by_cases e:x=y
  .subst e
   rw[Qo Qj];cases z:g x with
   |none=>rw[List.filterMap_cons_none (by rw[z];rfl),ih,z];split<;>rfl
   |some o=>rw[List.filterMap_cons_some (by rw[z];rfl),QH,beq_self_eq_true]
  .have m:(x∈y::l)=(x∈l):=by simp[List.mem_cons,e]
   have b:(x==y)=Cw:=by simpa using e
   have ih':(if x∈y::l then g x else Cu)=_:=(by simp only[m];exact ih.symm)
   rw[ih'];cases z:g y with
   |none=>rw[List.filterMap_cons_none (by rw[z];rfl)]
   |some o=>rw[List.filterMap_cons_some (by rw[z];rfl),QH,b]
theorem Zo{h:Heap}{a:J0}:(whole h).lookup a=h.get? a:=by
 unfold whole;rw[OA];split
 .rfl
 .rename_i n
  cases z:h.get? a with
  |none=>rfl
  |some o=>exact absurd (JW.mpr (Qf z)) n
theorem FA(h:Heap):(whole h).In h:=λa o e=>by rw[Zo]at e;exact e
noncomputable def Mp(st:Stmt):Option DefRec:=match st with
 |.FunctionDef name a b _ _ _ sc _ _ pos=>O ⟨name,a,b,sc,pos⟩
 |_=>Cu
noncomputable def WF(st:Stmt):Option Str:=match st with
 |.FunctionDef name _ _ _ _ _ _ _ _ _=>O name
 |_=>Cu
noncomputable def Mo(st:Stmt):Pos:=match st with
 |.FunctionDef _ _ _ _ _ _ _ _ _ pos=>pos
 |_=>⟨0,0,0,0⟩
noncomputable abbrev UO(p:JZ)(i:Nat):Stmt:=p.main.body.getD i (.Pass ⟨0,0,0,0⟩)
noncomputable def Xk(p:JZ)(ix:CG):List DefRec:=ix.filterMap λi=>Mp (UO p i)
section
variable{p q:JZ}{loose:List Str}{mean:ExcName->CB}{mg mb:Str->CB}{h:Heap}{w:World}
theorem W8{ix:CG}(T:Top q loose mean mg mb h)(e:recsOf q=Xk p ix)(i:Nat)(x:Str)(hi:ix.contains i=Cv)(hn:WF (UO p i)=O x):∃f fd,mg x=O (.ref f)/\Fun (whole h) x x (UO p i) f fd:=by
 cases hs:UO p i with
 |FunctionDef name a b _ _ _ sc _ _ pos=>
  rw[hs]at hn;cases hn;have hd:(⟨x,a,b,sc,pos⟩:DefRec)∈recsOf q:=by rw[e];exact List.mem_filterMap.mpr ⟨i,by simpa using hi,by rw[hs];rfl⟩
  obtain⟨f,⟨oc,od,dt,osl⟩,pm,cd,doc,h1,h2,h3,h4⟩:=T.fn _ hd;have h3:dt=_:=h3;subst h3;refine⟨f,_,h1,⟨⟨oc,od,.none,doc,pm,_,cd,_,osl,rfl,by rw[Zo];exact h2,?_⟩,?_⟩⟩
  .obtain⟨c,⟨_,_,dc,_⟩,vs,t,rfl,g1,g2,g3⟩:=h4
   have g2:dc=_:=g2;subst g2;unfold PySem.W.codeIn;dsimp only;rw[Zo,g1];dsimp only;have g4:vs.toList[1]?=O (.str x t):=by rw[Array.getElem?_toList];exact g3
   cases hv:vs.toList with
   |nil=>rw[hv]at g4;cases g4
   |cons v0 r=>
    rw[hv]at g4;cases r with
    |nil=>cases g4
    |cons v1 r=>cases g4;exact beq_self_eq_true _
  .unfold PySem.W.keepIn
   dsimp only;rw[Zo,h2]
 |_=>rw[hs]at hn;cases hn
theorem E7{K:Frag}{x qual y:Str}{st:Stmt}{f:J0}{fd:J4}(F:Fun K x qual st f fd)
  (hb:∀(kV doc pm:JX)(an:CJ)(cdv ct v:JX),bindArgs (PySem.W.fnOf x qual (ZT st) (KZ st) (U6 st) .none kV doc pm an cdv ct) ⟨[v],[]⟩=pure [(y,v)]) (s:JY) (v:JX):BindsTo s fd ⟨[v],[]⟩ [(y,v)]:=by
 obtain⟨oc,od,kV,doc,pm,an,cdv,ct,osl,rfl,lk,hcd⟩:=F.ex;exact .of_eq (hb kV doc pm an cdv ct v)
noncomputable def VE(q:JZ)(loose:List Str)(x:Str):Bool:=
 !startupNames.contains x && !loose.contains x && !((recsOf q).map (·.name)).contains x && !((litsOf q).map (·.1)).contains x && !((clssOf q loose).map (·.name)).contains x
theorem ZN(T:Top q loose mean mg mb h){xs:List Str}(e:xs.all (VE q loose)=Cv){x:Str}(hx:x∈xs):mg x=Cu:=by have:=QG.mp e x hx;unfold VE at this;simp only[Qw,JB,List.contains_eq_mem,Q7]at this;exact T.free x this.1.1.1.1 this.1.1.1.2 this.1.1.2 this.1.2 this.2
theorem E6(T:Top q loose mean mg mb h){x:Str}{i:Int}(e:valOf q x=O (.int i)):∃t,mg x=O (.int i t):=by obtain⟨v,h1,h2⟩:=T.const x _ e;have:=h2 h;cases this;exact⟨_,h1⟩
theorem E5(T:Top q loose mean mg mb h){x z:Str}(e:valOf q x=O (.str z)):∃t,mg x=O (.str z t):=by obtain⟨v,h1,h2⟩:=T.const x _ e;have:=h2 h;cases this;exact⟨_,h1⟩
theorem Rm:∀{vs:Cz}{ss:List Str},StrsAre vs ss->Vals (ss.map V.str) vs
 |_,_,.nil=>.nil
 |_,_,.cons y t r=>.cons ⟨t,rfl⟩ (Rm r)
theorem E4(B:Tables q w mg h){x:Str}{ss:List Str}(e:tupStrsOf q x=O ss)(hl:ss.length<=1000) :
  ∃ad o its n,mg x=O (.ref ad)/\(whole h).lookup ad=O o/\o.cls=.type "tuple" /\ o.data=.seq its n/\its.size<=J6/\Vals (ss.map V.str) its.toList:=by
 obtain⟨a,vs,h1,⟨o,h2,h3,n,h4⟩,h5⟩:=B.tupS x ss e;have r:=Rm h5;refine⟨a,o,_,n,h1,by rw[Zo];exact h2,h3,h4,?_,r⟩;have:=r.length;rw[Qg]at this;have l:(1000:Nat)<=J6:=by decide
 rw[QQ]
 lia
end
noncomputable def scOk(sc:Scope)(N gl:List Str):Bool:=(N.all λx=>match sc.names.lookup x with|some .local=>Cv|some .cell=>Cv|_=>Cw)&&gl.all λx=>match sc.names.lookup x with|some .globalImplicit=>Cv|_=>Cw
noncomputable def fnB(sc:Scope)(N gl:List Str):Bool:=decide (sc.kind=.function) && !sc.isCoroutine && !sc.isGenerator&&decide N.Nodup&&(sc.names.all λy=>match y.2 with | .free=>Cw|_=>Cv)&&scOk sc N gl
structure FnNm(sc:Scope)(N gl:List Str):Prop where
 kind:sc.kind=.function
 co:sc.isCoroutine=Cw
 gen:sc.isGenerator=Cw
 nd:N.Nodup
 nofree:∀y∈sc.names,y.2≠.free
 nm:∀x∈N,sc.names.lookup x=O .local∨sc.names.lookup x=O .cell
 gl:∀x∈gl,sc.names.lookup x=O .globalImplicit
theorem Kz{sc:Scope}{N gl:List Str}(H:fnB sc N gl=Cv):FnNm sc N gl:=by
 unfold fnB scOk at H;simp only[Qw,Q4,JB,QG]at H;obtain⟨⟨⟨⟨⟨h1,h2⟩,h3⟩,h4⟩,h5⟩,h6,h7⟩:=H;refine⟨h1,h2,h3,h4,λy hy e=>?_,λx hx=>?_,λx hx=>?_⟩
 .have:=h5 y hy;rw[e]at this;cases this
 .have:=h6 x hx
  split at this
  .rename_i e;exact .inl e
  .rename_i e;exact .inr e
  .cases this
 .have:=h7 x hx
  split at this
  .rename_i e;exact e
  .cases this
section
variable{sc:Scope}{N gl:List Str}{x:Str}
theorem nq(H:FnNm sc N gl):N.Nodup:=H.nd
theorem fq(H:FnNm sc N gl)(n:Nat):Xq N (N.take n) sc:=⟨H.kind,H.co,H.gen,H.nd,by rw[Jx,List.take_eq_take_iff];lia,λx hx=>H.nm x (JC hx),H.nofree⟩
theorem lq(H:FnNm sc N gl)(i:Nat)(h:N[i]?=O x:=by rfl):L2.Loc sc x:=H.nm x (QL h)
theorem gq(H:FnNm sc N gl)(i:Nat)(h:gl[i]?=O x:=by rfl):sc.names.lookup x=O .globalImplicit:=H.gl x (QL h)
theorem pq{X:Cx}{pos:Pos}(H:FnNm X.env.scope X.N gl)(i:Nat)(h:X.N[i]?=O x:=by rfl)(hd:(x==("__debug__" : Str))=Cw:=by decide)(hc:(x==("__classdict__" : Str))=Cw:=by decide):PE X (.Name x pos) (U1 i):=
 Pg h ((H.nm x (QL h)).elim .inl λz=>.inr (.inl z)) hd hc
end
theorem KB{q p:JZ}{loose:List Str}{mean:ExcName->CB}{mg mb:Str->CB}{h:Heap}{ix:CG}(P:JZ)(w:World)(base:Heap){ps:List Str}{k n:Nat}{F:Cy->CA}(T:Top q loose mean mg mb h)(e:recsOf q=Xk p ix)(i:Nat)(x:Str)(hi:ix.contains i=Cv)(hn:WF (UO p i)=O x)
  (ok:∀{f:J0}{fd:J4},Fun (whole h) x x (UO p i) f fd->FnOk P w (whole h) mg base CX0 k f fd ps (spD (whole h) n F))
  (hb:∀(kV doc pm:JX)(an:CJ)(cdv ct:JX)(us:Cz),us.length=ps.length->bindArgs (PySem.W.fnOf x x (ZT (UO p i)) (KZ (UO p i)) (U6 (UO p i)) .none kV doc pm an cdv ct) ⟨us,[]⟩=pure (ps.zip us)):Def P w (whole h) mg base x k n F:=by
 obtain⟨f,fd,m,FU⟩:=W8 T e i x hi hn;exact Def.mk m FU (FU.binds hb) (ok FU)
section
variable{X:Cx}{B G0:Hp}{e:J5}{pos:Pos}{es:CC}
theorem pdf{k kk n:Nat}{F:Cy->CA}{g:M Cy}{x:Str}{p2:Pos}(d:Def X.prog X.w X.K X.mg X.base x k n F)(hr:Room kk X.A)(hg:Gl X x)(ha:PA X (e::es) (tDs X.K B G0 g))(hk:k<=kk:=by decide)(hn:(e::es).length=n:=by rfl)
  (hdb:(x==("__debug__" : Str))=Cw:=by decide) (he:J8 (e::es) X.env=(Cw,eval e X.env)::J8 es X.env:=by rfl) (hpl:(backTo pos (J8 es X.env)).any (·.1)=Cw:=by rfl) :
  PE X (.Call (.Name x p2) (e::es) [] pos) (tD X.K B G0 (UG n F g)):=Ff d (hr.mono hk) hg ha hn hdb he hpl
end
theorem Mn{q p:JZ}{loose:List Str}{mean:ExcName->CB}{mg mb:Str->CB}{h:Heap}{ix:CG}{P:JZ}{w:World}{k:Nat}{F:Cy->CA}{y:Str}{fa:J0}(T:Top q loose mean mg mb h)(e:recsOf q=Xk p ix)(i:Nat)(x:Str)(hi:ix.contains i=Cv)(hn:WF (UO p i)=O x)(hfa:mg x=O (.ref fa))
  (hb:∀(kV doc pm:JX)(an:CJ)(cdv ct v:JX),bindArgs (PySem.W.fnOf x x (ZT (UO p i)) (KZ (UO p i)) (U6 (UO p i)) .none kV doc pm an cdv ct) ⟨[v],[]⟩=pure [(y,v)])
  (ok:∀(base:Heap){f:J0}{fd:J4},Fun (whole h) x x (UO p i) f fd->FnOk P w (whole h) mg base CX0 k f fd [y] (spD (whole h) 1 F)) :
  ∃fd:J4,(∀(s:JY)(v:JX),BindsTo s fd ⟨[v],[]⟩ [(y,v)])/\∀base:Heap,FnOk P w (whole h) mg base CX0 k fa fd [y] (spD (whole h) 1 F):=by
 obtain⟨f,fd,m,FU⟩:=W8 T e i x hi hn;cases hfa.symm.trans m;exact⟨fd,E7 FU hb,λbase=>ok base FU⟩
noncomputable def Xs:D->Bool
 |.str x=>decide (x.length<=1000)
 |.int i=>decide (0<=i)&&decide (i<10 ^ 10)
 |.none=>Cv
 |_=>Cw
noncomputable def Yv(nm:Str)(ds:Cy):Option Cy:=match Za nm with
 |[]=>(match ds with | [.str _]=>O [] | _=>Cu)
 |f::fs=>if ds.length=(f::fs).length/\ds.all Xs=Cv then O ds else Cu
noncomputable abbrev exD(nm:Str)(ds:Cy):D:=.dict [(.none,.tuple [.str nm,.list ds])]
section
variable{K:Frag}{G H H':Hp}{nm:Str}{C a:J0}{bm:Cz}{vs:List V}{ds fs:Cy}{dd:CJ}
theorem MN{v:V}{d:D}(r:Rep K G v d)(h:Xs d=Cv):∃y,FmtV v y/\y.length<=4000:=by
 cases r with
 |non=>exact⟨_,.non,by decide⟩
 |bl b=>cases h
 |int i=>
  unfold Xs at h;simp only[Qw,Q4]at h;have h64:i.natAbs<2 ^ 64:=by have:=h.2;have:=h.1;lia
  refine⟨_,.int i ?_,Qn (toString_length_le h.1 (by decide:0<10) h.2) (by decide)⟩;by_cases z:i.natAbs=0
  .rw[z];decide
  .have:=(Nat.log2_lt z).mpr h64
   lia
 |str x=>unfold Xs at h;have h:=Qa h;exact⟨x,.str x (Qn h (by decide)),Qn h (by decide)⟩
 |lst _ _=>cases h
 |tup _ _=>cases h
 |dic _=>cases h
 |exc _ _ _ _=>cases h
 |dct _ _ _ _ _=>cases h
 |dtt _ _ _ _=>cases h
theorem PL:∀{vs:List V}{ds:Cy},Reps K G vs ds->ds.all Xs=Cv->∀u∈vs,∃y,FmtV u y/\y.length<=4000
 |_,_,.nil,_,u,hu=>by cases hu
 |_,_,.cons r t,h,u,hu=>by
  rw[JL,Qw]at h;rcases QC.mp hu with rfl|hu
  .exact MN r h.1
  .exact PL t h.2 u hu
theorem Fz(r:Reps K G vs ds)(e:Yv nm ds=O fs):RF nm vs:=by
 unfold Yv at e;split at e
 .rename_i hf
  split at e
  .obtain⟨v,rfl,q⟩:=r.one_inv
   exact .inl ⟨hf,_,by rw[q.str_inv]⟩
  .cases e
 .rename_i f l hf
  split at e
  .rename_i c
   refine .inr ⟨by rw[hf];simp,by rw[r.length,hf];exact c.1,PL r c.2⟩
  .cases e
theorem HC(c:ClsK K nm C bm)(s:Same G H)(ha:H a=Cu)(r:Reps K G vs ds)(e:Yv nm ds=O fs)(p:RL nm C a vs (upd H a (.ext (XO Cv a C Cu))) dd H') :
  ∃G',Ext G H G' (upd H' a (.ext (XO Cw a C dd)))/\Rep K G' (.ref a) (exD nm fs)/\H' a=O (.ext (XO Cv a C dd)):=by
 unfold Yv at e;rcases p with ⟨hf,rfl,rfl⟩|⟨hf,hl,dx,rfl,hd,hne,rfl⟩
 .rw[hf]at e
  dsimp only at e;split at e
  .cases e
   refine⟨upd G a (.ext (XO Cw a C Cu)),?_,.exc (vs:=[]) c U9 ⟨hf,rfl⟩ .nil,U9⟩;rw[GF];exact Ext.new s ha
  .cases e
 .split at e
  .rename_i hf';exact absurd hf' hf
  .rename_i f l hf'
   split at e
   .cases e
    have hd':H dx=Cu:=by rw[UR hne]at hd;exact hd
    have eH:upd (upd (upd (upd H a (.ext (XO Cv a C Cu))) a (.ext (XO Cv a C (O dx)))) dx (.ext (XD dx ((Za nm).zip vs)))) a (.ext (XO Cw a C (O dx)))=upd (upd H a (.ext (XO Cw a C (O dx)))) dx (.ext (XD dx ((Za nm).zip vs))):=by
     funext b;by_cases h1:b=a
     .subst h1;rw[U9,UR (Ne.symm hne),U9]
     .rw[UR h1]
      by_cases h2:b=dx
      .subst h2;rw[U9,U9]
      .rw[UR h2,UR h1,UR h1,UR h2,UR h1]
    have x1:Ext G H (upd G a (.ext (XO Cw a C (O dx)))) (upd H a (.ext (XO Cw a C (O dx)))):=Ext.new s ha;have hd2:upd H a (.ext (XO Cw a C (O dx))) dx=Cu:=by rw[UR hne];exact hd'
    have x2:=x1.trans (Ext.new (o:=.ext (XD dx ((Za nm).zip vs))) x1.gh hd2);exact⟨_,by rw[eH];exact x2,.exc (dd:=O dx) (vs:=vs) c (by rw[UR (Ne.symm hne)];exact U9) ⟨hl.symm,U9⟩ (r.mono x2.g),by rw[UR (Ne.symm hne)];exact U9⟩
   .cases e
end
noncomputable def XI(nm:Str)(g:M Cy):SM:=sB g λds ρ=>match Yv nm ds with|some fs=>.ex ρ (exD nm fs)|none=>.bad
section
variable{X:Cx}{B G0:Hp}{KX:XW}{e a b c:J5}{pos p2 cpos:Pos}{es:CC}{st:Stmt}{sts:List Stmt}{nm x:Str}{k kk n:Nat}
theorem Fy{c:Bool}{g:M Cy}(mk:MkX X.prog X.w X.K X.mg X.base nm k)(hr:Room kk X.A)(hc:X.calm=Cv)(hw:Yz c X KX)(hg:Gl X nm)(ha:PA X (e::es) (tDs X.K B G0 g))(hk:k+1<=kk:=by decide)
  (hdb:(nm==("__debug__" : Str))=Cw:=by decide) (he:J8 (e::es) X.env=(Cw,eval e X.env)::J8 es X.env:=by rfl) (hpl:(backTo cpos (J8 es X.env)).any (·.1)=Cw:=by rfl) :
  PS X (.Raise (O (.Call (.Name nm p2) (e::es) [] cpos)) Cu pos) (tS X.K B G0 KX (XI nm g)):=PS.kin λkin=>by
 obtain⟨C,bm,f,fd,ps,sp,hm,hkp,ck,xc,F,hb,Bc⟩:=mk;refine Ko (Eu (KC:=λC'=>C'=C) hc (λC' z=>by subst z;exact⟨bm,f,xc _ _ kin⟩) hw (Ev (xc _ _ kin) F (hr.mono hk) hg hm hkp hb ha hdb he hpl)) λDn σ H q=>?_
 refine tS.bnd (R:=Reps X.K) q λvs H1 G1 ρ1 ds k1 r a=>?_
 cases z:Yv nm ds with
 |none=>rw[z]at a;exact a.elim
 |some fs=>
  rw[z]at a;have ar:=Fz r z;refine⟨?_,λad had=>Bc ad vs _ _ U9 ar λdd H' p=>⟨rfl,?_⟩⟩
  .rcases ar with ⟨_,x,rfl⟩|⟨_,hl,_⟩
   .exact(show 1<=J6 by decide)
   .rw[hl]
    unfold Za;split
    .decide
    .split
     .decide
     .split<;>decide
  .obtain⟨G',ex,rp,hx⟩:=HC ck k1.gh had r z p
   exact⟨ad,C,dd,rfl,rfl,hx,a (.ref ad) σ G' _ (k1.ext ex) ex.g rp⟩
inductive XR where
 |val (d:D)|exc (d:D)
noncomputable def spX(K:Frag)(n:Nat)(F:Cy->Option XR):Sp:=λvs H Q E=>∃G ds r,vs.length=n/\Same G H/\Reps K G vs ds/\F ds=O r/\match r with
 |.val d=>∀v G' H',Ext G H G' H'->Rep K G' v d->Q v H'
 |.exc d=>∀ad G' H',Ext G H G' H'->Rep K G' (.ref ad) d->E (.ref ad) Cu H'
def TZ(c:Bool)(P:JZ)(w:World)(K:Frag)(mg:Str->CB)(base:Heap)(x:Str)(k n:Nat)(F:Cy->Option XR):Prop:=
 ∃(f:J0)(fd:J4)(ps:List Str),mg x=O (.ref f)/\PySem.W.keepIn K (.ref f)=Cv/\Zd K fd ps []/\FnOk P w K mg base (ZA c P w) k f fd ps (spX K n F)
abbrev DefX:=TZ Cv
def aftX(K:Frag)(B G0:Hp)(KX:XW)(r:Res XR)(G:Hp)(σ:St)(Q:VK):Prop:=match r with
 |.ok (.val d) ρ=>∀v G' H',EOk K B G0 G' H' σ ρ->Same G G'->Rep K G' v d->Q v H'
 |.ok (.exc d) ρ=>∀v G' H',EOk K B G0 G' H' σ ρ->Same G G'->Rep K G' v d->KX v σ H'
 |.bad=>False
noncomputable def tX(K:Frag)(B G0:Hp)(KX:XW)(f:M XR):TE:=λσ H Q=>∃G ρ,EOk K B G0 G H σ ρ/\aftX K B G0 KX (f ρ) G σ Q
noncomputable def WB(n:Nat)(F:Cy->Option XR)(g:M Cy):M XR:=UB g λxs=>if xs.length=n then Uz (F xs)else λ_=>.bad
theorem Fx{c c1:Bool}{F:Cy->Option XR}{g:M Cy}(d:TZ c1 X.prog X.w X.K X.mg X.base x k n F)(hr:Room kk X.A)(hw:Yz c X KX)(hg:Gl X x)(ha:PA X (e::es) (tDs X.K B G0 g))(hk:k<=kk:=by decide)(hn:(e::es).length=n:=by rfl)(hcc:c=Cv->c1=Cv:=by decide)
  (hdb:(x==("__debug__" : Str))=Cw:=by decide) (he:J8 (e::es) X.env=(Cw,eval e X.env)::J8 es X.env:=by rfl) (hpl:(backTo pos (J8 es X.env)).any (·.1)=Cw:=by rfl) :
  PE X (.Call (.Name x p2) (e::es) [] pos) (tX X.K B G0 KX (WB n F g)):=by
 obtain⟨f,fd,ps,h1,h2,h3,h4⟩:=d;refine UN (Es h4 (hr.mono hk) hg h1 h2 h3 hw ha hcc hdb he hpl) λσ H Q ⟨G,ρ,k0,a⟩=>?_
 refine⟨G,ρ,k0,?_⟩;unfold WB UB at a;cases z:g ρ with
 |bad=>rw[z]at a;exact a.elim
 |ok xs ρ1=>
  rw[z]at a;dsimp only at a;intro vs G1 H1 k1 s1 r;by_cases hl:xs.length=n
  .rw[Qo hl]at a
   cases zF:F xs with
   |none=>rw[zF]at a;exact a.elim
   |some rr=>
    rw[zF]at a;refine⟨G1,xs,rr,by rw[r.length];exact hl,k1.gh,r,zF,?_⟩;cases rr with
    |val d=>exact λv G' H' ex rv=>a v G' H' (k1.ext ex) (s1.trans ex.g) rv
    |exc d=>intro ad' G' H' ex rv ad ev;cases ev;exact a _ G' H' (k1.ext ex) (s1.trans ex.g) rv
  .rw[Qv hl]at a;exact a.elim
noncomputable def sX(f:M XR)(g:D->SM):SM:=λρ=>match f ρ with
 |.ok (.val d) ρ'=>g d ρ'
 |.ok (.exc d) ρ'=>.ex ρ' d
 |.bad=>.bad
theorem tS.bndX{K:Frag}{f:M XR}{g:D->SM}{Dn:Ends}{σ:St}{H:Hp}{P:V->Hp->Prop}(q:tS K B G0 KX (sX f g) Dn σ H)
  (i:∀v H' G' ρ' x,EOk K B G0 G' H' σ ρ'->Rep K G' v x->aftS K B G0 KX (g x ρ') G' Dn->P v H'):tX K B G0 KX f σ H P:=by
 obtain⟨G,ρ,k,a⟩:=q;refine⟨G,ρ,k,?_⟩;unfold sX at a;cases z:f ρ with
 |bad=>rw[z]at a;exact a.elim
 |ok r ρ1=>
  rw[z]at a;cases r with
  |val d=>exact λv G' H' e s r=>i v H' G' ρ1 d e r (aftS.mono s a)
  |exc d=>exact λv G' H' e s r=>a v σ G' H' e s r
theorem HB{i:Nat}{y:Str}{f:M XR}(hN:X.N.Nodup)(hi:X.N[i]?=O y)(hx:Loc X.env.scope y)(he:PE X e (tX X.K B G0 KX f))(hs:swapsWith e (O (.Name y p2)) pos.line X.env=pure Cw:=by rfl)
  (hf:X.fn y=Cv∨X.env.scope.names.lookup y=O .local:=by first|exact .inl rfl|exact .inr rfl|assumption):PS X (.Assign [.Name y p2] e pos) (tS X.K B G0 KX (sX f λd ρ=>match gN i d ρ with|some ρ'=>.nx ρ'|none=>.bad)):=
 Ko (VX hN hi hx he hs hf) λD σ H q=>tS.bndX q λv H' G' ρ' x k r a=>by
  unfold gN at a;split at a
  .rename_i ρ2 hz
   split at hz
   .rename_i hi2
    cases hz;exact a _ G' H' (k.setPub r hi2) (.refl _)
   .cases hz
  .exact a.elim
noncomputable def ZX(N:List Str)(g:SM)(ds:Cy):Option XR:=match g (KA N ds)with
 |.rt d=>O (.val d)
 |.nx _=>O (.val .none)
 |.ex _ d=>if Z6 d=Cv then O (.exc d)else Cu
 |_=>Cu
noncomputable abbrev kxE(E:XK):XW:=λv _ H=>∃e,v=.ref e/\E (.ref e) Cu H
theorem okX{c:Bool}{P:JZ}{w:World}{K:Frag}{mg:Str->CB}{base:Heap}{x qual:Str}{st:Stmt}{f:J0}{fd:J4}{N ps:List Str}{k n:Nat}{g:SM}(F:Fun K x qual st f fd)(S:Xq N ps (U6 st))(hn:ps.length=n)
  (der:∀(cdv:JX)(A:Around)(outer:List Env)(s:JY)(H:Hp)(E:XK)(B G0:Hp),Room k (A.deeper (envOfC qual (U6 st) s.heap.objs.size f cdv)) ->
   PSs (Kp (ZA c P w) P w K mg base N qual (U6 st) f cdv A outer s H E) (KZ st) (tS K B G0 (kxE E) g)):FnOk P w K mg base (ZA c P w) (k+1) f fd ps (spX K n (ZX N g)):=by
 obtain⟨oc,od,kV,doc,pm,an,cdv,ct,osl,rfl,lk,hcd⟩:=F.ex;refine RH lk hcd S (λvs H Q E h=>?_) λA outer s H vs Q E hr h=>?_
 .obtain⟨_,_,_,hl,_⟩:=h
  rw[hl,hn]
 .obtain⟨G,ds,r,hl,sg,rp,hF,q⟩:=h
  refine⟨_,der cdv A outer s H E H G hr,G,KA N ds,TC sg rp,?_⟩;unfold ZX at hF;cases z:g (KA N ds)with
  |rt d'=>rw[z]at hF;cases hF;exact λv G' H' ex rr=>q v G' H' ex rr
  |nx ρ=>rw[z]at hF;cases hF;exact λσ' G' H' k' _=>q .non G' H' k'.exit .non
  |ex ρ d=>
   rw[z]at hF;dsimp only at hF;split at hF
   .rename_i hx
    cases hF;intro v σ' G' H' k' _ rv
    obtain⟨ad,rfl⟩:∃ad,v=.ref ad:=by
     cases rv with
     |exc _ _ _ _=>exact⟨_,rfl⟩
     |dct _ _ _ _ _=>exact⟨_,rfl⟩
     |dtt _ _ _ _=>exact⟨_,rfl⟩
     |_=>cases hx
    exact⟨ad,rfl,q ad G' H' k'.exit rv⟩
   .cases hF
  |ro ds=>rw[z]at hF;cases hF
  |bk ρ=>rw[z]at hF;cases hF
  |ct ρ=>rw[z]at hF;cases hF
  |bad=>rw[z]at hF;cases hF
end
section
variable{K:Frag}{B G0 G H:Hp}{σ:St}{ρ:Ur}
theorem EOk.unset{i:Nat}(k:EOk K B G0 G H σ ρ):EOk K B G0 G H (σ.set i Cu) (ρ.set i Cu) where
 bh:=k.bh
 gh:=k.gh
 g0:=k.g0
 np:=k.np
 len:=by rw[QJ,QJ];exact k.len
 pub:=λj d' q=>by
  by_cases z:i=j
  .subst z
   have:=Kl q;cases this
  .rw[Qe z]at q⊢
   exact k.pub j d' q
 own:=λj ds q=>by
  by_cases z:i=j
  .subst z
   have:=Kl q;cases this
  .rw[Qe z]at q⊢
   exact k.own j ds q
 sep:=λj l c es fs q1 q2 s1 s2=>by
  have z1:i≠j:=λz=>by subst z;have:=Kl q1;cases this
  have z2:i≠l:=λz=>by subst z;have:=Kl q2;cases this
  rw[Qe z1]at q1 s1;rw[Qe z2]at q2 s2;exact k.sep j l c es fs q1 q2 s1 s2
 dp:=k.dp.setOther (λs e=>by cases e)
end
def CK(K:Frag)(mg:Str->CB)(x:Str):Prop:=∃D bm,mg x=O (.ref D)/\ClsK K x D bm
noncomputable def W7(x:Str):D->Bool
 |.dict [(.none,.tuple [.str nm,_])]=>decide (x=nm) || decide (x = "DealError")
 |_=>Cw
noncomputable def Zt(i:Nat)(x:Str)(g h:SM):SM:=λρ=>match g ρ with
 |.ex ρ1 d=>if W7 x d=Cv/\i<ρ1.length then(match h (ρ1.set i (O (.pub d)))with
  |.nx ρ2=>.nx (ρ2.set i Cu)
  |.bk ρ2=>.bk (ρ2.set i Cu)
  |.ct ρ2=>.ct (ρ2.set i Cu)
  |.rt d2=>.rt d2
  |_=>.bad)else .bad
 |o=>o
section
variable{X:Cx}{B G0:Hp}{KX:XW}{e a b c:J5}{pos p2 cpos np hpos:Pos}{es:CC}{x n:Str}{k kk:Nat}
theorem E3{K:Frag}{G:Hp}{v:V}{d:D}{D':J0}{bmD:Cz}(r:Rep K G v d)(h:W7 x d=Cv)(cD:ClsK K x D' bmD) :
  ∃a C dd bm,v=.ref a/\KC K C bm/\G a=O (.ext (XO Cw a C dd))/\(Value.ref C::bm).contains (.ref D')=Cv:=by
 unfold W7 at h;split at h
 .obtain⟨a,C,dd,bm,Bq,vs,ds,rfl,e0,c,hx,_,_⟩:=r.exc_inv
  cases e0;exact⟨a,C,dd,bm,rfl,⟨_,c⟩,hx,by rw[c.has cD];exact h⟩
 .cases h
theorem MM{i:Nat}{g h:SM}{body suite:List Stmt}{b₀:Stmt}{st:List Env}(cD:CK X.K X.mg x)(hg:Gl X x)(hN:X.N.Nodup)(hi:X.N[i]?=O n)(hl:X.env.kindOf n=O .local)
  (hb:∀(KX':XW)(W:JX->JY->Prop)(pn:List (J0×Obj)),Yz Cw (X.tried W pn) KX'->PSs (X.tried W pn) body (tS X.K B G0 KX' g)) (hs:∀a,PSs (X.suite a) (b₀::suite) (tS X.K B G0 KX0 h))
  (Bj:X.stack=X.env::st:=by rfl) (hfr:X.env.frame=O X.env.locals:=by rfl) (hdb:(x==("__debug__" : Str))=Cw:=by decide) :
  PS X (.Try body [.ExceptHandler (O (.Name x np)) (O n) (b₀::suite) hpos] [] [] pos) (tS X.K B G0 KX (Zt i x g h)):=PS.kin λkin=>by
 obtain⟨D',bmD,hm,ck⟩:=cD;obtain⟨fD,xD⟩:=ck.cls (model X.prog X.w) X.base kin;refine Ko (LZ (KC:=KC X.K) (tb:=λKX'=>tS X.K B G0 KX' g) (ts:=tS X.K B G0 KX0 h) Bj hfr (Xw kin) xD hg hm hN hi hl hb hs hdb) λDn σ H ⟨G,ρ,k,a⟩=>?_
 refine⟨G,ρ,k,?_⟩;unfold Zt at a;cases z:g ρ with
 |nx ρ1=>rw[z]at a;exact a
 |rt d=>rw[z]at a;exact a
 |ro ds=>rw[z]at a;exact a
 |bk ρ1=>rw[z]at a;exact a
 |ct ρ1=>rw[z]at a;exact a
 |bad=>rw[z]at a;exact a.elim
 |ex ρ1 d=>
  rw[z]at a;dsimp only at a;intro v σ1 G1 H1 k1 s1 r;by_cases hc:W7 x d=Cv/\i<ρ1.length
  .rw[Qo hc]at a
   obtain⟨ad,C,dd,bm,rfl,kc,hx,hct⟩:=E3 r hc.1 ck;refine⟨ad,C,dd,bm,rfl,kc,k1.gh _ _ hx,hct,G1,_,k1.setPub r hc.2,?_⟩;cases z2:h (ρ1.set i (O (.pub d)))with
   |nx ρ2=>rw[z2]at a;exact λσ2 G2 H2 k2 s2=>a _ G2 H2 k2.unset (s1.trans s2)
   |bk ρ2=>rw[z2]at a;exact λσ2 G2 H2 k2 s2=>a _ G2 H2 k2.unset (s1.trans s2)
   |ct ρ2=>rw[z2]at a;exact λσ2 G2 H2 k2 s2=>a _ G2 H2 k2.unset (s1.trans s2)
   |rt d2=>rw[z2]at a;exact a
   |ex _ _=>rw[z2]at a;exact a.elim
   |ro _=>rw[z2]at a;exact a.elim
   |bad=>rw[z2]at a;exact a.elim
  .rw[Qv hc]at a;exact a.elim
noncomputable def Kt(x:Str):D->CA
 |.dict [(.none,.tuple [.str nm,_])]=>O (.bool (decide (x=nm) || decide (x = "DealError")))
 |_=>Cu
theorem HA{f:M D}{p3:Pos}(cD:CK X.K X.mg x)(hg:Gl X "isinstance")(hm:X.mg "isinstance" = Cu)(BI:Gl X x)(ha:PE X e (tD X.K B G0 f))(hdb:(x==("__debug__" : Str))=Cw:=by decide)
  (hs:J8 [e,.Name x p3] X.env=(Cw,eval e X.env)::J8 [.Name x p3] X.env:=by rfl)
  (hs2:J8 [.Name x p3] X.env=[(Cw,eval (.Name x p3) X.env)]:=by rfl) :
  PE X (.Call (.Name "isinstance" p2) [e,.Name x p3] [] pos) (tD X.K B G0 (UB f λd=>Uz (Kt x d))):=PE.kin λkin=>by
 obtain⟨D',bmD,hm2,ck⟩:=cD;refine UN (WO (SV (Xw kin)) hg hm TX (KP ha (KP (Te (v:=.ref D') BI hm2 Ct hdb) ZR (by rw[hs2];rfl)) hs) (by decide) (by decide) hs (by rw[hs2];rfl)) λσ H Q q=>?_
 refine tM.one (R:=Rep X.K) q λv H2 G ρ d k r a=>?_
 obtain⟨d',e',a'⟩:=aft.opt a;unfold Kt at e';split at e'
 .obtain⟨ad,C,dd,bm,Bq,vs,ds,rfl,e0,c,hx,_,_⟩:=r.exc_inv
  cases e0;cases e';exact⟨ad,C,dd,bm,Cw,.ref D',_,rfl,⟨_,c⟩,k.gh _ _ hx,.inl ⟨D',bmD,rfl,⟨_,ck⟩,c.has ck⟩,a'.now k (.bl _)⟩
 .cases e'
noncomputable def X1:D->CA
 |.dict [(.none,_)]=>O (.bool Cv)
 |_=>Cu
theorem Hz:bootBuiltins "ValueError" = O (.type "ValueError"):=by decide +kernel
theorem Hy{f:M D}{p3:Pos}(hg:Gl X "isinstance")(hm:X.mg "isinstance" = Cu)(BI:Gl X "ValueError")(hm2:X.mg "ValueError" = Cu)(ha:PE X e (tD X.K B G0 f))
  (hs:J8 [e,.Name "ValueError" p3] X.env=(Cw,eval e X.env)::J8 [.Name "ValueError" p3] X.env:=by rfl)
  (hs2:J8 [.Name "ValueError" p3] X.env=[(Cw,eval (.Name "ValueError" p3) X.env)]:=by rfl) :
  PE X (.Call (.Name "isinstance" p2) [e,.Name "ValueError" p3] [] pos) (tD X.K B G0 (UB f λd=>Uz (X1 d))):=PE.kin λkin=>by
 refine UN (WO (SV (Xw kin)) hg hm TX (KP ha (KP (Td (v:=.ty "ValueError") BI hm2 Hz Ct (by decide) (by decide)) ZR (by rw[hs2];rfl)) hs) (by decide) (by decide) hs (by rw[hs2];rfl)) λσ H Q q=>?_
 refine tM.one (R:=Rep X.K) q λv H2 G ρ d k r a=>?_
 obtain⟨d',e',a'⟩:=aft.opt a;unfold X1 at e';split at e'
 .obtain⟨ad,C,dd,bm,Bq,vs,ds,rfl,e0,c,hx,_,_⟩:=r.exc_inv
  cases e0;cases e';exact⟨ad,C,dd,bm,Cw,.ty "ValueError", Cv,rfl,⟨_,c⟩,k.gh _ _ hx,.inr ⟨"ValueError", rfl,PH,by rw[c.ty];rfl⟩,a'.now k (.bl _)⟩
 .cases e'
noncomputable def X2(f:Str):D->CA
 |.dict [(.none,.tuple [.str nm,.list ds])]=>((Za nm).zip ds).lookup f
 |_=>Cu
theorem O6{K:Frag}{G:Hp}{f:Str}:∀{fs:List Str}{vs:List V}{ds:Cy}{d:D},Reps K G vs ds->(fs.zip ds).lookup f=O d->f∈fs/\∃v,(fs.zip vs).lookup f=O v/\Rep K G v d
 |[],vs,ds,d,_,e=>by simp at e
 |g::fs,_,_,d,.nil,e=>by simp at e
 |g::fs,_,_,d,@Reps.cons _ _ v d0 vs ds r t,e=>by
  rw[List.zip_cons_cons,QH]at e;rw[List.zip_cons_cons,QH];cases z:f==g with
  |true=>rw[z]at e;cases e;exact⟨by rw[beq_iff_eq.mp z];exact Qj,v,rfl,r⟩
  |false=>rw[z]at e;obtain⟨h1,h2⟩:=O6 t e;exact⟨Ql _ h1,h2⟩
theorem Fw{f:M D}{fl:Str}(he:PE X e (tD X.K B G0 f))(hb:attributeBase e fl X.env (eval e X.env)=eval e X.env:=by rfl)(hq:fl∈(["part", "number", "row"]:List Str):=by decide) :
  PE X (.Attribute e fl pos) (tD X.K B G0 (UB f λd=>Uz (X2 fl d))):=PE.kin λkin=>by
 refine UN (GQ (Xw kin) (λC bm ⟨nm,c⟩=>c.fld _ _ kin fl hq) he hb) λσ H Q q=>?_;refine tM.one (R:=Rep X.K) q λv H2 G ρ d k r a=>?_
 obtain⟨d',e',a'⟩:=aft.opt a;unfold X2 at e';split at e'
 .obtain⟨ad,C,dd,bm,Bq,vs,ds,rfl,rfl',c,hx,hd,rr⟩:=r.exc_inv
  cases rfl';obtain⟨hm,w,e1,rw⟩:=O6 rr e';cases dd with
  |none=>rw[hd.1]at hm;cases hm
  |some dx=>exact⟨ad,C,bm,dx,_,w,Cw,rfl,⟨_,c⟩,k.gh _ _ hx,k.gh _ _ hd.2,e1,a'.now k rw⟩
 .cases e'
end
def TY(o:J5)(name:Str)(apos:Pos)(args:CC)(pos:Pos):Prop:=∀env:Env,∃pl:Sem Bool,eval (.Call (.Attribute o name apos) args [] pos) env=(do
   let ov ←eval o env
   standAt apos.atName
   let (f,first) ←holding [ov] (getMethod ov name pl)
   callWith pos f first (backTo pos (J8 args env)) (backToKw pos (keywordEach [] env)))
section
variable{P:JZ}{w:World}{K:Frag}{mg:Str->CB}{base:Heap}{st:Stmt}{f f0 D:J0}{fd fd0:J4}{q:Str}{p1 p2 p3 p4 p5 p6 p7 p8 p9 r1 r2 r3 r4 r5 r6 r7 r8 r9 q1 q2:Pos}{j1 j2:Nat}
theorem Hx(F:Fun K "__init__" q st f fd)(hn:FnNm (U6 st) ["self", "text"] ["ValueError"])(hm:mg "ValueError" = Cu)
  (hb:KZ st=[.Expr (.Call (.Attribute (.Name "ValueError" p1) "__init__" p2) [.Name "self" p3,.Name "text" p4] [] p5) p6])
  (ht:TY (.Name "ValueError" p1) "__init__" p2 [.Name "self" p3,.Name "text" p4] p5) :
  FnOk P w K mg base CX0 1 f fd ["self", "text"] (Ta (KC K)):=by
 refine F.ok (fq hn 2) (λvs H Q E ⟨a,C,dd,bm,x,e,_⟩=>by rw[e];rfl) λcdv A outer s H vs Q E hr ⟨a,C,dd,bm,x,e,kc,hx,hq⟩=>?_
 subst e;rw[hb];obtain⟨pl,ht⟩:=ht (Kp CX0 P w K mg base ["self", "text"] q (U6 st) f cdv A outer s H E).nox.env;refine⟨T6 (R8 (KC K) (W5 (U1 0) (W5 (U1 1) YK))),PSs.kin λkin=>WR (WQ (Er (pl:=pl) (Xw kin) (gq hn 0) hm (KP (pq hn 0) (KP (pq hn 1) ZR)) (ht:=ht))),?_⟩;exact⟨_,rfl,_,rfl,a,C,dd,bm,_,rfl,kc,hx,hq⟩
theorem Vj(x y:Str):(x++y).length=x.length+y.length:=by
 show(x.cps++y.cps).size=x.cps.size+y.cps.size
 exact Array.size_append
theorem Hw{t1 g:Str}(M:VJ K D "__init__" f0)(F0:FnOk P w K mg base CX0 1 f0 fd0 ["self", "text"] (Ta (KC K)))(hb0:Zd K fd0 ["self", "text"] [])(hm:mg "DealError" = O (.ref D))
  (F:Fun K "__init__" q st f fd) (hn:FnNm (U6 st) ["self", g] ["DealError"]) (hg:g∈(["part", "number", "row"]:List Str)) (hd1:(g==("__debug__" : Str))=Cw:=by decide) (hd2:(g==("__classdict__" : Str))=Cw:=by decide)
  (hb:KZ st=[.Expr (.Call (.Attribute (.Name "DealError" p1) "__init__" p2) [.Name "self" p3,.JoinedStr [.Constant (.str t1) j1 p4,.FormattedValue (.Name g p5) (-1) Cu p6] r1] [] r2) r3,
   .Assign [.Attribute (.Name "self" r4) g r5] (.Name g r6) r7])
  (ht:TY (.Name "DealError" p1) "__init__" p2 [.Name "self" p3,.JoinedStr [.Constant (.str t1) j1 p4,.FormattedValue (.Name g p5) (-1) Cu p6] r1] r2)
  (hl1:t1.length<=1000) :
  FnOk P w K mg base CX0 2 f fd ["self", g] (SE (KC K) [g]):=by
 refine F.ok (fq hn 2) (λvs H Q E ⟨a,C,bm,us,e,hl,_⟩=>by rw[e,QF,hl];rfl) λcdv A outer s H vs Q E hr ⟨a,C,bm,us,e,hl,kc,hx,hf,hq⟩=>?_
 subst e
 match us,hl with
 |[u1],_=>
 rw[hb];obtain⟨pl,ht⟩:=ht (Kp CX0 P w K mg base ["self", g] q (U6 st) f cdv A outer s H E).nox.env;obtain⟨y1,f1,g1⟩:=hf u1 (by simp);have v1:∀{pos:Pos},PE (Kp CX0 P w K mg base ["self", g] q (U6 st) f cdv A outer s H E).nox (.Name g pos) (U1 1):=pq hn 1 Ct hd1 hd2
 refine⟨tSeq (T6 (VL (Ta (KC K)) [] E0 (W5 (U1 0) (W5 (VU [tC (.str t1),tFmt (U1 1)] Str.empty) YK)))) (RG (KC K) (U1 0) (U1 1) g),
  PSs.kin λkin=>Vm (WQ (EQ (pl:=pl) M F0 hr hb0 (gq hn 0) hm (KP (pq hn 0) (KP (EY (.cons Pf (.cons (LX v1) .nil))) ZR)) (ht:=ht)))
   (WR (GR (Xw kin) (λC bm ⟨nm,c⟩=>c.fld _ _ kin g hg) (pq hn 0) v1 Ct)),?_⟩
 have e0:(Str.empty:Str).length=0:=rfl;have lz:(10000:Nat)<=J6:=by decide
 refine⟨_,rfl,t1,rfl,by rw[Vj];lia,_,rfl,y1,f1,_,rfl,by rw[Vj,Vj];lia,by rw[Vj,Vj];lia,?_⟩;refine⟨a,C,Cu,bm,_,rfl,kc,hx,?_⟩;exact⟨_,rfl,_,rfl,a,C,bm,rfl,kc,.inl ⟨hx,λdx hd hne=>hq dx hd hne⟩⟩
end
structure XSt(h:Heap)(nm:Str)(own:Option Stmt)(C N:J0)(bm:Cz)(mN:Str->CB):Prop where
 ad:h.nsMap mainGlobals nm=O (.ref C)
 obj:∃q bs sn sub ab col dd k0 k1 k2 k3 k5,h.get? C=O (excClassObj nm q C N bs bm Cv sn sub ab col dd k0 k1 k2 k3 k5 "ValueError.__new__")
 ns:h.Ns N mN
 quiet:∀x∈Sm,mN x=Cu
 up:nm = "DealError" /\ bm=VB∨nm ≠ "DealError" /\ ∃D,h.nsMap mainGlobals "DealError" = O (.ref D)/\bm=.ref D::VB
 init:match own with
  |none=>mN "__init__" = Cu
  |some st=>∃f o pm cd doc,mN "__init__" = O (.ref f)/\h.get? f=O o/\o.cls=.type "function" /\ o.data=.func (methDef "__init__" (Xj nm) (ZT st) (KZ st) (U6 st) pm cd doc)/\h.CodeRec cd (Xj nm)
section
variable{h h':Heap}{nm:Str}{own:Option Stmt}{C N:J0}{bm:Cz}{mN:Str->CB}
theorem Nk{a:J0}{x:Str}{v:JX}(e:h.nsMap a x=O v)(k:∀b o,h.get? b=O o->h'.get? b=O o):h'.nsMap a x=O v:=by
 unfold Heap.nsMap at e⊢;cases z:h.get? a with
 |none=>rw[z]at e;cases e
 |some o=>rw[k _ _ z];rw[z]at e;exact e
theorem XSt.keeps(x:XSt h nm own C N bm mN)(k:∀b o,h.get? b=O o->h'.get? b=O o):XSt h' nm own C N bm mN where
 ad:=Nk x.ad k
 obj:=let ⟨q,bs,sn,sub,ab,col,dd,k0,k1,k2,k3,k5,e⟩:=x.obj;⟨q,bs,sn,sub,ab,col,dd,k0,k1,k2,k3,k5,k _ _ e⟩
 ns:=x.ns.keeps k
 quiet:=x.quiet
 up:=x.up.imp id λ⟨a,D,b,c⟩=>⟨a,D,Nk b k,c⟩
 init:=by
  have z:=x.init;cases own with
  |none=>exact z
  |some st=>obtain⟨f,o,pm,cd,doc,h1,h2,h3,h4,h5⟩:=z;exact⟨f,o,pm,cd,doc,h1,k _ _ h2,h3,h4,h5.keeps k⟩
theorem dA(st:Stmt):RE st=ZT st:=by cases st<;>rfl
theorem dB(st:Stmt):RD st=KZ st:=by cases st<;>rfl
theorem dS(st:Stmt):Ph st=U6 st:=by cases st<;>rfl
structure XYP(p:JZ)(l:XL0)(h:Heap):Prop where
 st:∃mc,h.Ns cStatics mc/\mc "thirdparty.any" = Cu
 cl:∀c∈l,∃C N bm mN,XSt h c.1 (c.2.map λi=>ZE (UO p i)) C N bm mN
theorem XYP.keeps{p:JZ}{l:XL0}(x:XYP p l h)(k:∀b o,h.get? b=O o->h'.get? b=O o):XYP p l h':=
 ⟨let ⟨mc,a,b⟩:=x.st;⟨mc,a.keeps k,b⟩,λc hc=>let ⟨C,N,bm,mN,z⟩:=x.cl c hc;⟨C,N,bm,mN,z.keeps k⟩⟩
theorem ML{st:Stmt}{n:Bool}(b:xB h nm n=Cv)(hown:own=Cu->n=Cw)(hs:∀st,own=O st->xSh h nm=O (Cv,XY nm st)):∃C N bm mN,XSt h nm own C N bm mN:=by
 unfold xB at b;split at b
 .rename_i C hC
  split at b
  .rename_i t dd cd sl ho
   simp only[Qw,JB,beq_iff_eq,Bool.or_eq_true,QG,Option.isNone_iff_eq_none]at b;obtain⟨⟨⟨⟨⟨⟨⟨⟨b1,b2⟩,b3⟩,b4⟩,b5⟩,b6⟩,b7⟩,b8⟩,b9⟩:=b;obtain⟨cn,cb,cm,cns,cq,chd,csn,csub,cab,ccol,cdel⟩:=cd;simp only at b2 b3 b4 b6 b7 b8 b9;subst b1 b2 b3 b4;split at b5
   .rename_i k0 k1 k2 k3 k4 k5 hsl
    have b5:=Qa b5;subst b5;have hsl':sl=#[k0,k1,k2,k3,O (.builtin "ValueError.__new__"),k5]:=by rw[←Array.toList_inj,hsl]
    subst hsl'
    have key:∃bm,cm=.ref C::bm/\(cn = "DealError" /\ bm=VB∨cn ≠ "DealError" /\ ∃D,h.nsMap mainGlobals "DealError" = O (.ref D)/\bm=.ref D::VB):=by
     split at b9
     .rename_i e
      exact⟨VB,Qa b9,.inl ⟨e,rfl⟩⟩
     .rename_i e
      split at b9
      .rename_i D hD
       exact⟨.ref D::VB,Qa b9,.inr ⟨e,D,hD,rfl⟩⟩
      .cases b9
    obtain⟨bm,rfl,up⟩:=key;refine⟨C,cns,bm,h.nsMap cns,hC,⟨_,_,_,_,_,_,_,_,_,_,_,_,ho⟩,.of_isNs b6,b7,up,?_⟩;cases own with
    |none=>
     rcases b8 with b8|b8
     .rw[hown Ct]at b8;cases b8
     .exact b8
    |some st=>
     have e:=hs st Ct;unfold xSh at e;rw[hC]at e;dsimp only at e;rw[ho]at e;dsimp only at e;split at e
     .rename_i a o fd sh hf hsh
      simp only[Option.some.injEq,Prod.mk.injEq,Q4]at e;obtain⟨e1,rfl⟩:=e;obtain⟨g1,g2,g3⟩:=Heap.fnAt_spec hf;unfold Heap.shapeAt at hsh;rw[hf]at hsh;obtain⟨n,q,ps,b,sc,g,cl,df,kd,doc,pm,an,code,ct,bi⟩:=fd;simp only[Option.map_some,XY,dA,dB,dS,Option.some.injEq,FnShape.mk.injEq]at hsh;obtain⟨rfl,rfl,rfl,rfl,rfl,rfl,rfl,rfl,rfl,rfl,rfl,rfl,hc⟩:=hsh;exact⟨a,o,pm,code,doc,g1,g2,e1,g3,.of_ok hc⟩
     .cases e
   .cases b5
  .cases b
 .cases b
theorem MK{p:JZ}{l:XL0}{s:JY}(e:xSeen l s=xGood p l):XYP p l s.heap:=by
 unfold xSeen xGood at e;obtain⟨e1,e2⟩:=Prod.mk.inj e;obtain⟨e1,e3⟩:=JO.mp e1;refine⟨⟨_,.of_isNs e1,Option.isNone_iff_eq_none.mp e3⟩,λc hc=>?_⟩;have q:=List.map_inj_left.mp e2 c hc;obtain⟨q1,q2⟩:=Prod.mk.inj q;refine ML (st:=.Pass ⟨0,0,0,0⟩) q1 (λz=>?_) λst z=>?_
 .cases hz:c.2 with
  |none=>rfl
  |some i=>rw[hz]at z;cases z
 .cases hz:c.2 with
  |none=>rw[hz]at z;cases z
  |some i=>rw[hz]at z q2;cases z;exact q2
end
theorem RY:mroOf (.type "ValueError")=pure VB:=by kernel_rfl
theorem Mm:typeLookup (.type "ValueError") "__setattr__" = pure (O (.builtin "object.__setattr__")):=by kernel_rfl
theorem Ml:typeLookup (.type "ValueError") "__getattribute__" = pure (O (.builtin "BaseException.__getattribute__")):=by kernel_rfl
theorem Mk:typeLookup (.type "ValueError") "__getattr__" = pure Cu:=by kernel_rfl
theorem Mj:typeLookup (.type "ValueError") "__class__" = pure (O (.builtin "object.__class__")):=by kernel_rfl
theorem Hv:typeLookup (.type "ValueError") "part" = pure Cu:=by kernel_rfl
theorem E2:typeLookup (.type "ValueError") "number" = pure Cu:=by kernel_rfl
theorem MJ:typeLookup (.type "ValueError") "row" = pure Cu:=by kernel_rfl
theorem PK(v:JX):refuseLoop v "__setattr__" VB=pure ():=by kernel_rfl
section
variable{h h':Heap}{nm:Str}{own ownD:Option Stmt}{C N D ND:J0}{bm:Cz}{mN mD:Str->CB}{M:Model}
theorem XSt.along(x:XSt h nm own C N bm mN)(xD:XSt h "DealError" ownD D ND VB mD){y:Str}{r:CB}(hy:y∈Sm)(hB:typeLookup (.type "ValueError") y=pure r):Kh M C y r h:=by
 obtain⟨q,bs,sn,sub,ab,col,dd,k0,k1,k2,k3,k5,e⟩:=x.obj;obtain⟨q',bs',sn',sub',BQ,col',Bb,k0',k1',k2',k3',k5',e'⟩:=xD.obj;refine Kh.of e (ZD.miss e x.ns (x.quiet y hy) ?_);rcases x.up with ⟨_,rfl⟩|⟨_,D',Bg,rfl⟩
 .exact ZD.base RY hB
 .have:=Bg.symm.trans xD.ad
  cases this;exact ZD.miss e' xD.ns (xD.quiet y hy) (ZD.base RY hB)
theorem XSt.tail(x:XSt h nm own C N bm mN):Tail VB bm:=by
 rcases x.up with ⟨_,rfl⟩|⟨_,D',_,rfl⟩
 .exact Tail.base
 .exact Tail.own Tail.base
def VD(h:Heap)(own ownD:Option Stmt)(mN mD:Str->CB)(nm:Str)(f:J0):Prop:=match own with
 |some _=>mN "__init__" = O (.ref f)
 |none=>mD "__init__" = O (.ref f)
theorem XSt.xcls(x:XSt h nm own C N bm mN){std:Stmt}(xD:XSt h "DealError" (O std) D ND VB mD){f:J0}(hf:VD h own (O std) mN mD nm f):XCls M h C bm f:=by
 have hD:=xD.init;obtain⟨fD,oD,pmD,cdD,docD,g1,g2,g3,g4,g5⟩:=hD;obtain⟨q,bs,sn,sub,ab,col,dd,k0,k1,k2,k3,k5,e⟩:=id x.obj;obtain⟨q',bs',sn',sub',BQ,col',Bb,k0',k1',k2',k3',k5',e'⟩:=id xD.obj
 have fin:Kh M C "__init__" (O (.ref f)) h/\∃o,h.get? f=O o/\o.cls=.type "function" :=by
  have z:=x.init;unfold VD at hf;cases own with
  |some st=>obtain⟨f',o,pm,cd,doc,h1,h2,h3,h4,h5⟩:=z;have hf:mN "__init__" = O (.ref f):=hf;rw[h1]at hf;cases hf;exact⟨Kh.of e (ZD.hit e x.ns h1),o,h2,h3⟩
  |none=>
   have hf:mD "__init__" = O (.ref f):=hf;have z:mN "__init__" = Cu:=z;rw[g1]at hf;cases hf;refine⟨Kh.of e (ZD.miss e x.ns z ?_),oD,g2,g3⟩;rcases x.up with ⟨hn,rfl⟩|⟨_,D',Bg,rfl⟩
   .subst hn
    have:=x.ad.symm.trans xD.ad;cases this;rw[e]at e';cases e';have:=x.ns.eq_nsMap.trans xD.ns.eq_nsMap.symm;rw[this]at z;rw[g1]at z;cases z
   .have:=Bg.symm.trans xD.ad
    cases this;exact ZD.hit e' xD.ns g1
 refine⟨⟨nm,q,N,bs,sn,sub,ab,col,dd,k0,k1,k2,k3,k5,e⟩,x.tail,fin.1,fin.2,x.along xD (by decide) Mm,x.along xD (by decide) Ml,x.along xD (by decide) Mk,x.along xD (by decide) Mj,λv=>?_⟩;rcases x.up with ⟨_,rfl⟩|⟨_,D',_,rfl⟩
 .exact PK v
 .rw[refuseLoop_ref];exact PK v
theorem WT(k:(whole h).In h'):∀b o,h.get? b=O o->h'.get? b=O o:=λb o e=>k b o (by rw[Zo];exact e)
theorem Rc{mA:Str->CB}{a:J0}(n:h.Ns a mA)(y:Str):PySem.W.nsIn (whole h) a y=O (mA y):=by
 obtain⟨⟨oc,od,dt,os⟩,es,ep,ho,hd,hk,hf⟩:=n;have hd:dt=_:=hd;subst hd;unfold PySem.W.nsIn;rw[Zo,ho];dsimp only;have:=hf y;unfold nsFind findBy at this;rw[←Array.find?_toList]at this;dsimp only at this;rw[←this];cases z:es.toList.find? (·.key.isStr y)with
 |some e=>rfl
 |none=>
  dsimp only;rw[Qv]
  .rfl
  .rw[List.any_eq_true]
   rintro⟨e,he,hr⟩;obtain⟨n,t,hk⟩:=hk e (Array.mem_toList_iff.mp he);unfold DictEntry.refKey at hr;rw[hk]at hr;cases hr
theorem XSt.nmd(x:XSt h nm own C N bm mN):NmAt (whole h) nm C:=by obtain⟨q,bs,sn,sub,ab,col,dd,k0,k1,k2,k3,k5,e⟩:=x.obj;exact⟨_,_,by rw[Zo];exact e,rfl,rfl⟩
theorem Nj{mg:Str->CB}(n:h.Ns mainGlobals mg)(e:h.nsMap mainGlobals nm=O (.ref C)):VT (whole h) nm=O C:=by unfold VT;rw[Rc n,n.eq_nsMap,e]
theorem XSt.clsK{mg:Str->CB}(n:h.Ns mainGlobals mg)(x:XSt h nm own C N bm mN){std:Stmt}(xD:XSt h "DealError" (O std) D ND VB mD){f:J0}(hf:VD h own (O std) mN mD nm f):ClsK (whole h) nm C bm where
 ad:=Nj n x.ad
 nmd:=x.nmd
 up:=x.up.imp id λ⟨a,D',b,c⟩=>⟨a,D',Nj n b,c,by have:=b.symm.trans xD.ad;cases this;exact xD.nmd⟩
 cls:=λM h' k=>⟨f,(x.keeps (WT k)).xcls (xD.keeps (WT k)) (by unfold VD at hf⊢;cases own<;>exact hf)⟩
 fld:=λM h' k y hy=>by
  have z:=x.keeps (WT k);have zD:=xD.keeps (WT k);simp only[QC,Jd,or_false]at hy;rcases hy with rfl|rfl|rfl
  .exact z.along zD (by decide) Hv
  .exact z.along zD (by decide) E2
  .exact z.along zD (by decide) MJ
theorem XSt.keep(x:XSt h nm own C N bm mN):PySem.W.keepIn (whole h) (.ref C)=Cv:=by obtain⟨q,bs,sn,sub,ab,col,dd,k0,k1,k2,k3,k5,e⟩:=x.obj;unfold PySem.W.keepIn;dsimp only;rw[Zo,e];dsimp only;unfold PySem.W.specialIn PySem.W.typeIn;dsimp only;rw[Zo,e];kernel_rfl
theorem XSt.fun{st:Stmt}(x:XSt h nm (O st) C N bm mN):∃f fd,mN "__init__" = O (.ref f)/\Fun (whole h) "__init__" (Xj nm) st f fd:=by
 obtain⟨f,⟨oc,od,dt,osl⟩,pm,cd,doc,h1,h2,h3,h4,h5⟩:=x.init;have h4:dt=_:=h4;subst h4;refine⟨f,_,h1,⟨⟨oc,od,.none,doc,pm,_,cd,_,osl,rfl,by rw[Zo];exact h2,?_⟩,?_⟩⟩
 .obtain⟨c,⟨_,_,dc,_⟩,vs,t,rfl,g1,g2,g3⟩:=h5
  have g2:dc=_:=g2;subst g2;unfold PySem.W.codeIn;dsimp only;rw[Zo,g1];dsimp only;have g4:vs.toList[1]?=O (.str (Xj nm) t):=by rw[Array.getElem?_toList];exact g3
  cases hv:vs.toList with
  |nil=>rw[hv]at g4;cases g4
  |cons v0 r=>
   rw[hv]at g4;cases r with
   |nil=>cases g4
   |cons v1 r=>cases g4;exact beq_self_eq_true _
 .unfold PySem.W.keepIn
  dsimp only;rw[Zo,h2]
theorem tf1{K:Frag}:PySem.W.findIn K (.type "type") "__init__" = O (O (.builtin "type.__init__")):=by kernel_rfl
theorem tf2{K:Frag}:PySem.W.specialIn K (.builtin "type.__init__") "__get__" = O (O (.builtin "wrapper_descriptor.__get__")):=by kernel_rfl
theorem tf3{K:Frag}:PySem.W.takesIn K (.builtin "type.__init__")=O Cw:=by kernel_rfl
theorem tf4{K:Frag}:PySem.W.findIn K (.type "type") "__getattribute__" = O (O (.builtin "type.__getattribute__")):=by kernel_rfl
theorem tf5{K:Frag}:PySem.W.subIn K (.type "type") (.type "type")=O Cv:=by kernel_rfl
theorem XSt.clsFn{st:Stmt}(x:XSt h "DealError" (O st) D ND VB mD)(hs:∃mc,h.Ns cStatics mc/\mc "thirdparty.any" = Cu){f:J0}(hf:mD "__init__" = O (.ref f)):VJ (whole h) D "__init__" f:=by
 obtain⟨f',o,pm,cd,doc,h1,h2,h3,h4,h5⟩:=x.init;rw[h1]at hf;cases hf;obtain⟨q,bs,sn,sub,ab,col,dd,k0,k1,k2,k3,k5,e⟩:=x.obj;obtain⟨mc,hc1,hc2⟩:=hs;have tD:PySem.W.typeIn (whole h) (.ref D)=O (.type "type"):=by unfold PySem.W.typeIn;dsimp only;rw[Zo,e];rfl
 have tf:PySem.W.typeIn (whole h) (.ref f)=O (.type "function"):=by unfold PySem.W.typeIn;dsimp only;rw[Zo,h2];exact JV O h3
 refine⟨?_,?_,?_,?_⟩
 .unfold PySem.W.specialIn
  rw[tD];exact tf4 (K:=whole h)
 .unfold PySem.W.readsIn
  rw[Rc hc1,hc2,tD,tf4,tf5];rfl
 .unfold PySem.W.findCls
  rw[tf1];dsimp only[Option.bind_some];rw[tf2];dsimp only[Option.bind_some];rw[tf3];dsimp only[Option.bind_some];have hfi:PySem.W.findIn (whole h) (.ref D) "__init__" = O (O (.ref f)):=by unfold PySem.W.findIn;dsimp only;rw[Zo,e];dsimp only;unfold PySem.W.alongIn PySem.W.ownIn;dsimp only;rw[Zo,e];dsimp only;rw[Rc x.ns,h1]
  rw[hfi];dsimp only[Option.bind_some];rw[Qv (show ¬Builtin.heldUnderItsOwnName "__init__" (.ref f)=Cv from λz=>by cases z),tf];rfl
 .unfold PySem.W.keepIn
  dsimp only;rw[Zo,h2];obtain⟨oc,od,dt,osl⟩:=o;have h4:dt=_:=h4;subst h4;rfl
end
section
variable{h:Heap}{mg:Str->CB}{p:JZ}{l:XL0}{i j:Nat}{c:Str×Option Nat}{p1 p2 p3 p4 p5 p6 p7 p8 p9 r1 r2 r3 r4 r5 r6 r7 r8 r9 q1 q2:Pos}{j1 j2:Nat}
structure Root(p:JZ)(h:Heap)(mg:Str->CB)(i:Nat)(D f:J0)(fd:J4):Prop where
 at':mg "DealError" = O (.ref D)
 ex:∃ND mD,XSt h "DealError" (O (ZE (UO p i))) D ND VB mD/\mD "__init__" = O (.ref f)
 cf:VJ (whole h) D "__init__" f
 bd:Zd (whole h) fd ["self", "text"] []
 ok:∀(P:JZ)(w:World)(base:Heap),FnOk P w (whole h) mg base CX0 1 f fd ["self", "text"] (Ta (KC (whole h)))
theorem XSt.root{own:Option Stmt}{C N:J0}{bm:Cz}{mN:Str->CB}(x:XSt h "DealError" own C N bm mN):bm=VB:=by
 rcases x.up with ⟨_,rfl⟩|⟨z,_⟩
 .rfl
 .exact absurd Ct z
theorem Hu(n:h.Ns mainGlobals mg)(Y:XYP p l h)(hD:(((("DealError" : Str),O i):Str×Option Nat)∈l))(hm:mg "ValueError" = Cu)(hn:FnNm (U6 (ZE (UO p i))) ["self", "text"] ["ValueError"])
  (hb:KZ (ZE (UO p i))=[.Expr (.Call (.Attribute (.Name "ValueError" p1) "__init__" p2) [.Name "self" p3,.Name "text" p4] [] p5) p6])
  (ht:TY (.Name "ValueError" p1) "__init__" p2 [.Name "self" p3,.Name "text" p4] p5)
  (hbz:∀(kV doc pm:JX)(an:CJ)(cdv ct:JX)(us:Cz),us.length=(["self", "text"]:List Str).length->bindArgs (PySem.W.fnOf "__init__" (Xj "DealError") (ZT (ZE (UO p i))) (KZ (ZE (UO p i))) (U6 (ZE (UO p i))) .none kV doc pm an cdv ct) ⟨us,[]⟩=pure ((["self", "text"]:List Str).zip us)) :
  ∃D f fd,Root p h mg i D f fd:=by
 obtain⟨D,ND,bm,mD,x⟩:=Y.cl _ hD;have:=x.root;subst this;obtain⟨f,fd,hf,FU⟩:=XSt.fun (st:=ZE (UO p i)) x;exact⟨D,f,fd,by rw[n.eq_nsMap];exact x.ad,⟨ND,mD,x,hf⟩,XSt.clsFn (st:=ZE (UO p i)) x Y.st hf,FU.binds hbz,λP w base=>Hx FU hn hm hb ht⟩
theorem ZL(n:h.Ns mainGlobals mg)(Y:XYP p l h){D f:J0}{fd:J4}(R:Root p h mg i D f fd)(hc:c∈l):CK (whole h) mg c.1:=by
 obtain⟨C,N,bm,mN,x⟩:=Y.cl _ hc;obtain⟨ND,mD,xD,hf⟩:=R.ex;cases hz:c.2 with
 |none=>rw[hz]at x;exact⟨C,bm,by rw[n.eq_nsMap];exact x.ad,XSt.clsK n x xD (f:=f) hf⟩
 |some k=>rw[hz]at x;obtain⟨f',o,pm,cd,doc,h1,h2⟩:=x.init;exact⟨C,bm,by rw[n.eq_nsMap];exact x.ad,XSt.clsK n x xD (f:=f') h1⟩
theorem MI(n:h.Ns mainGlobals mg)(Y:XYP p l h){D f:J0}{fd:J4}(R:Root p h mg i D f fd){nm:Str}(hc:(nm,O j)∈l)(hf:Za nm≠[]){ps:List Str}(P:JZ)(w:World)(base:Heap)
  (hbz:∀(kV doc pm:JX)(an:CJ)(cdv ct:JX)(us:Cz),us.length=ps.length->bindArgs (PySem.W.fnOf "__init__" (Xj nm) (ZT (ZE (UO p j))) (KZ (ZE (UO p j))) (U6 (ZE (UO p j))) .none kV doc pm an cdv ct) ⟨us,[]⟩=pure (ps.zip us))
  (ok:∀{f':J0}{fd':J4},Fun (whole h) "__init__" (Xj nm) (ZE (UO p j)) f' fd'->FnOk P w (whole h) mg base CX0 2 f' fd' ps (SE (KC (whole h)) (Za nm))):MkX P w (whole h) mg base nm 2:=by
 obtain⟨C,N,bm,mN,x⟩:=Y.cl _ hc;obtain⟨ND,mD,xD,hi⟩:=R.ex;obtain⟨f',fd',hf',FU⟩:=XSt.fun (st:=ZE (UO p j)) x;have ck:=XSt.clsK n x xD (f:=f') hf';exact⟨C,bm,f',fd',_,_,by rw[n.eq_nsMap];exact x.ad,x.keep,ck,λM h' k=>(x.keeps (WT k)).xcls (xD.keeps (WT k)) hf',ok FU,FU.binds hbz,EO ck hf⟩
end
theorem RX{cc:Bool}{q p:JZ}{loose:List Str}{mean:ExcName->CB}{mg mb:Str->CB}{h:Heap}{ix:CG}(P:JZ)(w:World)(base:Heap){ps:List Str}{k n:Nat}{F:Cy->Option XR}(T:Top q loose mean mg mb h)(e:recsOf q=Xk p ix)(i:Nat)(x:Str)(hi:ix.contains i=Cv)(hn:WF (UO p i)=O x)
  (ok:∀{f:J0}{fd:J4},Fun (whole h) x x (UO p i) f fd->FnOk P w (whole h) mg base (ZA cc P w) k f fd ps (spX (whole h) n F))
  (hb:∀(kV doc pm:JX)(an:CJ)(cdv ct:JX)(us:Cz),us.length=ps.length->bindArgs (PySem.W.fnOf x x (ZT (UO p i)) (KZ (UO p i)) (U6 (UO p i)) .none kV doc pm an cdv ct) ⟨us,[]⟩=pure (ps.zip us)):TZ cc P w (whole h) mg base x k n F:=by
 obtain⟨f,fd,m,FU⟩:=W8 T e i x hi hn;exact⟨f,fd,ps,m,FU.kp,FU.binds hb,ok FU⟩
theorem E1{l:PySem.W.OpenLaw}{n k:Nat}{q:JZ}{loose:List Str}{XP:(Str->CB)->Heap->Prop}{YP:World->Heap->Prop}{d:DefRec}{F:Cy->CA}{x:Str}
  (hn:l.most=O n) (hn2:n<=J6) (hdf:d.params.defaults=[]) (hr:Room k callerA)
  (hF:∀(w:World)(s₀:JY)(mg mb:Str->CB)(fa:J0)(h:Heap),PySem.W.Ground q loose [] XP w s₀ mg mb h->YP w h->mg d.name=O (.ref fa) ->
   ∃fd:J4,(∀(s:JY)(u:JX),BindsTo s fd ⟨[u],[]⟩ [(x,u)])/\∀base:Heap,FnOk l.prog w (whole h) mg base CX0 k fa fd [x] (spD (whole h) 1 F))
  (hl:∀ns:CD,ns.length<=n->F [.list (ns.map int)]=O (.bool Cv)) :
  PySem.W.WalkO q loose XP YP l.row.toRowW d [] (λf vs=>PySem.call f vs):=by
 refine Att.attach_call hn hdf λw s₀ s₁ mg mb fa o pm cd doc a vs ns G Y ho hd hcd hmg hobj hints hlen hg=>?_
 obtain⟨fd,hb,hF⟩:=hF w s₀ mg mb fa _ G Y hmg;exact Ey (FA _) G.T.g G.T.b G.T.builtins G.T.nolimit hg hobj hints (Qn hlen hn2) hr (λbase _ _=>hF base) hb (λH hO hS=>MY hS (hl ns hlen)) λH e s' z=>z
section
variable{α β:Type}{ρ ρ1 ρ2 ρ3 ρ':Ur}{f:M D}{s t:SM}{Q:Out->Prop}{d:D}{ds fs:Cy}{nm x:Str}{o:Out}
theorem Tt{g:M Cy}(h1:g ρ=.ok ds ρ1)(h2:Yv nm ds=O fs):XI nm g ρ=.ex ρ1 (exD nm fs):=by unfold XI sB;rw[h1];dsimp only;rw[h2]
theorem Mi{f:M XR}{g:D->SM}(h1:f ρ=.ok (.val d) ρ1)(h2:g d ρ1=o):sX f g ρ=o:=by unfold sX;rw[h1];exact h2
theorem Ry{f:M XR}{g:D->SM}(h1:f ρ=.ok (.exc d) ρ1):sX f g ρ=.ex ρ1 d:=by unfold sX;rw[h1]
theorem SA{n:Nat}{F:Cy->Option XR}{g:M Cy}{xs:Cy}{r:XR}(h1:g ρ=.ok xs ρ1)(h2:xs.length=n)(h3:F xs=O r):WB n F g ρ=.ok r ρ1:=by unfold WB;exact U4 h1 (by rw[Qo h2];exact K0 h3)
theorem PJ{i:Nat}(h1:s ρ=.nx ρ1):Zt i x s t ρ=.nx ρ1:=by unfold Zt;rw[h1]
theorem Ht{i:Nat}(h1:s ρ=.ex ρ1 d)(h2:W7 x d=Cv)(h3:i<ρ1.length)(h4:t (ρ1.set i (O (.pub d)))=.nx ρ2)(h5:ρ2.set i Cu=ρ'):Zt i x s t ρ=.nx ρ':=by unfold Zt;rw[h1];dsimp only;rw[if_pos ⟨h2,h3⟩,h4,←h5]
theorem Ts{c:String}{t:Bool}(h:f ρ=.ok d ρ1)(ht:UQ d c=t):UJ (λd=>Ud (UQ d c)) f ρ=.ok (Ud t) ρ1:=by subst ht;exact KN (k:=λd=>Ud (UQ d c)) h
noncomputable def OutX(r:XR):Out->Prop
 |.rt d=>r=.val d
 |.nx _=>r=.val .none
 |.ex _ d=>r=.exc d/\Z6 d=Cv
 |_=>False
theorem T3{N:List Str}{r:XR}(h0:KA N ds=ρ)(h:Ho s ρ (OutX r)):ZX N s ds=O r:=by
 subst h0;have h:=h.out;unfold ZX;cases z:s (KA N ds)with
 |rt d=>rw[z]at h;rw[show r=.val d from h]
 |nx ρ'=>rw[z]at h;rw[show r=.val .none from h]
 |ex ρ' d=>rw[z]at h;dsimp only;rw[if_pos h.2,h.1]
 |ro _=>rw[z]at h;exact h.elim
 |bk ρ'=>rw[z]at h;exact h.elim
 |ct ρ'=>rw[z]at h;exact h.elim
 |bad=>rw[z]at h;exact h.elim
end
section
variable{X:Cx}{B G0:Hp}{KX:XW}{e o a b c:J5}{pos p2:Pos}{es rest:CC}
def MtS(X:Cx)(id:String)(p:Str->Str->CA):Prop:=∃r,MtR X id r/\∀z y d H Q,p z y=O d->(∀v,(∀G,Rep X.K G v d)->Q v H)->r (.str z) [.str y] H Q
noncomputable def Rx(p:Str->Str->CA)(x:D)(xs:Cy):CA:=match x,xs with
 |.str z,[.str y]=>p z y
 |_,_=>Cu
noncomputable def WA(p:Str->Str->CA)(f:M D)(g:M Cy):M D:=UB f λx=>match x with
 |.str z=>UB g λxs=>Uz (Rx p (.str z) xs)
 |_=>λ_=>.bad
theorem S1{name:Str}{id:String}{p:Str->Str->CA}{apos cpos:Pos}{f:M D}{g:M Cy}(slot:Slot "str" name id)(hty:typeOf (.builtin id)=pure (.type "method_descriptor"))(hm:MtS X id p)(ho:PE X o (tD X.K B G0 f))(ha:PA X (e::es) (tDs X.K B G0 g))
  (hbase:attributeBase o name X.env (eval o X.env)=eval o X.env:=by rfl)
  (hfew:((backTo cpos (J8 (e::es) X.env)).all (λx=>!x.1)&&(backToKw cpos (keywordEach [] X.env)).all (λx=>x.1.isSome)
   && decide ((e::es).length+([]:List Keyword).length+(if([]:List Keyword).isEmpty then 0 else 1)<30))=Cv:=by rfl)
  (hline:(apos.endLine==cpos.line)=Cv:=by rfl) (hs:J8 (e::es) X.env=(Cw,eval e X.env)::J8 es X.env:=by rfl) (hplain:(backTo cpos (J8 es X.env)).any (·.1)=Cw:=by rfl) :
  PE X (.Call (.Attribute o name apos) (e::es) [] cpos) (tD X.K B G0 (WA p f g)):=by
 obtain⟨r,hr,ir⟩:=hm;refine UN (Wr F.plainAttrs_str slot hty hr ho ha hbase hfew hline hs hplain) λσ H Q q=>?_;refine tM.one (R:=Rep X.K) q λv H2 G ρ x k rx a=>?_
 cases x with
 |str z=>
  have:=rx.str_inv;subst this;refine⟨rfl,?_⟩;refine tM.nx (R:=Reps X.K) k a λxs H3 G3 ρ3 ds k3 s3 r3 a3=>?_
  obtain⟨d,e1,a4⟩:=aft.opt a3;unfold Rx at e1;split at e1
  .rename_i z' y e2
   cases e2;obtain⟨w,rfl,q⟩:=r3.one_inv;have:=q.str_inv;subst this;exact ir _ _ _ _ _ e1 λv hv=>a4.now k3 (hv G3)
  .cases e1
 |_=>exact a.elim
theorem Gs:MtS X "str.find" (λz y=>O (.int (Txt.find z y))):=by
 refine⟨λx vs H Q=>∃z y,x=.str z/\vs=[.str y]/\Q (.int (Txt.find z y)) H,?_,λz y d H Q e k=>?_⟩
 .intro pins s σ H x xs v us Q I rx rs h
  obtain⟨z,y,rfl,rfl,q⟩:=h;obtain⟨t,rfl⟩:=(show ∃t,v=Value.str z t from rx)
  obtain⟨u,rfl,t2,rfl⟩:=Wt rs;exact SC.find ⟨.int _,H,I.tok _,⟨_,rfl⟩,q⟩
 .cases e
  exact⟨z,y,rfl,rfl,k _ λ_=>.int _⟩
theorem Ln:MtS X "str.removeprefix" (λz y=>if z.length<=1000000 then O (.str (Txt.removeprefix z y))else Cu):=by
 refine⟨λx vs H Q=>∃z y,x=.str z/\vs=[.str y]/\z.length<=J6/\Q (.str (Txt.removeprefix z y)) H,?_,λz y d H Q e k=>?_⟩
 .intro pins s σ H x xs v us Q I rx rs h
  obtain⟨z,y,rfl,rfl,hz,q⟩:=h;obtain⟨t,rfl⟩:=(show ∃t,v=Value.str z t from rx)
  obtain⟨u,rfl,t2,rfl⟩:=Wt rs;refine call_gives F.slot_str_removeprefix (Jn _ _ _) F.entry_str_removeprefix (F.args_str_removeprefix_2 _ _) (gives_str_removeprefix z y t t2) (post_affix hz _ λt' k'=>⟨.str _,H,I.tok _,⟨_,rfl⟩,q⟩)
 .dsimp only at e
  split at e
  .rename_i hz
   cases e;exact⟨z,y,rfl,rfl,Qn hz lim,k _ λ_=>.str _⟩
  .cases e
noncomputable def Yj(z:Str)(n:Int):Str:=if n<1 then Str.empty else if(n==1 || z.length==0)=Cv then z else⟨(Ub n.toNat z.cps).foldl (· ++ ·) #[]⟩
noncomputable def Mh:R2:=λx y H Q=>∃z n,x=.str z/\y=.int n /\ -1000000<=n/\n<=1000000/\z.length*n.toNat<=1000000/\z.length<=1000000/\(Yj z n).length<=1000000/\Q (.str (Yj z n)) H
theorem Gr:OpR X (binaryOp .Mult) Mh:=by
 intro pins s σ H x y v u Q I rx ry h;obtain⟨z,n,rfl,rfl,h1,h2,h3,h5,h4,q⟩:=h;obtain⟨t,rfl⟩:=(show ∃t,v=Value.str z t from rx)
 obtain⟨t2,rfl⟩:=(show ∃t,u=Value.int n t from ry)
 have hl:(1000000:Nat)<=J6:=lim;refine PySem.P.mul_str ?_ (λhn _=>?_) (λhn _=>?_) ?_
 .rw[Qt (by lia),Qt (by lia)];rfl
 .have hn1:1<=n:=by lia
  have:(2 ^ 63-1) / n ≥ 1000000:=by
   rw[ge_iff_le,Int.le_ediv_iff_mul_le (by lia)];have:1000000*n<=1000000*1000000:=Int.mul_le_mul_of_nonneg_left h2 (by decide)
   lia
  lia
 .exact Qt (by show ¬_;have:=Qn h3 hl;unfold J6 at this;lia)
 .unfold Yj at h4 q
  split
  .rename_i hn
   rw[Qo hn]at q;exact⟨by decide,.str _,H,I.tok _,⟨_,rfl⟩,q⟩
  .rename_i hn
   rw[Qv hn]at q h4;split
   .rename_i hz
    rw[Qo hz]at q;exact⟨.str _,H,I,⟨_,rfl⟩,q⟩
   .rename_i hz
    rw[Qv hz]at q h4;exact⟨Qn h4 hl,.str _,H,I.tok _,⟨_,rfl⟩,q⟩
noncomputable def W1:D->D->CA
 |.str z,.int n=>if -1000000<=n/\n<=1000000/\z.length*n.toNat<=1000000/\z.length<=1000000/\(Yj z n).length<=1000000 then O (.str (Yj z n))else Cu
 |_,_=>Cu
theorem Gq:OpD X (binaryOp .Mult) W1:=by
 refine⟨_,Gr,λv u G H x y d Q s rx ry e k=>?_⟩;unfold W1 at e;split at e
 .split at e
  .rename_i c
   cases e;exact⟨_,_,rx.str_inv,ry.int_inv,c.1,c.2.1,c.2.2.1,c.2.2.2.1,c.2.2.2.2,k _ G H (.refl s) (.str _)⟩
  .cases e
 .cases e
end
end DL
namespace L2
open PySem PySem.Spec PyProof.Rows
end L2
namespace DL
open PySem PySem.Spec L2
open PyProof.Rows hiding St
section
variable{X:Cx}
noncomputable def W4:Cy->CA
 |[.str z]=>if z.length<=640 then(PySem.intText? z).map .int else Cu
 |_=>Cu
theorem Lm:Xx X (.type "int") W4:=by
 refine⟨λvs H Q=>∃z n,vs=[.str z]/\z.length<=640/\PySem.intText? z=O n/\Q (.int n) H,?_,λvs G H ds d Q s r e k=>?_⟩
 .intro pins s σ H vs us Q I r h
  obtain⟨z,n,rfl,hl,hn,q⟩:=h;cases r with
  |cons rx rr=>cases rr;obtain⟨t,rfl⟩:=rx;exact PySem.W.KIN.call_text hn hl ⟨.int n,H,I.tok _,⟨_,rfl⟩,q⟩
 .unfold W4 at e
  split at e
  .obtain⟨v,rfl,q⟩:=r.one_inv
   rw[q.str_inv];split at e
   .rename_i hl
    obtain⟨n,hn,rfl⟩:=Option.map_eq_some_iff.mp e;exact⟨_,n,rfl,hl,hn,k _ G H (.refl s) (.int _)⟩
   .cases e
  .cases e
end
end DL
namespace DL
open PySem PySem.Spec L2 PySem.SeqAt PySem.AutoSeq1
open PyProof.Rows hiding St
end DL
namespace DL
open PySem PySem.Spec L2
open PyProof.Rows hiding St
end DL
namespace L2
open PySem PySem.Spec PyProof.Rows
end L2
namespace DL
open PySem PySem.Spec L2
open PyProof.Rows hiding St
end DL
namespace L2
open PySem PySem.Spec PyProof.Rows
end L2
namespace DL
open PySem PySem.Spec L2
open PyProof.Rows hiding St
noncomputable def spO(K:Frag)(n:Nat)(F:Cy->Option Cy):Sp:=λvs H Q _=>∃G ds r,vs.length=n/\Same G H/\Reps K G vs ds/\F ds=O r/\∀a ws G' H',Ext G H G' H'->H a=Cu->G' a=Cu->H' a=O (.lst ws)->Reps K G' ws r->Q (.ref a) H'
noncomputable def tSO(K:Frag)(B G0:Hp)(g:SM)(f:M Cy):TS:=λDn σ H=>∃G ρ,EOk K B G0 G H σ ρ/\match g ρ with
 |.nx ρ1=>(match f ρ1 with
  |.ok ds _=>∀a vs G' H',Ext G0 B G' H'->B a=Cu->G' a=Cu->H' a=O (.lst vs)->Reps K G' vs ds->Dn.rt (.ref a) H'
  |.bad=>False)
 |.ro ds=>∀a vs G' H',Ext G0 B G' H'->B a=Cu->G' a=Cu->H' a=O (.lst vs)->Reps K G' vs ds->Dn.rt (.ref a) H'
 |_=>False
section
variable{X:Cx}{B G0:Hp}{e:J5}{pos:Pos}{es:CC}{st:Stmt}{sts:List Stmt}
theorem Ll{f:M Cy}(h:PE X e (tL X.K B G0 f)):PSs X [.Return (O e) pos] (tSO X.K B G0 sNx f):=Xv (WR (Vf h)) λD σ H ⟨G,ρ,k,a⟩=>by
 refine⟨G,ρ,k,?_⟩;dsimp only[sNx]at a;cases z:f ρ with
 |bad=>rw[z]at a;exact a.elim
 |ok ds ρ'=>rw[z]at a;exact λad vs G' H' k' s' n=>a ad vs G' H' k'.exit n.b n.g n.h n.r
noncomputable def Wz(f:M Cy):SM:=λρ=>match f ρ with | .ok ds _=>.ro ds | .bad=>.bad
theorem Gp{KX:XW}{f:M Cy}(h:PE X e (tL X.K B G0 f)):PS X (.Return (O e) pos) (tS X.K B G0 KX (Wz f)):=Ko (Vf h) λD σ H ⟨G,ρ,k,a⟩=>by
 refine⟨G,ρ,k,?_⟩;unfold Wz at a;cases z:f ρ with
 |bad=>rw[z]at a;exact a.elim
 |ok ds ρ'=>rw[z]at a;exact λad vs G' H' k' s' n=>a ad vs G' H' k'.exit n.b n.g n.h n.r
theorem Go{g h:SM}{f:M Cy}(h1:PS X st (tS X.K B G0 KX0 g))(h2:PSs X sts (tSO X.K B G0 h f)):PSs X (st::sts) (tSO X.K B G0 (Uv g h) f):=Xv (Vm h1 h2) λD σ H ⟨G,ρ,k,a⟩=>by
 refine⟨G,ρ,k,?_⟩;unfold Uv at a;cases z:g ρ with
 |nx ρ1=>rw[z]at a;exact λσ' G' H' k' s'=>⟨G',ρ1,k',a⟩
 |rt d=>rw[z]at a;exact a.elim
 |ro ds=>rw[z]at a;exact a
 |bk ρ1=>rw[z]at a;exact a.elim
 |ct ρ1=>rw[z]at a;exact a.elim
 |ex ρ1 d=>rw[z]at a;exact a.elim
 |bad=>rw[z]at a;exact a.elim
noncomputable def ZH(N:List Str)(g:SM)(f:M Cy)(ds:Cy):Option Cy:=match g (KA N ds)with
 |.nx ρ=>(match f ρ with
  |.ok r _=>O r
  |.bad=>Cu)
 |.ro ds=>O ds
 |_=>Cu
theorem okO{P:JZ}{w:World}{K:Frag}{mg:Str->CB}{base:Heap}{x qual:Str}{st:Stmt}{f:J0}{fd:J4}{N ps:List Str}{k n:Nat}{g:SM}{q:M Cy}(F:Fun K x qual st f fd)(S:Xq N ps (U6 st))(hn:ps.length=n)
  (der:∀(cdv:JX)(A:Around)(outer:List Env)(s:JY)(H:Hp)(E:XK)(B G0:Hp),Room k (A.deeper (envOfC qual (U6 st) s.heap.objs.size f cdv)) ->
   PSs (Kp CX0 P w K mg base N qual (U6 st) f cdv A outer s H E).nox (KZ st) (tSO K B G0 g q)):FnOk P w K mg base CX0 (k+1) f fd ps (spO K n (ZH N g q)):=by
 refine F.ok S (λvs H Q E h=>?_) (λcdv A outer s H vs Q E hr h=>?_)
 .obtain⟨_,_,_,hl,_⟩:=h
  rw[hl,hn]
 .obtain⟨G,ds,d,hl,sg,r,hF,qq⟩:=h
  refine⟨_,der cdv A outer s H E H G hr,G,KA N ds,TC sg r,?_⟩;unfold ZH at hF;cases z:g (KA N ds)with
  |nx ρ=>
   rw[z]at hF;dsimp only at hF⊢;cases z2:q ρ with
   |bad=>rw[z2]at hF;cases hF
   |ok d' ρ'=>rw[z2]at hF;cases hF;exact λa vs G' H' ex hb hg hh rr=>qq a vs G' H' ex hb hg hh rr
  |rt d'=>rw[z]at hF;cases hF
  |ro d'=>rw[z]at hF;cases hF;exact λa vs G' H' ex hb hg hh rr=>qq a vs G' H' ex hb hg hh rr
  |bk ρ=>rw[z]at hF;cases hF
  |ct ρ=>rw[z]at hF;cases hF
  |ex ρ d=>rw[z]at hF;cases hF
  |bad=>rw[z]at hF;cases hF
def Wl(P:JZ)(w:World)(K:Frag)(mg:Str->CB)(base:Heap)(x:Str)(k n:Nat)(F:Cy->Option Cy):Prop:=
 ∃(f:J0)(fd:J4)(ps:List Str),mg x=O (.ref f)/\PySem.W.keepIn K (.ref f)=Cv/\Zd K fd ps []/\FnOk P w K mg base CX0 k f fd ps (spO K n F)
noncomputable def W3(n:Nat)(F:Cy->Option Cy)(g:M Cy):M Cy:=UB g λxs=>if xs.length=n then Uz (F xs)else λ_=>.bad
theorem Oz{k kk n:Nat}{F:Cy->Option Cy}{g:M Cy}{x:Str}{p2:Pos}(d:Wl X.prog X.w X.K X.mg X.base x k n F)(hr:Room kk X.A)(hg:Gl X x)(ha:PA X (e::es) (tDs X.K B G0 g))(hk:k<=kk:=by decide)(hn:(e::es).length=n:=by rfl)
  (hdb:(x==("__debug__" : Str))=Cw:=by decide) (he:J8 (e::es) X.env=(Cw,eval e X.env)::J8 es X.env:=by rfl) (hpl:(backTo pos (J8 es X.env)).any (·.1)=Cw:=by rfl) :
  PE X (.Call (.Name x p2) (e::es) [] pos) (tL X.K B G0 (W3 n F g)):=by
 obtain⟨f,fd,ps,h1,h2,h3,h4⟩:=d;refine UN (SH h4 (hr.mono hk) hg h1 h2 h3 .nil W6 ha hdb he hpl) λσ H Q ⟨G,ρ,kk0,a⟩=>?_
 refine⟨G,ρ,kk0,?_⟩;unfold W3 UB at a;cases z:g ρ with
 |bad=>rw[z]at a;exact a.elim
 |ok xs ρ1=>
  rw[z]at a;dsimp only at a⊢;intro vs G1 H1 k1 s1 r1;by_cases hl:xs.length=n
  .rw[Qo hl]at a
   unfold Uz at a;cases zf:F xs with
   |none=>rw[zf]at a;exact a.elim
   |some r=>
    rw[zf]at a;dsimp only at a;refine⟨G1,xs,r,by rw[QO,r1.length];exact hl,k1.gh,by rw[QO];exact r1,zf,λad ws G' H' ex hh hg' hH rr=>?_⟩;refine a ad ws G' H' (k1.ext ex) (s1.trans ex.g) ⟨?_,hg',hH,rr,λj es q w=>?_,λj pt d v fp q s r=>k1.freshD ex.h hh q s r⟩
    .cases q:B ad with
     |none=>rfl
     |some u=>have:=k1.bh ad u q;rw[hh]at this;cases this
    .obtain⟨b,us,g1,g2,g3,g4,g5⟩:=k1.own j es q
     rw[g1]at w;cases w;rw[hh]at g4;cases g4
  .rw[Qv hl]at a
   exact a.elim
end
theorem Lk{q p:JZ}{loose:List Str}{mean:ExcName->CB}{mg mb:Str->CB}{h:Heap}{ix:CG}(P:JZ)(w:World)(base:Heap){ps:List Str}{k n:Nat}{F:Cy->Option Cy}(T:PyProof.Rows.Top q loose mean mg mb h)(e:recsOf q=Xk p ix)(i:Nat)(x:Str)(hi:ix.contains i=Cv)(hn:WF (UO p i)=O x)
  (ok:∀{f:J0}{fd:J4},Fun (whole h) x x (UO p i) f fd->FnOk P w (whole h) mg base CX0 k f fd ps (spO (whole h) n F))
  (hb:∀(kV doc pm:JX)(an:CJ)(cdv ct:JX)(us:Cz),us.length=ps.length->bindArgs (PySem.W.fnOf x x (ZT (UO p i)) (KZ (UO p i)) (U6 (UO p i)) .none kV doc pm an cdv ct) ⟨us,[]⟩=pure (ps.zip us)):Wl P w (whole h) mg base x k n F:=by
 obtain⟨f,fd,m,FU⟩:=W8 T e i x hi hn;exact⟨f,fd,ps,m,FU.kp,FU.binds hb,ok FU⟩
theorem Gn{n:Nat}{F:Cy->Option Cy}{g:M Cy}{ρ ρ1:Ur}{xs r:Cy}(h1:g ρ=.ok xs ρ1)(h2:xs.length=n)(h3:F xs=O r):W3 n F g ρ=.ok r ρ1:=by unfold W3 UB;rw[h1];dsimp only;rw[Qo h2,h3];rfl
theorem Mg{N:List Str}{g:SM}{f:M Cy}{ds r:Cy}{ρ ρ1 ρ2:Ur}(h0:KA N ds=ρ)(h1:g ρ=.nx ρ1)(h2:f ρ1=.ok r ρ2):ZH N g f ds=O r:=by subst h0;unfold ZH;rw[h1];dsimp only;rw[h2]
theorem Gm{f:M Cy}{ρ ρ1:Ur}{ds:Cy}{Q:Out->Prop}(h1:f ρ=.ok ds ρ1)(h2:Q (.ro ds)):Ho (Wz f) ρ Q:=by constructor;unfold Wz;rw[h1];exact h2
section
variable{prog:JZ}{w:World}{A:Around}{E:JX->JY->Prop}{s:JY}
theorem Fv{it t:J0}{i:Nat}{items:Array JX}{x:JX}{Q:JX->JY->Prop}(hit:s.heap.IsTupleIter it t i)(ht:s.heap.IsTuple t items)(hx:items[i]?=O x)
  (hQ:∀h',h'.IsTupleIter it t (i+1)->Heap.SameBut it s.heap h'->Q x {s with heap:=h'}):J7 (model prog w) A (Builtin.SmallTypes.nextOf (.ref it)) Q E s:=by
 obtain⟨o,ho,hc,hd⟩:=id hit;obtain⟨ol,hol,_,nl,hdl⟩:=ht;unfold Builtin.SmallTypes.nextOf
 refine Qb (wpAny_callSpecial?_slot (name:=Uk "__next__") hit.typeIs Jg
  (wpAny_call_entry Jg hit.typeIs F.entry_tuple_iterator_next ?_ (F.args_tuple_iterator_next_1 _)))
 show J7 _ _ (field (.ref it) 0 >>= _) _ _ s;refine Qb (QE ho hd (x:=.ref t) Ct ?_);show J7 _ _ (if(Value.ref t==Value.none)=Cv then _ else _) _ _ s;rw[Qv (show ¬((Value.ref t==Value.none)=Cv)from JH)];show J7 _ _ (field (.ref it) 1 >>= _) _ _ s;refine Qb (QE ho hd (x:=.int i 0) Ct ?_);show J7 _ _ (seqItems? (.ref t) >>= _) _ _ s;refine Qb (Jb hol hdl ?_);simp only[Jr,hx];refine wpAny_bind (wpAny_setField ho hd (by simp) (wpAny_pure ⟨x,rfl,wpAny_pure (hQ _ ?_ (Heap.SameBut.update ..))⟩));exact⟨_,Q3 _ ho (Je (Jp hd _)),(Obj.cls_mapFields ..).trans hc,by rw[Obj.data_mapFields hd];simp[rawInt]⟩
theorem Gk{it t:J0}{i:Nat}{items:Array JX}{Q:JX->JY->Prop}(hh:A.handled=Cu)(hit:s.heap.IsTupleIter it t i)(ht:s.heap.IsTuple t items)(hx:items[i]?=Cu)
  (hE:∀h' e,Heap.ExtBut it s.heap h'->(∃o,h'.get? e=O o/\o.cls=.type "StopIteration")->E (.ref e) {s with heap:=h'}):J7 (model prog w) A (Builtin.SmallTypes.nextOf (.ref it)) Q E s:=by
 obtain⟨o,ho,hc,hd⟩:=id hit;obtain⟨ol,hol,_,nl,hdl⟩:=ht;unfold Builtin.SmallTypes.nextOf
 refine Qb (wpAny_callSpecial?_slot (name:=Uk "__next__") hit.typeIs Jg
  (wpAny_call_entry Jg hit.typeIs F.entry_tuple_iterator_next ?_ (F.args_tuple_iterator_next_1 _)))
 show J7 _ _ (field (.ref it) 0 >>= _) _ _ s;refine Qb (QE ho hd (x:=.ref t) Ct ?_);show J7 _ _ (if(Value.ref t==Value.none)=Cv then _ else _) _ _ s;rw[Qv (show ¬((Value.ref t==Value.none)=Cv)from JH)];show J7 _ _ (field (.ref it) 1 >>= _) _ _ s;refine Qb (QE ho hd (x:=.int i 0) Ct ?_);show J7 _ _ (seqItems? (.ref t) >>= _) _ _ s;refine Qb (Jb hol hdl ?_);simp only[Jr,hx];refine wpAny_bind (wpAny_rule (wpAny_bind (wpAny_setField ho hd (by simp) ?_)));show J7 _ _ (newExc (.type "StopIteration") [] >>= _) _ _ _;refine Qb ?_;simp only[newExc,newTuple];refine Qb (wpAny_newObj_type ?_ (by size_fits));refine Qb (m:=firstArgMember _ _) (wpAny_of_eq (a:=Value.none) (by first|rfl|(simp only[firstArgMember];rfl)) ?_);refine wpAny_newObj_type ?_ (by size_fits);simp only[raiseNew];refine Qb (wpAny_handled ?_)
 first|rw[show A.in1.handled=Cu from hh] | rw[hh]
 refine Qb (Qk (wpAny_throw ?_));refine hE _ _ (λc o' c1 e=>?_) ⟨_,Qp _ Ct,rfl⟩;exact Qd _ (Qd _ ((Heap.SameBut.update ..).extBut c o' c1 e))
theorem Gj{z TI TO i1 i2 l1 l2:J0}{k1 k2:Nat}{xs ys:Array JX}{x y a b:JX}{Q:CB->JY->Prop}(D:ZipApart z TI TO i1 i2 l1 l2)
  (hz:IsZip s.heap z TI TO .none) (hTI:IsPair s.heap TI (.ref i1) (.ref i2)) (hTO:IsPair s.heap TO a b)
  (h1:s.heap.IsTupleIter i1 l1 k1) (h2:s.heap.IsListIter i2 l2 k2) (hl1:s.heap.IsTuple l1 xs) (hl2:s.heap.IsList l2 ys) (hx:xs[k1]?=O x) (hy:ys[k2]?=O y)
  (hQ:∀h',IsZip h' z TI TO (rawInt s.heap.objs.size)->IsPair h' TO x y->h'.IsTupleIter i1 l1 (k1+1)->h'.IsListIter i2 l2 (k2+1)->IsPair h' s.heap.objs.size x y->h'.objs.size=s.heap.objs.size+1 ->
   (∀c o,c≠z->c≠TO->c≠i1->c≠i2->s.heap.get? c=O o->h'.get? c=O o)->Q (O (.ref s.heap.objs.size)) {s with heap:=h'}) :
  J7 (model prog w) A (pyNext (.ref z)) Q E s:=by
 have hT:s.TypeIs (.ref z) "zip" :=⟨_,hz,rfl⟩
 unfold pyNext;refine Qb (wpAny_attempt (wpAny_callSpecial?_slot (name:=Uk "__next__") hT F.slot_zip_next (wpAny_call_entry F.slot_zip_next hT F.entry_zip_next ?_ (F.args_zip_next_1 _))));show J7 _ _ (field (.ref z) 2 >>= _) _ _ _;refine Qb (QE hz Ct (x:=.bool Cw) Ct ?_);show J7 _ _ (field (.ref z) 3 >>= _) _ _ _;refine Qb (QE hz Ct (x:=.ref TI) Ct ?_);refine Qb (Jb hTI Ct ?_);show J7 _ _ (Builtin.SmallTypes.ownedTupleIsFree (.ref z) >>= _) _ _ _;refine Qb ?_;unfold Builtin.SmallTypes.ownedTupleIsFree;refine Qb (QE hz Ct (x:=.none) Ct (Qk ?_));simp only[if_true];refine Qb (wpAny_rule ?_);refine Qb (QE hz Ct (x:=.ref TO) Ct ?_);refine wpAny_bind (wpAny_setField_rec hz (by simp) λg1 z1 b1=>?_);replace z1:IsZip g1 z TI TO .ellipsis:=z1;refine Qb ?_;simp only[List.zipIdx_cons,List.zipIdx_nil,List.forIn_cons,List.forIn_nil];refine Qb (Qb (wpAny_onRaise ?_));show J7 _ _ (Builtin.SmallTypes.nextOf (.ref i1) >>= _) _ _ _;refine Qb (Fv (h1.extBut b1.extBut D.i1z) (hl1.extBut b1.extBut D.l1z) hx λg2 t2 b2=>Qk ?_);have o2:IsPair g2 TO a b:=b2.extBut _ _ D.TOi1 (b1.extBut _ _ D.TOz hTO);refine Qb (Jb o2 Ct ?_);refine Qb (wpAny_updateSeq_pair o2 λg3 o3 b3=>?_);replace o3:IsPair g3 TO x b:=o3;refine Qb (wpAny_letGo (Qk ?_));refine Qb (Qb (wpAny_onRaise ?_));show J7 _ _ (Builtin.SmallTypes.nextOf (.ref i2) >>= _) _ _ _;refine Qb (wpAny_nextOf_list_item (((h2.extBut b1.extBut D.i2z).extBut b2.extBut D.i12.symm).extBut b3.extBut D.TOi2.symm) (((hl2.extBut b1.extBut D.l2z).extBut b2.extBut D.l2i1).extBut b3.extBut D.l2TO) hy λg4 t4 b4=>Qk ?_);have o4:IsPair g4 TO x b:=b4.extBut _ _ D.TOi2 o3;refine Qb (Jb o4 Ct ?_);refine Qb (wpAny_updateSeq_pair o4 λg5 o5 b5=>?_);replace o5:IsPair g5 TO x y:=o5;refine Qb (wpAny_letGo (Qk (Qk ?_)));refine Qb (Jb o5 Ct ?_);refine Qb (wpAny_newTuple ?_);have hsz:g5.objs.size=s.heap.objs.size:=by rw[b5.1,b4.1,b3.1,b2.1,b1.1]
 have z5:IsZip g5 z TI TO .ellipsis:=b5.extBut _ _ D.TOz.symm (b4.extBut _ _ D.i2z.symm (b3.extBut _ _ D.TOz.symm (b2.extBut _ _ D.i1z.symm z1)))
 have k5:∀c o,c≠z->c≠TO->c≠i1->c≠i2->s.heap.get? c=O o->g5.get? c=O o:=λc o c1 c2 c3 c4 e=>
  b5.extBut _ _ c2 (b4.extBut _ _ c4 (b3.extBut _ _ c2 (b2.extBut _ _ c3 (b1.extBut _ _ c1 e))))
 have t15:g5.IsTupleIter i1 l1 (k1+1):=((t2.extBut b3.extBut D.TOi1.symm).extBut b4.extBut D.i12).extBut b5.extBut D.TOi1.symm;have t25:g5.IsListIter i2 l2 (k2+1):=t4.extBut b5.extBut D.TOi2.symm;have BY:z<g5.objs.size:=Qf z5;show J7 _ _ (Builtin.SmallTypes.ownedTupleHandOut (.ref z) (.ref g5.objs.size) >>= _) _ _ _;refine Qb ?_;unfold Builtin.SmallTypes.ownedTupleHandOut;have z6:IsZip (g5.push {cls:=.type "tuple", data:=.seq #[x,y]}) z TI TO .ellipsis:=Qd _ z5;refine wpAny_bind (wpAny_setField_rec z6 (by simp) λg7 z7 b7=>?_);replace z7:IsZip g7 z TI TO (rawInt g5.objs.size):=z7;refine wpAny_setField_rec z7 (by simp) λg8 z8 b8=>?_
 replace z8:IsZip g8 z TI TO (rawInt g5.objs.size):=z8;have up:∀c o,c≠z->g5.get? c=O o->g8.get? c=O o:=λc o c1 e=>b8.extBut _ _ c1 (b7.extBut _ _ c1 (Qd _ e));have p8:IsPair g8 g5.objs.size x y:=b8.extBut _ _ (Ju BY) (b7.extBut _ _ (Ju BY) (Qp _ Ct));have e8:g8.objs.size=g5.objs.size+1:=by rw[b8.1,b7.1,QS]
 rw[hsz]at z8 p8 e8;refine Qk ⟨_,rfl,?_⟩;refine Qk ?_;show Q (O (Value.ref g5.objs.size)) _;rw[hsz];exact hQ g8 z8 (up _ _ D.TOz o5) (t15.at λo e=>up _ o D.i1z e) (t25.at λo e=>up _ o D.i2z e) p8 e8 λc o c1 c2 c3 c4 e=>up c o c1 (k5 c o c1 c2 c3 c4 e)
theorem Lj{z TI TO i1 i2 l1 l2:J0}{k1:Nat}{xs:Array JX}{a b:JX}{Q:CB->JY->Prop}(hh:A.handled=Cu)(D:ZipApart z TI TO i1 i2 l1 l2)
  (hz:IsZip s.heap z TI TO .none) (hTI:IsPair s.heap TI (.ref i1) (.ref i2)) (hTO:IsPair s.heap TO a b) (h1:s.heap.IsTupleIter i1 l1 k1) (hl1:s.heap.IsTuple l1 xs) (hx:xs[k1]?=Cu)
  (hQ:∀h',(∀c o,c≠z->c≠TO->c≠i1->c≠i2->s.heap.get? c=O o->h'.get? c=O o)->Q Cu {s with heap:=h'}):J7 (model prog w) A (pyNext (.ref z)) Q E s:=by
 have hT:s.TypeIs (.ref z) "zip" :=⟨_,hz,rfl⟩
 unfold pyNext;refine Qb (wpAny_attempt (wpAny_callSpecial?_slot (name:=Uk "__next__") hT F.slot_zip_next (wpAny_call_entry F.slot_zip_next hT F.entry_zip_next ?_ (F.args_zip_next_1 _))));show J7 _ _ (field (.ref z) 2 >>= _) _ _ _;refine Qb (QE hz Ct (x:=.bool Cw) Ct ?_);show J7 _ _ (field (.ref z) 3 >>= _) _ _ _;refine Qb (QE hz Ct (x:=.ref TI) Ct ?_);refine Qb (Jb hTI Ct ?_);show J7 _ _ (Builtin.SmallTypes.ownedTupleIsFree (.ref z) >>= _) _ _ _;refine Qb ?_;unfold Builtin.SmallTypes.ownedTupleIsFree;refine Qb (QE hz Ct (x:=.none) Ct (Qk ?_));simp only[if_true];refine Qb (wpAny_rule ?_);refine Qb (QE hz Ct (x:=.ref TO) Ct ?_);refine wpAny_bind (wpAny_setField_rec hz (by simp) λg1 z1 b1=>?_);replace z1:IsZip g1 z TI TO .ellipsis:=z1;refine Qb ?_;simp only[List.zipIdx_cons,List.zipIdx_nil,List.forIn_cons,List.forIn_nil];refine Qb (Qb (wpAny_onRaise ?_));show J7 _ _ (Builtin.SmallTypes.nextOf (.ref i1) >>= _) _ _ _;refine Qb (Gk hh (h1.extBut b1.extBut D.i1z) (hl1.extBut b1.extBut D.l1z) hx λg2 e b2 he=>?_);obtain⟨oe,hoe,hce⟩:=he;have z2:IsZip g2 z TI TO .ellipsis:=b2 _ _ D.i1z.symm z1;have hez:e≠z:=λx=>by subst x;rw[z2]at hoe;cases hoe;simp at hce
 refine wpAny_setField_rec z2 (by simp) λg3 _ b3=>?_
 refine Qb (wpAny_isInstance (T:= "StopIteration") (b:=Cv) ⟨oe,b3.extBut _ _ hez hoe,hce⟩ isSubtype_stop ?_);exact Qk (hQ _ λc o c1 _ c3 _ x=>b3.extBut _ _ c1 (b2 _ _ c3 (b1.extBut _ _ c1 x)))
theorem Li(l1 l2:J0)(xs ys:Array JX) :
  Meets (Builtin.«zip.__new__» ⟨[.type "zip", .ref l1,.ref l2],[]⟩) (λ_ R s=>s.heap.IsTuple l1 xs/\s.heap.IsList l2 ys/\∀g1 g2 g3 g4 g5:Heap,g1=s.heap.push {cls:=.type "tuple_iterator", data:=.fields #[.ref l1,.int 0 0]} ->
   g2=g1.push {cls:=.type "list_iterator", data:=.fields #[.ref l2,.int 0 0]}->g3=g2.push {cls:=.type "tuple", data:=.seq #[.ref s.heap.objs.size,.ref g1.objs.size]} ->
   g4=g3.push {cls:=.type "tuple", data:=.seq #[.none,.none]}->g5=g4.push {cls:=.type "zip", data:=.fields #[.none,.bool Cw,.bool Cw,.ref g2.objs.size,.ref g3.objs.size]} ->
   R (.ok (.ret (.ref g4.objs.size))) {s with heap:=g5}):=
 .of_wp λprog w A R s h=>by
  obtain⟨hp,g,d,tk,os⟩:=s;obtain⟨hl1,hl2,h⟩:=h;have hsub:=sub_zip;have hL1:Heap.IsTuple (Shared.heap ⟨hp,g,d,tk,os⟩) l1 xs:=hl1;have hL2:Heap.IsList (Shared.heap ⟨hp.push {cls:=.type "tuple_iterator", data:=.fields #[.ref l1,.int 0 0]},g,d,tk,os⟩) l2 ys:=Heap.IsList.push hl2 _
  wp_walk using wpAny_pyIter_tuple hL1,wpAny_pyIter_list hL2
  exact⟨_,rfl,h _ _ _ _ _ Ct Ct Ct Ct Ct⟩
theorem Gi{l1 l2:J0}{xs ys:Array JX}{Q:JX->JY->Prop}(hl1:s.heap.IsTuple l1 xs)(hl2:s.heap.IsList l2 ys)
  (h:∀h',IsZip h' (s.heap.objs.size+4) (s.heap.objs.size+2) (s.heap.objs.size+3) .none->IsPair h' (s.heap.objs.size+2) (.ref s.heap.objs.size) (.ref (s.heap.objs.size+1)) ->
   IsPair h' (s.heap.objs.size+3) .none .none->h'.IsTupleIter s.heap.objs.size l1 0->h'.IsListIter (s.heap.objs.size+1) l2 0->h'.objs.size=s.heap.objs.size+5 ->
   (∀c o,s.heap.get? c=O o->h'.get? c=O o)->Q (.ref (s.heap.objs.size+4)) {s with heap:=h'}) :
  J7 (model prog w) A (call (.type "zip") [.ref l1,.ref l2]) Q E s:=by
 refine callType_new F.called_zip (by decide) (F.typeCall_zip_2 _ _) (F.newCall_zip_2 _ _) (λobj=>F.args_object_init_3 obj _ _) F.entry_zip_new (Li l1 l2 xs ys) ⟨hl1,hl2,?_⟩;intro g1 g2 g3 g4 g5 e1 e2 e3 e4 e5;have z1:g1.objs.size=s.heap.objs.size+1:=by rw[e1];exact QS ..
 have z2:g2.objs.size=s.heap.objs.size+2:=by rw[e2,QS,z1]
 have z3:g3.objs.size=s.heap.objs.size+3:=by rw[e3,QS,z2]
 have z4:g4.objs.size=s.heap.objs.size+4:=by rw[e4,QS,z3]
 have z5:g5.objs.size=s.heap.objs.size+5:=by rw[e5,QS,z4]
 have u5:∀c o,g4.get? c=O o->g5.get? c=O o:=λc o e=>by rw[e5];exact Qd _ e
 have u4:∀c o,g3.get? c=O o->g5.get? c=O o:=λc o e=>u5 c o (by rw[e4];exact Qd _ e)
 have u3:∀c o,g2.get? c=O o->g5.get? c=O o:=λc o e=>u4 c o (by rw[e3];exact Qd _ e)
 have u2:∀c o,g1.get? c=O o->g5.get? c=O o:=λc o e=>u3 c o (by rw[e2];exact Qd _ e)
 have u1:∀c o,s.heap.get? c=O o->g5.get? c=O o:=λc o e=>u2 c o (by rw[e1];exact Qd _ e)
 have a5:g5.get? g4.objs.size=O {cls:=.type "zip", data:=.fields #[.none,.bool Cw,.bool Cw,.ref g2.objs.size,.ref g3.objs.size]}:=by rw[e5];exact Qp _ Ct
 have a4:g5.get? g3.objs.size=O {cls:=.type "tuple", data:=.seq #[.none,.none]}:=u5 _ _ (by rw[e4];exact Qp _ Ct);have a3:g5.get? g2.objs.size=O {cls:=.type "tuple", data:=.seq #[.ref s.heap.objs.size,.ref g1.objs.size]}:=u4 _ _ (by rw[e3];exact Qp _ Ct);have a2:g5.get? g1.objs.size=O {cls:=.type "list_iterator", data:=.fields #[.ref l2,.int 0 0]}:=u3 _ _ (by rw[e2];exact Qp _ Ct);have a1:g5.get? s.heap.objs.size=O {cls:=.type "tuple_iterator", data:=.fields #[.ref l1,.int 0 0]}:=u2 _ _ (by rw[e1];exact Qp _ Ct);rw[z2,z3,z4]at a5;rw[z1,z2]at a3;rw[z3]at a4;rw[z1]at a2;rw[z4];exact⟨⟨_,a5,rfl⟩,h _ a5 a3 a4 ⟨_,a1,rfl,rfl⟩ ⟨_,a2,rfl,rfl⟩ z5 u1⟩
end
end DL
namespace L2
open PySem PySem.Spec PyProof.Rows
noncomputable def Izt(K:Frag)(a b:J0):It:=
 ⟨λi H=>∃xs x ys y,SqT K H a xs/\xs[i]?=O x/\SqL K H b ys/\ys[i]?=O y,
  λi H v H'=>∃p x y,H p=Cu/\v=.ref p/\(∀xs,SqT K H a xs->xs[i]?=O x)/\(∀ys,SqL K H b ys->ys[i]?=O y)/\H'=upd H p (.tup [x,y]),
  λi H=>∃xs,SqT K H a xs/\xs.length<=i⟩
theorem Gh{P:JZ}{w:World}{K:Frag}{elts:CC}{x1}{tp:Pos}(a b z TI TO i1 i2:J0)(Dz:ZipApart z TI TO i1 i2 a b) :
  Turn P w K (.Tuple elts x1 tp) (Izt K a b) [z,TI,TO,i1,i2] z (λi h=>IsZip h z TI TO .none/\IsPair h TI (.ref i1) (.ref i2)/\(∃c d,IsPair h TO c d)/\h.IsTupleIter i1 a i/\h.IsListIter i2 b i) where
 mem:=by simp
 obj:=λi h st c hc=>by
  obtain⟨h1,h2,⟨c0,d0,h3⟩,⟨o4,h4,_,d4⟩,⟨o5,h5,_,d5⟩⟩:=st;have hc':c=z∨c=TI∨c=TO∨c=i1∨c=i2:=by simpa using hc
  rcases hc' with rfl|rfl|rfl|rfl|rfl
  .exact⟨_,h1,λv q=>by have q':Data.fields _=Data.cell v:=q;cases q'⟩
  .exact⟨_,h2,λv q=>by have q':Data.seq _ _=Data.cell v:=q;cases q'⟩
  .exact⟨_,h3,λv q=>by have q':Data.seq _ _=Data.cell v:=q;cases q'⟩
  .exact⟨o4,h4,λv q=>by rw[d4]at q;cases q⟩
  .exact⟨o5,h5,λv q=>by rw[d5]at q;cases q⟩
 keep:=λi h h' st k=>by obtain⟨h1,h2,⟨c0,d0,h3⟩,h4,h5⟩:=st;exact⟨k z (by simp) _ h1,k TI (by simp) _ h2,⟨c0,d0,k TO (by simp) _ h3⟩,h4.at λo q=>k i1 (by simp) o q,h5.at λo q=>k i2 (by simp) o q⟩
 item:=by
  intro X hP hw hK hc i pins s σ H E I hf st hg;subst hP hw hK;obtain⟨h1,h2,⟨c0,d0,h3⟩,h4,h5⟩:=st;obtain⟨xs,x,ys,y,hq,hx,Ba,hy⟩:=hg;obtain⟨its,rv,p,hz⟩:=I.tuple hq;obtain⟨its',rv',p',hz'⟩:=I.list Ba;obtain⟨u,hu,ru⟩:=rv.get hx;obtain⟨u',hu',ru'⟩:=rv'.get hy;refine DL.Gj Dz h1 h2 h3 h4 h5 (show s.heap.IsTuple a its.toArray from p) p'.isList (x:=u) (y:=u') (by simpa using hu) (by simpa using hu') λh' g1 g3 g4 g5 gp gs gk=>?_
  refine⟨_,rfl,wpAny_letOwnedTupleGo_zip g1 λh2' gz sb=>?_⟩;have hzl:z<s.heap.objs.size:=Qf h1;have Bx:Heap.SameBut z h' h2':=sb;have gp2:h2'.get? s.heap.objs.size=O {cls:=.type "tuple", data:=.seq #[u,u']}:=(Bx.2 _ (Ju hzl)).trans gp
  have kk:∀c o,c∉[z,TI,TO,i1,i2]->s.heap.get? c=O o->h2'.get? c=O o:=λc o hc q=>by
   have n1:c≠z:=λe=>hc (by simp[e])
   have n3:c≠TO:=λe=>hc (by simp[e])
   have n4:c≠i1:=λe=>hc (by simp[e])
   have n5:c≠i2:=λe=>hc (by simp[e])
   exact(Bx.2 c n1).trans (gk c o n1 n3 n4 n5 q)
  have hn:H s.heap.objs.size=Cu:=I.hok.fresh (Qs _)
  have I2:Inv X pins σ (upd H s.heap.objs.size (.tup [x,y])) {s with heap:=h2'}:=
   I.turnedNew (t':=s.toks) (fp:=[z,TI,TO,i1,i2]) hf kk (Qs _) ⟨by show 2<=J6;decide,[u,u'],.cons ru (.cons ru' .nil),⟨_,gp2,rfl,_,rfl⟩⟩
  have gTI:IsPair h' TI (.ref i1) (.ref i2):=gk TI _ Dz.TIz Dz.TITO Dz.TIi1 Dz.TIi2 h2
  refine⟨.ref s.heap.objs.size,_,I2,rfl,⟨_,x,y,hn,rfl,λws hw=>by rw[I.tuple_inj hw hq];exact hx,λws hw=>by rw[I.list_inj hw Ba];exact hy,rfl⟩,
   ⟨gz,(Bx.2 _ Dz.TIz).trans gTI,⟨u,u',(Bx.2 _ Dz.TOz).trans g3⟩,g4.at λo q=>(Bx.2 _ Dz.i1z).trans q,g5.at λo q=>(Bx.2 _ Dz.i2z).trans q⟩,λc hc=>?_⟩
  have hlt:c<s.heap.objs.size:=by
   have hc':c=z∨c=TI∨c=TO∨c=i1∨c=i2:=by simpa using hc
   rcases hc' with rfl|rfl|rfl|rfl|rfl
   .exact hzl
   .exact Qf h2
   .exact Qf h3
   .obtain⟨o,ho,_⟩:=h4;exact Qf ho
   .obtain⟨o,ho,_⟩:=h5;exact Qf ho
  rw[UR (QP hlt)];exact(hf c hc).1
 done:=by intro X hP hw hK hc i pins s σ H E I hf st hg;subst hP hw hK;obtain⟨h1,h2,⟨c0,d0,h3⟩,h4,h5⟩:=st;obtain⟨xs,hq,hx⟩:=hg;obtain⟨its,rv,p,hz⟩:=I.tuple hq;have hl:=rv.length;exact DL.Lj (I.ok.hd hc) Dz h1 h2 h3 h4 (show s.heap.IsTuple a its.toArray from p) (by simp;omega) λh' eb=>⟨rfl,I.turnedL (t':=s.toks) hf λc o hb q=>eb c o (λe=>hb (by simp[e])) (λe=>hb (by simp[e])) (λe=>hb (by simp[e])) (λe=>hb (by simp[e])) q⟩
 self:=λ_ _ _ _ _ st h=>wpAny_pyIter_zip st.1 h
section
variable{X:Cx}
noncomputable def iZt(K:Frag)(ta:TA):TI:=λσ H R=>ta σ H λvs H1=>∃a b xs ys,vs=[.ref a,.ref b]/\SqT K H1 a xs/\SqL K H1 b ys/\R (Izt K a b) H1
theorem Mf{a b:J5}{ta:TA}{p pos:Pos}{elts:CC}{x1}{tp:Pos}(hg:Gl X "zip")(hm:X.mg "zip" = Cu)(ha:PA X [a,b] ta)
  (hs:J8 [a,b] X.env=[(Cw,eval a X.env),(Cw,eval b X.env)]:=by rfl) (hs2:J8 [b] X.env=[(Cw,eval b X.env)]:=by rfl):PI X (.Tuple elts x1 tp) (.Call (.Name "zip" p) [a,b] [] pos) (iZt X.K ta):=by
 intro pins s σ H R I h;refine Call_ (Xy I hg hm boot_zip (Jv (thn (ha pos pins s σ H _ I h) λus s1 ⟨vs,H1,I1,r1,q1⟩=>?_) (by rw[hs,hs2]) (by rw[hs2];rfl)));obtain⟨l1,l2,xs,ys,e,hq,Ba,q⟩:=q1;subst e;cases r1 with
 |cons r rr=>
  cases rr with
  |cons r' rr=>
   cases rr;cases (show _=Value.ref l1 from r);cases (show _=Value.ref l2 from r');obtain⟨its,rv,pl,hz⟩:=I1.tuple hq;obtain⟨its',rv',pl',hz'⟩:=I1.list Ba;have tl:s1.heap.IsTuple l1 its.toArray:=pl;have n1:l1<s1.heap.objs.size:=by obtain⟨_,e,_⟩:=id tl;exact Qf e
   have n2:l2<s1.heap.objs.size:=by obtain⟨_,e,_⟩:=id pl'.isList;exact Qf e
   have ne:∀i j:Nat,i≠j->s1.heap.objs.size+i≠s1.heap.objs.size+j:=λi j h e=>h (Nat.add_left_cancel e);have m1:∀m:Nat,l1≠s1.heap.objs.size+m:=λm=>QP (Qy n1 (Nat.le_add_right _ _));have m2:∀m:Nat,l2≠s1.heap.objs.size+m:=λm=>QP (Qy n2 (Nat.le_add_right _ _));refine DL.Gi tl pl'.isList λh' g1 g2 g3 g4 g5 gs kk=>?_;have I2:Inv X pins σ H1 {s1 with heap:=h'}:=I1.kept (t':=s1.toks) kk;refine wpAny_pyIter_zip g1 ?_
   refine⟨s1.heap.objs.size+4,[s1.heap.objs.size+4,s1.heap.objs.size+2,s1.heap.objs.size+3,s1.heap.objs.size,s1.heap.objs.size+1],_,_,H1,rfl,I2,
    Gh l1 l2 (s1.heap.objs.size+4) (s1.heap.objs.size+2) (s1.heap.objs.size+3) s1.heap.objs.size (s1.heap.objs.size+1) ⟨ne 2 4 (by decide),ne 3 4 (by decide),ne 0 4 (by decide),ne 1 4 (by decide),ne 2 3 (by decide),ne 2 0 (by decide),ne 2 1 (by decide),ne 3 0 (by decide),ne 3 1 (by decide),ne 0 1 (by decide),m1 4,m1 3,m1 0,m1 1,m2 4,m2 3,m2 0,m2 1⟩,⟨g1,g2,⟨_,_,g3⟩,g4,g5⟩,λc hc=>?_,q⟩
   have hc':s1.heap.objs.size<=c:=by
    have hc':c=s1.heap.objs.size+4∨c=s1.heap.objs.size+2∨c=s1.heap.objs.size+3∨c=s1.heap.objs.size∨c=s1.heap.objs.size+1:=by simpa using hc
    rcases hc' with rfl|rfl|rfl|rfl|rfl<;>first|exact Nat.le_add_right _ _|exact Qs _
   exact I1.fpOk hc' (I1.hok.fresh hc')
end
end L2
namespace DL
open PySem PySem.Spec L2
open PyProof.Rows hiding St
section
variable{X:Cx}{B G0:Hp}{e a b c tg:J5}{pos:Pos}{es rest:CC}
theorem Fu{K:Frag}{G1:Hp}{a b:J0}{vs ws:List V}{ds es:Cy}(h:SqT K G1 a vs)(h':SqL K G1 b ws)(r:Reps K G1 vs ds)(r':Reps K G1 ws es)(hl:ds.length<=es.length):Yx K (Izt K a b) (ZS ds es) G1 where
 go:=λi G H s1 s2 hi=>by
  unfold ZS at hi;rw[Qg,List.length_zip]at hi;have hi1:i<vs.length:=by rw[r.length];lia
  have hi2:i<ws.length:=by rw[r'.length];lia
  exact⟨vs,vs[i],ws,ws[i],Zr (s1.trans s2) h,Qi hi1,(s1.trans s2).seq h',Qi hi2⟩
 stop:=λi G H s1 s2 hi=>by
  unfold ZS at hi;rw[Qg,List.length_zip]at hi;refine⟨vs,Zr (s1.trans s2) h,?_⟩;rw[r.length]
  lia
 yld:=λi G H x H' d s1 s2 e y=>by
  obtain⟨p,u,v,hp,rfl,y1,y2,rfl⟩:=y;have z1:=y1 vs (Zr (s1.trans s2) h);have z2:=y2 ws ((s1.trans s2).seq h');unfold ZS at e;rw[Qx]at e;cases q:(ds.zip es)[i]? with
  |none=>rw[q]at e;cases e
  |some pr=>rw[q]at e;cases e;rw[List.getElem?_zip_eq_some]at q;obtain⟨u',e1,r1⟩:=r.get q.1;obtain⟨v',e2,r2⟩:=r'.get q.2;rw[z1]at e1;rw[z2]at e2;cases e1;cases e2;exact⟨upd G p (.tup [u,v]),Ext.new s2 hp,.tup (SqT.of U9) (.cons ((r1.mono s1).mono (KG (s2.free hp))) (.cons ((r2.mono s1).mono (KG (s2.free hp))) .nil))⟩
noncomputable def Wy:Cy->Option Cy
 |[.tuple xs,.list ys]=>if xs.length<=ys.length then O (ZS xs ys)else Cu
 |_=>Cu
theorem Dd{x l:Cy}(h:Wy x=O l):∃xs ys,x=[.tuple xs,.list ys]/\xs.length<=ys.length/\l=ZS xs ys:=by
 unfold Wy at h;split at h
 .split at h
  .rename_i hl
   cases h;exact⟨_,_,rfl,hl,rfl⟩
  .cases h
 .cases h
noncomputable def VC(f:M Cy):M Cy:=UB f λx=>Uz (Wy x)
theorem Gg{f:M Cy}{p2:Pos}{elts:CC}{x1}{tp:Pos}(hg:Gl X "zip")(hm:X.mg "zip" = Cu)(ha:PA X [a,b] (tDs X.K B G0 f))(hs:J8 [a,b] X.env=[(Cw,eval a X.env),(Cw,eval b X.env)]:=by rfl)(hs2:J8 [b] X.env=[(Cw,eval b X.env)]:=by rfl) :
  PI X (.Tuple elts x1 tp) (.Call (.Name "zip" p2) [a,b] [] pos) (iD X.K B G0 (VC f)):=YL (Mf hg hm ha hs hs2) λσ H R q=>tM.toI (R0:=Reps X.K) q λv H' G' ρ' x k r a=>by
 cases z:Wy x with
 |none=>rw[z]at a;exact a.elim
 |some l=>
  rw[z]at a;obtain⟨xs,ys,rfl,hl,rfl⟩:=Dd z;cases r with
  |cons r1 rr=>
   cases rr with
   |cons r2 rr=>cases rr;obtain⟨l1,vs,rfl,h1,q1⟩:=r1.tup_inv;obtain⟨l2,ws,rfl,h2,q2⟩:=r2.lst_inv;exact⟨l1,l2,vs,ws,rfl,Zr k.gh h1,k.gh.seq h2,a _ G' H' k (.refl _) (Fu h1 h2 q1 q2 hl)⟩
end
theorem Ge{ρ ρ1:Ur}{g:M Cy}{xs r:Cy}(h1:g ρ=.ok xs ρ1)(h2:Wy xs=O r):VC g ρ=.ok r ρ1:=by unfold VC;exact U4 h1 (K0 h2)
theorem EOk.lent{K:Frag}{B G0 G H:Hp}{σ:St}{ρ:Ur}(k:EOk K B G0 G H σ ρ):EOk K H H H H σ (KM ρ) where
 bh:=.refl _
 gh:=.refl _
 g0:=.refl _
 np:=λ_ _ e n=>by rw[n]at e;cases e
 len:=by unfold KM;rw[Qg];exact k.len
 pub:=λi d e=>by
  rcases OH e with e2|⟨ds,rfl,e2⟩|⟨p,e2⟩
  .exact k.tree (by unfold W9;rw[e2])
  .exact k.tree (by unfold W9;rw[e2])
  .exact k.tree (by unfold W9;rw[e2])
 own:=λi ds e=>(WU e).elim
 sep:=λi j a ds es e=>(WU e).elim
 dp:=.of (λ_ _ _ q=>O7 q) λ_ _ q=>WU q
theorem EOk.back{K:Frag}{B G0 G H H':Hp}{σ:St}{ρ:Ur}(k:EOk K B G0 G H σ ρ)(e:Same H H'):EOk K B G0 G H' σ ρ:=k.ext ⟨e,.refl _,k.gh.trans e,λ_ _ _ n=>n⟩
noncomputable def Xc(f:M Bool):M Bool:=λρ=>match f (KM ρ)with
 |.ok b _=>.ok b ρ
 |.bad=>.bad
section
variable{X:Cx}{B G0:Hp}{KX:XW}{e a b c tg iter:J5}{pos:Pos}
theorem Tr{f:M Bool}(h:∀B' G',PT X e (tBo X.K B' G' f)):PT X e (tBo X.K B G0 (Xc f)):=by
 have h':PT X e (λσ H Q=>∃B' G',tBo X.K B' G' f σ H Q):=λpins s σ H Q I ⟨B',G',q⟩=>h B' G' pins s σ H Q I q;refine Zv h' λσ H Q ⟨G,ρ,k,a⟩=>⟨H,H,H,KM ρ,k.lent,?_⟩;unfold Xc at a
 cases z:f (KM ρ)with
 |bad=>rw[z]at a;exact a.elim
 |ok t ρ'=>rw[z]at a;dsimp only at a⊢;exact λv G' H' k' s' r=>a v G H' (k.back k'.bh) (.refl _) r
end
theorem Sz{f:M Bool}{ρ ρ':Ur}{b:Bool}(h:f (KM ρ)=.ok b ρ'):Xc f ρ=.ok b ρ:=by unfold Xc;rw[h]
end DL
namespace L2
open PySem PySem.Spec PyProof.Rows
end L2
namespace DL
open PySem PySem.Spec L2
open PyProof.Rows hiding St
end DL
namespace L2
open PySem PySem.Spec PyProof.Rows
end L2
namespace DL
open PySem PySem.Spec L2
open PyProof.Rows hiding St
theorem Si{α:Type}(a:α):[a].Nodup:=by simp
section
variable{K:Frag}{B G0 G H:Hp}{σ:St}{ρ:Ur}
structure NewT(K:Frag)(B G H:Hp)(σ:St)(ρ:Ur)(pt:Pat)(v:V)(d:D)(fp:CF):Prop where
 r:RepO K G H pt v d fp
 nd:fp.Nodup
 b:∀a∈fp,B a=Cu/\G a=Cu
 f:∀a∈fp,∀(j:Nat) es,ρ[j]?=O (O (.own es))->σ[j]?≠O (O (.ref a))
 dp:∀a∈fp,∀(j:Nat) p d v fp',ρ[j]?=O (O (.deep p d))->σ[j]?=O (O v)->RepO K G H p v d fp'->a∉fp'
theorem EOk.setDeep{i:Nat}{pt:Pat}{v:V}{d:D}{fp:CF}(k:EOk K B G0 G H σ ρ)(n:NewT K B G H σ ρ pt v d fp)(hi:i<ρ.length):EOk K B G0 G H (σ.set i (O v)) (ρ.set i (O (.deep pt d))) where
 bh:=k.bh
 gh:=k.gh
 g0:=k.g0
 np:=k.np
 len:=by rw[QJ,QJ];exact k.len
 pub:=λj d' q=>by
  by_cases z:i=j
  .subst z;have:=Kl q;cases this
  .rw[Qe z]at q⊢
   exact k.pub j d' q
 own:=λj es q=>by
  by_cases z:i=j
  .subst z;have:=Kl q;cases this
  .rw[Qe z]at q⊢
   exact k.own j es q
 sep:=λj l c es fs q1 q2 s1 s2=>by
  have z1:i≠j:=λz=>by subst z;have:=Kl q1;cases this
  have z2:i≠l:=λz=>by subst z;have:=Kl q2;cases this
  rw[Qe z1]at q1 s1;rw[Qe z2]at q2 s2;exact k.sep j l c es fs q1 q2 s1 s2
 dp:=by
  obtain⟨ω,k1,k2⟩:=k.dp;have hs:i<σ.length:=by rw[←k.len];exact hi
  refine⟨λb=>if b∈fp then i else ω b,λj p d' q=>?_,λj es b q s=>?_⟩
  .by_cases z:i=j
   .subst z
    have:=Kl q;cases this;exact⟨v,fp,Qz hs,n.r,n.nd,λa m=>⟨(n.b a m).1,(n.b a m).2,Qo m⟩⟩
   .rw[Qe z]at q⊢
    obtain⟨v',fp',s,r,nn,w⟩:=k1 j p d' q;refine⟨v',fp',s,r,nn,λb m=>⟨(w b m).1,(w b m).2.1,?_⟩⟩;dsimp only;rw[Qv (λz=>n.dp b z j p d' v' fp' q s r m)];exact(w b m).2.2
  .by_cases z:i=j
   .subst z;have:=Kl q;cases this
   .rw[Qe z]at q s
    dsimp only;rw[Qv (λz=>n.f b z j es q s)];exact k2 j es b q s
theorem EOk.newT{G' H':Hp}{pt:Pat}{v:V}{d:D}{fp:CF}(k1:EOk K B G0 G H σ ρ)(sh:Same H H')(r:RepO K G' H' pt v d fp)(nd:fp.Nodup)(fr:∀a∈fp,H a=Cu/\G' a=Cu):NewT K B G' H' σ ρ pt v d fp where
 r:=r
 nd:=nd
 b:=λa m=>⟨k1.bh.free (fr a m).1,(fr a m).2⟩
 f:=λa m j es q w=>by obtain⟨b,us,g1,g2,g3,g4,g5⟩:=k1.own j es q;rw[g1]at w;cases w;rw[(fr a m).1]at g4;cases g4
 dp:=λa m j p d v fp' q s r=>k1.freshD sh (fr a m).1 q s r
theorem EOk.forget{i:Nat}(k:EOk K B G0 G H σ ρ):EOk K B G0 G H σ (ρ.set i Cu):=by
 have nz:∀{m:Nat}{s:Sl},(ρ.set i Cu)[m]?=O (O s)->ρ[m]?=O (O s):=λ{m s} q=>by
  by_cases z:i=m
  .subst z;have:=Kl q;cases this
  .rw[Qe z]at q;exact q
 exact⟨k.bh,k.gh,k.g0,k.np,by rw[QJ];exact k.len,λj d q=>k.pub j d (nz q),λj ds q=>k.own j ds (nz q),λj l c es fs q1 q2 s1 s2=>k.sep j l c es fs (nz q1) (nz q2) s1 s2,
  k.dp.map (λm p d q=>⟨nz q,rfl⟩) (λm es q=>⟨es,nz q,rfl⟩) λm p d v fp q s r w n=>⟨r,w⟩⟩
theorem RepOl.leaf:∀{vs:List V}{ds:Cy},Reps K G vs ds->RepOl K G H .leaf vs ds []
 |_,_,.nil=>.nil
 |_,_,.cons h t=>.cons (f1:=[]) (f2:=[]) (.leaf h) (RepOl.leaf t)
theorem RepOl.append{p:Pat}:∀{vs ws:List V}{ds es:Cy}{f1 f2:CF},RepOl K G H p vs ds f1->RepOl K G H p ws es f2->RepOl K G H p (vs++ws) (ds++es) (f1++f2)
 |_,_,_,_,_,_,.nil,s=>s
 |_,_,_,_,_,_,.cons r t,s=>by rw[Jq];exact .cons r (RepOl.append t s)
theorem RepOl.length{p:Pat}:∀{vs:List V}{ds:Cy}{fp:CF},RepOl K G H p vs ds fp->vs.length=ds.length
 |_,_,_,.nil=>rfl
 |_,_,_,.cons _ t=>by rw[QF,QF,RepOl.length t]
noncomputable def Zq(ρ:Ur)(i:Nat):Option (Pat×D):=match ρ[i]? with
 |some (O (.own ds))=>O (.lst .leaf,.list ds)
 |some (O (.deep p d))=>O (p,d)
 |_=>Cu
theorem EOk.slots(k:EOk K B G0 G H σ ρ):∃ω:J0->Nat,∀(i:Nat) p d,Zq ρ i=O (p,d)->∃v fp,σ[i]?=O (O v)/\RepO K G H p v d fp/\fp.Nodup/\∀a∈fp,B a=Cu/\G a=Cu/\ω a=i:=by
 obtain⟨ω,k1,k2⟩:=k.dp;refine⟨ω,λi p d h=>?_⟩;unfold Zq at h;split at h
 .rename_i ds q
  cases h;obtain⟨a,vs,h1,h2,h3,h4,h5⟩:=k.own i ds q;refine⟨.ref a,[a],h1,.lst h4 (.leaf h5),Si a,λb m=>?_⟩;rw[QK.mp m];exact⟨h2,h3,k2 i ds a q h1⟩
 .rename_i p' d' q
  cases h;exact k1 i p d q
 .cases h
theorem EOk.mutD{j:Nat}{p:Pat}{d d':D}{v:V}{fp fp':CF}{a:J0}{o:HO}(k:EOk K B G0 G H σ ρ)(hd:ρ[j]?=O (O (.deep p d)))(hv:σ[j]?=O (O v))(r:RepO K G H p v d fp)(ha:a∈fp)
  (r':RepO K G (upd H a o) p v d' fp') (Bh:fp'.Nodup) (sub:∀b∈fp',b∈fp):EOk K B G0 G (upd H a o) σ (ρ.set j (O (.deep p d'))):=by
 obtain⟨ω,k1,k2⟩:=k.dp;obtain⟨v0,fp0,s0,r0,n0,w0⟩:=k1 j p d hd;rw[hv]at s0;cases s0;have e0:=r0.uniq (.refl _) r;subst e0;obtain⟨hb,hg,hw⟩:=w0 a ha;obtain⟨ws,hl⟩:=r.isl a ha;have nt:∀vs,H a≠O (.tup vs):=λvs z=>by rw[hl]at z;cases ws<;>cases z
 have hjl:j<ρ.length:=(Qm.mp hd).1;have nz:∀{m:Nat}{s:Sl},j≠m->(ρ.set j (O (.deep p d')))[m]?=O (O s)->ρ[m]?=O (O s):=λ{m s} z q=>by rw[Qe z]at q;exact q
 refine⟨λb u e=>?_,λb u e=>?_,k.g0,k.np,by rw[QJ];exact k.len,λm dm e=>?_,λm es e=>?_,λm l c es fs q1 q2 s1 s2=>?_,ω,λm pm dm e=>?_,λm es b e s=>?_⟩
 .rw[UR (Zn e hb)];exact k.bh b u e
 .rw[UR (Zn e hg)];exact k.gh b u e
 .by_cases z:j=m
  .subst z;have:=Kl e;cases this
  .exact k.pub m dm (nz z e)
 .by_cases z:j=m
  .subst z;have:=Kl e;cases this
  .have e:=nz z e
   obtain⟨c,us,g1,g2,g3,g4,g5⟩:=k.own m es e;have zc:c≠a:=λw=>by subst w;exact z (hw.symm.trans (k2 m es c e g1))
   exact⟨c,us,g1,g2,g3,by rw[UR zc];exact g4,g5⟩
 .have z1:j≠m:=λz=>by subst z;have:=Kl q1;cases this
  have z2:j≠l:=λz=>by subst z;have:=Kl q2;cases this
  exact k.sep m l c es fs (nz z1 q1) (nz z2 q2) s1 s2
 .by_cases z:j=m
  .subst z
   have:=Kl e;cases this;exact⟨v,fp',hv,r',Bh,λb mb=>w0 b (sub b mb)⟩
  .obtain⟨vm,fm,sm,rm,nm,wm⟩:=k1 m pm dm (nz z e)
   exact⟨vm,fm,sm,rm.upd nt (λmm=>z (hw.symm.trans (wm a mm).2.2)),nm,wm⟩
 .have z:j≠m:=λz=>by subst z;have:=Kl e;cases this
  exact k2 m es b (nz z e) s
theorem EOk.mutM{j i:Nat}{p:Pat}{d d':D}{v:V}{fp fp':CF}{ds:Cy}{a b0:J0}{o:HO}(k:EOk K B G0 G H σ ρ)(hd:ρ[j]?=O (O (.deep p d)))(hv:σ[j]?=O (O v))(r:RepO K G H p v d fp)(ha:a∈fp)
  (hi:ρ[i]?=O (O (.own ds))) (hb0:σ[i]?=O (O (.ref b0))) (r':RepO K G (upd H a o) p v d' fp') (Bh:fp'.Nodup) (sub:∀b∈fp',b∈fp∨b=b0):EOk K B G0 G (upd H a o) σ ((ρ.set j (O (.deep p d'))).set i Cu):=by
 obtain⟨ω,k1,k2⟩:=k.dp;have hij:i≠j:=λz=>by subst z;rw[hd]at hi;cases hi
 obtain⟨v0,fp0,s0,r0,n0,w0⟩:=k1 j p d hd;rw[hv]at s0;cases s0;have e0:=r0.uniq (.refl _) r;subst e0;obtain⟨hb,hg,hw⟩:=w0 a ha;obtain⟨ws,hl⟩:=r.isl a ha;obtain⟨b1,us1,i1,i2,i3,i4,i5⟩:=k.own i ds hi;rw[hb0]at i1;cases i1;have hwb:=k2 i ds b0 hi hb0;have nt:∀vs,H a≠O (.tup vs):=λvs z=>by rw[hl]at z;cases ws<;>cases z
 have nz:∀{m:Nat}{s:Sl},j≠m->((ρ.set j (O (.deep p d'))).set i Cu)[m]?=O (O s)->ρ[m]?=O (O s)/\i≠m:=λ{m s} z q=>by
  by_cases zi:i=m
  .subst zi;have:=Kl q;cases this
  .rw[Qe zi,Qe z]at q;exact⟨q,zi⟩
 have atj:∀{s:Sl},((ρ.set j (O (.deep p d'))).set i Cu)[j]?=O (O s)->s=.deep p d':=λ{s} q=>by rw[Qe hij]at q;have:=Kl q;cases this;rfl
 refine⟨λb u e=>?_,λb u e=>?_,k.g0,k.np,by rw[QJ,QJ];exact k.len,λm dm e=>?_,λm es e=>?_,λm l c es fs q1 q2 s1 s2=>?_,λb=>if b=b0 then j else ω b,λm pm dm e=>?_,λm es b e s=>?_⟩
 .rw[UR (Zn e hb)];exact k.bh b u e
 .rw[UR (Zn e hg)];exact k.gh b u e
 .by_cases z:j=m
  .subst z;cases atj e
  .exact k.pub m dm (nz z e).1
 .by_cases z:j=m
  .subst z;cases atj e
  .have e:=(nz z e).1
   obtain⟨c,us,g1,g2,g3,g4,g5⟩:=k.own m es e;have zc:c≠a:=λw=>by subst w;exact z (hw.symm.trans (k2 m es c e g1))
   exact⟨c,us,g1,g2,g3,by rw[UR zc];exact g4,g5⟩
 .have z1:j≠m:=λz=>by subst z;cases atj q1
  have z2:j≠l:=λz=>by subst z;cases atj q2
  exact k.sep m l c es fs (nz z1 q1).1 (nz z2 q2).1 s1 s2
 .by_cases z:j=m
  .subst z
   cases atj e;refine⟨v,fp',hv,r',Bh,λb mb=>?_⟩;dsimp only;rcases sub b mb with mb|rfl
   .refine⟨(w0 b mb).1,(w0 b mb).2.1,?_⟩
    split
    .rfl
    .exact(w0 b mb).2.2
   .exact⟨i2,i3,Qo Ct⟩
  .obtain⟨e,zi⟩:=nz z e
   obtain⟨vm,fm,sm,rm,nm,wm⟩:=k1 m pm dm e;refine⟨vm,fm,sm,rm.upd nt (λmm=>z (hw.symm.trans (wm a mm).2.2)),nm,λb mb=>⟨(wm b mb).1,(wm b mb).2.1,?_⟩⟩;dsimp only;rw[Qv (λy=>by subst y;exact zi (hwb.symm.trans (wm b mb).2.2))];exact(wm b mb).2.2
 .have z:j≠m:=λz=>by subst z;cases atj e
  obtain⟨e,zi⟩:=nz z e;dsimp only;have:=k2 m es b e s;rw[Qv (λy=>by subst y;exact zi (hwb.symm.trans this))];exact this
end
noncomputable def tT(K:Frag)(B G0:Hp)(pt:Pat)(f:M D):TE:=λσ H Q=>∃G ρ,EOk K B G0 G H σ ρ/\match f ρ with
 |.ok d ρ'=>∀v fp G' H',EOk K B G0 G' H' σ ρ'->Same G G'->NewT K B G' H' σ ρ' pt v d fp->Q v H'
 |.bad=>False
noncomputable def Xb(i:Nat)(pt:Pat)(f:M D):SM:=sB f λd ρ=>if i<ρ.length then .nx (ρ.set i (O (.deep pt d)))else .bad
noncomputable def spT(K:Frag)(n:Nat)(pt:Pat)(F:Cy->CA):Sp:=λvs H Q _=>∃G ds d,vs.length=n/\Same G H/\Reps K G vs ds/\F ds=O d/\∀v fp G' H',Ext G H G' H'->RepO K G' H' pt v d fp->fp.Nodup->(∀a∈fp,H a=Cu/\G' a=Cu)->Q v H'
noncomputable def tST(K:Frag)(B G0:Hp)(pt:Pat)(g:SM)(f:M D):TS:=λDn σ H=>∃G ρ,EOk K B G0 G H σ ρ/\match g ρ with
 |.nx ρ1=>(match f ρ1 with
  |.ok d _=>∀v fp G' H',Ext G0 B G' H'->RepO K G' H' pt v d fp->fp.Nodup->(∀a∈fp,B a=Cu/\G' a=Cu)->Dn.rt v H'
  |.bad=>False)
 |_=>False
noncomputable def Xr(N:List Str)(g:SM)(f:M D)(ds:Cy):CA:=match g (KA N ds)with
 |.nx ρ=>(match f ρ with
  |.ok r _=>O r
  |.bad=>Cu)
 |_=>Cu
def Xa(P:JZ)(w:World)(K:Frag)(mg:Str->CB)(base:Heap)(x:Str)(k n:Nat)(pt:Pat)(F:Cy->CA):Prop:=
 ∃(f:J0)(fd:J4)(ps:List Str),mg x=O (.ref f)/\PySem.W.keepIn K (.ref f)=Cv/\Zd K fd ps []/\FnOk P w K mg base CX0 k f fd ps (spT K n pt F)
section
variable{X:Cx}{B G0:Hp}{KX:XW}{e o a b c:J5}{pos:Pos}{es:CC}{st:Stmt}{sts:List Stmt}{pt:Pat}
theorem Sy{i:Nat}{x:Str}{f:M D}{p2:Pos}(hN:X.N.Nodup)(hi:X.N[i]?=O x)(hx:Loc X.env.scope x)(he:PE X e (tT X.K B G0 pt f))(hs:swapsWith e (O (.Name x p2)) pos.line X.env=pure Cw:=by rfl)
  (hf:X.fn x=Cv∨X.env.scope.names.lookup x=O .local:=by first|exact .inl rfl|exact .inr rfl|assumption):PS X (.Assign [.Name x p2] e pos) (tS X.K B G0 KX (Xb i pt f)):=
 Ko (VX hN hi hx he hs hf) λD σ H ⟨G,ρ,k,a⟩=>by
  refine⟨G,ρ,k,?_⟩;unfold Xb sB at a;cases z:f ρ with
  |bad=>rw[z]at a;exact a.elim
  |ok ds ρ1=>
   rw[z]at a;intro v fp G' H' k' s' n;dsimp only at a;split at a
   .rename_i hl
    exact a _ G' H' (k'.setDeep n hl) s'
   .exact a.elim
theorem NewL.tree{K:Frag}{G H:Hp}{σ:St}{ρ:Ur}{ad:J0}{vs:List V}{ds:Cy}(n:NewL K B G H σ ρ ad vs ds){p:Pat}(r:RepOl K G H p vs ds []):NewT K B G H σ ρ (.lst p) (.ref ad) (.list ds) [ad] where
 r:=.lst n.h r
 nd:=Si ad
 b:=λb m=>by rw[QK.mp m];exact⟨n.b,n.g⟩
 f:=λb m=>by rw[QK.mp m];exact n.f
 dp:=λb m=>by rw[QK.mp m];exact n.dp
theorem P2{p:Pat}:PE X (.List [] pos) (tT X.K B G0 (.lst p) (Us (.list []))):=UN (Tn (B:=B) (G0:=G0) Kf) λσ H Q ⟨G,ρ,k,a⟩=>by
 refine⟨G,ρ,k,?_⟩;intro ad vs G' H' k' s' n;have hv:vs=[]:=by have:=n.r;cases this;rfl
 subst hv;exact a _ _ G' H' k' s' (n.tree .nil)
theorem V0{f:M D}(h:PE X e (tT X.K B G0 pt f)):PSs X [.Return (O e) pos] (tST X.K B G0 pt sNx f):=Xv (WR (Vf h)) λD σ H ⟨G,ρ,k,a⟩=>by
 refine⟨G,ρ,k,?_⟩;dsimp only[sNx]at a;cases z:f ρ with
 |bad=>rw[z]at a;exact a.elim
 |ok ds ρ'=>rw[z]at a;exact λv fp G' H' k' s' n=>a v fp G' H' k'.exit n.r n.nd n.b
theorem Vi{g h:SM}{f:M D}(h1:PS X st (tS X.K B G0 KX0 g))(h2:PSs X sts (tST X.K B G0 pt h f)):PSs X (st::sts) (tST X.K B G0 pt (Uv g h) f):=Xv (Vm h1 h2) λD σ H ⟨G,ρ,k,a⟩=>by
 refine⟨G,ρ,k,?_⟩;unfold Uv at a;cases z:g ρ with
 |nx ρ1=>rw[z]at a;exact λσ' G' H' k' s'=>⟨G',ρ1,k',a⟩
 |rt d=>rw[z]at a;exact a.elim
 |ro ds=>rw[z]at a;exact a.elim
 |bk ρ1=>rw[z]at a;exact a.elim
 |ct ρ1=>rw[z]at a;exact a.elim
 |ex ρ1 d=>rw[z]at a;exact a.elim
 |bad=>rw[z]at a;exact a.elim
theorem okT{P:JZ}{w:World}{K:Frag}{mg:Str->CB}{base:Heap}{x qual:Str}{st:Stmt}{f:J0}{fd:J4}{N ps:List Str}{k n:Nat}{g:SM}{q:M D}(F:Fun K x qual st f fd)(S:Xq N ps (U6 st))(hn:ps.length=n)
  (der:∀(cdv:JX)(A:Around)(outer:List Env)(s:JY)(H:Hp)(E:XK)(B G0:Hp),Room k (A.deeper (envOfC qual (U6 st) s.heap.objs.size f cdv)) ->
   PSs (Kp CX0 P w K mg base N qual (U6 st) f cdv A outer s H E).nox (KZ st) (tST K B G0 pt g q)):FnOk P w K mg base CX0 (k+1) f fd ps (spT K n pt (Xr N g q)):=by
 refine F.ok S (λvs H Q E h=>?_) (λcdv A outer s H vs Q E hr h=>?_)
 .obtain⟨_,_,_,hl,_⟩:=h
  rw[hl,hn]
 .obtain⟨G,ds,d,hl,sg,r,hF,qq⟩:=h
  refine⟨_,der cdv A outer s H E H G hr,G,KA N ds,TC sg r,?_⟩;unfold Xr at hF;cases z:g (KA N ds)with
  |nx ρ=>
   rw[z]at hF;dsimp only at hF⊢;cases z2:q ρ with
   |bad=>rw[z2]at hF;cases hF
   |ok d' ρ'=>rw[z2]at hF;cases hF;exact λv fp G' H' ex rr nd fr=>qq v fp G' H' ex rr nd fr
  |rt d'=>rw[z]at hF;cases hF
  |ro ds=>rw[z]at hF;cases hF
  |bk ρ=>rw[z]at hF;cases hF
  |ct ρ=>rw[z]at hF;cases hF
  |ex ρ d=>rw[z]at hF;cases hF
  |bad=>rw[z]at hF;cases hF
theorem Oe{k kk n:Nat}{F:Cy->CA}{g:M Cy}{x:Str}{p2:Pos}(d:Xa X.prog X.w X.K X.mg X.base x k n pt F)(hr:Room kk X.A)(hg:Gl X x)(ha:PA X (e::es) (tDs X.K B G0 g))(hk:k<=kk:=by decide)(hn:(e::es).length=n:=by rfl)
  (hdb:(x==("__debug__" : Str))=Cw:=by decide) (he:J8 (e::es) X.env=(Cw,eval e X.env)::J8 es X.env:=by rfl) (hpl:(backTo pos (J8 es X.env)).any (·.1)=Cw:=by rfl) :
  PE X (.Call (.Name x p2) (e::es) [] pos) (tT X.K B G0 pt (UG n F g)):=by
 obtain⟨f,fd,ps,h1,h2,h3,h4⟩:=d;refine UN (SH h4 (hr.mono hk) hg h1 h2 h3 .nil W6 ha hdb he hpl) λσ H Q ⟨G,ρ,kk0,a⟩=>?_
 refine⟨G,ρ,kk0,?_⟩;unfold UG UB at a;cases z:g ρ with
 |bad=>rw[z]at a;exact a.elim
 |ok xs ρ1=>
  rw[z]at a;dsimp only at a⊢;intro vs G1 H1 k1 s1 r1;by_cases hl:xs.length=n
  .rw[Qo hl]at a
   unfold Uz at a;cases zf:F xs with
   |none=>rw[zf]at a;exact a.elim
   |some r=>rw[zf]at a;dsimp only at a;refine⟨G1,xs,r,by rw[QO,r1.length];exact hl,k1.gh,by rw[QO];exact r1,zf,λv fp G' H' ex rr nd fr=>?_⟩;exact a v fp G' H' (k1.ext ex) (s1.trans ex.g) (k1.newT ex.h rr nd fr)
  .rw[Qv hl]at a
   exact a.elim
noncomputable def Wx(j i:Nat):SM:=λρ=>match ρ[j]?,ρ[i]? with
 |some (O (.deep (.lst (.lst .leaf)) (.list dss))),O (O (.own ds))=>if dss.length<1000000 then .nx ((ρ.set j (O (.deep (.lst (.lst .leaf)) (.list (dss++[.list ds]))))).set i Cu)else .bad
 |_,_=>.bad
theorem P1{j i:Nat}{apos cpos:Pos}(ho:PE X o (U1 j))(he:PE X e (U1 i))
  (hbase:attributeBase o "append" X.env (eval o X.env)=eval o X.env:=by rfl)
  (hfew:((backTo cpos (J8 [e] X.env)).all (λx=>!x.1)&&(backToKw cpos (keywordEach [] X.env)).all (λx=>x.1.isSome)
   && decide ([e].length+([]:List Keyword).length+(if([]:List Keyword).isEmpty then 0 else 1)<30))=Cv:=by rfl)
  (hline:(apos.endLine==cpos.line)=Cv:=by rfl) (hs:J8 [e] X.env=[(Cw,eval e X.env)]:=by rfl)
  (hsw:swapsWith (.Call (.Attribute o "append" apos) [e] [] cpos) Cu pos.line X.env=pure Cw:=by rfl) :
  PS X (.Expr (.Call (.Attribute o "append" apos) [e] [] cpos) pos) (tS X.K B G0 KX (Wx j i)):=
 Ko (WQ (Wr JF PySem.F.slot_list_append PySem.F.type_list_append TK ho (KP he ZR (by rw[hs];rfl)) hbase hfew hline (by rw[hs];rfl) Ct) hsw) λD σ H ⟨G,ρ,k,q⟩=>by
  unfold Wx at q;split at q
  case h_2=>exact q.elim
  case h_1 dss ds hj hi=>
  split at q
  case isFalse=>exact q.elim
  case isTrue hlim=>
  obtain⟨ω,ks⟩:=k.slots;obtain⟨v,fp,hv,r,nd,w⟩:=ks j _ _ (by unfold Zq;rw[hj]);obtain⟨v2,fp2,hv2,r2,nd2,w2⟩:=ks i _ _ (by unfold Zq;rw[hi]);cases r with
  |lst h rl=>
  rename_i ad vs fp;cases r2 with
  |lst h2 rl2=>
  rename_i bd us fp2;have hij:i≠j:=λz=>by subst z;rw[hj]at hi;cases hi
  have hne:bd≠ad:=λz=>by subst z;exact hij ((w2 bd Qj).2.2.symm.trans (w bd Qj).2.2)
  have hnb:bd∉ad::fp:=λm=>hij ((w2 bd Qj).2.2.symm.trans (w bd m).2.2)
  have hf2:fp2=[]:=by obtain⟨a',us',i1,i2,i3,i4,i5⟩:=k.own i ds hi;rw[hv2]at i1;cases i1;have u:RepO X.K G H (.lst .leaf) (.ref bd) (.list ds) [bd]:=.lst i4 (.leaf i5);have:=(RepO.lst h2 rl2).uniq (.refl _) u;injection this
  subst hf2;refine⟨.ref ad,hv,.inl ⟨rfl,_,SqL.of h⟩,.ref bd,hv2,ad,vs,.ref bd,rfl,rfl,h,by rw[rl.length];exact Qy hlim lim,?_⟩;have nt:∀ws,H ad≠O (.tup ws):=λws z=>by rw[h]at z;cases z
  obtain⟨na,nf⟩:=Js.mp nd;refine q σ G _ (k.mutM hj hv (.lst h rl) Qj hi hv2 (d':=.list (dss++[.list ds])) (fp':=ad::(fp++([bd]++[]))) (.lst U9 ((rl.upd nt na).append (.cons ((RepO.lst h2 rl2).upd nt (λm=>hne (QK.mp m).symm)) .nil))) ?_ ?_) (.refl _)
  .rw[QO]
   refine Js.mpr ⟨λm=>?_,Q5.mpr ⟨nf,Si bd,λx hx y hy e=>?_⟩⟩
   .rcases QW.mp m with m|m
    .exact na m
    .exact hne (QK.mp m).symm
   .rw[QK.mp hy]at e
    subst e;exact hnb (Ql _ hx)
  .intro b mb
   rw[QO]at mb;rcases QC.mp mb with rfl|mb
   .exact .inl Qj
   .rcases QW.mp mb with mb|mb
    .exact .inl (Ql _ mb)
    .exact .inr (QK.mp mb)
end
section
variable{K:Frag}{B G0 G H:Hp}{σ:St}{ρ:Ur}
inductive MOp where
 |rev|clr|app (d:D)|set (k:Nat) (d:D)
noncomputable def MOp.dOf:MOp->Pat->Cy->Option Cy
 |.rev,_,ds=>O ds.reverse
 |.clr,_,_=>O []
 |.app d,.leaf,ds=>if ds.length<1000000 then O (ds++[d])else Cu
 |.set k d,.leaf,ds=>if k<ds.length then O (ds.set k d)else Cu
 |_,_,_=>Cu
noncomputable def MOp.vOf:MOp->V->List V->List V
 |.rev,_,vs=>vs.reverse
 |.clr,_,_=>[]
 |.app _,u,vs=>vs++[u]
 |.set k _,u,vs=>vs.set k u
noncomputable def MOp.arg(K:Frag)(G:Hp):MOp->V->Prop
 |.app d,u=>Rep K G u d
 |.set _ d,u=>Rep K G u d
 |_,_=>True
theorem MOp.app_inv{d:D}{p:Pat}{ds ds':Cy}(e:(MOp.app d).dOf p ds=O ds'):p=.leaf/\ds.length<1000000/\ds'=ds++[d]:=by
 cases p with
 |leaf=>
  have e:(if ds.length<1000000 then O (ds++[d])else Cu)=O ds':=e;split at e
  .rename_i h;exact⟨rfl,h,(Q0 e).symm⟩
  .cases e
 |lst _=>cases e
 |tup _=>cases e
 |dic=>cases e
theorem MOp.set_inv{d:D}{k:Nat}{p:Pat}{ds ds':Cy}(e:(MOp.set k d).dOf p ds=O ds'):p=.leaf/\k<ds.length/\ds'=ds.set k d:=by
 cases p with
 |leaf=>
  have e:(if k<ds.length then O (ds.set k d)else Cu)=O ds':=e;split at e
  .rename_i h;exact⟨rfl,h,(Q0 e).symm⟩
  .cases e
 |lst _=>cases e
 |tup _=>cases e
 |dic=>cases e
theorem RepOl.leaf_inv:∀{vs:List V}{ds:Cy}{fp:CF},RepOl K G H .leaf vs ds fp->Reps K G vs ds/\fp=[]
 |_,_,_,.nil=>⟨.nil,rfl⟩
 |_,_,_,.cons (.leaf r) t=>by obtain⟨r2,e⟩:=RepOl.leaf_inv t;subst e;exact⟨.cons r r2,rfl⟩
theorem RepOl.reverse{p:Pat}:∀{vs:List V}{ds:Cy}{fp:CF},RepOl K G H p vs ds fp->∃fp',RepOl K G H p vs.reverse ds.reverse fp'/\fp'.Perm fp
 |_,_,_,.nil=>⟨[],.nil,.refl _⟩
 |_,_,_,.cons (f1:=f1) (f2:=f2) r t=>by obtain⟨f,r2,e⟩:=RepOl.reverse t;refine⟨f++(f1++[]),by rw[Jy,Jy];exact r2.append (.cons r .nil),?_⟩;rw[QO];exact(e.append_right f1).trans List.perm_append_comm
theorem MOp.ok{op:MOp}{p:Pat}{vs:List V}{ds ds':Cy}{fp:CF}{u:V}(r:RepOl K G H p vs ds fp)(e:op.dOf p ds=O ds')(ha:op.arg K G u):∃fp',RepOl K G H p (op.vOf u vs) ds' fp'/\(∀b∈fp',b∈fp)/\(fp.Nodup->fp'.Nodup):=by
 cases op with
 |rev=>cases e;obtain⟨fp',r2,pm⟩:=r.reverse;exact⟨fp',r2,λb m=>pm.mem_iff.mp m,λn=>pm.nodup_iff.mpr n⟩
 |clr=>cases e;exact⟨[],.nil,(λb m=>by simp at m),λ_=>List.nodup_nil⟩
 |app d=>obtain⟨rfl,_,rfl⟩:=MOp.app_inv e;obtain⟨r2,rfl⟩:=r.leaf_inv;exact⟨[],.leaf (r2.append (.cons ha .nil)),λb m=>m,λn=>n⟩
 |set k d=>obtain⟨rfl,_,rfl⟩:=MOp.set_inv e;obtain⟨r2,rfl⟩:=r.leaf_inv;exact⟨[],.leaf (r2.set ha k),λb m=>m,λn=>n⟩
noncomputable def Z5(op:MOp):CG->Pat->D->CA
 |[],.lst p,.list ds=>(op.dOf p ds).map .list
 |k::r,.lst p,.list ds=>(ds[k]?).bind λd=>(Z5 op r p d).map λd'=>.list (ds.set k d')
 |k::r,.tup ps,.tuple ds=>(ps[k]?).bind λp=>(ds[k]?).bind λd=>(Z5 op r p d).map λd'=>.tuple (ds.set k d')
 |_,_,_=>Cu
noncomputable def Xi(H:Hp):CG->V->Option V
 |[],v=>O v
 |k::r,.ref a=>match H a with
  |some (.lst vs)=>(vs[k]?).bind (Xi H r)
  |some (.tup vs)=>(vs[k]?).bind (Xi H r)
  |_=>Cu
 |_::_,_=>Cu
theorem RepOl.at{p:Pat}:∀{vs:List V}{ds:Cy}{fp:CF}{k:Nat}{d:D},RepOl K G H p vs ds fp->ds[k]?=O d->fp.Nodup->∃v f,vs[k]?=O v/\RepO K G H p v d f/\f.Nodup/\(∀b∈f,b∈fp) /\
  ∀a∈f,(∀ws,H a≠O (.tup ws))->∀o d' f',RepO K G (L2.upd H a o) p v d' f'->f'.Nodup->(∀b∈f',b∈f)->∃fp',RepOl K G (L2.upd H a o) p vs (ds.set k d') fp'/\fp'.Nodup/\∀b∈fp',b∈fp
 |_,_,_,_,_,.nil,e,_=>by cases e
 |_,_,_,0,_,.cons (f1:=f1) (f2:=f2) r t,e,n=>by
  cases e;obtain⟨n1,n2,nn⟩:=Q5.mp n;refine⟨_,f1,rfl,r,n1,λb m=>QT _ m,λa m nt o d' f' r' Bh sub=>⟨f'++f2,.cons r' (t.upd nt (λm2=>nn a m a m2 Ct)),Q5.mpr ⟨Bh,n2,λx hx y hy=>nn x (sub x hx) y hy⟩,λb m=>?_⟩⟩;rcases QW.mp m with m|m
  .exact QT _ (sub b m)
  .exact QD _ m
 |_,_,_,k+1,d,.cons (f1:=f1) (f2:=f2) r t,e,n=>by
  obtain⟨n1,n2,nn⟩:=Q5.mp n;obtain⟨v,f,h1,h2,h3,h4,h5⟩:=RepOl.at (k:=k) (d:=d) t (by simpa using e) n2;refine⟨v,f,by simpa using h1,h2,h3,λb m=>List.mem_append_right _ (h4 b m),λa m nt o d' f' r' Bh sub=>?_⟩;obtain⟨fp',g1,g2,g3⟩:=h5 a m nt o d' f' r' Bh sub;refine⟨f1++fp',.cons (r.upd nt (λm2=>nn a m2 a (h4 a m) Ct)) g1,Q5.mpr ⟨n1,g2,λx hx y hy=>nn x hx y (g3 y hy)⟩,λb m=>?_⟩;rcases QW.mp m with m|m
  .exact QT _ m
  .exact QD _ (g3 b m)
theorem RepOs.at:∀{ps:List Pat}{vs:List V}{ds:Cy}{fp:CF}{k:Nat}{p:Pat}{d:D},RepOs K G H ps vs ds fp->ps[k]?=O p->ds[k]?=O d->fp.Nodup->∃v f,vs[k]?=O v/\RepO K G H p v d f/\f.Nodup/\(∀b∈f,b∈fp) /\
  ∀a∈f,(∀ws,H a≠O (.tup ws))->∀o d' f',RepO K G (L2.upd H a o) p v d' f'->f'.Nodup->(∀b∈f',b∈f)->∃fp',RepOs K G (L2.upd H a o) ps vs (ds.set k d') fp'/\fp'.Nodup/\∀b∈fp',b∈fp
 |_,_,_,_,_,_,_,.nil,_,e,_=>by cases e
 |_,_,_,_,0,_,_,.cons (f1:=f1) (f2:=f2) r t,e0,e,n=>by
  cases e;cases e0;obtain⟨n1,n2,nn⟩:=Q5.mp n;refine⟨_,f1,rfl,r,n1,λb m=>QT _ m,λa m nt o d' f' r' Bh sub=>⟨f'++f2,.cons r' (t.upd nt (λm2=>nn a m a m2 Ct)),Q5.mpr ⟨Bh,n2,λx hx y hy=>nn x (sub x hx) y hy⟩,λb m=>?_⟩⟩;rcases QW.mp m with m|m
  .exact QT _ (sub b m)
  .exact QD _ m
 |_,_,_,_,k+1,p,d,.cons (f1:=f1) (f2:=f2) r t,e0,e,n=>by
  obtain⟨n1,n2,nn⟩:=Q5.mp n;obtain⟨v,f,h1,h2,h3,h4,h5⟩:=RepOs.at (k:=k) (p:=p) (d:=d) t (by simpa using e0) (by simpa using e) n2;refine⟨v,f,by simpa using h1,h2,h3,λb m=>List.mem_append_right _ (h4 b m),λa m nt o d' f' r' Bh sub=>?_⟩;obtain⟨fp',g1,g2,g3⟩:=h5 a m nt o d' f' r' Bh sub;refine⟨f1++fp',.cons (r.upd nt (λm2=>nn a m2 a (h4 a m) Ct)) g1,Q5.mpr ⟨n1,g2,λx hx y hy=>nn x hx y (g3 y hy)⟩,λb m=>?_⟩;rcases QW.mp m with m|m
  .exact QT _ m
  .exact QD _ (g3 b m)
theorem RepO.mut{op:MOp}{u:V}(ha:op.arg K G u):∀(path:CG){p:Pat}{v:V}{d d':D}{fp:CF},RepO K G H p v d fp->fp.Nodup->Z5 op path p d=O d'->∃a vs,Xi H path v=O (.ref a)/\a∈fp/\H a=O (.lst vs) /\
  (∃q ds ds',vs.length=ds.length/\op.dOf q ds=O ds')/\∃fp',RepO K G (L2.upd H a (.lst (op.vOf u vs))) p v d' fp'/\fp'.Nodup/\∀b∈fp',b∈fp
 |[],p,v,d,d',fp,r,n,e=>by
  cases r with
  |leaf r=>cases e
  |tup h r=>cases e
  |dic _ _ h r=>cases e
  |lst h r=>
   rename_i p a vs ds fp;unfold Z5 at e;cases z:op.dOf p ds with
   |none=>rw[z]at e;cases e
   |some ds'=>
   rw[z]at e;cases e;obtain⟨na,nf⟩:=Js.mp n;obtain⟨fp',r',sub,nn⟩:=MOp.ok r z ha;refine⟨a,vs,rfl,Qj,h,⟨p,ds,ds',r.length,z⟩,a::fp',.lst U9 (r'.upd (λws y=>by rw[h]at y;cases y) (λm=>na (sub a m))),Js.mpr ⟨λm=>na (sub a m),nn nf⟩,λb m=>?_⟩;rcases QC.mp m with rfl|m
   .exact Qj
   .exact Ql _ (sub b m)
 |k::path,p,v,d,d',fp,r,n,e=>by
  cases r with
  |leaf r=>cases e
  |dic _ _ h r=>cases e
  |lst h r=>
   rename_i p a0 vs ds fp;unfold Z5 at e;cases z:ds[k]? with
   |none=>rw[z]at e;cases e
   |some d0=>
   rw[z]at e;dsimp only[Option.bind_some]at e;cases z2:Z5 op path p d0 with
   |none=>rw[z2]at e;cases e
   |some d1=>
   rw[z2]at e;cases e;obtain⟨na,nf⟩:=Js.mp n;obtain⟨v0,f,h1,h2,h3,h4,h5⟩:=r.at z nf;obtain⟨a,ws,g1,g2,g3,g4,f',g5,g6,g7⟩:=RepO.mut ha path h2 h3 z2;have nt:∀us,H a≠O (.tup us):=λus y=>by rw[g3]at y;cases y
   obtain⟨fp',k1,k2,k3⟩:=h5 a g2 nt _ _ _ g5 g6 g7;have hne:a0≠a:=λy=>by subst y;exact na (h4 a0 g2)
   refine⟨a,ws,?_,Ql _ (h4 a g2),g3,g4,a0::fp',.lst (by rw[UR hne];exact h) k1,Js.mpr ⟨λm=>na (k3 a0 m),k2⟩,λb m=>?_⟩
   .unfold Xi
    rw[h];dsimp only;rw[h1];exact g1
   .rcases QC.mp m with rfl|m
    .exact Qj
    .exact Ql _ (k3 b m)
  |tup h r=>
   rename_i ps a0 vs ds;unfold Z5 at e;cases zp:ps[k]? with
   |none=>rw[zp]at e;cases e
   |some p0=>
   rw[zp]at e;dsimp only[Option.bind_some]at e;cases z:ds[k]? with
   |none=>rw[z]at e;cases e
   |some d0=>
   rw[z]at e;dsimp only[Option.bind_some]at e;cases z2:Z5 op path p0 d0 with
   |none=>rw[z2]at e;cases e
   |some d1=>
   rw[z2]at e;cases e;obtain⟨v0,f,h1,h2,h3,h4,h5⟩:=r.at zp z n;obtain⟨a,ws,g1,g2,g3,g4,f',g5,g6,g7⟩:=RepO.mut ha path h2 h3 z2;have nt:∀us,H a≠O (.tup us):=λus y=>by rw[g3]at y;cases y
   obtain⟨fp',k1,k2,k3⟩:=h5 a g2 nt _ _ _ g5 g6 g7;have hne:a0≠a:=λy=>by subst y;rw[h]at g3;cases g3
   refine⟨a,ws,?_,h4 a g2,g3,g4,fp',.tup (by rw[UR hne];exact h) k1,k2,k3⟩;unfold Xi;rw[h];dsimp only;rw[h1];exact g1
noncomputable def Yu(K:Frag):CG->V->Hp->VK->Prop
 |[],v,H,Q=>Q v H
 |k::r,v,H,Q=>rIx K v (.int k) H λu H'=>Yu K r u H' Q
noncomputable def Yh(K:Frag)(i:Nat)(path:CG):TE:=λσ H Q=>∃v,σ[i]?=O (O v)/\Yu K path v H Q
theorem Ft{v u:V}{Q Q':VK}(h:rIx K v u H Q)(i:∀w H',Q w H'->Q' w H'):rIx K v u H Q':=by
 rcases h with ⟨p,xs,j,w,a,b,c,d,q⟩|⟨p,xs,j,w,a,b,c,d,q⟩|⟨z,j,w,a,b,c,d,q⟩
 .exact .inl ⟨p,xs,j,w,a,b,c,d,i _ _ q⟩
 .exact .inr (.inl ⟨p,xs,j,w,a,b,c,d,i _ _ q⟩)
 .exact .inr (.inr ⟨z,j,w,a,b,c,d,i _ _ q⟩)
theorem O5{k:Nat}{Q:VK}:∀{path:CG}{v:V}{H:Hp},Yu K (path++[k]) v H Q->Yu K path v H λx H1=>rIx K x (.int k) H1 Q
 |[],v,H,h=>h
 |j::r,v,H,h=>Ft h λw H' q=>O5 q
theorem Yu.of{Q:VK}:∀{path:CG}{v u:V},Xi H path v=O u->Q u H->Yu K path v H Q
 |[],v,u,e,q=>by cases e;exact q
 |k::r,v,u,e,q=>by
  cases v with
  |ref a=>
   unfold Xi at e;split at e
   .rename_i vs h
    cases z:vs[k]? with
    |none=>rw[z]at e;cases e
    |some w=>rw[z]at e;exact .inl ⟨a,vs,k,w,rfl,rfl,SqL.of h,ZC z,Yu.of e q⟩
   .rename_i vs h
    cases z:vs[k]? with
    |none=>rw[z]at e;cases e
    |some w=>rw[z]at e;exact .inr (.inl ⟨a,vs,k,w,rfl,rfl,SqT.of h,ZC z,Yu.of e q⟩)
   .cases e
  |_=>cases e
end
noncomputable def Zu(i:Nat)(path:CG)(op:MOp):SM:=λρ=>match Zq ρ i with
 |some (p,d)=>(match Z5 op path p d with
  |some d'=>(match ρ[i]? with
   |some (O (.own _))=>(match d' with
    |.list ds'=>.nx (ρ.set i (O (.own ds')))
    |_=>.bad)
   |_=>.nx (ρ.set i (O (.deep p d'))))
  |none=>.bad)
 |none=>.bad
section
variable{X:Cx}{B G0:Hp}{KX:XW}{e o a b c:J5}{pos:Pos}{es:CC}
theorem Od{i:Nat}{path:CG}{op:MOp}{Dn:Ends}{σ:St}{H:Hp}{G:Hp}{ρ:Ur}{u:V}(k:EOk X.K B G0 G H σ ρ)(q:aftS X.K B G0 KX (Zu i path op ρ) G Dn)(ha:op.arg X.K G u):∃v ad vs,σ[i]?=O (O v)/\Xi H path v=O (.ref ad)/\H ad=O (.lst vs) /\
  (∃q ds ds',vs.length=ds.length/\op.dOf q ds=O ds')/\Dn.nx σ (upd H ad (.lst (op.vOf u vs))):=by
 unfold Zu at q;cases z:Zq ρ i with
 |none=>rw[z]at q;exact q.elim
 |some pd=>
 obtain⟨p,d⟩:=pd;rw[z]at q;dsimp only at q;cases z2:Z5 op path p d with
 |none=>rw[z2]at q;exact q.elim
 |some d'=>
 rw[z2]at q;dsimp only at q;obtain⟨ω,ks⟩:=k.slots;obtain⟨v,fp,hv,r,nd,w⟩:=ks i p d z;obtain⟨ad,vs,g1,g2,g3,g4,fp',g5,g6,g7⟩:=r.mut ha path nd z2;refine⟨v,ad,vs,hv,g1,g3,g4,?_⟩;unfold Zq at z;split at z
 .rename_i ds hi
  cases z;rw[hi]at q;dsimp only at q;split at q
  .rename_i ds'
   obtain⟨a',us,i1,i2,i3,i4,i5⟩:=k.own i ds hi;rw[hv]at i1;cases i1;cases path with
   |nil=>
    cases g1;rw[i4]at g3;cases g3;cases g5 with
    |lst h rl=>
    rw[U9]at h;cases h;exact q σ G _ (k.change hi hv rl.leaf_inv.1) (.refl _)
   |cons k0 r0=>
    unfold Z5 at z2;cases zz:ds[k0]? with
    |none=>rw[zz]at z2;cases z2
    |some dd=>rw[zz]at z2;cases r0<;>cases z2
  .exact q.elim
 .rename_i p' d0 hi
  cases z;rw[hi]at q;exact q σ G _ (k.mutD hi hv r g2 g5 g6 g7) (.refl _)
 .cases z
theorem P0{i:Nat}(h:PE X e (U1 i)):PE X e (Yh X.K i []):=h
theorem PZ{i:Nat}{path:CG}{k:Nat}{j}{p1:Pos}(h:PE X a (Yh X.K i path))(hs:Tc (.Constant (.int (k:Int)) j p1):=by exact λ_ _=>rfl):PE X (.Subscript a (.Constant (.int (k:Int)) j p1) pos) (Yh X.K i (path++[k])):=
 UN (T8 Sn h Sk hs) λσ H Q ⟨v,hv,q⟩=>⟨v,hv,O5 q⟩
theorem Lh{i:Nat}{path:CG}{apos cpos:Pos}(ho:PE X o (Yh X.K i path))
  (hbase:attributeBase o "clear" X.env (eval o X.env)=eval o X.env:=by rfl) (hline:(apos.endLine==cpos.line)=Cv:=by rfl)
  (hsw:swapsWith (.Call (.Attribute o "clear" apos) [] [] cpos) Cu pos.line X.env=pure Cw:=by rfl) :
  PS X (.Expr (.Call (.Attribute o "clear" apos) [] [] cpos) pos) (tS X.K B G0 KX (Zu i path .clr)):=
 Ko (WQ (L6 JF PySem.F.slot_list_clear PySem.F.type_list_clear Ez ho hbase hline) hsw) λD σ H ⟨G,ρ,k,q⟩=>by obtain⟨v,ad,vs,h1,h2,h3,h4,h5⟩:=Od (u:=.non) k q trivial;exact⟨v,h1,Yu.of h2 ⟨.inl ⟨rfl,_,SqL.of h3⟩,ad,vs,rfl,rfl,h3,h5⟩⟩
theorem Gd{i:Nat}{path:CG}{d:D}{u:V}{apos cpos:Pos}(ho:PE X o (Yh X.K i path))(he:PE X e (tC u))(hd:∀G,Rep X.K G u d)
  (hbase:attributeBase o "append" X.env (eval o X.env)=eval o X.env:=by rfl)
  (hfew:((backTo cpos (J8 [e] X.env)).all (λx=>!x.1)&&(backToKw cpos (keywordEach [] X.env)).all (λx=>x.1.isSome)
   && decide ([e].length+([]:List Keyword).length+(if([]:List Keyword).isEmpty then 0 else 1)<30))=Cv:=by rfl)
  (hline:(apos.endLine==cpos.line)=Cv:=by rfl) (hs:J8 [e] X.env=[(Cw,eval e X.env)]:=by rfl)
  (hsw:swapsWith (.Call (.Attribute o "append" apos) [e] [] cpos) Cu pos.line X.env=pure Cw:=by rfl) :
  PS X (.Expr (.Call (.Attribute o "append" apos) [e] [] cpos) pos) (tS X.K B G0 KX (Zu i path (.app d))):=
 Ko (WQ (Wr JF PySem.F.slot_list_append PySem.F.type_list_append TK ho (KP he ZR (by rw[hs];rfl)) hbase hfew hline (by rw[hs];rfl) Ct) hsw) λD σ H ⟨G,ρ,k,q⟩=>by
  obtain⟨v,ad,vs,h1,h2,h3,⟨pp,ds,ds',h4,h4'⟩,h5⟩:=Od (u:=u) k q (hd G)
  have hlen:vs.length<1000000:=by
   have:=(MOp.app_inv h4').2.1
   lia
  exact⟨v,h1,Yu.of h2 ⟨.inl ⟨rfl,_,SqL.of h3⟩,ad,vs,u,rfl,rfl,h3,Qy hlen lim,h5⟩⟩
end
theorem RW{q p:JZ}{loose:List Str}{mean:ExcName->CB}{mg mb:Str->CB}{h:Heap}{ix:CG}(P:JZ)(w:World)(base:Heap){ps:List Str}{k n:Nat}{pt:Pat}{F:Cy->CA}(T:PyProof.Rows.Top q loose mean mg mb h)(e:recsOf q=Xk p ix)(i:Nat)(x:Str)(hi:ix.contains i=Cv)(hn:WF (UO p i)=O x)
  (ok:∀{f:J0}{fd:J4},Fun (whole h) x x (UO p i) f fd->FnOk P w (whole h) mg base CX0 k f fd ps (spT (whole h) n pt F))
  (hb:∀(kV doc pm:JX)(an:CJ)(cdv ct:JX)(us:Cz),us.length=ps.length->bindArgs (PySem.W.fnOf x x (ZT (UO p i)) (KZ (UO p i)) (U6 (UO p i)) .none kV doc pm an cdv ct) ⟨us,[]⟩=pure (ps.zip us)):Xa P w (whole h) mg base x k n pt F:=by
 obtain⟨f,fd,m,FU⟩:=W8 T e i x hi hn;exact⟨f,fd,ps,m,FU.kp,FU.binds hb,ok FU⟩
section
variable{ρ ρ1 ρ2 ρ':Ur}{pt:Pat}
theorem Sx{i:Nat}{f:M D}{d:D}(h1:f ρ=.ok d ρ1)(h2:i<ρ1.length)(h3:ρ1.set i (O (.deep pt d))=ρ'):Xb i pt f ρ=.nx ρ':=by unfold Xb sB;rw[h1];dsimp only;rw[if_pos h2];subst h3;rfl
theorem Gc{j i:Nat}{dss ds:Cy}(h1:ρ[j]?=O (O (.deep (.lst (.lst .leaf)) (.list dss))))(h2:ρ[i]?=O (O (.own ds)))(h3:dss.length<1000000)(h4:(ρ.set j (O (.deep (.lst (.lst .leaf)) (.list (dss++[.list ds]))))).set i Cu=ρ'):Wx j i ρ=.nx ρ':=by unfold Wx;rw[h1,h2];dsimp only;rw[if_pos h3,h4]
theorem PY{i:Nat}{path:CG}{op:MOp}{p:Pat}{d d':D}(h1:ρ[i]?=O (O (.deep p d)))(h2:Z5 op path p d=O d')(h3:ρ.set i (O (.deep p d'))=ρ'):Zu i path op ρ=.nx ρ':=by unfold Zu Zq;rw[h1];dsimp only;rw[h2];dsimp only;rw[h3]
theorem Me{N:List Str}{g:SM}{f:M D}{ds:Cy}{P:D->Prop}(h0:KA N ds=ρ)(h:Ho g ρ λo=>∃ρ1,o=.nx ρ1/\∃d ρ2,f ρ1=.ok d ρ2/\P d):∃d,Xr N g f ds=O d/\P d:=by subst h0;obtain⟨ρ1,e,d,ρ2,e2,p⟩:=h.out;refine⟨d,?_,p⟩;unfold Xr;rw[e];dsimp only;rw[e2]
end
end DL
namespace L2
open PySem PySem.Spec PyProof.Rows PySem.Calls PyProof.V
end L2
namespace DL
open PySem PySem.Spec L2
open PyProof.Rows hiding St
noncomputable def tgN:J5->List Str
 |.Name x _=>[x]
 |.Tuple [.Name x _] _ _=>[x]
 |.Tuple [.Name x _,.Name y _] _ _=>[x,y]
 |.Tuple [.Name x _,.Name y _,.Name z _] _ _=>[x,y,z]
 |.Tuple [.Name x _,.Name y _,.Name z _,.Name u _] _ _=>[x,y,z,u]
 |_=>[]
noncomputable def adN(vs:List Str):List Str->List Str
 |[]=>vs
 |x::r=>adN (if vs.elem x then vs else vs++[x]) r
noncomputable def X3(vs:List Str):List Comprehension->List Str
 |[]=>vs
 |⟨tg,_,_,_⟩::r=>X3 (adN vs (tgN tg)) r
noncomputable def dotN(x:Str):Str:=("." : Str)++x
noncomputable def blN(N:List Str)(gs:List Comprehension):List Str:=N.map (λx=>if(X3 [] gs).elem x then dotN x else x)++X3 [] gs
noncomputable def glN(sc:Scope):List Str:=sc.names.filterMap λy=>match y.2 with | .globalImplicit=>O y.1|_=>Cu
abbrev NmF(s:Stmt)(N:List Str):Prop:=FnNm (U6 s) N (glN (U6 s))
theorem mq{α:Type}{l:List α}{x:α}(n:Nat)(h:l[n]?=O x):x∈l:=QL h
section
variable{sc:Scope}{N gl:List Str}{x:Str}
theorem gA(H:FnNm sc N gl)(h:gl.elem x=Cv):sc.names.lookup x=O .globalImplicit:=H.gl x (by simpa using h)
end
section
variable{X:Cx}{B G0:Hp}{KX:XW}{e e1 e2 o a b c i:J5}{gl:List Str}{pos p2:Pos}{x:Str}{j:Nat}
theorem Md(H:FnNm X.env.scope X.N gl)(hi:X.N[j]?=O x:=by rfl)(hf:X.fn x=Cv∨X.env.scope.names.lookup x=O .local:=by first|exact .inl rfl|exact .inr rfl|assumption):PG X (.Name x pos) (tG X.K B G0 (gN j)):=Xo (Ye H.nd hi (lq H j hi) hf)
theorem Lg{N':List Str}{scope:Scope}{cl:List (Str×J0)}{C:J0}{s₀:JY}{H₀:Hp}{ex:CF}(hN:N'.Nodup:=by decide +kernel)(hi:N'[j]?=O x:=by rfl)(hl:locK (scope.names.lookup x)=Cv:=by rfl):PG (X.blk N' scope cl C s₀ H₀ ex) (.Name x pos) (tG X.K B G0 (gN j)):=Xo (Ye hN hi (Tl hl).1 (Tl hl).2)
theorem aSet{f:M D}(H:FnNm X.env.scope X.N gl)(he:PE X e (tD X.K B G0 f))(hi:X.N[j]?=O x:=by rfl)(hs:swapsWith e (O (.Name x p2)) pos.line X.env=pure Cw:=by rfl)
  (hf:X.fn x=Cv∨X.env.scope.names.lookup x=O .local:=by first|exact .inl rfl|exact .inr rfl|assumption):PS X (.Assign [.Name x p2] e pos) (tS X.K B G0 KX (UF j f)):=WH H.nd hi (lq H j hi) he hs hf
theorem Rw{f:M Cy}(H:FnNm X.env.scope X.N gl)(he:PE X e (tL X.K B G0 f))(hi:X.N[j]?=O x:=by rfl)(hs:swapsWith e (O (.Name x p2)) pos.line X.env=pure Cw:=by rfl)
  (hf:X.fn x=Cv∨X.env.scope.names.lookup x=O .local:=by first|exact .inl rfl|exact .inr rfl|assumption):PS X (.Assign [.Name x p2] e pos) (tS X.K B G0 KX (KH j f)):=SN H.nd hi (lq H j hi) he hs hf
theorem Mc{f:M D}{pt:Pat}(H:FnNm X.env.scope X.N gl)(he:PE X e (tT X.K B G0 pt f))(hi:X.N[j]?=O x:=by rfl)(hs:swapsWith e (O (.Name x p2)) pos.line X.env=pure Cw:=by rfl)
  (hf:X.fn x=Cv∨X.env.scope.names.lookup x=O .local:=by first|exact .inl rfl|exact .inr rfl|assumption):PS X (.Assign [.Name x p2] e pos) (tS X.K B G0 KX (Xb j pt f)):=Sy H.nd hi (lq H j hi) he hs hf
theorem Mb{f:M XR}(H:FnNm X.env.scope X.N gl)(he:PE X e (tX X.K B G0 KX f))(hi:X.N[j]?=O x:=by rfl)(hs:swapsWith e (O (.Name x p2)) pos.line X.env=pure Cw:=by rfl)
  (hf:X.fn x=Cv∨X.env.scope.names.lookup x=O .local:=by first|exact .inl rfl|exact .inr rfl|assumption):PS X (.Assign [.Name x p2] e pos) (tS X.K B G0 KX (sX f λd ρ=>match gN j d ρ with|some ρ'=>.nx ρ'|none=>.bad)):=HB H.nd hi (lq H j hi) he hs hf
theorem Ma{l:Bool}{tg elt iter:J5}{ifs:CC}{gs:List Comprehension}{scope:Scope}{f:M Cy}{s:D->Ur->CI}{t:M Bool}{rd:RdB}{F:M Cy}{k:Nat}{SC:Scope}{N1:List Str}(H:FnNm SC N1 gl)(le:∀ρ es ρ',F ρ=.ok es ρ'->dCG l f k s t rd ρ=.ok es ρ')(hc:X.calm=Cv)
  (hi:PI X tg iter (iD X.K B G0 f)) (CS:Zy X (blN N1 (⟨tg,iter,ifs,0⟩::gs)) scope (.ListComp elt (⟨tg,iter,ifs,0⟩::gs) scope pos) tg ifs s t rd) (hb:XF W2 SC scope N1 (blN N1 (⟨tg,iter,ifs,0⟩::gs)) k=Cv) (h1:X.env.scope=SC:=by rfl) (h2:X.N=N1:=by rfl) (hs:∀x,Up iter X.env x=pure x:=by intro _;rfl) :
  PE X (.ListComp elt (⟨tg,iter,ifs,0⟩::gs) scope pos) (tL X.K B G0 F):=NH _ _ _ k le hc hi CS h1 h2 hb hs
theorem N9{l:Bool}{y:Str}{py spos:Pos}{tg elt iter:J5}{ifs:CC}{gs:List Comprehension}{scope:Scope}{f:M Cy}{s:D->Ur->CI}{t:M Bool}{rd:RdB}{F:M Cy}{k:Nat}{SC:Scope}{N1:List Str}(H:FnNm SC N1 gl)(le:∀ρ es ρ',F ρ=.ok es ρ'->dCG l f k s t rd ρ=.ok es ρ')(hc:X.calm=Cv)
  (hi:PI X tg iter (iD X.K B G0 f)) (CS:Zy X (blN N1 (⟨tg,iter,ifs,0⟩::gs)) scope (.ListComp elt (⟨tg,iter,ifs,0⟩::gs) scope pos) tg ifs s t rd) (hb:XF W2 SC scope N1 (blN N1 (⟨tg,iter,ifs,0⟩::gs)) k=Cv) (hj:N1[j]?=O y:=by rfl) (hy:SC.names.lookup y=O .local:=by rfl) (h1:X.env.scope=SC:=by rfl) (h2:X.N=N1:=by rfl) (hs:∀x,Up iter X.env x=pure x:=by intro _;rfl)
  (hsw:swapsWith (.ListComp elt (⟨tg,iter,ifs,0⟩::gs) scope pos) (O (.Name y py)) spos.line X.env=pure Cv:=by rfl) :
  PS X (.Assign [.Name y py] (.ListComp elt (⟨tg,iter,ifs,0⟩::gs) scope pos) spos) (tS X.K B G0 KX (KH j F)):=sD_1 _ _ _ k le (h2 ▸ H.nd) (h2 ▸ hj) (h1 ▸ hy) hc hi CS h1 h2 hb hs hsw
end
end DL
namespace DL
open PySem PySem.Spec L2
open PyProof.Rows hiding St
open Builtin Builtin.Str
theorem OV:∀(l:List (Str×Tok)),Vals ((l.map (·.1)).map V.str) (strValues l)
 |[]=>.nil
 |(x,t)::l=>.cons ⟨t,rfl⟩ (OV l)
theorem O4{K:Frag}{G:Hp}:∀(ts:List Str),Reps K G (ts.map V.str) (ts.map Ue)
 |[]=>.nil
 |x::ts=>.cons (.str x) (O4 ts)
noncomputable def Lf:V->List V->Hp->VK->Prop:=λx vs H Q=>∃z y:Str,x=.str z/\vs=[.str y]/\(y.length==0)=Cw/\z.length+2<=1000000/\∀p,H p=Cu->Q (.ref p) (upd H p (.lst ((Txt.split z y).map V.str)))
theorem Fs{X:Cx}:MtR X "str.split" Lf:=by
 intro pins s σ H x xs v us Q I rx rs h;obtain⟨z,y,rfl,rfl,hy,hz,q⟩:=h;obtain⟨t,rfl⟩:=(show ∃t,v=Value.str z t from rx)
 obtain⟨u,rfl,t2,rfl⟩:=Wt rs;have hl:(1000000:Nat)<=J6:=lim;have hn:(partsBetween z (occurrences z y 0 z.length (z.length+1)) y.length).length<=J6:=by have e1:=StrLaws.occ_length_le z y 0 z.length (z.length+1);rw[length_partsBetween];lia
 have fin:∀(l:List (Str×Tok))(k:Nat),l.map (·.1)=Txt.split z y->EP X pins σ Q (.ref s.heap.objs.size) {s with toks:=k,heap:=s.heap.push {cls:=.type "list", data:=.seq (strValues l).toArray}}:=λl k e=>by have hv:=OV l;rw[e]at hv;exact⟨.ref _,_,I.lnew (t':=k) hv (by rw[Qg];have:=split_le z y;lia), rfl,q _ I.fresh⟩
 cases h1:(decide (z.length<y.length) || decide (strKind z<strKind y))
 .cases hf:(occurrences z y 0 z.length (z.length+1)).isEmpty
  .refine Jo F.slot_str_split (Jn _ _ _) F.entry_str_split (F.args_str_split_2 _ _) (meets_str_split_sep z y t t2 h1 hy hf (by lia) hn) ?_
   show EP X pins σ Q _ {s with toks:=_,heap:=s.heap.push {cls:=.type "list", data:=.seq (strsFrom s.toks _).toArray}};rw[strsFrom_eq];exact fin (numbered s.toks _) _ ((numbered_texts _ _).trans ((Qv (ne_true_of_eq_false h1)).trans (Qv (ne_true_of_eq_false hf))).symm)
  .refine Jo F.slot_str_split (Jn _ _ _) F.entry_str_split (F.args_str_split_2 _ _) (meets_str_split_not_found z y t t2 h1 hy hf) ?_
   exact fin [(z,t)] s.toks ((Qv (ne_true_of_eq_false h1)).trans (Qo hf)).symm
 .refine Jo F.slot_str_split (Jn _ _ _) F.entry_str_split (F.args_str_split_2 _ _) (meets_str_split_cannot_occur z y t t2 h1) ?_
  exact fin [(z,t)] s.toks (Qo h1).symm
noncomputable def RV(x:D)(xs:Cy):CA:=match x,xs with
 |.str z,[.str y]=>if(y.length==0)=Cw/\z.length+2<=1000000 then O (.list ((Txt.split z y).map Ue))else Cu
 |_,_=>Cu
noncomputable def Z9(f:M D)(g:M Cy):M D:=UB f λx=>match x with
 |.str z=>UB g λxs=>Uz (RV (.str z) xs)
 |_=>λ_=>.bad
theorem OU{X:Cx}{B G0:Hp}{o e:J5}{es:CC}{apos cpos:Pos}{f:M D}{g:M Cy}(ho:PE X o (tD X.K B G0 f))(ha:PA X (e::es) (tDs X.K B G0 g))
  (hbase:attributeBase o "split" X.env (eval o X.env)=eval o X.env:=by rfl)
  (hfew:((backTo cpos (J8 (e::es) X.env)).all (λx=>!x.1)&&(backToKw cpos (keywordEach [] X.env)).all (λx=>x.1.isSome)
   && decide ((e::es).length+([]:List Keyword).length+(if([]:List Keyword).isEmpty then 0 else 1)<30))=Cv:=by rfl)
  (hline:(apos.endLine==cpos.line)=Cv:=by rfl) (hs:J8 (e::es) X.env=(Cw,eval e X.env)::J8 es X.env:=by rfl) (hplain:(backTo cpos (J8 es X.env)).any (·.1)=Cw:=by rfl) :
  PE X (.Call (.Attribute o "split" apos) (e::es) [] cpos) (tD X.K B G0 (Z9 f g)):=by
 refine UN (Wr F.plainAttrs_str F.slot_str_split F.type_str_split Fs ho ha hbase hfew hline hs hplain) λσ H Q q=>?_;refine tM.one (R:=Rep X.K) q λv H2 G ρ x k rx a=>?_
 cases x with
 |str z=>
  have:=rx.str_inv;subst this;refine⟨rfl,?_⟩;refine tM.nx (R:=Reps X.K) k a λxs H3 G3 ρ3 ds k3 s3 r3 a3=>?_
  obtain⟨d,e1,a4⟩:=aft.opt a3;unfold RV at e1;split at e1
  .rename_i z' y e2
   split at e1
   .rename_i c
    cases e1;cases e2;obtain⟨w,rfl,q⟩:=r3.one_inv;have:=q.str_inv;subst this;exact⟨z,y,rfl,rfl,c.1,c.2,λp hp=>aft.done a4 k3 (Ext.new k3.gh hp) (.lst (SqL.of U9) (O4 _))⟩
   .cases e1
  .cases e1
 |_=>exact a.elim
theorem WL{f:M D}{g:M Cy}{ρ ρ1 ρ2:Ur}{z y:Str}(h1:f ρ=.ok (.str z) ρ1)(h2:g ρ1=.ok [.str y] ρ2)(h3:(y.length==0)=Cw)(h4:z.length+2<=1000000):Z9 f g ρ=.ok (.list ((Txt.split z y).map Ue)) ρ2:=by unfold Z9;exact U4 h1 (U4 h2 (K0 (Qo ⟨h3,h4⟩)))
end DL
namespace DL
open PySem PySem.Spec L2
open PyProof.Rows hiding St
end DL
namespace DL
open PySem PySem.Spec L2
open PyProof.Rows hiding St
open PySem.SeqRoads2 PySem.SeqAt
end DL
namespace DL
open PySem PySem.Spec L2
open PyProof.Rows hiding St
section
variable{X:Cx}{B G0:Hp}{e:J5}{pos:Pos}
theorem Ga{K:Frag}{t a b:JX}{x y:Bool}(h1:PySem.W.kitOne K t a=O x)(h2:PySem.W.kitOne K t b=O y):PySem.W.kitAny K t [a,b]=O (x || y):=by
 unfold PySem.W.kitAny;rw[h1];cases x with
 |true=>rfl
 |false=>dsimp only;unfold PySem.W.kitAny;rw[h2];cases y<;>rfl
theorem Fq{pins:List (J0×Obj)}{s:JY}{σ:St}{G H:Hp}{v:V}{u:JX}{d:D}{tp:J0}{dd:CJ}{its:Cz}{n:Nat}{sl:Array CB}{t:Bool}{A:Around}{E:JX->JY->Prop}{Q:JX->JY->Prop}(I:Inv X pins σ H s)(sg:Same G H)(r:Rep X.K G v d)(rv:RelV v u)(nx:Z6 d=Cw)
  (htp:s.heap.get? tp=O ⟨.type "tuple", dd,.seq its.toArray n,sl⟩) (ek:PySem.W.kitAny X.K (.type (ZG d)) its=O t) (h:∀tk,Q (.bool t) {s with toks:=tk}):J7 (model X.prog X.w) A (call (.builtin "isinstance") [u,.ref tp]) Q E s:=by
 cases r with
 |non=>cases rv;exact Jm PySem.W.kitx_none I.kIn True.intro htp ek (λz=>nomatch z) h
 |bl y=>cases rv;exact Jm PySem.W.kitx_bool I.kIn True.intro htp ek (λz=>nomatch z) h
 |int i=>obtain⟨t',rfl⟩:=rv;exact Jm PySem.W.kitx_int I.kIn True.intro htp ek (λz=>nomatch z) h
 |str y=>obtain⟨t',rfl⟩:=rv;exact Jm PySem.W.kitx_str I.kIn True.intro htp ek (λz=>nomatch z) h
 |lst hl _=>cases rv;obtain⟨its,r,⟨o,n,e,hc,_,hd⟩,hz⟩:=I.list (sg.seq hl);exact Jm PySem.W.kitx_list I.kIn ⟨o,e,hc⟩ htp ek (λz=>nomatch z) h
 |tup hl _=>cases rv;obtain⟨its,r,p,hz⟩:=I.tuple (Zr sg hl);obtain⟨o,e,hc,_⟩:=p;exact Jm PySem.W.kitx_tuple I.kIn ⟨o,e,hc⟩ htp ek (λz=>nomatch z) h
 |@dic ad hd=>
  cases rv;obtain⟨_,_,vs,_,p⟩:=(show KW X.prog X.w H s.heap ad (.dK [])from I.hok ad _ (sg _ _ hd))
  obtain⟨o,es,ep,h1,h2,_⟩:=p;exact Jm JA I.kIn ⟨o,h1,h2.1⟩ htp ek (λz=>nomatch z) h
 |exc _ _ _ _=>cases nx
 |@dct ad ks vs ds kvs e0 _ _ hd _=>
  cases rv;subst e0;rw[Se.1]at ek;obtain⟨_,_,vs,_,p⟩:=(show KW X.prog X.w H s.heap ad (.dK (ks.zip _))from I.hok ad _ (sg _ _ hd))
  obtain⟨o,es,ep,h1,h2,_⟩:=p;exact Jm JA I.kIn ⟨o,h1,h2.1⟩ htp ek (λz=>nomatch z) h
 |@dtt ad ob ks vs ds kvs e0 _ hd _=>
  cases rv;subst e0;obtain⟨_,_,_,xs,_,o,es,ep,h1,h2,_⟩:=(show KW X.prog X.w H s.heap ad (.frz ob (.dT (ks.zip _)))from I.hok ad _ (sg _ _ hd))
  exact Jm JA I.kIn ⟨o,h1,h2.1⟩ htp ek (λz=>nomatch z) h
theorem Dc:Ys X (.builtin "isinstance") (λxs H Q=>∃v tp G d,xs=[v,.ref tp]/\H tp=O (.tup [.ty "list", .ty "tuple"])/\Same G H/\Rep X.K G v d/\Z6 d=Cw/\Q (.bl (UQ d "list" || UQ d "tuple")) H):=by intro pins s σ H xs us Q I r h;obtain⟨v,tp,G,d,rfl,ht,sg,rp,nx,q⟩:=h;obtain⟨u,w',rfl,r1,r2⟩:=VM r;obtain rfl:w'=Value.ref tp:=r2;obtain⟨its,rv,⟨⟨cl,dd,da,sl⟩,e,hc,n,hd⟩,_⟩:=I.tuple (SqT.of ht);obtain⟨a,b,rfl,ra,rb⟩:=VM rv;obtain rfl:a=Value.type "list" :=ra;obtain rfl:b=Value.type "tuple" :=rb;simp only at hc hd;subst hc hd;exact Fq I sg rp r1 nx e (Ga (SO X.K d "list" nx (by decide)) (SO X.K d "tuple" nx (by decide))) λtk=>⟨.bl _,H,I.tok tk,rfl,q⟩
noncomputable def WX(f:M D):M D:=UB f λd=>if Z6 d=Cw then Us (.bool (UQ d "list" || UQ d "tuple"))else λ_=>.bad
theorem Ee{f:M D}{p2 p3 p4 p5:Pos}{kt}(hg:Gl X "isinstance")(hm:X.mg "isinstance" = Cu)(BI:Gl X "list")(hm2:X.mg "list" = Cu)(hg3:Gl X "tuple")(hm3:X.mg "tuple" = Cu)(ha:PE X e (tD X.K B G0 f))
  (hs:J8 [e,.Tuple [.Name "list" p3,.Name "tuple" p4] kt p5] X.env=(Cw,eval e X.env)::J8 [.Tuple [.Name "list" p3,.Name "tuple" p4] kt p5] X.env:=by rfl)
  (hs2:J8 [.Tuple [.Name "list" p3,.Name "tuple" p4] kt p5] X.env=[(Cw,eval (.Tuple [.Name "list" p3,.Name "tuple" p4] kt p5) X.env)]:=by rfl)
  (B2:J8 [.Name "list" p3,.Name "tuple" p4] X.env=(Cw,eval (.Name "list" p3) X.env)::J8 [.Name "tuple" p4] X.env:=by rfl) (hs4:J8 [.Name "tuple" p4] X.env=[(Cw,eval (.Name "tuple" p4) X.env)]:=by rfl) :
  PE X (.Call (.Name "isinstance" p2) [e,.Tuple [.Name "list" p3,.Name "tuple" p4] kt p5] [] pos) (tD X.K B G0 (WX f)):=by
 have b1:bootBuiltins "list" = O (.type "list"):=by decide +kernel
 have b2:bootBuiltins "tuple" = O (.type "tuple"):=by decide +kernel
 have T:=Sj (x1:=kt) (pos:=p5) (KP (Td (v:=.ty "list") (pos:=p3) BI hm2 b1 Ct (by decide) (by decide)) (KP (Td (v:=.ty "tuple") (pos:=p4) hg3 hm3 b2 Ct (by decide) (by decide)) ZR (by rw[hs4];rfl)) B2);refine UN (WO Dc hg hm TX (KP ha (KP T ZR (by rw[hs2];rfl)) hs) (by decide) (by decide) hs (by rw[hs2];rfl)) λσ H Q q=>?_
 refine tM.one (R:=Rep X.K) q λv H2 G ρ x k r a=>?_
 split at a
 .rename_i nx
  refine⟨(show 2<=J6 by decide),λp hp=>?_⟩;exact⟨v,p,G,x,rfl,U9,k.gh.trans (KG hp),r,nx,aft.done (show aft X.K B G0 (Rep X.K) (.ok _ ρ) G σ Q from a) k (Ext.hid k.gh hp) (.bl _)⟩
 .exact a.elim
theorem Sw{f:M D}{ρ ρ1:Ur}{d:D}(h1:f ρ=.ok d ρ1)(h2:Z6 d=Cw):WX f ρ=.ok (.bool (UQ d "list" || UQ d "tuple")) ρ1:=by unfold WX;exact U4 h1 (by rw[Qo h2];rfl)
end
end DL
namespace L2
open PySem PySem.Spec PyProof.Rows
end L2
namespace DL
open PySem PySem.Spec L2
open PyProof.Rows hiding St
end DL
namespace DL
open PySem PySem.Spec L2
open PyProof.Rows hiding St
open PySem.SeqRoads2 PySem.SeqAt
end DL
namespace DL
open PySem PySem.Spec L2
open PyProof.Rows hiding St
section
variable{X:Cx}{B G0:Hp}{KX:XW}{e e':J5}{es es':CC}{st st':Stmt}{sts BD:List Stmt}{pos p2:Pos}{x:Str}{j:Nat}{gl:List Str}
theorem Ed{g h:SM}(q:st::sts=BD)(h1:PS X st (tS X.K B G0 KX g))(h2:PSs X sts (tS X.K B G0 KX h)):PSs X BD (tS X.K B G0 KX (Uv g h)):=q ▸ K2 h1 h2
theorem Le{f:M Cy}(q:Stmt.Assign [.Name x p2] e pos=st')(H:FnNm X.env.scope X.N gl)(he:PE X e (tL X.K B G0 f))(hi:X.N[j]?=O x:=by rfl)(hs:swapsWith e (O (.Name x p2)) pos.line X.env=pure Cw:=by rfl)
  (hf:X.fn x=Cv∨X.env.scope.names.lookup x=O .local:=by first|exact .inl rfl|exact .inr rfl|assumption):PS X st' (tS X.K B G0 KX (KH j f)):=q ▸ Rw H he hi hs hf
theorem Ec{f:M Cy}(q:Expr.List es pos=e')(h:PA X es (tDs X.K B G0 f)):PE X e' (tL X.K B G0 (UB f λxs=>if xs.length<=1000000 then Us xs else λ_=>.bad)):=q ▸ Tn h
theorem Ep{f:M D}{g:M Cy}(q:e::es=es')(ha:PE X e (tD X.K B G0 f))(hr:PA X es (tDs X.K B G0 g))(hs:J8 (e::es) X.env=(Cw,eval e X.env)::J8 es X.env:=by rfl):PA X es' (tDs X.K B G0 (Uw f g)):=q ▸ UT ha hr hs
end
section
variable{X:Cx}{B G0:Hp}{KX:XW}{a b e e':J5}{es es':CC}{st st':Stmt}{sts BD:List Stmt}{pos p2:Pos}{x:Str}{j:Nat}{gl:List Str}
theorem N8{f:M D}(q:Stmt.Assign [.Name x p2] e pos=st')(H:FnNm X.env.scope X.N gl)(he:PE X e (tD X.K B G0 f))(hi:X.N[j]?=O x:=by rfl)(hs:swapsWith e (O (.Name x p2)) pos.line X.env=pure Cw:=by rfl)
  (hf:X.fn x=Cv∨X.env.scope.names.lookup x=O .local:=by first|exact .inl rfl|exact .inr rfl|assumption):PS X st' (tS X.K B G0 KX (UF j f)):=q ▸ aSet H he hi hs hf
theorem Eb{f:M Cy}(q:Expr.List es pos=e')(h:PA X es (tDs X.K B G0 f)):PE X e' (tD X.K B G0 (UL f)):=q ▸ Xp h
theorem Ea{x1}{f:M Cy}(q:Expr.Tuple es x1 pos=e')(h:PA X es (tDs X.K B G0 f)):PE X e' (tD X.K B G0 (KT f)):=q ▸ SR h
theorem RU{op:Operator}{p:D->D->CA}{f g:M D}(o:OpD X (binaryOp op) p)(q:Expr.BinOp a op b pos=e')(ha:PE X a (tD X.K B G0 f))(hb:PE X b (tD X.K B G0 g)):PE X e' (tD X.K B G0 (Uu p f g)):=q ▸ K9 o ha hb
end
noncomputable def mNV(f:M XR):M XR:=λρ=>match f ρ with
 |.ok (.exc d) ρ'=>.ok (.exc d) ρ'
 |_=>.bad
theorem Ld{f:M XR}{ρ ρ':Ur}{d:D}(h:f ρ=.ok (.exc d) ρ'):mNV f ρ=.ok (.exc d) ρ':=by unfold mNV;rw[h]
section
variable{X:Cx}{B G0:Hp}{KX:XW}{e a:J5}{pos p2:Pos}{es:CC}{f:M XR}{x:Str}
theorem tX.nv{K:Frag}{σ:St}{H:Hp}{Q Q':VK}(q:tX K B G0 KX (mNV f) σ H Q):tX K B G0 KX f σ H Q':=by
 obtain⟨G,ρ,k,a⟩:=q;refine⟨G,ρ,k,?_⟩;unfold mNV at a;cases z:f ρ with
 |bad=>rw[z]at a;exact a.elim
 |ok r ρ1=>
  rw[z]at a;cases r with
  |val d=>exact a.elim
  |exc d=>exact a
end
section
variable{K:Frag}{B G0 G H:Hp}{σ:St}{ρ:Ur}
theorem O3{i:Nat}{p:Pat}{d:D}(h:ρ[i]?=O (O (.deep p d))):Zq ρ i=O (p,d):=by unfold Zq;rw[h]
theorem Eo{i:Nat}{ds:Cy}(h:ρ[i]?=O (O (.own ds))):Zq ρ i=O (.lst .leaf,.list ds):=by unfold Zq;rw[h]
end
noncomputable def eqF:Nat->Pat->Pat->Bool
 |_,.leaf,.leaf=>Cv
 |n+1,.lst p,.lst q=>eqF n p q
 |n+1,.tup ps,.tup qs=>ps.length==qs.length&&(ps.zip qs).all λx=>eqF n x.1 x.2
 |_,_,_=>Cw
theorem Pv{f:Pat->Pat->Bool}(h:∀p q,f p q=Cv->p=q):∀{ps qs:List Pat},ps.length=qs.length->(ps.zip qs).all (λx=>f x.1 x.2)=Cv->ps=qs
 |[],[],_,_=>rfl
 |[],_::_,e,_=>nomatch e
 |_::_,[],e,_=>nomatch e
 |p::ps,q::qs,e,a=>by rw[List.zip_cons_cons,JL,Qw]at a;rw[h p q a.1,Pv h (Nat.succ.inj e) a.2]
theorem Sa:∀(n:Nat)(p q:Pat),eqF n p q=Cv->p=q
 |0,.leaf,.leaf,_=>rfl
 |0,.lst _,_,h=>by simp[eqF]at h
 |0,.tup _,_,h=>by simp[eqF]at h
 |0,.dic,_,h=>by simp[eqF]at h
 |0,.leaf,.lst _,h=>by simp[eqF]at h
 |0,.leaf,.tup _,h=>by simp[eqF]at h
 |0,.leaf,.dic,h=>by simp[eqF]at h
 |n+1,.leaf,.leaf,_=>rfl
 |n+1,.lst p,.lst q,h=>by rw[Sa n p q h]
 |n+1,.tup ps,.tup qs,h=>by simp only[eqF,Qw,beq_iff_eq]at h;rw[Pv (Sa n) h.1 h.2]
 |n+1,.leaf,.lst _,h=>by simp[eqF]at h
 |n+1,.leaf,.tup _,h=>by simp[eqF]at h
 |n+1,.leaf,.dic,h=>by simp[eqF]at h
 |n+1,.lst _,.leaf,h=>by simp[eqF]at h
 |n+1,.lst _,.tup _,h=>by simp[eqF]at h
 |n+1,.lst _,.dic,h=>by simp[eqF]at h
 |n+1,.tup _,.leaf,h=>by simp[eqF]at h
 |n+1,.tup _,.lst _,h=>by simp[eqF]at h
 |n+1,.tup _,.dic,h=>by simp[eqF]at h
 |n+1,.dic,_,h=>by simp[eqF]at h
theorem Lc{P:JZ}{w:World}{K:Frag}{mg:Str->CB}{base:Heap}{k n:Nat}{f:J0}{fd:J4}{ps:List Str}:FnOk P w K mg base CX0 k f fd ps (spD K n λ_=>Cu):=
 ⟨λvs H Q E h=>(let ⟨_,_,_,_,_,_,h,_⟩:=h;nomatch h),λA outer s H args us vs Q E _ _ _ _ h=>(let ⟨_,_,_,_,_,_,h,_⟩:=h;nomatch h)⟩
noncomputable def Ww(i:Nat)(p:Pat):M D:=λρ=>match ρ[i]? with
 |some (O (.deep q d))=>if eqF 9 q p=Cv then .ok d (ρ.set i Cu)else .bad
 |_=>.bad
section
variable{X:Cx}{B G0:Hp}{e:J5}{p:Pat}
theorem Th{i:Nat}(h:PE X e (U1 i)):PE X e (tT X.K B G0 p (Ww i p)):=UN h λσ H Q ⟨G,ρ,k,q⟩=>by
 unfold Ww at q;cases ho:ρ[i]? with
 |none=>rw[ho]at q;exact q.elim
 |some oo=>
 cases oo with
 |none=>rw[ho]at q;exact q.elim
 |some sl=>
 cases sl with
 |pub d=>rw[ho]at q;exact q.elim
 |own ds=>rw[ho]at q;exact q.elim
 |deep pp d=>
 rw[ho]at q;dsimp only at q;by_cases hc:eqF 9 pp p=Cv
 case neg=>rw[Qv hc]at q;exact q.elim
 rw[Qo hc]at q;cases Sa 9 _ _ hc;obtain⟨ω,ks⟩:=k.slots;obtain⟨v,fp,hv,r,nd,w⟩:=ks i p d (O3 ho)
 have nz:∀{m:Nat}{s:Sl},(ρ.set i Cu)[m]?=O (O s)->ρ[m]?=O (O s)/\i≠m:=λ{m s} q=>by
  by_cases z:i=m
  .subst z;have:=Kl q;cases this
  .rw[Qe z]at q;exact⟨q,z⟩
 have off:∀(j:Nat) p' d' v' fp',Zq ρ j=O (p',d')->i≠j->σ[j]?=O (O v')->∀b∈fp,RepO X.K G H p' v' d' fp'->b∉fp':=λj p' d' v' fp' z y hs b m rr mm=>by obtain⟨v5,f5,hv5,r5,n5,w5⟩:=ks j _ _ z;rw[hs]at hv5;cases hv5;have eu:=r5.uniq (.refl _) rr;subst eu;exact y ((w b m).2.2.symm.trans (w5 b mm).2.2)
 refine⟨v,hv,q v fp G H k.forget (.refl _) ⟨r,nd,λb m=>⟨(w b m).1,(w b m).2.1⟩,λb m j es ho' hs=>?_,λb m j p' d' v' fp' ho' hs rr mm=>?_⟩⟩
 .obtain⟨ho',y⟩:=nz ho'
  obtain⟨a5,us,i1',i2',i3',i4',i5'⟩:=k.own j es ho';rw[hs]at i1';cases i1';exact off j _ _ _ [b] (Eo ho') y hs b m (.lst i4' (.leaf i5')) (List.mem_singleton.mpr Ct)
 .obtain⟨ho',y⟩:=nz ho'
  exact off j _ _ _ fp' (O3 ho') y hs b m rr mm
theorem Pu{i:Nat}{ρ:Ur}{q:Pat}{d:D}(h:ρ[i]?=O (O (.deep q d)))(h2:eqF 9 q p=Cv):Ww i p ρ=.ok d (ρ.set i Cu):=by unfold Ww;rw[h];dsimp only;rw[if_pos h2]
end
end DL
namespace L2
open PySem PySem.Spec PyProof.Rows PySem.Calls PyProof.V
end L2
namespace DL
open PySem PySem.Spec L2
open PyProof.Rows hiding St
noncomputable def sOr(a b:SM):SM:=λρ=>match a ρ with
 |.bad=>b ρ
 |o=>o
theorem MH{X:Cx}{B G0:Hp}{KX:XW}{st:Stmt}{a b:SM}(h1:PS X st (tS X.K B G0 KX a))(h2:PS X st (tS X.K B G0 KX b)):PS X st (tS X.K B G0 KX (sOr a b)):=by
 intro pins s σ H Dn I q;obtain⟨G,ρ,k,q⟩:=q;unfold sOr at q;cases z:a ρ with
 |bad=>rw[z]at q;exact h2 pins s σ H Dn I ⟨G,ρ,k,q⟩
 |_=>rw[z]at q;exact h1 pins s σ H Dn I ⟨G,ρ,k,by rw[z];exact q⟩
theorem Lb{a b:SM}{ρ:Ur}{o:Out}(h:a ρ=o)(hn:o≠.bad):sOr a b ρ=o:=by unfold sOr;rw[h];cases o<;>first|rfl|exact absurd Ct hn
theorem La{a b:SM}{ρ:Ur}{o:Out}(h:a ρ=.bad)(h2:b ρ=o):sOr a b ρ=o:=by unfold sOr;rw[h];exact h2
end DL
namespace L2
open PySem PySem.Spec PyProof.Rows
end L2
namespace DL
open PySem PySem.Spec L2
open PyProof.Rows hiding St
section
variable{X:Cx}{B G0:Hp}{KX:XW}{e a b c:J5}{pos p2:Pos}{es:CC}{st:Stmt}{sts:List Stmt}{pt:Pat}
theorem M9{tg iter:J5}{body:List Stmt}{f:M XR}(h:PE X iter (tX X.K B G0 KX (mNV f)))(hs:∀x,Up iter X.env x=pure x:=by intro _;rfl):PS X (.For tg iter body [] pos) (tS X.K B G0 KX (sX (mNV f) λ_ _=>.bad)):=by intro pins s σ H D I q;exact wpAny_For (thn (h pins s σ H (λ_ _=>False) I (tS.bndX q λv H' G' ρ' x k r a=>a)) λv s1 ⟨_,_,_,_,z⟩=>z.elim) hs
theorem DJ{T:String}{x:Str}{f:M XR}(hg:Gl X x)(hm:X.mg x=Cu)(hv:bootBuiltins x=O (.type T))(ha:PE X e (tX X.K B G0 KX f))(hn:x ≠ "__name__" :=by decide)(hdb:(x==("__debug__" : Str))=Cw:=by decide)
  (he:J8 [e] X.env=(Cw,eval e X.env)::J8 [] X.env:=by rfl):PE X (.Call (.Name x p2) [e] [] pos) (tX X.K B G0 KX (mNV f)):=
 UN (Na (r:=λ_ _ _=>False) (λ_ _ _ _ _ _ _ _ _ h=>h.elim) hg hm hv (KP ha ZR he) hn hdb he Ct) λσ H Q q=>q.nv
theorem F9{p1:Pos}{t:M Bool}{f:M D}(hc:PT X c (tBo X.K B G0 t))(he:PE X e (tT X.K B G0 pt f)):PSs X (.If c [.Return (O e) p1] [] pos::sts) (tST X.K B G0 pt (sIf t sNx λ_=>.bad) f):=by
 have hf:∀ss:List Stmt,PSs X ss (λ_ _ _=>False):=λss _ _ _ _ _ _ h=>h.elim;refine Xv (Vm (RJ hc (WR (Vf he)) (hf [])) (hf sts)) λD σ H ⟨G,ρ,k,a⟩=>?_
 refine⟨G,ρ,k,?_⟩;unfold sIf sB at a;cases z:t ρ with
 |bad=>rw[z]at a;exact a.elim
 |ok b ρ1=>
  rw[z]at a;dsimp only at a;intro v G1 H1 k1 s1 hv;subst hv;cases v with
  |false=>exact a.elim
  |true=>
   refine⟨G1,ρ1,k1,?_⟩;rw[Qo Ct]at a;unfold sNx at a;dsimp only at a;cases z2:f ρ1 with
   |bad=>simp only[z2]at a
   |ok d ρ2=>simp only[z2]at a;exact λv fp G' H' k' s' n=>a v fp G' H' (k'.exit) n.r n.nd n.b
noncomputable def WE(i j l:Nat)(f:M D):SM:=sB f λd ρ=>match d with
 |.list [.list d1,.list d2,.list d3]=>if(i≠j/\i≠l/\j≠l)/\i<ρ.length/\j<ρ.length/\l<ρ.length then .nx (((ρ.set i (O (.own d1))).set j (O (.own d2))).set l (O (.own d3)))else .bad
 |_=>.bad
theorem RepO.three_inv{K:Frag}{G H:Hp}{v:V}{d1 d2 d3:Cy}{fp:CF}(r:RepO K G H (.lst (.lst .leaf)) v (.list [.list d1,.list d2,.list d3]) fp) :
  ∃p a b c vs ws us,v=.ref p/\H p=O (.lst [.ref a,.ref b,.ref c])/\H a=O (.lst vs)/\H b=O (.lst ws)/\H c=O (.lst us)/\Reps K G vs d1/\Reps K G ws d2/\Reps K G us d3/\fp=[p,a,b,c]:=by
 cases r with
 |lst h rs=>
  cases rs with
  |cons r1 t=>
   cases t with
   |cons r2 t2=>
    cases t2 with
    |cons r3 t3=>
    cases t3;cases r1 with
    |lst h1 l1=>
     cases r2 with
     |lst h2 l2=>
      cases r3 with
      |lst h3 l3=>obtain⟨q1,rfl⟩:=RepOl.leaf_inv l1;obtain⟨q2,rfl⟩:=RepOl.leaf_inv l2;obtain⟨q3,rfl⟩:=RepOl.leaf_inv l3;exact⟨_,_,_,_,_,_,_,rfl,h,h1,h2,h3,q1,q2,q3,rfl⟩
theorem Oc{i j l:Nat}{x y z:Str}{f:M D}{px py pz pt:Pos}{kt}(hc:X.calm=Cv)(hN:X.N.Nodup)(hi:X.N[i]?=O x)(hj:X.N[j]?=O y)(hl:X.N[l]?=O z)(hx:Loc X.env.scope x)(hy:Loc X.env.scope y)(hz:Loc X.env.scope z)(he:PE X e (tT X.K B G0 (.lst (.lst .leaf)) f))
  (hs:swapsWithSole [.Tuple [.Name x px,.Name y py,.Name z pz] kt pt] e pos.line X.env=pure Cw:=by rfl) (hw:swappedStores [.Tuple [.Name x px,.Name y py,.Name z pz] kt pt] e X.env=pure Cu:=by rfl)
  (hf:X.fn x=Cv∨X.env.scope.names.lookup x=O .local:=by first|exact .inl rfl|exact .inr rfl|assumption) (hf2:X.fn y=Cv∨X.env.scope.names.lookup y=O .local:=by first|exact .inl rfl|exact .inr rfl|assumption) (hf3:X.fn z=Cv∨X.env.scope.names.lookup z=O .local:=by first|exact .inl rfl|exact .inr rfl|assumption) :
  PS X (.Assign [.Tuple [.Name x px,.Name y py,.Name z pz] kt pt] e pos) (tS X.K B G0 KX (WE i j l f)):=by
 have G2:PG X (.Tuple [.Name x px,.Name y py,.Name z pz] kt pt) (Ro X.K 3 (VO (Wu i) (VO (Wu j) (VO (Wu l) gNil)))):=PU hc (TF (Ye hN hi hx hf) (TF (Ye hN hj hy hf2) (TF (Ye hN hl hz hf3) P5)));refine Ko (Pd he G2 hs hw) λDn σ H ⟨G,ρ,k,a⟩=>?_
 refine⟨G,ρ,k,?_⟩;unfold WE sB at a;cases z:f ρ with
 |bad=>rw[z]at a;exact a.elim
 |ok d ρ1=>
 rw[z]at a;dsimp only at a;split at a
 case h_2=>exact a.elim
 rename_i d1 d2 d3;split at a
 case isFalse=>exact a.elim
 rename_i hlt;obtain⟨⟨hij,hil,hjl⟩,li,lj,ll⟩:=hlt;intro v fp G' H' k' s' n;obtain⟨p,b1,b2,b3,vs,ws,us,rfl,hp,h1,h2,h3,r1,r2,r3,rfl⟩:=n.r.three_inv;have nd:=n.nd;simp only[List.nodup_cons,QC,Jd,or_false,not_or,not_false_eq_true,List.nodup_nil,and_true]at nd;obtain⟨_,⟨n12,n13⟩,n23⟩:=nd;refine⟨p,_,rfl,SqL.of hp,rfl,_,_,rfl,_,_,rfl,_,_,rfl,rfl,?_⟩;have m1:b1∈[p,b1,b2,b3]:=by simp
 have m2:b2∈[p,b1,b2,b3]:=by simp
 have m3:b3∈[p,b1,b2,b3]:=by simp
 have ls:ρ1.length=σ.length:=k'.len;have k5:=k'.setOwn (i:=i) (a:=b1) (vs:=vs) (ds:=d1) ⟨(n.b b1 m1).1,(n.b b1 m1).2,h1,r1,n.f b1 m1,n.dp b1 m1⟩ li
 have k6:=k5.setOwn (i:=j) (a:=b2) (vs:=ws) (ds:=d2) ⟨(n.b b2 m2).1,(n.b b2 m2).2,h2,r2,λq es q1 w=>by
  by_cases zj:i=q
  .subst zj
   rw[Qz (by rw[←ls];exact li)]at w;cases w;exact n12 Ct
  .rw[Qe zj]at q1 w
   exact n.f b2 m2 q es q1 w,λq p' d' v' fp' q1 w r=>by
  by_cases zj:i=q
  .subst zj;have:=Kl q1;cases this
  .rw[Qe zj]at q1 w
   exact n.dp b2 m2 q p' d' v' fp' q1 w r⟩ (by rw[QJ];exact lj)
 have k7:=k6.setOwn (i:=l) (a:=b3) (vs:=us) (ds:=d3) ⟨(n.b b3 m3).1,(n.b b3 m3).2,h3,r3,λq es q1 w=>by
  by_cases zj:j=q
  .subst zj
   rw[Qz (by rw[QJ,←ls];exact lj)]at w;cases w;exact n23 Ct
  .rw[Qe zj]at q1 w
   by_cases zi:i=q
   .subst zi
    rw[Qz (by rw[←ls];exact li)]at w;cases w;exact n13 Ct
   .rw[Qe zi]at q1 w
    exact n.f b3 m3 q es q1 w,λq p' d' v' fp' q1 w r=>by
  by_cases zj:j=q
  .subst zj;have:=Kl q1;cases this
  .rw[Qe zj]at q1 w
   by_cases zi:i=q
   .subst zi;have:=Kl q1;cases this
   .rw[Qe zi]at q1 w
    exact n.dp b3 m3 q p' d' v' fp' q1 w r⟩ (by rw[QJ,QJ];exact ll)
 exact a _ G' H' k7 s'
noncomputable def Vd(f:M D)(j1 j2:Nat):M D:=λρ=>match f ρ with
 |.ok d ρ1=>(match ρ1[j1]?,ρ1[j2]? with
  |some (O (.own d1)),O (O (.own d2))=>if j1≠j2 then .ok (.tuple [d,.list d1,.list d2]) ((ρ1.set j1 Cu).set j2 Cu)else .bad
  |_,_=>.bad)
 |.bad=>.bad
theorem OT{j1 j2:Nat}{f:M D}{k1}(h:PE X e (tD X.K B G0 f))(ha:PE X a (U1 j1))(hb:PE X b (U1 j2))
  (hs0:J8 [e,a,b] X.env=(Cw,eval e X.env)::J8 [a,b] X.env:=by rfl) (hs1:J8 [a,b] X.env=(Cw,eval a X.env)::J8 [b] X.env:=by rfl) (hs2:J8 [b] X.env=[(Cw,eval b X.env)]:=by rfl) :
  PE X (.Tuple [e,a,b] k1 pos) (tT X.K B G0 (.tup [.leaf,.lst .leaf,.lst .leaf]) (Vd f j1 j2)):=
 UN (Sj (KP h (KP ha (KP hb ZR hs2) hs1) hs0)) λσ H Q ⟨G,ρ,k,q⟩=>by
  refine⟨G,ρ,k,?_⟩;unfold Vd at q;cases z:f ρ with
  |bad=>rw[z]at q;exact q.elim
  |ok d ρ1=>
  rw[z]at q;dsimp only at q;intro v0 G1 H1 kk s1 rv;cases z1:ρ1[j1]? with
  |none=>rw[z1]at q;exact q.elim
  |some o1=>
  cases z2:ρ1[j2]? with
  |none=>rw[z1,z2]at q;revert q;cases o1 with
   |none=>exact λq=>q.elim
   |some sl=>cases sl<;>exact λq=>q.elim
  |some o2=>
  rw[z1,z2]at q
  obtain⟨d1,rfl⟩:∃d1,o1=O (.own d1):=by
   cases o1 with
   |none=>exact q.elim
   |some sl=>
    cases sl with
    |own ds=>exact⟨_,rfl⟩
    |pub d=>exact q.elim
    |deep p d=>exact q.elim
  obtain⟨d2,rfl⟩:∃d2,o2=O (.own d2):=by
   cases o2 with
   |none=>exact q.elim
   |some sl=>
    cases sl with
    |own ds=>exact⟨_,rfl⟩
    |pub d=>exact q.elim
    |deep p d=>exact q.elim
  dsimp only at q;by_cases hne:j1≠j2
  case neg=>rw[Qv hne]at q;exact q.elim
  rw[Qo hne]at q;obtain⟨ω,ks⟩:=kk.slots;obtain⟨v1,f1,hv1,r1,n1,w1⟩:=ks j1 (.lst .leaf) (.list d1) (by unfold Zq;rw[z1]);obtain⟨v2,f2,hv2,r2,n2,w2⟩:=ks j2 (.lst .leaf) (.list d2) (by unfold Zq;rw[z2]);refine⟨v1,hv1,v2,hv2,(show 3<=J6 by decide),λp hp=>?_⟩;have sh:Same H1 (upd H1 p (.tup [v0,v1,v2])):=KG hp;have kf:=((kk.ext (Ext.hid (o:=.tup [v0,v1,v2]) kk.gh hp)).forget (i:=j1)).forget (i:=j2)
  have own:∀b∈[]++(f1++(f2++[])),B b=Cu/\G1 b=Cu/\(ω b=j1∨ω b=j2):=λb m=>by
   rw[QO,JR]at m;rcases QW.mp m with m|m
   .exact⟨(w1 b m).1,(w1 b m).2.1,.inl (w1 b m).2.2⟩
   .exact⟨(w2 b m).1,(w2 b m).2.1,.inr (w2 b m).2.2⟩
  have nz:∀{m:Nat}{s:Sl},((ρ1.set j1 Cu).set j2 Cu)[m]?=O (O s)->ρ1[m]?=O (O s)/\j1≠m/\j2≠m:=λ{m s} q=>by
   by_cases y2:j2=m
   .subst y2;have:=Kl q;cases this
   .rw[Qe y2]at q
    by_cases y1:j1=m
    .subst y1;have:=Kl q;cases this
    .rw[Qe y1]at q;exact⟨q,y1,y2⟩
  refine q (.ref p) ([]++(f1++(f2++[]))) G1 _ kf s1 ⟨.tup U9 (.cons (.leaf rv) (.cons (r1.mono (.refl _) sh) (.cons (r2.mono (.refl _) sh) .nil))),?_,λb m=>⟨(own b m).1,(own b m).2.1⟩,λb m j es ho hs=>?_,λb m j p' d' v' fp' ho hs rr mm=>?_⟩
  .rw[QO,JR]
   exact Q5.mpr ⟨n1,n2,λx hx y hy e=>by subst e;exact hne ((w1 x hx).2.2.symm.trans (w2 x hy).2.2)⟩
  .obtain⟨ho,y1,y2⟩:=nz ho
   obtain⟨v3,f3,BF,r3,n3,w3⟩:=ks j (.lst .leaf) (.list es) (by unfold Zq;rw[ho]);rw[hs]at BF;cases BF
   have mb:b∈f3:=by
    cases r3 with
    |lst h rl=>exact Qj
   rcases(own b m).2.2 with z|z
   .exact y1 (z.symm.trans (w3 b mb).2.2)
   .exact y2 (z.symm.trans (w3 b mb).2.2)
  .obtain⟨ho,y1,y2⟩:=nz ho
   obtain⟨v3,f3,BF,r3,n3,w3⟩:=ks j p' d' (by unfold Zq;rw[ho]);rw[hs]at BF;cases BF;have eu:=r3.uniq sh rr;subst eu
   rcases(own b m).2.2 with z|z
   .exact y1 (z.symm.trans (w3 b mm).2.2)
   .exact y2 (z.symm.trans (w3 b mm).2.2)
end
section
variable{ρ ρ1 ρ':Ur}
theorem F8{i j l:Nat}{f:M D}{d1 d2 d3:Cy}(h1:f ρ=.ok (.list [.list d1,.list d2,.list d3]) ρ1)(hl:(i≠j/\i≠l/\j≠l)/\i<ρ1.length/\j<ρ1.length/\l<ρ1.length)(h3:((ρ1.set i (O (.own d1))).set j (O (.own d2))).set l (O (.own d3))=ρ'):WE i j l f ρ=.nx ρ':=by unfold WE sB;rw[h1];dsimp only;rw[if_pos hl,h3]
theorem F7{f:M D}{j1 j2:Nat}{d:D}{d1 d2:Cy}(h:f ρ=.ok d ρ1)(h1:ρ1[j1]?=O (O (.own d1)))(h2:ρ1[j2]?=O (O (.own d2)))(hne:j1≠j2):Vd f j1 j2 ρ=.ok (.tuple [d,.list d1,.list d2]) ((ρ1.set j1 Cu).set j2 Cu):=by unfold Vd;rw[h];dsimp only;rw[h1,h2];dsimp only;rw[if_pos hne]
end
section
variable{X:Cx}
theorem Cg:MtS X "str.startswith" (λz y=>O (.bool (Txt.startswith z y))):=by
 refine⟨λx vs H Q=>∃z y,x=.str z/\vs=[.str y]/\Q (.bl (Txt.startswith z y)) H,?_,λz y d H Q e k=>?_⟩
 .intro pins s σ H x xs v us Q I rx rs h
  obtain⟨z,y,rfl,rfl,q⟩:=h;obtain⟨t,rfl⟩:=(show ∃t,v=Value.str z t from rx)
  obtain⟨u,rfl,t2,rfl⟩:=Wt rs;exact SC.startswith ⟨.bl _,H,I,rfl,q⟩
 .cases e
  exact⟨z,y,rfl,rfl,k _ λ_=>.bl _⟩
end
section
variable{X:Cx}{B G0:Hp}{pos p2:Pos}
theorem pdf0{k kk:Nat}{F:Cy->CA}{x:Str}(d:Def X.prog X.w X.K X.mg X.base x k 0 F)(hr:Room kk X.A)(hg:Gl X x)(hk:k<=kk:=by decide)(hdb:(x==("__debug__" : Str))=Cw:=by decide) :
  PE X (.Call (.Name x p2) [] [] pos) (tD X.K B G0 (UG 0 F Ut)):=by
 obtain⟨f,fd,ps,h1,h2,h3,h4⟩:=d;refine UN (EC h4 (hr.mono hk) hg h1 h2 h3 .nil W6 hdb) λσ H Q ⟨G,ρ,k,a⟩=>?_
 obtain⟨d,e,a⟩:=(show aft X.K B G0 (Rep X.K) (Uz (F []) ρ) G σ Q from a).opt;exact⟨G,[],d,rfl,k.gh,.nil,e,λw G' H' ex rw=>a.done k ex rw⟩
end
end DL
namespace W
open PySem PySem.Spec L2 DL
open PyProof.Rows hiding St
noncomputable def top(i:Nat):Stmt:=PySem.Challenge.pw_wishdeal_k89_papers_written_and_read.main.body.getD i (.Pass ⟨0,0,0,0⟩)
abbrev GG(s:Stmt)(x:Str):Prop:=(U6 s).names.lookup x=O NameKind.globalImplicit
abbrev VV(s:Stmt)(x:Str):Prop:=L2.Vis (U6 s) x
abbrev LL(s:Stmt)(x:Str):Prop:=L2.Loc (U6 s) x
theorem vk{s:Stmt}{x:Str}(h:(U6 s).names.lookup x=O .local∨(U6 s).names.lookup x=O .cell∨(U6 s).names.lookup x=O .free):VV s x:=h
theorem lk{s:Stmt}{x:Str}(h:(U6 s).names.lookup x=O .local∨(U6 s).names.lookup x=O .cell):LL s x:=h
structure Txt(K:Frag)(mg:Str->CB):Prop where
 b_ValueError:mg "ValueError" = Cu
 b_all:mg "all" = Cu
 b_bool:mg "bool" = Cu
 b_enumerate:mg "enumerate" = Cu
 b_int:mg "int" = Cu
 b_isinstance:mg "isinstance" = Cu
 b_len:mg "len" = Cu
 b_list:mg "list" = Cu
 b_max:mg "max" = Cu
 b_range:mg "range" = Cu
 b_str:mg "str" = Cu
 b_tuple:mg "tuple" = Cu
 b_zip:mg "zip" = Cu
 c_FIGURES:∃t,mg "FIGURES" = O (Value.str "0123456789" t)
 c_MOST_FIGURES:∃t,mg "MOST_FIGURES" = O (Value.int 60 t)
 c_PAPER_WORDS:∃ad o its n,mg "PAPER_WORDS" = O (.ref ad)/\K.lookup ad=O o/\o.cls=.type "tuple" /\ o.data=.seq its n/\its.size<=J6/\Vals ((["times", "asks", "prices"]:List Str).map V.str) its.toList
 x_DealError:CK K mg "DealError"
 x_NoAim:CK K mg "NoAim"
 x_NoBook:CK K mg "NoBook"
 x_NoChange:CK K mg "NoChange"
 x_NoDeed:CK K mg "NoDeed"
 x_NoJoin:CK K mg "NoJoin"
 x_NoName:CK K mg "NoName"
 x_NoNumbering:CK K mg "NoNumbering"
 x_NoPlace:CK K mg "NoPlace"
 x_NoRow:CK K mg "NoRow"
 x_NoText:CK K mg "NoText"
 x_NoWay:CK K mg "NoWay"
 x_NoWishes:CK K mg "NoWishes"
 x_TooMany:CK K mg "TooMany"
noncomputable abbrev Sam:Stmt:=top 33
noncomputable abbrev N_am:List Str:=["_law_error", "_law_kinds"]
theorem Ham:NmF Sam N_am:=Kz (by decide +kernel)
noncomputable def g_am:SM:=
 Uv (KH 1 (UB (Uw (UB (Uq 0) λd=>Uz (Kt "NoWishes" d)) (Uw (UB (Uq 0) λd=>Uz (Kt "NoAim" d)) (Ut))) λxs=>if xs.length<=1000000 then Us xs else λ_=>.bad))
 (Uv (UF 1 (Uu UC (Uq 1) (UL (Uw (UB (Uq 0) λd=>Uz (Kt "NoText" d)) (Uw (UB (Uq 0) λd=>Uz (Kt "NoWay" d)) (Ut))))))
 (Uv (UF 1 (Uu UC (Uq 1) (UL (Uw (UB (Uq 0) λd=>Uz (Kt "NoPlace" d)) (Uw (UB (Uq 0) λd=>Uz (Kt "NoChange" d)) (Ut))))))
 (Uv (UF 1 (Uu UC (Uq 1) (UL (Uw (UB (Uq 0) λd=>Uz (Kt "NoNumbering" d)) (Uw (UB (Uq 0) λd=>Uz (Kt "NoJoin" d)) (Ut))))))
 (Uv (UF 1 (Uu UC (Uq 1) (UL (Uw (UB (Uq 0) λd=>Uz (Kt "NoBook" d)) (Uw (UB (Uq 0) λd=>Uz (Kt "NoDeed" d)) (Ut))))))
 (Uv (UF 1 (Uu UC (Uq 1) (UL (Uw (UB (Uq 0) λd=>Uz (Kt "NoRow" d)) (Uw (UB (Uq 0) λd=>Uz (Kt "NoName" d)) (Ut))))))
 (Uv (UF 1 (Uu UC (Uq 1) (UL (Uw (UB (Uq 0) λd=>Uz (Kt "TooMany" d)) (Ut)))))
 (Uv (sIf (mOr (U2 (Kx (UB (Uq 0) λd=>Uz (Kt "DealError" d)))) (U2 (Kx (UB (Uq 0) λd=>Uz (X1 d)))))
 (UE (Us .none))
 (sNx))
 (UE (UJ Uc (Sb (Xf (Uw (Us (.int 13)) (Ut))) 1 (gN 2) (Kx (UM 1 (Uq 2))) (Uq 2)))))))))))
noncomputable def Yp:Cy->CA:=UX N_am g_am
noncomputable abbrev Sad:Stmt:=top 23
noncomputable abbrev N_ad:List Str:=["text"]
theorem Had:NmF Sad N_ad:=Kz (by decide +kernel)
noncomputable def YV:SM:=
 Uv (sIf (U2 (Kx (UJ (λd=>.bool (UQ d "str")) (Uq 0))))
 (XG)
 (sNx))
 (UE (Z9 (Uq 0) (Uw (Us (.str "\n")) (Ut))))
noncomputable def ZJ:Cy->CA:=UX N_ad YV
noncomputable abbrev Sai:Stmt:=top 28
noncomputable abbrev N_ai:List Str:=["number", "numbers"]
theorem Hai:NmF Sai N_ai:=Kz (by decide +kernel)
noncomputable def Wc:SM:=
 Uv (sIf (Kg oEq 0 (Us (.int 0)))
 (UE (Xg (UJ Ud (Uu oEq (Ku 1) (Us (.int 1)))) (UJ Ud (Uu (oIB λi j=>decide (j<=i)) (UM 1 (Us (.int 0))) (Us (.int 1))))))
 (sNx))
 (UE (UJ Ud (Uu (oIB λi j=>decide (j<=i)) (Ku 1) (Us (.int 1)))))
noncomputable def Z2:Cy->CA:=UX N_ai Wc
noncomputable abbrev Sab:Stmt:=top 19
noncomputable abbrev N_ab:List Str:=["thing", "figures"]
theorem Hab:NmF Sab N_ab:=Kz (by decide +kernel)
noncomputable def Wh:SM:=
 Uv (sIf (U2 (Kx (UJ (λd=>.bool (UQ d "str")) (Uq 0))))
 (UE (Us (.bool Cw)))
 (sNx))
 (Uv (UF 1 (WA (λz y=>if z.length<=1000000 then O (.str (Txt.removeprefix z y))else Cu) (Uq 0) (Uw (Us (.str "-")) (Ut))))
 (Uv (sIf (U2 (V5 (oIB λi j=>decide (i<=j)) (oIB λi j=>decide (i<=j)) (Us (.int 1)) (Ku 1) (Us (.int 60))))
 (UE (Us (.bool Cw)))
 (sNx))
 (Uv (sIf (U2 (Kx (KI K4 (Uw (UJ Uc (KO (KQ (Uq 1)) 1 (gN 2) (Us Cv) (UJ Ud (Kg oIn 2 (Us (.str "0123456789")))))) (Ut)))))
 (UE (Us (.bool Cw)))
 (sNx))
 (UE (YQ (UJ Ud (Uu oNe (UM 1 (Us (.int 0))) (Us (.str "0")))) (UJ Ud (Kg oEq 0 (Us (.str "0")))))))))
noncomputable def Z3:Cy->CA:=UX N_ab Wh
noncomputable abbrev Sac:Stmt:=top 20
noncomputable abbrev N_ac:List Str:=["text"]
theorem Hac:NmF Sac N_ac:=Kz (by decide +kernel)
noncomputable def Wg:SM:=
 Uv (sIf (U2 (Kx (UG 1 Z3 (Uw (Uq 0) (Ut)))))
 (XG)
 (sNx))
 (UE (KI W4 (Uw (Uq 0) (Ut))))
noncomputable def Zz:Cy->CA:=UX N_ac Wg
noncomputable abbrev Sag:Stmt:=top 26
noncomputable abbrev N_ag:List Str:=["text"]
theorem Hag:NmF Sag N_ag:=Kz (by decide +kernel)
noncomputable def Wd:SM:=
 UE (Xg (UG 1 Z3 (Uw (Uq 0) (Ut))) (W0 (WA (λz y=>O (.bool (Txt.startswith z y))) (Uq 0) (Uw (Us (.str "-")) (Ut)))))
noncomputable def K8:Cy->CA:=UX N_ag Wd
noncomputable abbrev Sah:Stmt:=top 27
noncomputable abbrev N_ah:List Str:=["word", "row", "words"]
theorem Hah:NmF Sah N_ah:=Kz (by decide +kernel)
noncomputable def YU:SM:=
 Uv (UF 2 (Z9 (Uq 1) (Uw (Us (.str " ")) (Ut))))
 (Uv (sIf (mOr (Uu oNe (UM 2 (Us (.int 0))) (Uq 0)) (U2 (Kx (KI K4 (Uw (UJ Uc (KO (KQ (UU (Uq 2) (UB (Us (.int 1)) λx=>Uz (Kq x)) (Us Cu))) 1 (gN 3) (Us Cv) (UG 1 K8 (Uw (Uq 3) (Ut))))) (Ut))))))
 (UE (UL (Ut)))
 (sNx))
 (UE (UJ Uc (KO (KQ (UU (Uq 2) (UB (Us (.int 1)) λx=>Uz (Kq x)) (Us Cu))) 1 (gN 3) (Us Cv) (UG 1 Zz (Uw (Uq 3) (Ut)))))))
noncomputable def Y7:Cy->CA:=UX N_ah YU
noncomputable abbrev O2:Stmt:=top 23
noncomputable abbrev O1:List Str:=["text"]
theorem Ni:NmF O2 O1:=Kz (by decide +kernel)
noncomputable def Rj:SM:=
 Uv (sIf (U2 (Kx (UJ (λd=>.bool (UQ d "str")) (Uq 0))))
 (XI "NoText" (Uw (Us (.int 0)) (Ut)))
 (sNx))
 (UE (Z9 (Uq 0) (Uw (Us (.str "\n")) (Ut))))
noncomputable def TL:Cy->Option XR:=ZX O1 Rj
noncomputable abbrev Nu:Stmt:=top 29
noncomputable abbrev Nt:List Str:=["text", "told", "number", "row", "numbers", "times", "asks", "prices"]
theorem Nn:NmF Nu Nt:=Kz (by decide +kernel)
noncomputable def NE:SM:=
 Uv (sIf (Kg oEq 2 (KI Kd (Uw (Us (.tuple ((["times", "asks", "prices"]:List Str).map Ue))) (Ut))))
 (XI "NoText" (Uw (Uq 2) (Ut)))
 (sNx))
 (Uv (UF 4 (UG 2 Y7 (Uw (Uu oIx (Us (.tuple ((["times", "asks", "prices"]:List Str).map Ue))) (Uq 2)) (Uw (Uq 3) (Ut)))))
 (Uv (sIf (U2 (Kx (UG 2 Z2 (Uw (Uq 2) (Uw (Uq 4) (Ut))))))
 (XI "NoText" (Uw (Uq 2) (Ut)))
 (sNx))
 (KR 1 (Uq 4))))
noncomputable def TR:SM:=
 Uv (KH 1 (UB (Ut) λxs=>if xs.length<=1000000 then Us xs else λ_=>.bad))
 (Uv (sOr (Kv (Xe (Uw (UG 1 ZJ (Uw (Uq 0) (Ut))) (Ut))) (gT 2 (gNC (gN 2) (gNC (gN 3) (gN0)))) NE) (sX (mNV (WB 1 TL (Uw (Uq 0) (Ut)))) λ_ _=>.bad))
 (Uv (sIf (Uu (oIB λi j=>decide (i<j)) (Ku 1) (KI Kd (Uw (Us (.tuple ((["times", "asks", "prices"]:List Str).map Ue))) (Ut))))
 (XI "NoText" (Uw (Ku 1) (Ut)))
 (sNx))
 (Uv (Zi (Uq 1) (gL 3 (gNC (gN 5) (gNC (gN 6) (gNC (gN 7) (gN0))))))
 (UE (KT (Uw (UM 5 (Us (.int 0))) (Uw (Uq 6) (Uw (Uq 7) (Ut)))))))))
noncomputable def WV:Cy->Option XR:=ZX Nt TR
noncomputable abbrev Sau:Stmt:=top 41
noncomputable abbrev N_au:List Str:=["_law_thing", "_law_kept", "_law_found", "e"]
theorem Hau:NmF Sau N_au:=Kz (by decide +kernel)
noncomputable def YS:SM:=
 Uv (UF 1 (Us .none))
 (Uv (UF 2 (Us .none))
 (Uv (Zt 3 "DealError" (sX (WB 1 WV (Uw (Uq 0) (Ut))) λd ρ=>match gN 2 d ρ with|some ρ'=>.nx ρ'|none=>.bad) (UF 1 (Uq 3)))
 (Uv (sIf (UJ isNon (Uq 1))
 (UE (Uq 2))
 (sNx))
 (Uv (sIf (Uu oNe (UG 1 Yp (Uw (Uq 1) (Ut))) (UL (Uw (Us (.int 2)) (Ut))))
 (UE (Us (.str "other")))
 (sNx))
 (UE (UB (Uq 1) λd=>Uz (X2 "row" d)))))))
noncomputable def K5:Cy->CA:=UX N_au YS
noncomputable abbrev San:Stmt:=top 34
noncomputable abbrev N_an:List Str:=["_law_found", "_law_due"]
theorem Han:NmF San N_an:=Kz (by decide +kernel)
noncomputable def YT(K6:Cy->CA):SM:=
 Uv (sIf (Kx (WX (Uq 1)))
 (Uv (sIf (mOr (U2 (Kx (WX (Uq 0)))) (Uu oNe (UJ (λd=>.bool (UQ d "list")) (Uq 0)) (UJ (λd=>.bool (UQ d "list")) (Uq 1))))
 (UE (Us (.bool Cw)))
 (sNx))
 (Uv (sIf (Uu oNe (Ku 0) (Ku 1))
 (UE (Us (.bool Cw)))
 (sNx))
 (UE (UJ Ud (Uu oEq (UJ Uc (KO (Xf (Uw (Ku 1) (Ut))) 1 (gN 2) (U2 (Kx (UG 2 K6 (Uw (UM 0 (Uq 2)) (Uw (UM 1 (Uq 2)) (Ut)))))) (Uq 2))) (UL (Ut)))))))
 (sNx))
 (Uv (sIf (UJ isNon (Uq 1))
 (UE (UJ (λd=>.bool (isNon d)) (Uq 0)))
 (sNx))
 (Uv (sIf (Kx (UJ (λd=>.bool (UQ d "str")) (Uq 1)))
 (UE (Xg (UJ (λd=>.bool (UQ d "str")) (Uq 0)) (UJ Ud (Kg oEq 0 (Uq 1)))))
 (sNx))
 (UE (Xg (UJ (λd=>.bool (UQ d "int")) (Uq 0)) (Xg (W0 (UJ (λd=>.bool (UQ d "bool")) (Uq 0))) (UJ Ud (Kg oEq 0 (Uq 1))))))))
noncomputable def Zm(F:Cy->CA):Cy->CA:=UX N_an (YT F)
noncomputable def K6:Cy->CA:=Zm (Zm (Zm (Zm (Zm (Zm (Zm ((λ_=>Cu))))))))
noncomputable abbrev Sak:Stmt:=top 31
noncomputable abbrev N_ak:List Str:=["_law_cell", "_law_salt", "_law_sizes", "_law_number_here", "_law_left", "_law_found", "_law_k", "_law_one"]
theorem Hak:NmF Sak N_ak:=Kz (by decide +kernel)
noncomputable def Sv:SM:=
 sIf (Zj (Kg (oIB λi j=>decide (j<=i)) 3 (Uu Zw (Us (.int 10)) (Us (.int 18)))) (Kg (oIB λi j=>decide (j<i)) 4 (Us (.int 0))))
 (Uv (KR 5 (Uu Kc (Uq 4) (UM 2 (Uq 6))))
 (UF 4 (Uu ZZ (Uq 4) (UM 2 (Uq 6)))))
 (Uv (UF 7 (Uu Kc (Uu UC (Uu UC (Uu UC (Uq 3) (Uu U7 (Us (.int 7919)) (Uq 1))) (Uu U7 (Uu U7 (Us (.int 101)) (Uq 6)) (Uq 6))) (Uq 6)) (Us (.int 2147483647))))
 (Uv (UF 7 (Uu Kc (Uu U7 (Uq 7) (Us (.int 48271))) (Us (.int 2147483647))))
 (Uv (UF 7 (Uu Kc (Uu U7 (Uu Kc (Uu U7 (Uq 7) (Uq 7)) (Us (.int 2147483629))) (Us (.int 48271))) (Us (.int 2147483647))))
 (KR 5 (Uu Kc (Uu ZZ (Uq 7) (Us (.int 16))) (UM 2 (Uq 6)))))))
noncomputable def Wb:SM:=
 Uv (UF 3 (KI WZ (Uw (Uq 0) (Uw (Uu X0 (Z0 (Us (.int 1))) (Uq 0)) (Ut)))))
 (Uv (UF 4 (Uq 3))
 (Uv (KH 5 (UB (Ut) λxs=>if xs.length<=1000000 then Us xs else λ_=>.bad))
 (Uv (Kv (Xf (Uw (Ku 2) (Ut))) (gN 6) Sv)
 (UE (Uq 5)))))
noncomputable def K7:Cy->CA:=UX N_ak Wb
noncomputable abbrev Sar:Stmt:=top 38
noncomputable abbrev N_ar:List Str:=["_law_word", "_law_number_here", "_law_sign_here"]
theorem Har:NmF Sar N_ar:=Kz (by decide +kernel)
noncomputable def Pt:SM:=
 Uv (sIf (Kg oNin 2 (Us (.str "0123456789")))
 (UE (Us .none))
 (sNx))
 (UF 1 (Uu UC (Uu U7 (Uq 1) (Us (.int 10))) (WA (λz y=>O (.int (Txt.find z y))) (Us (.str "0123456789")) (Uw (Uq 2) (Ut)))))
noncomputable def X6:SM:=
 Uv (sIf (mOr (Uu (oIB λi j=>decide (i<j)) (Ku 0) (Us (.int 1))) (mOr (Uu (oIB λi j=>decide (j<i)) (Ku 0) (Us (.int 60))) (Zj (Uu oEq (UM 0 (Us (.int 0))) (Us (.str "0"))) (Kg oNe 0 (Us (.str "0"))))))
 (UE (Us .none))
 (sNx))
 (Uv (UF 1 (Us (.int 0)))
 (Uv (Kv (KQ (Uq 0)) (gN 2) Pt)
 (UE (Uq 1))))
noncomputable def Yn:Cy->CA:=UX N_ar X6
noncomputable abbrev Sas:Stmt:=top 39
noncomputable abbrev N_as:List Str:=["_law_text", "_law_rows", "_law_told_here", "_law_k", "_law_words", "_law_numbers_here"]
theorem Has:NmF Sas N_as:=Kz (by decide +kernel)
noncomputable def Ps:SM:=
 Uv (sIf (Kg oEq 3 (Ku 1))
 (UE (Uq 3))
 (sNx))
 (Uv (UF 4 (Z9 (UM 1 (Uq 3)) (Uw (Us (.str " ")) (Ut))))
 (Uv (KH 5 (KO (KQ (UU (Uq 4) (UB (Us (.int 1)) λx=>Uz (Kq x)) (Us Cu))) 1 (gN 6) (Us Cv) (UG 1 Yn (Uw (Uq 6) (Ut)))))
 (Uv (sIf (mOr (Uu oNe (UM 4 (Us (.int 0))) (Uu oIx (UL (Uw (Us (.str "times")) (Uw (Us (.str "asks")) (Uw (Us (.str "prices")) (Ut))))) (Uq 3))) (mOr (Kg oEq 5 (UL (Ut))) (Wn oIn (Us .none) 5)))
 (UE (Uq 3))
 (sNx))
 (Uv (sIf (Zj (Kg oEq 3 (Us (.int 0))) (mOr (Uu (oIB λi j=>decide (j<i)) (Ku 5) (Us (.int 1))) (Uu oEq (UM 5 (Us (.int 0))) (Us (.int 0)))))
 (UE (Uq 3))
 (sNx))
 (KR 2 (Uq 5))))))
noncomputable def X5:SM:=
 Uv (UF 1 (Z9 (Uq 0) (Uw (Us (.str "\n")) (Ut))))
 (Uv (KH 2 (UB (Ut) λxs=>if xs.length<=1000000 then Us xs else λ_=>.bad))
 (Uv (Kv (Xf (Uw (Us (.int 3)) (Ut))) (gN 3) Ps)
 (Uv (sIf (Uu (oIB λi j=>decide (j<i)) (Ku 1) (Us (.int 3)))
 (UE (Us (.int 3)))
 (sNx))
 (UE (KT (Uw (Uu oIx (UM 2 (Us (.int 0))) (Us (.int 0))) (Uw (UM 2 (Us (.int 1))) (Uw (UM 2 (Us (.int 2))) (Ut)))))))))
noncomputable def Y3:Cy->CA:=UX N_as X5
noncomputable abbrev Sat:Stmt:=top 40
noncomputable abbrev N_at:List Str:=["_law_some"]
theorem Hat:NmF Sat N_at:=Kz (by decide +kernel)
noncomputable def g_at:SM:=
 Uv (KH 0 (UB (Uw (Us (.str "")) (Uw (Us (.str "times 0")) (Uw (Us (.str "times 1")) (Uw (Us (.str "times 1 1")) (Uw (Us (.str "times")) (Uw (Us (.str "times -1")) (Uw (Us (.str "times 01")) (Uw (Us (.str "asks")) (Ut))))))))) λxs=>if xs.length<=1000000 then Us xs else λ_=>.bad))
 (Uv (UF 0 (Uu UC (Uq 0) (UL (Uw (Us (.str "asks 0")) (Uw (Us (.str "asks -1")) (Uw (Us (.str "asks 1  1")) (Uw (Us (.str "prices")) (Uw (Us (.str "prices 0 0")) (Uw (Us (.str "prices 1 ")) (Ut))))))))))
 (Uv (UF 0 (Uu UC (Uq 0) (UL (Uw (Us (.str " prices 1")) (Uw (Uu UC (Us (.str "prices ")) (Uu W1 (Us (.str "9")) (Us (.int 61)))) (Ut))))))
 (Uv (UF 0 (Uu UC (Uq 0) (UL (Uw (Uu UC (Us (.str "asks ")) (Uu W1 (Us (.str "9")) (Us (.int 60)))) (Uw (Us (.str "time 1")) (Ut))))))
 (UE (Uu UC (Uq 0) (UL (Uw (Uu UC (Us (.str "times ")) (Uu W1 (Us (.str "1")) (Us (.int 60)))) (Uw (Us (.str "prices 1,2")) (Uw (Us (.str "asks +1")) (Uw (Us (.str "asks 1.0")) (Uw (Us (.str "prices\t1")) (Uw (Us (.str "asks -0")) (Ut)))))))))))))
noncomputable def Y2:Cy->CA:=UX N_at g_at
noncomputable abbrev Sal:Stmt:=top 32
noncomputable abbrev N_al:List Str:=["_law_digit", "_law_some"]
theorem Hal:NmF Sal N_al:=Kz (by decide +kernel)
noncomputable def Wa:SM:=
 Uv (UF 1 (Us (.str " !\"#$&'()*+,-./0123456789:;<=>?@ABCDEFGHIJKLMNOPQRSTUVWXYZ[\\]^_`")))
 (Uv (UF 1 (Uu UC (Uq 1) (Us (.str "abcdefghijklmnopqrstuvwxyz{|}~\n\t"))))
 (UE (UM 1 (Uu Kc (Uq 0) (Us (.int 96))))))
noncomputable def Y6:Cy->CA:=UX N_al Wa
noncomputable abbrev Sao:Stmt:=top 35
noncomputable abbrev N_ao:List Str:=["_law_text", "_law_cell", "_law_salt", "_law_menu", "_law_way", "_law_at", "_law_digit", "_law_row", "_law_other", "_law_pick", "_law_rows", "_law_spot", "_law_sign_here"]
theorem Hao:NmF Sao N_ao:=Kz (by decide +kernel)
noncomputable def X9:SM:=
 Uv (Zi (UG 3 K7 (Uw (Uq 1) (Uw (Uq 2) (Uw (UL (Uw (Us (.int 13)) (Uw (Uu Zw (Us (.int 10)) (Us (.int 6))) (Uw (Us (.int 96)) (Uw (Us (.int 64)) (Uw (Us (.int 64)) (Uw (Us (.int 64)) (Ut)))))))) (Ut))))) (gL 6 (gNC (gN 4) (gNC (gN 5) (gNC (gN 6) (gNC (gN 7) (gNC (gN 8) (gNC (gN 9) (gN0)))))))))
 (Uv (UF 10 (Z9 (Uq 0) (Uw (Us (.str "\n")) (Ut))))
 (Uv (UF 7 (Uu Kc (Uq 7) (Ku 10)))
 (Uv (UF 11 (Uu Kc (Uq 8) (Uu UC (Ku 10) (Us (.int 1)))))
 (Uv (UF 5 (Uu Kc (Uq 5) (Uu UC (Ku 0) (Us (.int 1)))))
 (Uv (UF 12 (Uu oIx (UL (Uw (UG 1 Y6 (Uw (Uq 6) (Ut))) (Uw (Uu oIx (Us (.str " =-0189azq\n")) (Uu Kc (Uq 6) (Us (.int 11)))) (Ut)))) (Uu Kc (Uq 9) (Us (.int 2)))))
 (Uv (sIf (Kg (oIB λi j=>decide (i<j)) 4 (Us (.int 3)))
 (UE (Uu UC (Uu UC (UU (Uq 0) (Us Cu) (UB (Uq 5) λx=>Uz (Kq x))) (Uu oIx (UL (Uw (Uq 12) (Uw (Uq 12) (Uw (Us (.str "")) (Ut))))) (Uq 4))) (UU (Uq 0) (UB (Uu UC (Uq 5) (Uu oIx (UL (Uw (Us (.int 0)) (Uw (Us (.int 1)) (Uw (Us (.int 1)) (Ut))))) (Uq 4))) λx=>Uz (Kq x)) (Us Cu))))
 (sNx))
 (Uv (sIf (Kg oEq 4 (Us (.int 3)))
 (UE (UU (Uq 0) (Us Cu) (UB (Uq 5) λx=>Uz (Kq x))))
 (sNx))
 (Uv (sIf (Kg oEq 4 (Us (.int 4)))
 (UE (UU (Uq 0) (UB (Uq 5) λx=>Uz (Kq x)) (Us Cu)))
 (sNx))
 (Uv (sIf (Kg oEq 4 (Us (.int 5)))
 (UF 10 (Uu UC (Uu UC (UU (Uq 10) (Us Cu) (UB (Uq 11) λx=>Uz (Kq x))) (UL (Uw (UM 10 (Uq 7)) (Ut)))) (UU (Uq 10) (UB (Uq 11) λx=>Uz (Kq x)) (Us Cu))))
 (sNx))
 (Uv (sIf (Kg oEq 4 (Us (.int 6)))
 (UF 10 (Uu UC (UU (Uq 10) (Us Cu) (UB (Uq 7) λx=>Uz (Kq x))) (UU (Uq 10) (UB (Uu UC (Uq 7) (Us (.int 1))) λx=>Uz (Kq x)) (Us Cu))))
 (sNx))
 (Uv (sIf (Kg oEq 4 (Us (.int 7)))
 (UF 10 (Uu UC (Uu UC (UU (Uq 10) (Us Cu) (UB (Uq 11) λx=>Uz (Kq x))) (UL (Uw (UM 3 (Uu Kc (Uq 9) (Ku 3))) (Ut)))) (UU (Uq 10) (UB (Uq 11) λx=>Uz (Kq x)) (Us Cu))))
 (sNx))
 (Uv (sIf (Kg oEq 4 (Us (.int 8)))
 (UF 10 (Uu UC (Uu UC (UU (Uq 10) (Us Cu) (UB (Uq 7) λx=>Uz (Kq x))) (UL (Uw (UM 3 (Uu Kc (Uq 9) (Ku 3))) (Ut)))) (UU (Uq 10) (UB (Uu UC (Uq 7) (Us (.int 1))) λx=>Uz (Kq x)) (Us Cu))))
 (sNx))
 (Uv (sIf (Kg oEq 4 (Us (.int 9)))
 (UF 10 (Uu UC (UU (Uq 10) (UB (Uq 7) λx=>Uz (Kq x)) (Us Cu)) (UU (Uq 10) (Us Cu) (UB (Uq 7) λx=>Uz (Kq x)))))
 (sNx))
 (Uv (sIf (Kg oEq 4 (Us (.int 10)))
 (UF 10 (Y0 (Uq 10) (Us Cu) (Us Cu) (UB (Z0 (Us (.int 1))) λx=>Uz (Kq x))))
 (sNx))
 (Uv (sIf (Kg oEq 4 (Us (.int 11)))
 (UF 10 (Uu UC (Uq 10) (UL (Uw (UM 3 (Uu Kc (Uq 9) (Ku 3))) (Ut)))))
 (sNx))
 (UE (Yc (Us (.str "\n")) (Uw (Uq 10) (Ut)))))))))))))))))))
noncomputable def Y5:Cy->CA:=UX N_ao X9
noncomputable abbrev Sap:Stmt:=top 36
noncomputable abbrev N_ap:List Str:=["_law_cell", "_law_salt", "_law_digits", "_law_numbers_here", "_law_k", "_law_way", "_law_low", "_law_far"]
theorem Hap:NmF Sap N_ap:=Kz (by decide +kernel)
noncomputable def Pr:SM:=
 Uv (Zi (UU (Uq 2) (UB (Uu UC (Us (.int 2)) (Uu U7 (Us (.int 3)) (Uq 4))) λx=>Uz (Kq x)) (UB (Uu UC (Us (.int 5)) (Uu U7 (Us (.int 3)) (Uq 4))) λx=>Uz (Kq x))) (gL 3 (gNC (gN 5) (gNC (gN 6) (gNC (gN 7) (gN0))))))
 (KR 3 (Uu oIx (UL (Uw (Us (.int 0)) (Uw (Uq 6) (Uw (Uq 7) (Uw (Uu UC (Uu U7 (Uq 7) (Uu Zw (Us (.int 10)) (Us (.int 42)))) (Uq 6)) (Ut)))))) (Uq 5)))
noncomputable def X8:SM:=
 Uv (UF 2 (UG 3 K7 (Uw (Uq 0) (Uw (Uq 1) (Uw (Uu UC (UL (Uw (Us (.int 7)) (Uw (Us (.int 6)) (Ut)))) (Uu U7 (UL (Uw (Us (.int 4)) (Uw (Us (.int 10)) (Uw (Uu Zw (Us (.int 10)) (Us (.int 18))) (Ut))))) (Us (.int 14)))) (Ut))))))
 (Uv (KH 3 (UB (Ut) λxs=>if xs.length<=1000000 then Us xs else λ_=>.bad))
 (Uv (Kv (Xf (Uw (Us (.int 14)) (Ut))) (gN 4) Pr)
 (UE (KT (Uw (KI WZ (Uw (Us (.int 1)) (Uw (UM 3 (Us (.int 0))) (Ut)))) (Uw (UU (Uq 3) (UB (Us (.int 1)) λx=>Uz (Kq x)) (UB (Uu UC (Us (.int 2)) (UM 2 (Us (.int 0)))) λx=>Uz (Kq x))) (Uw (UU (Uq 3) (UB (Us (.int 8)) λx=>Uz (Kq x)) (UB (Uu UC (Us (.int 9)) (UM 2 (Us (.int 1)))) λx=>Uz (Kq x))) (Ut))))))))
noncomputable def Yo:Cy->CA:=UX N_ap X8
noncomputable abbrev Saq:Stmt:=top 37
noncomputable abbrev N_aq:List Str:=["_law_paper_here", "_law_rows", "_law_word", "_law_numbers_here"]
theorem Haq:NmF Saq N_aq:=Kz (by decide +kernel)
noncomputable def Su:SM:=
 KR 1 (Yc (Us (.str " ")) (Uw (Uu UC (UL (Uw (Uq 2) (Ut))) (UJ Uc (KO (KQ (Uq 3)) 1 (gN 4) (Us Cv) (KI Yd (Uw (Uq 4) (Ut)))))) (Ut)))
noncomputable def X7:SM:=
 Uv (KH 1 (UB (Uw (Uu UC (Us (.str "times ")) (KI Yd (Uw (UM 0 (Us (.int 0))) (Ut)))) (Ut)) λxs=>if xs.length<=1000000 then Us xs else λ_=>.bad))
 (Uv (Kv (KQ (UL (Uw (KT (Uw (Us (.str "asks")) (Uw (UM 0 (Us (.int 1))) (Ut)))) (Uw (KT (Uw (Us (.str "prices")) (Uw (UM 0 (Us (.int 2))) (Ut)))) (Ut))))) (gT 2 (gNC (gN 2) (gNC (gN 3) (gN0)))) Su)
 (UE (Yc (Us (.str "\n")) (Uw (Uq 1) (Ut)))))
noncomputable def Y4:Cy->CA:=UX N_aq X7
noncomputable abbrev Saa:Stmt:=top 18
noncomputable abbrev N_aa:List Str:=["number"]
theorem Haa:NmF Saa N_aa:=Kz (by decide +kernel)
noncomputable def Wi:SM:=
 UE (KI Yd (Uw (Uq 0) (Ut)))
noncomputable def Yq:Cy->CA:=UX N_aa Wi
noncomputable abbrev Sae:Stmt:=top 24
noncomputable abbrev N_ae:List Str:=["word", "numbers"]
theorem Hae:NmF Sae N_ae:=Kz (by decide +kernel)
noncomputable def Wf:SM:=
 UE (Yc (Us (.str " ")) (Uw (Uu UC (UL (Uw (Uq 0) (Ut))) (UJ Uc (KO (KQ (Uq 1)) 1 (gN 2) (Us Cv) (UG 1 Yq (Uw (Uq 2) (Ut)))))) (Ut)))
noncomputable def Y9:Cy->CA:=UX N_ae Wf
noncomputable abbrev Saf:Stmt:=top 25
noncomputable abbrev N_af:List Str:=["paper", "times", "asks", "prices"]
theorem Haf:NmF Saf N_af:=Kz (by decide +kernel)
noncomputable def We:SM:=
 Uv (Zi (Uq 0) (gT 3 (gNC (gN 1) (gNC (gN 2) (gNC (gN 3) (gN0))))))
 (UE (Yc (Us (.str "\n")) (Uw (UJ Uc (KO (VC (Uw (Us (.tuple ((["times", "asks", "prices"]:List Str).map Ue))) (Uw (UL (Uw (UL (Uw (Uq 1) (Ut))) (Uw (Uq 2) (Uw (Uq 3) (Ut))))) (Ut)))) 2 (gT 2 (gNC (gN 4) (gNC (gN 5) (gN0)))) (Us Cv) (UG 2 Y9 (Uw (Uq 4) (Uw (Uq 5) (Ut)))))) (Ut))))
noncomputable def Y8:Cy->CA:=UX N_af We
noncomputable abbrev NF:Stmt:=top 27
noncomputable abbrev No:List Str:=["word", "row", "words"]
theorem NC:NmF NF No:=Kz (by decide +kernel)
noncomputable def XU:SM:=
 Uv (UF 2 (Z9 (Uq 1) (Uw (Us (.str " ")) (Ut))))
 (Uv (sIf (mOr (Uu oNe (UM 2 (Us (.int 0))) (Uq 0)) (U2 (Kx (KI K4 (Uw (UJ Uc (KO (KQ (UU (Uq 2) (UB (Us (.int 1)) λx=>Uz (Kq x)) (Us Cu))) 1 (gN 3) (Us Cv) (UG 1 K8 (Uw (Uq 3) (Ut))))) (Ut))))))
 (Wz (UB (Ut) λxs=>if xs.length<=1000000 then Us xs else λ_=>.bad))
 (sNx))
 (sNx))
noncomputable def Co:M Cy:=
 KO (KQ (UU (Uq 2) (UB (Us (.int 1)) λx=>Uz (Kq x)) (Us Cu))) 1 (gN 3) (Us Cv) (UG 1 Zz (Uw (Uq 3) (Ut)))
noncomputable def TV:Cy->Option Cy:=ZH No XU Co
noncomputable abbrev Nr:Stmt:=top 29
noncomputable abbrev Nq:List Str:=["text", "told", "number", "row", "numbers", "times", "asks", "prices"]
theorem Km:FnNm (U6 Nr) Nq ["len", "PAPER_WORDS", "rows_of", "enumerate", "is_paper_row", "read_numbers"]:=Kz (by decide +kernel)
noncomputable def NB:SM:=
 Uv (sIf (Kg oEq 2 (KI Kd (Uw (Us (.tuple ((["times", "asks", "prices"]:List Str).map Ue))) (Ut))))
 (XG)
 (sNx))
 (Uv (KH 4 (W3 2 TV (Uw (Uu oIx (Us (.tuple ((["times", "asks", "prices"]:List Str).map Ue))) (Uq 2)) (Uw (Uq 3) (Ut)))))
 (Uv (sIf (Xc (U2 (Kx (UG 2 Z2 (Uw (Uq 2) (Uw (Uq 4) (Ut)))))))
 (XG)
 (sNx))
 (Wx 1 4)))
noncomputable def Rk:SM:=
 Uv (Xb 1 (.lst (.lst .leaf)) (Us (.list [])))
 (Uv (Kv (Xe (Uw (UG 1 ZJ (Uw (Uq 0) (Ut))) (Ut))) (gT 2 (gNC (gN 2) (gNC (gN 3) (gN0)))) NB)
 (Uv (sIf (Xc (Uu (oIB λi j=>decide (i<j)) (Ku 1) (KI Kd (Uw (Us (.tuple ((["times", "asks", "prices"]:List Str).map Ue))) (Ut)))))
 (XG)
 (sNx))
 (Uv (WE 5 6 7 (Ww 1 (.lst (.lst .leaf))))
 (sNx))))
noncomputable def Cf:M D:=
 Vd (UM 5 (Us (.int 0))) 6 7
noncomputable def TQ:Cy->CA:=Xr Nq Rk Cf
noncomputable abbrev Nx:Stmt:=top 41
noncomputable abbrev Nw:List Str:=["_law_thing", "_law_kept", "_law_found", "e"]
theorem Np:NmF Nx Nw:=Kz (by decide +kernel)
noncomputable def Rb:SM:=
 Uv (UF 1 (Us .none))
 (Uv (UF 2 (Us .none))
 (Uv (Zt 3 "DealError" (Xb 2 (.tup [.leaf,.lst .leaf,.lst .leaf]) (UG 1 TQ (Uw (Uq 0) (Ut)))) (XG))
 (sIf (UJ isNon (Uq 1)) sNx λ_=>.bad)))
noncomputable def D8:M D:=
 Ww 2 (.tup [.leaf,.lst .leaf,.lst .leaf])
noncomputable def Vu:Cy->CA:=Xr Nw Rb D8
noncomputable abbrev Sav:Stmt:=top 42
noncomputable abbrev Wk:List Str:=["_law_script", "_law_at", "_law_cell", "_law_paper_here", "_law_text", "_law_found", "_law_bent", "_law_lows", "_law_other", "_law_one", "_law_kind", "_law_things"]
theorem Hav:FnNm (U6 Sav) Wk ["enumerate", "_law_told", "_law_same", "_law_numbers", "_law_paper_read", "_law_paper_menu", "_law_bent_text", "_law_paper", "isinstance", "str", "_law_paper_text", "show_paper"]:=Kz (by decide +kernel)
noncomputable def Pq:SM:=
 sIf (U2 (Kx (UG 2 K6 (Uw (UG 1 K5 (Uw (Uq 9) (Ut))) (Uw (UG 1 Y3 (Uw (Uq 9) (Ut))) (Ut))))))
 (UE (Us (.bool Cw)))
 (sNx)
noncomputable def Pp:SM:=
 Uv (UF 3 (UG 2 Yo (Uw (Uq 2) (Uw (Uu UC (Us (.int 2600)) (Uq 1)) (Ut)))))
 (Uv (UF 4 (UG 1 Y8 (Uw (Uq 3) (Ut))))
 (Uv (sIf (mOr (U2 (Kx (UJ (λd=>.bool (UQ d "str")) (Uq 4)))) (Kg oNe 4 (UG 1 Y4 (Uw (Uq 3) (Ut)))))
 (UE (Us (.bool Cw)))
 (sNx))
 (Uv (sIf (Kg oNe 3 (UG 2 Yo (Uw (Uq 2) (Uw (Uu UC (Us (.int 2600)) (Uq 1)) (Ut)))))
 (UE (Us (.bool Cw)))
 (sNx))
 (Uv (Xb 5 (.tup [.leaf,.lst .leaf,.lst .leaf]) (UG 1 Vu (Uw (Uq 4) (Ut))))
 (Uv (sIf (Xc (U2 (Kx (UG 2 K6 (Uw (Uq 5) (Uw (Uq 3) (Ut)))))))
 (UE (Us (.bool Cw)))
 (sNx))
 (Uv (Zu 5 [1] (.app (.int 0)))
 (Uv (Zu 5 [2] .clr)
 (Uv (sIf (U2 (Kx (UG 2 K6 (Uw (UG 1 K5 (Uw (Uq 4) (Ut))) (Uw (Uq 3) (Ut))))))
 (UE (Us (.bool Cw)))
 (sNx))
 (Uv (UF 6 (UG 4 Y5 (Uw (Uq 4) (Uw (Uq 2) (Uw (Uu UC (Us (.int 2700)) (Uq 1)) (Uw (UG 0 Y2 (Ut)) (Ut)))))))
 (Uv (KH 7 (KO (KQ (UG 3 K7 (Uw (Uq 2) (Uw (Uu UC (Us (.int 2750)) (Uq 1)) (Uw (Uu U7 (UL (Uw (Us (.int 1000)) (Ut))) (Us (.int 20))) (Ut)))))) 1 (gN 12) (Us Cv) (KI Yd (Uw (Uq 12) (Ut)))))
 (Uv (UF 8 (Uu UC (Uu UC (Uu UC (Us (.str "times 1\nasks ")) (Yc (Us (.str " ")) (Uw (UU (Uq 7) (Us Cu) (UB (Uu UC (Uu Kc (Uq 1) (Us (.int 20))) (Us (.int 1))) λx=>Uz (Kq x))) (Ut)))) (Us (.str "\nprices "))) (Yc (Us (.str " ")) (Uw (Uq 7) (Ut)))))
 (Uv (Kv (KQ (UL (Uw (Uq 6) (Uw (Uq 8) (Ut))))) (gN 9) Pq)
 (Uv (UF 10 (Uu oIx (UG 3 K7 (Uw (Uq 2) (Uw (Uu UC (Us (.int 2800)) (Uq 1)) (Uw (UL (Uw (Us (.int 10)) (Ut))) (Ut))))) (Us (.int 0))))
 (Uv (KH 11 (UB (Uw (Us .none) (Uw (Us (.bool Cv)) (Uw (Us (.int 0)) (Uw (UL (Uw (Uq 4) (Ut))) (Uw (KT (Uw (Uq 4) (Ut))) (Uw (Us (.dict [])) (Uw (UL (Ut)) (Uw (Z9 (Uq 4) (Uw (Us (.str "\n")) (Ut))) (Uw (Uq 3) (Uw (Us (.int 7)) (Ut))))))))))) λxs=>if xs.length<=1000000 then Us xs else λ_=>.bad))
 (sIf (U2 (Kx (UG 2 K6 (Uw (UG 1 K5 (Uw (UM 11 (Uq 10)) (Ut))) (Uw (Us (.int 0)) (Ut))))))
 (UE (Us (.bool Cw)))
 (sNx))))))))))))))))
noncomputable def X4:SM:=
 Uv (Kv (Xe (Uw (Uu UC (UL (Uw (Us (.int 4)) (Ut))) (UU (Uq 0) (Us Cu) (UB (Us (.int 49)) λx=>Uz (Kq x)))) (Ut))) (gT 2 (gNC (gN 1) (gNC (gN 2) (gN0)))) Pp)
 (UE (Us (.bool Cv)))
noncomputable def Y1:Cy->CA:=UX Wk X4
set_option hygiene false in
local macro_rules | `(tactic| walk_at "g")=>`(tactic| first | exact gA nm rfl | exact R3 rfl)
set_option hygiene false in
local macro_rules | `(tactic| walk_at "v")=>`(tactic| first | exact pq nm _ | exact pvb _)
set_option hygiene false in
local macro_rules | `(tactic| walk_at "b")=>`(tactic| first | ((with_reducible show OpB _ (compareOp CmpOp.Eq) _);first | exact B_eq hu) | ((with_reducible show OpB _ (compareOp CmpOp.NotEq) _);first | exact Wm hu) | ((with_reducible show OpB _ (compareOp CmpOp.Lt) _);first | exact B_lt) | ((with_reducible show OpB _ (compareOp CmpOp.LtE) _);first | exact B_le) | ((with_reducible show OpB _ (compareOp CmpOp.Gt) _);first | exact B_gt) | ((with_reducible show OpB _ (compareOp CmpOp.GtE) _);first | exact B_ge) | ((with_reducible show OpB _ (compareOp CmpOp.In) _);first | exact B_in hu) | ((with_reducible show OpB _ (compareOp CmpOp.NotIn) _);first | exact Mt hu))
set_option hygiene false in
local macro_rules | `(tactic| walk_at "m")=>`(tactic| first | exact Vg _ | exact rfl)
set_option hygiene false in
local macro_rules | `(tactic| walk_at "k")=>`(tactic| first | exact Oj | exact Db)
set_option hygiene false in
local macro_rules | `(tactic| walk_at "w")=>`(tactic| first | exact PassesOwn.never | exact EX)
set_option hygiene false in
local macro_rules | `(tactic| walk_at "x")=>`(tactic| first | assumption | exact Ew)
set_option hygiene false in
local macro_rules | `(tactic| walk_at "c")=>`(tactic| first | exact T.c_FIGURES | exact T.c_MOST_FIGURES | exact T.c_PAPER_WORDS)
set_option hygiene false in
local macro_rules | `(tactic| walk_at "ck")=>`(tactic| first | exact T.x_DealError | exact T.x_NoAim | exact T.x_NoBook | exact T.x_NoChange | exact T.x_NoDeed | exact T.x_NoJoin | exact T.x_NoName | exact T.x_NoNumbering | exact T.x_NoPlace | exact T.x_NoRow | exact T.x_NoText | exact T.x_NoWay | exact T.x_NoWishes | exact T.x_TooMany)
set_option hygiene false in
local macro_rules | `(tactic| walk_at "e")=>`(tactic| first | ((with_reducible show PE _ (Expr.Call (Expr.Name _ _) [] _ _) _);refine pdf0 (by assumption) hr (by walk_at "g")) | ((with_reducible show PE _ (Expr.Name _ _) _);first | exact Ke (pq nm _) | exact Ke (pvb _) | exact Mw (by walk_at "g") (by walk_at "c") | exact VG (by walk_at "g") (by walk_at "c") | exact Mv (by walk_at "g") (by walk_at "c")) | ((with_reducible show PE _ (Expr.Constant _ _ _) _);first | exact Zl | exact PD | exact WI | exact YI) | ((with_reducible show PE _ (Expr.Subscript _ _ _) _);first | refine SQ (by walk_at "v") ?_ (fun _ _=>rfl) | refine Rf ?_ ?_ ?_ | refine HI ?_ ?_ ?_ ?_ | refine Sf ?_ ?_ (fun _ _=>rfl)) | ((with_reducible show PE _ (Expr.BinOp _ Operator.Add _ _) _);first | refine K9 Z7 ?_ ?_) | ((with_reducible show PE _ (Expr.BinOp _ Operator.Sub _ _) _);first | refine K9 NN ?_ ?_) | ((with_reducible show PE _ (Expr.BinOp _ Operator.Mult _ _) _);first | refine K9 T7 ?_ ?_ | refine K9 Gq ?_ ?_) | ((with_reducible show PE _ (Expr.BinOp _ Operator.Mod _ _) _);first | refine K9 RK ?_ ?_) | ((with_reducible show PE _ (Expr.BinOp _ Operator.FloorDiv _ _) _);first | refine K9 NM ?_ ?_) | ((with_reducible show PE _ (Expr.BinOp _ Operator.Pow _ _) _);first | refine K9 NL ?_ ?_) | ((with_reducible show PE _ (Expr.Call (Expr.Name "len" _) _ _ _) _);first | refine Om (by walk_at "g") T.b_len (by walk_at "v") | refine VA VP (by walk_at "g") T.b_len boot_len ?_) | ((with_reducible show PE _ (Expr.Call (Expr.Name "max" _) _ _ _) _);first | refine VA (Hj rfl) (by walk_at "g") T.b_max boot_max ?_) | ((with_reducible show PE _ (Expr.Call (Expr.Name "all" _) _ _ _) _);first | refine VA (NG rfl) (by walk_at "g") T.b_all PyProof.Rows.boot_all ?_) | ((with_reducible show PE _ (Expr.Call (Expr.Name "int" _) _ _ _) _);first | refine Ri Lm (by walk_at "g") T.b_int PyProof.Rows.boot_int ?_) | ((with_reducible show PE _ (Expr.Call (Expr.Name "str" _) _ _ _) _);first | refine Ri R4 (by walk_at "g") T.b_str PyProof.Rows.boot_str ?_) | ((with_reducible show PE _ (Expr.Call (Expr.Name "isinstance" _) [_,Expr.Name "int" _] _ _) _);first | refine Vy (c := "int") (by decide) (by walk_at "g") T.b_isinstance (by walk_at "g") T.b_int (by decide +kernel) ?_ (by decide) (by decide)) | ((with_reducible show PE _ (Expr.Call (Expr.Name "isinstance" _) [_,Expr.Name "list" _] _ _) _);first | refine Vy (c := "list") (by decide) (by walk_at "g") T.b_isinstance (by walk_at "g") T.b_list (by decide +kernel) ?_ (by decide) (by decide)) | ((with_reducible show PE _ (Expr.Call (Expr.Name "isinstance" _) [_,Expr.Name "bool" _] _ _) _);first | refine Vy (c := "bool") (by decide) (by walk_at "g") T.b_isinstance (by walk_at "g") T.b_bool (by decide +kernel) ?_ (by decide) (by decide)) | ((with_reducible show PE _ (Expr.Call (Expr.Name "isinstance" _) [_,Expr.Name "str" _] _ _) _);first | refine Vy (c := "str") (by decide) (by walk_at "g") T.b_isinstance (by walk_at "g") T.b_str (by decide +kernel) ?_ (by decide) (by decide)) | ((with_reducible show PE _ (Expr.Call (Expr.Name "isinstance" _) _ _ _) _);first | refine Ee (by walk_at "g") T.b_isinstance (by walk_at "g") T.b_list (by walk_at "g") T.b_tuple ?_ | refine Hy (by walk_at "g") T.b_isinstance (by walk_at "g") T.b_ValueError ?_ | refine HA (by walk_at "ck") (by walk_at "g") T.b_isinstance (by walk_at "g") ?_) | ((with_reducible show PE _ (Expr.Call (Expr.Name _ _) _ _ _) _);first | refine pdf (by assumption) hr (by walk_at "g") ?_ | refine pdf (by assumption) hr (by walk_at "g") ?_ (Nat.le_refl _)) | ((with_reducible show PE _ (Expr.Call _ _ _ _) _);first | refine S3 ?_ ?_ | refine OU ?_ ?_ | refine S1 PySem.F.slot_str_find PySem.F.type_str_find Gs ?_ ?_ | ((with_reducible show PE _ (Expr.Call (Expr.Attribute _ "startswith" _) _ _ _) _);refine S1 PySem.F.slot_str_startswith PySem.F.type_str_startswith Cg ?_ ?_) | refine S1 PySem.F.slot_str_removeprefix PySem.F.type_str_removeprefix Ln ?_ ?_) | refine Xp ?_ | refine SR ?_ | ((with_reducible show PE _ (Expr.Compare _ _ _ _) _);first | refine Fj ?_ | refine HJ (by walk_at "b") (by walk_at "v") ?_ (by walk_at "m") | refine GI (by walk_at "b") ?_ ?_ (by walk_at "m")) | refine HM ?_ | refine Fg ?_ | refine Fl ?_ | refine Fo ?_ ?_ | refine Hk ?_ ?_ | refine Fn ?_ | refine Fw ?_ | exact PV)
set_option hygiene false in
local macro_rules | `(tactic| walk_at "t")=>`(tactic| first | ((with_reducible show PT _ _ (tBo _ _ _ (Xc _)));refine Tr fun B' G'=>?_) | ((with_reducible show PT _ (Expr.Compare _ _ _ _) _);first | refine Fk ?_ | refine Tk (by walk_at "b") (by walk_at "v") ?_ (by walk_at "m") | refine HD (by walk_at "b") ?_ (by walk_at "v") (by walk_at "m") | refine Pz (by walk_at "b") ?_ ?_ (by walk_at "m") | refine EV (by walk_at "b") (by walk_at "b") ?_ ?_ ?_) | ((with_reducible show PT _ (Expr.BoolOp _ _ _) _);refine PW.pt ?_) | refine XN ?_ | refine XM ?_)
set_option hygiene false in
local macro_rules | `(tactic| walk_at "l")=>`(tactic| first | refine Ma nm (by walk_at "k") rfl ?_ ?_ (by decide +kernel) | refine Tn ?_ | refine Oz (by assumption) hr (by walk_at "g") ?_)
set_option hygiene false in
local macro_rules | `(tactic| walk_at "i")=>`(tactic| first | refine EU (by walk_at "g") T.b_range ?_ | refine SL (by walk_at "g") T.b_enumerate ?_ | refine Gg (by walk_at "g") T.b_zip ?_ | refine Sh ?_)
set_option hygiene false in
local macro_rules | `(tactic| walk_at "s")=>`(tactic| first | ((with_reducible show PS _ (Stmt.For _ _ _ _ _) (tS _ _ _ _ (sX (mNV _) _)));refine M9 ?_) | ((with_reducible show PS _ _ (tS _ _ _ _ (WE _ _ _ _)));refine Oc rfl (nq nm) rfl rfl rfl (lq nm _ rfl) (lq nm _ rfl) (lq nm _ rfl) (Th (pq nm _))) | ((with_reducible show PS _ _ (tS _ _ _ _ (sOr _ _)));refine MH ?_ ?_) | ((with_reducible show PS _ _ (tS _ _ _ _ (Wx _ _)));refine P1 (pq nm _) (pq nm _)) | ((with_reducible show PS _ (Stmt.Assign [Expr.Name _ _] _ _) _);first | refine aSet nm ?_ | refine N9 nm (by walk_at "k") rfl ?_ ?_ (by decide +kernel) | refine Rw nm ?_ | refine Mb nm ?_ | refine Mc nm ?_) | ((with_reducible show PS _ (Stmt.Assign _ _ _) _);first | refine M0 ?_ ?_) | ((with_reducible show PS _ _ (tS _ _ _ _ (Wz _)));refine Gp ?_) | refine Yr ?_ ?_ ?_ | refine Xl ?_ | refine V4 (by walk_at "w") rfl ?_ ?_ ?_ | ((with_reducible show PS _ (Stmt.Expr _ _) _);first | refine MZ (by walk_at "v") ?_) | exact TD | refine Fy (by assumption) hr rfl (by walk_at "x") (by walk_at "g") ?_ | refine MM (by walk_at "ck") (by walk_at "g") (nq nm) rfl rfl (fun KX' W pn hw=>?_) (fun a=>?_))
set_option hygiene false in
local macro_rules | `(tactic| walk_at "d")=>`(tactic| (have hu:=hr.units;have hgd:=hr.gd;repeat' (first | ((with_reducible show PSs _ (KZ _) _);show PSs _ (_ :: _) _) | ((with_reducible show PSs _ (Stmt.Assign _ _ _ :: _ :: _) _);generalize hS:(_ :: _:List Stmt)=sts;refine Ed hS ?_ ?_) | ((with_reducible show PS _ (Stmt.Assign [Expr.Name _ _] (Expr.List _ _) _) (tS _ _ _ _ (KH _ _)));generalize hS:Stmt.Assign _ _ _=st;refine Le hS nm ?_) | ((with_reducible show PS _ (Stmt.Assign [Expr.Name _ _] (Expr.BinOp _ _ _ _) _) (tS _ _ _ _ (UF _ _)));generalize hS:Stmt.Assign _ _ _=st;refine N8 hS nm ?_) | ((with_reducible show PE _ (Expr.List _ _) _);generalize hS:Expr.List _ _=e;first | refine Ec hS ?_ | refine Eb hS ?_) | ((with_reducible show PE _ (Expr.Tuple _ _ _) _);generalize hS:Expr.Tuple _ _ _=e;refine Ea hS ?_) | ((with_reducible show PE _ (Expr.BinOp _ Operator.Add _ _) (tD _ _ _ _));generalize hS:Expr.BinOp _ _ _ _=e;refine RU Z7 hS ?_ ?_) | ((with_reducible show PE _ (Expr.BinOp _ Operator.Mult _ _) (tD _ _ _ _));generalize hS:Expr.BinOp _ _ _ _=e;refine RU T7 hS ?_ ?_) | ((with_reducible show PA _ (_ :: _) (tDs _ _ _ _));generalize hS:(_ :: _:List Expr)=es;refine Ep hS ?_ ?_) | ((with_reducible show PE _ _ (tD _ _ _ _));first | walk_at "e") | ((with_reducible show PA _ _ (tDs _ _ _ _));first | refine UT ?_ ?_ | exact Kf) | ((with_reducible show PSs _ _ (tS _ _ _ _ _));first | refine K2 ?_ ?_ | refine ZQ ?_ | exact Yy | exact sD_nevers) | ((with_reducible show PS _ _ _);walk_at "s") | ((with_reducible show PT _ _ _);walk_at "t") | ((with_reducible show PW _ _ _);first | refine Fp ?_ ?_ | refine R6 ?_ ?_ | refine EM ?_ | refine Py ?_) | ((with_reducible show PE _ _ (tL _ _ _ _));walk_at "l") | ((with_reducible show PI _ _ _ _);walk_at "i") | ((with_reducible show PG _ _ _);first | exact Md nm | exact Lg | refine Sc rfl ?_ | refine MR rfl ?_) | ((with_reducible show PGs _ _ _);first | exact Sd | refine Vl ?_ ?_) | ((with_reducible show PO _ _ _);first | exact SU | refine SS ?_) | ((with_reducible show Zy _ _ _ _ _ _ _ _ _);refine fun cl C s0 H0 ex=>⟨fun B' G'=>?_,fun B' G'=>?_,?_⟩) | ((with_reducible show Ym _ _ _);first | exact Px | refine HN ?_) | ((with_reducible show T1 _ _ _ _ _ _);first | refine OG rfl rfl rfl fun B' G'=>?_ | refine clau_nest rfl rfl rfl rfl (fun _=>rfl) (fun B' G'=>?_) (fun B' G'=>?_) (fun B' G'=>?_) ?_) | ((with_reducible show PE _ _ (tX _ _ _ _ (mNV _)));refine DJ (by walk_at "g") T.b_enumerate boot_enumerate ?_) | ((with_reducible show PE _ _ (tX _ _ _ _ _));refine Fx (by assumption) hr (by walk_at "x") (by walk_at "g") ?_) | ((with_reducible show PE _ _ (tT _ _ _ _ _));first | refine Oe (by assumption) hr (by walk_at "g") ?_ | exact P2 | exact peT_dnil | refine peT_disp ?_) | ((with_reducible show PSs _ _ (tSO _ _ _ _ _));first | refine Ll ?_ | refine Go ?_ ?_) | ((with_reducible show PSs _ _ (tST _ _ _ _ _ _));first | refine F9 ?_ (Th (by walk_at "v")) | refine V0 (OT ?_ (by walk_at "v") (by walk_at "v")) | refine V0 (Th (by walk_at "v")) | refine V0 (peT_tup3 (fun B' G'=>?_) (fun B' G'=>?_) (fun B' G'=>?_)) | refine Vi ?_ ?_))))
section
variable{P:JZ}{w:World}{K:Frag}{mg:Str->CB}{base:Heap}{f:J0}{fd:J4}(T:Txt K mg)
include T
theorem Kam(F:Fun K "_law_refusal" "_law_refusal" Sam f fd):FnOk P w K mg base CX0 1 f fd ["_law_error"] (spD K 1 Yp):=
 okD (k:=0) (g:=g_am) F (fq Ham 1) Ct λcdv A outer s H E B G0 hr=>
 have nm:=Ham
 by walk_at "d"
theorem Kad(F:Fun K "rows_of" "rows_of" Sad f fd):FnOk P w K mg base CX0 1 f fd ["text"] (spD K 1 ZJ):=
 okD (k:=0) (g:=YV) F (fq Had 1) Ct λcdv A outer s H E B G0 hr=>
 have nm:=Had
 by walk_at "d"
theorem Kai(F:Fun K "is_paper_row" "is_paper_row" Sai f fd):FnOk P w K mg base CX0 1 f fd ["number", "numbers"] (spD K 2 Z2):=
 okD (k:=0) (g:=Wc) F (fq Hai 2) Ct λcdv A outer s H E B G0 hr=>
 have nm:=Hai
 by walk_at "d"
theorem Kab(F:Fun K "is_written_number" "is_written_number" Sab f fd):FnOk P w K mg base CX0 1 f fd ["thing"] (spD K 1 Z3):=
 okD (k:=0) (g:=Wh) F (fq Hab 1) Ct λcdv A outer s H E B G0 hr=>
 have nm:=Hab
 by walk_at "d"
theorem Kac(Bw:Def P w K mg base "is_written_number" 1 1 Z3)(F:Fun K "read_number" "read_number" Sac f fd):FnOk P w K mg base CX0 2 f fd ["text"] (spD K 1 Zz):=
 okD (k:=1) (g:=Wg) F (fq Hac 1) Ct λcdv A outer s H E B G0 hr=>
 have nm:=Hac
 by walk_at "d"
theorem Kag(Bw:Def P w K mg base "is_written_number" 1 1 Z3)(F:Fun K "is_written_from_nought" "is_written_from_nought" Sag f fd):FnOk P w K mg base CX0 2 f fd ["text"] (spD K 1 K8):=
 okD (k:=1) (g:=Wd) F (fq Hag 1) Ct λcdv A outer s H E B G0 hr=>
 have nm:=Hag
 by walk_at "d"
theorem Kah(Bv:Def P w K mg base "read_number" 2 1 Zz)(Bu:Def P w K mg base "is_written_from_nought" 2 1 K8)(F:Fun K "read_numbers" "read_numbers" Sah f fd):FnOk P w K mg base CX0 3 f fd ["word", "row"] (spD K 2 Y7):=
 okD (k:=2) (g:=YU) F (fq Hah 2) Ct λcdv A outer s H E B G0 hr=>
 have nm:=Hah
 by walk_at "d"
theorem DX(CQ:MkX P w K mg base "NoText" 2)(F:Fun K "rows_of" "rows_of" O2 f fd):FnOk P w K mg base (CX1 P w) 4 f fd ["text"] (spX K 1 TL):=
 okX (k:=3) (g:=Rj) F (fq Ni 1) Ct λcdv A outer s H E B G0 hr=>
 have nm:=Ni
 by walk_at "d"
theorem Cs(Bo:Def P w K mg base "rows_of" 1 1 ZJ)(Bn:Def P w K mg base "is_paper_row" 1 2 Z2)(Ai:Def P w K mg base "read_numbers" 3 2 Y7)(CT:DefX P w K mg base "rows_of" 4 1 TL)(CQ:MkX P w K mg base "NoText" 2)(F:Fun K "read_paper" "read_paper" Nu f fd):FnOk P w K mg base (CX1 P w) 5 f fd ["text"] (spX K 1 WV):=
 okX (k:=4) (g:=TR) F (fq Nn 1) Ct λcdv A outer s H E B G0 hr=>
 have nm:=Nn
 by walk_at "d"
theorem Kau(Ag:Def P w K mg base "_law_refusal" 1 1 Yp)(CO:DefX P w K mg base "read_paper" 5 1 WV)(F:Fun K "_law_told" "_law_told" Sau f fd):FnOk P w K mg base CX0 6 f fd ["_law_thing"] (spD K 1 K5):=
 okD (k:=5) (g:=YS) F (fq Hau 1) Ct λcdv A outer s H E B G0 hr=>
 have nm:=Hau
 by walk_at "d"
theorem Kan{kk:Nat}{FR:Cy->CA}(C8:Def P w K mg base "_law_same" kk 2 FR)(F:Fun K "_law_same" "_law_same" San f fd):FnOk P w K mg base CX0 (kk+1) f fd ["_law_found", "_law_due"] (spD K 2 (Zm FR)):=
 okD (k:=kk) (g:=YT FR) F (fq Han 2) Ct λcdv A outer s H E B G0 hr=>
 have nm:=Han
 by walk_at "d"
theorem Kak(F:Fun K "_law_numbers" "_law_numbers" Sak f fd):FnOk P w K mg base CX0 1 f fd ["_law_cell", "_law_salt", "_law_sizes"] (spD K 3 K7):=
 okD (k:=0) (g:=Wb) F (fq Hak 3) Ct λcdv A outer s H E B G0 hr=>
 have nm:=Hak
 by walk_at "d"
theorem Kar(F:Fun K "_law_number" "_law_number" Sar f fd):FnOk P w K mg base CX0 1 f fd ["_law_word"] (spD K 1 Yn):=
 okD (k:=0) (g:=X6) F (fq Har 1) Ct λcdv A outer s H E B G0 hr=>
 have nm:=Har
 by walk_at "d"
theorem Kas(Af:Def P w K mg base "_law_number" 1 1 Yn)(F:Fun K "_law_paper_read" "_law_paper_read" Sas f fd):FnOk P w K mg base CX0 2 f fd ["_law_text"] (spD K 1 Y3):=
 okD (k:=1) (g:=X5) F (fq Has 1) Ct λcdv A outer s H E B G0 hr=>
 have nm:=Has
 by walk_at "d"
theorem Kat(F:Fun K "_law_paper_menu" "_law_paper_menu" Sat f fd):FnOk P w K mg base CX0 1 f fd [] (spD K 0 Y2):=
 okD (k:=0) (g:=g_at) F (fq Hat 0) Ct λcdv A outer s H E B G0 hr=>
 have nm:=Hat
 by walk_at "d"
theorem Kal(F:Fun K "_law_sign" "_law_sign" Sal f fd):FnOk P w K mg base CX0 1 f fd ["_law_digit"] (spD K 1 Y6):=
 okD (k:=0) (g:=Wa) F (fq Hal 1) Ct λcdv A outer s H E B G0 hr=>
 have nm:=Hal
 by walk_at "d"
theorem Kao(Ah:Def P w K mg base "_law_sign" 1 1 Y6)(C5:Def P w K mg base "_law_numbers" 1 3 K7)(F:Fun K "_law_bent_text" "_law_bent_text" Sao f fd):FnOk P w K mg base CX0 2 f fd ["_law_text", "_law_cell", "_law_salt", "_law_menu"] (spD K 4 Y5):=
 okD (k:=1) (g:=X9) F (fq Hao 4) Ct λcdv A outer s H E B G0 hr=>
 have nm:=Hao
 by walk_at "d"
theorem Kap(C5:Def P w K mg base "_law_numbers" 1 3 K7)(F:Fun K "_law_paper" "_law_paper" Sap f fd):FnOk P w K mg base CX0 2 f fd ["_law_cell", "_law_salt"] (spD K 2 Yo):=
 okD (k:=1) (g:=X8) F (fq Hap 2) Ct λcdv A outer s H E B G0 hr=>
 have nm:=Hap
 by walk_at "d"
theorem Kaq(F:Fun K "_law_paper_text" "_law_paper_text" Saq f fd):FnOk P w K mg base CX0 1 f fd ["_law_paper_here"] (spD K 1 Y4):=
 okD (k:=0) (g:=X7) F (fq Haq 1) Ct λcdv A outer s H E B G0 hr=>
 have nm:=Haq
 by walk_at "d"
theorem Kaa(F:Fun K "show_number" "show_number" Saa f fd):FnOk P w K mg base CX0 1 f fd ["number"] (spD K 1 Yq):=
 okD (k:=0) (g:=Wi) F (fq Haa 1) Ct λcdv A outer s H E B G0 hr=>
 have nm:=Haa
 by walk_at "d"
theorem Kae(Ak:Def P w K mg base "show_number" 1 1 Yq)(F:Fun K "show_numbers" "show_numbers" Sae f fd):FnOk P w K mg base CX0 2 f fd ["word", "numbers"] (spD K 2 Y9):=
 okD (k:=1) (g:=Wf) F (fq Hae 2) Ct λcdv A outer s H E B G0 hr=>
 have nm:=Hae
 by walk_at "d"
theorem Kaf(Aj:Def P w K mg base "show_numbers" 2 2 Y9)(F:Fun K "show_paper" "show_paper" Saf f fd):FnOk P w K mg base CX0 3 f fd ["paper"] (spD K 1 Y8):=
 okD (k:=2) (g:=We) F (fq Haf 1) Ct λcdv A outer s H E B G0 hr=>
 have nm:=Haf
 by walk_at "d"
theorem Cm(Bv:Def P w K mg base "read_number" 2 1 Zz)(Bu:Def P w K mg base "is_written_from_nought" 2 1 K8)(F:Fun K "read_numbers" "read_numbers" NF f fd):FnOk P w K mg base CX0 3 f fd ["word", "row"] (spO K 2 TV):=
 okO (k:=2) (g:=XU) F (fq NC 2) Ct λcdv A outer s H E B G0 hr=>
 have nm:=NC
 by walk_at "d"
theorem Cr(Bo:Def P w K mg base "rows_of" 1 1 ZJ)(Bn:Def P w K mg base "is_paper_row" 1 2 Z2)(CM:Wl P w K mg base "read_numbers" 3 2 TV)(F:Fun K "read_paper" "read_paper" Nr f fd):FnOk P w K mg base CX0 4 f fd ["text"] (spT K 1 (.tup [.leaf,.lst .leaf,.lst .leaf]) TQ):=
 okT (k:=3) (g:=Rk) F (fq Km 1) Ct λcdv A outer s H E B G0 hr=>
 have hu:=hr.units;have hgd:=hr.gd
 (Vi (Sy (i:=1) (nq Km) Ct (lq Km 1) P2)
 (Vi (V4 Uj Ct (SL (gq Km 3) T.b_enumerate (UT (pdf Bo hr (gq Km 2) (UT (Ke (pq Km 0)) Kf)) Kf)) (Sc Ct (Vl (Xo (Ye (i:=2) (nq Km) Ct (lq Km 2))) (Vl (Xo (Ye (i:=3) (nq Km) Ct (lq Km 3))) Sd)))
 (K2 (Yr (Tk (B_eq hu) (pq Km 2) (VA VP (gq Km 0) T.b_len boot_len (UT (VG (gq Km 1) T.c_PAPER_WORDS) Kf)) (Vg _))
 (ZQ TD)
 Yy)
 (K2 (SN (i:=4) (nq Km) Ct (lq Km 4) (Oz CM hr (gq Km 5) (UT (Sf (VG (gq Km 1) T.c_PAPER_WORDS) (Ke (pq Km 2)) (λ_ _=>rfl)) (UT (Ke (pq Km 3)) Kf))))
 (K2 (Yr (Tr λB' G'=>(XN (XM (pdf Bn hr (gq Km 4) (UT (Ke (pq Km 2)) (UT (Ke (pq Km 4)) Kf))))))
 (ZQ TD)
 Yy)
 (ZQ (P1 (pq Km 1) (pq Km 4)))))))
 (Vi (Yr (Tr λB' G'=>(Pz B_lt (Om (gq Km 0) T.b_len (pq Km 1)) (VA VP (gq Km 0) T.b_len boot_len (UT (VG (gq Km 1) T.c_PAPER_WORDS) Kf)) (Vg _)))
 (ZQ TD)
 Yy)
 (Vi (Oc (i:=5) (j:=6) (l:=7) Ct (nq Km) Ct Ct Ct (lq Km 5) (lq Km 6) (lq Km 7) (Th (pq Km 1)))
 (V0 (OT (SQ (pq Km 5) Zl (λ_ _=>rfl)) (pq Km 6) (pq Km 7)))))))
theorem Ce(CP:Xa P w K mg base "read_paper" 4 1 (.tup [.leaf,.lst .leaf,.lst .leaf]) TQ)(F:Fun K "_law_told" "_law_told" Nx f fd):FnOk P w K mg base CX0 5 f fd ["_law_thing"] (spT K 1 (.tup [.leaf,.lst .leaf,.lst .leaf]) Vu):=
 okT (k:=4) (g:=Rb) F (fq Np 1) Ct λcdv A outer s H E B G0 hr=>
 have nm:=Np
 by walk_at "d"
theorem Kav(Bm:Def P w K mg base "_law_told" 6 1 K5)(C8:Def P w K mg base "_law_same" 7 2 K6)(C5:Def P w K mg base "_law_numbers" 1 3 K7)(BM:Def P w K mg base "_law_paper_read" 2 1 Y3)(BL:Def P w K mg base "_law_paper_menu" 1 0 Y2)(BO:Def P w K mg base "_law_bent_text" 2 4 Y5)(Bt:Def P w K mg base "_law_paper" 2 2 Yo)(BN:Def P w K mg base "_law_paper_text" 1 1 Y4)(BP:Def P w K mg base "show_paper" 3 1 Y8)(CN:Xa P w K mg base "_law_told" 5 1 (.tup [.leaf,.lst .leaf,.lst .leaf]) Vu)(F:Fun K "law" "law" Sav f fd):FnOk P w K mg base CX0 8 f fd ["_law_script"] (spD K 1 Y1):=
 okD (k:=7) (g:=X4) F (fq Hav 1) Ct λcdv A outer s H E B G0 hr=>
 have hu:=hr.units;have hgd:=hr.gd
 (K2 (V4 Uj Ct (SL (gq Hav 0) T.b_enumerate (UT (K9 Z7 (Xp (UT Zl Kf)) (Rf (Ke (pq Hav 0)) SU (SS Zl))) Kf)) (Sc Ct (Vl (Xo (Ye (i:=1) (nq Hav) Ct (lq Hav 1))) (Vl (Xo (Ye (i:=2) (nq Hav) Ct (lq Hav 2))) Sd)))
 (K2 (WH (i:=3) (nq Hav) Ct (lq Hav 3) (pdf Bt hr (gq Hav 7) (UT (Ke (pq Hav 2)) (UT (K9 Z7 Zl (Ke (pq Hav 1))) Kf))))
 (K2 (WH (i:=4) (nq Hav) Ct (lq Hav 4) (pdf BP hr (gq Hav 11) (UT (Ke (pq Hav 3)) Kf)))
 (K2 (Yr (PW.pt (R6 (XN (XM (Vy (c:= "str") (by decide) (gq Hav 8) T.b_isinstance (gq Hav 9) T.b_str (by decide +kernel) (Ke (pq Hav 4)) (by decide) (by decide)))) (Py (Tk (Wm hu) (pq Hav 4) (pdf BN hr (gq Hav 10) (UT (Ke (pq Hav 3)) Kf)) (Vg _)))))
 (ZQ (Xl YI))
 Yy)
 (K2 (Yr (Tk (Wm hu) (pq Hav 3) (pdf Bt hr (gq Hav 7) (UT (Ke (pq Hav 2)) (UT (K9 Z7 Zl (Ke (pq Hav 1))) Kf))) (Vg _))
 (ZQ (Xl YI))
 Yy)
 (K2 (Sy (i:=5) (nq Hav) Ct (lq Hav 5) (Oe CN hr (gq Hav 1) (UT (Ke (pq Hav 4)) Kf)))
 (K2 (Yr (Tr λB' G'=>(XN (XM (pdf C8 hr (gq Hav 2) (UT (Ke (pq Hav 5)) (UT (Ke (pq Hav 3)) Kf))))))
 (ZQ (Xl YI))
 Yy)
 (K2 (Gd (PZ (k:=1) (P0 (pq Hav 5))) Sk (λ_=>.int _))
 (K2 (Lh (PZ (k:=2) (P0 (pq Hav 5))))
 (K2 (Yr (XN (XM (pdf C8 hr (gq Hav 2) (UT (pdf Bm hr (gq Hav 1) (UT (Ke (pq Hav 4)) Kf)) (UT (Ke (pq Hav 3)) Kf)))))
 (ZQ (Xl YI))
 Yy)
 (K2 (WH (i:=6) (nq Hav) Ct (lq Hav 6) (pdf BO hr (gq Hav 6) (UT (Ke (pq Hav 4)) (UT (Ke (pq Hav 2)) (UT (K9 Z7 Zl (Ke (pq Hav 1))) (UT (pdf0 BL hr (gq Hav 5)) Kf))))))
 (K2 (sD_1 (j:=7) (U6 Sav) Wk ["_law_script", "_law_at", "_law_cell", "_law_paper_here", "_law_text", "_law_found", "_law_bent", "_law_lows", "_law_other", "_law_one", "_law_kind", "_law_things", "_law_low"] 1 Oj (nq Hav) Ct Ct Ct (Sh (pdf C5 hr (gq Hav 3) (UT (Ke (pq Hav 2)) (UT (K9 Z7 Zl (Ke (pq Hav 1))) (UT (K9 T7 (Xp (UT Zl Kf)) Zl) Kf))))) (λcl C s0 H0 ex=>⟨λB' G'=>(Xo (Ye (i:=12) (show(["_law_script", "_law_at", "_law_cell", "_law_paper_here", "_law_text", "_law_found", "_law_bent", "_law_lows", "_law_other", "_law_one", "_law_kind", "_law_things", "_law_low"]:List Str).Nodup by decide +kernel) Ct (Tl Ct).1 (Tl Ct).2)),λB' G'=>Px,(OG Ct Ct Ct λB' G'=>(Ri R4 (R3 Ct) T.b_str PyProof.Rows.boot_str (UT (Ke (pvb 12)) Kf)))⟩) Ct Ct (by decide +kernel))
 (K2 (WH (i:=8) (nq Hav) Ct (lq Hav 8) (K9 Z7 (K9 Z7 (K9 Z7 WI (S3 WI (UT (Rf (Ke (pq Hav 7)) SU (SS (K9 Z7 (K9 RK (Ke (pq Hav 1)) Zl) Zl))) Kf))) WI) (S3 WI (UT (Ke (pq Hav 7)) Kf))))
 (K2 (V4 Uj Ct (Sh (Xp (UT (Ke (pq Hav 6)) (UT (Ke (pq Hav 8)) Kf)))) (Xo (Ye (i:=9) (nq Hav) Ct (lq Hav 9)))
 (ZQ (Yr (XN (XM (pdf C8 hr (gq Hav 2) (UT (pdf Bm hr (gq Hav 1) (UT (Ke (pq Hav 9)) Kf)) (UT (pdf BM hr (gq Hav 4) (UT (Ke (pq Hav 9)) Kf)) Kf)))))
 (ZQ (Xl YI))
 Yy)))
 (K2 (WH (i:=10) (nq Hav) Ct (lq Hav 10) (Sf (pdf C5 hr (gq Hav 3) (UT (Ke (pq Hav 2)) (UT (K9 Z7 Zl (Ke (pq Hav 1))) (UT (Xp (UT Zl Kf)) Kf)))) Zl (λ_ _=>rfl)))
 (K2 (SN (i:=11) (nq Hav) Ct (lq Hav 11) (Tn (UT PD (UT YI (UT Zl (UT (Xp (UT (Ke (pq Hav 4)) Kf)) (UT (SR (UT (Ke (pq Hav 4)) Kf)) (UT PV (UT (Xp Kf) (UT (OU (Ke (pq Hav 4)) (UT WI Kf)) (UT (Ke (pq Hav 3)) (UT Zl Kf))))))))))))
 (ZQ (Yr (XN (XM (pdf C8 hr (gq Hav 2) (UT (pdf Bm hr (gq Hav 1) (UT (SQ (pq Hav 11) (Ke (pq Hav 10)) (λ_ _=>rfl)) Kf)) (UT Zl Kf)))))
 (ZQ (Xl YI))
 Yy))))))))))))))))))
 (ZQ (Xl YI)))
end
theorem Kr:recsOf q0=Xk p0 ixL:=by show recsOf (PySem.W.view PySem.Challenge.pw_wishdeal_k89_papers_written_and_read Yt)=Xk PySem.Challenge.pw_wishdeal_k89_papers_written_and_read ixL;rw[PySem.W.Fast.te3399658132070893891,PySem.W.Fast.te3067351940574629671];kernel_rfl
theorem ZK:(["ValueError", "all", "bool", "enumerate", "int", "isinstance", "len", "list", "max", "range", "str", "tuple", "zip"]:List Str).all (VE q0 (PySem.W.looseW q0 []))=Cv:=by show List.all _ (VE (PySem.W.view PySem.Challenge.pw_wishdeal_k89_papers_written_and_read Yt) (PySem.W.looseW (PySem.W.view PySem.Challenge.pw_wishdeal_k89_papers_written_and_read Yt) []))=Cv;k_qdec
theorem DI:valOf q0 "FIGURES" = O (.str "0123456789"):=by show valOf (PySem.W.view PySem.Challenge.pw_wishdeal_k89_papers_written_and_read Yt) _=_;rw[PySem.W.Fast.te1987589406359920131,PySem.W.Fast.te3067351940574629671];kernel_rfl
theorem Cn:valOf q0 "MOST_FIGURES" = O (.int 60):=by show valOf (PySem.W.view PySem.Challenge.pw_wishdeal_k89_papers_written_and_read Yt) _=_;rw[PySem.W.Fast.te1987589406359920131,PySem.W.Fast.te3067351940574629671];kernel_rfl
theorem Cq:tupStrsOf q0 "PAPER_WORDS" = O (["times", "asks", "prices"]:List Str):=by show tupStrsOf (PySem.W.view PySem.Challenge.pw_wishdeal_k89_papers_written_and_read Yt) _=_;rw[PySem.W.Fast.te14491516231548247274,PySem.W.Fast.te3067351940574629671];kernel_rfl
theorem M8{l:PySem.W.OpenLaw}{w:World}{s0:JY}{mg mb:Str->CB}{fa:J0}{h:Heap}{XP:(Str->CB)->Heap->Prop}(G:PySem.W.Ground q0 [] [] XP w s0 mg mb h)(Y:XYP p0 clsL h)(hfa:mg "law" = O (.ref fa)) :
  ∃fd:J4,(∀(s:JY)(v:JX),BindsTo s fd ⟨[v],[]⟩ [("_law_script", v)])/\∀base:Heap,FnOk l.prog w (whole h) mg base CX0 8 fa fd ["_law_script"] (spD (whole h) 1 Y1):=by
 obtain⟨D0,f0,fd0,R⟩:=Hu (i:=1) G.T.g Y (mq 0 Ct) (ZN G.T ZK (mq 0 Ct)) (Kz (by decide +kernel)) Ct (λ_=>⟨_,rfl⟩) (λ_ _ _ _ _ _ us hl=>bz2 (us:=us) hl λ_ _=>rfl);have T:Txt (whole h) mg:=⟨ZN G.T ZK (mq 0 Ct),ZN G.T ZK (mq 1 Ct),ZN G.T ZK (mq 2 Ct),ZN G.T ZK (mq 3 Ct),ZN G.T ZK (mq 4 Ct),ZN G.T ZK (mq 5 Ct),ZN G.T ZK (mq 6 Ct),ZN G.T ZK (mq 7 Ct),ZN G.T ZK (mq 8 Ct),ZN G.T ZK (mq 9 Ct),ZN G.T ZK (mq 10 Ct),ZN G.T ZK (mq 11 Ct),ZN G.T ZK (mq 12 Ct),E5 G.T DI,E6 G.T Cn,E4 G.B Cq (by decide),ZL (c:=("DealError", O 1)) G.T.g Y R (mq 0 Ct),ZL (c:=("NoAim", O 3)) G.T.g Y R (mq 2 Ct),ZL (c:=("NoBook", Cu)) G.T.g Y R (mq 9 Ct),ZL (c:=("NoChange", Cu)) G.T.g Y R (mq 6 Ct),ZL (c:=("NoDeed", Cu)) G.T.g Y R (mq 10 Ct),ZL (c:=("NoJoin", Cu)) G.T.g Y R (mq 8 Ct),ZL (c:=("NoName", Cu)) G.T.g Y R (mq 12 Ct),ZL (c:=("NoNumbering", Cu)) G.T.g Y R (mq 7 Ct),ZL (c:=("NoPlace", Cu)) G.T.g Y R (mq 5 Ct),ZL (c:=("NoRow", Cu)) G.T.g Y R (mq 11 Ct),ZL (c:=("NoText", O 4)) G.T.g Y R (mq 3 Ct),ZL (c:=("NoWay", Cu)) G.T.g Y R (mq 4 Ct),ZL (c:=("NoWishes", O 2)) G.T.g Y R (mq 1 Ct),ZL (c:=("TooMany", Cu)) G.T.g Y R (mq 13 Ct)⟩
 refine Mn G.T Kr 42 "law" rfl Ct hfa (λ_ _ _ _ _ _ _=>rfl) λbase=>?_
 have CQ:=MI (nm:= "NoText") (j:=4) (ps:=["self", "row"]) G.T.g Y R (mq 3 Ct) (by decide) l.prog w base (λ_ _ _ _ _ _ us hl=>bz2 (us:=us) hl λ_ _=>rfl) (λFU=>Hw R.cf (R.ok l.prog w base) R.bd R.at' FU (Kz (by decide +kernel)) (by decide) (by decide) (by decide) Ct (λ_=>⟨_,rfl⟩) (by decide));have Ag:=KB l.prog w base G.T Kr 33 "_law_refusal" rfl Ct (λF=>Kam T  F) λ_ _ _ _ _ _ us hl=>bz1 (us:=us) hl λ_=>rfl
 have Bo:=KB l.prog w base G.T Kr 23 "rows_of" rfl Ct (λF=>Kad T  F) λ_ _ _ _ _ _ us hl=>bz1 (us:=us) hl λ_=>rfl
 have Bn:=KB l.prog w base G.T Kr 28 "is_paper_row" rfl Ct (λF=>Kai T  F) λ_ _ _ _ _ _ us hl=>bz2 (us:=us) hl λ_ _=>rfl
 have Bw:=KB l.prog w base G.T Kr 19 "is_written_number" rfl Ct (λF=>Kab T  F) λ_ _ _ _ _ _ us hl=>bz1 (us:=us) hl λ_=>rfl
 have Bv:=KB l.prog w base G.T Kr 20 "read_number" rfl Ct (λF=>Kac T Bw F) λ_ _ _ _ _ _ us hl=>bz1 (us:=us) hl λ_=>rfl
 have Bu:=KB l.prog w base G.T Kr 26 "is_written_from_nought" rfl Ct (λF=>Kag T Bw F) λ_ _ _ _ _ _ us hl=>bz1 (us:=us) hl λ_=>rfl
 have Ai:=KB l.prog w base G.T Kr 27 "read_numbers" rfl Ct (λF=>Kah T Bv Bu F) λ_ _ _ _ _ _ us hl=>bz2 (us:=us) hl λ_ _=>rfl
 have CT:=RX l.prog w base G.T Kr 23 "rows_of" rfl Ct (λF=>DX T CQ F) λ_ _ _ _ _ _ us hl=>bz1 (us:=us) hl λ_=>rfl
 have CO:=RX l.prog w base G.T Kr 29 "read_paper" rfl Ct (λF=>Cs T Bo Bn Ai CT CQ F) λ_ _ _ _ _ _ us hl=>bz1 (us:=us) hl λ_=>rfl
 have Bm:=KB l.prog w base G.T Kr 41 "_law_told" rfl Ct (λF=>Kau T Ag CO F) λ_ _ _ _ _ _ us hl=>bz1 (us:=us) hl λ_=>rfl
 have C3:Def l.prog w (whole h) mg base "_law_same" 0 2 (λ_=>Cu):=KB l.prog w base G.T Kr 34 "_law_same" rfl Ct (λF=>Lc (ps:=["_law_found", "_law_due"])) λ_ _ _ _ _ _ us hl=>bz2 (us:=us) hl λ_ _=>rfl
 have C2:=KB l.prog w base G.T Kr 34 "_law_same" rfl Ct (λF=>Kan T C3  F) λ_ _ _ _ _ _ us hl=>bz2 (us:=us) hl λ_ _=>rfl
 have C1:=KB l.prog w base G.T Kr 34 "_law_same" rfl Ct (λF=>Kan T C2  F) λ_ _ _ _ _ _ us hl=>bz2 (us:=us) hl λ_ _=>rfl
 have C0:=KB l.prog w base G.T Kr 34 "_law_same" rfl Ct (λF=>Kan T C1  F) λ_ _ _ _ _ _ us hl=>bz2 (us:=us) hl λ_ _=>rfl
 have CZ:=KB l.prog w base G.T Kr 34 "_law_same" rfl Ct (λF=>Kan T C0  F) λ_ _ _ _ _ _ us hl=>bz2 (us:=us) hl λ_ _=>rfl
 have CY:=KB l.prog w base G.T Kr 34 "_law_same" rfl Ct (λF=>Kan T CZ  F) λ_ _ _ _ _ _ us hl=>bz2 (us:=us) hl λ_ _=>rfl
 have CW:=KB l.prog w base G.T Kr 34 "_law_same" rfl Ct (λF=>Kan T CY  F) λ_ _ _ _ _ _ us hl=>bz2 (us:=us) hl λ_ _=>rfl
 have C8:=KB l.prog w base G.T Kr 34 "_law_same" rfl Ct (λF=>Kan T CW  F) λ_ _ _ _ _ _ us hl=>bz2 (us:=us) hl λ_ _=>rfl
 have C5:=KB l.prog w base G.T Kr 31 "_law_numbers" rfl Ct (λF=>Kak T  F) λ_ _ _ _ _ _ us hl=>bz3 (us:=us) hl λ_ _ _=>rfl
 have Af:=KB l.prog w base G.T Kr 38 "_law_number" rfl Ct (λF=>Kar T  F) λ_ _ _ _ _ _ us hl=>bz1 (us:=us) hl λ_=>rfl
 have BM:=KB l.prog w base G.T Kr 39 "_law_paper_read" rfl Ct (λF=>Kas T Af F) λ_ _ _ _ _ _ us hl=>bz1 (us:=us) hl λ_=>rfl
 have BL:=KB l.prog w base G.T Kr 40 "_law_paper_menu" rfl Ct (λF=>Kat T  F) λ_ _ _ _ _ _ us hl=>bz0 (us:=us) hl Ct
 have Ah:=KB l.prog w base G.T Kr 32 "_law_sign" rfl Ct (λF=>Kal T  F) λ_ _ _ _ _ _ us hl=>bz1 (us:=us) hl λ_=>rfl
 have BO:=KB l.prog w base G.T Kr 35 "_law_bent_text" rfl Ct (λF=>Kao T Ah C5 F) λ_ _ _ _ _ _ us hl=>bz4 (us:=us) hl λ_ _ _ _=>rfl
 have Bt:=KB l.prog w base G.T Kr 36 "_law_paper" rfl Ct (λF=>Kap T C5 F) λ_ _ _ _ _ _ us hl=>bz2 (us:=us) hl λ_ _=>rfl
 have BN:=KB l.prog w base G.T Kr 37 "_law_paper_text" rfl Ct (λF=>Kaq T  F) λ_ _ _ _ _ _ us hl=>bz1 (us:=us) hl λ_=>rfl
 have Ak:=KB l.prog w base G.T Kr 18 "show_number" rfl Ct (λF=>Kaa T  F) λ_ _ _ _ _ _ us hl=>bz1 (us:=us) hl λ_=>rfl
 have Aj:=KB l.prog w base G.T Kr 24 "show_numbers" rfl Ct (λF=>Kae T Ak F) λ_ _ _ _ _ _ us hl=>bz2 (us:=us) hl λ_ _=>rfl
 have BP:=KB l.prog w base G.T Kr 25 "show_paper" rfl Ct (λF=>Kaf T Aj F) λ_ _ _ _ _ _ us hl=>bz1 (us:=us) hl λ_=>rfl
 have CM:=Lk l.prog w base G.T Kr 27 "read_numbers" rfl Ct (λF=>Cm T Bv Bu F) λ_ _ _ _ _ _ us hl=>bz2 (us:=us) hl λ_ _=>rfl
 have CP:=RW l.prog w base G.T Kr 29 "read_paper" rfl Ct (λF=>Cr T Bo Bn CM F) λ_ _ _ _ _ _ us hl=>bz1 (us:=us) hl λ_=>rfl
 have CN:=RW l.prog w base G.T Kr 41 "_law_told" rfl Ct (λF=>Ce T CP F) λ_ _ _ _ _ _ us hl=>bz1 (us:=us) hl λ_=>rfl
 exact λ{_ _} F=>Kav T Bm C8 C5 BM BL BO Bt BN BP CN F
noncomputable abbrev d_av:DefRec:=⟨"law", ZT Sav,KZ Sav,U6 Sav,Mo Sav⟩
theorem walk{XP:(Str->CB)->Heap->Prop}(hlaw:∀ns:CD,ns.length<=63->Y1 [.list (ns.map int)]=O (.bool Cv)):PySem.W.WalkO q0 [] XP (λ_ h=>XYP p0 clsL h) (PySem.Challenge.rw_wishdeal_k89_papers_written_and_read).row.toRowW d_av [] (λf vs=>PySem.call f vs):=
 E1 (n:=63) (k:=8) (x:= "_law_script") Ct (by decide) Ct ⟨rfl,by decide,by decide,rfl⟩ (λ_ _ _ _ _ _ G Y hm=>M8 G Y hm) hlaw
theorem O0{sizes found:CD}{z d:Int}(h:∀(j:Nat) d z,found[j]?=O d->sizes[j]?=O z->0<=d/\d<z)(hz:sizes[found.length]?=O z)(h0:0<=d/\d<z) :
  ∀(j:Nat) d' z',(found++[d])[j]?=O d'->sizes[j]?=O z'->0<=d'/\d'<z':=by
 intro j d' z' e1 e2;by_cases hj:j<found.length
 .rw[Qq hj]at e1
  exact h j d' z' e1 e2
 .by_cases hj2:j=found.length
  .subst hj2
   rw[hz]at e2;cases e2;rw[Qr (Qs _),JU,List.getElem?_cons_zero]at e1;cases e1;exact h0
  .rw[List.getElem?_eq_none (by rw[Qu,JM];lia)]at e1
   cases e1
noncomputable abbrev pb(d:D):Option Sl:=O (.pub d)
def inv(c s:Int)(sizes:CD)(n:Int)(i:Nat)(ρ:Ur):Prop:=∃left found x6 x7,ρ=[O (Sl.pub (.int c)),pb (.int s),pb (.list (sizes.map .int)),pb (.int n),pb (.int left),O (.own ((found:CD).map .int)),x6,x7] /\
 found.length=i/\∀(j:Nat) d z,found[j]?=O d->sizes[j]?=O z->0<=d/\d<z
theorem En{c s n:Int}{sizes:CD}(hs:∀x∈sizes,0<x/\x<18446744073709551616)(hl:sizes.length<=1000){i:Nat}{d:D}{ρ:Ur}{Q:Out->Prop}(hi:(Zp 0 sizes.length)[i]?=O d)(h:inv c s sizes n i ρ) :
  ∃ρ2,gN 6 d ρ=O ρ2/\Ho Sv ρ2 (Wo (inv c s sizes n (i+1)) Q):=by
 obtain⟨left,found,x6,x7,rfl,hf,hfd⟩:=h;obtain⟨rfl,hlt⟩:=Re hi;obtain⟨z,hz⟩:∃z,sizes[i]?=O z:=⟨sizes[i]'(by lia),Qi _⟩
 obtain⟨z1,z2⟩:=hs z (QL hz);have hix:oIx (.list (sizes.map int)) (.int (0+(i:Int)))=O (.int z):=by rw[Int.zero_add];exact ZC (by rw[Qx,hz];rfl)
 generalize hk:(0:Int)+(i:Int)=k at hix⊢;have hk1:k<18446744073709551616:=by lia
 have hk2 : -18446744073709551616<k:=by lia
 have hlen:(found.map int).length<1000000:=by rw[Qg];lia
 have pw:Zw (.int 10) (.int 18)=O (.int 1000000000000000000):=by rw[SB (by decide)];rfl
 refine⟨_,UP (Qa Ct) Ct,?_⟩;unfold Sv;apply U5
 case h1=>exact Sg (Zf Ct (UI Uy Uy pw) Ct) λ_=>Zf Ct Uy Ct
 case h2=>intro _;refine UY (XA Ct (UI (Ux Ct) (KU Ct (Ux Ct) hix) (ZO (by lia))) Ct hlen Ct) ?_;refine Zs (Kj (UI (Ux Ct) (KU Ct (Ux Ct) hix) (PQ (by lia) (by lia))) (Qa Ct) Ct) (Yg ?_);exact⟨_,found++[left % z],_,_,by rw[Q1];rfl,by rw[Qu,hf];rfl,O0 hfd (by rw[hf];exact hz) ⟨JS _ (by lia),JJ _ z1⟩⟩
 case h3=>intro _;refine UY (Kj (UI (UI (UI (UI (Ux Ct) (UI Uy (Ux Ct) (Vs (by decide) (by decide))) Zb) (UI (UI Uy (Ux Ct) (Vs (by decide) (by decide))) (Ux Ct) (Vr hk2 hk1)) Zb) (Ux Ct) Zb) Uy (ZO (by decide))) (Qa Ct) Ct) ?_;refine UY (Kj (UI (UI (Ux Ct) Uy (Vr (by decide) (by decide))) Uy (ZO (by decide))) (Qa Ct) Ct) ?_;refine UY (Kj (UI (UI (UI (UI (Ux Ct) (Ux Ct) (Vr (by lia) (by lia))) Uy (ZO (by decide))) Uy (Vr (by decide) (by decide))) Uy (ZO (by decide))) (Qa Ct) Ct) ?_;refine Zs (XA Ct (UI (UI (Ux Ct) Uy (PQ (by decide) (by decide))) (KU Ct (Ux Ct) hix) (ZO (by lia))) Ct hlen Ct) (Yg ?_);exact⟨_,found++[_ % z],_,_,by rw[Q1];rfl,by rw[Qu,hf];rfl,O0 hfd (by rw[hf];exact hz) ⟨JS _ (by lia),JJ _ z1⟩⟩
theorem TW(c s:Int){sizes:CD}(hs:∀x∈sizes,0<x/\x<18446744073709551616)(hl:sizes.length<=1000) :
  ∃r,K7 [.int c,.int s,.list (sizes.map int)]=O r/\∃ds:CD,r=.list (ds.map .int)/\ds.length=sizes.length/\∀(j:Nat) d z,ds[j]?=O d->sizes[j]?=O z->0<=d/\d<z:=by
 refine V1 (ρ:=[pb (.int c),pb (.int s),pb (.list (sizes.map int)),Cu,Cu,Cu,Cu,Cu]) Ct ?_;unfold Wb;refine UY (Kj (YC (UA (Ux Ct) (UA (UI (R1 Uy) (Ux Ct) HH) UD)) PP) (Qa Ct) Ct) ?_;refine UY (Kj (Ux Ct) (Qa Ct) Ct) ?_;refine UY (YB (Xm UD (Qa Ct)) (Qa Ct) Ct) ?_;apply UZ;apply YF (ds:=Zp 0 sizes.length) (inv c s sizes (if -1-c > c then -1-c else c))
 case h1=>exact Tj (UA (Zg Ct (by rw[Tw,Qg])) UD) (Tv (by lia) (by lia))
 case h0=>exact⟨_,[],Cu,Cu,rfl,rfl,λj d z e=>by cases e⟩
 case hst=>exact λi d ρ e h=>En hs hl e h
 case hend=>rintro ρ ⟨left,found,x6,x7,rfl,hf,hfd⟩;rw[TU]at hf;exact U8 (Ki (WP rfl rfl) ⟨_,rfl,found,rfl,by lia,hfd⟩)
mutual
theorem Ob:∀(d:PyData),d.canLay0=Cv->Ui d d=Cv
 |.none,_=>rfl
 |.bool b,_=>by cases b<;>rfl
 |.int i,_=>by simp[Ui]
 |.str s,_=>by simp[Ui]
 |.list xs,h=>eqvAll_refl xs h
 |.tuple xs,h=>eqvAll_refl xs h
 |.dict _,h=>by cases h
theorem eqvAll_refl:∀(xs:List PyData),Ug xs=Cv->PyData.eqvAll xs xs=Cv
 |[],_=>rfl
 |x::r,h=>by
  have h:(PyData.canLay0 x&&Ug r)=Cv:=h;rw[Qw]at h
  show(Ui x x&&PyData.eqvAll r r)=Cv
  rw[Ob x h.1,eqvAll_refl r h.2];rfl
end
theorem TN:∀{xs:Cy},(∀x∈xs,PyData.canLay0 x=Cv)->Ug xs=Cv
 |[],_=>rfl
 |x::r,h=>by
  show(PyData.canLay0 x&&Ug r)=Cv
  rw[h x Qj,TN λy hy=>h y (Ql _ hy)];rfl
theorem S8{n:Nat}:∀{xs:Cy},(∀x∈xs,Uh x<=n)->PyData.depthAll xs<=n
 |[],_=>by simp[PyData.depthAll]
 |x::r,h=>by
  have h1:=h x Qj;have h2:=S8 (n:=n) λy hy=>h y (Ql _ hy);simp only[PyData.depthAll]
  lia
noncomputable def UK(r:CD):D:=.list (r.map int)
theorem Oa(r:CD):(UK r).canLay0=Cv:=TN λx hx=>by obtain⟨y,_,rfl⟩:=Q6.mp hx;rfl
theorem HZ(i:Int):(int i).depth<=1:=by simp[Uh]
theorem Po{n:Nat}{xs:Cy}(h:PyData.depthAll xs<=n):(Uc xs).depth<=n+1:=by simp only[Uh];lia
theorem P9(r:CD):(UK r).depth<=2:=Po (S8 λx hx=>by obtain⟨y,_,rfl⟩:=Q6.mp hx;exact HZ y)
theorem Tq{d:D}:∀{xs:Cy}{k i:Nat},(ZB k xs)[i]?=O d->∃x,xs[i]?=O x/\d=.tuple [.int ((k+i:Nat):Int),x]
 |[],k,i,h=>by cases h
 |x::r,k,0,h=>by cases h;exact⟨x,rfl,rfl⟩
 |x::r,k,i+1,h=>by obtain⟨y,e,q⟩:=Tq (xs:=r) (k:=k+1) (i:=i) h;exact⟨y,e,by rw[q];congr 4;lia⟩
theorem HY{d:D}(h1:d.canLay0=Cv)(h2:d.depth<=60):oNe d d=O Cw:=by unfold oNe;rw[Qo ⟨h1,h1,h2⟩,Ob _ h1];rfl
theorem F6{xs:Cy}{a b:CH}:(DL.cutD xs a b).length<=xs.length:=by
 unfold DL.cutD;rw[Jx,Jc]
 lia
theorem F5{xs:Cy}{a b:CH}{x:D}(h:x∈DL.cutD xs a b):x∈xs:=by unfold DL.cutD at h;exact JD (JC h)
theorem Em{ns:CD}{n:Int}{a b:CH}{i:Nat}{x:D}(h:(int n::DL.cutD (ns.map int) a b)[i]?=O x):∃c:Int,x=.int c:=by
 have hm:=QL h;rcases QC.mp hm with rfl|hm
 .exact⟨n,rfl⟩
 .obtain⟨c,_,rfl⟩:=Q6.mp (F5 hm)
  exact⟨c,rfl⟩
theorem El{ns:CD}{n:Int}{a b:CH}(h:ns.length<=1000):UC (.list [.int n]) (.list (DL.cutD (ns.map int) a b))=O (.list (int n::DL.cutD (ns.map int) a b)):=Tx (by
 have:=F6 (xs:=ns.map int) (a:=a) (b:=b);rw[Qg]at this;show 1+_<=_
 lia)
theorem Vp(z:Str)(a b:CH):(KF z a b).length<=z.length:=by
 unfold KF;split
 .exact Qs _
 .show Array.size _<=_
  rw[QQ];exact Qn (List.length_filterMap_le _ _) (sliceIndices_le a b z.length)
theorem Tg{z:Str}{a b:CH}(h:Uf z=Cv):Uf (KF z a b)=Cv:=by
 unfold KF;split
 .exact h
 .unfold Uf at h⊢
  rw[Array.all_eq_true']at h;rw[List.all_toArray,QG];intro c hc;obtain⟨i,_,e⟩:=List.mem_filterMap.mp hc;exact h c (Array.mem_of_getElem? e)
theorem HX{z:Str}{a b:CH}(h:z.length<=1000000):KL (.str z) a b=O (.str (KF z a b)):=FD (Qn (Vp z a b) h)
theorem XH{a b:Str}(h1:Uf a=Cv)(h2:Uf b=Cv):Uf (a++b)=Cv:=by
 unfold Uf at *
 show(a.cps++b.cps).all _=Cv
 rw[Array.all_append,h1,h2];rfl
theorem WK(a b:Str):(a++b).length=a.length+b.length:=by
 show(a.cps++b.cps).size=_
 rw[Array.size_append];rfl
theorem HW{c:Nat}(h:c<1114112):Uf ⟨#[c]⟩=Cv:=by unfold Uf;simp[h]
theorem ixm{xs:Cy}{i:Int}{n:Nat}(h0:0<=i)(h1:i<n)(hl:xs.length=n):∃d,oIx (.list xs) (.int i)=O d/\d∈xs:=by
 have hi:i.toNat<xs.length:=by omega
 exact⟨xs[i.toNat],V3 h0 (Qi hi),JG hi⟩
theorem DH{i:Int}(h0:0<=i):∃c,Y6 [.int i]=O (.str ⟨#[c]⟩)/\c<1114112:=by
 have Br:=JS i (show(96:Int)≠0 by decide);have hm1:=JJ i (show(0:Int)<96 by decide);have hz:((" !\"#$&'()*+,-./0123456789:;<=>?@ABCDEFGHIJKLMNOPQRSTUVWXYZ[\\]^_`" : Str)++("abcdefghijklmnopqrstuvwxyz{|}~\n\t" : Str)).cps.size=96:=by decide +kernel
 have hall:((" !\"#$&'()*+,-./0123456789:;<=>?@ABCDEFGHIJKLMNOPQRSTUVWXYZ[\\]^_`" : Str)++("abcdefghijklmnopqrstuvwxyz{|}~\n\t" : Str)).cps.toList.all (λc=>decide (c<1114112))=Cv:=by decide +kernel
 have hs:(" !\"#$&'()*+,-./0123456789:;<=>?@ABCDEFGHIJKLMNOPQRSTUVWXYZ[\\]^_`" : Str).length+("abcdefghijklmnopqrstuvwxyz{|}~\n\t" : Str).length<=1000000:=by decide +kernel
 generalize hA:(" !\"#$&'()*+,-./0123456789:;<=>?@ABCDEFGHIJKLMNOPQRSTUVWXYZ[\\]^_`" : Str)=A at hz hall hs
 generalize hB:("abcdefghijklmnopqrstuvwxyz{|}~\n\t" : Str)=B at hz hall hs;have hi:(i % 96).toNat<(A++B).cps.toList.length:=by rw[Array.length_toList,hz];omega
 refine⟨(A++B).cps.toList[(i % 96).toNat],Zc (ρ:=[pb (.int i),Cu]) Ct ?_,?_⟩
 .unfold Wa
  rw[hA,hB];have hadd:=XS hs
  have hix:oIx (.str (A++B)) (.int (i % 96))=O (.str ⟨#[(A++B).cps.toList[(i % 96).toNat]]⟩):=by
   unfold oIx;have hl:(A++B).length=96:=hz;have ha:atI (A++B).cps.toList (i % 96)=O (A++B).cps.toList[(i % 96).toNat]:=V3 Br (Qi hi)
   show(if _ then _ else _)=_
   rw[Qo (by omega),ha];rfl
  refine UY (Kj Uy (Qa Ct) Ct) ?_;refine UY (Kj (UI (Ux Ct) Uy hadd) (Qa Ct) Ct) ?_;exact Ki (KU Ct (UI (Ux Ct) Uy (ZO (by decide))) hix) Ct
 .have:=QG.mp hall _ (JG hi)
  simpa using this
theorem HV{j:Nat}(h:j<1000000):Xs (.int j)=Cv:=by
 unfold Xs;simp only[Qw,Q4]
 constructor<;>lia
noncomputable def dg(n:Nat):List Char:=if n=0 then []else Nat.toDigits 10 n
theorem WD{n:Nat}(h:n≠0):dg n=Nat.toDigits 10 n:=Qv h
theorem Pn{n d:Nat}(hd:d<10)(h:n≠0∨d≠0):dg (n*10+d)=dg n++[d.digitChar]:=by
 have e:n*10+d=10*n+d:=by omega
 rw[WD (by omega),e];by_cases hn:n=0
 .subst hn
  rw[Nat.mul_zero,JI,Nat.toDigits_of_lt_base hd];rfl
 .rw[WD hn,←Nat.toDigits_append_toDigits (by decide) (by omega) hd,Nat.toDigits_of_lt_base hd]
theorem RT:∀(k n:Nat),n<10 ^ k->(dg n).length<=k
 |0,n,h=>by
  have:n=0:=by simpa using h
  subst this;exact Qs _
 |k+1,n,h=>by
  by_cases hn:n=0
  .subst hn;exact JN _
  .have e:n=(n / 10)*10+n % 10:=by omega
   rw[e,Pn (Nat.mod_lt _ (by decide)) (by omega),Qu];have:=RT k (n / 10) (by rw[Nat.pow_succ]at h;omega);show _+1<=_;omega
theorem HU{n:Nat}(h:n≠0):Uk (toString (n:Int))=tx (dg n):=by rw[WD h,Int.toString_eq_repr,Int.repr_eq_if,Qo (by omega),Jr,Nat.repr_eq_ofList_toDigits,Rn,String.toList_ofList]
theorem str0:Uk (toString (0:Int))=tx ['0']:=by rw[Rn];rfl
theorem HS{n:Int}(h:n.natAbs<10 ^ 60):n.natAbs.log2<1920:=by
 by_cases h0:n.natAbs=0
 .rw[h0];decide
 .rw[Nat.log2_lt h0]
  exact Nat.lt_trans h (by decide)
noncomputable def stL(l:CG):Str:=⟨l.toArray⟩
theorem ZM(l:CG):(stL l).length=l.length:=QQ
theorem T9(z:Str):z=stL z.cps.toList:=by unfold stL;cases z;rfl
theorem Tf(a b:CG):(stL a==stL b)=decide (a=b):=by
 by_cases h:a=b
 .subst h;simp
 .have h2:¬stL a=stL b:=λe=>h (by
   have e2:(stL a).cps=(stL b).cps:=by rw[e]
   have e3:(stL a).cps.toList=(stL b).cps.toList:=by rw[e2]
   exact e3)
  rw[Qt h];simpa using h2
theorem YE{l:CG}(h:∀c∈l,c<1114112):Uf (stL l)=Cv:=by unfold Uf stL;rw[List.all_toArray,QG];intro c hc;simpa using h c hc
theorem S7{l:CG}(h:Uf (stL l)=Cv):∀c∈l,c<1114112:=by unfold Uf stL at h;rw[List.all_toArray,QG]at h;intro c hc;simpa using h c hc
theorem Pm{a b:Str}(ha:Uf a=Cv)(hb:Uf b=Cv):oEq (.str a) (.str b)=O (a==b):=by unfold oEq;rw[Qo ⟨ha,hb,OD⟩];rfl
theorem Vh{a b:Str}(ha:Uf a=Cv)(hb:Uf b=Cv):oNe (.str a) (.str b)=O (!(a==b)):=by unfold oNe;rw[Qo ⟨ha,hb,OD⟩];rfl
noncomputable def U3(c:Nat):Bool:=decide (48<=c/\c<=57)
theorem F4:("0123456789" : Str).cps.toList=[48,49,50,51,52,53,54,55,56,57]:=by kernel_rfl
theorem RS(c:Nat):inS ⟨#[c]⟩ "0123456789" = U3 c:=by
 unfold inS;rw[StrLaws.found_one,F4];unfold U3;by_cases h:48<=c/\c<=57
 .rw[QM h]
  simp only[QC,Jd,or_false,Q4];omega
 .rw[Qt h]
  simp only[QC,Jd,or_false,Q7];omega
theorem HR{c:Nat}(h:U3 c=Cv):Txt.find "0123456789" ⟨#[c]⟩=((c-48:Nat):Int):=by
 unfold U3 at h;have h:=Qa h;have:c=48∨c=49∨c=50∨c=51∨c=52∨c=53∨c=54∨c=55∨c=56∨c=57:=by omega
 rcases this with rfl|rfl|rfl|rfl|rfl|rfl|rfl|rfl|rfl|rfl<;>kernel_rfl
noncomputable def UH(l:CG):CG:=if l.take 1=[45]then l.drop 1 else l
noncomputable def okN(l:CG):Bool:=decide (1<=(UH l).length)&&decide ((UH l).length<=60)&&(UH l).all U3&&(decide ((UH l).head?≠O 48) || decide (l=[48]))
noncomputable def vNm(l:CG):Int:=if l.take 1=[45]then 0-((NumText.digitsVal (UH l):Nat):Int)else((NumText.digitsVal (UH l):Nat):Int)
theorem F3(l:CG):(UH l).length<=l.length:=by
 unfold UH;split
 .rw[Jc];omega
 .exact Qs _
theorem F2{l:CG}{c:Nat}(h:c∈UH l):c∈l:=by
 unfold UH at h;split at h
 .exact JD h
 .exact h
theorem Rv:("-" : Str)=stL [45]:=by kernel_rfl
theorem VI:("0" : Str)=stL [48]:=by kernel_rfl
theorem F1(l:CG):Txt.removeprefix (stL l) "-" = stL (UH l):=by
 rw[StrLaws.removeprefix_eq,StrLaws.subAt_eq,Rv];have e1:(stL [45]).length=1:=rfl;have e2:(stL l).cps.toList=l:=rfl;have e3:(stL [45]).cps.toList=[45]:=rfl;rw[e1,e2,e3,ZM,JT];unfold UH;by_cases h:l.take 1=[45]
 .have hl:1<=l.length:=by
   cases l with
   |nil=>simp at h
   |cons c r=>simp
  rw[if_pos h,if_pos (by rw[h];simp;omega)];show stL _=_;rw[List.take_of_length_le (by rw[Jc];omega)]
 .rw[if_neg h,if_neg (by simp[h])]
theorem HQ{p:CG}{c:Nat}:NumText.digitsVal (p++[c])=NumText.digitsVal p*10+(c-48):=by unfold NumText.digitsVal;rw[List.foldl_append];rfl
theorem OS{l:CG}{i c:Nat}(h:l[i]?=O c):l.take (i+1)=l.take i++[c]:=by rw[List.take_add_one,h];rfl
theorem Ru{c:Nat}{r:CG}(hl:(c::r).length<=1000000):oIx (.str (stL (c::r))) (.int 0)=O (.str (stL [c])):=by unfold oIx;dsimp only;rw[Qo (by rw[ZM];exact hl)];have e2:(stL (c::r)).cps.toList=c::r:=rfl;have ha:atI (c::r) 0=O c:=V3 (by decide) Ct;rw[e2,ha];rfl
theorem Ss{p:Str->Str->CA}{f:M D}{g:M Cy}{ρ ρ1 ρ2:Ur}{z y:Str}{r:D}(h1:f ρ=.ok (.str z) ρ1)(h2:g ρ1=.ok [.str y] ρ2)(h3:p z y=O r):WA p f g ρ=.ok r ρ2:=by unfold WA;exact U4 h1 (U4 h2 (K0 h3))
theorem Ek{l:CG}(h:okN l=Cv):1<=(UH l).length/\(UH l).length<=60/\(UH l).all U3=Cv/\((UH l).head?≠O 48∨l=[48]):=by unfold okN at h;simp only[Qw,Bool.or_eq_true,Q4]at h;exact⟨h.1.1.1,h.1.1.2,h.1.2,h.2⟩
theorem Ej{l:CG}(h:okN l=Cv):W4 [.str (stL l)]=O (.int (vNm l)):=by
 obtain⟨h1,h2,h3,_⟩:=Ek h;have hd:NumText.AllDigits (UH l):=by intro c hc;have:=QG.mp h3 c hc;unfold U3 at this;exact Qa this
 have hne:UH l≠[]:=by intro e;rw[e]at h1;simp at h1
 unfold W4;dsimp only;unfold vNm;by_cases hs:l.take 1=[45]
 .obtain⟨r,rfl⟩:∃r,l=45::r:=by
   cases l with
   |nil=>simp at hs
   |cons c r=>simp at hs;exact⟨r,by rw[hs]⟩
  have hf:UH (45::r)=r:=by unfold UH;rw[Qo hs];rfl
  rw[hf]at h1 h2 h3 hd hne;have hlen:(stL (45::r)).length<=640:=by rw[ZM,QF];omega
  rw[Qo hlen,Qo hs,intText_neg (x:=stL (45::r)) (cs:=r) Ct hd hne (Qn hlen (by decide)),hf,Int.zero_sub];rfl
 .have hf:UH l=l:=by unfold UH;rw[Qv hs]
  rw[hf]at h1 h2 h3 hd hne;have hlen:(stL l).length<=640:=by rw[ZM];omega
  rw[Qo hlen,Qv hs,intText_digits (x:=stL l) hd hne (Qn hlen (by decide)),hf];rfl
noncomputable def shd(m:Nat):CG:=(dg m).map Char.toNat
theorem GB:∀d:Fin 10,(Nat.digitChar d).toNat=48+d:=by decide
theorem M7{m:Nat}:(shd m).all U3=Cv:=by
 rw[QG];intro c hc;obtain⟨ch,hch,rfl⟩:=Q6.mp hc;by_cases h0:m=0
 .subst h0;cases hch
 .rw[WD h0]at hch
  have r:=PyProof.Rows.digit_range (Nat.isDigit_of_mem_toDigits (by decide) (by decide) hch);exact QM r
theorem GA{m:Nat}(h:m≠0):NumText.digitsVal (shd m)=m:=by unfold shd;rw[WD h];exact PySem.W.KIN.val_back m
theorem M6(m:Nat):m≠0->(shd m).head?≠O 48/\shd m≠[]:=by
 induction m using Nat.strongRecOn with
 |_ m ih=>
  intro h0;by_cases h:m<10
  .have e:dg m=[m.digitChar]:=by rw[WD h0,Nat.toDigits_of_lt_base h]
   have e2:=GB ⟨m,h⟩;unfold shd;rw[e];refine⟨?_,by simp⟩;intro e3;have e3:(Nat.digitChar m).toNat=48:=by simpa using e3
   have e2:(Nat.digitChar m).toNat=48+m:=e2;omega
  .have e:m=(m / 10)*10+m % 10:=by omega
   obtain⟨i1,i2⟩:=ih (m / 10) (by omega) (by omega);have e2:shd m=shd (m / 10)++[(m % 10).digitChar.toNat]:=by unfold shd;rw[JV dg e,Pn (Nat.mod_lt _ (by decide)) (by omega),Q1];rfl
   rw[e2];cases hs:shd (m / 10)with
   |nil=>exact absurd hs i2
   |cons x r=>rw[hs]at i1;exact⟨i1,by simp⟩
theorem Gz{m:Nat}(h:m<10 ^ 60):(shd m).length<=60:=by unfold shd;rw[Qg];exact RT 60 m h
theorem M5{l:CG}(h:l.all U3=Cv):∀c∈l,c<1114112:=by intro c hc;have:=QG.mp h c hc;unfold U3 at this;have:=Qa this;omega
theorem Rt{α:Type}{s:D->Ur->CI}{t:M Bool}{f:M D}(e:α->D)(I:Ur->Prop):∀(l:List α)(ρ:Ur)(es:Cy),(∀x∈l,∀ρ,I ρ->∃ρ1,s (e x) ρ=O ρ1/\t ρ1=.ok Cw ρ1/\I (Kb ρ1))->I ρ ->
  K1 s t f (l.map e) ρ es=O es
 |[],ρ,es,_,_=>by rw[List.map_nil,K1]
 |x::l,ρ,es,st,h0=>by obtain⟨ρ1,e1,e2,e3⟩:=st x Qj ρ h0;rw[QI,K1,e1];dsimp only;rw[e2];dsimp only;rw[Qv (by decide)];exact Rt e I l _ es (λy hy=>st y (Ql _ hy)) e3
theorem Pl{N:List Str}{g:SM}{f:M D}{ds:Cy}{d:D}{ρ:Ur}(h0:KA N ds=ρ)(h:Ho g ρ λo=>∃ρ1,o=.nx ρ1/\∃ρ2,f ρ1=.ok d ρ2):Xr N g f ds=O d:=by obtain⟨d',h1,h2⟩:=Me (P:=λx=>x=d) h0 (by obtain⟨ρ1,e,ρ2,e2⟩:=h.out;exact⟨⟨ρ1,e,d,ρ2,e2,rfl⟩⟩);rw[←h2];exact h1
def VZ(F:Cy->CA)(d:D):Prop:=F [d,d]=O (.bool Cv)
theorem S0(F:Cy->CA)(i:Int):VZ (Zm F) (.int i):=by
 refine Zc (ρ:=[pb (.int i),pb (.int i)]) Ct ?_;unfold YT;apply UZ;refine U5 (b:=Cw) (ρ1:=[pb (.int i),pb (.int i)]) (ZF (Sw (d:=.int i) (Ux Ct) Ct)) (λz=>by cases z) λ_=>Ka (U8 ?_)
 apply UZ;refine U5 (b:=Cw) (ρ1:=[pb (.int i),pb (.int i)]) (KN (x:=.int i) (Ux Ct)) (λz=>by cases z) λ_=>Ka (U8 ?_)
 apply UZ;refine U5 (b:=Cw) (ρ1:=[pb (.int i),pb (.int i)]) (HF (Ux Ct) Ct) (λz=>by cases z) λ_=>Ka (U8 ?_)
 have h:oEq (.int i) (.int i)=O Cv:=by rw[Z8];simp
 exact Ki (Vk (t:=Cv) (u:=Cv) (Ts (Ux Ct) Ct) λ_=>Vk (t:=Cv) (u:=Cv) (PR (t:=Cw) (Ts (Ux Ct) Ct)) λ_=>KN (Zf Ct (Ux Ct) h)) Ct
theorem Gy{xs:Cy}{a:Nat}:DL.cutD xs Cu (O (a:Int))=xs.take a:=by
 unfold DL.cutD HT.sIx;dsimp only;rw[Qv (by omega),JT,Nat.sub_zero,Jr];rcases Nat.le_total a xs.length with h|h
 .rw[Nat.min_eq_left h]
 .rw[Nat.min_eq_right h,List.take_length,List.take_of_length_le h]
theorem Ei{xs:Cy}{a:Nat}:DL.cutD xs (O (a:Int)) Cu=xs.drop a:=by
 unfold DL.cutD HT.sIx;dsimp only;rw[Qv (by omega),Jr];rcases Nat.le_total a xs.length with h|h
 .rw[Nat.min_eq_left h,←Jc,List.take_length]
 .rw[Nat.min_eq_right h,List.drop_length,List.drop_of_length_le h,JU];rfl
theorem Vo(sep:Str)(zs:List Str):YD sep zs=Str.join sep zs:=by
 unfold YD;split
 .rfl
 .exact StrLaws.glued_eq_join sep zs
theorem FZ(n:Nat):Zp 0 ((n:Nat):Int)=(Ua n).map λk=>.int (k:Int):=by
 unfold Zp;have:((n:Int)-0).toNat=n:=by omega
 rw[this];exact Jt λk _=>by rw[Int.zero_add]
theorem Zx{α:Type}{s:D->Ur->CI}{f:M D}(e k:α->D)(I:Ur->Prop):∀(l:List α)(ρ:Ur)(es:Cy),(∀x∈l,∀ρ,I ρ->∃ρ1,s (e x) ρ=O ρ1/\f ρ1=.ok (k x) ρ1/\I (Kb ρ1))->I ρ->es.length+l.length<=1000000 ->
  K1 s (Us Cv) f (l.map e) ρ es=O (es++l.map k)
 |[],ρ,es,_,_,_=>by rw[List.map_nil,K1,List.map_nil,QO]
 |x::l,ρ,es,st,h0,hz=>by rw[QF]at hz;obtain⟨ρ1,e1,e2,e3⟩:=st x Qj ρ h0;rw[QI,K1,e1];dsimp only[Us];rw[Qo Ct,e2];dsimp only;rw[Qo (by omega),QI];refine(Zx e k I l _ (es++[k x]) (λy hy=>st y (Ql _ hy)) e3 (by rw[Qu,JM];omega)).trans ?_;rw[Jq];rfl
theorem VY{s b:Nat}:∀{zs:List Str},(∀p∈zs,p.length<=b)->(zs.map λp=>s+p.length).sum<=zs.length*(s+b)
 |[],_=>JN _
 |p::r,h=>by
  have h1:=h p Qj;have h2:=VY (s:=s) (b:=b) λq hq=>h q (Ql _ hq);rw[QI,Ja,QF,Nat.succ_mul]
  lia
theorem Gx{sep:Str}{b:Nat}{zs:List Str}(h:∀p∈zs,p.length<=b):(Str.join sep zs).length<=zs.length*(sep.length+b):=by rw[←Vo];exact Qn Vz (VY h)
theorem T5{sep:Str}{b:Nat}{zs:List Str}(h:∀p∈zs,p.length<=b)(hz:zs.length*(sep.length+b)<=1000000):Yw (.str sep) [.list (zs.map Ue)]=O (.str (Str.join sep zs)):=by rw[Of (Qn (VY h) hz),Vo]
theorem Vc{sep:Str}(hs:Uf sep=Cv):∀{zs:List Str},(∀p∈zs,Uf p=Cv)->Uf (Str.join sep zs)=Cv
 |[],_=>by show Uf Str.empty=Cv;decide +kernel
 |[p],h=>h p Qj
 |p::q::r,h=>XH (XH (h p Qj) hs) (Vc hs λx hx=>h x (Ql _ hx))
theorem Oy{sep:Str}{p q:Str}{r:List Str}:Str.join sep (p::q::r)=p++sep++Str.join sep (q::r):=rfl
theorem RR{a b:Str}(h:Uf (a++b)=Cv):Uf a=Cv/\Uf b=Cv:=by unfold Uf at *;have h:(a.cps++b.cps).all _=Cv:=h;rw[Array.all_append,Qw]at h;exact h
theorem Pk{sep:Str}:∀{ps:List Str},Uf (Str.join sep ps)=Cv->∀p∈ps,Uf p=Cv
 |[],_,p,hp=>by cases hp
 |[q],h,p,hp=>by rw[QK.mp hp];exact h
 |q::q2::r,h,p,hp=>by
  rw[Oy]at h;obtain⟨h1,h2⟩:=RR h;rcases QC.mp hp with rfl|hp
  .exact(RR h1).1
  .exact Pk h2 p hp
theorem Vn{z y:Str}(h:Uf z=Cv):∀p∈Txt.split z y,Uf p=Cv:=Pk (sep:=y) (by rw[StrLaws.join_split];exact h)
theorem Gw{z y:Str}(hy:1<=y.length):((Txt.split z y).map λp=>p.length+1).sum<=z.length+1:=by
 have h:=PyProof.Rows.split_weight z y hy
 have:∀l:List Str,(l.map λp=>p.length+1).sum=(l.map (·.length)).sum+l.length:=λl=>by
  induction l with
  |nil=>rfl
  |cons a l ih=>rw[QI,QI,Ja,Ja,ih,QF];omega
 rw[this];exact h
theorem OR{z y:Str}(hy:1<=y.length):(Txt.split z y).length<=z.length+1:=by have h:=PyProof.Rows.split_weight z y hy;omega
theorem Ox(z y:Str):∃p r,Txt.split z y=p::r:=by
 have:=PyProof.Rows.split_pos z y;cases h:Txt.split z y with
 |nil=>rw[h]at this;simp at this
 |cons p r=>exact⟨p,r,rfl⟩
theorem Vx{z y p:Str}(h:p∈Txt.split z y):p.length<=z.length:=PyProof.Rows.part_short h
theorem FY{c:Nat}:∀{ps qs:List Str},ps≠[]->qs≠[]->(∀p∈ps,c∉p.cps.toList)->(∀q∈qs,c∉q.cps.toList)->Str.join ⟨#[c]⟩ ps=Str.join ⟨#[c]⟩ qs->ps=qs:=by
 have cons_inj:∀{a b u v:CG},c∉a->c∉b->a++c::u=b++c::v->a=b/\u=v:=by
  intro a;induction a with
  |nil=>
   intro b u v _ hb e;cases b with
   |nil=>exact⟨rfl,by injection e⟩
   |cons x b=>injection e with e1 e2;exact absurd (by rw[e1];exact Qj) hb
  |cons x a ih=>
   intro b u v ha hb e;cases b with
   |nil=>injection e with e1 e2;exact absurd (by rw[e1];exact Qj) ha
   |cons y b=>
    injection e with e1 e2
    obtain⟨h1,h2⟩:=ih (λm=>ha (Ql _ m)) (λm=>hb (Ql _ m)) e2;exact⟨by rw[e1,h1],h2⟩
 have cps:∀(p q:Str)(r:List Str),(Str.join ⟨#[c]⟩ (p::q::r)).cps.toList=p.cps.toList++c::(Str.join ⟨#[c]⟩ (q::r)).cps.toList:=λp q r=>by
  show(p.cps ++ #[c]++(Str.join ⟨#[c]⟩ (q::r)).cps).toList=_
  rw[Array.toList_append,Array.toList_append,Jq];rfl
 have ext:∀{p q:Str},p.cps.toList=q.cps.toList->p=q:=λ{p q} e=>by cases p;cases q;exact JV Str.mk (Array.toList_inj.mp e)
 intro ps;induction ps with
 |nil=>intro qs h;exact absurd Ct h
 |cons p ps ih=>
  intro qs _ hq hp' Ba e;cases qs with
  |nil=>exact absurd Ct hq
  |cons q qs=>
  cases ps with
  |nil=>
   cases qs with
   |nil=>exact JV (· :: []) e
   |cons q2 r=>have e2:=JV (λs:Str=>s.cps.toList) e;rw[cps]at e2;have e2:p.cps.toList=q.cps.toList++c::(Str.join ⟨#[c]⟩ (q2::r)).cps.toList:=e2;exact absurd (by rw[e2];simp) (hp' p List.mem_cons_self)
  |cons p2 r1=>
   cases qs with
   |nil=>have e2:=JV (λs:Str=>s.cps.toList) e;rw[cps]at e2;have e2:p.cps.toList++c::(Str.join ⟨#[c]⟩ (p2::r1)).cps.toList=q.cps.toList:=e2;exact absurd (by rw[←e2];simp) (Ba q List.mem_cons_self)
   |cons q2 r2=>have e2:=JV (λs:Str=>s.cps.toList) e;rw[cps,cps]at e2;obtain⟨h1,h2⟩:=cons_inj (hp' p Qj) (Ba q Qj) e2;rw[ext h1,ih (by simp) (by simp) (λx hx=>hp' x (List.mem_cons_of_mem _ hx)) (λx hx=>Ba x (List.mem_cons_of_mem _ hx)) (ext h2)]
theorem OZ{c:Nat}{ps:List Str}(hp:ps≠[])(h:∀p∈ps,c∉p.cps.toList):Txt.split (Str.join ⟨#[c]⟩ ps) ⟨#[c]⟩=ps:=by refine FY (c:=c) ?_ hp (StrLaws.split_free _ c) h (StrLaws.join_split _ _);obtain⟨p,r,e⟩:=Ox (Str.join ⟨#[c]⟩ ps) ⟨#[c]⟩;rw[e];simp
noncomputable def Ws(ws:List Str):D:=.list (ws.map Ue)
theorem WC(ws:List Str):Kd [Ws ws]=O (.int (ws.length:Nat)):=by unfold Ws;rw[Tw,Qg]
theorem T4{ws:List Str}{k:Nat}(h:k<ws.length):oIx (Ws ws) (.int k)=O (.str (ws.getD k "")):=by refine ZC ?_;rw[Qx,Qi h,List.getD,Qi h];rfl
theorem Tp{ws:List Str}{k:Nat}(h:k<ws.length):ws.getD k "" ∈ ws:=by rw[List.getD,Qi h];exact JG h
theorem nlx:(("\n" : Str).length==0)=Cw:=rfl
theorem Gv{k:Nat}(h:k<1000000):Yv "NoText" [.int (k:Int)]=O [.int (k:Int)]:=by have e:Za "NoText" = (["row"]:List Str):=rfl;unfold Yv;rw[e];dsimp only;rw[Qo ⟨rfl,by rw[JL,HV h];rfl⟩]
noncomputable def Kk(l:List Str):Nat:=(l.map λp=>p.length+1).sum
theorem Ow(a b:List Str):Kk (a++b)=Kk a+Kk b:=by unfold Kk;rw[Q1,List.sum_append]
theorem Ov{a b:List Str}(h:a.Sublist b):Kk a<=Kk b:=by
 induction h with
 |slnil=>exact Qs _
 |cons x h ih=>unfold Kk at *;rw[QI,Ja];omega
 |cons_cons x h ih=>unfold Kk at *;rw[QI,QI,Ja,Ja];omega
theorem FX(a:List Str):Kk a.reverse=Kk a:=by
 induction a with
 |nil=>rfl
 |cons x a ih=>rw[List.reverse_cons,Ow,ih];unfold Kk;simp;omega
theorem SZ(l:List Str):l.length<=Kk l:=by
 induction l with
 |nil=>exact Qs _
 |cons x l ih=>unfold Kk at *;rw[QI,Ja,QF];lia
theorem cutW(l:List Str)(a b:CH):∃l',KL (Ws l) a b=O (Ws l')/\l'.Sublist l:=by unfold Ws;rw[WM];unfold DL.cutD;exact⟨_,by rw[←List.map_drop,←List.map_take],(List.take_sublist _ _).trans (List.drop_sublist _ _)⟩
structure RP(B:Nat)(l:List Str):Prop where
 ok:∀y∈l,Uf y=Cv
 w:Kk l<=B
theorem RP.sub{B:Nat}{l l':List Str}(h:RP B l)(s:l'.Sublist l):RP B l':=⟨λy hy=>h.ok y (s.subset hy),Qn (Ov s) h.w⟩
theorem RP.app{B C:Nat}{a b:List Str}(h:RP B a)(k:RP C b):RP (B+C) (a++b):=⟨λy hy=>by
 rcases QW.mp hy with hy|hy
 .exact h.ok y hy
 .exact k.ok y hy,by rw[Ow];have:=h.w;have:=k.w;lia⟩
theorem RP.mono{B C:Nat}{a:List Str}(h:RP B a)(k:B<=C):RP C a:=⟨h.ok,Qn h.w k⟩
theorem FW{a b:List Str}(h:a.length+b.length<=1000000):UC (Ws a) (Ws b)=O (Ws (a++b)):=by unfold Ws;rw[Tx (by rw[Qg,Qg];exact h),Q1]
theorem RP.add{B C:Nat}{a b:List Str}(h:RP B a)(k:RP C b)(hB:B+C<=100000):UC (Ws a) (Ws b)=O (Ws (a++b)):=FW (by have:=SZ a;have:=SZ b;have:=h.w;have:=k.w;lia)
theorem RP.join{B:Nat}{l:List Str}(h:RP B l)(hB:B<=100000):∃t,Yw (.str "\n") [Ws l]=O (.str t)/\Uf t=Cv/\t.length<=B:=by
 have e:(l.map λp=>("\n" : Str).length+p.length).sum=Kk l:=by
  unfold Kk;have:("\n" : Str).length=1:=rfl;rw[this]
  congr 1
  exact Jt λp _=>by lia
 have hw:=h.w;refine⟨YD "\n" l,Of (by rw[e];lia),?_,?_⟩
 .rw[Vo];exact Vc (by decide +kernel) h.ok
 .have:=Vz (sep:= "\n") (zs:=l)
  rw[e]at this;lia
noncomputable def sz86:CD:=[13,1000000,96,64,64,64]
theorem Gu:∀x∈sz86,0<x/\x<18446744073709551616:=by decide
theorem MG{i:Int}(h0:0<=i)(h1:i<11):∃t,oIx (.str " =-0189azq\n") (.int i)=O (.str t)/\Uf t=Cv/\t.length<=1:=by
 have e:i=0∨i=1∨i=2∨i=3∨i=4∨i=5∨i=6∨i=7∨i=8∨i=9∨i=10:=by omega
 rcases e with rfl|rfl|rfl|rfl|rfl|rfl|rfl|rfl|rfl|rfl|rfl<;>exact⟨_,rfl,by decide +kernel,by decide +kernel⟩
theorem YR{l:List Str}{i:Int}(h0:0<=i)(h1:i<l.length):∃t∈l,oIx (Ws l) (.int i)=O (.str t):=by
 have hi:i.toNat<l.length:=by omega
 refine⟨l[i.toNat],JG hi,V3 h0 ?_⟩;rw[Qx,Qi hi];rfl
theorem Pj(a b:Str):(a++b).cps.toList=a.cps.toList++b.cps.toList:=by
 show(a.cps++b.cps).toList=_
 rw[Array.toList_append]
theorem OQ{c:Nat}{sep:Str}(hs:c∉sep.cps.toList):∀{zs:List Str},(∀p∈zs,c∉p.cps.toList)->c∉(Str.join sep zs).cps.toList
 |[],_=>by show c∉Str.empty.cps.toList;simp[Str.empty]
 |[p],h=>h p Qj
 |p::q::r,h=>by
  rw[Oy,Pj,Pj];have ih:=OQ hs (zs:=q::r) λx hx=>h x (Ql _ hx);have h1:=h p Qj;simp only[List.mem_append]
  rintro((m|m)|m)
  .exact h1 m
  .exact hs m
  .exact ih m
theorem MF:(" " : Str)=⟨#[32]⟩:=by decide +kernel
theorem ME:("\n" : Str)=⟨#[10]⟩:=by decide +kernel
theorem FV{t:SM}{Q:Out->Prop}(h:Q .bad):Xu t Q .bad:=⟨h⟩
theorem FT{t:SM}{Q:Out->Prop}{ds:Cy}(h:Q (.ro ds)):Xu t Q (.ro ds):=⟨h⟩
theorem LV{N:List Str}{g:SM}{q:M Cy}{ds es:Cy}{ρ:Ur}(h0:KA N ds=ρ)(h:g ρ=.ro es):ZH N g q ds=O es:=by subst h0;unfold ZH;rw[h]
theorem LU{N:List Str}{g:SM}{ds:Cy}{ρ:Ur}(h0:KA N ds=ρ)(h:Ho g ρ λo=>o=.bad):UX N g ds=Cu:=by subst h0;unfold UX;rw[h.out]
theorem LS{n:Nat}{F:Cy->CA}{g:M Cy}{xs:Cy}{ρ ρ1:Ur}(h1:g ρ=.ok xs ρ1)(h2:xs.length=n)(h3:F xs=Cu):UG n F g ρ=.bad:=by unfold UG UB;rw[h1];dsimp only;rw[if_pos h2,h3];rfl
theorem DW{z:Str}{ms:List Str}(hz:Uf z=Cv)(hl:z.length<=1000)(hm:∀y∈ms,Uf y=Cv/\y.length<=100)(Br:ms≠[])(hml:ms.length<=1000)(c s:Int) :
  ∃r,Y5 [.str z,.int c,.int s,Ws ms]=O r/\∃t,r=.str t/\Uf t=Cv/\t.length<=3200:=by
 obtain⟨r0,hF,ds,rfl,hdl,hd⟩:=TW c s (sizes:=sz86) Gu (by decide)
 obtain⟨w,a,g,o,b,p,rfl⟩:∃w a g o b p,ds=[w,a,g,o,b,p]:=by
  match ds,hdl with
  |[w,a,g,o,b,p],_=>exact⟨w,a,g,o,b,p,rfl⟩
 have hw:=hd 0 w 13 Ct Ct;have ha:=hd 1 a 1000000 Ct Ct;have hg:=hd 2 g 96 Ct Ct;have ho:=hd 3 o 64 Ct Ct;have hb:=hd 4 b 64 Ct Ct;have hp:=hd 5 p 64 Ct Ct;refine V1 (ρ:=[pb (.str z),pb (.int c),pb (.int s),pb (Ws ms),Cu,Cu,Cu,Cu,Cu,Cu,Cu,Cu,Cu]) Ct ?_;unfold X9;refine UY (V2 (Kn (UA (Ux Ct) (UA (Ux Ct) (UA (KD (UA Uy (UA (UI Uy Uy Ct) (UA Uy (UA Uy (UA Uy (UA Uy UD)))))) (Qa Ct)) UD))) Ct hF) (XV Ct (U0 (UP (Qa Ct) Ct) (U0 (UP (Qa Ct) Ct) (U0 (UP (Qa Ct) Ct) (U0 (UP (Qa Ct) Ct) (U0 (UP (Qa Ct) Ct) (U0 (UP (Qa Ct) Ct) Zh)))))))) ?_;refine UY (Kj (WL (Ux Ct) (UA Uy UD) nlx (by omega)) (Qa Ct) Ct) ?_;have rp:RP 1001 (Txt.split z "\n"):=⟨Vn hz,by have:=Gw (z:=z) (y:= "\n") (by decide);unfold Kk;omega⟩
 have hpos:=PyProof.Rows.split_pos z "\n";generalize Txt.split z "\n" = rows at rp hpos;have hrl:=SZ rows;have hrw:=rp.w;refine UY (Kj (UI (Ux Ct) (Zg Ct (WC rows)) (ZO (by omega))) (Qa Ct) Ct) ?_;refine UY (Kj (UI (Ux Ct) (UI (Zg Ct (WC rows)) Uy Zb) (ZO (by omega))) (Qa Ct) Ct) ?_;refine UY (Kj (UI (Ux Ct) (UI (Zg Ct (S2 (by omega))) Uy Zb) (ZO (by omega))) (Qa Ct) Ct) ?_;obtain⟨sg,hsg,hsc⟩:=DH hg.1;obtain⟨t2,ht2,o2,l2⟩:=MG (i:=g % 11) (by omega) (by omega);obtain⟨sh,hshm,hsh⟩:=YR (l:=[⟨#[sg]⟩,t2]) (i:=p % 2) (by omega) (by show _<((2:Nat):Int);omega)
 have BB:Uf sh=Cv/\sh.length<=1:=by
  rcases QC.mp hshm with rfl|h
  .exact⟨HW hsc,Qs _⟩
  .rw[QK.mp h];exact⟨o2,l2⟩
 refine UY (Kj (UI (KD (UA (Kn (UA (Ux Ct) UD) Ct hsg) (UA (UI Uy (UI (Ux Ct) Uy (ZO (by decide))) ht2) UD)) (Qa Ct)) (UI (Ux Ct) Uy (ZO (by decide))) hsh) (Qa Ct) Ct) ?_;have r0:=JS o (show((rows.length:Nat):Int)≠0 by omega);have r1:=JJ o (show(0:Int)<((rows.length:Nat):Int)by omega);generalize o % ((rows.length:Nat):Int)=row at r0 r1;generalize b % (((rows.length:Nat):Int)+1)=spot;generalize a % (((z.length:Nat):Int)+1)=at_;obtain⟨q,hqm,hq⟩:=YR (l:=ms) (i:=p % ((ms.length:Nat):Int)) (JS p (by have:=JQ.mpr Br;omega)) (JJ p (by have:=JQ.mpr Br;omega));have hmod:Kc (.int p) (.int ((ms.length:Nat):Int))=O (.int (p % ((ms.length:Nat):Int))):=ZO (by have:=JQ.mpr Br;omega);have rq:RP 101 [q]:=⟨λy hy=>by rw[List.mem_singleton.mp hy];exact(hm q hqm).1,by have:=(hm q hqm).2;unfold Kk;simp;omega⟩
 obtain⟨u,hum,hu⟩:=YR (l:=rows) r0 r1;have ru:RP 1001 [u]:=⟨λy hy=>by rw[QK.mp hy];exact rp.ok u hum,by have:=Ov (List.singleton_sublist.mpr hum);omega⟩
 let E:List Str->Ur:=λl=>[pb (.str z),pb (.int c),pb (.int s),pb (Ws ms),pb (.int w),pb (.int at_),pb (.int g),pb (.int row),pb (.int b),pb (.int p),pb (Ws l),pb (.int spot),pb (.str sh)]
 have sl:=λx y=>HX (z:=z) (a:=x) (b:=y) (by omega)
 apply UZ;refine U5 (ρ1:=E rows) (Zf Ct Uy Ct) (λh3=>?_) λh3=>Ka (U8 ?_)
 .have h3:w<3:=Qa h3
  obtain⟨m1,hm1,e1⟩:=YR (l:=[sh,sh, ""]) (i:=w) hw.1 (by show _<((3:Nat):Int);omega)
  have hmok:Uf m1=Cv/\m1.length<=1:=by
   simp only[QC,Jd,or_false]at hm1;rcases hm1 with rfl|rfl|rfl
   .exact BB
   .exact BB
   .exact⟨by decide +kernel,by decide +kernel⟩
  obtain⟨j,hj⟩:∃j,oIx (.list [.int 0,.int 1,.int 1]) (.int w)=O (.int j):=by
   have:w=0∨w=1∨w=2:=by omega
   rcases this with rfl|rfl|rfl<;>exact⟨_,rfl⟩
  have c1:=Vp z Cu (O at_);have c2:=Vp z (O (at_+j)) Cu;refine Ki (UI (UI (K3 (Ux Ct) Uy (KJ (Ux Ct)) (sl _ _)) (UI (KD (UA (Ux Ct) (UA (Ux Ct) (UA Uy UD))) (Qa Ct)) (Ux Ct) e1) (XS (by omega))) (K3 (Ux Ct) (KJ (UI (Ux Ct) (UI (KD (UA Uy (UA Uy (UA Uy UD))) (Qa Ct)) (Ux Ct) hj) Zb)) Uy (sl _ _)) (XS (by rw[PySem.Str.length_append];omega))) (KY ⟨_,rfl,_,rfl,XH (XH (Tg hz) hmok.1) (Tg hz),?_⟩);rw[PySem.Str.length_append,PySem.Str.length_append];omega
 apply UZ;refine U5 (ρ1:=E rows) (Zf Ct Uy Z8) (λ_=>Ki (K3 (Ux Ct) Uy (KJ (Ux Ct)) (sl _ _)) (KY ⟨_,rfl,_,rfl,Tg hz,by have:=Vp z Cu (O at_);omega⟩)) λ_=>Ka (U8 ?_)
 apply UZ;refine U5 (ρ1:=E rows) (Zf Ct Uy Z8) (λ_=>Ki (K3 (Ux Ct) (KJ (Ux Ct)) Uy (sl _ _)) (KY ⟨_,rfl,_,rfl,Tg hz,by have:=Vp z (O at_) Cu;omega⟩)) λ_=>Ka (U8 ?_)
 have step:∀{k:Int}{f:M D}{rest:SM}{l:List Str}{Q:Out->Prop},((l=rows/\True)∨(w<k/\RP 3200 l))->(w=k->∃l',f (E rows)=.ok (Ws l') (E rows)/\RP 3200 l')->(∀l',((l'=rows/\True)∨(w<k+1/\RP 3200 l'))->Ho rest (E l') Q)->Ho (Uv (sIf (Kg oEq 4 (Us (.int k))) (UF 10 f) sNx) rest) (E l) Q:=by
  intro k f rest l Q hI hf hr;apply UZ;refine U5 (ρ1:=E l) (Zf Ct Uy Z8) (λhk=>?_) λhk=>Ka (U8 (hr l ?_))
  .have hk:=Qa hk
   obtain⟨l',e,h'⟩:=hf hk;rcases hI with ⟨rfl,_⟩|⟨h,_⟩
   .exact Zs (Kj e (Qa Ct) Ct) (U8 (hr l' (.inr ⟨by omega,h'⟩)))
   .omega
  .rcases hI with h|⟨h,h2⟩
   .exact .inl h
   .exact .inr ⟨by omega,h2⟩
 have cut:=λx y=>cutW rows x y;refine step (.inl ⟨rfl,trivial⟩) (λ_=>?_) λl5 i5=>?_
 .obtain⟨a1,e1,s1⟩:=cut Cu (O spot)
  obtain⟨a2,e2,s2⟩:=cut (O spot) Cu;exact⟨_,UI (UI (K3 (Ux Ct) Uy (KJ (Ux Ct)) e1) (KD (UA (KU Ct (Ux Ct) hu) UD) (Qa Ct)) ((rp.sub s1).add ru (by decide))) (K3 (Ux Ct) (KJ (Ux Ct)) Uy e2) (((rp.sub s1).app ru).add (rp.sub s2) (by decide)),(((rp.sub s1).app ru).app (rp.sub s2)).mono (by decide)⟩
 refine step i5 (λ_=>?_) λl6 i6=>?_
 .obtain⟨a1,e1,s1⟩:=cut Cu (O row)
  obtain⟨a2,e2,s2⟩:=cut (O (row+1)) Cu;exact⟨_,UI (K3 (Ux Ct) Uy (KJ (Ux Ct)) e1) (K3 (Ux Ct) (KJ (UI (Ux Ct) Uy Zb)) Uy e2) ((rp.sub s1).add (rp.sub s2) (by decide)),((rp.sub s1).app (rp.sub s2)).mono (by decide)⟩
 refine step i6 (λ_=>?_) λl7 i7=>?_
 .obtain⟨a1,e1,s1⟩:=cut Cu (O spot)
  obtain⟨a2,e2,s2⟩:=cut (O spot) Cu;exact⟨_,UI (UI (K3 (Ux Ct) Uy (KJ (Ux Ct)) e1) (KD (UA (KU Ct (UI (Ux Ct) (Zg Ct (WC ms)) hmod) hq) UD) (Qa Ct)) ((rp.sub s1).add rq (by decide))) (K3 (Ux Ct) (KJ (Ux Ct)) Uy e2) (((rp.sub s1).app rq).add (rp.sub s2) (by decide)),(((rp.sub s1).app rq).app (rp.sub s2)).mono (by decide)⟩
 refine step i7 (λ_=>?_) λl8 i8=>?_
 .obtain⟨a1,e1,s1⟩:=cut Cu (O row)
  obtain⟨a2,e2,s2⟩:=cut (O (row+1)) Cu;exact⟨_,UI (UI (K3 (Ux Ct) Uy (KJ (Ux Ct)) e1) (KD (UA (KU Ct (UI (Ux Ct) (Zg Ct (WC ms)) hmod) hq) UD) (Qa Ct)) ((rp.sub s1).add rq (by decide))) (K3 (Ux Ct) (KJ (UI (Ux Ct) Uy Zb)) Uy e2) (((rp.sub s1).app rq).add (rp.sub s2) (by decide)),(((rp.sub s1).app rq).app (rp.sub s2)).mono (by decide)⟩
 refine step i8 (λ_=>?_) λl9 i9=>?_
 .obtain⟨a1,e1,s1⟩:=cut (O row) Cu
  obtain⟨a2,e2,s2⟩:=cut Cu (O row);exact⟨_,UI (K3 (Ux Ct) (KJ (Ux Ct)) Uy e1) (K3 (Ux Ct) Uy (KJ (Ux Ct)) e2) ((rp.sub s1).add (rp.sub s2) (by decide)),((rp.sub s1).app (rp.sub s2)).mono (by decide)⟩
 refine step i9 (λ_=>⟨rows.reverse,?_,⟨λy hy=>rp.ok y (List.mem_reverse.mp hy),by rw[FX];omega⟩⟩) λl10 i10=>?_
 .have:=MP (f:=Uq 10) (l:=Us Cu) (u:=Us Cu) (t:=UB (Z0 (Us (.int 1))) λx=>Uz (Kq x)) (ρ:=E rows) (xs:=rows.map Ue) (Ux Ct) Uy Uy (KJ (R1 Uy))
  rw[←List.map_reverse]at this;exact this
 refine step i10 (λ_=>?_) λl11 i11=>?_
 .exact⟨_,UI (Ux Ct) (KD (UA (KU Ct (UI (Ux Ct) (Zg Ct (WC ms)) hmod) hq) UD) (Qa Ct)) (rp.add rq (by decide)),(rp.app rq).mono (by decide)⟩
 have rl:RP 3200 l11:=by
  rcases i11 with ⟨rfl,_⟩|⟨_,h⟩
  .exact rp.mono (by decide)
  .exact h
 obtain⟨t,e,ok,len⟩:=rl.join (by decide);exact Ki (XJ Uy (UA (Ux Ct) UD) e) ⟨_,rfl,t,rfl,ok,len⟩
theorem OY{l:CG}(hz:∀c∈l,c<1114112)(hl:l.length<=100000):Z3 [.str (stL l)]=O (.bool (okN l)):=by
 refine Zc (ρ:=[pb (.str (stL l)),Cu]) Ct ?_;unfold Wh;have hfl:=F3 l;have hlen:Kd [.str (stL (UH l))]=O (.int ((UH l).length:Nat)):=by rw[S2 (by rw[ZM];omega),ZM]
 apply UZ;refine U5 (b:=Cw) (Vq (Ux Ct) Ct) (λz=>by cases z) λ_=>Ka (U8 ?_)
 have hrm:(if(stL l).length<=1000000 then O (Ue (Txt.removeprefix (stL l) "-"))else Cu)=O (.str (stL (UH l))):=by rw[Qo (by rw[ZM];omega),F1]
 let ρ0:Ur:=[pb (.str (stL l)),pb (.str (stL (UH l)))]
 refine UY (ρ1:=ρ0) (Kj (Ss (Ux Ct) (UA Uy UD) hrm) (Qa Ct) Ct) ?_;apply UZ;refine U5 (ZU (FG Uy (Zg Ct hlen) Ct (λ_=>Uy) (λ_=>rfl))) (λh=>Ki Uy (KY ?_)) λh=>Ka (U8 ?_)
 .have hno:okN l=Cw:=by
   unfold okN;by_cases h1:1<=(UH l).length
   .have h2:¬(UH l).length<=60:=by
     intro h2;have a1:(1:Int)<=((UH l).length:Int):=by omega
     have a2:((UH l).length:Int)<=60:=by omega
     simp[a1,a2]at h
    simp[h2]
   .simp[h1]
  rw[hno]
 have h12:1<=(UH l).length/\(UH l).length<=60:=by
  have h':(decide ((1:Int)<=((UH l).length:Int))&&decide (((UH l).length:Int)<=60))=Cv:=by simpa using h
  simp only[Qw,Q4]at h';omega
 have hc:K1 (gN 2) (Us Cv) (UJ Ud (Kg oIn 2 (Us (.str "0123456789")))) (ZP (stL (UH l))) (Kb ρ0++Ub 1 Cu) []=O (((UH l).map U3).map Ud):=by
  rw[OC (λ_=>Cv) (λd=>match d with | .str c=>.bool (inS c "0123456789")|_=>.none) (λρ=>∃x,ρ=[O (.pub (.str (stL l))),O (.pub (.str (stL (UH l)))),x])]
  .congr 1
   rw[List.filter_eq_self.mpr (λ_ _=>rfl),JR];unfold ZP;rw[JE,JE];show List.map _ (UH l)=_;apply Jt;intro c _;show Ud (inS ⟨#[c]⟩ "0123456789")=_;rw[RS];rfl
  .rintro d hd ρ ⟨x,rfl⟩
   unfold ZP at hd;obtain⟨c,_,rfl⟩:=Q6.mp hd;exact⟨[pb (.str (stL l)),pb (.str (stL (UH l))),pb (.str ⟨#[c]⟩)],rfl,rfl,λ_=>KN (Zf Ct Uy Ct),_,rfl⟩
  .exact⟨Cu,rfl⟩
  .unfold ZP
   rw[Jk,Qg];have:(stL (UH l)).cps.toList.length=(UH l).length:=rfl;omega
 apply UZ;refine U5 (ZU (ZF (YC (UA (KN (YH (YA (Ux Ct) PN) hc)) UD) PM))) (λh=>Ki Uy (KY ?_)) λh=>Ka (U8 ?_)
 .have hno:okN l=Cw:=by
   have h':(UH l).all U3=Cw:=by simpa[List.all_map]using h
   unfold okN;rw[h'];simp
  rw[hno]
 have hall:(UH l).all U3=Cv:=by simpa[List.all_map]using h
 obtain⟨c,r,hf⟩:∃c r,UH l=c::r:=by
  cases hf:UH l with
  |nil=>rw[hf]at h12;simp at h12
  |cons c r=>exact⟨c,r,rfl⟩
 have hix:oIx (.str (stL (UH l))) (.int 0)=O (.str (stL [c])):=by rw[hf];exact Ru (by rw[←hf];omega)
 have hc:c<1114112:=hz c (F2 (by rw[hf];exact Qj));have e0:oNe (.str (stL [c])) (.str "0")=O (!decide ([c]=[48])):=by rw[VI,Vh (YE (by simpa using hc)) (YE (by decide)),Tf]
 have e1:oEq (.str (stL l)) (.str "0")=O (decide (l=[48])):=by rw[VI,Pm (YE hz) (YE (by decide)),Tf]
 refine Ki (MQ (KN (UI (KU Ct Uy hix) Uy e0)) λ_=>KN (Zf Ct Uy e1)) ?_;unfold okN;rw[QM h12.1,QM h12.2,hall,hf];simp
noncomputable def okP(l:CG):Bool:=okN l && !decide (l.take 1=[45])
theorem Xz(l:CG):okP l=(decide (1<=l.length)&&decide (l.length<=60)&&l.all U3&&(decide (l.head?≠O 48) || decide (l=[48]))):=by
 unfold okP;by_cases h:l.take 1=[45]
 .rw[QM h,Bool.not_true,Bool.and_false]
  cases l with
  |nil=>simp at h
  |cons c r=>
   have hc:c=45:=by simpa using h
   subst hc;rw[JL,show U3 45=Cw from rfl,Bool.false_and,Bool.and_false,Bool.false_and]
 .have hf:UH l=l:=by unfold UH;rw[Qv h]
  unfold okN;rw[hf,Qt h,Bool.not_false,Bool.and_true]
theorem RQ{l:CG}(h:okP l=Cv):l.all U3=Cv/\l.length<=60/\okN l=Cv/\0<=vNm l:=by have h2:=h;rw[Xz]at h2;simp only[Qw,Q4]at h2;unfold okP at h;simp only[Qw,JB,Q7]at h;refine⟨h2.1.2,h2.1.1.2,h.1,?_⟩;unfold vNm;rw[Qv h.2];exact Int.natCast_nonneg _
theorem Eh(l:CG):Txt.startswith (stL l) "-" = decide (l.take 1=[45]):=by
 unfold Txt.startswith;rw[StrLaws.subAt_eq,Rv];have e1:(stL [45]).length=1:=rfl;have e2:(stL l).cps.toList=l:=rfl;have e3:(stL [45]).cps.toList=[45]:=rfl;rw[e1,e2,e3,ZM,JT];by_cases h:l.take 1=[45]
 .have hl:1<=l.length:=by
   cases l with
   |nil=>simp at h
   |cons c r=>simp
  simp[h];lia
 .simp[h]
theorem Cp{l:CG}(hz:∀c∈l,c<1114112)(hl:l.length<=100000):K8 [.str (stL l)]=O (.bool (okP l)):=by refine Zc (ρ:=[pb (.str (stL l))]) Ct ?_;unfold Wd;exact Ki (Vk (Kn (UA (Ux Ct) UD) Ct (OY hz hl)) λ_=>PR (Ss (Ux Ct) (UA Uy UD) (by rw[Eh]))) Ct
theorem DV{l:CG}(hz:∀c∈l,c<1114112)(hl:l.length<=100000)(hk:okP l=Cv):Zz [.str (stL l)]=O (.int (vNm l)):=by
 have h:=(RQ hk).2.2.1;refine Zc (ρ:=[pb (.str (stL l))]) Ct ?_;unfold Wg;apply UZ;refine U5 (b:=Cw) (ZU (t:=Cv) (ZF (Kn (UA (Ux Ct) UD) Ct ((OY hz hl).trans (by rw[h]))))) (λz=>by cases z) λ_=>Ka (U8 ?_)
 exact Ki (YC (UA (Ux Ct) UD) (Ej h)) Ct
theorem LR{l:CG}(hz:∀c∈l,c<1114112)(hl:l.length<=100000):Yn [.str (stL l)]=O (if okP l=Cv then .int (vNm l)else .none):=by
 let W:Option Sl:=O (.pub (.str (stL l)))
 have hlen:Kd [.str (stL l)]=O (.int (l.length:Nat)):=by rw[S2 (by rw[ZM];lia),ZM]
 have lt1:Uu (oIB λi j=>decide (i<j)) (Ku 0) (Us (.int 1)) [W,Cu,Cu]=.ok (decide ((l.length:Int)<1)) [W,Cu,Cu]:=UI (Zg Ct hlen) Uy Ct;have gt60:Uu (oIB λi j=>decide (j<i)) (Ku 0) (Us (.int 60)) [W,Cu,Cu]=.ok (decide ((60:Int)<(l.length:Int))) [W,Cu,Cu]:=UI (Zg Ct hlen) Uy Ct;refine Zc (ρ:=[W,Cu,Cu]) Ct ?_;unfold X6;apply UZ;by_cases h1:1<=l.length
 case neg=>
  have hno:okP l=Cw:=by rw[Xz,Qt h1];rfl
  refine U5 (b:=Cv) (ρ1:=[W,Cu,Cu]) (RZ (by rw[lt1,QM (by lia)])) (λ_=>Ki Uy (KY ?_)) λz=>by cases z
  rw[hno];rfl
 by_cases h2:l.length<=60
 case neg=>
  have hno:okP l=Cw:=by rw[Xz,Qt h2,Bool.and_false];rfl
  refine U5 (b:=Cv) (ρ1:=[W,Cu,Cu]) (Va (by rw[lt1,Qt (by lia)]) (RZ (by rw[gt60,QM (by lia)]))) (λ_=>Ki Uy (KY ?_)) λz=>by cases z
  rw[hno];rfl
 obtain⟨c,r,hL⟩:∃c r,l=c::r:=by
  cases l with
  |nil=>simp at h1
  |cons c r=>exact⟨c,r,rfl⟩
 have hh:l.head?=O c:=by rw[hL];rfl
 have hix:oIx (.str (stL l)) (.int 0)=O (.str (stL [c])):=by rw[hL];exact Ru (by rw[←hL];lia)
 have hc:c<1114112:=hz c (by rw[hL];exact Qj);have e0:oEq (.str (stL [c])) (.str "0")=O (decide ([c]=[48])):=by rw[VI,Pm (YE (by simpa using hc)) (YE (by decide)),Tf]
 have e1:oNe (.str (stL l)) (.str "0")=O (!decide (l=[48])):=by rw[VI,Vh (YE hz) (YE (by decide)),Tf]
 refine U5 (ρ1:=[W,Cu,Cu]) (Va (by rw[lt1,Qt (by lia)]) (Va (by rw[gt60,Qt (by lia)]) (Sg (UI (KU Ct Uy hix) Uy e0) λ_=>Zf Ct Uy e1))) (λh=>Ki Uy (KY ?_)) λh=>Ka (U8 ?_)
 .have hno:okP l=Cw:=by
   rw[Xz,hh];simp only[Qw,Q4,JB,Q7]at h;have Bs:c=48:=by simpa using h.1
   subst Bs;rw[decide_eq_false (show ¬O 48≠O 48 by simp),decide_eq_false h.2,Bool.false_or,Bool.and_false]
  rw[hno];rfl
 have B5:(decide (l.head?≠O 48) || decide (l=[48]))=Cv:=by
  rw[hh];by_cases Bs:c=48
  .subst Bs
   have h':¬(¬(l=[48])):=λz=>by rw[QM Ct,Bool.true_and,Qt z]at h;cases h
   have h':=Decidable.not_not.mp h';rw[QM h',JP]
  .rw[decide_eq_true (show O c≠O 48 by simpa using Bs)];rfl
 refine UY (ρ1:=[W,pb (.int 0),Cu]) (Kj Uy (Qa Ct) Ct) ?_;apply UZ;apply YF (ds:=ZP (stL l)) (λi ρ=>∃x,ρ=[W,pb (.int (NumText.digitsVal (l.take i):Nat)),x]/\(l.take i).all U3=Cv)
 case h1=>exact YA (Ux Ct) PN
 case h0=>exact⟨Cu,rfl,rfl⟩
 case hst=>
  rintro i d ρ hi ⟨x,rfl,ha⟩;unfold ZP at hi;rw[Qx]at hi;have e2:(stL l).cps.toList=l:=rfl;rw[e2]at hi;cases hx:l[i]? with
  |none=>rw[hx]at hi;cases hi
  |some q=>
  rw[hx]at hi;cases hi;refine⟨[W,pb (.int (NumText.digitsVal (l.take i):Nat)),pb (.str ⟨#[q]⟩)],UP (Qa Ct) Ct,?_⟩;unfold Pt;apply UZ;refine U5 (b:=!U3 q) (Zf Ct Uy (by show O (!inS ⟨#[q]⟩ "0123456789")=_;rw[RS])) (λhq=>Ki Uy (KY (Tu (KY ?_)))) λhq=>Ka (U8 ?_)
  .have hno:okP l=Cw:=by
    have:l.all U3=Cw:=by
     cases e:l.all U3 with
     |false=>rfl
     |true=>have:=QG.mp e q (QL hx);rw[this]at hq;cases hq
    rw[Xz,this,Bool.and_false,Bool.false_and]
   rw[hno];rfl
  .have hq:U3 q=Cv:=by simpa using hq
   refine Zs (Kj (UI (UI (Ux Ct) Uy (Vr (by decide) (by decide))) (Ss Uy (UA (Ux Ct) UD) Ct) Zb) (Qa Ct) Ct) (Yg ⟨O (.pub (.str ⟨#[q]⟩)),?_,?_⟩)
   .rw[OS hx,HQ,HR hq]
    have:((NumText.digitsVal (l.take i)*10+(q-48):Nat):Int)=(NumText.digitsVal (l.take i):Nat)*10+((q-48:Nat):Int):=by lia
    rw[this];rfl
   .rw[OS hx,List.all_append,ha,JL,hq];rfl
 case hend=>
  rintro ρ ⟨x,rfl,ha⟩;have hl':(ZP (stL l)).length=l.length:=by unfold ZP;rw[Qg];rfl
  rw[hl',List.take_length]at ha;have hok:okP l=Cv:=by rw[Xz,QM h1,QM h2,ha,B5];rfl
  refine U8 (Ki (Ux Ct) ?_);rw[hl',List.take_length,Qo hok];have h3:=hok;unfold okP at h3;simp only[Qw,JB,Q7]at h3;unfold vNm;rw[Qv h3.2];have hf:UH l=l:=by unfold UH;rw[Qv h3.2]
  rw[hf]
theorem DG{q:Str->Bool}(xs:List Str):K4 [.list (xs.map λd=>.bool (q d))]=O (.bool (xs.all q)):=by have h:=PM (bs:=xs.map q);rw[JE]at h;rw[show(xs.map λd=>Ud (q d))=xs.map (Ud ∘ q)from rfl,h,List.all_map];rfl
noncomputable def PWD:List Str:=["times", "asks", "prices"]
noncomputable def okW(w:Str):Bool:=okP w.cps.toList
noncomputable def vW(w:Str):Int:=vNm w.cps.toList
noncomputable def US(k:Nat)(r:Str):CD:=if((Txt.split r " ").getD 0 "" == PWD.getD k "")&&((Txt.split r " ").drop 1).all okW then((Txt.split r " ").drop 1).map vW else []
noncomputable def Ze(k:Nat)(xs:CD):Bool:=if k=0 then decide (xs.length=1)&&decide (1<=xs.getD 0 0)else decide (1<=xs.length)
noncomputable def Ks:List Str->Nat->List CD->Nat ⊕ List CD
 |[],_,acc=>.inr acc
 |r::rs,k,acc=>if k=3 then .inl k else if Ze k (US k r)=Cv then Ks rs (k+1) (acc++[US k r])else .inl k
noncomputable def UW(z:Str):Nat ⊕ List CD:=match Ks (Txt.split z "\n") 0 []with
 |.inl k=>.inl k
 |.inr acc=>if acc.length<3 then .inl acc.length else .inr acc
noncomputable def Yi(acc:List CD):D:=.tuple [.int ((acc.getD 0 []).getD 0 0),UK (acc.getD 1 []),UK (acc.getD 2 [])]
noncomputable def Wv:Nat ⊕ List CD->D
 |.inl k=>.int (k:Nat)
 |.inr acc=>Yi acc
noncomputable def MD:Nat ⊕ List CD->XR
 |.inl k=>.exc (exD "NoText" [.int (k:Nat)])
 |.inr acc=>.val (Yi acc)
def TxW(ws:List Str):Prop:=∀w∈ws,Uf w=Cv/\w.length<=100000
theorem TxW.of{z y:Str}(hz:Uf z=Cv)(hl:z.length<=100000):TxW (Txt.split z y):=λw hw=>⟨Vn hz w hw,Qn (Vx hw) hl⟩
theorem M4{w:Str}(h:Uf w=Cv/\w.length<=100000):K8 [.str w]=O (.bool (okW w)):=by
 have e:=T9 w;have hz:∀c∈w.cps.toList,c<1114112:=S7 (by rw[←e];exact h.1);have hl:w.cps.toList.length<=100000:=by rw[←ZM,←e];exact h.2
 have:=Cp hz hl;rw[←e]at this;exact this
theorem MC{w:Str}(h:Uf w=Cv/\w.length<=100000)(hk:okW w=Cv):Zz [.str w]=O (.int (vW w)):=by
 have e:=T9 w;have hz:∀c∈w.cps.toList,c<1114112:=S7 (by rw[←e];exact h.1);have hl:w.cps.toList.length<=100000:=by rw[←ZM,←e];exact h.2
 have:=DV hz hl hk;rw[←e]at this;exact this
theorem MB{w:Str}(h:Uf w=Cv/\w.length<=100000):Yn [.str w]=O (if okW w=Cv then .int (vW w)else .none):=by
 have e:=T9 w;have hz:∀c∈w.cps.toList,c<1114112:=S7 (by rw[←e];exact h.1);have hl:w.cps.toList.length<=100000:=by rw[←ZM,←e];exact h.2
 have:=LR hz hl;rw[←e]at this;exact this
theorem MA{w:Str}(hk:okW w=Cv):0<=vW w:=(RQ hk).2.2.2
theorem RB{k:Nat}(h:k<3):Uf (PWD.getD k "")=Cv:=by
 have:∀t∈PWD,Uf t=Cv:=by decide +kernel
 exact this _ (Tp h)
theorem RO(ws:List Str):KL (Ws ws) (O 1) Cu=O (Ws (ws.drop 1)):=by unfold Ws;rw[WM];have:=Ei (xs:=ws.map Ue) (a:=1);rw[show((1:Nat):Int)=1 from rfl]at this;rw[this,List.map_drop]
theorem LQ{ws:List Str}(h:TxW ws)(hc:ws.length<=100000){ρ:Ur}{f:M D}{j:Nat}(hf:f ρ=.ok (Ws ws) ρ)(hh:Kb ρ=ρ)(hj:j=ρ.length) :
  KO (KQ f) 1 (gN j) (Us Cv) (UG 1 K8 (Uw (Uq j) (Ut))) ρ=.ok (ws.map λw=>.bool (okW w)) ρ:=by
 subst hj;refine YH (ds:=ws.map Ue) (YA hf Ct) ?_;rw[hh];refine(Zx Ue (λw=>.bool (okW w)) (λρ1=>∃x,ρ1=ρ++[x]) ws _ [] ?_ ⟨Cu,rfl⟩ (by rw[Jk];lia)).trans Ct;rintro w hw ρ1 ⟨x,rfl⟩;have BG:(ρ++[x]).set ρ.length (O (Sl.pub (.str w)))=ρ++[pb (.str w)]:=by rw[List.set_append_right _ _ (Qs _),JU];rfl
 refine⟨_,UP (by rw[Qu];exact Nat.lt_succ_self _) BG,Kn (UA (Ux (by rw[Qr (Qs _),JU];rfl)) UD) Ct (M4 (h w hw)),pb (.str w),?_⟩;unfold Kb at hh⊢;rw[Q1,hh];rfl
theorem RN{ws:List Str}(h:TxW ws)(hc:ws.length<=100000)(hk:ws.all okW=Cv){ρ:Ur}{f:M D}{j:Nat}(hf:f ρ=.ok (Ws ws) ρ)(hh:Kb ρ=ρ)(hj:j=ρ.length) :
  KO (KQ f) 1 (gN j) (Us Cv) (UG 1 Zz (Uw (Uq j) (Ut))) ρ=.ok ((ws.map vW).map int) ρ:=by
 subst hj;refine YH (ds:=ws.map Ue) (YA hf Ct) ?_;rw[hh,JE];refine(Zx Ue (λw=>.int (vW w)) (λρ1=>∃x,ρ1=ρ++[x]) ws _ [] ?_ ⟨Cu,rfl⟩ (by rw[Jk];lia)).trans Ct;rintro w hw ρ1 ⟨x,rfl⟩;have BG:(ρ++[x]).set ρ.length (O (Sl.pub (.str w)))=ρ++[pb (.str w)]:=by rw[List.set_append_right _ _ (Qs _),JU];rfl
 refine⟨_,UP (by rw[Qu];exact Nat.lt_succ_self _) BG,Kn (UA (Ux (by rw[Qr (Qs _),JU];rfl)) UD) Ct (MC (h w hw) (QG.mp hk w hw)),pb (.str w),?_⟩;unfold Kb at hh⊢;rw[Q1,hh];rfl
theorem OP{r:Str}(hr:Uf r=Cv)(hl:r.length<=90000):TxW (Txt.split r " ")/\(Txt.split r " ").length<=100000/\0<(Txt.split r " ").length:=by
 refine⟨TxW.of hr (by lia),?_,?_⟩
 .have:=OR (z:=r) (y:= " ") (by decide)
  lia
 .obtain⟨p,q,e⟩:=Ox r " "
  rw[e];simp
theorem Ou{k:Nat}(hk:k<3){r:Str}(hr:Uf r=Cv)(hl:r.length<=90000) :
  Y7 [.str (PWD.getD k ""),.str r]=O (UK (US k r))/\TV [.str (PWD.getD k ""),.str r]=O ((US k r).map int):=by
 obtain⟨hw,hc,hp⟩:=OP hr hl
 let A:Option Sl:=O (.pub (.str (PWD.getD k "")))
 let R:Option Sl:=O (.pub (.str r))
 let W:Option Sl:=O (.pub (Ws (Txt.split r " ")))
 have Bc:∀x,(Z9 (Uq 1) (Uw (Us (.str " ")) (Ut))) [A,R,x]=.ok (Ws (Txt.split r " ")) [A,R,x]:=λx=>WL (Ux Ct) (UA Uy UD) Ct (by lia)
 have hd:TxW ((Txt.split r " ").drop 1):=λw h=>hw w (JD h)
 have hdc:((Txt.split r " ").drop 1).length<=100000:=by rw[Jc];lia
 have hsl:UU (Uq 2) (UB (Us (.int 1)) λx=>Uz (Kq x)) (Us Cu) [A,R,W]=.ok (Ws ((Txt.split r " ").drop 1)) [A,R,W]:=K3 (Ux Ct) (KJ Uy) Uy (RO _);have hn:oNe (.str ((Txt.split r " ").getD 0 "")) (.str (PWD.getD k ""))=O (!((Txt.split r " ").getD 0 "" == PWD.getD k "")):=Vh (hw _ (Tp hp)).1 (RB hk)
 have ht:mOr (Uu oNe (UM 2 (Us (.int 0))) (Uq 0)) (U2 (Kx (KI K4 (Uw (UJ Uc (KO (KQ (UU (Uq 2) (UB (Us (.int 1)) λx=>Uz (Kq x)) (Us Cu))) 1 (gN 3) (Us Cv) (UG 1 K8 (Uw (Uq 3) (Ut))))) (Ut))))) [A,R,W]=.ok (!(((Txt.split r " ").getD 0 "" == PWD.getD k "")&&((Txt.split r " ").drop 1).all okW)) [A,R,W]:=by
  have h2:=VF (g:=U2 (Kx (KI K4 (Uw (UJ Uc (KO (KQ (UU (Uq 2) (UB (Us (.int 1)) λx=>Uz (Kq x)) (Us Cu))) 1 (gN 3) (Us Cv) (UG 1 K8 (Uw (Uq 3) (Ut))))) (Ut))))) (UI (ρ:=[A,R,W]) (ρ1:=[A,R,W]) (ρ2:=[A,R,W]) (f:=UM 2 (Us (.int 0))) (g:=Uq 0) (KU Ct Uy (T4 (k:=0) hp)) (Ux Ct) hn) (λ_=>ZU (ZF (YC (UA (KN (LQ hd hdc hsl Ct Ct)) UD) (DG _))));rw[h2]
  congr 1
  rw[Bool.not_and]
 unfold US;cases hb:((Txt.split r " ").getD 0 "" == PWD.getD k "")&&((Txt.split r " ").drop 1).all okW with
 |false=>
  rw[hb]at ht;constructor
  .refine Zc (ρ:=[A,R,Cu]) Ct ?_
   unfold YU;refine UY (ρ1:=[A,R,W]) (Kj (Bc Cu) (Qa Ct) Ct) ?_;apply UZ;exact U5 (b:=Cv) ht (λ_=>Ki (KD UD (Qa Ct)) (KY Ct)) λz=>by cases z
  .refine LV (ρ:=[A,R,Cu]) Ct ?_
   show XU [A,R,Cu]=_;have e:Ho XU [A,R,Cu] (λo=>o=.ro []):=by unfold XU;refine UY (ρ1:=[A,R,W]) (Kj (Bc Cu) (Qa Ct) Ct) ?_;apply UZ;exact U5 (b:=Cv) ht (λ_=>Gm (Xm UD (Qa Ct)) (FT Ct)) λz=>by cases z
   exact e.out
 |true=>
  rw[hb]at ht;have hall:((Txt.split r " ").drop 1).all okW=Cv:=(JO.mp hb).2;constructor
  .refine Zc (ρ:=[A,R,Cu]) Ct ?_
   unfold YU;refine UY (ρ1:=[A,R,W]) (Kj (Bc Cu) (Qa Ct) Ct) ?_;apply UZ;refine U5 (b:=Cw) ht (λz=>by cases z) λ_=>Ka (U8 ?_)
   exact Ki (KN (RN hd hdc hall hsl Ct Ct)) Ct
  .have e:Ho XU [A,R,Cu] (λo=>o=.nx [A,R,W]):=by
    unfold XU;refine UY (ρ1:=[A,R,W]) (Kj (Bc Cu) (Qa Ct) Ct) ?_;apply UZ;exact U5 (b:=Cw) ht (λz=>by cases z) λ_=>Ka (U8 (Ka Ct))
   exact Mg Ct e.out (RN hd hdc hall hsl Ct Ct)
section
variable{r:Str}{acc:List CD}
theorem VH(ρ:Ur):KI Kd (Uw (Us (.tuple ((["times", "asks", "prices"]:List Str).map Ue))) (Ut)) ρ=.ok (.int 3) ρ:=YC (UA Uy UD) Ct
theorem ixPW{k:Nat}(h:k<3):oIx (.tuple ((["times", "asks", "prices"]:List Str).map Ue)) (.int (k:Nat))=O (.str (PWD.getD k "")):=by
 match k,h with
 |0,_=>rfl
 |1,_=>rfl
 |2,_=>rfl
theorem ixPL{k:Nat}(h:k<3):oIx (.list [.str "times", .str "asks", .str "prices"]) (.int (k:Nat))=O (.str (PWD.getD k "")):=by
 match k,h with
 |0,_=>rfl
 |1,_=>rfl
 |2,_=>rfl
theorem eq3{k:Nat}:oEq (.int (k:Nat)) (.int 3)=O (decide (k=3)):=by
 rw[Z8];by_cases h:k=3
 .subst h;rfl
 .rw[Qt h,Qt (by lia)]
theorem Nv{k:Nat}{xs:CD}:Z2 [.int (k:Nat),UK xs]=O (.bool (Ze k xs)):=by
 let K:Option Sl:=O (.pub (.int (k:Nat)))
 let N:Option Sl:=O (.pub (UK xs))
 have hl:Kd [UK xs]=O (.int xs.length):=by unfold UK;rw[Tw,Qg]
 refine Zc (ρ:=[K,N]) Ct ?_;unfold Wc;apply UZ;refine U5 (b:=decide (k=0)) (Zf Ct Uy (by rw[Z8];by_cases h:k=0<;>simp[h])) (λh=>?_) λh=>Ka (U8 ?_)
 .have h:=Qa h
  subst h;unfold Ze;rw[Qo Ct];by_cases h1:xs.length=1
  .obtain⟨x,rfl⟩:=List.length_eq_one_iff.mp h1
   exact Ki (Vk (t:=Cv) (KN (UI (Zg Ct hl) Uy (Z8.trans Ct))) λ_=>KN (UI (KU Ct Uy Ct) Uy Vb)) (KY Ct)
  .refine Ki (Vk (t:=Cw) (u:=Cw) (KN (UI (Zg Ct hl) Uy (Z8.trans (by rw[Qt (by lia)])))) λz=>by cases z) (KY ?_)
   rw[Qt h1];rfl
 .have h:=JK h
  unfold Ze;rw[Qv h];refine Ki (KN (UI (Zg Ct hl) Uy Vb)) ?_;rw[show decide ((1:Int)<=(xs.length:Int))=decide (1<=xs.length)by by_cases h1:1<=xs.length<;>simp[h1]<;>lia]
theorem To{zs:List Str}{i:Nat}(h:zs[i]?=O r):Ks (zs.drop i) i acc=if i=3 then .inl i else if Ze i (US i r)=Cv then Ks (zs.drop (i+1)) (i+1) (acc++[US i r])else .inl i:=by have hl:i<zs.length:=(Qm.mp h).1;rw[Q8 hl,(Qm.mp h).2,Ks]
theorem Sr{xs:CD}{k:Nat}{z:Str}(hz:z.length<=90000)(h:xs=US k z):xs.length<=100000:=by
 subst h;unfold US;split
 .rw[Qg,Jc]
  have:=OR (z:=z) (y:= " ") (by decide)
  lia
 .simp
theorem SY{k:Nat}(h:k<1000000):Yv "NoText" [.int (k:Int)]=O [.int (k:Int)]:=Gv h
theorem Pi{z:Str}(hl:z.length<=90000):ZJ [.str z]=O (Ws (Txt.split z "\n")):=by
 refine Zc (ρ:=[pb (.str z)]) Ct ?_;unfold YV;apply UZ;refine U5 (b:=Cw) (Vq (Ux Ct) Ct) (λz=>by cases z) λ_=>Ka (U8 ?_)
 exact Ki (WL (Ux Ct) (UA Uy UD) Ct (by lia)) Ct
theorem RA(ws:List Str):Wp [Ws ws]=O (ZB 0 (ws.map Ue)):=Oi
theorem Lv{a b:SM}{ρ:Ur}{Q:Out->Prop}(h:Ho a ρ λo=>o≠.bad/\Q o):Ho (sOr a b) ρ Q:=Zs (Lb Ct h.out.1) h.out.2
theorem OO:∀(zs:List Str)(k:Nat)(acc acc':List CD),Ks zs k acc=.inr acc'->∃t,acc'=acc++t
 |[],_,acc,acc',h=>by rw[Ks]at h;cases h;exact⟨[],(QO _).symm⟩
 |r::rs,k,acc,acc',h=>by
  rw[Ks]at h;split at h
  .cases h
  .split at h
   .obtain⟨t,e⟩:=OO rs (k+1) _ acc' h
    exact⟨US k r::t,by rw[e,Jq];rfl⟩
   .cases h
theorem S9{zs:List Str}{a:CD}{t:List CD}(h:Ks zs 0 []=.inr (a::t)):∃x,a=[x]/\1<=x:=by
 cases zs with
 |nil=>rw[Ks]at h;cases h
 |cons r rs=>
  rw[Ks,Qv (by decide)]at h;split at h
  .rename_i hg
   obtain⟨u,e⟩:=OO _ _ _ _ h;rw[JR,List.singleton_append]at e;injection e with e1 _;rw[←e1]at hg;unfold Ze at hg;rw[Qo Ct,Qw]at hg
   obtain⟨x,rfl⟩:=List.length_eq_one_iff.mp (Qa hg.1);exact⟨x,rfl,Qa hg.2⟩
  .cases h
theorem Lu{z:Str}(hz:Uf z=Cv)(hl:z.length<=90000):WV [.str z]=O (MD (UW z)):=by
 let Z:Option Sl:=O (.pub (.str z))
 have Bk:∀y∈Txt.split z "\n", Uf y=Cv/\y.length<=90000:=λy hy=>⟨Vn hz y hy,Qn (Vx hy) hl⟩
 refine T3 (ρ:=[Z,Cu,Cu,Cu,Cu,Cu,Cu,Cu]) Ct ?_;unfold TR;refine UY (ρ1:=[Z,O (.own []),Cu,Cu,Cu,Cu,Cu,Cu]) (YB (Xm UD (Qa Ct)) (Qa Ct) Ct) ?_;apply UZ;refine Lv (Ti (P:=λo=>(∃k:Nat,∃ρ,o=.ex ρ (exD "NoText" [.int (k:Nat)])/\UW z=.inl k) ∨ ∃acc x2 x3 x4,o=.nx [Z,O (.own (acc.map UK)),x2,x3,x4,Cu,Cu,Cu]/\acc.length<=3/\Ks (Txt.split z "\n") 0 []=.inr acc) ?_ ?_)
 .apply YF (ds:=ZB 0 ((Txt.split z "\n").map Ue)) (λi ρ=>∃acc x2 x3 x4,ρ=[Z,O (.own (acc.map UK)),x2,x3,x4,Cu,Cu,Cu]/\acc.length=i/\i<=3/\Ks (Txt.split z "\n") 0 []=Ks ((Txt.split z "\n").drop i) i acc)
  case h1=>exact SD (UA (Kn (UA (Ux Ct) UD) Ct (Pi hl)) UD) (RA _)
  case h0=>exact⟨[],Cu,Cu,Cu,rfl,rfl,by decide,rfl⟩
  case hst=>
   rintro i d ρ hi ⟨acc,x2,x3,x4,rfl,hal,BC,hw⟩;obtain⟨x,hx,rfl⟩:=Tq hi;rw[Qx]at hx;cases C6:(Txt.split z "\n")[i]? with
   |none=>rw[C6]at hx;cases hx
   |some r=>
   rw[C6]at hx;cases hx;rw[JI];have hr:=Bk r (QL C6)
   let I:Option Sl:=O (.pub (.int (i:Nat)))
   let R:Option Sl:=O (.pub (.str r))
   refine⟨[Z,O (.own (acc.map UK)),I,R,x4,Cu,Cu,Cu],ZW Ct (U0 (UP (Qa Ct) Ct) (U0 (UP (Qa Ct) Ct) Zh)),?_⟩;rw[To C6]at hw;unfold NE;apply UZ;refine U5 (Zf Ct (VH _) eq3) (λh3=>?_) λh3=>Ka (U8 ?_)
   .have h3:=Qa h3
    rw[Qo h3]at hw;exact Zs (Tt (UA (Ux Ct) UD) (SY (by lia))) (WN (Oh (.inl ⟨i,_,rfl,by unfold UW;rw[hw]⟩)))
   .have h3:=JK h3
    rw[Qv h3]at hw;have hi':i<3:=by lia
    obtain⟨hF,_⟩:=Ou hi' hr.1 hr.2;have hrl:=Sr (xs:=US i r) (k:=i) hr.2 Ct;refine UY (ρ1:=[Z,O (.own (acc.map UK)),I,R,pb (UK (US i r)),Cu,Cu,Cu]) (Kj (Kn (UA (UI Uy (Ux Ct) (ixPW hi')) (UA (Ux Ct) UD)) Ct hF) (Qa Ct) Ct) ?_;apply UZ;refine U5 (ZU (ZF (Kn (UA (Ux Ct) (UA (Ux Ct) UD)) Ct Nv))) (λhg=>?_) λhg=>Ka (U8 ?_)
    .have hg:¬Ze i (US i r)=Cv:=by simpa using hg
     rw[Qv hg]at hw;exact Zs (Tt (UA (Ux Ct) UD) (SY (by lia))) (WN (Oh (.inl ⟨i,_,rfl,by unfold UW;rw[hw]⟩)))
    .have hg:Ze i (US i r)=Cv:=by simpa using hg
     rw[Qo hg]at hw;refine Zs (XA Ct (Ux Ct) Ct (by rw[Qg];lia) Ct) (Yg ⟨acc++[US i r],I,R,pb (UK (US i r)),by rw[Q1];rfl,by rw[Qu,hal];rfl,by lia,hw⟩)
  case hend=>
   rintro ρ ⟨acc,x2,x3,x4,rfl,hal,BC,hw⟩;refine .inr ⟨acc,x2,x3,x4,rfl,by lia,?_⟩;have hle:(ZB 0 ((Txt.split z "\n").map Ue)).length=(Txt.split z "\n").length:=by rw[Vv,Qg]
   rw[hle,Ji (Qs _)]at hw;exact hw
 .rintro o (⟨k,ρ,rfl,ha⟩|⟨acc,x2,x3,x4,rfl,hal,hw⟩)
  .exact⟨by simp,WN (by rw[ha];exact⟨rfl,rfl⟩)⟩
  refine⟨by simp,U8 ?_⟩;have ha:UW z=if acc.length<3 then .inl acc.length else .inr acc:=by unfold UW;rw[hw]
  apply UZ;have hlo:(acc.map UK).length=acc.length:=Qg _
  have hlt:Uu (oIB λi j=>decide (i<j)) (Ku 1) (KI Kd (Uw (Us (.tuple ((["times", "asks", "prices"]:List Str).map Ue))) (Ut))) [Z,O (.own (acc.map UK)),x2,x3,x4,Cu,Cu,Cu]=.ok (decide (acc.length<3)) [Z,O (.own (acc.map UK)),x2,x3,x4,Cu,Cu,Cu]:=
   UI (SJ Ct) (VH _) (by rw[Vb,hlo];by_cases h:acc.length<3<;>simp[h]<;>lia)
  refine U5 hlt (λh=>?_) λh=>Ka (U8 ?_)
  .have h:=Qa h
   rw[Qo h]at ha;have:=Tt (nm:= "NoText") (ρ:=[Z,O (.own (acc.map UK)),x2,x3,x4,Cu,Cu,Cu]) (UA (SJ (i:=1) Ct) UD) (SY (k:=(acc.map UK).length) (by lia));rw[hlo]at this;exact Zs this (WN (by rw[ha];exact⟨rfl,rfl⟩))
  .have h:=JK h
   rw[Qv h]at ha
   match acc,hal,h with
   |[a,b,c],_,_=>
   refine UY (ρ1:=[Z,pb (.list [UK a,UK b,UK c]),x2,x3,x4,pb (UK a),pb (UK b),pb (UK c)]) (V2 (WP Ct Ct) (XV Ct (U0 (UP (Qa Ct) Ct) (U0 (UP (Qa Ct) Ct) (U0 (UP (Qa Ct) Ct) Zh))))) ?_;obtain⟨a0,rfl,_⟩:=S9 hw;refine Ki (WG (UA (KU Ct Uy (ZC (j:=0) Ct)) (UA (Ux Ct) (UA (Ux Ct) UD))) (Qa Ct)) ?_;rw[ha];rfl
end
theorem LP{f:M Cy}{s:D->Ur->CI}{g:SM}{ρ:Ur}(h:f ρ=.bad):Kv f s g ρ=.bad:=by unfold Kv sB;rw[h]
theorem FS{f:M Cy}{ρ:Ur}(h:f ρ=.bad):Xe f ρ=.bad:=by unfold Xe UB;rw[h]
theorem FQ{f:M D}{g:M Cy}{ρ:Ur}(h:f ρ=.bad):Uw f g ρ=.bad:=by unfold Uw UB;rw[h]
theorem DU(ds:Cy):Yp [exD "NoText" ds]=O (.list [.int 2]):=by kernel_rfl
theorem ON{d:D}{k:Nat}(h:WV [d]=O (.exc (exD "NoText" [.int (k:Nat)]))):K5 [d]=O (.int (k:Nat)):=by
 refine Zc (ρ:=[pb d,Cu,Cu,Cu]) Ct ?_;unfold YS;refine UY (Kj Uy (Qa Ct) Ct) ?_;refine UY (Kj Uy (Qa Ct) Ct) ?_
 let E:D:=exD "NoText" [.int (k:Nat)]
 refine UY (ρ1:=[pb d,pb E,O (.pub .none),Cu]) (Ht (Ry (SA (UA (Ux Ct) UD) Ct h)) Ct (Qa Ct) (Kj (Ux Ct) (Qa Ct) Ct) Ct) ?_;apply UZ;refine U5 (b:=Cw) (ρ1:=[pb d,pb E,O (.pub .none),Cu]) (KN (x:=E) (Ux Ct)) (λz=>by cases z) λ_=>Ka (U8 ?_)
 have n0:oNe (.list [.int 2]) (.list [.int 2])=O Cw:=by kernel_rfl
 have hf:Yp [E]=O (.list [.int 2]):=DU [.int (k:Nat)];apply UZ;refine U5 (b:=Cw) (UI (Kn (UA (Ux Ct) UD) Ct hf) (KD (UA Uy UD) (Qa Ct)) n0) (λz=>by cases z) λ_=>Ka (U8 ?_)
 exact Ki (U4 (Ux Ct) (K0 Ct)) Ct
theorem EL{d r:D}(h:WV [d]=O (.val r)):K5 [d]=O r:=by refine Zc (ρ:=[pb d,Cu,Cu,Cu]) Ct ?_;unfold YS;refine UY (Kj Uy (Qa Ct) Ct) ?_;refine UY (Kj Uy (Qa Ct) Ct) ?_;refine UY (ρ1:=[pb d,O (.pub .none),pb r,Cu]) (PJ (Mi (SA (UA (Ux Ct) UD) Ct h) Ct)) ?_;apply UZ;exact U5 (b:=Cv) (ρ1:=[pb d,O (.pub .none),pb r,Cu]) (KN (x:=.none) (Ux Ct)) (λ_=>Ki (Ux Ct) (KY Ct)) λz=>by cases z
theorem OX{z:Str}(hz:Uf z=Cv)(hl:z.length<=90000):K5 [.str z]=O (Wv (UW z)):=by
 have h:=Lu hz hl;cases e:UW z with
 |inl k=>rw[e]at h;exact ON h
 |inr acc=>rw[e]at h;exact EL h
theorem EK{d:D}(h:UQ d "str" = Cw):K5 [d]=O (.int 0):=by
 have hX:TL [d]=O (.exc (exD "NoText" [.int (0:Nat)])):=by refine T3 (ρ:=[pb d]) Ct ?_;unfold Rj;apply UZ;exact U5 (b:=Cv) (Vq (Ux Ct) (by rw[h];rfl)) (λ_=>Zs (Tt (UA Uy UD) Ct) (WN ⟨rfl,rfl⟩)) λz=>by cases z
 have hF:ZJ [d]=Cu:=by refine LU (ρ:=[pb d]) Ct ?_;unfold YV;apply UZ;exact U5 (b:=Cv) (Vq (Ux Ct) (by rw[h];rfl)) (λ_=>Zs Ct (FV Ct)) λz=>by cases z
 refine ON (k:=0) (T3 (ρ:=[pb d,Cu,Cu,Cu,Cu,Cu,Cu,Cu]) Ct ?_);unfold TR;refine UY (ρ1:=[pb d,O (.own []),Cu,Cu,Cu,Cu,Cu,Cu]) (YB (Xm UD (Qa Ct)) (Qa Ct) Ct) ?_;apply UZ;refine Zs (La (LP (FS (FQ (LS (UA (Ux Ct) UD) Ct hF)))) (Ry (Ld (SA (UA (Ux Ct) UD) Ct hX)))) (WN ⟨rfl,rfl⟩)
theorem DT{z:Str}(hz:Uf z=Cv)(hl:z.length<=90000):Y3 [.str z]=O (Wv (UW z)):=by
 let Z:Option Sl:=O (.pub (.str z))
 let W:Option Sl:=O (.pub (Ws (Txt.split z "\n")))
 have Bk:∀y∈Txt.split z "\n", Uf y=Cv/\y.length<=90000:=λy hy=>⟨Vn hz y hy,Qn (Vx hy) hl⟩
 refine Zc (ρ:=[Z,Cu,Cu,Cu,Cu,Cu]) Ct ?_;unfold X5;refine UY (ρ1:=[Z,W,Cu,Cu,Cu,Cu]) (Kj (WL (Ux Ct) (UA Uy UD) Ct (by lia)) (Qa Ct) Ct) ?_;refine UY (ρ1:=[Z,W,O (.own []),Cu,Cu,Cu]) (YB (Xm UD (Qa Ct)) (Qa Ct) Ct) ?_;apply UZ;have hlen:Kd [Ws (Txt.split z "\n")]=O (.int ((Txt.split z "\n").length:Nat)):=WC _;apply YF (ds:=Zp 0 3) (λi ρ=>∃acc x3 x4 x5,ρ=[Z,W,O (.own (acc.map UK)),x3,x4,x5]/\acc.length=i/\i<=(Txt.split z "\n").length/\Ks (Txt.split z "\n") 0 []=Ks ((Txt.split z "\n").drop i) i acc)
 case h1=>exact Tj (UA Uy UD) (Tv (by decide) (by decide))
 case h0=>exact⟨[],Cu,Cu,Cu,rfl,rfl,JN _,rfl⟩
 case hst=>
  rintro i d ρ hi ⟨acc,x3,x4,x5,rfl,hal,hil,hw⟩;obtain⟨rfl,hlt⟩:=Re hi;have BC:i<3:=by lia
  rw[Int.zero_add]
  let I:Option Sl:=O (.pub (.int (i:Nat)))
  refine⟨[Z,W,O (.own (acc.map UK)),I,x4,x5],UP (Qa Ct) Ct,?_⟩;unfold Ps;apply UZ;refine U5 (b:=decide (i=(Txt.split z "\n").length)) (Zf Ct (Zg Ct hlen) (by rw[Z8];by_cases h:i=(Txt.split z "\n").length<;>simp[h]<;>lia)) (λh=>?_) λh=>Ka (U8 ?_)
  .have h:=Qa h
   rw[h,Ji (Qs _),←h]at hw;refine Ki (Ux Ct) (KY (Tu (KY ?_)));have ha:UW z=.inl i:=by unfold UW;rw[hw,Ks];dsimp only;rw[hal,Qo BC]
   rw[ha];rfl
  have h:=JK h;have B7:i<(Txt.split z "\n").length:=by lia
  obtain⟨r,C6⟩:∃r,(Txt.split z "\n")[i]?=O r:=⟨_,Qi B7⟩
  have hr:=Bk r (QL C6);obtain⟨hwd,hc,hp⟩:=OP hr.1 hr.2;have hd:TxW ((Txt.split r " ").drop 1):=λw h=>hwd w (JD h)
  have hdc:((Txt.split r " ").drop 1).length<=100000:=by rw[Jc];lia
  rw[To C6,Qv (by lia)]at hw
  have hixr:oIx (Ws (Txt.split z "\n")) (.int (i:Nat))=O (.str r):=by
   rw[T4 B7];have:(Txt.split z "\n").getD i "" = r:=by simp[List.getD,C6]
   rw[this]
  let V:Option Sl:=O (.pub (Ws (Txt.split r " ")))
  refine UY (ρ1:=[Z,W,O (.own (acc.map UK)),I,V,x5]) (Kj (WL (KU Ct (Ux Ct) hixr) (UA Uy UD) Ct (by lia)) (Qa Ct) Ct) ?_
  let nW:Str->D:=λw=>if okW w=Cv then .int (vW w)else .none
  let ws:=(Txt.split r " ").drop 1
  refine UY (ρ1:=[Z,W,O (.own (acc.map UK)),I,V,O (.own (ws.map nW))]) (YB (YH (ds:=ws.map Ue) (es:=ws.map nW) (YA (K3 (Ux Ct) (KJ Uy) Uy (RO _)) Ct) ?_) (Qa Ct) Ct) ?_
  .refine(Zx Ue nW (λρ=>∃x,ρ=[Z,W,Cu,I,V,Rr x5,x]) ws _ [] ?_ ⟨Cu,rfl⟩ (by rw[Jk];show 0+((Txt.split r " ").drop 1).length<=_;lia)).trans Ct
   rintro w B0 ρ ⟨x,rfl⟩;refine⟨_,UP (Qa Ct) Ct,Kn (UA (Ux Ct) UD) Ct (MB (hd w B0)),pb (.str w),?_⟩;cases x5 with
   |none=>rfl
   |some sl=>cases sl<;>rfl
  have hn:oNe (.str ((Txt.split r " ").getD 0 "")) (.str (PWD.getD i ""))=O (!((Txt.split r " ").getD 0 "" == PWD.getD i "")):=Vh (hwd _ (Tp hp)).1 (RB BC)
  have hlay:(Uc (ws.map nW)).canLay0=Cv:=TN λx hx=>by
   obtain⟨w,_,rfl⟩:=Q6.mp hx
   show(if okW w=Cv then int (vW w)else .none).canLay0=Cv
   split<;>rfl
  have hdep:(Uc (ws.map nW)).depth<=60:=Qn (Po (n:=1) (S8 λx hx=>by
   obtain⟨w,_,rfl⟩:=Q6.mp hx
   show(if okW w=Cv then int (vW w)else .none).depth<=1
   split<;>simp[Uh])) (by decide)
  have hnil:oEq (.list (ws.map nW)) (.list [])=O (decide (ws=[])):=by
   unfold oEq;rw[Qo ⟨hlay,rfl,hdep⟩]
   congr 1
   generalize ws=us;cases us with
   |nil=>rfl
   |cons a b=>rw[decide_eq_false (by simp)];rfl
  have hnone:oIn .none (.list (ws.map nW))=O (!ws.all okW):=by
   unfold oIn;dsimp only;rw[if_pos ⟨rfl,hlay,by simp[Uh]⟩]
   congr 1
   have key:∀us:List Str,((us.map nW).any λy=>Ui y .none) = !us.all okW:=λus=>by
    induction us with
    |nil=>rfl
    |cons a b ih=>
     rw[QI,List.any_cons,JL,ih]
     show(Ui (if okW a=Cv then int (vW a)else .none) .none || _)=_
     cases okW a<;>rfl
   exact key ws
  have ht:mOr (Uu oNe (UM 4 (Us (.int 0))) (Uu oIx (UL (Uw (Us (.str "times")) (Uw (Us (.str "asks")) (Uw (Us (.str "prices")) (Ut))))) (Uq 3))) (mOr (Kg oEq 5 (UL (Ut))) (Wn oIn (Us .none) 5)) [Z,W,O (.own (acc.map UK)),I,V,O (.own (ws.map nW))]=.ok (!((Txt.split r " ").getD 0 "" == PWD.getD i "") || (decide (ws=[]) || !ws.all okW)) [Z,W,O (.own (acc.map UK)),I,V,O (.own (ws.map nW))]:=
   VF (UI (KU Ct Uy (T4 (k:=0) hp)) (UI (KD (UA Uy (UA Uy (UA Uy UD))) (Qa Ct)) (Ux Ct) (ixPL BC)) hn) λ_=>VF (FE Ct (KD UD (Qa Ct)) Ct hnil) λ_=>FC Uy Ct hnone
  have hret:∀{x4 x5:Option Sl},UW z=.inl i->Ho (UE (Uq 3)) [Z,W,O (.own (acc.map UK)),I,x4,x5] (λo=>o=.rt (Wv (UW z))):=λe=>Ki (Ux Ct) (by rw[e];rfl)
  have B6:Ks (Txt.split z "\n") 0 []=.inl i->UW z=.inl i:=λe=>by unfold UW;rw[e]
  apply UZ;refine U5 ht (λhb=>?_) λhb=>Ka (U8 ?_)
  .have hrn:Ze i (US i r)=Cw:=by
    have:US i r=[]:=by
     unfold US;by_cases h1:((Txt.split r " ").getD 0 "" == PWD.getD i "")&&((Txt.split r " ").drop 1).all okW
     .rw[Qo h1]
      rw[Qw]at h1;rw[h1.1,show ws.all okW=Cv from h1.2,Bool.not_true,Bool.false_or,Bool.or_false]at hb;have:(Txt.split r " ").drop 1=[]:=Qa hb;rw[this];rfl
     .rw[Qv h1]
    rw[this];unfold Ze
    split<;>rfl
   rw[hrn,Qv (by decide)]at hw;exact Ti (hret (B6 hw)) λo e=>by subst e;exact KY (Tu (KY Ct))
  simp only[Bool.or_eq_false_iff,Bool.not_eq_false',Q7]at hb;obtain⟨hb1,Aa,hb3⟩:=hb;have hrN:US i r=ws.map vW:=by unfold US;rw[Qo (by rw[hb1,show((Txt.split r " ").drop 1).all okW=Cv from hb3];rfl)]
  have hmap:ws.map nW=(ws.map vW).map int:=by
   rw[JE];apply Jt;intro w B0
   show(if okW w=Cv then int (vW w)else .none)=_
   rw[Qo (QG.mp hb3 w B0)];rfl
  rw[hrN]at hw
  have hpos:1<=ws.length:=by
   cases e:ws with
   |nil=>exact(Aa e).elim
   |cons a b=>simp
  rw[hmap];have hlw:((ws.map vW).map int).length=ws.length:=by rw[Qg,Qg]
  have C4:Ze i (ws.map vW)=Cv->Ho (KR 2 (Uq 5)) [Z,W,O (.own (acc.map UK)),I,V,O (.own ((ws.map vW).map int))] (Wo (λρ=>∃acc x3 x4 x5,ρ=[Z,W,O (.own (acc.map UK)),x3,x4,x5]/\acc.length=i+1/\i+1<=(Txt.split z "\n").length/\Ks (Txt.split z "\n") 0 []=Ks ((Txt.split z "\n").drop (i+1)) (i+1) acc) (Xu (Uv (sIf (Uu (oIB λi j=>decide (j<i)) (Ku 1) (Us (.int 3)))
    (UE (Us (.int 3)))
    (sNx))
    (UE (KT (Uw (Uu oIx (UM 2 (Us (.int 0))) (Us (.int 0))) (Uw (UM 2 (Us (.int 1))) (Uw (UM 2 (Us (.int 2))) (Ut))))))) λo=>o=.rt (Wv (UW z)))):=λhg=>by
   rw[Qo hg]at hw;exact Zs (XA Ct (WP Ct Ct) Ct (by rw[Qg];lia) Ct) (Yg ⟨acc++[ws.map vW],I,V,pb (UK (ws.map vW)),by rw[Q1];rfl,by rw[Qu,hal];rfl,by lia,hw⟩)
  have hval:∀x∈ws.map vW,0<=x:=λx hx=>by obtain⟨w,B0,rfl⟩:=Q6.mp hx;exact MA (QG.mp hb3 w B0)
  apply UZ;by_cases h0:i=0
  .subst h0
   obtain⟨a,t,hat⟩:∃a t,ws.map vW=a::t:=by
    cases e:ws.map vW with
    |nil=>rw[List.map_eq_nil_iff]at e;rw[e]at hpos;simp at hpos
    |cons a t=>exact⟨a,t,rfl⟩
   have ha0:=hval a (by rw[hat];exact Qj);rw[hat]at hw C4 hlw⊢
   have hg:Ze 0 (a::t) = !(decide ((1:Int)<(((a::t).map int).length:Nat)) || decide (a=0)):=by
    unfold Ze;rw[Qo Ct,Qg]
    show(decide ((a::t).length=1)&&decide (1<=a))=_
    by_cases h1:t=[]
    .subst h1
     by_cases h2:a=0
     .subst h2;rfl
     .rw[QM (show 1<=a by lia),Qt h2];rfl
    .have:1<=t.length:=by cases t with|nil=>exact(h1 Ct).elim|cons x y=>simp
     rw[Qt (show ¬(a::t).length=1 by rw[QF];lia),QM (show(1:Int)<(((a::t).length:Nat):Int)by rw[QF];lia)];rfl
   refine U5 (Sg (t:=Cv) (Zf Ct Uy (Z8.trans Ct)) λ_=>VF (UI (SJ Ct) Uy Vb) λ_=>UI (XB Ct Uy Ct (ZC (j:=0) Ct)) Uy Z8) (λhb=>?_) λhb=>Ka (U8 (C4 ?_))
   .rw[Bool.true_and]at hb
    rw[hg,hb,Bool.not_true,Qv (by decide)]at hw;exact Ti (hret (B6 hw)) λo e=>by subst e;exact KY (Tu (KY Ct))
   .rw[Bool.true_and]at hb
    rw[hg,hb];rfl
  .refine U5 (b:=Cw) (HG (Zf Ct Uy (Z8.trans (by rw[Qt (by lia)])))) (λz=>by cases z) λ_=>Ka (U8 (C4 ?_))
   unfold Ze;rw[Qv h0,Qg];exact QM hpos
 case hend=>
  rintro ρ ⟨acc,x3,x4,x5,rfl,hal,hil,hw⟩;have h3:(Zp 0 3).length=3:=rfl;rw[h3]at hal hil hw;refine U8 ?_;apply UZ;refine U5 (b:=decide (3<(Txt.split z "\n").length)) (UI (Zg Ct hlen) Uy (by rw[Vb];by_cases h:3<(Txt.split z "\n").length<;>simp[h]<;>lia)) (λh=>?_) λh=>Ka (U8 ?_)
  .have h:=Qa h
   obtain⟨r,C6⟩:∃r,(Txt.split z "\n")[3]?=O r:=⟨_,Qi h⟩
   rw[To C6,Qo Ct]at hw;refine Ki Uy (KY ?_);have:UW z=.inl 3:=by unfold UW;rw[hw]
   rw[this];rfl
  .have h:=JK h
   rw[Ji (by lia),Ks]at hw;have ha:UW z=.inr acc:=by unfold UW;rw[hw];dsimp only;rw[if_neg (by lia)]
   match acc,hal with
   |[a,b,c],_=>
   obtain⟨a0,rfl,_⟩:=S9 hw;refine Ki (WG (UA (UI (XB Ct Uy Ct (ZC (j:=0) Ct)) Uy (ZC (j:=0) Ct)) (UA (XB Ct Uy Ct (ZC (j:=1) Ct)) (UA (XB Ct Uy Ct (ZC (j:=2) Ct)) UD))) (Qa Ct)) ?_;rw[ha];rfl
theorem Ls{z:Str}(hz:Uf z=Cv)(hl:z.length<=90000){acc0:List CD}(ha:UW z=.inr acc0):TQ [.str z]=O (Yi acc0):=by
 let Z:Option Sl:=O (.pub (.str z))
 let tt:Pat:=.lst (.lst .leaf)
 have Bk:∀y∈Txt.split z "\n", Uf y=Cv/\y.length<=90000:=λy hy=>⟨Vn hz y hy,Qn (Vx hy) hl⟩
 obtain⟨C9,h3⟩:Ks (Txt.split z "\n") 0 []=.inr acc0/\¬acc0.length<3:=by
  unfold UW at ha;cases e:Ks (Txt.split z "\n") 0 []with
  |inl k=>rw[e]at ha;cases ha
  |inr acc=>
   rw[e]at ha;dsimp only at ha;by_cases h:acc.length<3
   .rw[Qo h]at ha;cases ha
   .rw[Qv h]at ha
    injection ha with ha;subst ha
    exact⟨rfl,h⟩
 refine Pl (ρ:=[Z,Cu,Cu,Cu,Cu,Cu,Cu,Cu]) Ct ?_;unfold Rk;refine UY (ρ1:=[Z,O (.deep tt (.list [])),Cu,Cu,Cu,Cu,Cu,Cu]) (Sx Uy (Qa Ct) Ct) ?_;apply UZ;apply YF (ds:=ZB 0 ((Txt.split z "\n").map Ue)) (λi ρ=>∃acc x2 x3 x4,ρ=[Z,O (.deep tt (.list (acc.map UK))),x2,x3,x4,Cu,Cu,Cu]/\acc.length=i/\i<=3/\Ks ((Txt.split z "\n").drop i) i acc=.inr acc0)
 case h1=>exact SD (UA (Kn (UA (Ux Ct) UD) Ct (Pi hl)) UD) (RA _)
 case h0=>exact⟨[],Cu,Cu,Cu,rfl,rfl,by decide,C9⟩
 case hst=>
  rintro i d ρ hi ⟨acc,x2,x3,x4,rfl,hal,BC,hw⟩;obtain⟨x,hx,rfl⟩:=Tq hi;rw[Qx]at hx;cases C6:(Txt.split z "\n")[i]? with
  |none=>rw[C6]at hx;cases hx
  |some r=>
  rw[C6]at hx;cases hx;rw[JI];have hr:=Bk r (QL C6)
  let I:Option Sl:=O (.pub (.int (i:Nat)))
  let R:Option Sl:=O (.pub (.str r))
  rw[To C6]at hw;by_cases h4:i=3
  .rw[Qo h4]at hw;cases hw
  rw[Qv h4]at hw;by_cases hg:Ze i (US i r)=Cv
  case neg=>rw[Qv hg]at hw;cases hw
  rw[Qo hg]at hw;refine⟨[Z,O (.deep tt (.list (acc.map UK))),I,R,x4,Cu,Cu,Cu],ZW Ct (U0 (UP (Qa Ct) Ct) (U0 (UP (Qa Ct) Ct) Zh)),?_⟩;have hi':i<3:=by lia
  obtain⟨_,hO⟩:=Ou hi' hr.1 hr.2;have hrl:=Sr (xs:=US i r) (k:=i) hr.2 Ct;have h4f:decide (i=3)=Cw:=Qt h4;unfold NB;apply UZ;refine U5 (b:=Cw) (Zf Ct (VH _) (eq3.trans (by rw[h4f]))) (λz=>by cases z) λ_=>Ka (U8 ?_)
  refine UY (ρ1:=[Z,O (.deep tt (.list (acc.map UK))),I,R,O (.own ((US i r).map int)),Cu,Cu,Cu]) (YB (Gn (UA (UI Uy (Ux Ct) (ixPW hi')) (UA (Ux Ct) UD)) Ct hO) (Qa Ct) Ct) ?_;apply UZ;refine U5 (b:=Cw) (Sz (ZU (t:=Cv) (ZF (Kn (UA (Ux Ct) (UA (Ux Ct) UD)) Ct ((Nv (xs:=US i r)).trans (by rw[hg])))))) (λz=>by cases z) λ_=>Ka (U8 ?_)
  refine Zs (Gc Ct Ct (by rw[Qg];lia) Ct) (Yg ⟨acc++[US i r],I,R,Cu,by rw[Q1];rfl,by rw[Qu,hal];rfl,by lia,hw⟩)
 case hend=>
  rintro ρ ⟨acc,x2,x3,x4,rfl,hal,BC,hw⟩;have hle:(ZB 0 ((Txt.split z "\n").map Ue)).length=(Txt.split z "\n").length:=by rw[Vv,Qg]
  rw[hle,Ji (Qs _),Ks]at hw;injection hw with hw;subst hw;have h5:acc.length=3:=by lia
  clear hal BC h3 ha
  match acc,h5,C9 with
  |[a,b,c],_,C9=>
  refine U8 ?_;apply UZ;refine U5 (b:=Cw) (Sz (UI (Zg (d:=.list [UK a,UK b,UK c]) Ct Ct) (VH _) Ct)) (λz=>by cases z) λ_=>Ka (U8 ?_)
  refine UY (ρ1:=[Z,Cu,x2,x3,x4,O (.own (a.map int)),O (.own (b.map int)),O (.own (c.map int))]) (F8 (Pu Ct (by decide)) ⟨by decide,Qa Ct,Qa Ct,Qa Ct⟩ Ct) ?_;obtain⟨a0,rfl,_⟩:=S9 C9;exact Ka ⟨_,rfl,_,F7 (XB Ct Uy Ct (ZC (j:=0) Ct)) Ct Ct (by decide)⟩
theorem Mz{z:Str}(hz:Uf z=Cv)(hl:z.length<=90000){acc0:List CD}(ha:UW z=.inr acc0):Vu [.str z]=O (Yi acc0):=by
 refine Pl (ρ:=[pb (.str z),Cu,Cu,Cu]) Ct ?_;unfold Rb;refine UY (Kj Uy (Qa Ct) Ct) ?_;refine UY (Kj Uy (Qa Ct) Ct) ?_
 let P:Option Sl:=O (.deep (.tup [.leaf,.lst .leaf,.lst .leaf]) (Yi acc0))
 refine UY (ρ1:=[pb (.str z),O (.pub .none),P,Cu]) (PJ (Sx (Kn (UA (Ux Ct) UD) Ct (Ls hz hl ha)) (Qa Ct) Ct)) ?_;refine U5 (b:=Cv) (ρ1:=[pb (.str z),O (.pub .none),P,Cu]) (KN (x:=.none) (Ux Ct)) (λ_=>?_) λz=>by cases z
 exact Ka ⟨_,rfl,_,Pu Ct (by decide)⟩
theorem Ot{xs:Cy}{a b:Nat}(h1:a<=xs.length)(h2:b<=xs.length):DL.cutD xs (O (a:Int)) (O (b:Int))=(xs.drop a).take (b-a):=by unfold DL.cutD HT.sIx;dsimp only;rw[Qv (by lia),Qv (by lia),Jr,Jr,Nat.min_eq_left h1,Nat.min_eq_left h2]
structure Nums(xs:CD)(m:Nat):Prop where
 pos:1<=xs.length
 few:xs.length<=m
 val:∀n∈xs,0<=n/\n.natAbs<10 ^ 60
structure Ppr(t:Int)(as ps:CD):Prop where
 t1:1<=t
 t2:t.natAbs<10 ^ 60
 a:Nums as 7
 p:Nums ps 6
noncomputable def szPp:CD:=[7,6]++(Ub 14 ([4,10,10 ^ 18]:CD)).flatten
theorem LO:∀x∈szPp,0<x/\x<18446744073709551616:=by decide
theorem LN:∀k,k<14->szPp[2+3*k]?=O 4/\szPp[3+3*k]?=O 10/\szPp[4+3*k]?=O (10 ^ 18):=by decide
theorem FP:UC (.list [.int 7,.int 6]) (.list (Ub 14 ([.int 4,.int 10,.int (10 ^ 18)]:Cy)).flatten)=O (.list (szPp.map int)):=rfl
theorem Os{ns:CD}(h14:ns.length=14)(hv:∀n∈ns,0<=n/\n.natAbs<10 ^ 60){a m:Nat}{d:Int}(h0:0<=d)(h1:d<m)(h2:a+m<=14){u1 u2:Int}(e1:u1=a)(e2:u2=a+1+d) :
  ∃xs,KL (.list (ns.map int)) (O u1) (O u2)=O (UK xs)/\Nums xs m:=by
 subst e1 e2;obtain⟨k,rfl⟩:=Int.eq_ofNat_of_zero_le h0;refine⟨(ns.drop a).take (k+1),?_,?_,?_,λn hn=>hv n (JD (JC hn))⟩
 .rw[WM,show((a:Int)+1+(k:Nat))=((a+1+k:Nat):Int)by lia,Ot (by rw[Qg];lia) (by rw[Qg];lia),←List.map_drop,←List.map_take,show a+1+k-a=k+1 by lia];rfl
 .rw[Jx,Jc];lia
 .rw[Jx];lia
theorem DS(c s:Int):∃r,Yo [.int c,.int s]=O r/\∃t as ps,r=.tuple [.int t,UK as,UK ps]/\Ppr t as ps:=by
 obtain⟨r0,hF,ds,rfl,hdl,hd⟩:=TW c s (sizes:=szPp) LO (by decide);have hdl:ds.length=44:=hdl
 let C:Option Sl:=O (.pub (.int c))
 let S:Option Sl:=O (.pub (.int s))
 let N:Option Sl:=O (.pub (.list (ds.map int)))
 refine V1 (ρ:=[C,S,Cu,Cu,Cu,Cu,Cu,Cu]) Ct ?_;unfold X8;refine UY (ρ1:=[C,S,N,Cu,Cu,Cu,Cu,Cu]) (Kj (Kn (UA (Ux Ct) (UA (Ux Ct) (UA (UI (KD (UA Uy (UA Uy UD)) (Qa Ct)) (UI (KD (UA Uy (UA Uy (UA (UI Uy Uy (SB (by decide))) UD))) (Qa Ct)) Uy (Df (by decide))) FP) UD))) Ct hF) (Qa Ct) Ct) ?_;refine UY (ρ1:=[C,S,N,O (.own []),Cu,Cu,Cu,Cu]) (YB (Xm UD (Qa Ct)) (Qa Ct) Ct) ?_;apply UZ;apply YF (ds:=Zp 0 14) (λi ρ=>∃(ns:CD)(x4 x5 x6 x7:Option Sl),ρ=[C,S,N,O (.own (ns.map int)),x4,x5,x6,x7]/\ns.length=i/\∀n∈ns,0<=n/\n.natAbs<10 ^ 60)
 case h1=>exact Tj (UA Uy UD) (Tv (by decide) (by decide))
 case h0=>exact⟨[],Cu,Cu,Cu,Cu,rfl,rfl,λn h=>by cases h⟩
 case hst=>
  rintro i d ρ hi ⟨ns,x4,x5,x6,x7,rfl,hnl,hv⟩;obtain⟨rfl,hlt⟩:=Re hi;have hi14:i<14:=by lia
  rw[Int.zero_add];obtain⟨s1,s2,s3⟩:=LN i hi14;obtain⟨w,hw⟩:∃w,ds[2+3*i]?=O w:=⟨_,Qi (by lia)⟩
  obtain⟨l,hl⟩:∃w,ds[3+3*i]?=O w:=⟨_,Qi (by lia)⟩
  obtain⟨f,hf⟩:∃w,ds[4+3*i]?=O w:=⟨_,Qi (by lia)⟩
  have bw:=hd _ w 4 hw s1;have bl:=hd _ l 10 hl s2;have bf:=hd _ f (10 ^ 18) hf s3
  have hsl:KL (.list (ds.map int)) (O (2+3*(i:Int))) (O (5+3*(i:Int)))=O (.list [.int w,.int l,.int f]):=by
   rw[WM,show(2+3*(i:Int))=((2+3*i:Nat):Int)by lia,show(5+3*(i:Int))=((5+3*i:Nat):Int)by lia,Ot (by rw[Qg];lia) (by rw[Qg];lia),show 5+3*i-(2+3*i)=3 by lia];rw[Q8 (by rw[Qg];lia),Q8 (by rw[Qg];lia),Q8 (by rw[Qg];lia)];rw[List.getElem_map,List.getElem_map,List.getElem_map];have e1:=(Qm.mp hw).2;have e2:=(Qm.mp hl).2;have e3:=(Qm.mp hf).2;have e2':ds[2+3*i+1]'(by lia)=l:=by rw[←e2];congr 1;lia
   have e3':ds[2+3*i+1+1]'(by lia)=f:=by rw[←e3];congr 1;lia
   rw[e1,e2',e3'];rfl
  let I:Option Sl:=O (.pub (.int (i:Nat)))
  refine⟨[C,S,N,O (.own (ns.map int)),I,x5,x6,x7],UP (Qa Ct) Ct,?_⟩;unfold Pr;refine UY (ρ1:=[C,S,N,O (.own (ns.map int)),I,pb (.int w),pb (.int l),pb (.int f)]) (V2 (K3 (Ux Ct) (KJ (UI Uy (UI Uy (Ux Ct) (Vs (by decide) (by decide))) Zb)) (KJ (UI Uy (UI Uy (Ux Ct) (Vs (by decide) (by decide))) Zb)) hsl) (XV Ct (U0 (UP (Qa Ct) Ct) (U0 (UP (Qa Ct) Ct) (U0 (UP (Qa Ct) Ct) Zh))))) ?_
  obtain⟨v,hix,hvv⟩:∃v:Int,oIx (.list [.int 0,.int l,.int f,.int (f*10 ^ 42+l)]) (.int w)=O (.int v)/\0<=v/\v.natAbs<10 ^ 60:=by
   have:w=0∨w=1∨w=2∨w=3:=by lia
   rcases this with rfl|rfl|rfl|rfl
   .exact⟨0,rfl,by decide,by decide⟩
   .exact⟨l,rfl,bl.1,by lia⟩
   .exact⟨f,rfl,bf.1,by lia⟩
   .exact⟨f*10 ^ 42+l,rfl,by lia,by lia⟩
  refine Zs (XA Ct (UI (KD (UA Uy (UA (Ux Ct) (UA (Ux Ct) (UA (UI (UI (Ux Ct) (UI Uy Uy (SB (by decide))) (Vs (by lia) (by lia))) (Ux Ct) Zb) UD)))) (Qa Ct)) (Ux Ct) hix) Ct (by rw[Qg];lia) Ct) (Yg ⟨ns++[v],_,_,_,_,by rw[Q1];rfl,by rw[Qu,hnl];rfl,λn hn=>?_⟩);rcases QW.mp hn with h|h
  .exact hv n h
  .rw[QK.mp h];exact hvv
 case hend=>
  rintro ρ ⟨ns,x4,x5,x6,x7,rfl,hnl,hv⟩;have hnl:ns.length=14:=hnl;obtain⟨d0,h0⟩:∃w,ds[0]?=O w:=⟨_,Qi (by lia)⟩
  obtain⟨d1,h1⟩:∃w,ds[1]?=O w:=⟨_,Qi (by lia)⟩
  obtain⟨n0,hn0⟩:∃w,ns[0]?=O w:=⟨_,Qi (by lia)⟩
  have b0:=hd 0 d0 7 h0 Ct;have b1:=hd 1 d1 6 h1 Ct;have bn:=hv n0 (QL hn0);obtain⟨as,ha,na⟩:=Os hnl hv (a:=1) (m:=7) b0.1 b0.2 (by decide) (u1:=1) (u2:=2+d0) Ct (by lia);obtain⟨ps,hp,np⟩:=Os hnl hv (a:=8) (m:=6) b1.1 b1.2 (by decide) (u1:=8) (u2:=9+d1) Ct (by lia);have i0:oIx (.list (ds.map int)) (.int 0)=O (.int d0):=ZC (j:=0) (by rw[Qx,h0];rfl);have i1:oIx (.list (ds.map int)) (.int 1)=O (.int d1):=ZC (j:=1) (by rw[Qx,h1];rfl);have in0:oIx (.list (ns.map int)) (.int 0)=O (.int n0):=ZC (j:=0) (by rw[Qx,hn0];rfl);refine U8 (Ki (WG (UA (YC (UA Uy (UA (XB Ct Uy Ct in0) UD)) PP) (UA (K3 (WP Ct Ct) (KJ Uy) (KJ (UI Uy (KU Ct Uy i0) Zb)) ha) (UA (K3 (Ux Ct) (KJ Uy) (KJ (UI Uy (KU Ct Uy i1) Zb)) hp) UD))) (Qa Ct)) ⟨_,rfl,_,as,ps,rfl,?_,?_,na,np⟩)
  .split<;>lia
  .split<;>lia
noncomputable def nS(n:Int):Str:=Uk (toString n)
noncomputable def UV(w:Str)(xs:CD):Str:=Str.join " " (w::xs.map nS)
noncomputable def KS(t:Int)(as ps:CD):Str:=Str.join "\n" [UV "times" [t],UV "asks" as,UV "prices" ps]
theorem My{n:Int}(h0:0<=n)(h:n.natAbs<10 ^ 60):∃l,nS n=stL l/\okP l=Cv/\vNm l=n/\l.length<=60/\l.all U3=Cv:=by
 by_cases hz:n=0
 .subst hz
  exact⟨[48],by unfold nS;rw[str0];rfl,by decide,by decide,by decide,by decide⟩
 obtain⟨m,rfl⟩:=Int.eq_ofNat_of_zero_le h0;have Br:m≠0:=by lia
 have hm60:m<10 ^ 60:=by lia
 obtain⟨q1,q2⟩:=M6 m Br;have q3:=Gz hm60;have q4:=GA Br;have q5:(shd m).all U3=Cv:=M7;have q7:1<=(shd m).length:=JQ.mpr q2
 have hf:(shd m).take 1≠[45]:=by
  cases hs:shd m with
  |nil=>exact absurd hs q2
  |cons x r=>
   rw[hs]at q5;intro e;have e:x=45:=by simpa using e
   subst e;simp[U3]at q5
 have hg:UH (shd m)=shd m:=by unfold UH;rw[Qv hf]
 refine⟨shd m,by unfold nS;rw[HU Br];rfl,?_,?_,q3,q5⟩
 .rw[Xz,QM q7,QM q3,q5,QM q1];rfl
 .unfold vNm
  rw[Qv hf,hg,q4]
theorem Xh{n:Int}(h0:0<=n)(h:n.natAbs<10 ^ 60):Uf (nS n)=Cv/\(nS n).length<=60/\okW (nS n)=Cv/\vW (nS n)=n/\∀c,c<48->c∉(nS n).cps.toList:=by
 obtain⟨l,e,h1,h2,h3,h4⟩:=My h0 h;rw[e];refine⟨YE (M5 h4),by rw[ZM];exact h3,h1,h2,λc hc hm=>?_⟩;have hm:c∈l:=hm;have:=QG.mp h4 c hm;unfold U3 at this;have:=Qa this
 lia
theorem V9{n:Int}(h:n.natAbs<10 ^ 60):Yd [.int n]=O (.str (nS n)):=by unfold Yd;exact Qo (HS h)
theorem LM{n:Int}(h:n.natAbs<10 ^ 60):Yq [.int n]=O (.str (nS n)):=by refine Zc (ρ:=[pb (.int n)]) Ct ?_;unfold Wi;exact Ki (YC (UA (Ux Ct) UD) (V9 h)) Ct
def Kw(xs:CD):Prop:=xs.length<=100/\∀n∈xs,0<=n/\n.natAbs<10 ^ 60
theorem Nums.l{xs:CD}{m:Nat}(h:Nums xs m)(hm:m<=100):Kw xs:=⟨Qn h.few hm,h.val⟩
theorem Oq{w:Str}{xs:CD}(hw:w.length<=60)(h:Kw xs):∀p∈w::xs.map nS,p.length<=60:=λp hp=>by
 rcases QC.mp hp with rfl|hp
 .exact hw
 .obtain⟨n,hn,rfl⟩:=Q6.mp hp
  exact(Xh (h.2 n hn).1 (h.2 n hn).2).2.1
theorem Op{w:Str}{xs:CD}(hw:w.length<=60)(h:Kw xs):Yw (.str " ") [.list (.str w::xs.map λn=>.str (nS n))]=O (.str (UV w xs)):=by
 have:=T5 (sep:= " ") (Oq hw h) (by
  rw[QF,Qg];have h1:=h.1;have e:(" " : Str).length=1:=rfl;rw[e];have:(xs.length+1)*(1+60)<=101*61:=Nat.mul_le_mul (by lia) (by decide)
  lia)
 rw[QI,JE]at this;exact this
theorem WJ{w:Str}{xs:CD}{m:Nat}(hw:w.length<=6)(h:Kw xs)(hm:xs.length<=m):(UV w xs).length<=7+m*61:=by
 unfold UV;rw[←Vo];refine Qn Vz ?_;rw[QI,Ja];have h2:=VY (s:=(" " : Str).length) (b:=60) (zs:=xs.map nS) λp hp=>Oq (w:= "") (by decide) h p (Ql _ hp)
 rw[Qg]at h2;have e:(" " : Str).length=1:=rfl;rw[e]at h2⊢;have:xs.length*(1+60)<=m*61:=Nat.mul_le_mul hm (by decide)
 lia
theorem Sq{w:Str}{xs:CD}(hw:Uf w=Cv)(h:Kw xs):Uf (UV w xs)=Cv:=Vc (by decide +kernel) λp hp=>by
 rcases QC.mp hp with rfl|hp
 .exact hw
 .obtain⟨n,hn,rfl⟩:=Q6.mp hp
  exact(Xh (h.2 n hn).1 (h.2 n hn).2).1
theorem DF{w:Str}{xs:CD}(hw:32∉w.cps.toList)(h:Kw xs):Txt.split (UV w xs) " " = w::xs.map nS:=by
 unfold UV;rw[MF];refine OZ (by simp) λp hp=>?_
 rcases QC.mp hp with rfl|hp
 .exact hw
 .obtain⟨n,hn,rfl⟩:=Q6.mp hp
  exact(Xh (h.2 n hn).1 (h.2 n hn).2).2.2.2.2 32 (by decide)
theorem S6{w:Str}{xs:CD}(hw:10∉w.cps.toList)(h:Kw xs):10∉(UV w xs).cps.toList:=OQ (by decide) λp hp=>by
 rcases QC.mp hp with rfl|hp
 .exact hw
 .obtain⟨n,hn,rfl⟩:=Q6.mp hp
  exact(Xh (h.2 n hn).1 (h.2 n hn).2).2.2.2.2 10 (by decide)
theorem SX{k:Nat}(hk:k<3){xs:CD}(h:Kw xs):US k (UV (PWD.getD k "") xs)=xs:=by
 have hw:32∉(PWD.getD k "").cps.toList:=by
  have:∀t∈PWD,32∉t.cps.toList:=by decide +kernel
  exact this _ (Tp hk)
 unfold US;rw[DF hw h];have h1:((PWD.getD k "" :: xs.map nS).drop 1)=xs.map nS:=rfl;have h2:(PWD.getD k "" :: xs.map nS).getD 0 "" = PWD.getD k "" :=rfl;rw[h1,h2,Qo,JE]
 .conv=>rhs;rw[←List.map_id xs]
  exact Jt λn hn=>(Xh (h.2 n hn).1 (h.2 n hn).2).2.2.2.1
 .rw[Qw]
  exact⟨beq_self_eq_true _,List.all_eq_true.mpr λp hp=>by obtain⟨n,hn,rfl⟩:=Q6.mp hp;exact(Xh (h.2 n hn).1 (h.2 n hn).2).2.2.1⟩
section
variable{t:Int}{as ps:CD}
theorem Ppr.lt(h:Ppr t as ps):Kw [t]:=⟨by simp,λn hn=>by rw[List.mem_singleton.mp hn];exact⟨by have:=h.t1;lia,h.t2⟩⟩
theorem Ppr.la(h:Ppr t as ps):Kw as:=h.a.l (by decide)
theorem Ppr.lp(h:Ppr t as ps):Kw ps:=h.p.l (by decide)
theorem Ppr.rows(h:Ppr t as ps):Txt.split (KS t as ps) "\n" = [UV "times" [t],UV "asks" as,UV "prices" ps]:=by
 unfold KS;rw[ME];refine OZ (by simp) λp hp=>?_
 simp only[QC,Jd,or_false]at hp;rcases hp with rfl|rfl|rfl
 .exact S6 (by decide +kernel) h.lt
 .exact S6 (by decide +kernel) h.la
 .exact S6 (by decide +kernel) h.lp
theorem Ppr.ok(h:Ppr t as ps):Uf (KS t as ps)=Cv:=Vc (by decide +kernel) λp hp=>by
 simp only[QC,Jd,or_false]at hp;rcases hp with rfl|rfl|rfl
 .exact Sq (by decide +kernel) h.lt
 .exact Sq (by decide +kernel) h.la
 .exact Sq (by decide +kernel) h.lp
theorem Ppr.len(h:Ppr t as ps):(KS t as ps).length<=1000:=by
 have l1:=WJ (w:= "times") (m:=1) (by decide) h.lt (by simp);have l2:=WJ (w:= "asks") (m:=7) (by decide) h.la h.a.few;have l3:=WJ (w:= "prices") (m:=6) (by decide) h.lp h.p.few;unfold KS;rw[←Vo];refine Qn Vz ?_;have e:("\n" : Str).length=1:=rfl;simp only[QI,List.map_nil,Ja,List.sum_nil,e]
 lia
theorem Ppr.ans(h:Ppr t as ps):UW (KS t as ps)=.inr [[t],as,ps]:=by
 have e0:US 0 (UV "times" [t])=[t]:=SX (k:=0) (by decide) h.lt;have e1:US 1 (UV "asks" as)=as:=SX (k:=1) (by decide) h.la;have e2:US 2 (UV "prices" ps)=ps:=SX (k:=2) (by decide) h.lp
 have g0:Ze 0 [t]=Cv:=by
  unfold Ze;rw[Qo Ct]
  show(Cv&&decide (1<=t))=Cv
  rw[QM h.t1];rfl
 have g1:Ze 1 as=Cv:=QM h.a.pos;have g2:Ze 2 ps=Cv:=QM h.p.pos;unfold UW;rw[h.rows,Ks,Qv (by decide),e0,Qo g0,Ks,Qv (by decide),e1,Qo g1,Ks,Qv (by decide),e2,Qo g2,Ks];rfl
end
theorem D7{w:Str}{xs:CD}(hw:w.length<=60)(h:Kw xs):Y9 [.str w,UK xs]=O (.str (UV w xs)):=by
 let W:Option Sl:=O (.pub (.str w))
 let X:Option Sl:=O (.pub (UK xs))
 refine Zc (ρ:=[W,X]) Ct ?_;unfold Wf;have hc:KO (KQ (Uq 1)) 1 (gN 2) (Us Cv) (UG 1 Yq (Uw (Uq 2) (Ut))) [W,X]=.ok (xs.map λn=>.str (nS n)) [W,X]:=by refine YH (ds:=xs.map int) (YA (Ux Ct) Ct) ?_;refine(Zx int (λn=>.str (nS n)) (λρ=>∃x,ρ=[W,X,x]) xs _ [] ?_ ⟨Cu,rfl⟩ (by rw[Jk];have:=h.1;lia)).trans Ct;rintro n hn ρ ⟨x,rfl⟩;exact⟨_,UP (Qa Ct) Ct,Kn (UA (Ux Ct) UD) Ct (LM (h.2 n hn).2),_,rfl⟩
 refine Ki (XJ Uy (UA (UI (KD (UA (Ux Ct) UD) (Qa Ct)) (KN hc) (Tx (by rw[Qg];have:=h.1;show 1+_<=_;lia))) UD) (Op hw h)) Ct
theorem Rz{a b c:Str}(h1:a.length<=1000)(h2:b.length<=1000)(h3:c.length<=1000):Yw (.str "\n") [.list [.str a,.str b,.str c]]=O (.str (Str.join "\n" [a,b,c])):=
 T5 (sep:= "\n") (zs:=[a,b,c]) (b:=1000) (λp hp=>by simp only[QC,Jd,or_false]at hp;rcases hp with rfl|rfl|rfl<;>assumption) (by simp[show("\n" : Str).length=1 from rfl])
section
variable{t:Int}{as ps:CD}
theorem WS(h:Ppr t as ps):(UV "times" [t]).length<=1000/\(UV "asks" as).length<=1000/\(UV "prices" ps).length<=1000:=by
 have l1:=WJ (w:= "times") (m:=1) (by decide) h.lt (by simp);have l2:=WJ (w:= "asks") (m:=7) (by decide) h.la h.a.few;have l3:=WJ (w:= "prices") (m:=6) (by decide) h.lp h.p.few
 lia
theorem Cd(h:Ppr t as ps):Y8 [.tuple [.int t,UK as,UK ps]]=O (.str (KS t as ps)):=by
 let P:Option Sl:=O (.pub (.tuple [.int t,UK as,UK ps]))
 let T:Option Sl:=O (.pub (.int t))
 let A:Option Sl:=O (.pub (UK as))
 let Q:Option Sl:=O (.pub (UK ps))
 refine Zc (ρ:=[P,Cu,Cu,Cu]) Ct ?_;unfold We;refine UY (ρ1:=[P,T,A,Q]) (V2 (Ux Ct) (ZW Ct (U0 (UP (Qa Ct) Ct) (U0 (UP (Qa Ct) Ct) (U0 (UP (Qa Ct) Ct) Zh))))) ?_
 let p0:Str×CD:=(("times" : Str),[t])
 let p1:Str×CD:=(("asks" : Str),as)
 let p2:Str×CD:=(("prices" : Str),ps)
 let pr:List (Str×CD):=[p0,p1,p2]
 have hpr:∀p∈pr,p.1.length<=60/\Kw p.2:=λp hp=>by
  have hp:p=p0∨p=p1∨p=p2:=by simpa[pr]using hp
  rcases hp with rfl|rfl|rfl
  .exact⟨Qa Ct,h.lt⟩
  .exact⟨Qa Ct,h.la⟩
  .exact⟨Qa Ct,h.lp⟩
 have hz:Wy [.tuple [.str "times", .str "asks", .str "prices"],.list [.list [.int t],UK as,UK ps]]=O (pr.map λp=>.tuple [.str p.1,UK p.2]):=rfl;have hj:=Rz (WS h).1 (WS h).2.1 (WS h).2.2;refine Ki (XJ Uy (UA (KN (YH (Ge (UA Uy (UA (KD (UA (KD (UA (Ux Ct) UD) (Qa Ct)) (UA (Ux Ct) (UA (Ux Ct) UD))) (Qa Ct)) UD)) hz) ?_)) UD) hj) Ct;refine(Zx (λp:Str×CD=>PyData.tuple [.str p.1,UK p.2]) (λp=>.str (UV p.1 p.2)) (λρ=>∃x y,ρ=[P,T,A,Q,x,y]) pr _ [] ?_ ⟨Cu,Cu,rfl⟩ (by show 0+3<=_;decide)).trans Ct;rintro p hp ρ ⟨x,y,rfl⟩;exact⟨_,ZW Ct (U0 (UP (Qa Ct) Ct) (U0 (UP (Qa Ct) Ct) Zh)),Kn (UA (Ux Ct) (UA (Ux Ct) UD)) Ct (D7 (hpr p hp).1 (hpr p hp).2),_,_,rfl⟩
theorem EJ(n:Int):UV "times" [n] = "times " ++ nS n:=by
 have e:("times " : Str) = "times" ++ " " :=by decide +kernel
 show "times" ++ " " ++ nS n=_;rw[e]
theorem Cc(h:Ppr t as ps):Y4 [.tuple [.int t,UK as,UK ps]]=O (.str (KS t as ps)):=by
 let P:Option Sl:=O (.pub (.tuple [.int t,UK as,UK ps]))
 let rr:List Str:=[UV "times" [t],UV "asks" as,UV "prices" ps]
 refine Zc (ρ:=[P,Cu,Cu,Cu]) Ct ?_;unfold X7;have hn:=Xh (h.lt.2 t Qj).1 h.t2;have hs:UC (.str "times ") (.str (nS t))=O (.str (UV "times" [t])):=by rw[EJ];exact XS (by have:=hn.2.1;show 6+_<=_;lia)
 refine UY (ρ1:=[P,O (.own [.str (UV "times" [t])]),Cu,Cu]) (YB (Xm (UA (UI Uy (YC (UA (KU Ct Uy Ct) UD) (V9 h.t2)) hs) UD) (Qa Ct)) (Qa Ct) Ct) ?_;apply UZ;apply YF (ds:=[.tuple [.str "asks", UK as],.tuple [.str "prices", UK ps]]) (λi ρ=>∃x2 x3,ρ=[P,O (.own ((rr.take (i+1)).map Ue)),x2,x3])
 case h1=>exact YA (KD (UA (WG (UA Uy (UA (KU Ct Uy Ct) UD)) (Qa Ct)) (UA (WG (UA Uy (UA (KU Ct Uy Ct) UD)) (Qa Ct)) UD)) (Qa Ct)) Ct
 case h0=>exact⟨Cu,Cu,rfl⟩
 case hst=>
  rintro i d ρ hi ⟨x2,x3,rfl⟩
  have one:∀(w:Str)(xs:CD)(rs:Cy),w.length<=60->Kw xs->Yc (Us (.str " ")) (Uw (Uu UC (UL (Uw (Uq 2) (Ut))) (UJ Uc (KO (KQ (Uq 3)) 1 (gN 4) (Us Cv) (KI Yd (Uw (Uq 4) (Ut)))))) (Ut)) [P,O (.own rs),O (.pub (.str w)),O (.pub (UK xs))]=.ok (.str (UV w xs)) [P,O (.own rs),O (.pub (.str w)),O (.pub (UK xs))]:=λw xs rs hw hx=>by
   have hc:KO (KQ (Uq 3)) 1 (gN 4) (Us Cv) (KI Yd (Uw (Uq 4) (Ut))) [P,O (.own rs),pb (.str w),pb (UK xs)]=.ok (xs.map λn=>.str (nS n)) [P,O (.own rs),pb (.str w),pb (UK xs)]:=by refine YH (ds:=xs.map int) (YA (Ux Ct) Ct) ?_;refine(Zx int (λn=>.str (nS n)) (λρ=>∃x,ρ=[P,Cu,pb (.str w),pb (UK xs),x]) xs _ [] ?_ ⟨Cu,rfl⟩ (by rw[Jk];have:=hx.1;lia)).trans Ct;rintro n hn ρ ⟨x,rfl⟩;exact⟨_,UP (Qa Ct) Ct,YC (UA (Ux Ct) UD) (V9 (hx.2 n hn).2),_,rfl⟩
   exact XJ Uy (UA (UI (KD (UA (Ux Ct) UD) (Qa Ct)) (KN hc) (Tx (by rw[Qg];have:=hx.1;show 1+_<=_;lia))) UD) (Op hw hx)
  have tgt:∀(w:Str)(xs:CD)(rs:Cy),gT 2 (gNC (gN 2) (gNC (gN 3) (gN0))) (.tuple [.str w,UK xs]) [P,O (.own rs),x2,x3]=O [P,O (.own rs),pb (.str w),pb (UK xs)]:=λw xs rs=>ZW Ct (U0 (UP (Qa Ct) Ct) (U0 (UP (Qa Ct) Ct) Zh))
  match i,hi with
  |0,hi=>cases hi;refine⟨_,tgt "asks" as _,?_⟩;unfold Su;exact Zs (XA Ct (one "asks" as _ (by decide) h.la) Ct (Qa Ct) Ct) (Yg ⟨_,_,rfl⟩)
  |1,hi=>cases hi;refine⟨_,tgt "prices" ps _,?_⟩;unfold Su;exact Zs (XA Ct (one "prices" ps _ (by decide) h.lp) Ct (Qa Ct) Ct) (Yg ⟨_,_,rfl⟩)
 case hend=>rintro ρ ⟨x2,x3,rfl⟩;exact U8 (Ki (XJ Uy (UA (WP rfl rfl) UD) (Rz (WS h).1 (WS h).2.1 (WS h).2.2)) rfl)
end
theorem OM{F:Cy->CA}{d:D}{ds:Cy}(hd:d=.list ds∨d=.tuple ds)(h:∀x∈ds,VZ F x)(hl:ds.length<=100000):VZ (Zm F) d:=by
 refine Zc (ρ:=[pb d,pb d]) Ct ?_
 have hlen:Kd [d]=O (.int ds.length):=by
  rcases hd with rfl|rfl
  .exact Tw
  .rfl
 have hx:Z6 d=Cw:=by rcases hd with rfl|rfl<;>rfl
 have ht:(UQ d "list" || UQ d "tuple")=Cv:=by rcases hd with rfl|rfl<;>rfl
 have hix:∀i x,ds[i]?=O x->oIx d (.int (i:Nat))=O x:=λi x e=>by rcases hd with rfl|rfl<;>exact ZC e
 have hn1:∀b:Bool,oNe (.bool b) (.bool b)=O Cw:=λb=>by cases b<;>rfl
 have hn2:oNe (.int (ds.length:Nat)) (.int (ds.length:Nat))=O Cw:=by rw[HE];simp
 unfold YT;apply UZ;refine U5 (b:=Cv) (ρ1:=[pb d,pb d]) (ZF (by rw[←ht];exact Sw (d:=d) (Ux Ct) hx)) (λ_=>?_) λz=>by cases z
 apply UZ;refine U5 (b:=Cw) (ρ1:=[pb d,pb d]) (Va (ZU (t:=Cv) (ZF (by rw[←ht];exact Sw (d:=d) (Ux Ct) hx))) (UI (Ts (Ux Ct) Ct) (Ts (Ux Ct) Ct) (hn1 _))) (λz=>by cases z) λ_=>Ka (U8 ?_)
 apply UZ;refine U5 (b:=Cw) (ρ1:=[pb d,pb d]) (UI (Zg Ct hlen) (Zg Ct hlen) hn2) (λz=>by cases z) λ_=>Ka (U8 ?_)
 have hc:K1 (gN 2) (U2 (Kx (UG 2 F (Uw (UM 0 (Uq 2)) (Uw (UM 1 (Uq 2)) (Ut)))))) (Uq 2) (Zp 0 (ds.length:Nat)) (Kb [pb d,pb d]++Ub 1 Cu) []=O []:=by rw[FZ];refine Rt (λk:Nat=>.int (k:Int)) (λρ=>∃x,ρ=[pb d,pb d,x]) (Ua ds.length) _ [] (λk hk ρ=>?_) ⟨Cu,rfl⟩;rintro⟨x,rfl⟩;have hk:=JW.mp hk;have hs:=h ds[k] (JG hk);have hi:=hix k ds[k] (Qi hk);exact⟨_,UP (Qa Ct) Ct,ZU (t:=Cv) (ZF (Kn (UA (KU Ct (Ux Ct) hi) (UA (KU Ct (Ux Ct) hi) UD)) Ct hs)),_,rfl⟩
 exact Ki (KN (UI (x:=.list []) (y:=.list []) (KN (YH (Tj (UA (Zg Ct hlen) UD) (Tv (by lia) (by lia))) hc)) (KD UD (Qa Ct)) Ct)) (KY Ct)
theorem RM(i:Int):K6 [.int i,.int i]=O (.bool Cv):=S0 _ i
theorem OW(F:Cy->CA){xs:CD}(h:xs.length<=100000):VZ (Zm (Zm F)) (UK xs):=
 OM (.inl Ct) (λx hx=>by obtain⟨i,_,rfl⟩:=Q6.mp hx;exact S0 _ i) (by rw[Qg];exact h)
theorem P3{t:Int}{as ps:CD}(h1:as.length<=100000)(h2:ps.length<=100000):K6 [.tuple [.int t,UK as,UK ps],.tuple [.int t,UK as,UK ps]]=O (.bool Cv):=
 OM (F:=Zm (Zm (Zm (Zm (Zm (Zm λ_=>Cu)))))) (.inr Ct) (λx hx=>by
  have hx:x=.int t∨x=UK as∨x=UK ps:=by simpa using hx
  rcases hx with rfl|rfl|rfl
  .exact S0 _ t
  .exact OW _ h1
  .exact OW _ h2) (by simp)
theorem OL:∀(zs:List Str)(k:Nat)(acc acc':List CD),(∀z∈zs,z.length<=90000)->(∀a∈acc,a.length<=100000)->Ks zs k acc=.inr acc'->∀a∈acc',a.length<=100000
 |[],_,acc,acc',_,ha,h=>by rw[Ks]at h;injection h with h;subst h;exact ha
 |r::rs,k,acc,acc',hz,ha,h=>by
  rw[Ks]at h;split at h
  .cases h
  .split at h
   .refine OL rs (k+1) _ acc' (λz m=>hz z (Ql _ m)) (λa m=>?_) h
    rcases QW.mp m with m|m
    .exact ha a m
    .rw[QK.mp m]
     exact Sr (hz r Qj) Ct
   .cases h
theorem FO{z:Str}(hl:z.length<=90000):K6 [Wv (UW z),Wv (UW z)]=O (.bool Cv):=by
 cases e:UW z with
 |inl k=>exact RM _
 |inr acc=>
  have hall:∀a∈acc,a.length<=100000:=by
   unfold UW at e;cases h:Ks (Txt.split z "\n") 0 []with
   |inl k=>rw[h]at e;cases e
   |inr acc'=>
    rw[h]at e;dsimp only at e;split at e
    .cases e
    .injection e with e
     subst e;exact OL _ _ _ _ (λy hy=>Qn (Vx hy) hl) (λa m=>by cases m) h
  have hg:∀k,(acc.getD k []).length<=100000:=λk=>by
   rw[List.getD_eq_getElem?_getD];cases hk:acc[k]? with
   |none=>exact JN _
   |some a=>exact hall a (QL hk)
  exact P3 (hg 1) (hg 2)
noncomputable def MPAP:List Str:=["", "times 0", "times 1", "times 1 1", "times", "times -1", "times 01", "asks", "asks 0", "asks -1", "asks 1  1", "prices", "prices 0 0", "prices 1 ", " prices 1", "prices 9999999999999999999999999999999999999999999999999999999999999", "asks 999999999999999999999999999999999999999999999999999999999999", "time 1", "times 111111111111111111111111111111111111111111111111111111111111", "prices 1,2", "asks +1", "asks 1.0", "prices\t1", "asks -0"]
theorem LK:∀y∈MPAP,Uf y=Cv/\y.length<=100:=by decide +kernel
theorem Eg:Y2 []=O (Ws MPAP):=by kernel_rfl
theorem ne_z{z:Str}(hz:Uf z=Cv):oNe (.str z) (.str z)=O Cw:=by rw[Vh hz hz];simp
theorem EI(ρ:Ur)(d:D):Kb (Kb ρ++[pb d])=Kb ρ++[pb d]:=by
 unfold Kb;rw[Q1,JE]
 congr 1
 apply Jt;intro x _;cases x with
 |none=>rfl
 |some s=>cases s<;>rfl
theorem Ef:∀ns:CD,ns.length<=63->Y1 [.list (ns.map int)]=O (.bool Cv):=by
 intro ns hns
 let S:Option Sl:=O (.pub (.list (ns.map int)))
 refine Zc (ρ:=[S,Cu,Cu,Cu,Cu,Cu,Cu,Cu,Cu,Cu,Cu,Cu]) Ct ?_;unfold X4;apply UZ;apply YF (λ_ ρ=>∃x1 x2 x3 x4 x5 x6 x7 x8 x9 CV CU,ρ=[S,x1,x2,x3,x4,x5,x6,x7,x8,x9,CV,CU])
 case h1=>exact SD (UA (UI (KD (UA Uy UD) (Qa Ct)) (K3 (Ux Ct) Uy (KJ Uy) WM) (El (by lia))) UD) Oi
 case h0=>exact⟨_,_,_,_,_,_,_,_,_,_,_,rfl⟩
 case hend=>rintro ρ ⟨x1,x2,x3,x4,x5,x6,x7,x8,x9,CV,CU,rfl⟩;exact U8 (Ki Uy rfl)
 case hst=>
  rintro i d ρ hi ⟨x1,x2,x3,x4,x5,x6,x7,x8,x9,CV,CU,rfl⟩;obtain⟨x,hx,rfl⟩:=Tq hi;obtain⟨c,rfl⟩:=Em hx;rw[JI]
  let A:Option Sl:=O (.pub (.int (i:Nat)))
  let C:Option Sl:=O (.pub (.int c))
  refine⟨[S,A,C,x3,x4,x5,x6,x7,x8,x9,CV,CU],ZW Ct (U0 (UP (Qa Ct) Ct) (U0 (UP (Qa Ct) Ct) Zh)),?_⟩;unfold Pp;obtain⟨r,hP,t,as,ps,rfl,pp⟩:=DS c (2600+(i:Int));have BA:=Cd pp;have Bz:=Cc pp;have Ab:=pp.ans;have WW:=pp.ok;have zlen:=pp.len;have hsame:=P3 (t:=t) (as:=as) (ps:=ps) (by have:=pp.a.few;lia) (by have:=pp.p.few;lia)
  have hne:=HY (d:=.tuple [.int t,UK as,UK ps]) (TN λx hx=>by
   have hx:x=.int t∨x=UK as∨x=UK ps:=by simpa using hx
   rcases hx with rfl|rfl|rfl
   .rfl
   .exact Oa as
   .exact Oa ps) (by
   have h1:=P9 as;have h2:=P9 ps;simp only[Uh,PyData.depthAll]at h1 h2⊢
   lia)
  have By:K5 [.str (KS t as ps)]=O (.tuple [.int t,UK as,UK ps]):=(OX WW (by lia)).trans (by rw[Ab];rfl);have Bi:Vu [.str (KS t as ps)]=O (.tuple [.int t,UK as,UK ps]):=Mz WW (by lia) Ab;have hal:(as.map int).length<1000000:=by rw[Qg];have:=pp.a.few;lia
  generalize hzz:KS t as ps=z at BA Bz WW zlen By Bi
  let P:Option Sl:=O (.pub (.tuple [.int t,UK as,UK ps]))
  let Z:Option Sl:=O (.pub (.str z))
  let pt:Pat:=.tup [.leaf,.lst .leaf,.lst .leaf]
  refine UY (ρ1:=[S,A,C,P,x4,x5,x6,x7,x8,x9,CV,CU]) (Kj (Kn (UA (Ux Ct) (UA (UI Uy (Ux Ct) Zb) UD)) Ct hP) (Qa Ct) Ct) ?_;refine UY (ρ1:=[S,A,C,P,Z,x5,x6,x7,x8,x9,CV,CU]) (Kj (Kn (UA (Ux Ct) UD) Ct BA) (Qa Ct) Ct) ?_;apply UZ;refine U5 (b:=Cw) (ρ1:=[S,A,C,P,Z,x5,x6,x7,x8,x9,CV,CU]) (Va (Vq (Ux Ct) Ct) (Zf Ct (Kn (UA (Ux Ct) UD) Ct Bz) (ne_z WW))) (λz=>by cases z) λ_=>Ka (U8 ?_)
  apply UZ;refine U5 (b:=Cw) (ρ1:=[S,A,C,P,Z,x5,x6,x7,x8,x9,CV,CU]) (Zf Ct (Kn (UA (Ux Ct) (UA (UI Uy (Ux Ct) Zb) UD)) Ct hP) hne) (λz=>by cases z) λ_=>Ka (U8 ?_)
  refine UY (ρ1:=[S,A,C,P,Z,O (.deep pt (.tuple [.int t,UK as,UK ps])),x6,x7,x8,x9,CV,CU]) (Sx (Kn (UA (Ux Ct) UD) Ct Bi) (Qa Ct) Ct) ?_;apply UZ;refine U5 (b:=Cw) (ρ1:=[S,A,C,P,Z,O (.deep pt (.tuple [.int t,UK as,UK ps])),x6,x7,x8,x9,CV,CU]) (Sz (ZU (t:=Cv) (ZF (Kn (UA (Ux Ct) (UA (Ux Ct) UD)) Ct hsame)))) (λz=>by cases z) λ_=>Ka (U8 ?_)
  refine UY (ρ1:=[S,A,C,P,Z,O (.deep pt (.tuple [.int t,.list (as.map int++[.int 0]),UK ps])),x6,x7,x8,x9,CV,CU]) (PY Ct (by
   have h:MOp.dOf (.app (.int 0)) .leaf (as.map int)=O (as.map int++[.int 0]):=Qo hal
   show((MOp.dOf (.app (.int 0)) .leaf (as.map int)).map Uc).map _=_
   rw[h];rfl) Ct) ?_
  refine UY (ρ1:=[S,A,C,P,Z,O (.deep pt (.tuple [.int t,.list (as.map int++[.int 0]),.list []])),x6,x7,x8,x9,CV,CU]) (PY Ct Ct Ct) ?_;generalize (O (Sl.deep pt (.tuple [.int t,.list (as.map int++[.int 0]),.list []])))=D5;apply UZ;refine U5 (b:=Cw) (ρ1:=[S,A,C,P,Z,D5,x6,x7,x8,x9,CV,CU]) (ZU (t:=Cv) (ZF (Kn (UA (Kn (UA (Ux Ct) UD) Ct By) (UA (Ux Ct) UD)) Ct hsame))) (λz=>by cases z) λ_=>Ka (U8 ?_)
  obtain⟨r,hb,u,rfl,u1,u2⟩:=DW WW zlen LK (by decide) (by decide) c (2700+(i:Int))
  let U:Option Sl:=O (.pub (.str u))
  refine UY (ρ1:=[S,A,C,P,Z,D5,U,x7,x8,x9,CV,CU]) (Kj (Kn (UA (Ux Ct) (UA (Ux Ct) (UA (UI Uy (Ux Ct) Zb) (UA (Kn UD Ct Eg) UD)))) Ct hb) (Qa Ct) Ct) ?_;obtain⟨r,hN,ls,rfl,hll,hld⟩:=TW c (2750+(i:Int)) (sizes:=Ub 20 1000) (by decide) (by decide);have hll:ls.length=20:=hll
  have hlv:Kw ls:=⟨by lia,λn hn=>by
   obtain⟨j,hj⟩:=List.mem_iff_getElem?.mp hn;have hj20:j<20:=by have:=(Qm.mp hj).1;lia
   have:=hld j n 1000 hj (by rw[QA,Qo hj20]);exact⟨this.1,by lia⟩⟩
  have hmul:U7 (.list [.int 1000]) (.int 20)=O (.list ((Ub 20 (1000:Int)).map int)):=rfl
  let E:Ur:=[S,A,C,P,Z,D5,U,x7,x8,x9,CV,CU]
  have hc:KO (KQ (UG 3 K7 (Uw (Uq 2) (Uw (Uu UC (Us (.int 2750)) (Uq 1)) (Uw (Uu U7 (UL (Uw (Us (.int 1000)) (Ut))) (Us (.int 20))) (Ut)))))) 1 (gN 12) (Us Cv) (KI Yd (Uw (Uq 12) (Ut))) E=.ok (ls.map λn=>.str (nS n)) E:=by refine YH (ds:=ls.map int) (YA (Kn (UA (Ux Ct) (UA (UI Uy (Ux Ct) Zb) (UA (UI (KD (UA Uy UD) (Qa Ct)) Uy hmul) UD))) Ct hN) Ct) ?_;refine(Zx int (λn=>.str (nS n)) (λρ=>∃x,ρ=Kb E++[x]) ls _ [] ?_ ⟨Cu,rfl⟩ (by rw[Jk];lia)).trans Ct;rintro n hn ρ ⟨x,rfl⟩;exact⟨Kb E++[pb (.int n)],UP (Qa Ct) Ct,YC (UA (Ux Ct) UD) (V9 (hlv.2 n hn).2),_,EI _ _⟩
  refine UY (ρ1:=[S,A,C,P,Z,D5,U,O (.own (ls.map λn=>.str (nS n))),x8,x9,CV,CU]) (YB hc (Qa Ct) Ct) ?_;have hlsW:(ls.map λn=>Ue (nS n))=(ls.map nS).map Ue:=by rw[JE];rfl
  have hnb:∀p∈ls.map nS,p.length<=60/\Uf p=Cv:=λp hp=>by obtain⟨n,hn,rfl⟩:=Q6.mp hp;have:=Xh (hlv.2 n hn).1 (hlv.2 n hn).2;exact⟨this.2.1,this.1⟩
  have BZ:(ls.map nS).length=20:=by rw[Qg,hll]
  rw[hlsW];generalize ls.map nS=ws at hnb BZ;have e1:(" " : Str).length=1:=rfl
  have jw:∀k,Yw (.str " ") [.list ((ws.take k).map Ue)]=O (.str (Str.join " " (ws.take k)))/\(Str.join " " (ws.take k)).length<=1220/\Uf (Str.join " " (ws.take k))=Cv:=λk=>by
   have hb:∀p∈ws.take k,p.length<=60:=λp hp=>(hnb p (JC hp)).1;have hle:(ws.take k).length<=20:=by rw[Jx];lia
   have hm:(ws.take k).length*((" " : Str).length+60)<=20*61:=Nat.mul_le_mul hle (by decide);exact⟨T5 hb (by lia),Qn (Gx hb) hm,Vc (by decide +kernel) λp hp=>(hnb p (JC hp)).2⟩
  have hsl:KL (.list (ws.map Ue)) Cu (O ((i:Int) % 20+1))=O (.list ((ws.take (i % 20+1)).map Ue)):=by rw[WM,show(i:Int) % 20+1=((i % 20+1:Nat):Int)by lia,Gy,List.map_take]
  obtain⟨j1,j2,j3⟩:=jw (i % 20+1);obtain⟨k1,k2,k3⟩:=jw 20;rw[List.take_of_length_le (by lia)]at k1 k2 k3;generalize Str.join " " (ws.take (i % 20+1))=a at j1 j2 j3;generalize Str.join " " ws=b at k1 k2 k3;have f1:("times 1\nasks " : Str).length=13:=rfl;have f2:("\nprices " : Str).length=8:=rfl
  let v:Str:= "times 1\nasks " ++ a ++ "\nprices " ++ b
  have v1:Uf v=Cv:=XH (XH (XH (by decide +kernel) j3) (by decide +kernel)) k3
  have v2:v.length<=3200:=by
   show("times 1\nasks " ++ a ++ "\nprices " ++ b).length<=3200
   rw[WK,WK,WK,f1,f2];lia
  let W:Option Sl:=O (.pub (.list (ws.map Ue)))
  refine UY (ρ1:=[S,A,C,P,Z,D5,U,W,pb (.str v),x9,CV,CU]) (Kj (UI (UI (UI Uy (XJ Uy (UA (K3 (WP Ct Ct) Uy (KJ (UI (UI (Ux Ct) Uy (ZO (by decide))) Uy Zb)) hsl) UD) j1) (XS (by rw[f1];lia))) Uy (XS (by rw[WK,f1,f2];lia))) (XJ Uy (UA (Ux Ct) UD) k1) (XS (by rw[WK,WK,f1,f2];lia))) (Qa Ct) Ct) ?_;apply UZ;apply YF (ds:=[.str u,.str v]) (λ_ ρ=>∃x9,ρ=[S,A,C,P,Z,D5,U,W,pb (.str v),x9,CV,CU])
  case h1=>exact YA (KD (UA (Ux Ct) (UA (Ux Ct) UD)) (Qa Ct)) Ct
  case h0=>exact⟨_,rfl⟩
  case hst=>
   rintro j d ρ hj ⟨x9,rfl⟩
   obtain⟨y,rfl,y1,y2⟩:∃y,d=.str y/\Uf y=Cv/\y.length<=90000:=by
    have hm:=QL hj;have hm:d=.str u∨d=.str v:=by simpa using hm
    rcases hm with rfl|rfl
    .exact⟨u,rfl,u1,by lia⟩
    .exact⟨v,rfl,v1,by lia⟩
   refine⟨[S,A,C,P,Z,D5,U,W,pb (.str v),pb (.str y),CV,CU],UP (Qa Ct) Ct,?_⟩;unfold Pq;exact U5 (b:=Cw) (ρ1:=[S,A,C,P,Z,D5,U,W,pb (.str v),pb (.str y),CV,CU]) (ZU (t:=Cv) (ZF (Kn (UA (Kn (UA (Ux Ct) UD) Ct (OX y1 y2)) (UA (Kn (UA (Ux Ct) UD) Ct (DT y1 y2)) UD)) Ct (FO y2)))) (λz=>by cases z) λ_=>Ka (Yg ⟨_,rfl⟩)
  case hend=>
   rintro ρ ⟨x9,rfl⟩;refine U8 ?_
   let V:Option Sl:=O (.pub (.str v))
   obtain⟨r,hF,ks,rfl,hl,hd⟩:=TW c (2800+(i:Int)) (sizes:=[10]) (by decide) (by decide)
   obtain⟨k,rfl⟩:∃k,ks=[k]:=by
    match ks,hl with
    |[k],_=>exact⟨k,rfl⟩
   have hk:=hd 0 k 10 Ct Ct;refine UY (ρ1:=[S,A,C,P,Z,D5,U,W,V,x9,pb (.int k),CU]) (Kj (UI (Kn (UA (Ux Ct) (UA (UI Uy (Ux Ct) Zb) (UA (KD (UA Uy UD) (Qa Ct)) UD))) Ct hF) Uy Ct) (Qa Ct) Ct) ?_
   let th:Cy:=[.none,.bool Cv,.int 0,.list [.str z],.tuple [.str z],.dict [],.list [],.list ((Txt.split z "\n").map Ue),.tuple [.int t,UK as,UK ps],.int 7]
   refine UY (ρ1:=[S,A,C,P,Z,D5,U,W,V,x9,pb (.int k),O (.own th)]) (YB (Xm (UA Uy (UA Uy (UA Uy (UA (KD (UA (Ux Ct) UD) (Qa Ct)) (UA (WG (UA (Ux Ct) UD) (Qa Ct)) (UA Uy (UA (KD UD (Qa Ct)) (UA (WL (Ux Ct) (UA Uy UD) nlx (by lia)) (UA (Ux Ct) (UA Uy UD)))))))))) (Qa Ct)) (Qa Ct) Ct) ?_;obtain⟨d,hix,hod⟩:∃d,oIx (.list th) (.int k)=O d/\UQ d "str" = Cw:=by obtain⟨d,h1,h2⟩:=ixm (xs:=th) (n:=10) hk.1 hk.2 Ct;refine⟨d,h1,?_⟩;simp only[th,QC,Jd,or_false]at h2;rcases h2 with rfl|rfl|rfl|rfl|rfl|rfl|rfl|rfl|rfl|rfl<;>rfl
   exact U5 (b:=Cw) (ρ1:=[S,A,C,P,Z,D5,U,W,V,x9,pb (.int k),O (.own th)]) (ZU (t:=Cv) (ZF (Kn (UA (Kn (UA (XB Ct (Ux Ct) Ct hix) UD) Ct (EK hod)) (UA Uy UD)) Ct (RM 0)))) (λz=>by cases z) λ_=>Ka (Yg ⟨_,_,_,_,_,_,_,_,_,_,_,rfl⟩)
end W
open PySem PySem.W PyProof.Rows
set_option maxRecDepth 100000 in
set_option maxHeartbeats 0 in
theorem PySem.Challenge.cw_wishdeal_k89_papers_written_and_read_holds : PySem.Challenge.rw_wishdeal_k89_papers_written_and_read.Holds := by
 w_on;o_law
 refine holds_open (q:=W.q0) (loose:=[]) (Xt:=λs=>xlAt W.q0 [] s&&recOk [] s) (XP:=XL W.q0 []) (Yf:=DL.xSeen W.clsL) (Ya:=λ_=>DL.xGood W.p0 W.clsL) (YP:=λ_ h=>DL.XYP W.p0 W.clsL h) (N:=7730) (d:=W.d_av) (kwd:=[])
  W.Lp (λ_ _ e=>DL.MK e) (λ_ _ _ y k=>y.keeps k) (λs e=>xl_of s (JO.mp e).1) XL.keeps (by rfl) (by rfl) (by rfl)
  (λs e=>recFacts_of (JO.mp e).2) (by rfl) (by assumption) (by decide +kernel) ⟨rfl,rfl,rfl,rfl,rfl,by decide +kernel⟩ ?hw (W.walk W.Ef)
 case hw=>w_witness2


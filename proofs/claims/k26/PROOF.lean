import PyProof.Rows.All
import Wide.All
import OpenK.AllK
import Wide.FinOn
import Lean
import PyProof.EqAt
import PyProof.EqKinds
import PyProof.TupleCall
import PyProof.EnumMake
import PyProof.ZipIter
import PyProof.ExcClass2
import PyProof.ExcInit
import PyProof.ExcBaseAll.ValueError
import PyProof.FString2
import PyProof.ExcArgsOwn
import PyProof.InstStoreFacts
import ObjForm.Fk.InstStore
import ObjForm.Fk.InstLoad
import PyProof.StationsW
import PyProof.RulesAs
import PyProof.NsDelKeeps
import OpenK.KMore
import PyProof.IsiBase
import OpenK.KNot
import PyProof.Rows.RuleN_isinstance
import PyProof.NeData
import PyProof.P3In
import PyProof.StrWalks
import PyProof.ConsumeWalk
import PyProof.SliceStr2
import PyProof.MeetsStr
import KE.KItem
import KE.KUnpack
import KE.KRevSl
import PyProof.Rows.SetFrom
import PyProof.SetRoads
import PyProof.Rows.Range3
import PyProof.CallType
import PyProof.Rows.CallKwBuiltin
import PyProof.Rows.MinMaxN
import PyProof.SumWalkG
import PyProof.Rows.SeqMore
import PyProof.Rows.SortWalk
import PyProof.Rows.SumAny
import PyProof.Rows.SeqMore2
import KE.KSortTup
import PyProof.Rows.SortShellK
import PyProof.ReprRoads
import PyProof.ReprBulk
import PyProof.CallFns
import PyProof.NeKinds
import PyProof.Rows.StrJoinMade
import PyProof.StrCalls
import KE.KIntText
import PyProof.ReprDict
import PyProof.DictIter
import PyProof.Rows.DictUnroll
import PyProof.MeetsStr2
import PyProof.Rows.StrNews
import PyProof.StrLawsChain
import PyProof.Rows.StrItems
import PyProof.SeqRoads2
import PySem.Challenge.RW_wishdeal_k26_aims_refused
set_option compiler.extract_closed false
set_option Elab.async false
set_option linter.all false
set_option maxRecDepth 100000
set_option maxHeartbeats 4000000
open Option renaming some→O,none→w4
open Bool renaming true→w5,false→w6
theorem wZ.{u}{α:Sort u}{a:α}:a=a:=rfl
abbrev w9:=List Int
abbrev yg:=Option Int
abbrev yi:=Option Bool
abbrev yl:=List Nat
theorem Qa:type_of% @of_decide_eq_true:=@of_decide_eq_true
theorem Qm:type_of% @if_pos:=@if_pos
theorem Qr:type_of% @decide_eq_false:=@decide_eq_false
theorem Qw:type_of% @if_neg:=@if_neg
theorem QC:type_of% @decide_eq_true:=@decide_eq_true
theorem Q8:type_of% @of_decide_eq_false:=@of_decide_eq_false
theorem Jm:type_of% @decide_eq_true_eq:=@decide_eq_true_eq
theorem Ub:type_of% @if_false:=@if_false
theorem Uc:type_of% @congrArg:=@congrArg
open List renaming length_map→Qb,getElem?_eq_getElem→Qg,getElem?_map→Qh,length_append→Qi,getElem?_eq_some_iff→Ql,getElem?_set_ne→Qn,mem_cons_self→Qo,mem_cons_of_mem→Qp,getElem?_append_left→Qs,getElem?_append_right→Qt,length_replicate→Qu,mem_of_getElem?→Qv,mem_cons→Qx,map_cons→Qy,mem_map→Qz,getElem?_replicate→QA,length_nil→QB,length_cons→QF,flatten_cons→QG,size_toArray→QJ,getElem?_set_self→QK,mem_singleton→QO,mem_append_right→QQ,lookup_cons→QR,mem_append→QS,replicate_succ→QT,map_append→QU,contains_cons→QW,nil_append→QX,not_mem_nil→QY,append_assoc→Q0,all_eq_true→Q2,map_map→Q3,append_nil→Q4,length_set→Q5,length_singleton→Jc,length_take→Jg,all_cons→Jh,filter_eq_self→Jj,length_range→Jk,mem_range→Jq,pairwise_cons→Js,mem_replicate→Ju,mem_append_left→Jv,length_drop→Jw,take_succ_eq_append_getElem→JC,drop_eq_getElem_cons→JG,getElem?_eq_none→JH,getD_eq_getElem?_getD→JQ,getElem?_cons_succ→JU,getElem_mem→JW,zip_cons_cons→JX,map_replicate→JY,nodup_append→JZ,mem_of_mem_take→J4,take_length→J5,length_zip→J6,mem_flatten→Ua,range→Up,replicate→Uq,Pairwise→UA
open PySem renaming wpAny_bind→Qd,wpAny_pure→Qj,wpAny_loadPart_at→Qk,wpAny_mono→QI,wpAny_isSubtype_exc→QN,wpAny_truthy_bool→QZ,wpAny_field→Q7,codeAny_call_builtin→Jd,wpAny_standAt→Ji,wpAny_passesOwn→Jn,wpAny_Call_Name_kw→Jo,codeAny_mono→Jr,sizeLine_eq→Jz,wpAny_holding→JD,wpAny_pyIter_list→JN,mem_of_lookup→JS,Value→Ue,Shared→Uf,Program→Ug,Addr→Uh,FuncData→Ui,Expr→Uj,sizeLine→Uk,wpAny→Ul,starEach→Um,compareOp→Uo,assignEach→UC,foldedSetIterable→UD
open PySem.Heap renaming get?_push_of_some→Qe,lt_size→Qf,get?_push_size→QD,get?_update_other→QP,get?_update_self→Ja
open Nat renaming le_refl→Qq,lt_of_lt_of_le→QE,le_trans→QH,ne_of_lt→QM,le_of_not_lt→Q6,lt_irrefl→Jy,zero_add→JB,ne_of_gt→JK,le_succ→JP,zero_le→J0
open Bool renaming and_eq_true→QL,and_false→Jp,false_ne_true→JI,false_eq_true→JJ,true_and→JL,false_and→JT,or_true→J9
open Int renaming emod_lt_of_pos→Q9,toNat_natCast→Je,emod_nonneg→Jl,le_refl→JM,le_antisymm→J7,not_lt→Ud
open Array renaming getD_eq_getD_getElem?→Jb,getElem?_eq_some_iff→JA,length_toList→JE,getElem?_eq_getElem→JR
open Option.some renaming inj→Jf
open PySem.W.Fast renaming te1987589406359920131→Jt
open PyProof.Rows renaming callWith_type1→Jx
open PySem.W renaming kia_one→JF
open PySem.F renaming plainAttrs_list→JO
open Option renaming getD_some→JV
open Array.Perm renaming refl→J8
open PySem.PyData renaming list→Ur,bool→Us,str→Ut,strOk→Uu,canLayAll0→Uv,depth→Uw,eqv→Ux,shown→UB
open PySem.PassesOwn renaming never→Uy
open PySem.Str renaming ofString→Uz
abbrev ya:=List Ue
abbrev yc:=Option Ue
abbrev yd:=List Uj
abbrev yf:=List Uh
abbrev yh:=Option Uh
abbrev L3:=List (List w9)
abbrev LO:=List yg
abbrev yj:=Option LO
abbrev LP:=List (Int×Int)
open PySem.W (Frag)
open PySem.PyData (int)
open List (replicate)
namespace DL
open PySem PySem.Spec PySem.W PyProof.Rows
def topRunT(tb:String->Option Builtin)(p:Ug)(w:World)(m:Nat)(ann:yc):Nat->SharedT->Thread->Option SharedT
 |0,_,_=>w4
 |n+1,s,t=>match through t,stepOk m ann t with
  |true,_=>O s
  |false,w6=>w4
  |false,w5=>match stepT (denote tb) p w s t with
   |some x=>topRunT tb p w m ann n x.1 x.2
   |none=>w4
theorem GQ{tb:String->Option Builtin}{p:Ug}{w:World}{m:Nat}{ann:yc}:∀{n:Nat}{s s':SharedT}{t:Thread},topRunT tb p w m ann n s t=O s'->topRun tb p w m ann n s.abs t=O s'.abs
 |0,_,_,_,h=>by cases h
 |n+1,s,s',t,h=>by
  rw[topRunT]at h;rw[topRun];cases ht:through t with
  |true=>rw[ht]at h;cases h;rfl
  |false=>
   rw[ht]at h;cases hk:stepOk m ann t with
   |false=>rw[hk]at h;cases h
   |true=>
    rw[hk]at h;dsimp only at h⊢;cases hs:stepT (denote tb) p w s t with
    |none=>rw[hs]at h;cases h
    |some x=>rw[hs]at h;rw[stepT_spec hs];exact GQ h
def btOf(l:List Obj):BT:=(l.foldl (λ(x:BT×Nat) o=>(x.1.ins x.2 o,x.2+1)) (.nil,0)).1
noncomputable def T0 (w:World) (os:OsState):SharedT:=⟨btOf (boot_heap w.params).objs.toList,11,(boot_heap w.params).life,#[],boot_drawn,boot_toks,os⟩
theorem qH(w:World)(os:OsState):(T0 w os).abs=⟨boot_heap w.params,#[],boot_drawn,boot_toks,os⟩:=by kernel_rfl
theorem kQ(w:World):((boot_heap w.params).isNs mainGlobals&&(#[]:Array GenState).size==0,(boot_heap w.params).objs.size,(boot_heap w.params).nsMap mainGlobals "__annotations__")=(w5,11,O (.ref 6)):=by kernel_rfl
noncomputable abbrev Eb (p q:Ug) (loose:List Str) (Xt:Uf->Bool) (w:World) (t:SharedT):=
 ((staticsOk (importedModules p.main.body) (boot_heap w.params) t.abs.heap&&namesBound p t.abs.heap&&gensDone t.abs&&laidKept (boot_heap w.params) t.abs.heap),openSeen q loose (importedModules p.main.body) Xt w5 t.abs)
abbrev VB0:ya:=[.type "ValueError", .type "Exception", .type "BaseException", .type "object"]
def Os:List Str:=["__setattr__", "__getattribute__", "__getattr__", "__class__", "part", "number", "row"]
def VF(nm:Str):Str:=nm ++ "." ++ "__init__"
def xB(h:Heap)(nm:Str)(own:Bool):Bool:=match h.nsMap mainGlobals nm with
 |some (.ref C)=>(match h.get? C with
  |some ⟨.type t,_,.cls cd,sl⟩=>(t == "type")&&(cd.name==nm)&&cd.hasDict && !cd.hasDel&&(match sl.toList with | [_,_,_,_,k4,_]=>decide (k4=O (.builtin "ValueError.__new__"))|_=>w6)&&h.isNs cd.ns&&(Os.all λx=>(h.nsMap cd.ns x).isNone)&&(own || (h.nsMap cd.ns "__init__").isNone) &&
   (if nm = "DealError" then decide (cd.mro=.ref C::VB0)else match h.nsMap mainGlobals "DealError" with|some (.ref D)=>decide (cd.mro=.ref C::.ref D::VB0)|_=>w6)
  |_=>w6)
 |_=>w6
def xSh(h:Heap)(nm:Str):Option (Bool×FnShape):=match h.nsMap mainGlobals nm with
 |some (.ref C)=>(match h.get? C with
  |some ⟨_,_,.cls cd,_⟩=>(match h.fnAt cd.ns "__init__", h.shapeAt cd.ns "__init__" with|some (_,o,_),O sh=>O (decide (o.cls=.type "function"),sh)|_,_=>w4)
  |_=>w4)
 |_=>w4
def Y3(st:Stmt):Stmt:=match st with
 |.ClassDef _ _ _ (m::_) _ _ _ _ _ _ _=>m
 |_=>.Pass ⟨0,0,0,0⟩
def NR(s:Stmt):Arguments:=match s with
 |.FunctionDef _ a _ _ _ _ _ _ _ _=>a
 |_=>default
def NT(s:Stmt):List Stmt:=match s with
 |.FunctionDef _ _ b _ _ _ _ _ _ _=>b
 |_=>[]
def Mr(s:Stmt):Scope:=match s with
 |.FunctionDef _ _ _ _ _ _ sc _ _ _=>sc
 |_=>{kind:=.function,names:=[],isGenerator:=w6,isCoroutine:=w6}
def Tl(nm:Str)(st:Stmt):FnShape:=⟨"__init__", VF nm,NR st,.stmts (NT st),Mr st,mainGlobals,[],.none,.none,w4,.none,builtinsNs,w5⟩
abbrev XL0:=List (Str×Option Nat)
def xSeen(l:XL0)(s:Uf):Bool×List (Bool×Option (Bool×FnShape)):=(s.heap.isNs cStatics&&(s.heap.nsMap cStatics "thirdparty.any").isNone,l.map λc=>(xB s.heap c.1 c.2.isSome,if c.2.isSome then xSh s.heap c.1 else w4))
def xGood(p:Ug)(l:XL0):Bool×List (Bool×Option (Bool×FnShape)):=(w5,l.map λc=>(w5,c.2.map λi=>(w5,Tl c.1 (Y3 (p.main.body.getD i (.Pass ⟨0,0,0,0⟩))))))
theorem qG{α:Type}{Yf:Uf->α}{Ya:World->α}{p q:Ug}{loose:List Str}{Xt:Uf->Bool}{N M:Nat}(e:opening p=plainProg p.main.scope.names)(hN:Nat.ble 600 N=w5)(f:∀s,fenceModules? p s=O s)(le:Nat.ble M N=w5)
  (run:∀(w:World)(os:OsState),(topRunT treeTable p w 11 (O (.ref 6)) M (T0 w os) (topStub p)).map (λt=>(Eb p q loose Xt w t,Yf t.abs))=O ((w5,openGood q loose),Ya w)):LeftO p q loose Xt Yf Ya N:=λw=>by
 obtain⟨⟨h,gs,d,k,os⟩,e0,e'⟩:=Option.map_eq_some_iff.mp (boot_open e hN f w);have e':(h,gs,d,k)=(boot_heap w.params,#[],boot_drawn,boot_toks):=e';obtain⟨rfl,rfl,rfl,rfl⟩:h=boot_heap w.params/\gs=#[]/\d=boot_drawn/\k=boot_toks:=by simpa only[Prod.mk.injEq]using e'
 obtain⟨t,ht,l⟩:=Option.map_eq_some_iff.mp (run w os);have hr:=GQ ht;rw[qH]at hr;have r:=topRun_mono (N-M) _ _ _ _ hr;rw[show M+(N-M)=N by have:=Nat.le_of_ble_eq_true le;omega]at r;obtain⟨l0,l3⟩:=Prod.mk.inj l;obtain⟨l1,l2⟩:=Prod.mk.inj l0;have z:=kQ w;obtain⟨z1,z2,z3⟩:_/\_/\_:=by simpa only[Prod.mk.injEq]using z
 have tf:topFrom treeTable p w N ⟨boot_heap w.params,#[],boot_drawn,boot_toks,os⟩=O t.abs:=by
  unfold topFrom;dsimp only;rw[z1,z2,z3,r]
  show(match staticsOk (importedModules p.main.body) (boot_heap w.params) t.abs.heap&&namesBound p t.abs.heap&&gensDone t.abs&&laidKept (boot_heap w.params) t.abs.heap with|true=>O t.abs|false=>w4)=_
  rw[l1]
 unfold openEnds;rw[e0]
 show(topFrom treeTable p w N _).map _=_
 rw[tf];exact Uc O (Prod.ext l2 l3)
end DL
open PySem in
lay_quick PySem.Challenge.pw_wishdeal_k26_aims_refused DL.topRunT PySem.W.openGood PySem.W.staticsOk PySem.W.namesBound PySem.W.laidKept PySem.W.xlAt DL.xSeen DL.xGood
namespace W
open PySem PySem.Spec DL
noncomputable abbrev p0:Ug:=PySem.Challenge.pw_wishdeal_k26_aims_refused
noncomputable def XS:yl:=[1,2,4,5,6,8,9,10,11,12,13,14,15,16,17,18,19,21,22,24,25,26,27,28,30,31,32,33,34,35,36,38,39,40,41,42,43,44,46,47,48,49,50,51,52,53,54,55,56,57,58,59,60,61,62,63,64]
noncomputable def ixL:yl:=[1,2,12,13,14,15,16,17,18,19,21,22,25,26,27,28,30,31,32,33,34,35,36,38,39,40,41,42,43,44,46,47,48,49,50,51,52,53,54,55,56,57,58,59,60,61,62,63,64]
noncomputable abbrev q0:Ug:=PySem.W.view p0 XS
noncomputable def clsL:XL0:=[("DealError", O 4),("NoWishes", O 5),("NoAim", O 6)]
theorem Ea:∀(w:World)(os:OsState),(PySem.W.Fast.tw10708255244068714335 PySem.W.Fast.tw14364793385576792824 PySem.W.Fast.tw12468872040835914554 w 11 (O (.ref 6)) 2428 (T0 w os) (PySem.W.topStub PySem.W.Fast.tw12468872040835914554)).map (λt=>(((PySem.W.Fast.tw13471830651028734593 (PySem.W.Fast.tw5923862056798008813 (Program.main PySem.W.Fast.tw12468872040835914554).body) (PySem.W.boot_heap w.params) t.abs.heap&&PySem.W.Fast.tw4683006035507612052 PySem.W.Fast.tw12468872040835914554 t.abs.heap&&PySem.W.gensDone t.abs&&PySem.W.Fast.tw16898566250750103049 (PySem.W.boot_heap w.params) t.abs.heap),PySem.W.Fast.tw4187177175401517315 (PySem.W.view PySem.W.Fast.tw12468872040835914554 XS) [] (PySem.W.Fast.tw5923862056798008813 (Program.main PySem.W.Fast.tw12468872040835914554).body) (λs=>PySem.W.Fast.tw4757257242682413121 (PySem.W.view PySem.W.Fast.tw12468872040835914554 XS) [] s&&PySem.W.recOk [] s) w5 t.abs),PySem.W.Fast.tw11121216462471823999 clsL t.abs))=O ((w5,PySem.W.Fast.tw3486900944545009338 (PySem.W.view PySem.W.Fast.tw12468872040835914554 XS) []),PySem.W.Fast.tw18030470931243306169 PySem.W.Fast.tw12468872040835914554 clsL):=by intro w os;kernel_rfl
theorem F9:PySem.W.LeftO p0 q0 [] (λs=>PySem.W.xlAt q0 [] s&&PySem.W.recOk [] s) (xSeen clsL) (λ_=>xGood p0 clsL) 4756:=by
 refine qG (M:=2428) (by kernel_rfl) wZ (λs=>by kernel_rfl) wZ λw os=>?_
 have h:=Ea w os;rw[←PySem.W.Fast.te10708255244068714335,←PySem.W.Fast.te14364793385576792824,←PySem.W.Fast.te4187177175401517315,←PySem.W.Fast.te5923862056798008813,←PySem.W.Fast.te13471830651028734593,←PySem.W.Fast.te4683006035507612052,←PySem.W.Fast.te16898566250750103049,←PySem.W.Fast.te4757257242682413121,←PySem.W.Fast.te3486900944545009338,←PySem.W.Fast.te11121216462471823999,←PySem.W.Fast.te18030470931243306169,←PySem.W.Fast.te12468872040835914554]at h;exact h
end W
namespace L2
open PySem PySem.Spec PyProof.Rows
abbrev Key:=Sum Int Str
abbrev yk:=List Key
noncomputable def Sd:Key->Ue->Bool
 |.inl k,v=>Value.isInt k v
 |.inr x,v=>Value.isStrOf x v
noncomputable def keyH(w:World):Key->Int
 |.inl k=>hashInt k
 |.inr x=>hashStr w x
theorem WV:∀{k:Key}{v:Ue},Sd k v=w5->(∃i t,k=Sum.inl i/\v=Value.int i t)∨(∃x t,k=Sum.inr x/\v=Value.str x t)
 |.inl i,v,h=>by obtain⟨t,e⟩:=Value.isInt_shape (k:=i) (v:=v) h;exact .inl ⟨i,t,rfl,e⟩
 |.inr x,v,h=>by obtain⟨t,e⟩:=Value.isStrOf_shape (x:=x) (v:=v) h;exact .inr ⟨x,t,rfl,e⟩
theorem kP(i:Int)(t:Tok):Sd (.inl i) (.int i t)=w5:=by simp[Sd,Value.isInt]
theorem kO(x:Str)(t:Tok):Sd (.inr x) (.str x t)=w5:=by simp[Sd,Value.isStrOf]
theorem CH(a b:Int):decide ((Sum.inl a:Key)=Sum.inl b)=(a==b):=by
 by_cases e:a=b
 .subst e;simp
 .have h:¬(Sum.inl a:Key)=Sum.inl b:=λq=>e (Sum.inl.inj q)
  rw[Qr h];exact(beq_eq_false_iff_ne.mpr e).symm
theorem CG(a b:Str):decide ((Sum.inr a:Key)=Sum.inr b)=decide (a=b):=by
 by_cases e:a=b
 .subst e;simp
 .have h:¬(Sum.inr a:Key)=Sum.inr b:=λq=>e (Sum.inr.inj q)
  rw[Qr h,Qr e]
theorem CF(a:Int)(b:Str):decide ((Sum.inl a:Key)=Sum.inr b)=w6:=Qr (λq=>nomatch q)
theorem CD(a:Str)(b:Int):decide ((Sum.inr a:Key)=Sum.inl b)=w6:=Qr (λq=>nomatch q)
noncomputable def WA(prog:Ug)(w:World):PySem.KeyKind prog w Key where
 is:=Sd
 hash:=keyH w
 inj:=λv a b ha hb=>by
  rcases WV ha with ⟨i,t,rfl,rfl⟩|⟨x,t,rfl,rfl⟩
  .rcases WV hb with ⟨j,u,rfl,e⟩|⟨y,u,rfl,e⟩
   .injection e with e1 _;rw[e1]
   .exact nomatch e
  .rcases WV hb with ⟨j,u,rfl,e⟩|⟨y,u,rfl,e⟩
   .exact nomatch e
   .injection e with e1 _;rw[e1]
 byValue:=λk v h=>by rcases WV h with ⟨i,t,rfl,rfl⟩|⟨x,t,rfl,rfl⟩<;>rfl
 pyHash:=λhv h=>by
  rcases WV hv with ⟨i,t,rfl,rfl⟩|⟨x,t,rfl,rfl⟩
  .exact wpAny_pyHash_int h
  .exact wpAny_pyHash_str h
 eqBool:=λhu hv h=>by
  rcases WV hu with ⟨i,t,rfl,rfl⟩|⟨x,t,rfl,rfl⟩
  .rcases WV hv with ⟨j,u,rfl,rfl⟩|⟨y,u,rfl,rfl⟩
   .rw[CH]at h;exact wpAny_eqBool_int h
   .rw[CF]at h;exact SeqAt.EqAt.int_str i t y u _ _ _ _ h
  .rcases WV hv with ⟨j,u,rfl,rfl⟩|⟨y,u,rfl,rfl⟩
   .rw[CD]at h;exact SeqAt.EqAt.str_int x t j u _ _ _ _ h
   .rw[CG]at h;exact wpAny_eqBool_str h
 «strs»:=λk x t v h=>by
  rcases WV h with ⟨i,u,rfl,e⟩|⟨y,u,rfl,e⟩
  .exact nomatch e
  .injection e with e1 _
   subst e1;cases v<;>rfl
theorem vZ(prog:Ug)(w:World)(i:Int)(t:Tok):(WA prog w).is (.inl i) (.int i t)=w5:=kP i t
theorem vY(prog:Ug)(w:World)(x:Str)(t:Tok):(WA prog w).is (.inr x) (.str x t)=w5:=kO x t
inductive V where
 |non|bl (b:Bool)|int (i:Int)|str (x:Str)|byt (b:Array UInt8)|flt (b:UInt64)|ref (a:Uh)|ty (n:String)
 deriving DecidableEq
noncomputable def RelV:V->Ue->Prop
 |.non,u=>u=Value.none
 |.bl b,u=>u=Value.bool b
 |.int i,u=>∃t,u=Value.int i t
 |.str x,u=>∃t,u=Value.str x t
 |.byt b,u=>∃t,u=Value.bytes b t
 |.flt b,u=>∃t,u=Value.float b t
 |.ref a,u=>u=Value.ref a
 |.ty n,u=>u=Value.type n
noncomputable abbrev Vals:List V->ya->Prop:=Paired RelV
theorem Vals.length{xs:List V}{us:ya}(r:Vals xs us):xs.length=us.length:=Paired.length r
theorem Vals.get:∀{xs:List V}{us:ya}{i:Nat}{x:V},Vals xs us->xs[i]?=O x->∃u,us[i]?=O u/\RelV x u
 |_,_,_,_,.nil,e=>by simp at e
 |_,_,0,_,.cons r _,e=>by simp at e;subst e;exact⟨_,rfl,r⟩
 |_,_,i+1,x,.cons _ t,e=>by obtain⟨u,h1,h2⟩:=Vals.get (i:=i) (x:=x) t (by simpa using e);exact⟨u,by simpa using h1,h2⟩
theorem Vals.set{x:V}{u:Ue}(r:RelV x u):∀{xs:List V}{us:ya}(i:Nat),Vals xs us->Vals (xs.set i x) (us.set i u)
 |_,_,_,.nil=>.nil
 |_,_,0,.cons _ t=>.cons r t
 |_,_,i+1,.cons q t=>.cons q (Vals.set r i t)
theorem Vals.append:∀{xs ys:List V}{us ws:ya},Vals xs us->Vals ys ws->Vals (xs++ys) (us++ws)
 |_,_,_,_,.nil,s=>s
 |_,_,_,_,.cons r t,s=>.cons r (Vals.append t s)
theorem Vals.take:∀{xs:List V}{us:ya}(n:Nat),Vals xs us->Vals (xs.take n) (us.take n)
 |_,_,0,_=>.nil
 |_,_,_+1,.nil=>.nil
 |_,_,n+1,.cons r t=>.cons r (Vals.take n t)
theorem Vals.drop:∀{xs:List V}{us:ya}(n:Nat),Vals xs us->Vals (xs.drop n) (us.drop n)
 |_,_,0,r=>r
 |_,_,_+1,.nil=>.nil
 |_,_,n+1,.cons _ t=>Vals.drop n t
noncomputable def Wk:Option V->yc->Prop
 |some v,O u=>RelV v u
 |none,w4=>True
 |_,_=>False
noncomputable def KV{κ:Type}:List (κ×V)->List (κ×Ue)->Prop:=Paired λ(p:κ×V) (q:κ×Ue)=>p.1=q.1/\RelV p.2 q.2
def kV:Key->V
 |.inl i=>.int i
 |.inr x=>.str x
inductive HO where
  |lst (xs:List V)
  |tup (xs:List V)
  |dK (kvs:List (Key×V))|dT (kvs:List (yk×V))
  |set (S:Int->Bool) (n:Nat)
  |ins (C dx:Uh) (fs:List (Str×V))
  |own (x:Uh)
  |xd (fs:List (Str×V))
  |met (f x:Uh)
  |rng (lo hi:Int)
  |frz (o:Obj) (u:HO)
  |tbl (ps:Array Ue)
  |ext (φ:Heap->Prop)
abbrev Hp:=Uh->Option HO
noncomputable def upd(H:Hp)(a:Uh)(o:HO):Hp:=λb=>if b=a then O o else H b
theorem KG{H:Hp}{a:Uh}{o:HO}:upd H a o a=O o:=by unfold upd;rw[Qm wZ]
theorem Kk{H:Hp}{a b:Uh}{o:HO}(h:b≠a):upd H a o b=H b:=by unfold upd;rw[Qw h]
theorem M9{H:Hp}{a:Uh}{o u:HO}:upd (upd H a o) a u=upd H a u:=by funext b;unfold upd;split<;>rfl
theorem Yw{H:Hp}{a b:Uh}{o:HO}(h:H a=O o)(h':H b=w4):a≠b:=by intro e;subst e;rw[h]at h';cases h'
section
variable(P:Ug)(w:World)
noncomputable def Zu(H:Hp)(h:Heap)(a:Uh):HO->Prop
 |.lst xs=>xs.length<=Uk/\∃(its:ya)(n:Nat),Vals xs its/\h.get? a=O {cls:=.type "list", data:=.seq its.toArray n}
 |.tup xs=>xs.length<=Uk/\∃its:ya,Vals xs its/\IsTup h a its.toArray
 |.dK kvs=>kvs.length<=Uk/\(a==sysModules)=w6/\∃vs,KV kvs vs/\h.DictOf (WA P w) a vs
 |.dT kvs=>kvs.length<=Uk/\(a==sysModules)=w6/\∃xs:List (yk×Uh×Ue),
   Paired (λ(p:yk×V) (q:yk×Uh×Ue)=>p.1=q.1/\H q.2.1=O (.tup (p.1.map kV))/\RelV p.2 q.2.2) kvs xs /\
   ∃o es ep,h.get? a=O o/\o.ExactDict/\o.data=.dict es ep/\es.toList=xs.map (entryOfKey (tupleKind (WA P w)))/\(xs.map (·.1)).Nodup
 |.set S n=>h.SetOf (intKind P w) a S n
 |.ins C dx fs=>H dx=O (.own a)/\fs.length<=1000/\dx≠a/\h.get? a=O (PySem.W.instObj C dx) /\
   ∃mA,h.Ns1 dx mA/\(∀f,Wk (fs.lookup f) (mA f))/\PySem.Within mA (fs.map (·.1))
 |.own _=>∃o,h.get? a=O o
 |.xd fs=>∃mA,h.Ns1 a mA/\∀f,Wk (fs.lookup f) (mA f)
 |.rng lo hi=>∃t u v,h.get? a=O {cls:=.type "range", data:=.fields #[.int lo t,.int hi u,.int 1 v]}
 |.frz o u=>h.get? a=O o/\Zu H h a u
 |.tbl ps=>h.get? a=O {cls:=.none,data:=.fields ps}
 |.met f x=>h.get? a=O (PySem.W.methodObj (.ref f) (.ref x))
 |.ext φ=>φ h/\(∃o,h.get? a=O o)/\∀h1 h2:Heap,φ h1->(∀o,h1.get? a=O o->h2.get? a=O o)->φ h2
def HOk(H:Hp)(h:Heap):Prop:=∀a o,H a=O o->Zu P w H h a o
end
section
variable{P:Ug}{w:World}{H H':Hp}{h h':Heap}{a:Uh}{o:HO}
theorem Zu.lt(x:Zu P w H h a o):a<h.objs.size:=by
 cases o with
 |lst xs=>obtain⟨_,_,_,_,e⟩:=x;exact Qf e
 |tup xs=>obtain⟨_,_,_,p⟩:=x;exact p.lt
 |dK kvs=>obtain⟨_,_,_,_,o,_,_,e,_⟩:=x;exact Qf e
 |dT kvs=>obtain⟨_,_,_,_,o,_,_,e,_⟩:=x;exact Qf e
 |set S n=>obtain⟨o,_,_,_,e,_⟩:=x;exact Qf e
 |ins C dx fs=>obtain⟨_,_,_,e,_⟩:=x;exact Qf e
 |own y=>obtain⟨_,e⟩:=x;exact Qf e
 |xd fs=>obtain⟨_,⟨_,_,_,e,_⟩,_⟩:=x;exact Qf e
 |rng lo hi=>obtain⟨_,_,_,e⟩:=x;exact Qf e
 |frz ob u=>obtain⟨e,_⟩:=x;exact Qf e
 |tbl ps=>exact Qf (show h.get? a=O _ from x)
 |met f y=>exact Qf (show h.get? a=O _ from x)
 |ext φ=>obtain⟨_,⟨_,e⟩,_⟩:=x;exact Qf e
theorem Paired.mapP{α β:Type}{F G:α->β->Prop}:∀{l₁:List α}{l₂:List β},Paired F l₁ l₂->(∀a b,F a b->G a b)->Paired G l₁ l₂
 |_,_,.nil,_=>.nil
 |_,_,.cons r t,f=>.cons (f _ _ r) (Paired.mapP t f)
theorem Zu.stay(x:Zu P w H h a o)(k:∀b u,(b=a∨H b=O (.own a))->h.get? b=O u->h'.get? b=O u)
  (ho:∀b,H b=O (.own a)->H' b=O (.own a)) (ht:∀b xs,H b=O (.tup xs)->H' b=O (.tup xs)):Zu P w H' h' a o:=by
 induction o with
 |lst xs=>obtain⟨z,its,n,r,e⟩:=x;exact⟨z,its,n,r,k _ _ (.inl wZ) e⟩
 |tup xs=>obtain⟨z,its,r,ob,e,c⟩:=x;exact⟨z,its,r,ob,k _ _ (.inl wZ) e,c⟩
 |dK kvs=>obtain⟨z,y,vs,r,ob,es,ep,e,c⟩:=x;exact⟨z,y,vs,r,ob,es,ep,k _ _ (.inl wZ) e,c⟩
 |dT kvs=>obtain⟨z,y,xs,r,ob,es,ep,e,c⟩:=x;exact⟨z,y,xs,Paired.mapP r λp q z=>⟨z.1,ht _ _ z.2.1,z.2.2⟩,ob,es,ep,k _ _ (.inl wZ) e,c⟩
 |set S n=>obtain⟨ob,es,ep,t,e,c⟩:=x;exact⟨ob,es,ep,t,k _ _ (.inl wZ) e,c⟩
 |ins C dx fs=>obtain⟨d,z,ne,e,mA,⟨od,es,ep,e2,c⟩,r⟩:=x;exact⟨ho _ d,z,ne,k _ _ (.inl wZ) e,mA,⟨od,es,ep,k _ _ (.inr d) e2,c⟩,r⟩
 |own y=>obtain⟨ob,e⟩:=x;exact⟨ob,k _ _ (.inl wZ) e⟩
 |xd fs=>obtain⟨mA,⟨od,es,ep,e,c⟩,r⟩:=x;exact⟨mA,⟨od,es,ep,k _ _ (.inl wZ) e,c⟩,r⟩
 |rng lo hi=>obtain⟨t,u,v,e⟩:=x;exact⟨t,u,v,k _ _ (.inl wZ) e⟩
 |frz ob u ih=>obtain⟨e,q⟩:=x;exact⟨k _ _ (.inl wZ) e,ih q⟩
 |tbl ps=>have e:h.get? a=O {cls:=.none,data:=.fields ps}:=x;show h'.get? a=O {cls:=.none,data:=.fields ps};exact k a _ (.inl wZ) e
 |met f y=>have e:h.get? a=O (PySem.W.methodObj (.ref f) (.ref y)):=x;show h'.get? a=O (PySem.W.methodObj (.ref f) (.ref y));exact k a _ (.inl wZ) e
 |ext φ=>obtain⟨p,⟨o,e⟩,st⟩:=x;exact⟨st _ _ p λo q=>k _ _ (.inl wZ) q,⟨o,k _ _ (.inl wZ) e⟩,st⟩
theorem HOk.lt(x:HOk P w H h)(e:H a=O o):a<h.objs.size:=(x a o e).lt
theorem HOk.fresh(x:HOk P w H h)(e:h.objs.size<=a):H a=w4:=by
 cases q:H a with
 |none=>rfl
 |some u=>exact absurd (QE (x.lt q) e) (Jy _)
theorem HOk.kept(x:HOk P w H h)(k:∀b u,h.get? b=O u->h'.get? b=O u):HOk P w H h':=λa o e=>
 (x a o e).stay (λb u _ q=>k b u q) (λ_ q=>q) λ_ _ q=>q
theorem HOk.laid(x:HOk P w H h)(k:∀b u,h.get? b=O u->h'.get? b=O u)(hp:h.objs.size<=a)(new:Zu P w (upd H a o) h' a o):HOk P w (upd H a o) h':=λb u e=>by
 have hn:=x.fresh hp;by_cases hb:b=a
 .subst hb;rw[KG]at e;cases e;exact new
 .rw[Kk hb]at e
  exact(x b u e).stay (λc v _ q=>k c v q) (λc q=>by rw[Kk (Yw q hn)];exact q) λc xs q=>by rw[Kk (Yw q hn)];exact q
end
def Rd(H:Hp)(a:Uh)(u:HO):Prop:=H a=O u ∨ ∃o,H a=O (.frz o u)
theorem Rd.ok{P:Ug}{w:World}{H:Hp}{h:Heap}{a:Uh}{u:HO}(r:Rd H a u)(x:HOk P w H h):Zu P w H h a u:=by
 rcases r with r|⟨o,r⟩
 .exact x a u r
 .obtain⟨_,q⟩:=x a _ r
  exact q
noncomputable def Mut:Option HO->Prop
 |some (.lst _)=>True
 |some (.dK _)=>True
 |some (.dT _)=>True
 |some (.set _ _)=>True
 |some (.ins _ _ _)=>True
 |some (.ext _)=>True
 |_=>False
section
variable{P:Ug}{w:World}{H:Hp}{h h':Heap}{x e:Uh}{o':HO}
theorem HOk.write(ok:HOk P w H h)(mu:Mut (H x))(he:e=x∨H e=O (.own x))(k:∀b u,b≠e->h.get? b=O u->h'.get? b=O u)(ag:∃u,h'.get? e=O u)
  (new:Zu P w (upd H x o') h' x o'):HOk P w (upd H x o') h':=λb u q=>by
 have nown:∀c y,H c=O (.own y)->c≠x:=λc y r z=>by subst z;rw[r]at mu;exact mu
 have ntup:∀c xs,H c=O (.tup xs)->c≠x:=λc xs r z=>by subst z;rw[r]at mu;exact mu
 by_cases hb:b=x
 .subst hb;rw[KG]at q;cases q;exact new
 .rw[Kk hb]at q
  by_cases yN:b=e
  .have q':H b=O (.own x):=by
    rcases he with z|z
    .exact absurd (yN.trans z) hb
    .rw[yN];exact z
   rw[q]at q';cases q';obtain⟨v,hv⟩:=ag;exact⟨v,by rw[yN];exact hv⟩
  .refine(ok b u q).stay (λc v hc r=>k c v ?_ r) (λc r=>by rw[Kk (nown c b r)];exact r) λc xs r=>by rw[Kk (ntup c xs r)];exact r
   rcases hc with rfl|hc
   .exact yN
   .rintro rfl
    rcases he with z|z
    .exact nown c b hc z
    .rw[hc]at z;cases z;exact hb wZ
end
structure Un(fs ex:yf)(H H':Hp)(h h':Heap):Prop where
 keep:∀b o,h.get? b=O o->H b=w4->b∉fs->b∉ex->h'.get? b=O o
 slot:∀b o,h.get? b=O o->H b=w4->b∈fs->b∉ex->∃sl,h'.get? b=O {o with slots:=sl}
 free:∀b o,h.get? b=O o->H b=w4->b∉ex->H' b=w4
 there:∀b o,h.get? b=O o->b∉ex->∃o',h'.get? b=O o'
 tups:∀b xs,H b=O (.tup xs)->H' b=O (.tup xs)
 frzs:∀b o u,H b=O (.frz o u)->H' b=O (.frz o u)
 tbls:∀b ps,H b=O (.tbl ps)->∃more,H' b=O (.tbl (ps++more))
section
variable{fs fs' ex ex':yf}{H H1 H2:Hp}{h h1 h2 h':Heap}{a x e:Uh}{o:HO}
theorem Un.any(u:Un fs ex H H1 h h1){b:Uh}{ob:Obj}(q:h.get? b=O ob)(n:H b=w4)(hx:b∉ex):∃sl,h1.get? b=O {ob with slots:=sl}:=by
 by_cases hb:b∈fs
 .exact u.slot b ob q n hb hx
 .exact⟨ob.slots,u.keep b ob q n hb hx⟩
theorem Un.kept(k:∀b u,h.get? b=O u->h'.get? b=O u):Un fs ex H H h h':=
 ⟨λb ob q _ _ _=>k b ob q,λb ob q _ _ _=>⟨ob.slots,k b ob q⟩,λ_ _ _ n _=>n,λb ob q _=>⟨ob,k b ob q⟩,λ_ _ q=>q,λ_ _ _ q=>q,λ_ ps q=>⟨#[],by rw[q];simp⟩⟩
theorem Un.refl:Un fs ex H H h h:=Un.kept λ_ _ q=>q
theorem Un.laid(k:∀b u,h.get? b=O u->h'.get? b=O u)(hp:h.objs.size<=a)(hn:H a=w4):Un fs ex H (upd H a o) h h' where
 keep:=λb u q _ _ _=>k b u q
 slot:=λb u q _ _ _=>⟨u.slots,k b u q⟩
 free:=λb u q n _=>by rw[Kk (QM (QE (Qf q) hp))];exact n
 there:=λb u q _=>⟨u,k b u q⟩
 tups:=λb xs q=>by rw[Kk (Yw q hn)];exact q
 frzs:=λb u xs q=>by rw[Kk (Yw q hn)];exact q
 tbls:=λb ps q=>⟨#[],by rw[Kk (Yw q hn),q];simp⟩
theorem Un.write(mu:Mut (H x))(he:e=x∨H e=O (.own x))(k:∀b u,b≠e->h.get? b=O u->h'.get? b=O u)(ag:∃u,h'.get? e=O u):Un fs ex H (upd H x o) h h':=by
 have hx:∀b,H b=w4->b≠x:=λb n z=>by subst z;rw[n]at mu;exact mu
 have hb:∀b,H b=w4->b≠e:=λb n z=>by
  subst z;rcases he with r|r
  .exact hx b n r
  .rw[n]at r;cases r
 have hm:∀b u,H b=O u->¬Mut (O u)->b≠x:=λb u q nm z=>by subst z;rw[q]at mu;exact nm mu
 refine⟨λb u q n _ _=>k b u (hb b n) q,λb u q n _ _=>⟨u.slots,k b u (hb b n) q⟩,λb u q n _=>by rw[Kk (hx b n)];exact n,λb u q _=>?_,
  λb xs q=>by rw[Kk (hm b _ q λz=>z)];exact q,λb u xs q=>by rw[Kk (hm b _ q λz=>z)];exact q,λb ps q=>⟨#[],by rw[Kk (hm b _ q λz=>z),q];simp⟩⟩
 by_cases yN:b=e
 .subst yN;exact ag
 .exact⟨u,k b u yN q⟩
end
noncomputable def trk(h:Heap)(H:Hp):yf:=(Up h.objs.size).filter λa=>(H a).isSome
noncomputable def Yp(h:Heap)(H:Hp):Heap:=PySem.W.hideAll h (trk h H)
theorem kN(h:Heap)(H:Hp):(Yp h H).objs.size=h.objs.size:=PySem.W.hideAll_size _ _
theorem qF{h:Heap}{H:Hp}{b:Uh}{o:Obj}(e:h.get? b=O o)(n:H b=w4):(Yp h H).get? b=O o:=
 PySem.W.hideAll_get _ e λhm=>by have q:(H b).isSome=w5:=(List.mem_filter.mp hm).2;rw[n]at q;simp at q
theorem BV{h:Heap}{H:Hp}{b:Uh}{o:Obj}(e:(Yp h H).get? b=O o):h.get? b=O o/\H b=w4:=by
 have e':h.get? b=O o:=PySem.W.of_hideAll (trk h H) e;refine⟨e',?_⟩;cases q:H b with
 |none=>rfl
 |some x=>have hm:b∈trk h H:=List.mem_filter.mpr ⟨List.mem_range.mpr (Heap.lt_size e'),by simp[q]⟩;have z:(Yp h H).get? b=w4:=PySem.W.hideAll_none (trk h H) hm;rw[z]at e;cases e
structure Mod(K:Frag)(mg:Str->yc)(base:Heap):Prop where
 kin:K.In base
 glob:base.Ns mainGlobals mg
 blt:∃mb,base.Ns builtinsNs mb/\∀x:Str,x ≠ "__name__" -> mb x=bootBuiltins x
 nolimit:base.NoLimit
structure Cx where
 prog:Ug
 w:World
 K:Frag
 mg:Str->yc
 base:Heap
 A:Around
 N:List Str
 s₀:Uf
 H₀:Hp
 env:Env
 outer:List Env
 stack:List Env
 ex:yf
 fn:Str->Bool
 calm:Bool
 pn:List (Uh×Obj)
 xe:Ue->Uf->Prop
def frs(l:List Env):yf:=l.filterMap (·.frame)
abbrev Cx.fs(X:Cx):yf:=frs X.outer
def Vis(sc:Scope)(x:Str):Prop:=sc.names.lookup x=O .local∨sc.names.lookup x=O .cell∨sc.names.lookup x=O .free
def Loc(sc:Scope)(x:Str):Prop:=sc.names.lookup x=O .local∨sc.names.lookup x=O .cell
def Look(env:Env)(h:Heap)(m:Str->yc)(x:Str)(u:Ue):Prop:=
 (env.kindOf x=O .local/\m x=O u)∨((env.kindOf x=O .cell∨env.kindOf x=O .free)/\∃c,env.cells.lookup x=O c/\h.IsCell c (O u))
structure Cx.Ok(X:Cx):Prop where
 mod:Mod X.K X.mg X.base
 kind:X.env.scope.kind=.function
 glob:X.env.globals=mainGlobals
 blt:X.env.builtins=builtinsNs
 above:X.s₀.heap.objs.size<=X.env.locals
 inj:∀x y c,X.env.cells.lookup x=O c->X.env.cells.lookup y=O c->x=y
 has:∀x,(X.env.kindOf x=O .cell∨X.env.kindOf x=O .free)->∃c,X.env.cells.lookup x=O c
 cab:∀x c,X.fn x=w5->X.env.cells.lookup x=O c->X.s₀.heap.objs.size<=c
 hd:X.calm=w5->X.A.handled=w4
 frames:X.A.frames=O X.stack
 stk:X.stack=X.outer∨(X.stack=X.env::X.outer/\X.env.frame=O X.env.locals)
 exf:∀b∈X.ex,b≠X.env.locals/\∀x c,X.env.cells.lookup x=O c->c≠b
 bs:∀b o,X.base.get? b=O o->X.s₀.heap.get? b=O o/\X.H₀ b=w4
 bsz:X.base.objs.size<=X.s₀.heap.objs.size
 noex:∀b o,X.base.get? b=O o->b∉X.ex
 exfs:∀b∈X.ex,b∉X.fs
 funs:X.s₀.heap.FunFrames X.base X.outer
 frf:∀b∈X.fs,X.H₀ b=w4
structure Inv(X:Cx)(pins:List (Uh×Obj))(σ:List (Option V))(H:Hp)(s:Uf):Prop where
 ok:X.Ok
 os:s.os=X.s₀.os
 bare:AllBare s.gens
 base:Un X.fs X.ex X.H₀ H X.s₀.heap s.heap
 loc:∃m,s.heap.Ns X.env.locals m/\∀(i:Nat)(x:Str)(v:V),X.N[i]?=O x->σ[i]?=O (O v)->Vis X.env.scope x->∃u,RelV v u/\Look X.env s.heap m x u
 cell:∀x c,X.env.cells.lookup x=O c->∃v,s.heap.IsCell c v
 free:H X.env.locals=w4
 freeC:∀x c,X.env.cells.lookup x=O c->H c=w4
 pin:∀p∈X.pn++pins,s.heap.get? p.1=O p.2/\H p.1=w4/\p.1≠X.env.locals/\p.1∉X.fs/\∀v,p.2.data≠.cell v
 hok:HOk X.prog X.w H s.heap
 len:σ.length=X.N.length
section
variable{X:Cx}{pins:List (Uh×Obj)}{σ:List (Option V)}{H H':Hp}{s:Uf}{h':Heap}
theorem Cx.Ok.nofr(ok:X.Ok){b:Uh}{o:Obj}(e:X.base.get? b=O o):b∉X.fs:=λhb=>by have:=(ok.funs.mem hb).1;rw[e]at this;cases this
theorem Inv.bs(I:Inv X pins σ H s):∀b o,X.base.get? b=O o->s.heap.get? b=O o/\H b=w4:=λb o e=>
 ⟨I.base.keep b o (I.ok.bs b o e).1 (I.ok.bs b o e).2 (I.ok.nofr e) (I.ok.noex b o e),I.base.free b o (I.ok.bs b o e).1 (I.ok.bs b o e).2 (I.ok.noex b o e)⟩
theorem Inv.bk(I:Inv X pins σ H s):∀b o,X.base.get? b=O o->s.heap.get? b=O o:=λb o e=>(I.bs b o e).1
theorem Inv.mod(I:Inv X pins σ H s):Mod X.K X.mg X.base:=I.ok.mod
theorem Inv.kIn(I:Inv X pins σ H s):X.K.In s.heap:=I.ok.mod.kin.keeps I.bk
theorem Inv.fr(I:Inv X pins σ H s):∃m,Fr X.base X.env.locals s.heap m:=
 let ⟨m,hn,_⟩:=I.loc
 ⟨m,hn,I.bk,QH I.ok.bsz I.ok.above⟩
theorem Inv.lt(I:Inv X pins σ H s):X.env.locals<s.heap.objs.size:=let ⟨_,hn,_⟩:=I.loc;hn.lt
theorem Inv.sz(I:Inv X pins σ H s):X.s₀.heap.objs.size<=s.heap.objs.size:=QH I.ok.above (Nat.le_of_lt I.lt)
theorem Inv.nofs(I:Inv X pins σ H s){a:Uh}(h:s.heap.objs.size<=a):a∉X.fs:=λhb=>by obtain⟨_,o,ho,_⟩:=I.ok.funs.mem hb;exact absurd (QE (Qf ho) (QH I.sz h)) (Jy _)
theorem Inv.cne(I:Inv X pins σ H s):∀x c,X.env.cells.lookup x=O c->c≠X.env.locals:=λx c e z=>by obtain⟨v,o,ho,hd⟩:=I.cell x c e;obtain⟨m,⟨o',es,ep,ho',hd',_⟩,_⟩:=I.loc;rw[z,ho']at ho;cases ho;rw[hd']at hd;cases hd
theorem Inv.funs(I:Inv X pins σ H s):s.heap.FunFrames X.base X.outer:=by
 have all:∀(l:List Env),(∀b∈frs l,b∈X.fs)->X.s₀.heap.FunFrames X.base l->s.heap.FunFrames X.base l:=by
  intro l;induction l with
  |nil=>intro _ _;trivial
  |cons env r ih=>
   intro hs hl;obtain⟨hk,⟨L,o,hf,hn,ho,hd⟩,hr⟩:=hl;have hL:L∈X.fs:=hs L (by unfold frs;rw[List.filterMap_cons,hf];exact Qo);obtain⟨sl,e⟩:=I.base.slot L o ho (I.ok.frf L hL) hL λz=>I.ok.exfs L z hL
   exact⟨hk,⟨L,_,hf,hn,e,hd⟩,ih (λb hb=>hs b (by unfold frs;rw[List.filterMap_cons,hf];exact Qp _ hb)) hr⟩
 exact all X.outer (λ_ hb=>hb) I.ok.funs
theorem Inv.stack(I:Inv X pins σ H s):s.heap.FunFrames X.base X.stack:=by
 rcases I.ok.stk with e|⟨e,hf⟩
 .rw[e];exact I.funs
 .rw[e]
  obtain⟨m,hn,_⟩:=I.loc;refine .cons (by rw[I.ok.kind];decide) hf hn ?_ I.funs;exact Heap.get?_none_of_le (QH I.ok.bsz I.ok.above)
theorem Inv.stkSub(I:Inv X pins σ H s):∀b∈frs X.stack,b∈X.env.locals::X.fs:=λb hb=>by
 rcases I.ok.stk with e|⟨e,hf⟩
 .rw[e]at hb;exact Qp _ hb
 .rw[e]at hb
  unfold frs at hb;rw[List.filterMap_cons,hf]at hb;exact hb
theorem Inv.stkFree(I:Inv X pins σ H s):∀b∈frs X.stack,H b=w4:=λb hb=>by
 rcases Qx.mp (I.stkSub b hb)with e|hb
 .rw[e];exact I.free
 .obtain⟨_,o,ho,_⟩:=I.ok.funs.mem hb
  exact I.base.free b o ho (I.ok.frf b hb) λz=>I.ok.exfs b z hb
theorem Inv.step{g':Array GenState}{t':Nat}{d':Drawn}{ch:yf}(I:Inv X pins σ H s)
  (hch:∀b∈ch,(b∈X.ex∨X.s₀.heap.objs.size<=b)/\b≠X.env.locals/\(∀x c,X.env.cells.lookup x=O c->c≠b)/\∀p∈X.pn++pins,p.1≠b)
  (keep:∀b o,b≠X.env.locals->b∉X.fs->b∉ch->s.heap.get? b=O o->H b=w4->h'.get? b=O o)
  (slot:∀b o,b≠X.env.locals->b∈X.fs->b∉ch->s.heap.get? b=O o->H b=w4->∃sl,h'.get? b=O {o with slots:=sl}) (free:∀b o,b∉ch->s.heap.get? b=O o->H b=w4->H' b=w4)
  (there:∀b o,b∉ch->s.heap.get? b=O o->∃o',h'.get? b=O o')
  (tups:∀b xs,H b=O (.tup xs)->H' b=O (.tup xs)) (frzs:∀b o u,H b=O (.frz o u)->H' b=O (.frz o u)) (tbls:∀b ps,H b=O (.tbl ps)->∃more,H' b=O (.tbl (ps++more)))
  (ns:∀m,s.heap.Ns X.env.locals m->h'.Ns X.env.locals m) (hok:HOk X.prog X.w H' h') (hg:AllBare g') :
  Inv X pins σ H' {s with heap:=h',gens:=g',drawn:=d',toks:=t'}:=by
 have neL:∀b o,X.s₀.heap.get? b=O o->b≠X.env.locals:=λb o e=>QM (QE (Qf e) I.ok.above)
 have neC:∀b o,X.s₀.heap.get? b=O o->b∉X.ex->b∉ch:=λb o e hx hb=>by
  rcases(hch b hb).1 with z|z
  .exact hx z
  .exact absurd (QE (Qf e) z) (Jy _)
 have cellK:∀x c,X.env.cells.lookup x=O c->∀v,s.heap.IsCell c v->h'.IsCell c v:=λx c e v ⟨o,ho,hd⟩=>by
  have nch:c∉ch:=λz=>(hch c z).2.2.1 x c e wZ
  by_cases hc:c∈X.fs
  .obtain⟨sl,q⟩:=slot c o (I.cne x c e) hc nch ho (I.freeC x c e)
   exact⟨_,q,hd⟩
  .exact⟨o,keep c o (I.cne x c e) hc nch ho (I.freeC x c e),hd⟩
 refine⟨I.ok,I.os,hg,⟨λb o e n hb hx=>?_,λb o e n hb hx=>?_,λb o e n hx=>?_,λb o e hx=>?_,λb xs e=>tups b xs (I.base.tups b xs e),λb o xs e=>frzs b o xs (I.base.frzs b o xs e),λb ps e=>?_⟩,?_,λx c e=>?_,?_,λx c e=>?_,λp hp=>?_,hok,I.len⟩
 .exact keep b o (neL b o e) hb (neC b o e hx) (I.base.keep b o e n hb hx) (I.base.free b o e n hx)
 .obtain⟨sl,e1⟩:=I.base.slot b o e n hb hx
  obtain⟨yR,e2⟩:=slot b _ (neL b o e) hb (neC b o e hx) e1 (I.base.free b o e n hx);exact⟨yR,e2⟩
 .obtain⟨o',e1⟩:=I.base.there b o e hx
  exact free b o' (neC b o e hx) e1 (I.base.free b o e n hx)
 .obtain⟨o',e1⟩:=I.base.there b o e hx
  exact there b o' (neC b o e hx) e1
 .obtain⟨m1,e1⟩:=I.base.tbls b ps e
  obtain⟨m2,e2⟩:=tbls b _ e1;exact⟨m1++m2,by rw[e2,Array.append_assoc]⟩
 .obtain⟨m,hn,hl⟩:=I.loc
  refine⟨m,ns m hn,λi x v e1 e2 e3=>?_⟩;obtain⟨u,r,l⟩:=hl i x v e1 e2 e3;refine⟨u,r,?_⟩;rcases l with l|⟨k,c,e,z⟩
  .exact .inl l
  .exact .inr ⟨k,c,e,cellK x c e _ z⟩
 .obtain⟨v,z⟩:=I.cell x c e
  exact⟨v,cellK x c e v z⟩
 .obtain⟨m,⟨o,_,_,ho,_⟩,_⟩:=I.loc
  exact free _ o (λz=>(hch _ z).2.1 wZ) ho I.free
 .obtain⟨v,o,ho,hd⟩:=I.cell x c e
  exact free c o (λz=>(hch c z).2.2.1 x c e wZ) ho (I.freeC x c e)
 .obtain⟨e,n,ne,nf,d⟩:=I.pin p hp
  have nch:p.1∉ch:=λz=>(hch p.1 z).2.2.2 p hp wZ
  exact⟨keep p.1 p.2 ne nf nch e n,free p.1 p.2 nch e n,ne,nf,d⟩
theorem Inv.un{t':Nat}(I:Inv X pins σ H s)(u:Un X.fs [] H H' s.heap h')(hok:HOk X.prog X.w H' h'):Inv X pins σ H' {s with heap:=h',toks:=t'}:=by obtain⟨m,⟨o,es,ep,ho,r⟩,_⟩:=id I.loc;obtain⟨sl,hL⟩:=u.any ho I.free (by simp);exact I.step (g':=s.gens) (d':=s.drawn) (ch:=[]) (λ_ z=>nomatch z) (λb o _ hb _ e n=>u.keep b o e n hb (by simp)) (λb o _ hb _ e n=>u.slot b o e n hb (by simp)) (λb o _ e n=>u.free b o e n (by simp)) (λb o _ e=>u.there b o e (by simp)) u.tups u.frzs u.tbls (λm' hm=>by obtain⟨o',es',ep',ho',r'⟩:=hm;rw[ho]at ho';cases ho';exact⟨_,es',ep',hL,r'⟩) hok I.bare
theorem Inv.call{g':Array GenState}{t':Nat}{d':Drawn}{ch:yf}(I:Inv X pins σ H s)(u:Un (frs X.stack) ch H H' s.heap h')(hok:HOk X.prog X.w H' h')(hg:AllBare g')
  (hch:∀b∈ch,(b∈X.ex∨X.s₀.heap.objs.size<=b)/\b≠X.env.locals/\(∀x c,X.env.cells.lookup x=O c->c≠b)/\∀p∈X.pn++pins,p.1≠b) :
  Inv X pins σ H' {s with heap:=h',gens:=g',drawn:=d',toks:=t'}:=by
 obtain⟨m,⟨o,es,ep,ho,r⟩,_⟩:=id I.loc;obtain⟨sl,hL⟩:=u.any ho I.free λz=>(hch _ z).2.1 wZ
 exact I.step (ch:=ch) hch (λb o hL hb hc e n=>u.keep b o e n (λz=>(Qx.mp (I.stkSub b z)).elim hL hb) hc) (λb o _ _ hc e n=>u.any e n hc) (λb o hc e n=>u.free b o e n hc) (λb o hc e=>u.there b o e hc) u.tups u.frzs u.tbls (λm' hm=>by obtain⟨o',es',ep',ho',r'⟩:=hm;rw[ho]at ho';cases ho';exact⟨_,es',ep',hL,r'⟩) hok hg
theorem Inv.turned{t':Nat}{it:Uh}(I:Inv X pins σ H s)(k:∀b o,b≠it->s.heap.get? b=O o->h'.get? b=O o)(hn:H it=w4)(hL:it≠X.env.locals)
  (h1:it∈X.ex∨X.s₀.heap.objs.size<=it) (h2:∀x c,X.env.cells.lookup x=O c->c≠it) (h3:∀p∈X.pn++pins,p.1≠it):Inv X pins σ H {s with heap:=h',toks:=t'}:=by
 have nit:∀b u,H b=O u->b≠it:=λb u e z=>by rw[z,hn]at e;cases e
 refine I.step (g':=s.gens) (d':=s.drawn) (ch:=[it]) (λb hb=>?_) (λb o _ _ hc e _=>k b o (λz=>hc (by simp[z])) e) (λb o _ _ hc e _=>⟨o.slots,k b o (λz=>hc (by simp[z])) e⟩) (λ_ _ _ _ n=>n)
  (λb o hc e=>⟨o,k b o (λz=>hc (by simp[z])) e⟩) (λ_ _ e=>e) (λ_ _ _ e=>e) (λb ps e=>⟨#[],by rw[e];simp⟩) (λm hm=>?_) (λb u e=>?_) I.bare
 .have e:b=it:=by simpa using hb
  subst e;exact⟨h1,hL,h2,h3⟩
 .obtain⟨o,es,ep,ho,r⟩:=hm
  exact⟨o,es,ep,k _ o (Ne.symm hL) ho,r⟩
 .refine(I.hok b u e).stay (λc v hc q=>k c v ?_ q) (λ_ q=>q) λ_ _ q=>q
  rcases hc with z|z
  .rw[z];exact nit b u e
  .exact nit c _ z
theorem Inv.tok(I:Inv X pins σ H s)(t:Nat):Inv X pins σ H {s with toks:=t}:=I.un (h':=s.heap) (t':=t) Un.refl I.hok
theorem Inv.kept{t':Nat}(I:Inv X pins σ H s)(k:∀b u,s.heap.get? b=O u->h'.get? b=O u):Inv X pins σ H {s with heap:=h',toks:=t'}:=I.un (Un.kept k) (I.hok.kept k)
theorem Inv.laid{a:Uh}{o:HO}{t':Nat}(I:Inv X pins σ H s)(k:∀b u,s.heap.get? b=O u->h'.get? b=O u)(hp:s.heap.objs.size<=a)(new:Zu X.prog X.w (upd H a o) h' a o) :
  Inv X pins σ (upd H a o) {s with heap:=h',toks:=t'}:=I.un (Un.laid k hp (I.hok.fresh hp)) (I.hok.laid k hp new)
theorem Inv.write{x e:Uh}{o:HO}{t':Nat}(I:Inv X pins σ H s)(mu:Mut (H x))(he:e=x∨H e=O (.own x))(k:∀b u,b≠e->s.heap.get? b=O u->h'.get? b=O u)(ag:∃u,h'.get? e=O u)
  (new:Zu X.prog X.w (upd H x o) h' x o):Inv X pins σ (upd H x o) {s with heap:=h',toks:=t'}:=I.un (Un.write mu he k ag) (I.hok.write mu he k ag new)
theorem Inv.pins_of{pins':List (Uh×Obj)}(I:Inv X pins σ H s)(h:∀p∈pins',s.heap.get? p.1=O p.2/\H p.1=w4/\p.1≠X.env.locals/\p.1∉X.fs/\∀v,p.2.data≠.cell v):Inv X pins' σ H s:=
 ⟨I.ok,I.os,I.bare,I.base,I.loc,I.cell,I.free,I.freeC,λp hp=>(QS.mp hp).elim (λz=>I.pin p (Jv _ z)) (h p),I.hok,I.len⟩
theorem LM{N:List Str}(hN:N.Nodup){i j:Nat}{x:Str}(a:N[i]?=O x)(b:N[j]?=O x):i=j:=by obtain⟨h1,e1⟩:=Ql.mp a;obtain⟨h2,e2⟩:=Ql.mp b;exact(List.getElem_inj hN).mp (e1.trans e2.symm)
theorem He{M:Model}{A:Around}{E:Ue->Uf->Prop}{i:Nat}{x:Str}{v:V}{u:Ue}{Q:Unit->Uf->Prop}(I:Inv X pins σ H s)(hN:X.N.Nodup)(hi:X.N[i]?=O x)(hx:Loc X.env.scope x)(r:RelV v u)
  (h:∀s',Inv X pins (σ.set i (O v)) H s'->(∃a,Heap.SameBut a s.heap s'.heap/\(a=X.env.locals∨X.env.cells.lookup x=O a))->Q () s') (hf:X.fn x=w5∨X.env.scope.names.lookup x=O .local:=by first|exact .inl rfl|exact .inr rfl|assumption):Ul M A (storeName X.env x u) Q E s:=by
 obtain⟨m,hn,hl⟩:=id I.loc;have hcls:(X.env.scope.kind==.class || (X.env.scope.kind==.module&&X.env.locals != X.env.globals))=w6:=by rw[I.ok.kind];rfl
 have hiσ:i<σ.length:=by rw[I.len];exact(Ql.mp hi).1
 have cne:=I.cne
 have tracked:∀{a:Uh}{h':Heap},(∃o,s.heap.get? a=O o/\H a=w4)->Heap.SameBut a s.heap h'->HOk X.prog X.w H h':=λ{a h'} ha hs b ob e=>by
  obtain⟨_,_,hfree⟩:=ha;refine(I.hok b ob e).stay (λc w' hc q=>(hs.2 c ?_).trans q) (λ_ q=>q) λ_ _ q=>q
  rintro rfl;rcases hc with rfl|hc
  .rw[hfree]at e;cases e
  .rw[hfree]at hc;cases hc
 rcases hx with hk|hk
 .refine wpAny_storeName_local hk hn (λh' hn' hs=>?_) hcls
  obtain⟨oL,_,_,aq,_⟩:=id hn;refine h _ ⟨I.ok,I.os,I.bare,⟨λb o e n hb hx=>?_,λb o e n hb hx=>?_,I.base.free,λb o e hx=>?_,I.base.tups,I.base.frzs,I.base.tbls⟩,⟨_,hn',λj y v' e1 e2 e3=>?_⟩,λy c e=>?_,I.free,I.freeC,λp hp=>?_,tracked ⟨oL,aq,I.free⟩ hs,by simpa using I.len⟩ ⟨_,hs,.inl wZ⟩
  .exact(hs.2 b (QM (QE (Qf e) I.ok.above))).trans (I.base.keep b o e n hb hx)
  .obtain⟨sl,e1⟩:=I.base.slot b o e n hb hx
   exact⟨sl,(hs.2 b (QM (QE (Qf e) I.ok.above))).trans e1⟩
  .obtain⟨o',e1⟩:=I.base.there b o e hx
   exact⟨o',(hs.2 b (QM (QE (Qf e) I.ok.above))).trans e1⟩
  .by_cases hj:j=i
   .subst hj
    rw[hi]at e1;cases e1;rw[QK hiσ]at e2;cases e2;exact⟨u,r,.inl ⟨hk,by simp⟩⟩
   .rw[Qn (Ne.symm hj)]at e2
    obtain⟨u',r',q⟩:=hl j y v' e1 e2 e3;refine⟨u',r',?_⟩;rcases q with ⟨k,e⟩|⟨k,c,e,z⟩
    .refine .inl ⟨k,?_⟩
     have:y≠x:=λe=>hj (LM hN e1 (e ▸ hi))
     simp[this,e]
    .exact .inr ⟨k,c,e,z.sameBut hs (cne y c e)⟩
  .obtain⟨w',z⟩:=I.cell y c e
   exact⟨w',z.sameBut hs (cne y c e)⟩
  .obtain⟨e,n,ne,nf,d⟩:=I.pin p hp
   exact⟨(hs.2 p.1 ne).trans e,n,ne,nf,d⟩
 .have hfn:X.fn x=w5:=by
   rcases hf with z|z
   .exact z
   .rw[z]at hk;cases hk
  obtain⟨c,hc⟩:=I.ok.has x (.inl hk);obtain⟨w',z⟩:=I.cell x c hc;refine wpAny_storeName_cell I.ok.kind hk hc z (λh' hc' hs=>?_);obtain⟨oc,hoc,hocd⟩:=id z;refine h {s with heap:=h'} ⟨I.ok,I.os,I.bare,⟨λb o e n hb hx=>?_,λb o e n hb hx=>?_,I.base.free,λb o e hx=>?_,I.base.tups,I.base.frzs,I.base.tbls⟩,⟨m,hn.sameBut hs (Ne.symm (cne x c hc)),λj y v' e1 e2 e3=>?_⟩,λy c' e=>?_,I.free,I.freeC,λp hp=>?_,tracked ⟨oc,hoc,I.freeC x c hc⟩ hs,by simpa using I.len⟩ ⟨c,hs,.inr hc⟩
  .exact(hs.2 b (QM (QE (Qf e) (I.ok.cab x c hfn hc)))).trans (I.base.keep b o e n hb hx)
  .obtain⟨sl,e1⟩:=I.base.slot b o e n hb hx
   exact⟨sl,(hs.2 b (QM (QE (Qf e) (I.ok.cab x c hfn hc)))).trans e1⟩
  .obtain⟨o',e1⟩:=I.base.there b o e hx
   exact⟨o',(hs.2 b (QM (QE (Qf e) (I.ok.cab x c hfn hc)))).trans e1⟩
  .by_cases hj:j=i
   .subst hj
    rw[hi]at e1;cases e1;rw[QK hiσ]at e2;cases e2;exact⟨u,r,.inr ⟨.inl hk,c,hc,hc'⟩⟩
   .rw[Qn (Ne.symm hj)]at e2
    obtain⟨u',r',q⟩:=hl j y v' e1 e2 e3;refine⟨u',r',?_⟩;rcases q with q|⟨k,c',e,z'⟩
    .exact .inl q
    .refine .inr ⟨k,c',e,z'.sameBut hs ?_⟩
     rintro rfl;exact hj (LM hN e1 (I.ok.inj _ _ _ e hc ▸ hi))
  .by_cases hcc:c'=c
   .subst hcc;exact⟨_,hc'⟩
   .obtain⟨w2,z2⟩:=I.cell y c' e
    exact⟨w2,z2.sameBut hs hcc⟩
  .obtain⟨e,n,ne,nf,d⟩:=I.pin p hp
   refine⟨(hs.2 p.1 ?_).trans e,n,ne,nf,d⟩;intro q;rw[q,hoc]at e;have q':oc=p.2:=Jf e;exact d w' (by rw[←q'];exact hocd)
theorem RJ{M:Model}{A:Around}{E:Ue->Uf->Prop}{i:Nat}{x:Str}{v:V}{u:Ue}{Q:Unit->Uf->Prop}(I:Inv X pins σ H s)(hN:X.N.Nodup)(hi:X.N[i]?=O x)(hx:Loc X.env.scope x)(r:RelV v u)
  (h:∀s',Inv X pins (σ.set i (O v)) H s'->Q () s') (hf:X.fn x=w5∨X.env.scope.names.lookup x=O .local:=by first|exact .inl rfl|exact .inr rfl|assumption):Ul M A (storeName X.env x u) Q E s:=
 He I hN hi hx r (λs' I' _=>h s' I') hf
theorem Inv.call'{s':Uf}{ch:yf}(I:Inv X pins σ H s)(ho:s'.os=s.os)(u:Un (frs X.stack) ch H H' s.heap s'.heap)(hok:HOk X.prog X.w H' s'.heap)(hg:AllBare s'.gens)
  (hch:∀b∈ch,(b∈X.ex∨X.s₀.heap.objs.size<=b)/\b≠X.env.locals/\(∀x c,X.env.cells.lookup x=O c->c≠b)/\∀p∈X.pn++pins,p.1≠b):Inv X pins σ H' s':=by
 obtain⟨h',g',d',t',o'⟩:=s';have e:o'=s.os:=ho;subst e;exact I.call (g':=g') (t':=t') (d':=d') u hok hg hch
end
abbrev XK:=Ue->yh->Hp->Prop
abbrev St:=List (Option V)
abbrev VK:=V->Hp->Prop
abbrev TE:=St->Hp->VK->Prop
abbrev TT:=St->Hp->(Bool->Hp->Prop)->Prop
abbrev TA:=St->Hp->(List V->Hp->Prop)->Prop
structure Ends where
 nx:St->Hp->Prop
 rt:VK
 bk:St->Hp->Prop:=λ_ _=>False
 ct:St->Hp->Prop:=λ_ _=>False
abbrev TS:=Ends->St->Hp->Prop
def EP(X:Cx)(pins:List (Uh×Obj))(σ:St)(Q:VK)(u:Ue)(s':Uf):Prop:=∃v H',Inv X pins σ H' s'/\RelV v u/\Q v H'
def TP(X:Cx)(pins:List (Uh×Obj))(σ:St)(Q:Bool->Hp->Prop)(b:Bool)(s':Uf):Prop:=∃H',Inv X pins σ H' s'/\Q b H'
def AP(X:Cx)(pins:List (Uh×Obj))(σ:St)(Q:List V->Hp->Prop)(us:ya)(s':Uf):Prop:=∃vs H',Inv X pins σ H' s'/\Vals vs us/\Q vs H'
def SP(X:Cx)(pins:List (Uh×Obj))(D:Ends)(f:Flow)(s':Uf):Prop:=
 match f with
 |.next=>∃σ' H',Inv X pins σ' H' s'/\D.nx σ' H'
 |.brk=>∃σ' H',Inv X pins σ' H' s'/\D.bk σ' H'
 |.cont=>∃σ' H',Inv X pins σ' H' s'/\D.ct σ' H'
 |.ret u=>∃v σ' H',Inv X pins σ' H' s'/\RelV v u/\D.rt v H'
def PE(X:Cx)(e:Uj)(t:TE):Prop:=
 ∀(pins:List (Uh×Obj))(s:Uf)(σ:St)(H:Hp)(Q:VK),Inv X pins σ H s->t σ H Q->Ul (model X.prog X.w) X.A (eval e X.env) (EP X pins σ Q) X.xe s
def PT(X:Cx)(e:Uj)(t:TT):Prop:=
 ∀(pins:List (Uh×Obj))(s:Uf)(σ:St)(H:Hp)(Q:Bool->Hp->Prop),Inv X pins σ H s->t σ H Q->Ul (model X.prog X.w) X.A (isTrue e X.env (eval e X.env)) (TP X pins σ Q) X.xe s
def PW(X:Cx)(e:Uj)(t:TT):Prop:=
 ∀(whole:Sem Ue)(pins:List (Uh×Obj))(s:Uf)(σ:St)(H:Hp)(Q:Bool->Hp->Prop),Inv X pins σ H s->t σ H Q->Ul (model X.prog X.w) X.A (isTrue e X.env whole) (TP X pins σ Q) X.xe s
theorem PW.pt{X:Cx}{e:Uj}{t:TT}(h:PW X e t):PT X e t:=h _
def PA(X:Cx)(es:yd)(t:TA):Prop:=
 ∀(pos:Pos)(pins:List (Uh×Obj))(s:Uf)(σ:St)(H:Hp)(Q:List V->Hp->Prop),Inv X pins σ H s->t σ H Q->Ul (model X.prog X.w) X.A (spliced (backTo pos (Um es X.env))) (AP X pins σ Q) X.xe s
def PS(X:Cx)(st:Stmt)(t:TS):Prop:=
 ∀(pins:List (Uh×Obj))(s:Uf)(σ:St)(H:Hp)(D:Ends),Inv X pins σ H s->t D σ H->Ul (model X.prog X.w) X.A (exec st X.env) (SP X pins D) X.xe s
def PSs(X:Cx)(st:List Stmt)(t:TS):Prop:=
 ∀(pins:List (Uh×Obj))(s:Uf)(σ:St)(H:Hp)(D:Ends),Inv X pins σ H s->t D σ H->Ul (model X.prog X.w) X.A (execs st X.env) (SP X pins D) X.xe s
theorem thn{α:Type}{t:Sem α}{Q Q':α->Uf->Prop}{M:Model}{A:Around}{E:Ue->Uf->Prop}{s:Uf}(h:Ul M A t Q E s)(hQ:∀a s,Q a s->Q' a s):Ul M A t Q' E s:=QI h hQ λ_ _ x=>x
section
variable{X:Cx}
def Kw(i:Nat):TE:=λσ H Q=>∃v,σ[i]?=O (O v)/\Q v H
def tC(v:V):TE:=λ_ H Q=>Q v H
theorem Mq{i:Nat}{x:Str}{pos:Pos}(hN:X.N[i]?=O x)(hv:Vis X.env.scope x)(hd:(x==("__debug__" : Str))=w6:=by decide)(hcd:(x==("__classdict__" : Str))=w6:=by decide):PE X (.Name x pos) (Kw i):=by
 intro pins s σ H Q I h;obtain⟨v,e,h⟩:=h;obtain⟨m,hn,hl⟩:=I.loc;obtain⟨u,r,l⟩:=hl i x v hN e hv;have fin:EP X pins σ Q u s:=⟨v,H,I,r,h⟩;rcases l with ⟨hk,hm⟩|⟨hk,c,hc,hcell⟩
 .exact wpAny_Name (wpAny_loadName_local I.ok.kind hk hn hm fin) hd
 .rcases hk with hk|hk
  .exact wpAny_Name (wpAny_loadName_cell I.ok.kind hk hc hcell fin) hd
  .exact wpAny_Name (wpAny_loadName_free I.ok.kind hk hc hcell fin hcd) hd
theorem CC{i j pos}:PE X (.Constant (.int i) j pos) (tC (.int i)):=λ_ _ _ H _ I h=>wpAny_Constant_int ⟨.int i,H,I.tok _,⟨_,rfl⟩,h⟩
theorem F8{b j pos}:PE X (.Constant (.bool b) j pos) (tC (.bl b)):=λ_ _ _ H _ I h=>Constant_bool ⟨.bl b,H,I,rfl,h⟩
theorem CB{j pos}:PE X (.Constant .none j pos) (tC .non):=λ_ _ _ H _ I h=>Constant_none ⟨.non,H,I,rfl,h⟩
theorem Pg{x j pos}:PE X (.Constant (.str x) j pos) (tC (.str x)):=λ_ _ _ H _ I h=>Calls.Constant_str ⟨.str x,H,I.tok _,⟨_,rfl⟩,h⟩
def Gl(X:Cx)(x:Str):Prop:=X.env.kindOf x=O .globalImplicit
theorem Td{E:Ue->Uf->Prop}{pins:List (Uh×Obj)}{s:Uf}{σ:St}{H:Hp}{x:Str}{u:Ue}{pos:Pos}{Q:Ue->Uf->Prop}(I:Inv X pins σ H s)(hg:Gl X x)(hm:X.mg x=O u)(h:Q u s)
  (hd:(x==("__debug__" : Str))=w6:=by decide):Ul (model X.prog X.w) X.A (eval (.Name x pos) X.env) Q E s:=
 Calls.Name_function_global I.ok.kind hg (Calls.loadGlobal_global (by rw[I.ok.glob];exact I.mod.glob.keeps I.bk) hm h) hd
theorem WQ{E:Ue->Uf->Prop}{pins:List (Uh×Obj)}{s:Uf}{σ:St}{H:Hp}{x:Str}{u:Ue}{pos:Pos}{Q:Ue->Uf->Prop}(I:Inv X pins σ H s)(hg:Gl X x)(hm:X.mg x=w4)(hv:bootBuiltins x=O u)(h:Q u s)
  (hn:x ≠ "__name__" :=by decide) (hd:(x==("__debug__" : Str))=w6:=by decide):Ul (model X.prog X.w) X.A (eval (.Name x pos) X.env) Q E s:=by
 obtain⟨mb,h1,h2⟩:=I.mod.blt;exact Calls.Name_function_global I.ok.kind hg (Calls.loadGlobal_builtin (by rw[I.ok.glob];exact I.mod.glob.keeps I.bk) hm (by rw[I.ok.blt];exact h1.keeps I.bk) ((h2 x hn).trans hv) h) hd
theorem M8{x:Str}{v:V}{u:Ue}{pos:Pos}(hg:Gl X x)(hm:X.mg x=O u)(r:RelV v u)(hd:(x==("__debug__" : Str))=w6:=by decide):PE X (.Name x pos) (tC v):=
 λ_ _ _ H _ I h=>Td I hg hm ⟨v,H,I,r,h⟩ hd
theorem BU{x:Str}{v:V}{u:Ue}{pos:Pos}(hg:Gl X x)(hm:X.mg x=w4)(hv:bootBuiltins x=O u)(r:RelV v u)(hn:x ≠ "__name__" :=by decide)(hd:(x==("__debug__" : Str))=w6:=by decide):PE X (.Name x pos) (tC v):=
 λ_ _ _ H _ I h=>WQ I hg hm hv ⟨v,H,I,r,h⟩ hn hd
variable{a b:Uj}{ta tb:TE}{pos:Pos}
def PC(X:Cx)(op:CmpOp)(a b:Uj)(t:TE):Prop:=
 ∀(pins:List (Uh×Obj))(s:Uf)(σ:St)(H:Hp)(Q:VK),Inv X pins σ H s->t σ H Q ->
  Ul (model X.prog X.w) X.A (eval a X.env) (λv s₁=>Ul (model X.prog X.w) X.A (eval b X.env) (λu s₂=>Ul (model X.prog X.w) X.A (Uo op v u) (EP X pins σ Q) X.xe s₂) X.xe s₁) X.xe s
theorem LK(b:Uj){op:CmpOp}(h:op≠.In)(h2:op≠.NotIn):behindInMarks op b=w6:=by
 have e1:(op==CmpOp.In)=w6:=by cases op<;>first|rfl|exact absurd wZ h
 have e2:(op==CmpOp.NotIn)=w6:=by cases op<;>first|rfl|exact absurd wZ h2
 cases b<;>simp[behindInMarks,e1,e2]
noncomputable def tIsN(ta:TE):TE:=λσ H Q=>ta σ H λx H1=>Q (.bl (decide (x=.non))) H1
noncomputable def F7(ta:TE):TE:=λσ H Q=>ta σ H λx H1=>Q (.bl (!decide (x=.non))) H1
theorem RelV.none_iff{x:V}{v:Ue}(r:RelV x v):(v==Value.none)=decide (x=.non):=by
 cases x with
 |non=>cases r;rfl
 |bl _=>cases r;rfl
 |int _=>obtain⟨t,rfl⟩:=r;rfl
 |str _=>obtain⟨t,rfl⟩:=r;rfl
 |byt _=>obtain⟨t,rfl⟩:=r;rfl
 |flt _=>obtain⟨t,rfl⟩:=r;rfl
 |ref _=>cases r;rfl
 |ty _=>cases r;rfl
theorem Mp{j pos'}(ha:PE X a ta):PC X .Is a (.Constant .none j pos') (tIsN ta):=by intro pins s σ H Q I h;refine thn (ha pins s σ H _ I h) λv s1 ⟨x,H1,I1,r1,q1⟩=>?_;exact Constant_none (is_none_gen ⟨.bl _,H1,I1,by rw[r1.none_iff];rfl,q1⟩)
theorem BS{j pos'}(ha:PE X a ta):PC X .IsNot a (.Constant .none j pos') (F7 ta):=by intro pins s σ H Q I h;refine thn (ha pins s σ H _ I h) λv s1 ⟨x,H1,I1,r1,q1⟩=>?_;exact Constant_none (isnot_none_gen ⟨.bl _,H1,I1,by rw[r1.none_iff];rfl,q1⟩)
noncomputable def tB(t:TE):TT:=λσ H Q=>t σ H λx H1=>∃c,x=.bl c/\Q c H1
theorem CA{op:CmpOp}{t:TE}(h:PC X op a b t)(h1:behindInMarks op b=w6:=by first|exact LK _ (by decide) (by decide)|rfl):PE X (.Compare a [op] [b] pos) t:=λpins s σ H Q I hw=>wpAny_Compare1 (h pins s σ H Q I hw) h1
theorem Mo{op:CmpOp}{t:TE}(h:PC X op a b t)(h1:behindInMarks op b=w6:=by first|exact LK _ (by decide) (by decide)|rfl):PT X (.Compare a [op] [b] pos) (tB t):=by intro pins s σ H Q I hw;refine wpAny_isTrue_Compare1 (thn (h pins s σ H _ I hw) λv s1 h1=>thn h1 λu s2 h2=>thn h2 λc s3 ⟨x,H1,I1,r1,q1⟩=>?_) h1;obtain⟨d,rfl,q⟩:=q1;cases r1;exact QZ ⟨H1,I1,q⟩
theorem Cz{e:Uj}{t:TE}(h:PE X e t)(he:∀whole,isTrue e X.env whole=(do let v ←whole;standAt e.pos;holding [v] (truthy v)):=by intro _;rfl):PT X e (tB t):=by intro pins s σ H Q I hw;refine isTrue_plain (thn (h pins s σ H _ I hw) λv s1 ⟨x,H1,I1,r1,q1⟩=>?_) (he _);obtain⟨d,rfl,q⟩:=q1;cases r1;exact QZ ⟨H1,I1,q⟩
variable{tA tB':TT}{rest:yd}
noncomputable def tAnd(t u:TT):TT:=λσ H Q=>t σ H λc H1=>if c=w5 then u σ H1 Q else Q w6 H1
noncomputable def tOr(t u:TT):TT:=λσ H Q=>t σ H λc H1=>if c=w5 then Q w5 H1 else u σ H1 Q
def tNot(t:TT):TT:=λσ H Q=>t σ H λc H1=>Q (!c) H1
theorem Aj(ha:PT X a tA):PW X (.BoolOp .And [a] pos) tA:=by
 intro wh pins s σ H Q I h;refine isTrue_and (thn (ha pins s σ H Q I h) λc s1 e=>?_);cases c with
 |true=>exact isTrue_and_nil e
 |false=>exact e
theorem Cy(ha:PT X a tA):PW X (.BoolOp .Or [a] pos) tA:=by
 intro wh pins s σ H Q I h;refine isTrue_or (thn (ha pins s σ H Q I h) λc s1 e=>?_);cases c with
 |false=>exact isTrue_or_nil e
 |true=>exact e
theorem Cw(ha:PT X a tA)(hb:PW X (.BoolOp .And (b::rest) pos) tB'):PW X (.BoolOp .And (a::b::rest) pos) (tAnd tA tB'):=by
 intro wh pins s σ H Q I h;refine isTrue_and (thn (ha pins s σ H _ I h) λc s1 ⟨H1,I1,q1⟩=>?_);cases c with
 |true=>exact hb wh pins s1 σ H1 Q I1 q1
 |false=>exact⟨H1,I1,q1⟩
theorem F6(ha:PT X a tA)(hb:PW X (.BoolOp .Or (b::rest) pos) tB'):PW X (.BoolOp .Or (a::b::rest) pos) (tOr tA tB'):=by
 intro wh pins s σ H Q I h;refine isTrue_or (thn (ha pins s σ H _ I h) λc s1 ⟨H1,I1,q1⟩=>?_);cases c with
 |true=>exact⟨H1,I1,q1⟩
 |false=>exact hb wh pins s1 σ H1 Q I1 q1
theorem Cv(ha:PT X a tA):PT X (.UnaryOp .Not a pos) (tNot tA):=by intro pins s σ H Q I h;exact isTrue_not (ha pins s σ H (λc H1=>Q (!c) H1) I h)
noncomputable def F5(ta tb:TE):TE:=λσ H Q=>ta σ H λx H1=>∃c,x=.bl c/\if c=w5 then tb σ H1 Q else Q (.bl w6) H1
noncomputable def tOrV(ta tb:TE):TE:=λσ H Q=>ta σ H λx H1=>∃c,x=.bl c/\if c=w5 then Q (.bl w5) H1 else tb σ H1 Q
noncomputable def F4(ta:TE):TE:=λσ H Q=>ta σ H λx H1=>∃c,x=.bl c/\Q (.bl (!c)) H1
theorem Cu{op}{t:TE}(h:PE X a t):PE X (.BoolOp op [a] pos) t:=λpins s σ H Q I hw=>BoolOp_one (h pins s σ H Q I hw)
theorem Ct(ha:PE X a ta)(hb:PE X (.BoolOp .And (b::rest) pos) tb):PE X (.BoolOp .And (a::b::rest) pos) (F5 ta tb):=by
 intro pins s σ H Q I h;refine BoolOp_and (thn (ha pins s σ H _ I h) λv s1 ⟨x,H1,I1,r1,q1⟩=>?_);obtain⟨c,rfl,q1⟩:=q1;cases r1;refine QZ ?_;cases c with
 |true=>exact hb pins s1 σ H1 Q I1 q1
 |false=>exact⟨.bl w6,H1,I1,rfl,q1⟩
theorem F3(ha:PE X a ta)(hb:PE X (.BoolOp .Or (b::rest) pos) tb):PE X (.BoolOp .Or (a::b::rest) pos) (tOrV ta tb):=by
 intro pins s σ H Q I h;refine BoolOp_or (thn (ha pins s σ H _ I h) λv s1 ⟨x,H1,I1,r1,q1⟩=>?_);obtain⟨c,rfl,q1⟩:=q1;cases r1;refine QZ ?_;cases c with
 |false=>exact hb pins s1 σ H1 Q I1 q1
 |true=>exact⟨.bl w5,H1,I1,rfl,q1⟩
theorem Cs(ha:PE X a ta):PE X (.UnaryOp .Not a pos) (F4 ta):=by intro pins s σ H Q I h;refine UnaryOp_ (thn (ha pins s σ H _ I h) λv s1 ⟨x,H1,I1,r1,q1⟩=>?_);obtain⟨c,rfl,q1⟩:=q1;cases r1;exact not_of (QZ ⟨.bl (!c),H1,I1,rfl,q1⟩)
noncomputable def tIf(t:TT)(ta tb:TE):TE:=λσ H Q=>t σ H λc H1=>if c=w5 then ta σ H1 Q else tb σ H1 Q
theorem qE{c:Uj}(hc:PT X c tA)(ha:PE X a ta)(hb:PE X b tb):PE X (.IfExp c a b pos) (tIf tA ta tb):=by
 intro pins s σ H Q I h;refine wpAny_IfExp (thn (hc pins s σ H _ I h) λd s1 ⟨H1,I1,q1⟩=>?_);cases d with
 |true=>exact ha pins s1 σ H1 Q I1 q1
 |false=>exact hb pins s1 σ H1 Q I1 q1
end
def SqL(K:Frag)(H:Hp)(a:Uh)(xs:List V):Prop:=
 Rd H a (.lst xs) ∨
  ∃(o:Obj)(its:Array Ue)(n:Nat),K.lookup a=O o/\o.cls=.type "list" /\ o.dict=w4/\o.data=.seq its n/\its.size<=Uk/\Vals xs its.toList
def SqT(K:Frag)(H:Hp)(a:Uh)(xs:List V):Prop:=
 Rd H a (.tup xs) ∨
  ∃(o:Obj)(its:Array Ue)(n:Nat),K.lookup a=O o/\o.cls=.type "tuple" /\ o.data=.seq its n/\its.size<=Uk/\Vals xs its.toList
noncomputable def absV:Ue->Option V
 |.none=>O .non
 |.bool b=>O (.bl b)
 |.int i _=>O (.int i)
 |.str x _=>O (.str x)
 |.bytes b _=>O (.byt b)
 |.float b _=>O (.flt b)
 |.ref a=>O (.ref a)
 |.type n=>O (.ty n)
 |_=>w4
theorem RelV.abs{x:V}{u:Ue}(r:RelV x u):absV u=O x:=by
 cases x with
 |non=>cases r;rfl
 |bl _=>cases r;rfl
 |int _=>obtain⟨t,rfl⟩:=r;rfl
 |str _=>obtain⟨t,rfl⟩:=r;rfl
 |byt _=>obtain⟨t,rfl⟩:=r;rfl
 |flt _=>obtain⟨t,rfl⟩:=r;rfl
 |ref _=>cases r;rfl
 |ty _=>cases r;rfl
theorem RelV.inj{x y:V}{u:Ue}(r:RelV x u)(q:RelV y u):x=y:=Jf (r.abs.symm.trans q.abs)
theorem Vals.inj:∀{xs ys:List V}{us:ya},Vals xs us->Vals ys us->xs=ys
 |_,_,_,.nil,.nil=>rfl
 |_,_,_,.cons r t,.cons r' t'=>by rw[r.inj r',Vals.inj t t']
section
variable{X:Cx}{pins:List (Uh×Obj)}{σ:St}{H:Hp}{s:Uf}{a:Uh}{xs ys:List V}
theorem SqL.of{K:Frag}(h:H a=O (.lst xs)):SqL K H a xs:=.inl (.inl h)
theorem SqT.of{K:Frag}(h:H a=O (.tup xs)):SqT K H a xs:=.inl (.inl h)
theorem Inv.list(I:Inv X pins σ H s)(h:SqL X.K H a xs):∃its:ya,Vals xs its/\PlainL s.heap a its.toArray/\xs.length<=Uk:=by
 rcases h with h|⟨o,its,n,hk,hc,hd,hs,hz,r⟩
 .obtain⟨z,its,n,r,e⟩:=h.ok I.hok
  exact⟨its,r,⟨_,n,e,rfl,rfl,rfl⟩,z⟩
 .refine⟨its.toList,r,⟨o,n,I.kIn a o hk,hc,hd,by simpa using hs⟩,?_⟩
  have e:=r.length;simp only[JE]at e;omega
theorem Inv.tuple(I:Inv X pins σ H s)(h:SqT X.K H a xs):∃its:ya,Vals xs its/\IsTup s.heap a its.toArray/\xs.length<=Uk:=by
 rcases h with h|⟨o,its,n,hk,hc,hs,hz,r⟩
 .obtain⟨z,its,r,p⟩:=h.ok I.hok
  exact⟨its,r,p,z⟩
 .refine⟨its.toList,r,⟨o,I.kIn a o hk,hc,n,by simpa using hs⟩,?_⟩
  have e:=r.length;simp only[JE]at e;omega
theorem Inv.list_inj(I:Inv X pins σ H s)(h:SqL X.K H a xs)(h':SqL X.K H a ys):xs=ys:=by
 obtain⟨its,r,⟨o,n,e,_,_,d⟩,_⟩:=I.list h;obtain⟨its',r',⟨o',n',e',_,_,d'⟩,_⟩:=I.list h';rw[e]at e';cases e';rw[d]at d';injection d' with d1 _
 have:its=its':=by simpa using congrArg Array.toList d1
 subst this;exact r.inj r'
theorem Inv.tuple_inj(I:Inv X pins σ H s)(h:SqT X.K H a xs)(h':SqT X.K H a ys):xs=ys:=by
 obtain⟨its,r,⟨o,e,_,n,d⟩,_⟩:=I.tuple h;obtain⟨its',r',⟨o',e',_,n',d'⟩,_⟩:=I.tuple h';rw[e]at e';cases e';rw[d]at d';injection d' with d1 _
 have:its=its':=by simpa using congrArg Array.toList d1
 subst this;exact r.inj r'
end
noncomputable abbrev Cx.wish(X:Cx)(E:Ue->Uf->Prop):Cx:={X with xe:=E}
noncomputable abbrev Cx.nox(X:Cx):Cx:=X.wish λ_ _=>False
theorem Cx.Ok.wish{X:Cx}(ok:X.Ok)(E:Ue->Uf->Prop):(X.wish E).Ok:=
 ⟨ok.mod,ok.kind,ok.glob,ok.blt,ok.above,ok.inj,ok.has,ok.cab,ok.hd,ok.frames,ok.stk,ok.exf,ok.bs,ok.bsz,ok.noex,ok.exfs,ok.funs,ok.frf⟩
theorem Cx.Ok.unwish{X:Cx}{E:Ue->Uf->Prop}(ok:(X.wish E).Ok):X.Ok:=
 ⟨ok.mod,ok.kind,ok.glob,ok.blt,ok.above,ok.inj,ok.has,ok.cab,ok.hd,ok.frames,ok.stk,ok.exf,ok.bs,ok.bsz,ok.noex,ok.exfs,ok.funs,ok.frf⟩
section
variable{X:Cx}{pins:List (Uh×Obj)}{σ:St}{H:Hp}{s:Uf}{E:Ue->Uf->Prop}
theorem Inv.wish(I:Inv X pins σ H s)(E:Ue->Uf->Prop):Inv (X.wish E) pins σ H s:=⟨I.ok.wish E,I.os,I.bare,I.base,I.loc,I.cell,I.free,I.freeC,I.pin,I.hok,I.len⟩
theorem Inv.unwish(I:Inv (X.wish E) pins σ H s):Inv X pins σ H s:=⟨I.ok.unwish,I.os,I.bare,I.base,I.loc,I.cell,I.free,I.freeC,I.pin,I.hok,I.len⟩
theorem SP.unwish{D:Ends}{f:Flow}{s':Uf}(h:SP (X.wish E) pins D f s'):SP X pins D f s':=by
 cases f with
 |next=>obtain⟨σ',H',I,q⟩:=h;exact⟨σ',H',I.unwish,q⟩
 |brk=>obtain⟨σ',H',I,q⟩:=h;exact⟨σ',H',I.unwish,q⟩
 |cont=>obtain⟨σ',H',I,q⟩:=h;exact⟨σ',H',I.unwish,q⟩
 |ret u=>obtain⟨v,σ',H',I,r,q⟩:=h;exact⟨v,σ',H',I.unwish,r,q⟩
theorem PSs.nox{st:List Stmt}{t:TS}(h:PSs X.nox st t):PSs X st t:=λpins s σ H D I hw=>
 QI (h pins s σ H D (I.wish _) hw) (λ_ _ q=>q.unwish) λ_ _ z=>False.elim z
end
section
variable{X:Cx}{st:Stmt}{rest:List Stmt}{t u:TS}{e:Uj}{te:TE}{pos:Pos}
def F2:TS:=λD σ H=>D.nx σ H
def W1(t u:TS):TS:=λD σ H=>t {D with nx:=u D} σ H
theorem Ai:PSs X [] F2:=λ_ _ σ H _ I h=>wpAny_execs_nil ⟨σ,H,I,h⟩
theorem RI(h1:PS X st t)(h2:PSs X rest u):PSs X (st::rest) (W1 t u):=by
 intro pins s σ H D I h;refine wpAny_execs_cons (thn (h1 pins s σ H {D with nx:=u D} I h) λf s1 q=>?_);cases f with
 |next=>obtain⟨σ',H',I',q⟩:=q;exact h2 pins s1 σ' H' D I' q
 |ret v=>exact q
 |brk=>exact q
 |cont=>exact q
theorem RC(h1:PS X st t):PSs X [st] t:=by
 intro pins s σ H D I h;refine wpAny_execs_cons (thn (h1 pins s σ H D I h) λf s1 q=>?_);cases f with
 |next=>exact wpAny_execs_nil q
 |ret v=>exact q
 |brk=>exact q
 |cont=>exact q
theorem Inv.quiet{pins:List (Uh×Obj)}{σ:St}{H:Hp}{s:Uf}(I:Inv X pins σ H s):interactive X.env=w6:=by simp[interactive,I.ok.kind]
def RY(te:TE):TS:=λD σ H=>te σ H λ_ H1=>D.nx σ H1
theorem VM(he:PE X e te)(hs:swapsWith e w4 pos.line X.env=pure w6:=by rfl):PS X (.Expr e pos) (RY te):=by intro pins s σ H D I h;exact wpAny_Expr_any (thn (he pins s σ H _ I h) λv s1 ⟨x,H1,I1,r1,q1⟩=>⟨σ,H1,I1,q1⟩) I.quiet hs
def tRet(te:TE):TS:=λD σ H=>te σ H D.rt
theorem Oq(he:PE X e te):PS X (.Return (O e) pos) (tRet te):=by intro pins s σ H D I h;exact wpAny_Return_some (thn (he pins s σ H _ I h) λv s1 ⟨x,H1,I1,r1,q1⟩=>⟨x,σ,H1,I1,r1,q1⟩)
noncomputable def tIfS(c:TT)(t u:TS):TS:=λD σ H=>c σ H λb H1=>if b=w5 then t D σ H1 else u D σ H1
theorem ER{c:Uj}{a b:List Stmt}{tc:TT}(hc:PT X c tc)(ha:PSs X a t)(hb:PSs X b u):PS X (.If c a b pos) (tIfS tc t u):=by
 intro pins s σ H D I h;refine wpAny_If (thn (hc pins s σ H _ I h) λd s1 ⟨H1,I1,q1⟩=>?_);cases d with
 |true=>exact ha pins s1 σ H1 D I1 q1
 |false=>exact hb pins s1 σ H1 D I1 q1
end
abbrev TG:=V->St->Hp->(St->Hp->Prop)->Prop
abbrev TGs:=List V->St->Hp->(St->Hp->Prop)->Prop
def PG(X:Cx)(target:Uj)(t:TG):Prop:=
 ∀(pins:List (Uh×Obj))(s:Uf)(σ:St)(H:Hp)(v:V)(u:Ue)(Q:St->Hp->Prop),Inv X pins σ H s->RelV v u->t v σ H Q ->
  Ul (model X.prog X.w) X.A (assign target X.env u) (λ_ s'=>∃σ' H',Inv X pins σ' H' s'/\Q σ' H') X.xe s
def PGs(X:Cx)(ts:yd)(t:TGs):Prop:=
 ∀(pins:List (Uh×Obj))(s:Uf)(σ:St)(H:Hp)(vs:List V)(us:ya)(Q:St->Hp->Prop),Inv X pins σ H s->Vals vs us->t vs σ H Q ->
  Ul (model X.prog X.w) X.A (assignInOrder ((UC ts X.env).map (·.2)) us) (λ_ s'=>∃σ' H',Inv X pins σ' H' s'/\Q σ' H') X.xe s
abbrev TIp:=V->V->Hp->VK->Prop
def PIp(X:Cx)(op:Operator)(t:TIp):Prop:=
 ∀(pins:List (Uh×Obj))(s:Uf)(σ:St)(H:Hp)(x y:V)(v u:Ue)(Q:VK),Inv X pins σ H s->RelV x v->RelV y u->t x y H Q ->
  Ul (model X.prog X.w) X.A (inplaceOp op v u) (EP X pins σ Q) X.xe s
section
variable{X:Cx}{pos:Pos}
def Rg(i:Nat):TG:=λv σ H Q=>Q (σ.set i (O v)) H
theorem Pr{i:Nat}{x:Str}(hN:X.N.Nodup)(hi:X.N[i]?=O x)(hx:Loc X.env.scope x)(hf:X.fn x=w5∨X.env.scope.names.lookup x=O .local:=by first|exact .inl rfl|exact .inr rfl|assumption):PG X (.Name x pos) (Rg i):=by intro pins s σ H v u Q I r h;exact wpAny_assign_Name (RJ I hN hi hx r (λs' I'=>⟨_,H,I',h⟩) hf)
def gNil:TGs:=λvs σ H Q=>vs=[]/\Q σ H
noncomputable def Oh(t:TG)(u:TGs):TGs:=λvs σ H Q=>∃v r,vs=v::r/\t v σ H λσ' H'=>u r σ' H' Q
theorem M7:PGs X [] gNil:=by intro pins s σ H vs us Q I r h;obtain⟨e,h⟩:=h;subst e;cases r;exact assignInOrder_nil ⟨σ,H,I,h⟩
theorem O3{e:Uj}{es:yd}{t:TG}{u:TGs}(h1:PG X e t)(h2:PGs X es u)
  (hs:(UC (e::es) X.env).map (·.2)=assign e X.env::(UC es X.env).map (·.2):=by rfl):PGs X (e::es) (Oh t u):=by
 intro pins s σ H vs us Q I r h;obtain⟨v,vr,e1,h⟩:=h;subst e1;cases r with
 |cons r rr=>rw[hs];refine assignInOrder_cons (thn (h1 pins s σ H _ _ _ I r h) λ_ s1 ⟨σ1,H1,I1,q1⟩=>?_);exact h2 pins s1 σ1 H1 _ _ Q I1 rr q1
noncomputable def gTup(K:Frag)(n:Nat)(t:TGs):TG:=λv σ H Q=>∃a xs,v=.ref a/\SqT K H a xs/\xs.length=n/\t xs σ H Q
theorem Mn{es:yd}{k:Nat}{t:TGs}{n:Nat}(hc:X.calm=w5)(h:PGs X es t)
  (hn:(UC es X.env).length=n:=by rfl) (hst:(UC es X.env).findIdx? (·.1)=w4:=by rfl):PG X (.Tuple es k pos) (gTup X.K n t):=by
 intro pins s σ H v u Q I r hw;obtain⟨a,xs,e1,hq,hl,hw⟩:=hw;subst e1;cases r;obtain⟨its,rv,ht,hz⟩:=I.tuple hq;refine assign_Tuple_tuple (I.ok.hd hc) ht (by simp[hn,←hl,rv.length]) hst λh' hx=>?_
 have I1:Inv X pins σ H {s with heap:=h'}:=I.kept (t':=s.toks) λb o e=>hx b o (QM (Qf e)) e;exact h pins _ σ H xs _ Q I1 (by simpa using rv) hw
noncomputable def tAsg(te:TE)(g:TG):TS:=λD σ H=>te σ H λx H1=>g x σ H1 D.nx
theorem Op{tg e:Uj}{te:TE}{g:TG}(he:PE X e te)(hg:PG X tg g)(hs:swapsWithSole [tg] e pos.line X.env=pure w6:=by rfl)(hw:swappedStores [tg] e X.env=pure w4:=by rfl)
  (h1:(UC [tg] X.env).map (·.2)=[assign tg X.env]:=by rfl):PS X (.Assign [tg] e pos) (tAsg te g):=by
 intro pins s σ H D I h;refine wpAny_Assign_stores (thn (he pins s σ H _ I h) λv s1 ⟨x,H1,I1,r1,q1⟩=>?_) hs hw;rw[h1];exact thn (hg pins s1 σ H1 x v _ I1 r1 q1) λ_ s2 q=>q
theorem Oo{i:Nat}{x:Str}{e:Uj}{te:TE}{pos':Pos}(hN:X.N.Nodup)(hi:X.N[i]?=O x)(hx:Loc X.env.scope x)(he:PE X e te)(hs:swapsWith e (O (.Name x pos')) pos.line X.env=pure w6:=by rfl)(hf:X.fn x=w5∨X.env.scope.names.lookup x=O .local:=by first|exact .inl rfl|exact .inr rfl|assumption) :
  PS X (.Assign [.Name x pos'] e pos) (tAsg te (Rg i)):=by
 intro pins s σ H D I h;refine wpAny_Assign_Name (thn (he pins s σ H _ I h) λv s1 ⟨y,H1,I1,r1,q1⟩=>?_) hs;exact RJ I1 hN hi hx r1 (λs2 I2=>⟨_,H1,I2,q1⟩) hf
noncomputable def tAug(i:Nat)(te:TE)(ti:TIp):TS:=λD σ H=>∃x,σ[i]?=O (O x)/\te σ H λy H1=>ti x y H1 λz H2=>D.nx (σ.set i (O z)) H2
theorem Cr{i:Nat}{x:Str}{e:Uj}{te:TE}{op:Operator}{ti:TIp}{pos':Pos}(hN:X.N.Nodup)(hi:X.N[i]?=O x)(hx:Loc X.env.scope x)(he:PE X e te)(ho:PIp X op ti)(hf:X.fn x=w5∨X.env.scope.names.lookup x=O .local:=by first|exact .inl rfl|exact .inr rfl|assumption) :
  PS X (.AugAssign (.Name x pos') op e pos) (tAug i te ti):=by
 intro pins s σ H D I h;obtain⟨v,e1,h⟩:=h;obtain⟨m,hn,hl⟩:=I.loc;have vis:Vis X.env.scope x:=by rcases hx with k|k;exact .inl k;exact .inr (.inl k)
 obtain⟨u,r,l⟩:=hl i x v hi e1 vis;refine wpAny_AugAssign_Name ?_;have go:Ul (model X.prog X.w) X.A (eval e X.env) (λw s₂=>Ul (model X.prog X.w) X.A (inplaceOp op u w) (λr s₃=>Ul (model X.prog X.w) X.A (storeName X.env x r) (λ_=>SP X pins D .next) X.xe s₃) X.xe s₂) X.xe s:=by refine thn (he pins s σ H _ I h) λw s1 ⟨y,H1,I1,r1,q1⟩=>?_;refine thn (ho pins s1 σ H1 v y u w _ I1 r r1 q1) λz s2 ⟨zv,H2,I2,r2,q2⟩=>?_;exact RJ I2 hN hi hx r2 (λs3 I3=>⟨_,H2,I3,q2⟩) hf
 rcases l with ⟨hk,hm⟩|⟨hk,c,hc,hcell⟩
 .exact wpAny_loadName_local I.ok.kind hk hn hm go
 .rcases hk with hk|hk
  .exact wpAny_loadName_cell I.ok.kind hk hc hcell go
  .rcases hx with k|k
   .have:X.env.scope.names.lookup x=O .free:=hk
    rw[k]at this;cases this
   .have:X.env.scope.names.lookup x=O .free:=hk
    rw[k]at this;cases this
end
section
variable{X:Cx}{pos:Pos}
noncomputable def Cq(c:TT)(tb:TS):TS:=λD σ H=>∃W:Nat->St->Hp->Prop,(∃m,W m σ H)/\∀m σ H,W m σ H ->
 c σ H λb H1=>if b=w5 then ∃N:St->Hp->Prop,(∀σ' H',N σ' H'->∃m',m'<m/\W m' σ' H')/\tb {D with nx:=N,ct:=N,bk:=D.nx} σ H1 else D.nx σ H1
theorem qD{c:Uj}{body:List Stmt}{tc:TT}{tb:TS}(hp:PassesOwn (model X.prog X.w) X.A X.env X.xe)(hc:PT X c tc)(hb:PSs X body tb):PS X (.While c body [] pos) (Cq tc tb):=by
 intro pins s σ H D I h;obtain⟨W,⟨m0,w0⟩,turn⟩:=h;refine wpAny_While (codeAny_whileLoop (λn s'=>∃σ' H',Inv X pins σ' H' s'/\W n σ' H') ?_ m0 ⟨σ,H,I,w0⟩);rintro n s1 ⟨σ1,H1,I1,w1⟩;refine Jn hp (thn (hc pins s1 σ1 H1 _ I1 (turn n σ1 H1 w1)) λb s2 ⟨H2,I2,q2⟩=>?_);cases b with
 |true=>
  obtain⟨N,hN,q2⟩:=q2;rw[Qm wZ];refine Jn hp (thn (hb pins s2 σ1 H2 _ I2 q2) λf s3 q3=>?_);cases f with
  |next=>obtain⟨σ3,H3,I3,n3⟩:=q3;obtain⟨m',hm,w3⟩:=hN σ3 H3 n3;exact⟨m',hm,σ3,H3,I3,w3⟩
  |cont=>obtain⟨σ3,H3,I3,n3⟩:=q3;obtain⟨m',hm,w3⟩:=hN σ3 H3 n3;exact⟨m',hm,σ3,H3,I3,w3⟩
  |brk=>exact q3
  |ret v=>exact q3
 |false=>rw[Qw JI];exact wpAny_execs_nil ⟨σ1,H2,I2,q2⟩
end
structure It where
 go:Nat->Hp->Prop
 yld:Nat->Hp->V->Hp->Prop
 stop:Nat->Hp->Prop
def Zz(X:Cx)(pins:List (Uh×Obj))(H:Hp)(b:Uh):Prop:=
 H b=w4/\b≠X.env.locals/\b∉X.fs/\(b∈X.ex∨X.s₀.heap.objs.size<=b)/\(∀x c,X.env.cells.lookup x=O c->c≠b)/\∀p∈X.pn++pins,p.1≠b
theorem Inv.fpOk{X:Cx}{pins:List (Uh×Obj)}{σ:St}{H H':Hp}{s:Uf}{b:Uh}(I:Inv X pins σ H s)(hb:s.heap.objs.size<=b)(hn:H' b=w4):Zz X pins H' b:=by
 refine⟨hn,JK (QE I.lt hb),I.nofs hb,.inr (QH I.sz hb),λx c e z=>?_,λp hp z=>?_⟩
 .obtain⟨v,q⟩:=I.cell x c e
  exact absurd (QE q.lt (by rw[z];exact hb)) (Jy _)
 .exact absurd (QE (Qf (I.pin p hp).1) (by rw[z];exact hb)) (Jy _)
structure Turn(P:Ug)(w:World)(K:Frag)(tg:Uj)(J:It)(fp:yf)(it:Uh)(tn:Nat->Heap->Prop):Prop where
 mem:it∈fp
 obj:∀i h,tn i h->∀b∈fp,∃o,h.get? b=O o/\∀v,o.data≠.cell v
 keep:∀i h h',tn i h->(∀b∈fp,∀o,h.get? b=O o->h'.get? b=O o)->tn i h'
 item:∀(X:Cx),X.prog=P->X.w=w->X.K=K->X.calm=w5->∀(i:Nat)(pins:List (Uh×Obj))(s:Uf)(σ:St)(H:Hp)(E:Ue->Uf->Prop),Inv X pins σ H s->(∀b∈fp,Zz X pins H b)->tn i s.heap->J.go i H ->
  Ul (model P w) X.A (pyNext (.ref it)) (λr s1=>∃u,r=O u /\
   Ul (model P w) X.A (letOwnedTupleGo tg (.ref it) u) (λ_ s2=>∃x H',Inv X pins σ H' s2/\RelV x u/\J.yld i H x H'/\tn (i+1) s2.heap/\∀b∈fp,H' b=w4) E s1) E s
 done:∀(X:Cx),X.prog=P->X.w=w->X.K=K->X.calm=w5->∀(i:Nat)(pins:List (Uh×Obj))(s:Uf)(σ:St)(H:Hp)(E:Ue->Uf->Prop),Inv X pins σ H s->(∀b∈fp,Zz X pins H b)->tn i s.heap->J.stop i H ->
  Ul (model P w) X.A (pyNext (.ref it)) (λr s1=>r=w4/\Inv X pins σ H s1) E s
 self:∀(A:Around)(i:Nat)(s:Uf)(Q:Ue->Uf->Prop)(E:Ue->Uf->Prop),tn i s.heap->Q (.ref it) s->Ul (model P w) A (pyIter (.ref it)) Q E s
abbrev TI:=St->Hp->(It->Hp->Prop)->Prop
def PIE(X:Cx)(pins:List (Uh×Obj))(σ:St)(tg:Uj)(R:It->Hp->Prop)(itv:Ue)(s2:Uf):Prop:=
 ∃(it:Uh)(fp:yf)(tn:Nat->Heap->Prop)(J:It)(H':Hp),itv=.ref it/\Inv X pins σ H' s2/\Turn X.prog X.w X.K tg J fp it tn/\tn 0 s2.heap/\(∀b∈fp,Zz X pins H' b)/\R J H'
def PI(X:Cx)(tg iter:Uj)(wi:TI):Prop:=
 ∀(pins:List (Uh×Obj))(s:Uf)(σ:St)(H:Hp)(R:It->Hp->Prop),Inv X pins σ H s->wi σ H R ->
  Ul (model X.prog X.w) X.A (eval iter X.env) (λv s1=>Ul (model X.prog X.w) X.A (pyIter v) (PIE X pins σ tg R) X.xe s1) X.xe s
theorem RX{M:Model}{A:Around}{E:Ue->Uf->Prop}{s:Uf}{tg:Uj}{it:Uh}{u:Ue}{o:Obj}{n:String}{vs:Array Ue}{Q:Unit->Uf->Prop}(ho:s.heap.get? it=O o)(hc:o.cls=.type n)(hd:o.data=.fields vs)
  (hn:["enumerate", "zip", "dict_itemiterator", "dict_reverseitemiterator", "odict_iterator", "itertools.zip_longest", "itertools.pairwise"].contains n=w6) (hQ:Q () s):Ul M A (letOwnedTupleGo tg (.ref it) u) Q E s:=by
 unfold letOwnedTupleGo
 cases tg<;>first
  |exact Qj hQ
  |(cases u<;>first
    |exact Qj hQ
    |(
      refine Qd (wpAny_load ho ?_);rw[hc,hd];show Ul M A (if(["enumerate", "zip", "dict_itemiterator", "dict_reverseitemiterator", "odict_iterator", "itertools.zip_longest", "itertools.pairwise"].contains n&&vs[0]?==O (rawInt _))=w5 then _ else _) Q E s;rw[Qw (by intro h;rw[hn,JT]at h;cases h)];exact Qj hQ))
noncomputable def Itl(K:Frag)(a:Uh):It:=
 ⟨λi H=>∃xs x,SqL K H a xs/\xs[i]?=O x,λi H x H'=>H'=H/\∀xs,SqL K H a xs->xs[i]?=O x,λi H=>∃xs,SqL K H a xs/\xs.length<=i⟩
noncomputable def Itt(K:Frag)(a:Uh):It:=
 ⟨λi H=>∃xs x,SqT K H a xs/\xs[i]?=O x,λi H x H'=>H'=H/\∀xs,SqT K H a xs->xs[i]?=O x,λi H=>∃xs,SqT K H a xs/\xs.length<=i⟩
noncomputable def Itr(lo:Int)(n:Nat):It:=⟨λi _=>i<n,λi H x H'=>H'=H/\x=.int (lo+i),λi _=>n<=i⟩
theorem kM{P:Ug}{w:World}{K:Frag}{tg:Uj}(a it:Uh):Turn P w K tg (Itl K a) [it] it (λi h=>h.IsListIter it a i) where
 mem:=by simp
 obj:=λi h st b hb=>by
  have e:b=it:=by simpa using hb
  subst e;obtain⟨o,e,c,d⟩:=st;exact⟨o,e,λv z=>by rw[d]at z;cases z⟩
 keep:=λi h h' st k=>st.at λo e=>k it (by simp) o e
 item:=by
  intro X hP hw hK hc i pins s σ H E I hf st hg;subst hP hw hK;obtain⟨xs,x,hq,hx⟩:=hg;obtain⟨its,rv,p,hz⟩:=I.list hq;obtain⟨u,hu,ru⟩:=rv.get hx;obtain⟨f0,f1,f2,f3,f4,f5⟩:=hf it (by simp);refine wpAny_pyNext_list_item st p.isList (x:=u) (by simpa using hu) λh' st' sb=>?_
  have I1:Inv X pins σ H {s with heap:=h'}:=I.turned (t':=s.toks) (λb o hb e=>(sb.2 b hb).trans e) f0 f1 f3 f4 f5;obtain⟨o,e,c,d⟩:=id st';exact⟨u,rfl,RX (s:={s with heap:=h'}) e c d (by decide) ⟨x,H,I1,ru,⟨rfl,λys hy=>by rw[I.list_inj hy hq];exact hx⟩,st',λb hb=>(hf b hb).1⟩⟩
 done:=by intro X hP hw hK hc i pins s σ H E I hf st hg;subst hP hw hK;obtain⟨xs,hq,hx⟩:=hg;obtain⟨its,rv,p,hz⟩:=I.list hq;obtain⟨f0,f1,f2,f3,f4,f5⟩:=hf it (by simp);have hl:=rv.length;exact wpAny_pyNext_list_end (I.ok.hd hc) st p.isList (by simp;omega) λh' eb=>⟨rfl,I.turned (t':=s.toks) (λb o hb e=>eb b o hb e) f0 f1 f3 f4 f5⟩
 self:=λ_ _ _ _ _ st h=>wpAny_pyIter_listiter st h
theorem xL{P:Ug}{w:World}{K:Frag}{tg:Uj}(a it:Uh):Turn P w K tg (Itt K a) [it] it (λi h=>h.IsTupleIter it a i) where
 mem:=by simp
 obj:=λi h st b hb=>by
  have e:b=it:=by simpa using hb
  subst e;obtain⟨o,e,c,d⟩:=st;exact⟨o,e,λv z=>by rw[d]at z;cases z⟩
 keep:=λi h h' st k=>st.at λo e=>k it (by simp) o e
 item:=by
  intro X hP hw hK hc i pins s σ H E I hf st hg;subst hP hw hK;obtain⟨xs,x,hq,hx⟩:=hg;obtain⟨its,rv,p,hz⟩:=I.tuple hq;obtain⟨u,hu,ru⟩:=rv.get hx;obtain⟨f0,f1,f2,f3,f4,f5⟩:=hf it (by simp);refine wpAny_pyNext_tuple_item st (show s.heap.IsTuple a its.toArray from p) (x:=u) (by simpa using hu) λh' st' sb=>?_
  have I1:Inv X pins σ H {s with heap:=h'}:=I.turned (t':=s.toks) (λb o hb e=>(sb.2 b hb).trans e) f0 f1 f3 f4 f5;obtain⟨o,e,c,d⟩:=id st';exact⟨u,rfl,RX (s:={s with heap:=h'}) e c d (by decide) ⟨x,H,I1,ru,⟨rfl,λys hy=>by rw[I.tuple_inj hy hq];exact hx⟩,st',λb hb=>(hf b hb).1⟩⟩
 done:=by intro X hP hw hK hc i pins s σ H E I hf st hg;subst hP hw hK;obtain⟨xs,hq,hx⟩:=hg;obtain⟨its,rv,p,hz⟩:=I.tuple hq;obtain⟨f0,f1,f2,f3,f4,f5⟩:=hf it (by simp);have hl:=rv.length;exact wpAny_pyNext_tuple_end (I.ok.hd hc) st (show s.heap.IsTuple a its.toArray from p) (by simp;omega) λh' eb=>⟨rfl,I.turned (t':=s.toks) (λb o hb e=>eb b o hb e) f0 f1 f3 f4 f5⟩
 self:=λ_ _ _ _ _ st h=>wpAny_pyIter_tupleiter st h
theorem xK{P:Ug}{w:World}{K:Frag}{tg:Uj}(it:Uh)(lo:Int)(n:Nat):Turn P w K tg (Itr lo n) [it] it (λi h=>IsRangeIter h it (lo+(i:Nat)*1) ((n:Int)-(i:Nat)) 1) where
 mem:=by simp
 obj:=λi h st b hb=>by
  have e:b=it:=by simpa using hb
  subst e;exact⟨_,st,λv z=>by have z':Data.fields _=Data.cell v:=z;cases z'⟩
 keep:=λi h h' st k=>k it (by simp) _ st
 item:=by
  intro X hP hw hK hc i pins s σ H E I hf st hg;subst hP hw hK;obtain⟨f0,f1,f2,f3,f4,f5⟩:=hf it (by simp);have W:=Walks.range (prog:=X.prog) (w:=X.w) (I.ok.hd hc) it lo 1 n;refine W.item i s _ _ hg st λv h' tk hv st' kk=>?_
  obtain⟨t,rfl⟩:=hv;have I1:Inv X pins σ H {s with heap:=h',toks:=tk}:=I.turned (λb o hb e=>kk b o (by simpa using hb) e) f0 f1 f3 f4 f5;refine⟨_,rfl,RX (s:={s with heap:=h',toks:=tk}) (n:= "range_iterator") st' wZ wZ (by decide) ⟨.int (lo+i),H,I1,⟨t,?_⟩,⟨rfl,rfl⟩,st',λb hb=>(hf b hb).1⟩⟩;rw[Int.mul_one]
 done:=by intro X hP hw hK hc i pins s σ H E I hf st hg;subst hP hw hK;obtain⟨f0,f1,f2,f3,f4,f5⟩:=hf it (by simp);exact wpAny_pyNext_range_end (I.ok.hd hc) st (by have:n<=i:=hg;omega) λh' eb=>⟨rfl,I.turned (t':=s.toks) (λb o hb e=>eb b o hb e) f0 f1 f3 f4 f5⟩
 self:=λ_ _ _ _ _ st h=>wpAny_pyIter_rangeiter st h
section
variable{X:Cx}{tg:Uj}
theorem LJ{pins:List (Uh×Obj)}{σ:St}{H:Hp}{s:Uf}{R:It->Hp->Prop}{E:Ue->Uf->Prop}{lo hi:Int}{t u v:Tok}{tk:Nat}(I:Inv X pins σ H s)(h1 : -(2 ^ 62)<=lo)(h2:lo<2 ^ 62)(h3 : -(2 ^ 62)<=hi)(h4:hi<2 ^ 62)
  (q:R (Itr lo (hi-lo).toNat) H):Ul (model X.prog X.w) X.A (pyIter (.ref s.heap.objs.size)) (PIE X pins σ tg R) E {s with heap:=s.heap.push {cls:=.type "range", data:=.fields #[.int lo t,.int hi u,.int 1 v]},toks:=tk}:=by
 refine wpAny_pyIter_range (IsRange.new ..) (small_one h1 h2 h3 h4) ?_;have I1:Inv X pins σ H {s with heap:=s.heap.push {cls:=.type "range", data:=.fields #[.int lo t,.int hi u,.int 1 v]},toks:=tk}:=I.kept λb o e=>Qe _ e
 refine⟨(s.heap.push {cls:=.type "range", data:=.fields #[.int lo t,.int hi u,.int 1 v]}).objs.size,[(s.heap.push {cls:=.type "range", data:=.fields #[.int lo t,.int hi u,.int 1 v]}).objs.size],_,_,H,rfl,
  I1.kept (t':=tk) λb o e=>Qe _ e,xK _ lo (hi-lo).toNat,?_,λb hb=>?_,q⟩
 .have e1:lo+((0:Nat):Int)*1=lo:=by simp
  have e2:(((hi-lo).toNat:Nat):Int)-((0:Nat):Int)=Builtin.Range.rangeSize lo hi 1:=by rw[rangeSize_one];split<;>omega
  show IsRangeIter _ _ (lo+((0:Nat):Int)*1) ((((hi-lo).toNat:Nat):Int)-((0:Nat):Int)) 1;rw[e1,e2];exact QD _ wZ
 .have e:b=(s.heap.push {cls:=.type "range", data:=.fields #[.int lo t,.int hi u,.int 1 v]}).objs.size:=by simpa using hb
  subst e;exact I1.fpOk (Qq _) (I1.hok.fresh (Qq _))
noncomputable def EQ(ta:TA):TI:=λσ H R=>ta σ H λvs H1=>∃j:Int,vs=[.int j] /\ -(2 ^ 62)<=j/\j<2 ^ 62/\R (Itr 0 j.toNat) H1
noncomputable def EO(ta:TA):TI:=λσ H R=>ta σ H λvs H1=>∃i j:Int,vs=[.int i,.int j]/\(-(2 ^ 62)<=i/\i<2 ^ 62 /\ -(2 ^ 62)<=j/\j<2 ^ 62)/\R (Itr i (j-i).toNat) H1
theorem xF{a:Uj}{ta:TA}{p pos:Pos}(hg:Gl X "range")(hm:X.mg "range" = w4)(ha:PA X [a] ta)(hs:Um [a] X.env=[(w6,eval a X.env)]:=by rfl):PI X tg (.Call (.Name "range" p) [a] [] pos) (EQ ta):=by
 intro pins s σ H R I h;refine Call_ (WQ I hg hm boot_range (Jx (thn (ha pos pins s σ H _ I h) λus s1 ⟨vs,H1,I1,r1,q1⟩=>?_) hs wZ));obtain⟨j,e,q1,q2,q⟩:=q1;subst e;cases r1 with
 |cons r rr=>cases rr;obtain⟨t,rfl⟩:=r;exact call_range_1 (LJ I1 (by omega) (by omega) q1 q2 (by simpa using q))
theorem xE{a b:Uj}{ta:TA}{p pos:Pos}(hg:Gl X "range")(hm:X.mg "range" = w4)(ha:PA X [a,b] ta)(hs:Um [a,b] X.env=[(w6,eval a X.env),(w6,eval b X.env)]:=by rfl)(hs2:Um [b] X.env=[(w6,eval b X.env)]:=by rfl) :
  PI X tg (.Call (.Name "range" p) [a,b] [] pos) (EO ta):=by
 intro pins s σ H R I h;refine Call_ (WQ I hg hm boot_range (Jx (thn (ha pos pins s σ H _ I h) λus s1 ⟨vs,H1,I1,r1,q1⟩=>?_) (by rw[hs,hs2]) (by rw[hs2];rfl)));obtain⟨i,j,e,⟨q1,q2,q3,q4⟩,q⟩:=q1;subst e;cases r1 with
 |cons r rr=>
  cases rr with
  |cons r' rr=>cases rr;obtain⟨t,rfl⟩:=r;obtain⟨t',rfl⟩:=r';exact call_range_2 (LJ I1 q1 q2 q3 q4 q)
noncomputable def tFor(wi:TI)(g:TG)(tb:TS):TS:=λD σ H=>wi σ H λJ H1=>∃W:Nat->Nat->St->Hp->Prop,(∃m,W 0 m σ H1)/\∀i m σ H,W i m σ H ->
 (J.stop i H/\D.nx σ H)∨(J.go i H/\∃N:St->Hp->Prop,(∀σ' H',N σ' H'->∃m',m'<m/\W (i+1) m' σ' H')/\∀x H',J.yld i H x H'->g x σ H' λσ2 H2=>tb {D with nx:=N,ct:=N,bk:=D.nx} σ2 H2)
noncomputable def Ru(fp:yf)(h:Heap):List (Uh×Obj):=fp.filterMap λb=>(h.get? b).map λo=>(b,o)
theorem PY{fp:yf}{h:Heap}{b:Uh}{o:Obj}(hb:b∈fp)(e:h.get? b=O o):(b,o)∈Ru fp h:=List.mem_filterMap.mpr ⟨b,hb,by rw[e];rfl⟩
theorem xC{fp:yf}{h:Heap}{p:Uh×Obj}(hp:p∈Ru fp h):p.1∈fp/\h.get? p.1=O p.2:=by
 obtain⟨b,hb,e⟩:=List.mem_filterMap.mp hp;cases q:h.get? b with
 |none=>rw[q]at e;cases e
 |some o=>rw[q]at e;have e':(b,o)=p:=Jf e;subst e';exact⟨hb,q⟩
theorem Inv.pinned{pins:List (Uh×Obj)}{σ:St}{H:Hp}{s:Uf}{fp:yf}(I:Inv X pins σ H s)(hf:∀b∈fp,Zz X pins H b)(ho:∀b∈fp,∃o,s.heap.get? b=O o/\∀v,o.data≠.cell v):Inv X (pins++Ru fp s.heap) σ H s:=
 I.pins_of λp hp=>(QS.mp hp).elim (λz=>I.pin p (QQ _ z)) λz=>by obtain⟨hb,e⟩:=xC z;obtain⟨f0,f1,f2,_⟩:=hf p.1 hb;obtain⟨o,e',d⟩:=ho p.1 hb;rw[e]at e';cases e';exact⟨e,f0,f1,f2,d⟩
theorem Inv.unpinned{pins pl:List (Uh×Obj)}{σ:St}{H:Hp}{s:Uf}(I:Inv X (pins++pl) σ H s):Inv X pins σ H s:=I.pins_of λp hp=>I.pin p (QQ _ (Jv _ hp))
theorem Cp{iter:Uj}{body:List Stmt}{wi:TI}{g:TG}{tb:TS}{pos:Pos}(hp:PassesOwn (model X.prog X.w) X.A X.env X.xe)(hc:X.calm=w5)(hi:PI X tg iter wi)(hg:PG X tg g)(hb:PSs X body tb)
  (hs:∀x,UD iter X.env x=pure x:=by intro _;rfl):PS X (.For tg iter body [] pos) (tFor wi g tb):=by
 intro pins s σ H D I h;refine wpAny_For (thn (hi pins s σ H _ I h) λv s1 h1=>thn h1 λitv s2 h2=>?_) hs;obtain⟨it,fp,tn,J,H2,e,I2,T,st2,f2,W,⟨m0,w0⟩,turn⟩:=h2;subst e;have stat:∀{H':Hp},(∀b∈fp,H' b=w4)->∀b∈fp,Zz X pins H' b:=λhn b hb=>⟨hn b hb,(f2 b hb).2⟩;refine codeAny_forLoop_any (λn s'=>∃i σ' H',Inv X pins σ' H' s'/\tn i s'.heap/\(∀b∈fp,H' b=w4)/\W i n σ' H') ?_ m0 ⟨0,σ,H2,I2,st2,λb hb=>(f2 b hb).1,w0⟩;rintro n s3 ⟨i,σ3,H3,I3,st3,fr3,w3⟩;rcases turn i n σ3 H3 w3 with ⟨stop,qn⟩|⟨go,N,hN,step⟩
 .refine Jn hp (thn (T.done X wZ wZ wZ hc i pins s3 σ3 H3 X.xe I3 (stat fr3) st3 stop) λr s4 ⟨hr,I4⟩=>?_)
  subst hr;exact wpAny_execs_nil ⟨σ3,H3,I4,qn⟩
 .refine Jn hp (thn (T.item X wZ wZ wZ hc i pins s3 σ3 H3 X.xe I3 (stat fr3) st3 go) λr s4 ⟨u,hr,h4⟩=>?_)
  subst hr;refine Jn hp (thn h4 λ_ s5 ⟨x,H5,I5,r5,y5,zk,fr5⟩=>?_);have I5':=I5.pinned (stat fr5) (T.obj _ _ zk);refine Jn hp (thn (hg _ s5 σ3 H5 x u _ I5' r5 (step x H5 y5)) λ_ s6 ⟨σ6,H6,I6,q6⟩=>?_);refine Jn hp (thn (hb _ s6 σ6 H6 _ I6 q6) λf s7 q7=>?_);have again:∀{σ7:St}{H7:Hp},Inv X (pins++Ru fp s5.heap) σ7 H7 s7->N σ7 H7->∃m,m<n/\∃i σ' H',Inv X pins σ' H' s7/\tn i s7.heap/\(∀b∈fp,H' b=w4)/\W i m σ' H':=λ{σ7 H7} I7 n7=>by obtain⟨m',hm,w7⟩:=hN σ7 H7 n7;refine⟨m',hm,i+1,σ7,H7,I7.unpinned,T.keep _ _ _ zk λb hb o e=>(I7.pin (b,o) (QQ _ (QQ _ (PY hb e)))).1,λb hb=>?_,w7⟩;obtain⟨o,e,d⟩:=T.obj _ _ zk b hb;exact(I7.pin (b,o) (QQ _ (QQ _ (PY hb e)))).2.1
  cases f with
  |next=>obtain⟨σ7,H7,I7,n7⟩:=q7;exact again I7 n7
  |cont=>obtain⟨σ7,H7,I7,n7⟩:=q7;exact again I7 n7
  |brk=>obtain⟨σ7,H7,I7,q7⟩:=q7;exact⟨σ7,H7,I7.unpinned,q7⟩
  |ret v=>obtain⟨x7,σ7,H7,I7,r7,q7⟩:=q7;exact⟨x7,σ7,H7,I7.unpinned,r7,q7⟩
end
abbrev R2:=V->V->Hp->VK->Prop
def OpR(X:Cx)(f:Ue->Ue->Sem Ue)(r:R2):Prop:=
 ∀(pins:List (Uh×Obj))(s:Uf)(σ:St)(H:Hp)(x y:V)(v u:Ue)(Q:VK),Inv X pins σ H s->RelV x v->RelV y u->r x y H Q ->
  Ul (model X.prog X.w) X.A (f v u) (EP X pins σ Q) X.xe s
def UnR(X:Cx)(f:Ue->Sem Ue)(r:V->Hp->VK->Prop):Prop:=
 ∀(pins:List (Uh×Obj))(s:Uf)(σ:St)(H:Hp)(x:V)(v:Ue)(Q:VK),Inv X pins σ H s->RelV x v->r x H Q ->
  Ul (model X.prog X.w) X.A (f v) (EP X pins σ Q) X.xe s
def Yt(X:Cx)(f:Ue)(r:List V->Hp->VK->Prop):Prop:=
 ∀(pins:List (Uh×Obj))(s:Uf)(σ:St)(H:Hp)(xs:List V)(us:ya)(Q:VK),Inv X pins σ H s->Vals xs us->r xs H Q ->
  Ul (model X.prog X.w) X.A (call f us) (EP X pins σ Q) X.xe s
noncomputable def tOp(r:R2)(ta tb:TE):TE:=λσ H Q=>ta σ H λx H1=>tb σ H1 λy H2=>r x y H2 Q
noncomputable def tUn(r:V->Hp->VK->Prop)(ta:TE):TE:=λσ H Q=>ta σ H λx H1=>r x H1 Q
noncomputable def rI(C:Int->Int->Prop)(g:Int->Int->V):R2:=λx y H Q=>∃i j,x=.int i/\y=.int j/\C i j/\Q (g i j) H
noncomputable def rI0(g:Int->Int->V):R2:=λx y H Q=>∃i j,x=.int i/\y=.int j/\Q (g i j) H
noncomputable def rU(g:Int->V):V->Hp->VK->Prop:=λx H Q=>∃i,x=.int i/\Q (g i) H
section
variable{X:Cx}{a b c:Uj}{ta tb tc:TE}{pos:Pos}
theorem T7(ha:PE X a ta)(hb:PE X b tb){pins:List (Uh×Obj)}{s:Uf}{σ:St}{H:Hp}{R:V->V->Hp->Prop}(I:Inv X pins σ H s)
  (h:ta σ H λx H1=>tb σ H1 λy H2=>R x y H2) {Q:Ue->Uf->Prop} {f:Ue->Ue->Sem Ue}
  (hf:∀v u s2 x y H2,Inv X pins σ H2 s2->RelV x v->RelV y u->R x y H2->Ul (model X.prog X.w) X.A (f v u) Q X.xe s2) :
  Ul (model X.prog X.w) X.A (eval a X.env) (λv s₁=>Ul (model X.prog X.w) X.A (eval b X.env) (λu s₂=>Ul (model X.prog X.w) X.A (f v u) Q X.xe s₂) X.xe s₁) X.xe s:=by
 refine thn (ha pins s σ H _ I h) λv s1 ⟨x,H1,I1,r1,q1⟩=>?_;refine thn (hb pins s1 σ H1 _ I1 q1) λu s2 ⟨y,H2,I2,r2,q2⟩=>?_;exact hf v u s2 x y H2 I2 r1 r2 q2
theorem NS{op:Operator}{r:R2}(ho:OpR X (binaryOp op) r)(ha:PE X a ta)(hb:PE X b tb):PE X (.BinOp a op b pos) (tOp r ta tb):=by intro pins s σ H Q I h;exact wpAny_BinOp (T7 ha hb I h λv u s2 x y H2 I2 rx ry q=>ho pins s2 σ H2 x y v u Q I2 rx ry q)
theorem EN{op:UnaryOp}{r:V->Hp->VK->Prop}(ho:UnR X (unaryOp op) r)(ha:PE X a ta):PE X (.UnaryOp op a pos) (tUn r ta):=by intro pins s σ H Q I h;exact UnaryOp_ (thn (ha pins s σ H _ I h) λv s1 ⟨x,H1,I1,r1,q1⟩=>ho pins s1 σ H1 x v Q I1 r1 q1)
theorem opI{f:Ue->Ue->Sem Ue}{C:Int->Int->Prop}{g:Int->Int->Int}
  (rule:∀(i j:Int)(t u:Tok)(s:Uf)(Q:Ue->Uf->Prop)(E:Ue->Uf->Prop),C i j->Q (.int (g i j) s.toks) {s with toks:=s.toks+1}->Ul (model X.prog X.w) X.A (f (.int i t) (.int j u)) Q E s) :
  OpR X f (rI C λi j=>.int (g i j)):=by
 intro pins s σ H x y v u Q I rx ry h;obtain⟨i,j,rfl,rfl,hc,q⟩:=h;obtain⟨t,rfl⟩:=rx;obtain⟨t',rfl⟩:=ry;exact rule i j t t' s _ _ hc ⟨.int (g i j),H,I.tok _,⟨_,rfl⟩,q⟩
theorem opI0{f:Ue->Ue->Sem Ue}{g:Int->Int->Int}
  (rule:∀(i j:Int)(t u:Tok)(s:Uf)(Q:Ue->Uf->Prop)(E:Ue->Uf->Prop),Q (.int (g i j) s.toks) {s with toks:=s.toks+1}->Ul (model X.prog X.w) X.A (f (.int i t) (.int j u)) Q E s) :
  OpR X f (rI0 λi j=>.int (g i j)):=by
 intro pins s σ H x y v u Q I rx ry h;obtain⟨i,j,rfl,rfl,q⟩:=h;obtain⟨t,rfl⟩:=rx;obtain⟨t',rfl⟩:=ry;exact rule i j t t' s _ _ ⟨.int (g i j),H,I.tok _,⟨_,rfl⟩,q⟩
theorem W4{f:Ue->Ue->Sem Ue}{g:Int->Int->Bool}
  (rule:∀(i j:Int)(t u:Tok)(s:Uf)(Q:Ue->Uf->Prop)(E:Ue->Uf->Prop),Q (.bool (g i j)) s->Ul (model X.prog X.w) X.A (f (.int i t) (.int j u)) Q E s) :
  OpR X f (rI0 λi j=>.bl (g i j)):=by
 intro pins s σ H x y v u Q I rx ry h;obtain⟨i,j,rfl,rfl,q⟩:=h;obtain⟨t,rfl⟩:=rx;obtain⟨t',rfl⟩:=ry;exact rule i j t t' s _ _ ⟨.bl (g i j),H,I,rfl,q⟩
def CPow(i j:Int):Prop:=0<=j/\j<=1000000/\i.natAbs<2 ^ 64
def CMul(i j:Int):Prop:=(-(2 ^ 64)<i/\i<2 ^ 64)∨(-(2 ^ 64)<j/\j<2 ^ 64)
theorem CMul.ok{i j:Int}(h:CMul i j):IntMulOk i j:=by
 rcases h with ⟨h1,h2⟩|⟨h1,h2⟩
 .exact .of_left (intBits_le_64 h1 h2)
 .exact .of_right (intBits_le_64 h1 h2)
theorem Co:OpR X (binaryOp .Add) (rI0 λi j=>.int (i+j)):=opI0 λ_ _ _ _ _ _ _ q=>add_int q
theorem Cn:OpR X (binaryOp .Sub) (rI0 λi j=>.int (i-j)):=opI0 λ_ _ _ _ _ _ _ q=>sub_int q
theorem Cm:OpR X (binaryOp .Mult) (rI CMul λi j=>.int (i*j)):=opI λ_ _ _ _ _ _ _ hc q=>mul_int q hc.ok
theorem Ck:OpR X (binaryOp .Mod) (rI (λ_ j=>0<j) λi j=>.int (i % j)):=opI λi j _ _ _ _ _ hc q=>by have h1:(0:Int)<j:=hc;exact mod_int' (by omega) (by rw[Int.fmod_eq_emod_of_nonneg i (by omega)];exact q)
theorem Cj:OpR X (binaryOp .Pow) (rI CPow λi j=>.int (i ^ j.toNat)):=opI λ_ _ _ _ _ _ _ hc q=>pow_int_small hc.1 hc.2.1 hc.2.2 q
theorem Ah:OpR X (inplaceOp .Mult) (rI CMul λi j=>.int (i*j)):=opI λ_ _ _ _ _ _ _ hc q=>imul_int q hc.ok
theorem unI{f:Ue->Sem Ue}{g:Int->Int}
  (rule:∀(i:Int)(t:Tok)(s:Uf)(Q:Ue->Uf->Prop)(E:Ue->Uf->Prop),Q (.int (g i) s.toks) {s with toks:=s.toks+1}->Ul (model X.prog X.w) X.A (f (.int i t)) Q E s) :
  UnR X f (rU λi=>.int (g i)):=by
 intro pins s σ H x v Q I rx h;obtain⟨i,rfl,q⟩:=h;obtain⟨t,rfl⟩:=rx;exact rule i t s _ _ ⟨.int (g i),H,I.tok _,⟨_,rfl⟩,q⟩
theorem Ci:UnR X (unaryOp .USub) (rU λi=>.int (-i)):=unI λ_ _ _ _ _ q=>neg_int q
end
section
variable{X:Cx}{a b c:Uj}{ta tb tc:TE}{pos:Pos}
theorem Mm{pins:List (Uh×Obj)}{σ:St}{H:Hp}{s:Uf}{Q:VK}{k k':Bool}(I:Inv X pins σ H s)(q:Q (.bl k) H)(e:k=k'):EP X pins σ Q (.bool k') s:=by subst e;exact⟨.bl k,H,I,rfl,q⟩
theorem EM:OpR X (Uo .Lt) (rI0 λi j=>.bl (decide (i<j))):=W4 λ_ _ _ _ _ _ _ q=>lt_int q
theorem EL:OpR X (Uo .LtE) (rI0 λi j=>.bl (decide (i<=j))):=W4 λ_ _ _ _ _ _ _ q=>le_int q
theorem EK:OpR X (Uo .Gt) (rI0 λi j=>.bl (decide (j<i))):=W4 λ_ _ _ _ _ _ _ q=>gt_int q
theorem EJ:OpR X (Uo .GtE) (rI0 λi j=>.bl (decide (j<=i))):=W4 λ_ _ _ _ _ _ _ q=>ge_int q
theorem xA:OpR X (Uo .In) (λx y H Q=>∃i j,x=.str i/\y=.str j/\Q (.bl (!(Builtin.Str.occurrences j i 0 j.length 1).isEmpty)) H):=by intro pins s σ H x y v u Q I rx ry h;obtain⟨i,j,rfl,rfl,q⟩:=h;obtain⟨t,rfl⟩:=rx;obtain⟨t',rfl⟩:=ry;exact in_str (Mm I q wZ)
theorem wE:OpR X (Uo .NotIn) (λx y H Q=>∃i j,x=.str i/\y=.str j/\Q (.bl (!(!(Builtin.Str.occurrences j i 0 j.length 1).isEmpty))) H):=by intro pins s σ H x y v u Q I rx ry h;obtain⟨i,j,rfl,rfl,q⟩:=h;obtain⟨t,rfl⟩:=rx;obtain⟨t',rfl⟩:=ry;exact notIn_str (Mm I q wZ)
theorem OpR.or{f:Ue->Ue->Sem Ue}{r r':R2}(h:OpR X f r)(h':OpR X f r'):OpR X f (λx y H Q=>r x y H Q∨r' x y H Q):=by
 intro pins s σ H x y v u Q I rx ry q;rcases q with q|q
 .exact h pins s σ H x y v u Q I rx ry q
 .exact h' pins s σ H x y v u Q I rx ry q
theorem Ch(b:Uj){op:CmpOp}(h:op≠.In:=by decide)(h2:op≠.NotIn:=by decide):behindInMarks op b=w6:=by
 have e1:(op==CmpOp.In)=w6:=by cases op<;>first|rfl|exact absurd wZ h
 have e2:(op==CmpOp.NotIn)=w6:=by cases op<;>first|rfl|exact absurd wZ h2
 cases b<;>simp[behindInMarks,e1,e2]
theorem Lc{op:CmpOp}{r:R2}(ho:OpR X (Uo op) r)(ha:PE X a ta)(hb:PE X b tb)(hm:behindInMarks op b=w6):PE X (.Compare a [op] [b] pos) (tOp r ta tb):=by intro pins s σ H Q I h;exact wpAny_Compare1 (T7 ha hb I h λv u s2 x y H2 I2 rx ry q=>ho pins s2 σ H2 x y v u Q I2 rx ry q) hm
noncomputable def NW(t:TE):TT:=λσ H Q=>t σ H λx H'=>∃k,x=.bl k/\Q k H'
theorem OO{op:CmpOp}{r:R2}(ho:OpR X (Uo op) r)(ha:PE X a ta)(hb:PE X b tb)(hm:behindInMarks op b=w6):PT X (.Compare a [op] [b] pos) (NW (tOp r ta tb)):=by
 intro pins s σ H Q I h
 refine wpAny_isTrue_Compare1 (thn (ha pins s σ H _ I h) λv s1 ⟨x,H1,I1,r1,q1⟩=>thn (hb pins s1 σ H1 _ I1 q1) λu s2 ⟨y,H2,I2,r2,q2⟩=>
  thn (ho pins s2 σ H2 x y v u _ I2 r1 r2 q2) λc s3 ⟨z,H3,I3,r3,k,e,q3⟩=>?_) hm
 subst e;cases r3;exact QZ ⟨H3,I3,q3⟩
noncomputable def Ml(r r':R2)(ta tb tc:TE):TE:=λσ H Q=>ta σ H λx H1=>tb σ H1 λy H2=>r x y H2 λz H3=>∃k,z=.bl k /\
 (if k=w5 then tc σ H3 λw' H4=>r' y w' H4 Q else Q (.bl w6) H3)
theorem qC{op op':CmpOp}{r r':R2}(ho:OpR X (Uo op) r)(ho':OpR X (Uo op') r')(ha:PE X a ta)(hb:PE X b tb)(hc:PE X c tc)
  (hm:lastMarks [op,op'] [b,c]=w6:=by with_unfolding_all rfl):PE X (.Compare a [op,op'] [b,c] pos) (Ml r r' ta tb tc):=by
 intro pins s σ H Q I h
 refine Compare_chain (thn (ha pins s σ H _ I h) λv s1 ⟨x,H1,I1,r1,q1⟩=>chain_link (thn (hb pins s1 σ H1 _ I1 q1) λu s2 ⟨y,H2,I2,r2,q2⟩=>
  thn (ho pins s2 σ H2 x y v u _ I2 r1 r2 q2) λd s3 ⟨z,H3,I3,r3,k,e,q3⟩=>?_)) hm
 subst e;cases r3;refine QZ ?_;cases k with
 |false=>exact ite_ff ⟨.bl w6,H3,I3,rfl,q3⟩
 |true=>exact ite_tt (chain_last (thn (hc pins s3 σ H3 _ I3 q3) λw' s4 ⟨z',H4,I4,r4,q4⟩=>ho' pins s4 σ H4 y z' u w' Q I4 r2 r4 q4))
theorem qB{op op':CmpOp}{r r':R2}(ho:OpR X (Uo op) r)(ho':OpR X (Uo op') r')(ha:PE X a ta)(hb:PE X b tb)(hc:PE X c tc)
  (hm:lastMarks [op,op'] [b,c]=w6:=by with_unfolding_all rfl):PT X (.Compare a [op,op'] [b,c] pos) (NW (Ml r r' ta tb tc)):=by
 intro pins s σ H Q I h
 refine isTrue_chain (thn (ha pins s σ H _ I h) λv s1 ⟨x,H1,I1,r1,q1⟩=>test_link (thn (hb pins s1 σ H1 _ I1 q1) λu s2 ⟨y,H2,I2,r2,q2⟩=>
  thn (ho pins s2 σ H2 x y v u _ I2 r1 r2 q2) λd s3 ⟨z,H3,I3,r3,k,e,q3⟩=>?_)) hm
 subst e;cases r3;refine QZ ?_;cases k with
 |false=>obtain⟨k',e',q'⟩:=q3;cases e';exact ite_ff ⟨H3,I3,q'⟩
 |true=>refine ite_tt (test_last (thn (hc pins s3 σ H3 _ I3 q3) λw' s4 ⟨z',H4,I4,r4,q4⟩=>thn (ho' pins s4 σ H4 y z' u w' _ I4 r2 r4 q4) λd' s5 ⟨z2,H5,I5,r5,k2,e2,q5⟩=>?_));subst e2;cases r5;exact QZ ⟨H5,I5,q5⟩
theorem Pf:(Uk:Nat)<2 ^ 63:=by rw[Jz];decide
theorem vi:OpR X (binaryOp .Add) (λx y H Q=>∃i j,x=.str i/\y=.str j/\i.length+j.length<=Uk/\Q (.str (i++j)) H):=by intro pins s σ H x y v u Q I rx ry h;obtain⟨i,j,rfl,rfl,hz,q⟩:=h;obtain⟨t,rfl⟩:=rx;obtain⟨t',rfl⟩:=ry;exact add_str (λt' tk=>⟨.str (i++j),H,I.tok _,⟨_,rfl⟩,q⟩) hz
theorem Rk{x:V}{us:ya}(r:Vals [x] us):∃u,us=[u]/\RelV x u:=by
 cases r with
 |cons r1 r2=>cases r2;exact⟨_,rfl,r1⟩
theorem Og{x y:V}{us:ya}(r:Vals [x,y] us):∃u w',us=[u,w']/\RelV x u/\RelV y w':=by
 cases r with
 |cons r1 r2=>
  cases r2 with
  |cons r3 r4=>cases r4;exact⟨_,_,rfl,r1,r3⟩
theorem xz(hc:X.calm=w5):Yt X (.builtin "max") (λxs H Q=>∃i j,xs=[.int i,.int j]/\Q (.int (if j > i then j else i)) H):=by
 intro pins s σ H xs us Q I r h;obtain⟨i,j,rfl,q⟩:=h;obtain⟨u,w',rfl,⟨t,rfl⟩,⟨t',rfl⟩⟩:=Og r;refine max_two_ints (I.ok.hd hc) λh' tk k=>⟨_,H,I.kept k,?_,q⟩
 by_cases hj:j > i
 .rw[Qm hj,Qm hj];exact⟨_,rfl⟩
 .rw[Qw hj,Qw hj];exact⟨_,rfl⟩
theorem xy:Yt X (.type "int") (λxs H Q=>(∃i,xs=[.int i]/\Q (.int i) H) ∨ ∃k,xs=[.bl k]/\Q (.int (if k then 1 else 0)) H):=by
 intro pins s σ H xs us Q I r h;rcases h with ⟨i,rfl,q⟩|⟨k,rfl,q⟩
 .obtain⟨u,rfl,t,rfl⟩:=Rk r
  exact call_int_int ⟨.int i,H,I,⟨_,rfl⟩,q⟩
 .obtain⟨u,rfl,r1⟩:=Rk r
  cases r1;exact call_int_bool ⟨.int (if k then 1 else 0),H,I.tok _,⟨_,rfl⟩,q⟩
def LenV(K:Frag)(x:V)(H:Hp)(n:Nat):Prop:=
 match x with
 |.str y=>y.length<=Uk/\n=y.length
 |.byt y=>y.size<=Uk/\n=y.size
 |.ref p=>(∃xs,SqL K H p xs/\n=xs.length) ∨ ∃xs,SqT K H p xs/\n=xs.length
 |_=>False
theorem LI:Yt X (.builtin "len") (λxs H Q=>∃x n,xs=[x]/\LenV X.K x H n/\Q (.int n) H):=by
 intro pins s σ H xs us Q I r h;obtain⟨x,n,rfl,e,q⟩:=h;obtain⟨u,rfl,rx⟩:=Rk r;have hl:=Pf;have hs:Uk=16777216:=Jz;cases x with
 |str y=>obtain⟨t,rfl⟩:=rx;obtain⟨hy,e'⟩:y.length<=Uk/\n=y.length:=e;subst e';exact len_str (by omega) ⟨.int _,H,I.tok _,⟨_,rfl⟩,q⟩
 |byt y=>obtain⟨t,rfl⟩:=rx;obtain⟨hy,e'⟩:y.size<=Uk/\n=y.size:=e;subst e';exact PySem.W.len_bytes (by omega) ⟨.int _,H,I.tok _,⟨_,rfl⟩,q⟩
 |ref p=>
  cases rx;have e':(∃xs,SqL X.K H p xs/\n=xs.length) ∨ ∃xs,SqT X.K H p xs/\n=xs.length:=e;rcases e' with ⟨xs,hx,e'⟩|⟨xs,hx,e'⟩
  .subst e'
   obtain⟨its,r',pl,hz⟩:=I.list hx;have hlen:=r'.length;exact Calls.call_len_list pl.isList (by simp only[QJ];omega) ⟨.int xs.length,H,I.tok _,⟨_,by simp only[QJ];rw[hlen]⟩,q⟩
  .subst e'
   obtain⟨its,r',pl,hz⟩:=I.tuple hx;have hlen:=r'.length;exact len_tuple pl (by simp only[QJ];omega) ⟨.int xs.length,H,I.tok _,⟨_,by simp only[QJ];rw[hlen]⟩,q⟩
 |_=>exact(show False from e).elim
end
noncomputable def ZB(f:Str)(v:V):List (Str×V)->List (Str×V)
 |[]=>[(f,v)]
 |(g,x)::r=>if g=f then(g,v)::r else(g,x)::ZB f v r
theorem Nu(f g:Str)(v:V):∀fs:List (Str×V),(ZB f v fs).lookup g=if g=f then O v else fs.lookup g
 |[]=>by
  show List.lookup g [(f,v)]=_;by_cases h:g=f
  .have hb:(g==f)=w5:=beq_iff_eq.mpr h
   simp only[List.lookup,hb,Qm h]
  .have hb:(g==f)=w6:=beq_eq_false_iff_ne.mpr h
   simp only[List.lookup,hb,Qw h]
 |(k,x)::r=>by
  have ih:=Nu f g v r;rw[show ZB f v ((k,x)::r)=(if k=f then(k,v)::r else(k,x)::ZB f v r)from rfl];by_cases hk:k=f
  .rw[Qm hk]
   by_cases h:g=k
   .have hb:(g==k)=w5:=beq_iff_eq.mpr h
    simp only[List.lookup,hb,Qm (h.trans hk)]
   .have hb:(g==k)=w6:=beq_eq_false_iff_ne.mpr h
    simp only[List.lookup,hb,Qw (λe:g=f=>h (e.trans hk.symm))]
  .rw[Qw hk]
   by_cases h:g=k
   .have hb:(g==k)=w5:=beq_iff_eq.mpr h
    simp only[List.lookup,hb,Qw (λe:g=f=>hk (h.symm.trans e))]
   .have hb:(g==k)=w6:=beq_eq_false_iff_ne.mpr h
    simp only[List.lookup,hb];exact ih
theorem Na(f:Str)(v:V):∀fs:List (Str×V),f∈(ZB f v fs).map (·.1)/\∀g,g∈fs.map (·.1)->g∈(ZB f v fs).map (·.1)
 |[]=>⟨by simp[ZB],λg h=>by simp at h⟩
 |(k,x)::r=>by
  obtain⟨i1,i2⟩:=Na f v r;rw[show ZB f v ((k,x)::r)=(if k=f then(k,v)::r else(k,x)::ZB f v r)from rfl];by_cases hk:k=f
  .rw[Qm hk]
   subst hk;exact⟨by simp,λg h=>by simpa using h⟩
  .rw[Qw hk]
   refine⟨?_,λg h=>?_⟩
   .rw[Qy]
    exact Qp _ i1
   .rw[Qy]at h⊢
    rcases Qx.mp h with e|e
    .exact List.mem_cons.mpr (.inl e)
    .exact Qp _ (i2 g e)
section
variable{X:Cx}{pins:List (Uh×Obj)}{σ:St}{H:Hp}{s:Uf}{a C dx:Uh}{fs:List (Str×V)}{f:Str}{v:V}{A:Around}{E:Ue->Uf->Prop}
theorem Ag{prog:Ug}{w:World}{env:Env}{e:Uj}{f:Str}{pos:Pos}{s:Uf}{Q:Ue->Uf->Prop}(hb:attributeBase e f env (eval e env)=eval e env)
  (h:Ul (model prog w) A (eval e env) (λo s₁=>Ul (model prog w) A (getAttr o f w5) Q E s₁) E s):Ul (model prog w) A (eval (.Attribute e f pos) env) Q E s:=
 Attribute_any_ h (by rw[arm_eval_Attribute,hb])
end
structure Room(k:Nat)(A:Around):Prop where
 hd:A.handled=w4
 dp:A.depth+3*k+5<recursionLimit
 un:A.units+16*k+200<cLine
 gd:A.guards=O []
theorem Room.mono{j k:Nat}{A:Around}(r:Room k A)(h:j<=k):Room j A:=⟨r.hd,by have:=r.dp;omega,by have:=r.un;omega,r.gd⟩
theorem Room.deeper{k:Nat}{A:Around}(r:Room (k+1) A)(env:Env):Room k (A.deeper env):=
 ⟨r.hd,by have:=r.dp;show A.depth+1+3*k+5<_;omega,by have:=r.un;show A.units+3+16*k+200<_;omega,r.gd⟩
theorem vh{A:Around}{C:Uh}{us:ya}{kw:List (Str×Ue)}:(A.under (.builtin "type.__call__" ⟨.ref C::us,kw⟩)).depth=A.depth+1:=by
 first|rfl|simp[Around.under,Code.weight,Code.isCreation,Code.isGuard,Code.isCaller,Code.frames,Code.isFrame,guardIds]
theorem vg{A:Around}{C:Uh}{us:ya}{kw:List (Str×Ue)}:(A.under (.builtin "type.__call__" ⟨.ref C::us,kw⟩)).units=A.units+1:=by
 first|rfl|simp[Around.under,Code.cUnits,Code.frames,Code.isFrame]
theorem Room.make{k:Nat}{A:Around}(r:Room (k+1) A)(C:Uh)(us:ya)(kw:List (Str×Ue)):Room k (A.under (.builtin "type.__call__" ⟨.ref C::us,kw⟩)):=
 ⟨r.hd,by have:=r.dp;rw[vh];omega,by have:=r.un;rw[vg];omega,(by first|exact r.gd|(simp[Around.under,guardIds];exact r.gd))⟩
theorem Room.depth{k:Nat}{A:Around}(r:Room k A):A.depth<recursionLimit:=by have:=r.dp;omega
theorem Room.units{k:Nat}{A:Around}(r:Room k A):A.units+64<cLine:=by have:=r.un;omega
def W2:TA:=λ_ H Q=>Q [] H
noncomputable def VY(ta:TE)(tr:TA):TA:=λσ H Q=>ta σ H λx H1=>tr σ H1 λxs H2=>Q (x::xs) H2
section
variable{X:Cx}{e:Uj}{es:yd}{te:TE}{t:TA}{pos:Pos}
theorem XX:PA X [] W2:=λ_ _ _ _ H Q I h=>Calls.spliced_nil ⟨[],H,I,.nil,h⟩
theorem YL(ha:PE X e te)(hr:PA X es t)(hs:Um (e::es) X.env=(w6,eval e X.env)::Um es X.env:=by rfl):PA X (e::es) (VY te t):=by intro pos pins s σ H Q I h;rw[hs];show Ul _ _ (spliced ((w6,eval e X.env)::backTo pos (Um es X.env))) _ _ s;refine Calls.spliced_cons (thn (ha pins s σ H _ I h) λu s1 ⟨x,H1,I1,r1,q1⟩=>?_);exact thn (hr pos pins s1 σ H1 _ I1 q1) λus s2 ⟨xs,H2,I2,r2,q2⟩=>⟨x::xs,H2,I2,.cons r1 r2,q2⟩
noncomputable def tTup(t:TA):TE:=λσ H Q=>t σ H λxs H1=>xs.length<=Uk/\∀p,H1 p=w4->Q (.ref p) (upd H1 p (.tup xs))
noncomputable def tLst(t:TA):TE:=λσ H Q=>t σ H λxs H1=>xs.length<=Uk/\∀p,H1 p=w4->Q (.ref p) (upd H1 p (.lst xs))
theorem Mk{x1}(h:PA X es t):PE X (.Tuple es x1 pos) (tTup t):=by intro pins s σ H Q I hq;refine wpAny_Tuple_spliced (thn (h pos pins s σ H _ I hq) λus s1 ⟨xs,H1,I1,r,z,q⟩=>⟨by rw[←r.length];exact z,?_⟩);have hf:H1 s1.heap.objs.size=w4:=I1.hok.fresh (Qq _);refine⟨.ref s1.heap.objs.size,upd H1 s1.heap.objs.size (.tup xs),I1.laid (t':=s1.toks) (λb u e=>Qe _ e) (Qq _) ?_,rfl,q _ hf⟩;exact⟨z,us,r,⟨_,QD _ wZ,rfl,_,rfl⟩⟩
theorem Mj(h:PA X es t):PE X (.List es pos) (tLst t):=by intro pins s σ H Q I hq;refine wpAny_List_spliced (thn (h pos pins s σ H _ I hq) λus s1 ⟨xs,H1,I1,r,z,q⟩=>⟨by rw[←r.length];exact z,?_⟩);have hf:H1 s1.heap.objs.size=w4:=I1.hok.fresh (Qq _);refine⟨.ref s1.heap.objs.size,upd H1 s1.heap.objs.size (.lst xs),I1.laid (t':=s1.toks) (λb u e=>Qe _ e) (Qq _) ?_,rfl,q _ hf⟩;exact⟨z,us,0,r,QD _ wZ⟩
end
abbrev Sp:=List V->Hp->VK->XK->Prop
abbrev CXT:=List Env->Hp->Uf->XK->Ue->Uf->Prop
structure Env0(P:Ug)(w:World)(K:Frag)(mg:Str->yc)(base:Heap)(A:Around)(outer:List Env)(s:Uf)(H:Hp):Prop where
 frames:A.frames=O outer
 mod:Mod K mg base
 bs:∀b o,base.get? b=O o->s.heap.get? b=O o/\H b=w4
 bsz:base.objs.size<=s.heap.objs.size
 funs:s.heap.FunFrames base outer
 frf:∀b∈frs outer,H b=w4
 hok:HOk P w H s.heap
 bare:AllBare s.gens
def CE(outer:List Env)(P:Ug)(w:World)(H:Hp)(s:Uf)(Q:VK)(u:Ue)(s':Uf):Prop:=
 ∃v H',s'.os=s.os/\AllBare s'.gens/\Un (frs outer) [] H H' s.heap s'.heap/\HOk P w H' s'.heap/\RelV v u/\Q v H'
def CR(CX:CXT)(outer:List Env)(P:Ug)(w:World)(H:Hp)(s:Uf)(Q:VK)(E:XK)(r:Result)(s':Uf):Prop:=
 match r with
 |.ok (.ret u)=>CE outer P w H s Q u s'
 |.ok _=>False
 |.error e=>CX outer H s E e s'
structure FnOk(P:Ug)(w:World)(K:Frag)(mg:Str->yc)(base:Heap)(CX:CXT)(k:Nat)(f:Uh)(fd:Ui)(ps:List Str)(sp:Sp):Prop where
 len:∀vs H Q E,sp vs H Q E->vs.length=ps.length
 run:∀(A:Around)(outer:List Env)(s:Uf)(H:Hp)(args:Args)(us:ya)(vs:List V)(Q:VK)(E:XK),Room k A->Env0 P w K mg base A outer s H->BindsTo s fd args (ps.zip us)->Vals vs us->sp vs H Q E ->
  codeAny (model P w) A (.call (.ref f) args) (CR CX outer P w H s Q E) s
theorem FnOk.imp{P:Ug}{w:World}{K:Frag}{mg:Str->yc}{base:Heap}{CX:CXT}{k:Nat}{f:Uh}{fd:Ui}{ps:List Str}{sp sp':Sp}(F:FnOk P w K mg base CX k f fd ps sp)
  (h:∀vs H Q E,sp' vs H Q E->sp vs H Q E):FnOk P w K mg base CX k f fd ps sp':=
 ⟨λvs H Q E q=>F.len vs H Q E (h _ _ _ _ q),λA outer s H args us vs Q E hr he hb hv hs=>F.run A outer s H args us vs Q E hr he hb hv (h _ _ _ _ hs)⟩
theorem Env0.make{P:Ug}{w:World}{K:Frag}{mg:Str->yc}{base:Heap}{A:Around}{outer:List Env}{s:Uf}{H:Hp}(e:Env0 P w K mg base A outer s H)(C:Uh)(us:ya)(kw:List (Str×Ue)) :
  Env0 P w K mg base (A.under (.builtin "type.__call__" ⟨.ref C::us,kw⟩)) outer s H:=⟨by first|exact e.frames|(simpa[Around.under,Code.envs,Code.isFrame,pushEnvs]using e.frames),e.mod,e.bs,e.bsz,e.funs,e.frf,e.hok,e.bare⟩
section
variable{X:Cx}{pins:List (Uh×Obj)}{σ:St}{H:Hp}{s s':Uf}
theorem Inv.env0(I:Inv X pins σ H s):Env0 X.prog X.w X.K X.mg X.base X.A X.stack s H:=
 ⟨I.ok.frames,I.ok.mod,I.bs,QH I.ok.bsz I.sz,I.stack,I.stkFree,I.hok,I.bare⟩
theorem Inv.after{Q:VK}{u:Ue}(I:Inv X pins σ H s)(h:CE X.stack X.prog X.w H s Q u s'):EP X pins σ Q u s':=by obtain⟨v,H',os,bare,un,hok,r,q⟩:=h;obtain⟨hh,g,d,t,os'⟩:=s';obtain rfl:os'=s.os:=os;exact⟨v,H',I.call (h':=hh) (g':=g) (d':=d) (t':=t) (ch:=[]) un hok bare (λb z=>absurd z (by simp)),r,q⟩
end
noncomputable def RW(sp:Sp)(dvs:List V)(E:XK)(t:TA):TE:=λσ H Q=>t σ H λvs H1=>sp (vs++dvs) H1 Q E
def Ys(K:Frag)(fd:Ui)(ps:List Str)(ds:ya):Prop:=
 ∀(s:Uf)(us:ya),K.In s.heap->(us++ds).length=ps.length->BindsTo s fd ⟨us,[]⟩ (ps.zip (us++ds))
theorem Ys.all{K:Frag}{fd:Ui}{ps:List Str}(h:∀us:ya,us.length=ps.length->bindArgs fd ⟨us,[]⟩=pure (ps.zip us)):Ys K fd ps []:=λs us _ hl=>by rw[Q4]at hl⊢;exact .of_eq (h us hl)
def Ou(CX:CXT)(X:Cx)(E:XK):Prop:=∀(pins:List (Uh×Obj))(σ:St)(H:Hp)(s:Uf)(e:Ue)(s':Uf),Inv X pins σ H s->CX X.stack H s E e s'->X.xe e s'
section
variable{X:Cx}{CX:CXT}{k:Nat}{f C:Uh}{fd:Ui}{ps:List Str}{sp:Sp}{dvs:List V}{ds:ya}{E:XK}{x m:Str}{p pos apos:Pos}{e o:Uj}{es:yd}{ta:TE}{t:TA}
theorem Mi{pins:List (Uh×Obj)}{σ:St}{H:Hp}{s:Uf}{Q:VK}{us:ya}{vs:List V}(F:FnOk X.prog X.w X.K X.mg X.base CX k f fd ps sp)(hr:Room k X.A)(hb:Ys X.K fd ps ds)(hd:Vals dvs ds)(hx:Ou CX X E)
  (I:Inv X pins σ H s) (r:Vals vs us) (h:sp (vs++dvs) H Q E):Ul (model X.prog X.w) X.A (call (.ref f) us) (EP X pins σ Q) X.xe s:=by
 have r2:Vals (vs++dvs) (us++ds):=r.append hd;have hl:(us++ds).length=ps.length:=by rw[←r2.length];exact F.len _ _ _ _ h
 refine wpAny_call (Jr (F.run X.A X.stack s H ⟨us,[]⟩ (us++ds) (vs++dvs) Q E hr I.env0 (hb s us I.kIn hl) r2 h) λr s' hq=>?_);cases r with
 |error e=>exact hx pins σ H s e s' I hq
 |ok fl=>
  cases fl with
  |ret u=>exact I.after hq
  |next=>exact False.elim hq
  |brk=>exact False.elim hq
  |cont=>exact False.elim hq
theorem Lb(F:FnOk X.prog X.w X.K X.mg X.base CX k f fd ps sp)(hr:Room k X.A)(hg:Gl X x)(hm:X.mg x=O (.ref f))(hk:PySem.W.keepIn X.K (.ref f)=w5)(hb:Ys X.K fd ps ds)(hd:Vals dvs ds)(hx:Ou CX X E)
  (ha:PA X (e::es) t) (hdb:(x==("__debug__" : Str))=w6:=by decide) (he:Um (e::es) X.env=(w6,eval e X.env)::Um es X.env:=by rfl) (hpl:(backTo pos (Um es X.env)).any (·.1)=w6:=by rfl) :
  PE X (.Call (.Name x p) (e::es) [] pos) (RW sp dvs E t):=by
 intro pins s σ H Q I h;refine Jo (Td I hg hm ?_ hdb);refine PySem.W.callWith_K (h₀:=X.base) I.ok.mod.kin hk (thn (ha pos pins s σ H _ I h) λus s1 ⟨vs,H1,I1,r,q⟩=>⟨I1.kIn,?_⟩) he hpl;exact Mi F hr hb hd hx I1 r q
end
structure Tc(N P:List Str)(sc:Scope):Prop where
 kind:sc.kind=.function
 co:sc.isCoroutine=w6
 gen:sc.isGenerator=w6
 nd:N.Nodup
 pre:N.take P.length=P
 par:∀x∈P,sc.names.lookup x=O .local∨sc.names.lookup x=O .cell
 nofree:∀y∈sc.names,y.2≠.free
theorem Hv{kindOf:Str->Option NameKind}{x:Str}:∀{binds:List (Str×Ue)}{m:Str->yc},(∀v,(x,v)∉binds)->bindL kindOf binds m x=m x
 |[],_,_=>rfl
 |(n,v)::r,m,h=>by
  unfold bindL;rw[Hv λw hw=>h w (Qp _ hw)];split
  .have:x≠n:=by rintro rfl;exact h v Qo
   simp[this]
  .rfl
theorem Hu{kindOf:Str->Option NameKind}{x:Str}:∀{binds:List (Str×Ue)}{m:Str->yc},(∀v,(x,v)∉binds)->bindC kindOf binds m x=m x
 |[],_,_=>rfl
 |(n,v)::r,m,h=>by
  unfold bindC;rw[Hu λw hw=>h w (Qp _ hw)];split
  .rfl
  .have:x≠n:=by rintro rfl;exact h v Qo
   simp[this]
theorem Ht{kindOf:Str->Option NameKind}{x:Str}{v:Ue}:∀{P:List Str}{vs:ya}{i:Nat}{m:Str->yc},P.Nodup->P[i]?=O x->vs[i]?=O v->kindOf x=O .local ->
  bindL kindOf (P.zip vs) m x=O v
 |[],_,_,_,_,h,_,_=>by simp at h
 |_::_,[],_,_,_,_,h,_=>by simp at h
 |p::P,w::vs,0,m,nd,h1,h2,hk=>by simp at h1 h2;subst h1;subst h2;show bindL kindOf ((p,w)::P.zip vs) m p=_;unfold bindL;rw[Hv λv hv=>(List.nodup_cons.mp nd).1 (List.of_mem_zip hv).1,Qm hk];simp
 |p::P,w::vs,i+1,m,nd,h1,h2,hk=>by show bindL kindOf ((p,w)::P.zip vs) m x=_;unfold bindL;exact Ht (i:=i) (List.nodup_cons.mp nd).2 (by simpa using h1) (by simpa using h2) hk
theorem Hs{kindOf:Str->Option NameKind}{x:Str}{v:Ue}:∀{P:List Str}{vs:ya}{i:Nat}{m:Str->yc},P.Nodup->P[i]?=O x->vs[i]?=O v->kindOf x≠O .local ->
  bindC kindOf (P.zip vs) m x=O v
 |[],_,_,_,_,h,_,_=>by simp at h
 |_::_,[],_,_,_,_,h,_=>by simp at h
 |p::P,w::vs,0,m,nd,h1,h2,hk=>by simp at h1 h2;subst h1;subst h2;show bindC kindOf ((p,w)::P.zip vs) m p=_;unfold bindC;rw[Hu λv hv=>(List.nodup_cons.mp nd).1 (List.of_mem_zip hv).1,Qw hk];simp
 |p::P,w::vs,i+1,m,nd,h1,h2,hk=>by show bindC kindOf ((p,w)::P.zip vs) m x=_;unfold bindC;exact Hs (i:=i) (List.nodup_cons.mp nd).2 (by simpa using h1) (by simpa using h2) hk
noncomputable def X3(N:List Str)(vs:List V):St:=vs.map O++Uq (N.length-vs.length) w4
noncomputable def Zh(CX:CXT)(P:Ug)(w:World)(K:Frag)(mg:Str->yc)(base:Heap)(N:List Str)(qual:Str)(scope:Scope)(f:Uh)(cd:Ue)(A:Around)(outer:List Env)(s:Uf)(H:Hp)(E:XK):Cx where
 prog:=P
 w:=w
 K:=K
 mg:=mg
 base:=base
 A:=A.deeper (envOfC qual scope s.heap.objs.size f cd)
 N:=N
 s₀:=s
 H₀:=H
 env:=envOfC qual scope s.heap.objs.size f cd
 outer:=outer
 stack:=envOfC qual scope s.heap.objs.size f cd::outer
 ex:=[]
 calm:=w5
 fn:=λ_=>w5
 pn:=[]
 xe:=λe s'=>Ul (model P w) (A.deeper (envOfC qual scope s.heap.objs.size f cd)) (leaving (envOfC qual scope s.heap.objs.size f cd) e) (λ_ s''=>CX outer H s E e s'') (λe' s''=>CX outer H s E e' s'') s'
theorem LH{sc:Scope}{n:Nat}{x:Str}(h:sc.names.lookup x=O .cell):∃c,(cellsFrom n sc.names []).lookup x=O c:=by have q:=PySem.W.cellsFrom_some sc.names n [] (.inl h);exact Option.isSome_iff_exists.mp q
theorem xx{CX:CXT}{P:Ug}{w:World}{K:Frag}{mg:Str->yc}{base:Heap}{N ps:List Str}{qual:Str}{scope:Scope}{f:Uh}{cd:Ue}{A:Around}{outer:List Env}{s s1:Uf}{H:Hp}{E:XK}{us:ya}{vs:List V}
  (S:Tc N ps scope) (hd:A.handled=w4) (e0:Env0 P w K mg base A outer s H) (hl:vs.length=ps.length) (r:Vals vs us)
  (x:InCallC s s.heap.objs.size (bindL (envOfC qual scope s.heap.objs.size f cd).kindOf (ps.zip us) λ_=>w4) (cellsFrom (s.heap.objs.size+1) scope.names []) (bindC (envOfC qual scope s.heap.objs.size f cd).kindOf (ps.zip us) λ_=>w4) s1) :
  Inv (Zh CX P w K mg base N qual scope f cd A outer s H E) [] (X3 N vs) H s1:=by
 have hpl:ps.length<=N.length:=by have:=Uc List.length S.pre;rw[Jg]at this;omega
 obtain⟨h1,tk,rfl,hk⟩:=x.done;have noA:∀b:Uh,b∉(Zh CX P w K mg base N qual scope f cd A outer s H E).ex:=λb z=>absurd (show b∈([]:yf)from z) (by simp)
 refine⟨⟨e0.mod,S.kind,rfl,rfl,Qq _,λy z c h1 h2=>?_,λy hy=>?_,λy c _ h=>?_,λ_=>hd,Around.frames_deeper e0.frames,.inr ⟨rfl,rfl⟩,λb z=>absurd z (noA b),e0.bs,e0.bsz,λb _ _=>noA b,λb z=>absurd z (noA b),e0.funs,e0.frf⟩,
  rfl,e0.bare,Un.kept hk,⟨_,x.toInCall.ns,λi y v h1 h2 h3=>?_⟩,λy c h=>⟨_,x.cell y c h⟩,e0.hok.fresh (Nat.le_refl _),λy c h=>?_,λp hp=>absurd (show p∈([]:List (Uh×Obj))from hp) (by simp),e0.hok.kept hk,?_⟩
 .exact name_of_addr x.apart (JS h1) (JS h2)
 .have hy:scope.names.lookup y=O .cell∨scope.names.lookup y=O .free:=hy
  rcases hy with hy|hy
  .exact LH hy
  .exact absurd wZ (S.nofree _ (JS hy))
 .exact Nat.le_of_lt (x.above y c (JS h))
 .have hi:i<vs.length:=by
   unfold X3 at h2;by_cases hi:i<vs.length
   .exact hi
   .rw[List.getElem?_append_right (by simpa using hi)]at h2
    rw[QA]at h2;split at h2<;>cases h2
  have ha:vs[i]?=O v:=by
   unfold X3 at h2;rw[List.getElem?_append_left (by simpa using hi),List.getElem?_map]at h2;cases e:vs[i]? with
   |none=>rw[e]at h2;cases h2
   |some a=>rw[e]at h2;cases h2;rfl
  obtain⟨u,hu,rv⟩:=r.get ha;have hp:ps[i]?=O y:=by rw[←S.pre,List.getElem?_take_of_lt (by omega)];exact h1
  have ndP:ps.Nodup:=by rw[←S.pre];exact S.nd.sublist (List.take_sublist _ _)
  refine⟨u,rv,?_⟩;rcases S.par y (Qv hp)with k|k
  .exact .inl ⟨k,Ht ndP hp hu k⟩
  .obtain⟨c,e⟩:=LH (n:=s.heap.objs.size+1) k
   refine .inr ⟨.inl k,c,e,?_⟩;have q:=x.cell y c e;rw[Hs ndP hp hu (by show scope.names.lookup y≠_;rw[k];decide)]at q;exact q
 .exact e0.hok.fresh (Nat.le_of_lt (x.above y c (JS h)))
 .unfold X3
  show _=N.length;rw[Qi,Qb,Qu];omega
theorem NV{CX:CXT}{P:Ug}{w:World}{K:Frag}{mg:Str->yc}{base:Heap}{k:Nat}{f:Uh}{name qual:Str}{params:Arguments}{body:List Stmt}{scope:Scope}{dV kV doc pm cdv ct oc:Ue}{an od:yh}
  {osl:Array yc} {N ps:List Str} {sp:Sp} (lk:K.lookup f=O ⟨oc,od,.func (PySem.W.fnOf name qual params body scope dV kV doc pm an cdv ct),osl⟩) (hcd:PySem.W.codeIn K cdv qual=w5) (S:Tc N ps scope)
  (len:∀vs H Q E,sp vs H Q E->vs.length=ps.length)
  (hbody:∀(A:Around)(outer:List Env)(s:Uf)(H:Hp)(vs:List V)(Q:VK)(E:XK),Room k (A.deeper (envOfC qual scope s.heap.objs.size f cdv))->sp vs H Q E ->
   ∃t,PSs (Zh CX P w K mg base N qual scope f cdv A outer s H E) body t/\t {nx:=λ_ H'=>Q .non H',rt:=Q} (X3 N vs) H) :
  FnOk P w K mg base CX (k+1) f (PySem.W.fnOf name qual params body scope dV kV doc pm an cdv ct) ps sp:=by
 refine⟨len,λA outer s H args us vs Q E hr e0 hb r zR=>?_⟩;have hl:=len _ _ _ _ zR;have KX:K.In s.heap:=e0.mod.kin.keeps λb o e=>(e0.bs b o e).1;have lim:s.heap.NoLimit:=e0.mod.nolimit.keeps λb o e=>(e0.bs b o e).1
 have hkind:∀y∈ps.zip us,scope.names.lookup y.1=O .local∨(scope.names.lookup y.1=O .cell/\((cellsFrom (s.heap.objs.size+1) scope.names []).lookup y.1).isSome=w5):=λ⟨n,v⟩ hy=>by
  rcases S.par n (List.of_mem_zip hy).1 with q|q
  .exact .inl q
  .exact .inr ⟨q,PySem.W.cellsFrom_some _ _ _ (.inl q)⟩
 refine codeAny_call_function hr.depth (KX _ _ lk) wZ S.co S.gen wZ (PySem.W.codeRec_of KX hcd) (hb _ _ _ _ ?_);refine wpAny_newFunctionEnv_cells S.kind hkind λenv he s1 x=>?_;subst he
 refine⟨lim.keeps x.toInCall.keep,codeAny_func ?_⟩;obtain⟨t,ht,hq⟩:=hbody A outer s H vs Q E (hr.deeper _) zR;have I:Inv (Zh CX P w K mg base N qual scope f cdv A outer s H E) [] (X3 N vs) H s1:=xx S hr.hd e0 hl r x;refine QI (ht [] s1 (X3 N vs) H _ I hq) (λfl s' hs=>?_) λe s' hs=>hs
 have fin:∀{σ':St}{H':Hp}{v:V}{u:Ue},Inv (Zh CX P w K mg base N qual scope f cdv A outer s H E) [] σ' H' s'->RelV v u->Q v H'->CE outer P w H s Q u s':=
  λ{σ' H' v u} J rv q=>⟨v,H',J.os,J.bare,J.base,J.hok,rv,q⟩
 cases fl with
 |ret u=>obtain⟨v,σ',H',J,rv,q⟩:=hs;exact fin J rv q
 |next=>obtain⟨σ',H',J,q⟩:=hs;exact fin (v:=V.non) (u:=Value.none) J wZ q
 |brk=>obtain⟨_,_,_,q⟩:=hs;exact False.elim q
 |cont=>obtain⟨_,_,_,q⟩:=hs;exact False.elim q
section
variable{X:Cx}{x:Str}{p pos:Pos}{e:Uj}{es:yd}{t:TA}{id T:String}{r:List V->Hp->VK->Prop}
noncomputable def tCB(r:List V->Hp->VK->Prop)(t:TA):TE:=λσ H Q=>t σ H λvs H1=>r vs H1 Q
theorem PD(hc:Yt X (.builtin id) r)(hg:Gl X x)(hm:X.mg x=w4)(hv:bootBuiltins x=O (.builtin id))(ha:PA X (e::es) t)(hn:x ≠ "__name__" :=by decide)(hdb:(x==("__debug__" : Str))=w6:=by decide)
  (he:Um (e::es) X.env=(w6,eval e X.env)::Um es X.env:=by rfl) (hpl:(backTo pos (Um es X.env)).any (·.1)=w6:=by rfl):PE X (.Call (.Name x p) (e::es) [] pos) (tCB r t):=by
 intro pins s σ H Q I h;refine Jo (WQ I hg hm hv ?_ hn hdb);exact PyProof.Rows.callWith_builtin1 (thn (ha pos pins s σ H _ I h) λus s1 ⟨vs,H1,I1,r1,q1⟩=>hc pins s1 σ H1 vs us Q I1 r1 q1) he hpl
theorem PZ(hc:Yt X (.type T) r)(hg:Gl X x)(hm:X.mg x=w4)(hv:bootBuiltins x=O (.type T))(ha:PA X (e::es) t)(hn:x ≠ "__name__" :=by decide)(hdb:(x==("__debug__" : Str))=w6:=by decide)
  (he:Um (e::es) X.env=(w6,eval e X.env)::Um es X.env:=by rfl) (hpl:(backTo pos (Um es X.env)).any (·.1)=w6:=by rfl):PE X (.Call (.Name x p) (e::es) [] pos) (tCB r t):=by
 intro pins s σ H Q I h;refine Jo (WQ I hg hm hv ?_ hn hdb);exact Jx (thn (ha pos pins s σ H _ I h) λus s1 ⟨vs,H1,I1,r1,q1⟩=>hc pins s1 σ H1 vs us Q I1 r1 q1) he hpl
end
end L2
namespace HT
open PySem PyProof.Rows
section
variable{prog:Ug}{w:World}{A:Around}{E:Ue->Uf->Prop}{s:Uf}
noncomputable def sIx(n d:Nat):yg->Nat
 |none=>d
 |some v=>if v<0 then(v+(n:Int)).toNat else min v.toNat n
theorem LG(n d:Nat):sIx n d w4=d:=rfl
theorem La(n d k:Nat):sIx n d (O (k:Int))=min k n:=by
 show(if(k:Int)<0 then((k:Int)+(n:Int)).toNat else min (k:Int).toNat n)=min k n
 rw[Qw (by omega),Je]
end
end HT
namespace L2
open PySem PySem.Spec PyProof.Rows
abbrev TO:=St->Hp->(yg->Hp->Prop)->Prop
def PO(X:Cx)(e:Option Uj)(t:TO):Prop:=
 ∀(pins:List (Uh×Obj))(s:Uf)(σ:St)(H:Hp)(Q:yg->Hp->Prop),Inv X pins σ H s->t σ H Q ->
  Ul (model X.prog X.w) X.A (evalPart e X.env) (λu s'=>∃o H',Inv X pins σ H' s'/\IsPart u o/\Q o H') X.xe s
def Af:TO:=λ_ H Q=>Q w4 H
noncomputable def EI(t:TE):TO:=λσ H Q=>t σ H λx H1=>∃i,x=.int i/\Q (O i) H1
section
variable{X:Cx}{e:Uj}{te:TE}{lo hi:Option Uj}{tl th:TO}{pos p2:Pos}
theorem Ae:PO X w4 Af:=by intro pins s σ H Q I h;rw[evalPart_none];exact Qj ⟨w4,H,I,.none,h⟩
theorem Ad(h:PE X e te):PO X (O e) (EI te):=by
 intro pins s σ H Q I hw;rw[evalPart_some];refine thn (h pins s σ H _ I hw) λu s1 ⟨x,H1,I1,r1,q1⟩=>?_
 obtain⟨i,rfl,q⟩:=q1;obtain⟨t,rfl⟩:=r1;exact⟨O i,H1,I1,.int i t,q⟩
def SlR(X:Cx)(r:V->yg->yg->Hp->VK->Prop):Prop:=
 ∀(pins:List (Uh×Obj))(s:Uf)(σ:St)(H:Hp)(x:V)(v vl vu:Ue)(lo hi:yg)(sl:Uh)(Q:VK),Inv X pins σ H s->RelV x v->s.heap.IsSliceOf sl vl vu .none->IsPart vl lo->IsPart vu hi->r x lo hi H Q ->
  ∃T id,typeLookup (.type T) "__getitem__" = pure (O (.builtin id))/\s.TypeIs v T/\Ul (model X.prog X.w) X.A (getItem v (.ref sl)) (EP X pins σ Q) X.xe s
theorem SlR.or{r r':V->yg->yg->Hp->VK->Prop}(h:SlR X r)(h':SlR X r'):SlR X (λx lo hi H Q=>r x lo hi H Q∨r' x lo hi H Q):=by
 intro pins s σ H x v vl vu lo hi sl Q I rx hs pl pu q;rcases q with q|q
 .exact h pins s σ H x v vl vu lo hi sl Q I rx hs pl pu q
 .exact h' pins s σ H x v vl vu lo hi sl Q I rx hs pl pu q
noncomputable def tSl(r:V->yg->yg->Hp->VK->Prop)(te:TE)(tl th:TO):TE:=λσ H Q=>te σ H λx H1=>tl σ H1 λl H2=>th σ H2 λu H3=>r x l u H3 Q
theorem qA{r:V->yg->yg->Hp->VK->Prop}(hr:SlR X r)(he:PE X e te)(hl:PO X lo tl)(hu:PO X hi th):PE X (.Subscript e (.Slice lo hi w4 p2) pos) (tSl r te tl th):=by
 intro pins s σ H Q I h;refine Subscript_ (thn (he pins s σ H _ I h) λv s1 ⟨x,H1,I1,r1,q1⟩=>?_);refine wpAny_Slice (thn (hl pins s1 σ H1 _ I1 q1) λvl s2 ⟨l,H2,I2,pl,q2⟩=>thn (hu pins s2 σ H2 _ I2 q2) λvu s3 ⟨u,H3,I3,pu,q3⟩=>?_);rw[evalPart_none];refine Qj ?_;have I4:Inv X pins σ H3 {s3 with heap:=s3.heap.push {cls:=.type "slice", data:=.fields #[vl,vu,.none]}}:=I3.kept (t':=s3.toks) λb ob q=>Qe _ q
 obtain⟨T,id,hT,ht,hg⟩:=hr pins {s3 with heap:=s3.heap.push {cls:=.type "slice", data:=.fields #[vl,vu,.none]}} σ H3 x v vl vu l u s3.heap.objs.size Q I4 r1 (Heap.IsSliceOf.new ..) pl pu q3;show Ul (model X.prog X.w) X.A (subscriptTail e (.Slice lo hi w4 p2) v (.ref s3.heap.objs.size)) (EP X pins σ Q) X.xe {s3 with heap:=s3.heap.push {cls:=.type "slice", data:=.fields #[vl,vu,.none]}};exact tail_any (ops:=[.ref s3.heap.objs.size,v]) ht hT hg (by with_unfolding_all rfl)
noncomputable def Xy(xs:List V)(lo hi:yg):List V:=(xs.drop (HT.sIx xs.length 0 lo)).take (HT.sIx xs.length xs.length hi-HT.sIx xs.length 0 lo)
theorem vX(xs:List V)(lo hi:yg):(Xy xs lo hi).length<=xs.length:=by unfold Xy;rw[Jg,Jw];omega
end
noncomputable def ixN(n:Nat)(i:Int):Option Nat:=if 0<=i then(if i<n then O i.toNat else w4)else if -(n:Int)<=i then O (i+n).toNat else w4
noncomputable def atI{α:Type}(xs:List α)(i:Int):Option α:=(ixN xs.length i).bind λj=>xs[j]?
theorem Ac{n:Nat}{i:Int}{j:Nat}(h:ixN n i=O j):seqIndex? i n=O j/\j<n /\ -(n:Int)<=i/\i<n:=by
 unfold ixN at h;by_cases h0:0<=i
 .rw[Qm h0]at h
  by_cases h1:i<n
  .rw[Qm h1]at h
   have e:i.toNat=j:=Jf h;exact⟨by rw[seqIndex_of h0 h1,e],by omega,by omega,h1⟩
  .rw[Qw h1]at h;cases h
 .rw[Qw h0]at h
  by_cases h1 : -(n:Int)<=i
  .rw[Qm h1]at h
   have e:(i+n).toNat=j:=Jf h;exact⟨by rw[seqIndex_neg (by omega) h1,e],by omega,h1,by omega⟩
  .rw[Qw h1]at h;cases h
theorem ON{α:Type}{xs:List α}{i:Int}{v:α}(h:atI xs i=O v):∃j,seqIndex? i xs.length=O j/\xs[j]?=O v/\j<xs.length /\ -(xs.length:Int)<=i/\i<xs.length:=by
 unfold atI at h;cases e:ixN xs.length i with
 |none=>rw[e]at h;cases h
 |some j=>rw[e]at h;obtain⟨h1,h2,h3,h4⟩:=Ac e;exact⟨j,h1,h,h2,h3,h4⟩
theorem Zm{α:Type}{xs:List α}{j:Nat}{v:α}(h:xs[j]?=O v):atI xs (j:Int)=O v:=by
 have hj:j<xs.length:=(Ql.mp h).1;have e:ixN xs.length (j:Int)=O j:=by unfold ixN;rw[if_pos (by omega),if_pos (by omega)];simp
 unfold atI;rw[e];exact h
def OM(b:Uj):Prop:=∀o i,subscripted b w6 o i=operate [o,i] (getItem o i)
def IxR(X:Cx)(r:R2):Prop:=
 ∀(value slice:Uj)(pins:List (Uh×Obj))(s:Uf)(σ:St)(H:Hp)(x y:V)(v u:Ue)(Q:VK),Inv X pins σ H s->RelV x v->RelV y u->r x y H Q ->
  subscripted slice w6 v u=operate [v,u] (getItem v u)->Ul (model X.prog X.w) X.A (subscriptTail value slice v u) (EP X pins σ Q) X.xe s
def MtR(X:Cx)(id:String)(r:V->List V->Hp->VK->Prop):Prop:=
 ∀(pins:List (Uh×Obj))(s:Uf)(σ:St)(H:Hp)(x:V)(xs:List V)(v:Ue)(us:ya)(Q:VK),Inv X pins σ H s->RelV x v->Vals xs us->r x xs H Q ->
  Ul (model X.prog X.w) X.A (call (.builtin id) (v::us)) (EP X pins σ Q) X.xe s
section
variable{X:Cx}{a b:Uj}{ta tb:TE}{pos:Pos}
theorem IxR.or{r r':R2}(h:IxR X r)(h':IxR X r'):IxR X (λx y H Q=>r x y H Q∨r' x y H Q):=by
 intro value slice pins s σ H x y v u Q I rx ry q hs;rcases q with q|q
 .exact h value slice pins s σ H x y v u Q I rx ry q hs
 .exact h' value slice pins s σ H x y v u Q I rx ry q hs
theorem NU{r:R2}(hr:IxR X r)(ha:PE X a ta)(hb:PE X b tb)(hs:OM b):PE X (.Subscript a b pos) (tOp r ta tb):=by intro pins s σ H Q I h;exact Subscript_ (T7 ha hb I h λv u s2 x y H2 I2 rx ry q=>hr a b pins s2 σ H2 x y v u Q I2 rx ry q (hs _ _))
noncomputable def rIxL(K:Frag):R2:=λx y H Q=>∃p xs i v,x=.ref p/\y=.int i/\SqL K H p xs/\atI xs i=O v/\Q v H
noncomputable def rIxT(K:Frag):R2:=λx y H Q=>∃p xs i v,x=.ref p/\y=.int i/\SqT K H p xs/\atI xs i=O v/\Q v H
noncomputable def rIxS:R2:=λx y H Q=>∃z i c,x=.str z/\y=.int i/\z.length<=Uk/\atI z.cps.toList i=O c/\Q (.str ⟨#[c]⟩) H
theorem Ab:IxR X (rIxL X.K):=by
 intro value slice pins s σ H x y v u Q I rx ry h hs;obtain⟨p,xs,i,z,rfl,rfl,hq,he,q⟩:=h;cases rx;obtain⟨t,rfl⟩:=ry;obtain⟨its,r,pl,hz⟩:=I.list hq;obtain⟨j,h1,h2,h3,h4,h5⟩:=ON he;obtain⟨w,ew,al⟩:=r.get h2;have hl:=r.length;have hn:=Pf;have fin:EP X pins σ Q w s:=⟨z,H,I,al,q⟩
 by_cases h0:0<=i
 .have hj:i.toNat=j:=by
   rw[seqIndex_of h0 h5]at h1;exact Jf h1
  exact item_listR pl.isList h0 (by omega) (by rw[hj];simpa using ew) fin hs
 .have hj:(i+(its.toArray.size:Int)).toNat=j:=by
   rw[seqIndex_neg (by omega) h4]at h1;rw[QJ,←hl];exact Jf h1
  exact subscriptTail_builtinR (x:=w) pl.isList.typeIs slot_list_getitem.lookup
   (wpAny_getItem_list_neg (Q:=λr s'=>r=w/\EP X pins σ Q r s') pl.isList (by omega) (by rw[List.size_toArray]<;>omega) (by omega) (by rw[hj];simpa using ew) ⟨rfl,fin⟩) hs
theorem CP:IxR X (rIxT X.K):=by
 intro value slice pins s σ H x y v u Q I rx ry h hs;obtain⟨p,xs,i,z,rfl,rfl,hq,he,q⟩:=h;cases rx;obtain⟨t,rfl⟩:=ry;obtain⟨its,r,pl,hz⟩:=I.tuple hq;obtain⟨j,h1,h2,h3,h4,h5⟩:=ON he;obtain⟨w,ew,al⟩:=r.get h2;have hl:=r.length;have hn:=Pf;have fin:EP X pins σ Q w s:=⟨z,H,I,al,q⟩
 exact subscriptTail_builtinR (x:=w) pl.typeIs slot_tuple_getitem.lookup
  (getItem_tuple (j:=j) (Q:=λr s'=>r=w/\EP X pins σ Q r s') pl (by omega) (by omega) (by rw[List.size_toArray,←hl];exact h1) (by simpa using ew) ⟨rfl,fin⟩) hs
theorem CO:IxR X rIxS:=by
 intro value slice pins s σ H x y v u Q I rx ry h hs;obtain⟨z,i,c,rfl,rfl,hz,he,q⟩:=h;obtain⟨t,rfl⟩:=rx;obtain⟨t',rfl⟩:=ry;obtain⟨j,h1,h2,h3,h4,h5⟩:=ON he;have hl:z.cps.toList.length=z.length:=by simp[Str.length]
 rw[hl]at h1 h4 h5;have hn:=Pf;exact tail_any (typeIs_str s z t) slot_str_getitem.lookup (getItem_str (c:=c) (by have e1:decide (i < -(2 ^ 63:Int))=w6:=Qr (by omega);have e2:decide (i ≥ 2 ^ 63)=w6:=Qr (by omega);rw[e1,e2,Bool.or_false]) (by rw[h1];simpa using h2) ⟨.str ⟨#[c]⟩,H,I.tok _,⟨_,rfl⟩,q⟩) hs
noncomputable def rIx(K:Frag):R2:=λx y H Q=>rIxL K x y H Q∨rIxT K x y H Q∨rIxS x y H Q
theorem Mh:IxR X (rIx X.K):=Ab.or (CP.or CO)
theorem wD(lo hi:yg)(n:Nat):(sliceBounds lo hi w4 n).1=((HT.sIx n 0 lo:Nat):Int)/\(sliceBounds lo hi w4 n).2.1=((HT.sIx n n hi:Nat):Int)/\(sliceBounds lo hi w4 n).2.2=1:=by
 refine⟨?_,?_,rfl⟩
 .cases lo with
  |none=>simp[sliceBounds,HT.sIx]
  |some i=>
   simp only[sliceBounds,HT.sIx,Option.getD_none,show(1:Int) > 0 by decide,if_true];by_cases h:i<0
   .simp only[h,if_true]<;>omega
   .simp only[h,Ub]<;>omega
 .cases hi with
  |none=>simp[sliceBounds,HT.sIx]
  |some i=>
   simp only[sliceBounds,HT.sIx,Option.getD_none,show(1:Int) > 0 by decide,if_true];by_cases h:i<0
   .simp only[h,if_true]<;>omega
   .simp only[h,Ub]<;>omega
theorem wM(its:ya)(lo hi:yg):slicePick its.toArray lo hi w4=((its.drop (HT.sIx its.length 0 lo)).take (HT.sIx its.length its.length hi-HT.sIx its.length 0 lo)).toArray:=by obtain⟨h1,h2,h3⟩:=wD lo hi its.toArray.size;unfold slicePick;rw[h1,h2,h3];simp only[sliceRange_one,pick_run,QJ]<;>rfl
noncomputable def rSlL(K:Frag):V->yg->yg->Hp->VK->Prop:=λx lo hi H Q=>∃a xs,x=.ref a/\SqL K H a xs/\∀p,H p=w4->Q (.ref p) (upd H p (.lst (Xy xs lo hi)))
theorem Aa:SlR X (rSlL X.K):=by intro pins s σ H x v vl vu lo hi sl Q I rx hs pl pu h;obtain⟨a,xs,rfl,hx,q⟩:=h;cases rx;obtain⟨its,r,ht,hz⟩:=I.list hx;have hlen:=r.length;refine⟨"list", _,slot_list_getitem.lookup,ht.isList.typeIs,?_⟩;refine wpAny_getItem_list_slice ht.isList hs pl pu .none (by simp) ?_ (by rw[List.size_toArray]<;>omega);rw[wM,←hlen];refine⟨.ref s.heap.objs.size,_,I.laid (t':=s.toks) (o:=.lst (Xy xs lo hi)) (λb ob q=>Qe _ q) (Qq _) ?_,rfl,q _ (I.hok.fresh (Qq _))⟩;exact⟨QH (vX xs lo hi) hz,_,0,(r.drop (HT.sIx xs.length 0 lo)).take (HT.sIx xs.length xs.length hi-HT.sIx xs.length 0 lo),QD _ wZ⟩
theorem GP:Yt X (.type "list") (λxs H Q=>∃p ys,xs=[.ref p]/\(SqL X.K H p ys∨SqT X.K H p ys)/\∀l,H l=w4->Q (.ref l) (upd H l (.lst ys))):=by
 intro pins s σ H xs us Q I r h;obtain⟨p,ys,rfl,hq,q⟩:=h;obtain⟨u,rfl,rx⟩:=Rk r;cases rx
 have fin:∀(its:ya),Vals ys its->ys.length<=Uk->∀(h':Heap)(c':Nat),(∀b o',s.heap.get? b=O o'->h'.get? b=O o') ->
   h'.get? s.heap.objs.size=O {cls:=.type "list", dict:=w4,data:=.seq its.toArray c',slots:=#[]}->EP X pins σ Q (.ref s.heap.objs.size) {s with heap:=h'}:=λits r' hz h' c' kp e=>
  ⟨.ref s.heap.objs.size,_,I.laid (t':=s.toks) kp (Qq _) (show Zu X.prog X.w _ h' _ (.lst ys)from⟨hz,its,c',r',e⟩),rfl,q _ (I.hok.fresh (Qq _))⟩
 rcases hq with hq|hq
 .obtain⟨its,r',pl,hz⟩:=I.list hq
  have hlen:=r'.length;obtain⟨o,ho,hc,n,hd⟩:=pl.isList;exact call_list_seq p (.inl wZ) ho hc hd (λh' c' kp e=>fin its r' hz h' c' kp e) (by simp only[QJ]<;>omega)
 .obtain⟨its,r',pl,hz⟩:=I.tuple hq
  have hlen:=r'.length;obtain⟨o,ho,hc,n,hd⟩:=pl;exact call_list_seq p (.inr wZ) ho hc hd (λh' c' kp e=>fin its r' hz h' c' kp e) (by simp only[QJ]<;>omega)
theorem wL:Yt X (.type "tuple") (λxs H Q=>∃p ys,xs=[.ref p]/\((SqL X.K H p ys/\∀l,H l=w4->Q (.ref l) (upd H l (.tup ys)))∨(SqT X.K H p ys/\Q (.ref p) H))):=by
 intro pins s σ H xs us Q I r h;obtain⟨p,ys,rfl,h⟩:=h;obtain⟨u,rfl,rx⟩:=Rk r;cases rx;rcases h with ⟨hq,q⟩|⟨hq,q⟩
 .obtain⟨its,r',pl,hz⟩:=I.list hq
  have hlen:=r'.length;refine call_tuple_list pl.isList (λh' kp=>?_) (by simp only[QJ]<;>omega);have I1:Inv X pins σ H {s with heap:=h'}:=I.kept (t':=s.toks) kp
  have I2:Inv X pins σ (upd H h'.objs.size (.tup ys)) {s with heap:=h'.push {cls:=.type "tuple", data:=.seq its.toArray}}:=
   I1.laid (t':=s.toks) (λb o e=>Qe _ e) (Qq _) (show Zu X.prog X.w _ _ _ (.tup ys)from⟨hz,its,r',IsTup.new _ _⟩)
  exact⟨.ref h'.objs.size,_,I2,rfl,q _ (I1.hok.fresh (Qq _))⟩
 .obtain⟨its,r',pl,hz⟩:=I.tuple hq
  exact call_tuple_same pl ⟨.ref p,H,I,rfl,q⟩
def tyV(K:Frag)(T:String)(x:V)(H:Hp):Prop:=match x with
 |.str _=>T = "str"
 |.int _=>T = "int"
 |.ref p=>(T = "list" /\ ∃xs,SqL K H p xs)∨(T = "tuple" /\ ∃o,K.lookup p=O o/\o.cls=.type "tuple" /\ o.dict=w4) ∨
   (T = "dict" /\ ((∃kvs,H p=O (.dK kvs)) ∨ ∃kvs,H p=O (.dT kvs)))∨(T = "set" /\ ∃S n,H p=O (.set S n))
 |_=>False
theorem CN{pins:List (Uh×Obj)}{σ:St}{H:Hp}{s:Uf}{T:String}{x:V}{v:Ue}(I:Inv X pins σ H s)(r:RelV x v)(ty:tyV X.K T x H) :
  s.TypeIs v T/\∀a,v=.ref a->∃ob,s.heap.get? a=O ob/\ob.dict=w4:=by
 cases x with
 |str z=>obtain⟨t,rfl⟩:=r;cases (show T = "str" from ty);exact⟨typeIs_str s z t,λ_ e=>nomatch e⟩
 |int i=>obtain⟨t,rfl⟩:=r;cases (show T = "int" from ty);exact⟨typeIs_int s i t,λ_ e=>nomatch e⟩
 |ref p=>
  cases r;rcases ty with ⟨rfl,xs,hq⟩|⟨rfl,o,hk,hc,hd⟩|⟨rfl,hk⟩|⟨rfl,S,n,hk⟩
  .obtain⟨its,_,pl,_⟩:=I.list hq
   refine⟨pl.isList.typeIs,λa e=>?_⟩;cases e;obtain⟨o,n,e,c,hd,_⟩:=pl;exact⟨o,e,hd⟩
  .refine⟨⟨o,I.kIn p o hk,hc⟩,λa e=>?_⟩
   cases e;exact⟨o,I.kIn _ o hk,hd⟩
  .have z:∃o,s.heap.get? p=O o/\o.ExactDict:=by
    rcases hk with ⟨kvs,hk⟩|⟨kvs,hk⟩
    .obtain⟨_,_,_,_,o,_,_,e,ex,_⟩:=I.hok p _ hk
     exact⟨o,e,ex⟩
    .obtain⟨_,_,_,_,o,_,_,e,ex,_⟩:=I.hok p _ hk
     exact⟨o,e,ex⟩
   obtain⟨o,e,ex⟩:=z;refine⟨⟨o,e,ex.1⟩,λa e2=>?_⟩;cases e2;exact⟨o,e,ex.2.1⟩
  .obtain⟨o,_,_,_,e,ex,_⟩:=I.hok p _ hk
   refine⟨⟨o,e,ex.1⟩,λa e2=>?_⟩;cases e2;exact⟨o,e,ex.2.1⟩
 |_=>exact False.elim ty
noncomputable def tBM(K:Frag)(T:String)(r:V->List V->Hp->VK->Prop)(to:TE)(t:TA):TE:=λσ H Q=>to σ H λx H1=>tyV K T x H1/\t σ H1 λxs H2=>r x xs H2 Q
variable{o e:Uj}{es:yd}{to:TE}{t:TA}{name:Str}{apos cpos:Pos}{T id:String}{r:V->List V->Hp->VK->Prop}
theorem Rj(pa:PlainAttrs T)(slot:Slot T name id)(hty:typeOf (.builtin id)=pure (.type "method_descriptor"))(hm:MtR X id r)(ho:PE X o to)(ha:PA X (e::es) t)
  (hbase:attributeBase o name X.env (eval o X.env)=eval o X.env:=by rfl)
  (hfew:((backTo cpos (Um (e::es) X.env)).all (λx=>!x.1)&&(backToKw cpos (keywordEach [] X.env)).all (λx=>x.1.isSome)
   && decide ((e::es).length+([]:List Keyword).length+(if([]:List Keyword).isEmpty then 0 else 1)<30))=w5:=by rfl)
  (hline:(apos.endLine==cpos.line)=w5:=by rfl) (hs:Um (e::es) X.env=(w6,eval e X.env)::Um es X.env:=by rfl) (hplain:(backTo cpos (Um es X.env)).any (·.1)=w6:=by rfl) :
  PE X (.Call (.Attribute o name apos) (e::es) [] cpos) (tBM X.K T r to t):=by
 intro pins s σ H Q I h;refine wpAny_Call_method_late hbase hfew hline wZ (thn (ho pins s σ H _ I h) λv s1 ⟨x,H1,I1,r1,ty,q1⟩=>?_);obtain⟨h1,h2⟩:=CN I1 r1 ty;refine⟨T,id,pa,slot,hty,h1,h2,?_⟩;have hA:=ha cpos pins s1 σ H1 _ I1 q1;rw[hs]at hA⊢;refine Calls.callWith_builtin (by show(w6 || (backTo cpos (Um es X.env)).any (·.1))=w6;rw[hplain]<;>rfl) (Calls.evalArgs_plain ?_);exact thn hA λus s2 ⟨vs,H2,I2,r2,q2⟩=>hm pins s2 σ H2 x vs v us Q I2 r1 r2 q2
end
def MtM(X:Cx)(id:String)(r:V->List V->Hp->VK->Prop):Prop:=
 ∀(pins:List (Uh×Obj))(s:Uf)(σ:St)(H:Hp)(x:V)(xs:List V)(v:Ue)(us:ya)(Q:VK),Inv X pins σ H s->RelV x v->Vals xs us->r x xs H Q ->
  Ul (model X.prog X.w) X.A (call (.builtin id) (v::us)) (EP X pins σ Q) X.xe s
theorem Vals.one:∀{x:V}{us:ya},Vals [x] us->∃u,us=[u]/\RelV x u
 |_,_,.cons r .nil=>⟨_,rfl,r⟩
theorem Vals.two:∀{x y:V}{us:ya},Vals [x,y] us->∃u v,us=[u,v]/\RelV x u/\RelV y v
 |_,_,_,.cons r (.cons q .nil)=>⟨_,_,rfl,r,q⟩
theorem Vals.reverse{xs:List V}{us:ya}(h:Vals xs us):Vals xs.reverse us.reverse:=by
 induction h with
 |nil=>exact .nil
 |cons r t ih=>rw[List.reverse_cons,List.reverse_cons];exact Vals.append ih (.cons r .nil)
theorem Vals.rep{xs:List V}{us:ya}(h:Vals xs us):∀k:Nat,Vals (Uq k xs).flatten (Uq k us).flatten
 |0=>.nil
 |k+1=>by rw[QT,QT,QG,QG];exact Vals.append h (Vals.rep h k)
theorem Hr(its:ya):∀(k:Nat)(acc:ya),
  List.foldl (λx1 x2=>x1++x2) acc.toArray (Uq k its.toArray)=(acc++(Uq k its).flatten).toArray
 |0,acc=>by simp
 |k+1,acc=>by
  have e:acc.toArray++its.toArray=(acc++its).toArray:=by simp
  have e2:(acc++its)++(Uq k its).flatten=acc++(Uq (k+1) its).flatten:=by rw[QT,QG,Q0]
  rw[←e2,←Hr its k (acc++its),←e,QT,List.foldl_cons]
section
variable{X:Cx}{pins:List (Uh×Obj)}{σ:St}{H:Hp}{s:Uf}{l b:Uh}{xs ys zs:List V}
theorem Inv.lset{its its':ya}{n:Nat}{f:Array Ue->Array Ue}{t':Nat}(I:Inv X pins σ H s)(hH:H l=O (.lst xs))
  (e:s.heap.get? l=O {cls:=.type "list", data:=.seq its.toArray n}) (hf:f its.toArray=its'.toArray) (hv:Vals ys its') (hz:ys.length<=Uk) :
  Inv X pins σ (upd H l (.lst ys)) {s with heap:=s.heap.update l (Obj.mapSeq f),toks:=t'}:=by
 have q:=PySem.IsL.update e f;rw[hf]at q;refine I.write (x:=l) (e:=l) (by rw[hH];exact trivial) (.inl wZ) (λb' u hb hu=>(QP s.heap (Obj.mapSeq f) (Ne.symm hb)).trans hu) ⟨_,q⟩ ?_;exact⟨hz,its',_,hv,q⟩
theorem Inv.lnew{its:ya}{t':Nat}(I:Inv X pins σ H s)(hv:Vals ys its)(hz:ys.length<=Uk) :
  Inv X pins σ (upd H s.heap.objs.size (.lst ys)) {s with heap:=s.heap.push {cls:=.type "list", data:=.seq its.toArray},toks:=t'}:=
 I.laid (λ_ _ q=>Qe _ q) (Qq _) ⟨hz,its,0,hv,QD _ wZ⟩
theorem Inv.fresh(I:Inv X pins σ H s):H s.heap.objs.size=w4:=I.hok.fresh (Qq _)
theorem Inv.lstM(I:Inv X pins σ H s)(hH:H l=O (.lst xs)):xs.length<=Uk/\∃(its:ya)(n:Nat),Vals xs its/\xs.length=its.length/\s.heap.get? l=O {cls:=.type "list", data:=.seq its.toArray n}:=by obtain⟨z,its,n,r,e⟩:=I.hok l _ hH;exact⟨z,its,n,r,r.length,e⟩
theorem LF{n:Nat}(h:n<=Uk):Builtin.List.listTooLong n=w6:=by unfold Builtin.List.listTooLong;exact Qr (by omega)
end
section
variable{X:Cx}
noncomputable def B9:V->List V->Hp->VK->Prop:=λx vs H Q=>∃l xs y,x=.ref l/\vs=[y]/\H l=O (.lst xs)/\xs.length<Uk/\Q .non (upd H l (.lst (xs++[y])))
theorem O9:MtM X "list.append" B9:=by intro pins s σ H x vs v us Q I rx rv h;obtain⟨l,xs,y,rfl,rfl,hH,hz,q⟩:=h;cases rx;obtain⟨u,rfl,ru⟩:=rv.one;obtain⟨z,its,n,r,hl,e⟩:=I.lstM hH;refine call_meets F.slot_list_append ⟨_,e,rfl⟩ F.entry_list_append (F.args_list_append_2 _ _) (PySem.list_append l its.toArray n u (by rw[QJ];omega)) ⟨e,?_⟩;refine⟨.non,_,I.lset (its':=its++[u]) hH e (by simp) (r.append (.cons ru .nil)) ?_,rfl,q⟩;rw[Qi,Jc];omega
noncomputable def B8:V->List V->Hp->VK->Prop:=λx vs H Q=>∃l b xs zs,x=.ref l/\vs=[.ref b]/\H l=O (.lst xs)/\H b=O (.lst zs)/\xs.length+zs.length<=Uk/\Q .non (upd H l (.lst (xs++zs)))
theorem xw:MtM X "list.extend" B8:=by
 intro pins s σ H x vs v us Q I rx rv h;obtain⟨l,b,xs,zs,rfl,rfl,hH,hB,hz,q⟩:=h;cases rx;obtain⟨u,rfl,ru⟩:=rv.one;cases ru;obtain⟨z,its,n,r,hl,e⟩:=I.lstM hH;obtain⟨z2,its2,n2,r2,hl2,e2⟩:=I.lstM hB;have hsz:its.toArray.size+its2.toArray.size<=Uk:=by rw[QJ,QJ];omega
 have zx:¬(!its.toArray.isEmpty&&Builtin.List.listTooLong (its.toArray.size+its2.toArray.size))=w5:=by rw[LF hsz,Jp];exact JI
 refine call_meets F.slot_list_extend ⟨_,e,rfl⟩ F.entry_list_extend (F.args_list_extend_2 _ _)
  (AutoSeq1.list_extend_list_list_0 l its.toArray n b its2.toArray n2 zx (by rw[QJ];omega) (by omega)) ⟨e,e2,?_⟩
 refine⟨.non,_,I.lset (its':=its++its2) hH e (by simp) (r.append r2) ?_,rfl,q⟩;rw[Qi];omega
theorem B7{α:Type}(xs:List α)(k:Nat):(Uq k xs).flatten.length=k*xs.length:=by
 induction k with
 |zero=>simp
 |succ k ih=>rw[QT,QG,Qi,ih,Nat.succ_mul,Nat.add_comm]
end
section
variable{prog:Ug}{w:World}{A:Around}{E:Ue->Uf->Prop}{s:Uf}
set_option maxRecDepth 100000 in
end
end L2
namespace Att
open PySem PySem.W PySem.Calls PyProof.Rows
theorem wN{P:Params}{h:Heap}:∀(ns:w9)(vs:ya),WellAll P h vs (ns.map WData.int)->IntsAre vs ns:=by
 intro ns;induction ns with
 |nil=>intro vs w;rw[List.map_nil]at w;cases w;exact .nil
 |cons n ns ih=>
  intro vs w;rw[Qy]at w;cases w with
  |cons a b=>cases a;exact .cons _ _ (ih _ b)
theorem xu{l:OpenLaw}{n:Nat}(hn:l.most=O n){P:Params}{h:Heap}{args:List WData}{vals:ya}
  (hpre:l.row.toRowW.claim.pre args=w5) (af:WellAll P h vals args) :
  ∃a vs ns,vals=[Value.ref a]/\args=[WData.list (ns.map WData.int)]/\h.get? a=O {cls:=.type "list", data:=.seq vs.toArray}/\IntsAre vs ns/\ns.length<=n:=by
 have hsh:WShape.hasAll [] args [.list .int]=w5:=(pre_splitW hpre).1;have hc:l.pre.holds [] {args:=args}=w5:=(pre_splitW hpre).2;obtain⟨d,r,rfl,h1,h2⟩:=hasAllW_cons hsh;obtain rfl:=hasAllW_nil h2;obtain⟨xs,rfl,h3⟩:=hasW_list h1;obtain⟨ns,rfl⟩:=items_int h3
 have hlen:ns.length<=n:=by
  unfold OpenLaw.pre at hc;have h4:(WTm.not (.lt (.lit (.int (n:Int))) (.len (.arg 0)))).holds [] {args:=[.list (ns.map .int)]}=w5:=by have h4:=(holds_andW hc).1;rw[hn]at h4;exact h4
  have h5:=condW_of h4 (w_not (w_lt w_lit (w_len_list (w_arg wZ))));rw[Qb]at h5;refine Q6 λq=>?_;have q':(n:Int)<((ns.length:Nat):Int):=by omega
  first
   |(rw[QC q']at h5;exact absurd h5 (by decide))
   |(simp at h5;omega)
 cases af with
 |cons w1 w2=>
  cases w2;cases w1 with
  |list ho hall=>exact⟨_,_,ns,rfl,rfl,ho,wN ns _ hall,hlen⟩
theorem xq(l:OpenLaw)(args:List WData):l.row.toRowW.claim.post args (.bool w5) args=w5:=
 postW_of (r:=l.row.toRowW) (X:=(w5==w5))
  (show WShape.has [] (.bool w5) .bool=w5 by first|rfl|decide|simp[WShape.has,WShape.arms,WShape.armsAll])
  (show(WTm.eq .res (.lit (.bool w5))).value [] {args:=args,res:=O (.bool w5),after:=args}=O (.bool (w5==w5))from w_eq_bool (w_res wZ) w_lit) wZ
theorem attach_call{l:OpenLaw}{n:Nat}{q:Ug}{loose:List Str}{XP:(Str->yc)->Heap->Prop}{YP:World->Heap->Prop}{d:DefRec}
  (hn:l.most=O n) (hdf:d.params.defaults=[])
  (call:∀(w:World)(s₀ s₁:Uf)(mg mb:Str->yc)(fa:Uh)(o:Obj)(pm cd doc:Ue)(a:Uh)(vs:ya)(ns:w9),
   Ground q loose [] XP w s₀ mg mb s₁.heap->YP w s₁.heap ->
   s₁.heap.get? fa=O o->o.data=.func (docDef d.name d.params d.body d.scope pm cd doc)->s₁.heap.CodeRec cd d.name->mg d.name=O (.ref fa) ->
   s₁.heap.get? a=O {cls:=.type "list", data:=.seq vs.toArray}->IntsAre vs ns->ns.length<=n->s₁.gens=#[] ->
   codeAny (model l.prog w) callerA (.call (.ref fa) ⟨[.ref a],[]⟩) (λr s'=>r=.ok (.ret (.bool w5))/\OldK s₁.heap s'.heap/\s'.os=s₁.os/\AllBare s'.gens) s₁) :
  WalkO q loose XP YP l.row.toRowW d [] (λf vs=>PySem.call f vs):=by
 intro w s₀ s₁ mg mb G Y fa o pm cd doc dV kV ho hd hcd hD hmg hg args vals as hpre hlay hrd af hlo;obtain rfl:dV=.none:=Dflts.none hD hdf;obtain rfl:kV=.none:=Dflts.noKw hD;obtain⟨a,vs,ns,rfl,rfl,hobj,hints,hlen⟩:=xu hn hpre af;refine enter_call (Jr (call w s₀ s₁ mg mb fa o pm cd doc a vs ns G Y ho (fd_plain hd) hcd hmg hobj hints hlen hg) λr s' hq=>?_);obtain⟨rfl,h2,h3,h4⟩:=hq;exact⟨.inl ⟨.bool w5,.bool w5,[],rfl,λ_=>rfl,.bool w5,xq l _,λ_=>⟨List.Pairwise.nil,λ_ hm=>(nomatch hm)⟩⟩,h2,h3,h4⟩
end Att
namespace L2
open PySem PySem.Spec PyProof.Rows
theorem W0:∀{vs:ya}{ns:w9},IntsAre vs ns->Vals (ns.map V.int) vs
 |_,_,.nil=>.nil
 |_,_,.cons n t h=>.cons ⟨t,rfl⟩ (W0 h)
def Only(H:Hp):Prop:=∀b,H b=w4 ∨ ∃o xs,H b=O (.frz o (.lst xs))
theorem qz{P:Ug}{w:World}{K:Frag}{mg mb:Str->yc}{CX:CXT}{k:Nat}{fa a:Uh}{fd:Ui}{x:Str}{sp:Sp}{s₁:Uf}{vs:ya}{ns:w9}
  (KX:K.In s₁.heap) (hns:s₁.heap.Ns mainGlobals mg) (hb:s₁.heap.Ns builtinsNs mb) (hbb:∀x:Str,x ≠ "__name__" -> mb x=bootBuiltins x) (hlim:s₁.heap.NoLimit) (hg:s₁.gens=#[])
  (ha:s₁.heap.get? a=O {cls:=.type "list", data:=.seq vs.toArray}) (hi:IntsAre vs ns) (hl:ns.length<=Uk) (hr:Room k callerA)
  (F:∀base:Heap,K.In base->base.Ns mainGlobals mg->FnOk P w K mg base CX k fa fd [x] sp) (hbind:∀(s:Uf)(u:Ue),BindsTo s fd ⟨[u],[]⟩ [(x,u)])
  (zR:∀H:Hp,Only H->SqL K H a (ns.map V.int)->sp [.ref a] H (λv _=>v=.bl w5) λ_ _ _=>False)
  (hCX:∀H e s',CX [] H s₁ (λ_ _ _=>False) e s'->False) :
  codeAny (model P w) callerA (.call (.ref fa) ⟨[.ref a],[]⟩) (λr s'=>r=.ok (.ret (.bool w5))/\OldK s₁.heap s'.heap/\s'.os=s₁.os/\AllBare s'.gens) s₁:=by
 have rv:=W0 hi;have lenV:=hi.length
 have core:∀H:Hp,Only H->SqL K H a (ns.map V.int)->HOk P w H s₁.heap->(∀b,H b≠w4->b=a)->(H a≠w4->K.lookup a=w4) ->
   codeAny (model P w) callerA (.call (.ref fa) ⟨[.ref a],[]⟩) (λr s'=>r=.ok (.ret (.bool w5))/\OldK s₁.heap s'.heap/\s'.os=s₁.os/\AllBare s'.gens) s₁:=by
  intro H hO hS hok hA hK;have base_of:∀{b:Uh}{o:Obj},s₁.heap.get? b=O o->H b=w4->(Yp s₁.heap H).get? b=O o:=λe n=>qF e n
  have noA:∀{b:Uh}{o:Obj}{es:Array DictEntry}{ep:Nat},s₁.heap.get? b=O o->o.data=.dict es ep->H b=w4:=λ{b o es ep} e d=>by
   cases q:H b with
   |none=>rfl
   |some u=>have e':b=a:=hA b (by rw[q];simp);subst e';rw[ha]at e;cases e;have d':Data.seq vs.toArray _=Data.dict es ep:=d;cases d'
  have nsK:∀{b:Uh}{m:Str->yc},s₁.heap.Ns b m->(Yp s₁.heap H).Ns b m:=λ{b m} ⟨o,es,ep,e,d,r⟩=>⟨o,es,ep,base_of e (noA e d),d,r⟩
  have hKb:K.In (Yp s₁.heap H):=λb o e=>base_of (KX b o e) (by
   cases q:H b with
   |none=>rfl
   |some u=>have e':b=a:=hA b (by rw[q];simp);subst e';rw[hK (by rw[q];simp)]at e;cases e)
  have hM:Mod K mg (Yp s₁.heap H):=⟨hKb,nsK hns,⟨mb,nsK hb,hbb⟩,let ⟨mc,h1,h2⟩:=hlim;⟨mc,nsK h1,h2⟩⟩
  have e0:Env0 P w K mg (Yp s₁.heap H) callerA [] s₁ H:=⟨rfl,hM,λb o e=>BV e,Nat.le_of_eq (kN _ _),trivial,λb hb=>absurd (show b∈([]:yf)from hb) (by simp),hok,.of_eq hg⟩
  refine Jr ((F _ hKb (nsK hns)).run callerA [] s₁ H ⟨[.ref a],[]⟩ [.ref a] [.ref a] _ _ hr e0 (hbind s₁ (.ref a)) (.cons wZ .nil) (zR H hO hS)) λr s' h=>?_
  cases r with
  |error e=>exact(hCX H e s' h).elim
  |ok fl=>
   cases fl with
   |next=>exact False.elim h
   |brk=>exact False.elim h
   |cont=>exact False.elim h
   |ret u=>
    obtain⟨v,H',os,bare,un,hok',r',q⟩:=h;have q':v=.bl w5:=q;subst q';obtain rfl:u=Value.bool w5:=r';refine⟨rfl,OldK.of_keep λb o e=>?_,os,bare⟩;cases q:H b with
    |none=>exact un.keep b o e q (by intro z;exact absurd (show b∈([]:yf)from z) (by simp)) (by simp)
    |some u=>
     rcases hO b with z|⟨ob,xs,z⟩
     .rw[q]at z;cases z
     .have z2:=un.frzs b ob _ z
      obtain⟨e1,_⟩:=hok b _ z;obtain⟨e2,_⟩:=hok' b _ z2;rw[e]at e1;cases e1;exact e2
 cases hk:K.lookup a with
 |some o=>have e:=KX a o hk;rw[ha]at e;cases e;refine core (λ_=>w4) (λ_=>.inl wZ) (.inr ⟨_,vs.toArray,_,hk,rfl,rfl,rfl,by rw[List.size_toArray,lenV];exact hl,by simpa using rv⟩) (λb u z=>by have z':(none:Option HO)=O u:=z;cases z') (λb z=>absurd wZ z) λz=>absurd wZ z
 |none=>
  refine core (λb=>if b=a then O (.frz {cls:=.type "list", data:=.seq vs.toArray} (.lst (ns.map V.int)))else w4) (λb=>?_) (.inl (.inr ⟨{cls:=.type "list", data:=.seq vs.toArray},Qm wZ⟩)) (λb u z=>?_) (λb z=>?_) λ_=>hk
  .by_cases hb:b=a
   .exact .inr ⟨_,_,Qm hb⟩
   .exact .inl (Qw hb)
  .by_cases hb:b=a
   .have z':=(Qm hb).symm.trans z
    cases z';subst hb;exact⟨ha,by rw[Qb];exact hl,vs,_,rv,ha⟩
   .have z':=(Qw hb).symm.trans z
    cases z'
  .by_cases hb:b=a
   .exact hb
   .exact absurd (Qw hb) z
noncomputable def X0(s:Stmt):Arguments:=match s with
 |.FunctionDef _ a _ _ _ _ _ _ _ _=>a
 |_=>{posonlyargs:=[],args:=[],vararg:=w4,kwonlyargs:=[],kw_defaults:=[],kwarg:=w4,defaults:=[]}
noncomputable def Yl(s:Stmt):List Stmt:=match s with
 |.FunctionDef _ _ b _ _ _ _ _ _ _=>b
 |_=>[]
noncomputable def K0(s:Stmt):Scope:=match s with
 |.FunctionDef _ _ _ _ _ _ sc _ _ _=>sc
 |_=>{kind:=.function,names:=[],isGenerator:=w6,isCoroutine:=w6}
abbrev CX0:CXT:=λ_ _ _ _ _ _=>False
abbrev E0:XK:=λ_ _ _=>False
theorem Of{X:Cx}:Ou CX0 X E0:=λ_ _ _ _ _ _ _ h=>h.elim
structure Fun(K:Frag)(x qual:Str)(st:Stmt)(f:Uh)(fd:Ui):Prop where
 ex:∃(oc:Ue)(od:yh)(kV doc pm:Ue)(an:yh)(cdv ct:Ue)(osl:Array yc),
  fd=PySem.W.fnOf x qual (X0 st) (Yl st) (K0 st) .none kV doc pm an cdv ct/\K.lookup f=O ⟨oc,od,.func fd,osl⟩/\PySem.W.codeIn K cdv qual=w5
 kp:PySem.W.keepIn K (.ref f)=w5
section
variable{P:Ug}{w:World}{K:Frag}{mg:Str->yc}{base:Heap}
theorem Fun.ok{x qual:Str}{st:Stmt}{f:Uh}{fd:Ui}{N ps:List Str}{k:Nat}{sp:Sp}(F:Fun K x qual st f fd)(S:Tc N ps (K0 st))(len:∀vs H Q E,sp vs H Q E->vs.length=ps.length)
  (hbody:∀(cdv:Ue)(A:Around)(outer:List Env)(s:Uf)(H:Hp)(vs:List V)(Q:VK)(E:XK),Room k (A.deeper (envOfC qual (K0 st) s.heap.objs.size f cdv))->sp vs H Q E ->
   ∃t,PSs (Zh CX0 P w K mg base N qual (K0 st) f cdv A outer s H E).nox (Yl st) t/\t {nx:=λ_ H'=>Q .non H',rt:=Q} (X3 N vs) H):FnOk P w K mg base CX0 (k+1) f fd ps sp:=by
 obtain⟨oc,od,kV,doc,pm,an,cdv,ct,osl,rfl,lk,hcd⟩:=F.ex;refine NV lk hcd S len λA outer s H vs Q E hr zR=>?_
 obtain⟨t,h,q⟩:=hbody cdv A outer s H vs Q E hr zR;exact⟨t,h.nox,q⟩
theorem Fun.binds{x qual:Str}{st:Stmt}{f:Uh}{fd:Ui}{ps:List Str}(F:Fun K x qual st f fd)
  (h:∀(kV doc pm:Ue)(an:yh)(cdv ct:Ue)(us:ya),us.length=ps.length->bindArgs (PySem.W.fnOf x qual (X0 st) (Yl st) (K0 st) .none kV doc pm an cdv ct) ⟨us,[]⟩=pure (ps.zip us)):Ys K fd ps []:=by
 obtain⟨oc,od,kV,doc,pm,an,cdv,ct,osl,rfl,lk,hcd⟩:=F.ex;exact .all (h kV doc pm an cdv ct)
end
def Same(H H':Hp):Prop:=∀b o,H b=O o->H' b=O o
theorem Same.refl(H:Hp):Same H H:=λ_ _ h=>h
theorem Same.trans{H H1 H2:Hp}(a:Same H H1)(b:Same H1 H2):Same H H2:=λc o h=>b c o (a c o h)
theorem Same.free{H H':Hp}(e:Same H H'){l:Uh}(h:H' l=Option.none):H l=Option.none:=by
 cases q:H l with
 |none=>rfl
 |some o=>rw[e l o q]at h;cases h
theorem Same.seq{K:Frag}{H H':Hp}{a:Uh}{xs:List V}(e:Same H H')(h:SqL K H a xs):SqL K H' a xs:=by
 rcases h with (h|⟨o,h⟩)|h
 .exact .inl (.inl (e _ _ h))
 .exact .inl (.inr ⟨o,e _ _ h⟩)
 .exact .inr h
section
variable{X:Cx}{pins:List (Uh×Obj)}{σ:St}{H:Hp}{s:Uf}{h':Heap}
theorem Inv.turnedNew{t':Nat}{fp:yf}{p:Uh}{o:HO}(I:Inv X pins σ H s)(hf:∀b∈fp,Zz X pins H b)
  (k:∀b o,b∉fp->s.heap.get? b=O o->h'.get? b=O o) (hp:s.heap.objs.size<=p) (new:Zu X.prog X.w (upd H p o) h' p o) :
  Inv X pins σ (upd H p o) {s with heap:=h',toks:=t'}:=by
 have hn:H p=w4:=I.hok.fresh hp;have trk:∀b u,H b=O u->b∉fp:=λb u e z=>by rw[(hf b z).1]at e;cases e
 refine I.step (g':=s.gens) (d':=s.drawn) (ch:=fp) (λb hb=>?_) (λb o _ _ hc e _=>k b o hc e) (λb o _ _ hc e _=>⟨o.slots,k b o hc e⟩)
  (λb o _ e n=>by rw[Kk (QM (QE (Qf e) hp))];exact n) (λb o hc e=>⟨o,k b o hc e⟩)
  (λb xs e=>by rw[Kk (Yw e hn)];exact e) (λb ob u e=>by rw[Kk (Yw e hn)];exact e) (λb ps e=>⟨#[],by rw[Kk (Yw e hn),e];simp⟩)
  (λm hm=>?_) (λb u e=>?_) I.bare
 .obtain⟨_,f1,_,f3,f4,f5⟩:=hf b hb
  exact⟨f3,f1,f4,f5⟩
 .obtain⟨ob,es,ep,ho,r⟩:=hm
  exact⟨ob,es,ep,k _ ob (λz=>(hf _ z).2.1 wZ) ho,r⟩
 .by_cases hb:b=p
  .subst hb;rw[KG]at e;cases e;exact new
  .rw[Kk hb]at e
   refine(I.hok b u e).stay (λc v hc q=>k c v ?_ q) (λc q=>by rw[Kk (Yw q hn)];exact q) λc xs q=>by rw[Kk (Yw q hn)];exact q
   rcases hc with z|z
   .rw[z];exact trk b u e
   .exact trk c _ z
theorem Inv.turnedL{t':Nat}{fp:yf}(I:Inv X pins σ H s)(hf:∀b∈fp,Zz X pins H b)
  (k:∀b o,b∉fp->s.heap.get? b=O o->h'.get? b=O o):Inv X pins σ H {s with heap:=h',toks:=t'}:=by
 have trk:∀b u,H b=O u->b∉fp:=λb u e z=>by rw[(hf b z).1]at e;cases e
 refine I.step (g':=s.gens) (d':=s.drawn) (ch:=fp) (λb hb=>?_) (λb o _ _ hc e _=>k b o hc e) (λb o _ _ hc e _=>⟨o.slots,k b o hc e⟩)
  (λ_ _ _ _ n=>n) (λb o hc e=>⟨o,k b o hc e⟩) (λ_ _ e=>e) (λ_ _ _ e=>e) (λb ps e=>⟨#[],by rw[e];simp⟩) (λm hm=>?_) (λb u e=>?_) I.bare
 .obtain⟨_,f1,_,f3,f4,f5⟩:=hf b hb
  exact⟨f3,f1,f4,f5⟩
 .obtain⟨ob,es,ep,ho,r⟩:=hm
  exact⟨ob,es,ep,k _ ob (λz=>(hf _ z).2.1 wZ) ho,r⟩
 .refine(I.hok b u e).stay (λc v hc q=>k c v ?_ q) (λc q=>q) λc xs q=>q
  rcases hc with z|z
  .rw[z];exact trk b u e
  .exact trk c _ z
end
noncomputable def Ite(K:Frag)(a:Uh):It:=
 ⟨λi H=>∃xs x,SqL K H a xs/\xs[i]?=O x,
  λi H v H'=>∃p x,H p=w4/\v=.ref p/\(∀xs,SqL K H a xs->xs[i]?=O x)/\H'=upd H p (.tup [.int i,x]),
  λi H=>∃xs,SqL K H a xs/\xs.length<=i⟩
theorem xp{P:Ug}{w:World}{K:Frag}{elts:yd}{x1}{tp:Pos}(a e it:Uh)(hne:e≠it) :
  Turn P w K (.Tuple elts x1 tp) (Ite K a) [e,it] e (λi h=>(∃old,IsEnum h e it i old)/\h.IsListIter it a i) where
 mem:=by simp
 obj:=λi h st b hb=>by
  obtain⟨⟨old,he⟩,o,ho,c,d⟩:=st;have hb':b=e∨b=it:=by simpa using hb
  rcases hb' with rfl|rfl
  .exact⟨_,he,λv z=>by have z':Data.fields _=Data.cell v:=z;cases z'⟩
  .exact⟨o,ho,λv z=>by rw[d]at z;cases z⟩
 keep:=λi h h' st k=>by obtain⟨⟨old,he⟩,hi⟩:=st;exact⟨⟨old,k e (by simp) _ he⟩,hi.at λo q=>k it (by simp) o q⟩
 item:=by
  intro X hP hw hK hc i pins s σ H E I hf st hg;subst hP hw hK;obtain⟨⟨old,he⟩,hi⟩:=st;obtain⟨xs,x,hq,hx⟩:=hg;obtain⟨its,rv,p,hz⟩:=I.list hq;obtain⟨u,hu,ru⟩:=rv.get hx;refine wpAny_pyNext_enum_item he hi p.isList (x:=u) (by simpa using hu) hne λh1 out hi1 ht hsz kk=>?_
  refine⟨_,rfl,wpAny_letOwnedTupleGo_enum out λh2 zK hs2=>?_⟩;have hel:e<s.heap.objs.size:=Qf he;have yL:Heap.SameBut e h1 h2:=hs2;have ht2:h2.get? s.heap.objs.size=O {cls:=.type "tuple", data:=.seq #[.int i s.toks,u]}:=(yL.2 _ (JK hel)).trans ht
  have kk2:∀b o,b∉[e,it]->s.heap.get? b=O o->h2.get? b=O o:=λb o hb q=>by
   have yN:b≠e:=λz=>hb (by simp[z])
   have hbi:b≠it:=λz=>hb (by simp[z])
   exact(yL.2 b yN).trans (kk b o yN hbi q)
  have hn:H s.heap.objs.size=w4:=I.hok.fresh (Qq _)
  have I2:Inv X pins σ (upd H s.heap.objs.size (.tup [.int i,x])) {s with heap:=h2,toks:=s.toks+1}:=
   I.turnedNew (fp:=[e,it]) hf kk2 (Qq _) ⟨by show 2<=Uk;decide,[.int i s.toks,u],.cons ⟨_,rfl⟩ (.cons ru .nil),⟨_,ht2,rfl,_,rfl⟩⟩
  refine⟨.ref s.heap.objs.size,_,I2,rfl,⟨_,x,hn,rfl,λys hy=>by rw[I.list_inj hy hq];exact hx,rfl⟩,⟨⟨u,?_⟩,?_⟩,λb hb=>?_⟩
  .have:=zK
   simpa using this
  .have hi2:h2.IsListIter it a (i+1):=hi1.at λo q=>(yL.2 it (Ne.symm hne)).trans q
   exact hi2
  .have fr:=(hf b hb)
   have hlt:b<s.heap.objs.size:=by
    have hb':b=e∨b=it:=by simpa using hb
    rcases hb' with rfl|rfl
    .exact hel
    .obtain⟨o,ho,_⟩:=hi;exact Qf ho
   rw[Kk (QM hlt)];exact fr.1
 done:=by intro X hP hw hK hc i pins s σ H E I hf st hg;subst hP hw hK;obtain⟨⟨old,he⟩,hi⟩:=st;obtain⟨xs,hq,hx⟩:=hg;obtain⟨its,rv,p,hz⟩:=I.list hq;have hl:=rv.length;exact wpAny_pyNext_enum_end (I.ok.hd hc) he hi p.isList (by simp;omega) λh' eb=>⟨rfl,I.turnedL (t':=s.toks) hf λb o hb q=>eb b o (λz=>hb (by simp[z])) q⟩
 self:=λ_ _ _ _ _ st h=>by obtain⟨⟨old,he⟩,_⟩:=st;exact wpAny_pyIter_enum he h
section
variable{X:Cx}
noncomputable def EH(K:Frag)(ta:TA):TI:=λσ H R=>ta σ H λvs H1=>∃a xs,vs=[.ref a]/\SqL K H1 a xs/\R (Ite K a) H1
theorem B6{a:Uj}{ta:TA}{p pos:Pos}{elts:yd}{x1}{tp:Pos}(hg:Gl X "enumerate")(hm:X.mg "enumerate" = w4)(ha:PA X [a] ta)
  (hs:Um [a] X.env=[(w6,eval a X.env)]:=by rfl):PI X (.Tuple elts x1 tp) (.Call (.Name "enumerate" p) [a] [] pos) (EH X.K ta):=by
 intro pins s σ H R I h;refine Call_ (WQ I hg hm boot_enumerate (Jx (thn (ha pos pins s σ H _ I h) λus s1 ⟨vs,H1,I1,r1,q1⟩=>?_) hs wZ));obtain⟨l,xs,e,hq,q⟩:=q1;subst e;cases r1 with
 |cons r rr=>
  cases rr;cases (show _=Value.ref l from r);obtain⟨its,rv,pl,hz⟩:=I1.list hq;refine call_enumerate_list pl.isList λh' he hi hsz kk=>?_;have I2:Inv X pins σ H1 {s1 with heap:=h'}:=I1.kept (t':=s1.toks) kk;refine wpAny_pyIter_enum he ?_
  refine⟨s1.heap.objs.size+1,[s1.heap.objs.size+1,s1.heap.objs.size],_,_,H1,rfl,I2,xp l _ _ (Nat.succ_ne_self _),⟨⟨_,he⟩,hi⟩,λb hb=>?_,q⟩;have hb':b=s1.heap.objs.size+1∨b=s1.heap.objs.size:=by simpa using hb
  rcases hb' with rfl|rfl
  .exact I1.fpOk (JP _) (I1.hok.fresh (JP _))
  .exact I1.fpOk (Qq _) (I1.hok.fresh (Qq _))
end
section
variable{κ:Type}[DecidableEq κ]
noncomputable def ZY(kvs:List (κ×V))(k:κ)(v:V):List (κ×V):=
 if(kvs.any λkv=>decide (kv.1=k))=w5 then kvs.map (λkv=>if kv.1=k then(kv.1,v)else kv)else kvs++[(k,v)]
theorem vW(kvs:List (κ×V))(k:κ)(v:V):(ZY kvs k v).length<=kvs.length+1:=by
 unfold ZY;split
 .rw[Qb];omega
 .rw[Qi,QF,QB];omega
theorem KV.any{kvs:List (κ×V)}{vs:List (κ×Ue)}(r:KV kvs vs)(k:κ):(kvs.any λkv=>decide (kv.1=k))=vs.any λkv=>decide (kv.1=k):=by
 unfold KV at r;induction r with
 |nil=>rfl
 |cons h t ih=>rw[List.any_cons,List.any_cons,ih,h.1]
theorem KV.repl{kvs:List (κ×V)}{vs:List (κ×Ue)}(r:KV kvs vs)(k:κ){y:V}{u:Ue}(ry:RelV y u) :
  KV (kvs.map λkv=>if kv.1=k then(kv.1,y)else kv) (vs.map λkv=>if kv.1=k then(kv.1,u)else kv):=by
 unfold KV at r⊢;induction r with
 |nil=>exact .nil
 |@cons p q ps qs h t ih=>
  rw[Qy,Qy];refine .cons ?_ ih;obtain⟨h1,h2⟩:=h;by_cases e:p.1=k
  .rw[Qm e,Qm (h1.symm.trans e)];exact⟨h1,ry⟩
  .rw[Qw e,Qw (λz=>e (h1.trans z))];exact⟨h1,h2⟩
theorem KV.put{kvs:List (κ×V)}{vs:List (κ×Ue)}(r:KV kvs vs)(k:κ){y:V}{u:Ue}(ry:RelV y u):KV (ZY kvs k y) (stored vs k u):=by
 unfold ZY stored;rw[r.any k];by_cases e:(vs.any λkv=>decide (kv.1=k))=w5
 .rw[Qm e,Qm e];exact r.repl k ry
 .rw[Qw e,Qw e];exact Paired.snoc r ⟨rfl,ry⟩
end
theorem EG{P:Ug}{w:World}{k:Key}{u:Ue}(r:RelV (kV k) u):(WA P w).is k u=w5:=by
 cases k with
 |inl i=>obtain⟨t,e⟩:=(show ∃t,u=Value.int i t from r);subst e;exact vZ P w i t
 |inr x=>obtain⟨t,e⟩:=(show ∃t,u=Value.str x t from r);subst e;exact vY P w x t
section
variable{P:Ug}{w:World}{H:Hp}{h:Heap}{a:Uh}
theorem EF{u:HO}(ok:HOk P w H h)(e:Rd H a u):Zu P w H h a u:=e.ok ok
theorem EE{kvs:List (Key×V)}(ok:HOk P w H h)(e:Rd H a (.dK kvs)):kvs.length<=Uk/\(a==sysModules)=w6/\∃vs,KV kvs vs/\h.DictOf (WA P w) a vs:=
 show Zu P w H h a (.dK kvs)from EF ok e
theorem ED{kvs:List (Key×V)}(ok:HOk P w H h)(e:H a=O (.dK kvs)):kvs.length<=Uk/\(a==sysModules)=w6/\∃vs,KV kvs vs/\h.DictOf (WA P w) a vs:=EE ok (.inl e)
end
section
variable{X:Cx}{pins:List (Uh×Obj)}{σ:St}{H:Hp}{s:Uf}{a:Uh}{y v:V}{u r:Ue}{o:Option V}{A:Around}{E:Ue->Uf->Prop}
theorem Inv.big(I:Inv X pins σ H s):sysModules<s.heap.objs.size:=by have h:mainGlobals<s.heap.objs.size:=(I.mod.glob.keeps I.bk).lt;exact Nat.lt_trans (by decide) h
theorem B5{h':Heap}{t':Nat}{ob:HO}(I:Inv X pins σ H s)(mu:Mut (H a))(hs:Heap.SameBut a s.heap h')(he:∃q,h'.get? a=O q)(new:Zu X.prog X.w (upd H a ob) h' a ob) :
  Inv X pins σ (upd H a ob) {s with heap:=h',toks:=t'}:=
 I.write (x:=a) (e:=a) mu (.inl wZ) (λb q hb z=>(hs.2 b hb).trans z) he new
theorem CM{P:Ug}{w:World}{H':Hp}{h':Heap}{kvs:List (Key×V)}{vs:List (Key×Ue)}(z:kvs.length<=Uk)(hd:(a==sysModules)=w6)(rel:KV kvs vs)(dd:h'.DictOf (WA P w) a vs) :
  Zu P w H' h' a (.dK kvs):=⟨z,hd,vs,rel,dd⟩
end
theorem qy{P:Ug}{w:World}{H:Hp}(h:Heap)(hb:sysModules<h.objs.size):Zu P w H (h.push {cls:=.type "dict", data:=.dict #[]}) h.objs.size (.dK []):=
 ⟨J0 _,beq_eq_false_iff_ne.mpr (Ne.symm (QM hb)),[],.nil,Heap.DictOf.new h⟩
noncomputable def Pe:List (TE×TE)->St->Hp->(List (V×V)->Hp->Prop)->Prop
 |[],_,H,Q=>Q [] H
 |(tk,tv)::r,σ,H,Q=>tk σ H λx H1=>tv σ H1 λy H2=>Pe r σ H2 λps H3=>Q ((x,y)::ps) H3
noncomputable abbrev VV:List (V×V)->List (Ue×Ue)->Prop:=Paired λp q=>RelV p.1 q.1/\RelV p.2 q.2
def PPs(X:Cx)(pos:Pos)(keys:List (Option Uj))(values:yd)(trs:List (TE×TE)):Prop:=
 ∀(pins:List (Uh×Obj))(s:Uf)(σ:St)(H:Hp)(Q:List (V×V)->Hp->Prop),Inv X pins σ H s->Pe trs σ H Q ->
  Ul (model X.prog X.w) X.A (evalPairs (pairTrees keys values X.env pos)) (λvs s'=>∃ps H',Inv X pins σ H' s'/\VV ps vs/\Q ps H') X.xe s
theorem B4{X:Cx}{pos:Pos}:PPs X pos [] [] []:=λpins s σ H Q I h=>pairTrees_nil_walk ⟨[],H,I,.nil,h⟩
theorem qx{X:Cx}{pos:Pos}{k v:Uj}{ks:List (Option Uj)}{vs:yd}{tk tv:TE}{trs:List (TE×TE)}(hk:PE X k tk)(hv:PE X v tv)(hr:PPs X pos ks vs trs) :
  PPs X pos (O k::ks) (v::vs) ((tk,tv)::trs):=λpins s σ H Q I h=>
 pairTrees_cons_walk (thn (hk pins s σ H _ I h) λu s1 ⟨x,H1,I1,rx,q1⟩=>thn (hv pins s1 σ H1 _ I1 q1) λw2 s2 ⟨y,H2,I2,ry,q2⟩=>
  thn (hr pins s2 σ H2 _ I2 q2) λws s3 ⟨ps,H3,I3,rel,q3⟩=>⟨(x,y)::ps,H3,I3,.cons ⟨rx,ry⟩ rel,q3⟩)
noncomputable def VJ(kvs more:List (Key×V)):List (Key×V):=more.foldl (λacc kv=>ZY acc kv.1 kv.2) kvs
theorem KV.merge:∀{more:List (Key×V)}{rs:List (Key×Ue)}{kvs:List (Key×V)}{vs:List (Key×Ue)},KV more rs->KV kvs vs->KV (VJ kvs more) (merged vs rs):=by
 intro more rs kvs vs r;unfold KV at r;induction r generalizing kvs vs with
 |nil=>intro q;exact q
 |@cons p q ps qs h t ih=>
  intro r0;have e:KV (ZY kvs p.1 p.2) (stored vs q.1 q.2):=by have:=r0.put p.1 h.2;rw[←h.1];exact this
  exact ih e
theorem Fo:∀(more kvs:List (Key×V)),(VJ kvs more).length<=kvs.length+more.length
 |[],kvs=>by show kvs.length<=kvs.length+0;omega
 |p::r,kvs=>by
  have h1:=Fo r (ZY kvs p.1 p.2);have h2:=vW kvs p.1 p.2
  show(VJ (ZY kvs p.1 p.2) r).length<=_
  rw[QF];omega
theorem HL{P:Ug}{w:World}:∀{kvs:List (Key×V)}{ws:List (Ue×Ue)},VV (kvs.map λkv=>(kV kv.1,kv.2)) ws->∃rs,Carries (WA P w) ws rs/\KV kvs rs
 |[],_,r=>by rw[List.map_nil]at r;cases r;exact⟨[],True.intro,.nil⟩
 |p::kvs,_,r=>by
  rw[Qy]at r;cases r with
  |@cons a b as bs h t=>obtain⟨rs,c,q⟩:=HL (P:=P) (w:=w) t;obtain⟨b1,b2⟩:=b;exact⟨(p.1,b2)::rs,⟨EG h.1,rfl,c⟩,.cons ⟨rfl,h.2⟩ q⟩
end L2
namespace L2
open PySem PySem.Spec
def Tail(bmB bm:ya):Prop:=∀(X:String)(b:Bool),bmB.contains (.type X)=b->bm.contains (.type X)=b
theorem Tail.base{bmB:ya}:Tail bmB bmB:=λ_ _ h=>h
theorem Tail.own{bmB bm:ya}{D:Uh}(T:Tail bmB bm):Tail bmB (.ref D::bm):=λX b h=>by rw[QW,T X b h];rfl
section
variable{prog:Ug}{w:World}{A:Around}{E:Ue->Uf->Prop}{h:Heap}{g:Array GenState}{d:Drawn}{t:Nat}{os:OsState}{R:Result->Uf->Prop}
variable{nm q:Str}{C N:Uh}{bs bm bmB:ya}{hdct:Bool}{sn:List Str}{sub:ya}{ab:Bool}{col:yi}{dd:yh}{k0 k1 k2 k3 k5:yc}{B newId initId:String}
theorem vf{M:Model}(F:ExcBaseFacts B newId initId bmB)(T:Tail bmB bm){rest:ya}{Q:Unit->Uf->Prop}(hC:h.get? C=O (excClassObj nm q C N bs bm hdct sn sub ab col dd k0 k1 k2 k3 k5 newId))
  (hq:Q () ⟨h,g,d,t,os⟩):Ul M A (checkBuiltinCall newId ⟨.ref C::rest,[]⟩) Q E ⟨h,g,d,t,os⟩:=by
 have aC:(Value.ref C::bm).contains (.type B)=w5:=by rw[QW,T _ _ F.hasB,J9]
 have hstar:=F.noStar;simp only[checkBuiltinCall,F.newKind,F.newSplit,F.newRow]
 repeat (first|refine Qk hC ?_|(refine QN hC ?_;rw[aC])|refine wpAny_staticBase_exc hC ?_|refine wpAny_madeBy_exc hC ?_|simp only[bne_self_eq_false,JJ,Ub] | wp_step)
 exact hq
theorem qw(F:ExcBaseFacts B newId initId bmB)(T:Tail bmB bm){rest:ya}(hC:h.get? C=O (excClassObj nm q C N bs bm hdct sn sub ab col dd k0 k1 k2 k3 k5 newId))
  (hq:R (.ok (.ret (.ref (h.objs.size+1)))) ⟨(h.push {cls:=.type "tuple", data:=.seq rest.toArray}).push
   {cls:=.ref C,data:=.fields #[.ref h.objs.size,.none,.none,.none,.bool w6,.none]},g,d,t,os⟩) (hrest:rest.length<=Uk) :
  codeAny (model prog w) A (.builtin newId ⟨.ref C::rest,[]⟩) R ⟨h,g,d,t,os⟩:=by
 have hends:=F.ends;have yT:(Value.ref C::bm).contains (.type B)=w5:=by rw[QW,T _ _ F.hasB,J9]
 have hcA:(Value.ref C::bm).contains (.type "AttributeError")=w6:=by rw[QW,T _ _ F.noAttr];rfl
 have hcN:(Value.ref C::bm).contains (.type "NameError")=w6:=by rw[QW,T _ _ F.noName];rfl
 refine codeAny_builtinAt F.entry ?_;unfold Builtin.«BaseException.__new__»;refine wpAt_bind ?_;show wpAt _ _ _ (stack >>= _) _ _ _;refine wpAt_bind (wpAt_stack λp below=>wpAt_of_wpAny ?_)
 wp_walk
 refine wpAt_of_wpAny ?_;rw[F.owner]
 repeat (first|with_reducible refine wpAny_madeHere_exc F.canon hC ?_|with_reducible refine Qk hC ?_|(with_reducible refine QN hC ?_;first|rw[yT] | rw[hcA] | rw[hcN])|wp_step)
 show R _ _;rw[Heap.size_push];exact hq
def Mg(M:Model)(C fI:Uh)(h:Heap):Prop:=∀(A:Around)(E:Ue->Uf->Prop)(Q:yc->Uf->Prop)(h':Heap)(g:Array GenState)(d:Drawn)(t:Nat)(os:OsState),
 (∀b o,h.get? b=O o->h'.get? b=O o)->Q (O (.ref fI)) ⟨h',g,d,t,os⟩->Ul M A (typeLookup (.ref C) "__init__") Q E ⟨h',g,d,t,os⟩
theorem ve(F:ExcBaseFacts B newId initId bmB)(T:Tail bmB bm){rest:ya}{fI:Uh}{oI:Obj}{Q:Fin->Uf->Prop}
  (hC:h.get? C=O (excClassObj nm q C N bs bm hdct sn sub ab col dd k0 k1 k2 k3 k5 newId)) (hi:Mg (model prog w) C fI h)
  (hfI:h.get? fI=O oI) (hfc:oI.cls=.type "function")
  (hq:∀h' e,Heap.MadeExcOf h h' e (.ref C) rest->h.objs.size<=e ->
   Ul (model prog w) A (call (.ref fI) (.ref e::rest)) (λr s'=>r=.none/\Q (.done (.ret (.ref e))) s') E ⟨h',g,d,t,os⟩) (hrest:rest.length<=Uk) :
  Ul (model prog w) A (Builtin.«type.__call__» ⟨.ref C::rest,[]⟩) Q E ⟨h,g,d,t,os⟩:=by
 repeat (first|with_reducible refine Qk hC ?_|with_reducible refine wpAny_madeBy_exc hC ?_|wp_step)
 refine codeAny_call_builtin_code (Code.quiet_builtin _ F.quiet) (vf F T hC ?_);refine qw F T hC ?_ hrest;show Ul _ _ _ _ _ _
 have hC₁:=Qe {cls:=.ref C,data:=.fields #[.ref h.objs.size,.none,.none,.none,.bool w6,.none]}
  (Qe {cls:=.type "tuple", data:=.seq rest.toArray} hC)
 have hfI₁:=Qe {cls:=.ref C,data:=.fields #[.ref h.objs.size,.none,.none,.none,.bool w6,.none]}
  (Qe {cls:=.type "tuple", data:=.seq rest.toArray} hfI)
 have hget:((h.push {cls:=.type "tuple", data:=.seq rest.toArray}).push
   {cls:=.ref C,data:=.fields #[.ref h.objs.size,.none,.none,.none,.bool w6,.none]}).get? (h.objs.size+1)=O
   {cls:=.ref C,data:=.fields #[.ref h.objs.size,.none,.none,.none,.bool w6,.none]}:=by heap_get
 have hcC:(Value.ref C::bm).contains (.ref C)=w5:=by simp
 unfold isInstance
 repeat (first|with_reducible refine Qk hget ?_|(with_reducible refine QN hC₁ ?_;rw[hcC])|wp_step)
 show Ul _ _ (typeLookup (.ref C) _) _ _ _;refine hi _ _ _ _ _ _ _ _ (λb o hb=>Qe _ (Qe _ hb)) ?_;refine JD (Qd ?_);unfold bindSpecial;refine Qd (wpAny_typeOf (T:= "function") ⟨_,hfI₁,hfc⟩ ?_);rw[Qm (by decide)];refine Qj (Qd (QI (hq _ (h.objs.size+1) ⟨λb o hb=>Qe _ (Qe _ hb),Heap.get?_none_of_le (JP _),h.objs.size,hget,Heap.get?_none_of_le (Qq _),?_⟩ (JP _)) (λr s' hr=>?_) λ_ _ x=>x))
 .exact Qe _ (Heap.get?_push_at wZ wZ)
 .obtain⟨rfl,hQ⟩:=hr
  wp_walk
  exact hQ
theorem xo(F:ExcBaseFacts B newId initId bmB)(T:Tail bmB bm){rest:ya}{fI:Uh}{oI:Obj}{Q:Ue->Uf->Prop}
  (hC:h.get? C=O (excClassObj nm q C N bs bm hdct sn sub ab col dd k0 k1 k2 k3 k5 newId)) (hi:Mg (model prog w) C fI h)
  (hfI:h.get? fI=O oI) (hfc:oI.cls=.type "function")
  (hq:∀h' e,Heap.MadeExcOf h h' e (.ref C) rest->h.objs.size<=e ->
   Ul (model prog w) (A.under (.builtin "type.__call__" ⟨.ref C::rest,[]⟩)) (call (.ref fI) (.ref e::rest)) (λr s'=>r=.none/\Q (.ref e) s') E ⟨h',g,d,t,os⟩) (hrest:rest.length<=Uk) :
  Ul (model prog w) A (call (.ref C) rest) Q E ⟨h,g,d,t,os⟩:=by
 have f1:=tc_lookup;have f2:=tc_bind (.ref C);have hT:(⟨h,g,d,t,os⟩:Uf).TypeIs (.ref C) "type" :=⟨_,hC,rfl⟩
 refine wpAny_call (codeAny_of_tree ?_);show Ul _ _ (callAny (.ref C) _) _ _ _
 repeat (any_goals (first|assumption|with_reducible refine Qk hC ?_|wp_step))
 refine⟨rfl,?_⟩;refine codeAny_call_builtin_at (Code.quiet_builtin _ (by decide +kernel)) entry_typeCall (wpAny_check_type_call_sub hC (ve (hrest:=hrest) F T hC hi hfI hfc λh' e hm hz=>?_));exact hq h' e hm hz
end
def K8(M:Model)(C:Uh)(name:Str)(r:yc)(h:Heap):Prop:=∀(A:Around)(E:Ue->Uf->Prop)(Q:yc->Uf->Prop)(h':Heap)(g:Array GenState)(d:Drawn)(t:Nat)(os:OsState),
 (∀b o,h.get? b=O o->h'.get? b=O o)->Q r ⟨h',g,d,t,os⟩->Ul M A (typeLookup (.ref C) name) Q E ⟨h',g,d,t,os⟩
theorem K8.keeps{M:Model}{C:Uh}{name:Str}{r:yc}{h h':Heap}(x:K8 M C name r h)(k:∀b o,h.get? b=O o->h'.get? b=O o):K8 M C name r h':=
 λA E Q h2 g d t os k2 q=>x A E Q h2 g d t os (λb o e=>k2 b o (k b o e)) q
theorem K8.at{M:Model}{A:Around}{E:Ue->Uf->Prop}{Q:yc->Uf->Prop}{C:Uh}{name:Str}{r:yc}{h:Heap}{g:Array GenState}{d:Drawn}{t:Nat}{os:OsState}(x:K8 M C name r h)(q:Q r ⟨h,g,d,t,os⟩):Ul M A (typeLookup (.ref C) name) Q E ⟨h,g,d,t,os⟩:=
 x A E Q h g d t os (λ_ _ e=>e) q
section
variable{prog:Ug}{w:World}{A:Around}{E:Ue->Uf->Prop}{h:Heap}{g:Array GenState}{d:Drawn}{t:Nat}{os:OsState}{R:Result->Uf->Prop}
variable{nm q:Str}{C N x:Uh}{bs bm bmB:ya}{hdct:Bool}{sn:List Str}{sub:ya}{ab:Bool}{col:yi}{dd:yh}{k0 k1 k2 k3 k5:yc}{B newId sa owner:String}{mN mA:Str->yc}{name:Str}{v:Ue}
def Y1(M:Model)(l:ya)(name:Str)(r:yc)(h:Heap):Prop:=∀(A:Around)(E:Ue->Uf->Prop)(Q:yc->Uf->Prop)(h':Heap)(g:Array GenState)(d:Drawn)(t:Nat)(os:OsState),
 (∀b o,h.get? b=O o->h'.get? b=O o)->Q r ⟨h',g,d,t,os⟩->Ul M A (lookupAlong l name) Q E ⟨h',g,d,t,os⟩
theorem Y1.base{M:Model}{y:yc}(hm:mroOf (.type B)=pure bm)(hB:typeLookup (.type B) name=pure y):Y1 M bm name y h:=λA E Q h' g d t os k q=>by rw[typeLookup_eq,hm]at hB;have hrest:lookupAlong bm name=pure y:=hB;rw[hrest];exact Qj q
theorem Y1.hit{M:Model}{D:Uh}{c0:Ue}{yJ:yh}{cd:ClassData}{sl:Array yc}(hD:h.get? D=O {cls:=c0,dict:=yJ,data:=.cls cd,slots:=sl})(hn:h.Ns cd.ns mN)(hi:mN name=O v):Y1 M (.ref D::bm) name (O v) h:=λA E Q h' g d t os k q=>by rw[lookupAlong_cons];refine Qd (wpAny_classOwn_cls (k _ _ hD) (hn.keeps k) ?_);rw[hi];exact Qj q
theorem Y1.miss{M:Model}{D:Uh}{r:yc}{c0:Ue}{yJ:yh}{cd:ClassData}{sl:Array yc}(hD:h.get? D=O {cls:=c0,dict:=yJ,data:=.cls cd,slots:=sl})(hn:h.Ns cd.ns mN)(hi:mN name=w4)(f:Y1 M bm name r h):Y1 M (.ref D::bm) name r h:=λA E Q h' g d t os k q=>by rw[lookupAlong_cons];refine Qd (wpAny_classOwn_cls (k _ _ hD) (hn.keeps k) ?_);rw[hi];exact f A E Q h' g d t os k q
theorem K8.of{M:Model}{r:yc}(hC:h.get? C=O (excClassObj nm q C N bs bm hdct sn sub ab col dd k0 k1 k2 k3 k5 newId))(f:Y1 M (.ref C::bm) name r h):K8 M C name r h:=λA E Q h' g d t os k q=>by rw[typeLookup_eq];exact Qd (wpAny_mroOf_exc (k _ _ hC) (f A E Q h' g d t os k q))
theorem xn{M:Model}{o:Obj}{nameV:Ue}{Q:Unit->Uf->Prop}(SF:StoreFacts B bmB sa owner)(T:Tail bmB bm)
  (hC:h.get? C=O (excClassObj nm q C N bs bm hdct sn sub ab col dd k0 k1 k2 k3 k5 newId)) (hx:h.get? x=O o) (hc:o.cls=.ref C) (hq:Q () ⟨h,g,d,t,os⟩) :
  Ul M A (checkBuiltinCall sa ⟨[.ref x,nameV,v],[]⟩) Q E ⟨h,g,d,t,os⟩:=by
 have yT:(Value.ref C::bm).contains (.type owner)=w5:=by rw[QW,T _ _ SF.hasOwner,J9]
 have ha:=SF.args (.ref x) nameV v;simp only[checkBuiltinCall,SF.kind,SF.split];refine Qd ?_
 .unfold isInstance
  repeat (first|(with_reducible refine Qk hx ?_;rw[hc])|(with_reducible refine QN hC ?_;rw[yT])|wp_step)
  cases hsig:Manifest.signature? sa with
  |none=>exact Qj hq
  |some sig=>simp only[argsOk,hsig]at ha;have h2:Bind.checkArgs sa sig ⟨[.ref x,nameV,v],[]⟩=pure ():=ha;show Ul M A (Bind.checkArgs sa sig ⟨[.ref x,nameV,v],[]⟩) Q E _;rw[h2];exact Qj hq
theorem wC{tk:Tok}{Q:PySem.Fin->Uf->Prop}{ns:List Str}(hpass:refuseLoop (.ref x) "__setattr__" bm=pure ())
  (hC:h.get? C=O (excClassObj nm q C N bs bm w5 sn sub ab col dd k0 k1 k2 k3 k5 newId)) (hf:K8 (model prog w) C name w4 h) (I:h.InstFk x C mA)
  (hq:∀h' tk',h'.InstFk x C (λy=>if y=name then O v else mA y) ->
   (∀b o,b≠x->(∀o₀ dx,h.get? x=O o₀->o₀.dict=O dx->b≠dx)->h.get? b=O o->h'.get? b=O o) ->
   (∀o₀,h.get? x=O o₀->∃o₁,h'.get? x=O o₁/\o₁.cls=o₀.cls/\o₁.data=o₀.data/\o₁.slots=o₀.slots/\∀dx,o₀.dict=O dx->o₁.dict=O dx)->(∀o₀ o₁ dx,h.get? x=O o₀->o₀.dict=w4->h'.get? x=O o₁->o₁.dict=O dx->h.objs.size<=dx)->Q (.done (.ret .none)) ⟨h',g,d,tk',os⟩) (hw:PySem.Within mA ns) (hsz:ns.length<=1000) :
  Ul (model prog w) A (Builtin.«object.__setattr__» ⟨[.ref x,.str name tk,v],[]⟩) Q E ⟨h,g,d,t,os⟩:=by
 obtain⟨o,hx,hc,hnc,hd⟩:=I;have hs2:ns.length<=Uk:=by rw[Jz];omega
 unfold Builtin.«object.__setattr__»
 repeat (first|rw[refuse_eq] | (rw[refuseLoop_ref,hpass])|(with_reducible refine Qk hx ?_;rw[hc])|with_reducible refine wpAny_mroOf_exc hC ?_|with_reducible refine hf.at ?_|wp_step)
 rcases hd with ⟨hdn,hmA⟩|⟨dx,za,hne,hns,hed⟩
 ·
  rw[hdn,if_neg (by simp[typeHasDict])];split
  .rename_i hcd
   cases hcd
  split
  .rename_i c hcd
   exact absurd hcd (hnc c)
  .have hx₁:(h.push {cls:=.type "dict", data:=.dict #[]}).get? x=O o:=Qe _ hx
   have hxs:x≠h.objs.size:=QM (Qf hx);refine Qd (wpAny_alloc' ?_);refine Qd (wpAny_update' hx₁ ?_);refine Qj ?_
   have hgd:((h.push {cls:=.type "dict", data:=.dict #[]}).update x λo=>{cls:=o.cls,dict:=O h.objs.size,data:=o.data,slots:=o.slots}).get? h.objs.size
     = O {cls:=.type "dict", data:=.dict #[]}:=
    (Heap.get?_update_ne _ _ _ _ hxs.symm).trans (Heap.get?_push_at wZ wZ)
   have hnd:((h.push {cls:=.type "dict", data:=.dict #[]}).update x λo=>{cls:=o.cls,dict:=O h.objs.size,data:=o.data,slots:=o.slots}).Ns h.objs.size (λ_=>w4):=
    ⟨_,#[],_,hgd,rfl,λe he=>absurd he (by simp),λ_=>rfl⟩
   show Ul _ _ (Builtin.ObjectAttr.storeInDict h.objs.size (.str name tk) name v) _ _ _;unfold Builtin.ObjectAttr.storeInDict Builtin.ObjectAttr.newKeyGuard;refine Qd (Qj (Qd (wpAny_nsSet1EFk (Heap.Ns1.of_empty hnd) λh' hn' hs yM=>?_)));obtain⟨oD,esD,epD,hoD,hdD,hcD⟩:=hn'.count (PySem.Within.cons name v PySem.Within.nil);refine Qd (wpAny_lookBehind hoD (by rw[hdD];exact pastItsLine_dict (QH hcD (by rw[QF,QB,Jz];omega))) ?_)
   wp_walk
   have hx':h'.get? x=O {cls:=o.cls,dict:=O h.objs.size,data:=o.data,slots:=o.slots}:=?_
   refine hq h' _ ⟨{cls:=o.cls,dict:=O h.objs.size,data:=o.data,slots:=o.slots},hx',hc,hnc,.inr ⟨h.objs.size,rfl,hxs.symm,?_,(let ⟨od',e',c',d'⟩:=yM _ hgd;⟨od',e',c',d'⟩)⟩⟩ (λb ob hbx _ hb=>?_)
    (λo₀ h₀=>by obtain rfl:o=o₀:=Jf (hx.symm.trans h₀);exact⟨_,hx',rfl,rfl,rfl,λdx e=>by rw[hdn]at e;cases e⟩)
    (λo₀ o₁ dx _ _ e1 e2=>by rw[hx']at e1;cases e1;cases e2;exact Qq _)
   .obtain⟨o',es,ep,e1,e2,e3,eu,e4⟩:=hn'
    exact⟨o',es,ep,e1,e2,e3,eu,λy=>by rw[e4 y];by_cases hy:y=name<;>simp[hy,hmA]⟩
   .exact(hs.2 b (QM (Qf hb))).trans ((Heap.get?_update_ne _ _ _ _ hbx).trans (Qe _ hb))
   .refine(hs.2 x hxs).trans (Ja _ hx₁ ?_)
    have hfr:=(Heap.get?_some_iff.mp hx).2;obtain⟨oc,od,odt,osl⟩:=o;cases odt<;>first|rfl|exact hfr
 ·
  rw[za];refine Qj ?_;show Ul _ _ (Builtin.ObjectAttr.storeInDict dx (.str name tk) name v) _ _ _;unfold Builtin.ObjectAttr.storeInDict Builtin.ObjectAttr.newKeyGuard;refine Qd (Qj (Qd (wpAny_nsSet1EFk hns λh' hn' hs yM=>?_)));obtain⟨oD,esD,epD,hoD,hdD,hcD⟩:=hn'.count (PySem.Within.cons name v hw);refine Qd (wpAny_lookBehind hoD (by rw[hdD];exact pastItsLine_dict (QH hcD (by rw[QF,Jz];omega))) ?_)
  wp_walk
  refine hq h' _ ⟨o,(hs.2 x hne.symm).trans hx,hc,hnc,.inr ⟨dx,za,hne,hn',(let ⟨od,e,c,dd⟩:=hed;let ⟨od',e',c',d'⟩:=yM od e;⟨od',e',c'.trans c,d'.trans dd⟩)⟩⟩ (λb ob _ hbd hb=>?_)
   (λo₀ h₀=>⟨o₀,(hs.2 x hne.symm).trans h₀,rfl,rfl,rfl,λ_ e=>e⟩)
   (λo₀ o₁ dx' e0 e1 _ _=>by rw[hx]at e0;cases e0;rw[za]at e1;cases e1)
  exact(hs.2 b (hbd o dx hx za)).trans hb
theorem Gy{Q:Unit->Uf->Prop}{ns:List Str}(SF:StoreFacts B bmB sa owner)(T:Tail bmB bm)(hpass:refuseLoop (.ref x) "__setattr__" bm=pure ())
  (hC:h.get? C=O (excClassObj nm q C N bs bm w5 sn sub ab col dd k0 k1 k2 k3 k5 newId)) (hfs:K8 (model prog w) C "__setattr__" (O (.builtin sa)) h) (hf:K8 (model prog w) C name w4 h) (I:h.InstFk x C mA)
  (hq:∀h' tk',h'.InstFk x C (λy=>if y=name then O v else mA y) ->
   (∀b o,b≠x->(∀o₀ dx,h.get? x=O o₀->o₀.dict=O dx->b≠dx)->h.get? b=O o->h'.get? b=O o) ->
   (∀o₀,h.get? x=O o₀->∃o₁,h'.get? x=O o₁/\o₁.cls=o₀.cls/\o₁.data=o₀.data/\o₁.slots=o₀.slots/\∀dx,o₀.dict=O dx->o₁.dict=O dx)->(∀o₀ o₁ dx,h.get? x=O o₀->o₀.dict=w4->h'.get? x=O o₁->o₁.dict=O dx->h.objs.size<=dx)->Q () ⟨h',g,d,tk',os⟩) (hw:PySem.Within mA ns) (hsz:ns.length<=1000) :
  Ul (model prog w) A (setAttr (.ref x) name v) Q E ⟨h,g,d,t,os⟩:=by
 obtain⟨o,hx,hc,_⟩:=id I;have f3:=SF.slot.bind (.ref x);unfold setAttr callSpecial? specialOf
 repeat (any_goals (first|assumption|(with_reducible refine Qk hx ?_;rw[hc])|with_reducible refine hfs.at ?_|wp_step))
 refine Jd SF.slot.plain SF.entry (xn SF T hC hx hc (wC hpass hC hf I (λh' tk' I' hk hsame hnew=>?_) hw hsz))
 repeat (any_goals (first|assumption|wp_step))
 exact hq h' tk' I' hk hsame hnew
theorem Hq{M:Model}{o:Obj}{nameV:Ue}{Q:Unit->Uf->Prop}(T:Tail bmB bm)(hb:bmB.contains (.type "BaseException")=w5)(hC:h.get? C=O (excClassObj nm q C N bs bm hdct sn sub ab col dd k0 k1 k2 k3 k5 newId))
  (hx:h.get? x=O o) (hc:o.cls=.ref C) (hq:Q () ⟨h,g,d,t,os⟩):Ul M A (checkBuiltinCall "BaseException.__getattribute__" ⟨[.ref x,nameV],[]⟩) Q E ⟨h,g,d,t,os⟩:=by
 have hk:builtinKind "BaseException.__getattribute__" = O .slot:=by decide +kernel
 have hsplit:splitId "BaseException.__getattribute__" = O ("BaseException", "__getattribute__"):=by decide +kernel
 have yT:(Value.ref C::bm).contains (.type "BaseException")=w5:=by rw[QW,T _ _ hb];rfl
 have ha:=PySem.F.args_bexc_ga (.ref x) nameV;simp only[checkBuiltinCall,hk,hsplit];refine Qd ?_
 .unfold isInstance
  repeat (first|(with_reducible refine Qk hx ?_;rw[hc])|(with_reducible refine QN hC ?_;rw[yT])|wp_step)
  exact hq
theorem vV{tk:Tok}{Q:PySem.Fin->Uf->Prop}(hC:h.get? C=O (excClassObj nm q C N bs bm w5 sn sub ab col dd k0 k1 k2 k3 k5 newId))(hf:K8 (model prog w) C name w4 h)(I:h.InstFk x C mA)(hv:mA name=O v)(hq:Q (.done (.ret v)) ⟨h,g,d,t,os⟩) :
  Ul (model prog w) A (Builtin.«object.__getattribute__» ⟨[.ref x,.str name tk],[]⟩) Q E ⟨h,g,d,t,os⟩:=by
 obtain⟨o,hx,hc,hnc,hd⟩:=I;rcases hd with ⟨_,hmA⟩|⟨dx,za,hne,hns,_⟩
 .rw[hmA name]at hv;cases hv
 unfold Builtin.«object.__getattribute__»
 repeat (first|(with_reducible refine Qk hx ?_;rw[hc])|with_reducible refine hf.at ?_|wp_step)
 split
 .rename_i c hcd
  exact absurd hcd (hnc c)
 unfold instanceDict
 repeat (first|(with_reducible refine Qk hx ?_;rw[hc])|with_reducible refine Qk hC ?_|wp_step)
 rw[za]
 repeat (first|(with_reducible refine wpAny_nsGet hns.ns ?_;rw[hv])|wp_step)
 exact hq
theorem vd{expr:Bool}{Q:Ue->Uf->Prop}(FB:ExcAttrFacts B)(T:Tail bmB bm)(hb:bmB.contains (.type "BaseException")=w5)(hC:h.get? C=O (excClassObj nm q C N bs bm w5 sn sub ab col dd k0 k1 k2 k3 k5 newId))
  (fg:K8 (model prog w) C "__getattribute__" (O (.builtin "BaseException.__getattribute__")) h) (fa:K8 (model prog w) C "__getattr__" none h) (hf:K8 (model prog w) C name w4 h) (I:h.InstFk x C mA) (hv:mA name=O v) (hh:handedOut v=pure v) (hq:Q v ⟨h,g,d,t+1,os⟩) :
  Ul (model prog w) A (getAttr (.ref x) name expr) Q E ⟨h,g,d,t,os⟩:=by
 obtain⟨o,hx,hc,_⟩:=id I;have f3:=FB.ga.bind (.ref x);have hx0:(expr&&onTheHeap (Value.builtin "BaseException.__getattribute__"))=w6:=by cases expr<;>rfl
 have hx2:(Value.builtin "BaseException.__getattribute__" == Value.builtin "object.__getattribute__")=w6:=by decide +kernel
 have hx1:(onTheHeap (Value.ref C)&&Value.builtin "BaseException.__getattribute__" == Value.builtin "object.__getattribute__")=w6:=by rw[hx2];rfl
 unfold getAttr
 repeat (any_goals (first|assumption|(with_reducible refine Qk hx ?_;rw[hc])|with_reducible refine fg.at ?_|with_reducible refine fa.at ?_|wp_step))
 refine Jd FB.ga.plain PySem.F.entry_bexc_ga (Hq T hb hC hx hc (vV hC hf I hv ?_))
 repeat (any_goals (first|assumption|wp_step))
end
theorem W7{o:Obj}{vs:Array Ue}(f:Array Ue->Array Ue)(h:o.data=.fields vs):Obj.mapFields f o = {o with data:=.fields (f vs)}:=by obtain⟨c,d,dt,sl⟩:=o;cases h;rfl
def Tb(h:Heap)(e:Uh)(vs:Array Ue)(fl:Ue):Prop:=∃T oT ts,vs[1]?=O (.ref T)/\T≠e/\h.get? T=O oT/\oT.data=.fields ts/\ts[3]?=O fl
def Fly(h:Heap)(e:Uh):Prop:=∃oe vs,h.get? e=O oe/\oe.data=.fields vs/\(vs[1]?=O .none∨Tb h e vs .none)
structure Pd(fs:yf)(e:Uh)(h h':Heap):Prop where
 keep:∀b o,b≠e->b∉fs->h.get? b=O o->h'.get? b=O o
 slot:∀b o,b≠e->h.get? b=O o->∃sl,h'.get? b=O {o with slots:=sl}
 own:∀oe,h.get? e=O oe->∃vs,h'.get? e=O {oe with data:=.fields vs}
section
variable{M:Model}{A:Around}{E:Ue->Uf->Prop}{s:Uf}{base:Heap}{env:Env}{outer:List Env}{L e:Uh}
theorem newEntry{oe:Obj}{vs:Array Ue}{head:Ue}{hadNext:Bool}{Q:Unit->Uf->Prop}(hfr:A.frames=O (env::outer))(hl:s.heap.FunFrames base (env::outer))(hf:env.frame=O L)
  (he:s.heap.get? e=O oe) (hd:oe.data=.fields vs) (hsz:1<vs.size)
  (h:∀h',Pd (frs (env::outer)) e s.heap h'->Fly h' e->Q () {s with heap:=h'}) :
  Ul M A (do let a ←frameOf env;let pl ←entryPlaceOf L hadNext;let b ←EntryCells.newEntry head a .none (rawInt L) .none pl;setField (.ref e) 1 b) (λ_ s'=>Ul M A (setFlight (.ref e) w4) Q E s') E s:=by
 have hene:e∉(env::outer).filterMap (·.frame):=λhm=>by obtain⟨_,o,ho,hnf⟩:=hl.mem hm;rw[he]at ho;injection ho with ho;subst ho;exact hnf vs hd
 refine Qd (wpAny_frameOf_fun hfr hl hf λh₁ hs₁=>?_);refine Qd (wpAny_entryPlaceOf λpl hpl=>?_);unfold EntryCells.newEntry newFields;refine Qd (wpAny_newObj_type ?_ (hpl.sizeOk5 _ _ _ _ _));have he₁:h₁.get? e=O oe:=(hs₁.2.1 e hene).trans he;have he₂:=Qe (h:=h₁) {cls:=.type "traceback", dict:=w4,data:=.fields ([head,.ref L,.none,rawInt L,.none]++(if pl.isEmpty then Uq 6 Value.none else pl)).toArray} he₁;refine wpAny_setField he₂ hd hsz ?_;have ah:h₁.objs.size≠e:=JK (Qf he₁);have hd₃:=Obj.data_mapFields hd (·.setIfInBounds 1 (Value.ref h₁.objs.size));have he₃:=Ja (Obj.mapFields (·.setIfInBounds 1 (Value.ref h₁.objs.size))) he₂ (Obj.isFreed_of_fields hd₃)
 have hT₃:=(QP (h₁.push {cls:=.type "traceback", dict:=w4,data:=.fields ([head,.ref L,.none,rawInt L,.none]++(if pl.isEmpty then Uq 6 Value.none else pl)).toArray})
  (Obj.mapFields (·.setIfInBounds 1 (Value.ref h₁.objs.size))) (Ne.symm ah)).trans (QD h₁ wZ)
 unfold setFlight;refine wpAny_bind (wpAny_field he₃ hd₃ (x:=.ref h₁.objs.size) (by simp[hsz]) ?_);rw[if_pos (show(Value.ref h₁.objs.size != Value.none)=w5 from by simp)];refine wpAny_setField hT₃ wZ (by simp only[QJ,Qi,QF,QB]<;>omega) (h _ ?_ ?_)
 .have keep:∀b o,b≠e->h₁.get? b=O o ->
    (((h₁.push {cls:=.type "traceback", dict:=w4,data:=.fields ([head,.ref L,.none,rawInt L,.none]++(if pl.isEmpty then Uq 6 Value.none else pl)).toArray}).update e (Obj.mapFields (·.setIfInBounds 1 (Value.ref h₁.objs.size)))).update h₁.objs.size
     (Obj.mapFields (·.setIfInBounds 3 ((none:yh).elim Value.none λf=>rawInt f)))).get? b=O o:=λb o yN hb=>by
   have aa:h₁.objs.size≠b:=JK (Qf hb);rw[QP _ _ aa,QP _ _ (Ne.symm yN)];exact Qe _ hb
  refine⟨λb o hb hf hg=>keep b o hb ((hs₁.2.1 b hf).trans hg),λb o hb hg=>?_,λoe' z=>?_⟩
  .obtain⟨sl,hs⟩:=hs₁.2.2 b o hg
   exact⟨sl,keep b _ hb hs⟩
  .rw[he]at z;cases z
   exact⟨_,by rw[QP _ _ ah,he₃,W7 _ hd]⟩
 .refine⟨_,_,?_,hd₃,.inr ⟨h₁.objs.size,_,_,by simp[hsz],ah,Heap.get?_update_self _ hT₃ (Obj.isFreed_of_fields (Obj.data_mapFields rfl _)),Obj.data_mapFields rfl _,by first|(simp;done)|(rcases hpl with rfl|⟨_,_,_,_,_,_,_,rfl⟩<;>simp)⟩⟩
  rw[QP _ _ ah];exact he₃
theorem note{Q:Unit->Uf->Prop}(hfr:A.frames=O (env::outer))(hl:s.heap.FunFrames base (env::outer))(hf:env.frame=O L)(x:Fly s.heap e)
  (h:∀h',Pd (frs (env::outer)) e s.heap h'->Fly h' e->Q () {s with heap:=h'}):Ul M A (noteFrame (.ref e) env) (λ_ s'=>Ul M A (setFlight (.ref e) w4) Q E s') E s:=by
 obtain⟨oe,vs,he,hd,h1⟩:=x;unfold noteFrame;simp only[hf];rcases h1 with h1|⟨T,oT,ts,h1,ah,hT,zI,h3⟩
 .refine Qd (Q7 he hd h1 ?_)
  rw[Qw (by decide)];exact newEntry hfr hl hf he hd (JA.mp h1).1 h
 .refine Qd (Q7 he hd h1 ?_)
  rw[if_pos (show(Value.ref T != Value.none)=w5 from by simp)];refine Qd (Q7 hT zI h3 ?_);rw[if_neg (show ¬((Value.none==rawInt L)=w5)from by simp[rawInt])];obtain⟨hs3,hv3⟩:=JA.mp h3;refine Qd (wpAny_setField hT zI hs3 ?_)
  have same:∀b o,s.heap.get? b=O o->(s.heap.update T (Obj.mapFields (·.setIfInBounds 3 Value.none))).get? b=O o:=λb o hb=>by
   by_cases aa:b=T
   .subst aa
    rw[hT]at hb;cases hb;rw[Ja _ hT (Obj.isFreed_of_fields (Obj.data_mapFields zI _)),W7 _ zI]
    have:ts.setIfInBounds 3 Value.none=ts:=by
     apply Array.ext_getElem?;intro i;rw[Array.getElem?_setIfInBounds];split
     .rename_i z
      subst z;exact h3.symm
     .rfl
    rw[this,←zI]
   .rw[QP _ _ (Ne.symm aa)];exact hb
  exact newEntry hfr (hl.of_keeps λb o hb hnf=>⟨o,same b o hb,rfl⟩) hf (same e oe he) hd (JA.mp h1).1
   λh' p t=>h h' ⟨λb o a c g=>p.keep b o a c (same b o g),λb o a g=>p.slot b o a (same b o g),λoe' z=>p.own oe' (same e oe' z)⟩ t
theorem CL{Q:Unit->Uf->Prop}(hfr:A.frames=O (env::outer))(hl:s.heap.FunFrames base (env::outer))(hf:env.frame=O L)(x:Fly s.heap e)
  (h:∀h',Pd (frs (env::outer)) e s.heap h'->Fly h' e->Q () {s with heap:=h'}):Ul M A (leaving env (.ref e)) Q E s:=by
 unfold leaving;exact Qd (note hfr hl hf x h)
end
end L2
namespace L2
open PySem PySem.Spec PyProof.Rows PySem.Calls PyProof.V
noncomputable def XO(fr:Bool)(e C:Uh)(dd:yh):Heap->Prop:=λh=>∃vs sl,h.get? e=O {cls:=.ref C,dict:=dd,data:=.fields vs,slots:=sl}/\(fr=w5->vs[1]?=O .none/\∃t0,vs[0]?=O (.ref t0))
theorem XO.ok{P:Ug}{w:World}{H:Hp}{h:Heap}{fr:Bool}{e C:Uh}{dd:yh}(x:XO fr e C dd h):Zu P w H h e (.ext (XO fr e C dd)):=
 ⟨x,let ⟨_,_,q,_⟩:=x;⟨_,q⟩,λh1 h2 ⟨vs,sl,q,z⟩ k=>⟨vs,sl,k _ q,z⟩⟩
theorem XO.fly{h:Heap}{e C:Uh}{dd:yh}(x:XO w5 e C dd h):Fly h e:=let ⟨vs,_,q,z⟩:=x;⟨_,vs,q,rfl,.inl (z wZ).1⟩
theorem XO.old{h:Heap}{fr:Bool}{e C:Uh}{dd:yh}(x:XO fr e C dd h):XO w6 e C dd h:=let ⟨vs,sl,q,_⟩:=x;⟨vs,sl,q,λz=>nomatch z⟩
noncomputable def CX1(P:Ug)(w:World):CXT:=λouter H s E v s'=>∃e C dd H',v=.ref e/\s'.os=s.os/\AllBare s'.gens/\Un (frs outer) [] H H' s.heap s'.heap/\HOk P w H' s'.heap/\H' e=O (.ext (XO w6 e C dd))/\Fly s'.heap e/\E (.ref e) w4 H'
section
variable{X:Cx}{pins:List (Uh×Obj)}{σ:St}{H:Hp}{s:Uf}{e C:Uh}{dd:yh}{h':Heap}
theorem Inv.passed(I:Inv X pins σ H s)(hx:H e=O (.ext (XO w6 e C dd)))(p:Pd (frs X.stack) e s.heap h'):Inv X pins σ H {s with heap:=h'}:=by
 have ne:∀b,H b=w4->b≠e:=λb n z=>by rw[z,hx]at n;cases n
 refine I.call (g':=s.gens) (t':=s.toks) (d':=s.drawn) (ch:=[]) ⟨λb o g n f _=>p.keep b o (ne b n) f g,λb o g n _ _=>p.slot b o (ne b n) g,λb o _ n _=>n,λb o g _=>?_,λ_ _ z=>z,λ_ _ _ z=>z,λb ps z=>⟨#[],by rw[z];simp⟩⟩ (λa o q=>?_) I.bare λb z=>absurd z (by simp)
 .by_cases hb:b=e
  .subst hb
   obtain⟨vs,z⟩:=p.own o g;exact⟨_,z⟩
  .obtain⟨sl,z⟩:=p.slot b o hb g
   exact⟨_,z⟩
 .by_cases ha:a=e
  .subst ha
   rw[hx]at q;cases q;obtain⟨⟨vs,sl,g,_⟩,_,_⟩:=I.hok a _ hx;obtain⟨vs',z⟩:=p.own _ g;exact XO.ok ⟨vs',sl,z,λz=>nomatch z⟩
  .refine(I.hok a o q).stay (λb u hb g=>p.keep b u ?_ (λz=>?_) g) (λ_ z=>z) λ_ _ z=>z
   .rcases hb with rfl|hb
    .exact ha
    .rintro rfl;rw[hx]at hb;cases hb
   .have n:=I.stkFree b z
    rcases hb with rfl|hb
    .rw[q]at n;cases n
    .rw[hb]at n;cases n
def Wv(X:Cx)(KX:V->St->Hp->Prop):Prop:=∀(pins:List (Uh×Obj))(σ:St)(H:Hp)(s:Uf)(e C:Uh)(dd:yh),Inv X pins σ H s->H e=O (.ext (XO w6 e C dd))->Fly s.heap e->KX (.ref e) σ H->X.xe (.ref e) s
theorem qv{P:Ug}{w:World}{K:Frag}{mg:Str->yc}{base:Heap}{N:List Str}{qual:Str}{scope:Scope}{f:Uh}{cd:Ue}{A:Around}{outer:List Env}{s₀:Uf}{H₀:Hp}{E:XK} :
  Wv (Zh (CX1 P w) P w K mg base N qual scope f cd A outer s₀ H₀ E) λv _ H=>∃e,v=.ref e/\E (.ref e) w4 H:=by
 intro pins σ H s e C dd I hx fl ⟨e',ee,hE⟩;cases ee;refine CL (L:=s₀.heap.objs.size) I.ok.frames I.stack wZ fl λh' p fl'=>?_;have I':=I.passed hx p
 exact⟨e,C,dd,H,rfl,I'.os,I'.bare,I'.base,I'.hok,hx,fl',hE⟩
theorem Wv.pass{KX:V->St->Hp->Prop}{E:XK}{v:Ue}{s':Uf}(hw:Wv X KX)(I:Inv X pins σ H s)(h:CX1 X.prog X.w X.stack H s E v s')(hk:∀e H,E (.ref e) w4 H->KX (.ref e) σ H):X.xe v s':=by obtain⟨e,C,dd,H',rfl,os,bare,un,hok,hx,fl,hE⟩:=h;obtain⟨hh,g,d,t,os'⟩:=s';obtain rfl:os'=s.os:=os;exact hw pins σ H' _ e C dd (I.call (h':=hh) (g':=g) (d':=d) (t':=t) (ch:=[]) un hok bare (λb z=>absurd z (by simp))) hx fl (hk e H' hE)
end
noncomputable abbrev VB:ya:=[.type "ValueError", .type "Exception", .type "BaseException", .type "object"]
structure XCls(M:Model)(base:Heap)(C:Uh)(bm:ya)(fI:Uh):Prop where
 obj:∃nm q N bs sn sub ab col dd k0 k1 k2 k3 k5,base.get? C=O (excClassObj nm q C N bs bm w5 sn sub ab col dd k0 k1 k2 k3 k5 "ValueError.__new__")
 tail:Tail VB bm
 init:K8 M C "__init__" (O (.ref fI)) base
 fn:∃o,base.get? fI=O o/\o.cls=.type "function"
 sa:K8 M C "__setattr__" (O (.builtin "object.__setattr__")) base
 ga:K8 M C "__getattribute__" (O (.builtin "BaseException.__getattribute__")) base
 gh:K8 M C "__getattr__" none base
 cl:K8 M C "__class__" (O (.builtin "object.__class__")) base
 pass:∀v,refuseLoop v "__setattr__" bm=pure ()
section
variable{X:Cx}{k:Nat}{f C:Uh}{fd:Ui}{ps:List Str}{sp:Sp}{x:Str}{p pos cpos:Pos}{e:Uj}{es:yd}{t:TA}{bm:ya}
theorem xm{pins:List (Uh×Obj)}{σ:St}{H:Hp}{s:Uf}{Q:VK}{us:ya}{vs:List V}(M:XCls (model X.prog X.w) X.base C bm f)(F:FnOk X.prog X.w X.K X.mg X.base CX0 k f fd ps sp)(hr:Room (k+1) X.A)(hb:Ys X.K fd ps [])
  (I:Inv X pins σ H s) (r:Vals vs us) (hl:us.length<=Uk)
  (h:∀a,H a=w4->sp (.ref a::vs) (upd H a (.ext (XO w5 a C w4))) (λv H2=>v=.non/\Q (.ref a) H2) E0) :
  Ul (model X.prog X.w) X.A (call (.ref C) us) (EP X pins σ Q) X.xe s:=by
 obtain⟨nm,q,N,bs,sn,sub,ab,col,dd,k0,k1,k2,k3,k5,hC⟩:=M.obj;obtain⟨oI,hfI,hfc⟩:=M.fn;obtain⟨hp,g,d,tk,os⟩:=s;refine xo PySem.F.excBase_ValueError M.tail (I.bk _ _ hC) (fI:=f) (M.init.keeps I.bk) (I.bk _ _ hfI) hfc (λh' a made hz=>?_) hl;obtain⟨t',he,htn,ht⟩:=made.there;have I2:Inv X pins σ (upd H a (.ext (XO w5 a C w4))) ⟨h',g,d,tk,os⟩:=I.laid (t':=tk) made.keeps hz (XO.ok ⟨_,_,he,λ_=>⟨rfl,_,rfl⟩⟩);have hq:=h a (I.hok.fresh hz);have r2:Vals (V.ref a::vs) (Value.ref a::us):=.cons wZ r;have hl2:(Value.ref a::us++[]).length=ps.length:=by have e:=r2.length;rw[F.len _ _ _ _ hq]at e;rw[Q4];exact e.symm
 refine wpAny_call (Jr (F.run _ X.stack _ _ ⟨Value.ref a::us,[]⟩ (Value.ref a::us) _ _ E0 (hr.make C us []) (I2.env0.make C us []) (by have:=hb _ (Value.ref a::us) I2.kIn hl2;rwa[Q4]at this) r2 hq) λr s' y0=>?_);cases r with
 |error e=>exact y0.elim
 |ok fl=>
  cases fl with
  |ret u=>obtain⟨v,H',I3,rv,ev,q3⟩:=I2.after y0;subst ev;exact⟨rv,⟨V.ref a,H',I3,rfl,q3⟩⟩
  |next=>exact False.elim y0
  |brk=>exact False.elim y0
  |cont=>exact False.elim y0
noncomputable def tMkX(C:Uh)(sp:Sp)(t:TA):TE:=λσ H Q=>t σ H λvs H1=>vs.length<=Uk/\∀a,H1 a=w4->sp (.ref a::vs) (upd H1 a (.ext (XO w5 a C w4))) (λv H2=>v=.non/\Q (.ref a) H2) E0
theorem qu(M:XCls (model X.prog X.w) X.base C bm f)(F:FnOk X.prog X.w X.K X.mg X.base CX0 k f fd ps sp)(hr:Room (k+1) X.A)(hg:Gl X x)(hm:X.mg x=O (.ref C))(hk:PySem.W.keepIn X.K (.ref C)=w5)(hb:Ys X.K fd ps [])
  (ha:PA X (e::es) t) (hdb:(x==("__debug__" : Str))=w6:=by decide) (he:Um (e::es) X.env=(w6,eval e X.env)::Um es X.env:=by rfl) (hpl:(backTo pos (Um es X.env)).any (·.1)=w6:=by rfl) :
  PE X (.Call (.Name x p) (e::es) [] pos) (tMkX C sp t):=by
 intro pins s σ H Q I h;refine Jo (Td I hg hm ?_ hdb);refine PySem.W.callWith_K (h₀:=X.base) I.ok.mod.kin hk (thn (ha pos pins s σ H _ I h) λus s1 ⟨vs,H1,I1,r,hl,q⟩=>⟨I1.kIn,?_⟩) he hpl;exact xm M F hr hb I1 r (by show us.length<=Uk;rw[←r.length];exact hl) q
noncomputable def CJ(KC:Uh->Prop)(te:TE)(KX:V->St->Hp->Prop):TS:=λ_ σ H=>te σ H λv H2=>∃a C dd,v=.ref a/\KC C/\H2 a=O (.ext (XO w5 a C dd))/\KX (.ref a) σ (upd H2 a (.ext (XO w6 a C dd)))
theorem xk{M:Model}{A:Around}{E:Ue->Uf->Prop}{env:Env}{s:Uf}{Q:Flow->Uf->Prop}{y:Sem Ue}
  (hh:A.handled=w4) (h:Ul M A y (λv s₁=>∃a C dd vs sl nm q N bs bm hdct sn sub ab col yJ k0 k1 k2 k3 k5 newId,v=.ref a/\bm.contains (.type "BaseException")=w5/\s₁.heap.get? C=O (excClassObj nm q C N bs bm hdct sn sub ab col yJ k0 k1 k2 k3 k5 newId) /\
   s₁.heap.get? a=O {cls:=.ref C,dict:=dd,data:=.fields vs,slots:=sl}/\vs[1]?=O .none/\E (.ref a) s₁) E s) :
  Ul M A (raiseStmt env (O y) w4) Q E s:=by
 unfold raiseStmt;refine Qd (QI h (λv s₁ h₁=>?_) λ_ _ x=>x);obtain⟨a,C,dd,vs,sl,nm,q,N,bs,bm,hdct,sn,sub,ab,col,yJ,k0,k1,k2,k3,k5,newId,rfl,hbase,hC,he,h1,hE⟩:=h₁;have yT:(Value.ref C::bm).contains (.type "BaseException")=w5:=by rw[QW,hbase,J9]
 obtain⟨hp,g,d,tk,os⟩:=s₁
 repeat (first|with_reducible refine Q7 he wZ h1 ?_|with_reducible refine Qk he ?_|with_reducible refine Qk hC ?_|(with_reducible refine QN hC ?_;rw[yT])|wp_step)
 exact wpAny_raiseNew_none hh hE
theorem Inv.aged{pins:List (Uh×Obj)}{σ:St}{H:Hp}{s:Uf}{a C:Uh}{dd:yh}(I:Inv X pins σ H s)(hx:H a=O (.ext (XO w5 a C dd))):Inv X pins σ (upd H a (.ext (XO w6 a C dd))) s:=by obtain⟨x,_,_⟩:=I.hok a _ hx;have:=I.write (x:=a) (e:=a) (o:=.ext (XO w6 a C dd)) (t':=s.toks) (h':=s.heap) (by rw[hx];trivial) (.inl wZ) (λ_ _ _ q=>q) (let ⟨_,_,q,_⟩:=x;⟨_,q⟩) (XO.ok x.old);exact this
theorem qt{KC:Uh->Prop}{te:TE}{KX:V->St->Hp->Prop}{exc:Uj}(hc:X.calm=w5)(hcls:∀C,KC C->∃bm fI,XCls (model X.prog X.w) X.base C bm fI)(hw:Wv X KX)(ht:PE X exc te):PS X (.Raise (O exc) w4 pos) (CJ KC te KX):=by intro pins s σ H D I h;rw[arm_exec_Raise];refine Qd (Ji ?_);show Ul _ _ (raiseStmt X.env (O (do let v ←eval exc X.env;standAt pos;pure v)) w4) _ _ _;refine xk (I.ok.hd hc) (Qd (thn (ht pins s σ H _ I h) λu s1 ⟨v,H2,I2,rv,a,C,dd,ev,kc,hx,kx⟩=>Qd (Ji (Qj ?_))));subst ev;obtain rfl:u=Value.ref a:=rv;obtain⟨bm,fI,M⟩:=hcls C kc;obtain⟨nm,q,N,bs,sn,sub,ab,col,yJ,k0,k1,k2,k3,k5,hC⟩:=M.obj;obtain⟨⟨vs,sl,g,z⟩,_,_⟩:=I2.hok a _ hx;exact⟨a,C,dd,vs,sl,nm,q,N,bs,bm,w5,sn,sub,ab,col,yJ,k0,k1,k2,k3,k5,_,rfl,M.tail _ _ wZ,I2.bk _ _ hC,g,(z wZ).1,hw pins σ _ s1 a C dd (I2.aged hx) KG (XO.fly ⟨vs,sl,g,z⟩) kx⟩
end
section
variable{M:Model}{A:Around}{E:Ue->Uf->Prop}{h:Heap}{g:Array GenState}{d:Drawn}{t:Nat}{os:OsState}
variable{nm q yO q':Str}{C N D N' a:Uh}{bs bm bs' bm':ya}{hdct zC:Bool}{sn sn':List Str}{sub sub':ya}{ab zU:Bool}{col col':yi}{dd yJ:yh}{k0 k1 k2 k3 k5 j0 j1 j2 j3 j5:yc}{newId newId':String}
theorem LD{o:Obj}{b:Bool}{Q:Bool->Uf->Prop}(hC:h.get? C=O (excClassObj nm q C N bs bm hdct sn sub ab col dd k0 k1 k2 k3 k5 newId))(hD:h.get? D=O (excClassObj yO q' D N' bs' bm' zC sn' sub' zU col' yJ j0 j1 j2 j3 j5 newId'))
  (hbase:bm'.contains (.type "BaseException")=w5) (ha:h.get? a=O o) (hc:o.cls=.ref C) (hb:(Value.ref C::bm).contains (.ref D)=b) (hq:Q b ⟨h,g,d,t,os⟩):Ul M A (excMatches (.ref a) (.ref D)) Q E ⟨h,g,d,t,os⟩:=by
 have yT:(Value.ref D::bm').contains (.type "BaseException")=w5:=by rw[QW,hbase,J9]
 have f1:=tc_notTuple;have f2:=tc_sub;have hT:(⟨h,g,d,t,os⟩:Uf).TypeIs (.ref D) "type" :=⟨_,hD,rfl⟩
 unfold excMatches
 repeat (any_goals (first|assumption|(with_reducible refine Qk ha ?_;rw[hc])|with_reducible refine Qk hD ?_|with_reducible refine Qk hC ?_|(with_reducible refine QN hD ?_;rw[yT])|(with_reducible refine QN hC ?_;rw[hb])|wp_step))
 cases b<;>(wp_walk;exact hq)
end
noncomputable def CI(sp:Sp)(KX:V->St->Hp->Prop)(t:TA):TE:=λσ H Q=>t σ H λvs H1=>sp vs H1 Q λv _ H'=>∀a,v=.ref a->KX (.ref a) σ H'
section
variable{X:Cx}{k:Nat}{f:Uh}{fd:Ui}{ps:List Str}{sp:Sp}{x n:Str}{p pos np hpos:Pos}{e:Uj}{es:yd}{t:TA}{KX:V->St->Hp->Prop}
theorem qp(F:FnOk X.prog X.w X.K X.mg X.base (CX1 X.prog X.w) k f fd ps sp)(hr:Room k X.A)(hg:Gl X x)(hm:X.mg x=O (.ref f))(hk:PySem.W.keepIn X.K (.ref f)=w5)(hb:Ys X.K fd ps [])(hw:Wv X KX)
  (ha:PA X (e::es) t) (hdb:(x==("__debug__" : Str))=w6:=by decide) (he:Um (e::es) X.env=(w6,eval e X.env)::Um es X.env:=by rfl) (hpl:(backTo pos (Um es X.env)).any (·.1)=w6:=by rfl) :
  PE X (.Call (.Name x p) (e::es) [] pos) (CI sp KX t):=by
 intro pins s σ H Q I h;refine Jo (Td I hg hm ?_ hdb);refine PySem.W.callWith_K (h₀:=X.base) I.ok.mod.kin hk (thn (ha pos pins s σ H _ I h) λus s1 ⟨vs,H1,I1,r,q⟩=>⟨I1.kIn,?_⟩) he hpl;have hl:(us++[]).length=ps.length:=by rw[Q4,←r.length];exact F.len _ _ _ _ q
 refine wpAny_call (Jr (F.run X.A X.stack s1 H1 ⟨us,[]⟩ us vs Q _ hr I1.env0 (by have:=hb s1 us I1.kIn hl;rwa[Q4]at this) r q) λr s' hq=>?_);cases r with
 |error e=>exact hw.pass (E:=λv _ H'=>∀a,v=.ref a->KX (.ref a) σ H') I1 hq λa H' z=>z a wZ
 |ok fl=>
  cases fl with
  |ret u=>exact I1.after hq
  |next=>exact False.elim hq
  |brk=>exact False.elim hq
  |cont=>exact False.elim hq
noncomputable abbrev Cx.suite(X:Cx)(a:Uh):Cx:={X with A:=X.A.mark (O (.ref a)),calm:=w6,xe:=λ_ _=>False}
theorem Cx.Ok.suite(ok:X.Ok)(a:Uh):(X.suite a).Ok:=
 ⟨ok.mod,ok.kind,ok.glob,ok.blt,ok.above,ok.inj,ok.has,ok.cab,λz=>(nomatch z),ok.frames,ok.stk,ok.exf,ok.bs,ok.bsz,ok.noex,ok.exfs,ok.funs,ok.frf⟩
theorem Inv.suite{pins:List (Uh×Obj)}{σ:St}{H:Hp}{s:Uf}(I:Inv X pins σ H s)(a:Uh):Inv (X.suite a) pins σ H s:=⟨I.ok.suite a,I.os,I.bare,I.base,I.loc,I.cell,I.free,I.freeC,I.pin,I.hok,I.len⟩
theorem Inv.unsuite{pins:List (Uh×Obj)}{σ σ':St}{H H':Hp}{s s':Uf}{a:Uh}(I0:Inv X pins σ H s)(I:Inv (X.suite a) pins σ' H' s'):Inv X pins σ' H' s':=⟨I0.ok,I.os,I.bare,I.base,I.loc,I.cell,I.free,I.freeC,I.pin,I.hok,I.len⟩
theorem Hn{pins:List (Uh×Obj)}{σ:St}{H:Hp}{s:Uf}{i:Nat}{Q:Unit->Uf->Prop}{E:Ue->Uf->Prop}{A:Around}(I:Inv X pins σ H s)(hN:X.N.Nodup)(hi:X.N[i]?=O n)(hl:X.env.kindOf n=O .local)
  (h:∀s',Inv X pins (σ.set i w4) H s'->Q () s'):Ul (model X.prog X.w) A (do bindName X.env n .none;unbindBehindTheSuite X.env n pos) Q E s:=by
 have hcls:(X.env.scope.kind==.class || (X.env.scope.kind==.module&&X.env.locals != X.env.globals))=w6:=by rw[I.ok.kind];rfl
 refine Qd (wpAny_bindName (RJ (v:=.non) (u:=.none) I hN hi (.inl hl) wZ (λs1 I1=>?_) (.inr hl)));unfold unbindBehindTheSuite;refine wpAny_onRaise ?_;unfold unbindName;refine Qd (wpAny_point (Qd ?_));unfold deleteName;simp only[hl,hcls];rw[Qw (by decide)];obtain⟨m,hn,hlk⟩:=id I1.loc;have hiσ:i<σ.length:=by rw[I.len];exact(Ql.mp hi).1
 refine Qd (wpAny_nsDel_keeps hn λh' v hn' hs=>?_)
 have hsome:(m n).isSome=w5:=by
  obtain⟨u,_,l⟩:=hlk i n .non hi (by rw[QK hiσ]) (.inl hl);rcases l with ⟨_,l⟩|⟨k,_⟩
  .rw[l];rfl
  .rcases k with k|k
   .rw[hl]at k;cases k
   .rw[hl]at k;cases k
 rw[hsome];simp only[if_true,Bool.not_true,JJ,Ub];refine Qj (wpAny_point (h _ ?_));obtain⟨oL,_,_,aq,_⟩:=id hn;have neL:∀b o,X.s₀.heap.get? b=O o->b≠X.env.locals:=λb o e=>QM (QE (Qf e) I.ok.above)
 refine⟨I1.ok,I1.os,I1.bare,⟨λb o e n hb hx=>(hs.2 b (neL b o e)).trans (I1.base.keep b o e n hb hx),λb o e n hb hx=>?_,I1.base.free,λb o e hx=>?_,I1.base.tups,I1.base.frzs,I1.base.tbls⟩,⟨_,hn',λj y v' e1 e2 e3=>?_⟩,λy c e=>?_,I1.free,I1.freeC,λp hp=>?_,λb ob e=>?_,?_⟩
 .obtain⟨sl,e1⟩:=I1.base.slot b o e n hb hx
  exact⟨sl,(hs.2 b (neL b o e)).trans e1⟩
 .obtain⟨o',e1⟩:=I1.base.there b o e hx
  exact⟨o',(hs.2 b (neL b o e)).trans e1⟩
 .have hj:j≠i:=by
   rintro rfl;rw[QK hiσ]at e2;cases e2
  rw[Qn (Ne.symm hj)]at e2;obtain⟨u',r',q⟩:=hlk j y v' e1 (by rw[Qn (Ne.symm hj)];exact e2) e3;have hy:y≠n:=by rintro rfl;obtain⟨h1,h2⟩:=Ql.mp e1;obtain⟨h3,h4⟩:=Ql.mp hi;exact hj ((List.getElem_inj hN).mp (h2.trans h4.symm))
  refine⟨u',r',?_⟩;rcases q with ⟨q1,q2⟩|⟨k,c,e,z⟩
  .exact .inl ⟨q1,(Qw hy).trans q2⟩
  .obtain⟨o,ho,hd⟩:=z
   exact .inr ⟨k,c,e,o,(hs.2 c (I1.cne y c e)).trans ho,hd⟩
 .obtain⟨v',o,ho,hd⟩:=I1.cell y c e
  exact⟨v',o,(hs.2 c (I1.cne y c e)).trans ho,hd⟩
 .obtain⟨a,b,c,d⟩:=I1.pin p hp
  exact⟨(hs.2 _ c).trans a,b,c,d⟩
 .refine(I1.hok b ob e).stay (λc w' hc q=>(hs.2 c ?_).trans q) (λ_ q=>q) λ_ _ q=>q
  rintro rfl;rcases hc with rfl|hc
  .rw[I1.free]at e;cases e
  .rw[I1.free]at hc;cases hc
 .rw[Q5];exact I.len
theorem vc{M:Model}{A:Around}{E:Ue->Uf->Prop}{s:Uf}{a:Uh}{Q:Unit->Uf->Prop}(fl:Fly s.heap a)(h:∀h',(∀b o,s.heap.get? b=O o->h'.get? b=O o)->Q () {s with heap:=h'}):Ul M A (setFlight (.ref a) w4) Q E s:=by
 obtain⟨oe,vs,he,hd,h1⟩:=fl;unfold setFlight;rcases h1 with h1|⟨T,oT,ts,h1,ah,hT,zI,h3⟩
 .refine Qd (Q7 he hd h1 ?_)
  rw[Qw (by decide)];exact Qj (h s.heap λ_ _ q=>q)
 .obtain⟨hs3,hv3⟩:=JA.mp h3
  refine Qd (Q7 he hd h1 ?_);rw[if_pos (show(Value.ref T != Value.none)=w5 from by simp)];refine wpAny_setField hT zI hs3 (h _ λb o hb=>?_);by_cases aa:b=T
  .subst aa
   rw[hT]at hb;cases hb;rw[Ja _ hT (Obj.isFreed_of_fields (Obj.data_mapFields zI _)),W7 _ zI];have:ts.setIfInBounds 3 Value.none=ts:=Array.setIfInBounds_same _ _ _ h3;show O {oT with data:=.fields (ts.setIfInBounds 3 Value.none)}=_;rw[this,←zI]
  .rw[QP _ _ (Ne.symm aa)];exact hb
noncomputable abbrev Cx.tried(X:Cx)(W:Ue->Uf->Prop)(pins:List (Uh×Obj)):Cx:={X with xe:=W,pn:=X.pn++pins}
theorem Inv.tried{pins:List (Uh×Obj)}{σ:St}{H:Hp}{s:Uf}(I:Inv X pins σ H s)(W:Ue->Uf->Prop):Inv (X.tried W pins) [] σ H s:=
 ⟨⟨I.ok.mod,I.ok.kind,I.ok.glob,I.ok.blt,I.ok.above,I.ok.inj,I.ok.has,I.ok.cab,I.ok.hd,I.ok.frames,I.ok.stk,I.ok.exf,I.ok.bs,I.ok.bsz,I.ok.noex,I.ok.exfs,I.ok.funs,I.ok.frf⟩,I.os,I.bare,I.base,I.loc,I.cell,I.free,I.freeC,λp hp=>I.pin p (by simpa using hp),I.hok,I.len⟩
theorem Inv.untried{pins pins':List (Uh×Obj)}{σ σ':St}{H H':Hp}{s s':Uf}{W:Ue->Uf->Prop}(I0:Inv X pins σ H s)(I:Inv (X.tried W pins) pins' σ' H' s'):Inv X pins σ' H' s':=
 ⟨I0.ok,I.os,I.bare,I.base,I.loc,I.cell,I.free,I.freeC,λp hp=>I.pin p (Jv _ hp),I.hok,I.len⟩
end
section
variable{prog:Ug}{w:World}{A:Around}{E:Ue->Uf->Prop}{h:Heap}{g:Array GenState}{d:Drawn}{t:Nat}{os:OsState}
variable{nm q:Str}{C N a:Uh}{bs bm bmB:ya}{hdct:Bool}{sn:List Str}{sub:ya}{ab:Bool}{col:yi}{dd:yh}{k0 k1 k2 k3 k5:yc}{B newId initId nid:String}
theorem vU(F:ExcBaseFacts B nid initId bmB)(T:Tail bmB bm){M:Model}{oe:Obj}{rest:ya}{Q:Unit->Uf->Prop}
  (hC:h.get? C=O (excClassObj nm q C N bs bm hdct sn sub ab col dd k0 k1 k2 k3 k5 newId)) (he:h.get? a=O oe) (hcls:oe.cls=.ref C) (hq:Q () ⟨h,g,d,t,os⟩) :
  Ul M A (checkBuiltinCall initId ⟨.ref a::rest,[]⟩) Q E ⟨h,g,d,t,os⟩:=by
 have yT:(Value.ref C::bm).contains (.type B)=w5:=by rw[QW,T _ _ F.hasB,J9]
 have hshort:=F.noStar;simp only[checkBuiltinCall,F.initKind,F.initSplit,F.initRow]
 repeat (first|(with_reducible refine Qk he ?_;rw[hcls])|with_reducible refine Qk hC ?_|(with_reducible refine QN hC ?_;rw[yT])|wp_step)
 refine wpAny_onRaise ?_
 rw[show ∀(x1 x2:String)(n:Nat),Bind.check ⟨.positional, "*", B,.self,[⟨"args", .varPos,w6⟩]⟩ x1 x2 n (List.map (λx=>x.fst) ({pos:=Value.ref a::rest}:Args).kw)=pure ()from
  λ_ _ n=>check_star_args _ _ _ _ _ _]
 exact Qj hq
theorem vb(F:ExcBaseFacts B nid initId bmB)(T:Tail bmB bm){oe:Obj}{vs:Array Ue}{u:Ue}{Q:Ue->Uf->Prop}
  (hC:h.get? C=O (excClassObj nm q C N bs bm hdct sn sub ab col dd k0 k1 k2 k3 k5 newId)) (he:h.get? a=O oe) (hcls:oe.cls=.ref C) (hd:oe.data=.fields vs) {t0:Uh} (h0:vs[0]?=O (.ref t0))
  (hq:∀h',(∀b o,b≠a->h.get? b=O o->h'.get? b=O o)->(∃y,h'.get? a=O {oe with data:=.fields (vs.setIfInBounds 0 (.ref y))})->Q .none ⟨h',g,d,t,os⟩) :
  Ul (model prog w) A (call (.builtin initId) [.ref a,u]) Q E ⟨h,g,d,t,os⟩:=by
 refine wpAny_call (Jd F.init.plain F.initEntry (vU F T hC he hcls ?_));have he₂:(h.push {cls:=.type "tuple", data:=.seq #[u]}).get? a=O oe:=Qe _ he;have hz:0<vs.size:=(JA.mp h0).1
 repeat (first|with_reducible refine Q7 he₂ hd h0 ?_|with_reducible refine wpAny_setField he₂ hd hz ?_|wp_step)
 have he₃:=Ja (Obj.mapFields (·.setIfInBounds 0 (Value.ref h.objs.size))) he₂ (Obj.isFreed_of_fields (Obj.data_mapFields hd _));refine hq _ (λb o hb g=>?_) ⟨_,by rw[he₃,W7 _ hd]⟩;rw[QP _ _ (Ne.symm hb)];exact Qe _ g
end
theorem B3:PySem.W.handedIn (.builtin "ValueError.__init__")=w5:=by decide +kernel
theorem Dp{h:Heap}:PySem.W.Frag.In [] h:=λa o z=>by cases z
theorem B2:typeOf (.type "ValueError")=pure (.type "type"):=by kernel_rfl
theorem B0:Manifest.isStub "ValueError" = w6:=by decide +kernel
theorem BZ:PySem.W.findCls [] (.type "ValueError") (.type "type") "__init__" = O (.val (.builtin "ValueError.__init__")):=by kernel_rfl
section
variable{X:Cx}{k:Nat}{f D:Uh}{fd:Ui}{ps:List Str}{sp:Sp}{x:Str}{p pos apos:Pos}{e:Uj}{es:yd}{t:TA}
noncomputable def Mf(KC:Uh->ya->Prop)(t:TA):TE:=λσ H Q=>t σ H λvs H1=>∃a C dd bm u,vs=[.ref a,u]/\KC C bm/\H1 a=O (.ext (XO w5 a C dd))/\Q .non H1
theorem qo{KC:Uh->ya->Prop}{pl:Sem Bool}(hcls:∀C bm,KC C bm->∃fI,XCls (model X.prog X.w) X.base C bm fI)(hg:Gl X "ValueError")(hm:X.mg "ValueError" = w4)(ha:PA X (e::es) t)
  (hst:Um (e::es) X.env=(w6,eval e X.env)::Um es X.env:=by rfl) (hpl:(backTo pos (Um es X.env)).any (·.1)=w6:=by rfl)
  (ht:eval (.Call (.Attribute (.Name "ValueError" p) "__init__" apos) (e::es) [] pos) X.env=(do
   let ov ←eval (.Name "ValueError" p) X.env
   standAt apos.atName
   let (f,first) ←holding [ov] (getMethod ov "__init__" pl)
   callWith pos f first (backTo pos (Um (e::es) X.env)) (backToKw pos (keywordEach [] X.env))):=by rfl) :
  PE X (.Call (.Attribute (.Name "ValueError" p) "__init__" apos) (e::es) [] pos) (Mf KC t):=by
 intro pins s σ H Q I h;have hB:bootBuiltins "ValueError" = O (.type "ValueError"):=by decide +kernel
 refine PySem.W.methodCall_KW (pl:=pl) (WQ I hg hm hB ?_) ht;obtain⟨m,Fm⟩:=I.fr;refine PySem.W.method_type (K:=[]) (v:=.builtin "ValueError.__init__") Fm Dp B2 B0 BZ B3 ?_;refine PyProof.Rows.callWith_builtin1 (thn (ha pos pins _ σ H _ (I.tok _) h) λus s1 ⟨vs,H1,I1,r1,a,C,dd,bm,u,ev,kc,hx,q⟩=>?_) hst hpl;subst ev;cases r1 with
 |cons ra r1=>
 cases r1 with
 |cons ru r1=>
 cases r1;have ra':_=Value.ref a:=ra;subst ra';obtain⟨fI,XC⟩:=hcls C bm kc;obtain⟨nm,qn,N,bs,sn,sub,ab,col,aJ,k0,k1,k2,k3,k5,hC⟩:=XC.obj;obtain⟨⟨vs,sl,ga,z⟩,_,_⟩:=I1.hok a _ hx;obtain⟨z1,t0,z0⟩:=z wZ;obtain⟨hp,g,d,tk,os⟩:=s1;refine vb PySem.F.excBase_ValueError XC.tail (I1.bk _ _ hC) ga wZ wZ z0 λh' k ⟨y,hy⟩=>?_;have hw:=I1.write (x:=a) (e:=a) (o:=.ext (XO w5 a C dd)) (t':=tk) (h':=h') (by rw[hx];trivial) (.inl wZ) k ⟨_,hy⟩ (XO.ok ⟨_,sl,hy,λ_=>⟨by rw[Array.getElem?_setIfInBounds_ne (by decide)];exact z1,y,by simp[(Array.getElem?_eq_some_iff.mp z0).1]⟩⟩)
 have e:upd H1 a (.ext (XO w5 a C dd))=H1:=by
  funext b;by_cases hb:b=a
  .subst hb;rw[KG,hx]
  .rw[Kk hb]
 rw[e]at hw;exact⟨.non,H1,hw,rfl,q⟩
end
structure Ri(K:Frag)(D:Uh)(m:Str)(f:Uh):Prop where
 ga:PySem.W.specialIn K (.ref D) "__getattribute__" = O (O (.builtin "type.__getattribute__"))
 rd:PySem.W.readsIn K D (.type "type")=w5
 fd:PySem.W.findCls K (.ref D) (.type "type") m=O (.val (.ref f))
 kp:PySem.W.keepIn K (.ref f)=w5
section
variable{X:Cx}{k:Nat}{f D:Uh}{fd:Ui}{ps:List Str}{sp:Sp}{x m:Str}{p pos apos:Pos}{e:Uj}{es:yd}{t:TA}
theorem LC{pl:Sem Bool}(M:Ri X.K D m f)(F:FnOk X.prog X.w X.K X.mg X.base CX0 k f fd ps sp)(hr:Room k X.A)(hb:Ys X.K fd ps [])(hg:Gl X x)(hm:X.mg x=O (.ref D))(ha:PA X (e::es) t)
  (hdb:(x==("__debug__" : Str))=w6:=by decide) (hst:Um (e::es) X.env=(w6,eval e X.env)::Um es X.env:=by rfl) (hpl:(backTo pos (Um es X.env)).any (·.1)=w6:=by rfl)
  (ht:eval (.Call (.Attribute (.Name x p) m apos) (e::es) [] pos) X.env=(do
   let ov ←eval (.Name x p) X.env
   standAt apos.atName
   let (f,first) ←holding [ov] (getMethod ov m pl)
   callWith pos f first (backTo pos (Um (e::es) X.env)) (backToKw pos (keywordEach [] X.env))):=by rfl) :
  PE X (.Call (.Attribute (.Name x p) m apos) (e::es) [] pos) (RW sp [] E0 t):=by
 intro pins s σ H Q I h;refine PySem.W.methodCall_KW (pl:=pl) (Td I hg hm ?_ hdb) ht;refine PySem.W.method_cls I.kIn M.ga (PySem.W.cls_value I.kIn M.rd M.fd wZ ?_);refine PySem.W.callWith_K (h₀:=X.base) I.ok.mod.kin M.kp (thn (ha pos pins _ σ H _ (I.tok _) h) λus s1 ⟨vs,H1,I1,r,q⟩=>⟨I1.kIn,?_⟩) hst hpl;exact Mi F hr hb .nil Of I1 r q
end
noncomputable def XD(dx:Uh)(fs:List (Str×V)):Heap->Prop:=λh=>∃mA,h.Ns1 dx mA/\h.ExactDictFk dx/\(∀f,Wk (fs.lookup f) (mA f))/\PySem.Within mA (fs.map (·.1))
theorem XD.ok{P:Ug}{w:World}{H:Hp}{h:Heap}{dx:Uh}{fs:List (Str×V)}(x:XD dx fs h):Zu P w H h dx (.ext (XD dx fs)):=
 ⟨x,let ⟨_,⟨o,_,_,q,_⟩,_⟩:=x;⟨o,q⟩,λh1 h2 ⟨mA,⟨o,es,ep,q,c⟩,⟨od,q2,c2⟩,r⟩ k=>⟨mA,⟨o,es,ep,k _ q,c⟩,⟨od,k _ q2,c2⟩,r⟩⟩
theorem XO.inst{h:Heap}{a C:Uh}{vs:Array Ue}{sl:Array yc}(g:h.get? a=O {cls:=.ref C,dict:=w4,data:=.fields vs,slots:=sl}):h.InstFk a C λ_=>w4:=
 ⟨_,g,rfl,λ_ z=>(by cases z),.inl ⟨rfl,λ_=>rfl⟩⟩
section
variable{X:Cx}{pins:List (Uh×Obj)}{σ:St}{H:Hp}{s:Uf}{a C dx:Uh}{h':Heap}{t':Nat}
theorem Inv.xdict{fs:List (Str×V)}(I:Inv X pins σ H s)(hx:H a=O (.ext (XO w5 a C w4)))(k:∀b o,b≠a->s.heap.get? b=O o->h'.get? b=O o)(hz:s.heap.objs.size<=dx)(h1:XO w5 a C (O dx) h')(h2:XD dx fs h') :
  Inv X pins σ (upd (upd H a (.ext (XO w5 a C (O dx)))) dx (.ext (XD dx fs))) {s with heap:=h',toks:=t'}:=by
 have hn:H dx=w4:=I.hok.fresh hz;have hne:dx≠a:=λz=>by rw[z,hx]at hn;cases hn
 have ne:∀b,H b=w4->b≠a:=λb n z=>by rw[z,hx]at n;cases n
 have nd:∀b o,s.heap.get? b=O o->b≠dx:=λb o g z=>by subst z;exact absurd (Qf g) (Nat.not_lt.mpr hz)
 have oth:∀b,b≠a->b≠dx->upd (upd H a (.ext (XO w5 a C (O dx)))) dx (.ext (XD dx fs)) b=H b:=λb h1 h2=>by rw[Kk h2,Kk h1]
 have trk:∀b u,H b=O u->b≠dx:=λb u q z=>by rw[z,hn]at q;cases q
 have nota:∀b(u:HO),H b=O u->(∀φ,u≠.ext φ)->b≠a:=λb u q n z=>by rw[z,hx]at q;cases q;exact n _ wZ
 refine I.un (t':=t') ⟨λb o g n _ _=>k b o (ne b n) g,λb o g n _ _=>⟨o.slots,k b o (ne b n) g⟩,λb o g n _=>(oth b (ne b n) (nd b o g)).trans n,λb o g _=>?_,λb xs q=>?_,λb o u q=>?_,λb ps q=>⟨#[],?_⟩⟩ λb u q=>?_
 .by_cases hb:b=a
  .subst hb;obtain⟨_,_,z,_⟩:=h1;exact⟨_,z⟩
  .exact⟨o,k b o hb g⟩
 .exact(oth b (nota b _ q λ_ z=>by cases z) (trk b _ q)).trans q
 .exact(oth b (nota b _ q λ_ z=>by cases z) (trk b _ q)).trans q
 .rw[oth b (nota b _ q λ_ z=>by cases z) (trk b _ q),q];simp
 .by_cases hb:b=dx
  .subst hb;rw[KG]at q;cases q;exact XD.ok h2
  .rw[Kk hb]at q
   by_cases hb2:b=a
   .subst hb2;rw[KG]at q;cases q;exact XO.ok h1
   .rw[Kk hb2]at q
    refine(I.hok b u q).stay (λc v hc g=>k c v ?_ g) (λc r=>(oth c (nota c _ r λ_ z=>by cases z) (trk c _ r)).trans r) λc xs r=>(oth c (nota c _ r λ_ z=>by cases z) (trk c _ r)).trans r
    rcases hc with rfl|hc
    .exact hb2
    .exact nota c _ hc λ_ z=>by cases z
end
noncomputable def RV(KC:Uh->ya->Prop)(ta tv:TE)(f:Str):TS:=λD σ H=>tv σ H λy H1=>ta σ H1 λx H2=>∃a C bm,x=.ref a/\KC C bm /\
 ((H2 a=O (.ext (XO w5 a C w4))/\∀dx,H2 dx=w4->dx≠a->D.nx σ (upd (upd H2 a (.ext (XO w5 a C (O dx)))) dx (.ext (XD dx [(f,y)])))) ∨
  ∃dx fs,dx≠a/\H2 a=O (.ext (XO w5 a C (O dx)))/\H2 dx=O (.ext (XD dx fs))/\fs.length<900/\D.nx σ (upd H2 dx (.ext (XD dx (ZB f y fs)))))
section
variable{X:Cx}{o value:Uj}{f:Str}{pos pos':Pos}{ta tv:TE}{KC:Uh->ya->Prop}
theorem OL(hcls:∀C bm,KC C bm->∃fI,XCls (model X.prog X.w) X.base C bm fI)(hf:∀C bm,KC C bm->K8 (model X.prog X.w) C f w4 X.base)(ha:PE X o ta)(hv:PE X value tv)
  (hs:swapsWith value (O (.Attribute o f pos')) pos.line X.env=pure w6):PS X (.Assign [.Attribute o f pos'] value pos) (RV KC ta tv f):=by
 intro pins s σ H D I h;refine plainObj_wpAny_Assign_Attribute (thn (hv pins s σ H _ I h) λu s1 ⟨y,H1,I1,ry,q⟩=>thn (ha pins s1 σ H1 _ I1 q) λov s2 ⟨x,H2,I2,rx,a,C,bm,ex,kc,q2⟩=>?_) hs;subst ex;obtain rfl:ov=Value.ref a:=rx;obtain⟨fI,XC⟩:=hcls C bm kc;obtain⟨nm,qn,N,bs,sn,sub,ab,col,aJ,k0,k1,k2,k3,k5,hC⟩:=XC.obj;obtain⟨hp,g,d,tk,os⟩:=s2;rcases q2 with ⟨hx,q2⟩|⟨dx,fs,hne,hx,za,hl,q2⟩
 .obtain⟨⟨vs,sl,ga,z⟩,_,_⟩:=I2.hok a _ hx
  refine Gy (ns:=[]) PySem.F.store_ValueError XC.tail (XC.pass _) (I2.bk _ _ hC) (XC.sa.keeps I2.bk) ((hf C bm kc).keeps I2.bk) (XO.inst ga) (λh' tk' i' hk hsame hnew=>?_) PySem.Within.nil (by decide);obtain⟨o1,g1,c1,d1,zG,_⟩:=hsame _ ga;obtain⟨o2,g2,_,_,dd⟩:=i';rw[g1]at g2;cases g2;rcases dd with ⟨_,dn⟩|⟨dx,za,hne,hns,hex⟩
  .have:=dn f;simp at this
  .have hz:=hnew _ _ dx ga wZ g1 za
   have o1e:o1 = {cls:=.ref C,dict:=O dx,data:=.fields vs,slots:=sl}:=by obtain⟨oc,od,odt,osl⟩:=o1;cases c1;cases d1;cases zG;cases za;rfl
   have I3:=I2.xdict (t':=tk') (dx:=dx) (fs:=[(f,y)]) hx (λb ob hb gb=>hk b ob hb (λo₀ dx' e1 e2=>by rw[ga]at e1;cases e1;cases e2) gb) hz ⟨vs,sl,by rw[g1,o1e],z⟩
    ⟨_,hns,hex,λg=>?_,λg hg=>?_⟩
   .exact⟨σ,_,I3,q2 dx (I2.hok.fresh hz) hne⟩
   .show Wk ((ZB f y []).lookup g) (if g=f then O u else w4)
    rw[Nu];by_cases e:g=f
    .rw[Qm e,Qm e];exact ry
    .rw[Qw e,Qw e];trivial
   .show g∈[f]
    by_cases e:g=f
    .rw[e];simp
    .exact absurd (Qw e) hg
 .obtain⟨⟨vs,sl,ga,z⟩,_,_⟩:=I2.hok a _ hx
  obtain⟨⟨mA,hns,hex,hr,hwi⟩,_,_⟩:=I2.hok dx _ za;refine Gy (ns:=fs.map (·.1)) PySem.F.store_ValueError XC.tail (XC.pass _) (I2.bk _ _ hC) (XC.sa.keeps I2.bk) ((hf C bm kc).keeps I2.bk) ⟨_,ga,rfl,λ_ z=>(by cases z),.inr ⟨dx,rfl,hne,hns,hex⟩⟩ (λh' tk' i' hk hsame hnew=>?_) hwi (by rw[Qb];omega);obtain⟨o1,g1,c1,d1,zG,dk⟩:=hsame _ ga;have hd1:=dk dx wZ;obtain⟨o2,g2,_,_,dd⟩:=i';rw[g1]at g2;cases g2;rcases dd with ⟨dn,_⟩|⟨dx2,aA,hne2,au,hex2⟩
  .rw[hd1]at dn;cases dn
  .rw[hd1]at aA
   cases aA;have o1e:o1 = {cls:=.ref C,dict:=O dx,data:=.fields vs,slots:=sl}:=by obtain⟨oc,od,odt,osl⟩:=o1;cases c1;cases d1;cases zG;cases hd1;rfl
   have I3:=I2.write (x:=dx) (e:=dx) (o:=.ext (XD dx (ZB f y fs))) (t':=tk') (h':=h') (by rw[za];trivial) (.inl wZ) (λb ob hb gb=>by
    by_cases hba:b=a
    .subst hba;rw[ga]at gb;cases gb;rw[g1,o1e]
    .exact hk b ob hba (λo₀ dx' e1 e2=>by rw[ga]at e1;cases e1;cases e2;exact hb) gb) (let ⟨o,_,_,q,_⟩:=au;⟨o,q⟩) (XD.ok ⟨_,au,hex2,λg=>?_,λg hg=>?_⟩)
   .exact⟨σ,_,I3,q2⟩
   .show Wk ((ZB f y fs).lookup g) (if g=f then O u else mA g)
    rw[Nu];by_cases e:g=f
    .rw[Qm e,Qm e];exact ry
    .rw[Qw e,Qw e];exact hr g
   .by_cases e:g=f
    .rw[e];exact(Na f y fs).1
    .refine(Na f y fs).2 g (hwi g λz=>hg ?_)
     show(if g=f then O u else mA g)=w4
     rw[Qw e];exact z
end
inductive FmtV:V->Str->Prop
 |str (x:Str) (h:x.length<=Uk):FmtV (.str x) x
 |int (i:Int) (h:i.natAbs.log2<1920):FmtV (.int i) (toString i:String)
 |non:FmtV .non "None"
noncomputable def W3(te:TE):TE:=λσ H Q=>te σ H λv H1=>∃y,FmtV v y/\Q (.str y) H1
noncomputable def Rh:List TE->Str->TE
 |[],acc=>λ_ H Q=>acc.length<=Uk/\Q (.str acc) H
 |te::r,acc=>λσ H Q=>te σ H λv H1=>∃y,v=.str y/\(acc++y).length<=Uk/\Rh r (acc++y) σ H1 Q
inductive PEs(X:Cx):yd->List TE->Prop
 |nil:PEs X [] []
 |cons {e:Uj} {es:yd} {t:TE} {ts:List TE}:PE X e t->PEs X es ts->PEs X (e::es) (t::ts)
section
variable{X:Cx}{value:Uj}{te:TE}{pos:Pos}
theorem Ot(h:PE X value te):PE X (.FormattedValue value (-1) w4 pos) (W3 te):=by
 intro pins s σ H Q I hq;refine wpAny_FormattedValue_plain (thn (h pins s σ H _ I hq) λu s1 ⟨v,H1,I1,rv,y,hy,q⟩=>?_);cases hy with
 |str x hx=>
  obtain⟨t,rfl⟩:=(show ∃t,u=Value.str y t from rv)
  exact wpAny_formatField_str ⟨.str y,H1,I1,⟨_,rfl⟩,q⟩ ⟨.str y,H1,I1.tok _,⟨_,rfl⟩,q⟩ hx
 |int i hi=>
  obtain⟨t,rfl⟩:=(show ∃t,u=Value.int i t from rv)
  exact wpAny_formatField_int hi ⟨.str _,H1,I1.tok _,⟨_,rfl⟩,q⟩
 |non=>obtain rfl:u=Value.none:=rv;exact wpAny_formatField_none ⟨.str _,H1,I1.tok _,⟨_,rfl⟩,q⟩
theorem LB{E:Ue->Uf->Prop}:∀{es:yd}{ts:List TE}{acc:Str}{pins:List (Uh×Obj)}{s:Uf}{σ:St}{H:Hp}{Q:VK},PEs X es ts->Inv X pins σ H s->Rh ts acc σ H Q ->
  Joins (model X.prog X.w) X.A X.xe (evalEach es X.env) acc (λout s1=>out.length<=Uk/\EP X pins σ Q (.str out s1.toks) {s1 with toks:=s1.toks+1}) s
 |_,_,acc,pins,s,σ,H,Q,.nil,I,⟨hl,q⟩=>⟨hl,.str acc,H,I.tok _,⟨_,rfl⟩,q⟩
 |_,_,acc,pins,s,σ,H,Q,.cons h r,I,hq=>thn (h pins s σ H _ I hq) λu s1 ⟨v,H1,I1,rv,y,ev,hl,q⟩=>by
  subst ev;obtain⟨t,rfl⟩:=(show ∃t,u=Value.str y t from rv)
  exact⟨y,t,rfl,hl,LB (E:=E) r I1 q⟩
theorem Hm{v1 v2:Uj}{rest:yd}{ts:List TE}(h:PEs X (v1::v2::rest) ts):PE X (.JoinedStr (v1::v2::rest) pos) (Rh ts Str.empty):=by intro pins s σ H Q I hq;exact wpAny_JoinedStr (LB (E:=X.xe) h I hq)
end
noncomputable def EC(KC:Uh->ya->Prop)(ta:TE)(f:Str):TE:=λσ H Q=>ta σ H λx H1=>∃a C bm dx fs v fr,x=.ref a/\KC C bm/\H1 a=O (.ext (XO fr a C (O dx)))/\H1 dx=O (.ext (XD dx fs))/\fs.lookup f=O v/\Q v H1
theorem va{v:V}{u:Ue}(r:RelV v u):handedOut u=pure u:=by
 cases v with
 |non=>obtain rfl:u=_:=r;rfl
 |bl b=>obtain rfl:u=_:=r;rfl
 |int i=>obtain⟨t,rfl⟩:∃t,u=_:=r;rfl
 |str x=>obtain⟨t,rfl⟩:∃t,u=_:=r;rfl
 |byt b=>obtain⟨t,rfl⟩:∃t,u=_:=r;rfl
 |flt b=>obtain⟨t,rfl⟩:∃t,u=_:=r;rfl
 |ref a=>obtain rfl:u=_:=r;rfl
 |ty n=>obtain rfl:u=_:=r;rfl
section
variable{X:Cx}{e:Uj}{f:Str}{pos:Pos}{ta:TE}{KC:Uh->ya->Prop}
theorem BY(hcls:∀C bm,KC C bm->∃fI,XCls (model X.prog X.w) X.base C bm fI)(hf:∀C bm,KC C bm->K8 (model X.prog X.w) C f w4 X.base)(he:PE X e ta)(hb:attributeBase e f X.env (eval e X.env)=eval e X.env):PE X (.Attribute e f pos) (EC KC ta f):=by
 intro pins s σ H Q I h;refine Ag hb (thn (he pins s σ H _ I h) λu s1 ⟨x,H1,I1,rx,a,C,bm,dx,fs,v,fr,ex,kc,hx,hd,hl,q⟩=>?_);subst ex;obtain rfl:u=Value.ref a:=rx;obtain⟨fI,XC⟩:=hcls C bm kc;obtain⟨nm,qn,N,bs,sn,sub,ab,col,aJ,k0,k1,k2,k3,k5,hC⟩:=XC.obj;obtain⟨⟨vs,sl,ga,_⟩,_,_⟩:=I1.hok a _ hx;obtain⟨⟨mA,hns,hex,hr,hwi⟩,_,_⟩:=I1.hok dx _ hd;have hne:dx≠a:=by rintro rfl;obtain⟨o,es,ep,g,d,_⟩:=hns;rw[ga]at g;cases g;cases d
 have hr':=hr f;rw[hl]at hr';cases hm:mA f with
 |none=>rw[hm]at hr';exact hr'.elim
 |some u=>rw[hm]at hr';have ru:RelV v u:=hr';obtain⟨hp,g,d,tk,os⟩:=s1;exact vd PySem.F.excAttr_ValueError XC.tail wZ (I1.bk _ _ hC) (XC.ga.keeps I1.bk) (XC.gh.keeps I1.bk) ((hf C bm kc).keeps I1.bk) ⟨_,ga,rfl,λ_ z=>(by cases z),.inr ⟨dx,rfl,hne,hns,hex⟩⟩ hm (va ru) ⟨v,H1,I1.tok _,ru,q⟩
end
end L2
namespace L2
open PySem PySem.Spec
section
variable{prog:Ug}{w:World}{A:Around}{E:Ue->Uf->Prop}{h:Heap}{g:Array GenState}{d:Drawn}{t:Nat}{os:OsState}{R:Result->Uf->Prop}
variable{nm q:Str}{C N a:Uh}{bs bm bmB:ya}{hdct:Bool}{sn:List Str}{sub:ya}{ab:Bool}{col:yi}{dd:yh}{k0 k1 k2 k3 k5:yc}{newId:String}{o:Obj}
theorem xZ(T:Tail bmB bm)(ho:bmB.contains (.type "object")=w5)(hC:h.get? C=O (excClassObj nm q C N bs bm hdct sn sub ab col dd k0 k1 k2 k3 k5 newId))(hx:h.get? a=O o)(hc:o.cls=.ref C)(hq:R (.ok (.ret (.ref C))) ⟨h,g,d,t,os⟩) :
  codeAny (model prog w) A (.call (.builtin "getset_descriptor.__get__") ⟨[.builtin "object.__class__", .ref a,.ref C],[]⟩) R ⟨h,g,d,t,os⟩:=by
 have hT5:(⟨h,g,d,t,os⟩:Uf).TypeIs (.builtin "object.__class__") "getset_descriptor" :=PySem.F.typeOf_object_class;have yT:(Value.ref C::bm).contains (.type (".".intercalate ("object.__class__".cutAt '.').dropLast))=w5:=by rw[PySem.F.owner_object_class,QW,T _ _ ho];rfl
 refine Jd PySem.F.slot_gs_get.plain PySem.F.entry_gs_get (PySem.F.slot_gs_get.check _ _ _ _ _ _ _ _ hT5 (PySem.F.args_gs_get _ _ _) ?_)
 repeat (any_goals (first|assumption|(with_reducible refine Qk hx ?_;rw[hc])|(with_reducible refine QN hC ?_;rw[yT])|wp_step))
 refine⟨Code.quiet_builtin _ (by decide +kernel),codeAny_builtin PySem.F.entry_object_class ?_⟩;unfold Builtin.«object.__class__»
 repeat (any_goals (first|assumption|(with_reducible refine Qk hx ?_;rw[hc])|wp_step))
theorem wA{tk:Tok}{Q:PySem.Fin->Uf->Prop}(T:Tail bmB bm)(ho:bmB.contains (.type "object")=w5)(hC:h.get? C=O (excClassObj nm q C N bs bm hdct sn sub ab col dd k0 k1 k2 k3 k5 newId))(fc:K8 (model prog w) C "__class__" (O (.builtin "object.__class__")) h)(hx:h.get? a=O o)(hc:o.cls=.ref C)(hq:Q (.done (.ret (.ref C))) ⟨h,g,d,t,os⟩) :
  Ul (model prog w) A (Builtin.«object.__getattribute__» ⟨[.ref a,.str "__class__" tk],[]⟩) Q E ⟨h,g,d,t,os⟩:=by
 have hT5:(⟨h,g,d,t,os⟩:Uf).TypeIs (.builtin "object.__class__") "getset_descriptor" :=PySem.F.typeOf_object_class;have f5:=PySem.F.typeOf_object_class;have f6:=PySem.F.slot_gs_get.lookup;have f7:=PySem.F.slot_gs_set.lookup
 repeat (any_goals (first|assumption|(with_reducible refine Qk hx ?_;rw[hc])|with_reducible refine fc.at ?_|wp_step))
 refine xZ T ho hC hx hc ?_
 repeat (any_goals (first|assumption|wp_step))
theorem Gx{Q:yc->Uf->Prop}(FB:ExcAttrFacts "ValueError")(T:Tail VB bm)(hC:h.get? C=O (excClassObj nm q C N bs bm hdct sn sub ab col dd k0 k1 k2 k3 k5 newId))(fc:K8 (model prog w) C "__class__" (O (.builtin "object.__class__")) h)
  (fg:K8 (model prog w) C "__getattribute__" (O (.builtin "BaseException.__getattribute__")) h) (fa:K8 (model prog w) C "__getattr__" none h) (hx:h.get? a=O o) (hc:o.cls=.ref C) (hq:Q (O (.ref C)) ⟨h,g,d,t+1,os⟩) :
  Ul (model prog w) A (getAttr? (.ref a) "__class__") Q E ⟨h,g,d,t,os⟩:=by
 have f3:=FB.ga.bind (.ref a);have hx0:(w6&&onTheHeap (Value.builtin "BaseException.__getattribute__"))=w6:=rfl;have hx2:(Value.builtin "BaseException.__getattribute__" == Value.builtin "object.__getattribute__")=w6:=by decide +kernel
 have hx1:(onTheHeap (Value.ref C)&&Value.builtin "BaseException.__getattribute__" == Value.builtin "object.__getattribute__")=w6:=by rw[hx2];rfl
 unfold getAttr? getAttrBy?;refine Qd (wpAny_mkText (Qd (wpAny_attempt ?_)))
 repeat (any_goals (first|assumption|(with_reducible refine Qk hx ?_;rw[hc])|with_reducible refine fg.at ?_|with_reducible refine fa.at ?_|wp_step))
 refine Jd FB.ga.plain PySem.F.entry_bexc_ga (Hq T wZ hC hx hc (wA T wZ hC fc hx hc ?_))
 repeat (any_goals (first|assumption|wp_step))
end
end L2
namespace L2
open PySem PySem.Spec PyProof.Rows
section
variable{prog:Ug}{w:World}{A:Around}{E:Ue->Uf->Prop}{h:Heap}{g:Array GenState}{d:Drawn}{t:Nat}{os:OsState}
variable{nm q yO q':Str}{C N D N' a:Uh}{bs bm bs' bm':ya}{hdct zC:Bool}{sn sn':List Str}{sub sub':ya}{ab zU:Bool}{col col':yi}{dd yJ:yh}{k0 k1 k2 k3 k5 j0 j1 j2 j3 j5:yc}{newId newId':String}{o:Obj}{b:Bool}
theorem BX{Q:Ue->Uf->Prop}(T:Tail VB bm)(hC:h.get? C=O (excClassObj nm q C N bs bm hdct sn sub ab col dd k0 k1 k2 k3 k5 newId))(hD:h.get? D=O (excClassObj yO q' D N' bs' bm' zC sn' sub' zU col' yJ j0 j1 j2 j3 j5 newId'))
  (fc:K8 (model prog w) C "__class__" (O (.builtin "object.__class__")) h) (fg:K8 (model prog w) C "__getattribute__" (O (.builtin "BaseException.__getattribute__")) h) (fa:K8 (model prog w) C "__getattr__" none h)
  (hx:h.get? a=O o) (hc:o.cls=.ref C) (hb:(Value.ref C::bm).contains (.ref D)=b) (hq:∀tk,Q (.bool b) ⟨h,g,d,tk,os⟩):Ul (model prog w) A (call (.builtin "isinstance") [.ref a,.ref D]) Q E ⟨h,g,d,t,os⟩:=by
 have hT:(⟨h,g,d,t,os⟩:Uf).TypeIs (.ref D) "type" :=⟨_,hD,rfl⟩
 have f2:=tc_sub;refine call_isinstance_of ?_ (λz=>nomatch z);unfold Builtin.«isinstance.nested»;refine Qd ?_;unfold typeOf;refine Qd (Qk hx (Qj ?_));rw[hc];by_cases e:C=D
 .subst e
  have hb1:b=w5:=by rw[←hb];simp
  subst hb1;rw[if_pos (by simp)];exact Qd (wpAny_rule (Qj (hq t)))
 .rw[if_neg (by simp[e])]
  refine Qd (Qd (Qk hD (Qj ?_)));rw[Qm (show(Value.type "type" == Value.type "type")=w5 by decide)]
  k_delta "plainIsInstance"
  unfold isType isInstance
  repeat (first|(with_reducible refine Qk hx ?_;rw[hc])|with_reducible refine Qk hD ?_|with_reducible refine Qk hC ?_|(with_reducible refine QN hC ?_;rw[hb])|wp_step)
  cases b with
  |true=>wp_walk;exact hq t
  |false=>
   rw[Qw (by decide)];refine Qd (Gx PySem.F.excAttr_ValueError T hC fc fg fa hx hc ?_)
   repeat (first|with_reducible refine Qk hC ?_|(with_reducible refine QN hC ?_;rw[hb])|wp_step)
   exact hq _
theorem Do{Q:Ue->Uf->Prop}{X:String}(T:Tail VB bm)(hC:h.get? C=O (excClassObj nm q C N bs bm hdct sn sub ab col dd k0 k1 k2 k3 k5 newId))(hX:typeOf (.type X)=pure (.type "type"))
  (fc:K8 (model prog w) C "__class__" (O (.builtin "object.__class__")) h) (fg:K8 (model prog w) C "__getattribute__" (O (.builtin "BaseException.__getattribute__")) h) (fa:K8 (model prog w) C "__getattr__" none h)
  (hx:h.get? a=O o) (hc:o.cls=.ref C) (hb:(Value.ref C::bm).contains (.type X)=b) (hq:∀tk,Q (.bool b) ⟨h,g,d,tk,os⟩):Ul (model prog w) A (call (.builtin "isinstance") [.ref a,.type X]) Q E ⟨h,g,d,t,os⟩:=by
 refine call_isinstance_of ?_ (λz=>nomatch z);unfold Builtin.«isinstance.nested»;refine Qd ?_;have ty:∀{M:Model}{A:Around}{Q:Ue->Uf->Prop}{E:Ue->Uf->Prop},Q (.ref C) ⟨h,g,d,t,os⟩->Ul M A (typeOf (.ref a)) Q E ⟨h,g,d,t,os⟩:=λq=>by unfold typeOf;refine Qd (Qk hx (Qj ?_));rw[hc];exact q
 refine ty ?_;rw[if_neg (by simp)];refine Qd (wpAny_of_eq hX ?_);rw[Qm (show(Value.type "type" == Value.type "type")=w5 by decide)]
 k_delta "plainIsInstance"
 unfold isType isInstance
 repeat (first|(with_reducible refine Qk hx ?_;rw[hc])|with_reducible refine Qk hC ?_|(with_reducible refine QN hC ?_;rw[hb])|wp_step)
 cases b with
 |true=>wp_walk;exact hq t
 |false=>
  rw[Qw (by decide)];refine Qd (Gx PySem.F.excAttr_ValueError T hC fc fg fa hx hc ?_)
  repeat (first|with_reducible refine Qk hC ?_|(with_reducible refine QN hC ?_;rw[hb])|wp_step)
  exact hq _
end
noncomputable def rIsX(KC:Uh->ya->Prop):List V->Hp->VK->Prop:=λxs H Q=>∃a C dd bm fr c b,xs=[.ref a,c]/\KC C bm/\H a=O (.ext (XO fr a C dd)) /\
 ((∃D bm',c=.ref D/\KC D bm'/\(Value.ref C::bm).contains (.ref D)=b) ∨ ∃T,c=.ty T/\typeOf (.type T)=pure (.type "type")/\(Value.ref C::bm).contains (.type T)=b)/\Q (.bl b) H
theorem qm{X:Cx}{KC:Uh->ya->Prop}(hcls:∀C bm,KC C bm->∃fI,XCls (model X.prog X.w) X.base C bm fI):Yt X (.builtin "isinstance") (rIsX KC):=by
 rintro pins s σ H xs us Q I r ⟨a,C,dd,bm,fr,c,b,rfl,kc,hx,hD,q⟩;cases r with
 |cons ra r=>
 cases r with
 |cons rc r=>
 cases r;have ra':_=Value.ref a:=ra;subst ra';obtain⟨fI,XC⟩:=hcls C bm kc;obtain⟨nm,qn,N,bs,sn,sub,ab,col,aJ,k0,k1,k2,k3,k5,hC⟩:=XC.obj;obtain⟨⟨vs,sl,ga,_⟩,_,_⟩:=I.hok a _ hx;obtain⟨hp,g,d,tk,os⟩:=s;rcases hD with ⟨D,bm',rfl,kd,hb⟩|⟨T,rfl,hT,hb⟩
 .have rc':_=Value.ref D:=rc
  subst rc';obtain⟨fI',XD'⟩:=hcls D bm' kd;obtain⟨yO,qn',N',bs',sn',sub',zU,col',dd2,j0,j1,j2,j3,j5,yP⟩:=XD'.obj;exact BX XC.tail (I.bk _ _ hC) (I.bk _ _ yP) (XC.cl.keeps I.bk) (XC.ga.keeps I.bk) (XC.gh.keeps I.bk) ga wZ hb λtk'=>⟨.bl b,H,I.tok tk',rfl,q⟩
 .have rc':_=Value.type T:=rc
  subst rc';exact Do XC.tail (I.bk _ _ hC) hT (XC.cl.keeps I.bk) (XC.ga.keeps I.bk) (XC.gh.keeps I.bk) ga wZ hb λtk'=>⟨.bl b,H,I.tok tk',rfl,q⟩
theorem xj{CX:CXT}{P:Ug}{w:World}{K:Frag}{mg:Str->yc}{base:Heap}{N:List Str}{qual:Str}{scope:Scope}{f:Uh}{cd:Ue}{A:Around}{outer:List Env}{s:Uf}{H:Hp}{E:XK} :
  PassesOwn (model P w) (Zh CX P w K mg base N qual scope f cd A outer s H E).A (Zh CX P w K mg base N qual scope f cd A outer s H E).env (Zh CX P w K mg base N qual scope f cd A outer s H E).xe:=
 PassesOwn.leaving (Q₁:=λe s''=>CX outer H s E e s'')
noncomputable def Sz(KC:Uh->ya->Prop):Sp:=λvs H Q _=>∃a C dd bm x,vs=[.ref a,.str x]/\KC C bm/\H a=O (.ext (XO w5 a C dd))/\Q .non H
noncomputable def Pq(KC:Uh->ya->Prop)(fs:List Str):Sp:=λvs H Q _=>∃a C bm us,vs=.ref a::us/\us.length=fs.length/\KC C bm/\H a=O (.ext (XO w5 a C w4))/\(∀u∈us,∃y,FmtV u y/\y.length<=4000) /\
 ∀dx,H dx=w4->dx≠a->Q .non (upd (upd H a (.ext (XO w5 a C (O dx)))) dx (.ext (XD dx (fs.zip us))))
noncomputable def Yj(nm:Str):List Str:=if nm = "NoWishes" then ["part", "number"]else if nm = "NoAim" then ["part"]else if nm = "NoText" then ["row"]else []
noncomputable def RU(K:Frag)(nm:Str):yh:=match PySem.W.nsIn K mainGlobals nm with|some (O (.ref C))=>O C|_=>w4
def NmAt(K:Frag)(nm:Str)(C:Uh):Prop:=∃o cd,K.lookup C=O o/\o.data=.cls cd/\cd.name=nm
structure ClsK(K:Frag)(nm:Str)(C:Uh)(bm:ya):Prop where
 ad:RU K nm=O C
 nmd:NmAt K nm C
 up:nm = "DealError" /\ bm=VB∨nm ≠ "DealError" /\ ∃D,RU K "DealError" = O D/\bm=.ref D::VB/\NmAt K "DealError" D
 cls:∀(M:Model)(h:Heap),K.In h->∃fI,XCls M h C bm fI
 fld:∀(M:Model)(h:Heap),K.In h->∀f∈(["part", "number", "row"]:List Str),K8 M C f w4 h
noncomputable def KC(K:Frag):Uh->ya->Prop:=λC bm=>∃nm,ClsK K nm C bm
section
variable{K:Frag}{nm x:Str}{C D:Uh}{bm bm':ya}
theorem NmAt.ne(c:NmAt K nm C)(d:NmAt K x D)(h:x≠nm):C≠D:=λe=>by subst e;obtain⟨o,cd,h1,h2,h3⟩:=c;obtain⟨o',cd',g1,g2,g3⟩:=d;rw[h1]at g1;cases g1;rw[h2]at g2;cases g2;exact h (g3.symm.trans h3)
theorem ClsK.has(c:ClsK K nm C bm)(d:ClsK K x D bm'):(Value.ref C::bm).contains (.ref D)=(decide (x=nm) || decide (x = "DealError")):=by
 by_cases e:x=nm
 .subst e
  have:=c.ad.symm.trans d.ad;cases this;simp
 .have ne:=c.nmd.ne d.nmd e
  rw[Qr e,Bool.false_or];have h0:(Value.ref D==Value.ref C)=w6:=by simp[Ne.symm ne]
  rw[QW,h0,Bool.false_or];by_cases e2:x = "DealError"
  .subst e2
   rcases c.up with ⟨z,_⟩|⟨_,D',g,rfl,_⟩
   .exact absurd z.symm e
   .have:=g.symm.trans d.ad
    cases this;simp
  .rw[Qr e2]
   rcases c.up with ⟨_,rfl⟩|⟨_,D',g,rfl,n⟩
   .rfl
   .have ne2:=n.ne d.nmd e2
    have h1:(Value.ref D==Value.ref D')=w6:=by simp[Ne.symm ne2]
    rw[QW,h1,Bool.false_or];rfl
theorem ClsK.ty(c:ClsK K nm C bm)(T:String):(Value.ref C::bm).contains (.type T)=VB.contains (.type T):=by
 rcases c.up with ⟨_,rfl⟩|⟨_,D',g,rfl,n⟩
 .rfl
 .rfl
end
section
variable{X:Cx}{e:Uj}{st:Stmt}{sts:List Stmt}{t:TE}{ts:TS}
theorem PE.kin(h:X.K.In X.base->PE X e t):PE X e t:=λpins s σ H Q I q=>h I.ok.mod.kin pins s σ H Q I q
theorem PS.kin(h:X.K.In X.base->PS X st ts):PS X st ts:=λpins s σ H Q I q=>h I.ok.mod.kin pins s σ H Q I q
theorem PSs.kin(h:X.K.In X.base->PSs X sts ts):PSs X sts ts:=λpins s σ H Q I q=>h I.ok.mod.kin pins s σ H Q I q
theorem V0(k:X.K.In X.base):∀C bm,KC X.K C bm->∃fI,XCls (model X.prog X.w) X.base C bm fI:=λ_ _ ⟨_,c⟩=>c.cls _ _ k
end
def NI(nm:Str)(us:List V):Prop:=(Yj nm=[]/\∃x,us=[.str x])∨(Yj nm≠[]/\us.length=(Yj nm).length/\∀u∈us,∃y,FmtV u y/\y.length<=4000)
def NH(nm:Str)(C a:Uh)(us:List V)(H:Hp)(dd:yh)(H':Hp):Prop:=
 (Yj nm=[]/\dd=w4/\H'=H)∨(Yj nm≠[]/\us.length=(Yj nm).length/\∃dx,dd=O dx/\H dx=w4/\dx≠a/\H'=upd (upd H a (.ext (XO w5 a C (O dx)))) dx (.ext (XD dx ((Yj nm).zip us))))
def Me(K:Frag)(nm:Str)(C:Uh)(sp:Sp):Prop:=∀a us H Q,H a=O (.ext (XO w5 a C w4))->NI nm us->(∀dd H',NH nm C a us H dd H'->Q .non H')->sp (.ref a::us) H Q E0
def MkX(P:Ug)(w:World)(K:Frag)(mg:Str->yc)(base:Heap)(nm:Str)(k:Nat):Prop:=
 ∃C bm f fd ps sp,mg nm=O (.ref C)/\PySem.W.keepIn K (.ref C)=w5/\ClsK K nm C bm/\(∀(M:Model)(h:Heap),K.In h->XCls M h C bm f)/\FnOk P w K mg base CX0 k f fd ps sp/\Ys K fd ps []/\Me K nm C sp
theorem ql{K:Frag}{nm:Str}{C:Uh}{bm:ya}(c:ClsK K nm C bm)(hf:Yj nm≠[]):Me K nm C (Pq (KC K) (Yj nm)):=λa us H Q h ar q=>by
 rcases ar with ⟨z,_⟩|⟨_,hl,hu⟩
 .exact absurd z hf
 .exact⟨a,C,bm,us,rfl,hl,⟨nm,c⟩,h,hu,λdx hd hne=>q (O dx) _ (.inr ⟨hf,hl,dx,rfl,hd,hne,rfl⟩)⟩
end L2
namespace DL
open PySem PySem.Spec L2
open PyProof.Rows hiding St
abbrev D:=PyData
abbrev w8:=List D
abbrev yb:=Option D
abbrev XW:=V->St->Hp->Prop
abbrev KX0:XW:=λ_ _ _=>False
def XFs(G:Hp)(dd:yh)(fs:List Str)(vs:List V):Prop:=match dd with
 |none=>fs=[]/\vs=[]
 |some dx=>fs.length=vs.length/\G dx=O (.ext (XD dx (fs.zip vs)))
theorem XFs.mono{G G1:Hp}{dd:yh}{fs:List Str}{vs:List V}(e:Same G G1)(h:XFs G dd fs vs):XFs G1 dd fs vs:=by
 cases dd with
 |none=>exact h
 |some dx=>exact⟨h.1,e _ _ h.2⟩
def kD:Key->D
 |.inl i=>.int i
 |.inr x=>.str x
def tkD(k:yk):D:=.tuple (k.map kD)
noncomputable def pdD(ks:List yk)(ds:w8):List (D×D):=(.bool w5,.none)::(ks.map tkD).zip ds
mutual
inductive Rep(K:Frag)(G:Hp):V->D->Prop where
 |non:Rep K G .non .none
 |bl (b:Bool):Rep K G (.bl b) (.bool b)
 |int (i:Int):Rep K G (.int i) (.int i)
 |str (x:Str):Rep K G (.str x) (.str x)
 |lst {a:Uh} {vs:List V} {ds:w8} (h:SqL K G a vs) (r:Reps K G vs ds):Rep K G (.ref a) (.list ds)
 |tup {a:Uh} {vs:List V} {ds:w8} (h:SqT K G a vs) (r:Reps K G vs ds):Rep K G (.ref a) (.tuple ds)
 |dic {a:Uh} (h:G a=O (.dK [])):Rep K G (.ref a) (.dict [])
 |exc {a C:Uh} {dd:yh} {bm:ya} {nm:Str} {vs:List V} {ds:w8} (c:ClsK K nm C bm) (h:G a=O (.ext (XO w6 a C dd))) (hd:XFs G dd (Yj nm) vs) (r:Reps K G vs ds):Rep K G (.ref a) (.dict [(.none,.tuple [.str nm,.list ds])])
 |dct {a:Uh} {ks:yk} {vs:List V} {ds:w8} {kvs:List (D×D)} (e:kvs=(ks.map kD).zip ds) (hne:ks≠[]) (hl:ks.length=ds.length) (h:G a=O (.dK (ks.zip vs))) (r:Reps K G vs ds):Rep K G (.ref a) (.dict kvs)
 |dtt {a:Uh} {o:Obj} {ks:List yk} {vs:List V} {ds:w8} {kvs:List (D×D)} (e:kvs=pdD ks ds) (hl:ks.length=ds.length) (h:G a=O (.frz o (.dT (ks.zip vs)))) (r:Reps K G vs ds):Rep K G (.ref a) (.dict kvs)
inductive Reps(K:Frag)(G:Hp):List V->w8->Prop where
 |nil:Reps K G [] []
 |cons {v:V} {d:D} {vs:List V} {ds:w8} (h:Rep K G v d) (t:Reps K G vs ds):Reps K G (v::vs) (d::ds)
end
variable{K:Frag}{B G0 G G1 G2 H H1 H2:Hp}
theorem YU{a:Uh}{xs:List V}(e:Same G G1)(h:SqT K G a xs):SqT K G1 a xs:=by
 rcases h with (h|⟨o,h⟩)|h
 .exact .inl (.inl (e _ _ h))
 .exact .inl (.inr ⟨o,e _ _ h⟩)
 .exact .inr h
theorem Rep.mono(e:Same G G1){v:V}{d:D}(r:Rep K G v d):Rep K G1 v d:=Rep.rec (motive_1:=λv d _=>Rep K G1 v d) (motive_2:=λvs ds _=>Reps K G1 vs ds) .non .bl .int .str (λh _ r=>.lst (e.seq h) r) (λh _ r=>.tup (YU e h) r) (λh=>.dic (e _ _ h)) (λc h hd _ r=>.exc c (e _ _ h) (hd.mono e) r) (λz n l h _ r=>.dct z n l (e _ _ h) r) (λz l h _ r=>.dtt z l (e _ _ h) r) .nil (λ_ _=>.cons) r
theorem Reps.mono(e:Same G G1){vs:List V}{ds:w8}(r:Reps K G vs ds):Reps K G1 vs ds:=Reps.rec (motive_1:=λv d _=>Rep K G1 v d) (motive_2:=λvs ds _=>Reps K G1 vs ds) .non .bl .int .str (λh _ r=>.lst (e.seq h) r) (λh _ r=>.tup (YU e h) r) (λh=>.dic (e _ _ h)) (λc h hd _ r=>.exc c (e _ _ h) (hd.mono e) r) (λz n l h _ r=>.dct z n l (e _ _ h) r) (λz l h _ r=>.dtt z l (e _ _ h) r) .nil (λ_ _=>.cons) r
theorem xi{ks:yk}{ds:w8}{d:D}{r:List (D×D)}(e:(.none,d)::r=(ks.map kD).zip ds):False:=by
 cases ks with
 |nil=>cases e
 |cons k ks=>
  cases ds with
  |nil=>cases e
  |cons d ds=>
   rw[Qy,JX]at e;injection e with e1 _;injection e1 with e2 _
   cases k<;>cases e2
section
variable{v:V}{vs ws:List V}{ds es:w8}
theorem Rep.bl_inv{b:Bool}(h:Rep K G v (.bool b)):v=.bl b:=by cases h;rfl
theorem Rep.int_inv{i:Int}(h:Rep K G v (.int i)):v=.int i:=by cases h;rfl
theorem Rep.str_inv{x:Str}(h:Rep K G v (.str x)):v=.str x:=by cases h;rfl
theorem Rep.lst_inv(h:Rep K G v (.list ds)):∃a vs,v=.ref a/\SqL K G a vs/\Reps K G vs ds:=by
 cases h with
 |lst h r=>exact⟨_,_,rfl,h,r⟩
theorem Rep.tup_inv(h:Rep K G v (.tuple ds)):∃a vs,v=.ref a/\SqT K G a vs/\Reps K G vs ds:=by
 cases h with
 |tup h r=>exact⟨_,_,rfl,h,r⟩
theorem Rep.exc_inv{d:D}(h:Rep K G v (.dict [(.none,d)])):∃a C dd bm nm vs ds,v=.ref a/\d=.tuple [.str nm,.list ds]/\ClsK K nm C bm/\G a=O (.ext (XO w6 a C dd))/\XFs G dd (Yj nm) vs/\Reps K G vs ds:=by
 cases h with
 |exc c h hd r=>exact⟨_,_,_,_,_,_,_,rfl,rfl,c,h,hd,r⟩
 |dct e _ _ _ _=>exact(xi e).elim
 |dtt e _ _ _=>exact nomatch (Prod.mk.inj (List.cons.inj e).1).1
theorem Reps.length:∀{vs:List V}{ds:w8},Reps K G vs ds->vs.length=ds.length
 |_,_,.nil=>rfl
 |_,_,.cons _ t=>by rw[QF,QF,Reps.length t]
theorem Reps.get:∀{vs:List V}{ds:w8}{i:Nat}{d:D},Reps K G vs ds->ds[i]?=O d->∃v,vs[i]?=O v/\Rep K G v d
 |_,_,_,_,.nil,e=>by simp at e
 |_,_,0,_,.cons h _,e=>by simp at e;subst e;exact⟨_,rfl,h⟩
 |_,_,i+1,d,.cons _ t,e=>by obtain⟨u,h1,h2⟩:=Reps.get (i:=i) (d:=d) t (by simpa using e);exact⟨u,by simpa using h1,h2⟩
theorem Reps.append:∀{vs ws:List V}{ds es:w8},Reps K G vs ds->Reps K G ws es->Reps K G (vs++ws) (ds++es)
 |_,_,_,_,.nil,s=>s
 |_,_,_,_,.cons r t,s=>.cons r (Reps.append t s)
theorem Reps.take:∀{vs:List V}{ds:w8}(n:Nat),Reps K G vs ds->Reps K G (vs.take n) (ds.take n)
 |_,_,0,_=>by rw[List.take_zero,List.take_zero];exact .nil
 |_,_,_+1,.nil=>.nil
 |_,_,n+1,.cons r t=>.cons r (Reps.take n t)
theorem Reps.drop:∀{vs:List V}{ds:w8}(n:Nat),Reps K G vs ds->Reps K G (vs.drop n) (ds.drop n)
 |_,_,0,r=>r
 |_,_,_+1,.nil=>.nil
 |_,_,n+1,.cons _ t=>Reps.drop n t
theorem Reps.reverse:∀{vs:List V}{ds:w8},Reps K G vs ds->Reps K G vs.reverse ds.reverse
 |_,_,.nil=>.nil
 |_,_,.cons r t=>by rw[List.reverse_cons,List.reverse_cons];exact Reps.append (Reps.reverse t) (.cons r .nil)
theorem Reps.set{v:V}{d:D}(r:Rep K G v d):∀{vs:List V}{ds:w8}(i:Nat),Reps K G vs ds->Reps K G (vs.set i v) (ds.set i d)
 |_,_,_,.nil=>.nil
 |_,_,0,.cons _ t=>.cons r t
 |_,_,i+1,.cons q t=>.cons q (Reps.set r i t)
theorem Reps.ints:∀(ns:w9),Reps K G (ns.map V.int) (ns.map int)
 |[]=>.nil
 |n::ns=>.cons (.int n) (Reps.ints ns)
end
inductive MO where
 |l (vs:List V)|k (kvs:List (Key×V))|t (kvs:List (yk×V))
noncomputable def MO.ho:MO->HO
 |.l vs=>.lst vs
 |.k kvs=>.dK kvs
 |.t kvs=>.dT kvs
structure Ext(G H G' H':Hp):Prop where
 h:Same H H'
 g:Same G G'
 gh:Same G' H'
 np:∀a(u:MO),H a=O u.ho->G a=w4->G' a=w4
theorem Ext.refl(e:Same G H):Ext G H G H:=⟨.refl _,.refl _,e,λ_ _ _ q=>q⟩
theorem Ext.trans{G' H' G'' H'':Hp}(a:Ext G H G' H')(b:Ext G' H' G'' H''):Ext G H G'' H'':=
 ⟨a.h.trans b.h,a.g.trans b.g,b.gh,λx o e q=>b.np x o (a.h x _ e) (a.np x o e q)⟩
theorem Zl{p:Uh}{o:HO}(h:H p=w4):Same H (upd H p o):=λb u e=>by rw[Kk (Yw e h)];exact e
theorem Ext.new{p:Uh}{o:HO}(e:Same G H)(h:H p=w4):Ext G H (upd G p o) (upd H p o):=by
 have hg:G p=w4:=e.free h;refine⟨Zl h,Zl hg,λb u q=>?_,λa u q n=>?_⟩
 .by_cases z:b=p
  .subst z;rw[KG]at q⊢;exact q
  .rw[Kk z]at q⊢;exact e b u q
 .rw[Kk (Yw q h)];exact n
theorem Ext.hid{p:Uh}{o:HO}(e:Same G H)(h:H p=w4):Ext G H G (upd H p o):=
 ⟨Zl h,.refl _,e.trans (Zl h),λ_ _ _ n=>n⟩
inductive Pat where
 |leaf|lst (p:Pat)|tup (ps:List Pat)|dic
mutual
inductive RepO(K:Frag)(G H:Hp):Pat->V->D->yf->Prop where
 |leaf {v:V} {d:D} (r:Rep K G v d):RepO K G H .leaf v d []
 |lst {p:Pat} {a:Uh} {vs:List V} {ds:w8} {fp:yf} (h:H a=O (.lst vs)) (r:RepOl K G H p vs ds fp):RepO K G H (.lst p) (.ref a) (.list ds) (a::fp)
 |tup {ps:List Pat} {a:Uh} {vs:List V} {ds:w8} {fp:yf} (h:H a=O (.tup vs)) (r:RepOs K G H ps vs ds fp):RepO K G H (.tup ps) (.ref a) (.tuple ds) fp
 |dic {a:Uh} {ks:yk} {vs:List V} {ds:w8} {kvs:List (D×D)} (e:kvs=(ks.map kD).zip ds) (hl:ks.length=ds.length) (h:H a=O (.dK (ks.zip vs))) (r:Reps K G vs ds):RepO K G H .dic (.ref a) (.dict kvs) [a]
inductive RepOl(K:Frag)(G H:Hp):Pat->List V->w8->yf->Prop where
 |nil {p:Pat}:RepOl K G H p [] [] []
 |cons {p:Pat} {v:V} {d:D} {vs:List V} {ds:w8} {f1 f2:yf} (h:RepO K G H p v d f1) (t:RepOl K G H p vs ds f2):RepOl K G H p (v::vs) (d::ds) (f1++f2)
inductive RepOs(K:Frag)(G H:Hp):List Pat->List V->w8->yf->Prop where
 |nil:RepOs K G H [] [] [] []
 |cons {p:Pat} {ps:List Pat} {v:V} {d:D} {vs:List V} {ds:w8} {f1 f2:yf} (h:RepO K G H p v d f1) (t:RepOs K G H ps vs ds f2):RepOs K G H (p::ps) (v::vs) (d::ds) (f1++f2)
end
def Xg(K:Frag)(G H:Hp)(M1:Pat->V->D->yf->Prop)(M2:Pat->List V->w8->yf->Prop)(M3:List Pat->List V->w8->yf->Prop):Prop:=
 (∀{p v d fp},RepO K G H p v d fp->M1 p v d fp)/\(∀{p vs ds fp},RepOl K G H p vs ds fp->M2 p vs ds fp)/\∀{ps vs ds fp},RepOs K G H ps vs ds fp->M3 ps vs ds fp
theorem RepO.ind3{M1:Pat->V->D->yf->Prop}{M2:Pat->List V->w8->yf->Prop}{M3:List Pat->List V->w8->yf->Prop}
  (c1:∀{v d},Rep K G v d->M1 .leaf v d []) (c2:∀{p a vs ds fp},H a=O (.lst vs)->M2 p vs ds fp->M1 (.lst p) (.ref a) (.list ds) (a::fp)) (c3:∀{ps a vs ds fp},H a=O (.tup vs)->M3 ps vs ds fp->M1 (.tup ps) (.ref a) (.tuple ds) fp)
  (c4:∀{a:Uh}{ks:yk}{vs:List V}{ds:w8}{kvs:List (D×D)},kvs=(ks.map kD).zip ds->ks.length=ds.length->H a=O (.dK (ks.zip vs))->Reps K G vs ds->M1 .dic (.ref a) (.dict kvs) [a])
  (c5:∀{p},M2 p [] [] []) (c6:∀{p v d vs ds f1 f2},M1 p v d f1->M2 p vs ds f2->M2 p (v::vs) (d::ds) (f1++f2)) (c7:M3 [] [] [] []) (c8:∀{p ps v d vs ds f1 f2},M1 p v d f1->M3 ps vs ds f2->M3 (p::ps) (v::vs) (d::ds) (f1++f2)) :
  Xg K G H M1 M2 M3:=
 ⟨λh=>RepO.rec (motive_1:=λp v d fp _=>M1 p v d fp) (motive_2:=λp v d fp _=>M2 p v d fp) (motive_3:=λp v d fp _=>M3 p v d fp) c1 (λh _=>c2 h) (λh _=>c3 h) c4 c5 (λ_ _=>c6) c7 (λ_ _=>c8) h,
  λh=>RepOl.rec (motive_1:=λp v d fp _=>M1 p v d fp) (motive_2:=λp v d fp _=>M2 p v d fp) (motive_3:=λp v d fp _=>M3 p v d fp) c1 (λh _=>c2 h) (λh _=>c3 h) c4 c5 (λ_ _=>c6) c7 (λ_ _=>c8) h,
  λh=>RepOs.rec (motive_1:=λp v d fp _=>M1 p v d fp) (motive_2:=λp v d fp _=>M2 p v d fp) (motive_3:=λp v d fp _=>M3 p v d fp) c1 (λh _=>c2 h) (λh _=>c3 h) c4 c5 (λ_ _=>c6) c7 (λ_ _=>c8) h⟩
theorem RepO.mono3(sg:Same G G1)(sh:Same H H1):Xg K G H (RepO K G1 H1) (RepOl K G1 H1) (RepOs K G1 H1):=
 RepO.ind3 (λr=>.leaf (r.mono sg)) (λh r=>.lst (sh _ _ h) r) (λh r=>.tup (sh _ _ h) r) (λe hl h r=>.dic e hl (sh _ _ h) (r.mono sg)) .nil .cons .nil .cons
theorem RepO.mono(sg:Same G G1)(sh:Same H H1){p:Pat}{v:V}{d:D}{fp:yf}(r:RepO K G H p v d fp):RepO K G1 H1 p v d fp:=(RepO.mono3 sg sh).1 r
theorem RepO.upd3{a:Uh}{o:HO}(nt:∀vs,H a≠O (.tup vs)):Xg K G H (λp v d fp=>a∉fp->RepO K G (upd H a o) p v d fp) (λp v d fp=>a∉fp->RepOl K G (upd H a o) p v d fp) (λp v d fp=>a∉fp->RepOs K G (upd H a o) p v d fp):=
 RepO.ind3
 (λr _=>.leaf r) (λh r n=>.lst (by rw[Kk (λz=>n (by rw[z];exact Qo))];exact h) (r λz=>n (Qp _ z))) (λh r n=>.tup (by rw[Kk (λz=>by subst z;exact nt _ h)];exact h) (r n))
 (λe hl h r n=>.dic e hl (by rw[Kk (λz=>n (by rw[z];exact Qo))];exact h) r) (λ_=>.nil) (λh t n=>.cons (h λz=>n (Jv _ z)) (t λz=>n (QQ _ z))) (λ_=>.nil) (λh t n=>.cons (h λz=>n (Jv _ z)) (t λz=>n (QQ _ z)))
theorem RepO.upd{a:Uh}{o:HO}(nt:∀vs,H a≠O (.tup vs)){p:Pat}{v:V}{d:D}{fp:yf}(r:RepO K G H p v d fp)(n:a∉fp):RepO K G (upd H a o) p v d fp:=(RepO.upd3 nt).1 r n
theorem RepO.rep3(gh:Same G H):Xg K G H (λ_ v d _=>Rep K H v d) (λ_ v d _=>Reps K H v d) (λ_ v d _=>Reps K H v d):=
 RepO.ind3 (λr=>r.mono gh) (λh r=>.lst (SqL.of h) r) (λh r=>.tup (SqT.of h) r)
 (λ{a ks vs ds kvs} e hl h r=>by
  cases ks with
  |nil=>subst e;exact .dic h
  |cons k ks=>exact .dct e (λz=>by cases z) hl h (r.mono gh)) .nil .cons .nil .cons
theorem RepO.rep(gh:Same G H){p:Pat}{v:V}{d:D}{fp:yf}(r:RepO K G H p v d fp):Rep K H v d:=(RepO.rep3 gh).1 r
theorem RepO.isl3:Xg K G H (λ_ _ _ fp=>∀a∈fp,∃u:MO,H a=O u.ho) (λ_ _ _ fp=>∀a∈fp,∃u:MO,H a=O u.ho) (λ_ _ _ fp=>∀a∈fp,∃u:MO,H a=O u.ho):=
 RepO.ind3 (λ_ a m=>by cases m)
 (λh r b m=>(Qx.mp m).elim (λe=>⟨.l _,e ▸ h⟩) (r b)) (λ_ r=>r) (λ_ _ h _ b m=>⟨.k _,QO.mp m ▸ h⟩) (λa m=>by cases m) (λh t b m=>(QS.mp m).elim (h b) (t b)) (λa m=>by cases m) (λh t b m=>(QS.mp m).elim (h b) (t b))
theorem RepO.isl{p:Pat}{v:V}{d:D}{fp:yf}(r:RepO K G H p v d fp):∀a∈fp,∃u:MO,H a=O u.ho:=RepO.isl3.1 r
theorem RepO.uniq3(sh:Same H H1):Xg K G H (λp v _ fp=>∀d' fp',RepO K G1 H1 p v d' fp'->fp=fp') (λp v _ fp=>∀d' fp',RepOl K G1 H1 p v d' fp'->fp=fp') (λp v _ fp=>∀d' fp',RepOs K G1 H1 p v d' fp'->fp=fp'):=
 RepO.ind3
 (λ_ d' fp' h=>by cases h;rfl)
 (λh r d' fp' h'=>by
  cases h' with
  |lst h2 r2=>have e:=sh _ _ h;rw[h2]at e;cases e;rw[r _ _ r2])
 (λh r d' fp' h'=>by
  cases h' with
  |tup h2 r2=>have e:=sh _ _ h;rw[h2]at e;cases e;exact r _ _ r2)
 (λ_ _ _ _ d' fp' h=>by cases h;rfl) (λd' fp' h=>by cases h;rfl)
 (λh t d' fp' h'=>by
  cases h' with
  |cons h2 t2=>rw[h _ _ h2,t _ _ t2])
 (λd' fp' h=>by cases h;rfl)
 (λh t d' fp' h'=>by
  cases h' with
  |cons h2 t2=>rw[h _ _ h2,t _ _ t2])
theorem RepO.uniq(sh:Same H H1){p:Pat}{v:V}{d d':D}{fp fp':yf}(r:RepO K G H p v d fp)(r':RepO K G1 H1 p v d' fp'):fp=fp':=(RepO.uniq3 sh).1 r _ _ r'
inductive Sl where
 |pub (d:D)|own (ds:w8)|deep (p:Pat) (d:D)
abbrev UI:=List (Option Sl)
abbrev ye:=Option UI
def DpOk(K:Frag)(B G H:Hp)(σ:St)(Z:UI):Prop:=∃ω:Uh->Nat,
 (∀(i:Nat) p d,Z[i]?=O (O (.deep p d))->∃v fp,σ[i]?=O (O v)/\RepO K G H p v d fp/\fp.Nodup/\∀a∈fp,B a=w4/\G a=w4/\ω a=i) /\
 (∀(i:Nat) ds a,Z[i]?=O (O (.own ds))->σ[i]?=O (O (.ref a))->ω a=i)
theorem DpOk.of{σ:St}{Z:UI}(h1:∀(i:Nat) p d,Z[i]?=O (O (.deep p d))->False)(h2:∀(i:Nat) ds,Z[i]?=O (O (.own ds))->False):DpOk K B G H σ Z:=
 ⟨λ_=>0,λi p d q=>(h1 i p d q).elim,λi ds a q=>(h2 i ds q).elim⟩
theorem DpOk.map{B1:Hp}{σ σ1:St}{Z Z1:UI}(k:DpOk K B G H σ Z)
  (h1:∀(i:Nat) p d,Z1[i]?=O (O (.deep p d))->Z[i]?=O (O (.deep p d))/\σ1[i]?=σ[i]?)
  (h2:∀(i:Nat) ds,Z1[i]?=O (O (.own ds))->∃es,Z[i]?=O (O (.own es))/\σ1[i]?=σ[i]?)
  (h3:∀(i:Nat) p d v fp,Z[i]?=O (O (.deep p d))->σ[i]?=O (O v)->RepO K G H p v d fp->(∀a∈fp,B a=w4/\G a=w4)->(∀(j:Nat) ds a,Z[j]?=O (O (.own ds))->σ[j]?=O (O (.ref a))->a∉fp)->RepO K G1 H1 p v d fp/\∀a∈fp,B1 a=w4/\G1 a=w4):DpOk K B1 G1 H1 σ1 Z1:=by
 obtain⟨ω,k1,k2⟩:=k;refine⟨ω,λi p d q=>?_,λi ds a q s=>?_⟩
 .obtain⟨q1,e1⟩:=h1 i p d q
  obtain⟨v,fp,s,r,n,w⟩:=k1 i p d q1;obtain⟨r1,w1⟩:=h3 i p d v fp q1 s r (λa m=>⟨(w a m).1,(w a m).2.1⟩) λj ds a qj sj m=>by have z1:=k2 j ds a qj sj;have z2:=(w a m).2.2;rw[z1]at z2;subst z2;rw[q1]at qj;cases qj
  exact⟨v,fp,by rw[e1];exact s,r1,n,λa m=>⟨(w1 a m).1,(w1 a m).2,(w a m).2.2⟩⟩
 .obtain⟨es,q1,e1⟩:=h2 i ds q
  rw[e1]at s;exact k2 i es a q1 s
structure EOk(K:Frag)(B G0 G H:Hp)(σ:St)(Z:UI):Prop where
 bh:Same B H
 gh:Same G H
 g0:Same G0 G
 np:∀a(u:MO),B a=O u.ho->G0 a=w4->G a=w4
 len:Z.length=σ.length
 pub:∀(i:Nat) d,Z[i]?=O (O (.pub d))->∃v,σ[i]?=O (O v)/\Rep K G v d
 own:∀(i:Nat) ds,Z[i]?=O (O (.own ds))->∃a vs,σ[i]?=O (O (.ref a))/\B a=w4/\G a=w4/\H a=O (.lst vs)/\Reps K G vs ds
 sep:∀(i j:Nat) a ds es,Z[i]?=O (O (.own ds))->Z[j]?=O (O (.own es))->σ[i]?=O (O (.ref a))->σ[j]?=O (O (.ref a))->i=j
 dp:DpOk K B G H σ Z
theorem EOk.ext{G' H':Hp}{σ:St}{Z:UI}(k:EOk K B G0 G H σ Z)(e:Ext G H G' H'):EOk K B G0 G' H' σ Z where
 bh:=k.bh.trans e.h
 gh:=e.gh
 g0:=k.g0.trans e.g
 np:=λa o q n=>e.np a o (k.bh a _ q) (k.np a o q n)
 len:=k.len
 pub:=λi d q=>let ⟨v,h1,h2⟩:=k.pub i d q;⟨v,h1,h2.mono e.g⟩
 own:=λi ds q=>let ⟨a,vs,h1,h2,h3,h4,h5⟩:=k.own i ds q;⟨a,vs,h1,h2,e.np a (.l _) h4 h3,e.h a _ h4,h5.mono e.g⟩
 sep:=k.sep
 dp:=k.dp.map (λ_ _ _ q=>⟨q,rfl⟩) (λ_ ds q=>⟨ds,q,rfl⟩) λi p d v fp q s r w n=>⟨r.mono e.g e.h,λa m=>let ⟨_,hl⟩:=r.isl a m;⟨(w a m).1,e.np a _ hl (w a m).2⟩⟩
theorem EOk.publish{σ:St}{Z:UI}{i:Nat}{ds:w8}(k:EOk K B G0 G H σ Z)(h:Z[i]?=O (O (.own ds))) :
  ∃a G',σ[i]?=O (O (.ref a))/\Same G G'/\Rep K G' (.ref a) (.list ds)/\EOk K B G0 G' H σ (Z.set i (O (.pub (.list ds)))):=by
 obtain⟨a,vs,h1,h2,h3,h4,h5⟩:=k.own i ds h;have sg:Same G (upd G a (.lst vs)):=Zl h3;have hr:Rep K (upd G a (.lst vs)) (.ref a) (.list ds):=.lst (SqL.of KG) (h5.mono sg);refine⟨a,upd G a (.lst vs),h1,sg,hr,⟨k.bh,λb u q=>?_,k.g0.trans sg,λb o q n=>?_,by rw[Q5];exact k.len,λj d q=>?_,λj es q=>?_,λj l c es fs q1 q2 s1 s2=>?_,?_⟩⟩
 .by_cases z:b=a
  .subst z;rw[KG]at q;cases q;exact h4
  .rw[Kk z]at q;exact k.gh b u q
 .have z:b≠a:=λz=>by subst z;rw[h2]at q;cases q
  rw[Kk z];exact k.np b o q n
 .by_cases z:i=j
  .subst z
   have hl:i<Z.length:=(Ql.mp h).1;rw[QK hl]at q;cases q;exact⟨.ref a,h1,hr⟩
  .rw[Qn z]at q
   obtain⟨v,g1,g2⟩:=k.pub j d q;exact⟨v,g1,g2.mono sg⟩
 .by_cases z:i=j
  .subst z
   have hl:i<Z.length:=(Ql.mp h).1;rw[QK hl]at q;cases q
  .rw[Qn z]at q
   obtain⟨b,ws,g1,g2,g3,g4,g5⟩:=k.own j es q;have zb:b≠a:=λe=>z (k.sep i j a ds es h q h1 (by rw[←e];exact g1))
   exact⟨b,ws,g1,g2,by rw[Kk zb];exact g3,g4,g5.mono sg⟩
 .have nz:∀{m:Nat}{ts:w8},(Z.set i (O (Sl.pub (.list ds))))[m]?=O (O (.own ts))->Z[m]?=O (O (.own ts)):=λ{m ts} q=>by
   by_cases z:i=m
   .subst z
    have hl:i<Z.length:=(Ql.mp h).1;rw[QK hl]at q;cases q
   .rw[Qn z]at q;exact q
  exact k.sep j l c es fs (nz q1) (nz q2) s1 s2
 .have hl:i<Z.length:=(Ql.mp h).1
  have nz:∀{m:Nat}{s:Sl},(Z.set i (O (Sl.pub (.list ds))))[m]?=O (O s)->(∃d,s=.pub d)∨Z[m]?=O (O s):=λ{m s} q=>by
   by_cases z:i=m
   .subst z
    rw[QK hl]at q;cases q;exact .inl ⟨_,rfl⟩
   .rw[Qn z]at q;exact .inr q
  refine k.dp.map (λm p d q=>?_) (λm es q=>?_) λm p d v fp q s r w n=>⟨r.mono sg (.refl _),λb mb=>⟨(w b mb).1,?_⟩⟩
  .rcases nz q with ⟨_,e⟩|q
   .cases e
   .exact⟨q,rfl⟩
  .rcases nz q with ⟨_,e⟩|q
   .cases e
   .exact⟨es,q,rfl⟩
  .rw[Kk (λz=>by subst z;exact n i ds b h h1 mb)];exact(w b mb).2
inductive Res(α:Type) where
 |ok (a:α) (Z:UI)|bad
abbrev M(α:Type):=UI->Res α
def UJ{α:Type}(a:α):M α:=λZ=>.ok a Z
noncomputable def UX{α:Type}(o:Option α):M α:=λZ=>match o with|some a=>.ok a Z|none=>.bad
noncomputable def UW{α β:Type}(f:M α)(k:α->M β):M β:=λZ=>match f Z with | .ok a Z'=>k a Z' | .bad=>.bad
section
variable(K:Frag)(B G0:Hp)
def aft{α γ:Type}(R:Hp->γ->α->Prop)(r:Res α)(G:Hp)(σ:St)(Q:γ->Hp->Prop):Prop:=
 match r with
 |.ok d Z'=>∀v G' H',EOk K B G0 G' H' σ Z'->Same G G'->R G' v d->Q v H'
 |.bad=>False
noncomputable def tM{α γ:Type}(R:Hp->γ->α->Prop)(f:M α):St->Hp->(γ->Hp->Prop)->Prop:=λσ H Q=>
 ∃G Z,EOk K B G0 G H σ Z/\aft K B G0 R (f Z) G σ Q
noncomputable abbrev tD(f:M D):TE:=tM K B G0 (Rep K) f
noncomputable abbrev tDs(f:M w8):TA:=tM K B G0 (Reps K) f
noncomputable abbrev tBo(f:M Bool):TT:=tM K B G0 (λ_ b c=>b=c) f
noncomputable abbrev tOi(f:M yg):TO:=tM K B G0 (λ_ b c=>b=c) f
end
section
variable{K:Frag}{B G0:Hp}{α β γ δ ε:Type}{R:Hp->γ->α->Prop}{S:Hp->δ->β->Prop}{T:Hp->ε->α->Prop}{σ:St}{H:Hp}
theorem aft.mono{r:Res α}{G G':Hp}{Q:γ->Hp->Prop}(e:Same G G')(h:aft K B G0 R r G σ Q):aft K B G0 R r G' σ Q:=by
 cases r with
 |ok d Z=>exact λv G2 H2 k s q=>h v G2 H2 k (e.trans s) q
 |bad=>exact h
theorem aft.done{d:α}{Z:UI}{G G' H H':Hp}{v:γ}{Q:γ->Hp->Prop}(h:aft K B G0 R (.ok d Z) G σ Q)(k:EOk K B G0 G H σ Z)(e:Ext G H G' H')(r:R G' v d):Q v H':=
 h v G' H' (k.ext e) e.g r
theorem aft.now{d:α}{Z:UI}{G H:Hp}{v:γ}{Q:γ->Hp->Prop}(h:aft K B G0 R (.ok d Z) G σ Q)(k:EOk K B G0 G H σ Z)(r:R G v d):Q v H:=
 h v G H k (.refl _) r
theorem aft.opt{o:Option α}{Z:UI}{G:Hp}{Q:γ->Hp->Prop}(h:aft K B G0 R (UX o Z) G σ Q):∃d,o=O d/\aft K B G0 R (.ok d Z) G σ Q:=by
 cases o with
 |none=>exact h.elim
 |some d=>exact⟨d,rfl,h⟩
theorem tM.bind{f:M α}{k:α->M β}{Q:δ->Hp->Prop}(h:tM K B G0 S (UW f k) σ H Q) :
  tM K B G0 R f σ H (λv H1=>∃G Z d,EOk K B G0 G H1 σ Z/\R G v d/\aft K B G0 S (k d Z) G σ Q):=by
 obtain⟨G,Z,e,a⟩:=h;refine⟨G,Z,e,?_⟩;unfold UW at a;cases q:f Z with
 |bad=>rw[q]at a;exact a.elim
 |ok d Z1=>rw[q]at a;exact λv G' H' e' s r=>⟨G',Z1,d,e',r,aft.mono s a⟩
theorem tM.bind2{α' γ':Type}{R':Hp->γ'->α'->Prop}{f:M α}{g:α->M α'}{k:α->α'->M β}{Q:δ->Hp->Prop}(mo:∀G G' v d,Same G G'->R G v d->R G' v d)
  (h:tM K B G0 S (UW f λx=>UW (g x) λy=>k x y) σ H Q) :
  tM K B G0 R f σ H (λv H1=>∃x,tM K B G0 R' (g x) σ H1 λu H2=>∃G Z y,EOk K B G0 G H2 σ Z/\R G v x/\R' G u y/\aft K B G0 S (k x y Z) G σ Q):=by
 obtain⟨G,Z,e,a⟩:=tM.bind (R:=R) h;refine⟨G,Z,e,?_⟩;cases q:f Z with
 |bad=>rw[q]at a;exact a.elim
 |ok d Z1=>
  rw[q]at a;intro v G' H' e' s r;obtain⟨G2,Z2,d2,e2,r2,a2⟩:=a v G' H' e' s r;refine⟨d2,G2,Z2,e2,?_⟩;unfold UW at a2;cases q2:g d2 Z2 with
  |bad=>rw[q2]at a2;exact a2.elim
  |ok d3 Z3=>rw[q2]at a2;exact λu G3 H3 e3 s3 r3=>⟨G3,Z3,d3,e3,mo _ _ _ _ s3 r2,r3,aft.mono s3 a2⟩
end
theorem Lg{K:Frag}(G G':Hp)(v:V)(d:D)(e:Same G G')(r:Rep K G v d):Rep K G' v d:=r.mono e
theorem tM.two{K:Frag}{B G0:Hp}{β δ:Type}{S:Hp->δ->β->Prop}{σ:St}{H:Hp}{f g:M D}{k:D->D->M β}{Q:δ->Hp->Prop}{P:V->V->Hp->Prop}
  (h:tM K B G0 S (UW f λx=>UW g λy=>k x y) σ H Q)
  (i:∀v u H2 G Z x y,EOk K B G0 G H2 σ Z->Rep K G v x->Rep K G u y->aft K B G0 S (k x y Z) G σ Q->P v u H2) :
  tD K B G0 f σ H (λv H1=>tD K B G0 g σ H1 λu H2=>P v u H2):=by
 obtain⟨G,Z,e,a⟩:=tM.bind2 (R:=Rep K) (R':=Rep K) Lg h;refine⟨G,Z,e,?_⟩;cases q:f Z with
 |bad=>rw[q]at a;exact a.elim
 |ok d Z1=>
  rw[q]at a;intro v G' H' e' s r;obtain⟨x,G2,Z2,e2,a2⟩:=a v G' H' e' s r;refine⟨G2,Z2,e2,?_⟩;cases q2:g Z2 with
  |bad=>rw[q2]at a2;exact a2.elim
  |ok d3 Z3=>rw[q2]at a2;intro u G3 H3 e3 s3 r3;obtain⟨G4,Z4,y,e4,r4,r5,a5⟩:=a2 u G3 H3 e3 s3 r3;exact i v u H3 G4 Z4 x y e4 r4 r5 a5
theorem tM.one{K:Frag}{B G0:Hp}{α β γ δ:Type}{R:Hp->γ->α->Prop}{S:Hp->δ->β->Prop}{σ:St}{H:Hp}{f:M α}{k:α->M β}{Q:δ->Hp->Prop}{P:γ->Hp->Prop}
  (h:tM K B G0 S (UW f k) σ H Q) (i:∀v H2 G Z x,EOk K B G0 G H2 σ Z->R G v x->aft K B G0 S (k x Z) G σ Q->P v H2):tM K B G0 R f σ H P:=by
 obtain⟨G,Z,e,a⟩:=tM.bind (R:=R) h;refine⟨G,Z,e,?_⟩;cases q:f Z with
 |bad=>rw[q]at a;exact a.elim
 |ok d Z1=>rw[q]at a;intro v G' H' e' s r;obtain⟨G2,Z2,d2,e2,r2,a2⟩:=a v G' H' e' s r;exact i v H' G2 Z2 d2 e2 r2 a2
section
variable{X:Cx}{B G0:Hp}{e a b:Uj}{pos:Pos}
theorem Ki{t t':TE}(h:PE X e t)(i:∀σ H Q,t' σ H Q->t σ H Q):PE X e t':=λpins s σ H Q I q=>h pins s σ H Q I (i σ H Q q)
theorem YN{t t':TT}(h:PT X e t)(i:∀σ H Q,t' σ H Q->t σ H Q):PT X e t':=λpins s σ H Q I q=>h pins s σ H Q I (i σ H Q q)
theorem paof{es:yd}{t t':TA}(h:PA X es t)(i:∀σ H Q,t' σ H Q->t σ H Q):PA X es t':=λps pins s σ H Q I q=>h ps pins s σ H Q I (i σ H Q q)
theorem poof{eo:Option Uj}{t t':TO}(h:PO X eo t)(i:∀σ H Q,t' σ H Q->t σ H Q):PO X eo t':=λpins s σ H Q I q=>h pins s σ H Q I (i σ H Q q)
theorem KY{st:Stmt}{t t':TS}(h:PS X st t)(i:∀D σ H,t' D σ H->t D σ H):PS X st t':=λpins s σ H D I q=>h pins s σ H D I (i D σ H q)
theorem R5{st:List Stmt}{t t':TS}(h:PSs X st t)(i:∀D σ H,t' D σ H->t D σ H):PSs X st t':=λpins s σ H D I q=>h pins s σ H D I (i D σ H q)
noncomputable def UE(i:Nat):M D:=λZ=>match Z[i]? with
 |some (O (.pub d))=>.ok d Z
 |some (O (.own ds))=>.ok (.list ds) (Z.set i (O (.pub (.list ds))))
 |_=>.bad
theorem Md{i:Nat}(h:PE X e (Kw i)):PE X e (tD X.K B G0 (UE i)):=Ki h λσ H Q ⟨G,Z,k,a⟩=>by
 unfold UE at a;cases q:Z[i]? with
 |none=>rw[q]at a;exact a.elim
 |some o=>
  cases o with
  |none=>rw[q]at a;exact a.elim
  |some sl=>
   cases sl with
   |deep _ _=>rw[q]at a;exact a.elim
   |pub d=>rw[q]at a;obtain⟨v,h1,h2⟩:=k.pub i d q;exact⟨v,h1,a.now k h2⟩
   |own ds=>rw[q]at a;obtain⟨ad,G',h1,h2,h3,h4⟩:=k.publish q;exact⟨.ref ad,h1,a (.ref ad) G' H h4 h2 h3⟩
theorem Pc{v:V}{d:D}(h:PE X e (tC v))(r:∀G,Rep X.K G v d):PE X e (tD X.K B G0 (UJ d)):=Ki h λσ H Q ⟨G,Z,k,a⟩=>a.now k (r G)
theorem Dm{i:Int}{j}:PE X (.Constant (.int i) j pos) (tD X.K B G0 (UJ (.int i))):=Pc CC λ_=>.int i
theorem BW{i:Bool}{j}:PE X (.Constant (.bool i) j pos) (tD X.K B G0 (UJ (.bool i))):=Pc F8 λ_=>.bl i
theorem At{j}:PE X (.Constant .none j pos) (tD X.K B G0 (UJ .none)):=Pc CB λ_=>.non
theorem Dl{x:Str}{j}:PE X (.Constant (.str x) j pos) (tD X.K B G0 (UJ (.str x))):=Pc Pg λ_=>.str x
noncomputable def UN{β:Type}(op:D->D->Option β)(f g:M D):M β:=UW f λx=>UW g λy=>UX (op x y)
def OpD(X:Cx)(f:Ue->Ue->Sem Ue)(op:D->D->yb):Prop:=
 ∃r:R2,OpR X f r/\∀v u G H x y d Q,Same G H->Rep X.K G v x->Rep X.K G u y->op x y=O d->(∀w G' H',Ext G H G' H'->Rep X.K G' w d->Q w H')->r v u H Q
theorem Sg{op:Operator}{p:D->D->yb}{f g:M D}(o:OpD X (binaryOp op) p)(ha:PE X a (tD X.K B G0 f))(hb:PE X b (tD X.K B G0 g)):PE X (.BinOp a op b pos) (tD X.K B G0 (UN p f g)):=by
 obtain⟨r,h,i⟩:=o;refine Ki (NS h ha hb) λσ H Q q=>?_;refine tM.two q λv u H2 G Z x y k rx ry a=>?_
 obtain⟨d,e,a⟩:=a.opt;exact i v u G H2 x y d Q k.gh rx ry e λw G' H' ex rw=>a.done k ex rw
theorem OpD.or{f:Ue->Ue->Sem Ue}{p q:D->D->yb}(h:OpD X f p)(h':OpD X f q):OpD X f (λx y=>(p x y).orElse λ_=>q x y):=by
 obtain⟨r,h1,i1⟩:=h;obtain⟨r',h2,i2⟩:=h';refine⟨_,h1.or h2,λv u G H x y d Q s rx ry e k=>?_⟩;dsimp only at e;cases z:p x y with
 |some d'=>rw[z]at e;have e':d'=d:=Jf e;subst e';exact .inl (i1 v u G H x y d' Q s rx ry z k)
 |none=>rw[z]at e;exact .inr (i2 v u G H x y d Q s rx ry e k)
noncomputable def oII(g:Int->Int->yb):D->D->yb
 |.int i,.int j=>g i j
 |_,_=>w4
theorem Lf{g:Int->Int->yb}{x y d:D}(e:oII g x y=O d):∃i j,x=.int i/\y=.int j/\g i j=O d:=by
 unfold oII at e;split at e
 .exact⟨_,_,rfl,rfl,e⟩
 .cases e
theorem OpD.int{f:Ue->Ue->Sem Ue}{C:Int->Int->Prop}{g:Int->Int->V}{p:Int->Int->yb}(h:OpR X f (rI C g))(i:∀i j d,p i j=O d->C i j/\∀G,Rep X.K G (g i j) d):OpD X f (oII p):=by refine⟨_,h,λv u G H x y d Q s rx ry e k=>?_⟩;obtain⟨a,b,rfl,rfl,e⟩:=Lf e;obtain⟨c,r⟩:=i a b d e;exact⟨a,b,rx.int_inv,ry.int_inv,c,k _ G H (.refl s) (r G)⟩
theorem OpD.int0{f:Ue->Ue->Sem Ue}{g:Int->Int->V}{p:Int->Int->D}(h:OpR X f (rI0 g))(i:∀i j G,Rep X.K G (g i j) (p i j)):OpD X f (oII λi j=>O (p i j)):=by refine⟨_,h,λv u G H x y d Q s rx ry e k=>?_⟩;obtain⟨a,b,rfl,rfl,e⟩:=Lf e;cases e;exact⟨a,b,rx.int_inv,ry.int_inv,k _ G H (.refl s) (i a b G)⟩
end
section
variable{X:Cx}{B G0:Hp}{e a b c:Uj}{pos:Pos}
theorem Dk:OpD X (binaryOp .Add) (oII λi j=>O (.int (i+j))):=.int0 Co λ_ _ _=>.int _
theorem Dj:OpD X (binaryOp .Sub) (oII λi j=>O (.int (i-j))):=.int0 Cn λ_ _ _=>.int _
noncomputable def Ye(i j:Int):yb:=if(-(2 ^ 64)<i/\i<2 ^ 64)∨(-(2 ^ 64)<j/\j<2 ^ 64)then O (.int (i*j))else w4
theorem As:OpD X (binaryOp .Mult) (oII Ye):=.int Cm λi j d h=>by
 unfold Ye at h;split at h
 .rename_i c
  cases h;exact⟨c,λ_=>.int _⟩
 .cases h
noncomputable def Vi(i j:Int):yb:=if 0<j then O (.int (i % j))else w4
theorem Di:OpD X (binaryOp .Mod) (oII Vi):=.int Ck λi j d h=>by
 unfold Vi at h;split at h
 .rename_i c
  cases h;exact⟨c,λ_=>.int _⟩
 .cases h
theorem ja:OpR X (binaryOp .FloorDiv) (rI (λi j=>0<j/\j<2 ^ 64) λi j=>.int (i / j)):=opI λi j _ _ _ _ _ hc q=>by
 have h1:(0:Int)<j:=hc.1;have h2:j<2 ^ 64:=hc.2;refine floordiv_int (by omega) (by rw[Int.fdiv_eq_ediv_of_nonneg i (by omega)];exact q) (.inl (PyProof.noPylong_of_log2 ?_));have h0:j.natAbs≠0:=by omega
 have:j.natAbs.log2<64:=(Nat.log2_lt h0).mpr (by omega);omega
noncomputable def Vj(i j:Int):yb:=if 0<j/\j<2 ^ 64 then O (.int (i / j))else w4
theorem Dh:OpD X (binaryOp .FloorDiv) (oII Vj):=.int ja λi j d h=>by
 unfold Vj at h;split at h
 .rename_i c
  cases h;exact⟨c,λ_=>.int _⟩
 .cases h
noncomputable def Vh(i j:Int):yb:=if 0<=j/\j<=1000000/\i.natAbs<2 ^ 64 then O (.int (i ^ j.toNat))else w4
theorem Dg:OpD X (binaryOp .Pow) (oII Vh):=.int Cj λi j d h=>by
 unfold Vh at h;split at h
 .rename_i c
  cases h;exact⟨c,λ_=>.int _⟩
 .cases h
theorem lim:(1000000:Nat)<=Uk:=by decide
noncomputable def R4:D->D->yb
 |.str x,.str y=>if x.length+y.length<=1000000 then O (.str (x++y))else w4
 |_,_=>w4
theorem Ar:OpD X (binaryOp .Add) R4:=by
 refine⟨_,vi,λv u G H x y d Q s rx ry e k=>?_⟩;unfold R4 at e;split at e
 .split at e
  .rename_i c
   cases e;exact⟨_,_,rx.str_inv,ry.str_inv,QH c lim,k _ G H (.refl s) (.str _)⟩
  .cases e
 .cases e
noncomputable def EB(K:Frag):R2:=λx y H Q=>∃l b xs zs,x=.ref l/\y=.ref b/\SqL K H l xs/\SqL K H b zs/\xs.length+zs.length<=Uk/\∀p,H p=w4->Q (.ref p) (upd H p (.lst (xs++zs)))
theorem Aq:OpR X (binaryOp .Add) (EB X.K):=by
 intro pins s σ H x y v u Q I rx ry h;obtain⟨l,b,xs,zs,rfl,rfl,hH,hB,hz,q⟩:=h;cases rx;cases ry;obtain⟨its,r,⟨⟨c1,d1,t1,s1⟩,n1,e1,aI,aH,aF⟩,z1⟩:=I.list hH;obtain⟨its2,r2,⟨⟨c2,d2,t2,s2⟩,n2,e2,ec2,aG,et2⟩,z2⟩:=I.list hB;simp only at aI aH aF ec2 aG et2;subst aI aH aF ec2 aG et2;have hl:=r.length;have hl2:=r2.length;refine concat_meets ⟨_,e1,rfl⟩ ⟨_,e2,rfl⟩ noFill_list_add seq_list_add PySem.F.slot_list_add PySem.F.entry_list_add (PySem.F.args_list_add_2 _ _) (list_addW l b its.toArray its2.toArray n1 n2 w4 w4 s1 s2 (by rw[QJ,QJ];omega)) ⟨e1,e2,?_⟩;have ea:its.toArray++its2.toArray=(its++its2).toArray:=by simp
 rw[ea];exact⟨.ref _,_,I.lnew (t':=s.toks) (r.append r2) (by rw[Qi];omega),rfl,q _ I.fresh⟩
theorem EA(a:Int)(t:Tok)(l:Uh)(items:Array Ue)(n:Nat)(sl:Array yc) :
  Meets (Builtin.«int.__rmul__» ⟨[.int a t,.ref l],[]⟩) (λ_ R s=>s.heap.get? l=O {cls:=.type "list", dict:=w4,data:=.seq items n,slots:=sl}/\R (.ok (.ret Value.notImplemented)) s):=
 .of_wp λprog w A R s h=>by obtain⟨hp,g,d,tk,os⟩:=s;obtain⟨hl,h⟩:=h;wp_walk;exact⟨_,rfl,h⟩
theorem mulW(l:Uh)(items:Array Ue)(n:Nat)(x:Int)(u:Tok)(sl:Array yc)(hc0:¬(!Builtin.List.listFitsIndex x)=w5)(hc1:¬items.size*x.toNat > (2 ^ 63-1) / 8)(hc2:¬Builtin.List.listTooLong (items.size*x.toNat)=w5) :
  Meets (Builtin.«list.__mul__» ⟨[.ref l,.int x u],[]⟩) (λ_ R s=>s.heap.get? l=O {cls:=.type "list", dict:=w4,data:=.seq items n,slots:=sl}/\R (.ok (.ret (Value.ref s.heap.objs.size))) {s with heap:=s.heap.push {cls:=Value.type "list", data:=Data.seq (List.foldl (λx1 x2=>x1++x2) #[] (Uq (if items.isEmpty=w5 then 0 else x.toNat) items))},toks:=s.toks}):=
 .of_wp λprog w A R s h=>by
  obtain⟨hp,g,d,tk,os⟩:=s;obtain⟨hl,h⟩:=h;have hsz:=AutoListH.joined_fits hc2
  wp_walk;refine wpAny_ite_false (Qr (Nat.not_lt.mpr hsz)) ?_;wp_walk;exact⟨_,rfl,h⟩
noncomputable def Ez(K:Frag):R2:=λx y H Q=>∃l k xs,x=.ref l/\y=.int k/\SqL K H l xs /\ -(2 ^ 63)<=k/\k<2 ^ 63/\xs.length*k.toNat<=Uk /\
 ∀p,H p=w4->Q (.ref p) (upd H p (.lst (Uq k.toNat xs).flatten))
theorem Le:OpR X (binaryOp .Mult) (Ez X.K):=by
 intro pins s σ H x y v u Q I rx ry h;obtain⟨l,k,xs,rfl,rfl,hH,h1,h2,hz,q⟩:=h;cases rx;obtain⟨t,rfl⟩:=ry;obtain⟨its,r,⟨⟨c1,d1,t1,sl⟩,n,e,aI,aH,aF⟩,z⟩:=I.list hH;simp only at aI aH aF;subst aI aH aF;have hl:=r.length;have hlen:its.toArray.size*k.toNat<=Uk:=by rw[QJ,←hl];exact hz
 have hcap:¬its.toArray.size*k.toNat > (2 ^ 63-1) / 8:=by
  have:(Uk:Nat)<=(2 ^ 63-1) / 8:=by decide
  omega
 have hfit:¬(!Builtin.List.listFitsIndex k)=w5:=by rw[fitsIndex_both h1 h2];exact JI
 have zx:¬Builtin.List.listTooLong (its.toArray.size*k.toNat)=w5:=by rw[LF hlen];exact JI
 have hnew:List.foldl (λx1 x2=>x1++x2) #[] (Uq (if its.toArray.isEmpty=w5 then 0 else k.toNat) its.toArray)=(Uq k.toNat its).flatten.toArray:=by
  have f0:∀m:Nat,List.foldl (λx1 x2=>x1++x2) #[] (Uq m its.toArray)=(Uq m its).flatten.toArray:=λm=>by have:=Hr its m [];rw[QX]at this;exact this
  rw[f0];cases its with
  |nil=>simp
  |cons a r'=>rw[if_neg (by simp)]
 refine wpAny_binaryOp_repeat_ref (T:= "list") (U:= "int") (by decide) ⟨_,e,rfl⟩ (λs'=>typeIs_int s' k t) noFill_list_mul F.fills_int_mul F.slot_int_rmul repeat_list F.slot_int_index.lookup
  (call_meets F.slot_int_rmul (typeIs_int s k t) F.entry_int_rmul (F.args_int_rmul_2 _ _) (EA k t l its.toArray n sl)
   ⟨e,rfl,⟨_,e,rfl⟩,call_meets F.slot_list_mul ⟨_,e,rfl⟩ F.entry_list_mul (F.args_list_mul_2 _ _) (mulW l its.toArray n k t sl hfit hcap zx) ⟨e,?_⟩⟩)
 rw[hnew];exact⟨.ref _,_,I.lnew (t':=s.toks) (r.rep k.toNat) (by rw[B7,Nat.mul_comm];exact hz),rfl,q _ I.fresh⟩
noncomputable def R3:D->D->yb
 |.list x,.list y=>if x.length+y.length<=1000000 then O (.list (x++y))else w4
 |_,_=>w4
theorem Ap:OpD X (binaryOp .Add) R3:=by
 refine⟨_,Aq,λv u G H x y d Q s rx ry e k=>?_⟩;unfold R3 at e;split at e
 .split at e
  .rename_i c
   cases e;obtain⟨l,vs,rfl,h1,r1⟩:=rx.lst_inv;obtain⟨b,ws,rfl,h2,r2⟩:=ry.lst_inv;refine⟨l,b,vs,ws,rfl,rfl,s.seq h1,s.seq h2,by rw[r1.length,r2.length];exact QH c lim,λp hp=>k _ _ _ (Ext.new s hp) ?_⟩;exact .lst (SqL.of KG) ((r1.append r2).mono (Zl (s.free hp)))
  .cases e
 .cases e
theorem Reps.rep{K:Frag}{G:Hp}{vs:List V}{ds:w8}(r:Reps K G vs ds):∀n:Nat,Reps K G (Uq n vs).flatten (Uq n ds).flatten
 |0=>.nil
 |n+1=>by rw[QT,QT,QG,QG];exact r.append (r.rep n)
noncomputable def R1:D->D->yb
 |.list x,.int k=>if -1000000<=k/\k<=1000000/\x.length*k.toNat<=1000000 then O (.list (Uq k.toNat x).flatten)else w4
 |_,_=>w4
theorem Ao:OpD X (binaryOp .Mult) R1:=by
 refine⟨_,Le,λv u G H x y d Q s rx ry e k=>?_⟩;unfold R1 at e;split at e
 .split at e
  .rename_i c
   cases e;obtain⟨l,vs,rfl,h1,r1⟩:=rx.lst_inv;refine⟨l,_,vs,rfl,ry.int_inv,s.seq h1,by omega,by omega,by rw[r1.length];exact QH c.2.2 lim,λp hp=>k _ _ _ (Ext.new s hp) ?_⟩;exact .lst (SqL.of KG) ((r1.rep _).mono (Zl (s.free hp)))
  .cases e
 .cases e
noncomputable def U0:D->D->yb
 |.int i,.int j=>O (.int (i+j))
 |.str x,.str y=>if x.length+y.length<=1000000 then O (.str (x++y))else w4
 |.list x,.list y=>if x.length+y.length<=1000000 then O (.list (x++y))else w4
 |_,_=>w4
noncomputable def Zk:D->D->yb
 |.int i,.int j=>O (.int (i-j))
 |_,_=>w4
noncomputable def Kn:D->D->yb
 |.int i,.int j=>Ye i j
 |.list x,.int k=>if -1000000<=k/\k<=1000000/\x.length*k.toNat<=1000000 then O (.list (Uq k.toNat x).flatten)else w4
 |_,_=>w4
noncomputable def KZ:D->D->yb
 |.int i,.int j=>Vi i j
 |_,_=>w4
noncomputable def Y7:D->D->yb
 |.int i,.int j=>Vj i j
 |_,_=>w4
noncomputable def YO:D->D->yb
 |.int i,.int j=>Vh i j
 |_,_=>w4
theorem OpD.congr{f:Ue->Ue->Sem Ue}{p q:D->D->yb}(h:OpD X f p)(e:∀x y,q x y=p x y):OpD X f q:=by
 have:q=p:=by funext x y;exact e x y
 rw[this];exact h
theorem Ey:OpD X (binaryOp .Add) U0:=(Dk.or (Ar.or Ap)).congr λx y=>by cases x<;>cases y<;>first|rfl|(simp only[U0,oII,R4,R3,Option.orElse];done)|(simp only[U0,oII,R4,R3,Option.orElse];split<;>rfl)
theorem Ex:OpD X (binaryOp .Sub) Zk:=Dj.congr λx y=>by cases x<;>cases y<;>rfl
theorem Ew:OpD X (binaryOp .Mult) Kn:=(As.or Ao).congr λx y=>by cases x<;>cases y<;>first|rfl|(simp only[Kn,oII,R1,Option.orElse];done)|(simp only[Kn,oII,R1,Option.orElse];split<;>first|rfl|assumption)
theorem Ev:OpD X (binaryOp .Mod) KZ:=Di.congr λx y=>by cases x<;>cases y<;>rfl
theorem Eu:OpD X (binaryOp .FloorDiv) Y7:=Dh.congr λx y=>by cases x<;>cases y<;>rfl
theorem Et:OpD X (binaryOp .Pow) YO:=Dg.congr λx y=>by cases x<;>cases y<;>rfl
end
section
variable{X:Cx}{B G0:Hp}{e a b c:Uj}{pos:Pos}
def OpB(X:Cx)(f:Ue->Ue->Sem Ue)(op:D->D->yi):Prop:=
 ∃r:R2,OpR X f r/\∀v u G H x y d Q,Same G H->Rep X.K G v x->Rep X.K G u y->op x y=O d->Q (.bl d) H->r v u H Q
theorem OpB.or{f:Ue->Ue->Sem Ue}{p q:D->D->yi}(h:OpB X f p)(h':OpB X f q):OpB X f (λx y=>(p x y).orElse λ_=>q x y):=by
 obtain⟨r,h1,i1⟩:=h;obtain⟨r',h2,i2⟩:=h';refine⟨_,h1.or h2,λv u G H x y d Q s rx ry e k=>?_⟩;dsimp only at e;cases z:p x y with
 |some d'=>rw[z]at e;have e':d'=d:=Jf e;subst e';exact .inl (i1 v u G H x y d' Q s rx ry z k)
 |none=>rw[z]at e;exact .inr (i2 v u G H x y d Q s rx ry e k)
theorem OpB.congr{f:Ue->Ue->Sem Ue}{p q:D->D->yi}(h:OpB X f p)(e:∀x y,q x y=p x y):OpB X f q:=by
 have:q=p:=by funext x y;exact e x y
 rw[this];exact h
theorem An{op:CmpOp}{p:D->D->yi}{f g:M D}(o:OpB X (Uo op) p)(ha:PE X a (tD X.K B G0 f))(hb:PE X b (tD X.K B G0 g))(hm:behindInMarks op b=w6) :
  PT X (.Compare a [op] [b] pos) (tBo X.K B G0 (UN p f g)):=by
 obtain⟨r,h,i⟩:=o;refine YN (OO h ha hb hm) λσ H Q q=>?_;refine tM.two q λv u H2 G Z x y k rx ry a=>?_
 obtain⟨d,e,a⟩:=a.opt;exact i v u G H2 x y d _ k.gh rx ry e ⟨d,rfl,a.now k wZ⟩
noncomputable def US{α β:Type}(h:α->β)(f:M α):M β:=UW f λx=>UJ (h x)
theorem tM.map{K:Frag}{α β γ δ:Type}{R:Hp->γ->α->Prop}{S:Hp->δ->β->Prop}{σ:St}{H:Hp}{h:α->β}{f:M α}{Q:δ->Hp->Prop}(j:γ->δ)(q:tM K B G0 S (US h f) σ H Q)
  (i:∀G v x,R G v x->S G (j v) (h x)):tM K B G0 R f σ H (λv H'=>Q (j v) H'):=
 tM.one (R:=R) (f:=f) q λv H2 G Z x k r a=>aft.now (show aft K B G0 S (.ok (h x) Z) G σ Q from a) k (i G v x r)
theorem tBo.val{K:Frag}{σ:St}{H:Hp}{f:M Bool}{Q:VK}(q:tD K B G0 (US Us f) σ H Q):tBo K B G0 f σ H (λb H'=>Q (.bl b) H'):=
 tM.map (R:=λ_ b c=>b=c) V.bl q λG v x e=>by rw[e];exact .bl x
theorem Am{op:CmpOp}{p:D->D->yi}{f g:M D}(o:OpB X (Uo op) p)(ha:PE X a (tD X.K B G0 f))(hb:PE X b (tD X.K B G0 g))(hm:behindInMarks op b=w6) :
  PE X (.Compare a [op] [b] pos) (tD X.K B G0 (US Us (UN p f g))):=by
 obtain⟨r,h,i⟩:=o;refine Ki (Lc h ha hb hm) λσ H Q q=>?_;refine tM.two (tBo.val q) λv u H2 G Z x y k rx ry a=>?_
 obtain⟨d,e,a⟩:=a.opt;exact i v u G H2 x y d _ k.gh rx ry e (a.now k wZ)
noncomputable def XV(p q:D->D->yi)(f g h:M D):M Bool:=UW f λx=>UW g λy=>UW (UX (p x y)) λt=>if t=w5 then UW h λz=>UX (q y z)else UJ w6
theorem xJ{op op':CmpOp}{p q:D->D->yi}{f g h:M D}(o:OpB X (Uo op) p)(o':OpB X (Uo op') q)(ha:PE X a (tD X.K B G0 f))(hb:PE X b (tD X.K B G0 g))(hc:PE X c (tD X.K B G0 h))
  (hm:lastMarks [op,op'] [b,c]=w6:=by with_unfolding_all rfl):PT X (.Compare a [op,op'] [b,c] pos) (tBo X.K B G0 (XV p q f g h)):=by
 obtain⟨r,h1,i⟩:=o;obtain⟨r',h2,i'⟩:=o';refine YN (qB h1 h2 ha hb hc hm) λσ H Q w=>?_;refine tM.two w λv u H2 G Z x y k rx ry a=>?_
 cases z:p x y with
 |none=>rw[z]at a;exact a.elim
 |some t=>
  rw[z]at a;refine i v u G H2 x y t _ k.gh rx ry z ⟨t,rfl,?_⟩;cases t with
  |false=>rw[Qw JI];exact⟨w6,rfl,aft.now a k wZ⟩
  |true=>
   rw[Qm wZ];refine⟨G,Z,k,?_⟩;have a4:aft X.K B G0 (λ_ (b:Bool) c=>b=c) ((UW h λz=>UX (q y z)) Z) G σ Q:=a;unfold UW at a4;cases z2:h Z with
   |bad=>rw[z2]at a4;exact a4.elim
   |ok d Z1=>rw[z2]at a4;intro w G5 H5 k5 s5 r5;obtain⟨t2,e2,a6⟩:=a4.opt;exact i' u w G5 H5 y d t2 _ k5.gh (ry.mono s5) r5 e2 ⟨t2,rfl,a6 t2 G5 H5 k5 s5 wZ⟩
theorem xI{op op':CmpOp}{p q:D->D->yi}{f g h:M D}(o:OpB X (Uo op) p)(o':OpB X (Uo op') q)(ha:PE X a (tD X.K B G0 f))(hb:PE X b (tD X.K B G0 g))(hc:PE X c (tD X.K B G0 h))
  (hm:lastMarks [op,op'] [b,c]=w6:=by with_unfolding_all rfl):PE X (.Compare a [op,op'] [b,c] pos) (tD X.K B G0 (US Us (XV p q f g h))):=by
 obtain⟨r,h1,i⟩:=o;obtain⟨r',h2,i'⟩:=o';refine Ki (qC h1 h2 ha hb hc hm) λσ H Q w=>?_;refine tM.two (tBo.val w) λv u H2 G Z x y k rx ry a=>?_
 cases z:p x y with
 |none=>rw[z]at a;exact a.elim
 |some t=>
  rw[z]at a;refine i v u G H2 x y t _ k.gh rx ry z ⟨t,rfl,?_⟩;cases t with
  |false=>rw[Qw JI];exact aft.now (v:=w6) a k wZ
  |true=>
   rw[Qm wZ];refine⟨G,Z,k,?_⟩;have a4:aft X.K B G0 (λ_ (b:Bool) c=>b=c) ((UW h λz=>UX (q y z)) Z) G σ (λb H'=>Q (.bl b) H'):=a;unfold UW at a4;cases z2:h Z with
   |bad=>rw[z2]at a4;exact a4.elim
   |ok d Z1=>rw[z2]at a4;intro w G5 H5 k5 s5 r5;obtain⟨t2,e2,a6⟩:=a4.opt;exact i' u w G5 H5 y d t2 _ k5.gh (ry.mono s5) r5 e2 (a6 t2 G5 H5 k5 s5 wZ)
noncomputable def oIB(g:Int->Int->Bool):D->D->yi
 |.int i,.int j=>O (g i j)
 |_,_=>w4
theorem OpB.int{f:Ue->Ue->Sem Ue}{g:Int->Int->Bool}(h:OpR X f (rI0 λi j=>.bl (g i j))):OpB X f (oIB g):=by
 refine⟨_,h,λv u G H x y d Q s rx ry e k=>?_⟩;unfold oIB at e;split at e
 .cases e
  exact⟨_,_,rx.int_inv,ry.int_inv,k⟩
 .cases e
theorem B_lt:OpB X (Uo .Lt) (oIB λi j=>decide (i<j)):=.int EM
theorem B_le:OpB X (Uo .LtE) (oIB λi j=>decide (i<=j)):=.int EL
theorem B_gt:OpB X (Uo .Gt) (oIB λi j=>decide (j<i)):=.int EK
theorem B_ge:OpB X (Uo .GtE) (oIB λi j=>decide (j<=i)):=.int EJ
mutual
theorem Y5{pins:List (Uh×Obj)}{s:Uf}{σ:St}{G H:Hp}(I:Inv X pins σ H s)(sg:Same G H):∀{v:V}{d:D}{u:Ue},Rep X.K G v d->RelV v u->d.canLay0=w5->∃as,Reads s.heap u d as
 |_,_,_,.non,r,_=>by cases r;exact⟨_,.none⟩
 |_,_,_,.bl b,r,_=>by cases r;exact⟨_,.bool b⟩
 |_,_,_,.int i,r,_=>by obtain⟨t,rfl⟩:=r;exact⟨_,.int i t⟩
 |_,_,_,.str x,r,_=>by obtain⟨t,rfl⟩:=r;exact⟨_,.str x t⟩
 |_,_,_,.lst h q,r,c=>by cases r;obtain⟨its,rv,⟨o,n,e,hc,_,hd⟩,hz⟩:=I.list (sg.seq h);obtain⟨as,ra⟩:=readsAll_of I sg q rv (show Uv _=w5 by simpa[PyData.canLay0]using c);exact⟨_,.list e hc hd (by simpa using ra)⟩
 |_,_,_,.tup h q,r,c=>by cases r;obtain⟨its,rv,p,hz⟩:=I.tuple (YU sg h);obtain⟨o,e,hc,n,hd⟩:=p;obtain⟨as,ra⟩:=readsAll_of I sg q rv (show Uv _=w5 by simpa[PyData.canLay0]using c);exact⟨_,.tuple e hc hd (by simpa using ra)⟩
 |_,_,_,.dic h,r,c=>by simp[PyData.canLay0]at c
 |_,_,_,.exc _ _ _ _,r,c=>by simp[PyData.canLay0]at c
 |_,_,_,.dct _ _ _ _ _,r,c=>by simp[PyData.canLay0]at c
 |_,_,_,.dtt _ _ _ _,r,c=>by simp[PyData.canLay0]at c
theorem readsAll_of{pins:List (Uh×Obj)}{s:Uf}{σ:St}{G H:Hp}(I:Inv X pins σ H s)(sg:Same G H):∀{vs:List V}{ds:w8}{us:ya},Reps X.K G vs ds->Vals vs us->Uv ds=w5->∃as,ReadsAll s.heap us ds as
 |_,_,_,.nil,r,_=>by cases r;exact⟨_,.nil⟩
 |_,_,_,.cons h t,r,c=>by
  cases r with
  |cons r1 r2=>have c':=c;rw[Uv,QL]at c';obtain⟨as,ra⟩:=Y5 I sg h r1 c'.1;obtain⟨bs,rb⟩:=readsAll_of I sg t r2 c'.2;exact⟨_,.cons ra rb⟩
end
noncomputable def oEq(x y:D):yi:=if x.canLay0=w5/\y.canLay0=w5/\x.depth<=60 then O (Ux x y)else w4
noncomputable def oNe(x y:D):yi:=if x.canLay0=w5/\y.canLay0=w5/\x.depth<=60 then O (!Ux x y)else w4
theorem B_eq(hu:X.A.units+64<cLine):OpB X (Uo .Eq) oEq:=by
 refine⟨λv u H Q=>∃G x y d,Same G H/\Rep X.K G v x/\Rep X.K G u y/\oEq x y=O d/\Q (.bl d) H,?_,λv u G H x y d Q s rx ry e k=>⟨G,x,y,d,s,rx,ry,e,k⟩⟩;intro pins s σ H x y v u Q I rx ry ⟨G,dx,dy,d,sg,px,py,e,q⟩;unfold oEq at e;split at e
 .rename_i c
  cases e;obtain⟨as,ra⟩:=Y5 I sg px rx c.1;obtain⟨bs,rb⟩:=Y5 I sg py ry c.2.1;exact SeqAt.compareEq_reads ra rb c.1 c.2.1 (by have:=c.2.2;omega) ⟨.bl _,H,I,rfl,q⟩
 .cases e
theorem B_ne(hu:X.A.units+64<cLine):OpB X (Uo .NotEq) oNe:=by
 refine⟨λv u H Q=>∃G x y d,Same G H/\Rep X.K G v x/\Rep X.K G u y/\oNe x y=O d/\Q (.bl d) H,?_,λv u G H x y d Q s rx ry e k=>⟨G,x,y,d,s,rx,ry,e,k⟩⟩;intro pins s σ H x y v u Q I rx ry ⟨G,dx,dy,d,sg,px,py,e,q⟩;unfold oNe at e;split at e
 .rename_i c
  cases e;obtain⟨as,ra⟩:=Y5 I sg px rx c.1;obtain⟨bs,rb⟩:=Y5 I sg py ry c.2.1;exact SeqAt.compareNe_reads ra rb c.1 c.2.1 (by have:=c.2.2;omega) ⟨.bl _,H,I,rfl,q⟩
 .cases e
def isNon:D->Bool
 |.none=>w5
 |_=>w6
theorem Rep.isNon{K:Frag}{G:Hp}{v:V}{d:D}(r:Rep K G v d):DL.isNon d=decide (v=.non):=by cases r<;>simp[DL.isNon]
end
section
variable{X:Cx}{B G0:Hp}{e a b c:Uj}{pos:Pos}{es rest:yd}
theorem tM.nx{K:Frag}{α β γ δ:Type}{R:Hp->γ->α->Prop}{S:Hp->δ->β->Prop}{σ:St}{G H:Hp}{Z:UI}{f:M α}{g:α->M β}{Q:δ->Hp->Prop}{P:γ->Hp->Prop}
  (k:EOk K B G0 G H σ Z) (a:aft K B G0 S (UW f g Z) G σ Q) (i:∀v H' G' Z' x,EOk K B G0 G' H' σ Z'->Same G G'->R G' v x->aft K B G0 S (g x Z') G' σ Q->P v H'):tM K B G0 R f σ H P:=by
 refine⟨G,Z,k,?_⟩;unfold UW at a;cases q:f Z with
 |bad=>rw[q]at a;exact a.elim
 |ok d Z1=>rw[q]at a;exact λv G' H' e s r=>i v H' G' Z1 d e s r (aft.mono s a)
noncomputable def Za(f g:M Bool):M Bool:=UW f λt=>if t=w5 then g else UJ w6
noncomputable def mOr(f g:M Bool):M Bool:=UW f λt=>if t=w5 then UJ w5 else g
noncomputable def U5(f:M Bool):M Bool:=US (λt=>!t) f
theorem Al{K:Frag}{f g:M Bool}{σ:St}{H:Hp}{Q:Bool->Hp->Prop}(q:tBo K B G0 (Za f g) σ H Q):tAnd (tBo K B G0 f) (tBo K B G0 g) σ H Q:=
 tM.one (R:=λ_ b c=>b=c) q λv H2 G Z x k r a=>by
  have r:v=x:=r;subst r;cases v with
  |true=>exact⟨G,Z,k,a⟩
  |false=>exact aft.now (v:=w6) a k wZ
theorem Df{K:Frag}{f g:M Bool}{σ:St}{H:Hp}{Q:Bool->Hp->Prop}(q:tBo K B G0 (mOr f g) σ H Q):tOr (tBo K B G0 f) (tBo K B G0 g) σ H Q:=
 tM.one (R:=λ_ b c=>b=c) q λv H2 G Z x k r a=>by
  have r:v=x:=r;subst r;cases v with
  |false=>exact⟨G,Z,k,a⟩
  |true=>exact aft.now (v:=w5) a k wZ
theorem pwof{t t':TT}(h:PW X e t)(i:∀σ H Q,t' σ H Q->t σ H Q):PW X e t':=λwh pins s σ H Q I q=>h wh pins s σ H Q I (i σ H Q q)
theorem q9{f:M Bool}(ha:PT X a (tBo X.K B G0 f)):PW X (.BoolOp .And [a] pos) (tBo X.K B G0 f):=Aj ha
theorem Ak{f:M Bool}(ha:PT X a (tBo X.K B G0 f)):PW X (.BoolOp .Or [a] pos) (tBo X.K B G0 f):=Cy ha
theorem Bh{f g:M Bool}(ha:PT X a (tBo X.K B G0 f))(hb:PW X (.BoolOp .And (b::rest) pos) (tBo X.K B G0 g)):PW X (.BoolOp .And (a::b::rest) pos) (tBo X.K B G0 (Za f g)):=pwof (Cw ha hb) λ_ _ _ q=>Al q
theorem De{f g:M Bool}(ha:PT X a (tBo X.K B G0 f))(hb:PW X (.BoolOp .Or (b::rest) pos) (tBo X.K B G0 g)):PW X (.BoolOp .Or (a::b::rest) pos) (tBo X.K B G0 (mOr f g)):=pwof (F6 ha hb) λ_ _ _ q=>Df q
theorem Bg{f:M Bool}(ha:PT X a (tBo X.K B G0 f)):PT X (.UnaryOp .Not a pos) (tBo X.K B G0 (U5 f)):=YN (Cv ha) λσ H Q q=>tM.map (R:=λ_ b c=>b=c) (λt=>!t) q λ_ v x e=>by rw[e]
noncomputable def KO(f:M D):M Bool:=UW f λx=>match x with | .bool t=>UJ t|_=>λ_=>.bad
theorem Bf{f:M D}(h:PE X e (tD X.K B G0 f))(he:∀whole,isTrue e X.env whole=(do let v ←whole;standAt e.pos;holding [v] (truthy v)):=by intro _;rfl):PT X e (tBo X.K B G0 (KO f)):=
 YN (Cz h he) λσ H Q q=>tM.one (R:=Rep X.K) q λv H2 G Z x k r a=>by
  cases x with
  |bool t=>exact⟨t,r.bl_inv,aft.now (v:=t) a k wZ⟩
  |_=>exact a.elim
noncomputable def WH(f g:M D):M D:=UW f λx=>match x with | .bool w5=>g | .bool w6=>UJ (.bool w6)|_=>λ_=>.bad
noncomputable def Y8(f g:M D):M D:=UW f λx=>match x with | .bool w5=>UJ (.bool w5) | .bool w6=>g|_=>λ_=>.bad
noncomputable def Rm(f:M D):M D:=UW f λx=>match x with | .bool t=>UJ (.bool (!t))|_=>λ_=>.bad
theorem Be{f g:M D}(ha:PE X a (tD X.K B G0 f))(hb:PE X (.BoolOp .And (b::rest) pos) (tD X.K B G0 g)):PE X (.BoolOp .And (a::b::rest) pos) (tD X.K B G0 (WH f g)):=
 Ki (Ct ha hb) λσ H Q q=>tM.one (R:=Rep X.K) q λv H2 G Z x k r a=>by
  cases x with
  |bool t=>
   refine⟨t,r.bl_inv,?_⟩;cases t with
   |true=>exact⟨G,Z,k,a⟩
   |false=>exact aft.now a k (.bl w6)
  |_=>exact a.elim
theorem Dd{f g:M D}(ha:PE X a (tD X.K B G0 f))(hb:PE X (.BoolOp .Or (b::rest) pos) (tD X.K B G0 g)):PE X (.BoolOp .Or (a::b::rest) pos) (tD X.K B G0 (Y8 f g)):=
 Ki (F3 ha hb) λσ H Q q=>tM.one (R:=Rep X.K) q λv H2 G Z x k r a=>by
  cases x with
  |bool t=>
   refine⟨t,r.bl_inv,?_⟩;cases t with
   |false=>exact⟨G,Z,k,a⟩
   |true=>exact aft.now a k (.bl w5)
  |_=>exact a.elim
theorem Bd{op}{f:M D}(h:PE X a (tD X.K B G0 f)):PE X (.BoolOp op [a] pos) (tD X.K B G0 f):=Cu h
theorem Bc{f:M D}(ha:PE X a (tD X.K B G0 f)):PE X (.UnaryOp .Not a pos) (tD X.K B G0 (Rm f)):=
 Ki (Cs ha) λσ H Q q=>tM.one (R:=Rep X.K) q λv H2 G Z x k r a=>by
  cases x with
  |bool t=>exact⟨t,r.bl_inv,aft.now a k (.bl _)⟩
  |_=>exact a.elim
noncomputable def mIf{α:Type}(f:M Bool)(g h:M α):M α:=UW f λt=>if t=w5 then g else h
theorem xH{f:M Bool}{g h:M D}(hc:PT X c (tBo X.K B G0 f))(ha:PE X a (tD X.K B G0 g))(hb:PE X b (tD X.K B G0 h)):PE X (.IfExp c a b pos) (tD X.K B G0 (mIf f g h)):=
 Ki (qE hc ha hb) λσ H Q q=>tM.one (R:=λ_ b c=>b=c) q λv H2 G Z x k r a=>by
  have r:v=x:=r;subst r;cases v with
  |true=>exact⟨G,Z,k,a⟩
  |false=>exact⟨G,Z,k,a⟩
theorem Bb{f:M D}{j p2}(ha:PE X a (tD X.K B G0 f)):PT X (.Compare a [.Is] [.Constant .none j p2] pos) (tBo X.K B G0 (US isNon f)):=
 YN (Mo (Mp ha)) λσ H Q q=>tM.one (R:=Rep X.K) q λv H2 G Z x k r a=>⟨_,rfl,aft.now a k (by rw[r.isNon])⟩
theorem q8{f:M D}{j p2}(ha:PE X a (tD X.K B G0 f)):PT X (.Compare a [.IsNot] [.Constant .none j p2] pos) (tBo X.K B G0 (US (λd=>!isNon d) f)):=
 YN (Mo (BS ha)) λσ H Q q=>tM.one (R:=Rep X.K) q λv H2 G Z x k r a=>⟨_,rfl,aft.now a k (by dsimp only;rw[r.isNon])⟩
theorem Ba{f:M D}{j p2}(ha:PE X a (tD X.K B G0 f)):PE X (.Compare a [.Is] [.Constant .none j p2] pos) (tD X.K B G0 (US (λd=>.bool (isNon d)) f)):=
 Ki (CA (Mp ha)) λσ H Q q=>tM.one (R:=Rep X.K) q λv H2 G Z x k r a=>aft.now a k (by dsimp only;rw[r.isNon];exact .bl _)
def UG:M w8:=UJ []
noncomputable def UF(f:M D)(g:M w8):M w8:=UW f λx=>UW g λxs=>UJ (x::xs)
theorem C9:PA X [] (tDs X.K B G0 UG):=paof XX λσ H Q ⟨G,Z,k,a⟩=>aft.now a k .nil
theorem tM.twoA{K:Frag}{σ:St}{H:Hp}{f:M D}{g:M w8}{β δ:Type}{S:Hp->δ->β->Prop}{k:D->w8->M β}{Q:δ->Hp->Prop}{P:V->List V->Hp->Prop}
  (h:tM K B G0 S (UW f λx=>UW g λy=>k x y) σ H Q)
  (i:∀v u H2 G Z x y,EOk K B G0 G H2 σ Z->Rep K G v x->Reps K G u y->aft K B G0 S (k x y Z) G σ Q->P v u H2) :
  tD K B G0 f σ H (λv H1=>tDs K B G0 g σ H1 λu H2=>P v u H2):=by
 obtain⟨G,Z,e,a⟩:=tM.bind2 (R:=Rep K) (R':=Reps K) Lg h;refine⟨G,Z,e,?_⟩;cases q:f Z with
 |bad=>rw[q]at a;exact a.elim
 |ok d Z1=>
  rw[q]at a;intro v G' H' e' s r;obtain⟨x,G2,Z2,e2,a2⟩:=a v G' H' e' s r;refine⟨G2,Z2,e2,?_⟩;cases q2:g Z2 with
  |bad=>rw[q2]at a2;exact a2.elim
  |ok d3 Z3=>rw[q2]at a2;intro u G3 H3 e3 s3 r3;obtain⟨G4,Z4,y,e4,r4,r5,a5⟩:=a2 u G3 H3 e3 s3 r3;exact i v u H3 G4 Z4 x y e4 r4 r5 a5
theorem qZ{f:M D}{g:M w8}(ha:PE X e (tD X.K B G0 f))(hr:PA X es (tDs X.K B G0 g))(hs:Um (e::es) X.env=(w6,eval e X.env)::Um es X.env:=by rfl) :
  PA X (e::es) (tDs X.K B G0 (UF f g)):=paof (YL ha hr hs) λσ H Q q=>tM.twoA q λv u H2 G Z x y k r1 r2 a=>aft.now a k (.cons r1 r2)
noncomputable def Kx(f:M w8):M D:=UW f λxs=>if xs.length<=1000000 then UJ (.tuple xs)else λ_=>.bad
noncomputable def UV(f:M w8):M D:=UW f λxs=>if xs.length<=1000000 then UJ (.list xs)else λ_=>.bad
theorem C8{x1}{f:M w8}(h:PA X es (tDs X.K B G0 f)):PE X (.Tuple es x1 pos) (tD X.K B G0 (Kx f)):=
 Ki (Mk h) λσ H Q q=>tM.one (R:=Reps X.K) q λv H2 G Z x k r a=>by
  split at a
  .rename_i c
   refine⟨by rw[r.length];exact QH c lim,λp hp=>?_⟩;exact aft.done a k (Ext.new k.gh hp) (.tup (SqT.of KG) (r.mono (Zl (k.gh.free hp))))
  .exact a.elim
theorem C7{f:M w8}(h:PA X es (tDs X.K B G0 f)):PE X (.List es pos) (tD X.K B G0 (UV f)):=
 Ki (Mj h) λσ H Q q=>tM.one (R:=Reps X.K) q λv H2 G Z x k r a=>by
  split at a
  .rename_i c
   refine⟨by rw[r.length];exact QH c lim,λp hp=>?_⟩;exact aft.done a k (Ext.new k.gh hp) (.lst (SqL.of KG) (r.mono (Zl (k.gh.free hp))))
  .exact a.elim
noncomputable def oIx:D->D->yb
 |.list xs,.int i=>atI xs i
 |.tuple xs,.int i=>atI xs i
 |.str z,.int i=>if z.length<=1000000 then(atI z.cps.toList i).map λc=>.str ⟨#[c]⟩else w4
 |_,_=>w4
theorem Reps.atI{K:Frag}{G:Hp}{vs:List V}{ds:w8}{i:Int}{d:D}(r:Reps K G vs ds)(h:L2.atI ds i=O d):∃v,L2.atI vs i=O v/\Rep K G v d:=by
 unfold L2.atI at h⊢;rw[r.length];cases z:ixN ds.length i with
 |none=>rw[z]at h;cases h
 |some j=>rw[z]at h;exact r.get (i:=j) h
theorem Mc{K:Frag}{v u:V}{G H:Hp}{x y d:D}{Q:VK}(s:Same G H)(rx:Rep K G v x)(ry:Rep K G u y)(e:oIx x y=O d)(k:∀w,Rep K G w d->Q w H):rIx K v u H Q:=by
 unfold oIx at e;split at e
 .obtain⟨l,vs,rfl,h1,r1⟩:=rx.lst_inv
  obtain⟨w,e1,r2⟩:=r1.atI e;exact .inl ⟨l,vs,_,w,rfl,ry.int_inv,s.seq h1,e1,k w r2⟩
 .obtain⟨l,vs,rfl,h1,r1⟩:=rx.tup_inv
  obtain⟨w,e1,r2⟩:=r1.atI e;exact .inr (.inl ⟨l,vs,_,w,rfl,ry.int_inv,YU s h1,e1,k w r2⟩)
 .split at e
  .rename_i z i hz
   cases q:L2.atI z.cps.toList i with
   |none=>rw[q]at e;cases e
   |some ch=>rw[q]at e;cases e;exact .inr (.inr ⟨z,i,ch,rx.str_inv,ry.int_inv,QH hz lim,q,k _ (.str _)⟩)
  .cases e
 .cases e
theorem Dc{f g:M D}(ha:PE X a (tD X.K B G0 f))(hb:PE X b (tD X.K B G0 g))(hs:OM b):PE X (.Subscript a b pos) (tD X.K B G0 (UN oIx f g)):=
 Ki (NU Mh ha hb hs) λσ H Q q=>tM.two q λv u H2 G Z x y k rx ry a=>by obtain⟨d,e,a⟩:=a.opt;exact Mc k.gh rx ry e λw r=>a.now k r
noncomputable def UQ(i:Nat)(g:M D):M D:=λZ=>match Z[i]? with
 |some (O (.pub d))=>(UW g λy=>UX (oIx d y)) Z
 |some (O (.own _))=>(UW g λy=>λZ'=>match Z'[i]? with|some (O (.own ds))=>UX (oIx (.list ds) y) Z'|_=>.bad) Z
 |_=>.bad
theorem C6{i:Nat}{g:M D}(ha:PE X a (Kw i))(hb:PE X b (tD X.K B G0 g))(hs:OM b):PE X (.Subscript a b pos) (tD X.K B G0 (UQ i g)):=
 Ki (NU Mh ha hb hs) λσ H Q ⟨G,Z,k,a⟩=>by
  unfold UQ at a;cases q:Z[i]? with
  |none=>rw[q]at a;exact a.elim
  |some o=>
   cases o with
   |none=>rw[q]at a;exact a.elim
   |some sl=>
    cases sl with
    |deep _ _=>rw[q]at a;exact a.elim
    |pub d=>
     rw[q]at a;obtain⟨v,h1,h2⟩:=k.pub i d q;refine⟨v,h1,G,Z,k,?_⟩;dsimp only[UW]at a;cases z:g Z with
     |bad=>rw[z]at a;exact a.elim
     |ok y Z1=>rw[z]at a;intro u G' H' k' s' r';obtain⟨d',e',a'⟩:=aft.opt a;exact Mc k'.gh (h2.mono s') r' e' λw r=>a' w G' H' k' s' r
    |own ds=>
     rw[q]at a;obtain⟨ad,vs,h1,h2,h3,h4,h5⟩:=k.own i ds q;refine⟨.ref ad,h1,G,Z,k,?_⟩;dsimp only[UW]at a;cases z:g Z with
     |bad=>rw[z]at a;exact a.elim
     |ok y Z1=>
      rw[z]at a;dsimp only at a;intro u G' H' k' s' r';cases z2:Z1[i]? with
      |none=>rw[z2]at a;exact a.elim
      |some o2=>
       cases o2 with
       |none=>rw[z2]at a;exact a.elim
       |some sl2=>
        cases sl2 with
        |deep _ _=>rw[z2]at a;exact a.elim
        |pub d2=>rw[z2]at a;exact a.elim
        |own es2=>
         rw[z2]at a;obtain⟨d',e',a'⟩:=aft.opt a;obtain⟨bq,vs',g1,g2,g3,g4,g5⟩:=k'.own i es2 z2;rw[h1]at g1;cases g1;unfold oIx at e';cases y with
         |int j=>obtain⟨w,e1,r2⟩:=g5.atI e';exact .inl ⟨ad,vs',j,w,rfl,r'.int_inv,SqL.of g4,e1,a' w G' H' k' s' r2⟩
         |_=>cases e'
noncomputable def cutD(xs:w8)(lo hi:yg):w8:=(xs.drop (HT.sIx xs.length 0 lo)).take (HT.sIx xs.length xs.length hi-HT.sIx xs.length 0 lo)
theorem Reps.cut{K:Frag}{G:Hp}{vs:List V}{ds:w8}(r:Reps K G vs ds)(lo hi:yg):Reps K G (Xy vs lo hi) (cutD ds lo hi):=by unfold Xy cutD;rw[r.length];exact(r.drop _).take _
def ZU:D->Option yg
 |.int i=>O (O i)
 |_=>w4
theorem qY:PO X w4 (tOi X.K B G0 (UJ w4)):=poof Ae λσ H Q ⟨G,Z,k,a⟩=>aft.now a k wZ
theorem qX{f:M D}(h:PE X e (tD X.K B G0 f)):PO X (O e) (tOi X.K B G0 (UW f λx=>UX (ZU x))):=poof (Ad h) λσ H Q q=>tM.one (R:=Rep X.K) q λv H2 G Z x k r a=>by
 cases x with
 |int i=>exact⟨i,r.int_inv,aft.now (v:=O i) a k wZ⟩
 |_=>exact a.elim
end
def Y9:List (D×D)->Bool
 |(.none,_)::_=>w5
 |_=>w6
noncomputable def Xs:D->String
 |.none=> "NoneType"
 |.bool _=> "bool"
 |.int _=> "int"
 |.str _=> "str"
 |.list _=> "list"
 |.tuple _=> "tuple"
 |.dict kvs=>if Y9 kvs=w5 then "" else "dict"
noncomputable def Kd(d:D)(c:String):Bool:=Xs d==c || (Xs d == "bool" && c == "int")
def Y0:D->Bool
 |.dict kvs=>Y9 kvs
 |_=>w6
theorem nty{kvs:List (D×D)}{c:String}(h:(("dict" == c) || ("" == c))=w6):Kd (.dict kvs) c=w6:=by
 obtain⟨h1,h2⟩:=Bool.or_eq_false_iff.mp h
 show((if Y9 kvs=w5 then "" else "dict")==c || ((if Y9 kvs=w5 then "" else "dict") == "bool" && c == "int"))=w6
 cases Y9 kvs with
 |true=>rw[Qm wZ,h2];rfl
 |false=>rw[Qw (by decide),h1];rfl
theorem Mb{ks:yk}{ds:w8}:Xs (.dict ((ks.map kD).zip ds)) = "dict" /\ Y0 (.dict ((ks.map kD).zip ds))=w6:=by
 cases ks with
 |nil=>exact⟨rfl,rfl⟩
 |cons k ks=>
  cases ds with
  |nil=>exact⟨rfl,rfl⟩
  |cons d ds=>cases k<;>exact⟨rfl,rfl⟩
theorem C5(K:Frag)(d:D)(c:String)(nx:Y0 d=w6)(hc:c = "int" ∨ c = "bool" ∨ c = "str" ∨ c = "list" ∨ c = "tuple" ∨ c = "dict"):PySem.W.kitOne K (.type (Xs d)) (.type c)=O (Kd d c):=by
 cases d with
 |dict kvs=>
  have e:Xs (.dict kvs) = "dict" :=by
   have nx:Y9 kvs=w6:=nx
   show(if Y9 kvs=w5 then "" else "dict")=_
   rw[nx];rfl
  unfold Kd;rw[e];rcases hc with rfl|rfl|rfl|rfl|rfl|rfl<;>rfl
 |_=>rcases hc with rfl|rfl|rfl|rfl|rfl|rfl<;>rfl
section
variable{X:Cx}{B G0:Hp}{e a b c:Uj}{pos:Pos}{es rest:yd}
def Yz(X:Cx)(f:Ue)(p:w8->yb):Prop:=
 ∃r,Yt X f r/\∀vs G H ds d Q,Same G H->Reps X.K G vs ds->p ds=O d->(∀w G' H',Ext G H G' H'->Rep X.K G' w d->Q w H')->r vs H Q
noncomputable def K5(p:w8->yb)(f:M w8):M D:=UW f λxs=>UX (p xs)
theorem Th{x:Str}{p2:Pos}{id:String}{p:w8->yb}{f:M w8}(hc:Yz X (.builtin id) p)(hg:Gl X x)(hm:X.mg x=w4)(hv:bootBuiltins x=O (.builtin id))(ha:PA X (e::es) (tDs X.K B G0 f))(hn:x ≠ "__name__" :=by decide)(hdb:(x==("__debug__" : Str))=w6:=by decide)
  (he:Um (e::es) X.env=(w6,eval e X.env)::Um es X.env:=by rfl) (hpl:(backTo pos (Um es X.env)).any (·.1)=w6:=by rfl):PE X (.Call (.Name x p2) (e::es) [] pos) (tD X.K B G0 (K5 p f)):=by
 obtain⟨r,h,i⟩:=hc;refine Ki (PD h hg hm hv ha hn hdb he hpl) λσ H Q q=>tM.one (R:=Reps X.K) q λv H2 G Z x k rr a=>?_
 obtain⟨d,e,a⟩:=a.opt;exact i v G H2 x d Q k.gh rr e λw G' H' ex rw=>a.done k ex rw
theorem HK{x:Str}{p2:Pos}{T:String}{p:w8->yb}{f:M w8}(hc:Yz X (.type T) p)(hg:Gl X x)(hm:X.mg x=w4)(hv:bootBuiltins x=O (.type T))(ha:PA X (e::es) (tDs X.K B G0 f))(hn:x ≠ "__name__" :=by decide)(hdb:(x==("__debug__" : Str))=w6:=by decide)
  (he:Um (e::es) X.env=(w6,eval e X.env)::Um es X.env:=by rfl) (hpl:(backTo pos (Um es X.env)).any (·.1)=w6:=by rfl):PE X (.Call (.Name x p2) (e::es) [] pos) (tD X.K B G0 (K5 p f)):=by
 obtain⟨r,h,i⟩:=hc;refine Ki (PZ h hg hm hv ha hn hdb he hpl) λσ H Q q=>tM.one (R:=Reps X.K) q λv H2 G Z x k rr a=>?_
 obtain⟨d,e,a⟩:=a.opt;exact i v G H2 x d Q k.gh rr e λw G' H' ex rw=>a.done k ex rw
theorem Reps.nil_inv{K:Frag}{G:Hp}{vs:List V}(r:Reps K G vs []):vs=[]:=by cases r;rfl
theorem Reps.one_inv{K:Frag}{G:Hp}{vs:List V}{d:D}(r:Reps K G vs [d]):∃v,vs=[v]/\Rep K G v d:=by
 cases r with
 |cons h t=>cases t;exact⟨_,rfl,h⟩
theorem Reps.two_inv{K:Frag}{G:Hp}{vs:List V}{d d':D}(r:Reps K G vs [d,d']):∃v v',vs=[v,v']/\Rep K G v d/\Rep K G v' d':=by
 cases r with
 |cons h t=>obtain⟨v',rfl,r'⟩:=t.one_inv;exact⟨_,v',rfl,h,r'⟩
noncomputable def U7:w8->yb
 |[.list xs]=>O (.int xs.length)
 |[.tuple xs]=>O (.int xs.length)
 |[.str z]=>if z.length<=1000000 then O (.int z.length)else w4
 |_=>w4
theorem NG:Yz X (.builtin "len") U7:=by
 refine⟨_,LI,λvs G H ds d Q s r e k=>?_⟩;unfold U7 at e;split at e
 .cases e
  obtain⟨v,rfl,q⟩:=r.one_inv;obtain⟨l,ws,rfl,h1,r1⟩:=q.lst_inv;exact⟨.ref l,ws.length,rfl,.inl ⟨ws,s.seq h1,rfl⟩,by rw[r1.length];exact k _ G H (.refl s) (.int _)⟩
 .cases e
  obtain⟨v,rfl,q⟩:=r.one_inv;obtain⟨l,ws,rfl,h1,r1⟩:=q.tup_inv;exact⟨.ref l,ws.length,rfl,.inr ⟨ws,YU s h1,rfl⟩,by rw[r1.length];exact k _ G H (.refl s) (.int _)⟩
 .split at e
  .rename_i z hz
   cases e;obtain⟨v,rfl,q⟩:=r.one_inv;exact⟨.str z,z.length,by rw[q.str_inv],⟨QH hz lim,rfl⟩,k _ G H (.refl s) (.int _)⟩
  .cases e
 .cases e
noncomputable def RZ:w8->yb
 |[.int i,.int j]=>O (.int (if j > i then j else i))
 |_=>w4
theorem Db(hc:X.calm=w5):Yz X (.builtin "max") RZ:=by
 refine⟨_,xz hc,λvs G H ds d Q s r e k=>?_⟩;unfold RZ at e;split at e
 .cases e
  obtain⟨v,v',rfl,r1,r2⟩:=r.two_inv;exact⟨_,_,by rw[r1.int_inv,r2.int_inv],k _ G H (.refl s) (.int _)⟩
 .cases e
noncomputable def KH(i:Nat):M D:=λZ=>match Z[i]? with
 |some (O (.pub d))=>UX (U7 [d]) Z
 |some (O (.own ds))=>.ok (.int ds.length) Z
 |_=>.bad
theorem qW{i:Nat}{p2:Pos}(hg:Gl X "len")(hm:X.mg "len" = w4)(ha:PE X e (Kw i))(he:Um [e] X.env=[(w6,eval e X.env)]:=by rfl):PE X (.Call (.Name "len" p2) [e] [] pos) (tD X.K B G0 (KH i)):=by
 refine Ki (PD LI hg hm PySem.boot_len (YL ha XX (by rw[he];rfl)) (by decide) (by decide) (by rw[he];rfl) wZ) λσ H Q ⟨G,Z,k,a⟩=>?_
 unfold KH at a;cases q:Z[i]? with
 |none=>rw[q]at a;exact a.elim
 |some o=>
  cases o with
  |none=>rw[q]at a;exact a.elim
  |some sl=>
   cases sl with
   |deep _ _=>rw[q]at a;exact a.elim
   |pub d=>
    rw[q]at a;obtain⟨v,h1,h2⟩:=k.pub i d q;refine⟨v,h1,?_⟩;obtain⟨d',e',a'⟩:=aft.opt a;obtain⟨r,hr,ir⟩:=@NG X;show ∃x n,[v]=[x]/\LenV X.K x H n/\Q (.int n) H;unfold U7 at e';split at e'
    .rename_i xs he'
     injection he' with az zK;subst az;cases e'
     obtain⟨l,ws,rfl,g1,r1⟩:=h2.lst_inv;exact⟨.ref l,ws.length,rfl,.inl ⟨ws,k.gh.seq g1,rfl⟩,by rw[r1.length];exact a'.now k (.int _)⟩
    .rename_i xs he'
     injection he' with az zK;subst az;cases e'
     obtain⟨l,ws,rfl,g1,r1⟩:=h2.tup_inv;exact⟨.ref l,ws.length,rfl,.inr ⟨ws,YU k.gh g1,rfl⟩,by rw[r1.length];exact a'.now k (.int _)⟩
    .rename_i z he'
     injection he' with az zK;subst az
     split at e'
     .rename_i hz
      cases e';exact⟨.str z,z.length,by rw[h2.str_inv],⟨QH hz lim,rfl⟩,a'.now k (.int _)⟩
     .cases e'
    .cases e'
   |own ds=>rw[q]at a;obtain⟨ad,vs,h1,g2,g3,h4,h5⟩:=k.own i ds q;exact⟨.ref ad,h1,.ref ad,vs.length,rfl,.inl ⟨vs,SqL.of h4,rfl⟩,by rw[h5.length];exact aft.now a k (.int _)⟩
theorem C4{pins:List (Uh×Obj)}{s:Uf}{σ:St}{G H:Hp}{v:V}{u:Ue}{d:D}{cv:Ue}{t:Bool}{A:Around}{E:Ue->Uf->Prop}{Q:Ue->Uf->Prop}(I:Inv X pins σ H s)(sg:Same G H)(r:Rep X.K G v d)(rv:RelV v u)(nx:Y0 d=w6)
  (ek:PySem.W.kitOne X.K (.type (Xs d)) cv=O t) (h:∀tk,Q (.bool t) {s with toks:=tk}):Ul (model X.prog X.w) A (call (.builtin "isinstance") [u,cv]) Q E s:=by
 cases r with
 |non=>cases rv;exact JF PySem.W.kitx_none I.kIn True.intro ek (λz=>nomatch z) h
 |bl y=>cases rv;exact JF PySem.W.kitx_bool I.kIn True.intro ek (λz=>nomatch z) h
 |int i=>obtain⟨t',rfl⟩:=rv;exact JF PySem.W.kitx_int I.kIn True.intro ek (λz=>nomatch z) h
 |str y=>obtain⟨t',rfl⟩:=rv;exact JF PySem.W.kitx_str I.kIn True.intro ek (λz=>nomatch z) h
 |lst hl _=>cases rv;obtain⟨its,r,⟨o,n,e,hc,_,hd⟩,hz⟩:=I.list (sg.seq hl);exact JF PySem.W.kitx_list I.kIn ⟨o,e,hc⟩ ek (λz=>nomatch z) h
 |tup hl _=>cases rv;obtain⟨its,r,p,hz⟩:=I.tuple (YU sg hl);obtain⟨o,e,hc,_⟩:=p;exact JF PySem.W.kitx_tuple I.kIn ⟨o,e,hc⟩ ek (λz=>nomatch z) h
 |@dic ad hd=>
  cases rv;obtain⟨_,_,vs,_,p⟩:=(show Zu X.prog X.w H s.heap ad (.dK [])from I.hok ad _ (sg _ _ hd))
  obtain⟨o,es,ep,h1,h2,_⟩:=p;exact JF PySem.W.kitx_dict I.kIn ⟨o,h1,h2.1⟩ ek (λz=>nomatch z) h
 |exc _ _ _ _=>cases nx
 |@dct ad ks vs ds kvs e0 _ _ hd _=>
  cases rv;subst e0;rw[Mb.1]at ek;obtain⟨_,_,vs,_,p⟩:=(show Zu X.prog X.w H s.heap ad (.dK (ks.zip _))from I.hok ad _ (sg _ _ hd))
  obtain⟨o,es,ep,h1,h2,_⟩:=p;exact JF PySem.W.kitx_dict I.kIn ⟨o,h1,h2.1⟩ ek (λz=>nomatch z) h
 |@dtt ad ob ks vs ds kvs e0 _ hd _=>
  cases rv;subst e0;obtain⟨_,_,_,xs,_,o,es,ep,h1,h2,_⟩:=(show Zu X.prog X.w H s.heap ad (.frz ob (.dT (ks.zip _)))from I.hok ad _ (sg _ _ hd))
  exact JF PySem.W.kitx_dict I.kIn ⟨o,h1,h2.1⟩ ek (λz=>nomatch z) h
theorem C3(c:String)(hc:c = "int" ∨ c = "bool" ∨ c = "str" ∨ c = "list" ∨ c = "tuple" ∨ c = "dict"):typeOf (.type c)=pure (.type "type"):=by rcases hc with rfl|rfl|rfl|rfl|rfl|rfl<;>kernel_rfl
theorem qV:Yt X (.builtin "isinstance") (λxs H Q=>∃v c G d,xs=[v,.ty c]/\Same G H/\Rep X.K G v d/\(c = "int" ∨ c = "bool" ∨ c = "str" ∨ c = "list" ∨ c = "tuple" ∨ c = "dict")/\Q (.bl (Kd d c)) H):=by
 intro pins s σ H xs us Q I r h;obtain⟨v,c,G,d,rfl,sg,rp,hc,q⟩:=h;obtain⟨u,w',rfl,r1,r2⟩:=Og r;cases (show w'=Value.type c from r2);by_cases nx:Y0 d=w5
 .cases rp with
  |@exc a C dd bm nm vs ds ck hx hd rr=>
   refine qm (V0 I.ok.mod.kin) pins s σ H [.ref a,.ty c] [u,.type c] Q I r ⟨a,C,dd,bm,w6,.ty c,w6,rfl,⟨nm,ck⟩,sg _ _ hx,.inr ⟨c,rfl,C3 c hc,?_⟩,?_⟩
   .rw[ck.ty];rcases hc with rfl|rfl|rfl|rfl|rfl|rfl<;>rfl
   .have e:Kd (.dict [(.none,.tuple [.str nm,.list ds])]) c=w6:=by rcases hc with rfl|rfl|rfl|rfl|rfl|rfl<;>rfl
    rw[e]at q;exact q
  |dct e _ _ _ _=>subst e;rw[Mb.2]at nx;cases nx
  |dtt e _ _ _=>subst e;cases nx
  |_=>cases nx
 .have nx:Y0 d=w6:=by simpa using nx
  exact C4 I sg rp r1 nx (C5 X.K d c nx hc) λtk=>⟨.bl _,H,I.tok tk,rfl,q⟩
theorem wP:bootBuiltins "isinstance" = O (.builtin "isinstance"):=by decide +kernel
theorem RM{f:M D}{p2 p3:Pos}{c:String}(hc:c = "int" ∨ c = "bool" ∨ c = "str" ∨ c = "list" ∨ c = "tuple" ∨ c = "dict")(hg:Gl X "isinstance")(hm:X.mg "isinstance" = w4)(z6:Gl X (Uz c))(hm2:X.mg (Uz c)=w4)
  (hv2:bootBuiltins (Uz c)=O (.type c)) (ha:PE X e (tD X.K B G0 f)) (hn2:(Uz c) ≠ "__name__") (hd2:((Uz c)==("__debug__" : Str))=w6)
  (hs:Um [e,.Name (Uz c) p3] X.env=(w6,eval e X.env)::Um [.Name (Uz c) p3] X.env:=by rfl)
  (hs2:Um [.Name (Uz c) p3] X.env=[(w6,eval (.Name (Uz c) p3) X.env)]:=by rfl) :
  PE X (.Call (.Name "isinstance" p2) [e,.Name (Uz c) p3] [] pos) (tD X.K B G0 (US (λd=>.bool (Kd d c)) f)):=by
 refine Ki (PD qV hg hm wP (YL ha (YL (BU (v:=.ty c) z6 hm2 hv2 wZ hn2 hd2) XX (by rw[hs2];rfl)) hs) (by decide) (by decide) hs (by rw[hs2];rfl)) λσ H Q q=>?_
 refine tM.one (R:=Rep X.K) q λv H2 G Z x k r a=>?_
 exact⟨v,c,G,x,rfl,k.gh,r,hc,aft.now a k (.bl _)⟩
end
noncomputable def spD(K:Frag)(n:Nat)(F:w8->yb):Sp:=λvs H Q _=>∃G ds d,vs.length=n/\Same G H/\Reps K G vs ds/\F ds=O d/\∀v G' H',Ext G H G' H'->Rep K G' v d->Q v H'
section
variable{K:Frag}{B G0 G H:Hp}{σ:St}{Z:UI}
theorem EOk.exit(k:EOk K B G0 G H σ Z):Ext G0 B G H:=⟨k.bh,k.g0,k.gh,k.np⟩
theorem Yv{α:Type}{l:List α}{i:Nat}{x y:α}(h:(l.set i x)[i]?=O y):y=x:=by
 by_cases hl:i<l.length
 .rw[QK hl]at h;cases h;rfl
 .rw[JH (by rw[Q5];omega)]at h;cases h
theorem DpOk.setOther{i:Nat}{x:Option V}{y:Option Sl}(k:DpOk K B G H σ Z)(hy:∀s,y=O s->∃d,s=.pub d):DpOk K B G H (σ.set i x) (Z.set i y):=by
 have nz:∀{m:Nat}{s:Sl},(Z.set i y)[m]?=O (O s)->(∃d,s=.pub d)∨(Z[m]?=O (O s)/\(σ.set i x)[m]?=σ[m]?):=λ{m s} q=>by
  by_cases z:i=m
  .subst z
   exact .inl (hy s (Yv q).symm)
  .rw[Qn z]at q⊢;exact .inr ⟨q,rfl⟩
 refine k.map (λm p d q=>?_) (λm es q=>?_) λm p d v fp q s r w n=>⟨r,w⟩
 .rcases nz q with ⟨_,e⟩|q
  .cases e
  .exact q
 .rcases nz q with ⟨_,e⟩|q
  .cases e
  .exact⟨es,q⟩
theorem EOk.setPub{i:Nat}{v:V}{d:D}(k:EOk K B G0 G H σ Z)(r:Rep K G v d)(hi:i<Z.length):EOk K B G0 G H (σ.set i (O v)) (Z.set i (O (.pub d))) where
 bh:=k.bh
 gh:=k.gh
 g0:=k.g0
 np:=k.np
 len:=by rw[Q5,Q5];exact k.len
 pub:=λj d' q=>by
  by_cases z:i=j
  .subst z
   have:=Yv q;cases this;exact⟨v,QK (by rw[←k.len];exact hi),r⟩
  .rw[Qn z]at q⊢
   exact k.pub j d' q
 own:=λj ds q=>by
  by_cases z:i=j
  .subst z
   have:=Yv q;cases this
  .rw[Qn z]at q⊢
   exact k.own j ds q
 sep:=λj l c es fs q1 q2 s1 s2=>by
  have z1:i≠j:=λz=>by subst z;have:=Yv q1;cases this
  have z2:i≠l:=λz=>by subst z;have:=Yv q2;cases this
  rw[Qn z1]at q1 s1;rw[Qn z2]at q2 s2;exact k.sep j l c es fs q1 q2 s1 s2
 dp:=k.dp.setOther (λs e=>by cases e;exact⟨_,rfl⟩)
structure NewL(K:Frag)(B G H:Hp)(σ:St)(Z:UI)(a:Uh)(vs:List V)(ds:w8):Prop where
 b:B a=w4
 g:G a=w4
 h:H a=O (.lst vs)
 r:Reps K G vs ds
 f:∀(j:Nat) es,Z[j]?=O (O (.own es))->σ[j]?≠O (O (.ref a))
 dp:∀(j:Nat) p d v fp,Z[j]?=O (O (.deep p d))->σ[j]?=O (O v)->RepO K G H p v d fp->a∉fp
theorem EOk.freshD{H':Hp}{a:Uh}(k:EOk K B G0 G H σ Z)(e:Same H H')(ha:H a=w4){G':Hp}{j:Nat}{p:Pat}{d:D}{v:V}{fp:yf}(q:Z[j]?=O (O (.deep p d)))(s:σ[j]?=O (O v))(r:RepO K G' H' p v d fp):a∉fp:=λm=>by obtain⟨ω,k1,k2⟩:=k.dp;obtain⟨v',fp',s',r',n,w⟩:=k1 j p d q;rw[s]at s';cases s';have u:=r'.uniq e r;subst u;obtain⟨ws,hl⟩:=r'.isl a m;rw[ha]at hl;cases hl
theorem EOk.setOwn{i:Nat}{a:Uh}{vs:List V}{ds:w8}(k:EOk K B G0 G H σ Z)(n:NewL K B G H σ Z a vs ds)(hi:i<Z.length):EOk K B G0 G H (σ.set i (O (.ref a))) (Z.set i (O (.own ds))) where
 bh:=k.bh
 gh:=k.gh
 g0:=k.g0
 np:=k.np
 len:=by rw[Q5,Q5];exact k.len
 pub:=λj d' q=>by
  by_cases z:i=j
  .subst z
   have:=Yv q;cases this
  .rw[Qn z]at q⊢
   exact k.pub j d' q
 own:=λj es q=>by
  by_cases z:i=j
  .subst z
   have:=Yv q;cases this;exact⟨a,vs,QK (by rw[←k.len];exact hi),n.b,n.g,n.h,n.r⟩
  .rw[Qn z]at q⊢
   exact k.own j es q
 sep:=λj l c es fs q1 q2 s1 s2=>by
  have hs:i<σ.length:=by rw[←k.len];exact hi
  by_cases z1:i=j
  .subst z1
   rw[QK hs]at s1;cases s1;by_cases z2:i=l
   .exact z2
   .rw[Qn z2]at q2 s2
    exact absurd s2 (n.f l fs q2)
  .by_cases z2:i=l
   .subst z2
    rw[QK hs]at s2;cases s2;rw[Qn z1]at q1 s1;exact absurd s1 (n.f j es q1)
   .rw[Qn z1]at q1 s1
    rw[Qn z2]at q2 s2;exact k.sep j l c es fs q1 q2 s1 s2
 dp:=by
  obtain⟨ω,k1,k2⟩:=k.dp;have hs:i<σ.length:=by rw[←k.len];exact hi
  refine⟨λb=>if b=a then i else ω b,λj p d q=>?_,λj es b q s=>?_⟩
  .by_cases z:i=j
   .subst z;have:=Yv q;cases this
   .rw[Qn z]at q⊢
    obtain⟨v,fp,s,r,nn,w⟩:=k1 j p d q;refine⟨v,fp,s,r,nn,λb m=>⟨(w b m).1,(w b m).2.1,?_⟩⟩;dsimp only;rw[Qw (λz=>n.dp j p d v fp q s r (by rw[←z];exact m))];exact(w b m).2.2
  .by_cases z:i=j
   .subst z
    rw[QK hs]at s;cases s;dsimp only;rw[Qm wZ]
   .rw[Qn z]at q s
    dsimp only;rw[Qw (λe=>n.f j es q (by rw[←e];exact s))];exact k2 j es b q s
theorem EOk.change{i:Nat}{a:Uh}{vs:List V}{ds es:w8}(k:EOk K B G0 G H σ Z)(q:Z[i]?=O (O (.own ds)))(ha:σ[i]?=O (O (.ref a)))(r:Reps K G vs es) :
  EOk K B G0 G (upd H a (.lst vs)) σ (Z.set i (O (.own es))):=by
 obtain⟨a',ws,h1,h2,h3,h4,h5⟩:=k.own i ds q;rw[ha]at h1;cases h1;have hi:i<Z.length:=(Ql.mp q).1;refine⟨λb o e=>?_,λb o e=>?_,k.g0,k.np,by rw[Q5];exact k.len,λj d' e=>?_,λj fs e=>?_,λj l c fs gs q1 q2 s1 s2=>?_,?_⟩
 .rw[Kk (Yw e h2)];exact k.bh b o e
 .rw[Kk (Yw e h3)];exact k.gh b o e
 .by_cases z:i=j
  .subst z
   have:=Yv e;cases this
  .rw[Qn z]at e
   exact k.pub j d' e
 .by_cases z:i=j
  .subst z
   have:=Yv e;cases this;exact⟨a,vs,ha,h2,h3,KG,r⟩
  .rw[Qn z]at e
   obtain⟨c,us,g1,g2,g3,g4,g5⟩:=k.own j fs e;have zc:c≠a:=λw=>z (k.sep i j a ds fs q e ha (by rw[←w];exact g1))
   exact⟨c,us,g1,g2,g3,by rw[Kk zc];exact g4,g5⟩
 .have f:∀{m:Nat}{ts:w8},(Z.set i (O (Sl.own es)))[m]?=O (O (.own ts))->∃ts',Z[m]?=O (O (.own ts')):=λ{m ts} e=>by
   by_cases z:i=m
   .subst z;exact⟨ds,q⟩
   .rw[Qn z]at e;exact⟨ts,e⟩
  obtain⟨f1,w1⟩:=f q1;obtain⟨f2,w2⟩:=f q2;exact k.sep j l c f1 f2 w1 w2 s1 s2
 .refine k.dp.map (λj p d e=>?_) (λj fs e=>?_) λj p d v fp qj s rj w n=>⟨rj.upd (λ_ z=>by rw[h4]at z;cases z) (n i ds a q ha),w⟩
  .by_cases z:i=j
   .subst z;have:=Yv e;cases this
   .rw[Qn z]at e;exact⟨e,rfl⟩
  .by_cases z:i=j
   .subst z;exact⟨ds,q,rfl⟩
   .rw[Qn z]at e;exact⟨fs,e,rfl⟩
end
inductive Out where
 |nx (Z:UI)|rt (d:D)|bk (Z:UI)|ct (Z:UI)|ex (Z:UI) (d:D)|bad
abbrev SM:=UI->Out
section
variable(K:Frag)(B G0:Hp)(KX:XW)
def aftS(o:Out)(G1:Hp)(Dn:Ends):Prop:=
 match o with
 |.nx Z=>∀σ G H,EOk K B G0 G H σ Z->Same G1 G->Dn.nx σ H
 |.bk Z=>∀σ G H,EOk K B G0 G H σ Z->Same G1 G->Dn.bk σ H
 |.ct Z=>∀σ G H,EOk K B G0 G H σ Z->Same G1 G->Dn.ct σ H
 |.rt d=>∀v G H,Ext G0 B G H->Rep K G v d->Dn.rt v H
 |.ex Z d=>∀v σ G H,EOk K B G0 G H σ Z->Same G1 G->Rep K G v d->KX v σ H
 |.bad=>False
noncomputable def tS(g:SM):TS:=λDn σ H=>∃G Z,EOk K B G0 G H σ Z/\aftS K B G0 KX (g Z) G Dn
noncomputable def sB{α:Type}(f:M α)(g:α->SM):SM:=λZ=>match f Z with | .ok a Z'=>g a Z' | .bad=>.bad
end
section
variable{X:Cx}{B G0:Hp}{KX:XW}{e a b c:Uj}{pos:Pos}{es rest:yd}{st:Stmt}{sts sts2:List Stmt}
theorem aftS.mono{K:Frag}{o:Out}{G G':Hp}{Dn:Ends}(e:Same G G')(h:aftS K B G0 KX o G Dn):aftS K B G0 KX o G' Dn:=by
 cases o with
 |nx Z=>exact λσ G2 H2 k s=>h σ G2 H2 k (e.trans s)
 |bk Z=>exact λσ G2 H2 k s=>h σ G2 H2 k (e.trans s)
 |ct Z=>exact λσ G2 H2 k s=>h σ G2 H2 k (e.trans s)
 |rt d=>exact h
 |ex Z d=>exact λv σ G2 H2 k s r=>h v σ G2 H2 k (e.trans s) r
 |bad=>exact h
theorem tS.bnd{K:Frag}{α γ:Type}{R:Hp->γ->α->Prop}{f:M α}{g:α->SM}{Dn:Ends}{σ:St}{H:Hp}{P:γ->Hp->Prop}(q:tS K B G0 KX (sB f g) Dn σ H)
  (i:∀v H' G' Z' x,EOk K B G0 G' H' σ Z'->R G' v x->aftS K B G0 KX (g x Z') G' Dn->P v H'):tM K B G0 R f σ H P:=by
 obtain⟨G,Z,k,a⟩:=q;refine⟨G,Z,k,?_⟩;unfold sB at a;cases z:f Z with
 |bad=>rw[z]at a;exact a.elim
 |ok d Z1=>rw[z]at a;exact λv G' H' e s r=>i v H' G' Z1 d e r (aftS.mono s a)
def sNx:SM:=λZ=>.nx Z
noncomputable def UL(g h:SM):SM:=λZ=>match g Z with | .nx Z'=>h Z'|o=>o
theorem Da:PSs X [] (tS X.K B G0 KX sNx):=R5 Ai λD σ H ⟨G,Z,k,a⟩=>a σ G H k (.refl _)
theorem C2{g h:SM}(h1:PS X st (tS X.K B G0 KX g))(h2:PSs X sts (tS X.K B G0 KX h)):PSs X (st::sts) (tS X.K B G0 KX (UL g h)):=R5 (RI h1 h2) λD σ H ⟨G,Z,k,a⟩=>by
 refine⟨G,Z,k,?_⟩;unfold UL at a;cases z:g Z with
 |nx Z1=>rw[z]at a;exact λσ' G' H' k' s'=>⟨G',Z1,k',aftS.mono s' a⟩
 |rt d=>rw[z]at a;exact a
 |bk Z1=>rw[z]at a;exact a
 |ct Z1=>rw[z]at a;exact a
 |ex Z1 d=>rw[z]at a;exact a
 |bad=>rw[z]at a;exact a.elim
theorem E9{g:SM}(h1:PS X st (tS X.K B G0 KX g)):PSs X [st] (tS X.K B G0 KX g):=RC h1
def X7:SM:=λ_=>.bad
theorem qU:PS X st (tS X.K B G0 KX X7):=λ_ _ _ _ _ _ ⟨_,_,_,a⟩=>a.elim
noncomputable def UR(f:M D):SM:=sB f λd _=>.rt d
theorem E8{f:M D}(h:PE X e (tD X.K B G0 f)):PS X (.Return (O e) pos) (tS X.K B G0 KX (UR f)):=KY (Oq h) λD σ H q=>tS.bnd (R:=Rep X.K) q λv H' G' Z' x k r a=>a v G' H' k.exit r
noncomputable def YZ(f:M D):SM:=sB f λ_ Z=>.nx Z
theorem C1{f:M D}(h:PE X e (tD X.K B G0 f))(hs:swapsWith e w4 pos.line X.env=pure w6:=by rfl):PS X (.Expr e pos) (tS X.K B G0 KX (YZ f)):=KY (VM h hs) λD σ H q=>tS.bnd (R:=Rep X.K) q λv H' G' Z' x k r a=>a σ G' H' k (.refl _)
noncomputable def sIf(f:M Bool)(g h:SM):SM:=sB f λt=>if t=w5 then g else h
theorem Es{f:M Bool}{g h:SM}(hc:PT X c (tBo X.K B G0 f))(ha:PSs X sts (tS X.K B G0 KX g))(hb:PSs X sts2 (tS X.K B G0 KX h)):PS X (.If c sts sts2 pos) (tS X.K B G0 KX (sIf f g h)):=
 KY (ER hc ha hb) λD σ H q=>tS.bnd (R:=λ_ b c=>b=c) q λv H' G' Z' x k r a=>by
  have r:v=x:=r;subst r;cases v with
  |true=>exact⟨G',Z',k,a⟩
  |false=>exact⟨G',Z',k,a⟩
noncomputable def tG(K:Frag)(B G0:Hp)(s:D->UI->ye):TG:=λv σ H Q=>∃G Z d Z',EOk K B G0 G H σ Z/\Rep K G v d/\s d Z=O Z'/\∀σ' G' H',EOk K B G0 G' H' σ' Z'->Same G G'->Q σ' H'
noncomputable def tGs(K:Frag)(B G0:Hp)(s:w8->UI->ye):TGs:=λv σ H Q=>∃G Z d Z',EOk K B G0 G H σ Z/\Reps K G v d/\s d Z=O Z'/\∀σ' G' H',EOk K B G0 G' H' σ' Z'->Same G G'->Q σ' H'
theorem pgof{t t':TG}(h:PG X e t)(i:∀v σ H Q,t' v σ H Q->t v σ H Q):PG X e t':=λpins s σ H v u Q I r q=>h pins s σ H v u Q I r (i v σ H Q q)
theorem NF{t t':TGs}(h:PGs X es t)(i:∀v σ H Q,t' v σ H Q->t v σ H Q):PGs X es t':=λpins s σ H v u Q I r q=>h pins s σ H v u Q I r (i v σ H Q q)
noncomputable def gN(i:Nat):D->UI->ye:=λd Z=>if i<Z.length then O (Z.set i (O (.pub d)))else w4
theorem Ld{i:Nat}(h:PG X e (Rg i)):PG X e (tG X.K B G0 (gN i)):=pgof h λv σ H Q ⟨G,Z,d,Z',k,r,e,q⟩=>by
 unfold gN at e;split at e
 .rename_i hi
  cases e;exact q _ G H (k.setPub r hi) (.refl _)
 .cases e
noncomputable def gN0:w8->UI->ye:=λd Z=>match d with | []=>O Z|_=>w4
noncomputable def gNC(s:D->UI->ye)(t:w8->UI->ye):w8->UI->ye:=λds Z=>match ds with|d::r=>(s d Z).bind (t r) | []=>w4
theorem E7:PGs X [] (tGs X.K B G0 gN0):=NF M7 λv σ H Q ⟨G,Z,d,Z',k,r,e,q⟩=>by
 cases r with
 |nil=>cases e;exact⟨rfl,q σ G H k (.refl _)⟩
 |cons _ _=>cases e
theorem C0{s:D->UI->ye}{t:w8->UI->ye}(h1:PG X e (tG X.K B G0 s))(h2:PGs X es (tGs X.K B G0 t))
  (hs:(UC (e::es) X.env).map (·.2)=assign e X.env::(UC es X.env).map (·.2):=by rfl):PGs X (e::es) (tGs X.K B G0 (gNC s t)):=NF (O3 h1 h2 hs) λv σ H Q ⟨G,Z,d,Z',k,r,e,q⟩=>by
 cases r with
 |nil=>cases e
 |@cons w dw ws dws rw rt=>
  unfold gNC at e;dsimp only at e;cases z:s dw Z with
  |none=>rw[z]at e;cases e
  |some Z1=>rw[z]at e;refine⟨w,ws,rfl,G,Z,dw,Z1,k,rw,z,λσ' G' H' k' s'=>?_⟩;exact⟨G',Z1,dws,Z',k',rt.mono s',e,λσ2 G2 H2 k2 s2=>q σ2 G2 H2 k2 (s'.trans s2)⟩
noncomputable def gT(n:Nat)(t:w8->UI->ye):D->UI->ye:=λd Z=>match d with | .tuple ds=>if ds.length=n then t ds Z else w4|_=>w4
theorem E6{k1:Nat}{t:w8->UI->ye}{n:Nat}(hc:X.calm=w5)(h:PGs X es (tGs X.K B G0 t))
  (hn:(UC es X.env).length=n:=by rfl) (hst:(UC es X.env).findIdx? (·.1)=w4:=by rfl):PG X (.Tuple es k1 pos) (tG X.K B G0 (gT n t)):=pgof (Mn hc h hn hst) λv σ H Q ⟨G,Z,d,Z',k,r,e,q⟩=>by
 unfold gT at e;split at e
 .split at e
  .rename_i hl
   obtain⟨ad,vs,rfl,h1,r1⟩:=r.tup_inv;exact⟨ad,vs,rfl,YU k.gh h1,by rw[r1.length];exact hl,G,Z,_,Z',k,r1,e,q⟩
  .cases e
 .cases e
noncomputable def K3(f:M D)(s:D->UI->ye):SM:=sB f λd Z=>match s d Z with|some Z'=>.nx Z'|none=>.bad
theorem E5{tg:Uj}{f:M D}{s:D->UI->ye}(he:PE X e (tD X.K B G0 f))(hg:PG X tg (tG X.K B G0 s))(hs:swapsWithSole [tg] e pos.line X.env=pure w6:=by rfl)(hw:swappedStores [tg] e X.env=pure w4:=by rfl)
  (h1:(UC [tg] X.env).map (·.2)=[assign tg X.env]:=by rfl):PS X (.Assign [tg] e pos) (tS X.K B G0 KX (K3 f s)):=
 KY (Op he hg hs hw h1) λD σ H q=>tS.bnd (R:=Rep X.K) q λv H' G' Z' x k r a=>by
  cases z:s x Z' with
  |none=>rw[z]at a;exact a.elim
  |some Z2=>rw[z]at a;exact⟨G',Z',x,Z2,k,r,z,λσ2 G2 H2 k2 s2=>a σ2 G2 H2 k2 s2⟩
noncomputable def U3(i:Nat)(f:M D):SM:=K3 f (gN i)
theorem E4{i:Nat}{x:Str}{f:M D}{p2:Pos}(hN:X.N.Nodup)(hi:X.N[i]?=O x)(hx:Loc X.env.scope x)(he:PE X e (tD X.K B G0 f))(hs:swapsWith e (O (.Name x p2)) pos.line X.env=pure w6:=by rfl)
  (hf:X.fn x=w5∨X.env.scope.names.lookup x=O .local:=by first|exact .inl rfl|exact .inr rfl|assumption):PS X (.Assign [.Name x p2] e pos) (tS X.K B G0 KX (U3 i f)):=
 KY (Oo hN hi hx he hs hf) λD σ H q=>tS.bnd (R:=Rep X.K) q λv H' G' Z' x k r a=>by
  unfold gN at a;split at a
  .rename_i Z2 hz
   split at hz
   .rename_i hi2
    cases hz;exact a _ G' H' (k.setPub r hi2) (.refl _)
   .cases hz
  .exact a.elim
noncomputable def tL(K:Frag)(B G0:Hp)(f:M w8):TE:=λσ H Q=>∃G Z,EOk K B G0 G H σ Z/\match f Z with
 |.ok ds Z'=>∀a vs G' H',EOk K B G0 G' H' σ Z'->Same G G'->NewL K B G' H' σ Z' a vs ds->Q (.ref a) H'
 |.bad=>False
noncomputable def K2(i:Nat)(f:M w8):SM:=sB f λds Z=>if i<Z.length then .nx (Z.set i (O (.own ds)))else .bad
theorem CZ{i:Nat}{x:Str}{f:M w8}{p2:Pos}(hN:X.N.Nodup)(hi:X.N[i]?=O x)(hx:Loc X.env.scope x)(he:PE X e (tL X.K B G0 f))(hs:swapsWith e (O (.Name x p2)) pos.line X.env=pure w6:=by rfl)
  (hf:X.fn x=w5∨X.env.scope.names.lookup x=O .local:=by first|exact .inl rfl|exact .inr rfl|assumption):PS X (.Assign [.Name x p2] e pos) (tS X.K B G0 KX (K2 i f)):=
 KY (Oo hN hi hx he hs hf) λD σ H ⟨G,Z,k,a⟩=>by
  refine⟨G,Z,k,?_⟩;unfold K2 sB at a;cases z:f Z with
  |bad=>rw[z]at a;exact a.elim
  |ok ds Z1=>
   rw[z]at a;intro ad vs G' H' k' s' n;dsimp only at a;split at a
   .rename_i hl
    exact a _ G' H' (k'.setOwn n hl) s'
   .exact a.elim
theorem NewL.of{K:Frag}{G H:Hp}{σ:St}{Z:UI}{p:Uh}{vs:List V}{ds:w8}(k:EOk K B G0 G H σ Z)(hp:H p=w4)(r:Reps K G vs ds):NewL K B G (upd H p (.lst vs)) σ Z p vs ds where
 b:=k.bh.free hp
 g:=k.gh.free hp
 h:=KG
 r:=r
 f:=λj es q z=>by obtain⟨a,ws,h1,h2,h3,h4,h5⟩:=k.own j es q;rw[z]at h1;cases h1;rw[hp]at h4;cases h4
 dp:=λj pt d v fp q s rr=>k.freshD (Zl hp) hp q s rr
theorem CY{f:M w8}(h:PA X es (tDs X.K B G0 f)):PE X (.List es pos) (tL X.K B G0 (UW f λxs=>if xs.length<=1000000 then UJ xs else λ_=>.bad)):=
 Ki (Mj h) λσ H Q ⟨G,Z,k,a⟩=>by
  refine⟨G,Z,k,?_⟩;unfold UW at a;cases z:f Z with
  |bad=>rw[z]at a;exact a.elim
  |ok ds Z1=>
   rw[z]at a;dsimp only at a;intro v G' H' k' s' r;by_cases c:ds.length<=1000000
   .rw[Qm c]at a
    refine⟨by rw[r.length];exact QH c lim,λp hp=>?_⟩;exact a p v G' _ (k'.ext (Ext.hid k'.gh hp)) s' (NewL.of k' hp r)
   .rw[Qw c]at a;exact a.elim
noncomputable def ZP(i:Nat)(f:M D):SM:=λZ0=>match Z0[i]? with
 |some (O (.own _))=>sB f (λd Z=>match Z[i]? with
  |some (O (.own ds))=>if ds.length<1000000 then .nx (Z.set i (O (.own (ds++[d]))))else .bad
  |_=>.bad) Z0
 |_=>.bad
theorem E3{i:Nat}{f:M D}{o:Uj}{apos cpos:Pos}(ho:PE X o (Kw i))(he:PE X e (tD X.K B G0 f))
  (hbase:attributeBase o "append" X.env (eval o X.env)=eval o X.env:=by rfl)
  (hfew:((backTo cpos (Um [e] X.env)).all (λx=>!x.1)&&(backToKw cpos (keywordEach [] X.env)).all (λx=>x.1.isSome)
   && decide ([e].length+([]:List Keyword).length+(if([]:List Keyword).isEmpty then 0 else 1)<30))=w5:=by rfl)
  (hline:(apos.endLine==cpos.line)=w5:=by rfl) (hs:Um [e] X.env=[(w6,eval e X.env)]:=by rfl)
  (hsw:swapsWith (.Call (.Attribute o "append" apos) [e] [] cpos) w4 pos.line X.env=pure w6:=by rfl) :
  PS X (.Expr (.Call (.Attribute o "append" apos) [e] [] cpos) pos) (tS X.K B G0 KX (ZP i f)):=
 KY (VM (Rj JO PySem.F.slot_list_append PySem.F.type_list_append O9 ho (YL he XX (by rw[hs];rfl)) hbase hfew hline (by rw[hs];rfl) wZ) hsw) λD σ H ⟨G,Z,k,a⟩=>by
  unfold ZP at a;cases q0:Z[i]? with
  |none=>rw[q0]at a;exact a.elim
  |some o0=>
   cases o0 with
   |none=>rw[q0]at a;exact a.elim
   |some sl0=>
    cases sl0 with
    |deep _ _=>rw[q0]at a;exact a.elim
    |pub d=>rw[q0]at a;exact a.elim
    |own yK=>
     rw[q0]at a;obtain⟨ad,vs0,h1,h2,h3,h4,h5⟩:=k.own i yK q0;refine⟨.ref ad,h1,.inl ⟨rfl,_,SqL.of h4⟩,G,Z,k,?_⟩;unfold sB at a;cases z:f Z with
     |bad=>rw[z]at a;exact a.elim
     |ok d Z1=>
      rw[z]at a;dsimp only at a;intro v G' H' k' s' r';cases q:Z1[i]? with
      |none=>rw[q]at a;exact a.elim
      |some o=>
       cases o with
       |none=>rw[q]at a;exact a.elim
       |some sl=>
        cases sl with
        |deep _ _=>rw[q]at a;exact a.elim
        |pub d=>rw[q]at a;exact a.elim
        |own ds=>
         rw[q]at a;dsimp only at a;split at a
         .rename_i hl
          obtain⟨bq,vs,g1,g2,g3,g4,g5⟩:=k'.own i ds q;rw[h1]at g1;cases g1;refine⟨ad,vs,v,rfl,rfl,g4,by rw[g5.length];exact QE hl lim,?_⟩;exact a σ G' _ (k'.change q h1 (g5.append (.cons r' .nil))) s'
         .exact a.elim
end
structure XQ(K:Frag)(J:It)(ds:w8)(G1:Hp):Prop where
 go:∀i G H,Same G1 G->Same G H->i<ds.length->J.go i H
 stop:∀i G H,Same G1 G->Same G H->ds.length<=i->J.stop i H
 yld:∀i G H x H' d,Same G1 G->Same G H->ds[i]?=O d->J.yld i H x H'->∃G',Ext G H G' H'/\Rep K G' x d
noncomputable def iD(K:Frag)(B G0:Hp)(f:M w8):TI:=λσ H R=>∃G Z,EOk K B G0 G H σ Z/\match f Z with
 |.ok ds Z'=>∀J G' H',EOk K B G0 G' H' σ Z'->Same G G'->XQ K J ds G'->R J H'
 |.bad=>False
section
variable{X:Cx}{B G0:Hp}{KX:XW}{e a b c tg:Uj}{pos:Pos}{es rest:yd}{st:Stmt}{sts sts2:List Stmt}
theorem Xv{t t':TI}(h:PI X tg e t)(i:∀σ H R,t' σ H R->t σ H R):PI X tg e t':=λpins s σ H R I q=>h pins s σ H R I (i σ H R q)
theorem tM.toI{K:Frag}{α γ:Type}{R0:Hp->γ->α->Prop}{f:M α}{g:α->M w8}{σ:St}{H:Hp}{R:It->Hp->Prop}{P:γ->Hp->Prop}(q:iD K B G0 (UW f g) σ H R)
  (i:∀v H' G' Z' x,EOk K B G0 G' H' σ Z'->R0 G' v x->(match g x Z' with
   |.ok ds Z2=>∀J G2 H2,EOk K B G0 G2 H2 σ Z2->Same G' G2->XQ K J ds G2->R J H2
   |.bad=>False)->P v H'):tM K B G0 R0 f σ H P:=by
 obtain⟨G,Z,k,a⟩:=q;refine⟨G,Z,k,?_⟩;unfold UW at a;cases z:f Z with
 |bad=>rw[z]at a;exact a.elim
 |ok d Z1=>
  rw[z]at a;intro v G' H' e s r;refine i v H' G' Z1 d e r ?_;dsimp only at a;cases z2:g d Z1 with
  |bad=>rw[z2]at a;exact a.elim
  |ok ds Z2=>rw[z2]at a;exact λJ G2 H2 k2 s2 it=>a J G2 H2 k2 (s.trans s2) it
theorem xY{K:Frag}{G1:Hp}{ad:Uh}{vs:List V}{ds:w8}(h:SqL K G1 ad vs)(r:Reps K G1 vs ds):XQ K (Itl K ad) ds G1 where
 go:=λi G H s1 s2 hi=>by
  have hi':i<vs.length:=by rw[r.length];exact hi
  exact⟨vs,vs[i],(s1.trans s2).seq h,Qg hi'⟩
 stop:=λi G H s1 s2 hi=>⟨vs,(s1.trans s2).seq h,by rw[r.length];exact hi⟩
 yld:=λi G H x H' d s1 s2 e y=>by obtain⟨rfl,y⟩:=y;obtain⟨v,e1,r1⟩:=r.get e;have:=y vs ((s1.trans s2).seq h);rw[e1]at this;cases this;exact⟨G,.refl s2,r1.mono s1⟩
noncomputable def ZW(lo hi:Int):w8:=(Up (hi-lo).toNat).map λ(k:Nat)=>.int (lo+k)
theorem WD(lo hi:Int):(ZW lo hi).length=(hi-lo).toNat:=by unfold ZW;rw[Qb,Jk]
theorem Gw{K:Frag}{G1:Hp}(lo hi:Int):XQ K (Itr lo (hi-lo).toNat) (ZW lo hi) G1 where
 go:=λi G H s1 s2 h=>by rw[WD]at h;exact h
 stop:=λi G H s1 s2 h=>by rw[WD]at h;exact h
 yld:=λi G H x H' d s1 s2 e y=>by
  obtain⟨rfl,rfl⟩:=y;unfold ZW at e;rw[Qh]at e;have hi:i<(Up (hi-lo).toNat).length:=by refine Nat.lt_of_not_le λz=>?_;rw[JH z]at e;cases e
  rw[Qg hi,List.getElem_range]at e;cases e;exact⟨G,.refl s2,.int _⟩
noncomputable def Sf:w8->Option w8
 |[.int j]=>if j<=1000000 /\ -1000000<=j then O (ZW 0 j)else w4
 |_=>w4
noncomputable def Se:w8->Option w8
 |[.int i,.int j]=>if j<=1000000 /\ -1000000<=j/\i<=1000000 /\ -1000000<=i then O (ZW i j)else w4
 |_=>w4
noncomputable def Wu(f:M w8):M w8:=UW f λx=>UX (Sf x)
noncomputable def Rl(f:M w8):M w8:=UW f λx=>UX (Se x)
theorem xG{f:M w8}{p2:Pos}(hg:Gl X "range")(hm:X.mg "range" = w4)(ha:PA X [a] (tDs X.K B G0 f))(hs:Um [a] X.env=[(w6,eval a X.env)]:=by rfl) :
  PI X tg (.Call (.Name "range" p2) [a] [] pos) (iD X.K B G0 (Wu f)):=Xv (xF hg hm ha hs) λσ H R q=>tM.toI (R0:=Reps X.K) q λv H' G' Z' x k r a=>by
 cases z:Sf x with
 |none=>rw[z]at a;exact a.elim
 |some ds=>
  rw[z]at a;unfold Sf at z;split at z
  .split at z
   .rename_i j c
    cases z;obtain⟨w,rfl,r'⟩:=r.one_inv;refine⟨j,by rw[r'.int_inv],by omega,by omega,?_⟩;have it:=Gw (K:=X.K) (G1:=G') 0 j;rw[Int.sub_zero]at it;exact a _ G' H' k (.refl _) it
   .cases z
  .cases z
theorem kf{f:M w8}{p2:Pos}(hg:Gl X "range")(hm:X.mg "range" = w4)(ha:PA X [a,b] (tDs X.K B G0 f))(hs:Um [a,b] X.env=[(w6,eval a X.env),(w6,eval b X.env)]:=by rfl)(hs2:Um [b] X.env=[(w6,eval b X.env)]:=by rfl) :
  PI X tg (.Call (.Name "range" p2) [a,b] [] pos) (iD X.K B G0 (Rl f)):=Xv (xE hg hm ha hs hs2) λσ H R q=>tM.toI (R0:=Reps X.K) q λv H' G' Z' x k r a=>by
 cases z:Se x with
 |none=>rw[z]at a;exact a.elim
 |some ds=>
  rw[z]at a;unfold Se at z;split at z
  .split at z
   .rename_i i j c
    cases z;obtain⟨w,w',rfl,r1,r2⟩:=r.two_inv;refine⟨i,j,by rw[r1.int_inv,r2.int_inv],⟨by omega,by omega,by omega,by omega⟩,?_⟩;exact a _ G' H' k (.refl _) (Gw i j)
   .cases z
  .cases z
noncomputable def Z7(n:Nat):w8->w8
 |[]=>[]
 |d::r=>.tuple [.int n,d]::Z7 (n+1) r
theorem X2:∀(n:Nat)(ds:w8),(Z7 n ds).length=ds.length
 |_,[]=>rfl
 |n,d::r=>by rw[Z7,QF,QF,X2]
theorem Nh:∀(n:Nat)(ds:w8)(i:Nat),(Z7 n ds)[i]?=ds[i]?.map λd=>.tuple [.int ((n+i:Nat):Int),d]
 |_,[],i=>by simp[Z7]
 |n,d::r,0=>by simp[Z7]
 |n,d::r,i+1=>by
  rw[Z7,JU,JU,Nh (n+1) r i];have:n+1+i=n+(i+1):=by omega
  rw[this]
theorem xX{K:Frag}{G1:Hp}{ad:Uh}{vs:List V}{ds:w8}(h:SqL K G1 ad vs)(r:Reps K G1 vs ds):XQ K (Ite K ad) (Z7 0 ds) G1 where
 go:=λi G H s1 s2 hi=>by
  rw[X2]at hi;have hi':i<vs.length:=by rw[r.length];exact hi
  exact⟨vs,vs[i],(s1.trans s2).seq h,Qg hi'⟩
 stop:=λi G H s1 s2 hi=>by rw[X2]at hi;exact⟨vs,(s1.trans s2).seq h,by rw[r.length];exact hi⟩
 yld:=λi G H x H' d s1 s2 e y=>by
  obtain⟨p,v,hp,rfl,y,rfl⟩:=y;rw[Nh]at e;cases z:ds[i]? with
  |none=>rw[z]at e;cases e
  |some d0=>rw[z]at e;cases e;obtain⟨w,e1,r1⟩:=r.get z;have:=y vs ((s1.trans s2).seq h);rw[e1]at this;cases this;refine⟨upd G p (.tup [.int i,v]),Ext.new s2 hp,.tup (SqT.of KG) (.cons ?_ (.cons ((r1.mono s1).mono (Zl (s2.free hp))) .nil))⟩;rw[JB];exact .int _
noncomputable def Rc:w8->Option w8
 |[.list ds]=>O (Z7 0 ds)
 |_=>w4
noncomputable def Yy(f:M w8):M w8:=UW f λx=>UX (Rc x)
theorem CW{f:M w8}{p2:Pos}{elts:yd}{x1}{tp:Pos}(hg:Gl X "enumerate")(hm:X.mg "enumerate" = w4)(ha:PA X [a] (tDs X.K B G0 f))(hs:Um [a] X.env=[(w6,eval a X.env)]:=by rfl) :
  PI X (.Tuple elts x1 tp) (.Call (.Name "enumerate" p2) [a] [] pos) (iD X.K B G0 (Yy f)):=Xv (B6 hg hm ha hs) λσ H R q=>tM.toI (R0:=Reps X.K) q λv H' G' Z' x k r a=>by
 cases z:Rc x with
 |none=>rw[z]at a;exact a.elim
 |some ds=>
  rw[z]at a;unfold Rc at z;split at z
  .cases z
   obtain⟨w,rfl,r'⟩:=r.one_inv;obtain⟨ad,vs,rfl,h1,r1⟩:=r'.lst_inv;exact⟨ad,vs,rfl,k.gh.seq h1,a _ G' H' k (.refl _) (xX h1 r1)⟩
  .cases z
noncomputable def Zc(s:D->UI->ye)(g:SM):w8->SM
 |[],Z=>.nx Z
 |d::r,Z=>match s d Z with
  |none=>.bad
  |some Z1=>match g Z1 with
   |.nx Z2=>Zc s g r Z2
   |.ct Z2=>Zc s g r Z2
   |.bk Z2=>.nx Z2
   |.rt d=>.rt d
   |.ex Z2 d=>.ex Z2 d
   |.bad=>.bad
noncomputable def Km(f:M w8)(s:D->UI->ye)(g:SM):SM:=sB f λds=>Zc s g ds
theorem DO{iter:Uj}{body:List Stmt}{f:M w8}{s:D->UI->ye}{g:SM}(hp:PassesOwn (model X.prog X.w) X.A X.env X.xe)(hc:X.calm=w5)(hi:PI X tg iter (iD X.K B G0 f))(hg:PG X tg (tG X.K B G0 s))(hb:PSs X body (tS X.K B G0 KX g))
  (hs:∀x,UD iter X.env x=pure x:=by intro _;rfl):PS X (.For tg iter body [] pos) (tS X.K B G0 KX (Km f s g)):=
 KY (Cp hp hc hi hg hb hs) λDn σ H ⟨G,Z,k,a⟩=>by
  refine⟨G,Z,k,?_⟩;unfold Km sB at a;cases z:f Z with
  |bad=>rw[z]at a;exact a.elim
  |ok ds Z1=>
   rw[z]at a;dsimp only at a⊢;intro J G1 H1 k1 s1 it;refine⟨λi m σ' H'=>m=ds.length-i/\∃G' Z',EOk X.K B G0 G' H' σ' Z'/\Same G1 G'/\aftS X.K B G0 KX (Zc s g (ds.drop i) Z') G' Dn,⟨ds.length,by omega,G1,Z1,k1,.refl _,by rw[List.drop_zero];exact aftS.mono s1 a⟩,?_⟩;rintro i m σ' H' ⟨rfl,G',Z',k',s',a'⟩;by_cases hi:i<ds.length
   .right
    refine⟨it.go i G' H' s' k'.gh hi,λσ2 H2=>∃G2 Z2,EOk X.K B G0 G2 H2 σ2 Z2/\Same G1 G2/\aftS X.K B G0 KX (Zc s g (ds.drop (i+1)) Z2) G2 Dn,λσ2 H2 h2=>⟨ds.length-(i+1),by omega,rfl,h2⟩,λx H2 y=>?_⟩;obtain⟨G2,ex,rx⟩:=it.yld i G' H' x H2 ds[i] s' k'.gh (Qg hi) y;rw[JG hi,Zc]at a';cases z2:s ds[i] Z' with
    |none=>rw[z2]at a';exact a'.elim
    |some Z2=>
     rw[z2]at a';dsimp only at a';refine⟨G2,Z',ds[i],Z2,k'.ext ex,rx,z2,λσ3 G3 H3 k3 s3=>⟨G3,Z2,k3,?_⟩⟩;have s13:Same G1 G3:=(s'.trans ex.g).trans s3;cases z3:g Z2 with
     |nx Z3=>rw[z3]at a';exact λσ4 G4 H4 k4 s4=>⟨G4,Z3,k4,s13.trans s4,aftS.mono ((ex.g.trans s3).trans s4) a'⟩
     |ct Z3=>rw[z3]at a';exact λσ4 G4 H4 k4 s4=>⟨G4,Z3,k4,s13.trans s4,aftS.mono ((ex.g.trans s3).trans s4) a'⟩
     |bk Z3=>rw[z3]at a';exact λσ4 G4 H4 k4 s4=>a' σ4 G4 H4 k4 ((ex.g.trans s3).trans s4)
     |rt d=>rw[z3]at a';exact a'
     |ex Z3 d=>rw[z3]at a';exact λv σ4 G4 H4 k4 s4 r4=>a' v σ4 G4 H4 k4 ((ex.g.trans s3).trans s4) r4
     |bad=>rw[z3]at a';exact a'.elim
   .left
    rw[List.drop_eq_nil_of_le (by omega)]at a';exact⟨it.stop i G' H' s' k'.gh (by omega),a' σ' G' H' k' (.refl _)⟩
theorem qT{k:Nat}{f:Uh}{fd:Ui}{ps:List Str}{F:w8->yb}{g:M w8}{x:Str}{p2:Pos}{n:Nat}(FK:FnOk X.prog X.w X.K X.mg X.base CX0 k f fd ps (spD X.K n F))(hr:Room k X.A)(hg:Gl X x)(hm:X.mg x=O (.ref f))(hk:PySem.W.keepIn X.K (.ref f)=w5)
  (hb:Ys X.K fd ps []) (ha:PA X (e::es) (tDs X.K B G0 g)) (hn:(e::es).length=n) (hdb:(x==("__debug__" : Str))=w6:=by decide) (he:Um (e::es) X.env=(w6,eval e X.env)::Um es X.env:=by rfl) (hpl:(backTo pos (Um es X.env)).any (·.1)=w6:=by rfl) :
  PE X (.Call (.Name x p2) (e::es) [] pos) (tD X.K B G0 (UW g λxs=>if xs.length=n then UX (F xs)else λ_=>.bad)):=
 Ki (Lb FK hr hg hm hk hb .nil Of ha hdb he hpl) λσ H Q q=>tM.one (R:=Reps X.K) q λv H2 G Z ds k r a=>by
  split at a
  .rename_i hl
   obtain⟨d,e,a⟩:=a.opt;exact⟨G,ds,d,by rw[Q4,r.length];exact hl,k.gh,by rw[Q4];exact r,e,λw G' H' ex rw=>a.done k ex rw⟩
  .exact a.elim
end
noncomputable def ZV(N:List Str)(ds:w8):UI:=(ds.map λd=>O (Sl.pub d))++Uq (N.length-ds.length) w4
theorem O2{K:Frag}{N:List Str}{G H:Hp}{vs:List V}{ds:w8}(s:Same G H)(r:Reps K G vs ds):EOk K H G G H (L2.X3 N vs) (ZV N ds) where
 bh:=.refl _
 gh:=s
 g0:=.refl _
 np:=λ_ _ _ n=>n
 len:=by unfold L2.X3 ZV;rw[Qi,Qi,Qb,Qb,Qu,Qu,r.length]
 pub:=λi d q=>by
  unfold ZV at q;unfold L2.X3;by_cases hi:i<ds.length
  .rw[Qs (by rw[Qb];exact hi),Qh]at q
   cases z:ds[i]? with
   |none=>rw[z]at q;cases q
   |some d'=>rw[z]at q;cases q;obtain⟨v,e1,r1⟩:=r.get z;refine⟨v,?_,r1⟩;rw[Qs (by rw[Qb,r.length];exact hi),Qh,e1];rfl
  .rw[Qt (by rw[Qb];omega),QA]at q
   split at q<;>cases q
 own:=λi es q=>by
  unfold ZV at q;by_cases hi:i<ds.length
  .rw[Qs (by rw[Qb];exact hi),Qh]at q
   cases z:ds[i]? with
   |none=>rw[z]at q;cases q
   |some d'=>rw[z]at q;cases q
  .rw[Qt (by rw[Qb];omega),QA]at q
   split at q<;>cases q
 sep:=λi j a es fs q _ _ _=>by
  unfold ZV at q;by_cases hi:i<ds.length
  .rw[Qs (by rw[Qb];exact hi),Qh]at q
   cases z:ds[i]? with
   |none=>rw[z]at q;cases q
   |some d'=>rw[z]at q;cases q
  .rw[Qt (by rw[Qb];omega),QA]at q
   split at q<;>cases q
 dp:=by
  have key:∀{i:Nat}{s:Sl},(ZV N ds)[i]?=O (O s)->∃d,s=.pub d:=λ{i s} q=>by
   unfold ZV at q;by_cases hi:i<ds.length
   .rw[Qs (by rw[Qb];exact hi),Qh]at q
    cases z:ds[i]? with
    |none=>rw[z]at q;cases q
    |some d'=>rw[z]at q;cases q;exact⟨_,rfl⟩
   .rw[Qt (by rw[Qb];omega),QA]at q
    split at q<;>cases q
  exact .of (λi p d q=>by obtain⟨_,e⟩:=key q;cases e) λi ds q=>by obtain⟨_,e⟩:=key q;cases e
noncomputable def U4(N:List Str)(g:SM)(ds:w8):yb:=match g (ZV N ds)with
 |.rt d=>O d
 |.nx _=>O .none
 |_=>w4
theorem okD{P:Ug}{w:World}{K:Frag}{mg:Str->yc}{base:Heap}{x qual:Str}{st:Stmt}{f:Uh}{fd:Ui}{N ps:List Str}{k n:Nat}{g:SM}(F:Fun K x qual st f fd)(S:Tc N ps (K0 st))(hn:ps.length=n)
  (der:∀(cdv:Ue)(A:Around)(outer:List Env)(s:Uf)(H:Hp)(E:XK)(B G0:Hp),Room k (A.deeper (envOfC qual (K0 st) s.heap.objs.size f cdv)) ->
   PSs (Zh CX0 P w K mg base N qual (K0 st) f cdv A outer s H E).nox (Yl st) (tS K B G0 KX0 g)):FnOk P w K mg base CX0 (k+1) f fd ps (spD K n (U4 N g)):=by
 refine F.ok S (λvs H Q E h=>?_) (λcdv A outer s H vs Q E hr h=>?_)
 .obtain⟨_,_,_,hl,_⟩:=h
  rw[hl,hn]
 .obtain⟨G,ds,d,hl,sg,r,hF,q⟩:=h
  refine⟨_,der cdv A outer s H E H G hr,G,ZV N ds,O2 sg r,?_⟩;unfold U4 at hF;cases z:g (ZV N ds)with
  |rt d'=>rw[z]at hF;cases hF;exact λv G' H' ex rr=>q v G' H' ex rr
  |nx Z=>rw[z]at hF;cases hF;exact λσ' G' H' k' _=>q .non G' H' k'.exit .non
  |bk Z=>rw[z]at hF;cases hF
  |ct Z=>rw[z]at hF;cases hF
  |ex Z d=>rw[z]at hF;cases hF
  |bad=>rw[z]at hF;cases hF
section
variable{X:Cx}{B G0:Hp}{e a b c tg:Uj}{pos:Pos}{es rest:yd}
def oNeg:D->yb
 |.int i=>O (.int (-i))
 |_=>w4
noncomputable def ZD(f:M D):M D:=UW f λx=>UX (oNeg x)
theorem CV{f:M D}(h:PE X a (tD X.K B G0 f)):PE X (.UnaryOp .USub a pos) (tD X.K B G0 (ZD f)):=
 Ki (EN Ci h) λσ H Q q=>tM.one (R:=Rep X.K) q λv H2 G Z x k r a=>by
  cases x with
  |int i=>exact⟨i,r.int_inv,aft.now a k (.int _)⟩
  |_=>exact a.elim
end
def Def(P:Ug)(w:World)(K:Frag)(mg:Str->yc)(base:Heap)(x:Str)(k n:Nat)(F:w8->yb):Prop:=
 ∃(f:Uh)(fd:Ui)(ps:List Str),mg x=O (.ref f)/\PySem.W.keepIn K (.ref f)=w5/\Ys K fd ps []/\FnOk P w K mg base CX0 k f fd ps (spD K n F)
noncomputable def UP(n:Nat)(F:w8->yb)(g:M w8):M D:=UW g λxs=>if xs.length=n then UX (F xs)else λ_=>.bad
section
variable{X:Cx}{B G0:Hp}{e:Uj}{pos:Pos}{es:yd}
theorem CU{k n:Nat}{F:w8->yb}{g:M w8}{x:Str}{p2:Pos}(d:Def X.prog X.w X.K X.mg X.base x k n F)(hr:Room k X.A)(hg:Gl X x)(ha:PA X (e::es) (tDs X.K B G0 g))(hn:(e::es).length=n:=by rfl)
  (hdb:(x==("__debug__" : Str))=w6:=by decide) (he:Um (e::es) X.env=(w6,eval e X.env)::Um es X.env:=by rfl) (hpl:(backTo pos (Um es X.env)).any (·.1)=w6:=by rfl) :
  PE X (.Call (.Name x p2) (e::es) [] pos) (tD X.K B G0 (UP n F g)):=by
 obtain⟨f,fd,ps,h1,h2,h3,h4⟩:=d;exact qT h4 hr hg h1 h2 h3 ha hn hdb he hpl
end
theorem Def.mk{P:Ug}{w:World}{K:Frag}{mg:Str->yc}{base:Heap}{x:Str}{k n:Nat}{F:w8->yb}{st:Stmt}{f:Uh}{fd:Ui}{ps:List Str}(hm:mg x=O (.ref f))(FU:Fun K x x st f fd)(hb:Ys K fd ps [])(ok:FnOk P w K mg base CX0 k f fd ps (spD K n F)) :
  Def P w K mg base x k n F:=⟨f,fd,ps,hm,FU.kp,hb,ok⟩
theorem DN{K:Frag}{H:Hp}{a:Uh}{ns:w9}{F:w8->yb}{E:XK}(hS:SqL K H a (ns.map V.int))(h:F [.list (ns.map int)]=O (.bool w5)):spD K 1 F [.ref a] H (λv _=>v=.bl w5) E:=
 ⟨H,[.list (ns.map int)],.bool w5,rfl,.refl _,.cons (.lst hS (Reps.ints ns)) .nil,h,λ_ _ _ _ r=>r.bl_inv⟩
end DL
namespace L2
open PySem PySem.Spec PyProof.Rows
theorem mem_of_lookup{x:Str}{k:NameKind}:∀{l:List (Str×NameKind)},l.lookup x=O k->(x,k)∈l
 |[],h=>by cases h
 |(y,j)::r,h=>by
  rw[QR]at h;split at h
  .rename_i e
   cases h;have:x=y:=by simpa using e
   rw[this];exact Qo
  .exact Qp _ (mem_of_lookup h)
theorem Nq{env:Env}:∀(l:List (Str×NameKind))(acc:List (Str×Uh)),(∀y∈l,y.2=.free->∃c,env.cells.lookup y.1=O c) ->
  ∃cl,(forIn l acc (λx r=>if(x.2==NameKind.free)=w5 then(do let a ←cellOf env x.1;pure (ForInStep.yield ((x.1,a)::r)))else pure (ForInStep.yield r)):Sem (List (Str×Uh)))=pure cl /\
   (∀x c,cl.lookup x=O c->acc.lookup x=O c∨env.cells.lookup x=O c)/\(∀y∈l,y.2=.free->∃c,cl.lookup y.1=O c)/\(∀x c,acc.lookup x=O c->∃c',cl.lookup x=O c')
 |[],acc,_=>⟨acc,rfl,λ_ _ h=>.inl h,λ_ h=>absurd h (by simp),λx c h=>⟨c,h⟩⟩
 |(n,k)::r,acc,h=>by
  by_cases hk:k=.free
  .subst hk
   obtain⟨c,hc⟩:=h (n,.free) Qo wZ;obtain⟨cl,e,p1,p2,p3⟩:=Nq r ((n,c)::acc) λy hy=>h y (Qp _ hy)
   have hco:cellOf env n=pure c:=by unfold cellOf;rw[hc]
   have key:∀x c',((n,c)::acc).lookup x=O c'->acc.lookup x=O c'∨env.cells.lookup x=O c':=λx c' q=>by
    rw[QR]at q;split at q
    .rename_i e1
     cases q;have:x=n:=by simpa using e1
     subst this;exact .inr hc
    .exact .inl q
   have own:((n,c)::acc).lookup n=O c:=by rw[List.lookup_cons];simp
   refine⟨cl,?_,λx c' q=>?_,λy hy hf=>?_,λx c' q=>?_⟩
   .rw[List.forIn_cons]
    have:(if(((n,NameKind.free):Str×NameKind).2==NameKind.free)=w5 then(do let a ←cellOf env n;pure (ForInStep.yield ((n,a)::acc)))else pure (ForInStep.yield acc):Sem _)=pure (ForInStep.yield ((n,c)::acc)):=by rw[Qm (show((n,NameKind.free).snd==NameKind.free)=w5 from rfl),hco];rfl
    refine Eq.trans ?_ e;dsimp only at this⊢;rw[this];rfl
   .rcases p1 x c' q with z|z
    .exact key x c' z
    .exact .inr z
   .rcases Qx.mp hy with z|z
    .subst z
     exact p3 n c own
    .exact p2 y z hf
   .by_cases hx:x=n
    .subst hx;exact p3 x c own
    .refine p3 x c' ?_
     have hb:(x==n)=w6:=by simpa using hx
     rw[QR,hb];exact q
  .obtain⟨cl,e,p1,p2,p3⟩:=Nq r acc λy hy=>h y (Qp _ hy)
   refine⟨cl,?_,p1,λy hy hf=>?_,p3⟩
   .rw[List.forIn_cons]
    have hb:(k==NameKind.free)=w6:=by cases k<;>first|rfl|exact absurd wZ hk
    refine Eq.trans ?_ e;dsimp only;rw[hb,Qw (by decide)];rfl
   .rcases Qx.mp hy with z|z
    .subst z;exact absurd hf hk
    .exact p2 y z hf
theorem xW{scope:Scope}{env:Env}(h:∀y∈scope.names,y.2=.free->∃c,env.cells.lookup y.1=O c) :
  ∃cl,closureFor scope env=pure cl/\(∀x c,cl.lookup x=O c->env.cells.lookup x=O c)/\∀y∈scope.names,y.2=.free->∃c,cl.lookup y.1=O c:=by
 obtain⟨cl,e,p1,p2,_⟩:=Nq scope.names [] h;refine⟨cl,?_,λx c q=>(p1 x c q).elim (λz=>by cases z) id,p2⟩;have e2:((forIn scope.names [] (λx r=>if(x.2==NameKind.free)=w5 then(do let a ←cellOf env x.1;pure (ForInStep.yield ((x.1,a)::r)))else pure (ForInStep.yield r)):Sem (List (Str×Uh))) >>= λs=>pure s)=pure cl:=by rw[e];rfl
 exact e2
theorem Gv{env:Env}{x:Str}{k:NameKind}:∀{names:List (Str×NameKind)},(names.map λ(n,k)=>if(k==NameKind.free&&env.scope.kind==.function&&env.kindOf n==O .cell)then(n,NameKind.cell)else(n,k)).lookup x=O k ->
  names.lookup x=O k∨(names.lookup x=O .free/\k=.cell)
 |[],h=>by cases h
 |(n,j)::r,h=>by
  have ih:=@Gv env x k r;have h:List.lookup x ((if(j==NameKind.free&&env.scope.kind==.function&&env.kindOf n==O .cell)=w5 then(n,NameKind.cell)else(n,j))::_)=O k:=h;cases hx:x==n with
  |true=>
   by_cases hc:(j==NameKind.free&&env.scope.kind==.function&&env.kindOf n==O .cell)=w5
   .rw[Qm hc]at h
    simp only[QR,hx]at h⊢;cases h;simp only[QL]at hc;have:j=.free:=by have:=hc.1.1;cases j<;>first|rfl|cases this
    subst this;exact .inr ⟨rfl,rfl⟩
   .rw[Qw hc]at h
    simp only[QR,hx]at h⊢;exact .inl h
  |false=>
   by_cases hc:(j==NameKind.free&&env.scope.kind==.function&&env.kindOf n==O .cell)=w5
   .rw[Qm hc]at h
    simp only[QR,hx]at h⊢;exact ih h
   .rw[Qw hc]at h
    simp only[QR,hx]at h⊢;exact ih h
theorem GO{env:Env}{x:Str}:∀{names:List (Str×NameKind)},names.lookup x=O .free ->
  (names.map λ(n,k)=>if(k==NameKind.free&&env.scope.kind==.function&&env.kindOf n==O .cell)then(n,NameKind.cell)else(n,k)).lookup x=O .free ∨
  (names.map λ(n,k)=>if(k==NameKind.free&&env.scope.kind==.function&&env.kindOf n==O .cell)then(n,NameKind.cell)else(n,k)).lookup x=O .cell
 |[],h=>by cases h
 |(n,j)::r,h=>by
  have ih:=@GO env x r;show List.lookup x ((if(j==NameKind.free&&env.scope.kind==.function&&env.kindOf n==O .cell)=w5 then(n,NameKind.cell)else(n,j))::_)=_∨List.lookup x ((if(j==NameKind.free&&env.scope.kind==.function&&env.kindOf n==O .cell)=w5 then(n,NameKind.cell)else(n,j))::_)=_;cases hx:x==n with
  |true=>
   simp only[QR,hx]at h;cases h;by_cases hc:(NameKind.free==NameKind.free&&env.scope.kind==.function&&env.kindOf n==O .cell)=w5
   .rw[if_pos hc];simp[List.lookup_cons,hx]
   .rw[if_neg hc];simp[List.lookup_cons,hx]
  |false=>
   simp only[QR,hx]at h;by_cases hc:(j==NameKind.free&&env.scope.kind==.function&&env.kindOf n==O .cell)=w5
   .rw[Qm hc];simp only[QR,hx];exact ih h
   .rw[Qw hc];simp only[QR,hx];exact ih h
theorem HJ{env:Env}{x:Str}:∀{names:List (Str×NameKind)},names.lookup x=O .globalImplicit ->
  (names.map λ(n,k)=>if(k==NameKind.free&&env.scope.kind==.function&&env.kindOf n==O .cell)then(n,NameKind.cell)else(n,k)).lookup x=O .globalImplicit
 |[],h=>by cases h
 |(n,j)::r,h=>by
  have ih:=@HJ env x r;show List.lookup x ((if(j==NameKind.free&&env.scope.kind==.function&&env.kindOf n==O .cell)=w5 then(n,NameKind.cell)else(n,j))::_)=_;cases hx:x==n with
  |true=>simp only[QR,hx]at h;cases h;rw[if_neg (by simp)];simp[List.lookup_cons,hx]
  |false=>
   simp only[QR,hx]at h;by_cases hc:(j==NameKind.free&&env.scope.kind==.function&&env.kindOf n==O .cell)=w5
   .rw[Qm hc];simp only[QR,hx];exact ih h
   .rw[Qw hc];simp only[QR,hx];exact ih h
noncomputable def Cx.blk(X:Cx)(N':List Str)(scope:Scope)(cl:List (Str×Uh))(C:Uh)(s₀:Uf)(H₀:Hp)(ex:yf):Cx:=
 {X with N:=N',s₀:=s₀,H₀:=H₀,env:=compEnvC scope cl C X.env,outer:=X.stack,ex:=ex,fn:=λ_=>w6,xe:=λ_ _=>False}
section
variable{X:Cx}{N':List Str}{scope:Scope}{cl:List (Str×Uh)}{C:Uh}{s₀:Uf}{H₀:Hp}{ex:yf}{x:Str}
theorem CT(h:scope.names.lookup x=O .local∨scope.names.lookup x=O .free):Vis (X.blk N' scope cl C s₀ H₀ ex).env.scope x:=by
 rcases h with h|h
 .exact .inl (lookup_relabel_local h)
 .rcases GO (env:=X.env) h with z|z
  .exact .inr (.inr z)
  .exact .inr (.inl z)
theorem CS(h:scope.names.lookup x=O .local):Loc (X.blk N' scope cl C s₀ H₀ ex).env.scope x:=.inl (lookup_relabel_local h)
theorem DM(h:scope.names.lookup x=O .local):(X.blk N' scope cl C s₀ H₀ ex).env.scope.names.lookup x=O .local:=lookup_relabel_local h
theorem DK(h:scope.names.lookup x=O .globalImplicit):Gl (X.blk N' scope cl C s₀ H₀ ex) x:=HJ h
end
noncomputable def RH(names:List (Str×NameKind))(N N2:List Str)(k:Nat):Bool:=
 N2.length==N.length+k&&(Up N2.length).all λi=>match N2[i]? with
  |none=>w5
  |some x=>match names.lookup x with
   |some .free=>N[i]?==O x
   |some .local=>decide (N.length<=i)&&decide (i<N.length+k)
   |some .cell=>w6
   |_=>w5
theorem wz{names:List (Str×NameKind)}{N N2:List Str}{k:Nat}(h:RH names N N2 k=w5) :
  N2.length=N.length+k/\∀(i:Nat) x,N2[i]?=O x->(names.lookup x=O .free->N[i]?=O x)/\(names.lookup x=O .local->N.length<=i/\i<N.length+k):=by
 unfold RH at h;simp only[QL,beq_iff_eq,Q2,Jq]at h;refine⟨h.1,λi x e=>?_⟩;have hi:=(Ql.mp e).1;have:=h.2 i hi;rw[e]at this;refine⟨λq=>?_,λq=>?_⟩
 .simp only[q]at this
  simpa using this
 .simp only[q]at this
  simpa using this
theorem Inv.enter{X:Cx}{pins:List (Uh×Obj)}{σ:St}{H:Hp}{s3:Uf}(I:Inv X pins σ H s3){scope:Scope}{cl:List (Str×Uh)}{N2:List Str}{k:Nat}{h':Heap}{fp:yf}{t':Nat}{m0:Str->yc}
  (hb:RH scope.names X.N N2 k=w5) (hkind:scope.kind=.function) (hcell:∀y∈scope.names,y.2≠.cell)
  (hfree:∀y∈scope.names,y.2=.free->X.env.scope.names.lookup y.1=O .cell∨X.env.scope.names.lookup y.1=O .free)
  (zP:∀x c,cl.lookup x=O c->X.env.cells.lookup x=O c) (cl2:∀y∈scope.names,y.2=.free->∃c,cl.lookup y.1=O c)
  (hn:h'.Ns s3.heap.objs.size m0) (hk:∀b o,s3.heap.get? b=O o->h'.get? b=O o) (hf:∀b∈fp,Zz X pins H b) (hfo:∀b∈fp,∃o,s3.heap.get? b=O o) :
  Inv (X.blk N2 scope cl s3.heap.objs.size s3 H fp) pins (σ++Uq k w4) H {s3 with heap:=h',toks:=t'}:=by
 obtain⟨hl,hN⟩:=wz hb;have lt:∀b o,s3.heap.get? b=O o->b≠s3.heap.objs.size:=λb o e=>QM (Qf e);have ofl:∀x,scope.names.lookup x=O .free->(x,NameKind.free)∈scope.names:=λx h=>mem_of_lookup h;have kinv:∀x kk,(X.blk N2 scope cl s3.heap.objs.size s3 H fp).env.scope.names.lookup x=O kk->scope.names.lookup x=O kk∨(scope.names.lookup x=O .free/\kk=.cell):=λx kk h=>Gv (env:=X.env) h
 have isfree:∀x,(X.blk N2 scope cl s3.heap.objs.size s3 H fp).env.scope.names.lookup x=O .cell∨(X.blk N2 scope cl s3.heap.objs.size s3 H fp).env.scope.names.lookup x=O .free->scope.names.lookup x=O .free:=λx h=>by
  rcases h with h|h
  .rcases kinv x _ h with z|z
   .exact absurd wZ (hcell _ (mem_of_lookup z))
   .exact z.1
  .rcases kinv x _ h with z|z
   .exact z
   .exact z.1
 have ok:(X.blk N2 scope cl s3.heap.objs.size s3 H fp).Ok:=
  {
   mod:=I.ok.mod
   kind:=hkind
   glob:=I.ok.glob
   blt:=I.ok.blt
   above:=Qq _
   inj:=λx y c a b=>I.ok.inj x y c (zP x c a) (zP y c b)
   has:=λx h=>cl2 (x,.free) (ofl x (isfree x h)) wZ
   cab:=λx c h=>by cases h
   hd:=I.ok.hd
   frames:=I.ok.frames
   stk:=.inl wZ
   exf:=λb hb=>⟨let ⟨o,e⟩:=hfo b hb;lt b o e,λx c e=>(hf b hb).2.2.2.2.1 x c (zP x c e)⟩
   bs:=I.bs
   bsz:=QH I.ok.bsz I.sz
   noex:=λb o e hb=>by
    rcases(hf b hb).2.2.2.1 with z|z
    .exact I.ok.noex b o e z
    .exact absurd (QE (Qf e) (QH I.ok.bsz z)) (Jy _)
   exfs:=λb hb hx=>by
    rcases Qx.mp (I.stkSub b hx)with z|z
    .exact(hf b hb).2.1 z
    .exact(hf b hb).2.2.1 z
   funs:=I.stack
   frf:=I.stkFree}
 refine⟨ok,rfl,I.bare,Un.kept hk,⟨m0,hn,λi x v e1 e2 e3=>?_⟩,λx c e=>?_,I.hok.fresh (Qq _),λx c e=>I.freeC x c (zP x c e),λp hp=>?_,I.hok.kept hk,?_⟩
 .have nl:scope.names.lookup x≠O .local:=λz=>by
   obtain⟨g1,g2⟩:=(hN i x e1).2 z;rw[←I.len]at g1 g2;rw[Qt g1,QA]at e2;split at e2<;>cases e2
  have fr:scope.names.lookup x=O .free:=by
   rcases e3 with z|z|z
   .rcases kinv x _ z with q|q
    .exact absurd q nl
    .cases q.2
   .exact isfree x (.inl z)
   .exact isfree x (.inr z)
  have eN:=(hN i x e1).1 fr;have hi:i<σ.length:=by rw[I.len];exact(Ql.mp eN).1
  rw[Qs hi]at e2;obtain⟨m,hm,hlk⟩:=I.loc;have hkd:=hfree _ (ofl x fr) wZ;obtain⟨u,r,l⟩:=hlk i x v eN e2 (.inr hkd);refine⟨u,r,.inr ⟨?_,?_⟩⟩
  .rcases e3 with z|z|z
   .rcases kinv x _ z with q|q
    .exact absurd q nl
    .cases q.2
   .exact .inl z
   .exact .inr z
  .rcases l with l|⟨_,c,ec,z⟩
   .have:X.env.scope.names.lookup x=O .local:=l.1
    rcases hkd with q|q<;>(dsimp only at q;rw[this]at q;cases q)
   .obtain⟨c',ec'⟩:=cl2 _ (ofl x fr) wZ
    have:=zP _ _ ec';dsimp only at this ec';rw[ec]at this;cases this;obtain⟨o,ho,hd⟩:=z;exact⟨c,ec',o,hk c o ho,hd⟩
 .obtain⟨v,o,ho,hd⟩:=I.cell x c (zP x c e)
  exact⟨v,o,hk c o ho,hd⟩
 .obtain⟨e,n,ne,nf,d⟩:=I.pin p hp
  refine⟨hk _ _ e,n,lt _ _ e,λz=>?_,d⟩;rcases Qx.mp (I.stkSub _ z)with q|q
  .exact ne q
  .exact nf q
 .rw[Qi,Qu,I.len]
  exact hl.symm
abbrev nox:Ue->Uf->Prop:=λ_ _=>False
def RF(prog:Ug)(w:World)(A:Around)(tg:Uj)(ifs:yd)(env:Env)(it:Ue)(code:Code)(W:(Uf->Prop)->Uf->Prop):Prop:=
 ∀(R:Result->Uf->Prop)(I:Nat->Uf->Prop)(n:Nat)(s:Uf),I n s ->
  (∀n s,I n s->Ul (model prog w) A (pyNext it) (λr s₁=>match r with
   |none=>R (.ok .next) s₁
   |some v=>Ul (model prog w) A (letOwnedTupleGo tg it v) (λ_ s₁'=>Ul (model prog w) A (assign tg env v) (λ_ s₂=>
     Ul (model prog w) A (forIn ifs w5 λc r=>if r=w5 then do let ok ←isTrue c env (eval c env);pure (ForInStep.yield ok)else pure (ForInStep.yield r)) (λok s₃=>
      if ok=w5 then W (λs₅=>∃m,m<n/\I m s₅) s₃ else ∃m,m<n/\I m s₃) nox s₂) nox s₁') nox s₁) nox s)->codeAny (model prog w) A code R s
section
variable{prog:Ug}{w:World}{A:Around}{elt tg i:Uj}{ifs:yd}{gens:List Comprehension}{scope:Scope}{pos:Pos}{it acc:Ue}{env:Env}{j:Nat}
theorem ke(hg:gens[j]?=O ⟨tg,i,ifs,0⟩)(hn:gens[j+1]?=w4):RF prog w A tg ifs env it (.compLoop (.ListComp elt gens scope pos) j it acc env)
  (λQ s=>Ul (model prog w) A (eval elt env) (λx s₄=>Ul (model prog w) A (call (.builtin "list.append") [acc,x]) (λ_ s₅=>Q s₅) nox s₄) nox s):=by
 intro R I n s h turn;refine codeAny_loop wZ I (λn s hI=>?_) n h;show Ul _ A ((compTurn (.ListComp elt gens scope pos) j it acc env).onRaise (λx=>do noteFrame x env;theTreesLotGoes x)) _ _ s;refine wpAny_noted ?_;unfold compTurn;dsimp only;simp only[hg,hn];refine Qd (Ji (Qd (QI (turn n s hI) (λr s₁ h₁=>?_) λ_ _ h'=>h'.elim)));cases r with
 |none=>exact Qj h₁
 |some v=>
  refine Qd (QI h₁ (λ_ s₁' h₁'=>?_) λ_ _ h'=>h'.elim);refine Qd (QI h₁' (λ_ s₂ h₂=>Qd (QI h₂ (λok s₃ h₃=>?_) λ_ _ h'=>h'.elim)) λ_ _ h'=>h'.elim);cases ok with
  |false=>exact Qj ⟨rfl,h₃⟩
  |true=>exact Qd (Qd (QI h₃ (λx s₄ h₄=>Qd (QI h₄ (λ_ s₅ h₅=>Qj (Qj ⟨rfl,h₅⟩)) λ_ _ h'=>h'.elim)) λ_ _ h'=>h'.elim))
theorem ka{zh i1:Uj}{ifs1:yd}(hg:gens[j]?=O ⟨tg,i,ifs,0⟩)(hn:gens[j+1]?=O ⟨zh,i1,ifs1,0⟩)(hs:∀x,UD i1 env x=pure x):RF prog w A tg ifs env it (.compLoop (.ListComp elt gens scope pos) j it acc env)
  (λQ s=>Ul (model prog w) A (eval i1 env) (λx s₄=>Ul (model prog w) A (pyIter x) (λyI s₅=>codeAny (model prog w) A (.compStart (.ListComp elt gens scope pos) (j+1) yI acc env)
   (λr s₆=>match r with | .ok _=>Q s₆ | .error _=>False) s₅) nox s₄) nox s):=by
 intro R I n s h turn;refine codeAny_loop wZ I (λn s hI=>?_) n h;show Ul _ A ((compTurn (.ListComp elt gens scope pos) j it acc env).onRaise (λx=>do noteFrame x env;theTreesLotGoes x)) _ _ s;refine wpAny_noted ?_;unfold compTurn;dsimp only;simp only[hg,hn];refine Qd (Ji (Qd (QI (turn n s hI) (λr s₁ h₁=>?_) λ_ _ h'=>h'.elim)));cases r with
 |none=>exact Qj h₁
 |some v=>
  refine Qd (QI h₁ (λ_ s₁' h₁'=>?_) λ_ _ h'=>h'.elim);refine Qd (QI h₁' (λ_ s₂ h₂=>Qd (QI h₂ (λok s₃ h₃=>?_) λ_ _ h'=>h'.elim)) λ_ _ h'=>h'.elim);cases ok with
  |false=>exact Qj ⟨rfl,h₃⟩
  |true=>
   refine Qd (QI h₃ (λx s₄ h₄=>Qd (Ji (Qd (wpAny_of_eq (hs x) (Qd (JD (QI h₄ (λyI s₅ h₅=>?_) λ_ _ h'=>h'.elim))))))) λ_ _ h'=>h'.elim);refine Qd (wpAny_runOwn (Jr h₅ λr s₆ h₆=>?_));cases r with
   |ok f=>exact Qj ⟨rfl,h₆⟩
   |error x=>exact h₆.elim
theorem wy{R:Result->Uf->Prop}{s:Uf}(hg:gens[j]?=O ⟨tg,i,ifs,0⟩)
  (h0:codeAny (model prog w) A (.compLoop (.ListComp elt gens scope pos) j it acc env) R s)
  (h:Ul (model prog w) A (pyIter it) (λit' s'=>codeAny (model prog w) A (.compLoop (.ListComp elt gens scope pos) j it' acc env) R s') nox s) :
  codeAny (model prog w) A (.compStart (.ListComp elt gens scope pos) j it acc env) R s:=by
 refine codeAny_of_tree ?_;show Ul _ _ ((compStart (.ListComp elt gens scope pos) j it acc env).onRaise (λx=>do noteFrame x env;standAt theWindowsPlace)) _ _ s;refine wpAny_notedAt ?_;unfold compStart;have hc:(clausesOf (.ListComp elt gens scope pos))[j]?=O ⟨tg,i,ifs,0⟩:=hg;simp only[hc];show Ul _ _ (ask >>= _) _ _ s;refine Qd (wpAny_askSetting (wpAny_ite ?_));split
 .first
   |exact Qd (Qj (Qj (And.intro rfl h0)))
   |exact Qj (And.intro rfl h0)
 .first
   |exact Qd (wpAny_rule (Qd (Ji (Qd (QI h (λit' s' h'=>Qj (And.intro rfl h')) λ_ _ x=>x.elim)))))
   |(refine Qd (wpAny_rule ?_);show Ul _ _ (standAt _ >>= _) _ _ s;exact Qd (Ji (Qd (QI h (λit' s' h'=>Qj (And.intro rfl h')) λ_ _ x=>x.elim))))
end
end L2
namespace DL
open PySem PySem.Spec L2
open PyProof.Rows hiding St
noncomputable def Xm:Option Sl->Option Sl
 |some (.own _)=>w4
 |some (.deep _ _)=>w4
 |x=>x
noncomputable def Kf(Z:UI):UI:=Z.map Xm
theorem j9{Z:UI}{i:Nat}{d:D}(h:(Kf Z)[i]?=O (O (.pub d))):Z[i]?=O (O (.pub d)):=by
 unfold Kf at h;rw[Qh]at h;cases e:Z[i]? with
 |none=>rw[e]at h;cases h
 |some o=>
  rw[e]at h;cases o with
  |none=>cases h
  |some sl=>cases sl with
   |pub d'=>cases h;rfl
   |own ds=>cases h
   |deep p d'=>cases h
theorem WZ{Z:UI}{i:Nat}{ds:w8}(h:(Kf Z)[i]?=O (O (.own ds))):False:=by
 unfold Kf at h;rw[Qh]at h;cases e:Z[i]? with
 |none=>rw[e]at h;cases h
 |some o=>
  rw[e]at h;cases o with
  |none=>cases h
  |some sl=>cases sl with
   |pub d'=>cases h
   |own ds=>cases h
   |deep p d'=>cases h
theorem Np{Z:UI}{i:Nat}{p:Pat}{d:D}(h:(Kf Z)[i]?=O (O (.deep p d))):False:=by
 unfold Kf at h;rw[Qh]at h;cases e:Z[i]? with
 |none=>rw[e]at h;cases h
 |some o=>
  rw[e]at h;cases o with
  |none=>cases h
  |some sl=>cases sl<;>cases h
noncomputable def KW(s:D->UI->ye)(t:M Bool)(g:M D):w8->UI->w8->Option w8
 |[],_,es=>O es
 |d::r,Z,es=>match s d Z with
  |none=>w4
  |some Z1=>match t Z1 with
   |.bad=>w4
   |.ok b Z2=>if b=w5 then(match g Z2 with
     |.bad=>w4
     |.ok e Z3=>if es.length<1000000 then KW s t g r (Kf Z3) (es++[e])else w4)
    else KW s t g r (Kf Z2) es
noncomputable def Zr(f:M w8)(k:Nat)(s:D->UI->ye)(t:M Bool)(g:M D):M w8:=λZ=>match f Z with
 |.bad=>.bad
 |.ok ds Z1=>match KW s t g ds (Kf Z1++Uq k w4) []with
  |none=>.bad
  |some es=>.ok es Z1
def Xa(X:Cx)(ifs:yd)(t:TT):Prop:=
 ∀(pins:List (Uh×Obj))(s:Uf)(σ:St)(H:Hp)(Q:Bool->Hp->Prop),Inv X pins σ H s->t σ H Q ->
  Ul (model X.prog X.w) X.A (forIn ifs w5 λc r=>if r=w5 then do let ok ←isTrue c X.env (eval c X.env);pure (ForInStep.yield ok)else pure (ForInStep.yield r)) (TP X pins σ Q) X.xe s
section
variable{X:Cx}{B G0:Hp}
theorem CQ:Xa X [] (tBo X.K B G0 (UJ w5)):=λpins s σ H Q I ⟨G,Z,k,a⟩=>wpAny_tests_nil ⟨H,I,a w5 G H k (.refl _) wZ⟩
theorem BI{c:Uj}{t:M Bool}(h:PT X c (tBo X.K B G0 t)):Xa X [c] (tBo X.K B G0 t):=λpins s σ H Q I q=>wpAny_tests_one (h pins s σ H Q I q)
theorem EOk.rebase{K:Frag}{G H:Hp}{σ:St}{Z:UI}(k:EOk K B G0 G H σ Z):EOk K H G G H σ (Kf Z) where
 bh:=.refl _
 gh:=k.gh
 g0:=.refl _
 np:=λ_ _ _ n=>n
 len:=by unfold Kf;rw[Qb];exact k.len
 pub:=λi d q=>k.pub i d (j9 q)
 own:=λi ds q=>(WZ q).elim
 sep:=λi j a ds es q=>(WZ q).elim
 dp:=.of (λ_ _ _ q=>Np q) λ_ _ q=>WZ q
theorem EOk.more{K:Frag}{G H:Hp}{σ:St}{Z:UI}(k:EOk K H G G H σ (Kf Z))(n:Nat):EOk K H G G H (σ++Uq n w4) (Kf Z++Uq n w4) where
 bh:=.refl _
 gh:=k.gh
 g0:=.refl _
 np:=λ_ _ _ n=>n
 len:=by rw[Qi,Qi,k.len,Qu,Qu]
 pub:=λi d q=>by
  by_cases hi:i<(Kf Z).length
  .rw[Qs hi]at q
   rw[Qs (by rw[←k.len];exact hi)];exact k.pub i d q
  .rw[Qt (Q6 hi),QA]at q
   split at q<;>cases q
 own:=λi ds q=>by
  by_cases hi:i<(Kf Z).length
  .rw[Qs hi]at q
   exact(WZ q).elim
  .rw[Qt (Q6 hi),QA]at q
   split at q<;>cases q
 sep:=λi j a ds es q=>by
  by_cases hi:i<(Kf Z).length
  .rw[Qs hi]at q
   exact(WZ q).elim
  .rw[Qt (Q6 hi),QA]at q
   split at q<;>cases q
 dp:=by
  refine .of (λi p d q=>?_) λi ds q=>?_
  .by_cases hi:i<(Kf Z).length
   .rw[Qs hi]at q;exact Np q
   .rw[Qt (Q6 hi),QA]at q;split at q<;>cases q
  .by_cases hi:i<(Kf Z).length
   .rw[Qs hi]at q;exact WZ q
   .rw[Qt (Q6 hi),QA]at q;split at q<;>cases q
theorem EOk.beside{K:Frag}{G H:Hp}{σ:St}{Z:UI}{a:Uh}{o:HO}(k:EOk K B G0 G H σ Z)(hg:G a=w4):EOk K (upd H a o) G G (upd H a o) σ (Kf Z) where
 bh:=.refl _
 gh:=λb u e=>by rw[Kk (λz=>by subst z;rw[hg]at e;cases e)];exact k.gh b u e
 g0:=.refl _
 np:=λ_ _ _ n=>n
 len:=k.rebase.len
 pub:=k.rebase.pub
 own:=λi ds q=>(WZ q).elim
 sep:=λi j a ds es q=>(WZ q).elim
 dp:=.of (λ_ _ _ q=>Np q) λ_ _ q=>WZ q
theorem lim1:1000000<=Uk:=lim
noncomputable def Od:Option Sl->Option Sl
 |some (.own ds)=>O (.pub (.list ds))
 |some (.deep _ d)=>O (.pub d)
 |x=>x
noncomputable def Yi(Z:UI):UI:=Z.map Od
theorem j8{Z:UI}{i:Nat}{d:D}(h:(Yi Z)[i]?=O (O (.pub d))):Z[i]?=O (O (.pub d))∨(∃ds,d=.list ds/\Z[i]?=O (O (.own ds))) ∨ ∃p,Z[i]?=O (O (.deep p d)):=by
 unfold Yi at h;rw[Qh]at h;cases e:Z[i]? with
 |none=>rw[e]at h;cases h
 |some o=>
  rw[e]at h;cases o with
  |none=>cases h
  |some sl=>cases sl with
   |pub d'=>cases h;exact .inl wZ
   |own ds=>cases h;exact .inr (.inl ⟨ds,rfl,rfl⟩)
   |deep p d'=>cases h;exact .inr (.inr ⟨p,rfl⟩)
theorem Ng{Z:UI}{i:Nat}{ds:w8}(h:(Yi Z)[i]?=O (O (.own ds))):False:=by
 unfold Yi at h;rw[Qh]at h;cases e:Z[i]? with
 |none=>rw[e]at h;cases h
 |some o=>
  rw[e]at h;cases o with
  |none=>cases h
  |some sl=>cases sl with
   |pub d'=>cases h
   |own ds=>cases h
   |deep p d'=>cases h
theorem xV{Z:UI}{i:Nat}{p:Pat}{d:D}(h:(Yi Z)[i]?=O (O (.deep p d))):False:=by
 unfold Yi at h;rw[Qh]at h;cases e:Z[i]? with
 |none=>rw[e]at h;cases h
 |some o=>
  rw[e]at h;cases o with
  |none=>cases h
  |some sl=>cases sl<;>cases h
noncomputable def flat:D->Bool
 |.none=>w5 | .bool _=>w5 | .int _=>w5 | .str _=>w5|_=>w6
theorem Rep.flat{K:Frag}{G G':Hp}{v:V}{d:D}(r:Rep K G v d)(h:DL.flat d=w5):Rep K G' v d:=by
 cases r with
 |non=>exact .non
 |bl b=>exact .bl b
 |int i=>exact .int i
 |str x=>exact .str x
 |lst _ _=>cases h
 |tup _ _=>cases h
 |dic _=>cases h
 |exc _ _ _ _=>cases h
 |dct _ _ _ _ _=>cases h
 |dtt _ _ _ _=>cases h
theorem Reps.flat{K:Frag}{G G':Hp}:∀{vs:List V}{ds:w8},Reps K G vs ds->ds.all DL.flat=w5->Reps K G' vs ds
 |_,_,.nil,_=>.nil
 |_,_,.cons r t,h=>by rw[Jh,QL]at h;exact .cons (r.flat h.1) (Reps.flat t h.2)
theorem EOk.lend{K:Frag}{B G0 G H:Hp}{σ:St}{Z:UI}{D:Uh}{o:HO}(k:EOk K B G0 G H σ Z)(hD:H D=w4)(n:Nat):EOk K (upd H D o) H H (upd H D o) (σ++Uq n w4) (Yi Z++Uq n w4) where
 bh:=.refl _
 gh:=Zl hD
 g0:=.refl _
 np:=λ_ _ _ n=>n
 len:=by unfold Yi;rw[Qi,Qi,Qb,k.len,Qu,Qu]
 pub:=λi d q=>by
  have hl:(Yi Z).length=Z.length:=by unfold Yi;rw[Qb]
  by_cases hi:i<(Yi Z).length
  .rw[Qs hi]at q
   rw[Qs (by rw[←k.len,←hl];exact hi)];rcases j8 q with e|⟨ds,rfl,e⟩|⟨p,e⟩
   .obtain⟨v,h1,h2⟩:=k.pub i d e
    exact⟨v,h1,h2.mono k.gh⟩
   .obtain⟨a,vs,h1,h2,h3,h4,h5⟩:=k.own i ds e
    exact⟨.ref a,h1,.lst (SqL.of h4) (h5.mono k.gh)⟩
   .obtain⟨ω,k1,k2⟩:=k.dp
    obtain⟨v,fp,s,r,_⟩:=k1 i p d e;exact⟨v,s,r.rep k.gh⟩
  .rw[Qt (Q6 hi),QA]at q
   split at q<;>cases q
 own:=λi ds q=>by
  by_cases hi:i<(Yi Z).length
  .rw[Qs hi]at q
   exact(Ng q).elim
  .rw[Qt (Q6 hi),QA]at q
   split at q<;>cases q
 sep:=λi j a ds es q=>by
  by_cases hi:i<(Yi Z).length
  .rw[Qs hi]at q
   exact(Ng q).elim
  .rw[Qt (Q6 hi),QA]at q
   split at q<;>cases q
 dp:=by
  refine .of (λi p d q=>?_) λi ds q=>?_
  .by_cases hi:i<(Yi Z).length
   .rw[Qs hi]at q;exact xV q
   .rw[Qt (Q6 hi),QA]at q;split at q<;>cases q
  .by_cases hi:i<(Yi Z).length
   .rw[Qs hi]at q;exact Ng q
   .rw[Qt (Q6 hi),QA]at q;split at q<;>cases q
noncomputable def Ry(f:M w8)(k:Nat)(s:D->UI->ye)(t:M Bool)(g:M D):M w8:=λZ=>match f Z with
 |.bad=>.bad
 |.ok ds Z1=>match KW s t g ds (Yi Z1++Uq k w4) []with
  |none=>.bad
  |some es=>if es.all flat=w5 then .ok es Z1 else .bad
end
noncomputable def YC(s:D->UI->ye)(t:M Bool)(g:M D):w8->UI->w8->Option (w8×UI)
 |[],Z,es=>O (es,Z)
 |d::r,Z,es=>match s d Z with
  |none=>w4
  |some Z1=>match t Z1 with
   |.bad=>w4
   |.ok b Z2=>if b=w5 then(match g Z2 with
     |.bad=>w4
     |.ok e Z3=>if es.length<1000000 then YC s t g r (Kf Z3) (es++[e])else w4)
    else YC s t g r (Kf Z2) es
noncomputable def XU(s0:D->UI->ye)(t0:M Bool)(f1:M w8)(s1:D->UI->ye)(t1:M Bool)(g:M D):w8->UI->w8->Option w8
 |[],_,es=>O es
 |d::r,Z,es=>match s0 d Z with
  |none=>w4
  |some Z1=>match t0 Z1 with
   |.bad=>w4
   |.ok b Z2=>if b=w5 then(match f1 Z2 with
     |.bad=>w4
     |.ok ds Z3=>match YC s1 t1 g ds (Kf Z3) es with
      |none=>w4
      |some (es',Z4)=>XU s0 t0 f1 s1 t1 g r Z4 es')
    else XU s0 t0 f1 s1 t1 g r (Kf Z2) es
noncomputable def V5(f:M w8)(k:Nat)(s:D->UI->ye)(t:M Bool)(f1:M w8)(zG:D->UI->ye)(t1':M Bool)(g:M D):M w8:=λZ=>match f Z with
 |.bad=>.bad
 |.ok ds Z1=>match XU s t f1 zG t1' g ds (Kf Z1++Uq k w4) []with
  |none=>.bad
  |some es=>.ok es Z1
noncomputable def Xj(s0:D->UI->ye)(t0:M Bool)(f1:M w8)(Rd:w8->UI->w8->Option (w8×UI)):w8->UI->w8->Option (w8×UI)
 |[],Z,es=>O (es,Z)
 |d::r,Z,es=>match s0 d Z with
  |none=>w4
  |some Z1=>match t0 Z1 with
   |.bad=>w4
   |.ok b Z2=>if b=w5 then(match f1 Z2 with
     |.bad=>w4
     |.ok ds Z3=>match Rd ds (Kf Z3) es with
      |none=>w4
      |some (es',Z4)=>Xj s0 t0 f1 Rd r Z4 es')
    else Xj s0 t0 f1 Rd r (Kf Z2) es
noncomputable def Tp(Rd:w8->UI->w8->Option (w8×UI))(ds:w8)(Z:UI)(es:w8):Option w8:=(Rd ds Z es).map (·.1)
noncomputable def Rx(f:M w8)(k:Nat)(s:D->UI->ye)(t:M Bool)(f1:M w8)(zG:D->UI->ye)(t1':M Bool)(fx2:M w8)(s2':D->UI->ye)(t2':M Bool)(g:M D):M w8:=λZ=>match f Z with
 |.bad=>.bad
 |.ok ds Z1=>match Tp (Xj s t f1 (Xj zG t1' fx2 (YC s2' t2' g))) ds (Kf Z1++Uq k w4) []with
  |none=>.bad
  |some es=>.ok es Z1
abbrev RdB:=UI->w8->Option (w8×UI)
noncomputable def rL(g:M D):RdB:=λZ es=>match g Z with
 |.bad=>w4
 |.ok e Z3=>if es.length<1000000 then O (es++[e],Kf Z3)else w4
noncomputable def cT(s:D->UI->ye)(t:M Bool)(rd:RdB):w8->UI->w8->Option (w8×UI)
 |[],Z,es=>O (es,Z)
 |d::r,Z,es=>match s d Z with
  |none=>w4
  |some Z1=>match t Z1 with
   |.bad=>w4
   |.ok b Z2=>if b=w5 then(match rd Z2 es with
     |none=>w4
     |some (es',Z')=>cT s t rd r Z' es')
    else cT s t rd r (Kf Z2) es
noncomputable def rN(f:M w8)(s:D->UI->ye)(t:M Bool)(rd:RdB):RdB:=λZ es=>match f Z with
 |.bad=>w4
 |.ok ds Z3=>cT s t rd ds (Kf Z3) es
structure Left(Y:Cx)(D':Uh)(pins:List (Uh×Obj))(H G:Hp)(es':w8)(Z':UI)(σ':St)(H' G':Hp)(vs':List V)(s':Uf):Prop where
 inv:Inv Y pins σ' H' s'
 eok:EOk Y.K H' G' G' H' σ' Z'
 hh:∀a o,a≠D'->H a=O o->H' a=O o
 gg:Same G G'
 np:∀a(u:MO),a≠D'->H a=O u.ho->G a=w4->G' a=w4
 hd:H' D'=O (.lst vs')
 gd:G' D'=w4
 rp:Reps Y.K G' vs' es'
def Rb(Y:Cx)(D':Uh)(W:(Uf->Prop)->Uf->Prop)(rd:RdB):Prop:=
 ∀(pins:List (Uh×Obj))(sh:Uf)(σ:St)(B1 G1 H G:Hp)(Z Z':UI)(vs:List V)(es es':w8)(Q:Uf->Prop),
  Inv Y pins σ H sh->EOk Y.K B1 G1 G H σ Z->B1 D'=O (.lst vs)->G1 D'=w4->Reps Y.K G1 vs es->rd Z es=O (es',Z') ->
  (∀σ' H' G' vs' s',Left Y D' pins B1 G1 es' Z' σ' H' G' vs' s'->Q s')->W Q sh
section
variable{Y:Cx}{D':Uh}
theorem j7{elt:Uj}{g:M D}(hx:Y.xe=nox)(he:∀B1 G1,PE Y elt (tD Y.K B1 G1 g)) :
  Rb Y D' (λQ s=>Ul (model Y.prog Y.w) Y.A (eval elt Y.env) (λx s₄=>Ul (model Y.prog Y.w) Y.A (call (.builtin "list.append") [.ref D',x]) (λ_ s₅=>Q s₅) nox s₄) nox s) (rL g):=by
 intro pins sh σ B1 G1 H G Z Z' vs es es' Q I k hD gD r z fin;unfold rL at z;cases zg:g Z with
 |bad=>rw[zg]at z;cases z
 |ok e Z4=>
 rw[zg]at z;dsimp only at z;split at z
 .rename_i hle
  cases z;have h:=he B1 G1 pins sh σ H (λv H8=>∃G8,EOk Y.K B1 G1 G8 H8 σ Z4/\Rep Y.K G8 v e) I ⟨G,Z,k,by unfold aft;rw[zg];exact λv G8 H8 k8 _ q=>⟨G8,k8,q⟩⟩;rw[hx]at h;refine thn h λev s8 ⟨v,H8,I8,rv,G8,k8,r8⟩=>?_;have h2:=O9 pins s8 σ H8 (.ref D') [v] (.ref D') [ev] (λ_ H9=>H9=upd H8 D' (.lst (vs++[v]))) I8 wZ (.cons rv .nil) ⟨D',vs,v,rfl,rfl,k8.bh _ _ hD,by have:=lim1;rw[r.length];omega,rfl⟩
  rw[hx]at h2;refine thn h2 λ_ s9 ⟨_,H9,I9,_,e9⟩=>?_;subst e9;have g8:=k8.np _ (.l _) hD gD;exact fin σ _ G8 _ s9 ⟨I9,k8.beside g8,λa o z q=>by rw[Kk z];exact k8.bh a o q,k8.g0,λa o _ q w=>k8.np a o q w,KG,g8,(r.mono k8.g0).append (.cons r8 .nil)⟩
 .cases z
theorem LW{tg:Uj}{ifs:yd}{code:Code}{W:(Uf->Prop)->Uf->Prop}{s:D->UI->ye}{t:M Bool}{rd:RdB}{it:Uh}(hx:Y.xe=nox)(hc:Y.calm=w5)(rule:RF Y.prog Y.w Y.A tg ifs Y.env (.ref it) code W)
  (hg:∀B1 G1,PG Y tg (tG Y.K B1 G1 s)) (ht:∀B1 G1,Xa Y ifs (tBo Y.K B1 G1 t)) (hb:Rb Y D' W rd)
  {pins:List (Uh×Obj)} {sh:Uf} {σ:St} {H G:Hp} {Z ZF:UI} {fp:yf} {tn:Nat->Heap->Prop} {J:It} {ds es esF:w8} {vs:List V} {R:Result->Uf->Prop}
  (I:Inv Y pins σ H sh) (T:Turn Y.prog Y.w Y.K tg J fp it tn) (st:tn 0 sh.heap) (hf:∀b∈fp,Zz Y pins H b)
  (k:EOk Y.K H G G H σ Z) (its:XQ Y.K J ds G) (hD:H D'=O (.lst vs)) (gD:G D'=w4) (r:Reps Y.K G vs es) (zl:cT s t rd ds Z es=O (esF,ZF))
  (z7:∀σ' H' G' vs' s',Left Y D' pins H G esF ZF σ' H' G' vs' s'->R (.ok .next) s'):codeAny (model Y.prog Y.w) Y.A code R sh:=by
 have stat:∀{H':Hp},(∀b∈fp,H' b=w4)->∀b∈fp,Zz Y pins H' b:=λhn b hb=>⟨hn b hb,(hf b hb).2⟩
 refine rule R (λn s'=>∃i σ' H' G' Z' vs' es',n=ds.length-i/\tn i s'.heap/\(∀b∈fp,H' b=w4)/\Left Y D' pins H G es' Z' σ' H' G' vs' s'/\cT s t rd (ds.drop i) Z' es'=O (esF,ZF)) ds.length sh
  ⟨0,σ,H,G,Z,vs,es,rfl,st,λb hb=>(hf b hb).1,⟨I,k,λ_ _ _ q=>q,.refl _,λ_ _ _ _ n=>n,hD,gD,r⟩,by rw[List.drop_zero];exact zl⟩ ?_
 rintro n s' ⟨i,σ',H',G',Z',vs',es',rfl,tn',fr',⟨I',k',ak,ae,np',yP,gD',r'⟩,zc⟩;by_cases hlt:i<ds.length
 .rw[JG hlt,cT]at zc
  cases zs:s ds[i] Z' with
  |none=>rw[zs]at zc;cases zc
  |some Z2=>
  rw[zs]at zc;dsimp only at zc;cases zt:t Z2 with
  |bad=>rw[zt]at zc;cases zc
  |ok b Z3=>
  rw[zt]at zc;dsimp only at zc;refine thn (T.item Y wZ wZ wZ hc i pins s' σ' H' nox I' (stat fr') tn' (its.go i G' H' ae k'.gh hlt)) λrr s4 ⟨u,hr,h4⟩=>?_;subst hr;refine thn h4 λ_ s5 ⟨x,H5,I5,r5,y5,zk,fr5⟩=>?_
  obtain⟨G5,e5,rx⟩:=its.yld i G' H' x H5 ds[i] ae k'.gh (Qg hlt) y5;have h6:=hg H' G' _ s5 σ' H5 x u (λσ6 H6=>∃G6,EOk Y.K H' G' G6 H6 σ6 Z2) (I5.pinned (stat fr5) (T.obj _ _ zk)) r5 ⟨G5,Z',ds[i],Z2,k'.ext e5,rx,zs,λσ6 G6 H6 k6 _=>⟨G6,k6⟩⟩;rw[hx]at h6;refine thn h6 λ_ s6 ⟨σ6,H6,I6,G6,k6⟩=>?_;have h7:=ht H' G' _ s6 σ6 H6 (λc H7=>c=b/\∃G7,EOk Y.K H' G' G7 H7 σ6 Z3) I6 ⟨G6,Z2,k6,by unfold aft;rw[zt];exact λc G7 H7 k7 _ q=>⟨q,G7,k7⟩⟩
  rw[hx]at h7;refine thn h7 λok s7 ⟨H7,I7,hb7,G7,k7⟩=>?_;subst hb7
  have again:∀{H9:Hp}{σ9:St}{s9:Uf},Inv Y (pins++Ru fp s5.heap) σ9 H9 s9->Inv Y pins σ9 H9 s9/\tn (i+1) s9.heap/\∀b∈fp,H9 b=w4:=λ{H9 σ9 s9} I9=>by refine⟨I9.unpinned,T.keep _ _ _ zk λb hb o e=>(I9.pin (b,o) (QQ _ (QQ _ (PY hb e)))).1,λb hb=>?_⟩;obtain⟨o,e,d⟩:=T.obj _ _ zk b hb;exact(I9.pin (b,o) (QQ _ (QQ _ (PY hb e)))).2.1
  have lt:ds.length-(i+1)<ds.length-i:=Nat.sub_lt_sub_left hlt (Nat.lt_succ_self i);cases ok with
  |false=>rw[Qw (by decide)]at zc⊢;obtain⟨J1,J2,J3⟩:=again I7;exact⟨_,lt,i+1,σ6,H7,G7,Kf Z3,vs',es',rfl,J2,J3,⟨J1,k7.rebase,λa o z q=>k7.bh a o (ak a o z q),ae.trans k7.g0,λa o z q w=>k7.np a o (ak a _ z q) (np' a o z q w),k7.bh _ _ yP,k7.np _ (.l _) yP gD',r'.mono k7.g0⟩,zc⟩
  |true=>
   rw[Qm wZ]at zc⊢;cases ze:rd Z3 es' with
   |none=>rw[ze]at zc;cases zc
   |some pr=>
   obtain⟨es1,Z5⟩:=pr;rw[ze]at zc;refine hb _ s7 σ6 H' G' H7 G7 Z3 Z5 vs' es' es1 _ I7 k7 yP gD' r' ze λσ9 H9 G9 vs9 s9 L=>?_
   obtain⟨J1,J2,J3⟩:=again L.inv;exact⟨_,lt,i+1,σ9,H9,G9,Z5,vs9,es1,rfl,J2,J3,⟨J1,L.eok,λa o z q=>L.hh a o z (ak a o z q),ae.trans L.gg,λa o z q w=>L.np a o z (ak a _ z q) (np' a o z q w),L.hd,L.gd,L.rp⟩,zc⟩
 .rw[List.drop_eq_nil_of_le (Q6 hlt),cT]at zc
  cases zc;refine thn (T.done Y wZ wZ wZ hc i pins s' σ' H' nox I' (stat fr') tn' (its.stop i G' H' ae k'.gh (Q6 hlt))) λrr s4 ⟨hr,I6⟩=>?_
  subst hr;exact z7 σ' H' G' vs' s4 ⟨I6,k',ak,ae,np',yP,gD',r'⟩
theorem j6{elt zh i1:Uj}{ifs1:yd}{gens:List Comprehension}{scope:Scope}{pos:Pos}{j:Nat}{W:Ue->(Uf->Prop)->Uf->Prop}{f:M w8}{s:D->UI->ye}{t:M Bool}{rd:RdB}(hx:Y.xe=nox)(hc:Y.calm=w5)
  (hn:gens[j+1]?=O ⟨zh,i1,ifs1,0⟩) (rule:∀yI,RF Y.prog Y.w Y.A zh ifs1 Y.env yI (.compLoop (.ListComp elt gens scope pos) (j+1) yI (.ref D') Y.env) (W yI))
  (hi:∀B1 G1,PI Y zh i1 (iD Y.K B1 G1 f)) (hg:∀B1 G1,PG Y zh (tG Y.K B1 G1 s)) (ht:∀B1 G1,Xa Y ifs1 (tBo Y.K B1 G1 t)) (hb:∀yI,Rb Y D' (W yI) rd) :
  Rb Y D' (λQ s=>Ul (model Y.prog Y.w) Y.A (eval i1 Y.env) (λx s₄=>Ul (model Y.prog Y.w) Y.A (pyIter x) (λyI s₅=>codeAny (model Y.prog Y.w) Y.A (.compStart (.ListComp elt gens scope pos) (j+1) yI (.ref D') Y.env)
   (λr s₆=>match r with | .ok _=>Q s₆ | .error _=>False) s₅) nox s₄) nox s) (rN f s t rd):=by
 intro pins sh σ B1 G1 H G Z Z' vs es es' Q I k hD gD r z fin;unfold rN at z;cases zf:f Z with
 |bad=>rw[zf]at z;cases z
 |ok ds Z3=>
 rw[zf]at z;have h:=hi B1 G1 pins sh σ H (λJ1 H8=>∃G8,EOk Y.K B1 G1 G8 H8 σ Z3/\XQ Y.K J1 ds G8) I ⟨G,Z,k,by rw[zf];exact λJ1 G8 H8 k8 _ q=>⟨G8,k8,q⟩⟩;rw[hx]at h;refine thn h λxv s8 h8=>thn h8 λitv s9 h9=>?_
 obtain⟨yI,fp1,tn1,J1,H9,rfl,I9,T1,st9,f9,G9,k9,its9⟩:=h9
 have loop:codeAny (model Y.prog Y.w) Y.A (.compLoop (.ListComp elt gens scope pos) (j+1) (.ref yI) (.ref D') Y.env) (λr s₆=>match r with | .ok _=>Q s₆ | .error _=>False) s9:=
  LW hx hc (rule (.ref yI)) hg ht (hb _) I9 T1 st9 f9 k9.rebase its9 (k9.bh _ _ hD) (k9.np _ (.l _) hD gD) (r.mono k9.g0) z λσ' H' G' vs' s' L=>
   fin σ' H' G' vs' s' ⟨L.inv,L.eok,λa o z q=>L.hh a o z (k9.bh a o q),k9.g0.trans L.gg,λa o z q w=>L.np a o z (k9.bh a _ q) (k9.np a o q w),L.hd,L.gd,L.rp⟩
 exact wy hn loop (T1.self Y.A 0 _ _ _ st9 loop)
end
def Ra(Y:Cx)(e:Uj)(j:Nat)(tg:Uj)(ifs:yd)(rd:RdB):Prop:=
 ∀(D':Uh)(it:Ue),∃W,RF Y.prog Y.w Y.A tg ifs Y.env it (.compLoop e j it (.ref D') Y.env) W/\Rb Y D' W rd
section
variable{Y:Cx}{elt tg i:Uj}{ifs:yd}{gens:List Comprehension}{scope:Scope}{pos:Pos}{j:Nat}
theorem j4{g:M D}(hx:Y.xe=nox)(hg:gens[j]?=O ⟨tg,i,ifs,0⟩)(hn:gens[j+1]?=w4)(he:∀B1 G1,PE Y elt (tD Y.K B1 G1 g)):Ra Y (.ListComp elt gens scope pos) j tg ifs (rL g):=
 λ_ _=>⟨_,ke hg hn,j7 hx he⟩
theorem jZ{zh i1:Uj}{ifs1:yd}{f:M w8}{s:D->UI->ye}{t:M Bool}{rd:RdB}(hx:Y.xe=nox)(hc:Y.calm=w5)(hg:gens[j]?=O ⟨tg,i,ifs,0⟩)(hn:gens[j+1]?=O ⟨zh,i1,ifs1,0⟩)(hs:∀x,UD i1 Y.env x=pure x)
  (hi:∀B1 G1,PI Y zh i1 (iD Y.K B1 G1 f)) (hgt:∀B1 G1,PG Y zh (tG Y.K B1 G1 s)) (ht:∀B1 G1,Xa Y ifs1 (tBo Y.K B1 G1 t)) (hb:Ra Y (.ListComp elt gens scope pos) (j+1) zh ifs1 rd):Ra Y (.ListComp elt gens scope pos) j tg ifs (rN f s t rd):=
 λD' _=>⟨_,ka hg hn hs,j6 hx hc hn (λyI=>(Classical.choose_spec (hb D' yI)).1) hi hgt ht (λyI=>(Classical.choose_spec (hb D' yI)).2)⟩
end
noncomputable def Yq(l:Bool)(Z:UI):UI:=match l with|true=>Yi Z|false=>Kf Z
theorem entry{K:Frag}{B G0 G1 H2:Hp}{σ:St}{Z1:UI}{D:Uh}(l:Bool)(k1:EOk K B G0 G1 H2 σ Z1)(hfr:H2 D=w4)(n:Nat) :
  ∃Gb,EOk K (upd H2 D (.lst [])) Gb Gb (upd H2 D (.lst [])) (σ++Uq n w4) (Yq l Z1++Uq n w4)/\Same G1 Gb/\Gb D=w4 /\
   ∀(G' H':Hp) vs es,(l=w5->es.all flat=w5)->Same Gb G'->Same H2 H'->Same G' H'->(∀a(u:MO),H2 a=O u.ho->Gb a=w4->G' a=w4)->G' D=w4->Reps K G' vs es->∃Gf,Ext G1 H2 Gf H'/\Gf D=w4/\Reps K Gf vs es:=by
 have gD:G1 D=w4:=k1.gh.free hfr;cases l with
 |false=>exact⟨G1,(k1.beside gD).more n,.refl _,gD,λG' H' vs es _ g h gh np d r=>⟨G',⟨h,g,gh,np⟩,d,r⟩⟩
 |true=>exact⟨H2,k1.lend hfr n,k1.gh,hfr,λG' H' vs es fl _ h _ _ _ r=>⟨G1,⟨h,.refl _,k1.gh.trans h,λ_ _ _ n=>n⟩,gD,r.flat (fl wZ)⟩⟩
noncomputable def dCG(l:Bool)(f:M w8)(k:Nat)(s:D->UI->ye)(t:M Bool)(rd:RdB):M w8:=λZ=>match f Z with
 |.bad=>.bad
 |.ok ds Z1=>match cT s t rd ds (Yq l Z1++Uq k w4) []with
  |none=>.bad
  |some (es,_)=>if l=w5->es.all flat=w5 then .ok es Z1 else .bad
theorem MV{l:Bool}{f:M w8}{k:Nat}{s:D->UI->ye}{t:M Bool}{rd:RdB}{Z Z':UI}{es:w8}(h:dCG l f k s t rd Z=.ok es Z'):∃ds ZF,f Z=.ok ds Z'/\cT s t rd ds (Yq l Z'++Uq k w4) []=O (es,ZF)/\(l=w5->es.all flat=w5):=by
 unfold dCG at h;cases zf:f Z with
 |bad=>rw[zf]at h;cases h
 |ok ds Z1=>
 rw[zf]at h;dsimp only at h;cases zl:cT s t rd ds (Yq l Z1++Uq k w4) []with
 |none=>rw[zl]at h;cases h
 |some pr=>
 obtain⟨esF,ZF⟩:=pr;rw[zl]at h;dsimp only at h;split at h
 .rename_i hf
  cases h;exact⟨ds,ZF,rfl,zl,hf⟩
 .cases h
section
variable{X:Cx}{B G0:Hp}{KX:XW}
def YS(X:Cx)(N2:List Str)(scope:Scope)(e tg:Uj)(ifs:yd)(s:D->UI->ye)(t:M Bool)(rd:RdB):Prop:=
 ∀(cl:List (Str×Uh))(C:Uh)(s₀:Uf)(H₀:Hp)(ex:yf),(∀B' G',PG (X.blk N2 scope cl C s₀ H₀ ex) tg (tG X.K B' G' s))/\(∀B' G',Xa (X.blk N2 scope cl C s₀ H₀ ex) ifs (tBo X.K B' G' t))/\Ra (X.blk N2 scope cl C s₀ H₀ ex) e 0 tg ifs rd
structure SZ(SC scope:Scope)(N1 N2:List Str)(k:Nat):Prop where
 b:RH scope.names N1 N2 k=w5
 kind:scope.kind=.function
 cell:∀y∈scope.names,y.2≠.cell
 names:∀y∈scope.names,y.2=.local->scope.names.lookup y.1=O .local
 free:∀y∈scope.names,y.2=.free->SC.names.lookup y.1=O .cell∨SC.names.lookup y.1=O .free
theorem LV{l:Bool}{tg elt iter:Uj}{ifs:yd}{gs:List Comprehension}{scope:Scope}{pos pos':Pos}{N2:List Str}{k:Nat}{f:M w8}{s:D->UI->ye}{t:M Bool}{rd:RdB}{use:Option (Ue->Sem Unit)}{Qc:Ue->Uf->Prop}(hc:X.calm=w5)
  (hi:PI X tg iter (iD X.K B G0 f)) (yB:YS X N2 scope (.ListComp elt (⟨tg,iter,ifs,0⟩::gs) scope pos) tg ifs s t rd) (hb:SZ X.env.scope scope X.N N2 k) (hs:∀x,UD iter X.env x=pure x)
  {pins:List (Uh×Obj)} {s0:Uf} {σ:St} {G H:Hp} {Z Z1 ZF:UI} {ds esF:w8} (I:Inv X pins σ H s0) (k0:EOk X.K B G0 G H σ Z) (zf:f Z=.ok ds Z1) (zl:cT s t rd ds (Yq l Z1++Uq k w4) []=O (esF,ZF)) (hfl:l=w5->esF.all flat=w5)
  (z7:∀(C D:Uh)(vs:List V)(G' H':Hp)(s4:Uf)(m:Str->yc),Inv X pins σ H' s4->s4.heap.Ns C m->H' C=w4->C≠X.env.locals->X.s₀.heap.objs.size<=C->(∀x c,X.env.cells.lookup x=O c->c≠C)->(∀p∈X.pn++pins,p.1≠C) ->
   EOk X.K B G0 G' H' σ Z1->Same G G'->NewL X.K B G' H' σ Z1 D vs esF->compPost (model X.prog X.w) X.A X.xe use Qc (.ref D) C (.ok .next) s4) :
  Ul (model X.prog X.w) X.A (comprehension (.ListComp elt (⟨tg,iter,ifs,0⟩::gs) scope pos) scope X.env pos' (newList []) w6 (eval iter X.env) use) Qc X.xe s0:=by
 obtain⟨cl,hcl,zP,cl2⟩:=xW (scope:=scope) (env:=X.env) λy hy hf=>I.ok.has y.1 (hb.free y hy hf)
 refine wpAny_comprehension_free (use:=use) wZ hs hcl hb.kind hb.names (thn (hi pins s0 σ H (λJ H1=>∃G1,EOk X.K B G0 G1 H1 σ Z1/\Same G G1/\XQ X.K J ds G1) I ⟨G,Z,k0,by rw[zf];exact λJ G1 H1 k1 s1 it=>⟨G1,k1,s1,it⟩⟩) λv s1 h1=>thn h1 λitv s2 h2=>?_);obtain⟨it,fp,tn,J,H2,rfl,I2,T,st2,f2,G1,k1,sg1,its⟩:=h2;refine wpAny_newObj_type (wpAny_newFunctionEnv hb.cell (by intro y hy;simp at hy) (λh₁ hns₁ hsb₁=>?_) hb.kind);dsimp only at hns₁ hsb₁⊢;have hfr:H2 s2.heap.objs.size=w4:=I2.hok.fresh (Qq _)
 have I3:Inv X pins σ (upd H2 s2.heap.objs.size (.lst [])) {s2 with heap:=s2.heap.push {cls:=.type "list", dict:=w4,data:=.seq ([]:ya).toArray}}:=
  I2.laid (t':=s2.toks) (λb u e=>Qe _ e) (Qq _) ⟨J0 _,[],0,.nil,QD _ wZ⟩
 generalize hP:s2.heap.push {cls:=.type "list", dict:=w4,data:=.seq ([]:ya).toArray}=P at I3 hns₁ hsb₁⊢;have old:∀b o,s2.heap.get? b=O o->P.get? b=O o:=λb o e=>hP ▸ Qe _ e;have kept:∀b o,P.get? b=O o->h₁.get? b=O o:=λb o e=>hsb₁.extBut b o (QM (Qf e)) (Qe _ e);have fpo:∀b∈fp,∃o,s2.heap.get? b=O o:=λb hb=>let ⟨o,e,_⟩:=T.obj _ _ st2 b hb;⟨o,e⟩
 have fpD:∀b∈fp,b≠s2.heap.objs.size:=λb hb=>let ⟨o,e⟩:=fpo b hb;QM (Qf e)
 have f3:∀b∈fp,Zz X pins (upd H2 s2.heap.objs.size (.lst [])) b:=λb hb=>⟨by rw[Kk (fpD b hb)];exact(f2 b hb).1,(f2 b hb).2⟩
 have I4:=I3.enter (scope:=scope) (cl:=cl) (N2:=N2) (k:=k) (fp:=fp) (t':=s2.toks+([]:List (Str×Ue)).length) hb.b hb.kind hb.cell hb.free zP cl2 hns₁ kept f3 (λb hb=>let ⟨o,e⟩:=fpo b hb;⟨o,old b o e⟩);dsimp only at I4;obtain⟨Gb,kb,sgb,gbD,ex⟩:=entry l k1 hfr k;have sH:Same H2 (upd H2 s2.heap.objs.size (.lst [])):=Zl hfr;have hD3:upd H2 s2.heap.objs.size (.lst []) s2.heap.objs.size=O (.lst []):=KG;generalize upd H2 s2.heap.objs.size (.lst [])=H3 at I3 I4 f3 kb sH hD3;generalize s2.heap.objs.size=D at *;have tn0:tn 0 h₁:=T.keep 0 _ _ st2 λb hb o e=>kept b o (old b o e)
 have stat:∀b∈fp,Zz (X.blk N2 scope cl P.objs.size {s2 with heap:=P} H3 fp) pins H3 b:=λb hb=>by
  obtain⟨z0,z1,z2,z3,z4,z5⟩:=f3 b hb;obtain⟨o,e⟩:=fpo b hb;refine⟨z0,QM (Qf (old b o e)),λz=>?_,.inl hb,λx c q=>z4 x c (zP x c q),z5⟩;rcases Qx.mp (I3.stkSub b z)with q|q
  .exact z1 q
  .exact z2 q
 have neD:∀a o,H2 a=O o->a≠D:=λa o q z=>by subst z;rw[hfr]at q;cases q
 obtain⟨hg,ht,hcl'⟩:=yB cl P.objs.size {s2 with heap:=P} H3 fp;obtain⟨W,rule,body⟩:=hcl' D (.ref it)
 have loop:=LW (Y:=X.blk N2 scope cl P.objs.size {s2 with heap:=P} H3 fp) (D':=D) (R:=compPost (model X.prog X.w) X.A X.xe use Qc (.ref D) P.objs.size) wZ hc rule hg ht body I4 T tn0 stat kb
  ⟨λi G H s1 s2 hi=>its.go i G H (sgb.trans s1) s2 hi,λi G H s1 s2 hi=>its.stop i G H (sgb.trans s1) s2 hi,λi G H x H' d s1 s2 e y=>its.yld i G H x H' d (sgb.trans s1) s2 e y⟩ hD3 gbD .nil zl λσ' H' G' vs' s4 L=>by
   obtain⟨m,hm,_⟩:=id L.inv.loc;have I7:Inv X pins σ H' s4:=I3.call' (ch:=fp) L.inv.os L.inv.base L.inv.hok L.inv.bare λb hb=>⟨(f3 b hb).2.2.2.1,(f3 b hb).2.1,(f3 b hb).2.2.2.2.1,(f3 b hb).2.2.2.2.2⟩
   obtain⟨Gf,eF,dF,rF⟩:=ex G' H' vs' esF hfl L.gg (λa o q=>L.hh a o (neD a o q) (sH a o q)) L.eok.gh (λa o q z=>L.np a o (neD a _ q) (sH a _ q) z) L.gd L.rp
   refine z7 P.objs.size D vs' Gf H' s4 m I7 hm L.inv.free (JK I3.lt) I3.sz (λx c e z=>by obtain⟨_,q⟩:=I3.cell x c e;exact absurd q.lt (by rw[z];exact Jy _)) (λp hp z=>by have:=Qf (I3.pin p hp).1;exact absurd this (by rw[z];exact Jy _))
    (k1.ext eF) (sg1.trans eF.g) ⟨k1.bh.free hfr,dF,L.hd,rF,λj es' q z=>?_,λj pt d v fp q s r=>k1.freshD eF.h hfr q s r⟩
   obtain⟨a',ws,h1',h2',h3',h4',h5'⟩:=k1.own j es' q;rw[z]at h1';cases h1';rw[hfr]at h4';cases h4'
 exact codeAny_compStart_list loop (T.self X.A 0 _ _ _ tn0 loop)
theorem Er{l:Bool}{tg elt iter:Uj}{ifs:yd}{gs:List Comprehension}{scope:Scope}{pos:Pos}{N2:List Str}{k:Nat}{f:M w8}{s:D->UI->ye}{t:M Bool}{rd:RdB}(hc:X.calm=w5)
  (hi:PI X tg iter (iD X.K B G0 f)) (yB:YS X N2 scope (.ListComp elt (⟨tg,iter,ifs,0⟩::gs) scope pos) tg ifs s t rd) (hb:SZ X.env.scope scope X.N N2 k) (hs:∀x,UD iter X.env x=pure x:=by intro _;rfl) :
  PE X (.ListComp elt (⟨tg,iter,ifs,0⟩::gs) scope pos) (tL X.K B G0 (dCG l f k s t rd)):=by
 intro pins s0 σ H Q I ⟨G,Z,k0,a⟩;cases z:dCG l f k s t rd Z with
 |bad=>rw[z]at a;exact a.elim
 |ok es Z1=>
 rw[z]at a;obtain⟨ds,ZF,zf,zl,hfl⟩:=MV z;rw[eval_ListComp];refine LV hc hi yB hb hs I k0 zf zl hfl λC D vs G' H' s4 m I7 hm hC hL hz hcl hp k' s' n=>?_
 exact⟨m,hm,λh' sb=>⟨.ref D,H',I7.turned (t':=s4.toks) (it:=C) (λb o hb e=>(sb.2 b hb).trans e) hC hL (.inr hz) hcl hp,rfl,a D vs G' H' k' s' n⟩⟩
theorem sD_g{l:Bool}{y:Str}{j:Nat}{py:Pos}{spos:Pos}{tg elt iter:Uj}{ifs:yd}{gs:List Comprehension}{scope:Scope}{pos:Pos}{N2:List Str}{k:Nat}{f:M w8}{s:D->UI->ye}{t:M Bool}{rd:RdB}(hN:X.N.Nodup)(hj:X.N[j]?=O y)(hy:X.env.scope.names.lookup y=O .local)(hc:X.calm=w5)
  (hi:PI X tg iter (iD X.K B G0 f)) (yB:YS X N2 scope (.ListComp elt (⟨tg,iter,ifs,0⟩::gs) scope pos) tg ifs s t rd) (hb:SZ X.env.scope scope X.N N2 k) (hs:∀x,UD iter X.env x=pure x:=by intro _;rfl)
  (hsw:swapsWith (.ListComp elt (⟨tg,iter,ifs,0⟩::gs) scope pos) (O (.Name y py)) spos.line X.env=pure w5:=by rfl) :
  PS X (.Assign [.Name y py] (.ListComp elt (⟨tg,iter,ifs,0⟩::gs) scope pos) spos) (tS X.K B G0 KX (K2 j (dCG l f k s t rd))):=by
 intro pins s0 σ H Dn I ⟨G,Z,k0,a⟩;unfold K2 sB at a;cases z:dCG l f k s t rd Z with
 |bad=>rw[z]at a;exact a.elim
 |ok es Z1=>
 rw[z]at a;dsimp only at a;by_cases hl:j<Z1.length
 .rw[Qm hl]at a
  obtain⟨ds,ZF,zf,zl,hfl⟩:=MV z;rw[exec_Assign_Name_used _ _ _ _ hsw];refine Qd (Ji (Qd ?_));show Ul _ X.A (do let _ ←comprehension (.ListComp elt (⟨tg,iter,ifs,0⟩::gs) scope pos) scope X.env _ (newList []) w6 (eval iter X.env) (O (assign (.Name y py) X.env))) _ _ s0;refine Qd (QI (LV (use:=O (assign (.Name y py) X.env)) (Qc:=λ_ s'=>SP X pins Dn .next s') hc hi yB hb hs I k0 zf zl hfl λC D vs G' H' s4 m I7 hm hC hL hz hcl hp k' s' n=>?_) (λ_ s' hq=>Qj (Qj hq)) λ_ _ e=>e);show Ul _ X.A (assign (.Name y py) X.env (.ref D)) _ _ s4;refine wpAny_assign_Name (He I7 hN hj (.inl hy) (v:=.ref D) wZ (λs5 I8 ⟨ad,sb,hx⟩=>?_) (.inr hy))
  have hCa:C≠ad:=by
   rcases hx with e|e
   .rw[e];exact hL
   .exact Ne.symm (hcl y ad e)
  refine⟨m,hm.sameBut sb hCa,λh' zQ=>⟨_,H',I8.turned (t':=s5.toks) (it:=C) (λb o hb e=>(zQ.2 b hb).trans e) hC hL (.inr hz) hcl hp,?_⟩⟩;exact a _ G' H' (k'.setOwn n hl) s'
 .rw[Qw hl]at a;exact a.elim
theorem E2{K:Frag}{f f':M w8}(h:∀Z es Z',f Z=.ok es Z'->f' Z=.ok es Z'){σ:St}{H:Hp}{Q:VK}(q:tL K B G0 f σ H Q):tL K B G0 f' σ H Q:=by
 obtain⟨G,Z,k,a⟩:=q;refine⟨G,Z,k,?_⟩;cases z:f Z with
 |bad=>rw[z]at a;exact a.elim
 |ok es Z'=>rw[z]at a;rw[h Z es Z' z];exact a
theorem DJ{K:Frag}{f f':M w8}{j:Nat}(h:∀Z es Z',f Z=.ok es Z'->f' Z=.ok es Z'){Dn:_}{σ:St}{H:Hp}(q:tS K B G0 KX (K2 j f) Dn σ H):tS K B G0 KX (K2 j f') Dn σ H:=by
 obtain⟨G,Z,k,a⟩:=q;refine⟨G,Z,k,?_⟩;unfold K2 sB at a⊢;cases z:f Z with
 |bad=>rw[z]at a;exact a.elim
 |ok es Z'=>rw[z]at a;rw[h Z es Z' z];exact a
end
theorem PB{s:D->UI->ye}{t:M Bool}{g:M D}:∀{ds:w8}{Z:UI}{es esF:w8},KW s t g ds Z es=O esF->∃ZF,cT s t (rL g) ds Z es=O (esF,ZF)
 |[],Z,es,esF,h=>by rw[KW]at h;cases h;exact⟨Z,rfl⟩
 |d::r,Z,es,esF,h=>by
  rw[KW]at h;rw[cT];cases zs:s d Z with
  |none=>rw[zs]at h;cases h
  |some Z1=>
  rw[zs]at h;dsimp only at h⊢;cases zt:t Z1 with
  |bad=>rw[zt]at h;cases h
  |ok b Z2=>
  rw[zt]at h;dsimp only at h⊢;cases b with
  |false=>exact PB (ds:=r) h
  |true=>
   rw[Qm wZ]at h⊢;unfold rL;cases zg:g Z2 with
   |bad=>rw[zg]at h;cases h
   |ok e Z3=>
   rw[zg]at h;dsimp only at h⊢;split at h
   .rename_i hl
    rw[Qm hl];exact PB (ds:=r) h
   .cases h
theorem PN{s:D->UI->ye}{t:M Bool}{g:M D}:∀{ds:w8}{Z:UI}{es:w8},YC s t g ds Z es=cT s t (rL g) ds Z es
 |[],Z,es=>rfl
 |d::r,Z,es=>by
  rw[YC,cT];cases s d Z with
  |none=>rfl
  |some Z1=>
  dsimp only;cases t Z1 with
  |bad=>rfl
  |ok b Z2=>
  dsimp only;cases b with
  |false=>exact PN (ds:=r)
  |true=>
   rw[Qm wZ,Qm wZ];unfold rL;cases g Z2 with
   |bad=>rfl
   |ok e Z3=>
   dsimp only;split
   .exact PN (ds:=r)
   .rfl
theorem PM{s s1:D->UI->ye}{t t1:M Bool}{f:M w8}{Rd:w8->UI->w8->Option (w8×UI)}{rd:RdB}(hR:∀ds Z es,Rd ds Z es=cT s1 t1 rd ds Z es) :
  ∀{ds:w8}{Z:UI}{es:w8},Xj s t f Rd ds Z es=cT s t (rN f s1 t1 rd) ds Z es
 |[],Z,es=>rfl
 |d::r,Z,es=>by
  rw[Xj,cT];cases s d Z with
  |none=>rfl
  |some Z1=>
  dsimp only;cases t Z1 with
  |bad=>rfl
  |ok b Z2=>
  dsimp only;cases b with
  |false=>exact PM hR (ds:=r)
  |true=>
   rw[Qm wZ,Qm wZ];unfold rN;cases f Z2 with
   |bad=>rfl
   |ok ds Z3=>
   dsimp only;rw[hR];cases cT s1 t1 rd ds (Kf Z3) es with
   |none=>rfl
   |some pr=>exact PM hR (ds:=r)
theorem Nf{s s1:D->UI->ye}{t t1:M Bool}{f:M w8}{g:M D}:∀{ds:w8}{Z:UI}{es esF:w8},XU s t f s1 t1 g ds Z es=O esF->∃ZF,cT s t (rN f s1 t1 (rL g)) ds Z es=O (esF,ZF)
 |[],Z,es,esF,h=>by rw[XU]at h;cases h;exact⟨Z,rfl⟩
 |d::r,Z,es,esF,h=>by
  rw[XU]at h;rw[cT];cases zs:s d Z with
  |none=>rw[zs]at h;cases h
  |some Z1=>
  rw[zs]at h;dsimp only at h⊢;cases zt:t Z1 with
  |bad=>rw[zt]at h;cases h
  |ok b Z2=>
  rw[zt]at h;dsimp only at h⊢;cases b with
  |false=>exact Nf (ds:=r) h
  |true=>
   rw[Qm wZ]at h⊢;unfold rN;cases zg:f Z2 with
   |bad=>rw[zg]at h;cases h
   |ok ds Z3=>
   rw[zg]at h;dsimp only at h⊢;rw[←PN];cases zl:YC s1 t1 g ds (Kf Z3) es with
   |none=>rw[zl]at h;cases h
   |some pr=>rw[zl]at h;exact Nf (ds:=r) h
theorem qS{f:M w8}{k:Nat}{s:D->UI->ye}{t:M Bool}{g:M D}(Z:UI)(es:w8)(Z':UI)(h:Zr f k s t g Z=.ok es Z'):dCG w6 f k s t (rL g) Z=.ok es Z':=by
 unfold Zr at h;unfold dCG;cases zf:f Z with
 |bad=>rw[zf]at h;cases h
 |ok ds Z1=>
 rw[zf]at h;dsimp only[Yq]at h⊢;cases zl:KW s t g ds (Kf Z1++Uq k w4) []with
 |none=>rw[zl]at h;cases h
 |some esF=>
 rw[zl]at h;cases h;obtain⟨ZF,e⟩:=PB zl;rw[e];exact Qm λz=>by cases z
theorem jY{f:M w8}{k:Nat}{s:D->UI->ye}{t:M Bool}{g:M D}(Z:UI)(es:w8)(Z':UI)(h:Ry f k s t g Z=.ok es Z'):dCG w5 f k s t (rL g) Z=.ok es Z':=by
 unfold Ry at h;unfold dCG;cases zf:f Z with
 |bad=>rw[zf]at h;cases h
 |ok ds Z1=>
 rw[zf]at h;dsimp only[Yq]at h⊢;cases zl:KW s t g ds (Yi Z1++Uq k w4) []with
 |none=>rw[zl]at h;cases h
 |some esF=>
 rw[zl]at h;dsimp only at h;split at h
 .rename_i hf
  cases h;obtain⟨ZF,e⟩:=PB zl;rw[e];exact Qm λ_=>hf
 .cases h
theorem jX{f f1:M w8}{k:Nat}{s s1:D->UI->ye}{t t1:M Bool}{g:M D}(Z:UI)(es:w8)(Z':UI)(h:V5 f k s t f1 s1 t1 g Z=.ok es Z'):dCG w6 f k s t (rN f1 s1 t1 (rL g)) Z=.ok es Z':=by
 unfold V5 at h;unfold dCG;cases zf:f Z with
 |bad=>rw[zf]at h;cases h
 |ok ds Z1=>
 rw[zf]at h;dsimp only[Yq]at h⊢;cases zl:XU s t f1 s1 t1 g ds (Kf Z1++Uq k w4) []with
 |none=>rw[zl]at h;cases h
 |some esF=>
 rw[zl]at h;cases h;obtain⟨ZF,e⟩:=Nf zl;rw[e];exact Qm λz=>by cases z
theorem jW{f f1 f2:M w8}{k:Nat}{s s1 s2:D->UI->ye}{t t1 t2:M Bool}{g:M D}(Z:UI)(es:w8)(Z':UI)(h:Rx f k s t f1 s1 t1 f2 s2 t2 g Z=.ok es Z'):dCG w6 f k s t (rN f1 s1 t1 (rN f2 s2 t2 (rL g))) Z=.ok es Z':=by
 unfold Rx at h;unfold dCG;cases zf:f Z with
 |bad=>rw[zf]at h;cases h
 |ok ds Z1=>
 rw[zf]at h;dsimp only[Yq,Tp]at h⊢;rw[PM λ_ _ _=>PM λ_ _ _=>PN]at h;cases zl:cT s t (rN f1 s1 t1 (rN f2 s2 t2 (rL g))) ds (Kf Z1++Uq k w4) []with
 |none=>rw[zl]at h;cases h
 |some pr=>
 rw[zl]at h;cases h;exact Qm λz=>by cases z
noncomputable def V4(q:Option NameKind->Bool)(SC scope:Scope)(N1 N2:List Str)(k:Nat):Bool:=
 RH scope.names N1 N2 k&&decide (scope.kind=.function)&&scope.names.all λy=>match y.2 with
  |.cell=>w6
  |.local=>decide (scope.names.lookup y.1=O .local)
  |.free=>q (SC.names.lookup y.1)
  |_=>w5
noncomputable def SY:Option NameKind->Bool
 |some .cell=>w5|some .free=>w5|_=>w6
theorem xU{q:Option NameKind->Bool}{SC SC' scope:Scope}{N1 N2:List Str}{k:Nat}(h:V4 q SC scope N1 N2 k=w5)(f:∀x,q (SC.names.lookup x)=w5->SC'.names.lookup x=O .cell∨SC'.names.lookup x=O .free):SZ SC' scope N1 N2 k:=by
 unfold V4 at h;rw[QL,QL,Q2]at h;obtain⟨⟨h1,h2⟩,h3⟩:=h;refine⟨h1,Qa h2,λy hy e=>?_,λy hy e=>?_,λy hy e=>?_⟩
 .have:=h3 y hy;rw[e]at this;cases this
 .have:=h3 y hy;rw[e]at this;exact Qa this
 .have:=h3 y hy;rw[e]at this;exact f _ this
theorem MU{SC scope:Scope}{N1 N2:List Str}{k:Nat}(h:V4 SY SC scope N1 N2 k=w5):SZ SC scope N1 N2 k:=xU h λx e=>by
 cases z:SC.names.lookup x with
 |none=>rw[z]at e;cases e
 |some y=>rw[z]at e;cases y<;>first|exact .inl rfl|exact .inr rfl|cases e
section
variable{X:Cx}{B G0:Hp}{KX:XW}
theorem E1{l:Bool}{tg elt iter:Uj}{ifs:yd}{gs:List Comprehension}{scope:Scope}{pos:Pos}{f:M w8}{s:D->UI->ye}{t:M Bool}{rd:RdB}{F:M w8}(SC:Scope)(N1 N2:List Str)(k:Nat)(le:∀Z es Z',F Z=.ok es Z'->dCG l f k s t rd Z=.ok es Z')(hc:X.calm=w5)
  (hi:PI X tg iter (iD X.K B G0 f)) (yB:YS X N2 scope (.ListComp elt (⟨tg,iter,ifs,0⟩::gs) scope pos) tg ifs s t rd) (h1:X.env.scope=SC) (h2:X.N=N1) (hb:V4 SY SC scope N1 N2 k=w5) (hs:∀x,UD iter X.env x=pure x:=by intro _;rfl) :
  PE X (.ListComp elt (⟨tg,iter,ifs,0⟩::gs) scope pos) (tL X.K B G0 F):=
 Ki (Er hc hi yB (by rw[h1,h2];exact MU hb) hs) λ_ _ _ q=>E2 le q
theorem sD_1{l:Bool}{y:Str}{j:Nat}{py:Pos}{spos:Pos}{tg elt iter:Uj}{ifs:yd}{gs:List Comprehension}{scope:Scope}{pos:Pos}{f:M w8}{s:D->UI->ye}{t:M Bool}{rd:RdB}{F:M w8}(SC:Scope)(N1 N2:List Str)(k:Nat)(le:∀Z es Z',F Z=.ok es Z'->dCG l f k s t rd Z=.ok es Z')(hN:X.N.Nodup)(hj:X.N[j]?=O y)(hy:X.env.scope.names.lookup y=O .local)(hc:X.calm=w5)
  (hi:PI X tg iter (iD X.K B G0 f)) (yB:YS X N2 scope (.ListComp elt (⟨tg,iter,ifs,0⟩::gs) scope pos) tg ifs s t rd) (h1:X.env.scope=SC) (h2:X.N=N1) (hb:V4 SY SC scope N1 N2 k=w5) (hs:∀x,UD iter X.env x=pure x:=by intro _;rfl)
  (hsw:swapsWith (.ListComp elt (⟨tg,iter,ifs,0⟩::gs) scope pos) (O (.Name y py)) spos.line X.env=pure w5:=by rfl) :
  PS X (.Assign [.Name y py] (.ListComp elt (⟨tg,iter,ifs,0⟩::gs) scope pos) spos) (tS X.K B G0 KX (K2 j F)):=
 KY (sD_g hN hj hy hc hi yB (by rw[h1,h2];exact MU hb) hs hsw) λ_ _ _ q=>DJ le q
end
theorem qR{f:M w8}{k:Nat}{s zG s2':D->UI->ye}{t t1' t2':M Bool}{f1 f2:M w8}{g:M D}{Z Z1 Z2:UI}{ds es:w8}(h1:f Z=.ok ds Z1)(h2:Xj s t f1 (Xj zG t1' f2 (YC s2' t2' g)) ds (Kf Z1++Uq k w4) []=O (es,Z2)) :
  Rx f k s t f1 zG t1' f2 s2' t2' g Z=.ok es Z1:=by
 unfold Rx;rw[h1];dsimp only[Tp];rw[h2];rfl
section
variable{X:Cx}{B G0:Hp}{e a b c tg:Uj}{pos:Pos}{es rest:yd}
theorem EOk.given{K:Frag}{G H:Hp}{σ:St}{Z:UI}{a:Uh}{vs:List V}{ds:w8}(k:EOk K B G0 G H σ Z)(n:NewL K B G H σ Z a vs ds):EOk K B G0 (upd G a (.lst vs)) H σ Z where
 bh:=k.bh
 gh:=λb u q=>by
  by_cases z:b=a
  .subst z;rw[KG]at q;cases q;exact n.h
  .rw[Kk z]at q;exact k.gh b u q
 g0:=k.g0.trans (Zl n.g)
 np:=λb o q z=>by
  have zb:b≠a:=λz=>by subst z;rw[n.b]at q;cases q
  rw[Kk zb];exact k.np b o q z
 len:=k.len
 pub:=λi d q=>let ⟨v,h1,h2⟩:=k.pub i d q;⟨v,h1,h2.mono (Zl n.g)⟩
 own:=λi ds q=>by
  obtain⟨b,ws,h1,h2,h3,h4,h5⟩:=k.own i ds q;have zb:b≠a:=λz=>by subst z;exact n.f i ds q h1
  exact⟨b,ws,h1,h2,by rw[Kk zb];exact h3,h4,h5.mono (Zl n.g)⟩
 sep:=k.sep
 dp:=k.dp.map (λ_ _ _ q=>⟨q,rfl⟩) (λ_ ds q=>⟨ds,q,rfl⟩) λi p d v fp q s r w nn=>⟨r.mono (Zl n.g) (.refl _),λb m=>⟨(w b m).1,by rw[Kk (λz=>n.dp i p d v fp q s r (by rw[←z];exact m))];exact(w b m).2⟩⟩
theorem BH{f:M w8}(h:PE X e (tL X.K B G0 f)):PE X e (tD X.K B G0 (US Ur f)):=
 Ki h λσ H Q ⟨G,Z,k,a⟩=>by
  refine⟨G,Z,k,?_⟩;unfold US UW at a;cases z:f Z with
  |bad=>rw[z]at a;exact a.elim
  |ok ds Z1=>rw[z]at a;intro ad vs G' H' k' s' n;exact a (.ref ad) _ H' (k'.given n) (s'.trans (Zl n.g)) (.lst (SqL.of KG) (n.r.mono (Zl n.g)))
theorem qQ(hc:X.calm=w5):Yt X (.builtin "all") (λxs H Q=>∃l,∃bs:List Bool,xs=[.ref l]/\SqL X.K H l (bs.map V.bl)/\Q (.bl (bs.all id)) H):=by
 intro pins s σ H xs us Q I rx h;obtain⟨l,bs,rfl,hq,q⟩:=h;obtain⟨u,rfl,ru⟩:=rx.one;cases ru;obtain⟨its,rv,p,hz⟩:=I.list hq;have hl:=p.isList;have hlt:l<s.heap.objs.size:=by obtain⟨_,e,_⟩:=id hl;exact Qf e
 have key:∀(i:Nat) v,its.toArray[i]?=O v->∃t,bs[i]?=O t/\v=.bool t:=λi v e=>by
  have e:its[i]?=O v:=by simpa using e
  have hi:i<bs.length:=by have:=(Ql.mp e).1;have h2:=rv.length;rw[Qb]at h2;omega
  obtain⟨u,e2,r2⟩:=rv.get (i:=i) (x:=.bl bs[i]) (by rw[Qh,Qg hi];rfl);rw[e]at e2;cases e2;exact⟨bs[i],Qg hi,r2⟩
 refine call_all_walk (JN hl ?_)
 refine⟨s.heap.objs.size,[s.heap.objs.size,l],[s.heap.objs.size],its.toArray.size,_,_,λi=>(bs[i]?).getD w5,rfl,Walks.list (A:=X.A.in1) (I.ok.hd hc) _ l (QM hlt) its.toArray,
  ⟨⟨_,QD _ wZ,rfl,rfl⟩,hl.push _⟩,λi v s' Q' E' hP hQ=>?_,λh' tk hk=>?_⟩
 .obtain⟨b,e,rfl⟩:=key i v hP
  simp only[e,JV]at hQ;exact QZ hQ
 .have hn:its.toArray.size=bs.length:=by have:=rv.length;rw[List.length_map]at this;simp;omega
  have e:((Up its.toArray.size).all λi=>(bs[i]?).getD w5)=bs.all id:=by
   rw[hn,Bool.eq_iff_iff,Q2,Q2];constructor
   .intro h b hb
    obtain⟨i,hi,e⟩:=List.getElem_of_mem hb;have:=h i (Jq.mpr hi);simp only[Qg hi,JV,e]at this;exact this
   .intro h i hi
    have hi':=Jq.mp hi;simp only[Qg hi',JV];exact h _ (JW hi')
  rw[e];exact⟨.bl (bs.all id),H,I.kept (t':=tk) λb x e=>hk b x (λhm=>by rw[QO.mp hm]at e;exact Jy _ (Qf e)) (Qe _ e),rfl,q⟩
noncomputable def VL:w8->Option (List Bool)
 |[]=>O []
 |.bool b::r=>(VL r).map (b :: ·)
 |_=>w4
theorem Fa{K:Frag}{G:Hp}:∀{vs:List V}{ds:w8}{bs:List Bool},Reps K G vs ds->VL ds=O bs->vs=bs.map V.bl
 |_,_,bs,.nil,e=>by cases e;rfl
 |_,_,bs,.cons (d:=d) r t,e=>by
  cases d with
  |bool b=>
   unfold VL at e;cases z:VL _ with
   |none=>rw[z]at e;cases e
   |some cs=>rw[z]at e;cases e;rw[r.bl_inv,Fa t z];rfl
  |_=>cases e
noncomputable def Yd:w8->yb
 |[.list ds]=>(VL ds).map λbs=>.bool (bs.all id)
 |_=>w4
theorem EZ(hc:X.calm=w5):Yz X (.builtin "all") Yd:=by
 refine⟨_,qQ hc,λvs G H ds d Q s r e k=>?_⟩;unfold Yd at e;split at e
 .rename_i ds
  cases z:VL ds with
  |none=>rw[z]at e;cases e
  |some bs=>rw[z]at e;cases e;obtain⟨v,rfl,q⟩:=r.one_inv;obtain⟨l,ws,rfl,h1,r1⟩:=q.lst_inv;have hw:=Fa r1 z;subst hw;exact⟨l,bs,rfl,s.seq h1,k _ G H (.refl s) (.bl _)⟩
 .cases e
noncomputable def Its(x:Str):It:=⟨λi _=>i<x.cps.size,λi H v H'=>H'=H/\∃c,x.cps[i]?=O c/\v=.str ⟨#[c]⟩,λi _=>x.cps.size<=i⟩
theorem qP{P:Ug}{w:World}{K:Frag}{tg:Uj}(x:Str)(t:Tok)(it:Uh):Turn P w K tg (Its x) [it] it (λi h=>h.IsStrIter it (strIterType x) x t i) where
 mem:=by simp
 obj:=λi h st b hb=>by
  have e:b=it:=by simpa using hb
  subst e;obtain⟨o,e,c,d⟩:=st;exact⟨o,e,λv z=>by rw[d]at z;cases z⟩
 keep:=λi h h' st k=>by obtain⟨o,e,c,d⟩:=st;exact⟨o,k it (by simp) o e,c,d⟩
 item:=by
  intro X hP hw hK hc i pins s σ H E I hf st hg;subst hP hw hK;obtain⟨f0,f1,f2,f3,f4,f5⟩:=hf it (by simp);have hx:x.cps[i]?=O x.cps[i]:=JR hg
  have fin:∀h' tk(T:String),strIterType x=T->h'.IsStrIter it T x t (i+1)->Heap.SameBut it s.heap h'->["enumerate", "zip", "dict_itemiterator", "dict_reverseitemiterator", "odict_iterator", "itertools.zip_longest", "itertools.pairwise"].contains T=w6 ->
    ∃u,O (Value.str ⟨#[x.cps[i]]⟩ s.toks)=O u/\Ul (model X.prog X.w) X.A (letOwnedTupleGo tg (.ref it) u) (λ_ s2=>∃v H',Inv X pins σ H' s2/\RelV v u/\(Its x).yld i H v H'/\s2.heap.IsStrIter it (strIterType x) x t (i+1)/\∀b∈[it],H' b=w4) E {s with heap:=h',toks:=tk}:=by
   intro h' tk T eT st' sb hn;have I1:Inv X pins σ H {s with heap:=h',toks:=tk}:=I.turned (t':=tk) (λb o hb e=>(sb.2 b hb).trans e) f0 f1 f3 f4 f5;obtain⟨o,e,c,d⟩:=id st';refine⟨_,rfl,RX (s:={s with heap:=h',toks:=tk}) e c d hn ⟨.str ⟨#[x.cps[i]]⟩,H,I1,⟨_,rfl⟩,⟨rfl,_,hx,rfl⟩,by rw[eT];exact st',λb hb=>(hf b hb).1⟩⟩
  cases ha:x.cps.all (· < 128)with
  |true=>
   have eT:strIterType x = "str_ascii_iterator" :=by simp[strIterType,ha]
   rw[eT]at st;exact wpAny_pyNext_ascii_item st hx λh' st' sb=>fin h' _ _ eT st' sb (by decide)
  |false=>
   have eT:strIterType x = "str_iterator" :=by simp[strIterType,ha]
   rw[eT]at st;exact wpAny_pyNext_wide_item st hx λh' st' sb=>fin h' _ _ eT st' sb (by decide)
 done:=by
  intro X hP hw hK hc i pins s σ H E I hf st hg;subst hP hw hK;obtain⟨f0,f1,f2,f3,f4,f5⟩:=hf it (by simp);have hx:x.cps[i]?=w4:=Array.getElem?_eq_none hg;cases ha:x.cps.all (· < 128)with
  |true=>
   have eT:strIterType x = "str_ascii_iterator" :=by simp[strIterType,ha]
   rw[eT]at st;exact wpAny_pyNext_ascii_end (I.ok.hd hc) st hx λh' eb=>⟨rfl,I.turned (t':=s.toks) (λb o hb e=>eb b o hb e) f0 f1 f3 f4 f5⟩
  |false=>
   have eT:strIterType x = "str_iterator" :=by simp[strIterType,ha]
   rw[eT]at st;exact wpAny_pyNext_wide_end (I.ok.hd hc) st hx λh' eb=>⟨rfl,I.turned (t':=s.toks) (λb o hb e=>eb b o hb e) f0 f1 f3 f4 f5⟩
 self:=λA i s Q E st h=>by
  cases ha:x.cps.all (· < 128)with
  |true=>
   have eT:strIterType x = "str_ascii_iterator" :=by simp[strIterType,ha]
   rw[eT]at st;exact wpAny_pyIter_striter_ascii st h
  |false=>
   have eT:strIterType x = "str_iterator" :=by simp[strIterType,ha]
   rw[eT]at st;exact wpAny_pyIter_striter_wide st h
noncomputable def iAny(K:Frag)(tl:TE):TI:=λσ H R=>tl σ H λx H1=>(∃a,x=.ref a/\(∃xs,SqL K H1 a xs)/\R (Itl K a) H1)∨(∃a,x=.ref a/\(∃xs,SqT K H1 a xs)/\R (Itt K a) H1) ∨ ∃z,x=.str z/\R (Its z) H1
theorem DI{l:Uj}{tl:TE}(hl:PE X l tl):PI X tg l (iAny X.K tl):=by
 intro pins s σ H R I h;refine thn (hl pins s σ H _ I h) λv s1 ⟨x,H1,I1,r1,q1⟩=>?_
 have fpOk:∀b∈[s1.heap.objs.size],Zz X pins H1 b:=λb hb=>by
  have e:b=s1.heap.objs.size:=by simpa using hb
  subst e;exact I1.fpOk (Qq _) (I1.hok.fresh (Qq _))
 rcases q1 with ⟨a,e,⟨xs,hq⟩,q⟩|⟨a,e,⟨xs,hq⟩,q⟩|⟨z,e,q⟩
 .subst e
  cases r1;obtain⟨its,rv,p,hz⟩:=I1.list hq;refine JN p.isList ?_;exact⟨s1.heap.objs.size,[s1.heap.objs.size],_,_,H1,rfl,I1.kept (t':=s1.toks) λb o e=>Qe _ e,kM a _,⟨_,QD _ wZ,rfl,rfl⟩,fpOk,q⟩
 .subst e
  cases r1;obtain⟨its,rv,p,hz⟩:=I1.tuple hq;refine wpAny_pyIter_tuple p ?_;exact⟨s1.heap.objs.size,[s1.heap.objs.size],_,_,H1,rfl,I1.kept (t':=s1.toks) λb o e=>Qe _ e,xL a _,⟨_,QD _ wZ,rfl,rfl⟩,fpOk,q⟩
 .subst e
  obtain⟨t,rfl⟩:=r1;refine wpAny_pyIter_strU ?_;exact⟨s1.heap.objs.size,[s1.heap.objs.size],_,_,H1,rfl,I1.kept (t':=s1.toks) λb o e=>Qe _ e,qP z t _,⟨_,QD _ wZ,rfl,rfl⟩,fpOk,q⟩
def Rw(z:Str):w8:=z.cps.toList.map λc=>.str ⟨#[c]⟩
noncomputable def OP:D->Option w8
 |.list ds=>O ds
 |.tuple ds=>O ds
 |.str z=>O (Rw z)
 |_=>w4
theorem wl{K:Frag}{G1:Hp}{ad:Uh}{vs:List V}{ds:w8}(h:SqT K G1 ad vs)(r:Reps K G1 vs ds):XQ K (Itt K ad) ds G1 where
 go:=λi G H s1 s2 hi=>by
  have hi':i<vs.length:=by rw[r.length];exact hi
  exact⟨vs,vs[i],YU (s1.trans s2) h,Qg hi'⟩
 stop:=λi G H s1 s2 hi=>⟨vs,YU (s1.trans s2) h,by rw[r.length];exact hi⟩
 yld:=λi G H x H' d s1 s2 e y=>by obtain⟨rfl,y⟩:=y;obtain⟨v,e1,r1⟩:=r.get e;have:=y vs (YU (s1.trans s2) h);rw[e1]at this;cases this;exact⟨G,.refl s2,r1.mono s1⟩
theorem jV{K:Frag}{G1:Hp}{z:Str}:XQ K (Its z) (Rw z) G1 where
 go:=λi G H s1 s2 hi=>by unfold Rw at hi;simpa[Its]using hi
 stop:=λi G H s1 s2 hi=>by unfold Rw at hi;simpa[Its]using hi
 yld:=λi G H x H' d s1 s2 e y=>by
  obtain⟨rfl,c,hc,rfl⟩:=y;unfold Rw at e;rw[Qh]at e;have:z.cps.toList[i]?=O c:=by simpa using hc
  rw[this]at e;cases e;exact⟨G,.refl s2,.str _⟩
noncomputable def KJ(f:M D):M w8:=UW f λx=>UX (OP x)
theorem DH{f:M D}(h:PE X e (tD X.K B G0 f)):PI X tg e (iD X.K B G0 (KJ f)):=Xv (DI h) λσ H R q=>tM.toI (R0:=Rep X.K) q λv H' G' Z' x k r a=>by
 cases x with
 |list ds=>obtain⟨ad,vs,rfl,h1,r1⟩:=r.lst_inv;exact .inl ⟨ad,rfl,⟨vs,k.gh.seq h1⟩,a _ G' H' k (.refl _) (xY h1 r1)⟩
 |tuple ds=>obtain⟨ad,vs,rfl,h1,r1⟩:=r.tup_inv;exact .inr (.inl ⟨ad,rfl,⟨vs,YU k.gh h1⟩,a _ G' H' k (.refl _) (wl h1 r1)⟩)
 |str z=>have:=r.str_inv;subst this;exact .inr (.inr ⟨z,rfl,a _ G' H' k (.refl _) jV⟩)
 |_=>exact a.elim
noncomputable def inS(i j:Str):Bool:=!(Builtin.Str.occurrences j i 0 j.length 1).isEmpty
noncomputable def oInS:D->D->yi
 |.str i,.str j=>O (inS i j)
 |_,_=>w4
noncomputable def NL:D->D->yi
 |.str i,.str j=>O (!inS i j)
 |_,_=>w4
theorem EY:OpB X (Uo .In) oInS:=⟨_,xA,λv u G H x y d Q s rx ry e k=>by
 unfold oInS at e;split at e
 .cases e
  have:=rx.str_inv;subst this;have:=ry.str_inv;subst this;exact⟨_,_,rfl,rfl,k⟩
 .cases e⟩
theorem DG:OpB X (Uo .NotIn) NL:=⟨_,wE,λv u G H x y d Q s rx ry e k=>by
 unfold NL at e;split at e
 .cases e
  have:=rx.str_inv;subst this;have:=ry.str_inv;subst this;exact⟨_,_,rfl,rfl,k⟩
 .cases e⟩
theorem EX{x:Str}{i:Int}(hg:Gl X x)(hm:∃t,X.mg x=O (.int i t))(hd:(x==("__debug__" : Str))=w6:=by decide):PE X (.Name x pos) (tD X.K B G0 (UJ (.int i))):=by obtain⟨t,hm⟩:=hm;exact Ki (M8 (v:=.int i) hg hm ⟨t,rfl⟩ hd) λσ H Q ⟨G,Z,k,a⟩=>aft.now a k (.int _)
end
section
variable{X:Cx}{B G0:Hp}{KX:XW}{e o a b c tg i:Uj}{pos p2:Pos}{es rest:yd}{te to ti:TE}
noncomputable def DF(te to ti:TE):TS:=λD σ H=>te σ H λv H1=>to σ H1 λx H2=>ti σ H2 λk H3=>∃l xs n,x=.ref l/\H3 l=O (.lst xs)/\k=.int n/\0<=n/\n<xs.length/\D.nx σ (upd H3 l (.lst (xs.set n.toNat v)))
theorem qO(he:PE X e te)(ho:PE X o to)(hi:PE X i ti)(hs:swapsWith e (O (.Subscript o i p2)) pos.line X.env=pure w6:=by rfl):PS X (.Assign [.Subscript o i p2] e pos) (DF te to ti):=by
 intro pins s σ H D I h;refine wpAny_Assign_Subscript (thn (he pins s σ H _ I h) λv s1 ⟨x,H1,I1,r1,q1⟩=>thn (ho pins s1 σ H1 _ I1 q1) λov s2 ⟨y,H2,I2,r2,q2⟩=>thn (hi pins s2 σ H2 _ I2 q2) λiv s3 ⟨k,H3,I3,r3,q3⟩=>?_) hs;obtain⟨l,xs,n,rfl,hl,rfl,h0,h1,q⟩:=q3;cases r2;obtain⟨t,rfl⟩:=r3;obtain⟨z,its,m,r,hlen,ee⟩:=I3.lstM hl
 refine PySem.W.ki_setAt (items:=its.toArray) (n:=m) ee h0 (by
                                  have:Uk<2 ^ 63:=by decide
                                  omega) (by simp;omega) ?_
 refine⟨σ,_,I3.lset (t':=s3.toks) (its:=its) (its':=its.set n.toNat v) (f:=(·.setIfInBounds n.toNat v)) hl ee (by simp) (r.set r1 n.toNat) (by rw[List.length_set];exact z),q⟩
noncomputable def X4(j:Nat)(g f:M D):SM:=sB f λd Z1=>match Z1[j]? with
 |some (O (.own _))=>sB g (λy Z2=>match y with
  |.int k=>(match Z2[j]? with
   |some (O (.own ds))=>if 0<=k/\k<ds.length then .nx (Z2.set j (O (.own (ds.set k.toNat d))))else .bad
   |_=>.bad)
  |_=>.bad) Z1
 |_=>.bad
theorem BG{j:Nat}{f g:M D}(he:PE X e (tD X.K B G0 f))(ho:PE X o (Kw j))(hi:PE X i (tD X.K B G0 g))(hs:swapsWith e (O (.Subscript o i p2)) pos.line X.env=pure w6:=by rfl) :
  PS X (.Assign [.Subscript o i p2] e pos) (tS X.K B G0 KX (X4 j g f)):=
 KY (qO he ho hi hs) λD σ H q=>tS.bnd (R:=Rep X.K) q λv H1 G1 Z1 d k r a=>by
  cases q0:Z1[j]? with
  |none=>rw[q0]at a;exact a.elim
  |some o0=>
   cases o0 with
   |none=>rw[q0]at a;exact a.elim
   |some sl0=>
    cases sl0 with
    |deep _ _=>rw[q0]at a;exact a.elim
    |pub d=>rw[q0]at a;exact a.elim
    |own yK=>
     rw[q0]at a;obtain⟨ad,vs0,h1,h2,h3,h4,h5⟩:=k.own j yK q0;refine⟨.ref ad,h1,G1,Z1,k,?_⟩;dsimp only at a;unfold sB at a;cases z:g Z1 with
     |bad=>rw[z]at a;exact a.elim
     |ok y Z2=>
      rw[z]at a;dsimp only at a;intro kv G' H' k' s' r';cases y with
      |int n=>
       dsimp only at a;cases q:Z2[j]? with
       |none=>rw[q]at a;exact a.elim
       |some oo=>
        cases oo with
        |none=>rw[q]at a;exact a.elim
        |some sl=>
         cases sl with
         |deep _ _=>rw[q]at a;exact a.elim
         |pub d=>rw[q]at a;exact a.elim
         |own ds=>
          rw[q]at a;dsimp only at a;split at a
          .rename_i hn
           obtain⟨bq,vs,g1,g2,g3,g4,g5⟩:=k'.own j ds q;rw[h1]at g1;cases g1;refine⟨ad,vs,n,rfl,g4,r'.int_inv,hn.1,by rw[g5.length];exact hn.2,?_⟩;exact a σ G' _ (k'.change q h1 (g5.set (r.mono s') n.toNat)) s'
          .exact a.elim
      |_=>exact a.elim
noncomputable def Xz(z:Str)(lo hi:yg):Str:=if(Builtin.Str.strSliceIndices lo hi 1 z.length).length=z.length then z else⟨((Builtin.Str.strSliceIndices lo hi 1 z.length).filterMap (z.cps[·]?)).toArray⟩
theorem DE:SlR X (λx lo hi H Q=>∃z,x=.str z/\(Xz z lo hi).length<=Uk/\Q (.str (Xz z lo hi)) H):=by
 intro pins s σ H x v vl vu lo hi sl Q I rx hs pl pu h;obtain⟨z,rfl,hz,q⟩:=h;obtain⟨t,rfl⟩:=rx;refine⟨"str", _,F.slot_str_getitem.lookup,typeIs_str s z t,?_⟩
 obtain⟨l,el,e1⟩:∃l:Option (Int×Tok),vl=partValue l/\l.map (·.1)=lo:=by
  cases pl with
  |none=>exact⟨w4,rfl,rfl⟩
  |int k t'=>exact⟨O (k,t'),rfl,rfl⟩
 obtain⟨u,eu,e2⟩:∃u:Option (Int×Tok),vu=partValue u/\u.map (·.1)=hi:=by
  cases pu with
  |none=>exact⟨w4,rfl,rfl⟩
  |int k t'=>exact⟨O (k,t'),rfl,rfl⟩
 subst el eu;refine wpAny_getItem_str_slice (l:=l) (u:=u) (st:=w4) hs wZ ?_;unfold sliceMade slicePicked;rw[e1,e2];unfold Xz at hz q;by_cases hw:(Builtin.Str.strSliceIndices lo hi 1 z.length).length=z.length
 .rw[Qm hw]at hz q
  rw[if_pos (by simp[hw])];exact⟨.str z,H,I,⟨t,rfl⟩,q⟩
 .rw[Qw hw]at hz q
  rw[if_neg (by simp[hw])];exact⟨hz,.str _,H,I.tok _,⟨_,rfl⟩,q⟩
end
section
variable{X:Cx}{B G0:Hp}{KX:XW}{e o a b c tg i:Uj}{pos p2:Pos}{es rest:yd}{te to ti:TE}
theorem pvb(i:Nat){x:Str}{pos:Pos}{N':List Str}{scope:Scope}{cl:List (Str×Uh)}{C:Uh}{s₀:Uf}{H₀:Hp}{ex:yf}(hN:N'[i]?=O x:=by rfl)
  (h:scope.names.lookup x=O .local∨scope.names.lookup x=O .free:=by first|exact .inl rfl|exact .inr wZ) (hd:(x==("__debug__" : Str))=w6:=by decide) (hcd:(x==("__classdict__" : Str))=w6:=by decide) :
  PE (X.blk N' scope cl C s₀ H₀ ex) (.Name x pos) (Kw i):=Mq hN (CT h) hd hcd
noncomputable def W5:D->yg->yg->yb
 |.list xs,lo,hi=>O (.list (DL.cutD xs lo hi))
 |.str z,lo,hi=>if(Xz z lo hi).length<=1000000 then O (.str (Xz z lo hi))else w4
 |_,_,_=>w4
noncomputable def Zg(f:M D)(lo hi:M yg):M D:=UW f λx=>UW lo λl=>UW hi λh=>UX (W5 x l h)
theorem xT{lo hi:Option Uj}{f:M D}{l h:M yg}(he:PE X e (tD X.K B G0 f))(hl:PO X lo (tOi X.K B G0 l))(hu:PO X hi (tOi X.K B G0 h)) :
  PE X (.Subscript e (.Slice lo hi w4 p2) pos) (tD X.K B G0 (Zg f l h)):=
 Ki (qA (Aa.or DE) he hl hu) λσ H Q q=>by
  refine tM.one (R:=Rep X.K) q λv H2 G Z x k r a=>?_;refine tM.nx (R:=λ_ b c=>b=c) k a λl' H3 G3 Z3 xl k3 s3 r3 a3=>?_;refine tM.nx (R:=λ_ b c=>b=c) k3 a3 λh' H4 G4 Z4 xh k4 s4 r4 a4=>?_;have r3:l'=xl:=r3;have r4:h'=xh:=r4;subst r3 r4;unfold UX W5 at a4
  cases x with
  |list xs=>obtain⟨ad,vs,rfl,h1,r1⟩:=((r.mono s3).mono s4).lst_inv;exact .inl ⟨ad,vs,rfl,k4.gh.seq h1,λp hp=>aft.done a4 k4 (Ext.new k4.gh hp) (.lst (SqL.of KG) ((r1.cut l' h').mono (Zl (k4.gh.free hp))))⟩
  |str z=>
   dsimp only at a4;have:=r.str_inv;subst this;by_cases hc:(Xz z l' h').length<=1000000
   .rw[Qm hc]at a4
    exact .inr ⟨z,rfl,QH hc lim,aft.now a4 k4 (.str _)⟩
   .rw[Qw hc]at a4;exact a4.elim
  |_=>exact a4.elim
end
section
variable{X:Cx}{B G0:Hp}{e o a b c tg:Uj}{pos p2:Pos}{es rest:yd}{te to ti:TE}
noncomputable def Kp{β:Type}(p:D->D->Option β)(i:Nat)(g:M D):M β:=λZ=>match Z[i]? with
 |some (O (.pub d))=>(UW g λy=>UX (p d y)) Z
 |some (O (.own _))=>(UW g λy=>λZ'=>match Z'[i]? with|some (O (.own ds))=>UX (p (.list ds) y) Z'|_=>.bad) Z
 |_=>.bad
theorem NK{K:Frag}{σ:St}{H:Hp}{p:D->D->yi}{r:R2}{i:Nat}{g:M D}{Q:Bool->Hp->Prop}{QV:VK}(hq:∀t H3,Q t H3->QV (.bl t) H3)(hr:∀v u G H x y d Q,Same G H->Rep K G v x->Rep K G u y->p x y=O d->Q (.bl d) H->r v u H Q)
  (q:tBo K B G0 (Kp p i g) σ H Q):Kw i σ H λx H1=>tD K B G0 g σ H1 λy H2=>r x y H2 QV:=by
 obtain⟨G,Z,k,a⟩:=q;unfold Kp at a;cases q:Z[i]? with
 |none=>rw[q]at a;exact a.elim
 |some o=>
  cases o with
  |none=>rw[q]at a;exact a.elim
  |some sl=>
   cases sl with
   |deep _ _=>rw[q]at a;exact a.elim
   |pub d=>
    rw[q]at a;obtain⟨v,h1,h2⟩:=k.pub i d q;refine⟨v,h1,G,Z,k,?_⟩;dsimp only[UW]at a;cases z:g Z with
    |bad=>rw[z]at a;exact a.elim
    |ok y Z1=>rw[z]at a;intro u G' H' k' s' r';obtain⟨d',e',a'⟩:=aft.opt a;exact hr v u G' H' d y d' _ k'.gh (h2.mono s') r' e' (hq _ _ (a' d' G' H' k' s' wZ))
   |own ds=>
    rw[q]at a;obtain⟨ad,vs,h1,h2,h3,h4,h5⟩:=k.own i ds q;refine⟨.ref ad,h1,G,Z,k,?_⟩;dsimp only[UW]at a;cases z:g Z with
    |bad=>rw[z]at a;exact a.elim
    |ok y Z1=>
     rw[z]at a;dsimp only at a;intro u G' H' k' s' r';cases q1:Z1[i]? with
     |none=>rw[q1]at a;exact a.elim
     |some oo=>
      cases oo with
      |none=>rw[q1]at a;exact a.elim
      |some sl1=>
       cases sl1 with
       |deep _ _=>rw[q1]at a;exact a.elim
       |pub d1=>rw[q1]at a;exact a.elim
       |own ds1=>
        rw[q1]at a;dsimp only at a;obtain⟨bq,ws,g1,g2,g3,g4,g5⟩:=k'.own i ds1 q1;rw[h1]at g1;cases g1;obtain⟨d',e',a'⟩:=aft.opt a;have sg:Same G' (upd G' ad (.lst ws)):=Zl g3
        have sh:Same (upd G' ad (.lst ws)) H':=λb o q=>by
         by_cases z:b=ad
         .subst z;rw[KG]at q;cases q;exact g4
         .rw[Kk z]at q;exact k'.gh b o q
        exact hr (.ref ad) u _ H' (.list ds1) y d' _ sh (.lst (SqL.of KG) (g5.mono sg)) (r'.mono sg) e' (hq _ _ (a' d' G' H' k' s' wZ))
theorem BF{op:CmpOp}{p:D->D->yi}{i:Nat}{g:M D}(o:OpB X (Uo op) p)(ha:PE X a (Kw i))(hb:PE X b (tD X.K B G0 g))(hm:behindInMarks op b=w6) :
  PT X (.Compare a [op] [b] pos) (tBo X.K B G0 (Kp p i g)):=by
 obtain⟨r,h,j⟩:=o;exact YN (OO h ha hb hm) λσ H Q q=>NK (λt H3 z=>⟨t,rfl,z⟩) j q
theorem BE{op:CmpOp}{p:D->D->yi}{i:Nat}{g:M D}(o:OpB X (Uo op) p)(ha:PE X a (Kw i))(hb:PE X b (tD X.K B G0 g))(hm:behindInMarks op b=w6) :
  PE X (.Compare a [op] [b] pos) (tD X.K B G0 (US Us (Kp p i g))):=by
 obtain⟨r,h,j⟩:=o;exact Ki (Lc h ha hb hm) λσ H Q q=>NK (λt H3 z=>z) j (tBo.val q)
end
end DL
namespace L2
open PySem PySem.Spec PyProof.Rows
noncomputable def Itz(K:Frag)(a b:Uh):It:=
 ⟨λi H=>∃xs x ys y,SqL K H a xs/\xs[i]?=O x/\SqL K H b ys/\ys[i]?=O y,
  λi H v H'=>∃p x y,H p=w4/\v=.ref p/\(∀xs,SqL K H a xs->xs[i]?=O x)/\(∀ys,SqL K H b ys->ys[i]?=O y)/\H'=upd H p (.tup [x,y]),
  λi H=>∃xs ys,SqL K H a xs/\SqL K H b ys/\(xs.length<=i∨ys.length<=i)⟩
theorem qN{P:Ug}{w:World}{K:Frag}{elts:yd}{x1}{tp:Pos}(a b z TI TO i1 i2:Uh)(Dz:ZipApart z TI TO i1 i2 a b) :
  Turn P w K (.Tuple elts x1 tp) (Itz K a b) [z,TI,TO,i1,i2] z (λi h=>IsZip h z TI TO .none/\IsPair h TI (.ref i1) (.ref i2)/\(∃c d,IsPair h TO c d)/\h.IsListIter i1 a i/\h.IsListIter i2 b i) where
 mem:=by simp
 obj:=λi h st c hc=>by
  obtain⟨h1,h2,⟨c0,d0,h3⟩,⟨o4,h4,_,d4⟩,⟨o5,h5,_,d5⟩⟩:=st;have hc':c=z∨c=TI∨c=TO∨c=i1∨c=i2:=by simpa using hc
  rcases hc' with rfl|rfl|rfl|rfl|rfl
  .exact⟨_,h1,λv q=>by have q':Data.fields _=Data.cell v:=q;cases q'⟩
  .exact⟨_,h2,λv q=>by have q':Data.seq _ _=Data.cell v:=q;cases q'⟩
  .exact⟨_,h3,λv q=>by have q':Data.seq _ _=Data.cell v:=q;cases q'⟩
  .exact⟨o4,h4,λv q=>by rw[d4]at q;cases q⟩
  .exact⟨o5,h5,λv q=>by rw[d5]at q;cases q⟩
 keep:=λi h h' st k=>by obtain⟨h1,h2,⟨c0,d0,h3⟩,h4,h5⟩:=st;exact⟨k z (by simp) _ h1,k TI (by simp) _ h2,⟨c0,d0,k TO (by simp) _ h3⟩,h4.at λo q=>k i1 (by simp) o q,h5.at λo q=>k i2 (by simp) o q⟩
 item:=by
  intro X hP hw hK hc i pins s σ H E I hf st hg;subst hP hw hK;obtain⟨h1,h2,⟨c0,d0,h3⟩,h4,h5⟩:=st;obtain⟨xs,x,ys,y,hq,hx,y0,hy⟩:=hg;obtain⟨its,rv,p,hz⟩:=I.list hq;obtain⟨its',rv',p',hz'⟩:=I.list y0;obtain⟨u,hu,ru⟩:=rv.get hx;obtain⟨u',hu',ru'⟩:=rv'.get hy;refine wpAny_pyNext_zip_item Dz h1 h2 h3 h4 h5 p.isList p'.isList (x:=u) (y:=u') (by simpa using hu) (by simpa using hu') λh' g1 g3 g4 g5 gp gs gk=>?_
  refine⟨_,rfl,wpAny_letOwnedTupleGo_zip g1 λh2' gz sb=>?_⟩;have hzl:z<s.heap.objs.size:=Qf h1;have zQ:Heap.SameBut z h' h2':=sb;have gp2:h2'.get? s.heap.objs.size=O {cls:=.type "tuple", data:=.seq #[u,u']}:=(zQ.2 _ (JK hzl)).trans gp
  have kk:∀c o,c∉[z,TI,TO,i1,i2]->s.heap.get? c=O o->h2'.get? c=O o:=λc o hc q=>by
   have n1:c≠z:=λe=>hc (by simp[e])
   have n3:c≠TO:=λe=>hc (by simp[e])
   have n4:c≠i1:=λe=>hc (by simp[e])
   have n5:c≠i2:=λe=>hc (by simp[e])
   exact(zQ.2 c n1).trans (gk c o n1 n3 n4 n5 q)
  have hn:H s.heap.objs.size=w4:=I.hok.fresh (Qq _)
  have I2:Inv X pins σ (upd H s.heap.objs.size (.tup [x,y])) {s with heap:=h2'}:=
   I.turnedNew (t':=s.toks) (fp:=[z,TI,TO,i1,i2]) hf kk (Qq _) ⟨by show 2<=Uk;decide,[u,u'],.cons ru (.cons ru' .nil),⟨_,gp2,rfl,_,rfl⟩⟩
  have gTI:IsPair h' TI (.ref i1) (.ref i2):=gk TI _ Dz.TIz Dz.TITO Dz.TIi1 Dz.TIi2 h2
  refine⟨.ref s.heap.objs.size,_,I2,rfl,⟨_,x,y,hn,rfl,λws hw=>by rw[I.list_inj hw hq];exact hx,λws hw=>by rw[I.list_inj hw y0];exact hy,rfl⟩,
   ⟨gz,(zQ.2 _ Dz.TIz).trans gTI,⟨u,u',(zQ.2 _ Dz.TOz).trans g3⟩,g4.at λo q=>(zQ.2 _ Dz.i1z).trans q,g5.at λo q=>(zQ.2 _ Dz.i2z).trans q⟩,λc hc=>?_⟩
  have hlt:c<s.heap.objs.size:=by
   have hc':c=z∨c=TI∨c=TO∨c=i1∨c=i2:=by simpa using hc
   rcases hc' with rfl|rfl|rfl|rfl|rfl
   .exact hzl
   .exact Qf h2
   .exact Qf h3
   .obtain⟨o,ho,_⟩:=h4;exact Qf ho
   .obtain⟨o,ho,_⟩:=h5;exact Qf ho
  rw[Kk (QM hlt)];exact(hf c hc).1
 done:=by
  intro X hP hw hK hc i pins s σ H E I hf st hg;subst hP hw hK;obtain⟨h1,h2,⟨c0,d0,h3⟩,h4,h5⟩:=st;obtain⟨xs,ys,hq,y0,hx⟩:=hg;obtain⟨its,rv,p,hz⟩:=I.list hq;obtain⟨its',rv',p',hz'⟩:=I.list y0;have hl:=rv.length;have hl':=rv'.length;refine wpAny_pyNext_zip_end (I.ok.hd hc) Dz h1 h2 h3 h4 h5 p.isList p'.isList ?_ λh' eb=>⟨rfl,I.turnedL (t':=s.toks) hf λc o hb q=>eb c o (λe=>hb (by simp[e])) (λe=>hb (by simp[e])) (λe=>hb (by simp[e])) (λe=>hb (by simp[e])) q⟩
  rcases hx with hx|hx
  .exact .inl (by simp;omega)
  .exact .inr (by simp;omega)
 self:=λ_ _ _ _ _ st h=>wpAny_pyIter_zip st.1 h
section
variable{X:Cx}
noncomputable def iZip(K:Frag)(ta:TA):TI:=λσ H R=>ta σ H λvs H1=>∃a b xs ys,vs=[.ref a,.ref b]/\SqL K H1 a xs/\SqL K H1 b ys/\R (Itz K a b) H1
theorem DD{a b:Uj}{ta:TA}{p pos:Pos}{elts:yd}{x1}{tp:Pos}(hg:Gl X "zip")(hm:X.mg "zip" = w4)(ha:PA X [a,b] ta)
  (hs:Um [a,b] X.env=[(w6,eval a X.env),(w6,eval b X.env)]:=by rfl) (hs2:Um [b] X.env=[(w6,eval b X.env)]:=by rfl):PI X (.Tuple elts x1 tp) (.Call (.Name "zip" p) [a,b] [] pos) (iZip X.K ta):=by
 intro pins s σ H R I h;refine Call_ (WQ I hg hm boot_zip (Jx (thn (ha pos pins s σ H _ I h) λus s1 ⟨vs,H1,I1,r1,q1⟩=>?_) (by rw[hs,hs2]) (by rw[hs2];rfl)));obtain⟨l1,l2,xs,ys,e,hq,y0,q⟩:=q1;subst e;cases r1 with
 |cons r rr=>
  cases rr with
  |cons r' rr=>
   cases rr;cases (show _=Value.ref l1 from r);cases (show _=Value.ref l2 from r');obtain⟨its,rv,pl,hz⟩:=I1.list hq;obtain⟨its',rv',pl',hz'⟩:=I1.list y0;have n1:l1<s1.heap.objs.size:=by obtain⟨_,e,_⟩:=id pl.isList;exact Qf e
   have n2:l2<s1.heap.objs.size:=by obtain⟨_,e,_⟩:=id pl'.isList;exact Qf e
   have ne:∀i j:Nat,i≠j->s1.heap.objs.size+i≠s1.heap.objs.size+j:=λi j h e=>h (Nat.add_left_cancel e);have m1:∀m:Nat,l1≠s1.heap.objs.size+m:=λm=>QM (QE n1 (Nat.le_add_right _ _));have m2:∀m:Nat,l2≠s1.heap.objs.size+m:=λm=>QM (QE n2 (Nat.le_add_right _ _));refine call_zip_2 pl.isList pl'.isList λh' g1 g2 g3 g4 g5 gs kk=>?_;have I2:Inv X pins σ H1 {s1 with heap:=h'}:=I1.kept (t':=s1.toks) kk;refine wpAny_pyIter_zip g1 ?_
   refine⟨s1.heap.objs.size+4,[s1.heap.objs.size+4,s1.heap.objs.size+2,s1.heap.objs.size+3,s1.heap.objs.size,s1.heap.objs.size+1],_,_,H1,rfl,I2,
    qN l1 l2 (s1.heap.objs.size+4) (s1.heap.objs.size+2) (s1.heap.objs.size+3) s1.heap.objs.size (s1.heap.objs.size+1) ⟨ne 2 4 (by decide),ne 3 4 (by decide),ne 0 4 (by decide),ne 1 4 (by decide),ne 2 3 (by decide),ne 2 0 (by decide),ne 2 1 (by decide),ne 3 0 (by decide),ne 3 1 (by decide),ne 0 1 (by decide),m1 4,m1 3,m1 0,m1 1,m2 4,m2 3,m2 0,m2 1⟩,⟨g1,g2,⟨_,_,g3⟩,g4,g5⟩,λc hc=>?_,q⟩
   have hc':s1.heap.objs.size<=c:=by
    have hc':c=s1.heap.objs.size+4∨c=s1.heap.objs.size+2∨c=s1.heap.objs.size+3∨c=s1.heap.objs.size∨c=s1.heap.objs.size+1:=by simpa using hc
    rcases hc' with rfl|rfl|rfl|rfl|rfl<;>first|exact Nat.le_add_right _ _|exact Qq _
   exact I1.fpOk hc' (I1.hok.fresh hc')
end
end L2
namespace DL
open PySem PySem.Spec L2
open PyProof.Rows hiding St
section
variable{X:Cx}{B G0:Hp}{e a b c tg:Uj}{pos:Pos}{es rest:yd}
noncomputable def ZJ(xs ys:w8):w8:=(xs.zip ys).map λp=>.tuple [p.1,p.2]
theorem jU{K:Frag}{G1:Hp}{a b:Uh}{vs ws:List V}{ds es:w8}(h:SqL K G1 a vs)(h':SqL K G1 b ws)(r:Reps K G1 vs ds)(r':Reps K G1 ws es):XQ K (Itz K a b) (ZJ ds es) G1 where
 go:=λi G H s1 s2 hi=>by
  unfold ZJ at hi;rw[Qb,J6]at hi;have hi1:i<vs.length:=by rw[r.length];omega
  have hi2:i<ws.length:=by rw[r'.length];omega
  exact⟨vs,vs[i],ws,ws[i],(s1.trans s2).seq h,Qg hi1,(s1.trans s2).seq h',Qg hi2⟩
 stop:=λi G H s1 s2 hi=>by unfold ZJ at hi;rw[Qb,J6]at hi;refine⟨vs,ws,(s1.trans s2).seq h,(s1.trans s2).seq h',?_⟩;rw[r.length,r'.length];omega
 yld:=λi G H x H' d s1 s2 e y=>by
  obtain⟨p,u,v,hp,rfl,y1,y2,rfl⟩:=y;have z1:=y1 vs ((s1.trans s2).seq h);have z2:=y2 ws ((s1.trans s2).seq h');unfold ZJ at e;rw[Qh]at e;cases q:(ds.zip es)[i]? with
  |none=>rw[q]at e;cases e
  |some pr=>rw[q]at e;cases e;rw[List.getElem?_zip_eq_some]at q;obtain⟨u',e1,r1⟩:=r.get q.1;obtain⟨v',e2,r2⟩:=r'.get q.2;rw[z1]at e1;rw[z2]at e2;cases e1;cases e2;exact⟨upd G p (.tup [u,v]),Ext.new s2 hp,.tup (SqT.of KG) (.cons ((r1.mono s1).mono (Zl (s2.free hp))) (.cons ((r2.mono s1).mono (Zl (s2.free hp))) .nil))⟩
noncomputable def Wg:w8->Option w8
 |[.list xs,.list ys]=>O (ZJ xs ys)
 |_=>w4
theorem qM{x l:w8}(h:Wg x=O l):∃xs ys,x=[.list xs,.list ys]/\l=ZJ xs ys:=by
 unfold Wg at h;split at h
 .cases h;exact⟨_,_,rfl,rfl⟩
 .cases h
noncomputable def Xx(f:M w8):M w8:=UW f λx=>UX (Wg x)
theorem DC{f:M w8}{p2:Pos}{elts:yd}{x1}{tp:Pos}(hg:Gl X "zip")(hm:X.mg "zip" = w4)(ha:PA X [a,b] (tDs X.K B G0 f))(hs:Um [a,b] X.env=[(w6,eval a X.env),(w6,eval b X.env)]:=by rfl)(hs2:Um [b] X.env=[(w6,eval b X.env)]:=by rfl) :
  PI X (.Tuple elts x1 tp) (.Call (.Name "zip" p2) [a,b] [] pos) (iD X.K B G0 (Xx f)):=Xv (DD hg hm ha hs hs2) λσ H R q=>tM.toI (R0:=Reps X.K) q λv H' G' Z' x k r a=>by
 cases z:Wg x with
 |none=>rw[z]at a;exact a.elim
 |some l=>
  rw[z]at a;obtain⟨xs,ys,rfl,rfl⟩:=qM z;cases r with
  |cons r1 rr=>
   cases rr with
   |cons r2 rr=>cases rr;obtain⟨l1,vs,rfl,h1,q1⟩:=r1.lst_inv;obtain⟨l2,ws,rfl,h2,q2⟩:=r2.lst_inv;exact⟨l1,l2,vs,ws,rfl,k.gh.seq h1,k.gh.seq h2,a _ G' H' k (.refl _) (jU h1 h2 q1 q2)⟩
end
section
variable{X:Cx}{B G0:Hp}{e o a b c tg:Uj}{pos p2 p3:Pos}{es rest:yd}{te to ti:TE}
noncomputable def oIn:D->D->yi
 |.str i,.str j=>O (inS i j)
 |x,.list xs=>if x.canLay0=w5/\Uv xs=w5/\x.depth<=60 then O (xs.any λy=>Ux y x)else w4
 |x,.tuple xs=>if x.canLay0=w5/\Uv xs=w5/\x.depth<=60 then O (xs.any λy=>Ux y x)else w4
 |_,_=>w4
noncomputable def YQ(x y:D):yi:=(oIn x y).map λt=>!t
noncomputable def Xw(x y:D):yi:=match y with
 |.list xs=>if x.canLay0=w5/\Uv xs=w5/\x.depth<=60 then O (xs.any λy=>Ux y x)else w4
 |.tuple xs=>if x.canLay0=w5/\Uv xs=w5/\x.depth<=60 then O (xs.any λy=>Ux y x)else w4
 |_=>w4
theorem EW(hu:X.A.units+64<cLine):OpB X (Uo .In) Xw:=by
 refine⟨λv u H Q=>∃G x y d,Same G H/\Rep X.K G v x/\Rep X.K G u y/\Xw x y=O d/\Q (.bl d) H,?_,λv u G H x y d Q s rx ry e k=>⟨G,x,y,d,s,rx,ry,e,k⟩⟩;intro pins s σ H x y v u Q I rx ry ⟨G,dx,dy,d,sg,px,py,e,q⟩;unfold Xw at e;split at e
 .split at e
  .rename_i c
   cases e;obtain⟨as,ra⟩:=Y5 I sg px rx c.1;obtain⟨bs,rb⟩:=Y5 I sg py ry (show Uv _=w5 from c.2.1);exact SeqAt.in_list_reads rb ra c.2.1 c.1 (by have:=c.2.2;omega) ⟨.bl _,H,I,rfl,q⟩
  .cases e
 .split at e
  .rename_i c
   cases e;obtain⟨as,ra⟩:=Y5 I sg px rx c.1;obtain⟨bs,rb⟩:=Y5 I sg py ry (show Uv _=w5 from c.2.1);exact SeqAt.in_tuple_reads rb ra c.2.1 c.1 (by have:=c.2.2;omega) ⟨.bl _,H,I,rfl,q⟩
  .cases e
 .cases e
theorem DB(hu:X.A.units+64<cLine):OpB X (Uo .NotIn) (λx y=>(Xw x y).map λt=>!t):=by
 refine⟨λv u H Q=>∃G x y d,Same G H/\Rep X.K G v x/\Rep X.K G u y/\(Xw x y).map (λt=>!t)=O d/\Q (.bl d) H,?_,λv u G H x y d Q s rx ry e k=>⟨G,x,y,d,s,rx,ry,e,k⟩⟩;intro pins s σ H x y v u Q I rx ry ⟨G,dx,dy,d,sg,px,py,e,q⟩;unfold Xw at e;split at e
 .split at e
  .rename_i c
   cases e;obtain⟨as,ra⟩:=Y5 I sg px rx c.1;obtain⟨bs,rb⟩:=Y5 I sg py ry (show Uv _=w5 from c.2.1);exact SeqAt.notIn_list_reads rb ra c.2.1 c.1 (by have:=c.2.2;omega) ⟨.bl _,H,I,rfl,q⟩
  .cases e
 .split at e
  .rename_i c
   cases e;obtain⟨as,ra⟩:=Y5 I sg px rx c.1;obtain⟨bs,rb⟩:=Y5 I sg py ry (show Uv _=w5 from c.2.1);exact SeqAt.notIn_tuple_reads rb ra c.2.1 c.1 (by have:=c.2.2;omega) ⟨.bl _,H,I,rfl,q⟩
  .cases e
 .cases e
theorem B_in(hu:X.A.units+64<cLine):OpB X (Uo .In) oIn:=(EY.or (EW hu)).congr λx y=>by cases x<;>cases y<;>rfl
theorem EV(hu:X.A.units+64<cLine):OpB X (Uo .NotIn) YQ:=(DG.or (DB hu)).congr λx y=>by cases x<;>cases y<;>rfl
theorem jT{tl th ts:TO}{lo hi:Option Uj}{st:Uj}(he:PE X e te)(hl:PO X lo tl)(hu:PO X hi th)(hst:PO X (O st) ts):PE X (.Subscript e (.Slice lo hi (O st) p2) pos)
  (λσ H Q=>te σ H λx H1=>tl σ H1 λl H2=>th σ H2 λu H3=>ts σ H3 λt H4=>∃a xs,x=.ref a/\SqL X.K H4 a xs/\l=w4/\u=w4/\t=O (-1)/\∀p,H4 p=w4->Q (.ref p) (upd H4 p (.lst xs.reverse))):=by
 intro pins s σ H Q I h;refine Subscript_ (thn (he pins s σ H _ I h) λv s1 ⟨x,H1,I1,r1,q1⟩=>?_);refine wpAny_Slice (thn (hl pins s1 σ H1 _ I1 q1) λvl s2 ⟨l,H2,I2,pl,q2⟩=>thn (hu pins s2 σ H2 _ I2 q2) λvu s3 ⟨u,H3,I3,pu,q3⟩=>thn (hst pins s3 σ H3 _ I3 q3) λvt s4 ⟨t,H4,I4,pt,q4⟩=>?_);obtain⟨a,xs,rfl,hx,rfl,rfl,rfl,q⟩:=q4;cases r1;have I5:Inv X pins σ H4 {s4 with heap:=s4.heap.push {cls:=.type "slice", data:=.fields #[vl,vu,vt]}}:=I4.kept (t':=s4.toks) λb ob q=>Qe _ q
 obtain⟨its,r,ht,hz⟩:=I5.list hx;have hlen:=r.length;have hg:Ul (model X.prog X.w) X.A (getItem (.ref a) (.ref s4.heap.objs.size)) (EP X pins σ Q) X.xe {s4 with heap:=s4.heap.push {cls:=.type "slice", data:=.fields #[vl,vu,vt]}}:=by refine wpAny_getItem_list_slice ht.isList (Heap.IsSliceOf.new ..) pl pu pt (by simp) ?_ (by rw[List.size_toArray]<;>omega);rw[PySem.W.krv_pick];refine⟨.ref _,_,I5.laid (t':=s4.toks) (o:=.lst xs.reverse) (λb ob q=>Qe _ q) (Qq _) ?_,rfl,q _ (I5.hok.fresh (Qq _))⟩;exact⟨by rw[List.length_reverse];exact hz,its.reverse,0,r.reverse,QD _ wZ⟩
 show Ul (model X.prog X.w) X.A (subscriptTail e (.Slice lo hi (O st) p2) (.ref a) (.ref s4.heap.objs.size)) (EP X pins σ Q) X.xe {s4 with heap:=s4.heap.push {cls:=.type "slice", data:=.fields #[vl,vu,vt]}};exact tail_any (ops:=[.ref a,.ref s4.heap.objs.size]) ht.isList.typeIs slot_list_getitem.lookup hg (by with_unfolding_all rfl)
noncomputable def W6:D->yg->yg->yg->yb
 |.list xs,w4,w4,O i=>if i = -1 then O (.list xs.reverse)else w4
 |_,_,_,_=>w4
noncomputable def Wj(f:M D)(lo hi st:M yg):M D:=UW f λx=>UW lo λl=>UW hi λh=>UW st λt=>UX (W6 x l h t)
theorem BD{lo hi:Option Uj}{st:Uj}{f:M D}{l h t:M yg}(he:PE X e (tD X.K B G0 f))(hl:PO X lo (tOi X.K B G0 l))(hu:PO X hi (tOi X.K B G0 h))(hst:PO X (O st) (tOi X.K B G0 t)) :
  PE X (.Subscript e (.Slice lo hi (O st) p2) pos) (tD X.K B G0 (Wj f l h t)):=
 Ki (jT he hl hu hst) λσ H Q q=>by
  refine tM.one (R:=Rep X.K) q λv H2 G Z x k r a=>?_;refine tM.nx (R:=λ_ b c=>b=c) k a λl' H3 G3 Z3 xl k3 s3 r3 a3=>?_;refine tM.nx (R:=λ_ b c=>b=c) k3 a3 λh' H4 G4 Z4 xh k4 s4 r4 a4=>?_;refine tM.nx (R:=λ_ b c=>b=c) k4 a4 λt' H5 G5 Z5 xt k5 s5 r5 a5=>?_;have r3:l'=xl:=r3;have r4:h'=xh:=r4;have r5:t'=xt:=r5;subst r3 r4 r5
  cases x with
  |list xs=>
   cases l' with
   |some _=>exact a5.elim
   |none=>
   cases h' with
   |some _=>exact a5.elim
   |none=>
   cases t' with
   |none=>exact a5.elim
   |some i=>
   obtain⟨ad,vs,rfl,h1,r1⟩:=(((r.mono s3).mono s4).mono s5).lst_inv;by_cases hi:i = -1
   .subst hi
    exact⟨ad,vs,rfl,k5.gh.seq h1,rfl,rfl,rfl,λp hp=>aft.done a5 k5 (Ext.new k5.gh hp) (.lst (SqL.of KG) (r1.reverse.mono (Zl (k5.gh.free hp))))⟩
   .unfold UX W6 at a5
    dsimp only at a5;rw[Qw hi]at a5;exact a5.elim
  |_=>unfold UX W6 at a5;exact a5.elim
noncomputable def Xl:w8->Option w8
 |[.list xs]=>O xs
 |[.tuple xs]=>O xs
 |_=>w4
theorem Hl{x l:w8}(h:Xl x=O l):x=[.list l]∨x=[.tuple l]:=by
 unfold Xl at h;split at h
 .cases h;exact .inl wZ
 .cases h;exact .inr wZ
 .cases h
theorem HI:bootBuiltins "list" = O (.type "list"):=by decide +kernel
theorem qL{f:M w8}(hg:Gl X "list")(hm:X.mg "list" = w4)(ha:PA X [a] (tDs X.K B G0 f))(he:Um [a] X.env=(w6,eval a X.env)::Um [] X.env:=by rfl) :
  PE X (.Call (.Name "list" p2) [a] [] pos) (tL X.K B G0 (UW f λxs=>UX (Xl xs))):=
 Ki (PZ GP hg hm HI ha (by decide) (by decide) he wZ) λσ H Q ⟨G,Z,k,q⟩=>by
  refine⟨G,Z,k,?_⟩;unfold UW at q;cases z:f Z with
  |bad=>rw[z]at q;exact q.elim
  |ok xs Z1=>
   rw[z]at q;dsimp only[UX]at q;intro vs G' H' k' s' r;cases z2:Xl xs with
   |none=>rw[z2]at q;exact q.elim
   |some l=>
    rw[z2]at q;rcases Hl z2 with rfl|rfl
    .obtain⟨v,rfl,q1⟩:=r.one_inv
     obtain⟨p,ws,rfl,h1,r1⟩:=q1.lst_inv;exact⟨p,ws,rfl,.inl (k'.gh.seq h1),λad hp=>q ad ws G' _ (k'.ext (Ext.hid k'.gh hp)) s' (NewL.of k' hp r1)⟩
    .obtain⟨v,rfl,q1⟩:=r.one_inv
     obtain⟨p,ws,rfl,h1,r1⟩:=q1.tup_inv;exact⟨p,ws,rfl,.inr (YU k'.gh h1),λad hp=>q ad ws G' _ (k'.ext (Ext.hid k'.gh hp)) s' (NewL.of k' hp r1)⟩
noncomputable def X6(i:Nat):M w8:=λZ=>match Z[i]? with
 |some (O (.pub d))=>UX (Xl [d]) Z
 |some (O (.own ds))=>.ok ds Z
 |_=>.bad
theorem jS{i:Nat}(hg:Gl X "list")(hm:X.mg "list" = w4)(ho:PE X a (Kw i))(he:Um [a] X.env=(w6,eval a X.env)::Um [] X.env:=by rfl) :
  PE X (.Call (.Name "list" p2) [a] [] pos) (tL X.K B G0 (X6 i)):=
 Ki (PZ GP hg hm HI (YL ho XX he) (by decide) (by decide) he wZ) λσ H Q ⟨G,Z,k,q⟩=>by
  unfold X6 at q;cases z:Z[i]? with
  |none=>rw[z]at q;exact q.elim
  |some oo=>
   cases oo with
   |none=>rw[z]at q;exact q.elim
   |some sl=>
    cases sl with
    |deep _ _=>rw[z]at q;exact q.elim
    |own ds=>rw[z]at q;dsimp only at q;obtain⟨ad,vs,h1,h2,h3,h4,h5⟩:=k.own i ds z;exact⟨.ref ad,h1,ad,vs,rfl,.inl (SqL.of h4),λl hp=>q l vs G _ (k.ext (Ext.hid k.gh hp)) (.refl _) (NewL.of k hp h5)⟩
    |pub d=>
     rw[z]at q;dsimp only[UX]at q;obtain⟨v,h1,h2⟩:=k.pub i d z;cases z2:Xl [d]with
     |none=>rw[z2]at q;exact q.elim
     |some l=>
      rw[z2]at q;dsimp only at q;rcases Hl z2 with e|e
      .cases e
       obtain⟨p,ws,rfl,g1,r1⟩:=h2.lst_inv;exact⟨_,h1,p,ws,rfl,.inl (k.gh.seq g1),λad hp=>q ad ws G _ (k.ext (Ext.hid k.gh hp)) (.refl _) (NewL.of k hp r1)⟩
      .cases e
       obtain⟨p,ws,rfl,g1,r1⟩:=h2.tup_inv;exact⟨_,h1,p,ws,rfl,.inr (YU k.gh g1),λad hp=>q ad ws G _ (k.ext (Ext.hid k.gh hp)) (.refl _) (NewL.of k hp r1)⟩
noncomputable def SX:w8->yb
 |[.int i]=>O (.int i)
 |[.bool b]=>O (.int (if b then 1 else 0))
 |_=>w4
theorem DA:Yz X (.type "int") SX:=by
 refine⟨_,xy,λvs G H ds d Q s r e k=>?_⟩;unfold SX at e;split at e
 .cases e
  obtain⟨v,rfl,q⟩:=r.one_inv;rw[q.int_inv];exact .inl ⟨_,rfl,k _ G H (.refl s) (.int _)⟩
 .cases e
  obtain⟨v,rfl,q⟩:=r.one_inv;rw[q.bl_inv];exact .inr ⟨_,rfl,k _ G H (.refl s) (.int _)⟩
 .cases e
theorem EU{x:Str}{zs:List Str}(hg:Gl X x)(hm:∃ad o its n,X.mg x=O (.ref ad)/\X.K.lookup ad=O o/\o.cls=.type "tuple" /\ o.data=.seq its n/\its.size<=Uk/\Vals (zs.map V.str) its.toList)(hd:(x==("__debug__" : Str))=w6:=by decide) :
  PE X (.Name x pos) (tD X.K B G0 (UJ (.tuple (zs.map Ut)))):=by
 obtain⟨ad,o,its,n,hm,h1,h2,h3,h4,h5⟩:=hm;refine Ki (M8 (v:=.ref ad) hg hm wZ hd) λσ H Q ⟨G,Z,k,a⟩=>aft.now a k (.tup (.inr ⟨o,its,n,h1,h2,h3,h4,h5⟩) ?_)
 have:∀zs:List Str,Reps X.K G (zs.map V.str) (zs.map Ut):=λzs=>by
  induction zs with
  |nil=>exact .nil
  |cons z r ih=>exact .cons (.str _) ih
 exact this zs
end
section
variable{X:Cx}{B G0:Hp}{e o a b c tg:Uj}{pos p2 p3 p4:Pos}{es rest:yd}{te to ti:TE}
theorem W0:∀{ns:w9}{us:ya},Vals (ns.map V.int) us->PyProof.Rows.IntsAre us ns
 |[],_,.nil=>.nil
 |n::ns,_,.cons h t=>by obtain⟨tk,rfl⟩:=h;exact .cons n tk (W0 t)
noncomputable def Wy(ns:w9):Nat:=(PyProof.Rows.firstMet (λi=>ns.getD i 0) ns.length).length
theorem jR(hc:X.calm=w5):Yt X (.type "set") (λxs H Q=>∃l,∃ns:w9,xs=[.ref l]/\SqL X.K H l (ns.map V.int)/\ns.length+1<4096/\∀S p,H p=w4->Q (.ref p) (upd H p (.set S (Wy ns)))):=by
 intro pins s σ H xs us Q I rx h;obtain⟨l,ns,rfl,hq,hb,q⟩:=h;obtain⟨u,rfl,ru⟩:=rx.one;cases ru;obtain⟨its,rv,p,hz⟩:=I.list hq;have hi:=W0 rv;have hn:its.toArray.size=ns.length:=by have:=rv.length;rw[List.length_map]at this;simp;omega
 refine call_set_list (I.ok.hd hc) p.isList (ns:=ns) (by simpa using hi) (by rw[hn];exact hb) λh' tk hS hk=>?_
 rw[hn]at hS;refine⟨.ref s.heap.objs.size,_,I.laid (t':=tk) (λb o e=>hk b o (Qf e) e) (Qq _) (show Zu X.prog X.w _ h' _ (.set _ (Wy ns))from hS),rfl,q _ _ (I.hok.fresh (Qq _))⟩
theorem jQ:Yt X (.builtin "len") (λxs H Q=>∃p S n,xs=[.ref p]/\H p=O (.set S n)/\Q (.int n) H):=by
 intro pins s σ H xs us Q I rx h;obtain⟨p,S,n,rfl,hp,q⟩:=h;obtain⟨u,rfl,ru⟩:=rx.one;cases ru;obtain⟨o,es,ep,t,h1,h2,h3,h4,h5,h6,h7,h8⟩:=(show s.heap.SetOf (intKind X.prog X.w) p S n from I.hok p _ hp)
 have hsb:scanBound=4096:=rfl;refine call_len_set h1 h2 h3 h7 (by omega) ?_;rw[h8];exact⟨.int n,H,I.tok _,⟨_,rfl⟩,q⟩
noncomputable def Z9:w8->Option w9
 |[]=>O []
 |.int i::r=>(Z9 r).map (i :: ·)
 |_=>w4
theorem SS{K:Frag}{G:Hp}:∀{vs:List V}{ds:w8}{ns:w9},Reps K G vs ds->Z9 ds=O ns->vs=ns.map V.int
 |_,_,ns,.nil,e=>by cases e;rfl
 |_,_,ns,.cons (d:=d) r t,e=>by
  cases d with
  |int b=>
   unfold Z9 at e;cases z:Z9 _ with
   |none=>rw[z]at e;cases e
   |some cs=>rw[z]at e;cases e;rw[r.int_inv,SS t z];rfl
  |_=>cases e
theorem Tk(ns:w9):Z9 (ns.map int)=O ns:=by
 induction ns with
 |nil=>rfl
 |cons b r ih=>rw[Qy,Z9,ih];rfl
noncomputable def Wa:w8->yb
 |[.list ds]=>(match Z9 ds with
  |some ns=>if ns.length+1<4096 then O (.int (Wy ns))else w4
  |none=>w4)
 |_=>w4
theorem wk{xs:w8}{d:D}(h:Wa xs=O d):∃ds ns,xs=[.list ds]/\Z9 ds=O ns/\ns.length+1<4096/\d=.int (Wy ns):=by
 unfold Wa at h;split at h
 .rename_i ds
  cases z:Z9 ds with
  |none=>rw[z]at h;cases h
  |some ns=>
   rw[z]at h;dsimp only at h;split at h
   .rename_i c
    cases h;exact⟨ds,ns,rfl,z,c,rfl⟩
   .cases h
 .cases h
theorem kH:bootBuiltins "set" = O (.type "set"):=by decide +kernel
theorem xS{f:M w8}(hc:X.calm=w5)(hg:Gl X "len")(hm:X.mg "len" = w4)(z6:Gl X "set")(hm2:X.mg "set" = w4)(ha:PA X [a] (tDs X.K B G0 f))(he:Um [a] X.env=(w6,eval a X.env)::Um [] X.env:=by rfl)
  (zK:Um [.Call (.Name "set" p2) [a] [] p3] X.env=(w6,eval (.Call (.Name "set" p2) [a] [] p3) X.env)::Um [] X.env:=by rfl) :
  PE X (.Call (.Name "len" p4) [.Call (.Name "set" p2) [a] [] p3] [] pos) (tD X.K B G0 (K5 Wa f)):=
 Ki (PD jQ hg hm boot_len (YL (PZ (jR hc) z6 hm2 kH ha (by decide) (by decide) he wZ) XX zK) (by decide) (by decide) zK wZ) λσ H Q q=>tM.one (R:=Reps X.K) q λvs H2 G Z x k r a=>by obtain⟨d,e,a⟩:=a.opt;obtain⟨ds,ns,rfl,z,c,rfl⟩:=wk e;obtain⟨v,rfl,q1⟩:=r.one_inv;obtain⟨l,ws,rfl,h1,r1⟩:=q1.lst_inv;have:=SS r1 z;subst this;refine⟨l,ns,rfl,k.gh.seq h1,c,λS p hp=>⟨p,S,Wy ns,rfl,KG,?_⟩⟩;exact aft.done a k (Ext.hid k.gh hp) (.int _)
end
end DL
namespace L2
open PySem PySem.Spec PyProof.Rows
end L2
namespace DL
open PySem PySem.Spec L2
open PyProof.Rows hiding St
end DL
namespace L2
open PySem PySem.Spec PyProof.Rows
section
variable{prog:Ug}{w:World}{A:Around}{E:Ue->Uf->Prop}{s:Uf}{M:Model}{env:Env}
theorem BC{pos:Pos}{T:String}{args:List (Bool×Sem Ue)}{kws:List (Option Str×Sem Ue)}{Q:Ue->Uf->Prop}(hp:args.any (·.1)=w6)(hk:kws.any (·.1.isNone)=w6)
  (h:Ul M A (evalArgs (.type T) w5 args kws) (λa s1=>Ul M A (call (.type T) a.pos a.kw) Q E s1) E s):Ul M A (callWith pos (.type T) [] args kws) Q E s:=by
 unfold callWith;refine Qd (JD (QI h (λa s1 h1=>Qd (Ji ?_)) λ_ _ z=>z));simp only[hp,hk,Bool.false_or];refine Qd (Qj ?_);exact Qd (QI h1 (λr s2 hr=>Qd (JD (wpAny_point (Qj hr)))) λ_ _ z=>z)
theorem qK(l:Uh)(t:Tok)(items:Array Ue)(n:Nat)(dct:yh)(sl:Array yc) :
  Meets (Builtin.«enumerate.__new__» ⟨[.type "enumerate", .ref l],[("start", .int 1 t)]⟩) (λ_ R s=>s.heap.get? l=O ⟨.type "list", dct,.seq items n,sl⟩ /\
   R (.ok (.ret (.ref (s.heap.push {cls:=.type "list_iterator", data:=.fields #[.ref l,.int 0 0]}).objs.size))) {s with heap:=(s.heap.push {cls:=.type "list_iterator", data:=.fields #[.ref l,.int 0 0]}).push {cls:=.type "enumerate", data:=.fields #[.none,.bool w6,.ref s.heap.objs.size,rawInt 1,.none,.none]}}):=
 .of_wp λprog w A R s h=>by
  obtain⟨hp,g,d,tk,os⟩:=s;obtain⟨hl,h⟩:=h;have hsub:=sub_enumerate;have hL:Heap.IsList (Shared.heap ⟨hp,g,d,tk,os⟩) l items:=⟨_,hl,rfl,n,rfl⟩
  wp_walk using AutoSeq1.wpAny_loadPart' hl
  refine wpAny_stack_any λst=>(Qj ?_);split
  .rename_i c _ _ _ _ _
   cases (c==Value.type "enumerate")<;>(wp_walk using(AutoSeq1.wpAny_loadPart' hl),(JN hL))<;>exact⟨_,rfl,h⟩
  ·(wp_walk using(AutoSeq1.wpAny_loadPart' hl),(JN hL));exact⟨_,rfl,h⟩
theorem wK{T newId initId:String}{Bn Bi:Builtin}{args:ya}{kw:List (Str×Ue)}{S:PySem.Spec}{Q Q1:Ue->Uf->Prop}(ft:TypeCalled T newId initId)
  (hct:checkTypeCall T ⟨args,kw⟩=pure ()) (hcn:checkBuiltinCall newId ⟨.type T::args,kw⟩=pure ()) (eN:entryFor table newId=O Bn) (eI:entryFor table initId=O Bi)
  (g:Meets (Bn ⟨.type T::args,kw⟩) S) (h:S A.in1 (wants Q1 E) s)
  (hnext:∀obj s1,Q1 obj s1->s1.TypeIs obj T/\argsOk initId ⟨obj::args,kw⟩/\∃Si,Meets (Bi ⟨obj::args,kw⟩) Si/\Si A.in1 (wants (λr s2=>r=.none/\Q obj s2) E) s1) :
  Ul (model prog w) A (call (.type T) args kw) Q E s:=by
 obtain⟨c,tl,hmro⟩:=ft.mro;have hmade:=ft.made;have hsub:=ft.sub;refine wpAny_call (codeAny_of_tree ?_);show Ul _ _ (callAny (.type T) _) _ _ _;refine Qj ⟨Code.quiet_builtin _ (by decide +kernel),(codeAny_builtin F.entry_type_call ?_)⟩;rw[Around.under_plain (weight_type_call_type T args kw) (units_type_call_type T args kw)];have h1:=ft.notType;have h2:=ft.canCreate
 repeat' (any_goals (first|wp_step|assumption))
 refine Jr (Jd ft.plain eN (wpAny_of_eq hcn (g prog w A.in1 _ s h))) λr s1 hr=>?_
 match r,hr with
 |.error e,hr=>exact hr
 |.ok (.ret obj),hr=>
  obtain⟨hT,hok,Si,gi,hsi⟩:=hnext _ _ hr;have hli:=ft.init.lookup;have hbi:=ft.init.bind obj
  repeat' (any_goals (first|wp_step|assumption))
  refine Jr (Jd ft.init.plain eI (ft.init.check _ _ _ _ _ _ _ _ hT hok (gi prog w A.in1 _ s1 hsi))) λr2 s2 zq=>?_
  match r2,zq with
  |.error e,zq=>exact zq
  |.ok (.ret r),zq=>
   obtain⟨rfl,hq⟩:=zq
   repeat' (any_goals (first|wp_step|assumption))
  |.ok .next,zq=>exact zq.elim
  |.ok .brk,zq=>exact zq.elim
  |.ok .cont,zq=>exact zq.elim
 |.ok .next,hr=>exact hr.elim
 |.ok .brk,hr=>exact hr.elim
 |.ok .cont,hr=>exact hr.elim
theorem wj{T newId:String}{self:Ue}{rest:ya}{kw:List (Str×Ue)}(hl:typeLookup (.type T) "__init__" = pure (O (.builtin "object.__init__")))
  (hm:Bind.madeBy (.type T)=pure (O newId)) (hne:(O newId != O "object.__new__")=w5) :
  Meets (Builtin.«object.__init__» ⟨self::rest,kw⟩) (λ_ R s=>s.TypeIs self T/\R (.ok (.ret .none)) s):=by
 refine .of_wp λprog w A R s hs=>?_
 obtain⟨hT,hq⟩:=hs;cases rest with
 |nil=>
  cases kw with
  |nil=>exact Qj ⟨_,rfl,hq⟩
  |cons k kw=>(repeat' (any_goals (first|wp_step|assumption)));exact⟨_,rfl,hq⟩
 |cons a rest=>(repeat' (any_goals (first|wp_step|assumption)));exact⟨_,rfl,hq⟩
theorem wf(a:Ue)(t:Tok):checkTypeCall "enumerate" ⟨[a],[("start", .int 1 t)]⟩=pure ():=by kernel_rfl
theorem xR(a:Ue)(t:Tok):checkBuiltinCall "enumerate.__new__" ⟨[.type "enumerate", a],[("start", .int 1 t)]⟩=pure ():=by kernel_rfl
theorem we(o a:Ue)(t:Tok):argsOk "object.__init__" ⟨[o,a],[("start", .int 1 t)]⟩:=by unfold argsOk;kernel_rfl
theorem xQ{l:Uh}{items:Array Ue}{t:Tok}{Q:Ue->Uf->Prop}(hL:s.heap.IsList l items)
  (h:∀h',IsEnum h' (s.heap.objs.size+1) s.heap.objs.size 1 .none->h'.IsListIter s.heap.objs.size l 0->(∀b o,s.heap.get? b=O o->h'.get? b=O o)->Q (.ref (s.heap.objs.size+1)) {s with heap:=h'}) :
  Ul (model prog w) A (call (.type "enumerate") [.ref l] [("start", .int 1 t)]) Q E s:=by
 obtain⟨⟨c,dct,dt,sl⟩,hl,hc,n,hd⟩:=hL;replace hc:c=.type "list" :=hc;replace hd:dt=.seq items n:=hd;subst hc hd;have hz:(s.heap.push {cls:=.type "list_iterator", data:=.fields #[.ref l,.int 0 0]}).objs.size=s.heap.objs.size+1:=Heap.size_push ..;have he:IsEnum ((s.heap.push {cls:=.type "list_iterator", data:=.fields #[.ref l,.int 0 0]}).push {cls:=.type "enumerate", data:=.fields #[.none,.bool w6,.ref s.heap.objs.size,rawInt 1,.none,.none]}) (s.heap.objs.size+1) s.heap.objs.size 1 .none:=by rw[←hz];exact QD _ wZ
 refine wK F.called_enumerate (wf _ t) (xR _ t) F.entry_enumerate_new F.entry_object_init (qK l t items n dct sl) (Q1:=λobj s1=>s1.TypeIs obj "enumerate" /\ Q obj s1) ⟨hl,?_⟩ λobj s1 hq=>
  ⟨hq.1,we obj _ t,_,wj F.called_enumerate.init.lookup F.called_enumerate.made (by decide),hq.1,rfl,hq.2⟩
 show _/\_;rw[hz];exact⟨⟨_,he,rfl⟩,h _ he ⟨_,Qe _ (QD _ wZ),rfl,rfl⟩ λb o x=>Qe _ (Qe _ x)⟩
end
section
variable{prog:Ug}{w:World}{A:Around}{E:Ue->Uf->Prop}{s:Uf}
theorem kG{en it l:Uh}{i:Nat}{j:Int}{items:Array Ue}{x old:Ue}{Q:yc->Uf->Prop}(st:IsEnum s.heap en it j old)(li:s.heap.IsListIter it l i)(ls:s.heap.IsList l items)
  (at_:items[i]?=O x) (ne:en≠it)
  (k:∀h',IsEnumOut h' en it (j+1) x s.heap.objs.size->h'.IsListIter it l (i+1)->h'.get? s.heap.objs.size=O {cls:=.type "tuple", data:=.seq #[.int j s.toks,x]}->(∀b o,b≠en->b≠it->s.heap.get? b=O o->h'.get? b=O o) ->
   Q (O (.ref s.heap.objs.size)) {s with heap:=h',toks:=s.toks+1}):Ul (model prog w) A (pyNext (.ref en)) Q E s:=by
 have ty:s.TypeIs (.ref en) "enumerate" :=⟨_,st,rfl⟩
 have lt:en<s.heap.objs.size:=Qf st;unfold pyNext;refine Qd (wpAny_attempt (wpAny_callSpecial?_slot (name:=Uz "__next__") ty F.slot_enumerate_next (wpAny_call_entry F.slot_enumerate_next ty F.entry_enumerate_next ?_ (F.args_enumerate_next_1 _))));show Ul _ _ (field (.ref en) 2 >>= _) _ _ s;refine Qd (Q7 st wZ (x:=.ref it) wZ ?_);refine Qd (wpAny_nextOf_list_item li ls at_ λm1 li1 c1=>?_);have c1:Heap.SameBut it s.heap m1:=c1;have st1:IsEnum m1 en it j old:=(c1.2 en ne).trans st;show Ul _ _ (field (.ref en) 3 >>= _) _ _ {s with heap:=m1};refine Qd (Q7 st1 wZ (x:=rawInt j) wZ ?_);show Ul _ _ (field (.ref en) 4 >>= _) _ _ {s with heap:=m1};refine Qd (Q7 st1 wZ (x:=.none) wZ ?_);show Ul _ _ (mkInt j >>= _) _ _ {s with heap:=m1};refine Qd (wpAny_mkInt ?_);show Ul _ _ (setField (.ref en) 3 (rawInt (j+1)) >>= _) _ _ {s with heap:=m1,toks:=s.toks+1};refine wpAny_bind (wpAny_setField_rec st1 (by simp) λm2 st2 c2=>?_);have c2:Heap.SameBut en m1 m2:=c2;have st2:IsEnum m2 en it (j+1) old:=st2;show Ul _ _ (setField (.ref en) 4 .none >>= _) _ _ {s with heap:=m2,toks:=s.toks+1};refine wpAny_bind (wpAny_setField_rec st2 (by simp) λm3 st3 c3=>?_);have c3:Heap.SameBut en m2 m3:=c3;have st3:IsEnum m3 en it (j+1) old:=st3;show Ul _ _ (newTuple [.int j s.toks,x] >>= _) _ _ {s with heap:=m3,toks:=s.toks+1};refine Qd (wpAny_newTuple ?_);have z3:m3.objs.size=s.heap.objs.size:=c3.1.trans (c2.1.trans c1.1);have st4:IsEnum (m3.push {cls:=.type "tuple", data:=.seq #[.int j s.toks,x]}) en it (j+1) old:=Qe _ (show IsEnum m3 en it (j+1) old from st3);have tp4:(m3.push {cls:=.type "tuple", data:=.seq #[.int j s.toks,x]}).get? s.heap.objs.size=O {cls:=.type "tuple", data:=.seq #[.int j s.toks,x]}:=by rw[←z3];exact QD _ wZ
 have kp4:∀b o,b≠en->b≠it->s.heap.get? b=O o->(m3.push {cls:=.type "tuple", data:=.seq #[.int j s.toks,x]}).get? b=O o:=λb o n1 n2 q=>Qe _ ((c3.2 b n1).trans ((c2.2 b n1).trans ((c1.2 b n2).trans q)))
 have li4:(m3.push {cls:=.type "tuple", data:=.seq #[.int j s.toks,x]}).IsListIter it l (i+1):=by obtain⟨o,q,r⟩:=li1;exact⟨o,Qe _ ((c3.2 it (Ne.symm ne)).trans ((c2.2 it (Ne.symm ne)).trans q)),r⟩
 generalize m3.push {cls:=.type "tuple", data:=.seq #[.int j s.toks,x]}=m4 at st4 tp4 kp4 li4;show Ul _ _ (Builtin.SmallTypes.ownedTupleIsFree (.ref en) >>= _) _ _ {s with heap:=m4,toks:=s.toks+1};rw[z3];refine Qd ?_;unfold Builtin.SmallTypes.ownedTupleIsFree Builtin.SmallTypes.ownedTupleHandOut;refine Qd (Q7 st4 wZ (x:=.none) wZ (Qj ?_));simp only[if_true];refine wpAny_bind (wpAny_rule (wpAny_bind (wpAny_field st4 wZ (x:=old) wZ (wpAny_bind (wpAny_setField_rec st4 (by simp) λm5 zk c5=>?_)))));have c5:Heap.SameBut en m4 m5:=c5;have zk:IsEnum m5 en it (j+1) x:=zk;refine wpAny_bind (wpAny_bind (wpAny_setField_rec zk (by simp) λm6 st6 c6=>?_));have c6:Heap.SameBut en m5 m6:=c6;have st6:IsEnumOut m6 en it (j+1) x s.heap.objs.size:=st6;refine wpAny_setField_rec st6 (by simp) λm7 st7 c7=>?_
 have c7:Heap.SameBut en m6 m7:=c7;have st7:IsEnumOut m7 en it (j+1) x s.heap.objs.size:=st7;have up:∀b,b≠en->m7.get? b=m4.get? b:=λb n=>(c7.2 b n).trans ((c6.2 b n).trans (c5.2 b n));refine Qd (wpAny_letGo (Qj ⟨_,rfl,Qj (k m7 st7 ?_ ((up _ (JK lt)).trans tp4) λb o n1 n2 q=>(up b n1).trans (kp4 b o n1 n2 q))⟩))
 obtain⟨o,q,r⟩:=li4;exact⟨o,(up it (Ne.symm ne)).trans q,r⟩
theorem kF{en it l:Uh}{i:Nat}{j:Int}{items:Array Ue}{old:Ue}{Q:yc->Uf->Prop}(hh:A.handled=w4)(st:IsEnum s.heap en it j old)(li:s.heap.IsListIter it l i)(ls:s.heap.IsList l items)
  (at_:items[i]?=w4) (k:∀h',Heap.ExtBut it s.heap h'->Q w4 {s with heap:=h'}):Ul (model prog w) A (pyNext (.ref en)) Q E s:=by
 have ty:s.TypeIs (.ref en) "enumerate" :=⟨_,st,rfl⟩
 unfold pyNext;refine Qd (wpAny_attempt (wpAny_callSpecial?_slot (name:=Uz "__next__") ty F.slot_enumerate_next (wpAny_call_entry F.slot_enumerate_next ty F.entry_enumerate_next ?_ (F.args_enumerate_next_1 _))));show Ul _ _ (field (.ref en) 2 >>= _) _ _ s;refine Qd (Q7 st wZ (x:=.ref it) wZ (Qd (m:=Builtin.SmallTypes.nextOf (.ref it)) (wpAny_nextOf_list_end hh li ls at_ λh' z c y=>?_)));obtain⟨o,q,t⟩:=y;exact Qd (wpAny_isInstance (T:= "StopIteration") (b:=w5) ⟨o,q,t⟩ isSubtype_stop (Qj (k _ c)))
end
noncomputable def T8(K:Frag)(a:Uh):It:=
 ⟨λi H=>∃xs x,SqL K H a xs/\xs[i]?=O x,
  λi H v H'=>∃p x,H p=w4/\v=.ref p/\(∀xs,SqL K H a xs->xs[i]?=O x)/\H'=upd H p (.tup [.int (1+(i:Int)),x]),
  λi H=>∃xs,SqL K H a xs/\xs.length<=i⟩
theorem xP{P:Ug}{w:World}{K:Frag}{elts:yd}{x1}{tp:Pos}(a e it:Uh)(hne:e≠it) :
  Turn P w K (.Tuple elts x1 tp) (T8 K a) [e,it] e (λi h=>(∃old,IsEnum h e it (1+(i:Int)) old)/\h.IsListIter it a i) where
 mem:=by simp
 obj:=λi h st b hb=>by
  obtain⟨⟨old,he⟩,o,ho,c,d⟩:=st;have hb':b=e∨b=it:=by simpa using hb
  rcases hb' with rfl|rfl
  .exact⟨_,he,λv z=>by have z':Data.fields _=Data.cell v:=z;cases z'⟩
  .exact⟨o,ho,λv z=>by rw[d]at z;cases z⟩
 keep:=λi h h' st k=>by obtain⟨⟨old,he⟩,hi⟩:=st;exact⟨⟨old,k e (by simp) _ he⟩,hi.at λo q=>k it (by simp) o q⟩
 item:=by
  intro X hP hw hK hc i pins s σ H E I hf st hg;subst hP hw hK;obtain⟨⟨old,he⟩,hi⟩:=st;obtain⟨xs,x,hq,hx⟩:=hg;obtain⟨its,rv,p,hz⟩:=I.list hq;obtain⟨u,hu,ru⟩:=rv.get hx;refine kG he hi p.isList (x:=u) (by simpa using hu) hne λh1 out hi1 ht kk=>?_
  refine⟨_,rfl,wpAny_letOwnedTupleGo_enum out λh2 zK hs2=>?_⟩;have hel:e<s.heap.objs.size:=Qf he;have yL:Heap.SameBut e h1 h2:=hs2;have ht2:h2.get? s.heap.objs.size=O {cls:=.type "tuple", data:=.seq #[.int (1+(i:Int)) s.toks,u]}:=(yL.2 _ (JK hel)).trans ht
  have kk2:∀b o,b∉[e,it]->s.heap.get? b=O o->h2.get? b=O o:=λb o hb q=>by
   have yN:b≠e:=λz=>hb (by simp[z])
   have hbi:b≠it:=λz=>hb (by simp[z])
   exact(yL.2 b yN).trans (kk b o yN hbi q)
  have hn:H s.heap.objs.size=w4:=I.hok.fresh (Qq _)
  have I2:Inv X pins σ (upd H s.heap.objs.size (.tup [.int (1+(i:Int)),x])) {s with heap:=h2,toks:=s.toks+1}:=
   I.turnedNew (fp:=[e,it]) hf kk2 (Qq _) ⟨by show 2<=Uk;decide,[.int (1+(i:Int)) s.toks,u],.cons ⟨_,rfl⟩ (.cons ru .nil),⟨_,ht2,rfl,_,rfl⟩⟩
  refine⟨.ref s.heap.objs.size,_,I2,rfl,⟨_,x,hn,rfl,λys hy=>by rw[I.list_inj hy hq];exact hx,rfl⟩,⟨⟨u,?_⟩,?_⟩,λb hb=>?_⟩
  .have e2:(1+((i+1:Nat):Int))=1+(i:Int)+1:=by omega
   rw[e2];exact zK
  .exact hi1.at λo q=>(yL.2 it (Ne.symm hne)).trans q
  .have hlt:b<s.heap.objs.size:=by
    have hb':b=e∨b=it:=by simpa using hb
    rcases hb' with rfl|rfl
    .exact hel
    .obtain⟨o,ho,_⟩:=hi;exact Qf ho
   rw[Kk (QM hlt)];exact(hf b hb).1
 done:=by intro X hP hw hK hc i pins s σ H E I hf st hg;subst hP hw hK;obtain⟨⟨old,he⟩,hi⟩:=st;obtain⟨xs,hq,hx⟩:=hg;obtain⟨its,rv,p,hz⟩:=I.list hq;have hl:=rv.length;exact kF (I.ok.hd hc) he hi p.isList (by simp;omega) λh' eb=>⟨rfl,I.turnedL (t':=s.toks) hf λb o hb q=>eb b o (λz=>hb (by simp[z])) q⟩
 self:=λ_ _ _ _ _ st h=>by obtain⟨⟨old,he⟩,_⟩:=st;exact wpAny_pyIter_enum he h
section
variable{X:Cx}
theorem qJ{a:Uj}{ta:TA}{p pos k1 k2:Pos}{j}{elts:yd}{x1}{tp:Pos}(hg:Gl X "enumerate")(hm:X.mg "enumerate" = w4)(ha:PA X [a] ta)
  (hs:backTo pos (Um [a] X.env)=(w6,eval a X.env)::backTo pos (Um [] X.env):=by rfl) (hpl:(backTo pos (Um [a] X.env)).any (·.1)=w6:=by rfl) :
  PI X (.Tuple elts x1 tp) (.Call (.Name "enumerate" p) [a] [⟨O "start", .Constant (.int 1) j k1,k2⟩] pos) (λσ H R=>ta σ H λvs H1=>∃a xs,vs=[.ref a]/\SqL X.K H1 a xs/\R (T8 X.K a) H1):=by
 intro pins s σ H R I h;refine Jo (WQ I hg hm boot_enumerate (BC hpl wZ ?_));rw[hs];refine evalArgs_kwB wZ ?_;rw[←hs];refine thn (ha pos pins s σ H _ I h) λus s1 ⟨vs,H1,I1,r1,q1⟩=>?_;refine kws_cons (wpAny_Constant_int (kws_nil ?_))
 obtain⟨l,xs,e,hq,q⟩:=q1;subst e;cases r1 with
 |cons r rr=>
  cases rr;cases (show _=Value.ref l from r);have I1':=I1.tok (s1.toks+1);obtain⟨its,rv,pl,hz⟩:=I1'.list hq;refine xQ pl.isList λh' he hi kk=>?_;have I2:Inv X pins σ H1 {s1 with heap:=h',toks:=s1.toks+1}:=I1'.kept (t':=s1.toks+1) kk;refine wpAny_pyIter_enum he ?_
  refine⟨s1.heap.objs.size+1,[s1.heap.objs.size+1,s1.heap.objs.size],_,_,H1,rfl,I2,xP l _ _ (Nat.succ_ne_self _),⟨⟨_,he⟩,hi⟩,λb hb=>?_,q⟩;have hb':b=s1.heap.objs.size+1∨b=s1.heap.objs.size:=by simpa using hb
  rcases hb' with rfl|rfl
  .exact I1.fpOk (JP _) (I1.hok.fresh (JP _))
  .exact I1.fpOk (Qq _) (I1.hok.fresh (Qq _))
end
end L2
namespace DL
open PySem PySem.Spec L2
open PyProof.Rows hiding St
section
variable{X:Cx}{B G0:Hp}{e a b c tg:Uj}{pos:Pos}{es rest:yd}
theorem wd{K:Frag}{G1:Hp}{ad:Uh}{vs:List V}{ds:w8}(h:SqL K G1 ad vs)(r:Reps K G1 vs ds):XQ K (T8 K ad) (Z7 1 ds) G1 where
 go:=λi G H s1 s2 hi=>by
  rw[X2]at hi;have hi':i<vs.length:=by rw[r.length];exact hi
  exact⟨vs,vs[i],(s1.trans s2).seq h,Qg hi'⟩
 stop:=λi G H s1 s2 hi=>by rw[X2]at hi;exact⟨vs,(s1.trans s2).seq h,by rw[r.length];exact hi⟩
 yld:=λi G H x H' d s1 s2 e y=>by
  obtain⟨p,v,hp,rfl,y1,rfl⟩:=y;have z1:=y1 vs ((s1.trans s2).seq h);rw[Nh]at e;cases q:ds[i]? with
  |none=>rw[q]at e;cases e
  |some dd=>
   rw[q]at e;cases e;obtain⟨v',e1,r1⟩:=r.get q;rw[z1]at e1;cases e1;refine⟨upd G p (.tup [.int (1+(i:Int)),v]),Ext.new s2 hp,.tup (SqT.of KG) (.cons ?_ (.cons ((r1.mono s1).mono (Zl (s2.free hp))) .nil))⟩;have:((1+i:Nat):Int)=1+(i:Int):=by omega
   rw[this];exact .int _
noncomputable def Sq:w8->Option w8
 |[.list ds]=>O (Z7 1 ds)
 |_=>w4
noncomputable def Pj(f:M w8):M w8:=UW f λx=>UX (Sq x)
theorem xO{x l:w8}(h:Sq x=O l):∃ds,x=[.list ds]/\l=Z7 1 ds:=by
 unfold Sq at h;split at h
 .cases h;exact⟨_,rfl,rfl⟩
 .cases h
theorem qI{f:M w8}{p2 k1 k2:Pos}{j}{elts:yd}{x1}{tp:Pos}(hg:Gl X "enumerate")(hm:X.mg "enumerate" = w4)(ha:PA X [a] (tDs X.K B G0 f))
  (hs:backTo pos (Um [a] X.env)=(w6,eval a X.env)::backTo pos (Um [] X.env):=by rfl) (hpl:(backTo pos (Um [a] X.env)).any (·.1)=w6:=by rfl) :
  PI X (.Tuple elts x1 tp) (.Call (.Name "enumerate" p2) [a] [⟨O "start", .Constant (.int 1) j k1,k2⟩] pos) (iD X.K B G0 (Pj f)):=Xv (qJ hg hm ha hs hpl) λσ H R q=>tM.toI (R0:=Reps X.K) q λv H' G' Z' x k r a=>by
 cases z:Sq x with
 |none=>rw[z]at a;exact a.elim
 |some l=>rw[z]at a;obtain⟨ds,rfl,rfl⟩:=xO z;obtain⟨v,rfl,q⟩:=r.one_inv;obtain⟨l,ws,rfl,h1,r1⟩:=q.lst_inv;exact⟨l,ws,rfl,k.gh.seq h1,a _ G' H' k (.refl _) (wd h1 r1)⟩
end
section
variable{X:Cx}
noncomputable def most:w9->Int
 |[]=>0
 |[n]=>n
 |n::r=>if most r > n then most r else n
theorem Pz:∀{ns:w9},0<ns.length->most ns∈ns
 |[n],_=>List.mem_singleton.2 wZ
 |n::m::r,_=>by
  have ih:=Pz (ns:=m::r) (Nat.succ_pos _);unfold most;split
  .exact Qp _ ih
  .exact Qo ..
theorem M0:∀{ns:w9}{a:Int},a∈ns->a<=most ns
 |[n],a,h=>by rw[List.mem_singleton.1 h];exact JM _
 |n::m::r,a,h=>by
  have ih:∀b,b∈m::r->b<=most (m::r):=λb hb=>M0 hb;unfold most;rcases Qx.1 h with e|h
  .subst e;split<;>omega
  .have:=ih a h;split<;>omega
theorem BB{ns:w9}{M:Int}(h1:M∈ns)(h2:∀a,a∈ns->a<=M):most ns=M:=
 J7 (h2 _ (Pz (List.length_pos_of_mem h1))) (M0 h1)
theorem kE(hc:X.calm=w5):Yt X (.builtin "max") (λxs H Q=>∃l,∃ns:w9,xs=[.ref l]/\SqL X.K H l (ns.map V.int)/\0<ns.length/\Q (.int (most ns)) H):=by
 intro pins s σ H xs us Q I rx h;obtain⟨l,ns,rfl,hq,hb,q⟩:=h;obtain⟨u,rfl,ru⟩:=rx.one;cases ru;obtain⟨its,rv,p,hz⟩:=I.list hq;have hi:=W0 rv;obtain⟨ys,e⟩:=hi.allInts.items;have hns:ns=ys.toList.map (·.1):=by rw[←hi.numsOf,←nums_intItems,←e]
 have hsz:0<ys.size:=by rw[hns,Qb,JE]at hb;exact hb
 have hl:=p.isList;rw[e]at hl;refine max_intList (I.ok.hd hc) hl hsz λv h' tk hv hk=>?_
 obtain⟨t,rfl⟩:=intItems_at hv;obtain⟨h1,h2⟩:=argBest_gt (numAt ys) (ys.size-1);refine⟨.int (most ns),H,I.kept hk,⟨t,?_⟩,q⟩;rw[BB (M:=_) ?_ ?_]
 .rw[hns,numAt_eq];exact getD_mem (by rw[Qb,JE];omega)
 .intro a ha
  rw[hns]at ha;obtain⟨j,hj,rfl⟩:=mem_getD ha;rw[Qb,JE]at hj;rw[←numAt_eq];exact h2 j (by omega)
noncomputable def VZ:w8->yb
 |[.list ds]=>(match Z9 ds with
  |some ns=>if 0<ns.length then O (.int (most ns))else w4
  |none=>w4)
 |_=>w4
theorem kC{xs:w8}{d:D}(h:VZ xs=O d):∃ds ns,xs=[.list ds]/\Z9 ds=O ns/\0<ns.length/\d=.int (most ns):=by
 unfold VZ at h;split at h
 .rename_i ds
  cases z:Z9 ds with
  |none=>rw[z]at h;cases h
  |some ns=>
   rw[z]at h;dsimp only at h;split at h
   .rename_i c
    cases h;exact⟨ds,ns,rfl,z,c,rfl⟩
   .cases h
 .cases h
theorem Dy(hc:X.calm=w5):Yz X (.builtin "max") VZ:=by refine⟨_,kE hc,λvs G H ds d Q s r e k=>?_⟩;obtain⟨ds,ns,rfl,z,c,rfl⟩:=kC e;obtain⟨v,rfl,q1⟩:=r.one_inv;obtain⟨l,ws,rfl,h1,r1⟩:=q1.lst_inv;have:=SS r1 z;subst this;exact⟨l,ns,rfl,s.seq h1,c,k _ G H (.refl s) (.int _)⟩
theorem jj{ns:w9}(h:0<ns.length):VZ [.list (ns.map .int)]=O (.int (most ns)):=by unfold VZ;simp only[Tk,Qm h]
end
section
variable{X:Cx}{B G0:Hp}{e o:Uj}{es:yd}
theorem wc{h:Heap}{vs:ya}{xs:w8}{as:yf}{d:D}(rs:ReadsAll h vs xs as)(hxs:Uv xs=w5) :
  vs.countP (λy=>Ux (SeqAt.readOf h y) d)=xs.countP (λy=>Ux y d):=by
 have key:xs=vs.map (SeqAt.readOf h):=(SeqAt.readsAll_map xs vs as hxs rs).symm;rw[key,List.countP_map];rfl
noncomputable def WT(y x:D):yb:=match y with
 |.list ds=>if x.canLay0=w5/\Uv ds=w5/\x.depth<=60 then O (.int (ds.countP λy=>Ux y x))else w4
 |_=>w4
theorem ji(hu:X.A.units+64<cLine):MtR X "list.count" (λv vs H Q=>∃G u y x d,vs=[u]/\Same G H/\Rep X.K G v y/\Rep X.K G u x/\WT y x=O (.int d)/\Q (.int d) H):=by
 intro pins s σ H x xs v us Q I rx rs h;obtain⟨G,u,dy,dx,d,rfl,sg,py,px,e,q⟩:=h;obtain⟨w,rfl,al⟩:=rs.one;unfold WT at e;split at e
 .rename_i ds
  split at e
  .rename_i c
   obtain⟨bs,rb⟩:=Y5 I sg py rx (show Uv _=w5 from c.2.1);obtain⟨as,ra⟩:=Y5 I sg px al c.1;cases rb with
   |list h1 h2 h3 h4=>rename_i l ob its cs n;obtain⟨cls,dd,data,sl⟩:=ob;simp only at h2 h3;subst h2 h3;refine call_meets F.slot_list_count ⟨_,h1,rfl⟩ F.entry_list_count (F.args_list_count_2 _ _) (SeqAt.list_countAt _ _ _ dd sl _ (λy=>Ux (SeqAt.readOf s.heap y) dx)) ⟨h1,SeqAt.items_eqAt h4 ra c.2.1 c.1 (by have:=c.2.2;omega),?_⟩;rw[wc h4 c.2.1];cases e;exact⟨.int _,H,I.tok _,⟨_,rfl⟩,q⟩
  .cases e
 .cases e
noncomputable def Pp(y:D)(xs:w8):yb:=match xs with
 |[x]=>WT y x
 |_=>w4
theorem vG{ds xs:w8}{d:D}(h:Pp (.list ds) xs=O d):∃x n,xs=[x]/\d=.int n/\WT (.list ds) x=O (.int n):=by
 unfold Pp at h;split at h
 .rename_i x
  have h':=h;unfold WT at h;dsimp only at h;split at h
  .cases h;exact⟨x,_,rfl,rfl,h'⟩
  .cases h
 .cases h
noncomputable def So(f:M D)(g:M w8):M D:=UW f λy=>UW g λxs=>UX (match y with | .list ds=>Pp (.list ds) xs|_=>w4)
theorem kB{apos cpos:Pos}{f:M D}{g:M w8}(hu:X.A.units+64<cLine)(ho:PE X o (tD X.K B G0 f))(ha:PA X (e::es) (tDs X.K B G0 g))
  (hbase:attributeBase o "count" X.env (eval o X.env)=eval o X.env:=by rfl)
  (hfew:((backTo cpos (Um (e::es) X.env)).all (λx=>!x.1)&&(backToKw cpos (keywordEach [] X.env)).all (λx=>x.1.isSome)
   && decide ((e::es).length+([]:List Keyword).length+(if([]:List Keyword).isEmpty then 0 else 1)<30))=w5:=by rfl)
  (hline:(apos.endLine==cpos.line)=w5:=by rfl) (hs:Um (e::es) X.env=(w6,eval e X.env)::Um es X.env:=by rfl) (hplain:(backTo cpos (Um es X.env)).any (·.1)=w6:=by rfl) :
  PE X (.Call (.Attribute o "count" apos) (e::es) [] cpos) (tD X.K B G0 (So f g)):=
 Ki (Rj JO F.slot_list_count F.type_list_count (ji hu) ho ha hbase hfew hline hs hplain) λσ H Q q=>by
  refine tM.one (R:=Rep X.K) q λv H2 G Z y k r a=>?_
  cases y with
  |list ds=>
   obtain⟨l,ws,rfl,h1,r1⟩:=r.lst_inv;refine⟨.inl ⟨rfl,ws,k.gh.seq h1⟩,?_⟩;refine tM.nx (R:=Reps X.K) k a λxs H3 G3 Z3 es k3 s3 r3 a3=>?_
   obtain⟨d,e,a3⟩:=a3.opt;obtain⟨x,n,rfl,rfl,e'⟩:=vG e;obtain⟨u,rfl,ru⟩:=r3.one_inv;exact⟨G3,u,.list ds,x,n,rfl,k3.gh,r.mono s3,ru,e',aft.now a3 k3 (.int _)⟩
  |_=>
   unfold UW at a;cases z:g Z with
   |bad=>rw[z]at a;exact a.elim
   |ok xs Z1=>rw[z]at a;exact a.elim
theorem LU{f:M D}{g:M w8}{Z Z1 Z2:UI}{ds:w8}{x d:D}(h1:f Z=.ok (.list ds) Z1)(h2:g Z1=.ok [x] Z2)(h3:WT (.list ds) x=O d):So f g Z=.ok d Z2:=by unfold So UW;rw[h1];dsimp only;rw[h2];dsimp only[Pp];rw[h3];rfl
end
section
variable{prog:Ug}{w:World}{A:Around}{R:Result->Uf->Prop}{h0:Heap}{l I S:Uh}{rs:List (Uh×ya)}
def XE(h h':Heap):Prop:=∀b o,h.get? b=O o->h'.get? b=O o
def Ls1(h:Heap)(a:Uh)(its:ya)(sl:Array yc):Prop:=∃n,h.get? a=O {cls:=.type "list", dict:=w4,data:=.seq its.toArray n,slots:=sl}
def Ls(h:Heap)(a:Uh)(its:ya):Prop:=∃n sl,h.get? a=O {cls:=.type "list", dict:=w4,data:=.seq its.toArray n,slots:=sl}
theorem Ls.kept{h h':Heap}{a:Uh}{its:ya}(x:Ls h a its)(k:XE h h'):Ls h' a its:=by obtain⟨n,sl,e⟩:=x;exact⟨n,sl,k _ _ e⟩
theorem xN(hh:A.in1.handled=w4)(hI:h0.objs.size<=I)(hS:h0.objs.size<=S)(hIS:S≠I)(hl:h0.IsList l (rs.map λp=>Value.ref p.1).toArray)(hr:∀p∈rs,Ls h0 p.1 p.2) :
  ∀(k i:Nat)(s:Uf)(t:Uh)(acc:ya)(c:Nat)(sl:Array yc),rs.length-i=k->i<=rs.length->XE h0 s.heap->s.heap.IsListIter I l i ->
   s.heap.get? S=O {cls:=.type "list", dict:=w4,data:=.seq #[.ref t] c,slots:=#[]}->t≠S->t≠I->Ls1 s.heap t acc sl->acc.length+((rs.drop i).map (·.2)).flatten.length<=Uk ->
   (∀p h' tk yR,XE h0 h'->Ls1 h' p (acc++((rs.drop i).map (·.2)).flatten) yR->(p=t/\i=rs.length/\yR=sl∨h0.objs.size<=p/\yR=#[])->R (.ok (.ret (.ref p))) {s with heap:=h',toks:=tk}) ->
   codeAny (model prog w) A (.builtin "sum.loop" ⟨[.ref I,.ref S,rawInt 2,rawInt 0],[]⟩) R s:=by
 intro k;induction k with
 |zero=>
  intro i s t acc c sl hk hi hK hit hSS htS htI ht hz hR;have hin:i=rs.length:=by omega
  subst hin;refine codeAny_builtin F.entry_sum_loop ?_;rw[Around.under_plainId F.plain_sum_loop _];show Ul _ A.in1 (seqItems? (.ref S) >>= _) _ _ s;refine Qd (wpAny_seqItems hSS wZ ?_);show Ul _ A.in1 (tryCatch (pyNext (.ref I)) _ >>= _) _ _ s;have hl':s.heap.IsList l (rs.map λp=>Value.ref p.1).toArray:=by obtain⟨o,e,r⟩:=hl;exact⟨o,hK _ _ e,r⟩
  refine wpAny_bind (wpAny_tryCatch (wpAny_pyNext_list_end hh hit hl' (by simp) λh' ex=>?_));refine Qj (hR t h' s.toks sl (λb o e=>?_) ?_ (.inl ⟨rfl,rfl,rfl⟩))
  .exact ex b o (QM (QE (Qf e) hI)) (hK b o e)
  .obtain⟨n,e⟩:=ht
   rw[List.drop_length,List.map_nil,List.flatten_nil,Q4];exact⟨n,ex _ _ htI e⟩
 |succ k ih=>
  intro i s t acc c sl hk hi hK hit hSS htS htI ht hz hR;have hlt:i<rs.length:=by omega
  refine codeAny_builtin F.entry_sum_loop ?_;rw[Around.under_plainId F.plain_sum_loop _];show Ul _ A.in1 (seqItems? (.ref S) >>= _) _ _ s;refine Qd (wpAny_seqItems hSS wZ ?_);show Ul _ A.in1 (tryCatch (pyNext (.ref I)) _ >>= _) _ _ s;have hl':s.heap.IsList l (rs.map λp=>Value.ref p.1).toArray:=by obtain⟨o,e,r⟩:=hl;exact⟨o,hK _ _ e,r⟩
  refine wpAny_bind (wpAny_tryCatch (wpAny_pyNext_list_item (x:=.ref (rs[i]'hlt).1) hit hl' (by simp[hlt]) λh' ay sb=>?_));show Ul _ A.in1 ((holding [Value.ref (rs[i]'hlt).1] (binaryOp .Add (.ref t) (.ref (rs[i]'hlt).1))).attempt >>= _) _ _ _;refine Qd (wpAny_attempt (JD ?_));have hm:rs[i]'hlt∈rs:=JW hlt;have hd:rs.drop i=rs[i]'hlt::rs.drop (i+1):=JG hlt;have hK':XE h0 h':=λb o e=>(sb.2 b (QM (QE (Qf e) hI))).trans (hK b o e)
  obtain⟨n1,e1⟩:=ht;have e1':=(sb.2 t htI).trans e1;obtain⟨n2,s2,e2⟩:=(hr _ hm).kept hK';have aD:=(sb.2 S hIS).trans hSS;rw[hd,Qy,QG,Qi]at hz;refine concat_meets ⟨_,e1',rfl⟩ ⟨_,e2,rfl⟩ noFill_list_add seq_list_add PySem.F.slot_list_add PySem.F.entry_list_add (PySem.F.args_list_add_2 _ _) (list_addW t _ acc.toArray _ n1 n2 w4 w4 sl s2 (by rw[QJ,QJ];omega)) ⟨e1',e2,?_⟩;have hlS:S<h'.objs.size:=Qf aD;have hlI:I<h'.objs.size:=by obtain⟨o,e,_⟩:=ay;exact Qf e
  have ea:acc.toArray++(rs[i]'hlt).2.toArray=(acc++(rs[i]'hlt).2).toArray:=by simp
  rw[ea];have hP:∀b o,h'.get? b=O o->(h'.push {cls:=Value.type "list", data:=Data.seq (acc++(rs[i]'hlt).2).toArray}).get? b=O o:=λb o e=>Qe _ e
  have hS1:=hP _ _ aD;have hNew:(h'.push {cls:=Value.type "list", data:=Data.seq (acc++(rs[i]'hlt).2).toArray}).get? h'.objs.size=O {cls:=Value.type "list", data:=Data.seq (acc++(rs[i]'hlt).2).toArray}:=QD _ wZ;show Ul _ A.in1 (updateSeq S (λ_=>#[.ref h'.objs.size]) >>= _) _ _ _;refine Qd (wpAny_updateSeq hS1 wZ ?_);have hS2:=Ja (Obj.mapSeq λ_=>#[Value.ref h'.objs.size]) hS1 wZ;refine Qd (wpAny_letGo ?_);refine Qd (wpAny_updateSeq hS2 wZ (Qj ⟨plainId_quiet F.plain_sum_loop _,?_⟩));have oth:∀b o,b≠S->(h'.push {cls:=Value.type "list", data:=Data.seq (acc++(rs[i]'hlt).2).toArray}).get? b=O o->(((h'.push {cls:=Value.type "list", data:=Data.seq (acc++(rs[i]'hlt).2).toArray}).update S (Obj.mapSeq λx=>#[Value.ref h'.objs.size])).update S (Obj.mapSeq λx=>#[Value.ref h'.objs.size])).get? b=O o:=λb o hb e=>(QP _ _ (Ne.symm hb)).trans ((QP _ _ (Ne.symm hb)).trans e)
  refine ih (i+1) _ h'.objs.size (acc++(rs[i]'hlt).2) _ #[] (by omega) hlt ?_ ?_ (Ja _ hS2 wZ) (JK hlS) (JK hlI) ?_ (by rw[Qi];omega) λp h'' tk yR hk'' hp hq=>?_
  .exact λb o e=>oth b o (QM (QE (Qf e) hS)) (hP b o (hK' b o e))
  .obtain⟨o,e,r⟩:=ay
   exact⟨o,oth I o (Ne.symm hIS) (hP I o e),r⟩
  .exact⟨_,oth _ _ (JK hlS) hNew⟩
  .refine hR p h'' tk yR hk'' ?_ (.inr ?_)
   .rw[hd,Qy,QG,←Q0];exact hp
   .rcases hq with ⟨rfl, -,e⟩|hq
    .exact⟨Nat.le_of_lt (Nat.lt_of_le_of_lt hS hlS),e⟩
    .exact hq
end
section
variable{prog:Ug}{w:World}{A:Around}{E:Ue->Uf->Prop}{s:Uf}{l z:Uh}{rs:List (Uh×ya)}
theorem kA(a b:Ue):argsOk "sum" ⟨[a,b],[]⟩:=by unfold argsOk;kernel_rfl
theorem xM{Q:Ue->Uf->Prop}(hh:A.handled=w4)(hl:s.heap.IsList l (rs.map λp=>Value.ref p.1).toArray)(hr:∀p∈rs,Ls s.heap p.1 p.2)(hz:Ls s.heap z [])(hb:(rs.map (·.2)).flatten.length<=Uk)
  (h:∀p h' tk yR,XE s.heap h'->Ls1 h' p (rs.map (·.2)).flatten yR->(p=z/\rs=[]∨s.heap.objs.size<=p/\yR=#[])->Q (.ref p) {s with heap:=h',toks:=tk}) :
  Ul (model prog w) A (call (.builtin "sum") [.ref l,.ref z]) Q E s:=by
 refine call_function_tree F.kind_sum F.plain_sum F.entry_sum (kA _ _) ?_;unfold Builtin.«sum»;simp only[QF,QB];rw[Qw (by decide)];refine Qd (wpAny_of_eq (show Builtin.Builtins.bindParams "sum" ["start"] 0 ⟨[.ref z],[]⟩=pure [O (.ref z)]from rfl) ?_);refine Qd (JN hl ?_);refine Qd (Qj ?_);obtain⟨n,sl,ez⟩:=id hz;have ty:∀h:Heap,h.get? z=O {cls:=.type "list", dict:=w4,data:=.seq [].toArray n,slots:=sl}->({s with heap:=h}:Uf).TypeIs (.ref z) "list" :=λh e=>⟨_,e,rfl⟩
 have ez':(s.heap.push {cls:=.type "list_iterator", data:=.fields #[.ref l,.int 0 0]}).get? z=_:=Qe _ ez;simp only[List.forIn_cons,List.forIn_nil];refine Qd (Qd (Qd (wpAny_isInstance (T:= "list") (b:=w6) (ty _ ez') F.sub_list_str ?_)));simp only[JJ,Ub];refine Qj (Qd (Qd (wpAny_isInstance (T:= "list") (b:=w6) (ty _ ez') F.sub_list_bytes ?_)));simp only[JJ,Ub];refine Qj (Qd (Qd (wpAny_isInstance (T:= "list") (b:=w6) (ty _ ez') F.sub_list_bytearray ?_)));simp only[JJ,Ub];refine Qj (Qj ?_);refine Qd (wpAny_newObj_type ?_);have hzs:=Qf ez;have s1:(s.heap.push {cls:=.type "list_iterator", data:=.fields #[.ref l,.int 0 0]}).objs.size=s.heap.objs.size+1:=Heap.size_push ..;have k2:XE s.heap ((s.heap.push {cls:=.type "list_iterator", data:=.fields #[.ref l,.int 0 0]}).push {cls:=.type "list", data:=.seq #[.ref z]}):=λb o e=>Qe _ (Qe _ e)
 refine Qj ⟨plainId_quiet F.plain_sum_loop _,xN (h0:=s.heap) (l:=l) (I:=s.heap.objs.size) (S:=(s.heap.push {cls:=.type "list_iterator", data:=.fields #[.ref l,.int 0 0]}).objs.size) (rs:=rs) hh (Qq _) (by rw[s1];exact JP _) (by rw[s1];exact Nat.succ_ne_self _) hl hr rs.length 0 _ z [] 0 sl wZ (J0 _)
  k2 ⟨_,Heap.get?_push_of_some _ (Heap.get?_push_size _ wZ),rfl,rfl⟩ (Heap.get?_push_size _ wZ) (by rw[s1];exact Nat.ne_of_lt (Nat.lt_succ_of_lt hzs)) (Nat.ne_of_lt hzs) ⟨n,k2 _ _ ez⟩ (by simpa using hb) λp h' tk yR hk hp hq=>?_⟩
 exact h p h' tk yR hk (by simpa using hp) (hq.imp (λe=>⟨e.1,List.eq_nil_of_length_eq_zero e.2.1.symm⟩) id)
end
section
variable{X:Cx}{pins:List (Uh×Obj)}{σ:St}{H:Hp}{s:Uf}
theorem MZ(I:Inv X pins σ H s):∀{rs:List (Uh×List V)},(∀p∈rs,SqL X.K H p.1 p.2) ->
  ∃ts:List (Uh×ya),(ts.map λp=>Value.ref p.1)=(rs.map λp=>Value.ref p.1)/\(∀p∈ts,Ls s.heap p.1 p.2)/\Vals (rs.map (·.2)).flatten (ts.map (·.2)).flatten
 |[],_=>⟨[],rfl,(λ_ h=>by cases h),(show Vals [] []from Paired.nil)⟩
 |p::rs,h=>by
  obtain⟨ts,e,hl,hv⟩:=MZ I λq hq=>h q (Qp _ hq)
  obtain⟨its,rv,⟨⟨c1,d1,t1,sl⟩,n,e1,ec,ed,et⟩,z⟩:=I.list (h p (Qo ..));simp only at ec ed et;subst ec ed et;refine⟨(p.1,its)::ts,by rw[Qy,Qy,e],λq hq=>?_,?_⟩
  .rcases Qx.1 hq with rfl|hq
   .exact⟨n,sl,e1⟩
   .exact hl q hq
  .rw[Qy,Qy,QG,QG]
   exact rv.append hv
theorem Hk:∀{as:yf}{us:ya},Vals (as.map V.ref) us->us=as.map Value.ref
 |[],_,.nil=>rfl
 |a::as,_,.cons h t=>by cases h;rw[Hk t];rfl
theorem kz(hc:X.calm=w5):Yt X (.builtin "sum") (λxs H Q=>∃l z,∃rs:List (Uh×List V),xs=[.ref l,.ref z]/\SqL X.K H l (rs.map λp=>V.ref p.1)/\(∀p∈rs,SqL X.K H p.1 p.2)/\SqL X.K H z []/\(rs.map (·.2)).flatten.length<=Uk /\
  (rs=[]->Q (.ref z) H)/\∀p,H p=w4->Q (.ref p) (upd H p (.lst (rs.map (·.2)).flatten))):=by
 intro pins s σ H xs us Q I rx h;obtain⟨l,z,rs,rfl,hq,hr,hz,hb,q0,q⟩:=h;obtain⟨u,u',rfl,ru,ru'⟩:=Og rx;cases ru;cases ru';obtain⟨its,rv,pl, -⟩:=I.list hq;obtain⟨ts,e,hl,hv⟩:=MZ I hr;have ei:its=ts.map λp=>Value.ref p.1:=by rw[e];have:=Hk (as:=rs.map (·.1)) (us:=its) (by rw[Q3];exact rv);rw[this,Q3];rfl
 subst ei;obtain⟨zi,rz,⟨⟨c1,d1,t1,sl⟩,n,e1,ec,ed,et⟩, -⟩:=I.list hz;cases rz;simp only at ec ed et;subst ec ed et;have hlen:=hv.length;refine xM (I.ok.hd hc) pl.isList hl ⟨n,sl,e1⟩ (by omega) λp h' tk yR hk hp hq=>?_
 rcases hq with ⟨rfl,rfl⟩|⟨zX,rfl⟩
 .have hr0:rs=[]:=by
   cases rs with
   |nil=>rfl
   |cons a b=>cases e
  exact⟨.ref _,H,I.kept hk,rfl,q0 hr0⟩
 .obtain⟨m,ep⟩:=hp
  exact⟨.ref p,_,I.laid (t':=tk) hk zX (show Zu X.prog X.w _ h' _ (.lst _)from⟨hb,_,m,hv,ep⟩),rfl,q p (I.hok.fresh zX)⟩
noncomputable def WO:w8->Option (List w8)
 |[]=>O []
 |.list xs::r=>(WO r).map (xs :: ·)
 |_=>w4
theorem Gu{K:Frag}{G:Hp}:∀{vs:List V}{ds:w8}{ls:List w8},Reps K G vs ds->WO ds=O ls ->
  ∃rs:List (Uh×List V),vs=(rs.map λp=>V.ref p.1)/\(∀p∈rs,SqL K G p.1 p.2)/\Reps K G (rs.map (·.2)).flatten ls.flatten/\rs.length=ls.length
 |_,_,ls,.nil,e=>by cases e;exact⟨[],rfl,(λ_ h=>by cases h),.nil,rfl⟩
 |_,_,ls,.cons (d:=d) r t,e=>by
  cases d with
  |list xs=>
   unfold WO at e;cases z:WO _ with
   |none=>rw[z]at e;cases e
   |some cs=>
    rw[z]at e;cases e;obtain⟨rs,rfl,h1,h2,h3⟩:=Gu t z;obtain⟨a,ws,rfl,h,rr⟩:=r.lst_inv;refine⟨(a,ws)::rs,rfl,λp hp=>?_,?_,Uc (· + 1) h3⟩
    .rcases Qx.1 hp with rfl|hp
     .exact h
     .exact h1 p hp
    .rw[Qy,QG,QG]
     exact rr.append h2
  |_=>cases e
theorem vv(ls:List w8):WO (ls.map Ur)=O ls:=by
 induction ls with
 |nil=>rfl
 |cons b r ih=>rw[Qy,WO,ih];rfl
noncomputable def Sm:w8->yb
 |[.list ds,.list []]=>(match WO ds with
  |some ls=>if ls.flatten.length<=1000000 then O (.list ls.flatten)else w4
  |none=>w4)
 |_=>w4
theorem ky{xs:w8}{d:D}(h:Sm xs=O d):∃ds ls,xs=[.list ds,.list []]/\WO ds=O ls/\ls.flatten.length<=1000000/\d=.list ls.flatten:=by
 unfold Sm at h;split at h
 .rename_i ds
  cases z:WO ds with
  |none=>rw[z]at h;cases h
  |some ls=>
   rw[z]at h;dsimp only at h;split at h
   .rename_i c
    cases h;exact⟨ds,ls,rfl,z,c,rfl⟩
   .cases h
 .cases h
theorem Dx(hc:X.calm=w5):Yz X (.builtin "sum") Sm:=by
 refine⟨_,kz hc,λvs G H ds d Q s r e k=>?_⟩;obtain⟨ds,ls,rfl,z,c,rfl⟩:=ky e;obtain⟨v,v',rfl,q1,q2⟩:=r.two_inv;obtain⟨l,ws,rfl,h1,r1⟩:=q1.lst_inv;obtain⟨a,ws2,rfl,h2,r2⟩:=q2.lst_inv;have:=r2.nil_inv;subst this;obtain⟨rs,rfl,g1,g2,g3⟩:=Gu r1 z;refine⟨l,a,rs,rfl,s.seq h1,λp hp=>s.seq (g1 p hp),s.seq h2,?_,λe0=>?_,λp hp=>?_⟩
 .rw[g2.length];exact QH c lim
 .subst e0
  have:ls=[]:=List.eq_nil_of_length_eq_zero g3.symm;subst this;exact k _ G H (.refl s) (.lst h2 .nil)
 .exact k _ _ _ (.new s hp) (.lst (SqL.of KG) (g2.mono (Zl (s.free hp))))
end
section
variable{X:Cx}
noncomputable def ZR(ns:w9):w9:=ns.mergeSort λa b=>decide (a<=b)
theorem WC(ns:w9):(ZR ns).Perm ns:=List.mergeSort_perm ..
theorem Hj(ns:w9):(ZR ns).Pairwise (· <= ·):=by have:=List.pairwise_mergeSort (le:=λa b:Int=>decide (a<=b)) (by intro a b c;simp;omega) (by intro a b;simp;omega) ns;exact this.imp (by simp)
theorem MY:∀{a b:w9},a.Perm b->a.Pairwise (· <= ·)->b.Pairwise (· <= ·)->a=b
 |[],b,p,_,_=>by rw[List.nil_perm.1 p]
 |x::a,[],p,_,_=>by have:=p.length_eq;simp at this
 |x::a,y::b,p,ha,hb=>by
  have hx:y<=x:=by
   rcases Qx.1 (p.mem_iff.1 (Qo ..))with e|e
   .exact Int.le_of_eq e.symm
   .exact(Js.1 hb).1 x e
  have hy:x<=y:=by
   rcases Qx.1 (p.mem_iff.2 (Qo ..))with e|e
   .exact Int.le_of_eq e.symm
   .exact(Js.1 ha).1 y e
  have e:=J7 hy hx;subst e;rw[MY (List.Perm.cons_inv p) (Js.1 ha).2 (Js.1 hb).2]
theorem Hi:∀{us:ya}{ns:w9},PyProof.Rows.IntsAre us ns->Vals (ns.map V.int) us
 |_,_,.nil=>Paired.nil
 |_,_,.cons n t h=>Paired.cons ⟨t,rfl⟩ (Hi h)
theorem vq:Yt X (.builtin "sorted") (λxs H Q=>∃l,∃ns:w9,xs=[.ref l]/\SqL X.K H l (ns.map V.int)/\ns.length<64/\∀p,H p=w4->Q (.ref p) (upd H p (.lst ((ZR ns).map V.int)))):=by
 intro pins s σ H xs us Q I rx h;obtain⟨l,ns,rfl,hq,hb,q⟩:=h;obtain⟨u,rfl,ru⟩:=rx.one;cases ru;obtain⟨its,rv,p,hz⟩:=I.list hq;have hi:=W0 rv;have hn:its.length=ns.length:=by have:=rv.length;rw[Qb]at this;omega
 refine sorted_ints p.isList hi (by omega) λout ns' a1 a2 a3=>?_
 obtain⟨e,he⟩:=sortedAll_at s.heap its out;have en:ns'=ZR ns:=MY (a2.trans (WC ns).symm) a3 (Hj ns);subst en;refine⟨.ref (s.heap.objs.size+1),_,I.laid (t':=s.toks) (λb o=>sortedAll_old) (JP _) (show Zu X.prog X.w _ _ _ (.lst ((ZR ns).map V.int))from⟨?_,out.toList,e,Hi a1,he⟩),rfl,q _ (I.hok.fresh (JP _))⟩;rw[Qb,(WC ns).length_eq];rw[Qb]at hz;exact hz
noncomputable def V3:w8->yb
 |[.list ds]=>(match Z9 ds with
  |some ns=>if ns.length<64 then O (.list ((ZR ns).map .int))else w4
  |none=>w4)
 |_=>w4
theorem vp{xs:w8}{d:D}(h:V3 xs=O d):∃ds ns,xs=[.list ds]/\Z9 ds=O ns/\ns.length<64/\d=.list ((ZR ns).map .int):=by
 unfold V3 at h;split at h
 .rename_i ds
  cases z:Z9 ds with
  |none=>rw[z]at h;cases h
  |some ns=>
   rw[z]at h;dsimp only at h;split at h
   .rename_i c
    cases h;exact⟨ds,ns,rfl,z,c,rfl⟩
   .cases h
 .cases h
theorem Hh{K:Frag}{G:Hp}:∀ns:w9,Reps K G (ns.map V.int) (ns.map int)
 |[]=>.nil
 |n::r=>.cons (.int n) (Hh r)
theorem BA:Yz X (.builtin "sorted") V3:=by refine⟨_,vq,λvs G H ds d Q s r e k=>?_⟩;obtain⟨ds,ns,rfl,z,c,rfl⟩:=vp e;obtain⟨v,rfl,q1⟩:=r.one_inv;obtain⟨l,ws,rfl,h1,r1⟩:=q1.lst_inv;have:=SS r1 z;subst this;exact⟨l,ns,rfl,s.seq h1,c,λp hp=>k _ _ _ (.new s hp) (.lst (SqL.of KG) (Hh _))⟩
theorem ku{ns:w9}(h:ns.length<64):V3 [.list (ns.map .int)]=O (.list ((ZR ns).map .int)):=by unfold V3;simp only[Tk,Qm h]
end
@[simp] theorem mBind_ok{α β:Type}{f:M α}{k:α->M β}{Z Z':UI}{x:α}(h:f Z=.ok x Z'):UW f k Z=k x Z':=by unfold UW;rw[h]
theorem Hg{s:D->UI->ye}{g:SM}{P:Nat->UI->Prop}{R:Out->Prop}:∀(ds:w8)(n:Nat)(Z:UI),P n Z ->
  (∀i d Z,ds[i]?=O d->P (n+i) Z->∃Z1,s d Z=O Z1/\((∃Z2,(g Z1=.nx Z2∨g Z1=.ct Z2)/\P (n+i+1) Z2)∨(∃x,g Z1=.rt x/\R (.rt x))∨(∃Z2,g Z1=.bk Z2/\R (.nx Z2)) ∨ ∃Z2 x,g Z1=.ex Z2 x/\R (.ex Z2 x)))->(∀Z,P (n+ds.length) Z->R (.nx Z))->R (Zc s g ds Z)
 |[],n,Z,h,_,f=>f Z h
 |d::r,n,Z,h,st,f=>by
  obtain⟨Z1,e1,e2⟩:=st 0 d Z wZ h;rw[Zc,e1];dsimp only;rcases e2 with ⟨Z2,e2,h2⟩|⟨x,e2,h2⟩|⟨Z2,e2,h2⟩|⟨Z2,x,e2,h2⟩
  .have goal:=Hg (R:=R) r (n+1) Z2 h2 (λi d' Z3 q p=>by
    have e:n+1+i=n+(i+1):=by omega
    rw[e]at p⊢;exact st (i+1) d' Z3 (by simpa using q) p) (λZ3 p=>f Z3 (by
    have e:n+1+r.length=n+(d::r).length:=by rw[QF];omega
    rw[e]at p;exact p))
   rcases e2 with e2|e2<;>(rw[e2];exact goal)
  .rw[e2];exact h2
  .rw[e2];exact h2
  .rw[e2];exact h2
theorem Tf{lo hi:Int}{i:Nat}{d:D}(h:(ZW lo hi)[i]?=O d):d=.int (lo+i)/\(i:Int)<hi-lo:=by have hl:i<(ZW lo hi).length:=(Ql.mp h).1;rw[WD]at hl;unfold ZW at h;rw[Qh,Qg (by rw[Jk];exact hl),List.getElem_range]at h;cases h;exact⟨rfl,by omega⟩
theorem Dw{α:Type}{xs:List α}{i:Int}{v:α}(h0:0<=i)(h:xs[i.toNat]?=O v):atI xs i=O v:=by have:=Zm (xs:=xs) (j:=i.toNat) h;rw[Int.toNat_of_nonneg h0]at this;exact this
section
variable{α β:Type}{Z Z1 Z2 Z3 Z':UI}{f g h:M D}
theorem UM{a:α}:UJ a Z=.ok a Z:=rfl
theorem UO:UG Z=.ok [] Z:=rfl
theorem ZI{o:Option α}{a:α}(h:o=O a):UX o Z=.ok a Z:=by subst h;rfl
theorem KL{f:M α}{k:α->M β}{x:α}{r:Res β}(h:f Z=.ok x Z1)(h2:k x Z1=r):UW f k Z=r:=by unfold UW;rw[h];exact h2
theorem Ko{f:M α}{k:α->β}{x:α}(h:f Z=.ok x Z1):US k f Z=.ok (k x) Z1:=by unfold US UW;rw[h];rfl
theorem UK{i:Nat}{d:D}(h:Z[i]?=O (O (.pub d))):UE i Z=.ok d Z:=by unfold UE;rw[h]
theorem KU{i:Nat}{ds:w8}(h:Z[i]?=O (O (.own ds)))(h2:Z.set i (O (.pub (.list ds)))=Z'):UE i Z=.ok (.list ds) Z':=by unfold UE;rw[h];subst h2;rfl
theorem UU{op:D->D->Option β}{x y:D}{r:β}(h1:f Z=.ok x Z1)(h2:g Z1=.ok y Z2)(h3:op x y=O r):UN op f g Z=.ok r Z2:=by unfold UN;exact KL h1 (KL h2 (ZI h3))
theorem UH{g:M w8}{x:D}{xs:w8}(h1:f Z=.ok x Z1)(h2:g Z1=.ok xs Z2):UF f g Z=.ok (x::xs) Z2:=by unfold UF;exact KL h1 (KL h2 wZ)
theorem ZK{g:M w8}{xs:w8}(h1:g Z=.ok xs Z1)(h2:xs.length<=1000000):Kx g Z=.ok (.tuple xs) Z1:=by unfold Kx;exact KL h1 (by rw[Qm h2];rfl)
theorem Kq{g:M w8}{xs:w8}(h1:g Z=.ok xs Z1)(h2:xs.length<=1000000):UV g Z=.ok (.list xs) Z1:=by unfold UV;exact KL h1 (by rw[Qm h2];rfl)
theorem Yn{g:M w8}{xs:w8}(h1:g Z=.ok xs Z1)(h2:xs.length<=1000000):(UW g λxs=>if xs.length<=1000000 then UJ xs else λ_=>.bad) Z=.ok xs Z1:=
 KL h1 (by rw[Qm h2];rfl)
theorem Kh{i:Nat}{d y r:D}(h:Z[i]?=O (O (.pub d)))(h1:g Z=.ok y Z1)(h2:oIx d y=O r):UQ i g Z=.ok r Z1:=by unfold UQ;rw[h];exact KL h1 (ZI h2)
theorem Sn{i:Nat}{ds es:w8}{y r:D}(h:Z[i]?=O (O (.own ds)))(h1:g Z=.ok y Z1)(h3:Z1[i]?=O (O (.own es)))(h2:oIx (.list es) y=O r):UQ i g Z=.ok r Z1:=by unfold UQ;rw[h];exact KL h1 (by rw[h3];exact ZI h2)
theorem Ze{p:w8->yb}{g:M w8}{xs:w8}{r:D}(h1:g Z=.ok xs Z1)(h2:p xs=O r):K5 p g Z=.ok r Z1:=by unfold K5;exact KL h1 (ZI h2)
theorem U8{n:Nat}{F:w8->yb}{g:M w8}{xs:w8}{r:D}(h1:g Z=.ok xs Z1)(h2:xs.length=n)(h3:F xs=O r):UP n F g Z=.ok r Z1:=by unfold UP;exact KL h1 (by rw[Qm h2];exact ZI h3)
theorem WN{i:Int}(h1:f Z=.ok (.int i) Z1):ZD f Z=.ok (.int (-i)) Z1:=by unfold ZD;exact KL h1 wZ
theorem KT{i:Nat}{d r:D}(h:Z[i]?=O (O (.pub d)))(h2:U7 [d]=O r):KH i Z=.ok r Z:=by unfold KH;rw[h];exact ZI h2
theorem Po{i:Nat}{ds:w8}(h:Z[i]?=O (O (.own ds))):KH i Z=.ok (.int ds.length) Z:=by unfold KH;rw[h]
theorem Ta{g:M w8}{i:Int}{r:w8}(h1:g Z=.ok [.int i] Z1)(h2:Sf [.int i]=O r):Wu g Z=.ok r Z1:=by unfold Wu;exact KL h1 (ZI h2)
theorem MX{g:M w8}{i j:Int}{r:w8}(h1:g Z=.ok [.int i,.int j] Z1)(h2:Se [.int i,.int j]=O r):Rl g Z=.ok r Z1:=by unfold Rl;exact KL h1 (ZI h2)
theorem X9{g:M w8}{xs r:w8}(h1:g Z=.ok xs Z1)(h2:Rc xs=O r):Yy g Z=.ok r Z1:=by unfold Yy;exact KL h1 (ZI h2)
theorem YK{i:Int}(h1:f Z=.ok (.int i) Z1):(UW f λx=>UX (ZU x)) Z=.ok (O i) Z1:=KL h1 wZ
theorem ZA{f:M Bool}{t:Bool}(h1:f Z=.ok t Z1):U5 f Z=.ok (!t) Z1:=Ko h1
theorem Z8{t:Bool}(h1:f Z=.ok (.bool t) Z1):KO f Z=.ok t Z1:=by unfold KO;exact KL h1 wZ
theorem Om{f g:M Bool}{t u:Bool}(h1:f Z=.ok t Z)(h2:t=w5->g Z=.ok u Z):Za f g Z=.ok (t&&u) Z:=by
 unfold Za;refine KL h1 ?_;cases t with
 |true=>rw[Qm wZ];exact h2 wZ
 |false=>rfl
theorem YY{t u:Bool}(h1:f Z=.ok (.bool t) Z)(h2:t=w5->g Z=.ok (.bool u) Z):WH f g Z=.ok (.bool (t&&u)) Z:=by
 unfold WH;refine KL h1 ?_;cases t with
 |true=>exact h2 wZ
 |false=>rfl
theorem Pi{t u:Bool}(h1:f Z=.ok (.bool t) Z)(h2:t=w6->g Z=.ok (.bool u) Z):Y8 f g Z=.ok (.bool (t || u)) Z:=by
 unfold Y8;refine KL h1 ?_;cases t with
 |false=>exact h2 wZ
 |true=>rfl
theorem OF{t:Bool}(h1:f Z=.ok (.bool t) Z1):Rm f Z=.ok (.bool (!t)) Z1:=by unfold Rm;exact KL h1 wZ
theorem Dv{f:M Bool}{g h:M α}{r:Res α}(h1:f Z=.ok w5 Z1)(h2:g Z1=r):mIf f g h Z=r:=by unfold mIf;exact KL h1 (by rw[Qm wZ];exact h2)
theorem Ma{f:M Bool}{g h:M α}{r:Res α}(h1:f Z=.ok w6 Z1)(h2:h Z1=r):mIf f g h Z=r:=by unfold mIf;exact KL h1 (by rw[Qw (by decide)];exact h2)
theorem ET{f:M Bool}{g h:M α}{t:Bool}{x y:α}(h1:f Z=.ok t Z1)(h2:g Z1=.ok x Z1)(h3:h Z1=.ok y Z1):mIf f g h Z=.ok (if t=w5 then x else y) Z1:=by
 unfold mIf;refine KL h1 ?_;cases t with
 |true=>rw[Qm wZ,Qm wZ];exact h2
 |false=>rw[Qw (by decide),Qw (by decide)];exact h3
theorem WS{p q:D->D->yi}{x y z:D}{t u:Bool}(h1:f Z=.ok x Z)(h2:g Z=.ok y Z)(h3:p x y=O t)(h4:t=w5->h Z=.ok z Z)(h5:t=w5->q y z=O u):XV p q f g h Z=.ok (t&&u) Z:=by
 unfold XV;refine KL h1 (KL h2 (KL (ZI h3) ?_));cases t with
 |true=>rw[Qm wZ];exact KL (h4 wZ) (ZI (h5 wZ))
 |false=>rfl
theorem Zj{i j:Int}:U0 (.int i) (.int j)=O (.int (i+j)):=rfl
theorem Yu{x y:w8}(h:x.length+y.length<=1000000):U0 (.list x) (.list y)=O (.list (x++y)):=by unfold U0;exact Qm h
theorem X8{i j:Int}:Zk (.int i) (.int j)=O (.int (i-j)):=rfl
theorem RE{i j:Int}(h1 : -18446744073709551616<i)(h2:i<18446744073709551616):Kn (.int i) (.int j)=O (.int (i*j)):=by unfold Kn Ye;exact Qm (.inl ⟨by omega,by omega⟩)
theorem SG{i j:Int}(h1 : -18446744073709551616<j)(h2:j<18446744073709551616):Kn (.int i) (.int j)=O (.int (i*j)):=by unfold Kn Ye;exact Qm (.inr ⟨by omega,by omega⟩)
theorem PX{x:w8}{k:Int}(h : -1000000<=k/\k<=1000000/\x.length*k.toNat<=1000000):Kn (.list x) (.int k)=O (.list (Uq k.toNat x).flatten):=by unfold Kn;exact Qm h
theorem YX{i j:Int}(h:0<j):KZ (.int i) (.int j)=O (.int (i % j)):=by unfold KZ Vi;exact Qm h
theorem Pu{i j:Int}(h:0<j)(h2:j<18446744073709551616):Y7 (.int i) (.int j)=O (.int (i / j)):=by unfold Y7 Vj;exact Qm ⟨h,h2⟩
theorem Pt{i j:Int}(h:0<=j/\j<=1000000/\i.natAbs<2 ^ 64):YO (.int i) (.int j)=O (.int (i ^ j.toNat)):=by unfold YO Vh;exact Qm h
theorem ZN{i j:Int}:oEq (.int i) (.int j)=O (decide (i=j)):=by unfold oEq;rw[if_pos ⟨rfl,rfl,by simp[Uw]⟩];congr 1
theorem KR{xs:w8}:U7 [.list xs]=O (.int xs.length):=rfl
theorem Py{xs:w8}:U7 [.tuple xs]=O (.int xs.length):=rfl
theorem Bz{i j:Int}:RZ [.int i,.int j]=O (.int (if j > i then j else i)):=rfl
theorem Ti{j:Int}(h1:j<=1000000)(h2 : -1000000<=j):Sf [.int j]=O (ZW 0 j):=by unfold Sf;exact Qm ⟨h1,h2⟩
theorem LS{i j:Int}(h1:j<=1000000)(h2 : -1000000<=j)(h3:i<=1000000)(h4 : -1000000<=i):Se [.int i,.int j]=O (ZW i j):=by unfold Se;exact Qm ⟨h1,h2,h3,h4⟩
theorem Wc{xs:w8}:Rc [.list xs]=O (Z7 0 xs):=rfl
theorem Hf{z:Str}:(Ut z).depth<=60:=by simp[Uw]
theorem KI{i:Nat}{d:D}(h1:f Z=.ok d Z1)(h2:i<Z1.length)(h3:Z1.set i (O (.pub d))=Z'):U3 i f Z=.nx Z':=by unfold U3 K3 sB gN;rw[h1];dsimp only;rw[if_pos h2];subst h3;rfl
theorem Zs{i:Nat}{f:M w8}{ds:w8}(h1:f Z=.ok ds Z1)(h2:i<Z1.length)(h3:Z1.set i (O (.own ds))=Z'):K2 i f Z=.nx Z':=by unfold K2 sB;rw[h1];dsimp only;rw[if_pos h2];subst h3;rfl
theorem WM{i:Nat}{d:D}{yK ds:w8}(h0:Z[i]?=O (O (.own yK)))(h1:f Z=.ok d Z1)(h2:Z1[i]?=O (O (.own ds)))(h3:ds.length<1000000)(h4:Z1.set i (O (.own (ds++[d])))=Z'):ZP i f Z=.nx Z':=by unfold ZP sB;rw[h0];dsimp only;rw[h1];dsimp only;rw[h2];dsimp only;rw[if_pos h3];subst h4;rfl
theorem XT{d:D}{s:D->UI->ye}(h1:f Z=.ok d Z1)(h2:s d Z1=O Z'):K3 f s Z=.nx Z':=by unfold K3 sB;rw[h1];dsimp only;rw[h2]
theorem XZ{d:D}(h1:f Z=.ok d Z1):YZ f Z=.nx Z1:=by unfold YZ sB;rw[h1]
theorem UT{i:Nat}{d:D}(h:i<Z.length)(h2:Z.set i (O (.pub d))=Z'):gN i d Z=O Z':=by unfold gN;rw[Qm h,h2]
theorem KB:gN0 [] Z=O Z:=rfl
theorem U1{s:D->UI->ye}{t:w8->UI->ye}{d:D}{r:w8}(h1:s d Z=O Z1)(h2:t r Z1=O Z'):gNC s t (d::r) Z=O Z':=by unfold gNC;dsimp only;rw[h1];exact h2
theorem Kz{n:Nat}{t:w8->UI->ye}{ds:w8}(h1:ds.length=n)(h2:t ds Z=O Z'):gT n t (.tuple ds) Z=O Z':=by unfold gT;dsimp only;rw[if_pos h1];exact h2
structure Ho(g:SM)(Z:UI)(Q:Out->Prop):Prop where
 out:Q (g Z)
noncomputable def ES(h:SM)(Q:Out->Prop):Out->Prop
 |.nx Z'=>Ho h Z' Q
 |o=>Q o
structure VG(h:SM)(Q:Out->Prop)(o:Out):Prop where
 out:ES h Q o
variable{Q:Out->Prop}{s t u:SM}
theorem Ka(h:Ho s Z (VG t Q)):Ho (UL s t) Z Q:=by
 have h:=h.out.out;constructor;unfold UL;cases e:s Z with
 |nx o=>rw[e]at h;exact h.out
 |_=>rw[e]at h;exact h
theorem U6(h1:s Z=.nx Z1)(h2:Ho t Z1 Q):Ho (UL s t) Z Q:=by
 constructor;unfold UL;rw[h1];exact h2.out
theorem KQ{o:Out}(h1:s Z=o)(h2:Q o):Ho s Z Q:=by constructor;rw[h1];exact h2
theorem Ke(h:Q (.nx Z)):Ho sNx Z Q:=⟨h⟩
theorem Kb{o:UI}(h:Ho t o Q):VG t Q (.nx o):=⟨h⟩
theorem Kj{d:D}(h:Q (.rt d)):VG t Q (.rt d):=⟨h⟩
theorem UZ{f:M Bool}{b:Bool}(h1:f Z=.ok b Z1)(h2:b=w5->Ho s Z1 Q)(h3:b=w6->Ho t Z1 Q):Ho (sIf f s t) Z Q:=by
 constructor;unfold sIf sB;rw[h1];dsimp only
 cases b with
 |true=>rw[Qm wZ];exact(h2 wZ).out
 |false=>rw[Qw (by decide)];exact(h3 wZ).out
theorem UY{d:D}(h1:f Z=.ok d Z1)(h2:Q (.rt d)):Ho (UR f) Z Q:=by constructor;unfold UR sB;rw[h1];exact h2
theorem Sy{P:Out->Prop}(h:Ho s Z P)(k:∀o,P o->Q o):Ho s Z Q:=⟨k _ h.out⟩
noncomputable def F1(I:UI->Prop)(Q:Out->Prop):Out->Prop
 |.nx Z | .ct Z=>I Z
 |.bk Z=>Q (.nx Z)
 |.rt d=>Q (.rt d)
 |.ex Z d=>Q (.ex Z d)
 |.bad=>False
structure VX(I:UI->Prop)(Q:Out->Prop)(o:Out):Prop where
 out:F1 I Q o
theorem Yk{I:UI->Prop}(h:I Z):VX I Q (.nx Z):=⟨h⟩
theorem YE{Z:UI}{d:D}(h:Q (.ex Z d)):VG t Q (.ex Z d):=⟨h⟩
theorem V8{I:UI->Prop}{d:D}(h:Q (.rt d)):VX I Q (.rt d):=⟨h⟩
theorem YB{f:M w8}{tg:D->UI->ye}{ds:w8}(I:Nat->UI->Prop)(h1:f Z=.ok ds Z1)(h0:I 0 Z1)
  (hst:∀i d Z,ds[i]?=O d->I i Z->∃Z2,tg d Z=O Z2/\Ho s Z2 (VX (I (i+1)) Q)) (hend:∀Z,I ds.length Z->Q (.nx Z)):Ho (Km f tg s) Z Q:=by
 constructor;unfold Km sB;rw[h1];dsimp only
 refine Hg (P:=I) (R:=Q) ds 0 Z1 h0 (λi d Z e p=>?_) (λZ p=>hend Z (by rw[JB]at p;exact p));rw[JB]at p;obtain⟨Z2,e2,q⟩:=hst i d Z e p;refine⟨Z2,e2,?_⟩;rw[JB];have q:=q.out.out;cases z:s Z2 with
 |nx o=>rw[z]at q;exact .inl ⟨o,.inl wZ,q⟩
 |ct o=>rw[z]at q;exact .inl ⟨o,.inr wZ,q⟩
 |rt o=>rw[z]at q;exact .inr (.inl ⟨o,rfl,q⟩)
 |bk o=>rw[z]at q;exact .inr (.inr (.inl ⟨o,rfl,q⟩))
 |ex o x=>rw[z]at q;exact .inr (.inr (.inr ⟨o,x,rfl,q⟩))
 |bad=>rw[z]at q;exact q.elim
theorem WL{N:List Str}{ds:w8}{P:D->Prop}(h0:ZV N ds=Z)(h:Ho s Z λo=>∃d,o=.rt d/\P d):∃d,U4 N s ds=O d/\P d:=by subst h0;obtain⟨d,e,p⟩:=h.out;refine⟨d,?_,p⟩;unfold U4;rw[e]
theorem KS{N:List Str}{ds:w8}{d:D}(h0:ZV N ds=Z)(h:Ho s Z λo=>o=.rt d):U4 N s ds=O d:=by obtain⟨d',e,p⟩:=WL (P:=λx=>x=d) h0 (Sy h λo e=>⟨d,e,rfl⟩);rw[e,p]
end
section
variable{α β:Type}{Z Z1 Z2 Z3 Z':UI}{f g h:M D}
theorem X5{l u:M yg}{x r:D}{a b:yg}(h1:f Z=.ok x Z1)(h2:l Z1=.ok a Z2)(h3:u Z2=.ok b Z3)(h4:W5 x a b=O r):Zg f l u Z=.ok r Z3:=by unfold Zg;exact KL h1 (KL h2 (KL h3 (ZI h4)))
theorem K9{f g:M Bool}(h1:f Z=.ok w5 Z1):mOr f g Z=.ok w5 Z1:=by unfold mOr;exact KL h1 wZ
theorem Zt{f g:M Bool}{u:Bool}(h1:f Z=.ok w6 Z1)(h2:g Z1=.ok u Z2):mOr f g Z=.ok u Z2:=by unfold mOr;exact KL h1 (by rw[Qw (by decide)];exact h2)
theorem OE{f g:M Bool}(h1:f Z=.ok w6 Z1):Za f g Z=.ok w6 Z1:=by unfold Za;exact KL h1 wZ
theorem Ps{f g:M Bool}{u:Bool}(h1:f Z=.ok w5 Z1)(h2:g Z1=.ok u Z2):Za f g Z=.ok u Z2:=by unfold Za;exact KL h1 (by rw[Qm wZ];exact h2)
theorem KP{c:String}{d:D}{t:Bool}(h:f Z=.ok d Z1)(ht:(!Kd d c)=t):U5 (KO (US (λd=>.bool (Kd d c)) f)) Z=.ok t Z1:=by subst ht;exact ZA (Z8 (Ko (k:=λd=>Us (Kd d c)) h))
theorem Zv{x:D}{r:w8}(h1:f Z=.ok x Z1)(h2:OP x=O r):KJ f Z=.ok r Z1:=by unfold KJ;exact KL h1 (ZI h2)
theorem K1{p:D->D->Option β}{i:Nat}{d y:D}{r:β}(h:Z[i]?=O (O (.pub d)))(h1:g Z=.ok y Z1)(h2:p d y=O r):Kp p i g Z=.ok r Z1:=by unfold Kp;rw[h];exact KL h1 (ZI h2)
theorem jh{p:D->D->Option β}{i:Nat}{ds es:w8}{y:D}{r:β}(h:Z[i]?=O (O (.own ds)))(h1:g Z=.ok y Z1)(h3:Z1[i]?=O (O (.own es)))(h2:p (.list es) y=O r):Kp p i g Z=.ok r Z1:=by unfold Kp;rw[h];exact KL h1 (by rw[h3];exact ZI h2)
theorem ZS{f:M w8}{k:Nat}{s:D->UI->ye}{t:M Bool}{ds es:w8}(h1:f Z=.ok ds Z1)(h2:KW s t g ds (Kf Z1++Uq k w4) []=O es):Zr f k s t g Z=.ok es Z1:=by unfold Zr;rw[h1];dsimp only;rw[h2]
theorem X1{s:D->UI->ye}{t:M Bool}(p:D->Bool)(q:D->D)(I:UI->Prop):∀(ds:w8)(Z:UI)(es:w8),(∀d∈ds,∀Z,I Z->∃Z1,s d Z=O Z1/\t Z1=.ok (p d) Z1/\(p d=w5->g Z1=.ok (q d) Z1)/\I (Kf Z1))->I Z->es.length+ds.length<=1000000 ->
  KW s t g ds Z es=O (es++(ds.filter p).map q)
 |[],Z,es,_,_,_=>by rw[KW];simp
 |d::r,Z,es,st,h0,hz=>by
  obtain⟨Z1,e1,e2,e3,h1⟩:=st d Qo Z h0;have ih:=λes' hz'=>X1 p q I r (Kf Z1) es' (λd' hd=>st d' (Qp _ hd)) h1 hz';rw[QF]at hz;rw[KW,e1];dsimp only;rw[e2];dsimp only
  cases hp:p d with
  |true=>rw[Qm wZ,e3 hp];dsimp only;rw[Qm (by omega),ih _ (by rw[Qi,Jc];omega),List.filter_cons_of_pos hp,Qy,Q0];rfl
  |false=>rw[Qw (by decide),ih _ (by omega),List.filter_cons_of_neg (by rw[hp];decide)]
theorem V9{j:Nat}{d:D}{k:Int}{yK ds:w8}(h1:f Z=.ok d Z1)(h0:Z1[j]?=O (O (.own yK)))(h2:g Z1=.ok (.int k) Z2)(h3:Z2[j]?=O (O (.own ds)))(h4:0<=k/\k<ds.length)(h5:Z2.set j (O (.own (ds.set k.toNat d)))=Z'):X4 j g f Z=.nx Z':=by unfold X4 sB;rw[h1];dsimp only;rw[h0];dsimp only;rw[h2];dsimp only;rw[h3];dsimp only;rw[if_pos h4];subst h5;rfl
theorem Wb{xs:w8}{a b:yg}:W5 (.list xs) a b=O (.list (DL.cutD xs a b)):=rfl
theorem YJ{xs:w8}:OP (.list xs)=O xs:=rfl
theorem vF(bs:List Bool):VL (bs.map Us)=O bs:=by
 induction bs with
 |nil=>rfl
 |cons b r ih=>rw[Qy,VL,ih];rfl
theorem MW{bs:List Bool}:Yd [.list (bs.map Us)]=O (.bool (bs.all id)):=by unfold Yd;dsimp only;rw[vF];rfl
end
section
variable{α β:Type}{Z Z1 Z2 Z3 Z4 Z':UI}{f g h:M D}{s:SM}
theorem Ol{g:M w8}{xs r:w8}(h1:g Z=.ok xs Z1)(h2:Wg xs=O r):Xx g Z=.ok r Z1:=by unfold Xx;exact KL h1 (ZI h2)
theorem N9{l u t:M yg}{xs:w8}(h1:f Z=.ok (.list xs) Z1)(h2:l Z1=.ok w4 Z2)(h3:u Z2=.ok w4 Z3)(h4:t Z3=.ok (O (-1)) Z4):Wj f l u t Z=.ok (.list xs.reverse) Z4:=by unfold Wj;exact KL h1 (KL h2 (KL h3 (KL h4 (ZI (by unfold W6;exact Qm wZ)))))
theorem SE{i:Nat}{d:D}{ds:w8}(h:Z[i]?=O (O (.pub d)))(h2:Xl [d]=O ds):X6 i Z=.ok ds Z:=by unfold X6;rw[h];exact ZI h2
theorem Rv{N:List Str}{ds:w8}(h0:ZV N ds=Z)(h:Ho s Z λo=>∃Z',o=.nx Z'):U4 N s ds=O .none:=by subst h0;obtain⟨Z',e⟩:=h.out;unfold U4;rw[e]
theorem Xk{i j:Int}:oNe (.int i) (.int j)=O (!decide (i=j)):=by unfold oNe;rw[if_pos ⟨rfl,rfl,by simp[Uw]⟩];congr 1
theorem jg{xs:w9}{j:Nat}{v:Int}:(xs.map int).set j (.int v)=(xs.set j v).map int:=by rw[List.map_set]
theorem O8{xs:w9}{a b:Int}(ha:0<=a)(hb:0<=b)(hl:b<=xs.length):DL.cutD (xs.map int) (O a) (O b)=((xs.drop a.toNat).take (b.toNat-a.toNat)).map int:=by
 unfold DL.cutD HT.sIx;dsimp only;rw[Qw (by omega),Qw (by omega),Qb,List.map_take,List.map_drop];have e2:min b.toNat xs.length=b.toNat:=by omega
 rw[e2];by_cases hab:a.toNat<=xs.length
 .have e1:min a.toNat xs.length=a.toNat:=by omega
  rw[e1]
 .have e3:b.toNat-a.toNat=0:=by omega
  have e4:b.toNat-min a.toNat xs.length=0:=by omega
  rw[e3,e4,List.take_zero,List.take_zero]
theorem Nd{xs ys:w9}:ZJ (xs.map int) (ys.map int)=(xs.zip ys).map λp=>.tuple [.int p.1,.int p.2]:=by unfold ZJ;rw[List.zip_map,Q3];rfl
end
section
variable{Z Z1:UI}
theorem LR{g:M w8}{xs r:w8}(h1:g Z=.ok xs Z1)(h2:Sq xs=O r):Pj g Z=.ok r Z1:=by unfold Pj;exact KL h1 (ZI h2)
theorem HB{xs:w8}:Sq [.list xs]=O (Z7 1 xs):=rfl
end
section
variable{X:Cx}{B G0:Hp}{KX:XW}{e o a b c tg i:Uj}{pos p2:Pos}{es rest:yd}
noncomputable def Wx(f:M Bool)(g:SM):Nat->SM
 |0,_=>.bad
 |n+1,Z=>match f Z with
  |.bad=>.bad
  |.ok t Z1=>if t=w5 then(match g Z1 with
   |.nx Z2=>Wx f g n Z2
   |.ct Z2=>Wx f g n Z2
   |.bk Z2=>.nx Z2
   |.rt d=>.rt d
   |.ex Z2 d=>.ex Z2 d
   |.bad=>.bad)else .nx Z1
theorem jf{body:List Stmt}{f:M Bool}{g:SM}(n:Nat)(hp:PassesOwn (model X.prog X.w) X.A X.env X.xe)(hc:PT X c (tBo X.K B G0 f))(hb:PSs X body (tS X.K B G0 KX g)):PS X (.While c body [] pos) (tS X.K B G0 KX (Wx f g n)):=
 KY (qD hp hc hb) λDn σ H ⟨G,Z,k,a⟩=>by
  refine⟨λm σ' H'=>∃G' Z',EOk X.K B G0 G' H' σ' Z'/\aftS X.K B G0 KX (Wx f g m Z') G' Dn,⟨n,G,Z,k,a⟩,?_⟩;rintro m σ' H' ⟨G',Z',k',a'⟩;cases m with
  |zero=>exact a'.elim
  |succ m=>
   rw[Wx]at a';refine⟨G',Z',k',?_⟩;cases z:f Z' with
   |bad=>rw[z]at a';exact a'.elim
   |ok t Z1=>
    rw[z]at a';dsimp only at a';intro v G1 H1 k1 s1 e1;subst e1;cases v with
    |false=>rw[Qw JI]at a'⊢;exact a' _ G1 H1 k1 s1
    |true=>
     rw[Qm wZ]at a'⊢;refine⟨λσ2 H2=>∃G2 Z2,EOk X.K B G0 G2 H2 σ2 Z2/\aftS X.K B G0 KX (Wx f g m Z2) G2 Dn,λσ2 H2 h2=>⟨m,Nat.lt_succ_self m,h2⟩,G1,Z1,k1,?_⟩;cases z2:g Z1 with
     |nx Z2=>rw[z2]at a';exact λσ4 G4 H4 k4 s4=>⟨G4,Z2,k4,aftS.mono (s1.trans s4) a'⟩
     |ct Z2=>rw[z2]at a';exact λσ4 G4 H4 k4 s4=>⟨G4,Z2,k4,aftS.mono (s1.trans s4) a'⟩
     |bk Z2=>rw[z2]at a';exact λσ4 G4 H4 k4 s4=>a' σ4 G4 H4 k4 (s1.trans s4)
     |rt d=>rw[z2]at a';exact a'
     |ex Z2 d=>rw[z2]at a';exact λv σ4 G4 H4 k4 s4 r4=>a' v σ4 G4 H4 k4 (s1.trans s4) r4
     |bad=>rw[z2]at a';exact a'.elim
noncomputable def Xu(op:Int->Int->yb)(j:Nat)(f:M D):SM:=λZ=>match Z[j]? with
 |some (O (.pub (.int a)))=>sB f (λy Z1=>match y with
  |.int b=>(match op a b with
   |some d=>if j<Z1.length then .nx (Z1.set j (O (.pub d)))else .bad
   |none=>.bad)
  |_=>.bad) Z
 |_=>.bad
def IpD(X:Cx)(op:Operator)(p:Int->Int->yb):Prop:=∃ti,PIp X op ti/\∀i j d,p i j=O d->∃v:V,(∀G,Rep X.K G v d)/\∀H(Q:VK),Q v H->ti (.int i) (.int j) H Q
theorem By:IpD X .Mult Ye:=⟨_,Ah,λi j d e=>by
 unfold Ye at e;split at e
 .rename_i h
  cases e;exact⟨_,λ_=>.int _,λH Q q=>⟨i,j,rfl,rfl,h,q⟩⟩
 .cases e⟩
theorem Du{j:Nat}{x:Str}{op:Operator}{p:Int->Int->yb}{f:M D}{pos':Pos}(hN:X.N.Nodup)(hi:X.N[j]?=O x)(hx:Loc X.env.scope x)(ho:IpD X op p)(he:PE X e (tD X.K B G0 f))(hf:X.fn x=w5∨X.env.scope.names.lookup x=O .local:=by first|exact .inl rfl|exact .inr rfl|assumption) :
  PS X (.AugAssign (.Name x pos') op e pos) (tS X.K B G0 KX (Xu p j f)):=by
 obtain⟨ti,hti,hp⟩:=ho;refine KY (Cr hN hi hx he hti hf) λDn σ H ⟨G,Z,k,a⟩=>?_;unfold Xu at a
 cases q:Z[j]? with
 |none=>rw[q]at a;exact a.elim
 |some o0=>
  cases o0 with
  |none=>rw[q]at a;exact a.elim
  |some sl=>
   cases sl with
   |deep _ _=>rw[q]at a;exact a.elim
   |own ds=>rw[q]at a;exact a.elim
   |pub d0=>
    rw[q]at a;cases d0 with
    |int i0=>
     dsimp only at a;obtain⟨v,h1,h2⟩:=k.pub j _ q;cases h2.int_inv;refine⟨.int i0,h1,G,Z,k,?_⟩;unfold sB at a;cases z:f Z with
     |bad=>rw[z]at a;exact a.elim
     |ok y Z1=>
      rw[z]at a;dsimp only at a;intro u G1 H1 k1 s1 r1;cases y with
      |int i1=>
       cases r1.int_inv;dsimp only at a;cases w:p i0 i1 with
       |none=>rw[w]at a;exact a.elim
       |some d=>
        rw[w]at a;dsimp only at a;split at a
        .rename_i hl
         obtain⟨v',rv,hq⟩:=hp i0 i1 d w;exact hq H1 _ (a _ G1 H1 (k1.setPub (rv G1) hl) s1)
        .exact a.elim
      |_=>exact a.elim
    |_=>exact a.elim
noncomputable def VH(Z:UI)(j:Nat):Option w8:=match Z[j]? with
 |some (O (.own ds))=>O ds
 |_=>w4
theorem Nc{Z:UI}{j:Nat}{ds:w8}(h:VH Z j=O ds):Z[j]?=O (O (.own ds)):=by
 unfold VH at h;split at h
 .rename_i es e;cases h;exact e
 .cases h
theorem LQ{Z:UI}{j:Nat}{ds:w8}(h:Z[j]?=O (O (.own ds))):VH Z j=O ds:=by unfold VH;rw[h]
noncomputable def Wf(j:Nat)(f:M w8):SM:=λZ=>match VH Z j with
 |none=>.bad
 |some _=>sB f (λes Z1=>match VH Z1 j with
  |some ds=>if ds.length+es.length<=1000000 then .nx (Z1.set j (O (.own (ds++es))))else .bad
  |none=>.bad) Z
theorem Dt{j:Nat}{f:M w8}{apos cpos:Pos}(ho:PE X o (Kw j))(he:PE X e (tL X.K B G0 f))
  (hbase:attributeBase o "extend" X.env (eval o X.env)=eval o X.env:=by rfl)
  (hfew:((backTo cpos (Um [e] X.env)).all (λx=>!x.1)&&(backToKw cpos (keywordEach [] X.env)).all (λx=>x.1.isSome)
   && decide ([e].length+([]:List Keyword).length+(if([]:List Keyword).isEmpty then 0 else 1)<30))=w5:=by rfl)
  (hline:(apos.endLine==cpos.line)=w5:=by rfl) (hs:Um [e] X.env=[(w6,eval e X.env)]:=by rfl)
  (hsw:swapsWith (.Call (.Attribute o "extend" apos) [e] [] cpos) w4 pos.line X.env=pure w6:=by rfl) :
  PS X (.Expr (.Call (.Attribute o "extend" apos) [e] [] cpos) pos) (tS X.K B G0 KX (Wf j f)):=
 KY (VM (Rj JO PySem.F.slot_list_extend PySem.F.type_list_extend xw ho (YL he XX (by rw[hs];rfl)) hbase hfew hline (by rw[hs];rfl) wZ) hsw) λD σ H ⟨G,Z,k,a⟩=>by
  unfold Wf at a;cases q0:VH Z j with
  |none=>rw[q0]at a;exact a.elim
  |some yK=>
  rw[q0]at a;dsimp only at a;obtain⟨ad,vs0,h1,h2,h3,h4,h5⟩:=k.own j yK (Nc q0);refine⟨.ref ad,h1,.inl ⟨rfl,_,SqL.of h4⟩,G,Z,k,?_⟩;unfold sB at a;cases z:f Z with
  |bad=>rw[z]at a;exact a.elim
  |ok es Z1=>
  rw[z]at a;dsimp only at a;intro b zs G1 H1 k1 s1 n1;cases q1:VH Z1 j with
  |none=>rw[q1]at a;exact a.elim
  |some ds=>
  rw[q1]at a;dsimp only at a;split at a
  .rename_i hl
   obtain⟨ad1,vs,g1,g2,g3,g4,g5⟩:=k1.own j ds (Nc q1);rw[h1]at g1;cases g1;refine⟨ad,b,vs,zs,rfl,rfl,g4,n1.h,by rw[g5.length,n1.r.length];exact QH hl lim,?_⟩;exact a σ G1 _ (k1.change (Nc q1) h1 (g5.append n1.r)) s1
  .exact a.elim
end
section
variable{X:Cx}{B G0:Hp}{e o a b c tg i:Uj}{pos p2:Pos}{es rest:yd}
theorem kr(hc:X.calm=w5):Yt X (.builtin "sum") (λxs H Q=>∃l,∃ns:w9,xs=[.ref l]/\SqL X.K H l (ns.map V.int)/\Q (.int ns.sum) H):=by
 intro pins s σ H xs us Q I rx h;obtain⟨l,ns,rfl,hq,q⟩:=h;obtain⟨u,rfl,ru⟩:=rx.one;cases ru;obtain⟨its,rv,p,hz⟩:=I.list hq;have hi:=W0 rv;obtain⟨ys,e⟩:=hi.allInts.items;have hns:ns=ys.toList.map (·.1):=by rw[←hi.numsOf,←nums_intItems,←e]
 have hl:=p.isList;rw[e]at hl;refine sum_intListG (I.ok.hd hc) hl λh' tk t' hk=>?_
 have e2:preSum (numAt ys) ys.size=ns.sum:=by rw[preSum_eq,List.take_of_length_le (by simp),hns]
 rw[e2];exact⟨.int ns.sum,H,I.kept hk,⟨t',rfl⟩,q⟩
noncomputable def VW:w8->yb
 |[.list ds]=>(Z9 ds).map λns=>.int ns.sum
 |_=>w4
theorem kq{xs:w8}{d:D}(h:VW xs=O d):∃ds ns,xs=[.list ds]/\Z9 ds=O ns/\d=.int ns.sum:=by
 unfold VW at h;split at h
 .rename_i ds
  cases z:Z9 ds with
  |none=>rw[z]at h;cases h
  |some ns=>rw[z]at h;cases h;exact⟨ds,ns,rfl,z,rfl⟩
 .cases h
theorem Ds(hc:X.calm=w5):Yz X (.builtin "sum") VW:=by refine⟨_,kr hc,λvs G H ds d Q s r e k=>?_⟩;obtain⟨ds,ns,rfl,z,rfl⟩:=kq e;obtain⟨v,rfl,q1⟩:=r.one_inv;obtain⟨l,ws,rfl,h1,r1⟩:=q1.lst_inv;have:=SS r1 z;subst this;exact⟨l,ns,rfl,s.seq h1,k _ G H (.refl s) (.int _)⟩
theorem je{ns:w9}:VW [.list (ns.map .int)]=O (.int ns.sum):=by unfold VW;dsimp only;rw[Tk];rfl
theorem ko:MtR X "list.index" (λv vs H Q=>∃l k,∃ns:w9,v=.ref l/\vs=[.int k]/\SqL X.K H l (ns.map V.int)/\PyData.layable0 (.list (ns.map .int))=w5/\k∈ns/\Q (.int (ns.idxOf k:Nat)) H):=by intro pins s σ H x vs v us Q I rx rv h;obtain⟨l,k,ns,rfl,rfl,hq,hl,hk,q⟩:=h;cases rx;obtain⟨u,rfl,ru⟩:=rv.one;obtain⟨t,rfl⟩:=ru;obtain⟨its,rv,p,hz⟩:=I.list hq;exact index_list_ints p.isList (W0 rv) hl hk ⟨.int _,H,I.tok _,⟨_,rfl⟩,q⟩
noncomputable def Sx(y:D)(xs:w8):yb:=match y,xs with
 |.list ds,[.int k]=>(match Z9 ds with
  |some ns=>if PyData.layable0 (.list (ns.map .int))=w5/\k∈ns then O (.int (ns.idxOf k:Nat))else w4
  |none=>w4)
 |_,_=>w4
theorem vE{ds xs:w8}{d:D}(h:Sx (.list ds) xs=O d):∃k ns,xs=[.int k]/\Z9 ds=O ns/\PyData.layable0 (.list (ns.map .int))=w5/\k∈ns/\d=.int (ns.idxOf k:Nat):=by
 unfold Sx at h;split at h
 .rename_i ds' k e1
  cases e1;cases z:Z9 ds with
  |none=>rw[z]at h;cases h
  |some ns=>
   rw[z]at h;dsimp only at h;split at h
   .rename_i c
    cases h;exact⟨k,ns,rfl,rfl,c.1,c.2,rfl⟩
   .cases h
 .cases h
noncomputable def Ph(f:M D)(g:M w8):M D:=UW f λy=>UW g λxs=>UX (match y with | .list ds=>Sx (.list ds) xs|_=>w4)
theorem kn{apos cpos:Pos}{f:M D}{g:M w8}(ho:PE X o (tD X.K B G0 f))(ha:PA X (e::es) (tDs X.K B G0 g))
  (hbase:attributeBase o "index" X.env (eval o X.env)=eval o X.env:=by rfl)
  (hfew:((backTo cpos (Um (e::es) X.env)).all (λx=>!x.1)&&(backToKw cpos (keywordEach [] X.env)).all (λx=>x.1.isSome)
   && decide ((e::es).length+([]:List Keyword).length+(if([]:List Keyword).isEmpty then 0 else 1)<30))=w5:=by rfl)
  (hline:(apos.endLine==cpos.line)=w5:=by rfl) (hs:Um (e::es) X.env=(w6,eval e X.env)::Um es X.env:=by rfl) (hplain:(backTo cpos (Um es X.env)).any (·.1)=w6:=by rfl) :
  PE X (.Call (.Attribute o "index" apos) (e::es) [] cpos) (tD X.K B G0 (Ph f g)):=
 Ki (Rj JO F.slot_list_index F.type_list_index ko ho ha hbase hfew hline hs hplain) λσ H Q q=>by
  refine tM.one (R:=Rep X.K) q λv H2 G Z y k r a=>?_
  cases y with
  |list ds=>
   obtain⟨l,ws,rfl,h1,r1⟩:=r.lst_inv;refine⟨.inl ⟨rfl,ws,k.gh.seq h1⟩,?_⟩;refine tM.nx (R:=Reps X.K) k a λxs H3 G3 Z3 es k3 s3 r3 a3=>?_
   obtain⟨d,e,a3⟩:=a3.opt;obtain⟨x,ns,rfl,z,hl,hk,rfl⟩:=vE e;obtain⟨u,rfl,ru⟩:=r3.one_inv;have:=SS r1 z;subst this;exact⟨l,x,ns,rfl,by rw[ru.int_inv],k3.gh.seq (s3.seq h1),hl,hk,aft.now a3 k3 (.int _)⟩
  |_=>
   unfold UW at a;cases z:g Z with
   |bad=>rw[z]at a;exact a.elim
   |ok xs Z1=>rw[z]at a;exact a.elim
theorem jd{f:M D}{g:M w8}{Z Z1 Z2:UI}{ds:w8}{x d:D}(h1:f Z=.ok (.list ds) Z1)(h2:g Z1=.ok [x] Z2)(h3:Sx (.list ds) [x]=O d):Ph f g Z=.ok d Z2:=by unfold Ph UW;rw[h1];dsimp only;rw[h2];dsimp only;rw[h3];rfl
theorem vD:bootBuiltins "tuple" = O (.type "tuple"):=by decide +kernel
end
end DL
namespace DL
open PySem PySem.Spec PySem.W PyProof.Rows
noncomputable def Kc{α:Type}(lt:Nat->Nat->Bool):KasT α->α
 |.ret a=>a
 |.ask i j k=>Kc lt (k (lt i j))
theorem SL{α β:Type}{lt:Nat->Nat->Bool}{f:α->KasT β}:∀t:KasT α,Kc lt (t.bind f)=Kc lt (f (Kc lt t))
 |.ret _=>rfl
 |.ask i j k=>by show Kc lt ((k (lt i j)).bind f)=_;rw[SL];rfl
section
variable{key:Nat->Int}{p:Array Nat}
noncomputable def KA(key:Nat->Int)(p:Array Nat)(i:Nat):Int:=key (p.getD i 0)
def srt(key:Nat->Int)(p:Array Nat)(m:Nat):Prop:=∀i j,i<=j->j<m->KA key p i<=KA key p j
def dsc(key:Nat->Int)(p:Array Nat)(m:Nat):Prop:=∀i j,i<=j->j<m->KA key p j<=KA key p i
noncomputable abbrev kl(key:Nat->Int)(i j:Nat):Bool:=decide (key i<key j)
theorem HA{k d i:Nat}(hk:k<p.size)(hd:d<=k):KA key (bubble p k d) i=if i=k-d then KA key p k else if k-d<i/\i<=k then KA key p (i-1)else KA key p i:=by
 unfold KA;simp only[Jb];rw[getElem?_bubble hk d hd]
 repeat' split
 all_goals rfl
theorem RA{i j k:Nat}(hj:j<=p.size):KA key (kas_rev p i j) k=if i<=k/\k<j then KA key p (i+j-1-k)else KA key p k:=by
 unfold KA kas_rev;simp only[Jb];rw[getElem?_mirror_all hj]
 split<;>rfl
theorem V7{i j:Nat}:(kas_rev p i j).size=p.size:=mirror_size _ _ _ _
theorem WR{i j:Nat}:(kas_rev p i j).Perm p:=mirror_perm _ _ _ _
theorem O7:∀(f n:Nat),1<=n->srt key p n->srt key p (Kc (kl key) (kas_asc p f n))/\n<=Kc (kl key) (kas_asc p f n)/\Kc (kl key) (kas_asc p f n)<=n+f /\
  (Kc (kl key) (kas_asc p f n)<n+f->KA key p (Kc (kl key) (kas_asc p f n))<KA key p (Kc (kl key) (kas_asc p f n)-1))
 |0,n,h1,hs=>⟨hs,Qq _,Qq _,λh=>absurd h (Jy _)⟩
 |f+1,n,h1,hs=>by
  unfold kas_asc Kc;cases c:kl key (p.getD n 0) (p.getD (n-1) 0)with
  |true=>dsimp only;rw[Qm wZ];exact⟨hs,Qq _,by show n<=n+(f+1);omega,λ_=>Qa c⟩
  |false=>
   dsimp only;rw[Qw (by decide)];have hle:KA key p (n-1)<=KA key p n:=Ud.mp (Q8 c)
   obtain⟨a1,a2,a3,a4⟩:=O7 f (n+1) (by omega) (λi j hij hj=>by
    by_cases zZ:j=n
    .subst zZ
     by_cases hin:i=j
     .subst hin;exact JM _
     .exact Int.le_trans (hs i (j-1) (by omega) (by omega)) hle
    .exact hs i j hij (by omega))
   exact⟨a1,by omega,by omega,λh=>a4 (by omega)⟩
def eqs(key:Nat->Int)(p:Array Nat)(n q:Nat):Prop:=∀i,n-1-q<=i->i<n->KA key p i=KA key p (n-1)
theorem PL:∀(f:Nat)(p:Array Nat)(n q:Nat),1<=n->q+1<=n->n+f<=p.size->dsc key p n->eqs key p n q ->
  let r:=Kc (kl key) (kas_desc f p n q)
  r.1.Perm p/\r.1.size=p.size/\dsc key r.1 r.2.1/\eqs key r.1 r.2.1 r.2.2/\r.2.2+1<=r.2.1/\n<=r.2.1/\r.2.1<=n+f
 |0,p,n,q,h1,hq,hz,hd,he=>⟨J8 _,rfl,hd,he,hq,Qq _,Qq _⟩
 |f+1,p,n,q,h1,hq,hz,hd,he=>by
  intro r;have hr:r=Kc (kl key) (kas_desc (f+1) p n q):=rfl;unfold kas_desc Kc at hr;cases c:kl key (p.getD n 0) (p.getD (n-1) 0)with
  |true=>
   rw[c]at hr;(try dsimp only at hr);rw[if_pos wZ]at hr;have hlt:KA key p n<KA key p (n-1):=Qa c
   have ext:∀p':Array Nat,(∀i,KA key p' i=KA key p i)->dsc key p' (n+1)/\eqs key p' (n+1) 0:=λp' hp=>⟨λi j hij hj=>by
     rw[hp,hp];by_cases zZ:j=n
     .subst zZ
      by_cases hin:i=j
      .subst hin;exact JM _
      .exact Int.le_trans (Int.le_of_lt hlt) (hd i (j-1) (by omega) (by omega))
     .exact hd i j hij (by omega),λi hi1 hi2=>by
     have:i=n:=by omega
     subst this;rfl⟩
   by_cases hq0:q > 0
   .rw[Qm hq0]at hr
    have same:∀i,KA key (kas_rev p (n-(q+1)) n) i=KA key p i:=λi=>by
     rw[RA (by omega)];split
     .rw[he _ (by omega) (by omega),he i (by omega) (by omega)]
     .rfl
    obtain⟨d1,e1⟩:=ext _ same;obtain⟨a1,a2,a3,a4,a5,a6,a7⟩:=PL f (kas_rev p (n-(q+1)) n) (n+1) 0 (by omega) (by omega) (by rw[V7];omega) d1 e1;rw[←hr]at a1 a2 a3 a4 a5 a6 a7;exact⟨a1.trans WR,a2.trans V7,a3,a4,a5,by omega,by omega⟩
   .rw[Qw hq0]at hr
    obtain⟨d1,e1⟩:=ext p λ_=>rfl
    obtain⟨a1,a2,a3,a4,a5,a6,a7⟩:=PL f p (n+1) 0 (by omega) (by omega) (by omega) d1 e1;rw[←hr]at a1 a2 a3 a4 a5 a6 a7;exact⟨a1,a2,a3,a4,a5,by omega,by omega⟩
  |false=>
   rw[c]at hr;(try dsimp only at hr);rw[if_neg (by decide)]at hr;unfold Kc at hr;have hle:KA key p (n-1)<=KA key p n:=Ud.mp (Q8 c);cases d:kl key (p.getD (n-1) 0) (p.getD n 0)with
   |true=>rw[d]at hr;(try dsimp only at hr);rw[if_pos wZ]at hr;unfold Kc at hr;rw[hr];exact⟨J8 _,rfl,hd,he,hq,Qq _,by show n<=n+(f+1);omega⟩
   |false=>
    rw[d]at hr;(try dsimp only at hr);rw[if_neg (by decide)]at hr;have hge:KA key p n<=KA key p (n-1):=Ud.mp (Q8 d)
    obtain⟨a1,a2,a3,a4,a5,a6,a7⟩:=PL f p (n+1) (q+1) (by omega) (by omega) (by omega) (λi j hij hj=>by
     by_cases zZ:j=n
     .subst zZ
      by_cases hin:i=j
      .subst hin;exact JM _
      .exact Int.le_trans hge (hd i (j-1) (by omega) (by omega))
     .exact hd i j hij (by omega)) (λi hi1 hi2=>by
     have e0:KA key p n=KA key p (n-1):=J7 hge hle;show KA key p i=KA key p (n+1-1);rw[Nat.add_sub_cancel,e0];by_cases hin:i=n
     .subst hin;exact e0
     .exact he i (by omega) (by omega))
    rw[←hr]at a1 a2 a3 a4 a5 a6 a7;exact⟨a1,a2,a3,a4,a5,by omega,by omega⟩
theorem HH{n nrem:Nat}(h1:1<=n)(hn:n<=nrem)(hz:nrem<=p.size)(hd:dsc key p n) :
  let r:=Kc (kl key) (kas_tail3 n nrem p)
  r.2.Perm p/\r.2.size=p.size/\srt key r.2 r.1/\1<=r.1/\r.1<=nrem:=by
 intro r;have hr:r=Kc (kl key) (kas_tail3 n nrem p):=rfl;unfold kas_tail3 at hr;rw[SL]at hr;have hs:srt key (kas_rev p 0 n) n:=λi j hij hj=>by rw[RA (by omega),RA (by omega),Qm (by omega),Qm (by omega)];exact hd _ _ (by omega) (by omega)
 obtain⟨a1,a2,a3,_⟩:=O7 (key:=key) (p:=kas_rev p 0 n) (nrem-n) n h1 hs;rw[hr];exact⟨WR,V7,a1,by show 1<=Kc _ _;omega,by show Kc _ _<=_;omega⟩
theorem GN{n nrem:Nat}(h1:1<=n)(hn:n+1<=nrem)(hz:nrem<=p.size)(hd:dsc key p (n+1)) :
  let r:=Kc (kl key) (kas_descPart n nrem p)
  r.2.Perm p/\r.2.size=p.size/\srt key r.2 r.1/\1<=r.1/\r.1<=nrem:=by
 intro r;have hr:r=Kc (kl key) (kas_descPart n nrem p):=rfl;unfold kas_descPart at hr;rw[SL]at hr
 obtain⟨a1,a2,a3,a4,a5,a6,a7⟩:=PL (key:=key) (nrem-(n+1)) p (n+1) 0 (by omega) (by omega) (by omega) hd (λi hi1 hi2=>by
  have:i=n:=by omega
  subst this;rfl)
 generalize Kc (kl key) (kas_desc (nrem-(n+1)) p (n+1) 0)=d at hr a1 a2 a3 a4 a5 a6 a7;obtain⟨p1,n1,q1⟩:=d;dsimp only at hr a1 a2 a3 a4 a5 a6 a7;by_cases hq:q1 > 0
 .rw[Qm hq]at hr
  have same:∀i,KA key (kas_rev p1 (n1-(q1+1)) n1) i=KA key p1 i:=λi=>by
   rw[RA (by omega)];split
   .rw[a4 _ (by omega) (by omega),a4 i (by omega) (by omega)]
   .rfl
  obtain⟨b1,b2,b3,b4,b5⟩:=HH (key:=key) (p:=kas_rev p1 (n1-(q1+1)) n1) (n:=n1) (nrem:=nrem) (by omega) (by omega) (by rw[V7];omega) (λi j hij hj=>by rw[same,same];exact a3 i j hij hj);rw[hr];exact⟨(b1.trans WR).trans a1,(b2.trans V7).trans a2,b3,b4,b5⟩
 .rw[Qw hq]at hr
  obtain⟨b1,b2,b3,b4,b5⟩:=HH (key:=key) (p:=p1) (n:=n1) (nrem:=nrem) (by omega) (by omega) (by omega) a3;rw[hr];exact⟨b1.trans a1,b2.trans a2,b3,b4,b5⟩
theorem vo{nrem:Nat}(h1:1<=nrem)(hz:nrem<=p.size) :
  let r:=Kc (kl key) (kas_count nrem p)
  r.2.Perm p/\r.2.size=p.size/\srt key r.2 r.1/\1<=r.1/\r.1<=nrem:=by
 intro r;have hr:r=Kc (kl key) (kas_count nrem p):=rfl;unfold kas_count at hr;rw[SL]at hr
 obtain⟨a1,a2,a3,a4⟩:=O7 (key:=key) (p:=p) (nrem-1) 1 (Qq _) (λi j hij hj=>by
  have:i=j:=by omega
  subst this;exact JM _)
 generalize Kc (kl key) (kas_asc p (nrem-1) 1)=n at hr a1 a2 a3 a4;by_cases hn:(n==nrem)=w5
 .rw[Qm hn]at hr
  unfold Kc at hr;rw[hr];exact⟨J8 _,rfl,a1,a2,by show n<=nrem;omega⟩
 .rw[Qw hn]at hr
  have hne:n≠nrem:=by simpa using hn
  have hlt:=a4 (by omega);by_cases hn1:n > 1
  .rw[Qm hn1]at hr
   unfold Kc at hr;cases c:kl key (p.getD 0 0) (p.getD (n-1) 0)with
   |true=>rw[c]at hr;(try dsimp only at hr);rw[if_pos wZ]at hr;unfold Kc at hr;rw[hr];exact⟨J8 _,rfl,a1,a2,by show n<=nrem;omega⟩
   |false=>
    rw[c]at hr;(try dsimp only at hr);rw[if_neg (by decide)]at hr;have hge:KA key p (n-1)<=KA key p 0:=Ud.mp (Q8 c);have all:∀i,i<n->KA key p i=KA key p 0:=λi hi=>J7 (Int.le_trans (a1 i (n-1) (by omega) (by omega)) hge) (a1 0 i (by omega) hi)
    have same:∀i,KA key (kas_rev p 0 n) i=KA key p i:=λi=>by
     rw[RA (by omega)];split
     .rw[all _ (by omega),all i (by omega)]
     .rfl
    obtain⟨b1,b2,b3,b4,b5⟩:=GN (key:=key) (p:=kas_rev p 0 n) (n:=n) (nrem:=nrem) a2 (by omega) (by rw[V7];exact hz) (λi j hij hj=>by
     rw[same,same];by_cases zZ:j=n
     .subst zZ
      by_cases hin:i=j
      .subst hin;exact JM _
      .rw[all i (by omega)]
       rw[all (j-1) (by omega)]at hlt;exact Int.le_of_lt hlt
     .rw[all i (by omega),all j (by omega)];exact JM _)
    rw[hr];exact⟨b1.trans WR,b2.trans V7,b3,b4,b5⟩
  .rw[Qw hn1]at hr
   have:n=1:=by omega
   subst this
   obtain⟨b1,b2,b3,b4,b5⟩:=GN (key:=key) (p:=p) (n:=1) (nrem:=nrem) (Qq _) (by omega) hz (λi j hij hj=>by
    by_cases hij2:i=j
    .subst hij2;exact JM _
    .have h0:i=0:=by omega
     have h1:j=1:=by omega
     subst h0;subst h1;exact Int.le_of_lt hlt)
   rw[hr];exact⟨b1,b2,b3,b4,b5⟩
theorem No{k:Nat}(hs:srt key p k):∀(f l r:Nat),l<=r->r<=k->r-l<=f->(∀i,i<l->KA key p i<=KA key p k)->(∀i,r<=i->i<k->KA key p k<KA key p i) ->
  let m:=Kc (kl key) (kas_place p k f l r)
  m<=k/\(∀i,i<m->KA key p i<=KA key p k)/\(∀i,m<=i->i<k->KA key p k<KA key p i)
 |0,l,r,hlr,hrk,hf,h1,h2=>⟨by show l<=k;omega,h1,λi (hi:l<=i)=>h2 i (by omega)⟩
 |f+1,l,r,hlr,hrk,hf,h1,h2=>by
  intro m;have hm:m=Kc (kl key) (kas_place p k (f+1) l r):=rfl;unfold kas_place at hm;by_cases hge:l ≥ r
  .rw[Qm hge]at hm
   unfold Kc at hm;rw[hm];exact⟨by omega,h1,λi hi=>h2 i (by omega)⟩
  .rw[Qw hge]at hm
   unfold Kc at hm;cases c:kl key (p.getD k 0) (p.getD ((l+r) / 2) 0)with
   |true=>rw[c]at hm;(try dsimp only at hm);rw[if_pos wZ]at hm;rw[hm];have hlt:KA key p k<KA key p ((l+r) / 2):=Qa c;exact No hs f l ((l+r) / 2) (by omega) (by omega) (by omega) h1 λi hi hik=>Int.lt_of_lt_of_le hlt (hs _ _ hi hik)
   |false=>rw[c]at hm;(try dsimp only at hm);rw[if_neg (by decide)]at hm;rw[hm];have hle:KA key p ((l+r) / 2)<=KA key p k:=Ud.mp (Q8 c);exact No hs f ((l+r) / 2+1) r (by omega) hrk (by omega) (λi hi=>Int.le_trans (hs i ((l+r) / 2) (by omega) (by omega)) hle) h2
theorem LN:∀(f:Nat)(p:Array Nat)(k:Nat),k+f<=p.size->srt key p k->let r:=Kc (kl key) (kas_bin f p k);r.Perm p/\r.size=p.size/\srt key r (k+f)
 |0,p,k,_,hs=>⟨J8 _,rfl,hs⟩
 |f+1,p,k,hz,hs=>by
  intro r;have hr:r=Kc (kl key) (kas_bin (f+1) p k):=rfl;unfold kas_bin at hr;rw[SL]at hr;obtain⟨a1,a2,a3⟩:=No (key:=key) hs k 0 k (J0 _) (Qq _) (by omega) (λi hi=>by omega) (λi h1 h2=>by omega);generalize Kc (kl key) (kas_place p k k 0 k)=l at hr a1 a2 a3;have hk:k<p.size:=by omega
  obtain⟨b1,b2,b3⟩:=LN f (bubble p k (k-l)) (k+1) (by rw[bubble_size];omega) (λi j hij hj=>by
   rw[HA hk (by omega),HA hk (by omega),show k-(k-l)=l by omega];by_cases hi:i=l
   .rw[Qm hi]
    by_cases yS:j=l
    .rw[Qm yS];exact JM _
    .rw[Qw yS,Qm (by omega)]
     exact Int.le_of_lt (a3 (j-1) (by omega) (by omega))
   .rw[Qw hi]
    by_cases hi2:l<i/\i<=k
    .rw[Qm hi2,Qw (show ¬j=l by omega),Qm (by omega)]
     exact hs _ _ (by omega) (by omega)
    .rw[Qw hi2]
     by_cases yS:j=l
     .rw[Qm yS];exact a2 i (by omega)
     .rw[Qw yS]
      split
      .exact hs _ _ (by omega) (by omega)
      .exact hs _ _ (by omega) (by omega))
  rw[hr];exact⟨b1.trans (bubble_perm _ _ _),b2.trans (bubble_size _ _ _),by rw[show k+(f+1)=k+1+f by omega];exact b3⟩
theorem km{n:Nat}(h1:1<=n):let r:=Kc (kl key) (kas_sort n);r.Perm (List.toArray (Up n))/\r.size=n/\srt key r n:=by
 intro r;have hr:r=Kc (kl key) (kas_sort n):=rfl;unfold kas_sort at hr;rw[SL]at hr;have hsz:(List.toArray (Up n)).size=n:=by simp
 obtain⟨a1,a2,a3,a4,a5⟩:=vo (key:=key) (p:=List.toArray (Up n)) (nrem:=n) h1 (by rw[hsz];exact Qq _);generalize Kc (kl key) (kas_count n (List.toArray (Up n)))=d at hr a1 a2 a3 a4 a5;by_cases hlt:d.1<n
 .rw[Qm hlt]at hr
  have hmax:max d.1 1=d.1:=by omega
  rw[hmax]at hr;obtain⟨b1,b2,b3⟩:=LN (key:=key) (n-d.1) d.2 d.1 (by omega) a3;rw[hr];exact⟨b1.trans a1,by omega,by rw[show d.1+(n-d.1)=n by omega]at b3;exact b3⟩
 .rw[Qw hlt]at hr
  unfold Kc at hr;rw[hr];exact⟨a1,by omega,by rw[show d.1=n by omega]at a3;exact a3⟩
noncomputable def Asks{α:Type}(N:Nat)(R:α->Prop):KasT α->Prop
 |.ret a=>R a
 |.ask i j k=>i<N/\j<N/\∀b,Asks N R (k b)
theorem Asks.bind{α β:Type}{N:Nat}{R:α->Prop}{S:β->Prop}{f:α->KasT β}(hf:∀a,R a->Asks N S (f a)):∀{t:KasT α},Asks N R t->Asks N S (t.bind f)
 |.ret a,h=>hf a h
 |.ask _ _ k,⟨h1,h2,h3⟩=>⟨h1,h2,λb=>Asks.bind hf (h3 b)⟩
theorem LA{α:Type}{lt:Nat->Nat->Bool}{cmp:Nat->Nat->(Bool->Uf->Prop)->Uf->Prop}{s:Uf}{N:Nat}{R:α->Prop}(hc:∀i j C,i<N->j<N->C (lt i j) s->cmp i j C s):∀(t:KasT α)(Q:α->Uf->Prop),Asks N R t->Q (Kc lt t) s->t.kasWp cmp Q s
 |.ret _,_,_,h=>h
 |.ask i j k,Q,⟨h1,h2,h3⟩,h=>hc i j _ h1 h2 (LA hc (k (lt i j)) Q (h3 _) h)
def bnd(N:Nat)(p:Array Nat):Prop:=∀i,p.getD i 0<N
theorem SD{N:Nat}{p q:Array Nat}(hN:0<N)(h:bnd N p)(e:q.Perm p):bnd N q:=λi=>by
 rw[Jb];cases z:q[i]? with
 |none=>exact hN
 |some v=>have hm:v∈q:=Array.mem_of_getElem? z;have hm2:v∈p:=e.mem_iff.mp hm;obtain⟨j,hj,e2⟩:=Array.mem_iff_getElem.mp hm2;have:=h j;rw[Jb,JR hj,e2]at this;exact this
section
variable{N:Nat}(hN:0<N)
include hN
theorem O6{p:Array Nat}(h:bnd N p):∀(f n:Nat),Asks N (λ_=>True) (kas_asc p f n)
 |0,_=>trivial
 |f+1,n=>⟨h _,h _,λb=>by
  cases b with
  |true=>(try dsimp only);rw[if_pos wZ];trivial
  |false=>(try dsimp only);rw[if_neg (by decide)];exact O6 h f (n+1)⟩
theorem PK:∀(f:Nat)(p:Array Nat)(n q:Nat),bnd N p->Asks N (λr=>bnd N r.1) (kas_desc f p n q)
 |0,p,_,_,h=>h
 |f+1,p,n,q,h=>⟨h _,h _,λb=>by
  cases b with
  |true=>
   dsimp only;rw[Qm wZ];split
   .exact PK f _ _ _ (SD hN h WR)
   .exact PK f _ _ _ h
  |false=>
   dsimp only;rw[Qw (by decide)];refine⟨h _,h _,λb=>?_⟩;cases b with
   |true=>(try dsimp only);rw[if_pos wZ];exact h
   |false=>(try dsimp only);rw[if_neg (by decide)];exact PK f _ _ _ h⟩
theorem HG{p:Array Nat}{n nrem:Nat}(h:bnd N p):Asks N (λr=>bnd N r.2) (kas_tail3 n nrem p):=
 Asks.bind (N:=N) (R:=λ_=>True) (S:=λr:Nat×Array Nat=>bnd N r.2) (f:=λm=>.ret (m,kas_rev p 0 n)) (λ_ _=>SD (p:=p) (q:=kas_rev p 0 n) hN h WR) (O6 hN (SD hN h WR) _ _)
theorem GM{p:Array Nat}{n nrem:Nat}(h:bnd N p):Asks N (λr=>bnd N r.2) (kas_descPart n nrem p):=
 Asks.bind (λr hr=>by
  split
  .exact HG hN (SD hN hr WR)
  .exact HG hN hr) (PK hN _ _ _ _ h)
theorem vn{p:Array Nat}{nrem:Nat}(h:bnd N p):Asks N (λr=>bnd N r.2) (kas_count nrem p):=
 Asks.bind (R:=λ_=>True) (λn _=>by
  split
  .exact h
  .split
   .refine⟨h _,h _,λb=>?_⟩
    cases b with
    |true=>(try dsimp only);rw[if_pos wZ];exact h
    |false=>(try dsimp only);rw[if_neg (by decide)];exact GM hN (SD hN h WR)
   .exact GM hN h) (O6 hN h _ _)
theorem Nn{p:Array Nat}(h:bnd N p)(k:Nat):∀(f l r:Nat),Asks N (λ_=>True) (kas_place p k f l r)
 |0,_,_=>trivial
 |f+1,l,r=>by
  unfold kas_place;split
  .trivial
  .refine⟨h _,h _,λb=>?_⟩
   cases b with
   |true=>(try dsimp only);rw[if_pos wZ];exact Nn h k f _ _
   |false=>(try dsimp only);rw[if_neg (by decide)];exact Nn h k f _ _
theorem Lz:∀(f:Nat)(p:Array Nat)(k:Nat),bnd N p->Asks N (λ_=>True) (kas_bin f p k)
 |0,_,_,_=>trivial
 |f+1,p,k,h=>Asks.bind (R:=λ_=>True) (λl _=>Lz f _ _ (SD hN h (bubble_perm _ _ _))) (Nn hN h k _ _ _)
end
theorem kj{n:Nat}(hn:0<n):Asks n (λ_=>True) (kas_sort n):=by
 have hb:bnd n (List.toArray (Up n)):=λi=>by
  rw[Jb];by_cases hi:i<n
  .simp[hi]
  .simp[hi,hn]
 refine Asks.bind (λr hr=>?_) (vn hn hb);split
 .exact Lz hn _ _ _ hr
 .trivial
end
def Ku(q:Int×Int):Int:=q.1*10000000+q.2
def okP(q:Int×Int):Prop:=-1000000<=q.2/\q.2<=1000000
theorem Bx{x y:Int×Int}(hx:okP x)(hy:okP y):Ku x<Ku y ↔ (x.1<y.1∨x.1=y.1/\x.2<y.2):=by unfold Ku okP at *;omega
theorem jc{x y:Int×Int}(hx:okP x)(hy:okP y)(h:Ku x=Ku y):x=y:=by
 unfold Ku okP at *;have h1:x.1=y.1:=by omega
 have h2:x.2=y.2:=by omega
 exact Prod.ext h1 h2
section
variable{prog:Ug}{w:World}{A:Around}{E:Ue->Uf->Prop}{s:Uf}
def Pb(h:Heap)(v:Ue)(q:Int×Int):Prop:=∃a t u o n,v=.ref a/\h.get? a=O o/\o.cls=.type "tuple" /\ o.data=.seq #[.int q.1 t,.int q.2 u] n
theorem Bw{x y:Ue}{p q:Int×Int}{Q:Bool->Uf->Prop}(hx:Pb s.heap x p)(hy:Pb s.heap y q)(h:Q (decide (p.1<q.1∨p.1=q.1/\p.2<q.2)) s):Ul (model prog w) A (keyLt' (tuples' w5) x y) Q E s:=by
 obtain⟨a,t,u,o,n,rfl,e1,c1,d1⟩:=hx;obtain⟨b,t',u',o',n',rfl,e2,c2,d2⟩:=hy;refine kat_lt e1 d1 e2 d2 ?_;show KatLex prog w A w5 _ Q [(Value.int p.1 t,Value.int q.1 t'),(Value.int p.2 u,Value.int q.2 u')] 0 s;refine kat_cons (wpAny_eqBool_int ?_);by_cases h1:p.1=q.1
 .have e:(p.1==q.1)=w5:=by simpa using h1
  rw[e];refine kat_yes (kat_cons (wpAny_eqBool_int ?_));by_cases h2:p.2=q.2
  .have e:(p.2==q.2)=w5:=by simpa using h2
   rw[e];refine kat_yes (kat_nil ?_);have:decide (p.1<q.1∨p.1=q.1/\p.2<q.2)=w6:=Qr (by omega);rw[this]at h;exact h
  .have e:(p.2==q.2)=w6:=by simpa using h2
   rw[e];refine kat_no (kat_one _ _ (PyProof.Rows.lt_int ?_))
   have:decide (p.1<q.1∨p.1=q.1/\p.2<q.2)=decide (p.2<q.2):=by
    by_cases z:p.2<q.2
    .rw[QC z,QC (.inr ⟨h1,z⟩)]
    .rw[Qr z,Qr (by omega)]
   rw[this]at h;exact h
 .have e:(p.1==q.1)=w6:=by simpa using h1
  rw[e];refine kat_no (oneLt_int ?_)
  have:decide (p.1<q.1∨p.1=q.1/\p.2<q.2)=decide (p.1<q.1):=by
   by_cases z:p.1<q.1
   .rw[QC z,QC (.inl z)]
   .rw[Qr z,Qr (by omega)]
  rw[this]at h;exact h
noncomputable def YI(h:Heap):ya->LP->Prop
 |[],[]=>True
 |v::vs,q::qs=>Pb h v q/\YI h vs qs
 |_,_=>False
theorem YI.get{h:Heap}:∀{vs:ya}{qs:LP},YI h vs qs->vs.length=qs.length/\∀(i:Nat)(hi:i<vs.length),Pb h (vs.getD i .none) (qs.getD i (0,0))
 |[],[],_=>⟨rfl,λi hi=>absurd hi (Nat.not_lt_zero _)⟩
 |v::vs,q::qs,⟨h1,h2⟩=>by
  obtain⟨e,f⟩:=YI.get h2;refine⟨by simp[e],λi hi=>?_⟩;cases i with
  |zero=>exact h1
  |succ i=>exact f i (by simpa using hi)
theorem YI.tups{h:Heap}:∀{vs:ya}{qs:LP},YI h vs qs->∃fs:ya,KatTups h vs fs/\fs.length=vs.length/\∀v∈fs,∃i t,v=.int i t
 |[],[],_=>⟨[],trivial,rfl,λ_ h=>by cases h⟩
 |v::vs,q::qs,⟨hp,h2⟩=>by
  obtain⟨a,t,u,o,n,rfl,e1,c1,d1⟩:=hp;obtain⟨fs,f1,f2,f3⟩:=YI.tups h2;refine⟨.int q.1 t::fs,.cons e1 c1 d1 wZ f1,by simp[f2],λv hv=>?_⟩;rcases Qx.mp hv with rfl|hv
  .exact⟨_,_,rfl⟩
  .exact f3 v hv
theorem YI.mono{h h':Heap}(k:∀b o,h.get? b=O o->h'.get? b=O o):∀{vs:ya}{qs:LP},YI h vs qs->YI h' vs qs
 |[],[],_=>trivial
 |v::vs,q::qs,⟨hp,h2⟩=>by obtain⟨a,t,u,o,n,rfl,e1,c1,d1⟩:=hp;exact⟨⟨a,t,u,o,n,rfl,k _ _ e1,c1,d1⟩,YI.mono k h2⟩
def R6(qs:LP)(π:yl):Prop:=π.Perm (Up qs.length)/\(π.map λi=>qs.getD i (0,0)).Pairwise λx y=>Ku x<=Ku y
theorem wR{a:Uh}{vs:ya}{qs:LP}{n:Nat}{P:Fin->Uf->Prop}(ho:s.heap.get? a=O (seqObj "list" vs.toArray n))
  (hp:YI ((s.heap.update a (Obj.mapSeq λ_=>#[]))) vs qs) (hq:∀q∈qs,okP q) (h64:vs.length<64)
  (h:∀π:yl,R6 qs π->P (.done (.ret .none)) {s with heap:=sortedHeap s.heap a vs (List.toArray (π.map λi=>vs.getD i .none))}) :
  Ul (model prog w) A (Builtin.«list.sort» ⟨[.ref a],[]⟩) P E s:=by
 obtain⟨hl,hget⟩:=hp.get;rw[list_sort_plain];have ha:a<s.heap.objs.size:=Qf ho;refine Qd (listItems_at ho wZ ?_);refine Qd (listUpdate_at ho wZ ?_);obtain⟨e1,ho1⟩:∃e1,(s.heap.update a (Obj.mapSeq λ_=>#[])).get? a=O (seqObj "list" #[] e1):=⟨_,get?_update_seq ho (λ_=>#[])⟩
 refine Qd (seqEpoch_at ho1 wZ ?_);refine Qd (wpAny_newTuple ?_);refine Qd (wpAny_newList ?_);refine JD ?_;have ho6:(((s.heap.update a (Obj.mapSeq λ_=>#[])).push (seqObj "tuple" vs.toArray 0)).push (seqObj "list" #[] 0)).get? a=O (seqObj "list" #[] e1):=by rw[Heap.get?_push_ne _ _ _ (by rw[size_push',Heap.size_update];exact QM (Nat.lt_succ_of_lt ha)),Heap.get?_push_ne _ _ _ (by rw[Heap.size_update];exact QM ha)];exact ho1
 have hp6:YI (((s.heap.update a (Obj.mapSeq λ_=>#[])).push (seqObj "tuple" vs.toArray 0)).push (seqObj "list" #[] 0)) vs qs:=hp.mono λb o e=>Qe _ (Qe _ e)
 show Ul (model prog w) A _ P E {s with heap:=((s.heap.update a (Obj.mapSeq λ_=>#[])).push (seqObj "tuple" vs.toArray 0)).push (seqObj "list" #[] 0)};dsimp only;have hsz:vs.toArray.size=vs.length:=by simp
 by_cases h2:vs.toArray.size<2
 .rw[Qm h2,Qm h2]
  refine Qd (Qj ?_);rw[StateT.run_pure];refine Qd (Qj ?_);dsimp only;refine Qd (seqEpoch_at ho6 wZ ?_);refine Qd (listUpdate_at ho6 wZ ?_ (hsz2:=by rw[Array.size_map];show(pairsOf vs).size<=_;rw[pairsOf_size,Jz];omega));simp only[bne_self_eq_false,JJ,Ub]
  have hid:(arrOf (SortSt.mk' general' (vs.toArray.zip vs.toArray) #[] 7 w4)).map (·.2)=List.toArray ((Up vs.length).map λi=>vs.getD i .none):=by
   show(vs.toArray.zip vs.toArray).map (·.2)=_
   apply Array.toList_inj.mp;apply List.ext_getElem?;intro i;simp only[Array.toList_map,Array.toList_zip,Qh,List.getElem?_zip_eq_some];by_cases hi:i<vs.length
   .simp[List.getElem?_zip_eq_some,hi,List.getElem?_range]
   .simp[hi]
  rw[hid];refine Qj (h (Up vs.length) ⟨by rw[hl],?_⟩);rw[List.pairwise_map];rw[hsz]at h2
  rcases(show vs.length=0∨vs.length=1 by omega)with z|z<;>rw[z]
  .exact .nil
  .exact List.pairwise_singleton _ _
 .rw[Qw h2,Qw h2]
  rw[hsz]at h2;obtain⟨fs,f1,f2,f3⟩:=hp6.tups;refine Qd (kat_kind (T:=.type "int") f1 (by omega) (λv hv=>by obtain⟨i,t,rfl⟩:=f3 v hv;exact(show Looks _ _ (pure (Value.type "int")) _ from .now)) wZ ?_)
  refine Qd (QI (kat_run (ks:=vs) (G:=λp s'=>s' = {s with heap:=((s.heap.update a (Obj.mapSeq λ_=>#[])).push (seqObj "tuple" vs.toArray 0)).push (seqObj "list" #[] 0)}/\p=Kc (kl λi=>Ku (qs.getD i (0,0))) (kas_sort vs.length))
   (Q:=λst' s'=>s' = {s with heap:=((s.heap.update a (Obj.mapSeq λ_=>#[])).push (seqObj "tuple" vs.toArray 0)).push (seqObj "list" #[] 0)}/\failedOf st'=w4/\arrOf st'=(Kc (kl λi=>Ku (qs.getD i (0,0))) (kas_sort vs.length)).map (kas_item (vs.toArray.zip vs.toArray)))
   rfl (by omega) h64 (λp st' s' a1 a2 a3 a4=>⟨a4.1,a3,by rw[a2,a4.2]⟩) ?_) ?_ λ_ _ e=>e)
  .refine LA (N:=vs.length) (R:=λ_=>True) (lt:=kl λi=>Ku (qs.getD i (0,0))) (λi j C hi hj hC=>?_) _ _ (kj (by omega)) ⟨rfl,rfl⟩
   refine Bw (YI.get hp6 |>.2 i hi) (YI.get hp6 |>.2 j hj) ?_;have oi:okP (qs.getD i (0,0)):=hq _ (by rw[JQ,Qg (by omega)];exact JW _);have oj:okP (qs.getD j (0,0)):=hq _ (by rw[JQ,Qg (by omega)];exact JW _);have e:decide ((qs.getD i (0,0)).1<(qs.getD j (0,0)).1∨(qs.getD i (0,0)).1=(qs.getD j (0,0)).1/\(qs.getD i (0,0)).2<(qs.getD j (0,0)).2)=kl (λi=>Ku (qs.getD i (0,0))) i j:=by unfold kl;exact decide_eq_decide.mpr (Bx oi oj).symm
   rw[e];exact hC
  .rintro⟨⟨⟩,st'⟩ s' ⟨rfl,hf,har⟩
   dsimp only;obtain⟨b1,b2,b3⟩:=km (key:=λi=>Ku (qs.getD i (0,0))) (n:=vs.length) (by omega);generalize Kc (kl λi=>Ku (qs.getD i (0,0))) (kas_sort vs.length)=p at har b1 b2 b3;have hout:=kat_snds (ks:=vs) (vs:=vs) wZ har;have hsz2:((arrOf st').map (·.2)).size=vs.length:=by rw[hout,QJ,Qb,JE,b2]
   refine Qd (seqEpoch_at ho6 wZ ?_);refine Qd (listUpdate_at ho6 wZ ?_ (hsz2:=by rw[hsz2,Jz];omega));rw[hf];simp only[bne_self_eq_false,JJ,Ub];rw[hout];refine Qj (h p.toList ⟨?_,?_⟩)
   .have:=Array.perm_iff_toList_perm.mp b1
    rw[←hl];exact this
   .rw[List.pairwise_map,List.pairwise_iff_getElem]
    intro i j hi hj hij;rw[JE,b2]at hi hj;have:=b3 i j (by omega) hj;unfold KA at this;rw[Jb,Jb,JR (by omega),JR (by omega)]at this;simpa using this
end
section
variable{prog:Ug}{w:World}{A:Around}{E:Ue->Uf->Prop}{s:Uf}
theorem wF{l:Uh}{vs:ya}{qs:LP}{Q:Ue->Uf->Prop}(hl:s.heap.IsList l vs.toArray)(hp:YI s.heap vs qs)(hq:∀q∈qs,okP q)(h64:vs.length<64)
  (h:∀π:yl,R6 qs π->Q (.ref (s.heap.objs.size+1)) {s with heap:=sortedAll s.heap vs (List.toArray (π.map λi=>vs.getD i .none))}) :
  Ul (model prog w) A (call (.builtin "sorted") [.ref l]) Q E s:=by
 refine Calls.call_function_entry kind_sorted plain_sorted entry_sorted (args_sorted1 _) ?_;unfold Builtin.«sorted»;refine Qd (m:=checkCount "sorted" 1 1 _) (Qj ?_);refine Qd (collect_list hl ?_);refine Qd (wpAny_newList ?_);have hsz:((s.heap.push (seqObj "list" #[] 0)).update s.heap.objs.size (Obj.mapSeq (· ++ vs.toArray))).objs.size=s.heap.objs.size+1:=by rw[Heap.size_update,size_push']
 have aq:(((s.heap.push (seqObj "list" #[] 0)).update s.heap.objs.size (Obj.mapSeq (· ++ vs.toArray))).push (seqObj "list" vs.toArray 0)).get? (s.heap.objs.size+1)=O (seqObj "list" vs.toArray 0):=by rw[←hsz];exact QD _ wZ
 show Ul _ _ _ _ _ {s with heap:=((s.heap.push (seqObj "list" #[] 0)).update s.heap.objs.size (Obj.mapSeq (· ++ vs.toArray))).push (seqObj "list" vs.toArray 0)};rw[hsz];refine Qd (JD (wpAny_call_entry slot_list_sort ⟨_,aq,rfl⟩ entry_list_sort (wR (qs:=qs) aq (hp.mono λb o e=>?_) hq h64 λπ a1=>⟨_,rfl,?_⟩) (args_list_sort _)))
 .have hlt:b<s.heap.objs.size:=Qf e
  dsimp only;have av:(b:Nat)<s.heap.objs.size:=hlt;rw[Heap.get?_update_ne _ _ _ _ (QM (Nat.lt_succ_of_lt av)),Heap.get?_push_ne _ _ _ (by rw[hsz];exact QM (Nat.lt_succ_of_lt av)),Heap.get?_update_ne _ _ _ _ (QM hlt),Heap.get?_push_ne _ _ _ (QM hlt)];exact e
 .exact Qj ⟨_,rfl,h π a1⟩
end
end DL
namespace DL
open PySem PySem.Spec L2
open PyProof.Rows hiding St
section
variable{X:Cx}
theorem Ly{pins:List (Uh×Obj)}{s:Uf}{σ:St}{H:Hp}(I:Inv X pins σ H s):∀{as:yf}{us:ya}{qs:LP},Vals (as.map V.ref) us->as.length=qs.length->(∀(i:Nat) a q,as[i]?=O a->qs[i]?=O q->SqT X.K H a [.int q.1,.int q.2])->YI s.heap us qs
 |[],_,[],.nil,_,_=>trivial
 |a::as,_,q::qs,.cons r t,hl,h=>by refine⟨?_,Ly I t (by simpa using hl) λi a q h1 h2=>h (i+1) a q (by simpa using h1) (by simpa using h2)⟩;cases r;obtain⟨its,rv,⟨o,e,c,n,d⟩,_⟩:=I.tuple (h 0 a q wZ wZ);obtain⟨u,v,rfl,r1,r2⟩:=rv.two;obtain⟨t1,rfl⟩:=r1;obtain⟨t2,rfl⟩:=r2;exact⟨a,t1,t2,o,n,rfl,e,c,by simpa using d⟩
theorem Hz{as:yf}{us:ya}(r:Vals (as.map V.ref) us):∀(π:yl),(∀i∈π,i<as.length)->Vals (π.map λi=>V.ref (as.getD i 0)) (π.map λi=>us.getD i .none)
 |[],_=>.nil
 |i::π,h=>by
  refine .cons ?_ (Hz r π λj hj=>h j (Qp _ hj));have hi:=h i Qo;have e:(as.map V.ref)[i]?=O (.ref (as.getD i 0)):=by rw[List.getElem?_map,List.getElem?_eq_getElem hi];simp[List.getD,List.getElem?_eq_getElem hi]
  obtain⟨u,e2,ru⟩:=r.get e;simp only[List.getD,e2,JV];exact ru
theorem vm:Yt X (.builtin "sorted") (λxs H Q=>∃l,∃as:yf,∃qs:LP,xs=[.ref l]/\SqL X.K H l (as.map V.ref)/\as.length=qs.length/\(∀(i:Nat) a q,as[i]?=O a->qs[i]?=O q->SqT X.K H a [.int q.1,.int q.2])/\(∀q∈qs,okP q)/\qs.length<64 /\
  ∀π p,R6 qs π->H p=w4->Q (.ref p) (upd H p (.lst (π.map λi=>V.ref (as.getD i 0))))):=by
 intro pins s σ H xs us Q I rx h;obtain⟨l,as,qs,rfl,hq,hl,ht,ho,hb,q⟩:=h;obtain⟨u,rfl,ru⟩:=rx.one;cases ru;obtain⟨its,rv,p,hz⟩:=I.list hq;have hn:its.length=qs.length:=by have:=rv.length;rw[Qb]at this;omega
 refine wF (qs:=qs) p.isList (Ly I rv hl ht) ho (by omega) λπ hπ=>?_
 obtain⟨e,he⟩:=sortedAll_at s.heap its (List.toArray (π.map λi=>its.getD i .none));have hπl:∀i∈π,i<as.length:=λi hi=>by have:=hπ.1.mem_iff.mp hi;rw[Jq]at this;omega
 refine⟨.ref (s.heap.objs.size+1),_,I.laid (t':=s.toks) (λb o=>sortedAll_old) (JP _) (show Zu X.prog X.w _ _ _ (.lst (π.map λi=>V.ref (as.getD i 0)))from⟨?_,_,e,Hz rv π hπl,he⟩),rfl,q π _ hπ (I.hok.fresh (JP _))⟩;rw[Qb,hπ.1.length_eq,Jk];rw[Qb]at hz;omega
noncomputable def Pa:D->Option (Int×Int)
 |.tuple [.int a,.int b]=>O (a,b)
 |_=>w4
noncomputable def VR:w8->Option LP
 |[]=>O []
 |d::r=>(Pa d).bind λq=>(VR r).map (q :: ·)
def Ky(q:Int×Int):D:=.tuple [.int q.1,.int q.2]
theorem ki{d:D}{q:Int×Int}(h:Pa d=O q):d=Ky q:=by
 unfold Pa at h;split at h
 .cases h;rfl
 .cases h
theorem Gs:∀{ds:w8}{qs:LP},VR ds=O qs->ds=qs.map Ky
 |[],qs,h=>by cases h;rfl
 |d::r,qs,h=>by
  unfold VR at h;cases z:Pa d with
  |none=>rw[z]at h;cases h
  |some q=>
   rw[z]at h;cases z2:VR r with
   |none=>rw[z2]at h;cases h
   |some qs'=>rw[z2]at h;cases h;rw[ki z,Gs z2];rfl
theorem GZ:∀qs:LP,VR (qs.map Ky)=O qs
 |[]=>rfl
 |q::r=>by rw[Qy,VR,GZ r];rfl
noncomputable def WJ(qs:LP):LP:=qs.mergeSort λx y=>decide (Ku x<=Ku y)
theorem HF(qs:LP):(WJ qs).Perm qs:=List.mergeSort_perm ..
theorem Hy(qs:LP):(WJ qs).Pairwise λx y=>Ku x<=Ku y:=by have:=List.pairwise_mergeSort (le:=λx y:Int×Int=>decide (Ku x<=Ku y)) (by intro a b c;simp;omega) (by intro a b;simp;omega) qs;exact this.imp (by simp)
theorem O5:∀{a b:LP},(∀x∈a,okP x)->a.Perm b->a.Pairwise (λx y=>Ku x<=Ku y)->b.Pairwise (λx y=>Ku x<=Ku y)->a=b
 |[],b,_,p,_,_=>by rw[List.nil_perm.1 p]
 |x::a,[],_,p,_,_=>by have:=p.length_eq;simp at this
 |x::a,y::b,ok,p,ha,hb=>by
  have hx:Ku y<=Ku x:=by
   rcases Qx.1 (p.mem_iff.1 (Qo ..))with e|e
   .rw[e];exact JM _
   .exact(Js.1 hb).1 x e
  have hy:Ku x<=Ku y:=by
   rcases Qx.1 (p.mem_iff.2 (Qo ..))with e|e
   .rw[e];exact JM _
   .exact(Js.1 ha).1 y e
  have oky:okP y:=ok y (p.mem_iff.2 (Qo ..));have e:=jc (ok x (Qo ..)) oky (J7 hy hx);subst e;rw[O5 (λz hz=>ok z (Qp _ hz)) (List.Perm.cons_inv p) (Js.1 ha).2 (Js.1 hb).2]
theorem jb{qs:LP}{π:yl}(ok:∀q∈qs,okP q)(h:R6 qs π):(π.map λi=>qs.getD i (0,0))=WJ qs:=by
 have hp:(π.map λi=>qs.getD i (0,0)).Perm qs:=by
  have h1:=h.1.map λi=>qs.getD i (0,0)
  have e:(Up qs.length).map (λi=>qs.getD i (0,0))=qs:=by
   apply List.ext_getElem?;intro i;rw[Qh];by_cases hi:i<qs.length
   .rw[List.getElem?_range hi,List.getElem?_eq_getElem hi];simp[List.getD,List.getElem?_eq_getElem hi]
   .rw[JH (by rw[Jk];omega),JH (by omega)];rfl
  rw[e]at h1;exact h1
 exact O5 (λx hx=>ok x (hp.mem_iff.mp hx)) (hp.trans (HF qs).symm) h.2 (Hy qs)
noncomputable def okPB(q:Int×Int):Bool:=decide (-1000000<=q.2/\q.2<=1000000)
noncomputable def Rz:w8->yb
 |[.list ds]=>(match VR ds with
  |some qs=>if qs.length<64/\qs.all okPB=w5 then O (.list ((WJ qs).map Ky))else w4
  |none=>w4)
 |_=>w4
theorem vj{xs:w8}{d:D}(h:Rz xs=O d):∃qs:LP,xs=[.list (qs.map Ky)]/\qs.length<64/\(∀q∈qs,okP q)/\d=.list ((WJ qs).map Ky):=by
 unfold Rz at h;split at h
 .rename_i ds
  cases z:VR ds with
  |none=>rw[z]at h;cases h
  |some qs=>
   rw[z]at h;dsimp only at h;split at h
   .rename_i c
    cases h;exact⟨qs,by rw[Gs z],c.1,λq hq=>(show -1000000<=q.2/\q.2<=1000000 from Qa (Q2.mp c.2 q hq)),rfl⟩
   .cases h
 .cases h
theorem Hx{K:Frag}{G:Hp}:∀{vs:List V}{qs:LP},Reps K G vs (qs.map Ky)->∃as:yf,vs=as.map V.ref/\as.length=qs.length/\∀(i:Nat) a q,as[i]?=O a->qs[i]?=O q->SqT K G a [.int q.1,.int q.2]
 |_,[],.nil=>⟨[],rfl,rfl,λi a q h=>by simp at h⟩
 |_,q::qs,.cons r t=>by
  obtain⟨as,rfl,hl,h⟩:=Hx t;obtain⟨a,ws,rfl,h1,r1⟩:=r.tup_inv;cases r1 with
  |cons ra rb=>
   obtain⟨v,rfl,rb'⟩:=rb.one_inv;refine⟨a::as,rfl,by simp[hl],λi a' q' e1 e2=>?_⟩;cases i with
   |zero=>cases e1;cases e2;rw[ra.int_inv,rb'.int_inv]at h1;exact h1
   |succ i=>exact h i a' q' (by simpa using e1) (by simpa using e2)
theorem AO{K:Frag}{G:Hp}{a:Uh}{q:Int×Int}(h:SqT K G a [.int q.1,.int q.2]):Rep K G (.ref a) (Ky q):=.tup h (.cons (.int _) (.cons (.int _) .nil))
theorem Hw{K:Frag}{G:Hp}{as:yf}{qs:LP}(hl:as.length=qs.length)(h:∀(i:Nat) a q,as[i]?=O a->qs[i]?=O q->SqT K G a [.int q.1,.int q.2]):∀π:yl,(∀i∈π,i<qs.length)->Reps K G (π.map λi=>V.ref (as.getD i 0)) ((π.map λi=>qs.getD i (0,0)).map Ky)
 |[],_=>.nil
 |i::π,hb=>by
  refine .cons ?_ (Hw hl h π λj hj=>hb j (Qp _ hj));have hi:=hb i Qo;refine AO (h i _ _ ?_ ?_)
  .rw[List.getElem?_eq_getElem (by omega)];simp[List.getD,List.getElem?_eq_getElem (show i<as.length by omega)]
  .rw[List.getElem?_eq_getElem hi];simp[List.getD,List.getElem?_eq_getElem hi]
theorem Bv:Yz X (.builtin "sorted") Rz:=by refine⟨_,vm,λvs G H ds d Q s r e k=>?_⟩;obtain⟨qs,rfl,h64,ok,rfl⟩:=vj e;obtain⟨v,rfl,q1⟩:=r.one_inv;obtain⟨l,ws,rfl,h1,r1⟩:=q1.lst_inv;obtain⟨as,rfl,hl,ht⟩:=Hx r1;refine⟨l,as,qs,rfl,s.seq h1,hl,λi a q e1 e2=>YU s (ht i a q e1 e2),ok,h64,λπ p hπ hp=>?_⟩;have hb:∀i∈π,i<qs.length:=λi hi=>Jq.mp (hπ.1.mem_iff.mp hi);have rr:=(Hw hl ht π hb).mono (Zl (s.free hp):Same G (upd G p (.lst (π.map λi=>V.ref (as.getD i 0)))));rw[jb ok hπ]at rr;exact k _ _ _ (Ext.new s hp) (.lst (SqL.of KG) rr)
theorem Yz.or{f:Ue}{p q:w8->yb}(h1:Yz X f p)(h2:Yz X f q):Yz X f (λxs=>(p xs).orElse λ_=>q xs):=by
 obtain⟨r1,c1,k1⟩:=h1;obtain⟨r2,c2,k2⟩:=h2;refine⟨λxs H Q=>r1 xs H Q∨r2 xs H Q,λpins s σ H xs us Q I rx h=>?_,λvs G H ds d Q s r e k=>?_⟩
 .rcases h with h|h
  .exact c1 pins s σ H xs us Q I rx h
  .exact c2 pins s σ H xs us Q I rx h
 .dsimp only at e
  cases z:p ds with
  |some d'=>rw[z]at e;cases e;exact .inl (k1 vs G H ds _ Q s r z k)
  |none=>rw[z]at e;exact .inr (k2 vs G H ds _ Q s r e k)
noncomputable def VU(xs:w8):yb:=(V3 xs).orElse λ_=>Rz xs
theorem Dr:Yz X (.builtin "sorted") VU:=BA.or Bv
theorem HE{ns:w9}(h:ns.length<64):VU [.list (ns.map .int)]=O (.list ((ZR ns).map .int)):=by unfold VU;rw[ku h];rfl
theorem kh{qs:LP}(h:qs.length<64)(ok:∀q∈qs,okP q):VU [.list (qs.map Ky)]=O (.list ((WJ qs).map Ky)):=by
 cases qs with
 |nil=>
  have e1:WJ []=[]:=by unfold WJ;simp
  have e2:ZR []=[]:=by unfold ZR;simp
  have:=HE (ns:=[]) (by decide);rw[e2]at this;rw[e1];exact this
 |cons q r=>have e1:V3 [.list ((q::r).map Ky)]=w4:=rfl;unfold VU;rw[e1,Option.orElse];unfold Rz;dsimp only;rw[GZ];exact Qm ⟨h,Q2.mpr λq hq=>QC (show -1000000<=q.2/\q.2<=1000000 from ok q hq)⟩
end
section
variable{X:Cx}{B G0:Hp}{e o a b c tg:Uj}{pos p2:Pos}{es rest:yd}{te to ti:TE}
noncomputable def VE{β:Type}(p:D->D->Option β)(f:M D)(j:Nat):M β:=UW f λx=>λZ=>match Z[j]? with
 |some (O (.pub d))=>UX (p x d) Z
 |some (O (.own ds))=>UX (p x (.list ds)) Z
 |_=>.bad
theorem FZ{K:Frag}{σ:St}{H:Hp}{p:D->D->yi}{r:R2}{j:Nat}{f:M D}{Q:Bool->Hp->Prop}{QV:VK}(hq:∀t H3,Q t H3->QV (.bl t) H3)
  (hr:∀v u G H x y d Q,Same G H->Rep K G v x->Rep K G u y->p x y=O d->Q (.bl d) H->r v u H Q)
  (q:tBo K B G0 (VE p f j) σ H Q):tD K B G0 f σ H λx H1=>Kw j σ H1 λy H2=>r x y H2 QV:=by
 refine tM.one (R:=Rep K) q λv H2 G Z x k rx a=>?_
 cases z:Z[j]? with
 |none=>rw[z]at a;exact a.elim
 |some o=>
  cases o with
  |none=>rw[z]at a;exact a.elim
  |some sl=>
   cases sl with
   |deep _ _=>rw[z]at a;exact a.elim
   |pub d=>rw[z]at a;dsimp only at a;obtain⟨d',e',a'⟩:=aft.opt a;obtain⟨u,h1,h2⟩:=k.pub j d z;exact⟨u,h1,hr v u G H2 x d d' _ k.gh rx h2 e' (hq _ _ (a' d' G H2 k (.refl _) wZ))⟩
   |own ds=>rw[z]at a;dsimp only at a;obtain⟨d',e',a'⟩:=aft.opt a;obtain⟨ad,vs,h1,h2,h3,h4,h5⟩:=k.own j ds z;exact⟨.ref ad,h1,hr v (.ref ad) H2 H2 x (.list ds) d' _ (.refl _) (rx.mono k.gh) (.lst (SqL.of h4) (h5.mono k.gh)) e' (hq _ _ (a' d' G H2 k (.refl _) wZ))⟩
theorem Bu{op:CmpOp}{p:D->D->yi}{j:Nat}{f:M D}(o:OpB X (Uo op) p)(ha:PE X a (tD X.K B G0 f))(hb:PE X b (Kw j))(hm:behindInMarks op b=w6) :
  PT X (.Compare a [op] [b] pos) (tBo X.K B G0 (VE p f j)):=by
 obtain⟨r,h,i⟩:=o;exact YN (OO h ha hb hm) λσ H Q q=>FZ (λt H3 z=>⟨t,rfl,z⟩) i q
theorem O4{β:Type}{p:D->D->Option β}{f:M D}{j:Nat}{Z Z1:UI}{x:D}{ds:w8}{r:β}(h1:f Z=.ok x Z1)(h2:Z1[j]?=O (O (.own ds)))(h3:p x (.list ds)=O r):VE p f j Z=.ok r Z1:=by unfold VE;exact KL h1 (by rw[h2];exact ZI h3)
end
end DL
namespace HT
open PySem PyProof.Rows
end HT
namespace DL
open PySem PySem.Spec L2
open PyProof.Rows hiding St
section
variable{X:Cx}
noncomputable def Sk(x y:D):Option w8:=match x,y with
 |.list xs,.int k=>if -1000000<=k/\k<=1000000/\xs.length*k.toNat<=1000000 then O (Uq k.toNat xs).flatten else w4
 |_,_=>w4
theorem kg{x y:D}{ds:w8}(h:Sk x y=O ds):∃xs k,x=.list xs/\y=.int k/\(-1000000<=k/\k<=1000000/\xs.length*k.toNat<=1000000)/\ds=(Uq k.toNat xs).flatten:=by
 unfold Sk at h;split at h
 .split at h
  .rename_i xs k c
   cases h;exact⟨xs,k,rfl,rfl,c,rfl⟩
  .cases h
 .cases h
noncomputable def Rf(f g:M D):M w8:=UW f λx=>UW g λy=>UX (Sk x y)
theorem Bt{f g:M D}(ha:PE X a (tD X.K B G0 f))(hb:PE X b (tD X.K B G0 g)):PE X (.BinOp a .Mult b pos) (tL X.K B G0 (Rf f g)):=
 Ki (NS Le ha hb) λσ H Q ⟨G,Z,k,q⟩=>by
  refine⟨G,Z,k,?_⟩;unfold Rf UW at q;cases z:f Z with
  |bad=>rw[z]at q;exact q.elim
  |ok x Z1=>
   rw[z]at q;dsimp only at q;intro v G1 H1 k1 s1 r1;refine⟨G1,Z1,k1,?_⟩;cases z2:g Z1 with
   |bad=>rw[z2]at q;exact q.elim
   |ok y Z2=>
    rw[z2]at q;dsimp only[UX]at q;intro u G2 H2 k2 s2 r2;cases z3:Sk x y with
    |none=>rw[z3]at q;exact q.elim
    |some ds=>rw[z3]at q;obtain⟨xs,i,rfl,rfl,c,rfl⟩:=kg z3;obtain⟨l,vs,rfl,h1,w⟩:=r1.lst_inv;exact⟨l,i,vs,rfl,r2.int_inv,k2.gh.seq (s2.seq h1),by omega,by omega,by rw[w.length];exact QH c.2.2 lim,λp hp=>q p _ G2 _ (k2.ext (Ext.hid k2.gh hp)) (s1.trans s2) (NewL.of k2 hp ((w.mono s2).rep _))⟩
theorem Bs{f g:M D}{Z Z1 Z2:UI}{x:D}{n:Nat}(h1:f Z=.ok (.list [x]) Z1)(h2:g Z1=.ok (.int n) Z2)(h:n<=1000):Rf f g Z=.ok (Uq n x) Z2:=by
 unfold Rf UW;rw[h1];dsimp only;rw[h2];dsimp only[UX]
 have e:Sk (.list [x]) (.int n)=O (Uq n x):=by
  unfold Sk;dsimp only;rw[Qm ⟨by omega,by omega,by show 1*_<=_;omega⟩]
  congr 1
  rw[Je];clear h2 h;induction n with
  |zero=>rfl
  |succ n ih=>rw[QT,QG,ih,QT];rfl
 rw[e]
end
end DL
namespace DL
open PySem
theorem lz0{P:ya->Prop}{us:ya}(hl:us.length=0)(h:P []):P us:=by
 cases us with
 |nil=>exact h
 |cons a r=>cases hl
theorem lzS{P:ya->Prop}{us:ya}{n:Nat}(hl:us.length=n+1)(h:∀a r,r.length=n->P (a::r)):P us:=by
 cases us with
 |nil=>cases hl
 |cons a r=>exact h a r (Nat.succ.inj hl)
theorem lz1{P:ya->Prop}{us:ya}(hl:us.length=1)(h:∀a,P [a]):P us:=lzS hl λa r e=>lz0 (P:=λr=>P (a::r)) e (h a)
theorem lz2{P:ya->Prop}{us:ya}(hl:us.length=2)(h:∀a b,P [a,b]):P us:=lzS hl λa r e=>lz1 (P:=λr=>P (a::r)) e (h a)
theorem lz3{P:ya->Prop}{us:ya}(hl:us.length=3)(h:∀a b c,P [a,b,c]):P us:=lzS hl λa r e=>lz2 (P:=λr=>P (a::r)) e (h a)
theorem lz4{P:ya->Prop}{us:ya}(hl:us.length=4)(h:∀a b c d,P [a,b,c,d]):P us:=lzS hl λa r e=>lz3 (P:=λr=>P (a::r)) e (h a)
theorem lz5{P:ya->Prop}{us:ya}(hl:us.length=5)(h:∀a b c d e,P [a,b,c,d,e]):P us:=lzS hl λa r e=>lz4 (P:=λr=>P (a::r)) e (h a)
theorem bz1{fd:Ui}{ps:List Str}{us:ya}(hl:us.length=1)(h:∀a,bindArgs fd {pos:=[a]}=pure (ps.zip [a])):bindArgs fd {pos:=us}=pure (ps.zip us):=lz1 (P:=λus=>bindArgs fd {pos:=us}=pure (ps.zip us)) hl h
theorem bz2{fd:Ui}{ps:List Str}{us:ya}(hl:us.length=2)(h:∀a b,bindArgs fd {pos:=[a,b]}=pure (ps.zip [a,b])):bindArgs fd {pos:=us}=pure (ps.zip us):=lz2 (P:=λus=>bindArgs fd {pos:=us}=pure (ps.zip us)) hl h
theorem bz3{fd:Ui}{ps:List Str}{us:ya}(hl:us.length=3)(h:∀a b c,bindArgs fd {pos:=[a,b,c]}=pure (ps.zip [a,b,c])):bindArgs fd {pos:=us}=pure (ps.zip us):=lz3 (P:=λus=>bindArgs fd {pos:=us}=pure (ps.zip us)) hl h
theorem bz4{fd:Ui}{ps:List Str}{us:ya}(hl:us.length=4)(h:∀a b c d,bindArgs fd {pos:=[a,b,c,d]}=pure (ps.zip [a,b,c,d])):bindArgs fd {pos:=us}=pure (ps.zip us):=lz4 (P:=λus=>bindArgs fd {pos:=us}=pure (ps.zip us)) hl h
theorem bz5{fd:Ui}{ps:List Str}{us:ya}(hl:us.length=5)(h:∀a b c d e,bindArgs fd {pos:=[a,b,c,d,e]}=pure (ps.zip [a,b,c,d,e])):bindArgs fd {pos:=us}=pure (ps.zip us):=lz5 (P:=λus=>bindArgs fd {pos:=us}=pure (ps.zip us)) hl h
end DL
namespace DL
open PySem PySem.Spec L2
open PyProof.Rows hiding St
noncomputable def whole(h:Heap):Frag:=(Up h.objs.size).filterMap λa=>(h.get? a).map λo=>(a,o)
theorem L8{g:Uh->Option Obj}{x:Uh}:∀l:yf,(l.filterMap λa=>(g a).map λo=>(a,o)).lookup x=if x∈l then g x else w4
 |[]=>rfl
 |y::l=>by
  have ih:=L8 (g:=g) (x:=x) l;by_cases e:x=y
  .subst e
   rw[Qm Qo];cases z:g x with
   |none=>rw[List.filterMap_cons_none (by rw[z];rfl),ih,z];split<;>rfl
   |some o=>rw[List.filterMap_cons_some (by rw[z];rfl),QR,beq_self_eq_true]
  .have m:(x∈y::l)=(x∈l):=by simp[List.mem_cons,e]
   have b:(x==y)=w6:=by simpa using e
   have ih':(if x∈y::l then g x else w4)=_:=(by simp only[m];exact ih.symm)
   rw[ih'];cases z:g y with
   |none=>rw[List.filterMap_cons_none (by rw[z];rfl)]
   |some o=>rw[List.filterMap_cons_some (by rw[z];rfl),QR,b]
theorem Yx{h:Heap}{a:Uh}:(whole h).lookup a=h.get? a:=by
 unfold whole;rw[L8];split
 .rfl
 .rename_i n
  cases z:h.get? a with
  |none=>rfl
  |some o=>exact absurd (Jq.mpr (Qf z)) n
theorem AN(h:Heap):(whole h).In h:=λa o e=>by rw[Yx]at e;exact e
noncomputable def FY(st:Stmt):Option DefRec:=match st with
 |.FunctionDef name a b _ _ _ sc _ _ pos=>O ⟨name,a,b,sc,pos⟩
 |_=>w4
noncomputable def Rp(st:Stmt):Option Str:=match st with
 |.FunctionDef name _ _ _ _ _ _ _ _ _=>O name
 |_=>w4
noncomputable def FW(st:Stmt):Pos:=match st with
 |.FunctionDef _ _ _ _ _ _ _ _ _ pos=>pos
 |_=>⟨0,0,0,0⟩
noncomputable abbrev Kl(p:Ug)(i:Nat):Stmt:=p.main.body.getD i (.Pass ⟨0,0,0,0⟩)
noncomputable def V2(p:Ug)(ix:yl):List DefRec:=ix.filterMap λi=>FY (Kl p i)
section
variable{p q:Ug}{loose:List Str}{mean:ExcName->yc}{mg mb:Str->yc}{h:Heap}{w:World}
theorem R9{ix:yl}(T:Top q loose mean mg mb h)(e:recsOf q=V2 p ix)(i:Nat)(x:Str)(hi:ix.contains i=w5)(hn:Rp (Kl p i)=O x):∃f fd,mg x=O (.ref f)/\Fun (whole h) x x (Kl p i) f fd:=by
 cases hs:Kl p i with
 |FunctionDef name a b _ _ _ sc _ _ pos=>
  rw[hs]at hn;cases hn;have hd:(⟨x,a,b,sc,pos⟩:DefRec)∈recsOf q:=by rw[e];exact List.mem_filterMap.mpr ⟨i,by simpa using hi,by rw[hs];rfl⟩
  obtain⟨f,⟨oc,od,dt,osl⟩,pm,cd,doc,h1,h2,h3,h4⟩:=T.fn _ hd;have h3:dt=_:=h3;subst h3;refine⟨f,_,h1,⟨⟨oc,od,.none,doc,pm,_,cd,_,osl,rfl,by rw[Yx];exact h2,?_⟩,?_⟩⟩
  .obtain⟨c,⟨_,_,dc,_⟩,vs,t,rfl,g1,g2,g3⟩:=h4
   have g2:dc=_:=g2;subst g2;unfold PySem.W.codeIn;dsimp only;rw[Yx,g1];dsimp only;have g4:vs.toList[1]?=O (.str x t):=by rw[Array.getElem?_toList];exact g3
   cases hv:vs.toList with
   |nil=>rw[hv]at g4;cases g4
   |cons v0 r=>
    rw[hv]at g4;cases r with
    |nil=>cases g4
    |cons v1 r=>cases g4;exact beq_self_eq_true _
  .unfold PySem.W.keepIn
   dsimp only;rw[Yx,h2]
 |_=>rw[hs]at hn;cases hn
theorem kL{K:Frag}{x qual y:Str}{st:Stmt}{f:Uh}{fd:Ui}(F:Fun K x qual st f fd)
  (hb:∀(kV doc pm:Ue)(an:yh)(cdv ct v:Ue),bindArgs (PySem.W.fnOf x qual (X0 st) (Yl st) (K0 st) .none kV doc pm an cdv ct) ⟨[v],[]⟩=pure [(y,v)]) (s:Uf) (v:Ue):BindsTo s fd ⟨[v],[]⟩ [(y,v)]:=by
 obtain⟨oc,od,kV,doc,pm,an,cdv,ct,osl,rfl,lk,hcd⟩:=F.ex;exact .of_eq (hb kV doc pm an cdv ct v)
noncomputable def RT(q:Ug)(loose:List Str)(x:Str):Bool:=
 !startupNames.contains x && !loose.contains x && !((recsOf q).map (·.name)).contains x && !((litsOf q).map (·.1)).contains x && !((clssOf q loose).map (·.name)).contains x
theorem YH(T:Top q loose mean mg mb h){xs:List Str}(e:xs.all (RT q loose)=w5){x:Str}(hx:x∈xs):mg x=w4:=by have:=Q2.mp e x hx;unfold RT at this;simp only[QL,Bool.not_eq_true',List.contains_eq_mem,decide_eq_false_iff_not]at this;exact T.free x this.1.1.1.1 this.1.1.1.2 this.1.1.2 this.1.2 this.2
theorem PJ(T:Top q loose mean mg mb h){x:Str}{i:Int}(e:valOf q x=O (.int i)):∃t,mg x=O (.int i t):=by obtain⟨v,h1,h2⟩:=T.const x _ e;have:=h2 h;cases this;exact⟨_,h1⟩
theorem NJ:∀{vs:ya}{ss:List Str},StrsAre vs ss->Vals (ss.map V.str) vs
 |_,_,.nil=>.nil
 |_,_,.cons y t r=>.cons ⟨t,rfl⟩ (NJ r)
theorem kK(B:Tables q w mg h){x:Str}{ss:List Str}(e:tupStrsOf q x=O ss)(hl:ss.length<=1000) :
  ∃ad o its n,mg x=O (.ref ad)/\(whole h).lookup ad=O o/\o.cls=.type "tuple" /\ o.data=.seq its n/\its.size<=Uk/\Vals (ss.map V.str) its.toList:=by
 obtain⟨a,vs,h1,⟨o,h2,h3,n,h4⟩,h5⟩:=B.tupS x ss e;have r:=NJ h5;refine⟨a,o,_,n,h1,by rw[Yx];exact h2,h3,h4,?_,r⟩;have:=r.length;rw[Qb]at this;have l:(1000:Nat)<=Uk:=by decide
 rw[QJ];omega
end
noncomputable def scOk(sc:Scope)(N gl:List Str):Bool:=(N.all λx=>match sc.names.lookup x with|some .local=>w5|some .cell=>w5|_=>w6)&&gl.all λx=>match sc.names.lookup x with|some .globalImplicit=>w5|_=>w6
noncomputable def fnB(sc:Scope)(N gl:List Str):Bool:=decide (sc.kind=.function) && !sc.isCoroutine && !sc.isGenerator&&decide N.Nodup&&(sc.names.all λy=>match y.2 with | .free=>w6|_=>w5)&&scOk sc N gl
structure FnNm(sc:Scope)(N gl:List Str):Prop where
 kind:sc.kind=.function
 co:sc.isCoroutine=w6
 gen:sc.isGenerator=w6
 nd:N.Nodup
 nofree:∀y∈sc.names,y.2≠.free
 nm:∀x∈N,sc.names.lookup x=O .local∨sc.names.lookup x=O .cell
 gl:∀x∈gl,sc.names.lookup x=O .globalImplicit
theorem KE{sc:Scope}{N gl:List Str}(H:fnB sc N gl=w5):FnNm sc N gl:=by
 unfold fnB scOk at H;simp only[QL,Jm,Bool.not_eq_true',Q2]at H;obtain⟨⟨⟨⟨⟨h1,h2⟩,h3⟩,h4⟩,h5⟩,h6,h7⟩:=H;refine⟨h1,h2,h3,h4,λy hy e=>?_,λx hx=>?_,λx hx=>?_⟩
 .have:=h5 y hy;rw[e]at this;cases this
 .have:=h6 x hx
  split at this
  .rename_i e;exact .inl e
  .rename_i e;exact .inr e
  .cases this
 .have:=h7 x hx
  split at this
  .rename_i e;exact e
  .cases this
section
variable{sc:Scope}{N gl:List Str}{x:Str}
theorem nq(H:FnNm sc N gl):N.Nodup:=H.nd
theorem fq(H:FnNm sc N gl)(n:Nat):Tc N (N.take n) sc:=⟨H.kind,H.co,H.gen,H.nd,by rw[Jg,List.take_eq_take_iff];omega,λx hx=>H.nm x (J4 hx),H.nofree⟩
theorem lq(H:FnNm sc N gl)(i:Nat)(h:N[i]?=O x:=by rfl):L2.Loc sc x:=H.nm x (Qv h)
theorem gq(H:FnNm sc N gl)(i:Nat)(h:gl[i]?=O x:=by rfl):sc.names.lookup x=O .globalImplicit:=H.gl x (Qv h)
theorem pq{X:Cx}{pos:Pos}(H:FnNm X.env.scope X.N gl)(i:Nat)(h:X.N[i]?=O x:=by rfl)(hd:(x==("__debug__" : Str))=w6:=by decide)(hc:(x==("__classdict__" : Str))=w6:=by decide):PE X (.Name x pos) (Kw i):=
 Mq h ((H.nm x (Qv h)).elim .inl λz=>.inr (.inl z)) hd hc
end
theorem K7{q p:Ug}{loose:List Str}{mean:ExcName->yc}{mg mb:Str->yc}{h:Heap}{ix:yl}(P:Ug)(w:World)(base:Heap){ps:List Str}{k n:Nat}{F:w8->yb}(T:Top q loose mean mg mb h)(e:recsOf q=V2 p ix)(i:Nat)(x:Str)(hi:ix.contains i=w5)(hn:Rp (Kl p i)=O x)
  (ok:∀{f:Uh}{fd:Ui},Fun (whole h) x x (Kl p i) f fd->FnOk P w (whole h) mg base CX0 k f fd ps (spD (whole h) n F))
  (hb:∀(kV doc pm:Ue)(an:yh)(cdv ct:Ue)(us:ya),us.length=ps.length->bindArgs (PySem.W.fnOf x x (X0 (Kl p i)) (Yl (Kl p i)) (K0 (Kl p i)) .none kV doc pm an cdv ct) ⟨us,[]⟩=pure (ps.zip us)):Def P w (whole h) mg base x k n F:=by
 obtain⟨f,fd,m,FU⟩:=R9 T e i x hi hn;exact Def.mk m FU (FU.binds hb) (ok FU)
section
variable{X:Cx}{B G0:Hp}{e:Uj}{pos:Pos}{es:yd}
theorem pdf{k kk n:Nat}{F:w8->yb}{g:M w8}{x:Str}{p2:Pos}(d:Def X.prog X.w X.K X.mg X.base x k n F)(hr:Room kk X.A)(hg:Gl X x)(ha:PA X (e::es) (tDs X.K B G0 g))(hk:k<=kk:=by decide)(hn:(e::es).length=n:=by rfl)
  (hdb:(x==("__debug__" : Str))=w6:=by decide) (he:Um (e::es) X.env=(w6,eval e X.env)::Um es X.env:=by rfl) (hpl:(backTo pos (Um es X.env)).any (·.1)=w6:=by rfl) :
  PE X (.Call (.Name x p2) (e::es) [] pos) (tD X.K B G0 (UP n F g)):=CU d (hr.mono hk) hg ha hn hdb he hpl
end
theorem FV{q p:Ug}{loose:List Str}{mean:ExcName->yc}{mg mb:Str->yc}{h:Heap}{ix:yl}{P:Ug}{w:World}{k:Nat}{F:w8->yb}{y:Str}{fa:Uh}(T:Top q loose mean mg mb h)(e:recsOf q=V2 p ix)(i:Nat)(x:Str)(hi:ix.contains i=w5)(hn:Rp (Kl p i)=O x)(hfa:mg x=O (.ref fa))
  (hb:∀(kV doc pm:Ue)(an:yh)(cdv ct v:Ue),bindArgs (PySem.W.fnOf x x (X0 (Kl p i)) (Yl (Kl p i)) (K0 (Kl p i)) .none kV doc pm an cdv ct) ⟨[v],[]⟩=pure [(y,v)])
  (ok:∀(base:Heap){f:Uh}{fd:Ui},Fun (whole h) x x (Kl p i) f fd->FnOk P w (whole h) mg base CX0 k f fd [y] (spD (whole h) 1 F)) :
  ∃fd:Ui,(∀(s:Uf)(v:Ue),BindsTo s fd ⟨[v],[]⟩ [(y,v)])/\∀base:Heap,FnOk P w (whole h) mg base CX0 k fa fd [y] (spD (whole h) 1 F):=by
 obtain⟨f,fd,m,FU⟩:=R9 T e i x hi hn;cases hfa.symm.trans m;exact⟨fd,kL FU hb,λbase=>ok base FU⟩
noncomputable def WI:D->Bool
 |.str x=>decide (x.length<=1000)
 |.int i=>decide (0<=i)&&decide (i<10 ^ 10)
 |.none=>w5
 |_=>w6
noncomputable def WG(nm:Str)(ds:w8):Option w8:=match Yj nm with
 |[]=>(match ds with | [.str _]=>O [] | _=>w4)
 |f::fs=>if ds.length=(f::fs).length/\ds.all WI=w5 then O ds else w4
noncomputable abbrev exD(nm:Str)(ds:w8):D:=.dict [(.none,.tuple [.str nm,.list ds])]
section
variable{K:Frag}{G H H':Hp}{nm:Str}{C a:Uh}{bm:ya}{vs:List V}{ds fs:w8}{dd:yh}
theorem Dq{v:V}{d:D}(r:Rep K G v d)(h:WI d=w5):∃y,FmtV v y/\y.length<=4000:=by
 cases r with
 |non=>exact⟨_,.non,by decide⟩
 |bl b=>cases h
 |int i=>
  unfold WI at h;simp only[QL,Jm]at h;have h64:i.natAbs<2 ^ 64:=by have:=h.2;have:=h.1;omega
  refine⟨_,.int i ?_,QH (toString_length_le h.1 (by decide:0<10) h.2) (by decide)⟩;by_cases z:i.natAbs=0
  .rw[z];decide
  .have:=(Nat.log2_lt z).mpr h64
   omega
 |str x=>unfold WI at h;have h:=Qa h;exact⟨x,.str x (QH h (by decide)),QH h (by decide)⟩
 |lst _ _=>cases h
 |tup _ _=>cases h
 |dic _=>cases h
 |exc _ _ _ _=>cases h
 |dct _ _ _ _ _=>cases h
 |dtt _ _ _ _=>cases h
theorem M6:∀{vs:List V}{ds:w8},Reps K G vs ds->ds.all WI=w5->∀u∈vs,∃y,FmtV u y/\y.length<=4000
 |_,_,.nil,_,u,hu=>by cases hu
 |_,_,.cons r t,h,u,hu=>by
  rw[Jh,QL]at h;rcases Qx.mp hu with rfl|hu
  .exact Dq r h.1
  .exact M6 t h.2 u hu
theorem AM(r:Reps K G vs ds)(e:WG nm ds=O fs):NI nm vs:=by
 unfold WG at e;split at e
 .rename_i hf
  split at e
  .obtain⟨v,rfl,q⟩:=r.one_inv
   exact .inl ⟨hf,_,by rw[q.str_inv]⟩
  .cases e
 .rename_i f l hf
  split at e
  .rename_i c
   refine .inr ⟨by rw[hf];simp,by rw[r.length,hf];exact c.1,M6 r c.2⟩
  .cases e
theorem Br(c:ClsK K nm C bm)(s:Same G H)(ha:H a=w4)(r:Reps K G vs ds)(e:WG nm ds=O fs)(p:NH nm C a vs (upd H a (.ext (XO w5 a C w4))) dd H') :
  ∃G',Ext G H G' (upd H' a (.ext (XO w6 a C dd)))/\Rep K G' (.ref a) (exD nm fs)/\H' a=O (.ext (XO w5 a C dd)):=by
 unfold WG at e;rcases p with ⟨hf,rfl,rfl⟩|⟨hf,hl,dx,rfl,hd,hne,rfl⟩
 .rw[hf]at e
  dsimp only at e;split at e
  .cases e
   refine⟨upd G a (.ext (XO w6 a C w4)),?_,.exc (vs:=[]) c KG ⟨hf,rfl⟩ .nil,KG⟩;rw[M9];exact Ext.new s ha
  .cases e
 .split at e
  .rename_i hf';exact absurd hf' hf
  .rename_i f l hf'
   split at e
   .cases e
    have hd':H dx=w4:=by rw[Kk hne]at hd;exact hd
    have eH:upd (upd (upd (upd H a (.ext (XO w5 a C w4))) a (.ext (XO w5 a C (O dx)))) dx (.ext (XD dx ((Yj nm).zip vs)))) a (.ext (XO w6 a C (O dx)))=upd (upd H a (.ext (XO w6 a C (O dx)))) dx (.ext (XD dx ((Yj nm).zip vs))):=by
     funext b;by_cases h1:b=a
     .subst h1;rw[KG,Kk (Ne.symm hne),KG]
     .rw[Kk h1]
      by_cases h2:b=dx
      .subst h2;rw[KG,KG]
      .rw[Kk h2,Kk h1,Kk h1,Kk h2,Kk h1]
    have x1:Ext G H (upd G a (.ext (XO w6 a C (O dx)))) (upd H a (.ext (XO w6 a C (O dx)))):=Ext.new s ha;have hd2:upd H a (.ext (XO w6 a C (O dx))) dx=w4:=by rw[Kk hne];exact hd'
    have x2:=x1.trans (Ext.new (o:=.ext (XD dx ((Yj nm).zip vs))) x1.gh hd2);exact⟨_,by rw[eH];exact x2,.exc (dd:=O dx) (vs:=vs) c (by rw[Kk (Ne.symm hne)];exact KG) ⟨hl.symm,KG⟩ (r.mono x2.g),by rw[Kk (Ne.symm hne)];exact KG⟩
   .cases e
end
noncomputable def YW(nm:Str)(g:M w8):SM:=sB g λds Z=>match WG nm ds with|some fs=>.ex Z (exD nm fs)|none=>.bad
section
variable{X:Cx}{B G0:Hp}{KX:XW}{e a b c:Uj}{pos p2 cpos:Pos}{es:yd}{st:Stmt}{sts:List Stmt}{nm x:Str}{k kk n:Nat}
theorem AL{g:M w8}(mk:MkX X.prog X.w X.K X.mg X.base nm k)(hr:Room kk X.A)(hc:X.calm=w5)(hw:Wv X KX)(hg:Gl X nm)(ha:PA X (e::es) (tDs X.K B G0 g))(hk:k+1<=kk:=by decide)
  (hdb:(nm==("__debug__" : Str))=w6:=by decide) (he:Um (e::es) X.env=(w6,eval e X.env)::Um es X.env:=by rfl) (hpl:(backTo cpos (Um es X.env)).any (·.1)=w6:=by rfl) :
  PS X (.Raise (O (.Call (.Name nm p2) (e::es) [] cpos)) w4 pos) (tS X.K B G0 KX (YW nm g)):=PS.kin λkin=>by
 obtain⟨C,bm,f,fd,ps,sp,hm,hkp,ck,xc,F,hb,zR⟩:=mk;refine KY (qt (KC:=λC'=>C'=C) hc (λC' z=>by subst z;exact⟨bm,f,xc _ _ kin⟩) hw (qu (xc _ _ kin) F (hr.mono hk) hg hm hkp hb ha hdb he hpl)) λDn σ H q=>?_
 refine tS.bnd (R:=Reps X.K) q λvs H1 G1 Z1 ds k1 r a=>?_
 cases z:WG nm ds with
 |none=>rw[z]at a;exact a.elim
 |some fs=>
  rw[z]at a;have ar:=AM r z;refine⟨?_,λad had=>zR ad vs _ _ KG ar λdd H' p=>⟨rfl,?_⟩⟩
  .rcases ar with ⟨_,x,rfl⟩|⟨_,hl,_⟩
   .exact(show 1<=Uk by decide)
   .rw[hl]
    unfold Yj;split
    .decide
    .split
     .decide
     .split<;>decide
  .obtain⟨G',ex,rp,hx⟩:=Br ck k1.gh had r z p
   exact⟨ad,C,dd,rfl,rfl,hx,a (.ref ad) σ G' _ (k1.ext ex) ex.g rp⟩
inductive XR where
 |val (d:D)|exc (d:D)
noncomputable def spX(K:Frag)(n:Nat)(F:w8->Option XR):Sp:=λvs H Q E=>∃G ds r,vs.length=n/\Same G H/\Reps K G vs ds/\F ds=O r/\match r with
 |.val d=>∀v G' H',Ext G H G' H'->Rep K G' v d->Q v H'
 |.exc d=>∀ad G' H',Ext G H G' H'->Rep K G' (.ref ad) d->E (.ref ad) w4 H'
def KN(P:Ug)(w:World)(K:Frag)(mg:Str->yc)(base:Heap)(x:Str)(k n:Nat)(F:w8->Option XR):Prop:=
 ∃(f:Uh)(fd:Ui)(ps:List Str),mg x=O (.ref f)/\PySem.W.keepIn K (.ref f)=w5/\Ys K fd ps []/\FnOk P w K mg base (CX1 P w) k f fd ps (spX K n F)
def aftX(K:Frag)(B G0:Hp)(KX:XW)(r:Res XR)(G:Hp)(σ:St)(Q:VK):Prop:=match r with
 |.ok (.val d) Z=>∀v G' H',EOk K B G0 G' H' σ Z->Same G G'->Rep K G' v d->Q v H'
 |.ok (.exc d) Z=>∀v G' H',EOk K B G0 G' H' σ Z->Same G G'->Rep K G' v d->KX v σ H'
 |.bad=>False
noncomputable def tX(K:Frag)(B G0:Hp)(KX:XW)(f:M XR):TE:=λσ H Q=>∃G Z,EOk K B G0 G H σ Z/\aftX K B G0 KX (f Z) G σ Q
noncomputable def Zd(n:Nat)(F:w8->Option XR)(g:M w8):M XR:=UW g λxs=>if xs.length=n then UX (F xs)else λ_=>.bad
theorem AK{F:w8->Option XR}{g:M w8}(d:KN X.prog X.w X.K X.mg X.base x k n F)(hr:Room kk X.A)(hw:Wv X KX)(hg:Gl X x)(ha:PA X (e::es) (tDs X.K B G0 g))(hk:k<=kk:=by decide)(hn:(e::es).length=n:=by rfl)
  (hdb:(x==("__debug__" : Str))=w6:=by decide) (he:Um (e::es) X.env=(w6,eval e X.env)::Um es X.env:=by rfl) (hpl:(backTo pos (Um es X.env)).any (·.1)=w6:=by rfl) :
  PE X (.Call (.Name x p2) (e::es) [] pos) (tX X.K B G0 KX (Zd n F g)):=by
 obtain⟨f,fd,ps,h1,h2,h3,h4⟩:=d;refine Ki (qp h4 (hr.mono hk) hg h1 h2 h3 hw ha hdb he hpl) λσ H Q ⟨G,Z,k0,a⟩=>?_
 refine⟨G,Z,k0,?_⟩;unfold Zd UW at a;cases z:g Z with
 |bad=>rw[z]at a;exact a.elim
 |ok xs Z1=>
  rw[z]at a;dsimp only at a;intro vs G1 H1 k1 s1 r;by_cases hl:xs.length=n
  .rw[Qm hl]at a
   cases zF:F xs with
   |none=>rw[zF]at a;exact a.elim
   |some rr=>
    rw[zF]at a;refine⟨G1,xs,rr,by rw[r.length];exact hl,k1.gh,r,zF,?_⟩;cases rr with
    |val d=>exact λv G' H' ex rv=>a v G' H' (k1.ext ex) (s1.trans ex.g) rv
    |exc d=>intro bq G' H' ex rv ad ev;cases ev;exact a _ G' H' (k1.ext ex) (s1.trans ex.g) rv
  .rw[Qw hl]at a;exact a.elim
noncomputable def sX(f:M XR)(g:D->SM):SM:=λZ=>match f Z with
 |.ok (.val d) Z'=>g d Z'
 |.ok (.exc d) Z'=>.ex Z' d
 |.bad=>.bad
theorem tS.bndX{K:Frag}{f:M XR}{g:D->SM}{Dn:Ends}{σ:St}{H:Hp}{P:V->Hp->Prop}(q:tS K B G0 KX (sX f g) Dn σ H)
  (i:∀v H' G' Z' x,EOk K B G0 G' H' σ Z'->Rep K G' v x->aftS K B G0 KX (g x Z') G' Dn->P v H'):tX K B G0 KX f σ H P:=by
 obtain⟨G,Z,k,a⟩:=q;refine⟨G,Z,k,?_⟩;unfold sX at a;cases z:f Z with
 |bad=>rw[z]at a;exact a.elim
 |ok r Z1=>
  rw[z]at a;cases r with
  |val d=>exact λv G' H' e s r=>i v H' G' Z1 d e r (aftS.mono s a)
  |exc d=>exact λv G' H' e s r=>a v σ G' H' e s r
theorem AJ{f:M XR}(h:PE X e (tX X.K B G0 KX f))(hs:swapsWith e w4 pos.line X.env=pure w6:=by rfl):PS X (.Expr e pos) (tS X.K B G0 KX (sX f λ_ Z=>.nx Z)):=KY (VM h hs) λD σ H q=>tS.bndX q λv H' G' Z' x k r a=>a σ G' H' k (.refl _)
theorem Bq{f:M XR}(h:PE X e (tX X.K B G0 KX f)):PS X (.Return (O e) pos) (tS X.K B G0 KX (sX f λd _=>.rt d)):=KY (Oq h) λD σ H q=>tS.bndX q λv H' G' Z' x k r a=>a v G' H' k.exit r
theorem Bp{i:Nat}{y:Str}{f:M XR}(hN:X.N.Nodup)(hi:X.N[i]?=O y)(hx:Loc X.env.scope y)(he:PE X e (tX X.K B G0 KX f))(hs:swapsWith e (O (.Name y p2)) pos.line X.env=pure w6:=by rfl)
  (hf:X.fn y=w5∨X.env.scope.names.lookup y=O .local:=by first|exact .inl rfl|exact .inr rfl|assumption):PS X (.Assign [.Name y p2] e pos) (tS X.K B G0 KX (sX f λd Z=>match gN i d Z with|some Z'=>.nx Z'|none=>.bad)):=
 KY (Oo hN hi hx he hs hf) λD σ H q=>tS.bndX q λv H' G' Z' x k r a=>by
  unfold gN at a;split at a
  .rename_i Z2 hz
   split at hz
   .rename_i hi2
    cases hz;exact a _ G' H' (k.setPub r hi2) (.refl _)
   .cases hz
  .exact a.elim
theorem Bo{tg:Uj}{f:M XR}{s:D->UI->ye}(he:PE X e (tX X.K B G0 KX f))(hg:PG X tg (tG X.K B G0 s))(hs:swapsWithSole [tg] e pos.line X.env=pure w6:=by rfl)(hw:swappedStores [tg] e X.env=pure w4:=by rfl)
  (h1:(UC [tg] X.env).map (·.2)=[assign tg X.env]:=by rfl):PS X (.Assign [tg] e pos) (tS X.K B G0 KX (sX f λd Z=>match s d Z with|some Z'=>.nx Z'|none=>.bad)):=
 KY (Op he hg hs hw h1) λD σ H q=>tS.bndX q λv H' G' Z' x k r a=>by
  cases z:s x Z' with
  |none=>rw[z]at a;exact a.elim
  |some Z2=>rw[z]at a;exact⟨G',Z',x,Z2,k,r,z,λσ2 G2 H2 k2 s2=>a σ2 G2 H2 k2 s2⟩
noncomputable def K4(N:List Str)(g:SM)(ds:w8):Option XR:=match g (ZV N ds)with
 |.rt d=>O (.val d)
 |.nx _=>O (.val .none)
 |.ex _ d=>if Y0 d=w5 then O (.exc d)else w4
 |_=>w4
noncomputable abbrev kxE(E:XK):XW:=λv _ H=>∃e,v=.ref e/\E (.ref e) w4 H
theorem okX{P:Ug}{w:World}{K:Frag}{mg:Str->yc}{base:Heap}{x qual:Str}{st:Stmt}{f:Uh}{fd:Ui}{N ps:List Str}{k n:Nat}{g:SM}(F:Fun K x qual st f fd)(S:Tc N ps (K0 st))(hn:ps.length=n)
  (der:∀(cdv:Ue)(A:Around)(outer:List Env)(s:Uf)(H:Hp)(E:XK)(B G0:Hp),Room k (A.deeper (envOfC qual (K0 st) s.heap.objs.size f cdv)) ->
   PSs (Zh (CX1 P w) P w K mg base N qual (K0 st) f cdv A outer s H E) (Yl st) (tS K B G0 (kxE E) g)):FnOk P w K mg base (CX1 P w) (k+1) f fd ps (spX K n (K4 N g)):=by
 obtain⟨oc,od,kV,doc,pm,an,cdv,ct,osl,rfl,lk,hcd⟩:=F.ex;refine NV lk hcd S (λvs H Q E h=>?_) λA outer s H vs Q E hr h=>?_
 .obtain⟨_,_,_,hl,_⟩:=h
  rw[hl,hn]
 .obtain⟨G,ds,r,hl,sg,rp,hF,q⟩:=h
  refine⟨_,der cdv A outer s H E H G hr,G,ZV N ds,O2 sg rp,?_⟩;unfold K4 at hF;cases z:g (ZV N ds)with
  |rt d'=>rw[z]at hF;cases hF;exact λv G' H' ex rr=>q v G' H' ex rr
  |nx Z=>rw[z]at hF;cases hF;exact λσ' G' H' k' _=>q .non G' H' k'.exit .non
  |ex Z d=>
   rw[z]at hF;dsimp only at hF;split at hF
   .rename_i hx
    cases hF;intro v σ' G' H' k' _ rv
    obtain⟨ad,rfl⟩:∃ad,v=.ref ad:=by
     cases rv with
     |exc _ _ _ _=>exact⟨_,rfl⟩
     |dct _ _ _ _ _=>exact⟨_,rfl⟩
     |dtt _ _ _ _=>exact⟨_,rfl⟩
     |_=>cases hx
    exact⟨ad,rfl,q ad G' H' k'.exit rv⟩
   .cases hF
  |bk Z=>rw[z]at hF;cases hF
  |ct Z=>rw[z]at hF;cases hF
  |bad=>rw[z]at hF;cases hF
end
section
variable{K:Frag}{B G0 G H:Hp}{σ:St}{Z:UI}
theorem EOk.unset{i:Nat}(k:EOk K B G0 G H σ Z):EOk K B G0 G H (σ.set i w4) (Z.set i w4) where
 bh:=k.bh
 gh:=k.gh
 g0:=k.g0
 np:=k.np
 len:=by rw[Q5,Q5];exact k.len
 pub:=λj d' q=>by
  by_cases z:i=j
  .subst z
   have:=Yv q;cases this
  .rw[Qn z]at q⊢
   exact k.pub j d' q
 own:=λj ds q=>by
  by_cases z:i=j
  .subst z
   have:=Yv q;cases this
  .rw[Qn z]at q⊢
   exact k.own j ds q
 sep:=λj l c es fs q1 q2 s1 s2=>by
  have z1:i≠j:=λz=>by subst z;have:=Yv q1;cases this
  have z2:i≠l:=λz=>by subst z;have:=Yv q2;cases this
  rw[Qn z1]at q1 s1;rw[Qn z2]at q2 s2;exact k.sep j l c es fs q1 q2 s1 s2
 dp:=k.dp.setOther (λs e=>by cases e)
end
def CK(K:Frag)(mg:Str->yc)(x:Str):Prop:=∃D bm,mg x=O (.ref D)/\ClsK K x D bm
noncomputable def Xi(x:Str):D->Bool
 |.dict [(.none,.tuple [.str nm,_])]=>decide (x=nm) || decide (x = "DealError")
 |_=>w6
section
variable{X:Cx}{B G0:Hp}{KX:XW}{e a b c:Uj}{pos p2 cpos np hpos:Pos}{es:yd}{x n:Str}{k kk:Nat}
noncomputable def Wh(f:Str):D->yb
 |.dict [(.none,.tuple [.str nm,.list ds])]=>((Yj nm).zip ds).lookup f
 |_=>w4
theorem HD{K:Frag}{G:Hp}{f:Str}:∀{fs:List Str}{vs:List V}{ds:w8}{d:D},Reps K G vs ds->(fs.zip ds).lookup f=O d->f∈fs/\∃v,(fs.zip vs).lookup f=O v/\Rep K G v d
 |[],vs,ds,d,_,e=>by simp at e
 |g::fs,_,_,d,.nil,e=>by simp at e
 |g::fs,_,_,d,@Reps.cons _ _ v d0 vs ds r t,e=>by
  rw[JX,QR]at e;rw[JX,QR];cases z:f==g with
  |true=>rw[z]at e;cases e;exact⟨by rw[beq_iff_eq.mp z];exact Qo,v,rfl,r⟩
  |false=>rw[z]at e;obtain⟨h1,h2⟩:=HD t e;exact⟨Qp _ h1,h2⟩
theorem AI{f:M D}{fl:Str}(he:PE X e (tD X.K B G0 f))(hb:attributeBase e fl X.env (eval e X.env)=eval e X.env:=by rfl)(hq:fl∈(["part", "number", "row"]:List Str):=by decide) :
  PE X (.Attribute e fl pos) (tD X.K B G0 (UW f λd=>UX (Wh fl d))):=PE.kin λkin=>by
 refine Ki (BY (V0 kin) (λC bm ⟨nm,c⟩=>c.fld _ _ kin fl hq) he hb) λσ H Q q=>?_;refine tM.one (R:=Rep X.K) q λv H2 G Z d k r a=>?_
 obtain⟨d',e',a'⟩:=aft.opt a;unfold Wh at e';split at e'
 .obtain⟨ad,C,dd,bm,yO,vs,ds,rfl,rfl',c,hx,hd,rr⟩:=r.exc_inv
  cases rfl';obtain⟨hm,w,e1,rw⟩:=HD rr e';cases dd with
  |none=>rw[hd.1]at hm;cases hm
  |some dx=>exact⟨ad,C,bm,dx,_,w,w6,rfl,⟨_,c⟩,k.gh _ _ hx,k.gh _ _ hd.2,e1,a'.now k rw⟩
 .cases e'
end
def RS(o:Uj)(name:Str)(apos:Pos)(args:yd)(pos:Pos):Prop:=∀env:Env,∃pl:Sem Bool,eval (.Call (.Attribute o name apos) args [] pos) env=(do
   let ov ←eval o env
   standAt apos.atName
   let (f,first) ←holding [ov] (getMethod ov name pl)
   callWith pos f first (backTo pos (Um args env)) (backToKw pos (keywordEach [] env)))
section
variable{P:Ug}{w:World}{K:Frag}{mg:Str->yc}{base:Heap}{st:Stmt}{f f0 D:Uh}{fd aE:Ui}{q:Str}{p1 p2 p3 p4 p5 p6 p7 p8 p9 r1 r2 r3 r4 r5 r6 r7 r8 r9 q1 q2:Pos}{j1 j2:Nat}
theorem Bm(F:Fun K "__init__" q st f fd)(hn:FnNm (K0 st) ["self", "text"] ["ValueError"])(hm:mg "ValueError" = w4)
  (hb:Yl st=[.Expr (.Call (.Attribute (.Name "ValueError" p1) "__init__" p2) [.Name "self" p3,.Name "text" p4] [] p5) p6])
  (ht:RS (.Name "ValueError" p1) "__init__" p2 [.Name "self" p3,.Name "text" p4] p5) :
  FnOk P w K mg base CX0 1 f fd ["self", "text"] (Sz (KC K)):=by
 refine F.ok (fq hn 2) (λvs H Q E ⟨a,C,dd,bm,x,e,_⟩=>by rw[e];rfl) λcdv A outer s H vs Q E hr ⟨a,C,dd,bm,x,e,kc,hx,hq⟩=>?_
 subst e;rw[hb];obtain⟨pl,ht⟩:=ht (Zh CX0 P w K mg base ["self", "text"] q (K0 st) f cdv A outer s H E).nox.env;refine⟨RY (Mf (KC K) (VY (Kw 0) (VY (Kw 1) W2))),PSs.kin λkin=>RC (VM (qo (pl:=pl) (V0 kin) (gq hn 0) hm (YL (pq hn 0) (YL (pq hn 1) XX)) (ht:=ht))),?_⟩;exact⟨_,rfl,_,rfl,a,C,dd,bm,_,rfl,kc,hx,hq⟩
theorem Ym(x y:Str):(x++y).length=x.length+y.length:=by
 show(x.cps++y.cps).size=x.cps.size+y.cps.size
 exact Array.size_append
theorem Bl{t1 t2:Str}(M:Ri K D "__init__" f0)(F0:FnOk P w K mg base CX0 1 f0 aE ["self", "text"] (Sz (KC K)))(hb0:Ys K aE ["self", "text"] [])(hm:mg "DealError" = O (.ref D))
  (F:Fun K "__init__" q st f fd) (hn:FnNm (K0 st) ["self", "part", "number"] ["DealError"])
  (hb:Yl st=[.Expr (.Call (.Attribute (.Name "DealError" p1) "__init__" p2) [.Name "self" p3,.JoinedStr [.Constant (.str t1) j1 p4,.FormattedValue (.Name "part" p5) (-1) w4 p6,.Constant (.str t2) j2 p7,.FormattedValue (.Name "number" p8) (-1) w4 p9] r1] [] r2) r3,
   .Assign [.Attribute (.Name "self" r4) "part" r5] (.Name "part" r6) r7,.Assign [.Attribute (.Name "self" r8) "number" r9] (.Name "number" q1) q2])
  (ht:RS (.Name "DealError" p1) "__init__" p2 [.Name "self" p3,.JoinedStr [.Constant (.str t1) j1 p4,.FormattedValue (.Name "part" p5) (-1) w4 p6,.Constant (.str t2) j2 p7,.FormattedValue (.Name "number" p8) (-1) w4 p9] r1] r2)
  (hl1:t1.length<=1000) (hl2:t2.length<=1000) :
  FnOk P w K mg base CX0 2 f fd ["self", "part", "number"] (Pq (KC K) ["part", "number"]):=by
 refine F.ok (fq hn 3) (λvs H Q E ⟨a,C,bm,us,e,hl,_⟩=>by rw[e,QF,hl];rfl) λcdv A outer s H vs Q E hr ⟨a,C,bm,us,e,hl,kc,hx,hf,hq⟩=>?_
 subst e
 match us,hl with
 |[u1,u2],_=>
 rw[hb];obtain⟨pl,ht⟩:=ht (Zh CX0 P w K mg base ["self", "part", "number"] q (K0 st) f cdv A outer s H E).nox.env;obtain⟨y1,f1,g1⟩:=hf u1 (by simp);obtain⟨y2,f2,g2⟩:=hf u2 (by simp)
 refine⟨W1 (RY (RW (Sz (KC K)) [] E0 (VY (Kw 0) (VY (Rh [tC (.str t1),W3 (Kw 1),tC (.str t2),W3 (Kw 2)] Str.empty) W2)))) (W1 (RV (KC K) (Kw 0) (Kw 1) "part") (RV (KC K) (Kw 0) (Kw 2) "number")),
  PSs.kin λkin=>RI (VM (LC (pl:=pl) M F0 hr hb0 (gq hn 0) hm (YL (pq hn 0) (YL (Hm (.cons Pg (.cons (Ot (pq hn 1)) (.cons Pg (.cons (Ot (pq hn 2)) .nil))))) XX)) (ht:=ht)))
   (RI (OL (V0 kin) (λC bm ⟨nm,c⟩=>c.fld _ _ kin "part" (by decide)) (pq hn 0) (pq hn 1) wZ) (RC (OL (V0 kin) (λC bm ⟨nm,c⟩=>c.fld _ _ kin "number" (by decide)) (pq hn 0) (pq hn 2) wZ))),?_⟩
 have e0:(Str.empty:Str).length=0:=rfl;have lz:(10000:Nat)<=Uk:=by decide
 refine⟨_,rfl,t1,rfl,by rw[Ym];omega,_,rfl,y1,f1,_,rfl,by rw[Ym,Ym];omega,t2,rfl,by rw[Ym,Ym,Ym];omega,_,rfl,y2,f2,_,rfl,by rw[Ym,Ym,Ym,Ym];omega,by rw[Ym,Ym,Ym,Ym];omega,?_⟩;refine⟨a,C,w4,bm,_,rfl,kc,hx,?_⟩;refine⟨_,rfl,_,rfl,a,C,bm,rfl,kc,.inl ⟨hx,λdx hd hne=>?_⟩⟩;refine⟨_,rfl,_,rfl,a,C,bm,rfl,kc,.inr ⟨dx,_,hne,by rw[Kk (Ne.symm hne)];exact KG,KG,(show 1<900 by decide),?_⟩⟩;rw[M9];exact hq dx hd hne
theorem Bk{t1 g:Str}(M:Ri K D "__init__" f0)(F0:FnOk P w K mg base CX0 1 f0 aE ["self", "text"] (Sz (KC K)))(hb0:Ys K aE ["self", "text"] [])(hm:mg "DealError" = O (.ref D))
  (F:Fun K "__init__" q st f fd) (hn:FnNm (K0 st) ["self", g] ["DealError"]) (hg:g∈(["part", "number", "row"]:List Str)) (hd1:(g==("__debug__" : Str))=w6:=by decide) (hd2:(g==("__classdict__" : Str))=w6:=by decide)
  (hb:Yl st=[.Expr (.Call (.Attribute (.Name "DealError" p1) "__init__" p2) [.Name "self" p3,.JoinedStr [.Constant (.str t1) j1 p4,.FormattedValue (.Name g p5) (-1) w4 p6] r1] [] r2) r3,
   .Assign [.Attribute (.Name "self" r4) g r5] (.Name g r6) r7])
  (ht:RS (.Name "DealError" p1) "__init__" p2 [.Name "self" p3,.JoinedStr [.Constant (.str t1) j1 p4,.FormattedValue (.Name g p5) (-1) w4 p6] r1] r2)
  (hl1:t1.length<=1000) :
  FnOk P w K mg base CX0 2 f fd ["self", g] (Pq (KC K) [g]):=by
 refine F.ok (fq hn 2) (λvs H Q E ⟨a,C,bm,us,e,hl,_⟩=>by rw[e,QF,hl];rfl) λcdv A outer s H vs Q E hr ⟨a,C,bm,us,e,hl,kc,hx,hf,hq⟩=>?_
 subst e
 match us,hl with
 |[u1],_=>
 rw[hb];obtain⟨pl,ht⟩:=ht (Zh CX0 P w K mg base ["self", g] q (K0 st) f cdv A outer s H E).nox.env;obtain⟨y1,f1,g1⟩:=hf u1 (by simp);have v1:∀{pos:Pos},PE (Zh CX0 P w K mg base ["self", g] q (K0 st) f cdv A outer s H E).nox (.Name g pos) (Kw 1):=pq hn 1 wZ hd1 hd2
 refine⟨W1 (RY (RW (Sz (KC K)) [] E0 (VY (Kw 0) (VY (Rh [tC (.str t1),W3 (Kw 1)] Str.empty) W2)))) (RV (KC K) (Kw 0) (Kw 1) g),
  PSs.kin λkin=>RI (VM (LC (pl:=pl) M F0 hr hb0 (gq hn 0) hm (YL (pq hn 0) (YL (Hm (.cons Pg (.cons (Ot v1) .nil))) XX)) (ht:=ht)))
   (RC (OL (V0 kin) (λC bm ⟨nm,c⟩=>c.fld _ _ kin g hg) (pq hn 0) v1 wZ)),?_⟩
 have e0:(Str.empty:Str).length=0:=rfl;have lz:(10000:Nat)<=Uk:=by decide
 refine⟨_,rfl,t1,rfl,by rw[Ym];omega,_,rfl,y1,f1,_,rfl,by rw[Ym,Ym];omega,by rw[Ym,Ym];omega,?_⟩;refine⟨a,C,w4,bm,_,rfl,kc,hx,?_⟩;exact⟨_,rfl,_,rfl,a,C,bm,rfl,kc,.inl ⟨hx,λdx hd hne=>hq dx hd hne⟩⟩
end
structure XSt(h:Heap)(nm:Str)(own:Option Stmt)(C N:Uh)(bm:ya)(mN:Str->yc):Prop where
 ad:h.nsMap mainGlobals nm=O (.ref C)
 obj:∃q bs sn sub ab col dd k0 k1 k2 k3 k5,h.get? C=O (excClassObj nm q C N bs bm w5 sn sub ab col dd k0 k1 k2 k3 k5 "ValueError.__new__")
 ns:h.Ns N mN
 quiet:∀x∈Os,mN x=w4
 up:nm = "DealError" /\ bm=VB∨nm ≠ "DealError" /\ ∃D,h.nsMap mainGlobals "DealError" = O (.ref D)/\bm=.ref D::VB
 init:match own with
  |none=>mN "__init__" = w4
  |some st=>∃f o pm cd doc,mN "__init__" = O (.ref f)/\h.get? f=O o/\o.cls=.type "function" /\ o.data=.func (methDef "__init__" (VF nm) (X0 st) (Yl st) (K0 st) pm cd doc)/\h.CodeRec cd (VF nm)
section
variable{h h':Heap}{nm:Str}{own:Option Stmt}{C N:Uh}{bm:ya}{mN:Str->yc}
theorem Gr{a:Uh}{x:Str}{v:Ue}(e:h.nsMap a x=O v)(k:∀b o,h.get? b=O o->h'.get? b=O o):h'.nsMap a x=O v:=by
 unfold Heap.nsMap at e⊢;cases z:h.get? a with
 |none=>rw[z]at e;cases e
 |some o=>rw[k _ _ z];rw[z]at e;exact e
theorem XSt.keeps(x:XSt h nm own C N bm mN)(k:∀b o,h.get? b=O o->h'.get? b=O o):XSt h' nm own C N bm mN where
 ad:=Gr x.ad k
 obj:=let ⟨q,bs,sn,sub,ab,col,dd,k0,k1,k2,k3,k5,e⟩:=x.obj;⟨q,bs,sn,sub,ab,col,dd,k0,k1,k2,k3,k5,k _ _ e⟩
 ns:=x.ns.keeps k
 quiet:=x.quiet
 up:=x.up.imp id λ⟨a,D,b,c⟩=>⟨a,D,Gr b k,c⟩
 init:=by
  have z:=x.init;cases own with
  |none=>exact z
  |some st=>obtain⟨f,o,pm,cd,doc,h1,h2,h3,h4,h5⟩:=z;exact⟨f,o,pm,cd,doc,h1,k _ _ h2,h3,h4,h5.keeps k⟩
theorem dA(st:Stmt):NR st=X0 st:=by cases st<;>rfl
theorem dB(st:Stmt):NT st=Yl st:=by cases st<;>rfl
theorem dS(st:Stmt):Mr st=K0 st:=by cases st<;>rfl
structure XYP(p:Ug)(l:XL0)(h:Heap):Prop where
 st:∃mc,h.Ns cStatics mc/\mc "thirdparty.any" = w4
 cl:∀c∈l,∃C N bm mN,XSt h c.1 (c.2.map λi=>Y3 (Kl p i)) C N bm mN
theorem XYP.keeps{p:Ug}{l:XL0}(x:XYP p l h)(k:∀b o,h.get? b=O o->h'.get? b=O o):XYP p l h':=
 ⟨let ⟨mc,a,b⟩:=x.st;⟨mc,a.keeps k,b⟩,λc hc=>let ⟨C,N,bm,mN,z⟩:=x.cl c hc;⟨C,N,bm,mN,z.keeps k⟩⟩
theorem DT{st:Stmt}{n:Bool}(b:xB h nm n=w5)(hown:own=w4->n=w6)(hs:∀st,own=O st->xSh h nm=O (w5,Tl nm st)):∃C N bm mN,XSt h nm own C N bm mN:=by
 unfold xB at b;split at b
 .rename_i C hC
  split at b
  .rename_i t dd cd sl ho
   simp only[QL,Bool.not_eq_true',beq_iff_eq,Bool.or_eq_true,Q2,Option.isNone_iff_eq_none]at b;obtain⟨⟨⟨⟨⟨⟨⟨⟨b1,b2⟩,b3⟩,b4⟩,b5⟩,b6⟩,b7⟩,b8⟩,b9⟩:=b;obtain⟨cn,cb,cm,cns,cq,chd,csn,csub,cab,ccol,cdel⟩:=cd;simp only at b2 b3 b4 b6 b7 b8 b9;subst b1 b2 b3 b4;split at b5
   .rename_i k0 k1 k2 k3 k4 k5 hsl
    have b5:=Qa b5;subst b5;have hsl':sl=#[k0,k1,k2,k3,O (.builtin "ValueError.__new__"),k5]:=by rw[←Array.toList_inj,hsl]
    subst hsl'
    have key:∃bm,cm=.ref C::bm/\(cn = "DealError" /\ bm=VB∨cn ≠ "DealError" /\ ∃D,h.nsMap mainGlobals "DealError" = O (.ref D)/\bm=.ref D::VB):=by
     split at b9
     .rename_i e
      exact⟨VB,Qa b9,.inl ⟨e,rfl⟩⟩
     .rename_i e
      split at b9
      .rename_i D hD
       exact⟨.ref D::VB,Qa b9,.inr ⟨e,D,hD,rfl⟩⟩
      .cases b9
    obtain⟨bm,rfl,up⟩:=key;refine⟨C,cns,bm,h.nsMap cns,hC,⟨_,_,_,_,_,_,_,_,_,_,_,_,ho⟩,.of_isNs b6,b7,up,?_⟩;cases own with
    |none=>
     rcases b8 with b8|b8
     .rw[hown wZ]at b8;cases b8
     .exact b8
    |some st=>
     have e:=hs st wZ;unfold xSh at e;rw[hC]at e;dsimp only at e;rw[ho]at e;dsimp only at e;split at e
     .rename_i a o fd sh hf hsh
      simp only[Option.some.injEq,Prod.mk.injEq,Jm]at e;obtain⟨e1,rfl⟩:=e;obtain⟨g1,g2,g3⟩:=Heap.fnAt_spec hf;unfold Heap.shapeAt at hsh;rw[hf]at hsh;obtain⟨n,q,ps,b,sc,g,cl,df,kd,doc,pm,an,code,ct,bi⟩:=fd;simp only[Option.map_some,Tl,dA,dB,dS,Option.some.injEq,FnShape.mk.injEq]at hsh;obtain⟨rfl,rfl,rfl,rfl,rfl,rfl,rfl,rfl,rfl,rfl,rfl,rfl,hc⟩:=hsh;exact⟨a,o,pm,code,doc,g1,g2,e1,g3,.of_ok hc⟩
     .cases e
   .cases b5
  .cases b
 .cases b
theorem DS{p:Ug}{l:XL0}{s:Uf}(e:xSeen l s=xGood p l):XYP p l s.heap:=by
 unfold xSeen xGood at e;obtain⟨e1,e2⟩:=Prod.mk.inj e;obtain⟨e1,e3⟩:=Bool.and_eq_true_iff.mp e1;refine⟨⟨_,.of_isNs e1,Option.isNone_iff_eq_none.mp e3⟩,λc hc=>?_⟩;have q:=List.map_inj_left.mp e2 c hc;obtain⟨q1,q2⟩:=Prod.mk.inj q;refine DT (st:=.Pass ⟨0,0,0,0⟩) q1 (λz=>?_) λst z=>?_
 .cases hz:c.2 with
  |none=>rfl
  |some i=>rw[hz]at z;cases z
 .cases hz:c.2 with
  |none=>rw[hz]at z;cases z
  |some i=>rw[hz]at z q2;cases z;exact q2
end
theorem N8:mroOf (.type "ValueError")=pure VB:=by kernel_rfl
theorem FT:typeLookup (.type "ValueError") "__setattr__" = pure (O (.builtin "object.__setattr__")):=by kernel_rfl
theorem FS:typeLookup (.type "ValueError") "__getattribute__" = pure (O (.builtin "BaseException.__getattribute__")):=by kernel_rfl
theorem FR:typeLookup (.type "ValueError") "__getattr__" = pure w4:=by kernel_rfl
theorem FQ:typeLookup (.type "ValueError") "__class__" = pure (O (.builtin "object.__class__")):=by kernel_rfl
theorem Bj:typeLookup (.type "ValueError") "part" = pure w4:=by kernel_rfl
theorem kJ:typeLookup (.type "ValueError") "number" = pure w4:=by kernel_rfl
theorem DR:typeLookup (.type "ValueError") "row" = pure w4:=by kernel_rfl
theorem M5(v:Ue):refuseLoop v "__setattr__" VB=pure ():=by kernel_rfl
section
variable{h h':Heap}{nm:Str}{own ownD:Option Stmt}{C N D ND:Uh}{bm:ya}{mN mD:Str->yc}{M:Model}
theorem XSt.along(x:XSt h nm own C N bm mN)(xD:XSt h "DealError" ownD D ND VB mD){y:Str}{r:yc}(hy:y∈Os)(hB:typeLookup (.type "ValueError") y=pure r):K8 M C y r h:=by
 obtain⟨q,bs,sn,sub,ab,col,dd,k0,k1,k2,k3,k5,e⟩:=x.obj;obtain⟨q',bs',sn',sub',zU,col',yJ,k0',k1',k2',k3',k5',e'⟩:=xD.obj;refine K8.of e (Y1.miss e x.ns (x.quiet y hy) ?_);rcases x.up with ⟨_,rfl⟩|⟨_,D',yP,rfl⟩
 .exact Y1.base N8 hB
 .have:=yP.symm.trans xD.ad
  cases this;exact Y1.miss e' xD.ns (xD.quiet y hy) (Y1.base N8 hB)
theorem XSt.tail(x:XSt h nm own C N bm mN):Tail VB bm:=by
 rcases x.up with ⟨_,rfl⟩|⟨_,D',_,rfl⟩
 .exact Tail.base
 .exact Tail.own Tail.base
def RR(h:Heap)(own ownD:Option Stmt)(mN mD:Str->yc)(nm:Str)(f:Uh):Prop:=match own with
 |some _=>mN "__init__" = O (.ref f)
 |none=>mD "__init__" = O (.ref f)
theorem XSt.xcls(x:XSt h nm own C N bm mN){std:Stmt}(xD:XSt h "DealError" (O std) D ND VB mD){f:Uh}(hf:RR h own (O std) mN mD nm f):XCls M h C bm f:=by
 have hD:=xD.init;obtain⟨fD,oD,pmD,cdD,docD,g1,g2,g3,g4,g5⟩:=hD;obtain⟨q,bs,sn,sub,ab,col,dd,k0,k1,k2,k3,k5,e⟩:=id x.obj;obtain⟨q',bs',sn',sub',zU,col',yJ,k0',k1',k2',k3',k5',e'⟩:=id xD.obj
 have fin:K8 M C "__init__" (O (.ref f)) h/\∃o,h.get? f=O o/\o.cls=.type "function" :=by
  have z:=x.init;unfold RR at hf;cases own with
  |some st=>obtain⟨f',o,pm,cd,doc,h1,h2,h3,h4,h5⟩:=z;have hf:mN "__init__" = O (.ref f):=hf;rw[h1]at hf;cases hf;exact⟨K8.of e (Y1.hit e x.ns h1),o,h2,h3⟩
  |none=>
   have hf:mD "__init__" = O (.ref f):=hf;have z:mN "__init__" = w4:=z;rw[g1]at hf;cases hf;refine⟨K8.of e (Y1.miss e x.ns z ?_),oD,g2,g3⟩;rcases x.up with ⟨hn,rfl⟩|⟨_,D',yP,rfl⟩
   .subst hn
    have:=x.ad.symm.trans xD.ad;cases this;rw[e]at e';cases e';have:=x.ns.eq_nsMap.trans xD.ns.eq_nsMap.symm;rw[this]at z;rw[g1]at z;cases z
   .have:=yP.symm.trans xD.ad
    cases this;exact Y1.hit e' xD.ns g1
 refine⟨⟨nm,q,N,bs,sn,sub,ab,col,dd,k0,k1,k2,k3,k5,e⟩,x.tail,fin.1,fin.2,x.along xD (by decide) FT,x.along xD (by decide) FS,x.along xD (by decide) FR,x.along xD (by decide) FQ,λv=>?_⟩;rcases x.up with ⟨_,rfl⟩|⟨_,D',_,rfl⟩
 .exact M5 v
 .rw[refuseLoop_ref];exact M5 v
theorem SK(k:(whole h).In h'):∀b o,h.get? b=O o->h'.get? b=O o:=λb o e=>k b o (by rw[Yx];exact e)
theorem Nm{mA:Str->yc}{a:Uh}(n:h.Ns a mA)(y:Str):PySem.W.nsIn (whole h) a y=O (mA y):=by
 obtain⟨⟨oc,od,dt,os⟩,es,ep,ho,hd,hk,hf⟩:=n;have hd:dt=_:=hd;subst hd;unfold PySem.W.nsIn;rw[Yx,ho];dsimp only;have:=hf y;unfold nsFind findBy at this;rw[←Array.find?_toList]at this;dsimp only at this;rw[←this];cases z:es.toList.find? (·.key.isStr y)with
 |some e=>rfl
 |none=>
  dsimp only;rw[Qw]
  .rfl
  .rw[List.any_eq_true]
   rintro⟨e,he,hr⟩;obtain⟨n,t,hk⟩:=hk e (Array.mem_toList_iff.mp he);unfold DictEntry.refKey at hr;rw[hk]at hr;cases hr
theorem XSt.nmd(x:XSt h nm own C N bm mN):NmAt (whole h) nm C:=by obtain⟨q,bs,sn,sub,ab,col,dd,k0,k1,k2,k3,k5,e⟩:=x.obj;exact⟨_,_,by rw[Yx];exact e,rfl,rfl⟩
theorem Gq{mg:Str->yc}(n:h.Ns mainGlobals mg)(e:h.nsMap mainGlobals nm=O (.ref C)):RU (whole h) nm=O C:=by unfold RU;rw[Nm n,n.eq_nsMap,e]
theorem XSt.clsK{mg:Str->yc}(n:h.Ns mainGlobals mg)(x:XSt h nm own C N bm mN){std:Stmt}(xD:XSt h "DealError" (O std) D ND VB mD){f:Uh}(hf:RR h own (O std) mN mD nm f):ClsK (whole h) nm C bm where
 ad:=Gq n x.ad
 nmd:=x.nmd
 up:=x.up.imp id λ⟨a,D',b,c⟩=>⟨a,D',Gq n b,c,by have:=b.symm.trans xD.ad;cases this;exact xD.nmd⟩
 cls:=λM h' k=>⟨f,(x.keeps (SK k)).xcls (xD.keeps (SK k)) (by unfold RR at hf⊢;cases own<;>exact hf)⟩
 fld:=λM h' k y hy=>by
  have z:=x.keeps (SK k);have zD:=xD.keeps (SK k);simp only[Qx,QY,or_false]at hy;rcases hy with rfl|rfl|rfl
  .exact z.along zD (by decide) Bj
  .exact z.along zD (by decide) kJ
  .exact z.along zD (by decide) DR
theorem XSt.keep(x:XSt h nm own C N bm mN):PySem.W.keepIn (whole h) (.ref C)=w5:=by obtain⟨q,bs,sn,sub,ab,col,dd,k0,k1,k2,k3,k5,e⟩:=x.obj;unfold PySem.W.keepIn;dsimp only;rw[Yx,e];dsimp only;unfold PySem.W.specialIn PySem.W.typeIn;dsimp only;rw[Yx,e];kernel_rfl
theorem XSt.fun{st:Stmt}(x:XSt h nm (O st) C N bm mN):∃f fd,mN "__init__" = O (.ref f)/\Fun (whole h) "__init__" (VF nm) st f fd:=by
 obtain⟨f,⟨oc,od,dt,osl⟩,pm,cd,doc,h1,h2,h3,h4,h5⟩:=x.init;have h4:dt=_:=h4;subst h4;refine⟨f,_,h1,⟨⟨oc,od,.none,doc,pm,_,cd,_,osl,rfl,by rw[Yx];exact h2,?_⟩,?_⟩⟩
 .obtain⟨c,⟨_,_,dc,_⟩,vs,t,rfl,g1,g2,g3⟩:=h5
  have g2:dc=_:=g2;subst g2;unfold PySem.W.codeIn;dsimp only;rw[Yx,g1];dsimp only;have g4:vs.toList[1]?=O (.str (VF nm) t):=by rw[Array.getElem?_toList];exact g3
  cases hv:vs.toList with
  |nil=>rw[hv]at g4;cases g4
  |cons v0 r=>
   rw[hv]at g4;cases r with
   |nil=>cases g4
   |cons v1 r=>cases g4;exact beq_self_eq_true _
 .unfold PySem.W.keepIn
  dsimp only;rw[Yx,h2]
theorem tf1{K:Frag}:PySem.W.findIn K (.type "type") "__init__" = O (O (.builtin "type.__init__")):=by kernel_rfl
theorem tf2{K:Frag}:PySem.W.specialIn K (.builtin "type.__init__") "__get__" = O (O (.builtin "wrapper_descriptor.__get__")):=by kernel_rfl
theorem tf3{K:Frag}:PySem.W.takesIn K (.builtin "type.__init__")=O w6:=by kernel_rfl
theorem tf4{K:Frag}:PySem.W.findIn K (.type "type") "__getattribute__" = O (O (.builtin "type.__getattribute__")):=by kernel_rfl
theorem tf5{K:Frag}:PySem.W.subIn K (.type "type") (.type "type")=O w5:=by kernel_rfl
theorem XSt.clsFn{st:Stmt}(x:XSt h "DealError" (O st) D ND VB mD)(hs:∃mc,h.Ns cStatics mc/\mc "thirdparty.any" = w4){f:Uh}(hf:mD "__init__" = O (.ref f)):Ri (whole h) D "__init__" f:=by
 obtain⟨f',o,pm,cd,doc,h1,h2,h3,h4,h5⟩:=x.init;rw[h1]at hf;cases hf;obtain⟨q,bs,sn,sub,ab,col,dd,k0,k1,k2,k3,k5,e⟩:=x.obj;obtain⟨mc,hc1,hc2⟩:=hs;have tD:PySem.W.typeIn (whole h) (.ref D)=O (.type "type"):=by unfold PySem.W.typeIn;dsimp only;rw[Yx,e];rfl
 have tf:PySem.W.typeIn (whole h) (.ref f)=O (.type "function"):=by unfold PySem.W.typeIn;dsimp only;rw[Yx,h2];exact Uc O h3
 refine⟨?_,?_,?_,?_⟩
 .unfold PySem.W.specialIn
  rw[tD];exact tf4 (K:=whole h)
 .unfold PySem.W.readsIn
  rw[Nm hc1,hc2,tD,tf4,tf5];rfl
 .unfold PySem.W.findCls
  rw[tf1];dsimp only[Option.bind_some];rw[tf2];dsimp only[Option.bind_some];rw[tf3];dsimp only[Option.bind_some];have hfi:PySem.W.findIn (whole h) (.ref D) "__init__" = O (O (.ref f)):=by unfold PySem.W.findIn;dsimp only;rw[Yx,e];dsimp only;unfold PySem.W.alongIn PySem.W.ownIn;dsimp only;rw[Yx,e];dsimp only;rw[Nm x.ns,h1]
  rw[hfi];dsimp only[Option.bind_some];rw[Qw (show ¬Builtin.heldUnderItsOwnName "__init__" (.ref f)=w5 from λz=>by cases z),tf];rfl
 .unfold PySem.W.keepIn
  dsimp only;rw[Yx,h2];obtain⟨oc,od,dt,osl⟩:=o;have h4:dt=_:=h4;subst h4;rfl
end
section
variable{h:Heap}{mg:Str->yc}{p:Ug}{l:XL0}{i j:Nat}{c:Str×Option Nat}{p1 p2 p3 p4 p5 p6 p7 p8 p9 r1 r2 r3 r4 r5 r6 r7 r8 r9 q1 q2:Pos}{j1 j2:Nat}
structure Root(p:Ug)(h:Heap)(mg:Str->yc)(i:Nat)(D f:Uh)(fd:Ui):Prop where
 at':mg "DealError" = O (.ref D)
 ex:∃ND mD,XSt h "DealError" (O (Y3 (Kl p i))) D ND VB mD/\mD "__init__" = O (.ref f)
 cf:Ri (whole h) D "__init__" f
 bd:Ys (whole h) fd ["self", "text"] []
 ok:∀(P:Ug)(w:World)(base:Heap),FnOk P w (whole h) mg base CX0 1 f fd ["self", "text"] (Sz (KC (whole h)))
theorem XSt.root{own:Option Stmt}{C N:Uh}{bm:ya}{mN:Str->yc}(x:XSt h "DealError" own C N bm mN):bm=VB:=by
 rcases x.up with ⟨_,rfl⟩|⟨z,_⟩
 .rfl
 .exact absurd wZ z
theorem BR(n:h.Ns mainGlobals mg)(Y:XYP p l h)(hD:(((("DealError" : Str),O i):Str×Option Nat)∈l))(hm:mg "ValueError" = w4)(hn:FnNm (K0 (Y3 (Kl p i))) ["self", "text"] ["ValueError"])
  (hb:Yl (Y3 (Kl p i))=[.Expr (.Call (.Attribute (.Name "ValueError" p1) "__init__" p2) [.Name "self" p3,.Name "text" p4] [] p5) p6])
  (ht:RS (.Name "ValueError" p1) "__init__" p2 [.Name "self" p3,.Name "text" p4] p5)
  (hbz:∀(kV doc pm:Ue)(an:yh)(cdv ct:Ue)(us:ya),us.length=(["self", "text"]:List Str).length->bindArgs (PySem.W.fnOf "__init__" (VF "DealError") (X0 (Y3 (Kl p i))) (Yl (Y3 (Kl p i))) (K0 (Y3 (Kl p i))) .none kV doc pm an cdv ct) ⟨us,[]⟩=pure ((["self", "text"]:List Str).zip us)) :
  ∃D f fd,Root p h mg i D f fd:=by
 obtain⟨D,ND,bm,mD,x⟩:=Y.cl _ hD;have:=x.root;subst this;obtain⟨f,fd,hf,FU⟩:=XSt.fun (st:=Y3 (Kl p i)) x;exact⟨D,f,fd,by rw[n.eq_nsMap];exact x.ad,⟨ND,mD,x,hf⟩,XSt.clsFn (st:=Y3 (Kl p i)) x Y.st hf,FU.binds hbz,λP w base=>Bm FU hn hm hb ht⟩
theorem NQ(n:h.Ns mainGlobals mg)(Y:XYP p l h){D f:Uh}{fd:Ui}(R:Root p h mg i D f fd)(hc:c∈l):CK (whole h) mg c.1:=by
 obtain⟨C,N,bm,mN,x⟩:=Y.cl _ hc;obtain⟨ND,mD,xD,hf⟩:=R.ex;cases hz:c.2 with
 |none=>rw[hz]at x;exact⟨C,bm,by rw[n.eq_nsMap];exact x.ad,XSt.clsK n x xD (f:=f) hf⟩
 |some k=>rw[hz]at x;obtain⟨f',o,pm,cd,doc,h1,h2⟩:=x.init;exact⟨C,bm,by rw[n.eq_nsMap];exact x.ad,XSt.clsK n x xD (f:=f') h1⟩
theorem N7(n:h.Ns mainGlobals mg)(Y:XYP p l h){D f:Uh}{fd:Ui}(R:Root p h mg i D f fd){nm:Str}(hc:(nm,O j)∈l)(hf:Yj nm≠[]){ps:List Str}(P:Ug)(w:World)(base:Heap)
  (hbz:∀(kV doc pm:Ue)(an:yh)(cdv ct:Ue)(us:ya),us.length=ps.length->bindArgs (PySem.W.fnOf "__init__" (VF nm) (X0 (Y3 (Kl p j))) (Yl (Y3 (Kl p j))) (K0 (Y3 (Kl p j))) .none kV doc pm an cdv ct) ⟨us,[]⟩=pure (ps.zip us))
  (ok:∀{f':Uh}{fd':Ui},Fun (whole h) "__init__" (VF nm) (Y3 (Kl p j)) f' fd'->FnOk P w (whole h) mg base CX0 2 f' fd' ps (Pq (KC (whole h)) (Yj nm))):MkX P w (whole h) mg base nm 2:=by
 obtain⟨C,N,bm,mN,x⟩:=Y.cl _ hc;obtain⟨ND,mD,xD,hi⟩:=R.ex;obtain⟨f',fd',hf',FU⟩:=XSt.fun (st:=Y3 (Kl p j)) x;have ck:=XSt.clsK n x xD (f:=f') hf';exact⟨C,bm,f',fd',_,_,by rw[n.eq_nsMap];exact x.ad,x.keep,ck,λM h' k=>(x.keeps (SK k)).xcls (xD.keeps (SK k)) hf',ok FU,FU.binds hbz,ql ck hf⟩
end
theorem Xh{q p:Ug}{loose:List Str}{mean:ExcName->yc}{mg mb:Str->yc}{h:Heap}{ix:yl}(P:Ug)(w:World)(base:Heap){ps:List Str}{k n:Nat}{F:w8->Option XR}(T:Top q loose mean mg mb h)(e:recsOf q=V2 p ix)(i:Nat)(x:Str)(hi:ix.contains i=w5)(hn:Rp (Kl p i)=O x)
  (ok:∀{f:Uh}{fd:Ui},Fun (whole h) x x (Kl p i) f fd->FnOk P w (whole h) mg base (CX1 P w) k f fd ps (spX (whole h) n F))
  (hb:∀(kV doc pm:Ue)(an:yh)(cdv ct:Ue)(us:ya),us.length=ps.length->bindArgs (PySem.W.fnOf x x (X0 (Kl p i)) (Yl (Kl p i)) (K0 (Kl p i)) .none kV doc pm an cdv ct) ⟨us,[]⟩=pure (ps.zip us)):KN P w (whole h) mg base x k n F:=by
 obtain⟨f,fd,m,FU⟩:=R9 T e i x hi hn;exact⟨f,fd,ps,m,FU.kp,FU.binds hb,ok FU⟩
theorem kI{l:PySem.W.OpenLaw}{n k:Nat}{q:Ug}{loose:List Str}{XP:(Str->yc)->Heap->Prop}{YP:World->Heap->Prop}{d:DefRec}{F:w8->yb}{x:Str}
  (hn:l.most=O n) (hn2:n<=Uk) (hdf:d.params.defaults=[]) (hr:Room k callerA)
  (hF:∀(w:World)(s₀:Uf)(mg mb:Str->yc)(fa:Uh)(h:Heap),PySem.W.Ground q loose [] XP w s₀ mg mb h->YP w h->mg d.name=O (.ref fa) ->
   ∃fd:Ui,(∀(s:Uf)(u:Ue),BindsTo s fd ⟨[u],[]⟩ [(x,u)])/\∀base:Heap,FnOk l.prog w (whole h) mg base CX0 k fa fd [x] (spD (whole h) 1 F))
  (hl:∀ns:w9,ns.length<=n->F [.list (ns.map int)]=O (.bool w5)) :
  PySem.W.WalkO q loose XP YP l.row.toRowW d [] (λf vs=>PySem.call f vs):=by
 refine Att.attach_call hn hdf λw s₀ s₁ mg mb fa o pm cd doc a vs ns G Y ho hd hcd hmg hobj hints hlen hg=>?_
 obtain⟨fd,hb,hF⟩:=hF w s₀ mg mb fa _ G Y hmg;exact qz (AN _) G.T.g G.T.b G.T.builtins G.T.nolimit hg hobj hints (QH hlen hn2) hr (λbase _ _=>hF base) hb (λH hO hS=>DN hS (hl ns hlen)) λH e s' z=>z
section
variable{α β:Type}{Z Z1 Z2 Z3 Z':UI}{f:M D}{s t:SM}{Q:Out->Prop}{d:D}{ds fs:w8}{nm x:Str}{o:Out}
theorem Xr{g:M w8}(h1:g Z=.ok ds Z1)(h2:WG nm ds=O fs):YW nm g Z=.ex Z1 (exD nm fs):=by unfold YW sB;rw[h1];dsimp only;rw[h2]
theorem Sj{f:M XR}{g:D->SM}(h1:f Z=.ok (.val d) Z1)(h2:g d Z1=o):sX f g Z=o:=by unfold sX;rw[h1];exact h2
theorem VD{f:M XR}{g:D->SM}(h1:f Z=.ok (.exc d) Z1):sX f g Z=.ex Z1 d:=by unfold sX;rw[h1]
theorem YG{n:Nat}{F:w8->Option XR}{g:M w8}{xs:w8}{r:XR}(h1:g Z=.ok xs Z1)(h2:xs.length=n)(h3:F xs=O r):Zd n F g Z=.ok r Z1:=by unfold Zd;exact KL h1 (by rw[Qm h2];exact ZI h3)
theorem VQ{c:String}{t:Bool}(h:f Z=.ok d Z1)(ht:Kd d c=t):US (λd=>Us (Kd d c)) f Z=.ok (Us t) Z1:=by subst ht;exact Ko (k:=λd=>Us (Kd d c)) h
theorem On{c:String}{kvs:List (D×D)}(h:f Z=.ok (.dict kvs) Z1)(hc:(("dict" == c) || ("" == c))=w6:=by decide):US (λd=>Us (Kd d c)) f Z=.ok (Us w6) Z1:=VQ h (nty hc)
theorem YF{c:String}{kvs:List (D×D)}(h:f Z=.ok (.dict kvs) Z1)(hc:(("dict" == c) || ("" == c))=w6:=by decide):U5 (KO (US (λd=>.bool (Kd d c)) f)) Z=.ok w5 Z1:=KP h (by rw[nty hc];rfl)
noncomputable def XB(r:XR):Out->Prop
 |.rt d=>r=.val d
 |.nx _=>r=.val .none
 |.ex _ d=>r=.exc d/\Y0 d=w5
 |_=>False
theorem XN{N:List Str}{r:XR}(h0:ZV N ds=Z)(h:Ho s Z (XB r)):K4 N s ds=O r:=by
 subst h0;have h:=h.out;unfold K4;cases z:s (ZV N ds)with
 |rt d=>rw[z]at h;rw[show r=.val d from h]
 |nx Z'=>rw[z]at h;rw[show r=.val .none from h]
 |ex Z' d=>rw[z]at h;dsimp only;rw[if_pos h.2,h.1]
 |bk Z'=>rw[z]at h;exact h.elim
 |ct Z'=>rw[z]at h;exact h.elim
 |bad=>rw[z]at h;exact h.elim
noncomputable def fb(p:D->Bool):Nat->w8->Option Nat
 |_,[]=>w4
 |k,x::r=>if p x=w5 then fb p (k+1) r else O k
noncomputable def FP:Out->Prop
 |.rt _=>True
 |.ex _ _=>True
 |_=>False
structure fbQ(p:D->Bool)(xs:w8)(I:UI->Prop)(Q:Out->Prop)(x:D)(j:Nat)(o:Out):Prop where
 out:(p x=w5/\∃Z2,o=.nx Z2/\I Z2)∨(p x=w6/\FP o/\(fb p 0 xs=O j->Q o))
theorem RQ{p:D->Bool}{xs:w8}{I:UI->Prop}{x:D}{j:Nat}(hp:p x=w5)(h:I Z):fbQ p xs I Q x j (.nx Z):=⟨.inl ⟨hp,Z,rfl,h⟩⟩
theorem NP{p:D->Bool}{xs:w8}{I:UI->Prop}{x:D}{j:Nat}(hp:p x=w6)(h:fb p 0 xs=O j->Q (.rt d)):fbQ p xs I Q x j (.rt d):=⟨.inr ⟨hp,trivial,h⟩⟩
theorem NO{p:D->Bool}{xs:w8}{I:UI->Prop}{x:D}{j:Nat}(hp:p x=w6)(h:fb p 0 xs=O j->Q (.ex Z d)):fbQ p xs I Q x j (.ex Z d):=⟨.inr ⟨hp,trivial,h⟩⟩
theorem Px{f:M w8}{sg:D->UI->ye}{xs:w8}(p:D->Bool)(I:UI->Prop)(h1:f Z=.ok (Z7 0 xs) Z1)(h0:I Z1)
  (hst:∀x∈xs,∀(j:Nat) Z,j<xs.length->I Z->∃Z1,sg (.tuple [.int j,x]) Z=O Z1/\Ho s Z1 (fbQ p xs I Q x j))
  (hend:fb p 0 xs=w4->∀Z,I Z->Q (.nx Z)):Ho (Km f sg s) Z Q:=by
 constructor;unfold Km sB;rw[h1];dsimp only
 have key:∀(ys:w8)(k:Nat)(Z:UI),I Z->(∀x∈ys,x∈xs)->k+ys.length<=xs.length->fb p k ys=fb p 0 xs->Q (Zc sg s (Z7 k ys) Z):=by
  intro ys;induction ys with
  |nil=>intro k Z hi _ _ he;exact hend he.symm Z hi
  |cons x r ih=>
   intro k Z hi hm hl he;rw[QF]at hl;obtain⟨Z2,e2,a1⟩:=hst x (hm x Qo) k Z (by omega) hi;rw[Z7,Zc,e2];dsimp only;rw[fb]at he;rcases a1.out.out with ⟨hp,Z3,e3,i3⟩|⟨hp,b1,b2⟩
   .rw[hp,Qm wZ]at he
    rw[e3];exact ih (k+1) Z3 i3 (λy hy=>hm y (Qp _ hy)) (by omega) he
   .rw[hp,Qw (by decide)]at he
    have b2:=b2 he.symm;cases z:s Z2 with
    |rt d=>rw[z]at b2;exact b2
    |ex Z' d=>rw[z]at b2;exact b2
    |nx Z'=>rw[z]at b1;exact b1.elim
    |bk Z'=>rw[z]at b1;exact b1.elim
    |ct Z'=>rw[z]at b1;exact b1.elim
    |bad=>rw[z]at b1;exact b1.elim
 exact key xs 0 Z1 h0 (λ_ h=>h) (by omega) wZ
end
section
variable{X:Cx}{B G0:Hp}{KX:XW}{e o a b c:Uj}{pos p2:Pos}{es rest:yd}
noncomputable def Re:w8->yb
 |[.list xs]=>O (.tuple xs)
 |[.tuple xs]=>O (.tuple xs)
 |_=>w4
theorem FO:Yz X (.type "tuple") Re:=by
 refine⟨_,wL,λvs G H ds d Q s r e k=>?_⟩;unfold Re at e;split at e
 .cases e
  obtain⟨v,rfl,q⟩:=r.one_inv;obtain⟨l,ws,rfl,h1,r1⟩:=q.lst_inv;exact⟨l,ws,rfl,.inl ⟨s.seq h1,λp hp=>k _ _ _ (Ext.new s hp) (.tup (SqT.of KG) (r1.mono (Zl (s.free hp))))⟩⟩
 .cases e
  obtain⟨v,rfl,q⟩:=r.one_inv;obtain⟨l,ws,rfl,h1,r1⟩:=q.tup_inv;exact⟨l,ws,rfl,.inr ⟨YU s h1,k _ G H (.refl s) (.tup h1 r1)⟩⟩
 .cases e
end
end DL
namespace L2
open PySem PySem.Spec PyProof.Rows
noncomputable def DQ(trs:Uh->List (TE×TE)):TE:=λσ H Q=>∀p,H p=w4->Pe (trs p) σ (upd H p (.dK [])) λps H2=>H2 p=O (.dK [])/\∃kvs:List (Key×V),ps=kvs.map (λkv=>(kV kv.1,kv.2))/\kvs.length<=15/\Q (.ref p) (upd H2 p (.dK (VJ [] kvs)))
theorem AH{X:Cx}{pos:Pos}{keys:List (Option Uj)}{values:yd}{trs:Uh->List (TE×TE)}(h:∀p,PPs X pos keys values (trs p))(hall:keys.all (·.isSome)=w5)(hl:keys.length=values.length)(h0:keys≠[])
  (h15:keys.length<=15):PE X (.Dict keys values pos) (DQ trs):=by
 intro pins s σ H Q I q;have hn:=I.hok.fresh (Qq s.heap.objs.size);have I1:=I.laid (a:=s.heap.objs.size) (o:=.dK []) (h':=s.heap.push {cls:=.type "dict", data:=.dict #[]}) (t':=s.toks) (λ_ _ q=>Qe _ q) (Qq _) (qy s.heap I.big);refine wpAny_Dict_walk (knd:=WA X.prog X.w) hall hl h0 h15 (thn (h _ pins _ σ _ _ I1 (q _ hn)) λws s2 ⟨ps,H2,I2,rel,e,kvs,ep,lk,q2⟩=>?_);subst ep;obtain⟨rs,c,rk⟩:=HL (P:=X.prog) (w:=X.w) rel;obtain⟨z,hd,vs0,r0,dd⟩:=ED I2.hok e;cases r0;refine⟨rs,c,dd,λh' yJ hs=>⟨.ref s.heap.objs.size,_,?_,rfl,q2⟩⟩;have hz:(VJ [] kvs).length<=Uk:=by have h1:=Fo kvs [];rw[QB]at h1;rw[Jz];omega
 have he:∃q,h'.get? s.heap.objs.size=O q:=let ⟨q,_,_,hq,_⟩:=yJ;⟨q,hq⟩
 exact B5 I2 (by rw[e];exact True.intro) hs he (CM hz hd (rk.merge .nil) yJ)
theorem AG{kvs:List (Key×V)}{k:Key}{v:V}(h:k∉kvs.map (·.1)):ZY kvs k v=kvs++[(k,v)]:=by unfold ZY;rw[Qw];intro z;rw[List.any_eq_true]at z;obtain⟨p,hp,e⟩:=z;exact h (by rw[←Qa e];exact Qz.mpr ⟨p,hp,rfl⟩)
theorem HC:∀(more kvs:List (Key×V)),((kvs++more).map (·.1)).Nodup->VJ kvs more=kvs++more
 |[],kvs,_=>by rw[Q4];rfl
 |p::r,kvs,h=>by
  have hn:p.1∉kvs.map (·.1):=by rw[QU,JZ]at h;exact λz=>h.2.2 _ z p.1 (Qz.mpr ⟨p,Qo,rfl⟩) wZ
  show VJ (ZY kvs p.1 p.2) r=_;rw[AG hn,HC r (kvs++[(p.1,p.2)]) (by rw[Q0];exact h),Q0];rfl
end L2
namespace DL
open PySem PySem.Spec L2
open PyProof.Rows hiding St
theorem M4{α β γ:Type}(f:α->γ):∀(ks:List α)(vs:List (γ×β)),vs.map (·.1)=ks.map f->vs=(ks.zip (vs.map (·.2))).map (λkv=>(f kv.1,kv.2))
 |[],[],_=>rfl
 |k::ks,(a,b)::vs,h=>by rw[Qy,Qy]at h;injection h with h1 h2;have h1:a=f k:=h1;rw[Qy,JX,Qy,←M4 f ks vs h2,h1]
theorem Lx{α β:Type}:∀(ps:List (α×β)),(ps.map (·.1)).zip (ps.map (·.2))=ps
 |[]=>rfl
 |p::r=>by rw[Qy,Qy,JX,Lx r]
noncomputable def Su:List (M D×M D)->M (List (D×D))
 |[]=>UJ []
 |(f,g)::r=>UW f λx=>UW g λy=>UW (Su r) λps=>UJ ((x,y)::ps)
noncomputable def NN:D->Option Key
 |.int i=>O (.inl i)
 |.str x=>O (.inr x)
 |_=>w4
noncomputable def R8:w8->Option yk
 |[]=>O []
 |d::r=>match NN d,R8 r with
  |some k,O ks=>O (k::ks)
  |_,_=>w4
noncomputable def NM(ps:List (D×D)):yb:=match R8 (ps.map (·.1))with
 |some ks=>if ks.Nodup/\ks.length<=15/\ks≠[]then O (.dict ps)else w4
 |none=>w4
noncomputable def SV(prs:List (M D×M D)):M D:=UW (Su prs) λps=>UX (NM ps)
def FN(K:Frag)(G:Hp)(vs:List (V×V))(ps:List (D×D)):Prop:=Reps K G (vs.map (·.1)) (ps.map (·.1))/\Reps K G (vs.map (·.2)) (ps.map (·.2))
section
variable{K:Frag}{B G0 G H:Hp}{σ:St}{Z:UI}
theorem AF{d:D}{k:Key}(h:NN d=O k):d=kD k:=by
 cases d with
 |int i=>cases h;rfl
 |str x=>cases h;rfl
 |_=>cases h
theorem L7:∀{ds:w8}{ks:yk},R8 ds=O ks->ds=ks.map kD
 |[],_,h=>by cases h;rfl
 |d::r,ks,h=>by
  unfold R8 at h;split at h
  .rename_i k ks' h1 h2
   cases h;rw[Qy,←AF h1,←L7 h2]
  .cases h
theorem Rep.key_inv{v:V}{k:Key}(r:Rep K G v (kD k)):v=kV k:=by
 cases k with
 |inl i=>exact r.int_inv
 |inr x=>exact r.str_inv
theorem Reps.keys_inv:∀{vs:List V}{ks:yk},Reps K G vs (ks.map kD)->vs=ks.map kV
 |_,[],.nil=>rfl
 |_,k::ks,.cons h t=>by rw[h.key_inv,Reps.keys_inv t];rfl
theorem L6:∀{prs:List (M D×M D)}{G H:Hp}{Z:UI}{Q:List (V×V)->Hp->Prop},EOk K B G0 G H σ Z ->
  (match Su prs Z with
   |.ok ps Z'=>∀vs G' H',EOk K B G0 G' H' σ Z'->Same G G'->FN K G' vs ps->Q vs H'
   |.bad=>False)->Pe (prs.map λp=>(tD K B G0 p.1,tD K B G0 p.2)) σ H Q
 |[],G,H,Z,Q,k,a=>a [] G H k (.refl _) ⟨.nil,.nil⟩
 |(f,g)::r,G,H,Z,Q,k,a=>by
  refine⟨G,Z,k,?_⟩;unfold Su UW at a;show aft K B G0 (Rep K) (f Z) G σ _;cases z:f Z with
  |bad=>rw[z]at a;exact a.elim
  |ok x Z1=>
   rw[z]at a;dsimp only at a;intro v G1 H1 k1 s1 r1;refine⟨G1,Z1,k1,?_⟩;show aft K B G0 (Rep K) (g Z1) G1 σ _;cases z2:g Z1 with
   |bad=>rw[z2]at a;exact a.elim
   |ok y Z2=>
    rw[z2]at a;dsimp only at a;intro u G2 H2 k2 s2 r2;refine L6 (prs:=r) k2 ?_;cases z3:Su r Z2 with
    |bad=>rw[z3]at a;exact a.elim
    |ok ps Z3=>rw[z3]at a;intro vs G3 H3 k3 s3 r3;exact a ((v,u)::vs) G3 H3 k3 ((s1.trans s2).trans s3) ⟨.cons ((r1.mono s2).mono s3) r3.1,.cons (r2.mono s3) r3.2⟩
theorem EOk.under{p:Uh}(k:EOk K B G0 G H σ Z)(hp:H p=w4):EOk K (upd B p (.dK [])) G0 G (upd H p (.dK [])) σ Z where
 bh:=λb o q=>by
  by_cases z:b=p
  .subst z;rw[KG]at q⊢;exact q
  .rw[Kk z]at q⊢;exact k.bh b o q
 gh:=k.gh.trans (Zl hp)
 g0:=k.g0
 np:=λa u q n=>by
  by_cases z:a=p
  .subst z;exact k.gh.free hp
  .rw[Kk z]at q;exact k.np a u q n
 len:=k.len
 pub:=k.pub
 own:=λi ds q=>by obtain⟨a,vs,h1,h2,h3,h4,h5⟩:=k.own i ds q;have z:a≠p:=Yw h4 hp;exact⟨a,vs,h1,by rw[Kk z];exact h2,h3,by rw[Kk z];exact h4,h5⟩
 sep:=k.sep
 dp:=k.dp.map (λ_ _ _ q=>⟨q,rfl⟩) (λ_ ds q=>⟨ds,q,rfl⟩) λi pt d v fp q s r w n=>⟨r.mono (.refl _) (Zl hp),λb m=>let ⟨_,hl⟩:=r.isl b m;⟨by rw[Kk (Yw hl hp)];exact(w b m).1,(w b m).2⟩⟩
theorem EOk.filled{p:Uh}{u:HO}(k:EOk K (upd B p (.dK [])) G0 G H σ Z)(hb:B p=w4)(h0:G0 p=w4):EOk K B G0 (upd G p u) (upd H p u) σ Z/\Same G (upd G p u)/\H p=O (.dK []):=by
 have hG:G p=w4:=k.np p (.k []) KG h0;have hH:H p=O (.dK []):=k.bh p _ KG;have sg:Same G (upd G p u):=Zl hG;refine⟨⟨λb o q=>?_,λb o q=>?_,k.g0.trans sg,λa w q n=>?_,k.len,λi d q=>?_,λi ds q=>?_,k.sep,k.dp.map (λ_ _ _ q=>⟨q,rfl⟩) (λ_ ds q=>⟨ds,q,rfl⟩) λi pt d v fp q s r w n=>?_⟩,sg,hH⟩
 .have z:b≠p:=Yw q hb
  rw[Kk z];exact k.bh b o (by rw[Kk z];exact q)
 .by_cases z:b=p
  .subst z;rw[KG]at q⊢;exact q
  .rw[Kk z]at q⊢;exact k.gh b o q
 .have z:a≠p:=Yw q hb
  rw[Kk z];exact k.np a w (by rw[Kk z];exact q) n
 .obtain⟨v,h1,h2⟩:=k.pub i d q
  exact⟨v,h1,h2.mono sg⟩
 .obtain⟨a,vs,h1,h2,h3,h4,h5⟩:=k.own i ds q
  have z:a≠p:=λe=>by subst e;rw[KG]at h2;cases h2
  exact⟨a,vs,h1,by rw[Kk z]at h2;exact h2,by rw[Kk z];exact h3,by rw[Kk z];exact h4,h5.mono sg⟩
 .have zz:∀b∈fp,b≠p:=λb m e=>by subst e;have:=(w b m).1;rw[KG]at this;cases this
  refine⟨(r.mono sg (.refl _)).upd (λ_ e=>by rw[hH]at e;cases e) (λm=>zz p m wZ),λb m=>?_⟩;have z:=zz b m;obtain⟨w1,w2⟩:=w b m;rw[Kk z]at w1;exact⟨w1,by rw[Kk z];exact w2⟩
end
section
variable{X:Cx}{B G0:Hp}{KX:XW}{e o a b c:Uj}{pos p2:Pos}{es rest:yd}
structure DPs(X:Cx)(pos:Pos)(G0:Hp)(keys:List (Option Uj))(values:yd)(prs:List (M D×M D)):Prop where
 out:∀B',PPs X pos keys values (prs.map λp=>(tD X.K B' G0 p.1,tD X.K B' G0 p.2))
theorem BQ:DPs X pos G0 [] [] []:=⟨λ_=>B4⟩
theorem AE{k v:Uj}{ks:List (Option Uj)}{vs:yd}{f g:M D}{prs:List (M D×M D)}(hk:∀B',PE X k (tD X.K B' G0 f))(hv:∀B',PE X v (tD X.K B' G0 g))(hr:DPs X pos G0 ks vs prs):DPs X pos G0 (O k::ks) (v::vs) ((f,g)::prs):=
 ⟨λB'=>qx (hk B') (hv B') (hr.out B')⟩
theorem AD{keys:List (Option Uj)}{values:yd}{prs:List (M D×M D)}(h:DPs X pos G0 keys values prs)(hall:keys.all (·.isSome)=w5:=by rfl)(hl:keys.length=values.length:=by rfl)(h0:keys≠[]:=by simp)(h15:keys.length<=15:=by decide) :
  PE X (.Dict keys values pos) (tD X.K B G0 (SV prs)):=by
 refine Ki (AH (trs:=λp=>prs.map λf=>(tD X.K (upd B p (.dK [])) G0 f.1,tD X.K (upd B p (.dK [])) G0 f.2)) (λp=>h.out _) hall hl h0 h15) λσ H Q ⟨G,Z,k,a⟩ p hp=>?_;refine L6 (k.under hp) ?_;unfold SV UW at a
 cases z:Su prs Z with
 |bad=>rw[z]at a;exact a.elim
 |ok ps Z1=>
  rw[z]at a;intro vs G1 H1 k1 s1 r1;obtain⟨d,e1,a1⟩:=aft.opt a;unfold NM at e1;split at e1
  .rename_i ks hk
   split at e1
   .rename_i hc
    cases e1;have ek:=L7 hk;have hv:=r1.1;rw[ek]at hv;have hv:=hv.keys_inv;have hlen:ks.length=ps.length:=by have:=congrArg List.length ek;simpa using this.symm
    have hlv:vs.length=ks.length:=by have:=congrArg List.length hv;simpa using this
    have evs:vs=(ks.zip (vs.map (·.2))).map (λkv=>(kV kv.1,kv.2)):=by exact M4 kV ks vs hv
    obtain⟨f1,f2,f3⟩:=k1.filled (u:=.dK (ks.zip (vs.map (·.2)))) (k.bh.free hp) (k.g0.free (k.gh.free hp));refine⟨f3,ks.zip (vs.map (·.2)),evs,?_,?_⟩
    .rw[J6,Qb];omega
    .have em:VJ [] (ks.zip (vs.map (·.2)))=ks.zip (vs.map (·.2)):=by
      rw[HC _ [] ?_,QX];rw[QX,List.map_fst_zip (by rw[Qb];omega)];exact hc.1
     rw[em];refine a1 (.ref p) _ _ f1 (s1.trans f2) (.dct (ks:=ks) (vs:=vs.map (·.2)) (ds:=ps.map (·.2)) ?_ hc.2.2 (by rw[Qb];exact hlen) KG (r1.2.mono f2));rw[←ek,Lx]
   .cases e1
  .cases e1
end
end DL
namespace DL
open PySem PySem.Spec L2 PySem.SeqAt PySem.AutoSeq1
open PyProof.Rows hiding St
end DL
namespace DL
open PySem PySem.Spec L2
open PyProof.Rows hiding St
end DL
namespace L2
open PySem PySem.Spec PyProof.Rows
end L2
namespace DL
open PySem PySem.Spec L2
open PyProof.Rows hiding St
end DL
namespace L2
open PySem PySem.Spec PyProof.Rows
end L2
namespace DL
open PySem PySem.Spec L2
open PyProof.Rows hiding St
end DL
namespace L2
open PySem PySem.Spec PyProof.Rows
end L2
namespace DL
open PySem PySem.Spec L2
open PyProof.Rows hiding St
end DL
namespace L2
open PySem PySem.Spec PyProof.Rows
end L2
namespace DL
open PySem PySem.Spec L2
open PyProof.Rows hiding St
end DL
namespace L2
open PySem PySem.Spec PyProof.Rows
end L2
namespace DL
open PySem PySem.Spec L2
open PyProof.Rows hiding St
section
variable{K:Frag}{B G0 G H:Hp}{σ:St}{Z:UI}
structure NewT(K:Frag)(B G H:Hp)(σ:St)(Z:UI)(pt:Pat)(v:V)(d:D)(fp:yf):Prop where
 r:RepO K G H pt v d fp
 nd:fp.Nodup
 b:∀a∈fp,B a=w4/\G a=w4
 f:∀a∈fp,∀(j:Nat) es,Z[j]?=O (O (.own es))->σ[j]?≠O (O (.ref a))
 dp:∀a∈fp,∀(j:Nat) p d v fp',Z[j]?=O (O (.deep p d))->σ[j]?=O (O v)->RepO K G H p v d fp'->a∉fp'
theorem EOk.newT{G' H':Hp}{pt:Pat}{v:V}{d:D}{fp:yf}(k1:EOk K B G0 G H σ Z)(sh:Same H H')(r:RepO K G' H' pt v d fp)(nd:fp.Nodup)(fr:∀a∈fp,H a=w4/\G' a=w4):NewT K B G' H' σ Z pt v d fp where
 r:=r
 nd:=nd
 b:=λa m=>⟨k1.bh.free (fr a m).1,(fr a m).2⟩
 f:=λa m j es q w=>by obtain⟨b,us,g1,g2,g3,g4,g5⟩:=k1.own j es q;rw[g1]at w;cases w;rw[(fr a m).1]at g4;cases g4
 dp:=λa m j p d v fp' q s r=>k1.freshD sh (fr a m).1 q s r
theorem EOk.forget{i:Nat}(k:EOk K B G0 G H σ Z):EOk K B G0 G H σ (Z.set i w4):=by
 have nz:∀{m:Nat}{s:Sl},(Z.set i w4)[m]?=O (O s)->Z[m]?=O (O s):=λ{m s} q=>by
  by_cases z:i=m
  .subst z;have:=Yv q;cases this
  .rw[Qn z]at q;exact q
 exact⟨k.bh,k.gh,k.g0,k.np,by rw[Q5];exact k.len,λj d q=>k.pub j d (nz q),λj ds q=>k.own j ds (nz q),λj l c es fs q1 q2 s1 s2=>k.sep j l c es fs (nz q1) (nz q2) s1 s2,
  k.dp.map (λm p d q=>⟨nz q,rfl⟩) (λm es q=>⟨es,nz q,rfl⟩) λm p d v fp q s r w n=>⟨r,w⟩⟩
theorem RepOl.leaf:∀{vs:List V}{ds:w8},Reps K G vs ds->RepOl K G H .leaf vs ds []
 |_,_,.nil=>.nil
 |_,_,.cons h t=>.cons (f1:=[]) (f2:=[]) (.leaf h) (RepOl.leaf t)
end
noncomputable def tT(K:Frag)(B G0:Hp)(pt:Pat)(f:M D):TE:=λσ H Q=>∃G Z,EOk K B G0 G H σ Z/\match f Z with
 |.ok d Z'=>∀v fp G' H',EOk K B G0 G' H' σ Z'->Same G G'->NewT K B G' H' σ Z' pt v d fp->Q v H'
 |.bad=>False
noncomputable def spT(K:Frag)(n:Nat)(pt:Pat)(F:w8->yb):Sp:=λvs H Q _=>∃G ds d,vs.length=n/\Same G H/\Reps K G vs ds/\F ds=O d/\∀v fp G' H',Ext G H G' H'->RepO K G' H' pt v d fp->fp.Nodup->(∀a∈fp,H a=w4/\G' a=w4)->Q v H'
noncomputable def tST(K:Frag)(B G0:Hp)(pt:Pat)(g:SM)(f:M D):TS:=λDn σ H=>∃G Z,EOk K B G0 G H σ Z/\match g Z with
 |.nx Z1=>(match f Z1 with
  |.ok d _=>∀v fp G' H',Ext G0 B G' H'->RepO K G' H' pt v d fp->fp.Nodup->(∀a∈fp,B a=w4/\G' a=w4)->Dn.rt v H'
  |.bad=>False)
 |_=>False
noncomputable def SU(N:List Str)(g:SM)(f:M D)(ds:w8):yb:=match g (ZV N ds)with
 |.nx Z=>(match f Z with
  |.ok r _=>O r
  |.bad=>w4)
 |_=>w4
def DefT(P:Ug)(w:World)(K:Frag)(mg:Str->yc)(base:Heap)(x:Str)(k n:Nat)(pt:Pat)(F:w8->yb):Prop:=
 ∃(f:Uh)(fd:Ui)(ps:List Str),mg x=O (.ref f)/\PySem.W.keepIn K (.ref f)=w5/\Ys K fd ps []/\FnOk P w K mg base CX0 k f fd ps (spT K n pt F)
section
variable{X:Cx}{B G0:Hp}{KX:XW}{e o a b c:Uj}{pos:Pos}{es:yd}{st:Stmt}{sts:List Stmt}{pt:Pat}
theorem DP{f:M D}(h:PE X e (tT X.K B G0 pt f)):PSs X [.Return (O e) pos] (tST X.K B G0 pt sNx f):=R5 (RC (Oq h)) λD σ H ⟨G,Z,k,a⟩=>by
 refine⟨G,Z,k,?_⟩;dsimp only[sNx]at a;cases z:f Z with
 |bad=>rw[z]at a;exact a.elim
 |ok ds Z'=>rw[z]at a;exact λv fp G' H' k' s' n=>a v fp G' H' k'.exit n.r n.nd n.b
theorem BP{g h:SM}{f:M D}(h1:PS X st (tS X.K B G0 KX0 g))(h2:PSs X sts (tST X.K B G0 pt h f)):PSs X (st::sts) (tST X.K B G0 pt (UL g h) f):=R5 (RI h1 h2) λD σ H ⟨G,Z,k,a⟩=>by
 refine⟨G,Z,k,?_⟩;unfold UL at a;cases z:g Z with
 |nx Z1=>rw[z]at a;exact λσ' G' H' k' s'=>⟨G',Z1,k',a⟩
 |rt d=>rw[z]at a;exact a.elim
 |bk Z1=>rw[z]at a;exact a.elim
 |ct Z1=>rw[z]at a;exact a.elim
 |ex Z1 d=>rw[z]at a;exact a.elim
 |bad=>rw[z]at a;exact a.elim
theorem okT{P:Ug}{w:World}{K:Frag}{mg:Str->yc}{base:Heap}{x qual:Str}{st:Stmt}{f:Uh}{fd:Ui}{N ps:List Str}{k n:Nat}{g:SM}{q:M D}(F:Fun K x qual st f fd)(S:Tc N ps (K0 st))(hn:ps.length=n)
  (der:∀(cdv:Ue)(A:Around)(outer:List Env)(s:Uf)(H:Hp)(E:XK)(B G0:Hp),Room k (A.deeper (envOfC qual (K0 st) s.heap.objs.size f cdv)) ->
   PSs (Zh CX0 P w K mg base N qual (K0 st) f cdv A outer s H E).nox (Yl st) (tST K B G0 pt g q)):FnOk P w K mg base CX0 (k+1) f fd ps (spT K n pt (SU N g q)):=by
 refine F.ok S (λvs H Q E h=>?_) (λcdv A outer s H vs Q E hr h=>?_)
 .obtain⟨_,_,_,hl,_⟩:=h
  rw[hl,hn]
 .obtain⟨G,ds,d,hl,sg,r,hF,qq⟩:=h
  refine⟨_,der cdv A outer s H E H G hr,G,ZV N ds,O2 sg r,?_⟩;unfold SU at hF;cases z:g (ZV N ds)with
  |nx Z=>
   rw[z]at hF;dsimp only at hF⊢;cases z2:q Z with
   |bad=>rw[z2]at hF;cases hF
   |ok d' Z'=>rw[z2]at hF;cases hF;exact λv fp G' H' ex rr nd fr=>qq v fp G' H' ex rr nd fr
  |rt d'=>rw[z]at hF;cases hF
  |bk Z=>rw[z]at hF;cases hF
  |ct Z=>rw[z]at hF;cases hF
  |ex Z d=>rw[z]at hF;cases hF
  |bad=>rw[z]at hF;cases hF
theorem AC{k kk n:Nat}{F:w8->yb}{g:M w8}{x:Str}{p2:Pos}(d:DefT X.prog X.w X.K X.mg X.base x k n pt F)(hr:Room kk X.A)(hg:Gl X x)(ha:PA X (e::es) (tDs X.K B G0 g))(hk:k<=kk:=by decide)(hn:(e::es).length=n:=by rfl)
  (hdb:(x==("__debug__" : Str))=w6:=by decide) (he:Um (e::es) X.env=(w6,eval e X.env)::Um es X.env:=by rfl) (hpl:(backTo pos (Um es X.env)).any (·.1)=w6:=by rfl) :
  PE X (.Call (.Name x p2) (e::es) [] pos) (tT X.K B G0 pt (UP n F g)):=by
 obtain⟨f,fd,ps,h1,h2,h3,h4⟩:=d;refine Ki (Lb h4 (hr.mono hk) hg h1 h2 h3 .nil Of ha hdb he hpl) λσ H Q ⟨G,Z,kk0,a⟩=>?_
 refine⟨G,Z,kk0,?_⟩;unfold UP UW at a;cases z:g Z with
 |bad=>rw[z]at a;exact a.elim
 |ok xs Z1=>
  rw[z]at a;dsimp only at a⊢;intro vs G1 H1 k1 s1 r1;by_cases hl:xs.length=n
  .rw[Qm hl]at a
   unfold UX at a;cases zf:F xs with
   |none=>rw[zf]at a;exact a.elim
   |some r=>rw[zf]at a;dsimp only at a;refine⟨G1,xs,r,by rw[Q4,r1.length];exact hl,k1.gh,by rw[Q4];exact r1,zf,λv fp G' H' ex rr nd fr=>?_⟩;exact a v fp G' H' (k1.ext ex) (s1.trans ex.g) (k1.newT ex.h rr nd fr)
  .rw[Qw hl]at a
   exact a.elim
end
section
variable{K:Frag}{B G0 G H:Hp}{σ:St}{Z:UI}
theorem RepOl.leaf_inv:∀{vs:List V}{ds:w8}{fp:yf},RepOl K G H .leaf vs ds fp->Reps K G vs ds/\fp=[]
 |_,_,_,.nil=>⟨.nil,rfl⟩
 |_,_,_,.cons (.leaf r) t=>by obtain⟨r2,e⟩:=RepOl.leaf_inv t;subst e;exact⟨.cons r r2,rfl⟩
end
noncomputable def isT:Option HO->Bool
 |some (.tup _)=>w5
 |some (.frz _ (.tup _))=>w5
 |_=>w6
theorem Ep{u:MO}:isT (O u.ho)=w6:=by cases u<;>rfl
noncomputable def Zw(fp:yf)(G H:Hp):Hp:=λb=>if b∈fp∨isT (H b)=w5 then H b else G b
section
variable{K:Frag}{B G0 G H:Hp}{fp:yf}
theorem Nb(gh:Same G H):Same G (Zw fp G H):=λb o e=>by
 unfold Zw;split
 .exact gh b o e
 .exact e
theorem BO(gh:Same G H):Same (Zw fp G H) H:=λb o e=>by
 unfold Zw at e;split at e
 .exact e
 .exact gh b o e
theorem OD{b:Uh}(h:b∈fp∨isT (H b)=w5):Zw fp G H b=H b:=by unfold Zw;rw[Qm h]
theorem BN{b:Uh}(h:b∉fp)(h2:isT (H b)=w6):Zw fp G H b=G b:=by
 unfold Zw;rw[Qw];rintro(z|z)
 .exact h z
 .rw[h2]at z;cases z
theorem RepO.give3(gh:Same G H):Xg K G H (λ_ v d f=>(∀b∈f,b∈fp)->Rep K (Zw fp G H) v d) (λ_ v d f=>(∀b∈f,b∈fp)->Reps K (Zw fp G H) v d) (λ_ v d f=>(∀b∈f,b∈fp)->Reps K (Zw fp G H) v d):=
 RepO.ind3 (λr _=>r.mono (Nb gh)) (λh r m=>.lst (SqL.of ((OD (.inl (m _ Qo))).trans h)) (r λb z=>m b (Qp _ z))) (λh r m=>.tup (SqT.of ((OD (.inr (by rw[h];rfl))).trans h)) (r m))
 (λ{a ks vs ds kvs} e hl h r m=>by
  have h':=(OD (fp:=fp) (G:=G) (H:=H) (.inl (m _ Qo))).trans h;cases ks with
  |nil=>subst e;exact .dic h'
  |cons k ks=>exact .dct e (λz=>by cases z) hl h' (r.mono (Nb gh)))
 (λ_=>.nil) (λh t m=>.cons (h λb z=>m b (Jv _ z)) (t λb z=>m b (QQ _ z))) (λ_=>.nil) (λh t m=>.cons (h λb z=>m b (Jv _ z)) (t λb z=>m b (QQ _ z)))
theorem RepO.give(gh:Same G H){p:Pat}{v:V}{d:D}{f:yf}(r:RepO K G H p v d f)(m:∀b∈f,b∈fp):Rep K (Zw fp G H) v d:=(RepO.give3 gh).1 r m
theorem Ext.pubT{G' H':Hp}(ex:Ext G H G' H')(fr:∀a∈fp,H a=w4):Ext G H (Zw fp G' H') H':=
 ⟨ex.h,ex.g.trans (Nb ex.gh),BO ex.gh,λa u e n=>by rw[BN (λm=>by rw[fr a m]at e;cases e) (by rw[ex.h a _ e];exact Ep)];exact ex.np a u e n⟩
end
section
variable{X:Cx}{B G0:Hp}{KX:XW}{e o a b c:Uj}{pos:Pos}{es:yd}{pt:Pat}
theorem DefT.def{P:Ug}{w:World}{K:Frag}{mg:Str->yc}{base:Heap}{x:Str}{k n:Nat}{F:w8->yb}(d:DefT P w K mg base x k n pt F):Def P w K mg base x k n F:=by obtain⟨f,fd,ps,h1,h2,h3,h4⟩:=d;refine⟨f,fd,ps,h1,h2,h3,h4.imp λvs H Q E ⟨G,ds,d,hl,sg,r,hF,q⟩=>⟨G,ds,d,hl,sg,r,hF,λv fp G' H' ex rr nd fr=>?_⟩⟩;exact q v (Zw fp G' H') H' (ex.pubT λa m=>(fr a m).1) (rr.give ex.gh λb m=>m)
end
theorem Eo{q p:Ug}{loose:List Str}{mean:ExcName->yc}{mg mb:Str->yc}{h:Heap}{ix:yl}(P:Ug)(w:World)(base:Heap){ps:List Str}{k n:Nat}{pt:Pat}{F:w8->yb}(T:PyProof.Rows.Top q loose mean mg mb h)(e:recsOf q=V2 p ix)(i:Nat)(x:Str)(hi:ix.contains i=w5)(hn:Rp (Kl p i)=O x)
  (ok:∀{f:Uh}{fd:Ui},Fun (whole h) x x (Kl p i) f fd->FnOk P w (whole h) mg base CX0 k f fd ps (spT (whole h) n pt F))
  (hb:∀(kV doc pm:Ue)(an:yh)(cdv ct:Ue)(us:ya),us.length=ps.length->bindArgs (PySem.W.fnOf x x (X0 (Kl p i)) (Yl (Kl p i)) (K0 (Kl p i)) .none kV doc pm an cdv ct) ⟨us,[]⟩=pure (ps.zip us)):DefT P w (whole h) mg base x k n pt F:=by
 obtain⟨f,fd,m,FU⟩:=R9 T e i x hi hn;exact⟨f,fd,ps,m,FU.kp,FU.binds hb,ok FU⟩
section
variable{Z Z1 Z2 Z':UI}{pt:Pat}
theorem FM{N:List Str}{g:SM}{f:M D}{ds:w8}{P:D->Prop}(h0:ZV N ds=Z)(h:Ho g Z λo=>∃Z1,o=.nx Z1/\∃d Z2,f Z1=.ok d Z2/\P d):∃d,SU N g f ds=O d/\P d:=by subst h0;obtain⟨Z1,e,d,Z2,e2,p⟩:=h.out;refine⟨d,?_,p⟩;unfold SU;rw[e];dsimp only;rw[e2]
end
end DL
namespace L2
open PySem PySem.Spec PyProof.Rows PySem.Calls PyProof.V
section
variable{X:Cx}{x n:Str}{pos np hpos:Pos}{pins:List (Uh×Obj)}{σ:St}{H:Hp}{s:Uf}{a C D fI fD:Uh}{dd:yh}{bm bmD:ya}{rest:List ExceptHandler}{Q:Flow->Uf->Prop}
theorem vC{name:Option Str}{body:List Stmt}(I:Inv X pins σ H s)(hx:H a=O (.ext (XO w6 a C dd)))(XC:XCls (model X.prog X.w) X.base C bm fI)(hD:XCls (model X.prog X.w) X.base D bmD fD)(hg:Gl X x)(hm:X.mg x=O (.ref D))
  (hb:(Value.ref C::bm).contains (.ref D)=w6) (h:Ul (model X.prog X.w) X.A (handleBy (.ref a) X.env rest) Q X.xe s) (hdb:(x==("__debug__" : Str))=w6:=by decide) :
  Ul (model X.prog X.w) X.A (handleBy (.ref a) X.env (.ExceptHandler (O (.Name x np)) name body hpos::rest)) Q X.xe s:=by
 refine wpAny_handleBy_cons (codeAny_handlers_test ?_) (by intro q;cases q);refine Td (I.suite a) hg hm ?_ hdb;obtain⟨nm,qn,N,bs,sn,sub,ab,col,aJ,k0,k1,k2,k3,k5,hC⟩:=XC.obj;obtain⟨yO,qn',N',bs',sn',sub',zU,col',dd2,j0,j1,j2,j3,j5,yP⟩:=hD.obj;obtain⟨⟨vs,sl,ga,_⟩,_,_⟩:=I.hok a _ hx;exact LD (I.bk _ _ hC) (I.bk _ _ yP) (hD.tail _ _ wZ) ga wZ hb h
theorem Ga{i:Nat}{ts:TS}{suite:List Stmt}{b₀:Stmt}{Dn:Ends}(I:Inv X pins σ H s)(fl:Fly s.heap a)(hx:H a=O (.ext (XO w6 a C dd)))(XC:XCls (model X.prog X.w) X.base C bm fI)(hD:XCls (model X.prog X.w) X.base D bmD fD)(hg:Gl X x)(hm:X.mg x=O (.ref D))
  (hN:X.N.Nodup) (hi:X.N[i]?=O n) (hl:X.env.kindOf n=O .local) (hs:∀a,PSs (X.suite a) (b₀::suite) ts) (hb:(Value.ref C::bm).contains (.ref D)=w5)
  (q:ts {nx:=λσ' H'=>Dn.nx (σ'.set i w4) H',rt:=Dn.rt,bk:=λσ' H'=>Dn.bk (σ'.set i w4) H',ct:=λσ' H'=>Dn.ct (σ'.set i w4) H'} (σ.set i (O (.ref a))) H) (hdb:(x==("__debug__" : Str))=w6:=by decide) :
  Ul (model X.prog X.w) X.A (handleBy (.ref a) X.env (.ExceptHandler (O (.Name x np)) (O n) (b₀::suite) hpos::rest)) (SP X pins Dn) X.xe s:=by
 refine wpAny_handleBy_cons (codeAny_handlers_test ?_) (by intro q;cases q);refine Td (I.suite a) hg hm ?_ hdb;obtain⟨nm,qn,N,bs,sn,sub,ab,col,aJ,k0,k1,k2,k3,k5,hC⟩:=XC.obj;obtain⟨yO,qn',N',bs',sn',sub',zU,col',dd2,j0,j1,j2,j3,j5,yP⟩:=hD.obj;obtain⟨⟨vs,sl,ga,_⟩,_,_⟩:=I.hok a _ hx;refine LD (I.bk _ _ hC) (I.bk _ _ yP) (hD.tail _ _ wZ) ga wZ hb ?_;refine codeAny_handlers_suite_as (vc fl λh3 k3=>?_);have I3:=I.kept (t':=s.toks) k3;refine RJ (v:=.ref a) I3 hN hi (.inl hl) wZ (λs4 I4=>?_) (.inr hl);refine QI (hs a pins s4 _ H _ (I4.suite a) q) (λf s5 h5=>?_) λ_ _ z=>z.elim
 cases f with
 |ret u=>obtain⟨v,σ',H',I',r,q'⟩:=h5;exact Hn (I3.unsuite I') hN hi hl λs6 I6=>⟨v,_,H',I6,r,q'⟩
 |_=>obtain⟨σ',H',I',q'⟩:=h5;exact Hn (I3.unsuite I') hN hi hl λs6 I6=>⟨_,H',I6,q'⟩
noncomputable def Oe(KC:Uh->ya->Prop)(D1 D2:Uh)(i:Nat)(t1 t2:TS)(Dn:Ends):V->St->Hp->Prop:=λv σ H=>∃a C dd bm,v=.ref a/\KC C bm/\H a=O (.ext (XO w6 a C dd)) /\
 ∃t,((Value.ref C::bm).contains (.ref D1)=w5/\t=t1∨(Value.ref C::bm).contains (.ref D1)=w6/\(Value.ref C::bm).contains (.ref D2)=w5/\t=t2) /\
 t {nx:=λσ' H'=>Dn.nx (σ'.set i w4) H',rt:=Dn.rt,bk:=λσ' H'=>Dn.bk (σ'.set i w4) H',ct:=λσ' H'=>Dn.ct (σ'.set i w4) H'} (σ.set i (O (.ref a))) H
theorem BM{KC:Uh->ya->Prop}{D2 fD2:Uh}{bmD2:ya}{x2:Str}{i:Nat}{tb:(V->St->Hp->Prop)->TS}{t1 t2:TS}{body aj ai:List Stmt}{b1 b2:Stmt}{st:List Env}{np2 zr:Pos}(zn:X.stack=X.env::st)(hfr:X.env.frame=O X.env.locals)
  (hcls:∀C bm,KC C bm->∃fI,XCls (model X.prog X.w) X.base C bm fI) (hD:XCls (model X.prog X.w) X.base D bmD fD) (hD2:XCls (model X.prog X.w) X.base D2 bmD2 fD2) (hg:Gl X x) (hm:X.mg x=O (.ref D)) (z6:Gl X x2) (hm2:X.mg x2=O (.ref D2)) (hN:X.N.Nodup) (hi:X.N[i]?=O n) (hl:X.env.kindOf n=O .local)
  (hb:∀(KX:V->St->Hp->Prop)(W:Ue->Uf->Prop)(pn:List (Uh×Obj)),Wv (X.tried W pn) KX->PSs (X.tried W pn) body (tb KX)) (hs1:∀a,PSs (X.suite a) (b1::aj) t1) (hs2:∀a,PSs (X.suite a) (b2::ai) t2) (hdb:(x==("__debug__" : Str))=w6:=by decide) (z9:(x2==("__debug__" : Str))=w6:=by decide) :
  PS X (.Try body [.ExceptHandler (O (.Name x np)) (O n) (b1::aj) hpos,.ExceptHandler (O (.Name x2 np2)) (O n) (b2::ai) zr] [] [] pos) (λDn σ H=>tb (Oe KC D D2 i t1 t2 Dn) Dn σ H):=by
 intro pins s σ H Dn I h;refine wpAny_Try_except ?_
 let W:Ue->Uf->Prop:=λv s1=>∃a σ1 H1,v=.ref a/\Inv X pins σ1 H1 s1/\Fly s1.heap a/\Oe KC D D2 i t1 t2 Dn (.ref a) σ1 H1
 have hw:Wv (X.tried W pins) (Oe KC D D2 i t1 t2 Dn):=λpins' σ1 H1 s1 a C dd I1 hx fl hk=>⟨a,σ1,H1,rfl,I.untried I1,fl,hk⟩;refine QI (hb _ W pins hw [] s σ H Dn (I.tried W) h) (λf s1 h1=>?_) λv s1 h1=>?_
 .cases f with
  |next=>obtain⟨σ',H',I',q⟩:=h1;exact wpAny_execs_nil ⟨σ',H',I.untried I',q⟩
  |ret u=>obtain⟨v,σ',H',I',r,q⟩:=h1;exact⟨v,σ',H',I.untried I',r,q⟩
  |_=>obtain⟨σ',H',I',q⟩:=h1;exact⟨σ',H',I.untried I',q⟩
 .obtain⟨a,σ1,H1,rfl,I1,fl,a',C,dd,bm,ea,kc,hx,t,ht,q⟩:=h1
  cases ea;obtain⟨fI,XC⟩:=hcls C bm kc;have hk:=I1.ok.frames;rw[zn]at hk;have hS:=I1.stack;rw[zn]at hS;refine note hk hS hfr fl λh2 p2 fl2=>?_;rw[←zn]at p2;have I2:=I1.passed hx p2;rcases ht with ⟨c1,rfl⟩|⟨c1,c2,rfl⟩
  .exact Ga I2 fl2 hx XC hD hg hm hN hi hl hs1 c1 q hdb
  .exact vC I2 hx XC hD hg hm c1 (Ga I2 fl2 hx XC hD2 z6 hm2 hN hi hl hs2 c2 q z9) hdb
end
end L2
namespace DL
open PySem PySem.Spec L2
open PyProof.Rows hiding St
noncomputable def WF(i:Nat)(x1:Str)(h1:SM)(x2:Str)(h2:SM)(g:SM):SM:=λZ=>match g Z with
 |.ex Z1 d=>if(Xi x1 d=w5∨Xi x2 d=w5)/\i<Z1.length then(match (if Xi x1 d=w5 then h1 else h2) (Z1.set i (O (.pub d)))with
  |.nx Z2=>.nx (Z2.set i w4)
  |.bk Z2=>.bk (Z2.set i w4)
  |.ct Z2=>.ct (Z2.set i w4)
  |.rt d2=>.rt d2
  |_=>.bad)else .bad
 |o=>o
section
variable{X:Cx}{B G0:Hp}{KX:XW}{e a b c:Uj}{pos p2 cpos np np2 hpos zr:Pos}{es:yd}{x x2 n:Str}{k kk:Nat}
theorem BL{i:Nat}{g h1 h2:SM}{body aj ai:List Stmt}{b1 b2:Stmt}{st:List Env}(cD:CK X.K X.mg x)(hg:Gl X x)(cD2:CK X.K X.mg x2)(z6:Gl X x2)(hN:X.N.Nodup)(hi:X.N[i]?=O n)(hl:X.env.kindOf n=O .local)
  (hb:∀(KX':XW)(W:Ue->Uf->Prop)(pn:List (Uh×Obj)),Wv (X.tried W pn) KX'->PSs (X.tried W pn) body (tS X.K B G0 KX' g)) (hs1:∀a,PSs (X.suite a) (b1::aj) (tS X.K B G0 KX0 h1)) (hs2:∀a,PSs (X.suite a) (b2::ai) (tS X.K B G0 KX0 h2))
  (zn:X.stack=X.env::st:=by rfl) (hfr:X.env.frame=O X.env.locals:=by rfl) (hdb:(x==("__debug__" : Str))=w6:=by decide) (z9:(x2==("__debug__" : Str))=w6:=by decide) :
  PS X (.Try body [.ExceptHandler (O (.Name x np)) (O n) (b1::aj) hpos,.ExceptHandler (O (.Name x2 np2)) (O n) (b2::ai) zr] [] [] pos) (tS X.K B G0 KX (WF i x h1 x2 h2 g)):=PS.kin λkin=>by
 obtain⟨D',bmD,hm,ck⟩:=cD;obtain⟨fD,xD⟩:=ck.cls (model X.prog X.w) X.base kin;obtain⟨D2,bmD2,hm2,ck2⟩:=cD2;obtain⟨fD2,xD2⟩:=ck2.cls (model X.prog X.w) X.base kin;refine KY (BM (KC:=KC X.K) (tb:=λKX'=>tS X.K B G0 KX' g) (t1:=tS X.K B G0 KX0 h1) (t2:=tS X.K B G0 KX0 h2) zn hfr (V0 kin) xD xD2 hg hm z6 hm2 hN hi hl hb hs1 hs2 hdb z9) λDn σ H ⟨G,Z,k,a⟩=>?_
 refine⟨G,Z,k,?_⟩;unfold WF at a;cases z:g Z with
 |nx Z1=>rw[z]at a;exact a
 |rt d=>rw[z]at a;exact a
 |bk Z1=>rw[z]at a;exact a
 |ct Z1=>rw[z]at a;exact a
 |bad=>rw[z]at a;exact a.elim
 |ex Z1 d=>
  rw[z]at a;dsimp only at a;intro v σ1 G1 H1 k1 s1 r;by_cases hc:(Xi x d=w5∨Xi x2 d=w5)/\i<Z1.length
  .rw[Qm hc]at a
   obtain⟨d',hd⟩:∃d',d=.dict [(.none,d')]:=by rcases hc.1 with h|h<;>(unfold Xi at h;split at h;exact⟨_,rfl⟩;cases h)
   subst hd;obtain⟨ad,C,dd,bm,yO,vs,ds,rfl,e0,c,hx,_,_⟩:=r.exc_inv;subst e0;have u1:(Value.ref C::bm).contains (.ref D')=Xi x (.dict [(.none,.tuple [.str yO,.list ds])]):=by rw[c.has ck];rfl
   have u2:(Value.ref C::bm).contains (.ref D2)=Xi x2 (.dict [(.none,.tuple [.str yO,.list ds])]):=by rw[c.has ck2];rfl
   refine⟨ad,C,dd,bm,rfl,⟨_,c⟩,k1.gh _ _ hx,tS X.K B G0 KX0 (if Xi x (.dict [(.none,.tuple [.str yO,.list ds])])=w5 then h1 else h2),?_,G1,_,k1.setPub r hc.2,?_⟩
   .cases zz:Xi x (.dict [(.none,.tuple [.str yO,.list ds])])with
    |true=>exact .inl ⟨u1.trans zz,rfl⟩
    |false=>
     refine .inr ⟨u1.trans zz,?_,rfl⟩;rw[u2];rcases hc.1 with h|h
     .rw[zz]at h;cases h
     .exact h
   .cases z2:(if Xi x (.dict [(.none,.tuple [.str yO,.list ds])])=w5 then h1 else h2) (Z1.set i (O (.pub (.dict [(.none,.tuple [.str yO,.list ds])]))))with
    |nx Z2=>rw[z2]at a;exact λσ2 G2 H2 k2 s2=>a _ G2 H2 k2.unset (s1.trans s2)
    |bk Z2=>rw[z2]at a;exact λσ2 G2 H2 k2 s2=>a _ G2 H2 k2.unset (s1.trans s2)
    |ct Z2=>rw[z2]at a;exact λσ2 G2 H2 k2 s2=>a _ G2 H2 k2.unset (s1.trans s2)
    |rt d2=>rw[z2]at a;exact a
    |ex _ _=>rw[z2]at a;exact a.elim
    |bad=>rw[z2]at a;exact a.elim
  .rw[Qw hc]at a;exact a.elim
noncomputable def VT(i:Nat)(f:M XR):SM:=λZ=>match Z[i]? with
 |some (O (.own _))=>(match f Z with
  |.ok (.val d) Z1=>(match Z1[i]? with
   |some (O (.own ds))=>if ds.length<1000000 then .nx (Z1.set i (O (.own (ds++[d]))))else .bad
   |_=>.bad)
  |.ok (.exc d) Z1=>.ex Z1 d
  |.bad=>.bad)
 |_=>.bad
theorem BK{i:Nat}{f:M XR}{o:Uj}{apos cpos:Pos}(ho:PE X o (Kw i))(he:PE X e (tX X.K B G0 KX f))
  (hbase:attributeBase o "append" X.env (eval o X.env)=eval o X.env:=by rfl)
  (hfew:((backTo cpos (Um [e] X.env)).all (λx=>!x.1)&&(backToKw cpos (keywordEach [] X.env)).all (λx=>x.1.isSome)
   && decide ([e].length+([]:List Keyword).length+(if([]:List Keyword).isEmpty then 0 else 1)<30))=w5:=by rfl)
  (hline:(apos.endLine==cpos.line)=w5:=by rfl) (hs:Um [e] X.env=[(w6,eval e X.env)]:=by rfl)
  (hsw:swapsWith (.Call (.Attribute o "append" apos) [e] [] cpos) w4 pos.line X.env=pure w6:=by rfl) :
  PS X (.Expr (.Call (.Attribute o "append" apos) [e] [] cpos) pos) (tS X.K B G0 KX (VT i f)):=
 KY (VM (Rj JO PySem.F.slot_list_append PySem.F.type_list_append O9 ho (YL he XX (by rw[hs];rfl)) hbase hfew hline (by rw[hs];rfl) wZ) hsw) λD σ H ⟨G,Z,k,a⟩=>by
  unfold VT at a;split at a
  .rename_i yK q0
   obtain⟨ad,vs0,h1,h2,h3,h4,h5⟩:=k.own i yK q0;refine⟨.ref ad,h1,.inl ⟨rfl,_,SqL.of h4⟩,G,Z,k,?_⟩;cases z:f Z with
   |bad=>rw[z]at a;exact a.elim
   |ok xr Z1=>
    rw[z]at a;cases xr with
    |exc d=>exact λv G' H' k' s' r'=>a v σ G' H' k' s' r'
    |val d=>
     dsimp only at a;split at a
     .rename_i ds q
      split at a
      .rename_i hl
       intro v G' H' k' s' r';obtain⟨bq,vs,g1,g2,g3,g4,g5⟩:=k'.own i ds q;rw[h1]at g1;cases g1;refine⟨ad,vs,v,rfl,rfl,g4,by rw[g5.length];exact QE hl lim,?_⟩;exact a σ G' _ (k'.change q h1 (g5.append (.cons r' .nil))) s'
      .exact a.elim
     .exact a.elim
  .exact a.elim
end
abbrev PLL:Pat:=.tup [.lst .leaf,.lst .leaf]
noncomputable def Ro(f:M w8)(j:Nat):M D:=λZ=>match f Z with
 |.ok ds Z1=>(match Z1[j]? with
  |some (O (.own es))=>.ok (.tuple [.list ds,.list es]) (Z1.set j w4)
  |_=>.bad)
 |.bad=>.bad
section
variable{X:Cx}{B G0:Hp}{KX:XW}{e e1 e2:Uj}{pos:Pos}
theorem jr{f:M w8}{j:Nat}{k1}(h1:PE X e1 (tL X.K B G0 f))(h2:PE X e2 (Kw j))(hs1:Um [e1,e2] X.env=(w6,eval e1 X.env)::Um [e2] X.env:=by rfl)(hs2:Um [e2] X.env=[(w6,eval e2 X.env)]:=by rfl) :
  PE X (.Tuple [e1,e2] k1 pos) (tT X.K B G0 PLL (Ro f j)):=by
 refine Ki (Mk (YL h1 (YL h2 XX hs2) hs1)) λσ H Q ⟨G,Z,k,q⟩=>?_;unfold Ro at q
 refine⟨G,Z,k,?_⟩;cases z1:f Z with
 |bad=>rw[z1]at q;exact q.elim
 |ok d1 Z1=>
 rw[z1]at q;dsimp only at q;split at q
 case h_2=>exact q.elim
 rename_i es d' Z' hq;split at hq
 case h_2=>cases hq
 rename_i es' ho;cases hq;intro a1 vs1 G1 H1 k1 s1 n1;obtain⟨b,ws,g1,g2,g3,g4,g5⟩:=k1.own j es' ho;obtain⟨ω,w1,w2⟩:=id k1.dp;have hwb:=w2 j es' b ho g1;have hne:a1≠b:=λz=>n1.f j es' ho (by rw[z];exact g1)
 refine⟨.ref b,g1,(show 2<=Uk by decide),λp hp=>?_⟩;have sh:Same H1 (upd H1 p (.tup [.ref a1,.ref b])):=Zl hp
 have nz:∀{m:Nat}{s:Sl},(Z1.set j w4)[m]?=O (O s)->Z1[m]?=O (O s)/\j≠m:=λ{m s} q=>by
  by_cases z:j=m
  .subst z;have:=Yv q;cases this
  .rw[Qn z]at q;exact⟨q,z⟩
 have mem2:∀{c:Uh},c∈[a1]++([b]++[])->c=a1∨c=b:=λm=>by simpa using m
 refine q (.ref p) ([a1]++([b]++[])) G1 _ ((k1.forget).ext (Ext.hid k1.gh hp)) s1 ⟨.tup KG (.cons (.lst (sh _ _ n1.h) (.leaf n1.r)) (.cons (.lst (sh _ _ g4) (.leaf g5)) .nil)),by simp[hne],λc m=>?_,λc m l es ho' w=>?_,λc m l p' d' v' fp' ho' w r m'=>?_⟩
 .rcases mem2 m with rfl|rfl
  .exact⟨n1.b,n1.g⟩
  .exact⟨g2,g3⟩
 .obtain⟨ho',z⟩:=nz ho'
  rcases mem2 m with rfl|rfl
  .exact n1.f l es ho' w
  .exact z (k1.sep j l c es' es ho ho' g1 w)
 .obtain⟨ho',z⟩:=nz ho'
  obtain⟨v2,fp2,s2,r2,n2,w2'⟩:=w1 l p' d' ho';rw[w]at s2;cases s2;have u:=r2.uniq sh r;subst u;rcases mem2 m with rfl|rfl
  .exact n1.dp l p' d' v' _ ho' w r2 m'
  .exact z (hwb.symm.trans (w2' c m').2.2)
theorem AB{f:M w8}{j:Nat}{Z Z1:UI}{ds es:w8}(h1:f Z=.ok ds Z1)(h2:Z1[j]?=O (O (.own es))):Ro f j Z=.ok (.tuple [.list ds,.list es]) (Z1.set j w4):=by unfold Ro;rw[h1];dsimp only;rw[h2]
noncomputable def Ss(i j:Nat)(f:M D):SM:=sB f λd Z=>match d with
 |.tuple [.list d1,.list d2]=>if i≠j/\i<Z.length/\j<Z.length then .nx ((Z.set i (O (.own d1))).set j (O (.own d2)))else .bad
 |_=>.bad
theorem RepO.two_inv{K:Frag}{G H:Hp}{v:V}{d1 d2:w8}{fp:yf}(r:RepO K G H PLL v (.tuple [.list d1,.list d2]) fp):∃p a b vs ws,v=.ref p/\H p=O (.tup [.ref a,.ref b])/\H a=O (.lst vs)/\H b=O (.lst ws)/\Reps K G vs d1/\Reps K G ws d2/\fp=[a,b]:=by
 cases r with
 |tup h rs=>
  cases rs with
  |cons r1 t=>
   cases t with
   |cons r2 t2=>
    cases t2;cases r1 with
    |lst h1 l1=>
     cases r2 with
     |lst h2 l2=>obtain⟨q1,rfl⟩:=RepOl.leaf_inv l1;obtain⟨q2,rfl⟩:=RepOl.leaf_inv l2;exact⟨_,_,_,_,_,rfl,h,h1,h2,q1,q2,rfl⟩
theorem AA{i j:Nat}{x y:Str}{f:M D}{px py pt:Pos}{kt}(hc:X.calm=w5)(hN:X.N.Nodup)(hi:X.N[i]?=O x)(hj:X.N[j]?=O y)(hx:Loc X.env.scope x)(hy:Loc X.env.scope y)(he:PE X e (tT X.K B G0 PLL f))
  (hs:swapsWithSole [.Tuple [.Name x px,.Name y py] kt pt] e pos.line X.env=pure w6:=by rfl) (hw:swappedStores [.Tuple [.Name x px,.Name y py] kt pt] e X.env=pure w4:=by rfl)
  (hf:X.fn x=w5∨X.env.scope.names.lookup x=O .local:=by first|exact .inl rfl|exact .inr rfl|assumption) (hf2:X.fn y=w5∨X.env.scope.names.lookup y=O .local:=by first|exact .inl rfl|exact .inr rfl|assumption) :
  PS X (.Assign [.Tuple [.Name x px,.Name y py] kt pt] e pos) (tS X.K B G0 KX (Ss i j f)):=by
 have G2:PG X (.Tuple [.Name x px,.Name y py] kt pt) (gTup X.K 2 (Oh (Rg i) (Oh (Rg j) gNil))):=Mn hc (O3 (Pr hN hi hx hf) (O3 (Pr hN hj hy hf2) M7));refine KY (Op he G2 hs hw) λDn σ H ⟨G,Z,k,a⟩=>?_
 refine⟨G,Z,k,?_⟩;unfold Ss sB at a;cases z:f Z with
 |bad=>rw[z]at a;exact a.elim
 |ok d Z1=>
 rw[z]at a;dsimp only at a;split at a
 case h_2=>exact a.elim
 rename_i d1 d2;split at a
 case isFalse=>exact a.elim
 rename_i hl;obtain⟨hij,zB,yS⟩:=hl;intro v fp G' H' k' s' n;obtain⟨p,b1,b2,vs,ws,rfl,hp,h1,h2,r1,r2,rfl⟩:=n.r.two_inv;have hne:b1≠b2:=by have:=n.nd;simpa using this
 refine⟨p,_,rfl,SqT.of hp,rfl,_,_,rfl,_,_,rfl,rfl,?_⟩;have m1:b1∈[b1,b2]:=by simp
 have m2:b2∈[b1,b2]:=by simp
 have k5:=k'.setOwn (i:=i) (a:=b1) (vs:=vs) (ds:=d1) ⟨(n.b b1 m1).1,(n.b b1 m1).2,h1,r1,n.f b1 m1,n.dp b1 m1⟩ zB
 have k6:=k5.setOwn (i:=j) (a:=b2) (vs:=ws) (ds:=d2) ⟨(n.b b2 m2).1,(n.b b2 m2).2,h2,r2,λl es q w=>by
  by_cases zj:i=l
  .subst zj
   have hl':i<σ.length:=by rw[←k'.len];exact zB
   rw[QK hl']at w;cases w;exact hne wZ
  .rw[Qn zj]at q w
   exact n.f b2 m2 l es q w,λl p' d' v' fp' q w r=>by
  by_cases zj:i=l
  .subst zj;have:=Yv q;cases this
  .rw[Qn zj]at q w
   exact n.dp b2 m2 l p' d' v' fp' q w r⟩ (by rw[Q5];exact yS)
 exact a _ G' H' k6 s'
theorem Az{i j:Nat}{f:M D}{Z Z1 Z':UI}{d1 d2:w8}(h1:f Z=.ok (.tuple [.list d1,.list d2]) Z1)(hl:i≠j/\i<Z1.length/\j<Z1.length)(h3:(Z1.set i (O (.own d1))).set j (O (.own d2))=Z'):Ss i j f Z=.nx Z':=by unfold Ss sB;rw[h1];dsimp only;rw[if_pos hl,h3]
end
def ZE(g gX:SM):Prop:=∀Z,g Z≠.bad->gX Z=g Z
def Zo(F:w8->yb)(FX:w8->Option XR):Prop:=∀ds d,F ds=O d->FX ds=O (.val d)
theorem Yb{g:SM}:ZE g g:=λ_ _=>rfl
theorem WY{g:SM}:ZE X7 g:=λ_ h=>absurd wZ h
theorem ZM{a b c d:SM}(h1:ZE a c)(h2:ZE b d):ZE (UL a b) (UL c d):=λZ h=>by
 unfold UL at h⊢;cases z:a Z with
 |bad=>rw[z]at h;exact absurd wZ h
 |nx Z'=>rw[z]at h;rw[h1 Z (by rw[z];exact λe=>nomatch e),z];exact h2 Z' h
 |_=>rw[h1 Z (by rw[z];exact λe=>nomatch e),z]
theorem WK{f:M Bool}{a b c d:SM}(h1:ZE a c)(h2:ZE b d):ZE (sIf f a b) (sIf f c d):=λZ h=>by
 unfold sIf sB at h⊢;cases z:f Z with
 |bad=>rfl
 |ok t Z1=>
  rw[z]at h;dsimp only at h⊢;cases t with
  |true=>rw[Qm wZ]at h⊢;rw[Qm wZ];exact h1 Z1 h
  |false=>rw[Qw (by decide)]at h⊢;rw[Qw (by decide)];exact h2 Z1 h
theorem OX{s:D->UI->ye}{g gX:SM}(h:ZE g gX):∀(ds:w8)(Z:UI),Zc s g ds Z≠.bad->Zc s gX ds Z=Zc s g ds Z
 |[],Z,_=>rfl
 |d::r,Z,hb=>by
  rw[Zc]at hb⊢;rw[Zc];cases z:s d Z with
  |none=>rfl
  |some Z1=>
   rw[z]at hb;dsimp only at hb⊢;cases y:g Z1 with
   |bad=>rw[y]at hb;exact absurd wZ hb
   |nx Z2=>rw[y]at hb;rw[h Z1 (by rw[y];exact λe=>nomatch e),y];exact OX h r Z2 hb
   |ct Z2=>rw[y]at hb;rw[h Z1 (by rw[y];exact λe=>nomatch e),y];exact OX h r Z2 hb
   |_=>rw[h Z1 (by rw[y];exact λe=>nomatch e),y]
theorem MJ{f:M w8}{s:D->UI->ye}{g gX:SM}(h:ZE g gX):ZE (Km f s g) (Km f s gX):=λZ hb=>by
 unfold Km sB at hb⊢;cases z:f Z with
 |bad=>rfl
 |ok ds Z1=>rw[z]at hb;exact OX h ds Z1 hb
theorem YD{F:w8->yb}{FX:w8->Option XR}{n:Nat}{a:M w8}{k:D->SM}(h:Zo F FX):ZE (sB (UP n F a) k) (sX (Zd n FX a) k):=λZ hb=>by
 unfold sB UP UW at hb⊢;unfold sX Zd UW;cases z:a Z with
 |bad=>rfl
 |ok xs Z1=>
  rw[z]at hb;dsimp only at hb⊢;by_cases c:xs.length=n
  .rw[Qm c]at hb⊢
   rw[Qm c];cases y:F xs with
   |none=>rw[y]at hb;exact absurd wZ hb
   |some d=>rw[h xs d y];rfl
  .rw[Qw c]at hb;exact absurd wZ hb
theorem Xo{N:List Str}{g gX:SM}(h:ZE g gX):Zo (U4 N g) (K4 N gX):=λds d e=>by
 unfold U4 at e;unfold K4;cases z:g (ZV N ds)with
 |rt x=>rw[z]at e;rw[h _ (by rw[z];exact λe=>nomatch e),z];cases e;rfl
 |nx x=>rw[z]at e;rw[h _ (by rw[z];exact λe=>nomatch e),z];cases e;rfl
 |_=>rw[z]at e;cases e
section
variable{X:Cx}
noncomputable def Tn:D->D->yi
 |.list xs,.list ys=>if xs.length=ys.length then w4 else O w6
 |_,_=>w4
theorem FL(hu:X.A.units+64<cLine):OpB X (Uo .Eq) Tn:=by
 refine⟨λv u H Q=>∃l m xs ys,v=.ref l/\u=.ref m/\SqL X.K H l xs/\SqL X.K H m ys/\xs.length≠ys.length/\Q (.bl w6) H,?_,λv u G H x y d Q s rx ry e k=>?_⟩
 .intro pins s σ H x y v u Q I rx ry h
  obtain⟨l,m,xs,ys,rfl,rfl,h1,h2,hne,q⟩:=h;cases rx;cases ry;obtain⟨its,r,p,z⟩:=I.list h1;obtain⟨its2,r2,p2,z2⟩:=I.list h2;refine SeqAt.eq_list_lengthsAt p.isList p2.isList ?_ (by omega) ⟨.bl w6,H,I,rfl,q⟩;rw[QJ,QJ,←r.length,←r2.length];simpa using hne
 .unfold Tn at e
  split at e
  .split at e
   .cases e
   .rename_i hl
    cases e;obtain⟨l,vs,rfl,h1,r1⟩:=rx.lst_inv;obtain⟨m,ws,rfl,h2,r2⟩:=ry.lst_inv;exact⟨l,m,vs,ws,rfl,rfl,s.seq h1,s.seq h2,by rw[r1.length,r2.length];exact hl,k⟩
  .cases e
noncomputable def To(x y:D):yi:=(Tn x y).orElse λ_=>oEq x y
theorem FJ(hu:X.A.units+64<cLine):OpB X (Uo .Eq) To:=(FL hu).or (B_eq hu)
theorem MI{xs:w8}:To (.list xs) (.list [])=O xs.isEmpty:=by
 cases xs with
 |nil=>kernel_rfl
 |cons x r=>rfl
end
noncomputable def tgN:Uj->List Str
 |.Name x _=>[x]
 |.Tuple [.Name x _] _ _=>[x]
 |.Tuple [.Name x _,.Name y _] _ _=>[x,y]
 |.Tuple [.Name x _,.Name y _,.Name z _] _ _=>[x,y,z]
 |.Tuple [.Name x _,.Name y _,.Name z _,.Name u _] _ _=>[x,y,z,u]
 |_=>[]
noncomputable def adN(vs:List Str):List Str->List Str
 |[]=>vs
 |x::r=>adN (if vs.elem x then vs else vs++[x]) r
noncomputable def Tr(vs:List Str):List Comprehension->List Str
 |[]=>vs
 |⟨tg,_,_,_⟩::r=>Tr (adN vs (tgN tg)) r
def dotN(x:Str):Str:=("." : Str)++x
noncomputable def blN(N:List Str)(gs:List Comprehension):List Str:=N.map (λx=>if(Tr [] gs).elem x then dotN x else x)++Tr [] gs
noncomputable def glN(sc:Scope):List Str:=sc.names.filterMap λy=>match y.2 with | .globalImplicit=>O y.1|_=>w4
abbrev NmF(s:Stmt)(N:List Str):Prop:=FnNm (K0 s) N (glN (K0 s))
theorem mq{α:Type}{l:List α}{x:α}(n:Nat)(h:l[n]?=O x):x∈l:=Qv h
section
variable{sc:Scope}{N gl:List Str}{x:Str}
theorem gA(H:FnNm sc N gl)(h:gl.elem x=w5):sc.names.lookup x=O .globalImplicit:=H.gl x (by simpa using h)
end
section
variable{X:Cx}{B G0:Hp}{KX:XW}{e e1 e2 o a b c i:Uj}{gl:List Str}{pos p2:Pos}{x:Str}{j:Nat}
theorem FI(H:FnNm X.env.scope X.N gl)(hi:X.N[j]?=O x:=by rfl)(hf:X.fn x=w5∨X.env.scope.names.lookup x=O .local:=by first|exact .inl rfl|exact .inr rfl|assumption):PG X (.Name x pos) (tG X.K B G0 (gN j)):=Ld (Pr H.nd hi (lq H j hi) hf)
theorem En{N':List Str}{scope:Scope}{cl:List (Str×Uh)}{C:Uh}{s₀:Uf}{H₀:Hp}{ex:yf}(hN:N'.Nodup:=by decide +kernel)(hi:N'[j]?=O x:=by rfl)(hl:scope.names.lookup x=O .local:=by rfl):PG (X.blk N' scope cl C s₀ H₀ ex) (.Name x pos) (tG X.K B G0 (gN j)):=Ld (Pr hN hi (CS hl) (.inr (DM hl)))
theorem aSet{f:M D}(H:FnNm X.env.scope X.N gl)(he:PE X e (tD X.K B G0 f))(hi:X.N[j]?=O x:=by rfl)(hs:swapsWith e (O (.Name x p2)) pos.line X.env=pure w6:=by rfl)
  (hf:X.fn x=w5∨X.env.scope.names.lookup x=O .local:=by first|exact .inl rfl|exact .inr rfl|assumption):PS X (.Assign [.Name x p2] e pos) (tS X.K B G0 KX (U3 j f)):=E4 H.nd hi (lq H j hi) he hs hf
theorem FH{f:M w8}(H:FnNm X.env.scope X.N gl)(he:PE X e (tL X.K B G0 f))(hi:X.N[j]?=O x:=by rfl)(hs:swapsWith e (O (.Name x p2)) pos.line X.env=pure w6:=by rfl)
  (hf:X.fn x=w5∨X.env.scope.names.lookup x=O .local:=by first|exact .inl rfl|exact .inr rfl|assumption):PS X (.Assign [.Name x p2] e pos) (tS X.K B G0 KX (K2 j f)):=CZ H.nd hi (lq H j hi) he hs hf
theorem FG{f:M XR}(H:FnNm X.env.scope X.N gl)(he:PE X e (tX X.K B G0 KX f))(hi:X.N[j]?=O x:=by rfl)(hs:swapsWith e (O (.Name x p2)) pos.line X.env=pure w6:=by rfl)
  (hf:X.fn x=w5∨X.env.scope.names.lookup x=O .local:=by first|exact .inl rfl|exact .inr rfl|assumption):PS X (.Assign [.Name x p2] e pos) (tS X.K B G0 KX (sX f λd Z=>match gN j d Z with|some Z'=>.nx Z'|none=>.bad)):=Bp H.nd hi (lq H j hi) he hs hf
theorem aAug{op:Operator}{p:Int->Int->yb}{f:M D}{pos':Pos}(H:FnNm X.env.scope X.N gl)(ho:IpD X op p)(he:PE X e (tD X.K B G0 f))(hi:X.N[j]?=O x:=by rfl)(hf:X.fn x=w5∨X.env.scope.names.lookup x=O .local:=by first|exact .inl rfl|exact .inr rfl|assumption):PS X (.AugAssign (.Name x pos') op e pos) (tS X.K B G0 KX (Xu p j f)):=Du H.nd hi (lq H j hi) ho he hf
theorem Em{i j:Nat}{x y:Str}{f:M D}{px py pt:Pos}{kt}(hc:X.calm=w5)(H:FnNm X.env.scope X.N gl)(he:PE X e (tT X.K B G0 PLL f))(hi:X.N[i]?=O x:=by rfl)(hj:X.N[j]?=O y:=by rfl)
  (hs:swapsWithSole [.Tuple [.Name x px,.Name y py] kt pt] e pos.line X.env=pure w6:=by rfl) (hw:swappedStores [.Tuple [.Name x px,.Name y py] kt pt] e X.env=pure w4:=by rfl)
  (hf:X.fn x=w5∨X.env.scope.names.lookup x=O .local:=by first|exact .inl rfl|exact .inr rfl|assumption) (hf2:X.fn y=w5∨X.env.scope.names.lookup y=O .local:=by first|exact .inl rfl|exact .inr rfl|assumption) :
  PS X (.Assign [.Tuple [.Name x px,.Name y py] kt pt] e pos) (tS X.K B G0 KX (Ss i j f)):=AA hc H.nd hi hj (lq H i hi) (lq H j hj) he hs hw hf hf2
theorem FF{l:Bool}{tg elt iter:Uj}{ifs:yd}{gs:List Comprehension}{scope:Scope}{f:M w8}{s:D->UI->ye}{t:M Bool}{rd:RdB}{F:M w8}{k:Nat}{SC:Scope}{N1:List Str}(H:FnNm SC N1 gl)(le:∀Z es Z',F Z=.ok es Z'->dCG l f k s t rd Z=.ok es Z')(hc:X.calm=w5)
  (hi:PI X tg iter (iD X.K B G0 f)) (yB:YS X (blN N1 (⟨tg,iter,ifs,0⟩::gs)) scope (.ListComp elt (⟨tg,iter,ifs,0⟩::gs) scope pos) tg ifs s t rd) (hb:V4 SY SC scope N1 (blN N1 (⟨tg,iter,ifs,0⟩::gs)) k=w5) (h1:X.env.scope=SC:=by rfl) (h2:X.N=N1:=by rfl) (hs:∀x,UD iter X.env x=pure x:=by intro _;rfl) :
  PE X (.ListComp elt (⟨tg,iter,ifs,0⟩::gs) scope pos) (tL X.K B G0 F):=E1 _ _ _ k le hc hi yB h1 h2 hb hs
theorem FE{l:Bool}{y:Str}{py spos:Pos}{tg elt iter:Uj}{ifs:yd}{gs:List Comprehension}{scope:Scope}{f:M w8}{s:D->UI->ye}{t:M Bool}{rd:RdB}{F:M w8}{k:Nat}{SC:Scope}{N1:List Str}(H:FnNm SC N1 gl)(le:∀Z es Z',F Z=.ok es Z'->dCG l f k s t rd Z=.ok es Z')(hc:X.calm=w5)
  (hi:PI X tg iter (iD X.K B G0 f)) (yB:YS X (blN N1 (⟨tg,iter,ifs,0⟩::gs)) scope (.ListComp elt (⟨tg,iter,ifs,0⟩::gs) scope pos) tg ifs s t rd) (hb:V4 SY SC scope N1 (blN N1 (⟨tg,iter,ifs,0⟩::gs)) k=w5) (hj:N1[j]?=O y:=by rfl) (hy:SC.names.lookup y=O .local:=by rfl) (h1:X.env.scope=SC:=by rfl) (h2:X.N=N1:=by rfl) (hs:∀x,UD iter X.env x=pure x:=by intro _;rfl)
  (hsw:swapsWith (.ListComp elt (⟨tg,iter,ifs,0⟩::gs) scope pos) (O (.Name y py)) spos.line X.env=pure w5:=by rfl) :
  PS X (.Assign [.Name y py] (.ListComp elt (⟨tg,iter,ifs,0⟩::gs) scope pos) spos) (tS X.K B G0 KX (K2 j F)):=sD_1 _ _ _ k le (h2 ▸ H.nd) (h2 ▸ hj) (h1 ▸ hy) hc hi yB h1 h2 hb hs hsw
end
end DL
namespace DL
open PySem PySem.Spec L2
open PyProof.Rows hiding St
open Builtin Builtin.Str
end DL
namespace DL
open PySem PySem.Spec L2
open PyProof.Rows hiding St
end DL
namespace DL
open PySem PySem.Spec L2
open PyProof.Rows hiding St
open PySem.SeqRoads2 PySem.SeqAt
end DL
namespace DL
open PySem PySem.Spec L2
open PyProof.Rows hiding St
end DL
namespace W
open PySem PySem.Spec L2 DL
open PyProof.Rows hiding St
noncomputable def top(i:Nat):Stmt:=PySem.Challenge.pw_wishdeal_k26_aims_refused.main.body.getD i (.Pass ⟨0,0,0,0⟩)
abbrev GG(s:Stmt)(x:Str):Prop:=(K0 s).names.lookup x=O NameKind.globalImplicit
abbrev VV(s:Stmt)(x:Str):Prop:=L2.Vis (K0 s) x
abbrev LL(s:Stmt)(x:Str):Prop:=L2.Loc (K0 s) x
theorem vk{s:Stmt}{x:Str}(h:(K0 s).names.lookup x=O .local∨(K0 s).names.lookup x=O .cell∨(K0 s).names.lookup x=O .free):VV s x:=h
theorem lk{s:Stmt}{x:Str}(h:(K0 s).names.lookup x=O .local∨(K0 s).names.lookup x=O .cell):LL s x:=h
structure Txt(K:Frag)(mg:Str->yc):Prop where
 b_ValueError:mg "ValueError" = w4
 b_all:mg "all" = w4
 b_bool:mg "bool" = w4
 b_enumerate:mg "enumerate" = w4
 b_int:mg "int" = w4
 b_isinstance:mg "isinstance" = w4
 b_len:mg "len" = w4
 b_list:mg "list" = w4
 b_max:mg "max" = w4
 b_range:mg "range" = w4
 b_set:mg "set" = w4
 b_sorted:mg "sorted" = w4
 b_str:mg "str" = w4
 b_sum:mg "sum" = w4
 b_tuple:mg "tuple" = w4
 b_zip:mg "zip" = w4
 c_MOST_ASKERS:∃t,mg "MOST_ASKERS" = O (Value.int 7 t)
 c_MOST_COPIES:∃t,mg "MOST_COPIES" = O (Value.int 7 t)
 c_MOST_RANKS:∃t,mg "MOST_RANKS" = O (Value.int 5 t)
 c_MOST_THINGS:∃t,mg "MOST_THINGS" = O (Value.int 6 t)
 c_ORDERS:∃ad o its n,mg "ORDERS" = O (.ref ad)/\K.lookup ad=O o/\o.cls=.type "tuple" /\ o.data=.seq its n/\its.size<=Uk/\Vals ((["firsts", "full", "lasts"]:List Str).map V.str) its.toList
 x_NoAim:CK K mg "NoAim"
 x_NoWishes:CK K mg "NoWishes"
noncomputable abbrev Sbe:Stmt:=top 46
abbrev N_be:List Str:=["_law_script", "_law_k"]
theorem Hbe:NmF Sbe N_be:=KE (by decide +kernel)
noncomputable def W8:SM:=
 UL (sIf (Kp (oIB λi j=>decide (i<j)) 1 (KH 0))
 (UR (UQ 0 (UE 1)))
 (sNx))
 (UR (UJ (.int 0)))
noncomputable def Yr:w8->yb:=U4 N_be W8
noncomputable abbrev Saa:Stmt:=top 1
abbrev N_aa:List Str:=["thing"]
theorem Haa:NmF Saa N_aa:=KE (by decide +kernel)
noncomputable def T5:SM:=
 UR (WH (US (λd=>.bool (Kd d "int")) (UE 0)) (Rm (US (λd=>.bool (Kd d "bool")) (UE 0))))
noncomputable def Ws:w8->yb:=U4 N_aa T5
noncomputable abbrev Sab:Stmt:=top 2
abbrev N_ab:List Str:=["thing", "many"]
theorem Hab:NmF Sab N_ab:=KE (by decide +kernel)
noncomputable def Vg:SM:=
 UR (WH (UP 1 Ws (UF (UE 0) (UG))) (US Us (XV (oIB λi j=>decide (i<=j)) (oIB λi j=>decide (i<j)) (UJ (.int 0)) (UE 0) (UE 1))))
noncomputable def K6:w8->yb:=U4 N_ab Vg
noncomputable abbrev Sar:Stmt:=top 31
abbrev N_ar:List Str:=["thing", "askers"]
theorem Har:NmF Sar N_ar:=KE (by decide +kernel)
noncomputable def Va:SM:=
 UL (sIf (mOr (U5 (KO (US (λd=>.bool (Kd d "list")) (UE 0)))) (U5 (KO (K5 Yd (UF (US Ur (Zr (KJ (UE 0)) 1 (gN 2) (UJ w5) (UP 2 K6 (UF (UE 2) (UF (UE 1) (UG)))))) (UG))))))
 (UR (UJ (.bool w6)))
 (sNx))
 (UR (US Us (UN oEq (K5 Wa (UF (UE 0) (UG))) (KH 0))))
noncomputable def Xc:w8->yb:=U4 N_ar Va
noncomputable abbrev Saq:Stmt:=top 30
noncomputable abbrev N_aq:List Str:=["thing", "askers", "things"]
theorem Haq:NmF Saq N_aq:=KE (by decide +kernel)
noncomputable def Vb:SM:=
 UL (sIf (US isNon (UE 0))
 (UR (UJ (.bool w5)))
 (sNx))
 (UL (sIf (mOr (U5 (KO (US (λd=>.bool (Kd d "list")) (UE 0)))) (UN oNe (KH 0) (UE 1)))
 (UR (UJ (.bool w6)))
 (sNx))
 (UR (K5 Yd (UF (US Ur (Zr (KJ (UE 0)) 1 (gN 3) (UJ w5) (Y8 (US (λd=>.bool (isNon d)) (UE 3)) (UP 2 K6 (UF (UE 3) (UF (UE 2) (UG))))))) (UG)))))
noncomputable def Xd:w8->yb:=U4 N_aq Vb
noncomputable abbrev Sam:Stmt:=top 25
abbrev N_am:List Str:=["thing"]
theorem Ham:NmF Sam N_am:=KE (by decide +kernel)
noncomputable def Vc:SM:=
 UR (WH (US (λd=>.bool (Kd d "str")) (UE 0)) (US Us (Kp oIn 0 (UJ (.tuple ((["firsts", "full", "lasts"]:List Str).map Ut))))))
noncomputable def XI:w8->yb:=U4 N_am Vc
noncomputable abbrev Fi:Stmt:=top 26
abbrev Fh:List Str:=["thing"]
theorem Fq:NmF Fi Fh:=KE (by decide +kernel)
noncomputable def Ny:SM:=
 sIf (U5 (KO (UP 1 XI (UF (UE 0) (UG)))))
 (YW "NoAim" (UF (UJ (.str "order")) (UG)))
 (sNx)
noncomputable def VS:w8->Option XR:=K4 Fh Ny
noncomputable abbrev Sad:Stmt:=top 13
abbrev N_ad:List Str:=["thing", "things"]
theorem Had:NmF Sad N_ad:=KE (by decide +kernel)
noncomputable def Vf:SM:=
 UL (sIf (mOr (U5 (KO (US (λd=>.bool (Kd d "list")) (UE 0)))) (UN oEq (KH 0) (UJ (.int 0))))
 (UR (UJ (.bool w6)))
 (sNx))
 (UR (K5 Yd (UF (US Ur (Zr (KJ (UE 0)) 1 (gN 2) (UJ w5) (UP 2 K6 (UF (UE 2) (UF (UE 1) (UG)))))) (UG))))
noncomputable def Xf:w8->yb:=U4 N_ad Vf
noncomputable abbrev Sae:Stmt:=top 14
noncomputable abbrev N_ae:List Str:=["thing", "things", "wished"]
theorem Hae:NmF Sae N_ae:=KE (by decide +kernel)
noncomputable def Ve:SM:=
 UL (sIf (mOr (U5 (KO (US (λd=>.bool (Kd d "list")) (UE 0)))) (UN (oIB λi j=>decide (j<i)) (KH 0) (UJ (.int 5))))
 (UR (UJ (.bool w6)))
 (sNx))
 (UL (sIf (U5 (KO (K5 Yd (UF (US Ur (Zr (KJ (UE 0)) 1 (gN 3) (UJ w5) (UP 2 Xf (UF (UE 3) (UF (UE 1) (UG)))))) (UG)))))
 (UR (UJ (.bool w6)))
 (sNx))
 (UL (K2 2 (V5 (KJ (UE 0)) 2 (gN 3) (UJ w5) (KJ (UE 3)) (gN 4) (UJ w5) (UE 4)))
 (UR (US Us (UN oEq (K5 Wa (UF (UE 2) (UG))) (KH 2))))))
noncomputable def Xe:w8->yb:=U4 N_ae Ve
noncomputable abbrev Fg:Stmt:=top 15
noncomputable abbrev Ff:List Str:=["lists", "things", "asker", "ranks"]
theorem FA:NmF Fg Ff:=KE (by decide +kernel)
noncomputable def Fu:SM:=
 sIf (U5 (KO (UP 2 Xe (UF (UE 3) (UF (UE 1) (UG))))))
 (YW "NoWishes" (UF (UJ (.str "lists")) (UF (UE 2) (UG))))
 (sNx)
noncomputable def Nx:SM:=
 UL (sIf (mOr (U5 (KO (US (λd=>.bool (Kd d "list")) (UE 0)))) (U5 (XV (oIB λi j=>decide (i<=j)) (oIB λi j=>decide (i<=j)) (UJ (.int 1)) (KH 0) (UJ (.int 7)))))
 (YW "NoWishes" (UF (UJ (.str "lists")) (UF (UJ .none) (UG))))
 (sNx))
 (Km (Yy (UF (UE 0) (UG))) (gT 2 (gNC (gN 2) (gNC (gN 3) (gN0)))) Fu)
noncomputable def RO:w8->Option XR:=K4 Ff Nx
noncomputable abbrev Fz:Stmt:=top 12
abbrev Fy:List Str:=["copies", "number", "many"]
theorem Ft:NmF Fz Fy:=KE (by decide +kernel)
noncomputable def Fp:SM:=
 sIf (U5 (KO (UP 2 K6 (UF (UE 2) (UF (UN U0 (UJ (.int 7)) (UJ (.int 1))) (UG))))))
 (YW "NoWishes" (UF (UJ (.str "copies")) (UF (UE 1) (UG))))
 (sNx)
noncomputable def NA:SM:=
 UL (sIf (mOr (U5 (KO (US (λd=>.bool (Kd d "list")) (UE 0)))) (U5 (XV (oIB λi j=>decide (i<=j)) (oIB λi j=>decide (i<=j)) (UJ (.int 1)) (KH 0) (UJ (.int 6)))))
 (YW "NoWishes" (UF (UJ (.str "copies")) (UF (UJ .none) (UG))))
 (sNx))
 (Km (Yy (UF (UE 0) (UG))) (gT 2 (gNC (gN 1) (gNC (gN 2) (gN0)))) Fp)
noncomputable def RN:w8->Option XR:=K4 Fy NA
noncomputable abbrev Fx:Stmt:=top 16
abbrev Fw:List Str:=["thing", "copies", "lists"]
theorem Fs:NmF Fx Fw:=KE (by decide +kernel)
noncomputable def Nz:SM:=
 UL (sIf (mOr (U5 (KO (US (λd=>.bool (Kd d "tuple")) (UE 0)))) (UN oNe (KH 0) (UJ (.int 2))))
 (YW "NoWishes" (UF (UJ (.str "wishes")) (UF (UJ .none) (UG))))
 (sNx))
 (UL (K3 (UE 0) (gT 2 (gNC (gN 1) (gNC (gN 2) (gN0)))))
 (UL (sX (Zd 1 RN (UF (UE 1) (UG))) λ_ Z=>.nx Z)
 (sX (Zd 2 RO (UF (UE 2) (UF (KH 1) (UG)))) λ_ Z=>.nx Z)))
noncomputable def Wd:w8->Option XR:=K4 Fw Nz
noncomputable abbrev Fl:Stmt:=top 32
noncomputable abbrev Fk:List Str:=["wishes", "thing", "copies", "lists", "order", "old", "turns"]
theorem Fb:NmF Fl Fk:=KE (by decide +kernel)
noncomputable def NB:SM:=
 UL (sX (Zd 1 Wd (UF (UE 0) (UG))) λ_ Z=>.nx Z)
 (UL (sIf (mOr (U5 (KO (US (λd=>.bool (Kd d "tuple")) (UE 1)))) (UN oNe (KH 1) (UJ (.int 3))))
 (YW "NoAim" (UF (UJ (.str "aim")) (UG)))
 (sNx))
 (UL (K3 (UE 0) (gT 2 (gNC (gN 2) (gNC (gN 3) (gN0)))))
 (UL (K3 (UE 1) (gT 3 (gNC (gN 4) (gNC (gN 5) (gNC (gN 6) (gN0))))))
 (UL (sX (Zd 1 VS (UF (UE 4) (UG))) λ_ Z=>.nx Z)
 (UL (sIf (U5 (KO (UP 3 Xd (UF (UE 5) (UF (KH 3) (UF (KH 2) (UG)))))))
 (YW "NoAim" (UF (UJ (.str "old")) (UG)))
 (sNx))
 (sIf (U5 (KO (UP 2 Xc (UF (UE 6) (UF (KH 3) (UG))))))
 (YW "NoAim" (UF (UJ (.str "turns")) (UG)))
 (sNx)))))))
noncomputable def ZX:w8->Option XR:=K4 Fk NB
noncomputable abbrev Saf:Stmt:=top 15
noncomputable abbrev N_af:List Str:=["lists", "things", "asker", "ranks"]
theorem Haf:NmF Saf N_af:=KE (by decide +kernel)
noncomputable def MH:SM:=
 sIf (U5 (KO (UP 2 Xe (UF (UE 3) (UF (UE 1) (UG))))))
 (X7)
 (sNx)
noncomputable def T3:SM:=
 UL (sIf (mOr (U5 (KO (US (λd=>.bool (Kd d "list")) (UE 0)))) (U5 (XV (oIB λi j=>decide (i<=j)) (oIB λi j=>decide (i<=j)) (UJ (.int 1)) (KH 0) (UJ (.int 7)))))
 (X7)
 (sNx))
 (Km (Yy (UF (UE 0) (UG))) (gT 2 (gNC (gN 2) (gNC (gN 3) (gN0)))) MH)
noncomputable def Wq:w8->yb:=U4 N_af T3
noncomputable abbrev Sac:Stmt:=top 12
noncomputable abbrev N_ac:List Str:=["copies", "number", "many"]
theorem Hac:NmF Sac N_ac:=KE (by decide +kernel)
noncomputable def MG:SM:=
 sIf (U5 (KO (UP 2 K6 (UF (UE 2) (UF (UN U0 (UJ (.int 7)) (UJ (.int 1))) (UG))))))
 (X7)
 (sNx)
noncomputable def T4:SM:=
 UL (sIf (mOr (U5 (KO (US (λd=>.bool (Kd d "list")) (UE 0)))) (U5 (XV (oIB λi j=>decide (i<=j)) (oIB λi j=>decide (i<=j)) (UJ (.int 1)) (KH 0) (UJ (.int 6)))))
 (X7)
 (sNx))
 (Km (Yy (UF (UE 0) (UG))) (gT 2 (gNC (gN 1) (gNC (gN 2) (gN0)))) MG)
noncomputable def Wr:w8->yb:=U4 N_ac T4
noncomputable abbrev Sag:Stmt:=top 16
noncomputable abbrev N_ag:List Str:=["thing", "copies", "lists"]
theorem Hag:NmF Sag N_ag:=KE (by decide +kernel)
noncomputable def T2:SM:=
 UL (sIf (mOr (U5 (KO (US (λd=>.bool (Kd d "tuple")) (UE 0)))) (UN oNe (KH 0) (UJ (.int 2))))
 (X7)
 (sNx))
 (UL (K3 (UE 0) (gT 2 (gNC (gN 1) (gNC (gN 2) (gN0)))))
 (UL (YZ (UP 1 Wr (UF (UE 1) (UG))))
 (YZ (UP 2 Wq (UF (UE 2) (UF (KH 1) (UG)))))))
noncomputable def Yh:w8->yb:=U4 N_ag T2
noncomputable abbrev Sai:Stmt:=top 18
abbrev N_ai:List Str:=["wishes"]
theorem Hai:NmF Sai N_ai:=KE (by decide +kernel)
noncomputable def TZ:SM:=
 UL (YZ (UP 1 Yh (UF (UE 0) (UG))))
 (UR (K5 VZ (UF (US Ur (Zr (KJ (UQ 0 (UJ (.int 1)))) 1 (gN 1) (UJ w5) (KH 1))) (UG))))
noncomputable def Yg:w8->yb:=U4 N_ai TZ
noncomputable abbrev Sax:Stmt:=top 38
noncomputable abbrev N_ax:List Str:=["base", "times", "told", "step"]
theorem Hax:NmF Sax N_ax:=KE (by decide +kernel)
noncomputable def MF:SM:=
 Xu Ye 2 (UE 0)
noncomputable def TR:SM:=
 UL (U3 2 (UJ (.int 1)))
 (UL (Km (Wu (UF (UE 1) (UG))) (gN 3) MF)
 (UR (UE 2)))
noncomputable def Zq:w8->yb:=U4 N_ax TR
noncomputable abbrev Saz:Stmt:=top 40
noncomputable abbrev N_az:List Str:=["turns", "base", "asker", "rank", "behind"]
theorem Haz:NmF Saz N_az:=KE (by decide +kernel)
noncomputable def TN:SM:=
 UL (sIf (Kp YQ 2 (UE 0))
 (UR (UJ (.int 0)))
 (sNx))
 (UL (U3 4 (UN Zk (UN Zk (KH 0) (UJ (.int 1))) (Ph (UE 0) (UF (UE 2) (UG)))))
 (UR (UN Kn (UN Zk (UE 1) (UE 3)) (UP 2 Zq (UF (UE 1) (UF (UE 4) (UG)))))))
noncomputable def Vv:w8->yb:=U4 N_az TN
noncomputable abbrev Say:Stmt:=top 39
noncomputable abbrev N_ay:List Str:=["order", "base", "most", "rank"]
theorem Hay:NmF Say N_ay:=KE (by decide +kernel)
noncomputable def TQ:SM:=
 UL (sIf (Kp oEq 0 (UJ (.str "firsts")))
 (UR (UP 2 Zq (UF (UE 1) (UF (UN Zk (UE 2) (UE 3)) (UG)))))
 (sNx))
 (UL (sIf (Kp oEq 0 (UJ (.str "full")))
 (UR (UN U0 (UP 2 Zq (UF (UE 1) (UF (UE 2) (UG)))) (UP 2 Zq (UF (UE 1) (UF (UN Zk (UE 2) (UE 3)) (UG))))))
 (sNx))
 (UR (UN Zk (UP 2 Zq (UF (UE 1) (UF (UE 2) (UG)))) (UP 2 Zq (UF (UE 1) (UF (UN Zk (UE 3) (UJ (.int 1))) (UG)))))))
noncomputable def Vw:w8->yb:=U4 N_ay TQ
noncomputable abbrev Sah:Stmt:=top 17
noncomputable abbrev N_ah:List Str:=["ranks", "thing", "number", "rank"]
theorem Hah:NmF Sah N_ah:=KE (by decide +kernel)
noncomputable def OC:SM:=
 sIf (Kp oIn 1 (UE 3))
 (UR (UE 2))
 (sNx)
noncomputable def Vd:SM:=
 UL (Km (Pj (UF (UE 0) (UG))) (gT 2 (gNC (gN 2) (gNC (gN 3) (gN0)))) OC)
 (UR (UJ (.int 0)))
noncomputable def Z6:w8->yb:=U4 N_ah Vd
noncomputable abbrev Sba:Stmt:=top 41
noncomputable abbrev N_ba:List Str:=["wishes", "aim", "most", "asker", "thing", "order", "old", "turns", "lists", "rank", "base", "kept", "by_counts"]
theorem Hba:NmF Sba N_ba:=KE (by decide +kernel)
noncomputable def TM:SM:=
 UL (K3 (UE 1) (gT 3 (gNC (gN 5) (gNC (gN 6) (gNC (gN 7) (gN0))))))
 (UL (U3 8 (UQ 0 (UJ (.int 1))))
 (UL (U3 9 (UP 2 Z6 (UF (UQ 8 (UE 3)) (UF (UE 4) (UG)))))
 (UL (U3 10 (UN U0 (KH 8) (UJ (.int 1))))
 (UL (U3 11 (mIf (Za (US (λd=>!isNon d) (UE 6)) (UN oEq (UQ 6 (UE 3)) (UE 4))) (UJ (.int 1)) (UJ (.int 0))))
 (UL (U3 12 (UN U0 (UN Kn (UP 4 Vw (UF (UE 5) (UF (UE 10) (UF (UE 2) (UF (UE 9) (UG)))))) (UE 10)) (UE 11)))
 (UR (UN U0 (UN Kn (UE 12) (UP 2 Zq (UF (UN U0 (UE 2) (UJ (.int 1))) (UF (KH 7) (UG))))) (UP 4 Vv (UF (UE 7) (UF (UN U0 (UE 2) (UJ (.int 1))) (UF (UE 3) (UF (UE 9) (UG)))))))))))))
noncomputable def ZH:w8->yb:=U4 N_ba TM
noncomputable abbrev Fe:Stmt:=top 42
noncomputable abbrev Fd:List Str:=["wishes", "aim", "asker", "thing"]
theorem Fv:NmF Fe Fd:=KE (by decide +kernel)
noncomputable def Fc:SM:=
 UL (sX (Zd 2 ZX (UF (UE 0) (UF (UE 1) (UG)))) λ_ Z=>.nx Z)
 (UR (UP 5 ZH (UF (UE 0) (UF (UE 1) (UF (UP 1 Yg (UF (UE 0) (UG))) (UF (UE 2) (UF (UE 3) (UG))))))))
noncomputable def SO:w8->Option XR:=K4 Fd Fc
noncomputable abbrev HZ:Stmt:=top 18
abbrev HY:List Str:=["wishes"]
theorem Gp:NmF HZ HY:=KE (by decide +kernel)
noncomputable def HX:SM:=
 UL (sX (Zd 1 Wd (UF (UE 0) (UG))) λ_ Z=>.nx Z)
 (UR (K5 VZ (UF (US Ur (Zr (KJ (UQ 0 (UJ (.int 1)))) 1 (gN 1) (UJ w5) (KH 1))) (UG))))
noncomputable def SI:w8->Option XR:=K4 HY HX
noncomputable abbrev Go:Stmt:=top 44
noncomputable abbrev Gn:List Str:=["wishes", "aim", "dealing", "most"]
theorem GY:NmF Go Gn:=KE (by decide +kernel)
noncomputable def Gm:SM:=
 UL (sX (Zd 2 ZX (UF (UE 0) (UF (UE 1) (UG)))) λ_ Z=>.nx Z)
 (UL (sX (Zd 1 SI (UF (UE 0) (UG))) λd Z=>match gN 3 d Z with|some Z'=>.nx Z'|none=>.bad)
 (UR (K5 VW (UF (US Ur (Zr (Yy (UF (UE 2) (UG))) 2 (gT 2 (gNC (gN 4) (gNC (gN 5) (gN0)))) (US (λd=>!isNon d) (UE 5)) (UP 5 ZH (UF (UE 0) (UF (UE 1) (UF (UE 3) (UF (UE 4) (UF (UE 5) (UG))))))))) (UG)))))
noncomputable def SJ:w8->Option XR:=K4 Gn Gm
noncomputable abbrev Saj:Stmt:=top 19
abbrev N_aj:List Str:=["wishes"]
theorem Haj:NmF Saj N_aj:=KE (by decide +kernel)
noncomputable def TY:SM:=
 UL (YZ (UP 1 Yh (UF (UE 0) (UG))))
 (UR (K5 VU (UF (US Ur (Rx (Yy (UF (UQ 0 (UJ (.int 1))) (UG))) 4 (gT 2 (gNC (gN 1) (gNC (gN 2) (gN0)))) (UJ w5) (KJ (UE 2)) (gN 3) (UJ w5) (KJ (UE 3)) (gN 4) (UJ w5) (Kx (UF (UE 1) (UF (UE 4) (UG)))))) (UG))))
noncomputable def Wp:w8->yb:=U4 N_aj TY
noncomputable abbrev GL:Stmt:=top 43
noncomputable abbrev GK:List Str:=["wishes", "aim", "most"]
theorem Fj:NmF GL GK:=KE (by decide +kernel)
noncomputable def GJ:SM:=
 UL (sX (Zd 2 ZX (UF (UE 0) (UF (UE 1) (UG)))) λ_ Z=>.nx Z)
 (UL (sX (Zd 1 SI (UF (UE 0) (UG))) λd Z=>match gN 2 d Z with|some Z'=>.nx Z'|none=>.bad)
 (UR (US Ur (Zr (KJ (UP 1 Wp (UF (UE 0) (UG)))) 2 (gT 2 (gNC (gN 3) (gNC (gN 4) (gN0)))) (UJ w5) (Kx (UF (UE 3) (UF (UE 4) (UF (UP 5 ZH (UF (UE 0) (UF (UE 1) (UF (UE 2) (UF (UE 3) (UF (UE 4) (UG))))))) (UG)))))))))
noncomputable def SR:w8->Option XR:=K4 GK GJ
noncomputable abbrev Sav:Stmt:=top 35
noncomputable abbrev N_av:List Str:=["one", "other", "mine", "yours"]
theorem Hav:NmF Sav N_av:=KE (by decide +kernel)
noncomputable def ME:SM:=
 sIf (Kp oNe 2 (UE 3))
 (UR (Y8 (US Us (Kp oEq 3 (UJ (.int 0)))) (US Us (XV (oIB λi j=>decide (i<j)) (oIB λi j=>decide (i<j)) (UJ (.int 0)) (UE 2) (UE 3)))))
 (sNx)
noncomputable def TU:SM:=
 UL (Km (Xx (UF (UE 0) (UF (UE 1) (UG)))) (gT 2 (gNC (gN 2) (gNC (gN 3) (gN0)))) ME)
 (UR (UJ (.bool w6)))
noncomputable def Wm:w8->yb:=U4 N_av TU
noncomputable abbrev Sao:Stmt:=top 27
noncomputable abbrev N_ao:List Str:=["order", "one", "other", "more", "less"]
theorem Hao:NmF Sao N_ao:=KE (by decide +kernel)
noncomputable def TV:SM:=
 UL (K2 3 (Zr (Xx (UF (UE 1) (UF (UE 2) (UG)))) 2 (gT 2 (gNC (gN 5) (gNC (gN 6) (gN0)))) (UJ w5) (UN Zk (UE 5) (UE 6))))
 (UL (sIf (Kp oEq 0 (UJ (.str "firsts")))
 (UR (UE 3))
 (sNx))
 (UL (K2 4 (Zr (KJ (UE 3)) 1 (gN 5) (UJ w5) (ZD (UE 5))))
 (UL (sIf (Kp oEq 0 (UJ (.str "full")))
 (UR (UN U0 (Zg (UE 4) (UW (ZD (UJ (.int 1))) λx=>UX (ZU x)) (UJ w4)) (UE 3)))
 (sNx))
 (UR (Wj (UE 4) (UJ w4) (UJ w4) (UW (ZD (UJ (.int 1))) λx=>UX (ZU x)))))))
noncomputable def Wn:w8->yb:=U4 N_ao TV
noncomputable abbrev GX:Stmt:=top 28
noncomputable abbrev GW:List Str:=["order", "one", "other", "gap"]
theorem GI:NmF GX GW:=KE (by decide +kernel)
noncomputable def wQ:SM:=
 sIf (Kp oNe 3 (UJ (.int 0)))
 (UR (mIf (Kp (oIB λi j=>decide (j<i)) 3 (UJ (.int 0))) (UJ (.str "better")) (UJ (.str "worse"))))
 (sNx)
noncomputable def GV:SM:=
 UL (sX (Zd 1 VS (UF (UE 0) (UG))) λ_ Z=>.nx Z)
 (UL (Km (KJ (UP 3 Wn (UF (UE 0) (UF (UE 1) (UF (UE 2) (UG)))))) (gN 3) wQ)
 (UR (UJ (.str "alike"))))
noncomputable def P7:w8->Option XR:=K4 GW GV
noncomputable abbrev Sat:Stmt:=top 33
abbrev N_at:List Str:=["old", "dealing"]
theorem Hat:NmF Sat N_at:=KE (by decide +kernel)
noncomputable def W9:SM:=
 UL (sIf (US isNon (UE 0))
 (UR (UJ (.int 0)))
 (sNx))
 (UR (K5 U7 (UF (US Ur (Zr (Xx (UF (UE 0) (UF (UE 1) (UG)))) 2 (gT 2 (gNC (gN 2) (gNC (gN 3) (gN0)))) (Za (US (λd=>!isNon d) (UE 2)) (Kp oEq 3 (UE 2))) (UE 2))) (UG))))
noncomputable def Xb:w8->yb:=U4 N_at W9
noncomputable abbrev Sak:Stmt:=top 21
abbrev N_ak:List Str:=["wishes", "dealing"]
theorem Hak:NmF Sak N_ak:=KE (by decide +kernel)
noncomputable def TX:SM:=
 UL (YZ (UP 1 Yh (UF (UE 0) (UG))))
 (UR (US Ur (Zr (Yy (UF (UE 1) (UG))) 2 (gT 2 (gNC (gN 2) (gNC (gN 3) (gN0)))) (UJ w5) (UP 2 Z6 (UF (UN oIx (UQ 0 (UJ (.int 1))) (UE 2)) (UF (UE 3) (UG)))))))
noncomputable def XJ:w8->yb:=U4 N_ak TX
noncomputable abbrev Sal:Stmt:=top 22
noncomputable abbrev N_al:List Str:=["wishes", "dealing", "got"]
theorem Hal:NmF Sal N_al:=KE (by decide +kernel)
noncomputable def TW:SM:=
 UL (U3 2 (UP 2 XJ (UF (UE 0) (UF (UE 1) (UG)))))
 (UR (UN U0 (US Ur (Zr (Rl (UF (UJ (.int 1)) (UF (UN U0 (UP 1 Yg (UF (UE 0) (UG))) (UJ (.int 1))) (UG)))) 1 (gN 3) (UJ w5) (So (UE 2) (UF (UE 3) (UG))))) (UV (UF (So (UE 2) (UF (UJ (.int 0)) (UG))) (UG)))))
noncomputable def Wo:w8->yb:=U4 N_al TW
noncomputable abbrev GU:Stmt:=top 21
abbrev GT:List Str:=["wishes", "dealing"]
theorem GH:NmF GU GT:=KE (by decide +kernel)
noncomputable def GS:SM:=
 UL (sX (Zd 1 Wd (UF (UE 0) (UG))) λ_ Z=>.nx Z)
 (UR (US Ur (Zr (Yy (UF (UE 1) (UG))) 2 (gT 2 (gNC (gN 2) (gNC (gN 3) (gN0)))) (UJ w5) (UP 2 Z6 (UF (UN oIx (UQ 0 (UJ (.int 1))) (UE 2)) (UF (UE 3) (UG)))))))
noncomputable def P6:w8->Option XR:=K4 GT GS
noncomputable abbrev Gk:Stmt:=top 34
noncomputable abbrev GD:List Str:=["wishes", "aim", "dealing", "order", "old", "turns", "got"]
theorem GR:NmF Gk GD:=KE (by decide +kernel)
noncomputable def GC:SM:=
 UL (sX (Zd 2 ZX (UF (UE 0) (UF (UE 1) (UG)))) λ_ Z=>.nx Z)
 (UL (K3 (UE 1) (gT 3 (gNC (gN 3) (gNC (gN 4) (gNC (gN 5) (gN0))))))
 (UL (sX (Zd 2 P6 (UF (UE 0) (UF (UE 2) (UG)))) λd Z=>match gN 6 d Z with|some Z'=>.nx Z'|none=>.bad)
 (UR (Kx (UF (UP 2 Wo (UF (UE 0) (UF (UE 2) (UG)))) (UF (UP 2 Xb (UF (UE 4) (UF (UE 2) (UG)))) (UF (US Ur (Zr (KJ (UE 5)) 1 (gN 7) (UJ w5) (UQ 6 (UE 7)))) (UG))))))))
noncomputable def WU:w8->Option XR:=K4 GD GC
noncomputable abbrev Gj:Stmt:=top 36
noncomputable abbrev Gi:List Str:=["wishes", "aim", "one", "other", "counts", "kept", "ranks", "other_counts", "other_kept", "other_ranks", "beside"]
theorem GF:NmF Gj Gi:=KE (by decide +kernel)
noncomputable def Nt:SM:=
 UL (sX (Zd 3 WU (UF (UE 0) (UF (UE 1) (UF (UE 2) (UG))))) λd Z=>match (gT 3 (gNC (gN 4) (gNC (gN 5) (gNC (gN 6) (gN0))))) d Z with|some Z'=>.nx Z'|none=>.bad)
 (UL (sX (Zd 3 WU (UF (UE 0) (UF (UE 1) (UF (UE 3) (UG))))) λd Z=>match (gT 3 (gNC (gN 7) (gNC (gN 8) (gNC (gN 9) (gN0))))) d Z with|some Z'=>.nx Z'|none=>.bad)
 (UL (sX (Zd 3 P7 (UF (UQ 1 (UJ (.int 0))) (UF (UE 4) (UF (UE 7) (UG))))) λd Z=>match gN 10 d Z with|some Z'=>.nx Z'|none=>.bad)
 (UL (sIf (Kp oNe 10 (UJ (.str "alike")))
 (UR (US Us (Kp oEq 10 (UJ (.str "better")))))
 (sNx))
 (UL (sIf (Kp oNe 5 (UE 8))
 (UR (US Us (Kp (oIB λi j=>decide (j<i)) 5 (UE 8))))
 (sNx))
 (UR (UP 2 Wm (UF (UE 6) (UF (UE 9) (UG)))))))))
noncomputable def SQ:w8->Option XR:=K4 Gi Nt
noncomputable abbrev GB:Stmt:=top 60
noncomputable abbrev GA:List Str:=["_law_way", "_law_wishes_here", "_law_aim_here", "_law_pair", "_law_dealing"]
theorem Gh:NmF GB GA:=KE (by decide +kernel)
noncomputable def Nw:SM:=
 UL (sIf (Kp oEq 0 (UJ (.int 0)))
 (sX (Zd 3 WU (UF (UE 1) (UF (UE 2) (UF (US Ur (X6 4)) (UG))))) λd _=>.rt d)
 (sNx))
 (UL (sIf (Kp oEq 0 (UJ (.int 1)))
 (sX (Zd 4 SQ (UF (UE 1) (UF (UE 2) (UF (US Ur (X6 4)) (UF (UN Kn (UV (UF (UJ .none) (UG))) (KH 4)) (UG)))))) λd _=>.rt d)
 (sNx))
 (UL (sIf (Kp oEq 0 (UJ (.int 2)))
 (sX (Zd 2 SR (UF (UE 1) (UF (UE 2) (UG)))) λd _=>.rt d)
 (sNx))
 (UL (sIf (Kp oEq 0 (UJ (.int 3)))
 (sX (Zd 3 SJ (UF (UE 1) (UF (UE 2) (UF (US Ur (X6 4)) (UG))))) λd _=>.rt d)
 (sNx))
 (UL (sIf (Za (Kp oEq 0 (UJ (.int 4))) (US (λd=>!isNon d) (UE 3)))
 (sX (Zd 4 SO (UF (UE 1) (UF (UE 2) (UF (UQ 3 (UJ (.int 0))) (UF (UQ 3 (UJ (.int 1))) (UG)))))) λd _=>.rt d)
 (sNx))
 (sX (Zd 2 ZX (UF (UE 1) (UF (UE 2) (UG)))) λd _=>.rt d)))))
noncomputable def WB:w8->Option XR:=K4 GA Nw
noncomputable abbrev Sbt:Stmt:=top 61
noncomputable abbrev N_bt:List Str:=["_law_way", "_law_wishes_here", "_law_aim_here", "_law_pair", "_law_dealing", "_law_found", "e"]
theorem Hbt:NmF Sbt N_bt:=KE (by decide +kernel)
noncomputable def Wi:SM:=
 UL (K2 5 (UW (UF (UJ (.str "let")) (UG)) λxs=>if xs.length<=1000000 then UJ xs else λ_=>.bad))
 (UL (WF 6 "NoAim" (K2 5 (UW (UF (UJ (.str "aim")) (UF (UW (UE 6) λd=>UX (Wh "part" d)) (UG))) λxs=>if xs.length<=1000000 then UJ xs else λ_=>.bad)) "NoWishes" (K2 5 (UW (UF (UJ (.str "wishes")) (UF (UW (UE 6) λd=>UX (Wh "part" d)) (UF (UW (UE 6) λd=>UX (Wh "number" d)) (UG)))) λxs=>if xs.length<=1000000 then UJ xs else λ_=>.bad)) (VT 5 (Zd 5 WB (UF (UE 0) (UF (UE 1) (UF (UE 2) (UF (UE 3) (UF (UE 4) (UG)))))))))
 (UR (UE 5)))
noncomputable def ZZ:w8->yb:=U4 N_bt Wi
noncomputable abbrev Sbq:Stmt:=top 58
abbrev N_bq:List Str:=["_law_thing", "_law_most"]
theorem Hbq:NmF Sbq N_bq:=KE (by decide +kernel)
noncomputable def Tw:SM:=
 UR (WH (US (λd=>.bool (Kd d "int")) (UE 0)) (WH (Rm (US (λd=>.bool (Kd d "bool")) (UE 0))) (WH (US Us (UN (oIB λi j=>decide (i<=j)) (UJ (.int 0)) (UE 0))) (US Us (Kp (oIB λi j=>decide (i<j)) 0 (UE 1))))))
noncomputable def ZG:w8->yb:=U4 N_bq Tw
noncomputable abbrev Sbu:Stmt:=top 62
noncomputable abbrev N_bu:List Str:=["_law_ranks", "_law_many", "_law_seen", "_law_row", "_law_one"]
theorem Hbu:NmF Sbu N_bu:=KE (by decide +kernel)
noncomputable def Y6:SM:=
 UL (sIf (mOr (U5 (KO (UP 2 ZG (UF (UE 4) (UF (UE 1) (UG)))))) (VE oIn (UE 4) 2))
 (UR (UJ (.bool w6)))
 (sNx))
 (ZP 2 (UE 4))
noncomputable def YV:SM:=
 UL (sIf (mOr (U5 (KO (US (λd=>.bool (Kd d "list")) (UE 3)))) (Kp To 3 (UV (UG))))
 (UR (UJ (.bool w6)))
 (sNx))
 (Km (KJ (UE 3)) (gN 4) Y6)
noncomputable def Tu:SM:=
 UL (sIf (mOr (U5 (KO (US (λd=>.bool (Kd d "list")) (UE 0)))) (UN (oIB λi j=>decide (j<i)) (KH 0) (UJ (.int 5))))
 (UR (UJ (.bool w6)))
 (sNx))
 (UL (K2 2 (UW (UG) λxs=>if xs.length<=1000000 then UJ xs else λ_=>.bad))
 (UL (Km (KJ (UE 0)) (gN 3) YV)
 (UR (UJ (.bool w5)))))
noncomputable def Vn:w8->yb:=U4 N_bu Tu
noncomputable abbrev Sbv:Stmt:=top 63
noncomputable abbrev N_bv:List Str:=["_law_thing", "_law_copies", "_law_lists", "_law_number", "_law_many", "_law_ranks"]
theorem Hbv:NmF Sbv N_bv:=KE (by decide +kernel)
noncomputable def MD:SM:=
 sIf (U5 (KO (UP 2 Vn (UF (UE 5) (UF (KH 1) (UG))))))
 (UR (UV (UF (UJ (.str "lists")) (UF (UE 3) (UG)))))
 (sNx)
noncomputable def MC:SM:=
 sIf (U5 (KO (UP 2 ZG (UF (UE 4) (UF (UJ (.int 8)) (UG))))))
 (UR (UV (UF (UJ (.str "copies")) (UF (UE 3) (UG)))))
 (sNx)
noncomputable def Tt:SM:=
 UL (sIf (mOr (U5 (KO (US (λd=>.bool (Kd d "tuple")) (UE 0)))) (UN oNe (KH 0) (UJ (.int 2))))
 (UR (UV (UF (UJ (.str "wishes")) (UF (UJ .none) (UG)))))
 (sNx))
 (UL (K3 (UE 0) (gT 2 (gNC (gN 1) (gNC (gN 2) (gN0)))))
 (UL (sIf (mOr (U5 (KO (US (λd=>.bool (Kd d "list")) (UE 1)))) (U5 (XV (oIB λi j=>decide (i<=j)) (oIB λi j=>decide (i<=j)) (UJ (.int 1)) (KH 1) (UJ (.int 6)))))
 (UR (UV (UF (UJ (.str "copies")) (UF (UJ .none) (UG)))))
 (sNx))
 (UL (Km (Yy (UF (UE 1) (UG))) (gT 2 (gNC (gN 3) (gNC (gN 4) (gN0)))) MC)
 (UL (sIf (mOr (U5 (KO (US (λd=>.bool (Kd d "list")) (UE 2)))) (U5 (XV (oIB λi j=>decide (i<=j)) (oIB λi j=>decide (i<=j)) (UJ (.int 1)) (KH 2) (UJ (.int 7)))))
 (UR (UV (UF (UJ (.str "lists")) (UF (UJ .none) (UG)))))
 (sNx))
 (UL (Km (Yy (UF (UE 2) (UG))) (gT 2 (gNC (gN 3) (gNC (gN 5) (gN0)))) MD)
 (UR (UV (UG))))))))
noncomputable def Vm:w8->yb:=U4 N_bv Tt
noncomputable abbrev Sbf:Stmt:=top 47
noncomputable abbrev N_bf:List Str:=["_law_cell", "_law_salt", "_law_sizes", "_law_number", "_law_left", "_law_found", "_law_k", "_law_one"]
theorem Hbf:NmF Sbf N_bf:=KE (by decide +kernel)
noncomputable def OB:SM:=
 sIf (Za (Kp (oIB λi j=>decide (j<=i)) 3 (UN YO (UJ (.int 10)) (UJ (.int 18)))) (Kp (oIB λi j=>decide (j<i)) 4 (UJ (.int 0))))
 (UL (ZP 5 (UN KZ (UE 4) (UQ 2 (UE 6))))
 (U3 4 (UN Y7 (UE 4) (UQ 2 (UE 6)))))
 (UL (U3 7 (UN KZ (UN U0 (UN U0 (UN U0 (UE 3) (UN Kn (UJ (.int 7919)) (UE 1))) (UN Kn (UN Kn (UJ (.int 101)) (UE 6)) (UE 6))) (UE 6)) (UJ (.int 2147483647))))
 (UL (U3 7 (UN KZ (UN Kn (UE 7) (UJ (.int 48271))) (UJ (.int 2147483647))))
 (UL (U3 7 (UN KZ (UN Kn (UN KZ (UN Kn (UE 7) (UE 7)) (UJ (.int 2147483629))) (UJ (.int 48271))) (UJ (.int 2147483647))))
 (ZP 5 (UN KZ (UN Y7 (UE 7) (UJ (.int 16))) (UQ 2 (UE 6)))))))
noncomputable def TL:SM:=
 UL (U3 3 (K5 RZ (UF (UE 0) (UF (UN Zk (ZD (UJ (.int 1))) (UE 0)) (UG)))))
 (UL (U3 4 (UE 3))
 (UL (K2 5 (UW (UG) λxs=>if xs.length<=1000000 then UJ xs else λ_=>.bad))
 (UL (Km (Wu (UF (KH 2) (UG))) (gN 6) OB)
 (UR (UE 5)))))
noncomputable def Zp:w8->yb:=U4 N_bf TL
noncomputable abbrev Gg:Stmt:=top 52
noncomputable abbrev Nr:List Str:=["_law_wishes_here", "_law_lists", "_law_ranks"]
theorem GE:NmF Gg Nr:=KE (by decide +kernel)
noncomputable def Fn:SM:=
 ZP 1 (US Ur (Zr (KJ (UE 2)) 1 (gN 3) (UJ w5) (US Ur (X6 3))))
noncomputable def P5:SM:=
 UL (K2 1 (UW (UG) λxs=>if xs.length<=1000000 then UJ xs else λ_=>.bad))
 (UL (Km (KJ (UQ 0 (UJ (.int 1)))) (gN 2) Fn)
 (sNx))
noncomputable def Ge:M D:=
 Ro (UW (UF (UQ 0 (UJ (.int 0))) (UG)) λxs=>UX (Xl xs)) 1
noncomputable def RL:w8->yb:=SU Nr P5 Ge
noncomputable abbrev Sbl:Stmt:=top 53
noncomputable abbrev N_bl:List Str:=["_law_wishes_here", "_law_cell", "_law_salt", "_law_digits", "_law_copies", "_law_lists", "_law_way", "_law_thing", "_law_asker"]
theorem Hbl:NmF Sbl N_bl:=KE (by decide +kernel)
noncomputable def TD:SM:=
 UL (U3 3 (UP 3 Zp (UF (UE 1) (UF (UE 2) (UF (UV (UF (UJ (.int 11)) (UF (UJ (.int 42)) (UF (UJ (.int 42)) (UG))))) (UG))))))
 (UL (Ss 4 5 (UP 1 RL (UF (UE 0) (UG))))
 (UL (U3 6 (UQ 3 (UJ (.int 0))))
 (UL (U3 7 (UN KZ (UQ 3 (UJ (.int 1))) (KH 4)))
 (UL (U3 8 (UN KZ (UQ 3 (UJ (.int 2))) (KH 5)))
 (UL (sIf (Kp oEq 6 (UJ (.int 0)))
 (UR (UV (UF (UE 4) (UF (UE 5) (UG)))))
 (sNx))
 (UL (sIf (Kp oEq 6 (UJ (.int 1)))
 (UR (Kx (UF (UE 4) (UF (UE 5) (UF (UV (UG)) (UG))))))
 (sNx))
 (UL (sIf (Kp oEq 6 (UJ (.int 2)))
 (UR (UN oIx (UV (UF (UJ .none) (UF (UJ (.str "wishes")) (UF (UJ (.int 3)) (UF (UE 4) (UF (Kx (UF (UV (UG)) (UF (UV (UG)) (UG)))) (UF (Kx (UF (UE 4) (UG))) (UG)))))))) (UN KZ (UQ 3 (UJ (.int 1))) (UJ (.int 6)))))
 (sNx))
 (UL (sIf (Kp oEq 6 (UJ (.int 3)))
 (X4 4 (UE 7) (UN oIx (UV (UF (ZD (UJ (.int 1))) (UF (UJ (.int 8)) (UF (UJ (.bool w5)) (UF (UJ .none) (UF (UJ (.str "1")) (UF (UN YO (UJ (.int 10)) (UJ (.int 40))) (UG)))))))) (UN KZ (UQ 3 (UJ (.int 2))) (UJ (.int 6)))))
 (sNx))
 (UL (sIf (Kp oEq 6 (UJ (.int 4)))
 (K2 4 (UW (UG) λxs=>if xs.length<=1000000 then UJ xs else λ_=>.bad))
 (sNx))
 (UL (sIf (Kp oEq 6 (UJ (.int 5)))
 (K2 5 (UW (UG) λxs=>if xs.length<=1000000 then UJ xs else λ_=>.bad))
 (sNx))
 (UL (sIf (Kp oEq 6 (UJ (.int 6)))
 (X4 5 (UE 8) (UV (UF (UV (UF (KH 4) (UG))) (UG))))
 (sNx))
 (UL (sIf (Kp oEq 6 (UJ (.int 7)))
 (X4 5 (UE 8) (UV (UF (UV (UF (UE 7) (UG))) (UF (UV (UF (UE 7) (UG))) (UG)))))
 (sNx))
 (UL (sIf (Kp oEq 6 (UJ (.int 8)))
 (X4 5 (UE 8) (UV (UF (UV (UF (UE 7) (UG))) (UF (UV (UG)) (UG)))))
 (sNx))
 (UL (sIf (Kp oEq 6 (UJ (.int 9)))
 (X4 5 (UE 8) (UV (UF (Kx (UF (UE 7) (UG))) (UG))))
 (sNx))
 (UL (sIf (Kp oEq 6 (UJ (.int 10)))
 (U3 5 (UN U0 (UE 5) (UN Kn (UV (UF (UV (UG)) (UG))) (UJ (.int 7)))))
 (sNx))
 (UR (Kx (UF (UE 4) (UF (UE 5) (UG))))))))))))))))))))
noncomputable def Vr:w8->yb:=U4 N_bl TD
noncomputable abbrev F_bk:w8->yb:=RL
noncomputable abbrev Sbr:Stmt:=top 59
noncomputable abbrev N_br:List Str:=["_law_wishes_here", "_law_thing", "_law_one", "_law_at"]
theorem Hbr:NmF Sbr N_br:=KE (by decide +kernel)
noncomputable def OA:SM:=
 sIf (mOr (U5 (KO (UP 2 ZG (UF (UE 2) (UF (K5 U7 (UF (UQ 0 (UJ (.int 1))) (UG))) (UG)))))) (Kp oIn 2 (Zg (UQ 1 (UJ (.int 2))) (UJ w4) (UW (UE 3) λx=>UX (ZU x)))))
 (UR (UJ (.str "turns")))
 (sNx)
noncomputable def MB:SM:=
 sIf (Za (US (λd=>!isNon d) (UE 2)) (U5 (KO (UP 2 ZG (UF (UE 2) (UF (K5 U7 (UF (UQ 0 (UJ (.int 0))) (UG))) (UG)))))))
 (UR (UJ (.str "old")))
 (sNx)
noncomputable def Tv:SM:=
 UL (sIf (mOr (U5 (KO (US (λd=>.bool (Kd d "tuple")) (UE 1)))) (UN oNe (KH 1) (UJ (.int 3))))
 (UR (UJ (.str "aim")))
 (sNx))
 (UL (sIf (mOr (U5 (KO (US (λd=>.bool (Kd d "str")) (UQ 1 (UJ (.int 0)))))) (UN YQ (UQ 1 (UJ (.int 0))) (UV (UF (UJ (.str "firsts")) (UF (UJ (.str "full")) (UF (UJ (.str "lasts")) (UG)))))))
 (UR (UJ (.str "order")))
 (sNx))
 (UL (sIf (US (λd=>!isNon d) (UQ 1 (UJ (.int 1))))
 (UL (sIf (mOr (U5 (KO (US (λd=>.bool (Kd d "list")) (UQ 1 (UJ (.int 1)))))) (UN oNe (K5 U7 (UF (UQ 1 (UJ (.int 1))) (UG))) (K5 U7 (UF (UQ 0 (UJ (.int 1))) (UG)))))
 (UR (UJ (.str "old")))
 (sNx))
 (Km (KJ (UQ 1 (UJ (.int 1)))) (gN 2) MB))
 (sNx))
 (UL (sIf (U5 (KO (US (λd=>.bool (Kd d "list")) (UQ 1 (UJ (.int 2))))))
 (UR (UJ (.str "turns")))
 (sNx))
 (UL (Km (Yy (UF (UQ 1 (UJ (.int 2))) (UG))) (gT 2 (gNC (gN 3) (gNC (gN 2) (gN0)))) OA)
 (UR (UJ .none))))))
noncomputable def Vo:w8->yb:=U4 N_br Tv
noncomputable abbrev Sbo:Stmt:=top 56
noncomputable abbrev N_bo:List Str:=["_law_askers", "_law_turns", "_law_way", "_law_place", "_law_odd", "_law_some", "_law_at"]
theorem Hbo:NmF Sbo N_bo:=KE (by decide +kernel)
noncomputable def Tz:SM:=
 UL (K2 5 (UW (UF (UJ .none) (UF (UJ (.bool w5)) (UF (UJ (.bool w6)) (UF (ZD (UJ (.int 1))) (UF (UE 0) (UF (UJ (.str "0")) (UF (UV (UF (UJ (.int 0)) (UG))) (UF (Kx (UF (UJ (.int 0)) (UG))) (UF (UN U0 (UE 0) (UJ (.int 7))) (UF (UN YO (UJ (.int 10)) (UJ (.int 40))) (UG))))))))))) λxs=>if xs.length<=1000000 then UJ xs else λ_=>.bad))
 (UL (U3 6 (UN KZ (UE 3) (UN U0 (KH 1) (UJ (.int 1)))))
 (UL (sIf (Kp oEq 2 (UJ (.int 3)))
 (UR (UN U0 (UN U0 (Zg (UE 1) (UJ w4) (UW (UE 6) λx=>UX (ZU x))) (UV (UF (UQ 5 (UE 4)) (UG)))) (Zg (UE 1) (UW (UE 6) λx=>UX (ZU x)) (UJ w4))))
 (sNx))
 (UL (sIf (Za (Kp oEq 2 (UJ (.int 4))) (Kp oNe 1 (UV (UG))))
 (UR (UN U0 (UN U0 (Zg (UE 1) (UJ w4) (UW (UE 6) λx=>UX (ZU x))) (UV (UF (UQ 1 (UN KZ (UE 4) (KH 1))) (UG)))) (Zg (UE 1) (UW (UE 6) λx=>UX (ZU x)) (UJ w4))))
 (sNx))
 (UL (sIf (Kp oEq 2 (UJ (.int 5)))
 (UR (K5 Re (UF (UE 1) (UG))))
 (sNx))
 (UL (sIf (Kp oEq 2 (UJ (.int 6)))
 (UR (UQ 5 (UE 4)))
 (sNx))
 (UR (US Ur (X6 1))))))))
noncomputable def Wl:w8->yb:=U4 N_bo Tz
noncomputable abbrev Sbn:Stmt:=top 55
noncomputable abbrev N_bn:List Str:=["_law_wishes_here", "_law_old", "_law_way", "_law_place", "_law_odd", "_law_askers", "_law_things", "_law_some", "_law_row"]
theorem Hbn:NmF Sbn N_bn:=KE (by decide +kernel)
noncomputable def TB:SM:=
 UL (U3 5 (K5 U7 (UF (UQ 0 (UJ (.int 1))) (UG))))
 (UL (U3 6 (K5 U7 (UF (UQ 0 (UJ (.int 0))) (UG))))
 (UL (K2 7 (UW (UF (UJ .none) (UF (UJ (.bool w5)) (UF (UJ (.bool w6)) (UF (ZD (UJ (.int 1))) (UF (UE 6) (UF (UJ (.str "0")) (UF (UV (UF (UJ (.int 0)) (UG))) (UF (Kx (UF (UJ (.int 0)) (UG))) (UF (UN U0 (UE 6) (UJ (.int 7))) (UF (UN YO (UJ (.int 10)) (UJ (.int 40))) (UG))))))))))) λxs=>if xs.length<=1000000 then UJ xs else λ_=>.bad))
 (UL (K2 8 (Rf (UV (UF (UJ .none) (UG))) (UE 5)))
 (UL (sIf (US (λd=>!isNon d) (UE 1))
 (K2 8 (X6 1))
 (sNx))
 (UL (sIf (Kp oEq 2 (UJ (.int 3)))
 (UL (X4 8 (UN KZ (UE 3) (UE 5)) (UQ 7 (UE 4)))
 (UR (UE 8)))
 (sNx))
 (UL (sIf (Kp oEq 2 (UJ (.int 4)))
 (UR (UN oIx (UV (UF (Zg (UE 8) (UW (UJ (.int 1)) λx=>UX (ZU x)) (UJ w4)) (UF (UN U0 (UE 8) (UV (UF (UJ .none) (UG)))) (UG)))) (UN KZ (UE 4) (UJ (.int 2)))))
 (sNx))
 (UL (sIf (Kp oEq 2 (UJ (.int 5)))
 (UR (K5 Re (UF (UE 8) (UG))))
 (sNx))
 (UL (sIf (Kp oEq 2 (UJ (.int 6)))
 (UR (UQ 7 (UE 4)))
 (sNx))
 (UR (UE 1))))))))))
noncomputable def XF:w8->yb:=U4 N_bn TB
noncomputable abbrev Sbp:Stmt:=top 57
noncomputable abbrev N_bp:List Str:=["_law_wishes_here", "_law_aim_here", "_law_cell", "_law_salt", "_law_digits", "_law_order", "_law_old", "_law_turns", "_law_words", "_law_some"]
theorem Hbp:NmF Sbp N_bp:=KE (by decide +kernel)
noncomputable def Tx:SM:=
 UL (U3 4 (UP 3 Zp (UF (UE 2) (UF (UE 3) (UF (UV (UF (UJ (.int 4)) (UF (UJ (.int 13)) (UF (UJ (.int 7)) (UF (UJ (.int 8)) (UF (UJ (.int 10)) (UF (UJ (.int 7)) (UF (UJ (.int 8)) (UF (UJ (.int 10)) (UF (UJ (.int 6)) (UF (UJ (.int 7)) (UG)))))))))))) (UG))))))
 (UL (K3 (UE 1) (gT 3 (gNC (gN 5) (gNC (gN 6) (gNC (gN 7) (gN0))))))
 (UL (sIf (UN oEq (UQ 4 (UJ (.int 0))) (UJ (.int 1)))
 (UL (K2 8 (UW (UF (UJ (.str "first")) (UF (UJ (.str "Full")) (UF (UJ (.str "")) (UF (UJ (.str "lasts ")) (UF (UJ (.str " full")) (UF (UJ (.str "firstsfull")) (UF (UJ (.str "FIRSTS")) (UF (UJ (.str "l")) (UG))))))))) λxs=>if xs.length<=1000000 then UJ xs else λ_=>.bad))
 (U3 5 (UN oIx (UN U0 (UE 8) (UV (UF (UJ .none) (UF (UJ (.int 1)) (UF (UJ (.bool w5)) (UF (UV (UF (UJ (.str "full")) (UG))) (UF (Kx (UF (UJ (.str "lasts")) (UG))) (UG)))))))) (UQ 4 (UJ (.int 1))))))
 (sNx))
 (UL (U3 6 (UP 5 XF (UF (UE 0) (UF (UE 6) (UF (UQ 4 (UJ (.int 2))) (UF (UQ 4 (UJ (.int 3))) (UF (UQ 4 (UJ (.int 4))) (UG))))))))
 (UL (U3 7 (UP 5 Wl (UF (K5 U7 (UF (UQ 0 (UJ (.int 1))) (UG))) (UF (UE 7) (UF (UQ 4 (UJ (.int 5))) (UF (UQ 4 (UJ (.int 6))) (UF (UQ 4 (UJ (.int 7))) (UG))))))))
 (UL (sIf (UN oEq (UQ 4 (UJ (.int 8))) (UJ (.int 1)))
 (UL (K2 9 (UW (UF (UV (UF (UE 5) (UF (UE 6) (UF (UE 7) (UG))))) (UF (Kx (UF (UE 5) (UF (UE 6) (UG)))) (UF (Kx (UF (UE 5) (UF (UE 6) (UF (UE 7) (UF (UJ .none) (UG)))))) (UG)))) λxs=>if xs.length<=1000000 then UJ xs else λ_=>.bad))
 (UL (U3 9 (UN U0 (UE 9) (UV (UF (UJ .none) (UF (UE 5) (UF (UJ (.int 3)) (UF (SV [(UJ (.str "order"),UE 5)]) (UG))))))))
 (UR (UQ 9 (UQ 4 (UJ (.int 9)))))))
 (sNx))
 (UR (Kx (UF (UE 5) (UF (UE 6) (UF (UE 7) (UG)))))))))))
noncomputable def Vp:w8->yb:=U4 N_bp Tx
noncomputable abbrev Sbh:Stmt:=top 49
noncomputable abbrev N_bh:List Str:=["_law_wishes_here", "_law_asker"]
theorem Hbh:NmF Sbh N_bh:=KE (by decide +kernel)
noncomputable def TJ:SM:=
 UR (K5 VU (UF (K5 Sm (UF (UN oIx (UQ 0 (UJ (.int 1))) (UE 1)) (UF (UV (UG)) (UG)))) (UG)))
noncomputable def XG:w8->yb:=U4 N_bh TJ
noncomputable abbrev Sbm:Stmt:=top 54
noncomputable abbrev N_bm:List Str:=["_law_wishes_here", "_law_found", "_law_asker"]
theorem Hbm:NmF Sbm N_bm:=KE (by decide +kernel)
noncomputable def MA:SM:=
 Wf 1 (Zr (KJ (UP 2 XG (UF (UE 0) (UF (UE 2) (UG))))) 1 (gN 3) (UJ w5) (Kx (UF (UE 2) (UF (UE 3) (UG)))))
noncomputable def TC:SM:=
 UL (K2 1 (UW (UG) λxs=>if xs.length<=1000000 then UJ xs else λ_=>.bad))
 (UL (Km (Wu (UF (K5 U7 (UF (UQ 0 (UJ (.int 1))) (UG))) (UG))) (gN 2) MA)
 (UR (UE 1)))
noncomputable def Vq:w8->yb:=U4 N_bm TC
noncomputable abbrev Sbj:Stmt:=top 51
noncomputable abbrev N_bj:List Str:=["_law_wishes_here", "_law_cell", "_law_salt", "_law_left", "_law_digits", "_law_found", "_law_asker", "_law_some", "_law_thing"]
theorem Hbj:NmF Sbj N_bj:=KE (by decide +kernel)
noncomputable def Oz:SM:=
 UL (U3 7 (UN U0 (US Ur (Ry (KJ (UP 2 XG (UF (UE 0) (UF (UE 6) (UG))))) 1 (gN 9) (UN (oIB λi j=>decide (j<i)) (UQ 3 (UE 9)) (UJ (.int 0))) (UE 9))) (UV (UF (UJ .none) (UG)))))
 (UL (U3 8 (UQ 7 (UN KZ (UQ 4 (UE 6)) (KH 7))))
 (UL (sIf (US (λd=>!isNon d) (UE 8))
 (X4 3 (UE 8) (UN Zk (UQ 3 (UE 8)) (UJ (.int 1))))
 (sNx))
 (ZP 5 (UE 8))))
noncomputable def TF:SM:=
 UL (K2 3 (UW (UF (UQ 0 (UJ (.int 0))) (UG)) λxs=>UX (Xl xs)))
 (UL (U3 4 (UP 3 Zp (UF (UE 1) (UF (UE 2) (UF (UN Kn (UV (UF (UJ (.int 61)) (UG))) (K5 U7 (UF (UQ 0 (UJ (.int 1))) (UG)))) (UG))))))
 (UL (K2 5 (UW (UG) λxs=>if xs.length<=1000000 then UJ xs else λ_=>.bad))
 (UL (Km (Wu (UF (K5 U7 (UF (UQ 0 (UJ (.int 1))) (UG))) (UG))) (gN 6) Oz)
 (UR (UE 5)))))
noncomputable def Vs:w8->yb:=U4 N_bj TF
noncomputable abbrev Sbi:Stmt:=top 50
noncomputable abbrev N_bi:List Str:=["_law_wishes_here", "_law_cell", "_law_salt", "_law_askers", "_law_sizes", "_law_digits", "_law_old", "_law_turns", "_law_digit"]
theorem Hbi:NmF Sbi N_bi:=KE (by decide +kernel)
noncomputable def Pn:SM:=
 U3 8 (UN KZ (UN U0 (UE 8) (UJ (.int 1))) (UE 3))
noncomputable def Mz:SM:=
 UL (Wx (VE oIn (UE 8) 7) Pn 1000)
 (ZP 7 (UE 8))
noncomputable def TH:SM:=
 UL (U3 3 (K5 U7 (UF (UQ 0 (UJ (.int 1))) (UG))))
 (UL (U3 4 (UN U0 (UV (UF (UJ (.int 3)) (UF (UJ (.int 2)) (UF (UN U0 (UE 3) (UJ (.int 1))) (UG))))) (UN Kn (UV (UF (UN U0 (K5 U7 (UF (UQ 0 (UJ (.int 0))) (UG))) (UJ (.int 1))) (UG))) (UE 3))))
 (UL (U3 5 (UP 3 Zp (UF (UE 1) (UF (UE 2) (UF (UN U0 (UE 4) (UN Kn (UV (UF (UE 3) (UG))) (UE 3))) (UG))))))
 (UL (U3 6 (UJ .none))
 (UL (sIf (UN oEq (UQ 5 (UJ (.int 1))) (UJ (.int 1)))
 (K2 6 (Zr (KJ (Zg (UE 5) (UW (UJ (.int 3)) λx=>UX (ZU x)) (UW (UN U0 (UJ (.int 3)) (UE 3)) λx=>UX (ZU x)))) 1 (gN 9) (UJ w5) (UN oIx (UV (UF (UJ .none) (UF (UN Zk (UE 9) (UJ (.int 1))) (UG)))) (K5 SX (UF (US Us (Kp (oIB λi j=>decide (j<i)) 9 (UJ (.int 0)))) (UG))))))
 (sNx))
 (UL (K2 7 (UW (UG) λxs=>if xs.length<=1000000 then UJ xs else λ_=>.bad))
 (UL (Km (KJ (Zg (UE 5) (UW (UN U0 (UJ (.int 3)) (UE 3)) λx=>UX (ZU x)) (UW (UN U0 (UN U0 (UJ (.int 3)) (UE 3)) (UQ 5 (UJ (.int 2)))) λx=>UX (ZU x)))) (gN 8) Mz)
 (UR (Kx (UF (UN oIx (UV (UF (UJ (.str "firsts")) (UF (UJ (.str "full")) (UF (UJ (.str "lasts")) (UG))))) (UQ 5 (UJ (.int 0)))) (UF (UE 6) (UF (UE 7) (UG))))))))))))
noncomputable def Vt:w8->yb:=U4 N_bi TH
noncomputable abbrev Sbg:Stmt:=top 48
noncomputable abbrev N_bg:List Str:=["_law_script", "_law_at", "_law_most_things", "_law_most_askers", "_law_most_ranks", "_law_sizes", "_law_digits", "_law_copies", "_law_lists", "_law_asker", "_law_cell", "_law_places", "_law_ranks", "_law_rank", "_law_row"]
theorem Hbg:NmF Sbg N_bg:=KE (by decide +kernel)
noncomputable def Oy:SM:=
 UL (K2 14 (Zr (Wu (UF (KH 7) (UG))) 1 (gN 15) (UN oEq (UQ 11 (UE 15)) (UE 13)) (UE 15)))
 (sIf (Kp oNe 14 (UV (UG)))
 (ZP 12 (UN oIx (UV (UF (UE 14) (UF (Wj (UE 14) (UJ w4) (UJ w4) (UW (ZD (UJ (.int 1))) λx=>UX (ZU x))) (UG)))) (UQ 11 (ZD (UJ (.int 1))))))
 (sNx))
noncomputable def Ox:SM:=
 UL (U3 10 (UP 2 Yr (UF (UE 0) (UF (UN U0 (UN U0 (UE 1) (UJ (.int 1))) (UE 9)) (UG)))))
 (UL (U3 11 (UP 3 Zp (UF (UE 10) (UF (UN U0 (UN U0 (UN Kn (UJ (.int 11)) (UE 1)) (UN Kn (UJ (.int 3)) (UE 9))) (UJ (.int 1))) (UF (UN U0 (UN Kn (UV (UF (UN U0 (UE 4) (UJ (.int 1))) (UG))) (UE 2)) (UV (UF (UJ (.int 2)) (UG)))) (UG))))))
 (UL (K2 12 (UW (UG) λxs=>if xs.length<=1000000 then UJ xs else λ_=>.bad))
 (UL (Km (Rl (UF (UJ (.int 1)) (UF (UN U0 (UE 4) (UJ (.int 1))) (UG)))) (gN 13) Oy)
 (ZP 8 (UE 12)))))
noncomputable def TK:SM:=
 UL (U3 5 (UN U0 (UV (UF (UE 2) (UF (UE 3) (UG)))) (UN Kn (UV (UF (UJ (.int 11)) (UG))) (UE 2))))
 (UL (U3 6 (UP 3 Zp (UF (UP 2 Yr (UF (UE 0) (UF (UE 1) (UG)))) (UF (UE 1) (UF (UE 5) (UG))))))
 (UL (K2 7 (Zr (KJ (Zg (UE 6) (UW (UJ (.int 2)) λx=>UX (ZU x)) (UW (UN U0 (UJ (.int 3)) (UQ 6 (UJ (.int 0)))) λx=>UX (ZU x)))) 1 (gN 15) (UJ w5) (UN oIx (UV (UF (UJ (.int 1)) (UF (UJ (.int 1)) (UF (UJ (.int 2)) (UF (UJ (.int 0)) (UF (UJ (.int 3)) (UF (UJ (.int 7)) (UF (UJ (.int 1)) (UF (UJ (.int 4)) (UF (UJ (.int 5)) (UF (UJ (.int 6)) (UF (UJ (.int 1)) (UG))))))))))))) (UE 15))))
 (UL (K2 8 (UW (UG) λxs=>if xs.length<=1000000 then UJ xs else λ_=>.bad))
 (UL (Km (Wu (UF (UN U0 (UJ (.int 1)) (UQ 6 (UJ (.int 1)))) (UG))) (gN 9) Ox)
 (UR (Kx (UF (UE 7) (UF (UE 8) (UG)))))))))
noncomputable def Vu:w8->yb:=U4 N_bg TK
noncomputable abbrev Sbw:Stmt:=top 64
noncomputable abbrev N_bw:List Str:=["_law_script", "_law_wishes_here", "_law_aim_here", "_law_dealing", "_law_pair", "_law_first", "_law_k", "_law_cell", "_law_digits", "_law_odd", "_law_part_here", "_law_bad"]
theorem Hbw:NmF Sbw N_bw:=KE (by decide +kernel)
noncomputable def My:SM:=
 UL (U3 8 (UP 3 Zp (UF (UE 7) (UF (UN U0 (UJ (.int 31)) (UE 6)) (UF (UV (UF (UJ (.int 6)) (UF (UJ (.int 3)) (UG)))) (UG))))))
 (UL (U3 9 (UP 4 Vp (UF (UE 1) (UF (UE 2) (UF (UN Y7 (UE 7) (UJ (.int 18))) (UF (UN U0 (UJ (.int 40)) (UE 6)) (UG)))))))
 (UL (U3 10 (UP 2 Vo (UF (UE 1) (UF (UE 9) (UG)))))
 (UL (sIf (UN oEq (UQ 8 (UJ (.int 1))) (UJ (.int 0)))
 (UL (U3 11 (UP 3 Vr (UF (UE 1) (UF (UN Y7 (UE 7) (UJ (.int 18))) (UF (UN U0 (UJ (.int 50)) (UE 6)) (UG))))))
 (sIf (UN oNe (UP 5 ZZ (UF (UQ 8 (UJ (.int 0))) (UF (UE 11) (UF (UE 9) (UF (UE 4) (UF (UE 3) (UG))))))) (UN U0 (UV (UF (UJ (.str "wishes")) (UG))) (UP 1 Vm (UF (UE 11) (UG)))))
 (UR (UJ (.bool w6)))
 (sNx)))
 (sIf (US (λd=>!isNon d) (UE 10))
 (sIf (UN oNe (UP 5 ZZ (UF (UQ 8 (UJ (.int 0))) (UF (UP 1 F_bk (UF (UE 1) (UG))) (UF (UE 9) (UF (UE 4) (UF (UE 3) (UG))))))) (UV (UF (UJ (.str "aim")) (UF (UE 10) (UG)))))
 (UR (UJ (.bool w6)))
 (sNx))
 (sNx)))
 (sIf (UN oNe (UP 5 ZZ (UF (UQ 8 (UJ (.int 0))) (UF (UE 1) (UF (UE 2) (UF (UE 4) (UF (UE 3) (UG))))))) (UQ 5 (UQ 8 (UJ (.int 0)))))
 (UR (UJ (.bool w6)))
 (sNx)))))
noncomputable def Ts:SM:=
 UL (U3 1 (UP 5 Vu (UF (UE 0) (UF (UJ (.int 1)) (UF (UJ (.int 4)) (UF (UJ (.int 5)) (UF (UJ (.int 3)) (UG))))))))
 (UL (U3 2 (UP 3 Vt (UF (UE 1) (UF (UP 2 Yr (UF (UE 0) (UF (UJ (.int 0)) (UG)))) (UF (UJ (.int 5)) (UG))))))
 (UL (U3 3 (UP 3 Vs (UF (UE 1) (UF (UP 2 Yr (UF (UE 0) (UF (UJ (.int 3)) (UG)))) (UF (UJ (.int 2)) (UG))))))
 (UL (U3 4 (UN oIx (UN U0 (UP 1 Vq (UF (UE 1) (UG))) (UV (UF (UJ .none) (UG)))) (UJ (.int 0))))
 (UL (K2 5 (Zr (Wu (UF (UJ (.int 6)) (UG))) 1 (gN 12) (UJ w5) (UP 5 ZZ (UF (UE 12) (UF (UE 1) (UF (UE 2) (UF (UE 4) (UF (UE 3) (UG)))))))))
 (UL (Km (Yy (UF (UN U0 (UV (UF (UP 2 Yr (UF (UE 0) (UF (UJ (.int 2)) (UG)))) (UG))) (Zg (UE 0) (UW (UJ (.int 7)) λx=>UX (ZU x)) (UW (UJ (.int 63)) λx=>UX (ZU x)))) (UG))) (gT 2 (gNC (gN 6) (gNC (gN 7) (gN0)))) My)
 (UR (US Us (UN oEq (US Ur (Zr (KJ (UE 5)) 1 (gN 12) (UJ w5) (UQ 12 (UJ (.int 0))))) (UN Kn (UV (UF (UJ (.str "let")) (UG))) (UJ (.int 6)))))))))))
noncomputable def Vl:w8->yb:=U4 N_bw Ts
abbrev N_an:List Str:=["thing"]
noncomputable def g_an:SM:=
 sIf (U5 (KO (UP 1 XI (UF (UE 0) (UG)))))
 (X7)
 (sNx)
noncomputable def Vy:w8->yb:=U4 N_an g_an
noncomputable abbrev N_as:List Str:=["wishes", "thing", "copies", "lists", "order", "old", "turns"]
noncomputable def g_as:SM:=
 UL (YZ (UP 1 Yh (UF (UE 0) (UG))))
 (UL (sIf (mOr (U5 (KO (US (λd=>.bool (Kd d "tuple")) (UE 1)))) (UN oNe (KH 1) (UJ (.int 3))))
 (X7)
 (sNx))
 (UL (K3 (UE 0) (gT 2 (gNC (gN 2) (gNC (gN 3) (gN0)))))
 (UL (K3 (UE 1) (gT 3 (gNC (gN 4) (gNC (gN 5) (gNC (gN 6) (gN0))))))
 (UL (YZ (UP 1 Vy (UF (UE 4) (UG))))
 (UL (sIf (U5 (KO (UP 3 Xd (UF (UE 5) (UF (KH 3) (UF (KH 2) (UG)))))))
 (X7)
 (sNx))
 (sIf (U5 (KO (UP 2 Xc (UF (UE 6) (UF (KH 3) (UG))))))
 (X7)
 (sNx)))))))
noncomputable def XH:w8->yb:=U4 N_as g_as
noncomputable abbrev N_bb:List Str:=["wishes", "aim", "asker", "thing"]
noncomputable def g_bb:SM:=
 UL (YZ (UP 2 XH (UF (UE 0) (UF (UE 1) (UG)))))
 (UR (UP 5 ZH (UF (UE 0) (UF (UE 1) (UF (UP 1 Yg (UF (UE 0) (UG))) (UF (UE 2) (UF (UE 3) (UG))))))))
noncomputable def T9:w8->yb:=U4 N_bb g_bb
noncomputable abbrev N_bd:List Str:=["wishes", "aim", "dealing", "most"]
noncomputable def g_bd:SM:=
 UL (YZ (UP 2 XH (UF (UE 0) (UF (UE 1) (UG)))))
 (UL (U3 3 (UP 1 Yg (UF (UE 0) (UG))))
 (UR (K5 VW (UF (US Ur (Zr (Yy (UF (UE 2) (UG))) 2 (gT 2 (gNC (gN 4) (gNC (gN 5) (gN0)))) (US (λd=>!isNon d) (UE 5)) (UP 5 ZH (UF (UE 0) (UF (UE 1) (UF (UE 3) (UF (UE 4) (UF (UE 5) (UG))))))))) (UG)))))
noncomputable def F_bd:w8->yb:=U4 N_bd g_bd
noncomputable abbrev N_bc:List Str:=["wishes", "aim", "most"]
noncomputable def g_bc:SM:=
 UL (YZ (UP 2 XH (UF (UE 0) (UF (UE 1) (UG)))))
 (UL (U3 2 (UP 1 Yg (UF (UE 0) (UG))))
 (UR (US Ur (Zr (KJ (UP 1 Wp (UF (UE 0) (UG)))) 2 (gT 2 (gNC (gN 3) (gNC (gN 4) (gN0)))) (UJ w5) (Kx (UF (UE 3) (UF (UE 4) (UF (UP 5 ZH (UF (UE 0) (UF (UE 1) (UF (UE 2) (UF (UE 3) (UF (UE 4) (UG))))))) (UG)))))))))
noncomputable def F_bc:w8->yb:=U4 N_bc g_bc
noncomputable abbrev N_ap:List Str:=["order", "one", "other", "gap"]
noncomputable def Mx:SM:=
 sIf (Kp oNe 3 (UJ (.int 0)))
 (UR (mIf (Kp (oIB λi j=>decide (j<i)) 3 (UJ (.int 0))) (UJ (.str "better")) (UJ (.str "worse"))))
 (sNx)
noncomputable def g_ap:SM:=
 UL (YZ (UP 1 Vy (UF (UE 0) (UG))))
 (UL (Km (KJ (UP 3 Wn (UF (UE 0) (UF (UE 1) (UF (UE 2) (UG)))))) (gN 3) Mx)
 (UR (UJ (.str "alike"))))
noncomputable def Sb:w8->yb:=U4 N_ap g_ap
noncomputable abbrev N_au:List Str:=["wishes", "aim", "dealing", "order", "old", "turns", "got"]
noncomputable def g_au:SM:=
 UL (YZ (UP 2 XH (UF (UE 0) (UF (UE 1) (UG)))))
 (UL (K3 (UE 1) (gT 3 (gNC (gN 3) (gNC (gN 4) (gNC (gN 5) (gN0))))))
 (UL (U3 6 (UP 2 XJ (UF (UE 0) (UF (UE 2) (UG)))))
 (UR (Kx (UF (UP 2 Wo (UF (UE 0) (UF (UE 2) (UG)))) (UF (UP 2 Xb (UF (UE 4) (UF (UE 2) (UG)))) (UF (US Ur (Zr (KJ (UE 5)) 1 (gN 7) (UJ w5) (UQ 6 (UE 7)))) (UG))))))))
noncomputable def Vx:w8->yb:=U4 N_au g_au
noncomputable abbrev N_aw:List Str:=["wishes", "aim", "one", "other", "counts", "kept", "ranks", "other_counts", "other_kept", "other_ranks", "beside"]
noncomputable def g_aw:SM:=
 UL (K3 (UP 3 Vx (UF (UE 0) (UF (UE 1) (UF (UE 2) (UG))))) (gT 3 (gNC (gN 4) (gNC (gN 5) (gNC (gN 6) (gN0))))))
 (UL (K3 (UP 3 Vx (UF (UE 0) (UF (UE 1) (UF (UE 3) (UG))))) (gT 3 (gNC (gN 7) (gNC (gN 8) (gNC (gN 9) (gN0))))))
 (UL (U3 10 (UP 3 Sb (UF (UQ 1 (UJ (.int 0))) (UF (UE 4) (UF (UE 7) (UG))))))
 (UL (sIf (Kp oNe 10 (UJ (.str "alike")))
 (UR (US Us (Kp oEq 10 (UJ (.str "better")))))
 (sNx))
 (UL (sIf (Kp oNe 5 (UE 8))
 (UR (US Us (Kp (oIB λi j=>decide (j<i)) 5 (UE 8))))
 (sNx))
 (UR (UP 2 Wm (UF (UE 6) (UF (UE 9) (UG)))))))))
noncomputable def Sa:w8->yb:=U4 N_aw g_aw
set_option hygiene false in
local macro_rules | `(tactic| walk_at "g")=>`(tactic| first | exact gA nm rfl | exact DK rfl)
set_option hygiene false in
local macro_rules | `(tactic| walk_at "v")=>`(tactic| first | exact pq nm _ | exact pvb _)
set_option hygiene false in
local macro_rules | `(tactic| walk_at "b")=>`(tactic| first | ((with_reducible show OpB _ (compareOp CmpOp.Eq) _);first | exact B_eq hu | exact FJ hu) | ((with_reducible show OpB _ (compareOp CmpOp.NotEq) _);first | exact B_ne hu) | ((with_reducible show OpB _ (compareOp CmpOp.Lt) _);first | exact B_lt) | ((with_reducible show OpB _ (compareOp CmpOp.LtE) _);first | exact B_le) | ((with_reducible show OpB _ (compareOp CmpOp.Gt) _);first | exact B_gt) | ((with_reducible show OpB _ (compareOp CmpOp.GtE) _);first | exact B_ge) | ((with_reducible show OpB _ (compareOp CmpOp.In) _);first | exact B_in hu) | ((with_reducible show OpB _ (compareOp CmpOp.NotIn) _);first | exact EV hu))
set_option hygiene false in
local macro_rules | `(tactic| walk_at "m")=>`(tactic| first | exact Ch _ | exact rfl)
set_option hygiene false in
local macro_rules | `(tactic| walk_at "k")=>`(tactic| first | exact qS | exact jY | exact jX | exact jW)
set_option hygiene false in
local macro_rules | `(tactic| walk_at "w")=>`(tactic| first | exact PassesOwn.never | exact xj)
set_option hygiene false in
local macro_rules | `(tactic| walk_at "x")=>`(tactic| first | assumption | exact qv)
set_option hygiene false in
local macro_rules | `(tactic| walk_at "c")=>`(tactic| first | exact T.c_MOST_ASKERS | exact T.c_MOST_COPIES | exact T.c_MOST_RANKS | exact T.c_MOST_THINGS | exact T.c_ORDERS)
set_option hygiene false in
local macro_rules | `(tactic| walk_at "ck")=>`(tactic| first | exact T.x_NoAim | exact T.x_NoWishes)
set_option hygiene false in
local macro_rules | `(tactic| walk_at "e")=>`(tactic| first | ((with_reducible show PE _ (Expr.Name _ _) _);first | exact Md (pq nm _) | exact Md (pvb _) | exact EX (by walk_at "g") (by walk_at "c") | exact EU (by walk_at "g") (by walk_at "c")) | ((with_reducible show PE _ (Expr.Constant _ _ _) _);first | exact Dm | exact At | exact Dl | exact BW) | ((with_reducible show PE _ (Expr.Subscript _ _ _) _);first | refine C6 (by walk_at "v") ?_ (fun _ _=>rfl) | refine xT ?_ ?_ ?_ | refine BD ?_ ?_ ?_ ?_ | refine Dc ?_ ?_ (fun _ _=>rfl)) | ((with_reducible show PE _ (Expr.BinOp _ Operator.Add _ _) _);first | refine Sg Ey ?_ ?_) | ((with_reducible show PE _ (Expr.BinOp _ Operator.Sub _ _) _);first | refine Sg Ex ?_ ?_) | ((with_reducible show PE _ (Expr.BinOp _ Operator.Mult _ _) _);first | refine Sg Ew ?_ ?_) | ((with_reducible show PE _ (Expr.BinOp _ Operator.Mod _ _) _);first | refine Sg Ev ?_ ?_) | ((with_reducible show PE _ (Expr.BinOp _ Operator.FloorDiv _ _) _);first | refine Sg Eu ?_ ?_) | ((with_reducible show PE _ (Expr.BinOp _ Operator.Pow _ _) _);first | refine Sg Et ?_ ?_) | ((with_reducible show PE _ (Expr.Call (Expr.Name "len" _) _ _ _) _);first | refine qW (by walk_at "g") T.b_len (by walk_at "v") | refine Th NG (by walk_at "g") T.b_len boot_len ?_ | refine xS rfl (by walk_at "g") T.b_len (by walk_at "g") T.b_set ?_) | ((with_reducible show PE _ (Expr.Call (Expr.Name "max" _) _ _ _) _);first | refine Th (Db rfl) (by walk_at "g") T.b_max boot_max ?_ | refine Th (Dy rfl) (by walk_at "g") T.b_max boot_max ?_) | ((with_reducible show PE _ (Expr.Call (Expr.Name "sorted" _) _ _ _) _);first | refine Th Dr (by walk_at "g") T.b_sorted PyProof.Rows.boot_sorted ?_) | ((with_reducible show PE _ (Expr.Call (Expr.Name "sum" _) _ _ _) _);first | refine Th (Ds rfl) (by walk_at "g") T.b_sum PyProof.Rows.boot_sum ?_ | refine Th (Dx rfl) (by walk_at "g") T.b_sum PyProof.Rows.boot_sum ?_) | ((with_reducible show PE _ (Expr.Call (Expr.Name "all" _) _ _ _) _);first | refine Th (EZ rfl) (by walk_at "g") T.b_all PyProof.Rows.boot_all ?_) | ((with_reducible show PE _ (Expr.Call (Expr.Name "int" _) _ _ _) _);first | refine HK DA (by walk_at "g") T.b_int PyProof.Rows.boot_int ?_) | ((with_reducible show PE _ (Expr.Call (Expr.Name "tuple" _) _ _ _) _);first | refine HK FO (by walk_at "g") T.b_tuple vD ?_) | ((with_reducible show PE _ (Expr.Call (Expr.Name "isinstance" _) [_,Expr.Name "int" _] _ _) _);first | refine RM (c := "int") (by decide) (by walk_at "g") T.b_isinstance (by walk_at "g") T.b_int (by decide +kernel) ?_ (by decide) (by decide)) | ((with_reducible show PE _ (Expr.Call (Expr.Name "isinstance" _) [_,Expr.Name "list" _] _ _) _);first | refine RM (c := "list") (by decide) (by walk_at "g") T.b_isinstance (by walk_at "g") T.b_list (by decide +kernel) ?_ (by decide) (by decide)) | ((with_reducible show PE _ (Expr.Call (Expr.Name "isinstance" _) [_,Expr.Name "tuple" _] _ _) _);first | refine RM (c := "tuple") (by decide) (by walk_at "g") T.b_isinstance (by walk_at "g") T.b_tuple (by decide +kernel) ?_ (by decide) (by decide)) | ((with_reducible show PE _ (Expr.Call (Expr.Name "isinstance" _) [_,Expr.Name "bool" _] _ _) _);first | refine RM (c := "bool") (by decide) (by walk_at "g") T.b_isinstance (by walk_at "g") T.b_bool (by decide +kernel) ?_ (by decide) (by decide)) | ((with_reducible show PE _ (Expr.Call (Expr.Name "isinstance" _) [_,Expr.Name "str" _] _ _) _);first | refine RM (c := "str") (by decide) (by walk_at "g") T.b_isinstance (by walk_at "g") T.b_str (by decide +kernel) ?_ (by decide) (by decide)) | ((with_reducible show PE _ (Expr.Call (Expr.Name _ _) _ _ _) _);first | refine pdf (by assumption) hr (by walk_at "g") ?_) | ((with_reducible show PE _ (Expr.Call _ _ _ _) _);first | refine kB hu ?_ ?_ | refine kn ?_ ?_) | refine C7 ?_ | refine C8 ?_ | ((with_reducible show PE _ (Expr.Compare _ _ _ _) _);first | refine Ba ?_ | refine BE (by walk_at "b") (by walk_at "v") ?_ (by walk_at "m") | refine Am (by walk_at "b") ?_ ?_ (by walk_at "m") | refine xI (by walk_at "b") (by walk_at "b") ?_ ?_ ?_) | refine BH ?_ | refine CV ?_ | refine Bc ?_ | refine Be ?_ ?_ | refine Dd ?_ ?_ | refine Bd ?_ | refine xH ?_ ?_ ?_ | refine AI ?_ | refine AD ?_)
set_option hygiene false in
local macro_rules | `(tactic| walk_at "t")=>`(tactic| first | ((with_reducible show PT _ (Expr.Compare _ _ _ _) _);first | refine Bb ?_ | refine q8 ?_ | refine BF (by walk_at "b") (by walk_at "v") ?_ (by walk_at "m") | refine Bu (by walk_at "b") ?_ (by walk_at "v") (by walk_at "m") | refine An (by walk_at "b") ?_ ?_ (by walk_at "m") | refine xJ (by walk_at "b") (by walk_at "b") ?_ ?_ ?_) | ((with_reducible show PT _ (Expr.BoolOp _ _ _) _);refine PW.pt ?_) | refine Bg ?_ | refine Bf ?_)
set_option hygiene false in
local macro_rules | `(tactic| walk_at "l")=>`(tactic| first | refine FF nm (by walk_at "k") rfl ?_ ?_ (by decide +kernel) | refine jS (by walk_at "g") T.b_list (by walk_at "v") | refine qL (by walk_at "g") T.b_list ?_ | refine CY ?_ | refine Bt ?_ ?_)
set_option hygiene false in
local macro_rules | `(tactic| walk_at "i")=>`(tactic| first | refine xG (by walk_at "g") T.b_range ?_ | refine kf (by walk_at "g") T.b_range ?_ | refine CW (by walk_at "g") T.b_enumerate ?_ | refine qI (by walk_at "g") T.b_enumerate ?_ | refine DC (by walk_at "g") T.b_zip ?_ | refine DH ?_)
set_option hygiene false in
local macro_rules | `(tactic| walk_at "s")=>`(tactic| first | ((with_reducible show PS _ (Stmt.Assign [Expr.Name _ _] _ _) _);first | refine aSet nm ?_ | refine FE nm (by walk_at "k") rfl ?_ ?_ (by decide +kernel) | refine FH nm ?_ | refine FG nm ?_) | ((with_reducible show PS _ (Stmt.Assign _ _ _) _);first | refine E5 ?_ ?_ | refine BG ?_ (by walk_at "v") ?_ | refine Em rfl nm ?_ | refine Bo ?_ ?_) | refine Es ?_ ?_ ?_ | refine E8 ?_ | refine DO (by walk_at "w") rfl ?_ ?_ ?_ | ((with_reducible show PS _ (Stmt.Expr _ _) _);first | refine E3 (by walk_at "v") ?_ | refine Dt (by walk_at "v") ?_ | refine AJ ?_ | refine BK (by walk_at "v") ?_ | refine C1 ?_) | refine aAug nm By ?_ | refine Bq ?_ | exact qU | refine AL (by assumption) hr rfl (by walk_at "x") (by walk_at "g") ?_ | refine jf _ (by walk_at "w") ?_ ?_ | refine BL (by walk_at "ck") (by walk_at "g") (by walk_at "ck") (by walk_at "g") (nq nm) rfl rfl (fun KX' W pn hw=>?_) (fun a=>?_) (fun a=>?_))
set_option hygiene false in
local macro_rules | `(tactic| walk_at "d")=>`(tactic| (have hu:=hr.units;have hgd:=hr.gd;repeat' (first | ((with_reducible show PE _ _ (tD _ _ _ _));first | walk_at "e") | ((with_reducible show PA _ _ (tDs _ _ _ _));first | refine qZ ?_ ?_ | exact C9) | ((with_reducible show PSs _ _ (tS _ _ _ _ _));first | refine C2 ?_ ?_ | refine E9 ?_ | exact Da | exact sD_nevers) | ((with_reducible show PS _ _ _);walk_at "s") | ((with_reducible show PT _ _ _);walk_at "t") | ((with_reducible show PW _ _ _);first | refine Bh ?_ ?_ | refine De ?_ ?_ | refine q9 ?_ | refine Ak ?_) | ((with_reducible show PE _ _ (tL _ _ _ _));walk_at "l") | ((with_reducible show PI _ _ _ _);walk_at "i") | ((with_reducible show PG _ _ _);first | exact FI nm | exact En | refine E6 rfl ?_) | ((with_reducible show PGs _ _ _);first | exact E7 | refine C0 ?_ ?_) | ((with_reducible show PO _ _ _);first | exact qY | refine qX ?_) | ((with_reducible show YS _ _ _ _ _ _ _ _ _);refine fun cl C s0 H0 ex=>⟨fun B' G'=>?_,fun B' G'=>?_,?_⟩) | ((with_reducible show Xa _ _ _);first | exact CQ | refine BI ?_) | ((with_reducible show Ra _ _ _ _ _ _);first | refine j4 rfl rfl rfl fun B' G'=>?_ | refine jZ rfl rfl rfl rfl (fun _=>rfl) (fun B' G'=>?_) (fun B' G'=>?_) (fun B' G'=>?_) ?_) | ((with_reducible show PE _ _ (tX _ _ _ _ _));refine AK (by assumption) hr (by walk_at "x") (by walk_at "g") ?_) | ((with_reducible show PE _ _ (tT _ _ _ _ _));first | refine AC (by assumption) hr (by walk_at "g") ?_ | exact peT_nil) | ((with_reducible show DPs _ _ _ _ _ _);first | exact BQ | refine AE (fun B'=>?_) (fun B'=>?_) ?_) | ((with_reducible show PSs _ _ (tST _ _ _ _ _ _));first | refine DP (jr ?_ (by walk_at "v")) | refine BP ?_ ?_))))
section
variable{P:Ug}{w:World}{K:Frag}{mg:Str->yc}{base:Heap}{f:Uh}{fd:Ui}(T:Txt K mg)
include T
theorem Kbe(F:Fun K "_law_cell_at" "_law_cell_at" Sbe f fd):FnOk P w K mg base CX0 1 f fd ["_law_script", "_law_k"] (spD K 2 Yr):=
 okD (k:=0) (g:=W8) F (fq Hbe 2) wZ λcdv A outer s H E B G0 hr=>
 have nm:=Hbe
 by walk_at "d"
theorem Kaa(F:Fun K "is_whole" "is_whole" Saa f fd):FnOk P w K mg base CX0 1 f fd ["thing"] (spD K 1 Ws):=
 okD (k:=0) (g:=T5) F (fq Haa 1) wZ λcdv A outer s H E B G0 hr=>
 have nm:=Haa
 by walk_at "d"
theorem Kab(bp:Def P w K mg base "is_whole" 1 1 Ws)(F:Fun K "is_number_below" "is_number_below" Sab f fd):FnOk P w K mg base CX0 2 f fd ["thing", "many"] (spD K 2 K6):=
 okD (k:=1) (g:=Vg) F (fq Hab 2) wZ λcdv A outer s H E B G0 hr=>
 have nm:=Hab
 by walk_at "d"
theorem Kar(yG:Def P w K mg base "is_number_below" 2 2 K6)(F:Fun K "is_turns" "is_turns" Sar f fd):FnOk P w K mg base CX0 3 f fd ["thing", "askers"] (spD K 2 Xc):=
 okD (k:=2) (g:=Va) F (fq Har 2) wZ λcdv A outer s H E B G0 hr=>
 have nm:=Har
 by walk_at "d"
theorem Kaq(yG:Def P w K mg base "is_number_below" 2 2 K6)(F:Fun K "is_old" "is_old" Saq f fd):FnOk P w K mg base CX0 3 f fd ["thing", "askers", "things"] (spD K 3 Xd):=
 okD (k:=2) (g:=Vb) F (fq Haq 3) wZ λcdv A outer s H E B G0 hr=>
 have nm:=Haq
 by walk_at "d"
theorem Kam(F:Fun K "is_order" "is_order" Sam f fd):FnOk P w K mg base CX0 1 f fd ["thing"] (spD K 1 XI):=
 okD (k:=0) (g:=Vc) F (fq Ham 1) wZ λcdv A outer s H E B G0 hr=>
 have nm:=Ham
 by walk_at "d"
theorem wY(bc:Def P w K mg base "is_order" 1 1 XI)(yF:MkX P w K mg base "NoAim" 2)(F:Fun K "look_at_order" "look_at_order" Fi f fd):FnOk P w K mg base (CX1 P w) 4 f fd ["thing"] (spX K 1 VS):=
 okX (k:=3) (g:=Ny) F (fq Fq 1) wZ λcdv A outer s H E B G0 hr=>
 have nm:=Fq
 by walk_at "d"
theorem Kad(yG:Def P w K mg base "is_number_below" 2 2 K6)(F:Fun K "is_rank" "is_rank" Sad f fd):FnOk P w K mg base CX0 3 f fd ["thing", "things"] (spD K 2 Xf):=
 okD (k:=2) (g:=Vf) F (fq Had 2) wZ λcdv A outer s H E B G0 hr=>
 have nm:=Had
 by walk_at "d"
theorem Kae(bn:Def P w K mg base "is_rank" 3 2 Xf)(F:Fun K "is_asker_list" "is_asker_list" Sae f fd):FnOk P w K mg base CX0 4 f fd ["thing", "things"] (spD K 2 Xe):=
 okD (k:=3) (g:=Ve) F (fq Hae 2) wZ λcdv A outer s H E B G0 hr=>
 have nm:=Hae
 by walk_at "d"
theorem wX(zO:Def P w K mg base "is_asker_list" 4 2 Xe)(yp:MkX P w K mg base "NoWishes" 2)(F:Fun K "look_at_lists" "look_at_lists" Fg f fd):FnOk P w K mg base (CX1 P w) 5 f fd ["lists", "things"] (spX K 2 RO):=
 okX (k:=4) (g:=Nx) F (fq FA 2) wZ λcdv A outer s H E B G0 hr=>
 have nm:=FA
 by walk_at "d"
theorem wV(yG:Def P w K mg base "is_number_below" 2 2 K6)(yp:MkX P w K mg base "NoWishes" 2)(F:Fun K "look_at_copies" "look_at_copies" Fz f fd):FnOk P w K mg base (CX1 P w) 4 f fd ["copies"] (spX K 1 RN):=
 okX (k:=3) (g:=NA) F (fq Ft 1) wZ λcdv A outer s H E B G0 hr=>
 have nm:=Ft
 by walk_at "d"
theorem wU(yu:KN P w K mg base "look_at_lists" 5 2 RO)(yr:KN P w K mg base "look_at_copies" 4 1 RN)(yp:MkX P w K mg base "NoWishes" 2)(F:Fun K "look_at_wishes" "look_at_wishes" Fx f fd):FnOk P w K mg base (CX1 P w) 6 f fd ["thing"] (spX K 1 Wd):=
 okX (k:=5) (g:=Nz) F (fq Fs 1) wZ λcdv A outer s H E B G0 hr=>
 have nm:=Fs
 by walk_at "d"
theorem wT(a9:Def P w K mg base "is_turns" 3 2 Xc)(ba:Def P w K mg base "is_old" 3 3 Xd)(yo:KN P w K mg base "look_at_order" 4 1 VS)(yn:KN P w K mg base "look_at_wishes" 6 1 Wd)(yF:MkX P w K mg base "NoAim" 2)(F:Fun K "look_at_aim" "look_at_aim" Fl f fd):FnOk P w K mg base (CX1 P w) 7 f fd ["wishes", "thing"] (spX K 2 ZX):=
 okX (k:=6) (g:=NB) F (fq Fb 2) wZ λcdv A outer s H E B G0 hr=>
 have nm:=Fb
 by walk_at "d"
theorem Kaf(zO:Def P w K mg base "is_asker_list" 4 2 Xe)(F:Fun K "look_at_lists" "look_at_lists" Saf f fd):FnOk P w K mg base CX0 5 f fd ["lists", "things"] (spD K 2 Wq):=
 okD (k:=4) (g:=T3) F (fq Haf 2) wZ λcdv A outer s H E B G0 hr=>
 have nm:=Haf
 by walk_at "d"
theorem Kac(yG:Def P w K mg base "is_number_below" 2 2 K6)(F:Fun K "look_at_copies" "look_at_copies" Sac f fd):FnOk P w K mg base CX0 3 f fd ["copies"] (spD K 1 Wr):=
 okD (k:=2) (g:=T4) F (fq Hac 1) wZ λcdv A outer s H E B G0 hr=>
 have nm:=Hac
 by walk_at "d"
theorem Kag(bj:Def P w K mg base "look_at_lists" 5 2 Wq)(bo:Def P w K mg base "look_at_copies" 3 1 Wr)(F:Fun K "look_at_wishes" "look_at_wishes" Sag f fd):FnOk P w K mg base CX0 6 f fd ["thing"] (spD K 1 Yh):=
 okD (k:=5) (g:=T2) F (fq Hag 1) wZ λcdv A outer s H E B G0 hr=>
 have nm:=Hag
 by walk_at "d"
theorem Kai(yY:Def P w K mg base "look_at_wishes" 6 1 Yh)(F:Fun K "longest" "longest" Sai f fd):FnOk P w K mg base CX0 7 f fd ["wishes"] (spD K 1 Yg):=
 okD (k:=6) (g:=TZ) F (fq Hai 1) wZ λcdv A outer s H E B G0 hr=>
 have nm:=Hai
 by walk_at "d"
theorem Kax(F:Fun K "power" "power" Sax f fd):FnOk P w K mg base CX0 1 f fd ["base", "times"] (spD K 2 Zq):=
 okD (k:=0) (g:=TR) F (fq Hax 2) wZ λcdv A outer s H E B G0 hr=>
 have nm:=Hax
 by walk_at "d"
theorem Kaz(yW:Def P w K mg base "power" 1 2 Zq)(F:Fun K "worth_by_turns" "worth_by_turns" Saz f fd):FnOk P w K mg base CX0 2 f fd ["turns", "base", "asker", "rank"] (spD K 4 Vv):=
 okD (k:=1) (g:=TN) F (fq Haz 4) wZ λcdv A outer s H E B G0 hr=>
 have nm:=Haz
 by walk_at "d"
theorem Kay(yW:Def P w K mg base "power" 1 2 Zq)(F:Fun K "worth_by_order" "worth_by_order" Say f fd):FnOk P w K mg base CX0 2 f fd ["order", "base", "most", "rank"] (spD K 4 Vw):=
 okD (k:=1) (g:=TQ) F (fq Hay 4) wZ λcdv A outer s H E B G0 hr=>
 have nm:=Hay
 by walk_at "d"
theorem Kah(F:Fun K "rank_in" "rank_in" Sah f fd):FnOk P w K mg base CX0 1 f fd ["ranks", "thing"] (spD K 2 Z6):=
 okD (k:=0) (g:=Vd) F (fq Hah 2) wZ λcdv A outer s H E B G0 hr=>
 have nm:=Hah
 by walk_at "d"
theorem Kba(yW:Def P w K mg base "power" 1 2 Zq)(aX:Def P w K mg base "worth_by_turns" 2 4 Vv)(aY:Def P w K mg base "worth_by_order" 2 4 Vw)(yX:Def P w K mg base "rank_in" 1 2 Z6)(F:Fun K "worth_by_aim" "worth_by_aim" Sba f fd):FnOk P w K mg base CX0 3 f fd ["wishes", "aim", "most", "asker", "thing"] (spD K 5 ZH):=
 okD (k:=2) (g:=TM) F (fq Hba 5) wZ λcdv A outer s H E B G0 hr=>
 have nm:=Hba
 by walk_at "d"
theorem wW(zN:Def P w K mg base "longest" 7 1 Yg)(yV:Def P w K mg base "worth_by_aim" 3 5 ZH)(ym:KN P w K mg base "look_at_aim" 7 2 ZX)(F:Fun K "worth_of_wish" "worth_of_wish" Fe f fd):FnOk P w K mg base (CX1 P w) 8 f fd ["wishes", "aim", "asker", "thing"] (spX K 4 SO):=
 okX (k:=7) (g:=Fc) F (fq Fv 4) wZ λcdv A outer s H E B G0 hr=>
 have nm:=Fv
 by walk_at "d"
theorem vB(yn:KN P w K mg base "look_at_wishes" 6 1 Wd)(F:Fun K "longest" "longest" HZ f fd):FnOk P w K mg base (CX1 P w) 7 f fd ["wishes"] (spX K 1 SI):=
 okX (k:=6) (g:=HX) F (fq Gp 1) wZ λcdv A outer s H E B G0 hr=>
 have nm:=Gp
 by walk_at "d"
theorem vT(yV:Def P w K mg base "worth_by_aim" 3 5 ZH)(yv:KN P w K mg base "longest" 7 1 SI)(ym:KN P w K mg base "look_at_aim" 7 2 ZX)(F:Fun K "worth_of" "worth_of" Go f fd):FnOk P w K mg base (CX1 P w) 8 f fd ["wishes", "aim", "dealing"] (spX K 3 SJ):=
 okX (k:=7) (g:=Gm) F (fq GY 3) wZ λcdv A outer s H E B G0 hr=>
 have nm:=GY
 by walk_at "d"
theorem Kaj(yY:Def P w K mg base "look_at_wishes" 6 1 Yh)(F:Fun K "all_wishes" "all_wishes" Saj f fd):FnOk P w K mg base CX0 7 f fd ["wishes"] (spD K 1 Wp):=
 okD (k:=6) (g:=TY) F (fq Haj 1) wZ λcdv A outer s H E B G0 hr=>
 have nm:=Haj
 by walk_at "d"
theorem wJ(bg:Def P w K mg base "all_wishes" 7 1 Wp)(yV:Def P w K mg base "worth_by_aim" 3 5 ZH)(yv:KN P w K mg base "longest" 7 1 SI)(ym:KN P w K mg base "look_at_aim" 7 2 ZX)(F:Fun K "all_worths" "all_worths" GL f fd):FnOk P w K mg base (CX1 P w) 8 f fd ["wishes", "aim"] (spX K 2 SR):=
 okX (k:=7) (g:=GJ) F (fq Fj 2) wZ λcdv A outer s H E B G0 hr=>
 have nm:=Fj
 by walk_at "d"
theorem Kav(F:Fun K "is_better_by_turns" "is_better_by_turns" Sav f fd):FnOk P w K mg base CX0 1 f fd ["one", "other"] (spD K 2 Wm):=
 okD (k:=0) (g:=TU) F (fq Hav 2) wZ λcdv A outer s H E B G0 hr=>
 have nm:=Hav
 by walk_at "d"
theorem Kao(F:Fun K "gaps" "gaps" Sao f fd):FnOk P w K mg base CX0 1 f fd ["order", "one", "other"] (spD K 3 Wn):=
 okD (k:=0) (g:=TV) F (fq Hao 3) wZ λcdv A outer s H E B G0 hr=>
 have nm:=Hao
 by walk_at "d"
theorem ww(bb:Def P w K mg base "gaps" 1 3 Wn)(yo:KN P w K mg base "look_at_order" 4 1 VS)(F:Fun K "beside_by" "beside_by" GX f fd):FnOk P w K mg base (CX1 P w) 5 f fd ["order", "one", "other"] (spX K 3 P7):=
 okX (k:=4) (g:=GV) F (fq GI 3) wZ λcdv A outer s H E B G0 hr=>
 have nm:=GI
 by walk_at "d"
theorem Kat(F:Fun K "how_many_kept" "how_many_kept" Sat f fd):FnOk P w K mg base CX0 1 f fd ["old", "dealing"] (spD K 2 Xb):=
 okD (k:=0) (g:=W9) F (fq Hat 2) wZ λcdv A outer s H E B G0 hr=>
 have nm:=Hat
 by walk_at "d"
theorem Kak(yX:Def P w K mg base "rank_in" 1 2 Z6)(yY:Def P w K mg base "look_at_wishes" 6 1 Yh)(F:Fun K "ranks_got" "ranks_got" Sak f fd):FnOk P w K mg base CX0 7 f fd ["wishes", "dealing"] (spD K 2 XJ):=
 okD (k:=6) (g:=TX) F (fq Hak 2) wZ λcdv A outer s H E B G0 hr=>
 have nm:=Hak
 by walk_at "d"
theorem Kal(zN:Def P w K mg base "longest" 7 1 Yg)(bf:Def P w K mg base "ranks_got" 7 2 XJ)(F:Fun K "counts_of" "counts_of" Sal f fd):FnOk P w K mg base CX0 8 f fd ["wishes", "dealing"] (spD K 2 Wo):=
 okD (k:=7) (g:=TW) F (fq Hal 2) wZ λcdv A outer s H E B G0 hr=>
 have nm:=Hal
 by walk_at "d"
theorem wv(yX:Def P w K mg base "rank_in" 1 2 Z6)(yn:KN P w K mg base "look_at_wishes" 6 1 Wd)(F:Fun K "ranks_got" "ranks_got" GU f fd):FnOk P w K mg base (CX1 P w) 7 f fd ["wishes", "dealing"] (spX K 2 P6):=
 okX (k:=6) (g:=GS) F (fq GH 2) wZ λcdv A outer s H E B G0 hr=>
 have nm:=GH
 by walk_at "d"
theorem vS(a8:Def P w K mg base "how_many_kept" 1 2 Xb)(be:Def P w K mg base "counts_of" 8 2 Wo)(yy:KN P w K mg base "ranks_got" 7 2 P6)(ym:KN P w K mg base "look_at_aim" 7 2 ZX)(F:Fun K "score_of" "score_of" Gk f fd):FnOk P w K mg base (CX1 P w) 9 f fd ["wishes", "aim", "dealing"] (spX K 3 WU):=
 okX (k:=8) (g:=GC) F (fq GR 3) wZ λcdv A outer s H E B G0 hr=>
 have nm:=GR
 by walk_at "d"
theorem wu(aZ:Def P w K mg base "is_better_by_turns" 1 2 Wm)(yA:KN P w K mg base "beside_by" 5 3 P7)(yq:KN P w K mg base "score_of" 9 3 WU)(F:Fun K "is_better" "is_better" Gj f fd):FnOk P w K mg base (CX1 P w) 10 f fd ["wishes", "aim", "one", "other"] (spX K 4 SQ):=
 okX (k:=9) (g:=Nt) F (fq GF 4) wZ λcdv A outer s H E B G0 hr=>
 have nm:=GF
 by walk_at "d"
theorem vR(ym:KN P w K mg base "look_at_aim" 7 2 ZX)(yt:KN P w K mg base "worth_of_wish" 8 4 SO)(yC:KN P w K mg base "worth_of" 8 3 SJ)(yx:KN P w K mg base "all_worths" 8 2 SR)(yz:KN P w K mg base "is_better" 10 4 SQ)(yq:KN P w K mg base "score_of" 9 3 WU)(F:Fun K "_law_ask" "_law_ask" GB f fd):FnOk P w K mg base (CX1 P w) 11 f fd ["_law_way", "_law_wishes_here", "_law_aim_here", "_law_pair", "_law_dealing"] (spX K 5 WB):=
 okX (k:=10) (g:=Nw) F (fq Gh 5) wZ λcdv A outer s H E B G0 hr=>
 have nm:=Gh
 by walk_at "d"
theorem Kbt(yD:KN P w K mg base "_law_ask" 11 5 WB)(F:Fun K "_law_told" "_law_told" Sbt f fd):FnOk P w K mg base CX0 12 f fd ["_law_way", "_law_wishes_here", "_law_aim_here", "_law_pair", "_law_dealing"] (spD K 5 ZZ):=
 okD (k:=11) (g:=Wi) F (fq Hbt 5) wZ λcdv A outer s H E B G0 hr=>
 have nm:=Hbt
 by walk_at "d"
theorem Kbq(F:Fun K "_law_number_below" "_law_number_below" Sbq f fd):FnOk P w K mg base CX0 1 f fd ["_law_thing", "_law_most"] (spD K 2 ZG):=
 okD (k:=0) (g:=Tw) F (fq Hbq 2) wZ λcdv A outer s H E B G0 hr=>
 have nm:=Hbq
 by walk_at "d"
theorem Kbu(yU:Def P w K mg base "_law_number_below" 1 2 ZG)(F:Fun K "_law_ranked" "_law_ranked" Sbu f fd):FnOk P w K mg base CX0 2 f fd ["_law_ranks", "_law_many"] (spD K 2 Vn):=
 okD (k:=1) (g:=Tu) F (fq Hbu 2) wZ λcdv A outer s H E B G0 hr=>
 have nm:=Hbu
 by walk_at "d"
theorem Kbv(aL:Def P w K mg base "_law_ranked" 2 2 Vn)(yU:Def P w K mg base "_law_number_below" 1 2 ZG)(F:Fun K "_law_fault" "_law_fault" Sbv f fd):FnOk P w K mg base CX0 3 f fd ["_law_thing"] (spD K 1 Vm):=
 okD (k:=2) (g:=Tt) F (fq Hbv 1) wZ λcdv A outer s H E B G0 hr=>
 have nm:=Hbv
 by walk_at "d"
theorem Kbf(F:Fun K "_law_numbers" "_law_numbers" Sbf f fd):FnOk P w K mg base CX0 1 f fd ["_law_cell", "_law_salt", "_law_sizes"] (spD K 3 Zp):=
 okD (k:=0) (g:=TL) F (fq Hbf 3) wZ λcdv A outer s H E B G0 hr=>
 have nm:=Hbf
 by walk_at "d"
theorem wq(F:Fun K "_law_copy" "_law_copy" Gg f fd):FnOk P w K mg base CX0 1 f fd ["_law_wishes_here"] (spT K 1 (PLL) RL):=
 okT (k:=0) (g:=P5) F (fq GE 1) wZ λcdv A outer s H E B G0 hr=>
 have nm:=GE
 by walk_at "d"
theorem Kbl(yE:Def P w K mg base "_law_numbers" 1 3 Zp)(yw:DefT P w K mg base "_law_copy" 1 1 (PLL) RL)(F:Fun K "_law_bad_wishes" "_law_bad_wishes" Sbl f fd):FnOk P w K mg base CX0 2 f fd ["_law_wishes_here", "_law_cell", "_law_salt"] (spD K 3 Vr):=
 okD (k:=1) (g:=TD) F (fq Hbl 3) wZ λcdv A outer s H E B G0 hr=>
 have nm:=Hbl
 by walk_at "d"
theorem Kbr(yU:Def P w K mg base "_law_number_below" 1 2 ZG)(F:Fun K "_law_part" "_law_part" Sbr f fd):FnOk P w K mg base CX0 2 f fd ["_law_wishes_here", "_law_thing"] (spD K 2 Vo):=
 okD (k:=1) (g:=Tv) F (fq Hbr 2) wZ λcdv A outer s H E B G0 hr=>
 have nm:=Hbr
 by walk_at "d"
theorem Kbo(F:Fun K "_law_odd_turns" "_law_odd_turns" Sbo f fd):FnOk P w K mg base CX0 1 f fd ["_law_askers", "_law_turns", "_law_way", "_law_place", "_law_odd"] (spD K 5 Wl):=
 okD (k:=0) (g:=Tz) F (fq Hbo 5) wZ λcdv A outer s H E B G0 hr=>
 have nm:=Hbo
 by walk_at "d"
theorem Kbn(F:Fun K "_law_odd_old" "_law_odd_old" Sbn f fd):FnOk P w K mg base CX0 1 f fd ["_law_wishes_here", "_law_old", "_law_way", "_law_place", "_law_odd"] (spD K 5 XF):=
 okD (k:=0) (g:=TB) F (fq Hbn 5) wZ λcdv A outer s H E B G0 hr=>
 have nm:=Hbn
 by walk_at "d"
theorem Kbp(aP:Def P w K mg base "_law_odd_turns" 1 5 Wl)(aQ:Def P w K mg base "_law_odd_old" 1 5 XF)(yE:Def P w K mg base "_law_numbers" 1 3 Zp)(F:Fun K "_law_odd_aim" "_law_odd_aim" Sbp f fd):FnOk P w K mg base CX0 2 f fd ["_law_wishes_here", "_law_aim_here", "_law_cell", "_law_salt"] (spD K 4 Vp):=
 okD (k:=1) (g:=Tx) F (fq Hbp 4) wZ λcdv A outer s H E B G0 hr=>
 have nm:=Hbp
 by walk_at "d"
theorem Kbh(F:Fun K "_law_wished" "_law_wished" Sbh f fd):FnOk P w K mg base CX0 1 f fd ["_law_wishes_here", "_law_asker"] (spD K 2 XG):=
 okD (k:=0) (g:=TJ) F (fq Hbh 2) wZ λcdv A outer s H E B G0 hr=>
 have nm:=Hbh
 by walk_at "d"
theorem Kbm(zL:Def P w K mg base "_law_wished" 1 2 XG)(F:Fun K "_law_wishes_of" "_law_wishes_of" Sbm f fd):FnOk P w K mg base CX0 2 f fd ["_law_wishes_here"] (spD K 1 Vq):=
 okD (k:=1) (g:=TC) F (fq Hbm 1) wZ λcdv A outer s H E B G0 hr=>
 have nm:=Hbm
 by walk_at "d"
theorem Kbj(zL:Def P w K mg base "_law_wished" 1 2 XG)(yE:Def P w K mg base "_law_numbers" 1 3 Zp)(F:Fun K "_law_dealt" "_law_dealt" Sbj f fd):FnOk P w K mg base CX0 2 f fd ["_law_wishes_here", "_law_cell", "_law_salt"] (spD K 3 Vs):=
 okD (k:=1) (g:=TF) F (fq Hbj 3) wZ λcdv A outer s H E B G0 hr=>
 have nm:=Hbj
 by walk_at "d"
theorem Kbi(yE:Def P w K mg base "_law_numbers" 1 3 Zp)(F:Fun K "_law_aim" "_law_aim" Sbi f fd):FnOk P w K mg base CX0 2 f fd ["_law_wishes_here", "_law_cell", "_law_salt"] (spD K 3 Vt):=
 okD (k:=1) (g:=TH) F (fq Hbi 3) wZ λcdv A outer s H E B G0 hr=>
 have nm:=Hbi
 by walk_at "d"
theorem Kbg(yE:Def P w K mg base "_law_numbers" 1 3 Zp)(zM:Def P w K mg base "_law_cell_at" 1 2 Yr)(F:Fun K "_law_wishes" "_law_wishes" Sbg f fd):FnOk P w K mg base CX0 2 f fd ["_law_script", "_law_at", "_law_most_things", "_law_most_askers", "_law_most_ranks"] (spD K 5 Vu):=
 okD (k:=1) (g:=TK) F (fq Hbg 5) wZ λcdv A outer s H E B G0 hr=>
 have nm:=Hbg
 by walk_at "d"
theorem Kbw(zM:Def P w K mg base "_law_cell_at" 1 2 Yr)(aM:Def P w K mg base "_law_told" 12 5 ZZ)(aK:Def P w K mg base "_law_fault" 3 1 Vm)(aS:Def P w K mg base "_law_bad_wishes" 2 3 Vr)(aT:Def P w K mg base "_law_copy" 1 1 F_bk)(aN:Def P w K mg base "_law_part" 2 2 Vo)(aO:Def P w K mg base "_law_odd_aim" 2 4 Vp)(yE:Def P w K mg base "_law_numbers" 1 3 Zp)(aR:Def P w K mg base "_law_wishes_of" 2 1 Vq)(aU:Def P w K mg base "_law_dealt" 2 3 Vs)(aV:Def P w K mg base "_law_aim" 2 3 Vt)(aW:Def P w K mg base "_law_wishes" 2 5 Vu)(F:Fun K "law" "law" Sbw f fd):FnOk P w K mg base CX0 13 f fd ["_law_script"] (spD K 1 Vl):=
 okD (k:=12) (g:=Ts) F (fq Hbw 1) wZ λcdv A outer s H E B G0 hr=>
 have nm:=Hbw
 by walk_at "d"
end
theorem KF:recsOf q0=V2 p0 ixL:=by show recsOf (PySem.W.view PySem.Challenge.pw_wishdeal_k26_aims_refused XS)=V2 PySem.Challenge.pw_wishdeal_k26_aims_refused ixL;rw[PySem.W.Fast.te3399658132070893891,PySem.W.Fast.te12468872040835914554];kernel_rfl
theorem YA:(["ValueError", "all", "bool", "enumerate", "int", "isinstance", "len", "list", "max", "range", "set", "sorted", "str", "sum", "tuple", "zip"]:List Str).all (RT q0 (PySem.W.looseW q0 []))=w5:=by show List.all _ (RT (PySem.W.view PySem.Challenge.pw_wishdeal_k26_aims_refused XS) (PySem.W.looseW (PySem.W.view PySem.Challenge.pw_wishdeal_k26_aims_refused XS) []))=w5;k_qdec
theorem wI:valOf q0 "MOST_ASKERS" = O (.int 7):=by show valOf (PySem.W.view PySem.Challenge.pw_wishdeal_k26_aims_refused XS) _=_;rw[Jt,PySem.W.Fast.te12468872040835914554];kernel_rfl
theorem wH:valOf q0 "MOST_COPIES" = O (.int 7):=by show valOf (PySem.W.view PySem.Challenge.pw_wishdeal_k26_aims_refused XS) _=_;rw[Jt,PySem.W.Fast.te12468872040835914554];kernel_rfl
theorem wp:valOf q0 "MOST_RANKS" = O (.int 5):=by show valOf (PySem.W.view PySem.Challenge.pw_wishdeal_k26_aims_refused XS) _=_;rw[Jt,PySem.W.Fast.te12468872040835914554];kernel_rfl
theorem wG:valOf q0 "MOST_THINGS" = O (.int 6):=by show valOf (PySem.W.view PySem.Challenge.pw_wishdeal_k26_aims_refused XS) _=_;rw[Jt,PySem.W.Fast.te12468872040835914554];kernel_rfl
theorem jq:tupStrsOf q0 "ORDERS" = O (["firsts", "full", "lasts"]:List Str):=by show tupStrsOf (PySem.W.view PySem.Challenge.pw_wishdeal_k26_aims_refused XS) _=_;rw[PySem.W.Fast.te14491516231548247274,PySem.W.Fast.te12468872040835914554];kernel_rfl
theorem El{l:PySem.W.OpenLaw}{w:World}{s0:Uf}{mg mb:Str->yc}{fa:Uh}{h:Heap}{XP:(Str->yc)->Heap->Prop}(G:PySem.W.Ground q0 [] [] XP w s0 mg mb h)(Y:XYP p0 clsL h)(hfa:mg "law" = O (.ref fa)) :
  ∃fd:Ui,(∀(s:Uf)(v:Ue),BindsTo s fd ⟨[v],[]⟩ [("_law_script", v)])/\∀base:Heap,FnOk l.prog w (whole h) mg base CX0 13 fa fd ["_law_script"] (spD (whole h) 1 Vl):=by
 obtain⟨D0,f0,aE,R⟩:=BR (i:=4) G.T.g Y (mq 0 wZ) (YH G.T YA (mq 0 wZ)) (KE (by decide +kernel)) wZ (λ_=>⟨_,rfl⟩) (λ_ _ _ _ _ _ us hl=>bz2 (us:=us) hl λ_ _=>rfl);have T:Txt (whole h) mg:=⟨YH G.T YA (mq 0 wZ),YH G.T YA (mq 1 wZ),YH G.T YA (mq 2 wZ),YH G.T YA (mq 3 wZ),YH G.T YA (mq 4 wZ),YH G.T YA (mq 5 wZ),YH G.T YA (mq 6 wZ),YH G.T YA (mq 7 wZ),YH G.T YA (mq 8 wZ),YH G.T YA (mq 9 wZ),YH G.T YA (mq 10 wZ),YH G.T YA (mq 11 wZ),YH G.T YA (mq 12 wZ),YH G.T YA (mq 13 wZ),YH G.T YA (mq 14 wZ),YH G.T YA (mq 15 wZ),PJ G.T wI,PJ G.T wH,PJ G.T wp,PJ G.T wG,kK G.B jq (by decide),NQ (c:=("NoAim", O 6)) G.T.g Y R (mq 2 wZ),NQ (c:=("NoWishes", O 5)) G.T.g Y R (mq 1 wZ)⟩
 refine FV G.T KF 64 "law" rfl wZ hfa (λ_ _ _ _ _ _ _=>rfl) λbase=>?_
 have yF:=N7 (nm:= "NoAim") (j:=6) (ps:=["self", "part"]) G.T.g Y R (mq 2 wZ) (by decide) l.prog w base (λ_ _ _ _ _ _ us hl=>bz2 (us:=us) hl λ_ _=>rfl) (λFU=>Bk R.cf (R.ok l.prog w base) R.bd R.at' FU (KE (by decide +kernel)) (by decide) (by decide) (by decide) wZ (λ_=>⟨_,rfl⟩) (by decide));have yp:=N7 (nm:= "NoWishes") (j:=5) (ps:=["self", "part", "number"]) G.T.g Y R (mq 1 wZ) (by decide) l.prog w base (λ_ _ _ _ _ _ us hl=>bz3 (us:=us) hl λ_ _ _=>rfl) (λFU=>Bl R.cf (R.ok l.prog w base) R.bd R.at' FU (KE (by decide +kernel)) wZ (λ_=>⟨_,rfl⟩) (by decide) (by decide));have zM:=K7 l.prog w base G.T KF 46 "_law_cell_at" rfl wZ (λF=>Kbe T  F) λ_ _ _ _ _ _ us hl=>bz2 (us:=us) hl λ_ _=>rfl
 have bp:=K7 l.prog w base G.T KF 1 "is_whole" rfl wZ (λF=>Kaa T  F) λ_ _ _ _ _ _ us hl=>bz1 (us:=us) hl λ_=>rfl
 have yG:=K7 l.prog w base G.T KF 2 "is_number_below" rfl wZ (λF=>Kab T bp F) λ_ _ _ _ _ _ us hl=>bz2 (us:=us) hl λ_ _=>rfl
 have a9:=K7 l.prog w base G.T KF 31 "is_turns" rfl wZ (λF=>Kar T yG F) λ_ _ _ _ _ _ us hl=>bz2 (us:=us) hl λ_ _=>rfl
 have ba:=K7 l.prog w base G.T KF 30 "is_old" rfl wZ (λF=>Kaq T yG F) λ_ _ _ _ _ _ us hl=>bz3 (us:=us) hl λ_ _ _=>rfl
 have bc:=K7 l.prog w base G.T KF 25 "is_order" rfl wZ (λF=>Kam T  F) λ_ _ _ _ _ _ us hl=>bz1 (us:=us) hl λ_=>rfl
 have yo:=Xh l.prog w base G.T KF 26 "look_at_order" rfl wZ (λF=>wY T bc yF F) λ_ _ _ _ _ _ us hl=>bz1 (us:=us) hl λ_=>rfl
 have bn:=K7 l.prog w base G.T KF 13 "is_rank" rfl wZ (λF=>Kad T yG F) λ_ _ _ _ _ _ us hl=>bz2 (us:=us) hl λ_ _=>rfl
 have zO:=K7 l.prog w base G.T KF 14 "is_asker_list" rfl wZ (λF=>Kae T bn F) λ_ _ _ _ _ _ us hl=>bz2 (us:=us) hl λ_ _=>rfl
 have yu:=Xh l.prog w base G.T KF 15 "look_at_lists" rfl wZ (λF=>wX T zO yp F) λ_ _ _ _ _ _ us hl=>bz2 (us:=us) hl λ_ _=>rfl
 have yr:=Xh l.prog w base G.T KF 12 "look_at_copies" rfl wZ (λF=>wV T yG yp F) λ_ _ _ _ _ _ us hl=>bz1 (us:=us) hl λ_=>rfl
 have yn:=Xh l.prog w base G.T KF 16 "look_at_wishes" rfl wZ (λF=>wU T yu yr yp F) λ_ _ _ _ _ _ us hl=>bz1 (us:=us) hl λ_=>rfl
 have ym:=Xh l.prog w base G.T KF 32 "look_at_aim" rfl wZ (λF=>wT T a9 ba yo yn yF F) λ_ _ _ _ _ _ us hl=>bz2 (us:=us) hl λ_ _=>rfl
 have bj:=K7 l.prog w base G.T KF 15 "look_at_lists" rfl wZ (λF=>Kaf T zO F) λ_ _ _ _ _ _ us hl=>bz2 (us:=us) hl λ_ _=>rfl
 have bo:=K7 l.prog w base G.T KF 12 "look_at_copies" rfl wZ (λF=>Kac T yG F) λ_ _ _ _ _ _ us hl=>bz1 (us:=us) hl λ_=>rfl
 have yY:=K7 l.prog w base G.T KF 16 "look_at_wishes" rfl wZ (λF=>Kag T bj bo F) λ_ _ _ _ _ _ us hl=>bz1 (us:=us) hl λ_=>rfl
 have zN:=K7 l.prog w base G.T KF 18 "longest" rfl wZ (λF=>Kai T yY F) λ_ _ _ _ _ _ us hl=>bz1 (us:=us) hl λ_=>rfl
 have yW:=K7 l.prog w base G.T KF 38 "power" rfl wZ (λF=>Kax T  F) λ_ _ _ _ _ _ us hl=>bz2 (us:=us) hl λ_ _=>rfl
 have aX:=K7 l.prog w base G.T KF 40 "worth_by_turns" rfl wZ (λF=>Kaz T yW F) λ_ _ _ _ _ _ us hl=>bz4 (us:=us) hl λ_ _ _ _=>rfl
 have aY:=K7 l.prog w base G.T KF 39 "worth_by_order" rfl wZ (λF=>Kay T yW F) λ_ _ _ _ _ _ us hl=>bz4 (us:=us) hl λ_ _ _ _=>rfl
 have yX:=K7 l.prog w base G.T KF 17 "rank_in" rfl wZ (λF=>Kah T  F) λ_ _ _ _ _ _ us hl=>bz2 (us:=us) hl λ_ _=>rfl
 have yV:=K7 l.prog w base G.T KF 41 "worth_by_aim" rfl wZ (λF=>Kba T yW aX aY yX F) λ_ _ _ _ _ _ us hl=>bz5 (us:=us) hl λ_ _ _ _ _=>rfl
 have yt:=Xh l.prog w base G.T KF 42 "worth_of_wish" rfl wZ (λF=>wW T zN yV ym F) λ_ _ _ _ _ _ us hl=>bz4 (us:=us) hl λ_ _ _ _=>rfl
 have yv:=Xh l.prog w base G.T KF 18 "longest" rfl wZ (λF=>vB T yn F) λ_ _ _ _ _ _ us hl=>bz1 (us:=us) hl λ_=>rfl
 have yC:=Xh l.prog w base G.T KF 44 "worth_of" rfl wZ (λF=>vT T yV yv ym F) λ_ _ _ _ _ _ us hl=>bz3 (us:=us) hl λ_ _ _=>rfl
 have bg:=K7 l.prog w base G.T KF 19 "all_wishes" rfl wZ (λF=>Kaj T yY F) λ_ _ _ _ _ _ us hl=>bz1 (us:=us) hl λ_=>rfl
 have yx:=Xh l.prog w base G.T KF 43 "all_worths" rfl wZ (λF=>wJ T bg yV yv ym F) λ_ _ _ _ _ _ us hl=>bz2 (us:=us) hl λ_ _=>rfl
 have aZ:=K7 l.prog w base G.T KF 35 "is_better_by_turns" rfl wZ (λF=>Kav T  F) λ_ _ _ _ _ _ us hl=>bz2 (us:=us) hl λ_ _=>rfl
 have bb:=K7 l.prog w base G.T KF 27 "gaps" rfl wZ (λF=>Kao T  F) λ_ _ _ _ _ _ us hl=>bz3 (us:=us) hl λ_ _ _=>rfl
 have yA:=Xh l.prog w base G.T KF 28 "beside_by" rfl wZ (λF=>ww T bb yo F) λ_ _ _ _ _ _ us hl=>bz3 (us:=us) hl λ_ _ _=>rfl
 have a8:=K7 l.prog w base G.T KF 33 "how_many_kept" rfl wZ (λF=>Kat T  F) λ_ _ _ _ _ _ us hl=>bz2 (us:=us) hl λ_ _=>rfl
 have bf:=K7 l.prog w base G.T KF 21 "ranks_got" rfl wZ (λF=>Kak T yX yY F) λ_ _ _ _ _ _ us hl=>bz2 (us:=us) hl λ_ _=>rfl
 have be:=K7 l.prog w base G.T KF 22 "counts_of" rfl wZ (λF=>Kal T zN bf F) λ_ _ _ _ _ _ us hl=>bz2 (us:=us) hl λ_ _=>rfl
 have yy:=Xh l.prog w base G.T KF 21 "ranks_got" rfl wZ (λF=>wv T yX yn F) λ_ _ _ _ _ _ us hl=>bz2 (us:=us) hl λ_ _=>rfl
 have yq:=Xh l.prog w base G.T KF 34 "score_of" rfl wZ (λF=>vS T a8 be yy ym F) λ_ _ _ _ _ _ us hl=>bz3 (us:=us) hl λ_ _ _=>rfl
 have yz:=Xh l.prog w base G.T KF 36 "is_better" rfl wZ (λF=>wu T aZ yA yq F) λ_ _ _ _ _ _ us hl=>bz4 (us:=us) hl λ_ _ _ _=>rfl
 have yD:=Xh l.prog w base G.T KF 60 "_law_ask" rfl wZ (λF=>vR T ym yt yC yx yz yq F) λ_ _ _ _ _ _ us hl=>bz5 (us:=us) hl λ_ _ _ _ _=>rfl
 have aM:=K7 l.prog w base G.T KF 61 "_law_told" rfl wZ (λF=>Kbt T yD F) λ_ _ _ _ _ _ us hl=>bz5 (us:=us) hl λ_ _ _ _ _=>rfl
 have yU:=K7 l.prog w base G.T KF 58 "_law_number_below" rfl wZ (λF=>Kbq T  F) λ_ _ _ _ _ _ us hl=>bz2 (us:=us) hl λ_ _=>rfl
 have aL:=K7 l.prog w base G.T KF 62 "_law_ranked" rfl wZ (λF=>Kbu T yU F) λ_ _ _ _ _ _ us hl=>bz2 (us:=us) hl λ_ _=>rfl
 have aK:=K7 l.prog w base G.T KF 63 "_law_fault" rfl wZ (λF=>Kbv T aL yU F) λ_ _ _ _ _ _ us hl=>bz1 (us:=us) hl λ_=>rfl
 have yE:=K7 l.prog w base G.T KF 47 "_law_numbers" rfl wZ (λF=>Kbf T  F) λ_ _ _ _ _ _ us hl=>bz3 (us:=us) hl λ_ _ _=>rfl
 have yw:=Eo l.prog w base G.T KF 52 "_law_copy" rfl wZ (λF=>wq T  F) λ_ _ _ _ _ _ us hl=>bz1 (us:=us) hl λ_=>rfl
 have aS:=K7 l.prog w base G.T KF 53 "_law_bad_wishes" rfl wZ (λF=>Kbl T yE yw F) λ_ _ _ _ _ _ us hl=>bz3 (us:=us) hl λ_ _ _=>rfl
 have aT:=yw.def;have aN:=K7 l.prog w base G.T KF 59 "_law_part" rfl wZ (λF=>Kbr T yU F) λ_ _ _ _ _ _ us hl=>bz2 (us:=us) hl λ_ _=>rfl
 have aP:=K7 l.prog w base G.T KF 56 "_law_odd_turns" rfl wZ (λF=>Kbo T  F) λ_ _ _ _ _ _ us hl=>bz5 (us:=us) hl λ_ _ _ _ _=>rfl
 have aQ:=K7 l.prog w base G.T KF 55 "_law_odd_old" rfl wZ (λF=>Kbn T  F) λ_ _ _ _ _ _ us hl=>bz5 (us:=us) hl λ_ _ _ _ _=>rfl
 have aO:=K7 l.prog w base G.T KF 57 "_law_odd_aim" rfl wZ (λF=>Kbp T aP aQ yE F) λ_ _ _ _ _ _ us hl=>bz4 (us:=us) hl λ_ _ _ _=>rfl
 have zL:=K7 l.prog w base G.T KF 49 "_law_wished" rfl wZ (λF=>Kbh T  F) λ_ _ _ _ _ _ us hl=>bz2 (us:=us) hl λ_ _=>rfl
 have aR:=K7 l.prog w base G.T KF 54 "_law_wishes_of" rfl wZ (λF=>Kbm T zL F) λ_ _ _ _ _ _ us hl=>bz1 (us:=us) hl λ_=>rfl
 have aU:=K7 l.prog w base G.T KF 51 "_law_dealt" rfl wZ (λF=>Kbj T zL yE F) λ_ _ _ _ _ _ us hl=>bz3 (us:=us) hl λ_ _ _=>rfl
 have aV:=K7 l.prog w base G.T KF 50 "_law_aim" rfl wZ (λF=>Kbi T yE F) λ_ _ _ _ _ _ us hl=>bz3 (us:=us) hl λ_ _ _=>rfl
 have aW:=K7 l.prog w base G.T KF 48 "_law_wishes" rfl wZ (λF=>Kbg T yE zM F) λ_ _ _ _ _ _ us hl=>bz5 (us:=us) hl λ_ _ _ _ _=>rfl
 exact λ{_ _} F=>Kbw T zM aM aK aS aT aN aO yE aR aU aV aW F
noncomputable abbrev d_bw:DefRec:=⟨"law", X0 Sbw,Yl Sbw,K0 Sbw,FW Sbw⟩
theorem walk{XP:(Str->yc)->Heap->Prop}(hlaw:∀ns:w9,ns.length<=63->Vl [.list (ns.map int)]=O (.bool w5)):PySem.W.WalkO q0 [] XP (λ_ h=>XYP p0 clsL h) (PySem.Challenge.rw_wishdeal_k26_aims_refused).row.toRowW d_bw [] (λf vs=>PySem.call f vs):=
 kI (n:=63) (k:=13) (x:= "_law_script") wZ (by decide) wZ ⟨rfl,by decide,by decide,rfl⟩ (λ_ _ _ _ _ _ G Y hm=>El G Y hm) hlaw
theorem Sc{f:M D}{Z Z1:UI}{d:D}{t:Bool}(h:f Z=.ok d Z1)(ht:(!isNon d)=t):US (λd=>!isNon d) f Z=.ok t Z1:=by subst ht;exact Ko (k:=λd=>!isNon d) h
theorem HW{sizes found:w9}{z d:Int}(h:∀(j:Nat) d z,found[j]?=O d->sizes[j]?=O z->0<=d/\d<z)(hz:sizes[found.length]?=O z)(h0:0<=d/\d<z) :
  ∀(j:Nat) d' z',(found++[d])[j]?=O d'->sizes[j]?=O z'->0<=d'/\d'<z':=by
 intro j d' z' e1 e2;by_cases hj:j<found.length
 .rw[Qs hj]at e1
  exact h j d' z' e1 e2
 .by_cases ax:j=found.length
  .subst ax
   rw[hz]at e2;cases e2;rw[Qt (Qq _),Nat.sub_self,List.getElem?_cons_zero]at e1;cases e1;exact h0
  .rw[JH (by rw[Qi,Jc];omega)]at e1
   cases e1
abbrev pb(d:D):Option Sl:=O (.pub d)
def inv(c s:Int)(sizes:w9)(n:Int)(i:Nat)(Z:UI):Prop:=∃left found x6 x7,Z=[O (Sl.pub (.int c)),pb (.int s),pb (.list (sizes.map .int)),pb (.int n),pb (.int left),O (.own ((found:w9).map .int)),x6,x7] /\
 found.length=i/\∀(j:Nat) d z,found[j]?=O d->sizes[j]?=O z->0<=d/\d<z
theorem jp{c s n:Int}{sizes:w9}(hs:∀x∈sizes,0<x/\x<18446744073709551616)(hl:sizes.length<=1000){i:Nat}{d:D}{Z:UI}{Q:Out->Prop}(hi:(ZW 0 sizes.length)[i]?=O d)(h:inv c s sizes n i Z) :
  ∃Z2,gN 6 d Z=O Z2/\Ho OB Z2 (VX (inv c s sizes n (i+1)) Q):=by
 obtain⟨left,found,x6,x7,rfl,hf,hfd⟩:=h;obtain⟨rfl,hlt⟩:=Tf hi;obtain⟨z,hz⟩:∃z,sizes[i]?=O z:=⟨sizes[i]'(by omega),Qg _⟩
 obtain⟨z1,z2⟩:=hs z (Qv hz);have hix:oIx (.list (sizes.map int)) (.int (0+(i:Int)))=O (.int z):=by rw[Int.zero_add];exact Zm (by rw[Qh,hz];rfl)
 generalize hk:(0:Int)+(i:Int)=k at hix⊢;have hk1:k<18446744073709551616:=by omega
 have hk2 : -18446744073709551616<k:=by omega
 have hlen:(found.map int).length<1000000:=by rw[Qb];omega
 have pw:YO (.int 10) (.int 18)=O (.int 1000000000000000000):=by rw[Pt (by decide)];rfl
 refine⟨_,UT (Qa wZ) wZ,?_⟩;unfold OB;apply UZ
 case h1=>exact Om (K1 wZ (UU UM UM pw) wZ) λ_=>K1 wZ UM wZ
 case h2=>intro _;refine U6 (WM wZ (UU (UK wZ) (Kh wZ (UK wZ) hix) (YX (by omega))) wZ hlen wZ) ?_;refine KQ (KI (UU (UK wZ) (Kh wZ (UK wZ) hix) (Pu (by omega) (by omega))) (Qa wZ) wZ) (Yk ?_);exact⟨_,found++[left % z],_,_,by rw[QU];rfl,by rw[Qi,hf];rfl,HW hfd (by rw[hf];exact hz) ⟨Jl _ (by omega),Q9 _ z1⟩⟩
 case h3=>intro _;refine U6 (KI (UU (UU (UU (UU (UK wZ) (UU UM (UK wZ) (RE (by decide) (by decide))) Zj) (UU (UU UM (UK wZ) (RE (by decide) (by decide))) (UK wZ) (SG hk2 hk1)) Zj) (UK wZ) Zj) UM (YX (by decide))) (Qa wZ) wZ) ?_;refine U6 (KI (UU (UU (UK wZ) UM (SG (by decide) (by decide))) UM (YX (by decide))) (Qa wZ) wZ) ?_;refine U6 (KI (UU (UU (UU (UU (UK wZ) (UK wZ) (SG (by omega) (by omega))) UM (YX (by decide))) UM (SG (by decide) (by decide))) UM (YX (by decide))) (Qa wZ) wZ) ?_;refine KQ (WM wZ (UU (UU (UK wZ) UM (Pu (by decide) (by decide))) (Kh wZ (UK wZ) hix) (YX (by omega))) wZ hlen wZ) (Yk ?_);exact⟨_,found++[_ % z],_,_,by rw[QU];rfl,by rw[Qi,hf];rfl,HW hfd (by rw[hf];exact hz) ⟨Jl _ (by omega),Q9 _ z1⟩⟩
theorem Tj(c s:Int){sizes:w9}(hs:∀x∈sizes,0<x/\x<18446744073709551616)(hl:sizes.length<=1000) :
  ∃r,Zp [.int c,.int s,.list (sizes.map int)]=O r/\∃ds:w9,r=.list (ds.map .int)/\ds.length=sizes.length/\∀(j:Nat) d z,ds[j]?=O d->sizes[j]?=O z->0<=d/\d<z:=by
 refine WL (Z:=[pb (.int c),pb (.int s),pb (.list (sizes.map int)),w4,w4,w4,w4,w4]) wZ ?_;unfold TL;refine U6 (KI (Ze (UH (UK wZ) (UH (UU (WN UM) (UK wZ) X8) UO)) Bz) (Qa wZ) wZ) ?_;refine U6 (KI (UK wZ) (Qa wZ) wZ) ?_;refine U6 (Zs (Yn UO (Qa wZ)) (Qa wZ) wZ) ?_;apply Ka;apply YB (ds:=ZW 0 sizes.length) (inv c s sizes (if -1-c > c then -1-c else c))
 case h1=>exact Ta (UH (KT wZ (by rw[KR,Qb])) UO) (Ti (by omega) (by omega))
 case h0=>exact⟨_,[],w4,w4,rfl,rfl,λj d z e=>by cases e⟩
 case hst=>exact λi d Z e h=>jp hs hl e h
 case hend=>rintro Z ⟨left,found,x6,x7,rfl,hf,hfd⟩;rw[WD]at hf;exact Kb (UY (KU rfl rfl) ⟨_,rfl,found,rfl,by omega,hfd⟩)
mutual
theorem Lw:∀(d:PyData),d.canLay0=w5->Ux d d=w5
 |.none,_=>rfl
 |.bool b,_=>by cases b<;>rfl
 |.int i,_=>by simp[Ux]
 |.str s,_=>by simp[Ux]
 |.list xs,h=>eqvAll_refl xs h
 |.tuple xs,h=>eqvAll_refl xs h
 |.dict _,h=>by cases h
theorem eqvAll_refl:∀(xs:List PyData),Uv xs=w5->PyData.eqvAll xs xs=w5
 |[],_=>rfl
 |x::r,h=>by
  have h:(PyData.canLay0 x&&Uv r)=w5:=h;rw[QL]at h
  show(Ux x x&&PyData.eqvAll r r)=w5
  rw[Lw x h.1,eqvAll_refl r h.2];rfl
end
theorem WX:∀{xs:w8},(∀x∈xs,PyData.canLay0 x=w5)->Uv xs=w5
 |[],_=>rfl
 |x::r,h=>by
  show(PyData.canLay0 x&&Uv r)=w5
  rw[h x Qo,WX λy hy=>h y (Qp _ hy)];rfl
theorem Tg{n:Nat}:∀{xs:w8},(∀x∈xs,Uw x<=n)->PyData.depthAll xs<=n
 |[],_=>by simp[PyData.depthAll]
 |x::r,h=>by have h1:=h x Qo;have h2:=Tg (n:=n) λy hy=>h y (Qp _ hy);simp only[PyData.depthAll];omega
def KM(r:w9):D:=.list (r.map int)
def Ks(rs:List w9):D:=.list (rs.map KM)
noncomputable def U2(cs:w9)(ls:L3):D:=.tuple [.list (cs.map int),.list (ls.map Ks)]
structure VP(n:Nat)(rs:List w9):Prop where
 few:rs.length<=5
 some:∀r∈rs,r≠[]
 there:∀r∈rs,∀t∈r,0<=t/\t<n
 once:rs.flatten.Nodup
structure Good(cs:w9)(ls:L3):Prop where
 c1:1<=cs.length
 c6:cs.length<=6
 c7:∀c∈cs,0<=c/\c<8
 l1:1<=ls.length
 l7:ls.length<=7
 rk:∀rs∈ls,VP cs.length rs
theorem Pw(r:w9):(KM r).canLay0=w5:=WX λx hx=>by obtain⟨y,_,rfl⟩:=Qz.mp hx;rfl
theorem Mw(i:Int):(int i).depth<=1:=by simp[Uw]
theorem Sw{n:Nat}{xs:w8}(h:PyData.depthAll xs<=n):(Ur xs).depth<=n+1:=by simp only[Uw];omega
theorem Ay(r:w9):(KM r).depth<=2:=Sw (Tg λx hx=>by obtain⟨y,_,rfl⟩:=Qz.mp hx;exact Mw y)
theorem jo(i:Int):Ws [.int i]=O (.bool w5):=by refine KS (Z:=[pb (.int i)]) wZ ?_;unfold T5;exact UY (YY (Ko (UK wZ)) (λ_=>OF (Ko (UK wZ)))) wZ
theorem PH{i m:Int}(h0:0<=i)(h1:i<m):K6 [.int i,.int m]=O (.bool w5):=by
 refine KS (Z:=[pb (.int i),pb (.int m)]) wZ ?_;unfold Vg;have hb:(decide (0<=i)&&decide (i<m))=w5:=by simp[h0,h1]
 refine UY (YY (t:=w5) (u:=w5) (U8 (UH (UK wZ) UO) wZ (jo i)) (λ_=>?_)) wZ;rw[←hb];exact Ko (WS UM (UK wZ) wZ (λ_=>UK wZ) (λ_=>rfl))
theorem PF{α:Type}(l:List α):Yd [.list (l.map λ_=>.bool w5)]=O (.bool w5):=by
 have:(l.map λ_=>Us w5)=(l.map λ_=>w5).map Us:=by rw[Q3];rfl
 rw[this,MW]
 congr 2
 rw[List.all_map];induction l with
 |nil=>rfl
 |cons x r ih=>simpa using ih
theorem xg{r:w9}{n:Int}(hne:r≠[])(hl:r.length<=1000)(h:∀t∈r,0<=t/\t<n):Xf [KM r,.int n]=O (.bool w5):=by
 refine KS (Z:=[pb (KM r),pb (.int n)]) wZ ?_;unfold Vf;apply Ka;have hlen:U7 [KM r]=O (.int r.length):=by unfold KM;rw[KR,Qb]
 have hp:0<r.length:=List.length_pos_iff.mpr hne;apply UZ
 case h1=>exact Zt (Z1:=[pb (KM r),pb (.int n)]) (KP (UK wZ) wZ) (UU (KT wZ hlen) UM ZN)
 case h2=>
       intro hh;have:(r.length:Int)=0:=by simpa using hh
       omega
 case h3=>
  intro _;refine Ke (Kb ?_)
  have hc:KW (gN 2) (UJ w5) (UP 2 K6 (UF (UE 2) (UF (UE 1) (UG)))) (r.map int) (Kf [pb (KM r),pb (.int n)]++Uq 1 w4) []=O (r.map λ_=>.bool w5):=by
   rw[X1 (λ_=>w5) (λ_=>.bool w5) (λZ=>∃x,Z=[pb (KM r),pb (.int n),x])]
   .rw[Jj.mpr (λ_ _=>rfl),QX,Q3];rfl
   .rintro d hm Z ⟨x,rfl⟩
    obtain⟨t,ht,rfl⟩:=Qz.mp hm;exact⟨_,UT (Qa wZ) wZ,rfl,λ_=>U8 (UH (UK wZ) (UH (UK wZ) UO)) wZ (PH (h t ht).1 (h t ht).2),_,rfl⟩
   .exact⟨w4,rfl⟩
   .rw[Qb,QB];omega
  exact UY (Ze (UH (Ko (ZS (Zv (UK wZ) wZ) hc)) UO) (PF r)) wZ
theorem L5{a b c x3:Option Sl}(ha:Xm a=a)(hb:Xm b=b)(hc:Xm c=c)(hx:Xm x3=x3):∀(ds es:w8)(x4:Option Sl),es.length+ds.length<=1000000 ->
  ∃y,YC (gN 4) (UJ w5) (UE 4) ds [a,b,c,x3,x4] es=O (es++ds,[a,b,c,x3,y])
 |[],es,x4,_=>⟨x4,by rw[YC,Q4]⟩
 |d::r,es,x4,h=>by
  rw[QF]at h;obtain⟨y,e⟩:=L5 ha hb hc hx r (es++[d]) (O (.pub d)) (by rw[Qi,Jc];omega);refine⟨y,?_⟩;rw[YC];have h1:gN 4 d [a,b,c,x3,x4]=O [a,b,c,x3,pb d]:=UT (Qa wZ) wZ;rw[h1];dsimp only[UJ];rw[Qm wZ];have h2:UE 4 [a,b,c,x3,pb d]=.ok d [a,b,c,x3,pb d]:=UK wZ;rw[h2];dsimp only;rw[Qm (by omega)];have h3:Kf [a,b,c,x3,pb d]=[a,b,c,x3,pb d]:=by unfold Kf;simp only[Qy,List.map_nil,ha,hb,hc,hx];rfl
  rw[h3,e,Q0];rfl
theorem Nv{a b:D}:∀(rs:List w9)(es:w8)(x3 x4:Option Sl),es.length+rs.flatten.length<=1000000 ->
  XU (gN 3) (UJ w5) (KJ (UE 3)) (gN 4) (UJ w5) (UE 4) (rs.map KM) [pb a,pb b,w4,x3,x4] es=O (es++rs.flatten.map int)
 |[],es,_,_,_=>by rw[List.map_nil,XU];simp
 |r::rs,es,x3,x4,h=>by rw[QG,Qi]at h;rw[Qy,XU];have h1:gN 3 (KM r) [pb a,pb b,w4,x3,x4]=O [pb a,pb b,w4,pb (KM r),x4]:=UT (Qa wZ) wZ;rw[h1];dsimp only[UJ];rw[Qm wZ];have h2:KJ (UE 3) [pb a,pb b,w4,pb (KM r),x4]=.ok (r.map int) [pb a,pb b,w4,pb (KM r),x4]:=Zv (UK wZ) wZ;rw[h2];dsimp only;have h3:Kf [pb a,pb b,w4,pb (KM r),x4]=[pb a,pb b,w4,pb (KM r),Xm x4]:=rfl;rw[h3];obtain⟨y,e⟩:=L5 (a:=O (.pub a)) (b:=O (.pub b)) (c:=w4) (x3:=O (.pub (KM r))) wZ wZ wZ wZ (r.map int) es (Xm x4) (by rw[Qb];omega);rw[e];dsimp only;have ih:=Nv (a:=a) (b:=b) rs (es++r.map int) (O (.pub (KM r))) y (by rw[Qi,Qb];omega);refine Eq.trans ih ?_;rw[QG,QU,Q0]
theorem Nl{ns:w9}(h:ns.Nodup):Wy ns=ns.length:=by
 unfold Wy
 have:∀i,i<=ns.length->(PyProof.Rows.firstMet (λi=>ns.getD i 0) i).length=i:=by
  intro i;induction i with
  |zero=>intro _;rfl
  |succ i ih=>
   intro hi;rw[PyProof.Rows.firstMet_succ]
   have hany:(PyProof.Rows.firstMet (λi=>ns.getD i 0) i).any (· == ns.getD i 0)=w6:=by
    rw[PyProof.Rows.firstMet_any,List.any_eq_false];intro x hx;obtain⟨j,hj,rfl⟩:=Qz.mp hx;have hj:=Jq.mp hj;intro e;have e:ns.getD j 0=ns.getD i 0:=by simpa using e
    have l1:j<ns.length:=by omega
    have l2:i<ns.length:=by omega
    simp only[List.getD,Qg l1,Qg l2,JV]at e;exact absurd ((List.getElem_inj h).mp e) (by omega)
   unfold PyProof.Rows.step_dedup;rw[hany];rw[Qw (by decide),Qi,ih (by omega)];rfl
 exact this ns.length (Qq _)
theorem vA{rs:List w9}{n:Nat}(g:VP n rs)(hn:n<=6)(hf:rs.flatten.length<=1000):Xe [Ks rs,.int n]=O (.bool w5):=by
 refine KS (Z:=[pb (Ks rs),pb (.int n),w4]) wZ ?_;unfold Ve;have hlen:U7 [Ks rs]=O (.int rs.length):=by unfold Ks;rw[KR,Qb]
 have h5:=g.few;have zW:∀r∈rs,r.length<=1000:=λr hr=>QH (List.Sublist.length_le (List.sublist_flatten_of_mem hr)) hf;apply Ka;apply UZ
 case h1=>exact Zt (Z1:=[pb (Ks rs),pb (.int n),w4]) (KP (UK wZ) wZ) (UU (KT wZ hlen) UM wZ)
 case h2=>
       intro hh;have:(5:Int)<(rs.length:Int):=by simpa using hh
       omega
 case h3=>
  intro _;refine Ke (Kb ?_)
  have hc:KW (gN 3) (UJ w5) (UP 2 Xf (UF (UE 3) (UF (UE 1) (UG)))) (rs.map KM) (Kf [pb (Ks rs),pb (.int n),w4]++Uq 1 w4) []=O (rs.map λ_=>.bool w5):=by
   rw[X1 (λ_=>w5) (λ_=>.bool w5) (λZ=>∃x,Z=[pb (Ks rs),pb (.int n),w4,x])]
   .rw[Jj.mpr (λ_ _=>rfl),QX,Q3];rfl
   .rintro d hm Z ⟨x,rfl⟩
    obtain⟨r,hr,rfl⟩:=Qz.mp hm;exact⟨_,UT (Qa wZ) wZ,rfl,λ_=>U8 (UH (UK wZ) (UH (UK wZ) UO)) wZ (xg (g.some r hr) (zW r hr) (g.there r hr)),_,rfl⟩
   .exact⟨w4,rfl⟩
   .rw[Qb,QB];omega
  apply Ka;apply UZ
  case h1=>exact ZA (Z8 (Ze (UH (Ko (ZS (Zv (UK wZ) wZ) hc)) UO) (PF rs)))
  case h2=>intro hh;cases hh
  case h3=>
   intro _;refine Ke (Kb ?_);have h2:V5 (KJ (UE 0)) 2 (gN 3) (UJ w5) (KJ (UE 3)) (gN 4) (UJ w5) (UE 4) [pb (Ks rs),pb (.int n),w4]=.ok (rs.flatten.map int) [pb (Ks rs),pb (.int n),w4]:=by unfold V5;have e1:KJ (UE 0) [pb (Ks rs),pb (.int n),w4]=.ok (rs.map KM) [pb (Ks rs),pb (.int n),w4]:=Zv (UK wZ) wZ;rw[e1];dsimp only;have e2:=Nv (a:=Ks rs) (b:=.int n) rs [] w4 w4 (by rw[QB];omega);have e3:XU (gN 3) (UJ w5) (KJ (UE 3)) (gN 4) (UJ w5) (UE 4) (rs.map KM) (Kf [pb (Ks rs),pb (.int n),w4]++Uq 2 w4) []=O ([]++rs.flatten.map int):=e2;rw[e3];rfl
   refine U6 (Zs h2 (Qa wZ) wZ) ?_;have hls:Wa [.list (rs.flatten.map int)]=O (.int rs.flatten.length):=by unfold Wa;dsimp only;rw[Tk];dsimp only;rw[Qm (by omega),Nl g.once]
   refine UY (Ko (UU (Ze (UH (KU wZ wZ) UO) hls) (KT wZ KR) ZN)) ?_;rw[Qb];simp
theorem Wz{d:D}:∀{xs:w8}{k i:Nat},(Z7 k xs)[i]?=O d->∃x,xs[i]?=O x/\d=.tuple [.int ((k+i:Nat):Int),x]
 |[],k,i,h=>by cases h
 |x::r,k,0,h=>by cases h;exact⟨x,rfl,rfl⟩
 |x::r,k,i+1,h=>by obtain⟨y,e,q⟩:=Wz (xs:=r) (k:=k+1) (i:=i) h;exact⟨y,e,by rw[q];congr 4;omega⟩
theorem RD:∀(n:Nat)(l:w9),l.Nodup->(∀x∈l,0<=x/\x<n)->l.length<=n
 |0,[],_,_=>Qq _
 |0,x::r,_,h=>by have:=h x Qo;omega
 |n+1,l,hn,h=>by
  by_cases hm:(n:Int)∈l
  .have:=RD n (l.erase (n:Int)) (hn.erase _) λx hx=>by
    have h1:=(List.Nodup.mem_erase_iff hn).mp hx;have h2:=h x h1.2;have h3:=h1.1;omega
   rw[List.length_erase_of_mem hm]at this;omega
  .have:=RD n l hn λx hx=>by
    have h2:=h x hx;have h3:x≠(n:Int):=λe=>hm (e ▸ hx);omega
   omega
theorem SB{n:Nat}{rs:List w9}(g:VP n rs):rs.flatten.length<=n:=RD n _ g.once λx hx=>by obtain⟨r,hr,hxr⟩:=Ua.mp hx;exact g.there r hr x hxr
theorem jn{cs:w9}(h1:1<=cs.length)(h6:cs.length<=6)(h:∀c∈cs,0<=c/\c<8):Wr [.list (cs.map int)]=O .none:=by
 refine Rv (Z:=[pb (.list (cs.map int)),w4,w4]) wZ ?_;unfold T4;have hlen:U7 [.list (cs.map int)]=O (.int cs.length):=by rw[KR,Qb]
 apply Ka;apply UZ
 case h1=>exact Zt (Z1:=[pb (.list (cs.map int)),w4,w4]) (KP (UK wZ) wZ) (ZA (WS UM (KT wZ hlen) wZ (λ_=>UM) (λ_=>rfl)))
 case h2=>
  intro hh;have a1:(1:Int)<=(cs.length:Int):=by omega
  have a2:(cs.length:Int)<=6:=by omega
  simp[a1,a2]at hh
 case h3=>
  intro _;refine Ke (Kb ?_);apply YB (λ_ Z=>∃x1 x2,Z=[pb (.list (cs.map int)),x1,x2])
  case h1=>exact X9 (UH (UK wZ) UO) Wc
  case h0=>exact⟨_,_,rfl⟩
  case hst=>
   rintro i d Z hi ⟨x1,x2,rfl⟩;obtain⟨x,hx,rfl⟩:=Wz hi;obtain⟨c,hc,rfl⟩:=Qz.mp (Qv hx);refine⟨_,Kz wZ (U1 (UT (Qa wZ) wZ) (U1 (UT (Qa wZ) wZ) KB)),?_⟩;unfold MG;apply UZ
   case h1=>exact ZA (Z8 (U8 (UH (UK wZ) (UH (UU UM UM Zj) UO)) wZ (PH (h c hc).1 (by have:=(h c hc).2;omega))))
   case h2=>intro hh;cases hh
   case h3=>exact λ_=>Ke (Yk ⟨_,_,rfl⟩)
  case hend=>exact λZ ⟨x1,x2,e⟩=>⟨_,rfl⟩
theorem Ax{ls:L3}{n:Nat}(hn:n<=6)(h1:1<=ls.length)(h7:ls.length<=7)(h:∀rs∈ls,VP n rs):Wq [.list (ls.map Ks),.int n]=O .none:=by
 refine Rv (Z:=[pb (.list (ls.map Ks)),pb (.int n),w4,w4]) wZ ?_;unfold T3;have hlen:U7 [.list (ls.map Ks)]=O (.int ls.length):=by rw[KR,Qb]
 apply Ka;apply UZ
 case h1=>exact Zt (Z1:=[pb (.list (ls.map Ks)),pb (.int n),w4,w4]) (KP (UK wZ) wZ) (ZA (WS UM (KT wZ hlen) wZ (λ_=>UM) (λ_=>rfl)))
 case h2=>
  intro hh;have a1:(1:Int)<=(ls.length:Int):=by omega
  have a2:(ls.length:Int)<=7:=by omega
  simp[a1,a2]at hh
 case h3=>
  intro _;refine Ke (Kb ?_);apply YB (λ_ Z=>∃x2 x3,Z=[pb (.list (ls.map Ks)),pb (.int n),x2,x3])
  case h1=>exact X9 (UH (UK wZ) UO) Wc
  case h0=>exact⟨_,_,rfl⟩
  case hst=>
   rintro i d Z hi ⟨x1,x2,rfl⟩;obtain⟨x,hx,rfl⟩:=Wz hi;obtain⟨rs,hrs,rfl⟩:=Qz.mp (Qv hx);refine⟨_,Kz wZ (U1 (UT (Qa wZ) wZ) (U1 (UT (Qa wZ) wZ) KB)),?_⟩;unfold MH;have hfl:=SB (h rs hrs);apply UZ
   case h1=>exact ZA (Z8 (U8 (UH (UK wZ) (UH (UK wZ) UO)) wZ (vA (h rs hrs) hn (by omega))))
   case h2=>intro hh;cases hh
   case h3=>exact λ_=>Ke (Yk ⟨_,_,rfl⟩)
  case hend=>exact λZ ⟨x1,x2,e⟩=>⟨_,rfl⟩
theorem PU{cs:w9}{ls:L3}(g:Good cs ls):Yh [U2 cs ls]=O .none:=by
 refine Rv (Z:=[pb (U2 cs ls),w4,w4]) wZ ?_;unfold T2;apply Ka;apply UZ
 case h1=>exact Zt (Z1:=[pb (U2 cs ls),w4,w4]) (KP (UK wZ) wZ) (UU (KT wZ wZ) UM Xk)
 case h2=>intro hh;cases hh
 case h3=>
  intro _;refine Ke (Kb ?_);have hlen:U7 [.list (cs.map int)]=O (.int (cs.length:Nat)):=by rw[KR,Qb]
  refine U6 (XT (UK wZ) (Kz wZ (U1 (UT (Qa wZ) wZ) (U1 (UT (Qa wZ) wZ) KB)))) ?_;refine U6 (XZ (U8 (UH (UK wZ) UO) wZ (jn g.c1 g.c6 g.c7))) ?_;exact KQ (XZ (U8 (UH (UK wZ) (UH (KT wZ hlen) UO)) wZ (Ax g.c6 g.l1 g.l7 g.rk))) ⟨_,rfl⟩
theorem Lv:∀(xs ys:w9),PyData.eqvAll (xs.map int) (ys.map int)=decide (xs=ys)
 |[],[]=>rfl
 |[],y::ys=>by simp[PyData.eqvAll]
 |x::xs,[]=>by simp[PyData.eqvAll]
 |x::xs,y::ys=>by
  have ih:=Lv xs ys
  show(Ux (.int x) (.int y)&&PyData.eqvAll (xs.map int) (ys.map int))=_
  rw[ih];have:Ux (.int x) (.int y)=decide (x=y):=rfl;rw[this,Bool.eq_iff_iff];simp
theorem L4{xs:w9}:oNe (.list (xs.map int)) (.list [])=O (!decide (xs=[])):=by
 unfold oNe;have h1:(Ur (xs.map int)).canLay0=w5:=Pw xs;have h3:(Ur (xs.map int)).depth<=60:=by have:=Ay xs;unfold KM at this;omega
 rw[Qm ⟨h1,rfl,h3⟩]
 congr 2
 exact Lv xs []
theorem BJ{xs:w8}{x:D}(h:xs.getLast?=O x):oIx (.list xs) (.int (-1))=O x:=by
 unfold oIx atI;have hl:xs≠[]:=by rintro rfl;cases h
 have hp:0<xs.length:=List.length_pos_iff.mpr hl;rw[List.getLast?_eq_getElem?]at h
 show(ixN xs.length (-1)).bind _=_
 unfold ixN;rw[Qw (by decide),Qm (by omega)];have e2:(-1+(xs.length:Int)).toNat=xs.length-1:=by omega
 simp only[Option.bind_some];rw[e2];exact h
theorem Ow{xs:w9}{k:Nat}(h:k<xs.length):oIx (.list (xs.map int)) (.int k)=O (.int (xs.getD k 0)):=by refine Zm ?_;rw[Qh,Qg h];simp[List.getD,List.getElem?_eq_getElem h]
theorem RK(ns:w9)(k:Nat)(hl:ns.length<=1000):∃v,Yr [.list (ns.map int),.int k]=O (.int v):=by
 have hlen:U7 [.list (ns.map int)]=O (.int ns.length):=by rw[KR,Qb]
 by_cases h:k<ns.length
 .refine⟨ns.getD k 0,KS (Z:=[pb (.list (ns.map int)),pb (.int k)]) wZ ?_⟩
  unfold W8;apply Ka;apply UZ
  case h1=>exact K1 wZ (KT wZ hlen) wZ
  case h2=>exact λ_=>UY (Kh wZ (UK wZ) (Ow h)) (Kj wZ)
  case h3=>
        intro hh;have:¬(k:Int)<(ns.length:Int):=by simpa using hh
        omega
 .refine⟨0,KS (Z:=[pb (.list (ns.map int)),pb (.int k)]) wZ ?_⟩
  unfold W8;apply Ka;apply UZ
  case h1=>exact K1 wZ (KT wZ hlen) wZ
  case h2=>
        intro hh;have:(k:Int)<(ns.length:Int):=by simpa using hh
        omega
  case h3=>exact λ_=>Ke (Kb (UY UM wZ))
def tab:w9:=[1,1,2,0,3,7,1,4,5,6,1]
theorem N6{z:Int}(h0:0<=z)(h1:z<11):oIx (.list (tab.map int)) (.int z)=O (.int (tab.getD z.toNat 0))/\0<=tab.getD z.toNat 0/\tab.getD z.toNat 0<8:=by
 have e:z=0∨z=1∨z=2∨z=3∨z=4∨z=5∨z=6∨z=7∨z=8∨z=9∨z=10:=by omega
 rcases e with rfl|rfl|rfl|rfl|rfl|rfl|rfl|rfl|rfl|rfl|rfl<;>exact⟨rfl,by decide,by decide⟩
structure V6(n:Nat)(pl:w9)(j:Nat)(rs:List w9):Prop where
 few:rs.length<=j
 some:∀r∈rs,r≠[]
 there:∀r∈rs,∀t∈r,(0<=t/\t<n)/\pl.getD t.toNat 0<1+(j:Int)
 once:rs.flatten.Nodup
noncomputable def VC(n:Nat)(pl:w9)(r:Int):w9:=((Up n).filter λk=>decide (pl.getD k 0=r)).map λk:Nat=>(k:Int)
theorem vz(n:Nat)(pl:w9)(r:Int):(VC n pl r).Nodup:=by unfold VC;refine List.Pairwise.map _ (λa b h e=>h (by omega)) ((List.nodup_range).filter _)
theorem L1{n:Nat}{pl:w9}{r t:Int}(h:t∈VC n pl r):(0<=t/\t<n)/\pl.getD t.toNat 0=r:=by
 unfold VC at h;obtain⟨k,hk,rfl⟩:=Qz.mp h;have hk:=List.mem_filter.mp hk;have h1:=Jq.mp hk.1;have h2:pl.getD k 0=r:=by simpa using hk.2
 exact⟨⟨by omega,by omega⟩,by rw[Je];exact h2⟩
theorem V6.add{n:Nat}{pl:w9}{j:Nat}{rs:List w9}{row:w9}(g:V6 n pl j rs)(hne:row≠[])(hm:∀t∈row,t∈VC n pl (1+(j:Int)))(hn:row.Nodup):V6 n pl (j+1) (rs++[row]) where
 few:=by rw[Qi,Jc];have:=g.few;omega
 some:=λr hr=>by
  rcases QS.mp hr with z|z
  .exact g.some r z
  .rw[QO.mp z];exact hne
 there:=λr hr t ht=>by
  rcases QS.mp hr with z|z
  .have:=g.there r z t ht;exact⟨this.1,by omega⟩
  .rw[QO.mp z]at ht
   have:=L1 (hm t ht);exact⟨this.1,by omega⟩
 once:=by rw[List.flatten_append,List.flatten_singleton];refine List.nodup_append.mpr ⟨g.once,hn,λa ha b hb e=>?_⟩;subst e;obtain⟨r,hr,har⟩:=Ua.mp ha;have h1:=(g.there r hr a har).2;have h2:=(L1 (hm a hb)).2;omega
theorem V6.next{n:Nat}{pl:w9}{j:Nat}{rs:List w9}(g:V6 n pl j rs):V6 n pl (j+1) rs:=
 ⟨by have:=g.few;omega,g.some,λr hr t ht=>⟨(g.there r hr t ht).1,by have:=(g.there r hr t ht).2;omega⟩,g.once⟩
theorem Mv{x:D}{m:Nat}(h:m<=1000):Kn (.list [x]) (.int m)=O (.list (Uq m x)):=by
 rw[PX ⟨by omega,by omega,by rw[Je];show 1*m<=_;omega⟩,Je]
 congr 2
 induction m with
 |zero=>rfl
 |succ m ih=>rw[QT,QG,ih (by omega)];rfl
def szG(T A:Nat):w9:=(T:Int)::(A:Int)::Uq T 11
def Yo(T R:Nat):w9:=Uq T ((R:Int)+1)++[2]
theorem Mu{T A:Nat}:(szG T A).length=T+2:=by unfold szG;simp
theorem Lu{T R:Nat}:(Yo T R).length=T+1:=by unfold Yo;simp
theorem Ek{T A:Nat}(h1:1<=T)(h2:T<=6)(h3:1<=A)(h4:A<=7):∀x∈szG T A,0<x/\x<18446744073709551616:=λx hx=>by unfold szG at hx;simp only[Qx,Ju]at hx;rcases hx with rfl|rfl|⟨_,rfl⟩<;>omega
theorem Cg{T R:Nat}(h:R<=5):∀x∈Yo T R,0<x/\x<18446744073709551616:=λx hx=>by unfold Yo at hx;simp only[QS,QO,Ju]at hx;rcases hx with ⟨_,rfl⟩|rfl<;>omega
theorem jm{T R:Nat}:(Yo T R)[T]?=O 2:=by unfold Yo;simp
theorem Ej{T A k:Nat}(h:k<T):(szG T A)[2+k]?=O 11:=by unfold szG;rw[show 2+k=k+1+1 by omega,JU,JU,QA,Qm h]
def Oc(T A R:Nat)(S dz sz:D)(at_ n:Nat)(cs pl:w9)(ls:L3)(x9 zd:Option Sl)(j:Nat)(Z:UI):Prop:=∃(rs:List w9)(ac zJ:Option Sl),
 Z=[pb S,pb (.int at_),pb (.int (T:Nat)),pb (.int (A:Nat)),pb (.int (R:Nat)),pb sz,pb dz,O (.own (cs.map int)),O (.own (ls.map Ks)),x9,zd,pb (.list (pl.map int)),O (.own (rs.map KM)),ac,zJ]/\V6 n pl j rs
theorem xf{T A R:Nat}{S dz sz:D}{at_ n:Nat}{cs pl:w9}{ls:L3}{v9 v10:D}{j:Nat}{d:D}{Z:UI}{Q:Out->Prop}(hcs:cs.length=n)(hT:T<=6)(hR:R<=5)(hn:n<=T)(hpl:pl.length=T+1)(zA:pl.getD T 0=0∨pl.getD T 0=1)
  (hj:(ZW 1 ((R:Int)+1))[j]?=O d) (h:Oc T A R S dz sz at_ n cs pl ls (O (.pub v9)) (O (.pub v10)) j Z) :
  ∃Z2,gN 13 d Z=O Z2/\Ho Oy Z2 (VX (Oc T A R S dz sz at_ n cs pl ls (O (.pub v9)) (O (.pub v10)) (j+1)) Q):=by
 obtain⟨rs,ac,zJ,rfl,g⟩:=h;obtain⟨rfl,hlt⟩:=Tf hj;have hj5:j<R:=by omega
 refine⟨_,UT (Qa wZ) wZ,?_⟩;unfold Oy
 have hrd:ZW 0 ((n:Nat):Int)=(Up n).map λk=>.int (k:Int):=by
  unfold ZW;have:((n:Int)-0).toNat=n:=by omega
  rw[this];apply List.map_congr_left;intro k _;rw[Int.zero_add]
 have hc:KW (gN 15) (UN oEq (UQ 11 (UE 15)) (UE 13)) (UE 15) (ZW 0 ((n:Nat):Int)) (Kf [pb S,pb (.int at_),pb (.int (T:Nat)),pb (.int (A:Nat)),pb (.int (R:Nat)),pb sz,pb dz,O (.own (cs.map int)),O (.own (ls.map Ks)),pb v9,pb v10,pb (.list (pl.map int)),O (.own (rs.map KM)),pb (.int (1+(j:Int))),zJ]++Uq 1 w4) []=O ((VC n pl (1+(j:Int))).map int):=by
  rw[hrd,X1 (λd=>match d with | .int k=>decide (pl.getD k.toNat 0=1+(j:Int))|_=>w6) (λd=>d) (λZ=>∃x,Z=[pb S,pb (.int at_),pb (.int (T:Nat)),pb (.int (A:Nat)),pb (.int (R:Nat)),pb sz,pb dz,w4,w4,pb v9,pb v10,pb (.list (pl.map int)),w4,pb (.int (1+(j:Int))),Xm zJ,x])]
  .rw[QX,List.map_id',List.filter_map]
   unfold VC;rw[Q3];rfl
  .rintro d hm Z ⟨x,rfl⟩
   obtain⟨k,hk,rfl⟩:=Qz.mp hm;have hk:=Jq.mp hk;refine⟨_,UT (Qa wZ) wZ,UU (Kh wZ (UK wZ) (Ow (by omega))) (UK wZ) ZN,λ_=>UK wZ,pb (.int k),?_⟩;unfold Kf;cases zJ with
   |none=>rfl
   |some sl=>cases sl<;>rfl
  .exact⟨w4,rfl⟩
  .rw[Qb,Jk,QB];omega
 have hlen:(cs.map int).length=n:=by rw[Qb,hcs]
 refine U6 (Zs (ZS (Ta (UH (Po wZ) UO) (by rw[hlen];exact Ti (by omega) (by omega))) hc) (Qa wZ) wZ) ?_;generalize ao:VC n pl (1+(j:Int))=row;apply UZ
 case h1=>exact jh wZ (Kq UO (by decide)) wZ L4
 case h2=>
  intro hh;have hne:row≠[]:=by simpa using hh
  have hlx:oIx (.list (pl.map int)) (.int (-1))=O (.int (pl.getD T 0)):=BJ (by rw[List.getLast?_eq_getElem?,Qb,hpl,Qh,Nat.add_sub_cancel,Qg (show T<pl.length by omega)];simp[List.getD,List.getElem?_eq_getElem (show T<pl.length by omega)])
  obtain⟨zm,hix,zp⟩:∃zm:w9,oIx (.list [.list (row.map int),.list (row.map int).reverse]) (.int (pl.getD T 0))=O (KM zm)/\(zm=row∨zm=row.reverse):=by
   rcases zA with e|e
   .rw[e];exact⟨row,rfl,.inl wZ⟩
   .rw[e];exact⟨row.reverse,by show O (Ur (row.map int).reverse)=_;unfold KM;rw[List.map_reverse],.inr wZ⟩
  have zW:(rs.map KM).length<1000000:=by rw[Qb];have:=g.few;omega
  refine KQ (WM wZ (UU (Kq (UH (KU wZ wZ) (UH (N9 (UK wZ) UM UM (YK (WN UM))) UO)) (Qa wZ)) (Kh wZ (WN UM) hlx) hix) wZ zW wZ) ?_;refine Yk ⟨rs++[zm],pb (.int (1+(j:Int))),pb (.list (row.map int)),by rw[QU];rfl,g.add ?_ ?_ ?_⟩
  .rcases zp with e|e<;>rw[e]
   .exact hne
   .exact λz=>hne (List.reverse_eq_nil_iff.mp z)
  .intro t ht
   rw[ao];rcases zp with e|e<;>rw[e]at ht
   .exact ht
   .exact List.mem_reverse.mp ht
  .have hnd:=vz n pl (1+(j:Int))
   rw[ao]at hnd;rcases zp with e|e<;>rw[e]
   .exact hnd
   .exact(List.reverse_perm row).nodup_iff.mpr hnd
 case h3=>exact λ_=>Ke (Yk ⟨rs,_,_,rfl,g.next⟩)
def Ob(T A R:Nat)(S dz sz:D)(at_ n:Nat)(cs:w9)(i:Nat)(Z:UI):Prop:=∃(ls:L3)(x9 zd yQ x12 ac zJ:Option Sl),
 Z=[pb S,pb (.int at_),pb (.int (T:Nat)),pb (.int (A:Nat)),pb (.int (R:Nat)),pb sz,pb dz,O (.own (cs.map int)),O (.own (ls.map Ks)),x9,zd,yQ,x12,ac,zJ]/\ls.length=i/\∀rs∈ls,VP n rs/\rs.length<=R
theorem vy{T A R:Nat}{ns:w9}{dz sz:D}{at_ n:Nat}{cs:w9}{i:Nat}{m:Int}{d:D}{Z:UI}{Q:Out->Prop}(hns:ns.length<=1000)(hT:T<=6)(hR:R<=5)(hcs:cs.length=n)(hn:n<=T)(hm:m<=100)
  (hi:(ZW 0 m)[i]?=O d) (h:Ob T A R (.list (ns.map int)) dz sz at_ n cs i Z) :
  ∃Z2,gN 9 d Z=O Z2/\Ho Ox Z2 (VX (Ob T A R (.list (ns.map int)) dz sz at_ n cs (i+1)) Q):=by
 obtain⟨ls,x9,zd,yQ,x12,ac,zJ,rfl,hl,hg⟩:=h;obtain⟨rfl,hlt⟩:=Tf hi;refine⟨_,UT (Qa wZ) wZ,?_⟩;unfold Ox;obtain⟨v,hv⟩:=RK ns (at_+1+i) hns;have ev:((at_:Int)+1+(0+(i:Int)))=((at_+1+i:Nat):Int):=by omega
 rw[←ev]at hv;refine U6 (KI (U8 (UH (UK wZ) (UH (UU (UU (UK wZ) UM Zj) (UK wZ) Zj) UO)) wZ hv) (Qa wZ) wZ) ?_;obtain⟨r,hF,pl,rfl,hpl,hpb⟩:=Tj v (11*(at_:Int)+3*(0+(i:Int))+1) (sizes:=Yo T R) (Cg hR) (by rw[Lu];omega);have hpl7:pl.length=T+1:=by rw[hpl,Lu]
 have hmul:Kn (.list [.int ((R:Int)+1)]) (.int (T:Nat))=O (.list (Uq T (.int ((R:Int)+1)))):=Mv (by omega);have hadd:U0 (.list (Uq T (.int ((R:Int)+1)))) (.list [.int 2])=O (.list ((Yo T R).map int)):=by rw[Yu (by rw[Qu];show T+1<=_;omega)];unfold Yo;rw[QU,JY];rfl
 refine U6 (KI (U8 (UH (UK wZ) (UH (UU (UU (UU UM (UK wZ) (RE (by decide) (by decide))) (UU UM (UK wZ) (RE (by decide) (by decide))) Zj) UM Zj) (UH (UU (UU (Kq (UH (UU (UK wZ) UM Zj) UO) (Qa wZ)) (UK wZ) hmul) (Kq (UH UM UO) (Qa wZ)) hadd) UO))) wZ hF) (Qa wZ) wZ) ?_;refine U6 (Zs (Yn UO (Qa wZ)) (Qa wZ) wZ) ?_
 have zA:pl.getD T 0=0∨pl.getD T 0=1:=by
  have e:pl[T]?=O pl[T]:=Qg (by omega);have:=hpb T pl[T] 2 e jm;have e2:pl.getD T 0=pl[T]:=by simp[List.getD,e]
  rw[e2];omega
 apply Ka;apply YB (Oc T A R (.list (ns.map int)) dz sz at_ n cs pl ls (O (.pub (.int (0+(i:Int))))) (O (.pub (.int v))))
 case h1=>exact MX (UH UM (UH (UU (UK wZ) UM Zj) UO)) (LS (by omega) (by omega) (by decide) (by decide))
 case h0=>exact⟨[],ac,zJ,rfl,⟨Qq _,λ_ h=>(by cases h),λ_ h=>(by cases h),List.nodup_nil⟩⟩
 case hst=>exact λj d Z e h=>xf hcs hT hR hn hpl7 zA e h
 case hend=>
  rintro Z ⟨rs,y13,y14,rfl,g⟩;refine Kb ?_;have hl5:(ZW 1 ((R:Int)+1)).length=R:=by rw[WD];omega
  rw[hl5]at g;have zH:(ls.map Ks).length<1000000:=by rw[Qb];omega
  refine KQ (WM wZ (KU wZ wZ) wZ zH wZ) ?_;refine Yk ⟨ls++[rs],pb (.int (0+(i:Int))),pb (.int v),pb (.list (pl.map int)),pb (.list (rs.map KM)),y13,y14,by rw[QU];rfl,by rw[Qi,hl];rfl,λx hx=>?_⟩;rcases QS.mp hx with z|z
  .exact hg x z
  .rw[QO.mp z];exact⟨⟨by have:=g.few;omega,g.some,λr hr t ht=>(g.there r hr t ht).1,g.once⟩,g.few⟩
theorem vQ(T A R:Nat){ns:w9}(hns:ns.length<=1000)(at_:Nat)(hT1:1<=T:=by decide)(hT:T<=6:=by decide)(hA1:1<=A:=by decide)(hA:A<=7:=by decide)(hR:R<=5:=by decide):∃r,Vu [.list (ns.map int),.int at_,.int (T:Nat),.int (A:Nat),.int (R:Nat)]=O r/\∃cs ls,r=U2 cs ls/\Good cs ls/\cs.length<=T/\ls.length<=A/\∀rs∈ls,rs.length<=R:=by
 obtain⟨v,hv⟩:=RK ns at_ hns;obtain⟨r,hF,ds,rfl,hl,hd⟩:=Tj v at_ (sizes:=szG T A) (Ek hT1 hT hA1 hA) (by rw[Mu];omega);have hl8:ds.length=T+2:=by rw[hl,Mu]
 have at':∀(j:Nat)(k z:Int),k=j->(szG T A)[j]?=O z->∃d,oIx (.list (ds.map int)) (.int k)=O (.int d)/\ds[j]?=O d/\0<=d/\d<z:=λj k z hk hz=>by
  subst hk;have hj:j<ds.length:=by rw[hl];exact(Ql.mp hz).1
  have e:ds[j]?=O ds[j]:=Qg hj;obtain⟨p0,p1⟩:=hd j ds[j] z e hz;exact⟨ds[j],Zm (by rw[Qh,e];rfl),e,p0,p1⟩
 obtain⟨d0,x0,e0,p0,q0⟩:=at' 0 0 T wZ wZ;obtain⟨d1,x1,e1,p1,q1⟩:=at' 1 1 A wZ wZ;have hmul:Kn (.list [.int 11]) (.int (T:Nat))=O (.list (Uq T (.int 11))):=Mv (by omega);have hadd:U0 (.list [.int (T:Nat),.int (A:Nat)]) (.list (Uq T (.int 11)))=O (.list ((szG T A).map int)):=by rw[Yu (by rw[Qu];show 2+T<=_;omega)];unfold szG;rw[Qy,Qy,JY];rfl
 obtain⟨n,hn⟩:∃n:Nat,1+d0=n:=⟨(1+d0).toNat,by omega⟩
 refine WL (Z:=[pb (.list (ns.map int)),pb (.int at_),pb (.int (T:Nat)),pb (.int (A:Nat)),pb (.int (R:Nat)),w4,w4,w4,w4,w4,w4,w4,w4,w4,w4]) wZ ?_;unfold TK;refine U6 (KI (UU (Kq (UH (UK wZ) (UH (UK wZ) UO)) (Qa wZ)) (UU (Kq (UH UM UO) (Qa wZ)) (UK wZ) hmul) hadd) (Qa wZ) wZ) ?_;refine U6 (KI (U8 (UH (U8 (UH (UK wZ) (UH (UK wZ) UO)) wZ hv) (UH (UK wZ) (UH (UK wZ) UO))) wZ hF) (Qa wZ) wZ) ?_
 have zE:DL.cutD (ds.map int) (O 2) (O (3+d0))=((ds.drop 2).take n).map int:=by
  rw[O8 (by decide) (by omega) (by omega)];have:(3+d0).toNat-(2:Int).toNat=n:=by omega
  rw[this];rfl
 have zS:((ds.drop 2).take n).length=n:=by rw[Jg,Jw,hl8];omega
 have each:∀z∈(ds.drop 2).take n,0<=z/\z<11:=λz hz=>by
  have hz:=J4 hz;obtain⟨k,hk,e⟩:=List.getElem_of_mem hz;rw[Jw,hl8]at hk;rw[List.getElem_drop]at e;have e2:ds[2+k]?=O z:=by rw[←e];exact Qg _
  refine hd (2+k) z 11 e2 (Ej ?_);omega
 let cs:w9:=((ds.drop 2).take n).map λz=>tab.getD z.toNat 0
 have hcl:cs.length=n:=by show(List.map _ _).length=n;rw[Qb,zS]
 have hc:∀xs:List (Option Sl),Kf xs=xs->xs.length=15->KW (gN 15) (UJ w5) (UN oIx (UV (UF (UJ (.int 1)) (UF (UJ (.int 1)) (UF (UJ (.int 2)) (UF (UJ (.int 0)) (UF (UJ (.int 3)) (UF (UJ (.int 7)) (UF (UJ (.int 1)) (UF (UJ (.int 4)) (UF (UJ (.int 5)) (UF (UJ (.int 6)) (UF (UJ (.int 1)) (UG))))))))))))) (UE 15)) (((ds.drop 2).take n).map int) (Kf xs++Uq 1 w4) []=O (cs.map int):=by
  intro xs hx am;rw[hx,X1 (λ_=>w5) (λd=>match d with | .int z=>.int (tab.getD z.toNat 0)|_=>.none) (λZ=>∃x,Z=xs++[x])]
  .rw[Jj.mpr (λ_ _=>rfl),QX,Q3]
   show _=O ((((ds.drop 2).take n).map λz=>tab.getD z.toNat 0).map int);rw[Q3];rfl
  .rintro d hm Z ⟨x,rfl⟩
   obtain⟨z,hz,rfl⟩:=Qz.mp hm;have ht:=N6 (each z hz).1 (each z hz).2;have hset:(xs++[x]).set 15 (O (Sl.pub (.int z)))=xs++[pb (.int z)]:=by rw[List.set_append_right _ _ (by omega),am];rfl
   have hget:(xs++[O (Sl.pub (.int z))])[15]?=O (O (Sl.pub (.int z))):=by rw[Qt (by omega),am];rfl
   refine⟨_,UT (by rw[Qi,am];exact Qa wZ) hset,rfl,λ_=>?_,pb (.int z),?_⟩
   .exact UU (Kq (UH UM (UH UM (UH UM (UH UM (UH UM (UH UM (UH UM (UH UM (UH UM (UH UM (UH UM UO))))))))))) (Qa wZ)) (UK hget) ht.1
   .unfold Kf at hx⊢
    rw[QU,hx];rfl
  .exact⟨w4,rfl⟩
  .rw[Qb,zS,QB];omega
 refine U6 (Zs (ZS (Zv (X5 (UK wZ) (YK UM) (YK (UU UM (Kh wZ UM x0) Zj)) (by rw[Wb,zE])) YJ) (hc _ wZ wZ)) (Qa wZ) wZ) ?_;refine U6 (Zs (Yn UO (Qa wZ)) (Qa wZ) wZ) ?_;apply Ka;apply YB (Ob T A R (.list (ns.map int)) (.list (ds.map int)) (.list ((szG T A).map int)) at_ n cs)
 case h1=>exact Ta (UH (UU UM (Kh wZ UM x1) Zj) UO) (Ti (by omega) (by omega))
 case h0=>exact⟨[],_,_,_,_,_,_,rfl,rfl,λ_ h=>by cases h⟩
 case hst=>exact λi d Z e h=>vy hns hT hR hcl (by omega) (by omega) e h
 case hend=>rintro Z ⟨ls,y9,y10,y11,y12,y13,y14,rfl,zH,hg⟩;rw[WD]at zH;refine Kb (UY (ZK (UH (KU rfl rfl) (UH (KU rfl rfl) UO)) (Qa rfl)) ⟨_,rfl,cs,ls,rfl,⟨?_,by omega,by omega,λrs hrs=>(hg rs hrs).2⟩⟩);exact⟨by omega,by omega,λc hc=>by obtain⟨z,hz,rfl⟩:=Qz.mp hc;exact(N6 (each z hz).1 (each z hz).2).2,by omega,by omega,λrs hrs=>by rw[hcl];exact(hg rs hrs).1⟩
noncomputable def Xp(t:Int)(rs:List w9):Nat:=if rs.findIdx (λr=>r.contains t)<rs.length then rs.findIdx (λr=>r.contains t)+1 else 0
theorem Cf(a b:Int):Ux (.int a) (.int b)=(a==b):=by simp[Ux]
theorem Ov(t:Int)(r:w9):oIn (.int t) (KM r)=O (r.contains t):=by
 have h1:Uv (r.map int)=w5:=by
  induction r with
  |nil=>rfl
  |cons x r ih=>rw[Qy];unfold Uv;rw[ih];rfl
 unfold oIn KM;dsimp only;rw[Qm ⟨rfl,h1,J0 _⟩]
 congr 1
 rw[List.any_map];clear h1;induction r with
 |nil=>rfl
 |cons x r ih=>
  rw[List.any_cons,ih,QW]
  congr 1
  show Ux (.int x) (.int t)=(t==x);rw[Cf];exact Bool.eq_iff_iff.2 ⟨λh=>beq_iff_eq.2 (beq_iff_eq.1 h).symm,λh=>beq_iff_eq.2 (beq_iff_eq.1 h).symm⟩
theorem jl{t:Int}{rs:List w9}{i:Nat}{r:w9}(hr:rs[i]?=O r)(h:r.contains t=w5)(hb:∀j r,j<i->rs[j]?=O r->r.contains t=w6):Xp t rs=1+i:=by obtain⟨hi,e⟩:=List.getElem?_eq_some_iff.1 hr;have hf:rs.findIdx (λr=>r.contains t)=i:=(List.findIdx_eq hi).2 ⟨by rw[e];exact h,λj hj=>hb j _ hj (Qg (Nat.lt_trans hj hi))⟩;unfold Xp;rw[hf,Qm hi,Nat.add_comm]
theorem jk{t:Int}{rs:List w9}(hb:∀j r,j<rs.length->rs[j]?=O r->r.contains t=w6):Xp t rs=0:=by
 have hf:rs.findIdx (λr=>r.contains t)=rs.length:=List.findIdx_eq_length.2 λr hr=>by obtain⟨j,hj,e⟩:=List.mem_iff_getElem.1 hr;exact hb j r hj (by rw[Qg hj,e])
 unfold Xp;rw[hf,Qw (Jy _)]
theorem HV(t:Int)(rs:List w9):Z6 [Ks rs,.int t]=O (.int (Xp t rs:Nat)):=by
 refine KS (Z:=[pb (Ks rs),pb (.int t),w4,w4]) wZ ?_;unfold Vd;apply Ka;apply YB (λi Z=>(∃x2 x3,Z=[pb (Ks rs),pb (.int t),x2,x3])/\∀j r,j<i->rs[j]?=O r->r.contains t=w6)
 case h1=>exact LR (UH (UK wZ) UO) HB
 case h0=>exact⟨⟨_,_,rfl⟩,λj r h=>absurd h (Nat.not_lt_zero _)⟩
 case hst=>
  rintro i d Z hi ⟨⟨x2,x3,rfl⟩,hb⟩;obtain⟨x,hx,rfl⟩:=Wz hi;rw[Qh]at hx;cases hr:rs[i]? with
  |none=>rw[hr]at hx;cases hx
  |some r=>
   rw[hr]at hx;cases hx;refine⟨_,Kz wZ (U1 (UT (Qa wZ) wZ) (U1 (UT (Qa wZ) wZ) KB)),?_⟩;unfold OC;apply UZ
   case h1=>exact K1 wZ (UK wZ) (Ov t r)
   case h2=>intro hh;refine UY (UK wZ) (V8 ?_);rw[jl hr hh hb];exact⟨rfl⟩
   case h3=>
    intro hh;refine Ke (Yk ⟨⟨_,_,rfl⟩,λj r' hj hr'=>?_⟩);rcases Nat.lt_succ_iff_lt_or_eq.1 hj with h|rfl
    .exact hb j r' h hr'
    .rw[hr]at hr';cases hr';exact hh
 case hend=>rintro Z ⟨⟨x2,x3,rfl⟩,hb⟩;rw[X2,Qb]at hb;refine Kb ?_;rw[jk hb];exact UY UM rfl
def Kg:yg->D
 |none=>.none
 |some t=>.int t
def Kr(ws:LO):D:=.list (ws.map Kg)
structure Deal(cs:w9)(ls:L3)(ws:LO):Prop where
 len:ws.length=ls.length
 wish:∀(i:Nat) t rs,ws[i]?=O (O t)->ls[i]?=O rs->t∈rs.flatten
 cop:∀(k:Nat) c,cs[k]?=O c->((ws.count (O (k:Int)):Nat):Int)<=c
theorem Aw(ws:LO):Uv (ws.map Kg)=w5:=WX λx hx=>by obtain⟨y,_,rfl⟩:=Qz.mp hx;cases y<;>rfl
theorem MS(a b:yg):Ux (Kg a) (Kg b)=decide (a=b):=by rw[Bool.eq_iff_iff];cases a<;>cases b<;>simp[Kg,Ux]
theorem xb{ws:LO}{k:Int}:WT (Kr ws) (.int k)=O (.int (ws.count (O k):Nat)):=by
 unfold Kr WT;dsimp only;rw[if_pos ⟨rfl,Aw ws,by simp[Uw]⟩]
 congr 3
 induction ws with
 |nil=>rfl
 |cons w r ih=>
  rw[Qy,List.countP_cons,List.count_cons,ih]
  congr 1
  have:=MS w (O k);have e:Kg (O k)=.int k:=rfl;rw[e]at this;rw[this];cases w with
  |none=>simp
  |some z=>simp
theorem Av{f:M w8}{k:Nat}{s:D->UI->ye}{t:M Bool}{g:M D}{Z Z1:UI}{ds es:w8}(h1:f Z=.ok ds Z1)(h2:KW s t g ds (Yi Z1++Uq k w4) []=O es)(h3:es.all flat=w5):Ry f k s t g Z=.ok es Z1:=by unfold Ry;rw[h1];dsimp only;rw[h2];dsimp only;rw[if_pos h3]
theorem L0{cs:w9}{ls:L3}{rs:List w9}{i:Nat}(hi:ls[i]?=O rs)(hl:rs.flatten.length<64):XG [U2 cs ls,.int i]=O (.list ((ZR rs.flatten).map int)):=by
 refine KS (Z:=[pb (U2 cs ls),pb (.int i)]) wZ ?_;unfold TJ;have i1:oIx (U2 cs ls) (.int 1)=O (.list (ls.map Ks)):=Zm (j:=1) wZ;have i2:oIx (.list (ls.map Ks)) (.int i)=O (Ks rs):=Zm (by rw[Qh,hi];rfl)
 have hs:Sm [Ks rs,.list []]=O (.list (rs.flatten.map int)):=by
  have e:Ks rs=.list ((rs.map λr=>r.map int).map Ur):=by unfold Ks;rw[Q3];rfl
  have e2:(rs.map λr=>r.map int).flatten=rs.flatten.map int:=by rw[List.map_flatten]
  rw[e];unfold Sm;dsimp only;rw[vv];dsimp only;rw[e2,Qm (by rw[Qb];omega)]
 exact UY (Ze (UH (Ze (UH (UU (Kh wZ UM i1) (UK wZ) i2) (UH (Kq UO (Qa wZ)) UO)) hs) UO) (HE hl)) wZ
structure Te(cs:w9)(ls:L3)(lf:w9)(ws:LO):Prop where
 wish:∀(i:Nat) t rs,ws[i]?=O (O t)->ls[i]?=O rs->t∈rs.flatten
 len:lf.length=cs.length
 cop:∀(k:Nat) c,cs[k]?=O c->lf[k]?=O (c-((ws.count (O (k:Int)):Nat):Int))/\0<=c-((ws.count (O (k:Int)):Nat):Int)
theorem LZ{ls:L3}{ws:LO}{o:yg}{rs:List w9}(h:∀(i:Nat) t rs,ws[i]?=O (O t)->ls[i]?=O rs->t∈rs.flatten)(hi:ls[ws.length]?=O rs)(ho:∀t,o=O t->t∈rs.flatten) :
  ∀(i:Nat) t rs,(ws++[o])[i]?=O (O t)->ls[i]?=O rs->t∈rs.flatten:=by
 intro j t rs' e1 e2;by_cases hj:j<ws.length
 .rw[Qs hj]at e1;exact h j t rs' e1 e2
 .by_cases ax:j=ws.length
  .subst ax
   rw[hi]at e2;cases e2;rw[Qt (Qq _),Nat.sub_self,List.getElem?_cons_zero]at e1;cases e1;exact ho t wZ
  .rw[JH (by rw[Qi,Jc];omega)]at e1
   cases e1
theorem Te.none{cs:w9}{ls:L3}{lf:w9}{ws:LO}{rs:List w9}(d:Te cs ls lf ws)(hi:ls[ws.length]?=O rs):Te cs ls lf (ws++[Option.none]) where
 wish:=LZ d.wish hi λt e=>by cases e
 len:=d.len
 cop:=λk c e=>by rw[List.count_append];simpa using d.cop k c e
theorem Te.give{cs:w9}{ls:L3}{lf:w9}{ws:LO}{rs:List w9}{t v:Int}(d:Te cs ls lf ws)(hi:ls[ws.length]?=O rs)(ht:t∈rs.flatten)(h0:0<=t)(hv:lf[t.toNat]?=O v)(hp:0<v):Te cs ls (lf.set t.toNat (v-1)) (ws++[O t]) where
 wish:=LZ d.wish hi λt' e=>by cases e;exact ht
 len:=by rw[Q5];exact d.len
 cop:=λk c e=>by
  obtain⟨h1,h2⟩:=d.cop k c e;rw[List.count_append];by_cases hk:t=(k:Int)
  .subst hk
   rw[Je]at hv⊢;rw[h1]at hv;cases hv;have hl:k<lf.length:=(Ql.mp h1).1;rw[QK hl];simp only[List.count_singleton_self];refine⟨by congr 1;omega,by omega⟩
  .have hne:t.toNat≠k:=by omega
   rw[Qn hne];have:List.count (O (k:Int)) [O t]=0:=by rw[List.count_eq_zero];intro z;have:=QO.mp z;exact hk (Jf this).symm
   rw[this];exact⟨h1,h2⟩
theorem N5{os:LO}{k:Nat}(h:k<os.length):oIx (.list (os.map Kg)) (.int k)=O (Kg os[k]):=Zm (by rw[Qh,Qg h];rfl)
theorem Lr{ws:LO}{o:yg}:(ws++[o]).map Kg=ws.map Kg++[Kg o]:=by rw[QU];rfl
def Tq(cs:w9)(ls:L3)(c s:D)(dg:w9)(i:Nat)(Z:UI):Prop:=∃(lf:w9)(ws:LO)(x6 x7 x8:Option Sl),
 Z=[pb (U2 cs ls),pb c,pb s,O (.own (lf.map int)),pb (.list (dg.map int)),O (.own (ws.map Kg)),x6,x7,x8]/\ws.length=i/\Te cs ls lf ws
theorem xa{cs:w9}{ls:L3}{c s:D}{dg:w9}{i:Nat}{d:D}{Z:UI}{Q:Out->Prop}(g:Good cs ls)(hdl:dg.length=ls.length)(hd0:∀x∈dg,0<=x)(hi:(ZW 0 ls.length)[i]?=O d)(h:Tq cs ls c s dg i Z) :
  ∃Z2,gN 6 d Z=O Z2/\Ho Oz Z2 (VX (Tq cs ls c s dg (i+1)) Q):=by
 obtain⟨lf,ws,x6,x7,x8,rfl,hw,dl⟩:=h;obtain⟨rfl,hlt⟩:=Tf hi;have zB:i<ls.length:=by omega
 have hls:ls[i]?=O ls[i]:=Qg zB;have gr:=g.rk _ (Qv hls);have hfl:=SB gr;refine⟨_,UT (Qa wZ) wZ,?_⟩;unfold Oz;rw[Int.zero_add];generalize hrs:ls[i]=rs at *;have hmem:∀t∈ZR rs.flatten,t∈rs.flatten:=λt ht=>(WC _).mem_iff.mp ht
 have hthere:∀t∈rs.flatten,0<=t/\t<lf.length:=λt ht=>by obtain⟨r,hr,htr⟩:=Ua.mp ht;have:=gr.there r hr t htr;rw[dl.len];exact this
 let L:=(ZR rs.flatten).filter λt=>decide (0<lf.getD t.toNat 0)
 have hc:KW (gN 9) (UN (oIB λi j=>decide (j<i)) (UQ 3 (UE 9)) (UJ (.int 0))) (UE 9) ((ZR rs.flatten).map int) (Yi [pb (U2 cs ls),pb c,pb s,O (.own (lf.map int)),pb (.list (dg.map int)),O (.own (ws.map Kg)),pb (.int (i:Int)),x7,x8]++Uq 1 w4) []=O (L.map int):=by
  rw[X1 (λd=>match d with | .int t=>decide (0<lf.getD t.toNat 0)|_=>w6) (λd=>d) (λZ=>∃x y7 y8,Z=[pb (U2 cs ls),pb c,pb s,pb (.list (lf.map int)),pb (.list (dg.map int)),pb (.list (ws.map Kg)),pb (.int (i:Int)),y7,y8,x])]
  .rw[QX,List.map_id',List.filter_map]
   rfl
  .rintro d hm Z ⟨x,y7,y8,rfl⟩
   obtain⟨t,ht,rfl⟩:=Qz.mp hm;obtain⟨h0,h1⟩:=hthere t (hmem t ht);obtain⟨k,rfl⟩:∃k:Nat,t=k:=⟨t.toNat,by omega⟩
   refine⟨_,UT (Qa wZ) wZ,UU (Kh wZ (UK wZ) (Ow (by omega))) UM wZ,λ_=>UK wZ,pb (.int k),Xm y7,Xm y8,rfl⟩
  .exact⟨w4,Od x7,Od x8,rfl⟩
  .rw[Qb,QB,(WC _).length_eq];have:=g.c6;omega
 have hLl:L.length<=6:=by have:L.length<=(ZR rs.flatten).length:=List.length_filter_le _ _;rw[(WC _).length_eq]at this;have:=g.c6;omega
 have hadd:U0 (.list (L.map int)) (.list [.none])=O (.list ((L.map O++[w4]).map Kg)):=by rw[Yu (by rw[Qb];show L.length+1<=_;omega),QU,Q3];rfl
 refine U6 (KI (UU (Ko (Av (Zv (U8 (UH (UK wZ) (UH (UK wZ) UO)) wZ (L0 (cs:=cs) hls (by have:=g.c6;omega))) YJ) hc (by rw[List.all_map,Q2];exact λ_ _=>rfl))) (Kq (UH UM UO) (Qa wZ)) hadd) (Qa wZ) wZ) ?_;have hol:(L.map O++[w4]:LO).length=L.length+1:=by rw[Qi,Qb];rfl
 have hlen:U7 [.list ((L.map O++[w4]:LO).map Kg)]=O (.int ((L.length+1:Nat):Int)):=by rw[KR,Qb,hol]
 have hdi:dg[i]?=O dg[i]:=Qg (by omega);have hx0:=hd0 _ (Qv hdi);have hix:oIx (.list (dg.map int)) (.int (i:Int))=O (.int dg[i]):=Zm (by rw[Qh,hdi];rfl);have hm0:0<=dg[i] % ((L.length+1:Nat):Int):=Jl _ (by omega);have hm1:dg[i] % ((L.length+1:Nat):Int)<((L.length+1:Nat):Int):=Q9 _ (by omega);obtain⟨k,hk⟩:∃k:Nat,dg[i] % ((L.length+1:Nat):Int)=k:=⟨(dg[i] % ((L.length+1:Nat):Int)).toNat,by omega⟩
 have hkl:k<(L.map O++[w4]:LO).length:=by rw[hol];omega
 have zu:=N5 (os:=L.map O++[w4]) hkl;rw[←hk]at zu;generalize ho:(L.map O++[w4]:LO)[k]=o at zu;refine U6 (KI (Kh wZ (UU (Kh wZ (UK wZ) hix) (KT wZ hlen) (YX (by omega))) zu) (Qa wZ) wZ) ?_;have af:(ws.map Kg).length<1000000:=by rw[Qb];have:=g.l7;omega
 have aw:ls[ws.length]?=O rs:=by rw[hw];exact hls
 cases o with
 |none=>
  apply Ka;apply UZ
  case h1=>exact Sc (UK wZ) wZ
  case h2=>intro hh;cases hh
  case h3=>intro _;refine Ke (Kb ?_);refine KQ (WM wZ (UK wZ) wZ af wZ) ?_;exact Yk ⟨lf,ws++[w4],_,_,_,by rw[Lr (ws:=ws)];rfl,by rw[Qi,hw];rfl,dl.none aw⟩
 |some t=>
  have htL:t∈L:=by
   have hm:O t∈(L.map O++[w4]:LO):=ho ▸ JW hkl;rcases QS.mp hm with z|z
   .obtain⟨t',h1,h2⟩:=Qz.mp z
    cases h2;exact h1
   .cases QO.mp z
  obtain⟨htm,htp⟩:=List.mem_filter.mp htL;have htf:=hmem t htm;obtain⟨h0,h1⟩:=hthere t htf;have hv:lf[t.toNat]?=O lf[t.toNat]:=Qg (by omega);have hvd:lf.getD t.toNat 0=lf[t.toNat]:=by simp[List.getD,hv]
  have hpos:0<lf[t.toNat]:=by rw[hvd]at htp;simpa using htp
  have hvx:oIx (.list (lf.map int)) (.int t)=O (.int lf[t.toNat]):=Dw h0 (by rw[Qh,hv];rfl);apply Ka;apply UZ
  case h1=>exact Sc (UK wZ) wZ
  case h2=>intro _;refine KQ (V9 (UU (Sn wZ (UK wZ) wZ hvx) UM X8) wZ (UK wZ) wZ ⟨h0,by rw[Qb];exact h1⟩ wZ) ?_;refine Kb ?_;refine KQ (WM wZ (UK wZ) wZ af wZ) ?_;exact Yk ⟨lf.set t.toNat (lf[t.toNat]-1),ws++[O t],_,_,_,by rw[Lr (ws:=ws),←jg];rfl,by rw[Qi,hw];rfl,dl.give aw htf h0 hv hpos⟩
  case h3=>intro hh;cases hh
theorem kZ{cs:w9}{ls:L3}(g:Good cs ls)(c s:Int):∃r,Vs [U2 cs ls,.int c,.int s]=O r/\∃ws,r=Kr ws/\Deal cs ls ws:=by
 refine WL (Z:=[pb (U2 cs ls),pb (.int c),pb (.int s),w4,w4,w4,w4,w4,w4]) wZ ?_;unfold TF;have i0:oIx (U2 cs ls) (.int 0)=O (.list (cs.map int)):=Zm (j:=0) wZ;have i1:oIx (U2 cs ls) (.int 1)=O (.list (ls.map Ks)):=Zm (j:=1) wZ;have hlen:U7 [.list (ls.map Ks)]=O (.int ls.length):=by rw[KR,Qb]
 refine U6 (Zs (KL (UH (Kh wZ UM i0) UO) (ZI (show Xl [.list (cs.map int)]=O (cs.map int)from rfl))) (Qa wZ) wZ) ?_
 have hmul:Kn (.list [.int 61]) (.int ls.length)=O (.list ((Uq ls.length (61:Int)).map int)):=by
  rw[PX ⟨by omega,by have:=g.l7;omega,by show 1*_<=_;have:=g.l7;omega⟩]
  congr 2
  rw[Je];generalize ls.length=n;induction n with
  |zero=>rfl
  |succ n ih=>rw[QT,QG,ih,QT,Qy];rfl
 obtain⟨r,hF,dg,rfl,hdl,hdb⟩:=Tj c s (sizes:=Uq ls.length (61:Int)) (λx hx=>by rw[(Ju.mp hx).2];decide) (by rw[Qu];have:=g.l7;omega);rw[Qu]at hdl;refine U6 (KI (U8 (UH (UK wZ) (UH (UK wZ) (UH (UU (Kq (UH UM UO) (Qa wZ)) (Ze (UH (Kh wZ UM i1) UO) hlen) hmul) UO))) wZ hF) (Qa wZ) wZ) ?_;refine U6 (Zs (Yn UO (Qa wZ)) (Qa wZ) wZ) ?_;apply Ka;apply YB (Tq cs ls (.int c) (.int s) dg)
 case h1=>exact Ta (UH (Ze (UH (Kh wZ UM i1) UO) hlen) UO) (Ti (by have:=g.l7;omega) (by omega))
 case h0=>exact⟨cs,[],_,_,_,rfl,rfl,⟨λ_ _ _ h=>(by cases h),rfl,λk c e=>by have:=g.c7 c (Qv e);simp only[List.count_nil];exact⟨by rw[e];congr 1;omega,by omega⟩⟩⟩
 case hst=>exact λi d Z e h=>xa g hdl (λx hx=>by obtain⟨j,hj,e⟩:=List.mem_iff_getElem.mp hx;exact(hdb j x 61 (by rw[Qg hj,e]) (by rw[QA,Qm (by omega)])).1) e h
 case hend=>rintro Z ⟨lf,ws,x6,x7,x8,rfl,hw,dl⟩;rw[WD]at hw;refine Kb (UY (KU rfl rfl) ⟨_,rfl,ws,rfl,⟨by omega,dl.wish,λk c e=>by have:=(dl.cop k c e).2;omega⟩⟩)
theorem Xq{s:D->UI->ye}{t:M Bool}{g:M D}(I:UI->Prop):∀(ds qs:w8)(Z:UI)(es:w8),qs.length=ds.length ->
  (∀(i:Nat) d e,ds[i]?=O d->qs[i]?=O e->∀Z,I Z->∃Z1,s d Z=O Z1/\t Z1=.ok w5 Z1/\g Z1=.ok e Z1/\I (Kf Z1))->I Z->es.length+ds.length<=1000000->KW s t g ds Z es=O (es++qs)
 |[],[],Z,es,_,_,_,_=>by rw[KW,Q4]
 |d::r,e::q,Z,es,hl,st,h0,hz=>by obtain⟨Z1,e1,e2,e3,h1⟩:=st 0 d e wZ wZ Z h0;rw[QF]at hz;rw[KW,e1];dsimp only;rw[e2];dsimp only;rw[Qm wZ,e3];dsimp only;rw[if_pos (by omega),Xq I r q (Kf Z1) (es++[e]) (by simpa using hl) (λi d' e' x y=>st (i+1) d' e' (by simpa using x) (by simpa using y)) h1 (by rw[List.length_append,List.length_singleton];omega),List.append_assoc];rfl
noncomputable def rg(rs:List w9):yg->Int
 |none=>0
 |some t=>(Xp t rs:Nat)
noncomputable def KD(ls:L3)(ws:LO):w9:=List.zipWith rg ls ws
noncomputable def lng(ls:L3):Nat:=(most (ls.map λrs=>(rs.length:Int))).toNat
noncomputable def Zi(L:Nat)(got:w9):w9:=(Up L).map (λr:Nat=>((got.count (1+(r:Int)):Nat):Int))++[((got.count 0:Nat):Int)]
theorem Ce{ls:L3}(h:1<=ls.length):most (ls.map λrs=>(rs.length:Int))=(lng ls:Nat):=by
 have hm:most (ls.map λrs=>(rs.length:Int))∈ls.map λrs=>(rs.length:Int):=Pz (by rw[Qb];omega)
 obtain⟨rs,_,e⟩:=Qz.mp hm;unfold lng;omega
theorem Oj{ls:L3}{n:Nat}(h1:1<=ls.length)(h:∀rs∈ls,rs.length<=n):lng ls<=n:=by
 have hm:most (ls.map λrs=>(rs.length:Int))∈ls.map λrs=>(rs.length:Int):=Pz (by rw[Qb];omega)
 obtain⟨rs,hr,e⟩:=Qz.mp hm;have:=h rs hr;unfold lng;omega
theorem jG(t:Int)(rs:List w9):Xp t rs<=rs.length:=by
 unfold Xp
 split<;>omega
theorem vx(rs:List w9):Z6 [Ks rs,.none]=O (.int 0):=by
 refine KS (Z:=[pb (Ks rs),O (.pub .none),w4,w4]) wZ ?_;unfold Vd;apply Ka;apply YB (λi Z=>∃x2 x3,Z=[pb (Ks rs),O (.pub .none),x2,x3])
 case h1=>exact LR (UH (UK wZ) UO) HB
 case h0=>exact⟨_,_,rfl⟩
 case hst=>
  rintro i d Z hi ⟨x2,x3,rfl⟩;obtain⟨x,hx,rfl⟩:=Wz hi;rw[Qh]at hx;cases hr:rs[i]? with
  |none=>rw[hr]at hx;cases hx
  |some r=>
   rw[hr]at hx;cases hx;refine⟨_,Kz wZ (U1 (UT (Qa wZ) wZ) (U1 (UT (Qa wZ) wZ) KB)),?_⟩;unfold OC
   have hin:oIn .none (KM r)=O w6:=by
    have h1:Uv (r.map int)=w5:=Pw r;unfold oIn KM;dsimp only;rw[if_pos ⟨rfl,h1,by simp[Uw]⟩]
    congr 1
    rw[List.any_map,List.any_eq_false];intro x _;simp[Ux]
   apply UZ
   case h1=>exact K1 wZ (UK wZ) hin
   case h2=>intro hh;cases hh
   case h3=>exact λ_=>Ke (Yk ⟨_,_,rfl⟩)
 case hend=>rintro Z ⟨x2,x3,rfl⟩;exact Kb (UY UM rfl)
theorem vw(o:yg)(rs:List w9):Z6 [Ks rs,Kg o]=O (.int (rg rs o)):=by
 cases o with
 |none=>exact vx rs
 |some t=>exact HV t rs
section
variable{cs:w9}{ls:L3}{ws:LO}
theorem RP:oIx (U2 cs ls) (.int 0)=O (.list (cs.map int)):=Zm (j:=0) wZ
theorem XM:oIx (U2 cs ls) (.int 1)=O (.list (ls.map Ks)):=Zm (j:=1) wZ
theorem NE{i:Nat}{rs:List w9}(h:ls[i]?=O rs):oIx (.list (ls.map Ks)) (.int i)=O (Ks rs):=Zm (by rw[Qh,h];rfl)
theorem jF(rs:List w9):U7 [Ks rs]=O (.int rs.length):=by unfold Ks;rw[KR,Qb]
theorem PV(g:Good cs ls):Yg [U2 cs ls]=O (.int (lng ls:Nat)):=by
 refine KS (Z:=[pb (U2 cs ls)]) wZ ?_;unfold TZ;have hw:=PU g
 have hc:KW (gN 1) (UJ w5) (KH 1) (ls.map Ks) (Kf [pb (U2 cs ls)]++Uq 1 w4) []=O ((ls.map λrs=>(rs.length:Int)).map int):=by
  refine Xq (λZ=>∃x,Z=[pb (U2 cs ls),x]) _ _ _ _ (by rw[Qb,Qb,Qb]) ?_ ⟨w4,rfl⟩ (by rw[Qb,QB];have:=g.l7;omega);rintro i d e hd he Z ⟨x,rfl⟩;rw[Qh]at hd;rw[Qh,Qh]at he;cases hl:ls[i]? with
  |none=>rw[hl]at hd;cases hd
  |some rs=>
  rw[hl]at hd he;cases hd;cases he;exact⟨_,UT (Qa wZ) wZ,rfl,KT wZ (jF rs),_,rfl⟩
 refine U6 (XZ (U8 (UH (UK wZ) UO) wZ hw)) ?_;refine UY (Ze (UH (Ko (ZS (Zv (Kh wZ UM XM) YJ) hc)) UO) (jj (by rw[Qb];have:=g.l1;omega))) ?_;rw[Ce g.l1]
theorem Au{i:Nat}{rs:List w9}{o:yg}(h1:ls[i]?=O rs)(h2:ws[i]?=O o):(KD ls ws)[i]?=O (rg rs o):=by unfold KD;rw[List.getElem?_zipWith,h1,h2]
theorem Gd(g:Good cs ls)(hl:ws.length=ls.length):XJ [U2 cs ls,Kr ws]=O (.list ((KD ls ws).map int)):=by
 refine KS (Z:=[pb (U2 cs ls),pb (Kr ws)]) wZ ?_;unfold TX;have hw:=PU g;have zW:(KD ls ws).length=ls.length:=by unfold KD;rw[List.length_zipWith];omega
 have hc:KW (gT 2 (gNC (gN 2) (gNC (gN 3) (gN0)))) (UJ w5) (UP 2 Z6 (UF (UN oIx (UQ 0 (UJ (.int 1))) (UE 2)) (UF (UE 3) (UG)))) (Z7 0 (ws.map Kg)) (Kf [pb (U2 cs ls),pb (Kr ws)]++Uq 2 w4) []=O ((KD ls ws).map int):=by
  refine Xq (λZ=>∃x y,Z=[pb (U2 cs ls),pb (Kr ws),x,y]) _ _ _ _ (by rw[Qb,X2,Qb];omega) ?_ ⟨w4,w4,rfl⟩ (by rw[X2,Qb,QB];have:=g.l7;omega);rintro i d e hd he Z ⟨x,y,rfl⟩;obtain⟨z,hz,rfl⟩:=Wz hd;rw[Qh]at hz;cases hwi:ws[i]? with
  |none=>rw[hwi]at hz;cases hz
  |some o=>
  rw[hwi]at hz;cases hz;have zB:i<ls.length:=by have:=(Ql.mp hwi).1;omega
  have hls:ls[i]?=O ls[i]:=Qg zB;rw[Qh,Au hls hwi]at he;cases he;rw[JB];exact⟨_,Kz wZ (U1 (UT (Qa wZ) wZ) (U1 (UT (Qa wZ) wZ) KB)),rfl,U8 (UH (UU (Kh wZ UM XM) (UK wZ) (NE hls)) (UH (UK wZ) UO)) wZ (vw o ls[i]),_,_,rfl⟩
 refine U6 (XZ (U8 (UH (UK wZ) UO) wZ hw)) ?_;exact UY (Ko (ZS (X9 (UH (UK wZ) UO) Wc) hc)) wZ
theorem HU{xs:w9}{k:Int}:WT (.list (xs.map int)) (.int k)=O (.int (xs.count k:Nat)):=by
 have:=xb (ws:=xs.map O) (k:=k);unfold Kr at this;rw[Q3]at this
 have e:(xs.map O).count (O k)=xs.count k:=by
  rw[List.count,List.countP_map,List.count]
  congr 1
 rw[e]at this;exact this
theorem vP(g:Good cs ls)(hl:ws.length=ls.length):Wo [U2 cs ls,Kr ws]=O (.list ((Zi (lng ls) (KD ls ws)).map int)):=by
 refine KS (Z:=[pb (U2 cs ls),pb (Kr ws),w4]) wZ ?_;unfold TW;refine U6 (KI (U8 (UH (UK wZ) (UH (UK wZ) UO)) wZ (Gd g hl)) (Qa wZ) wZ) ?_;have h5:lng ls<=5:=Oj g.l1 λrs hr=>(g.rk rs hr).few
 have hc:KW (gN 3) (UJ w5) (So (UE 2) (UF (UE 3) (UG))) (ZW 1 ((lng ls:Nat)+1)) (Kf [pb (U2 cs ls),pb (Kr ws),pb (.list ((KD ls ws).map int))]++Uq 1 w4) []=O (((Up (lng ls)).map (λr:Nat=>(((KD ls ws).count (1+(r:Int)):Nat):Int))).map int):=by
  have zW:(ZW 1 (((lng ls:Nat):Int)+1)).length=lng ls:=by rw[WD];omega
  refine Xq (λZ=>∃x,Z=[pb (U2 cs ls),pb (Kr ws),pb (.list ((KD ls ws).map int)),x]) _ _ _ _ (by rw[zW,Qb,Qb,Jk]) ?_ ⟨w4,rfl⟩ (by rw[zW,QB];omega);rintro i d e hd he Z ⟨x,rfl⟩;obtain⟨rfl,hlt⟩:=Tf hd;have hi:i<lng ls:=by omega
  rw[Qh,Qh,Qg (by rw[Jk];exact hi),List.getElem_range]at he;cases he;exact⟨_,UT (Qa wZ) wZ,rfl,LU (UK wZ) (UH (UK wZ) UO) HU,_,rfl⟩
 refine UY (UU (Ko (ZS (MX (UH UM (UH (UU (U8 (UH (UK wZ) UO) wZ (PV g)) UM Zj) UO)) (LS (by omega) (by omega) (by decide) (by decide))) hc)) (Kq (UH (LU (UK wZ) (UH UM UO) HU) UO) (Qa wZ)) (Yu (by rw[Qb,Qb,Jk];show lng ls+1<=_;omega))) ?_;unfold Zi;rw[QU];rfl
end
theorem qf(L:Nat)(got:w9):(Zi L got).length=L+1:=by unfold Zi;rw[Qi,Qb,Jk];rfl
theorem N4{a b:yg}:oEq (Kg a) (Kg b)=O (decide (a=b)):=by unfold oEq;rw[if_pos ⟨by cases a<;>rfl,by cases b<;>rfl,by cases a<;>simp[Kg,Uw]⟩,MS]
section
variable{cs:w9}{ls:L3}{ws:LO}{a:Nat}{o had:yg}{rs:List w9}{t:Int}
theorem lt_int{i j:Int}:(oIB λi j=>decide (i<j)) (.int i) (.int j)=O (decide (i<j)):=rfl
end
theorem HS{s:D->UI->ye}{t:M Bool}{g:M D}(I:UI->Prop):∀(ds qs:w8)(Z:UI)(es:w8),qs.length=ds.length ->
  (∀(i:Nat) d e,ds[i]?=O d->qs[i]?=O e->∀Z,I Z->∃Z1,s d Z=O Z1/\t Z1=.ok w5 Z1/\g Z1=.ok e Z1/\I (Kf Z1))->I Z->es.length+ds.length<=1000000->∃Z',YC s t g ds Z es=O (es++qs,Z')/\I Z'
 |[],[],Z,es,_,_,h0,_=>⟨Z,by rw[YC,Q4],h0⟩
 |d::r,e::q,Z,es,hl,st,h0,hz=>by obtain⟨Z1,e1,e2,e3,h1⟩:=st 0 d e wZ wZ Z h0;rw[QF]at hz;obtain⟨Z',e',h'⟩:=HS I r q (Kf Z1) (es++[e]) (by simpa using hl) (λi d' e' x y=>st (i+1) d' e' (by simpa using x) (by simpa using y)) h1 (by rw[List.length_append,List.length_singleton];omega);refine⟨Z',?_,h'⟩;rw[YC,e1];dsimp only;rw[e2];dsimp only;rw[Qm wZ,e3];dsimp only;rw[Qm (by omega),e',Q0];rfl
theorem Nk{s:D->UI->ye}{t:M Bool}{f:M w8}{Rd:w8->UI->w8->Option (w8×UI)}(I:UI->Prop):∀(ds:w8)(qs:List w8)(Z:UI)(es:w8),qs.length=ds.length ->
  (∀(i:Nat) d q,ds[i]?=O d->qs[i]?=O q->∀Z es,I Z->es.length+q.length<=1000000->∃Z1 xs Z2 Z3,s d Z=O Z1/\t Z1=.ok w5 Z1/\f Z1=.ok xs Z2/\Rd xs (Kf Z2) es=O (es++q,Z3)/\I Z3)->I Z->es.length+qs.flatten.length<=1000000->∃Z',Xj s t f Rd ds Z es=O (es++qs.flatten,Z')/\I Z'
 |[],[],Z,es,_,_,h0,_=>⟨Z,by rw[Xj,List.flatten_nil,Q4],h0⟩
 |d::r,q::qr,Z,es,hl,st,h0,hz=>by rw[QG,Qi]at hz;obtain⟨Z1,xs,Z2,Z3,e1,e2,e3,e4,h1⟩:=st 0 d q wZ wZ Z es h0 (by omega);obtain⟨Z',e',h'⟩:=Nk I r qr Z3 (es++q) (by simpa using hl) (λi d' e' x y=>st (i+1) d' e' (by simpa using x) (by simpa using y)) h1 (by rw[List.length_append];omega);refine⟨Z',?_,h'⟩;rw[Xj,e1];dsimp only;rw[e2];dsimp only;rw[Qm wZ,e3];dsimp only;rw[e4];dsimp only;rw[e',QG,Q0]
noncomputable def Wt(i:Nat)(rs:List w9):LP:=rs.flatten.map λt=>((i:Int),t)
noncomputable def ZQ(k:Nat):L3->LP
 |[]=>[]
 |rs::ls=>Wt k rs++ZQ (k+1) ls
noncomputable def Kv(k:Nat):L3->LP
 |[]=>[]
 |rs::ls=>(ZR rs.flatten).map (λt=>((k:Int),t))++Kv (k+1) ls
theorem SN:∀(ls:L3)(k:Nat),(Kv k ls).Perm (ZQ k ls)
 |[],_=>.nil
 |rs::ls,k=>((WC rs.flatten).map _).append (SN ls (k+1))
theorem Lq:∀(ls:L3)(k:Nat),∀q∈Kv k ls,(k:Int)<=q.1
 |[],_,q,h=>by cases h
 |rs::ls,k,q,h=>by
  rcases QS.mp h with h|h
  .obtain⟨t,_,rfl⟩:=Qz.mp h;exact JM _
  .have:=Lq ls (k+1) q h;omega
theorem SA:∀{ls:L3}{k:Nat}{q:Int×Int},q∈Kv k ls->∃i rs,ls[i]?=O rs/\q.1=((k+i:Nat):Int)/\q.2∈rs.flatten
 |[],_,q,h=>by cases h
 |rs::ls,k,q,h=>by
  rcases QS.mp h with h|h
  .obtain⟨t,ht,rfl⟩:=Qz.mp h
   exact⟨0,rs,rfl,rfl,(WC _).mem_iff.mp ht⟩
  .obtain⟨i,rs',h1,h2,h3⟩:=SA h
   exact⟨i+1,rs',by simpa using h1,by rw[h2];congr 1;omega,h3⟩
theorem Lp{n:Nat}(hn:n<=6):∀(ls:L3)(k:Nat),(∀rs∈ls,∀t∈rs.flatten,0<=t/\t<n)->(Kv k ls).Pairwise λx y=>Ku x<=Ku y
 |[],_,_=>.nil
 |rs::ls,k,h=>by
  refine List.pairwise_append.mpr ⟨?_,Lp hn ls (k+1) λrs' hr=>h rs' (Qp _ hr),λx hx y hy=>?_⟩
  .rw[List.pairwise_map]
   refine(Hj rs.flatten).imp λ{a b} hab=>?_
   unfold Ku;dsimp only;omega
  .obtain⟨t,ht,rfl⟩:=Qz.mp hx
   have h1:=Lq ls (k+1) y hy;have h2:=h rs Qo t ((WC _).mem_iff.mp ht);obtain⟨i,rs',g1,g2,g3⟩:=SA hy;have h3:=h rs' (Qp _ (Qv g1)) y.2 g3;unfold Ku;dsimp only;omega
theorem VP.flat{n:Nat}{rs:List w9}(g:VP n rs):∀t∈rs.flatten,0<=t/\t<n:=λt ht=>by obtain⟨r,h1,h2⟩:=Ua.mp ht;exact g.there r h1 t h2
section
variable{cs:w9}{ls:L3}
theorem OW(n:Nat):∀(ls:L3)(k:Nat),(∀rs∈ls,rs.flatten.length<=n)->(ZQ k ls).length<=ls.length*n
 |[],_,_=>by simp[ZQ]
 |rs::ls,k,h=>by
  have h1:=OW n ls (k+1) λr hr=>h r (Qp _ hr);have h2:=h rs Qo
  show(Wt k rs++ZQ (k+1) ls).length<=_
  rw[Qi,QF,Nat.succ_mul];unfold Wt;rw[Qb];omega
theorem kY(g:Good cs ls):WJ (ZQ 0 ls)=Kv 0 ls:=by
 have hf:∀rs∈ls,∀t∈rs.flatten,0<=t/\t<cs.length:=λrs hr=>(g.rk rs hr).flat
 have ok:∀q∈Kv 0 ls,okP q:=λq hq=>by obtain⟨i,rs,h1,h2,h3⟩:=SA hq;have:=hf rs (Qv h1) q.2 h3;have:=g.c6;exact⟨by omega,by omega⟩
 exact(O5 ok ((SN ls 0).trans (HF _).symm) (Lp g.c6 ls 0 hf) (Hy _)).symm
theorem Ei(g:Good cs ls):∀q∈ZQ 0 ls,okP q:=λq hq=>by obtain⟨i,rs,h1,h2,h3⟩:=SA ((SN ls 0).mem_iff.mpr hq);have:=(g.rk rs (Qv h1)).flat q.2 h3;have:=g.c6;exact⟨by omega,by omega⟩
theorem Pm(g:Good cs ls):(ZQ 0 ls).length<=42:=by
 have h:=OW 6 ls 0 λrs hr=>QH (SB (g.rk rs hr)) g.c6
 have:=g.l7;omega
theorem OK:∀(ls:L3)(k:Nat),((ls.zipIdx k).map λp=>(Wt p.2 p.1).map Ky).flatten=(ZQ k ls).map Ky
 |[],_=>rfl
 |rs::ls,k=>by rw[List.zipIdx_cons,Qy,QG,OK ls (k+1)];show _=(Wt k rs++ZQ (k+1) ls).map Ky;rw[QU]
theorem wo(g:Good cs ls):Wp [U2 cs ls]=O (.list ((Kv 0 ls).map Ky)):=by
 refine KS (Z:=[pb (U2 cs ls)]) wZ ?_;unfold TY;refine U6 (XZ (U8 (UH (UK wZ) UO) wZ (PU g))) ?_
 have hc:∃Z',Xj (gT 2 (gNC (gN 1) (gNC (gN 2) (gN0)))) (UJ w5) (KJ (UE 2)) (Xj (gN 3) (UJ w5) (KJ (UE 3)) (YC (gN 4) (UJ w5) (Kx (UF (UE 1) (UF (UE 4) (UG)))))) (Z7 0 (ls.map Ks)) (Kf [pb (U2 cs ls)]++Uq 4 w4) []=O ((ZQ 0 ls).map Ky,Z'):=by
  have key:=Nk (s:=gT 2 (gNC (gN 1) (gNC (gN 2) (gN0)))) (t:=UJ w5) (f:=KJ (UE 2)) (Rd:=Xj (gN 3) (UJ w5) (KJ (UE 3)) (YC (gN 4) (UJ w5) (Kx (UF (UE 1) (UF (UE 4) (UG))))))
   (λZ=>∃x1 x2 x3 x4,Z=[pb (U2 cs ls),x1,x2,x3,x4]) (Z7 0 (ls.map Ks)) ((ls.zipIdx 0).map λp=>(Wt p.2 p.1).map Ky) (Kf [pb (U2 cs ls)]++Uq 4 w4) [] (by rw[Qb,List.length_zipIdx,X2,Qb]) ?_ ⟨w4,w4,w4,w4,rfl⟩ (by rw[OK,Qb,QB];have:=Pm g;omega)
  .obtain⟨Z',e,_⟩:=key
   rw[OK,QX]at e;exact⟨Z',e⟩
  rintro i d q hd hq Z es ⟨x1,x2,x3,x4,rfl⟩ hlen;obtain⟨z,hz,rfl⟩:=Wz hd;rw[Qh]at hz;rw[Qh,List.getElem?_zipIdx]at hq;cases hls:ls[i]? with
  |none=>rw[hls]at hz;cases hz
  |some rs=>
  rw[hls]at hz hq;cases hz;cases hq;rw[JB]at *;dsimp only at hlen⊢
  have inner:=Nk (s:=gN 3) (t:=UJ w5) (f:=KJ (UE 3)) (Rd:=YC (gN 4) (UJ w5) (Kx (UF (UE 1) (UF (UE 4) (UG)))))
   (λZ=>∃x3 x4,Z=[pb (U2 cs ls),pb (.int i),pb (Ks rs),x3,x4]) (rs.map KM) (rs.map λr=>r.map λt=>Ky ((i:Int),t)) (Kf [pb (U2 cs ls),pb (.int i),pb (Ks rs),x3,x4]) es (by rw[Qb,Qb]) ?_ ⟨Xm x3,Xm x4,rfl⟩ ?_
  .obtain⟨Z3,e3,y3,y4,h3⟩:=inner
   have ef:(rs.map λr=>r.map λt=>Ky ((i:Int),t)).flatten=(Wt i rs).map Ky:=by unfold Wt;rw[Q3,List.map_flatten];rfl
   rw[ef]at e3;exact⟨_,_,_,Z3,Kz wZ (U1 (UT (Qa wZ) wZ) (U1 (UT (Qa wZ) wZ) KB)),rfl,Zv (UK wZ) wZ,e3,_,_,_,_,h3⟩
  .rintro j d q hd hq Z es' ⟨y3,y4,rfl⟩ zT
   rw[Qh]at hd hq;cases hr:rs[j]? with
   |none=>rw[hr]at hd;cases hd
   |some r=>
   rw[hr]at hd hq;cases hd;cases hq
   obtain⟨Z3,e3,z4,h3⟩:=HS (s:=gN 4) (t:=UJ w5) (g:=Kx (UF (UE 1) (UF (UE 4) (UG)))) (λZ=>∃x4,Z=[pb (U2 cs ls),pb (.int i),pb (Ks rs),pb (KM r),x4]) (r.map int) (r.map λt=>Ky ((i:Int),t)) (Kf [pb (U2 cs ls),pb (.int i),pb (Ks rs),pb (KM r),y4]) es' (by rw[Qb,Qb]) (by
    rintro m d e hd he Z ⟨x4,rfl⟩;rw[Qh]at hd he;cases hm:r[m]? with
    |none=>rw[hm]at hd;cases hd
    |some t=>
    rw[hm]at hd he;cases hd;cases he;exact⟨_,UT (Qa wZ) wZ,rfl,ZK (UH (UK wZ) (UH (UK wZ) UO)) (Qa wZ),_,rfl⟩) ⟨Xm y4,rfl⟩ (by rw[Qb]at zT⊢;exact zT)
   exact⟨_,_,_,Z3,UT (Qa wZ) wZ,rfl,Zv (UK wZ) wZ,e3,_,_,h3⟩
  .have ef:(rs.map λr=>r.map λt=>Ky ((i:Int),t)).flatten=(Wt i rs).map Ky:=by
    unfold Wt;rw[Q3,List.map_flatten];rfl
   rw[ef];exact hlen
 obtain⟨Z',hc⟩:=hc;have hs:=kh (qs:=ZQ 0 ls) (by have:=Pm g;omega) (Ei g);rw[kY g]at hs;exact UY (Ze (UH (Ko (qR (X9 (UH (Kh wZ UM XM) UO) Wc) hc)) UO) hs) wZ
end
noncomputable def fnz:w9->Int
 |[]=>0
 |x::r=>if x=0 then fnz r else x
noncomputable def bsT(g:Int):Str:=if g=0 then "alike" else if 0<g then "better" else "worse"
inductive Ord where|firsts|full|lasts
noncomputable def Ord.tx:Ord->Str
 |.firsts=> "firsts" | .full=> "full" | .lasts=> "lasts"
def Ord.isF:Ord->Bool
 |.firsts=>w5|_=>w6
def Ord.isU:Ord->Bool
 |.full=>w5|_=>w6
theorem N3(o:Ord):oEq (.str o.tx) (.str "firsts")=O o.isF:=by cases o<;>decide +kernel
theorem N0(o:Ord):oEq (.str o.tx) (.str "full")=O o.isU:=by cases o<;>decide +kernel
def Y2(xs ys:w9):w9:=(xs.zip ys).map λp=>p.1-p.2
noncomputable def VA(o:Ord)(xs ys:w9):w9:=match o with
 |.firsts=>Y2 xs ys
 |.full=>((Y2 xs ys).map λx=>-x).drop ((Y2 xs ys).length-1)++Y2 xs ys
 |.lasts=>((Y2 xs ys).map λx=>-x).reverse
theorem wn(o:Ord):XI [.str o.tx]=O (.bool w5):=by
 refine KS (Z:=[pb (.str o.tx)]) wZ ?_;unfold Vc;have h:oIn (.str o.tx) (.tuple ((["firsts", "full", "lasts"]:List Str).map Ut))=O w5:=by cases o<;>decide +kernel
 exact UY (YY (Ko (k:=λd=>Us (Kd d "str")) (UK wZ)) (λ_=>Ko (K1 wZ UM h))) wZ
theorem LY(o:Ord):Vy [.str o.tx]=O .none:=by
 refine Rv (Z:=[pb (.str o.tx)]) wZ ?_;unfold g_an;apply UZ
 case h1=>exact ZA (Z8 (U8 (UH (UK wZ) UO) wZ (wn o)))
 case h2=>intro h;cases h
 case h3=>exact λ_=>Ke ⟨_,rfl⟩
theorem jE(o:Ord){xs ys:w9}(hx:xs.length<=1000):Wn [.str o.tx,.list (xs.map int),.list (ys.map int)]=O (.list ((VA o xs ys).map int)):=by
 refine KS (Z:=[pb (.str o.tx),pb (.list (xs.map int)),pb (.list (ys.map int)),w4,w4]) wZ ?_;unfold TV;have hzl:(xs.zip ys).length<=1000:=by rw[J6];omega
 have hc1:KW (gT 2 (gNC (gN 5) (gNC (gN 6) (gN0)))) (UJ w5) (UN Zk (UE 5) (UE 6)) (ZJ (xs.map int) (ys.map int)) (Kf [pb (.str o.tx),pb (.list (xs.map int)),pb (.list (ys.map int)),w4,w4]++Uq 2 w4) []=O ((Y2 xs ys).map int):=by
  rw[Nd,X1 (λ_=>w5) (λd=>match d with | .tuple [.int a,.int b]=>.int (a-b)|_=>.none) (λZ=>∃x y,Z=[pb (.str o.tx),pb (.list (xs.map int)),pb (.list (ys.map int)),w4,w4,x,y])]
  .rw[Jj.mpr (λ_ _=>rfl),QX,Q3]
   unfold Y2;rw[Q3];rfl
  .rintro d hm Z ⟨x,y,rfl⟩
   obtain⟨p,_,rfl⟩:=Qz.mp hm;exact⟨_,Kz wZ (U1 (UT (Qa wZ) wZ) (U1 (UT (Qa wZ) wZ) KB)),rfl,λ_=>UU (UK wZ) (UK wZ) X8,_,_,rfl⟩
  .exact⟨w4,w4,rfl⟩
  .rw[Qb,QB];omega
 have hml:(Y2 xs ys).length<=1000:=by unfold Y2;rw[Qb];exact hzl
 refine U6 (Zs (ZS (Ol (UH (UK wZ) (UH (UK wZ) UO)) wZ) hc1) (Qa wZ) wZ) ?_
 have hc2:KW (gN 5) (UJ w5) (ZD (UE 5)) ((Y2 xs ys).map int) (Kf [pb (.str o.tx),pb (.list (xs.map int)),pb (.list (ys.map int)),pb (.list ((Y2 xs ys).map int)),w4]++Uq 1 w4) []=O (((Y2 xs ys).map λx=>-x).map int):=by
  rw[X1 (λ_=>w5) (λd=>match d with | .int a=>.int (-a)|_=>.none) (λZ=>∃x,Z=[pb (.str o.tx),pb (.list (xs.map int)),pb (.list (ys.map int)),pb (.list ((Y2 xs ys).map int)),w4,x])]
  .rw[Jj.mpr (λ_ _=>rfl),QX,Q3,Q3]
   rfl
  .rintro d hm Z ⟨x,rfl⟩
   obtain⟨p,_,rfl⟩:=Qz.mp hm;exact⟨_,UT (Qa wZ) wZ,rfl,λ_=>WN (UK wZ),_,rfl⟩
  .exact⟨w4,rfl⟩
  .rw[Qb,QB];omega
 apply Ka;have e1:=N3 o;have e2:=N0 o;apply UZ
 case h1=>exact K1 wZ UM e1
 case h2=>
  intro h;cases o with
  |firsts=>exact UY (KU wZ wZ) (Kj wZ)
  |_=>cases h
 case h3=>
  intro h1;refine Ke (Kb ?_);refine U6 (Zs (ZS (Zv (KU wZ wZ) YJ) hc2) (Qa wZ) wZ) ?_;generalize zY:((Y2 xs ys).map λx=>-x)=neg;have hnl:neg.length=(Y2 xs ys).length:=by rw[←zY,Qb]
  apply Ka;apply UZ
  case h1=>exact K1 wZ UM e2
  case h2=>
   intro h;cases o with
   |full=>
    have zE:DL.cutD (neg.map int) (O (-1)) w4=(neg.drop (neg.length-1)).map int:=by
     unfold DL.cutD HT.sIx;dsimp only;rw[Qm (by decide),Qb];have:((-1:Int)+(neg.length:Int)).toNat=neg.length-1:=by omega
     rw[this,←List.map_drop,List.take_of_length_le (by rw[Qb,Jw];omega)]
    refine UY (UU (X5 (KU wZ wZ) (YK (WN UM)) UM (by rw[Wb,zE])) (UK wZ) (Yu (by rw[Qb,Qb,Jw];omega))) (Kj ?_);unfold VA;dsimp only;rw[zY,←hnl,QU]
   |_=>cases h
  case h3=>
   intro h2;refine Ke (Kb ?_);cases o with
   |lasts=>refine UY (N9 (KU wZ wZ) UM UM (YK (WN UM))) ?_;unfold VA;dsimp only;rw[zY,List.map_reverse]
   |firsts=>cases h1
   |full=>cases h2
theorem qe{g:w9}{i:Nat}{z:Int}(h:g[i]?=O z):fnz (g.drop i)=if z=0 then fnz (g.drop (i+1))else z:=by obtain⟨hl,e⟩:=Ql.mp h;rw[JG hl,e];rfl
theorem vM(o:Ord){xs ys:w9}(hx:xs.length<=1000):Sb [.str o.tx,.list (xs.map int),.list (ys.map int)]=O (.str (bsT (fnz (VA o xs ys)))):=by
 refine KS (Z:=[pb (.str o.tx),pb (.list (xs.map int)),pb (.list (ys.map int)),w4]) wZ ?_;unfold g_ap;refine U6 (XZ (U8 (UH (UK wZ) UO) wZ (LY o))) ?_;have hg:=jE o (ys:=ys) hx;generalize VA o xs ys=g at hg;apply Ka;apply YB (λi Z=>(∃x,Z=[pb (.str o.tx),pb (.list (xs.map int)),pb (.list (ys.map int)),x])/\fnz g=fnz (g.drop i))
 case h1=>exact Zv (U8 (UH (UK wZ) (UH (UK wZ) (UH (UK wZ) UO))) wZ hg) YJ
 case h0=>exact⟨⟨w4,rfl⟩,rfl⟩
 case hst=>
  rintro i d Z hi ⟨⟨x,rfl⟩,hf⟩;rw[Qh]at hi;cases hz:g[i]? with
  |none=>rw[hz]at hi;cases hi
  |some z=>
  rw[hz]at hi;cases hi;rw[qe hz]at hf;refine⟨_,UT (Qa wZ) wZ,?_⟩;unfold Mx;apply UZ
  case h1=>exact K1 wZ UM Xk
  case h2=>
   intro h;have hz0:z≠0:=by simpa using h
   rw[Qw hz0]at hf;by_cases hp:0<z
   .refine UY (Dv (by rw[show w5=decide (0<z)by simp[hp]];exact K1 wZ UM wZ) UM) (V8 (Kj ?_))
    unfold bsT;rw[hf,Qw hz0,Qm hp]
   .refine UY (Ma (by rw[show w6=decide (0<z)by simp[hp]];exact K1 wZ UM wZ) UM) (V8 (Kj ?_))
    unfold bsT;rw[hf,Qw hz0,Qw hp]
  case h3=>
   intro h;have hz0:z=0:=by simpa using h
   rw[Qm hz0]at hf;exact Ke (Yk ⟨⟨_,rfl⟩,hf⟩)
 case hend=>rintro Z ⟨⟨x,rfl⟩,hf⟩;refine Kb (UY UM ?_);rw[Qb,List.drop_length]at hf;have:fnz g=0:=hf;unfold bsT;rw[this];rfl
def Zn:yj->D
 |none=>.none
 |some ws=>Kr ws
noncomputable def Kt(o:Ord)(old:yj)(ts:w9):D:=.tuple [.str o.tx,Zn old,.list (ts.map int)]
structure Xn(n m:Nat)(old:yj)(ts:w9):Prop where
 len:∀ws,old=O ws->ws.length=m
 old:∀ws t,old=O ws->O t∈ws->0<=t/\t<n
 once:ts.Nodup
 there:∀a∈ts,0<=a/\a<m
theorem Xn.few{n m:Nat}{old:yj}{ts:w9}(g:Xn n m old ts):ts.length<=m:=RD m ts g.once g.there
theorem jD{n m:Nat}{old:yj}(h1:∀ws,old=O ws->ws.length=m)(h2:∀ws t,old=O ws->O t∈ws->0<=t/\t<n)(hm:m<=1000):Xd [Zn old,.int m,.int n]=O (.bool w5):=by
 refine KS (Z:=[pb (Zn old),pb (.int m),pb (.int n)]) wZ ?_;unfold Vb;apply Ka;cases old with
 |none=>
  apply UZ
  case h1=>exact Ko (UK wZ)
  case h2=>exact λ_=>UY UM (Kj wZ)
  case h3=>intro hh;cases hh
 |some ws=>
  have hl:=h1 ws wZ;have hlen:U7 [Kr ws]=O (.int m):=by unfold Kr;rw[KR,Qb,hl]
  apply UZ
  case h1=>exact Ko (UK wZ)
  case h2=>intro hh;cases hh
  case h3=>
   intro _;refine Ke (Kb ?_);apply Ka;apply UZ
   case h1=>exact Zt (Z1:=[pb (Kr ws),pb (.int m),pb (.int n)]) (KP (UK wZ) wZ) (UU (KT wZ hlen) (UK wZ) Xk)
   case h2=>intro hh;simp at hh
   case h3=>
    intro _;refine Ke (Kb ?_)
    have hc:KW (gN 3) (UJ w5) (Y8 (US (λd=>.bool (isNon d)) (UE 3)) (UP 2 K6 (UF (UE 3) (UF (UE 2) (UG))))) (ws.map Kg) (Kf [pb (Kr ws),pb (.int m),pb (.int n)]++Uq 1 w4) []=O (ws.map λ_=>.bool w5):=by
     refine Xq (λZ=>∃x,Z=[pb (Kr ws),pb (.int m),pb (.int n),x]) _ _ _ _ (by simp only[Qb]) ?_ ⟨w4,rfl⟩ (by rw[Qb,QB];omega);rintro i d e hd he Z ⟨x,rfl⟩;rw[Qh]at hd he;cases hw:ws[i]? with
     |none=>rw[hw]at hd;cases hd
     |some o=>
     rw[hw]at hd he;cases hd;cases he;refine⟨_,UT (Qa wZ) wZ,rfl,?_,_,rfl⟩;cases o with
     |none=>exact Pi (t:=w5) (u:=w5) (Ko (k:=λd=>Us (isNon d)) (x:=.none) (UK wZ)) (λh=>nomatch h)
     |some t=>have hb:=h2 ws t wZ (Qv hw);exact Pi (t:=w6) (u:=w5) (Ko (k:=λd=>Us (isNon d)) (x:=.int t) (UK wZ)) (λ_=>U8 (UH (UK wZ) (UH (UK wZ) UO)) wZ (PH hb.1 hb.2))
    exact UY (Ze (UH (Ko (ZS (Zv (UK wZ) wZ) hc)) UO) (PF ws)) wZ
theorem vL{m:Nat}{ts:w9}(h1:ts.Nodup)(h2:∀a∈ts,0<=a/\a<m)(hm:m<=1000):Xc [.list (ts.map int),.int m]=O (.bool w5):=by
 refine KS (Z:=[pb (.list (ts.map int)),pb (.int m)]) wZ ?_;unfold Va;have hl:=RD m ts h1 h2;apply Ka
 have hc:KW (gN 2) (UJ w5) (UP 2 K6 (UF (UE 2) (UF (UE 1) (UG)))) (ts.map int) (Kf [pb (.list (ts.map int)),pb (.int m)]++Uq 1 w4) []=O (ts.map λ_=>.bool w5):=by
  refine Xq (λZ=>∃x,Z=[pb (.list (ts.map int)),pb (.int m),x]) _ _ _ _ (by simp only[Qb]) ?_ ⟨w4,rfl⟩ (by rw[Qb,QB];omega);rintro i d e hd he Z ⟨x,rfl⟩;rw[Qh]at hd he;cases hw:ts[i]? with
  |none=>rw[hw]at hd;cases hd
  |some t=>
  rw[hw]at hd he;cases hd;cases he;have hb:=h2 t (Qv hw);exact⟨_,UT (Qa wZ) wZ,rfl,U8 (UH (UK wZ) (UH (UK wZ) UO)) wZ (PH hb.1 hb.2),_,rfl⟩
 apply UZ
 case h1=>exact Zt (Z1:=[pb (.list (ts.map int)),pb (.int m)]) (KP (UK wZ) wZ) (ZA (Z8 (Ze (UH (Ko (ZS (Zv (UK wZ) YJ) hc)) UO) (PF ts))))
 case h2=>intro hh;cases hh
 case h3=>
  intro _;refine Ke (Kb ?_);have hs:Wa [.list (ts.map int)]=O (.int ts.length):=by unfold Wa;dsimp only;rw[Tk];dsimp only;rw[Qm (by omega),Nl h1]
  have hlen:U7 [.list (ts.map int)]=O (.int ts.length):=by rw[KR,Qb]
  refine UY (Ko (UU (Ze (UH (UK wZ) UO) hs) (KT wZ hlen) ZN)) ?_;simp
section
variable{cs:w9}{ls:L3}{o:Ord}{old:yj}{ts:w9}
theorem Rn(g:Good cs ls)(ga:Xn cs.length ls.length old ts):XH [U2 cs ls,Kt o old ts]=O .none:=by
 refine Rv (Z:=[pb (U2 cs ls),pb (Kt o old ts),w4,w4,w4,w4,w4]) wZ ?_;unfold g_as;have l7:=g.l7;have c6:=g.c6;have zH:U7 [.list (ls.map Ks)]=O (.int ls.length):=by rw[KR,Qb]
 have hlc:U7 [.list (cs.map int)]=O (.int cs.length):=by rw[KR,Qb]
 refine U6 (XZ (U8 (UH (UK wZ) UO) wZ (PU g))) ?_;apply Ka;apply UZ
 case h1=>exact Zt (Z1:=[pb (U2 cs ls),pb (Kt o old ts),w4,w4,w4,w4,w4]) (KP (UK wZ) wZ) (UU (KT wZ (show U7 [Kt o old ts]=O (.int 3)from rfl)) UM Xk)
 case h2=>intro hh;simp at hh
 case h3=>
  intro _;refine Ke (Kb ?_);refine U6 (XT (UK wZ) (Kz wZ (U1 (UT (Qa wZ) wZ) (U1 (UT (Qa wZ) wZ) KB)))) ?_;refine U6 (XT (UK wZ) (Kz wZ (U1 (UT (Qa wZ) wZ) (U1 (UT (Qa wZ) wZ) (U1 (UT (Qa wZ) wZ) KB))))) ?_;refine U6 (XZ (U8 (UH (UK wZ) UO) wZ (LY o))) ?_;apply Ka;apply UZ
  case h1=>exact ZA (Z8 (U8 (UH (UK wZ) (UH (KT wZ zH) (UH (KT wZ hlc) UO))) wZ (jD ga.len ga.old (by omega))))
  case h2=>intro hh;cases hh
  case h3=>
   intro _;refine Ke (Kb ?_);apply UZ
   case h1=>exact ZA (Z8 (U8 (UH (UK wZ) (UH (KT wZ zH) UO)) wZ (vL ga.once ga.there (by omega))))
   case h2=>intro hh;cases hh
   case h3=>exact λ_=>Ke ⟨_,rfl⟩
end
theorem Pl{t:Int}{r:w9}:oIn (.int t) (.list (r.map int))=O (r.contains t):=Ov t r
theorem HR{c s w sz dg x6:Option Sl}{m:Nat}{T:w9}(hm:0<m):∀(k fuel d:Nat),(∀j,j<k->(((d+j) % m:Nat):Int)∈T)->(((d+k) % m:Nat):Int)∉T->d<m->k<fuel ->
  Wx (VE oIn (UE 8) 7) Pn fuel [w,c,s,pb (.int m),sz,dg,x6,O (.own (T.map int)),pb (.int d)]=.nx [w,c,s,pb (.int m),sz,dg,x6,O (.own (T.map int)),pb (.int (((d+k) % m:Nat):Int))]
 |0,fuel+1,d,_,hn,hd,_=>by
  have e0:(d+0) % m=d:=by rw[Nat.add_zero];exact Nat.mod_eq_of_lt hd
  rw[e0]at hn⊢;have e:(T.contains (d:Int))=w6:=by simpa using hn
  rw[Wx,O4 (r:=w6) (UK wZ) wZ (by rw[Pl,e])];rfl
 |k+1,fuel+1,d,hj,hn,hd,hf=>by
  have h0:=hj 0 (by omega);rw[Nat.add_zero,Nat.mod_eq_of_lt hd]at h0;have e:(T.contains (d:Int))=w5:=by simpa using h0
  rw[Wx,O4 (r:=w5) (UK wZ) wZ (by rw[Pl,e])];dsimp only;rw[Qm wZ]
  have hst:Pn [w,c,s,pb (.int m),sz,dg,x6,O (.own (T.map int)),pb (.int d)]=.nx [w,c,s,pb (.int m),sz,dg,x6,O (.own (T.map int)),pb (.int (((d+1) % m:Nat):Int))]:=by
   unfold Pn;refine KI (UU (UU (UK wZ) UM Zj) (UK wZ) (YX (by omega))) (Qa wZ) ?_;have e1:((d+1:Nat):Int)=(d:Int)+1:=by omega
   have:((d:Int)+1) % (m:Int)=(((d+1) % m:Nat):Int):=by rw[Int.natCast_emod,e1]
   rw[this];rfl
  rw[hst];dsimp only;have e2:∀j,((d+1) % m+j) % m=(d+(j+1)) % m:=λj=>by rw[Nat.mod_add_mod];congr 1;omega
  have:=HR (c:=c) (s:=s) (w:=w) (sz:=sz) (dg:=dg) (x6:=x6) (T:=T) hm k fuel ((d+1) % m) (λj hjk=>by rw[e2];exact hj (j+1) (by omega)) (by rw[e2];exact hn) (Nat.mod_lt _ hm) (by omega);rw[e2]at this;exact this
theorem LX:∀(a b:w9),a.Nodup->(∀x∈a,x∈b)->a.length<=b.length
 |[],_,_,_=>J0 _
 |x::a,b,hn,h=>by
  have hx:=h x Qo;have hn':=List.nodup_cons.mp hn
  have:=LX a (b.erase x) hn'.2 λy hy=>by
   have hne:y≠x:=λe=>hn'.1 (e ▸ hy)
   exact(List.mem_erase_of_ne hne).mpr (h y (Qp _ hy))
  rw[List.length_erase_of_mem hx]at this;have hp:=List.length_pos_of_mem hx;rw[QF];omega
theorem kX{m:Nat}{T:w9}(d:Nat)(hl:T.length<m)(hn:T.Nodup):∃k,k<m/\(∀j,j<k->(((d+j) % m:Nat):Int)∈T)/\(((d+k) % m:Nat):Int)∉T:=by
 have ex:∃k,k<m/\(((d+k) % m:Nat):Int)∉T:=by
  refine Classical.byContradiction λhno=>?_;have all:∀k,k<m->(((d+k) % m:Nat):Int)∈T:=λk hk=>Classical.byContradiction λz=>hno ⟨k,hk,z⟩
  have hsub:∀x:Nat,x<m->((x:Nat):Int)∈T:=λx hx=>by
   have h1:=all ((x+m-d % m) % m) (Nat.mod_lt _ (by omega));have e:(d+(x+m-d % m) % m) % m=x:=by have hdm:d % m<m:=Nat.mod_lt _ (by omega);rw[Nat.add_mod_mod,←Nat.mod_add_mod];rw[show d % m+(x+m-d % m)=x+m by omega,Nat.add_mod_right,Nat.mod_eq_of_lt hx]
   rw[e]at h1;exact h1
  have:=LX ((Up m).map λx:Nat=>(x:Int)) T (List.Pairwise.map _ (λa b h e=>h (by omega)) List.nodup_range) (λt ht=>by obtain⟨x,hx,rfl⟩:=Qz.mp ht;exact hsub x (Jq.mp hx));rw[Qb,Jk]at this;omega
 obtain⟨k,hk,hkn⟩:=ex;induction k using Nat.strongRecOn with
 |_ k ih=>
  by_cases h:∀j,j<k->(((d+j) % m:Nat):Int)∈T
  .exact⟨k,hk,h,hkn⟩
  .obtain⟨j,hj⟩:=Classical.not_forall.mp h
   obtain⟨hj1,ax⟩:=Classical.not_imp.mp hj;exact ih j hj1 (by omega) ax
theorem NZ{x:D}{m:Nat}(h:m<=1000):Kn (.list [x]) (.int m)=O (.list (Uq m x)):=by
 rw[PX ⟨by omega,by omega,by show 1*_<=_;omega⟩]
 congr 2
 rw[Je];clear h;induction m with
 |zero=>rfl
 |succ n ih=>rw[QT,QG,ih,QT];rfl
noncomputable def szA(n m:Nat):w9:=[3,2,(m:Int)+1]++Uq m ((n:Int)+1)++Uq m (m:Int)
theorem MR(n m:Nat):(szA n m).length=3+m+m:=by unfold szA;rw[Qi,Qi,Qu,Qu];rfl
theorem Cd{n m j:Nat}(h:j<m):(szA n m)[3+j]?=O ((n:Int)+1):=by
 unfold szA;rw[Qs (by rw[Qi,Qu];show 3+j<3+m;omega),Qt (by show 3<=3+j;omega)]
 show(Uq m ((n:Int)+1))[3+j-3]?=_
 rw[Nat.add_sub_cancel_left,QA,Qm h]
theorem qd{n m j:Nat}(h:j<m):(szA n m)[3+m+j]?=O (m:Int):=by
 unfold szA;have e:([3,2,(m:Int)+1]++Uq m ((n:Int)+1)).length=3+m:=by rw[Qi,Qu];rfl
 rw[Qt (by rw[e];omega),e,Nat.add_sub_cancel_left,QA,Qm h]
section
variable{cs:w9}{ls:L3}
def SW(d:Int):yg:=if 0<d then O (d-1)else w4
theorem qc(d:Int):oIx (.list [.none,.int (d-1)]) (.int (if decide (0<d)=w5 then 1 else 0))=O (Kg (SW d)):=by
 unfold SW;by_cases h:0<d
 .rw[QC h,Qm wZ,Qm h];exact Zm (j:=1) wZ
 .rw[Qr h,Qw (by decide),Qw h];exact Zm (j:=0) wZ
theorem qb(g:Good cs ls)(c s:Int):∃r,Vt [U2 cs ls,.int c,.int s]=O r/\∃o old ts,r=Kt o old ts/\Xn cs.length ls.length old ts:=by
 refine WL (Z:=[pb (U2 cs ls),pb (.int c),pb (.int s),w4,w4,w4,w4,w4,w4]) wZ ?_;unfold TH;have l7:=g.l7;have l1:=g.l1;have c6:=g.c6;have c1:=g.c1;have zH:U7 [.list (ls.map Ks)]=O (.int ls.length):=by rw[KR,Qb]
 have hlc:U7 [.list (cs.map int)]=O (.int cs.length):=by rw[KR,Qb]
 generalize hm:ls.length=m at *;generalize hn:cs.length=n at *;refine U6 (KI (Ze (UH (Kh wZ UM XM) UO) zH) (Qa wZ) wZ) ?_;have s1:U0 (.list [.int 3,.int 2,.int ((m:Int)+1)]) (.list (Uq m (.int ((n:Int)+1))))=O (.list (([3,2,(m:Int)+1]++Uq m ((n:Int)+1)).map int)):=by rw[Yu (by rw[Qu];show 3+m<=_;omega),QU,JY];rfl
 refine U6 (KI (UU (Kq (UH UM (UH UM (UH (UU (UK wZ) UM Zj) UO))) (Qa wZ)) (UU (Kq (UH (UU (Ze (UH (Kh wZ UM RP) UO) hlc) UM Zj) UO) (Qa wZ)) (UK wZ) (NZ (by omega))) s1) (Qa wZ) wZ) ?_;have s2:U0 (.list (([3,2,(m:Int)+1]++Uq m ((n:Int)+1)).map int)) (.list (Uq m (.int (m:Int))))=O (.list ((szA n m).map int)):=by rw[Yu (by rw[Qb,Qi,Qu,Qu];show 3+m+m<=_;omega)];unfold szA;rw[QU (l₂:=Uq m (m:Int)),JY (n:=m) (a:=(m:Int))]
 obtain⟨r,hF,dg,rfl,hdl,hdb⟩:=Tj c s (sizes:=szA n m) (λx hx=>by
  unfold szA at hx;rcases QS.mp hx with hx|hx
  .rcases QS.mp hx with hx|hx
   .have hx:x=3∨x=2∨x=(m:Int)+1:=by simpa using hx
    omega
   .rw[(Ju.mp hx).2];omega
  .rw[(Ju.mp hx).2];omega) (by rw[MR];omega)
 rw[MR]at hdl;refine U6 (KI (U8 (UH (UK wZ) (UH (UK wZ) (UH (UU (UK wZ) (UU (Kq (UH (UK wZ) UO) (Qa wZ)) (UK wZ) (NZ (by omega))) s2) UO))) wZ hF) (Qa wZ) wZ) ?_;have get:∀j,j<3+m+m->∃d,dg[j]?=O d:=λj hj=>⟨dg[j]'(by omega),Qg _⟩
 obtain⟨d0,e0⟩:=get 0 (by omega);obtain⟨d1,e1⟩:=get 1 (by omega);obtain⟨d2,e2⟩:=get 2 (by omega);have b0:=hdb 0 d0 3 e0 wZ;have b1:=hdb 1 d1 2 e1 wZ;have b2:=hdb 2 d2 ((m:Int)+1) e2 wZ;have i0:oIx (.list (dg.map int)) (.int 0)=O (.int d0):=Zm (j:=0) (by rw[Qh,e0];rfl);have i1:oIx (.list (dg.map int)) (.int 1)=O (.int d1):=Zm (j:=1) (by rw[Qh,e1];rfl);have i2:oIx (.list (dg.map int)) (.int 2)=O (.int d2):=Zm (j:=2) (by rw[Qh,e2];rfl);refine U6 (KI UM (Qa wZ) wZ) ?_
 let ol:w9:=(dg.drop 3).take m
 have oll:ol.length=m:=by show((dg.drop 3).take m).length=m;rw[Jg,Jw];omega
 have olb:∀d∈ol,0<=d/\d<(n:Int)+1:=λd hd=>by
  obtain⟨j,hj,e⟩:=List.mem_iff_getElem.mp hd;have hjm:j<m:=by omega
  refine hdb (3+j) d _ ?_ (Cd hjm);have:ol[j]?=O d:=by rw[Qg hj,e]
  show dg[3+j]?=_;rw[←this];show _=((dg.drop 3).take m)[j]?;rw[List.getElem?_take,Qm hjm,List.getElem?_drop]
 have zE:DL.cutD (dg.map int) (O 3) (O (3+(m:Int)))=ol.map int:=by
  rw[O8 (by decide) (by omega) (by omega)];have t1:(3:Int).toNat=3:=rfl;have t2:(3+(m:Int)).toNat-(3:Int).toNat=m:=by omega
  rw[t2,t1]
 have step:Ho (sIf (UN oEq (UQ 5 (UJ (.int 1))) (UJ (.int 1))) (K2 6 (Zr (KJ (Zg (UE 5) (UW (UJ (.int 3)) λx=>UX (ZU x)) (UW (UN U0 (UJ (.int 3)) (UE 3)) λx=>UX (ZU x)))) 1 (gN 9) (UJ w5) (UN oIx (UV (UF (UJ .none) (UF (UN Zk (UE 9) (UJ (.int 1))) (UG)))) (K5 SX (UF (US Us (Kp (oIB λi j=>decide (j<i)) 9 (UJ (.int 0)))) (UG)))))) (sNx))
   [pb (U2 cs ls),pb (.int c),pb (.int s),pb (.int m),pb (.list (([3,2,(m:Int)+1]++Uq m ((n:Int)+1)).map int)),pb (.list (dg.map int)),O (.pub .none),w4,w4]
   (λr=>∃old x6,r=.nx [pb (U2 cs ls),pb (.int c),pb (.int s),pb (.int m),pb (.list (([3,2,(m:Int)+1]++Uq m ((n:Int)+1)).map int)),pb (.list (dg.map int)),x6,w4,w4] /\
    (x6=O (.pub (Zn old)) ∨ ∃ws,old=O ws/\x6=O (.own (ws.map Kg)))/\(∀ws,old=O ws->ws.length=m)/\∀ws t,old=O ws->O t∈ws->0<=t/\t<n):=by
  have hc:∀a b:Option Sl,KW (gN 9) (UJ w5) (UN oIx (UV (UF (UJ .none) (UF (UN Zk (UE 9) (UJ (.int 1))) (UG)))) (K5 SX (UF (US Us (Kp (oIB λi j=>decide (j<i)) 9 (UJ (.int 0)))) (UG)))) (ol.map int) (Kf [pb (U2 cs ls),pb (.int c),pb (.int s),pb (.int m),pb (.list (([3,2,(m:Int)+1]++Uq m ((n:Int)+1)).map int)),pb (.list (dg.map int)),O (.pub .none),w4,w4]++Uq 1 w4) []=O ((ol.map SW).map Kg):=λ_ _=>by
   refine Xq (λZ=>∃x,Z=[pb (U2 cs ls),pb (.int c),pb (.int s),pb (.int m),pb (.list (([3,2,(m:Int)+1]++Uq m ((n:Int)+1)).map int)),pb (.list (dg.map int)),O (.pub .none),w4,w4,x]) _ _ _ _ (by simp only[Qb]) ?_ ⟨w4,rfl⟩ (by rw[Qb,QB];omega);rintro i d e hd he Z ⟨x,rfl⟩;rw[Qh]at hd;rw[Qh,Qh]at he;cases hw:ol[i]? with
   |none=>rw[hw]at hd;cases hd
   |some z=>
   rw[hw]at hd he;cases hd;cases he;exact⟨_,UT (Qa wZ) wZ,rfl,UU (Kq (UH UM (UH (UU (UK wZ) UM X8) UO)) (Qa wZ)) (Ze (UH (Ko (K1 wZ UM wZ)) UO) wZ) (qc z),_,rfl⟩
  apply UZ
  case h1=>exact UU (Kh wZ UM i1) UM ZN
  case h2=>
   intro _;refine KQ (Zs (ZS (Zv (X5 (UK wZ) (YK UM) (YK (UU UM (UK wZ) Zj)) (by rw[Wb,zE])) YJ) (hc w4 w4)) (Qa wZ) wZ) ?_;refine⟨O (ol.map SW),_,rfl,.inr ⟨_,rfl,rfl⟩,λws e=>?_,λws t e ht=>?_⟩
   .cases e;rw[Qb];exact oll
   .cases e
    obtain⟨d,hd,e⟩:=Qz.mp ht;have:=olb d hd;unfold SW at e;split at e
    .cases e;omega
    .cases e
  case h3=>exact λ_=>Ke ⟨w4,_,rfl,.inl wZ,(λws e=>by cases e),(λws t e=>by cases e)⟩
 refine Ka (Sy step λr hr=>?_);obtain⟨old,x6,rfl,hx6,hol,hob⟩:=hr;refine Kb ?_;refine U6 (Zs (Yn UO (Qa wZ)) (Qa wZ) wZ) ?_;obtain⟨k2,rfl⟩:∃k:Nat,d2=k:=⟨d2.toNat,by omega⟩
 let tl:w9:=(dg.drop (3+m)).take k2
 have tll:tl.length=k2:=by show((dg.drop (3+m)).take k2).length=k2;rw[Jg,Jw];omega
 have tlb:∀j d,tl[j]?=O d->0<=d/\d<(m:Int):=λj d hj=>by
  have yS:j<k2:=by have:=(Ql.mp hj).1;omega
  refine hdb (3+m+j) d _ ?_ (qd (by omega));rw[←hj];show _=((dg.drop (3+m)).take k2)[j]?;rw[List.getElem?_take,Qm yS,List.getElem?_drop]
 have aB:DL.cutD (dg.map int) (O (3+(m:Int))) (O (3+(m:Int)+(k2:Int)))=tl.map int:=by
  rw[O8 (by omega) (by omega) (by omega)];have t1:(3+(m:Int)).toNat=3+m:=by omega
  have t2:(3+(m:Int)+(k2:Int)).toNat-(3+(m:Int)).toNat=k2:=by omega
  rw[t2,t1]
 apply Ka;apply YB (λi Z=>∃(T:w9)(x8:Option Sl),Z=[pb (U2 cs ls),pb (.int c),pb (.int s),pb (.int m),pb (.list (([3,2,(m:Int)+1]++Uq m ((n:Int)+1)).map int)),pb (.list (dg.map int)),x6,O (.own (T.map int)),x8]/\T.length=i/\T.Nodup/\∀a∈T,0<=a/\a<(m:Int))
 case h1=>exact Zv (X5 (UK wZ) (YK (UU UM (UK wZ) Zj)) (YK (UU (UU UM (UK wZ) Zj) (Kh wZ UM i2) Zj)) (by rw[Wb,aB])) YJ
 case h0=>exact⟨[],_,rfl,rfl,List.nodup_nil,λ_ h=>by cases h⟩
 case hst=>
  rintro i d Z hi ⟨T,x8,rfl,hT,hTn,hTb⟩;rw[Qh]at hi;cases hw:tl[i]? with
  |none=>rw[hw]at hi;cases hi
  |some z=>
  rw[hw]at hi;cases hi;have hz:=tlb i z hw;have zB:i<k2:=by have:=(Ql.mp hw).1;omega
  obtain⟨zz,rfl⟩:∃k:Nat,z=k:=⟨z.toNat,by omega⟩
  refine⟨_,UT (Qa wZ) wZ,?_⟩;unfold Mz;obtain⟨k,hk,hk1,hk2⟩:=kX (m:=m) (T:=T) zz (by omega) hTn;refine U6 (HR (by omega) k 1000 zz hk1 hk2 (by omega) (by omega)) ?_;refine KQ (WM wZ (UK wZ) wZ (by rw[Qb];omega) wZ) ?_;refine Yk ⟨T++[(((zz+k) % m:Nat):Int)],_,by rw[QU (l₁:=T) (f:=int)];rfl,by rw[Qi,hT];rfl,?_,λa ha=>?_⟩
  .refine List.nodup_append.mpr ⟨hTn,List.nodup_cons.mpr ⟨(by simp),List.nodup_nil⟩,λa ha b hb e=>?_⟩
   rw[QO.mp hb]at e;exact hk2 (e ▸ ha)
  .rcases QS.mp ha with h|h
   .exact hTb a h
   .rw[QO.mp h]
    have:=Nat.mod_lt (zz+k) (show 0<m by omega);exact⟨by omega,by omega⟩
 case hend=>
  rintro Z ⟨T,x8,rfl,hT,hTn,hTb⟩;refine Kb ?_
  obtain⟨o,ho⟩:∃o:Ord,oIx (.list [.str "firsts", .str "full", .str "lasts"]) (.int d0)=O (.str o.tx):=by
   have:d0=0∨d0=1∨d0=2:=by omega
   rcases this with rfl|rfl|rfl
   .exact⟨.firsts,Zm (j:=0) wZ⟩
   .exact⟨.full,Zm (j:=1) wZ⟩
   .exact⟨.lasts,Zm (j:=2) wZ⟩
  have ga:Xn n m old T:=⟨hol,hob,hTn,hTb⟩;rcases hx6 with rfl|⟨ws,rfl,rfl⟩
  .exact UY (ZK (UH (UU (Kq (UH UM (UH UM (UH UM UO))) (Qa wZ)) (Kh wZ UM i0) ho) (UH (UK wZ) (UH (KU wZ wZ) UO))) (Qa wZ)) ⟨_,rfl,o,_,T,rfl,ga⟩
  .exact UY (ZK (UH (UU (Kq (UH UM (UH UM (UH UM UO))) (Qa wZ)) (Kh wZ UM i0) ho) (UH (KU wZ wZ) (UH (KU wZ wZ) UO))) (Qa wZ)) ⟨_,rfl,o,O ws,T,rfl,ga⟩
end
theorem Cc{op:Int->Int->yb}{j:Nat}{f:M D}{Z Z1 Z':UI}{a b:Int}{d:D}(h0:Z[j]?=O (O (.pub (.int a))))(h1:f Z=.ok (.int b) Z1)(h2:op a b=O d)(h3:j<Z1.length)(h4:Z1.set j (O (.pub d))=Z'):Xu op j f Z=.nx Z':=by unfold Xu;rw[h0];dsimp only[sB];rw[h1];dsimp only;rw[h2];dsimp only;rw[Qm h3,h4]
theorem mulN{i j:Int}(h : -1000<j/\j<1000):Ye i j=O (.int (i*j)):=by unfold Ye;exact Qm (.inr ⟨by omega,by omega⟩)
theorem RG{b n:Int}(hb : -1000<b/\b<1000)(hn : -1000<=n/\n<=1000):Zq [.int b,.int n]=O (.int (b ^ n.toNat)):=by
 refine KS (Z:=[pb (.int b),pb (.int n),w4,w4]) wZ ?_;unfold TR;refine U6 (KI UM (Qa wZ) wZ) ?_;apply Ka;apply YB (λi Z=>∃x3,Z=[pb (.int b),pb (.int n),pb (.int (b ^ i)),x3])
 case h1=>exact Ta (UH (UK wZ) UO) (Ti (by omega) (by omega))
 case h0=>exact⟨_,by rw[Int.pow_zero];rfl⟩
 case hst=>rintro i d Z hi ⟨x3,rfl⟩;refine⟨_,UT (Qa wZ) wZ,?_⟩;unfold MF;refine KQ (Cc wZ (UK wZ) (mulN hb) (Qa wZ) wZ) ?_;exact Yk ⟨_,by rw[Int.pow_succ];rfl⟩
 case hend=>
  rintro Z ⟨x3,rfl⟩;refine Kb (UY (UK rfl) ?_);rw[WD]
  congr 4
  omega
noncomputable def ordW:Ord->Int->Int->Int->Int
 |.firsts,b,M,r=>b ^ (M-r).toNat
 |.full,b,M,r=>b ^ M.toNat+b ^ (M-r).toNat
 |.lasts,b,M,r=>b ^ M.toNat-b ^ (r-1).toNat
theorem vK(o:Ord){b M r:Int}(hb : -1000<b/\b<1000)(hM:0<=M/\M<=100)(hr:0<=r/\r<=100):Vw [.str o.tx,.int b,.int M,.int r]=O (.int (ordW o b M r)):=by
 refine KS (Z:=[pb (.str o.tx),pb (.int b),pb (.int M),pb (.int r)]) wZ ?_;unfold TQ;have p1:Zq [.int b,.int (M-r)]=O (.int (b ^ (M-r).toNat)):=RG hb ⟨by omega,by omega⟩;have p2:Zq [.int b,.int M]=O (.int (b ^ M.toNat)):=RG hb ⟨by omega,by omega⟩;have p3:Zq [.int b,.int (r-1)]=O (.int (b ^ (r-1).toNat)):=RG hb ⟨by omega,by omega⟩;apply Ka;apply UZ
 case h1=>exact K1 wZ UM (N3 o)
 case h2=>
  intro h;cases o with
  |firsts=>exact UY (U8 (UH (UK wZ) (UH (UU (UK wZ) (UK wZ) X8) UO)) wZ p1) (Kj wZ)
  |full=>cases h
  |lasts=>cases h
 case h3=>
  intro h;refine Ke (Kb ?_);apply Ka;apply UZ
  case h1=>exact K1 wZ UM (N0 o)
  case h2=>
   intro h';cases o with
   |full=>exact UY (UU (U8 (UH (UK wZ) (UH (UK wZ) UO)) wZ p2) (U8 (UH (UK wZ) (UH (UU (UK wZ) (UK wZ) X8) UO)) wZ p1) Zj) (Kj wZ)
   |firsts=>cases h
   |lasts=>cases h'
  case h3=>
   intro h';refine Ke (Kb ?_);cases o with
   |firsts=>cases h
   |full=>cases h'
   |lasts=>exact UY (UU (U8 (UH (UK wZ) (UH (UK wZ) UO)) wZ p2) (U8 (UH (UK wZ) (UH (UU (UK wZ) UM X8) UO)) wZ p3) X8) wZ
noncomputable def Oa(ts:w9)(b i r:Int):Int:=if i∈ts then(b-r)*b ^ (ts.length-1-ts.idxOf i)else 0
theorem Gc{n:Nat}:∀{xs:w8},(∀x∈xs,PyData.weight x<=n)->PyData.weightAll xs<=xs.length*(n+1)
 |[],_=>by simp[PyData.weightAll]
 |x::xs,h=>by have h1:=h x Qo;have h2:=Gc (xs:=xs) λy hy=>h y (Qp _ hy);rw[PyData.weightAll,QF,Nat.succ_mul];omega
theorem kW{i:Int}(h:0<=i/\i<1000):(int i).weight<=10:=by
 simp only[PyData.weight];split
 .omega
 .rename_i hne
  have h0:i.natAbs≠0:=by intro e;exact hne (by simpa using e)
  have:=(Nat.log2_lt h0 (k:=10)).mpr (by omega);omega
theorem vO{ts:w9}(h:∀a∈ts,0<=a/\a<1000)(hl:ts.length<=1000):PyData.layable0 (.list (ts.map int))=w5:=by
 unfold PyData.layable0;have h1:(Ur (ts.map int)).canLay0=w5:=WX λx hx=>by obtain⟨y,_,rfl⟩:=Qz.mp hx;rfl
 have h2:(Ur (ts.map int)).depth<=64:=QH (Sw (n:=1) (Tg λx hx=>by obtain⟨y,_,rfl⟩:=Qz.mp hx;exact Mw y)) (by decide)
 have h3:(Ur (ts.map int)).weight<=2 ^ 20:=by
  have:=Gc (n:=10) (xs:=ts.map int) λx hx=>by obtain⟨y,hy,rfl⟩:=Qz.mp hx;exact kW (h y hy)
  rw[Qb]at this;simp only[PyData.weight];omega
 rw[h1,QC h2,QC h3];rfl
theorem qa{ts:w9}{k:Int}(hb:∀a∈ts,0<=a/\a<1000)(hl:ts.length<=1000)(h:k∈ts):Sx (.list (ts.map int)) [.int k]=O (.int (ts.idxOf k:Nat)):=by unfold Sx;dsimp only;rw[Tk];dsimp only;exact Qm ⟨vO hb hl,h⟩
theorem A9{t:Int}{r:w9}:YQ (.int t) (.list (r.map int))=O (!r.contains t):=by unfold YQ;rw[Pl];rfl
theorem vJ{ts:w9}{b i r:Int}(hb : -1000<b/\b<1000)(hr : -1000<r/\r<1000)(hl:ts.length<=100)(ht:∀a∈ts,0<=a/\a<1000):Vv [.list (ts.map int),.int b,.int i,.int r]=O (.int (Oa ts b i r)):=by
 refine KS (Z:=[pb (.list (ts.map int)),pb (.int b),pb (.int i),pb (.int r),w4]) wZ ?_;unfold TN Oa;apply Ka;apply UZ
 case h1=>exact K1 wZ (UK wZ) A9
 case h2=>
  intro h;have:¬i∈ts:=by simpa using h
  rw[Qw this];exact UY UM (Kj wZ)
 case h3=>
  intro h;have hm:i∈ts:=by simpa using h
  rw[Qm hm];refine Ke (Kb ?_);have hi:=List.idxOf_lt_length_of_mem hm;have hlen:U7 [.list (ts.map int)]=O (.int ts.length):=by rw[KR,Qb]
  refine U6 (KI (UU (UU (KT wZ hlen) UM X8) (jd (UK wZ) (UH (UK wZ) UO) (qa ht (by omega) hm)) X8) (Qa wZ) wZ) ?_;have hp:=RG (b:=b) (n:=(ts.length:Int)-1-(ts.idxOf i:Nat)) hb ⟨by omega,by omega⟩;have e:((ts.length:Int)-1-(ts.idxOf i:Nat)).toNat=ts.length-1-ts.idxOf i:=by omega
  rw[e]at hp;exact UY (UU (UU (UK wZ) (UK wZ) X8) (U8 (UH (UK wZ) (UH (UK wZ) UO)) wZ hp) (RE (by omega) (by omega))) wZ
noncomputable def P9(old:yj)(i:Nat)(t:Int):Int:=match old with
 |none=>0
 |some ws=>if ws[i]?=O (O t)then 1 else 0
section
variable{cs:w9}{ls:L3}{o:Ord}{old:yj}{ts:w9}
noncomputable def YM(ls:L3)(o:Ord)(old:yj)(ts:w9)(i:Nat)(rs:List w9)(t:Int):Int:=
 (ordW o (ls.length+1) (lng ls) (Xp t rs)*(ls.length+1)+P9 old i t)*((lng ls:Int)+1) ^ ts.length+Oa ts (lng ls+1) i (Xp t rs)
theorem jC{b:Int}(h0:0<=b)(h:b<=8):∀{n k:Nat},n<=k->b ^ n<=8 ^ k:=λ{n k} hk=>by
 have e:b=((b.toNat:Nat):Int):=by omega
 rw[e];have h1:b.toNat ^ n<=8 ^ n:=Nat.pow_le_pow_left (by omega) n;have h2:8 ^ n<=8 ^ k:=Nat.pow_le_pow_right (by omega) hk;have h3:((b.toNat ^ n:Nat):Int)<=((8 ^ k:Nat):Int):=by omega
 rw[Int.natCast_pow,Int.natCast_pow]at h3;exact h3
theorem Nj(g:Good cs ls)(ga:Xn cs.length ls.length old ts){i:Nat}{rs:List w9}(hi:ls[i]?=O rs)(t:Int):ZH [U2 cs ls,Kt o old ts,.int (lng ls:Nat),.int i,.int t]=O (.int (YM ls o old ts i rs t)):=by
 have l7:=g.l7;have l1:=g.l1;have hL:lng ls<=5:=Oj l1 λrs h=>(g.rk rs h).few;have hrk:Xp t rs<=5:=by have:=jG t rs;have:=(g.rk rs (Qv hi)).few;omega
 have htl:=ga.few;have hlt:i<ls.length:=(Ql.mp hi).1;refine KS (Z:=[pb (U2 cs ls),pb (Kt o old ts),pb (.int (lng ls:Nat)),pb (.int i),pb (.int t),w4,w4,w4,w4,w4,w4,w4,w4]) wZ ?_;unfold TM YM;refine U6 (XT (UK wZ) (Kz wZ (U1 (UT (Qa wZ) wZ) (U1 (UT (Qa wZ) wZ) (U1 (UT (Qa wZ) wZ) KB))))) ?_;refine U6 (KI (Kh wZ UM XM) (Qa wZ) wZ) ?_;refine U6 (KI (U8 (UH (Kh wZ (UK wZ) (NE hi)) (UH (UK wZ) UO)) wZ (HV t rs)) (Qa wZ) wZ) ?_;have zH:U7 [.list (ls.map Ks)]=O (.int ls.length):=by rw[KR,Qb]
 have htl':U7 [.list (ts.map int)]=O (.int ts.length):=by rw[KR,Qb]
 refine U6 (KI (UU (KT wZ zH) UM Zj) (Qa wZ) wZ) ?_
 have hk:∀Z:UI,Z[6]?=O (O (.pub (Zn old)))->Z[3]?=O (O (.pub (.int i)))->Z[4]?=O (O (.pub (.int t))) ->
   mIf (Za (US (λd=>!isNon d) (UE 6)) (UN oEq (UQ 6 (UE 3)) (UE 4))) (UJ (int 1)) (UJ (.int 0)) Z=.ok (.int (P9 old i t)) Z:=λZ r6 r3 r4=>by
  cases old with
  |none=>exact Ma (OE (Ko (UK r6))) UM
  |some ws=>
   have hw:ws.length=ls.length:=ga.len ws wZ;have hwi:ws[i]?=O ws[i]:=Qg (by omega);have hx:oIx (.list (ws.map Kg)) (.int i)=O (Kg ws[i]):=N5 (by omega)
   have ht:(Za (US (λd=>!isNon d) (UE 6)) (UN oEq (UQ 6 (UE 3)) (UE 4))) Z=.ok (decide (ws[i]=O t)) Z:=
    Ps (Ko (UK r6)) (UU (Kh r6 (UK r3) hx) (UK r4) (N4 (b:=O t)))
   rw[ET ht UM UM]
   congr 1
   unfold P9;dsimp only;rw[hwi];by_cases h:ws[i]=O t
   .rw[QC h,Qm wZ,Qm (by rw[h])]
   .rw[Qr h,Qw (by decide),Qw (λe=>h (Jf e))]
 refine U6 (KI (hk _ wZ wZ wZ) (Qa wZ) wZ) ?_;have h1:=vK o (b:=(ls.length:Int)+1) (M:=(lng ls:Nat)) (r:=(Xp t rs:Nat)) ⟨by omega,by omega⟩ ⟨by omega,by omega⟩ ⟨by omega,by omega⟩;have h2:=RG (b:=(lng ls:Int)+1) (n:=(ts.length:Nat)) ⟨by omega,by omega⟩ ⟨by omega,by omega⟩;have h3:=vJ (ts:=ts) (b:=(lng ls:Int)+1) (i:=i) (r:=(Xp t rs:Nat)) ⟨by omega,by omega⟩ ⟨by omega,by omega⟩ (by omega) (λa ha=>by have:=ga.there a ha;omega);rw[Je]at h2;refine U6 (KI (UU (UU (U8 (UH (UK wZ) (UH (UK wZ) (UH (UK wZ) (UH (UK wZ) UO)))) wZ h1) (UK wZ) (SG (by omega) (by omega))) (UK wZ) Zj) (Qa wZ) wZ) ?_;have hp:((lng ls:Int)+1) ^ ts.length<=8 ^ 7:=jC (by omega) (by omega) (by omega);have hp0:0<=((lng ls:Int)+1) ^ ts.length:=Int.pow_nonneg (by omega);exact UY (UU (UU (UK wZ) (U8 (UH (UU (UK wZ) UM Zj) (UH (KT wZ htl') UO)) wZ h2) (SG (by omega) (by omega))) (U8 (UH (UK wZ) (UH (UU (UK wZ) UM Zj) (UH (UK wZ) (UH (UK wZ) UO)))) wZ h3) Zj) wZ
end
theorem Ni{s:D->UI->ye}{t:M Bool}{g:M D}(I:UI->Prop):∀(ds:w8)(qs:List yb)(Z:UI)(es:w8),qs.length=ds.length ->
  (∀(i:Nat) d e,ds[i]?=O d->qs[i]?=O e->∀Z,I Z->∃Z1,s d Z=O Z1/\t Z1=.ok e.isSome Z1/\(∀x,e=O x->g Z1=.ok x Z1)/\I (Kf Z1))->I Z->es.length+ds.length<=1000000->KW s t g ds Z es=O (es++qs.filterMap id)
 |[],[],Z,es,_,_,_,_=>by rw[KW];simp
 |d::r,e::q,Z,es,hl,st,h0,hz=>by
  obtain⟨Z1,e1,e2,e3,h1⟩:=st 0 d e wZ wZ Z h0;rw[QF]at hz;have ih:=λes' hz'=>Ni I r q (Kf Z1) es' (by simpa using hl) (λi d' e' x y=>st (i+1) d' e' (by simpa using x) (by simpa using y)) h1 hz'
  rw[KW,e1];dsimp only;rw[e2];dsimp only;cases e with
  |none=>rw[if_neg (show ¬(none:yb).isSome=w5 by simp),ih es (by omega)];rfl
  |some x=>rw[Qm (show(O x).isSome=w5 from rfl),e3 x wZ];dsimp only;rw[Qm (by omega),ih (es++[x]) (by rw[Qi,Jc];omega),Q0];rfl
noncomputable def YR(W:Nat->List w9->Int->Int):Nat->L3->LO->LO
 |k,rs::ls,o::r=>(o.map (W k rs))::YR W (k+1) ls r
 |_,_,_=>[]
theorem Lo{W:Nat->List w9->Int->Int}:∀{k:Nat}{ls:L3}{ws:LO},ws.length=ls.length->(YR W k ls ws).length=ws.length
 |_,[],[],_=>rfl
 |_,_::_,_::_,h=>by rw[YR,List.length_cons,Lo (by simpa using h),List.length_cons]
theorem Ln{W:Nat->List w9->Int->Int}:∀{k i:Nat}{ls:L3}{ws:LO}{rs:List w9}{o:yg},ls[i]?=O rs->ws[i]?=O o->(YR W k ls ws)[i]?=O (o.map (W (k+i) rs))
 |k,0,r::ls,o::ws,_,_,h1,h2=>by cases h1;cases h2;rfl
 |k,i+1,r::ls,o::ws,rs,o',h1,h2=>by rw[YR,List.getElem?_cons_succ,Ln (k:=k+1) (rs:=rs) (o:=o') (by simpa using h1) (by simpa using h2),Nat.add_right_comm,Nat.add_assoc]
def sumO(l:LO):Int:=(l.filterMap id).sum
theorem A8(l:LO):(l.map (Option.map int)).filterMap id=(l.filterMap id).map int:=by
 induction l with
 |nil=>rfl
 |cons o r ih=>cases o with
  |none=>exact ih
  |some x=>show int x::_=int x::_;rw[ih]
section
variable{cs:w9}{ls:L3}{o:Ord}{old:yj}{ts:w9}{ws:LO}
theorem vI(g:Good cs ls)(ga:Xn cs.length ls.length old ts)(hl:ws.length=ls.length):F_bd [U2 cs ls,Kt o old ts,Kr ws]=O (.int (sumO (YR (YM ls o old ts) 0 ls ws))):=by
 refine KS (Z:=[pb (U2 cs ls),pb (Kt o old ts),pb (Kr ws),w4]) wZ ?_;unfold g_bd;refine U6 (XZ (U8 (UH (UK wZ) (UH (UK wZ) UO)) wZ (Rn g ga))) ?_;refine U6 (KI (U8 (UH (UK wZ) UO) wZ (PV g)) (Qa wZ) wZ) ?_;have l7:=g.l7
 have hc:KW (gT 2 (gNC (gN 4) (gNC (gN 5) (gN0)))) (US (λd=>!isNon d) (UE 5)) (UP 5 ZH (UF (UE 0) (UF (UE 1) (UF (UE 3) (UF (UE 4) (UF (UE 5) (UG))))))) (Z7 0 (ws.map Kg)) (Kf [pb (U2 cs ls),pb (Kt o old ts),pb (Kr ws),pb (.int (lng ls:Nat))]++Uq 2 w4) []=O (((YR (YM ls o old ts) 0 ls ws).filterMap id).map int):=by
  rw[←A8];refine Ni (λZ=>∃x y,Z=[pb (U2 cs ls),pb (Kt o old ts),pb (Kr ws),pb (.int (lng ls:Nat)),x,y]) _ _ _ _ (by rw[Qb,Lo hl,X2,Qb]) ?_ ⟨w4,w4,rfl⟩ (by rw[X2,Qb,QB];omega);rintro i d e hd he Z ⟨x,y,rfl⟩;obtain⟨z,hz,rfl⟩:=Wz hd;rw[Qh]at hz;cases hwi:ws[i]? with
  |none=>rw[hwi]at hz;cases hz
  |some w=>
  rw[hwi]at hz;cases hz;have zB:i<ls.length:=by have:=(Ql.mp hwi).1;omega
  have hls:ls[i]?=O ls[i]:=Qg zB;rw[Qh,Ln hls hwi]at he;cases he;rw[JB];refine⟨_,Kz wZ (U1 (UT (Qa wZ) wZ) (U1 (UT (Qa wZ) wZ) KB)),?_,?_,_,_,rfl⟩
  .cases w with
   |none=>exact Ko (k:=λd=>!isNon d) (x:=PyData.none) (UK wZ)
   |some t=>exact Ko (k:=λd=>!isNon d) (x:=int t) (UK wZ)
  .intro v hv
   cases w with
   |none=>cases hv
   |some t=>cases hv;exact U8 (UH (UK wZ) (UH (UK wZ) (UH (UK wZ) (UH (UK wZ) (UH (UK wZ) UO))))) wZ (Nj g ga hls t)
 exact UY (Ze (UH (Ko (ZS (X9 (UH (UK wZ) UO) Wc) hc)) UO) je) wZ
noncomputable def We(ls:L3)(o:Ord)(old:yj)(ts:w9)(a t:Int):Int:=YM ls o old ts a.toNat (ls.getD a.toNat []) t
noncomputable def Vz(V:Int->Int->Int)(q:Int×Int):D:=.tuple [.int q.1,.int q.2,.int (V q.1 q.2)]
theorem wm(g:Good cs ls)(ga:Xn cs.length ls.length old ts):F_bc [U2 cs ls,Kt o old ts]=O (.list ((Kv 0 ls).map (Vz (We ls o old ts)))):=by
 refine KS (Z:=[pb (U2 cs ls),pb (Kt o old ts),w4]) wZ ?_;unfold g_bc;refine U6 (XZ (U8 (UH (UK wZ) (UH (UK wZ) UO)) wZ (Rn g ga))) ?_;refine U6 (KI (U8 (UH (UK wZ) UO) wZ (PV g)) (Qa wZ) wZ) ?_;have few:(Kv 0 ls).length<=42:=by rw[(SN ls 0).length_eq];exact Pm g
 have hc:KW (gT 2 (gNC (gN 3) (gNC (gN 4) (gN0)))) (UJ w5) (Kx (UF (UE 3) (UF (UE 4) (UF (UP 5 ZH (UF (UE 0) (UF (UE 1) (UF (UE 2) (UF (UE 3) (UF (UE 4) (UG))))))) (UG))))) ((Kv 0 ls).map Ky) (Kf [pb (U2 cs ls),pb (Kt o old ts),pb (.int (lng ls:Nat))]++Uq 2 w4) []=O ((Kv 0 ls).map (Vz (We ls o old ts))):=by
  refine Xq (λZ=>∃x y,Z=[pb (U2 cs ls),pb (Kt o old ts),pb (.int (lng ls:Nat)),x,y]) _ _ _ _ (by simp only[Qb]) ?_ ⟨w4,w4,rfl⟩ (by rw[Qb,QB];omega);rintro i d e hd he Z ⟨x,y,rfl⟩;rw[Qh]at hd he;cases hw:(Kv 0 ls)[i]? with
  |none=>rw[hw]at hd;cases hd
  |some q=>
  rw[hw]at hd he;cases hd;cases he;obtain⟨a,t⟩:=q;obtain⟨j,rs,hj,ha,ht⟩:=SA (Qv hw);have ha:a=(j:Int):=by rw[JB]at ha;exact ha
  subst ha;have hv:We ls o old ts j t=YM ls o old ts j rs t:=by unfold We;rw[Je,JQ,hj];rfl
  refine⟨_,Kz wZ (U1 (UT (Qa wZ) wZ) (U1 (UT (Qa wZ) wZ) KB)),rfl,?_,_,_,rfl⟩;unfold Vz;dsimp only;rw[hv];exact ZK (UH (UK wZ) (UH (UK wZ) (UH (U8 (UH (UK wZ) (UH (UK wZ) (UH (UK wZ) (UH (UK wZ) (UH (UK wZ) UO))))) wZ (Nj g ga hj t)) UO))) (Qa wZ)
 exact UY (Ko (ZS (Zv (U8 (UH (UK wZ) UO) wZ (wo g)) YJ) hc)) wZ
end
section
variable{cs:w9}{ls:L3}{ws:LO}
theorem A7(hl:ws.length=ls.length):(KD ls ws).length=ls.length:=by unfold KD;rw[List.length_zipWith];omega
end
noncomputable def YT(old:yj)(ws:LO):Nat:=match old with
 |none=>0
 |some os=>((os.zip ws).filter λp=>decide (p.1=p.2)&&p.2.isSome).length
theorem jB(os ws:LO):ZJ (os.map Kg) (ws.map Kg)=(os.zip ws).map λp=>.tuple [Kg p.1,Kg p.2]:=by unfold ZJ;rw[List.zip_map,Q3];rfl
theorem Cb{α β:Type}{l:List α}{p:α->Bool}{f:α->β}:(l.map λx=>if p x=w5 then O (f x)else w4).filterMap id=(l.filter p).map f:=by
 induction l with
 |nil=>rfl
 |cons x r ih=>
  rw[Qy];by_cases h:p x=w5
  .rw[Qm h,List.filter_cons_of_pos h,Qy,←ih];rfl
  .rw[Qw h,List.filter_cons_of_neg h,←ih];rfl
section
variable{cs:w9}{ls:L3}{ws:LO}{o:Ord}{old:yj}{ts:w9}
theorem A6(g:Good cs ls):(Zi (lng ls) (KD ls ws)).length<=6:=by have hL:lng ls<=5:=Oj g.l1 λrs h=>(g.rk rs h).few;rw[qf];omega
end
noncomputable def btr:LP->Bool
 |[]=>w6
 |(m,y)::r=>if m=y then btr r else decide (y=0) || (decide (0<m)&&decide (m<y))
noncomputable def rgA(ls:L3)(ws:LO)(a:Int):Int:=(KD ls ws).getD a.toNat 0
noncomputable def betW(o:Ord)(c1 c2:w9)(k1 k2:Int)(r1 r2:w9):Bool:=if fnz (VA o c1 c2)=0 then(if k1=k2 then btr (r1.zip r2)else decide (k2<k1))else decide (0<fnz (VA o c1 c2))
section
variable{cs:w9}{ls:L3}{ws us:LO}{o:Ord}{old:yj}{ts:w9}
theorem vN{os:LO}(h:os.length<=100):Xb [Zn (O os),Kr ws]=O (.int (YT (O os) ws:Nat)):=by
 refine KS (Z:=[pb (Kr os),pb (Kr ws)]) wZ ?_;unfold W9;apply Ka;apply UZ
 case h1=>exact Ko (k:=isNon) (x:=Kr os) (UK wZ)
 case h2=>intro h;cases h
 case h3=>
  intro _;refine Ke (Kb ?_)
  have hc:KW (gT 2 (gNC (gN 2) (gNC (gN 3) (gN0)))) (Za (US (λd=>!isNon d) (UE 2)) (Kp oEq 3 (UE 2))) (UE 2) (ZJ (os.map Kg) (ws.map Kg)) (Kf [pb (Kr os),pb (Kr ws)]++Uq 2 w4) []=O (((os.zip ws).filter λp=>p.1.isSome&&decide (p.2=p.1)).map λp=>Kg p.1):=by
   rw[jB,←Cb];refine Ni (λZ=>∃x y,Z=[pb (Kr os),pb (Kr ws),x,y]) _ _ _ _ (by simp only[Qb]) ?_ ⟨w4,w4,rfl⟩ (by rw[Qb,QB,J6];omega);rintro i d e hd he Z ⟨x,y,rfl⟩;rw[Qh]at hd he;cases hq:(os.zip ws)[i]? with
   |none=>rw[hq]at hd;cases hd
   |some q=>
   rw[hq]at hd he;cases hd;cases he;obtain⟨p1,p2⟩:=q;refine⟨_,Kz wZ (U1 (UT (Qa wZ) wZ) (U1 (UT (Qa wZ) wZ) KB)),?_,?_,_,_,rfl⟩
   .dsimp only
    cases p1 with
    |none=>exact OE (Ko (k:=λd=>!isNon d) (x:=PyData.none) (UK wZ))
    |some t=>
     have e:(if((O t).isSome&&decide (p2=O t))=w5 then O (Kg (O t))else w4).isSome=decide (p2=O t):=by
      by_cases h:p2=O t
      .rw[QC h];rfl
      .rw[Qr h];rfl
     rw[e];exact Ps (Ko (k:=λd=>!isNon d) (x:=int t) (UK wZ)) (K1 wZ (UK wZ) (N4 (a:=p2) (b:=O t)))
   .intro v hv
    dsimp only at hv;split at hv
    .cases hv;exact UK wZ
    .cases hv
  have hln:U7 [.list (((os.zip ws).filter λp=>p.1.isSome&&decide (p.2=p.1)).map λp=>Kg p.1)]=O (.int (YT (O os) ws:Nat)):=by
   rw[KR,Qb]
   congr 3
   unfold YT;dsimp only
   congr 1
   apply List.filter_congr;rintro⟨p1,p2⟩ _;dsimp only;by_cases h:p1=p2
   .subst h;rw[Bool.and_comm]
   .rw[Qr h,Qr (λe=>h e.symm),Jp,JT]
  exact UY (Ze (UH (Ko (ZS (Ol (UH (UK wZ) (UH (UK wZ) UO)) wZ) hc)) UO) hln) wZ
theorem wa:Xb [Zn w4,Kr ws]=O (.int (YT w4 ws:Nat)):=by
 refine KS (Z:=[O (.pub .none),pb (Kr ws)]) wZ ?_;unfold W9;apply Ka;apply UZ
 case h1=>exact Ko (k:=isNon) (x:=PyData.none) (UK wZ)
 case h2=>exact λ_=>UY UM (Kj wZ)
 case h3=>intro h;cases h
noncomputable def Sr(ls:L3)(old:yj)(ts:w9)(ws:LO):D:=.tuple [.list ((Zi (lng ls) (KD ls ws)).map int),.int (YT old ws:Nat),.list ((ts.map (rgA ls ws)).map int)]
theorem OV(g:Good cs ls)(hl:ws.length=ls.length)(ga:Xn cs.length ls.length old ts):Vx [U2 cs ls,Kt o old ts,Kr ws]=O (Sr ls old ts ws):=by
 refine KS (Z:=[pb (U2 cs ls),pb (Kt o old ts),pb (Kr ws),w4,w4,w4,w4]) wZ ?_;unfold g_au;have l7:=g.l7;have few:=ga.few;refine U6 (XZ (U8 (UH (UK wZ) (UH (UK wZ) UO)) wZ (Rn g ga))) ?_;refine U6 (XT (UK wZ) (Kz wZ (U1 (UT (Qa wZ) wZ) (U1 (UT (Qa wZ) wZ) (U1 (UT (Qa wZ) wZ) KB))))) ?_;refine U6 (KI (U8 (UH (UK wZ) (UH (UK wZ) UO)) wZ (Gd g hl)) (Qa wZ) wZ) ?_
 have hk:Xb [Zn old,Kr ws]=O (.int (YT old ws:Nat)):=by
  cases old with
  |none=>exact wa
  |some os=>exact vN (by have:=ga.len os wZ;omega)
 have hc:KW (gN 7) (UJ w5) (UQ 6 (UE 7)) (ts.map int) (Kf [pb (U2 cs ls),pb (Kt o old ts),pb (Kr ws),pb (.str o.tx),pb (Zn old),pb (.list (ts.map int)),pb (.list ((KD ls ws).map int))]++Uq 1 w4) []=O ((ts.map (rgA ls ws)).map int):=by
  refine Xq (λZ=>∃x,Z=[pb (U2 cs ls),pb (Kt o old ts),pb (Kr ws),pb (.str o.tx),pb (Zn old),pb (.list (ts.map int)),pb (.list ((KD ls ws).map int)),x]) _ _ _ _ (by simp only[Qb]) ?_ ⟨w4,rfl⟩ (by rw[Qb,QB];omega);rintro i d e hd he Z ⟨x,rfl⟩;rw[Qh]at hd;rw[Qh,Qh]at he;cases hq:ts[i]? with
  |none=>rw[hq]at hd;cases hd
  |some q=>
  rw[hq]at hd he;cases hd;cases he;have hz:=ga.there q (Qv hq);obtain⟨a,rfl⟩:∃a:Nat,q=a:=⟨q.toNat,by omega⟩
  have hal:a<(KD ls ws).length:=by rw[A7 hl];omega
  refine⟨_,UT (Qa wZ) wZ,rfl,Kh wZ (UK wZ) (Zm ?_),_,rfl⟩;unfold rgA;rw[Qh,Je,JQ,Qg hal];rfl
 exact UY (ZK (UH (U8 (UH (UK wZ) (UH (UK wZ) UO)) wZ (vP g hl)) (UH (U8 (UH (UK wZ) (UH (UK wZ) UO)) wZ hk) (UH (Ko (ZS (Zv (UK wZ) YJ) hc)) UO))) (Qa wZ)) wZ
theorem wS{xs ys:w9}:Wm [.list (xs.map int),.list (ys.map int)]=O (.bool (btr (xs.zip ys))):=by
 refine KS (Z:=[pb (.list (xs.map int)),pb (.list (ys.map int)),w4,w4]) wZ ?_;unfold TU;apply Ka;apply YB (λi Z=>(∃x2 x3,Z=[pb (.list (xs.map int)),pb (.list (ys.map int)),x2,x3])/\btr (xs.zip ys)=btr ((xs.zip ys).drop i))
 case h1=>exact Ol (UH (UK wZ) (UH (UK wZ) UO)) wZ
 case h0=>exact⟨⟨_,_,rfl⟩,rfl⟩
 case hst=>
  rintro i d Z hi ⟨⟨x2,x3,rfl⟩,hb⟩;rw[Nd,Qh]at hi;cases hq:(xs.zip ys)[i]? with
  |none=>rw[hq]at hi;cases hi
  |some q=>
  rw[hq]at hi;cases hi;obtain⟨m,y⟩:=q;obtain⟨zB,he⟩:=Ql.mp hq;rw[JG zB,he,btr]at hb;refine⟨_,Kz wZ (U1 (UT (Qa wZ) wZ) (U1 (UT (Qa wZ) wZ) KB)),?_⟩;unfold ME;apply UZ
  case h1=>exact K1 wZ (UK wZ) Xk
  case h2=>
   intro h;have hmy:¬m=y:=by simpa using h
   rw[Qw hmy]at hb;refine UY (Pi (Ko (K1 wZ UM ZN)) (λ_=>Ko (WS UM (UK wZ) lt_int (λ_=>UK wZ) (λ_=>lt_int)))) (V8 (Kj ?_));rw[hb]
  case h3=>
   intro h;have hmy:m=y:=by simpa using h
   rw[Qm hmy]at hb;exact Ke (Yk ⟨⟨_,_,rfl⟩,hb⟩)
 case hend=>rintro Z ⟨⟨x2,x3,rfl⟩,hb⟩;refine Kb (UY UM ?_);rw[Nd,Qb,List.drop_length]at hb;rw[hb];rfl
end
section
variable{cs:w9}{ls:L3}{ws us:LO}{o:Ord}{old:yj}{ts:w9}
theorem jA(g:Good cs ls)(hl1:ws.length=ls.length)(hl2:us.length=ls.length)(ga:Xn cs.length ls.length old ts):Sa [U2 cs ls,Kt o old ts,Kr ws,Kr us] =
  some (.bool (betW o (Zi (lng ls) (KD ls ws)) (Zi (lng ls) (KD ls us)) (YT old ws) (YT old us) (ts.map (rgA ls ws)) (ts.map (rgA ls us)))):=by
 refine KS (Z:=[pb (U2 cs ls),pb (Kt o old ts),pb (Kr ws),pb (Kr us),w4,w4,w4,w4,w4,w4,w4]) wZ ?_;unfold g_aw betW;refine U6 (XT (U8 (UH (UK wZ) (UH (UK wZ) (UH (UK wZ) UO))) wZ (OV (o:=o) g hl1 ga)) (Kz wZ (U1 (UT (Qa wZ) wZ) (U1 (UT (Qa wZ) wZ) (U1 (UT (Qa wZ) wZ) KB))))) ?_;refine U6 (XT (U8 (UH (UK wZ) (UH (UK wZ) (UH (UK wZ) UO))) wZ (OV (o:=o) g hl2 ga)) (Kz wZ (U1 (UT (Qa wZ) wZ) (U1 (UT (Qa wZ) wZ) (U1 (UT (Qa wZ) wZ) KB))))) ?_;have few:(Zi (lng ls) (KD ls ws)).length<=6:=A6 g;have hb:=vM o (xs:=Zi (lng ls) (KD ls ws)) (ys:=Zi (lng ls) (KD ls us)) (by omega);have i0:oIx (Kt o old ts) (.int 0)=O (.str o.tx):=Zm (j:=0) wZ;refine U6 (KI (U8 (UH (Kh wZ UM i0) (UH (UK wZ) (UH (UK wZ) UO))) wZ hb) (Qa wZ) wZ) ?_;generalize fnz (VA o (Zi (lng ls) (KD ls ws)) (Zi (lng ls) (KD ls us)))=z
 have e1:oNe (.str (bsT z)) (.str "alike")=O (decide (z≠0)):=by
  unfold bsT;by_cases h:z=0
  .rw[Qm h,Qr (by omega)];decide +kernel
  .rw[Qw h,QC h];split<;>decide +kernel
 have e2:oEq (.str (bsT z)) (.str "better")=O (decide (0<z)):=by
  unfold bsT;by_cases h:z=0
  .rw[Qm h,Qr (by omega)];decide +kernel
  .rw[Qw h]
   by_cases h2:0<z
   .rw[Qm h2,QC h2];decide +kernel
   .rw[Qw h2,Qr h2];decide +kernel
 apply Ka;apply UZ
 case h1=>exact K1 wZ UM e1
 case h2=>intro h;rw[Qw (Qa h)];exact UY (Ko (K1 wZ UM e2)) (Kj wZ)
 case h3=>
  intro h;have hz:z=0:=by have:=Q8 h;omega
  rw[Qm hz];refine Ke (Kb ?_);apply Ka;apply UZ
  case h1=>exact K1 wZ (UK wZ) Xk
  case h2=>
   intro h;have hk:¬((YT old ws:Nat):Int)=(YT old us:Nat):=by simpa using h
   rw[Qw hk];exact UY (Ko (K1 wZ (UK wZ) wZ)) (Kj wZ)
  case h3=>
   intro h;have hk:((YT old ws:Nat):Int)=(YT old us:Nat):=by simpa using h
   rw[Qm hk];exact Ke (Kb (UY (U8 (UH (UK wZ) (UH (UK wZ) UO)) wZ wS) wZ))
end
theorem Lm{xs:w8}{a b:yg}:(DL.cutD xs a b).length<=xs.length:=by unfold DL.cutD;rw[Jg,Jw];omega
theorem Ll{xs:w8}{a b:yg}{x:D}(h:x∈DL.cutD xs a b):x∈xs:=by unfold DL.cutD at h;exact List.mem_of_mem_drop (J4 h)
theorem jz{ns:w9}{n:Int}{a b:yg}{i:Nat}{x:D}(h:(int n::DL.cutD (ns.map int) a b)[i]?=O x):∃c:Int,x=.int c:=by
 have hm:=Qv h;rcases Qx.mp hm with rfl|hm
 .exact⟨n,rfl⟩
 .obtain⟨c,_,rfl⟩:=Qz.mp (Ll hm)
  exact⟨c,rfl⟩
theorem jy{ns:w9}{n:Int}{a b:yg}(h:ns.length<=1000):U0 (.list [.int n]) (.list (DL.cutD (ns.map int) a b))=O (.list (int n::DL.cutD (ns.map int) a b)):=Yu (by
 have:=Lm (xs:=ns.map int) (a:=a) (b:=b);rw[Qb]at this;show 1+_<=_
 omega)
theorem A5(a b:Str):Ux (.str a) (.str b)=(a==b):=rfl
theorem OU(z:Str):∀(ys:List Str),((ys.map Ut).any λy=>Ux y (.str z))=ys.contains z
 |[]=>rfl
 |y::r=>by
  rw[Qy,List.any_cons,OU z r,QW,A5];by_cases h:y=z
  .subst h;simp
  .have h1:(y==z)=w6:=by simpa using h
   have h2:(z==y)=w6:=by simpa using Ne.symm h
   rw[h1,h2]
theorem OT:∀{ys:List Str},(∀y∈ys,Uu y=w5)->Uv (ys.map Ut)=w5
 |[],_=>rfl
 |y::r,h=>by
  show(Uu y&&Uv (r.map Ut))=w5
  rw[h y Qo,OT λx hx=>h x (Qp _ hx)];rfl
theorem A4{z:Str}{ys:List Str}(hz:Uu z=w5)(hy:∀y∈ys,Uu y=w5):oIn (.str z) (.tuple (ys.map Ut))=O (ys.contains z):=by unfold oIn;dsimp only;rw[Qm ⟨hz,OT hy,Hf⟩,OU]
theorem A3{z:Str}{ys:List Str}(hz:Uu z=w5)(hy:∀y∈ys,Uu y=w5):oIn (.str z) (.list (ys.map Ut))=O (ys.contains z):=by unfold oIn;dsimp only;rw[Qm ⟨hz,OT hy,Hf⟩,OU]
def whB:D->Bool
 |.int _=>w5
 |_=>w6
noncomputable def U9(n:Int):D->Bool
 |.int i=>decide (0<=i)&&decide (i<n)
 |_=>w6
noncomputable def rkB(n:Int):D->Bool
 |.list (x::xs)=>(x::xs).all (U9 n)
 |_=>w6
def whI:D->yg
 |.int i=>O i
 |_=>w4
noncomputable def itI:D->w9
 |.list xs=>xs.filterMap whI
 |_=>[]
noncomputable def flI(rs:w8):w9:=rs.flatMap itI
noncomputable def Zy(n:Int):D->Bool
 |.list rs=>decide (rs.length<=5)&&(rs.all (rkB n)&&decide (flI rs).Nodup)
 |_=>w6
theorem WW(n:Int)(rs:w8):Zy n (.list rs)=(decide (rs.length<=5)&&(rs.all (rkB n)&&decide (flI rs).Nodup)):=rfl
theorem Hd(d:D):Ws [d]=O (.bool (whB d)):=by
 cases d with
 |dict kvs=>exact KS (Z:=[pb (.dict kvs)]) wZ (UY (YY (t:=w6) (u:=w6) (On (UK wZ)) λz=>by cases z) wZ)
 |_=>rfl
theorem PR(d:D)(n:Int):K6 [d,.int n]=O (.bool (U9 n d)):=by
 refine KS (Z:=[pb d,pb (.int n)]) wZ ?_;unfold Vg;cases d with
 |int i=>exact UY (YY (t:=w5) (u:=decide (0<=i)&&decide (i<n)) (U8 (UH (UK wZ) UO) wZ (Hd (.int i))) (λ_=>Ko (WS UM (UK wZ) wZ (λ_=>UK wZ) (λ_=>rfl)))) wZ
 |_=>exact UY (YY (t:=w6) (u:=w6) (U8 (UH (UK wZ) UO) wZ (Hd _)) (λz=>by cases z)) wZ
theorem OS{n:Int}{d:D}(h:U9 n d=w5):∃i,d=.int i/\0<=i/\i<n:=by
 cases d with
 |int i=>have h:(decide (0<=i)&&decide (i<n))=w5:=h;simp only[QL,Jm]at h;exact⟨i,rfl,h⟩
 |_=>cases h
theorem Pv{n:Int}:∀{xs:w8},xs.all (U9 n)=w5->xs=(xs.filterMap whI).map int
 |[],_=>rfl
 |x::r,h=>by rw[Jh,QL]at h;obtain⟨i,rfl,_⟩:=OS h.1;have ih:=Pv h.2;show _=(i::r.filterMap whI).map int;rw[Qy,←ih]
theorem Eh{n:Int}{d:D}(h:rkB n d=w5):d=.list ((itI d).map int):=by
 cases d with
 |list xs=>
  cases xs with
  |nil=>cases h
  |cons x r=>exact Uc Ur (Pv h)
 |_=>cases h
theorem PQ{q:D->Bool}(xs:w8):Yd [.list (xs.map λd=>.bool (q d))]=O (.bool (xs.all q)):=by
 have:(xs.map λd=>Us (q d))=(xs.map q).map Us:=by rw[Q3];rfl
 rw[this,MW]
 congr 2
 rw[List.all_map];rfl
theorem vH{d:D}{n:Int}(hl:∀xs,d=.list xs->xs.length<=700):Xf [d,.int n]=O (.bool (rkB n d)):=by
 refine KS (Z:=[pb d,pb (.int n)]) wZ ?_;unfold Vf;apply Ka;cases d with
 |list xs=>
  have hl:=hl xs wZ;apply UZ (b:=decide ((xs.length:Int)=0))
  case h1=>exact Zt (Z1:=[pb (.list xs),pb (.int n)]) (KP (UK wZ) wZ) (UU (KT wZ KR) UM ZN)
  case h2=>
   intro hh;have:(xs.length:Int)=0:=by simpa using hh
   have e:xs=[]:=List.eq_nil_of_length_eq_zero (by omega);subst e;exact UY UM (Kj wZ)
  case h3=>
   intro hh;have hne:¬(xs.length:Int)=0:=by simpa using hh
   refine Ke (Kb ?_)
   have hc:KW (gN 2) (UJ w5) (UP 2 K6 (UF (UE 2) (UF (UE 1) (UG)))) xs (Kf [pb (.list xs),pb (.int n)]++Uq 1 w4) []=O (xs.map λd=>.bool (U9 n d)):=by
    rw[X1 (λ_=>w5) (λd=>.bool (U9 n d)) (λZ=>∃x,Z=[pb (.list xs),pb (.int n),x])]
    .rw[Jj.mpr (λ_ _=>rfl),QX]
    .rintro d hm Z ⟨x,rfl⟩
     exact⟨_,UT (Qa wZ) wZ,rfl,λ_=>U8 (UH (UK wZ) (UH (UK wZ) UO)) wZ (PR d n),_,rfl⟩
    .exact⟨w4,rfl⟩
    .rw[QB];omega
   refine UY (Ze (UH (Ko (ZS (Zv (UK wZ) wZ) hc)) UO) (PQ xs)) ?_;cases xs with
   |nil=>exact absurd wZ hne
   |cons x r=>rfl
 |dict kvs=>exact UZ (b:=w5) (K9 (YF (UK wZ))) (λ_=>UY UM (Kj wZ)) (λz=>by cases z)
 |_=>exact UZ (b:=w5) (K9 (KP (UK wZ) wZ)) (λ_=>UY UM (Kj wZ)) (λz=>by cases z)
theorem jx{ns:w9}:∀i,(PyProof.Rows.firstMet (λi=>ns.getD i 0) i).length<=i:=by
 intro i;induction i with
 |zero=>exact Qq _
 |succ i ih=>
  rw[PyProof.Rows.firstMet_succ];unfold PyProof.Rows.step_dedup;split
  .omega
  .rw[Qi,Jc];omega
theorem v8{ns:w9}(h:Wy ns=ns.length):ns.Nodup:=by
 unfold Wy at h
 have key:∀i,i<=ns.length->(PyProof.Rows.firstMet (λi=>ns.getD i 0) i).length=i->(ns.take i).Nodup:=by
  intro i;induction i with
  |zero=>intro _ _;simp
  |succ i ih=>
   intro hi e;rw[PyProof.Rows.firstMet_succ]at e;unfold PyProof.Rows.step_dedup at e;cases hany:(PyProof.Rows.firstMet (λi=>ns.getD i 0) i).any (· == ns.getD i 0)with
   |true=>rw[hany,Qm wZ]at e;have:=jx (ns:=ns) i;omega
   |false=>
    rw[hany,Qw (by decide),Qi]at e;have e:(PyProof.Rows.firstMet (λi=>ns.getD i 0) i).length=i:=by simpa using e
    have ih:=ih (by omega) e;rw[JC (by omega),JZ];refine⟨ih,by simp,λa ha b hb=>?_⟩;rw[QO]at hb;subst hb;rw[PyProof.Rows.firstMet_any,List.any_eq_false]at hany;obtain⟨j,hj,rfl⟩:=List.mem_take_iff_getElem.mp ha;have hj':j<i:=by have:=hj;omega
    have:=hany (ns.getD j 0) (Qz.mpr ⟨j,Jq.mpr hj',rfl⟩);have l1:j<ns.length:=by omega
    have l2:i<ns.length:=by omega
    simp only[List.getD,Qg l1,Qg l2,JV,beq_iff_eq]at this;exact this
 have:=key ns.length (Qq _) h;rwa[J5]at this
theorem Hc{ns:w9}(h:ns.length<=3500):∃u:Nat,Wa [.list (ns.map int)]=O (.int u)/\decide ((u:Int)=ns.length)=decide ns.Nodup:=by
 refine⟨Wy ns,?_,?_⟩
 .unfold Wa
  dsimp only;rw[Tk];dsimp only;rw[Qm (by omega)]
 .by_cases e:ns.Nodup
  .rw[Nl e,decide_eq_true e];simp
  .rw[Qr e,Qr]
   intro z;exact e (v8 (by omega))
def Vk(d:D):Prop:=∀rs,d=.list rs->∀xs,.list xs∈rs->xs.length<=700
theorem Gz{n:Int}:∀{rs:w8},rs.all (rkB n)=w5->(∀xs,.list xs∈rs->xs.length<=700)->∃ls:List w9,rs=ls.map KM/\flI rs=ls.flatten/\ls.flatten.length<=700*rs.length
 |[],_,_=>⟨[],rfl,rfl,by simp⟩
 |d::r,h,hs=>by
  rw[Jh,QL]at h;obtain⟨ls,e1,e2,e3⟩:=Gz h.2 λxs hx=>hs xs (Qp _ hx)
  have hd:=Eh h.1;have hl:=hs ((itI d).map int) (by rw[←hd];exact Qo);rw[Qb]at hl;refine⟨itI d::ls,?_,?_,?_⟩
  .rw[Qy,←e1]
   exact Uc (· :: r) hd
  .show itI d++flI r=_
   rw[e2,QG]
  .rw[QG,Qi,QF];omega
theorem v7{d:D}{n:Int}(hs:Vk d):Xe [d,.int n]=O (.bool (Zy n d)):=by
 refine KS (Z:=[pb d,pb (.int n),w4]) wZ ?_;unfold Ve;apply Ka;cases d with
 |list rs=>
  have hs:=hs rs wZ;apply UZ (b:=decide ((5:Int)<rs.length))
  case h1=>exact Zt (Z1:=[pb (.list rs),pb (.int n),w4]) (KP (UK wZ) wZ) (UU (KT wZ KR) UM wZ)
  case h2=>
   intro hh;have:(5:Int)<(rs.length:Int):=by simpa using hh
   refine UY UM (Kj ?_);rw[WW,Qr (by omega:¬rs.length<=5)];rfl
  case h3=>
   intro hh;have h5:¬(5:Int)<(rs.length:Int):=by simpa using hh
   refine Ke (Kb ?_)
   have hc:KW (gN 3) (UJ w5) (UP 2 Xf (UF (UE 3) (UF (UE 1) (UG)))) rs (Kf [pb (.list rs),pb (.int n),w4]++Uq 1 w4) []=O (rs.map λd=>.bool (rkB n d)):=by
    rw[X1 (λ_=>w5) (λd=>.bool (rkB n d)) (λZ=>∃x,Z=[pb (.list rs),pb (.int n),w4,x])]
    .rw[Jj.mpr (λ_ _=>rfl),QX]
    .rintro d hm Z ⟨x,rfl⟩
     exact⟨_,UT (Qa wZ) wZ,rfl,λ_=>U8 (UH (UK wZ) (UH (UK wZ) UO)) wZ (vH (λxs e=>hs xs (by rw[←e];exact hm))),_,rfl⟩
    .exact⟨w4,rfl⟩
    .rw[QB];omega
   apply Ka;apply UZ
   case h1=>exact ZA (Z8 (Ze (UH (Ko (ZS (Zv (UK wZ) wZ) hc)) UO) (PQ rs)))
   case h2=>
    intro hh;have e:rs.all (rkB n)=w6:=by simpa using hh
    refine UY UM (Kj ?_);rw[WW,e,JT,Jp]
   case h3=>
    intro hh;have e:rs.all (rkB n)=w5:=by simpa using hh
    refine Ke (Kb ?_);obtain⟨ls,e1,e2,e3⟩:=Gz e hs;have hfl:ls.flatten.length<=3500:=by omega
    subst e1;have h2:V5 (KJ (UE 0)) 2 (gN 3) (UJ w5) (KJ (UE 3)) (gN 4) (UJ w5) (UE 4) [pb (.list (ls.map KM)),pb (.int n),w4]=.ok (ls.flatten.map int) [pb (.list (ls.map KM)),pb (.int n),w4]:=by unfold V5;have e1:KJ (UE 0) [pb (.list (ls.map KM)),pb (.int n),w4]=.ok (ls.map KM) [pb (.list (ls.map KM)),pb (.int n),w4]:=Zv (UK wZ) wZ;rw[e1];dsimp only;have e2:=Nv (a:=.list (ls.map KM)) (b:=.int n) ls [] w4 w4 (by rw[QB];omega);have e3:XU (gN 3) (UJ w5) (KJ (UE 3)) (gN 4) (UJ w5) (UE 4) (ls.map KM) (Kf [pb (.list (ls.map KM)),pb (.int n),w4]++Uq 2 w4) []=O ([]++ls.flatten.map int):=e2;rw[e3];rfl
    refine U6 (Zs h2 (Qa wZ) wZ) ?_;obtain⟨u,hu1,hu2⟩:=Hc hfl;refine UY (Ko (UU (Ze (UH (KU wZ wZ) UO) hu1) (KT wZ KR) ZN)) ?_;rw[Qb,hu2];rw[WW,QC (by omega:(ls.map KM).length<=5),e,e2,JL,JL]
 |dict kvs=>exact UZ (b:=w5) (K9 (YF (UK wZ))) (λ_=>UY UM (Kj wZ)) (λz=>by cases z)
 |_=>exact UZ (b:=w5) (K9 (KP (UK wZ) wZ)) (λ_=>UY UM (Kj wZ)) (λz=>by cases z)
noncomputable def Zf:D->Option (Str×D)
 |.tuple [c,l]=>(match c with
  |.list cs=>if 1<=cs.length/\cs.length<=6 then(match fb (U9 8) 0 cs with
    |some k=>O ("copies", .int k)
    |none=>(match l with
     |.list ls=>if 1<=ls.length/\ls.length<=7 then(match fb (Zy cs.length) 0 ls with
       |some k=>O ("lists", .int k)
       |none=>w4)else O ("lists", .none)
     |_=>O ("lists", .none)))else O ("copies", .none)
  |_=>O ("copies", .none))
 |_=>O ("wishes", .none)
noncomputable def T6(o:Option (Str×D)):XR:=match o with
 |none=>.val .none
 |some (p,n)=>.exc (exD "NoWishes" [.str p,n])
theorem WP{p:Str}{n:D}(h1:p.length<=1000)(h2:WI n=w5):WG "NoWishes" [.str p,n]=O [.str p,n]:=by have e:Yj "NoWishes" = (["part", "number"]:List Str):=rfl;unfold WG;rw[e];dsimp only;have h3:WI (.str p)=w5:=QC h1;rw[Qm ⟨rfl,by rw[Jh,Jh,h2,h3];rfl⟩]
theorem MQ{j:Nat}(h:j<1000000):WI (.int j)=w5:=by
 unfold WI;simp only[QL,Jm]
 constructor<;>omega
noncomputable def Zb(c:D):Option (Str×D):=match c with
 |.list cs=>if 1<=cs.length/\cs.length<=6 then(match fb (U9 8) 0 cs with
  |some k=>O ("copies", .int k)
  |none=>w4)else O ("copies", .none)
 |_=>O ("copies", .none)
noncomputable def Zx(n:Int)(l:D):Option (Str×D):=match l with
 |.list ls=>if 1<=ls.length/\ls.length<=7 then(match fb (Zy n) 0 ls with
  |some k=>O ("lists", .int k)
  |none=>w4)else O ("lists", .none)
 |_=>O ("lists", .none)
theorem VO{m:Nat}{k:Int}:(!(decide ((1:Int)<=m)&&decide ((m:Int)<=k)))=decide (¬(1<=m/\(m:Int)<=k)):=by
 by_cases h:(1:Int)<=m<;>by_cases h2:(m:Int)<=k
 .rw[QC h,QC h2,Qr (by omega)];rfl
 .rw[Qr h2,Jp,QC (by omega)];rfl
 .rw[Qr h,JT,QC (by omega)];rfl
 .rw[Qr h,JT,QC (by omega)];rfl
theorem Ca(d:D):RN [d]=O (T6 (Zb d)):=by
 refine XN (Z:=[pb d,w4,w4]) wZ ?_;unfold NA;apply Ka;cases d with
 |list cs=>
  apply UZ
  case h1=>exact Zt (Z1:=[pb (.list cs),w4,w4]) (KP (UK wZ) wZ) (ZA (WS UM (KT wZ KR) wZ (λ_=>UM) (λ_=>rfl)))
  case h2=>intro hh;rw[VO]at hh;have hh:=Qa hh;refine KQ (Xr (UH UM (UH UM UO)) (WP (by decide) wZ)) (YE ?_);unfold Zb;dsimp only;rw[Qw (by omega)];exact⟨rfl,rfl⟩
  case h3=>
   intro hh;rw[VO]at hh;have hh:=Q8 hh;have hl:1<=cs.length/\cs.length<=6:=by omega
   have ed:Zb (.list cs)=(match fb (U9 8) 0 cs with
    |some k=>O ("copies", .int k)
    |none=>w4):=by unfold Zb;dsimp only;rw[if_pos hl]
   refine Ke (Kb ?_);rw[ed];refine Px (xs:=cs) (U9 8) (λZ=>∃x1 x2,Z=[pb (.list cs),x1,x2]) (X9 (UH (UK wZ) UO) Wc) ⟨_,_,rfl⟩ ?_ ?_
   .rintro x hx j Z hj ⟨x1,x2,rfl⟩
    refine⟨_,Kz wZ (U1 (UT (Qa wZ) wZ) (U1 (UT (Qa wZ) wZ) KB)),?_⟩;unfold Fp;refine UZ (ZA (Z8 (U8 (UH (UK wZ) (UH (UU UM UM Zj) UO)) wZ (PR x 8)))) (λz=>?_) λz=>?_
    .refine KQ (Xr (UH UM (UH (UK wZ) UO)) (WP (by decide) (MQ (by omega)))) (NO (by simpa using z) λe=>?_)
     rw[e];exact⟨rfl,rfl⟩
    .exact Ke (RQ (by simpa using z) ⟨_,_,rfl⟩)
   .intro e Z _
    rw[e];rfl
 |dict kvs=>exact UZ (b:=w5) (K9 (YF (UK wZ))) (λ_=>KQ (Xr (UH UM (UH UM UO)) (WP (by decide) wZ)) (YE ⟨rfl,rfl⟩)) (λz=>by cases z)
 |_=>exact UZ (b:=w5) (K9 (KP (UK wZ) wZ)) (λ_=>KQ (Xr (UH UM (UH UM UO)) (WP (by decide) wZ)) (YE ⟨rfl,rfl⟩)) (λz=>by cases z)
theorem Eg{d:D}{n:Int}(hs:∀ls,d=.list ls->ls.length<=7->∀x∈ls,Vk x):RO [d,.int n]=O (T6 (Zx n d)):=by
 refine XN (Z:=[pb d,pb (.int n),w4,w4]) wZ ?_;unfold Nx;apply Ka;cases d with
 |list cs=>
  apply UZ
  case h1=>exact Zt (Z1:=[pb (.list cs),pb (.int n),w4,w4]) (KP (UK wZ) wZ) (ZA (WS UM (KT wZ KR) wZ (λ_=>UM) (λ_=>rfl)))
  case h2=>intro hh;rw[VO]at hh;have hh:=Qa hh;refine KQ (Xr (UH UM (UH UM UO)) (WP (by decide) wZ)) (YE ?_);unfold Zx;dsimp only;rw[Qw (by omega)];exact⟨rfl,rfl⟩
  case h3=>
   intro hh;rw[VO]at hh;have hh:=Q8 hh;have hl:1<=cs.length/\cs.length<=7:=by omega
   have hs:=hs cs wZ hl.2
   have ed:Zx n (.list cs)=(match fb (Zy n) 0 cs with
    |some k=>O ("lists", .int k)
    |none=>w4):=by unfold Zx;dsimp only;rw[if_pos hl]
   refine Ke (Kb ?_);rw[ed];refine Px (xs:=cs) (Zy n) (λZ=>∃x1 x2,Z=[pb (.list cs),pb (.int n),x1,x2]) (X9 (UH (UK wZ) UO) Wc) ⟨_,_,rfl⟩ ?_ ?_
   .rintro x hx j Z hj ⟨x1,x2,rfl⟩
    refine⟨_,Kz wZ (U1 (UT (Qa wZ) wZ) (U1 (UT (Qa wZ) wZ) KB)),?_⟩;unfold Fu;refine UZ (ZA (Z8 (U8 (UH (UK wZ) (UH (UK wZ) UO)) wZ (v7 (n:=n) (hs x hx))))) (λz=>?_) λz=>?_
    .refine KQ (Xr (UH UM (UH (UK wZ) UO)) (WP (by decide) (MQ (by omega)))) (NO (by simpa using z) λe=>?_)
     rw[e];exact⟨rfl,rfl⟩
    .exact Ke (RQ (by simpa using z) ⟨_,_,rfl⟩)
   .intro e Z _
    rw[e];rfl
 |dict kvs=>exact UZ (b:=w5) (K9 (YF (UK wZ))) (λ_=>KQ (Xr (UH UM (UH UM UO)) (WP (by decide) wZ)) (YE ⟨rfl,rfl⟩)) (λz=>by cases z)
 |_=>exact UZ (b:=w5) (K9 (KP (UK wZ) wZ)) (λ_=>KQ (Xr (UH UM (UH UM UO)) (WP (by decide) wZ)) (YE ⟨rfl,rfl⟩)) (λz=>by cases z)
def XA(d:D):Prop:=∀c ls,d=.tuple [c,.list ls]->ls.length<=7->∀x∈ls,Vk x
theorem VN(c l:D):Zf (.tuple [c,l])=(match Zb c with
  |some x=>O x
  |none=>(match c with | .list cs=>Zx cs.length l|_=>w4)):=by
 unfold Zf Zb Zx;cases c with
 |list cs=>
  dsimp only;by_cases h:1<=cs.length/\cs.length<=6
  .rw[Qm h,Qm h]
   cases fb (U9 8) 0 cs with
   |some k=>rfl
   |none=>cases l<;>rfl
  .rw[Qw h,Qw h]
 |_=>rfl
theorem MP{d:D}(hs:XA d):Wd [d]=O (T6 (Zf d)):=by
 refine XN (Z:=[pb d,w4,w4]) wZ ?_;unfold Nz;apply Ka;have odd:∀{o:Out->Prop},Ho (YW "NoWishes" (UF (UJ (.str "wishes")) (UF (UJ .none) (UG)))) [O (.pub d),w4,w4] (λz=>z=.ex [O (.pub d),w4,w4] (exD "NoWishes" [.str "wishes", .none])):=KQ (Xr (UH UM (UH UM UO)) (WP (by decide) wZ)) wZ;cases d with
 |tuple xs=>
  by_cases hl:xs.length=2
  .obtain⟨c,l,rfl⟩:∃c l,xs=[c,l]:=by
    match xs,hl with
    |[c,l],_=>exact⟨c,l,rfl⟩
   apply UZ
   case h1=>exact Zt (Z1:=[pb (.tuple [c,l]),w4,w4]) (KP (UK wZ) wZ) (UU (KT wZ wZ) UM Xk)
   case h2=>intro hh;cases hh
   case h3=>
    intro _;refine Ke (Kb ?_);refine U6 (XT (UK wZ) (Kz wZ (U1 (UT (Qa wZ) wZ) (U1 (UT (Qa wZ) wZ) KB)))) ?_;rw[VN];have hc:=Ca c;cases z:Zb c with
    |some x=>obtain⟨p,n⟩:=x;rw[z]at hc;apply Ka;exact KQ (VD (YG (UH (UK wZ) UO) wZ hc)) (YE ⟨rfl,rfl⟩)
    |none=>
     rw[z]at hc
     obtain⟨cs,rfl⟩:∃cs,c=.list cs:=by
      unfold Zb at z;cases c with
      |list cs=>exact⟨cs,rfl⟩
      |_=>cases z
     refine U6 (Sj (YG (UH (UK wZ) UO) wZ hc) wZ) ?_;have hL:=Eg (d:=l) (n:=cs.length) (λls e=>hs (.list cs) ls (by rw[e]));dsimp only;cases z2:Zx cs.length l with
     |some x=>obtain⟨p,n⟩:=x;rw[z2]at hL;exact KQ (VD (YG (UH (UK wZ) (UH (KT wZ KR) UO)) wZ hL)) ⟨rfl,rfl⟩
     |none=>rw[z2]at hL;exact KQ (Sj (YG (UH (UK wZ) (UH (KT wZ KR) UO)) wZ hL) wZ) wZ
  .have hd:Zf (.tuple xs)=O (("wishes" : Str),(.none:D)):=by
    unfold Zf;split
    .rename_i h;cases h;exact absurd wZ hl
    .rfl
   apply UZ
   case h1=>exact Zt (Z1:=[pb (.tuple xs),w4,w4]) (KP (UK wZ) wZ) (UU (KT wZ Py) UM Xk)
   case h2=>intro _;refine Sy (odd (o:=λ_=>True)) λo e=>?_;subst e;exact YE (by rw[hd];exact⟨rfl,rfl⟩)
   case h3=>
    intro hh;have:(xs.length:Int)=2:=by simpa using hh
    omega
 |dict kvs=>exact UZ (b:=w5) (K9 (YF (UK wZ))) (λ_=>Sy (odd (o:=λ_=>True)) λo e=>by subst e;exact YE ⟨rfl,rfl⟩) (λz=>by cases z)
 |_=>exact UZ (b:=w5) (K9 (KP (UK wZ) wZ)) (λ_=>Sy (odd (o:=λ_=>True)) λo e=>by subst e;exact YE ⟨rfl,rfl⟩) (λz=>by cases z)
mutual
noncomputable def wB(n:Nat):D->Bool
 |.list xs=>decide (xs.length<=n)&&wBs n xs
 |.tuple xs=>decide (xs.length<=n)&&wBs n xs
 |_=>w5
noncomputable def wBs(n:Nat):w8->Bool
 |[]=>w5
 |x::r=>wB n x&&wBs n r
end
theorem OJ{n:Nat}:∀{xs:w8},wBs n xs=w5 ↔ ∀x∈xs,wB n x=w5
 |[]=>by simp[wBs]
 |x::r=>by rw[wBs,Bool.and_eq_true,OJ (xs:=r)];simp
theorem XY{n:Nat}{xs:w8}:wB n (.list xs)=w5 ↔ xs.length<=n/\∀x∈xs,wB n x=w5:=by rw[wB,QL,Jm,OJ]
theorem Rt{n:Nat}{xs:w8}:wB n (.tuple xs)=w5 ↔ xs.length<=n/\∀x∈xs,wB n x=w5:=by rw[wB,QL,Jm,OJ]
mutual
theorem Sv{n m:Nat}(h:n<=m):∀(d:D),wB n d=w5->wB m d=w5
 |.list xs,e=>by rw[wB,QL,Jm]at e⊢;exact⟨QH e.1 h,wBs_mono h xs e.2⟩
 |.tuple xs,e=>by rw[wB,QL,Jm]at e⊢;exact⟨QH e.1 h,wBs_mono h xs e.2⟩
 |.none,_=>rfl
 |.bool _,_=>rfl
 |.int _,_=>rfl
 |.str _,_=>rfl
 |.dict _,_=>rfl
theorem wBs_mono{n m:Nat}(h:n<=m):∀(xs:w8),wBs n xs=w5->wBs m xs=w5
 |[],_=>rfl
 |x::r,e=>by rw[wBs,QL]at e⊢;exact⟨Sv h x e.1,wBs_mono h r e.2⟩
end
theorem MN{d:D}(h:wB 700 d=w5):XA d:=λc ls e _ x hx rs e2 xs hxs=>by subst e;have h1:=(Rt.mp h).2 (.list ls) (by simp);have h2:=(XY.mp h1).2 x hx;subst e2;exact(XY.mp ((XY.mp h2).2 _ hxs)).1
theorem Hb{cs:w9}{ls:L3}(g:Good cs ls):wB 7 (.list (cs.map int))=w5/\wB 7 (.list (ls.map Ks))=w5:=by
 constructor
 .refine XY.mpr ⟨by rw[Qb];have:=g.c6;omega,λx hx=>?_⟩
  obtain⟨i,_,rfl⟩:=Qz.mp hx;rfl
 .refine XY.mpr ⟨by rw[Qb];exact g.l7,λx hx=>?_⟩
  obtain⟨rs,hrs,rfl⟩:=Qz.mp hx;have gr:=g.rk rs hrs;refine XY.mpr ⟨by rw[Qb];have:=gr.few;omega,λy hy=>?_⟩;obtain⟨r,hr,rfl⟩:=Qz.mp hy;have h1:r.length<=rs.flatten.length:=List.Sublist.length_le (List.sublist_flatten_of_mem hr);have h2:=SB gr;have:=g.c6;refine XY.mpr ⟨by rw[Qb];omega,λz hz=>?_⟩;obtain⟨i,_,rfl⟩:=Qz.mp hz;rfl
theorem D9{j:Nat}{f:M w8}{Z Z1 Z':UI}{yK ds es:w8}(h0:Z[j]?=O (O (.own yK)))(h1:f Z=.ok es Z1)(h2:Z1[j]?=O (O (.own ds)))(h3:ds.length+es.length<=1000000)(h4:Z1.set j (O (.own (ds++es)))=Z'):Wf j f Z=.nx Z':=by unfold Wf;rw[LQ h0];dsimp only;unfold sB;rw[h1];dsimp only;rw[LQ h2];dsimp only;rw[Qm h3,h4]
theorem Lk:∀(a b:L3)(k:Nat),Kv k (a++b)=Kv k a++Kv (k+a.length) b
 |[],b,k=>rfl
 |rs::a,b,k=>by show _++Kv (k+1) (a++b)=_;rw[Lk a b (k+1)];show _=(_++Kv (k+1) a)++Kv (k+(a.length+1)) b;rw[Q0,show k+1+a.length=k+(a.length+1)by omega]
theorem A2{n:Nat}(ls:L3)(k:Nat)(h:∀rs∈ls,rs.flatten.length<=n):(Kv k ls).length<=ls.length*n:=by rw[(SN ls k).length_eq];exact OW n ls k h
section
variable{cs:w9}{ls:L3}{o:Ord}{old:yj}{ts:w9}
theorem v6(g:Good cs ls):Vq [U2 cs ls]=O (.list ((Kv 0 ls).map Ky)):=by
 have l7:=g.l7;have c6:=g.c6;refine KS (Z:=[pb (U2 cs ls),w4,w4]) wZ ?_;unfold TC;refine U6 (Zs (Yn UO (Qa wZ)) (Qa wZ) wZ) ?_;apply Ka;apply YB (λi Z=>∃x2,Z=[pb (U2 cs ls),O (.own ((Kv 0 (ls.take i)).map Ky)),x2])
 case h1=>exact Ta (UH (Ze (UH (Kh wZ UM XM) UO) KR) UO) (Ti (by rw[Qb];omega) (by omega))
 case h0=>exact⟨_,rfl⟩
 case hst=>
  rintro i d Z hi ⟨x2,rfl⟩;obtain⟨rfl,hlt⟩:=Tf hi;rw[Qb]at hlt;have hls:ls[i]?=O ls[i]:=Qg (by omega);have gr:=g.rk _ (Qv hls);have hfl:=SB gr;refine⟨_,UT (Qa wZ) wZ,?_⟩;unfold MA;rw[Int.zero_add];have hw:=L0 (cs:=cs) hls (by omega)
  have hc:KW (gN 3) (UJ w5) (Kx (UF (UE 2) (UF (UE 3) (UG)))) ((ZR ls[i].flatten).map int) (Kf [pb (U2 cs ls),O (.own ((Kv 0 (ls.take i)).map Ky)),pb (.int i)]++Uq 1 w4) []=O ((ZR ls[i].flatten).map λt=>Ky ((i:Int),t)):=by
   have hsl:(ZR ls[i].flatten).length<=6:=by rw[(WC _).length_eq];omega
   refine(Xq (λZ=>∃x,Z=[O (Sl.pub (U2 cs ls)),w4,O (Sl.pub (.int i)),x]) _ ((ZR ls[i].flatten).map λt=>Ky ((i:Int),t)) _ _ (by rw[Qb,Qb]) ?_ ⟨w4,rfl⟩ (by rw[Qb,QB];omega)).trans (by rw[QX]);rintro j d e hd he Z ⟨x,rfl⟩;rw[Qh]at hd he;cases z:(ZR ls[i].flatten)[j]? with
   |none=>rw[z]at hd;cases hd
   |some t=>rw[z]at hd he;cases hd;cases he;exact⟨_,UT (Qa wZ) wZ,rfl,ZK (UH (UK wZ) (UH (UK wZ) UO)) (Qa wZ),_,rfl⟩
  have ha:(Kv 0 (ls.take i)).length<=42:=by
   have:=A2 (n:=6) (ls.take i) 0 λrs hrs=>by have:=SB (g.rk rs (J4 hrs));omega
   rw[Jg]at this;have:min i ls.length<=7:=by omega
   omega
  refine KQ (D9 wZ (ZS (Zv (U8 (UH (UK wZ) (UH (UK wZ) UO)) wZ hw) YJ) hc) wZ ?_ wZ) (Yk ⟨O (.pub (.int i)),?_⟩)
  .rw[Qb,Qb,(WC _).length_eq];omega
  .have e:Kv 0 (ls.take (i+1))=Kv 0 (ls.take i)++(ZR ls[i].flatten).map λt=>((i:Int),t):=by
    rw[JC (by omega),Lk,Jg,Nat.min_eq_left (by omega),JB];show _++((ZR ls[i].flatten).map (λt=>((i:Int),t))++[])=_;rw[Q4]
   rw[e,QU,Q3];rfl
 case hend=>rintro Z ⟨x2,rfl⟩;rw[WD,Qb];refine Kb (UY (KU rfl rfl) ?_);rw[show((ls.length:Int)-0).toNat=ls.length by omega,J5]
end
section
variable{cs:w9}{ls:L3}{o:Ord}{old:yj}{ts:w9}
theorem D8(g:Good cs ls):(Kv 0 ls).length<=42:=by rw[(SN ls 0).length_eq];exact Pm g
end
theorem D7{f:M D}{Z Z1:UI}{b:Bool}(h:f Z=.ok (.bool b) Z1)(hb:b=w6):U5 (KO f) Z=.ok w5 Z1:=by subst hb;exact ZA (Z8 h)
mutual
noncomputable def hW:D->Bool
 |.none | .bool _=>w5
 |.int i=>decide (i.natAbs<10 ^ 70)
 |.str z=>Uu z&&decide (z.length<=20)
 |.list xs | .tuple xs=>hWs xs
 |.dict kvs=>hWk kvs
noncomputable def hWs:w8->Bool
 |[]=>w5
 |x::xs=>hW x&&hWs xs
noncomputable def hWk:List (D×D)->Bool
 |[]=>w5
 |(.str z,v)::r=>Uu z&&(decide (z.length<=20)&&(hW v&&hWk r))
 |(.int i,v)::r=>decide (i.natAbs<10 ^ 70)&&(hW v&&hWk r)
 |_::_=>w6
end
theorem Pk:∀{xs:w8},hWs xs=w5 ↔ ∀x∈xs,hW x=w5
 |[]=>by simp[hWs]
 |x::r=>by rw[hWs,Bool.and_eq_true,Pk (xs:=r)];simp
def Sh(k n:Nat)(d:D):Prop:=hW d=w5/\d.depth<=k/\d.bulk<=n
theorem Sh.mono{k m n p:Nat}{d:D}(h:Sh k n d)(h1:k<=m)(h2:n<=p):Sh m p d:=⟨h.1,QH h.2.1 h1,QH h.2.2 h2⟩
theorem O1{k:Nat}:∀{xs:w8},(∀x∈xs,x.depth<=k)->PyData.depthAll xs<=k
 |[],_=>by simp[PyData.depthAll]
 |x::r,h=>by have h1:=h x Qo;have h2:=O1 (xs:=r) λy hy=>h y (Qp _ hy);simp only[PyData.depthAll];omega
theorem OR{n:Nat}:∀{xs:w8},(∀x∈xs,x.bulk<=n)->PyData.bulkAll xs<=xs.length*(n+1)
 |[],_=>by simp[PyData.bulkAll]
 |x::r,h=>by have h1:=h x Qo;have h2:=OR (xs:=r) λy hy=>h y (Qp _ hy);simp only[PyData.bulkAll,QF,Nat.succ_mul];omega
theorem RB{k n m:Nat}{xs:w8}(h:∀x∈xs,Sh k n x)(hl:xs.length<=m):Sh (k+1) (m*(n+1)) (.list xs):=by
 refine⟨by simpa[hW]using Pk.mpr λx hx=>(h x hx).1,?_,?_⟩
 .have:=O1 λx hx=>(h x hx).2.1
  simp only[Uw];omega
 .have h1:=OR λx hx=>(h x hx).2.2
  have h2:xs.length*(n+1)<=m*(n+1):=Nat.mul_le_mul_right _ hl;simp only[PyData.bulk];omega
theorem V1{k n m:Nat}{xs:w8}(h:∀x∈xs,Sh k n x)(hl:xs.length<=m):Sh (k+1) (m*(n+1)) (.tuple xs):=by
 refine⟨by simpa[hW]using Pk.mpr λx hx=>(h x hx).1,?_,?_⟩
 .have:=O1 λx hx=>(h x hx).2.1
  simp only[Uw];omega
 .have h1:=OR λx hx=>(h x hx).2.2
  have h2:xs.length*(n+1)<=m*(n+1):=Nat.mul_le_mul_right _ hl;simp only[PyData.bulk];omega
theorem Ww{k n:Nat}{i:Int}(h:i.natAbs<10 ^ 70):Sh k n (.int i):=⟨by simpa only[hW]using QC h,by simp[Uw],by simp[PyData.bulk]⟩
theorem VI{k n:Nat}:Sh k n .none:=⟨rfl,by simp[Uw],by simp[PyData.bulk]⟩
theorem OI{k n:Nat}{b:Bool}:Sh k n (.bool b):=⟨rfl,by simp[Uw],by simp[PyData.bulk]⟩
theorem Rs{k n:Nat}{z:Str}(h:Uu z=w5)(h2:z.length<=20)(h3:z.length<=n):Sh k n (.str z):=⟨by simp[hW,h,h2],by simp[Uw],h3⟩
theorem O0{x:D}:∀{xs:w8},x∈xs->x.bulk+1<=PyData.bulkAll xs
 |y::r,h=>by
  simp only[PyData.bulkAll];rcases Qx.mp h with rfl|h
  .omega
  .have:=O0 (xs:=r) h
   omega
def ords:List Str:=["firsts", "full", "lasts"]
theorem MM:∀y∈ords,Uu y=w5:=by decide +kernel
def ZC:D->Bool
 |.str z=>ords.contains z
 |_=>w6
def OkT(d:D):Prop:=∀z,d=.str z->Uu z=w5
theorem v5{d:D}(h:OkT d):XI [d]=O (.bool (ZC d)):=by
 refine KS (Z:=[pb d]) wZ ?_;unfold Vc;cases d with
 |str z=>exact UY (YY (t:=w5) (u:=ords.contains z) (VQ (UK wZ) wZ) λ_=>Ko (K1 wZ UM (A4 (h z wZ) MM))) wZ
 |dict kvs=>exact UY (YY (t:=w6) (u:=w6) (On (UK wZ)) λz=>by cases z) wZ
 |_=>exact UY (YY (t:=w6) (u:=w6) (VQ (UK wZ) wZ) λz=>by cases z) wZ
theorem Ef{d:D}(h:OkT d):VS [d]=O (if ZC d=w5 then .val .none else .exc (exD "NoAim" [.str "order"])):=by
 refine XN (Z:=[pb d]) wZ ?_;unfold Ny;refine UZ (ZA (Z8 (U8 (UH (UK wZ) UO) wZ (v5 h)))) (λz=>?_) λz=>?_
 .have z:ZC d=w6:=by simpa using z
  rw[z];exact KQ (Xr (fs:=[.str "order"]) (UH UM UO) (by kernel_rfl)) ⟨rfl,rfl⟩
 .have z:ZC d=w5:=by simpa using z
  rw[z];exact Ke wZ
theorem OH{p:D->Bool}:∀{xs:w8}{k:Nat},(∀x∈xs,p x=w5)->fb p k xs=w4
 |[],_,_=>rfl
 |x::r,k,h=>by unfold fb;rw[Qm (h x Qo)];exact OH λy hy=>h y (Qp _ hy)
theorem D6(rs:List w9):flI (rs.map KM)=rs.flatten:=by
 unfold flI;induction rs with
 |nil=>rfl
 |cons r t ih=>
  rw[Qy,List.flatMap_cons,ih,QG]
  congr 1
  show(r.map int).filterMap whI=r
  rw[List.filterMap_map];show r.filterMap (λi=>O i)=r;simp
theorem jw{n:Nat}{rs:List w9}(g:VP n rs):Zy n (Ks rs)=w5:=by
 show Zy n (.list (rs.map KM))=w5;rw[WW,D6,QC g.once,Qb,QC g.few];simp only[JL,Bool.and_true,Q2];intro x hx;obtain⟨r,hr,rfl⟩:=Qz.mp hx;have hn:=g.some r hr;have ht:=g.there r hr;cases r with
 |nil=>exact absurd wZ hn
 |cons i q=>
  show((int i::q.map int).all (U9 n))=w5
  rw[Q2];intro y hy;have hy:y∈(i::q).map int:=hy;obtain⟨z,hz,rfl⟩:=Qz.mp hy;have:=ht z hz
  show(decide (0<=z)&&decide (z<(n:Int)))=w5
  rw[QC this.1,QC this.2];rfl
theorem Ha{cs:w9}{ls:L3}(g:Good cs ls):Zf (U2 cs ls)=w4:=by
 show Zf (.tuple [.list (cs.map int),.list (ls.map Ks)])=w4;rw[VN];have c1:=g.c1;have c6:=g.c6;have l1:=g.l1;have l7:=g.l7
 have e1:Zb (.list (cs.map int))=w4:=by
  unfold Zb;dsimp only;rw[Qm (by rw[Qb];omega),OH];intro x hx;obtain⟨i,hi,rfl⟩:=Qz.mp hx;have:=g.c7 i hi
  show(decide (0<=i)&&decide (i<8))=w5
  rw[QC this.1,QC this.2];rfl
 rw[e1];dsimp only;unfold Zx;dsimp only;rw[Qm (by rw[Qb];omega),OH];intro x hx;obtain⟨rs,hrs,rfl⟩:=Qz.mp hx;rw[Qb];exact jw (g.rk rs hrs)
theorem FD{cs:w9}{ls:L3}(g:Good cs ls):Wd [U2 cs ls]=O (.val .none):=by
 have wg:wB 448 (U2 cs ls)=w5:=by
  obtain⟨a1,a2⟩:=Hb g
  exact Sv (n:=7) (by decide) _ (Rt.mpr ⟨show 2<=7 by decide,λx hx=>by
   have hx:x=.list (cs.map int)∨x=.list (ls.map Ks):=by simpa using hx
   rcases hx with rfl|rfl
   .exact a1
   .exact a2⟩)
 have hx:=MP (MN (Sv (m:=700) (by decide) _ wg));rw[Ha g]at hx;exact hx
noncomputable def Yc(m n:Nat):D->Bool
 |.none=>w5
 |.list xs=>decide (xs.length=m)&&xs.all λx=>isNon x || U9 n x
 |_=>w6
noncomputable def ZO(m:Nat):D->Bool
 |.list xs=>xs.all (U9 m)&&decide (xs.filterMap whI).Nodup
 |_=>w6
noncomputable def ZL(n m:Nat):D->Option Str
 |.tuple [o,w,t]=>if ZC o=w5 then(if Yc m n w=w5 then(if ZO m t=w5 then w4 else O "turns")else O "old")else O "order"
 |_=>O "aim"
def SmA(d:D):Prop:=∀o w t,d=.tuple [o,w,t]->OkT o/\(∀xs,w=.list xs->xs.length<=700)/\∀xs,t=.list xs->xs.length<=700
theorem D5{d:D}{m n:Nat}(hl:∀xs,d=.list xs->xs.length<=700):Xd [d,.int m,.int n]=O (.bool (Yc m n d)):=by
 refine KS (Z:=[pb d,pb (.int m),pb (.int n)]) wZ ?_;unfold Vb;apply Ka;cases d with
 |none=>exact UZ (b:=w5) (Ko (k:=isNon) (x:=PyData.none) (UK wZ)) (λ_=>UY UM (Kj wZ)) λz=>by cases z
 |list xs=>
  have hl:=hl xs wZ;refine UZ (b:=w6) (Z1:=[pb (.list xs),pb (.int m),pb (.int n)]) (Ko (k:=isNon) (x:=Ur xs) (UK wZ)) (λz=>by cases z) λ_=>Ke (Kb ?_)
  apply Ka;refine UZ (b:=!decide ((xs.length:Int)=(m:Int))) (Z1:=[pb (.list xs),pb (.int m),pb (.int n)]) (Zt (KP (UK wZ) wZ) (UU (KT wZ KR) (UK wZ) Xk)) (λhh=>?_) (λhh=>?_)
  .have h3:¬(xs.length:Int)=(m:Int):=by simpa using hh
   refine UY UM (Kj ?_);show _=Out.rt (.bool (decide (xs.length=m)&&_));rw[Qr (by omega)];rfl
  .have h3:(xs.length:Int)=(m:Int):=by simpa using hh
   refine Ke (Kb ?_)
   have hc:KW (gN 3) (UJ w5) (Y8 (US (λd=>.bool (isNon d)) (UE 3)) (UP 2 K6 (UF (UE 3) (UF (UE 2) (UG))))) xs (Kf [pb (.list xs),pb (.int m),pb (.int n)]++Uq 1 w4) []=O (xs.map λd=>.bool (isNon d || U9 n d)):=by
    rw[X1 (λ_=>w5) (λd=>.bool (isNon d || U9 n d)) (λZ=>∃x,Z=[pb (.list xs),pb (.int m),pb (.int n),x])]
    .rw[Jj.mpr (λ_ _=>rfl),QX]
    .rintro d hm Z ⟨x,rfl⟩
     exact⟨_,UT (Qa wZ) wZ,rfl,λ_=>Pi (Ko (k:=λd=>Us (isNon d)) (UK wZ)) (λ_=>U8 (UH (UK wZ) (UH (UK wZ) UO)) wZ (PR d n)),_,rfl⟩
    .exact⟨w4,rfl⟩
    .rw[QB];omega
   refine UY (Ze (UH (Ko (ZS (Zv (UK wZ) YJ) hc)) UO) (PQ xs)) ?_;show _=Out.rt (.bool (decide (xs.length=m)&&_));rw[QC (by omega)];rfl
 |dict kvs=>
  refine UZ (b:=w6) (Z1:=[pb (.dict kvs),pb (.int m),pb (.int n)]) (Ko (k:=isNon) (x:=PyData.dict kvs) (UK wZ)) (λz=>by cases z) λ_=>Ke (Kb ?_)
  apply Ka;exact UZ (b:=w5) (K9 (YF (UK wZ))) (λ_=>UY UM (Kj wZ)) λz=>by cases z
 |bool b=>
  refine UZ (b:=w6) (Z1:=[pb (.bool b),pb (.int m),pb (.int n)]) (Ko (k:=isNon) (x:=Us b) (UK wZ)) (λz=>by cases z) λ_=>Ke (Kb ?_)
  apply Ka;exact UZ (b:=w5) (K9 (KP (UK wZ) wZ)) (λ_=>UY UM (Kj wZ)) λz=>by cases z
 |int b=>
  refine UZ (b:=w6) (Z1:=[pb (.int b),pb (.int m),pb (.int n)]) (Ko (k:=isNon) (x:=int b) (UK wZ)) (λz=>by cases z) λ_=>Ke (Kb ?_)
  apply Ka;exact UZ (b:=w5) (K9 (KP (UK wZ) wZ)) (λ_=>UY UM (Kj wZ)) λz=>by cases z
 |str b=>
  refine UZ (b:=w6) (Z1:=[pb (.str b),pb (.int m),pb (.int n)]) (Ko (k:=isNon) (x:=Ut b) (UK wZ)) (λz=>by cases z) λ_=>Ke (Kb ?_)
  apply Ka;exact UZ (b:=w5) (K9 (KP (UK wZ) wZ)) (λ_=>UY UM (Kj wZ)) λz=>by cases z
 |tuple b=>
  refine UZ (b:=w6) (Z1:=[pb (.tuple b),pb (.int m),pb (.int n)]) (Ko (k:=isNon) (x:=PyData.tuple b) (UK wZ)) (λz=>by cases z) λ_=>Ke (Kb ?_)
  apply Ka;exact UZ (b:=w5) (K9 (KP (UK wZ) wZ)) (λ_=>UY UM (Kj wZ)) λz=>by cases z
theorem jv{d:D}{m:Nat}(hl:∀xs,d=.list xs->xs.length<=700):Xc [d,.int m]=O (.bool (ZO m d)):=by
 refine KS (Z:=[pb d,pb (.int m)]) wZ ?_;unfold Va;apply Ka;cases d with
 |list xs=>
  have hl:=hl xs wZ
  have hc:KW (gN 2) (UJ w5) (UP 2 K6 (UF (UE 2) (UF (UE 1) (UG)))) xs (Kf [pb (.list xs),pb (.int m)]++Uq 1 w4) []=O (xs.map λd=>.bool (U9 m d)):=by
   rw[X1 (λ_=>w5) (λd=>.bool (U9 m d)) (λZ=>∃x,Z=[pb (.list xs),pb (.int m),x])]
   .rw[Jj.mpr (λ_ _=>rfl),QX]
   .rintro d hm Z ⟨x,rfl⟩
    exact⟨_,UT (Qa wZ) wZ,rfl,λ_=>U8 (UH (UK wZ) (UH (UK wZ) UO)) wZ (PR d m),_,rfl⟩
   .exact⟨w4,rfl⟩
   .rw[QB];omega
  refine UZ (b:=!xs.all (U9 m)) (Z1:=[pb (.list xs),pb (.int m)]) (Zt (KP (UK wZ) wZ) (ZA (Z8 (Ze (UH (Ko (ZS (Zv (UK wZ) YJ) hc)) UO) (PQ xs))))) (λhh=>?_) (λhh=>?_)
  .have h3:xs.all (U9 m)=w6:=by simpa using hh
   refine UY UM (Kj ?_);show _=Out.rt (.bool (xs.all (U9 m)&&_));rw[h3];rfl
  .have h3:xs.all (U9 m)=w5:=by simpa using hh
   refine Ke (Kb ?_);have e:=Pv h3;obtain⟨u,hu,hd⟩:=Hc (ns:=xs.filterMap whI) (by have:=Uc List.length e;rw[Qb]at this;omega);rw[←e]at hu;refine UY (Ko (UU (Ze (UH (UK wZ) UO) hu) (KT wZ KR) ZN)) ?_;show Out.rt (.bool (decide ((u:Int)=(xs.length:Int))))=Out.rt (.bool (xs.all (U9 m)&&decide (xs.filterMap whI).Nodup));have el:xs.length=(xs.filterMap whI).length:=by have:=Uc List.length e;rw[Qb]at this;exact this
   rw[h3,JL,←hd,el]
 |dict kvs=>exact UZ (b:=w5) (K9 (YF (UK wZ))) (λ_=>UY UM (Kj wZ)) λz=>by cases z
 |_=>exact UZ (b:=w5) (K9 (KP (UK wZ) wZ)) (λ_=>UY UM (Kj wZ)) λz=>by cases z
noncomputable def NC:Option Str->XR
 |none=>.val .none
 |some p=>.exc (exD "NoAim" [.str p])
theorem A1{cs:w9}{ls:L3}(g:Good cs ls){d:D}(hs:SmA d):ZX [U2 cs ls,d]=O (NC (ZL cs.length ls.length d)):=by
 refine XN (Z:=[pb (U2 cs ls),pb d,w4,w4,w4,w4,w4]) wZ ?_;unfold NB;refine U6 (Sj (YG (UH (UK wZ) UO) wZ (FD g)) wZ) ?_;apply Ka
 have bad:ZL cs.length ls.length d=O ("aim" : Str)->Ho (YW "NoAim" (UF (UJ (.str "aim")) (UG))) [O (.pub (U2 cs ls)),O (.pub d),w4,w4,w4,w4,w4] (VG (UL (K3 (UE 0) (gT 2 (gNC (gN 2) (gNC (gN 3) (gN0)))))
   (UL (K3 (UE 1) (gT 3 (gNC (gN 4) (gNC (gN 5) (gNC (gN 6) (gN0))))))
   (UL (sX (Zd 1 VS (UF (UE 4) (UG))) λ_ Z=>.nx Z)
   (UL (sIf (U5 (KO (UP 3 Xd (UF (UE 5) (UF (KH 3) (UF (KH 2) (UG)))))))
   (YW "NoAim" (UF (UJ (.str "old")) (UG)))
   (sNx))
   (sIf (U5 (KO (UP 2 Xc (UF (UE 6) (UF (KH 3) (UG))))))
   (YW "NoAim" (UF (UJ (.str "turns")) (UG)))
   (sNx)))))) (XB (NC (ZL cs.length ls.length d)))):=λe=>by
  rw[e];exact KQ (Xr (fs:=[.str "aim"]) (UH UM UO) (by kernel_rfl)) (YE ⟨rfl,rfl⟩)
 cases d with
 |tuple xs=>
  refine UZ (b:=!decide (xs.length=3)) (Z1:=[pb (U2 cs ls),pb (.tuple xs),w4,w4,w4,w4,w4]) ?_ (λhh=>?_) (λhh=>?_)
  .refine(Zt (KP (UK wZ) wZ) (UU (KT wZ Py) UM Xk)).trans ?_
   rw[show decide ((xs.length:Int)=3)=decide (xs.length=3)from decide_eq_decide.mpr (by omega)]
  .have h3:¬xs.length=3:=by simpa using hh
   refine bad ?_;unfold ZL;split
   .rename_i heq;cases heq;exact absurd wZ h3
   .rfl
  .have h3:xs.length=3:=by simpa using hh
   obtain⟨o,w,t,rfl⟩:∃a b c,xs=[a,b,c]:=by
    match xs,h3 with
    |[a,b,c],_=>exact⟨a,b,c,rfl⟩
   obtain⟨ho,hw,ht⟩:=hs o w t wZ;refine Ke (Kb ?_);refine U6 (XT (UK wZ) (Kz wZ (U1 (UT (Qa wZ) wZ) (U1 (UT (Qa wZ) wZ) KB)))) ?_;refine U6 (Z1:=[pb (U2 cs ls),pb (.tuple [o,w,t]),pb (.list (cs.map int)),pb (.list (ls.map Ks)),pb o,pb w,pb t]) (XT (UK wZ) (Kz wZ (U1 (UT (Qa wZ) wZ) (U1 (UT (Qa wZ) wZ) (U1 (UT (Qa wZ) wZ) KB))))) ?_;have hox:=Ef ho;apply Ka;cases zo:ZC o with
   |false=>
    rw[zo]at hox;have e:ZL cs.length ls.length (.tuple [o,w,t])=O ("order" : Str):=by show(if ZC o=w5 then _ else _)=_;rw[zo];rfl
    rw[e];exact KQ (VD (YG (UH (UK wZ) UO) wZ hox)) (YE ⟨rfl,rfl⟩)
   |true=>
    rw[zo]at hox;refine KQ (Sj (YG (UH (UK wZ) UO) wZ hox) wZ) (Kb ?_);apply Ka;refine UZ (b:=!Yc ls.length cs.length w) (Z1:=[pb (U2 cs ls),pb (.tuple [o,w,t]),pb (.list (cs.map int)),pb (.list (ls.map Ks)),pb o,pb w,pb t]) (ZA (Z8 (U8 (UH (UK wZ) (UH (KT wZ (by rw[KR,Qb])) (UH (KT wZ (by rw[KR,Qb])) UO))) wZ (D5 hw)))) (λhh=>?_) (λhh=>?_)
    .have zw:Yc ls.length cs.length w=w6:=by simpa using hh
     have e:ZL cs.length ls.length (.tuple [o,w,t])=O ("old" : Str):=by show(if ZC o=w5 then(if Yc ls.length cs.length w=w5 then _ else _)else _)=_;rw[zo,zw];rfl
     rw[e];exact KQ (Xr (fs:=[.str "old"]) (UH UM UO) (by kernel_rfl)) (YE ⟨rfl,rfl⟩)
    .have zw:Yc ls.length cs.length w=w5:=by simpa using hh
     refine Ke (Kb ?_);have e:ZL cs.length ls.length (.tuple [o,w,t])=if ZO ls.length t=w5 then w4 else O ("turns" : Str):=by show(if ZC o=w5 then(if Yc ls.length cs.length w=w5 then _ else _)else _)=_;rw[zo,zw];rfl
     rw[e];refine UZ (b:=!ZO ls.length t) (Z1:=[pb (U2 cs ls),pb (.tuple [o,w,t]),pb (.list (cs.map int)),pb (.list (ls.map Ks)),pb o,pb w,pb t]) (ZA (Z8 (U8 (UH (UK wZ) (UH (KT wZ (by rw[KR,Qb])) UO)) wZ (jv ht)))) (λhh=>?_) (λhh=>?_)
     .have zt:ZO ls.length t=w6:=by simpa using hh
      rw[zt];exact KQ (Xr (fs:=[.str "turns"]) (UH UM UO) (by kernel_rfl)) ⟨rfl,rfl⟩
     .have zt:ZO ls.length t=w5:=by simpa using hh
      rw[zt];exact Ke wZ
 |dict kvs=>exact UZ (b:=w5) (K9 (YF (UK wZ))) (λ_=>bad wZ) λz=>by cases z
 |_=>exact UZ (b:=w5) (K9 (KP (UK wZ) wZ)) (λ_=>bad wZ) λz=>by cases z
theorem SH(d:D)(n:Int):ZG [d,.int n]=O (.bool (U9 n d)):=by
 refine KS (Z:=[pb d,pb (.int n)]) wZ ?_;unfold Tw;cases d with
 |int i=>exact UY (YY (t:=w5) (u:=decide (0<=i)&&decide (i<n)) (VQ (UK wZ) wZ) λ_=>YY (t:=w5) (u:=decide (0<=i)&&decide (i<n)) (OF (t:=w6) (VQ (UK wZ) wZ)) λ_=>YY (Ko (UU UM (UK wZ) wZ)) λ_=>Ko (K1 wZ (UK wZ) wZ)) wZ
 |bool b=>exact UY (YY (t:=w5) (u:=w6) (VQ (UK wZ) wZ) λ_=>YY (t:=w6) (u:=w6) (OF (t:=w5) (VQ (UK wZ) wZ)) λz=>by cases z) wZ
 |dict kvs=>exact UY (YY (t:=w6) (u:=w6) (On (UK wZ)) λz=>by cases z) wZ
 |_=>exact UY (YY (t:=w6) (u:=w6) (VQ (UK wZ) wZ) λz=>by cases z) wZ
noncomputable def WE:Option Str->D
 |none=>.none
 |some p=>.str p
theorem A0{z:Str}(h:Uu z=w5):YQ (.str z) (.list [.str "firsts", .str "full", .str "lasts"])=O (!ords.contains z):=by unfold YQ;rw[show(Ur [.str "firsts", .str "full", .str "lasts"])=.list (ords.map Ut)from rfl,A3 h MM];rfl
theorem D4{xs:w8}{k:Nat}(h:k<=xs.length):DL.cutD xs w4 (O (k:Int))=xs.take k:=by unfold DL.cutD;rw[HT.La,HT.LG,List.drop_zero,Nat.sub_zero,Nat.min_eq_left h]
section
variable{cs:w9}{ls:L3}
theorem HQ{o w t:D}{x2 x3:Option Sl}(l7:ls.length<=7)(ht:∀xs,t=.list xs->xs.length<=700):Ho (UL (sIf (U5 (KO (US (λd=>.bool (Kd d "list")) (UQ 1 (UJ (.int 2))))))
   (UR (UJ (.str "turns")))
   (sNx))
   (UL (Km (Yy (UF (UQ 1 (UJ (.int 2))) (UG))) (gT 2 (gNC (gN 3) (gNC (gN 2) (gN0)))) OA)
   (UR (UJ .none)))) [O (.pub (U2 cs ls)),O (.pub (.tuple [o,w,t])),x2,x3] (λo'=>o'=.rt (WE (if ZO ls.length t=w5 then w4 else O ("turns" : Str)))):=by
 have i2:oIx (.tuple [o,w,t]) (.int 2)=O t:=Zm (j:=2) wZ;have hm:U7 [.list (ls.map Ks)]=O (.int ls.length):=by rw[KR,Qb]
 apply Ka;cases t with
 |list xs=>
  have hl:=ht xs wZ;refine UZ (b:=w6) (Z1:=[pb (U2 cs ls),pb (.tuple [o,w,.list xs]),x2,x3]) (KP (Kh wZ UM i2) wZ) (λz=>by cases z) λ_=>Ke (Kb ?_)
  apply Ka;apply YB (λj Z=>(∃y2 y3,Z=[pb (U2 cs ls),pb (.tuple [o,w,.list xs]),y2,y3])/\(xs.take j).all (U9 ls.length)=w5/\((xs.take j).filterMap whI).Nodup)
  case h1=>exact X9 (UH (Kh wZ UM i2) UO) Wc
  case h0=>exact⟨⟨_,_,rfl⟩,rfl,List.nodup_nil⟩
  case hst=>
   rintro j d Z hj ⟨⟨y2,y3,rfl⟩,ha,hn⟩;obtain⟨x,hx,rfl⟩:=Wz hj;rw[JB];have yS:j<xs.length:=(Ql.mp hx).1;have hxj:xs[j]=x:=(Ql.mp hx).2;have hts:xs.take (j+1)=xs.take j++[x]:=by rw[JC yS,hxj]
   refine⟨_,Kz wZ (U1 (UT (Qa wZ) wZ) (U1 (UT (Qa wZ) wZ) KB)),?_⟩;unfold OA;have yH:ZO ls.length (.list xs)=(xs.all (U9 ls.length)&&decide (xs.filterMap whI).Nodup):=rfl;cases hb:U9 ls.length x with
   |false=>
    have e:ZO ls.length (.list xs)=w6:=by rw[yH,show xs.all (U9 ls.length)=w6 from Bool.eq_false_iff.mpr λh=>by have:=Q2.mp h x (Qv hx);rw[hb]at this;cases this];rfl
    refine UZ (b:=w5) (Z1:=[pb (U2 cs ls),pb (.tuple [o,w,.list xs]),pb x,pb (.int j)]) (K9 (D7 (U8 (UH (UK wZ) (UH (Ze (UH (Kh wZ UM XM) UO) hm) UO)) wZ (SH x _)) hb)) (λ_=>UY UM (V8 (Kj ?_))) λz=>by cases z
    rw[e];rfl
   |true=>
    obtain⟨i,rfl,_⟩:=OS hb;have ei:=Pv ha;have hin:oIn (.int i) (.list (xs.take j))=O (((xs.take j).filterMap whI).contains i):=by rw[ei];have:=Pl (t:=i) (r:=(xs.take j).filterMap whI);rw[←ei]at this⊢;exact this
    have hsl:Zg (UQ 1 (UJ (.int 2))) (UJ w4) (UW (UE 3) λx=>UX (ZU x)) [pb (U2 cs ls),pb (.tuple [o,w,.list xs]),pb (.int i),pb (.int j)]=.ok (.list (xs.take j)) [pb (U2 cs ls),pb (.tuple [o,w,.list xs]),pb (.int i),pb (.int j)]:=X5 (Kh wZ UM i2) UM (YK (UK wZ)) (by rw[Wb,D4 (by omega)]);refine UZ (b:=((xs.take j).filterMap whI).contains i) (Z1:=[pb (U2 cs ls),pb (.tuple [o,w,.list xs]),pb (.int i),pb (.int j)]) (Zt (ZA (t:=w5) (Z8 (U8 (UH (UK wZ) (UH (Ze (UH (Kh wZ UM XM) UO) hm) UO)) wZ ((SH (.int i) _).trans (by rw[hb]))))) (K1 wZ hsl hin)) (λhh=>?_) (λhh=>?_)
    .have hmem:i∈(xs.take j).filterMap whI:=by simpa using hh
     have e:ZO ls.length (.list xs)=w6:=by rw[yH,Qr,Jp];intro hnd;have hsub:((xs.take (j+1)).filterMap whI).Nodup:=List.Nodup.sublist (List.Sublist.filterMap _ (List.take_sublist _ _)) hnd;rw[hts,List.filterMap_append]at hsub;exact(List.nodup_append.mp hsub).2.2 i hmem i (by simp[whI]) wZ
     refine UY UM (V8 (Kj ?_));rw[e];rfl
    .have hmem:¬i∈(xs.take j).filterMap whI:=by simpa using hh
     refine Ke (Yk ⟨⟨_,_,rfl⟩,?_,?_⟩)
     .rw[hts,List.all_append,ha]
      simp[hb]
     .rw[hts,List.filterMap_append,JZ]
      refine⟨hn,by simp[whI],λa ha' b hb' e=>?_⟩;have:b=i:=by simpa[whI]using hb'
      rw[e,this]at ha';exact hmem ha'
  case hend=>
   rintro Z ⟨⟨y2,y3,rfl⟩,ha,hn⟩;rw[X2,J5]at ha hn;refine Kb (UY UM ?_);have e:ZO ls.length (.list xs)=w5:=by show(xs.all (U9 ls.length)&&decide (xs.filterMap whI).Nodup)=w5;rw[ha,QC hn];rfl
   rw[e];rfl
 |dict kvs=>exact UZ (b:=w5) (YF (Kh wZ UM i2)) (λ_=>UY UM (Kj wZ)) λz=>by cases z
 |_=>exact UZ (b:=w5) (KP (Kh wZ UM i2) wZ) (λ_=>UY UM (Kj wZ)) λz=>by cases z
theorem v4(l7:ls.length<=7){d:D}(hs:SmA d):Vo [U2 cs ls,d]=O (WE (ZL cs.length ls.length d)):=by
 refine KS (Z:=[pb (U2 cs ls),pb d,w4,w4]) wZ ?_;unfold Tv;have hn:U7 [.list (cs.map int)]=O (.int cs.length):=by rw[KR,Qb]
 have hm:U7 [.list (ls.map Ks)]=O (.int ls.length):=by rw[KR,Qb]
 apply Ka;cases d with
 |tuple xs=>
  refine UZ (b:=!decide (xs.length=3)) (Z1:=[pb (U2 cs ls),pb (.tuple xs),w4,w4]) ?_ (λhh=>?_) (λhh=>?_)
  .refine(Zt (KP (UK wZ) wZ) (UU (KT wZ Py) UM Xk)).trans ?_
   rw[show decide ((xs.length:Int)=3)=decide (xs.length=3)from decide_eq_decide.mpr (by omega)]
  .have h3:¬xs.length=3:=by simpa using hh
   refine UY UM (Kj ?_)
   have e:ZL cs.length ls.length (.tuple xs)=O ("aim" : Str):=by
    unfold ZL;split
    .rename_i heq;cases heq;exact absurd wZ h3
    .rfl
   rw[e];rfl
  .have h3:xs.length=3:=by simpa using hh
   obtain⟨o,w,t,rfl⟩:∃a b c,xs=[a,b,c]:=by
    match xs,h3 with
    |[a,b,c],_=>exact⟨a,b,c,rfl⟩
   obtain⟨ho,hw,ht⟩:=hs o w t wZ;have i0:oIx (.tuple [o,w,t]) (.int 0)=O o:=Zm (j:=0) wZ;have i1:oIx (.tuple [o,w,t]) (.int 1)=O w:=Zm (j:=1) wZ;have hap:ZL cs.length ls.length (.tuple [o,w,t])=if ZC o=w5 then(if Yc ls.length cs.length w=w5 then(if ZO ls.length t=w5 then w4 else O ("turns" : Str))else O ("old" : Str))else O ("order" : Str):=rfl
   refine Ke (Kb ?_)
   let R:UI:=[pb (U2 cs ls),pb (.tuple [o,w,t]),w4,w4]
   have hot:mOr (U5 (KO (US (λd=>.bool (Kd d "str")) (UQ 1 (UJ (.int 0)))))) (UN YQ (UQ 1 (UJ (.int 0))) (UV (UF (UJ (.str "firsts")) (UF (UJ (.str "full")) (UF (UJ (.str "lasts")) (UG)))))) R=.ok (!ZC o) R:=by
    cases o with
    |str z=>exact Zt (KP (Kh wZ UM i0) wZ) (UU (Kh wZ UM i0) (Kq (UH UM (UH UM (UH UM UO))) (Qa wZ)) (A0 (ho z wZ)))
    |dict kvs=>exact K9 (YF (Kh wZ UM i0))
    |_=>exact K9 (KP (Kh wZ UM i0) wZ)
   apply Ka;refine UZ (Z1:=R) hot (λhh=>?_) (λhh=>?_)
   .have zo:ZC o=w6:=by simpa using hh
    refine UY UM (Kj ?_);rw[hap,zo];rfl
   .have zo:ZC o=w5:=by simpa using hh
    refine Ke (Kb ?_);rw[hap,zo,Qm wZ];apply Ka;cases hnw:isNon w with
    |true=>
     cases w with
     |none=>
      refine UZ (b:=w6) (Z1:=R) (Ko (k:=λd=>!isNon d) (x:=PyData.none) (Kh wZ UM i1)) (λz=>by cases z) λ_=>Ke (Kb ?_)
      rw[show Yc ls.length cs.length .none=w5 from rfl,Qm wZ];exact HQ l7 ht
     |_=>cases hnw
    |false=>
     refine UZ (b:=w5) (Z1:=R) ((Ko (k:=λd=>!isNon d) (x:=w) (Kh wZ UM i1)).trans (by rw[hnw];rfl)) (λ_=>?_) λz=>by cases z
     apply Ka;cases w with
     |none=>cases hnw
     |list ys=>
      have hl:=hw ys wZ;have yH:Yc ls.length cs.length (.list ys)=(decide (ys.length=ls.length)&&ys.all λx=>isNon x || U9 cs.length x):=rfl;refine UZ (b:=!decide ((ys.length:Int)=(ls.length:Int))) (Z1:=R) (Zt (KP (Kh wZ UM i1) wZ) (UU (Ze (UH (Kh wZ UM i1) UO) KR) (Ze (UH (Kh wZ UM XM) UO) hm) Xk)) (λhh=>?_) (λhh=>?_)
      .have h3:¬(ys.length:Int)=(ls.length:Int):=by simpa using hh
       refine UY UM (Kj (Kj ?_));rw[yH,Qr (by omega)];rfl
      .have h3:(ys.length:Int)=(ls.length:Int):=by simpa using hh
       refine Ke (Kb ?_);apply YB (λj Z=>(∃y2,Z=[pb (U2 cs ls),pb (.tuple [o,.list ys,t]),y2,w4])/\∀x∈ys.take j,(isNon x || U9 cs.length x)=w5)
       case h1=>exact Zv (Kh wZ UM i1) YJ
       case h0=>exact⟨⟨_,rfl⟩,λx h=>by simp at h⟩
       case hst=>
        rintro j d Z hj ⟨⟨y2,rfl⟩,hb⟩;have yS:j<ys.length:=(Ql.mp hj).1;have hxj:ys[j]=d:=(Ql.mp hj).2;refine⟨_,UT (Qa wZ) wZ,?_⟩;unfold MB;have htest:Za (US (λd=>!isNon d) (UE 2)) (U5 (KO (UP 2 ZG (UF (UE 2) (UF (K5 U7 (UF (UQ 0 (UJ (.int 0))) (UG))) (UG)))))) [pb (U2 cs ls),pb (.tuple [o,.list ys,t]),pb d,w4]=.ok (!(isNon d || U9 cs.length d)) [pb (U2 cs ls),pb (.tuple [o,.list ys,t]),pb d,w4]:=by rw[Bool.not_or];exact Om (Ko (k:=λd=>!isNon d) (UK wZ)) (λ_=>ZA (Z8 (U8 (UH (UK wZ) (UH (Ze (UH (Kh wZ UM RP) UO) hn) UO)) wZ (SH d _))))
        refine UZ (Z1:=[pb (U2 cs ls),pb (.tuple [o,.list ys,t]),pb d,w4]) htest (λhh=>?_) (λhh=>?_)
        .have zb:(isNon d || U9 cs.length d)=w6:=by simpa using hh
         refine UY UM (V8 (Kj ?_));rw[yH,show(ys.all λx=>isNon x || U9 cs.length x)=w6 from Bool.eq_false_iff.mpr λh=>(by have:=Q2.mp h d (Qv hj);rw[zb]at this;cases this),Jp];rfl
        .have zb:(isNon d || U9 cs.length d)=w5:=by
          cases z:(isNon d || U9 cs.length d)with
          |true=>rfl
          |false=>rw[z]at hh;cases hh
         refine Ke (Yk ⟨⟨_,rfl⟩,λx hx=>?_⟩);rw[JC yS,hxj]at hx;rcases QS.mp hx with h|h
         .exact hb x h
         .rw[QO.mp h];exact zb
       case hend=>rintro Z ⟨⟨y2,rfl⟩,hb⟩;rw[J5]at hb;refine Kb ?_;rw[yH,QC (by omega),Q2.mpr hb,JL,Qm rfl];exact HQ l7 ht
     |dict kvs=>exact UZ (b:=w5) (K9 (YF (Kh wZ UM i1))) (λ_=>UY UM (Kj (Kj wZ))) λz=>by cases z
     |_=>exact UZ (b:=w5) (K9 (KP (Kh wZ UM i1) wZ)) (λ_=>UY UM (Kj (Kj wZ))) λz=>by cases z
 |dict kvs=>exact UZ (b:=w5) (K9 (YF (UK wZ))) (λ_=>UY UM (Kj wZ)) λz=>by cases z
 |_=>exact UZ (b:=w5) (K9 (KP (UK wZ) wZ)) (λ_=>UY UM (Kj wZ)) λz=>by cases z
end
theorem Ee{k n:Nat}{d:D}(h:Sh k n d)(hn:n<=700):SmA d:=by
 rintro o w t rfl;obtain⟨h1,h2,h3⟩:=h
 have lenb:∀ys:w8,ys.length<=PyData.bulkAll ys:=λys=>by
  induction ys with
  |nil=>exact J0 _
  |cons y r ih=>simp only[PyData.bulkAll,QF];omega
 simp only[PyData.bulk]at h3;refine⟨λz e=>?_,λxs e=>?_,λxs e=>?_⟩
 .subst e
  have:=Pk.mp (by simpa[hW]using h1:hWs [.str z,w,t]=w5) (.str z) (by simp);have:Uu z=w5/\z.length<=20:=by simpa[hW]using this
  exact this.1
 .subst e
  have:=O0 (x:=.list xs) (xs:=[o,.list xs,t]) (by simp);simp only[PyData.bulk]at this;have:=lenb xs;omega
 .subst e
  have:=O0 (x:=.list xs) (xs:=[o,w,.list xs]) (by simp);simp only[PyData.bulk]at this;have:=lenb xs;omega
theorem ixS{xs:w8}{n:Nat}{i:Int}(h0:0<=i)(h1:i<n)(hl:xs.length=n):∃x∈xs,oIx (.list xs) (.int i)=O x:=by
 obtain⟨k,rfl⟩:∃k:Nat,i=k:=⟨i.toNat,by omega⟩
 have hk:k<xs.length:=by omega
 exact⟨xs[k],JW hk,Zm (Qg hk)⟩
theorem Oi{xs:w8}{k n:Nat}{a b:yg}(h:∀x∈xs,Sh k n x):∀x∈DL.cutD xs a b,Sh k n x:=λx hx=>h x (Ll hx)
theorem ML{v:Int}(h:0<=v/\v<=100):∀x∈([.none,.bool w5,.bool w6,.int (-1),.int v,.str "0", .list [.int 0],.tuple [.int 0],.int (v+7),.int (10 ^ (40:Int).toNat)]:w8),Sh 2 1 x:=λx hx=>by
 have big:(200:Nat)<10 ^ 70:=by decide +kernel
 simp only[Qx,QY,or_false]at hx;rcases hx with rfl|rfl|rfl|rfl|rfl|rfl|rfl|rfl|rfl|rfl
 .exact VI
 .exact OI
 .exact OI
 .exact Ww (by omega)
 .exact Ww (by omega)
 .exact Rs (by decide +kernel) (by decide +kernel) (by decide +kernel)
 .exact RB (k:=1) (n:=0) (m:=1) (λy hy=>by rw[QO.mp hy];exact Ww (by omega)) (by decide)
 .exact V1 (k:=1) (n:=0) (m:=1) (λy hy=>by rw[QO.mp hy];exact Ww (by omega)) (by decide)
 .exact Ww (by omega)
 .exact Ww (by decide +kernel)
theorem D3{xs:w8}{a:Nat}(h:a<=xs.length):(DL.cutD xs w4 (O (a:Int))).length+(DL.cutD xs (O (a:Int)) w4).length=xs.length:=by unfold DL.cutD;simp only[HT.La,HT.LG,Jg,Jw];omega
section
variable{cs:w9}{ls:L3}
theorem MK(g:Good cs ls){old:D}{row:w8}(ho:old=.none∨old=.list row)(hr:∀x∈row,Sh 2 1 x)(hl:old=.list row->row.length=ls.length){w p o:Int}(hb:0<=o/\o<10):∃r,XF [U2 cs ls,old,.int w,.int p,.int o]=O r/\Sh 3 20 r:=by
 have l7:=g.l7;have l1:=g.l1;have c6:=g.c6;refine WL (Z:=[pb (U2 cs ls),pb old,pb (.int w),pb (.int p),pb (.int o),w4,w4,w4,w4]) wZ ?_;unfold TB;have hn:U7 [.list (cs.map int)]=O (.int cs.length):=by rw[KR,Qb]
 have hm:U7 [.list (ls.map Ks)]=O (.int ls.length):=by rw[KR,Qb]
 let X:w8:=[.none,.bool w5,.bool w6,.int (-1),.int (cs.length:Int),.str "0", .list [.int 0],.tuple [.int 0],.int ((cs.length:Int)+7),.int (10 ^ (40:Int).toNat)]
 let S0:Option Sl:=O (.pub (U2 cs ls))
 let S1:Option Sl:=O (.pub old)
 let S2:Option Sl:=O (.pub (.int w))
 let S3:Option Sl:=O (.pub (.int p))
 let S4:Option Sl:=O (.pub (.int o))
 let S5:Option Sl:=O (.pub (.int (ls.length:Int)))
 let S6:Option Sl:=O (.pub (.int (cs.length:Int)))
 refine U6 (Z1:=[S0,S1,S2,S3,S4,S5,w4,w4,w4]) (KI (Ze (UH (Kh wZ UM XM) UO) hm) (Qa wZ) wZ) ?_;refine U6 (Z1:=[S0,S1,S2,S3,S4,S5,S6,w4,w4]) (KI (Ze (UH (Kh wZ UM RP) UO) hn) (Qa wZ) wZ) ?_;refine U6 (Z1:=[S0,S1,S2,S3,S4,S5,S6,O (.own X),w4]) (Zs (Yn (UH UM (UH UM (UH UM (UH (WN UM) (UH (UK wZ) (UH UM (UH (Kq (UH UM UO) (Qa wZ)) (UH (ZK (UH UM UO) (Qa wZ)) (UH (UU (UK wZ) UM Zj) (UH (UU UM UM (Pt (by decide))) UO)))))))))) (Qa wZ)) (Qa wZ) wZ) ?_;obtain⟨x,yZ,hx⟩:=ixS (xs:=X) (n:=10) hb.1 hb.2 wZ;have wx:Sh 2 1 x:=ML ⟨by omega,by omega⟩ x yZ;refine U6 (Z1:=[S0,S1,S2,S3,S4,S5,S6,O (.own X),O (.own (Uq ls.length .none))]) (Zs (Bs (Kq (UH UM UO) (Qa wZ)) (UK wZ) (by omega)) (Qa wZ) wZ) ?_;have lst:∀{ys:w8},(∀y∈ys,Sh 2 1 y)->ys.length<=8->Sh 3 20 (.list ys):=λ{ys} h hl=>(RB h hl).mono (by decide) (by decide)
 have sold:Sh 3 20 old:=by
  rcases ho with rfl|rfl
  .exact VI
  .exact lst hr (by have:=hl wZ;omega)
 have rest:∀ys:w8,(∀y∈ys,Sh 2 1 y)->ys.length=ls.length->Ho (UL (sIf (Kp oEq 2 (UJ (.int 3)))
   (UL (X4 8 (UN KZ (UE 3) (UE 5)) (UQ 7 (UE 4)))
   (UR (UE 8)))
   (sNx))
   (UL (sIf (Kp oEq 2 (UJ (.int 4)))
   (UR (UN oIx (UV (UF (Zg (UE 8) (UW (UJ (.int 1)) λx=>UX (ZU x)) (UJ w4)) (UF (UN U0 (UE 8) (UV (UF (UJ .none) (UG)))) (UG)))) (UN KZ (UE 4) (UJ (.int 2)))))
   (sNx))
   (UL (sIf (Kp oEq 2 (UJ (.int 5)))
   (UR (K5 Re (UF (UE 8) (UG))))
   (sNx))
   (UL (sIf (Kp oEq 2 (UJ (.int 6)))
   (UR (UQ 7 (UE 4)))
   (sNx))
   (UR (UE 1)))))) [S0,S1,S2,S3,S4,S5,S6,O (.own X),O (.own ys)] (λo=>∃d,o=.rt d/\Sh 3 20 d):=by
  intro ys hy hyl
  let R:UI:=[S0,S1,S2,S3,S4,S5,S6,O (.own X),O (.own ys)]
  apply Ka;refine UZ (Z1:=R) (K1 wZ UM ZN) (λ_=>?_) (λ_=>Ke (Kb ?_))
  .have hm0:0<=p % (ls.length:Int):=Jl _ (by omega)
   have hm1:p % (ls.length:Int)<ls.length:=Q9 _ (by omega);refine U6 (V9 (Sn wZ (UK wZ) wZ hx) wZ (UU (UK wZ) (UK wZ) (YX (by omega))) wZ ⟨hm0,by omega⟩ wZ) ?_;refine UY (KU wZ wZ) (Kj ⟨_,rfl,lst (λy hy'=>?_) (by rw[Q5];omega)⟩);rcases List.mem_or_eq_of_mem_set hy' with h|h
   .exact hy y h
   .rw[h];exact wx
  apply Ka;refine UZ (Z1:=R) (K1 wZ UM ZN) (λ_=>?_) (λ_=>Ke (Kb ?_))
  .let Y:w8:=[.list (DL.cutD ys (O 1) w4),.list (ys++[.none])]
   obtain⟨y,zV,hyx⟩:=ixS (xs:=Y) (n:=2) (i:=o % 2) (Jl _ (by decide)) (Q9 _ (by decide)) wZ;refine UY (UU (Kq (UH (X5 (KU wZ wZ) (YK UM) UM Wb) (UH (UU (UK wZ) (Kq (UH UM UO) (Qa wZ)) (Yu (by show _+1<=_;omega))) UO)) (Qa wZ)) (UU (UK wZ) UM (YX (by decide))) hyx) (Kj ⟨_,rfl,?_⟩);simp only[Y,Qx,QY,or_false]at zV;rcases zV with rfl|rfl
   .exact lst (Oi hy) (by have:=Lm (xs:=ys) (a:=O 1) (b:=w4);omega)
   .refine lst (λz hz=>?_) (by rw[Qi];show _+1<=8;omega)
    rcases QS.mp hz with hz|hz
    .exact hy z hz
    .rw[QO.mp hz];exact VI
  apply Ka;refine UZ (Z1:=R) (K1 wZ UM ZN) (λ_=>UY (Ze (UH (KU wZ wZ) UO) wZ) (Kj ⟨_,rfl,(V1 hy (m:=8) (by omega)).mono (by decide) (by decide)⟩)) (λ_=>Ke (Kb ?_));apply Ka;refine UZ (Z1:=R) (K1 wZ UM ZN) (λ_=>UY (Sn wZ (UK wZ) wZ hx) (Kj ⟨_,rfl,wx.mono (by decide) (by decide)⟩)) (λ_=>Ke (Kb ?_));exact UY (UK wZ) ⟨_,rfl,sold⟩
 apply Ka;rcases ho with rfl|rfl
 .refine UZ (b:=w6) (Z1:=[S0,O (.pub .none),S2,S3,S4,S5,S6,O (.own X),O (.own (Uq ls.length .none))]) (Ko (k:=λd=>!isNon d) (x:=PyData.none) (UK wZ)) (λz=>by cases z) λ_=>Ke (Kb (rest _ (λy hy=>?_) Qu))
  rw[(Ju.mp hy).2];exact VI
 .refine UZ (b:=w5) (Z1:=[S0,pb (.list row),S2,S3,S4,S5,S6,O (.own X),O (.own (Uq ls.length .none))]) (Ko (k:=λd=>!isNon d) (x:=Ur row) (UK wZ)) (λ_=>?_) λz=>by cases z
  exact KQ (Zs (SE wZ wZ) (Qa wZ) wZ) (Kb (rest row hr (hl wZ)))
theorem ju{m:Nat}(hm:m<=7){ts:w9}(ht:∀a∈ts,0<=a/\a<m)(hl:ts.length<=7){w p o:Int}(hb:0<=o/\o<10):∃r,Wl [.int m,.list (ts.map int),.int w,.int p,.int o]=O r/\Sh 3 20 r:=by
 refine WL (Z:=[pb (.int m),pb (.list (ts.map int)),pb (.int w),pb (.int p),pb (.int o),w4,w4]) wZ ?_;unfold Tz;have big:(200:Nat)<10 ^ 70:=by decide +kernel
 let X:w8:=[.none,.bool w5,.bool w6,.int (-1),.int (m:Int),.str "0", .list [.int 0],.tuple [.int 0],.int ((m:Int)+7),.int (10 ^ (40:Int).toNat)]
 let S0:Option Sl:=O (.pub (.int m))
 let S1:Option Sl:=O (.pub (.list (ts.map int)))
 let S2:Option Sl:=O (.pub (.int w))
 let S3:Option Sl:=O (.pub (.int p))
 let S4:Option Sl:=O (.pub (.int o))
 refine U6 (Z1:=[S0,S1,S2,S3,S4,O (.own X),w4]) (Zs (Yn (UH UM (UH UM (UH UM (UH (WN UM) (UH (UK wZ) (UH UM (UH (Kq (UH UM UO) (Qa wZ)) (UH (ZK (UH UM UO) (Qa wZ)) (UH (UU (UK wZ) UM Zj) (UH (UU UM UM (Pt (by decide))) UO)))))))))) (Qa wZ)) (Qa wZ) wZ) ?_;obtain⟨x,yZ,hx⟩:=ixS (xs:=X) (n:=10) hb.1 hb.2 wZ;have wx:Sh 2 1 x:=ML ⟨by omega,by omega⟩ x yZ;have hlen:(ts.map int).length=ts.length:=Qb _;have hts:∀y∈ts.map int,Sh 2 1 y:=λy hy=>by obtain⟨a,ha,rfl⟩:=Qz.mp hy;have:=ht a ha;exact Ww (by omega)
 have lst:∀{ys:w8},(∀y∈ys,Sh 2 1 y)->ys.length<=8->Sh 3 20 (.list ys):=λ{ys} h hl=>(RB h hl).mono (by decide) (by decide)
 have hm0:0<=p % ((ts.map int).length+1:Int):=Jl _ (by omega);have hm1:p % ((ts.map int).length+1:Int)<(ts.map int).length+1:=Q9 _ (by omega);obtain⟨a,ha⟩:∃a:Nat,p % ((ts.map int).length+1:Int)=a:=⟨(p % ((ts.map int).length+1:Int)).toNat,by omega⟩
 rw[ha]at hm0 hm1;have h2:=D3 (xs:=ts.map int) (a:=a) (by omega)
 let S6:Option Sl:=O (.pub (.int (a:Int)))
 let R:UI:=[S0,S1,S2,S3,S4,O (.own X),S6]
 refine U6 (Z1:=R) (KI (UU (UK wZ) (UU (KT wZ KR) UM Zj) (YX (by omega))) (Qa wZ) (by rw[ha];rfl)) ?_
 have ins:∀z:D,Sh 2 1 z->Sh 3 20 (.list (DL.cutD (ts.map int) w4 (O (a:Int))++[z]++DL.cutD (ts.map int) (O (a:Int)) w4)):=λz hz=>lst (λy hy=>by
  rcases QS.mp hy with hy|hy
  .rcases QS.mp hy with hy|hy
   .exact Oi hts y hy
   .rw[QO.mp hy];exact hz
  .exact Oi hts y hy) (by rw[Qi,Qi];show _+1+_<=8;omega)
 apply Ka;refine UZ (Z1:=R) (K1 wZ UM ZN) (λ_=>?_) (λ_=>Ke (Kb ?_))
 .exact UY (UU (UU (X5 (UK wZ) UM (YK (UK wZ)) Wb) (Kq (UH (Sn wZ (UK wZ) wZ hx) UO) (Qa wZ)) (Yu (by show _+1<=_;omega))) (X5 (UK wZ) (YK (UK wZ)) UM Wb) (Yu (by rw[Qi];show _+1+_<=_;omega))) (Kj ⟨_,rfl,ins x wx⟩)
 apply Ka;refine UZ (b:=decide (w=4) && !decide (ts=[])) (Z1:=R) (Om (K1 wZ UM ZN) (λ_=>K1 wZ (Kq UO (by decide)) L4)) (λhh=>?_) (λ_=>Ke (Kb ?_))
 .have hne:ts≠[]:=by
   rw[QL]at hh;simpa using hh.2
  have hpos:0<ts.length:=List.length_pos_iff.mpr hne;obtain⟨y,zV,hy⟩:=ixS (xs:=ts.map int) (n:=ts.length) (i:=o % ((ts.map int).length:Nat)) (Jl _ (by omega)) (by have:=Q9 o (b:=((ts.map int).length:Nat)) (by omega);omega) hlen;exact UY (UU (UU (X5 (UK wZ) UM (YK (UK wZ)) Wb) (Kq (UH (Kh wZ (UU (UK wZ) (KT wZ KR) (YX (by omega))) hy) UO) (Qa wZ)) (Yu (by show _+1<=_;omega))) (X5 (UK wZ) (YK (UK wZ)) UM Wb) (Yu (by rw[Qi];show _+1+_<=_;omega))) (Kj ⟨_,rfl,ins y (hts y zV)⟩)
 apply Ka;refine UZ (Z1:=R) (K1 wZ UM ZN) (λ_=>UY (Ze (UH (UK wZ) UO) wZ) (Kj ⟨_,rfl,(V1 hts (m:=8) (by omega)).mono (by decide) (by decide)⟩)) (λ_=>Ke (Kb ?_));apply Ka;refine UZ (Z1:=R) (K1 wZ UM ZN) (λ_=>UY (Sn wZ (UK wZ) wZ hx) (Kj ⟨_,rfl,wx.mono (by decide) (by decide)⟩)) (λ_=>Ke (Kb ?_));exact UY (Ko (SE wZ wZ)) ⟨_,rfl,lst hts (by omega)⟩
theorem FC{x:D}(h:Sh 3 20 x):Sh 5 150 (.dict [(.str "order", x)]):=by
 refine⟨?_,?_,?_⟩
 .have e:Uu (Uz "order")=w5:=by decide +kernel
  have e2:(Uz "order").length<=20:=by decide +kernel
  simp[hW,hWk,h.1,e,e2]
 .have:=h.2.1
  simp only[Uw,PyData.depthKv];omega
 .have:=h.2.2
  have e2:(Ut (Uz "order")).bulk=5:=by decide +kernel
  simp only[PyData.bulk,PyData.bulkKv]at e2⊢;omega
end
section
variable{cs:w9}{ls:L3}{o:Ord}{old:yj}{ts:w9}
theorem DZ(g:Good cs ls)(ga:Xn cs.length ls.length old ts)(c s:Int):∃r,Vp [U2 cs ls,Kt o old ts,.int c,.int s]=O r/\Sh 5 150 r:=by
 have l7:=g.l7;have c6:=g.c6;have big:(200:Nat)<10 ^ 70:=by decide +kernel
 refine WL (Z:=[pb (U2 cs ls),pb (Kt o old ts),pb (.int c),pb (.int s),w4,w4,w4,w4,w4,w4]) wZ ?_;unfold Tx;obtain⟨r,hF,dg,rfl,hdl,hdb⟩:=Tj c s (sizes:=[4,13,7,8,10,7,8,10,6,7]) (by decide) (by decide);have hdl:dg.length=10:=hdl
 have dgt:∀{j:Nat}{z:Int},([4,13,7,8,10,7,8,10,6,7]:w9)[j]?=O z->∃d,oIx (.list (dg.map int)) (.int j)=O (.int d)/\0<=d/\d<z:=λ{j z} hz=>by
  have hj:j<dg.length:=by rw[hdl];exact(Ql.mp hz).1
  exact⟨dg[j],Zm (by rw[Qh,Qg hj];rfl),hdb j _ _ (Qg hj) hz⟩
 obtain⟨d0,e0,_⟩:=dgt (j:=0) (z:=4) wZ;obtain⟨d1,e1,b1⟩:=dgt (j:=1) (z:=13) wZ;obtain⟨d2,e2,b2⟩:=dgt (j:=2) (z:=7) wZ;obtain⟨d3,e3,b3⟩:=dgt (j:=3) (z:=8) wZ;obtain⟨d4,e4,b4⟩:=dgt (j:=4) (z:=10) wZ;obtain⟨d5,e5,b5⟩:=dgt (j:=5) (z:=7) wZ;obtain⟨d6,e6,b6⟩:=dgt (j:=6) (z:=8) wZ;obtain⟨d7,e7,b7⟩:=dgt (j:=7) (z:=10) wZ;obtain⟨d8,e8,_⟩:=dgt (j:=8) (z:=6) wZ;obtain⟨d9,e9,b9⟩:=dgt (j:=9) (z:=7) wZ
 let P0:Option Sl:=O (.pub (U2 cs ls))
 let P1:Option Sl:=O (.pub (Kt o old ts))
 let P2:Option Sl:=O (.pub (.int c))
 let P3:Option Sl:=O (.pub (.int s))
 let P4:Option Sl:=O (.pub (.list (dg.map int)))
 let T:Option Sl:=O (.pub (.list (ts.map int)))
 refine U6 (Z1:=[P0,P1,P2,P3,P4,w4,w4,w4,w4,w4]) (KI (U8 (UH (UK wZ) (UH (UK wZ) (UH (Kq (UH UM (UH UM (UH UM (UH UM (UH UM (UH UM (UH UM (UH UM (UH UM (UH UM UO)))))))))) (Qa wZ)) UO))) wZ hF) (Qa wZ) wZ) ?_;refine U6 (Z1:=[P0,P1,P2,P3,P4,pb (.str o.tx),pb (Zn old),T,w4,w4]) (XT (UK wZ) (Kz wZ (U1 (UT (Qa wZ) wZ) (U1 (UT (Qa wZ) wZ) (U1 (UT (Qa wZ) wZ) KB))))) ?_
 obtain⟨A,hA,sA⟩:∃A,XF [U2 cs ls,Zn old,.int d2,.int d3,.int d4]=O A/\Sh 3 20 A:=by
  cases old with
  |none=>exact MK g (row:=[]) (.inl wZ) (λx h=>by cases h) (λe=>by cases e) b4
  |some ws=>
   refine MK g (row:=ws.map Kg) (.inr wZ) (λx hx=>?_) (λ_=>by rw[Qb];exact ga.len ws wZ) b4;obtain⟨w,hw,rfl⟩:=Qz.mp hx;cases w with
   |none=>exact VI
   |some t=>have:=ga.old ws t wZ hw;exact Ww (by omega)
 obtain⟨B,hB,sB⟩:=ju (m:=ls.length) l7 (ts:=ts) ga.there (by have:=ga.few;omega) (w:=d5) (p:=d6) b7;have hm:U7 [.list (ls.map Ks)]=O (.int ls.length):=by rw[KR,Qb]
 have rest:∀(t:D)(x8:Option Sl),Sh 3 20 t->Ho (UL (U3 6 (UP 5 XF (UF (UE 0) (UF (UE 6) (UF (UQ 4 (UJ (.int 2))) (UF (UQ 4 (UJ (.int 3))) (UF (UQ 4 (UJ (.int 4))) (UG))))))))
   (UL (U3 7 (UP 5 Wl (UF (K5 U7 (UF (UQ 0 (UJ (.int 1))) (UG))) (UF (UE 7) (UF (UQ 4 (UJ (.int 5))) (UF (UQ 4 (UJ (.int 6))) (UF (UQ 4 (UJ (.int 7))) (UG))))))))
   (UL (sIf (UN oEq (UQ 4 (UJ (.int 8))) (UJ (.int 1)))
   (UL (K2 9 (UW (UF (UV (UF (UE 5) (UF (UE 6) (UF (UE 7) (UG))))) (UF (Kx (UF (UE 5) (UF (UE 6) (UG)))) (UF (Kx (UF (UE 5) (UF (UE 6) (UF (UE 7) (UF (UJ .none) (UG)))))) (UG)))) λxs=>if xs.length<=1000000 then UJ xs else λ_=>.bad))
   (UL (U3 9 (UN U0 (UE 9) (UV (UF (UJ .none) (UF (UE 5) (UF (UJ (.int 3)) (UF (SV [(UJ (.str "order"),UE 5)]) (UG))))))))
   (UR (UQ 9 (UQ 4 (UJ (.int 9)))))))
   (sNx))
   (UR (Kx (UF (UE 5) (UF (UE 6) (UF (UE 7) (UG))))))))) [P0,P1,P2,P3,P4,pb t,pb (Zn old),T,x8,w4] (λo=>∃d,o=.rt d/\Sh 5 150 d):=by
  intro t x8 st;refine U6 (Z1:=[P0,P1,P2,P3,P4,pb t,pb A,T,x8,w4]) (KI (U8 (UH (UK wZ) (UH (UK wZ) (UH (Kh wZ UM e2) (UH (Kh wZ UM e3) (UH (Kh wZ UM e4) UO))))) wZ hA) (Qa wZ) wZ) ?_;refine U6 (Z1:=[P0,P1,P2,P3,P4,pb t,pb A,pb B,x8,w4]) (KI (U8 (UH (Ze (UH (Kh wZ UM XM) UO) hm) (UH (UK wZ) (UH (Kh wZ UM e5) (UH (Kh wZ UM e6) (UH (Kh wZ UM e7) UO))))) wZ hB) (Qa wZ) wZ) ?_;have t3:∀x∈[t,A,B],Sh 3 20 x:=λx hx=>by simp only[Qx,QY,or_false]at hx;rcases hx with rfl|rfl|rfl<;>assumption
  let R:UI:=[P0,P1,P2,P3,P4,pb t,pb A,pb B,x8,w4]
  apply Ka;refine UZ (Z1:=R) (UU (Kh wZ UM e8) UM ZN) (λ_=>?_) (λ_=>Ke (Kb ?_))
  .refine U6 (Z1:=[P0,P1,P2,P3,P4,pb t,pb A,pb B,x8,O (.own [.list [t,A,B],.tuple [t,A],.tuple [t,A,B,.none]])]) (Zs (Yn (UH (Kq (UH (UK wZ) (UH (UK wZ) (UH (UK wZ) UO))) (Qa wZ)) (UH (ZK (UH (UK wZ) (UH (UK wZ) UO)) (Qa wZ)) (UH (ZK (UH (UK wZ) (UH (UK wZ) (UH (UK wZ) (UH UM UO)))) (Qa wZ)) UO))) (Qa wZ)) (Qa wZ) wZ) ?_
   let Y:w8:=[.list [t,A,B],.tuple [t,A],.tuple [t,A,B,.none],.none,t,.int 3,.dict [(.str "order", t)]]
   have hdd:SV [(UJ (.str "order"),UE 5)] [P0,P1,P2,P3,P4,O (.pub t),O (.pub A),O (.pub B),x8,O (.pub (.list [.list [t,A,B],.tuple [t,A],.tuple [t,A,B,.none]]))]=.ok (.dict [(.str "order", t)]) [P0,P1,P2,P3,P4,O (.pub t),O (.pub A),O (.pub B),x8,O (.pub (.list [.list [t,A,B],.tuple [t,A],.tuple [t,A,B,.none]]))]:=rfl;refine U6 (Z1:=[P0,P1,P2,P3,P4,pb t,pb A,pb B,x8,pb (.list Y)]) (KI (UU (KU wZ wZ) (Kq (UH UM (UH (UK wZ) (UH UM (UH hdd UO)))) (Qa wZ)) (Yu (Qa wZ))) (Qa wZ) wZ) ?_;obtain⟨y,zV,hy⟩:=ixS (xs:=Y) (n:=7) b9.1 b9.2 wZ;refine UY (Kh rfl (Kh rfl UM e9) hy) (Kj ⟨_,rfl,?_⟩);simp only[Y,Qx,QY,or_false]at zV;rcases zV with rfl|rfl|rfl|rfl|rfl|rfl|rfl
   .exact(RB t3 (m:=3) (Qq _)).mono (by decide) (by decide)
   .exact(V1 (λx hx=>t3 x (by simp only[Qx,QY,or_false]at hx⊢;rcases hx with rfl|rfl<;>simp)) (m:=2) (Qq _)).mono (by decide) (by decide)
   .refine(V1 (k:=3) (n:=20) (m:=4) (λx hx=>?_) (Qq _)).mono (by decide) (by decide)
    simp only[Qx,QY,or_false]at hx;rcases hx with rfl|rfl|rfl|rfl
    .exact st
    .exact sA
    .exact sB
    .exact VI
   .exact VI
   .exact st.mono (by decide) (by decide)
   .exact Ww (by omega)
   .exact FC st
  .exact UY (ZK (UH (UK wZ) (UH (UK wZ) (UH (UK wZ) UO))) (Qa wZ)) ⟨_,rfl,(V1 t3 (m:=3) (Qq _)).mono (by decide) (by decide)⟩
 have so:Sh 3 20 (.str o.tx):=by cases o<;>exact Rs (by decide +kernel) (by decide +kernel) (by decide +kernel)
 apply Ka;refine UZ (Z1:=[P0,P1,P2,P3,P4,pb (.str o.tx),pb (Zn old),T,w4,w4]) (UU (Kh wZ UM e0) UM ZN) (λ_=>?_) (λ_=>Ke (Kb (rest _ _ so)))
 let W:w8:=[.str "first", .str "Full", .str "", .str "lasts ", .str " full", .str "firstsfull", .str "FIRSTS", .str "l"]
 let X:w8:=W++[.none,.int 1,.bool w5,.list [.str "full"],.tuple [.str "lasts"]]
 obtain⟨x,yZ,hx⟩:=ixS (xs:=X) (n:=13) b1.1 b1.2 wZ;refine U6 (Z1:=[P0,P1,P2,P3,P4,pb (.str o.tx),pb (Zn old),T,O (.own W),w4]) (Zs (Yn (UH UM (UH UM (UH UM (UH UM (UH UM (UH UM (UH UM (UH UM UO)))))))) (Qa rfl)) (Qa rfl) rfl) ?_;refine KQ (KI (UU (UU (KU rfl rfl) (Kq (UH UM (UH UM (UH UM (UH (Kq (UH UM UO) (Qa rfl)) (UH (ZK (UH UM UO) (Qa rfl)) UO))))) (Qa rfl)) (Yu (Qa rfl))) (Kh rfl UM e1) hx) (Qa rfl) rfl) (Kb (rest x _ ?_));have sx:∀z:Str,Uu z=w5->z.length<=20->Sh 1 20 (.str z):=λz h1 h2=>Rs h1 h2 h2;simp only[X,W,QS,Qx,QY,or_false]at yZ;rcases yZ with (rfl|rfl|rfl|rfl|rfl|rfl|rfl|rfl)|rfl|rfl|rfl|rfl|rfl
 .exact(sx _ (by decide +kernel) (by decide +kernel)).mono (by decide) (by decide)
 .exact(sx _ (by decide +kernel) (by decide +kernel)).mono (by decide) (by decide)
 .exact(sx _ (by decide +kernel) (by decide +kernel)).mono (by decide) (by decide)
 .exact(sx _ (by decide +kernel) (by decide +kernel)).mono (by decide) (by decide)
 .exact(sx _ (by decide +kernel) (by decide +kernel)).mono (by decide) (by decide)
 .exact(sx _ (by decide +kernel) (by decide +kernel)).mono (by decide) (by decide)
 .exact(sx _ (by decide +kernel) (by decide +kernel)).mono (by decide) (by decide)
 .exact(sx _ (by decide +kernel) (by decide +kernel)).mono (by decide) (by decide)
 .exact VI
 .exact Ww (by omega)
 .exact OI
 .exact(RB (k:=1) (n:=10) (m:=1) (λy hy=>by rw[QO.mp hy];exact Rs (by decide +kernel) (by decide +kernel) (by decide +kernel)) (by decide)).mono (by decide) (by decide)
 .exact(V1 (k:=1) (n:=10) (m:=1) (λy hy=>by rw[QO.mp hy];exact Rs (by decide +kernel) (by decide +kernel) (by decide +kernel)) (by decide)).mono (by decide) (by decide)
end
theorem DY{n m:Nat}(d:D):PyData.canLay0 (WE (ZL n m d))=w5/\(WE (ZL n m d)).depth<=1/\(isNon (WE (ZL n m d))=w6->Kd (WE (ZL n m d)) "str" = w5):=by
 have h:ZL n m d=w4∨ZL n m d=O ("aim" : Str)∨ZL n m d=O ("order" : Str)∨ZL n m d=O ("old" : Str)∨ZL n m d=O ("turns" : Str):=by
  unfold ZL;split
  .split
   .split
    .split
     .exact .inl wZ
     .exact .inr (.inr (.inr (.inr wZ)))
    .exact .inr (.inr (.inr (.inl wZ)))
   .exact .inr (.inr (.inl wZ))
  .exact .inr (.inl wZ)
 rcases h with e|e|e|e|e<;>rw[e]<;>refine⟨by decide +kernel,by simp[WE,Uw],λz=>?_⟩
 .cases z
 all_goals rfl
noncomputable def fauD(o:Option (Str×D)):D:=match o with
 |none=>.list []
 |some (p,n)=>.list [.str p,n]
theorem HP{a c:D}{n:Int}:∀(xs:w8)(ss:w9)(x4:Option Sl),ss.Nodup->ss.length+xs.length<=100000 ->
  ((xs.all (U9 n)&&decide (ss++xs.filterMap whI).Nodup)=w5/\∃y,Zc (gN 4) Y6 xs [pb a,pb (.int n),O (.own (ss.map int)),pb c,x4]=.nx [pb a,pb (.int n),O (.own ((ss++xs.filterMap whI).map int)),pb c,y]) ∨
  ((xs.all (U9 n)&&decide (ss++xs.filterMap whI).Nodup)=w6/\Zc (gN 4) Y6 xs [pb a,pb (.int n),O (.own (ss.map int)),pb c,x4]=.rt (.bool w6))
 |[],ss,x4,hn,_=>.inl ⟨by simp[hn],x4,by rw[Zc];simp⟩
 |x::r,ss,x4,hn,hl=>by
  rw[QF]at hl;have h1:gN 4 x [pb a,pb (.int n),O (.own (ss.map int)),pb c,x4]=O [pb a,pb (.int n),O (.own (ss.map int)),pb c,pb x]:=UT (Qa wZ) wZ;have bad:U9 n x=w6->Y6 [pb a,pb (.int n),O (.own (ss.map int)),pb c,pb x]=.rt (.bool w6)->Zc (gN 4) Y6 (x::r) [pb a,pb (.int n),O (.own (ss.map int)),pb c,x4]=.rt (.bool w6):=λ_ e=>by rw[Zc,h1];dsimp only;rw[e]
  cases hb:U9 n x with
  |false=>
   refine .inr ⟨by rw[Jh,hb];rfl,bad hb ?_⟩
   have:Ho Y6 [pb a,pb (.int n),O (.own (ss.map int)),pb c,pb x] (λo=>o=.rt (.bool w6)):=by
    unfold Y6;apply Ka;have hww:ZG [x,.int n]=O (.bool w6):=by rw[SH,hb]
    exact UZ (b:=w5) (K9 (ZA (Z8 (t:=w6) (U8 (UH (UK wZ) (UH (UK wZ) UO)) wZ hww)))) (λ_=>UY UM (Kj wZ)) λz=>by cases z
   exact this.out
  |true=>
   obtain⟨i,rfl,h0,h1'⟩:=OS hb;have ew:(int i::r).filterMap whI=i::r.filterMap whI:=rfl;rw[ew];have hww:ZG [.int i,.int n]=O (.bool w5):=by rw[SH,hb]
   have test:mOr (U5 (KO (UP 2 ZG (UF (UE 4) (UF (UE 1) (UG)))))) (VE oIn (UE 4) 2) [pb a,pb (.int n),O (.own (ss.map int)),pb c,pb (.int i)]=.ok (ss.contains i) [pb a,pb (.int n),O (.own (ss.map int)),pb c,pb (.int i)]:=
    Zt (ZA (Z8 (t:=w5) (U8 (UH (UK wZ) (UH (UK wZ) UO)) wZ hww))) (O4 (UK wZ) wZ (Ov i ss))
   cases hc:ss.contains i with
   |true=>
    rw[hc]at test;have hm:i∈ss:=by simpa using hc
    refine .inr ⟨?_,?_⟩
    .rw[Qr,Jp]
     intro z;rw[JZ]at z;exact z.2.2 i hm i Qo wZ
    .have:Ho Y6 [pb a,pb (.int n),O (.own (ss.map int)),pb c,pb (.int i)] (λo=>o=.rt (.bool w6)):=by
      unfold Y6;apply Ka;exact UZ test (λ_=>UY UM (Kj wZ)) λz=>by cases z
     rw[Zc,h1];dsimp only;rw[this.out]
   |false=>
    rw[hc]at test;have hm:¬i∈ss:=by simpa using hc
    have hn':(ss++[i]).Nodup:=by rw[JZ];exact⟨hn,by simp,λx hx y hy=>by rw[List.mem_singleton]at hy;subst hy;exact λe=>hm (e ▸ hx)⟩
    have:Ho Y6 [pb a,pb (.int n),O (.own (ss.map int)),pb c,pb (.int i)] (λo=>o=.nx [pb a,pb (.int n),O (.own ((ss++[i]).map int)),pb c,pb (.int i)]):=by
     unfold Y6;apply Ka;refine UZ test (λz=>by cases z) λ_=>Ke (Kb ?_)
     exact KQ (WM wZ (UK wZ) wZ (by rw[Qb];omega) (by rw[QU];rfl)) wZ
    have st:Zc (gN 4) Y6 (.int i::r) [pb a,pb (.int n),O (.own (ss.map int)),pb c,x4]=Zc (gN 4) Y6 r [pb a,pb (.int n),O (.own ((ss++[i]).map int)),pb c,pb (.int i)]:=by rw[Zc,h1];dsimp only;rw[this.out]
    have ea:ss++i::r.filterMap whI=(ss++[i])++r.filterMap whI:=by rw[Q0];rfl
    rw[st,ea,Jh,hb,JL];exact HP r (ss++[i]) _ hn' (by rw[Qi,Jc];omega)
theorem HN{a:D}{n:Int}:∀(rs:w8)(ss:w9)(x3 x4:Option Sl),(∀xs,.list xs∈rs->xs.length<=700)->ss.Nodup->ss.length+700*rs.length<=100000 ->
  ((rs.all (rkB n)&&decide (ss++flI rs).Nodup)=w5/\∃y z,Zc (gN 3) YV rs [pb a,pb (.int n),O (.own (ss.map int)),x3,x4]=.nx [pb a,pb (.int n),O (.own ((ss++flI rs).map int)),y,z]) ∨
  ((rs.all (rkB n)&&decide (ss++flI rs).Nodup)=w6/\Zc (gN 3) YV rs [pb a,pb (.int n),O (.own (ss.map int)),x3,x4]=.rt (.bool w6))
 |[],ss,x3,x4,_,hn,_=>.inl ⟨by simp[flI,hn],x3,x4,by rw[Zc];simp[flI]⟩
 |x::r,ss,x3,x4,hs,hn,hl=>by
  rw[QF]at hl;have h1:gN 3 x [pb a,pb (.int n),O (.own (ss.map int)),x3,x4]=O [pb a,pb (.int n),O (.own (ss.map int)),pb x,x4]:=UT (Qa wZ) wZ;have ef:flI (x::r)=itI x++flI r:=rfl
  have odd:∀(hx:rkB n x=w6)(hq:Ho YV [pb a,pb (.int n),O (.own (ss.map int)),pb x,x4] (λo=>o=.rt (.bool w6))),((x::r).all (rkB n)&&decide (ss++flI (x::r)).Nodup)=w6/\Zc (gN 3) YV (x::r) [pb a,pb (.int n),O (.own (ss.map int)),x3,x4]=.rt (.bool w6):=λhx hq=>
   ⟨by rw[List.all_cons,hx];rfl,by rw[Zc,h1];dsimp only;rw[hq.out]⟩
  cases x with
  |list xs=>
   have am:=hs xs Qo;cases xs with
   |nil=>refine .inr (odd wZ ?_);unfold YV;apply Ka;exact UZ (b:=w5) (Zt (KP (UK wZ) wZ) (K1 wZ (Kq UO (Qa wZ)) MI)) (λ_=>UY UM (Kj wZ)) λz=>by cases z
   |cons x0 xr=>
    have enter:YV [pb a,pb (.int n),O (.own (ss.map int)),pb (.list (x0::xr)),x4]=Zc (gN 4) Y6 (x0::xr) [pb a,pb (.int n),O (.own (ss.map int)),pb (.list (x0::xr)),x4]:=by
     have:Ho YV [pb a,pb (.int n),O (.own (ss.map int)),pb (.list (x0::xr)),x4] (λo=>o=Zc (gN 4) Y6 (x0::xr) [pb a,pb (.int n),O (.own (ss.map int)),pb (.list (x0::xr)),x4]):=by
      unfold YV;apply Ka;refine UZ (b:=w6) (Zt (KP (UK wZ) wZ) (K1 wZ (Kq UO (Qa wZ)) MI)) (λz=>by cases z) λ_=>Ke (Kb ?_)
      constructor;unfold Km sB
      have e:KJ (UE 3) [pb a,pb (.int n),O (.own (ss.map int)),pb (.list (x0::xr)),x4]=.ok (x0::xr) [pb a,pb (.int n),O (.own (ss.map int)),pb (.list (x0::xr)),x4]:=Zv (UK wZ) wZ;rw[e]
     exact this.out
    have er:rkB n (.list (x0::xr))=(x0::xr).all (U9 n):=rfl;have ei:itI (.list (x0::xr))=(x0::xr).filterMap whI:=rfl;rcases HP (a:=a) (c:=.list (x0::xr)) (n:=n) (x0::xr) ss x4 hn (by omega)with ⟨e,y,h⟩|⟨e,h⟩
    .rw[QL]at e
     have hn2:=Qa e.2;have st:Zc (gN 3) YV (.list (x0::xr)::r) [pb a,pb (.int n),O (.own (ss.map int)),x3,x4]=Zc (gN 3) YV r [pb a,pb (.int n),O (.own ((ss++(x0::xr).filterMap whI).map int)),pb (.list (x0::xr)),y]:=by rw[Zc,h1];dsimp only;rw[enter,h]
     have hlf:((x0::xr).filterMap whI).length<=700:=QH (List.length_filterMap_le _ _) am;rw[st,Jh,er,e.1,JL,ef,ei,←Q0];exact HN r _ _ _ (λxs hx=>hs xs (Qp _ hx)) hn2 (by rw[Qi];omega)
    .refine .inr ⟨?_,by rw[Zc,h1];dsimp only;rw[enter,h]⟩
     rw[Jh,er,ef,ei];cases e1:(x0::xr).all (U9 n)with
     |false=>rfl
     |true=>rw[e1,JL]at e;have e:=Q8 e;rw[JL,Qr,Jp];intro z;rw[←Q0]at z;exact e (List.nodup_append.mp z).1
  |dict kvs=>refine .inr (odd wZ ?_);unfold YV;apply Ka;exact UZ (b:=w5) (K9 (YF (UK wZ))) (λ_=>UY UM (Kj wZ)) λz=>by cases z
  |_=>refine .inr (odd wZ ?_);unfold YV;apply Ka;exact UZ (b:=w5) (K9 (KP (UK wZ) wZ)) (λ_=>UY UM (Kj wZ)) λz=>by cases z
theorem kU{d:D}{n:Int}(hs:Vk d):Vn [d,.int n]=O (.bool (Zy n d)):=by
 refine KS (Z:=[pb d,pb (.int n),w4,w4,w4]) wZ ?_;unfold Tu;apply Ka;cases d with
 |list rs=>
  have hs:=hs rs wZ;apply UZ (b:=decide ((5:Int)<rs.length))
  case h1=>exact Zt (Z1:=[pb (.list rs),pb (.int n),w4,w4,w4]) (KP (UK wZ) wZ) (UU (KT wZ KR) UM wZ)
  case h2=>
   intro hh;have:(5:Int)<(rs.length:Int):=by simpa using hh
   refine UY UM (Kj ?_);rw[WW,Qr (by omega:¬rs.length<=5)];rfl
  case h3=>
   intro hh;have h5:¬(5:Int)<(rs.length:Int):=by simpa using hh
   refine Ke (Kb ?_);refine U6 (Zs (Yn UO (J0 _)) (Qa wZ) wZ) ?_;apply Ka;constructor;rw[WW,QC (by omega:rs.length<=5),JL];have e:KJ (UE 0) [pb (.list rs),pb (.int n),O (.own []),w4,w4]=.ok rs [pb (.list rs),pb (.int n),O (.own []),w4,w4]:=Zv (UK wZ) wZ;have e0:Km (KJ (UE 0)) (gN 3) YV [pb (.list rs),pb (.int n),O (.own []),w4,w4]=Zc (gN 3) YV rs [pb (.list rs),pb (.int n),O (.own (([]:w9).map int)),w4,w4]:=by unfold Km sB;rw[e];rfl
   show VG _ _ (Km (KJ (UE 0)) (gN 3) YV [pb (.list rs),pb (.int n),O (.own []),w4,w4]);rw[e0];rcases HN (a:=.list rs) (n:=n) rs [] w4 w4 hs List.nodup_nil (by rw[QB];omega)with ⟨q,y,z,h⟩|⟨q,h⟩
   .rw[QX]at q
    rw[h,q];exact Kb (UY UM wZ)
   .rw[QX]at q
    rw[h,q];exact Kj wZ
 |dict kvs=>exact UZ (b:=w5) (K9 (YF (UK wZ))) (λ_=>UY UM (Kj wZ)) (λz=>by cases z)
 |_=>exact UZ (b:=w5) (K9 (KP (UK wZ) wZ)) (λ_=>UY UM (Kj wZ)) (λz=>by cases z)
theorem jt{d:D}(hs:XA d):Vm [d]=O (fauD (Zf d)):=by
 refine KS (Z:=[pb d,w4,w4,w4,w4,w4]) wZ ?_;unfold Tt;apply Ka;cases d with
 |tuple xs=>
  by_cases hl:xs.length=2
  .obtain⟨c,l,rfl⟩:∃c l,xs=[c,l]:=by
    match xs,hl with
    |[c,l],_=>exact⟨c,l,rfl⟩
   apply UZ
   case h1=>exact Zt (Z1:=[pb (.tuple [c,l]),w4,w4,w4,w4,w4]) (KP (UK wZ) wZ) (UU (KT wZ wZ) UM Xk)
   case h2=>intro hh;cases hh
   case h3=>
    intro _;refine Ke (Kb ?_);refine U6 (XT (UK wZ) (Kz wZ (U1 (UT (Qa wZ) wZ) (U1 (UT (Qa wZ) wZ) KB)))) ?_;rw[VN];apply Ka;cases c with
    |list cs=>
     apply UZ
     case h1=>exact Zt (KP (UK wZ) wZ) (ZA (WS UM (KT wZ KR) wZ (λ_=>UM) (λ_=>rfl)))
     case h2=>
      intro hh;rw[VO]at hh;have hh:=Qa hh;refine UY (Kq (UH UM (UH UM UO)) (Qa wZ)) (Kj ?_);have:Zb (.list cs)=O (("copies" : Str),(.none:D)):=by unfold Zb;dsimp only;rw[if_neg (by omega)]
      rw[this];rfl
     case h3=>
      intro hh;rw[VO]at hh;have hh:=Q8 hh;have hl:1<=cs.length/\cs.length<=6:=by omega
      have ed:Zb (.list cs)=(match fb (U9 8) 0 cs with
       |some k=>O ("copies", .int k)
       |none=>w4):=by unfold Zb;dsimp only;rw[if_pos hl]
      refine Ke (Kb ?_);apply Ka;refine Px (xs:=cs) (U9 8) (λZ=>∃x3 x4,Z=[pb (.tuple [.list cs,l]),pb (.list cs),pb l,x3,x4,w4]) (X9 (UH (UK wZ) UO) Wc) ⟨_,_,rfl⟩ ?_ ?_
      .rintro x hx j Z hj ⟨x3,x4,rfl⟩
       refine⟨_,Kz wZ (U1 (UT (Qa wZ) wZ) (U1 (UT (Qa wZ) wZ) KB)),?_⟩;unfold MC;refine UZ (ZA (Z8 (U8 (UH (UK wZ) (UH UM UO)) wZ (SH x 8)))) (λz=>?_) λz=>?_
       .refine UY (Kq (UH UM (UH (UK wZ) UO)) (of_decide_eq_true wZ)) (NP (by simpa using z) λe=>Kj ?_)
        rw[ed,e];rfl
       .exact Ke (RQ (by simpa using z) ⟨_,_,rfl⟩)
      .rintro e Z ⟨x3,x4,rfl⟩
       rw[ed,e];dsimp only;refine Kb ?_;apply Ka;cases l with
       |list ls=>
        apply UZ
        case h1=>exact Zt (KP (UK wZ) wZ) (ZA (WS UM (KT wZ KR) wZ (λ_=>UM) (λ_=>rfl)))
        case h2=>
         intro hh;rw[VO]at hh;have hh:=Qa hh;refine UY (Kq (UH UM (UH UM UO)) (Qa wZ)) (Kj ?_);have:Zx cs.length (.list ls)=O (("lists" : Str),(.none:D)):=by unfold Zx;dsimp only;rw[if_neg (by omega)]
         rw[this];rfl
        case h3=>
         intro hh;rw[VO]at hh;have hh:=Q8 hh;have hl2:1<=ls.length/\ls.length<=7:=by omega
         have aG:Zx cs.length (.list ls)=(match fb (Zy cs.length) 0 ls with
          |some k=>O ("lists", .int k)
          |none=>w4):=by unfold Zx;dsimp only;rw[if_pos hl2]
         have hsx:=hs (.list cs) ls wZ hl2.2;refine Ke (Kb ?_);apply Ka;refine Px (xs:=ls) (Zy cs.length) (λZ=>∃x3 x5,Z=[pb (.tuple [.list cs,.list ls]),pb (.list cs),pb (.list ls),x3,x4,x5]) (X9 (UH (UK wZ) UO) Wc) ⟨_,_,rfl⟩ ?_ ?_
         .rintro x hx j Z hj ⟨x3,x5,rfl⟩
          refine⟨_,Kz wZ (U1 (UT (Qa wZ) wZ) (U1 (UT (Qa wZ) wZ) KB)),?_⟩;unfold MD;refine UZ (ZA (Z8 (U8 (UH (UK wZ) (UH (KT wZ KR) UO)) wZ (kU (n:=cs.length) (hsx x hx))))) (λz=>?_) λz=>?_
          .refine UY (Kq (UH UM (UH (UK wZ) UO)) (of_decide_eq_true wZ)) (NP (by simpa using z) λe=>Kj ?_)
           rw[aG,e];rfl
          .exact Ke (RQ (by simpa using z) ⟨_,_,rfl⟩)
         .rintro e Z ⟨x3,x5,rfl⟩
          refine Kb (UY (Kq UO (Qa wZ)) ?_);rw[aG,e];rfl
       |dict kvs=>exact UZ (b:=w5) (K9 (YF (UK wZ))) (λ_=>UY (Kq (UH UM (UH UM UO)) (Qa wZ)) (Kj wZ)) (λz=>by cases z)
       |_=>exact UZ (b:=w5) (K9 (KP (UK wZ) wZ)) (λ_=>UY (Kq (UH UM (UH UM UO)) (Qa wZ)) (Kj wZ)) (λz=>by cases z)
    |dict kvs=>exact UZ (b:=w5) (K9 (YF (UK wZ))) (λ_=>UY (Kq (UH UM (UH UM UO)) (Qa wZ)) (Kj wZ)) (λz=>by cases z)
    |_=>exact UZ (b:=w5) (K9 (KP (UK wZ) wZ)) (λ_=>UY (Kq (UH UM (UH UM UO)) (Qa wZ)) (Kj wZ)) (λz=>by cases z)
  .have hd:Zf (.tuple xs)=O (("wishes" : Str),(.none:D)):=by
    unfold Zf;split
    .rename_i h;cases h;exact absurd wZ hl
    .rfl
   apply UZ
   case h1=>exact Zt (Z1:=[pb (.tuple xs),w4,w4,w4,w4,w4]) (KP (UK wZ) wZ) (UU (KT wZ Py) UM Xk)
   case h2=>intro _;exact UY (Kq (UH UM (UH UM UO)) (Qa wZ)) (Kj (by rw[hd];rfl))
   case h3=>
    intro hh;have:(xs.length:Int)=2:=by simpa using hh
    omega
 |dict kvs=>exact UZ (b:=w5) (K9 (YF (UK wZ))) (λ_=>UY (Kq (UH UM (UH UM UO)) (Qa wZ)) (Kj wZ)) (λz=>by cases z)
 |_=>exact UZ (b:=w5) (K9 (KP (UK wZ) wZ)) (λ_=>UY (Kq (UH UM (UH UM UO)) (Qa wZ)) (Kj wZ)) (λz=>by cases z)
theorem ZT{i:Nat}{k w:Int}{s t:SM}{Z:UI}{Q:Out->Prop}(h:Z[i]?=O (O (.pub (.int w))))(hne:w≠k)(ht:Ho t Z Q):Ho (UL (sIf (Kp oEq i (UJ (.int k))) s sNx) t) Z Q:=by apply Ka;exact UZ (b:=w6) (K1 h UM (by rw[ZN,Qr hne])) (λz=>by cases z) λ_=>Ke (Kb ht)
theorem Y4{i:Nat}{k w:Int}{s t u:SM}{Z:UI}{Q:Out->Prop}(h:Z[i]?=O (O (.pub (.int w))))(he:w=k)(hs:Ho s Z (VG t Q)):Ho (UL (sIf (Kp oEq i (UJ (.int k))) s u) t) Z Q:=by apply Ka;exact UZ (b:=w5) (K1 h UM (by rw[ZN,QC he])) (λ_=>hs) λz=>by cases z
theorem P8{p:D->Bool}{x:D}(hp:p x=w6):∀{xs:w8}{k:Nat},x∈xs->∃j,fb p k xs=O j
 |[],_,h=>by cases h
 |y::r,k,h=>by
  rw[fb];cases hy:p y with
  |false=>exact⟨k,Qw (by decide)⟩
  |true=>
   rw[Qm rfl];rcases Qx.mp h with rfl|h
   .rw[hp]at hy;cases hy
   .exact P8 hp h
section
variable{cs:w9}{ls:L3}
theorem Lj(g:Good cs ls):RL [U2 cs ls]=O (U2 cs ls):=by
 have l7:=g.l7
 obtain⟨d,e,rfl⟩:=FM (P:=λd=>d=U2 cs ls) (N:=Nr) (g:=P5) (f:=Ge) (ds:=[U2 cs ls]) (Z:=[pb (U2 cs ls),w4,w4]) wZ (by
  unfold P5;refine U6 (Zs (Yn UO (Qa wZ)) (Qa wZ) wZ) ?_;apply Ka;apply YB (λi Z=>∃x2,Z=[pb (U2 cs ls),O (.own ((ls.take i).map Ks)),x2])
  case h1=>exact Zv (Kh wZ UM XM) YJ
  case h0=>exact⟨_,rfl⟩
  case hst=>
   rintro i d Z hi ⟨x2,rfl⟩;rw[Qh]at hi;cases hw:ls[i]? with
   |none=>rw[hw]at hi;cases hi
   |some rs=>
   rw[hw]at hi;cases hi;have hrs:rs.length<=5:=(g.rk rs (Qv hw)).few;refine⟨_,UT (Qa wZ) wZ,?_⟩;unfold Fn
   have hc:∀x1:Option Sl,KW (gN 3) (UJ w5) (US Ur (X6 3)) (rs.map KM) (Kf [pb (U2 cs ls),x1,pb (Ks rs)]++Uq 1 w4) []=O (rs.map KM):=λx1=>by
    refine Xq (λZ=>∃a x,Z=[pb (U2 cs ls),a,pb (Ks rs),x]) _ _ _ _ wZ ?_ ⟨_,w4,rfl⟩ (by rw[Qb,QB];omega);rintro j d e hd he Z ⟨a,x,rfl⟩;rw[hd]at he;cases he;rw[Qh]at hd;cases hwj:rs[j]? with
    |none=>rw[hwj]at hd;cases hd
    |some r=>
    rw[hwj]at hd;cases hd;exact⟨_,UT (Qa wZ) wZ,rfl,Ko (SE wZ (show Xl [KM r]=O (r.map int)from rfl)),_,_,rfl⟩
   refine KQ (WM wZ (Ko (ZS (Zv (UK wZ) YJ) (hc _))) wZ (by rw[Qb,Jg];omega) wZ) ?_;refine Yk ⟨O (.pub (Ks rs)),?_⟩;rw[List.take_succ,hw,QU];rfl
  case hend=>rintro Z ⟨x2,rfl⟩;rw[Qb,J5];exact Kb (Ke ⟨_,rfl,_,_,AB (KL (UH (Kh rfl UM RP) UO) (ZI (show Xl [.list (cs.map int)]=O (cs.map int)from rfl))) rfl,rfl⟩))
 exact e
theorem OZ(g:Good cs ls):Zb (.list (cs.map int))=w4:=by
 have h:=Ha g;unfold U2 at h;rw[VN]at h;cases hc:Zb (.list (cs.map int))with
 |none=>rfl
 |some x=>rw[hc]at h;cases h
theorem js(g:Good cs ls){xs:w8}{x:D}(hx:x∈xs)(hb:Zy cs.length x=w6):∃p n,Zf (.tuple [.list (cs.map int),.list xs])=O (p,n):=by
 rw[VN,OZ g];dsimp only;unfold Zx;dsimp only;split
 .obtain⟨j,e⟩:=P8 (p:=Zy ((cs.map int).length:Int)) (x:=x) (by rw[Qb];exact hb) (k:=0) hx
  rw[e];exact⟨_,_,rfl⟩
 .exact⟨_,_,rfl⟩
theorem MT{α:Type}{xs:List α}{k:Nat}{x:α}(h:k<xs.length):x∈xs.set k x:=List.mem_iff_getElem?.mpr ⟨k,QK h⟩
theorem NY{n k:Nat}{xs:w8}{x:D}(h:wB n (.list xs)=w5)(hx:wB n x=w5):wB n (.list (xs.set k x))=w5:=by
 obtain⟨h1,h2⟩:=XY.mp h;refine XY.mpr ⟨by rw[Q5];exact h1,λy hy=>?_⟩;rcases List.mem_or_eq_of_mem_set hy with hy|rfl
 .exact h2 y hy
 .exact hx
theorem Rr{n:Nat}{x y:D}(h:wB n x=w5)(h2:wB n y=w5)(hn:2<=n):wB n (.tuple [x,y])=w5:=Rt.mpr ⟨hn,λz hz=>by simp only[Qx,QY,or_false]at hz;rcases hz with rfl|rfl<;>assumption⟩
theorem AZ(g:Good cs ls)(c s:Int):∃r,Vr [U2 cs ls,.int c,.int s]=O r/\wB 14 r=w5/\∃p n,Zf r=O (p,n):=by
 have l7:=g.l7;have l1:=g.l1;have c6:=g.c6;have c1:=g.c1;obtain⟨w1,w2⟩:=Hb g;have w1:=Sv (by decide:7<=14) _ w1;have w2:=Sv (by decide:7<=14) _ w2;refine WL (Z:=[pb (U2 cs ls),pb (.int c),pb (.int s),w4,w4,w4,w4,w4,w4]) wZ ?_;unfold TD;obtain⟨r,hF,dg,rfl,hdl,hdb⟩:=Tj c s (sizes:=[11,42,42]) (by decide) (by decide)
 match dg,hdl with
 |[a,b,d],_=>
 obtain⟨a0,a1⟩:=hdb 0 a 11 wZ wZ;obtain⟨b0,_⟩:=hdb 1 b 42 wZ wZ;obtain⟨d0,_⟩:=hdb 2 d 42 wZ wZ;have m0:0<=b % (cs.length:Int)/\b % (cs.length:Int)<cs.length:=⟨Jl _ (by omega),Q9 _ (by omega)⟩
 have k0:0<=d % (ls.length:Int)/\d % (ls.length:Int)<ls.length:=⟨Jl _ (by omega),Q9 _ (by omega)⟩
 generalize hm:b % (cs.length:Int)=m at m0;generalize hk:d % (ls.length:Int)=k at k0
 let P0:Option Sl:=O (.pub (U2 cs ls))
 let P1:Option Sl:=O (.pub (.int c))
 let P2:Option Sl:=O (.pub (.int s))
 let P3:Option Sl:=O (.pub (.list [.int a,.int b,.int d]))
 let C:w8:=cs.map int
 let L:w8:=ls.map Ks
 have hC:C.length=cs.length:=Qb _;have hL:L.length=ls.length:=Qb _;refine U6 (Z1:=[P0,P1,P2,P3,w4,w4,w4,w4,w4]) (KI (U8 (UH (UK wZ) (UH (UK wZ) (UH (Kq (UH UM (UH UM (UH UM UO))) (Qa wZ)) UO))) wZ hF) (Qa wZ) wZ) ?_;refine U6 (Z1:=[P0,P1,P2,P3,O (.own C),O (.own L),w4,w4,w4]) (Az (U8 (UH (UK wZ) UO) wZ (Lj g)) ⟨by decide,Qa wZ,Qa wZ⟩ wZ) ?_;refine U6 (Z1:=[P0,P1,P2,P3,O (.own C),O (.own L),pb (.int a),w4,w4]) (KI (Kh wZ UM wZ) (Qa wZ) wZ) ?_;refine U6 (Z1:=[P0,P1,P2,P3,O (.own C),O (.own L),pb (.int a),pb (.int m),w4]) (KI (UU (Kh wZ UM wZ) (Po wZ) (by rw[hC,YX (by omega),hm])) (Qa wZ) wZ) ?_;refine U6 (Z1:=[P0,P1,P2,P3,O (.own C),O (.own L),pb (.int a),pb (.int m),pb (.int k)]) (KI (UU (Kh wZ UM wZ) (Po wZ) (by rw[hL,YX (by omega),hk])) (Qa wZ) wZ) ?_;have wi:∀i:Int,wB 14 (.int i)=w5:=λ_=>rfl;have wt:∀i:Int,wB 14 (.list [.int i])=w5:=λ_=>by kernel_rfl
 have fin:∀{x:D},wB 14 (.list L)=w5->wB 14 x=w5->Zy cs.length x=w6->wB 14 (.tuple [.list C,.list (L.set k.toNat x)])=w5/\∃p n,Zf (.tuple [.list C,.list (L.set k.toNat x)])=O (p,n):=λ{x} h1 h2 h3=>
  ⟨Rr w1 (NY h1 h2) (by decide),js g (MT (by rw[hL];omega)) h3⟩
 have cases11:a=0∨a=1∨a=2∨a=3∨a=4∨a=5∨a=6∨a=7∨a=8∨a=9∨a=10:=by omega
 rcases cases11 with rfl|rfl|rfl|rfl|rfl|rfl|rfl|rfl|rfl|rfl|rfl
 .refine Y4 wZ wZ (UY (Kq (UH (KU wZ wZ) (UH (KU wZ wZ) UO)) (Qa wZ)) (Kj ⟨_,rfl,XY.mpr ⟨Qa wZ,λz hz=>?_⟩,_,_,rfl⟩))
  simp only[Qx,QY,or_false]at hz;rcases hz with rfl|rfl<;>assumption
 .refine ZT wZ (by decide) (Y4 wZ wZ (UY (ZK (UH (KU wZ wZ) (UH (KU wZ wZ) (UH (Kq UO (Qa wZ)) UO))) (Qa wZ)) (Kj ⟨_,rfl,Rt.mpr ⟨Qa wZ,λz hz=>?_⟩,_,_,rfl⟩)))
  simp only[Qx,QY,or_false]at hz;rcases hz with rfl|rfl|rfl
  .exact w1
  .exact w2
  .rfl
 .let X:w8:=[.none,.str "wishes", .int 3,.list C,.tuple [.list [],.list []],.tuple [.list C]]
  obtain⟨x,yZ,hx⟩:=ixS (xs:=X) (n:=6) (i:=b % 6) (Jl _ (by decide)) (Q9 _ (by decide)) wZ;refine ZT wZ (by decide) (ZT wZ (by decide) (Y4 wZ wZ (UY (UU (Kq (UH UM (UH UM (UH UM (UH (KU wZ wZ) (UH (ZK (UH (Kq UO (Qa wZ)) (UH (Kq UO (Qa wZ)) UO)) (Qa wZ)) (UH (ZK (UH (UK wZ) UO) (Qa wZ)) UO)))))) (Qa wZ)) (UU (Kh wZ UM wZ) UM (YX (by decide))) hx) (Kj ⟨_,rfl,?_⟩))));simp only[X,Qx,QY,or_false]at yZ;rcases yZ with rfl|rfl|rfl|rfl|rfl|rfl
  .exact⟨rfl,_,_,rfl⟩
  .exact⟨rfl,_,_,rfl⟩
  .exact⟨rfl,_,_,rfl⟩
  .exact⟨w1,_,_,rfl⟩
  .exact⟨by kernel_rfl,_,_,rfl⟩
  .exact⟨Rt.mpr ⟨Qa wZ,λz hz=>by rw[QO.mp hz];exact w1⟩,_,_,rfl⟩
 .let X:w8:=[.int (-1),.int 8,.bool w5,.none,.str "1", .int (10 ^ (40:Int).toNat)]
  obtain⟨x,yZ,hx⟩:=ixS (xs:=X) (n:=6) (i:=d % 6) (Jl _ (by decide)) (Q9 _ (by decide)) wZ
  have hxx:wB 14 x=w5/\U9 8 x=w6:=by
   simp only[X,Qx,QY,or_false]at yZ;rcases yZ with rfl|rfl|rfl|rfl|rfl|rfl
   all_goals first|exact⟨rfl,rfl⟩|exact⟨rfl,by kernel_rfl⟩
  refine ZT wZ (by decide) (ZT wZ (by decide) (ZT wZ (by decide) (Y4 wZ wZ (KQ (V9 (UU (Kq (UH (WN UM) (UH UM (UH UM (UH UM (UH UM (UH (UU UM UM (Pt (by decide))) UO)))))) (Qa wZ)) (UU (Kh wZ UM wZ) UM (YX (by decide))) hx) wZ (UK wZ) wZ ⟨m0.1,by rw[hC];exact m0.2⟩ wZ) (Kb ?_)))))
  repeat (refine ZT wZ (by decide) ?_)
  refine UY (ZK (UH (KU wZ wZ) (UH (KU wZ wZ) UO)) (Qa wZ)) ⟨_,rfl,Rr (NY w1 hxx.1) w2 (by decide),?_⟩;rw[VN]
  have:∃p n,Zb (.list (C.set m.toNat x))=O (p,n):=by
   unfold Zb;dsimp only;split
   .obtain⟨j,e⟩:=P8 (p:=U9 8) (x:=x) hxx.2 (k:=0) (MT (xs:=C) (k:=m.toNat) (by rw[hC];omega))
    rw[e];exact⟨_,_,rfl⟩
   .exact⟨_,_,rfl⟩
  obtain⟨p,n,e⟩:=this;rw[e];exact⟨_,_,rfl⟩
 .repeat (refine ZT wZ (by decide) ?_)
  refine Y4 wZ wZ (KQ (Zs (Yn UO (Qa wZ)) (Qa wZ) wZ) (Kb ?_))
  repeat (refine ZT wZ (by decide) ?_)
  exact UY (ZK (UH (KU wZ wZ) (UH (KU wZ wZ) UO)) (Qa wZ)) ⟨_,rfl,Rr wZ w2 (by decide),_,_,rfl⟩
 .repeat (refine ZT wZ (by decide) ?_)
  refine Y4 wZ wZ (KQ (Zs (Yn UO (Qa wZ)) (Qa wZ) wZ) (Kb ?_))
  repeat (refine ZT wZ (by decide) ?_)
  refine UY (ZK (UH (KU wZ wZ) (UH (KU wZ wZ) UO)) (Qa wZ)) ⟨_,rfl,Rr w1 wZ (by decide),?_⟩;rw[VN,OZ g];exact⟨_,_,rfl⟩
 .repeat (refine ZT wZ (by decide) ?_)
  refine Y4 wZ wZ (KQ (V9 (Kq (UH (Kq (UH (Po wZ) UO) (Qa wZ)) UO) (Qa wZ)) wZ (UK wZ) wZ ⟨k0.1,by rw[hL];exact k0.2⟩ wZ) (Kb ?_))
  repeat (refine ZT wZ (by decide) ?_)
  refine UY (ZK (UH (KU wZ wZ) (UH (KU wZ wZ) UO)) (Qa wZ)) ⟨_,rfl,fin w2 (by kernel_rfl) ?_⟩;rw[hC,WW]
  have:rkB cs.length (.list [.int (cs.length:Int)])=w6:=by
   show([int (cs.length:Int)].all (U9 cs.length))=w6
   rw[Jh]
   have:U9 cs.length (.int (cs.length:Int))=w6:=by
    show(decide (0<=(cs.length:Int))&&decide ((cs.length:Int)<cs.length))=w6
    rw[Qr (by omega:¬(cs.length:Int)<cs.length),Jp]
   rw[this];rfl
  rw[Jh,this];rfl
 .repeat (refine ZT wZ (by decide) ?_)
  refine Y4 wZ wZ (KQ (V9 (Kq (UH (Kq (UH (UK wZ) UO) (Qa wZ)) (UH (Kq (UH (UK wZ) UO) (Qa wZ)) UO)) (Qa wZ)) wZ (UK wZ) wZ ⟨k0.1,by rw[hL];exact k0.2⟩ wZ) (Kb ?_))
  repeat (refine ZT wZ (by decide) ?_)
  refine UY (ZK (UH (KU wZ wZ) (UH (KU wZ wZ) UO)) (Qa wZ)) ⟨_,rfl,fin w2 (by kernel_rfl) ?_⟩;rw[WW];have:flI [.list [.int m],.list [.int m]]=[m,m]:=rfl;rw[this,decide_eq_false (p:=[m,m].Nodup) (by simp),Bool.and_false,Bool.and_false]
 .repeat (refine ZT wZ (by decide) ?_)
  refine Y4 wZ wZ (KQ (V9 (Kq (UH (Kq (UH (UK wZ) UO) (Qa wZ)) (UH (Kq UO (Qa wZ)) UO)) (Qa wZ)) wZ (UK wZ) wZ ⟨k0.1,by rw[hL];exact k0.2⟩ wZ) (Kb ?_))
  repeat (refine ZT wZ (by decide) ?_)
  refine UY (ZK (UH (KU wZ wZ) (UH (KU wZ wZ) UO)) (Qa wZ)) ⟨_,rfl,fin w2 (by kernel_rfl) ?_⟩;rw[WW];have:([.list [.int m],.list []]:w8).all (rkB cs.length)=w6:=by rw[Jh,Jh,show rkB cs.length (.list [])=w6 from rfl,JT,Jp]
  rw[this,JT,Jp]
 .repeat (refine ZT wZ (by decide) ?_)
  refine Y4 wZ wZ (KQ (V9 (Kq (UH (ZK (UH (UK wZ) UO) (Qa wZ)) UO) (Qa wZ)) wZ (UK wZ) wZ ⟨k0.1,by rw[hL];exact k0.2⟩ wZ) (Kb ?_))
  repeat (refine ZT wZ (by decide) ?_)
  exact UY (ZK (UH (KU wZ wZ) (UH (KU wZ wZ) UO)) (Qa wZ)) ⟨_,rfl,fin w2 (by kernel_rfl) wZ⟩
 .repeat (refine ZT wZ (by decide) ?_)
  have em:Kn (.list [.list []]) (.int 7)=O (.list (Uq 7 (.list []))):=by kernel_rfl
  refine Y4 wZ wZ (KQ (KI (UU (KU wZ wZ) (UU (Kq (UH (Kq UO (Qa wZ)) UO) (Qa wZ)) UM em) (Yu (by rw[hL,Qu];omega))) (Qa wZ) wZ) (Kb ?_));refine UY (ZK (UH (KU wZ wZ) (UH (UK wZ) UO)) (Qa wZ)) ⟨_,rfl,Rr w1 (XY.mpr ⟨by rw[Qi,hL,Qu];omega,λz hz=>?_⟩) (by decide),?_⟩
  .rcases QS.mp hz with hz|hz
   .exact(XY.mp w2).2 z hz
   .rw[(Ju.mp hz).2];rfl
  .rw[VN,OZ g]
   dsimp only;unfold Zx;dsimp only;rw[Qw (by rw[Qi,hL,Qu];omega)];exact⟨_,_,rfl⟩
end
section
variable{i:Nat}{x1 x2:Str}{h1 h2 g:SM}{Z Z1 Z2 Z':UI}{d:D}{ds yK:w8}
theorem AY(e:g Z=.nx Z1):WF i x1 h1 x2 h2 g Z=.nx Z1:=by unfold WF;rw[e]
theorem AX(e:g Z=.ex Z1 d)(u:Xi x1 d=w5)(hi:i<Z1.length)(h:h1 (Z1.set i (O (.pub d)))=.nx Z2)(e2:Z2.set i w4=Z'):WF i x1 h1 x2 h2 g Z=.nx Z':=by unfold WF;rw[e];dsimp only;rw[if_pos ⟨.inl u,hi⟩,if_pos u,h];subst e2;rfl
theorem AW(e:g Z=.ex Z1 d)(u1:Xi x1 d=w6)(u:Xi x2 d=w5)(hi:i<Z1.length)(h:h2 (Z1.set i (O (.pub d)))=.nx Z2)(e2:Z2.set i w4=Z'):WF i x1 h1 x2 h2 g Z=.nx Z':=by unfold WF;rw[e];dsimp only;rw[if_pos ⟨.inr u,hi⟩,if_neg (by rw[u1];decide),h];subst e2;rfl
theorem AV{f:M XR}(h0:Z[i]?=O (O (.own yK)))(e:f Z=.ok (.val d) Z1)(h3:Z1[i]?=O (O (.own ds)))(hl:ds.length<1000000)(h4:Z1.set i (O (.own (ds++[d])))=Z'):VT i f Z=.nx Z':=by unfold VT;rw[h0];dsimp only;rw[e];dsimp only;rw[h3];dsimp only;rw[if_pos hl,h4]
theorem Li{f:M XR}(h0:Z[i]?=O (O (.own yK)))(e:f Z=.ok (.exc d) Z1):VT i f Z=.ex Z1 d:=by unfold VT;rw[h0];dsimp only;rw[e]
end
theorem kT{d:D}{p:Str}{n:D}{g:SM}{Z:UI}(hs:XA d)(h:Zf d=O (p,n))(h0:Z[0]?=O (O (.pub d))):Ho (UL (sX (Zd 1 Wd (UF (UE 0) (UG))) λ_ Z=>.nx Z) g) Z (XB (.exc (exD "NoWishes" [.str p,n]))):=by have hx:=MP hs;rw[h]at hx;apply Ka;exact KQ (VD (YG (UH (UK h0) UO) wZ hx)) (YE ⟨rfl,rfl⟩)
theorem DX{d a:D}{p:Str}{n:D}(hs:XA d)(h:Zf d=O (p,n)):ZX [d,a]=O (.exc (exD "NoWishes" [.str p,n])):=
 XN (Z:=[pb d,pb a,w4,w4,w4,w4,w4]) wZ (kT hs h wZ)
theorem PP{d a E:D}{g:SM}{Z:UI}(h:ZX [d,a]=O (.exc E))(hE:Y0 E=w5)(h0:Z[0]?=O (O (.pub d)))(h1:Z[1]?=O (O (.pub a))):Ho (UL (sX (Zd 2 ZX (UF (UE 0) (UF (UE 1) (UG)))) λ_ Z=>.nx Z) g) Z (XB (.exc E)):=by apply Ka;exact KQ (VD (YG (UH (UK h0) (UH (UK h1) UO)) wZ h)) (YE ⟨rfl,hE⟩)
theorem AU{d:D}{p:Str}{n:D}(h:Zf d=O (p,n)):PyData.canLay0 (.tuple [.str p,n])=w5/\Uw (.tuple [.str p,n])<=60:=by
 have key:(p = "wishes" ∨ p = "copies" ∨ p = "lists")/\(n=.none ∨ ∃k:Nat,n=.int k):=by
  unfold Zf at h;split at h
  .split at h
   .split at h
    .split at h
     .cases h;exact⟨.inr (.inl wZ),.inr ⟨_,rfl⟩⟩
     .split at h
      .split at h
       .split at h
        .cases h;exact⟨.inr (.inr wZ),.inr ⟨_,rfl⟩⟩
        .cases h
       .cases h;exact⟨.inr (.inr wZ),.inl wZ⟩
      .cases h;exact⟨.inr (.inr wZ),.inl wZ⟩
    .cases h;exact⟨.inr (.inl wZ),.inl wZ⟩
   .cases h;exact⟨.inr (.inl wZ),.inl wZ⟩
  .cases h;exact⟨.inl wZ,.inl wZ⟩
 obtain⟨rfl|rfl|rfl,rfl|⟨k,rfl⟩⟩:=key<;>exact⟨by kernel_rfl,by simp[Uw,PyData.depthAll]⟩
theorem jP:Zo Wr RN:=Xo (ZM (WK WY Yb) (MJ (WK WY Yb)))
theorem AT:Zo Wq RO:=Xo (ZM (WK WY Yb) (MJ (WK WY Yb)))
theorem OY:Zo Yh Wd:=Xo (ZM (WK WY Yb) (ZM Yb (ZM (YD jP) (YD AT))))
theorem Lh:Zo Vy VS:=Xo (WK WY Yb)
theorem Rq:Zo XH ZX:=Xo (ZM (YD OY) (ZM (WK WY Yb) (ZM Yb (ZM Yb (ZM (YD Lh) (ZM (WK WY Yb) (WK WY Yb)))))))
theorem HM:Zo Yg SI:=Xo (ZM (YD OY) Yb)
theorem Ed:Zo XJ P6:=Xo (ZM (YD OY) Yb)
theorem jO:Zo Sb P7:=Xo (ZM (YD Lh) Yb)
theorem OQ:Zo Vx WU:=Xo (ZM (YD Rq) (ZM Yb (ZM (YD Ed) Yb)))
theorem jN:Zo Sa SQ:=Xo (ZM (YD OQ) (ZM (YD OQ) (ZM (YD jO) Yb)))
theorem jM:Zo F_bc SR:=Xo (ZM (YD Rq) (ZM (YD HM) Yb))
theorem AS:Zo F_bd SJ:=Xo (ZM (YD Rq) (ZM (YD HM) Yb))
theorem DW:Zo T9 SO:=Xo (ZM (YD Rq) Yb)
section
variable{cs:w9}{ls:L3}{ws us vs:LO}{o:Ord}{old:yj}{ts:w9}{ns:w9}
theorem jL:(Sr ls old ts ws).canLay0=w5:=WX λx hx=>by
 have hx:x=.list ((Zi (lng ls) (KD ls ws)).map int)∨x=.int (YT old ws:Nat)∨x=.list ((ts.map (rgA ls ws)).map int):=by simpa using hx
 rcases hx with rfl|rfl|rfl
 .exact Pw _
 .rfl
 .exact Pw _
theorem jK:(Sr ls old ts ws).depth<=20:=by
 have h:PyData.depthAll [.list ((Zi (lng ls) (KD ls ws)).map int),.int (YT old ws:Nat),.list ((ts.map (rgA ls ws)).map int)]<=2:=Tg λx hx=>by
  have hx:x=.list ((Zi (lng ls) (KD ls ws)).map int)∨x=.int (YT old ws:Nat)∨x=.list ((ts.map (rgA ls ws)).map int):=by simpa using hx
  have hi:∀l:w9,(Ur (l.map int)).depth<=2:=λl=>by
   have h1:PyData.depthAll (l.map int)<=1:=Tg λy hy=>by obtain⟨z,_,rfl⟩:=Qz.mp hy;simp[Uw]
   have:=Sw h1;omega
  rcases hx with rfl|rfl|rfl
  .exact hi _
  .simp[Uw]
  .exact hi _
 have:=Sw h;have e:(Sr ls old ts ws).depth=(Ur [.list ((Zi (lng ls) (KD ls ws)).map int),.int (YT old ws:Nat),.list ((ts.map (rgA ls ws)).map int)]).depth:=by simp[Sr,Uw]
 omega
theorem wO(g:Good cs ls)(ga:Xn cs.length ls.length old ts){i:Nat}{rs:List w9}(hi:ls[i]?=O rs)(t:Int):T9 [U2 cs ls,Kt o old ts,.int i,.int t]=O (.int (YM ls o old ts i rs t)):=by refine KS (Z:=[pb (U2 cs ls),pb (Kt o old ts),pb (.int i),pb (.int t)]) wZ ?_;unfold g_bb;refine U6 (XZ (U8 (UH (UK wZ) (UH (UK wZ) UO)) wZ (Rn g ga))) ?_;exact UY (U8 (UH (UK wZ) (UH (UK wZ) (UH (U8 (UH (UK wZ) UO) wZ (PV g)) (UH (UK wZ) (UH (UK wZ) UO))))) wZ (Nj g ga hi t)) wZ
theorem jJ(V:Int->Int->Int)(qs:LP):(Ur (qs.map (Vz V))).canLay0=w5:=WX λx hx=>by obtain⟨q,_,rfl⟩:=Qz.mp hx;rfl
theorem jI(V:Int->Int->Int)(qs:LP):(Ur (qs.map (Vz V))).depth<=20:=by
 have h:PyData.depthAll (qs.map (Vz V))<=5:=Tg λx hx=>by obtain⟨q,_,rfl⟩:=Qz.mp hx;unfold Vz;simp[Uw,PyData.depthAll]
 have:=Sw h;omega
end
section
variable{d a E pr:D}{ws:LO}
theorem L9{w:D}(h:ZX [d,a]=O (.exc E))(hE:Y0 E=w5):WU [d,a,w]=O (.exc E):=
 XN (Z:=[pb d,pb a,pb w,w4,w4,w4,w4]) wZ (PP h hE wZ wZ)
theorem kS{w u:D}(h:ZX [d,a]=O (.exc E))(hE:Y0 E=w5):SQ [d,a,w,u]=O (.exc E):=by refine XN (Z:=[pb d,pb a,pb w,pb u,w4,w4,w4,w4,w4,w4,w4]) wZ ?_;unfold Nt;apply Ka;exact KQ (VD (YG (UH (UK wZ) (UH (UK wZ) (UH (UK wZ) UO))) wZ (L9 h hE))) (YE ⟨rfl,hE⟩)
theorem kR(h:ZX [d,a]=O (.exc E))(hE:Y0 E=w5):SR [d,a]=O (.exc E):=
 XN (Z:=[pb d,pb a,w4]) wZ (PP h hE wZ wZ)
theorem jH{w:D}(h:ZX [d,a]=O (.exc E))(hE:Y0 E=w5):SJ [d,a,w]=O (.exc E):=
 XN (Z:=[pb d,pb a,pb w,w4]) wZ (PP h hE wZ wZ)
theorem AR{w u:D}(h:ZX [d,a]=O (.exc E))(hE:Y0 E=w5):SO [d,a,w,u]=O (.exc E):=
 XN (Z:=[pb d,pb a,pb w,pb u]) wZ (PP h hE wZ wZ)
def R7(pr:D):Prop:=pr=.none ∨ ∃i t:Int,pr=.tuple [.int i,.int t]
theorem DV(n:Nat)(h:n<=100):Kn (.list [.none]) (.int n)=O (.list (Uq n .none)):=by
 rw[PX ⟨by omega,by omega,by show 1*_<=_;omega⟩]
 congr 2
 have:∀m:Nat,(Uq m [PyData.none]).flatten=Uq m PyData.none:=λm=>by
  induction m with
  |zero=>rfl
  |succ m ih=>rw[QT,QG,ih];rfl
 exact this n
theorem NX{k:Int}{r:XR}(hw:ws.length<=100)(hp:R7 pr)(hE:∀E,r=.exc E->Y0 E=w5)
  (h0:k=0->WU [d,a,Kr ws]=O r) (h1:k=1->SQ [d,a,Kr ws,.list (Uq ws.length .none)]=O r) (h2:k=2->SR [d,a]=O r) (h3:k=3->SJ [d,a,Kr ws]=O r)
  (h4:k=4->∀i t:Int,pr=.tuple [.int i,.int t]->SO [d,a,.int i,.int t]=O r) (h5:(k≠0/\k≠1/\k≠2/\k≠3/\(k=4->pr=.none))->ZX [d,a]=O r):WB [.int k,d,a,pr,Kr ws]=O r:=by
 refine XN (Z:=[pb (.int k),pb d,pb a,pb pr,pb (Kr ws)]) wZ ?_;unfold Nw;have zy:Xl [Kr ws]=O (ws.map Kg):=rfl
 have step:∀{n:Nat}{F:w8->Option XR}{g:M w8}{xs:w8}{Z Z1:UI},g Z=.ok xs Z1->xs.length=n->F xs=O r->Ho (sX (Zd n F g) λd _=>.rt d) Z (XB r):=λ{n F g xs Z Z1} e1 e2 e3=>by
  cases hr:r with
  |val v=>subst hr;exact KQ (Sj (YG e1 e2 e3) wZ) wZ
  |exc E'=>subst hr;exact KQ (VD (YG e1 e2 e3)) ⟨rfl,hE _ wZ⟩
 have step2:∀{n:Nat}{F:w8->Option XR}{g:M w8}{xs:w8}{Z Z1:UI}{t:SM},g Z=.ok xs Z1->xs.length=n->F xs=O r->Ho (sX (Zd n F g) λd _=>.rt d) Z (VG t (XB r)):=λ{n F g xs Z Z1 t} e1 e2 e3=>by
  cases hr:r with
  |val v=>subst hr;exact KQ (Sj (YG e1 e2 e3) wZ) (Kj wZ)
  |exc E'=>subst hr;exact KQ (VD (YG e1 e2 e3)) (YE ⟨rfl,hE _ wZ⟩)
 by_cases z0:k=0
 .exact Y4 wZ z0 (step2 (UH (UK wZ) (UH (UK wZ) (UH (Ko (SE wZ zy)) UO))) wZ (h0 z0))
 refine ZT wZ z0 ?_;by_cases z1:k=1
 .refine Y4 wZ z1 (step2 (UH (UK wZ) (UH (UK wZ) (UH (Ko (SE wZ zy)) (UH (UU (Kq (UH UM UO) (Qa wZ)) (KT wZ (show U7 [Kr ws]=O (.int ws.length)by unfold Kr;rw[KR,Qb])) (DV ws.length hw)) UO)))) wZ (h1 z1))
 refine ZT wZ z1 ?_;by_cases z2:k=2
 .exact Y4 wZ z2 (step2 (UH (UK wZ) (UH (UK wZ) UO)) wZ (h2 z2))
 refine ZT wZ z2 ?_;by_cases z3:k=3
 .exact Y4 wZ z3 (step2 (UH (UK wZ) (UH (UK wZ) (UH (Ko (SE wZ zy)) UO))) wZ (h3 z3))
 refine ZT wZ z3 ?_;apply Ka;by_cases z4:k=4
 .rcases hp with rfl|⟨i,t,rfl⟩
  .refine UZ (b:=w6) (Z1:=[pb (.int k),pb d,pb a,O (.pub .none),pb (Kr ws)]) (Ps (K1 wZ UM (by rw[ZN,QC z4])) (Sc (UK wZ) wZ)) (λz=>by cases z) λ_=>Ke (Kb ?_)
   exact step (UH (UK wZ) (UH (UK wZ) UO)) wZ (h5 ⟨z0,z1,z2,z3,λ_=>rfl⟩)
  .refine UZ (b:=w5) (Z1:=[pb (.int k),pb d,pb a,pb (.tuple [.int i,.int t]),pb (Kr ws)]) (Ps (K1 wZ UM (by rw[ZN,QC z4])) (Sc (UK wZ) wZ)) (λ_=>?_) λz=>by cases z
   exact step2 (UH (UK wZ) (UH (UK wZ) (UH (Kh wZ UM wZ) (UH (Kh wZ UM wZ) UO)))) wZ (h4 z4 i t wZ)
 .refine UZ (b:=w6) (Z1:=[pb (.int k),pb d,pb a,pb pr,pb (Kr ws)]) (OE (K1 wZ UM (by rw[ZN,Qr z4]))) (λz=>by cases z) λ_=>Ke (Kb ?_)
  exact step (UH (UK wZ) (UH (UK wZ) UO)) wZ (h5 ⟨z0,z1,z2,z3,λz=>absurd z z4⟩)
theorem Mt{k:Int}(hw:ws.length<=100)(hp:R7 pr)(h:ZX [d,a]=O (.exc E))(hE:Y0 E=w5):WB [.int k,d,a,pr,Kr ws]=O (.exc E):=
 NX hw hp (λE' e=>by cases e;exact hE) (λ_=>L9 h hE) (λ_=>kS h hE) (λ_=>kR h hE) (λ_=>jH h hE) (λ_ i t _=>AR h hE) (λ_=>h)
theorem AQ{k:Int}{v:D}(h:WB [.int k,d,a,pr,Kr ws]=O (.val v)):ZZ [.int k,d,a,pr,Kr ws]=O (.list [.str "let", v]):=by refine KS (Z:=[pb (.int k),pb d,pb a,pb pr,pb (Kr ws),w4,w4]) wZ ?_;unfold Wi;refine U6 (Zs (Yn (UH UM UO) (Qa wZ)) (Qa wZ) wZ) ?_;refine U6 (AY (AV wZ (YG (UH (UK wZ) (UH (UK wZ) (UH (UK wZ) (UH (UK wZ) (UH (UK wZ) UO))))) wZ h) wZ (Qa wZ) wZ)) ?_;exact UY (KU wZ wZ) wZ
theorem qk{k:Int}{p:Str}(h:WB [.int k,d,a,pr,Kr ws]=O (.exc (exD "NoAim" [.str p]))):ZZ [.int k,d,a,pr,Kr ws]=O (.list [.str "aim", .str p]):=by refine KS (Z:=[pb (.int k),pb d,pb a,pb pr,pb (Kr ws),w4,w4]) wZ ?_;unfold Wi;refine U6 (Zs (Yn (UH UM UO) (Qa wZ)) (Qa wZ) wZ) ?_;refine U6 (AX (Li wZ (YG (UH (UK wZ) (UH (UK wZ) (UH (UK wZ) (UH (UK wZ) (UH (UK wZ) UO))))) wZ h)) wZ (Qa wZ) (Zs (Yn (UH UM (UH (KL (UK wZ) (ZI wZ)) UO)) (Qa wZ)) (Qa wZ) wZ) wZ) ?_;exact UY (KU wZ wZ) wZ
theorem qi{k:Int}{p:Str}{n:D}(h:WB [.int k,d,a,pr,Kr ws]=O (.exc (exD "NoWishes" [.str p,n]))):ZZ [.int k,d,a,pr,Kr ws]=O (.list [.str "wishes", .str p,n]):=by refine KS (Z:=[pb (.int k),pb d,pb a,pb pr,pb (Kr ws),w4,w4]) wZ ?_;unfold Wi;refine U6 (Zs (Yn (UH UM UO) (Qa wZ)) (Qa wZ) wZ) ?_;refine U6 (AW (Li wZ (YG (UH (UK wZ) (UH (UK wZ) (UH (UK wZ) (UH (UK wZ) (UH (UK wZ) UO))))) wZ h)) wZ wZ (Qa wZ) (Zs (Yn (UH UM (UH (KL (UK wZ) (ZI wZ)) (UH (KL (UK wZ) (ZI wZ)) UO))) (Qa wZ)) (Qa wZ) wZ) wZ) ?_;exact UY (KU wZ wZ) wZ
end
def SmV(v:D):Prop:=v.canLay0=w5/\v.depth<=20
theorem Ms(i:Int):SmV (.int i):=⟨rfl,by simp[Uw]⟩
theorem OG{d:D}(h1:d.canLay0=w5)(h2:d.depth<=60):oNe d d=O w6:=by unfold oNe;rw[Qm ⟨h1,h1,h2⟩];show O (!Ux d d)=_;rw[Lw _ h1];rfl
theorem Ec{v:D}(h:SmV v):oNe (.list [.str "let", v]) (.list [.str "let", v])=O w6:=by
 refine OG (WX λx hx=>?_) ?_
 .simp only[Qx,QY,or_false]at hx
  rcases hx with rfl|rfl
  .kernel_rfl
  .exact h.1
 .have:=Sw (n:=20) (xs:=[.str "let", v]) (Tg λx hx=>by
   simp only[Qx,QY,or_false]at hx;rcases hx with rfl|rfl
   .simp[Uw]
   .exact h.2)
  omega
section
variable{cs:w9}{ls:L3}{ws:LO}{o:Ord}{old:yj}{ts:w9}
theorem DU(g:Good cs ls)(ga:Xn cs.length ls.length old ts)(dl:Deal cs ls ws){pr:D}(hp:pr=.none ∨ ∃i t,pr=.tuple [.int i,.int t]/\(i,t)∈Kv 0 ls)(k:Int):∃v,SmV v/\WB [.int k,U2 cs ls,Kt o old ts,pr,Kr ws]=O (.val v):=by
 have l7:=g.l7;have hl:=dl.len;have hn:(Uq ws.length (none:yg)).length=ls.length:=by rw[Qu];exact hl
 have en:Ur (Uq ws.length .none)=Kr (Uq ws.length w4):=by unfold Kr;rw[JY];rfl
 have zX:R7 pr:=by
  rcases hp with h|⟨i,t,h,_⟩
  .exact .inl h
  .exact .inr ⟨i,t,h⟩
 have go:∀v,(k=0->Sr ls old ts ws=v)->(k=1->Sa [U2 cs ls,Kt o old ts,Kr ws,Kr (Uq ws.length w4)]=O v)->(k=2->Ur ((Kv 0 ls).map (Vz (We ls o old ts)))=v)->(k=3->int (sumO (YR (YM ls o old ts) 0 ls ws))=v) ->
   (k=4->∀i t:Int,pr=.tuple [.int i,.int t]->T9 [U2 cs ls,Kt o old ts,.int i,.int t]=O v)->((k≠0/\k≠1/\k≠2/\k≠3/\(k=4->pr=.none))->PyData.none=v)->WB [.int k,U2 cs ls,Kt o old ts,pr,Kr ws]=O (.val v):=λv h0 h1 h2 h3 h4 h5=>by
  refine NX (by omega) zX (λE e=>by cases e) (λz=>?_) (λz=>?_) (λz=>?_) (λz=>?_) (λz i t e=>?_) (λz=>?_)
  .rw[←h0 z];exact OQ _ _ (OV g hl ga)
  .rw[en];exact jN _ _ (h1 z)
  .rw[←h2 z];exact jM _ _ (wm g ga)
  .rw[←h3 z];exact AS _ _ (vI g ga hl)
  .exact DW _ _ (h4 z i t e)
  .rw[←h5 z];exact Rq _ _ (Rn g ga)
 by_cases z0:k=0
 .exact⟨_,⟨jL,jK⟩,go _ (λ_=>rfl) (λz=>by omega) (λz=>by omega) (λz=>by omega) (λz=>by omega) (λz=>absurd z0 z.1)⟩
 by_cases z1:k=1
 .exact⟨.bool _,⟨rfl,by simp[Uw]⟩,go _ (λz=>by omega) (λ_=>jA g hl hn ga) (λz=>by omega) (λz=>by omega) (λz=>by omega) (λz=>absurd z1 z.2.1)⟩
 by_cases z2:k=2
 .exact⟨_,⟨jJ _ _,jI _ _⟩,go _ (λz=>by omega) (λz=>by omega) (λ_=>rfl) (λz=>by omega) (λz=>by omega) (λz=>absurd z2 z.2.2.1)⟩
 by_cases z3:k=3
 .exact⟨_,Ms _,go _ (λz=>by omega) (λz=>by omega) (λz=>by omega) (λ_=>rfl) (λz=>by omega) (λz=>absurd z3 z.2.2.2.1)⟩
 by_cases z4:k=4/\pr≠.none
 .rcases hp with h|⟨i,t,rfl,hm⟩
  .exact absurd h z4.2
  .obtain⟨j,rs,hj,e1,_⟩:=SA hm
   dsimp only at e1;rw[JB]at e1;subst e1;exact⟨_,Ms _,go _ (λz=>by omega) (λz=>by omega) (λz=>by omega) (λz=>by omega) (λ_ i' t' e=>by cases e;exact wO g ga hj t) (λz=>by cases z.2.2.2.2 z4.1)⟩
 .refine⟨.none,⟨rfl,by simp[Uw]⟩,go _ (λz=>by omega) (λz=>by omega) (λz=>by omega) (λz=>by omega) (λz i t e=>?_) (λ_=>rfl)⟩
  exact absurd ⟨z,λe'=>by rw[e]at e';cases e'⟩ z4
end
theorem qh{n m:Nat}{d:D}{p:Str}(h:ZL n m d=O p):Uu p=w5:=by obtain⟨p1,_,_⟩:=DY (n:=n) (m:=m) d;rw[h]at p1;exact p1
theorem qg:∀ns:w9,ns.length<=63->Vl [.list (ns.map int)]=O (.bool w5):=by
 intro ns hns;refine KS (Z:=[pb (.list (ns.map int)),w4,w4,w4,w4,w4,w4,w4,w4,w4,w4,w4]) wZ ?_;unfold Ts;obtain⟨r,hr,cs,ls,rfl,g,_⟩:=vQ 4 5 3 (ns:=ns) (by omega) 1;have l7:=g.l7;have c6:=g.c6
 let S0:Option Sl:=O (.pub (.list (ns.map int)))
 let S1:Option Sl:=O (.pub (U2 cs ls))
 refine U6 (Z1:=[S0,S1,w4,w4,w4,w4,w4,w4,w4,w4,w4,w4]) (KI (U8 (UH (UK wZ) (UH UM (UH UM (UH UM (UH UM UO))))) wZ hr) (Qa wZ) wZ) ?_;obtain⟨v,hv⟩:=RK ns 0 (by omega);obtain⟨r,ha,o,old,ts,rfl,ga⟩:=qb g v 5
 let S2:Option Sl:=O (.pub (Kt o old ts))
 refine U6 (Z1:=[S0,S1,S2,w4,w4,w4,w4,w4,w4,w4,w4,w4]) (KI (U8 (UH (UK wZ) (UH (U8 (UH (UK wZ) (UH UM UO)) wZ hv) (UH UM UO))) wZ ha) (Qa wZ) wZ) ?_;obtain⟨v3,hv3⟩:=RK ns 3 (by omega);obtain⟨r,hd,ws,rfl,dl⟩:=kZ g v3 2;have hw:ws.length<=100:=by have:=dl.len;omega
 let S3:Option Sl:=O (.pub (Kr ws))
 refine U6 (Z1:=[S0,S1,S2,S3,w4,w4,w4,w4,w4,w4,w4,w4]) (KI (U8 (UH (UK wZ) (UH (U8 (UH (UK wZ) (UH UM UO)) wZ hv3) (UH UM UO))) wZ hd) (Qa wZ) wZ) ?_
 obtain⟨pr,hpi,hp⟩:∃pr,oIx (.list ((Kv 0 ls).map Ky++[.none])) (.int 0)=O pr/\(pr=.none ∨ ∃i t,pr=.tuple [.int i,.int t]/\(i,t)∈Kv 0 ls):=by
  cases hW:Kv 0 ls with
  |nil=>exact⟨_,Zm (j:=0) wZ,.inl wZ⟩
  |cons q r=>exact⟨_,Zm (j:=0) wZ,.inr ⟨q.1,q.2,rfl,Qo⟩⟩
 have zX:R7 pr:=by
  rcases hp with h|⟨i,t,h,_⟩
  .exact .inl h
  .exact .inr ⟨i,t,h⟩
 let S4:Option Sl:=O (.pub pr)
 refine U6 (Z1:=[S0,S1,S2,S3,S4,w4,w4,w4,w4,w4,w4,w4]) (KI (UU (UU (U8 (UH (UK wZ) UO) wZ (v6 g)) (Kq (UH UM UO) (Qa wZ)) (Yu (by have:=D8 g;rw[Qb];show _+1<=_;omega))) UM hpi) (Qa wZ) wZ) ?_;obtain⟨V,hV⟩:=Classical.skolem.mp (λk:Int=>DU (o:=o) g ga dl hp k);have hT:∀k:Int,ZZ [.int k,U2 cs ls,Kt o old ts,pr,Kr ws]=O (.list [.str "let", V k]):=λk=>AQ (hV k).2
 obtain⟨fst,hfl,hfs⟩:∃fst:w8,fst.length=6/\∀j:Nat,j<6->fst[j]?=O (.list [.str "let", V (j:Int)]):=
  ⟨(Up 6).map λk=>.list [.str "let", V ((k:Nat):Int)],rfl,λj hj=>by rw[Qh,List.getElem?_range hj];rfl⟩
 have hc:KW (gN 12) (UJ w5) (UP 5 ZZ (UF (UE 12) (UF (UE 1) (UF (UE 2) (UF (UE 4) (UF (UE 3) (UG))))))) (ZW 0 6) (Kf [S0,S1,S2,S3,S4,w4,w4,w4,w4,w4,w4,w4]++Uq 1 w4) []=O fst:=by refine Xq (λZ=>∃x,Z=[S0,S1,S2,S3,S4,w4,w4,w4,w4,w4,w4,w4,x]) _ _ _ _ (by rw[hfl];rfl) ?_ ⟨w4,rfl⟩ (by decide);rintro j d e hj he Z ⟨x,rfl⟩;obtain⟨rfl,hj6⟩:=Tf hj;rw[hfs j (by omega)]at he;cases he;refine⟨_,UT (Qa wZ) wZ,rfl,U8 (UH (UK wZ) (UH (UK wZ) (UH (UK wZ) (UH (UK wZ) (UH (UK wZ) UO))))) wZ ?_,_,rfl⟩;rw[Int.zero_add];exact hT _
 refine U6 (Z1:=[S0,S1,S2,S3,S4,O (.own fst),w4,w4,w4,w4,w4,w4]) (Zs (ZS (Ta (UH UM UO) (Ti (by decide) (by decide))) hc) (Qa wZ) wZ) ?_;obtain⟨v2,hv2⟩:=RK ns 2 (by omega);apply Ka;apply YB (λ_ Z=>∃x6 x7 x8 x9 zd yQ,Z=[S0,S1,S2,S3,S4,O (.own fst),x6,x7,x8,x9,zd,yQ])
 case h1=>exact X9 (UH (UU (Kq (UH (U8 (UH (UK wZ) (UH UM UO)) wZ hv2) UO) (Qa wZ)) (X5 (UK wZ) (YK UM) (YK UM) Wb) (jy (by omega))) UO) Wc
 case h0=>exact⟨_,_,_,_,_,_,rfl⟩
 case hst=>
  rintro i d Z hi ⟨x6,x7,x8,x9,zd,yQ,rfl⟩;obtain⟨x,hx,rfl⟩:=Wz hi;obtain⟨c,rfl⟩:=jz hx;rw[JB];refine⟨_,Kz wZ (U1 (UT (Qa wZ) wZ) (U1 (UT (Qa wZ) wZ) KB)),?_⟩;unfold My
  let S6:Option Sl:=O (.pub (.int i))
  let S7:Option Sl:=O (.pub (.int c))
  obtain⟨r,hF,dg,rfl,hdl,hdb⟩:=Tj c (31+(i:Int)) (sizes:=[6,3]) (by decide) (by decide)
  match dg,hdl with
  |[a,b],_=>
  obtain⟨a0,a6⟩:=hdb 0 a 6 wZ wZ
  let S8:Option Sl:=O (.pub (.list [.int a,.int b]))
  refine U6 (Z1:=[S0,S1,S2,S3,S4,O (.own fst),S6,S7,S8,x9,zd,yQ]) (KI (U8 (UH (UK wZ) (UH (UU UM (UK wZ) Zj) (UH (Kq (UH UM (UH UM UO)) (Qa wZ)) UO))) wZ hF) (Qa wZ) wZ) ?_;obtain⟨od,hod,sh⟩:=DZ (o:=o) g ga (c / 18) (40+(i:Int));have hs:SmA od:=Ee sh (by decide)
  let S9:Option Sl:=O (.pub od)
  let S10:Option Sl:=O (.pub (WE (ZL cs.length ls.length od)))
  refine U6 (Z1:=[S0,S1,S2,S3,S4,O (.own fst),S6,S7,S8,S9,zd,yQ]) (KI (U8 (UH (UK wZ) (UH (UK wZ) (UH (UU (UK wZ) UM (Pu (by decide) (by decide))) (UH (UU UM (UK wZ) Zj) UO)))) wZ hod) (Qa wZ) wZ) ?_;refine U6 (Z1:=[S0,S1,S2,S3,S4,O (.own fst),S6,S7,S8,S9,S10,yQ]) (KI (U8 (UH (UK wZ) (UH (UK wZ) UO)) wZ (v4 l7 hs)) (Qa wZ) wZ) ?_;apply Ka;refine Sy (P:=λq=>∃y11,q=.nx [S0,S1,S2,S3,S4,O (.own fst),S6,S7,S8,S9,S10,y11]) ?_ λq ⟨y11,e⟩=>?_
  .refine UZ (Z1:=[S0,S1,S2,S3,S4,O (.own fst),S6,S7,S8,S9,S10,yQ]) (UU (Kh wZ UM wZ) UM ZN) (λ_=>?_) λ_=>?_
   .obtain⟨bd,hbd,wb,p,n,z8⟩:=AZ g (c / 18) (50+(i:Int))
    have hsm:XA bd:=MN (Sv (by decide) bd wb);refine U6 (Z1:=[S0,S1,S2,S3,S4,O (.own fst),S6,S7,S8,S9,S10,pb bd]) (KI (U8 (UH (UK wZ) (UH (UU (UK wZ) UM (Pu (by decide) (by decide))) (UH (UU UM (UK wZ) Zj) UO))) wZ hbd) (Qa wZ) wZ) ?_;have ht:=qi (d:=bd) (a:=od) (k:=a) (Mt hw zX (DX hsm z8) wZ);have hf:=jt hsm;rw[z8]at hf;have hadd:U0 (.list [.str "wishes"]) (fauD (O (p,n)))=O (.list [.str "wishes", .str p,n]):=Yu (Qa wZ);obtain⟨y1,y2⟩:=AU z8
    have hne:oNe (.list [.str "wishes", .str p,n]) (.list [.str "wishes", .str p,n])=O w6:=by
     refine OG (WX λx hx=>?_) ?_
     .rcases Qx.mp hx with rfl|hx
      .kernel_rfl
      .have:∀{xs:w8},Uv xs=w5->∀z∈xs,z.canLay0=w5:=λ{xs}=>by
        induction xs with
        |nil=>intro _ z hz;cases hz
        |cons y r ih=>
         intro hh z hz;simp only[Uv,QL]at hh;rcases Qx.mp hz with rfl|hz
         .exact hh.1
         .exact ih hh.2 z hz
       exact this (xs:=[.str p,n]) y1 x hx
     .simp only[Uw,PyData.depthAll]at y2⊢
      omega
    exact UZ (b:=w6) (UU (U8 (UH (Kh wZ UM wZ) (UH (UK wZ) (UH (UK wZ) (UH (UK wZ) (UH (UK wZ) UO))))) wZ ht) (UU (Kq (UH UM UO) (Qa wZ)) (U8 (UH (UK wZ) UO) wZ hf) hadd) hne) (λz=>by cases z) λ_=>Ke ⟨_,rfl⟩
   .cases ap:ZL cs.length ls.length od with
    |none=>
     refine UZ (b:=w6) (Z1:=[S0,S1,S2,S3,S4,O (.own fst),S6,S7,S8,S9,S10,yQ]) (Sc (UK wZ) ?_) (λz=>by cases z) λ_=>Ke ⟨_,rfl⟩
     rw[ap];rfl
    |some p=>
     refine UZ (b:=w5) (Z1:=[S0,S1,S2,S3,S4,O (.own fst),S6,S7,S8,S9,S10,yQ]) (Sc (UK wZ) ?_) (λ_=>?_) λz=>by cases z
     .rw[ap];rfl
     have hx:=A1 g hs;rw[ap]at hx;have ht:=qk (d:=U2 cs ls) (a:=od) (k:=a) (Mt hw zX hx wZ)
     have hne:oNe (.list [.str "aim", .str p]) (.list [.str "aim", .str p])=O w6:=by
      refine OG (WX λx hx=>?_) (by simp[Uw,PyData.depthAll]);simp only[Qx,QY,or_false]at hx;rcases hx with rfl|rfl
      .kernel_rfl
      .exact qh ap
     have e10:WE (ZL cs.length ls.length od)=.str p:=by rw[ap];rfl
     refine UZ (b:=w6) (UU (U8 (UH (Kh wZ UM wZ) (UH (U8 (UH (UK wZ) UO) wZ (Lj g)) (UH (UK wZ) (UH (UK wZ) (UH (UK wZ) UO))))) wZ ht) (Kq (UH UM (UH (UK wZ) UO)) (Qa wZ)) (by rw[e10];exact hne)) (λz=>by cases z) λ_=>Ke ⟨_,rfl⟩
  .subst e
   refine Kb ?_;obtain⟨n,rfl⟩:∃n:Nat,a=n:=⟨a.toNat,by omega⟩
   have hix:oIx (.list fst) (.int n)=O (.list [.str "let", V n]):=Zm (hfs n (by omega));exact UZ (b:=w6) (UU (U8 (UH (Kh wZ UM wZ) (UH (UK wZ) (UH (UK wZ) (UH (UK wZ) (UH (UK wZ) UO))))) wZ (hT n)) (Sn wZ (Kh wZ UM wZ) wZ hix) (Ec (hV n).1)) (λz=>by cases z) λ_=>Ke (Yk ⟨_,_,_,_,_,_,rfl⟩)
 case hend=>
  rintro Z ⟨x6,x7,x8,x9,zd,yQ,rfl⟩;refine Kb ?_
  let lets:w8:=Uq 6 (.str "let")
  have hl:KW (gN 12) (UJ w5) (UQ 12 (UJ (.int 0))) fst (Kf [S0,S1,S2,S3,S4,pb (.list fst),x6,x7,x8,x9,zd,yQ]++Uq 1 w4) []=O lets:=by
   refine Xq (λZ=>∃y6 y7 y8 y9 y10 y11 x,Z=[S0,S1,S2,S3,S4,pb (.list fst),y6,y7,y8,y9,y10,y11,x]) _ lets _ _ (by rw[hfl];rfl) ?_ ⟨_,_,_,_,_,_,w4,rfl⟩ (by rw[hfl];decide);rintro j d e hj he Z ⟨y6,y7,y8,y9,y10,y11,x,rfl⟩;have hj6:j<6:=by have:=(Ql.mp hj).1;omega
   rw[hfs j hj6]at hj;cases hj;have he':e=.str "let" :=(Ju.mp (Qv he)).2;subst he';exact⟨_,UT (Qa wZ) wZ,rfl,Kh wZ UM wZ,_,_,_,_,_,_,_,rfl⟩
  have em:Kn (.list [.str "let"]) (.int 6)=O (.list lets):=by kernel_rfl
  have eq:oEq (.list lets) (.list lets)=O w5:=by kernel_rfl
  exact UY (Ko (UU (Ko (ZS (Zv (KU wZ wZ) YJ) hl)) (UU (Kq (UH UM UO) (Qa wZ)) UM em) eq)) wZ
end W
open PySem PySem.W PyProof.Rows
set_option maxRecDepth 100000 in
set_option maxHeartbeats 0 in
theorem PySem.Challenge.cw_wishdeal_k26_aims_refused_holds : PySem.Challenge.rw_wishdeal_k26_aims_refused.Holds := by
 w_on;o_law
 refine holds_open (q:=W.q0) (loose:=[]) (Xt:=λs=>xlAt W.q0 [] s&&recOk [] s) (XP:=XL W.q0 []) (Yf:=DL.xSeen W.clsL) (Ya:=λ_=>DL.xGood W.p0 W.clsL) (YP:=λ_ h=>DL.XYP W.p0 W.clsL h) (N:=4756) (d:=W.d_bw) (kwd:=[])
  W.F9 (λ_ _ e=>DL.DS e) (λ_ _ _ y k=>y.keeps k) (λs e=>xl_of s (Bool.and_eq_true_iff.mp e).1) XL.keeps (by rfl) (by rfl) (by rfl)
  (λs e=>recFacts_of (Bool.and_eq_true_iff.mp e).2) (by rfl) (by assumption) (by decide +kernel) ⟨rfl,rfl,rfl,rfl,rfl,by decide +kernel⟩ ?hw (W.walk W.qg)
 case hw=>w_witness2


import PyProof.Rows.All
import Wide.All
import OpenK.AllK
import Wide.FinOn
import Lean
import PyProof.EqAt
import PyProof.EqKinds
import PyProof.TupleCall
import PyProof.EnumMake
import PyProof.ZipIter
import PyProof.ExcClass2
import PyProof.ExcInit
import PyProof.ExcBaseAll.ValueError
import PyProof.FString2
import PyProof.ExcArgsOwn
import PyProof.InstStoreFacts
import ObjForm.Fk.InstStore
import ObjForm.Fk.InstLoad
import PyProof.StationsW
import PyProof.RulesAs
import PyProof.NsDelKeeps
import OpenK.KMore
import PyProof.IsiBase
import OpenK.KNot
import PyProof.Rows.RuleN_isinstance
import PyProof.NeData
import PyProof.P3In
import PyProof.StrWalks
import PyProof.ConsumeWalk
import PyProof.SliceStr2
import PyProof.MeetsStr
import KE.KItem
import KE.KUnpack
import KE.KRevSl
import PyProof.Rows.SetFrom
import PyProof.SetRoads
import PyProof.Rows.Range3
import PyProof.CallType
import PyProof.Rows.CallKwBuiltin
import PyProof.Rows.MinMaxN
import PyProof.SumWalkG
import PyProof.Rows.SeqMore
import PyProof.Rows.SortWalk
import PyProof.Rows.SumAny
import PyProof.Rows.SeqMore2
import KE.KSortTup
import PyProof.Rows.SortShellK
import PyProof.ReprRoads
import PyProof.ReprBulk
import PyProof.CallFns
import PyProof.NeKinds
import PyProof.Rows.StrJoinMade
import PyProof.StrCalls
import KE.KIntText
import PyProof.ReprDict
import PyProof.DictIter
import PyProof.Rows.DictUnroll
import PyProof.MeetsStr2
import PyProof.Rows.StrNews
import PyProof.StrLawsChain
import PyProof.Rows.StrItems
import PyProof.SeqRoads2
import PySem.Challenge.RW_wishdeal_k59_served_and_full
set_option compiler.extract_closed false
set_option Elab.async false
set_option linter.all false
set_option maxRecDepth 100000
set_option maxHeartbeats 4000000
open Option renaming some→O,none→w9
open Bool renaming true→ya,false→yb
theorem w8.{u}{α:Sort u}{a:α}:a=a:=rfl
abbrev yd:=List Int
abbrev yi:=Option Int
abbrev ym:=Option Bool
abbrev yn:=List Nat
theorem Qa:type_of% @of_decide_eq_true:=@of_decide_eq_true
theorem Qo:type_of% @if_pos:=@if_pos
theorem QB:type_of% @if_neg:=@if_neg
theorem QU:type_of% @decide_eq_false:=@decide_eq_false
theorem Q8:type_of% @decide_eq_true:=@decide_eq_true
theorem Jf:type_of% @of_decide_eq_false:=@of_decide_eq_false
theorem Jn:type_of% @decide_eq_true_eq:=@decide_eq_true_eq
theorem Uh:type_of% @congrArg:=@congrArg
open List renaming length_map→Qb,getElem?_map→Qd,getElem?_eq_getElem→Qe,getElem?_eq_some_iff→Qg,mem_cons_of_mem→Qh,mem_cons_self→Qi,length_append→Qk,getD_eq_getElem?_getD→Ql,length_range→Qp,mem_singleton→Qq,getElem?_set_ne→Qr,map_cons→Qs,mem_map→Qt,mem_of_getElem?→Qv,mem_cons→Qw,getElem?_append_left→Qx,getElem?_append_right→Qy,length_cons→Qz,map_append→QA,mem_append→QC,getElem?_replicate→QD,mem_append_right→QE,length_nil→QF,length_replicate→QH,mem_append_left→QI,getElem?_set_self→QL,getElem?_range→QO,length_singleton→QP,flatten_cons→QS,zip_cons_cons→QW,size_toArray→QX,nil_append→QY,length_take→QZ,append_nil→Q2,mem_range→Q3,lookup_cons→Q4,getElem?_eq_none→Q9,append_assoc→Ja,replicate_succ→Jb,length_set→Jc,length_filterMap_le→Jd,all_eq_true→Je,mem_filter→Jg,nodup_append→Jh,map_map→Jl,length_drop→Jm,mem_filterMap→Jo,getElem_mem→Jp,drop_eq_getElem_cons→Jr,nodup_cons→Jw,foldl_cons→Jx,pairwise_cons→Jz,take_length→JB,filterMap_cons→JD,count_cons→JK,map_replicate→JP,take_succ→JQ,mem_iff_getElem?→JR,reverse_cons→JU,take_zero→JZ,getElem?_cons_succ→J0,getElem_map→J5,mem_replicate→J8,length_zip→Ub,perm_append_comm→Uc,filterMap_append→Ud,take_append_drop→Ue,length_filter_le→Uf,ext_getElem?→Ug,mem_of_mem_take→Ui,filter_eq_self→Ul,any_cons→Um,sum_cons→Uo,range_succ→Uq,mem_flatten→Us,range→UE,replicate→UF,Pairwise→UP
open PySem renaming wpAny_bind→Qf,wpAny_pure→Qn,wpAny_mono→QN,wpAny_loadPart_at→QQ,wpAny_truthy_bool→Q7,mem_of_lookup→Jk,wpAny_isSubtype_exc→Jq,wpAny_standAt→Js,wpAny_passesOwn→Ju,wpAny_pyIter_list→JJ,Value→Uu,Shared→Uv,Program→Uw,Addr→Ux,FuncData→Uy,Expr→Uz,sizeLine→UA,wpAny→UB,starEach→UC,compareOp→UD,assignEach→UR,foldedSetIterable→US
open PySem.Heap renaming lt_size→Qj,get?_push_of_some→Qm,get?_push_size→QK,size_push→JI
open Nat renaming le_refl→Qu,lt_of_lt_of_le→QG,le_trans→QJ,ne_of_lt→QT,zero_add→Q0,le_of_not_lt→Ji,lt_irrefl→Jv,not_lt_zero→JG,ne_of_gt→JH,succ_pos→JL,zero_le→JM,lt_succ_self→JN,le_succ→JV,lt_succ_of_lt→JX,lt_succ_iff_lt_or_eq→JY,add_sub_cancel→J7,le_of_lt→Ur
open Int renaming toNat_natCast→QM,le_refl→Q6,mul_le_mul_of_nonneg_left→Jt,zero_add→Jy,le_antisymm→JT,le_trans→JW,mul_zero→J9,mul_add→Uj,not_lt→Ut
open Bool renaming and_eq_true→QR,false_ne_true→JO,false_eq_true→J6,eq_iff_iff→Ua,and_eq_true_iff→Uk
open Option.some renaming inj→Q5
open Array renaming getD_eq_getD_getElem?→Jj,length_toList→JE,getElem?_eq_getElem→JS
open PySem.W.Fast renaming te1987589406359920131→JA
open PyProof.Rows renaming callWith_type1→JC
open PySem.W renaming kia_one→JF
open Option renaming getD_some→J4
open Array.Perm renaming refl→Up
open PySem.PyData renaming list→UG,bool→UH,str→UI,strOk→UJ,canLayAll0→UK,depth→UL,eqv→UM,shown→UQ
open PySem.PassesOwn renaming never→UN
open PySem.Str renaming ofString→UO
abbrev yf:=List Uu
abbrev yg:=List Uz
abbrev yh:=List Ux
abbrev yj:=Option Uu
abbrev yo:=Option Ux
abbrev L3:=List (List yd)
abbrev LO:=List yi
abbrev yp:=Option LO
abbrev yq:=List LO
abbrev LP:=List (Int×Int)
open PySem.W (Frag)
open PySem.PyData (int)
open List (replicate)
namespace DL
open PySem PySem.Spec PySem.W PyProof.Rows
def topRunT(tb:String->Option Builtin)(p:Uw)(w:World)(m:Nat)(ann:yj):Nat->SharedT->Thread->Option SharedT
 |0,_,_=>w9
 |n+1,s,t=>match through t,stepOk m ann t with
  |true,_=>O s
  |false,yb=>w9
  |false,ya=>match stepT (denote tb) p w s t with
   |some x=>topRunT tb p w m ann n x.1 x.2
   |none=>w9
theorem EK{tb:String->Option Builtin}{p:Uw}{w:World}{m:Nat}{ann:yj}:∀{n:Nat}{s s':SharedT}{t:Thread},topRunT tb p w m ann n s t=O s'->topRun tb p w m ann n s.abs t=O s'.abs
 |0,_,_,_,h=>by cases h
 |n+1,s,s',t,h=>by
  rw[topRunT]at h;rw[topRun];cases ht:through t with
  |true=>rw[ht]at h;cases h;rfl
  |false=>
   rw[ht]at h;cases hk:stepOk m ann t with
   |false=>rw[hk]at h;cases h
   |true=>
    rw[hk]at h;dsimp only at h⊢;cases hs:stepT (denote tb) p w s t with
    |none=>rw[hs]at h;cases h
    |some x=>rw[hs]at h;rw[stepT_spec hs];exact EK h
def btOf(l:List Obj):BT:=(l.foldl (λ(x:BT×Nat) o=>(x.1.ins x.2 o,x.2+1)) (.nil,0)).1
noncomputable def T0 (w:World) (os:OsState):SharedT:=⟨btOf (boot_heap w.params).objs.toList,11,(boot_heap w.params).life,#[],boot_drawn,boot_toks,os⟩
theorem ji(w:World)(os:OsState):(T0 w os).abs=⟨boot_heap w.params,#[],boot_drawn,boot_toks,os⟩:=by kernel_rfl
theorem xD(w:World):((boot_heap w.params).isNs mainGlobals&&(#[]:Array GenState).size==0,(boot_heap w.params).objs.size,(boot_heap w.params).nsMap mainGlobals "__annotations__")=(ya,11,O (.ref 6)):=by kernel_rfl
noncomputable abbrev Cm (p q:Uw) (loose:List Str) (Xt:Uv->Bool) (w:World) (t:SharedT):=
 ((staticsOk (importedModules p.main.body) (boot_heap w.params) t.abs.heap&&namesBound p t.abs.heap&&gensDone t.abs&&laidKept (boot_heap w.params) t.abs.heap),openSeen q loose (importedModules p.main.body) Xt ya t.abs)
theorem AF{p q:Uw}{loose:List Str}{Xt:Uv->Bool}{N M:Nat}(e:opening p=plainProg p.main.scope.names)(hN:Nat.ble 600 N=ya)(f:∀s,fenceModules? p s=O s)(le:Nat.ble M N=ya)
  (run:∀(w:World)(os:OsState),(topRunT treeTable p w 11 (O (.ref 6)) M (T0 w os) (topStub p)).map (Cm p q loose Xt w)=O (ya,openGood q loose)):LeftO p q loose Xt (Hook.obs .none) (Hook.val .none) N:=λw=>by
 obtain⟨⟨h,gs,d,k,os⟩,e0,e'⟩:=Option.map_eq_some_iff.mp (boot_open e hN f w);have e':(h,gs,d,k)=(boot_heap w.params,#[],boot_drawn,boot_toks):=e';obtain⟨rfl,rfl,rfl,rfl⟩:h=boot_heap w.params/\gs=#[]/\d=boot_drawn/\k=boot_toks:=by simpa only[Prod.mk.injEq]using e'
 obtain⟨t,ht,l⟩:=Option.map_eq_some_iff.mp (run w os);have hr:=EK ht;rw[ji]at hr;have r:=topRun_mono (N-M) _ _ _ _ hr;rw[show M+(N-M)=N by have:=Nat.le_of_ble_eq_true le;omega]at r;obtain⟨l1,l2⟩:=Prod.mk.inj l;have z:=xD w;obtain⟨z1,z2,z3⟩:_/\_/\_:=by simpa only[Prod.mk.injEq]using z
 have tf:topFrom treeTable p w N ⟨boot_heap w.params,#[],boot_drawn,boot_toks,os⟩=O t.abs:=by
  unfold topFrom;dsimp only;rw[z1,z2,z3,r]
  show(match staticsOk (importedModules p.main.body) (boot_heap w.params) t.abs.heap&&namesBound p t.abs.heap&&gensDone t.abs&&laidKept (boot_heap w.params) t.abs.heap with|true=>O t.abs|false=>w9)=_
  rw[l1]
 unfold openEnds;rw[e0]
 show(topFrom treeTable p w N _).map _=_
 rw[tf];exact Uh O (Prod.ext l2 w8)
end DL
open PySem in
lay_quick PySem.Challenge.pw_wishdeal_k59_served_and_full DL.topRunT PySem.W.openGood PySem.W.staticsOk PySem.W.namesBound PySem.W.laidKept PySem.W.xlAt
namespace W
open PySem PySem.Spec DL
noncomputable abbrev p0:Uw:=PySem.Challenge.pw_wishdeal_k59_served_and_full
noncomputable def X7:yn:=[1,2,3,5,6,7,9,10,11,12,13,14,15,16,17,18,19,20,22,24,25,26,28,29,30,32,33,34,35,36,38,40,41,42,43,44,45,46,47,48,49,50,51,53,54,55,56,57,58,60,61,62,64,65,66,67,68,69,70,71,72,73,74,75]
noncomputable def ixL:yn:=[1,2,3,13,14,15,16,17,18,19,20,22,25,26,28,29,30,32,33,34,35,36,38,40,41,42,43,44,45,46,47,48,49,50,51,53,54,55,56,57,58,60,61,62,64,65,66,67,68,69,70,71,72,73,74,75]
noncomputable abbrev q0:Uw:=PySem.W.view p0 X7
theorem Ck:∀(w:World)(os:OsState),(PySem.W.Fast.tw10708255244068714335 PySem.W.Fast.tw14364793385576792824 PySem.W.Fast.tw2770511491351795411 w 11 (O (.ref 6)) 2693 (T0 w os) (PySem.W.topStub PySem.W.Fast.tw2770511491351795411)).map (λt=>((PySem.W.Fast.tw13471830651028734593 (PySem.W.Fast.tw5923862056798008813 (Program.main PySem.W.Fast.tw2770511491351795411).body) (PySem.W.boot_heap w.params) t.abs.heap&&PySem.W.Fast.tw4683006035507612052 PySem.W.Fast.tw2770511491351795411 t.abs.heap&&PySem.W.gensDone t.abs&&PySem.W.Fast.tw16898566250750103049 (PySem.W.boot_heap w.params) t.abs.heap),PySem.W.Fast.tw4187177175401517315 (PySem.W.view PySem.W.Fast.tw2770511491351795411 X7) [] (PySem.W.Fast.tw5923862056798008813 (Program.main PySem.W.Fast.tw2770511491351795411).body) (λs=>PySem.W.Fast.tw4757257242682413121 (PySem.W.view PySem.W.Fast.tw2770511491351795411 X7) [] s&&PySem.W.recOk [] s) ya t.abs))=O (ya,PySem.W.Fast.tw3486900944545009338 (PySem.W.view PySem.W.Fast.tw2770511491351795411 X7) []):=by intro w os;kernel_rfl
theorem Cj:PySem.W.LeftO p0 q0 [] (λs=>PySem.W.xlAt q0 [] s&&PySem.W.recOk [] s) (PySem.W.Hook.obs .none) (PySem.W.Hook.val .none) 5286:=by
 refine AF (M:=2693) (by kernel_rfl) w8 (λs=>by kernel_rfl) w8 λw os=>?_
 have h:=Ck w os;rw[←PySem.W.Fast.te10708255244068714335,←PySem.W.Fast.te14364793385576792824,←PySem.W.Fast.te4187177175401517315,←PySem.W.Fast.te5923862056798008813,←PySem.W.Fast.te13471830651028734593,←PySem.W.Fast.te4683006035507612052,←PySem.W.Fast.te16898566250750103049,←PySem.W.Fast.te4757257242682413121,←PySem.W.Fast.te3486900944545009338,←PySem.W.Fast.te2770511491351795411]at h;exact h
end W
namespace L2
open PySem PySem.Spec PyProof.Rows
abbrev Key:=Sum Int Str
abbrev yl:=List Key
noncomputable def Tl:Key->Uu->Bool
 |.inl k,v=>Value.isInt k v
 |.inr x,v=>Value.isStrOf x v
noncomputable def keyH(w:World):Key->Int
 |.inl k=>hashInt k
 |.inr x=>hashStr w x
theorem WJ:∀{k:Key}{v:Uu},Tl k v=ya->(∃i t,k=Sum.inl i/\v=Value.int i t)∨(∃x t,k=Sum.inr x/\v=Value.str x t)
 |.inl i,v,h=>by obtain⟨t,e⟩:=Value.isInt_shape (k:=i) (v:=v) h;exact .inl ⟨i,t,rfl,e⟩
 |.inr x,v,h=>by obtain⟨t,e⟩:=Value.isStrOf_shape (x:=x) (v:=v) h;exact .inr ⟨x,t,rfl,e⟩
theorem xC(i:Int)(t:Tok):Tl (.inl i) (.int i t)=ya:=by simp[Tl,Value.isInt]
theorem xB(x:Str)(t:Tok):Tl (.inr x) (.str x t)=ya:=by simp[Tl,Value.isStrOf]
theorem Aq(a b:Int):decide ((Sum.inl a:Key)=Sum.inl b)=(a==b):=by
 by_cases e:a=b
 .subst e;simp
 .have h:¬(Sum.inl a:Key)=Sum.inl b:=λq=>e (Sum.inl.inj q)
  rw[QU h];exact(beq_eq_false_iff_ne.mpr e).symm
theorem Ap(a b:Str):decide ((Sum.inr a:Key)=Sum.inr b)=decide (a=b):=by
 by_cases e:a=b
 .subst e;simp
 .have h:¬(Sum.inr a:Key)=Sum.inr b:=λq=>e (Sum.inr.inj q)
  rw[QU h,QU e]
theorem Bd(a:Int)(b:Str):decide ((Sum.inl a:Key)=Sum.inr b)=yb:=QU (λq=>nomatch q)
theorem Bc(a:Str)(b:Int):decide ((Sum.inr a:Key)=Sum.inl b)=yb:=QU (λq=>nomatch q)
noncomputable def YE(prog:Uw)(w:World):PySem.KeyKind prog w Key where
 is:=Tl
 hash:=keyH w
 inj:=λv a b ha hb=>by
  rcases WJ ha with ⟨i,t,rfl,rfl⟩|⟨x,t,rfl,rfl⟩
  .rcases WJ hb with ⟨j,u,rfl,e⟩|⟨y,u,rfl,e⟩
   .injection e with e1 _;rw[e1]
   .exact nomatch e
  .rcases WJ hb with ⟨j,u,rfl,e⟩|⟨y,u,rfl,e⟩
   .exact nomatch e
   .injection e with e1 _;rw[e1]
 byValue:=λk v h=>by rcases WJ h with ⟨i,t,rfl,rfl⟩|⟨x,t,rfl,rfl⟩<;>rfl
 pyHash:=λhv h=>by
  rcases WJ hv with ⟨i,t,rfl,rfl⟩|⟨x,t,rfl,rfl⟩
  .exact wpAny_pyHash_int h
  .exact wpAny_pyHash_str h
 eqBool:=λhu hv h=>by
  rcases WJ hu with ⟨i,t,rfl,rfl⟩|⟨x,t,rfl,rfl⟩
  .rcases WJ hv with ⟨j,u,rfl,rfl⟩|⟨y,u,rfl,rfl⟩
   .rw[Aq]at h;exact wpAny_eqBool_int h
   .rw[Bd]at h;exact SeqAt.EqAt.int_str i t y u _ _ _ _ h
  .rcases WJ hv with ⟨j,u,rfl,rfl⟩|⟨y,u,rfl,rfl⟩
   .rw[Bc]at h;exact SeqAt.EqAt.str_int x t j u _ _ _ _ h
   .rw[Ap]at h;exact wpAny_eqBool_str h
 «strs»:=λk x t v h=>by
  rcases WJ h with ⟨i,u,rfl,e⟩|⟨y,u,rfl,e⟩
  .exact nomatch e
  .injection e with e1 _
   subst e1;cases v<;>rfl
theorem v4(prog:Uw)(w:World)(i:Int)(t:Tok):(YE prog w).is (.inl i) (.int i t)=ya:=xC i t
theorem v3(prog:Uw)(w:World)(x:Str)(t:Tok):(YE prog w).is (.inr x) (.str x t)=ya:=xB x t
inductive V where
 |non|bl (b:Bool)|int (i:Int)|str (x:Str)|byt (b:Array UInt8)|flt (b:UInt64)|ref (a:Ux)|ty (n:String)
 deriving DecidableEq
noncomputable def RelV:V->Uu->Prop
 |.non,u=>u=Value.none
 |.bl b,u=>u=Value.bool b
 |.int i,u=>∃t,u=Value.int i t
 |.str x,u=>∃t,u=Value.str x t
 |.byt b,u=>∃t,u=Value.bytes b t
 |.flt b,u=>∃t,u=Value.float b t
 |.ref a,u=>u=Value.ref a
 |.ty n,u=>u=Value.type n
noncomputable abbrev Vals:List V->yf->Prop:=Paired RelV
theorem Vals.length{xs:List V}{us:yf}(r:Vals xs us):xs.length=us.length:=Paired.length r
theorem Vals.get:∀{xs:List V}{us:yf}{i:Nat}{x:V},Vals xs us->xs[i]?=O x->∃u,us[i]?=O u/\RelV x u
 |_,_,_,_,.nil,e=>by simp at e
 |_,_,0,_,.cons r _,e=>by simp at e;subst e;exact⟨_,rfl,r⟩
 |_,_,i+1,x,.cons _ t,e=>by obtain⟨u,h1,h2⟩:=Vals.get (i:=i) (x:=x) t (by simpa using e);exact⟨u,by simpa using h1,h2⟩
theorem Vals.set{x:V}{u:Uu}(r:RelV x u):∀{xs:List V}{us:yf}(i:Nat),Vals xs us->Vals (xs.set i x) (us.set i u)
 |_,_,_,.nil=>.nil
 |_,_,0,.cons _ t=>.cons r t
 |_,_,i+1,.cons q t=>.cons q (Vals.set r i t)
theorem Vals.append:∀{xs ys:List V}{us ws:yf},Vals xs us->Vals ys ws->Vals (xs++ys) (us++ws)
 |_,_,_,_,.nil,s=>s
 |_,_,_,_,.cons r t,s=>.cons r (Vals.append t s)
theorem Vals.take:∀{xs:List V}{us:yf}(n:Nat),Vals xs us->Vals (xs.take n) (us.take n)
 |_,_,0,_=>.nil
 |_,_,_+1,.nil=>.nil
 |_,_,n+1,.cons r t=>.cons r (Vals.take n t)
theorem Vals.drop:∀{xs:List V}{us:yf}(n:Nat),Vals xs us->Vals (xs.drop n) (us.drop n)
 |_,_,0,r=>r
 |_,_,_+1,.nil=>.nil
 |_,_,n+1,.cons _ t=>Vals.drop n t
noncomputable def RelO:Option V->yj->Prop
 |some v,O u=>RelV v u
 |none,w9=>True
 |_,_=>False
noncomputable def KV{κ:Type}:List (κ×V)->List (κ×Uu)->Prop:=Paired λ(p:κ×V) (q:κ×Uu)=>p.1=q.1/\RelV p.2 q.2
noncomputable def kV:Key->V
 |.inl i=>.int i
 |.inr x=>.str x
inductive HO where
  |lst (xs:List V)
  |tup (xs:List V)
  |dK (kvs:List (Key×V))|dT (kvs:List (yl×V))
  |set (S:Int->Bool) (n:Nat)
  |ins (C dx:Ux) (fs:List (Str×V))
  |own (x:Ux)
  |xd (fs:List (Str×V))
  |met (f x:Ux)
  |rng (lo hi:Int)
  |frz (o:Obj) (u:HO)
  |tbl (ps:Array Uu)
  |ext (φ:Heap->Prop)
abbrev Hp:=Ux->Option HO
noncomputable def upd(H:Hp)(a:Ux)(o:HO):Hp:=λb=>if b=a then O o else H b
theorem Zd{H:Hp}{a:Ux}{o:HO}:upd H a o a=O o:=by unfold upd;rw[Qo w8]
theorem KF{H:Hp}{a b:Ux}{o:HO}(h:b≠a):upd H a o b=H b:=by unfold upd;rw[QB h]
theorem Ci{H:Hp}{a b:Ux}{o u:HO}(h:H a=O o)(h':H b=O u)(d:o≠u):a≠b:=by intro e;subst e;rw[h]at h';exact d (Q5 h')
theorem Yx{H:Hp}{a b:Ux}{o:HO}(h:H a=O o)(h':H b=w9):a≠b:=by intro e;subst e;rw[h]at h';cases h'
section
variable(P:Uw)(w:World)
noncomputable def ZW(H:Hp)(h:Heap)(a:Ux):HO->Prop
 |.lst xs=>xs.length<=UA/\∃(its:yf)(n:Nat),Vals xs its/\h.get? a=O {cls:=.type "list", data:=.seq its.toArray n}
 |.tup xs=>xs.length<=UA/\∃its:yf,Vals xs its/\IsTup h a its.toArray
 |.dK kvs=>kvs.length<=UA/\(a==sysModules)=yb/\∃vs,KV kvs vs/\h.DictOf (YE P w) a vs
 |.dT kvs=>kvs.length<=UA/\(a==sysModules)=yb/\∃xs:List (yl×Ux×Uu),
   Paired (λ(p:yl×V) (q:yl×Ux×Uu)=>p.1=q.1/\H q.2.1=O (.tup (p.1.map kV))/\RelV p.2 q.2.2) kvs xs /\
   ∃o es ep,h.get? a=O o/\o.ExactDict/\o.data=.dict es ep/\es.toList=xs.map (entryOfKey (tupleKind (YE P w)))/\(xs.map (·.1)).Nodup
 |.set S n=>h.SetOf (intKind P w) a S n
 |.ins C dx fs=>H dx=O (.own a)/\fs.length<=1000/\dx≠a/\h.get? a=O (PySem.W.instObj C dx) /\
   ∃mA,h.Ns1 dx mA/\(∀f,RelO (fs.lookup f) (mA f))/\PySem.Within mA (fs.map (·.1))
 |.own _=>∃o,h.get? a=O o
 |.xd fs=>∃mA,h.Ns1 a mA/\∀f,RelO (fs.lookup f) (mA f)
 |.rng lo hi=>∃t u v,h.get? a=O {cls:=.type "range", data:=.fields #[.int lo t,.int hi u,.int 1 v]}
 |.frz o u=>h.get? a=O o/\ZW H h a u
 |.tbl ps=>h.get? a=O {cls:=.none,data:=.fields ps}
 |.met f x=>h.get? a=O (PySem.W.methodObj (.ref f) (.ref x))
 |.ext φ=>φ h/\(∃o,h.get? a=O o)/\∀h1 h2:Heap,φ h1->(∀o,h1.get? a=O o->h2.get? a=O o)->φ h2
def HOk(H:Hp)(h:Heap):Prop:=∀a o,H a=O o->ZW P w H h a o
end
section
variable{P:Uw}{w:World}{H H':Hp}{h h':Heap}{a:Ux}{o:HO}
theorem ZW.lt(x:ZW P w H h a o):a<h.objs.size:=by
 cases o with
 |lst xs=>obtain⟨_,_,_,_,e⟩:=x;exact Qj e
 |tup xs=>obtain⟨_,_,_,p⟩:=x;exact p.lt
 |dK kvs=>obtain⟨_,_,_,_,o,_,_,e,_⟩:=x;exact Qj e
 |dT kvs=>obtain⟨_,_,_,_,o,_,_,e,_⟩:=x;exact Qj e
 |set S n=>obtain⟨o,_,_,_,e,_⟩:=x;exact Qj e
 |ins C dx fs=>obtain⟨_,_,_,e,_⟩:=x;exact Qj e
 |own y=>obtain⟨_,e⟩:=x;exact Qj e
 |xd fs=>obtain⟨_,⟨_,_,_,e,_⟩,_⟩:=x;exact Qj e
 |rng lo hi=>obtain⟨_,_,_,e⟩:=x;exact Qj e
 |frz ob u=>obtain⟨e,_⟩:=x;exact Qj e
 |tbl ps=>exact Qj (show h.get? a=O _ from x)
 |met f y=>exact Qj (show h.get? a=O _ from x)
 |ext φ=>obtain⟨_,⟨_,e⟩,_⟩:=x;exact Qj e
theorem Paired.mapP{α β:Type}{F G:α->β->Prop}:∀{l₁:List α}{l₂:List β},Paired F l₁ l₂->(∀a b,F a b->G a b)->Paired G l₁ l₂
 |_,_,.nil,_=>.nil
 |_,_,.cons r t,f=>.cons (f _ _ r) (Paired.mapP t f)
theorem ZW.stay(x:ZW P w H h a o)(k:∀b u,(b=a∨H b=O (.own a))->h.get? b=O u->h'.get? b=O u)
  (ho:∀b,H b=O (.own a)->H' b=O (.own a)) (ht:∀b xs,H b=O (.tup xs)->H' b=O (.tup xs)):ZW P w H' h' a o:=by
 induction o with
 |lst xs=>obtain⟨z,its,n,r,e⟩:=x;exact⟨z,its,n,r,k _ _ (.inl w8) e⟩
 |tup xs=>obtain⟨z,its,r,ob,e,c⟩:=x;exact⟨z,its,r,ob,k _ _ (.inl w8) e,c⟩
 |dK kvs=>obtain⟨z,y,vs,r,ob,es,ep,e,c⟩:=x;exact⟨z,y,vs,r,ob,es,ep,k _ _ (.inl w8) e,c⟩
 |dT kvs=>obtain⟨z,y,xs,r,ob,es,ep,e,c⟩:=x;exact⟨z,y,xs,Paired.mapP r λp q z=>⟨z.1,ht _ _ z.2.1,z.2.2⟩,ob,es,ep,k _ _ (.inl w8) e,c⟩
 |set S n=>obtain⟨ob,es,ep,t,e,c⟩:=x;exact⟨ob,es,ep,t,k _ _ (.inl w8) e,c⟩
 |ins C dx fs=>obtain⟨d,z,ne,e,mA,⟨od,es,ep,e2,c⟩,r⟩:=x;exact⟨ho _ d,z,ne,k _ _ (.inl w8) e,mA,⟨od,es,ep,k _ _ (.inr d) e2,c⟩,r⟩
 |own y=>obtain⟨ob,e⟩:=x;exact⟨ob,k _ _ (.inl w8) e⟩
 |xd fs=>obtain⟨mA,⟨od,es,ep,e,c⟩,r⟩:=x;exact⟨mA,⟨od,es,ep,k _ _ (.inl w8) e,c⟩,r⟩
 |rng lo hi=>obtain⟨t,u,v,e⟩:=x;exact⟨t,u,v,k _ _ (.inl w8) e⟩
 |frz ob u ih=>obtain⟨e,q⟩:=x;exact⟨k _ _ (.inl w8) e,ih q⟩
 |tbl ps=>have e:h.get? a=O {cls:=.none,data:=.fields ps}:=x;show h'.get? a=O {cls:=.none,data:=.fields ps};exact k a _ (.inl w8) e
 |met f y=>have e:h.get? a=O (PySem.W.methodObj (.ref f) (.ref y)):=x;show h'.get? a=O (PySem.W.methodObj (.ref f) (.ref y));exact k a _ (.inl w8) e
 |ext φ=>obtain⟨p,⟨o,e⟩,st⟩:=x;exact⟨st _ _ p λo q=>k _ _ (.inl w8) q,⟨o,k _ _ (.inl w8) e⟩,st⟩
theorem HOk.lt(x:HOk P w H h)(e:H a=O o):a<h.objs.size:=(x a o e).lt
theorem HOk.fresh(x:HOk P w H h)(e:h.objs.size<=a):H a=w9:=by
 cases q:H a with
 |none=>rfl
 |some u=>exact absurd (QG (x.lt q) e) (Jv _)
theorem HOk.kept(x:HOk P w H h)(k:∀b u,h.get? b=O u->h'.get? b=O u):HOk P w H h':=λa o e=>
 (x a o e).stay (λb u _ q=>k b u q) (λ_ q=>q) λ_ _ q=>q
theorem HOk.laid(x:HOk P w H h)(k:∀b u,h.get? b=O u->h'.get? b=O u)(hp:h.objs.size<=a)(new:ZW P w (upd H a o) h' a o):HOk P w (upd H a o) h':=λb u e=>by
 have hn:=x.fresh hp;by_cases hb:b=a
 .subst hb;rw[Zd]at e;cases e;exact new
 .rw[KF hb]at e
  exact(x b u e).stay (λc v _ q=>k c v q) (λc q=>by rw[KF (Yx q hn)];exact q) λc xs q=>by rw[KF (Yx q hn)];exact q
end
def Rd(H:Hp)(a:Ux)(u:HO):Prop:=H a=O u ∨ ∃o,H a=O (.frz o u)
theorem Rd.ok{P:Uw}{w:World}{H:Hp}{h:Heap}{a:Ux}{u:HO}(r:Rd H a u)(x:HOk P w H h):ZW P w H h a u:=by
 rcases r with r|⟨o,r⟩
 .exact x a u r
 .obtain⟨_,q⟩:=x a _ r
  exact q
noncomputable def Mut:Option HO->Prop
 |some (.lst _)=>True
 |some (.dK _)=>True
 |some (.dT _)=>True
 |some (.set _ _)=>True
 |some (.ins _ _ _)=>True
 |some (.ext _)=>True
 |_=>False
section
variable{P:Uw}{w:World}{H:Hp}{h h':Heap}{x e:Ux}{o':HO}
theorem HOk.write(ok:HOk P w H h)(mu:Mut (H x))(he:e=x∨H e=O (.own x))(k:∀b u,b≠e->h.get? b=O u->h'.get? b=O u)(z9:∃u,h'.get? e=O u)
  (new:ZW P w (upd H x o') h' x o'):HOk P w (upd H x o') h':=λb u q=>by
 have nown:∀c y,H c=O (.own y)->c≠x:=λc y r z=>by subst z;rw[r]at mu;exact mu
 have ntup:∀c xs,H c=O (.tup xs)->c≠x:=λc xs r z=>by subst z;rw[r]at mu;exact mu
 by_cases hb:b=x
 .subst hb;rw[Zd]at q;cases q;exact new
 .rw[KF hb]at q
  by_cases yE:b=e
  .have q':H b=O (.own x):=by
    rcases he with z|z
    .exact absurd (yE.trans z) hb
    .rw[yE];exact z
   rw[q]at q';cases q';obtain⟨v,hv⟩:=z9;exact⟨v,by rw[yE];exact hv⟩
  .refine(ok b u q).stay (λc v hc r=>k c v ?_ r) (λc r=>by rw[KF (nown c b r)];exact r) λc xs r=>by rw[KF (ntup c xs r)];exact r
   rcases hc with rfl|hc
   .exact yE
   .rintro rfl
    rcases he with z|z
    .exact nown c b hc z
    .rw[hc]at z;cases z;exact hb w8
end
structure Un(fs ex:yh)(H H':Hp)(h h':Heap):Prop where
 keep:∀b o,h.get? b=O o->H b=w9->b∉fs->b∉ex->h'.get? b=O o
 slot:∀b o,h.get? b=O o->H b=w9->b∈fs->b∉ex->∃sl,h'.get? b=O {o with slots:=sl}
 free:∀b o,h.get? b=O o->H b=w9->b∉ex->H' b=w9
 there:∀b o,h.get? b=O o->b∉ex->∃o',h'.get? b=O o'
 tups:∀b xs,H b=O (.tup xs)->H' b=O (.tup xs)
 frzs:∀b o u,H b=O (.frz o u)->H' b=O (.frz o u)
 tbls:∀b ps,H b=O (.tbl ps)->∃more,H' b=O (.tbl (ps++more))
section
variable{fs fs' ex ex':yh}{H H1 H2:Hp}{h h1 h2 h':Heap}{a x e:Ux}{o:HO}
theorem Un.any(u:Un fs ex H H1 h h1){b:Ux}{ob:Obj}(q:h.get? b=O ob)(n:H b=w9)(hx:b∉ex):∃sl,h1.get? b=O {ob with slots:=sl}:=by
 by_cases hb:b∈fs
 .exact u.slot b ob q n hb hx
 .exact⟨ob.slots,u.keep b ob q n hb hx⟩
theorem Un.kept(k:∀b u,h.get? b=O u->h'.get? b=O u):Un fs ex H H h h':=
 ⟨λb ob q _ _ _=>k b ob q,λb ob q _ _ _=>⟨ob.slots,k b ob q⟩,λ_ _ _ n _=>n,λb ob q _=>⟨ob,k b ob q⟩,λ_ _ q=>q,λ_ _ _ q=>q,λ_ ps q=>⟨#[],by rw[q];simp⟩⟩
theorem Un.refl:Un fs ex H H h h:=Un.kept λ_ _ q=>q
theorem Un.laid(k:∀b u,h.get? b=O u->h'.get? b=O u)(hp:h.objs.size<=a)(hn:H a=w9):Un fs ex H (upd H a o) h h' where
 keep:=λb u q _ _ _=>k b u q
 slot:=λb u q _ _ _=>⟨u.slots,k b u q⟩
 free:=λb u q n _=>by rw[KF (QT (QG (Qj q) hp))];exact n
 there:=λb u q _=>⟨u,k b u q⟩
 tups:=λb xs q=>by rw[KF (Yx q hn)];exact q
 frzs:=λb u xs q=>by rw[KF (Yx q hn)];exact q
 tbls:=λb ps q=>⟨#[],by rw[KF (Yx q hn),q];simp⟩
theorem Un.write(mu:Mut (H x))(he:e=x∨H e=O (.own x))(k:∀b u,b≠e->h.get? b=O u->h'.get? b=O u)(z9:∃u,h'.get? e=O u):Un fs ex H (upd H x o) h h':=by
 have hx:∀b,H b=w9->b≠x:=λb n z=>by subst z;rw[n]at mu;exact mu
 have hb:∀b,H b=w9->b≠e:=λb n z=>by
  subst z;rcases he with r|r
  .exact hx b n r
  .rw[n]at r;cases r
 have hm:∀b u,H b=O u->¬Mut (O u)->b≠x:=λb u q nm z=>by subst z;rw[q]at mu;exact nm mu
 refine⟨λb u q n _ _=>k b u (hb b n) q,λb u q n _ _=>⟨u.slots,k b u (hb b n) q⟩,λb u q n _=>by rw[KF (hx b n)];exact n,λb u q _=>?_,
  λb xs q=>by rw[KF (hm b _ q λz=>z)];exact q,λb u xs q=>by rw[KF (hm b _ q λz=>z)];exact q,λb ps q=>⟨#[],by rw[KF (hm b _ q λz=>z),q];simp⟩⟩
 by_cases yE:b=e
 .subst yE;exact z9
 .exact⟨u,k b u yE q⟩
end
noncomputable def trk(h:Heap)(H:Hp):yh:=(UE h.objs.size).filter λa=>(H a).isSome
noncomputable def YM(h:Heap)(H:Hp):Heap:=PySem.W.hideAll h (trk h H)
theorem xA(h:Heap)(H:Hp):(YM h H).objs.size=h.objs.size:=PySem.W.hideAll_size _ _
theorem jh{h:Heap}{H:Hp}{b:Ux}{o:Obj}(e:h.get? b=O o)(n:H b=w9):(YM h H).get? b=O o:=
 PySem.W.hideAll_get _ e λhm=>by have q:(H b).isSome=ya:=(Jg.mp hm).2;rw[n]at q;simp at q
theorem AE{h:Heap}{H:Hp}{b:Ux}{o:Obj}(e:(YM h H).get? b=O o):h.get? b=O o/\H b=w9:=by
 have e':h.get? b=O o:=PySem.W.of_hideAll (trk h H) e;refine⟨e',?_⟩;cases q:H b with
 |none=>rfl
 |some x=>have hm:b∈trk h H:=List.mem_filter.mpr ⟨List.mem_range.mpr (Heap.lt_size e'),by simp[q]⟩;have z:(YM h H).get? b=w9:=PySem.W.hideAll_none (trk h H) hm;rw[z]at e;cases e
structure Mod(K:Frag)(mg:Str->yj)(base:Heap):Prop where
 kin:K.In base
 glob:base.Ns mainGlobals mg
 blt:∃mb,base.Ns builtinsNs mb/\∀x:Str,x ≠ "__name__" -> mb x=bootBuiltins x
 nolimit:base.NoLimit
structure Cx where
 prog:Uw
 w:World
 K:Frag
 mg:Str->yj
 base:Heap
 A:Around
 N:List Str
 s₀:Uv
 H₀:Hp
 env:Env
 outer:List Env
 stack:List Env
 ex:yh
 fn:Str->Bool
 calm:Bool
 pn:List (Ux×Obj)
 xe:Uu->Uv->Prop
noncomputable def frs(l:List Env):yh:=l.filterMap (·.frame)
noncomputable abbrev Cx.fs(X:Cx):yh:=frs X.outer
def Vis(sc:Scope)(x:Str):Prop:=sc.names.lookup x=O .local∨sc.names.lookup x=O .cell∨sc.names.lookup x=O .free
def Loc(sc:Scope)(x:Str):Prop:=sc.names.lookup x=O .local∨sc.names.lookup x=O .cell
def Look(env:Env)(h:Heap)(m:Str->yj)(x:Str)(u:Uu):Prop:=
 (env.kindOf x=O .local/\m x=O u)∨((env.kindOf x=O .cell∨env.kindOf x=O .free)/\∃c,env.cells.lookup x=O c/\h.IsCell c (O u))
structure Cx.Ok(X:Cx):Prop where
 mod:Mod X.K X.mg X.base
 kind:X.env.scope.kind=.function
 glob:X.env.globals=mainGlobals
 blt:X.env.builtins=builtinsNs
 above:X.s₀.heap.objs.size<=X.env.locals
 inj:∀x y c,X.env.cells.lookup x=O c->X.env.cells.lookup y=O c->x=y
 has:∀x,(X.env.kindOf x=O .cell∨X.env.kindOf x=O .free)->∃c,X.env.cells.lookup x=O c
 cab:∀x c,X.fn x=ya->X.env.cells.lookup x=O c->X.s₀.heap.objs.size<=c
 hd:X.calm=ya->X.A.handled=w9
 frames:X.A.frames=O X.stack
 stk:X.stack=X.outer∨(X.stack=X.env::X.outer/\X.env.frame=O X.env.locals)
 exf:∀b∈X.ex,b≠X.env.locals/\∀x c,X.env.cells.lookup x=O c->c≠b
 bs:∀b o,X.base.get? b=O o->X.s₀.heap.get? b=O o/\X.H₀ b=w9
 bsz:X.base.objs.size<=X.s₀.heap.objs.size
 noex:∀b o,X.base.get? b=O o->b∉X.ex
 exfs:∀b∈X.ex,b∉X.fs
 funs:X.s₀.heap.FunFrames X.base X.outer
 frf:∀b∈X.fs,X.H₀ b=w9
structure Inv(X:Cx)(pins:List (Ux×Obj))(σ:List (Option V))(H:Hp)(s:Uv):Prop where
 ok:X.Ok
 os:s.os=X.s₀.os
 bare:AllBare s.gens
 base:Un X.fs X.ex X.H₀ H X.s₀.heap s.heap
 loc:∃m,s.heap.Ns X.env.locals m/\∀(i:Nat)(x:Str)(v:V),X.N[i]?=O x->σ[i]?=O (O v)->Vis X.env.scope x->∃u,RelV v u/\Look X.env s.heap m x u
 cell:∀x c,X.env.cells.lookup x=O c->∃v,s.heap.IsCell c v
 free:H X.env.locals=w9
 freeC:∀x c,X.env.cells.lookup x=O c->H c=w9
 pin:∀p∈X.pn++pins,s.heap.get? p.1=O p.2/\H p.1=w9/\p.1≠X.env.locals/\p.1∉X.fs/\∀v,p.2.data≠.cell v
 hok:HOk X.prog X.w H s.heap
 len:σ.length=X.N.length
section
variable{X:Cx}{pins:List (Ux×Obj)}{σ:List (Option V)}{H H':Hp}{s:Uv}{h':Heap}
theorem Cx.Ok.nofr(ok:X.Ok){b:Ux}{o:Obj}(e:X.base.get? b=O o):b∉X.fs:=λhb=>by have:=(ok.funs.mem hb).1;rw[e]at this;cases this
theorem Inv.bs(I:Inv X pins σ H s):∀b o,X.base.get? b=O o->s.heap.get? b=O o/\H b=w9:=λb o e=>
 ⟨I.base.keep b o (I.ok.bs b o e).1 (I.ok.bs b o e).2 (I.ok.nofr e) (I.ok.noex b o e),I.base.free b o (I.ok.bs b o e).1 (I.ok.bs b o e).2 (I.ok.noex b o e)⟩
theorem Inv.bk(I:Inv X pins σ H s):∀b o,X.base.get? b=O o->s.heap.get? b=O o:=λb o e=>(I.bs b o e).1
theorem Inv.mod(I:Inv X pins σ H s):Mod X.K X.mg X.base:=I.ok.mod
theorem Inv.kIn(I:Inv X pins σ H s):X.K.In s.heap:=I.ok.mod.kin.keeps I.bk
theorem Inv.lt(I:Inv X pins σ H s):X.env.locals<s.heap.objs.size:=let ⟨_,hn,_⟩:=I.loc;hn.lt
theorem Inv.sz(I:Inv X pins σ H s):X.s₀.heap.objs.size<=s.heap.objs.size:=QJ I.ok.above (Ur I.lt)
theorem Inv.nofs(I:Inv X pins σ H s){a:Ux}(h:s.heap.objs.size<=a):a∉X.fs:=λhb=>by obtain⟨_,o,ho,_⟩:=I.ok.funs.mem hb;exact absurd (QG (Qj ho) (QJ I.sz h)) (Jv _)
theorem Inv.cne(I:Inv X pins σ H s):∀x c,X.env.cells.lookup x=O c->c≠X.env.locals:=λx c e z=>by obtain⟨v,o,ho,hd⟩:=I.cell x c e;obtain⟨m,⟨o',es,ep,ho',hd',_⟩,_⟩:=I.loc;rw[z,ho']at ho;cases ho;rw[hd']at hd;cases hd
theorem Inv.funs(I:Inv X pins σ H s):s.heap.FunFrames X.base X.outer:=by
 have all:∀(l:List Env),(∀b∈frs l,b∈X.fs)->X.s₀.heap.FunFrames X.base l->s.heap.FunFrames X.base l:=by
  intro l;induction l with
  |nil=>intro _ _;trivial
  |cons env r ih=>
   intro hs hl;obtain⟨hk,⟨L,o,hf,hn,ho,hd⟩,hr⟩:=hl;have hL:L∈X.fs:=hs L (by unfold frs;rw[JD,hf];exact Qi);obtain⟨sl,e⟩:=I.base.slot L o ho (I.ok.frf L hL) hL λz=>I.ok.exfs L z hL
   exact⟨hk,⟨L,_,hf,hn,e,hd⟩,ih (λb hb=>hs b (by unfold frs;rw[JD,hf];exact Qh _ hb)) hr⟩
 exact all X.outer (λ_ hb=>hb) I.ok.funs
theorem Inv.stack(I:Inv X pins σ H s):s.heap.FunFrames X.base X.stack:=by
 rcases I.ok.stk with e|⟨e,hf⟩
 .rw[e];exact I.funs
 .rw[e]
  obtain⟨m,hn,_⟩:=I.loc;refine .cons (by rw[I.ok.kind];decide) hf hn ?_ I.funs;exact Heap.get?_none_of_le (QJ I.ok.bsz I.ok.above)
theorem Inv.stkSub(I:Inv X pins σ H s):∀b∈frs X.stack,b∈X.env.locals::X.fs:=λb hb=>by
 rcases I.ok.stk with e|⟨e,hf⟩
 .rw[e]at hb;exact Qh _ hb
 .rw[e]at hb
  unfold frs at hb;rw[JD,hf]at hb;exact hb
theorem Inv.stkFree(I:Inv X pins σ H s):∀b∈frs X.stack,H b=w9:=λb hb=>by
 rcases Qw.mp (I.stkSub b hb)with e|hb
 .rw[e];exact I.free
 .obtain⟨_,o,ho,_⟩:=I.ok.funs.mem hb
  exact I.base.free b o ho (I.ok.frf b hb) λz=>I.ok.exfs b z hb
theorem Inv.step{g':Array GenState}{t':Nat}{d':Drawn}{ch:yh}(I:Inv X pins σ H s)
  (hch:∀b∈ch,(b∈X.ex∨X.s₀.heap.objs.size<=b)/\b≠X.env.locals/\(∀x c,X.env.cells.lookup x=O c->c≠b)/\∀p∈X.pn++pins,p.1≠b)
  (keep:∀b o,b≠X.env.locals->b∉X.fs->b∉ch->s.heap.get? b=O o->H b=w9->h'.get? b=O o)
  (slot:∀b o,b≠X.env.locals->b∈X.fs->b∉ch->s.heap.get? b=O o->H b=w9->∃sl,h'.get? b=O {o with slots:=sl}) (free:∀b o,b∉ch->s.heap.get? b=O o->H b=w9->H' b=w9)
  (there:∀b o,b∉ch->s.heap.get? b=O o->∃o',h'.get? b=O o')
  (tups:∀b xs,H b=O (.tup xs)->H' b=O (.tup xs)) (frzs:∀b o u,H b=O (.frz o u)->H' b=O (.frz o u)) (tbls:∀b ps,H b=O (.tbl ps)->∃more,H' b=O (.tbl (ps++more)))
  (ns:∀m,s.heap.Ns X.env.locals m->h'.Ns X.env.locals m) (hok:HOk X.prog X.w H' h') (hg:AllBare g') :
  Inv X pins σ H' {s with heap:=h',gens:=g',drawn:=d',toks:=t'}:=by
 have neL:∀b o,X.s₀.heap.get? b=O o->b≠X.env.locals:=λb o e=>QT (QG (Qj e) I.ok.above)
 have neC:∀b o,X.s₀.heap.get? b=O o->b∉X.ex->b∉ch:=λb o e hx hb=>by
  rcases(hch b hb).1 with z|z
  .exact hx z
  .exact absurd (QG (Qj e) z) (Jv _)
 have cellK:∀x c,X.env.cells.lookup x=O c->∀v,s.heap.IsCell c v->h'.IsCell c v:=λx c e v ⟨o,ho,hd⟩=>by
  have nch:c∉ch:=λz=>(hch c z).2.2.1 x c e w8
  by_cases hc:c∈X.fs
  .obtain⟨sl,q⟩:=slot c o (I.cne x c e) hc nch ho (I.freeC x c e)
   exact⟨_,q,hd⟩
  .exact⟨o,keep c o (I.cne x c e) hc nch ho (I.freeC x c e),hd⟩
 refine⟨I.ok,I.os,hg,⟨λb o e n hb hx=>?_,λb o e n hb hx=>?_,λb o e n hx=>?_,λb o e hx=>?_,λb xs e=>tups b xs (I.base.tups b xs e),λb o xs e=>frzs b o xs (I.base.frzs b o xs e),λb ps e=>?_⟩,?_,λx c e=>?_,?_,λx c e=>?_,λp hp=>?_,hok,I.len⟩
 .exact keep b o (neL b o e) hb (neC b o e hx) (I.base.keep b o e n hb hx) (I.base.free b o e n hx)
 .obtain⟨sl,e1⟩:=I.base.slot b o e n hb hx
  obtain⟨yL,e2⟩:=slot b _ (neL b o e) hb (neC b o e hx) e1 (I.base.free b o e n hx);exact⟨yL,e2⟩
 .obtain⟨o',e1⟩:=I.base.there b o e hx
  exact free b o' (neC b o e hx) e1 (I.base.free b o e n hx)
 .obtain⟨o',e1⟩:=I.base.there b o e hx
  exact there b o' (neC b o e hx) e1
 .obtain⟨m1,e1⟩:=I.base.tbls b ps e
  obtain⟨m2,e2⟩:=tbls b _ e1;exact⟨m1++m2,by rw[e2,Array.append_assoc]⟩
 .obtain⟨m,hn,hl⟩:=I.loc
  refine⟨m,ns m hn,λi x v e1 e2 e3=>?_⟩;obtain⟨u,r,l⟩:=hl i x v e1 e2 e3;refine⟨u,r,?_⟩;rcases l with l|⟨k,c,e,z⟩
  .exact .inl l
  .exact .inr ⟨k,c,e,cellK x c e _ z⟩
 .obtain⟨v,z⟩:=I.cell x c e
  exact⟨v,cellK x c e v z⟩
 .obtain⟨m,⟨o,_,_,ho,_⟩,_⟩:=I.loc
  exact free _ o (λz=>(hch _ z).2.1 w8) ho I.free
 .obtain⟨v,o,ho,hd⟩:=I.cell x c e
  exact free c o (λz=>(hch c z).2.2.1 x c e w8) ho (I.freeC x c e)
 .obtain⟨e,n,ne,nf,d⟩:=I.pin p hp
  have nch:p.1∉ch:=λz=>(hch p.1 z).2.2.2 p hp w8
  exact⟨keep p.1 p.2 ne nf nch e n,free p.1 p.2 nch e n,ne,nf,d⟩
theorem Inv.un{t':Nat}(I:Inv X pins σ H s)(u:Un X.fs [] H H' s.heap h')(hok:HOk X.prog X.w H' h'):Inv X pins σ H' {s with heap:=h',toks:=t'}:=by obtain⟨m,⟨o,es,ep,ho,r⟩,_⟩:=id I.loc;obtain⟨sl,hL⟩:=u.any ho I.free (by simp);exact I.step (g':=s.gens) (d':=s.drawn) (ch:=[]) (λ_ z=>nomatch z) (λb o _ hb _ e n=>u.keep b o e n hb (by simp)) (λb o _ hb _ e n=>u.slot b o e n hb (by simp)) (λb o _ e n=>u.free b o e n (by simp)) (λb o _ e=>u.there b o e (by simp)) u.tups u.frzs u.tbls (λm' hm=>by obtain⟨o',es',ep',ho',r'⟩:=hm;rw[ho]at ho';cases ho';exact⟨_,es',ep',hL,r'⟩) hok I.bare
theorem Inv.call{g':Array GenState}{t':Nat}{d':Drawn}{ch:yh}(I:Inv X pins σ H s)(u:Un (frs X.stack) ch H H' s.heap h')(hok:HOk X.prog X.w H' h')(hg:AllBare g')
  (hch:∀b∈ch,(b∈X.ex∨X.s₀.heap.objs.size<=b)/\b≠X.env.locals/\(∀x c,X.env.cells.lookup x=O c->c≠b)/\∀p∈X.pn++pins,p.1≠b) :
  Inv X pins σ H' {s with heap:=h',gens:=g',drawn:=d',toks:=t'}:=by
 obtain⟨m,⟨o,es,ep,ho,r⟩,_⟩:=id I.loc;obtain⟨sl,hL⟩:=u.any ho I.free λz=>(hch _ z).2.1 w8
 exact I.step (ch:=ch) hch (λb o hL hb hc e n=>u.keep b o e n (λz=>(Qw.mp (I.stkSub b z)).elim hL hb) hc) (λb o _ _ hc e n=>u.any e n hc) (λb o hc e n=>u.free b o e n hc) (λb o hc e=>u.there b o e hc) u.tups u.frzs u.tbls (λm' hm=>by obtain⟨o',es',ep',ho',r'⟩:=hm;rw[ho]at ho';cases ho';exact⟨_,es',ep',hL,r'⟩) hok hg
theorem Inv.turned{t':Nat}{it:Ux}(I:Inv X pins σ H s)(k:∀b o,b≠it->s.heap.get? b=O o->h'.get? b=O o)(hn:H it=w9)(hL:it≠X.env.locals)
  (h1:it∈X.ex∨X.s₀.heap.objs.size<=it) (h2:∀x c,X.env.cells.lookup x=O c->c≠it) (h3:∀p∈X.pn++pins,p.1≠it):Inv X pins σ H {s with heap:=h',toks:=t'}:=by
 have nit:∀b u,H b=O u->b≠it:=λb u e z=>by rw[z,hn]at e;cases e
 refine I.step (g':=s.gens) (d':=s.drawn) (ch:=[it]) (λb hb=>?_) (λb o _ _ hc e _=>k b o (λz=>hc (by simp[z])) e) (λb o _ _ hc e _=>⟨o.slots,k b o (λz=>hc (by simp[z])) e⟩) (λ_ _ _ _ n=>n)
  (λb o hc e=>⟨o,k b o (λz=>hc (by simp[z])) e⟩) (λ_ _ e=>e) (λ_ _ _ e=>e) (λb ps e=>⟨#[],by rw[e];simp⟩) (λm hm=>?_) (λb u e=>?_) I.bare
 .have e:b=it:=by simpa using hb
  subst e;exact⟨h1,hL,h2,h3⟩
 .obtain⟨o,es,ep,ho,r⟩:=hm
  exact⟨o,es,ep,k _ o (Ne.symm hL) ho,r⟩
 .refine(I.hok b u e).stay (λc v hc q=>k c v ?_ q) (λ_ q=>q) λ_ _ q=>q
  rcases hc with z|z
  .rw[z];exact nit b u e
  .exact nit c _ z
theorem Inv.tok(I:Inv X pins σ H s)(t:Nat):Inv X pins σ H {s with toks:=t}:=I.un (h':=s.heap) (t':=t) Un.refl I.hok
theorem Inv.kept{t':Nat}(I:Inv X pins σ H s)(k:∀b u,s.heap.get? b=O u->h'.get? b=O u):Inv X pins σ H {s with heap:=h',toks:=t'}:=I.un (Un.kept k) (I.hok.kept k)
theorem Inv.laid{a:Ux}{o:HO}{t':Nat}(I:Inv X pins σ H s)(k:∀b u,s.heap.get? b=O u->h'.get? b=O u)(hp:s.heap.objs.size<=a)(new:ZW X.prog X.w (upd H a o) h' a o) :
  Inv X pins σ (upd H a o) {s with heap:=h',toks:=t'}:=I.un (Un.laid k hp (I.hok.fresh hp)) (I.hok.laid k hp new)
theorem Inv.write{x e:Ux}{o:HO}{t':Nat}(I:Inv X pins σ H s)(mu:Mut (H x))(he:e=x∨H e=O (.own x))(k:∀b u,b≠e->s.heap.get? b=O u->h'.get? b=O u)(z9:∃u,h'.get? e=O u)
  (new:ZW X.prog X.w (upd H x o) h' x o):Inv X pins σ (upd H x o) {s with heap:=h',toks:=t'}:=I.un (Un.write mu he k z9) (I.hok.write mu he k z9 new)
theorem Inv.pins_of{pins':List (Ux×Obj)}(I:Inv X pins σ H s)(h:∀p∈pins',s.heap.get? p.1=O p.2/\H p.1=w9/\p.1≠X.env.locals/\p.1∉X.fs/\∀v,p.2.data≠.cell v):Inv X pins' σ H s:=
 ⟨I.ok,I.os,I.bare,I.base,I.loc,I.cell,I.free,I.freeC,λp hp=>(QC.mp hp).elim (λz=>I.pin p (QI _ z)) (h p),I.hok,I.len⟩
theorem GF{N:List Str}(hN:N.Nodup){i j:Nat}{x:Str}(a:N[i]?=O x)(b:N[j]?=O x):i=j:=by obtain⟨h1,e1⟩:=Qg.mp a;obtain⟨h2,e2⟩:=Qg.mp b;exact(List.getElem_inj hN).mp (e1.trans e2.symm)
theorem Mz{M:Model}{A:Around}{E:Uu->Uv->Prop}{i:Nat}{x:Str}{v:V}{u:Uu}{Q:Unit->Uv->Prop}(I:Inv X pins σ H s)(hN:X.N.Nodup)(hi:X.N[i]?=O x)(hx:Loc X.env.scope x)(r:RelV v u)
  (h:∀s',Inv X pins (σ.set i (O v)) H s'->(∃a,Heap.SameBut a s.heap s'.heap/\(a=X.env.locals∨X.env.cells.lookup x=O a))->Q () s') (hf:X.fn x=ya∨X.env.scope.names.lookup x=O .local:=by first|exact .inl rfl|exact .inr rfl|assumption):UB M A (storeName X.env x u) Q E s:=by
 obtain⟨m,hn,hl⟩:=id I.loc;have hcls:(X.env.scope.kind==.class || (X.env.scope.kind==.module&&X.env.locals != X.env.globals))=yb:=by rw[I.ok.kind];rfl
 have hiσ:i<σ.length:=by rw[I.len];exact(Qg.mp hi).1
 have cne:=I.cne
 have tracked:∀{a:Ux}{h':Heap},(∃o,s.heap.get? a=O o/\H a=w9)->Heap.SameBut a s.heap h'->HOk X.prog X.w H h':=λ{a h'} ha hs b ob e=>by
  obtain⟨_,_,hfree⟩:=ha;refine(I.hok b ob e).stay (λc w' hc q=>(hs.2 c ?_).trans q) (λ_ q=>q) λ_ _ q=>q
  rintro rfl;rcases hc with rfl|hc
  .rw[hfree]at e;cases e
  .rw[hfree]at hc;cases hc
 rcases hx with hk|hk
 .refine wpAny_storeName_local hk hn (λh' hn' hs=>?_) hcls
  obtain⟨oL,_,_,hoL,_⟩:=id hn;refine h _ ⟨I.ok,I.os,I.bare,⟨λb o e n hb hx=>?_,λb o e n hb hx=>?_,I.base.free,λb o e hx=>?_,I.base.tups,I.base.frzs,I.base.tbls⟩,⟨_,hn',λj y v' e1 e2 e3=>?_⟩,λy c e=>?_,I.free,I.freeC,λp hp=>?_,tracked ⟨oL,hoL,I.free⟩ hs,by simpa using I.len⟩ ⟨_,hs,.inl w8⟩
  .exact(hs.2 b (QT (QG (Qj e) I.ok.above))).trans (I.base.keep b o e n hb hx)
  .obtain⟨sl,e1⟩:=I.base.slot b o e n hb hx
   exact⟨sl,(hs.2 b (QT (QG (Qj e) I.ok.above))).trans e1⟩
  .obtain⟨o',e1⟩:=I.base.there b o e hx
   exact⟨o',(hs.2 b (QT (QG (Qj e) I.ok.above))).trans e1⟩
  .by_cases hj:j=i
   .subst hj
    rw[hi]at e1;cases e1;rw[QL hiσ]at e2;cases e2;exact⟨u,r,.inl ⟨hk,by simp⟩⟩
   .rw[Qr (Ne.symm hj)]at e2
    obtain⟨u',r',q⟩:=hl j y v' e1 e2 e3;refine⟨u',r',?_⟩;rcases q with ⟨k,e⟩|⟨k,c,e,z⟩
    .refine .inl ⟨k,?_⟩
     have:y≠x:=λe=>hj (GF hN e1 (e ▸ hi))
     simp[this,e]
    .exact .inr ⟨k,c,e,z.sameBut hs (cne y c e)⟩
  .obtain⟨w',z⟩:=I.cell y c e
   exact⟨w',z.sameBut hs (cne y c e)⟩
  .obtain⟨e,n,ne,nf,d⟩:=I.pin p hp
   exact⟨(hs.2 p.1 ne).trans e,n,ne,nf,d⟩
 .have hfn:X.fn x=ya:=by
   rcases hf with z|z
   .exact z
   .rw[z]at hk;cases hk
  obtain⟨c,hc⟩:=I.ok.has x (.inl hk);obtain⟨w',z⟩:=I.cell x c hc;refine wpAny_storeName_cell I.ok.kind hk hc z (λh' hc' hs=>?_);obtain⟨oc,hoc,hocd⟩:=id z;refine h {s with heap:=h'} ⟨I.ok,I.os,I.bare,⟨λb o e n hb hx=>?_,λb o e n hb hx=>?_,I.base.free,λb o e hx=>?_,I.base.tups,I.base.frzs,I.base.tbls⟩,⟨m,hn.sameBut hs (Ne.symm (cne x c hc)),λj y v' e1 e2 e3=>?_⟩,λy c' e=>?_,I.free,I.freeC,λp hp=>?_,tracked ⟨oc,hoc,I.freeC x c hc⟩ hs,by simpa using I.len⟩ ⟨c,hs,.inr hc⟩
  .exact(hs.2 b (QT (QG (Qj e) (I.ok.cab x c hfn hc)))).trans (I.base.keep b o e n hb hx)
  .obtain⟨sl,e1⟩:=I.base.slot b o e n hb hx
   exact⟨sl,(hs.2 b (QT (QG (Qj e) (I.ok.cab x c hfn hc)))).trans e1⟩
  .obtain⟨o',e1⟩:=I.base.there b o e hx
   exact⟨o',(hs.2 b (QT (QG (Qj e) (I.ok.cab x c hfn hc)))).trans e1⟩
  .by_cases hj:j=i
   .subst hj
    rw[hi]at e1;cases e1;rw[QL hiσ]at e2;cases e2;exact⟨u,r,.inr ⟨.inl hk,c,hc,hc'⟩⟩
   .rw[Qr (Ne.symm hj)]at e2
    obtain⟨u',r',q⟩:=hl j y v' e1 e2 e3;refine⟨u',r',?_⟩;rcases q with q|⟨k,c',e,z'⟩
    .exact .inl q
    .refine .inr ⟨k,c',e,z'.sameBut hs ?_⟩
     rintro rfl;exact hj (GF hN e1 (I.ok.inj _ _ _ e hc ▸ hi))
  .by_cases hcc:c'=c
   .subst hcc;exact⟨_,hc'⟩
   .obtain⟨w2,z2⟩:=I.cell y c' e
    exact⟨w2,z2.sameBut hs hcc⟩
  .obtain⟨e,n,ne,nf,d⟩:=I.pin p hp
   refine⟨(hs.2 p.1 ?_).trans e,n,ne,nf,d⟩;intro q;rw[q,hoc]at e;have q':oc=p.2:=Q5 e;exact d w' (by rw[←q'];exact hocd)
theorem Ml{M:Model}{A:Around}{E:Uu->Uv->Prop}{i:Nat}{x:Str}{v:V}{u:Uu}{Q:Unit->Uv->Prop}(I:Inv X pins σ H s)(hN:X.N.Nodup)(hi:X.N[i]?=O x)(hx:Loc X.env.scope x)(r:RelV v u)
  (h:∀s',Inv X pins (σ.set i (O v)) H s'->Q () s') (hf:X.fn x=ya∨X.env.scope.names.lookup x=O .local:=by first|exact .inl rfl|exact .inr rfl|assumption):UB M A (storeName X.env x u) Q E s:=
 Mz I hN hi hx r (λs' I' _=>h s' I') hf
theorem Inv.call'{s':Uv}{ch:yh}(I:Inv X pins σ H s)(ho:s'.os=s.os)(u:Un (frs X.stack) ch H H' s.heap s'.heap)(hok:HOk X.prog X.w H' s'.heap)(hg:AllBare s'.gens)
  (hch:∀b∈ch,(b∈X.ex∨X.s₀.heap.objs.size<=b)/\b≠X.env.locals/\(∀x c,X.env.cells.lookup x=O c->c≠b)/\∀p∈X.pn++pins,p.1≠b):Inv X pins σ H' s':=by
 obtain⟨h',g',d',t',o'⟩:=s';have e:o'=s.os:=ho;subst e;exact I.call (g':=g') (t':=t') (d':=d') u hok hg hch
end
abbrev XK:=Uu->yo->Hp->Prop
abbrev St:=List (Option V)
abbrev VK:=V->Hp->Prop
abbrev TE:=St->Hp->VK->Prop
abbrev TT:=St->Hp->(Bool->Hp->Prop)->Prop
abbrev TA:=St->Hp->(List V->Hp->Prop)->Prop
structure Ends where
 nx:St->Hp->Prop
 rt:VK
 bk:St->Hp->Prop:=λ_ _=>False
 ct:St->Hp->Prop:=λ_ _=>False
abbrev TS:=Ends->St->Hp->Prop
def EP(X:Cx)(pins:List (Ux×Obj))(σ:St)(Q:VK)(u:Uu)(s':Uv):Prop:=∃v H',Inv X pins σ H' s'/\RelV v u/\Q v H'
def TP(X:Cx)(pins:List (Ux×Obj))(σ:St)(Q:Bool->Hp->Prop)(b:Bool)(s':Uv):Prop:=∃H',Inv X pins σ H' s'/\Q b H'
def AP(X:Cx)(pins:List (Ux×Obj))(σ:St)(Q:List V->Hp->Prop)(us:yf)(s':Uv):Prop:=∃vs H',Inv X pins σ H' s'/\Vals vs us/\Q vs H'
def SP(X:Cx)(pins:List (Ux×Obj))(D:Ends)(f:Flow)(s':Uv):Prop:=
 match f with
 |.next=>∃σ' H',Inv X pins σ' H' s'/\D.nx σ' H'
 |.brk=>∃σ' H',Inv X pins σ' H' s'/\D.bk σ' H'
 |.cont=>∃σ' H',Inv X pins σ' H' s'/\D.ct σ' H'
 |.ret u=>∃v σ' H',Inv X pins σ' H' s'/\RelV v u/\D.rt v H'
def PE(X:Cx)(e:Uz)(t:TE):Prop:=
 ∀(pins:List (Ux×Obj))(s:Uv)(σ:St)(H:Hp)(Q:VK),Inv X pins σ H s->t σ H Q->UB (model X.prog X.w) X.A (eval e X.env) (EP X pins σ Q) X.xe s
def PT(X:Cx)(e:Uz)(t:TT):Prop:=
 ∀(pins:List (Ux×Obj))(s:Uv)(σ:St)(H:Hp)(Q:Bool->Hp->Prop),Inv X pins σ H s->t σ H Q->UB (model X.prog X.w) X.A (isTrue e X.env (eval e X.env)) (TP X pins σ Q) X.xe s
def PW(X:Cx)(e:Uz)(t:TT):Prop:=
 ∀(whole:Sem Uu)(pins:List (Ux×Obj))(s:Uv)(σ:St)(H:Hp)(Q:Bool->Hp->Prop),Inv X pins σ H s->t σ H Q->UB (model X.prog X.w) X.A (isTrue e X.env whole) (TP X pins σ Q) X.xe s
theorem PW.pt{X:Cx}{e:Uz}{t:TT}(h:PW X e t):PT X e t:=h _
def PA(X:Cx)(es:yg)(t:TA):Prop:=
 ∀(pos:Pos)(pins:List (Ux×Obj))(s:Uv)(σ:St)(H:Hp)(Q:List V->Hp->Prop),Inv X pins σ H s->t σ H Q->UB (model X.prog X.w) X.A (spliced (backTo pos (UC es X.env))) (AP X pins σ Q) X.xe s
def PS(X:Cx)(st:Stmt)(t:TS):Prop:=
 ∀(pins:List (Ux×Obj))(s:Uv)(σ:St)(H:Hp)(D:Ends),Inv X pins σ H s->t D σ H->UB (model X.prog X.w) X.A (exec st X.env) (SP X pins D) X.xe s
def PSs(X:Cx)(st:List Stmt)(t:TS):Prop:=
 ∀(pins:List (Ux×Obj))(s:Uv)(σ:St)(H:Hp)(D:Ends),Inv X pins σ H s->t D σ H->UB (model X.prog X.w) X.A (execs st X.env) (SP X pins D) X.xe s
theorem thn{α:Type}{t:Sem α}{Q Q':α->Uv->Prop}{M:Model}{A:Around}{E:Uu->Uv->Prop}{s:Uv}(h:UB M A t Q E s)(hQ:∀a s,Q a s->Q' a s):UB M A t Q' E s:=QN h hQ λ_ _ x=>x
section
variable{X:Cx}
noncomputable def Za(i:Nat):TE:=λσ H Q=>∃v,σ[i]?=O (O v)/\Q v H
noncomputable def tC(v:V):TE:=λ_ H Q=>Q v H
theorem LF{i:Nat}{x:Str}{pos:Pos}(hN:X.N[i]?=O x)(hv:Vis X.env.scope x)(hd:(x==("__debug__" : Str))=yb:=by decide)(hcd:(x==("__classdict__" : Str))=yb:=by decide):PE X (.Name x pos) (Za i):=by
 intro pins s σ H Q I h;obtain⟨v,e,h⟩:=h;obtain⟨m,hn,hl⟩:=I.loc;obtain⟨u,r,l⟩:=hl i x v hN e hv;have fin:EP X pins σ Q u s:=⟨v,H,I,r,h⟩;rcases l with ⟨hk,hm⟩|⟨hk,c,hc,hcell⟩
 .exact wpAny_Name (wpAny_loadName_local I.ok.kind hk hn hm fin) hd
 .rcases hk with hk|hk
  .exact wpAny_Name (wpAny_loadName_cell I.ok.kind hk hc hcell fin) hd
  .exact wpAny_Name (wpAny_loadName_free I.ok.kind hk hc hcell fin hcd) hd
theorem P4{i j pos}:PE X (.Constant (.int i) j pos) (tC (.int i)):=λ_ _ _ H _ I h=>wpAny_Constant_int ⟨.int i,H,I.tok _,⟨_,rfl⟩,h⟩
theorem Ch{b j pos}:PE X (.Constant (.bool b) j pos) (tC (.bl b)):=λ_ _ _ H _ I h=>Constant_bool ⟨.bl b,H,I,rfl,h⟩
theorem Bb{j pos}:PE X (.Constant .none j pos) (tC .non):=λ_ _ _ H _ I h=>Constant_none ⟨.non,H,I,rfl,h⟩
theorem Ba{x j pos}:PE X (.Constant (.str x) j pos) (tC (.str x)):=λ_ _ _ H _ I h=>Calls.Constant_str ⟨.str x,H,I.tok _,⟨_,rfl⟩,h⟩
def Gl(X:Cx)(x:Str):Prop:=X.env.kindOf x=O .globalImplicit
theorem HY{E:Uu->Uv->Prop}{pins:List (Ux×Obj)}{s:Uv}{σ:St}{H:Hp}{x:Str}{u:Uu}{pos:Pos}{Q:Uu->Uv->Prop}(I:Inv X pins σ H s)(hg:Gl X x)(hm:X.mg x=O u)(h:Q u s)
  (hd:(x==("__debug__" : Str))=yb:=by decide):UB (model X.prog X.w) X.A (eval (.Name x pos) X.env) Q E s:=
 Calls.Name_function_global I.ok.kind hg (Calls.loadGlobal_global (by rw[I.ok.glob];exact I.mod.glob.keeps I.bk) hm h) hd
theorem V9{E:Uu->Uv->Prop}{pins:List (Ux×Obj)}{s:Uv}{σ:St}{H:Hp}{x:Str}{u:Uu}{pos:Pos}{Q:Uu->Uv->Prop}(I:Inv X pins σ H s)(hg:Gl X x)(hm:X.mg x=w9)(hv:bootBuiltins x=O u)(h:Q u s)
  (hn:x ≠ "__name__" :=by decide) (hd:(x==("__debug__" : Str))=yb:=by decide):UB (model X.prog X.w) X.A (eval (.Name x pos) X.env) Q E s:=by
 obtain⟨mb,h1,h2⟩:=I.mod.blt;exact Calls.Name_function_global I.ok.kind hg (Calls.loadGlobal_builtin (by rw[I.ok.glob];exact I.mod.glob.keeps I.bk) hm (by rw[I.ok.blt];exact h1.keeps I.bk) ((h2 x hn).trans hv) h) hd
theorem HX{x:Str}{v:V}{u:Uu}{pos:Pos}(hg:Gl X x)(hm:X.mg x=O u)(r:RelV v u)(hd:(x==("__debug__" : Str))=yb:=by decide):PE X (.Name x pos) (tC v):=
 λ_ _ _ H _ I h=>HY I hg hm ⟨v,H,I,r,h⟩ hd
theorem AD{x:Str}{v:V}{u:Uu}{pos:Pos}(hg:Gl X x)(hm:X.mg x=w9)(hv:bootBuiltins x=O u)(r:RelV v u)(hn:x ≠ "__name__" :=by decide)(hd:(x==("__debug__" : Str))=yb:=by decide):PE X (.Name x pos) (tC v):=
 λ_ _ _ H _ I h=>V9 I hg hm hv ⟨v,H,I,r,h⟩ hn hd
variable{a b:Uz}{ta tb:TE}{pos:Pos}
def PC(X:Cx)(op:CmpOp)(a b:Uz)(t:TE):Prop:=
 ∀(pins:List (Ux×Obj))(s:Uv)(σ:St)(H:Hp)(Q:VK),Inv X pins σ H s->t σ H Q ->
  UB (model X.prog X.w) X.A (eval a X.env) (λv s₁=>UB (model X.prog X.w) X.A (eval b X.env) (λu s₂=>UB (model X.prog X.w) X.A (UD op v u) (EP X pins σ Q) X.xe s₂) X.xe s₁) X.xe s
theorem OF(b:Uz){op:CmpOp}(h:op≠.In)(h2:op≠.NotIn):behindInMarks op b=yb:=by
 have e1:(op==CmpOp.In)=yb:=by cases op<;>first|rfl|exact absurd w8 h
 have e2:(op==CmpOp.NotIn)=yb:=by cases op<;>first|rfl|exact absurd w8 h2
 cases b<;>simp[behindInMarks,e1,e2]
noncomputable def tIsN(ta:TE):TE:=λσ H Q=>ta σ H λx H1=>Q (.bl (decide (x=.non))) H1
noncomputable def Cg(ta:TE):TE:=λσ H Q=>ta σ H λx H1=>Q (.bl (!decide (x=.non))) H1
theorem RelV.none_iff{x:V}{v:Uu}(r:RelV x v):(v==Value.none)=decide (x=.non):=by
 cases x with
 |non=>cases r;rfl
 |bl _=>cases r;rfl
 |int _=>obtain⟨t,rfl⟩:=r;rfl
 |str _=>obtain⟨t,rfl⟩:=r;rfl
 |byt _=>obtain⟨t,rfl⟩:=r;rfl
 |flt _=>obtain⟨t,rfl⟩:=r;rfl
 |ref _=>cases r;rfl
 |ty _=>cases r;rfl
theorem LD{j pos'}(ha:PE X a ta):PC X .Is a (.Constant .none j pos') (tIsN ta):=by intro pins s σ H Q I h;refine thn (ha pins s σ H _ I h) λv s1 ⟨x,H1,I1,r1,q1⟩=>?_;exact Constant_none (is_none_gen ⟨.bl _,H1,I1,by rw[r1.none_iff];rfl,q1⟩)
theorem AC{j pos'}(ha:PE X a ta):PC X .IsNot a (.Constant .none j pos') (Cg ta):=by intro pins s σ H Q I h;refine thn (ha pins s σ H _ I h) λv s1 ⟨x,H1,I1,r1,q1⟩=>?_;exact Constant_none (isnot_none_gen ⟨.bl _,H1,I1,by rw[r1.none_iff];rfl,q1⟩)
noncomputable def tB(t:TE):TT:=λσ H Q=>t σ H λx H1=>∃c,x=.bl c/\Q c H1
theorem C9{op:CmpOp}{t:TE}(h:PC X op a b t)(h1:behindInMarks op b=yb:=by first|exact OF _ (by decide) (by decide)|rfl):PE X (.Compare a [op] [b] pos) t:=λpins s σ H Q I hw=>wpAny_Compare1 (h pins s σ H Q I hw) h1
theorem P3{op:CmpOp}{t:TE}(h:PC X op a b t)(h1:behindInMarks op b=yb:=by first|exact OF _ (by decide) (by decide)|rfl):PT X (.Compare a [op] [b] pos) (tB t):=by intro pins s σ H Q I hw;refine wpAny_isTrue_Compare1 (thn (h pins s σ H _ I hw) λv s1 h1=>thn h1 λu s2 h2=>thn h2 λc s3 ⟨x,H1,I1,r1,q1⟩=>?_) h1;obtain⟨d,rfl,q⟩:=q1;cases r1;exact Q7 ⟨H1,I1,q⟩
theorem C8{e:Uz}{t:TE}(h:PE X e t)(he:∀whole,isTrue e X.env whole=(do let v ←whole;standAt e.pos;holding [v] (truthy v)):=by intro _;rfl):PT X e (tB t):=by intro pins s σ H Q I hw;refine isTrue_plain (thn (h pins s σ H _ I hw) λv s1 ⟨x,H1,I1,r1,q1⟩=>?_) (he _);obtain⟨d,rfl,q⟩:=q1;cases r1;exact Q7 ⟨H1,I1,q⟩
variable{tA tB':TT}{rest:yg}
noncomputable def tAnd(t u:TT):TT:=λσ H Q=>t σ H λc H1=>if c=ya then u σ H1 Q else Q yb H1
noncomputable def tOr(t u:TT):TT:=λσ H Q=>t σ H λc H1=>if c=ya then Q ya H1 else u σ H1 Q
noncomputable def tNot(t:TT):TT:=λσ H Q=>t σ H λc H1=>Q (!c) H1
theorem AB(ha:PT X a tA):PW X (.BoolOp .And [a] pos) tA:=by
 intro wh pins s σ H Q I h;refine isTrue_and (thn (ha pins s σ H Q I h) λc s1 e=>?_);cases c with
 |true=>exact isTrue_and_nil e
 |false=>exact e
theorem C7(ha:PT X a tA):PW X (.BoolOp .Or [a] pos) tA:=by
 intro wh pins s σ H Q I h;refine isTrue_or (thn (ha pins s σ H Q I h) λc s1 e=>?_);cases c with
 |false=>exact isTrue_or_nil e
 |true=>exact e
theorem C6(ha:PT X a tA)(hb:PW X (.BoolOp .And (b::rest) pos) tB'):PW X (.BoolOp .And (a::b::rest) pos) (tAnd tA tB'):=by
 intro wh pins s σ H Q I h;refine isTrue_and (thn (ha pins s σ H _ I h) λc s1 ⟨H1,I1,q1⟩=>?_);cases c with
 |true=>exact hb wh pins s1 σ H1 Q I1 q1
 |false=>exact⟨H1,I1,q1⟩
theorem Cf(ha:PT X a tA)(hb:PW X (.BoolOp .Or (b::rest) pos) tB'):PW X (.BoolOp .Or (a::b::rest) pos) (tOr tA tB'):=by
 intro wh pins s σ H Q I h;refine isTrue_or (thn (ha pins s σ H _ I h) λc s1 ⟨H1,I1,q1⟩=>?_);cases c with
 |true=>exact⟨H1,I1,q1⟩
 |false=>exact hb wh pins s1 σ H1 Q I1 q1
theorem C5(ha:PT X a tA):PT X (.UnaryOp .Not a pos) (tNot tA):=by intro pins s σ H Q I h;exact isTrue_not (ha pins s σ H (λc H1=>Q (!c) H1) I h)
noncomputable def CN(ta tb:TE):TE:=λσ H Q=>ta σ H λx H1=>∃c,x=.bl c/\if c=ya then tb σ H1 Q else Q (.bl yb) H1
noncomputable def tOrV(ta tb:TE):TE:=λσ H Q=>ta σ H λx H1=>∃c,x=.bl c/\if c=ya then Q (.bl ya) H1 else tb σ H1 Q
noncomputable def CM(ta:TE):TE:=λσ H Q=>ta σ H λx H1=>∃c,x=.bl c/\Q (.bl (!c)) H1
theorem C4{op}{t:TE}(h:PE X a t):PE X (.BoolOp op [a] pos) t:=λpins s σ H Q I hw=>BoolOp_one (h pins s σ H Q I hw)
theorem C3(ha:PE X a ta)(hb:PE X (.BoolOp .And (b::rest) pos) tb):PE X (.BoolOp .And (a::b::rest) pos) (CN ta tb):=by
 intro pins s σ H Q I h;refine BoolOp_and (thn (ha pins s σ H _ I h) λv s1 ⟨x,H1,I1,r1,q1⟩=>?_);obtain⟨c,rfl,q1⟩:=q1;cases r1;refine Q7 ?_;cases c with
 |true=>exact hb pins s1 σ H1 Q I1 q1
 |false=>exact⟨.bl yb,H1,I1,rfl,q1⟩
theorem CL(ha:PE X a ta)(hb:PE X (.BoolOp .Or (b::rest) pos) tb):PE X (.BoolOp .Or (a::b::rest) pos) (tOrV ta tb):=by
 intro pins s σ H Q I h;refine BoolOp_or (thn (ha pins s σ H _ I h) λv s1 ⟨x,H1,I1,r1,q1⟩=>?_);obtain⟨c,rfl,q1⟩:=q1;cases r1;refine Q7 ?_;cases c with
 |false=>exact hb pins s1 σ H1 Q I1 q1
 |true=>exact⟨.bl ya,H1,I1,rfl,q1⟩
theorem C2(ha:PE X a ta):PE X (.UnaryOp .Not a pos) (CM ta):=by intro pins s σ H Q I h;refine UnaryOp_ (thn (ha pins s σ H _ I h) λv s1 ⟨x,H1,I1,r1,q1⟩=>?_);obtain⟨c,rfl,q1⟩:=q1;cases r1;exact not_of (Q7 ⟨.bl (!c),H1,I1,rfl,q1⟩)
noncomputable def tIf(t:TT)(ta tb:TE):TE:=λσ H Q=>t σ H λc H1=>if c=ya then ta σ H1 Q else tb σ H1 Q
theorem jP{c:Uz}(hc:PT X c tA)(ha:PE X a ta)(hb:PE X b tb):PE X (.IfExp c a b pos) (tIf tA ta tb):=by
 intro pins s σ H Q I h;refine wpAny_IfExp (thn (hc pins s σ H _ I h) λd s1 ⟨H1,I1,q1⟩=>?_);cases d with
 |true=>exact ha pins s1 σ H1 Q I1 q1
 |false=>exact hb pins s1 σ H1 Q I1 q1
end
def SqL(K:Frag)(H:Hp)(a:Ux)(xs:List V):Prop:=
 Rd H a (.lst xs) ∨
  ∃(o:Obj)(its:Array Uu)(n:Nat),K.lookup a=O o/\o.cls=.type "list" /\ o.dict=w9/\o.data=.seq its n/\its.size<=UA/\Vals xs its.toList
def SqT(K:Frag)(H:Hp)(a:Ux)(xs:List V):Prop:=
 Rd H a (.tup xs) ∨
  ∃(o:Obj)(its:Array Uu)(n:Nat),K.lookup a=O o/\o.cls=.type "tuple" /\ o.data=.seq its n/\its.size<=UA/\Vals xs its.toList
noncomputable def absV:Uu->Option V
 |.none=>O .non
 |.bool b=>O (.bl b)
 |.int i _=>O (.int i)
 |.str x _=>O (.str x)
 |.bytes b _=>O (.byt b)
 |.float b _=>O (.flt b)
 |.ref a=>O (.ref a)
 |.type n=>O (.ty n)
 |_=>w9
theorem RelV.abs{x:V}{u:Uu}(r:RelV x u):absV u=O x:=by
 cases x with
 |non=>cases r;rfl
 |bl _=>cases r;rfl
 |int _=>obtain⟨t,rfl⟩:=r;rfl
 |str _=>obtain⟨t,rfl⟩:=r;rfl
 |byt _=>obtain⟨t,rfl⟩:=r;rfl
 |flt _=>obtain⟨t,rfl⟩:=r;rfl
 |ref _=>cases r;rfl
 |ty _=>cases r;rfl
theorem RelV.inj{x y:V}{u:Uu}(r:RelV x u)(q:RelV y u):x=y:=Q5 (r.abs.symm.trans q.abs)
theorem Vals.inj:∀{xs ys:List V}{us:yf},Vals xs us->Vals ys us->xs=ys
 |_,_,_,.nil,.nil=>rfl
 |_,_,_,.cons r t,.cons r' t'=>by rw[r.inj r',Vals.inj t t']
section
variable{X:Cx}{pins:List (Ux×Obj)}{σ:St}{H:Hp}{s:Uv}{a:Ux}{xs ys:List V}
theorem SqL.of{K:Frag}(h:H a=O (.lst xs)):SqL K H a xs:=.inl (.inl h)
theorem SqT.of{K:Frag}(h:H a=O (.tup xs)):SqT K H a xs:=.inl (.inl h)
theorem Inv.list(I:Inv X pins σ H s)(h:SqL X.K H a xs):∃its:yf,Vals xs its/\PlainL s.heap a its.toArray/\xs.length<=UA:=by
 rcases h with h|⟨o,its,n,hk,hc,hd,hs,hz,r⟩
 .obtain⟨z,its,n,r,e⟩:=h.ok I.hok
  exact⟨its,r,⟨_,n,e,rfl,rfl,rfl⟩,z⟩
 .refine⟨its.toList,r,⟨o,n,I.kIn a o hk,hc,hd,by simpa using hs⟩,?_⟩
  have e:=r.length;simp only[JE]at e;omega
theorem Inv.tuple(I:Inv X pins σ H s)(h:SqT X.K H a xs):∃its:yf,Vals xs its/\IsTup s.heap a its.toArray/\xs.length<=UA:=by
 rcases h with h|⟨o,its,n,hk,hc,hs,hz,r⟩
 .obtain⟨z,its,r,p⟩:=h.ok I.hok
  exact⟨its,r,p,z⟩
 .refine⟨its.toList,r,⟨o,I.kIn a o hk,hc,n,by simpa using hs⟩,?_⟩
  have e:=r.length;simp only[JE]at e;omega
theorem Inv.list_inj(I:Inv X pins σ H s)(h:SqL X.K H a xs)(h':SqL X.K H a ys):xs=ys:=by
 obtain⟨its,r,⟨o,n,e,_,_,d⟩,_⟩:=I.list h;obtain⟨its',r',⟨o',n',e',_,_,d'⟩,_⟩:=I.list h';rw[e]at e';cases e';rw[d]at d';injection d' with d1 _
 have:its=its':=by simpa using congrArg Array.toList d1
 subst this;exact r.inj r'
theorem Inv.tuple_inj(I:Inv X pins σ H s)(h:SqT X.K H a xs)(h':SqT X.K H a ys):xs=ys:=by
 obtain⟨its,r,⟨o,e,_,n,d⟩,_⟩:=I.tuple h;obtain⟨its',r',⟨o',e',_,n',d'⟩,_⟩:=I.tuple h';rw[e]at e';cases e';rw[d]at d';injection d' with d1 _
 have:its=its':=by simpa using congrArg Array.toList d1
 subst this;exact r.inj r'
end
noncomputable abbrev Cx.wish(X:Cx)(E:Uu->Uv->Prop):Cx:={X with xe:=E}
noncomputable abbrev Cx.nox(X:Cx):Cx:=X.wish λ_ _=>False
theorem Cx.Ok.wish{X:Cx}(ok:X.Ok)(E:Uu->Uv->Prop):(X.wish E).Ok:=
 ⟨ok.mod,ok.kind,ok.glob,ok.blt,ok.above,ok.inj,ok.has,ok.cab,ok.hd,ok.frames,ok.stk,ok.exf,ok.bs,ok.bsz,ok.noex,ok.exfs,ok.funs,ok.frf⟩
theorem Cx.Ok.unwish{X:Cx}{E:Uu->Uv->Prop}(ok:(X.wish E).Ok):X.Ok:=
 ⟨ok.mod,ok.kind,ok.glob,ok.blt,ok.above,ok.inj,ok.has,ok.cab,ok.hd,ok.frames,ok.stk,ok.exf,ok.bs,ok.bsz,ok.noex,ok.exfs,ok.funs,ok.frf⟩
section
variable{X:Cx}{pins:List (Ux×Obj)}{σ:St}{H:Hp}{s:Uv}{E:Uu->Uv->Prop}
theorem Inv.wish(I:Inv X pins σ H s)(E:Uu->Uv->Prop):Inv (X.wish E) pins σ H s:=⟨I.ok.wish E,I.os,I.bare,I.base,I.loc,I.cell,I.free,I.freeC,I.pin,I.hok,I.len⟩
theorem Inv.unwish(I:Inv (X.wish E) pins σ H s):Inv X pins σ H s:=⟨I.ok.unwish,I.os,I.bare,I.base,I.loc,I.cell,I.free,I.freeC,I.pin,I.hok,I.len⟩
theorem SP.unwish{D:Ends}{f:Flow}{s':Uv}(h:SP (X.wish E) pins D f s'):SP X pins D f s':=by
 cases f with
 |next=>obtain⟨σ',H',I,q⟩:=h;exact⟨σ',H',I.unwish,q⟩
 |brk=>obtain⟨σ',H',I,q⟩:=h;exact⟨σ',H',I.unwish,q⟩
 |cont=>obtain⟨σ',H',I,q⟩:=h;exact⟨σ',H',I.unwish,q⟩
 |ret u=>obtain⟨v,σ',H',I,r,q⟩:=h;exact⟨v,σ',H',I.unwish,r,q⟩
theorem PSs.nox{st:List Stmt}{t:TS}(h:PSs X.nox st t):PSs X st t:=λpins s σ H D I hw=>
 QN (h pins s σ H D (I.wish _) hw) (λ_ _ q=>q.unwish) λ_ _ z=>False.elim z
end
section
variable{X:Cx}{st:Stmt}{rest:List Stmt}{t u:TS}{e:Uz}{te:TE}{pos:Pos}
noncomputable def CK:TS:=λD σ H=>D.nx σ H
noncomputable def tSeq(t u:TS):TS:=λD σ H=>t {D with nx:=u D} σ H
theorem AA:PSs X [] CK:=λ_ _ σ H _ I h=>wpAny_execs_nil ⟨σ,H,I,h⟩
theorem GE(h1:PS X st t)(h2:PSs X rest u):PSs X (st::rest) (tSeq t u):=by
 intro pins s σ H D I h;refine wpAny_execs_cons (thn (h1 pins s σ H {D with nx:=u D} I h) λf s1 q=>?_);cases f with
 |next=>obtain⟨σ',H',I',q⟩:=q;exact h2 pins s1 σ' H' D I' q
 |ret v=>exact q
 |brk=>exact q
 |cont=>exact q
theorem HW(h1:PS X st t):PSs X [st] t:=by
 intro pins s σ H D I h;refine wpAny_execs_cons (thn (h1 pins s σ H D I h) λf s1 q=>?_);cases f with
 |next=>exact wpAny_execs_nil q
 |ret v=>exact q
 |brk=>exact q
 |cont=>exact q
theorem Inv.quiet{pins:List (Ux×Obj)}{σ:St}{H:Hp}{s:Uv}(I:Inv X pins σ H s):interactive X.env=yb:=by simp[interactive,I.ok.kind]
noncomputable def CJ(te:TE):TS:=λD σ H=>te σ H λ_ H1=>D.nx σ H1
theorem NF(he:PE X e te)(hs:swapsWith e w9 pos.line X.env=pure yb:=by rfl):PS X (.Expr e pos) (CJ te):=by intro pins s σ H D I h;exact wpAny_Expr_any (thn (he pins s σ H _ I h) λv s1 ⟨x,H1,I1,r1,q1⟩=>⟨σ,H1,I1,q1⟩) I.quiet hs
noncomputable def tRet(te:TE):TS:=λD σ H=>te σ H D.rt
theorem LC(he:PE X e te):PS X (.Return (O e) pos) (tRet te):=by intro pins s σ H D I h;exact wpAny_Return_some (thn (he pins s σ H _ I h) λv s1 ⟨x,H1,I1,r1,q1⟩=>⟨x,σ,H1,I1,r1,q1⟩)
noncomputable def tIfS(c:TT)(t u:TS):TS:=λD σ H=>c σ H λb H1=>if b=ya then t D σ H1 else u D σ H1
theorem CI{c:Uz}{a b:List Stmt}{tc:TT}(hc:PT X c tc)(ha:PSs X a t)(hb:PSs X b u):PS X (.If c a b pos) (tIfS tc t u):=by
 intro pins s σ H D I h;refine wpAny_If (thn (hc pins s σ H _ I h) λd s1 ⟨H1,I1,q1⟩=>?_);cases d with
 |true=>exact ha pins s1 σ H1 D I1 q1
 |false=>exact hb pins s1 σ H1 D I1 q1
end
abbrev TG:=V->St->Hp->(St->Hp->Prop)->Prop
abbrev TGs:=List V->St->Hp->(St->Hp->Prop)->Prop
def PG(X:Cx)(target:Uz)(t:TG):Prop:=
 ∀(pins:List (Ux×Obj))(s:Uv)(σ:St)(H:Hp)(v:V)(u:Uu)(Q:St->Hp->Prop),Inv X pins σ H s->RelV v u->t v σ H Q ->
  UB (model X.prog X.w) X.A (assign target X.env u) (λ_ s'=>∃σ' H',Inv X pins σ' H' s'/\Q σ' H') X.xe s
def PGs(X:Cx)(ts:yg)(t:TGs):Prop:=
 ∀(pins:List (Ux×Obj))(s:Uv)(σ:St)(H:Hp)(vs:List V)(us:yf)(Q:St->Hp->Prop),Inv X pins σ H s->Vals vs us->t vs σ H Q ->
  UB (model X.prog X.w) X.A (assignInOrder ((UR ts X.env).map (·.2)) us) (λ_ s'=>∃σ' H',Inv X pins σ' H' s'/\Q σ' H') X.xe s
abbrev TIp:=V->V->Hp->VK->Prop
def PIp(X:Cx)(op:Operator)(t:TIp):Prop:=
 ∀(pins:List (Ux×Obj))(s:Uv)(σ:St)(H:Hp)(x y:V)(v u:Uu)(Q:VK),Inv X pins σ H s->RelV x v->RelV y u->t x y H Q ->
  UB (model X.prog X.w) X.A (inplaceOp op v u) (EP X pins σ Q) X.xe s
section
variable{X:Cx}{pos:Pos}
noncomputable def O7(i:Nat):TG:=λv σ H Q=>Q (σ.set i (O v)) H
theorem Xk{i:Nat}{x:Str}(hN:X.N.Nodup)(hi:X.N[i]?=O x)(hx:Loc X.env.scope x)(hf:X.fn x=ya∨X.env.scope.names.lookup x=O .local:=by first|exact .inl rfl|exact .inr rfl|assumption):PG X (.Name x pos) (O7 i):=by intro pins s σ H v u Q I r h;exact wpAny_assign_Name (Ml I hN hi hx r (λs' I'=>⟨_,H,I',h⟩) hf)
noncomputable def gNil:TGs:=λvs σ H Q=>vs=[]/\Q σ H
noncomputable def CH(t:TG)(u:TGs):TGs:=λvs σ H Q=>∃v r,vs=v::r/\t v σ H λσ' H'=>u r σ' H' Q
theorem Az:PGs X [] gNil:=by intro pins s σ H vs us Q I r h;obtain⟨e,h⟩:=h;subst e;cases r;exact assignInOrder_nil ⟨σ,H,I,h⟩
theorem jO{e:Uz}{es:yg}{t:TG}{u:TGs}(h1:PG X e t)(h2:PGs X es u)
  (hs:(UR (e::es) X.env).map (·.2)=assign e X.env::(UR es X.env).map (·.2):=by rfl):PGs X (e::es) (CH t u):=by
 intro pins s σ H vs us Q I r h;obtain⟨v,vr,e1,h⟩:=h;subst e1;cases r with
 |cons r rr=>rw[hs];refine assignInOrder_cons (thn (h1 pins s σ H _ _ _ I r h) λ_ s1 ⟨σ1,H1,I1,q1⟩=>?_);exact h2 pins s1 σ1 H1 _ _ Q I1 rr q1
noncomputable def gTup(K:Frag)(n:Nat)(t:TGs):TG:=λv σ H Q=>∃a xs,v=.ref a/\SqT K H a xs/\xs.length=n/\t xs σ H Q
theorem C1{es:yg}{k:Nat}{t:TGs}{n:Nat}(hc:X.calm=ya)(h:PGs X es t)
  (hn:(UR es X.env).length=n:=by rfl) (hst:(UR es X.env).findIdx? (·.1)=w9:=by rfl):PG X (.Tuple es k pos) (gTup X.K n t):=by
 intro pins s σ H v u Q I r hw;obtain⟨a,xs,e1,hq,hl,hw⟩:=hw;subst e1;cases r;obtain⟨its,rv,ht,hz⟩:=I.tuple hq;refine assign_Tuple_tuple (I.ok.hd hc) ht (by simp[hn,←hl,rv.length]) hst λh' hx=>?_
 have I1:Inv X pins σ H {s with heap:=h'}:=I.kept (t':=s.toks) λb o e=>hx b o (QT (Qj e)) e;exact h pins _ σ H xs _ Q I1 (by simpa using rv) hw
noncomputable def tAsg(te:TE)(g:TG):TS:=λD σ H=>te σ H λx H1=>g x σ H1 D.nx
theorem C0{tg e:Uz}{te:TE}{g:TG}(he:PE X e te)(hg:PG X tg g)(hs:swapsWithSole [tg] e pos.line X.env=pure yb:=by rfl)(hw:swappedStores [tg] e X.env=pure w9:=by rfl)
  (h1:(UR [tg] X.env).map (·.2)=[assign tg X.env]:=by rfl):PS X (.Assign [tg] e pos) (tAsg te g):=by
 intro pins s σ H D I h;refine wpAny_Assign_stores (thn (he pins s σ H _ I h) λv s1 ⟨x,H1,I1,r1,q1⟩=>?_) hs hw;rw[h1];exact thn (hg pins s1 σ H1 x v _ I1 r1 q1) λ_ s2 q=>q
theorem No{i:Nat}{x:Str}{e:Uz}{te:TE}{pos':Pos}(hN:X.N.Nodup)(hi:X.N[i]?=O x)(hx:Loc X.env.scope x)(he:PE X e te)(hs:swapsWith e (O (.Name x pos')) pos.line X.env=pure yb:=by rfl)(hf:X.fn x=ya∨X.env.scope.names.lookup x=O .local:=by first|exact .inl rfl|exact .inr rfl|assumption) :
  PS X (.Assign [.Name x pos'] e pos) (tAsg te (O7 i)):=by
 intro pins s σ H D I h;refine wpAny_Assign_Name (thn (he pins s σ H _ I h) λv s1 ⟨y,H1,I1,r1,q1⟩=>?_) hs;exact Ml I1 hN hi hx r1 (λs2 I2=>⟨_,H1,I2,q1⟩) hf
noncomputable def tAug(i:Nat)(te:TE)(ti:TIp):TS:=λD σ H=>∃x,σ[i]?=O (O x)/\te σ H λy H1=>ti x y H1 λz H2=>D.nx (σ.set i (O z)) H2
theorem CZ{i:Nat}{x:Str}{e:Uz}{te:TE}{op:Operator}{ti:TIp}{pos':Pos}(hN:X.N.Nodup)(hi:X.N[i]?=O x)(hx:Loc X.env.scope x)(he:PE X e te)(ho:PIp X op ti)(hf:X.fn x=ya∨X.env.scope.names.lookup x=O .local:=by first|exact .inl rfl|exact .inr rfl|assumption) :
  PS X (.AugAssign (.Name x pos') op e pos) (tAug i te ti):=by
 intro pins s σ H D I h;obtain⟨v,e1,h⟩:=h;obtain⟨m,hn,hl⟩:=I.loc;have vis:Vis X.env.scope x:=by rcases hx with k|k;exact .inl k;exact .inr (.inl k)
 obtain⟨u,r,l⟩:=hl i x v hi e1 vis;refine wpAny_AugAssign_Name ?_;have go:UB (model X.prog X.w) X.A (eval e X.env) (λw s₂=>UB (model X.prog X.w) X.A (inplaceOp op u w) (λr s₃=>UB (model X.prog X.w) X.A (storeName X.env x r) (λ_=>SP X pins D .next) X.xe s₃) X.xe s₂) X.xe s:=by refine thn (he pins s σ H _ I h) λw s1 ⟨y,H1,I1,r1,q1⟩=>?_;refine thn (ho pins s1 σ H1 v y u w _ I1 r r1 q1) λz s2 ⟨zv,H2,I2,r2,q2⟩=>?_;exact Ml I2 hN hi hx r2 (λs3 I3=>⟨_,H2,I3,q2⟩) hf
 rcases l with ⟨hk,hm⟩|⟨hk,c,hc,hcell⟩
 .exact wpAny_loadName_local I.ok.kind hk hn hm go
 .rcases hk with hk|hk
  .exact wpAny_loadName_cell I.ok.kind hk hc hcell go
  .rcases hx with k|k
   .have:X.env.scope.names.lookup x=O .free:=hk
    rw[k]at this;cases this
   .have:X.env.scope.names.lookup x=O .free:=hk
    rw[k]at this;cases this
end
section
variable{X:Cx}{pos:Pos}
noncomputable def CY(c:TT)(tb:TS):TS:=λD σ H=>∃W:Nat->St->Hp->Prop,(∃m,W m σ H)/\∀m σ H,W m σ H ->
 c σ H λb H1=>if b=ya then ∃N:St->Hp->Prop,(∀σ' H',N σ' H'->∃m',m'<m/\W m' σ' H')/\tb {D with nx:=N,ct:=N,bk:=D.nx} σ H1 else D.nx σ H1
theorem jN{c:Uz}{body:List Stmt}{tc:TT}{tb:TS}(hp:PassesOwn (model X.prog X.w) X.A X.env X.xe)(hc:PT X c tc)(hb:PSs X body tb):PS X (.While c body [] pos) (CY tc tb):=by
 intro pins s σ H D I h;obtain⟨W,⟨m0,w0⟩,turn⟩:=h;refine wpAny_While (codeAny_whileLoop (λn s'=>∃σ' H',Inv X pins σ' H' s'/\W n σ' H') ?_ m0 ⟨σ,H,I,w0⟩);rintro n s1 ⟨σ1,H1,I1,w1⟩;refine Ju hp (thn (hc pins s1 σ1 H1 _ I1 (turn n σ1 H1 w1)) λb s2 ⟨H2,I2,q2⟩=>?_);cases b with
 |true=>
  obtain⟨N,hN,q2⟩:=q2;rw[Qo w8];refine Ju hp (thn (hb pins s2 σ1 H2 _ I2 q2) λf s3 q3=>?_);cases f with
  |next=>obtain⟨σ3,H3,I3,n3⟩:=q3;obtain⟨m',hm,w3⟩:=hN σ3 H3 n3;exact⟨m',hm,σ3,H3,I3,w3⟩
  |cont=>obtain⟨σ3,H3,I3,n3⟩:=q3;obtain⟨m',hm,w3⟩:=hN σ3 H3 n3;exact⟨m',hm,σ3,H3,I3,w3⟩
  |brk=>exact q3
  |ret v=>exact q3
 |false=>rw[QB JO];exact wpAny_execs_nil ⟨σ1,H2,I2,q2⟩
end
structure It where
 go:Nat->Hp->Prop
 yld:Nat->Hp->V->Hp->Prop
 stop:Nat->Hp->Prop
def ZV(X:Cx)(pins:List (Ux×Obj))(H:Hp)(b:Ux):Prop:=
 H b=w9/\b≠X.env.locals/\b∉X.fs/\(b∈X.ex∨X.s₀.heap.objs.size<=b)/\(∀x c,X.env.cells.lookup x=O c->c≠b)/\∀p∈X.pn++pins,p.1≠b
theorem Inv.fpOk{X:Cx}{pins:List (Ux×Obj)}{σ:St}{H H':Hp}{s:Uv}{b:Ux}(I:Inv X pins σ H s)(hb:s.heap.objs.size<=b)(hn:H' b=w9):ZV X pins H' b:=by
 refine⟨hn,JH (QG I.lt hb),I.nofs hb,.inr (QJ I.sz hb),λx c e z=>?_,λp hp z=>?_⟩
 .obtain⟨v,q⟩:=I.cell x c e
  exact absurd (QG q.lt (by rw[z];exact hb)) (Jv _)
 .exact absurd (QG (Qj (I.pin p hp).1) (by rw[z];exact hb)) (Jv _)
structure Turn(P:Uw)(w:World)(K:Frag)(tg:Uz)(J:It)(fp:yh)(it:Ux)(tn:Nat->Heap->Prop):Prop where
 mem:it∈fp
 obj:∀i h,tn i h->∀b∈fp,∃o,h.get? b=O o/\∀v,o.data≠.cell v
 keep:∀i h h',tn i h->(∀b∈fp,∀o,h.get? b=O o->h'.get? b=O o)->tn i h'
 item:∀(X:Cx),X.prog=P->X.w=w->X.K=K->X.calm=ya->∀(i:Nat)(pins:List (Ux×Obj))(s:Uv)(σ:St)(H:Hp)(E:Uu->Uv->Prop),Inv X pins σ H s->(∀b∈fp,ZV X pins H b)->tn i s.heap->J.go i H ->
  UB (model P w) X.A (pyNext (.ref it)) (λr s1=>∃u,r=O u /\
   UB (model P w) X.A (letOwnedTupleGo tg (.ref it) u) (λ_ s2=>∃x H',Inv X pins σ H' s2/\RelV x u/\J.yld i H x H'/\tn (i+1) s2.heap/\∀b∈fp,H' b=w9) E s1) E s
 done:∀(X:Cx),X.prog=P->X.w=w->X.K=K->X.calm=ya->∀(i:Nat)(pins:List (Ux×Obj))(s:Uv)(σ:St)(H:Hp)(E:Uu->Uv->Prop),Inv X pins σ H s->(∀b∈fp,ZV X pins H b)->tn i s.heap->J.stop i H ->
  UB (model P w) X.A (pyNext (.ref it)) (λr s1=>r=w9/\Inv X pins σ H s1) E s
 self:∀(A:Around)(i:Nat)(s:Uv)(Q:Uu->Uv->Prop)(E:Uu->Uv->Prop),tn i s.heap->Q (.ref it) s->UB (model P w) A (pyIter (.ref it)) Q E s
abbrev TI:=St->Hp->(It->Hp->Prop)->Prop
def PIE(X:Cx)(pins:List (Ux×Obj))(σ:St)(tg:Uz)(R:It->Hp->Prop)(itv:Uu)(s2:Uv):Prop:=
 ∃(it:Ux)(fp:yh)(tn:Nat->Heap->Prop)(J:It)(H':Hp),itv=.ref it/\Inv X pins σ H' s2/\Turn X.prog X.w X.K tg J fp it tn/\tn 0 s2.heap/\(∀b∈fp,ZV X pins H' b)/\R J H'
def PI(X:Cx)(tg iter:Uz)(wi:TI):Prop:=
 ∀(pins:List (Ux×Obj))(s:Uv)(σ:St)(H:Hp)(R:It->Hp->Prop),Inv X pins σ H s->wi σ H R ->
  UB (model X.prog X.w) X.A (eval iter X.env) (λv s1=>UB (model X.prog X.w) X.A (pyIter v) (PIE X pins σ tg R) X.xe s1) X.xe s
theorem PQ{M:Model}{A:Around}{E:Uu->Uv->Prop}{s:Uv}{tg:Uz}{it:Ux}{u:Uu}{o:Obj}{n:String}{vs:Array Uu}{Q:Unit->Uv->Prop}(ho:s.heap.get? it=O o)(hc:o.cls=.type n)(hd:o.data=.fields vs)
  (hn:["enumerate", "zip", "dict_itemiterator", "dict_reverseitemiterator", "odict_iterator", "itertools.zip_longest", "itertools.pairwise"].contains n=yb) (hQ:Q () s):UB M A (letOwnedTupleGo tg (.ref it) u) Q E s:=by
 unfold letOwnedTupleGo
 cases tg<;>first
  |exact Qn hQ
  |(cases u<;>first
    |exact Qn hQ
    |(
      refine Qf (wpAny_load ho ?_);rw[hc,hd];show UB M A (if(["enumerate", "zip", "dict_itemiterator", "dict_reverseitemiterator", "odict_iterator", "itertools.zip_longest", "itertools.pairwise"].contains n&&vs[0]?==O (rawInt _))=ya then _ else _) Q E s;rw[QB (by intro h;rw[hn,Bool.false_and]at h;cases h)];exact Qn hQ))
noncomputable def Itl(K:Frag)(a:Ux):It:=
 ⟨λi H=>∃xs x,SqL K H a xs/\xs[i]?=O x,λi H x H'=>H'=H/\∀xs,SqL K H a xs->xs[i]?=O x,λi H=>∃xs,SqL K H a xs/\xs.length<=i⟩
noncomputable def Itt(K:Frag)(a:Ux):It:=
 ⟨λi H=>∃xs x,SqT K H a xs/\xs[i]?=O x,λi H x H'=>H'=H/\∀xs,SqT K H a xs->xs[i]?=O x,λi H=>∃xs,SqT K H a xs/\xs.length<=i⟩
noncomputable def Itr(lo:Int)(n:Nat):It:=⟨λi _=>i<n,λi H x H'=>H'=H/\x=.int (lo+i),λi _=>n<=i⟩
theorem xz{P:Uw}{w:World}{K:Frag}{tg:Uz}(a it:Ux):Turn P w K tg (Itl K a) [it] it (λi h=>h.IsListIter it a i) where
 mem:=by simp
 obj:=λi h st b hb=>by
  have e:b=it:=by simpa using hb
  subst e;obtain⟨o,e,c,d⟩:=st;exact⟨o,e,λv z=>by rw[d]at z;cases z⟩
 keep:=λi h h' st k=>st.at λo e=>k it (by simp) o e
 item:=by
  intro X hP hw hK hc i pins s σ H E I hf st hg;subst hP hw hK;obtain⟨xs,x,hq,hx⟩:=hg;obtain⟨its,rv,p,hz⟩:=I.list hq;obtain⟨u,hu,ru⟩:=rv.get hx;obtain⟨f0,f1,f2,f3,f4,f5⟩:=hf it (by simp);refine wpAny_pyNext_list_item st p.isList (x:=u) (by simpa using hu) λh' st' sb=>?_
  have I1:Inv X pins σ H {s with heap:=h'}:=I.turned (t':=s.toks) (λb o hb e=>(sb.2 b hb).trans e) f0 f1 f3 f4 f5;obtain⟨o,e,c,d⟩:=id st';exact⟨u,rfl,PQ (s:={s with heap:=h'}) e c d (by decide) ⟨x,H,I1,ru,⟨rfl,λys hy=>by rw[I.list_inj hy hq];exact hx⟩,st',λb hb=>(hf b hb).1⟩⟩
 done:=by intro X hP hw hK hc i pins s σ H E I hf st hg;subst hP hw hK;obtain⟨xs,hq,hx⟩:=hg;obtain⟨its,rv,p,hz⟩:=I.list hq;obtain⟨f0,f1,f2,f3,f4,f5⟩:=hf it (by simp);have hl:=rv.length;exact wpAny_pyNext_list_end (I.ok.hd hc) st p.isList (by simp;omega) λh' eb=>⟨rfl,I.turned (t':=s.toks) (λb o hb e=>eb b o hb e) f0 f1 f3 f4 f5⟩
 self:=λ_ _ _ _ _ st h=>wpAny_pyIter_listiter st h
theorem vg{P:Uw}{w:World}{K:Frag}{tg:Uz}(a it:Ux):Turn P w K tg (Itt K a) [it] it (λi h=>h.IsTupleIter it a i) where
 mem:=by simp
 obj:=λi h st b hb=>by
  have e:b=it:=by simpa using hb
  subst e;obtain⟨o,e,c,d⟩:=st;exact⟨o,e,λv z=>by rw[d]at z;cases z⟩
 keep:=λi h h' st k=>st.at λo e=>k it (by simp) o e
 item:=by
  intro X hP hw hK hc i pins s σ H E I hf st hg;subst hP hw hK;obtain⟨xs,x,hq,hx⟩:=hg;obtain⟨its,rv,p,hz⟩:=I.tuple hq;obtain⟨u,hu,ru⟩:=rv.get hx;obtain⟨f0,f1,f2,f3,f4,f5⟩:=hf it (by simp);refine wpAny_pyNext_tuple_item st (show s.heap.IsTuple a its.toArray from p) (x:=u) (by simpa using hu) λh' st' sb=>?_
  have I1:Inv X pins σ H {s with heap:=h'}:=I.turned (t':=s.toks) (λb o hb e=>(sb.2 b hb).trans e) f0 f1 f3 f4 f5;obtain⟨o,e,c,d⟩:=id st';exact⟨u,rfl,PQ (s:={s with heap:=h'}) e c d (by decide) ⟨x,H,I1,ru,⟨rfl,λys hy=>by rw[I.tuple_inj hy hq];exact hx⟩,st',λb hb=>(hf b hb).1⟩⟩
 done:=by intro X hP hw hK hc i pins s σ H E I hf st hg;subst hP hw hK;obtain⟨xs,hq,hx⟩:=hg;obtain⟨its,rv,p,hz⟩:=I.tuple hq;obtain⟨f0,f1,f2,f3,f4,f5⟩:=hf it (by simp);have hl:=rv.length;exact wpAny_pyNext_tuple_end (I.ok.hd hc) st (show s.heap.IsTuple a its.toArray from p) (by simp;omega) λh' eb=>⟨rfl,I.turned (t':=s.toks) (λb o hb e=>eb b o hb e) f0 f1 f3 f4 f5⟩
 self:=λ_ _ _ _ _ st h=>wpAny_pyIter_tupleiter st h
theorem vf{P:Uw}{w:World}{K:Frag}{tg:Uz}(it:Ux)(lo:Int)(n:Nat):Turn P w K tg (Itr lo n) [it] it (λi h=>IsRangeIter h it (lo+(i:Nat)*1) ((n:Int)-(i:Nat)) 1) where
 mem:=by simp
 obj:=λi h st b hb=>by
  have e:b=it:=by simpa using hb
  subst e;exact⟨_,st,λv z=>by have z':Data.fields _=Data.cell v:=z;cases z'⟩
 keep:=λi h h' st k=>k it (by simp) _ st
 item:=by
  intro X hP hw hK hc i pins s σ H E I hf st hg;subst hP hw hK;obtain⟨f0,f1,f2,f3,f4,f5⟩:=hf it (by simp);have W:=Walks.range (prog:=X.prog) (w:=X.w) (I.ok.hd hc) it lo 1 n;refine W.item i s _ _ hg st λv h' tk hv st' kk=>?_
  obtain⟨t,rfl⟩:=hv;have I1:Inv X pins σ H {s with heap:=h',toks:=tk}:=I.turned (λb o hb e=>kk b o (by simpa using hb) e) f0 f1 f3 f4 f5;refine⟨_,rfl,PQ (s:={s with heap:=h',toks:=tk}) (n:= "range_iterator") st' w8 w8 (by decide) ⟨.int (lo+i),H,I1,⟨t,?_⟩,⟨rfl,rfl⟩,st',λb hb=>(hf b hb).1⟩⟩;rw[Int.mul_one]
 done:=by intro X hP hw hK hc i pins s σ H E I hf st hg;subst hP hw hK;obtain⟨f0,f1,f2,f3,f4,f5⟩:=hf it (by simp);exact wpAny_pyNext_range_end (I.ok.hd hc) st (by have:n<=i:=hg;omega) λh' eb=>⟨rfl,I.turned (t':=s.toks) (λb o hb e=>eb b o hb e) f0 f1 f3 f4 f5⟩
 self:=λ_ _ _ _ _ st h=>wpAny_pyIter_rangeiter st h
section
variable{X:Cx}{tg:Uz}
theorem GD{pins:List (Ux×Obj)}{σ:St}{H:Hp}{s:Uv}{R:It->Hp->Prop}{E:Uu->Uv->Prop}{lo hi:Int}{t u v:Tok}{tk:Nat}(I:Inv X pins σ H s)(h1 : -(2 ^ 62)<=lo)(h2:lo<2 ^ 62)(h3 : -(2 ^ 62)<=hi)(h4:hi<2 ^ 62)
  (q:R (Itr lo (hi-lo).toNat) H):UB (model X.prog X.w) X.A (pyIter (.ref s.heap.objs.size)) (PIE X pins σ tg R) E {s with heap:=s.heap.push {cls:=.type "range", data:=.fields #[.int lo t,.int hi u,.int 1 v]},toks:=tk}:=by
 refine wpAny_pyIter_range (IsRange.new ..) (small_one h1 h2 h3 h4) ?_;have I1:Inv X pins σ H {s with heap:=s.heap.push {cls:=.type "range", data:=.fields #[.int lo t,.int hi u,.int 1 v]},toks:=tk}:=I.kept λb o e=>Qm _ e
 refine⟨(s.heap.push {cls:=.type "range", data:=.fields #[.int lo t,.int hi u,.int 1 v]}).objs.size,[(s.heap.push {cls:=.type "range", data:=.fields #[.int lo t,.int hi u,.int 1 v]}).objs.size],_,_,H,rfl,
  I1.kept (t':=tk) λb o e=>Qm _ e,vf _ lo (hi-lo).toNat,?_,λb hb=>?_,q⟩
 .have e1:lo+((0:Nat):Int)*1=lo:=by simp
  have e2:(((hi-lo).toNat:Nat):Int)-((0:Nat):Int)=Builtin.Range.rangeSize lo hi 1:=by rw[rangeSize_one];split<;>omega
  show IsRangeIter _ _ (lo+((0:Nat):Int)*1) ((((hi-lo).toNat:Nat):Int)-((0:Nat):Int)) 1;rw[e1,e2];exact QK _ w8
 .have e:b=(s.heap.push {cls:=.type "range", data:=.fields #[.int lo t,.int hi u,.int 1 v]}).objs.size:=by simpa using hb
  subst e;exact I1.fpOk (Qu _) (I1.hok.fresh (Qu _))
noncomputable def CG(ta:TA):TI:=λσ H R=>ta σ H λvs H1=>∃j:Int,vs=[.int j] /\ -(2 ^ 62)<=j/\j<2 ^ 62/\R (Itr 0 j.toNat) H1
noncomputable def CF(ta:TA):TI:=λσ H R=>ta σ H λvs H1=>∃i j:Int,vs=[.int i,.int j]/\(-(2 ^ 62)<=i/\i<2 ^ 62 /\ -(2 ^ 62)<=j/\j<2 ^ 62)/\R (Itr i (j-i).toNat) H1
theorem xy{a:Uz}{ta:TA}{p pos:Pos}(hg:Gl X "range")(hm:X.mg "range" = w9)(ha:PA X [a] ta)(hs:UC [a] X.env=[(yb,eval a X.env)]:=by rfl):PI X tg (.Call (.Name "range" p) [a] [] pos) (CG ta):=by
 intro pins s σ H R I h;refine Call_ (V9 I hg hm boot_range (JC (thn (ha pos pins s σ H _ I h) λus s1 ⟨vs,H1,I1,r1,q1⟩=>?_) hs w8));obtain⟨j,e,q1,q2,q⟩:=q1;subst e;cases r1 with
 |cons r rr=>cases rr;obtain⟨t,rfl⟩:=r;exact call_range_1 (GD I1 (by omega) (by omega) q1 q2 (by simpa using q))
theorem xx{a b:Uz}{ta:TA}{p pos:Pos}(hg:Gl X "range")(hm:X.mg "range" = w9)(ha:PA X [a,b] ta)(hs:UC [a,b] X.env=[(yb,eval a X.env),(yb,eval b X.env)]:=by rfl)(hs2:UC [b] X.env=[(yb,eval b X.env)]:=by rfl) :
  PI X tg (.Call (.Name "range" p) [a,b] [] pos) (CF ta):=by
 intro pins s σ H R I h;refine Call_ (V9 I hg hm boot_range (JC (thn (ha pos pins s σ H _ I h) λus s1 ⟨vs,H1,I1,r1,q1⟩=>?_) (by rw[hs,hs2]) (by rw[hs2];rfl)));obtain⟨i,j,e,⟨q1,q2,q3,q4⟩,q⟩:=q1;subst e;cases r1 with
 |cons r rr=>
  cases rr with
  |cons r' rr=>cases rr;obtain⟨t,rfl⟩:=r;obtain⟨t',rfl⟩:=r';exact call_range_2 (GD I1 q1 q2 q3 q4 q)
noncomputable def tFor(wi:TI)(g:TG)(tb:TS):TS:=λD σ H=>wi σ H λJ H1=>∃W:Nat->Nat->St->Hp->Prop,(∃m,W 0 m σ H1)/\∀i m σ H,W i m σ H ->
 (J.stop i H/\D.nx σ H)∨(J.go i H/\∃N:St->Hp->Prop,(∀σ' H',N σ' H'->∃m',m'<m/\W (i+1) m' σ' H')/\∀x H',J.yld i H x H'->g x σ H' λσ2 H2=>tb {D with nx:=N,ct:=N,bk:=D.nx} σ2 H2)
noncomputable def Pa(fp:yh)(h:Heap):List (Ux×Obj):=fp.filterMap λb=>(h.get? b).map λo=>(b,o)
theorem OY{fp:yh}{h:Heap}{b:Ux}{o:Obj}(hb:b∈fp)(e:h.get? b=O o):(b,o)∈Pa fp h:=Jo.mpr ⟨b,hb,by rw[e];rfl⟩
theorem xw{fp:yh}{h:Heap}{p:Ux×Obj}(hp:p∈Pa fp h):p.1∈fp/\h.get? p.1=O p.2:=by
 obtain⟨b,hb,e⟩:=Jo.mp hp;cases q:h.get? b with
 |none=>rw[q]at e;cases e
 |some o=>rw[q]at e;have e':(b,o)=p:=Q5 e;subst e';exact⟨hb,q⟩
theorem Inv.pinned{pins:List (Ux×Obj)}{σ:St}{H:Hp}{s:Uv}{fp:yh}(I:Inv X pins σ H s)(hf:∀b∈fp,ZV X pins H b)(ho:∀b∈fp,∃o,s.heap.get? b=O o/\∀v,o.data≠.cell v):Inv X (pins++Pa fp s.heap) σ H s:=
 I.pins_of λp hp=>(QC.mp hp).elim (λz=>I.pin p (QE _ z)) λz=>by obtain⟨hb,e⟩:=xw z;obtain⟨f0,f1,f2,_⟩:=hf p.1 hb;obtain⟨o,e',d⟩:=ho p.1 hb;rw[e]at e';cases e';exact⟨e,f0,f1,f2,d⟩
theorem Inv.unpinned{pins pl:List (Ux×Obj)}{σ:St}{H:Hp}{s:Uv}(I:Inv X (pins++pl) σ H s):Inv X pins σ H s:=I.pins_of λp hp=>I.pin p (QE _ (QI _ hp))
theorem CW{iter:Uz}{body:List Stmt}{wi:TI}{g:TG}{tb:TS}{pos:Pos}(hp:PassesOwn (model X.prog X.w) X.A X.env X.xe)(hc:X.calm=ya)(hi:PI X tg iter wi)(hg:PG X tg g)(hb:PSs X body tb)
  (hs:∀x,US iter X.env x=pure x:=by intro _;rfl):PS X (.For tg iter body [] pos) (tFor wi g tb):=by
 intro pins s σ H D I h;refine wpAny_For (thn (hi pins s σ H _ I h) λv s1 h1=>thn h1 λitv s2 h2=>?_) hs;obtain⟨it,fp,tn,J,H2,e,I2,T,st2,f2,W,⟨m0,w0⟩,turn⟩:=h2;subst e;have stat:∀{H':Hp},(∀b∈fp,H' b=w9)->∀b∈fp,ZV X pins H' b:=λhn b hb=>⟨hn b hb,(f2 b hb).2⟩;refine codeAny_forLoop_any (λn s'=>∃i σ' H',Inv X pins σ' H' s'/\tn i s'.heap/\(∀b∈fp,H' b=w9)/\W i n σ' H') ?_ m0 ⟨0,σ,H2,I2,st2,λb hb=>(f2 b hb).1,w0⟩;rintro n s3 ⟨i,σ3,H3,I3,st3,fr3,w3⟩;rcases turn i n σ3 H3 w3 with ⟨stop,qn⟩|⟨go,N,hN,step⟩
 .refine Ju hp (thn (T.done X w8 w8 w8 hc i pins s3 σ3 H3 X.xe I3 (stat fr3) st3 stop) λr s4 ⟨hr,I4⟩=>?_)
  subst hr;exact wpAny_execs_nil ⟨σ3,H3,I4,qn⟩
 .refine Ju hp (thn (T.item X w8 w8 w8 hc i pins s3 σ3 H3 X.xe I3 (stat fr3) st3 go) λr s4 ⟨u,hr,h4⟩=>?_)
  subst hr;refine Ju hp (thn h4 λ_ s5 ⟨x,H5,I5,r5,y5,yU,fr5⟩=>?_);have I5':=I5.pinned (stat fr5) (T.obj _ _ yU);refine Ju hp (thn (hg _ s5 σ3 H5 x u _ I5' r5 (step x H5 y5)) λ_ s6 ⟨σ6,H6,I6,q6⟩=>?_);refine Ju hp (thn (hb _ s6 σ6 H6 _ I6 q6) λf s7 q7=>?_);have again:∀{σ7:St}{H7:Hp},Inv X (pins++Pa fp s5.heap) σ7 H7 s7->N σ7 H7->∃m,m<n/\∃i σ' H',Inv X pins σ' H' s7/\tn i s7.heap/\(∀b∈fp,H' b=w9)/\W i m σ' H':=λ{σ7 H7} I7 n7=>by obtain⟨m',hm,w7⟩:=hN σ7 H7 n7;refine⟨m',hm,i+1,σ7,H7,I7.unpinned,T.keep _ _ _ yU λb hb o e=>(I7.pin (b,o) (QE _ (QE _ (OY hb e)))).1,λb hb=>?_,w7⟩;obtain⟨o,e,d⟩:=T.obj _ _ yU b hb;exact(I7.pin (b,o) (QE _ (QE _ (OY hb e)))).2.1
  cases f with
  |next=>obtain⟨σ7,H7,I7,n7⟩:=q7;exact again I7 n7
  |cont=>obtain⟨σ7,H7,I7,n7⟩:=q7;exact again I7 n7
  |brk=>obtain⟨σ7,H7,I7,q7⟩:=q7;exact⟨σ7,H7,I7.unpinned,q7⟩
  |ret v=>obtain⟨x7,σ7,H7,I7,r7,q7⟩:=q7;exact⟨x7,σ7,H7,I7.unpinned,r7,q7⟩
end
abbrev R2:=V->V->Hp->VK->Prop
def OpR(X:Cx)(f:Uu->Uu->Sem Uu)(r:R2):Prop:=
 ∀(pins:List (Ux×Obj))(s:Uv)(σ:St)(H:Hp)(x y:V)(v u:Uu)(Q:VK),Inv X pins σ H s->RelV x v->RelV y u->r x y H Q ->
  UB (model X.prog X.w) X.A (f v u) (EP X pins σ Q) X.xe s
def UnR(X:Cx)(f:Uu->Sem Uu)(r:V->Hp->VK->Prop):Prop:=
 ∀(pins:List (Ux×Obj))(s:Uv)(σ:St)(H:Hp)(x:V)(v:Uu)(Q:VK),Inv X pins σ H s->RelV x v->r x H Q ->
  UB (model X.prog X.w) X.A (f v) (EP X pins σ Q) X.xe s
def YZ(X:Cx)(f:Uu)(r:List V->Hp->VK->Prop):Prop:=
 ∀(pins:List (Ux×Obj))(s:Uv)(σ:St)(H:Hp)(xs:List V)(us:yf)(Q:VK),Inv X pins σ H s->Vals xs us->r xs H Q ->
  UB (model X.prog X.w) X.A (call f us) (EP X pins σ Q) X.xe s
def TruR(X:Cx)(r:V->Hp->(Bool->Hp->Prop)->Prop):Prop:=
 ∀(pins:List (Ux×Obj))(s:Uv)(σ:St)(H:Hp)(x:V)(v:Uu)(Q:Bool->Hp->Prop),Inv X pins σ H s->RelV x v->r x H Q ->
  UB (model X.prog X.w) X.A (truthy v) (TP X pins σ Q) X.xe s
noncomputable def tOp(r:R2)(ta tb:TE):TE:=λσ H Q=>ta σ H λx H1=>tb σ H1 λy H2=>r x y H2 Q
noncomputable def tUn(r:V->Hp->VK->Prop)(ta:TE):TE:=λσ H Q=>ta σ H λx H1=>r x H1 Q
noncomputable def rI(C:Int->Int->Prop)(g:Int->Int->V):R2:=λx y H Q=>∃i j,x=.int i/\y=.int j/\C i j/\Q (g i j) H
noncomputable def rI0(g:Int->Int->V):R2:=λx y H Q=>∃i j,x=.int i/\y=.int j/\Q (g i j) H
noncomputable def rU(g:Int->V):V->Hp->VK->Prop:=λx H Q=>∃i,x=.int i/\Q (g i) H
section
variable{X:Cx}{a b c:Uz}{ta tb tc:TE}{pos:Pos}
theorem SV(ha:PE X a ta)(hb:PE X b tb){pins:List (Ux×Obj)}{s:Uv}{σ:St}{H:Hp}{R:V->V->Hp->Prop}(I:Inv X pins σ H s)
  (h:ta σ H λx H1=>tb σ H1 λy H2=>R x y H2) {Q:Uu->Uv->Prop} {f:Uu->Uu->Sem Uu}
  (hf:∀v u s2 x y H2,Inv X pins σ H2 s2->RelV x v->RelV y u->R x y H2->UB (model X.prog X.w) X.A (f v u) Q X.xe s2) :
  UB (model X.prog X.w) X.A (eval a X.env) (λv s₁=>UB (model X.prog X.w) X.A (eval b X.env) (λu s₂=>UB (model X.prog X.w) X.A (f v u) Q X.xe s₂) X.xe s₁) X.xe s:=by
 refine thn (ha pins s σ H _ I h) λv s1 ⟨x,H1,I1,r1,q1⟩=>?_;refine thn (hb pins s1 σ H1 _ I1 q1) λu s2 ⟨y,H2,I2,r2,q2⟩=>?_;exact hf v u s2 x y H2 I2 r1 r2 q2
theorem M0{op:Operator}{r:R2}(ho:OpR X (binaryOp op) r)(ha:PE X a ta)(hb:PE X b tb):PE X (.BinOp a op b pos) (tOp r ta tb):=by intro pins s σ H Q I h;exact wpAny_BinOp (SV ha hb I h λv u s2 x y H2 I2 rx ry q=>ho pins s2 σ H2 x y v u Q I2 rx ry q)
theorem CD{op:UnaryOp}{r:V->Hp->VK->Prop}(ho:UnR X (unaryOp op) r)(ha:PE X a ta):PE X (.UnaryOp op a pos) (tUn r ta):=by intro pins s σ H Q I h;exact UnaryOp_ (thn (ha pins s σ H _ I h) λv s1 ⟨x,H1,I1,r1,q1⟩=>ho pins s1 σ H1 x v Q I1 r1 q1)
theorem opI{f:Uu->Uu->Sem Uu}{C:Int->Int->Prop}{g:Int->Int->Int}
  (rule:∀(i j:Int)(t u:Tok)(s:Uv)(Q:Uu->Uv->Prop)(E:Uu->Uv->Prop),C i j->Q (.int (g i j) s.toks) {s with toks:=s.toks+1}->UB (model X.prog X.w) X.A (f (.int i t) (.int j u)) Q E s) :
  OpR X f (rI C λi j=>.int (g i j)):=by
 intro pins s σ H x y v u Q I rx ry h;obtain⟨i,j,rfl,rfl,hc,q⟩:=h;obtain⟨t,rfl⟩:=rx;obtain⟨t',rfl⟩:=ry;exact rule i j t t' s _ _ hc ⟨.int (g i j),H,I.tok _,⟨_,rfl⟩,q⟩
theorem opI0{f:Uu->Uu->Sem Uu}{g:Int->Int->Int}
  (rule:∀(i j:Int)(t u:Tok)(s:Uv)(Q:Uu->Uv->Prop)(E:Uu->Uv->Prop),Q (.int (g i j) s.toks) {s with toks:=s.toks+1}->UB (model X.prog X.w) X.A (f (.int i t) (.int j u)) Q E s) :
  OpR X f (rI0 λi j=>.int (g i j)):=by
 intro pins s σ H x y v u Q I rx ry h;obtain⟨i,j,rfl,rfl,q⟩:=h;obtain⟨t,rfl⟩:=rx;obtain⟨t',rfl⟩:=ry;exact rule i j t t' s _ _ ⟨.int (g i j),H,I.tok _,⟨_,rfl⟩,q⟩
theorem W1{f:Uu->Uu->Sem Uu}{g:Int->Int->Bool}
  (rule:∀(i j:Int)(t u:Tok)(s:Uv)(Q:Uu->Uv->Prop)(E:Uu->Uv->Prop),Q (.bool (g i j)) s->UB (model X.prog X.w) X.A (f (.int i t) (.int j u)) Q E s) :
  OpR X f (rI0 λi j=>.bl (g i j)):=by
 intro pins s σ H x y v u Q I rx ry h;obtain⟨i,j,rfl,rfl,q⟩:=h;obtain⟨t,rfl⟩:=rx;obtain⟨t',rfl⟩:=ry;exact rule i j t t' s _ _ ⟨.bl (g i j),H,I,rfl,q⟩
def CPow(i j:Int):Prop:=0<=j/\j<=1000000/\i.natAbs<2 ^ 64
def CMul(i j:Int):Prop:=(-(2 ^ 64)<i/\i<2 ^ 64)∨(-(2 ^ 64)<j/\j<2 ^ 64)
theorem CMul.ok{i j:Int}(h:CMul i j):IntMulOk i j:=by
 rcases h with ⟨h1,h2⟩|⟨h1,h2⟩
 .exact .of_left (intBits_le_64 h1 h2)
 .exact .of_right (intBits_le_64 h1 h2)
theorem CV:OpR X (binaryOp .Add) (rI0 λi j=>.int (i+j)):=opI0 λ_ _ _ _ _ _ _ q=>add_int q
theorem CU:OpR X (binaryOp .Sub) (rI0 λi j=>.int (i-j)):=opI0 λ_ _ _ _ _ _ _ q=>sub_int q
theorem CT:OpR X (binaryOp .Mult) (rI CMul λi j=>.int (i*j)):=opI λ_ _ _ _ _ _ _ hc q=>mul_int q hc.ok
theorem CS:OpR X (binaryOp .Mod) (rI (λ_ j=>0<j) λi j=>.int (i % j)):=opI λi j _ _ _ _ _ hc q=>by have h1:(0:Int)<j:=hc;exact mod_int' (by omega) (by rw[Int.fmod_eq_emod_of_nonneg i (by omega)];exact q)
theorem CQ:OpR X (binaryOp .Pow) (rI CPow λi j=>.int (i ^ j.toNat)):=opI λ_ _ _ _ _ _ _ hc q=>pow_int_small hc.1 hc.2.1 hc.2.2 q
theorem A4:OpR X (inplaceOp .Mult) (rI CMul λi j=>.int (i*j)):=opI λ_ _ _ _ _ _ _ hc q=>imul_int q hc.ok
theorem unI{f:Uu->Sem Uu}{g:Int->Int}
  (rule:∀(i:Int)(t:Tok)(s:Uv)(Q:Uu->Uv->Prop)(E:Uu->Uv->Prop),Q (.int (g i) s.toks) {s with toks:=s.toks+1}->UB (model X.prog X.w) X.A (f (.int i t)) Q E s) :
  UnR X f (rU λi=>.int (g i)):=by
 intro pins s σ H x v Q I rx h;obtain⟨i,rfl,q⟩:=h;obtain⟨t,rfl⟩:=rx;exact rule i t s _ _ ⟨.int (g i),H,I.tok _,⟨_,rfl⟩,q⟩
theorem CP:UnR X (unaryOp .USub) (rU λi=>.int (-i)):=unI λ_ _ _ _ _ q=>neg_int q
end
section
variable{X:Cx}{a b c:Uz}{ta tb tc:TE}{pos:Pos}
theorem LB{pins:List (Ux×Obj)}{σ:St}{H:Hp}{s:Uv}{Q:VK}{k k':Bool}(I:Inv X pins σ H s)(q:Q (.bl k) H)(e:k=k'):EP X pins σ Q (.bool k') s:=by subst e;exact⟨.bl k,H,I,rfl,q⟩
theorem Dr:OpR X (UD .Lt) (rI0 λi j=>.bl (decide (i<j))):=W1 λ_ _ _ _ _ _ _ q=>lt_int q
theorem Dq:OpR X (UD .LtE) (rI0 λi j=>.bl (decide (i<=j))):=W1 λ_ _ _ _ _ _ _ q=>le_int q
theorem Dp:OpR X (UD .Gt) (rI0 λi j=>.bl (decide (j<i))):=W1 λ_ _ _ _ _ _ _ q=>gt_int q
theorem Do:OpR X (UD .GtE) (rI0 λi j=>.bl (decide (j<=i))):=W1 λ_ _ _ _ _ _ _ q=>ge_int q
theorem xu:OpR X (UD .In) (λx y H Q=>∃i j,x=.str i/\y=.str j/\Q (.bl (!(Builtin.Str.occurrences j i 0 j.length 1).isEmpty)) H):=by intro pins s σ H x y v u Q I rx ry h;obtain⟨i,j,rfl,rfl,q⟩:=h;obtain⟨t,rfl⟩:=rx;obtain⟨t',rfl⟩:=ry;exact in_str (LB I q w8)
theorem wG:OpR X (UD .NotIn) (λx y H Q=>∃i j,x=.str i/\y=.str j/\Q (.bl (!(!(Builtin.Str.occurrences j i 0 j.length 1).isEmpty))) H):=by intro pins s σ H x y v u Q I rx ry h;obtain⟨i,j,rfl,rfl,q⟩:=h;obtain⟨t,rfl⟩:=rx;obtain⟨t',rfl⟩:=ry;exact notIn_str (LB I q w8)
theorem OpR.or{f:Uu->Uu->Sem Uu}{r r':R2}(h:OpR X f r)(h':OpR X f r'):OpR X f (λx y H Q=>r x y H Q∨r' x y H Q):=by
 intro pins s σ H x y v u Q I rx ry q;rcases q with q|q
 .exact h pins s σ H x y v u Q I rx ry q
 .exact h' pins s σ H x y v u Q I rx ry q
theorem V8(b:Uz){op:CmpOp}(h:op≠.In:=by decide)(h2:op≠.NotIn:=by decide):behindInMarks op b=yb:=by
 have e1:(op==CmpOp.In)=yb:=by cases op<;>first|rfl|exact absurd w8 h
 have e2:(op==CmpOp.NotIn)=yb:=by cases op<;>first|rfl|exact absurd w8 h2
 cases b<;>simp[behindInMarks,e1,e2]
theorem HV{op:CmpOp}{r:R2}(ho:OpR X (UD op) r)(ha:PE X a ta)(hb:PE X b tb)(hm:behindInMarks op b=yb):PE X (.Compare a [op] [b] pos) (tOp r ta tb):=by intro pins s σ H Q I h;exact wpAny_Compare1 (SV ha hb I h λv u s2 x y H2 I2 rx ry q=>ho pins s2 σ H2 x y v u Q I2 rx ry q) hm
noncomputable def MZ(t:TE):TT:=λσ H Q=>t σ H λx H'=>∃k,x=.bl k/\Q k H'
theorem NE{op:CmpOp}{r:R2}(ho:OpR X (UD op) r)(ha:PE X a ta)(hb:PE X b tb)(hm:behindInMarks op b=yb):PT X (.Compare a [op] [b] pos) (MZ (tOp r ta tb)):=by
 intro pins s σ H Q I h
 refine wpAny_isTrue_Compare1 (thn (ha pins s σ H _ I h) λv s1 ⟨x,H1,I1,r1,q1⟩=>thn (hb pins s1 σ H1 _ I1 q1) λu s2 ⟨y,H2,I2,r2,q2⟩=>
  thn (ho pins s2 σ H2 x y v u _ I2 r1 r2 q2) λc s3 ⟨z,H3,I3,r3,k,e,q3⟩=>?_) hm
 subst e;cases r3;exact Q7 ⟨H3,I3,q3⟩
noncomputable def LA(r r':R2)(ta tb tc:TE):TE:=λσ H Q=>ta σ H λx H1=>tb σ H1 λy H2=>r x y H2 λz H3=>∃k,z=.bl k /\
 (if k=ya then tc σ H3 λw' H4=>r' y w' H4 Q else Q (.bl yb) H3)
theorem jM{op op':CmpOp}{r r':R2}(ho:OpR X (UD op) r)(ho':OpR X (UD op') r')(ha:PE X a ta)(hb:PE X b tb)(hc:PE X c tc)
  (hm:lastMarks [op,op'] [b,c]=yb:=by with_unfolding_all rfl):PE X (.Compare a [op,op'] [b,c] pos) (LA r r' ta tb tc):=by
 intro pins s σ H Q I h
 refine Compare_chain (thn (ha pins s σ H _ I h) λv s1 ⟨x,H1,I1,r1,q1⟩=>chain_link (thn (hb pins s1 σ H1 _ I1 q1) λu s2 ⟨y,H2,I2,r2,q2⟩=>
  thn (ho pins s2 σ H2 x y v u _ I2 r1 r2 q2) λd s3 ⟨z,H3,I3,r3,k,e,q3⟩=>?_)) hm
 subst e;cases r3;refine Q7 ?_;cases k with
 |false=>exact ite_ff ⟨.bl yb,H3,I3,rfl,q3⟩
 |true=>exact ite_tt (chain_last (thn (hc pins s3 σ H3 _ I3 q3) λw' s4 ⟨z',H4,I4,r4,q4⟩=>ho' pins s4 σ H4 y z' u w' Q I4 r2 r4 q4))
theorem jL{op op':CmpOp}{r r':R2}(ho:OpR X (UD op) r)(ho':OpR X (UD op') r')(ha:PE X a ta)(hb:PE X b tb)(hc:PE X c tc)
  (hm:lastMarks [op,op'] [b,c]=yb:=by with_unfolding_all rfl):PT X (.Compare a [op,op'] [b,c] pos) (MZ (LA r r' ta tb tc)):=by
 intro pins s σ H Q I h
 refine isTrue_chain (thn (ha pins s σ H _ I h) λv s1 ⟨x,H1,I1,r1,q1⟩=>test_link (thn (hb pins s1 σ H1 _ I1 q1) λu s2 ⟨y,H2,I2,r2,q2⟩=>
  thn (ho pins s2 σ H2 x y v u _ I2 r1 r2 q2) λd s3 ⟨z,H3,I3,r3,k,e,q3⟩=>?_)) hm
 subst e;cases r3;refine Q7 ?_;cases k with
 |false=>obtain⟨k',e',q'⟩:=q3;cases e';exact ite_ff ⟨H3,I3,q'⟩
 |true=>refine ite_tt (test_last (thn (hc pins s3 σ H3 _ I3 q3) λw' s4 ⟨z',H4,I4,r4,q4⟩=>thn (ho' pins s4 σ H4 y z' u w' _ I4 r2 r4 q4) λd' s5 ⟨z2,H5,I5,r5,k2,e2,q5⟩=>?_));subst e2;cases r5;exact Q7 ⟨H5,I5,q5⟩
def TruV(K:Frag)(x:V)(H:Hp)(k:Bool):Prop:=
 match x with
 |.non=>k=yb
 |.bl b=>k=b
 |.int i=>k=(i != 0)
 |.str y=>y.length<=UA/\k=((y.length:Int) != 0)
 |.byt y=>y.size<=UA/\k=((y.size:Int) != 0)
 |.ref p=>(∃xs,SqL K H p xs/\k = !xs.isEmpty)∨(∃xs,SqT K H p xs/\k = !xs.isEmpty) ∨ ∃kvs,H p=O (.dK kvs)/\k = !kvs.isEmpty
 |_=>False
theorem ve{κ:Type}{kvs:List (κ×V)}{vs:List (κ×Uu)}(r:KV kvs vs):(!vs.isEmpty) = !kvs.isEmpty:=by cases r<;>rfl
theorem Ef{xs:List V}{its:yf}(r:Vals xs its):(!its.toArray.isEmpty) = !xs.isEmpty:=by cases r<;>simp
theorem R9:(UA:Nat)<2 ^ 63:=by rw[sizeLine_eq];decide
theorem CO:TruR X (λx H Q=>∃k,TruV X.K x H k/\Q k H):=by
 intro pins s σ H x v Q I rx h;obtain⟨k,e,q⟩:=h;have hl:=R9;have hs:UA=16777216:=sizeLine_eq;cases x with
 |non=>cases rx;have e':k=yb:=e;subst e';exact truthy_none ⟨H,I,q⟩
 |bl b=>cases rx;have e':k=b:=e;subst e';exact Q7 ⟨H,I,q⟩
 |int i=>obtain⟨t,rfl⟩:=rx;have e':k=(i != 0):=e;subst e';exact PySem.P.truthy_int ⟨H,I,q⟩
 |str y=>obtain⟨t,rfl⟩:=rx;obtain⟨hy,e'⟩:y.length<=UA/\k=((y.length:Int) != 0):=e;subst e';exact PySem.P.truthy_str (by omega) ⟨H,I.tok _,q⟩
 |byt y=>obtain⟨t,rfl⟩:=rx;obtain⟨hy,e'⟩:y.size<=UA/\k=((y.size:Int) != 0):=e;subst e';exact PySem.W.truthy_bytes (by omega) ⟨H,I.tok _,q⟩
 |ref p=>
  cases rx;have e':(∃xs,SqL X.K H p xs/\k = !xs.isEmpty)∨(∃xs,SqT X.K H p xs/\k = !xs.isEmpty) ∨ ∃kvs,H p=O (.dK kvs)/\k = !kvs.isEmpty:=e;rcases e' with ⟨xs,hx,e'⟩|⟨xs,hx,e'⟩|⟨kvs,hx,e'⟩
  .subst e'
   obtain⟨its,r,pl,hz⟩:=I.list hx;have hlen:=r.length;exact wpAny_truthy_list pl.isList (by simp only[QX];omega) ⟨H,I.tok _,by rw[Ef r];exact q⟩
  .subst e'
   obtain⟨its,r,pl,hz⟩:=I.tuple hx;have hlen:=r.length;exact truthy_tuple pl (by simp only[QX];omega) ⟨H,I.tok _,by rw[Ef r];exact q⟩
  .subst e'
   obtain⟨hz,hS,vs,r,m⟩:kvs.length<=UA/\(p==sysModules)=yb/\∃vs,KV kvs vs/\s.heap.DictOf (YE X.prog X.w) p vs:=I.hok p _ hx;have hlen:kvs.length=vs.length:=Paired.length r;exact wpAny_truthy_dict hS m (by omega) ⟨H,I.tok _,by rw[ve r];exact q⟩
 |_=>exact(show False from e).elim
theorem jK(ha:PE X a ta)(he:∀whole,isTrue a X.env whole=(do let v ←whole;standAt a.pos;holding [v] (truthy v))) :
  PT X a (λσ H Q=>ta σ H λx H'=>∃k,TruV X.K x H' k/\Q k H'):=by
 intro pins s σ H Q I h;exact isTrue_plain (thn (ha pins s σ H _ I h) λv s1 ⟨x,H1,I1,r1,q1⟩=>CO pins s1 σ H1 x v Q I1 r1 q1) (he _)
theorem vd:OpR X (binaryOp .Add) (λx y H Q=>∃i j,x=.str i/\y=.str j/\i.length+j.length<=UA/\Q (.str (i++j)) H):=by intro pins s σ H x y v u Q I rx ry h;obtain⟨i,j,rfl,rfl,hz,q⟩:=h;obtain⟨t,rfl⟩:=rx;obtain⟨t',rfl⟩:=ry;exact add_str (λt' tk=>⟨.str (i++j),H,I.tok _,⟨_,rfl⟩,q⟩) hz
theorem PP{x:V}{us:yf}(r:Vals [x] us):∃u,us=[u]/\RelV x u:=by
 cases r with
 |cons r1 r2=>cases r2;exact⟨_,rfl,r1⟩
theorem O9{x y:V}{us:yf}(r:Vals [x,y] us):∃u w',us=[u,w']/\RelV x u/\RelV y w':=by
 cases r with
 |cons r1 r2=>
  cases r2 with
  |cons r3 r4=>cases r4;exact⟨_,_,rfl,r1,r3⟩
theorem xr(hc:X.calm=ya):YZ X (.builtin "max") (λxs H Q=>∃i j,xs=[.int i,.int j]/\Q (.int (if j > i then j else i)) H):=by
 intro pins s σ H xs us Q I r h;obtain⟨i,j,rfl,q⟩:=h;obtain⟨u,w',rfl,⟨t,rfl⟩,⟨t',rfl⟩⟩:=O9 r;refine max_two_ints (I.ok.hd hc) λh' tk k=>⟨_,H,I.kept k,?_,q⟩
 by_cases hj:j > i
 .rw[Qo hj,Qo hj];exact⟨_,rfl⟩
 .rw[QB hj,QB hj];exact⟨_,rfl⟩
theorem xq:YZ X (.type "int") (λxs H Q=>(∃i,xs=[.int i]/\Q (.int i) H) ∨ ∃k,xs=[.bl k]/\Q (.int (if k then 1 else 0)) H):=by
 intro pins s σ H xs us Q I r h;rcases h with ⟨i,rfl,q⟩|⟨k,rfl,q⟩
 .obtain⟨u,rfl,t,rfl⟩:=PP r
  exact call_int_int ⟨.int i,H,I,⟨_,rfl⟩,q⟩
 .obtain⟨u,rfl,r1⟩:=PP r
  cases r1;exact call_int_bool ⟨.int (if k then 1 else 0),H,I.tok _,⟨_,rfl⟩,q⟩
def LenV(K:Frag)(x:V)(H:Hp)(n:Nat):Prop:=
 match x with
 |.str y=>y.length<=UA/\n=y.length
 |.byt y=>y.size<=UA/\n=y.size
 |.ref p=>(∃xs,SqL K H p xs/\n=xs.length) ∨ ∃xs,SqT K H p xs/\n=xs.length
 |_=>False
theorem GC:YZ X (.builtin "len") (λxs H Q=>∃x n,xs=[x]/\LenV X.K x H n/\Q (.int n) H):=by
 intro pins s σ H xs us Q I r h;obtain⟨x,n,rfl,e,q⟩:=h;obtain⟨u,rfl,rx⟩:=PP r;have hl:=R9;have hs:UA=16777216:=sizeLine_eq;cases x with
 |str y=>obtain⟨t,rfl⟩:=rx;obtain⟨hy,e'⟩:y.length<=UA/\n=y.length:=e;subst e';exact len_str (by omega) ⟨.int _,H,I.tok _,⟨_,rfl⟩,q⟩
 |byt y=>obtain⟨t,rfl⟩:=rx;obtain⟨hy,e'⟩:y.size<=UA/\n=y.size:=e;subst e';exact PySem.W.len_bytes (by omega) ⟨.int _,H,I.tok _,⟨_,rfl⟩,q⟩
 |ref p=>
  cases rx;have e':(∃xs,SqL X.K H p xs/\n=xs.length) ∨ ∃xs,SqT X.K H p xs/\n=xs.length:=e;rcases e' with ⟨xs,hx,e'⟩|⟨xs,hx,e'⟩
  .subst e'
   obtain⟨its,r',pl,hz⟩:=I.list hx;have hlen:=r'.length;exact Calls.call_len_list pl.isList (by simp only[QX];omega) ⟨.int xs.length,H,I.tok _,⟨_,by simp only[QX];rw[hlen]⟩,q⟩
  .subst e'
   obtain⟨its,r',pl,hz⟩:=I.tuple hx;have hlen:=r'.length;exact len_tuple pl (by simp only[QX];omega) ⟨.int xs.length,H,I.tok _,⟨_,by simp only[QX];rw[hlen]⟩,q⟩
 |_=>exact(show False from e).elim
end
theorem RelO.some_of{v:V}{o:yj}(r:RelO (O v) o):∃u,o=O u/\RelV v u:=by
 cases o with
 |none=>exact(show False from r).elim
 |some u=>exact⟨u,rfl,r⟩
structure Room(k:Nat)(A:Around):Prop where
 hd:A.handled=w9
 dp:A.depth+3*k+5<recursionLimit
 un:A.units+16*k+200<cLine
 gd:A.guards=O []
theorem Room.mono{j k:Nat}{A:Around}(r:Room k A)(h:j<=k):Room j A:=⟨r.hd,by have:=r.dp;omega,by have:=r.un;omega,r.gd⟩
theorem Room.deeper{k:Nat}{A:Around}(r:Room (k+1) A)(env:Env):Room k (A.deeper env):=
 ⟨r.hd,by have:=r.dp;show A.depth+1+3*k+5<_;omega,by have:=r.un;show A.units+3+16*k+200<_;omega,r.gd⟩
theorem Room.depth{k:Nat}{A:Around}(r:Room k A):A.depth<recursionLimit:=by have:=r.dp;omega
theorem Room.units{k:Nat}{A:Around}(r:Room k A):A.units+64<cLine:=by have:=r.un;omega
noncomputable def tNil:TA:=λ_ H Q=>Q [] H
noncomputable def Dm(ta:TE)(tr:TA):TA:=λσ H Q=>ta σ H λx H1=>tr σ H1 λxs H2=>Q (x::xs) H2
section
variable{X:Cx}{e:Uz}{es:yg}{te:TE}{t:TA}{pos:Pos}
theorem V7:PA X [] tNil:=λ_ _ _ _ H Q I h=>Calls.spliced_nil ⟨[],H,I,.nil,h⟩
theorem WQ(ha:PE X e te)(hr:PA X es t)(hs:UC (e::es) X.env=(yb,eval e X.env)::UC es X.env:=by rfl):PA X (e::es) (Dm te t):=by intro pos pins s σ H Q I h;rw[hs];show UB _ _ (spliced ((yb,eval e X.env)::backTo pos (UC es X.env))) _ _ s;refine Calls.spliced_cons (thn (ha pins s σ H _ I h) λu s1 ⟨x,H1,I1,r1,q1⟩=>?_);exact thn (hr pos pins s1 σ H1 _ I1 q1) λus s2 ⟨xs,H2,I2,r2,q2⟩=>⟨x::xs,H2,I2,.cons r1 r2,q2⟩
noncomputable def tTup(t:TA):TE:=λσ H Q=>t σ H λxs H1=>xs.length<=UA/\∀p,H1 p=w9->Q (.ref p) (upd H1 p (.tup xs))
noncomputable def tLst(t:TA):TE:=λσ H Q=>t σ H λxs H1=>xs.length<=UA/\∀p,H1 p=w9->Q (.ref p) (upd H1 p (.lst xs))
theorem Bx{x1}(h:PA X es t):PE X (.Tuple es x1 pos) (tTup t):=by intro pins s σ H Q I hq;refine wpAny_Tuple_spliced (thn (h pos pins s σ H _ I hq) λus s1 ⟨xs,H1,I1,r,z,q⟩=>⟨by rw[←r.length];exact z,?_⟩);have hf:H1 s1.heap.objs.size=w9:=I1.hok.fresh (Qu _);refine⟨.ref s1.heap.objs.size,upd H1 s1.heap.objs.size (.tup xs),I1.laid (t':=s1.toks) (λb u e=>Qm _ e) (Qu _) ?_,rfl,q _ hf⟩;exact⟨z,us,r,⟨_,QK _ w8,rfl,_,rfl⟩⟩
theorem Nn(h:PA X es t):PE X (.List es pos) (tLst t):=by intro pins s σ H Q I hq;refine wpAny_List_spliced (thn (h pos pins s σ H _ I hq) λus s1 ⟨xs,H1,I1,r,z,q⟩=>⟨by rw[←r.length];exact z,?_⟩);have hf:H1 s1.heap.objs.size=w9:=I1.hok.fresh (Qu _);refine⟨.ref s1.heap.objs.size,upd H1 s1.heap.objs.size (.lst xs),I1.laid (t':=s1.toks) (λb u e=>Qm _ e) (Qu _) ?_,rfl,q _ hf⟩;exact⟨z,us,0,r,QK _ w8⟩
end
abbrev Sp:=List V->Hp->VK->XK->Prop
abbrev CXT:=List Env->Hp->Uv->XK->Uu->Uv->Prop
structure Env0(P:Uw)(w:World)(K:Frag)(mg:Str->yj)(base:Heap)(A:Around)(outer:List Env)(s:Uv)(H:Hp):Prop where
 frames:A.frames=O outer
 mod:Mod K mg base
 bs:∀b o,base.get? b=O o->s.heap.get? b=O o/\H b=w9
 bsz:base.objs.size<=s.heap.objs.size
 funs:s.heap.FunFrames base outer
 frf:∀b∈frs outer,H b=w9
 hok:HOk P w H s.heap
 bare:AllBare s.gens
def CE(outer:List Env)(P:Uw)(w:World)(H:Hp)(s:Uv)(Q:VK)(u:Uu)(s':Uv):Prop:=
 ∃v H',s'.os=s.os/\AllBare s'.gens/\Un (frs outer) [] H H' s.heap s'.heap/\HOk P w H' s'.heap/\RelV v u/\Q v H'
def CR(CX:CXT)(outer:List Env)(P:Uw)(w:World)(H:Hp)(s:Uv)(Q:VK)(E:XK)(r:Result)(s':Uv):Prop:=
 match r with
 |.ok (.ret u)=>CE outer P w H s Q u s'
 |.ok _=>False
 |.error e=>CX outer H s E e s'
structure FnOk(P:Uw)(w:World)(K:Frag)(mg:Str->yj)(base:Heap)(CX:CXT)(k:Nat)(f:Ux)(fd:Uy)(ps:List Str)(sp:Sp):Prop where
 len:∀vs H Q E,sp vs H Q E->vs.length=ps.length
 run:∀(A:Around)(outer:List Env)(s:Uv)(H:Hp)(args:Args)(us:yf)(vs:List V)(Q:VK)(E:XK),Room k A->Env0 P w K mg base A outer s H->BindsTo s fd args (ps.zip us)->Vals vs us->sp vs H Q E ->
  codeAny (model P w) A (.call (.ref f) args) (CR CX outer P w H s Q E) s
section
variable{X:Cx}{pins:List (Ux×Obj)}{σ:St}{H:Hp}{s s':Uv}
theorem Inv.env0(I:Inv X pins σ H s):Env0 X.prog X.w X.K X.mg X.base X.A X.stack s H:=
 ⟨I.ok.frames,I.ok.mod,I.bs,QJ I.ok.bsz I.sz,I.stack,I.stkFree,I.hok,I.bare⟩
theorem Inv.after{Q:VK}{u:Uu}(I:Inv X pins σ H s)(h:CE X.stack X.prog X.w H s Q u s'):EP X pins σ Q u s':=by obtain⟨v,H',os,bare,un,hok,r,q⟩:=h;obtain⟨hh,g,d,t,os'⟩:=s';obtain rfl:os'=s.os:=os;exact⟨v,H',I.call (h':=hh) (g':=g) (d':=d) (t':=t) (ch:=[]) un hok bare (λb z=>absurd z (by simp)),r,q⟩
end
noncomputable def Dl(sp:Sp)(dvs:List V)(E:XK)(t:TA):TE:=λσ H Q=>t σ H λvs H1=>sp (vs++dvs) H1 Q E
def WN(K:Frag)(fd:Uy)(ps:List Str)(ds:yf):Prop:=
 ∀(s:Uv)(us:yf),K.In s.heap->(us++ds).length=ps.length->BindsTo s fd ⟨us,[]⟩ (ps.zip (us++ds))
theorem WN.all{K:Frag}{fd:Uy}{ps:List Str}(h:∀us:yf,us.length=ps.length->bindArgs fd ⟨us,[]⟩=pure (ps.zip us)):WN K fd ps []:=λs us _ hl=>by rw[Q2]at hl⊢;exact .of_eq (h us hl)
def Nm(CX:CXT)(X:Cx)(E:XK):Prop:=∀(pins:List (Ux×Obj))(σ:St)(H:Hp)(s:Uv)(e:Uu)(s':Uv),Inv X pins σ H s->CX X.stack H s E e s'->X.xe e s'
section
variable{X:Cx}{CX:CXT}{k:Nat}{f C:Ux}{fd:Uy}{ps:List Str}{sp:Sp}{dvs:List V}{ds:yf}{E:XK}{x m:Str}{p pos apos:Pos}{e o:Uz}{es:yg}{ta:TE}{t:TA}
theorem Bw{pins:List (Ux×Obj)}{σ:St}{H:Hp}{s:Uv}{Q:VK}{us:yf}{vs:List V}(F:FnOk X.prog X.w X.K X.mg X.base CX k f fd ps sp)(hr:Room k X.A)(hb:WN X.K fd ps ds)(hd:Vals dvs ds)(hx:Nm CX X E)
  (I:Inv X pins σ H s) (r:Vals vs us) (h:sp (vs++dvs) H Q E):UB (model X.prog X.w) X.A (call (.ref f) us) (EP X pins σ Q) X.xe s:=by
 have r2:Vals (vs++dvs) (us++ds):=r.append hd;have hl:(us++ds).length=ps.length:=by rw[←r2.length];exact F.len _ _ _ _ h
 refine wpAny_call (codeAny_mono (F.run X.A X.stack s H ⟨us,[]⟩ (us++ds) (vs++dvs) Q E hr I.env0 (hb s us I.kIn hl) r2 h) λr s' hq=>?_);cases r with
 |error e=>exact hx pins σ H s e s' I hq
 |ok fl=>
  cases fl with
  |ret u=>exact I.after hq
  |next=>exact False.elim hq
  |brk=>exact False.elim hq
  |cont=>exact False.elim hq
theorem HU(F:FnOk X.prog X.w X.K X.mg X.base CX k f fd ps sp)(hr:Room k X.A)(hg:Gl X x)(hm:X.mg x=O (.ref f))(hk:PySem.W.keepIn X.K (.ref f)=ya)(hb:WN X.K fd ps ds)(hd:Vals dvs ds)(hx:Nm CX X E)
  (ha:PA X (e::es) t) (hdb:(x==("__debug__" : Str))=yb:=by decide) (he:UC (e::es) X.env=(yb,eval e X.env)::UC es X.env:=by rfl) (hpl:(backTo pos (UC es X.env)).any (·.1)=yb:=by rfl) :
  PE X (.Call (.Name x p) (e::es) [] pos) (Dl sp dvs E t):=by
 intro pins s σ H Q I h;refine wpAny_Call_Name_kw (HY I hg hm ?_ hdb);refine PySem.W.callWith_K (h₀:=X.base) I.ok.mod.kin hk (thn (ha pos pins s σ H _ I h) λus s1 ⟨vs,H1,I1,r,q⟩=>⟨I1.kIn,?_⟩) he hpl;exact Bw F hr hb hd hx I1 r q
end
structure RC(N P:List Str)(sc:Scope):Prop where
 kind:sc.kind=.function
 co:sc.isCoroutine=yb
 gen:sc.isGenerator=yb
 nd:N.Nodup
 pre:N.take P.length=P
 par:∀x∈P,sc.names.lookup x=O .local∨sc.names.lookup x=O .cell
 nofree:∀y∈sc.names,y.2≠.free
theorem F8{kindOf:Str->Option NameKind}{x:Str}:∀{binds:List (Str×Uu)}{m:Str->yj},(∀v,(x,v)∉binds)->bindL kindOf binds m x=m x
 |[],_,_=>rfl
 |(n,v)::r,m,h=>by
  unfold bindL;rw[F8 λw hw=>h w (Qh _ hw)];split
  .have:x≠n:=by rintro rfl;exact h v Qi
   simp[this]
  .rfl
theorem F7{kindOf:Str->Option NameKind}{x:Str}:∀{binds:List (Str×Uu)}{m:Str->yj},(∀v,(x,v)∉binds)->bindC kindOf binds m x=m x
 |[],_,_=>rfl
 |(n,v)::r,m,h=>by
  unfold bindC;rw[F7 λw hw=>h w (Qh _ hw)];split
  .rfl
  .have:x≠n:=by rintro rfl;exact h v Qi
   simp[this]
theorem F6{kindOf:Str->Option NameKind}{x:Str}{v:Uu}:∀{P:List Str}{vs:yf}{i:Nat}{m:Str->yj},P.Nodup->P[i]?=O x->vs[i]?=O v->kindOf x=O .local ->
  bindL kindOf (P.zip vs) m x=O v
 |[],_,_,_,_,h,_,_=>by simp at h
 |_::_,[],_,_,_,_,h,_=>by simp at h
 |p::P,w::vs,0,m,nd,h1,h2,hk=>by simp at h1 h2;subst h1;subst h2;show bindL kindOf ((p,w)::P.zip vs) m p=_;unfold bindL;rw[F8 λv hv=>(Jw.mp nd).1 (List.of_mem_zip hv).1,Qo hk];simp
 |p::P,w::vs,i+1,m,nd,h1,h2,hk=>by show bindL kindOf ((p,w)::P.zip vs) m x=_;unfold bindL;exact F6 (i:=i) (List.nodup_cons.mp nd).2 (by simpa using h1) (by simpa using h2) hk
theorem Eb{kindOf:Str->Option NameKind}{x:Str}{v:Uu}:∀{P:List Str}{vs:yf}{i:Nat}{m:Str->yj},P.Nodup->P[i]?=O x->vs[i]?=O v->kindOf x≠O .local ->
  bindC kindOf (P.zip vs) m x=O v
 |[],_,_,_,_,h,_,_=>by simp at h
 |_::_,[],_,_,_,_,h,_=>by simp at h
 |p::P,w::vs,0,m,nd,h1,h2,hk=>by simp at h1 h2;subst h1;subst h2;show bindC kindOf ((p,w)::P.zip vs) m p=_;unfold bindC;rw[F7 λv hv=>(Jw.mp nd).1 (List.of_mem_zip hv).1,QB hk];simp
 |p::P,w::vs,i+1,m,nd,h1,h2,hk=>by show bindC kindOf ((p,w)::P.zip vs) m x=_;unfold bindC;exact Eb (i:=i) (List.nodup_cons.mp nd).2 (by simpa using h1) (by simpa using h2) hk
noncomputable def We(N:List Str)(vs:List V):St:=vs.map O++UF (N.length-vs.length) w9
noncomputable def Y8(CX:CXT)(P:Uw)(w:World)(K:Frag)(mg:Str->yj)(base:Heap)(N:List Str)(qual:Str)(scope:Scope)(f:Ux)(cd:Uu)(A:Around)(outer:List Env)(s:Uv)(H:Hp)(E:XK):Cx where
 prog:=P
 w:=w
 K:=K
 mg:=mg
 base:=base
 A:=A.deeper (envOfC qual scope s.heap.objs.size f cd)
 N:=N
 s₀:=s
 H₀:=H
 env:=envOfC qual scope s.heap.objs.size f cd
 outer:=outer
 stack:=envOfC qual scope s.heap.objs.size f cd::outer
 ex:=[]
 calm:=ya
 fn:=λ_=>ya
 pn:=[]
 xe:=λe s'=>UB (model P w) (A.deeper (envOfC qual scope s.heap.objs.size f cd)) (leaving (envOfC qual scope s.heap.objs.size f cd) e) (λ_ s''=>CX outer H s E e s'') (λe' s''=>CX outer H s E e' s'') s'
theorem Mp{sc:Scope}{n:Nat}{x:Str}(h:sc.names.lookup x=O .cell):∃c,(cellsFrom n sc.names []).lookup x=O c:=by have q:=PySem.W.cellsFrom_some sc.names n [] (.inl h);exact Option.isSome_iff_exists.mp q
theorem xp{CX:CXT}{P:Uw}{w:World}{K:Frag}{mg:Str->yj}{base:Heap}{N ps:List Str}{qual:Str}{scope:Scope}{f:Ux}{cd:Uu}{A:Around}{outer:List Env}{s s1:Uv}{H:Hp}{E:XK}{us:yf}{vs:List V}
  (S:RC N ps scope) (hd:A.handled=w9) (e0:Env0 P w K mg base A outer s H) (hl:vs.length=ps.length) (r:Vals vs us)
  (x:InCallC s s.heap.objs.size (bindL (envOfC qual scope s.heap.objs.size f cd).kindOf (ps.zip us) λ_=>w9) (cellsFrom (s.heap.objs.size+1) scope.names []) (bindC (envOfC qual scope s.heap.objs.size f cd).kindOf (ps.zip us) λ_=>w9) s1) :
  Inv (Y8 CX P w K mg base N qual scope f cd A outer s H E) [] (We N vs) H s1:=by
 have hpl:ps.length<=N.length:=by have:=Uh List.length S.pre;rw[QZ]at this;omega
 obtain⟨h1,tk,rfl,hk⟩:=x.done;have noA:∀b:Ux,b∉(Y8 CX P w K mg base N qual scope f cd A outer s H E).ex:=λb z=>absurd (show b∈([]:yh)from z) (by simp)
 refine⟨⟨e0.mod,S.kind,rfl,rfl,Qu _,λy z c h1 h2=>?_,λy hy=>?_,λy c _ h=>?_,λ_=>hd,Around.frames_deeper e0.frames,.inr ⟨rfl,rfl⟩,λb z=>absurd z (noA b),e0.bs,e0.bsz,λb _ _=>noA b,λb z=>absurd z (noA b),e0.funs,e0.frf⟩,
  rfl,e0.bare,Un.kept hk,⟨_,x.toInCall.ns,λi y v h1 h2 h3=>?_⟩,λy c h=>⟨_,x.cell y c h⟩,e0.hok.fresh (Nat.le_refl _),λy c h=>?_,λp hp=>absurd (show p∈([]:List (Ux×Obj))from hp) (by simp),e0.hok.kept hk,?_⟩
 .exact name_of_addr x.apart (Jk h1) (Jk h2)
 .have hy:scope.names.lookup y=O .cell∨scope.names.lookup y=O .free:=hy
  rcases hy with hy|hy
  .exact Mp hy
  .exact absurd w8 (S.nofree _ (Jk hy))
 .exact Ur (x.above y c (Jk h))
 .have hi:i<vs.length:=by
   unfold We at h2;by_cases hi:i<vs.length
   .exact hi
   .rw[List.getElem?_append_right (by simpa using hi)]at h2
    rw[QD]at h2;split at h2<;>cases h2
  have ha:vs[i]?=O v:=by
   unfold We at h2;rw[List.getElem?_append_left (by simpa using hi),List.getElem?_map]at h2;cases e:vs[i]? with
   |none=>rw[e]at h2;cases h2
   |some a=>rw[e]at h2;cases h2;rfl
  obtain⟨u,hu,rv⟩:=r.get ha;have hp:ps[i]?=O y:=by rw[←S.pre,List.getElem?_take_of_lt (by omega)];exact h1
  have ndP:ps.Nodup:=by rw[←S.pre];exact S.nd.sublist (List.take_sublist _ _)
  refine⟨u,rv,?_⟩;rcases S.par y (Qv hp)with k|k
  .exact .inl ⟨k,F6 ndP hp hu k⟩
  .obtain⟨c,e⟩:=Mp (n:=s.heap.objs.size+1) k
   refine .inr ⟨.inl k,c,e,?_⟩;have q:=x.cell y c e;rw[Eb ndP hp hu (by show scope.names.lookup y≠_;rw[k];decide)]at q;exact q
 .exact e0.hok.fresh (Ur (x.above y c (Jk h)))
 .unfold We
  show _=N.length;rw[Qk,Qb,QH];omega
theorem Dk{CX:CXT}{P:Uw}{w:World}{K:Frag}{mg:Str->yj}{base:Heap}{k:Nat}{f:Ux}{name qual:Str}{params:Arguments}{body:List Stmt}{scope:Scope}{dV kV doc pm cdv ct oc:Uu}{an od:yo}
  {osl:Array yj} {N ps:List Str} {sp:Sp} (lk:K.lookup f=O ⟨oc,od,.func (PySem.W.fnOf name qual params body scope dV kV doc pm an cdv ct),osl⟩) (hcd:PySem.W.codeIn K cdv qual=ya) (S:RC N ps scope)
  (len:∀vs H Q E,sp vs H Q E->vs.length=ps.length)
  (hbody:∀(A:Around)(outer:List Env)(s:Uv)(H:Hp)(vs:List V)(Q:VK)(E:XK),Room k (A.deeper (envOfC qual scope s.heap.objs.size f cdv))->sp vs H Q E ->
   ∃t,PSs (Y8 CX P w K mg base N qual scope f cdv A outer s H E) body t/\t {nx:=λ_ H'=>Q .non H',rt:=Q} (We N vs) H) :
  FnOk P w K mg base CX (k+1) f (PySem.W.fnOf name qual params body scope dV kV doc pm an cdv ct) ps sp:=by
 refine⟨len,λA outer s H args us vs Q E hr e0 hb r zY=>?_⟩;have hl:=len _ _ _ _ zY;have KX:K.In s.heap:=e0.mod.kin.keeps λb o e=>(e0.bs b o e).1;have lim:s.heap.NoLimit:=e0.mod.nolimit.keeps λb o e=>(e0.bs b o e).1
 have hkind:∀y∈ps.zip us,scope.names.lookup y.1=O .local∨(scope.names.lookup y.1=O .cell/\((cellsFrom (s.heap.objs.size+1) scope.names []).lookup y.1).isSome=ya):=λ⟨n,v⟩ hy=>by
  rcases S.par n (List.of_mem_zip hy).1 with q|q
  .exact .inl q
  .exact .inr ⟨q,PySem.W.cellsFrom_some _ _ _ (.inl q)⟩
 refine codeAny_call_function hr.depth (KX _ _ lk) w8 S.co S.gen w8 (PySem.W.codeRec_of KX hcd) (hb _ _ _ _ ?_);refine wpAny_newFunctionEnv_cells S.kind hkind λenv he s1 x=>?_;subst he
 refine⟨lim.keeps x.toInCall.keep,codeAny_func ?_⟩;obtain⟨t,ht,hq⟩:=hbody A outer s H vs Q E (hr.deeper _) zY;have I:Inv (Y8 CX P w K mg base N qual scope f cdv A outer s H E) [] (We N vs) H s1:=xp S hr.hd e0 hl r x;refine QN (ht [] s1 (We N vs) H _ I hq) (λfl s' hs=>?_) λe s' hs=>hs
 have fin:∀{σ':St}{H':Hp}{v:V}{u:Uu},Inv (Y8 CX P w K mg base N qual scope f cdv A outer s H E) [] σ' H' s'->RelV v u->Q v H'->CE outer P w H s Q u s':=
  λ{σ' H' v u} J rv q=>⟨v,H',J.os,J.bare,J.base,J.hok,rv,q⟩
 cases fl with
 |ret u=>obtain⟨v,σ',H',J,rv,q⟩:=hs;exact fin J rv q
 |next=>obtain⟨σ',H',J,q⟩:=hs;exact fin (v:=V.non) (u:=Value.none) J w8 q
 |brk=>obtain⟨_,_,_,q⟩:=hs;exact False.elim q
 |cont=>obtain⟨_,_,_,q⟩:=hs;exact False.elim q
section
variable{X:Cx}{x:Str}{p pos:Pos}{e:Uz}{es:yg}{t:TA}{id T:String}{r:List V->Hp->VK->Prop}
noncomputable def tCB(r:List V->Hp->VK->Prop)(t:TA):TE:=λσ H Q=>t σ H λvs H1=>r vs H1 Q
theorem OE(hc:YZ X (.builtin id) r)(hg:Gl X x)(hm:X.mg x=w9)(hv:bootBuiltins x=O (.builtin id))(ha:PA X (e::es) t)(hn:x ≠ "__name__" :=by decide)(hdb:(x==("__debug__" : Str))=yb:=by decide)
  (he:UC (e::es) X.env=(yb,eval e X.env)::UC es X.env:=by rfl) (hpl:(backTo pos (UC es X.env)).any (·.1)=yb:=by rfl):PE X (.Call (.Name x p) (e::es) [] pos) (tCB r t):=by
 intro pins s σ H Q I h;refine wpAny_Call_Name_kw (V9 I hg hm hv ?_ hn hdb);exact PyProof.Rows.callWith_builtin1 (thn (ha pos pins s σ H _ I h) λus s1 ⟨vs,H1,I1,r1,q1⟩=>hc pins s1 σ H1 vs us Q I1 r1 q1) he hpl
theorem My(hc:YZ X (.type T) r)(hg:Gl X x)(hm:X.mg x=w9)(hv:bootBuiltins x=O (.type T))(ha:PA X (e::es) t)(hn:x ≠ "__name__" :=by decide)(hdb:(x==("__debug__" : Str))=yb:=by decide)
  (he:UC (e::es) X.env=(yb,eval e X.env)::UC es X.env:=by rfl) (hpl:(backTo pos (UC es X.env)).any (·.1)=yb:=by rfl):PE X (.Call (.Name x p) (e::es) [] pos) (tCB r t):=by
 intro pins s σ H Q I h;refine wpAny_Call_Name_kw (V9 I hg hm hv ?_ hn hdb);exact JC (thn (ha pos pins s σ H _ I h) λus s1 ⟨vs,H1,I1,r1,q1⟩=>hc pins s1 σ H1 vs us Q I1 r1 q1) he hpl
end
end L2
namespace HT
open PySem PyProof.Rows
section
variable{prog:Uw}{w:World}{A:Around}{E:Uu->Uv->Prop}{s:Uv}
noncomputable def sIx(n d:Nat):yi->Nat
 |none=>d
 |some v=>if v<0 then(v+(n:Int)).toNat else min v.toNat n
end
end HT
namespace L2
open PySem PySem.Spec PyProof.Rows
abbrev TO:=St->Hp->(yi->Hp->Prop)->Prop
def PO(X:Cx)(e:Option Uz)(t:TO):Prop:=
 ∀(pins:List (Ux×Obj))(s:Uv)(σ:St)(H:Hp)(Q:yi->Hp->Prop),Inv X pins σ H s->t σ H Q ->
  UB (model X.prog X.w) X.A (evalPart e X.env) (λu s'=>∃o H',Inv X pins σ H' s'/\IsPart u o/\Q o H') X.xe s
noncomputable def A3:TO:=λ_ H Q=>Q w9 H
noncomputable def Dj(t:TE):TO:=λσ H Q=>t σ H λx H1=>∃i,x=.int i/\Q (O i) H1
section
variable{X:Cx}{e:Uz}{te:TE}{lo hi:Option Uz}{tl th:TO}{pos p2:Pos}
theorem A2:PO X w9 A3:=by intro pins s σ H Q I h;rw[evalPart_none];exact Qn ⟨w9,H,I,.none,h⟩
theorem A1(h:PE X e te):PO X (O e) (Dj te):=by
 intro pins s σ H Q I hw;rw[evalPart_some];refine thn (h pins s σ H _ I hw) λu s1 ⟨x,H1,I1,r1,q1⟩=>?_
 obtain⟨i,rfl,q⟩:=q1;obtain⟨t,rfl⟩:=r1;exact⟨O i,H1,I1,.int i t,q⟩
def SlR(X:Cx)(r:V->yi->yi->Hp->VK->Prop):Prop:=
 ∀(pins:List (Ux×Obj))(s:Uv)(σ:St)(H:Hp)(x:V)(v vl vu:Uu)(lo hi:yi)(sl:Ux)(Q:VK),Inv X pins σ H s->RelV x v->s.heap.IsSliceOf sl vl vu .none->IsPart vl lo->IsPart vu hi->r x lo hi H Q ->
  ∃T id,typeLookup (.type T) "__getitem__" = pure (O (.builtin id))/\s.TypeIs v T/\UB (model X.prog X.w) X.A (getItem v (.ref sl)) (EP X pins σ Q) X.xe s
theorem SlR.or{r r':V->yi->yi->Hp->VK->Prop}(h:SlR X r)(h':SlR X r'):SlR X (λx lo hi H Q=>r x lo hi H Q∨r' x lo hi H Q):=by
 intro pins s σ H x v vl vu lo hi sl Q I rx hs pl pu q;rcases q with q|q
 .exact h pins s σ H x v vl vu lo hi sl Q I rx hs pl pu q
 .exact h' pins s σ H x v vl vu lo hi sl Q I rx hs pl pu q
noncomputable def tSl(r:V->yi->yi->Hp->VK->Prop)(te:TE)(tl th:TO):TE:=λσ H Q=>te σ H λx H1=>tl σ H1 λl H2=>th σ H2 λu H3=>r x l u H3 Q
theorem jJ{r:V->yi->yi->Hp->VK->Prop}(hr:SlR X r)(he:PE X e te)(hl:PO X lo tl)(hu:PO X hi th):PE X (.Subscript e (.Slice lo hi w9 p2) pos) (tSl r te tl th):=by
 intro pins s σ H Q I h;refine Subscript_ (thn (he pins s σ H _ I h) λv s1 ⟨x,H1,I1,r1,q1⟩=>?_);refine wpAny_Slice (thn (hl pins s1 σ H1 _ I1 q1) λvl s2 ⟨l,H2,I2,pl,q2⟩=>thn (hu pins s2 σ H2 _ I2 q2) λvu s3 ⟨u,H3,I3,pu,q3⟩=>?_);rw[evalPart_none];refine Qn ?_;have I4:Inv X pins σ H3 {s3 with heap:=s3.heap.push {cls:=.type "slice", data:=.fields #[vl,vu,.none]}}:=I3.kept (t':=s3.toks) λb ob q=>Qm _ q
 obtain⟨T,id,hT,ht,hg⟩:=hr pins {s3 with heap:=s3.heap.push {cls:=.type "slice", data:=.fields #[vl,vu,.none]}} σ H3 x v vl vu l u s3.heap.objs.size Q I4 r1 (Heap.IsSliceOf.new ..) pl pu q3;show UB (model X.prog X.w) X.A (subscriptTail e (.Slice lo hi w9 p2) v (.ref s3.heap.objs.size)) (EP X pins σ Q) X.xe {s3 with heap:=s3.heap.push {cls:=.type "slice", data:=.fields #[vl,vu,.none]}};exact tail_any (ops:=[.ref s3.heap.objs.size,v]) ht hT hg (by with_unfolding_all rfl)
noncomputable def XZ(xs:List V)(lo hi:yi):List V:=(xs.drop (HT.sIx xs.length 0 lo)).take (HT.sIx xs.length xs.length hi-HT.sIx xs.length 0 lo)
theorem vZ(xs:List V)(lo hi:yi):(XZ xs lo hi).length<=xs.length:=by unfold XZ;rw[QZ,Jm];omega
end
noncomputable def ixN(n:Nat)(i:Int):Option Nat:=if 0<=i then(if i<n then O i.toNat else w9)else if -(n:Int)<=i then O (i+n).toNat else w9
noncomputable def atI{α:Type}(xs:List α)(i:Int):Option α:=(ixN xs.length i).bind λj=>xs[j]?
theorem A0{n:Nat}{i:Int}{j:Nat}(h:ixN n i=O j):seqIndex? i n=O j/\j<n /\ -(n:Int)<=i/\i<n:=by
 unfold ixN at h;by_cases h0:0<=i
 .rw[Qo h0]at h
  by_cases h1:i<n
  .rw[Qo h1]at h
   have e:i.toNat=j:=Q5 h;exact⟨by rw[seqIndex_of h0 h1,e],by omega,by omega,h1⟩
  .rw[QB h1]at h;cases h
 .rw[QB h0]at h
  by_cases h1 : -(n:Int)<=i
  .rw[Qo h1]at h
   have e:(i+n).toNat=j:=Q5 h;exact⟨by rw[seqIndex_neg (by omega) h1,e],by omega,h1,by omega⟩
  .rw[QB h1]at h;cases h
theorem NC{α:Type}{xs:List α}{i:Int}{v:α}(h:atI xs i=O v):∃j,seqIndex? i xs.length=O j/\xs[j]?=O v/\j<xs.length /\ -(xs.length:Int)<=i/\i<xs.length:=by
 unfold atI at h;cases e:ixN xs.length i with
 |none=>rw[e]at h;cases h
 |some j=>rw[e]at h;obtain⟨h1,h2,h3,h4⟩:=A0 e;exact⟨j,h1,h,h2,h3,h4⟩
theorem Zz{α:Type}{xs:List α}{j:Nat}{v:α}(h:xs[j]?=O v):atI xs (j:Int)=O v:=by
 have hj:j<xs.length:=(Qg.mp h).1;have e:ixN xs.length (j:Int)=O j:=by unfold ixN;rw[if_pos (by omega),if_pos (by omega)];simp
 unfold atI;rw[e];exact h
def Oy(b:Uz):Prop:=∀o i,subscripted b yb o i=operate [o,i] (getItem o i)
def IxR(X:Cx)(r:R2):Prop:=
 ∀(value slice:Uz)(pins:List (Ux×Obj))(s:Uv)(σ:St)(H:Hp)(x y:V)(v u:Uu)(Q:VK),Inv X pins σ H s->RelV x v->RelV y u->r x y H Q ->
  subscripted slice yb v u=operate [v,u] (getItem v u)->UB (model X.prog X.w) X.A (subscriptTail value slice v u) (EP X pins σ Q) X.xe s
def MtR(X:Cx)(id:String)(r:V->List V->Hp->VK->Prop):Prop:=
 ∀(pins:List (Ux×Obj))(s:Uv)(σ:St)(H:Hp)(x:V)(xs:List V)(v:Uu)(us:yf)(Q:VK),Inv X pins σ H s->RelV x v->Vals xs us->r x xs H Q ->
  UB (model X.prog X.w) X.A (call (.builtin id) (v::us)) (EP X pins σ Q) X.xe s
section
variable{X:Cx}{a b:Uz}{ta tb:TE}{pos:Pos}
theorem IxR.or{r r':R2}(h:IxR X r)(h':IxR X r'):IxR X (λx y H Q=>r x y H Q∨r' x y H Q):=by
 intro value slice pins s σ H x y v u Q I rx ry q hs;rcases q with q|q
 .exact h value slice pins s σ H x y v u Q I rx ry q hs
 .exact h' value slice pins s σ H x y v u Q I rx ry q hs
theorem O8{r:R2}(hr:IxR X r)(ha:PE X a ta)(hb:PE X b tb)(hs:Oy b):PE X (.Subscript a b pos) (tOp r ta tb):=by intro pins s σ H Q I h;exact Subscript_ (SV ha hb I h λv u s2 x y H2 I2 rx ry q=>hr a b pins s2 σ H2 x y v u Q I2 rx ry q (hs _ _))
noncomputable def rIxL(K:Frag):R2:=λx y H Q=>∃p xs i v,x=.ref p/\y=.int i/\SqL K H p xs/\atI xs i=O v/\Q v H
noncomputable def rIxT(K:Frag):R2:=λx y H Q=>∃p xs i v,x=.ref p/\y=.int i/\SqT K H p xs/\atI xs i=O v/\Q v H
noncomputable def rIxS:R2:=λx y H Q=>∃z i c,x=.str z/\y=.int i/\z.length<=UA/\atI z.cps.toList i=O c/\Q (.str ⟨#[c]⟩) H
theorem AZ:IxR X (rIxL X.K):=by
 intro value slice pins s σ H x y v u Q I rx ry h hs;obtain⟨p,xs,i,z,rfl,rfl,hq,he,q⟩:=h;cases rx;obtain⟨t,rfl⟩:=ry;obtain⟨its,r,pl,hz⟩:=I.list hq;obtain⟨j,h1,h2,h3,h4,h5⟩:=NC he;obtain⟨w,ew,yF⟩:=r.get h2;have hl:=r.length;have hn:=R9;have fin:EP X pins σ Q w s:=⟨z,H,I,yF,q⟩
 by_cases h0:0<=i
 .have hj:i.toNat=j:=by
   rw[seqIndex_of h0 h5]at h1;exact Q5 h1
  exact item_listR pl.isList h0 (by omega) (by rw[hj];simpa using ew) fin hs
 .have hj:(i+(its.toArray.size:Int)).toNat=j:=by
   rw[seqIndex_neg (by omega) h4]at h1;rw[QX,←hl];exact Q5 h1
  exact subscriptTail_builtinR (x:=w) pl.isList.typeIs slot_list_getitem.lookup
   (wpAny_getItem_list_neg (Q:=λr s'=>r=w/\EP X pins σ Q r s') pl.isList (by omega) (by rw[List.size_toArray]<;>omega) (by omega) (by rw[hj];simpa using ew) ⟨rfl,fin⟩) hs
theorem Bv:IxR X (rIxT X.K):=by
 intro value slice pins s σ H x y v u Q I rx ry h hs;obtain⟨p,xs,i,z,rfl,rfl,hq,he,q⟩:=h;cases rx;obtain⟨t,rfl⟩:=ry;obtain⟨its,r,pl,hz⟩:=I.tuple hq;obtain⟨j,h1,h2,h3,h4,h5⟩:=NC he;obtain⟨w,ew,yF⟩:=r.get h2;have hl:=r.length;have hn:=R9;have fin:EP X pins σ Q w s:=⟨z,H,I,yF,q⟩
 exact subscriptTail_builtinR (x:=w) pl.typeIs slot_tuple_getitem.lookup
  (getItem_tuple (j:=j) (Q:=λr s'=>r=w/\EP X pins σ Q r s') pl (by omega) (by omega) (by rw[List.size_toArray,←hl];exact h1) (by simpa using ew) ⟨rfl,fin⟩) hs
theorem Bu:IxR X rIxS:=by
 intro value slice pins s σ H x y v u Q I rx ry h hs;obtain⟨z,i,c,rfl,rfl,hz,he,q⟩:=h;obtain⟨t,rfl⟩:=rx;obtain⟨t',rfl⟩:=ry;obtain⟨j,h1,h2,h3,h4,h5⟩:=NC he;have hl:z.cps.toList.length=z.length:=by simp[Str.length]
 rw[hl]at h1 h4 h5;have hn:=R9;exact tail_any (typeIs_str s z t) slot_str_getitem.lookup (getItem_str (c:=c) (by have e1:decide (i < -(2 ^ 63:Int))=yb:=QU (by omega);have e2:decide (i ≥ 2 ^ 63)=yb:=QU (by omega);rw[e1,e2,Bool.or_false]) (by rw[h1];simpa using h2) ⟨.str ⟨#[c]⟩,H,I.tok _,⟨_,rfl⟩,q⟩) hs
noncomputable def rIx(K:Frag):R2:=λx y H Q=>rIxL K x y H Q∨rIxT K x y H Q∨rIxS x y H Q
theorem Nl:IxR X (rIx X.K):=AZ.or (Bv.or Bu)
theorem wO(lo hi:yi)(n:Nat):(sliceBounds lo hi w9 n).1=((HT.sIx n 0 lo:Nat):Int)/\(sliceBounds lo hi w9 n).2.1=((HT.sIx n n hi:Nat):Int)/\(sliceBounds lo hi w9 n).2.2=1:=by
 refine⟨?_,?_,rfl⟩
 .cases lo with
  |none=>simp[sliceBounds,HT.sIx]
  |some i=>
   simp only[sliceBounds,HT.sIx,Option.getD_none,show(1:Int) > 0 by decide,if_true];by_cases h:i<0
   .simp only[h,if_true]<;>omega
   .simp only[h,if_false]<;>omega
 .cases hi with
  |none=>simp[sliceBounds,HT.sIx]
  |some i=>
   simp only[sliceBounds,HT.sIx,Option.getD_none,show(1:Int) > 0 by decide,if_true];by_cases h:i<0
   .simp only[h,if_true]<;>omega
   .simp only[h,if_false]<;>omega
theorem wW(its:yf)(lo hi:yi):slicePick its.toArray lo hi w9=((its.drop (HT.sIx its.length 0 lo)).take (HT.sIx its.length its.length hi-HT.sIx its.length 0 lo)).toArray:=by obtain⟨h1,h2,h3⟩:=wO lo hi its.toArray.size;unfold slicePick;rw[h1,h2,h3];simp only[sliceRange_one,pick_run,QX]<;>rfl
noncomputable def rSlL(K:Frag):V->yi->yi->Hp->VK->Prop:=λx lo hi H Q=>∃a xs,x=.ref a/\SqL K H a xs/\∀p,H p=w9->Q (.ref p) (upd H p (.lst (XZ xs lo hi)))
theorem AY:SlR X (rSlL X.K):=by intro pins s σ H x v vl vu lo hi sl Q I rx hs pl pu h;obtain⟨a,xs,rfl,hx,q⟩:=h;cases rx;obtain⟨its,r,ht,hz⟩:=I.list hx;have hlen:=r.length;refine⟨"list", _,slot_list_getitem.lookup,ht.isList.typeIs,?_⟩;refine wpAny_getItem_list_slice ht.isList hs pl pu .none (by simp) ?_ (by rw[List.size_toArray]<;>omega);rw[wW,←hlen];refine⟨.ref s.heap.objs.size,_,I.laid (t':=s.toks) (o:=.lst (XZ xs lo hi)) (λb ob q=>Qm _ q) (Qu _) ?_,rfl,q _ (I.hok.fresh (Qu _))⟩;exact⟨QJ (vZ xs lo hi) hz,_,0,(r.drop (HT.sIx xs.length 0 lo)).take (HT.sIx xs.length xs.length hi-HT.sIx xs.length 0 lo),QK _ w8⟩
theorem wN:YZ X (.type "list") (λxs H Q=>∃p ys,xs=[.ref p]/\(SqL X.K H p ys∨SqT X.K H p ys)/\∀l,H l=w9->Q (.ref l) (upd H l (.lst ys))):=by
 intro pins s σ H xs us Q I r h;obtain⟨p,ys,rfl,hq,q⟩:=h;obtain⟨u,rfl,rx⟩:=PP r;cases rx
 have fin:∀(its:yf),Vals ys its->ys.length<=UA->∀(h':Heap)(c':Nat),(∀b o',s.heap.get? b=O o'->h'.get? b=O o') ->
   h'.get? s.heap.objs.size=O {cls:=.type "list", dict:=w9,data:=.seq its.toArray c',slots:=#[]}->EP X pins σ Q (.ref s.heap.objs.size) {s with heap:=h'}:=λits r' hz h' c' kp e=>
  ⟨.ref s.heap.objs.size,_,I.laid (t':=s.toks) kp (Qu _) (show ZW X.prog X.w _ h' _ (.lst ys)from⟨hz,its,c',r',e⟩),rfl,q _ (I.hok.fresh (Qu _))⟩
 rcases hq with hq|hq
 .obtain⟨its,r',pl,hz⟩:=I.list hq
  have hlen:=r'.length;obtain⟨o,ho,hc,n,hd⟩:=pl.isList;exact call_list_seq p (.inl w8) ho hc hd (λh' c' kp e=>fin its r' hz h' c' kp e) (by simp only[QX]<;>omega)
 .obtain⟨its,r',pl,hz⟩:=I.tuple hq
  have hlen:=r'.length;obtain⟨o,ho,hc,n,hd⟩:=pl;exact call_list_seq p (.inr w8) ho hc hd (λh' c' kp e=>fin its r' hz h' c' kp e) (by simp only[QX]<;>omega)
def tyV(K:Frag)(T:String)(x:V)(H:Hp):Prop:=match x with
 |.str _=>T = "str"
 |.int _=>T = "int"
 |.ref p=>(T = "list" /\ ∃xs,SqL K H p xs)∨(T = "tuple" /\ ∃o,K.lookup p=O o/\o.cls=.type "tuple" /\ o.dict=w9) ∨
   (T = "dict" /\ ((∃kvs,H p=O (.dK kvs)) ∨ ∃kvs,H p=O (.dT kvs)))∨(T = "set" /\ ∃S n,H p=O (.set S n))
 |_=>False
theorem Bt{pins:List (Ux×Obj)}{σ:St}{H:Hp}{s:Uv}{T:String}{x:V}{v:Uu}(I:Inv X pins σ H s)(r:RelV x v)(ty:tyV X.K T x H) :
  s.TypeIs v T/\∀a,v=.ref a->∃ob,s.heap.get? a=O ob/\ob.dict=w9:=by
 cases x with
 |str z=>obtain⟨t,rfl⟩:=r;cases (show T = "str" from ty);exact⟨typeIs_str s z t,λ_ e=>nomatch e⟩
 |int i=>obtain⟨t,rfl⟩:=r;cases (show T = "int" from ty);exact⟨typeIs_int s i t,λ_ e=>nomatch e⟩
 |ref p=>
  cases r;rcases ty with ⟨rfl,xs,hq⟩|⟨rfl,o,hk,hc,hd⟩|⟨rfl,hk⟩|⟨rfl,S,n,hk⟩
  .obtain⟨its,_,pl,_⟩:=I.list hq
   refine⟨pl.isList.typeIs,λa e=>?_⟩;cases e;obtain⟨o,n,e,c,hd,_⟩:=pl;exact⟨o,e,hd⟩
  .refine⟨⟨o,I.kIn p o hk,hc⟩,λa e=>?_⟩
   cases e;exact⟨o,I.kIn _ o hk,hd⟩
  .have z:∃o,s.heap.get? p=O o/\o.ExactDict:=by
    rcases hk with ⟨kvs,hk⟩|⟨kvs,hk⟩
    .obtain⟨_,_,_,_,o,_,_,e,ex,_⟩:=I.hok p _ hk
     exact⟨o,e,ex⟩
    .obtain⟨_,_,_,_,o,_,_,e,ex,_⟩:=I.hok p _ hk
     exact⟨o,e,ex⟩
   obtain⟨o,e,ex⟩:=z;refine⟨⟨o,e,ex.1⟩,λa e2=>?_⟩;cases e2;exact⟨o,e,ex.2.1⟩
  .obtain⟨o,_,_,_,e,ex,_⟩:=I.hok p _ hk
   refine⟨⟨o,e,ex.1⟩,λa e2=>?_⟩;cases e2;exact⟨o,e,ex.2.1⟩
 |_=>exact False.elim ty
noncomputable def tBM(K:Frag)(T:String)(r:V->List V->Hp->VK->Prop)(to:TE)(t:TA):TE:=λσ H Q=>to σ H λx H1=>tyV K T x H1/\t σ H1 λxs H2=>r x xs H2 Q
variable{o e:Uz}{es:yg}{to:TE}{t:TA}{name:Str}{apos cpos:Pos}{T id:String}{r:V->List V->Hp->VK->Prop}
theorem PN(pa:PlainAttrs T)(slot:Slot T name id)(hty:typeOf (.builtin id)=pure (.type "method_descriptor"))(hm:MtR X id r)(ho:PE X o to)(ha:PA X (e::es) t)
  (hbase:attributeBase o name X.env (eval o X.env)=eval o X.env:=by rfl)
  (hfew:((backTo cpos (UC (e::es) X.env)).all (λx=>!x.1)&&(backToKw cpos (keywordEach [] X.env)).all (λx=>x.1.isSome)
   && decide ((e::es).length+([]:List Keyword).length+(if([]:List Keyword).isEmpty then 0 else 1)<30))=ya:=by rfl)
  (hline:(apos.endLine==cpos.line)=ya:=by rfl) (hs:UC (e::es) X.env=(yb,eval e X.env)::UC es X.env:=by rfl) (hplain:(backTo cpos (UC es X.env)).any (·.1)=yb:=by rfl) :
  PE X (.Call (.Attribute o name apos) (e::es) [] cpos) (tBM X.K T r to t):=by
 intro pins s σ H Q I h;refine wpAny_Call_method_late hbase hfew hline w8 (thn (ho pins s σ H _ I h) λv s1 ⟨x,H1,I1,r1,ty,q1⟩=>?_);obtain⟨h1,h2⟩:=Bt I1 r1 ty;refine⟨T,id,pa,slot,hty,h1,h2,?_⟩;have hA:=ha cpos pins s1 σ H1 _ I1 q1;rw[hs]at hA⊢;refine Calls.callWith_builtin (by show(yb || (backTo cpos (UC es X.env)).any (·.1))=yb;rw[hplain]<;>rfl) (Calls.evalArgs_plain ?_);exact thn hA λus s2 ⟨vs,H2,I2,r2,q2⟩=>hm pins s2 σ H2 x vs v us Q I2 r1 r2 q2
end
def MtM(X:Cx)(id:String)(r:V->List V->Hp->VK->Prop):Prop:=
 ∀(pins:List (Ux×Obj))(s:Uv)(σ:St)(H:Hp)(x:V)(xs:List V)(v:Uu)(us:yf)(Q:VK),Inv X pins σ H s->RelV x v->Vals xs us->r x xs H Q ->
  UB (model X.prog X.w) X.A (call (.builtin id) (v::us)) (EP X pins σ Q) X.xe s
theorem Vals.one:∀{x:V}{us:yf},Vals [x] us->∃u,us=[u]/\RelV x u
 |_,_,.cons r .nil=>⟨_,rfl,r⟩
theorem Vals.two:∀{x y:V}{us:yf},Vals [x,y] us->∃u v,us=[u,v]/\RelV x u/\RelV y v
 |_,_,_,.cons r (.cons q .nil)=>⟨_,_,rfl,r,q⟩
theorem Vals.reverse{xs:List V}{us:yf}(h:Vals xs us):Vals xs.reverse us.reverse:=by
 induction h with
 |nil=>exact .nil
 |cons r t ih=>rw[JU,JU];exact Vals.append ih (.cons r .nil)
theorem Vals.rep{xs:List V}{us:yf}(h:Vals xs us):∀k:Nat,Vals (UF k xs).flatten (UF k us).flatten
 |0=>.nil
 |k+1=>by rw[Jb,Jb,QS,QS];exact Vals.append h (Vals.rep h k)
theorem Ea(its:yf):∀(k:Nat)(acc:yf),
  List.foldl (λx1 x2=>x1++x2) acc.toArray (UF k its.toArray)=(acc++(UF k its).flatten).toArray
 |0,acc=>by simp
 |k+1,acc=>by
  have e:acc.toArray++its.toArray=(acc++its).toArray:=by simp
  have e2:(acc++its)++(UF k its).flatten=acc++(UF (k+1) its).flatten:=by rw[Jb,QS,Ja]
  rw[←e2,←Ea its k (acc++its),←e,Jb,Jx]
section
variable{X:Cx}{pins:List (Ux×Obj)}{σ:St}{H:Hp}{s:Uv}{l b:Ux}{xs ys zs:List V}
theorem Inv.lset{its its':yf}{n:Nat}{f:Array Uu->Array Uu}{t':Nat}(I:Inv X pins σ H s)(hH:H l=O (.lst xs))
  (e:s.heap.get? l=O {cls:=.type "list", data:=.seq its.toArray n}) (hf:f its.toArray=its'.toArray) (hv:Vals ys its') (hz:ys.length<=UA) :
  Inv X pins σ (upd H l (.lst ys)) {s with heap:=s.heap.update l (Obj.mapSeq f),toks:=t'}:=by
 have q:=PySem.IsL.update e f;rw[hf]at q;refine I.write (x:=l) (e:=l) (by rw[hH];exact trivial) (.inl w8) (λb' u hb hu=>(Heap.get?_update_other s.heap (Obj.mapSeq f) (Ne.symm hb)).trans hu) ⟨_,q⟩ ?_;exact⟨hz,its',_,hv,q⟩
theorem Inv.lnew{its:yf}{t':Nat}(I:Inv X pins σ H s)(hv:Vals ys its)(hz:ys.length<=UA) :
  Inv X pins σ (upd H s.heap.objs.size (.lst ys)) {s with heap:=s.heap.push {cls:=.type "list", data:=.seq its.toArray},toks:=t'}:=
 I.laid (λ_ _ q=>Qm _ q) (Qu _) ⟨hz,its,0,hv,QK _ w8⟩
theorem Inv.fresh(I:Inv X pins σ H s):H s.heap.objs.size=w9:=I.hok.fresh (Qu _)
theorem Inv.lstM(I:Inv X pins σ H s)(hH:H l=O (.lst xs)):xs.length<=UA/\∃(its:yf)(n:Nat),Vals xs its/\xs.length=its.length/\s.heap.get? l=O {cls:=.type "list", data:=.seq its.toArray n}:=by obtain⟨z,its,n,r,e⟩:=I.hok l _ hH;exact⟨z,its,n,r,r.length,e⟩
theorem jI{n:Nat}(h:n<=UA):Builtin.List.listTooLong n=yb:=by unfold Builtin.List.listTooLong;exact QU (by omega)
end
section
variable{X:Cx}
noncomputable def AX:V->List V->Hp->VK->Prop:=λx vs H Q=>∃l xs y,x=.ref l/\vs=[y]/\H l=O (.lst xs)/\xs.length<UA/\Q .non (upd H l (.lst (xs++[y])))
theorem Mx:MtM X "list.append" AX:=by intro pins s σ H x vs v us Q I rx rv h;obtain⟨l,xs,y,rfl,rfl,hH,hz,q⟩:=h;cases rx;obtain⟨u,rfl,ru⟩:=rv.one;obtain⟨z,its,n,r,hl,e⟩:=I.lstM hH;refine call_meets F.slot_list_append ⟨_,e,rfl⟩ F.entry_list_append (F.args_list_append_2 _ _) (PySem.list_append l its.toArray n u (by rw[QX];omega)) ⟨e,?_⟩;refine⟨.non,_,I.lset (its':=its++[u]) hH e (by simp) (r.append (.cons ru .nil)) ?_,rfl,q⟩;rw[Qk,QP];omega
theorem AW{α:Type}(xs:List α)(k:Nat):(UF k xs).flatten.length=k*xs.length:=by
 induction k with
 |zero=>simp
 |succ k ih=>rw[Jb,QS,Qk,ih,Nat.succ_mul,Nat.add_comm]
end
section
variable{prog:Uw}{w:World}{A:Around}{E:Uu->Uv->Prop}{s:Uv}
set_option maxRecDepth 100000 in
end
end L2
namespace Att
open PySem PySem.W PySem.Calls PyProof.Rows
theorem w5{P:Params}{h:Heap}:∀(ns:yd)(vs:yf),WellAll P h vs (ns.map WData.int)->IntsAre vs ns:=by
 intro ns;induction ns with
 |nil=>intro vs w;rw[List.map_nil]at w;cases w;exact .nil
 |cons n ns ih=>
  intro vs w;rw[Qs]at w;cases w with
  |cons a b=>cases a;exact .cons _ _ (ih _ b)
theorem xo{l:OpenLaw}{n:Nat}(hn:l.most=O n){P:Params}{h:Heap}{args:List WData}{vals:yf}
  (hpre:l.row.toRowW.claim.pre args=ya) (zd:WellAll P h vals args) :
  ∃a vs ns,vals=[Value.ref a]/\args=[WData.list (ns.map WData.int)]/\h.get? a=O {cls:=.type "list", data:=.seq vs.toArray}/\IntsAre vs ns/\ns.length<=n:=by
 have hsh:WShape.hasAll [] args [.list .int]=ya:=(pre_splitW hpre).1;have hc:l.pre.holds [] {args:=args}=ya:=(pre_splitW hpre).2;obtain⟨d,r,rfl,h1,h2⟩:=hasAllW_cons hsh;obtain rfl:=hasAllW_nil h2;obtain⟨xs,rfl,h3⟩:=hasW_list h1;obtain⟨ns,rfl⟩:=items_int h3
 have hlen:ns.length<=n:=by
  unfold OpenLaw.pre at hc;have h4:(WTm.not (.lt (.lit (.int (n:Int))) (.len (.arg 0)))).holds [] {args:=[.list (ns.map .int)]}=ya:=by have h4:=(holds_andW hc).1;rw[hn]at h4;exact h4
  have h5:=condW_of h4 (w_not (w_lt w_lit (w_len_list (w_arg w8))));rw[Qb]at h5;refine Ji λq=>?_;have q':(n:Int)<((ns.length:Nat):Int):=by omega
  first
   |(rw[Q8 q']at h5;exact absurd h5 (by decide))
   |(simp at h5;omega)
 cases zd with
 |cons w1 w2=>
  cases w2;cases w1 with
  |list ho hall=>exact⟨_,_,ns,rfl,rfl,ho,w5 ns _ hall,hlen⟩
theorem xn(l:OpenLaw)(args:List WData):l.row.toRowW.claim.post args (.bool ya) args=ya:=
 postW_of (r:=l.row.toRowW) (X:=(ya==ya))
  (show WShape.has [] (.bool ya) .bool=ya by first|rfl|decide|simp[WShape.has,WShape.arms,WShape.armsAll])
  (show(WTm.eq .res (.lit (.bool ya))).value [] {args:=args,res:=O (.bool ya),after:=args}=O (.bool (ya==ya))from w_eq_bool (w_res w8) w_lit) w8
theorem attach_call{l:OpenLaw}{n:Nat}{q:Uw}{loose:List Str}{XP:(Str->yj)->Heap->Prop}{YP:World->Heap->Prop}{d:DefRec}
  (hn:l.most=O n) (hdf:d.params.defaults=[])
  (call:∀(w:World)(s₀ s₁:Uv)(mg mb:Str->yj)(fa:Ux)(o:Obj)(pm cd doc:Uu)(a:Ux)(vs:yf)(ns:yd),
   Ground q loose [] XP w s₀ mg mb s₁.heap->YP w s₁.heap ->
   s₁.heap.get? fa=O o->o.data=.func (docDef d.name d.params d.body d.scope pm cd doc)->s₁.heap.CodeRec cd d.name->mg d.name=O (.ref fa) ->
   s₁.heap.get? a=O {cls:=.type "list", data:=.seq vs.toArray}->IntsAre vs ns->ns.length<=n->s₁.gens=#[] ->
   codeAny (model l.prog w) callerA (.call (.ref fa) ⟨[.ref a],[]⟩) (λr s'=>r=.ok (.ret (.bool ya))/\OldK s₁.heap s'.heap/\s'.os=s₁.os/\AllBare s'.gens) s₁) :
  WalkO q loose XP YP l.row.toRowW d [] (λf vs=>PySem.call f vs):=by
 intro w s₀ s₁ mg mb G Y fa o pm cd doc dV kV ho hd hcd hD hmg hg args vals as hpre hlay hrd zd hlo;obtain rfl:dV=.none:=Dflts.none hD hdf;obtain rfl:kV=.none:=Dflts.noKw hD;obtain⟨a,vs,ns,rfl,rfl,hobj,hints,hlen⟩:=xo hn hpre zd;refine enter_call (codeAny_mono (call w s₀ s₁ mg mb fa o pm cd doc a vs ns G Y ho (fd_plain hd) hcd hmg hobj hints hlen hg) λr s' hq=>?_);obtain⟨rfl,h2,h3,h4⟩:=hq;exact⟨.inl ⟨.bool ya,.bool ya,[],rfl,λ_=>rfl,.bool ya,xn l _,λ_=>⟨List.Pairwise.nil,λ_ hm=>(nomatch hm)⟩⟩,h2,h3,h4⟩
end Att
namespace L2
open PySem PySem.Spec PyProof.Rows
theorem Ti:∀{vs:yf}{ns:yd},IntsAre vs ns->Vals (ns.map V.int) vs
 |_,_,.nil=>.nil
 |_,_,.cons n t h=>.cons ⟨t,rfl⟩ (Ti h)
def Only(H:Hp):Prop:=∀b,H b=w9 ∨ ∃o xs,H b=O (.frz o (.lst xs))
theorem jH{P:Uw}{w:World}{K:Frag}{mg mb:Str->yj}{CX:CXT}{k:Nat}{fa a:Ux}{fd:Uy}{x:Str}{sp:Sp}{s₁:Uv}{vs:yf}{ns:yd}
  (KX:K.In s₁.heap) (hns:s₁.heap.Ns mainGlobals mg) (hb:s₁.heap.Ns builtinsNs mb) (zN:∀x:Str,x ≠ "__name__" -> mb x=bootBuiltins x) (hlim:s₁.heap.NoLimit) (hg:s₁.gens=#[])
  (ha:s₁.heap.get? a=O {cls:=.type "list", data:=.seq vs.toArray}) (hi:IntsAre vs ns) (hl:ns.length<=UA) (hr:Room k callerA)
  (F:∀base:Heap,K.In base->base.Ns mainGlobals mg->FnOk P w K mg base CX k fa fd [x] sp) (hbind:∀(s:Uv)(u:Uu),BindsTo s fd ⟨[u],[]⟩ [(x,u)])
  (zY:∀H:Hp,Only H->SqL K H a (ns.map V.int)->sp [.ref a] H (λv _=>v=.bl ya) λ_ _ _=>False)
  (hCX:∀H e s',CX [] H s₁ (λ_ _ _=>False) e s'->False) :
  codeAny (model P w) callerA (.call (.ref fa) ⟨[.ref a],[]⟩) (λr s'=>r=.ok (.ret (.bool ya))/\OldK s₁.heap s'.heap/\s'.os=s₁.os/\AllBare s'.gens) s₁:=by
 have rv:=Ti hi;have lenV:=hi.length
 have core:∀H:Hp,Only H->SqL K H a (ns.map V.int)->HOk P w H s₁.heap->(∀b,H b≠w9->b=a)->(H a≠w9->K.lookup a=w9) ->
   codeAny (model P w) callerA (.call (.ref fa) ⟨[.ref a],[]⟩) (λr s'=>r=.ok (.ret (.bool ya))/\OldK s₁.heap s'.heap/\s'.os=s₁.os/\AllBare s'.gens) s₁:=by
  intro H hO hS hok hA hK;have base_of:∀{b:Ux}{o:Obj},s₁.heap.get? b=O o->H b=w9->(YM s₁.heap H).get? b=O o:=λe n=>jh e n
  have noA:∀{b:Ux}{o:Obj}{es:Array DictEntry}{ep:Nat},s₁.heap.get? b=O o->o.data=.dict es ep->H b=w9:=λ{b o es ep} e d=>by
   cases q:H b with
   |none=>rfl
   |some u=>have e':b=a:=hA b (by rw[q];simp);subst e';rw[ha]at e;cases e;have d':Data.seq vs.toArray _=Data.dict es ep:=d;cases d'
  have nsK:∀{b:Ux}{m:Str->yj},s₁.heap.Ns b m->(YM s₁.heap H).Ns b m:=λ{b m} ⟨o,es,ep,e,d,r⟩=>⟨o,es,ep,base_of e (noA e d),d,r⟩
  have hKb:K.In (YM s₁.heap H):=λb o e=>base_of (KX b o e) (by
   cases q:H b with
   |none=>rfl
   |some u=>have e':b=a:=hA b (by rw[q];simp);subst e';rw[hK (by rw[q];simp)]at e;cases e)
  have hM:Mod K mg (YM s₁.heap H):=⟨hKb,nsK hns,⟨mb,nsK hb,zN⟩,let ⟨mc,h1,h2⟩:=hlim;⟨mc,nsK h1,h2⟩⟩
  have e0:Env0 P w K mg (YM s₁.heap H) callerA [] s₁ H:=⟨rfl,hM,λb o e=>AE e,Nat.le_of_eq (xA _ _),trivial,λb hb=>absurd (show b∈([]:yh)from hb) (by simp),hok,.of_eq hg⟩
  refine codeAny_mono ((F _ hKb (nsK hns)).run callerA [] s₁ H ⟨[.ref a],[]⟩ [.ref a] [.ref a] _ _ hr e0 (hbind s₁ (.ref a)) (.cons w8 .nil) (zY H hO hS)) λr s' h=>?_
  cases r with
  |error e=>exact(hCX H e s' h).elim
  |ok fl=>
   cases fl with
   |next=>exact False.elim h
   |brk=>exact False.elim h
   |cont=>exact False.elim h
   |ret u=>
    obtain⟨v,H',os,bare,un,hok',r',q⟩:=h;have q':v=.bl ya:=q;subst q';obtain rfl:u=Value.bool ya:=r';refine⟨rfl,OldK.of_keep λb o e=>?_,os,bare⟩;cases q:H b with
    |none=>exact un.keep b o e q (by intro z;exact absurd (show b∈([]:yh)from z) (by simp)) (by simp)
    |some u=>
     rcases hO b with z|⟨ob,xs,z⟩
     .rw[q]at z;cases z
     .have z2:=un.frzs b ob _ z
      obtain⟨e1,_⟩:=hok b _ z;obtain⟨e2,_⟩:=hok' b _ z2;rw[e]at e1;cases e1;exact e2
 cases hk:K.lookup a with
 |some o=>have e:=KX a o hk;rw[ha]at e;cases e;refine core (λ_=>w9) (λ_=>.inl w8) (.inr ⟨_,vs.toArray,_,hk,rfl,rfl,rfl,by rw[List.size_toArray,lenV];exact hl,by simpa using rv⟩) (λb u z=>by have z':(none:Option HO)=O u:=z;cases z') (λb z=>absurd w8 z) λz=>absurd w8 z
 |none=>
  refine core (λb=>if b=a then O (.frz {cls:=.type "list", data:=.seq vs.toArray} (.lst (ns.map V.int)))else w9) (λb=>?_) (.inl (.inr ⟨{cls:=.type "list", data:=.seq vs.toArray},Qo w8⟩)) (λb u z=>?_) (λb z=>?_) λ_=>hk
  .by_cases hb:b=a
   .exact .inr ⟨_,_,Qo hb⟩
   .exact .inl (QB hb)
  .by_cases hb:b=a
   .have z':=(Qo hb).symm.trans z
    cases z';subst hb;exact⟨ha,by rw[Qb];exact hl,vs,_,rv,ha⟩
   .have z':=(QB hb).symm.trans z
    cases z'
  .by_cases hb:b=a
   .exact hb
   .exact absurd (QB hb) z
noncomputable def Tz(s:Stmt):Arguments:=match s with
 |.FunctionDef _ a _ _ _ _ _ _ _ _=>a
 |_=>{posonlyargs:=[],args:=[],vararg:=w9,kwonlyargs:=[],kw_defaults:=[],kwarg:=w9,defaults:=[]}
noncomputable def Wm(s:Stmt):List Stmt:=match s with
 |.FunctionDef _ _ b _ _ _ _ _ _ _=>b
 |_=>[]
noncomputable def ZM(s:Stmt):Scope:=match s with
 |.FunctionDef _ _ _ _ _ _ sc _ _ _=>sc
 |_=>{kind:=.function,names:=[],isGenerator:=yb,isCoroutine:=yb}
noncomputable abbrev CX0:CXT:=λ_ _ _ _ _ _=>False
noncomputable abbrev E0:XK:=λ_ _ _=>False
theorem Lb{X:Cx}:Nm CX0 X E0:=λ_ _ _ _ _ _ _ h=>h.elim
structure Fun(K:Frag)(x qual:Str)(st:Stmt)(f:Ux)(fd:Uy):Prop where
 ex:∃(oc:Uu)(od:yo)(kV doc pm:Uu)(an:yo)(cdv ct:Uu)(osl:Array yj),
  fd=PySem.W.fnOf x qual (Tz st) (Wm st) (ZM st) .none kV doc pm an cdv ct/\K.lookup f=O ⟨oc,od,.func fd,osl⟩/\PySem.W.codeIn K cdv qual=ya
 kp:PySem.W.keepIn K (.ref f)=ya
section
variable{P:Uw}{w:World}{K:Frag}{mg:Str->yj}{base:Heap}
theorem Fun.ok{x qual:Str}{st:Stmt}{f:Ux}{fd:Uy}{N ps:List Str}{k:Nat}{sp:Sp}(F:Fun K x qual st f fd)(S:RC N ps (ZM st))(len:∀vs H Q E,sp vs H Q E->vs.length=ps.length)
  (hbody:∀(cdv:Uu)(A:Around)(outer:List Env)(s:Uv)(H:Hp)(vs:List V)(Q:VK)(E:XK),Room k (A.deeper (envOfC qual (ZM st) s.heap.objs.size f cdv))->sp vs H Q E ->
   ∃t,PSs (Y8 CX0 P w K mg base N qual (ZM st) f cdv A outer s H E).nox (Wm st) t/\t {nx:=λ_ H'=>Q .non H',rt:=Q} (We N vs) H):FnOk P w K mg base CX0 (k+1) f fd ps sp:=by
 obtain⟨oc,od,kV,doc,pm,an,cdv,ct,osl,rfl,lk,hcd⟩:=F.ex;refine Dk lk hcd S len λA outer s H vs Q E hr zY=>?_
 obtain⟨t,h,q⟩:=hbody cdv A outer s H vs Q E hr zY;exact⟨t,h.nox,q⟩
theorem Fun.binds{x qual:Str}{st:Stmt}{f:Ux}{fd:Uy}{ps:List Str}(F:Fun K x qual st f fd)
  (h:∀(kV doc pm:Uu)(an:yo)(cdv ct:Uu)(us:yf),us.length=ps.length->bindArgs (PySem.W.fnOf x qual (Tz st) (Wm st) (ZM st) .none kV doc pm an cdv ct) ⟨us,[]⟩=pure (ps.zip us)):WN K fd ps []:=by
 obtain⟨oc,od,kV,doc,pm,an,cdv,ct,osl,rfl,lk,hcd⟩:=F.ex;exact .all (h kV doc pm an cdv ct)
end
def Same(H H':Hp):Prop:=∀b o,H b=O o->H' b=O o
theorem Same.refl(H:Hp):Same H H:=λ_ _ h=>h
theorem Same.trans{H H1 H2:Hp}(a:Same H H1)(b:Same H1 H2):Same H H2:=λc o h=>b c o (a c o h)
theorem Same.free{H H':Hp}(e:Same H H'){l:Ux}(h:H' l=Option.none):H l=Option.none:=by
 cases q:H l with
 |none=>rfl
 |some o=>rw[e l o q]at h;cases h
theorem Same.seq{K:Frag}{H H':Hp}{a:Ux}{xs:List V}(e:Same H H')(h:SqL K H a xs):SqL K H' a xs:=by
 rcases h with (h|⟨o,h⟩)|h
 .exact .inl (.inl (e _ _ h))
 .exact .inl (.inr ⟨o,e _ _ h⟩)
 .exact .inr h
section
variable{X:Cx}{pins:List (Ux×Obj)}{σ:St}{H:Hp}{s:Uv}{h':Heap}
theorem Inv.turnedNew{t':Nat}{fp:yh}{p:Ux}{o:HO}(I:Inv X pins σ H s)(hf:∀b∈fp,ZV X pins H b)
  (k:∀b o,b∉fp->s.heap.get? b=O o->h'.get? b=O o) (hp:s.heap.objs.size<=p) (new:ZW X.prog X.w (upd H p o) h' p o) :
  Inv X pins σ (upd H p o) {s with heap:=h',toks:=t'}:=by
 have hn:H p=w9:=I.hok.fresh hp;have trk:∀b u,H b=O u->b∉fp:=λb u e z=>by rw[(hf b z).1]at e;cases e
 refine I.step (g':=s.gens) (d':=s.drawn) (ch:=fp) (λb hb=>?_) (λb o _ _ hc e _=>k b o hc e) (λb o _ _ hc e _=>⟨o.slots,k b o hc e⟩)
  (λb o _ e n=>by rw[KF (QT (QG (Qj e) hp))];exact n) (λb o hc e=>⟨o,k b o hc e⟩)
  (λb xs e=>by rw[KF (Yx e hn)];exact e) (λb ob u e=>by rw[KF (Yx e hn)];exact e) (λb ps e=>⟨#[],by rw[KF (Yx e hn),e];simp⟩)
  (λm hm=>?_) (λb u e=>?_) I.bare
 .obtain⟨_,f1,_,f3,f4,f5⟩:=hf b hb
  exact⟨f3,f1,f4,f5⟩
 .obtain⟨ob,es,ep,ho,r⟩:=hm
  exact⟨ob,es,ep,k _ ob (λz=>(hf _ z).2.1 w8) ho,r⟩
 .by_cases hb:b=p
  .subst hb;rw[Zd]at e;cases e;exact new
  .rw[KF hb]at e
   refine(I.hok b u e).stay (λc v hc q=>k c v ?_ q) (λc q=>by rw[KF (Yx q hn)];exact q) λc xs q=>by rw[KF (Yx q hn)];exact q
   rcases hc with z|z
   .rw[z];exact trk b u e
   .exact trk c _ z
theorem Inv.turnedL{t':Nat}{fp:yh}(I:Inv X pins σ H s)(hf:∀b∈fp,ZV X pins H b)
  (k:∀b o,b∉fp->s.heap.get? b=O o->h'.get? b=O o):Inv X pins σ H {s with heap:=h',toks:=t'}:=by
 have trk:∀b u,H b=O u->b∉fp:=λb u e z=>by rw[(hf b z).1]at e;cases e
 refine I.step (g':=s.gens) (d':=s.drawn) (ch:=fp) (λb hb=>?_) (λb o _ _ hc e _=>k b o hc e) (λb o _ _ hc e _=>⟨o.slots,k b o hc e⟩)
  (λ_ _ _ _ n=>n) (λb o hc e=>⟨o,k b o hc e⟩) (λ_ _ e=>e) (λ_ _ _ e=>e) (λb ps e=>⟨#[],by rw[e];simp⟩) (λm hm=>?_) (λb u e=>?_) I.bare
 .obtain⟨_,f1,_,f3,f4,f5⟩:=hf b hb
  exact⟨f3,f1,f4,f5⟩
 .obtain⟨ob,es,ep,ho,r⟩:=hm
  exact⟨ob,es,ep,k _ ob (λz=>(hf _ z).2.1 w8) ho,r⟩
 .refine(I.hok b u e).stay (λc v hc q=>k c v ?_ q) (λc q=>q) λc xs q=>q
  rcases hc with z|z
  .rw[z];exact trk b u e
  .exact trk c _ z
end
noncomputable def Ite(K:Frag)(a:Ux):It:=
 ⟨λi H=>∃xs x,SqL K H a xs/\xs[i]?=O x,
  λi H v H'=>∃p x,H p=w9/\v=.ref p/\(∀xs,SqL K H a xs->xs[i]?=O x)/\H'=upd H p (.tup [.int i,x]),
  λi H=>∃xs,SqL K H a xs/\xs.length<=i⟩
theorem xm{P:Uw}{w:World}{K:Frag}{elts:yg}{x1}{tp:Pos}(a e it:Ux)(hne:e≠it) :
  Turn P w K (.Tuple elts x1 tp) (Ite K a) [e,it] e (λi h=>(∃old,IsEnum h e it i old)/\h.IsListIter it a i) where
 mem:=by simp
 obj:=λi h st b hb=>by
  obtain⟨⟨old,he⟩,o,ho,c,d⟩:=st;have hb':b=e∨b=it:=by simpa using hb
  rcases hb' with rfl|rfl
  .exact⟨_,he,λv z=>by have z':Data.fields _=Data.cell v:=z;cases z'⟩
  .exact⟨o,ho,λv z=>by rw[d]at z;cases z⟩
 keep:=λi h h' st k=>by obtain⟨⟨old,he⟩,hi⟩:=st;exact⟨⟨old,k e (by simp) _ he⟩,hi.at λo q=>k it (by simp) o q⟩
 item:=by
  intro X hP hw hK hc i pins s σ H E I hf st hg;subst hP hw hK;obtain⟨⟨old,he⟩,hi⟩:=st;obtain⟨xs,x,hq,hx⟩:=hg;obtain⟨its,rv,p,hz⟩:=I.list hq;obtain⟨u,hu,ru⟩:=rv.get hx;refine wpAny_pyNext_enum_item he hi p.isList (x:=u) (by simpa using hu) hne λh1 out hi1 ht hsz kk=>?_
  refine⟨_,rfl,wpAny_letOwnedTupleGo_enum out λh2 zm hs2=>?_⟩;have hel:e<s.heap.objs.size:=Qj he;have yG:Heap.SameBut e h1 h2:=hs2;have ht2:h2.get? s.heap.objs.size=O {cls:=.type "tuple", data:=.seq #[.int i s.toks,u]}:=(yG.2 _ (JH hel)).trans ht
  have kk2:∀b o,b∉[e,it]->s.heap.get? b=O o->h2.get? b=O o:=λb o hb q=>by
   have yE:b≠e:=λz=>hb (by simp[z])
   have hbi:b≠it:=λz=>hb (by simp[z])
   exact(yG.2 b yE).trans (kk b o yE hbi q)
  have hn:H s.heap.objs.size=w9:=I.hok.fresh (Qu _)
  have I2:Inv X pins σ (upd H s.heap.objs.size (.tup [.int i,x])) {s with heap:=h2,toks:=s.toks+1}:=
   I.turnedNew (fp:=[e,it]) hf kk2 (Qu _) ⟨by show 2<=UA;decide,[.int i s.toks,u],.cons ⟨_,rfl⟩ (.cons ru .nil),⟨_,ht2,rfl,_,rfl⟩⟩
  refine⟨.ref s.heap.objs.size,_,I2,rfl,⟨_,x,hn,rfl,λys hy=>by rw[I.list_inj hy hq];exact hx,rfl⟩,⟨⟨u,?_⟩,?_⟩,λb hb=>?_⟩
  .have:=zm
   simpa using this
  .have hi2:h2.IsListIter it a (i+1):=hi1.at λo q=>(yG.2 it (Ne.symm hne)).trans q
   exact hi2
  .have fr:=(hf b hb)
   have hlt:b<s.heap.objs.size:=by
    have hb':b=e∨b=it:=by simpa using hb
    rcases hb' with rfl|rfl
    .exact hel
    .obtain⟨o,ho,_⟩:=hi;exact Qj ho
   rw[KF (QT hlt)];exact fr.1
 done:=by intro X hP hw hK hc i pins s σ H E I hf st hg;subst hP hw hK;obtain⟨⟨old,he⟩,hi⟩:=st;obtain⟨xs,hq,hx⟩:=hg;obtain⟨its,rv,p,hz⟩:=I.list hq;have hl:=rv.length;exact wpAny_pyNext_enum_end (I.ok.hd hc) he hi p.isList (by simp;omega) λh' eb=>⟨rfl,I.turnedL (t':=s.toks) hf λb o hb q=>eb b o (λz=>hb (by simp[z])) q⟩
 self:=λ_ _ _ _ _ st h=>by obtain⟨⟨old,he⟩,_⟩:=st;exact wpAny_pyIter_enum he h
section
variable{X:Cx}
noncomputable def Di(K:Frag)(ta:TA):TI:=λσ H R=>ta σ H λvs H1=>∃a xs,vs=[.ref a]/\SqL K H1 a xs/\R (Ite K a) H1
theorem AV{a:Uz}{ta:TA}{p pos:Pos}{elts:yg}{x1}{tp:Pos}(hg:Gl X "enumerate")(hm:X.mg "enumerate" = w9)(ha:PA X [a] ta)
  (hs:UC [a] X.env=[(yb,eval a X.env)]:=by rfl):PI X (.Tuple elts x1 tp) (.Call (.Name "enumerate" p) [a] [] pos) (Di X.K ta):=by
 intro pins s σ H R I h;refine Call_ (V9 I hg hm boot_enumerate (JC (thn (ha pos pins s σ H _ I h) λus s1 ⟨vs,H1,I1,r1,q1⟩=>?_) hs w8));obtain⟨l,xs,e,hq,q⟩:=q1;subst e;cases r1 with
 |cons r rr=>
  cases rr;cases (show _=Value.ref l from r);obtain⟨its,rv,pl,hz⟩:=I1.list hq;refine call_enumerate_list pl.isList λh' he hi hsz kk=>?_;have I2:Inv X pins σ H1 {s1 with heap:=h'}:=I1.kept (t':=s1.toks) kk;refine wpAny_pyIter_enum he ?_
  refine⟨s1.heap.objs.size+1,[s1.heap.objs.size+1,s1.heap.objs.size],_,_,H1,rfl,I2,xm l _ _ (Nat.succ_ne_self _),⟨⟨_,he⟩,hi⟩,λb hb=>?_,q⟩;have hb':b=s1.heap.objs.size+1∨b=s1.heap.objs.size:=by simpa using hb
  rcases hb' with rfl|rfl
  .exact I1.fpOk (JV _) (I1.hok.fresh (JV _))
  .exact I1.fpOk (Qu _) (I1.hok.fresh (Qu _))
end
section
variable{κ:Type}[DecidableEq κ]
noncomputable def ZT(kvs:List (κ×V))(k:κ):Option V:=(kvs.find? λkv=>decide (kv.1=k)).map (·.2)
noncomputable def Zg(kvs:List (κ×V))(k:κ)(v:V):List (κ×V):=
 if(kvs.any λkv=>decide (kv.1=k))=ya then kvs.map (λkv=>if kv.1=k then(kv.1,v)else kv)else kvs++[(k,v)]
theorem Mo{p:κ×V}{r:List (κ×V)}{k:κ}(e:p.1=k):ZT (p::r) k=O p.2:=by simp[ZT,List.find?_cons,e]
theorem Mn{p:κ×V}{r:List (κ×V)}{k:κ}(e:¬p.1=k):ZT (p::r) k=ZT r k:=by simp[ZT,List.find?_cons,e]
theorem OD(k:κ):∀kvs:List (κ×V),(kvs.any λkv=>decide (kv.1=k))=(ZT kvs k).isSome
 |[]=>rfl
 |p::r=>by
  rw[Um];by_cases e:p.1=k
  .simp only[Mo e,Q8 e,Bool.true_or,Option.isSome_some]
  .rw[Mn e,QU e,Bool.false_or];exact OD k r
theorem MF(kvs:List (κ×V))(k:κ)(v:V):(Zg kvs k v).length<=kvs.length+1:=by
 unfold Zg;split
 .rw[Qb];omega
 .rw[Qk,Qz,QF];omega
theorem RelO.isSome_eq{o:Option V}{u:yj}(r:RelO o u):o.isSome=u.isSome:=by
 cases o with
 |none=>cases u with
  |none=>rfl
  |some _=>exact(show False from r).elim
 |some _=>cases u with
  |none=>exact(show False from r).elim
  |some _=>rfl
theorem KV.val{kvs:List (κ×V)}{vs:List (κ×Uu)}(r:KV kvs vs)(k:κ):RelO (ZT kvs k) (valueAt vs k):=by
 unfold KV at r;induction r with
 |nil=>exact True.intro
 |@cons p q ps qs h t ih=>
  obtain⟨h1,h2⟩:=h;by_cases e:p.1=k
  .have e':q.1=k:=h1.symm.trans e
   have b:valueAt (q::qs) k=O q.2:=by simp[valueAt,List.find?_cons,e']
   rw[Mo e,b];exact h2
  .have e':¬q.1=k:=λz=>e (h1.trans z)
   have b:valueAt (q::qs) k=valueAt qs k:=by simp[valueAt,List.find?_cons,e']
   rw[Mn e,b];exact ih
theorem KV.any{kvs:List (κ×V)}{vs:List (κ×Uu)}(r:KV kvs vs)(k:κ):(kvs.any λkv=>decide (kv.1=k))=vs.any λkv=>decide (kv.1=k):=by
 unfold KV at r;induction r with
 |nil=>rfl
 |cons h t ih=>rw[Um,Um,ih,h.1]
theorem KV.repl{kvs:List (κ×V)}{vs:List (κ×Uu)}(r:KV kvs vs)(k:κ){y:V}{u:Uu}(ry:RelV y u) :
  KV (kvs.map λkv=>if kv.1=k then(kv.1,y)else kv) (vs.map λkv=>if kv.1=k then(kv.1,u)else kv):=by
 unfold KV at r⊢;induction r with
 |nil=>exact .nil
 |@cons p q ps qs h t ih=>
  rw[Qs,Qs];refine .cons ?_ ih;obtain⟨h1,h2⟩:=h;by_cases e:p.1=k
  .rw[Qo e,Qo (h1.symm.trans e)];exact⟨h1,ry⟩
  .rw[QB e,QB (λz=>e (h1.trans z))];exact⟨h1,h2⟩
theorem KV.put{kvs:List (κ×V)}{vs:List (κ×Uu)}(r:KV kvs vs)(k:κ){y:V}{u:Uu}(ry:RelV y u):KV (Zg kvs k y) (stored vs k u):=by
 unfold Zg stored;rw[r.any k];by_cases e:(vs.any λkv=>decide (kv.1=k))=ya
 .rw[Qo e,Qo e];exact r.repl k ry
 .rw[QB e,QB e];exact Paired.snoc r ⟨rfl,ry⟩
theorem KV.length{kvs:List (κ×V)}{vs:List (κ×Uu)}(r:KV kvs vs):kvs.length=vs.length:=Paired.length r
end
theorem Re{P:Uw}{w:World}{k:Key}{u:Uu}(r:RelV (kV k) u):(YE P w).is k u=ya:=by
 cases k with
 |inl i=>obtain⟨t,e⟩:=(show ∃t,u=Value.int i t from r);subst e;exact v4 P w i t
 |inr x=>obtain⟨t,e⟩:=(show ∃t,u=Value.str x t from r);subst e;exact v3 P w x t
theorem F9{P:Uw}{w:World}:∀{ks:yl}{us:yf},Vals (ks.map kV) us->ItemsAre (YE P w) ks us
 |[],_,r=>by rw[List.map_nil]at r;cases r;exact .nil
 |k::ks,_,r=>by
  rw[Qs]at r;cases r with
  |cons h t=>exact .cons (Re h) (F9 t)
noncomputable abbrev KT(H:Hp):List (yl×V)->List (yl×Ux×Uu)->Prop:=Paired λp q=>p.1=q.1/\H q.2.1=O (.tup (p.1.map kV))/\RelV p.2 q.2.2
theorem KT.val{H:Hp}{kvs:List (yl×V)}{xs:List (yl×Ux×Uu)}(r:KT H kvs xs)(k:yl):RelO (ZT kvs k) ((atKey xs k).map (·.2)):=by
 induction r with
 |nil=>exact True.intro
 |@cons p q ps qs h t ih=>
  obtain⟨h1,_,h2⟩:=h;by_cases e:p.1=k
  .have e':q.1=k:=h1.symm.trans e
   have b:atKey (q::qs) k=O q.2:=by simp[atKey,List.find?_cons,e']
   rw[Mo e,b];exact h2
  .have e':¬q.1=k:=λz=>e (h1.trans z)
   have b:atKey (q::qs) k=atKey qs k:=by simp[atKey,List.find?_cons,e']
   rw[Mn e,b];exact ih
theorem KT.repl{H:Hp}{kvs:List (yl×V)}{xs:List (yl×Ux×Uu)}(r:KT H kvs xs)(k:yl){y:V}{u:Uu}(ry:RelV y u) :
  KT H (kvs.map λkv=>if kv.1=k then(kv.1,y)else kv) (xs.map (putAt k u)):=by
 induction r with
 |nil=>exact .nil
 |@cons p q ps qs h t ih=>
  rw[Qs,Qs];refine .cons ?_ ih;obtain⟨h1,h2,h3⟩:=h;unfold putAt;by_cases e:p.1=k
  .rw[Qo e,Qo (h1.symm.trans e)];exact⟨h1,h2,ry⟩
  .rw[QB e,QB (λz=>e (h1.trans z))];exact⟨h1,h2,h3⟩
theorem KT.put{H:Hp}{kvs:List (yl×V)}{xs:List (yl×Ux×Uu)}(r:KT H kvs xs)(k:yl){b:Ux}{y:V}{u:Uu}(hb:H b=O (.tup (k.map kV)))(ry:RelV y u) :
  KT H (Zg kvs k y) (storedH xs k b u):=by
 have e:(kvs.any λkv=>decide (kv.1=k))=(atKey xs k).isSome:=by rw[OD,(r.val k).isSome_eq,Option.isSome_map]
 unfold Zg storedH;rw[e];by_cases q:(atKey xs k).isSome=ya
 .rw[Qo q,Qo q];exact r.repl k ry
 .rw[QB q,QB q];exact Paired.snoc r ⟨rfl,hb,ry⟩
theorem KT.keeps{H H':Hp}{kvs:List (yl×V)}{xs:List (yl×Ux×Uu)}(r:KT H kvs xs)(ht:∀b ys,H b=O (.tup ys)->H' b=O (.tup ys)):KT H' kvs xs:=
 Paired.mapP r λ_ _ z=>⟨z.1,ht _ _ z.2.1,z.2.2⟩
section
variable{P:Uw}{w:World}{H:Hp}{h:Heap}{a:Ux}
theorem La{u:HO}(ok:HOk P w H h)(e:Rd H a u):ZW P w H h a u:=e.ok ok
theorem RR{kvs:List (Key×V)}(ok:HOk P w H h)(e:Rd H a (.dK kvs)):kvs.length<=UA/\(a==sysModules)=yb/\∃vs,KV kvs vs/\h.DictOf (YE P w) a vs:=
 show ZW P w H h a (.dK kvs)from La ok e
theorem M9{kvs:List (Key×V)}(ok:HOk P w H h)(e:H a=O (.dK kvs)):kvs.length<=UA/\(a==sysModules)=yb/\∃vs,KV kvs vs/\h.DictOf (YE P w) a vs:=RR ok (.inl e)
theorem Pb{ks:yl}(ok:HOk P w H h)(e:H a=O (.tup (ks.map kV))):(tupleKind (YE P w)).is h ks a:=by
 obtain⟨_,its,r,o,h1,h2,n,h3⟩:=(show ZW P w H h a (.tup (ks.map kV))from ok a _ e)
 exact⟨o,its.toArray,n,h1,h2,h3,by simpa using F9 r⟩
theorem RQ{kvs:List (yl×V)}(ok:HOk P w H h)(e:Rd H a (.dT kvs)):kvs.length<=UA/\(a==sysModules)=yb /\
  ∃xs,KT H kvs xs/\h.DictOfH (tupleKind (YE P w)) a xs:=by
 obtain⟨z,y,xs,r,o,es,ep,h1,h2,h3,h4,h5⟩:=(show ZW P w H h a (.dT kvs)from La ok e)
 refine⟨z,y,xs,r,o,es,ep,h1,h2,h3,h4,λx hx=>?_,h5⟩
 have all:∀{l:List (yl×V)}{m:List (yl×Ux×Uu)},KT H l m->∀x∈m,(tupleKind (YE P w)).is h x.1 x.2.1:=by
  intro l m q;induction q with
  |nil=>intro x hx;exact nomatch hx
  |@cons p q ps qs hq t ih=>
   intro x hx;rcases Qw.mp hx with e|hx
   .subst e
    exact Pb ok (by rw[←hq.1];exact hq.2.1)
   .exact ih x hx
 exact all r x hx
theorem Dh{kvs:List (yl×V)}(ok:HOk P w H h)(e:H a=O (.dT kvs)):kvs.length<=UA/\(a==sysModules)=yb /\
  ∃xs,KT H kvs xs/\h.DictOfH (tupleKind (YE P w)) a xs:=RQ ok (.inl e)
end
def YQ(H:Hp)(a:Ux)(y:V)(r:Option V):Prop:=
 (∃kvs k,Rd H a (.dK kvs)/\y=kV k/\r=ZT kvs k) ∨ ∃kvs k b,Rd H a (.dT kvs)/\y=.ref b/\H b=O (.tup (k.map kV))/\r=ZT kvs k
def DPut(H:Hp)(a:Ux)(y v:V)(H':Hp):Prop:=
 (∃kvs k,H a=O (.dK kvs)/\y=kV k/\kvs.length<UA/\H'=upd H a (.dK (Zg kvs k v))) ∨
 ∃kvs k b,H a=O (.dT kvs)/\y=.ref b/\H b=O (.tup (k.map kV))/\kvs.length<UA/\H'=upd H a (.dT (Zg kvs k v))
theorem DPut.k{H:Hp}{a:Ux}{kvs:List (Key×V)}{k:Key}{v:V}(e:H a=O (.dK kvs))(hl:kvs.length<UA):DPut H a (kV k) v (upd H a (.dK (Zg kvs k v))):=.inl ⟨kvs,k,e,rfl,hl,rfl⟩
section
variable{X:Cx}{pins:List (Ux×Obj)}{σ:St}{H:Hp}{s:Uv}{a:Ux}{y v:V}{u r:Uu}{o:Option V}{A:Around}{E:Uu->Uv->Prop}
theorem Inv.big(I:Inv X pins σ H s):sysModules<s.heap.objs.size:=by have h:mainGlobals<s.heap.objs.size:=(I.mod.glob.keeps I.bk).lt;exact Nat.lt_trans (by decide) h
theorem xP{Q:Uu->Uv->Prop}(hu:A.units+1<cLine)(I:Inv X pins σ H s)(g:YQ H a y (O v))(ry:RelV y u)(h:∀w' s',Inv X pins σ H s'->RelV v w'->Q w' s') :
  UB (model X.prog X.w) A (getItem (.ref a) u) Q E s:=by
 rcases g with ⟨kvs,k,e,ey,l⟩|⟨kvs,k,b,e,ey,eb,l⟩
 .subst ey
  obtain⟨z,hd,vs,rel,dd⟩:=RR I.hok e;obtain⟨w',hw,yF⟩:=RelO.some_of (v:=v) (o:=valueAt vs k) (by rw[l];exact rel.val k);exact wpAny_getItem_of (Re ry) dd.mapOf hw (h w' _ (I.tok _) yF)
 .subst ey
  cases (show u=Value.ref b from ry);obtain⟨z,hd,xs,rel,dd⟩:=RQ I.hok e;obtain⟨w',hw,yF⟩:=RelO.some_of (v:=v) (o:=(atKey xs k).map (·.2)) (by rw[l];exact rel.val k);obtain⟨p,hp,hp2⟩:=Option.map_eq_some_iff.mp hw;refine wpAny_getItem_heap (tupleKind_room_in1 hu) (Pb I.hok eb) dd hp ?_;rw[hp2];exact h w' _ (I.tok _) yF
theorem d_in{Q:Uu->Uv->Prop}(hu:A.units+1<cLine)(I:Inv X pins σ H s)(g:YQ H a y o)(ry:RelV y u)(h:∀s',Inv X pins σ H s'->Q (.bool o.isSome) s') :
  UB (model X.prog X.w) A (UD .In u (.ref a)) Q E s:=by
 rcases g with ⟨kvs,k,e,ey,l⟩|⟨kvs,k,b,e,ey,eb,l⟩
 .subst ey
  obtain⟨z,hd,vs,rel,dd⟩:=RR I.hok e;refine wpAny_in_of (Re ry) hd dd.mapOf ?_;rw[←(rel.val k).isSome_eq,←l];exact h _ (I.tok _)
 .subst ey
  cases (show u=Value.ref b from ry);obtain⟨z,hd,xs,rel,dd⟩:=RQ I.hok e;refine wpAny_in_heap (tupleKind_room_in1 hu) (Pb I.hok eb) hd dd ?_;have q:=(rel.val k).isSome_eq;rw[Option.isSome_map]at q;rw[←q,←l];exact h _ (I.tok _)
theorem AU{Q:Uu->Uv->Prop}(hu:A.units+1<cLine)(I:Inv X pins σ H s)(g:YQ H a y o)(ry:RelV y u)(h:∀s',Inv X pins σ H s'->Q (.bool (!o.isSome)) s') :
  UB (model X.prog X.w) A (UD .NotIn u (.ref a)) Q E s:=by
 rcases g with ⟨kvs,k,e,ey,l⟩|⟨kvs,k,b,e,ey,eb,l⟩
 .subst ey
  obtain⟨z,hd,vs,rel,dd⟩:=RR I.hok e;refine wpAny_notIn_of (Re ry) hd dd.mapOf ?_;rw[←(rel.val k).isSome_eq,←l];exact h _ (I.tok _)
 .subst ey
  cases (show u=Value.ref b from ry);obtain⟨z,hd,xs,rel,dd⟩:=RQ I.hok e;refine wpAny_notIn_heap (tupleKind_room_in1 hu) (Pb I.hok eb) hd dd ?_;have q:=(rel.val k).isSome_eq;rw[Option.isSome_map]at q;rw[←q,←l];exact h _ (I.tok _)
theorem NB{h':Heap}{t':Nat}{ob:HO}(I:Inv X pins σ H s)(mu:Mut (H a))(hs:Heap.SameBut a s.heap h')(he:∃q,h'.get? a=O q)(new:ZW X.prog X.w (upd H a ob) h' a ob) :
  Inv X pins σ (upd H a ob) {s with heap:=h',toks:=t'}:=
 I.write (x:=a) (e:=a) mu (.inl w8) (λb q hb z=>(hs.2 b hb).trans z) he new
theorem Lz{P:Uw}{w:World}{H':Hp}{h':Heap}{kvs:List (Key×V)}{vs:List (Key×Uu)}(z:kvs.length<=UA)(hd:(a==sysModules)=yb)(rel:KV kvs vs)(dd:h'.DictOf (YE P w) a vs) :
  ZW P w H' h' a (.dK kvs):=⟨z,hd,vs,rel,dd⟩
theorem xO{H':Hp}{Q:Unit->Uv->Prop}(hu:A.units+1<cLine)(I:Inv X pins σ H s)(g:DPut H a y v H')(ry:RelV y u)(rv:RelV v r)(h:∀s',Inv X pins σ H' s'->Q () s') :
  UB (model X.prog X.w) A (setItem (.ref a) u r) Q E s:=by
 rcases g with ⟨kvs,k,e,ey,l,eH⟩|⟨kvs,k,b,e,ey,eb,l,eH⟩
 .subst ey eH
  obtain⟨z,hd,vs,rel,dd⟩:=M9 I.hok e;have hz:vs.length<=UA:=by rw[←rel.length];exact z
  have hl:(Zg kvs k v).length<=UA:=by have:=MF kvs k v;omega
  refine wpAny_setItem_pairs (hsz:=hz) (Re ry) dd λh' yZ hs=>h _ ?_;have he:∃q,h'.get? a=O q:=let ⟨q,_,_,hq,_⟩:=yZ;⟨q,hq⟩
  exact NB I (by rw[e];exact True.intro) hs he (Lz hl hd (rel.put k rv) yZ)
 .subst ey eH
  cases (show u=Value.ref b from ry);obtain⟨z,hd,xs,rel,dd⟩:=Dh I.hok e;have hz:xs.length<=UA:=by rw[←Paired.length rel];exact z
  have hl:(Zg kvs k v).length<=UA:=by have:=MF kvs k v;omega
  refine wpAny_setItem_heap (hsz:=hz) (tupleKind_room_in1 hu) (Pb I.hok eb) dd λh' yZ hs=>h _ ?_
  obtain⟨q,es,ep,hq,h2,h3,h4,_,h5⟩:=yZ;refine NB I (by rw[e];exact True.intro) hs ⟨q,hq⟩ ⟨hl,hd,_,(rel.put k eb rv).keeps λc ys ec=>?_,q,es,ep,hq,h2,h3,h4,h5⟩;rw[KF (Ci ec e (λz=>nomatch z))];exact ec
end
def Va(i:Uz):Prop:=∀ov iv,subscripted i yb ov iv=operate [ov,iv] (getItem ov iv)
theorem AT{prog:Uw}{w:World}{A:Around}{E:Uu->Uv->Prop}{s:Uv}{env:Env}{value slice:Uz}{pos:Pos}{T id:String}{Q:Uu->Uv->Prop}
  (hl:typeLookup (.type T) "__getitem__" = pure (O (.builtin id))) (hs:Va slice)
  (h:UB (model prog w) A (eval value env) (λo s₁=>UB (model prog w) A (eval slice env) (λi s₂=>s₂.TypeIs o T/\UB (model prog w) A (getItem o i) Q E s₂) E s₁) E s) :
  UB (model prog w) A (eval (.Subscript value slice pos) env) Q E s:=by
 refine Subscript_ (QN h (λo s₁ h₁=>QN h₁ (λi s₂ h₂=>?_) λ_ _ x=>x) λ_ _ x=>x);obtain⟨hT,h₂⟩:=h₂;unfold subscriptTail;refine Qf ?_;rw[getitemInPython_of_ne hT.not_modules];refine Qf (wpAny_specialOf hT hl ?_);have fin:UB (model prog w) A (subscripted slice yb o i) (λr s₃=>UB (model prog w) A (letTemporaryGo value o r >>= λ_=>pure r) Q E s₃) E s₂:=by rw[hs o i];exact wpAny_operating (QN h₂ (λr s₃ h₃=>Qf (wpAny_letTemporaryGo (Qn h₃))) λ_ _ x=>x)
 first
  |exact Qn (Qf fin)
  |exact Qf (Qn (Qf fin))
  |exact Qf fin
theorem vY{X:Cx}{pins:List (Ux×Obj)}{σ:St}{H:Hp}{s:Uv}{a:Ux}{y:V}{o:Option V}(I:Inv X pins σ H s)(g:YQ H a y o):s.TypeIs (.ref a) "dict" :=by
 rcases g with ⟨kvs,k,e,_,_⟩|⟨kvs,k,b,e,_,_,_⟩
 .obtain⟨_,_,vs,_,dd⟩:=RR I.hok e
  exact dd.typeIs
 .obtain⟨_,_,xs,_,dd⟩:=RQ I.hok e
  exact dd.typeIs
noncomputable def Dg(td ty:TE):TE:=λσ H Q=>td σ H λx H1=>ty σ H1 λy H2=>∃a v,x=.ref a/\YQ H2 a y (O v)/\Q v H2
noncomputable def tDIn(ty td:TE):TE:=λσ H Q=>ty σ H λy H1=>td σ H1 λx H2=>∃a o,x=.ref a/\YQ H2 a y o/\Q (.bl o.isSome) H2
noncomputable def AS(ty td:TE):TE:=λσ H Q=>ty σ H λy H1=>td σ H1 λx H2=>∃a o,x=.ref a/\YQ H2 a y o/\Q (.bl (!o.isSome)) H2
noncomputable def Df(td ty tv:TE):TS:=λD σ H=>tv σ H λv H1=>td σ H1 λx H2=>ty σ H2 λy H3=>∃a H4,x=.ref a/\DPut H3 a y v H4/\D.nx σ H4
section
variable{X:Cx}{o i e value:Uz}{pos pos' tpos:Pos}{td ty tv:TE}
theorem Gj(hu:X.A.units+1<cLine)(ho:PE X o td)(hi:PE X i ty)(hs:Va i):PE X (.Subscript o i pos) (Dg td ty):=by intro pins s σ H Q I h;refine AT PySem.F.slot_dict_getitem.lookup hs (thn (ho pins s σ H _ I h) λu s1 ⟨x,H1,I1,rx,q1⟩=>thn (hi pins s1 σ H1 _ I1 q1) λiv s2 ⟨y,H2,I2,ry,a,v,ex,g,q2⟩=>?_);subst ex;obtain rfl:u=Value.ref a:=rx;exact⟨vY I2 g,xP hu I2 g ry λw' s3 I3 yF=>⟨v,H2,I3,yF,q2⟩⟩
theorem Bs(hu:X.A.units+1<cLine)(hi:PE X i ty)(ho:PE X o td):PC X .In i o (tDIn ty td):=by intro pins s σ H Q I h;refine thn (hi pins s σ H _ I h) λiv s1 ⟨y,H1,I1,ry,q1⟩=>thn (ho pins s1 σ H1 _ I1 q1) λu s2 ⟨x,H2,I2,rx,a,ov,ex,g,q2⟩=>?_;subst ex;obtain rfl:u=Value.ref a:=rx;exact d_in hu I2 g ry λs3 I3=>⟨.bl ov.isSome,H2,I3,rfl,q2⟩
theorem xN(hu:X.A.units+1<cLine)(hi:PE X i ty)(ho:PE X o td):PC X .NotIn i o (AS ty td):=by intro pins s σ H Q I h;refine thn (hi pins s σ H _ I h) λiv s1 ⟨y,H1,I1,ry,q1⟩=>thn (ho pins s1 σ H1 _ I1 q1) λu s2 ⟨x,H2,I2,rx,a,ov,ex,g,q2⟩=>?_;subst ex;obtain rfl:u=Value.ref a:=rx;exact AU hu I2 g ry λs3 I3=>⟨.bl (!ov.isSome),H2,I3,rfl,q2⟩
theorem AR(hu:X.A.units+1<cLine)(ho:PE X o td)(hi:PE X i ty)(hv:PE X value tv)(hs:swapsWith value (O (.Subscript o i pos')) pos.line X.env=pure yb) :
  PS X (.Assign [.Subscript o i pos'] value pos) (Df td ty tv):=by
 intro pins s σ H D I h;refine wpAny_Assign_Subscript (thn (hv pins s σ H _ I h) λr s1 ⟨v,H1,I1,rv,q1⟩=>thn (ho pins s1 σ H1 _ I1 q1) λu s2 ⟨x,H2,I2,rx,q2⟩=>thn (hi pins s2 σ H2 _ I2 q2) λiv s3 ⟨y,H3,I3,ry,a,H4,ex,g,q3⟩=>?_) hs;subst ex;obtain rfl:u=Value.ref a:=rx;exact xO hu I3 g ry rv λs4 I4=>⟨σ,H4,I4,q3⟩
end
theorem jG{P:Uw}{w:World}{H:Hp}(h:Heap)(hb:sysModules<h.objs.size):ZW P w H (h.push {cls:=.type "dict", data:=.dict #[]}) h.objs.size (.dK []):=
 ⟨JM _,beq_eq_false_iff_ne.mpr (Ne.symm (QT hb)),[],.nil,Heap.DictOf.new h⟩
noncomputable def P2:List (TE×TE)->St->Hp->(List (V×V)->Hp->Prop)->Prop
 |[],_,H,Q=>Q [] H
 |(tk,tv)::r,σ,H,Q=>tk σ H λx H1=>tv σ H1 λy H2=>P2 r σ H2 λps H3=>Q ((x,y)::ps) H3
noncomputable abbrev VV:List (V×V)->List (Uu×Uu)->Prop:=Paired λp q=>RelV p.1 q.1/\RelV p.2 q.2
def PPs(X:Cx)(pos:Pos)(keys:List (Option Uz))(values:yg)(trs:List (TE×TE)):Prop:=
 ∀(pins:List (Ux×Obj))(s:Uv)(σ:St)(H:Hp)(Q:List (V×V)->Hp->Prop),Inv X pins σ H s->P2 trs σ H Q ->
  UB (model X.prog X.w) X.A (evalPairs (pairTrees keys values X.env pos)) (λvs s'=>∃ps H',Inv X pins σ H' s'/\VV ps vs/\Q ps H') X.xe s
theorem AQ{X:Cx}{pos:Pos}:PPs X pos [] [] []:=λpins s σ H Q I h=>pairTrees_nil_walk ⟨[],H,I,.nil,h⟩
theorem jF{X:Cx}{pos:Pos}{k v:Uz}{ks:List (Option Uz)}{vs:yg}{tk tv:TE}{trs:List (TE×TE)}(hk:PE X k tk)(hv:PE X v tv)(hr:PPs X pos ks vs trs) :
  PPs X pos (O k::ks) (v::vs) ((tk,tv)::trs):=λpins s σ H Q I h=>
 pairTrees_cons_walk (thn (hk pins s σ H _ I h) λu s1 ⟨x,H1,I1,rx,q1⟩=>thn (hv pins s1 σ H1 _ I1 q1) λw2 s2 ⟨y,H2,I2,ry,q2⟩=>
  thn (hr pins s2 σ H2 _ I2 q2) λws s3 ⟨ps,H3,I3,rel,q3⟩=>⟨(x,y)::ps,H3,I3,.cons ⟨rx,ry⟩ rel,q3⟩)
noncomputable def V6(kvs more:List (Key×V)):List (Key×V):=more.foldl (λacc kv=>Zg acc kv.1 kv.2) kvs
theorem KV.merge:∀{more:List (Key×V)}{rs:List (Key×Uu)}{kvs:List (Key×V)}{vs:List (Key×Uu)},KV more rs->KV kvs vs->KV (V6 kvs more) (merged vs rs):=by
 intro more rs kvs vs r;unfold KV at r;induction r generalizing kvs vs with
 |nil=>intro q;exact q
 |@cons p q ps qs h t ih=>
  intro r0;have e:KV (Zg kvs p.1 p.2) (stored vs q.1 q.2):=by have:=r0.put p.1 h.2;rw[←h.1];exact this
  exact ih e
theorem ES:∀(more kvs:List (Key×V)),(V6 kvs more).length<=kvs.length+more.length
 |[],kvs=>by show kvs.length<=kvs.length+0;omega
 |p::r,kvs=>by
  have h1:=ES r (Zg kvs p.1 p.2);have h2:=MF kvs p.1 p.2
  show(V6 (Zg kvs p.1 p.2) r).length<=_
  rw[Qz];omega
theorem Ee{P:Uw}{w:World}:∀{kvs:List (Key×V)}{ws:List (Uu×Uu)},VV (kvs.map λkv=>(kV kv.1,kv.2)) ws->∃rs,Carries (YE P w) ws rs/\KV kvs rs
 |[],_,r=>by rw[List.map_nil]at r;cases r;exact⟨[],True.intro,.nil⟩
 |p::kvs,_,r=>by
  rw[Qs]at r;cases r with
  |@cons a b as bs h t=>obtain⟨rs,c,q⟩:=Ee (P:=P) (w:=w) t;obtain⟨b1,b2⟩:=b;exact⟨(p.1,b2)::rs,⟨Re h.1,rfl,c⟩,.cons ⟨rfl,h.2⟩ q⟩
end L2
namespace L2
open PySem PySem.Spec
def Xp(bmB bm:yf):Prop:=∀(X:String)(b:Bool),bmB.contains (.type X)=b->bm.contains (.type X)=b
def Yv(M:Model)(C:Ux)(name:Str)(r:yj)(h:Heap):Prop:=∀(A:Around)(E:Uu->Uv->Prop)(Q:yj->Uv->Prop)(h':Heap)(g:Array GenState)(d:Drawn)(t:Nat)(os:OsState),
 (∀b o,h.get? b=O o->h'.get? b=O o)->Q r ⟨h',g,d,t,os⟩->UB M A (typeLookup (.ref C) name) Q E ⟨h',g,d,t,os⟩
theorem Yv.keeps{M:Model}{C:Ux}{name:Str}{r:yj}{h h':Heap}(x:Yv M C name r h)(k:∀b o,h.get? b=O o->h'.get? b=O o):Yv M C name r h':=
 λA E Q h2 g d t os k2 q=>x A E Q h2 g d t os (λb o e=>k2 b o (k b o e)) q
theorem Yv.at{M:Model}{A:Around}{E:Uu->Uv->Prop}{Q:yj->Uv->Prop}{C:Ux}{name:Str}{r:yj}{h:Heap}{g:Array GenState}{d:Drawn}{t:Nat}{os:OsState}(x:Yv M C name r h)(q:Q r ⟨h,g,d,t,os⟩):UB M A (typeLookup (.ref C) name) Q E ⟨h,g,d,t,os⟩:=
 x A E Q h g d t os (λ_ _ e=>e) q
section
variable{prog:Uw}{w:World}{A:Around}{E:Uu->Uv->Prop}{h:Heap}{g:Array GenState}{d:Drawn}{t:Nat}{os:OsState}{R:Result->Uv->Prop}
variable{nm q:Str}{C N x:Ux}{bs bm bmB:yf}{hdct:Bool}{sn:List Str}{sub:yf}{ab:Bool}{col:ym}{dd:yo}{k0 k1 k2 k3 k5:yj}{B newId sa owner:String}{mN mA:Str->yj}{name:Str}{v:Uu}
theorem xM{M:Model}{o:Obj}{nameV:Uu}{Q:Unit->Uv->Prop}(T:Xp bmB bm)(hb:bmB.contains (.type "BaseException")=ya)(hC:h.get? C=O (excClassObj nm q C N bs bm hdct sn sub ab col dd k0 k1 k2 k3 k5 newId))
  (hx:h.get? x=O o) (hc:o.cls=.ref C) (hq:Q () ⟨h,g,d,t,os⟩):UB M A (checkBuiltinCall "BaseException.__getattribute__" ⟨[.ref x,nameV],[]⟩) Q E ⟨h,g,d,t,os⟩:=by
 have hk:builtinKind "BaseException.__getattribute__" = O .slot:=by decide +kernel
 have hsplit:splitId "BaseException.__getattribute__" = O ("BaseException", "__getattribute__"):=by decide +kernel
 have hcB:(Value.ref C::bm).contains (.type "BaseException")=ya:=by rw[List.contains_cons,T _ _ hb];rfl
 have ha:=PySem.F.args_bexc_ga (.ref x) nameV;simp only[checkBuiltinCall,hk,hsplit];refine Qf ?_
 .unfold isInstance
  repeat (first|(with_reducible refine QQ hx ?_;rw[hc])|(with_reducible refine Jq hC ?_;rw[hcB])|wp_step)
  exact hq
end
end L2
namespace L2
open PySem PySem.Spec PyProof.Rows PySem.Calls PyProof.V
noncomputable def XO(fr:Bool)(e C:Ux)(dd:yo):Heap->Prop:=λh=>∃vs sl,h.get? e=O {cls:=.ref C,dict:=dd,data:=.fields vs,slots:=sl}/\(fr=ya->vs[1]?=O .none/\∃t0,vs[0]?=O (.ref t0))
noncomputable abbrev VB:yf:=[.type "ValueError", .type "Exception", .type "BaseException", .type "object"]
structure XCls(M:Model)(base:Heap)(C:Ux)(bm:yf)(fI:Ux):Prop where
 obj:∃nm q N bs sn sub ab col dd k0 k1 k2 k3 k5,base.get? C=O (excClassObj nm q C N bs bm ya sn sub ab col dd k0 k1 k2 k3 k5 "ValueError.__new__")
 tail:Xp VB bm
 init:Yv M C "__init__" (O (.ref fI)) base
 fn:∃o,base.get? fI=O o/\o.cls=.type "function"
 sa:Yv M C "__setattr__" (O (.builtin "object.__setattr__")) base
 ga:Yv M C "__getattribute__" (O (.builtin "BaseException.__getattribute__")) base
 gh:Yv M C "__getattr__" none base
 cl:Yv M C "__class__" (O (.builtin "object.__class__")) base
 pass:∀v,refuseLoop v "__setattr__" bm=pure ()
noncomputable def XD(dx:Ux)(fs:List (Str×V)):Heap->Prop:=λh=>∃mA,h.Ns1 dx mA/\h.ExactDictFk dx/\(∀f,RelO (fs.lookup f) (mA f))/\PySem.Within mA (fs.map (·.1))
end L2
namespace L2
open PySem PySem.Spec
section
variable{prog:Uw}{w:World}{A:Around}{E:Uu->Uv->Prop}{h:Heap}{g:Array GenState}{d:Drawn}{t:Nat}{os:OsState}{R:Result->Uv->Prop}
variable{nm q:Str}{C N a:Ux}{bs bm bmB:yf}{hdct:Bool}{sn:List Str}{sub:yf}{ab:Bool}{col:ym}{dd:yo}{k0 k1 k2 k3 k5:yj}{newId:String}{o:Obj}
theorem vc(T:Xp bmB bm)(ho:bmB.contains (.type "object")=ya)(hC:h.get? C=O (excClassObj nm q C N bs bm hdct sn sub ab col dd k0 k1 k2 k3 k5 newId))(hx:h.get? a=O o)(hc:o.cls=.ref C)(hq:R (.ok (.ret (.ref C))) ⟨h,g,d,t,os⟩) :
  codeAny (model prog w) A (.call (.builtin "getset_descriptor.__get__") ⟨[.builtin "object.__class__", .ref a,.ref C],[]⟩) R ⟨h,g,d,t,os⟩:=by
 have hT5:(⟨h,g,d,t,os⟩:Uv).TypeIs (.builtin "object.__class__") "getset_descriptor" :=PySem.F.typeOf_object_class;have hcB:(Value.ref C::bm).contains (.type (".".intercalate ("object.__class__".cutAt '.').dropLast))=ya:=by rw[PySem.F.owner_object_class,List.contains_cons,T _ _ ho];rfl
 refine codeAny_call_builtin PySem.F.slot_gs_get.plain PySem.F.entry_gs_get (PySem.F.slot_gs_get.check _ _ _ _ _ _ _ _ hT5 (PySem.F.args_gs_get _ _ _) ?_)
 repeat (any_goals (first|assumption|(with_reducible refine QQ hx ?_;rw[hc])|(with_reducible refine Jq hC ?_;rw[hcB])|wp_step))
 refine⟨Code.quiet_builtin _ (by decide +kernel),codeAny_builtin PySem.F.entry_object_class ?_⟩;unfold Builtin.«object.__class__»
 repeat (any_goals (first|assumption|(with_reducible refine QQ hx ?_;rw[hc])|wp_step))
theorem wM{tk:Tok}{Q:PySem.Fin->Uv->Prop}(T:Xp bmB bm)(ho:bmB.contains (.type "object")=ya)(hC:h.get? C=O (excClassObj nm q C N bs bm hdct sn sub ab col dd k0 k1 k2 k3 k5 newId))(fc:Yv (model prog w) C "__class__" (O (.builtin "object.__class__")) h)(hx:h.get? a=O o)(hc:o.cls=.ref C)(hq:Q (.done (.ret (.ref C))) ⟨h,g,d,t,os⟩) :
  UB (model prog w) A (Builtin.«object.__getattribute__» ⟨[.ref a,.str "__class__" tk],[]⟩) Q E ⟨h,g,d,t,os⟩:=by
 have hT5:(⟨h,g,d,t,os⟩:Uv).TypeIs (.builtin "object.__class__") "getset_descriptor" :=PySem.F.typeOf_object_class;have f5:=PySem.F.typeOf_object_class;have f6:=PySem.F.slot_gs_get.lookup;have f7:=PySem.F.slot_gs_set.lookup
 repeat (any_goals (first|assumption|(with_reducible refine QQ hx ?_;rw[hc])|with_reducible refine fc.at ?_|wp_step))
 refine vc T ho hC hx hc ?_
 repeat (any_goals (first|assumption|wp_step))
theorem EQ{Q:yj->Uv->Prop}(FB:ExcAttrFacts "ValueError")(T:Xp VB bm)(hC:h.get? C=O (excClassObj nm q C N bs bm hdct sn sub ab col dd k0 k1 k2 k3 k5 newId))(fc:Yv (model prog w) C "__class__" (O (.builtin "object.__class__")) h)
  (fg:Yv (model prog w) C "__getattribute__" (O (.builtin "BaseException.__getattribute__")) h) (fa:Yv (model prog w) C "__getattr__" none h) (hx:h.get? a=O o) (hc:o.cls=.ref C) (hq:Q (O (.ref C)) ⟨h,g,d,t+1,os⟩) :
  UB (model prog w) A (getAttr? (.ref a) "__class__") Q E ⟨h,g,d,t,os⟩:=by
 have f3:=FB.ga.bind (.ref a);have hx0:(yb&&onTheHeap (Value.builtin "BaseException.__getattribute__"))=yb:=rfl;have hx2:(Value.builtin "BaseException.__getattribute__" == Value.builtin "object.__getattribute__")=yb:=by decide +kernel
 have hx1:(onTheHeap (Value.ref C)&&Value.builtin "BaseException.__getattribute__" == Value.builtin "object.__getattribute__")=yb:=by rw[hx2];rfl
 unfold getAttr? getAttrBy?;refine Qf (wpAny_mkText (Qf (wpAny_attempt ?_)))
 repeat (any_goals (first|assumption|(with_reducible refine QQ hx ?_;rw[hc])|with_reducible refine fg.at ?_|with_reducible refine fa.at ?_|wp_step))
 refine codeAny_call_builtin FB.ga.plain PySem.F.entry_bexc_ga (xM T w8 hC hx hc (wM T w8 hC fc hx hc ?_))
 repeat (any_goals (first|assumption|wp_step))
end
end L2
namespace L2
open PySem PySem.Spec PyProof.Rows
section
variable{prog:Uw}{w:World}{A:Around}{E:Uu->Uv->Prop}{h:Heap}{g:Array GenState}{d:Drawn}{t:Nat}{os:OsState}
variable{nm q nm' q':Str}{C N D N' a:Ux}{bs bm bs' bm':yf}{hdct zB:Bool}{sn sn':List Str}{sub sub':yf}{ab ab':Bool}{col col':ym}{dd yZ:yo}{k0 k1 k2 k3 k5 j0 j1 j2 j3 j5:yj}{newId newId':String}{o:Obj}{b:Bool}
theorem AO{Q:Uu->Uv->Prop}(T:Xp VB bm)(hC:h.get? C=O (excClassObj nm q C N bs bm hdct sn sub ab col dd k0 k1 k2 k3 k5 newId))(hD:h.get? D=O (excClassObj nm' q' D N' bs' bm' zB sn' sub' ab' col' yZ j0 j1 j2 j3 j5 newId'))
  (fc:Yv (model prog w) C "__class__" (O (.builtin "object.__class__")) h) (fg:Yv (model prog w) C "__getattribute__" (O (.builtin "BaseException.__getattribute__")) h) (fa:Yv (model prog w) C "__getattr__" none h)
  (hx:h.get? a=O o) (hc:o.cls=.ref C) (hb:(Value.ref C::bm).contains (.ref D)=b) (hq:∀tk,Q (.bool b) ⟨h,g,d,tk,os⟩):UB (model prog w) A (call (.builtin "isinstance") [.ref a,.ref D]) Q E ⟨h,g,d,t,os⟩:=by
 have hT:(⟨h,g,d,t,os⟩:Uv).TypeIs (.ref D) "type" :=⟨_,hD,rfl⟩
 have f2:=tc_sub;refine call_isinstance_of ?_ (λz=>nomatch z);unfold Builtin.«isinstance.nested»;refine Qf ?_;unfold typeOf;refine Qf (QQ hx (Qn ?_));rw[hc];by_cases e:C=D
 .subst e
  have hb1:b=ya:=by rw[←hb];simp
  subst hb1;rw[if_pos (by simp)];exact Qf (wpAny_rule (Qn (hq t)))
 .rw[if_neg (by simp[e])]
  refine Qf (Qf (QQ hD (Qn ?_)));rw[Qo (show(Value.type "type" == Value.type "type")=ya by decide)]
  k_delta "plainIsInstance"
  unfold isType isInstance
  repeat (first|(with_reducible refine QQ hx ?_;rw[hc])|with_reducible refine QQ hD ?_|with_reducible refine QQ hC ?_|(with_reducible refine Jq hC ?_;rw[hb])|wp_step)
  cases b with
  |true=>wp_walk;exact hq t
  |false=>
   rw[QB (by decide)];refine Qf (EQ PySem.F.excAttr_ValueError T hC fc fg fa hx hc ?_)
   repeat (first|with_reducible refine QQ hC ?_|(with_reducible refine Jq hC ?_;rw[hb])|wp_step)
   exact hq _
theorem Br{Q:Uu->Uv->Prop}{X:String}(T:Xp VB bm)(hC:h.get? C=O (excClassObj nm q C N bs bm hdct sn sub ab col dd k0 k1 k2 k3 k5 newId))(hX:typeOf (.type X)=pure (.type "type"))
  (fc:Yv (model prog w) C "__class__" (O (.builtin "object.__class__")) h) (fg:Yv (model prog w) C "__getattribute__" (O (.builtin "BaseException.__getattribute__")) h) (fa:Yv (model prog w) C "__getattr__" none h)
  (hx:h.get? a=O o) (hc:o.cls=.ref C) (hb:(Value.ref C::bm).contains (.type X)=b) (hq:∀tk,Q (.bool b) ⟨h,g,d,tk,os⟩):UB (model prog w) A (call (.builtin "isinstance") [.ref a,.type X]) Q E ⟨h,g,d,t,os⟩:=by
 refine call_isinstance_of ?_ (λz=>nomatch z);unfold Builtin.«isinstance.nested»;refine Qf ?_;have ty:∀{M:Model}{A:Around}{Q:Uu->Uv->Prop}{E:Uu->Uv->Prop},Q (.ref C) ⟨h,g,d,t,os⟩->UB M A (typeOf (.ref a)) Q E ⟨h,g,d,t,os⟩:=λq=>by unfold typeOf;refine Qf (QQ hx (Qn ?_));rw[hc];exact q
 refine ty ?_;rw[if_neg (by simp)];refine Qf (wpAny_of_eq hX ?_);rw[Qo (show(Value.type "type" == Value.type "type")=ya by decide)]
 k_delta "plainIsInstance"
 unfold isType isInstance
 repeat (first|(with_reducible refine QQ hx ?_;rw[hc])|with_reducible refine QQ hC ?_|(with_reducible refine Jq hC ?_;rw[hb])|wp_step)
 cases b with
 |true=>wp_walk;exact hq t
 |false=>
  rw[QB (by decide)];refine Qf (EQ PySem.F.excAttr_ValueError T hC fc fg fa hx hc ?_)
  repeat (first|with_reducible refine QQ hC ?_|(with_reducible refine Jq hC ?_;rw[hb])|wp_step)
  exact hq _
end
noncomputable def rIsX(KC:Ux->yf->Prop):List V->Hp->VK->Prop:=λxs H Q=>∃a C dd bm fr c b,xs=[.ref a,c]/\KC C bm/\H a=O (.ext (XO fr a C dd)) /\
 ((∃D bm',c=.ref D/\KC D bm'/\(Value.ref C::bm).contains (.ref D)=b) ∨ ∃T,c=.ty T/\typeOf (.type T)=pure (.type "type")/\(Value.ref C::bm).contains (.type T)=b)/\Q (.bl b) H
theorem jE{X:Cx}{KC:Ux->yf->Prop}(hcls:∀C bm,KC C bm->∃fI,XCls (model X.prog X.w) X.base C bm fI):YZ X (.builtin "isinstance") (rIsX KC):=by
 rintro pins s σ H xs us Q I r ⟨a,C,dd,bm,fr,c,b,rfl,kc,hx,hD,q⟩;cases r with
 |cons ra r=>
 cases r with
 |cons rc r=>
 cases r;have ra':_=Value.ref a:=ra;subst ra';obtain⟨fI,XC⟩:=hcls C bm kc;obtain⟨nm,qn,N,bs,sn,sub,ab,col,dd1,k0,k1,k2,k3,k5,hC⟩:=XC.obj;obtain⟨⟨vs,sl,ga,_⟩,_,_⟩:=I.hok a _ hx;obtain⟨hp,g,d,tk,os⟩:=s;rcases hD with ⟨D,bm',rfl,kd,hb⟩|⟨T,rfl,hT,hb⟩
 .have rc':_=Value.ref D:=rc
  subst rc';obtain⟨fI',XD'⟩:=hcls D bm' kd;obtain⟨nm',qn',N',bs',sn',sub',ab',col',dd2,j0,j1,j2,j3,j5,ac⟩:=XD'.obj;exact AO XC.tail (I.bk _ _ hC) (I.bk _ _ ac) (XC.cl.keeps I.bk) (XC.ga.keeps I.bk) (XC.gh.keeps I.bk) ga w8 hb λtk'=>⟨.bl b,H,I.tok tk',rfl,q⟩
 .have rc':_=Value.type T:=rc
  subst rc';exact Br XC.tail (I.bk _ _ hC) hT (XC.cl.keeps I.bk) (XC.ga.keeps I.bk) (XC.gh.keeps I.bk) ga w8 hb λtk'=>⟨.bl b,H,I.tok tk',rfl,q⟩
noncomputable def De(nm:Str):List Str:=if nm = "NoWishes" then ["part", "number"]else if nm = "NoAim" then ["part"]else if nm = "NoText" then ["row"]else []
noncomputable def M8(K:Frag)(nm:Str):yo:=match PySem.W.nsIn K mainGlobals nm with|some (O (.ref C))=>O C|_=>w9
def NmAt(K:Frag)(nm:Str)(C:Ux):Prop:=∃o cd,K.lookup C=O o/\o.data=.cls cd/\cd.name=nm
structure ClsK(K:Frag)(nm:Str)(C:Ux)(bm:yf):Prop where
 ad:M8 K nm=O C
 nmd:NmAt K nm C
 up:nm = "DealError" /\ bm=VB∨nm ≠ "DealError" /\ ∃D,M8 K "DealError" = O D/\bm=.ref D::VB/\NmAt K "DealError" D
 cls:∀(M:Model)(h:Heap),K.In h->∃fI,XCls M h C bm fI
 fld:∀(M:Model)(h:Heap),K.In h->∀f∈(["part", "number", "row"]:List Str),Yv M C f w9 h
noncomputable def KC(K:Frag):Ux->yf->Prop:=λC bm=>∃nm,ClsK K nm C bm
section
variable{K:Frag}{nm x:Str}{C D:Ux}{bm bm':yf}
theorem ClsK.ty(c:ClsK K nm C bm)(T:String):(Value.ref C::bm).contains (.type T)=VB.contains (.type T):=by
 rcases c.up with ⟨_,rfl⟩|⟨_,D',g,rfl,n⟩
 .rfl
 .rfl
end
section
variable{X:Cx}{e:Uz}{st:Stmt}{sts:List Stmt}{t:TE}{ts:TS}
theorem Dd(k:X.K.In X.base):∀C bm,KC X.K C bm->∃fI,XCls (model X.prog X.w) X.base C bm fI:=λ_ _ ⟨_,c⟩=>c.cls _ _ k
end
end L2
namespace DL
open PySem PySem.Spec L2
open PyProof.Rows hiding St
abbrev D:=PyData
abbrev yc:=List D
abbrev ye:=Option D
abbrev XW:=V->St->Hp->Prop
noncomputable abbrev KX0:XW:=λ_ _ _=>False
def XFs(G:Hp)(dd:yo)(fs:List Str)(vs:List V):Prop:=match dd with
 |none=>fs=[]/\vs=[]
 |some dx=>fs.length=vs.length/\G dx=O (.ext (XD dx (fs.zip vs)))
theorem XFs.mono{G G1:Hp}{dd:yo}{fs:List Str}{vs:List V}(e:Same G G1)(h:XFs G dd fs vs):XFs G1 dd fs vs:=by
 cases dd with
 |none=>exact h
 |some dx=>exact⟨h.1,e _ _ h.2⟩
noncomputable def kD:Key->D
 |.inl i=>.int i
 |.inr x=>.str x
noncomputable def tkD(k:yl):D:=.tuple (k.map kD)
noncomputable def pdD(ks:List yl)(ds:yc):List (D×D):=(.bool ya,.none)::(ks.map tkD).zip ds
mutual
inductive Rep(K:Frag)(G:Hp):V->D->Prop where
 |non:Rep K G .non .none
 |bl (b:Bool):Rep K G (.bl b) (.bool b)
 |int (i:Int):Rep K G (.int i) (.int i)
 |str (x:Str):Rep K G (.str x) (.str x)
 |lst {a:Ux} {vs:List V} {ds:yc} (h:SqL K G a vs) (r:Reps K G vs ds):Rep K G (.ref a) (.list ds)
 |tup {a:Ux} {vs:List V} {ds:yc} (h:SqT K G a vs) (r:Reps K G vs ds):Rep K G (.ref a) (.tuple ds)
 |dic {a:Ux} (h:G a=O (.dK [])):Rep K G (.ref a) (.dict [])
 |exc {a C:Ux} {dd:yo} {bm:yf} {nm:Str} {vs:List V} {ds:yc} (c:ClsK K nm C bm) (h:G a=O (.ext (XO yb a C dd))) (hd:XFs G dd (De nm) vs) (r:Reps K G vs ds):Rep K G (.ref a) (.dict [(.none,.tuple [.str nm,.list ds])])
 |dct {a:Ux} {ks:yl} {vs:List V} {ds:yc} {kvs:List (D×D)} (e:kvs=(ks.map kD).zip ds) (hne:ks≠[]) (hl:ks.length=ds.length) (h:G a=O (.dK (ks.zip vs))) (r:Reps K G vs ds):Rep K G (.ref a) (.dict kvs)
 |dtt {a:Ux} {o:Obj} {ks:List yl} {vs:List V} {ds:yc} {kvs:List (D×D)} (e:kvs=pdD ks ds) (hl:ks.length=ds.length) (h:G a=O (.frz o (.dT (ks.zip vs)))) (r:Reps K G vs ds):Rep K G (.ref a) (.dict kvs)
inductive Reps(K:Frag)(G:Hp):List V->yc->Prop where
 |nil:Reps K G [] []
 |cons {v:V} {d:D} {vs:List V} {ds:yc} (h:Rep K G v d) (t:Reps K G vs ds):Reps K G (v::vs) (d::ds)
end
variable{K:Frag}{B G0 G G1 G2 H H1 H2:Hp}
theorem Xf{a:Ux}{xs:List V}(e:Same G G1)(h:SqT K G a xs):SqT K G1 a xs:=by
 rcases h with (h|⟨o,h⟩)|h
 .exact .inl (.inl (e _ _ h))
 .exact .inl (.inr ⟨o,e _ _ h⟩)
 .exact .inr h
theorem Rep.mono(e:Same G G1){v:V}{d:D}(r:Rep K G v d):Rep K G1 v d:=Rep.rec (motive_1:=λv d _=>Rep K G1 v d) (motive_2:=λvs ds _=>Reps K G1 vs ds) .non .bl .int .str (λh _ r=>.lst (e.seq h) r) (λh _ r=>.tup (Xf e h) r) (λh=>.dic (e _ _ h)) (λc h hd _ r=>.exc c (e _ _ h) (hd.mono e) r) (λz n l h _ r=>.dct z n l (e _ _ h) r) (λz l h _ r=>.dtt z l (e _ _ h) r) .nil (λ_ _=>.cons) r
theorem Reps.mono(e:Same G G1){vs:List V}{ds:yc}(r:Reps K G vs ds):Reps K G1 vs ds:=Reps.rec (motive_1:=λv d _=>Rep K G1 v d) (motive_2:=λvs ds _=>Reps K G1 vs ds) .non .bl .int .str (λh _ r=>.lst (e.seq h) r) (λh _ r=>.tup (Xf e h) r) (λh=>.dic (e _ _ h)) (λc h hd _ r=>.exc c (e _ _ h) (hd.mono e) r) (λz n l h _ r=>.dct z n l (e _ _ h) r) (λz l h _ r=>.dtt z l (e _ _ h) r) .nil (λ_ _=>.cons) r
section
variable{v:V}{vs ws:List V}{ds es:yc}
theorem Rep.bl_inv{b:Bool}(h:Rep K G v (.bool b)):v=.bl b:=by cases h;rfl
theorem Rep.int_inv{i:Int}(h:Rep K G v (.int i)):v=.int i:=by cases h;rfl
theorem Rep.str_inv{x:Str}(h:Rep K G v (.str x)):v=.str x:=by cases h;rfl
theorem Rep.lst_inv(h:Rep K G v (.list ds)):∃a vs,v=.ref a/\SqL K G a vs/\Reps K G vs ds:=by
 cases h with
 |lst h r=>exact⟨_,_,rfl,h,r⟩
theorem Rep.tup_inv(h:Rep K G v (.tuple ds)):∃a vs,v=.ref a/\SqT K G a vs/\Reps K G vs ds:=by
 cases h with
 |tup h r=>exact⟨_,_,rfl,h,r⟩
theorem Reps.length:∀{vs:List V}{ds:yc},Reps K G vs ds->vs.length=ds.length
 |_,_,.nil=>rfl
 |_,_,.cons _ t=>by rw[Qz,Qz,Reps.length t]
theorem Reps.get:∀{vs:List V}{ds:yc}{i:Nat}{d:D},Reps K G vs ds->ds[i]?=O d->∃v,vs[i]?=O v/\Rep K G v d
 |_,_,_,_,.nil,e=>by simp at e
 |_,_,0,_,.cons h _,e=>by simp at e;subst e;exact⟨_,rfl,h⟩
 |_,_,i+1,d,.cons _ t,e=>by obtain⟨u,h1,h2⟩:=Reps.get (i:=i) (d:=d) t (by simpa using e);exact⟨u,by simpa using h1,h2⟩
theorem Reps.append:∀{vs ws:List V}{ds es:yc},Reps K G vs ds->Reps K G ws es->Reps K G (vs++ws) (ds++es)
 |_,_,_,_,.nil,s=>s
 |_,_,_,_,.cons r t,s=>.cons r (Reps.append t s)
theorem Reps.take:∀{vs:List V}{ds:yc}(n:Nat),Reps K G vs ds->Reps K G (vs.take n) (ds.take n)
 |_,_,0,_=>by rw[JZ,JZ];exact .nil
 |_,_,_+1,.nil=>.nil
 |_,_,n+1,.cons r t=>.cons r (Reps.take n t)
theorem Reps.drop:∀{vs:List V}{ds:yc}(n:Nat),Reps K G vs ds->Reps K G (vs.drop n) (ds.drop n)
 |_,_,0,r=>r
 |_,_,_+1,.nil=>.nil
 |_,_,n+1,.cons _ t=>Reps.drop n t
theorem Reps.reverse:∀{vs:List V}{ds:yc},Reps K G vs ds->Reps K G vs.reverse ds.reverse
 |_,_,.nil=>.nil
 |_,_,.cons r t=>by rw[JU,JU];exact Reps.append (Reps.reverse t) (.cons r .nil)
theorem Reps.set{v:V}{d:D}(r:Rep K G v d):∀{vs:List V}{ds:yc}(i:Nat),Reps K G vs ds->Reps K G (vs.set i v) (ds.set i d)
 |_,_,_,.nil=>.nil
 |_,_,0,.cons _ t=>.cons r t
 |_,_,i+1,.cons q t=>.cons q (Reps.set r i t)
theorem Reps.ints:∀(ns:yd),Reps K G (ns.map V.int) (ns.map int)
 |[]=>.nil
 |n::ns=>.cons (.int n) (Reps.ints ns)
end
inductive MO where
 |l (vs:List V)|k (kvs:List (Key×V))|t (kvs:List (yl×V))|s (S:Int->Bool) (n:Nat)
noncomputable def MO.ho:MO->HO
 |.l vs=>.lst vs
 |.k kvs=>.dK kvs
 |.t kvs=>.dT kvs
 |.s S n=>.set S n
structure Ext(G H G' H':Hp):Prop where
 h:Same H H'
 g:Same G G'
 gh:Same G' H'
 np:∀a(u:MO),H a=O u.ho->G a=w9->G' a=w9
theorem Ext.refl(e:Same G H):Ext G H G H:=⟨.refl _,.refl _,e,λ_ _ _ q=>q⟩
theorem ZJ{p:Ux}{o:HO}(h:H p=w9):Same H (upd H p o):=λb u e=>by rw[KF (Yx e h)];exact e
theorem Ext.new{p:Ux}{o:HO}(e:Same G H)(h:H p=w9):Ext G H (upd G p o) (upd H p o):=by
 have hg:G p=w9:=e.free h;refine⟨ZJ h,ZJ hg,λb u q=>?_,λa u q n=>?_⟩
 .by_cases z:b=p
  .subst z;rw[Zd]at q⊢;exact q
  .rw[KF z]at q⊢;exact e b u q
 .rw[KF (Yx q h)];exact n
theorem Ext.hid{p:Ux}{o:HO}(e:Same G H)(h:H p=w9):Ext G H G (upd H p o):=
 ⟨ZJ h,.refl _,e.trans (ZJ h),λ_ _ _ n=>n⟩
inductive Pat where
 |leaf|lst (p:Pat)|tup (ps:List Pat)|dic
mutual
inductive RepO(K:Frag)(G H:Hp):Pat->V->D->yh->Prop where
 |leaf {v:V} {d:D} (r:Rep K G v d):RepO K G H .leaf v d []
 |lst {p:Pat} {a:Ux} {vs:List V} {ds:yc} {fp:yh} (h:H a=O (.lst vs)) (r:RepOl K G H p vs ds fp):RepO K G H (.lst p) (.ref a) (.list ds) (a::fp)
 |tup {ps:List Pat} {a:Ux} {vs:List V} {ds:yc} {fp:yh} (h:H a=O (.tup vs)) (r:RepOs K G H ps vs ds fp):RepO K G H (.tup ps) (.ref a) (.tuple ds) fp
 |dic {a:Ux} {ks:yl} {vs:List V} {ds:yc} {kvs:List (D×D)} (e:kvs=(ks.map kD).zip ds) (hl:ks.length=ds.length) (h:H a=O (.dK (ks.zip vs))) (r:Reps K G vs ds):RepO K G H .dic (.ref a) (.dict kvs) [a]
inductive RepOl(K:Frag)(G H:Hp):Pat->List V->yc->yh->Prop where
 |nil {p:Pat}:RepOl K G H p [] [] []
 |cons {p:Pat} {v:V} {d:D} {vs:List V} {ds:yc} {f1 f2:yh} (h:RepO K G H p v d f1) (t:RepOl K G H p vs ds f2):RepOl K G H p (v::vs) (d::ds) (f1++f2)
inductive RepOs(K:Frag)(G H:Hp):List Pat->List V->yc->yh->Prop where
 |nil:RepOs K G H [] [] [] []
 |cons {p:Pat} {ps:List Pat} {v:V} {d:D} {vs:List V} {ds:yc} {f1 f2:yh} (h:RepO K G H p v d f1) (t:RepOs K G H ps vs ds f2):RepOs K G H (p::ps) (v::vs) (d::ds) (f1++f2)
end
def X5(K:Frag)(G H:Hp)(M1:Pat->V->D->yh->Prop)(M2:Pat->List V->yc->yh->Prop)(M3:List Pat->List V->yc->yh->Prop):Prop:=
 (∀{p v d fp},RepO K G H p v d fp->M1 p v d fp)/\(∀{p vs ds fp},RepOl K G H p vs ds fp->M2 p vs ds fp)/\∀{ps vs ds fp},RepOs K G H ps vs ds fp->M3 ps vs ds fp
theorem RepO.ind3{M1:Pat->V->D->yh->Prop}{M2:Pat->List V->yc->yh->Prop}{M3:List Pat->List V->yc->yh->Prop}
  (c1:∀{v d},Rep K G v d->M1 .leaf v d []) (c2:∀{p a vs ds fp},H a=O (.lst vs)->M2 p vs ds fp->M1 (.lst p) (.ref a) (.list ds) (a::fp)) (c3:∀{ps a vs ds fp},H a=O (.tup vs)->M3 ps vs ds fp->M1 (.tup ps) (.ref a) (.tuple ds) fp)
  (c4:∀{a:Ux}{ks:yl}{vs:List V}{ds:yc}{kvs:List (D×D)},kvs=(ks.map kD).zip ds->ks.length=ds.length->H a=O (.dK (ks.zip vs))->Reps K G vs ds->M1 .dic (.ref a) (.dict kvs) [a])
  (c5:∀{p},M2 p [] [] []) (c6:∀{p v d vs ds f1 f2},M1 p v d f1->M2 p vs ds f2->M2 p (v::vs) (d::ds) (f1++f2)) (c7:M3 [] [] [] []) (c8:∀{p ps v d vs ds f1 f2},M1 p v d f1->M3 ps vs ds f2->M3 (p::ps) (v::vs) (d::ds) (f1++f2)) :
  X5 K G H M1 M2 M3:=
 ⟨λh=>RepO.rec (motive_1:=λp v d fp _=>M1 p v d fp) (motive_2:=λp v d fp _=>M2 p v d fp) (motive_3:=λp v d fp _=>M3 p v d fp) c1 (λh _=>c2 h) (λh _=>c3 h) c4 c5 (λ_ _=>c6) c7 (λ_ _=>c8) h,
  λh=>RepOl.rec (motive_1:=λp v d fp _=>M1 p v d fp) (motive_2:=λp v d fp _=>M2 p v d fp) (motive_3:=λp v d fp _=>M3 p v d fp) c1 (λh _=>c2 h) (λh _=>c3 h) c4 c5 (λ_ _=>c6) c7 (λ_ _=>c8) h,
  λh=>RepOs.rec (motive_1:=λp v d fp _=>M1 p v d fp) (motive_2:=λp v d fp _=>M2 p v d fp) (motive_3:=λp v d fp _=>M3 p v d fp) c1 (λh _=>c2 h) (λh _=>c3 h) c4 c5 (λ_ _=>c6) c7 (λ_ _=>c8) h⟩
theorem RepO.mono3(sg:Same G G1)(sh:Same H H1):X5 K G H (RepO K G1 H1) (RepOl K G1 H1) (RepOs K G1 H1):=
 RepO.ind3 (λr=>.leaf (r.mono sg)) (λh r=>.lst (sh _ _ h) r) (λh r=>.tup (sh _ _ h) r) (λe hl h r=>.dic e hl (sh _ _ h) (r.mono sg)) .nil .cons .nil .cons
theorem RepO.mono(sg:Same G G1)(sh:Same H H1){p:Pat}{v:V}{d:D}{fp:yh}(r:RepO K G H p v d fp):RepO K G1 H1 p v d fp:=(RepO.mono3 sg sh).1 r
theorem RepOs.mono(sg:Same G G1)(sh:Same H H1){p:List Pat}{v:List V}{d:yc}{fp:yh}(r:RepOs K G H p v d fp):RepOs K G1 H1 p v d fp:=(RepO.mono3 sg sh).2.2 r
theorem RepO.upd3{a:Ux}{o:HO}(nt:∀vs,H a≠O (.tup vs)):X5 K G H (λp v d fp=>a∉fp->RepO K G (upd H a o) p v d fp) (λp v d fp=>a∉fp->RepOl K G (upd H a o) p v d fp) (λp v d fp=>a∉fp->RepOs K G (upd H a o) p v d fp):=
 RepO.ind3
 (λr _=>.leaf r) (λh r n=>.lst (by rw[KF (λz=>n (by rw[z];exact Qi))];exact h) (r λz=>n (Qh _ z))) (λh r n=>.tup (by rw[KF (λz=>by subst z;exact nt _ h)];exact h) (r n))
 (λe hl h r n=>.dic e hl (by rw[KF (λz=>n (by rw[z];exact Qi))];exact h) r) (λ_=>.nil) (λh t n=>.cons (h λz=>n (QI _ z)) (t λz=>n (QE _ z))) (λ_=>.nil) (λh t n=>.cons (h λz=>n (QI _ z)) (t λz=>n (QE _ z)))
theorem RepO.upd{a:Ux}{o:HO}(nt:∀vs,H a≠O (.tup vs)){p:Pat}{v:V}{d:D}{fp:yh}(r:RepO K G H p v d fp)(n:a∉fp):RepO K G (upd H a o) p v d fp:=(RepO.upd3 nt).1 r n
theorem RepOl.upd{a:Ux}{o:HO}(nt:∀vs,H a≠O (.tup vs)){p:Pat}{v:List V}{d:yc}{fp:yh}(r:RepOl K G H p v d fp)(n:a∉fp):RepOl K G (upd H a o) p v d fp:=(RepO.upd3 nt).2.1 r n
theorem RepOs.upd{a:Ux}{o:HO}(nt:∀vs,H a≠O (.tup vs)){p:List Pat}{v:List V}{d:yc}{fp:yh}(r:RepOs K G H p v d fp)(n:a∉fp):RepOs K G (upd H a o) p v d fp:=(RepO.upd3 nt).2.2 r n
theorem RepO.rep3(gh:Same G H):X5 K G H (λ_ v d _=>Rep K H v d) (λ_ v d _=>Reps K H v d) (λ_ v d _=>Reps K H v d):=
 RepO.ind3 (λr=>r.mono gh) (λh r=>.lst (SqL.of h) r) (λh r=>.tup (SqT.of h) r)
 (λ{a ks vs ds kvs} e hl h r=>by
  cases ks with
  |nil=>subst e;exact .dic h
  |cons k ks=>exact .dct e (λz=>by cases z) hl h (r.mono gh)) .nil .cons .nil .cons
theorem RepO.rep(gh:Same G H){p:Pat}{v:V}{d:D}{fp:yh}(r:RepO K G H p v d fp):Rep K H v d:=(RepO.rep3 gh).1 r
theorem RepO.isl3:X5 K G H (λ_ _ _ fp=>∀a∈fp,∃u:MO,H a=O u.ho) (λ_ _ _ fp=>∀a∈fp,∃u:MO,H a=O u.ho) (λ_ _ _ fp=>∀a∈fp,∃u:MO,H a=O u.ho):=
 RepO.ind3 (λ_ a m=>by cases m)
 (λh r b m=>(Qw.mp m).elim (λe=>⟨.l _,e ▸ h⟩) (r b)) (λ_ r=>r) (λ_ _ h _ b m=>⟨.k _,Qq.mp m ▸ h⟩) (λa m=>by cases m) (λh t b m=>(QC.mp m).elim (h b) (t b)) (λa m=>by cases m) (λh t b m=>(QC.mp m).elim (h b) (t b))
theorem RepO.isl{p:Pat}{v:V}{d:D}{fp:yh}(r:RepO K G H p v d fp):∀a∈fp,∃u:MO,H a=O u.ho:=RepO.isl3.1 r
theorem RepOs.isl{p:List Pat}{v:List V}{d:yc}{fp:yh}(r:RepOs K G H p v d fp):∀a∈fp,∃u:MO,H a=O u.ho:=RepO.isl3.2.2 r
theorem RepO.uniq3(sh:Same H H1):X5 K G H (λp v _ fp=>∀d' fp',RepO K G1 H1 p v d' fp'->fp=fp') (λp v _ fp=>∀d' fp',RepOl K G1 H1 p v d' fp'->fp=fp') (λp v _ fp=>∀d' fp',RepOs K G1 H1 p v d' fp'->fp=fp'):=
 RepO.ind3
 (λ_ d' fp' h=>by cases h;rfl)
 (λh r d' fp' h'=>by
  cases h' with
  |lst h2 r2=>have e:=sh _ _ h;rw[h2]at e;cases e;rw[r _ _ r2])
 (λh r d' fp' h'=>by
  cases h' with
  |tup h2 r2=>have e:=sh _ _ h;rw[h2]at e;cases e;exact r _ _ r2)
 (λ_ _ _ _ d' fp' h=>by cases h;rfl) (λd' fp' h=>by cases h;rfl)
 (λh t d' fp' h'=>by
  cases h' with
  |cons h2 t2=>rw[h _ _ h2,t _ _ t2])
 (λd' fp' h=>by cases h;rfl)
 (λh t d' fp' h'=>by
  cases h' with
  |cons h2 t2=>rw[h _ _ h2,t _ _ t2])
theorem RepO.uniq(sh:Same H H1){p:Pat}{v:V}{d d':D}{fp fp':yh}(r:RepO K G H p v d fp)(r':RepO K G1 H1 p v d' fp'):fp=fp':=(RepO.uniq3 sh).1 r _ _ r'
inductive Sl where
 |pub (d:D)|own (ds:yc)|deep (p:Pat) (d:D)
abbrev UU:=List (Option Sl)
abbrev yk:=Option UU
def DpOk(K:Frag)(B G H:Hp)(σ:St)(Z:UU):Prop:=∃ω:Ux->Nat,
 (∀(i:Nat) p d,Z[i]?=O (O (.deep p d))->∃v fp,σ[i]?=O (O v)/\RepO K G H p v d fp/\fp.Nodup/\∀a∈fp,B a=w9/\G a=w9/\ω a=i) /\
 (∀(i:Nat) ds a,Z[i]?=O (O (.own ds))->σ[i]?=O (O (.ref a))->ω a=i)
theorem DpOk.of{σ:St}{Z:UU}(h1:∀(i:Nat) p d,Z[i]?=O (O (.deep p d))->False)(h2:∀(i:Nat) ds,Z[i]?=O (O (.own ds))->False):DpOk K B G H σ Z:=
 ⟨λ_=>0,λi p d q=>(h1 i p d q).elim,λi ds a q=>(h2 i ds q).elim⟩
theorem DpOk.map{B1:Hp}{σ σ1:St}{Z Z1:UU}(k:DpOk K B G H σ Z)
  (h1:∀(i:Nat) p d,Z1[i]?=O (O (.deep p d))->Z[i]?=O (O (.deep p d))/\σ1[i]?=σ[i]?)
  (h2:∀(i:Nat) ds,Z1[i]?=O (O (.own ds))->∃es,Z[i]?=O (O (.own es))/\σ1[i]?=σ[i]?)
  (h3:∀(i:Nat) p d v fp,Z[i]?=O (O (.deep p d))->σ[i]?=O (O v)->RepO K G H p v d fp->(∀a∈fp,B a=w9/\G a=w9)->(∀(j:Nat) ds a,Z[j]?=O (O (.own ds))->σ[j]?=O (O (.ref a))->a∉fp)->RepO K G1 H1 p v d fp/\∀a∈fp,B1 a=w9/\G1 a=w9):DpOk K B1 G1 H1 σ1 Z1:=by
 obtain⟨ω,k1,k2⟩:=k;refine⟨ω,λi p d q=>?_,λi ds a q s=>?_⟩
 .obtain⟨q1,e1⟩:=h1 i p d q
  obtain⟨v,fp,s,r,n,w⟩:=k1 i p d q1;obtain⟨r1,w1⟩:=h3 i p d v fp q1 s r (λa m=>⟨(w a m).1,(w a m).2.1⟩) λj ds a qj sj m=>by have z1:=k2 j ds a qj sj;have z2:=(w a m).2.2;rw[z1]at z2;subst z2;rw[q1]at qj;cases qj
  exact⟨v,fp,by rw[e1];exact s,r1,n,λa m=>⟨(w1 a m).1,(w1 a m).2,(w a m).2.2⟩⟩
 .obtain⟨es,q1,e1⟩:=h2 i ds q
  rw[e1]at s;exact k2 i es a q1 s
structure EOk(K:Frag)(B G0 G H:Hp)(σ:St)(Z:UU):Prop where
 bh:Same B H
 gh:Same G H
 g0:Same G0 G
 np:∀a(u:MO),B a=O u.ho->G0 a=w9->G a=w9
 len:Z.length=σ.length
 pub:∀(i:Nat) d,Z[i]?=O (O (.pub d))->∃v,σ[i]?=O (O v)/\Rep K G v d
 own:∀(i:Nat) ds,Z[i]?=O (O (.own ds))->∃a vs,σ[i]?=O (O (.ref a))/\B a=w9/\G a=w9/\H a=O (.lst vs)/\Reps K G vs ds
 sep:∀(i j:Nat) a ds es,Z[i]?=O (O (.own ds))->Z[j]?=O (O (.own es))->σ[i]?=O (O (.ref a))->σ[j]?=O (O (.ref a))->i=j
 dp:DpOk K B G H σ Z
theorem EOk.ext{G' H':Hp}{σ:St}{Z:UU}(k:EOk K B G0 G H σ Z)(e:Ext G H G' H'):EOk K B G0 G' H' σ Z where
 bh:=k.bh.trans e.h
 gh:=e.gh
 g0:=k.g0.trans e.g
 np:=λa o q n=>e.np a o (k.bh a _ q) (k.np a o q n)
 len:=k.len
 pub:=λi d q=>let ⟨v,h1,h2⟩:=k.pub i d q;⟨v,h1,h2.mono e.g⟩
 own:=λi ds q=>let ⟨a,vs,h1,h2,h3,h4,h5⟩:=k.own i ds q;⟨a,vs,h1,h2,e.np a (.l _) h4 h3,e.h a _ h4,h5.mono e.g⟩
 sep:=k.sep
 dp:=k.dp.map (λ_ _ _ q=>⟨q,rfl⟩) (λ_ ds q=>⟨ds,q,rfl⟩) λi p d v fp q s r w n=>⟨r.mono e.g e.h,λa m=>let ⟨_,hl⟩:=r.isl a m;⟨(w a m).1,e.np a _ hl (w a m).2⟩⟩
theorem EOk.publish{σ:St}{Z:UU}{i:Nat}{ds:yc}(k:EOk K B G0 G H σ Z)(h:Z[i]?=O (O (.own ds))) :
  ∃a G',σ[i]?=O (O (.ref a))/\Same G G'/\Rep K G' (.ref a) (.list ds)/\EOk K B G0 G' H σ (Z.set i (O (.pub (.list ds)))):=by
 obtain⟨a,vs,h1,h2,h3,h4,h5⟩:=k.own i ds h;have sg:Same G (upd G a (.lst vs)):=ZJ h3;have hr:Rep K (upd G a (.lst vs)) (.ref a) (.list ds):=.lst (SqL.of Zd) (h5.mono sg);refine⟨a,upd G a (.lst vs),h1,sg,hr,⟨k.bh,λb u q=>?_,k.g0.trans sg,λb o q n=>?_,by rw[Jc];exact k.len,λj d q=>?_,λj es q=>?_,λj l c es fs q1 q2 s1 s2=>?_,?_⟩⟩
 .by_cases z:b=a
  .subst z;rw[Zd]at q;cases q;exact h4
  .rw[KF z]at q;exact k.gh b u q
 .have z:b≠a:=λz=>by subst z;rw[h2]at q;cases q
  rw[KF z];exact k.np b o q n
 .by_cases z:i=j
  .subst z
   have hl:i<Z.length:=(Qg.mp h).1;rw[QL hl]at q;cases q;exact⟨.ref a,h1,hr⟩
  .rw[Qr z]at q
   obtain⟨v,g1,g2⟩:=k.pub j d q;exact⟨v,g1,g2.mono sg⟩
 .by_cases z:i=j
  .subst z
   have hl:i<Z.length:=(Qg.mp h).1;rw[QL hl]at q;cases q
  .rw[Qr z]at q
   obtain⟨b,ws,g1,g2,g3,g4,g5⟩:=k.own j es q;have zb:b≠a:=λe=>z (k.sep i j a ds es h q h1 (by rw[←e];exact g1))
   exact⟨b,ws,g1,g2,by rw[KF zb];exact g3,g4,g5.mono sg⟩
 .have nz:∀{m:Nat}{ts:yc},(Z.set i (O (Sl.pub (.list ds))))[m]?=O (O (.own ts))->Z[m]?=O (O (.own ts)):=λ{m ts} q=>by
   by_cases z:i=m
   .subst z
    have hl:i<Z.length:=(Qg.mp h).1;rw[QL hl]at q;cases q
   .rw[Qr z]at q;exact q
  exact k.sep j l c es fs (nz q1) (nz q2) s1 s2
 .have hl:i<Z.length:=(Qg.mp h).1
  have nz:∀{m:Nat}{s:Sl},(Z.set i (O (Sl.pub (.list ds))))[m]?=O (O s)->(∃d,s=.pub d)∨Z[m]?=O (O s):=λ{m s} q=>by
   by_cases z:i=m
   .subst z
    rw[QL hl]at q;cases q;exact .inl ⟨_,rfl⟩
   .rw[Qr z]at q;exact .inr q
  refine k.dp.map (λm p d q=>?_) (λm es q=>?_) λm p d v fp q s r w n=>⟨r.mono sg (.refl _),λb mb=>⟨(w b mb).1,?_⟩⟩
  .rcases nz q with ⟨_,e⟩|q
   .cases e
   .exact⟨q,rfl⟩
  .rcases nz q with ⟨_,e⟩|q
   .cases e
   .exact⟨es,q,rfl⟩
  .rw[KF (λz=>by subst z;exact n i ds b h h1 mb)];exact(w b mb).2
inductive Res(α:Type) where
 |ok (a:α) (Z:UU)|bad
noncomputable abbrev M(α:Type):=UU->Res α
noncomputable def U1{α:Type}(a:α):M α:=λZ=>.ok a Z
noncomputable def Kk{α:Type}(o:Option α):M α:=λZ=>match o with|some a=>.ok a Z|none=>.bad
noncomputable def Ki{α β:Type}(f:M α)(k:α->M β):M β:=λZ=>match f Z with | .ok a Z'=>k a Z' | .bad=>.bad
section
variable(K:Frag)(B G0:Hp)
def aft{α γ:Type}(R:Hp->γ->α->Prop)(r:Res α)(G:Hp)(σ:St)(Q:γ->Hp->Prop):Prop:=
 match r with
 |.ok d Z'=>∀v G' H',EOk K B G0 G' H' σ Z'->Same G G'->R G' v d->Q v H'
 |.bad=>False
noncomputable def tM{α γ:Type}(R:Hp->γ->α->Prop)(f:M α):St->Hp->(γ->Hp->Prop)->Prop:=λσ H Q=>
 ∃G Z,EOk K B G0 G H σ Z/\aft K B G0 R (f Z) G σ Q
noncomputable abbrev tD(f:M D):TE:=tM K B G0 (Rep K) f
noncomputable abbrev tDs(f:M yc):TA:=tM K B G0 (Reps K) f
noncomputable abbrev tBo(f:M Bool):TT:=tM K B G0 (λ_ b c=>b=c) f
noncomputable abbrev tOi(f:M yi):TO:=tM K B G0 (λ_ b c=>b=c) f
end
section
variable{K:Frag}{B G0:Hp}{α β γ δ ε:Type}{R:Hp->γ->α->Prop}{S:Hp->δ->β->Prop}{T:Hp->ε->α->Prop}{σ:St}{H:Hp}
theorem aft.mono{r:Res α}{G G':Hp}{Q:γ->Hp->Prop}(e:Same G G')(h:aft K B G0 R r G σ Q):aft K B G0 R r G' σ Q:=by
 cases r with
 |ok d Z=>exact λv G2 H2 k s q=>h v G2 H2 k (e.trans s) q
 |bad=>exact h
theorem aft.done{d:α}{Z:UU}{G G' H H':Hp}{v:γ}{Q:γ->Hp->Prop}(h:aft K B G0 R (.ok d Z) G σ Q)(k:EOk K B G0 G H σ Z)(e:Ext G H G' H')(r:R G' v d):Q v H':=
 h v G' H' (k.ext e) e.g r
theorem aft.now{d:α}{Z:UU}{G H:Hp}{v:γ}{Q:γ->Hp->Prop}(h:aft K B G0 R (.ok d Z) G σ Q)(k:EOk K B G0 G H σ Z)(r:R G v d):Q v H:=
 h v G H k (.refl _) r
theorem aft.opt{o:Option α}{Z:UU}{G:Hp}{Q:γ->Hp->Prop}(h:aft K B G0 R (Kk o Z) G σ Q):∃d,o=O d/\aft K B G0 R (.ok d Z) G σ Q:=by
 cases o with
 |none=>exact h.elim
 |some d=>exact⟨d,rfl,h⟩
theorem tM.bind{f:M α}{k:α->M β}{Q:δ->Hp->Prop}(h:tM K B G0 S (Ki f k) σ H Q) :
  tM K B G0 R f σ H (λv H1=>∃G Z d,EOk K B G0 G H1 σ Z/\R G v d/\aft K B G0 S (k d Z) G σ Q):=by
 obtain⟨G,Z,e,a⟩:=h;refine⟨G,Z,e,?_⟩;unfold Ki at a;cases q:f Z with
 |bad=>rw[q]at a;exact a.elim
 |ok d Z1=>rw[q]at a;exact λv G' H' e' s r=>⟨G',Z1,d,e',r,aft.mono s a⟩
theorem tM.bind2{α' γ':Type}{R':Hp->γ'->α'->Prop}{f:M α}{g:α->M α'}{k:α->α'->M β}{Q:δ->Hp->Prop}(mo:∀G G' v d,Same G G'->R G v d->R G' v d)
  (h:tM K B G0 S (Ki f λx=>Ki (g x) λy=>k x y) σ H Q) :
  tM K B G0 R f σ H (λv H1=>∃x,tM K B G0 R' (g x) σ H1 λu H2=>∃G Z y,EOk K B G0 G H2 σ Z/\R G v x/\R' G u y/\aft K B G0 S (k x y Z) G σ Q):=by
 obtain⟨G,Z,e,a⟩:=tM.bind (R:=R) h;refine⟨G,Z,e,?_⟩;cases q:f Z with
 |bad=>rw[q]at a;exact a.elim
 |ok d Z1=>
  rw[q]at a;intro v G' H' e' s r;obtain⟨G2,Z2,d2,e2,r2,a2⟩:=a v G' H' e' s r;refine⟨d2,G2,Z2,e2,?_⟩;unfold Ki at a2;cases q2:g d2 Z2 with
  |bad=>rw[q2]at a2;exact a2.elim
  |ok d3 Z3=>rw[q2]at a2;exact λu G3 H3 e3 s3 r3=>⟨G3,Z3,d3,e3,mo _ _ _ _ s3 r2,r3,aft.mono s3 a2⟩
end
theorem Gi{K:Frag}(G G':Hp)(v:V)(d:D)(e:Same G G')(r:Rep K G v d):Rep K G' v d:=r.mono e
theorem tM.two{K:Frag}{B G0:Hp}{β δ:Type}{S:Hp->δ->β->Prop}{σ:St}{H:Hp}{f g:M D}{k:D->D->M β}{Q:δ->Hp->Prop}{P:V->V->Hp->Prop}
  (h:tM K B G0 S (Ki f λx=>Ki g λy=>k x y) σ H Q)
  (i:∀v u H2 G Z x y,EOk K B G0 G H2 σ Z->Rep K G v x->Rep K G u y->aft K B G0 S (k x y Z) G σ Q->P v u H2) :
  tD K B G0 f σ H (λv H1=>tD K B G0 g σ H1 λu H2=>P v u H2):=by
 obtain⟨G,Z,e,a⟩:=tM.bind2 (R:=Rep K) (R':=Rep K) Gi h;refine⟨G,Z,e,?_⟩;cases q:f Z with
 |bad=>rw[q]at a;exact a.elim
 |ok d Z1=>
  rw[q]at a;intro v G' H' e' s r;obtain⟨x,G2,Z2,e2,a2⟩:=a v G' H' e' s r;refine⟨G2,Z2,e2,?_⟩;cases q2:g Z2 with
  |bad=>rw[q2]at a2;exact a2.elim
  |ok d3 Z3=>rw[q2]at a2;intro u G3 H3 e3 s3 r3;obtain⟨G4,Z4,y,e4,r4,r5,a5⟩:=a2 u G3 H3 e3 s3 r3;exact i v u H3 G4 Z4 x y e4 r4 r5 a5
theorem tM.one{K:Frag}{B G0:Hp}{α β γ δ:Type}{R:Hp->γ->α->Prop}{S:Hp->δ->β->Prop}{σ:St}{H:Hp}{f:M α}{k:α->M β}{Q:δ->Hp->Prop}{P:γ->Hp->Prop}
  (h:tM K B G0 S (Ki f k) σ H Q) (i:∀v H2 G Z x,EOk K B G0 G H2 σ Z->R G v x->aft K B G0 S (k x Z) G σ Q->P v H2):tM K B G0 R f σ H P:=by
 obtain⟨G,Z,e,a⟩:=tM.bind (R:=R) h;refine⟨G,Z,e,?_⟩;cases q:f Z with
 |bad=>rw[q]at a;exact a.elim
 |ok d Z1=>rw[q]at a;intro v G' H' e' s r;obtain⟨G2,Z2,d2,e2,r2,a2⟩:=a v G' H' e' s r;exact i v H' G2 Z2 d2 e2 r2 a2
section
variable{X:Cx}{B G0:Hp}{e a b:Uz}{pos:Pos}
theorem Kt{t t':TE}(h:PE X e t)(i:∀σ H Q,t' σ H Q->t σ H Q):PE X e t':=λpins s σ H Q I q=>h pins s σ H Q I (i σ H Q q)
theorem Yh{t t':TT}(h:PT X e t)(i:∀σ H Q,t' σ H Q->t σ H Q):PT X e t':=λpins s σ H Q I q=>h pins s σ H Q I (i σ H Q q)
theorem paof{es:yg}{t t':TA}(h:PA X es t)(i:∀σ H Q,t' σ H Q->t σ H Q):PA X es t':=λps pins s σ H Q I q=>h ps pins s σ H Q I (i σ H Q q)
theorem poof{eo:Option Uz}{t t':TO}(h:PO X eo t)(i:∀σ H Q,t' σ H Q->t σ H Q):PO X eo t':=λpins s σ H Q I q=>h pins s σ H Q I (i σ H Q q)
theorem ZD{st:Stmt}{t t':TS}(h:PS X st t)(i:∀D σ H,t' D σ H->t D σ H):PS X st t':=λpins s σ H D I q=>h pins s σ H D I (i D σ H q)
theorem PM{st:List Stmt}{t t':TS}(h:PSs X st t)(i:∀D σ H,t' D σ H->t D σ H):PSs X st t':=λpins s σ H D I q=>h pins s σ H D I (i D σ H q)
noncomputable def UT(i:Nat):M D:=λZ=>match Z[i]? with
 |some (O (.pub d))=>.ok d Z
 |some (O (.own ds))=>.ok (.list ds) (Z.set i (O (.pub (.list ds))))
 |_=>.bad
theorem Ze{i:Nat}(h:PE X e (Za i)):PE X e (tD X.K B G0 (UT i)):=Kt h λσ H Q ⟨G,Z,k,a⟩=>by
 unfold UT at a;cases q:Z[i]? with
 |none=>rw[q]at a;exact a.elim
 |some o=>
  cases o with
  |none=>rw[q]at a;exact a.elim
  |some sl=>
   cases sl with
   |deep _ _=>rw[q]at a;exact a.elim
   |pub d=>rw[q]at a;obtain⟨v,h1,h2⟩:=k.pub i d q;exact⟨v,h1,a.now k h2⟩
   |own ds=>rw[q]at a;obtain⟨ad,G',h1,h2,h3,h4⟩:=k.publish q;exact⟨.ref ad,h1,a (.ref ad) G' H h4 h2 h3⟩
theorem P1{v:V}{d:D}(h:PE X e (tC v))(r:∀G,Rep X.K G v d):PE X e (tD X.K B G0 (U1 d)):=Kt h λσ H Q ⟨G,Z,k,a⟩=>a.now k (r G)
theorem Rm{i:Int}{j}:PE X (.Constant (.int i) j pos) (tD X.K B G0 (U1 (.int i))):=P1 P4 λ_=>.int i
theorem Gh{i:Bool}{j}:PE X (.Constant (.bool i) j pos) (tD X.K B G0 (U1 (.bool i))):=P1 Ch λ_=>.bl i
theorem AN{j}:PE X (.Constant .none j pos) (tD X.K B G0 (U1 .none)):=P1 Bb λ_=>.non
theorem Bq{x:Str}{j}:PE X (.Constant (.str x) j pos) (tD X.K B G0 (U1 (.str x))):=P1 Ba λ_=>.str x
noncomputable def UY{β:Type}(op:D->D->Option β)(f g:M D):M β:=Ki f λx=>Ki g λy=>Kk (op x y)
def OpD(X:Cx)(f:Uu->Uu->Sem Uu)(op:D->D->ye):Prop:=
 ∃r:R2,OpR X f r/\∀v u G H x y d Q,Same G H->Rep X.K G v x->Rep X.K G u y->op x y=O d->(∀w G' H',Ext G H G' H'->Rep X.K G' w d->Q w H')->r v u H Q
theorem V1{op:Operator}{p:D->D->ye}{f g:M D}(o:OpD X (binaryOp op) p)(ha:PE X a (tD X.K B G0 f))(hb:PE X b (tD X.K B G0 g)):PE X (.BinOp a op b pos) (tD X.K B G0 (UY p f g)):=by
 obtain⟨r,h,i⟩:=o;refine Kt (M0 h ha hb) λσ H Q q=>?_;refine tM.two q λv u H2 G Z x y k rx ry a=>?_
 obtain⟨d,e,a⟩:=a.opt;exact i v u G H2 x y d Q k.gh rx ry e λw G' H' ex rw=>a.done k ex rw
theorem OpD.or{f:Uu->Uu->Sem Uu}{p q:D->D->ye}(h:OpD X f p)(h':OpD X f q):OpD X f (λx y=>(p x y).orElse λ_=>q x y):=by
 obtain⟨r,h1,i1⟩:=h;obtain⟨r',h2,i2⟩:=h';refine⟨_,h1.or h2,λv u G H x y d Q s rx ry e k=>?_⟩;dsimp only at e;cases z:p x y with
 |some d'=>rw[z]at e;have e':d'=d:=Q5 e;subst e';exact .inl (i1 v u G H x y d' Q s rx ry z k)
 |none=>rw[z]at e;exact .inr (i2 v u G H x y d Q s rx ry e k)
noncomputable def oII(g:Int->Int->ye):D->D->ye
 |.int i,.int j=>g i j
 |_,_=>w9
theorem Gg{g:Int->Int->ye}{x y d:D}(e:oII g x y=O d):∃i j,x=.int i/\y=.int j/\g i j=O d:=by
 unfold oII at e;split at e
 .exact⟨_,_,rfl,rfl,e⟩
 .cases e
theorem OpD.int{f:Uu->Uu->Sem Uu}{C:Int->Int->Prop}{g:Int->Int->V}{p:Int->Int->ye}(h:OpR X f (rI C g))(i:∀i j d,p i j=O d->C i j/\∀G,Rep X.K G (g i j) d):OpD X f (oII p):=by refine⟨_,h,λv u G H x y d Q s rx ry e k=>?_⟩;obtain⟨a,b,rfl,rfl,e⟩:=Gg e;obtain⟨c,r⟩:=i a b d e;exact⟨a,b,rx.int_inv,ry.int_inv,c,k _ G H (.refl s) (r G)⟩
theorem OpD.int0{f:Uu->Uu->Sem Uu}{g:Int->Int->V}{p:Int->Int->D}(h:OpR X f (rI0 g))(i:∀i j G,Rep X.K G (g i j) (p i j)):OpD X f (oII λi j=>O (p i j)):=by refine⟨_,h,λv u G H x y d Q s rx ry e k=>?_⟩;obtain⟨a,b,rfl,rfl,e⟩:=Gg e;cases e;exact⟨a,b,rx.int_inv,ry.int_inv,k _ G H (.refl s) (i a b G)⟩
end
section
variable{X:Cx}{B G0:Hp}{e a b c:Uz}{pos:Pos}
theorem Bp:OpD X (binaryOp .Add) (oII λi j=>O (.int (i+j))):=.int0 CV λ_ _ _=>.int _
theorem Bo:OpD X (binaryOp .Sub) (oII λi j=>O (.int (i-j))):=.int0 CU λ_ _ _=>.int _
noncomputable def YB(i j:Int):ye:=if(-(2 ^ 64)<i/\i<2 ^ 64)∨(-(2 ^ 64)<j/\j<2 ^ 64)then O (.int (i*j))else w9
theorem AM:OpD X (binaryOp .Mult) (oII YB):=.int CT λi j d h=>by
 unfold YB at h;split at h
 .rename_i c
  cases h;exact⟨c,λ_=>.int _⟩
 .cases h
noncomputable def W5(i j:Int):ye:=if 0<j then O (.int (i % j))else w9
theorem Bm:OpD X (binaryOp .Mod) (oII W5):=.int CS λi j d h=>by
 unfold W5 at h;split at h
 .rename_i c
  cases h;exact⟨c,λ_=>.int _⟩
 .cases h
theorem jD:OpR X (binaryOp .FloorDiv) (rI (λi j=>0<j/\j<2 ^ 64) λi j=>.int (i / j)):=opI λi j _ _ _ _ _ hc q=>by
 have h1:(0:Int)<j:=hc.1;have h2:j<2 ^ 64:=hc.2;refine floordiv_int (by omega) (by rw[Int.fdiv_eq_ediv_of_nonneg i (by omega)];exact q) (.inl (PyProof.noPylong_of_log2 ?_));have h0:j.natAbs≠0:=by omega
 have:j.natAbs.log2<64:=(Nat.log2_lt h0).mpr (by omega);omega
noncomputable def W6(i j:Int):ye:=if 0<j/\j<2 ^ 64 then O (.int (i / j))else w9
theorem Bl:OpD X (binaryOp .FloorDiv) (oII W6):=.int jD λi j d h=>by
 unfold W6 at h;split at h
 .rename_i c
  cases h;exact⟨c,λ_=>.int _⟩
 .cases h
noncomputable def W4(i j:Int):ye:=if 0<=j/\j<=1000000/\i.natAbs<2 ^ 64 then O (.int (i ^ j.toNat))else w9
theorem Bk:OpD X (binaryOp .Pow) (oII W4):=.int CQ λi j d h=>by
 unfold W4 at h;split at h
 .rename_i c
  cases h;exact⟨c,λ_=>.int _⟩
 .cases h
theorem lim:(1000000:Nat)<=UA:=by decide
noncomputable def PL:D->D->ye
 |.str x,.str y=>if x.length+y.length<=1000000 then O (.str (x++y))else w9
 |_,_=>w9
theorem AL:OpD X (binaryOp .Add) PL:=by
 refine⟨_,vd,λv u G H x y d Q s rx ry e k=>?_⟩;unfold PL at e;split at e
 .split at e
  .rename_i c
   cases e;exact⟨_,_,rx.str_inv,ry.str_inv,QJ c lim,k _ G H (.refl s) (.str _)⟩
  .cases e
 .cases e
noncomputable def Dc(K:Frag):R2:=λx y H Q=>∃l b xs zs,x=.ref l/\y=.ref b/\SqL K H l xs/\SqL K H b zs/\xs.length+zs.length<=UA/\∀p,H p=w9->Q (.ref p) (upd H p (.lst (xs++zs)))
theorem AK:OpR X (binaryOp .Add) (Dc X.K):=by
 intro pins s σ H x y v u Q I rx ry h;obtain⟨l,b,xs,zs,rfl,rfl,hH,hB,hz,q⟩:=h;cases rx;cases ry;obtain⟨its,r,⟨⟨c1,d1,t1,s1⟩,n1,e1,aM,aL,aK⟩,z1⟩:=I.list hH;obtain⟨its2,r2,⟨⟨c2,d2,t2,s2⟩,n2,e2,ec2,ed2,et2⟩,z2⟩:=I.list hB;simp only at aM aL aK ec2 ed2 et2;subst aM aL aK ec2 ed2 et2;have hl:=r.length;have hl2:=r2.length;refine concat_meets ⟨_,e1,rfl⟩ ⟨_,e2,rfl⟩ noFill_list_add seq_list_add PySem.F.slot_list_add PySem.F.entry_list_add (PySem.F.args_list_add_2 _ _) (list_addW l b its.toArray its2.toArray n1 n2 w9 w9 s1 s2 (by rw[QX,QX];omega)) ⟨e1,e2,?_⟩;have ea:its.toArray++its2.toArray=(its++its2).toArray:=by simp
 rw[ea];exact⟨.ref _,_,I.lnew (t':=s.toks) (r.append r2) (by rw[Qk];omega),rfl,q _ I.fresh⟩
theorem Db(a:Int)(t:Tok)(l:Ux)(items:Array Uu)(n:Nat)(sl:Array yj) :
  Meets (Builtin.«int.__rmul__» ⟨[.int a t,.ref l],[]⟩) (λ_ R s=>s.heap.get? l=O {cls:=.type "list", dict:=w9,data:=.seq items n,slots:=sl}/\R (.ok (.ret Value.notImplemented)) s):=
 .of_wp λprog w A R s h=>by obtain⟨hp,g,d,tk,os⟩:=s;obtain⟨hl,h⟩:=h;wp_walk;exact⟨_,rfl,h⟩
theorem mulW(l:Ux)(items:Array Uu)(n:Nat)(x:Int)(u:Tok)(sl:Array yj)(hc0:¬(!Builtin.List.listFitsIndex x)=ya)(hc1:¬items.size*x.toNat > (2 ^ 63-1) / 8)(hc2:¬Builtin.List.listTooLong (items.size*x.toNat)=ya) :
  Meets (Builtin.«list.__mul__» ⟨[.ref l,.int x u],[]⟩) (λ_ R s=>s.heap.get? l=O {cls:=.type "list", dict:=w9,data:=.seq items n,slots:=sl}/\R (.ok (.ret (Value.ref s.heap.objs.size))) {s with heap:=s.heap.push {cls:=Value.type "list", data:=Data.seq (List.foldl (λx1 x2=>x1++x2) #[] (UF (if items.isEmpty=ya then 0 else x.toNat) items))},toks:=s.toks}):=
 .of_wp λprog w A R s h=>by
  obtain⟨hp,g,d,tk,os⟩:=s;obtain⟨hl,h⟩:=h;have hsz:=AutoListH.joined_fits hc2
  wp_walk;refine wpAny_ite_false (QU (Nat.not_lt.mpr hsz)) ?_;wp_walk;exact⟨_,rfl,h⟩
noncomputable def Da(K:Frag):R2:=λx y H Q=>∃l k xs,x=.ref l/\y=.int k/\SqL K H l xs /\ -(2 ^ 63)<=k/\k<2 ^ 63/\xs.length*k.toNat<=UA /\
 ∀p,H p=w9->Q (.ref p) (upd H p (.lst (UF k.toNat xs).flatten))
theorem Ge:OpR X (binaryOp .Mult) (Da X.K):=by
 intro pins s σ H x y v u Q I rx ry h;obtain⟨l,k,xs,rfl,rfl,hH,h1,h2,hz,q⟩:=h;cases rx;obtain⟨t,rfl⟩:=ry;obtain⟨its,r,⟨⟨c1,d1,t1,sl⟩,n,e,aM,aL,aK⟩,z⟩:=I.list hH;simp only at aM aL aK;subst aM aL aK;have hl:=r.length;have hlen:its.toArray.size*k.toNat<=UA:=by rw[QX,←hl];exact hz
 have hcap:¬its.toArray.size*k.toNat > (2 ^ 63-1) / 8:=by
  have:(UA:Nat)<=(2 ^ 63-1) / 8:=by decide
  omega
 have hfit:¬(!Builtin.List.listFitsIndex k)=ya:=by rw[fitsIndex_both h1 h2];exact JO
 have au:¬Builtin.List.listTooLong (its.toArray.size*k.toNat)=ya:=by rw[jI hlen];exact JO
 have hnew:List.foldl (λx1 x2=>x1++x2) #[] (UF (if its.toArray.isEmpty=ya then 0 else k.toNat) its.toArray)=(UF k.toNat its).flatten.toArray:=by
  have f0:∀m:Nat,List.foldl (λx1 x2=>x1++x2) #[] (UF m its.toArray)=(UF m its).flatten.toArray:=λm=>by have:=Ea its m [];rw[QY]at this;exact this
  rw[f0];cases its with
  |nil=>simp
  |cons a r'=>rw[if_neg (by simp)]
 refine wpAny_binaryOp_repeat_ref (T:= "list") (U:= "int") (by decide) ⟨_,e,rfl⟩ (λs'=>typeIs_int s' k t) noFill_list_mul F.fills_int_mul F.slot_int_rmul repeat_list F.slot_int_index.lookup
  (call_meets F.slot_int_rmul (typeIs_int s k t) F.entry_int_rmul (F.args_int_rmul_2 _ _) (Db k t l its.toArray n sl)
   ⟨e,rfl,⟨_,e,rfl⟩,call_meets F.slot_list_mul ⟨_,e,rfl⟩ F.entry_list_mul (F.args_list_mul_2 _ _) (mulW l its.toArray n k t sl hfit hcap au) ⟨e,?_⟩⟩)
 rw[hnew];exact⟨.ref _,_,I.lnew (t':=s.toks) (r.rep k.toNat) (by rw[AW,Nat.mul_comm];exact hz),rfl,q _ I.fresh⟩
noncomputable def PK:D->D->ye
 |.list x,.list y=>if x.length+y.length<=1000000 then O (.list (x++y))else w9
 |_,_=>w9
theorem AJ:OpD X (binaryOp .Add) PK:=by
 refine⟨_,AK,λv u G H x y d Q s rx ry e k=>?_⟩;unfold PK at e;split at e
 .split at e
  .rename_i c
   cases e;obtain⟨l,vs,rfl,h1,r1⟩:=rx.lst_inv;obtain⟨b,ws,rfl,h2,r2⟩:=ry.lst_inv;refine⟨l,b,vs,ws,rfl,rfl,s.seq h1,s.seq h2,by rw[r1.length,r2.length];exact QJ c lim,λp hp=>k _ _ _ (Ext.new s hp) ?_⟩;exact .lst (SqL.of Zd) ((r1.append r2).mono (ZJ (s.free hp)))
  .cases e
 .cases e
theorem Reps.rep{K:Frag}{G:Hp}{vs:List V}{ds:yc}(r:Reps K G vs ds):∀n:Nat,Reps K G (UF n vs).flatten (UF n ds).flatten
 |0=>.nil
 |n+1=>by rw[Jb,Jb,QS,QS];exact r.append (r.rep n)
noncomputable def PJ:D->D->ye
 |.list x,.int k=>if -1000000<=k/\k<=1000000/\x.length*k.toNat<=1000000 then O (.list (UF k.toNat x).flatten)else w9
 |_,_=>w9
theorem AI:OpD X (binaryOp .Mult) PJ:=by
 refine⟨_,Ge,λv u G H x y d Q s rx ry e k=>?_⟩;unfold PJ at e;split at e
 .split at e
  .rename_i c
   cases e;obtain⟨l,vs,rfl,h1,r1⟩:=rx.lst_inv;refine⟨l,_,vs,rfl,ry.int_inv,s.seq h1,by omega,by omega,by rw[r1.length];exact QJ c.2.2 lim,λp hp=>k _ _ _ (Ext.new s hp) ?_⟩;exact .lst (SqL.of Zd) ((r1.rep _).mono (ZJ (s.free hp)))
  .cases e
 .cases e
noncomputable def U9:D->D->ye
 |.int i,.int j=>O (.int (i+j))
 |.str x,.str y=>if x.length+y.length<=1000000 then O (.str (x++y))else w9
 |.list x,.list y=>if x.length+y.length<=1000000 then O (.list (x++y))else w9
 |_,_=>w9
noncomputable def KY:D->D->ye
 |.int i,.int j=>O (.int (i-j))
 |_,_=>w9
noncomputable def Kv:D->D->ye
 |.int i,.int j=>YB i j
 |.list x,.int k=>if -1000000<=k/\k<=1000000/\x.length*k.toNat<=1000000 then O (.list (UF k.toNat x).flatten)else w9
 |_,_=>w9
noncomputable def Yz:D->D->ye
 |.int i,.int j=>W5 i j
 |_,_=>w9
noncomputable def Wp:D->D->ye
 |.int i,.int j=>W6 i j
 |_,_=>w9
noncomputable def Wo:D->D->ye
 |.int i,.int j=>W4 i j
 |_,_=>w9
theorem OpD.congr{f:Uu->Uu->Sem Uu}{p q:D->D->ye}(h:OpD X f p)(e:∀x y,q x y=p x y):OpD X f q:=by
 have:q=p:=by funext x y;exact e x y
 rw[this];exact h
theorem M7:OpD X (binaryOp .Add) U9:=(Bp.or (AL.or AJ)).congr λx y=>by cases x<;>cases y<;>first|rfl|(simp only[U9,oII,PL,PK,Option.orElse];done)|(simp only[U9,oII,PL,PK,Option.orElse];split<;>rfl)
theorem M6:OpD X (binaryOp .Sub) KY:=Bo.congr λx y=>by cases x<;>cases y<;>rfl
theorem M5:OpD X (binaryOp .Mult) Kv:=(AM.or AI).congr λx y=>by cases x<;>cases y<;>first|rfl|(simp only[Kv,oII,PJ,Option.orElse];done)|(simp only[Kv,oII,PJ,Option.orElse];split<;>first|rfl|assumption)
theorem E9:OpD X (binaryOp .Mod) Yz:=Bm.congr λx y=>by cases x<;>cases y<;>rfl
theorem E8:OpD X (binaryOp .FloorDiv) Wp:=Bl.congr λx y=>by cases x<;>cases y<;>rfl
theorem E7:OpD X (binaryOp .Pow) Wo:=Bk.congr λx y=>by cases x<;>cases y<;>rfl
end
section
variable{X:Cx}{B G0:Hp}{e a b c:Uz}{pos:Pos}
def OpB(X:Cx)(f:Uu->Uu->Sem Uu)(op:D->D->ym):Prop:=
 ∃r:R2,OpR X f r/\∀v u G H x y d Q,Same G H->Rep X.K G v x->Rep X.K G u y->op x y=O d->Q (.bl d) H->r v u H Q
theorem OpB.or{f:Uu->Uu->Sem Uu}{p q:D->D->ym}(h:OpB X f p)(h':OpB X f q):OpB X f (λx y=>(p x y).orElse λ_=>q x y):=by
 obtain⟨r,h1,i1⟩:=h;obtain⟨r',h2,i2⟩:=h';refine⟨_,h1.or h2,λv u G H x y d Q s rx ry e k=>?_⟩;dsimp only at e;cases z:p x y with
 |some d'=>rw[z]at e;have e':d'=d:=Q5 e;subst e';exact .inl (i1 v u G H x y d' Q s rx ry z k)
 |none=>rw[z]at e;exact .inr (i2 v u G H x y d Q s rx ry e k)
theorem OpB.congr{f:Uu->Uu->Sem Uu}{p q:D->D->ym}(h:OpB X f p)(e:∀x y,q x y=p x y):OpB X f q:=by
 have:q=p:=by funext x y;exact e x y
 rw[this];exact h
theorem RB{op:CmpOp}{p:D->D->ym}{f g:M D}(o:OpB X (UD op) p)(ha:PE X a (tD X.K B G0 f))(hb:PE X b (tD X.K B G0 g))(hm:behindInMarks op b=yb) :
  PT X (.Compare a [op] [b] pos) (tBo X.K B G0 (UY p f g)):=by
 obtain⟨r,h,i⟩:=o;refine Yh (NE h ha hb hm) λσ H Q q=>?_;refine tM.two q λv u H2 G Z x y k rx ry a=>?_
 obtain⟨d,e,a⟩:=a.opt;exact i v u G H2 x y d _ k.gh rx ry e ⟨d,rfl,a.now k w8⟩
noncomputable def Kb{α β:Type}(h:α->β)(f:M α):M β:=Ki f λx=>U1 (h x)
theorem tM.map{K:Frag}{α β γ δ:Type}{R:Hp->γ->α->Prop}{S:Hp->δ->β->Prop}{σ:St}{H:Hp}{h:α->β}{f:M α}{Q:δ->Hp->Prop}(j:γ->δ)(q:tM K B G0 S (Kb h f) σ H Q)
  (i:∀G v x,R G v x->S G (j v) (h x)):tM K B G0 R f σ H (λv H'=>Q (j v) H'):=
 tM.one (R:=R) (f:=f) q λv H2 G Z x k r a=>aft.now (show aft K B G0 S (.ok (h x) Z) G σ Q from a) k (i G v x r)
theorem tBo.val{K:Frag}{σ:St}{H:Hp}{f:M Bool}{Q:VK}(q:tD K B G0 (Kb UH f) σ H Q):tBo K B G0 f σ H (λb H'=>Q (.bl b) H'):=
 tM.map (R:=λ_ b c=>b=c) V.bl q λG v x e=>by rw[e];exact .bl x
theorem Gd{op:CmpOp}{p:D->D->ym}{f g:M D}(o:OpB X (UD op) p)(ha:PE X a (tD X.K B G0 f))(hb:PE X b (tD X.K B G0 g))(hm:behindInMarks op b=yb) :
  PE X (.Compare a [op] [b] pos) (tD X.K B G0 (Kb UH (UY p f g))):=by
 obtain⟨r,h,i⟩:=o;refine Kt (HV h ha hb hm) λσ H Q q=>?_;refine tM.two (tBo.val q) λv u H2 G Z x y k rx ry a=>?_
 obtain⟨d,e,a⟩:=a.opt;exact i v u G H2 x y d _ k.gh rx ry e (a.now k w8)
noncomputable def Tv(p q:D->D->ym)(f g h:M D):M Bool:=Ki f λx=>Ki g λy=>Ki (Kk (p x y)) λt=>if t=ya then Ki h λz=>Kk (q y z)else U1 yb
theorem xL{op op':CmpOp}{p q:D->D->ym}{f g h:M D}(o:OpB X (UD op) p)(o':OpB X (UD op') q)(ha:PE X a (tD X.K B G0 f))(hb:PE X b (tD X.K B G0 g))(hc:PE X c (tD X.K B G0 h))
  (hm:lastMarks [op,op'] [b,c]=yb:=by with_unfolding_all rfl):PT X (.Compare a [op,op'] [b,c] pos) (tBo X.K B G0 (Tv p q f g h)):=by
 obtain⟨r,h1,i⟩:=o;obtain⟨r',h2,i'⟩:=o';refine Yh (jL h1 h2 ha hb hc hm) λσ H Q w=>?_;refine tM.two w λv u H2 G Z x y k rx ry a=>?_
 cases z:p x y with
 |none=>rw[z]at a;exact a.elim
 |some t=>
  rw[z]at a;refine i v u G H2 x y t _ k.gh rx ry z ⟨t,rfl,?_⟩;cases t with
  |false=>rw[QB JO];exact⟨yb,rfl,aft.now a k w8⟩
  |true=>
   rw[Qo w8];refine⟨G,Z,k,?_⟩;have a4:aft X.K B G0 (λ_ (b:Bool) c=>b=c) ((Ki h λz=>Kk (q y z)) Z) G σ Q:=a;unfold Ki at a4;cases z2:h Z with
   |bad=>rw[z2]at a4;exact a4.elim
   |ok d Z1=>rw[z2]at a4;intro w G5 H5 k5 s5 r5;obtain⟨t2,e2,a6⟩:=a4.opt;exact i' u w G5 H5 y d t2 _ k5.gh (ry.mono s5) r5 e2 ⟨t2,rfl,a6 t2 G5 H5 k5 s5 w8⟩
theorem xK{op op':CmpOp}{p q:D->D->ym}{f g h:M D}(o:OpB X (UD op) p)(o':OpB X (UD op') q)(ha:PE X a (tD X.K B G0 f))(hb:PE X b (tD X.K B G0 g))(hc:PE X c (tD X.K B G0 h))
  (hm:lastMarks [op,op'] [b,c]=yb:=by with_unfolding_all rfl):PE X (.Compare a [op,op'] [b,c] pos) (tD X.K B G0 (Kb UH (Tv p q f g h))):=by
 obtain⟨r,h1,i⟩:=o;obtain⟨r',h2,i'⟩:=o';refine Kt (jM h1 h2 ha hb hc hm) λσ H Q w=>?_;refine tM.two (tBo.val w) λv u H2 G Z x y k rx ry a=>?_
 cases z:p x y with
 |none=>rw[z]at a;exact a.elim
 |some t=>
  rw[z]at a;refine i v u G H2 x y t _ k.gh rx ry z ⟨t,rfl,?_⟩;cases t with
  |false=>rw[QB JO];exact aft.now (v:=yb) a k w8
  |true=>
   rw[Qo w8];refine⟨G,Z,k,?_⟩;have a4:aft X.K B G0 (λ_ (b:Bool) c=>b=c) ((Ki h λz=>Kk (q y z)) Z) G σ (λb H'=>Q (.bl b) H'):=a;unfold Ki at a4;cases z2:h Z with
   |bad=>rw[z2]at a4;exact a4.elim
   |ok d Z1=>rw[z2]at a4;intro w G5 H5 k5 s5 r5;obtain⟨t2,e2,a6⟩:=a4.opt;exact i' u w G5 H5 y d t2 _ k5.gh (ry.mono s5) r5 e2 (a6 t2 G5 H5 k5 s5 w8)
noncomputable def oIB(g:Int->Int->Bool):D->D->ym
 |.int i,.int j=>O (g i j)
 |_,_=>w9
theorem OpB.int{f:Uu->Uu->Sem Uu}{g:Int->Int->Bool}(h:OpR X f (rI0 λi j=>.bl (g i j))):OpB X f (oIB g):=by
 refine⟨_,h,λv u G H x y d Q s rx ry e k=>?_⟩;unfold oIB at e;split at e
 .cases e
  exact⟨_,_,rx.int_inv,ry.int_inv,k⟩
 .cases e
theorem B_lt:OpB X (UD .Lt) (oIB λi j=>decide (i<j)):=.int Dr
theorem B_le:OpB X (UD .LtE) (oIB λi j=>decide (i<=j)):=.int Dq
theorem B_gt:OpB X (UD .Gt) (oIB λi j=>decide (j<i)):=.int Dp
theorem B_ge:OpB X (UD .GtE) (oIB λi j=>decide (j<=i)):=.int Do
mutual
theorem Xh{pins:List (Ux×Obj)}{s:Uv}{σ:St}{G H:Hp}(I:Inv X pins σ H s)(sg:Same G H):∀{v:V}{d:D}{u:Uu},Rep X.K G v d->RelV v u->d.canLay0=ya->∃as,Reads s.heap u d as
 |_,_,_,.non,r,_=>by cases r;exact⟨_,.none⟩
 |_,_,_,.bl b,r,_=>by cases r;exact⟨_,.bool b⟩
 |_,_,_,.int i,r,_=>by obtain⟨t,rfl⟩:=r;exact⟨_,.int i t⟩
 |_,_,_,.str x,r,_=>by obtain⟨t,rfl⟩:=r;exact⟨_,.str x t⟩
 |_,_,_,.lst h q,r,c=>by cases r;obtain⟨its,rv,⟨o,n,e,hc,_,hd⟩,hz⟩:=I.list (sg.seq h);obtain⟨as,ra⟩:=readsAll_of I sg q rv (show UK _=ya by simpa[PyData.canLay0]using c);exact⟨_,.list e hc hd (by simpa using ra)⟩
 |_,_,_,.tup h q,r,c=>by cases r;obtain⟨its,rv,p,hz⟩:=I.tuple (Xf sg h);obtain⟨o,e,hc,n,hd⟩:=p;obtain⟨as,ra⟩:=readsAll_of I sg q rv (show UK _=ya by simpa[PyData.canLay0]using c);exact⟨_,.tuple e hc hd (by simpa using ra)⟩
 |_,_,_,.dic h,r,c=>by simp[PyData.canLay0]at c
 |_,_,_,.exc _ _ _ _,r,c=>by simp[PyData.canLay0]at c
 |_,_,_,.dct _ _ _ _ _,r,c=>by simp[PyData.canLay0]at c
 |_,_,_,.dtt _ _ _ _,r,c=>by simp[PyData.canLay0]at c
theorem readsAll_of{pins:List (Ux×Obj)}{s:Uv}{σ:St}{G H:Hp}(I:Inv X pins σ H s)(sg:Same G H):∀{vs:List V}{ds:yc}{us:yf},Reps X.K G vs ds->Vals vs us->UK ds=ya->∃as,ReadsAll s.heap us ds as
 |_,_,_,.nil,r,_=>by cases r;exact⟨_,.nil⟩
 |_,_,_,.cons h t,r,c=>by
  cases r with
  |cons r1 r2=>have c':=c;rw[UK,QR]at c';obtain⟨as,ra⟩:=Xh I sg h r1 c'.1;obtain⟨bs,rb⟩:=readsAll_of I sg t r2 c'.2;exact⟨_,.cons ra rb⟩
end
noncomputable def oEq(x y:D):ym:=if x.canLay0=ya/\y.canLay0=ya/\x.depth<=60 then O (UM x y)else w9
noncomputable def oNe(x y:D):ym:=if x.canLay0=ya/\y.canLay0=ya/\x.depth<=60 then O (!UM x y)else w9
theorem Wz(hu:X.A.units+64<cLine):OpB X (UD .Eq) oEq:=by
 refine⟨λv u H Q=>∃G x y d,Same G H/\Rep X.K G v x/\Rep X.K G u y/\oEq x y=O d/\Q (.bl d) H,?_,λv u G H x y d Q s rx ry e k=>⟨G,x,y,d,s,rx,ry,e,k⟩⟩;intro pins s σ H x y v u Q I rx ry ⟨G,dx,dy,d,sg,px,py,e,q⟩;unfold oEq at e;split at e
 .rename_i c
  cases e;obtain⟨as,ra⟩:=Xh I sg px rx c.1;obtain⟨bs,rb⟩:=Xh I sg py ry c.2.1;exact SeqAt.compareEq_reads ra rb c.1 c.2.1 (by have:=c.2.2;omega) ⟨.bl _,H,I,rfl,q⟩
 .cases e
theorem SY(hu:X.A.units+64<cLine):OpB X (UD .NotEq) oNe:=by
 refine⟨λv u H Q=>∃G x y d,Same G H/\Rep X.K G v x/\Rep X.K G u y/\oNe x y=O d/\Q (.bl d) H,?_,λv u G H x y d Q s rx ry e k=>⟨G,x,y,d,s,rx,ry,e,k⟩⟩;intro pins s σ H x y v u Q I rx ry ⟨G,dx,dy,d,sg,px,py,e,q⟩;unfold oNe at e;split at e
 .rename_i c
  cases e;obtain⟨as,ra⟩:=Xh I sg px rx c.1;obtain⟨bs,rb⟩:=Xh I sg py ry c.2.1;exact SeqAt.compareNe_reads ra rb c.1 c.2.1 (by have:=c.2.2;omega) ⟨.bl _,H,I,rfl,q⟩
 .cases e
noncomputable def isNon:D->Bool
 |.none=>ya
 |_=>yb
theorem Rep.isNon{K:Frag}{G:Hp}{v:V}{d:D}(r:Rep K G v d):DL.isNon d=decide (v=.non):=by cases r<;>simp[DL.isNon]
end
section
variable{X:Cx}{B G0:Hp}{e a b c:Uz}{pos:Pos}{es rest:yg}
theorem tM.nx{K:Frag}{α β γ δ:Type}{R:Hp->γ->α->Prop}{S:Hp->δ->β->Prop}{σ:St}{G H:Hp}{Z:UU}{f:M α}{g:α->M β}{Q:δ->Hp->Prop}{P:γ->Hp->Prop}
  (k:EOk K B G0 G H σ Z) (a:aft K B G0 S (Ki f g Z) G σ Q) (i:∀v H' G' Z' x,EOk K B G0 G' H' σ Z'->Same G G'->R G' v x->aft K B G0 S (g x Z') G' σ Q->P v H'):tM K B G0 R f σ H P:=by
 refine⟨G,Z,k,?_⟩;unfold Ki at a;cases q:f Z with
 |bad=>rw[q]at a;exact a.elim
 |ok d Z1=>rw[q]at a;exact λv G' H' e s r=>i v H' G' Z1 d e s r (aft.mono s a)
noncomputable def Zr(f g:M Bool):M Bool:=Ki f λt=>if t=ya then g else U1 yb
noncomputable def mOr(f g:M Bool):M Bool:=Ki f λt=>if t=ya then U1 ya else g
noncomputable def K6(f:M Bool):M Bool:=Kb (λt=>!t) f
theorem AH{K:Frag}{f g:M Bool}{σ:St}{H:Hp}{Q:Bool->Hp->Prop}(q:tBo K B G0 (Zr f g) σ H Q):tAnd (tBo K B G0 f) (tBo K B G0 g) σ H Q:=
 tM.one (R:=λ_ b c=>b=c) q λv H2 G Z x k r a=>by
  have r:v=x:=r;subst r;cases v with
  |true=>exact⟨G,Z,k,a⟩
  |false=>exact aft.now (v:=yb) a k w8
theorem Bj{K:Frag}{f g:M Bool}{σ:St}{H:Hp}{Q:Bool->Hp->Prop}(q:tBo K B G0 (mOr f g) σ H Q):tOr (tBo K B G0 f) (tBo K B G0 g) σ H Q:=
 tM.one (R:=λ_ b c=>b=c) q λv H2 G Z x k r a=>by
  have r:v=x:=r;subst r;cases v with
  |false=>exact⟨G,Z,k,a⟩
  |true=>exact aft.now (v:=ya) a k w8
theorem pwof{t t':TT}(h:PW X e t)(i:∀σ H Q,t' σ H Q->t σ H Q):PW X e t':=λwh pins s σ H Q I q=>h wh pins s σ H Q I (i σ H Q q)
theorem jC{f:M Bool}(ha:PT X a (tBo X.K B G0 f)):PW X (.BoolOp .And [a] pos) (tBo X.K B G0 f):=AB ha
theorem AG{f:M Bool}(ha:PT X a (tBo X.K B G0 f)):PW X (.BoolOp .Or [a] pos) (tBo X.K B G0 f):=C7 ha
theorem qe{f g:M Bool}(ha:PT X a (tBo X.K B G0 f))(hb:PW X (.BoolOp .And (b::rest) pos) (tBo X.K B G0 g)):PW X (.BoolOp .And (a::b::rest) pos) (tBo X.K B G0 (Zr f g)):=pwof (C6 ha hb) λ_ _ _ q=>AH q
theorem Bh{f g:M Bool}(ha:PT X a (tBo X.K B G0 f))(hb:PW X (.BoolOp .Or (b::rest) pos) (tBo X.K B G0 g)):PW X (.BoolOp .Or (a::b::rest) pos) (tBo X.K B G0 (mOr f g)):=pwof (Cf ha hb) λ_ _ _ q=>Bj q
theorem qd{f:M Bool}(ha:PT X a (tBo X.K B G0 f)):PT X (.UnaryOp .Not a pos) (tBo X.K B G0 (K6 f)):=Yh (C5 ha) λσ H Q q=>tM.map (R:=λ_ b c=>b=c) (λt=>!t) q λ_ v x e=>by rw[e]
noncomputable def Yt(f:M D):M Bool:=Ki f λx=>match x with | .bool t=>U1 t|_=>λ_=>.bad
theorem qc{f:M D}(h:PE X e (tD X.K B G0 f))(he:∀whole,isTrue e X.env whole=(do let v ←whole;standAt e.pos;holding [v] (truthy v)):=by intro _;rfl):PT X e (tBo X.K B G0 (Yt f)):=
 Yh (C8 h he) λσ H Q q=>tM.one (R:=Rep X.K) q λv H2 G Z x k r a=>by
  cases x with
  |bool t=>exact⟨t,r.bl_inv,aft.now (v:=t) a k w8⟩
  |_=>exact a.elim
noncomputable def Tk(f g:M D):M D:=Ki f λx=>match x with | .bool ya=>g | .bool yb=>U1 (.bool yb)|_=>λ_=>.bad
noncomputable def Wq(f g:M D):M D:=Ki f λx=>match x with | .bool ya=>U1 (.bool ya) | .bool yb=>g|_=>λ_=>.bad
noncomputable def PH(f:M D):M D:=Ki f λx=>match x with | .bool t=>U1 (.bool (!t))|_=>λ_=>.bad
theorem qb{f g:M D}(ha:PE X a (tD X.K B G0 f))(hb:PE X (.BoolOp .And (b::rest) pos) (tD X.K B G0 g)):PE X (.BoolOp .And (a::b::rest) pos) (tD X.K B G0 (Tk f g)):=
 Kt (C3 ha hb) λσ H Q q=>tM.one (R:=Rep X.K) q λv H2 G Z x k r a=>by
  cases x with
  |bool t=>
   refine⟨t,r.bl_inv,?_⟩;cases t with
   |true=>exact⟨G,Z,k,a⟩
   |false=>exact aft.now a k (.bl yb)
  |_=>exact a.elim
theorem Bg{f g:M D}(ha:PE X a (tD X.K B G0 f))(hb:PE X (.BoolOp .Or (b::rest) pos) (tD X.K B G0 g)):PE X (.BoolOp .Or (a::b::rest) pos) (tD X.K B G0 (Wq f g)):=
 Kt (CL ha hb) λσ H Q q=>tM.one (R:=Rep X.K) q λv H2 G Z x k r a=>by
  cases x with
  |bool t=>
   refine⟨t,r.bl_inv,?_⟩;cases t with
   |false=>exact⟨G,Z,k,a⟩
   |true=>exact aft.now a k (.bl ya)
  |_=>exact a.elim
theorem qa{op}{f:M D}(h:PE X a (tD X.K B G0 f)):PE X (.BoolOp op [a] pos) (tD X.K B G0 f):=C4 h
theorem A9{f:M D}(ha:PE X a (tD X.K B G0 f)):PE X (.UnaryOp .Not a pos) (tD X.K B G0 (PH f)):=
 Kt (C2 ha) λσ H Q q=>tM.one (R:=Rep X.K) q λv H2 G Z x k r a=>by
  cases x with
  |bool t=>exact⟨t,r.bl_inv,aft.now a k (.bl _)⟩
  |_=>exact a.elim
noncomputable def mIf{α:Type}(f:M Bool)(g h:M α):M α:=Ki f λt=>if t=ya then g else h
theorem xJ{f:M Bool}{g h:M D}(hc:PT X c (tBo X.K B G0 f))(ha:PE X a (tD X.K B G0 g))(hb:PE X b (tD X.K B G0 h)):PE X (.IfExp c a b pos) (tD X.K B G0 (mIf f g h)):=
 Kt (jP hc ha hb) λσ H Q q=>tM.one (R:=λ_ b c=>b=c) q λv H2 G Z x k r a=>by
  have r:v=x:=r;subst r;cases v with
  |true=>exact⟨G,Z,k,a⟩
  |false=>exact⟨G,Z,k,a⟩
theorem Gc{f:M D}{j p2}(ha:PE X a (tD X.K B G0 f)):PT X (.Compare a [.Is] [.Constant .none j p2] pos) (tBo X.K B G0 (Kb isNon f)):=
 Yh (P3 (LD ha)) λσ H Q q=>tM.one (R:=Rep X.K) q λv H2 G Z x k r a=>⟨_,rfl,aft.now a k (by rw[r.isNon])⟩
theorem GB{f:M D}{j p2}(ha:PE X a (tD X.K B G0 f)):PT X (.Compare a [.IsNot] [.Constant .none j p2] pos) (tBo X.K B G0 (Kb (λd=>!isNon d) f)):=
 Yh (P3 (AC ha)) λσ H Q q=>tM.one (R:=Rep X.K) q λv H2 G Z x k r a=>⟨_,rfl,aft.now a k (by dsimp only;rw[r.isNon])⟩
theorem A8{f:M D}{j p2}(ha:PE X a (tD X.K B G0 f)):PE X (.Compare a [.Is] [.Constant .none j p2] pos) (tD X.K B G0 (Kb (λd=>.bool (isNon d)) f)):=
 Kt (C9 (LD ha)) λσ H Q q=>tM.one (R:=Rep X.K) q λv H2 G Z x k r a=>aft.now a k (by dsimp only;rw[r.isNon];exact .bl _)
noncomputable def UV:M yc:=U1 []
noncomputable def UX(f:M D)(g:M yc):M yc:=Ki f λx=>Ki g λxs=>U1 (x::xs)
theorem Yu:PA X [] (tDs X.K B G0 UV):=paof V7 λσ H Q ⟨G,Z,k,a⟩=>aft.now a k .nil
theorem tM.twoA{K:Frag}{σ:St}{H:Hp}{f:M D}{g:M yc}{β δ:Type}{S:Hp->δ->β->Prop}{k:D->yc->M β}{Q:δ->Hp->Prop}{P:V->List V->Hp->Prop}
  (h:tM K B G0 S (Ki f λx=>Ki g λy=>k x y) σ H Q)
  (i:∀v u H2 G Z x y,EOk K B G0 G H2 σ Z->Rep K G v x->Reps K G u y->aft K B G0 S (k x y Z) G σ Q->P v u H2) :
  tD K B G0 f σ H (λv H1=>tDs K B G0 g σ H1 λu H2=>P v u H2):=by
 obtain⟨G,Z,e,a⟩:=tM.bind2 (R:=Rep K) (R':=Reps K) Gi h;refine⟨G,Z,e,?_⟩;cases q:f Z with
 |bad=>rw[q]at a;exact a.elim
 |ok d Z1=>
  rw[q]at a;intro v G' H' e' s r;obtain⟨x,G2,Z2,e2,a2⟩:=a v G' H' e' s r;refine⟨G2,Z2,e2,?_⟩;cases q2:g Z2 with
  |bad=>rw[q2]at a2;exact a2.elim
  |ok d3 Z3=>rw[q2]at a2;intro u G3 H3 e3 s3 r3;obtain⟨G4,Z4,y,e4,r4,r5,a5⟩:=a2 u G3 H3 e3 s3 r3;exact i v u H3 G4 Z4 x y e4 r4 r5 a5
theorem ZY{f:M D}{g:M yc}(ha:PE X e (tD X.K B G0 f))(hr:PA X es (tDs X.K B G0 g))(hs:UC (e::es) X.env=(yb,eval e X.env)::UC es X.env:=by rfl) :
  PA X (e::es) (tDs X.K B G0 (UX f g)):=paof (WQ ha hr hs) λσ H Q q=>tM.twoA q λv u H2 G Z x y k r1 r2 a=>aft.now a k (.cons r1 r2)
noncomputable def KM(f:M yc):M D:=Ki f λxs=>if xs.length<=1000000 then U1 (.tuple xs)else λ_=>.bad
noncomputable def Kw(f:M yc):M D:=Ki f λxs=>if xs.length<=1000000 then U1 (.list xs)else λ_=>.bad
theorem Ox{x1}{f:M yc}(h:PA X es (tDs X.K B G0 f)):PE X (.Tuple es x1 pos) (tD X.K B G0 (KM f)):=
 Kt (Bx h) λσ H Q q=>tM.one (R:=Reps X.K) q λv H2 G Z x k r a=>by
  split at a
  .rename_i c
   refine⟨by rw[r.length];exact QJ c lim,λp hp=>?_⟩;exact aft.done a k (Ext.new k.gh hp) (.tup (SqT.of Zd) (r.mono (ZJ (k.gh.free hp))))
  .exact a.elim
theorem RA{f:M yc}(h:PA X es (tDs X.K B G0 f)):PE X (.List es pos) (tD X.K B G0 (Kw f)):=
 Kt (Nn h) λσ H Q q=>tM.one (R:=Reps X.K) q λv H2 G Z x k r a=>by
  split at a
  .rename_i c
   refine⟨by rw[r.length];exact QJ c lim,λp hp=>?_⟩;exact aft.done a k (Ext.new k.gh hp) (.lst (SqL.of Zd) (r.mono (ZJ (k.gh.free hp))))
  .exact a.elim
noncomputable def oIx:D->D->ye
 |.list xs,.int i=>atI xs i
 |.tuple xs,.int i=>atI xs i
 |.str z,.int i=>if z.length<=1000000 then(atI z.cps.toList i).map λc=>.str ⟨#[c]⟩else w9
 |_,_=>w9
theorem Reps.atI{K:Frag}{G:Hp}{vs:List V}{ds:yc}{i:Int}{d:D}(r:Reps K G vs ds)(h:L2.atI ds i=O d):∃v,L2.atI vs i=O v/\Rep K G v d:=by
 unfold L2.atI at h⊢;rw[r.length];cases z:ixN ds.length i with
 |none=>rw[z]at h;cases h
 |some j=>rw[z]at h;exact r.get (i:=j) h
theorem Ly{K:Frag}{v u:V}{G H:Hp}{x y d:D}{Q:VK}(s:Same G H)(rx:Rep K G v x)(ry:Rep K G u y)(e:oIx x y=O d)(k:∀w,Rep K G w d->Q w H):rIx K v u H Q:=by
 unfold oIx at e;split at e
 .obtain⟨l,vs,rfl,h1,r1⟩:=rx.lst_inv
  obtain⟨w,e1,r2⟩:=r1.atI e;exact .inl ⟨l,vs,_,w,rfl,ry.int_inv,s.seq h1,e1,k w r2⟩
 .obtain⟨l,vs,rfl,h1,r1⟩:=rx.tup_inv
  obtain⟨w,e1,r2⟩:=r1.atI e;exact .inr (.inl ⟨l,vs,_,w,rfl,ry.int_inv,Xf s h1,e1,k w r2⟩)
 .split at e
  .rename_i z i hz
   cases q:L2.atI z.cps.toList i with
   |none=>rw[q]at e;cases e
   |some ch=>rw[q]at e;cases e;exact .inr (.inr ⟨z,i,ch,rx.str_inv,ry.int_inv,QJ hz lim,q,k _ (.str _)⟩)
  .cases e
 .cases e
theorem Lx{f g:M D}(ha:PE X a (tD X.K B G0 f))(hb:PE X b (tD X.K B G0 g))(hs:Oy b):PE X (.Subscript a b pos) (tD X.K B G0 (UY oIx f g)):=
 Kt (O8 Nl ha hb hs) λσ H Q q=>tM.two q λv u H2 G Z x y k rx ry a=>by obtain⟨d,e,a⟩:=a.opt;exact Ly k.gh rx ry e λw r=>a.now k r
noncomputable def U6(i:Nat)(g:M D):M D:=λZ=>match Z[i]? with
 |some (O (.pub d))=>(Ki g λy=>Kk (oIx d y)) Z
 |some (O (.own _))=>(Ki g λy=>λZ'=>match Z'[i]? with|some (O (.own ds))=>Kk (oIx (.list ds) y) Z'|_=>.bad) Z
 |_=>.bad
theorem WH{i:Nat}{g:M D}(ha:PE X a (Za i))(hb:PE X b (tD X.K B G0 g))(hs:Oy b):PE X (.Subscript a b pos) (tD X.K B G0 (U6 i g)):=
 Kt (O8 Nl ha hb hs) λσ H Q ⟨G,Z,k,a⟩=>by
  unfold U6 at a;cases q:Z[i]? with
  |none=>rw[q]at a;exact a.elim
  |some o=>
   cases o with
   |none=>rw[q]at a;exact a.elim
   |some sl=>
    cases sl with
    |deep _ _=>rw[q]at a;exact a.elim
    |pub d=>
     rw[q]at a;obtain⟨v,h1,h2⟩:=k.pub i d q;refine⟨v,h1,G,Z,k,?_⟩;dsimp only[Ki]at a;cases z:g Z with
     |bad=>rw[z]at a;exact a.elim
     |ok y Z1=>rw[z]at a;intro u G' H' k' s' r';obtain⟨d',e',a'⟩:=aft.opt a;exact Ly k'.gh (h2.mono s') r' e' λw r=>a' w G' H' k' s' r
    |own ds=>
     rw[q]at a;obtain⟨ad,vs,h1,h2,h3,h4,h5⟩:=k.own i ds q;refine⟨.ref ad,h1,G,Z,k,?_⟩;dsimp only[Ki]at a;cases z:g Z with
     |bad=>rw[z]at a;exact a.elim
     |ok y Z1=>
      rw[z]at a;dsimp only at a;intro u G' H' k' s' r';cases z2:Z1[i]? with
      |none=>rw[z2]at a;exact a.elim
      |some o2=>
       cases o2 with
       |none=>rw[z2]at a;exact a.elim
       |some sl2=>
        cases sl2 with
        |deep _ _=>rw[z2]at a;exact a.elim
        |pub d2=>rw[z2]at a;exact a.elim
        |own es2=>
         rw[z2]at a;obtain⟨d',e',a'⟩:=aft.opt a;obtain⟨ad',vs',g1,g2,g3,g4,g5⟩:=k'.own i es2 z2;rw[h1]at g1;cases g1;unfold oIx at e';cases y with
         |int j=>obtain⟨w,e1,r2⟩:=g5.atI e';exact .inl ⟨ad,vs',j,w,rfl,r'.int_inv,SqL.of g4,e1,a' w G' H' k' s' r2⟩
         |_=>cases e'
noncomputable def cutD(xs:yc)(lo hi:yi):yc:=(xs.drop (HT.sIx xs.length 0 lo)).take (HT.sIx xs.length xs.length hi-HT.sIx xs.length 0 lo)
theorem Reps.cut{K:Frag}{G:Hp}{vs:List V}{ds:yc}(r:Reps K G vs ds)(lo hi:yi):Reps K G (XZ vs lo hi) (cutD ds lo hi):=by unfold XZ cutD;rw[r.length];exact(r.drop _).take _
noncomputable def YS:D->Option yi
 |.int i=>O (O i)
 |_=>w9
theorem jB:PO X w9 (tOi X.K B G0 (U1 w9)):=poof A2 λσ H Q ⟨G,Z,k,a⟩=>aft.now a k w8
theorem jA{f:M D}(h:PE X e (tD X.K B G0 f)):PO X (O e) (tOi X.K B G0 (Ki f λx=>Kk (YS x))):=poof (A1 h) λσ H Q q=>tM.one (R:=Rep X.K) q λv H2 G Z x k r a=>by
 cases x with
 |int i=>exact⟨i,r.int_inv,aft.now (v:=O i) a k w8⟩
 |_=>exact a.elim
end
noncomputable def W7:List (D×D)->Bool
 |(.none,_)::_=>ya
 |_=>yb
noncomputable def XS:D->String
 |.none=> "NoneType"
 |.bool _=> "bool"
 |.int _=> "int"
 |.str _=> "str"
 |.list _=> "list"
 |.tuple _=> "tuple"
 |.dict kvs=>if W7 kvs=ya then "" else "dict"
noncomputable def Zh(d:D)(c:String):Bool:=XS d==c || (XS d == "bool" && c == "int")
noncomputable def RV:D->Bool
 |.dict kvs=>W7 kvs
 |_=>yb
theorem Lw{ks:yl}{ds:yc}:XS (.dict ((ks.map kD).zip ds)) = "dict" /\ RV (.dict ((ks.map kD).zip ds))=yb:=by
 cases ks with
 |nil=>exact⟨rfl,rfl⟩
 |cons k ks=>
  cases ds with
  |nil=>exact⟨rfl,rfl⟩
  |cons d ds=>cases k<;>exact⟨rfl,rfl⟩
theorem A7(K:Frag)(d:D)(c:String)(nx:RV d=yb)(hc:c = "int" ∨ c = "bool" ∨ c = "str" ∨ c = "list" ∨ c = "tuple" ∨ c = "dict"):PySem.W.kitOne K (.type (XS d)) (.type c)=O (Zh d c):=by
 cases d with
 |dict kvs=>
  have e:XS (.dict kvs) = "dict" :=by
   have nx:W7 kvs=yb:=nx
   show(if W7 kvs=ya then "" else "dict")=_
   rw[nx];rfl
  unfold Zh;rw[e];rcases hc with rfl|rfl|rfl|rfl|rfl|rfl<;>rfl
 |_=>rcases hc with rfl|rfl|rfl|rfl|rfl|rfl<;>rfl
section
variable{X:Cx}{B G0:Hp}{e a b c:Uz}{pos:Pos}{es rest:yg}
def Xa(X:Cx)(f:Uu)(p:yc->ye):Prop:=
 ∃r,YZ X f r/\∀vs G H ds d Q,Same G H->Reps X.K G vs ds->p ds=O d->(∀w G' H',Ext G H G' H'->Rep X.K G' w d->Q w H')->r vs H Q
noncomputable def Zo(p:yc->ye)(f:M yc):M D:=Ki f λxs=>Kk (p xs)
theorem Wi{x:Str}{p2:Pos}{id:String}{p:yc->ye}{f:M yc}(hc:Xa X (.builtin id) p)(hg:Gl X x)(hm:X.mg x=w9)(hv:bootBuiltins x=O (.builtin id))(ha:PA X (e::es) (tDs X.K B G0 f))(hn:x ≠ "__name__" :=by decide)(hdb:(x==("__debug__" : Str))=yb:=by decide)
  (he:UC (e::es) X.env=(yb,eval e X.env)::UC es X.env:=by rfl) (hpl:(backTo pos (UC es X.env)).any (·.1)=yb:=by rfl):PE X (.Call (.Name x p2) (e::es) [] pos) (tD X.K B G0 (Zo p f)):=by
 obtain⟨r,h,i⟩:=hc;refine Kt (OE h hg hm hv ha hn hdb he hpl) λσ H Q q=>tM.one (R:=Reps X.K) q λv H2 G Z x k rr a=>?_
 obtain⟨d,e,a⟩:=a.opt;exact i v G H2 x d Q k.gh rr e λw G' H' ex rw=>a.done k ex rw
theorem vb{x:Str}{p2:Pos}{T:String}{p:yc->ye}{f:M yc}(hc:Xa X (.type T) p)(hg:Gl X x)(hm:X.mg x=w9)(hv:bootBuiltins x=O (.type T))(ha:PA X (e::es) (tDs X.K B G0 f))(hn:x ≠ "__name__" :=by decide)(hdb:(x==("__debug__" : Str))=yb:=by decide)
  (he:UC (e::es) X.env=(yb,eval e X.env)::UC es X.env:=by rfl) (hpl:(backTo pos (UC es X.env)).any (·.1)=yb:=by rfl):PE X (.Call (.Name x p2) (e::es) [] pos) (tD X.K B G0 (Zo p f)):=by
 obtain⟨r,h,i⟩:=hc;refine Kt (My h hg hm hv ha hn hdb he hpl) λσ H Q q=>tM.one (R:=Reps X.K) q λv H2 G Z x k rr a=>?_
 obtain⟨d,e,a⟩:=a.opt;exact i v G H2 x d Q k.gh rr e λw G' H' ex rw=>a.done k ex rw
theorem Reps.nil_inv{K:Frag}{G:Hp}{vs:List V}(r:Reps K G vs []):vs=[]:=by cases r;rfl
theorem Reps.one_inv{K:Frag}{G:Hp}{vs:List V}{d:D}(r:Reps K G vs [d]):∃v,vs=[v]/\Rep K G v d:=by
 cases r with
 |cons h t=>cases t;exact⟨_,rfl,h⟩
theorem Reps.two_inv{K:Frag}{G:Hp}{vs:List V}{d d':D}(r:Reps K G vs [d,d']):∃v v',vs=[v,v']/\Rep K G v d/\Rep K G v' d':=by
 cases r with
 |cons h t=>obtain⟨v',rfl,r'⟩:=t.one_inv;exact⟨_,v',rfl,h,r'⟩
noncomputable def Kn:yc->ye
 |[.list xs]=>O (.int xs.length)
 |[.tuple xs]=>O (.int xs.length)
 |[.str z]=>if z.length<=1000000 then O (.int z.length)else w9
 |_=>w9
theorem PF:Xa X (.builtin "len") Kn:=by
 refine⟨_,GC,λvs G H ds d Q s r e k=>?_⟩;unfold Kn at e;split at e
 .cases e
  obtain⟨v,rfl,q⟩:=r.one_inv;obtain⟨l,ws,rfl,h1,r1⟩:=q.lst_inv;exact⟨.ref l,ws.length,rfl,.inl ⟨ws,s.seq h1,rfl⟩,by rw[r1.length];exact k _ G H (.refl s) (.int _)⟩
 .cases e
  obtain⟨v,rfl,q⟩:=r.one_inv;obtain⟨l,ws,rfl,h1,r1⟩:=q.tup_inv;exact⟨.ref l,ws.length,rfl,.inr ⟨ws,Xf s h1,rfl⟩,by rw[r1.length];exact k _ G H (.refl s) (.int _)⟩
 .split at e
  .rename_i z hz
   cases e;obtain⟨v,rfl,q⟩:=r.one_inv;exact⟨.str z,z.length,by rw[q.str_inv],⟨QJ hz lim,rfl⟩,k _ G H (.refl s) (.int _)⟩
  .cases e
 .cases e
noncomputable def RU:yc->ye
 |[.int i,.int j]=>O (.int (if j > i then j else i))
 |_=>w9
theorem Bf(hc:X.calm=ya):Xa X (.builtin "max") RU:=by
 refine⟨_,xr hc,λvs G H ds d Q s r e k=>?_⟩;unfold RU at e;split at e
 .cases e
  obtain⟨v,v',rfl,r1,r2⟩:=r.two_inv;exact⟨_,_,by rw[r1.int_inv,r2.int_inv],k _ G H (.refl s) (.int _)⟩
 .cases e
noncomputable def Zu(i:Nat):M D:=λZ=>match Z[i]? with
 |some (O (.pub d))=>Kk (Kn [d]) Z
 |some (O (.own ds))=>.ok (.int ds.length) Z
 |_=>.bad
theorem GA{i:Nat}{p2:Pos}(hg:Gl X "len")(hm:X.mg "len" = w9)(ha:PE X e (Za i))(he:UC [e] X.env=[(yb,eval e X.env)]:=by rfl):PE X (.Call (.Name "len" p2) [e] [] pos) (tD X.K B G0 (Zu i)):=by
 refine Kt (OE GC hg hm PySem.boot_len (WQ ha V7 (by rw[he];rfl)) (by decide) (by decide) (by rw[he];rfl) w8) λσ H Q ⟨G,Z,k,a⟩=>?_
 unfold Zu at a;cases q:Z[i]? with
 |none=>rw[q]at a;exact a.elim
 |some o=>
  cases o with
  |none=>rw[q]at a;exact a.elim
  |some sl=>
   cases sl with
   |deep _ _=>rw[q]at a;exact a.elim
   |pub d=>
    rw[q]at a;obtain⟨v,h1,h2⟩:=k.pub i d q;refine⟨v,h1,?_⟩;obtain⟨d',e',a'⟩:=aft.opt a;obtain⟨r,hr,ir⟩:=@PF X;show ∃x n,[v]=[x]/\LenV X.K x H n/\Q (.int n) H;unfold Kn at e';split at e'
    .rename_i xs he'
     injection he' with aC zm;subst aC;cases e'
     obtain⟨l,ws,rfl,g1,r1⟩:=h2.lst_inv;exact⟨.ref l,ws.length,rfl,.inl ⟨ws,k.gh.seq g1,rfl⟩,by rw[r1.length];exact a'.now k (.int _)⟩
    .rename_i xs he'
     injection he' with aC zm;subst aC;cases e'
     obtain⟨l,ws,rfl,g1,r1⟩:=h2.tup_inv;exact⟨.ref l,ws.length,rfl,.inr ⟨ws,Xf k.gh g1,rfl⟩,by rw[r1.length];exact a'.now k (.int _)⟩
    .rename_i z he'
     injection he' with aC zm;subst aC
     split at e'
     .rename_i hz
      cases e';exact⟨.str z,z.length,by rw[h2.str_inv],⟨QJ hz lim,rfl⟩,a'.now k (.int _)⟩
     .cases e'
    .cases e'
   |own ds=>rw[q]at a;obtain⟨ad,vs,h1,g2,g3,h4,h5⟩:=k.own i ds q;exact⟨.ref ad,h1,.ref ad,vs.length,rfl,.inl ⟨vs,SqL.of h4,rfl⟩,by rw[h5.length];exact aft.now a k (.int _)⟩
theorem A6{pins:List (Ux×Obj)}{s:Uv}{σ:St}{G H:Hp}{v:V}{u:Uu}{d:D}{cv:Uu}{t:Bool}{A:Around}{E:Uu->Uv->Prop}{Q:Uu->Uv->Prop}(I:Inv X pins σ H s)(sg:Same G H)(r:Rep X.K G v d)(rv:RelV v u)(nx:RV d=yb)
  (ek:PySem.W.kitOne X.K (.type (XS d)) cv=O t) (h:∀tk,Q (.bool t) {s with toks:=tk}):UB (model X.prog X.w) A (call (.builtin "isinstance") [u,cv]) Q E s:=by
 cases r with
 |non=>cases rv;exact JF PySem.W.kitx_none I.kIn True.intro ek (λz=>nomatch z) h
 |bl y=>cases rv;exact JF PySem.W.kitx_bool I.kIn True.intro ek (λz=>nomatch z) h
 |int i=>obtain⟨t',rfl⟩:=rv;exact JF PySem.W.kitx_int I.kIn True.intro ek (λz=>nomatch z) h
 |str y=>obtain⟨t',rfl⟩:=rv;exact JF PySem.W.kitx_str I.kIn True.intro ek (λz=>nomatch z) h
 |lst hl _=>cases rv;obtain⟨its,r,⟨o,n,e,hc,_,hd⟩,hz⟩:=I.list (sg.seq hl);exact JF PySem.W.kitx_list I.kIn ⟨o,e,hc⟩ ek (λz=>nomatch z) h
 |tup hl _=>cases rv;obtain⟨its,r,p,hz⟩:=I.tuple (Xf sg hl);obtain⟨o,e,hc,_⟩:=p;exact JF PySem.W.kitx_tuple I.kIn ⟨o,e,hc⟩ ek (λz=>nomatch z) h
 |@dic ad hd=>
  cases rv;obtain⟨_,_,vs,_,p⟩:=(show ZW X.prog X.w H s.heap ad (.dK [])from I.hok ad _ (sg _ _ hd))
  obtain⟨o,es,ep,h1,h2,_⟩:=p;exact JF PySem.W.kitx_dict I.kIn ⟨o,h1,h2.1⟩ ek (λz=>nomatch z) h
 |exc _ _ _ _=>cases nx
 |@dct ad ks vs ds kvs e0 _ _ hd _=>
  cases rv;subst e0;rw[Lw.1]at ek;obtain⟨_,_,vs,_,p⟩:=(show ZW X.prog X.w H s.heap ad (.dK (ks.zip _))from I.hok ad _ (sg _ _ hd))
  obtain⟨o,es,ep,h1,h2,_⟩:=p;exact JF PySem.W.kitx_dict I.kIn ⟨o,h1,h2.1⟩ ek (λz=>nomatch z) h
 |@dtt ad ob ks vs ds kvs e0 _ hd _=>
  cases rv;subst e0;obtain⟨_,_,_,xs,_,o,es,ep,h1,h2,_⟩:=(show ZW X.prog X.w H s.heap ad (.frz ob (.dT (ks.zip _)))from I.hok ad _ (sg _ _ hd))
  exact JF PySem.W.kitx_dict I.kIn ⟨o,h1,h2.1⟩ ek (λz=>nomatch z) h
theorem A5(c:String)(hc:c = "int" ∨ c = "bool" ∨ c = "str" ∨ c = "list" ∨ c = "tuple" ∨ c = "dict"):typeOf (.type c)=pure (.type "type"):=by rcases hc with rfl|rfl|rfl|rfl|rfl|rfl<;>kernel_rfl
theorem jz:YZ X (.builtin "isinstance") (λxs H Q=>∃v c G d,xs=[v,.ty c]/\Same G H/\Rep X.K G v d/\(c = "int" ∨ c = "bool" ∨ c = "str" ∨ c = "list" ∨ c = "tuple" ∨ c = "dict")/\Q (.bl (Zh d c)) H):=by
 intro pins s σ H xs us Q I r h;obtain⟨v,c,G,d,rfl,sg,rp,hc,q⟩:=h;obtain⟨u,w',rfl,r1,r2⟩:=O9 r;cases (show w'=Value.type c from r2);by_cases nx:RV d=ya
 .cases rp with
  |@exc a C dd bm nm vs ds ck hx hd rr=>
   refine jE (Dd I.ok.mod.kin) pins s σ H [.ref a,.ty c] [u,.type c] Q I r ⟨a,C,dd,bm,yb,.ty c,yb,rfl,⟨nm,ck⟩,sg _ _ hx,.inr ⟨c,rfl,A5 c hc,?_⟩,?_⟩
   .rw[ck.ty];rcases hc with rfl|rfl|rfl|rfl|rfl|rfl<;>rfl
   .have e:Zh (.dict [(.none,.tuple [.str nm,.list ds])]) c=yb:=by rcases hc with rfl|rfl|rfl|rfl|rfl|rfl<;>rfl
    rw[e]at q;exact q
  |dct e _ _ _ _=>subst e;rw[Lw.2]at nx;cases nx
  |dtt e _ _ _=>subst e;cases nx
  |_=>cases nx
 .have nx:RV d=yb:=by simpa using nx
  exact A6 I sg rp r1 nx (A7 X.K d c nx hc) λtk=>⟨.bl _,H,I.tok tk,rfl,q⟩
theorem wZ:bootBuiltins "isinstance" = O (.builtin "isinstance"):=by decide +kernel
theorem Pq{f:M D}{p2 p3:Pos}{c:String}(hc:c = "int" ∨ c = "bool" ∨ c = "str" ∨ c = "list" ∨ c = "tuple" ∨ c = "dict")(hg:Gl X "isinstance")(hm:X.mg "isinstance" = w9)(hg2:Gl X (UO c))(hm2:X.mg (UO c)=w9)
  (hv2:bootBuiltins (UO c)=O (.type c)) (ha:PE X e (tD X.K B G0 f)) (hn2:(UO c) ≠ "__name__") (hd2:((UO c)==("__debug__" : Str))=yb)
  (hs:UC [e,.Name (UO c) p3] X.env=(yb,eval e X.env)::UC [.Name (UO c) p3] X.env:=by rfl)
  (hs2:UC [.Name (UO c) p3] X.env=[(yb,eval (.Name (UO c) p3) X.env)]:=by rfl) :
  PE X (.Call (.Name "isinstance" p2) [e,.Name (UO c) p3] [] pos) (tD X.K B G0 (Kb (λd=>.bool (Zh d c)) f)):=by
 refine Kt (OE jz hg hm wZ (WQ ha (WQ (AD (v:=.ty c) hg2 hm2 hv2 w8 hn2 hd2) V7 (by rw[hs2];rfl)) hs) (by decide) (by decide) hs (by rw[hs2];rfl)) λσ H Q q=>?_
 refine tM.one (R:=Rep X.K) q λv H2 G Z x k r a=>?_
 exact⟨v,c,G,x,rfl,k.gh,r,hc,aft.now a k (.bl _)⟩
end
noncomputable def spD(K:Frag)(n:Nat)(F:yc->ye):Sp:=λvs H Q _=>∃G ds d,vs.length=n/\Same G H/\Reps K G vs ds/\F ds=O d/\∀v G' H',Ext G H G' H'->Rep K G' v d->Q v H'
section
variable{K:Frag}{B G0 G H:Hp}{σ:St}{Z:UU}
theorem EOk.exit(k:EOk K B G0 G H σ Z):Ext G0 B G H:=⟨k.bh,k.g0,k.gh,k.np⟩
theorem Yr{α:Type}{l:List α}{i:Nat}{x y:α}(h:(l.set i x)[i]?=O y):y=x:=by
 by_cases hl:i<l.length
 .rw[QL hl]at h;cases h;rfl
 .rw[Q9 (by rw[Jc];omega)]at h;cases h
theorem DpOk.setOther{i:Nat}{x:Option V}{y:Option Sl}(k:DpOk K B G H σ Z)(hy:∀s,y=O s->∃d,s=.pub d):DpOk K B G H (σ.set i x) (Z.set i y):=by
 have nz:∀{m:Nat}{s:Sl},(Z.set i y)[m]?=O (O s)->(∃d,s=.pub d)∨(Z[m]?=O (O s)/\(σ.set i x)[m]?=σ[m]?):=λ{m s} q=>by
  by_cases z:i=m
  .subst z
   exact .inl (hy s (Yr q).symm)
  .rw[Qr z]at q⊢;exact .inr ⟨q,rfl⟩
 refine k.map (λm p d q=>?_) (λm es q=>?_) λm p d v fp q s r w n=>⟨r,w⟩
 .rcases nz q with ⟨_,e⟩|q
  .cases e
  .exact q
 .rcases nz q with ⟨_,e⟩|q
  .cases e
  .exact⟨es,q⟩
theorem EOk.setPub{i:Nat}{v:V}{d:D}(k:EOk K B G0 G H σ Z)(r:Rep K G v d)(hi:i<Z.length):EOk K B G0 G H (σ.set i (O v)) (Z.set i (O (.pub d))) where
 bh:=k.bh
 gh:=k.gh
 g0:=k.g0
 np:=k.np
 len:=by rw[Jc,Jc];exact k.len
 pub:=λj d' q=>by
  by_cases z:i=j
  .subst z
   have:=Yr q;cases this;exact⟨v,QL (by rw[←k.len];exact hi),r⟩
  .rw[Qr z]at q⊢
   exact k.pub j d' q
 own:=λj ds q=>by
  by_cases z:i=j
  .subst z
   have:=Yr q;cases this
  .rw[Qr z]at q⊢
   exact k.own j ds q
 sep:=λj l c es fs q1 q2 s1 s2=>by
  have z1:i≠j:=λz=>by subst z;have:=Yr q1;cases this
  have z2:i≠l:=λz=>by subst z;have:=Yr q2;cases this
  rw[Qr z1]at q1 s1;rw[Qr z2]at q2 s2;exact k.sep j l c es fs q1 q2 s1 s2
 dp:=k.dp.setOther (λs e=>by cases e;exact⟨_,rfl⟩)
structure NewL(K:Frag)(B G H:Hp)(σ:St)(Z:UU)(a:Ux)(vs:List V)(ds:yc):Prop where
 b:B a=w9
 g:G a=w9
 h:H a=O (.lst vs)
 r:Reps K G vs ds
 f:∀(j:Nat) es,Z[j]?=O (O (.own es))->σ[j]?≠O (O (.ref a))
 dp:∀(j:Nat) p d v fp,Z[j]?=O (O (.deep p d))->σ[j]?=O (O v)->RepO K G H p v d fp->a∉fp
theorem EOk.freshD{H':Hp}{a:Ux}(k:EOk K B G0 G H σ Z)(e:Same H H')(ha:H a=w9){G':Hp}{j:Nat}{p:Pat}{d:D}{v:V}{fp:yh}(q:Z[j]?=O (O (.deep p d)))(s:σ[j]?=O (O v))(r:RepO K G' H' p v d fp):a∉fp:=λm=>by obtain⟨ω,k1,k2⟩:=k.dp;obtain⟨v',fp',s',r',n,w⟩:=k1 j p d q;rw[s]at s';cases s';have u:=r'.uniq e r;subst u;obtain⟨ws,hl⟩:=r'.isl a m;rw[ha]at hl;cases hl
theorem EOk.setOwn{i:Nat}{a:Ux}{vs:List V}{ds:yc}(k:EOk K B G0 G H σ Z)(n:NewL K B G H σ Z a vs ds)(hi:i<Z.length):EOk K B G0 G H (σ.set i (O (.ref a))) (Z.set i (O (.own ds))) where
 bh:=k.bh
 gh:=k.gh
 g0:=k.g0
 np:=k.np
 len:=by rw[Jc,Jc];exact k.len
 pub:=λj d' q=>by
  by_cases z:i=j
  .subst z
   have:=Yr q;cases this
  .rw[Qr z]at q⊢
   exact k.pub j d' q
 own:=λj es q=>by
  by_cases z:i=j
  .subst z
   have:=Yr q;cases this;exact⟨a,vs,QL (by rw[←k.len];exact hi),n.b,n.g,n.h,n.r⟩
  .rw[Qr z]at q⊢
   exact k.own j es q
 sep:=λj l c es fs q1 q2 s1 s2=>by
  have hs:i<σ.length:=by rw[←k.len];exact hi
  by_cases z1:i=j
  .subst z1
   rw[QL hs]at s1;cases s1;by_cases z2:i=l
   .exact z2
   .rw[Qr z2]at q2 s2
    exact absurd s2 (n.f l fs q2)
  .by_cases z2:i=l
   .subst z2
    rw[QL hs]at s2;cases s2;rw[Qr z1]at q1 s1;exact absurd s1 (n.f j es q1)
   .rw[Qr z1]at q1 s1
    rw[Qr z2]at q2 s2;exact k.sep j l c es fs q1 q2 s1 s2
 dp:=by
  obtain⟨ω,k1,k2⟩:=k.dp;have hs:i<σ.length:=by rw[←k.len];exact hi
  refine⟨λb=>if b=a then i else ω b,λj p d q=>?_,λj es b q s=>?_⟩
  .by_cases z:i=j
   .subst z;have:=Yr q;cases this
   .rw[Qr z]at q⊢
    obtain⟨v,fp,s,r,nn,w⟩:=k1 j p d q;refine⟨v,fp,s,r,nn,λb m=>⟨(w b m).1,(w b m).2.1,?_⟩⟩;dsimp only;rw[QB (λz=>n.dp j p d v fp q s r (by rw[←z];exact m))];exact(w b m).2.2
  .by_cases z:i=j
   .subst z
    rw[QL hs]at s;cases s;dsimp only;rw[Qo w8]
   .rw[Qr z]at q s
    dsimp only;rw[QB (λe=>n.f j es q (by rw[←e];exact s))];exact k2 j es b q s
theorem EOk.change{i:Nat}{a:Ux}{vs:List V}{ds es:yc}(k:EOk K B G0 G H σ Z)(q:Z[i]?=O (O (.own ds)))(ha:σ[i]?=O (O (.ref a)))(r:Reps K G vs es) :
  EOk K B G0 G (upd H a (.lst vs)) σ (Z.set i (O (.own es))):=by
 obtain⟨a',ws,h1,h2,h3,h4,h5⟩:=k.own i ds q;rw[ha]at h1;cases h1;have hi:i<Z.length:=(Qg.mp q).1;refine⟨λb o e=>?_,λb o e=>?_,k.g0,k.np,by rw[Jc];exact k.len,λj d' e=>?_,λj fs e=>?_,λj l c fs gs q1 q2 s1 s2=>?_,?_⟩
 .rw[KF (Yx e h2)];exact k.bh b o e
 .rw[KF (Yx e h3)];exact k.gh b o e
 .by_cases z:i=j
  .subst z
   have:=Yr e;cases this
  .rw[Qr z]at e
   exact k.pub j d' e
 .by_cases z:i=j
  .subst z
   have:=Yr e;cases this;exact⟨a,vs,ha,h2,h3,Zd,r⟩
  .rw[Qr z]at e
   obtain⟨c,us,g1,g2,g3,g4,g5⟩:=k.own j fs e;have zc:c≠a:=λw=>z (k.sep i j a ds fs q e ha (by rw[←w];exact g1))
   exact⟨c,us,g1,g2,g3,by rw[KF zc];exact g4,g5⟩
 .have f:∀{m:Nat}{ts:yc},(Z.set i (O (Sl.own es)))[m]?=O (O (.own ts))->∃ts',Z[m]?=O (O (.own ts')):=λ{m ts} e=>by
   by_cases z:i=m
   .subst z;exact⟨ds,q⟩
   .rw[Qr z]at e;exact⟨ts,e⟩
  obtain⟨f1,w1⟩:=f q1;obtain⟨f2,w2⟩:=f q2;exact k.sep j l c f1 f2 w1 w2 s1 s2
 .refine k.dp.map (λj p d e=>?_) (λj fs e=>?_) λj p d v fp qj s rj w n=>⟨rj.upd (λ_ z=>by rw[h4]at z;cases z) (n i ds a q ha),w⟩
  .by_cases z:i=j
   .subst z;have:=Yr e;cases this
   .rw[Qr z]at e;exact⟨e,rfl⟩
  .by_cases z:i=j
   .subst z;exact⟨ds,q,rfl⟩
   .rw[Qr z]at e;exact⟨fs,e,rfl⟩
end
inductive Out where
 |nx (Z:UU)|rt (d:D)|bk (Z:UU)|ct (Z:UU)|ex (Z:UU) (d:D)|ro (ds:yc)|bad
abbrev SM:=UU->Out
section
variable(K:Frag)(B G0:Hp)(KX:XW)
def aftS(o:Out)(G1:Hp)(Dn:Ends):Prop:=
 match o with
 |.nx Z=>∀σ G H,EOk K B G0 G H σ Z->Same G1 G->Dn.nx σ H
 |.bk Z=>∀σ G H,EOk K B G0 G H σ Z->Same G1 G->Dn.bk σ H
 |.ct Z=>∀σ G H,EOk K B G0 G H σ Z->Same G1 G->Dn.ct σ H
 |.rt d=>∀v G H,Ext G0 B G H->Rep K G v d->Dn.rt v H
 |.ro ds=>∀a vs G H,Ext G0 B G H->B a=w9->G a=w9->H a=O (.lst vs)->Reps K G vs ds->Dn.rt (.ref a) H
 |.ex Z d=>∀v σ G H,EOk K B G0 G H σ Z->Same G1 G->Rep K G v d->KX v σ H
 |.bad=>False
noncomputable def tS(g:SM):TS:=λDn σ H=>∃G Z,EOk K B G0 G H σ Z/\aftS K B G0 KX (g Z) G Dn
noncomputable def sB{α:Type}(f:M α)(g:α->SM):SM:=λZ=>match f Z with | .ok a Z'=>g a Z' | .bad=>.bad
end
section
variable{X:Cx}{B G0:Hp}{KX:XW}{e a b c:Uz}{pos:Pos}{es rest:yg}{st:Stmt}{sts sts2:List Stmt}
theorem aftS.mono{K:Frag}{o:Out}{G G':Hp}{Dn:Ends}(e:Same G G')(h:aftS K B G0 KX o G Dn):aftS K B G0 KX o G' Dn:=by
 cases o with
 |nx Z=>exact λσ G2 H2 k s=>h σ G2 H2 k (e.trans s)
 |bk Z=>exact λσ G2 H2 k s=>h σ G2 H2 k (e.trans s)
 |ct Z=>exact λσ G2 H2 k s=>h σ G2 H2 k (e.trans s)
 |rt d=>exact h
 |ro ds=>exact h
 |ex Z d=>exact λv σ G2 H2 k s r=>h v σ G2 H2 k (e.trans s) r
 |bad=>exact h
theorem tS.bnd{K:Frag}{α γ:Type}{R:Hp->γ->α->Prop}{f:M α}{g:α->SM}{Dn:Ends}{σ:St}{H:Hp}{P:γ->Hp->Prop}(q:tS K B G0 KX (sB f g) Dn σ H)
  (i:∀v H' G' Z' x,EOk K B G0 G' H' σ Z'->R G' v x->aftS K B G0 KX (g x Z') G' Dn->P v H'):tM K B G0 R f σ H P:=by
 obtain⟨G,Z,k,a⟩:=q;refine⟨G,Z,k,?_⟩;unfold sB at a;cases z:f Z with
 |bad=>rw[z]at a;exact a.elim
 |ok d Z1=>rw[z]at a;exact λv G' H' e s r=>i v H' G' Z1 d e r (aftS.mono s a)
noncomputable def sNx:SM:=λZ=>.nx Z
noncomputable def UZ(g h:SM):SM:=λZ=>match g Z with | .nx Z'=>h Z'|o=>o
theorem Rl:PSs X [] (tS X.K B G0 KX sNx):=PM AA λD σ H ⟨G,Z,k,a⟩=>a σ G H k (.refl _)
theorem Xb{g h:SM}(h1:PS X st (tS X.K B G0 KX g))(h2:PSs X sts (tS X.K B G0 KX h)):PSs X (st::sts) (tS X.K B G0 KX (UZ g h)):=PM (GE h1 h2) λD σ H ⟨G,Z,k,a⟩=>by
 refine⟨G,Z,k,?_⟩;unfold UZ at a;cases z:g Z with
 |nx Z1=>rw[z]at a;exact λσ' G' H' k' s'=>⟨G',Z1,k',aftS.mono s' a⟩
 |rt d=>rw[z]at a;exact a
 |ro ds=>rw[z]at a;exact a
 |bk Z1=>rw[z]at a;exact a
 |ct Z1=>rw[z]at a;exact a
 |ex Z1 d=>rw[z]at a;exact a
 |bad=>rw[z]at a;exact a.elim
theorem XM{g:SM}(h1:PS X st (tS X.K B G0 KX g)):PSs X [st] (tS X.K B G0 KX g):=HW h1
noncomputable def WF:SM:=λ_=>.bad
theorem jY:PS X st (tS X.K B G0 KX WF):=λ_ _ _ _ _ _ ⟨_,_,_,a⟩=>a.elim
noncomputable def Kf(f:M D):SM:=sB f λd _=>.rt d
theorem P0{f:M D}(h:PE X e (tD X.K B G0 f)):PS X (.Return (O e) pos) (tS X.K B G0 KX (Kf f)):=ZD (LC h) λD σ H q=>tS.bnd (R:=Rep X.K) q λv H' G' Z' x k r a=>a v G' H' k.exit r
noncomputable def Wd(f:M D):SM:=sB f λ_ Z=>.nx Z
theorem B2{f:M D}(h:PE X e (tD X.K B G0 f))(hs:swapsWith e w9 pos.line X.env=pure yb:=by rfl):PS X (.Expr e pos) (tS X.K B G0 KX (Wd f)):=ZD (NF h hs) λD σ H q=>tS.bnd (R:=Rep X.K) q λv H' G' Z' x k r a=>a σ G' H' k (.refl _)
noncomputable def sIf(f:M Bool)(g h:SM):SM:=sB f λt=>if t=ya then g else h
theorem Rc{f:M Bool}{g h:SM}(hc:PT X c (tBo X.K B G0 f))(ha:PSs X sts (tS X.K B G0 KX g))(hb:PSs X sts2 (tS X.K B G0 KX h)):PS X (.If c sts sts2 pos) (tS X.K B G0 KX (sIf f g h)):=
 ZD (CI hc ha hb) λD σ H q=>tS.bnd (R:=λ_ b c=>b=c) q λv H' G' Z' x k r a=>by
  have r:v=x:=r;subst r;cases v with
  |true=>exact⟨G',Z',k,a⟩
  |false=>exact⟨G',Z',k,a⟩
noncomputable def tG(K:Frag)(B G0:Hp)(s:D->UU->yk):TG:=λv σ H Q=>∃G Z d Z',EOk K B G0 G H σ Z/\Rep K G v d/\s d Z=O Z'/\∀σ' G' H',EOk K B G0 G' H' σ' Z'->Same G G'->Q σ' H'
noncomputable def tGs(K:Frag)(B G0:Hp)(s:yc->UU->yk):TGs:=λv σ H Q=>∃G Z d Z',EOk K B G0 G H σ Z/\Reps K G v d/\s d Z=O Z'/\∀σ' G' H',EOk K B G0 G' H' σ' Z'->Same G G'->Q σ' H'
theorem pgof{t t':TG}(h:PG X e t)(i:∀v σ H Q,t' v σ H Q->t v σ H Q):PG X e t':=λpins s σ H v u Q I r q=>h pins s σ H v u Q I r (i v σ H Q q)
theorem M4{t t':TGs}(h:PGs X es t)(i:∀v σ H Q,t' v σ H Q->t v σ H Q):PGs X es t':=λpins s σ H v u Q I r q=>h pins s σ H v u Q I r (i v σ H Q q)
noncomputable def gN(i:Nat):D->UU->yk:=λd Z=>if i<Z.length then O (Z.set i (O (.pub d)))else w9
theorem Xj{i:Nat}(h:PG X e (O7 i)):PG X e (tG X.K B G0 (gN i)):=pgof h λv σ H Q ⟨G,Z,d,Z',k,r,e,q⟩=>by
 unfold gN at e;split at e
 .rename_i hi
  cases e;exact q _ G H (k.setPub r hi) (.refl _)
 .cases e
noncomputable def gN0:yc->UU->yk:=λd Z=>match d with | []=>O Z|_=>w9
noncomputable def gNC(s:D->UU->yk)(t:yc->UU->yk):yc->UU->yk:=λds Z=>match ds with|d::r=>(s d Z).bind (t r) | []=>w9
theorem PZ:PGs X [] (tGs X.K B G0 gN0):=M4 Az λv σ H Q ⟨G,Z,d,Z',k,r,e,q⟩=>by
 cases r with
 |nil=>cases e;exact⟨rfl,q σ G H k (.refl _)⟩
 |cons _ _=>cases e
theorem WT{s:D->UU->yk}{t:yc->UU->yk}(h1:PG X e (tG X.K B G0 s))(h2:PGs X es (tGs X.K B G0 t))
  (hs:(UR (e::es) X.env).map (·.2)=assign e X.env::(UR es X.env).map (·.2):=by rfl):PGs X (e::es) (tGs X.K B G0 (gNC s t)):=M4 (jO h1 h2 hs) λv σ H Q ⟨G,Z,d,Z',k,r,e,q⟩=>by
 cases r with
 |nil=>cases e
 |@cons w dw ws dws rw rt=>
  unfold gNC at e;dsimp only at e;cases z:s dw Z with
  |none=>rw[z]at e;cases e
  |some Z1=>rw[z]at e;refine⟨w,ws,rfl,G,Z,dw,Z1,k,rw,z,λσ' G' H' k' s'=>?_⟩;exact⟨G',Z1,dws,Z',k',rt.mono s',e,λσ2 G2 H2 k2 s2=>q σ2 G2 H2 k2 (s'.trans s2)⟩
noncomputable def gT(n:Nat)(t:yc->UU->yk):D->UU->yk:=λd Z=>match d with | .tuple ds=>if ds.length=n then t ds Z else w9|_=>w9
theorem PY{k1:Nat}{t:yc->UU->yk}{n:Nat}(hc:X.calm=ya)(h:PGs X es (tGs X.K B G0 t))
  (hn:(UR es X.env).length=n:=by rfl) (hst:(UR es X.env).findIdx? (·.1)=w9:=by rfl):PG X (.Tuple es k1 pos) (tG X.K B G0 (gT n t)):=pgof (C1 hc h hn hst) λv σ H Q ⟨G,Z,d,Z',k,r,e,q⟩=>by
 unfold gT at e;split at e
 .split at e
  .rename_i hl
   obtain⟨ad,vs,rfl,h1,r1⟩:=r.tup_inv;exact⟨ad,vs,rfl,Xf k.gh h1,by rw[r1.length];exact hl,G,Z,_,Z',k,r1,e,q⟩
  .cases e
 .cases e
noncomputable def Zx(f:M D)(s:D->UU->yk):SM:=sB f λd Z=>match s d Z with|some Z'=>.nx Z'|none=>.bad
theorem Be{tg:Uz}{f:M D}{s:D->UU->yk}(he:PE X e (tD X.K B G0 f))(hg:PG X tg (tG X.K B G0 s))(hs:swapsWithSole [tg] e pos.line X.env=pure yb:=by rfl)(hw:swappedStores [tg] e X.env=pure w9:=by rfl)
  (h1:(UR [tg] X.env).map (·.2)=[assign tg X.env]:=by rfl):PS X (.Assign [tg] e pos) (tS X.K B G0 KX (Zx f s)):=
 ZD (C0 he hg hs hw h1) λD σ H q=>tS.bnd (R:=Rep X.K) q λv H' G' Z' x k r a=>by
  cases z:s x Z' with
  |none=>rw[z]at a;exact a.elim
  |some Z2=>rw[z]at a;exact⟨G',Z',x,Z2,k,r,z,λσ2 G2 H2 k2 s2=>a σ2 G2 H2 k2 s2⟩
noncomputable def Kc(i:Nat)(f:M D):SM:=Zx f (gN i)
theorem Np{i:Nat}{x:Str}{f:M D}{p2:Pos}(hN:X.N.Nodup)(hi:X.N[i]?=O x)(hx:Loc X.env.scope x)(he:PE X e (tD X.K B G0 f))(hs:swapsWith e (O (.Name x p2)) pos.line X.env=pure yb:=by rfl)
  (hf:X.fn x=ya∨X.env.scope.names.lookup x=O .local:=by first|exact .inl rfl|exact .inr rfl|assumption):PS X (.Assign [.Name x p2] e pos) (tS X.K B G0 KX (Kc i f)):=
 ZD (No hN hi hx he hs hf) λD σ H q=>tS.bnd (R:=Rep X.K) q λv H' G' Z' x k r a=>by
  unfold gN at a;split at a
  .rename_i Z2 hz
   split at hz
   .rename_i hi2
    cases hz;exact a _ G' H' (k.setPub r hi2) (.refl _)
   .cases hz
  .exact a.elim
noncomputable def tL(K:Frag)(B G0:Hp)(f:M yc):TE:=λσ H Q=>∃G Z,EOk K B G0 G H σ Z/\match f Z with
 |.ok ds Z'=>∀a vs G' H',EOk K B G0 G' H' σ Z'->Same G G'->NewL K B G' H' σ Z' a vs ds->Q (.ref a) H'
 |.bad=>False
noncomputable def Zf(i:Nat)(f:M yc):SM:=sB f λds Z=>if i<Z.length then .nx (Z.set i (O (.own ds)))else .bad
theorem Ow{i:Nat}{x:Str}{f:M yc}{p2:Pos}(hN:X.N.Nodup)(hi:X.N[i]?=O x)(hx:Loc X.env.scope x)(he:PE X e (tL X.K B G0 f))(hs:swapsWith e (O (.Name x p2)) pos.line X.env=pure yb:=by rfl)
  (hf:X.fn x=ya∨X.env.scope.names.lookup x=O .local:=by first|exact .inl rfl|exact .inr rfl|assumption):PS X (.Assign [.Name x p2] e pos) (tS X.K B G0 KX (Zf i f)):=
 ZD (No hN hi hx he hs hf) λD σ H ⟨G,Z,k,a⟩=>by
  refine⟨G,Z,k,?_⟩;unfold Zf sB at a;cases z:f Z with
  |bad=>rw[z]at a;exact a.elim
  |ok ds Z1=>
   rw[z]at a;intro ad vs G' H' k' s' n;dsimp only at a;split at a
   .rename_i hl
    exact a _ G' H' (k'.setOwn n hl) s'
   .exact a.elim
theorem NewL.of{K:Frag}{G H:Hp}{σ:St}{Z:UU}{p:Ux}{vs:List V}{ds:yc}(k:EOk K B G0 G H σ Z)(hp:H p=w9)(r:Reps K G vs ds):NewL K B G (upd H p (.lst vs)) σ Z p vs ds where
 b:=k.bh.free hp
 g:=k.gh.free hp
 h:=Zd
 r:=r
 f:=λj es q z=>by obtain⟨a,ws,h1,h2,h3,h4,h5⟩:=k.own j es q;rw[z]at h1;cases h1;rw[hp]at h4;cases h4
 dp:=λj pt d v fp q s rr=>k.freshD (ZJ hp) hp q s rr
theorem Ov{f:M yc}(h:PA X es (tDs X.K B G0 f)):PE X (.List es pos) (tL X.K B G0 (Ki f λxs=>if xs.length<=1000000 then U1 xs else λ_=>.bad)):=
 Kt (Nn h) λσ H Q ⟨G,Z,k,a⟩=>by
  refine⟨G,Z,k,?_⟩;unfold Ki at a;cases z:f Z with
  |bad=>rw[z]at a;exact a.elim
  |ok ds Z1=>
   rw[z]at a;dsimp only at a;intro v G' H' k' s' r;by_cases c:ds.length<=1000000
   .rw[Qo c]at a
    refine⟨by rw[r.length];exact QJ c lim,λp hp=>?_⟩;exact a p v G' _ (k'.ext (Ext.hid k'.gh hp)) s' (NewL.of k' hp r)
   .rw[QB c]at a;exact a.elim
noncomputable def Zy(i:Nat)(f:M D):SM:=λZ0=>match Z0[i]? with
 |some (O (.own _))=>sB f (λd Z=>match Z[i]? with
  |some (O (.own ds))=>if ds.length<1000000 then .nx (Z.set i (O (.own (ds++[d]))))else .bad
  |_=>.bad) Z0
 |_=>.bad
theorem PX{i:Nat}{f:M D}{o:Uz}{apos cpos:Pos}(ho:PE X o (Za i))(he:PE X e (tD X.K B G0 f))
  (hbase:attributeBase o "append" X.env (eval o X.env)=eval o X.env:=by rfl)
  (hfew:((backTo cpos (UC [e] X.env)).all (λx=>!x.1)&&(backToKw cpos (keywordEach [] X.env)).all (λx=>x.1.isSome)
   && decide ([e].length+([]:List Keyword).length+(if([]:List Keyword).isEmpty then 0 else 1)<30))=ya:=by rfl)
  (hline:(apos.endLine==cpos.line)=ya:=by rfl) (hs:UC [e] X.env=[(yb,eval e X.env)]:=by rfl)
  (hsw:swapsWith (.Call (.Attribute o "append" apos) [e] [] cpos) w9 pos.line X.env=pure yb:=by rfl) :
  PS X (.Expr (.Call (.Attribute o "append" apos) [e] [] cpos) pos) (tS X.K B G0 KX (Zy i f)):=
 ZD (NF (PN PySem.F.plainAttrs_list PySem.F.slot_list_append PySem.F.type_list_append Mx ho (WQ he V7 (by rw[hs];rfl)) hbase hfew hline (by rw[hs];rfl) w8) hsw) λD σ H ⟨G,Z,k,a⟩=>by
  unfold Zy at a;cases q0:Z[i]? with
  |none=>rw[q0]at a;exact a.elim
  |some o0=>
   cases o0 with
   |none=>rw[q0]at a;exact a.elim
   |some sl0=>
    cases sl0 with
    |deep _ _=>rw[q0]at a;exact a.elim
    |pub d=>rw[q0]at a;exact a.elim
    |own zP=>
     rw[q0]at a;obtain⟨ad,vs0,h1,h2,h3,h4,h5⟩:=k.own i zP q0;refine⟨.ref ad,h1,.inl ⟨rfl,_,SqL.of h4⟩,G,Z,k,?_⟩;unfold sB at a;cases z:f Z with
     |bad=>rw[z]at a;exact a.elim
     |ok d Z1=>
      rw[z]at a;dsimp only at a;intro v G' H' k' s' r';cases q:Z1[i]? with
      |none=>rw[q]at a;exact a.elim
      |some o=>
       cases o with
       |none=>rw[q]at a;exact a.elim
       |some sl=>
        cases sl with
        |deep _ _=>rw[q]at a;exact a.elim
        |pub d=>rw[q]at a;exact a.elim
        |own ds=>
         rw[q]at a;dsimp only at a;split at a
         .rename_i hl
          obtain⟨ad',vs,g1,g2,g3,g4,g5⟩:=k'.own i ds q;rw[h1]at g1;cases g1;refine⟨ad,vs,v,rfl,rfl,g4,by rw[g5.length];exact QG hl lim,?_⟩;exact a σ G' _ (k'.change q h1 (g5.append (.cons r' .nil))) s'
         .exact a.elim
end
structure X6(K:Frag)(J:It)(ds:yc)(G1:Hp):Prop where
 go:∀i G H,Same G1 G->Same G H->i<ds.length->J.go i H
 stop:∀i G H,Same G1 G->Same G H->ds.length<=i->J.stop i H
 yld:∀i G H x H' d,Same G1 G->Same G H->ds[i]?=O d->J.yld i H x H'->∃G',Ext G H G' H'/\Rep K G' x d
noncomputable def iD(K:Frag)(B G0:Hp)(f:M yc):TI:=λσ H R=>∃G Z,EOk K B G0 G H σ Z/\match f Z with
 |.ok ds Z'=>∀J G' H',EOk K B G0 G' H' σ Z'->Same G G'->X6 K J ds G'->R J H'
 |.bad=>False
section
variable{X:Cx}{B G0:Hp}{KX:XW}{e a b c tg:Uz}{pos:Pos}{es rest:yg}{st:Stmt}{sts sts2:List Stmt}
theorem XV{t t':TI}(h:PI X tg e t)(i:∀σ H R,t' σ H R->t σ H R):PI X tg e t':=λpins s σ H R I q=>h pins s σ H R I (i σ H R q)
theorem tM.toI{K:Frag}{α γ:Type}{R0:Hp->γ->α->Prop}{f:M α}{g:α->M yc}{σ:St}{H:Hp}{R:It->Hp->Prop}{P:γ->Hp->Prop}(q:iD K B G0 (Ki f g) σ H R)
  (i:∀v H' G' Z' x,EOk K B G0 G' H' σ Z'->R0 G' v x->(match g x Z' with
   |.ok ds Z2=>∀J G2 H2,EOk K B G0 G2 H2 σ Z2->Same G' G2->X6 K J ds G2->R J H2
   |.bad=>False)->P v H'):tM K B G0 R0 f σ H P:=by
 obtain⟨G,Z,k,a⟩:=q;refine⟨G,Z,k,?_⟩;unfold Ki at a;cases z:f Z with
 |bad=>rw[z]at a;exact a.elim
 |ok d Z1=>
  rw[z]at a;intro v G' H' e s r;refine i v H' G' Z1 d e r ?_;dsimp only at a;cases z2:g d Z1 with
  |bad=>rw[z2]at a;exact a.elim
  |ok ds Z2=>rw[z2]at a;exact λJ G2 H2 k2 s2 it=>a J G2 H2 k2 (s.trans s2) it
theorem va{K:Frag}{G1:Hp}{ad:Ux}{vs:List V}{ds:yc}(h:SqL K G1 ad vs)(r:Reps K G1 vs ds):X6 K (Itl K ad) ds G1 where
 go:=λi G H s1 s2 hi=>by
  have hi':i<vs.length:=by rw[r.length];exact hi
  exact⟨vs,vs[i],(s1.trans s2).seq h,Qe hi'⟩
 stop:=λi G H s1 s2 hi=>⟨vs,(s1.trans s2).seq h,by rw[r.length];exact hi⟩
 yld:=λi G H x H' d s1 s2 e y=>by obtain⟨rfl,y⟩:=y;obtain⟨v,e1,r1⟩:=r.get e;have:=y vs ((s1.trans s2).seq h);rw[e1]at this;cases this;exact⟨G,.refl s2,r1.mono s1⟩
noncomputable def Yp(lo hi:Int):yc:=(UE (hi-lo).toNat).map λ(k:Nat)=>.int (lo+k)
theorem YI(lo hi:Int):(Yp lo hi).length=(hi-lo).toNat:=by unfold Yp;rw[Qb,Qp]
theorem EO{K:Frag}{G1:Hp}(lo hi:Int):X6 K (Itr lo (hi-lo).toNat) (Yp lo hi) G1 where
 go:=λi G H s1 s2 h=>by rw[YI]at h;exact h
 stop:=λi G H s1 s2 h=>by rw[YI]at h;exact h
 yld:=λi G H x H' d s1 s2 e y=>by
  obtain⟨rfl,rfl⟩:=y;unfold Yp at e;rw[Qd]at e;have hi:i<(UE (hi-lo).toNat).length:=by refine Nat.lt_of_not_le λz=>?_;rw[Q9 z]at e;cases e
  rw[Qe hi,List.getElem_range]at e;cases e;exact⟨G,.refl s2,.int _⟩
noncomputable def Rb:yc->Option yc
 |[.int j]=>if j<=1000000 /\ -1000000<=j then O (Yp 0 j)else w9
 |_=>w9
noncomputable def Ra:yc->Option yc
 |[.int i,.int j]=>if j<=1000000 /\ -1000000<=j/\i<=1000000 /\ -1000000<=i then O (Yp i j)else w9
 |_=>w9
noncomputable def YR(f:M yc):M yc:=Ki f λx=>Kk (Rb x)
noncomputable def PR(f:M yc):M yc:=Ki f λx=>Kk (Ra x)
theorem OJ{f:M yc}{p2:Pos}(hg:Gl X "range")(hm:X.mg "range" = w9)(ha:PA X [a] (tDs X.K B G0 f))(hs:UC [a] X.env=[(yb,eval a X.env)]:=by rfl) :
  PI X tg (.Call (.Name "range" p2) [a] [] pos) (iD X.K B G0 (YR f)):=XV (xy hg hm ha hs) λσ H R q=>tM.toI (R0:=Reps X.K) q λv H' G' Z' x k r a=>by
 cases z:Rb x with
 |none=>rw[z]at a;exact a.elim
 |some ds=>
  rw[z]at a;unfold Rb at z;split at z
  .split at z
   .rename_i j c
    cases z;obtain⟨w,rfl,r'⟩:=r.one_inv;refine⟨j,by rw[r'.int_inv],by omega,by omega,?_⟩;have it:=EO (K:=X.K) (G1:=G') 0 j;rw[Int.sub_zero]at it;exact a _ G' H' k (.refl _) it
   .cases z
  .cases z
theorem xI{f:M yc}{p2:Pos}(hg:Gl X "range")(hm:X.mg "range" = w9)(ha:PA X [a,b] (tDs X.K B G0 f))(hs:UC [a,b] X.env=[(yb,eval a X.env),(yb,eval b X.env)]:=by rfl)(hs2:UC [b] X.env=[(yb,eval b X.env)]:=by rfl) :
  PI X tg (.Call (.Name "range" p2) [a,b] [] pos) (iD X.K B G0 (PR f)):=XV (xx hg hm ha hs hs2) λσ H R q=>tM.toI (R0:=Reps X.K) q λv H' G' Z' x k r a=>by
 cases z:Ra x with
 |none=>rw[z]at a;exact a.elim
 |some ds=>
  rw[z]at a;unfold Ra at z;split at z
  .split at z
   .rename_i i j c
    cases z;obtain⟨w,w',rfl,r1,r2⟩:=r.two_inv;refine⟨i,j,by rw[r1.int_inv,r2.int_inv],⟨by omega,by omega,by omega,by omega⟩,?_⟩;exact a _ G' H' k (.refl _) (EO i j)
   .cases z
  .cases z
noncomputable def Yq(n:Nat):yc->yc
 |[]=>[]
 |d::r=>.tuple [.int n,d]::Yq (n+1) r
theorem YH:∀(n:Nat)(ds:yc),(Yq n ds).length=ds.length
 |_,[]=>rfl
 |n,d::r=>by rw[Yq,Qz,Qz,YH]
theorem OI:∀(n:Nat)(ds:yc)(i:Nat),(Yq n ds)[i]?=ds[i]?.map λd=>.tuple [.int ((n+i:Nat):Int),d]
 |_,[],i=>by simp[Yq]
 |n,d::r,0=>by simp[Yq]
 |n,d::r,i+1=>by
  rw[Yq,J0,J0,OI (n+1) r i];have:n+1+i=n+(i+1):=by omega
  rw[this]
theorem xZ{K:Frag}{G1:Hp}{ad:Ux}{vs:List V}{ds:yc}(h:SqL K G1 ad vs)(r:Reps K G1 vs ds):X6 K (Ite K ad) (Yq 0 ds) G1 where
 go:=λi G H s1 s2 hi=>by
  rw[YH]at hi;have hi':i<vs.length:=by rw[r.length];exact hi
  exact⟨vs,vs[i],(s1.trans s2).seq h,Qe hi'⟩
 stop:=λi G H s1 s2 hi=>by rw[YH]at hi;exact⟨vs,(s1.trans s2).seq h,by rw[r.length];exact hi⟩
 yld:=λi G H x H' d s1 s2 e y=>by
  obtain⟨p,v,hp,rfl,y,rfl⟩:=y;rw[OI]at e;cases z:ds[i]? with
  |none=>rw[z]at e;cases e
  |some d0=>rw[z]at e;cases e;obtain⟨w,e1,r1⟩:=r.get z;have:=y vs ((s1.trans s2).seq h);rw[e1]at this;cases this;refine⟨upd G p (.tup [.int i,v]),Ext.new s2 hp,.tup (SqT.of Zd) (.cons ?_ (.cons ((r1.mono s1).mono (ZJ (s2.free hp))) .nil))⟩;rw[Q0];exact .int _
noncomputable def RT:yc->Option yc
 |[.list ds]=>O (Yq 0 ds)
 |_=>w9
noncomputable def YY(f:M yc):M yc:=Ki f λx=>Kk (RT x)
theorem Ga{f:M yc}{p2:Pos}{elts:yg}{x1}{tp:Pos}(hg:Gl X "enumerate")(hm:X.mg "enumerate" = w9)(ha:PA X [a] (tDs X.K B G0 f))(hs:UC [a] X.env=[(yb,eval a X.env)]:=by rfl) :
  PI X (.Tuple elts x1 tp) (.Call (.Name "enumerate" p2) [a] [] pos) (iD X.K B G0 (YY f)):=XV (AV hg hm ha hs) λσ H R q=>tM.toI (R0:=Reps X.K) q λv H' G' Z' x k r a=>by
 cases z:RT x with
 |none=>rw[z]at a;exact a.elim
 |some ds=>
  rw[z]at a;unfold RT at z;split at z
  .cases z
   obtain⟨w,rfl,r'⟩:=r.one_inv;obtain⟨ad,vs,rfl,h1,r1⟩:=r'.lst_inv;exact⟨ad,vs,rfl,k.gh.seq h1,a _ G' H' k (.refl _) (xZ h1 r1)⟩
  .cases z
noncomputable def V0(s:D->UU->yk)(g:SM):yc->SM
 |[],Z=>.nx Z
 |d::r,Z=>match s d Z with
  |none=>.bad
  |some Z1=>match g Z1 with
   |.nx Z2=>V0 s g r Z2
   |.ct Z2=>V0 s g r Z2
   |.bk Z2=>.nx Z2
   |.rt d=>.rt d
   |.ro ds=>.ro ds
   |.ex Z2 d=>.ex Z2 d
   |.bad=>.bad
noncomputable def Kx(f:M yc)(s:D->UU->yk)(g:SM):SM:=sB f λds=>V0 s g ds
theorem Rk{iter:Uz}{body:List Stmt}{f:M yc}{s:D->UU->yk}{g:SM}(hp:PassesOwn (model X.prog X.w) X.A X.env X.xe)(hc:X.calm=ya)(hi:PI X tg iter (iD X.K B G0 f))(hg:PG X tg (tG X.K B G0 s))(hb:PSs X body (tS X.K B G0 KX g))
  (hs:∀x,US iter X.env x=pure x:=by intro _;rfl):PS X (.For tg iter body [] pos) (tS X.K B G0 KX (Kx f s g)):=
 ZD (CW hp hc hi hg hb hs) λDn σ H ⟨G,Z,k,a⟩=>by
  refine⟨G,Z,k,?_⟩;unfold Kx sB at a;cases z:f Z with
  |bad=>rw[z]at a;exact a.elim
  |ok ds Z1=>
   rw[z]at a;dsimp only at a⊢;intro J G1 H1 k1 s1 it;refine⟨λi m σ' H'=>m=ds.length-i/\∃G' Z',EOk X.K B G0 G' H' σ' Z'/\Same G1 G'/\aftS X.K B G0 KX (V0 s g (ds.drop i) Z') G' Dn,⟨ds.length,by omega,G1,Z1,k1,.refl _,by rw[List.drop_zero];exact aftS.mono s1 a⟩,?_⟩;rintro i m σ' H' ⟨rfl,G',Z',k',s',a'⟩;by_cases hi:i<ds.length
   .right
    refine⟨it.go i G' H' s' k'.gh hi,λσ2 H2=>∃G2 Z2,EOk X.K B G0 G2 H2 σ2 Z2/\Same G1 G2/\aftS X.K B G0 KX (V0 s g (ds.drop (i+1)) Z2) G2 Dn,λσ2 H2 h2=>⟨ds.length-(i+1),by omega,rfl,h2⟩,λx H2 y=>?_⟩;obtain⟨G2,ex,rx⟩:=it.yld i G' H' x H2 ds[i] s' k'.gh (Qe hi) y;rw[Jr hi,V0]at a';cases z2:s ds[i] Z' with
    |none=>rw[z2]at a';exact a'.elim
    |some Z2=>
     rw[z2]at a';dsimp only at a';refine⟨G2,Z',ds[i],Z2,k'.ext ex,rx,z2,λσ3 G3 H3 k3 s3=>⟨G3,Z2,k3,?_⟩⟩;have s13:Same G1 G3:=(s'.trans ex.g).trans s3;cases z3:g Z2 with
     |nx Z3=>rw[z3]at a';exact λσ4 G4 H4 k4 s4=>⟨G4,Z3,k4,s13.trans s4,aftS.mono ((ex.g.trans s3).trans s4) a'⟩
     |ct Z3=>rw[z3]at a';exact λσ4 G4 H4 k4 s4=>⟨G4,Z3,k4,s13.trans s4,aftS.mono ((ex.g.trans s3).trans s4) a'⟩
     |bk Z3=>rw[z3]at a';exact λσ4 G4 H4 k4 s4=>a' σ4 G4 H4 k4 ((ex.g.trans s3).trans s4)
     |rt d=>rw[z3]at a';exact a'
     |ro ds=>rw[z3]at a';exact a'
     |ex Z3 d=>rw[z3]at a';exact λv σ4 G4 H4 k4 s4 r4=>a' v σ4 G4 H4 k4 ((ex.g.trans s3).trans s4) r4
     |bad=>rw[z3]at a';exact a'.elim
   .left
    rw[List.drop_eq_nil_of_le (by omega)]at a';exact⟨it.stop i G' H' s' k'.gh (by omega),a' σ' G' H' k' (.refl _)⟩
theorem jX{k:Nat}{f:Ux}{fd:Uy}{ps:List Str}{F:yc->ye}{g:M yc}{x:Str}{p2:Pos}{n:Nat}(FK:FnOk X.prog X.w X.K X.mg X.base CX0 k f fd ps (spD X.K n F))(hr:Room k X.A)(hg:Gl X x)(hm:X.mg x=O (.ref f))(hk:PySem.W.keepIn X.K (.ref f)=ya)
  (hb:WN X.K fd ps []) (ha:PA X (e::es) (tDs X.K B G0 g)) (hn:(e::es).length=n) (hdb:(x==("__debug__" : Str))=yb:=by decide) (he:UC (e::es) X.env=(yb,eval e X.env)::UC es X.env:=by rfl) (hpl:(backTo pos (UC es X.env)).any (·.1)=yb:=by rfl) :
  PE X (.Call (.Name x p2) (e::es) [] pos) (tD X.K B G0 (Ki g λxs=>if xs.length=n then Kk (F xs)else λ_=>.bad)):=
 Kt (HU FK hr hg hm hk hb .nil Lb ha hdb he hpl) λσ H Q q=>tM.one (R:=Reps X.K) q λv H2 G Z ds k r a=>by
  split at a
  .rename_i hl
   obtain⟨d,e,a⟩:=a.opt;exact⟨G,ds,d,by rw[Q2,r.length];exact hl,k.gh,by rw[Q2];exact r,e,λw G' H' ex rw=>a.done k ex rw⟩
  .exact a.elim
end
noncomputable def YV(N:List Str)(ds:yc):UU:=(ds.map λd=>O (Sl.pub d))++UF (N.length-ds.length) w9
theorem Gz{K:Frag}{N:List Str}{G H:Hp}{vs:List V}{ds:yc}(s:Same G H)(r:Reps K G vs ds):EOk K H G G H (L2.We N vs) (YV N ds) where
 bh:=.refl _
 gh:=s
 g0:=.refl _
 np:=λ_ _ _ n=>n
 len:=by unfold L2.We YV;rw[Qk,Qk,Qb,Qb,QH,QH,r.length]
 pub:=λi d q=>by
  unfold YV at q;unfold L2.We;by_cases hi:i<ds.length
  .rw[Qx (by rw[Qb];exact hi),Qd]at q
   cases z:ds[i]? with
   |none=>rw[z]at q;cases q
   |some d'=>rw[z]at q;cases q;obtain⟨v,e1,r1⟩:=r.get z;refine⟨v,?_,r1⟩;rw[Qx (by rw[Qb,r.length];exact hi),Qd,e1];rfl
  .rw[Qy (by rw[Qb];omega),QD]at q
   split at q<;>cases q
 own:=λi es q=>by
  unfold YV at q;by_cases hi:i<ds.length
  .rw[Qx (by rw[Qb];exact hi),Qd]at q
   cases z:ds[i]? with
   |none=>rw[z]at q;cases q
   |some d'=>rw[z]at q;cases q
  .rw[Qy (by rw[Qb];omega),QD]at q
   split at q<;>cases q
 sep:=λi j a es fs q _ _ _=>by
  unfold YV at q;by_cases hi:i<ds.length
  .rw[Qx (by rw[Qb];exact hi),Qd]at q
   cases z:ds[i]? with
   |none=>rw[z]at q;cases q
   |some d'=>rw[z]at q;cases q
  .rw[Qy (by rw[Qb];omega),QD]at q
   split at q<;>cases q
 dp:=by
  have key:∀{i:Nat}{s:Sl},(YV N ds)[i]?=O (O s)->∃d,s=.pub d:=λ{i s} q=>by
   unfold YV at q;by_cases hi:i<ds.length
   .rw[Qx (by rw[Qb];exact hi),Qd]at q
    cases z:ds[i]? with
    |none=>rw[z]at q;cases q
    |some d'=>rw[z]at q;cases q;exact⟨_,rfl⟩
   .rw[Qy (by rw[Qb];omega),QD]at q
    split at q<;>cases q
  exact .of (λi p d q=>by obtain⟨_,e⟩:=key q;cases e) λi ds q=>by obtain⟨_,e⟩:=key q;cases e
noncomputable def Kj(N:List Str)(g:SM)(ds:yc):ye:=match g (YV N ds)with
 |.rt d=>O d
 |.nx _=>O .none
 |_=>w9
theorem okD{P:Uw}{w:World}{K:Frag}{mg:Str->yj}{base:Heap}{x qual:Str}{st:Stmt}{f:Ux}{fd:Uy}{N ps:List Str}{k n:Nat}{g:SM}(F:Fun K x qual st f fd)(S:RC N ps (ZM st))(hn:ps.length=n)
  (der:∀(cdv:Uu)(A:Around)(outer:List Env)(s:Uv)(H:Hp)(E:XK)(B G0:Hp),Room k (A.deeper (envOfC qual (ZM st) s.heap.objs.size f cdv)) ->
   PSs (Y8 CX0 P w K mg base N qual (ZM st) f cdv A outer s H E).nox (Wm st) (tS K B G0 KX0 g)):FnOk P w K mg base CX0 (k+1) f fd ps (spD K n (Kj N g)):=by
 refine F.ok S (λvs H Q E h=>?_) (λcdv A outer s H vs Q E hr h=>?_)
 .obtain⟨_,_,_,hl,_⟩:=h
  rw[hl,hn]
 .obtain⟨G,ds,d,hl,sg,r,hF,q⟩:=h
  refine⟨_,der cdv A outer s H E H G hr,G,YV N ds,Gz sg r,?_⟩;unfold Kj at hF;cases z:g (YV N ds)with
  |rt d'=>rw[z]at hF;cases hF;exact λv G' H' ex rr=>q v G' H' ex rr
  |nx Z=>rw[z]at hF;cases hF;exact λσ' G' H' k' _=>q .non G' H' k'.exit .non
  |ro ds=>rw[z]at hF;cases hF
  |bk Z=>rw[z]at hF;cases hF
  |ct Z=>rw[z]at hF;cases hF
  |ex Z d=>rw[z]at hF;cases hF
  |bad=>rw[z]at hF;cases hF
section
variable{X:Cx}{B G0:Hp}{e a b c tg:Uz}{pos:Pos}{es rest:yg}
noncomputable def oNeg:D->ye
 |.int i=>O (.int (-i))
 |_=>w9
noncomputable def Yj(f:M D):M D:=Ki f λx=>Kk (oNeg x)
theorem HZ{f:M D}(h:PE X a (tD X.K B G0 f)):PE X (.UnaryOp .USub a pos) (tD X.K B G0 (Yj f)):=
 Kt (CD CP h) λσ H Q q=>tM.one (R:=Rep X.K) q λv H2 G Z x k r a=>by
  cases x with
  |int i=>exact⟨i,r.int_inv,aft.now a k (.int _)⟩
  |_=>exact a.elim
end
def Def(P:Uw)(w:World)(K:Frag)(mg:Str->yj)(base:Heap)(x:Str)(k n:Nat)(F:yc->ye):Prop:=
 ∃(f:Ux)(fd:Uy)(ps:List Str),mg x=O (.ref f)/\PySem.W.keepIn K (.ref f)=ya/\WN K fd ps []/\FnOk P w K mg base CX0 k f fd ps (spD K n F)
noncomputable def Ka(n:Nat)(F:yc->ye)(g:M yc):M D:=Ki g λxs=>if xs.length=n then Kk (F xs)else λ_=>.bad
section
variable{X:Cx}{B G0:Hp}{e:Uz}{pos:Pos}{es:yg}
theorem B0{k n:Nat}{F:yc->ye}{g:M yc}{x:Str}{p2:Pos}(d:Def X.prog X.w X.K X.mg X.base x k n F)(hr:Room k X.A)(hg:Gl X x)(ha:PA X (e::es) (tDs X.K B G0 g))(hn:(e::es).length=n:=by rfl)
  (hdb:(x==("__debug__" : Str))=yb:=by decide) (he:UC (e::es) X.env=(yb,eval e X.env)::UC es X.env:=by rfl) (hpl:(backTo pos (UC es X.env)).any (·.1)=yb:=by rfl) :
  PE X (.Call (.Name x p2) (e::es) [] pos) (tD X.K B G0 (Ka n F g)):=by
 obtain⟨f,fd,ps,h1,h2,h3,h4⟩:=d;exact jX h4 hr hg h1 h2 h3 ha hn hdb he hpl
end
theorem Def.mk{P:Uw}{w:World}{K:Frag}{mg:Str->yj}{base:Heap}{x:Str}{k n:Nat}{F:yc->ye}{st:Stmt}{f:Ux}{fd:Uy}{ps:List Str}(hm:mg x=O (.ref f))(FU:Fun K x x st f fd)(hb:WN K fd ps [])(ok:FnOk P w K mg base CX0 k f fd ps (spD K n F)) :
  Def P w K mg base x k n F:=⟨f,fd,ps,hm,FU.kp,hb,ok⟩
theorem BE{K:Frag}{H:Hp}{a:Ux}{ns:yd}{F:yc->ye}{E:XK}(hS:SqL K H a (ns.map V.int))(h:F [.list (ns.map int)]=O (.bool ya)):spD K 1 F [.ref a] H (λv _=>v=.bl ya) E:=
 ⟨H,[.list (ns.map int)],.bool ya,rfl,.refl _,.cons (.lst hS (Reps.ints ns)) .nil,h,λ_ _ _ _ r=>r.bl_inv⟩
end DL
namespace L2
open PySem PySem.Spec PyProof.Rows
theorem mem_of_lookup{x:Str}{k:NameKind}:∀{l:List (Str×NameKind)},l.lookup x=O k->(x,k)∈l
 |[],h=>by cases h
 |(y,j)::r,h=>by
  rw[Q4]at h;split at h
  .rename_i e
   cases h;have:x=y:=by simpa using e
   rw[this];exact Qi
  .exact Qh _ (mem_of_lookup h)
theorem MK{env:Env}:∀(l:List (Str×NameKind))(acc:List (Str×Ux)),(∀y∈l,y.2=.free->∃c,env.cells.lookup y.1=O c) ->
  ∃cl,(forIn l acc (λx r=>if(x.2==NameKind.free)=ya then(do let a ←cellOf env x.1;pure (ForInStep.yield ((x.1,a)::r)))else pure (ForInStep.yield r)):Sem (List (Str×Ux)))=pure cl /\
   (∀x c,cl.lookup x=O c->acc.lookup x=O c∨env.cells.lookup x=O c)/\(∀y∈l,y.2=.free->∃c,cl.lookup y.1=O c)/\(∀x c,acc.lookup x=O c->∃c',cl.lookup x=O c')
 |[],acc,_=>⟨acc,rfl,λ_ _ h=>.inl h,λ_ h=>absurd h (by simp),λx c h=>⟨c,h⟩⟩
 |(n,k)::r,acc,h=>by
  by_cases hk:k=.free
  .subst hk
   obtain⟨c,hc⟩:=h (n,.free) Qi w8;obtain⟨cl,e,p1,p2,p3⟩:=MK r ((n,c)::acc) λy hy=>h y (Qh _ hy)
   have hco:cellOf env n=pure c:=by unfold cellOf;rw[hc]
   have key:∀x c',((n,c)::acc).lookup x=O c'->acc.lookup x=O c'∨env.cells.lookup x=O c':=λx c' q=>by
    rw[Q4]at q;split at q
    .rename_i e1
     cases q;have:x=n:=by simpa using e1
     subst this;exact .inr hc
    .exact .inl q
   have own:((n,c)::acc).lookup n=O c:=by rw[List.lookup_cons];simp
   refine⟨cl,?_,λx c' q=>?_,λy hy hf=>?_,λx c' q=>?_⟩
   .rw[List.forIn_cons]
    have:(if(((n,NameKind.free):Str×NameKind).2==NameKind.free)=ya then(do let a ←cellOf env n;pure (ForInStep.yield ((n,a)::acc)))else pure (ForInStep.yield acc):Sem _)=pure (ForInStep.yield ((n,c)::acc)):=by rw[Qo (show((n,NameKind.free).snd==NameKind.free)=ya from rfl),hco];rfl
    refine Eq.trans ?_ e;dsimp only at this⊢;rw[this];rfl
   .rcases p1 x c' q with z|z
    .exact key x c' z
    .exact .inr z
   .rcases Qw.mp hy with z|z
    .subst z
     exact p3 n c own
    .exact p2 y z hf
   .by_cases hx:x=n
    .subst hx;exact p3 x c own
    .refine p3 x c' ?_
     have hb:(x==n)=yb:=by simpa using hx
     rw[Q4,hb];exact q
  .obtain⟨cl,e,p1,p2,p3⟩:=MK r acc λy hy=>h y (Qh _ hy)
   refine⟨cl,?_,p1,λy hy hf=>?_,p3⟩
   .rw[List.forIn_cons]
    have hb:(k==NameKind.free)=yb:=by cases k<;>first|rfl|exact absurd w8 hk
    refine Eq.trans ?_ e;dsimp only;rw[hb,QB (by decide)];rfl
   .rcases Qw.mp hy with z|z
    .subst z;exact absurd hf hk
    .exact p2 y z hf
theorem xY{scope:Scope}{env:Env}(h:∀y∈scope.names,y.2=.free->∃c,env.cells.lookup y.1=O c) :
  ∃cl,closureFor scope env=pure cl/\(∀x c,cl.lookup x=O c->env.cells.lookup x=O c)/\∀y∈scope.names,y.2=.free->∃c,cl.lookup y.1=O c:=by
 obtain⟨cl,e,p1,p2,_⟩:=MK scope.names [] h;refine⟨cl,?_,λx c q=>(p1 x c q).elim (λz=>by cases z) id,p2⟩;have e2:((forIn scope.names [] (λx r=>if(x.2==NameKind.free)=ya then(do let a ←cellOf env x.1;pure (ForInStep.yield ((x.1,a)::r)))else pure (ForInStep.yield r)):Sem (List (Str×Ux))) >>= λs=>pure s)=pure cl:=by rw[e];rfl
 exact e2
theorem EN{env:Env}{x:Str}{k:NameKind}:∀{names:List (Str×NameKind)},(names.map λ(n,k)=>if(k==NameKind.free&&env.scope.kind==.function&&env.kindOf n==O .cell)then(n,NameKind.cell)else(n,k)).lookup x=O k ->
  names.lookup x=O k∨(names.lookup x=O .free/\k=.cell)
 |[],h=>by cases h
 |(n,j)::r,h=>by
  have ih:=@EN env x k r;have h:List.lookup x ((if(j==NameKind.free&&env.scope.kind==.function&&env.kindOf n==O .cell)=ya then(n,NameKind.cell)else(n,j))::_)=O k:=h;cases hx:x==n with
  |true=>
   by_cases hc:(j==NameKind.free&&env.scope.kind==.function&&env.kindOf n==O .cell)=ya
   .rw[Qo hc]at h
    simp only[Q4,hx]at h⊢;cases h;simp only[QR]at hc;have:j=.free:=by have:=hc.1.1;cases j<;>first|rfl|cases this
    subst this;exact .inr ⟨rfl,rfl⟩
   .rw[QB hc]at h
    simp only[Q4,hx]at h⊢;exact .inl h
  |false=>
   by_cases hc:(j==NameKind.free&&env.scope.kind==.function&&env.kindOf n==O .cell)=ya
   .rw[Qo hc]at h
    simp only[Q4,hx]at h⊢;exact ih h
   .rw[QB hc]at h
    simp only[Q4,hx]at h⊢;exact ih h
theorem ML{env:Env}{x:Str}:∀{names:List (Str×NameKind)},names.lookup x=O .free ->
  (names.map λ(n,k)=>if(k==NameKind.free&&env.scope.kind==.function&&env.kindOf n==O .cell)then(n,NameKind.cell)else(n,k)).lookup x=O .free ∨
  (names.map λ(n,k)=>if(k==NameKind.free&&env.scope.kind==.function&&env.kindOf n==O .cell)then(n,NameKind.cell)else(n,k)).lookup x=O .cell
 |[],h=>by cases h
 |(n,j)::r,h=>by
  have ih:=@ML env x r;show List.lookup x ((if(j==NameKind.free&&env.scope.kind==.function&&env.kindOf n==O .cell)=ya then(n,NameKind.cell)else(n,j))::_)=_∨List.lookup x ((if(j==NameKind.free&&env.scope.kind==.function&&env.kindOf n==O .cell)=ya then(n,NameKind.cell)else(n,j))::_)=_;cases hx:x==n with
  |true=>
   simp only[Q4,hx]at h;cases h;by_cases hc:(NameKind.free==NameKind.free&&env.scope.kind==.function&&env.kindOf n==O .cell)=ya
   .rw[if_pos hc];simp[List.lookup_cons,hx]
   .rw[if_neg hc];simp[List.lookup_cons,hx]
  |false=>
   simp only[Q4,hx]at h;by_cases hc:(j==NameKind.free&&env.scope.kind==.function&&env.kindOf n==O .cell)=ya
   .rw[Qo hc];simp only[Q4,hx];exact ih h
   .rw[QB hc];simp only[Q4,hx];exact ih h
theorem Th{env:Env}{x:Str}{k:NameKind}(hk:k≠.free):∀{names:List (Str×NameKind)},names.lookup x=O k ->
  (names.map λ(n,k)=>if(k==NameKind.free&&env.scope.kind==.function&&env.kindOf n==O .cell)then(n,NameKind.cell)else(n,k)).lookup x=O k
 |[],h=>by cases h
 |(n,j)::r,h=>by
  have ih:=@Th env x k hk r;show List.lookup x ((if(j==NameKind.free&&env.scope.kind==.function&&env.kindOf n==O .cell)=ya then(n,NameKind.cell)else(n,j))::_)=_;cases hx:x==n with
  |true=>
   simp only[Q4,hx]at h;cases h;have:(k==NameKind.free)=yb:=by cases k<;>first|rfl|exact absurd w8 hk
   rw[if_neg (by rw[this];simp)];simp[List.lookup_cons,hx]
  |false=>
   simp only[Q4,hx]at h;by_cases hc:(j==NameKind.free&&env.scope.kind==.function&&env.kindOf n==O .cell)=ya
   .rw[Qo hc];simp only[Q4,hx];exact ih h
   .rw[QB hc];simp only[Q4,hx];exact ih h
structure ClOk(env:Env)(scope:Scope)(cl:List (Str×Ux))(L:Ux)(h':Heap):Prop where
 old:∀x c,cl.lookup x=O c->env.cells.lookup x=O c∨(L<c/\h'.IsCell c w9)
 fre:∀x,scope.names.lookup x=O .free->∃c,cl.lookup x=O c/\env.cells.lookup x=O c
 cel:∀x,scope.names.lookup x=O .cell->∃c,cl.lookup x=O c/\L<c
 inj:∀x y c,cl.lookup x=O c->cl.lookup y=O c->L<c->x=y
theorem Pu:∀(names:List (Str×NameKind))(n:Nat)(acc:List (Str×Ux)),cellsFrom n names acc=cellsFrom n names []++acc
 |[],_,_=>rfl
 |(x,k)::r,n,acc=>by
  unfold cellsFrom;split
  .rw[Pu r (n+1) ((x,n)::acc),Pu r (n+1) [(x,n)],Ja];rfl
  .exact Pu r n acc
theorem MM:∀(names:List (Str×NameKind))(n:Nat)(x:Str)(c:Ux),(x,c)∈cellsFrom n names []->(x,NameKind.cell)∈names
 |[],_,_,_,h=>by cases h
 |(y,k)::r,n,x,c,h=>by
  unfold cellsFrom at h;split at h
  .rename_i hk
   rw[Pu]at h;rcases QC.mp h with h|h
   .exact Qh _ (MM r _ x c h)
   .cases Qq.mp h
    have:k=.cell:=by simpa using hk
    rw[this];exact Qi
  .exact Qh _ (MM r _ x c h)
theorem BD{M:Model}{A:Around}{E:Uu->Uv->Prop}{scope:Scope}{env:Env}{af:List (Str×Ux)}{s:Uv}{Q:Env->Uv->Prop}(ae:∀x c,af.lookup x=O c->env.cells.lookup x=O c)(cl2:∀y∈scope.names,y.2=.free->∃c,af.lookup y.1=O c)(hn:∀y∈scope.names,scope.names.lookup y.1=O y.2)
  (hlt:∀x c,env.cells.lookup x=O c->c<s.heap.objs.size)
  (h:∀h' cl,h'.Ns s.heap.objs.size (λ_=>w9)->(∀b o,s.heap.get? b=O o->h'.get? b=O o)->ClOk env scope cl s.heap.objs.size h'->Q (newEnv scope s.heap.objs.size env.globals cl env.qual w9 .none (O env) builtinsNs) {s with heap:=h'}) :
  UB M A (newFunctionEnv scope env.globals af [] env.qual w9 .none (O env)) Q E s:=by
 simp only[newFunctionEnv,Option.isSome_some,if_true];refine Qf (wpAny_alloc ?_);refine wpAny_bind (wpAny_layCells _ (λname kind cells=>by cases hkc:kind==NameKind.cell<;>simp[hkc]) _ _ _ _ ?_);have ok:=cellsFrom_ok scope.names (s.heap.push {cls:=.type "dict", data:=.dict #[]}) (s.heap.objs.size+1) [] ⟨λ_ _ hm=>(nomatch hm),List.Pairwise.nil⟩ (by rw[JI];exact Qu _);rw[JI]at ok;rw[show({s with heap:=s.heap.push {cls:=.type "dict", data:=.dict #[]}}:Uv).heap.objs.size=s.heap.objs.size+1 from JI ..];rw[List.forIn_nil];refine Qf (Qn (Qn (h _ _ ((Heap.Ns.new s.heap (.type "dict")).keeps (pushCells_keeps _ _)) (λb o e=>pushCells_keeps _ _ b o (Qm _ e)) ?_)));have look:∀x,(cellsFrom (s.heap.objs.size+1) scope.names af).lookup x=((cellsFrom (s.heap.objs.size+1) scope.names []).lookup x).or (af.lookup x):=λx=>by rw[Pu,List.lookup_append]
 have own:∀x c,(cellsFrom (s.heap.objs.size+1) scope.names []).lookup x=O c->scope.names.lookup x=O .cell:=λx c e=>hn _ (MM _ _ _ _ (Jk e))
 refine⟨λx c e=>?_,λx e=>?_,λx e=>?_,λx y c e1 e2 hc=>?_⟩
 .rw[look]at e
  cases z:(cellsFrom (s.heap.objs.size+1) scope.names []).lookup x with
  |none=>rw[z]at e;exact .inl (ae x c e)
  |some c'=>rw[z]at e;cases e;obtain⟨h1,h2⟩:=ok.empty x c (Jk z);exact .inr ⟨h2,h1⟩
 .obtain⟨c,hc⟩:=cl2 (x,.free) (mem_of_lookup e) w8
  refine⟨c,?_,ae x c hc⟩;rw[look];cases z:(cellsFrom (s.heap.objs.size+1) scope.names []).lookup x with
  |none=>exact hc
  |some c'=>have:=own x c' z;rw[e]at this;cases this
 .obtain⟨c,hc⟩:=Mp (n:=s.heap.objs.size+1) e
  refine⟨c,by rw[look,hc];rfl,(ok.empty x c (Jk hc)).2⟩
 .rw[look]at e1 e2
  cases z1:(cellsFrom (s.heap.objs.size+1) scope.names []).lookup x with
  |none=>rw[z1]at e1;exact absurd (hlt x c (ae x c e1)) (Nat.lt_asymm hc)
  |some c1=>
  cases z2:(cellsFrom (s.heap.objs.size+1) scope.names []).lookup y with
  |none=>rw[z2]at e2;exact absurd (hlt y c (ae y c e2)) (Nat.lt_asymm hc)
  |some c2=>rw[z1]at e1;rw[z2]at e2;cases e1;cases e2;exact name_of_addr ok.apart (Jk z1) (Jk z2)
noncomputable def Cx.blk(X:Cx)(N':List Str)(scope:Scope)(cl:List (Str×Ux))(C:Ux)(s₀:Uv)(H₀:Hp)(ex:yh):Cx:=
 {X with N:=N',s₀:=s₀,H₀:=H₀,env:=compEnvC scope cl C X.env,outer:=X.stack,ex:=ex,fn:=λx=>scope.names.lookup x==O .cell,xe:=λ_ _=>False}
section
variable{X:Cx}{N':List Str}{scope:Scope}{cl:List (Str×Ux)}{C:Ux}{s₀:Uv}{H₀:Hp}{ex:yh}{x:Str}
noncomputable def visK:Option NameKind->Bool
 |some .local=>ya|some .free=>ya|some .cell=>ya|_=>yb
theorem BZ(h:visK (scope.names.lookup x)=ya):Vis (X.blk N' scope cl C s₀ H₀ ex).env.scope x:=by
 cases z:scope.names.lookup x with
 |none=>rw[z]at h;cases h
 |some y=>
  rw[z]at h;cases y with
  | «local»=>exact .inl (Th (by decide) z)
  |cell=>exact .inr (.inl (Th (by decide) z))
  |free=>
   rcases ML (env:=X.env) z with z|z
   .exact .inr (.inr z)
   .exact .inr (.inl z)
  |_=>cases h
noncomputable def locK:Option NameKind->Bool
 |some .local=>ya|some .cell=>ya|_=>yb
theorem WG(h:locK (scope.names.lookup x)=ya):Loc (X.blk N' scope cl C s₀ H₀ ex).env.scope x/\((X.blk N' scope cl C s₀ H₀ ex).fn x=ya∨(X.blk N' scope cl C s₀ H₀ ex).env.scope.names.lookup x=O .local):=by
 cases z:scope.names.lookup x with
 |none=>rw[z]at h;cases h
 |some y=>
  rw[z]at h;cases y with
  | «local»=>exact⟨.inl (Th (by decide) z),.inr (Th (by decide) z)⟩
  |cell=>exact⟨.inr (Th (by decide) z),.inl (by show(scope.names.lookup x==O .cell)=ya;rw[z];rfl)⟩
  |_=>cases h
theorem BC(h:scope.names.lookup x=O .globalImplicit):Gl (X.blk N' scope cl C s₀ H₀ ex) x:=Th (by decide) h
end
noncomputable def Pg(names:List (Str×NameKind))(N N2:List Str)(k:Nat):Bool:=
 N2.length==N.length+k&&(UE N2.length).all λi=>match N2[i]? with
  |none=>ya
  |some x=>match names.lookup x with
   |some .free=>N[i]?==O x
   |some .local=>decide (N.length<=i)&&decide (i<N.length+k)
   |some .cell=>decide (N.length<=i)&&decide (i<N.length+k)
   |_=>ya
theorem wL{names:List (Str×NameKind)}{N N2:List Str}{k:Nat}(h:Pg names N N2 k=ya) :
  N2.length=N.length+k/\∀(i:Nat) x,N2[i]?=O x->(names.lookup x=O .free->N[i]?=O x)/\(names.lookup x=O .local∨names.lookup x=O .cell->N.length<=i/\i<N.length+k):=by
 unfold Pg at h;simp only[QR,beq_iff_eq,Je,Q3]at h;refine⟨h.1,λi x e=>?_⟩;have hi:=(Qg.mp e).1;have:=h.2 i hi;rw[e]at this;refine⟨λq=>?_,λq=>?_⟩
 .simp only[q]at this
  simpa using this
 .rcases q with q|q<;>(simp only[q]at this;simpa using this)
theorem Inv.enter{X:Cx}{pins:List (Ux×Obj)}{σ:St}{H:Hp}{s3:Uv}(I:Inv X pins σ H s3){scope:Scope}{cl:List (Str×Ux)}{N2:List Str}{k:Nat}{h':Heap}{fp:yh}{t':Nat}{m0:Str->yj}
  (hb:Pg scope.names X.N N2 k=ya) (hkind:scope.kind=.function)
  (hfree:∀y∈scope.names,y.2=.free->X.env.scope.names.lookup y.1=O .cell∨X.env.scope.names.lookup y.1=O .free)
  (hc:ClOk X.env scope cl s3.heap.objs.size h')
  (hn:h'.Ns s3.heap.objs.size m0) (hk:∀b o,s3.heap.get? b=O o->h'.get? b=O o) (hf:∀b∈fp,ZV X pins H b) (hfo:∀b∈fp,∃o,s3.heap.get? b=O o) :
  Inv (X.blk N2 scope cl s3.heap.objs.size s3 H fp) pins (σ++UF k w9) H {s3 with heap:=h',toks:=t'}:=by
 obtain⟨hl,hN⟩:=wL hb;have lt:∀b o,s3.heap.get? b=O o->b≠s3.heap.objs.size:=λb o e=>QT (Qj e);have ofl:∀x,scope.names.lookup x=O .free->(x,NameKind.free)∈scope.names:=λx h=>mem_of_lookup h;have kinv:∀x kk,(X.blk N2 scope cl s3.heap.objs.size s3 H fp).env.scope.names.lookup x=O kk->scope.names.lookup x=O kk∨(scope.names.lookup x=O .free/\kk=.cell):=λx kk h=>EN (env:=X.env) h
 have isfc:∀x,(X.blk N2 scope cl s3.heap.objs.size s3 H fp).env.scope.names.lookup x=O .cell∨(X.blk N2 scope cl s3.heap.objs.size s3 H fp).env.scope.names.lookup x=O .free->scope.names.lookup x=O .free∨scope.names.lookup x=O .cell:=λx h=>by
  rcases h with h|h
  .rcases kinv x _ h with z|z
   .exact .inr z
   .exact .inl z.1
  .rcases kinv x _ h with z|z
   .exact .inl z
   .exact .inl z.1
 have lto:∀x c,X.env.cells.lookup x=O c->c<s3.heap.objs.size:=λx c e=>let ⟨_,q⟩:=I.cell x c e;q.lt
 have ok:(X.blk N2 scope cl s3.heap.objs.size s3 H fp).Ok:=
  {
   mod:=I.ok.mod
   kind:=hkind
   glob:=I.ok.glob
   blt:=I.ok.blt
   above:=Qu _
   inj:=λx y c a b=>by
    rcases hc.old x c a with q|⟨q,_⟩
    .rcases hc.old y c b with q'|⟨q',_⟩
     .exact I.ok.inj x y c q q'
     .exact absurd (lto x c q) (Nat.lt_asymm q')
    .exact hc.inj x y c a b q
   has:=λx h=>by
    rcases isfc x h with z|z
    .exact let ⟨c,e,_⟩:=hc.fre x z;⟨c,e⟩
    .exact let ⟨c,e,_⟩:=hc.cel x z;⟨c,e⟩
   cab:=λx c h e=>by
    have z:scope.names.lookup x=O .cell:=by have h:(scope.names.lookup x==O .cell)=ya:=h;simpa using h
    obtain⟨c',e',l⟩:=hc.cel x z;have e:cl.lookup x=O c:=e;rw[e]at e';cases e';exact Ur l
   hd:=I.ok.hd
   frames:=I.ok.frames
   stk:=.inl w8
   exf:=λb hb=>⟨let ⟨o,e⟩:=hfo b hb;lt b o e,λx c e=>by
    rcases hc.old x c e with q|⟨q,_⟩
    .exact(hf b hb).2.2.2.2.1 x c q
    .obtain⟨o,e'⟩:=hfo b hb
     exact JH (Nat.lt_trans (Qj e') q)⟩
   bs:=I.bs
   bsz:=QJ I.ok.bsz I.sz
   noex:=λb o e hb=>by
    rcases(hf b hb).2.2.2.1 with z|z
    .exact I.ok.noex b o e z
    .exact absurd (QG (Qj e) (QJ I.ok.bsz z)) (Jv _)
   exfs:=λb hb hx=>by
    rcases Qw.mp (I.stkSub b hx)with z|z
    .exact(hf b hb).2.1 z
    .exact(hf b hb).2.2.1 z
   funs:=I.stack
   frf:=I.stkFree}
 refine⟨ok,rfl,I.bare,Un.kept hk,⟨m0,hn,λi x v e1 e2 e3=>?_⟩,λx c e=>?_,I.hok.fresh (Qu _),λx c e=>(hc.old x c e).elim (I.freeC x c) λq=>I.hok.fresh (Ur q.1),λp hp=>?_,I.hok.kept hk,?_⟩
 .have nl:¬(scope.names.lookup x=O .local∨scope.names.lookup x=O .cell):=λz=>by
   obtain⟨g1,g2⟩:=(hN i x e1).2 z;rw[←I.len]at g1 g2;rw[Qy g1,QD]at e2;split at e2<;>cases e2
  have fr:scope.names.lookup x=O .free:=by
   rcases e3 with z|z
   .rcases kinv x _ z with q|q
    .exact absurd (.inl q) nl
    .cases q.2
   .rcases isfc x z with q|q
    .exact q
    .exact absurd (.inr q) nl
  have eN:=(hN i x e1).1 fr;have hi:i<σ.length:=by rw[I.len];exact(Qg.mp eN).1
  rw[Qx hi]at e2;obtain⟨m,hm,hlk⟩:=I.loc;have hkd:=hfree _ (ofl x fr) w8;obtain⟨u,r,l⟩:=hlk i x v eN e2 (.inr hkd);refine⟨u,r,.inr ⟨?_,?_⟩⟩
  .rcases e3 with z|z|z
   .rcases kinv x _ z with q|q
    .exact absurd (.inl q) nl
    .cases q.2
   .exact .inl z
   .exact .inr z
  .rcases l with l|⟨_,c,ec,z⟩
   .have:X.env.scope.names.lookup x=O .local:=l.1
    rcases hkd with q|q<;>(dsimp only at q;rw[this]at q;cases q)
   .obtain⟨c',ec',this⟩:=hc.fre x fr
    rw[ec]at this;cases this;obtain⟨o,ho,hd⟩:=z;exact⟨c,ec',o,hk c o ho,hd⟩
 .rcases hc.old x c e with q|⟨_,q⟩
  .obtain⟨v,o,ho,hd⟩:=I.cell x c q
   exact⟨v,o,hk c o ho,hd⟩
  .exact⟨_,q⟩
 .obtain⟨e,n,ne,nf,d⟩:=I.pin p hp
  refine⟨hk _ _ e,n,lt _ _ e,λz=>?_,d⟩;rcases Qw.mp (I.stkSub _ z)with q|q
  .exact ne q
  .exact nf q
 .rw[Qk,QH,I.len]
  exact hl.symm
noncomputable abbrev nox:Uu->Uv->Prop:=λ_ _=>False
def Pf(prog:Uw)(w:World)(A:Around)(tg:Uz)(ifs:yg)(env:Env)(it:Uu)(code:Code)(W:(Uv->Prop)->Uv->Prop):Prop:=
 ∀(R:Result->Uv->Prop)(I:Nat->Uv->Prop)(n:Nat)(s:Uv),I n s ->
  (∀n s,I n s->UB (model prog w) A (pyNext it) (λr s₁=>match r with
   |none=>R (.ok .next) s₁
   |some v=>UB (model prog w) A (letOwnedTupleGo tg it v) (λ_ s₁'=>UB (model prog w) A (assign tg env v) (λ_ s₂=>
     UB (model prog w) A (forIn ifs ya λc r=>if r=ya then do let ok ←isTrue c env (eval c env);pure (ForInStep.yield ok)else pure (ForInStep.yield r)) (λok s₃=>
      if ok=ya then W (λs₅=>∃m,m<n/\I m s₅) s₃ else ∃m,m<n/\I m s₃) nox s₂) nox s₁') nox s₁) nox s)->codeAny (model prog w) A code R s
section
variable{prog:Uw}{w:World}{A:Around}{elt tg i:Uz}{ifs:yg}{gens:List Comprehension}{scope:Scope}{pos:Pos}{it acc:Uu}{env:Env}{j:Nat}
theorem xH(hg:gens[j]?=O ⟨tg,i,ifs,0⟩)(hn:gens[j+1]?=w9):Pf prog w A tg ifs env it (.compLoop (.ListComp elt gens scope pos) j it acc env)
  (λQ s=>UB (model prog w) A (eval elt env) (λx s₄=>UB (model prog w) A (call (.builtin "list.append") [acc,x]) (λ_ s₅=>Q s₅) nox s₄) nox s):=by
 intro R I n s h turn;refine codeAny_loop w8 I (λn s hI=>?_) n h;show UB _ A ((compTurn (.ListComp elt gens scope pos) j it acc env).onRaise (λx=>do noteFrame x env;theTreesLotGoes x)) _ _ s;refine wpAny_noted ?_;unfold compTurn;dsimp only;simp only[hg,hn];refine Qf (Js (Qf (QN (turn n s hI) (λr s₁ h₁=>?_) λ_ _ h'=>h'.elim)));cases r with
 |none=>exact Qn h₁
 |some v=>
  refine Qf (QN h₁ (λ_ s₁' h₁'=>?_) λ_ _ h'=>h'.elim);refine Qf (QN h₁' (λ_ s₂ h₂=>Qf (QN h₂ (λok s₃ h₃=>?_) λ_ _ h'=>h'.elim)) λ_ _ h'=>h'.elim);cases ok with
  |false=>exact Qn ⟨rfl,h₃⟩
  |true=>exact Qf (Qf (QN h₃ (λx s₄ h₄=>Qf (QN h₄ (λ_ s₅ h₅=>Qn (Qn ⟨rfl,h₅⟩)) λ_ _ h'=>h'.elim)) λ_ _ h'=>h'.elim))
theorem xG{yT i1:Uz}{ifs1:yg}(hg:gens[j]?=O ⟨tg,i,ifs,0⟩)(hn:gens[j+1]?=O ⟨yT,i1,ifs1,0⟩)(hs:∀x,US i1 env x=pure x):Pf prog w A tg ifs env it (.compLoop (.ListComp elt gens scope pos) j it acc env)
  (λQ s=>UB (model prog w) A (eval i1 env) (λx s₄=>UB (model prog w) A (pyIter x) (λyA s₅=>codeAny (model prog w) A (.compStart (.ListComp elt gens scope pos) (j+1) yA acc env)
   (λr s₆=>match r with | .ok _=>Q s₆ | .error _=>False) s₅) nox s₄) nox s):=by
 intro R I n s h turn;refine codeAny_loop w8 I (λn s hI=>?_) n h;show UB _ A ((compTurn (.ListComp elt gens scope pos) j it acc env).onRaise (λx=>do noteFrame x env;theTreesLotGoes x)) _ _ s;refine wpAny_noted ?_;unfold compTurn;dsimp only;simp only[hg,hn];refine Qf (Js (Qf (QN (turn n s hI) (λr s₁ h₁=>?_) λ_ _ h'=>h'.elim)));cases r with
 |none=>exact Qn h₁
 |some v=>
  refine Qf (QN h₁ (λ_ s₁' h₁'=>?_) λ_ _ h'=>h'.elim);refine Qf (QN h₁' (λ_ s₂ h₂=>Qf (QN h₂ (λok s₃ h₃=>?_) λ_ _ h'=>h'.elim)) λ_ _ h'=>h'.elim);cases ok with
  |false=>exact Qn ⟨rfl,h₃⟩
  |true=>
   refine Qf (QN h₃ (λx s₄ h₄=>Qf (Js (Qf (wpAny_of_eq (hs x) (Qf (wpAny_holding (QN h₄ (λyA s₅ h₅=>?_) λ_ _ h'=>h'.elim))))))) λ_ _ h'=>h'.elim);refine Qf (wpAny_runOwn (codeAny_mono h₅ λr s₆ h₆=>?_));cases r with
   |ok f=>exact Qn ⟨rfl,h₆⟩
   |error x=>exact h₆.elim
theorem wy{R:Result->Uv->Prop}{s:Uv}(hg:gens[j]?=O ⟨tg,i,ifs,0⟩)
  (h0:codeAny (model prog w) A (.compLoop (.ListComp elt gens scope pos) j it acc env) R s)
  (h:UB (model prog w) A (pyIter it) (λit' s'=>codeAny (model prog w) A (.compLoop (.ListComp elt gens scope pos) j it' acc env) R s') nox s) :
  codeAny (model prog w) A (.compStart (.ListComp elt gens scope pos) j it acc env) R s:=by
 refine codeAny_of_tree ?_;show UB _ _ ((compStart (.ListComp elt gens scope pos) j it acc env).onRaise (λx=>do noteFrame x env;standAt theWindowsPlace)) _ _ s;refine wpAny_notedAt ?_;unfold compStart;have hc:(clausesOf (.ListComp elt gens scope pos))[j]?=O ⟨tg,i,ifs,0⟩:=hg;simp only[hc];show UB _ _ (ask >>= _) _ _ s;refine Qf (wpAny_askSetting (wpAny_ite ?_));split
 .first
   |exact Qf (Qn (Qn (And.intro rfl h0)))
   |exact Qn (And.intro rfl h0)
 .first
   |exact Qf (wpAny_rule (Qf (Js (Qf (QN h (λit' s' h'=>Qn (And.intro rfl h')) λ_ _ x=>x.elim)))))
   |(refine Qf (wpAny_rule ?_);show UB _ _ (standAt _ >>= _) _ _ s;exact Qf (Js (Qf (QN h (λit' s' h'=>Qn (And.intro rfl h')) λ_ _ x=>x.elim))))
end
end L2
namespace DL
open PySem PySem.Spec L2
open PyProof.Rows hiding St
noncomputable def YX:Option Sl->Option Sl
 |some (.own _)=>w9
 |some (.deep _ _)=>w9
 |x=>x
noncomputable def Ks(Z:UU):UU:=Z.map YX
theorem xF{Z:UU}{i:Nat}{d:D}(h:(Ks Z)[i]?=O (O (.pub d))):Z[i]?=O (O (.pub d)):=by
 unfold Ks at h;rw[Qd]at h;cases e:Z[i]? with
 |none=>rw[e]at h;cases h
 |some o=>
  rw[e]at h;cases o with
  |none=>cases h
  |some sl=>cases sl with
   |pub d'=>cases h;rfl
   |own ds=>cases h
   |deep p d'=>cases h
theorem WY{Z:UU}{i:Nat}{ds:yc}(h:(Ks Z)[i]?=O (O (.own ds))):False:=by
 unfold Ks at h;rw[Qd]at h;cases e:Z[i]? with
 |none=>rw[e]at h;cases h
 |some o=>
  rw[e]at h;cases o with
  |none=>cases h
  |some sl=>cases sl with
   |pub d'=>cases h
   |own ds=>cases h
   |deep p d'=>cases h
theorem MJ{Z:UU}{i:Nat}{p:Pat}{d:D}(h:(Ks Z)[i]?=O (O (.deep p d))):False:=by
 unfold Ks at h;rw[Qd]at h;cases e:Z[i]? with
 |none=>rw[e]at h;cases h
 |some o=>
  rw[e]at h;cases o with
  |none=>cases h
  |some sl=>cases sl<;>cases h
noncomputable def K4(s:D->UU->yk)(t:M Bool)(g:M D):yc->UU->yc->Option yc
 |[],_,es=>O es
 |d::r,Z,es=>match s d Z with
  |none=>w9
  |some Z1=>match t Z1 with
   |.bad=>w9
   |.ok b Z2=>if b=ya then(match g Z2 with
     |.bad=>w9
     |.ok e Z3=>if es.length<1000000 then K4 s t g r (Ks Z3) (es++[e])else w9)
    else K4 s t g r (Ks Z2) es
noncomputable def ZH(f:M yc)(k:Nat)(s:D->UU->yk)(t:M Bool)(g:M D):M yc:=λZ=>match f Z with
 |.bad=>.bad
 |.ok ds Z1=>match K4 s t g ds (Ks Z1++UF k w9) []with
  |none=>.bad
  |some es=>.ok es Z1
def Xq(X:Cx)(ifs:yg)(t:TT):Prop:=
 ∀(pins:List (Ux×Obj))(s:Uv)(σ:St)(H:Hp)(Q:Bool->Hp->Prop),Inv X pins σ H s->t σ H Q ->
  UB (model X.prog X.w) X.A (forIn ifs ya λc r=>if r=ya then do let ok ←isTrue c X.env (eval c X.env);pure (ForInStep.yield ok)else pure (ForInStep.yield r)) (TP X pins σ Q) X.xe s
section
variable{X:Cx}{B G0:Hp}
theorem BY:Xq X [] (tBo X.K B G0 (U1 ya)):=λpins s σ H Q I ⟨G,Z,k,a⟩=>wpAny_tests_nil ⟨H,I,a ya G H k (.refl _) w8⟩
theorem Ou{c:Uz}{t:M Bool}(h:PT X c (tBo X.K B G0 t)):Xq X [c] (tBo X.K B G0 t):=λpins s σ H Q I q=>wpAny_tests_one (h pins s σ H Q I q)
theorem EOk.rebase{K:Frag}{G H:Hp}{σ:St}{Z:UU}(k:EOk K B G0 G H σ Z):EOk K H G G H σ (Ks Z) where
 bh:=.refl _
 gh:=k.gh
 g0:=.refl _
 np:=λ_ _ _ n=>n
 len:=by unfold Ks;rw[Qb];exact k.len
 pub:=λi d q=>k.pub i d (xF q)
 own:=λi ds q=>(WY q).elim
 sep:=λi j a ds es q=>(WY q).elim
 dp:=.of (λ_ _ _ q=>MJ q) λ_ _ q=>WY q
theorem EOk.more{K:Frag}{G H:Hp}{σ:St}{Z:UU}(k:EOk K H G G H σ (Ks Z))(n:Nat):EOk K H G G H (σ++UF n w9) (Ks Z++UF n w9) where
 bh:=.refl _
 gh:=k.gh
 g0:=.refl _
 np:=λ_ _ _ n=>n
 len:=by rw[Qk,Qk,k.len,QH,QH]
 pub:=λi d q=>by
  by_cases hi:i<(Ks Z).length
  .rw[Qx hi]at q
   rw[Qx (by rw[←k.len];exact hi)];exact k.pub i d q
  .rw[Qy (Ji hi),QD]at q
   split at q<;>cases q
 own:=λi ds q=>by
  by_cases hi:i<(Ks Z).length
  .rw[Qx hi]at q
   exact(WY q).elim
  .rw[Qy (Ji hi),QD]at q
   split at q<;>cases q
 sep:=λi j a ds es q=>by
  by_cases hi:i<(Ks Z).length
  .rw[Qx hi]at q
   exact(WY q).elim
  .rw[Qy (Ji hi),QD]at q
   split at q<;>cases q
 dp:=by
  refine .of (λi p d q=>?_) λi ds q=>?_
  .by_cases hi:i<(Ks Z).length
   .rw[Qx hi]at q;exact MJ q
   .rw[Qy (Ji hi),QD]at q;split at q<;>cases q
  .by_cases hi:i<(Ks Z).length
   .rw[Qx hi]at q;exact WY q
   .rw[Qy (Ji hi),QD]at q;split at q<;>cases q
theorem EOk.beside{K:Frag}{G H:Hp}{σ:St}{Z:UU}{a:Ux}{o:HO}(k:EOk K B G0 G H σ Z)(hg:G a=w9):EOk K (upd H a o) G G (upd H a o) σ (Ks Z) where
 bh:=.refl _
 gh:=λb u e=>by rw[KF (λz=>by subst z;rw[hg]at e;cases e)];exact k.gh b u e
 g0:=.refl _
 np:=λ_ _ _ n=>n
 len:=k.rebase.len
 pub:=k.rebase.pub
 own:=λi ds q=>(WY q).elim
 sep:=λi j a ds es q=>(WY q).elim
 dp:=.of (λ_ _ _ q=>MJ q) λ_ _ q=>WY q
theorem lim1:1000000<=UA:=lim
noncomputable def E6:Option Sl->Option Sl
 |some (.own ds)=>O (.pub (.list ds))
 |some (.deep _ d)=>O (.pub d)
 |x=>x
noncomputable def ZL(Z:UU):UU:=Z.map E6
theorem FE{Z:UU}{i:Nat}{d:D}(h:(ZL Z)[i]?=O (O (.pub d))):Z[i]?=O (O (.pub d))∨(∃ds,d=.list ds/\Z[i]?=O (O (.own ds))) ∨ ∃p,Z[i]?=O (O (.deep p d)):=by
 unfold ZL at h;rw[Qd]at h;cases e:Z[i]? with
 |none=>rw[e]at h;cases h
 |some o=>
  rw[e]at h;cases o with
  |none=>cases h
  |some sl=>cases sl with
   |pub d'=>cases h;exact .inl w8
   |own ds=>cases h;exact .inr (.inl ⟨ds,rfl,rfl⟩)
   |deep p d'=>cases h;exact .inr (.inr ⟨p,rfl⟩)
theorem RG{Z:UU}{i:Nat}{ds:yc}(h:(ZL Z)[i]?=O (O (.own ds))):False:=by
 unfold ZL at h;rw[Qd]at h;cases e:Z[i]? with
 |none=>rw[e]at h;cases h
 |some o=>
  rw[e]at h;cases o with
  |none=>cases h
  |some sl=>cases sl with
   |pub d'=>cases h
   |own ds=>cases h
   |deep p d'=>cases h
theorem Ed{Z:UU}{i:Nat}{p:Pat}{d:D}(h:(ZL Z)[i]?=O (O (.deep p d))):False:=by
 unfold ZL at h;rw[Qd]at h;cases e:Z[i]? with
 |none=>rw[e]at h;cases h
 |some o=>
  rw[e]at h;cases o with
  |none=>cases h
  |some sl=>cases sl<;>cases h
noncomputable def flat:D->Bool
 |.none=>ya | .bool _=>ya | .int _=>ya | .str _=>ya|_=>yb
theorem Rep.flat{K:Frag}{G G':Hp}{v:V}{d:D}(r:Rep K G v d)(h:DL.flat d=ya):Rep K G' v d:=by
 cases r with
 |non=>exact .non
 |bl b=>exact .bl b
 |int i=>exact .int i
 |str x=>exact .str x
 |lst _ _=>cases h
 |tup _ _=>cases h
 |dic _=>cases h
 |exc _ _ _ _=>cases h
 |dct _ _ _ _ _=>cases h
 |dtt _ _ _ _=>cases h
theorem Reps.flat{K:Frag}{G G':Hp}:∀{vs:List V}{ds:yc},Reps K G vs ds->ds.all DL.flat=ya->Reps K G' vs ds
 |_,_,.nil,_=>.nil
 |_,_,.cons r t,h=>by rw[List.all_cons,QR]at h;exact .cons (r.flat h.1) (Reps.flat t h.2)
theorem EOk.lend{K:Frag}{B G0 G H:Hp}{σ:St}{Z:UU}{D:Ux}{o:HO}(k:EOk K B G0 G H σ Z)(hD:H D=w9)(n:Nat):EOk K (upd H D o) H H (upd H D o) (σ++UF n w9) (ZL Z++UF n w9) where
 bh:=.refl _
 gh:=ZJ hD
 g0:=.refl _
 np:=λ_ _ _ n=>n
 len:=by unfold ZL;rw[Qk,Qk,Qb,k.len,QH,QH]
 pub:=λi d q=>by
  have hl:(ZL Z).length=Z.length:=by unfold ZL;rw[Qb]
  by_cases hi:i<(ZL Z).length
  .rw[Qx hi]at q
   rw[Qx (by rw[←k.len,←hl];exact hi)];rcases FE q with e|⟨ds,rfl,e⟩|⟨p,e⟩
   .obtain⟨v,h1,h2⟩:=k.pub i d e
    exact⟨v,h1,h2.mono k.gh⟩
   .obtain⟨a,vs,h1,h2,h3,h4,h5⟩:=k.own i ds e
    exact⟨.ref a,h1,.lst (SqL.of h4) (h5.mono k.gh)⟩
   .obtain⟨ω,k1,k2⟩:=k.dp
    obtain⟨v,fp,s,r,_⟩:=k1 i p d e;exact⟨v,s,r.rep k.gh⟩
  .rw[Qy (Ji hi),QD]at q
   split at q<;>cases q
 own:=λi ds q=>by
  by_cases hi:i<(ZL Z).length
  .rw[Qx hi]at q
   exact(RG q).elim
  .rw[Qy (Ji hi),QD]at q
   split at q<;>cases q
 sep:=λi j a ds es q=>by
  by_cases hi:i<(ZL Z).length
  .rw[Qx hi]at q
   exact(RG q).elim
  .rw[Qy (Ji hi),QD]at q
   split at q<;>cases q
 dp:=by
  refine .of (λi p d q=>?_) λi ds q=>?_
  .by_cases hi:i<(ZL Z).length
   .rw[Qx hi]at q;exact Ed q
   .rw[Qy (Ji hi),QD]at q;split at q<;>cases q
  .by_cases hi:i<(ZL Z).length
   .rw[Qx hi]at q;exact RG q
   .rw[Qy (Ji hi),QD]at q;split at q<;>cases q
noncomputable def R6(f:M yc)(k:Nat)(s:D->UU->yk)(t:M Bool)(g:M D):M yc:=λZ=>match f Z with
 |.bad=>.bad
 |.ok ds Z1=>match K4 s t g ds (ZL Z1++UF k w9) []with
  |none=>.bad
  |some es=>if es.all flat=ya then .ok es Z1 else .bad
end
noncomputable def Y4(s:D->UU->yk)(t:M Bool)(g:M D):yc->UU->yc->Option (yc×UU)
 |[],Z,es=>O (es,Z)
 |d::r,Z,es=>match s d Z with
  |none=>w9
  |some Z1=>match t Z1 with
   |.bad=>w9
   |.ok b Z2=>if b=ya then(match g Z2 with
     |.bad=>w9
     |.ok e Z3=>if es.length<1000000 then Y4 s t g r (Ks Z3) (es++[e])else w9)
    else Y4 s t g r (Ks Z2) es
noncomputable def Wg(s0:D->UU->yk)(t0:M Bool)(f1:M yc)(s1:D->UU->yk)(t1:M Bool)(g:M D):yc->UU->yc->Option yc
 |[],_,es=>O es
 |d::r,Z,es=>match s0 d Z with
  |none=>w9
  |some Z1=>match t0 Z1 with
   |.bad=>w9
   |.ok b Z2=>if b=ya then(match f1 Z2 with
     |.bad=>w9
     |.ok ds Z3=>match Y4 s1 t1 g ds (Ks Z3) es with
      |none=>w9
      |some (es',Z4)=>Wg s0 t0 f1 s1 t1 g r Z4 es')
    else Wg s0 t0 f1 s1 t1 g r (Ks Z2) es
noncomputable def R5(f:M yc)(k:Nat)(s:D->UU->yk)(t:M Bool)(f1:M yc)(zU:D->UU->yk)(t1':M Bool)(g:M D):M yc:=λZ=>match f Z with
 |.bad=>.bad
 |.ok ds Z1=>match Wg s t f1 zU t1' g ds (Ks Z1++UF k w9) []with
  |none=>.bad
  |some es=>.ok es Z1
noncomputable def XB(s0:D->UU->yk)(t0:M Bool)(f1:M yc)(Rd:yc->UU->yc->Option (yc×UU)):yc->UU->yc->Option (yc×UU)
 |[],Z,es=>O (es,Z)
 |d::r,Z,es=>match s0 d Z with
  |none=>w9
  |some Z1=>match t0 Z1 with
   |.bad=>w9
   |.ok b Z2=>if b=ya then(match f1 Z2 with
     |.bad=>w9
     |.ok ds Z3=>match Rd ds (Ks Z3) es with
      |none=>w9
      |some (es',Z4)=>XB s0 t0 f1 Rd r Z4 es')
    else XB s0 t0 f1 Rd r (Ks Z2) es
noncomputable def TQ(Rd:yc->UU->yc->Option (yc×UU))(ds:yc)(Z:UU)(es:yc):Option yc:=(Rd ds Z es).map (·.1)
noncomputable def R4(f:M yc)(k:Nat)(s:D->UU->yk)(t:M Bool)(f1:M yc)(zU:D->UU->yk)(t1':M Bool)(fx2:M yc)(s2':D->UU->yk)(t2':M Bool)(g:M D):M yc:=λZ=>match f Z with
 |.bad=>.bad
 |.ok ds Z1=>match TQ (XB s t f1 (XB zU t1' fx2 (Y4 s2' t2' g))) ds (Ks Z1++UF k w9) []with
  |none=>.bad
  |some es=>.ok es Z1
abbrev RdB:=UU->yc->Option (yc×UU)
noncomputable def rL(g:M D):RdB:=λZ es=>match g Z with
 |.bad=>w9
 |.ok e Z3=>if es.length<1000000 then O (es++[e],Ks Z3)else w9
noncomputable def cT(s:D->UU->yk)(t:M Bool)(rd:RdB):yc->UU->yc->Option (yc×UU)
 |[],Z,es=>O (es,Z)
 |d::r,Z,es=>match s d Z with
  |none=>w9
  |some Z1=>match t Z1 with
   |.bad=>w9
   |.ok b Z2=>if b=ya then(match rd Z2 es with
     |none=>w9
     |some (es',Z')=>cT s t rd r Z' es')
    else cT s t rd r (Ks Z2) es
noncomputable def rN(f:M yc)(s:D->UU->yk)(t:M Bool)(rd:RdB):RdB:=λZ es=>match f Z with
 |.bad=>w9
 |.ok ds Z3=>cT s t rd ds (Ks Z3) es
structure Left(Y:Cx)(D':Ux)(pins:List (Ux×Obj))(H G:Hp)(es':yc)(Z':UU)(σ':St)(H' G':Hp)(vs':List V)(s':Uv):Prop where
 inv:Inv Y pins σ' H' s'
 eok:EOk Y.K H' G' G' H' σ' Z'
 hh:∀a o,a≠D'->H a=O o->H' a=O o
 gg:Same G G'
 np:∀a(u:MO),a≠D'->H a=O u.ho->G a=w9->G' a=w9
 hd:H' D'=O (.lst vs')
 gd:G' D'=w9
 rp:Reps Y.K G' vs' es'
def RS(Y:Cx)(D':Ux)(W:(Uv->Prop)->Uv->Prop)(rd:RdB):Prop:=
 ∀(pins:List (Ux×Obj))(sh:Uv)(σ:St)(B1 G1 H G:Hp)(Z Z':UU)(vs:List V)(es es':yc)(Q:Uv->Prop),
  Inv Y pins σ H sh->EOk Y.K B1 G1 G H σ Z->B1 D'=O (.lst vs)->G1 D'=w9->Reps Y.K G1 vs es->rd Z es=O (es',Z') ->
  (∀σ' H' G' vs' s',Left Y D' pins B1 G1 es' Z' σ' H' G' vs' s'->Q s')->W Q sh
section
variable{Y:Cx}{D':Ux}
theorem xE{elt:Uz}{g:M D}(hx:Y.xe=nox)(he:∀B1 G1,PE Y elt (tD Y.K B1 G1 g)) :
  RS Y D' (λQ s=>UB (model Y.prog Y.w) Y.A (eval elt Y.env) (λx s₄=>UB (model Y.prog Y.w) Y.A (call (.builtin "list.append") [.ref D',x]) (λ_ s₅=>Q s₅) nox s₄) nox s) (rL g):=by
 intro pins sh σ B1 G1 H G Z Z' vs es es' Q I k hD gD r z fin;unfold rL at z;cases zg:g Z with
 |bad=>rw[zg]at z;cases z
 |ok e Z4=>
 rw[zg]at z;dsimp only at z;split at z
 .rename_i hle
  cases z;have h:=he B1 G1 pins sh σ H (λv H8=>∃G8,EOk Y.K B1 G1 G8 H8 σ Z4/\Rep Y.K G8 v e) I ⟨G,Z,k,by unfold aft;rw[zg];exact λv G8 H8 k8 _ q=>⟨G8,k8,q⟩⟩;rw[hx]at h;refine thn h λev s8 ⟨v,H8,I8,rv,G8,k8,r8⟩=>?_;have h2:=Mx pins s8 σ H8 (.ref D') [v] (.ref D') [ev] (λ_ H9=>H9=upd H8 D' (.lst (vs++[v]))) I8 w8 (.cons rv .nil) ⟨D',vs,v,rfl,rfl,k8.bh _ _ hD,by have:=lim1;rw[r.length];omega,rfl⟩
  rw[hx]at h2;refine thn h2 λ_ s9 ⟨_,H9,I9,_,e9⟩=>?_;subst e9;have g8:=k8.np _ (.l _) hD gD;exact fin σ _ G8 _ s9 ⟨I9,k8.beside g8,λa o z q=>by rw[KF z];exact k8.bh a o q,k8.g0,λa o _ q w=>k8.np a o q w,Zd,g8,(r.mono k8.g0).append (.cons r8 .nil)⟩
 .cases z
theorem Gy{tg:Uz}{ifs:yg}{code:Code}{W:(Uv->Prop)->Uv->Prop}{s:D->UU->yk}{t:M Bool}{rd:RdB}{it:Ux}(hx:Y.xe=nox)(hc:Y.calm=ya)(rule:Pf Y.prog Y.w Y.A tg ifs Y.env (.ref it) code W)
  (hg:∀B1 G1,PG Y tg (tG Y.K B1 G1 s)) (ht:∀B1 G1,Xq Y ifs (tBo Y.K B1 G1 t)) (hb:RS Y D' W rd)
  {pins:List (Ux×Obj)} {sh:Uv} {σ:St} {H G:Hp} {Z ZF:UU} {fp:yh} {tn:Nat->Heap->Prop} {J:It} {ds es esF:yc} {vs:List V} {R:Result->Uv->Prop}
  (I:Inv Y pins σ H sh) (T:Turn Y.prog Y.w Y.K tg J fp it tn) (st:tn 0 sh.heap) (hf:∀b∈fp,ZV Y pins H b)
  (k:EOk Y.K H G G H σ Z) (its:X6 Y.K J ds G) (hD:H D'=O (.lst vs)) (gD:G D'=w9) (r:Reps Y.K G vs es) (zl:cT s t rd ds Z es=O (esF,ZF))
  (zL:∀σ' H' G' vs' s',Left Y D' pins H G esF ZF σ' H' G' vs' s'->R (.ok .next) s'):codeAny (model Y.prog Y.w) Y.A code R sh:=by
 have stat:∀{H':Hp},(∀b∈fp,H' b=w9)->∀b∈fp,ZV Y pins H' b:=λhn b hb=>⟨hn b hb,(hf b hb).2⟩
 refine rule R (λn s'=>∃i σ' H' G' Z' vs' es',n=ds.length-i/\tn i s'.heap/\(∀b∈fp,H' b=w9)/\Left Y D' pins H G es' Z' σ' H' G' vs' s'/\cT s t rd (ds.drop i) Z' es'=O (esF,ZF)) ds.length sh
  ⟨0,σ,H,G,Z,vs,es,rfl,st,λb hb=>(hf b hb).1,⟨I,k,λ_ _ _ q=>q,.refl _,λ_ _ _ _ n=>n,hD,gD,r⟩,by rw[List.drop_zero];exact zl⟩ ?_
 rintro n s' ⟨i,σ',H',G',Z',vs',es',rfl,tn',fr',⟨I',k',ag,zT,np',ac,gD',r'⟩,zc⟩;by_cases hlt:i<ds.length
 .rw[Jr hlt,cT]at zc
  cases zs:s ds[i] Z' with
  |none=>rw[zs]at zc;cases zc
  |some Z2=>
  rw[zs]at zc;dsimp only at zc;cases zt:t Z2 with
  |bad=>rw[zt]at zc;cases zc
  |ok b Z3=>
  rw[zt]at zc;dsimp only at zc;refine thn (T.item Y w8 w8 w8 hc i pins s' σ' H' nox I' (stat fr') tn' (its.go i G' H' zT k'.gh hlt)) λrr s4 ⟨u,hr,h4⟩=>?_;subst hr;refine thn h4 λ_ s5 ⟨x,H5,I5,r5,y5,yU,fr5⟩=>?_
  obtain⟨G5,e5,rx⟩:=its.yld i G' H' x H5 ds[i] zT k'.gh (Qe hlt) y5;have h6:=hg H' G' _ s5 σ' H5 x u (λσ6 H6=>∃G6,EOk Y.K H' G' G6 H6 σ6 Z2) (I5.pinned (stat fr5) (T.obj _ _ yU)) r5 ⟨G5,Z',ds[i],Z2,k'.ext e5,rx,zs,λσ6 G6 H6 k6 _=>⟨G6,k6⟩⟩;rw[hx]at h6;refine thn h6 λ_ s6 ⟨σ6,H6,I6,G6,k6⟩=>?_;have h7:=ht H' G' _ s6 σ6 H6 (λc H7=>c=b/\∃G7,EOk Y.K H' G' G7 H7 σ6 Z3) I6 ⟨G6,Z2,k6,by unfold aft;rw[zt];exact λc G7 H7 k7 _ q=>⟨q,G7,k7⟩⟩
  rw[hx]at h7;refine thn h7 λok s7 ⟨H7,I7,hb7,G7,k7⟩=>?_;subst hb7
  have again:∀{H9:Hp}{σ9:St}{s9:Uv},Inv Y (pins++Pa fp s5.heap) σ9 H9 s9->Inv Y pins σ9 H9 s9/\tn (i+1) s9.heap/\∀b∈fp,H9 b=w9:=λ{H9 σ9 s9} I9=>by refine⟨I9.unpinned,T.keep _ _ _ yU λb hb o e=>(I9.pin (b,o) (QE _ (QE _ (OY hb e)))).1,λb hb=>?_⟩;obtain⟨o,e,d⟩:=T.obj _ _ yU b hb;exact(I9.pin (b,o) (QE _ (QE _ (OY hb e)))).2.1
  have lt:ds.length-(i+1)<ds.length-i:=Nat.sub_lt_sub_left hlt (JN i);cases ok with
  |false=>rw[QB (by decide)]at zc⊢;obtain⟨J1,J2,J3⟩:=again I7;exact⟨_,lt,i+1,σ6,H7,G7,Ks Z3,vs',es',rfl,J2,J3,⟨J1,k7.rebase,λa o z q=>k7.bh a o (ag a o z q),zT.trans k7.g0,λa o z q w=>k7.np a o (ag a _ z q) (np' a o z q w),k7.bh _ _ ac,k7.np _ (.l _) ac gD',r'.mono k7.g0⟩,zc⟩
  |true=>
   rw[Qo w8]at zc⊢;cases ze:rd Z3 es' with
   |none=>rw[ze]at zc;cases zc
   |some pr=>
   obtain⟨es1,Z5⟩:=pr;rw[ze]at zc;refine hb _ s7 σ6 H' G' H7 G7 Z3 Z5 vs' es' es1 _ I7 k7 ac gD' r' ze λσ9 H9 G9 vs9 s9 L=>?_
   obtain⟨J1,J2,J3⟩:=again L.inv;exact⟨_,lt,i+1,σ9,H9,G9,Z5,vs9,es1,rfl,J2,J3,⟨J1,L.eok,λa o z q=>L.hh a o z (ag a o z q),zT.trans L.gg,λa o z q w=>L.np a o z (ag a _ z q) (np' a o z q w),L.hd,L.gd,L.rp⟩,zc⟩
 .rw[List.drop_eq_nil_of_le (Ji hlt),cT]at zc
  cases zc;refine thn (T.done Y w8 w8 w8 hc i pins s' σ' H' nox I' (stat fr') tn' (its.stop i G' H' zT k'.gh (Ji hlt))) λrr s4 ⟨hr,I6⟩=>?_
  subst hr;exact zL σ' H' G' vs' s4 ⟨I6,k',ag,zT,np',ac,gD',r'⟩
theorem xW{elt yT i1:Uz}{ifs1:yg}{gens:List Comprehension}{scope:Scope}{pos:Pos}{j:Nat}{W:Uu->(Uv->Prop)->Uv->Prop}{f:M yc}{s:D->UU->yk}{t:M Bool}{rd:RdB}(hx:Y.xe=nox)(hc:Y.calm=ya)
  (hn:gens[j+1]?=O ⟨yT,i1,ifs1,0⟩) (rule:∀yA,Pf Y.prog Y.w Y.A yT ifs1 Y.env yA (.compLoop (.ListComp elt gens scope pos) (j+1) yA (.ref D') Y.env) (W yA))
  (hi:∀B1 G1,PI Y yT i1 (iD Y.K B1 G1 f)) (hg:∀B1 G1,PG Y yT (tG Y.K B1 G1 s)) (ht:∀B1 G1,Xq Y ifs1 (tBo Y.K B1 G1 t)) (hb:∀yA,RS Y D' (W yA) rd) :
  RS Y D' (λQ s=>UB (model Y.prog Y.w) Y.A (eval i1 Y.env) (λx s₄=>UB (model Y.prog Y.w) Y.A (pyIter x) (λyA s₅=>codeAny (model Y.prog Y.w) Y.A (.compStart (.ListComp elt gens scope pos) (j+1) yA (.ref D') Y.env)
   (λr s₆=>match r with | .ok _=>Q s₆ | .error _=>False) s₅) nox s₄) nox s) (rN f s t rd):=by
 intro pins sh σ B1 G1 H G Z Z' vs es es' Q I k hD gD r z fin;unfold rN at z;cases zf:f Z with
 |bad=>rw[zf]at z;cases z
 |ok ds Z3=>
 rw[zf]at z;have h:=hi B1 G1 pins sh σ H (λJ1 H8=>∃G8,EOk Y.K B1 G1 G8 H8 σ Z3/\X6 Y.K J1 ds G8) I ⟨G,Z,k,by rw[zf];exact λJ1 G8 H8 k8 _ q=>⟨G8,k8,q⟩⟩;rw[hx]at h;refine thn h λxv s8 h8=>thn h8 λitv s9 h9=>?_
 obtain⟨yA,fp1,tn1,J1,H9,rfl,I9,T1,st9,f9,G9,k9,its9⟩:=h9
 have loop:codeAny (model Y.prog Y.w) Y.A (.compLoop (.ListComp elt gens scope pos) (j+1) (.ref yA) (.ref D') Y.env) (λr s₆=>match r with | .ok _=>Q s₆ | .error _=>False) s9:=
  Gy hx hc (rule (.ref yA)) hg ht (hb _) I9 T1 st9 f9 k9.rebase its9 (k9.bh _ _ hD) (k9.np _ (.l _) hD gD) (r.mono k9.g0) z λσ' H' G' vs' s' L=>
   fin σ' H' G' vs' s' ⟨L.inv,L.eok,λa o z q=>L.hh a o z (k9.bh a o q),k9.g0.trans L.gg,λa o z q w=>L.np a o z (k9.bh a _ q) (k9.np a o q w),L.hd,L.gd,L.rp⟩
 exact wy hn loop (T1.self Y.A 0 _ _ _ st9 loop)
end
def RW(Y:Cx)(e:Uz)(j:Nat)(tg:Uz)(ifs:yg)(rd:RdB):Prop:=
 ∀(D':Ux)(it:Uu),∃W,Pf Y.prog Y.w Y.A tg ifs Y.env it (.compLoop e j it (.ref D') Y.env) W/\RS Y D' W rd
section
variable{Y:Cx}{elt tg i:Uz}{ifs:yg}{gens:List Comprehension}{scope:Scope}{pos:Pos}{j:Nat}
theorem OH{g:M D}(hx:Y.xe=nox)(hg:gens[j]?=O ⟨tg,i,ifs,0⟩)(hn:gens[j+1]?=w9)(he:∀B1 G1,PE Y elt (tD Y.K B1 G1 g)):RW Y (.ListComp elt gens scope pos) j tg ifs (rL g):=
 λ_ _=>⟨_,xH hg hn,xE hx he⟩
theorem xV{yT i1:Uz}{ifs1:yg}{f:M yc}{s:D->UU->yk}{t:M Bool}{rd:RdB}(hx:Y.xe=nox)(hc:Y.calm=ya)(hg:gens[j]?=O ⟨tg,i,ifs,0⟩)(hn:gens[j+1]?=O ⟨yT,i1,ifs1,0⟩)(hs:∀x,US i1 Y.env x=pure x)
  (hi:∀B1 G1,PI Y yT i1 (iD Y.K B1 G1 f)) (hgt:∀B1 G1,PG Y yT (tG Y.K B1 G1 s)) (ht:∀B1 G1,Xq Y ifs1 (tBo Y.K B1 G1 t)) (hb:RW Y (.ListComp elt gens scope pos) (j+1) yT ifs1 rd):RW Y (.ListComp elt gens scope pos) j tg ifs (rN f s t rd):=
 λD' _=>⟨_,xG hg hn hs,xW hx hc hn (λyA=>(Classical.choose_spec (hb D' yA)).1) hi hgt ht (λyA=>(Classical.choose_spec (hb D' yA)).2)⟩
end
noncomputable def YN(l:Bool)(Z:UU):UU:=match l with|true=>ZL Z|false=>Ks Z
theorem E5{K:Frag}{B G0 G1 H2:Hp}{σ:St}{Z1:UU}{D:Ux}(l:Bool)(k1:EOk K B G0 G1 H2 σ Z1)(hfr:H2 D=w9)(n:Nat) :
  ∃Gb,EOk K (upd H2 D (.lst [])) Gb Gb (upd H2 D (.lst [])) (σ++UF n w9) (YN l Z1++UF n w9)/\Same G1 Gb/\Gb D=w9 /\
   ∀(G' H':Hp) vs es,(l=ya->es.all flat=ya)->Same Gb G'->Same H2 H'->Same G' H'->(∀a(u:MO),H2 a=O u.ho->Gb a=w9->G' a=w9)->G' D=w9->Reps K G' vs es->∃Gf,Ext G1 H2 Gf H'/\Gf D=w9/\Reps K Gf vs es:=by
 have gD:G1 D=w9:=k1.gh.free hfr;cases l with
 |false=>exact⟨G1,(k1.beside gD).more n,.refl _,gD,λG' H' vs es _ g h gh np d r=>⟨G',⟨h,g,gh,np⟩,d,r⟩⟩
 |true=>exact⟨H2,k1.lend hfr n,k1.gh,hfr,λG' H' vs es fl _ h _ _ _ r=>⟨G1,⟨h,.refl _,k1.gh.trans h,λ_ _ _ n=>n⟩,gD,r.flat (fl w8)⟩⟩
noncomputable def dCG(l:Bool)(f:M yc)(k:Nat)(s:D->UU->yk)(t:M Bool)(rd:RdB):M yc:=λZ=>match f Z with
 |.bad=>.bad
 |.ok ds Z1=>match cT s t rd ds (YN l Z1++UF k w9) []with
  |none=>.bad
  |some (es,_)=>if l=ya->es.all flat=ya then .ok es Z1 else .bad
theorem NA{l:Bool}{f:M yc}{k:Nat}{s:D->UU->yk}{t:M Bool}{rd:RdB}{Z Z':UU}{es:yc}(h:dCG l f k s t rd Z=.ok es Z'):∃ds ZF,f Z=.ok ds Z'/\cT s t rd ds (YN l Z'++UF k w9) []=O (es,ZF)/\(l=ya->es.all flat=ya):=by
 unfold dCG at h;cases zf:f Z with
 |bad=>rw[zf]at h;cases h
 |ok ds Z1=>
 rw[zf]at h;dsimp only at h;cases zl:cT s t rd ds (YN l Z1++UF k w9) []with
 |none=>rw[zl]at h;cases h
 |some pr=>
 obtain⟨esF,ZF⟩:=pr;rw[zl]at h;dsimp only at h;split at h
 .rename_i hf
  cases h;exact⟨ds,ZF,rfl,zl,hf⟩
 .cases h
section
variable{X:Cx}{B G0:Hp}{KX:XW}
def Yk(X:Cx)(N2:List Str)(scope:Scope)(e tg:Uz)(ifs:yg)(s:D->UU->yk)(t:M Bool)(rd:RdB):Prop:=
 ∀(cl:List (Str×Ux))(C:Ux)(s₀:Uv)(H₀:Hp)(ex:yh),(∀B' G',PG (X.blk N2 scope cl C s₀ H₀ ex) tg (tG X.K B' G' s))/\(∀B' G',Xq (X.blk N2 scope cl C s₀ H₀ ex) ifs (tBo X.K B' G' t))/\RW (X.blk N2 scope cl C s₀ H₀ ex) e 0 tg ifs rd
structure SZ(SC scope:Scope)(N1 N2:List Str)(k:Nat):Prop where
 b:Pg scope.names N1 N2 k=ya
 kind:scope.kind=.function
 names:∀y∈scope.names,scope.names.lookup y.1=O y.2
 free:∀y∈scope.names,y.2=.free->SC.names.lookup y.1=O .cell∨SC.names.lookup y.1=O .free
theorem Mm{l:Bool}{tg elt iter:Uz}{ifs:yg}{gs:List Comprehension}{scope:Scope}{pos pos':Pos}{N2:List Str}{k:Nat}{f:M yc}{s:D->UU->yk}{t:M Bool}{rd:RdB}{use:Option (Uu->Sem Unit)}{Qc:Uu->Uv->Prop}(hc:X.calm=ya)
  (hi:PI X tg iter (iD X.K B G0 f)) (yt:Yk X N2 scope (.ListComp elt (⟨tg,iter,ifs,0⟩::gs) scope pos) tg ifs s t rd) (hb:SZ X.env.scope scope X.N N2 k) (hs:∀x,US iter X.env x=pure x)
  {pins:List (Ux×Obj)} {s0:Uv} {σ:St} {G H:Hp} {Z Z1 ZF:UU} {ds esF:yc} (I:Inv X pins σ H s0) (k0:EOk X.K B G0 G H σ Z) (zf:f Z=.ok ds Z1) (zl:cT s t rd ds (YN l Z1++UF k w9) []=O (esF,ZF)) (hfl:l=ya->esF.all flat=ya)
  (zL:∀(C D:Ux)(vs:List V)(G' H':Hp)(s4:Uv)(m:Str->yj),Inv X pins σ H' s4->s4.heap.Ns C m->H' C=w9->C≠X.env.locals->X.s₀.heap.objs.size<=C->(∀x c,X.env.cells.lookup x=O c->c≠C)->(∀p∈X.pn++pins,p.1≠C) ->
   EOk X.K B G0 G' H' σ Z1->Same G G'->NewL X.K B G' H' σ Z1 D vs esF->compPost (model X.prog X.w) X.A X.xe use Qc (.ref D) C (.ok .next) s4) :
  UB (model X.prog X.w) X.A (comprehension (.ListComp elt (⟨tg,iter,ifs,0⟩::gs) scope pos) scope X.env pos' (newList []) yb (eval iter X.env) use) Qc X.xe s0:=by
 obtain⟨af,hcl,ae,cl2⟩:=xY (scope:=scope) (env:=X.env) λy hy hf=>I.ok.has y.1 (hb.free y hy hf)
 refine wpAny_comprehension_free (use:=use) w8 hs hcl hb.kind (λy hy hl=>(hb.names y hy).trans (by rw[hl])) (thn (hi pins s0 σ H (λJ H1=>∃G1,EOk X.K B G0 G1 H1 σ Z1/\Same G G1/\X6 X.K J ds G1) I ⟨G,Z,k0,by rw[zf];exact λJ G1 H1 k1 s1 it=>⟨G1,k1,s1,it⟩⟩) λv s1 h1=>thn h1 λitv s2 h2=>?_);obtain⟨it,fp,tn,J,H2,rfl,I2,T,st2,f2,G1,k1,sg1,its⟩:=h2;refine wpAny_newObj_type (BD ae cl2 hb.names (λx c e=>let ⟨_,q⟩:=I2.cell x c e;QG q.lt (by first|exact Qu _|(rw[JI];exact JV _))) λh₁ cl hns₁ kept hco=>?_);dsimp only at hns₁ kept hco⊢;have hfr:H2 s2.heap.objs.size=w9:=I2.hok.fresh (Qu _)
 have I3:Inv X pins σ (upd H2 s2.heap.objs.size (.lst [])) {s2 with heap:=s2.heap.push {cls:=.type "list", dict:=w9,data:=.seq ([]:yf).toArray}}:=
  I2.laid (t':=s2.toks) (λb u e=>Qm _ e) (Qu _) ⟨JM _,[],0,.nil,QK _ w8⟩
 generalize hP:s2.heap.push {cls:=.type "list", dict:=w9,data:=.seq ([]:yf).toArray}=P at I3 hns₁ kept hco⊢;have old:∀b o,s2.heap.get? b=O o->P.get? b=O o:=λb o e=>hP ▸ Qm _ e;have fpo:∀b∈fp,∃o,s2.heap.get? b=O o:=λb hb=>let ⟨o,e,_⟩:=T.obj _ _ st2 b hb;⟨o,e⟩
 have fpD:∀b∈fp,b≠s2.heap.objs.size:=λb hb=>let ⟨o,e⟩:=fpo b hb;QT (Qj e)
 have f3:∀b∈fp,ZV X pins (upd H2 s2.heap.objs.size (.lst [])) b:=λb hb=>⟨by rw[KF (fpD b hb)];exact(f2 b hb).1,(f2 b hb).2⟩
 have I4:=I3.enter (scope:=scope) (cl:=cl) (N2:=N2) (k:=k) (fp:=fp) (t':=s2.toks) hb.b hb.kind hb.free hco hns₁ kept f3 (λb hb=>let ⟨o,e⟩:=fpo b hb;⟨o,old b o e⟩);dsimp only at I4;obtain⟨Gb,kb,sgb,gbD,ex⟩:=E5 l k1 hfr k;have sH:Same H2 (upd H2 s2.heap.objs.size (.lst [])):=ZJ hfr;have hD3:upd H2 s2.heap.objs.size (.lst []) s2.heap.objs.size=O (.lst []):=Zd;generalize upd H2 s2.heap.objs.size (.lst [])=H3 at I3 I4 f3 kb sH hD3;generalize s2.heap.objs.size=D at *;have tn0:tn 0 h₁:=T.keep 0 _ _ st2 λb hb o e=>kept b o (old b o e)
 have stat:∀b∈fp,ZV (X.blk N2 scope cl P.objs.size {s2 with heap:=P} H3 fp) pins H3 b:=λb hb=>by
  obtain⟨z0,z1,z2,z3,z4,z5⟩:=f3 b hb;obtain⟨o,e⟩:=fpo b hb;refine⟨z0,QT (Qj (old b o e)),λz=>?_,.inl hb,λx c q=>(hco.old x c q).elim (z4 x c) λw=>JH (Nat.lt_trans (Qj (old b o e)) w.1),z5⟩;rcases Qw.mp (I3.stkSub b z)with q|q
  .exact z1 q
  .exact z2 q
 have neD:∀a o,H2 a=O o->a≠D:=λa o q z=>by subst z;rw[hfr]at q;cases q
 obtain⟨hg,ht,hcl'⟩:=yt cl P.objs.size {s2 with heap:=P} H3 fp;obtain⟨W,rule,body⟩:=hcl' D (.ref it)
 have loop:=Gy (Y:=X.blk N2 scope cl P.objs.size {s2 with heap:=P} H3 fp) (D':=D) (R:=compPost (model X.prog X.w) X.A X.xe use Qc (.ref D) P.objs.size) w8 hc rule hg ht body I4 T tn0 stat kb
  ⟨λi G H s1 s2 hi=>its.go i G H (sgb.trans s1) s2 hi,λi G H s1 s2 hi=>its.stop i G H (sgb.trans s1) s2 hi,λi G H x H' d s1 s2 e y=>its.yld i G H x H' d (sgb.trans s1) s2 e y⟩ hD3 gbD .nil zl λσ' H' G' vs' s4 L=>by
   obtain⟨m,hm,_⟩:=id L.inv.loc;have I7:Inv X pins σ H' s4:=I3.call' (ch:=fp) L.inv.os L.inv.base L.inv.hok L.inv.bare λb hb=>⟨(f3 b hb).2.2.2.1,(f3 b hb).2.1,(f3 b hb).2.2.2.2.1,(f3 b hb).2.2.2.2.2⟩
   obtain⟨Gf,eF,dF,rF⟩:=ex G' H' vs' esF hfl L.gg (λa o q=>L.hh a o (neD a o q) (sH a o q)) L.eok.gh (λa o q z=>L.np a o (neD a _ q) (sH a _ q) z) L.gd L.rp
   refine zL P.objs.size D vs' Gf H' s4 m I7 hm L.inv.free (JH I3.lt) I3.sz (λx c e z=>by obtain⟨_,q⟩:=I3.cell x c e;exact absurd q.lt (by rw[z];exact Jv _)) (λp hp z=>by have:=Qj (I3.pin p hp).1;exact absurd this (by rw[z];exact Jv _))
    (k1.ext eF) (sg1.trans eF.g) ⟨k1.bh.free hfr,dF,L.hd,rF,λj es' q z=>?_,λj pt d v fp q s r=>k1.freshD eF.h hfr q s r⟩
   obtain⟨a',ws,h1',h2',h3',h4',h5'⟩:=k1.own j es' q;rw[z]at h1';cases h1';rw[hfr]at h4';cases h4'
 exact codeAny_compStart_list loop (T.self X.A 0 _ _ _ tn0 loop)
theorem Le{l:Bool}{tg elt iter:Uz}{ifs:yg}{gs:List Comprehension}{scope:Scope}{pos:Pos}{N2:List Str}{k:Nat}{f:M yc}{s:D->UU->yk}{t:M Bool}{rd:RdB}(hc:X.calm=ya)
  (hi:PI X tg iter (iD X.K B G0 f)) (yt:Yk X N2 scope (.ListComp elt (⟨tg,iter,ifs,0⟩::gs) scope pos) tg ifs s t rd) (hb:SZ X.env.scope scope X.N N2 k) (hs:∀x,US iter X.env x=pure x:=by intro _;rfl) :
  PE X (.ListComp elt (⟨tg,iter,ifs,0⟩::gs) scope pos) (tL X.K B G0 (dCG l f k s t rd)):=by
 intro pins s0 σ H Q I ⟨G,Z,k0,a⟩;cases z:dCG l f k s t rd Z with
 |bad=>rw[z]at a;exact a.elim
 |ok es Z1=>
 rw[z]at a;obtain⟨ds,ZF,zf,zl,hfl⟩:=NA z;rw[eval_ListComp];refine Mm hc hi yt hb hs I k0 zf zl hfl λC D vs G' H' s4 m I7 hm hC hL hz hcl hp k' s' n=>?_
 exact⟨m,hm,λh' sb=>⟨.ref D,H',I7.turned (t':=s4.toks) (it:=C) (λb o hb e=>(sb.2 b hb).trans e) hC hL (.inr hz) hcl hp,rfl,a D vs G' H' k' s' n⟩⟩
theorem sD_g{l:Bool}{y:Str}{j:Nat}{py:Pos}{spos:Pos}{tg elt iter:Uz}{ifs:yg}{gs:List Comprehension}{scope:Scope}{pos:Pos}{N2:List Str}{k:Nat}{f:M yc}{s:D->UU->yk}{t:M Bool}{rd:RdB}(hN:X.N.Nodup)(hj:X.N[j]?=O y)(hy:X.env.scope.names.lookup y=O .local)(hc:X.calm=ya)
  (hi:PI X tg iter (iD X.K B G0 f)) (yt:Yk X N2 scope (.ListComp elt (⟨tg,iter,ifs,0⟩::gs) scope pos) tg ifs s t rd) (hb:SZ X.env.scope scope X.N N2 k) (hs:∀x,US iter X.env x=pure x:=by intro _;rfl)
  (hsw:swapsWith (.ListComp elt (⟨tg,iter,ifs,0⟩::gs) scope pos) (O (.Name y py)) spos.line X.env=pure ya:=by rfl) :
  PS X (.Assign [.Name y py] (.ListComp elt (⟨tg,iter,ifs,0⟩::gs) scope pos) spos) (tS X.K B G0 KX (Zf j (dCG l f k s t rd))):=by
 intro pins s0 σ H Dn I ⟨G,Z,k0,a⟩;unfold Zf sB at a;cases z:dCG l f k s t rd Z with
 |bad=>rw[z]at a;exact a.elim
 |ok es Z1=>
 rw[z]at a;dsimp only at a;by_cases hl:j<Z1.length
 .rw[Qo hl]at a
  obtain⟨ds,ZF,zf,zl,hfl⟩:=NA z;rw[exec_Assign_Name_used _ _ _ _ hsw];refine Qf (Js (Qf ?_));show UB _ X.A (do let _ ←comprehension (.ListComp elt (⟨tg,iter,ifs,0⟩::gs) scope pos) scope X.env _ (newList []) yb (eval iter X.env) (O (assign (.Name y py) X.env))) _ _ s0;refine Qf (QN (Mm (use:=O (assign (.Name y py) X.env)) (Qc:=λ_ s'=>SP X pins Dn .next s') hc hi yt hb hs I k0 zf zl hfl λC D vs G' H' s4 m I7 hm hC hL hz hcl hp k' s' n=>?_) (λ_ s' hq=>Qn (Qn hq)) λ_ _ e=>e);show UB _ X.A (assign (.Name y py) X.env (.ref D)) _ _ s4;refine wpAny_assign_Name (Mz I7 hN hj (.inl hy) (v:=.ref D) w8 (λs5 I8 ⟨ad,sb,hx⟩=>?_) (.inr hy))
  have hCa:C≠ad:=by
   rcases hx with e|e
   .rw[e];exact hL
   .exact Ne.symm (hcl y ad e)
  refine⟨m,hm.sameBut sb hCa,λh' yY=>⟨_,H',I8.turned (t':=s5.toks) (it:=C) (λb o hb e=>(yY.2 b hb).trans e) hC hL (.inr hz) hcl hp,?_⟩⟩;exact a _ G' H' (k'.setOwn n hl) s'
 .rw[QB hl]at a;exact a.elim
theorem Ld{K:Frag}{f f':M yc}(h:∀Z es Z',f Z=.ok es Z'->f' Z=.ok es Z'){σ:St}{H:Hp}{Q:VK}(q:tL K B G0 f σ H Q):tL K B G0 f' σ H Q:=by
 obtain⟨G,Z,k,a⟩:=q;refine⟨G,Z,k,?_⟩;cases z:f Z with
 |bad=>rw[z]at a;exact a.elim
 |ok es Z'=>rw[z]at a;rw[h Z es Z' z];exact a
theorem Lv{K:Frag}{f f':M yc}{j:Nat}(h:∀Z es Z',f Z=.ok es Z'->f' Z=.ok es Z'){Dn:_}{σ:St}{H:Hp}(q:tS K B G0 KX (Zf j f) Dn σ H):tS K B G0 KX (Zf j f') Dn σ H:=by
 obtain⟨G,Z,k,a⟩:=q;refine⟨G,Z,k,?_⟩;unfold Zf sB at a⊢;cases z:f Z with
 |bad=>rw[z]at a;exact a.elim
 |ok es Z'=>rw[z]at a;rw[h Z es Z' z];exact a
end
theorem OC{s:D->UU->yk}{t:M Bool}{g:M D}:∀{ds:yc}{Z:UU}{es esF:yc},K4 s t g ds Z es=O esF->∃ZF,cT s t (rL g) ds Z es=O (esF,ZF)
 |[],Z,es,esF,h=>by rw[K4]at h;cases h;exact⟨Z,rfl⟩
 |d::r,Z,es,esF,h=>by
  rw[K4]at h;rw[cT];cases zs:s d Z with
  |none=>rw[zs]at h;cases h
  |some Z1=>
  rw[zs]at h;dsimp only at h⊢;cases zt:t Z1 with
  |bad=>rw[zt]at h;cases h
  |ok b Z2=>
  rw[zt]at h;dsimp only at h⊢;cases b with
  |false=>exact OC (ds:=r) h
  |true=>
   rw[Qo w8]at h⊢;unfold rL;cases zg:g Z2 with
   |bad=>rw[zg]at h;cases h
   |ok e Z3=>
   rw[zg]at h;dsimp only at h⊢;split at h
   .rename_i hl
    rw[Qo hl];exact OC (ds:=r) h
   .cases h
theorem OG{s:D->UU->yk}{t:M Bool}{g:M D}:∀{ds:yc}{Z:UU}{es:yc},Y4 s t g ds Z es=cT s t (rL g) ds Z es
 |[],Z,es=>rfl
 |d::r,Z,es=>by
  rw[Y4,cT];cases s d Z with
  |none=>rfl
  |some Z1=>
  dsimp only;cases t Z1 with
  |bad=>rfl
  |ok b Z2=>
  dsimp only;cases b with
  |false=>exact OG (ds:=r)
  |true=>
   rw[Qo w8,Qo w8];unfold rL;cases g Z2 with
   |bad=>rfl
   |ok e Z3=>
   dsimp only;split
   .exact OG (ds:=r)
   .rfl
theorem OX{s s1:D->UU->yk}{t t1:M Bool}{f:M yc}{Rd:yc->UU->yc->Option (yc×UU)}{rd:RdB}(hR:∀ds Z es,Rd ds Z es=cT s1 t1 rd ds Z es) :
  ∀{ds:yc}{Z:UU}{es:yc},XB s t f Rd ds Z es=cT s t (rN f s1 t1 rd) ds Z es
 |[],Z,es=>rfl
 |d::r,Z,es=>by
  rw[XB,cT];cases s d Z with
  |none=>rfl
  |some Z1=>
  dsimp only;cases t Z1 with
  |bad=>rfl
  |ok b Z2=>
  dsimp only;cases b with
  |false=>exact OX hR (ds:=r)
  |true=>
   rw[Qo w8,Qo w8];unfold rN;cases f Z2 with
   |bad=>rfl
   |ok ds Z3=>
   dsimp only;rw[hR];cases cT s1 t1 rd ds (Ks Z3) es with
   |none=>rfl
   |some pr=>exact OX hR (ds:=r)
theorem Mw{s s1:D->UU->yk}{t t1:M Bool}{f:M yc}{g:M D}:∀{ds:yc}{Z:UU}{es esF:yc},Wg s t f s1 t1 g ds Z es=O esF->∃ZF,cT s t (rN f s1 t1 (rL g)) ds Z es=O (esF,ZF)
 |[],Z,es,esF,h=>by rw[Wg]at h;cases h;exact⟨Z,rfl⟩
 |d::r,Z,es,esF,h=>by
  rw[Wg]at h;rw[cT];cases zs:s d Z with
  |none=>rw[zs]at h;cases h
  |some Z1=>
  rw[zs]at h;dsimp only at h⊢;cases zt:t Z1 with
  |bad=>rw[zt]at h;cases h
  |ok b Z2=>
  rw[zt]at h;dsimp only at h⊢;cases b with
  |false=>exact Mw (ds:=r) h
  |true=>
   rw[Qo w8]at h⊢;unfold rN;cases zg:f Z2 with
   |bad=>rw[zg]at h;cases h
   |ok ds Z3=>
   rw[zg]at h;dsimp only at h⊢;rw[←OG];cases zl:Y4 s1 t1 g ds (Ks Z3) es with
   |none=>rw[zl]at h;cases h
   |some pr=>rw[zl]at h;exact Mw (ds:=r) h
theorem OB{f:M yc}{k:Nat}{s:D->UU->yk}{t:M Bool}{g:M D}(Z:UU)(es:yc)(Z':UU)(h:ZH f k s t g Z=.ok es Z'):dCG yb f k s t (rL g) Z=.ok es Z':=by
 unfold ZH at h;unfold dCG;cases zf:f Z with
 |bad=>rw[zf]at h;cases h
 |ok ds Z1=>
 rw[zf]at h;dsimp only[YN]at h⊢;cases zl:K4 s t g ds (Ks Z1++UF k w9) []with
 |none=>rw[zl]at h;cases h
 |some esF=>
 rw[zl]at h;cases h;obtain⟨ZF,e⟩:=OC zl;rw[e];exact Qo λz=>by cases z
theorem xU{f:M yc}{k:Nat}{s:D->UU->yk}{t:M Bool}{g:M D}(Z:UU)(es:yc)(Z':UU)(h:R6 f k s t g Z=.ok es Z'):dCG ya f k s t (rL g) Z=.ok es Z':=by
 unfold R6 at h;unfold dCG;cases zf:f Z with
 |bad=>rw[zf]at h;cases h
 |ok ds Z1=>
 rw[zf]at h;dsimp only[YN]at h⊢;cases zl:K4 s t g ds (ZL Z1++UF k w9) []with
 |none=>rw[zl]at h;cases h
 |some esF=>
 rw[zl]at h;dsimp only at h;split at h
 .rename_i hf
  cases h;obtain⟨ZF,e⟩:=OC zl;rw[e];exact Qo λ_=>hf
 .cases h
theorem xT{f f1:M yc}{k:Nat}{s s1:D->UU->yk}{t t1:M Bool}{g:M D}(Z:UU)(es:yc)(Z':UU)(h:R5 f k s t f1 s1 t1 g Z=.ok es Z'):dCG yb f k s t (rN f1 s1 t1 (rL g)) Z=.ok es Z':=by
 unfold R5 at h;unfold dCG;cases zf:f Z with
 |bad=>rw[zf]at h;cases h
 |ok ds Z1=>
 rw[zf]at h;dsimp only[YN]at h⊢;cases zl:Wg s t f1 s1 t1 g ds (Ks Z1++UF k w9) []with
 |none=>rw[zl]at h;cases h
 |some esF=>
 rw[zl]at h;cases h;obtain⟨ZF,e⟩:=Mw zl;rw[e];exact Qo λz=>by cases z
theorem xS{f f1 f2:M yc}{k:Nat}{s s1 s2:D->UU->yk}{t t1 t2:M Bool}{g:M D}(Z:UU)(es:yc)(Z':UU)(h:R4 f k s t f1 s1 t1 f2 s2 t2 g Z=.ok es Z'):dCG yb f k s t (rN f1 s1 t1 (rN f2 s2 t2 (rL g))) Z=.ok es Z':=by
 unfold R4 at h;unfold dCG;cases zf:f Z with
 |bad=>rw[zf]at h;cases h
 |ok ds Z1=>
 rw[zf]at h;dsimp only[YN,TQ]at h⊢;rw[OX λ_ _ _=>OX λ_ _ _=>OG]at h;cases zl:cT s t (rN f1 s1 t1 (rN f2 s2 t2 (rL g))) ds (Ks Z1++UF k w9) []with
 |none=>rw[zl]at h;cases h
 |some pr=>
 rw[zl]at h;cases h;exact Qo λz=>by cases z
noncomputable def WE(q:Option NameKind->Bool)(SC scope:Scope)(N1 N2:List Str)(k:Nat):Bool:=
 Pg scope.names N1 N2 k&&decide (scope.kind=.function)&&(scope.names.all λy=>decide (scope.names.lookup y.1=O y.2))&&scope.names.all λy=>match y.2 with
  |.free=>q (SC.names.lookup y.1)
  |_=>ya
noncomputable def VU:Option NameKind->Bool
 |some .cell=>ya|some .free=>ya|_=>yb
theorem Ec{q:Option NameKind->Bool}{SC SC' scope:Scope}{N1 N2:List Str}{k:Nat}(h:WE q SC scope N1 N2 k=ya)(f:∀x,q (SC.names.lookup x)=ya->SC'.names.lookup x=O .cell∨SC'.names.lookup x=O .free):SZ SC' scope N1 N2 k:=by unfold WE at h;rw[QR,QR,QR,Je,Je]at h;obtain⟨⟨⟨h1,h2⟩,h0⟩,h3⟩:=h;refine⟨h1,Qa h2,λy hy=>Qa (h0 y hy),λy hy e=>?_⟩;have:=h3 y hy;rw[e]at this;exact f _ this
theorem Nz{SC scope:Scope}{N1 N2:List Str}{k:Nat}(h:WE VU SC scope N1 N2 k=ya):SZ SC scope N1 N2 k:=Ec h λx e=>by
 cases z:SC.names.lookup x with
 |none=>rw[z]at e;cases e
 |some y=>rw[z]at e;cases y<;>first|exact .inl rfl|exact .inr rfl|cases e
section
variable{X:Cx}{B G0:Hp}{KX:XW}
theorem O2{l:Bool}{tg elt iter:Uz}{ifs:yg}{gs:List Comprehension}{scope:Scope}{pos:Pos}{f:M yc}{s:D->UU->yk}{t:M Bool}{rd:RdB}{F:M yc}(SC:Scope)(N1 N2:List Str)(k:Nat)(le:∀Z es Z',F Z=.ok es Z'->dCG l f k s t rd Z=.ok es Z')(hc:X.calm=ya)
  (hi:PI X tg iter (iD X.K B G0 f)) (yt:Yk X N2 scope (.ListComp elt (⟨tg,iter,ifs,0⟩::gs) scope pos) tg ifs s t rd) (h1:X.env.scope=SC) (h2:X.N=N1) (hb:WE VU SC scope N1 N2 k=ya) (hs:∀x,US iter X.env x=pure x:=by intro _;rfl) :
  PE X (.ListComp elt (⟨tg,iter,ifs,0⟩::gs) scope pos) (tL X.K B G0 F):=
 Kt (Le hc hi yt (by rw[h1,h2];exact Nz hb) hs) λ_ _ _ q=>Ld le q
theorem sD_1{l:Bool}{y:Str}{j:Nat}{py:Pos}{spos:Pos}{tg elt iter:Uz}{ifs:yg}{gs:List Comprehension}{scope:Scope}{pos:Pos}{f:M yc}{s:D->UU->yk}{t:M Bool}{rd:RdB}{F:M yc}(SC:Scope)(N1 N2:List Str)(k:Nat)(le:∀Z es Z',F Z=.ok es Z'->dCG l f k s t rd Z=.ok es Z')(hN:X.N.Nodup)(hj:X.N[j]?=O y)(hy:X.env.scope.names.lookup y=O .local)(hc:X.calm=ya)
  (hi:PI X tg iter (iD X.K B G0 f)) (yt:Yk X N2 scope (.ListComp elt (⟨tg,iter,ifs,0⟩::gs) scope pos) tg ifs s t rd) (h1:X.env.scope=SC) (h2:X.N=N1) (hb:WE VU SC scope N1 N2 k=ya) (hs:∀x,US iter X.env x=pure x:=by intro _;rfl)
  (hsw:swapsWith (.ListComp elt (⟨tg,iter,ifs,0⟩::gs) scope pos) (O (.Name y py)) spos.line X.env=pure ya:=by rfl) :
  PS X (.Assign [.Name y py] (.ListComp elt (⟨tg,iter,ifs,0⟩::gs) scope pos) spos) (tS X.K B G0 KX (Zf j F)):=
 ZD (sD_g hN hj hy hc hi yt (by rw[h1,h2];exact Nz hb) hs hsw) λ_ _ _ q=>Lv le q
theorem BB{l:Bool}{scope0:Scope}{cl:List (Str×Ux)}{C:Ux}{s₀:Uv}{H₀:Hp}{ex:yh}{N2:List Str}{tg elt iter:Uz}{ifs:yg}{gs:List Comprehension}{scope:Scope}{pos:Pos}{f:M yc}{s:D->UU->yk}{t:M Bool}{rd:RdB}{F:M yc}(N3:List Str)(k:Nat)(le:∀Z es Z',F Z=.ok es Z'->dCG l f k s t rd Z=.ok es Z')(hc:X.calm=ya)
  (hi:PI (X.blk N2 scope0 cl C s₀ H₀ ex) tg iter (iD X.K B G0 f)) (yt:Yk (X.blk N2 scope0 cl C s₀ H₀ ex) N3 scope (.ListComp elt (⟨tg,iter,ifs,0⟩::gs) scope pos) tg ifs s t rd) (hb:WE VU scope0 scope N2 N3 k=ya) (hs:∀x,US iter (X.blk N2 scope0 cl C s₀ H₀ ex).env x=pure x:=by intro _;rfl) :
  PE (X.blk N2 scope0 cl C s₀ H₀ ex) (.ListComp elt (⟨tg,iter,ifs,0⟩::gs) scope pos) (tL X.K B G0 F):=by
 refine Kt (Le (X:=X.blk N2 scope0 cl C s₀ H₀ ex) hc hi yt (Ec hb λx e=>?_) hs) λ_ _ _ q=>Ld le q
 cases z:scope0.names.lookup x with
 |none=>rw[z]at e;cases e
 |some y=>
  rw[z]at e;cases y with
  |free=>exact(ML (env:=X.env) z).symm
  |cell=>exact .inl (Th (by decide) z)
  |_=>cases e
end
theorem jW{f:M yc}{k:Nat}{s zU s2':D->UU->yk}{t t1' t2':M Bool}{f1 f2:M yc}{g:M D}{Z Z1 Z2:UU}{ds es:yc}(h1:f Z=.ok ds Z1)(h2:XB s t f1 (XB zU t1' f2 (Y4 s2' t2' g)) ds (Ks Z1++UF k w9) []=O (es,Z2)) :
  R4 f k s t f1 zU t1' f2 s2' t2' g Z=.ok es Z1:=by
 unfold R4;rw[h1];dsimp only[TQ];rw[h2];rfl
section
variable{X:Cx}{B G0:Hp}{e a b c tg:Uz}{pos:Pos}{es rest:yg}
theorem EOk.given{K:Frag}{G H:Hp}{σ:St}{Z:UU}{a:Ux}{vs:List V}{ds:yc}(k:EOk K B G0 G H σ Z)(n:NewL K B G H σ Z a vs ds):EOk K B G0 (upd G a (.lst vs)) H σ Z where
 bh:=k.bh
 gh:=λb u q=>by
  by_cases z:b=a
  .subst z;rw[Zd]at q;cases q;exact n.h
  .rw[KF z]at q;exact k.gh b u q
 g0:=k.g0.trans (ZJ n.g)
 np:=λb o q z=>by
  have zb:b≠a:=λz=>by subst z;rw[n.b]at q;cases q
  rw[KF zb];exact k.np b o q z
 len:=k.len
 pub:=λi d q=>let ⟨v,h1,h2⟩:=k.pub i d q;⟨v,h1,h2.mono (ZJ n.g)⟩
 own:=λi ds q=>by
  obtain⟨b,ws,h1,h2,h3,h4,h5⟩:=k.own i ds q;have zb:b≠a:=λz=>by subst z;exact n.f i ds q h1
  exact⟨b,ws,h1,h2,by rw[KF zb];exact h3,h4,h5.mono (ZJ n.g)⟩
 sep:=k.sep
 dp:=k.dp.map (λ_ _ _ q=>⟨q,rfl⟩) (λ_ ds q=>⟨ds,q,rfl⟩) λi p d v fp q s r w nn=>⟨r.mono (ZJ n.g) (.refl _),λb m=>⟨(w b m).1,by rw[KF (λz=>n.dp i p d v fp q s r (by rw[←z];exact m))];exact(w b m).2⟩⟩
theorem Ny{f:M yc}(h:PE X e (tL X.K B G0 f)):PE X e (tD X.K B G0 (Kb UG f)):=
 Kt h λσ H Q ⟨G,Z,k,a⟩=>by
  refine⟨G,Z,k,?_⟩;unfold Kb Ki at a;cases z:f Z with
  |bad=>rw[z]at a;exact a.elim
  |ok ds Z1=>rw[z]at a;intro ad vs G' H' k' s' n;exact a (.ref ad) _ H' (k'.given n) (s'.trans (ZJ n.g)) (.lst (SqL.of Zd) (n.r.mono (ZJ n.g)))
theorem jV(hc:X.calm=ya):YZ X (.builtin "all") (λxs H Q=>∃l,∃bs:List Bool,xs=[.ref l]/\SqL X.K H l (bs.map V.bl)/\Q (.bl (bs.all id)) H):=by
 intro pins s σ H xs us Q I rx h;obtain⟨l,bs,rfl,hq,q⟩:=h;obtain⟨u,rfl,ru⟩:=rx.one;cases ru;obtain⟨its,rv,p,hz⟩:=I.list hq;have hl:=p.isList;have hlt:l<s.heap.objs.size:=by obtain⟨_,e,_⟩:=id hl;exact Qj e
 have key:∀(i:Nat) v,its.toArray[i]?=O v->∃t,bs[i]?=O t/\v=.bool t:=λi v e=>by
  have e:its[i]?=O v:=by simpa using e
  have hi:i<bs.length:=by have:=(Qg.mp e).1;have h2:=rv.length;rw[Qb]at h2;omega
  obtain⟨u,e2,r2⟩:=rv.get (i:=i) (x:=.bl bs[i]) (by rw[Qd,Qe hi];rfl);rw[e]at e2;cases e2;exact⟨bs[i],Qe hi,r2⟩
 refine call_all_walk (JJ hl ?_)
 refine⟨s.heap.objs.size,[s.heap.objs.size,l],[s.heap.objs.size],its.toArray.size,_,_,λi=>(bs[i]?).getD ya,rfl,Walks.list (A:=X.A.in1) (I.ok.hd hc) _ l (QT hlt) its.toArray,
  ⟨⟨_,QK _ w8,rfl,rfl⟩,hl.push _⟩,λi v s' Q' E' hP hQ=>?_,λh' tk hk=>?_⟩
 .obtain⟨b,e,rfl⟩:=key i v hP
  simp only[e,J4]at hQ;exact Q7 hQ
 .have hn:its.toArray.size=bs.length:=by have:=rv.length;rw[List.length_map]at this;simp;omega
  have e:((UE its.toArray.size).all λi=>(bs[i]?).getD ya)=bs.all id:=by
   rw[hn,Ua,Je,Je];constructor
   .intro h b hb
    obtain⟨i,hi,e⟩:=List.getElem_of_mem hb;have:=h i (Q3.mpr hi);simp only[Qe hi,J4,e]at this;exact this
   .intro h i hi
    have hi':=Q3.mp hi;simp only[Qe hi',J4];exact h _ (Jp hi')
  rw[e];exact⟨.bl (bs.all id),H,I.kept (t':=tk) λb x e=>hk b x (λhm=>by rw[Qq.mp hm]at e;exact Jv _ (Qj e)) (Qm _ e),rfl,q⟩
noncomputable def Tg:yc->Option (List Bool)
 |[]=>O []
 |.bool b::r=>(Tg r).map (b :: ·)
 |_=>w9
theorem EJ{K:Frag}{G:Hp}:∀{vs:List V}{ds:yc}{bs:List Bool},Reps K G vs ds->Tg ds=O bs->vs=bs.map V.bl
 |_,_,bs,.nil,e=>by cases e;rfl
 |_,_,bs,.cons (d:=d) r t,e=>by
  cases d with
  |bool b=>
   unfold Tg at e;cases z:Tg _ with
   |none=>rw[z]at e;cases e
   |some cs=>rw[z]at e;cases e;rw[r.bl_inv,EJ t z];rfl
  |_=>cases e
noncomputable def YL:yc->ye
 |[.list ds]=>(Tg ds).map λbs=>.bool (bs.all id)
 |_=>w9
theorem E4(hc:X.calm=ya):Xa X (.builtin "all") YL:=by
 refine⟨_,jV hc,λvs G H ds d Q s r e k=>?_⟩;unfold YL at e;split at e
 .rename_i ds
  cases z:Tg ds with
  |none=>rw[z]at e;cases e
  |some bs=>rw[z]at e;cases e;obtain⟨v,rfl,q⟩:=r.one_inv;obtain⟨l,ws,rfl,h1,r1⟩:=q.lst_inv;have hw:=EJ r1 z;subst hw;exact⟨l,bs,rfl,s.seq h1,k _ G H (.refl s) (.bl _)⟩
 .cases e
noncomputable def Its(x:Str):It:=⟨λi _=>i<x.cps.size,λi H v H'=>H'=H/\∃c,x.cps[i]?=O c/\v=.str ⟨#[c]⟩,λi _=>x.cps.size<=i⟩
theorem jU{P:Uw}{w:World}{K:Frag}{tg:Uz}(x:Str)(t:Tok)(it:Ux):Turn P w K tg (Its x) [it] it (λi h=>h.IsStrIter it (strIterType x) x t i) where
 mem:=by simp
 obj:=λi h st b hb=>by
  have e:b=it:=by simpa using hb
  subst e;obtain⟨o,e,c,d⟩:=st;exact⟨o,e,λv z=>by rw[d]at z;cases z⟩
 keep:=λi h h' st k=>by obtain⟨o,e,c,d⟩:=st;exact⟨o,k it (by simp) o e,c,d⟩
 item:=by
  intro X hP hw hK hc i pins s σ H E I hf st hg;subst hP hw hK;obtain⟨f0,f1,f2,f3,f4,f5⟩:=hf it (by simp);have hx:x.cps[i]?=O x.cps[i]:=JS hg
  have fin:∀h' tk(T:String),strIterType x=T->h'.IsStrIter it T x t (i+1)->Heap.SameBut it s.heap h'->["enumerate", "zip", "dict_itemiterator", "dict_reverseitemiterator", "odict_iterator", "itertools.zip_longest", "itertools.pairwise"].contains T=yb ->
    ∃u,O (Value.str ⟨#[x.cps[i]]⟩ s.toks)=O u/\UB (model X.prog X.w) X.A (letOwnedTupleGo tg (.ref it) u) (λ_ s2=>∃v H',Inv X pins σ H' s2/\RelV v u/\(Its x).yld i H v H'/\s2.heap.IsStrIter it (strIterType x) x t (i+1)/\∀b∈[it],H' b=w9) E {s with heap:=h',toks:=tk}:=by
   intro h' tk T eT st' sb hn;have I1:Inv X pins σ H {s with heap:=h',toks:=tk}:=I.turned (t':=tk) (λb o hb e=>(sb.2 b hb).trans e) f0 f1 f3 f4 f5;obtain⟨o,e,c,d⟩:=id st';refine⟨_,rfl,PQ (s:={s with heap:=h',toks:=tk}) e c d hn ⟨.str ⟨#[x.cps[i]]⟩,H,I1,⟨_,rfl⟩,⟨rfl,_,hx,rfl⟩,by rw[eT];exact st',λb hb=>(hf b hb).1⟩⟩
  cases ha:x.cps.all (· < 128)with
  |true=>
   have eT:strIterType x = "str_ascii_iterator" :=by simp[strIterType,ha]
   rw[eT]at st;exact wpAny_pyNext_ascii_item st hx λh' st' sb=>fin h' _ _ eT st' sb (by decide)
  |false=>
   have eT:strIterType x = "str_iterator" :=by simp[strIterType,ha]
   rw[eT]at st;exact wpAny_pyNext_wide_item st hx λh' st' sb=>fin h' _ _ eT st' sb (by decide)
 done:=by
  intro X hP hw hK hc i pins s σ H E I hf st hg;subst hP hw hK;obtain⟨f0,f1,f2,f3,f4,f5⟩:=hf it (by simp);have hx:x.cps[i]?=w9:=Array.getElem?_eq_none hg;cases ha:x.cps.all (· < 128)with
  |true=>
   have eT:strIterType x = "str_ascii_iterator" :=by simp[strIterType,ha]
   rw[eT]at st;exact wpAny_pyNext_ascii_end (I.ok.hd hc) st hx λh' eb=>⟨rfl,I.turned (t':=s.toks) (λb o hb e=>eb b o hb e) f0 f1 f3 f4 f5⟩
  |false=>
   have eT:strIterType x = "str_iterator" :=by simp[strIterType,ha]
   rw[eT]at st;exact wpAny_pyNext_wide_end (I.ok.hd hc) st hx λh' eb=>⟨rfl,I.turned (t':=s.toks) (λb o hb e=>eb b o hb e) f0 f1 f3 f4 f5⟩
 self:=λA i s Q E st h=>by
  cases ha:x.cps.all (· < 128)with
  |true=>
   have eT:strIterType x = "str_ascii_iterator" :=by simp[strIterType,ha]
   rw[eT]at st;exact wpAny_pyIter_striter_ascii st h
  |false=>
   have eT:strIterType x = "str_iterator" :=by simp[strIterType,ha]
   rw[eT]at st;exact wpAny_pyIter_striter_wide st h
noncomputable def iAny(K:Frag)(tl:TE):TI:=λσ H R=>tl σ H λx H1=>(∃a,x=.ref a/\(∃xs,SqL K H1 a xs)/\R (Itl K a) H1)∨(∃a,x=.ref a/\(∃xs,SqT K H1 a xs)/\R (Itt K a) H1) ∨ ∃z,x=.str z/\R (Its z) H1
theorem BA{l:Uz}{tl:TE}(hl:PE X l tl):PI X tg l (iAny X.K tl):=by
 intro pins s σ H R I h;refine thn (hl pins s σ H _ I h) λv s1 ⟨x,H1,I1,r1,q1⟩=>?_
 have fpOk:∀b∈[s1.heap.objs.size],ZV X pins H1 b:=λb hb=>by
  have e:b=s1.heap.objs.size:=by simpa using hb
  subst e;exact I1.fpOk (Qu _) (I1.hok.fresh (Qu _))
 rcases q1 with ⟨a,e,⟨xs,hq⟩,q⟩|⟨a,e,⟨xs,hq⟩,q⟩|⟨z,e,q⟩
 .subst e
  cases r1;obtain⟨its,rv,p,hz⟩:=I1.list hq;refine JJ p.isList ?_;exact⟨s1.heap.objs.size,[s1.heap.objs.size],_,_,H1,rfl,I1.kept (t':=s1.toks) λb o e=>Qm _ e,xz a _,⟨_,QK _ w8,rfl,rfl⟩,fpOk,q⟩
 .subst e
  cases r1;obtain⟨its,rv,p,hz⟩:=I1.tuple hq;refine wpAny_pyIter_tuple p ?_;exact⟨s1.heap.objs.size,[s1.heap.objs.size],_,_,H1,rfl,I1.kept (t':=s1.toks) λb o e=>Qm _ e,vg a _,⟨_,QK _ w8,rfl,rfl⟩,fpOk,q⟩
 .subst e
  obtain⟨t,rfl⟩:=r1;refine wpAny_pyIter_strU ?_;exact⟨s1.heap.objs.size,[s1.heap.objs.size],_,_,H1,rfl,I1.kept (t':=s1.toks) λb o e=>Qm _ e,jU z t _,⟨_,QK _ w8,rfl,rfl⟩,fpOk,q⟩
noncomputable def R3(z:Str):yc:=z.cps.toList.map λc=>.str ⟨#[c]⟩
noncomputable def Nx:D->Option yc
 |.list ds=>O ds
 |.tuple ds=>O ds
 |.str z=>O (R3 z)
 |_=>w9
theorem vX{K:Frag}{G1:Hp}{ad:Ux}{vs:List V}{ds:yc}(h:SqT K G1 ad vs)(r:Reps K G1 vs ds):X6 K (Itt K ad) ds G1 where
 go:=λi G H s1 s2 hi=>by
  have hi':i<vs.length:=by rw[r.length];exact hi
  exact⟨vs,vs[i],Xf (s1.trans s2) h,Qe hi'⟩
 stop:=λi G H s1 s2 hi=>⟨vs,Xf (s1.trans s2) h,by rw[r.length];exact hi⟩
 yld:=λi G H x H' d s1 s2 e y=>by obtain⟨rfl,y⟩:=y;obtain⟨v,e1,r1⟩:=r.get e;have:=y vs (Xf (s1.trans s2) h);rw[e1]at this;cases this;exact⟨G,.refl s2,r1.mono s1⟩
theorem xR{K:Frag}{G1:Hp}{z:Str}:X6 K (Its z) (R3 z) G1 where
 go:=λi G H s1 s2 hi=>by unfold R3 at hi;simpa[Its]using hi
 stop:=λi G H s1 s2 hi=>by unfold R3 at hi;simpa[Its]using hi
 yld:=λi G H x H' d s1 s2 e y=>by
  obtain⟨rfl,c,hc,rfl⟩:=y;unfold R3 at e;rw[Qd]at e;have:z.cps.toList[i]?=O c:=by simpa using hc
  rw[this]at e;cases e;exact⟨G,.refl s2,.str _⟩
noncomputable def KW(f:M D):M yc:=Ki f λx=>Kk (Nx x)
theorem R1{f:M D}(h:PE X e (tD X.K B G0 f)):PI X tg e (iD X.K B G0 (KW f)):=XV (BA h) λσ H R q=>tM.toI (R0:=Rep X.K) q λv H' G' Z' x k r a=>by
 cases x with
 |list ds=>obtain⟨ad,vs,rfl,h1,r1⟩:=r.lst_inv;exact .inl ⟨ad,rfl,⟨vs,k.gh.seq h1⟩,a _ G' H' k (.refl _) (va h1 r1)⟩
 |tuple ds=>obtain⟨ad,vs,rfl,h1,r1⟩:=r.tup_inv;exact .inr (.inl ⟨ad,rfl,⟨vs,Xf k.gh h1⟩,a _ G' H' k (.refl _) (vX h1 r1)⟩)
 |str z=>have:=r.str_inv;subst this;exact .inr (.inr ⟨z,rfl,a _ G' H' k (.refl _) xR⟩)
 |_=>exact a.elim
noncomputable def inS(i j:Str):Bool:=!(Builtin.Str.occurrences j i 0 j.length 1).isEmpty
noncomputable def oInS:D->D->ym
 |.str i,.str j=>O (inS i j)
 |_,_=>w9
noncomputable def Lc:D->D->ym
 |.str i,.str j=>O (!inS i j)
 |_,_=>w9
theorem E3:OpB X (UD .In) oInS:=⟨_,xu,λv u G H x y d Q s rx ry e k=>by
 unfold oInS at e;split at e
 .cases e
  have:=rx.str_inv;subst this;have:=ry.str_inv;subst this;exact⟨_,_,rfl,rfl,k⟩
 .cases e⟩
theorem Bz:OpB X (UD .NotIn) Lc:=⟨_,wG,λv u G H x y d Q s rx ry e k=>by
 unfold Lc at e;split at e
 .cases e
  have:=rx.str_inv;subst this;have:=ry.str_inv;subst this;exact⟨_,_,rfl,rfl,k⟩
 .cases e⟩
theorem E2{x:Str}{i:Int}(hg:Gl X x)(hm:∃t,X.mg x=O (.int i t))(hd:(x==("__debug__" : Str))=yb:=by decide):PE X (.Name x pos) (tD X.K B G0 (U1 (.int i))):=by obtain⟨t,hm⟩:=hm;exact Kt (HX (v:=.int i) hg hm ⟨t,rfl⟩ hd) λσ H Q ⟨G,Z,k,a⟩=>aft.now a k (.int _)
end
section
variable{X:Cx}{B G0:Hp}{KX:XW}{e o a b c tg i:Uz}{pos p2:Pos}{es rest:yg}{te to ti:TE}
noncomputable def By(te to ti:TE):TS:=λD σ H=>te σ H λv H1=>to σ H1 λx H2=>ti σ H2 λk H3=>∃l xs n,x=.ref l/\H3 l=O (.lst xs)/\k=.int n/\0<=n/\n<xs.length/\D.nx σ (upd H3 l (.lst (xs.set n.toNat v)))
theorem jT(he:PE X e te)(ho:PE X o to)(hi:PE X i ti)(hs:swapsWith e (O (.Subscript o i p2)) pos.line X.env=pure yb:=by rfl):PS X (.Assign [.Subscript o i p2] e pos) (By te to ti):=by
 intro pins s σ H D I h;refine wpAny_Assign_Subscript (thn (he pins s σ H _ I h) λv s1 ⟨x,H1,I1,r1,q1⟩=>thn (ho pins s1 σ H1 _ I1 q1) λov s2 ⟨y,H2,I2,r2,q2⟩=>thn (hi pins s2 σ H2 _ I2 q2) λiv s3 ⟨k,H3,I3,r3,q3⟩=>?_) hs;obtain⟨l,xs,n,rfl,hl,rfl,h0,h1,q⟩:=q3;cases r2;obtain⟨t,rfl⟩:=r3;obtain⟨z,its,m,r,hlen,ee⟩:=I3.lstM hl
 refine PySem.W.ki_setAt (items:=its.toArray) (n:=m) ee h0 (by
                                  have:UA<2 ^ 63:=by decide
                                  omega) (by simp;omega) ?_
 refine⟨σ,_,I3.lset (t':=s3.toks) (its:=its) (its':=its.set n.toNat v) (f:=(·.setIfInBounds n.toNat v)) hl ee (by simp) (r.set r1 n.toNat) (by rw[List.length_set];exact z),q⟩
noncomputable def Tq(j:Nat)(g f:M D):SM:=sB f λd Z1=>match Z1[j]? with
 |some (O (.own _))=>sB g (λy Z2=>match y with
  |.int k=>(match Z2[j]? with
   |some (O (.own ds))=>if 0<=k/\k<ds.length then .nx (Z2.set j (O (.own (ds.set k.toNat d))))else .bad
   |_=>.bad)
  |_=>.bad) Z1
 |_=>.bad
theorem Gm{j:Nat}{f g:M D}(he:PE X e (tD X.K B G0 f))(ho:PE X o (Za j))(hi:PE X i (tD X.K B G0 g))(hs:swapsWith e (O (.Subscript o i p2)) pos.line X.env=pure yb:=by rfl) :
  PS X (.Assign [.Subscript o i p2] e pos) (tS X.K B G0 KX (Tq j g f)):=
 ZD (jT he ho hi hs) λD σ H q=>tS.bnd (R:=Rep X.K) q λv H1 G1 Z1 d k r a=>by
  cases q0:Z1[j]? with
  |none=>rw[q0]at a;exact a.elim
  |some o0=>
   cases o0 with
   |none=>rw[q0]at a;exact a.elim
   |some sl0=>
    cases sl0 with
    |deep _ _=>rw[q0]at a;exact a.elim
    |pub d=>rw[q0]at a;exact a.elim
    |own zP=>
     rw[q0]at a;obtain⟨ad,vs0,h1,h2,h3,h4,h5⟩:=k.own j zP q0;refine⟨.ref ad,h1,G1,Z1,k,?_⟩;dsimp only at a;unfold sB at a;cases z:g Z1 with
     |bad=>rw[z]at a;exact a.elim
     |ok y Z2=>
      rw[z]at a;dsimp only at a;intro kv G' H' k' s' r';cases y with
      |int n=>
       dsimp only at a;cases q:Z2[j]? with
       |none=>rw[q]at a;exact a.elim
       |some oo=>
        cases oo with
        |none=>rw[q]at a;exact a.elim
        |some sl=>
         cases sl with
         |deep _ _=>rw[q]at a;exact a.elim
         |pub d=>rw[q]at a;exact a.elim
         |own ds=>
          rw[q]at a;dsimp only at a;split at a
          .rename_i hn
           obtain⟨ad',vs,g1,g2,g3,g4,g5⟩:=k'.own j ds q;rw[h1]at g1;cases g1;refine⟨ad,vs,n,rfl,g4,r'.int_inv,hn.1,by rw[g5.length];exact hn.2,?_⟩;exact a σ G' _ (k'.change q h1 (g5.set (r.mono s') n.toNat)) s'
          .exact a.elim
      |_=>exact a.elim
noncomputable def X0(z:Str)(lo hi:yi):Str:=if(Builtin.Str.strSliceIndices lo hi 1 z.length).length=z.length then z else⟨((Builtin.Str.strSliceIndices lo hi 1 z.length).filterMap (z.cps[·]?)).toArray⟩
theorem Ce:SlR X (λx lo hi H Q=>∃z,x=.str z/\(X0 z lo hi).length<=UA/\Q (.str (X0 z lo hi)) H):=by
 intro pins s σ H x v vl vu lo hi sl Q I rx hs pl pu h;obtain⟨z,rfl,hz,q⟩:=h;obtain⟨t,rfl⟩:=rx;refine⟨"str", _,F.slot_str_getitem.lookup,typeIs_str s z t,?_⟩
 obtain⟨l,el,e1⟩:∃l:Option (Int×Tok),vl=partValue l/\l.map (·.1)=lo:=by
  cases pl with
  |none=>exact⟨w9,rfl,rfl⟩
  |int k t'=>exact⟨O (k,t'),rfl,rfl⟩
 obtain⟨u,eu,e2⟩:∃u:Option (Int×Tok),vu=partValue u/\u.map (·.1)=hi:=by
  cases pu with
  |none=>exact⟨w9,rfl,rfl⟩
  |int k t'=>exact⟨O (k,t'),rfl,rfl⟩
 subst el eu;refine wpAny_getItem_str_slice (l:=l) (u:=u) (st:=w9) hs w8 ?_;unfold sliceMade slicePicked;rw[e1,e2];unfold X0 at hz q;by_cases hw:(Builtin.Str.strSliceIndices lo hi 1 z.length).length=z.length
 .rw[Qo hw]at hz q
  rw[if_pos (by simp[hw])];exact⟨.str z,H,I,⟨t,rfl⟩,q⟩
 .rw[QB hw]at hz q
  rw[if_neg (by simp[hw])];exact⟨hz,.str _,H,I.tok _,⟨_,rfl⟩,q⟩
end
section
variable{X:Cx}{B G0:Hp}{KX:XW}{e o a b c tg i:Uz}{pos p2:Pos}{es rest:yg}{te to ti:TE}
theorem pvb(i:Nat){x:Str}{pos:Pos}{N':List Str}{scope:Scope}{cl:List (Str×Ux)}{C:Ux}{s₀:Uv}{H₀:Hp}{ex:yh}(hN:N'[i]?=O x:=by rfl)
  (h:visK (scope.names.lookup x)=ya:=by rfl) (hd:(x==("__debug__" : Str))=yb:=by decide) (hcd:(x==("__classdict__" : Str))=yb:=by decide) :
  PE (X.blk N' scope cl C s₀ H₀ ex) (.Name x pos) (Za i):=LF hN (BZ h) hd hcd
noncomputable def Y5:D->yi->yi->ye
 |.list xs,lo,hi=>O (.list (DL.cutD xs lo hi))
 |.str z,lo,hi=>if(X0 z lo hi).length<=1000000 then O (.str (X0 z lo hi))else w9
 |_,_,_=>w9
noncomputable def Yi(f:M D)(lo hi:M yi):M D:=Ki f λx=>Ki lo λl=>Ki hi λh=>Kk (Y5 x l h)
theorem xX{lo hi:Option Uz}{f:M D}{l h:M yi}(he:PE X e (tD X.K B G0 f))(hl:PO X lo (tOi X.K B G0 l))(hu:PO X hi (tOi X.K B G0 h)) :
  PE X (.Subscript e (.Slice lo hi w9 p2) pos) (tD X.K B G0 (Yi f l h)):=
 Kt (jJ (AY.or Ce) he hl hu) λσ H Q q=>by
  refine tM.one (R:=Rep X.K) q λv H2 G Z x k r a=>?_;refine tM.nx (R:=λ_ b c=>b=c) k a λl' H3 G3 Z3 xl k3 s3 r3 a3=>?_;refine tM.nx (R:=λ_ b c=>b=c) k3 a3 λh' H4 G4 Z4 xh k4 s4 r4 a4=>?_;have r3:l'=xl:=r3;have r4:h'=xh:=r4;subst r3 r4;unfold Kk Y5 at a4
  cases x with
  |list xs=>obtain⟨ad,vs,rfl,h1,r1⟩:=((r.mono s3).mono s4).lst_inv;exact .inl ⟨ad,vs,rfl,k4.gh.seq h1,λp hp=>aft.done a4 k4 (Ext.new k4.gh hp) (.lst (SqL.of Zd) ((r1.cut l' h').mono (ZJ (k4.gh.free hp))))⟩
  |str z=>
   dsimp only at a4;have:=r.str_inv;subst this;by_cases hc:(X0 z l' h').length<=1000000
   .rw[Qo hc]at a4
    exact .inr ⟨z,rfl,QJ hc lim,aft.now a4 k4 (.str _)⟩
   .rw[QB hc]at a4;exact a4.elim
  |_=>exact a4.elim
end
section
variable{X:Cx}{B G0:Hp}{e o a b c tg:Uz}{pos p2:Pos}{es rest:yg}{te to ti:TE}
noncomputable def Zl{β:Type}(p:D->D->Option β)(i:Nat)(g:M D):M β:=λZ=>match Z[i]? with
 |some (O (.pub d))=>(Ki g λy=>Kk (p d y)) Z
 |some (O (.own _))=>(Ki g λy=>λZ'=>match Z'[i]? with|some (O (.own ds))=>Kk (p (.list ds) y) Z'|_=>.bad) Z
 |_=>.bad
theorem MU{K:Frag}{σ:St}{H:Hp}{p:D->D->ym}{r:R2}{i:Nat}{g:M D}{Q:Bool->Hp->Prop}{QV:VK}(hq:∀t H3,Q t H3->QV (.bl t) H3)(hr:∀v u G H x y d Q,Same G H->Rep K G v x->Rep K G u y->p x y=O d->Q (.bl d) H->r v u H Q)
  (q:tBo K B G0 (Zl p i g) σ H Q):Za i σ H λx H1=>tD K B G0 g σ H1 λy H2=>r x y H2 QV:=by
 obtain⟨G,Z,k,a⟩:=q;unfold Zl at a;cases q:Z[i]? with
 |none=>rw[q]at a;exact a.elim
 |some o=>
  cases o with
  |none=>rw[q]at a;exact a.elim
  |some sl=>
   cases sl with
   |deep _ _=>rw[q]at a;exact a.elim
   |pub d=>
    rw[q]at a;obtain⟨v,h1,h2⟩:=k.pub i d q;refine⟨v,h1,G,Z,k,?_⟩;dsimp only[Ki]at a;cases z:g Z with
    |bad=>rw[z]at a;exact a.elim
    |ok y Z1=>rw[z]at a;intro u G' H' k' s' r';obtain⟨d',e',a'⟩:=aft.opt a;exact hr v u G' H' d y d' _ k'.gh (h2.mono s') r' e' (hq _ _ (a' d' G' H' k' s' w8))
   |own ds=>
    rw[q]at a;obtain⟨ad,vs,h1,h2,h3,h4,h5⟩:=k.own i ds q;refine⟨.ref ad,h1,G,Z,k,?_⟩;dsimp only[Ki]at a;cases z:g Z with
    |bad=>rw[z]at a;exact a.elim
    |ok y Z1=>
     rw[z]at a;dsimp only at a;intro u G' H' k' s' r';cases q1:Z1[i]? with
     |none=>rw[q1]at a;exact a.elim
     |some oo=>
      cases oo with
      |none=>rw[q1]at a;exact a.elim
      |some sl1=>
       cases sl1 with
       |deep _ _=>rw[q1]at a;exact a.elim
       |pub d1=>rw[q1]at a;exact a.elim
       |own ds1=>
        rw[q1]at a;dsimp only at a;obtain⟨ad',ws,g1,g2,g3,g4,g5⟩:=k'.own i ds1 q1;rw[h1]at g1;cases g1;obtain⟨d',e',a'⟩:=aft.opt a;have sg:Same G' (upd G' ad (.lst ws)):=ZJ g3
        have sh:Same (upd G' ad (.lst ws)) H':=λb o q=>by
         by_cases z:b=ad
         .subst z;rw[Zd]at q;cases q;exact g4
         .rw[KF z]at q;exact k'.gh b o q
        exact hr (.ref ad) u _ H' (.list ds1) y d' _ sh (.lst (SqL.of Zd) (g5.mono sg)) (r'.mono sg) e' (hq _ _ (a' d' G' H' k' s' w8))
theorem Gk{op:CmpOp}{p:D->D->ym}{i:Nat}{g:M D}(o:OpB X (UD op) p)(ha:PE X a (Za i))(hb:PE X b (tD X.K B G0 g))(hm:behindInMarks op b=yb) :
  PT X (.Compare a [op] [b] pos) (tBo X.K B G0 (Zl p i g)):=by
 obtain⟨r,h,j⟩:=o;exact Yh (NE h ha hb hm) λσ H Q q=>MU (λt H3 z=>⟨t,rfl,z⟩) j q
theorem BX{op:CmpOp}{p:D->D->ym}{i:Nat}{g:M D}(o:OpB X (UD op) p)(ha:PE X a (Za i))(hb:PE X b (tD X.K B G0 g))(hm:behindInMarks op b=yb) :
  PE X (.Compare a [op] [b] pos) (tD X.K B G0 (Kb UH (Zl p i g))):=by
 obtain⟨r,h,j⟩:=o;exact Kt (HV h ha hb hm) λσ H Q q=>MU (λt H3 z=>z) j (tBo.val q)
end
end DL
namespace L2
open PySem PySem.Spec PyProof.Rows
noncomputable def Itz(K:Frag)(a b:Ux):It:=
 ⟨λi H=>∃xs x ys y,SqL K H a xs/\xs[i]?=O x/\SqL K H b ys/\ys[i]?=O y,
  λi H v H'=>∃p x y,H p=w9/\v=.ref p/\(∀xs,SqL K H a xs->xs[i]?=O x)/\(∀ys,SqL K H b ys->ys[i]?=O y)/\H'=upd H p (.tup [x,y]),
  λi H=>∃xs ys,SqL K H a xs/\SqL K H b ys/\(xs.length<=i∨ys.length<=i)⟩
theorem jS{P:Uw}{w:World}{K:Frag}{elts:yg}{x1}{tp:Pos}(a b z TI TO i1 i2:Ux)(Dz:ZipApart z TI TO i1 i2 a b) :
  Turn P w K (.Tuple elts x1 tp) (Itz K a b) [z,TI,TO,i1,i2] z (λi h=>IsZip h z TI TO .none/\IsPair h TI (.ref i1) (.ref i2)/\(∃c d,IsPair h TO c d)/\h.IsListIter i1 a i/\h.IsListIter i2 b i) where
 mem:=by simp
 obj:=λi h st c hc=>by
  obtain⟨h1,h2,⟨c0,d0,h3⟩,⟨o4,h4,_,d4⟩,⟨o5,h5,_,d5⟩⟩:=st;have hc':c=z∨c=TI∨c=TO∨c=i1∨c=i2:=by simpa using hc
  rcases hc' with rfl|rfl|rfl|rfl|rfl
  .exact⟨_,h1,λv q=>by have q':Data.fields _=Data.cell v:=q;cases q'⟩
  .exact⟨_,h2,λv q=>by have q':Data.seq _ _=Data.cell v:=q;cases q'⟩
  .exact⟨_,h3,λv q=>by have q':Data.seq _ _=Data.cell v:=q;cases q'⟩
  .exact⟨o4,h4,λv q=>by rw[d4]at q;cases q⟩
  .exact⟨o5,h5,λv q=>by rw[d5]at q;cases q⟩
 keep:=λi h h' st k=>by obtain⟨h1,h2,⟨c0,d0,h3⟩,h4,h5⟩:=st;exact⟨k z (by simp) _ h1,k TI (by simp) _ h2,⟨c0,d0,k TO (by simp) _ h3⟩,h4.at λo q=>k i1 (by simp) o q,h5.at λo q=>k i2 (by simp) o q⟩
 item:=by
  intro X hP hw hK hc i pins s σ H E I hf st hg;subst hP hw hK;obtain⟨h1,h2,⟨c0,d0,h3⟩,h4,h5⟩:=st;obtain⟨xs,x,ys,y,hq,hx,yM,hy⟩:=hg;obtain⟨its,rv,p,hz⟩:=I.list hq;obtain⟨its',rv',p',hz'⟩:=I.list yM;obtain⟨u,hu,ru⟩:=rv.get hx;obtain⟨u',hu',ru'⟩:=rv'.get hy;refine wpAny_pyNext_zip_item Dz h1 h2 h3 h4 h5 p.isList p'.isList (x:=u) (y:=u') (by simpa using hu) (by simpa using hu') λh' g1 g3 g4 g5 gp gs gk=>?_
  refine⟨_,rfl,wpAny_letOwnedTupleGo_zip g1 λh2' gz sb=>?_⟩;have hzl:z<s.heap.objs.size:=Qj h1;have yY:Heap.SameBut z h' h2':=sb;have gp2:h2'.get? s.heap.objs.size=O {cls:=.type "tuple", data:=.seq #[u,u']}:=(yY.2 _ (JH hzl)).trans gp
  have kk:∀c o,c∉[z,TI,TO,i1,i2]->s.heap.get? c=O o->h2'.get? c=O o:=λc o hc q=>by
   have n1:c≠z:=λe=>hc (by simp[e])
   have n3:c≠TO:=λe=>hc (by simp[e])
   have n4:c≠i1:=λe=>hc (by simp[e])
   have n5:c≠i2:=λe=>hc (by simp[e])
   exact(yY.2 c n1).trans (gk c o n1 n3 n4 n5 q)
  have hn:H s.heap.objs.size=w9:=I.hok.fresh (Qu _)
  have I2:Inv X pins σ (upd H s.heap.objs.size (.tup [x,y])) {s with heap:=h2'}:=
   I.turnedNew (t':=s.toks) (fp:=[z,TI,TO,i1,i2]) hf kk (Qu _) ⟨by show 2<=UA;decide,[u,u'],.cons ru (.cons ru' .nil),⟨_,gp2,rfl,_,rfl⟩⟩
  have gTI:IsPair h' TI (.ref i1) (.ref i2):=gk TI _ Dz.TIz Dz.TITO Dz.TIi1 Dz.TIi2 h2
  refine⟨.ref s.heap.objs.size,_,I2,rfl,⟨_,x,y,hn,rfl,λws hw=>by rw[I.list_inj hw hq];exact hx,λws hw=>by rw[I.list_inj hw yM];exact hy,rfl⟩,
   ⟨gz,(yY.2 _ Dz.TIz).trans gTI,⟨u,u',(yY.2 _ Dz.TOz).trans g3⟩,g4.at λo q=>(yY.2 _ Dz.i1z).trans q,g5.at λo q=>(yY.2 _ Dz.i2z).trans q⟩,λc hc=>?_⟩
  have hlt:c<s.heap.objs.size:=by
   have hc':c=z∨c=TI∨c=TO∨c=i1∨c=i2:=by simpa using hc
   rcases hc' with rfl|rfl|rfl|rfl|rfl
   .exact hzl
   .exact Qj h2
   .exact Qj h3
   .obtain⟨o,ho,_⟩:=h4;exact Qj ho
   .obtain⟨o,ho,_⟩:=h5;exact Qj ho
  rw[KF (QT hlt)];exact(hf c hc).1
 done:=by
  intro X hP hw hK hc i pins s σ H E I hf st hg;subst hP hw hK;obtain⟨h1,h2,⟨c0,d0,h3⟩,h4,h5⟩:=st;obtain⟨xs,ys,hq,yM,hx⟩:=hg;obtain⟨its,rv,p,hz⟩:=I.list hq;obtain⟨its',rv',p',hz'⟩:=I.list yM;have hl:=rv.length;have hl':=rv'.length;refine wpAny_pyNext_zip_end (I.ok.hd hc) Dz h1 h2 h3 h4 h5 p.isList p'.isList ?_ λh' eb=>⟨rfl,I.turnedL (t':=s.toks) hf λc o hb q=>eb c o (λe=>hb (by simp[e])) (λe=>hb (by simp[e])) (λe=>hb (by simp[e])) (λe=>hb (by simp[e])) q⟩
  rcases hx with hx|hx
  .exact .inl (by simp;omega)
  .exact .inr (by simp;omega)
 self:=λ_ _ _ _ _ st h=>wpAny_pyIter_zip st.1 h
section
variable{X:Cx}
noncomputable def iZip(K:Frag)(ta:TA):TI:=λσ H R=>ta σ H λvs H1=>∃a b xs ys,vs=[.ref a,.ref b]/\SqL K H1 a xs/\SqL K H1 b ys/\R (Itz K a b) H1
theorem Cd{a b:Uz}{ta:TA}{p pos:Pos}{elts:yg}{x1}{tp:Pos}(hg:Gl X "zip")(hm:X.mg "zip" = w9)(ha:PA X [a,b] ta)
  (hs:UC [a,b] X.env=[(yb,eval a X.env),(yb,eval b X.env)]:=by rfl) (hs2:UC [b] X.env=[(yb,eval b X.env)]:=by rfl):PI X (.Tuple elts x1 tp) (.Call (.Name "zip" p) [a,b] [] pos) (iZip X.K ta):=by
 intro pins s σ H R I h;refine Call_ (V9 I hg hm boot_zip (JC (thn (ha pos pins s σ H _ I h) λus s1 ⟨vs,H1,I1,r1,q1⟩=>?_) (by rw[hs,hs2]) (by rw[hs2];rfl)));obtain⟨l1,l2,xs,ys,e,hq,yM,q⟩:=q1;subst e;cases r1 with
 |cons r rr=>
  cases rr with
  |cons r' rr=>
   cases rr;cases (show _=Value.ref l1 from r);cases (show _=Value.ref l2 from r');obtain⟨its,rv,pl,hz⟩:=I1.list hq;obtain⟨its',rv',pl',hz'⟩:=I1.list yM;have n1:l1<s1.heap.objs.size:=by obtain⟨_,e,_⟩:=id pl.isList;exact Qj e
   have n2:l2<s1.heap.objs.size:=by obtain⟨_,e,_⟩:=id pl'.isList;exact Qj e
   have ne:∀i j:Nat,i≠j->s1.heap.objs.size+i≠s1.heap.objs.size+j:=λi j h e=>h (Nat.add_left_cancel e);have m1:∀m:Nat,l1≠s1.heap.objs.size+m:=λm=>QT (QG n1 (Nat.le_add_right _ _));have m2:∀m:Nat,l2≠s1.heap.objs.size+m:=λm=>QT (QG n2 (Nat.le_add_right _ _));refine call_zip_2 pl.isList pl'.isList λh' g1 g2 g3 g4 g5 gs kk=>?_;have I2:Inv X pins σ H1 {s1 with heap:=h'}:=I1.kept (t':=s1.toks) kk;refine wpAny_pyIter_zip g1 ?_
   refine⟨s1.heap.objs.size+4,[s1.heap.objs.size+4,s1.heap.objs.size+2,s1.heap.objs.size+3,s1.heap.objs.size,s1.heap.objs.size+1],_,_,H1,rfl,I2,
    jS l1 l2 (s1.heap.objs.size+4) (s1.heap.objs.size+2) (s1.heap.objs.size+3) s1.heap.objs.size (s1.heap.objs.size+1) ⟨ne 2 4 (by decide),ne 3 4 (by decide),ne 0 4 (by decide),ne 1 4 (by decide),ne 2 3 (by decide),ne 2 0 (by decide),ne 2 1 (by decide),ne 3 0 (by decide),ne 3 1 (by decide),ne 0 1 (by decide),m1 4,m1 3,m1 0,m1 1,m2 4,m2 3,m2 0,m2 1⟩,⟨g1,g2,⟨_,_,g3⟩,g4,g5⟩,λc hc=>?_,q⟩
   have hc':s1.heap.objs.size<=c:=by
    have hc':c=s1.heap.objs.size+4∨c=s1.heap.objs.size+2∨c=s1.heap.objs.size+3∨c=s1.heap.objs.size∨c=s1.heap.objs.size+1:=by simpa using hc
    rcases hc' with rfl|rfl|rfl|rfl|rfl<;>first|exact Nat.le_add_right _ _|exact Qu _
   exact I1.fpOk hc' (I1.hok.fresh hc')
end
end L2
namespace DL
open PySem PySem.Spec L2
open PyProof.Rows hiding St
section
variable{X:Cx}{B G0:Hp}{e a b c tg:Uz}{pos:Pos}{es rest:yg}
noncomputable def YF(xs ys:yc):yc:=(xs.zip ys).map λp=>.tuple [p.1,p.2]
theorem xQ{K:Frag}{G1:Hp}{a b:Ux}{vs ws:List V}{ds es:yc}(h:SqL K G1 a vs)(h':SqL K G1 b ws)(r:Reps K G1 vs ds)(r':Reps K G1 ws es):X6 K (Itz K a b) (YF ds es) G1 where
 go:=λi G H s1 s2 hi=>by
  unfold YF at hi;rw[Qb,Ub]at hi;have hi1:i<vs.length:=by rw[r.length];omega
  have hi2:i<ws.length:=by rw[r'.length];omega
  exact⟨vs,vs[i],ws,ws[i],(s1.trans s2).seq h,Qe hi1,(s1.trans s2).seq h',Qe hi2⟩
 stop:=λi G H s1 s2 hi=>by unfold YF at hi;rw[Qb,Ub]at hi;refine⟨vs,ws,(s1.trans s2).seq h,(s1.trans s2).seq h',?_⟩;rw[r.length,r'.length];omega
 yld:=λi G H x H' d s1 s2 e y=>by
  obtain⟨p,u,v,hp,rfl,y1,y2,rfl⟩:=y;have z1:=y1 vs ((s1.trans s2).seq h);have z2:=y2 ws ((s1.trans s2).seq h');unfold YF at e;rw[Qd]at e;cases q:(ds.zip es)[i]? with
  |none=>rw[q]at e;cases e
  |some pr=>rw[q]at e;cases e;rw[List.getElem?_zip_eq_some]at q;obtain⟨u',e1,r1⟩:=r.get q.1;obtain⟨v',e2,r2⟩:=r'.get q.2;rw[z1]at e1;rw[z2]at e2;cases e1;cases e2;exact⟨upd G p (.tup [u,v]),Ext.new s2 hp,.tup (SqT.of Zd) (.cons ((r1.mono s1).mono (ZJ (s2.free hp))) (.cons ((r2.mono s1).mono (ZJ (s2.free hp))) .nil))⟩
noncomputable def Wn:yc->Option yc
 |[.list xs,.list ys]=>O (YF xs ys)
 |_=>w9
theorem jR{x l:yc}(h:Wn x=O l):∃xs ys,x=[.list xs,.list ys]/\l=YF xs ys:=by
 unfold Wn at h;split at h
 .cases h;exact⟨_,_,rfl,rfl⟩
 .cases h
noncomputable def W8(f:M yc):M yc:=Ki f λx=>Kk (Wn x)
theorem Cc{f:M yc}{p2:Pos}{elts:yg}{x1}{tp:Pos}(hg:Gl X "zip")(hm:X.mg "zip" = w9)(ha:PA X [a,b] (tDs X.K B G0 f))(hs:UC [a,b] X.env=[(yb,eval a X.env),(yb,eval b X.env)]:=by rfl)(hs2:UC [b] X.env=[(yb,eval b X.env)]:=by rfl) :
  PI X (.Tuple elts x1 tp) (.Call (.Name "zip" p2) [a,b] [] pos) (iD X.K B G0 (W8 f)):=XV (Cd hg hm ha hs hs2) λσ H R q=>tM.toI (R0:=Reps X.K) q λv H' G' Z' x k r a=>by
 cases z:Wn x with
 |none=>rw[z]at a;exact a.elim
 |some l=>
  rw[z]at a;obtain⟨xs,ys,rfl,rfl⟩:=jR z;cases r with
  |cons r1 rr=>
   cases rr with
   |cons r2 rr=>cases rr;obtain⟨l1,vs,rfl,h1,q1⟩:=r1.lst_inv;obtain⟨l2,ws,rfl,h2,q2⟩:=r2.lst_inv;exact⟨l1,l2,vs,ws,rfl,k.gh.seq h1,k.gh.seq h2,a _ G' H' k (.refl _) (xQ h1 h2 q1 q2)⟩
end
section
variable{X:Cx}{B G0:Hp}{e o a b c tg:Uz}{pos p2 p3:Pos}{es rest:yg}{te to ti:TE}
noncomputable def oIn:D->D->ym
 |.str i,.str j=>O (inS i j)
 |x,.list xs=>if x.canLay0=ya/\UK xs=ya/\x.depth<=60 then O (xs.any λy=>UM y x)else w9
 |x,.tuple xs=>if x.canLay0=ya/\UK xs=ya/\x.depth<=60 then O (xs.any λy=>UM y x)else w9
 |_,_=>w9
noncomputable def Xo(x y:D):ym:=(oIn x y).map λt=>!t
noncomputable def XX(x y:D):ym:=match y with
 |.list xs=>if x.canLay0=ya/\UK xs=ya/\x.depth<=60 then O (xs.any λy=>UM y x)else w9
 |.tuple xs=>if x.canLay0=ya/\UK xs=ya/\x.depth<=60 then O (xs.any λy=>UM y x)else w9
 |_=>w9
theorem E1(hu:X.A.units+64<cLine):OpB X (UD .In) XX:=by
 refine⟨λv u H Q=>∃G x y d,Same G H/\Rep X.K G v x/\Rep X.K G u y/\XX x y=O d/\Q (.bl d) H,?_,λv u G H x y d Q s rx ry e k=>⟨G,x,y,d,s,rx,ry,e,k⟩⟩;intro pins s σ H x y v u Q I rx ry ⟨G,dx,dy,d,sg,px,py,e,q⟩;unfold XX at e;split at e
 .split at e
  .rename_i c
   cases e;obtain⟨as,ra⟩:=Xh I sg px rx c.1;obtain⟨bs,rb⟩:=Xh I sg py ry (show UK _=ya from c.2.1);exact SeqAt.in_list_reads rb ra c.2.1 c.1 (by have:=c.2.2;omega) ⟨.bl _,H,I,rfl,q⟩
  .cases e
 .split at e
  .rename_i c
   cases e;obtain⟨as,ra⟩:=Xh I sg px rx c.1;obtain⟨bs,rb⟩:=Xh I sg py ry (show UK _=ya from c.2.1);exact SeqAt.in_tuple_reads rb ra c.2.1 c.1 (by have:=c.2.2;omega) ⟨.bl _,H,I,rfl,q⟩
  .cases e
 .cases e
theorem Cb(hu:X.A.units+64<cLine):OpB X (UD .NotIn) (λx y=>(XX x y).map λt=>!t):=by
 refine⟨λv u H Q=>∃G x y d,Same G H/\Rep X.K G v x/\Rep X.K G u y/\(XX x y).map (λt=>!t)=O d/\Q (.bl d) H,?_,λv u G H x y d Q s rx ry e k=>⟨G,x,y,d,s,rx,ry,e,k⟩⟩;intro pins s σ H x y v u Q I rx ry ⟨G,dx,dy,d,sg,px,py,e,q⟩;unfold XX at e;split at e
 .split at e
  .rename_i c
   cases e;obtain⟨as,ra⟩:=Xh I sg px rx c.1;obtain⟨bs,rb⟩:=Xh I sg py ry (show UK _=ya from c.2.1);exact SeqAt.notIn_list_reads rb ra c.2.1 c.1 (by have:=c.2.2;omega) ⟨.bl _,H,I,rfl,q⟩
  .cases e
 .split at e
  .rename_i c
   cases e;obtain⟨as,ra⟩:=Xh I sg px rx c.1;obtain⟨bs,rb⟩:=Xh I sg py ry (show UK _=ya from c.2.1);exact SeqAt.notIn_tuple_reads rb ra c.2.1 c.1 (by have:=c.2.2;omega) ⟨.bl _,H,I,rfl,q⟩
  .cases e
 .cases e
theorem B_in(hu:X.A.units+64<cLine):OpB X (UD .In) oIn:=(E3.or (E1 hu)).congr λx y=>by cases x<;>cases y<;>rfl
theorem DR(hu:X.A.units+64<cLine):OpB X (UD .NotIn) Xo:=(Bz.or (Cb hu)).congr λx y=>by cases x<;>cases y<;>rfl
theorem kY{tl th ts:TO}{lo hi:Option Uz}{st:Uz}(he:PE X e te)(hl:PO X lo tl)(hu:PO X hi th)(hst:PO X (O st) ts):PE X (.Subscript e (.Slice lo hi (O st) p2) pos)
  (λσ H Q=>te σ H λx H1=>tl σ H1 λl H2=>th σ H2 λu H3=>ts σ H3 λt H4=>∃a xs,x=.ref a/\SqL X.K H4 a xs/\l=w9/\u=w9/\t=O (-1)/\∀p,H4 p=w9->Q (.ref p) (upd H4 p (.lst xs.reverse))):=by
 intro pins s σ H Q I h;refine Subscript_ (thn (he pins s σ H _ I h) λv s1 ⟨x,H1,I1,r1,q1⟩=>?_);refine wpAny_Slice (thn (hl pins s1 σ H1 _ I1 q1) λvl s2 ⟨l,H2,I2,pl,q2⟩=>thn (hu pins s2 σ H2 _ I2 q2) λvu s3 ⟨u,H3,I3,pu,q3⟩=>thn (hst pins s3 σ H3 _ I3 q3) λvt s4 ⟨t,H4,I4,pt,q4⟩=>?_);obtain⟨a,xs,rfl,hx,rfl,rfl,rfl,q⟩:=q4;cases r1;have I5:Inv X pins σ H4 {s4 with heap:=s4.heap.push {cls:=.type "slice", data:=.fields #[vl,vu,vt]}}:=I4.kept (t':=s4.toks) λb ob q=>Qm _ q
 obtain⟨its,r,ht,hz⟩:=I5.list hx;have hlen:=r.length;have hg:UB (model X.prog X.w) X.A (getItem (.ref a) (.ref s4.heap.objs.size)) (EP X pins σ Q) X.xe {s4 with heap:=s4.heap.push {cls:=.type "slice", data:=.fields #[vl,vu,vt]}}:=by refine wpAny_getItem_list_slice ht.isList (Heap.IsSliceOf.new ..) pl pu pt (by simp) ?_ (by rw[List.size_toArray]<;>omega);rw[PySem.W.krv_pick];refine⟨.ref _,_,I5.laid (t':=s4.toks) (o:=.lst xs.reverse) (λb ob q=>Qm _ q) (Qu _) ?_,rfl,q _ (I5.hok.fresh (Qu _))⟩;exact⟨by rw[List.length_reverse];exact hz,its.reverse,0,r.reverse,QK _ w8⟩
 show UB (model X.prog X.w) X.A (subscriptTail e (.Slice lo hi (O st) p2) (.ref a) (.ref s4.heap.objs.size)) (EP X pins σ Q) X.xe {s4 with heap:=s4.heap.push {cls:=.type "slice", data:=.fields #[vl,vu,vt]}};exact tail_any (ops:=[.ref a,.ref s4.heap.objs.size]) ht.isList.typeIs slot_list_getitem.lookup hg (by with_unfolding_all rfl)
noncomputable def W2:D->yi->yi->yi->ye
 |.list xs,w9,w9,O i=>if i = -1 then O (.list xs.reverse)else w9
 |_,_,_,_=>w9
noncomputable def W9(f:M D)(lo hi st:M yi):M D:=Ki f λx=>Ki lo λl=>Ki hi λh=>Ki st λt=>Kk (W2 x l h t)
theorem BW{lo hi:Option Uz}{st:Uz}{f:M D}{l h t:M yi}(he:PE X e (tD X.K B G0 f))(hl:PO X lo (tOi X.K B G0 l))(hu:PO X hi (tOi X.K B G0 h))(hst:PO X (O st) (tOi X.K B G0 t)) :
  PE X (.Subscript e (.Slice lo hi (O st) p2) pos) (tD X.K B G0 (W9 f l h t)):=
 Kt (kY he hl hu hst) λσ H Q q=>by
  refine tM.one (R:=Rep X.K) q λv H2 G Z x k r a=>?_;refine tM.nx (R:=λ_ b c=>b=c) k a λl' H3 G3 Z3 xl k3 s3 r3 a3=>?_;refine tM.nx (R:=λ_ b c=>b=c) k3 a3 λh' H4 G4 Z4 xh k4 s4 r4 a4=>?_;refine tM.nx (R:=λ_ b c=>b=c) k4 a4 λt' H5 G5 Z5 xt k5 s5 r5 a5=>?_;have r3:l'=xl:=r3;have r4:h'=xh:=r4;have r5:t'=xt:=r5;subst r3 r4 r5
  cases x with
  |list xs=>
   cases l' with
   |some _=>exact a5.elim
   |none=>
   cases h' with
   |some _=>exact a5.elim
   |none=>
   cases t' with
   |none=>exact a5.elim
   |some i=>
   obtain⟨ad,vs,rfl,h1,r1⟩:=(((r.mono s3).mono s4).mono s5).lst_inv;by_cases hi:i = -1
   .subst hi
    exact⟨ad,vs,rfl,k5.gh.seq h1,rfl,rfl,rfl,λp hp=>aft.done a5 k5 (Ext.new k5.gh hp) (.lst (SqL.of Zd) (r1.reverse.mono (ZJ (k5.gh.free hp))))⟩
   .unfold Kk W2 at a5
    dsimp only at a5;rw[QB hi]at a5;exact a5.elim
  |_=>unfold Kk W2 at a5;exact a5.elim
noncomputable def VT:yc->Option yc
 |[.list xs]=>O xs
 |[.tuple xs]=>O xs
 |_=>w9
theorem kX{x l:yc}(h:VT x=O l):x=[.list l]∨x=[.tuple l]:=by
 unfold VT at h;split at h
 .cases h;exact .inl w8
 .cases h;exact .inr w8
 .cases h
theorem vK:bootBuiltins "list" = O (.type "list"):=by decide +kernel
noncomputable def Tu(i:Nat):M yc:=λZ=>match Z[i]? with
 |some (O (.pub d))=>Kk (VT [d]) Z
 |some (O (.own ds))=>.ok ds Z
 |_=>.bad
theorem kW{i:Nat}(hg:Gl X "list")(hm:X.mg "list" = w9)(ho:PE X a (Za i))(he:UC [a] X.env=(yb,eval a X.env)::UC [] X.env:=by rfl) :
  PE X (.Call (.Name "list" p2) [a] [] pos) (tL X.K B G0 (Tu i)):=
 Kt (My wN hg hm vK (WQ ho V7 he) (by decide) (by decide) he w8) λσ H Q ⟨G,Z,k,q⟩=>by
  unfold Tu at q;cases z:Z[i]? with
  |none=>rw[z]at q;exact q.elim
  |some oo=>
   cases oo with
   |none=>rw[z]at q;exact q.elim
   |some sl=>
    cases sl with
    |deep _ _=>rw[z]at q;exact q.elim
    |own ds=>rw[z]at q;dsimp only at q;obtain⟨ad,vs,h1,h2,h3,h4,h5⟩:=k.own i ds z;exact⟨.ref ad,h1,ad,vs,rfl,.inl (SqL.of h4),λl hp=>q l vs G _ (k.ext (Ext.hid k.gh hp)) (.refl _) (NewL.of k hp h5)⟩
    |pub d=>
     rw[z]at q;dsimp only[Kk]at q;obtain⟨v,h1,h2⟩:=k.pub i d z;cases z2:VT [d]with
     |none=>rw[z2]at q;exact q.elim
     |some l=>
      rw[z2]at q;dsimp only at q;rcases kX z2 with e|e
      .cases e
       obtain⟨p,ws,rfl,g1,r1⟩:=h2.lst_inv;exact⟨_,h1,p,ws,rfl,.inl (k.gh.seq g1),λad hp=>q ad ws G _ (k.ext (Ext.hid k.gh hp)) (.refl _) (NewL.of k hp r1)⟩
      .cases e
       obtain⟨p,ws,rfl,g1,r1⟩:=h2.tup_inv;exact⟨_,h1,p,ws,rfl,.inr (Xf k.gh g1),λad hp=>q ad ws G _ (k.ext (Ext.hid k.gh hp)) (.refl _) (NewL.of k hp r1)⟩
noncomputable def RO:yc->ye
 |[.int i]=>O (.int i)
 |[.bool b]=>O (.int (if b then 1 else 0))
 |_=>w9
theorem Ca:Xa X (.type "int") RO:=by
 refine⟨_,xq,λvs G H ds d Q s r e k=>?_⟩;unfold RO at e;split at e
 .cases e
  obtain⟨v,rfl,q⟩:=r.one_inv;rw[q.int_inv];exact .inl ⟨_,rfl,k _ G H (.refl s) (.int _)⟩
 .cases e
  obtain⟨v,rfl,q⟩:=r.one_inv;rw[q.bl_inv];exact .inr ⟨_,rfl,k _ G H (.refl s) (.int _)⟩
 .cases e
theorem DQ{x:Str}{zs:List Str}(hg:Gl X x)(hm:∃ad o its n,X.mg x=O (.ref ad)/\X.K.lookup ad=O o/\o.cls=.type "tuple" /\ o.data=.seq its n/\its.size<=UA/\Vals (zs.map V.str) its.toList)(hd:(x==("__debug__" : Str))=yb:=by decide) :
  PE X (.Name x pos) (tD X.K B G0 (U1 (.tuple (zs.map UI)))):=by
 obtain⟨ad,o,its,n,hm,h1,h2,h3,h4,h5⟩:=hm;refine Kt (HX (v:=.ref ad) hg hm w8 hd) λσ H Q ⟨G,Z,k,a⟩=>aft.now a k (.tup (.inr ⟨o,its,n,h1,h2,h3,h4,h5⟩) ?_)
 have:∀zs:List Str,Reps X.K G (zs.map V.str) (zs.map UI):=λzs=>by
  induction zs with
  |nil=>exact .nil
  |cons z r ih=>exact .cons (.str _) ih
 exact this zs
end
section
variable{X:Cx}{B G0:Hp}{e o a b c tg:Uz}{pos p2 p3 p4:Pos}{es rest:yg}{te to ti:TE}
theorem Ti:∀{ns:yd}{us:yf},Vals (ns.map V.int) us->PyProof.Rows.IntsAre us ns
 |[],_,.nil=>.nil
 |n::ns,_,.cons h t=>by obtain⟨tk,rfl⟩:=h;exact .cons n tk (Ti t)
noncomputable def Tt(ns:yd):Nat:=(PyProof.Rows.firstMet (λi=>ns.getD i 0) ns.length).length
theorem kU(hc:X.calm=ya):YZ X (.type "set") (λxs H Q=>∃l,∃ns:yd,xs=[.ref l]/\SqL X.K H l (ns.map V.int)/\ns.length+1<4096/\∀S p,H p=w9->Q (.ref p) (upd H p (.set S (Tt ns)))):=by
 intro pins s σ H xs us Q I rx h;obtain⟨l,ns,rfl,hq,hb,q⟩:=h;obtain⟨u,rfl,ru⟩:=rx.one;cases ru;obtain⟨its,rv,p,hz⟩:=I.list hq;have hi:=Ti rv;have hn:its.toArray.size=ns.length:=by have:=rv.length;rw[List.length_map]at this;simp;omega
 refine call_set_list (I.ok.hd hc) p.isList (ns:=ns) (by simpa using hi) (by rw[hn];exact hb) λh' tk hS hk=>?_
 rw[hn]at hS;refine⟨.ref s.heap.objs.size,_,I.laid (t':=tk) (λb o e=>hk b o (Qj e) e) (Qu _) (show ZW X.prog X.w _ h' _ (.set _ (Tt ns))from hS),rfl,q _ _ (I.hok.fresh (Qu _))⟩
theorem kT:YZ X (.builtin "len") (λxs H Q=>∃p S n,xs=[.ref p]/\H p=O (.set S n)/\Q (.int n) H):=by
 intro pins s σ H xs us Q I rx h;obtain⟨p,S,n,rfl,hp,q⟩:=h;obtain⟨u,rfl,ru⟩:=rx.one;cases ru;obtain⟨o,es,ep,t,h1,h2,h3,h4,h5,h6,h7,h8⟩:=(show s.heap.SetOf (intKind X.prog X.w) p S n from I.hok p _ hp)
 have hsb:scanBound=4096:=rfl;refine call_len_set h1 h2 h3 h7 (by omega) ?_;rw[h8];exact⟨.int n,H,I.tok _,⟨_,rfl⟩,q⟩
noncomputable def YU:yc->Option yd
 |[]=>O []
 |.int i::r=>(YU r).map (i :: ·)
 |_=>w9
theorem Pv{K:Frag}{G:Hp}:∀{vs:List V}{ds:yc}{ns:yd},Reps K G vs ds->YU ds=O ns->vs=ns.map V.int
 |_,_,ns,.nil,e=>by cases e;rfl
 |_,_,ns,.cons (d:=d) r t,e=>by
  cases d with
  |int b=>
   unfold YU at e;cases z:YU _ with
   |none=>rw[z]at e;cases e
   |some cs=>rw[z]at e;cases e;rw[r.int_inv,Pv t z];rfl
  |_=>cases e
theorem Pp(ns:yd):YU (ns.map int)=O ns:=by
 induction ns with
 |nil=>rfl
 |cons b r ih=>rw[Qs,YU,ih];rfl
noncomputable def WS:yc->ye
 |[.list ds]=>(match YU ds with
  |some ns=>if ns.length+1<4096 then O (.int (Tt ns))else w9
  |none=>w9)
 |_=>w9
theorem wo{xs:yc}{d:D}(h:WS xs=O d):∃ds ns,xs=[.list ds]/\YU ds=O ns/\ns.length+1<4096/\d=.int (Tt ns):=by
 unfold WS at h;split at h
 .rename_i ds
  cases z:YU ds with
  |none=>rw[z]at h;cases h
  |some ns=>
   rw[z]at h;dsimp only at h;split at h
   .rename_i c
    cases h;exact⟨ds,ns,rfl,z,c,rfl⟩
   .cases h
 .cases h
theorem kS:bootBuiltins "set" = O (.type "set"):=by decide +kernel
theorem vJ{f:M yc}(hc:X.calm=ya)(hg:Gl X "len")(hm:X.mg "len" = w9)(hg2:Gl X "set")(hm2:X.mg "set" = w9)(ha:PA X [a] (tDs X.K B G0 f))(he:UC [a] X.env=(yb,eval a X.env)::UC [] X.env:=by rfl)
  (zm:UC [.Call (.Name "set" p2) [a] [] p3] X.env=(yb,eval (.Call (.Name "set" p2) [a] [] p3) X.env)::UC [] X.env:=by rfl) :
  PE X (.Call (.Name "len" p4) [.Call (.Name "set" p2) [a] [] p3] [] pos) (tD X.K B G0 (Zo WS f)):=
 Kt (OE kT hg hm boot_len (WQ (My (kU hc) hg2 hm2 kS ha (by decide) (by decide) he w8) V7 zm) (by decide) (by decide) zm w8) λσ H Q q=>tM.one (R:=Reps X.K) q λvs H2 G Z x k r a=>by obtain⟨d,e,a⟩:=a.opt;obtain⟨ds,ns,rfl,z,c,rfl⟩:=wo e;obtain⟨v,rfl,q1⟩:=r.one_inv;obtain⟨l,ws,rfl,h1,r1⟩:=q1.lst_inv;have:=Pv r1 z;subst this;refine⟨l,ns,rfl,k.gh.seq h1,c,λS p hp=>⟨p,S,Tt ns,rfl,Zd,?_⟩⟩;exact aft.done a k (Ext.hid k.gh hp) (.int _)
end
end DL
namespace L2
open PySem PySem.Spec PyProof.Rows
end L2
namespace DL
open PySem PySem.Spec L2
open PyProof.Rows hiding St
end DL
namespace L2
open PySem PySem.Spec PyProof.Rows
section
variable{prog:Uw}{w:World}{A:Around}{E:Uu->Uv->Prop}{s:Uv}{M:Model}{env:Env}
theorem BV{pos:Pos}{T:String}{args:List (Bool×Sem Uu)}{kws:List (Option Str×Sem Uu)}{Q:Uu->Uv->Prop}(hp:args.any (·.1)=yb)(hk:kws.any (·.1.isNone)=yb)
  (h:UB M A (evalArgs (.type T) ya args kws) (λa s1=>UB M A (call (.type T) a.pos a.kw) Q E s1) E s):UB M A (callWith pos (.type T) [] args kws) Q E s:=by
 unfold callWith;refine Qf (wpAny_holding (QN h (λa s1 h1=>Qf (Js ?_)) λ_ _ z=>z));simp only[hp,hk,Bool.false_or];refine Qf (Qn ?_);exact Qf (QN h1 (λr s2 hr=>Qf (wpAny_holding (wpAny_point (Qn hr)))) λ_ _ z=>z)
theorem jQ(l:Ux)(t:Tok)(items:Array Uu)(n:Nat)(dct:yo)(sl:Array yj) :
  Meets (Builtin.«enumerate.__new__» ⟨[.type "enumerate", .ref l],[("start", .int 1 t)]⟩) (λ_ R s=>s.heap.get? l=O ⟨.type "list", dct,.seq items n,sl⟩ /\
   R (.ok (.ret (.ref (s.heap.push {cls:=.type "list_iterator", data:=.fields #[.ref l,.int 0 0]}).objs.size))) {s with heap:=(s.heap.push {cls:=.type "list_iterator", data:=.fields #[.ref l,.int 0 0]}).push {cls:=.type "enumerate", data:=.fields #[.none,.bool yb,.ref s.heap.objs.size,rawInt 1,.none,.none]}}):=
 .of_wp λprog w A R s h=>by
  obtain⟨hp,g,d,tk,os⟩:=s;obtain⟨hl,h⟩:=h;have hsub:=sub_enumerate;have hL:Heap.IsList (Shared.heap ⟨hp,g,d,tk,os⟩) l items:=⟨_,hl,rfl,n,rfl⟩
  wp_walk using AutoSeq1.wpAny_loadPart' hl
  refine wpAny_stack_any λst=>(Qn ?_);split
  .rename_i c _ _ _ _ _
   cases (c==Value.type "enumerate")<;>(wp_walk using(AutoSeq1.wpAny_loadPart' hl),(JJ hL))<;>exact⟨_,rfl,h⟩
  ·(wp_walk using(AutoSeq1.wpAny_loadPart' hl),(JJ hL));exact⟨_,rfl,h⟩
theorem wF{T newId initId:String}{Bn Bi:Builtin}{args:yf}{kw:List (Str×Uu)}{S:PySem.Spec}{Q Q1:Uu->Uv->Prop}(ft:TypeCalled T newId initId)
  (hct:checkTypeCall T ⟨args,kw⟩=pure ()) (hcn:checkBuiltinCall newId ⟨.type T::args,kw⟩=pure ()) (eN:entryFor table newId=O Bn) (eI:entryFor table initId=O Bi)
  (g:Meets (Bn ⟨.type T::args,kw⟩) S) (h:S A.in1 (wants Q1 E) s)
  (hnext:∀obj s1,Q1 obj s1->s1.TypeIs obj T/\argsOk initId ⟨obj::args,kw⟩/\∃Si,Meets (Bi ⟨obj::args,kw⟩) Si/\Si A.in1 (wants (λr s2=>r=.none/\Q obj s2) E) s1) :
  UB (model prog w) A (call (.type T) args kw) Q E s:=by
 obtain⟨c,tl,hmro⟩:=ft.mro;have hmade:=ft.made;have hsub:=ft.sub;refine wpAny_call (codeAny_of_tree ?_);show UB _ _ (callAny (.type T) _) _ _ _;refine Qn ⟨Code.quiet_builtin _ (by decide +kernel),(codeAny_builtin F.entry_type_call ?_)⟩;rw[Around.under_plain (weight_type_call_type T args kw) (units_type_call_type T args kw)];have h1:=ft.notType;have h2:=ft.canCreate
 repeat' (any_goals (first|wp_step|assumption))
 refine codeAny_mono (codeAny_call_builtin ft.plain eN (wpAny_of_eq hcn (g prog w A.in1 _ s h))) λr s1 hr=>?_
 match r,hr with
 |.error e,hr=>exact hr
 |.ok (.ret obj),hr=>
  obtain⟨hT,hok,Si,gi,hsi⟩:=hnext _ _ hr;have hli:=ft.init.lookup;have hbi:=ft.init.bind obj
  repeat' (any_goals (first|wp_step|assumption))
  refine codeAny_mono (codeAny_call_builtin ft.init.plain eI (ft.init.check _ _ _ _ _ _ _ _ hT hok (gi prog w A.in1 _ s1 hsi))) λr2 s2 yS=>?_
  match r2,yS with
  |.error e,yS=>exact yS
  |.ok (.ret r),yS=>
   obtain⟨rfl,hq⟩:=yS
   repeat' (any_goals (first|wp_step|assumption))
  |.ok .next,yS=>exact yS.elim
  |.ok .brk,yS=>exact yS.elim
  |.ok .cont,yS=>exact yS.elim
 |.ok .next,hr=>exact hr.elim
 |.ok .brk,hr=>exact hr.elim
 |.ok .cont,hr=>exact hr.elim
theorem wn{T newId:String}{self:Uu}{rest:yf}{kw:List (Str×Uu)}(hl:typeLookup (.type T) "__init__" = pure (O (.builtin "object.__init__")))
  (hm:Bind.madeBy (.type T)=pure (O newId)) (hne:(O newId != O "object.__new__")=ya) :
  Meets (Builtin.«object.__init__» ⟨self::rest,kw⟩) (λ_ R s=>s.TypeIs self T/\R (.ok (.ret .none)) s):=by
 refine .of_wp λprog w A R s hs=>?_
 obtain⟨hT,hq⟩:=hs;cases rest with
 |nil=>
  cases kw with
  |nil=>exact Qn ⟨_,rfl,hq⟩
  |cons k kw=>(repeat' (any_goals (first|wp_step|assumption)));exact⟨_,rfl,hq⟩
 |cons a rest=>(repeat' (any_goals (first|wp_step|assumption)));exact⟨_,rfl,hq⟩
theorem wl(a:Uu)(t:Tok):checkTypeCall "enumerate" ⟨[a],[("start", .int 1 t)]⟩=pure ():=by kernel_rfl
theorem vI(a:Uu)(t:Tok):checkBuiltinCall "enumerate.__new__" ⟨[.type "enumerate", a],[("start", .int 1 t)]⟩=pure ():=by kernel_rfl
theorem wk(o a:Uu)(t:Tok):argsOk "object.__init__" ⟨[o,a],[("start", .int 1 t)]⟩:=by unfold argsOk;kernel_rfl
theorem vH{l:Ux}{items:Array Uu}{t:Tok}{Q:Uu->Uv->Prop}(hL:s.heap.IsList l items)
  (h:∀h',IsEnum h' (s.heap.objs.size+1) s.heap.objs.size 1 .none->h'.IsListIter s.heap.objs.size l 0->(∀b o,s.heap.get? b=O o->h'.get? b=O o)->Q (.ref (s.heap.objs.size+1)) {s with heap:=h'}) :
  UB (model prog w) A (call (.type "enumerate") [.ref l] [("start", .int 1 t)]) Q E s:=by
 obtain⟨⟨c,dct,dt,sl⟩,hl,hc,n,hd⟩:=hL;replace hc:c=.type "list" :=hc;replace hd:dt=.seq items n:=hd;subst hc hd;have hz:(s.heap.push {cls:=.type "list_iterator", data:=.fields #[.ref l,.int 0 0]}).objs.size=s.heap.objs.size+1:=JI ..;have he:IsEnum ((s.heap.push {cls:=.type "list_iterator", data:=.fields #[.ref l,.int 0 0]}).push {cls:=.type "enumerate", data:=.fields #[.none,.bool yb,.ref s.heap.objs.size,rawInt 1,.none,.none]}) (s.heap.objs.size+1) s.heap.objs.size 1 .none:=by rw[←hz];exact QK _ w8
 refine wF F.called_enumerate (wl _ t) (vI _ t) F.entry_enumerate_new F.entry_object_init (jQ l t items n dct sl) (Q1:=λobj s1=>s1.TypeIs obj "enumerate" /\ Q obj s1) ⟨hl,?_⟩ λobj s1 hq=>
  ⟨hq.1,wk obj _ t,_,wn F.called_enumerate.init.lookup F.called_enumerate.made (by decide),hq.1,rfl,hq.2⟩
 show _/\_;rw[hz];exact⟨⟨_,he,rfl⟩,h _ he ⟨_,Qm _ (QK _ w8),rfl,rfl⟩ λb o x=>Qm _ (Qm _ x)⟩
end
section
variable{prog:Uw}{w:World}{A:Around}{E:Uu->Uv->Prop}{s:Uv}
theorem kQ{en it l:Ux}{i:Nat}{j:Int}{items:Array Uu}{x old:Uu}{Q:yj->Uv->Prop}(st:IsEnum s.heap en it j old)(li:s.heap.IsListIter it l i)(ls:s.heap.IsList l items)
  (at_:items[i]?=O x) (ne:en≠it)
  (k:∀h',IsEnumOut h' en it (j+1) x s.heap.objs.size->h'.IsListIter it l (i+1)->h'.get? s.heap.objs.size=O {cls:=.type "tuple", data:=.seq #[.int j s.toks,x]}->(∀b o,b≠en->b≠it->s.heap.get? b=O o->h'.get? b=O o) ->
   Q (O (.ref s.heap.objs.size)) {s with heap:=h',toks:=s.toks+1}):UB (model prog w) A (pyNext (.ref en)) Q E s:=by
 have ty:s.TypeIs (.ref en) "enumerate" :=⟨_,st,rfl⟩
 have lt:en<s.heap.objs.size:=Qj st;unfold pyNext;refine Qf (wpAny_attempt (wpAny_callSpecial?_slot (name:=UO "__next__") ty F.slot_enumerate_next (wpAny_call_entry F.slot_enumerate_next ty F.entry_enumerate_next ?_ (F.args_enumerate_next_1 _))));show UB _ _ (field (.ref en) 2 >>= _) _ _ s;refine Qf (wpAny_field st w8 (x:=.ref it) w8 ?_);refine Qf (wpAny_nextOf_list_item li ls at_ λm1 li1 c1=>?_);have c1:Heap.SameBut it s.heap m1:=c1;have st1:IsEnum m1 en it j old:=(c1.2 en ne).trans st;show UB _ _ (field (.ref en) 3 >>= _) _ _ {s with heap:=m1};refine Qf (wpAny_field st1 w8 (x:=rawInt j) w8 ?_);show UB _ _ (field (.ref en) 4 >>= _) _ _ {s with heap:=m1};refine Qf (wpAny_field st1 w8 (x:=.none) w8 ?_);show UB _ _ (mkInt j >>= _) _ _ {s with heap:=m1};refine Qf (wpAny_mkInt ?_);show UB _ _ (setField (.ref en) 3 (rawInt (j+1)) >>= _) _ _ {s with heap:=m1,toks:=s.toks+1};refine wpAny_bind (wpAny_setField_rec st1 (by simp) λm2 st2 c2=>?_);have c2:Heap.SameBut en m1 m2:=c2;have st2:IsEnum m2 en it (j+1) old:=st2;show UB _ _ (setField (.ref en) 4 .none >>= _) _ _ {s with heap:=m2,toks:=s.toks+1};refine wpAny_bind (wpAny_setField_rec st2 (by simp) λm3 st3 c3=>?_);have c3:Heap.SameBut en m2 m3:=c3;have st3:IsEnum m3 en it (j+1) old:=st3;show UB _ _ (newTuple [.int j s.toks,x] >>= _) _ _ {s with heap:=m3,toks:=s.toks+1};refine Qf (wpAny_newTuple ?_);have z3:m3.objs.size=s.heap.objs.size:=c3.1.trans (c2.1.trans c1.1);have st4:IsEnum (m3.push {cls:=.type "tuple", data:=.seq #[.int j s.toks,x]}) en it (j+1) old:=Qm _ (show IsEnum m3 en it (j+1) old from st3);have tp4:(m3.push {cls:=.type "tuple", data:=.seq #[.int j s.toks,x]}).get? s.heap.objs.size=O {cls:=.type "tuple", data:=.seq #[.int j s.toks,x]}:=by rw[←z3];exact QK _ w8
 have kp4:∀b o,b≠en->b≠it->s.heap.get? b=O o->(m3.push {cls:=.type "tuple", data:=.seq #[.int j s.toks,x]}).get? b=O o:=λb o n1 n2 q=>Qm _ ((c3.2 b n1).trans ((c2.2 b n1).trans ((c1.2 b n2).trans q)))
 have li4:(m3.push {cls:=.type "tuple", data:=.seq #[.int j s.toks,x]}).IsListIter it l (i+1):=by obtain⟨o,q,r⟩:=li1;exact⟨o,Qm _ ((c3.2 it (Ne.symm ne)).trans ((c2.2 it (Ne.symm ne)).trans q)),r⟩
 generalize m3.push {cls:=.type "tuple", data:=.seq #[.int j s.toks,x]}=m4 at st4 tp4 kp4 li4;show UB _ _ (Builtin.SmallTypes.ownedTupleIsFree (.ref en) >>= _) _ _ {s with heap:=m4,toks:=s.toks+1};rw[z3];refine Qf ?_;unfold Builtin.SmallTypes.ownedTupleIsFree Builtin.SmallTypes.ownedTupleHandOut;refine Qf (wpAny_field st4 w8 (x:=.none) w8 (Qn ?_));simp only[if_true];refine wpAny_bind (wpAny_rule (wpAny_bind (wpAny_field st4 w8 (x:=old) w8 (wpAny_bind (wpAny_setField_rec st4 (by simp) λm5 yU c5=>?_)))));have c5:Heap.SameBut en m4 m5:=c5;have yU:IsEnum m5 en it (j+1) x:=yU;refine wpAny_bind (wpAny_bind (wpAny_setField_rec yU (by simp) λm6 st6 c6=>?_));have c6:Heap.SameBut en m5 m6:=c6;have st6:IsEnumOut m6 en it (j+1) x s.heap.objs.size:=st6;refine wpAny_setField_rec st6 (by simp) λm7 st7 c7=>?_
 have c7:Heap.SameBut en m6 m7:=c7;have st7:IsEnumOut m7 en it (j+1) x s.heap.objs.size:=st7;have up:∀b,b≠en->m7.get? b=m4.get? b:=λb n=>(c7.2 b n).trans ((c6.2 b n).trans (c5.2 b n));refine Qf (wpAny_letGo (Qn ⟨_,rfl,Qn (k m7 st7 ?_ ((up _ (JH lt)).trans tp4) λb o n1 n2 q=>(up b n1).trans (kp4 b o n1 n2 q))⟩))
 obtain⟨o,q,r⟩:=li4;exact⟨o,(up it (Ne.symm ne)).trans q,r⟩
theorem kP{en it l:Ux}{i:Nat}{j:Int}{items:Array Uu}{old:Uu}{Q:yj->Uv->Prop}(hh:A.handled=w9)(st:IsEnum s.heap en it j old)(li:s.heap.IsListIter it l i)(ls:s.heap.IsList l items)
  (at_:items[i]?=w9) (k:∀h',Heap.ExtBut it s.heap h'->Q w9 {s with heap:=h'}):UB (model prog w) A (pyNext (.ref en)) Q E s:=by
 have ty:s.TypeIs (.ref en) "enumerate" :=⟨_,st,rfl⟩
 unfold pyNext;refine Qf (wpAny_attempt (wpAny_callSpecial?_slot (name:=UO "__next__") ty F.slot_enumerate_next (wpAny_call_entry F.slot_enumerate_next ty F.entry_enumerate_next ?_ (F.args_enumerate_next_1 _))));show UB _ _ (field (.ref en) 2 >>= _) _ _ s;refine Qf (wpAny_field st w8 (x:=.ref it) w8 (Qf (m:=Builtin.SmallTypes.nextOf (.ref it)) (wpAny_nextOf_list_end hh li ls at_ λh' z c y=>?_)));obtain⟨o,q,t⟩:=y;exact Qf (wpAny_isInstance (T:= "StopIteration") (b:=ya) ⟨o,q,t⟩ isSubtype_stop (Qn (k _ c)))
end
noncomputable def SX(K:Frag)(a:Ux):It:=
 ⟨λi H=>∃xs x,SqL K H a xs/\xs[i]?=O x,
  λi H v H'=>∃p x,H p=w9/\v=.ref p/\(∀xs,SqL K H a xs->xs[i]?=O x)/\H'=upd H p (.tup [.int (1+(i:Int)),x]),
  λi H=>∃xs,SqL K H a xs/\xs.length<=i⟩
theorem vG{P:Uw}{w:World}{K:Frag}{elts:yg}{x1}{tp:Pos}(a e it:Ux)(hne:e≠it) :
  Turn P w K (.Tuple elts x1 tp) (SX K a) [e,it] e (λi h=>(∃old,IsEnum h e it (1+(i:Int)) old)/\h.IsListIter it a i) where
 mem:=by simp
 obj:=λi h st b hb=>by
  obtain⟨⟨old,he⟩,o,ho,c,d⟩:=st;have hb':b=e∨b=it:=by simpa using hb
  rcases hb' with rfl|rfl
  .exact⟨_,he,λv z=>by have z':Data.fields _=Data.cell v:=z;cases z'⟩
  .exact⟨o,ho,λv z=>by rw[d]at z;cases z⟩
 keep:=λi h h' st k=>by obtain⟨⟨old,he⟩,hi⟩:=st;exact⟨⟨old,k e (by simp) _ he⟩,hi.at λo q=>k it (by simp) o q⟩
 item:=by
  intro X hP hw hK hc i pins s σ H E I hf st hg;subst hP hw hK;obtain⟨⟨old,he⟩,hi⟩:=st;obtain⟨xs,x,hq,hx⟩:=hg;obtain⟨its,rv,p,hz⟩:=I.list hq;obtain⟨u,hu,ru⟩:=rv.get hx;refine kQ he hi p.isList (x:=u) (by simpa using hu) hne λh1 out hi1 ht kk=>?_
  refine⟨_,rfl,wpAny_letOwnedTupleGo_enum out λh2 zm hs2=>?_⟩;have hel:e<s.heap.objs.size:=Qj he;have yG:Heap.SameBut e h1 h2:=hs2;have ht2:h2.get? s.heap.objs.size=O {cls:=.type "tuple", data:=.seq #[.int (1+(i:Int)) s.toks,u]}:=(yG.2 _ (JH hel)).trans ht
  have kk2:∀b o,b∉[e,it]->s.heap.get? b=O o->h2.get? b=O o:=λb o hb q=>by
   have yE:b≠e:=λz=>hb (by simp[z])
   have hbi:b≠it:=λz=>hb (by simp[z])
   exact(yG.2 b yE).trans (kk b o yE hbi q)
  have hn:H s.heap.objs.size=w9:=I.hok.fresh (Qu _)
  have I2:Inv X pins σ (upd H s.heap.objs.size (.tup [.int (1+(i:Int)),x])) {s with heap:=h2,toks:=s.toks+1}:=
   I.turnedNew (fp:=[e,it]) hf kk2 (Qu _) ⟨by show 2<=UA;decide,[.int (1+(i:Int)) s.toks,u],.cons ⟨_,rfl⟩ (.cons ru .nil),⟨_,ht2,rfl,_,rfl⟩⟩
  refine⟨.ref s.heap.objs.size,_,I2,rfl,⟨_,x,hn,rfl,λys hy=>by rw[I.list_inj hy hq];exact hx,rfl⟩,⟨⟨u,?_⟩,?_⟩,λb hb=>?_⟩
  .have e2:(1+((i+1:Nat):Int))=1+(i:Int)+1:=by omega
   rw[e2];exact zm
  .exact hi1.at λo q=>(yG.2 it (Ne.symm hne)).trans q
  .have hlt:b<s.heap.objs.size:=by
    have hb':b=e∨b=it:=by simpa using hb
    rcases hb' with rfl|rfl
    .exact hel
    .obtain⟨o,ho,_⟩:=hi;exact Qj ho
   rw[KF (QT hlt)];exact(hf b hb).1
 done:=by intro X hP hw hK hc i pins s σ H E I hf st hg;subst hP hw hK;obtain⟨⟨old,he⟩,hi⟩:=st;obtain⟨xs,hq,hx⟩:=hg;obtain⟨its,rv,p,hz⟩:=I.list hq;have hl:=rv.length;exact kP (I.ok.hd hc) he hi p.isList (by simp;omega) λh' eb=>⟨rfl,I.turnedL (t':=s.toks) hf λb o hb q=>eb b o (λz=>hb (by simp[z])) q⟩
 self:=λ_ _ _ _ _ st h=>by obtain⟨⟨old,he⟩,_⟩:=st;exact wpAny_pyIter_enum he h
section
variable{X:Cx}
theorem qG{a:Uz}{ta:TA}{p pos k1 k2:Pos}{j}{elts:yg}{x1}{tp:Pos}(hg:Gl X "enumerate")(hm:X.mg "enumerate" = w9)(ha:PA X [a] ta)
  (hs:backTo pos (UC [a] X.env)=(yb,eval a X.env)::backTo pos (UC [] X.env):=by rfl) (hpl:(backTo pos (UC [a] X.env)).any (·.1)=yb:=by rfl) :
  PI X (.Tuple elts x1 tp) (.Call (.Name "enumerate" p) [a] [⟨O "start", .Constant (.int 1) j k1,k2⟩] pos) (λσ H R=>ta σ H λvs H1=>∃a xs,vs=[.ref a]/\SqL X.K H1 a xs/\R (SX X.K a) H1):=by
 intro pins s σ H R I h;refine wpAny_Call_Name_kw (V9 I hg hm boot_enumerate (BV hpl w8 ?_));rw[hs];refine evalArgs_kwB w8 ?_;rw[←hs];refine thn (ha pos pins s σ H _ I h) λus s1 ⟨vs,H1,I1,r1,q1⟩=>?_;refine kws_cons (wpAny_Constant_int (kws_nil ?_))
 obtain⟨l,xs,e,hq,q⟩:=q1;subst e;cases r1 with
 |cons r rr=>
  cases rr;cases (show _=Value.ref l from r);have I1':=I1.tok (s1.toks+1);obtain⟨its,rv,pl,hz⟩:=I1'.list hq;refine vH pl.isList λh' he hi kk=>?_;have I2:Inv X pins σ H1 {s1 with heap:=h',toks:=s1.toks+1}:=I1'.kept (t':=s1.toks+1) kk;refine wpAny_pyIter_enum he ?_
  refine⟨s1.heap.objs.size+1,[s1.heap.objs.size+1,s1.heap.objs.size],_,_,H1,rfl,I2,vG l _ _ (Nat.succ_ne_self _),⟨⟨_,he⟩,hi⟩,λb hb=>?_,q⟩;have hb':b=s1.heap.objs.size+1∨b=s1.heap.objs.size:=by simpa using hb
  rcases hb' with rfl|rfl
  .exact I1.fpOk (JV _) (I1.hok.fresh (JV _))
  .exact I1.fpOk (Qu _) (I1.hok.fresh (Qu _))
end
end L2
namespace DL
open PySem PySem.Spec L2
open PyProof.Rows hiding St
section
variable{X:Cx}{B G0:Hp}{e a b c tg:Uz}{pos:Pos}{es rest:yg}
theorem wj{K:Frag}{G1:Hp}{ad:Ux}{vs:List V}{ds:yc}(h:SqL K G1 ad vs)(r:Reps K G1 vs ds):X6 K (SX K ad) (Yq 1 ds) G1 where
 go:=λi G H s1 s2 hi=>by
  rw[YH]at hi;have hi':i<vs.length:=by rw[r.length];exact hi
  exact⟨vs,vs[i],(s1.trans s2).seq h,Qe hi'⟩
 stop:=λi G H s1 s2 hi=>by rw[YH]at hi;exact⟨vs,(s1.trans s2).seq h,by rw[r.length];exact hi⟩
 yld:=λi G H x H' d s1 s2 e y=>by
  obtain⟨p,v,hp,rfl,y1,rfl⟩:=y;have z1:=y1 vs ((s1.trans s2).seq h);rw[OI]at e;cases q:ds[i]? with
  |none=>rw[q]at e;cases e
  |some dd=>
   rw[q]at e;cases e;obtain⟨v',e1,r1⟩:=r.get q;rw[z1]at e1;cases e1;refine⟨upd G p (.tup [.int (1+(i:Int)),v]),Ext.new s2 hp,.tup (SqT.of Zd) (.cons ?_ (.cons ((r1.mono s1).mono (ZJ (s2.free hp))) .nil))⟩;have:((1+i:Nat):Int)=1+(i:Int):=by omega
   rw[this];exact .int _
noncomputable def Rj:yc->Option yc
 |[.list ds]=>O (Yq 1 ds)
 |_=>w9
noncomputable def PV(f:M yc):M yc:=Ki f λx=>Kk (Rj x)
theorem vF{x l:yc}(h:Rj x=O l):∃ds,x=[.list ds]/\l=Yq 1 ds:=by
 unfold Rj at h;split at h
 .cases h;exact⟨_,rfl,rfl⟩
 .cases h
theorem qF{f:M yc}{p2 k1 k2:Pos}{j}{elts:yg}{x1}{tp:Pos}(hg:Gl X "enumerate")(hm:X.mg "enumerate" = w9)(ha:PA X [a] (tDs X.K B G0 f))
  (hs:backTo pos (UC [a] X.env)=(yb,eval a X.env)::backTo pos (UC [] X.env):=by rfl) (hpl:(backTo pos (UC [a] X.env)).any (·.1)=yb:=by rfl) :
  PI X (.Tuple elts x1 tp) (.Call (.Name "enumerate" p2) [a] [⟨O "start", .Constant (.int 1) j k1,k2⟩] pos) (iD X.K B G0 (PV f)):=XV (qG hg hm ha hs hpl) λσ H R q=>tM.toI (R0:=Reps X.K) q λv H' G' Z' x k r a=>by
 cases z:Rj x with
 |none=>rw[z]at a;exact a.elim
 |some l=>rw[z]at a;obtain⟨ds,rfl,rfl⟩:=vF z;obtain⟨v,rfl,q⟩:=r.one_inv;obtain⟨l,ws,rfl,h1,r1⟩:=q.lst_inv;exact⟨l,ws,rfl,k.gh.seq h1,a _ G' H' k (.refl _) (wj h1 r1)⟩
end
section
variable{X:Cx}
noncomputable def most:yd->Int
 |[]=>0
 |[n]=>n
 |n::r=>if most r > n then most r else n
theorem Pm:∀{ns:yd},0<ns.length->most ns∈ns
 |[n],_=>List.mem_singleton.2 w8
 |n::m::r,_=>by
  have ih:=Pm (ns:=m::r) (JL _);unfold most;split
  .exact Qh _ ih
  .exact Qi ..
theorem Pc:∀{ns:yd}{a:Int},a∈ns->a<=most ns
 |[n],a,h=>by rw[List.mem_singleton.1 h];exact Q6 _
 |n::m::r,a,h=>by
  have ih:∀b,b∈m::r->b<=most (m::r):=λb hb=>Pc hb;unfold most;rcases Qw.1 h with e|h
  .subst e;split<;>omega
  .have:=ih a h;split<;>omega
theorem BU{ns:yd}{M:Int}(h1:M∈ns)(h2:∀a,a∈ns->a<=M):most ns=M:=
 JT (h2 _ (Pm (List.length_pos_of_mem h1))) (Pc h1)
theorem kO(hc:X.calm=ya):YZ X (.builtin "max") (λxs H Q=>∃l,∃ns:yd,xs=[.ref l]/\SqL X.K H l (ns.map V.int)/\0<ns.length/\Q (.int (most ns)) H):=by
 intro pins s σ H xs us Q I rx h;obtain⟨l,ns,rfl,hq,hb,q⟩:=h;obtain⟨u,rfl,ru⟩:=rx.one;cases ru;obtain⟨its,rv,p,hz⟩:=I.list hq;have hi:=Ti rv;obtain⟨ys,e⟩:=hi.allInts.items;have hns:ns=ys.toList.map (·.1):=by rw[←hi.numsOf,←nums_intItems,←e]
 have hsz:0<ys.size:=by rw[hns,Qb,JE]at hb;exact hb
 have hl:=p.isList;rw[e]at hl;refine max_intList (I.ok.hd hc) hl hsz λv h' tk hv hk=>?_
 obtain⟨t,rfl⟩:=intItems_at hv;obtain⟨h1,h2⟩:=argBest_gt (numAt ys) (ys.size-1);refine⟨.int (most ns),H,I.kept hk,⟨t,?_⟩,q⟩;rw[BU (M:=_) ?_ ?_]
 .rw[hns,numAt_eq];exact getD_mem (by rw[Qb,JE];omega)
 .intro a ha
  rw[hns]at ha;obtain⟨j,hj,rfl⟩:=mem_getD ha;rw[Qb,JE]at hj;rw[←numAt_eq];exact h2 j (by omega)
noncomputable def VS:yc->ye
 |[.list ds]=>(match YU ds with
  |some ns=>if 0<ns.length then O (.int (most ns))else w9
  |none=>w9)
 |_=>w9
theorem kN{xs:yc}{d:D}(h:VS xs=O d):∃ds ns,xs=[.list ds]/\YU ds=O ns/\0<ns.length/\d=.int (most ns):=by
 unfold VS at h;split at h
 .rename_i ds
  cases z:YU ds with
  |none=>rw[z]at h;cases h
  |some ns=>
   rw[z]at h;dsimp only at h;split at h
   .rename_i c
    cases h;exact⟨ds,ns,rfl,z,c,rfl⟩
   .cases h
 .cases h
theorem D9(hc:X.calm=ya):Xa X (.builtin "max") VS:=by refine⟨_,kO hc,λvs G H ds d Q s r e k=>?_⟩;obtain⟨ds,ns,rfl,z,c,rfl⟩:=kN e;obtain⟨v,rfl,q1⟩:=r.one_inv;obtain⟨l,ws,rfl,h1,r1⟩:=q1.lst_inv;have:=Pv r1 z;subst this;exact⟨l,ns,rfl,s.seq h1,c,k _ G H (.refl s) (.int _)⟩
theorem N7{ns:yd}(h:0<ns.length):VS [.list (ns.map .int)]=O (.int (most ns)):=by unfold VS;simp only[Pp,Qo h]
end
section
variable{X:Cx}{B G0:Hp}{e o:Uz}{es:yg}
theorem wg{h:Heap}{vs:yf}{xs:yc}{as:yh}{d:D}(rs:ReadsAll h vs xs as)(hxs:UK xs=ya) :
  vs.countP (λy=>UM (SeqAt.readOf h y) d)=xs.countP (λy=>UM y d):=by
 have key:xs=vs.map (SeqAt.readOf h):=(SeqAt.readsAll_map xs vs as hxs rs).symm;rw[key,List.countP_map];rfl
noncomputable def Tf(y x:D):ye:=match y with
 |.list ds=>if x.canLay0=ya/\UK ds=ya/\x.depth<=60 then O (.int (ds.countP λy=>UM y x))else w9
 |_=>w9
theorem qE(hu:X.A.units+64<cLine):MtR X "list.count" (λv vs H Q=>∃G u y x d,vs=[u]/\Same G H/\Rep X.K G v y/\Rep X.K G u x/\Tf y x=O (.int d)/\Q (.int d) H):=by
 intro pins s σ H x xs v us Q I rx rs h;obtain⟨G,u,dy,dx,d,rfl,sg,py,px,e,q⟩:=h;obtain⟨w,rfl,yF⟩:=rs.one;unfold Tf at e;split at e
 .rename_i ds
  split at e
  .rename_i c
   obtain⟨bs,rb⟩:=Xh I sg py rx (show UK _=ya from c.2.1);obtain⟨as,ra⟩:=Xh I sg px yF c.1;cases rb with
   |list h1 h2 h3 h4=>rename_i l ob its cs n;obtain⟨cls,dd,data,sl⟩:=ob;simp only at h2 h3;subst h2 h3;refine call_meets F.slot_list_count ⟨_,h1,rfl⟩ F.entry_list_count (F.args_list_count_2 _ _) (SeqAt.list_countAt _ _ _ dd sl _ (λy=>UM (SeqAt.readOf s.heap y) dx)) ⟨h1,SeqAt.items_eqAt h4 ra c.2.1 c.1 (by have:=c.2.2;omega),?_⟩;rw[wg h4 c.2.1];cases e;exact⟨.int _,H,I.tok _,⟨_,rfl⟩,q⟩
  .cases e
 .cases e
noncomputable def Oo(y:D)(xs:yc):ye:=match xs with
 |[x]=>Tf y x
 |_=>w9
theorem wf{ds xs:yc}{d:D}(h:Oo (.list ds) xs=O d):∃x n,xs=[x]/\d=.int n/\Tf (.list ds) x=O (.int n):=by
 unfold Oo at h;split at h
 .rename_i x
  have h':=h;unfold Tf at h;dsimp only at h;split at h
  .cases h;exact⟨x,_,rfl,rfl,h'⟩
  .cases h
 .cases h
noncomputable def V5(f:M D)(g:M yc):M D:=Ki f λy=>Ki g λxs=>Kk (match y with | .list ds=>Oo (.list ds) xs|_=>w9)
theorem FC{apos cpos:Pos}{f:M D}{g:M yc}(hu:X.A.units+64<cLine)(ho:PE X o (tD X.K B G0 f))(ha:PA X (e::es) (tDs X.K B G0 g))
  (hbase:attributeBase o "count" X.env (eval o X.env)=eval o X.env:=by rfl)
  (hfew:((backTo cpos (UC (e::es) X.env)).all (λx=>!x.1)&&(backToKw cpos (keywordEach [] X.env)).all (λx=>x.1.isSome)
   && decide ((e::es).length+([]:List Keyword).length+(if([]:List Keyword).isEmpty then 0 else 1)<30))=ya:=by rfl)
  (hline:(apos.endLine==cpos.line)=ya:=by rfl) (hs:UC (e::es) X.env=(yb,eval e X.env)::UC es X.env:=by rfl) (hplain:(backTo cpos (UC es X.env)).any (·.1)=yb:=by rfl) :
  PE X (.Call (.Attribute o "count" apos) (e::es) [] cpos) (tD X.K B G0 (V5 f g)):=
 Kt (PN F.plainAttrs_list F.slot_list_count F.type_list_count (qE hu) ho ha hbase hfew hline hs hplain) λσ H Q q=>by
  refine tM.one (R:=Rep X.K) q λv H2 G Z y k r a=>?_
  cases y with
  |list ds=>
   obtain⟨l,ws,rfl,h1,r1⟩:=r.lst_inv;refine⟨.inl ⟨rfl,ws,k.gh.seq h1⟩,?_⟩;refine tM.nx (R:=Reps X.K) k a λxs H3 G3 Z3 es k3 s3 r3 a3=>?_
   obtain⟨d,e,a3⟩:=a3.opt;obtain⟨x,n,rfl,rfl,e'⟩:=wf e;obtain⟨u,rfl,ru⟩:=r3.one_inv;exact⟨G3,u,.list ds,x,n,rfl,k3.gh,r.mono s3,ru,e',aft.now a3 k3 (.int _)⟩
  |_=>
   unfold Ki at a;cases z:g Z with
   |bad=>rw[z]at a;exact a.elim
   |ok xs Z1=>rw[z]at a;exact a.elim
theorem N6{f:M D}{g:M yc}{Z Z1 Z2:UU}{ds:yc}{x d:D}(h1:f Z=.ok (.list ds) Z1)(h2:g Z1=.ok [x] Z2)(h3:Tf (.list ds) x=O d):V5 f g Z=.ok d Z2:=by unfold V5 Ki;rw[h1];dsimp only;rw[h2];dsimp only[Oo];rw[h3];rfl
end
section
variable{prog:Uw}{w:World}{A:Around}{R:Result->Uv->Prop}{h0:Heap}{l I S:Ux}{rs:List (Ux×yf)}
def X1(h h':Heap):Prop:=∀b o,h.get? b=O o->h'.get? b=O o
def Ls1(h:Heap)(a:Ux)(its:yf)(sl:Array yj):Prop:=∃n,h.get? a=O {cls:=.type "list", dict:=w9,data:=.seq its.toArray n,slots:=sl}
def Ls(h:Heap)(a:Ux)(its:yf):Prop:=∃n sl,h.get? a=O {cls:=.type "list", dict:=w9,data:=.seq its.toArray n,slots:=sl}
theorem Ls.kept{h h':Heap}{a:Ux}{its:yf}(x:Ls h a its)(k:X1 h h'):Ls h' a its:=by obtain⟨n,sl,e⟩:=x;exact⟨n,sl,k _ _ e⟩
theorem vE(hh:A.in1.handled=w9)(hI:h0.objs.size<=I)(hS:h0.objs.size<=S)(hIS:S≠I)(hl:h0.IsList l (rs.map λp=>Value.ref p.1).toArray)(hr:∀p∈rs,Ls h0 p.1 p.2) :
  ∀(k i:Nat)(s:Uv)(t:Ux)(acc:yf)(c:Nat)(sl:Array yj),rs.length-i=k->i<=rs.length->X1 h0 s.heap->s.heap.IsListIter I l i ->
   s.heap.get? S=O {cls:=.type "list", dict:=w9,data:=.seq #[.ref t] c,slots:=#[]}->t≠S->t≠I->Ls1 s.heap t acc sl->acc.length+((rs.drop i).map (·.2)).flatten.length<=UA ->
   (∀p h' tk yL,X1 h0 h'->Ls1 h' p (acc++((rs.drop i).map (·.2)).flatten) yL->(p=t/\i=rs.length/\yL=sl∨h0.objs.size<=p/\yL=#[])->R (.ok (.ret (.ref p))) {s with heap:=h',toks:=tk}) ->
   codeAny (model prog w) A (.builtin "sum.loop" ⟨[.ref I,.ref S,rawInt 2,rawInt 0],[]⟩) R s:=by
 intro k;induction k with
 |zero=>
  intro i s t acc c sl hk hi hK hit hSS htS htI ht hz hR;have hin:i=rs.length:=by omega
  subst hin;refine codeAny_builtin F.entry_sum_loop ?_;rw[Around.under_plainId F.plain_sum_loop _];show UB _ A.in1 (seqItems? (.ref S) >>= _) _ _ s;refine Qf (wpAny_seqItems hSS w8 ?_);show UB _ A.in1 (tryCatch (pyNext (.ref I)) _ >>= _) _ _ s;have hl':s.heap.IsList l (rs.map λp=>Value.ref p.1).toArray:=by obtain⟨o,e,r⟩:=hl;exact⟨o,hK _ _ e,r⟩
  refine wpAny_bind (wpAny_tryCatch (wpAny_pyNext_list_end hh hit hl' (by simp) λh' ex=>?_));refine Qn (hR t h' s.toks sl (λb o e=>?_) ?_ (.inl ⟨rfl,rfl,rfl⟩))
  .exact ex b o (QT (QG (Qj e) hI)) (hK b o e)
  .obtain⟨n,e⟩:=ht
   rw[List.drop_length,List.map_nil,List.flatten_nil,Q2];exact⟨n,ex _ _ htI e⟩
 |succ k ih=>
  intro i s t acc c sl hk hi hK hit hSS htS htI ht hz hR;have hlt:i<rs.length:=by omega
  refine codeAny_builtin F.entry_sum_loop ?_;rw[Around.under_plainId F.plain_sum_loop _];show UB _ A.in1 (seqItems? (.ref S) >>= _) _ _ s;refine Qf (wpAny_seqItems hSS w8 ?_);show UB _ A.in1 (tryCatch (pyNext (.ref I)) _ >>= _) _ _ s;have hl':s.heap.IsList l (rs.map λp=>Value.ref p.1).toArray:=by obtain⟨o,e,r⟩:=hl;exact⟨o,hK _ _ e,r⟩
  refine wpAny_bind (wpAny_tryCatch (wpAny_pyNext_list_item (x:=.ref (rs[i]'hlt).1) hit hl' (by simp[hlt]) λh' ax sb=>?_));show UB _ A.in1 ((holding [Value.ref (rs[i]'hlt).1] (binaryOp .Add (.ref t) (.ref (rs[i]'hlt).1))).attempt >>= _) _ _ _;refine Qf (wpAny_attempt (wpAny_holding ?_));have hm:rs[i]'hlt∈rs:=Jp hlt;have hd:rs.drop i=rs[i]'hlt::rs.drop (i+1):=Jr hlt;have hK':X1 h0 h':=λb o e=>(sb.2 b (QT (QG (Qj e) hI))).trans (hK b o e)
  obtain⟨n1,e1⟩:=ht;have e1':=(sb.2 t htI).trans e1;obtain⟨n2,s2,e2⟩:=(hr _ hm).kept hK';have aJ:=(sb.2 S hIS).trans hSS;rw[hd,Qs,QS,Qk]at hz;refine concat_meets ⟨_,e1',rfl⟩ ⟨_,e2,rfl⟩ noFill_list_add seq_list_add PySem.F.slot_list_add PySem.F.entry_list_add (PySem.F.args_list_add_2 _ _) (list_addW t _ acc.toArray _ n1 n2 w9 w9 sl s2 (by rw[QX,QX];omega)) ⟨e1',e2,?_⟩;have hlS:S<h'.objs.size:=Qj aJ;have hlI:I<h'.objs.size:=by obtain⟨o,e,_⟩:=ax;exact Qj e
  have ea:acc.toArray++(rs[i]'hlt).2.toArray=(acc++(rs[i]'hlt).2).toArray:=by simp
  rw[ea];have hP:∀b o,h'.get? b=O o->(h'.push {cls:=Value.type "list", data:=Data.seq (acc++(rs[i]'hlt).2).toArray}).get? b=O o:=λb o e=>Qm _ e
  have hS1:=hP _ _ aJ;have hNew:(h'.push {cls:=Value.type "list", data:=Data.seq (acc++(rs[i]'hlt).2).toArray}).get? h'.objs.size=O {cls:=Value.type "list", data:=Data.seq (acc++(rs[i]'hlt).2).toArray}:=QK _ w8;show UB _ A.in1 (updateSeq S (λ_=>#[.ref h'.objs.size]) >>= _) _ _ _;refine Qf (wpAny_updateSeq hS1 w8 ?_);have hS2:=Heap.get?_update_self (Obj.mapSeq λ_=>#[Value.ref h'.objs.size]) hS1 w8;refine Qf (wpAny_letGo ?_);refine Qf (wpAny_updateSeq hS2 w8 (Qn ⟨plainId_quiet F.plain_sum_loop _,?_⟩));have oth:∀b o,b≠S->(h'.push {cls:=Value.type "list", data:=Data.seq (acc++(rs[i]'hlt).2).toArray}).get? b=O o->(((h'.push {cls:=Value.type "list", data:=Data.seq (acc++(rs[i]'hlt).2).toArray}).update S (Obj.mapSeq λx=>#[Value.ref h'.objs.size])).update S (Obj.mapSeq λx=>#[Value.ref h'.objs.size])).get? b=O o:=λb o hb e=>(Heap.get?_update_other _ _ (Ne.symm hb)).trans ((Heap.get?_update_other _ _ (Ne.symm hb)).trans e)
  refine ih (i+1) _ h'.objs.size (acc++(rs[i]'hlt).2) _ #[] (by omega) hlt ?_ ?_ (Heap.get?_update_self _ hS2 w8) (JH hlS) (JH hlI) ?_ (by rw[Qk];omega) λp h'' tk yL hk'' hp hq=>?_
  .exact λb o e=>oth b o (QT (QG (Qj e) hS)) (hP b o (hK' b o e))
  .obtain⟨o,e,r⟩:=ax
   exact⟨o,oth I o (Ne.symm hIS) (hP I o e),r⟩
  .exact⟨_,oth _ _ (JH hlS) hNew⟩
  .refine hR p h'' tk yL hk'' ?_ (.inr ?_)
   .rw[hd,Qs,QS,←Ja];exact hp
   .rcases hq with ⟨rfl, -,e⟩|hq
    .exact⟨Ur (Nat.lt_of_le_of_lt hS hlS),e⟩
    .exact hq
end
section
variable{prog:Uw}{w:World}{A:Around}{E:Uu->Uv->Prop}{s:Uv}{l z:Ux}{rs:List (Ux×yf)}
theorem kM(a b:Uu):argsOk "sum" ⟨[a,b],[]⟩:=by unfold argsOk;kernel_rfl
theorem vD{Q:Uu->Uv->Prop}(hh:A.handled=w9)(hl:s.heap.IsList l (rs.map λp=>Value.ref p.1).toArray)(hr:∀p∈rs,Ls s.heap p.1 p.2)(hz:Ls s.heap z [])(hb:(rs.map (·.2)).flatten.length<=UA)
  (h:∀p h' tk yL,X1 s.heap h'->Ls1 h' p (rs.map (·.2)).flatten yL->(p=z/\rs=[]∨s.heap.objs.size<=p/\yL=#[])->Q (.ref p) {s with heap:=h',toks:=tk}) :
  UB (model prog w) A (call (.builtin "sum") [.ref l,.ref z]) Q E s:=by
 refine call_function_tree F.kind_sum F.plain_sum F.entry_sum (kM _ _) ?_;unfold Builtin.«sum»;simp only[Qz,QF];rw[QB (by decide)];refine Qf (wpAny_of_eq (show Builtin.Builtins.bindParams "sum" ["start"] 0 ⟨[.ref z],[]⟩=pure [O (.ref z)]from rfl) ?_);refine Qf (JJ hl ?_);refine Qf (Qn ?_);obtain⟨n,sl,ez⟩:=id hz;have ty:∀h:Heap,h.get? z=O {cls:=.type "list", dict:=w9,data:=.seq [].toArray n,slots:=sl}->({s with heap:=h}:Uv).TypeIs (.ref z) "list" :=λh e=>⟨_,e,rfl⟩
 have ez':(s.heap.push {cls:=.type "list_iterator", data:=.fields #[.ref l,.int 0 0]}).get? z=_:=Qm _ ez;simp only[List.forIn_cons,List.forIn_nil];refine Qf (Qf (Qf (wpAny_isInstance (T:= "list") (b:=yb) (ty _ ez') F.sub_list_str ?_)));simp only[J6,if_false];refine Qn (Qf (Qf (wpAny_isInstance (T:= "list") (b:=yb) (ty _ ez') F.sub_list_bytes ?_)));simp only[J6,if_false];refine Qn (Qf (Qf (wpAny_isInstance (T:= "list") (b:=yb) (ty _ ez') F.sub_list_bytearray ?_)));simp only[J6,if_false];refine Qn (Qn ?_);refine Qf (wpAny_newObj_type ?_);have hzs:=Qj ez;have s1:(s.heap.push {cls:=.type "list_iterator", data:=.fields #[.ref l,.int 0 0]}).objs.size=s.heap.objs.size+1:=JI ..;have k2:X1 s.heap ((s.heap.push {cls:=.type "list_iterator", data:=.fields #[.ref l,.int 0 0]}).push {cls:=.type "list", data:=.seq #[.ref z]}):=λb o e=>Qm _ (Qm _ e)
 refine Qn ⟨plainId_quiet F.plain_sum_loop _,vE (h0:=s.heap) (l:=l) (I:=s.heap.objs.size) (S:=(s.heap.push {cls:=.type "list_iterator", data:=.fields #[.ref l,.int 0 0]}).objs.size) (rs:=rs) hh (Qu _) (by rw[s1];exact JV _) (by rw[s1];exact Nat.succ_ne_self _) hl hr rs.length 0 _ z [] 0 sl w8 (JM _)
  k2 ⟨_,Heap.get?_push_of_some _ (Heap.get?_push_size _ w8),rfl,rfl⟩ (Heap.get?_push_size _ w8) (by rw[s1];exact Nat.ne_of_lt (Nat.lt_succ_of_lt hzs)) (Nat.ne_of_lt hzs) ⟨n,k2 _ _ ez⟩ (by simpa using hb) λp h' tk yL hk hp hq=>?_⟩
 exact h p h' tk yL hk (by simpa using hp) (hq.imp (λe=>⟨e.1,List.eq_nil_of_length_eq_zero e.2.1.symm⟩) id)
end
section
variable{X:Cx}{pins:List (Ux×Obj)}{σ:St}{H:Hp}{s:Uv}
theorem Ht(I:Inv X pins σ H s):∀{rs:List (Ux×List V)},(∀p∈rs,SqL X.K H p.1 p.2) ->
  ∃ts:List (Ux×yf),(ts.map λp=>Value.ref p.1)=(rs.map λp=>Value.ref p.1)/\(∀p∈ts,Ls s.heap p.1 p.2)/\Vals (rs.map (·.2)).flatten (ts.map (·.2)).flatten
 |[],_=>⟨[],rfl,(λ_ h=>by cases h),(show Vals [] []from Paired.nil)⟩
 |p::rs,h=>by
  obtain⟨ts,e,hl,hv⟩:=Ht I λq hq=>h q (Qh _ hq)
  obtain⟨its,rv,⟨⟨c1,d1,t1,sl⟩,n,e1,ec,ed,et⟩,z⟩:=I.list (h p (Qi ..));simp only at ec ed et;subst ec ed et;refine⟨(p.1,its)::ts,by rw[Qs,Qs,e],λq hq=>?_,?_⟩
  .rcases Qw.1 hq with rfl|hq
   .exact⟨n,sl,e1⟩
   .exact hl q hq
  .rw[Qs,Qs,QS,QS]
   exact rv.append hv
theorem FA:∀{as:yh}{us:yf},Vals (as.map V.ref) us->us=as.map Value.ref
 |[],_,.nil=>rfl
 |a::as,_,.cons h t=>by cases h;rw[FA t];rfl
theorem kL(hc:X.calm=ya):YZ X (.builtin "sum") (λxs H Q=>∃l z,∃rs:List (Ux×List V),xs=[.ref l,.ref z]/\SqL X.K H l (rs.map λp=>V.ref p.1)/\(∀p∈rs,SqL X.K H p.1 p.2)/\SqL X.K H z []/\(rs.map (·.2)).flatten.length<=UA /\
  (rs=[]->Q (.ref z) H)/\∀p,H p=w9->Q (.ref p) (upd H p (.lst (rs.map (·.2)).flatten))):=by
 intro pins s σ H xs us Q I rx h;obtain⟨l,z,rs,rfl,hq,hr,hz,hb,q0,q⟩:=h;obtain⟨u,u',rfl,ru,ru'⟩:=O9 rx;cases ru;cases ru';obtain⟨its,rv,pl, -⟩:=I.list hq;obtain⟨ts,e,hl,hv⟩:=Ht I hr;have ei:its=ts.map λp=>Value.ref p.1:=by rw[e];have:=FA (as:=rs.map (·.1)) (us:=its) (by rw[Jl];exact rv);rw[this,Jl];rfl
 subst ei;obtain⟨zi,rz,⟨⟨c1,d1,t1,sl⟩,n,e1,ec,ed,et⟩, -⟩:=I.list hz;cases rz;simp only at ec ed et;subst ec ed et;have hlen:=hv.length;refine vD (I.ok.hd hc) pl.isList hl ⟨n,sl,e1⟩ (by omega) λp h' tk yL hk hp hq=>?_
 rcases hq with ⟨rfl,rfl⟩|⟨z8,rfl⟩
 .have hr0:rs=[]:=by
   cases rs with
   |nil=>rfl
   |cons a b=>cases e
  exact⟨.ref _,H,I.kept hk,rfl,q0 hr0⟩
 .obtain⟨m,ep⟩:=hp
  exact⟨.ref p,_,I.laid (t':=tk) hk z8 (show ZW X.prog X.w _ h' _ (.lst _)from⟨hb,_,m,hv,ep⟩),rfl,q p (I.hok.fresh z8)⟩
noncomputable def WP:yc->Option (List yc)
 |[]=>O []
 |.list xs::r=>(WP r).map (xs :: ·)
 |_=>w9
theorem EM{K:Frag}{G:Hp}:∀{vs:List V}{ds:yc}{ls:List yc},Reps K G vs ds->WP ds=O ls ->
  ∃rs:List (Ux×List V),vs=(rs.map λp=>V.ref p.1)/\(∀p∈rs,SqL K G p.1 p.2)/\Reps K G (rs.map (·.2)).flatten ls.flatten/\rs.length=ls.length
 |_,_,ls,.nil,e=>by cases e;exact⟨[],rfl,(λ_ h=>by cases h),.nil,rfl⟩
 |_,_,ls,.cons (d:=d) r t,e=>by
  cases d with
  |list xs=>
   unfold WP at e;cases z:WP _ with
   |none=>rw[z]at e;cases e
   |some cs=>
    rw[z]at e;cases e;obtain⟨rs,rfl,h1,h2,h3⟩:=EM t z;obtain⟨a,ws,rfl,h,rr⟩:=r.lst_inv;refine⟨(a,ws)::rs,rfl,λp hp=>?_,?_,Uh (· + 1) h3⟩
    .rcases Qw.1 hp with rfl|hp
     .exact h
     .exact h1 p hp
    .rw[Qs,QS,QS]
     exact rr.append h2
  |_=>cases e
theorem vC(ls:List yc):WP (ls.map UG)=O ls:=by
 induction ls with
 |nil=>rfl
 |cons b r ih=>rw[Qs,WP,ih];rfl
noncomputable def Ri:yc->ye
 |[.list ds,.list []]=>(match WP ds with
  |some ls=>if ls.flatten.length<=1000000 then O (.list ls.flatten)else w9
  |none=>w9)
 |_=>w9
theorem kJ{xs:yc}{d:D}(h:Ri xs=O d):∃ds ls,xs=[.list ds,.list []]/\WP ds=O ls/\ls.flatten.length<=1000000/\d=.list ls.flatten:=by
 unfold Ri at h;split at h
 .rename_i ds
  cases z:WP ds with
  |none=>rw[z]at h;cases h
  |some ls=>
   rw[z]at h;dsimp only at h;split at h
   .rename_i c
    cases h;exact⟨ds,ls,rfl,z,c,rfl⟩
   .cases h
 .cases h
theorem D8(hc:X.calm=ya):Xa X (.builtin "sum") Ri:=by
 refine⟨_,kL hc,λvs G H ds d Q s r e k=>?_⟩;obtain⟨ds,ls,rfl,z,c,rfl⟩:=kJ e;obtain⟨v,v',rfl,q1,q2⟩:=r.two_inv;obtain⟨l,ws,rfl,h1,r1⟩:=q1.lst_inv;obtain⟨a,ws2,rfl,h2,r2⟩:=q2.lst_inv;have:=r2.nil_inv;subst this;obtain⟨rs,rfl,g1,g2,g3⟩:=EM r1 z;refine⟨l,a,rs,rfl,s.seq h1,λp hp=>s.seq (g1 p hp),s.seq h2,?_,λe0=>?_,λp hp=>?_⟩
 .rw[g2.length];exact QJ c lim
 .subst e0
  have:ls=[]:=List.eq_nil_of_length_eq_zero g3.symm;subst this;exact k _ G H (.refl s) (.lst h2 .nil)
 .exact k _ _ _ (.new s hp) (.lst (SqL.of Zd) (g2.mono (ZJ (s.free hp))))
end
section
variable{X:Cx}
noncomputable def YW(ns:yd):yd:=ns.mergeSort λa b=>decide (a<=b)
theorem Wj(ns:yd):(YW ns).Perm ns:=List.mergeSort_perm ..
theorem Fz(ns:yd):(YW ns).Pairwise (· <= ·):=by have:=List.pairwise_mergeSort (le:=λa b:Int=>decide (a<=b)) (by intro a b c;simp;omega) (by intro a b;simp;omega) ns;exact this.imp (by simp)
theorem Hs:∀{a b:yd},a.Perm b->a.Pairwise (· <= ·)->b.Pairwise (· <= ·)->a=b
 |[],b,p,_,_=>by rw[List.nil_perm.1 p]
 |x::a,[],p,_,_=>by have:=p.length_eq;simp at this
 |x::a,y::b,p,ha,hb=>by
  have hx:y<=x:=by
   rcases Qw.1 (p.mem_iff.1 (Qi ..))with e|e
   .exact Int.le_of_eq e.symm
   .exact(Jz.1 hb).1 x e
  have hy:x<=y:=by
   rcases Qw.1 (p.mem_iff.2 (Qi ..))with e|e
   .exact Int.le_of_eq e.symm
   .exact(Jz.1 ha).1 y e
  have e:=JT hy hx;subst e;rw[Hs (List.Perm.cons_inv p) (Jz.1 ha).2 (Jz.1 hb).2]
theorem Fy:∀{us:yf}{ns:yd},PyProof.Rows.IntsAre us ns->Vals (ns.map V.int) us
 |_,_,.nil=>Paired.nil
 |_,_,.cons n t h=>Paired.cons ⟨t,rfl⟩ (Fy h)
theorem vB:YZ X (.builtin "sorted") (λxs H Q=>∃l,∃ns:yd,xs=[.ref l]/\SqL X.K H l (ns.map V.int)/\ns.length<64/\∀p,H p=w9->Q (.ref p) (upd H p (.lst ((YW ns).map V.int)))):=by
 intro pins s σ H xs us Q I rx h;obtain⟨l,ns,rfl,hq,hb,q⟩:=h;obtain⟨u,rfl,ru⟩:=rx.one;cases ru;obtain⟨its,rv,p,hz⟩:=I.list hq;have hi:=Ti rv;have hn:its.length=ns.length:=by have:=rv.length;rw[Qb]at this;omega
 refine sorted_ints p.isList hi (by omega) λout ns' a1 a2 a3=>?_
 obtain⟨e,he⟩:=sortedAll_at s.heap its out;have en:ns'=YW ns:=Hs (a2.trans (Wj ns).symm) a3 (Fz ns);subst en;refine⟨.ref (s.heap.objs.size+1),_,I.laid (t':=s.toks) (λb o=>sortedAll_old) (JV _) (show ZW X.prog X.w _ _ _ (.lst ((YW ns).map V.int))from⟨?_,out.toList,e,Fy a1,he⟩),rfl,q _ (I.hok.fresh (JV _))⟩;rw[Qb,(Wj ns).length_eq];rw[Qb]at hz;exact hz
noncomputable def Ts:yc->ye
 |[.list ds]=>(match YU ds with
  |some ns=>if ns.length<64 then O (.list ((YW ns).map .int))else w9
  |none=>w9)
 |_=>w9
theorem vA{xs:yc}{d:D}(h:Ts xs=O d):∃ds ns,xs=[.list ds]/\YU ds=O ns/\ns.length<64/\d=.list ((YW ns).map .int):=by
 unfold Ts at h;split at h
 .rename_i ds
  cases z:YU ds with
  |none=>rw[z]at h;cases h
  |some ns=>
   rw[z]at h;dsimp only at h;split at h
   .rename_i c
    cases h;exact⟨ds,ns,rfl,z,c,rfl⟩
   .cases h
 .cases h
theorem Fx{K:Frag}{G:Hp}:∀ns:yd,Reps K G (ns.map V.int) (ns.map int)
 |[]=>.nil
 |n::r=>.cons (.int n) (Fx r)
theorem BS:Xa X (.builtin "sorted") Ts:=by refine⟨_,vB,λvs G H ds d Q s r e k=>?_⟩;obtain⟨ds,ns,rfl,z,c,rfl⟩:=vA e;obtain⟨v,rfl,q1⟩:=r.one_inv;obtain⟨l,ws,rfl,h1,r1⟩:=q1.lst_inv;have:=Pv r1 z;subst this;exact⟨l,ns,rfl,s.seq h1,c,λp hp=>k _ _ _ (.new s hp) (.lst (SqL.of Zd) (Fx _))⟩
theorem kI{ns:yd}(h:ns.length<64):Ts [.list (ns.map .int)]=O (.list ((YW ns).map .int)):=by unfold Ts;simp only[Pp,Qo h]
end
@[simp] theorem mBind_ok{α β:Type}{f:M α}{k:α->M β}{Z Z':UU}{x:α}(h:f Z=.ok x Z'):Ki f k Z=k x Z':=by unfold Ki;rw[h]
theorem Fw{s:D->UU->yk}{g:SM}{P:Nat->UU->Prop}{R:Out->Prop}:∀(ds:yc)(n:Nat)(Z:UU),P n Z ->
  (∀i d Z,ds[i]?=O d->P (n+i) Z->∃Z1,s d Z=O Z1/\((∃Z2,(g Z1=.nx Z2∨g Z1=.ct Z2)/\P (n+i+1) Z2)∨(∃x,g Z1=.rt x/\R (.rt x))∨(∃Z2,g Z1=.bk Z2/\R (.nx Z2))∨(∃Z2 x,g Z1=.ex Z2 x/\R (.ex Z2 x)) ∨ ∃x,g Z1=.ro x/\R (.ro x)))->(∀Z,P (n+ds.length) Z->R (.nx Z))->R (V0 s g ds Z)
 |[],n,Z,h,_,f=>f Z h
 |d::r,n,Z,h,st,f=>by
  obtain⟨Z1,e1,e2⟩:=st 0 d Z w8 h;rw[V0,e1];dsimp only;rcases e2 with ⟨Z2,e2,h2⟩|⟨x,e2,h2⟩|⟨Z2,e2,h2⟩|⟨Z2,x,e2,h2⟩|⟨x,e2,h2⟩
  .have goal:=Fw (R:=R) r (n+1) Z2 h2 (λi d' Z3 q p=>by
    have e:n+1+i=n+(i+1):=by omega
    rw[e]at p⊢;exact st (i+1) d' Z3 (by simpa using q) p) (λZ3 p=>f Z3 (by
    have e:n+1+r.length=n+(d::r).length:=by rw[Qz];omega
    rw[e]at p;exact p))
   rcases e2 with e2|e2<;>(rw[e2];exact goal)
  .rw[e2];exact h2
  .rw[e2];exact h2
  .rw[e2];exact h2
  .rw[e2];exact h2
theorem Wa{lo hi:Int}{i:Nat}{d:D}(h:(Yp lo hi)[i]?=O d):d=.int (lo+i)/\(i:Int)<hi-lo:=by have hl:i<(Yp lo hi).length:=(Qg.mp h).1;rw[YI]at hl;unfold Yp at h;rw[Qd,Qe (by rw[Qp];exact hl),List.getElem_range]at h;cases h;exact⟨rfl,by omega⟩
section
variable{α β:Type}{Z Z1 Z2 Z3 Z':UU}{f g h:M D}
theorem U7{a:α}:U1 a Z=.ok a Z:=rfl
theorem U3:UV Z=.ok [] Z:=rfl
theorem Yw{o:Option α}{a:α}(h:o=O a):Kk o Z=.ok a Z:=by subst h;rfl
theorem K3{f:M α}{k:α->M β}{x:α}{r:Res β}(h:f Z=.ok x Z1)(h2:k x Z1=r):Ki f k Z=r:=by unfold Ki;rw[h];exact h2
theorem KU{f:M α}{k:α->β}{x:α}(h:f Z=.ok x Z1):Kb k f Z=.ok (k x) Z1:=by unfold Kb Ki;rw[h];rfl
theorem UW{i:Nat}{d:D}(h:Z[i]?=O (O (.pub d))):UT i Z=.ok d Z:=by unfold UT;rw[h]
theorem Yy{i:Nat}{ds:yc}(h:Z[i]?=O (O (.own ds)))(h2:Z.set i (O (.pub (.list ds)))=Z'):UT i Z=.ok (.list ds) Z':=by unfold UT;rw[h];subst h2;rfl
theorem Kd{op:D->D->Option β}{x y:D}{r:β}(h1:f Z=.ok x Z1)(h2:g Z1=.ok y Z2)(h3:op x y=O r):UY op f g Z=.ok r Z2:=by unfold UY;exact K3 h1 (K3 h2 (Yw h3))
theorem U0{g:M yc}{x:D}{xs:yc}(h1:f Z=.ok x Z1)(h2:g Z1=.ok xs Z2):UX f g Z=.ok (x::xs) Z2:=by unfold UX;exact K3 h1 (K3 h2 w8)
theorem Xl{g:M yc}{xs:yc}(h1:g Z=.ok xs Z1)(h2:xs.length<=1000000):KM g Z=.ok (.tuple xs) Z1:=by unfold KM;exact K3 h1 (by rw[Qo h2];rfl)
theorem ZK{g:M yc}{xs:yc}(h1:g Z=.ok xs Z1)(h2:xs.length<=1000000):Kw g Z=.ok (.list xs) Z1:=by unfold Kw;exact K3 h1 (by rw[Qo h2];rfl)
theorem Wl{g:M yc}{xs:yc}(h1:g Z=.ok xs Z1)(h2:xs.length<=1000000):(Ki g λxs=>if xs.length<=1000000 then U1 xs else λ_=>.bad) Z=.ok xs Z1:=
 K3 h1 (by rw[Qo h2];rfl)
theorem KI{i:Nat}{d y r:D}(h:Z[i]?=O (O (.pub d)))(h1:g Z=.ok y Z1)(h2:oIx d y=O r):U6 i g Z=.ok r Z1:=by unfold U6;rw[h];exact K3 h1 (Yw h2)
theorem V4{i:Nat}{ds es:yc}{y r:D}(h:Z[i]?=O (O (.own ds)))(h1:g Z=.ok y Z1)(h3:Z1[i]?=O (O (.own es)))(h2:oIx (.list es) y=O r):U6 i g Z=.ok r Z1:=by unfold U6;rw[h];exact K3 h1 (by rw[h3];exact Yw h2)
theorem ZS{p:yc->ye}{g:M yc}{xs:yc}{r:D}(h1:g Z=.ok xs Z1)(h2:p xs=O r):Zo p g Z=.ok r Z1:=by unfold Zo;exact K3 h1 (Yw h2)
theorem Ky{n:Nat}{F:yc->ye}{g:M yc}{xs:yc}{r:D}(h1:g Z=.ok xs Z1)(h2:xs.length=n)(h3:F xs=O r):Ka n F g Z=.ok r Z1:=by unfold Ka;exact K3 h1 (by rw[Qo h2];exact Yw h3)
theorem Rr{i:Int}(h1:f Z=.ok (.int i) Z1):Yj f Z=.ok (.int (-i)) Z1:=by unfold Yj;exact K3 h1 w8
theorem ZX{i:Nat}{d r:D}(h:Z[i]?=O (O (.pub d)))(h2:Kn [d]=O r):Zu i Z=.ok r Z:=by unfold Zu;rw[h];exact Yw h2
theorem BR{i:Nat}{ds:yc}(h:Z[i]?=O (O (.own ds))):Zu i Z=.ok (.int ds.length) Z:=by unfold Zu;rw[h]
theorem Xi{g:M yc}{i:Int}{r:yc}(h1:g Z=.ok [.int i] Z1)(h2:Rb [.int i]=O r):YR g Z=.ok r Z1:=by unfold YR;exact K3 h1 (Yw h2)
theorem BQ{g:M yc}{i j:Int}{r:yc}(h1:g Z=.ok [.int i,.int j] Z1)(h2:Ra [.int i,.int j]=O r):PR g Z=.ok r Z1:=by unfold PR;exact K3 h1 (Yw h2)
theorem XQ{g:M yc}{xs r:yc}(h1:g Z=.ok xs Z1)(h2:RT xs=O r):YY g Z=.ok r Z1:=by unfold YY;exact K3 h1 (Yw h2)
theorem XH{i:Int}(h1:f Z=.ok (.int i) Z1):(Ki f λx=>Kk (YS x)) Z=.ok (O i) Z1:=K3 h1 w8
theorem XJ{f:M Bool}{t:Bool}(h1:f Z=.ok t Z1):K6 f Z=.ok (!t) Z1:=KU h1
theorem Wk{t:Bool}(h1:f Z=.ok (.bool t) Z1):Yt f Z=.ok t Z1:=by unfold Yt;exact K3 h1 w8
theorem D7{f g:M Bool}{t u:Bool}(h1:f Z=.ok t Z)(h2:t=ya->g Z=.ok u Z):Zr f g Z=.ok (t&&u) Z:=by
 unfold Zr;refine K3 h1 ?_;cases t with
 |true=>rw[Qo w8];exact h2 w8
 |false=>rfl
theorem On{t u:Bool}(h1:f Z=.ok (.bool t) Z)(h2:t=ya->g Z=.ok (.bool u) Z):Tk f g Z=.ok (.bool (t&&u)) Z:=by
 unfold Tk;refine K3 h1 ?_;cases t with
 |true=>exact h2 w8
 |false=>rfl
theorem Lu{t u:Bool}(h1:f Z=.ok (.bool t) Z)(h2:t=yb->g Z=.ok (.bool u) Z):Wq f g Z=.ok (.bool (t || u)) Z:=by
 unfold Wq;refine K3 h1 ?_;cases t with
 |false=>exact h2 w8
 |true=>rfl
theorem BP{t:Bool}(h1:f Z=.ok (.bool t) Z1):PH f Z=.ok (.bool (!t)) Z1:=by unfold PH;exact K3 h1 w8
theorem Lr{f:M Bool}{g h:M α}{r:Res α}(h1:f Z=.ok ya Z1)(h2:g Z1=r):mIf f g h Z=r:=by unfold mIf;exact K3 h1 (by rw[Qo w8];exact h2)
theorem Ni{f:M Bool}{g h:M α}{r:Res α}(h1:f Z=.ok yb Z1)(h2:h Z1=r):mIf f g h Z=r:=by unfold mIf;exact K3 h1 (by rw[QB (by decide)];exact h2)
theorem DP{f:M Bool}{g h:M α}{t:Bool}{x y:α}(h1:f Z=.ok t Z1)(h2:g Z1=.ok x Z1)(h3:h Z1=.ok y Z1):mIf f g h Z=.ok (if t=ya then x else y) Z1:=by
 unfold mIf;refine K3 h1 ?_;cases t with
 |true=>rw[Qo w8,Qo w8];exact h2
 |false=>rw[QB (by decide),QB (by decide)];exact h3
theorem N5{p q:D->D->ym}{x y z:D}{t u:Bool}(h1:f Z=.ok x Z)(h2:g Z=.ok y Z)(h3:p x y=O t)(h4:t=ya->h Z=.ok z Z)(h5:t=ya->q y z=O u):Tv p q f g h Z=.ok (t&&u) Z:=by
 unfold Tv;refine K3 h1 (K3 h2 (K3 (Yw h3) ?_));cases t with
 |true=>rw[Qo w8];exact K3 (h4 w8) (Yw (h5 w8))
 |false=>rfl
theorem K7{i j:Int}:U9 (.int i) (.int j)=O (.int (i+j)):=rfl
theorem XF{x y:yc}(h:x.length+y.length<=1000000):U9 (.list x) (.list y)=O (.list (x++y)):=by unfold U9;exact Qo h
theorem YT{i j:Int}:KY (.int i) (.int j)=O (.int (i-j)):=rfl
theorem TJ{i j:Int}(h1 : -18446744073709551616<i)(h2:i<18446744073709551616):Kv (.int i) (.int j)=O (.int (i*j)):=by unfold Kv YB;exact Qo (.inl ⟨by omega,by omega⟩)
theorem WI{i j:Int}(h1 : -18446744073709551616<j)(h2:j<18446744073709551616):Kv (.int i) (.int j)=O (.int (i*j)):=by unfold Kv YB;exact Qo (.inr ⟨by omega,by omega⟩)
theorem EE{x:yc}{k:Int}(h : -1000000<=k/\k<=1000000/\x.length*k.toNat<=1000000):Kv (.list x) (.int k)=O (.list (UF k.toNat x).flatten):=by unfold Kv;exact Qo h
theorem Tx{i j:Int}(h:0<j):Yz (.int i) (.int j)=O (.int (i % j)):=by unfold Yz W5;exact Qo h
theorem Hr{i j:Int}(h:0<j)(h2:j<18446744073709551616):Wp (.int i) (.int j)=O (.int (i / j)):=by unfold Wp W6;exact Qo ⟨h,h2⟩
theorem BO{i j:Int}(h:0<=j/\j<=1000000/\i.natAbs<2 ^ 64):Wo (.int i) (.int j)=O (.int (i ^ j.toNat)):=by unfold Wo W4;exact Qo h
theorem Lq{p:Int->Int->Bool}{i j:Int}:oIB p (.int i) (.int j)=O (p i j):=rfl
theorem XG{i j:Int}:oEq (.int i) (.int j)=O (decide (i=j)):=by unfold oEq;rw[if_pos ⟨rfl,rfl,by simp[UL]⟩];congr 1
theorem Zv{xs:yc}:Kn [.list xs]=O (.int xs.length):=rfl
theorem Hq{i j:Int}:RU [.int i,.int j]=O (.int (if j > i then j else i)):=rfl
theorem Xg{j:Int}(h1:j<=1000000)(h2 : -1000000<=j):Rb [.int j]=O (Yp 0 j):=by unfold Rb;exact Qo ⟨h1,h2⟩
theorem qD{i j:Int}(h1:j<=1000000)(h2 : -1000000<=j)(h3:i<=1000000)(h4 : -1000000<=i):Ra [.int i,.int j]=O (Yp i j):=by unfold Ra;exact Qo ⟨h1,h2,h3,h4⟩
theorem XN{xs:yc}:RT [.list xs]=O (Yq 0 xs):=rfl
noncomputable def tx(l:List Char):Str:=⟨(l.map Char.toNat).toArray⟩
theorem DO(s:String):UO s=tx s.toList:=Str.ofString_eq_toList s
theorem DN{l:List Char}:UJ (tx l)=ya:=by
 unfold UJ tx;simp only[List.all_toArray,List.all_map,Je];intro c _;have:=c.valid;simp only[Function.comp,Jn];rcases this with h|h
 .have:c.toNat=c.val.toNat:=rfl
  omega
 .have:c.toNat=c.val.toNat:=rfl
  omega
theorem KE{i:Nat}{d:D}(h1:f Z=.ok d Z1)(h2:i<Z1.length)(h3:Z1.set i (O (.pub d))=Z'):Kc i f Z=.nx Z':=by unfold Kc Zx sB gN;rw[h1];dsimp only;rw[if_pos h2];subst h3;rfl
theorem Yo{i:Nat}{f:M yc}{ds:yc}(h1:f Z=.ok ds Z1)(h2:i<Z1.length)(h3:Z1.set i (O (.own ds))=Z'):Zf i f Z=.nx Z':=by unfold Zf sB;rw[h1];dsimp only;rw[if_pos h2];subst h3;rfl
theorem X9{i:Nat}{d:D}{zP ds:yc}(h0:Z[i]?=O (O (.own zP)))(h1:f Z=.ok d Z1)(h2:Z1[i]?=O (O (.own ds)))(h3:ds.length<1000000)(h4:Z1.set i (O (.own (ds++[d])))=Z'):Zy i f Z=.nx Z':=by unfold Zy sB;rw[h0];dsimp only;rw[h1];dsimp only;rw[h2];dsimp only;rw[if_pos h3];subst h4;rfl
theorem X8{d:D}{s:D->UU->yk}(h1:f Z=.ok d Z1)(h2:s d Z1=O Z'):Zx f s Z=.nx Z':=by unfold Zx sB;rw[h1];dsimp only;rw[h2]
theorem Te{d:D}(h1:f Z=.ok d Z1):Wd f Z=.nx Z1:=by unfold Wd sB;rw[h1]
theorem U2{i:Nat}{d:D}(h:i<Z.length)(h2:Z.set i (O (.pub d))=Z'):gN i d Z=O Z':=by unfold gN;rw[Qo h,h2]
theorem KB:gN0 [] Z=O Z:=rfl
theorem U8{s:D->UU->yk}{t:yc->UU->yk}{d:D}{r:yc}(h1:s d Z=O Z1)(h2:t r Z1=O Z'):gNC s t (d::r) Z=O Z':=by unfold gNC;dsimp only;rw[h1];exact h2
theorem Kz{n:Nat}{t:yc->UU->yk}{ds:yc}(h1:ds.length=n)(h2:t ds Z=O Z'):gT n t (.tuple ds) Z=O Z':=by unfold gT;dsimp only;rw[if_pos h1];exact h2
structure Ho(g:SM)(Z:UU)(Q:Out->Prop):Prop where
 out:Q (g Z)
noncomputable def DM(h:SM)(Q:Out->Prop):Out->Prop
 |.nx Z'=>Ho h Z' Q
 |o=>Q o
structure O1(h:SM)(Q:Out->Prop)(o:Out):Prop where
 out:DM h Q o
variable{Q:Out->Prop}{s t u:SM}
theorem K1(h:Ho s Z (O1 t Q)):Ho (UZ s t) Z Q:=by
 have h:=h.out.out;constructor;unfold UZ;cases e:s Z with
 |nx o=>rw[e]at h;exact h.out
 |_=>rw[e]at h;exact h
theorem Km(h1:s Z=.nx Z1)(h2:Ho t Z1 Q):Ho (UZ s t) Z Q:=by
 constructor;unfold UZ;rw[h1];exact h2.out
theorem ZQ{o:Out}(h1:s Z=o)(h2:Q o):Ho s Z Q:=by constructor;rw[h1];exact h2
theorem K5(h:Q (.nx Z)):Ho sNx Z Q:=⟨h⟩
theorem KQ{o:UU}(h:Ho t o Q):O1 t Q (.nx o):=⟨h⟩
theorem TH{d:D}(h:Q (.rt d)):O1 t Q (.rt d):=⟨h⟩
theorem KR{f:M Bool}{b:Bool}(h1:f Z=.ok b Z1)(h2:b=ya->Ho s Z1 Q)(h3:b=yb->Ho t Z1 Q):Ho (sIf f s t) Z Q:=by
 constructor;unfold sIf sB;rw[h1];dsimp only
 cases b with
 |true=>rw[Qo w8];exact(h2 w8).out
 |false=>rw[QB (by decide)];exact(h3 w8).out
theorem KJ{d:D}(h1:f Z=.ok d Z1)(h2:Q (.rt d)):Ho (Kf f) Z Q:=by constructor;unfold Kf sB;rw[h1];exact h2
theorem Hn{P:Out->Prop}(h:Ho s Z P)(k:∀o,P o->Q o):Ho s Z Q:=⟨k _ h.out⟩
noncomputable def DK(I:UU->Prop)(Q:Out->Prop):Out->Prop
 |.nx Z | .ct Z=>I Z
 |.bk Z=>Q (.nx Z)
 |.rt d=>Q (.rt d)
 |.ex Z d=>Q (.ex Z d)
 |.ro ds=>Q (.ro ds)
 |.bad=>False
structure VR(I:UU->Prop)(Q:Out->Prop)(o:Out):Prop where
 out:DK I Q o
theorem K2{I:UU->Prop}(h:I Z):VR I Q (.nx Z):=⟨h⟩
theorem Pl{I:UU->Prop}{d:D}(h:Q (.rt d)):VR I Q (.rt d):=⟨h⟩
theorem ZA{f:M yc}{tg:D->UU->yk}{ds:yc}(I:Nat->UU->Prop)(h1:f Z=.ok ds Z1)(h0:I 0 Z1)
  (hst:∀i d Z,ds[i]?=O d->I i Z->∃Z2,tg d Z=O Z2/\Ho s Z2 (VR (I (i+1)) Q)) (hend:∀Z,I ds.length Z->Q (.nx Z)):Ho (Kx f tg s) Z Q:=by
 constructor;unfold Kx sB;rw[h1];dsimp only
 refine Fw (P:=I) (R:=Q) ds 0 Z1 h0 (λi d Z e p=>?_) (λZ p=>hend Z (by rw[Q0]at p;exact p));rw[Q0]at p;obtain⟨Z2,e2,q⟩:=hst i d Z e p;refine⟨Z2,e2,?_⟩;rw[Q0];have q:=q.out.out;cases z:s Z2 with
 |nx o=>rw[z]at q;exact .inl ⟨o,.inl w8,q⟩
 |ct o=>rw[z]at q;exact .inl ⟨o,.inr w8,q⟩
 |rt o=>rw[z]at q;exact .inr (.inl ⟨o,rfl,q⟩)
 |bk o=>rw[z]at q;exact .inr (.inr (.inl ⟨o,rfl,q⟩))
 |ex o x=>rw[z]at q;exact .inr (.inr (.inr (.inl ⟨o,x,rfl,q⟩)))
 |ro o=>rw[z]at q;exact .inr (.inr (.inr (.inr ⟨o,rfl,q⟩)))
 |bad=>rw[z]at q;exact q.elim
theorem WD{N:List Str}{ds:yc}{P:D->Prop}(h0:YV N ds=Z)(h:Ho s Z λo=>∃d,o=.rt d/\P d):∃d,Kj N s ds=O d/\P d:=by subst h0;obtain⟨d,e,p⟩:=h.out;refine⟨d,?_,p⟩;unfold Kj;rw[e]
theorem Zj{N:List Str}{ds:yc}{d:D}(h0:YV N ds=Z)(h:Ho s Z λo=>o=.rt d):Kj N s ds=O d:=by obtain⟨d',e,p⟩:=WD (P:=λx=>x=d) h0 (Hn h λo e=>⟨d,e,rfl⟩);rw[e,p]
end
section
variable{α β:Type}{Z Z1 Z2 Z3 Z':UU}{f g h:M D}
theorem V3{l u:M yi}{x r:D}{a b:yi}(h1:f Z=.ok x Z1)(h2:l Z1=.ok a Z2)(h3:u Z2=.ok b Z3)(h4:Y5 x a b=O r):Yi f l u Z=.ok r Z3:=by unfold Yi;exact K3 h1 (K3 h2 (K3 h3 (Yw h4)))
theorem D6{f g:M Bool}(h1:f Z=.ok ya Z1):mOr f g Z=.ok ya Z1:=by unfold mOr;exact K3 h1 w8
theorem WO{f g:M Bool}{u:Bool}(h1:f Z=.ok yb Z1)(h2:g Z1=.ok u Z2):mOr f g Z=.ok u Z2:=by unfold mOr;exact K3 h1 (by rw[QB (by decide)];exact h2)
theorem Om{f g:M Bool}(h1:f Z=.ok yb Z1):Zr f g Z=.ok yb Z1:=by unfold Zr;exact K3 h1 w8
theorem Rz{f g:M Bool}{u:Bool}(h1:f Z=.ok ya Z1)(h2:g Z1=.ok u Z2):Zr f g Z=.ok u Z2:=by unfold Zr;exact K3 h1 (by rw[Qo w8];exact h2)
theorem Td{c:String}{d:D}{t:Bool}(h:f Z=.ok d Z1)(ht:(!Zh d c)=t):K6 (Yt (Kb (λd=>.bool (Zh d c)) f)) Z=.ok t Z1:=by subst ht;exact XJ (Wk (KU (k:=λd=>UH (Zh d c)) h))
theorem ZB{x:D}{r:yc}(h1:f Z=.ok x Z1)(h2:Nx x=O r):KW f Z=.ok r Z1:=by unfold KW;exact K3 h1 (Yw h2)
theorem Yb{p:D->D->Option β}{i:Nat}{d y:D}{r:β}(h:Z[i]?=O (O (.pub d)))(h1:g Z=.ok y Z1)(h2:p d y=O r):Zl p i g Z=.ok r Z1:=by unfold Zl;rw[h];exact K3 h1 (Yw h2)
theorem qC{p:D->D->Option β}{i:Nat}{ds es:yc}{y:D}{r:β}(h:Z[i]?=O (O (.own ds)))(h1:g Z=.ok y Z1)(h3:Z1[i]?=O (O (.own es)))(h2:p (.list es) y=O r):Zl p i g Z=.ok r Z1:=by unfold Zl;rw[h];exact K3 h1 (by rw[h3];exact Yw h2)
theorem Yc{f:M yc}{k:Nat}{s:D->UU->yk}{t:M Bool}{ds es:yc}(h1:f Z=.ok ds Z1)(h2:K4 s t g ds (Ks Z1++UF k w9) []=O es):ZH f k s t g Z=.ok es Z1:=by unfold ZH;rw[h1];dsimp only;rw[h2]
theorem Pr{s:D->UU->yk}{t:M Bool}(p:D->Bool)(q:D->D)(I:UU->Prop):∀(ds:yc)(Z:UU)(es:yc),(∀d∈ds,∀Z,I Z->∃Z1,s d Z=O Z1/\t Z1=.ok (p d) Z1/\(p d=ya->g Z1=.ok (q d) Z1)/\I (Ks Z1))->I Z->es.length+ds.length<=1000000 ->
  K4 s t g ds Z es=O (es++(ds.filter p).map q)
 |[],Z,es,_,_,_=>by rw[K4];simp
 |d::r,Z,es,st,h0,hz=>by
  obtain⟨Z1,e1,e2,e3,h1⟩:=st d Qi Z h0;have ih:=λes' hz'=>Pr p q I r (Ks Z1) es' (λd' hd=>st d' (Qh _ hd)) h1 hz';rw[Qz]at hz;rw[K4,e1];dsimp only;rw[e2];dsimp only
  cases hp:p d with
  |true=>rw[Qo w8,e3 hp];dsimp only;rw[Qo (by omega),ih _ (by rw[Qk,QP];omega),List.filter_cons_of_pos hp,Qs,Ja];rfl
  |false=>rw[QB (by decide),ih _ (by omega),List.filter_cons_of_neg (by rw[hp];decide)]
theorem Ol{j:Nat}{d:D}{k:Int}{zP ds:yc}(h1:f Z=.ok d Z1)(h0:Z1[j]?=O (O (.own zP)))(h2:g Z1=.ok (.int k) Z2)(h3:Z2[j]?=O (O (.own ds)))(h4:0<=k/\k<ds.length)(h5:Z2.set j (O (.own (ds.set k.toNat d)))=Z'):Tq j g f Z=.nx Z':=by unfold Tq sB;rw[h1];dsimp only;rw[h0];dsimp only;rw[h2];dsimp only;rw[h3];dsimp only;rw[if_pos h4];subst h5;rfl
theorem Tc{xs:yc}{a b:yi}:Y5 (.list xs) a b=O (.list (DL.cutD xs a b)):=rfl
theorem Z9{xs:yc}:Nx (.list xs)=O xs:=rfl
theorem we(bs:List Bool):Tg (bs.map UH)=O bs:=by
 induction bs with
 |nil=>rfl
 |cons b r ih=>rw[Qs,Tg,ih];rfl
theorem BN{bs:List Bool}:YL [.list (bs.map UH)]=O (.bool (bs.all id)):=by unfold YL;dsimp only;rw[we];rfl
end
section
variable{α β:Type}{Z Z1 Z2 Z3 Z4 Z':UU}{f g h:M D}{s:SM}
theorem D5{g:M yc}{xs r:yc}(h1:g Z=.ok xs Z1)(h2:Wn xs=O r):W8 g Z=.ok r Z1:=by unfold W8;exact K3 h1 (Yw h2)
theorem D4{l u t:M yi}{xs:yc}(h1:f Z=.ok (.list xs) Z1)(h2:l Z1=.ok w9 Z2)(h3:u Z2=.ok w9 Z3)(h4:t Z3=.ok (O (-1)) Z4):W9 f l u t Z=.ok (.list xs.reverse) Z4:=by unfold W9;exact K3 h1 (K3 h2 (K3 h3 (K3 h4 (Yw (by unfold W2;exact Qo w8)))))
theorem N4{i:Nat}{d:D}{ds:yc}(h:Z[i]?=O (O (.pub d)))(h2:VT [d]=O ds):Tu i Z=.ok ds Z:=by unfold Tu;rw[h];exact Yw h2
theorem RZ{N:List Str}{ds:yc}(h0:YV N ds=Z)(h:Ho s Z λo=>∃Z',o=.nx Z'):Kj N s ds=O .none:=by subst h0;obtain⟨Z',e⟩:=h.out;unfold Kj;rw[e]
theorem NO{i j:Int}:oNe (.int i) (.int j)=O (!decide (i=j)):=by unfold oNe;rw[if_pos ⟨rfl,rfl,by simp[UL]⟩];congr 1
theorem N0{xs:yd}{a b:Int}(ha:0<=a)(hb:0<=b)(hl:b<=xs.length):DL.cutD (xs.map int) (O a) (O b)=((xs.drop a.toNat).take (b.toNat-a.toNat)).map int:=by
 unfold DL.cutD HT.sIx;dsimp only;rw[QB (by omega),QB (by omega),Qb,List.map_take,List.map_drop];have e2:min b.toNat xs.length=b.toNat:=by omega
 rw[e2];by_cases hab:a.toNat<=xs.length
 .have e1:min a.toNat xs.length=a.toNat:=by omega
  rw[e1]
 .have e3:b.toNat-a.toNat=0:=by omega
  have e4:b.toNat-min a.toNat xs.length=0:=by omega
  rw[e3,e4,JZ,JZ]
end
section
variable{Z Z1:UU}
theorem qB{g:M yc}{xs r:yc}(h1:g Z=.ok xs Z1)(h2:Rj xs=O r):PV g Z=.ok r Z1:=by unfold PV;exact K3 h1 (Yw h2)
theorem kH{xs:yc}:Rj [.list xs]=O (Yq 1 xs):=rfl
end
section
variable{X:Cx}{B G0:Hp}{KX:XW}{e o a b c tg i:Uz}{pos p2:Pos}{es rest:yg}
noncomputable def XA(f:M Bool)(g:SM):Nat->SM
 |0,_=>.bad
 |n+1,Z=>match f Z with
  |.bad=>.bad
  |.ok t Z1=>if t=ya then(match g Z1 with
   |.nx Z2=>XA f g n Z2
   |.ct Z2=>XA f g n Z2
   |.bk Z2=>.nx Z2
   |.rt d=>.rt d
   |.ro ds=>.ro ds
   |.ex Z2 d=>.ex Z2 d
   |.bad=>.bad)else .nx Z1
theorem qA{body:List Stmt}{f:M Bool}{g:SM}(n:Nat)(hp:PassesOwn (model X.prog X.w) X.A X.env X.xe)(hc:PT X c (tBo X.K B G0 f))(hb:PSs X body (tS X.K B G0 KX g)):PS X (.While c body [] pos) (tS X.K B G0 KX (XA f g n)):=
 ZD (jN hp hc hb) λDn σ H ⟨G,Z,k,a⟩=>by
  refine⟨λm σ' H'=>∃G' Z',EOk X.K B G0 G' H' σ' Z'/\aftS X.K B G0 KX (XA f g m Z') G' Dn,⟨n,G,Z,k,a⟩,?_⟩;rintro m σ' H' ⟨G',Z',k',a'⟩;cases m with
  |zero=>exact a'.elim
  |succ m=>
   rw[XA]at a';refine⟨G',Z',k',?_⟩;cases z:f Z' with
   |bad=>rw[z]at a';exact a'.elim
   |ok t Z1=>
    rw[z]at a';dsimp only at a';intro v G1 H1 k1 s1 e1;subst e1;cases v with
    |false=>rw[QB JO]at a'⊢;exact a' _ G1 H1 k1 s1
    |true=>
     rw[Qo w8]at a'⊢;refine⟨λσ2 H2=>∃G2 Z2,EOk X.K B G0 G2 H2 σ2 Z2/\aftS X.K B G0 KX (XA f g m Z2) G2 Dn,λσ2 H2 h2=>⟨m,JN m,h2⟩,G1,Z1,k1,?_⟩;cases z2:g Z1 with
     |nx Z2=>rw[z2]at a';exact λσ4 G4 H4 k4 s4=>⟨G4,Z2,k4,aftS.mono (s1.trans s4) a'⟩
     |ct Z2=>rw[z2]at a';exact λσ4 G4 H4 k4 s4=>⟨G4,Z2,k4,aftS.mono (s1.trans s4) a'⟩
     |bk Z2=>rw[z2]at a';exact λσ4 G4 H4 k4 s4=>a' σ4 G4 H4 k4 (s1.trans s4)
     |rt d=>rw[z2]at a';exact a'
     |ro ds=>rw[z2]at a';exact a'
     |ex Z2 d=>rw[z2]at a';exact λv σ4 G4 H4 k4 s4 r4=>a' v σ4 G4 H4 k4 (s1.trans s4) r4
     |bad=>rw[z2]at a';exact a'.elim
noncomputable def XT(op:Int->Int->ye)(j:Nat)(f:M D):SM:=λZ=>match Z[j]? with
 |some (O (.pub (.int a)))=>sB f (λy Z1=>match y with
  |.int b=>(match op a b with
   |some d=>if j<Z1.length then .nx (Z1.set j (O (.pub d)))else .bad
   |none=>.bad)
  |_=>.bad) Z
 |_=>.bad
def IpD(X:Cx)(op:Operator)(p:Int->Int->ye):Prop:=∃ti,PIp X op ti/\∀i j d,p i j=O d->∃v:V,(∀G,Rep X.K G v d)/\∀H(Q:VK),Q v H->ti (.int i) (.int j) H Q
theorem BM:IpD X .Mult YB:=⟨_,A4,λi j d e=>by
 unfold YB at e;split at e
 .rename_i h
  cases e;exact⟨_,λ_=>.int _,λH Q q=>⟨i,j,rfl,rfl,h,q⟩⟩
 .cases e⟩
theorem D3{j:Nat}{x:Str}{op:Operator}{p:Int->Int->ye}{f:M D}{pos':Pos}(hN:X.N.Nodup)(hi:X.N[j]?=O x)(hx:Loc X.env.scope x)(ho:IpD X op p)(he:PE X e (tD X.K B G0 f))(hf:X.fn x=ya∨X.env.scope.names.lookup x=O .local:=by first|exact .inl rfl|exact .inr rfl|assumption) :
  PS X (.AugAssign (.Name x pos') op e pos) (tS X.K B G0 KX (XT p j f)):=by
 obtain⟨ti,hti,hp⟩:=ho;refine ZD (CZ hN hi hx he hti hf) λDn σ H ⟨G,Z,k,a⟩=>?_;unfold XT at a
 cases q:Z[j]? with
 |none=>rw[q]at a;exact a.elim
 |some o0=>
  cases o0 with
  |none=>rw[q]at a;exact a.elim
  |some sl=>
   cases sl with
   |deep _ _=>rw[q]at a;exact a.elim
   |own ds=>rw[q]at a;exact a.elim
   |pub d0=>
    rw[q]at a;cases d0 with
    |int i0=>
     dsimp only at a;obtain⟨v,h1,h2⟩:=k.pub j _ q;cases h2.int_inv;refine⟨.int i0,h1,G,Z,k,?_⟩;unfold sB at a;cases z:f Z with
     |bad=>rw[z]at a;exact a.elim
     |ok y Z1=>
      rw[z]at a;dsimp only at a;intro u G1 H1 k1 s1 r1;cases y with
      |int i1=>
       cases r1.int_inv;dsimp only at a;cases w:p i0 i1 with
       |none=>rw[w]at a;exact a.elim
       |some d=>
        rw[w]at a;dsimp only at a;split at a
        .rename_i hl
         obtain⟨v',rv,hq⟩:=hp i0 i1 d w;exact hq H1 _ (a _ G1 H1 (k1.setPub (rv G1) hl) s1)
        .exact a.elim
      |_=>exact a.elim
    |_=>exact a.elim
end
section
variable{X:Cx}{B G0:Hp}{e o a b c tg i:Uz}{pos p2:Pos}{es rest:yg}
theorem kG:MtR X "list.index" (λv vs H Q=>∃l k,∃ns:yd,v=.ref l/\vs=[.int k]/\SqL X.K H l (ns.map V.int)/\PyData.layable0 (.list (ns.map .int))=ya/\k∈ns/\Q (.int (ns.idxOf k:Nat)) H):=by intro pins s σ H x vs v us Q I rx rv h;obtain⟨l,k,ns,rfl,rfl,hq,hl,hk,q⟩:=h;cases rx;obtain⟨u,rfl,ru⟩:=rv.one;obtain⟨t,rfl⟩:=ru;obtain⟨its,rv,p,hz⟩:=I.list hq;exact index_list_ints p.isList (Ti rv) hl hk ⟨.int _,H,I.tok _,⟨_,rfl⟩,q⟩
noncomputable def Ry(y:D)(xs:yc):ye:=match y,xs with
 |.list ds,[.int k]=>(match YU ds with
  |some ns=>if PyData.layable0 (.list (ns.map .int))=ya/\k∈ns then O (.int (ns.idxOf k:Nat))else w9
  |none=>w9)
 |_,_=>w9
theorem wd{ds xs:yc}{d:D}(h:Ry (.list ds) xs=O d):∃k ns,xs=[.int k]/\YU ds=O ns/\PyData.layable0 (.list (ns.map .int))=ya/\k∈ns/\d=.int (ns.idxOf k:Nat):=by
 unfold Ry at h;split at h
 .rename_i ds' k e1
  cases e1;cases z:YU ds with
  |none=>rw[z]at h;cases h
  |some ns=>
   rw[z]at h;dsimp only at h;split at h
   .rename_i c
    cases h;exact⟨k,ns,rfl,rfl,c.1,c.2,rfl⟩
   .cases h
 .cases h
noncomputable def Oa(f:M D)(g:M yc):M D:=Ki f λy=>Ki g λxs=>Kk (match y with | .list ds=>Ry (.list ds) xs|_=>w9)
theorem kF{apos cpos:Pos}{f:M D}{g:M yc}(ho:PE X o (tD X.K B G0 f))(ha:PA X (e::es) (tDs X.K B G0 g))
  (hbase:attributeBase o "index" X.env (eval o X.env)=eval o X.env:=by rfl)
  (hfew:((backTo cpos (UC (e::es) X.env)).all (λx=>!x.1)&&(backToKw cpos (keywordEach [] X.env)).all (λx=>x.1.isSome)
   && decide ((e::es).length+([]:List Keyword).length+(if([]:List Keyword).isEmpty then 0 else 1)<30))=ya:=by rfl)
  (hline:(apos.endLine==cpos.line)=ya:=by rfl) (hs:UC (e::es) X.env=(yb,eval e X.env)::UC es X.env:=by rfl) (hplain:(backTo cpos (UC es X.env)).any (·.1)=yb:=by rfl) :
  PE X (.Call (.Attribute o "index" apos) (e::es) [] cpos) (tD X.K B G0 (Oa f g)):=
 Kt (PN F.plainAttrs_list F.slot_list_index F.type_list_index kG ho ha hbase hfew hline hs hplain) λσ H Q q=>by
  refine tM.one (R:=Rep X.K) q λv H2 G Z y k r a=>?_
  cases y with
  |list ds=>
   obtain⟨l,ws,rfl,h1,r1⟩:=r.lst_inv;refine⟨.inl ⟨rfl,ws,k.gh.seq h1⟩,?_⟩;refine tM.nx (R:=Reps X.K) k a λxs H3 G3 Z3 es k3 s3 r3 a3=>?_
   obtain⟨d,e,a3⟩:=a3.opt;obtain⟨x,ns,rfl,z,hl,hk,rfl⟩:=wd e;obtain⟨u,rfl,ru⟩:=r3.one_inv;have:=Pv r1 z;subst this;exact⟨l,x,ns,rfl,by rw[ru.int_inv],k3.gh.seq (s3.seq h1),hl,hk,aft.now a3 k3 (.int _)⟩
  |_=>
   unfold Ki at a;cases z:g Z with
   |bad=>rw[z]at a;exact a.elim
   |ok xs Z1=>rw[z]at a;exact a.elim
theorem qz{f:M D}{g:M yc}{Z Z1 Z2:UU}{ds:yc}{x d:D}(h1:f Z=.ok (.list ds) Z1)(h2:g Z1=.ok [x] Z2)(h3:Ry (.list ds) [x]=O d):Oa f g Z=.ok d Z2:=by unfold Oa Ki;rw[h1];dsimp only;rw[h2];dsimp only;rw[h3];rfl
end
end DL
namespace DL
open PySem PySem.Spec PySem.W PyProof.Rows
noncomputable def Kp{α:Type}(lt:Nat->Nat->Bool):KasT α->α
 |.ret a=>a
 |.ask i j k=>Kp lt (k (lt i j))
theorem RF{α β:Type}{lt:Nat->Nat->Bool}{f:α->KasT β}:∀t:KasT α,Kp lt (t.bind f)=Kp lt (f (Kp lt t))
 |.ret _=>rfl
 |.ask i j k=>by show Kp lt ((k (lt i j)).bind f)=_;rw[RF];rfl
section
variable{key:Nat->Int}{p:Array Nat}
noncomputable def KA(key:Nat->Int)(p:Array Nat)(i:Nat):Int:=key (p.getD i 0)
def srt(key:Nat->Int)(p:Array Nat)(m:Nat):Prop:=∀i j,i<=j->j<m->KA key p i<=KA key p j
def dsc(key:Nat->Int)(p:Array Nat)(m:Nat):Prop:=∀i j,i<=j->j<m->KA key p j<=KA key p i
noncomputable abbrev kl(key:Nat->Int)(i j:Nat):Bool:=decide (key i<key j)
theorem Fv{k d i:Nat}(hk:k<p.size)(hd:d<=k):KA key (bubble p k d) i=if i=k-d then KA key p k else if k-d<i/\i<=k then KA key p (i-1)else KA key p i:=by
 unfold KA;simp only[Jj];rw[getElem?_bubble hk d hd]
 repeat' split
 all_goals rfl
theorem RY{i j k:Nat}(hj:j<=p.size):KA key (kas_rev p i j) k=if i<=k/\k<j then KA key p (i+j-1-k)else KA key p k:=by
 unfold KA kas_rev;simp only[Jj];rw[getElem?_mirror_all hj]
 split<;>rfl
theorem TF{i j:Nat}:(kas_rev p i j).size=p.size:=mirror_size _ _ _ _
theorem WV{i j:Nat}:(kas_rev p i j).Perm p:=mirror_perm _ _ _ _
theorem NZ:∀(f n:Nat),1<=n->srt key p n->srt key p (Kp (kl key) (kas_asc p f n))/\n<=Kp (kl key) (kas_asc p f n)/\Kp (kl key) (kas_asc p f n)<=n+f /\
  (Kp (kl key) (kas_asc p f n)<n+f->KA key p (Kp (kl key) (kas_asc p f n))<KA key p (Kp (kl key) (kas_asc p f n)-1))
 |0,n,h1,hs=>⟨hs,Qu _,Qu _,λh=>absurd h (Jv _)⟩
 |f+1,n,h1,hs=>by
  unfold kas_asc Kp;cases c:kl key (p.getD n 0) (p.getD (n-1) 0)with
  |true=>dsimp only;rw[Qo w8];exact⟨hs,Qu _,by show n<=n+(f+1);omega,λ_=>Qa c⟩
  |false=>
   dsimp only;rw[QB (by decide)];have hle:KA key p (n-1)<=KA key p n:=Ut.mp (Jf c)
   obtain⟨a1,a2,a3,a4⟩:=NZ f (n+1) (by omega) (λi j hij hj=>by
    by_cases zJ:j=n
    .subst zJ
     by_cases hin:i=j
     .subst hin;exact Q6 _
     .exact JW (hs i (j-1) (by omega) (by omega)) hle
    .exact hs i j hij (by omega))
   exact⟨a1,by omega,by omega,λh=>a4 (by omega)⟩
def eqs(key:Nat->Int)(p:Array Nat)(n q:Nat):Prop:=∀i,n-1-q<=i->i<n->KA key p i=KA key p (n-1)
theorem OW:∀(f:Nat)(p:Array Nat)(n q:Nat),1<=n->q+1<=n->n+f<=p.size->dsc key p n->eqs key p n q ->
  let r:=Kp (kl key) (kas_desc f p n q)
  r.1.Perm p/\r.1.size=p.size/\dsc key r.1 r.2.1/\eqs key r.1 r.2.1 r.2.2/\r.2.2+1<=r.2.1/\n<=r.2.1/\r.2.1<=n+f
 |0,p,n,q,h1,hq,hz,hd,he=>⟨Up _,rfl,hd,he,hq,Qu _,Qu _⟩
 |f+1,p,n,q,h1,hq,hz,hd,he=>by
  intro r;have hr:r=Kp (kl key) (kas_desc (f+1) p n q):=rfl;unfold kas_desc Kp at hr;cases c:kl key (p.getD n 0) (p.getD (n-1) 0)with
  |true=>
   rw[c]at hr;(try dsimp only at hr);rw[if_pos w8]at hr;have hlt:KA key p n<KA key p (n-1):=Qa c
   have ext:∀p':Array Nat,(∀i,KA key p' i=KA key p i)->dsc key p' (n+1)/\eqs key p' (n+1) 0:=λp' hp=>⟨λi j hij hj=>by
     rw[hp,hp];by_cases zJ:j=n
     .subst zJ
      by_cases hin:i=j
      .subst hin;exact Q6 _
      .exact JW (Int.le_of_lt hlt) (hd i (j-1) (by omega) (by omega))
     .exact hd i j hij (by omega),λi hi1 hi2=>by
     have:i=n:=by omega
     subst this;rfl⟩
   by_cases hq0:q > 0
   .rw[Qo hq0]at hr
    have same:∀i,KA key (kas_rev p (n-(q+1)) n) i=KA key p i:=λi=>by
     rw[RY (by omega)];split
     .rw[he _ (by omega) (by omega),he i (by omega) (by omega)]
     .rfl
    obtain⟨d1,e1⟩:=ext _ same;obtain⟨a1,a2,a3,a4,a5,a6,a7⟩:=OW f (kas_rev p (n-(q+1)) n) (n+1) 0 (by omega) (by omega) (by rw[TF];omega) d1 e1;rw[←hr]at a1 a2 a3 a4 a5 a6 a7;exact⟨a1.trans WV,a2.trans TF,a3,a4,a5,by omega,by omega⟩
   .rw[QB hq0]at hr
    obtain⟨d1,e1⟩:=ext p λ_=>rfl
    obtain⟨a1,a2,a3,a4,a5,a6,a7⟩:=OW f p (n+1) 0 (by omega) (by omega) (by omega) d1 e1;rw[←hr]at a1 a2 a3 a4 a5 a6 a7;exact⟨a1,a2,a3,a4,a5,by omega,by omega⟩
  |false=>
   rw[c]at hr;(try dsimp only at hr);rw[if_neg (by decide)]at hr;unfold Kp at hr;have hle:KA key p (n-1)<=KA key p n:=Ut.mp (Jf c);cases d:kl key (p.getD (n-1) 0) (p.getD n 0)with
   |true=>rw[d]at hr;(try dsimp only at hr);rw[if_pos w8]at hr;unfold Kp at hr;rw[hr];exact⟨Up _,rfl,hd,he,hq,Qu _,by show n<=n+(f+1);omega⟩
   |false=>
    rw[d]at hr;(try dsimp only at hr);rw[if_neg (by decide)]at hr;have hge:KA key p n<=KA key p (n-1):=Ut.mp (Jf d)
    obtain⟨a1,a2,a3,a4,a5,a6,a7⟩:=OW f p (n+1) (q+1) (by omega) (by omega) (by omega) (λi j hij hj=>by
     by_cases zJ:j=n
     .subst zJ
      by_cases hin:i=j
      .subst hin;exact Q6 _
      .exact JW hge (hd i (j-1) (by omega) (by omega))
     .exact hd i j hij (by omega)) (λi hi1 hi2=>by
     have e0:KA key p n=KA key p (n-1):=JT hge hle;show KA key p i=KA key p (n+1-1);rw[J7,e0];by_cases hin:i=n
     .subst hin;exact e0
     .exact he i (by omega) (by omega))
    rw[←hr]at a1 a2 a3 a4 a5 a6 a7;exact⟨a1,a2,a3,a4,a5,by omega,by omega⟩
theorem ED{n nrem:Nat}(h1:1<=n)(hn:n<=nrem)(hz:nrem<=p.size)(hd:dsc key p n) :
  let r:=Kp (kl key) (kas_tail3 n nrem p)
  r.2.Perm p/\r.2.size=p.size/\srt key r.2 r.1/\1<=r.1/\r.1<=nrem:=by
 intro r;have hr:r=Kp (kl key) (kas_tail3 n nrem p):=rfl;unfold kas_tail3 at hr;rw[RF]at hr;have hs:srt key (kas_rev p 0 n) n:=λi j hij hj=>by rw[RY (by omega),RY (by omega),Qo (by omega),Qo (by omega)];exact hd _ _ (by omega) (by omega)
 obtain⟨a1,a2,a3,_⟩:=NZ (key:=key) (p:=kas_rev p 0 n) (nrem-n) n h1 hs;rw[hr];exact⟨WV,TF,a1,by show 1<=Kp _ _;omega,by show Kp _ _<=_;omega⟩
theorem EV{n nrem:Nat}(h1:1<=n)(hn:n+1<=nrem)(hz:nrem<=p.size)(hd:dsc key p (n+1)) :
  let r:=Kp (kl key) (kas_descPart n nrem p)
  r.2.Perm p/\r.2.size=p.size/\srt key r.2 r.1/\1<=r.1/\r.1<=nrem:=by
 intro r;have hr:r=Kp (kl key) (kas_descPart n nrem p):=rfl;unfold kas_descPart at hr;rw[RF]at hr
 obtain⟨a1,a2,a3,a4,a5,a6,a7⟩:=OW (key:=key) (nrem-(n+1)) p (n+1) 0 (by omega) (by omega) (by omega) hd (λi hi1 hi2=>by
  have:i=n:=by omega
  subst this;rfl)
 generalize Kp (kl key) (kas_desc (nrem-(n+1)) p (n+1) 0)=d at hr a1 a2 a3 a4 a5 a6 a7;obtain⟨p1,n1,q1⟩:=d;dsimp only at hr a1 a2 a3 a4 a5 a6 a7;by_cases hq:q1 > 0
 .rw[Qo hq]at hr
  have same:∀i,KA key (kas_rev p1 (n1-(q1+1)) n1) i=KA key p1 i:=λi=>by
   rw[RY (by omega)];split
   .rw[a4 _ (by omega) (by omega),a4 i (by omega) (by omega)]
   .rfl
  obtain⟨b1,b2,b3,b4,b5⟩:=ED (key:=key) (p:=kas_rev p1 (n1-(q1+1)) n1) (n:=n1) (nrem:=nrem) (by omega) (by omega) (by rw[TF];omega) (λi j hij hj=>by rw[same,same];exact a3 i j hij hj);rw[hr];exact⟨(b1.trans WV).trans a1,(b2.trans TF).trans a2,b3,b4,b5⟩
 .rw[QB hq]at hr
  obtain⟨b1,b2,b3,b4,b5⟩:=ED (key:=key) (p:=p1) (n:=n1) (nrem:=nrem) (by omega) (by omega) (by omega) a3;rw[hr];exact⟨b1.trans a1,b2.trans a2,b3,b4,b5⟩
theorem vz{nrem:Nat}(h1:1<=nrem)(hz:nrem<=p.size) :
  let r:=Kp (kl key) (kas_count nrem p)
  r.2.Perm p/\r.2.size=p.size/\srt key r.2 r.1/\1<=r.1/\r.1<=nrem:=by
 intro r;have hr:r=Kp (kl key) (kas_count nrem p):=rfl;unfold kas_count at hr;rw[RF]at hr
 obtain⟨a1,a2,a3,a4⟩:=NZ (key:=key) (p:=p) (nrem-1) 1 (Qu _) (λi j hij hj=>by
  have:i=j:=by omega
  subst this;exact Q6 _)
 generalize Kp (kl key) (kas_asc p (nrem-1) 1)=n at hr a1 a2 a3 a4;by_cases hn:(n==nrem)=ya
 .rw[Qo hn]at hr
  unfold Kp at hr;rw[hr];exact⟨Up _,rfl,a1,a2,by show n<=nrem;omega⟩
 .rw[QB hn]at hr
  have hne:n≠nrem:=by simpa using hn
  have hlt:=a4 (by omega);by_cases hn1:n > 1
  .rw[Qo hn1]at hr
   unfold Kp at hr;cases c:kl key (p.getD 0 0) (p.getD (n-1) 0)with
   |true=>rw[c]at hr;(try dsimp only at hr);rw[if_pos w8]at hr;unfold Kp at hr;rw[hr];exact⟨Up _,rfl,a1,a2,by show n<=nrem;omega⟩
   |false=>
    rw[c]at hr;(try dsimp only at hr);rw[if_neg (by decide)]at hr;have hge:KA key p (n-1)<=KA key p 0:=Ut.mp (Jf c);have all:∀i,i<n->KA key p i=KA key p 0:=λi hi=>JT (JW (a1 i (n-1) (by omega) (by omega)) hge) (a1 0 i (by omega) hi)
    have same:∀i,KA key (kas_rev p 0 n) i=KA key p i:=λi=>by
     rw[RY (by omega)];split
     .rw[all _ (by omega),all i (by omega)]
     .rfl
    obtain⟨b1,b2,b3,b4,b5⟩:=EV (key:=key) (p:=kas_rev p 0 n) (n:=n) (nrem:=nrem) a2 (by omega) (by rw[TF];exact hz) (λi j hij hj=>by
     rw[same,same];by_cases zJ:j=n
     .subst zJ
      by_cases hin:i=j
      .subst hin;exact Q6 _
      .rw[all i (by omega)]
       rw[all (j-1) (by omega)]at hlt;exact Int.le_of_lt hlt
     .rw[all i (by omega),all j (by omega)];exact Q6 _)
    rw[hr];exact⟨b1.trans WV,b2.trans TF,b3,b4,b5⟩
  .rw[QB hn1]at hr
   have:n=1:=by omega
   subst this
   obtain⟨b1,b2,b3,b4,b5⟩:=EV (key:=key) (p:=p) (n:=1) (nrem:=nrem) (Qu _) (by omega) hz (λi j hij hj=>by
    by_cases hij2:i=j
    .subst hij2;exact Q6 _
    .have h0:i=0:=by omega
     have h1:j=1:=by omega
     subst h0;subst h1;exact Int.le_of_lt hlt)
   rw[hr];exact⟨b1,b2,b3,b4,b5⟩
theorem MI{k:Nat}(hs:srt key p k):∀(f l r:Nat),l<=r->r<=k->r-l<=f->(∀i,i<l->KA key p i<=KA key p k)->(∀i,r<=i->i<k->KA key p k<KA key p i) ->
  let m:=Kp (kl key) (kas_place p k f l r)
  m<=k/\(∀i,i<m->KA key p i<=KA key p k)/\(∀i,m<=i->i<k->KA key p k<KA key p i)
 |0,l,r,hlr,hrk,hf,h1,h2=>⟨by show l<=k;omega,h1,λi (hi:l<=i)=>h2 i (by omega)⟩
 |f+1,l,r,hlr,hrk,hf,h1,h2=>by
  intro m;have hm:m=Kp (kl key) (kas_place p k (f+1) l r):=rfl;unfold kas_place at hm;by_cases hge:l ≥ r
  .rw[Qo hge]at hm
   unfold Kp at hm;rw[hm];exact⟨by omega,h1,λi hi=>h2 i (by omega)⟩
  .rw[QB hge]at hm
   unfold Kp at hm;cases c:kl key (p.getD k 0) (p.getD ((l+r) / 2) 0)with
   |true=>rw[c]at hm;(try dsimp only at hm);rw[if_pos w8]at hm;rw[hm];have hlt:KA key p k<KA key p ((l+r) / 2):=Qa c;exact MI hs f l ((l+r) / 2) (by omega) (by omega) (by omega) h1 λi hi hik=>Int.lt_of_lt_of_le hlt (hs _ _ hi hik)
   |false=>rw[c]at hm;(try dsimp only at hm);rw[if_neg (by decide)]at hm;rw[hm];have hle:KA key p ((l+r) / 2)<=KA key p k:=Ut.mp (Jf c);exact MI hs f ((l+r) / 2+1) r (by omega) hrk (by omega) (λi hi=>JW (hs i ((l+r) / 2) (by omega) (by omega)) hle) h2
theorem Fa:∀(f:Nat)(p:Array Nat)(k:Nat),k+f<=p.size->srt key p k->let r:=Kp (kl key) (kas_bin f p k);r.Perm p/\r.size=p.size/\srt key r (k+f)
 |0,p,k,_,hs=>⟨Up _,rfl,hs⟩
 |f+1,p,k,hz,hs=>by
  intro r;have hr:r=Kp (kl key) (kas_bin (f+1) p k):=rfl;unfold kas_bin at hr;rw[RF]at hr;obtain⟨a1,a2,a3⟩:=MI (key:=key) hs k 0 k (JM _) (Qu _) (by omega) (λi hi=>by omega) (λi h1 h2=>by omega);generalize Kp (kl key) (kas_place p k k 0 k)=l at hr a1 a2 a3;have hk:k<p.size:=by omega
  obtain⟨b1,b2,b3⟩:=Fa f (bubble p k (k-l)) (k+1) (by rw[bubble_size];omega) (λi j hij hj=>by
   rw[Fv hk (by omega),Fv hk (by omega),show k-(k-l)=l by omega];by_cases hi:i=l
   .rw[Qo hi]
    by_cases yB:j=l
    .rw[Qo yB];exact Q6 _
    .rw[QB yB,Qo (by omega)]
     exact Int.le_of_lt (a3 (j-1) (by omega) (by omega))
   .rw[QB hi]
    by_cases hi2:l<i/\i<=k
    .rw[Qo hi2,QB (show ¬j=l by omega),Qo (by omega)]
     exact hs _ _ (by omega) (by omega)
    .rw[QB hi2]
     by_cases yB:j=l
     .rw[Qo yB];exact a2 i (by omega)
     .rw[QB yB]
      split
      .exact hs _ _ (by omega) (by omega)
      .exact hs _ _ (by omega) (by omega))
  rw[hr];exact⟨b1.trans (bubble_perm _ _ _),b2.trans (bubble_size _ _ _),by rw[show k+(f+1)=k+1+f by omega];exact b3⟩
theorem kE{n:Nat}(h1:1<=n):let r:=Kp (kl key) (kas_sort n);r.Perm (List.toArray (UE n))/\r.size=n/\srt key r n:=by
 intro r;have hr:r=Kp (kl key) (kas_sort n):=rfl;unfold kas_sort at hr;rw[RF]at hr;have hsz:(List.toArray (UE n)).size=n:=by simp
 obtain⟨a1,a2,a3,a4,a5⟩:=vz (key:=key) (p:=List.toArray (UE n)) (nrem:=n) h1 (by rw[hsz];exact Qu _);generalize Kp (kl key) (kas_count n (List.toArray (UE n)))=d at hr a1 a2 a3 a4 a5;by_cases hlt:d.1<n
 .rw[Qo hlt]at hr
  have hmax:max d.1 1=d.1:=by omega
  rw[hmax]at hr;obtain⟨b1,b2,b3⟩:=Fa (key:=key) (n-d.1) d.2 d.1 (by omega) a3;rw[hr];exact⟨b1.trans a1,by omega,by rw[show d.1+(n-d.1)=n by omega]at b3;exact b3⟩
 .rw[QB hlt]at hr
  unfold Kp at hr;rw[hr];exact⟨a1,by omega,by rw[show d.1=n by omega]at a3;exact a3⟩
noncomputable def Asks{α:Type}(N:Nat)(R:α->Prop):KasT α->Prop
 |.ret a=>R a
 |.ask i j k=>i<N/\j<N/\∀b,Asks N R (k b)
theorem Asks.bind{α β:Type}{N:Nat}{R:α->Prop}{S:β->Prop}{f:α->KasT β}(hf:∀a,R a->Asks N S (f a)):∀{t:KasT α},Asks N R t->Asks N S (t.bind f)
 |.ret a,h=>hf a h
 |.ask _ _ k,⟨h1,h2,h3⟩=>⟨h1,h2,λb=>Asks.bind hf (h3 b)⟩
theorem GZ{α:Type}{lt:Nat->Nat->Bool}{cmp:Nat->Nat->(Bool->Uv->Prop)->Uv->Prop}{s:Uv}{N:Nat}{R:α->Prop}(hc:∀i j C,i<N->j<N->C (lt i j) s->cmp i j C s):∀(t:KasT α)(Q:α->Uv->Prop),Asks N R t->Q (Kp lt t) s->t.kasWp cmp Q s
 |.ret _,_,_,h=>h
 |.ask i j k,Q,⟨h1,h2,h3⟩,h=>hc i j _ h1 h2 (GZ hc (k (lt i j)) Q (h3 _) h)
def bnd(N:Nat)(p:Array Nat):Prop:=∀i,p.getD i 0<N
theorem RH{N:Nat}{p q:Array Nat}(hN:0<N)(h:bnd N p)(e:q.Perm p):bnd N q:=λi=>by
 rw[Jj];cases z:q[i]? with
 |none=>exact hN
 |some v=>have hm:v∈q:=Array.mem_of_getElem? z;have hm2:v∈p:=e.mem_iff.mp hm;obtain⟨j,hj,e2⟩:=Array.mem_iff_getElem.mp hm2;have:=h j;rw[Jj,JS hj,e2]at this;exact this
section
variable{N:Nat}(hN:0<N)
include hN
theorem NY{p:Array Nat}(h:bnd N p):∀(f n:Nat),Asks N (λ_=>True) (kas_asc p f n)
 |0,_=>trivial
 |f+1,n=>⟨h _,h _,λb=>by
  cases b with
  |true=>(try dsimp only);rw[if_pos w8];trivial
  |false=>(try dsimp only);rw[if_neg (by decide)];exact NY h f (n+1)⟩
theorem OV:∀(f:Nat)(p:Array Nat)(n q:Nat),bnd N p->Asks N (λr=>bnd N r.1) (kas_desc f p n q)
 |0,p,_,_,h=>h
 |f+1,p,n,q,h=>⟨h _,h _,λb=>by
  cases b with
  |true=>
   dsimp only;rw[Qo w8];split
   .exact OV f _ _ _ (RH hN h WV)
   .exact OV f _ _ _ h
  |false=>
   dsimp only;rw[QB (by decide)];refine⟨h _,h _,λb=>?_⟩;cases b with
   |true=>(try dsimp only);rw[if_pos w8];exact h
   |false=>(try dsimp only);rw[if_neg (by decide)];exact OV f _ _ _ h⟩
theorem EC{p:Array Nat}{n nrem:Nat}(h:bnd N p):Asks N (λr=>bnd N r.2) (kas_tail3 n nrem p):=
 Asks.bind (N:=N) (R:=λ_=>True) (S:=λr:Nat×Array Nat=>bnd N r.2) (f:=λm=>.ret (m,kas_rev p 0 n)) (λ_ _=>RH (p:=p) (q:=kas_rev p 0 n) hN h WV) (NY hN (RH hN h WV) _ _)
theorem EU{p:Array Nat}{n nrem:Nat}(h:bnd N p):Asks N (λr=>bnd N r.2) (kas_descPart n nrem p):=
 Asks.bind (λr hr=>by
  split
  .exact EC hN (RH hN hr WV)
  .exact EC hN hr) (OV hN _ _ _ _ h)
theorem vy{p:Array Nat}{nrem:Nat}(h:bnd N p):Asks N (λr=>bnd N r.2) (kas_count nrem p):=
 Asks.bind (R:=λ_=>True) (λn _=>by
  split
  .exact h
  .split
   .refine⟨h _,h _,λb=>?_⟩
    cases b with
    |true=>(try dsimp only);rw[if_pos w8];exact h
    |false=>(try dsimp only);rw[if_neg (by decide)];exact EU hN (RH hN h WV)
   .exact EU hN h) (NY hN h _ _)
theorem MH{p:Array Nat}(h:bnd N p)(k:Nat):∀(f l r:Nat),Asks N (λ_=>True) (kas_place p k f l r)
 |0,_,_=>trivial
 |f+1,l,r=>by
  unfold kas_place;split
  .trivial
  .refine⟨h _,h _,λb=>?_⟩
   cases b with
   |true=>(try dsimp only);rw[if_pos w8];exact MH h k f _ _
   |false=>(try dsimp only);rw[if_neg (by decide)];exact MH h k f _ _
theorem GY:∀(f:Nat)(p:Array Nat)(k:Nat),bnd N p->Asks N (λ_=>True) (kas_bin f p k)
 |0,_,_,_=>trivial
 |f+1,p,k,h=>Asks.bind (R:=λ_=>True) (λl _=>GY f _ _ (RH hN h (bubble_perm _ _ _))) (MH hN h k _ _ _)
end
theorem kC{n:Nat}(hn:0<n):Asks n (λ_=>True) (kas_sort n):=by
 have hb:bnd n (List.toArray (UE n)):=λi=>by
  rw[Jj];by_cases hi:i<n
  .simp[hi]
  .simp[hi,hn]
 refine Asks.bind (λr hr=>?_) (vy hn hb);split
 .exact GY hn _ _ _ hr
 .trivial
end
noncomputable def KG(q:Int×Int):Int:=q.1*10000000+q.2
def okP(q:Int×Int):Prop:=-1000000<=q.2/\q.2<=1000000
theorem BL{x y:Int×Int}(hx:okP x)(hy:okP y):KG x<KG y ↔ (x.1<y.1∨x.1=y.1/\x.2<y.2):=by unfold KG okP at *;omega
theorem qy{x y:Int×Int}(hx:okP x)(hy:okP y)(h:KG x=KG y):x=y:=by
 unfold KG okP at *;have h1:x.1=y.1:=by omega
 have h2:x.2=y.2:=by omega
 exact Prod.ext h1 h2
section
variable{prog:Uw}{w:World}{A:Around}{E:Uu->Uv->Prop}{s:Uv}
def P9(h:Heap)(v:Uu)(q:Int×Int):Prop:=∃a t u o n,v=.ref a/\h.get? a=O o/\o.cls=.type "tuple" /\ o.data=.seq #[.int q.1 t,.int q.2 u] n
theorem BK{x y:Uu}{p q:Int×Int}{Q:Bool->Uv->Prop}(hx:P9 s.heap x p)(hy:P9 s.heap y q)(h:Q (decide (p.1<q.1∨p.1=q.1/\p.2<q.2)) s):UB (model prog w) A (keyLt' (tuples' ya) x y) Q E s:=by
 obtain⟨a,t,u,o,n,rfl,e1,c1,d1⟩:=hx;obtain⟨b,t',u',o',n',rfl,e2,c2,d2⟩:=hy;refine kat_lt e1 d1 e2 d2 ?_;show KatLex prog w A ya _ Q [(Value.int p.1 t,Value.int q.1 t'),(Value.int p.2 u,Value.int q.2 u')] 0 s;refine kat_cons (wpAny_eqBool_int ?_);by_cases h1:p.1=q.1
 .have e:(p.1==q.1)=ya:=by simpa using h1
  rw[e];refine kat_yes (kat_cons (wpAny_eqBool_int ?_));by_cases h2:p.2=q.2
  .have e:(p.2==q.2)=ya:=by simpa using h2
   rw[e];refine kat_yes (kat_nil ?_);have:decide (p.1<q.1∨p.1=q.1/\p.2<q.2)=yb:=QU (by omega);rw[this]at h;exact h
  .have e:(p.2==q.2)=yb:=by simpa using h2
   rw[e];refine kat_no (kat_one _ _ (PyProof.Rows.lt_int ?_))
   have:decide (p.1<q.1∨p.1=q.1/\p.2<q.2)=decide (p.2<q.2):=by
    by_cases z:p.2<q.2
    .rw[Q8 z,Q8 (.inr ⟨h1,z⟩)]
    .rw[QU z,QU (by omega)]
   rw[this]at h;exact h
 .have e:(p.1==q.1)=yb:=by simpa using h1
  rw[e];refine kat_no (oneLt_int ?_)
  have:decide (p.1<q.1∨p.1=q.1/\p.2<q.2)=decide (p.1<q.1):=by
   by_cases z:p.1<q.1
   .rw[Q8 z,Q8 (.inl z)]
   .rw[QU z,QU (by omega)]
  rw[this]at h;exact h
noncomputable def Y2(h:Heap):yf->LP->Prop
 |[],[]=>True
 |v::vs,q::qs=>P9 h v q/\Y2 h vs qs
 |_,_=>False
theorem Y2.get{h:Heap}:∀{vs:yf}{qs:LP},Y2 h vs qs->vs.length=qs.length/\∀(i:Nat)(hi:i<vs.length),P9 h (vs.getD i .none) (qs.getD i (0,0))
 |[],[],_=>⟨rfl,λi hi=>absurd hi (JG _)⟩
 |v::vs,q::qs,⟨h1,h2⟩=>by
  obtain⟨e,f⟩:=Y2.get h2;refine⟨by simp[e],λi hi=>?_⟩;cases i with
  |zero=>exact h1
  |succ i=>exact f i (by simpa using hi)
theorem Y2.tups{h:Heap}:∀{vs:yf}{qs:LP},Y2 h vs qs->∃fs:yf,KatTups h vs fs/\fs.length=vs.length/\∀v∈fs,∃i t,v=.int i t
 |[],[],_=>⟨[],trivial,rfl,λ_ h=>by cases h⟩
 |v::vs,q::qs,⟨hp,h2⟩=>by
  obtain⟨a,t,u,o,n,rfl,e1,c1,d1⟩:=hp;obtain⟨fs,f1,f2,f3⟩:=Y2.tups h2;refine⟨.int q.1 t::fs,.cons e1 c1 d1 w8 f1,by simp[f2],λv hv=>?_⟩;rcases Qw.mp hv with rfl|hv
  .exact⟨_,_,rfl⟩
  .exact f3 v hv
theorem Y2.mono{h h':Heap}(k:∀b o,h.get? b=O o->h'.get? b=O o):∀{vs:yf}{qs:LP},Y2 h vs qs->Y2 h' vs qs
 |[],[],_=>trivial
 |v::vs,q::qs,⟨hp,h2⟩=>by obtain⟨a,t,u,o,n,rfl,e1,c1,d1⟩:=hp;exact⟨⟨a,t,u,o,n,rfl,k _ _ e1,c1,d1⟩,Y2.mono k h2⟩
def Py(qs:LP)(π:yn):Prop:=π.Perm (UE qs.length)/\(π.map λi=>qs.getD i (0,0)).Pairwise λx y=>KG x<=KG y
theorem w4{a:Ux}{vs:yf}{qs:LP}{n:Nat}{P:Fin->Uv->Prop}(ho:s.heap.get? a=O (seqObj "list" vs.toArray n))
  (hp:Y2 ((s.heap.update a (Obj.mapSeq λ_=>#[]))) vs qs) (hq:∀q∈qs,okP q) (h64:vs.length<64)
  (h:∀π:yn,Py qs π->P (.done (.ret .none)) {s with heap:=sortedHeap s.heap a vs (List.toArray (π.map λi=>vs.getD i .none))}) :
  UB (model prog w) A (Builtin.«list.sort» ⟨[.ref a],[]⟩) P E s:=by
 obtain⟨hl,hget⟩:=hp.get;rw[list_sort_plain];have ha:a<s.heap.objs.size:=Qj ho;refine Qf (listItems_at ho w8 ?_);refine Qf (listUpdate_at ho w8 ?_);obtain⟨e1,ho1⟩:∃e1,(s.heap.update a (Obj.mapSeq λ_=>#[])).get? a=O (seqObj "list" #[] e1):=⟨_,get?_update_seq ho (λ_=>#[])⟩
 refine Qf (seqEpoch_at ho1 w8 ?_);refine Qf (wpAny_newTuple ?_);refine Qf (wpAny_newList ?_);refine wpAny_holding ?_;have ho6:(((s.heap.update a (Obj.mapSeq λ_=>#[])).push (seqObj "tuple" vs.toArray 0)).push (seqObj "list" #[] 0)).get? a=O (seqObj "list" #[] e1):=by rw[Heap.get?_push_ne _ _ _ (by rw[size_push',Heap.size_update];exact QT (JX ha)),Heap.get?_push_ne _ _ _ (by rw[Heap.size_update];exact QT ha)];exact ho1
 have hp6:Y2 (((s.heap.update a (Obj.mapSeq λ_=>#[])).push (seqObj "tuple" vs.toArray 0)).push (seqObj "list" #[] 0)) vs qs:=hp.mono λb o e=>Qm _ (Qm _ e)
 show UB (model prog w) A _ P E {s with heap:=((s.heap.update a (Obj.mapSeq λ_=>#[])).push (seqObj "tuple" vs.toArray 0)).push (seqObj "list" #[] 0)};dsimp only;have hsz:vs.toArray.size=vs.length:=by simp
 by_cases h2:vs.toArray.size<2
 .rw[Qo h2,Qo h2]
  refine Qf (Qn ?_);rw[StateT.run_pure];refine Qf (Qn ?_);dsimp only;refine Qf (seqEpoch_at ho6 w8 ?_);refine Qf (listUpdate_at ho6 w8 ?_ (hsz2:=by rw[Array.size_map];show(pairsOf vs).size<=_;rw[pairsOf_size,sizeLine_eq];omega));simp only[bne_self_eq_false,J6,if_false]
  have hid:(arrOf (SortSt.mk' general' (vs.toArray.zip vs.toArray) #[] 7 w9)).map (·.2)=List.toArray ((UE vs.length).map λi=>vs.getD i .none):=by
   show(vs.toArray.zip vs.toArray).map (·.2)=_
   apply Array.toList_inj.mp;apply Ug;intro i;simp only[Array.toList_map,Array.toList_zip,Qd,List.getElem?_zip_eq_some];by_cases hi:i<vs.length
   .simp[List.getElem?_zip_eq_some,hi,List.getElem?_range]
   .simp[hi]
  rw[hid];refine Qn (h (UE vs.length) ⟨by rw[hl],?_⟩);rw[List.pairwise_map];rw[hsz]at h2
  rcases(show vs.length=0∨vs.length=1 by omega)with z|z<;>rw[z]
  .exact .nil
  .exact List.pairwise_singleton _ _
 .rw[QB h2,QB h2]
  rw[hsz]at h2;obtain⟨fs,f1,f2,f3⟩:=hp6.tups;refine Qf (kat_kind (T:=.type "int") f1 (by omega) (λv hv=>by obtain⟨i,t,rfl⟩:=f3 v hv;exact(show Looks _ _ (pure (Value.type "int")) _ from .now)) w8 ?_)
  refine Qf (QN (kat_run (ks:=vs) (G:=λp s'=>s' = {s with heap:=((s.heap.update a (Obj.mapSeq λ_=>#[])).push (seqObj "tuple" vs.toArray 0)).push (seqObj "list" #[] 0)}/\p=Kp (kl λi=>KG (qs.getD i (0,0))) (kas_sort vs.length))
   (Q:=λst' s'=>s' = {s with heap:=((s.heap.update a (Obj.mapSeq λ_=>#[])).push (seqObj "tuple" vs.toArray 0)).push (seqObj "list" #[] 0)}/\failedOf st'=w9/\arrOf st'=(Kp (kl λi=>KG (qs.getD i (0,0))) (kas_sort vs.length)).map (kas_item (vs.toArray.zip vs.toArray)))
   rfl (by omega) h64 (λp st' s' a1 a2 a3 a4=>⟨a4.1,a3,by rw[a2,a4.2]⟩) ?_) ?_ λ_ _ e=>e)
  .refine GZ (N:=vs.length) (R:=λ_=>True) (lt:=kl λi=>KG (qs.getD i (0,0))) (λi j C hi hj hC=>?_) _ _ (kC (by omega)) ⟨rfl,rfl⟩
   refine BK (Y2.get hp6 |>.2 i hi) (Y2.get hp6 |>.2 j hj) ?_;have oi:okP (qs.getD i (0,0)):=hq _ (by rw[Ql,Qe (by omega)];exact Jp _);have oj:okP (qs.getD j (0,0)):=hq _ (by rw[Ql,Qe (by omega)];exact Jp _);have e:decide ((qs.getD i (0,0)).1<(qs.getD j (0,0)).1∨(qs.getD i (0,0)).1=(qs.getD j (0,0)).1/\(qs.getD i (0,0)).2<(qs.getD j (0,0)).2)=kl (λi=>KG (qs.getD i (0,0))) i j:=by unfold kl;exact decide_eq_decide.mpr (BL oi oj).symm
   rw[e];exact hC
  .rintro⟨⟨⟩,st'⟩ s' ⟨rfl,hf,har⟩
   dsimp only;obtain⟨b1,b2,b3⟩:=kE (key:=λi=>KG (qs.getD i (0,0))) (n:=vs.length) (by omega);generalize Kp (kl λi=>KG (qs.getD i (0,0))) (kas_sort vs.length)=p at har b1 b2 b3;have hout:=kat_snds (ks:=vs) (vs:=vs) w8 har;have hsz2:((arrOf st').map (·.2)).size=vs.length:=by rw[hout,QX,Qb,JE,b2]
   refine Qf (seqEpoch_at ho6 w8 ?_);refine Qf (listUpdate_at ho6 w8 ?_ (hsz2:=by rw[hsz2,sizeLine_eq];omega));rw[hf];simp only[bne_self_eq_false,J6,if_false];rw[hout];refine Qn (h p.toList ⟨?_,?_⟩)
   .have:=Array.perm_iff_toList_perm.mp b1
    rw[←hl];exact this
   .rw[List.pairwise_map,List.pairwise_iff_getElem]
    intro i j hi hj hij;rw[JE,b2]at hi hj;have:=b3 i j (by omega) hj;unfold KA at this;rw[Jj,Jj,JS (by omega),JS (by omega)]at this;simpa using this
end
section
variable{prog:Uw}{w:World}{A:Around}{E:Uu->Uv->Prop}{s:Uv}
theorem wx{l:Ux}{vs:yf}{qs:LP}{Q:Uu->Uv->Prop}(hl:s.heap.IsList l vs.toArray)(hp:Y2 s.heap vs qs)(hq:∀q∈qs,okP q)(h64:vs.length<64)
  (h:∀π:yn,Py qs π->Q (.ref (s.heap.objs.size+1)) {s with heap:=sortedAll s.heap vs (List.toArray (π.map λi=>vs.getD i .none))}) :
  UB (model prog w) A (call (.builtin "sorted") [.ref l]) Q E s:=by
 refine Calls.call_function_entry kind_sorted plain_sorted entry_sorted (args_sorted1 _) ?_;unfold Builtin.«sorted»;refine Qf (m:=checkCount "sorted" 1 1 _) (Qn ?_);refine Qf (collect_list hl ?_);refine Qf (wpAny_newList ?_);have hsz:((s.heap.push (seqObj "list" #[] 0)).update s.heap.objs.size (Obj.mapSeq (· ++ vs.toArray))).objs.size=s.heap.objs.size+1:=by rw[Heap.size_update,size_push']
 have hoL:(((s.heap.push (seqObj "list" #[] 0)).update s.heap.objs.size (Obj.mapSeq (· ++ vs.toArray))).push (seqObj "list" vs.toArray 0)).get? (s.heap.objs.size+1)=O (seqObj "list" vs.toArray 0):=by rw[←hsz];exact QK _ w8
 show UB _ _ _ _ _ {s with heap:=((s.heap.push (seqObj "list" #[] 0)).update s.heap.objs.size (Obj.mapSeq (· ++ vs.toArray))).push (seqObj "list" vs.toArray 0)};rw[hsz];refine Qf (wpAny_holding (wpAny_call_entry slot_list_sort ⟨_,hoL,rfl⟩ entry_list_sort (w4 (qs:=qs) hoL (hp.mono λb o e=>?_) hq h64 λπ a1=>⟨_,rfl,?_⟩) (args_list_sort _)))
 .have hlt:b<s.heap.objs.size:=Qj e
  dsimp only;have ar:(b:Nat)<s.heap.objs.size:=hlt;rw[Heap.get?_update_ne _ _ _ _ (QT (JX ar)),Heap.get?_push_ne _ _ _ (by rw[hsz];exact QT (JX ar)),Heap.get?_update_ne _ _ _ _ (QT hlt),Heap.get?_push_ne _ _ _ (QT hlt)];exact e
 .exact Qn ⟨_,rfl,h π a1⟩
end
end DL
namespace DL
open PySem PySem.Spec L2
open PyProof.Rows hiding St
section
variable{X:Cx}
theorem GX{pins:List (Ux×Obj)}{s:Uv}{σ:St}{H:Hp}(I:Inv X pins σ H s):∀{as:yh}{us:yf}{qs:LP},Vals (as.map V.ref) us->as.length=qs.length->(∀(i:Nat) a q,as[i]?=O a->qs[i]?=O q->SqT X.K H a [.int q.1,.int q.2])->Y2 s.heap us qs
 |[],_,[],.nil,_,_=>trivial
 |a::as,_,q::qs,.cons r t,hl,h=>by refine⟨?_,GX I t (by simpa using hl) λi a q h1 h2=>h (i+1) a q (by simpa using h1) (by simpa using h2)⟩;cases r;obtain⟨its,rv,⟨o,e,c,n,d⟩,_⟩:=I.tuple (h 0 a q w8 w8);obtain⟨u,v,rfl,r1,r2⟩:=rv.two;obtain⟨t1,rfl⟩:=r1;obtain⟨t2,rfl⟩:=r2;exact⟨a,t1,t2,o,n,rfl,e,c,by simpa using d⟩
theorem Fu{as:yh}{us:yf}(r:Vals (as.map V.ref) us):∀(π:yn),(∀i∈π,i<as.length)->Vals (π.map λi=>V.ref (as.getD i 0)) (π.map λi=>us.getD i .none)
 |[],_=>.nil
 |i::π,h=>by
  refine .cons ?_ (Fu r π λj hj=>h j (Qh _ hj));have hi:=h i Qi;have e:(as.map V.ref)[i]?=O (.ref (as.getD i 0)):=by rw[List.getElem?_map,List.getElem?_eq_getElem hi];simp[List.getD,List.getElem?_eq_getElem hi]
  obtain⟨u,e2,ru⟩:=r.get e;simp only[List.getD,e2,J4];exact ru
theorem vx:YZ X (.builtin "sorted") (λxs H Q=>∃l,∃as:yh,∃qs:LP,xs=[.ref l]/\SqL X.K H l (as.map V.ref)/\as.length=qs.length/\(∀(i:Nat) a q,as[i]?=O a->qs[i]?=O q->SqT X.K H a [.int q.1,.int q.2])/\(∀q∈qs,okP q)/\qs.length<64 /\
  ∀π p,Py qs π->H p=w9->Q (.ref p) (upd H p (.lst (π.map λi=>V.ref (as.getD i 0))))):=by
 intro pins s σ H xs us Q I rx h;obtain⟨l,as,qs,rfl,hq,hl,ht,ho,hb,q⟩:=h;obtain⟨u,rfl,ru⟩:=rx.one;cases ru;obtain⟨its,rv,p,hz⟩:=I.list hq;have hn:its.length=qs.length:=by have:=rv.length;rw[Qb]at this;omega
 refine wx (qs:=qs) p.isList (GX I rv hl ht) ho (by omega) λπ hπ=>?_
 obtain⟨e,he⟩:=sortedAll_at s.heap its (List.toArray (π.map λi=>its.getD i .none));have hπl:∀i∈π,i<as.length:=λi hi=>by have:=hπ.1.mem_iff.mp hi;rw[Q3]at this;omega
 refine⟨.ref (s.heap.objs.size+1),_,I.laid (t':=s.toks) (λb o=>sortedAll_old) (JV _) (show ZW X.prog X.w _ _ _ (.lst (π.map λi=>V.ref (as.getD i 0)))from⟨?_,_,e,Fu rv π hπl,he⟩),rfl,q π _ hπ (I.hok.fresh (JV _))⟩;rw[Qb,hπ.1.length_eq,Qp];rw[Qb]at hz;omega
noncomputable def P8:D->Option (Int×Int)
 |.tuple [.int a,.int b]=>O (a,b)
 |_=>w9
noncomputable def Tb:yc->Option LP
 |[]=>O []
 |d::r=>(P8 d).bind λq=>(Tb r).map (q :: ·)
noncomputable def KZ(q:Int×Int):D:=.tuple [.int q.1,.int q.2]
theorem xk{d:D}{q:Int×Int}(h:P8 d=O q):d=KZ q:=by
 unfold P8 at h;split at h
 .cases h;rfl
 .cases h
theorem EL:∀{ds:yc}{qs:LP},Tb ds=O qs->ds=qs.map KZ
 |[],qs,h=>by cases h;rfl
 |d::r,qs,h=>by
  unfold Tb at h;cases z:P8 d with
  |none=>rw[z]at h;cases h
  |some q=>
   rw[z]at h;cases z2:Tb r with
   |none=>rw[z2]at h;cases h
   |some qs'=>rw[z2]at h;cases h;rw[xk z,EL z2];rfl
theorem EI:∀qs:LP,Tb (qs.map KZ)=O qs
 |[]=>rfl
 |q::r=>by rw[Qs,Tb,EI r];rfl
noncomputable def WL(qs:LP):LP:=qs.mergeSort λx y=>decide (KG x<=KG y)
theorem EB(qs:LP):(WL qs).Perm qs:=List.mergeSort_perm ..
theorem Ft(qs:LP):(WL qs).Pairwise λx y=>KG x<=KG y:=by have:=List.pairwise_mergeSort (le:=λx y:Int×Int=>decide (KG x<=KG y)) (by intro a b c;simp;omega) (by intro a b;simp;omega) qs;exact this.imp (by simp)
theorem NX:∀{a b:LP},(∀x∈a,okP x)->a.Perm b->a.Pairwise (λx y=>KG x<=KG y)->b.Pairwise (λx y=>KG x<=KG y)->a=b
 |[],b,_,p,_,_=>by rw[List.nil_perm.1 p]
 |x::a,[],_,p,_,_=>by have:=p.length_eq;simp at this
 |x::a,y::b,ok,p,ha,hb=>by
  have hx:KG y<=KG x:=by
   rcases Qw.1 (p.mem_iff.1 (Qi ..))with e|e
   .rw[e];exact Q6 _
   .exact(Jz.1 hb).1 x e
  have hy:KG x<=KG y:=by
   rcases Qw.1 (p.mem_iff.2 (Qi ..))with e|e
   .rw[e];exact Q6 _
   .exact(Jz.1 ha).1 y e
  have oky:okP y:=ok y (p.mem_iff.2 (Qi ..));have e:=qy (ok x (Qi ..)) oky (JT hy hx);subst e;rw[NX (λz hz=>ok z (Qh _ hz)) (List.Perm.cons_inv p) (Jz.1 ha).2 (Jz.1 hb).2]
theorem qx{qs:LP}{π:yn}(ok:∀q∈qs,okP q)(h:Py qs π):(π.map λi=>qs.getD i (0,0))=WL qs:=by
 have hp:(π.map λi=>qs.getD i (0,0)).Perm qs:=by
  have h1:=h.1.map λi=>qs.getD i (0,0)
  have e:(UE qs.length).map (λi=>qs.getD i (0,0))=qs:=by
   apply Ug;intro i;rw[Qd];by_cases hi:i<qs.length
   .rw[List.getElem?_range hi,List.getElem?_eq_getElem hi];simp[List.getD,List.getElem?_eq_getElem hi]
   .rw[Q9 (by rw[Qp];omega),Q9 (by omega)];rfl
  rw[e]at h1;exact h1
 exact NX (λx hx=>ok x (hp.mem_iff.mp hx)) (hp.trans (EB qs).symm) h.2 (Ft qs)
noncomputable def okPB(q:Int×Int):Bool:=decide (-1000000<=q.2/\q.2<=1000000)
noncomputable def RX:yc->ye
 |[.list ds]=>(match Tb ds with
  |some qs=>if qs.length<64/\qs.all okPB=ya then O (.list ((WL qs).map KZ))else w9
  |none=>w9)
 |_=>w9
theorem vw{xs:yc}{d:D}(h:RX xs=O d):∃qs:LP,xs=[.list (qs.map KZ)]/\qs.length<64/\(∀q∈qs,okP q)/\d=.list ((WL qs).map KZ):=by
 unfold RX at h;split at h
 .rename_i ds
  cases z:Tb ds with
  |none=>rw[z]at h;cases h
  |some qs=>
   rw[z]at h;dsimp only at h;split at h
   .rename_i c
    cases h;exact⟨qs,by rw[EL z],c.1,λq hq=>(show -1000000<=q.2/\q.2<=1000000 from Qa (Je.mp c.2 q hq)),rfl⟩
   .cases h
 .cases h
theorem Fs{K:Frag}{G:Hp}:∀{vs:List V}{qs:LP},Reps K G vs (qs.map KZ)->∃as:yh,vs=as.map V.ref/\as.length=qs.length/\∀(i:Nat) a q,as[i]?=O a->qs[i]?=O q->SqT K G a [.int q.1,.int q.2]
 |_,[],.nil=>⟨[],rfl,rfl,λi a q h=>by simp at h⟩
 |_,q::qs,.cons r t=>by
  obtain⟨as,rfl,hl,h⟩:=Fs t;obtain⟨a,ws,rfl,h1,r1⟩:=r.tup_inv;cases r1 with
  |cons ra rb=>
   obtain⟨v,rfl,rb'⟩:=rb.one_inv;refine⟨a::as,rfl,by simp[hl],λi a' q' e1 e2=>?_⟩;cases i with
   |zero=>cases e1;cases e2;rw[ra.int_inv,rb'.int_inv]at h1;exact h1
   |succ i=>exact h i a' q' (by simpa using e1) (by simpa using e2)
theorem qw{K:Frag}{G:Hp}{a:Ux}{q:Int×Int}(h:SqT K G a [.int q.1,.int q.2]):Rep K G (.ref a) (KZ q):=.tup h (.cons (.int _) (.cons (.int _) .nil))
theorem Fq{K:Frag}{G:Hp}{as:yh}{qs:LP}(hl:as.length=qs.length)(h:∀(i:Nat) a q,as[i]?=O a->qs[i]?=O q->SqT K G a [.int q.1,.int q.2]):∀π:yn,(∀i∈π,i<qs.length)->Reps K G (π.map λi=>V.ref (as.getD i 0)) ((π.map λi=>qs.getD i (0,0)).map KZ)
 |[],_=>.nil
 |i::π,hb=>by
  refine .cons ?_ (Fq hl h π λj hj=>hb j (Qh _ hj));have hi:=hb i Qi;refine qw (h i _ _ ?_ ?_)
  .rw[List.getElem?_eq_getElem (by omega)];simp[List.getD,List.getElem?_eq_getElem (show i<as.length by omega)]
  .rw[List.getElem?_eq_getElem hi];simp[List.getD,List.getElem?_eq_getElem hi]
theorem BJ:Xa X (.builtin "sorted") RX:=by refine⟨_,vx,λvs G H ds d Q s r e k=>?_⟩;obtain⟨qs,rfl,h64,ok,rfl⟩:=vw e;obtain⟨v,rfl,q1⟩:=r.one_inv;obtain⟨l,ws,rfl,h1,r1⟩:=q1.lst_inv;obtain⟨as,rfl,hl,ht⟩:=Fs r1;refine⟨l,as,qs,rfl,s.seq h1,hl,λi a q e1 e2=>Xf s (ht i a q e1 e2),ok,h64,λπ p hπ hp=>?_⟩;have hb:∀i∈π,i<qs.length:=λi hi=>Q3.mp (hπ.1.mem_iff.mp hi);have rr:=(Fq hl ht π hb).mono (ZJ (s.free hp):Same G (upd G p (.lst (π.map λi=>V.ref (as.getD i 0)))));rw[qx ok hπ]at rr;exact k _ _ _ (Ext.new s hp) (.lst (SqL.of Zd) rr)
theorem Xa.or{f:Uu}{p q:yc->ye}(h1:Xa X f p)(h2:Xa X f q):Xa X f (λxs=>(p xs).orElse λ_=>q xs):=by
 obtain⟨r1,c1,k1⟩:=h1;obtain⟨r2,c2,k2⟩:=h2;refine⟨λxs H Q=>r1 xs H Q∨r2 xs H Q,λpins s σ H xs us Q I rx h=>?_,λvs G H ds d Q s r e k=>?_⟩
 .rcases h with h|h
  .exact c1 pins s σ H xs us Q I rx h
  .exact c2 pins s σ H xs us Q I rx h
 .dsimp only at e
  cases z:p ds with
  |some d'=>rw[z]at e;cases e;exact .inl (k1 vs G H ds _ Q s r z k)
  |none=>rw[z]at e;exact .inr (k2 vs G H ds _ Q s r e k)
noncomputable def Tp(xs:yc):ye:=(Ts xs).orElse λ_=>RX xs
theorem D2:Xa X (.builtin "sorted") Tp:=BS.or BJ
theorem EA{ns:yd}(h:ns.length<64):Tp [.list (ns.map .int)]=O (.list ((YW ns).map .int)):=by unfold Tp;rw[kI h];rfl
theorem xj{qs:LP}(h:qs.length<64)(ok:∀q∈qs,okP q):Tp [.list (qs.map KZ)]=O (.list ((WL qs).map KZ)):=by
 cases qs with
 |nil=>
  have e1:WL []=[]:=by unfold WL;simp
  have e2:YW []=[]:=by unfold YW;simp
  have:=EA (ns:=[]) (by decide);rw[e2]at this;rw[e1];exact this
 |cons q r=>have e1:Ts [.list ((q::r).map KZ)]=w9:=rfl;unfold Tp;rw[e1,Option.orElse];unfold RX;dsimp only;rw[EI];exact Qo ⟨h,Je.mpr λq hq=>Q8 (show -1000000<=q.2/\q.2<=1000000 from ok q hq)⟩
end
section
variable{X:Cx}
theorem MG:bootBuiltins "repr" = O (.builtin "repr"):=by decide +kernel
end
section
variable{X:Cx}{B G0:Hp}{e o a b c tg:Uz}{pos p2:Pos}{es rest:yg}{te to ti:TE}
noncomputable def To{β:Type}(p:D->D->Option β)(f:M D)(j:Nat):M β:=Ki f λx=>λZ=>match Z[j]? with
 |some (O (.pub d))=>Kk (p x d) Z
 |some (O (.own ds))=>Kk (p x (.list ds)) Z
 |_=>.bad
theorem DJ{K:Frag}{σ:St}{H:Hp}{p:D->D->ym}{r:R2}{j:Nat}{f:M D}{Q:Bool->Hp->Prop}{QV:VK}(hq:∀t H3,Q t H3->QV (.bl t) H3)
  (hr:∀v u G H x y d Q,Same G H->Rep K G v x->Rep K G u y->p x y=O d->Q (.bl d) H->r v u H Q)
  (q:tBo K B G0 (To p f j) σ H Q):tD K B G0 f σ H λx H1=>Za j σ H1 λy H2=>r x y H2 QV:=by
 refine tM.one (R:=Rep K) q λv H2 G Z x k rx a=>?_
 cases z:Z[j]? with
 |none=>rw[z]at a;exact a.elim
 |some o=>
  cases o with
  |none=>rw[z]at a;exact a.elim
  |some sl=>
   cases sl with
   |deep _ _=>rw[z]at a;exact a.elim
   |pub d=>rw[z]at a;dsimp only at a;obtain⟨d',e',a'⟩:=aft.opt a;obtain⟨u,h1,h2⟩:=k.pub j d z;exact⟨u,h1,hr v u G H2 x d d' _ k.gh rx h2 e' (hq _ _ (a' d' G H2 k (.refl _) w8))⟩
   |own ds=>rw[z]at a;dsimp only at a;obtain⟨d',e',a'⟩:=aft.opt a;obtain⟨ad,vs,h1,h2,h3,h4,h5⟩:=k.own j ds z;exact⟨.ref ad,h1,hr v (.ref ad) H2 H2 x (.list ds) d' _ (.refl _) (rx.mono k.gh) (.lst (SqL.of h4) (h5.mono k.gh)) e' (hq _ _ (a' d' G H2 k (.refl _) w8))⟩
theorem BI{op:CmpOp}{p:D->D->ym}{j:Nat}{f:M D}(o:OpB X (UD op) p)(ha:PE X a (tD X.K B G0 f))(hb:PE X b (Za j))(hm:behindInMarks op b=yb) :
  PT X (.Compare a [op] [b] pos) (tBo X.K B G0 (To p f j)):=by
 obtain⟨r,h,i⟩:=o;exact Yh (NE h ha hb hm) λσ H Q q=>DJ (λt H3 z=>⟨t,rfl,z⟩) i q
theorem NW{β:Type}{p:D->D->Option β}{f:M D}{j:Nat}{Z Z1:UU}{x:D}{ds:yc}{r:β}(h1:f Z=.ok x Z1)(h2:Z1[j]?=O (O (.own ds)))(h3:p x (.list ds)=O r):To p f j Z=.ok r Z1:=by unfold To;exact K3 h1 (by rw[h2];exact Yw h3)
end
noncomputable def R8(Z:UU)(j:Nat):ye:=match Z[j]? with
 |some (O (.pub d))=>O d
 |some (O (.own ds))=>O (.list ds)
 |some (O (.deep _ d))=>O d
 |_=>w9
theorem EOk.tree{K:Frag}{B G0 G H:Hp}{σ:St}{Z:UU}{j:Nat}{d:D}(k:EOk K B G0 G H σ Z)(h:R8 Z j=O d):∃v,σ[j]?=O (O v)/\Rep K H v d:=by
 unfold R8 at h;split at h
 .rename_i d' e
  cases h;obtain⟨v,h1,h2⟩:=k.pub j _ e;exact⟨v,h1,h2.mono k.gh⟩
 .rename_i ds e
  cases h;obtain⟨a,vs,h1,h2,h3,h4,h5⟩:=k.own j ds e;exact⟨.ref a,h1,.lst (SqL.of h4) (h5.mono k.gh)⟩
 .rename_i p d' e
  cases h;obtain⟨ω,k1,k2⟩:=k.dp;obtain⟨v,fp,s,r,_⟩:=k1 j p _ e;exact⟨v,s,r.rep k.gh⟩
 .cases h
end DL
namespace HT
open PySem PyProof.Rows
end HT
namespace DL
open PySem PySem.Spec L2
open PyProof.Rows hiding St
section
variable{X:Cx}
noncomputable def Rh(x y:D):Option yc:=match x,y with
 |.list xs,.int k=>if -1000000<=k/\k<=1000000/\xs.length*k.toNat<=1000000 then O (UF k.toNat xs).flatten else w9
 |_,_=>w9
theorem xi{x y:D}{ds:yc}(h:Rh x y=O ds):∃xs k,x=.list xs/\y=.int k/\(-1000000<=k/\k<=1000000/\xs.length*k.toNat<=1000000)/\ds=(UF k.toNat xs).flatten:=by
 unfold Rh at h;split at h
 .split at h
  .rename_i xs k c
   cases h;exact⟨xs,k,rfl,rfl,c,rfl⟩
  .cases h
 .cases h
noncomputable def Rg(f g:M D):M yc:=Ki f λx=>Ki g λy=>Kk (Rh x y)
theorem HI{f g:M D}(ha:PE X a (tD X.K B G0 f))(hb:PE X b (tD X.K B G0 g)):PE X (.BinOp a .Mult b pos) (tL X.K B G0 (Rg f g)):=
 Kt (M0 Ge ha hb) λσ H Q ⟨G,Z,k,q⟩=>by
  refine⟨G,Z,k,?_⟩;unfold Rg Ki at q;cases z:f Z with
  |bad=>rw[z]at q;exact q.elim
  |ok x Z1=>
   rw[z]at q;dsimp only at q;intro v G1 H1 k1 s1 r1;refine⟨G1,Z1,k1,?_⟩;cases z2:g Z1 with
   |bad=>rw[z2]at q;exact q.elim
   |ok y Z2=>
    rw[z2]at q;dsimp only[Kk]at q;intro u G2 H2 k2 s2 r2;cases z3:Rh x y with
    |none=>rw[z3]at q;exact q.elim
    |some ds=>rw[z3]at q;obtain⟨xs,i,rfl,rfl,c,rfl⟩:=xi z3;obtain⟨l,vs,rfl,h1,w⟩:=r1.lst_inv;exact⟨l,i,vs,rfl,r2.int_inv,k2.gh.seq (s2.seq h1),by omega,by omega,by rw[w.length];exact QJ c.2.2 lim,λp hp=>q p _ G2 _ (k2.ext (Ext.hid k2.gh hp)) (s1.trans s2) (NewL.of k2 hp ((w.mono s2).rep _))⟩
theorem HH{f g:M D}{Z Z1 Z2:UU}{x:D}{n:Nat}(h1:f Z=.ok (.list [x]) Z1)(h2:g Z1=.ok (.int n) Z2)(h:n<=1000):Rg f g Z=.ok (UF n x) Z2:=by
 unfold Rg Ki;rw[h1];dsimp only;rw[h2];dsimp only[Kk]
 have e:Rh (.list [x]) (.int n)=O (UF n x):=by
  unfold Rh;dsimp only;rw[Qo ⟨by omega,by omega,by show 1*_<=_;omega⟩]
  congr 1
  rw[QM];clear h2 h;induction n with
  |zero=>rfl
  |succ n ih=>rw[Jb,QS,ih,Jb];rfl
 rw[e]
end
end DL
namespace DL
open PySem
theorem lz0{P:yf->Prop}{us:yf}(hl:us.length=0)(h:P []):P us:=by
 cases us with
 |nil=>exact h
 |cons a r=>cases hl
theorem lzS{P:yf->Prop}{us:yf}{n:Nat}(hl:us.length=n+1)(h:∀a r,r.length=n->P (a::r)):P us:=by
 cases us with
 |nil=>cases hl
 |cons a r=>exact h a r (Nat.succ.inj hl)
theorem lz1{P:yf->Prop}{us:yf}(hl:us.length=1)(h:∀a,P [a]):P us:=lzS hl λa r e=>lz0 (P:=λr=>P (a::r)) e (h a)
theorem lz2{P:yf->Prop}{us:yf}(hl:us.length=2)(h:∀a b,P [a,b]):P us:=lzS hl λa r e=>lz1 (P:=λr=>P (a::r)) e (h a)
theorem lz3{P:yf->Prop}{us:yf}(hl:us.length=3)(h:∀a b c,P [a,b,c]):P us:=lzS hl λa r e=>lz2 (P:=λr=>P (a::r)) e (h a)
theorem lz4{P:yf->Prop}{us:yf}(hl:us.length=4)(h:∀a b c d,P [a,b,c,d]):P us:=lzS hl λa r e=>lz3 (P:=λr=>P (a::r)) e (h a)
theorem lz5{P:yf->Prop}{us:yf}(hl:us.length=5)(h:∀a b c d e,P [a,b,c,d,e]):P us:=lzS hl λa r e=>lz4 (P:=λr=>P (a::r)) e (h a)
theorem bz1{fd:Uy}{ps:List Str}{us:yf}(hl:us.length=1)(h:∀a,bindArgs fd {pos:=[a]}=pure (ps.zip [a])):bindArgs fd {pos:=us}=pure (ps.zip us):=lz1 (P:=λus=>bindArgs fd {pos:=us}=pure (ps.zip us)) hl h
theorem bz2{fd:Uy}{ps:List Str}{us:yf}(hl:us.length=2)(h:∀a b,bindArgs fd {pos:=[a,b]}=pure (ps.zip [a,b])):bindArgs fd {pos:=us}=pure (ps.zip us):=lz2 (P:=λus=>bindArgs fd {pos:=us}=pure (ps.zip us)) hl h
theorem bz3{fd:Uy}{ps:List Str}{us:yf}(hl:us.length=3)(h:∀a b c,bindArgs fd {pos:=[a,b,c]}=pure (ps.zip [a,b,c])):bindArgs fd {pos:=us}=pure (ps.zip us):=lz3 (P:=λus=>bindArgs fd {pos:=us}=pure (ps.zip us)) hl h
theorem bz4{fd:Uy}{ps:List Str}{us:yf}(hl:us.length=4)(h:∀a b c d,bindArgs fd {pos:=[a,b,c,d]}=pure (ps.zip [a,b,c,d])):bindArgs fd {pos:=us}=pure (ps.zip us):=lz4 (P:=λus=>bindArgs fd {pos:=us}=pure (ps.zip us)) hl h
theorem bz5{fd:Uy}{ps:List Str}{us:yf}(hl:us.length=5)(h:∀a b c d e,bindArgs fd {pos:=[a,b,c,d,e]}=pure (ps.zip [a,b,c,d,e])):bindArgs fd {pos:=us}=pure (ps.zip us):=lz5 (P:=λus=>bindArgs fd {pos:=us}=pure (ps.zip us)) hl h
end DL
namespace DL
open PySem PySem.Spec L2
open PyProof.Rows hiding St
noncomputable def whole(h:Heap):Frag:=(UE h.objs.size).filterMap λa=>(h.get? a).map λo=>(a,o)
theorem FW{g:Ux->Option Obj}{x:Ux}:∀l:yh,(l.filterMap λa=>(g a).map λo=>(a,o)).lookup x=if x∈l then g x else w9
 |[]=>rfl
 |y::l=>by
  have ih:=FW (g:=g) (x:=x) l;by_cases e:x=y
  .subst e
   rw[Qo Qi];cases z:g x with
   |none=>rw[List.filterMap_cons_none (by rw[z];rfl),ih,z];split<;>rfl
   |some o=>rw[List.filterMap_cons_some (by rw[z];rfl),Q4,beq_self_eq_true]
  .have m:(x∈y::l)=(x∈l):=by simp[List.mem_cons,e]
   have b:(x==y)=yb:=by simpa using e
   have ih':(if x∈y::l then g x else w9)=_:=(by simp only[m];exact ih.symm)
   rw[ih'];cases z:g y with
   |none=>rw[List.filterMap_cons_none (by rw[z];rfl)]
   |some o=>rw[List.filterMap_cons_some (by rw[z];rfl),Q4,b]
theorem RE{h:Heap}{a:Ux}:(whole h).lookup a=h.get? a:=by
 unfold whole;rw[FW];split
 .rfl
 .rename_i n
  cases z:h.get? a with
  |none=>rfl
  |some o=>exact absurd (Q3.mpr (Qj z)) n
theorem qv(h:Heap):(whole h).In h:=λa o e=>by rw[RE]at e;exact e
noncomputable def DI(st:Stmt):Option DefRec:=match st with
 |.FunctionDef name a b _ _ _ sc _ _ pos=>O ⟨name,a,b,sc,pos⟩
 |_=>w9
noncomputable def P7(st:Stmt):Option Str:=match st with
 |.FunctionDef name _ _ _ _ _ _ _ _ _=>O name
 |_=>w9
noncomputable def DH(st:Stmt):Pos:=match st with
 |.FunctionDef _ _ _ _ _ _ _ _ _ pos=>pos
 |_=>⟨0,0,0,0⟩
noncomputable abbrev Zm(p:Uw)(i:Nat):Stmt:=p.main.body.getD i (.Pass ⟨0,0,0,0⟩)
noncomputable def Rq(p:Uw)(ix:yn):List DefRec:=ix.filterMap λi=>DI (Zm p i)
section
variable{p q:Uw}{loose:List Str}{mean:ExcName->yj}{mg mb:Str->yj}{h:Heap}{w:World}
theorem Nk{ix:yn}(T:Top q loose mean mg mb h)(e:recsOf q=Rq p ix)(i:Nat)(x:Str)(hi:ix.contains i=ya)(hn:P7 (Zm p i)=O x):∃f fd,mg x=O (.ref f)/\Fun (whole h) x x (Zm p i) f fd:=by
 cases hs:Zm p i with
 |FunctionDef name a b _ _ _ sc _ _ pos=>
  rw[hs]at hn;cases hn;have hd:(⟨x,a,b,sc,pos⟩:DefRec)∈recsOf q:=by rw[e];exact List.mem_filterMap.mpr ⟨i,by simpa using hi,by rw[hs];rfl⟩
  obtain⟨f,⟨oc,od,dt,osl⟩,pm,cd,doc,h1,h2,h3,h4⟩:=T.fn _ hd;have h3:dt=_:=h3;subst h3;refine⟨f,_,h1,⟨⟨oc,od,.none,doc,pm,_,cd,_,osl,rfl,by rw[RE];exact h2,?_⟩,?_⟩⟩
  .obtain⟨c,⟨_,_,dc,_⟩,vs,t,rfl,g1,g2,g3⟩:=h4
   have g2:dc=_:=g2;subst g2;unfold PySem.W.codeIn;dsimp only;rw[RE,g1];dsimp only;have g4:vs.toList[1]?=O (.str x t):=by rw[Array.getElem?_toList];exact g3
   cases hv:vs.toList with
   |nil=>rw[hv]at g4;cases g4
   |cons v0 r=>
    rw[hv]at g4;cases r with
    |nil=>cases g4
    |cons v1 r=>cases g4;exact beq_self_eq_true _
  .unfold PySem.W.keepIn
   dsimp only;rw[RE,h2]
 |_=>rw[hs]at hn;cases hn
theorem xg{K:Frag}{x qual y:Str}{st:Stmt}{f:Ux}{fd:Uy}(F:Fun K x qual st f fd)
  (hb:∀(kV doc pm:Uu)(an:yo)(cdv ct v:Uu),bindArgs (PySem.W.fnOf x qual (Tz st) (Wm st) (ZM st) .none kV doc pm an cdv ct) ⟨[v],[]⟩=pure [(y,v)]) (s:Uv) (v:Uu):BindsTo s fd ⟨[v],[]⟩ [(y,v)]:=by
 obtain⟨oc,od,kV,doc,pm,an,cdv,ct,osl,rfl,lk,hcd⟩:=F.ex;exact .of_eq (hb kV doc pm an cdv ct v)
noncomputable def Px(q:Uw)(loose:List Str)(x:Str):Bool:=
 !startupNames.contains x && !loose.contains x && !((recsOf q).map (·.name)).contains x && !((litsOf q).map (·.1)).contains x && !((clssOf q loose).map (·.name)).contains x
theorem Xd(T:Top q loose mean mg mb h){xs:List Str}(e:xs.all (Px q loose)=ya){x:Str}(hx:x∈xs):mg x=w9:=by have:=Je.mp e x hx;unfold Px at this;simp only[QR,Bool.not_eq_true',List.contains_eq_mem,decide_eq_false_iff_not]at this;exact T.free x this.1.1.1.1 this.1.1.1.2 this.1.1.2 this.1.2 this.2
theorem OU(T:Top q loose mean mg mb h){x:Str}{i:Int}(e:valOf q x=O (.int i)):∃t,mg x=O (.int i t):=by obtain⟨v,h1,h2⟩:=T.const x _ e;have:=h2 h;cases this;exact⟨_,h1⟩
theorem MT:∀{vs:yf}{ss:List Str},StrsAre vs ss->Vals (ss.map V.str) vs
 |_,_,.nil=>.nil
 |_,_,.cons y t r=>.cons ⟨t,rfl⟩ (MT r)
theorem xf(B:Tables q w mg h){x:Str}{ss:List Str}(e:tupStrsOf q x=O ss)(hl:ss.length<=1000) :
  ∃ad o its n,mg x=O (.ref ad)/\(whole h).lookup ad=O o/\o.cls=.type "tuple" /\ o.data=.seq its n/\its.size<=UA/\Vals (ss.map V.str) its.toList:=by
 obtain⟨a,vs,h1,⟨o,h2,h3,n,h4⟩,h5⟩:=B.tupS x ss e;have r:=MT h5;refine⟨a,o,_,n,h1,by rw[RE];exact h2,h3,h4,?_,r⟩;have:=r.length;rw[Qb]at this;have l:(1000:Nat)<=UA:=by decide
 rw[QX];omega
end
noncomputable def scOk(sc:Scope)(N gl:List Str):Bool:=(N.all λx=>match sc.names.lookup x with|some .local=>ya|some .cell=>ya|_=>yb)&&gl.all λx=>match sc.names.lookup x with|some .globalImplicit=>ya|_=>yb
noncomputable def fnB(sc:Scope)(N gl:List Str):Bool:=decide (sc.kind=.function) && !sc.isCoroutine && !sc.isGenerator&&decide N.Nodup&&(sc.names.all λy=>match y.2 with | .free=>yb|_=>ya)&&scOk sc N gl
structure FnNm(sc:Scope)(N gl:List Str):Prop where
 kind:sc.kind=.function
 co:sc.isCoroutine=yb
 gen:sc.isGenerator=yb
 nd:N.Nodup
 nofree:∀y∈sc.names,y.2≠.free
 nm:∀x∈N,sc.names.lookup x=O .local∨sc.names.lookup x=O .cell
 gl:∀x∈gl,sc.names.lookup x=O .globalImplicit
theorem KN{sc:Scope}{N gl:List Str}(H:fnB sc N gl=ya):FnNm sc N gl:=by
 unfold fnB scOk at H;simp only[QR,Jn,Bool.not_eq_true',Je]at H;obtain⟨⟨⟨⟨⟨h1,h2⟩,h3⟩,h4⟩,h5⟩,h6,h7⟩:=H;refine⟨h1,h2,h3,h4,λy hy e=>?_,λx hx=>?_,λx hx=>?_⟩
 .have:=h5 y hy;rw[e]at this;cases this
 .have:=h6 x hx
  split at this
  .rename_i e;exact .inl e
  .rename_i e;exact .inr e
  .cases this
 .have:=h7 x hx
  split at this
  .rename_i e;exact e
  .cases this
section
variable{sc:Scope}{N gl:List Str}{x:Str}
theorem nq(H:FnNm sc N gl):N.Nodup:=H.nd
theorem fq(H:FnNm sc N gl)(n:Nat):RC N (N.take n) sc:=⟨H.kind,H.co,H.gen,H.nd,by rw[QZ,List.take_eq_take_iff];omega,λx hx=>H.nm x (Ui hx),H.nofree⟩
theorem lq(H:FnNm sc N gl)(i:Nat)(h:N[i]?=O x:=by rfl):L2.Loc sc x:=H.nm x (Qv h)
theorem gq(H:FnNm sc N gl)(i:Nat)(h:gl[i]?=O x:=by rfl):sc.names.lookup x=O .globalImplicit:=H.gl x (Qv h)
theorem pq{X:Cx}{pos:Pos}(H:FnNm X.env.scope X.N gl)(i:Nat)(h:X.N[i]?=O x:=by rfl)(hd:(x==("__debug__" : Str))=yb:=by decide)(hc:(x==("__classdict__" : Str))=yb:=by decide):PE X (.Name x pos) (Za i):=
 LF h ((H.nm x (Qv h)).elim .inl λz=>.inr (.inl z)) hd hc
end
theorem KS{q p:Uw}{loose:List Str}{mean:ExcName->yj}{mg mb:Str->yj}{h:Heap}{ix:yn}(P:Uw)(w:World)(base:Heap){ps:List Str}{k n:Nat}{F:yc->ye}(T:Top q loose mean mg mb h)(e:recsOf q=Rq p ix)(i:Nat)(x:Str)(hi:ix.contains i=ya)(hn:P7 (Zm p i)=O x)
  (ok:∀{f:Ux}{fd:Uy},Fun (whole h) x x (Zm p i) f fd->FnOk P w (whole h) mg base CX0 k f fd ps (spD (whole h) n F))
  (hb:∀(kV doc pm:Uu)(an:yo)(cdv ct:Uu)(us:yf),us.length=ps.length->bindArgs (PySem.W.fnOf x x (Tz (Zm p i)) (Wm (Zm p i)) (ZM (Zm p i)) .none kV doc pm an cdv ct) ⟨us,[]⟩=pure (ps.zip us)):Def P w (whole h) mg base x k n F:=by
 obtain⟨f,fd,m,FU⟩:=Nk T e i x hi hn;exact Def.mk m FU (FU.binds hb) (ok FU)
section
variable{X:Cx}{B G0:Hp}{e:Uz}{pos:Pos}{es:yg}
theorem pdf{k kk n:Nat}{F:yc->ye}{g:M yc}{x:Str}{p2:Pos}(d:Def X.prog X.w X.K X.mg X.base x k n F)(hr:Room kk X.A)(hg:Gl X x)(ha:PA X (e::es) (tDs X.K B G0 g))(hk:k<=kk:=by decide)(hn:(e::es).length=n:=by rfl)
  (hdb:(x==("__debug__" : Str))=yb:=by decide) (he:UC (e::es) X.env=(yb,eval e X.env)::UC es X.env:=by rfl) (hpl:(backTo pos (UC es X.env)).any (·.1)=yb:=by rfl) :
  PE X (.Call (.Name x p2) (e::es) [] pos) (tD X.K B G0 (Ka n F g)):=B0 d (hr.mono hk) hg ha hn hdb he hpl
end
theorem DG{q p:Uw}{loose:List Str}{mean:ExcName->yj}{mg mb:Str->yj}{h:Heap}{ix:yn}{P:Uw}{w:World}{k:Nat}{F:yc->ye}{y:Str}{fa:Ux}(T:Top q loose mean mg mb h)(e:recsOf q=Rq p ix)(i:Nat)(x:Str)(hi:ix.contains i=ya)(hn:P7 (Zm p i)=O x)(hfa:mg x=O (.ref fa))
  (hb:∀(kV doc pm:Uu)(an:yo)(cdv ct v:Uu),bindArgs (PySem.W.fnOf x x (Tz (Zm p i)) (Wm (Zm p i)) (ZM (Zm p i)) .none kV doc pm an cdv ct) ⟨[v],[]⟩=pure [(y,v)])
  (ok:∀(base:Heap){f:Ux}{fd:Uy},Fun (whole h) x x (Zm p i) f fd->FnOk P w (whole h) mg base CX0 k f fd [y] (spD (whole h) 1 F)) :
  ∃fd:Uy,(∀(s:Uv)(v:Uu),BindsTo s fd ⟨[v],[]⟩ [(y,v)])/\∀base:Heap,FnOk P w (whole h) mg base CX0 k fa fd [y] (spD (whole h) 1 F):=by
 obtain⟨f,fd,m,FU⟩:=Nk T e i x hi hn;cases hfa.symm.trans m;exact⟨fd,xg FU hb,λbase=>ok base FU⟩
theorem qu{l:PySem.W.OpenLaw}{n k:Nat}{q:Uw}{loose:List Str}{XP:(Str->yj)->Heap->Prop}{YP:World->Heap->Prop}{d:DefRec}{F:yc->ye}{x:Str}
  (hn:l.most=O n) (hn2:n<=UA) (hdf:d.params.defaults=[]) (hr:Room k callerA)
  (hF:∀(w:World)(s₀:Uv)(mg mb:Str->yj)(fa:Ux)(h:Heap),PySem.W.Ground q loose [] XP w s₀ mg mb h->mg d.name=O (.ref fa) ->
   ∃fd:Uy,(∀(s:Uv)(u:Uu),BindsTo s fd ⟨[u],[]⟩ [(x,u)])/\∀base:Heap,FnOk l.prog w (whole h) mg base CX0 k fa fd [x] (spD (whole h) 1 F))
  (hl:∀ns:yd,ns.length<=n->F [.list (ns.map int)]=O (.bool ya)) :
  PySem.W.WalkO q loose XP YP l.row.toRowW d [] (λf vs=>PySem.call f vs):=by
 refine Att.attach_call hn hdf λw s₀ s₁ mg mb fa o pm cd doc a vs ns G Y ho hd hcd hmg hobj hints hlen hg=>?_
 obtain⟨fd,hb,hF⟩:=hF w s₀ mg mb fa _ G hmg;exact jH (qv _) G.T.g G.T.b G.T.builtins G.T.nolimit hg hobj hints (QJ hlen hn2) hr (λbase _ _=>hF base) hb (λH hO hS=>BE hS (hl ns hlen)) λH e s' z=>z
end DL
namespace L2
open PySem PySem.Spec PyProof.Rows
noncomputable def D1(trs:Ux->List (TE×TE)):TE:=λσ H Q=>∀p,H p=w9->P2 (trs p) σ (upd H p (.dK [])) λps H2=>H2 p=O (.dK [])/\∃kvs:List (Key×V),ps=kvs.map (λkv=>(kV kv.1,kv.2))/\kvs.length<=15/\Q (.ref p) (upd H2 p (.dK (V6 [] kvs)))
theorem qt{X:Cx}{pos:Pos}{keys:List (Option Uz)}{values:yg}{trs:Ux->List (TE×TE)}(h:∀p,PPs X pos keys values (trs p))(hall:keys.all (·.isSome)=ya)(hl:keys.length=values.length)(h0:keys≠[])
  (h15:keys.length<=15):PE X (.Dict keys values pos) (D1 trs):=by
 intro pins s σ H Q I q;have hn:=I.hok.fresh (Qu s.heap.objs.size);have I1:=I.laid (a:=s.heap.objs.size) (o:=.dK []) (h':=s.heap.push {cls:=.type "dict", data:=.dict #[]}) (t':=s.toks) (λ_ _ q=>Qm _ q) (Qu _) (jG s.heap I.big);refine wpAny_Dict_walk (knd:=YE X.prog X.w) hall hl h0 h15 (thn (h _ pins _ σ _ _ I1 (q _ hn)) λws s2 ⟨ps,H2,I2,rel,e,kvs,ep,lk,q2⟩=>?_);subst ep;obtain⟨rs,c,rk⟩:=Ee (P:=X.prog) (w:=X.w) rel;obtain⟨z,hd,vs0,r0,dd⟩:=M9 I2.hok e;cases r0;refine⟨rs,c,dd,λh' yZ hs=>⟨.ref s.heap.objs.size,_,?_,rfl,q2⟩⟩;have hz:(V6 [] kvs).length<=UA:=by have h1:=ES kvs [];rw[QF]at h1;rw[sizeLine_eq];omega
 have he:∃q,h'.get? s.heap.objs.size=O q:=let ⟨q,_,_,hq,_⟩:=yZ;⟨q,hq⟩
 exact NB I2 (by rw[e];exact True.intro) hs he (Lz hz hd (rk.merge .nil) yZ)
theorem qp{kvs:List (Key×V)}{k:Key}{v:V}(h:k∉kvs.map (·.1)):Zg kvs k v=kvs++[(k,v)]:=by unfold Zg;rw[QB];intro z;rw[List.any_eq_true]at z;obtain⟨p,hp,e⟩:=z;exact h (by rw[←Qa e];exact Qt.mpr ⟨p,hp,rfl⟩)
theorem Ez:∀(more kvs:List (Key×V)),((kvs++more).map (·.1)).Nodup->V6 kvs more=kvs++more
 |[],kvs,_=>by rw[Q2];rfl
 |p::r,kvs,h=>by
  have hn:p.1∉kvs.map (·.1):=by rw[QA,Jh]at h;exact λz=>h.2.2 _ z p.1 (Qt.mpr ⟨p,Qi,rfl⟩) w8
  show V6 (Zg kvs p.1 p.2) r=_;rw[qp hn,Ez r (kvs++[(p.1,p.2)]) (by rw[Ja];exact h),Ja];rfl
end L2
namespace DL
open PySem PySem.Spec L2
open PyProof.Rows hiding St
theorem HG{α β γ:Type}(f:α->γ):∀(ks:List α)(vs:List (γ×β)),vs.map (·.1)=ks.map f->vs=(ks.zip (vs.map (·.2))).map (λkv=>(f kv.1,kv.2))
 |[],[],_=>rfl
 |k::ks,(a,b)::vs,h=>by rw[Qs,Qs]at h;injection h with h1 h2;have h1:a=f k:=h1;rw[Qs,QW,Qs,←HG f ks vs h2,h1]
theorem GW{α β:Type}:∀(ps:List (α×β)),(ps.map (·.1)).zip (ps.map (·.2))=ps
 |[]=>rfl
 |p::r=>by rw[Qs,Qs,QW,GW r]
noncomputable def Rp:List (M D×M D)->M (List (D×D))
 |[]=>U1 []
 |(f,g)::r=>Ki f λx=>Ki g λy=>Ki (Rp r) λps=>U1 ((x,y)::ps)
noncomputable def Yn:D->Option Key
 |.int i=>O (.inl i)
 |.str x=>O (.inr x)
 |_=>w9
noncomputable def P6:yc->Option yl
 |[]=>O []
 |d::r=>match Yn d,P6 r with
  |some k,O ks=>O (k::ks)
  |_,_=>w9
noncomputable def O0(ps:List (D×D)):ye:=match P6 (ps.map (·.1))with
 |some ks=>if ks.Nodup/\ks.length<=15/\ks≠[]then O (.dict ps)else w9
 |none=>w9
noncomputable def OZ(prs:List (M D×M D)):M D:=Ki (Rp prs) λps=>Kk (O0 ps)
def DF(K:Frag)(G:Hp)(vs:List (V×V))(ps:List (D×D)):Prop:=Reps K G (vs.map (·.1)) (ps.map (·.1))/\Reps K G (vs.map (·.2)) (ps.map (·.2))
section
variable{K:Frag}{B G0 G H:Hp}{σ:St}{Z:UU}
theorem Rx{d:D}{k:Key}(h:Yn d=O k):d=kD k:=by
 cases d with
 |int i=>cases h;rfl
 |str x=>cases h;rfl
 |_=>cases h
theorem FV:∀{ds:yc}{ks:yl},P6 ds=O ks->ds=ks.map kD
 |[],_,h=>by cases h;rfl
 |d::r,ks,h=>by
  unfold P6 at h;split at h
  .rename_i k ks' h1 h2
   cases h;rw[Qs,←Rx h1,←FV h2]
  .cases h
theorem Rep.key_inv{v:V}{k:Key}(r:Rep K G v (kD k)):v=kV k:=by
 cases k with
 |inl i=>exact r.int_inv
 |inr x=>exact r.str_inv
theorem Reps.keys_inv:∀{vs:List V}{ks:yl},Reps K G vs (ks.map kD)->vs=ks.map kV
 |_,[],.nil=>rfl
 |_,k::ks,.cons h t=>by rw[h.key_inv,Reps.keys_inv t];rfl
theorem FT:∀{prs:List (M D×M D)}{G H:Hp}{Z:UU}{Q:List (V×V)->Hp->Prop},EOk K B G0 G H σ Z ->
  (match Rp prs Z with
   |.ok ps Z'=>∀vs G' H',EOk K B G0 G' H' σ Z'->Same G G'->DF K G' vs ps->Q vs H'
   |.bad=>False)->P2 (prs.map λp=>(tD K B G0 p.1,tD K B G0 p.2)) σ H Q
 |[],G,H,Z,Q,k,a=>a [] G H k (.refl _) ⟨.nil,.nil⟩
 |(f,g)::r,G,H,Z,Q,k,a=>by
  refine⟨G,Z,k,?_⟩;unfold Rp Ki at a;show aft K B G0 (Rep K) (f Z) G σ _;cases z:f Z with
  |bad=>rw[z]at a;exact a.elim
  |ok x Z1=>
   rw[z]at a;dsimp only at a;intro v G1 H1 k1 s1 r1;refine⟨G1,Z1,k1,?_⟩;show aft K B G0 (Rep K) (g Z1) G1 σ _;cases z2:g Z1 with
   |bad=>rw[z2]at a;exact a.elim
   |ok y Z2=>
    rw[z2]at a;dsimp only at a;intro u G2 H2 k2 s2 r2;refine FT (prs:=r) k2 ?_;cases z3:Rp r Z2 with
    |bad=>rw[z3]at a;exact a.elim
    |ok ps Z3=>rw[z3]at a;intro vs G3 H3 k3 s3 r3;exact a ((v,u)::vs) G3 H3 k3 ((s1.trans s2).trans s3) ⟨.cons ((r1.mono s2).mono s3) r3.1,.cons (r2.mono s3) r3.2⟩
theorem EOk.under{p:Ux}(k:EOk K B G0 G H σ Z)(hp:H p=w9):EOk K (upd B p (.dK [])) G0 G (upd H p (.dK [])) σ Z where
 bh:=λb o q=>by
  by_cases z:b=p
  .subst z;rw[Zd]at q⊢;exact q
  .rw[KF z]at q⊢;exact k.bh b o q
 gh:=k.gh.trans (ZJ hp)
 g0:=k.g0
 np:=λa u q n=>by
  by_cases z:a=p
  .subst z;exact k.gh.free hp
  .rw[KF z]at q;exact k.np a u q n
 len:=k.len
 pub:=k.pub
 own:=λi ds q=>by obtain⟨a,vs,h1,h2,h3,h4,h5⟩:=k.own i ds q;have z:a≠p:=Yx h4 hp;exact⟨a,vs,h1,by rw[KF z];exact h2,h3,by rw[KF z];exact h4,h5⟩
 sep:=k.sep
 dp:=k.dp.map (λ_ _ _ q=>⟨q,rfl⟩) (λ_ ds q=>⟨ds,q,rfl⟩) λi pt d v fp q s r w n=>⟨r.mono (.refl _) (ZJ hp),λb m=>let ⟨_,hl⟩:=r.isl b m;⟨by rw[KF (Yx hl hp)];exact(w b m).1,(w b m).2⟩⟩
end
section
variable{X:Cx}{B G0:Hp}{KX:XW}{e o a b c:Uz}{pos p2:Pos}{es rest:yg}
structure DPs(X:Cx)(pos:Pos)(G0:Hp)(keys:List (Option Uz))(values:yg)(prs:List (M D×M D)):Prop where
 out:∀B',PPs X pos keys values (prs.map λp=>(tD X.K B' G0 p.1,tD X.K B' G0 p.2))
theorem BH:DPs X pos G0 [] [] []:=⟨λ_=>AQ⟩
theorem qo{k v:Uz}{ks:List (Option Uz)}{vs:yg}{f g:M D}{prs:List (M D×M D)}(hk:∀B',PE X k (tD X.K B' G0 f))(hv:∀B',PE X v (tD X.K B' G0 g))(hr:DPs X pos G0 ks vs prs):DPs X pos G0 (O k::ks) (v::vs) ((f,g)::prs):=
 ⟨λB'=>jF (hk B') (hv B') (hr.out B')⟩
noncomputable def VZ(x y:D):ye:=match x,Yn y with
 |.dict kvs,O k=>(kvs.find? λp=>decide (Yn p.1=O k)).map (·.2)
 |_,_=>w9
theorem Oj(k:Key):Yn (kD k)=O k:=by cases k<;>rfl
theorem NV{K:Frag}{G:Hp}{k:Key}{d:D}:∀{ks:yl}{vs:List V}{ds:yc},Reps K G vs ds->(((ks.map kD).zip ds).find? λp=>decide (Yn p.1=O k)).map (·.2)=O d->∃v,ZT (ks.zip vs) k=O v/\Rep K G v d
 |[],vs,ds,_,e=>by simp at e
 |q::ks,_,_,.nil,e=>by simp at e
 |q::ks,_,_,@Reps.cons _ _ v d0 vs ds r t,e=>by
  rw[Qs,QW,List.find?_cons]at e;unfold ZT;rw[QW,List.find?_cons];rw[Oj]at e;by_cases h:q=k
  .subst h
   simp only[decide_true]at e⊢;cases e;exact⟨v,rfl,r⟩
  .have h':¬(O q=O k):=λz=>h (Q5 z)
   simp only[h,h',decide_false]at e⊢;exact NV t e
theorem FS{ky:Key}:∀{ks:List yl}{ds:yc},((ks.map tkD).zip ds).find? (λkv=>decide (Yn kv.1=O ky))=w9
 |[],_=>rfl
 |_::_,[]=>rfl
 |k::ks,d::ds=>by rw[List.map_cons,List.zip_cons_cons,List.find?_cons_of_neg (by show ¬decide ((none:Option Key)=O ky)=ya;simp)];exact FS (ks:=ks) (ds:=ds)
theorem BG(hu:X.A.units+64<cLine){f g:M D}(ha:PE X a (tD X.K B G0 f))(hb:PE X b (tD X.K B G0 g))(hs:Va b:=by intro _ _;rfl):PE X (.Subscript a b pos) (tD X.K B G0 (UY VZ f g)):=
 Kt (Gj (by omega) ha hb hs) λσ H Q q=>tM.two q λv u H2 G Z x y k rx ry a=>by
  obtain⟨d,e,a1⟩:=a.opt;unfold VZ at e;split at e
  .rename_i kvs ky hk
   have hy:=Rx hk;subst hy;have hu:=ry.key_inv;subst hu;cases rx with
   |dic h=>simp at e
   |exc _ _ _ _=>simp[Yn]at e
   |@dct ad ks vs ds _ e0 hne hl h r=>subst e0;obtain⟨w,hw,yF⟩:=NV r e;exact⟨ad,w,rfl,.inl ⟨_,ky,.inl (k.gh _ _ h),rfl,hw.symm⟩,a1.now k yF⟩
   |@dtt ad ob ks vs ds _ e0 hl h r=>subst e0;have z:=FS (ks:=ks) (ds:=ds) (ky:=ky);unfold pdD at e;rw[List.find?_cons_of_neg (by show ¬decide ((none:Option Key)=O ky)=ya;simp),z]at e;cases e
  .cases e
end
end DL
namespace DL
open PySem PySem.Spec L2 PySem.SeqAt PySem.AutoSeq1
open PyProof.Rows hiding St
section
variable{X:Cx}{pins:List (Ux×Obj)}{s:Uv}{σ:L2.St}{G H:Hp}{A:Around}
theorem HF(I:Inv X pins σ H s){a:Ux}{kvs:List (Key×V)}(h:H a=O (.dK kvs)):(a==sysModules)=yb/\∃o es n vs,s.heap.get? a=O o/\o.cls=.type "dict" /\ o.data=.dict es n/\KV kvs vs/\Pairs (YE X.prog X.w) es.toList vs:=by
 obtain⟨_,h0,vs,kv,o,es,ep,e1,e2,e3,_,e5,_⟩:=(show kvs.length<=UA/\(a==sysModules)=yb/\∃vs,KV kvs vs/\s.heap.DictOf (YE X.prog X.w) a vs from I.hok a _ h)
 exact⟨h0,o,es,ep,vs,e1,e2.1,e3,kv,e5⟩
end
end DL
namespace DL
open PySem PySem.Spec L2
open PyProof.Rows hiding St
noncomputable def XY:D->Bool
 |.int _=>ya
 |.str _=>ya
 |_=>yb
mutual
noncomputable def Zs:D->Bool
 |.none | .bool _ | .int _=>ya
 |.str x=>UJ x
 |.list xs | .tuple xs=>Wc xs
 |.dict kvs=>layKv kvs
noncomputable def Wc:yc->Bool
 |[]=>ya
 |x::xs=>Zs x&&Wc xs
noncomputable def layKv:List (D×D)->Bool
 |[]=>ya
 |(k,v)::r=>XY k&&Zs v&&layKv r
end
theorem GV:∀{ks:yl}{ds:yc},ks.length=ds.length->layKv ((ks.map kD).zip ds)=ya->Wc ds=ya
 |[],[],_,_=>rfl
 |[],_::_,h,_=>by simp at h
 |_::_,[],h,_=>by simp at h
 |k::ks,d::ds,h,c=>by rw[Qs,QW,layKv,QR,QR]at c;rw[Wc,c.1.2,GV (by simpa using h) c.2];rfl
theorem Ey{P:Uw}{w:World}:∀{es:List DictEntry}{vs:List (Key×Uu)},Pairs (YE P w) es vs->es.map (·.val)=vs.map (·.2)
 |_,_,.nil=>rfl
 |_,_,.cons _ h t=>by rw[Qs,Qs,h,Ey t]
theorem vv{P:Uw}{w:World}{h:Heap}{es:List DictEntry}{vs:List (Key×Uu)}(p:Pairs (YE P w) es vs):ReadsAll h (es.map (·.key)) ((vs.map (·.1)).map kD) []:=by
 induction p with
 |nil=>exact .nil
 |@cons e kv es kvs hk _ t ih=>
  have hk:Tl kv.1 e.key=ya:=hk;rw[Qs,Qs,Qs];rcases WJ hk with ⟨i,t,e1,e2⟩|⟨x,t,e1,e2⟩
  .rw[e1,e2];exact .cons (as:=[]) (.int i t) ih
  .rw[e1,e2];exact .cons (as:=[]) (.str x t) ih
theorem GU:∀{ks:yl}{vs:List V}{ws:List (Key×Uu)},ks.length=vs.length->KV (ks.zip vs) ws->ws.map (·.1)=ks/\Vals vs (ws.map (·.2))
 |[],[],_,_,h=>by cases h;exact⟨rfl,.nil⟩
 |[],_::_,_,h,_=>by simp at h
 |_::_,[],_,h,_=>by simp at h
 |k::ks,v::vs,_,hl,h=>by
  rw[QW]at h;cases h with
  |cons a b=>obtain⟨e1,e2⟩:=GU (by simpa using hl) b;exact⟨by rw[Qs,e1,←a.1],.cons a.2 e2⟩
def SmK(K:Frag):Prop:=∃o es n,K.lookup sysModules=O o/\o.data=.dict es n
theorem D0{h:Heap}(x:h.NoSeer):SmK (whole h):=by obtain⟨mm,⟨o',es,ep,e',d,_⟩,_⟩:=x.mods;exact⟨o',es,ep,by rw[RE];exact e',d⟩
section
variable{X:Cx}{pins:List (Ux×Obj)}{s:Uv}{σ:L2.St}{G H:Hp}
theorem GT(I:Inv X pins σ H s)(hK:SmK X.K):H sysModules=w9:=by obtain⟨o,es,n,e,_⟩:=hK;exact(I.bs _ _ (I.mod.kin _ _ e)).2
theorem BF(I:Inv X pins σ H s)(hK:SmK X.K){a:Ux}{xs:List V}(h:SqL X.K H a xs):a≠sysModules:=by
 intro e;subst e;rcases h with h|⟨o,its,n,hk,_,_,hs,_⟩
 .rcases h with h|⟨o,h⟩
  .rw[GT I hK]at h;cases h
  .rw[GT I hK]at h;cases h
 .obtain⟨o',es,m,e,d⟩:=hK
  rw[hk]at e;cases e;rw[hs]at d;cases d
mutual
theorem HE(I:Inv X pins σ H s)(sg:Same G H)(hK:SmK X.K):∀{v:V}{d:D}{u:Uu},Rep X.K G v d->RelV v u->Zs d=ya->∃as,Reads s.heap u d as/\sysModules∉as
 |_,_,_,.non,r,_=>by cases r;exact⟨_,.none,by simp⟩
 |_,_,_,.bl b,r,_=>by cases r;exact⟨_,.bool b,by simp⟩
 |_,_,_,.int i,r,_=>by obtain⟨t,rfl⟩:=r;exact⟨_,.int i t,by simp⟩
 |_,_,_,.str x,r,_=>by obtain⟨t,rfl⟩:=r;exact⟨_,.str x t,by simp⟩
 |_,_,_,.lst h q,r,c=>by cases r;obtain⟨its,rv,⟨o,n,e,hc,_,hd⟩,hz⟩:=I.list (sg.seq h);obtain⟨as,ra,hn⟩:=readsAll_z I sg hK q rv (show Wc _=ya by simpa[Zs]using c);refine⟨_,.list e hc hd (by simpa using ra),?_⟩;simp only[Qw,not_or];exact⟨λz=>BF I hK (sg.seq h) z.symm,hn⟩
 |_,_,_,.tup h q,r,c=>by cases r;obtain⟨its,rv,p,hz⟩:=I.tuple (Xf sg h);obtain⟨o,e,hc,n,hd⟩:=p;obtain⟨as,ra,hn⟩:=readsAll_z I sg hK q rv (show Wc _=ya by simpa[Zs]using c);exact⟨_,.tuple e hc hd (by simpa using ra),hn⟩
 |_,_,_,.dic h,r,c=>by
  cases r;obtain⟨p0,o,es,n,vs,e1,e2,e3,kv,ps⟩:=HF I (sg _ _ h);cases kv
  have z1:es.toList=[]:=by
   cases hz:es.toList with
   |nil=>rfl
   |cons c r=>rw[hz]at ps;cases ps
  refine⟨_,.dict (kvs:=[]) e1 e2 e3 (by rw[z1];exact .nil) (by rw[z1];exact .nil),?_⟩;simp only[Q2,Qq];intro z;rw[←z]at p0;simp at p0
 |_,_,_,.exc _ _ _ _,r,c=>by simp[Zs,layKv,XY]at c
 |_,_,_,@Rep.dct _ _ ad ks vs ds kvs e hne hl h q,r,c=>by
  cases r;obtain⟨p0,o,es,n,ws,e1,e2,e3,kv,ps⟩:=HF I (sg _ _ h);obtain⟨k1,k2⟩:=GU (by rw[hl,q.length]) kv;have cd:Wc ds=ya:=GV hl (by rw[←e];simpa[Zs]using c);obtain⟨bs,rb,hn⟩:=readsAll_z I sg hK q k2 cd;have hkeys:=vv (h:=s.heap) ps;rw[k1]at hkeys;have f1:kvs.map (·.1)=ks.map kD:=by rw[e];exact List.map_fst_zip (by rw[Qb];omega)
  have f2:kvs.map (·.2)=ds:=by rw[e];exact List.map_snd_zip (by rw[Qb];omega)
  refine⟨_,.dict (kvs:=kvs) e1 e2 e3 (by rw[f1];exact hkeys) (by rw[f2,Ey ps];exact rb),?_⟩;simp only[List.cons_append,QY,Qw,not_or];refine⟨?_,hn⟩;intro z;rw[←z]at p0;simp at p0
 |_,_,_,.dtt e _ _ _,r,c=>by subst e;simp[Zs,layKv,XY,pdD]at c
theorem readsAll_z(I:Inv X pins σ H s)(sg:Same G H)(hK:SmK X.K):∀{vs:List V}{ds:yc}{us:yf},Reps X.K G vs ds->Vals vs us->Wc ds=ya->∃as,ReadsAll s.heap us ds as/\sysModules∉as
 |_,_,_,.nil,r,_=>by cases r;exact⟨_,.nil,by simp⟩
 |_,_,_,.cons h t,r,c=>by
  cases r with
  |cons r1 r2=>have c':=c;rw[Wc,QR]at c';obtain⟨as,ra,n1⟩:=HE I sg hK h r1 c'.1;obtain⟨bs,rb,n2⟩:=readsAll_z I sg hK t r2 c'.2;exact⟨_,.cons ra rb,by simp[n1,n2]⟩
end
end
section
variable{X:Cx}
noncomputable def V2:yc->ye
 |[d]=>if Zs d=ya/\d.showable=ya/\d.depth<=50/\d.shown.length<=1000000 then O (.str d.shown)else w9
 |_=>w9
theorem vq(hu:X.A.units+64<cLine)(hg:X.A.guards=O [])(hK:SmK X.K):YZ X (.builtin "repr") (λxs H Q=>∃G v d,xs=[v]/\Same G H/\Rep X.K G v d/\Zs d=ya/\d.showable=ya/\d.depth<=50/\d.shown.length<=1000000/\Q (.str d.shown) H):=by
 intro pins s σ H xs us Q I rx h;obtain⟨G,v,d,rfl,sg,r,c1,c2,c4,c5,q⟩:=h;obtain⟨u,rfl,ru⟩:=rx.one;obtain⟨as,ra,hn⟩:=HE I sg hK r ru c1;have fin:∀h'(t:Tok) tk,(∀b o,s.heap.get? b=O o->h'.get? b=O o)->EP X pins σ Q (.str d.shown t) {s with heap:=h',toks:=tk}:=λh' t tk hk=>⟨.str d.shown,H,I.kept hk,⟨t,rfl⟩,q⟩
 cases r with
 |non=>cases ru;exact P.repr_of_none (fin s.heap _ _ λ_ _ e=>e)
 |bl b=>cases ru;exact P.repr_of_bool (fin s.heap _ _ λ_ _ e=>e)
 |int i=>obtain⟨t,rfl⟩:=ru;exact P.repr_of_int (by have:(int i).showable=ya:=c2;simpa[PyData.showable]using this) (fin s.heap _ _ λ_ _ e=>e)
 |str x=>obtain⟨t,rfl⟩:=ru;exact P.repr_of_str (fin s.heap _ _ λ_ _ e=>e) (QJ c5 lim)
 |lst h r=>cases ru;exact repr_of_reads' ra c2 (λ_=>hn) hg (by omega) (λ_ _ e=>e) (λh' t tk hk=>fin h' t tk hk) (QJ c5 lim)
 |tup h r=>cases ru;exact repr_of_reads' ra c2 (λ_=>hn) hg (by omega) (λ_ _ e=>e) (λh' t tk hk=>fin h' t tk hk) (QJ c5 lim)
 |dic h=>cases ru;exact repr_of_reads' ra c2 (λ_=>hn) hg (by omega) (λ_ _ e=>e) (λh' t tk hk=>fin h' t tk hk) (QJ c5 lim)
 |exc _ _ _ _=>simp[Zs,layKv,XY]at c1
 |dct _ _ _ _ _=>cases ru;exact repr_of_reads' ra c2 (λ_=>hn) hg (by omega) (λ_ _ e=>e) (λh' t tk hk=>fin h' t tk hk) (QJ c5 lim)
 |dtt e _ _ _=>subst e;simp[Zs,layKv,XY,pdD]at c1
theorem NN(hu:X.A.units+64<cLine)(hg:X.A.guards=O [])(hK:SmK X.K):Xa X (.builtin "repr") V2:=by
 refine⟨_,vq hu hg hK,λvs G H ds d Q s r e k=>?_⟩;unfold V2 at e;split at e
 .split at e
  .rename_i x c
   cases e;obtain⟨v,rfl,q1⟩:=r.one_inv;exact⟨G,v,_,rfl,s,q1,c.1,c.2.1,c.2.2.1,c.2.2.2,k _ G H (.refl s) (.str _)⟩
  .cases e
 .cases e
theorem xc{d:D}(c:Zs d=ya/\d.showable=ya/\d.depth<=50/\d.shown.length<=1000000):V2 [d]=O (.str d.shown):=by unfold V2;exact Qo c
end
end DL
namespace L2
open PySem PySem.Spec PyProof.Rows
end L2
namespace DL
open PySem PySem.Spec L2
open PyProof.Rows hiding St
end DL
namespace L2
open PySem PySem.Spec PyProof.Rows
end L2
namespace DL
open PySem PySem.Spec L2
open PyProof.Rows hiding St
noncomputable def spO(K:Frag)(n:Nat)(F:yc->Option yc):Sp:=λvs H Q _=>∃G ds r,vs.length=n/\Same G H/\Reps K G vs ds/\F ds=O r/\∀a ws G' H',Ext G H G' H'->H a=w9->G' a=w9->H' a=O (.lst ws)->Reps K G' ws r->Q (.ref a) H'
noncomputable def tSO(K:Frag)(B G0:Hp)(g:SM)(f:M yc):TS:=λDn σ H=>∃G Z,EOk K B G0 G H σ Z/\match g Z with
 |.nx Z1=>(match f Z1 with
  |.ok ds _=>∀a vs G' H',Ext G0 B G' H'->B a=w9->G' a=w9->H' a=O (.lst vs)->Reps K G' vs ds->Dn.rt (.ref a) H'
  |.bad=>False)
 |.ro ds=>∀a vs G' H',Ext G0 B G' H'->B a=w9->G' a=w9->H' a=O (.lst vs)->Reps K G' vs ds->Dn.rt (.ref a) H'
 |_=>False
section
variable{X:Cx}{B G0:Hp}{e:Uz}{pos:Pos}{es:yg}{st:Stmt}{sts:List Stmt}
theorem DZ{f:M yc}(h:PE X e (tL X.K B G0 f)):PSs X [.Return (O e) pos] (tSO X.K B G0 sNx f):=PM (HW (LC h)) λD σ H ⟨G,Z,k,a⟩=>by
 refine⟨G,Z,k,?_⟩;dsimp only[sNx]at a;cases z:f Z with
 |bad=>rw[z]at a;exact a.elim
 |ok ds Z'=>rw[z]at a;exact λad vs G' H' k' s' n=>a ad vs G' H' k'.exit n.b n.g n.h n.r
theorem Ao{g h:SM}{f:M yc}(h1:PS X st (tS X.K B G0 KX0 g))(h2:PSs X sts (tSO X.K B G0 h f)):PSs X (st::sts) (tSO X.K B G0 (UZ g h) f):=PM (GE h1 h2) λD σ H ⟨G,Z,k,a⟩=>by
 refine⟨G,Z,k,?_⟩;unfold UZ at a;cases z:g Z with
 |nx Z1=>rw[z]at a;exact λσ' G' H' k' s'=>⟨G',Z1,k',a⟩
 |rt d=>rw[z]at a;exact a.elim
 |ro ds=>rw[z]at a;exact a
 |bk Z1=>rw[z]at a;exact a.elim
 |ct Z1=>rw[z]at a;exact a.elim
 |ex Z1 d=>rw[z]at a;exact a.elim
 |bad=>rw[z]at a;exact a.elim
noncomputable def YK(N:List Str)(g:SM)(f:M yc)(ds:yc):Option yc:=match g (YV N ds)with
 |.nx Z=>(match f Z with
  |.ok r _=>O r
  |.bad=>w9)
 |.ro ds=>O ds
 |_=>w9
theorem okO{P:Uw}{w:World}{K:Frag}{mg:Str->yj}{base:Heap}{x qual:Str}{st:Stmt}{f:Ux}{fd:Uy}{N ps:List Str}{k n:Nat}{g:SM}{q:M yc}(F:Fun K x qual st f fd)(S:RC N ps (ZM st))(hn:ps.length=n)
  (der:∀(cdv:Uu)(A:Around)(outer:List Env)(s:Uv)(H:Hp)(E:XK)(B G0:Hp),Room k (A.deeper (envOfC qual (ZM st) s.heap.objs.size f cdv)) ->
   PSs (Y8 CX0 P w K mg base N qual (ZM st) f cdv A outer s H E).nox (Wm st) (tSO K B G0 g q)):FnOk P w K mg base CX0 (k+1) f fd ps (spO K n (YK N g q)):=by
 refine F.ok S (λvs H Q E h=>?_) (λcdv A outer s H vs Q E hr h=>?_)
 .obtain⟨_,_,_,hl,_⟩:=h
  rw[hl,hn]
 .obtain⟨G,ds,d,hl,sg,r,hF,qq⟩:=h
  refine⟨_,der cdv A outer s H E H G hr,G,YV N ds,Gz sg r,?_⟩;unfold YK at hF;cases z:g (YV N ds)with
  |nx Z=>
   rw[z]at hF;dsimp only at hF⊢;cases z2:q Z with
   |bad=>rw[z2]at hF;cases hF
   |ok d' Z'=>rw[z2]at hF;cases hF;exact λa vs G' H' ex hb hg hh rr=>qq a vs G' H' ex hb hg hh rr
  |rt d'=>rw[z]at hF;cases hF
  |ro d'=>rw[z]at hF;cases hF;exact λa vs G' H' ex hb hg hh rr=>qq a vs G' H' ex hb hg hh rr
  |bk Z=>rw[z]at hF;cases hF
  |ct Z=>rw[z]at hF;cases hF
  |ex Z d=>rw[z]at hF;cases hF
  |bad=>rw[z]at hF;cases hF
def X4(P:Uw)(w:World)(K:Frag)(mg:Str->yj)(base:Heap)(x:Str)(k n:Nat)(F:yc->Option yc):Prop:=
 ∃(f:Ux)(fd:Uy)(ps:List Str),mg x=O (.ref f)/\PySem.W.keepIn K (.ref f)=ya/\WN K fd ps []/\FnOk P w K mg base CX0 k f fd ps (spO K n F)
noncomputable def VY(n:Nat)(F:yc->Option yc)(g:M yc):M yc:=Ki g λxs=>if xs.length=n then Kk (F xs)else λ_=>.bad
theorem MD{k kk n:Nat}{F:yc->Option yc}{g:M yc}{x:Str}{p2:Pos}(d:X4 X.prog X.w X.K X.mg X.base x k n F)(hr:Room kk X.A)(hg:Gl X x)(ha:PA X (e::es) (tDs X.K B G0 g))(hk:k<=kk:=by decide)(hn:(e::es).length=n:=by rfl)
  (hdb:(x==("__debug__" : Str))=yb:=by decide) (he:UC (e::es) X.env=(yb,eval e X.env)::UC es X.env:=by rfl) (hpl:(backTo pos (UC es X.env)).any (·.1)=yb:=by rfl) :
  PE X (.Call (.Name x p2) (e::es) [] pos) (tL X.K B G0 (VY n F g)):=by
 obtain⟨f,fd,ps,h1,h2,h3,h4⟩:=d;refine Kt (HU h4 (hr.mono hk) hg h1 h2 h3 .nil Lb ha hdb he hpl) λσ H Q ⟨G,Z,kk0,a⟩=>?_
 refine⟨G,Z,kk0,?_⟩;unfold VY Ki at a;cases z:g Z with
 |bad=>rw[z]at a;exact a.elim
 |ok xs Z1=>
  rw[z]at a;dsimp only at a⊢;intro vs G1 H1 k1 s1 r1;by_cases hl:xs.length=n
  .rw[Qo hl]at a
   unfold Kk at a;cases zf:F xs with
   |none=>rw[zf]at a;exact a.elim
   |some r=>
    rw[zf]at a;dsimp only at a;refine⟨G1,xs,r,by rw[Q2,r1.length];exact hl,k1.gh,by rw[Q2];exact r1,zf,λad ws G' H' ex hh az hH rr=>?_⟩;refine a ad ws G' H' (k1.ext ex) (s1.trans ex.g) ⟨?_,az,hH,rr,λj es q w=>?_,λj pt d v fp q s r=>k1.freshD ex.h hh q s r⟩
    .cases q:B ad with
     |none=>rfl
     |some u=>have:=k1.bh ad u q;rw[hh]at this;cases this
    .obtain⟨b,us,g1,g2,g3,g4,g5⟩:=k1.own j es q
     rw[g1]at w;cases w;rw[hh]at g4;cases g4
  .rw[QB hl]at a
   exact a.elim
end
theorem Nj{q p:Uw}{loose:List Str}{mean:ExcName->yj}{mg mb:Str->yj}{h:Heap}{ix:yn}(P:Uw)(w:World)(base:Heap){ps:List Str}{k n:Nat}{F:yc->Option yc}(T:PyProof.Rows.Top q loose mean mg mb h)(e:recsOf q=Rq p ix)(i:Nat)(x:Str)(hi:ix.contains i=ya)(hn:P7 (Zm p i)=O x)
  (ok:∀{f:Ux}{fd:Uy},Fun (whole h) x x (Zm p i) f fd->FnOk P w (whole h) mg base CX0 k f fd ps (spO (whole h) n F))
  (hb:∀(kV doc pm:Uu)(an:yo)(cdv ct:Uu)(us:yf),us.length=ps.length->bindArgs (PySem.W.fnOf x x (Tz (Zm p i)) (Wm (Zm p i)) (ZM (Zm p i)) .none kV doc pm an cdv ct) ⟨us,[]⟩=pure (ps.zip us)):X4 P w (whole h) mg base x k n F:=by
 obtain⟨f,fd,m,FU⟩:=Nk T e i x hi hn;exact⟨f,fd,ps,m,FU.kp,FU.binds hb,ok FU⟩
theorem Oi{n:Nat}{F:yc->Option yc}{g:M yc}{Z Z1:UU}{xs r:yc}(h1:g Z=.ok xs Z1)(h2:xs.length=n)(h3:F xs=O r):VY n F g Z=.ok r Z1:=by unfold VY Ki;rw[h1];dsimp only;rw[Qo h2,h3];rfl
theorem DE{N:List Str}{g:SM}{f:M yc}{ds r:yc}{Z Z1 Z2:UU}(h0:YV N ds=Z)(h1:g Z=.nx Z1)(h2:f Z1=.ok r Z2):YK N g f ds=O r:=by subst h0;unfold YK;rw[h1];dsimp only;rw[h2]
end DL
namespace L2
open PySem PySem.Spec PyProof.Rows
end L2
namespace DL
open PySem PySem.Spec L2
open PyProof.Rows hiding St
theorem EOk.lent{K:Frag}{B G0 G H:Hp}{σ:St}{Z:UU}(k:EOk K B G0 G H σ Z):EOk K H H H H σ (ZL Z) where
 bh:=.refl _
 gh:=.refl _
 g0:=.refl _
 np:=λ_ _ e n=>by rw[n]at e;cases e
 len:=by unfold ZL;rw[Qb];exact k.len
 pub:=λi d e=>by
  rcases FE e with e2|⟨ds,rfl,e2⟩|⟨p,e2⟩
  .exact k.tree (by unfold R8;rw[e2])
  .exact k.tree (by unfold R8;rw[e2])
  .exact k.tree (by unfold R8;rw[e2])
 own:=λi ds e=>(RG e).elim
 sep:=λi j a ds es e=>(RG e).elim
 dp:=.of (λ_ _ _ q=>Ed q) λ_ _ q=>RG q
theorem EOk.back{K:Frag}{B G0 G H H':Hp}{σ:St}{Z:UU}(k:EOk K B G0 G H σ Z)(e:Same H H'):EOk K B G0 G H' σ Z:=k.ext ⟨e,.refl _,k.gh.trans e,λ_ _ _ n=>n⟩
noncomputable def Rf(f:M Bool):M Bool:=λZ=>match f (ZL Z)with
 |.ok b _=>.ok b Z
 |.bad=>.bad
section
variable{X:Cx}{B G0:Hp}{KX:XW}{e a b c tg iter:Uz}{pos:Pos}
theorem GS{f:M Bool}(h:∀B' G',PT X e (tBo X.K B' G' f)):PT X e (tBo X.K B G0 (Rf f)):=by
 have h':PT X e (λσ H Q=>∃B' G',tBo X.K B' G' f σ H Q):=λpins s σ H Q I ⟨B',G',q⟩=>h B' G' pins s σ H Q I q;refine Yh h' λσ H Q ⟨G,Z,k,a⟩=>⟨H,H,H,ZL Z,k.lent,?_⟩;unfold Rf at a
 cases z:f (ZL Z)with
 |bad=>rw[z]at a;exact a.elim
 |ok t Z'=>rw[z]at a;dsimp only at a⊢;exact λv G' H' k' s' r=>a v G H' (k.back k'.bh) (.refl _) r
end
theorem An{f:M Bool}{Z Z':UU}{b:Bool}(h:f (ZL Z)=.ok b Z'):Rf f Z=.ok b Z:=by unfold Rf;rw[h]
end DL
namespace L2
open PySem PySem.Spec PyProof.Rows
end L2
namespace DL
open PySem PySem.Spec L2
open PyProof.Rows hiding St
end DL
namespace L2
open PySem PySem.Spec PyProof.Rows
end L2
namespace DL
open PySem PySem.Spec L2
open PyProof.Rows hiding St
theorem P5{α:Type}(a:α):[a].Nodup:=by simp
section
variable{K:Frag}{B G0 G H:Hp}{σ:St}{Z:UU}
structure NewT(K:Frag)(B G H:Hp)(σ:St)(Z:UU)(pt:Pat)(v:V)(d:D)(fp:yh):Prop where
 r:RepO K G H pt v d fp
 nd:fp.Nodup
 b:∀a∈fp,B a=w9/\G a=w9
 f:∀a∈fp,∀(j:Nat) es,Z[j]?=O (O (.own es))->σ[j]?≠O (O (.ref a))
 dp:∀a∈fp,∀(j:Nat) p d v fp',Z[j]?=O (O (.deep p d))->σ[j]?=O (O v)->RepO K G H p v d fp'->a∉fp'
theorem EOk.setDeep{i:Nat}{pt:Pat}{v:V}{d:D}{fp:yh}(k:EOk K B G0 G H σ Z)(n:NewT K B G H σ Z pt v d fp)(hi:i<Z.length):EOk K B G0 G H (σ.set i (O v)) (Z.set i (O (.deep pt d))) where
 bh:=k.bh
 gh:=k.gh
 g0:=k.g0
 np:=k.np
 len:=by rw[Jc,Jc];exact k.len
 pub:=λj d' q=>by
  by_cases z:i=j
  .subst z;have:=Yr q;cases this
  .rw[Qr z]at q⊢
   exact k.pub j d' q
 own:=λj es q=>by
  by_cases z:i=j
  .subst z;have:=Yr q;cases this
  .rw[Qr z]at q⊢
   exact k.own j es q
 sep:=λj l c es fs q1 q2 s1 s2=>by
  have z1:i≠j:=λz=>by subst z;have:=Yr q1;cases this
  have z2:i≠l:=λz=>by subst z;have:=Yr q2;cases this
  rw[Qr z1]at q1 s1;rw[Qr z2]at q2 s2;exact k.sep j l c es fs q1 q2 s1 s2
 dp:=by
  obtain⟨ω,k1,k2⟩:=k.dp;have hs:i<σ.length:=by rw[←k.len];exact hi
  refine⟨λb=>if b∈fp then i else ω b,λj p d' q=>?_,λj es b q s=>?_⟩
  .by_cases z:i=j
   .subst z
    have:=Yr q;cases this;exact⟨v,fp,QL hs,n.r,n.nd,λa m=>⟨(n.b a m).1,(n.b a m).2,Qo m⟩⟩
   .rw[Qr z]at q⊢
    obtain⟨v',fp',s,r,nn,w⟩:=k1 j p d' q;refine⟨v',fp',s,r,nn,λb m=>⟨(w b m).1,(w b m).2.1,?_⟩⟩;dsimp only;rw[QB (λz=>n.dp b z j p d' v' fp' q s r m)];exact(w b m).2.2
  .by_cases z:i=j
   .subst z;have:=Yr q;cases this
   .rw[Qr z]at q s
    dsimp only;rw[QB (λz=>n.f b z j es q s)];exact k2 j es b q s
theorem RepOl.leaf:∀{vs:List V}{ds:yc},Reps K G vs ds->RepOl K G H .leaf vs ds []
 |_,_,.nil=>.nil
 |_,_,.cons h t=>.cons (f1:=[]) (f2:=[]) (.leaf h) (RepOl.leaf t)
theorem RepOl.append{p:Pat}:∀{vs ws:List V}{ds es:yc}{f1 f2:yh},RepOl K G H p vs ds f1->RepOl K G H p ws es f2->RepOl K G H p (vs++ws) (ds++es) (f1++f2)
 |_,_,_,_,_,_,.nil,s=>s
 |_,_,_,_,_,_,.cons r t,s=>by rw[Ja];exact .cons r (RepOl.append t s)
theorem RepOl.length{p:Pat}:∀{vs:List V}{ds:yc}{fp:yh},RepOl K G H p vs ds fp->vs.length=ds.length
 |_,_,_,.nil=>rfl
 |_,_,_,.cons _ t=>by rw[Qz,Qz,RepOl.length t]
noncomputable def Wf(Z:UU)(i:Nat):Option (Pat×D):=match Z[i]? with
 |some (O (.own ds))=>O (.lst .leaf,.list ds)
 |some (O (.deep p d))=>O (p,d)
 |_=>w9
theorem EOk.slots(k:EOk K B G0 G H σ Z):∃ω:Ux->Nat,∀(i:Nat) p d,Wf Z i=O (p,d)->∃v fp,σ[i]?=O (O v)/\RepO K G H p v d fp/\fp.Nodup/\∀a∈fp,B a=w9/\G a=w9/\ω a=i:=by
 obtain⟨ω,k1,k2⟩:=k.dp;refine⟨ω,λi p d h=>?_⟩;unfold Wf at h;split at h
 .rename_i ds q
  cases h;obtain⟨a,vs,h1,h2,h3,h4,h5⟩:=k.own i ds q;refine⟨.ref a,[a],h1,.lst h4 (.leaf h5),P5 a,λb m=>?_⟩;rw[Qq.mp m];exact⟨h2,h3,k2 i ds a q h1⟩
 .rename_i p' d' q
  cases h;exact k1 i p d q
 .cases h
theorem EOk.mutD{j:Nat}{p:Pat}{d d':D}{v:V}{fp fp':yh}{a:Ux}{o:HO}(k:EOk K B G0 G H σ Z)(hd:Z[j]?=O (O (.deep p d)))(hv:σ[j]?=O (O v))(r:RepO K G H p v d fp)(ha:a∈fp)
  (r':RepO K G (upd H a o) p v d' fp') (za:fp'.Nodup) (sub:∀b∈fp',b∈fp):EOk K B G0 G (upd H a o) σ (Z.set j (O (.deep p d'))):=by
 obtain⟨ω,k1,k2⟩:=k.dp;obtain⟨v0,fp0,s0,r0,n0,w0⟩:=k1 j p d hd;rw[hv]at s0;cases s0;have e0:=r0.uniq (.refl _) r;subst e0;obtain⟨hb,hg,hw⟩:=w0 a ha;obtain⟨ws,hl⟩:=r.isl a ha;have nt:∀vs,H a≠O (.tup vs):=λvs z=>by rw[hl]at z;cases ws<;>cases z
 have yB:j<Z.length:=(Qg.mp hd).1;have nz:∀{m:Nat}{s:Sl},j≠m->(Z.set j (O (.deep p d')))[m]?=O (O s)->Z[m]?=O (O s):=λ{m s} z q=>by rw[Qr z]at q;exact q
 refine⟨λb u e=>?_,λb u e=>?_,k.g0,k.np,by rw[Jc];exact k.len,λm dm e=>?_,λm es e=>?_,λm l c es fs q1 q2 s1 s2=>?_,ω,λm pm dm e=>?_,λm es b e s=>?_⟩
 .rw[KF (Yx e hb)];exact k.bh b u e
 .rw[KF (Yx e hg)];exact k.gh b u e
 .by_cases z:j=m
  .subst z;have:=Yr e;cases this
  .exact k.pub m dm (nz z e)
 .by_cases z:j=m
  .subst z;have:=Yr e;cases this
  .have e:=nz z e
   obtain⟨c,us,g1,g2,g3,g4,g5⟩:=k.own m es e;have zc:c≠a:=λw=>by subst w;exact z (hw.symm.trans (k2 m es c e g1))
   exact⟨c,us,g1,g2,g3,by rw[KF zc];exact g4,g5⟩
 .have z1:j≠m:=λz=>by subst z;have:=Yr q1;cases this
  have z2:j≠l:=λz=>by subst z;have:=Yr q2;cases this
  exact k.sep m l c es fs (nz z1 q1) (nz z2 q2) s1 s2
 .by_cases z:j=m
  .subst z
   have:=Yr e;cases this;exact⟨v,fp',hv,r',za,λb mb=>w0 b (sub b mb)⟩
  .obtain⟨vm,fm,sm,rm,nm,wm⟩:=k1 m pm dm (nz z e)
   exact⟨vm,fm,sm,rm.upd nt (λmm=>z (hw.symm.trans (wm a mm).2.2)),nm,wm⟩
 .have z:j≠m:=λz=>by subst z;have:=Yr e;cases this
  exact k2 m es b (nz z e) s
end
noncomputable def tT(K:Frag)(B G0:Hp)(pt:Pat)(f:M D):TE:=λσ H Q=>∃G Z,EOk K B G0 G H σ Z/\match f Z with
 |.ok d Z'=>∀v fp G' H',EOk K B G0 G' H' σ Z'->Same G G'->NewT K B G' H' σ Z' pt v d fp->Q v H'
 |.bad=>False
noncomputable def Tn(i:Nat)(pt:Pat)(f:M D):SM:=sB f λd Z=>if i<Z.length then .nx (Z.set i (O (.deep pt d)))else .bad
section
variable{X:Cx}{B G0:Hp}{KX:XW}{e o a b c:Uz}{pos:Pos}{es:yg}{st:Stmt}{sts:List Stmt}{pt:Pat}
theorem HD{i:Nat}{x:Str}{f:M D}{p2:Pos}(hN:X.N.Nodup)(hi:X.N[i]?=O x)(hx:Loc X.env.scope x)(he:PE X e (tT X.K B G0 pt f))(hs:swapsWith e (O (.Name x p2)) pos.line X.env=pure yb:=by rfl)
  (hf:X.fn x=ya∨X.env.scope.names.lookup x=O .local:=by first|exact .inl rfl|exact .inr rfl|assumption):PS X (.Assign [.Name x p2] e pos) (tS X.K B G0 KX (Tn i pt f)):=
 ZD (No hN hi hx he hs hf) λD σ H ⟨G,Z,k,a⟩=>by
  refine⟨G,Z,k,?_⟩;unfold Tn sB at a;cases z:f Z with
  |bad=>rw[z]at a;exact a.elim
  |ok ds Z1=>
   rw[z]at a;intro v fp G' H' k' s' n;dsimp only at a;split at a
   .rename_i hl
    exact a _ G' H' (k'.setDeep n hl) s'
   .exact a.elim
theorem NewL.tree{K:Frag}{G H:Hp}{σ:St}{Z:UU}{ad:Ux}{vs:List V}{ds:yc}(n:NewL K B G H σ Z ad vs ds){p:Pat}(r:RepOl K G H p vs ds []):NewT K B G H σ Z (.lst p) (.ref ad) (.list ds) [ad] where
 r:=.lst n.h r
 nd:=P5 ad
 b:=λb m=>by rw[Qq.mp m];exact⟨n.b,n.g⟩
 f:=λb m=>by rw[Qq.mp m];exact n.f
 dp:=λb m=>by rw[Qq.mp m];exact n.dp
theorem HC{f:M yc}(h:PE X e (tL X.K B G0 f)):PE X e (tT X.K B G0 (.lst .leaf) (Kb UG f)):=Kt h λσ H Q ⟨G,Z,k,a⟩=>by
 refine⟨G,Z,k,?_⟩;unfold Kb Ki at a;cases z:f Z with
 |bad=>rw[z]at a;exact a.elim
 |ok ds Z1=>rw[z]at a;intro ad vs G' H' k' s' n;exact a _ _ G' H' k' s' (n.tree (.leaf n.r))
end
section
variable{K:Frag}{B G0 G H:Hp}{σ:St}{Z:UU}
inductive MOp where
 |rev|clr|app (d:D)|set (k:Nat) (d:D)
noncomputable def MOp.dOf:MOp->Pat->yc->Option yc
 |.rev,_,ds=>O ds.reverse
 |.clr,_,_=>O []
 |.app d,.leaf,ds=>if ds.length<1000000 then O (ds++[d])else w9
 |.set k d,.leaf,ds=>if k<ds.length then O (ds.set k d)else w9
 |_,_,_=>w9
noncomputable def MOp.vOf:MOp->V->List V->List V
 |.rev,_,vs=>vs.reverse
 |.clr,_,_=>[]
 |.app _,u,vs=>vs++[u]
 |.set k _,u,vs=>vs.set k u
noncomputable def MOp.arg(K:Frag)(G:Hp):MOp->V->Prop
 |.app d,u=>Rep K G u d
 |.set _ d,u=>Rep K G u d
 |_,_=>True
theorem MOp.app_inv{d:D}{p:Pat}{ds ds':yc}(e:(MOp.app d).dOf p ds=O ds'):p=.leaf/\ds.length<1000000/\ds'=ds++[d]:=by
 cases p with
 |leaf=>
  have e:(if ds.length<1000000 then O (ds++[d])else w9)=O ds':=e;split at e
  .rename_i h;exact⟨rfl,h,(Q5 e).symm⟩
  .cases e
 |lst _=>cases e
 |tup _=>cases e
 |dic=>cases e
theorem MOp.set_inv{d:D}{k:Nat}{p:Pat}{ds ds':yc}(e:(MOp.set k d).dOf p ds=O ds'):p=.leaf/\k<ds.length/\ds'=ds.set k d:=by
 cases p with
 |leaf=>
  have e:(if k<ds.length then O (ds.set k d)else w9)=O ds':=e;split at e
  .rename_i h;exact⟨rfl,h,(Q5 e).symm⟩
  .cases e
 |lst _=>cases e
 |tup _=>cases e
 |dic=>cases e
theorem RepOl.leaf_inv:∀{vs:List V}{ds:yc}{fp:yh},RepOl K G H .leaf vs ds fp->Reps K G vs ds/\fp=[]
 |_,_,_,.nil=>⟨.nil,rfl⟩
 |_,_,_,.cons (.leaf r) t=>by obtain⟨r2,e⟩:=RepOl.leaf_inv t;subst e;exact⟨.cons r r2,rfl⟩
theorem RepOl.reverse{p:Pat}:∀{vs:List V}{ds:yc}{fp:yh},RepOl K G H p vs ds fp->∃fp',RepOl K G H p vs.reverse ds.reverse fp'/\fp'.Perm fp
 |_,_,_,.nil=>⟨[],.nil,.refl _⟩
 |_,_,_,.cons (f1:=f1) (f2:=f2) r t=>by obtain⟨f,r2,e⟩:=RepOl.reverse t;refine⟨f++(f1++[]),by rw[JU,JU];exact r2.append (.cons r .nil),?_⟩;rw[Q2];exact(e.append_right f1).trans Uc
theorem MOp.ok{op:MOp}{p:Pat}{vs:List V}{ds ds':yc}{fp:yh}{u:V}(r:RepOl K G H p vs ds fp)(e:op.dOf p ds=O ds')(ha:op.arg K G u):∃fp',RepOl K G H p (op.vOf u vs) ds' fp'/\(∀b∈fp',b∈fp)/\(fp.Nodup->fp'.Nodup):=by
 cases op with
 |rev=>cases e;obtain⟨fp',r2,pm⟩:=r.reverse;exact⟨fp',r2,λb m=>pm.mem_iff.mp m,λn=>pm.nodup_iff.mpr n⟩
 |clr=>cases e;exact⟨[],.nil,(λb m=>by simp at m),λ_=>List.nodup_nil⟩
 |app d=>obtain⟨rfl,_,rfl⟩:=MOp.app_inv e;obtain⟨r2,rfl⟩:=r.leaf_inv;exact⟨[],.leaf (r2.append (.cons ha .nil)),λb m=>m,λn=>n⟩
 |set k d=>obtain⟨rfl,_,rfl⟩:=MOp.set_inv e;obtain⟨r2,rfl⟩:=r.leaf_inv;exact⟨[],.leaf (r2.set ha k),λb m=>m,λn=>n⟩
noncomputable def Xx(op:MOp):yn->Pat->D->ye
 |[],.lst p,.list ds=>(op.dOf p ds).map .list
 |k::r,.lst p,.list ds=>(ds[k]?).bind λd=>(Xx op r p d).map λd'=>.list (ds.set k d')
 |k::r,.tup ps,.tuple ds=>(ps[k]?).bind λp=>(ds[k]?).bind λd=>(Xx op r p d).map λd'=>.tuple (ds.set k d')
 |_,_,_=>w9
noncomputable def VX(H:Hp):yn->V->Option V
 |[],v=>O v
 |k::r,.ref a=>match H a with
  |some (.lst vs)=>(vs[k]?).bind (VX H r)
  |some (.tup vs)=>(vs[k]?).bind (VX H r)
  |_=>w9
 |_::_,_=>w9
theorem RepOl.at{p:Pat}:∀{vs:List V}{ds:yc}{fp:yh}{k:Nat}{d:D},RepOl K G H p vs ds fp->ds[k]?=O d->fp.Nodup->∃v f,vs[k]?=O v/\RepO K G H p v d f/\f.Nodup/\(∀b∈f,b∈fp) /\
  ∀a∈f,(∀ws,H a≠O (.tup ws))->∀o d' f',RepO K G (L2.upd H a o) p v d' f'->f'.Nodup->(∀b∈f',b∈f)->∃fp',RepOl K G (L2.upd H a o) p vs (ds.set k d') fp'/\fp'.Nodup/\∀b∈fp',b∈fp
 |_,_,_,_,_,.nil,e,_=>by cases e
 |_,_,_,0,_,.cons (f1:=f1) (f2:=f2) r t,e,n=>by
  cases e;obtain⟨n1,n2,nn⟩:=Jh.mp n;refine⟨_,f1,rfl,r,n1,λb m=>QI _ m,λa m nt o d' f' r' za sub=>⟨f'++f2,.cons r' (t.upd nt (λm2=>nn a m a m2 w8)),Jh.mpr ⟨za,n2,λx hx y hy=>nn x (sub x hx) y hy⟩,λb m=>?_⟩⟩;rcases QC.mp m with m|m
  .exact QI _ (sub b m)
  .exact QE _ m
 |_,_,_,k+1,d,.cons (f1:=f1) (f2:=f2) r t,e,n=>by
  obtain⟨n1,n2,nn⟩:=Jh.mp n;obtain⟨v,f,h1,h2,h3,h4,h5⟩:=RepOl.at (k:=k) (d:=d) t (by simpa using e) n2;refine⟨v,f,by simpa using h1,h2,h3,λb m=>List.mem_append_right _ (h4 b m),λa m nt o d' f' r' za sub=>?_⟩;obtain⟨fp',g1,g2,g3⟩:=h5 a m nt o d' f' r' za sub;refine⟨f1++fp',.cons (r.upd nt (λm2=>nn a m2 a (h4 a m) w8)) g1,Jh.mpr ⟨n1,g2,λx hx y hy=>nn x hx y (g3 y hy)⟩,λb m=>?_⟩;rcases QC.mp m with m|m
  .exact QI _ m
  .exact QE _ (g3 b m)
theorem RepOs.at:∀{ps:List Pat}{vs:List V}{ds:yc}{fp:yh}{k:Nat}{p:Pat}{d:D},RepOs K G H ps vs ds fp->ps[k]?=O p->ds[k]?=O d->fp.Nodup->∃v f,vs[k]?=O v/\RepO K G H p v d f/\f.Nodup/\(∀b∈f,b∈fp) /\
  ∀a∈f,(∀ws,H a≠O (.tup ws))->∀o d' f',RepO K G (L2.upd H a o) p v d' f'->f'.Nodup->(∀b∈f',b∈f)->∃fp',RepOs K G (L2.upd H a o) ps vs (ds.set k d') fp'/\fp'.Nodup/\∀b∈fp',b∈fp
 |_,_,_,_,_,_,_,.nil,_,e,_=>by cases e
 |_,_,_,_,0,_,_,.cons (f1:=f1) (f2:=f2) r t,e0,e,n=>by
  cases e;cases e0;obtain⟨n1,n2,nn⟩:=Jh.mp n;refine⟨_,f1,rfl,r,n1,λb m=>QI _ m,λa m nt o d' f' r' za sub=>⟨f'++f2,.cons r' (t.upd nt (λm2=>nn a m a m2 w8)),Jh.mpr ⟨za,n2,λx hx y hy=>nn x (sub x hx) y hy⟩,λb m=>?_⟩⟩;rcases QC.mp m with m|m
  .exact QI _ (sub b m)
  .exact QE _ m
 |_,_,_,_,k+1,p,d,.cons (f1:=f1) (f2:=f2) r t,e0,e,n=>by
  obtain⟨n1,n2,nn⟩:=Jh.mp n;obtain⟨v,f,h1,h2,h3,h4,h5⟩:=RepOs.at (k:=k) (p:=p) (d:=d) t (by simpa using e0) (by simpa using e) n2;refine⟨v,f,by simpa using h1,h2,h3,λb m=>List.mem_append_right _ (h4 b m),λa m nt o d' f' r' za sub=>?_⟩;obtain⟨fp',g1,g2,g3⟩:=h5 a m nt o d' f' r' za sub;refine⟨f1++fp',.cons (r.upd nt (λm2=>nn a m2 a (h4 a m) w8)) g1,Jh.mpr ⟨n1,g2,λx hx y hy=>nn x hx y (g3 y hy)⟩,λb m=>?_⟩;rcases QC.mp m with m|m
  .exact QI _ m
  .exact QE _ (g3 b m)
theorem RepO.mut{op:MOp}{u:V}(ha:op.arg K G u):∀(path:yn){p:Pat}{v:V}{d d':D}{fp:yh},RepO K G H p v d fp->fp.Nodup->Xx op path p d=O d'->∃a vs,VX H path v=O (.ref a)/\a∈fp/\H a=O (.lst vs) /\
  (∃q ds ds',vs.length=ds.length/\op.dOf q ds=O ds')/\∃fp',RepO K G (L2.upd H a (.lst (op.vOf u vs))) p v d' fp'/\fp'.Nodup/\∀b∈fp',b∈fp
 |[],p,v,d,d',fp,r,n,e=>by
  cases r with
  |leaf r=>cases e
  |tup h r=>cases e
  |dic _ _ h r=>cases e
  |lst h r=>
   rename_i p a vs ds fp;unfold Xx at e;cases z:op.dOf p ds with
   |none=>rw[z]at e;cases e
   |some ds'=>
   rw[z]at e;cases e;obtain⟨na,nf⟩:=Jw.mp n;obtain⟨fp',r',sub,nn⟩:=MOp.ok r z ha;refine⟨a,vs,rfl,Qi,h,⟨p,ds,ds',r.length,z⟩,a::fp',.lst Zd (r'.upd (λws y=>by rw[h]at y;cases y) (λm=>na (sub a m))),Jw.mpr ⟨λm=>na (sub a m),nn nf⟩,λb m=>?_⟩;rcases Qw.mp m with rfl|m
   .exact Qi
   .exact Qh _ (sub b m)
 |k::path,p,v,d,d',fp,r,n,e=>by
  cases r with
  |leaf r=>cases e
  |dic _ _ h r=>cases e
  |lst h r=>
   rename_i p a0 vs ds fp;unfold Xx at e;cases z:ds[k]? with
   |none=>rw[z]at e;cases e
   |some d0=>
   rw[z]at e;dsimp only[Option.bind_some]at e;cases z2:Xx op path p d0 with
   |none=>rw[z2]at e;cases e
   |some d1=>
   rw[z2]at e;cases e;obtain⟨na,nf⟩:=Jw.mp n;obtain⟨v0,f,h1,h2,h3,h4,h5⟩:=r.at z nf;obtain⟨a,ws,g1,g2,g3,g4,f',g5,g6,g7⟩:=RepO.mut ha path h2 h3 z2;have nt:∀us,H a≠O (.tup us):=λus y=>by rw[g3]at y;cases y
   obtain⟨fp',k1,k2,k3⟩:=h5 a g2 nt _ _ _ g5 g6 g7;have hne:a0≠a:=λy=>by subst y;exact na (h4 a0 g2)
   refine⟨a,ws,?_,Qh _ (h4 a g2),g3,g4,a0::fp',.lst (by rw[KF hne];exact h) k1,Jw.mpr ⟨λm=>na (k3 a0 m),k2⟩,λb m=>?_⟩
   .unfold VX
    rw[h];dsimp only;rw[h1];exact g1
   .rcases Qw.mp m with rfl|m
    .exact Qi
    .exact Qh _ (k3 b m)
  |tup h r=>
   rename_i ps a0 vs ds;unfold Xx at e;cases zp:ps[k]? with
   |none=>rw[zp]at e;cases e
   |some p0=>
   rw[zp]at e;dsimp only[Option.bind_some]at e;cases z:ds[k]? with
   |none=>rw[z]at e;cases e
   |some d0=>
   rw[z]at e;dsimp only[Option.bind_some]at e;cases z2:Xx op path p0 d0 with
   |none=>rw[z2]at e;cases e
   |some d1=>
   rw[z2]at e;cases e;obtain⟨v0,f,h1,h2,h3,h4,h5⟩:=r.at zp z n;obtain⟨a,ws,g1,g2,g3,g4,f',g5,g6,g7⟩:=RepO.mut ha path h2 h3 z2;have nt:∀us,H a≠O (.tup us):=λus y=>by rw[g3]at y;cases y
   obtain⟨fp',k1,k2,k3⟩:=h5 a g2 nt _ _ _ g5 g6 g7;have hne:a0≠a:=λy=>by subst y;rw[h]at g3;cases g3
   refine⟨a,ws,?_,h4 a g2,g3,g4,fp',.tup (by rw[KF hne];exact h) k1,k2,k3⟩;unfold VX;rw[h];dsimp only;rw[h1];exact g1
noncomputable def WK(K:Frag):yn->V->Hp->VK->Prop
 |[],v,H,Q=>Q v H
 |k::r,v,H,Q=>rIx K v (.int k) H λu H'=>WK K r u H' Q
noncomputable def WZ(K:Frag)(i:Nat)(path:yn):TE:=λσ H Q=>∃v,σ[i]?=O (O v)/\WK K path v H Q
theorem qm{v u:V}{Q Q':VK}(h:rIx K v u H Q)(i:∀w H',Q w H'->Q' w H'):rIx K v u H Q':=by
 rcases h with ⟨p,xs,j,w,a,b,c,d,q⟩|⟨p,xs,j,w,a,b,c,d,q⟩|⟨z,j,w,a,b,c,d,q⟩
 .exact .inl ⟨p,xs,j,w,a,b,c,d,i _ _ q⟩
 .exact .inr (.inl ⟨p,xs,j,w,a,b,c,d,i _ _ q⟩)
 .exact .inr (.inr ⟨z,j,w,a,b,c,d,i _ _ q⟩)
theorem Ex{k:Nat}{Q:VK}:∀{path:yn}{v:V}{H:Hp},WK K (path++[k]) v H Q->WK K path v H λx H1=>rIx K x (.int k) H1 Q
 |[],v,H,h=>h
 |j::r,v,H,h=>qm h λw H' q=>Ex q
theorem WK.of{Q:VK}:∀{path:yn}{v u:V},VX H path v=O u->Q u H->WK K path v H Q
 |[],v,u,e,q=>by cases e;exact q
 |k::r,v,u,e,q=>by
  cases v with
  |ref a=>
   unfold VX at e;split at e
   .rename_i vs h
    cases z:vs[k]? with
    |none=>rw[z]at e;cases e
    |some w=>rw[z]at e;exact .inl ⟨a,vs,k,w,rfl,rfl,SqL.of h,Zz z,WK.of e q⟩
   .rename_i vs h
    cases z:vs[k]? with
    |none=>rw[z]at e;cases e
    |some w=>rw[z]at e;exact .inr (.inl ⟨a,vs,k,w,rfl,rfl,SqT.of h,Zz z,WK.of e q⟩)
   .cases e
  |_=>cases e
end
noncomputable def Xm(i:Nat)(path:yn)(op:MOp):SM:=λZ=>match Wf Z i with
 |some (p,d)=>(match Xx op path p d with
  |some d'=>(match Z[i]? with
   |some (O (.own _))=>(match d' with
    |.list ds'=>.nx (Z.set i (O (.own ds')))
    |_=>.bad)
   |_=>.nx (Z.set i (O (.deep p d'))))
  |none=>.bad)
 |none=>.bad
section
variable{X:Cx}{B G0:Hp}{KX:XW}{e o a b c:Uz}{pos:Pos}{es:yg}
theorem ql{i:Nat}{path:yn}{op:MOp}{Dn:Ends}{σ:St}{H:Hp}{G:Hp}{Z:UU}{u:V}(k:EOk X.K B G0 G H σ Z)(q:aftS X.K B G0 KX (Xm i path op Z) G Dn)(ha:op.arg X.K G u):∃v ad vs,σ[i]?=O (O v)/\VX H path v=O (.ref ad)/\H ad=O (.lst vs) /\
  (∃q ds ds',vs.length=ds.length/\op.dOf q ds=O ds')/\Dn.nx σ (upd H ad (.lst (op.vOf u vs))):=by
 unfold Xm at q;cases z:Wf Z i with
 |none=>rw[z]at q;exact q.elim
 |some pd=>
 obtain⟨p,d⟩:=pd;rw[z]at q;dsimp only at q;cases z2:Xx op path p d with
 |none=>rw[z2]at q;exact q.elim
 |some d'=>
 rw[z2]at q;dsimp only at q;obtain⟨ω,ks⟩:=k.slots;obtain⟨v,fp,hv,r,nd,w⟩:=ks i p d z;obtain⟨ad,vs,g1,g2,g3,g4,fp',g5,g6,g7⟩:=r.mut ha path nd z2;refine⟨v,ad,vs,hv,g1,g3,g4,?_⟩;unfold Wf at z;split at z
 .rename_i ds hi
  cases z;rw[hi]at q;dsimp only at q;split at q
  .rename_i ds'
   obtain⟨a',us,i1,i2,i3,i4,i5⟩:=k.own i ds hi;rw[hv]at i1;cases i1;cases path with
   |nil=>
    cases g1;rw[i4]at g3;cases g3;cases g5 with
    |lst h rl=>
    rw[Zd]at h;cases h;exact q σ G _ (k.change hi hv rl.leaf_inv.1) (.refl _)
   |cons k0 r0=>
    unfold Xx at z2;cases zz:ds[k0]? with
    |none=>rw[zz]at z2;cases z2
    |some dd=>rw[zz]at z2;cases r0<;>cases z2
  .exact q.elim
 .rename_i p' d0 hi
  cases z;rw[hi]at q;exact q σ G _ (k.mutD hi hv r g2 g5 g6 g7) (.refl _)
 .cases z
theorem HB{i:Nat}(h:PE X e (Za i)):PE X e (WZ X.K i []):=h
theorem HA{i:Nat}{path:yn}{k:Nat}{j}{p1:Pos}(h:PE X a (WZ X.K i path))(hs:Oy (.Constant (.int (k:Int)) j p1):=by exact λ_ _=>rfl):PE X (.Subscript a (.Constant (.int (k:Int)) j p1) pos) (WZ X.K i (path++[k])):=
 Kt (O8 Nl h P4 hs) λσ H Q ⟨v,hv,q⟩=>⟨v,hv,Ex q⟩
theorem Hz{i:Nat}{path:yn}{d:D}{u:V}{apos cpos:Pos}(ho:PE X o (WZ X.K i path))(he:PE X e (tC u))(hd:∀G,Rep X.K G u d)
  (hbase:attributeBase o "append" X.env (eval o X.env)=eval o X.env:=by rfl)
  (hfew:((backTo cpos (UC [e] X.env)).all (λx=>!x.1)&&(backToKw cpos (keywordEach [] X.env)).all (λx=>x.1.isSome)
   && decide ([e].length+([]:List Keyword).length+(if([]:List Keyword).isEmpty then 0 else 1)<30))=ya:=by rfl)
  (hline:(apos.endLine==cpos.line)=ya:=by rfl) (hs:UC [e] X.env=[(yb,eval e X.env)]:=by rfl)
  (hsw:swapsWith (.Call (.Attribute o "append" apos) [e] [] cpos) w9 pos.line X.env=pure yb:=by rfl) :
  PS X (.Expr (.Call (.Attribute o "append" apos) [e] [] cpos) pos) (tS X.K B G0 KX (Xm i path (.app d))):=
 ZD (NF (PN PySem.F.plainAttrs_list PySem.F.slot_list_append PySem.F.type_list_append Mx ho (WQ he V7 (by rw[hs];rfl)) hbase hfew hline (by rw[hs];rfl) w8) hsw) λD σ H ⟨G,Z,k,q⟩=>by
  obtain⟨v,ad,vs,h1,h2,h3,⟨pp,ds,ds',h4,h4'⟩,h5⟩:=ql (u:=u) k q (hd G);have hlen:vs.length<1000000:=by have:=(MOp.app_inv h4').2.1;omega
  exact⟨v,h1,WK.of h2 ⟨.inl ⟨rfl,_,SqL.of h3⟩,ad,vs,u,rfl,rfl,h3,QG hlen lim,h5⟩⟩
end
noncomputable def isT:Option HO->Bool
 |some (.tup _)=>ya
 |some (.frz _ (.tup _))=>ya
 |_=>yb
theorem DY{u:MO}:isT (O u.ho)=yb:=by cases u<;>rfl
noncomputable def ZN(fp:yh)(G H:Hp):Hp:=λb=>if b∈fp∨isT (H b)=ya then H b else G b
section
variable{K:Frag}{B G0 G H:Hp}{fp:yh}
theorem xb(gh:Same G H):Same G (ZN fp G H):=λb o e=>by
 unfold ZN;split
 .exact gh b o e
 .exact e
theorem Am(gh:Same G H):Same (ZN fp G H) H:=λb o e=>by
 unfold ZN at e;split at e
 .exact e
 .exact gh b o e
theorem Hy{b:Ux}(h:b∈fp∨isT (H b)=ya):ZN fp G H b=H b:=by unfold ZN;rw[Qo h]
theorem Hx{b:Ux}(h:b∉fp)(h2:isT (H b)=yb):ZN fp G H b=G b:=by
 unfold ZN;rw[QB];rintro(z|z)
 .exact h z
 .rw[h2]at z;cases z
theorem Ext.pubT{G' H':Hp}(ex:Ext G H G' H')(fr:∀a∈fp,H a=w9):Ext G H (ZN fp G' H') H':=
 ⟨ex.h,ex.g.trans (xb ex.gh),Am ex.gh,λa u e n=>by rw[Hx (λm=>by rw[fr a m]at e;cases e) (by rw[ex.h a _ e];exact DY)];exact ex.np a u e n⟩
noncomputable def nl0:D->Bool
 |.tuple ds=>ds.all flat
 |d=>flat d
theorem Rep.nl{G' G2 H':Hp}{v:V}{d:D}(r:Rep K G' v d)(h:nl0 d=ya)(gh:Same G' H'):Rep K (ZN fp G2 H') v d:=by
 cases r with
 |tup hs rr=>
  refine .tup ?_ (rr.flat h);rcases hs with (hs|⟨o,hs⟩)|hs
  .have:=gh _ _ hs
   exact .inl (.inl ((Hy (.inr (by rw[this];rfl))).trans this))
  .have:=gh _ _ hs
   exact .inl (.inr ⟨o,(Hy (.inr (by rw[this];rfl))).trans this⟩)
  .exact .inr hs
 |non=>exact .non
 |bl b=>exact .bl b
 |int i=>exact .int i
 |str x=>exact .str x
 |lst _ _=>cases h
 |dic _=>cases h
 |exc _ _ _ _=>cases h
 |dct _ _ _ _ _=>cases h
 |dtt _ _ _ _=>cases h
theorem Reps.nl{G' G2 H':Hp}(gh:Same G' H'):∀{vs:List V}{ds:yc},Reps K G' vs ds->ds.all nl0=ya->Reps K (ZN fp G2 H') vs ds
 |_,_,.nil,_=>.nil
 |_,_,.cons r t,h=>by rw[List.all_cons,QR]at h;exact .cons (r.nl h.1 gh) (Reps.nl gh t h.2)
end
noncomputable def WC(f:M yc):M yc:=λZ=>match f (ZL Z)with
 |.ok ds _=>if ds.all nl0=ya then .ok ds Z else .bad
 |.bad=>.bad
section
variable{Z Z1 Z2 Z':UU}{pt:Pat}
theorem Hw{i:Nat}{f:M D}{d:D}(h1:f Z=.ok d Z1)(h2:i<Z1.length)(h3:Z1.set i (O (.deep pt d))=Z'):Tn i pt f Z=.nx Z':=by unfold Tn sB;rw[h1];dsimp only;rw[if_pos h2];subst h3;rfl
theorem Hv{i:Nat}{path:yn}{op:MOp}{p:Pat}{d d':D}(h1:Z[i]?=O (O (.deep p d)))(h2:Xx op path p d=O d')(h3:Z.set i (O (.deep p d'))=Z'):Xm i path op Z=.nx Z':=by unfold Xm Wf;rw[h1];dsimp only;rw[h2];dsimp only;rw[h3]
theorem qk{f:M yc}{ds:yc}(h:f (ZL Z)=.ok ds Z')(hf:ds.all nl0=ya):WC f Z=.ok ds Z:=by unfold WC;rw[h];dsimp only;rw[if_pos hf]
end
theorem NewL.back{K:Frag}{B G0 G H G' H':Hp}{σ:St}{Z Z1:UU}{ad:Ux}{vs:List V}{ds:yc}(k:EOk K B G0 G H σ Z)(k':EOk K H H G' H' σ Z1)(n:NewL K H G' H' σ Z1 ad vs ds)(hf:ds.all nl0=ya) :
  EOk K B G0 (ZN [] G H') H' σ Z/\Same G (ZN [] G H')/\NewL K B (ZN [] G H') H' σ Z ad vs ds:=by
 have ex:Ext G H G H':=⟨k'.bh,.refl _,k.gh.trans k'.bh,λ_ _ _ n=>n⟩;have ex2:Ext G H (ZN [] G H') H':=ex.pubT (λa m=>by cases m);refine⟨k.ext ex2,ex2.g,⟨k.bh.free n.b,?_,n.h,n.r.nl k'.gh hf,λj es q w=>?_,λj pt d v fp q s r=>k.freshD k'.bh n.b q s r⟩⟩
 .rw[Hx (by simp) (by rw[n.h];rfl)]
  exact k.gh.free n.b
 .obtain⟨b,us,g1,g2,g3,g4,g5⟩:=k.own j es q
  rw[g1]at w;cases w;rw[n.b]at g4;cases g4
section
variable{X:Cx}{B G0:Hp}{KX:XW}
theorem DD{l:Bool}{y:Str}{j:Nat}{py:Pos}{spos:Pos}{tg elt iter:Uz}{ifs:yg}{gs:List Comprehension}{scope:Scope}{pos:Pos}{N2:List Str}{k:Nat}{f:M yc}{s:D->UU->yk}{t:M Bool}{rd:RdB}(hN:X.N.Nodup)(hj:X.N[j]?=O y)(hy:X.env.scope.names.lookup y=O .local)(hc:X.calm=ya)
  (hi:∀B' G',PI X tg iter (iD X.K B' G' f)) (yt:Yk X N2 scope (.ListComp elt (⟨tg,iter,ifs,0⟩::gs) scope pos) tg ifs s t rd) (hb:SZ X.env.scope scope X.N N2 k) (hs:∀x,US iter X.env x=pure x:=by intro _;rfl)
  (hsw:swapsWith (.ListComp elt (⟨tg,iter,ifs,0⟩::gs) scope pos) (O (.Name y py)) spos.line X.env=pure ya:=by rfl) :
  PS X (.Assign [.Name y py] (.ListComp elt (⟨tg,iter,ifs,0⟩::gs) scope pos) spos) (tS X.K B G0 KX (Zf j (WC (dCG l f k s t rd)))):=by
 intro pins s0 σ H Dn I ⟨G,Z,k0,a⟩;unfold Zf sB WC at a;cases z:dCG l f k s t rd (ZL Z)with
 |bad=>rw[z]at a;exact a.elim
 |ok es Z1=>
 rw[z]at a;dsimp only at a;by_cases hnl:es.all nl0=ya
 case neg=>rw[QB hnl]at a;exact a.elim
 rw[Qo hnl]at a;dsimp only at a;by_cases hl:j<Z.length
 .rw[Qo hl]at a
  obtain⟨ds,ZF,zf,zl,hfl⟩:=NA z;rw[exec_Assign_Name_used _ _ _ _ hsw];refine Qf (Js (Qf ?_));show UB _ X.A (do let _ ←comprehension (.ListComp elt (⟨tg,iter,ifs,0⟩::gs) scope pos) scope X.env _ (newList []) yb (eval iter X.env) (O (assign (.Name y py) X.env))) _ _ s0;refine Qf (QN (Mm (use:=O (assign (.Name y py) X.env)) (Qc:=λ_ s'=>SP X pins Dn .next s') hc (hi H H) yt hb hs I k0.lent zf zl hfl λC D vs G' H' s4 m I7 hm hC hL hz hcl hp k' s' n=>?_) (λ_ s' hq=>Qn (Qn hq)) λ_ _ e=>e);show UB _ X.A (assign (.Name y py) X.env (.ref D)) _ _ s4;refine wpAny_assign_Name (Mz I7 hN hj (.inl hy) (v:=.ref D) w8 (λs5 I8 ⟨ad,sb,hx⟩=>?_) (.inr hy))
  have hCa:C≠ad:=by
   rcases hx with e|e
   .rw[e];exact hL
   .exact Ne.symm (hcl y ad e)
  refine⟨m,hm.sameBut sb hCa,λh' yY=>⟨_,H',I8.turned (t':=s5.toks) (it:=C) (λb o hb e=>(yY.2 b hb).trans e) hC hL (.inr hz) hcl hp,?_⟩⟩;obtain⟨k2,s2,n2⟩:=NewL.back k0 k' n hnl;exact a _ _ H' (k2.setOwn n2 hl) s2
 .rw[QB hl]at a;exact a.elim
theorem xa{F F':M yc}(h:∀Z es Z',F Z=.ok es Z'->F' Z=.ok es Z')(Z:UU)(es:yc)(Z':UU)(e:WC F Z=.ok es Z'):WC F' Z=.ok es Z':=by
 unfold WC at e⊢;cases z:F (ZL Z)with
 |bad=>rw[z]at e;cases e
 |ok ds Z1=>rw[z]at e;rw[h _ _ _ z];exact e
theorem DC{l:Bool}{y:Str}{j:Nat}{py:Pos}{spos:Pos}{tg elt iter:Uz}{ifs:yg}{gs:List Comprehension}{scope:Scope}{pos:Pos}{f:M yc}{s:D->UU->yk}{t:M Bool}{rd:RdB}{F:M yc}(SC:Scope)(N1 N2:List Str)(k:Nat)(le:∀Z es Z',F Z=.ok es Z'->dCG l f k s t rd Z=.ok es Z')(hN:X.N.Nodup)(hj:X.N[j]?=O y)(hy:X.env.scope.names.lookup y=O .local)(hc:X.calm=ya)
  (hi:∀B' G',PI X tg iter (iD X.K B' G' f)) (yt:Yk X N2 scope (.ListComp elt (⟨tg,iter,ifs,0⟩::gs) scope pos) tg ifs s t rd) (h1:X.env.scope=SC) (h2:X.N=N1) (hb:WE VU SC scope N1 N2 k=ya) (hs:∀x,US iter X.env x=pure x:=by intro _;rfl)
  (hsw:swapsWith (.ListComp elt (⟨tg,iter,ifs,0⟩::gs) scope pos) (O (.Name y py)) spos.line X.env=pure ya:=by rfl) :
  PS X (.Assign [.Name y py] (.ListComp elt (⟨tg,iter,ifs,0⟩::gs) scope pos) spos) (tS X.K B G0 KX (Zf j (WC F))):=
 ZD (DD hN hj hy hc hi yt (by rw[h1,h2];exact Nz hb) hs hsw) λ_ _ _ q=>Lv (xa le) q
end
noncomputable def Pe(f:M D):M Bool:=Ki f λx=>match x with | .list ds=>U1 (!ds.isEmpty)|_=>λ_=>.bad
noncomputable def Wy:Nat:=10 ^ 60
section
variable{X:Cx}{B G0:Hp}{e:Uz}
theorem wc{α β:Type}{xs:List α}{ys:List β}(h:xs.length=ys.length):xs.isEmpty=ys.isEmpty:=by cases xs<;>cases ys<;>first|rfl|(simp at h)
theorem Al{f:M D}(h:PE X e (tD X.K B G0 f))(he:∀whole,isTrue e X.env whole=(do let v ←whole;standAt e.pos;holding [v] (truthy v)):=by intro _;rfl):PT X e (tBo X.K B G0 (Pe f)):=
 Yh (jK h he) λσ H Q q=>tM.one (R:=Rep X.K) q λv H2 G Z x k r a=>by
  cases x with
  |list ds=>obtain⟨l,vs,rfl,h1,r1⟩:=r.lst_inv;refine⟨!vs.isEmpty,.inl ⟨vs,k.gh.seq h1,rfl⟩,?_⟩;exact aft.now (v:=!vs.isEmpty) a k (by rw[wc r1.length])
  |_=>exact a.elim
theorem FR{f:M D}{Z Z1:UU}{ds:yc}(h1:f Z=.ok (.list ds) Z1):Pe f Z=.ok (!ds.isEmpty) Z1:=by unfold Pe;exact K3 h1 w8
end
noncomputable def XU(kvs:List (D×D))(k:Key)(d:D):List (D×D):=if kvs.any (λp=>decide (Yn p.1=O k))then kvs.map (λp=>if Yn p.1=O k then(p.1,d)else p)else kvs++[(kD k,d)]
noncomputable def Pw(j:Nat)(g f:M D):SM:=sB f λd Z1=>match Z1[j]? with
 |some (O (.deep .dic _))=>sB g (λy Z2=>match Yn y,Z2[j]? with
  |some k,O (O (.deep .dic (.dict kvs)))=>if kvs.length<1000 then .nx (Z2.set j (O (.deep .dic (.dict (XU kvs k d)))))else .bad
  |_,_=>.bad) Z1
 |_=>.bad
section
variable{K:Frag}{G:Hp}
theorem Oh{k:Key}:∀{ks:yl}{vs:List V}{ds:yc},Reps K G vs ds->((ks.map kD).zip ds).any (λp=>decide (Yn p.1=O k))=(ks.zip vs).any λkv=>decide (kv.1=k)
 |[],_,_,_=>rfl
 |_::_,_,_,.nil=>rfl
 |k0::ks,_,_,.cons _ t=>by
  rw[Qs,QW,QW,Um,Um,Oh t,Oj]
  congr 1
  by_cases e:k0=k
  .subst e;simp
  .simp[e]
theorem GR{k:Key}{w:V}{d:D}(r:Rep K G w d):∀{ks:yl}{vs:List V}{ds:yc},Reps K G vs ds->∃vs' ds',(ks.zip vs).map (λkv=>if kv.1=k then(kv.1,w)else kv)=ks.zip vs'/\((ks.map kD).zip ds).map (λp=>if Yn p.1=O k then(p.1,d)else p)=(ks.map kD).zip ds'/\ds'.length=ds.length/\Reps K G vs' ds'
 |[],vs,ds,h=>⟨vs,ds,rfl,rfl,rfl,h⟩
 |_::_,_,_,.nil=>⟨[],[],rfl,rfl,rfl,.nil⟩
 |k0::ks,_,_,.cons (v:=v0) (d:=d0) h t=>by
  obtain⟨vs',ds',e1,e2,e3,e4⟩:=GR r (ks:=ks) t;by_cases e:k0=k
  .refine⟨w::vs',d::ds',?_,?_,by rw[Qz,e3,Qz],.cons r e4⟩
   .rw[QW,Qs,e1,Qo e,QW]
   .rw[Qs,QW,Qs,e2,Qo (by rw[Oj,e]),QW]
  .refine⟨v0::vs',d0::ds',?_,?_,by rw[Qz,e3,Qz],.cons h e4⟩
   .rw[QW,Qs,e1,QB e,QW]
   .rw[Qs,QW,Qs,e2,QB (by rw[Oj];exact λz=>e (Q5 z)),QW]
theorem Reps.snoc{w:V}{d:D}(r:Rep K G w d):∀{vs:List V}{ds:yc},Reps K G vs ds->Reps K G (vs++[w]) (ds++[d])
 |_,_,.nil=>.cons r .nil
 |_,_,.cons h t=>.cons h (Reps.snoc r t)
theorem Ak{k:Key}{w:V}{d:D}(r:Rep K G w d){ks:yl}{vs:List V}{ds:yc}(h:Reps K G vs ds)(hl:ks.length=ds.length):∃(ks':yl)(vs':List V)(ds':yc),Zg (ks.zip vs) k w=ks'.zip vs'/\XU ((ks.map kD).zip ds) k d=(ks'.map kD).zip ds'/\ks'.length=ds'.length/\Reps K G vs' ds':=by
 unfold Zg XU;rw[Oh h];have hv:=h.length;split
 .obtain⟨vs',ds',e1,e2,e3,e4⟩:=GR r (k:=k) (ks:=ks) h
  exact⟨ks,vs',ds',e1,e2,by rw[e3];exact hl,e4⟩
 .refine⟨ks++[k],vs++[w],ds++[d],?_,?_,by rw[Qk,Qk,hl];rfl,h.snoc r⟩
  .rw[List.zip_append (by omega)];rfl
  .rw[QA,List.zip_append (by rw[Qb];omega)];rfl
end
section
variable{X:Cx}{B G0:Hp}{KX:XW}{e o i:Uz}{pos p2:Pos}
theorem DX{j:Nat}{f g:M D}(hu:X.A.units+64<cLine)(he:PE X e (tD X.K B G0 f))(ho:PE X o (Za j))(hi:PE X i (tD X.K B G0 g))(hs:swapsWith e (O (.Subscript o i p2)) pos.line X.env=pure yb:=by rfl) :
  PS X (.Assign [.Subscript o i p2] e pos) (tS X.K B G0 KX (Pw j g f)):=
 ZD (AR (by omega) ho hi he hs) λD σ H q=>tS.bnd (R:=Rep X.K) q λv H1 G1 Z1 d k r a=>by
  split at a
  .rename_i d0 q0
   obtain⟨ω,ks1⟩:=k.slots;obtain⟨v0,fp0,zX,r0,_,_⟩:=ks1 j .dic d0 (by unfold Wf;rw[q0]);refine⟨v0,zX,G1,Z1,k,?_⟩;unfold sB at a;cases z:g Z1 with
   |bad=>rw[z]at a;exact a.elim
   |ok y Z2=>
    rw[z]at a;dsimp only at a;intro kv G' H' k' s' r';split at a
    .rename_i ky kvs hk q2
     split at a
     .rename_i hlt
      obtain⟨ω2,ah⟩:=k'.slots;obtain⟨v2,fp2,hv2,r2,nd2,w2⟩:=ah j .dic (.dict kvs) (by unfold Wf;rw[q2]);rw[zX]at hv2;cases hv2;have ey:=Rx hk;subst ey;have ekv:=r'.key_inv;subst ekv;cases r2 with
      |@dic ad ks vs ds _ e hl h rr=>
       obtain⟨ks',vs',ds',e1,e2,e3,e4⟩:=Ak (k:=ky) (r.mono s') rr hl;refine⟨ad,_,rfl,DPut.k h ?_,a σ G' _ (k'.mutD q2 zX (.dic e hl h rr) Qi (.dic (ks:=ks') (vs:=vs') (ds:=ds') (by rw[e];exact e2) e3 (by rw[Zd,e1]) e4) (P5 ad) λb m=>m) (s'.trans (.refl _))⟩;have:(ks.zip vs).length<=kvs.length:=by rw[e,Ub,Ub,Qb];have:=rr.length;omega
       exact Nat.lt_of_le_of_lt this (QG hlt (by decide))
     .exact a.elim
    .exact a.elim
  .exact a.elim
theorem EOk.fillO{K:Frag}{B G0 G H:Hp}{σ:St}{Z:UU}{p:Ux}{u:HO}(k:EOk K (upd B p (.dK [])) G0 G H σ Z)(hb:B p=w9)(h0:G0 p=w9):EOk K B G0 G (upd H p u) σ Z/\G p=w9/\H p=O (.dK [])/\(∀(j:Nat) es,Z[j]?=O (O (.own es))->σ[j]?≠O (O (.ref p))) /\
  ∀(j:Nat) pt d v fp',Z[j]?=O (O (.deep pt d))->σ[j]?=O (O v)->RepO K G (upd H p u) pt v d fp'->p∉fp':=by
 have hG:G p=w9:=k.np p (.k []) Zd h0;have hH:H p=O (.dK []):=k.bh p _ Zd;refine⟨⟨λb o q=>?_,λb o q=>?_,k.g0,λa w q n=>?_,k.len,k.pub,λi ds q=>?_,k.sep,k.dp.map (λ_ _ _ q=>⟨q,rfl⟩) (λ_ ds q=>⟨ds,q,rfl⟩) λi pt d v fp q s r w n=>?_⟩,hG,hH,λj es q s=>?_,λj pt d v fp' q s r=>?_⟩
 .have z:b≠p:=Yx q hb
  rw[KF z];exact k.bh b o (by rw[KF z];exact q)
 .rw[KF (Yx q hG)];exact k.gh b o q
 .have z:a≠p:=Yx q hb
  exact k.np a w (by rw[KF z];exact q) n
 .obtain⟨a,vs,h1,h2,h3,h4,h5⟩:=k.own i ds q
  have z:a≠p:=λe=>by subst e;rw[Zd]at h2;cases h2
  exact⟨a,vs,h1,by rw[KF z]at h2;exact h2,h3,by rw[KF z];exact h4,h5⟩
 .have zz:∀b∈fp,b≠p:=λb m e=>by subst e;have:=(w b m).1;rw[Zd]at this;cases this
  refine⟨r.upd (λ_ e=>by rw[hH]at e;cases e) (λm=>zz p m w8),λb m=>?_⟩;obtain⟨w1,w2⟩:=w b m;rw[KF (zz b m)]at w1;exact⟨w1,w2⟩
 .obtain⟨a,vs,h1,h2,h3,h4,h5⟩:=k.own j es q
  rw[h1]at s;cases s;rw[Zd]at h2;cases h2
 .obtain⟨ω,k1,_⟩:=k.dp
  obtain⟨v',fp,s',r',_,w⟩:=k1 j pt d q;rw[s]at s';cases s';have zz:p∉fp:=λm=>by have:=(w p m).1;rw[Zd]at this;cases this
  have e:=(r'.upd (o:=u) (λ_ e=>by rw[hH]at e;cases e) zz).uniq (.refl _) r;rw[←e];exact zz
theorem qi{keys:List (Option Uz)}{values:yg}{prs:List (M D×M D)}(h:DPs X pos G0 keys values prs)(hall:keys.all (·.isSome)=ya:=by rfl)(hl:keys.length=values.length:=by rfl)(h0:keys≠[]:=by simp)(h15:keys.length<=15:=by decide) :
  PE X (.Dict keys values pos) (tT X.K B G0 .dic (OZ prs)):=by
 refine Kt (qt (trs:=λp=>prs.map λf=>(tD X.K (upd B p (.dK [])) G0 f.1,tD X.K (upd B p (.dK [])) G0 f.2)) (λp=>h.out _) hall hl h0 h15) λσ H Q ⟨G,Z,k,a⟩ p hp=>?_;refine FT (k.under hp) ?_;unfold OZ Ki at a
 cases z:Rp prs Z with
 |bad=>rw[z]at a;exact a.elim
 |ok ps Z1=>
  rw[z]at a;dsimp only at a;intro vs G1 H1 k1 s1 r1;unfold Kk at a;cases e1:O0 ps with
  |none=>rw[e1]at a;exact a.elim
  |some d=>
  rw[e1]at a;dsimp only at a;unfold O0 at e1;split at e1
  .rename_i ks hk
   split at e1
   .rename_i hc
    cases e1;have ek:=FV hk;have hv:=r1.1;rw[ek]at hv;have hv:=hv.keys_inv;have hlen:ks.length=ps.length:=by have:=congrArg List.length ek;simpa using this.symm
    have hlv:vs.length=ks.length:=by have:=congrArg List.length hv;simpa using this
    have evs:vs=(ks.zip (vs.map (·.2))).map (λkv=>(kV kv.1,kv.2)):=by exact HG kV ks vs hv
    obtain⟨f1,f2,f3,f4,f5⟩:=k1.fillO (u:=.dK (ks.zip (vs.map (·.2)))) (k.bh.free hp) (k.g0.free (k.gh.free hp));refine⟨f3,ks.zip (vs.map (·.2)),evs,?_,?_⟩
    .rw[Ub,Qb];omega
    .have em:V6 [] (ks.zip (vs.map (·.2)))=ks.zip (vs.map (·.2)):=by
      rw[Ez _ [] ?_,QY];rw[QY,List.map_fst_zip (by rw[Qb];omega)];exact hc.1
     rw[em];refine a (.ref p) [p] _ _ f1 s1 ⟨.dic (ks:=ks) (vs:=vs.map (·.2)) (ds:=ps.map (·.2)) ?_ (by rw[Qb];exact hlen) Zd r1.2,P5 p,λb m=>?_,λb m=>?_,λb m=>?_⟩
     .rw[←ek,GW]
     .rw[Qq.mp m];exact⟨k.bh.free hp,f2⟩
     .rw[Qq.mp m];exact f4
     .rw[Qq.mp m];exact f5
   .cases e1
  .cases e1
noncomputable def ZU(x y:D):ym:=match y,Yn x with
 |.dict kvs,O k=>if(kvs.all λp=>(Yn p.1).isSome)=ya then O (kvs.any λp=>decide (Yn p.1=O k))else w9
 |_,_=>w9
theorem Aj{K:Frag}{G H:Hp}{x y:D}{v u:V}{t:Bool}(sg:Same G H)(px:Rep K G v x)(py:Rep K G u y)(e:ZU x y=O t):∃a o,u=.ref a/\YQ H a v o/\o.isSome=t:=by
 unfold ZU at e;split at e
 .rename_i kvs k hk
  split at e
  .rename_i c
   cases e;have ex:=Rx hk;subst ex;have ev:=px.key_inv;subst ev;cases py with
   |@dic a h=>exact⟨a,w9,rfl,.inl ⟨[],k,.inl (sg _ _ h),rfl,rfl⟩,rfl⟩
   |exc _ _ _ _=>simp[Yn]at c
   |@dct a ks vs ds _ e0 hne hl h r=>refine⟨a,ZT (ks.zip vs) k,rfl,.inl ⟨_,k,.inl (sg _ _ h),rfl,rfl⟩,?_⟩;subst e0;rw[Oh r,OD]
   |dtt e0 hl h r=>subst e0;simp[pdD,Yn]at c
  .cases e
 .cases e
theorem DB(hu:X.A.units+64<cLine):OpB X (UD .In) ZU:=by refine⟨λv u H Q=>∃G x y d,Same G H/\Rep X.K G v x/\Rep X.K G u y/\ZU x y=O d/\Q (.bl d) H,?_,λv u G H x y d Q s rx ry e k=>⟨G,x,y,d,s,rx,ry,e,k⟩⟩;intro pins s σ H x y v u Q I rx ry ⟨G,dx,dy,d,sg,px,py,e,q⟩;obtain⟨a,o,rfl,g,rfl⟩:=Aj sg px py e;obtain rfl:u=Value.ref a:=ry;exact d_in (by omega) I g rx λs' I'=>⟨.bl _,H,I',rfl,q⟩
theorem DW{j:Nat}{g f:M D}{Z Z1 Z2 Z':UU}{d y e0:D}{k:Key}{kvs:List (D×D)}(h1:f Z=.ok d Z1)(q1:Z1[j]?=O (O (.deep .dic e0)))(h2:g Z1=.ok y Z2)(hk:Yn y=O k)(q2:Z2[j]?=O (O (.deep .dic (.dict kvs))))(hl:kvs.length<1000)
  (h3:Z2.set j (O (.deep .dic (.dict (XU kvs k d))))=Z'):Pw j g f Z=.nx Z':=by
 unfold Pw sB;rw[h1];dsimp only;rw[q1];dsimp only;rw[h2];dsimp only;rw[hk,q2];dsimp only;rw[Qo hl,h3]
noncomputable def Wr(j:Nat)(g:M D):M D:=λZ=>match Z[j]? with
 |some (O (.deep .dic _))=>(match g Z with
  |.ok y Z2=>(match Z2[j]? with
   |some (O (.deep .dic (.dict kvs)))=>(match VZ (.dict kvs) y with
    |some d=>.ok d Z2
    |none=>.bad)
   |_=>.bad)
  |.bad=>.bad)
 |_=>.bad
theorem Ai{j:Nat}{g:M D}(hu:X.A.units+64<cLine)(ho:PE X o (Za j))(hi:PE X i (tD X.K B G0 g))(hs:Va i:=by intro _ _;rfl):PE X (.Subscript o i pos) (tD X.K B G0 (Wr j g)):=
 Kt (Gj (by omega) ho hi hs) λσ H Q ⟨G,Z,k,a⟩=>by
  unfold Wr at a;split at a
  .rename_i d0 q0
   obtain⟨ω,ks1⟩:=k.slots;obtain⟨v0,fp0,zX,r0,_,_⟩:=ks1 j .dic d0 (by unfold Wf;rw[q0]);refine⟨v0,zX,G,Z,k,?_⟩;cases z:g Z with
   |bad=>rw[z]at a;exact a.elim
   |ok y Z2=>
    rw[z]at a;dsimp only at a;intro kv G' H' k' s' r';split at a
    .rename_i kvs q2
     split at a
     .rename_i d e
      obtain⟨ω2,ah⟩:=k'.slots;obtain⟨v2,fp2,hv2,r2,nd2,w2⟩:=ah j .dic (.dict kvs) (by unfold Wf;rw[q2]);rw[zX]at hv2;cases hv2;unfold VZ at e;split at e
      .rename_i kvs' ky hx hk
       cases hx;have ey:=Rx hk;subst ey;have ekv:=r'.key_inv;subst ekv;cases r2 with
       |@dic ad ks vs ds _ e0 hl h rr=>subst e0;obtain⟨w,hw,yF⟩:=NV rr e;exact⟨ad,w,rfl,.inl ⟨_,ky,.inl h,rfl,hw.symm⟩,a w G' H' k' s' yF⟩
      .cases e
     .exact a.elim
    .exact a.elim
  .exact a.elim
noncomputable def Y7(b:Bool)(j:Nat)(g:M D):M Bool:=λZ=>match g Z with
 |.ok y Z2=>(match Z2[j]? with
  |some (O (.deep .dic (.dict kvs)))=>(match ZU y (.dict kvs)with
   |some t=>.ok (t==b) Z2
   |none=>.bad)
  |_=>.bad)
 |.bad=>.bad
theorem Hu{j:Nat}{b:Bool}{g:M D}{σ:St}{H:Hp}{Q:Bool->Hp->Prop}(q:tBo X.K B G0 (Y7 b j g) σ H Q):tD X.K B G0 g σ H λy H1=>Za j σ H1 λx H2=>∃a o,x=.ref a/\YQ H2 a y o/\Q (o.isSome==b) H2:=by
 obtain⟨G,Z,k,a⟩:=q;refine⟨G,Z,k,?_⟩;unfold Y7 at a;cases z:g Z with
 |bad=>rw[z]at a;exact a.elim
 |ok y Z2=>
  rw[z]at a;dsimp only at a;intro kv G' H' k' s' r';split at a
  .rename_i kvs q2
   split at a
   .rename_i t e
    obtain⟨ω2,ah⟩:=k'.slots;obtain⟨v2,fp2,hv2,r2,nd2,w2⟩:=ah j .dic (.dict kvs) (by unfold Wf;rw[q2]);refine⟨v2,hv2,?_⟩;unfold ZU at e;split at e
    .rename_i kvs' ky hx hk
     cases hx;split at e
     .cases e
      have ey:=Rx hk;subst ey;have ekv:=r'.key_inv;subst ekv;cases r2 with
      |@dic ad ks vs ds _ e0 hl h rr=>subst e0;refine⟨ad,ZT (ks.zip vs) ky,rfl,.inl ⟨_,ky,.inl h,rfl,rfl⟩,?_⟩;rw[Oh rr,OD]at a;exact a _ G' H' k' s' w8
     .cases e
    .cases e
   .exact a.elim
  .exact a.elim
theorem tM.mono{K:Frag}{B G0:Hp}{α γ:Type}{R:Hp->γ->α->Prop}{f:M α}{σ:St}{H:Hp}{P Q:γ->Hp->Prop}(h:tM K B G0 R f σ H P)(i:∀v H1,P v H1->Q v H1):tM K B G0 R f σ H Q:=by
 obtain⟨G,Z,k,a⟩:=h;refine⟨G,Z,k,?_⟩;unfold aft at a⊢;cases z:f Z with
 |bad=>rw[z]at a;exact a
 |ok d Z'=>rw[z]at a;exact λv G' H' k' s' r=>i _ _ (a v G' H' k' s' r)
theorem Ah{j:Nat}{g:M D}(hu:X.A.units+64<cLine)(hi:PE X i (tD X.K B G0 g))(ho:PE X o (Za j))(hm:behindInMarks .In o=yb:=by first|exact OF _ (by decide) (by decide)|rfl):PT X (.Compare i [.In] [o] pos) (tBo X.K B G0 (Y7 ya j g)):=
 Yh (P3 (Bs (by omega) hi ho) hm) λσ H Q q=>tM.mono (Hu q) λy H1 ⟨x,hx,a,ov,e1,e2,e3⟩=>⟨x,hx,a,ov,e1,e2,_,rfl,by simpa using e3⟩
theorem qh{j:Nat}{g:M D}(hu:X.A.units+64<cLine)(hi:PE X i (tD X.K B G0 g))(ho:PE X o (Za j))(hm:behindInMarks .NotIn o=yb:=by first|exact OF _ (by decide) (by decide)|rfl):PT X (.Compare i [.NotIn] [o] pos) (tBo X.K B G0 (Y7 yb j g)):=
 Yh (P3 (xN (by omega) hi ho) hm) λσ H Q q=>tM.mono (Hu q) λy H1 ⟨x,hx,a,ov,e1,e2,e3⟩=>⟨x,hx,a,ov,e1,e2,_,rfl,by cases h:ov.isSome<;>rw[h]at e3<;>exact e3⟩
theorem Ag{j:Nat}{g:M D}{Z Z1:UU}{e0 y d:D}{kvs:List (D×D)}(q0:Z[j]?=O (O (.deep .dic e0)))(h:g Z=.ok y Z1)(q1:Z1[j]?=O (O (.deep .dic (.dict kvs))))(h2:VZ (.dict kvs) y=O d):Wr j g Z=.ok d Z1:=by unfold Wr;rw[q0];dsimp only;rw[h];dsimp only;rw[q1];dsimp only;rw[h2]
theorem Pd{j:Nat}{b t:Bool}{g:M D}{Z Z1:UU}{y:D}{kvs:List (D×D)}(h:g Z=.ok y Z1)(q1:Z1[j]?=O (O (.deep .dic (.dict kvs))))(h2:ZU y (.dict kvs)=O t):Y7 b j g Z=.ok (t==b) Z1:=by unfold Y7;rw[h];dsimp only;rw[q1];dsimp only;rw[h2]
end
end DL
namespace L2
open PySem PySem.Spec PyProof.Rows PySem.Calls PyProof.V
end L2
namespace DL
open PySem PySem.Spec L2
open PyProof.Rows hiding St
noncomputable def tgN:Uz->List Str
 |.Name x _=>[x]
 |.Tuple [.Name x _] _ _=>[x]
 |.Tuple [.Name x _,.Name y _] _ _=>[x,y]
 |.Tuple [.Name x _,.Name y _,.Name z _] _ _=>[x,y,z]
 |.Tuple [.Name x _,.Name y _,.Name z _,.Name u _] _ _=>[x,y,z,u]
 |_=>[]
noncomputable def adN(vs:List Str):List Str->List Str
 |[]=>vs
 |x::r=>adN (if vs.elem x then vs else vs++[x]) r
noncomputable def TR(vs:List Str):List Comprehension->List Str
 |[]=>vs
 |⟨tg,_,_,_⟩::r=>TR (adN vs (tgN tg)) r
noncomputable def dotN(x:Str):Str:=("." : Str)++x
noncomputable def blN(N:List Str)(gs:List Comprehension):List Str:=N.map (λx=>if(TR [] gs).elem x then dotN x else x)++TR [] gs
noncomputable def glN(sc:Scope):List Str:=sc.names.filterMap λy=>match y.2 with | .globalImplicit=>O y.1|_=>w9
abbrev NmF(s:Stmt)(N:List Str):Prop:=FnNm (ZM s) N (glN (ZM s))
theorem mq{α:Type}{l:List α}{x:α}(n:Nat)(h:l[n]?=O x):x∈l:=Qv h
section
variable{sc:Scope}{N gl:List Str}{x:Str}
theorem gA(H:FnNm sc N gl)(h:gl.elem x=ya):sc.names.lookup x=O .globalImplicit:=H.gl x (by simpa using h)
end
section
variable{X:Cx}{B G0:Hp}{KX:XW}{e e1 e2 o a b c i:Uz}{gl:List Str}{pos p2:Pos}{x:Str}{j:Nat}
theorem DA(H:FnNm X.env.scope X.N gl)(hi:X.N[j]?=O x:=by rfl)(hf:X.fn x=ya∨X.env.scope.names.lookup x=O .local:=by first|exact .inl rfl|exact .inr rfl|assumption):PG X (.Name x pos) (tG X.K B G0 (gN j)):=Xj (Xk H.nd hi (lq H j hi) hf)
theorem DV{N':List Str}{scope:Scope}{cl:List (Str×Ux)}{C:Ux}{s₀:Uv}{H₀:Hp}{ex:yh}(hN:N'.Nodup:=by decide +kernel)(hi:N'[j]?=O x:=by rfl)(hl:locK (scope.names.lookup x)=ya:=by rfl):PG (X.blk N' scope cl C s₀ H₀ ex) (.Name x pos) (tG X.K B G0 (gN j)):=Xj (Xk hN hi (WG hl).1 (WG hl).2)
theorem aSet{f:M D}(H:FnNm X.env.scope X.N gl)(he:PE X e (tD X.K B G0 f))(hi:X.N[j]?=O x:=by rfl)(hs:swapsWith e (O (.Name x p2)) pos.line X.env=pure yb:=by rfl)
  (hf:X.fn x=ya∨X.env.scope.names.lookup x=O .local:=by first|exact .inl rfl|exact .inr rfl|assumption):PS X (.Assign [.Name x p2] e pos) (tS X.K B G0 KX (Kc j f)):=Np H.nd hi (lq H j hi) he hs hf
theorem MS{f:M yc}(H:FnNm X.env.scope X.N gl)(he:PE X e (tL X.K B G0 f))(hi:X.N[j]?=O x:=by rfl)(hs:swapsWith e (O (.Name x p2)) pos.line X.env=pure yb:=by rfl)
  (hf:X.fn x=ya∨X.env.scope.names.lookup x=O .local:=by first|exact .inl rfl|exact .inr rfl|assumption):PS X (.Assign [.Name x p2] e pos) (tS X.K B G0 KX (Zf j f)):=Ow H.nd hi (lq H j hi) he hs hf
theorem Dy{f:M D}{pt:Pat}(H:FnNm X.env.scope X.N gl)(he:PE X e (tT X.K B G0 pt f))(hi:X.N[j]?=O x:=by rfl)(hs:swapsWith e (O (.Name x p2)) pos.line X.env=pure yb:=by rfl)
  (hf:X.fn x=ya∨X.env.scope.names.lookup x=O .local:=by first|exact .inl rfl|exact .inr rfl|assumption):PS X (.Assign [.Name x p2] e pos) (tS X.K B G0 KX (Tn j pt f)):=HD H.nd hi (lq H j hi) he hs hf
theorem aAug{op:Operator}{p:Int->Int->ye}{f:M D}{pos':Pos}(H:FnNm X.env.scope X.N gl)(ho:IpD X op p)(he:PE X e (tD X.K B G0 f))(hi:X.N[j]?=O x:=by rfl)(hf:X.fn x=ya∨X.env.scope.names.lookup x=O .local:=by first|exact .inl rfl|exact .inr rfl|assumption):PS X (.AugAssign (.Name x pos') op e pos) (tS X.K B G0 KX (XT p j f)):=D3 H.nd hi (lq H j hi) ho he hf
theorem Dx{l:Bool}{tg elt iter:Uz}{ifs:yg}{gs:List Comprehension}{scope:Scope}{f:M yc}{s:D->UU->yk}{t:M Bool}{rd:RdB}{F:M yc}{k:Nat}{SC:Scope}{N1:List Str}(H:FnNm SC N1 gl)(le:∀Z es Z',F Z=.ok es Z'->dCG l f k s t rd Z=.ok es Z')(hc:X.calm=ya)
  (hi:PI X tg iter (iD X.K B G0 f)) (yt:Yk X (blN N1 (⟨tg,iter,ifs,0⟩::gs)) scope (.ListComp elt (⟨tg,iter,ifs,0⟩::gs) scope pos) tg ifs s t rd) (hb:WE VU SC scope N1 (blN N1 (⟨tg,iter,ifs,0⟩::gs)) k=ya) (h1:X.env.scope=SC:=by rfl) (h2:X.N=N1:=by rfl) (hs:∀x,US iter X.env x=pure x:=by intro _;rfl) :
  PE X (.ListComp elt (⟨tg,iter,ifs,0⟩::gs) scope pos) (tL X.K B G0 F):=O2 _ _ _ k le hc hi yt h1 h2 hb hs
theorem Dw{l:Bool}{y:Str}{py spos:Pos}{tg elt iter:Uz}{ifs:yg}{gs:List Comprehension}{scope:Scope}{f:M yc}{s:D->UU->yk}{t:M Bool}{rd:RdB}{F:M yc}{k:Nat}{SC:Scope}{N1:List Str}(H:FnNm SC N1 gl)(le:∀Z es Z',F Z=.ok es Z'->dCG l f k s t rd Z=.ok es Z')(hc:X.calm=ya)
  (hi:PI X tg iter (iD X.K B G0 f)) (yt:Yk X (blN N1 (⟨tg,iter,ifs,0⟩::gs)) scope (.ListComp elt (⟨tg,iter,ifs,0⟩::gs) scope pos) tg ifs s t rd) (hb:WE VU SC scope N1 (blN N1 (⟨tg,iter,ifs,0⟩::gs)) k=ya) (hj:N1[j]?=O y:=by rfl) (hy:SC.names.lookup y=O .local:=by rfl) (h1:X.env.scope=SC:=by rfl) (h2:X.N=N1:=by rfl) (hs:∀x,US iter X.env x=pure x:=by intro _;rfl)
  (hsw:swapsWith (.ListComp elt (⟨tg,iter,ifs,0⟩::gs) scope pos) (O (.Name y py)) spos.line X.env=pure ya:=by rfl) :
  PS X (.Assign [.Name y py] (.ListComp elt (⟨tg,iter,ifs,0⟩::gs) scope pos) spos) (tS X.K B G0 KX (Zf j F)):=sD_1 _ _ _ k le (h2 ▸ H.nd) (h2 ▸ hj) (h1 ▸ hy) hc hi yt h1 h2 hb hs hsw
theorem DU{l:Bool}{scope0:Scope}{cl:List (Str×Ux)}{C:Ux}{s₀:Uv}{H₀:Hp}{ex:yh}{N2:List Str}{tg elt iter:Uz}{ifs:yg}{gs:List Comprehension}{scope:Scope}{f:M yc}{s:D->UU->yk}{t:M Bool}{rd:RdB}{F:M yc}{k:Nat}(le:∀Z es Z',F Z=.ok es Z'->dCG l f k s t rd Z=.ok es Z')(hc:X.calm=ya)
  (hi:PI (X.blk N2 scope0 cl C s₀ H₀ ex) tg iter (iD X.K B G0 f)) (yt:Yk (X.blk N2 scope0 cl C s₀ H₀ ex) (blN N2 (⟨tg,iter,ifs,0⟩::gs)) scope (.ListComp elt (⟨tg,iter,ifs,0⟩::gs) scope pos) tg ifs s t rd) (hb:WE VU scope0 scope N2 (blN N2 (⟨tg,iter,ifs,0⟩::gs)) k=ya) (hs:∀x,US iter (X.blk N2 scope0 cl C s₀ H₀ ex).env x=pure x:=by intro _;rfl) :
  PE (X.blk N2 scope0 cl C s₀ H₀ ex) (.ListComp elt (⟨tg,iter,ifs,0⟩::gs) scope pos) (tL X.K B G0 F):=BB _ k le hc hi yt hb hs
end
end DL
namespace DL
open PySem PySem.Spec L2
open PyProof.Rows hiding St
open Builtin Builtin.Str
end DL
namespace DL
open PySem PySem.Spec L2
open PyProof.Rows hiding St
end DL
namespace DL
open PySem PySem.Spec L2
open PyProof.Rows hiding St
open PySem.SeqRoads2 PySem.SeqAt
end DL
namespace DL
open PySem PySem.Spec L2
open PyProof.Rows hiding St
end DL
namespace L2
open PySem PySem.Spec PyProof.Rows
end L2
namespace DL
open PySem PySem.Spec L2
open PyProof.Rows hiding St
end DL
namespace DL
open PySem PySem.Spec L2
open PyProof.Rows hiding St
open PySem.SeqRoads2 PySem.SeqAt
end DL
namespace DL
open PySem PySem.Spec L2
open PyProof.Rows hiding St
section
variable{X:Cx}{B G0:Hp}{KX:XW}{e e':Uz}{es es':yg}{st st':Stmt}{sts zE:List Stmt}{pos p2:Pos}{x:Str}{j:Nat}{gl:List Str}
theorem qg{g h:SM}(q:st::sts=zE)(h1:PS X st (tS X.K B G0 KX g))(h2:PSs X sts (tS X.K B G0 KX h)):PSs X zE (tS X.K B G0 KX (UZ g h)):=q ▸ Xb h1 h2
theorem DT{f:M yc}(q:Stmt.Assign [.Name x p2] e pos=st')(H:FnNm X.env.scope X.N gl)(he:PE X e (tL X.K B G0 f))(hi:X.N[j]?=O x:=by rfl)(hs:swapsWith e (O (.Name x p2)) pos.line X.env=pure yb:=by rfl)
  (hf:X.fn x=ya∨X.env.scope.names.lookup x=O .local:=by first|exact .inl rfl|exact .inr rfl|assumption):PS X st' (tS X.K B G0 KX (Zf j f)):=q ▸ MS H he hi hs hf
theorem qf{f:M yc}(q:Expr.List es pos=e')(h:PA X es (tDs X.K B G0 f)):PE X e' (tL X.K B G0 (Ki f λxs=>if xs.length<=1000000 then U1 xs else λ_=>.bad)):=q ▸ Ov h
theorem kZ{f:M D}{g:M yc}(q:e::es=es')(ha:PE X e (tD X.K B G0 f))(hr:PA X es (tDs X.K B G0 g))(hs:UC (e::es) X.env=(yb,eval e X.env)::UC es X.env:=by rfl):PA X es' (tDs X.K B G0 (UX f g)):=q ▸ ZY ha hr hs
end
theorem EOk.publishD{K:Frag}{B G0 G H:Hp}{σ:St}{Z:UU}{i:Nat}{d:D}(k:EOk K B G0 G H σ Z)(h:Z[i]?=O (O (.deep .dic d))) :
  ∃a G',σ[i]?=O (O (.ref a))/\Same G G'/\Rep K G' (.ref a) d/\EOk K B G0 G' H σ (Z.set i (O (.pub d))):=by
 obtain⟨ω,k1,k2⟩:=k.dp;obtain⟨v,fp,h1,r,nd,w⟩:=k1 i _ _ h;have hl:i<Z.length:=(Qg.mp h).1;cases r with
 |@dic a ks vs ds kvs e hl' hH hr=>
 obtain⟨h2,h3,hω⟩:=w a Qi;have sg:Same G (upd G a (.dK (ks.zip vs))):=ZJ h3
 have rr:Rep K (upd G a (.dK (ks.zip vs))) (.ref a) (.dict kvs):=by
  cases ks with
  |nil=>
   have e:kvs=[]:=by rw[e];rfl
   subst e;exact .dic Zd
  |cons q ks=>exact .dct e (by simp) hl' Zd (hr.mono sg)
 have nz:∀{m:Nat}{s:Sl},(Z.set i (O (Sl.pub (.dict kvs))))[m]?=O (O s)->(i=m/\s=.pub (.dict kvs))∨(i≠m/\Z[m]?=O (O s)):=λ{m s} q=>by
  by_cases z:i=m
  .subst z
   rw[QL hl]at q;cases q;exact .inl ⟨rfl,rfl⟩
  .rw[Qr z]at q;exact .inr ⟨z,q⟩
 refine⟨a,upd G a (.dK (ks.zip vs)),h1,sg,rr,⟨k.bh,λb u q=>?_,k.g0.trans sg,λb o q n=>?_,by rw[Jc];exact k.len,λj d q=>?_,λj es q=>?_,λj l c es fs q1 q2 s1 s2=>?_,?_⟩⟩
 .by_cases z:b=a
  .subst z;rw[Zd]at q;cases q;exact hH
  .rw[KF z]at q;exact k.gh b u q
 .have z:b≠a:=λz=>by subst z;rw[h2]at q;cases q
  rw[KF z];exact k.np b o q n
 .rcases nz q with ⟨rfl,e⟩|⟨_,q⟩
  .cases e
   exact⟨.ref a,h1,rr⟩
  .obtain⟨v,g1,g2⟩:=k.pub j d q
   exact⟨v,g1,g2.mono sg⟩
 .rcases nz q with ⟨_,e⟩|⟨zi,q⟩
  .cases e
  .obtain⟨b,ws,g1,g2,g3,g4,g5⟩:=k.own j es q
   have zb:b≠a:=λe=>zi (by rw[←hω,←e];exact k2 j es b q g1)
   exact⟨b,ws,g1,g2,by rw[KF zb];exact g3,g4,g5.mono sg⟩
 .rcases nz q1 with ⟨_,e⟩|⟨_,q1⟩
  .cases e
  .rcases nz q2 with ⟨_,e⟩|⟨_,q2⟩
   .cases e
   .exact k.sep j l c es fs q1 q2 s1 s2
 .refine⟨ω,λm p d q=>?_,λm es b q s=>?_⟩
  .rcases nz q with ⟨_,e⟩|⟨zi,q⟩
   .cases e
   .obtain⟨v,fp,s,r,n,w2⟩:=k1 m p d q
    exact⟨v,fp,s,r.mono sg (.refl _),n,λb mb=>⟨(w2 b mb).1,by rw[KF (λz=>zi (by rw[←hω,←z];exact(w2 b mb).2.2))];exact(w2 b mb).2.1,(w2 b mb).2.2⟩⟩
  .rcases nz q with ⟨_,e⟩|⟨_,q⟩
   .cases e
   .exact k2 m es b q s
noncomputable def RP(i:Nat):M D:=λZ=>match Z[i]? with
 |some (O (.deep .dic d))=>.ok d (Z.set i (O (.pub d)))
 |_=>.bad
section
variable{X:Cx}{B G0:Hp}{e:Uz}
theorem Af{i:Nat}(h:PE X e (Za i)):PE X e (tD X.K B G0 (RP i)):=Kt h λσ H Q ⟨G,Z,k,a⟩=>by
 unfold RP at a;split at a
 .rename_i d q
  obtain⟨ad,G',h1,h2,h3,h4⟩:=k.publishD q;exact⟨.ref ad,h1,a (.ref ad) G' H h4 h2 h3⟩
 .exact a.elim
theorem Ae{i:Nat}{Z Z':UU}{d:D}(h:Z[i]?=O (O (.deep .dic d)))(h2:Z.set i (O (.pub d))=Z'):RP i Z=.ok d Z':=by unfold RP;rw[h];subst h2;rfl
end
section
variable{X:Cx}{B G0:Hp}{KX:XW}{a b e e':Uz}{es es':yg}{st st':Stmt}{sts zE:List Stmt}{pos p2:Pos}{x:Str}{j:Nat}{gl:List Str}
theorem Dv{f:M D}(q:Stmt.Assign [.Name x p2] e pos=st')(H:FnNm X.env.scope X.N gl)(he:PE X e (tD X.K B G0 f))(hi:X.N[j]?=O x:=by rfl)(hs:swapsWith e (O (.Name x p2)) pos.line X.env=pure yb:=by rfl)
  (hf:X.fn x=ya∨X.env.scope.names.lookup x=O .local:=by first|exact .inl rfl|exact .inr rfl|assumption):PS X st' (tS X.K B G0 KX (Kc j f)):=q ▸ aSet H he hi hs hf
theorem jc{f:M yc}(q:Expr.List es pos=e')(h:PA X es (tDs X.K B G0 f)):PE X e' (tD X.K B G0 (Kw f)):=q ▸ RA h
theorem jb{x1}{f:M yc}(q:Expr.Tuple es x1 pos=e')(h:PA X es (tDs X.K B G0 f)):PE X e' (tD X.K B G0 (KM f)):=q ▸ Ox h
theorem Lp{op:Operator}{p:D->D->ye}{f g:M D}(o:OpD X (binaryOp op) p)(q:Expr.BinOp a op b pos=e')(ha:PE X a (tD X.K B G0 f))(hb:PE X b (tD X.K B G0 g)):PE X e' (tD X.K B G0 (UY p f g)):=q ▸ V1 o ha hb
end
structure O6(K:Frag)(B G H:Hp)(σ:St)(Z:UU)(pts:List Pat)(vs:List V)(ds:yc)(fp:yh):Prop where
 r:RepOs K G H pts vs ds fp
 nd:fp.Nodup
 b:∀a∈fp,B a=w9/\G a=w9
 f:∀a∈fp,∀(j:Nat) es,Z[j]?=O (O (.own es))->σ[j]?≠O (O (.ref a))
 dp:∀a∈fp,∀(j:Nat) p d v fp',Z[j]?=O (O (.deep p d))->σ[j]?=O (O v)->RepO K G H p v d fp'->a∉fp'
noncomputable def tTs(K:Frag)(B G0:Hp)(pts:List Pat)(f:M yc):TA:=λσ H Q=>∃G Z,EOk K B G0 G H σ Z/\match f Z with
 |.ok ds Z'=>∀vs fp G' H',EOk K B G0 G' H' σ Z'->Same G G'->O6 K B G' H' σ Z' pts vs ds fp->Q vs H'
 |.bad=>False
noncomputable def Ro(f:M D)(g:M yc):M yc:=λZ=>match f Z with
 |.ok d Z1=>(match g (Ks Z1)with
  |.ok ds _=>.ok (d::ds) Z1
  |.bad=>.bad)
 |.bad=>.bad
section
variable{X:Cx}{B G0:Hp}{KX:XW}{e:Uz}{es:yg}{pos:Pos}{p:Pat}{pts:List Pat}
theorem Ad:PA X [] (tTs X.K B G0 [] UV):=λpos pins s σ H Q I ⟨G,Z,k,a⟩=>V7 pos pins s σ H Q I (a [] [] G H k (.refl _) ⟨.nil,List.nodup_nil,λa m=>(by cases m),λa m=>(by cases m),λa m=>(by cases m)⟩)
theorem GQ{f:M D}{g:M yc}(h1:PE X e (tT X.K B G0 p f))(h2:∀B' G',PA X es (tTs X.K B' G' pts g))(hs:UC (e::es) X.env=(yb,eval e X.env)::UC es X.env:=by rfl):PA X (e::es) (tTs X.K B G0 (p::pts) (Ro f g)):=by
 have h2':PA X es (λσ H Q=>∃B' G',tTs X.K B' G' pts g σ H Q):=λpos pins s σ H Q I ⟨B',G',q⟩=>h2 B' G' pos pins s σ H Q I q;intro pos pins s σ H Q I ⟨G,Z,k,a⟩;refine WQ h1 h2' hs pos pins s σ H Q I ⟨G,Z,k,?_⟩;unfold Ro at a
 cases z:f Z with
 |bad=>rw[z]at a;exact a.elim
 |ok d Z1=>
 rw[z]at a;dsimp only at a;intro v fp G1 H1 k1 s1 n1;refine⟨H1,G1,G1,Ks Z1,k1.rebase,?_⟩;cases z2:g (Ks Z1)with
 |bad=>rw[z2]at a;exact a.elim
 |ok ds Z2=>
 rw[z2]at a;dsimp only at a⊢;intro vs fp2 G2 H2 k2 s2 n2;have ex:=k2.exit;refine a (v::vs) (fp++fp2) G2 H2 (k1.ext ex) (s1.trans s2) ⟨.cons (n1.r.mono ex.g ex.h) n2.r,?_,λb m=>?_,λb m j es' q w=>?_,λb m j p' d' v' fp' q w r=>?_⟩
 .refine Jh.mpr ⟨n1.nd,n2.nd,λx hx y hy z=>?_⟩
  subst z;obtain⟨u,hu⟩:=n1.r.isl x hx;rw[(n2.b x hy).1]at hu;cases hu
 .rcases QC.mp m with m|m
  .obtain⟨u,hu⟩:=n1.r.isl b m
   exact⟨(n1.b b m).1,ex.np b u hu (n1.b b m).2⟩
  .exact⟨k1.bh.free (n2.b b m).1,(n2.b b m).2⟩
 .rcases QC.mp m with m|m
  .exact n1.f b m j es' q w
  .obtain⟨c,us,g1,g2,g3,g4,g5⟩:=k1.own j es' q
   rw[g1]at w;cases w;rw[(n2.b b m).1]at g4;cases g4
 .rcases QC.mp m with m|m
  .obtain⟨ω,d1,d2⟩:=k1.dp
   obtain⟨v0,f0,w0,r0,_,_⟩:=d1 j p' d' q;rw[w]at w0;cases w0;rw[←r0.uniq ex.h r];exact n1.dp b m j p' d' v' f0 q w r0
  .exact k1.freshD ex.h (n2.b b m).1 q w r
theorem RepOs.length{K:Frag}{G H:Hp}:∀{ps:List Pat}{vs:List V}{ds:yc}{fp:yh},RepOs K G H ps vs ds fp->vs.length=ds.length
 |_,_,_,_,.nil=>rfl
 |_,_,_,_,.cons _ t=>by rw[Qz,Qz,RepOs.length t]
theorem RepOs.same{K:Frag}{G H:Hp}{p:Pat}:∀{ps:List Pat}{vs:List V}{ds:yc}{fp:yh},(∀q∈ps,q=p)->RepOs K G H ps vs ds fp->RepOl K G H p vs ds fp
 |_,_,_,_,_,.nil=>.nil
 |_,_,_,_,h,.cons r t=>by have:=h _ Qi;subst this;exact .cons r (RepOs.same (λq hq=>h q (Qh _ hq)) t)
theorem O6.hid{K:Frag}{G H:Hp}{σ:St}{Z:UU}{vs:List V}{ds:yc}{fp:yh}{a:Ux}{o:HO}(k:EOk K B G0 G H σ Z)(n:O6 K B G H σ Z pts vs ds fp)(ha:H a=w9):EOk K B G0 G (upd H a o) σ Z/\RepOs K G (upd H a o) pts vs ds fp/\a∉fp/\(∀b∈fp,∀(j:Nat) p d v fp',Z[j]?=O (O (.deep p d))->σ[j]?=O (O v)->RepO K G (upd H a o) p v d fp'->b∉fp'):=by
 have sh:Same H (upd H a o):=ZJ ha;refine⟨k.ext (Ext.hid k.gh ha),n.r.mono (.refl _) sh,λm=>?_,λb m j p d v fp' q w r=>?_⟩
 .obtain⟨u,hu⟩:=n.r.isl a m
  rw[ha]at hu;cases hu
 .obtain⟨ω,d1,d2⟩:=k.dp
  obtain⟨v0,f0,w0,r0,_,_⟩:=d1 j p d q;rw[w]at w0;cases w0;rw[←r0.uniq sh r];exact n.dp b m j p d v f0 q w r0
theorem ja{f:M yc}(h:PA X es (tTs X.K B G0 pts f))(hp:∀q∈pts,q=p):PE X (.List es pos) (tT X.K B G0 (.lst p) (Ki f λxs=>if xs.length<=1000000 then U1 (.list xs)else λ_=>.bad)):=Kt (Nn h) λσ H Q ⟨G,Z,k,a⟩=>by
 refine⟨G,Z,k,?_⟩;unfold Ki at a;cases z:f Z with
 |bad=>rw[z]at a;exact a.elim
 |ok ds Z1=>
 rw[z]at a;dsimp only at a;intro vs fp G' H' k' s' n;by_cases c:ds.length<=1000000
 .rw[Qo c]at a
  refine⟨by rw[n.r.length];exact QJ c lim,λad zO=>?_⟩;obtain⟨k2,r2,n2,dp2⟩:=n.hid k' zO (o:=.lst vs);refine a (.ref ad) (ad::fp) G' _ k2 s' ⟨.lst Zd (r2.same hp),Jw.mpr ⟨n2,n.nd⟩,λb m=>?_,λb m=>?_,λb m=>?_⟩
  .rcases Qw.mp m with rfl|m
   .exact⟨k'.bh.free zO,k'.gh.free zO⟩
   .exact n.b b m
  .rcases Qw.mp m with rfl|m
   .exact(NewL.of k' zO (vs:=[]) (ds:=[]) .nil).f
   .exact n.f b m
  .rcases Qw.mp m with rfl|m
   .exact λj p d v fp' q w r=>k'.freshD (ZJ zO) zO q w r
   .exact dp2 b m
 .rw[QB c]at a;exact a.elim
end
section
variable{f:M D}{g:M yc}{Z Z1 Z2:UU}{d:D}{ds:yc}
theorem GP(h1:f Z=.ok d Z1)(h2:g (Ks Z1)=.ok ds Z2):Ro f g Z=.ok (d::ds) Z1:=by unfold Ro;rw[h1];dsimp only;rw[h2]
theorem q9{c:yc->D}(h1:g Z=.ok ds Z1)(h2:ds.length<=1000000):(Ki g λxs=>if xs.length<=1000000 then U1 (c xs)else λ_=>.bad) Z=.ok (c ds) Z1:=K3 h1 (by rw[Qo h2];rfl)
end
end DL
namespace W
open PySem PySem.Spec L2 DL
open PyProof.Rows hiding St
noncomputable def top(i:Nat):Stmt:=PySem.Challenge.pw_wishdeal_k59_served_and_full.main.body.getD i (.Pass ⟨0,0,0,0⟩)
abbrev GG(s:Stmt)(x:Str):Prop:=(ZM s).names.lookup x=O NameKind.globalImplicit
abbrev VV(s:Stmt)(x:Str):Prop:=L2.Vis (ZM s) x
abbrev LL(s:Stmt)(x:Str):Prop:=L2.Loc (ZM s) x
theorem vk{s:Stmt}{x:Str}(h:(ZM s).names.lookup x=O .local∨(ZM s).names.lookup x=O .cell∨(ZM s).names.lookup x=O .free):VV s x:=h
theorem lk{s:Stmt}{x:Str}(h:(ZM s).names.lookup x=O .local∨(ZM s).names.lookup x=O .cell):LL s x:=h
structure Txt(K:Frag)(mg:Str->yj):Prop where
 b_all:mg "all" = w9
 b_bool:mg "bool" = w9
 b_enumerate:mg "enumerate" = w9
 b_int:mg "int" = w9
 b_isinstance:mg "isinstance" = w9
 b_len:mg "len" = w9
 b_list:mg "list" = w9
 b_max:mg "max" = w9
 b_range:mg "range" = w9
 b_repr:mg "repr" = w9
 b_set:mg "set" = w9
 b_sorted:mg "sorted" = w9
 b_str:mg "str" = w9
 b_sum:mg "sum" = w9
 b_tuple:mg "tuple" = w9
 b_zip:mg "zip" = w9
 c_MOST_ASKERS:∃t,mg "MOST_ASKERS" = O (Value.int 7 t)
 c_MOST_COPIES:∃t,mg "MOST_COPIES" = O (Value.int 7 t)
 c_MOST_RANKS:∃t,mg "MOST_RANKS" = O (Value.int 5 t)
 c_MOST_THINGS:∃t,mg "MOST_THINGS" = O (Value.int 6 t)
 c_ORDERS:∃ad o its n,mg "ORDERS" = O (.ref ad)/\K.lookup ad=O o/\o.cls=.type "tuple" /\ o.data=.seq its n/\its.size<=UA/\Vals ((["firsts", "full", "lasts"]:List Str).map V.str) its.toList
 sm:SmK K
noncomputable abbrev Sbs:Stmt:=top 64
noncomputable abbrev N_bs:List Str:=["_law_script", "_law_k"]
theorem Hbs:NmF Sbs N_bs:=KN (by decide +kernel)
noncomputable def W3:SM:=
 UZ (sIf (Zl (oIB λi j=>decide (i<j)) 1 (Zu 0))
 (Kf (U6 0 (UT 1)))
 (sNx))
 (Kf (U1 (.int 0)))
noncomputable def Xs:yc->ye:=Kj N_bs W3
noncomputable abbrev Sbe:Stmt:=top 47
noncomputable abbrev N_be:List Str:=["nothing", "steps", "begin", "number", "step", "way", "ahead", "behind", "gain", "asker"]
theorem Hbe:NmF Sbe N_be:=KN (by decide +kernel)
noncomputable def HS:SM:=
 sIf (Kb (λd=>!isNon d) (UT 9))
 (Zy 5 (KM (UX (UT 9) (UX (mIf (Zl oEq 7 (UT 0)) (U1 .none) (UT 7)) (UV)))))
 (sNx)
noncomputable def HR:SM:=
 sIf (UY oEq (U6 4 (U1 (.int 0))) (UT 0))
 (Kc 2 (UT 3))
 (sNx)
noncomputable def Sk:SM:=
 UZ (Kc 2 (U1 (.int 0)))
 (UZ (Kx (YY (UX (UT 1) (UV))) (gT 2 (gNC (gN 3) (gNC (gN 4) (gN0)))) HR)
 (UZ (Zf 5 (Ki (UV) λxs=>if xs.length<=1000000 then U1 xs else λ_=>.bad))
 (UZ (Kx (KW (UY U9 (Yi (UT 1) (Ki (UT 2) λx=>Kk (YS x)) (U1 w9)) (Yi (UT 1) (U1 w9) (Ki (UT 2) λx=>Kk (YS x))))) (gT 4 (gNC (gN 6) (gNC (gN 7) (gNC (gN 8) (gNC (gN 9) (gN0)))))) HS)
 (Kf (UT 5)))))
noncomputable def Xu:yc->ye:=Kj N_be Sk
noncomputable abbrev Saw:Stmt:=top 38
noncomputable abbrev N_aw:List Str:=["dealing", "way", "told", "asker", "taken"]
theorem Haw:NmF Saw N_aw:=KN (by decide +kernel)
noncomputable def HQ:SM:=
 Tq 2 (UT 3) (UT 4)
noncomputable def Sv:SM:=
 UZ (Zf 2 (Tu 0))
 (UZ (Kx (KW (UT 1)) (gT 2 (gNC (gN 3) (gNC (gN 4) (gN0)))) HQ)
 (Kf (UT 2)))
noncomputable def X3:yc->ye:=Kj N_aw Sv
noncomputable abbrev Sbo:Stmt:=top 58
noncomputable abbrev N_bo:List Str:=["dealing", "steps", "roads", "nothing", "told", "step", "ahead", "behind", "gain", "asker", "is_left", "shown"]
theorem Hbo:NmF Sbo N_bo:=KN (by decide +kernel)
noncomputable def HP:SM:=
 UZ (Zx (UT 5) (gT 4 (gNC (gN 6) (gNC (gN 7) (gNC (gN 8) (gNC (gN 9) (gN0)))))))
 (UZ (Kc 10 (Tk (Kb (λd=>.bool (isNon d)) (UT 9)) (Kb UH (Zl oEq 7 (UT 3)))))
 (sIf (Zr (Zl ZU 6 (U6 2 (UT 7))) (K6 (Yt (UT 10))))
 (UZ (Kc 11 (Ka 2 X3 (UX (UT 0) (UX (Ka 2 Xu (UX (UT 3) (UX (UY U9 (Kw (UX (UT 5) (UV))) (UY VZ (U6 2 (UT 7)) (UT 6))) (UV)))) (UV)))))
 (sIf (To Xo (UT 11) 4)
 (Zy 4 (UT 11))
 (sNx)))
 (sNx)))
noncomputable def T8:SM:=
 UZ (Kc 3 (UY KY (Zu 2) (U1 (.int 1))))
 (UZ (Zf 4 (Ki (UX (Kb UG (Tu 0)) (UV)) λxs=>if xs.length<=1000000 then U1 xs else λ_=>.bad))
 (UZ (Kx (KW (UT 1)) (gN 5) HP)
 (Kf (UT 4))))
noncomputable def Wt:yc->ye:=Kj N_bo T8
noncomputable abbrev Sbi:Stmt:=top 51
noncomputable abbrev N_bi:List Str:=["askers", "worths", "prices", "asks", "asker", "thing", "worth"]
theorem Hbi:NmF Sbi N_bi:=KN (by decide +kernel)
noncomputable def HN:SM:=
 Tq 3 (UT 4) (Zo RU (UX (U6 3 (UT 4)) (UX (UY KY (UT 6) (U6 2 (UT 5))) (UV))))
noncomputable def Se:SM:=
 UZ (Zf 3 (Rg (Kw (UX (U1 (.int 0)) (UV))) (UT 0)))
 (UZ (Kx (KW (UT 1)) (gT 3 (gNC (gN 4) (gNC (gN 5) (gNC (gN 6) (gN0))))) HN)
 (Kf (UT 3)))
noncomputable def Vr:yc->ye:=Kj N_bi Se
noncomputable abbrev Sbm:Stmt:=top 56
noncomputable abbrev N_bm:List Str:=["prices", "roads", "times", "led_from"]
theorem Hbm:NmF Sbm N_bm:=KN (by decide +kernel)
noncomputable def Sa:SM:=
 UZ (Kc 2 (Zu 1))
 (UZ (Zf 3 (ZH (YR (UX (UT 2) (UV))) 1 (gN 4) (U1 ya) (Zo Kn (UX (Kb UG (ZH (KW (UT 1)) 1 (gN 5) (Zl ZU 4 (UT 5)) (UT 5))) (UV)))))
 (Kf (Kb UG (R6 (YY (UX (UT 0) (UV))) 2 (gT 2 (gNC (gN 4) (gNC (gN 5) (gN0)))) (U1 ya) (UY KY (UY U9 (UY Kv (UT 2) (UT 5)) (U6 3 (UT 4))) (U6 3 (Yj (U1 (.int 1)))))))))
noncomputable def Vn:yc->ye:=Kj N_bm Sa
noncomputable abbrev Sbn:Stmt:=top 57
noncomputable abbrev N_bn:List Str:=["askers", "worths", "prices", "roads", "times", "finer", "asks"]
theorem Hbn:NmF Sbn N_bn:=KN (by decide +kernel)
noncomputable def T9:SM:=
 UZ (Kc 4 (Zu 3))
 (UZ (Kc 5 (Ka 2 Vn (UX (UT 2) (UX (UT 3) (UV)))))
 (UZ (Kc 6 (Ka 3 Vr (UX (UT 0) (UX (Kb UG (ZH (KW (UT 1)) 3 (gT 3 (gNC (gN 7) (gNC (gN 8) (gNC (gN 9) (gN0))))) (U1 ya) (KM (UX (UT 7) (UX (UT 8) (UX (UY Kv (UT 4) (UT 9)) (UV))))))) (UX (UT 5) (UV))))))
 (Kf (KM (UX (UT 4) (UX (UT 6) (UX (UT 5) (UV))))))))
noncomputable def Vm:yc->ye:=Kj N_bn T9
noncomputable abbrev Sbk:Stmt:=top 54
noncomputable abbrev N_bk:List Str:=["place", "places", "steps", "told", "turn", "step"]
theorem Hbk:NmF Sbk N_bk:=KN (by decide +kernel)
noncomputable def HM:SM:=
 sIf (Zr (Y7 ya 3 (U6 5 (U1 (.int 0)))) (Y7 yb 3 (U6 5 (U1 (.int 1)))))
 (Pw 3 (U6 5 (U1 (.int 1))) (UY U9 (Wr 3 (U6 5 (U1 (.int 0)))) (Kw (UX (UT 5) (UV)))))
 (sNx)
noncomputable def HL:SM:=
 Kx (KW (UT 2)) (gN 5) HM
noncomputable def Sc:SM:=
 UZ (Tn 3 .dic (OZ [(UT 0,Kw (UV))]))
 (UZ (Kx (YR (UX (UT 1) (UV))) (gN 4) HL)
 (Kf (RP 3)))
noncomputable def Vp:yc->ye:=Kj N_bk Sc
noncomputable abbrev Sbl:Stmt:=top 55
noncomputable abbrev N_bl:List Str:=["places", "steps"]
theorem Hbl:NmF Sbl N_bl:=KN (by decide +kernel)
noncomputable def Sb:SM:=
 Kf (Kb UG (ZH (YR (UX (UT 0) (UV))) 1 (gN 2) (U1 ya) (Ka 3 Vp (UX (UT 2) (UX (UT 0) (UX (UT 1) (UV)))))))
noncomputable def Vo:yc->ye:=Kj N_bl Sb
noncomputable abbrev Sax:Stmt:=top 40
noncomputable abbrev N_ax:List Str:=["nothing", "got"]
theorem Hax:NmF Sax N_ax:=KN (by decide +kernel)
noncomputable def Su:SM:=
 Kf (mIf (Kb isNon (UT 1)) (UT 0) (UT 1))
noncomputable def Wv:yc->ye:=Kj N_ax Su
noncomputable abbrev Say:Stmt:=top 41
noncomputable abbrev SW:List Str:=["nothing", "worths", "dealing", "had", "asker", "thing", "worth", "told"]
theorem Hay:FnNm (ZM Say) SW ["place_of", "enumerate", "len"]:=KN (by decide +kernel)
noncomputable def HK:SM:=
 sIf (UY oNe (U6 2 (UT 4)) (UT 5))
 (Zy 7 (KM (UX (Ka 2 Wv (UX (UT 0) (UX (U6 2 (UT 4)) (UV)))) (UX (UT 5) (UX (UY KY (UT 6) (U6 3 (UT 4))) (UX (UT 4) (UV)))))))
 (sNx)
noncomputable def HJ:SM:=
 sIf (UY oEq (U6 2 (UT 4)) (UT 5))
 (Tq 3 (UT 4) (UT 6))
 (sNx)
noncomputable def Ss:SM:=
 UZ (Zf 3 (Rg (Kw (UX (U1 (.int 0)) (UV))) (Zu 2)))
 (UZ (Kx (KW (UT 1)) (gT 3 (gNC (gN 4) (gNC (gN 5) (gNC (gN 6) (gN0))))) HJ)
 (UZ (Zf 7 (WC (ZH (YY (UX (UT 2) (UV))) 2 (gT 2 (gNC (gN 8) (gNC (gN 9) (gN0)))) (Kb (λd=>!isNon d) (UT 9)) (KM (UX (UT 9) (UX (UT 0) (UX (Yj (U6 3 (UT 8))) (UX (UT 8) (UV)))))))))
 (UZ (Kx (KW (UT 1)) (gT 3 (gNC (gN 4) (gNC (gN 5) (gNC (gN 6) (gN0))))) HK)
 (Kf (UT 7)))))
noncomputable def Vx:yc->ye:=Kj SW Ss
noncomputable abbrev Saa:Stmt:=top 1
noncomputable abbrev N_aa:List Str:=["thing"]
theorem Haa:NmF Saa N_aa:=KN (by decide +kernel)
noncomputable def SU:SM:=
 Kf (Tk (Kb (λd=>.bool (Zh d "int")) (UT 0)) (PH (Kb (λd=>.bool (Zh d "bool")) (UT 0))))
noncomputable def VP:yc->ye:=Kj N_aa SU
noncomputable abbrev Sac:Stmt:=top 3
noncomputable abbrev N_ac:List Str:=["thing", "many"]
theorem Hac:NmF Sac N_ac:=KN (by decide +kernel)
noncomputable def SS:SM:=
 Kf (Tk (Ka 1 VP (UX (UT 0) (UV))) (Kb UH (Tv (oIB λi j=>decide (i<=j)) (oIB λi j=>decide (i<j)) (U1 (.int 0)) (UT 0) (UT 1))))
noncomputable def Z8:yc->ye:=Kj N_ac SS
noncomputable abbrev Sae:Stmt:=top 14
noncomputable abbrev N_ae:List Str:=["thing", "things"]
theorem Hae:NmF Sae N_ae:=KN (by decide +kernel)
noncomputable def SQ:SM:=
 UZ (sIf (mOr (K6 (Yt (Kb (λd=>.bool (Zh d "list")) (UT 0)))) (UY oEq (Zu 0) (U1 (.int 0))))
 (Kf (U1 (.bool yb)))
 (sNx))
 (Kf (Zo YL (UX (Kb UG (ZH (KW (UT 0)) 1 (gN 2) (U1 ya) (Ka 2 Z8 (UX (UT 2) (UX (UT 1) (UV)))))) (UV))))
noncomputable def Wx:yc->ye:=Kj N_ae SQ
noncomputable abbrev Saf:Stmt:=top 15
noncomputable abbrev N_af:List Str:=["thing", "things", "wished"]
theorem Haf:NmF Saf N_af:=KN (by decide +kernel)
noncomputable def SO:SM:=
 UZ (sIf (mOr (K6 (Yt (Kb (λd=>.bool (Zh d "list")) (UT 0)))) (UY (oIB λi j=>decide (j<i)) (Zu 0) (U1 (.int 5))))
 (Kf (U1 (.bool yb)))
 (sNx))
 (UZ (sIf (K6 (Yt (Zo YL (UX (Kb UG (ZH (KW (UT 0)) 1 (gN 3) (U1 ya) (Ka 2 Wx (UX (UT 3) (UX (UT 1) (UV)))))) (UV)))))
 (Kf (U1 (.bool yb)))
 (sNx))
 (UZ (Zf 2 (R5 (KW (UT 0)) 2 (gN 3) (U1 ya) (KW (UT 3)) (gN 4) (U1 ya) (UT 4)))
 (Kf (Kb UH (UY oEq (Zo WS (UX (UT 2) (UV))) (Zu 2))))))
noncomputable def VN:yc->ye:=Kj N_af SO
noncomputable abbrev Sag:Stmt:=top 16
noncomputable abbrev N_ag:List Str:=["lists", "things", "asker", "ranks"]
theorem Hag:NmF Sag N_ag:=KN (by decide +kernel)
noncomputable def Hf:SM:=
 sIf (K6 (Yt (Ka 2 VN (UX (UT 3) (UX (UT 1) (UV))))))
 (WF)
 (sNx)
noncomputable def SN:SM:=
 UZ (sIf (mOr (K6 (Yt (Kb (λd=>.bool (Zh d "list")) (UT 0)))) (K6 (Tv (oIB λi j=>decide (i<=j)) (oIB λi j=>decide (i<=j)) (U1 (.int 1)) (Zu 0) (U1 (.int 7)))))
 (WF)
 (sNx))
 (Kx (YY (UX (UT 0) (UV))) (gT 2 (gNC (gN 2) (gNC (gN 3) (gN0)))) Hf)
noncomputable def VM:yc->ye:=Kj N_ag SN
noncomputable abbrev Sad:Stmt:=top 13
noncomputable abbrev N_ad:List Str:=["copies", "number", "many"]
theorem Had:NmF Sad N_ad:=KN (by decide +kernel)
noncomputable def He:SM:=
 sIf (K6 (Yt (Ka 2 Z8 (UX (UT 2) (UX (UY U9 (U1 (.int 7)) (U1 (.int 1))) (UV))))))
 (WF)
 (sNx)
noncomputable def SR:SM:=
 UZ (sIf (mOr (K6 (Yt (Kb (λd=>.bool (Zh d "list")) (UT 0)))) (K6 (Tv (oIB λi j=>decide (i<=j)) (oIB λi j=>decide (i<=j)) (U1 (.int 1)) (Zu 0) (U1 (.int 6)))))
 (WF)
 (sNx))
 (Kx (YY (UX (UT 0) (UV))) (gT 2 (gNC (gN 1) (gNC (gN 2) (gN0)))) He)
noncomputable def VO:yc->ye:=Kj N_ad SR
noncomputable abbrev Sah:Stmt:=top 17
noncomputable abbrev N_ah:List Str:=["thing", "copies", "lists"]
theorem Hah:NmF Sah N_ah:=KN (by decide +kernel)
noncomputable def SL:SM:=
 UZ (sIf (mOr (K6 (Yt (Kb (λd=>.bool (Zh d "tuple")) (UT 0)))) (UY oNe (Zu 0) (U1 (.int 2))))
 (WF)
 (sNx))
 (UZ (Zx (UT 0) (gT 2 (gNC (gN 1) (gNC (gN 2) (gN0)))))
 (UZ (Wd (Ka 1 VO (UX (UT 1) (UV))))
 (Wd (Ka 2 VM (UX (UT 2) (UX (Zu 1) (UV)))))))
noncomputable def YD:yc->ye:=Kj N_ah SL
noncomputable abbrev Sal:Stmt:=top 22
noncomputable abbrev N_al:List Str:=["wishes", "dealing"]
theorem Hal:NmF Sal N_al:=KN (by decide +kernel)
noncomputable def SH:SM:=
 UZ (Wd (Ka 1 YD (UX (UT 0) (UV))))
 (Kf (Kb UG (ZH (YY (UX (U6 0 (U1 (.int 0))) (UV))) 2 (gT 2 (gNC (gN 2) (gNC (gN 3) (gN0)))) (U1 ya) (UY KY (UT 3) (V5 (UT 1) (UX (UT 2) (UV)))))))
noncomputable def VH:yc->ye:=Kj N_al SH
noncomputable abbrev Saz:Stmt:=top 42
noncomputable abbrev N_az:List Str:=["wishes", "dealing", "nothing", "left", "to_nothing"]
theorem Haz:NmF Saz N_az:=KN (by decide +kernel)
noncomputable def Sr:SM:=
 UZ (Kc 2 (Zo Kn (UX (U6 0 (U1 (.int 0))) (UV))))
 (UZ (Kc 3 (Ka 2 VH (UX (UT 0) (UX (UT 1) (UV)))))
 (UZ (Zf 4 (ZH (YY (UX (UT 3) (UV))) 2 (gT 2 (gNC (gN 5) (gNC (gN 6) (gN0)))) (Zl (oIB λi j=>decide (j<i)) 6 (U1 (.int 0))) (KM (UX (UT 5) (UX (UT 2) (UX (U1 (.int 0)) (UX (U1 .none) (UV))))))))
 (Kf (UY U9 (UT 4) (Kb UG (ZH (YR (UX (UT 2) (UV))) 1 (gN 5) (U1 ya) (KM (UX (UT 2) (UX (UT 5) (UX (U1 (.int 0)) (UX (U1 .none) (UV))))))))))))
noncomputable def Vw:yc->ye:=Kj N_az Sr
noncomputable abbrev Sba:Stmt:=top 43
noncomputable abbrev N_ba:List Str:=["wishes", "worths", "dealing"]
theorem Hba:NmF Sba N_ba:=KN (by decide +kernel)
noncomputable def Sq:SM:=
 Kf (UY U9 (Ka 3 Vx (UX (Zo Kn (UX (U6 0 (U1 (.int 0))) (UV))) (UX (UT 1) (UX (UT 2) (UV))))) (Ka 2 Vw (UX (UT 0) (UX (UT 2) (UV)))))
noncomputable def YC:yc->ye:=Kj N_ba Sq
noncomputable abbrev Sbj:Stmt:=top 53
noncomputable abbrev N_bj:List Str:=["steps", "prices", "paid"]
theorem Hbj:NmF Sbj N_bj:=KN (by decide +kernel)
noncomputable def Sd:SM:=
 UZ (Kc 2 (UY U9 (UT 1) (Kw (UX (U1 (.int 0)) (UV)))))
 (Kf (Kb UG (ZH (KW (UT 0)) 1 (gN 3) (UY oEq (UY U9 (U6 2 (U6 3 (U1 (.int 0)))) (U6 3 (U1 (.int 2)))) (U6 2 (U6 3 (U1 (.int 1))))) (UT 3))))
noncomputable def Vq:yc->ye:=Kj N_bj Sd
noncomputable abbrev Sbb:Stmt:=top 44
noncomputable abbrev N_bb:List Str:=["walks", "steps", "told", "step", "ahead", "behind", "gain", "asker", "gained", "walked"]
theorem Hbb:NmF Sbb N_bb:=KN (by decide +kernel)
noncomputable def Hd:SM:=
 UZ (Zx (UT 3) (gT 4 (gNC (gN 4) (gNC (gN 5) (gNC (gN 6) (gNC (gN 7) (gN0)))))))
 (UZ (Zx (U6 0 (UT 4)) (gT 2 (gNC (gN 8) (gNC (gN 9) (gN0)))))
 (sIf (UY (oIB λi j=>decide (j<i)) (UY U9 (UT 8) (UT 6)) (UY oIx (U6 2 (UT 5)) (U1 (.int 0))))
 (Tq 2 (UT 5) (KM (UX (UY U9 (UT 8) (UT 6)) (UX (UY U9 (UT 9) (Kw (UX (UT 3) (UV)))) (UV)))))
 (sNx)))
noncomputable def So:SM:=
 UZ (Zf 2 (Tu 0))
 (UZ (Kx (KW (UT 1)) (gN 3) Hd)
 (Kf (UT 2)))
noncomputable def Vv:yc->ye:=Kj N_bb So
noncomputable abbrev Sbc:Stmt:=top 45
noncomputable abbrev N_bc:List Str:=["places", "steps", "told", "turn"]
theorem Hbc:NmF Sbc N_bc:=KN (by decide +kernel)
noncomputable def Hc:SM:=
 Kc 2 (Ka 2 Vv (UX (UT 2) (UX (UT 1) (UV))))
noncomputable def Sn:SM:=
 UZ (Kc 2 (UY Kv (Kw (UX (KM (UX (U1 (.int 0)) (UX (Kw (UV)) (UV)))) (UV))) (UT 0)))
 (UZ (Kx (YR (UX (UT 0) (UV))) (gN 3) Hc)
 (Kf (UT 2)))
noncomputable def X2:yc->ye:=Kj N_bc Sn
noncomputable abbrev Sbh:Stmt:=top 50
noncomputable abbrev N_bh:List Str:=["wishes", "worths", "dealing", "nothing", "walks"]
theorem Hbh:NmF Sbh N_bh:=KN (by decide +kernel)
noncomputable def Sf:SM:=
 UZ (Kc 3 (Zo Kn (UX (U6 0 (U1 (.int 0))) (UV))))
 (UZ (Kc 4 (Ka 2 X2 (UX (UY U9 (UT 3) (U1 (.int 1))) (UX (Ka 3 YC (UX (UT 0) (UX (UT 1) (UX (UT 2) (UV))))) (UV)))))
 (Kf (Kb UG (ZH (KW (Yi (UT 4) (U1 w9) (Ki (UT 3) λx=>Kk (YS x)))) 2 (gT 2 (gNC (gN 5) (gNC (gN 6) (gN0)))) (U1 ya) (UT 5)))))
noncomputable def Vs:yc->ye:=Kj N_bh Sf
noncomputable abbrev Sbd:Stmt:=top 46
noncomputable abbrev N_bd:List Str:=["walk", "end", "step", "begin"]
theorem Hbd:NmF Sbd N_bd:=KN (by decide +kernel)
noncomputable def Hb:SM:=
 sIf (UY oEq (UY oIx (U6 0 (UT 3)) (U1 (.int 0))) (U6 2 (U1 (.int 1))))
 (Kf (Yi (UT 0) (Ki (UT 3) λx=>Kk (YS x)) (Ki (UY U9 (UT 1) (U1 (.int 1))) λx=>Kk (YS x))))
 (sNx)
noncomputable def Ha:SM:=
 Kx (YR (UX (UY U9 (UT 1) (U1 (.int 1))) (UV))) (gN 3) Hb
noncomputable def Sm:SM:=
 UZ (Kx (YY (UX (UT 0) (UV))) (gT 2 (gNC (gN 1) (gNC (gN 2) (gN0)))) Ha)
 (Kf (Kw (UV)))
noncomputable def Vu:yc->ye:=Kj N_bd Sm
noncomputable abbrev Sbf:Stmt:=top 48
noncomputable abbrev N_bf:List Str:=["wishes", "worths", "dealing", "nothing", "gained", "walk"]
theorem Hbf:NmF Sbf N_bf:=KN (by decide +kernel)
noncomputable def L9:SM:=
 sIf (UY oEq (Zu 5) (UY U9 (UT 3) (U1 (.int 1))))
 (Kf (Ka 2 Xu (UX (UT 3) (UX (Ka 1 Vu (UX (UT 5) (UV))) (UV)))))
 (sNx)
noncomputable def Sj:SM:=
 UZ (Kc 3 (Zo Kn (UX (U6 0 (U1 (.int 0))) (UV))))
 (UZ (Kx (KW (Ka 2 X2 (UX (UY U9 (UT 3) (U1 (.int 1))) (UX (Ka 3 YC (UX (UT 0) (UX (UT 1) (UX (UT 2) (UV))))) (UV))))) (gT 2 (gNC (gN 4) (gNC (gN 5) (gN0)))) L9)
 (Kf (Kw (UV))))
noncomputable def Wu:yc->ye:=Kj N_bf Sj
noncomputable abbrev Sbg:Stmt:=top 49
noncomputable abbrev N_bg:List Str:=["wishes", "worths", "dealing", "way"]
theorem Hbg:NmF Sbg N_bg:=KN (by decide +kernel)
noncomputable def Og:SM:=
 UZ (Kc 2 (Ka 2 X3 (UX (UT 2) (UX (UT 3) (UV)))))
 (Kc 3 (Ka 3 Wu (UX (UT 0) (UX (UT 1) (UX (UT 2) (UV))))))
noncomputable def Sg:SM:=
 UZ (Kc 2 (UY Kv (Kw (UX (U1 .none) (UV))) (Zo Kn (UX (U6 0 (U1 (.int 1))) (UV)))))
 (UZ (Kc 3 (Ka 3 Wu (UX (UT 0) (UX (UT 1) (UX (UT 2) (UV))))))
 (UZ (XA (Pe (UT 3)) Og Wy)
 (Kf (UT 2))))
noncomputable def Vt:yc->ye:=Kj N_bg Sg
noncomputable abbrev Sak:Stmt:=top 20
noncomputable abbrev N_ak:List Str:=["wishes"]
theorem Hak:NmF Sak N_ak:=KN (by decide +kernel)
noncomputable def SI:SM:=
 UZ (Wd (Ka 1 YD (UX (UT 0) (UV))))
 (Kf (Zo Tp (UX (Kb UG (R4 (YY (UX (U6 0 (U1 (.int 1))) (UV))) 4 (gT 2 (gNC (gN 1) (gNC (gN 2) (gN0)))) (U1 ya) (KW (UT 2)) (gN 3) (U1 ya) (KW (UT 3)) (gN 4) (U1 ya) (KM (UX (UT 1) (UX (UT 4) (UV)))))) (UV))))
noncomputable def VI:yc->ye:=Kj N_ak SI
noncomputable abbrev Sar:Stmt:=top 32
noncomputable abbrev N_ar:List Str:=["base", "times", "told", "step"]
theorem Har:NmF Sar N_ar:=KN (by decide +kernel)
noncomputable def L8:SM:=
 XT YB 2 (UT 0)
noncomputable def SA:SM:=
 UZ (Kc 2 (U1 (.int 1)))
 (UZ (Kx (YR (UX (UT 1) (UV))) (gN 3) L8)
 (Kf (UT 2)))
noncomputable def ZO:yc->ye:=Kj N_ar SA
noncomputable abbrev Sat:Stmt:=top 34
noncomputable abbrev N_at:List Str:=["turns", "base", "asker", "rank", "behind"]
theorem Hat:NmF Sat N_at:=KN (by decide +kernel)
noncomputable def Sy:SM:=
 UZ (sIf (Zl Xo 2 (UT 0))
 (Kf (U1 (.int 0)))
 (sNx))
 (UZ (Kc 4 (UY KY (UY KY (Zu 0) (U1 (.int 1))) (Oa (UT 0) (UX (UT 2) (UV)))))
 (Kf (UY Kv (UY KY (UT 1) (UT 3)) (Ka 2 ZO (UX (UT 1) (UX (UT 4) (UV)))))))
noncomputable def Vz:yc->ye:=Kj N_at Sy
noncomputable abbrev Sas:Stmt:=top 33
noncomputable abbrev N_as:List Str:=["order", "base", "most", "rank"]
theorem Has:NmF Sas N_as:=KN (by decide +kernel)
noncomputable def Sz:SM:=
 UZ (sIf (Zl oEq 0 (U1 (.str "firsts")))
 (Kf (Ka 2 ZO (UX (UT 1) (UX (UY KY (UT 2) (UT 3)) (UV)))))
 (sNx))
 (UZ (sIf (Zl oEq 0 (U1 (.str "full")))
 (Kf (UY U9 (Ka 2 ZO (UX (UT 1) (UX (UT 2) (UV)))) (Ka 2 ZO (UX (UT 1) (UX (UY KY (UT 2) (UT 3)) (UV))))))
 (sNx))
 (Kf (UY KY (Ka 2 ZO (UX (UT 1) (UX (UT 2) (UV)))) (Ka 2 ZO (UX (UT 1) (UX (UY KY (UT 3) (U1 (.int 1))) (UV)))))))
noncomputable def VA:yc->ye:=Kj N_as Sz
noncomputable abbrev Sai:Stmt:=top 18
noncomputable abbrev N_ai:List Str:=["ranks", "thing", "number", "rank"]
theorem Hai:NmF Sai N_ai:=KN (by decide +kernel)
noncomputable def L7:SM:=
 sIf (Zl oIn 1 (UT 3))
 (Kf (UT 2))
 (sNx)
noncomputable def SK:SM:=
 UZ (Kx (PV (UX (UT 0) (UV))) (gT 2 (gNC (gN 2) (gNC (gN 3) (gN0)))) L7)
 (Kf (U1 (.int 0)))
noncomputable def VL:yc->ye:=Kj N_ai SK
noncomputable abbrev Sau:Stmt:=top 35
noncomputable abbrev N_au:List Str:=["wishes", "aim", "most", "asker", "thing", "order", "old", "turns", "lists", "rank", "base", "kept", "by_counts"]
theorem Hau:NmF Sau N_au:=KN (by decide +kernel)
noncomputable def Sx:SM:=
 UZ (Zx (UT 1) (gT 3 (gNC (gN 5) (gNC (gN 6) (gNC (gN 7) (gN0))))))
 (UZ (Kc 8 (U6 0 (U1 (.int 1))))
 (UZ (Kc 9 (Ka 2 VL (UX (U6 8 (UT 3)) (UX (UT 4) (UV)))))
 (UZ (Kc 10 (UY U9 (Zu 8) (U1 (.int 1))))
 (UZ (Kc 11 (mIf (Zr (Kb (λd=>!isNon d) (UT 6)) (UY oEq (U6 6 (UT 3)) (UT 4))) (U1 (.int 1)) (U1 (.int 0))))
 (UZ (Kc 12 (UY U9 (UY Kv (Ka 4 VA (UX (UT 5) (UX (UT 10) (UX (UT 2) (UX (UT 9) (UV)))))) (UT 10)) (UT 11)))
 (Kf (UY U9 (UY Kv (UT 12) (Ka 2 ZO (UX (UY U9 (UT 2) (U1 (.int 1))) (UX (Zu 7) (UV))))) (Ka 4 Vz (UX (UT 7) (UX (UY U9 (UT 2) (U1 (.int 1))) (UX (UT 3) (UX (UT 9) (UV)))))))))))))
noncomputable def Ww:yc->ye:=Kj N_au Sx
noncomputable abbrev Saj:Stmt:=top 19
noncomputable abbrev N_aj:List Str:=["wishes"]
theorem Haj:NmF Saj N_aj:=KN (by decide +kernel)
noncomputable def SJ:SM:=
 UZ (Wd (Ka 1 YD (UX (UT 0) (UV))))
 (Kf (Zo VS (UX (Kb UG (ZH (KW (U6 0 (U1 (.int 1)))) 1 (gN 1) (U1 ya) (Zu 1))) (UV))))
noncomputable def VJ:yc->ye:=Kj N_aj SJ
noncomputable abbrev Sap:Stmt:=top 29
noncomputable abbrev N_ap:List Str:=["thing", "askers"]
theorem Hap:NmF Sap N_ap:=KN (by decide +kernel)
noncomputable def SD:SM:=
 UZ (sIf (mOr (K6 (Yt (Kb (λd=>.bool (Zh d "list")) (UT 0)))) (K6 (Yt (Zo YL (UX (Kb UG (ZH (KW (UT 0)) 1 (gN 2) (U1 ya) (Ka 2 Z8 (UX (UT 2) (UX (UT 1) (UV)))))) (UV))))))
 (Kf (U1 (.bool yb)))
 (sNx))
 (Kf (Kb UH (UY oEq (Zo WS (UX (UT 0) (UV))) (Zu 0))))
noncomputable def VD:yc->ye:=Kj N_ap SD
noncomputable abbrev Sao:Stmt:=top 28
noncomputable abbrev N_ao:List Str:=["thing", "askers", "things"]
theorem Hao:NmF Sao N_ao:=KN (by decide +kernel)
noncomputable def SE:SM:=
 UZ (sIf (Kb isNon (UT 0))
 (Kf (U1 (.bool ya)))
 (sNx))
 (UZ (sIf (mOr (K6 (Yt (Kb (λd=>.bool (Zh d "list")) (UT 0)))) (UY oNe (Zu 0) (UT 1)))
 (Kf (U1 (.bool yb)))
 (sNx))
 (Kf (Zo YL (UX (Kb UG (ZH (KW (UT 0)) 1 (gN 3) (U1 ya) (Wq (Kb (λd=>.bool (isNon d)) (UT 3)) (Ka 2 Z8 (UX (UT 3) (UX (UT 2) (UV))))))) (UV)))))
noncomputable def VE:yc->ye:=Kj N_ao SE
noncomputable abbrev Sam:Stmt:=top 25
noncomputable abbrev N_am:List Str:=["thing"]
theorem Ham:NmF Sam N_am:=KN (by decide +kernel)
noncomputable def SG:SM:=
 Kf (Tk (Kb (λd=>.bool (Zh d "str")) (UT 0)) (Kb UH (Zl oIn 0 (U1 (.tuple ((["firsts", "full", "lasts"]:List Str).map UI))))))
noncomputable def VG:yc->ye:=Kj N_am SG
noncomputable abbrev San:Stmt:=top 26
noncomputable abbrev N_an:List Str:=["thing"]
theorem Han:NmF San N_an:=KN (by decide +kernel)
noncomputable def SF:SM:=
 sIf (K6 (Yt (Ka 1 VG (UX (UT 0) (UV)))))
 (WF)
 (sNx)
noncomputable def VF:yc->ye:=Kj N_an SF
noncomputable abbrev Saq:Stmt:=top 30
noncomputable abbrev N_aq:List Str:=["wishes", "thing", "copies", "lists", "order", "old", "turns"]
theorem Haq:NmF Saq N_aq:=KN (by decide +kernel)
noncomputable def SB:SM:=
 UZ (Wd (Ka 1 YD (UX (UT 0) (UV))))
 (UZ (sIf (mOr (K6 (Yt (Kb (λd=>.bool (Zh d "tuple")) (UT 1)))) (UY oNe (Zu 1) (U1 (.int 3))))
 (WF)
 (sNx))
 (UZ (Zx (UT 0) (gT 2 (gNC (gN 2) (gNC (gN 3) (gN0)))))
 (UZ (Zx (UT 1) (gT 3 (gNC (gN 4) (gNC (gN 5) (gNC (gN 6) (gN0))))))
 (UZ (Wd (Ka 1 VF (UX (UT 4) (UV))))
 (UZ (sIf (K6 (Yt (Ka 3 VE (UX (UT 5) (UX (Zu 3) (UX (Zu 2) (UV)))))))
 (WF)
 (sNx))
 (sIf (K6 (Yt (Ka 2 VD (UX (UT 6) (UX (Zu 3) (UV))))))
 (WF)
 (sNx)))))))
noncomputable def VC:yc->ye:=Kj N_aq SB
noncomputable abbrev Sav:Stmt:=top 36
noncomputable abbrev N_av:List Str:=["wishes", "aim", "most"]
theorem Hav:NmF Sav N_av:=KN (by decide +kernel)
noncomputable def Sw:SM:=
 UZ (Wd (Ka 2 VC (UX (UT 0) (UX (UT 1) (UV)))))
 (UZ (Kc 2 (Ka 1 VJ (UX (UT 0) (UV))))
 (Kf (Kb UG (ZH (KW (Ka 1 VI (UX (UT 0) (UV)))) 2 (gT 2 (gNC (gN 3) (gNC (gN 4) (gN0)))) (U1 ya) (KM (UX (UT 3) (UX (UT 4) (UX (Ka 5 Ww (UX (UT 0) (UX (UT 1) (UX (UT 2) (UX (UT 3) (UX (UT 4) (UV))))))) (UV)))))))))
noncomputable def Vy:yc->ye:=Kj N_av Sw
noncomputable abbrev Sbp:Stmt:=top 60
noncomputable abbrev N_bp:List Str:=["wishes", "aim", "worths", "dealing", "prices", "steps", "roads"]
theorem Hbp:NmF Sbp N_bp:=KN (by decide +kernel)
noncomputable def T7:SM:=
 UZ (Kc 2 (Ka 2 Vy (UX (UT 0) (UX (UT 1) (UV)))))
 (UZ (Kc 3 (Ka 2 Vt (UX (UT 0) (UX (UT 2) (UV)))))
 (UZ (Kc 4 (Ka 3 Vs (UX (UT 0) (UX (UT 2) (UX (UT 3) (UV))))))
 (UZ (Kc 5 (Ka 2 Vq (UX (Ka 3 YC (UX (UT 0) (UX (UT 2) (UX (UT 3) (UV))))) (UX (UT 4) (UV)))))
 (UZ (Kc 6 (Ka 2 Vo (UX (UY U9 (Zu 4) (U1 (.int 1))) (UX (UT 5) (UV)))))
 (Kf (KM (UX (Ka 4 Vm (UX (Zu 3) (UX (UT 2) (UX (UT 4) (UX (UT 6) (UV)))))) (UX (Ka 3 Wt (UX (UT 3) (UX (UT 5) (UX (UT 6) (UV))))) (UV)))))))))
noncomputable def Vl:yc->ye:=Kj N_bp T7
noncomputable abbrev EY:Stmt:=top 2
noncomputable abbrev EX:List Str:=["numbers"]
theorem EZ:NmF EY EX:=KN (by decide +kernel)
noncomputable def EW:SM:=
 sNx
noncomputable def w6:M yc:=
 ZH (YY (UX (UT 0) (UV))) 2 (gT 2 (gNC (gN 1) (gNC (gN 2) (gN0)))) (Zl (oIB λi j=>decide (j<i)) 2 (U1 (.int 0))) (UT 1)
noncomputable def RI:yc->Option yc:=YK EX EW w6
noncomputable abbrev L6:Stmt:=top 62
noncomputable abbrev L5:List Str:=["web", "paper", "dealings", "times", "asks", "prices"]
theorem GO:NmF L6 L5:=KN (by decide +kernel)
noncomputable def NM:SM:=
 UZ (Zx (UT 0) (gT 2 (gNC (gN 1) (gNC (gN 2) (gN0)))))
 (UZ (Zx (UT 1) (gT 3 (gNC (gN 3) (gNC (gN 4) (gNC (gN 5) (gN0))))))
 (sNx))
noncomputable def Ac:M yc:=
 VY 1 RI (UX (UT 5) (UV))
noncomputable def Of:yc->Option yc:=YK L5 NM Ac
noncomputable abbrev FQ:Stmt:=top 61
noncomputable abbrev FP:List Str:=["web", "paper", "dealings", "times", "asks", "prices"]
theorem Ew:NmF FQ FP:=KN (by decide +kernel)
noncomputable def MC:SM:=
 UZ (Zx (UT 0) (gT 2 (gNC (gN 1) (gNC (gN 2) (gN0)))))
 (UZ (Zx (UT 1) (gT 3 (gNC (gN 3) (gNC (gN 4) (gNC (gN 5) (gN0))))))
 (sNx))
noncomputable def j6:M yc:=
 VY 1 RI (UX (UT 4) (UV))
noncomputable def OT:yc->Option yc:=YK FP MC j6
noncomputable abbrev Scc:Stmt:=top 74
noncomputable abbrev Vb:List Str:=["_law_wishes_here", "_law_aim_here", "_law_best", "_law_web", "_law_kept", "_law_due", "_law_asker", "_law_things", "_law_what", "_law_turn", "_law_found"]
theorem Hcc:FnNm (ZM Scc) Vb ["repr", "range", "full", "served", "len", "web_of"]:=KN (by decide +kernel)
noncomputable def L4:SM:=
 UZ (Tn 10 (.lst (.lst .leaf)) (Ki (Ro (Kb UG (VY 1 OT (UX (UT 3) (UV)))) (Ro (Kb UG (VY 1 Of (UX (UT 3) (UV)))) (UV))) λxs=>if xs.length<=1000000 then U1 (.list xs)else λ_=>.bad))
 (UZ (sIf (Rf (Zl oNe 10 (Kw (UX (UT 5) (UX (UT 7) (UV))))))
 (Kf (U1 (.bool yb)))
 (sNx))
 (UZ (Xm 10 [0] (.app (.int 0)))
 (Xm 10 [1] (.app (.int 0)))))
noncomputable def L1:SM:=
 sIf (UY oEq (Kb UG (ZH (KW (UT 2)) 1 (gN 11) (UY (oIB λi j=>decide (i<j)) (V5 (UT 11) (UX (UT 8) (UV))) (UY oIx (U6 0 (U1 (.int 0))) (UT 8))) (UT 11))) (Kw (UV)))
 (Zy 7 (UT 8))
 (sNx)
noncomputable def LZ:SM:=
 sIf (UY oEq (Kb UG (ZH (KW (UT 2)) 1 (gN 11) (Kb isNon (U6 11 (UT 6))) (UT 11))) (Kw (UV)))
 (Zy 5 (UT 6))
 (sNx)
noncomputable def TV:SM:=
 UZ (Kc 3 (Ka 2 Vl (UX (UT 0) (UX (UT 1) (UV)))))
 (UZ (Kc 4 (Zo V2 (UX (UT 3) (UV))))
 (UZ (Zf 5 (Ki (UV) λxs=>if xs.length<=1000000 then U1 xs else λ_=>.bad))
 (UZ (Kx (YR (UX (Zo Kn (UX (U6 0 (U1 (.int 1))) (UV))) (UV))) (gN 6) LZ)
 (UZ (Zf 7 (Ki (UV) λxs=>if xs.length<=1000000 then U1 xs else λ_=>.bad))
 (UZ (Kx (YR (UX (Zo Kn (UX (U6 0 (U1 (.int 0))) (UV))) (UV))) (gN 8) L1)
 (UZ (Kx (YR (UX (U1 (.int 2)) (UV))) (gN 9) L4)
 (Kf (Kb UH (UY oEq (Zo V2 (UX (UT 3) (UV))) (UT 4))))))))))
noncomputable def Vd:yc->ye:=Kj Vb TV
noncomputable abbrev Sbv:Stmt:=top 67
noncomputable abbrev N_bv:List Str:=["_law_wishes_here", "_law_asker", "_law_thing", "_law_k", "_law_row"]
theorem Hbv:NmF Sbv N_bv:=KN (by decide +kernel)
noncomputable def LY:SM:=
 sIf (Zl oIn 2 (UT 4))
 (Kf (UY U9 (UT 3) (U1 (.int 1))))
 (sNx)
noncomputable def T4:SM:=
 UZ (Kx (YY (UX (UY oIx (U6 0 (U1 (.int 1))) (UT 1)) (UV))) (gT 2 (gNC (gN 3) (gNC (gN 4) (gN0)))) LY)
 (Kf (U1 (.int 0)))
noncomputable def Vj:yc->ye:=Kj N_bv T4
noncomputable abbrev Sbw:Stmt:=top 68
noncomputable abbrev N_bw:List Str:=["_law_wishes_here"]
theorem Hbw:NmF Sbw N_bw:=KN (by decide +kernel)
noncomputable def T3:SM:=
 Kf (Zo VS (UX (Kb UG (ZH (KW (U6 0 (U1 (.int 1)))) 1 (gN 1) (U1 ya) (Zu 1))) (UV)))
noncomputable def Vi:yc->ye:=Kj N_bw T3
noncomputable abbrev Sbz:Stmt:=top 71
noncomputable abbrev N_bz:List Str:=["_law_wishes_here", "_law_aim_here", "_law_asker", "_law_thing", "_law_order", "_law_old", "_law_turns", "_law_base", "_law_ranks", "_law_rank_here", "_law_powers", "_law_k", "_law_worth_here", "_law_pick", "_law_one"]
theorem Hbz:NmF Sbz N_bz:=KN (by decide +kernel)
noncomputable def Oe:SM:=
 UZ (Kc 12 (UY Kv (UT 12) (UY U9 (UT 8) (U1 (.int 1)))))
 (UZ (Kc 13 (UY Kv (UT 13) (UY U9 (UT 8) (U1 (.int 1)))))
 (sIf (Zl oEq 14 (UT 2))
 (Kc 13 (UY KY (UY U9 (UY U9 (UT 13) (UT 8)) (U1 (.int 1))) (UT 9)))
 (sNx)))
noncomputable def LX:SM:=
 Zy 10 (UY Kv (U6 10 (Yj (U1 (.int 1)))) (UT 7))
noncomputable def TY:SM:=
 UZ (Zx (UT 1) (gT 3 (gNC (gN 4) (gNC (gN 5) (gNC (gN 6) (gN0))))))
 (UZ (Kc 7 (UY U9 (Zo Kn (UX (U6 0 (U1 (.int 1))) (UV))) (U1 (.int 1))))
 (UZ (Kc 8 (Ka 1 Vi (UX (UT 0) (UV))))
 (UZ (Kc 9 (Ka 3 Vj (UX (UT 0) (UX (UT 2) (UX (UT 3) (UV))))))
 (UZ (Zf 10 (Ki (UX (U1 (.int 1)) (UV)) λxs=>if xs.length<=1000000 then U1 xs else λ_=>.bad))
 (UZ (Kx (YR (UX (UT 8) (UV))) (gN 11) LX)
 (UZ (Kc 12 (U6 10 (UY KY (UT 8) (UT 9))))
 (UZ (sIf (Zl oEq 4 (U1 (.str "full")))
 (Kc 12 (UY U9 (UT 12) (U6 10 (UT 8))))
 (sNx))
 (UZ (sIf (Zl oEq 4 (U1 (.str "lasts")))
 (Kc 12 (UY KY (U6 10 (UT 8)) (U6 10 (UY KY (UT 9) (U1 (.int 1))))))
 (sNx))
 (UZ (Kc 12 (UY Kv (UT 12) (UT 7)))
 (UZ (sIf (Zr (Kb (λd=>!isNon d) (UT 5)) (UY oEq (U6 5 (UT 2)) (UT 3)))
 (Kc 12 (UY U9 (UT 12) (U1 (.int 1))))
 (sNx))
 (UZ (Kc 13 (U1 (.int 0)))
 (UZ (Kx (KW (UT 6)) (gN 14) Oe)
 (Kf (UY U9 (UT 12) (UT 13)))))))))))))))
noncomputable def Vf:yc->ye:=Kj N_bz TY
noncomputable abbrev Sca:Stmt:=top 72
noncomputable abbrev N_ca:List Str:=["_law_wishes_here", "_law_aim_here", "_law_dealing", "_law_total", "_law_asker", "_law_thing"]
theorem Hca:NmF Sca N_ca:=KN (by decide +kernel)
noncomputable def LW:SM:=
 sIf (Kb (λd=>!isNon d) (UT 5))
 (Kc 3 (UY U9 (UT 3) (Ka 4 Vf (UX (UT 0) (UX (UT 1) (UX (UT 4) (UX (UT 5) (UV))))))))
 (sNx)
noncomputable def TX:SM:=
 UZ (Kc 3 (U1 (.int 0)))
 (UZ (Kx (YY (UX (UT 2) (UV))) (gT 2 (gNC (gN 4) (gNC (gN 5) (gN0)))) LW)
 (Kf (UT 3)))
noncomputable def Ws:yc->ye:=Kj N_ca TX
noncomputable abbrev Sbt:Stmt:=top 65
noncomputable abbrev N_bt:List Str:=["_law_cell", "_law_salt", "_law_sizes", "_law_number", "_law_left", "_law_found", "_law_k", "_law_one"]
theorem Hbt:NmF Sbt N_bt:=KN (by decide +kernel)
noncomputable def NL:SM:=
 sIf (Zr (Zl (oIB λi j=>decide (j<=i)) 3 (UY Wo (U1 (.int 10)) (U1 (.int 18)))) (Zl (oIB λi j=>decide (j<i)) 4 (U1 (.int 0))))
 (UZ (Zy 5 (UY Yz (UT 4) (U6 2 (UT 6))))
 (Kc 4 (UY Wp (UT 4) (U6 2 (UT 6)))))
 (UZ (Kc 7 (UY Yz (UY U9 (UY U9 (UY U9 (UT 3) (UY Kv (U1 (.int 7919)) (UT 1))) (UY Kv (UY Kv (U1 (.int 101)) (UT 6)) (UT 6))) (UT 6)) (U1 (.int 2147483647))))
 (UZ (Kc 7 (UY Yz (UY Kv (UT 7) (U1 (.int 48271))) (U1 (.int 2147483647))))
 (UZ (Kc 7 (UY Yz (UY Kv (UY Yz (UY Kv (UT 7) (UT 7)) (U1 (.int 2147483629))) (U1 (.int 48271))) (U1 (.int 2147483647))))
 (Zy 5 (UY Yz (UY Wp (UT 7) (U1 (.int 16))) (U6 2 (UT 6)))))))
noncomputable def T6:SM:=
 UZ (Kc 3 (Zo RU (UX (UT 0) (UX (UY KY (Yj (U1 (.int 1))) (UT 0)) (UV)))))
 (UZ (Kc 4 (UT 3))
 (UZ (Zf 5 (Ki (UV) λxs=>if xs.length<=1000000 then U1 xs else λ_=>.bad))
 (UZ (Kx (YR (UX (Zu 2) (UV))) (gN 6) NL)
 (Kf (UT 5)))))
noncomputable def Xr:yc->ye:=Kj N_bt T6
noncomputable abbrev Sby:Stmt:=top 70
noncomputable abbrev N_by:List Str:=["_law_wishes_here", "_law_cell", "_law_salt", "_law_askers", "_law_digits", "_law_old", "_law_turns", "_law_digit"]
theorem Hby:NmF Sby N_by:=KN (by decide +kernel)
noncomputable def Od:SM:=
 Kc 7 (UY Yz (UY U9 (UT 7) (U1 (.int 1))) (UT 3))
noncomputable def LV:SM:=
 UZ (XA (To oIn (UT 7) 6) Od 1000)
 (Zy 6 (UT 7))
noncomputable def TZ:SM:=
 UZ (Kc 3 (Zo Kn (UX (U6 0 (U1 (.int 1))) (UV))))
 (UZ (Kc 4 (Ka 3 Xr (UX (UT 1) (UX (UT 2) (UX (UY U9 (UY U9 (Kw (UX (U1 (.int 3)) (UX (U1 (.int 2)) (UX (UY U9 (UT 3) (U1 (.int 1))) (UV))))) (UY Kv (Kw (UX (UY U9 (Zo Kn (UX (U6 0 (U1 (.int 0))) (UV))) (U1 (.int 1))) (UV))) (UT 3))) (UY Kv (Kw (UX (UT 3) (UV))) (UT 3))) (UV))))))
 (UZ (Kc 5 (U1 .none))
 (UZ (sIf (UY oEq (U6 4 (U1 (.int 1))) (U1 (.int 1)))
 (Zf 5 (ZH (KW (Yi (UT 4) (Ki (U1 (.int 3)) λx=>Kk (YS x)) (Ki (UY U9 (U1 (.int 3)) (UT 3)) λx=>Kk (YS x)))) 1 (gN 8) (U1 ya) (UY oIx (Kw (UX (U1 .none) (UX (UY KY (UT 8) (U1 (.int 1))) (UV)))) (Zo RO (UX (Kb UH (Zl (oIB λi j=>decide (j<i)) 8 (U1 (.int 0)))) (UV))))))
 (sNx))
 (UZ (Zf 6 (Ki (UV) λxs=>if xs.length<=1000000 then U1 xs else λ_=>.bad))
 (UZ (Kx (KW (Yi (UT 4) (Ki (UY U9 (U1 (.int 3)) (UT 3)) λx=>Kk (YS x)) (Ki (UY U9 (UY U9 (U1 (.int 3)) (UT 3)) (U6 4 (U1 (.int 2)))) λx=>Kk (YS x)))) (gN 7) LV)
 (Kf (KM (UX (UY oIx (Kw (UX (U1 (.str "firsts")) (UX (U1 (.str "full")) (UX (U1 (.str "lasts")) (UV))))) (U6 4 (U1 (.int 0)))) (UX (UT 5) (UX (UT 6) (UV)))))))))))
noncomputable def Vg:yc->ye:=Kj N_by TZ
noncomputable abbrev Sbx:Stmt:=top 69
noncomputable abbrev N_bx:List Str:=["_law_wishes_here", "_law_asker"]
theorem Hbx:NmF Sbx N_bx:=KN (by decide +kernel)
noncomputable def T2:SM:=
 Kf (Zo Tp (UX (Zo Ri (UX (UY oIx (U6 0 (U1 (.int 1))) (UT 1)) (UX (Kw (UV)) (UV)))) (UV)))
noncomputable def Vh:yc->ye:=Kj N_bx T2
noncomputable abbrev Scb:Stmt:=top 73
noncomputable abbrev N_cb:List Str:=["_law_wishes_here", "_law_found", "_law_asker", "_law_longer", "_law_dealing", "_law_thing"]
theorem Hcb:NmF Scb N_cb:=KN (by decide +kernel)
noncomputable def LU:SM:=
 sIf (mOr (Kb isNon (UT 5)) (UY (oIB λi j=>decide (i<j)) (V5 (UT 4) (UX (UT 5) (UV))) (UY oIx (U6 0 (U1 (.int 0))) (UT 5))))
 (Zy 3 (UY U9 (UT 4) (Kw (UX (UT 5) (UV)))))
 (sNx)
noncomputable def LS:SM:=
 Kx (KW (UY U9 (Kw (UX (U1 .none) (UV))) (Ka 2 Vh (UX (UT 0) (UX (UT 2) (UV)))))) (gN 5) LU
noncomputable def LR:SM:=
 UZ (Zf 3 (Ki (UV) λxs=>if xs.length<=1000000 then U1 xs else λ_=>.bad))
 (UZ (Kx (KW (UT 1)) (gN 4) LS)
 (Kc 1 (UT 3)))
noncomputable def TW:SM:=
 UZ (Zf 1 (Ki (UX (Kw (UV)) (UV)) λxs=>if xs.length<=1000000 then U1 xs else λ_=>.bad))
 (UZ (Kx (YR (UX (Zo Kn (UX (U6 0 (U1 (.int 1))) (UV))) (UV))) (gN 2) LR)
 (Kf (UT 1)))
noncomputable def Ve:yc->ye:=Kj N_cb TW
noncomputable abbrev Sbu:Stmt:=top 66
noncomputable abbrev N_bu:List Str:=["_law_script", "_law_at", "_law_most_things", "_law_most_askers", "_law_most_ranks", "_law_digits", "_law_copies", "_law_lists", "_law_asker", "_law_cell", "_law_places", "_law_ranks", "_law_rank_here", "_law_row"]
theorem Hbu:NmF Sbu N_bu:=KN (by decide +kernel)
noncomputable def NK:SM:=
 UZ (Zf 13 (ZH (YR (UX (Zu 6) (UV))) 1 (gN 14) (UY oEq (U6 10 (UT 14)) (UT 12)) (UT 14)))
 (sIf (Zl oNe 13 (Kw (UV)))
 (Zy 11 (UY oIx (Kw (UX (UT 13) (UX (W9 (UT 13) (U1 w9) (U1 w9) (Ki (Yj (U1 (.int 1))) λx=>Kk (YS x))) (UV)))) (U6 10 (Yj (U1 (.int 1))))))
 (sNx))
noncomputable def NJ:SM:=
 UZ (Kc 9 (Ka 2 Xs (UX (UT 0) (UX (UY U9 (UY U9 (UT 1) (U1 (.int 1))) (UT 8)) (UV)))))
 (UZ (Kc 10 (Ka 3 Xr (UX (UT 9) (UX (UY U9 (UY U9 (UY Kv (U1 (.int 11)) (UT 1)) (UY Kv (U1 (.int 3)) (UT 8))) (U1 (.int 1))) (UX (UY U9 (UY Kv (Kw (UX (UY U9 (UT 4) (U1 (.int 1))) (UV))) (UT 2)) (Kw (UX (U1 (.int 2)) (UV)))) (UV))))))
 (UZ (Zf 11 (Ki (UV) λxs=>if xs.length<=1000000 then U1 xs else λ_=>.bad))
 (UZ (Kx (PR (UX (U1 (.int 1)) (UX (UY U9 (UT 4) (U1 (.int 1))) (UV)))) (gN 12) NK)
 (Zy 7 (UT 11)))))
noncomputable def T5:SM:=
 UZ (Kc 5 (Ka 3 Xr (UX (Ka 2 Xs (UX (UT 0) (UX (UT 1) (UV)))) (UX (UT 1) (UX (UY U9 (Kw (UX (UT 2) (UX (UT 3) (UV)))) (UY Kv (Kw (UX (U1 (.int 11)) (UV))) (UT 2))) (UV))))))
 (UZ (Zf 6 (ZH (KW (Yi (UT 5) (Ki (U1 (.int 2)) λx=>Kk (YS x)) (Ki (UY U9 (U1 (.int 3)) (U6 5 (U1 (.int 0)))) λx=>Kk (YS x)))) 1 (gN 14) (U1 ya) (UY oIx (Kw (UX (U1 (.int 1)) (UX (U1 (.int 1)) (UX (U1 (.int 2)) (UX (U1 (.int 0)) (UX (U1 (.int 3)) (UX (U1 (.int 7)) (UX (U1 (.int 1)) (UX (U1 (.int 4)) (UX (U1 (.int 5)) (UX (U1 (.int 6)) (UX (U1 (.int 1)) (UV))))))))))))) (UT 14))))
 (UZ (Zf 7 (Ki (UV) λxs=>if xs.length<=1000000 then U1 xs else λ_=>.bad))
 (UZ (Kx (YR (UX (UY U9 (U1 (.int 1)) (U6 5 (U1 (.int 1)))) (UV))) (gN 8) NJ)
 (Kf (KM (UX (UT 6) (UX (UT 7) (UV))))))))
noncomputable def Vk:yc->ye:=Kj N_bu T5
noncomputable abbrev Scd:Stmt:=top 75
noncomputable abbrev N_cd:List Str:=["_law_script", "_law_wishes_here", "_law_some", "_law_k", "_law_cell", "_law_aim_here", "_law_worths", "_law_most", "_law_best"]
theorem Hcd:NmF Scd N_cd:=KN (by decide +kernel)
noncomputable def LQ:SM:=
 UZ (Kc 5 (Ka 3 Vg (UX (UT 1) (UX (UT 4) (UX (UY U9 (U1 (.int 20)) (UT 3)) (UV))))))
 (UZ (Zf 6 (ZH (KW (UT 2)) 1 (gN 9) (U1 ya) (Ka 3 Ws (UX (UT 1) (UX (UT 5) (UX (UT 9) (UV)))))))
 (UZ (Kc 7 (Zo VS (UX (UT 6) (UV))))
 (UZ (Zf 8 (ZH (W8 (UX (UT 2) (UX (UT 6) (UV)))) 2 (gT 2 (gNC (gN 9) (gNC (gN 10) (gN0)))) (Zl oEq 10 (UT 7)) (UT 9)))
 (sIf (K6 (Yt (Ka 3 Vd (UX (UT 1) (UX (UT 5) (UX (UT 8) (UV)))))))
 (Kf (U1 (.bool yb)))
 (sNx)))))
noncomputable def TU:SM:=
 UZ (Kc 1 (Ka 5 Vk (UX (UT 0) (UX (U1 (.int 0)) (UX (U1 (.int 3)) (UX (U1 (.int 4)) (UX (U1 (.int 3)) (UV))))))))
 (UZ (Kc 2 (Ka 1 Ve (UX (UT 1) (UV))))
 (UZ (Kx (YY (UX (UY U9 (Kw (UX (Ka 2 Xs (UX (UT 0) (UX (U1 (.int 5)) (UV)))) (UV))) (Yi (UT 0) (Ki (U1 (.int 6)) λx=>Kk (YS x)) (Ki (U1 (.int 7)) λx=>Kk (YS x)))) (UV))) (gT 2 (gNC (gN 3) (gNC (gN 4) (gN0)))) LQ)
 (Kf (U1 (.bool ya)))))
noncomputable def Vc:yc->ye:=Kj N_cd TU
set_option hygiene false in
local macro_rules | `(tactic| walk_at "g")=>`(tactic| first | exact gA nm rfl | exact BC rfl)
set_option hygiene false in
local macro_rules | `(tactic| walk_at "v")=>`(tactic| first | exact pq nm _ | exact pvb _)
set_option hygiene false in
local macro_rules | `(tactic| walk_at "b")=>`(tactic| first | ((with_reducible show OpB _ (compareOp CmpOp.Eq) _);first | exact Wz hu) | ((with_reducible show OpB _ (compareOp CmpOp.NotEq) _);first | exact SY hu) | ((with_reducible show OpB _ (compareOp CmpOp.Lt) _);first | exact B_lt) | ((with_reducible show OpB _ (compareOp CmpOp.LtE) _);first | exact B_le) | ((with_reducible show OpB _ (compareOp CmpOp.Gt) _);first | exact B_gt) | ((with_reducible show OpB _ (compareOp CmpOp.GtE) _);first | exact B_ge) | ((with_reducible show OpB _ (compareOp CmpOp.In) _);first | exact B_in hu | exact DB hu) | ((with_reducible show OpB _ (compareOp CmpOp.NotIn) _);first | exact DR hu))
set_option hygiene false in
local macro_rules | `(tactic| walk_at "m")=>`(tactic| first | exact V8 _ | exact rfl)
set_option hygiene false in
local macro_rules | `(tactic| walk_at "k")=>`(tactic| first | exact OB | exact xU | exact xT | exact xS)
set_option hygiene false in
local macro_rules | `(tactic| walk_at "w")=>`(tactic| first | exact PassesOwn.never)
set_option hygiene false in
local macro_rules | `(tactic| walk_at "x")=>`(tactic| first | assumption | exact wants_cx)
set_option hygiene false in
local macro_rules | `(tactic| walk_at "c")=>`(tactic| first | exact T.c_MOST_ASKERS | exact T.c_MOST_COPIES | exact T.c_MOST_RANKS | exact T.c_MOST_THINGS | exact T.c_ORDERS)
set_option hygiene false in
local macro_rules | `(tactic| walk_at "ck")=>`(tactic| fail)
set_option hygiene false in
local macro_rules | `(tactic| walk_at "e")=>`(tactic| first | ((with_reducible show PE _ (Expr.Name _ _) _);first | exact Af (pq nm _) | exact Ze (pq nm _) | exact Ze (pvb _) | exact E2 (by walk_at "g") (by walk_at "c") | exact DQ (by walk_at "g") (by walk_at "c")) | ((with_reducible show PE _ (Expr.Constant _ _ _) _);first | exact Rm | exact AN | exact Bq | exact Gh) | ((with_reducible show PE _ (Expr.Subscript _ _ _) _);first | refine Ai hu (by walk_at "v") ?_ (fun _ _=>rfl) | refine WH (by walk_at "v") ?_ (fun _ _=>rfl) | refine xX ?_ ?_ ?_ | refine BW ?_ ?_ ?_ ?_ | refine Lx ?_ ?_ (fun _ _=>rfl) | refine BG hu ?_ ?_) | ((with_reducible show PE _ (Expr.BinOp _ Operator.Add _ _) _);first | refine V1 M7 ?_ ?_) | ((with_reducible show PE _ (Expr.BinOp _ Operator.Sub _ _) _);first | refine V1 M6 ?_ ?_) | ((with_reducible show PE _ (Expr.BinOp _ Operator.Mult _ _) _);first | refine V1 M5 ?_ ?_) | ((with_reducible show PE _ (Expr.BinOp _ Operator.Mod _ _) _);first | refine V1 E9 ?_ ?_) | ((with_reducible show PE _ (Expr.BinOp _ Operator.FloorDiv _ _) _);first | refine V1 E8 ?_ ?_) | ((with_reducible show PE _ (Expr.BinOp _ Operator.Pow _ _) _);first | refine V1 E7 ?_ ?_) | ((with_reducible show PE _ (Expr.Call (Expr.Name "len" _) _ _ _) _);first | refine GA (by walk_at "g") T.b_len (by walk_at "v") | refine Wi PF (by walk_at "g") T.b_len boot_len ?_ | refine vJ rfl (by walk_at "g") T.b_len (by walk_at "g") T.b_set ?_) | ((with_reducible show PE _ (Expr.Call (Expr.Name "max" _) _ _ _) _);first | refine Wi (Bf rfl) (by walk_at "g") T.b_max boot_max ?_ | refine Wi (D9 rfl) (by walk_at "g") T.b_max boot_max ?_) | ((with_reducible show PE _ (Expr.Call (Expr.Name "sorted" _) _ _ _) _);first | refine Wi D2 (by walk_at "g") T.b_sorted PyProof.Rows.boot_sorted ?_) | ((with_reducible show PE _ (Expr.Call (Expr.Name "sum" _) _ _ _) _);first | refine Wi (D8 rfl) (by walk_at "g") T.b_sum PyProof.Rows.boot_sum ?_) | ((with_reducible show PE _ (Expr.Call (Expr.Name "all" _) _ _ _) _);first | refine Wi (E4 rfl) (by walk_at "g") T.b_all PyProof.Rows.boot_all ?_) | ((with_reducible show PE _ (Expr.Call (Expr.Name "repr" _) _ _ _) _);first | refine Wi (NN hu hgd T.sm) (by walk_at "g") T.b_repr MG ?_) | ((with_reducible show PE _ (Expr.Call (Expr.Name "int" _) _ _ _) _);first | refine vb Ca (by walk_at "g") T.b_int PyProof.Rows.boot_int ?_) | ((with_reducible show PE _ (Expr.Call (Expr.Name "isinstance" _) [_,Expr.Name "int" _] _ _) _);first | refine Pq (c := "int") (by decide) (by walk_at "g") T.b_isinstance (by walk_at "g") T.b_int (by decide +kernel) ?_ (by decide) (by decide)) | ((with_reducible show PE _ (Expr.Call (Expr.Name "isinstance" _) [_,Expr.Name "list" _] _ _) _);first | refine Pq (c := "list") (by decide) (by walk_at "g") T.b_isinstance (by walk_at "g") T.b_list (by decide +kernel) ?_ (by decide) (by decide)) | ((with_reducible show PE _ (Expr.Call (Expr.Name "isinstance" _) [_,Expr.Name "tuple" _] _ _) _);first | refine Pq (c := "tuple") (by decide) (by walk_at "g") T.b_isinstance (by walk_at "g") T.b_tuple (by decide +kernel) ?_ (by decide) (by decide)) | ((with_reducible show PE _ (Expr.Call (Expr.Name "isinstance" _) [_,Expr.Name "bool" _] _ _) _);first | refine Pq (c := "bool") (by decide) (by walk_at "g") T.b_isinstance (by walk_at "g") T.b_bool (by decide +kernel) ?_ (by decide) (by decide)) | ((with_reducible show PE _ (Expr.Call (Expr.Name "isinstance" _) [_,Expr.Name "str" _] _ _) _);first | refine Pq (c := "str") (by decide) (by walk_at "g") T.b_isinstance (by walk_at "g") T.b_str (by decide +kernel) ?_ (by decide) (by decide)) | ((with_reducible show PE _ (Expr.Call (Expr.Name _ _) _ _ _) _);first | refine pdf (by assumption) hr (by walk_at "g") ?_) | ((with_reducible show PE _ (Expr.Call _ _ _ _) _);first | refine FC hu ?_ ?_ | refine kF ?_ ?_) | refine RA ?_ | refine Ox ?_ | ((with_reducible show PE _ (Expr.Compare _ _ _ _) _);first | refine A8 ?_ | refine BX (by walk_at "b") (by walk_at "v") ?_ (by walk_at "m") | refine Gd (by walk_at "b") ?_ ?_ (by walk_at "m") | refine xK (by walk_at "b") (by walk_at "b") ?_ ?_ ?_) | refine Ny ?_ | refine HZ ?_ | refine A9 ?_ | refine qb ?_ ?_ | refine Bg ?_ ?_ | refine qa ?_ | refine xJ ?_ ?_ ?_)
set_option hygiene false in
local macro_rules | `(tactic| walk_at "t")=>`(tactic| first | ((with_reducible show PT _ _ (tBo _ _ _ (Rf _)));refine GS fun B' G'=>?_) | ((with_reducible show PT _ (Expr.Compare _ _ _ _) _);first | refine Ah hu ?_ (by walk_at "v") | refine qh hu ?_ (by walk_at "v") | refine Gc ?_ | refine GB ?_ | refine Gk (by walk_at "b") (by walk_at "v") ?_ (by walk_at "m") | refine BI (by walk_at "b") ?_ (by walk_at "v") (by walk_at "m") | refine RB (by walk_at "b") ?_ ?_ (by walk_at "m") | refine xL (by walk_at "b") (by walk_at "b") ?_ ?_ ?_) | ((with_reducible show PT _ (Expr.BoolOp _ _ _) _);refine PW.pt ?_) | refine qd ?_ | refine qc ?_ | refine Al ?_)
set_option hygiene false in
local macro_rules | `(tactic| walk_at "l")=>`(tactic| first | refine Dx nm (by walk_at "k") rfl ?_ ?_ (by decide +kernel) | refine DU (by walk_at "k") rfl ?_ ?_ (by decide +kernel) | refine kW (by walk_at "g") T.b_list (by walk_at "v") | refine Ov ?_ | refine MD (by assumption) hr (by walk_at "g") ?_ | refine HI ?_ ?_)
set_option hygiene false in
local macro_rules | `(tactic| walk_at "i")=>`(tactic| first | refine OJ (by walk_at "g") T.b_range ?_ | refine xI (by walk_at "g") T.b_range ?_ | refine Ga (by walk_at "g") T.b_enumerate ?_ | refine qF (by walk_at "g") T.b_enumerate ?_ | refine Cc (by walk_at "g") T.b_zip ?_ | refine R1 ?_)
set_option hygiene false in
local macro_rules | `(tactic| walk_at "s")=>`(tactic| first | ((with_reducible show PS _ (Stmt.Assign [Expr.Name _ _] _ _) _);first | refine aSet nm ?_ | refine Dw nm (by walk_at "k") rfl ?_ ?_ (by decide +kernel) | refine MS nm ?_ | refine Dy nm ?_) | ((with_reducible show PS _ (Stmt.Assign _ _ _) _);first | refine Be ?_ ?_ | refine Gm ?_ (by walk_at "v") ?_ | refine DX hu ?_ (by walk_at "v") ?_) | refine Rc ?_ ?_ ?_ | refine P0 ?_ | refine Rk (by walk_at "w") rfl ?_ ?_ ?_ | ((with_reducible show PS _ (Stmt.Expr _ _) _);first | refine PX (by walk_at "v") ?_ | refine B2 ?_) | refine aAug nm BM ?_ | exact jY | refine qA _ (by walk_at "w") ?_ ?_)
set_option hygiene false in
local macro_rules | `(tactic| walk_at "d")=>`(tactic| (have hu:=hr.units;have hgd:=hr.gd;repeat' (first | ((with_reducible show PSs _ (Wm _) _);show PSs _ (_ :: _) _) | ((with_reducible show PSs _ (Stmt.Assign _ _ _ :: _ :: _) _);generalize hS:(_ :: _:List Stmt)=sts;refine qg hS ?_ ?_) | ((with_reducible show PS _ (Stmt.Assign [Expr.Name _ _] (Expr.List _ _) _) (tS _ _ _ _ (Zf _ _)));generalize hS:Stmt.Assign _ _ _=st;refine DT hS nm ?_) | ((with_reducible show PS _ (Stmt.Assign [Expr.Name _ _] (Expr.BinOp _ _ _ _) _) (tS _ _ _ _ (Kc _ _)));generalize hS:Stmt.Assign _ _ _=st;refine Dv hS nm ?_) | ((with_reducible show PE _ (Expr.List _ _) _);generalize hS:Expr.List _ _=e;first | refine qf hS ?_ | refine jc hS ?_) | ((with_reducible show PE _ (Expr.Tuple _ _ _) _);generalize hS:Expr.Tuple _ _ _=e;refine jb hS ?_) | ((with_reducible show PE _ (Expr.BinOp _ Operator.Add _ _) (tD _ _ _ _));generalize hS:Expr.BinOp _ _ _ _=e;refine Lp M7 hS ?_ ?_) | ((with_reducible show PE _ (Expr.BinOp _ Operator.Mult _ _) (tD _ _ _ _));generalize hS:Expr.BinOp _ _ _ _=e;refine Lp M5 hS ?_ ?_) | ((with_reducible show PA _ (_ :: _) (tDs _ _ _ _));generalize hS:(_ :: _:List Expr)=es;refine kZ hS ?_ ?_) | ((with_reducible show PE _ _ (tD _ _ _ _));first | walk_at "e") | ((with_reducible show PA _ _ (tDs _ _ _ _));first | refine ZY ?_ ?_ | exact Yu) | ((with_reducible show PSs _ _ (tS _ _ _ _ _));first | refine Xb ?_ ?_ | refine XM ?_ | exact Rl | exact sD_nevers) | ((with_reducible show PS _ _ _);walk_at "s") | ((with_reducible show PT _ _ _);walk_at "t") | ((with_reducible show PW _ _ _);first | refine qe ?_ ?_ | refine Bh ?_ ?_ | refine jC ?_ | refine AG ?_) | ((with_reducible show PE _ _ (tL _ _ _ _));walk_at "l") | ((with_reducible show PI _ _ _ _);walk_at "i") | ((with_reducible show PG _ _ _);first | exact DA nm | exact DV | refine PY rfl ?_) | ((with_reducible show PGs _ _ _);first | exact PZ | refine WT ?_ ?_) | ((with_reducible show PO _ _ _);first | exact jB | refine jA ?_) | ((with_reducible show Yk _ _ _ _ _ _ _ _ _);refine fun cl C s0 H0 ex=>⟨fun B' G'=>?_,fun B' G'=>?_,?_⟩) | ((with_reducible show Xq _ _ _);first | exact BY | refine Ou ?_) | ((with_reducible show RW _ _ _ _ _ _);first | refine OH rfl rfl rfl fun B' G'=>?_ | refine xV rfl rfl rfl rfl (fun _=>rfl) (fun B' G'=>?_) (fun B' G'=>?_) (fun B' G'=>?_) ?_) | ((with_reducible show PE _ _ (tT _ _ _ _ _));first | refine peT_call (by assumption) hr (by walk_at "g") ?_ | exact peT_nil | exact peT_dnil | refine qi ?_) | ((with_reducible show DPs _ _ _ _ _ _);first | exact BH | refine qo (fun B'=>?_) (fun B'=>?_) ?_) | ((with_reducible show PSs _ _ (tSO _ _ _ _ _));first | refine DZ ?_ | refine Ao ?_ ?_))))
section
variable{P:Uw}{w:World}{K:Frag}{mg:Str->yj}{base:Heap}{f:Ux}{fd:Uy}(T:Txt K mg)
include T
theorem Kbs(F:Fun K "_law_cell_at" "_law_cell_at" Sbs f fd):FnOk P w K mg base CX0 1 f fd ["_law_script", "_law_k"] (spD K 2 Xs):=
 okD (k:=0) (g:=W3) F (fq Hbs 2) w8 λcdv A outer s H E B G0 hr=>
 have nm:=Hbs
 by walk_at "d"
theorem Kbe(F:Fun K "way_round" "way_round" Sbe f fd):FnOk P w K mg base CX0 1 f fd ["nothing", "steps"] (spD K 2 Xu):=
 okD (k:=0) (g:=Sk) F (fq Hbe 2) w8 λcdv A outer s H E B G0 hr=>
 have nm:=Hbe
 by walk_at "d"
theorem Kaw(F:Fun K "behind_way" "behind_way" Saw f fd):FnOk P w K mg base CX0 1 f fd ["dealing", "way"] (spD K 2 X3):=
 okD (k:=0) (g:=Sv) F (fq Haw 2) w8 λcdv A outer s H E B G0 hr=>
 have nm:=Haw
 by walk_at "d"
theorem Kbo(zu:Def P w K mg base "way_round" 1 2 Xu)(zx:Def P w K mg base "behind_way" 1 2 X3)(F:Fun K "shown_by_rounds" "shown_by_rounds" Sbo f fd):FnOk P w K mg base CX0 2 f fd ["dealing", "steps", "roads"] (spD K 3 Wt):=
 okD (k:=1) (g:=T8) F (fq Hbo 3) w8 λcdv A outer s H E B G0 hr=>
 have nm:=Hbo
 by walk_at "d"
theorem Kbi(F:Fun K "asks_beyond" "asks_beyond" Sbi f fd):FnOk P w K mg base CX0 1 f fd ["askers", "worths", "prices"] (spD K 3 Vr):=
 okD (k:=0) (g:=Se) F (fq Hbi 3) w8 λcdv A outer s H E B G0 hr=>
 have nm:=Hbi
 by walk_at "d"
theorem Kbm(F:Fun K "strict_prices" "strict_prices" Sbm f fd):FnOk P w K mg base CX0 1 f fd ["prices", "roads"] (spD K 2 Vn):=
 okD (k:=0) (g:=Sa) F (fq Hbm 2) w8 λcdv A outer s H E B G0 hr=>
 have nm:=Hbm
 by walk_at "d"
theorem Kbn(ba:Def P w K mg base "asks_beyond" 1 3 Vr)(aY:Def P w K mg base "strict_prices" 1 2 Vn)(F:Fun K "strict_paper" "strict_paper" Sbn f fd):FnOk P w K mg base CX0 2 f fd ["askers", "worths", "prices", "roads"] (spD K 4 Vm):=
 okD (k:=1) (g:=T9) F (fq Hbn 4) w8 λcdv A outer s H E B G0 hr=>
 have nm:=Hbn
 by walk_at "d"
theorem Kbk(F:Fun K "roads_from" "roads_from" Sbk f fd):FnOk P w K mg base CX0 1 f fd ["place", "places", "steps"] (spD K 3 Vp):=
 okD (k:=0) (g:=Sc) F (fq Hbk 3) w8 λcdv A outer s H E B G0 hr=>
 have nm:=Hbk
 by walk_at "d"
theorem Kbl(a8:Def P w K mg base "roads_from" 1 3 Vp)(F:Fun K "all_roads" "all_roads" Sbl f fd):FnOk P w K mg base CX0 2 f fd ["places", "steps"] (spD K 2 Vo):=
 okD (k:=1) (g:=Sb) F (fq Hbl 2) w8 λcdv A outer s H E B G0 hr=>
 have nm:=Hbl
 by walk_at "d"
theorem Kax(F:Fun K "place_of" "place_of" Sax f fd):FnOk P w K mg base CX0 1 f fd ["nothing", "got"] (spD K 2 Wv):=
 okD (k:=0) (g:=Su) F (fq Hax 2) w8 λcdv A outer s H E B G0 hr=>
 have nm:=Hax
 by walk_at "d"
theorem Kay(zR:Def P w K mg base "place_of" 1 2 Wv)(F:Fun K "steps_of_askers" "steps_of_askers" Say f fd):FnOk P w K mg base CX0 2 f fd ["nothing", "worths", "dealing"] (spD K 3 Vx):=
 okD (k:=1) (g:=Ss) F (fq Hay 3) w8 λcdv A outer s H E B G0 hr=>
 have hu:=hr.units;have hgd:=hr.gd
 (Xb (Ow (i:=3) (nq Hay) w8 (lq Hay 3) (HI (RA (ZY Rm Yu)) (GA (gq Hay 2) T.b_len (pq Hay 2))))
 (Xb (Rk UN w8 (R1 (Ze (pq Hay 1))) (PY w8 (WT (Xj (Xk (i:=4) (nq Hay) w8 (lq Hay 4))) (WT (Xj (Xk (i:=5) (nq Hay) w8 (lq Hay 5))) (WT (Xj (Xk (i:=6) (nq Hay) w8 (lq Hay 6))) PZ))))
 (XM (Rc (RB (Wz hu) (WH (pq Hay 2) (Ze (pq Hay 4)) (λ_ _=>rfl)) (Ze (pq Hay 5)) (V8 _))
 (XM (Gm (Ze (pq Hay 6)) (pq Hay 3) (Ze (pq Hay 4))))
 Rl)))
 (Xb (DC (j:=7) (ZM Say) SW ["nothing", "worths", "dealing", "had", ".asker", "thing", "worth", "told", "asker", "got"] 2 OB (nq Hay) w8 w8 w8 (λB' G'=>(Ga (gq Hay 1) T.b_enumerate (ZY (Ze (pq Hay 2)) Yu))) (λcl C s0 H0 ex=>⟨λB' G'=>(PY w8 (WT (Xj (Xk (i:=8) (show(["nothing", "worths", "dealing", "had", ".asker", "thing", "worth", "told", "asker", "got"]:List Str).Nodup by decide +kernel) w8 (WG w8).1 (WG w8).2)) (WT (Xj (Xk (i:=9) (show(["nothing", "worths", "dealing", "had", ".asker", "thing", "worth", "told", "asker", "got"]:List Str).Nodup by decide +kernel) w8 (WG w8).1 (WG w8).2)) PZ))),λB' G'=>(Ou (GB (Ze (pvb 9)))),(OH w8 w8 w8 λB' G'=>(Ox (ZY (Ze (pvb 9)) (ZY (Ze (pvb 0)) (ZY (HZ (WH (pvb 3) (Ze (pvb 8)) (λ_ _=>rfl))) (ZY (Ze (pvb 8)) Yu))))))⟩) w8 w8 (by decide +kernel))
 (Xb (Rk UN w8 (R1 (Ze (pq Hay 1))) (PY w8 (WT (Xj (Xk (i:=4) (nq Hay) w8 (lq Hay 4))) (WT (Xj (Xk (i:=5) (nq Hay) w8 (lq Hay 5))) (WT (Xj (Xk (i:=6) (nq Hay) w8 (lq Hay 6))) PZ))))
 (XM (Rc (RB (SY hu) (WH (pq Hay 2) (Ze (pq Hay 4)) (λ_ _=>rfl)) (Ze (pq Hay 5)) (V8 _))
 (XM (PX (pq Hay 7) (Ox (ZY (pdf zR hr (gq Hay 0) (ZY (Ze (pq Hay 0)) (ZY (WH (pq Hay 2) (Ze (pq Hay 4)) (λ_ _=>rfl)) Yu))) (ZY (Ze (pq Hay 5)) (ZY (V1 M6 (Ze (pq Hay 6)) (WH (pq Hay 3) (Ze (pq Hay 4)) (λ_ _=>rfl))) (ZY (Ze (pq Hay 4)) Yu)))))))
 Rl)))
 (XM (P0 (Ze (pq Hay 7))))))))
theorem Kaa(F:Fun K "is_whole" "is_whole" Saa f fd):FnOk P w K mg base CX0 1 f fd ["thing"] (spD K 1 VP):=
 okD (k:=0) (g:=SU) F (fq Haa 1) w8 λcdv A outer s H E B G0 hr=>
 have nm:=Haa
 by walk_at "d"
theorem Kac(bG:Def P w K mg base "is_whole" 1 1 VP)(F:Fun K "is_number_below" "is_number_below" Sac f fd):FnOk P w K mg base CX0 2 f fd ["thing", "many"] (spD K 2 Z8):=
 okD (k:=1) (g:=SS) F (fq Hac 2) w8 λcdv A outer s H E B G0 hr=>
 have nm:=Hac
 by walk_at "d"
theorem Kae(yD:Def P w K mg base "is_number_below" 2 2 Z8)(F:Fun K "is_rank" "is_rank" Sae f fd):FnOk P w K mg base CX0 3 f fd ["thing", "things"] (spD K 2 Wx):=
 okD (k:=2) (g:=SQ) F (fq Hae 2) w8 λcdv A outer s H E B G0 hr=>
 have nm:=Hae
 by walk_at "d"
theorem Kaf(bE:Def P w K mg base "is_rank" 3 2 Wx)(F:Fun K "is_asker_list" "is_asker_list" Saf f fd):FnOk P w K mg base CX0 4 f fd ["thing", "things"] (spD K 2 VN):=
 okD (k:=3) (g:=SO) F (fq Haf 2) w8 λcdv A outer s H E B G0 hr=>
 have nm:=Haf
 by walk_at "d"
theorem Kag(bD:Def P w K mg base "is_asker_list" 4 2 VN)(F:Fun K "look_at_lists" "look_at_lists" Sag f fd):FnOk P w K mg base CX0 5 f fd ["lists", "things"] (spD K 2 VM):=
 okD (k:=4) (g:=SN) F (fq Hag 2) w8 λcdv A outer s H E B G0 hr=>
 have nm:=Hag
 by walk_at "d"
theorem Kad(yD:Def P w K mg base "is_number_below" 2 2 Z8)(F:Fun K "look_at_copies" "look_at_copies" Sad f fd):FnOk P w K mg base CX0 3 f fd ["copies"] (spD K 1 VO):=
 okD (k:=2) (g:=SR) F (fq Had 1) w8 λcdv A outer s H E B G0 hr=>
 have nm:=Had
 by walk_at "d"
theorem Kah(bC:Def P w K mg base "look_at_lists" 5 2 VM)(bF:Def P w K mg base "look_at_copies" 3 1 VO)(F:Fun K "look_at_wishes" "look_at_wishes" Sah f fd):FnOk P w K mg base CX0 6 f fd ["thing"] (spD K 1 YD):=
 okD (k:=5) (g:=SL) F (fq Hah 1) w8 λcdv A outer s H E B G0 hr=>
 have nm:=Hah
 by walk_at "d"
theorem Kal(yC:Def P w K mg base "look_at_wishes" 6 1 YD)(F:Fun K "copies_left" "copies_left" Sal f fd):FnOk P w K mg base CX0 7 f fd ["wishes", "dealing"] (spD K 2 VH):=
 okD (k:=6) (g:=SH) F (fq Hal 2) w8 λcdv A outer s H E B G0 hr=>
 have nm:=Hal
 by walk_at "d"
theorem Kaz(bx:Def P w K mg base "copies_left" 7 2 VH)(F:Fun K "steps_of_copies" "steps_of_copies" Saz f fd):FnOk P w K mg base CX0 8 f fd ["wishes", "dealing"] (spD K 2 Vw):=
 okD (k:=7) (g:=Sr) F (fq Haz 2) w8 λcdv A outer s H E B G0 hr=>
 have nm:=Haz
 by walk_at "d"
theorem Kba(bj:Def P w K mg base "steps_of_askers" 2 3 Vx)(bi:Def P w K mg base "steps_of_copies" 8 2 Vw)(F:Fun K "all_steps" "all_steps" Sba f fd):FnOk P w K mg base CX0 9 f fd ["wishes", "worths", "dealing"] (spD K 3 YC):=
 okD (k:=8) (g:=Sq) F (fq Hba 3) w8 λcdv A outer s H E B G0 hr=>
 have nm:=Hba
 by walk_at "d"
theorem Kbj(F:Fun K "tight_steps" "tight_steps" Sbj f fd):FnOk P w K mg base CX0 1 f fd ["steps", "prices"] (spD K 2 Vq):=
 okD (k:=0) (g:=Sd) F (fq Hbj 2) w8 λcdv A outer s H E B G0 hr=>
 have nm:=Hbj
 by walk_at "d"
theorem Kbb(F:Fun K "longer_walks" "longer_walks" Sbb f fd):FnOk P w K mg base CX0 1 f fd ["walks", "steps"] (spD K 2 Vv):=
 okD (k:=0) (g:=So) F (fq Hbb 2) w8 λcdv A outer s H E B G0 hr=>
 have nm:=Hbb
 by walk_at "d"
theorem Kbc(bg:Def P w K mg base "longer_walks" 1 2 Vv)(F:Fun K "widest_walks" "widest_walks" Sbc f fd):FnOk P w K mg base CX0 2 f fd ["places", "steps"] (spD K 2 X2):=
 okD (k:=1) (g:=Sn) F (fq Hbc 2) w8 λcdv A outer s H E B G0 hr=>
 have nm:=Hbc
 by walk_at "d"
theorem Kbh(yP:Def P w K mg base "all_steps" 9 3 YC)(zw:Def P w K mg base "widest_walks" 2 2 X2)(F:Fun K "prices_for" "prices_for" Sbh f fd):FnOk P w K mg base CX0 10 f fd ["wishes", "worths", "dealing"] (spD K 3 Vs):=
 okD (k:=9) (g:=Sf) F (fq Hbh 3) w8 λcdv A outer s H E B G0 hr=>
 have nm:=Hbh
 by walk_at "d"
theorem Kbd(F:Fun K "round_within" "round_within" Sbd f fd):FnOk P w K mg base CX0 1 f fd ["walk"] (spD K 1 Vu):=
 okD (k:=0) (g:=Sm) F (fq Hbd 1) w8 λcdv A outer s H E B G0 hr=>
 have nm:=Hbd
 by walk_at "d"
theorem Kbf(yP:Def P w K mg base "all_steps" 9 3 YC)(zw:Def P w K mg base "widest_walks" 2 2 X2)(bf:Def P w K mg base "round_within" 1 1 Vu)(zu:Def P w K mg base "way_round" 1 2 Xu)(F:Fun K "gaining_way" "gaining_way" Sbf f fd):FnOk P w K mg base CX0 10 f fd ["wishes", "worths", "dealing"] (spD K 3 Wu):=
 okD (k:=9) (g:=Sj) F (fq Hbf 3) w8 λcdv A outer s H E B G0 hr=>
 have nm:=Hbf
 by walk_at "d"
theorem Kbg(be:Def P w K mg base "gaining_way" 10 3 Wu)(zx:Def P w K mg base "behind_way" 1 2 X3)(F:Fun K "best_by" "best_by" Sbg f fd):FnOk P w K mg base CX0 11 f fd ["wishes", "worths"] (spD K 2 Vt):=
 okD (k:=10) (g:=Sg) F (fq Hbg 2) w8 λcdv A outer s H E B G0 hr=>
 have nm:=Hbg
 by walk_at "d"
theorem Kak(yC:Def P w K mg base "look_at_wishes" 6 1 YD)(F:Fun K "all_wishes" "all_wishes" Sak f fd):FnOk P w K mg base CX0 7 f fd ["wishes"] (spD K 1 VI):=
 okD (k:=6) (g:=SI) F (fq Hak 1) w8 λcdv A outer s H E B G0 hr=>
 have nm:=Hak
 by walk_at "d"
theorem Kar(F:Fun K "power" "power" Sar f fd):FnOk P w K mg base CX0 1 f fd ["base", "times"] (spD K 2 ZO):=
 okD (k:=0) (g:=SA) F (fq Har 2) w8 λcdv A outer s H E B G0 hr=>
 have nm:=Har
 by walk_at "d"
theorem Kat(yQ:Def P w K mg base "power" 1 2 ZO)(F:Fun K "worth_by_turns" "worth_by_turns" Sat f fd):FnOk P w K mg base CX0 2 f fd ["turns", "base", "asker", "rank"] (spD K 4 Vz):=
 okD (k:=1) (g:=Sy) F (fq Hat 4) w8 λcdv A outer s H E B G0 hr=>
 have nm:=Hat
 by walk_at "d"
theorem Kas(yQ:Def P w K mg base "power" 1 2 ZO)(F:Fun K "worth_by_order" "worth_by_order" Sas f fd):FnOk P w K mg base CX0 2 f fd ["order", "base", "most", "rank"] (spD K 4 VA):=
 okD (k:=1) (g:=Sz) F (fq Has 4) w8 λcdv A outer s H E B G0 hr=>
 have nm:=Has
 by walk_at "d"
theorem Kai(F:Fun K "rank_in" "rank_in" Sai f fd):FnOk P w K mg base CX0 1 f fd ["ranks", "thing"] (spD K 2 VL):=
 okD (k:=0) (g:=SK) F (fq Hai 2) w8 λcdv A outer s H E B G0 hr=>
 have nm:=Hai
 by walk_at "d"
theorem Kau(yQ:Def P w K mg base "power" 1 2 ZO)(bp:Def P w K mg base "worth_by_turns" 2 4 Vz)(bq:Def P w K mg base "worth_by_order" 2 4 VA)(bB:Def P w K mg base "rank_in" 1 2 VL)(F:Fun K "worth_by_aim" "worth_by_aim" Sau f fd):FnOk P w K mg base CX0 3 f fd ["wishes", "aim", "most", "asker", "thing"] (spD K 5 Ww):=
 okD (k:=2) (g:=Sx) F (fq Hau 5) w8 λcdv A outer s H E B G0 hr=>
 have nm:=Hau
 by walk_at "d"
theorem Kaj(yC:Def P w K mg base "look_at_wishes" 6 1 YD)(F:Fun K "longest" "longest" Saj f fd):FnOk P w K mg base CX0 7 f fd ["wishes"] (spD K 1 VJ):=
 okD (k:=6) (g:=SJ) F (fq Haj 1) w8 λcdv A outer s H E B G0 hr=>
 have nm:=Haj
 by walk_at "d"
theorem Kap(yD:Def P w K mg base "is_number_below" 2 2 Z8)(F:Fun K "is_turns" "is_turns" Sap f fd):FnOk P w K mg base CX0 3 f fd ["thing", "askers"] (spD K 2 VD):=
 okD (k:=2) (g:=SD) F (fq Hap 2) w8 λcdv A outer s H E B G0 hr=>
 have nm:=Hap
 by walk_at "d"
theorem Kao(yD:Def P w K mg base "is_number_below" 2 2 Z8)(F:Fun K "is_old" "is_old" Sao f fd):FnOk P w K mg base CX0 3 f fd ["thing", "askers", "things"] (spD K 3 VE):=
 okD (k:=2) (g:=SE) F (fq Hao 3) w8 λcdv A outer s H E B G0 hr=>
 have nm:=Hao
 by walk_at "d"
theorem Kam(F:Fun K "is_order" "is_order" Sam f fd):FnOk P w K mg base CX0 1 f fd ["thing"] (spD K 1 VG):=
 okD (k:=0) (g:=SG) F (fq Ham 1) w8 λcdv A outer s H E B G0 hr=>
 have nm:=Ham
 by walk_at "d"
theorem Kan(bw:Def P w K mg base "is_order" 1 1 VG)(F:Fun K "look_at_order" "look_at_order" San f fd):FnOk P w K mg base CX0 2 f fd ["thing"] (spD K 1 VF):=
 okD (k:=1) (g:=SF) F (fq Han 1) w8 λcdv A outer s H E B G0 hr=>
 have nm:=Han
 by walk_at "d"
theorem Kaq(bt:Def P w K mg base "is_turns" 3 2 VD)(bu:Def P w K mg base "is_old" 3 3 VE)(bv:Def P w K mg base "look_at_order" 2 1 VF)(yC:Def P w K mg base "look_at_wishes" 6 1 YD)(F:Fun K "look_at_aim" "look_at_aim" Saq f fd):FnOk P w K mg base CX0 7 f fd ["wishes", "thing"] (spD K 2 VC):=
 okD (k:=6) (g:=SB) F (fq Haq 2) w8 λcdv A outer s H E B G0 hr=>
 have nm:=Haq
 by walk_at "d"
theorem Kav(bz:Def P w K mg base "all_wishes" 7 1 VI)(bo:Def P w K mg base "worth_by_aim" 3 5 Ww)(bA:Def P w K mg base "longest" 7 1 VJ)(br:Def P w K mg base "look_at_aim" 7 2 VC)(F:Fun K "all_worths" "all_worths" Sav f fd):FnOk P w K mg base CX0 8 f fd ["wishes", "aim"] (spD K 2 Vy):=
 okD (k:=7) (g:=Sw) F (fq Hav 2) w8 λcdv A outer s H E B G0 hr=>
 have nm:=Hav
 by walk_at "d"
theorem Kbp(aW:Def P w K mg base "shown_by_rounds" 2 3 Wt)(aX:Def P w K mg base "strict_paper" 2 4 Vm)(aZ:Def P w K mg base "all_roads" 2 2 Vo)(yP:Def P w K mg base "all_steps" 9 3 YC)(a9:Def P w K mg base "tight_steps" 1 2 Vq)(bc:Def P w K mg base "prices_for" 10 3 Vs)(bd:Def P w K mg base "best_by" 11 2 Vt)(bn:Def P w K mg base "all_worths" 8 2 Vy)(F:Fun K "web_of" "web_of" Sbp f fd):FnOk P w K mg base CX0 12 f fd ["wishes", "aim"] (spD K 2 Vl):=
 okD (k:=11) (g:=T7) F (fq Hbp 2) w8 λcdv A outer s H E B G0 hr=>
 have nm:=Hbp
 by walk_at "d"
theorem wY(F:Fun K "above_nought" "above_nought" EY f fd):FnOk P w K mg base CX0 1 f fd ["numbers"] (spO K 1 RI):=
 okO (k:=0) (g:=EW) F (fq EZ 1) w8 λcdv A outer s H E B G0 hr=>
 have nm:=EZ
 by walk_at "d"
theorem q8(yr:X4 P w K mg base "above_nought" 1 1 RI)(F:Fun K "full" "full" L6 f fd):FnOk P w K mg base CX0 2 f fd ["web"] (spO K 1 Of):=
 okO (k:=1) (g:=NM) F (fq GO 1) w8 λcdv A outer s H E B G0 hr=>
 have nm:=GO
 by walk_at "d"
theorem vp(yr:X4 P w K mg base "above_nought" 1 1 RI)(F:Fun K "served" "served" FQ f fd):FnOk P w K mg base CX0 2 f fd ["web"] (spO K 1 OT):=
 okO (k:=1) (g:=MC) F (fq Ew 1) w8 λcdv A outer s H E B G0 hr=>
 have nm:=Ew
 by walk_at "d"
theorem Kcc(zQ:Def P w K mg base "web_of" 12 2 Vl)(yz:X4 P w K mg base "full" 2 1 Of)(yu:X4 P w K mg base "served" 2 1 OT)(F:Fun K "_law_right" "_law_right" Scc f fd):FnOk P w K mg base CX0 13 f fd ["_law_wishes_here", "_law_aim_here", "_law_best"] (spD K 3 Vd):=
 okD (k:=12) (g:=TV) F (fq Hcc 3) w8 λcdv A outer s H E B G0 hr=>
 have hu:=hr.units;have hgd:=hr.gd
 (Xb (Np (i:=3) (nq Hcc) w8 (lq Hcc 3) (pdf zQ hr (gq Hcc 5) (ZY (Ze (pq Hcc 0)) (ZY (Ze (pq Hcc 1)) Yu))))
 (Xb (Np (i:=4) (nq Hcc) w8 (lq Hcc 4) (Wi (NN hu hgd T.sm) (gq Hcc 0) T.b_repr MG (ZY (Ze (pq Hcc 3)) Yu)))
 (Xb (Ow (i:=5) (nq Hcc) w8 (lq Hcc 5) (Ov Yu))
 (Xb (Rk UN w8 (OJ (gq Hcc 1) T.b_range (ZY (Wi PF (gq Hcc 4) T.b_len boot_len (ZY (WH (pq Hcc 0) Rm (λ_ _=>rfl)) Yu)) Yu)) (Xj (Xk (i:=6) (nq Hcc) w8 (lq Hcc 6)))
 (XM (Rc (RB (Wz hu) (Ny (O2 (ZM Scc) Vb ["_law_wishes_here", "_law_aim_here", "_law_best", "_law_web", "_law_kept", "_law_due", "_law_asker", "_law_things", "_law_what", "_law_turn", "_law_found", "_law_dealing"] 1 OB w8 (R1 (Ze (pq Hcc 2))) (λcl C s0 H0 ex=>⟨λB' G'=>(Xj (Xk (i:=11) (show(["_law_wishes_here", "_law_aim_here", "_law_best", "_law_web", "_law_kept", "_law_due", "_law_asker", "_law_things", "_law_what", "_law_turn", "_law_found", "_law_dealing"]:List Str).Nodup by decide +kernel) w8 (WG w8).1 (WG w8).2)),λB' G'=>(Ou (Gc (WH (pvb 11) (Ze (pvb 6)) (λ_ _=>rfl)))),(OH w8 w8 w8 λB' G'=>(Ze (pvb 11)))⟩) w8 w8 (by decide +kernel))) (RA Yu) (V8 _))
 (XM (PX (pq Hcc 5) (Ze (pq Hcc 6))))
 Rl)))
 (Xb (Ow (i:=7) (nq Hcc) w8 (lq Hcc 7) (Ov Yu))
 (Xb (Rk UN w8 (OJ (gq Hcc 1) T.b_range (ZY (Wi PF (gq Hcc 4) T.b_len boot_len (ZY (WH (pq Hcc 0) Rm (λ_ _=>rfl)) Yu)) Yu)) (Xj (Xk (i:=8) (nq Hcc) w8 (lq Hcc 8)))
 (XM (Rc (RB (Wz hu) (Ny (O2 (ZM Scc) Vb ["_law_wishes_here", "_law_aim_here", "_law_best", "_law_web", "_law_kept", "_law_due", "_law_asker", "_law_things", "_law_what", "_law_turn", "_law_found", "_law_dealing"] 1 OB w8 (R1 (Ze (pq Hcc 2))) (λcl C s0 H0 ex=>⟨λB' G'=>(Xj (Xk (i:=11) (show(["_law_wishes_here", "_law_aim_here", "_law_best", "_law_web", "_law_kept", "_law_due", "_law_asker", "_law_things", "_law_what", "_law_turn", "_law_found", "_law_dealing"]:List Str).Nodup by decide +kernel) w8 (WG w8).1 (WG w8).2)),λB' G'=>(Ou (RB B_lt (FC hu (Ze (pvb 11)) (ZY (Ze (pvb 8)) Yu)) (Lx (WH (pvb 0) Rm (λ_ _=>rfl)) (Ze (pvb 8)) (λ_ _=>rfl)) (V8 _))),(OH w8 w8 w8 λB' G'=>(Ze (pvb 11)))⟩) w8 w8 (by decide +kernel))) (RA Yu) (V8 _))
 (XM (PX (pq Hcc 7) (Ze (pq Hcc 8))))
 Rl)))
 (Xb (Rk UN w8 (OJ (gq Hcc 1) T.b_range (ZY Rm Yu)) (Xj (Xk (i:=9) (nq Hcc) w8 (lq Hcc 9)))
 (Xb (HD (i:=10) (nq Hcc) w8 (lq Hcc 10) (ja (GQ (HC (MD yu hr (gq Hcc 3) (ZY (Ze (pq Hcc 3)) Yu))) (λB' G'=>(GQ (HC (MD yz hr (gq Hcc 2) (ZY (Ze (pq Hcc 3)) Yu))) (λB' G'=>Ad)))) (by intro q h;simpa using h)))
 (Xb (Rc (GS λB' G'=>(Gk (SY hu) (pq Hcc 10) (RA (ZY (Ze (pq Hcc 5)) (ZY (Ze (pq Hcc 7)) Yu))) (V8 _)))
 (XM (P0 Gh))
 Rl)
 (Xb (Hz (HA (k:=0) (HB (pq Hcc 10))) P4 (λ_=>.int _))
 (XM (Hz (HA (k:=1) (HB (pq Hcc 10))) P4 (λ_=>.int _)))))))
 (XM (P0 (Gd (Wz hu) (Wi (NN hu hgd T.sm) (gq Hcc 0) T.b_repr MG (ZY (Ze (pq Hcc 3)) Yu)) (Ze (pq Hcc 4)) (V8 _)))))))))))
theorem Kbv(F:Fun K "_law_rank" "_law_rank" Sbv f fd):FnOk P w K mg base CX0 1 f fd ["_law_wishes_here", "_law_asker", "_law_thing"] (spD K 3 Vj):=
 okD (k:=0) (g:=T4) F (fq Hbv 3) w8 λcdv A outer s H E B G0 hr=>
 have nm:=Hbv
 by walk_at "d"
theorem Kbw(F:Fun K "_law_longest" "_law_longest" Sbw f fd):FnOk P w K mg base CX0 1 f fd ["_law_wishes_here"] (spD K 1 Vi):=
 okD (k:=0) (g:=T3) F (fq Hbw 1) w8 λcdv A outer s H E B G0 hr=>
 have nm:=Hbw
 by walk_at "d"
theorem Kbz(aU:Def P w K mg base "_law_rank" 1 3 Vj)(aT:Def P w K mg base "_law_longest" 1 1 Vi)(F:Fun K "_law_worth" "_law_worth" Sbz f fd):FnOk P w K mg base CX0 2 f fd ["_law_wishes_here", "_law_aim_here", "_law_asker", "_law_thing"] (spD K 4 Vf):=
 okD (k:=1) (g:=TY) F (fq Hbz 4) w8 λcdv A outer s H E B G0 hr=>
 have nm:=Hbz
 by walk_at "d"
theorem Kca(aQ:Def P w K mg base "_law_worth" 2 4 Vf)(F:Fun K "_law_whole" "_law_whole" Sca f fd):FnOk P w K mg base CX0 3 f fd ["_law_wishes_here", "_law_aim_here", "_law_dealing"] (spD K 3 Ws):=
 okD (k:=2) (g:=TX) F (fq Hca 3) w8 λcdv A outer s H E B G0 hr=>
 have nm:=Hca
 by walk_at "d"
theorem Kbt(F:Fun K "_law_numbers" "_law_numbers" Sbt f fd):FnOk P w K mg base CX0 1 f fd ["_law_cell", "_law_salt", "_law_sizes"] (spD K 3 Xr):=
 okD (k:=0) (g:=T6) F (fq Hbt 3) w8 λcdv A outer s H E B G0 hr=>
 have nm:=Hbt
 by walk_at "d"
theorem Kby(zq:Def P w K mg base "_law_numbers" 1 3 Xr)(F:Fun K "_law_aim" "_law_aim" Sby f fd):FnOk P w K mg base CX0 2 f fd ["_law_wishes_here", "_law_cell", "_law_salt"] (spD K 3 Vg):=
 okD (k:=1) (g:=TZ) F (fq Hby 3) w8 λcdv A outer s H E B G0 hr=>
 have nm:=Hby
 by walk_at "d"
theorem Kbx(F:Fun K "_law_wished" "_law_wished" Sbx f fd):FnOk P w K mg base CX0 1 f fd ["_law_wishes_here", "_law_asker"] (spD K 2 Vh):=
 okD (k:=0) (g:=T2) F (fq Hbx 2) w8 λcdv A outer s H E B G0 hr=>
 have nm:=Hbx
 by walk_at "d"
theorem Kcb(aS:Def P w K mg base "_law_wished" 1 2 Vh)(F:Fun K "_law_all" "_law_all" Scb f fd):FnOk P w K mg base CX0 2 f fd ["_law_wishes_here"] (spD K 1 Ve):=
 okD (k:=1) (g:=TW) F (fq Hcb 1) w8 λcdv A outer s H E B G0 hr=>
 have nm:=Hcb
 by walk_at "d"
theorem Kbu(zq:Def P w K mg base "_law_numbers" 1 3 Xr)(zr:Def P w K mg base "_law_cell_at" 1 2 Xs)(F:Fun K "_law_wishes" "_law_wishes" Sbu f fd):FnOk P w K mg base CX0 2 f fd ["_law_script", "_law_at", "_law_most_things", "_law_most_askers", "_law_most_ranks"] (spD K 5 Vk):=
 okD (k:=1) (g:=T5) F (fq Hbu 5) w8 λcdv A outer s H E B G0 hr=>
 have nm:=Hbu
 by walk_at "d"
theorem Kcd(zr:Def P w K mg base "_law_cell_at" 1 2 Xs)(aN:Def P w K mg base "_law_right" 13 3 Vd)(aP:Def P w K mg base "_law_whole" 3 3 Ws)(aR:Def P w K mg base "_law_aim" 2 3 Vg)(aO:Def P w K mg base "_law_all" 2 1 Ve)(aV:Def P w K mg base "_law_wishes" 2 5 Vk)(F:Fun K "law" "law" Scd f fd):FnOk P w K mg base CX0 14 f fd ["_law_script"] (spD K 1 Vc):=
 okD (k:=13) (g:=TU) F (fq Hcd 1) w8 λcdv A outer s H E B G0 hr=>
 have nm:=Hcd
 by walk_at "d"
end
theorem KO:recsOf q0=Rq p0 ixL:=by show recsOf (PySem.W.view PySem.Challenge.pw_wishdeal_k59_served_and_full X7)=Rq PySem.Challenge.pw_wishdeal_k59_served_and_full ixL;rw[PySem.W.Fast.te3399658132070893891,PySem.W.Fast.te2770511491351795411];kernel_rfl
theorem Y9:(["all", "bool", "enumerate", "int", "isinstance", "len", "list", "max", "range", "repr", "set", "sorted", "str", "sum", "tuple", "zip"]:List Str).all (Px q0 (PySem.W.looseW q0 []))=ya:=by show List.all _ (Px (PySem.W.view PySem.Challenge.pw_wishdeal_k59_served_and_full X7) (PySem.W.looseW (PySem.W.view PySem.Challenge.pw_wishdeal_k59_served_and_full X7) []))=ya;k_qdec
theorem wT:valOf q0 "MOST_ASKERS" = O (.int 7):=by show valOf (PySem.W.view PySem.Challenge.pw_wishdeal_k59_served_and_full X7) _=_;rw[JA,PySem.W.Fast.te2770511491351795411];kernel_rfl
theorem wS:valOf q0 "MOST_COPIES" = O (.int 7):=by show valOf (PySem.W.view PySem.Challenge.pw_wishdeal_k59_served_and_full X7) _=_;rw[JA,PySem.W.Fast.te2770511491351795411];kernel_rfl
theorem wE:valOf q0 "MOST_RANKS" = O (.int 5):=by show valOf (PySem.W.view PySem.Challenge.pw_wishdeal_k59_served_and_full X7) _=_;rw[JA,PySem.W.Fast.te2770511491351795411];kernel_rfl
theorem wR:valOf q0 "MOST_THINGS" = O (.int 6):=by show valOf (PySem.W.view PySem.Challenge.pw_wishdeal_k59_served_and_full X7) _=_;rw[JA,PySem.W.Fast.te2770511491351795411];kernel_rfl
theorem j4:tupStrsOf q0 "ORDERS" = O (["firsts", "full", "lasts"]:List Str):=by show tupStrsOf (PySem.W.view PySem.Challenge.pw_wishdeal_k59_served_and_full X7) _=_;rw[PySem.W.Fast.te14491516231548247274,PySem.W.Fast.te2770511491351795411];kernel_rfl
theorem DS{l:PySem.W.OpenLaw}{w:World}{s0:Uv}{mg mb:Str->yj}{fa:Ux}{h:Heap}{XP:(Str->yj)->Heap->Prop}(G:PySem.W.Ground q0 [] [] XP w s0 mg mb h)(hfa:mg "law" = O (.ref fa)) :
  ∃fd:Uy,(∀(s:Uv)(v:Uu),BindsTo s fd ⟨[v],[]⟩ [("_law_script", v)])/\∀base:Heap,FnOk l.prog w (whole h) mg base CX0 14 fa fd ["_law_script"] (spD (whole h) 1 Vc):=by
 have T:Txt (whole h) mg:=⟨Xd G.T Y9 (mq 0 w8),Xd G.T Y9 (mq 1 w8),Xd G.T Y9 (mq 2 w8),Xd G.T Y9 (mq 3 w8),Xd G.T Y9 (mq 4 w8),Xd G.T Y9 (mq 5 w8),Xd G.T Y9 (mq 6 w8),Xd G.T Y9 (mq 7 w8),Xd G.T Y9 (mq 8 w8),Xd G.T Y9 (mq 9 w8),Xd G.T Y9 (mq 10 w8),Xd G.T Y9 (mq 11 w8),Xd G.T Y9 (mq 12 w8),Xd G.T Y9 (mq 13 w8),Xd G.T Y9 (mq 14 w8),Xd G.T Y9 (mq 15 w8),OU G.T wT,OU G.T wS,OU G.T wE,OU G.T wR,xf G.B j4 (by decide),D0 (G.T.seer (by decide +kernel))⟩
 refine DG G.T KO 75 "law" rfl w8 hfa (λ_ _ _ _ _ _ _=>rfl) λbase=>?_
 have zr:=KS l.prog w base G.T KO 64 "_law_cell_at" rfl w8 (λF=>Kbs T  F) λ_ _ _ _ _ _ us hl=>bz2 (us:=us) hl λ_ _=>rfl
 have zu:=KS l.prog w base G.T KO 47 "way_round" rfl w8 (λF=>Kbe T  F) λ_ _ _ _ _ _ us hl=>bz2 (us:=us) hl λ_ _=>rfl
 have zx:=KS l.prog w base G.T KO 38 "behind_way" rfl w8 (λF=>Kaw T  F) λ_ _ _ _ _ _ us hl=>bz2 (us:=us) hl λ_ _=>rfl
 have aW:=KS l.prog w base G.T KO 58 "shown_by_rounds" rfl w8 (λF=>Kbo T zu zx F) λ_ _ _ _ _ _ us hl=>bz3 (us:=us) hl λ_ _ _=>rfl
 have ba:=KS l.prog w base G.T KO 51 "asks_beyond" rfl w8 (λF=>Kbi T  F) λ_ _ _ _ _ _ us hl=>bz3 (us:=us) hl λ_ _ _=>rfl
 have aY:=KS l.prog w base G.T KO 56 "strict_prices" rfl w8 (λF=>Kbm T  F) λ_ _ _ _ _ _ us hl=>bz2 (us:=us) hl λ_ _=>rfl
 have aX:=KS l.prog w base G.T KO 57 "strict_paper" rfl w8 (λF=>Kbn T ba aY F) λ_ _ _ _ _ _ us hl=>bz4 (us:=us) hl λ_ _ _ _=>rfl
 have a8:=KS l.prog w base G.T KO 54 "roads_from" rfl w8 (λF=>Kbk T  F) λ_ _ _ _ _ _ us hl=>bz3 (us:=us) hl λ_ _ _=>rfl
 have aZ:=KS l.prog w base G.T KO 55 "all_roads" rfl w8 (λF=>Kbl T a8 F) λ_ _ _ _ _ _ us hl=>bz2 (us:=us) hl λ_ _=>rfl
 have zR:=KS l.prog w base G.T KO 40 "place_of" rfl w8 (λF=>Kax T  F) λ_ _ _ _ _ _ us hl=>bz2 (us:=us) hl λ_ _=>rfl
 have bj:=KS l.prog w base G.T KO 41 "steps_of_askers" rfl w8 (λF=>Kay T zR F) λ_ _ _ _ _ _ us hl=>bz3 (us:=us) hl λ_ _ _=>rfl
 have bG:=KS l.prog w base G.T KO 1 "is_whole" rfl w8 (λF=>Kaa T  F) λ_ _ _ _ _ _ us hl=>bz1 (us:=us) hl λ_=>rfl
 have yD:=KS l.prog w base G.T KO 3 "is_number_below" rfl w8 (λF=>Kac T bG F) λ_ _ _ _ _ _ us hl=>bz2 (us:=us) hl λ_ _=>rfl
 have bE:=KS l.prog w base G.T KO 14 "is_rank" rfl w8 (λF=>Kae T yD F) λ_ _ _ _ _ _ us hl=>bz2 (us:=us) hl λ_ _=>rfl
 have bD:=KS l.prog w base G.T KO 15 "is_asker_list" rfl w8 (λF=>Kaf T bE F) λ_ _ _ _ _ _ us hl=>bz2 (us:=us) hl λ_ _=>rfl
 have bC:=KS l.prog w base G.T KO 16 "look_at_lists" rfl w8 (λF=>Kag T bD F) λ_ _ _ _ _ _ us hl=>bz2 (us:=us) hl λ_ _=>rfl
 have bF:=KS l.prog w base G.T KO 13 "look_at_copies" rfl w8 (λF=>Kad T yD F) λ_ _ _ _ _ _ us hl=>bz1 (us:=us) hl λ_=>rfl
 have yC:=KS l.prog w base G.T KO 17 "look_at_wishes" rfl w8 (λF=>Kah T bC bF F) λ_ _ _ _ _ _ us hl=>bz1 (us:=us) hl λ_=>rfl
 have bx:=KS l.prog w base G.T KO 22 "copies_left" rfl w8 (λF=>Kal T yC F) λ_ _ _ _ _ _ us hl=>bz2 (us:=us) hl λ_ _=>rfl
 have bi:=KS l.prog w base G.T KO 42 "steps_of_copies" rfl w8 (λF=>Kaz T bx F) λ_ _ _ _ _ _ us hl=>bz2 (us:=us) hl λ_ _=>rfl
 have yP:=KS l.prog w base G.T KO 43 "all_steps" rfl w8 (λF=>Kba T bj bi F) λ_ _ _ _ _ _ us hl=>bz3 (us:=us) hl λ_ _ _=>rfl
 have a9:=KS l.prog w base G.T KO 53 "tight_steps" rfl w8 (λF=>Kbj T  F) λ_ _ _ _ _ _ us hl=>bz2 (us:=us) hl λ_ _=>rfl
 have bg:=KS l.prog w base G.T KO 44 "longer_walks" rfl w8 (λF=>Kbb T  F) λ_ _ _ _ _ _ us hl=>bz2 (us:=us) hl λ_ _=>rfl
 have zw:=KS l.prog w base G.T KO 45 "widest_walks" rfl w8 (λF=>Kbc T bg F) λ_ _ _ _ _ _ us hl=>bz2 (us:=us) hl λ_ _=>rfl
 have bc:=KS l.prog w base G.T KO 50 "prices_for" rfl w8 (λF=>Kbh T yP zw F) λ_ _ _ _ _ _ us hl=>bz3 (us:=us) hl λ_ _ _=>rfl
 have bf:=KS l.prog w base G.T KO 46 "round_within" rfl w8 (λF=>Kbd T  F) λ_ _ _ _ _ _ us hl=>bz1 (us:=us) hl λ_=>rfl
 have be:=KS l.prog w base G.T KO 48 "gaining_way" rfl w8 (λF=>Kbf T yP zw bf zu F) λ_ _ _ _ _ _ us hl=>bz3 (us:=us) hl λ_ _ _=>rfl
 have bd:=KS l.prog w base G.T KO 49 "best_by" rfl w8 (λF=>Kbg T be zx F) λ_ _ _ _ _ _ us hl=>bz2 (us:=us) hl λ_ _=>rfl
 have bz:=KS l.prog w base G.T KO 20 "all_wishes" rfl w8 (λF=>Kak T yC F) λ_ _ _ _ _ _ us hl=>bz1 (us:=us) hl λ_=>rfl
 have yQ:=KS l.prog w base G.T KO 32 "power" rfl w8 (λF=>Kar T  F) λ_ _ _ _ _ _ us hl=>bz2 (us:=us) hl λ_ _=>rfl
 have bp:=KS l.prog w base G.T KO 34 "worth_by_turns" rfl w8 (λF=>Kat T yQ F) λ_ _ _ _ _ _ us hl=>bz4 (us:=us) hl λ_ _ _ _=>rfl
 have bq:=KS l.prog w base G.T KO 33 "worth_by_order" rfl w8 (λF=>Kas T yQ F) λ_ _ _ _ _ _ us hl=>bz4 (us:=us) hl λ_ _ _ _=>rfl
 have bB:=KS l.prog w base G.T KO 18 "rank_in" rfl w8 (λF=>Kai T  F) λ_ _ _ _ _ _ us hl=>bz2 (us:=us) hl λ_ _=>rfl
 have bo:=KS l.prog w base G.T KO 35 "worth_by_aim" rfl w8 (λF=>Kau T yQ bp bq bB F) λ_ _ _ _ _ _ us hl=>bz5 (us:=us) hl λ_ _ _ _ _=>rfl
 have bA:=KS l.prog w base G.T KO 19 "longest" rfl w8 (λF=>Kaj T yC F) λ_ _ _ _ _ _ us hl=>bz1 (us:=us) hl λ_=>rfl
 have bt:=KS l.prog w base G.T KO 29 "is_turns" rfl w8 (λF=>Kap T yD F) λ_ _ _ _ _ _ us hl=>bz2 (us:=us) hl λ_ _=>rfl
 have bu:=KS l.prog w base G.T KO 28 "is_old" rfl w8 (λF=>Kao T yD F) λ_ _ _ _ _ _ us hl=>bz3 (us:=us) hl λ_ _ _=>rfl
 have bw:=KS l.prog w base G.T KO 25 "is_order" rfl w8 (λF=>Kam T  F) λ_ _ _ _ _ _ us hl=>bz1 (us:=us) hl λ_=>rfl
 have bv:=KS l.prog w base G.T KO 26 "look_at_order" rfl w8 (λF=>Kan T bw F) λ_ _ _ _ _ _ us hl=>bz1 (us:=us) hl λ_=>rfl
 have br:=KS l.prog w base G.T KO 30 "look_at_aim" rfl w8 (λF=>Kaq T bt bu bv yC F) λ_ _ _ _ _ _ us hl=>bz2 (us:=us) hl λ_ _=>rfl
 have bn:=KS l.prog w base G.T KO 36 "all_worths" rfl w8 (λF=>Kav T bz bo bA br F) λ_ _ _ _ _ _ us hl=>bz2 (us:=us) hl λ_ _=>rfl
 have zQ:=KS l.prog w base G.T KO 60 "web_of" rfl w8 (λF=>Kbp T aW aX aZ yP a9 bc bd bn F) λ_ _ _ _ _ _ us hl=>bz2 (us:=us) hl λ_ _=>rfl
 have yr:=Nj l.prog w base G.T KO 2 "above_nought" rfl w8 (λF=>wY T  F) λ_ _ _ _ _ _ us hl=>bz1 (us:=us) hl λ_=>rfl
 have yz:=Nj l.prog w base G.T KO 62 "full" rfl w8 (λF=>q8 T yr F) λ_ _ _ _ _ _ us hl=>bz1 (us:=us) hl λ_=>rfl
 have yu:=Nj l.prog w base G.T KO 61 "served" rfl w8 (λF=>vp T yr F) λ_ _ _ _ _ _ us hl=>bz1 (us:=us) hl λ_=>rfl
 have aN:=KS l.prog w base G.T KO 74 "_law_right" rfl w8 (λF=>Kcc T zQ yz yu F) λ_ _ _ _ _ _ us hl=>bz3 (us:=us) hl λ_ _ _=>rfl
 have aU:=KS l.prog w base G.T KO 67 "_law_rank" rfl w8 (λF=>Kbv T  F) λ_ _ _ _ _ _ us hl=>bz3 (us:=us) hl λ_ _ _=>rfl
 have aT:=KS l.prog w base G.T KO 68 "_law_longest" rfl w8 (λF=>Kbw T  F) λ_ _ _ _ _ _ us hl=>bz1 (us:=us) hl λ_=>rfl
 have aQ:=KS l.prog w base G.T KO 71 "_law_worth" rfl w8 (λF=>Kbz T aU aT F) λ_ _ _ _ _ _ us hl=>bz4 (us:=us) hl λ_ _ _ _=>rfl
 have aP:=KS l.prog w base G.T KO 72 "_law_whole" rfl w8 (λF=>Kca T aQ F) λ_ _ _ _ _ _ us hl=>bz3 (us:=us) hl λ_ _ _=>rfl
 have zq:=KS l.prog w base G.T KO 65 "_law_numbers" rfl w8 (λF=>Kbt T  F) λ_ _ _ _ _ _ us hl=>bz3 (us:=us) hl λ_ _ _=>rfl
 have aR:=KS l.prog w base G.T KO 70 "_law_aim" rfl w8 (λF=>Kby T zq F) λ_ _ _ _ _ _ us hl=>bz3 (us:=us) hl λ_ _ _=>rfl
 have aS:=KS l.prog w base G.T KO 69 "_law_wished" rfl w8 (λF=>Kbx T  F) λ_ _ _ _ _ _ us hl=>bz2 (us:=us) hl λ_ _=>rfl
 have aO:=KS l.prog w base G.T KO 73 "_law_all" rfl w8 (λF=>Kcb T aS F) λ_ _ _ _ _ _ us hl=>bz1 (us:=us) hl λ_=>rfl
 have aV:=KS l.prog w base G.T KO 66 "_law_wishes" rfl w8 (λF=>Kbu T zq zr F) λ_ _ _ _ _ _ us hl=>bz5 (us:=us) hl λ_ _ _ _ _=>rfl
 exact λ{_ _} F=>Kcd T zr aN aP aR aO aV F
noncomputable abbrev d_cd:DefRec:=⟨"law", Tz Scd,Wm Scd,ZM Scd,DH Scd⟩
theorem walk{YP:World->Heap->Prop}{XP:(Str->yj)->Heap->Prop}(hlaw:∀ns:yd,ns.length<=63->Vc [.list (ns.map int)]=O (.bool ya)):PySem.W.WalkO q0 [] XP YP (PySem.Challenge.rw_wishdeal_k59_served_and_full).row.toRowW d_cd [] (λf vs=>PySem.call f vs):=
 qu (n:=63) (k:=14) (x:= "_law_script") w8 (by decide) w8 ⟨rfl,by decide,by decide,rfl⟩ (λ_ _ _ _ _ _ G hm=>DS G hm) hlaw
theorem MY{f:M D}{Z Z1:UU}{d:D}{t:Bool}(h:f Z=.ok d Z1)(ht:(!isNon d)=t):Kb (λd=>!isNon d) f Z=.ok t Z1:=by subst ht;exact KU (k:=λd=>!isNon d) h
theorem Ev{sizes found:yd}{z d:Int}(h:∀(j:Nat) d z,found[j]?=O d->sizes[j]?=O z->0<=d/\d<z)(hz:sizes[found.length]?=O z)(h0:0<=d/\d<z) :
  ∀(j:Nat) d' z',(found++[d])[j]?=O d'->sizes[j]?=O z'->0<=d'/\d'<z':=by
 intro j d' z' e1 e2;by_cases hj:j<found.length
 .rw[Qx hj]at e1
  exact h j d' z' e1 e2
 .by_cases aw:j=found.length
  .subst aw
   rw[hz]at e2;cases e2;rw[Qy (Qu _),Nat.sub_self,List.getElem?_cons_zero]at e1;cases e1;exact h0
  .rw[Q9 (by rw[Qk,QP];lia)]at e1
   cases e1
noncomputable abbrev pb(d:D):Option Sl:=O (.pub d)
def inv(c s:Int)(sizes:yd)(n:Int)(i:Nat)(Z:UU):Prop:=∃left found x6 x7,Z=[O (Sl.pub (.int c)),pb (.int s),pb (.list (sizes.map .int)),pb (.int n),pb (.int left),O (.own ((found:yd).map .int)),x6,x7] /\
 found.length=i/\∀(j:Nat) d z,found[j]?=O d->sizes[j]?=O z->0<=d/\d<z
theorem jZ{c s n:Int}{sizes:yd}(hs:∀x∈sizes,0<x/\x<18446744073709551616)(hl:sizes.length<=1000){i:Nat}{d:D}{Z:UU}{Q:Out->Prop}(hi:(Yp 0 sizes.length)[i]?=O d)(h:inv c s sizes n i Z) :
  ∃Z2,gN 6 d Z=O Z2/\Ho NL Z2 (VR (inv c s sizes n (i+1)) Q):=by
 obtain⟨left,found,x6,x7,rfl,hf,hfd⟩:=h;obtain⟨rfl,hlt⟩:=Wa hi;obtain⟨z,hz⟩:∃z,sizes[i]?=O z:=⟨sizes[i]'(by lia),Qe _⟩
 obtain⟨z1,z2⟩:=hs z (Qv hz);have hix:oIx (.list (sizes.map int)) (.int (0+(i:Int)))=O (.int z):=by rw[Jy];exact Zz (by rw[Qd,hz];rfl)
 generalize hk:(0:Int)+(i:Int)=k at hix⊢;have hk1:k<18446744073709551616:=by lia
 have hk2 : -18446744073709551616<k:=by lia
 have hlen:(found.map int).length<1000000:=by rw[Qb];lia
 have pw:Wo (.int 10) (.int 18)=O (.int 1000000000000000000):=by rw[BO (by decide)];rfl
 refine⟨_,U2 (Qa w8) w8,?_⟩;unfold NL;apply KR
 case h1=>exact D7 (Yb w8 (Kd U7 U7 pw) w8) λ_=>Yb w8 U7 w8
 case h2=>intro _;refine Km (X9 w8 (Kd (UW w8) (KI w8 (UW w8) hix) (Tx (by lia))) w8 hlen w8) ?_;refine ZQ (KE (Kd (UW w8) (KI w8 (UW w8) hix) (Hr (by lia) (by lia))) (Qa w8) w8) (K2 ?_);exact⟨_,found++[left % z],_,_,by rw[QA];rfl,by rw[Qk,hf];rfl,Ev hfd (by rw[hf];exact hz) ⟨Int.emod_nonneg _ (by lia),Int.emod_lt_of_pos _ z1⟩⟩
 case h3=>intro _;refine Km (KE (Kd (Kd (Kd (Kd (UW w8) (Kd U7 (UW w8) (TJ (by decide) (by decide))) K7) (Kd (Kd U7 (UW w8) (TJ (by decide) (by decide))) (UW w8) (WI hk2 hk1)) K7) (UW w8) K7) U7 (Tx (by decide))) (Qa w8) w8) ?_;refine Km (KE (Kd (Kd (UW w8) U7 (WI (by decide) (by decide))) U7 (Tx (by decide))) (Qa w8) w8) ?_;refine Km (KE (Kd (Kd (Kd (Kd (UW w8) (UW w8) (WI (by lia) (by lia))) U7 (Tx (by decide))) U7 (WI (by decide) (by decide))) U7 (Tx (by decide))) (Qa w8) w8) ?_;refine ZQ (X9 w8 (Kd (Kd (UW w8) U7 (Hr (by decide) (by decide))) (KI w8 (UW w8) hix) (Tx (by lia))) w8 hlen w8) (K2 ?_);exact⟨_,found++[_ % z],_,_,by rw[QA];rfl,by rw[Qk,hf];rfl,Ev hfd (by rw[hf];exact hz) ⟨Int.emod_nonneg _ (by lia),Int.emod_lt_of_pos _ z1⟩⟩
theorem MR(c s:Int){sizes:yd}(hs:∀x∈sizes,0<x/\x<18446744073709551616)(hl:sizes.length<=1000) :
  ∃r,Xr [.int c,.int s,.list (sizes.map int)]=O r/\∃ds:yd,r=.list (ds.map .int)/\ds.length=sizes.length/\∀(j:Nat) d z,ds[j]?=O d->sizes[j]?=O z->0<=d/\d<z:=by
 refine WD (Z:=[pb (.int c),pb (.int s),pb (.list (sizes.map int)),w9,w9,w9,w9,w9]) w8 ?_;unfold T6;refine Km (KE (ZS (U0 (UW w8) (U0 (Kd (Rr U7) (UW w8) YT) U3)) Hq) (Qa w8) w8) ?_;refine Km (KE (UW w8) (Qa w8) w8) ?_;refine Km (Yo (Wl U3 (Qa w8)) (Qa w8) w8) ?_;apply K1;apply ZA (ds:=Yp 0 sizes.length) (inv c s sizes (if -1-c > c then -1-c else c))
 case h1=>exact Xi (U0 (ZX w8 (by rw[Zv,Qb])) U3) (Xg (by lia) (by lia))
 case h0=>exact⟨_,[],w9,w9,rfl,rfl,λj d z e=>by cases e⟩
 case hst=>exact λi d Z e h=>jZ hs hl e h
 case hend=>rintro Z ⟨left,found,x6,x7,rfl,hf,hfd⟩;rw[YI]at hf;exact KQ (KJ (Yy rfl rfl) ⟨_,rfl,found,rfl,by lia,hfd⟩)
mutual
theorem NU:∀(d:PyData),d.canLay0=ya->UM d d=ya
 |.none,_=>rfl
 |.bool b,_=>by cases b<;>rfl
 |.int i,_=>by simp[UM]
 |.str s,_=>by simp[UM]
 |.list xs,h=>eqvAll_refl xs h
 |.tuple xs,h=>eqvAll_refl xs h
 |.dict _,h=>by cases h
theorem eqvAll_refl:∀(xs:List PyData),UK xs=ya->PyData.eqvAll xs xs=ya
 |[],_=>rfl
 |x::r,h=>by
  have h:(PyData.canLay0 x&&UK r)=ya:=h;rw[QR]at h
  show(UM x x&&PyData.eqvAll r r)=ya
  rw[NU x h.1,eqvAll_refl r h.2];rfl
end
theorem TN:∀{xs:yc},(∀x∈xs,PyData.canLay0 x=ya)->UK xs=ya
 |[],_=>rfl
 |x::r,h=>by
  show(PyData.canLay0 x&&UK r)=ya
  rw[h x Qi,TN λy hy=>h y (Qh _ hy)];rfl
theorem OS{n:Nat}:∀{xs:yc},(∀x∈xs,UL x<=n)->PyData.depthAll xs<=n
 |[],_=>by simp[PyData.depthAll]
 |x::r,h=>by
  have h1:=h x Qi;have h2:=OS (n:=n) λy hy=>h y (Qh _ hy);simp only[PyData.depthAll]
  lia
noncomputable def Zt(r:yd):D:=.list (r.map int)
noncomputable def K0(rs:List yd):D:=.list (rs.map Zt)
noncomputable def Kq(cs:yd)(ls:L3):D:=.tuple [.list (cs.map int),.list (ls.map K0)]
structure TM(n:Nat)(rs:List yd):Prop where
 few:rs.length<=5
 some:∀r∈rs,r≠[]
 there:∀r∈rs,∀t∈r,0<=t/\t<n
 once:rs.flatten.Nodup
structure Good(cs:yd)(ls:L3):Prop where
 c1:1<=cs.length
 c6:cs.length<=6
 c7:∀c∈cs,0<=c/\c<8
 l1:1<=ls.length
 l7:ls.length<=7
 rk:∀rs∈ls,TM cs.length rs
theorem Mi(r:yd):(Zt r).canLay0=ya:=TN λx hx=>by obtain⟨y,_,rfl⟩:=Qt.mp hx;rfl
theorem LN(i:Int):(int i).depth<=1:=by simp[UL]
theorem NI{n:Nat}{xs:yc}(h:PyData.depthAll xs<=n):(UG xs).depth<=n+1:=by simp only[UL];lia
theorem Mh(r:yd):(Zt r).depth<=2:=NI (OS λx hx=>by obtain⟨y,_,rfl⟩:=Qt.mp hx;exact LN y)
theorem kr(i:Int):VP [.int i]=O (.bool ya):=by refine Zj (Z:=[pb (.int i)]) w8 ?_;unfold SU;exact KJ (On (KU (UW w8)) (λ_=>BP (KU (UW w8)))) w8
theorem OR{i m:Int}(h0:0<=i)(h1:i<m):Z8 [.int i,.int m]=O (.bool ya):=by
 refine Zj (Z:=[pb (.int i),pb (.int m)]) w8 ?_;unfold SS;have hb:(decide (0<=i)&&decide (i<m))=ya:=by simp[h0,h1]
 refine KJ (On (t:=ya) (u:=ya) (Ky (U0 (UW w8) U3) w8 (kr i)) (λ_=>?_)) w8;rw[←hb];exact KU (N5 U7 (UW w8) w8 (λ_=>UW w8) (λ_=>rfl))
theorem OQ{α:Type}(l:List α):YL [.list (l.map λ_=>.bool ya)]=O (.bool ya):=by
 have:(l.map λ_=>UH ya)=(l.map λ_=>ya).map UH:=by rw[Jl];rfl
 rw[this,BN]
 congr 2
 rw[List.all_map];induction l with
 |nil=>rfl
 |cons x r ih=>simpa using ih
theorem vo{r:yd}{n:Int}(hne:r≠[])(hl:r.length<=1000)(h:∀t∈r,0<=t/\t<n):Wx [Zt r,.int n]=O (.bool ya):=by
 refine Zj (Z:=[pb (Zt r),pb (.int n)]) w8 ?_;unfold SQ;apply K1;have hlen:Kn [Zt r]=O (.int r.length):=by unfold Zt;rw[Zv,Qb]
 have hp:0<r.length:=List.length_pos_iff.mpr hne;apply KR
 case h1=>exact WO (Z1:=[pb (Zt r),pb (.int n)]) (Td (UW w8) w8) (Kd (ZX w8 hlen) U7 XG)
 case h2=>
       intro hh;have:(r.length:Int)=0:=by simpa using hh
       lia
 case h3=>
  intro _;refine K5 (KQ ?_)
  have hc:K4 (gN 2) (U1 ya) (Ka 2 Z8 (UX (UT 2) (UX (UT 1) (UV)))) (r.map int) (Ks [pb (Zt r),pb (.int n)]++UF 1 w9) []=O (r.map λ_=>.bool ya):=by
   rw[Pr (λ_=>ya) (λ_=>.bool ya) (λZ=>∃x,Z=[pb (Zt r),pb (.int n),x])]
   .rw[Ul.mpr (λ_ _=>rfl),QY,Jl];rfl
   .rintro d hm Z ⟨x,rfl⟩
    obtain⟨t,ht,rfl⟩:=Qt.mp hm;exact⟨_,U2 (Qa w8) w8,rfl,λ_=>Ky (U0 (UW w8) (U0 (UW w8) U3)) w8 (OR (h t ht).1 (h t ht).2),_,rfl⟩
   .exact⟨w9,rfl⟩
   .rw[Qb,QF];lia
  exact KJ (ZS (U0 (KU (Yc (ZB (UW w8) w8) hc)) U3) (OQ r)) w8
theorem FO{a b c x3:Option Sl}(ha:YX a=a)(hb:YX b=b)(hc:YX c=c)(hx:YX x3=x3):∀(ds es:yc)(x4:Option Sl),es.length+ds.length<=1000000 ->
  ∃y,Y4 (gN 4) (U1 ya) (UT 4) ds [a,b,c,x3,x4] es=O (es++ds,[a,b,c,x3,y])
 |[],es,x4,_=>⟨x4,by rw[Y4,Q2]⟩
 |d::r,es,x4,h=>by
  rw[Qz]at h;obtain⟨y,e⟩:=FO ha hb hc hx r (es++[d]) (O (.pub d)) (by rw[Qk,QP];lia);refine⟨y,?_⟩;rw[Y4];have h1:gN 4 d [a,b,c,x3,x4]=O [a,b,c,x3,pb d]:=U2 (Qa w8) w8;rw[h1];dsimp only[U1];rw[Qo w8];have h2:UT 4 [a,b,c,x3,pb d]=.ok d [a,b,c,x3,pb d]:=UW w8;rw[h2];dsimp only;rw[Qo (by lia)];have h3:Ks [a,b,c,x3,pb d]=[a,b,c,x3,pb d]:=by unfold Ks;simp only[Qs,List.map_nil,ha,hb,hc,hx];rfl
  rw[h3,e,Ja];rfl
theorem ER{a b:D}:∀(rs:List yd)(es:yc)(x3 x4:Option Sl),es.length+rs.flatten.length<=1000000 ->
  Wg (gN 3) (U1 ya) (KW (UT 3)) (gN 4) (U1 ya) (UT 4) (rs.map Zt) [pb a,pb b,w9,x3,x4] es=O (es++rs.flatten.map int)
 |[],es,_,_,_=>by rw[List.map_nil,Wg];simp
 |r::rs,es,x3,x4,h=>by rw[QS,Qk]at h;rw[Qs,Wg];have h1:gN 3 (Zt r) [pb a,pb b,w9,x3,x4]=O [pb a,pb b,w9,pb (Zt r),x4]:=U2 (Qa w8) w8;rw[h1];dsimp only[U1];rw[Qo w8];have h2:KW (UT 3) [pb a,pb b,w9,pb (Zt r),x4]=.ok (r.map int) [pb a,pb b,w9,pb (Zt r),x4]:=ZB (UW w8) w8;rw[h2];dsimp only;have h3:Ks [pb a,pb b,w9,pb (Zt r),x4]=[pb a,pb b,w9,pb (Zt r),YX x4]:=rfl;rw[h3];obtain⟨y,e⟩:=FO (a:=O (.pub a)) (b:=O (.pub b)) (c:=w9) (x3:=O (.pub (Zt r))) w8 w8 w8 w8 (r.map int) es (YX x4) (by rw[Qb];lia);rw[e];dsimp only;have ih:=ER (a:=a) (b:=b) rs (es++r.map int) (O (.pub (Zt r))) y (by rw[Qk,Qb];lia);refine Eq.trans ih ?_;rw[QS,QA,Ja]
theorem Eu{ns:yd}(h:ns.Nodup):Tt ns=ns.length:=by
 unfold Tt
 have:∀i,i<=ns.length->(PyProof.Rows.firstMet (λi=>ns.getD i 0) i).length=i:=by
  intro i;induction i with
  |zero=>intro _;rfl
  |succ i ih=>
   intro hi;rw[PyProof.Rows.firstMet_succ]
   have hany:(PyProof.Rows.firstMet (λi=>ns.getD i 0) i).any (· == ns.getD i 0)=yb:=by
    rw[PyProof.Rows.firstMet_any,List.any_eq_false];intro x hx;obtain⟨j,hj,rfl⟩:=Qt.mp hx;have hj:=Q3.mp hj;intro e;have e:ns.getD j 0=ns.getD i 0:=by simpa using e
    have l1:j<ns.length:=by lia
    have l2:i<ns.length:=by lia
    simp only[List.getD,Qe l1,Qe l2,J4]at e;exact absurd ((List.getElem_inj h).mp e) (by lia)
   unfold PyProof.Rows.step_dedup;rw[hany];rw[QB (by decide),Qk,ih (by lia)];rfl
 exact this ns.length (Qu _)
theorem wb{rs:List yd}{n:Nat}(g:TM n rs)(hn:n<=6)(hf:rs.flatten.length<=1000):VN [K0 rs,.int n]=O (.bool ya):=by
 refine Zj (Z:=[pb (K0 rs),pb (.int n),w9]) w8 ?_;unfold SO;have hlen:Kn [K0 rs]=O (.int rs.length):=by unfold K0;rw[Zv,Qb]
 have h5:=g.few;have zk:∀r∈rs,r.length<=1000:=λr hr=>QJ (List.Sublist.length_le (List.sublist_flatten_of_mem hr)) hf;apply K1;apply KR
 case h1=>exact WO (Z1:=[pb (K0 rs),pb (.int n),w9]) (Td (UW w8) w8) (Kd (ZX w8 hlen) U7 w8)
 case h2=>
       intro hh;have:(5:Int)<(rs.length:Int):=by simpa using hh
       lia
 case h3=>
  intro _;refine K5 (KQ ?_)
  have hc:K4 (gN 3) (U1 ya) (Ka 2 Wx (UX (UT 3) (UX (UT 1) (UV)))) (rs.map Zt) (Ks [pb (K0 rs),pb (.int n),w9]++UF 1 w9) []=O (rs.map λ_=>.bool ya):=by
   rw[Pr (λ_=>ya) (λ_=>.bool ya) (λZ=>∃x,Z=[pb (K0 rs),pb (.int n),w9,x])]
   .rw[Ul.mpr (λ_ _=>rfl),QY,Jl];rfl
   .rintro d hm Z ⟨x,rfl⟩
    obtain⟨r,hr,rfl⟩:=Qt.mp hm;exact⟨_,U2 (Qa w8) w8,rfl,λ_=>Ky (U0 (UW w8) (U0 (UW w8) U3)) w8 (vo (g.some r hr) (zk r hr) (g.there r hr)),_,rfl⟩
   .exact⟨w9,rfl⟩
   .rw[Qb,QF];lia
  apply K1;apply KR
  case h1=>exact XJ (Wk (ZS (U0 (KU (Yc (ZB (UW w8) w8) hc)) U3) (OQ rs)))
  case h2=>intro hh;cases hh
  case h3=>
   intro _;refine K5 (KQ ?_);have h2:R5 (KW (UT 0)) 2 (gN 3) (U1 ya) (KW (UT 3)) (gN 4) (U1 ya) (UT 4) [pb (K0 rs),pb (.int n),w9]=.ok (rs.flatten.map int) [pb (K0 rs),pb (.int n),w9]:=by unfold R5;have e1:KW (UT 0) [pb (K0 rs),pb (.int n),w9]=.ok (rs.map Zt) [pb (K0 rs),pb (.int n),w9]:=ZB (UW w8) w8;rw[e1];dsimp only;have e2:=ER (a:=K0 rs) (b:=.int n) rs [] w9 w9 (by rw[QF];lia);have e3:Wg (gN 3) (U1 ya) (KW (UT 3)) (gN 4) (U1 ya) (UT 4) (rs.map Zt) (Ks [pb (K0 rs),pb (.int n),w9]++UF 2 w9) []=O ([]++rs.flatten.map int):=e2;rw[e3];rfl
   refine Km (Yo h2 (Qa w8) w8) ?_;have hls:WS [.list (rs.flatten.map int)]=O (.int rs.flatten.length):=by unfold WS;dsimp only;rw[Pp];dsimp only;rw[Qo (by lia),Eu g.once]
   refine KJ (KU (Kd (ZS (U0 (Yy w8 w8) U3) hls) (ZX w8 Zv) XG)) ?_;rw[Qb];simp
theorem XE{d:D}:∀{xs:yc}{k i:Nat},(Yq k xs)[i]?=O d->∃x,xs[i]?=O x/\d=.tuple [.int ((k+i:Nat):Int),x]
 |[],k,i,h=>by cases h
 |x::r,k,0,h=>by cases h;exact⟨x,rfl,rfl⟩
 |x::r,k,i+1,h=>by obtain⟨y,e,q⟩:=XE (xs:=r) (k:=k+1) (i:=i) h;exact⟨y,e,by rw[q];congr 4;lia⟩
theorem Rw:∀(n:Nat)(l:yd),l.Nodup->(∀x∈l,0<=x/\x<n)->l.length<=n
 |0,[],_,_=>Qu _
 |0,x::r,_,h=>by have:=h x Qi;lia
 |n+1,l,hn,h=>by
  by_cases hm:(n:Int)∈l
  .have:=Rw n (l.erase (n:Int)) (hn.erase _) λx hx=>by
    have h1:=(List.Nodup.mem_erase_iff hn).mp hx;have h2:=h x h1.2;have h3:=h1.1
    lia
   rw[List.length_erase_of_mem hm]at this
   lia
  .have:=Rw n l hn λx hx=>by
    have h2:=h x hx;have h3:x≠(n:Int):=λe=>hm (e ▸ hx)
    lia
   lia
theorem Mg{n:Nat}{rs:List yd}(g:TM n rs):rs.flatten.length<=n:=Rw n _ g.once λx hx=>by obtain⟨r,hr,hxr⟩:=Us.mp hx;exact g.there r hr x hxr
theorem kq{cs:yd}(h1:1<=cs.length)(h6:cs.length<=6)(h:∀c∈cs,0<=c/\c<8):VO [.list (cs.map int)]=O .none:=by
 refine RZ (Z:=[pb (.list (cs.map int)),w9,w9]) w8 ?_;unfold SR;have hlen:Kn [.list (cs.map int)]=O (.int cs.length):=by rw[Zv,Qb]
 apply K1;apply KR
 case h1=>exact WO (Z1:=[pb (.list (cs.map int)),w9,w9]) (Td (UW w8) w8) (XJ (N5 U7 (ZX w8 hlen) w8 (λ_=>U7) (λ_=>rfl)))
 case h2=>
  intro hh;have a1:(1:Int)<=(cs.length:Int):=by lia
  have a2:(cs.length:Int)<=6:=by lia
  simp[a1,a2]at hh
 case h3=>
  intro _;refine K5 (KQ ?_);apply ZA (λ_ Z=>∃x1 x2,Z=[pb (.list (cs.map int)),x1,x2])
  case h1=>exact XQ (U0 (UW w8) U3) XN
  case h0=>exact⟨_,_,rfl⟩
  case hst=>
   rintro i d Z hi ⟨x1,x2,rfl⟩;obtain⟨x,hx,rfl⟩:=XE hi;obtain⟨c,hc,rfl⟩:=Qt.mp (Qv hx);refine⟨_,Kz w8 (U8 (U2 (Qa w8) w8) (U8 (U2 (Qa w8) w8) KB)),?_⟩;unfold He;apply KR
   case h1=>exact XJ (Wk (Ky (U0 (UW w8) (U0 (Kd U7 U7 K7) U3)) w8 (OR (h c hc).1 (by have:=(h c hc).2;lia))))
   case h2=>intro hh;cases hh
   case h3=>exact λ_=>K5 (K2 ⟨_,_,rfl⟩)
  case hend=>exact λZ ⟨x1,x2,e⟩=>⟨_,rfl⟩
theorem qZ{ls:L3}{n:Nat}(hn:n<=6)(h1:1<=ls.length)(h7:ls.length<=7)(h:∀rs∈ls,TM n rs):VM [.list (ls.map K0),.int n]=O .none:=by
 refine RZ (Z:=[pb (.list (ls.map K0)),pb (.int n),w9,w9]) w8 ?_;unfold SN;have hlen:Kn [.list (ls.map K0)]=O (.int ls.length):=by rw[Zv,Qb]
 apply K1;apply KR
 case h1=>exact WO (Z1:=[pb (.list (ls.map K0)),pb (.int n),w9,w9]) (Td (UW w8) w8) (XJ (N5 U7 (ZX w8 hlen) w8 (λ_=>U7) (λ_=>rfl)))
 case h2=>
  intro hh;have a1:(1:Int)<=(ls.length:Int):=by lia
  have a2:(ls.length:Int)<=7:=by lia
  simp[a1,a2]at hh
 case h3=>
  intro _;refine K5 (KQ ?_);apply ZA (λ_ Z=>∃x2 x3,Z=[pb (.list (ls.map K0)),pb (.int n),x2,x3])
  case h1=>exact XQ (U0 (UW w8) U3) XN
  case h0=>exact⟨_,_,rfl⟩
  case hst=>
   rintro i d Z hi ⟨x1,x2,rfl⟩;obtain⟨x,hx,rfl⟩:=XE hi;obtain⟨rs,hrs,rfl⟩:=Qt.mp (Qv hx);refine⟨_,Kz w8 (U8 (U2 (Qa w8) w8) (U8 (U2 (Qa w8) w8) KB)),?_⟩;unfold Hf;have hfl:=Mg (h rs hrs);apply KR
   case h1=>exact XJ (Wk (Ky (U0 (UW w8) (U0 (UW w8) U3)) w8 (wb (h rs hrs) hn (by lia))))
   case h2=>intro hh;cases hh
   case h3=>exact λ_=>K5 (K2 ⟨_,_,rfl⟩)
  case hend=>exact λZ ⟨x1,x2,e⟩=>⟨_,rfl⟩
theorem OP{cs:yd}{ls:L3}(g:Good cs ls):YD [Kq cs ls]=O .none:=by
 refine RZ (Z:=[pb (Kq cs ls),w9,w9]) w8 ?_;unfold SL;apply K1;apply KR
 case h1=>exact WO (Z1:=[pb (Kq cs ls),w9,w9]) (Td (UW w8) w8) (Kd (ZX w8 w8) U7 NO)
 case h2=>intro hh;cases hh
 case h3=>
  intro _;refine K5 (KQ ?_);have hlen:Kn [.list (cs.map int)]=O (.int (cs.length:Nat)):=by rw[Zv,Qb]
  refine Km (X8 (UW w8) (Kz w8 (U8 (U2 (Qa w8) w8) (U8 (U2 (Qa w8) w8) KB)))) ?_;refine Km (Te (Ky (U0 (UW w8) U3) w8 (kq g.c1 g.c6 g.c7))) ?_;exact ZQ (Te (Ky (U0 (UW w8) (U0 (ZX w8 hlen) U3)) w8 (qZ g.c6 g.l1 g.l7 g.rk))) ⟨_,rfl⟩
theorem GN:∀(xs ys:yd),PyData.eqvAll (xs.map int) (ys.map int)=decide (xs=ys)
 |[],[]=>rfl
 |[],y::ys=>by simp[PyData.eqvAll]
 |x::xs,[]=>by simp[PyData.eqvAll]
 |x::xs,y::ys=>by
  have ih:=GN xs ys
  show(UM (.int x) (.int y)&&PyData.eqvAll (xs.map int) (ys.map int))=_
  rw[ih];have:UM (.int x) (.int y)=decide (x=y):=rfl;rw[this,Ua];simp
theorem ko{xs:yd}:oNe (.list (xs.map int)) (.list [])=O (!decide (xs=[])):=by
 unfold oNe;have h1:(UG (xs.map int)).canLay0=ya:=Mi xs;have h3:(UG (xs.map int)).depth<=60:=by have:=Mh xs;unfold Zt at this;lia
 rw[Qo ⟨h1,rfl,h3⟩]
 congr 2
 exact GN xs []
theorem NH{xs:yc}{x:D}(h:xs.getLast?=O x):oIx (.list xs) (.int (-1))=O x:=by
 unfold oIx atI;have hl:xs≠[]:=by rintro rfl;cases h
 have hp:0<xs.length:=List.length_pos_iff.mpr hl;rw[List.getLast?_eq_getElem?]at h
 show(ixN xs.length (-1)).bind _=_
 unfold ixN;rw[QB (by decide),Qo (by lia)];have e2:(-1+(xs.length:Int)).toNat=xs.length-1:=by lia
 simp only[Option.bind_some];rw[e2];exact h
theorem Ot{xs:yd}{k:Nat}(h:k<xs.length):oIx (.list (xs.map int)) (.int k)=O (.int (xs.getD k 0)):=by refine Zz ?_;rw[Qd,Qe h];simp[List.getD,List.getElem?_eq_getElem h]
theorem MQ(ns:yd)(k:Nat)(hl:ns.length<=1000):∃v,Xs [.list (ns.map int),.int k]=O (.int v):=by
 have hlen:Kn [.list (ns.map int)]=O (.int ns.length):=by rw[Zv,Qb]
 by_cases h:k<ns.length
 .refine⟨ns.getD k 0,Zj (Z:=[pb (.list (ns.map int)),pb (.int k)]) w8 ?_⟩
  unfold W3;apply K1;apply KR
  case h1=>exact Yb w8 (ZX w8 hlen) w8
  case h2=>exact λ_=>KJ (KI w8 (UW w8) (Ot h)) (TH w8)
  case h3=>
        intro hh;have:¬(k:Int)<(ns.length:Int):=by simpa using hh
        lia
 .refine⟨0,Zj (Z:=[pb (.list (ns.map int)),pb (.int k)]) w8 ?_⟩
  unfold W3;apply K1;apply KR
  case h1=>exact Yb w8 (ZX w8 hlen) w8
  case h2=>
        intro hh;have:(k:Int)<(ns.length:Int):=by simpa using hh
        lia
  case h3=>exact λ_=>K5 (KQ (KJ U7 w8))
noncomputable def tab:yd:=[1,1,2,0,3,7,1,4,5,6,1]
theorem Lo{z:Int}(h0:0<=z)(h1:z<11):oIx (.list (tab.map int)) (.int z)=O (.int (tab.getD z.toNat 0))/\0<=tab.getD z.toNat 0/\tab.getD z.toNat 0<8:=by
 have e:z=0∨z=1∨z=2∨z=3∨z=4∨z=5∨z=6∨z=7∨z=8∨z=9∨z=10:=by lia
 rcases e with rfl|rfl|rfl|rfl|rfl|rfl|rfl|rfl|rfl|rfl|rfl<;>exact⟨rfl,by decide,by decide⟩
structure Tw(n:Nat)(pl:yd)(j:Nat)(rs:List yd):Prop where
 few:rs.length<=j
 some:∀r∈rs,r≠[]
 there:∀r∈rs,∀t∈r,(0<=t/\t<n)/\pl.getD t.toNat 0<1+(j:Int)
 once:rs.flatten.Nodup
noncomputable def VW(n:Nat)(pl:yd)(r:Int):yd:=((UE n).filter λk=>decide (pl.getD k 0=r)).map λk:Nat=>(k:Int)
theorem wa(n:Nat)(pl:yd)(r:Int):(VW n pl r).Nodup:=by unfold VW;refine List.Pairwise.map _ (λa b h e=>h (by lia)) ((List.nodup_range).filter _)
theorem FN{n:Nat}{pl:yd}{r t:Int}(h:t∈VW n pl r):(0<=t/\t<n)/\pl.getD t.toNat 0=r:=by
 unfold VW at h;obtain⟨k,hk,rfl⟩:=Qt.mp h;have hk:=Jg.mp hk;have h1:=Q3.mp hk.1;have h2:pl.getD k 0=r:=by simpa using hk.2
 exact⟨⟨by lia,by lia⟩,by rw[QM];exact h2⟩
theorem Tw.add{n:Nat}{pl:yd}{j:Nat}{rs:List yd}{row:yd}(g:Tw n pl j rs)(hne:row≠[])(hm:∀t∈row,t∈VW n pl (1+(j:Int)))(hn:row.Nodup):Tw n pl (j+1) (rs++[row]) where
 few:=by rw[Qk,QP];have:=g.few;lia
 some:=λr hr=>by
  rcases QC.mp hr with z|z
  .exact g.some r z
  .rw[Qq.mp z];exact hne
 there:=λr hr t ht=>by
  rcases QC.mp hr with z|z
  .have:=g.there r z t ht;exact⟨this.1,by lia⟩
  .rw[Qq.mp z]at ht
   have:=FN (hm t ht);exact⟨this.1,by lia⟩
 once:=by
  rw[List.flatten_append,List.flatten_singleton];refine Jh.mpr ⟨g.once,hn,λa ha b hb e=>?_⟩;subst e;obtain⟨r,hr,har⟩:=Us.mp ha;have h1:=(g.there r hr a har).2;have h2:=(FN (hm a hb)).2
  lia
theorem Tw.next{n:Nat}{pl:yd}{j:Nat}{rs:List yd}(g:Tw n pl j rs):Tw n pl (j+1) rs:=
 ⟨by have:=g.few;lia,g.some,λr hr t ht=>⟨(g.there r hr t ht).1,by have:=(g.there r hr t ht).2;lia⟩,g.once⟩
theorem Os{x:D}{m:Nat}(h:m<=1000):Kv (.list [x]) (.int m)=O (.list (UF m x)):=by
 rw[EE ⟨by lia,by lia,by rw[QM];show 1*m<=_;lia⟩,QM]
 congr 2
 induction m with
 |zero=>rfl
 |succ m ih=>rw[Jb,QS,ih (by lia)];rfl
noncomputable def szG(T A:Nat):yd:=(T:Int)::(A:Int)::UF T 11
noncomputable def YJ(T R:Nat):yd:=UF T ((R:Int)+1)++[2]
theorem Hk{T A:Nat}:(szG T A).length=T+2:=by unfold szG;simp
theorem GM{T R:Nat}:(YJ T R).length=T+1:=by unfold YJ;simp
theorem CC{T A:Nat}(h1:1<=T)(h2:T<=6)(h3:1<=A)(h4:A<=7):∀x∈szG T A,0<x/\x<18446744073709551616:=λx hx=>by unfold szG at hx;simp only[Qw,J8]at hx;rcases hx with rfl|rfl|⟨_,rfl⟩<;>lia
theorem Ab{T R:Nat}(h:R<=5):∀x∈YJ T R,0<x/\x<18446744073709551616:=λx hx=>by unfold YJ at hx;simp only[List.mem_append,Qq,J8]at hx;rcases hx with ⟨_,rfl⟩|rfl<;>lia
theorem kn{T R:Nat}:(YJ T R)[T]?=O 2:=by unfold YJ;simp
theorem CB{T A k:Nat}(h:k<T):(szG T A)[2+k]?=O 11:=by unfold szG;rw[show 2+k=k+1+1 by lia,J0,J0,QD,Qo h]
def O5(T A R:Nat)(S dz:D)(at_ n:Nat)(cs pl:yd)(ls:L3)(x9 yK:Option Sl)(j:Nat)(Z:UU):Prop:=∃(rs:List yd)(zS yJ:Option Sl),
 Z=[pb S,pb (.int at_),pb (.int (T:Nat)),pb (.int (A:Nat)),pb (.int (R:Nat)),pb dz,O (.own (cs.map int)),O (.own (ls.map K0)),x9,yK,pb (.list (pl.map int)),O (.own (rs.map Zt)),zS,yJ]/\Tw n pl j rs
theorem vj{T A R:Nat}{S dz:D}{at_ n:Nat}{cs pl:yd}{ls:L3}{v9 v10:D}{j:Nat}{d:D}{Z:UU}{Q:Out->Prop}(hcs:cs.length=n)(hT:T<=6)(hR:R<=5)(hn:n<=T)(hpl:pl.length=T+1)(yw:pl.getD T 0=0∨pl.getD T 0=1)
  (hj:(Yp 1 ((R:Int)+1))[j]?=O d) (h:O5 T A R S dz at_ n cs pl ls (O (.pub v9)) (O (.pub v10)) j Z) :
  ∃Z2,gN 12 d Z=O Z2/\Ho NK Z2 (VR (O5 T A R S dz at_ n cs pl ls (O (.pub v9)) (O (.pub v10)) (j+1)) Q):=by
 obtain⟨rs,zS,yJ,rfl,g⟩:=h;obtain⟨rfl,hlt⟩:=Wa hj;have hj5:j<R:=by lia
 refine⟨_,U2 (Qa w8) w8,?_⟩;unfold NK
 have hrd:Yp 0 ((n:Nat):Int)=(UE n).map λk=>.int (k:Int):=by
  unfold Yp;have:((n:Int)-0).toNat=n:=by lia
  rw[this];apply List.map_congr_left;intro k _;rw[Jy]
 have hc:K4 (gN 14) (UY oEq (U6 10 (UT 14)) (UT 12)) (UT 14) (Yp 0 ((n:Nat):Int)) (Ks [pb S,pb (.int at_),pb (.int (T:Nat)),pb (.int (A:Nat)),pb (.int (R:Nat)),pb dz,O (.own (cs.map int)),O (.own (ls.map K0)),pb v9,pb v10,pb (.list (pl.map int)),O (.own (rs.map Zt)),pb (.int (1+(j:Int))),yJ]++UF 1 w9) []=O ((VW n pl (1+(j:Int))).map int):=by
  rw[hrd,Pr (λd=>match d with | .int k=>decide (pl.getD k.toNat 0=1+(j:Int))|_=>yb) (λd=>d) (λZ=>∃x,Z=[pb S,pb (.int at_),pb (.int (T:Nat)),pb (.int (A:Nat)),pb (.int (R:Nat)),pb dz,w9,w9,pb v9,pb v10,pb (.list (pl.map int)),w9,pb (.int (1+(j:Int))),YX yJ,x])]
  .rw[QY,List.map_id',List.filter_map]
   unfold VW;rw[Jl];rfl
  .rintro d hm Z ⟨x,rfl⟩
   obtain⟨k,hk,rfl⟩:=Qt.mp hm;have hk:=Q3.mp hk;refine⟨_,U2 (Qa w8) w8,Kd (KI w8 (UW w8) (Ot (by lia))) (UW w8) XG,λ_=>UW w8,pb (.int k),?_⟩;unfold Ks;cases yJ with
   |none=>rfl
   |some sl=>cases sl<;>rfl
  .exact⟨w9,rfl⟩
  .rw[Qb,Qp,QF];lia
 have hlen:(cs.map int).length=n:=by rw[Qb,hcs]
 refine Km (Yo (Yc (Xi (U0 (BR w8) U3) (by rw[hlen];exact Xg (by lia) (by lia))) hc) (Qa w8) w8) ?_;generalize ao:VW n pl (1+(j:Int))=row;apply KR
 case h1=>exact qC w8 (ZK U3 (by decide)) w8 ko
 case h2=>
  intro hh;have hne:row≠[]:=by simpa using hh
  have hlx:oIx (.list (pl.map int)) (.int (-1))=O (.int (pl.getD T 0)):=NH (by rw[List.getLast?_eq_getElem?,Qb,hpl,Qd,J7,Qe (show T<pl.length by lia)];simp[List.getD,List.getElem?_eq_getElem (show T<pl.length by lia)])
  obtain⟨yV,hix,yW⟩:∃yV:yd,oIx (.list [.list (row.map int),.list (row.map int).reverse]) (.int (pl.getD T 0))=O (Zt yV)/\(yV=row∨yV=row.reverse):=by
   rcases yw with e|e
   .rw[e];exact⟨row,rfl,.inl w8⟩
   .rw[e];exact⟨row.reverse,by show O (UG (row.map int).reverse)=_;unfold Zt;rw[List.map_reverse],.inr w8⟩
  have zk:(rs.map Zt).length<1000000:=by rw[Qb];have:=g.few;lia
  refine ZQ (X9 w8 (Kd (ZK (U0 (Yy w8 w8) (U0 (D4 (UW w8) U7 U7 (XH (Rr U7))) U3)) (Qa w8)) (KI w8 (Rr U7) hlx) hix) w8 zk w8) ?_;refine K2 ⟨rs++[yV],pb (.int (1+(j:Int))),pb (.list (row.map int)),by rw[QA];rfl,g.add ?_ ?_ ?_⟩
  .rcases yW with e|e<;>rw[e]
   .exact hne
   .exact λz=>hne (List.reverse_eq_nil_iff.mp z)
  .intro t ht
   rw[ao];rcases yW with e|e<;>rw[e]at ht
   .exact ht
   .exact List.mem_reverse.mp ht
  .have hnd:=wa n pl (1+(j:Int))
   rw[ao]at hnd;rcases yW with e|e<;>rw[e]
   .exact hnd
   .exact(List.reverse_perm row).nodup_iff.mpr hnd
 case h3=>exact λ_=>K5 (K2 ⟨rs,_,_,rfl,g.next⟩)
def O4(T A R:Nat)(S dz:D)(at_ n:Nat)(cs:yd)(i:Nat)(Z:UU):Prop:=∃(ls:L3)(x9 yK yv x12 zS yJ:Option Sl),
 Z=[pb S,pb (.int at_),pb (.int (T:Nat)),pb (.int (A:Nat)),pb (.int (R:Nat)),pb dz,O (.own (cs.map int)),O (.own (ls.map K0)),x9,yK,yv,x12,zS,yJ]/\ls.length=i/\∀rs∈ls,TM n rs/\rs.length<=R
theorem v8{T A R:Nat}{ns:yd}{dz:D}{at_ n:Nat}{cs:yd}{i:Nat}{m:Int}{d:D}{Z:UU}{Q:Out->Prop}(hns:ns.length<=1000)(hT:T<=6)(hR:R<=5)(hcs:cs.length=n)(hn:n<=T)(hm:m<=100)
  (hi:(Yp 0 m)[i]?=O d) (h:O4 T A R (.list (ns.map int)) dz at_ n cs i Z) :
  ∃Z2,gN 8 d Z=O Z2/\Ho NJ Z2 (VR (O4 T A R (.list (ns.map int)) dz at_ n cs (i+1)) Q):=by
 obtain⟨ls,x9,yK,yv,x12,zS,yJ,rfl,hl,hg⟩:=h;obtain⟨rfl,hlt⟩:=Wa hi;refine⟨_,U2 (Qa w8) w8,?_⟩;unfold NJ;obtain⟨v,hv⟩:=MQ ns (at_+1+i) hns;have ev:((at_:Int)+1+(0+(i:Int)))=((at_+1+i:Nat):Int):=by lia
 rw[←ev]at hv;refine Km (KE (Ky (U0 (UW w8) (U0 (Kd (Kd (UW w8) U7 K7) (UW w8) K7) U3)) w8 hv) (Qa w8) w8) ?_;obtain⟨r,hF,pl,rfl,hpl,hpb⟩:=MR v (11*(at_:Int)+3*(0+(i:Int))+1) (sizes:=YJ T R) (Ab hR) (by rw[GM];lia);have hpl7:pl.length=T+1:=by rw[hpl,GM]
 have hmul:Kv (.list [.int ((R:Int)+1)]) (.int (T:Nat))=O (.list (UF T (.int ((R:Int)+1)))):=Os (by lia);have hadd:U9 (.list (UF T (.int ((R:Int)+1)))) (.list [.int 2])=O (.list ((YJ T R).map int)):=by rw[XF (by rw[QH];show T+1<=_;lia)];unfold YJ;rw[QA,JP];rfl
 refine Km (KE (Ky (U0 (UW w8) (U0 (Kd (Kd (Kd U7 (UW w8) (TJ (by decide) (by decide))) (Kd U7 (UW w8) (TJ (by decide) (by decide))) K7) U7 K7) (U0 (Kd (Kd (ZK (U0 (Kd (UW w8) U7 K7) U3) (Qa w8)) (UW w8) hmul) (ZK (U0 U7 U3) (Qa w8)) hadd) U3))) w8 hF) (Qa w8) w8) ?_;refine Km (Yo (Wl U3 (Qa w8)) (Qa w8) w8) ?_
 have yw:pl.getD T 0=0∨pl.getD T 0=1:=by
  have e:pl[T]?=O pl[T]:=Qe (by lia);have:=hpb T pl[T] 2 e kn;have e2:pl.getD T 0=pl[T]:=by simp[List.getD,e]
  rw[e2];lia
 apply K1;apply ZA (O5 T A R (.list (ns.map int)) dz at_ n cs pl ls (O (.pub (.int (0+(i:Int))))) (O (.pub (.int v))))
 case h1=>exact BQ (U0 U7 (U0 (Kd (UW w8) U7 K7) U3)) (qD (by lia) (by lia) (by decide) (by decide))
 case h0=>exact⟨[],zS,yJ,rfl,⟨Qu _,λ_ h=>(by cases h),λ_ h=>(by cases h),List.nodup_nil⟩⟩
 case hst=>exact λj d Z e h=>vj hcs hT hR hn hpl7 yw e h
 case hend=>
  rintro Z ⟨rs,y13,y14,rfl,g⟩;refine KQ ?_;have hl5:(Yp 1 ((R:Int)+1)).length=R:=by rw[YI];lia
  rw[hl5]at g;have yy:(ls.map K0).length<1000000:=by rw[Qb];lia
  refine ZQ (X9 w8 (Yy w8 w8) w8 yy w8) ?_;refine K2 ⟨ls++[rs],pb (.int (0+(i:Int))),pb (.int v),pb (.list (pl.map int)),pb (.list (rs.map Zt)),y13,y14,by rw[QA];rfl,by rw[Qk,hl];rfl,λx hx=>?_⟩;rcases QC.mp hx with z|z
  .exact hg x z
  .rw[Qq.mp z];exact⟨⟨by have:=g.few;lia,g.some,λr hr t ht=>(g.there r hr t ht).1,g.once⟩,g.few⟩
theorem wC(T A R:Nat){ns:yd}(hns:ns.length<=1000)(at_:Nat)(hT1:1<=T:=by decide)(hT:T<=6:=by decide)(hA1:1<=A:=by decide)(hA:A<=7:=by decide)(hR:R<=5:=by decide):∃r,Vk [.list (ns.map int),.int at_,.int (T:Nat),.int (A:Nat),.int (R:Nat)]=O r/\∃cs ls,r=Kq cs ls/\Good cs ls/\cs.length<=T/\ls.length<=A/\∀rs∈ls,rs.length<=R:=by
 obtain⟨v,hv⟩:=MQ ns at_ hns;obtain⟨r,hF,ds,rfl,hl,hd⟩:=MR v at_ (sizes:=szG T A) (CC hT1 hT hA1 hA) (by rw[Hk];lia);have hl8:ds.length=T+2:=by rw[hl,Hk]
 have at':∀(j:Nat)(k z:Int),k=j->(szG T A)[j]?=O z->∃d,oIx (.list (ds.map int)) (.int k)=O (.int d)/\ds[j]?=O d/\0<=d/\d<z:=λj k z hk hz=>by
  subst hk;have hj:j<ds.length:=by rw[hl];exact(Qg.mp hz).1
  have e:ds[j]?=O ds[j]:=Qe hj;obtain⟨p0,p1⟩:=hd j ds[j] z e hz;exact⟨ds[j],Zz (by rw[Qd,e];rfl),e,p0,p1⟩
 obtain⟨d0,x0,e0,p0,q0⟩:=at' 0 0 T w8 w8;obtain⟨d1,x1,e1,p1,q1⟩:=at' 1 1 A w8 w8;have hmul:Kv (.list [.int 11]) (.int (T:Nat))=O (.list (UF T (.int 11))):=Os (by lia);have hadd:U9 (.list [.int (T:Nat),.int (A:Nat)]) (.list (UF T (.int 11)))=O (.list ((szG T A).map int)):=by rw[XF (by rw[QH];show 2+T<=_;lia)];unfold szG;rw[Qs,Qs,JP];rfl
 obtain⟨n,hn⟩:∃n:Nat,1+d0=n:=⟨(1+d0).toNat,by lia⟩
 refine WD (Z:=[pb (.list (ns.map int)),pb (.int at_),pb (.int (T:Nat)),pb (.int (A:Nat)),pb (.int (R:Nat)),w9,w9,w9,w9,w9,w9,w9,w9,w9]) w8 ?_;unfold T5;refine Km (KE (Ky (U0 (Ky (U0 (UW w8) (U0 (UW w8) U3)) w8 hv) (U0 (UW w8) (U0 (Kd (ZK (U0 (UW w8) (U0 (UW w8) U3)) (Qa w8)) (Kd (ZK (U0 U7 U3) (Qa w8)) (UW w8) hmul) hadd) U3))) w8 hF) (Qa w8) w8) ?_
 have yH:DL.cutD (ds.map int) (O 2) (O (3+d0))=((ds.drop 2).take n).map int:=by
  rw[N0 (by decide) (by lia) (by lia)];have:(3+d0).toNat-(2:Int).toNat=n:=by lia
  rw[this];rfl
 have zy:((ds.drop 2).take n).length=n:=by rw[QZ,Jm,hl8];lia
 have each:∀z∈(ds.drop 2).take n,0<=z/\z<11:=λz hz=>by
  have hz:=Ui hz;obtain⟨k,hk,e⟩:=List.getElem_of_mem hz;rw[Jm,hl8]at hk;rw[List.getElem_drop]at e;have e2:ds[2+k]?=O z:=by rw[←e];exact Qe _
  refine hd (2+k) z 11 e2 (CB ?_)
  lia
 let cs:yd:=((ds.drop 2).take n).map λz=>tab.getD z.toNat 0
 have hcl:cs.length=n:=by show(List.map _ _).length=n;rw[Qb,zy]
 have hc:∀xs:List (Option Sl),Ks xs=xs->xs.length=14->K4 (gN 14) (U1 ya) (UY oIx (Kw (UX (U1 (.int 1)) (UX (U1 (.int 1)) (UX (U1 (.int 2)) (UX (U1 (.int 0)) (UX (U1 (.int 3)) (UX (U1 (.int 7)) (UX (U1 (.int 1)) (UX (U1 (.int 4)) (UX (U1 (.int 5)) (UX (U1 (.int 6)) (UX (U1 (.int 1)) (UV))))))))))))) (UT 14)) (((ds.drop 2).take n).map int) (Ks xs++UF 1 w9) []=O (cs.map int):=by
  intro xs hx hxl;rw[hx,Pr (λ_=>ya) (λd=>match d with | .int z=>.int (tab.getD z.toNat 0)|_=>.none) (λZ=>∃x,Z=xs++[x])]
  .rw[Ul.mpr (λ_ _=>rfl),QY,Jl]
   show _=O ((((ds.drop 2).take n).map λz=>tab.getD z.toNat 0).map int);rw[Jl];rfl
  .rintro d hm Z ⟨x,rfl⟩
   obtain⟨z,hz,rfl⟩:=Qt.mp hm;have ht:=Lo (each z hz).1 (each z hz).2;have hset:(xs++[x]).set 14 (O (Sl.pub (.int z)))=xs++[pb (.int z)]:=by rw[List.set_append_right _ _ (by lia),hxl];rfl
   have hget:(xs++[O (Sl.pub (.int z))])[14]?=O (O (Sl.pub (.int z))):=by rw[Qy (by lia),hxl];rfl
   refine⟨_,U2 (by rw[Qk,hxl];exact Qa w8) hset,rfl,λ_=>?_,pb (.int z),?_⟩
   .exact Kd (ZK (U0 U7 (U0 U7 (U0 U7 (U0 U7 (U0 U7 (U0 U7 (U0 U7 (U0 U7 (U0 U7 (U0 U7 (U0 U7 U3))))))))))) (Qa w8)) (UW hget) ht.1
   .unfold Ks at hx⊢
    rw[QA,hx];rfl
  .exact⟨w9,rfl⟩
  .rw[Qb,zy,QF];lia
 refine Km (Yo (Yc (ZB (V3 (UW w8) (XH U7) (XH (Kd U7 (KI w8 U7 x0) K7)) (by rw[Tc,yH])) Z9) (hc _ w8 w8)) (Qa w8) w8) ?_;refine Km (Yo (Wl U3 (Qa w8)) (Qa w8) w8) ?_;apply K1;apply ZA (O4 T A R (.list (ns.map int)) (.list (ds.map int)) at_ n cs)
 case h1=>exact Xi (U0 (Kd U7 (KI w8 U7 x1) K7) U3) (Xg (by lia) (by lia))
 case h0=>exact⟨[],_,_,_,_,_,_,rfl,rfl,λ_ h=>by cases h⟩
 case hst=>exact λi d Z e h=>v8 hns hT hR hcl (by lia) (by lia) e h
 case hend=>rintro Z ⟨ls,y9,y10,y11,y12,y13,y14,rfl,yy,hg⟩;rw[YI]at yy;refine KQ (KJ (Xl (U0 (Yy rfl rfl) (U0 (Yy rfl rfl) U3)) (Qa rfl)) ⟨_,rfl,cs,ls,rfl,⟨?_,by lia,by lia,λrs hrs=>(hg rs hrs).2⟩⟩);exact⟨by lia,by lia,λc hc=>by obtain⟨z,hz,rfl⟩:=Qt.mp hc;exact(Lo (each z hz).1 (each z hz).2).2,by lia,by lia,λrs hrs=>by rw[hcl];exact(hg rs hrs).1⟩
noncomputable def Zw(t:Int)(rs:List yd):Nat:=if rs.findIdx (λr=>r.contains t)<rs.length then rs.findIdx (λr=>r.contains t)+1 else 0
theorem Aa(a b:Int):UM (.int a) (.int b)=(a==b):=by simp[UM]
theorem NG(t:Int)(r:yd):oIn (.int t) (Zt r)=O (r.contains t):=by
 have h1:UK (r.map int)=ya:=by
  induction r with
  |nil=>rfl
  |cons x r ih=>rw[Qs];unfold UK;rw[ih];rfl
 unfold oIn Zt;dsimp only;rw[Qo ⟨rfl,h1,JM _⟩]
 congr 1
 rw[List.any_map];clear h1;induction r with
 |nil=>rfl
 |cons x r ih=>
  rw[Um,ih,List.contains_cons]
  congr 1
  show UM (.int x) (.int t)=(t==x);rw[Aa];exact Bool.eq_iff_iff.2 ⟨λh=>beq_iff_eq.2 (beq_iff_eq.1 h).symm,λh=>beq_iff_eq.2 (beq_iff_eq.1 h).symm⟩
theorem FM{t:Int}{rs:List yd}{i:Nat}{r:yd}(hr:rs[i]?=O r)(h:r.contains t=ya)(hb:∀j r,j<i->rs[j]?=O r->r.contains t=yb):Zw t rs=1+i:=by obtain⟨hi,e⟩:=List.getElem?_eq_some_iff.1 hr;have hf:rs.findIdx (λr=>r.contains t)=i:=(List.findIdx_eq hi).2 ⟨by rw[e];exact h,λj hj=>hb j _ hj (Qe (Nat.lt_trans hj hi))⟩;unfold Zw;rw[hf,Qo hi,Nat.add_comm]
theorem FL{t:Int}{rs:List yd}(hb:∀j r,j<rs.length->rs[j]?=O r->r.contains t=yb):Zw t rs=0:=by
 have hf:rs.findIdx (λr=>r.contains t)=rs.length:=List.findIdx_eq_length.2 λr hr=>by obtain⟨j,hj,e⟩:=List.mem_iff_getElem.1 hr;exact hb j r hj (by rw[Qe hj,e])
 unfold Zw;rw[hf,QB (Jv _)]
theorem vi(t:Int)(rs:List yd):VL [K0 rs,.int t]=O (.int (Zw t rs:Nat)):=by
 refine Zj (Z:=[pb (K0 rs),pb (.int t),w9,w9]) w8 ?_;unfold SK;apply K1;apply ZA (λi Z=>(∃x2 x3,Z=[pb (K0 rs),pb (.int t),x2,x3])/\∀j r,j<i->rs[j]?=O r->r.contains t=yb)
 case h1=>exact qB (U0 (UW w8) U3) kH
 case h0=>exact⟨⟨_,_,rfl⟩,λj r h=>absurd h (JG _)⟩
 case hst=>
  rintro i d Z hi ⟨⟨x2,x3,rfl⟩,hb⟩;obtain⟨x,hx,rfl⟩:=XE hi;rw[Qd]at hx;cases hr:rs[i]? with
  |none=>rw[hr]at hx;cases hx
  |some r=>
   rw[hr]at hx;cases hx;refine⟨_,Kz w8 (U8 (U2 (Qa w8) w8) (U8 (U2 (Qa w8) w8) KB)),?_⟩;unfold L7;apply KR
   case h1=>exact Yb w8 (UW w8) (NG t r)
   case h2=>intro hh;refine KJ (UW w8) (Pl ?_);rw[FM hr hh hb];exact⟨rfl⟩
   case h3=>
    intro hh;refine K5 (K2 ⟨⟨_,_,rfl⟩,λj r' hj hr'=>?_⟩);rcases Nat.lt_succ_iff_lt_or_eq.1 hj with h|rfl
    .exact hb j r' h hr'
    .rw[hr]at hr';cases hr';exact hh
 case hend=>rintro Z ⟨⟨x2,x3,rfl⟩,hb⟩;rw[YH,Qb]at hb;refine KQ ?_;rw[FL hb];exact KJ U7 rfl
noncomputable def Ke:yi->D
 |none=>.none
 |some t=>.int t
noncomputable def Kh(ws:LO):D:=.list (ws.map Ke)
structure Deal(cs:yd)(ls:L3)(ws:LO):Prop where
 len:ws.length=ls.length
 wish:∀(i:Nat) t rs,ws[i]?=O (O t)->ls[i]?=O rs->t∈rs.flatten
 cop:∀(k:Nat) c,cs[k]?=O c->((ws.count (O (k:Int)):Nat):Int)<=c
theorem Et{t:Int}{rs:List yd}(h:t∈rs.flatten):Zw t rs≠0:=by
 obtain⟨r,hr,ht⟩:=Us.mp h;have:rs.findIdx (λr=>r.contains t)<rs.length:=List.findIdx_lt_length_of_exists ⟨r,hr,by simpa using ht⟩;unfold Zw;rw[Qo this]
 lia
theorem OA(ws:LO):UK (ws.map Ke)=ya:=TN λx hx=>by obtain⟨y,_,rfl⟩:=Qt.mp hx;cases y<;>rfl
theorem NT(a b:yi):UM (Ke a) (Ke b)=decide (a=b):=by rw[Ua];cases a<;>cases b<;>simp[Ke,UM]
theorem Mv{ws:LO}{k:Int}:Tf (Kh ws) (.int k)=O (.int (ws.count (O k):Nat)):=by
 unfold Kh Tf;dsimp only;rw[if_pos ⟨rfl,OA ws,by simp[UL]⟩]
 congr 3
 induction ws with
 |nil=>rfl
 |cons w r ih=>
  rw[Qs,List.countP_cons,JK,ih]
  congr 1
  have:=NT w (O k);have e:Ke (O k)=.int k:=rfl;rw[e]at this;rw[this];cases w with
  |none=>simp
  |some z=>simp
theorem qY{f:M yc}{k:Nat}{s:D->UU->yk}{t:M Bool}{g:M D}{Z Z1:UU}{ds es:yc}(h1:f Z=.ok ds Z1)(h2:K4 s t g ds (ZL Z1++UF k w9) []=O es)(h3:es.all flat=ya):R6 f k s t g Z=.ok es Z1:=by unfold R6;rw[h1];dsimp only;rw[h2];dsimp only;rw[if_pos h3]
theorem km{cs:yd}{ls:L3}{rs:List yd}{i:Nat}(hi:ls[i]?=O rs)(hl:rs.flatten.length<64):Vh [Kq cs ls,.int i]=O (.list ((YW rs.flatten).map int)):=by
 refine Zj (Z:=[pb (Kq cs ls),pb (.int i)]) w8 ?_;unfold T2;have i1:oIx (Kq cs ls) (.int 1)=O (.list (ls.map K0)):=Zz (j:=1) w8;have i2:oIx (.list (ls.map K0)) (.int i)=O (K0 rs):=Zz (by rw[Qd,hi];rfl)
 have hs:Ri [K0 rs,.list []]=O (.list (rs.flatten.map int)):=by
  have e:K0 rs=.list ((rs.map λr=>r.map int).map UG):=by unfold K0;rw[Jl];rfl
  have e2:(rs.map λr=>r.map int).flatten=rs.flatten.map int:=by rw[List.map_flatten]
  rw[e];unfold Ri;dsimp only;rw[vC];dsimp only;rw[e2,Qo (by rw[Qb];lia)]
 exact KJ (ZS (U0 (ZS (U0 (Kd (KI w8 U7 i1) (UW w8) i2) (U0 (ZK U3 (Qa w8)) U3)) hs) U3) (EA hl)) w8
theorem kj{ls:L3}{ws:LO}{o:yi}{rs:List yd}(h:∀(i:Nat) t rs,ws[i]?=O (O t)->ls[i]?=O rs->t∈rs.flatten)(hi:ls[ws.length]?=O rs)(ho:∀t,o=O t->t∈rs.flatten) :
  ∀(i:Nat) t rs,(ws++[o])[i]?=O (O t)->ls[i]?=O rs->t∈rs.flatten:=by
 intro j t rs' e1 e2;by_cases hj:j<ws.length
 .rw[Qx hj]at e1;exact h j t rs' e1 e2
 .by_cases aw:j=ws.length
  .subst aw
   rw[hi]at e2;cases e2;rw[Qy (Qu _),Nat.sub_self,List.getElem?_cons_zero]at e1;cases e1;exact ho t w8
  .rw[Q9 (by rw[Qk,QP];lia)]at e1
   cases e1
theorem Ln{os:LO}{k:Nat}(h:k<os.length):oIx (.list (os.map Ke)) (.int k)=O (Ke os[k]):=Zz (by rw[Qd,Qe h];rfl)
theorem GL(ws:LO):(Kh ws).depth<=2:=NI (OS λx hx=>by obtain⟨y,_,rfl⟩:=Qt.mp hx;cases y<;>simp[Ke,UL])
theorem XI{s:D->UU->yk}{t:M Bool}{g:M D}(I:UU->Prop):∀(ds qs:yc)(Z:UU)(es:yc),qs.length=ds.length ->
  (∀(i:Nat) d e,ds[i]?=O d->qs[i]?=O e->∀Z,I Z->∃Z1,s d Z=O Z1/\t Z1=.ok ya Z1/\g Z1=.ok e Z1/\I (Ks Z1))->I Z->es.length+ds.length<=1000000->K4 s t g ds Z es=O (es++qs)
 |[],[],Z,es,_,_,_,_=>by rw[K4,Q2]
 |d::r,e::q,Z,es,hl,st,h0,hz=>by obtain⟨Z1,e1,e2,e3,h1⟩:=st 0 d e w8 w8 Z h0;rw[Qz]at hz;rw[K4,e1];dsimp only;rw[e2];dsimp only;rw[Qo w8,e3];dsimp only;rw[if_pos (by lia),XI I r q (Ks Z1) (es++[e]) (by simpa using hl) (λi d' e' x y=>st (i+1) d' e' (by simpa using x) (by simpa using y)) h1 (by rw[List.length_append,List.length_singleton];lia),List.append_assoc];rfl
noncomputable def lng(ls:L3):Nat:=(most (ls.map λrs=>(rs.length:Int))).toNat
noncomputable def Xw(cs:yd)(ws:LO):yd:=(UE cs.length).map λk:Nat=>cs.getD k 0-((ws.count (O (k:Int)):Nat):Int)
theorem NS{ls:L3}(h:1<=ls.length):most (ls.map λrs=>(rs.length:Int))=(lng ls:Nat):=by
 have hm:most (ls.map λrs=>(rs.length:Int))∈ls.map λrs=>(rs.length:Int):=Pm (by rw[Qb];lia)
 obtain⟨rs,_,e⟩:=Qt.mp hm;unfold lng
 lia
theorem Lm{ls:L3}{rs:List yd}(h:rs∈ls):rs.length<=lng ls:=by
 have h1:((rs.length:Nat):Int)<=most (ls.map λrs=>(rs.length:Int)):=Pc (Qt.mpr ⟨rs,h,rfl⟩);have h2:=NS (ls:=ls) (List.length_pos_of_mem h)
 lia
theorem Nh{ls:L3}{n:Nat}(h1:1<=ls.length)(h:∀rs∈ls,rs.length<=n):lng ls<=n:=by
 have hm:most (ls.map λrs=>(rs.length:Int))∈ls.map λrs=>(rs.length:Int):=Pm (by rw[Qb];lia)
 obtain⟨rs,hr,e⟩:=Qt.mp hm;have:=h rs hr;unfold lng
 lia
theorem MB(t:Int)(rs:List yd):Zw t rs<=rs.length:=by
 unfold Zw
 split<;>lia
section
variable{cs:yd}{ls:L3}{ws:LO}
theorem WM:oIx (Kq cs ls) (.int 0)=O (.list (cs.map int)):=Zz (j:=0) w8
theorem WB:oIx (Kq cs ls) (.int 1)=O (.list (ls.map K0)):=Zz (j:=1) w8
theorem MX{i:Nat}{rs:List yd}(h:ls[i]?=O rs):oIx (.list (ls.map K0)) (.int i)=O (K0 rs):=Zz (by rw[Qd,h];rfl)
theorem FJ(rs:List yd):Kn [K0 rs]=O (.int rs.length):=by unfold K0;rw[Zv,Qb]
theorem vh(g:Good cs ls):VJ [Kq cs ls]=O (.int (lng ls:Nat)):=by
 refine Zj (Z:=[pb (Kq cs ls)]) w8 ?_;unfold SJ;have hw:=OP g
 have hc:K4 (gN 1) (U1 ya) (Zu 1) (ls.map K0) (Ks [pb (Kq cs ls)]++UF 1 w9) []=O ((ls.map λrs=>(rs.length:Int)).map int):=by
  refine XI (λZ=>∃x,Z=[pb (Kq cs ls),x]) _ _ _ _ (by rw[Qb,Qb,Qb]) ?_ ⟨w9,rfl⟩ (by rw[Qb,QF];have:=g.l7;lia);rintro i d e hd he Z ⟨x,rfl⟩;rw[Qd]at hd;rw[Qd,Qd]at he;cases hl:ls[i]? with
  |none=>rw[hl]at hd;cases hd
  |some rs=>
  rw[hl]at hd he;cases hd;cases he;exact⟨_,U2 (Qa w8) w8,rfl,ZX w8 (FJ rs),_,rfl⟩
 refine Km (Te (Ky (U0 (UW w8) U3) w8 hw)) ?_;refine KJ (ZS (U0 (KU (Yc (ZB (KI w8 U7 WB) Z9) hc)) U3) (N7 (by rw[Qb];have:=g.l1;lia))) ?_;rw[NS g.l1]
theorem wQ(g:Good cs ls):VH [Kq cs ls,Kh ws]=O (.list ((Xw cs ws).map int)):=by
 refine Zj (Z:=[pb (Kq cs ls),pb (Kh ws)]) w8 ?_;unfold SH;have hw:=OP g
 have hc:K4 (gT 2 (gNC (gN 2) (gNC (gN 3) (gN0)))) (U1 ya) (UY KY (UT 3) (V5 (UT 1) (UX (UT 2) (UV)))) (Yq 0 (cs.map int)) (Ks [pb (Kq cs ls),pb (Kh ws)]++UF 2 w9) []=O ((Xw cs ws).map int):=by
  refine XI (λZ=>∃x y,Z=[pb (Kq cs ls),pb (Kh ws),x,y]) _ _ _ _ (by unfold Xw;rw[Qb,Qb,Qp,YH,Qb]) ?_ ⟨w9,w9,rfl⟩ (by rw[YH,Qb,QF];have:=g.c6;lia);rintro i d e hd he Z ⟨x,y,rfl⟩;obtain⟨z,hz,rfl⟩:=XE hd;rw[Qd]at hz;cases hci:cs[i]? with
  |none=>rw[hci]at hz;cases hz
  |some c=>
  rw[hci]at hz;cases hz;have yx:i<cs.length:=(Qg.mp hci).1;unfold Xw at he;rw[Qd,Qd,Qe (by rw[Qp];exact yx),List.getElem_range]at he;cases he;rw[Q0];have e:cs.getD i 0=c:=by simp[List.getD,hci]
  dsimp only;rw[e];exact⟨_,Kz w8 (U8 (U2 (Qa w8) w8) (U8 (U2 (Qa w8) w8) KB)),rfl,Kd (UW w8) (N6 (UW w8) (U0 (UW w8) U3) Mv) YT,_,_,rfl⟩
 refine Km (Te (Ky (U0 (UW w8) U3) w8 hw)) ?_;exact KJ (KU (Yc (XQ (U0 (KI w8 U7 WM) U3) XN) hc)) w8
end
theorem B9{d:D}(h1:d.canLay0=ya)(h2:d.depth<=60):oNe d d=O yb:=by unfold oNe;rw[Qo ⟨h1,h1,h2⟩,NU _ h1];rfl
theorem Ng{a b:yi}:oEq (Ke a) (Ke b)=O (decide (a=b)):=by unfold oEq;rw[if_pos ⟨by cases a<;>rfl,by cases b<;>rfl,by cases a<;>simp[Ke,UL]⟩,NT]
theorem CA{a b:yi}:oNe (Ke a) (Ke b)=O (!decide (a=b)):=by unfold oNe;rw[if_pos ⟨by cases a<;>rfl,by cases b<;>rfl,by cases a<;>simp[Ke,UL]⟩,NT]
theorem Cz{xs:yc}{a:Nat}(h:a<=xs.length):DL.cutD xs w9 (O (a:Int))=xs.take a:=by
 unfold DL.cutD HT.sIx;dsimp only;rw[QB (by lia),QM];have:min a xs.length=a:=by lia
 rw[this];simp
theorem qX{xs:yc}{a:Nat}(h:a<=xs.length):DL.cutD xs (O (a:Int)) w9=xs.drop a:=by
 unfold DL.cutD HT.sIx;dsimp only;rw[QB (by lia),QM];have:min a xs.length=a:=by lia
 rw[this,List.take_of_length_le (by rw[Jm];lia)]
theorem Es{s:D->UU->yk}{t:M Bool}{g:M D}(I:UU->Prop):∀(ds qs:yc)(Z:UU)(es:yc),qs.length=ds.length ->
  (∀(i:Nat) d e,ds[i]?=O d->qs[i]?=O e->∀Z,I Z->∃Z1,s d Z=O Z1/\t Z1=.ok ya Z1/\g Z1=.ok e Z1/\I (Ks Z1))->I Z->es.length+ds.length<=1000000->∃Z',Y4 s t g ds Z es=O (es++qs,Z')/\I Z'
 |[],[],Z,es,_,_,h0,_=>⟨Z,by rw[Y4,Q2],h0⟩
 |d::r,e::q,Z,es,hl,st,h0,hz=>by obtain⟨Z1,e1,e2,e3,h1⟩:=st 0 d e w8 w8 Z h0;rw[Qz]at hz;obtain⟨Z',e',h'⟩:=Es I r q (Ks Z1) (es++[e]) (by simpa using hl) (λi d' e' x y=>st (i+1) d' e' (by simpa using x) (by simpa using y)) h1 (by rw[List.length_append,List.length_singleton];lia);refine⟨Z',?_,h'⟩;rw[Y4,e1];dsimp only;rw[e2];dsimp only;rw[Qo w8,e3];dsimp only;rw[Qo (by lia),e',Ja];rfl
theorem Mu{s:D->UU->yk}{t:M Bool}{f:M yc}{Rd:yc->UU->yc->Option (yc×UU)}(I:UU->Prop):∀(ds:yc)(qs:List yc)(Z:UU)(es:yc),qs.length=ds.length ->
  (∀(i:Nat) d q,ds[i]?=O d->qs[i]?=O q->∀Z es,I Z->es.length+q.length<=1000000->∃Z1 xs Z2 Z3,s d Z=O Z1/\t Z1=.ok ya Z1/\f Z1=.ok xs Z2/\Rd xs (Ks Z2) es=O (es++q,Z3)/\I Z3)->I Z->es.length+qs.flatten.length<=1000000->∃Z',XB s t f Rd ds Z es=O (es++qs.flatten,Z')/\I Z'
 |[],[],Z,es,_,_,h0,_=>⟨Z,by rw[XB,List.flatten_nil,Q2],h0⟩
 |d::r,q::qr,Z,es,hl,st,h0,hz=>by rw[QS,Qk]at hz;obtain⟨Z1,xs,Z2,Z3,e1,e2,e3,e4,h1⟩:=st 0 d q w8 w8 Z es h0 (by lia);obtain⟨Z',e',h'⟩:=Mu I r qr Z3 (es++q) (by simpa using hl) (λi d' e' x y=>st (i+1) d' e' (by simpa using x) (by simpa using y)) h1 (by rw[List.length_append];lia);refine⟨Z',?_,h'⟩;rw[XB,e1];dsimp only;rw[e2];dsimp only;rw[Qo w8,e3];dsimp only;rw[e4];dsimp only;rw[e',QS,Ja]
noncomputable def WA(i:Nat)(rs:List yd):LP:=rs.flatten.map λt=>((i:Int),t)
noncomputable def Yg(k:Nat):L3->LP
 |[]=>[]
 |rs::ls=>WA k rs++Yg (k+1) ls
noncomputable def Kr(k:Nat):L3->LP
 |[]=>[]
 |rs::ls=>(YW rs.flatten).map (λt=>((k:Int),t))++Kr (k+1) ls
theorem Pt:∀(ls:L3)(k:Nat),(Kr k ls).Perm (Yg k ls)
 |[],_=>.nil
 |rs::ls,k=>((Wj rs.flatten).map _).append (Pt ls (k+1))
theorem Mf:∀(ls:L3)(k:Nat),∀q∈Kr k ls,(k:Int)<=q.1
 |[],_,q,h=>by cases h
 |rs::ls,k,q,h=>by
  rcases QC.mp h with h|h
  .obtain⟨t,_,rfl⟩:=Qt.mp h;exact Q6 _
  .have:=Mf ls (k+1) q h;lia
theorem Ta:∀{ls:L3}{k:Nat}{q:Int×Int},q∈Kr k ls->∃i rs,ls[i]?=O rs/\q.1=((k+i:Nat):Int)/\q.2∈rs.flatten
 |[],_,q,h=>by cases h
 |rs::ls,k,q,h=>by
  rcases QC.mp h with h|h
  .obtain⟨t,ht,rfl⟩:=Qt.mp h
   exact⟨0,rs,rfl,rfl,(Wj _).mem_iff.mp ht⟩
  .obtain⟨i,rs',h1,h2,h3⟩:=Ta h
   exact⟨i+1,rs',by simpa using h1,by rw[h2];congr 1;lia,h3⟩
theorem GK:∀{ls:L3}{k i:Nat}{rs:List yd}{t:Int},ls[i]?=O rs->t∈rs.flatten->(((k+i:Nat):Int),t)∈Kr k ls
 |rs::ls,k,0,rs',t,h,ht=>by cases h;exact QI _ (Qt.mpr ⟨t,(Wj _).mem_iff.mpr ht,rfl⟩)
 |rs::ls,k,i+1,rs',t,h,ht=>by have:=GK (ls:=ls) (k:=k+1) (i:=i) (by simpa using h) ht;rw[show k+1+i=k+(i+1)by lia]at this;exact QE _ this
theorem GJ{n:Nat}(hn:n<=6):∀(ls:L3)(k:Nat),(∀rs∈ls,∀t∈rs.flatten,0<=t/\t<n)->(Kr k ls).Pairwise λx y=>KG x<=KG y
 |[],_,_=>.nil
 |rs::ls,k,h=>by
  refine List.pairwise_append.mpr ⟨?_,GJ hn ls (k+1) λrs' hr=>h rs' (Qh _ hr),λx hx y hy=>?_⟩
  .rw[List.pairwise_map]
   refine(Fz rs.flatten).imp λ{a b} hab=>?_
   unfold KG;dsimp only
   lia
  .obtain⟨t,ht,rfl⟩:=Qt.mp hx
   have h1:=Mf ls (k+1) y hy;have h2:=h rs Qi t ((Wj _).mem_iff.mp ht);obtain⟨i,rs',g1,g2,g3⟩:=Ta hy;have h3:=h rs' (Qh _ (Qv g1)) y.2 g3;unfold KG;dsimp only
   lia
theorem TM.flat{n:Nat}{rs:List yd}(g:TM n rs):∀t∈rs.flatten,0<=t/\t<n:=λt ht=>by obtain⟨r,h1,h2⟩:=Us.mp ht;exact g.there r h1 t h2
section
variable{cs:yd}{ls:L3}
theorem GI(n:Nat):∀(ls:L3)(k:Nat),(∀rs∈ls,rs.flatten.length<=n)->(Yg k ls).length<=ls.length*n
 |[],_,_=>by simp[Yg]
 |rs::ls,k,h=>by
  have h1:=GI n ls (k+1) λr hr=>h r (Qh _ hr);have h2:=h rs Qi
  show(WA k rs++Yg (k+1) ls).length<=_
  rw[Qk,Qz,Nat.succ_mul];unfold WA;rw[Qb]
  lia
theorem vU(g:Good cs ls):WL (Yg 0 ls)=Kr 0 ls:=by
 have hf:∀rs∈ls,∀t∈rs.flatten,0<=t/\t<cs.length:=λrs hr=>(g.rk rs hr).flat
 have ok:∀q∈Kr 0 ls,okP q:=λq hq=>by obtain⟨i,rs,h1,h2,h3⟩:=Ta hq;have:=hf rs (Qv h1) q.2 h3;have:=g.c6;exact⟨by lia,by lia⟩
 exact(NX ok ((Pt ls 0).trans (EB _).symm) (GJ g.c6 ls 0 hf) (Ft _)).symm
theorem Cy(g:Good cs ls):∀q∈Yg 0 ls,okP q:=λq hq=>by obtain⟨i,rs,h1,h2,h3⟩:=Ta ((Pt ls 0).mem_iff.mpr hq);have:=(g.rk rs (Qv h1)).flat q.2 h3;have:=g.c6;exact⟨by lia,by lia⟩
theorem Oq(g:Good cs ls):(Yg 0 ls).length<=42:=by
 have h:=GI 6 ls 0 λrs hr=>QJ (Mg (g.rk rs hr)) g.c6
 have:=g.l7
 lia
theorem NR:∀(ls:L3)(k:Nat),((ls.zipIdx k).map λp=>(WA p.2 p.1).map KZ).flatten=(Yg k ls).map KZ
 |[],_=>rfl
 |rs::ls,k=>by rw[List.zipIdx_cons,Qs,QS,NR ls (k+1)];show _=(WA k rs++Yg (k+1) ls).map KZ;rw[QA]
theorem wK(g:Good cs ls):VI [Kq cs ls]=O (.list ((Kr 0 ls).map KZ)):=by
 refine Zj (Z:=[pb (Kq cs ls)]) w8 ?_;unfold SI;refine Km (Te (Ky (U0 (UW w8) U3) w8 (OP g))) ?_
 have hc:∃Z',XB (gT 2 (gNC (gN 1) (gNC (gN 2) (gN0)))) (U1 ya) (KW (UT 2)) (XB (gN 3) (U1 ya) (KW (UT 3)) (Y4 (gN 4) (U1 ya) (KM (UX (UT 1) (UX (UT 4) (UV)))))) (Yq 0 (ls.map K0)) (Ks [pb (Kq cs ls)]++UF 4 w9) []=O ((Yg 0 ls).map KZ,Z'):=by
  have key:=Mu (s:=gT 2 (gNC (gN 1) (gNC (gN 2) (gN0)))) (t:=U1 ya) (f:=KW (UT 2)) (Rd:=XB (gN 3) (U1 ya) (KW (UT 3)) (Y4 (gN 4) (U1 ya) (KM (UX (UT 1) (UX (UT 4) (UV))))))
   (λZ=>∃x1 x2 x3 x4,Z=[pb (Kq cs ls),x1,x2,x3,x4]) (Yq 0 (ls.map K0)) ((ls.zipIdx 0).map λp=>(WA p.2 p.1).map KZ) (Ks [pb (Kq cs ls)]++UF 4 w9) [] (by rw[Qb,List.length_zipIdx,YH,Qb]) ?_ ⟨w9,w9,w9,w9,rfl⟩ (by rw[NR,Qb,QF];have:=Oq g;lia)
  .obtain⟨Z',e,_⟩:=key
   rw[NR,QY]at e;exact⟨Z',e⟩
  rintro i d q hd hq Z es ⟨x1,x2,x3,x4,rfl⟩ hlen;obtain⟨z,hz,rfl⟩:=XE hd;rw[Qd]at hz;rw[Qd,List.getElem?_zipIdx]at hq;cases hls:ls[i]? with
  |none=>rw[hls]at hz;cases hz
  |some rs=>
  rw[hls]at hz hq;cases hz;cases hq;rw[Q0]at *;dsimp only at hlen⊢
  have inner:=Mu (s:=gN 3) (t:=U1 ya) (f:=KW (UT 3)) (Rd:=Y4 (gN 4) (U1 ya) (KM (UX (UT 1) (UX (UT 4) (UV)))))
   (λZ=>∃x3 x4,Z=[pb (Kq cs ls),pb (.int i),pb (K0 rs),x3,x4]) (rs.map Zt) (rs.map λr=>r.map λt=>KZ ((i:Int),t)) (Ks [pb (Kq cs ls),pb (.int i),pb (K0 rs),x3,x4]) es (by rw[Qb,Qb]) ?_ ⟨YX x3,YX x4,rfl⟩ ?_
  .obtain⟨Z3,e3,y3,y4,h3⟩:=inner
   have ef:(rs.map λr=>r.map λt=>KZ ((i:Int),t)).flatten=(WA i rs).map KZ:=by unfold WA;rw[Jl,List.map_flatten];rfl
   rw[ef]at e3;exact⟨_,_,_,Z3,Kz w8 (U8 (U2 (Qa w8) w8) (U8 (U2 (Qa w8) w8) KB)),rfl,ZB (UW w8) w8,e3,_,_,_,_,h3⟩
  .rintro j d q hd hq Z es' ⟨y3,y4,rfl⟩ zA
   rw[Qd]at hd hq;cases hr:rs[j]? with
   |none=>rw[hr]at hd;cases hd
   |some r=>
   rw[hr]at hd hq;cases hd;cases hq
   obtain⟨Z3,e3,z4,h3⟩:=Es (s:=gN 4) (t:=U1 ya) (g:=KM (UX (UT 1) (UX (UT 4) (UV)))) (λZ=>∃x4,Z=[pb (Kq cs ls),pb (.int i),pb (K0 rs),pb (Zt r),x4]) (r.map int) (r.map λt=>KZ ((i:Int),t)) (Ks [pb (Kq cs ls),pb (.int i),pb (K0 rs),pb (Zt r),y4]) es' (by rw[Qb,Qb]) (by
    rintro m d e hd he Z ⟨x4,rfl⟩;rw[Qd]at hd he;cases hm:r[m]? with
    |none=>rw[hm]at hd;cases hd
    |some t=>
    rw[hm]at hd he;cases hd;cases he;exact⟨_,U2 (Qa w8) w8,rfl,Xl (U0 (UW w8) (U0 (UW w8) U3)) (Qa w8),_,rfl⟩) ⟨YX y4,rfl⟩ (by rw[Qb]at zA⊢;exact zA)
   exact⟨_,_,_,Z3,U2 (Qa w8) w8,rfl,ZB (UW w8) w8,e3,_,_,h3⟩
  .have ef:(rs.map λr=>r.map λt=>KZ ((i:Int),t)).flatten=(WA i rs).map KZ:=by
    unfold WA;rw[Jl,List.map_flatten];rfl
   rw[ef];exact hlen
 obtain⟨Z',hc⟩:=hc;have hs:=xj (qs:=Yg 0 ls) (by have:=Oq g;lia) (Cy g);rw[vU g]at hs;exact KJ (ZS (U0 (KU (jW (XQ (U0 (KI w8 U7 WB) U3) XN) hc)) U3) hs) w8
end
inductive Ord where|firsts|full|lasts
noncomputable def Ord.tx:Ord->Str
 |.firsts=> "firsts" | .full=> "full" | .lasts=> "lasts"
noncomputable def Ord.isF:Ord->Bool
 |.firsts=>ya|_=>yb
noncomputable def Ord.isU:Ord->Bool
 |.full=>ya|_=>yb
theorem Cw(o:Ord):oEq (.str o.tx) (.str "firsts")=O o.isF:=by cases o<;>decide +kernel
theorem Ll(o:Ord):oEq (.str o.tx) (.str "full")=O o.isU:=by cases o<;>decide +kernel
theorem wJ(o:Ord):VG [.str o.tx]=O (.bool ya):=by
 refine Zj (Z:=[pb (.str o.tx)]) w8 ?_;unfold SG;have h:oIn (.str o.tx) (.tuple ((["firsts", "full", "lasts"]:List Str).map UI))=O ya:=by cases o<;>decide +kernel
 exact KJ (On (KU (k:=λd=>UH (Zh d "str")) (UW w8)) (λ_=>KU (Yb w8 U7 h))) w8
theorem ki(o:Ord):VF [.str o.tx]=O .none:=by
 refine RZ (Z:=[pb (.str o.tx)]) w8 ?_;unfold SF;apply KR
 case h1=>exact XJ (Wk (Ky (U0 (UW w8) U3) w8 (wJ o)))
 case h2=>intro h;cases h
 case h3=>exact λ_=>K5 ⟨_,rfl⟩
noncomputable def Xn:yp->D
 |none=>.none
 |some ws=>Kh ws
noncomputable def K9(o:Ord)(old:yp)(ts:yd):D:=.tuple [.str o.tx,Xn old,.list (ts.map int)]
structure Y1(n m:Nat)(old:yp)(ts:yd):Prop where
 len:∀ws,old=O ws->ws.length=m
 old:∀ws t,old=O ws->O t∈ws->0<=t/\t<n
 once:ts.Nodup
 there:∀a∈ts,0<=a/\a<m
theorem Y1.few{n m:Nat}{old:yp}{ts:yd}(g:Y1 n m old ts):ts.length<=m:=Rw m ts g.once g.there
theorem kh{n m:Nat}{old:yp}(h1:∀ws,old=O ws->ws.length=m)(h2:∀ws t,old=O ws->O t∈ws->0<=t/\t<n)(hm:m<=1000):VE [Xn old,.int m,.int n]=O (.bool ya):=by
 refine Zj (Z:=[pb (Xn old),pb (.int m),pb (.int n)]) w8 ?_;unfold SE;apply K1;cases old with
 |none=>
  apply KR
  case h1=>exact KU (UW w8)
  case h2=>exact λ_=>KJ U7 (TH w8)
  case h3=>intro hh;cases hh
 |some ws=>
  have hl:=h1 ws w8;have hlen:Kn [Kh ws]=O (.int m):=by unfold Kh;rw[Zv,Qb,hl]
  apply KR
  case h1=>exact KU (UW w8)
  case h2=>intro hh;cases hh
  case h3=>
   intro _;refine K5 (KQ ?_);apply K1;apply KR
   case h1=>exact WO (Z1:=[pb (Kh ws),pb (.int m),pb (.int n)]) (Td (UW w8) w8) (Kd (ZX w8 hlen) (UW w8) NO)
   case h2=>intro hh;simp at hh
   case h3=>
    intro _;refine K5 (KQ ?_)
    have hc:K4 (gN 3) (U1 ya) (Wq (Kb (λd=>.bool (isNon d)) (UT 3)) (Ka 2 Z8 (UX (UT 3) (UX (UT 2) (UV))))) (ws.map Ke) (Ks [pb (Kh ws),pb (.int m),pb (.int n)]++UF 1 w9) []=O (ws.map λ_=>.bool ya):=by
     refine XI (λZ=>∃x,Z=[pb (Kh ws),pb (.int m),pb (.int n),x]) _ _ _ _ (by simp only[Qb]) ?_ ⟨w9,rfl⟩ (by rw[Qb,QF];lia);rintro i d e hd he Z ⟨x,rfl⟩;rw[Qd]at hd he;cases hw:ws[i]? with
     |none=>rw[hw]at hd;cases hd
     |some o=>
     rw[hw]at hd he;cases hd;cases he;refine⟨_,U2 (Qa w8) w8,rfl,?_,_,rfl⟩;cases o with
     |none=>exact Lu (t:=ya) (u:=ya) (KU (k:=λd=>UH (isNon d)) (x:=.none) (UW w8)) (λh=>nomatch h)
     |some t=>have hb:=h2 ws t w8 (Qv hw);exact Lu (t:=yb) (u:=ya) (KU (k:=λd=>UH (isNon d)) (x:=.int t) (UW w8)) (λ_=>Ky (U0 (UW w8) (U0 (UW w8) U3)) w8 (OR hb.1 hb.2))
    exact KJ (ZS (U0 (KU (Yc (ZB (UW w8) w8) hc)) U3) (OQ ws)) w8
theorem ww{m:Nat}{ts:yd}(h1:ts.Nodup)(h2:∀a∈ts,0<=a/\a<m)(hm:m<=1000):VD [.list (ts.map int),.int m]=O (.bool ya):=by
 refine Zj (Z:=[pb (.list (ts.map int)),pb (.int m)]) w8 ?_;unfold SD;have hl:=Rw m ts h1 h2;apply K1
 have hc:K4 (gN 2) (U1 ya) (Ka 2 Z8 (UX (UT 2) (UX (UT 1) (UV)))) (ts.map int) (Ks [pb (.list (ts.map int)),pb (.int m)]++UF 1 w9) []=O (ts.map λ_=>.bool ya):=by
  refine XI (λZ=>∃x,Z=[pb (.list (ts.map int)),pb (.int m),x]) _ _ _ _ (by simp only[Qb]) ?_ ⟨w9,rfl⟩ (by rw[Qb,QF];lia);rintro i d e hd he Z ⟨x,rfl⟩;rw[Qd]at hd he;cases hw:ts[i]? with
  |none=>rw[hw]at hd;cases hd
  |some t=>
  rw[hw]at hd he;cases hd;cases he;have hb:=h2 t (Qv hw);exact⟨_,U2 (Qa w8) w8,rfl,Ky (U0 (UW w8) (U0 (UW w8) U3)) w8 (OR hb.1 hb.2),_,rfl⟩
 apply KR
 case h1=>exact WO (Z1:=[pb (.list (ts.map int)),pb (.int m)]) (Td (UW w8) w8) (XJ (Wk (ZS (U0 (KU (Yc (ZB (UW w8) Z9) hc)) U3) (OQ ts))))
 case h2=>intro hh;cases hh
 case h3=>
  intro _;refine K5 (KQ ?_);have hs:WS [.list (ts.map int)]=O (.int ts.length):=by unfold WS;dsimp only;rw[Pp];dsimp only;rw[Qo (by lia),Eu h1]
  have hlen:Kn [.list (ts.map int)]=O (.int ts.length):=by rw[Zv,Qb]
  refine KJ (KU (Kd (ZS (U0 (UW w8) U3) hs) (ZX w8 hlen) XG)) ?_;simp
section
variable{cs:yd}{ls:L3}{o:Ord}{old:yp}{ts:yd}
theorem Cv(g:Good cs ls)(ga:Y1 cs.length ls.length old ts):VC [Kq cs ls,K9 o old ts]=O .none:=by
 refine RZ (Z:=[pb (Kq cs ls),pb (K9 o old ts),w9,w9,w9,w9,w9]) w8 ?_;unfold SB;have l7:=g.l7;have c6:=g.c6;have yy:Kn [.list (ls.map K0)]=O (.int ls.length):=by rw[Zv,Qb]
 have yN:Kn [.list (cs.map int)]=O (.int cs.length):=by rw[Zv,Qb]
 refine Km (Te (Ky (U0 (UW w8) U3) w8 (OP g))) ?_;apply K1;apply KR
 case h1=>exact WO (Z1:=[pb (Kq cs ls),pb (K9 o old ts),w9,w9,w9,w9,w9]) (Td (UW w8) w8) (Kd (ZX w8 (show Kn [K9 o old ts]=O (.int 3)from rfl)) U7 NO)
 case h2=>intro hh;simp at hh
 case h3=>
  intro _;refine K5 (KQ ?_);refine Km (X8 (UW w8) (Kz w8 (U8 (U2 (Qa w8) w8) (U8 (U2 (Qa w8) w8) KB)))) ?_;refine Km (X8 (UW w8) (Kz w8 (U8 (U2 (Qa w8) w8) (U8 (U2 (Qa w8) w8) (U8 (U2 (Qa w8) w8) KB))))) ?_;refine Km (Te (Ky (U0 (UW w8) U3) w8 (ki o))) ?_;apply K1;apply KR
  case h1=>exact XJ (Wk (Ky (U0 (UW w8) (U0 (ZX w8 yy) (U0 (ZX w8 yN) U3))) w8 (kh ga.len ga.old (by lia))))
  case h2=>intro hh;cases hh
  case h3=>
   intro _;refine K5 (KQ ?_);apply KR
   case h1=>exact XJ (Wk (Ky (U0 (UW w8) (U0 (ZX w8 yy) U3)) w8 (ww ga.once ga.there (by lia))))
   case h2=>intro hh;cases hh
   case h3=>exact λ_=>K5 ⟨_,rfl⟩
end
theorem NQ{t:Int}{r:yd}:oIn (.int t) (.list (r.map int))=O (r.contains t):=NG t r
theorem FI:∀(a b:yd),a.Nodup->(∀x∈a,x∈b)->a.length<=b.length
 |[],_,_,_=>JM _
 |x::a,b,hn,h=>by
  have hx:=h x Qi;have hn':=Jw.mp hn
  have:=FI a (b.erase x) hn'.2 λy hy=>by
   have hne:y≠x:=λe=>hn'.1 (e ▸ hy)
   exact(List.mem_erase_of_ne hne).mpr (h y (Qh _ hy))
  rw[List.length_erase_of_mem hx]at this;have hp:=List.length_pos_of_mem hx;rw[Qz]
  lia
theorem vT{m:Nat}{T:yd}(d:Nat)(hl:T.length<m)(hn:T.Nodup):∃k,k<m/\(∀j,j<k->(((d+j) % m:Nat):Int)∈T)/\(((d+k) % m:Nat):Int)∉T:=by
 have ex:∃k,k<m/\(((d+k) % m:Nat):Int)∉T:=by
  refine Classical.byContradiction λhno=>?_;have all:∀k,k<m->(((d+k) % m:Nat):Int)∈T:=λk hk=>Classical.byContradiction λz=>hno ⟨k,hk,z⟩
  have hsub:∀x:Nat,x<m->((x:Nat):Int)∈T:=λx hx=>by
   have h1:=all ((x+m-d % m) % m) (Nat.mod_lt _ (by lia));have e:(d+(x+m-d % m) % m) % m=x:=by have hdm:d % m<m:=Nat.mod_lt _ (by lia);rw[Nat.add_mod_mod,←Nat.mod_add_mod];rw[show d % m+(x+m-d % m)=x+m by lia,Nat.add_mod_right,Nat.mod_eq_of_lt hx]
   rw[e]at h1;exact h1
  have:=FI ((UE m).map λx:Nat=>(x:Int)) T (List.Pairwise.map _ (λa b h e=>h (by lia)) List.nodup_range) (λt ht=>by obtain⟨x,hx,rfl⟩:=Qt.mp ht;exact hsub x (Q3.mp hx));rw[Qb,Qp]at this
  lia
 obtain⟨k,hk,hkn⟩:=ex;induction k using Nat.strongRecOn with
 |_ k ih=>
  by_cases h:∀j,j<k->(((d+j) % m:Nat):Int)∈T
  .exact⟨k,hk,h,hkn⟩
  .obtain⟨j,hj⟩:=Classical.not_forall.mp h
   obtain⟨hj1,aw⟩:=Classical.not_imp.mp hj;exact ih j hj1 (by lia) aw
theorem Lk{x:D}{m:Nat}(h:m<=1000):Kv (.list [x]) (.int m)=O (.list (UF m x)):=by
 rw[EE ⟨by lia,by lia,by show 1*_<=_;lia⟩]
 congr 2
 rw[QM];clear h;induction m with
 |zero=>rfl
 |succ n ih=>rw[Jb,QS,ih,Jb];rfl
noncomputable def szA(n m:Nat):yd:=[3,2,(m:Int)+1]++UF m ((n:Int)+1)++UF m (m:Int)
theorem Hj(n m:Nat):(szA n m).length=3+m+m:=by unfold szA;rw[Qk,Qk,QH,QH];rfl
theorem B8{n m j:Nat}(h:j<m):(szA n m)[3+j]?=O ((n:Int)+1):=by
 unfold szA;rw[Qx (by rw[Qk,QH];show 3+j<3+m;lia),Qy (by show 3<=3+j;lia)]
 show(UF m ((n:Int)+1))[3+j-3]?=_
 rw[Nat.add_sub_cancel_left,QD,Qo h]
theorem qW{n m j:Nat}(h:j<m):(szA n m)[3+m+j]?=O (m:Int):=by
 unfold szA;have e:([3,2,(m:Int)+1]++UF m ((n:Int)+1)).length=3+m:=by rw[Qk,QH];rfl
 rw[Qy (by rw[e];lia),e,Nat.add_sub_cancel_left,QD,Qo h]
section
variable{cs:yd}{ls:L3}
noncomputable def RL(d:Int):yi:=if 0<d then O (d-1)else w9
theorem qV(d:Int):oIx (.list [.none,.int (d-1)]) (.int (if decide (0<d)=ya then 1 else 0))=O (Ke (RL d)):=by
 unfold RL;by_cases h:0<d
 .rw[Q8 h,Qo w8,Qo h];exact Zz (j:=1) w8
 .rw[QU h,QB (by decide),QB h];exact Zz (j:=0) w8
end
theorem B7{op:Int->Int->ye}{j:Nat}{f:M D}{Z Z1 Z':UU}{a b:Int}{d:D}(h0:Z[j]?=O (O (.pub (.int a))))(h1:f Z=.ok (.int b) Z1)(h2:op a b=O d)(h3:j<Z1.length)(h4:Z1.set j (O (.pub d))=Z'):XT op j f Z=.nx Z':=by unfold XT;rw[h0];dsimp only[sB];rw[h1];dsimp only;rw[h2];dsimp only;rw[Qo h3,h4]
theorem mulN{i j:Int}(h : -1000<j/\j<1000):YB i j=O (.int (i*j)):=by unfold YB;exact Qo (.inr ⟨by lia,by lia⟩)
theorem Pk{b n:Int}(hb : -1000<b/\b<1000)(hn : -1000<=n/\n<=1000):ZO [.int b,.int n]=O (.int (b ^ n.toNat)):=by
 refine Zj (Z:=[pb (.int b),pb (.int n),w9,w9]) w8 ?_;unfold SA;refine Km (KE U7 (Qa w8) w8) ?_;apply K1;apply ZA (λi Z=>∃x3,Z=[pb (.int b),pb (.int n),pb (.int (b ^ i)),x3])
 case h1=>exact Xi (U0 (UW w8) U3) (Xg (by lia) (by lia))
 case h0=>exact⟨_,by rw[Int.pow_zero];rfl⟩
 case hst=>rintro i d Z hi ⟨x3,rfl⟩;refine⟨_,U2 (Qa w8) w8,?_⟩;unfold L8;refine ZQ (B7 w8 (UW w8) (mulN hb) (Qa w8) w8) ?_;exact K2 ⟨_,by rw[Int.pow_succ];rfl⟩
 case hend=>
  rintro Z ⟨x3,rfl⟩;refine KQ (KJ (UW rfl) ?_);rw[YI]
  congr 4
  lia
noncomputable def ZE:Ord->Int->Int->Int->Int
 |.firsts,b,M,r=>b ^ (M-r).toNat
 |.full,b,M,r=>b ^ M.toNat+b ^ (M-r).toNat
 |.lasts,b,M,r=>b ^ M.toNat-b ^ (r-1).toNat
theorem wv(o:Ord){b M r:Int}(hb : -1000<b/\b<1000)(hM:0<=M/\M<=100)(hr:0<=r/\r<=100):VA [.str o.tx,.int b,.int M,.int r]=O (.int (ZE o b M r)):=by
 refine Zj (Z:=[pb (.str o.tx),pb (.int b),pb (.int M),pb (.int r)]) w8 ?_;unfold Sz;have p1:ZO [.int b,.int (M-r)]=O (.int (b ^ (M-r).toNat)):=Pk hb ⟨by lia,by lia⟩;have p2:ZO [.int b,.int M]=O (.int (b ^ M.toNat)):=Pk hb ⟨by lia,by lia⟩;have p3:ZO [.int b,.int (r-1)]=O (.int (b ^ (r-1).toNat)):=Pk hb ⟨by lia,by lia⟩;apply K1;apply KR
 case h1=>exact Yb w8 U7 (Cw o)
 case h2=>
  intro h;cases o with
  |firsts=>exact KJ (Ky (U0 (UW w8) (U0 (Kd (UW w8) (UW w8) YT) U3)) w8 p1) (TH w8)
  |full=>cases h
  |lasts=>cases h
 case h3=>
  intro h;refine K5 (KQ ?_);apply K1;apply KR
  case h1=>exact Yb w8 U7 (Ll o)
  case h2=>
   intro h';cases o with
   |full=>exact KJ (Kd (Ky (U0 (UW w8) (U0 (UW w8) U3)) w8 p2) (Ky (U0 (UW w8) (U0 (Kd (UW w8) (UW w8) YT) U3)) w8 p1) K7) (TH w8)
   |firsts=>cases h
   |lasts=>cases h'
  case h3=>
   intro h';refine K5 (KQ ?_);cases o with
   |firsts=>cases h
   |full=>cases h'
   |lasts=>exact KJ (Kd (Ky (U0 (UW w8) (U0 (UW w8) U3)) w8 p2) (Ky (U0 (UW w8) (U0 (Kd (UW w8) U7 YT) U3)) w8 p3) YT) w8
noncomputable def Xv(ts:yd)(b i r:Int):Int:=if i∈ts then(b-r)*b ^ (ts.length-1-ts.idxOf i)else 0
theorem EH{n:Nat}:∀{xs:yc},(∀x∈xs,PyData.weight x<=n)->PyData.weightAll xs<=xs.length*(n+1)
 |[],_=>by simp[PyData.weightAll]
 |x::xs,h=>by
  have h1:=h x Qi;have h2:=EH (xs:=xs) λy hy=>h y (Qh _ hy);rw[PyData.weightAll,Qz,Nat.succ_mul]
  lia
theorem vS{i:Int}(h:0<=i/\i<1000):(int i).weight<=10:=by
 simp only[PyData.weight];split
 .lia
 .rename_i hne
  have h0:i.natAbs≠0:=by intro e;exact hne (by simpa using e)
  have:=(Nat.log2_lt h0 (k:=10)).mpr (by lia)
  lia
theorem wB{ts:yd}(h:∀a∈ts,0<=a/\a<1000)(hl:ts.length<=1000):PyData.layable0 (.list (ts.map int))=ya:=by
 unfold PyData.layable0;have h1:(UG (ts.map int)).canLay0=ya:=TN λx hx=>by obtain⟨y,_,rfl⟩:=Qt.mp hx;rfl
 have h2:(UG (ts.map int)).depth<=64:=QJ (NI (n:=1) (OS λx hx=>by obtain⟨y,_,rfl⟩:=Qt.mp hx;exact LN y)) (by decide)
 have h3:(UG (ts.map int)).weight<=2 ^ 20:=by
  have:=EH (n:=10) (xs:=ts.map int) λx hx=>by obtain⟨y,hy,rfl⟩:=Qt.mp hx;exact vS (h y hy)
  rw[Qb]at this;simp only[PyData.weight]
  lia
 rw[h1,Q8 h2,Q8 h3];rfl
theorem qU{ts:yd}{k:Int}(hb:∀a∈ts,0<=a/\a<1000)(hl:ts.length<=1000)(h:k∈ts):Ry (.list (ts.map int)) [.int k]=O (.int (ts.idxOf k:Nat)):=by unfold Ry;dsimp only;rw[Pp];dsimp only;exact Qo ⟨wB hb hl,h⟩
theorem qT{t:Int}{r:yd}:Xo (.int t) (.list (r.map int))=O (!r.contains t):=by unfold Xo;rw[NQ];rfl
theorem wu{ts:yd}{b i r:Int}(hb : -1000<b/\b<1000)(hr : -1000<r/\r<1000)(hl:ts.length<=100)(ht:∀a∈ts,0<=a/\a<1000):Vz [.list (ts.map int),.int b,.int i,.int r]=O (.int (Xv ts b i r)):=by
 refine Zj (Z:=[pb (.list (ts.map int)),pb (.int b),pb (.int i),pb (.int r),w9]) w8 ?_;unfold Sy Xv;apply K1;apply KR
 case h1=>exact Yb w8 (UW w8) qT
 case h2=>
  intro h;have:¬i∈ts:=by simpa using h
  rw[QB this];exact KJ U7 (TH w8)
 case h3=>
  intro h;have hm:i∈ts:=by simpa using h
  rw[Qo hm];refine K5 (KQ ?_);have hi:=List.idxOf_lt_length_of_mem hm;have hlen:Kn [.list (ts.map int)]=O (.int ts.length):=by rw[Zv,Qb]
  refine Km (KE (Kd (Kd (ZX w8 hlen) U7 YT) (qz (UW w8) (U0 (UW w8) U3) (qU ht (by lia) hm)) YT) (Qa w8) w8) ?_;have hp:=Pk (b:=b) (n:=(ts.length:Int)-1-(ts.idxOf i:Nat)) hb ⟨by lia,by lia⟩;have e:((ts.length:Int)-1-(ts.idxOf i:Nat)).toNat=ts.length-1-ts.idxOf i:=by lia
  rw[e]at hp;exact KJ (Kd (Kd (UW w8) (UW w8) YT) (Ky (U0 (UW w8) (U0 (UW w8) U3)) w8 hp) (TJ (by lia) (by lia))) w8
noncomputable def Y0(old:yp)(i:Nat)(t:Int):Int:=match old with
 |none=>0
 |some ws=>if ws[i]?=O (O t)then 1 else 0
section
variable{cs:yd}{ls:L3}{o:Ord}{old:yp}{ts:yd}
noncomputable def Zp(ls:L3)(o:Ord)(old:yp)(ts:yd)(i:Nat)(rs:List yd)(t:Int):Int:=
 (ZE o (ls.length+1) (lng ls) (Zw t rs)*(ls.length+1)+Y0 old i t)*((lng ls:Int)+1) ^ ts.length+Xv ts (lng ls+1) i (Zw t rs)
theorem FH{b:Int}(h0:0<=b)(h:b<=8):∀{n k:Nat},n<=k->b ^ n<=8 ^ k:=λ{n k} hk=>by
 have e:b=((b.toNat:Nat):Int):=by lia
 rw[e];have h1:b.toNat ^ n<=8 ^ n:=Nat.pow_le_pow_left (by lia) n;have h2:8 ^ n<=8 ^ k:=Nat.pow_le_pow_right (by lia) hk;have h3:((b.toNat ^ n:Nat):Int)<=((8 ^ k:Nat):Int):=by lia
 rw[Int.natCast_pow,Int.natCast_pow]at h3;exact h3
theorem kg(g:Good cs ls)(ga:Y1 cs.length ls.length old ts){i:Nat}{rs:List yd}(hi:ls[i]?=O rs)(t:Int):Ww [Kq cs ls,K9 o old ts,.int (lng ls:Nat),.int i,.int t]=O (.int (Zp ls o old ts i rs t)):=by
 have l7:=g.l7;have l1:=g.l1;have hL:lng ls<=5:=Nh l1 λrs h=>(g.rk rs h).few;have hrk:Zw t rs<=5:=by have:=MB t rs;have:=(g.rk rs (Qv hi)).few;lia
 have htl:=ga.few;have hlt:i<ls.length:=(Qg.mp hi).1;refine Zj (Z:=[pb (Kq cs ls),pb (K9 o old ts),pb (.int (lng ls:Nat)),pb (.int i),pb (.int t),w9,w9,w9,w9,w9,w9,w9,w9]) w8 ?_;unfold Sx Zp;refine Km (X8 (UW w8) (Kz w8 (U8 (U2 (Qa w8) w8) (U8 (U2 (Qa w8) w8) (U8 (U2 (Qa w8) w8) KB))))) ?_;refine Km (KE (KI w8 U7 WB) (Qa w8) w8) ?_;refine Km (KE (Ky (U0 (KI w8 (UW w8) (MX hi)) (U0 (UW w8) U3)) w8 (vi t rs)) (Qa w8) w8) ?_;have yy:Kn [.list (ls.map K0)]=O (.int ls.length):=by rw[Zv,Qb]
 have htl':Kn [.list (ts.map int)]=O (.int ts.length):=by rw[Zv,Qb]
 refine Km (KE (Kd (ZX w8 yy) U7 K7) (Qa w8) w8) ?_
 have hk:∀Z:UU,Z[6]?=O (O (.pub (Xn old)))->Z[3]?=O (O (.pub (.int i)))->Z[4]?=O (O (.pub (.int t))) ->
   mIf (Zr (Kb (λd=>!isNon d) (UT 6)) (UY oEq (U6 6 (UT 3)) (UT 4))) (U1 (int 1)) (U1 (.int 0)) Z=.ok (.int (Y0 old i t)) Z:=λZ r6 r3 r4=>by
  cases old with
  |none=>exact Ni (Om (KU (UW r6))) U7
  |some ws=>
   have hw:ws.length=ls.length:=ga.len ws w8;have hwi:ws[i]?=O ws[i]:=Qe (by lia);have hx:oIx (.list (ws.map Ke)) (.int i)=O (Ke ws[i]):=Ln (by lia)
   have ht:(Zr (Kb (λd=>!isNon d) (UT 6)) (UY oEq (U6 6 (UT 3)) (UT 4))) Z=.ok (decide (ws[i]=O t)) Z:=
    Rz (KU (UW r6)) (Kd (KI r6 (UW r3) hx) (UW r4) (Ng (b:=O t)))
   rw[DP ht U7 U7]
   congr 1
   unfold Y0;dsimp only;rw[hwi];by_cases h:ws[i]=O t
   .rw[Q8 h,Qo w8,Qo (by rw[h])]
   .rw[QU h,QB (by decide),QB (λe=>h (Q5 e))]
 refine Km (KE (hk _ w8 w8 w8) (Qa w8) w8) ?_;have h1:=wv o (b:=(ls.length:Int)+1) (M:=(lng ls:Nat)) (r:=(Zw t rs:Nat)) ⟨by lia,by lia⟩ ⟨by lia,by lia⟩ ⟨by lia,by lia⟩;have h2:=Pk (b:=(lng ls:Int)+1) (n:=(ts.length:Nat)) ⟨by lia,by lia⟩ ⟨by lia,by lia⟩;have h3:=wu (ts:=ts) (b:=(lng ls:Int)+1) (i:=i) (r:=(Zw t rs:Nat)) ⟨by lia,by lia⟩ ⟨by lia,by lia⟩ (by lia) (λa ha=>by have:=ga.there a ha;lia);rw[QM]at h2;refine Km (KE (Kd (Kd (Ky (U0 (UW w8) (U0 (UW w8) (U0 (UW w8) (U0 (UW w8) U3)))) w8 h1) (UW w8) (WI (by lia) (by lia))) (UW w8) K7) (Qa w8) w8) ?_;have hp:((lng ls:Int)+1) ^ ts.length<=8 ^ 7:=FH (by lia) (by lia) (by lia);have hp0:0<=((lng ls:Int)+1) ^ ts.length:=Int.pow_nonneg (by lia);exact KJ (Kd (Kd (UW w8) (Ky (U0 (Kd (UW w8) U7 K7) (U0 (ZX w8 htl') U3)) w8 h2) (WI (by lia) (by lia))) (Ky (U0 (UW w8) (U0 (Kd (UW w8) U7 K7) (U0 (UW w8) (U0 (UW w8) U3)))) w8 h3) K7) w8
end
theorem MA{s:D->UU->yk}{t:M Bool}{g:M D}(I:UU->Prop):∀(ds:yc)(qs:List ye)(Z:UU)(es:yc),qs.length=ds.length ->
  (∀(i:Nat) d e,ds[i]?=O d->qs[i]?=O e->∀Z,I Z->∃Z1,s d Z=O Z1/\t Z1=.ok e.isSome Z1/\(∀x,e=O x->g Z1=.ok x Z1)/\I (Ks Z1))->I Z->es.length+ds.length<=1000000->K4 s t g ds Z es=O (es++qs.filterMap id)
 |[],[],Z,es,_,_,_,_=>by rw[K4];simp
 |d::r,e::q,Z,es,hl,st,h0,hz=>by
  obtain⟨Z1,e1,e2,e3,h1⟩:=st 0 d e w8 w8 Z h0;rw[Qz]at hz;have ih:=λes' hz'=>MA I r q (Ks Z1) es' (by simpa using hl) (λi d' e' x y=>st (i+1) d' e' (by simpa using x) (by simpa using y)) h1 hz'
  rw[K4,e1];dsimp only;rw[e2];dsimp only;cases e with
  |none=>rw[if_neg (show ¬(none:ye).isSome=ya by simp),ih es (by lia)];rfl
  |some x=>rw[Qo (show(O x).isSome=ya from rfl),e3 x w8];dsimp only;rw[Qo (by lia),ih (es++[x]) (by rw[Qk,QP];lia),Ja];rfl
noncomputable def YA(W:Nat->List yd->Int->Int):Nat->L3->LO->LO
 |k,rs::ls,o::r=>(o.map (W k rs))::YA W (k+1) ls r
 |_,_,_=>[]
theorem GH{W:Nat->List yd->Int->Int}:∀{k:Nat}{ls:L3}{ws:LO},ws.length=ls.length->(YA W k ls ws).length=ws.length
 |_,[],[],_=>rfl
 |_,_::_,_::_,h=>by rw[YA,List.length_cons,GH (by simpa using h),List.length_cons]
theorem Fi{W:Nat->List yd->Int->Int}:∀{k i:Nat}{ls:L3}{ws:LO}{rs:List yd}{o:yi},ls[i]?=O rs->ws[i]?=O o->(YA W k ls ws)[i]?=O (o.map (W (k+i) rs))
 |k,0,r::ls,o::ws,_,_,h1,h2=>by cases h1;cases h2;rfl
 |k,i+1,r::ls,o::ws,rs,o',h1,h2=>by rw[YA,List.getElem?_cons_succ,Fi (k:=k+1) (rs:=rs) (o:=o') (by simpa using h1) (by simpa using h2),Nat.add_right_comm,Nat.add_assoc]
noncomputable def ZC(l:LO):Int:=(l.filterMap id).sum
theorem FG{o:yi}{l:LO}:ZC (o::l)=o.getD 0+ZC l:=by
 cases o with
 |none=>show ZC l=0+ZC l;lia
 |some x=>show(x::l.filterMap id).sum=_;rw[Uo];rfl
theorem wt{a b:LO}:ZC (a++b)=ZC a+ZC b:=by unfold ZC;rw[Ud,List.sum_append]
section
variable{cs:yd}{ls:L3}{o:Ord}{old:yp}{ts:yd}{ws:LO}
noncomputable def KD(ls:L3)(o:Ord)(old:yp)(ts:yd)(a t:Int):Int:=Zp ls o old ts a.toNat (ls.getD a.toNat []) t
noncomputable def Zk(V:Int->Int->Int)(q:Int×Int):D:=.tuple [.int q.1,.int q.2,.int (V q.1 q.2)]
theorem wI(g:Good cs ls)(ga:Y1 cs.length ls.length old ts):Vy [Kq cs ls,K9 o old ts]=O (.list ((Kr 0 ls).map (Zk (KD ls o old ts)))):=by
 refine Zj (Z:=[pb (Kq cs ls),pb (K9 o old ts),w9]) w8 ?_;unfold Sw;refine Km (Te (Ky (U0 (UW w8) (U0 (UW w8) U3)) w8 (Cv g ga))) ?_;refine Km (KE (Ky (U0 (UW w8) U3) w8 (vh g)) (Qa w8) w8) ?_;have few:(Kr 0 ls).length<=42:=by rw[(Pt ls 0).length_eq];exact Oq g
 have hc:K4 (gT 2 (gNC (gN 3) (gNC (gN 4) (gN0)))) (U1 ya) (KM (UX (UT 3) (UX (UT 4) (UX (Ka 5 Ww (UX (UT 0) (UX (UT 1) (UX (UT 2) (UX (UT 3) (UX (UT 4) (UV))))))) (UV))))) ((Kr 0 ls).map KZ) (Ks [pb (Kq cs ls),pb (K9 o old ts),pb (.int (lng ls:Nat))]++UF 2 w9) []=O ((Kr 0 ls).map (Zk (KD ls o old ts))):=by
  refine XI (λZ=>∃x y,Z=[pb (Kq cs ls),pb (K9 o old ts),pb (.int (lng ls:Nat)),x,y]) _ _ _ _ (by simp only[Qb]) ?_ ⟨w9,w9,rfl⟩ (by rw[Qb,QF];lia);rintro i d e hd he Z ⟨x,y,rfl⟩;rw[Qd]at hd he;cases hw:(Kr 0 ls)[i]? with
  |none=>rw[hw]at hd;cases hd
  |some q=>
  rw[hw]at hd he;cases hd;cases he;obtain⟨a,t⟩:=q;obtain⟨j,rs,hj,ha,ht⟩:=Ta (Qv hw);have ha:a=(j:Int):=by rw[Q0]at ha;exact ha
  subst ha;have hv:KD ls o old ts j t=Zp ls o old ts j rs t:=by unfold KD;rw[QM,Ql,hj];rfl
  refine⟨_,Kz w8 (U8 (U2 (Qa w8) w8) (U8 (U2 (Qa w8) w8) KB)),rfl,?_,_,_,rfl⟩;unfold Zk;dsimp only;rw[hv];exact Xl (U0 (UW w8) (U0 (UW w8) (U0 (Ky (U0 (UW w8) (U0 (UW w8) (U0 (UW w8) (U0 (UW w8) (U0 (UW w8) U3))))) w8 (kg g ga hj t)) U3))) (Qa w8)
 exact KJ (KU (Yc (ZB (Ky (U0 (UW w8) U3) w8 (wK g)) Z9) hc)) w8
end
theorem TK{a b:Str}(h1:UJ a=ya)(h2:UJ b=ya):UJ (a++b)=ya:=by unfold UJ at *;rw[PySem.Str.cps_append,Array.all_append,h1,h2];rfl
theorem Ek:∀(ts:List Str)(k:Nat)(acc:Str),UJ acc=ya->(∀t∈ts,UJ t=ya)->UJ (textFrom k acc ts)=ya
 |[],k,acc,h,_=>h
 |t::r,k,acc,h,ht=>by
  refine Ek r (k+1) _ (TK (TK h ?_) (ht t Qi)) λx hx=>ht x (Qh _ hx)
  split<;>decide +kernel
theorem MP:∀{xs:yc}{t:Str},t∈PyData.shownAll xs->∃x∈xs,t=x.shown
 |[],t,h=>by cases h
 |x::xs,t,h=>by
  rw[PyData.shownAll]at h;rcases Qw.mp h with h|h
  .exact⟨x,Qi,h⟩
  .obtain⟨y,hy,e⟩:=MP h
   exact⟨y,Qh _ hy,e⟩
theorem wH{xs:yc}(h:∀x∈xs,UJ x.shown=ya):UJ (UG xs).shown=ya:=by show UJ (textFrom 0 "[" (PyData.shownAll xs) ++ "]")=ya;exact TK (Ek _ _ _ (by decide +kernel) λt ht=>by obtain⟨x,hx,rfl⟩:=MP ht;exact h x hx) (by decide +kernel)
theorem Ej{c s w dg x6:Option Sl}{m:Nat}{T:yd}(hm:0<m):∀(k fuel d:Nat),(∀j,j<k->(((d+j) % m:Nat):Int)∈T)->(((d+k) % m:Nat):Int)∉T->d<m->k<fuel ->
  XA (To oIn (UT 7) 6) Od fuel [w,c,s,pb (.int m),dg,x6,O (.own (T.map int)),pb (.int d)]=.nx [w,c,s,pb (.int m),dg,x6,O (.own (T.map int)),pb (.int (((d+k) % m:Nat):Int))]
 |0,fuel+1,d,_,hn,hd,_=>by
  have e0:(d+0) % m=d:=by rw[Nat.add_zero];exact Nat.mod_eq_of_lt hd
  rw[e0]at hn⊢;have e:(T.contains (d:Int))=yb:=by simpa using hn
  rw[XA,NW (r:=yb) (UW w8) w8 (by rw[NQ,e])];rfl
 |k+1,fuel+1,d,hj,hn,hd,hf=>by
  have h0:=hj 0 (by lia);rw[Nat.add_zero,Nat.mod_eq_of_lt hd]at h0;have e:(T.contains (d:Int))=ya:=by simpa using h0
  rw[XA,NW (r:=ya) (UW w8) w8 (by rw[NQ,e])];dsimp only;rw[Qo w8]
  have hst:Od [w,c,s,pb (.int m),dg,x6,O (.own (T.map int)),pb (.int d)]=.nx [w,c,s,pb (.int m),dg,x6,O (.own (T.map int)),pb (.int (((d+1) % m:Nat):Int))]:=by
   unfold Od;refine KE (Kd (Kd (UW w8) U7 K7) (UW w8) (Tx (by lia))) (Qa w8) ?_;have e1:((d+1:Nat):Int)=(d:Int)+1:=by lia
   have:((d:Int)+1) % (m:Int)=(((d+1) % m:Nat):Int):=by rw[Int.natCast_emod,e1]
   rw[this];rfl
  rw[hst];dsimp only;have e2:∀j,((d+1) % m+j) % m=(d+(j+1)) % m:=λj=>by rw[Nat.mod_add_mod];congr 1;lia
  have:=Ej (c:=c) (s:=s) (w:=w) (dg:=dg) (x6:=x6) (T:=T) hm k fuel ((d+1) % m) (λj hjk=>by rw[e2];exact hj (j+1) (by lia)) (by rw[e2];exact hn) (Nat.mod_lt _ hm) (by lia);rw[e2]at this;exact this
section
variable{cs:yd}{ls:L3}
theorem kf(g:Good cs ls)(c s:Int):∃r,Vg [Kq cs ls,.int c,.int s]=O r/\∃o old ts,r=K9 o old ts/\Y1 cs.length ls.length old ts:=by
 refine WD (Z:=[pb (Kq cs ls),pb (.int c),pb (.int s),w9,w9,w9,w9,w9]) w8 ?_;unfold TZ;have l7:=g.l7;have l1:=g.l1;have c6:=g.c6;have c1:=g.c1;have yy:Kn [.list (ls.map K0)]=O (.int ls.length):=by rw[Zv,Qb]
 have yN:Kn [.list (cs.map int)]=O (.int cs.length):=by rw[Zv,Qb]
 generalize hm:ls.length=m at *;generalize hn:cs.length=n at *;refine Km (KE (ZS (U0 (KI w8 U7 WB) U3) yy) (Qa w8) w8) ?_;have s1:U9 (.list [.int 3,.int 2,.int ((m:Int)+1)]) (.list (UF m (.int ((n:Int)+1))))=O (.list (([3,2,(m:Int)+1]++UF m ((n:Int)+1)).map int)):=by rw[XF (by rw[QH];show 3+m<=_;lia),QA,JP];rfl
 have s2:U9 (.list (([3,2,(m:Int)+1]++UF m ((n:Int)+1)).map int)) (.list (UF m (.int (m:Int))))=O (.list ((szA n m).map int)):=by rw[XF (by rw[Qb,Qk,QH,QH];show 3+m+m<=_;lia)];unfold szA;rw[QA (l₂:=UF m (m:Int)),JP (n:=m) (a:=(m:Int))]
 obtain⟨r,hF,dg,rfl,hdl,hdb⟩:=MR c s (sizes:=szA n m) (λx hx=>by
  unfold szA at hx;rcases QC.mp hx with hx|hx
  .rcases QC.mp hx with hx|hx
   .have hx:x=3∨x=2∨x=(m:Int)+1:=by simpa using hx
    lia
   .rw[(J8.mp hx).2];lia
  .rw[(J8.mp hx).2];lia) (by rw[Hj];lia)
 rw[Hj]at hdl;refine Km (KE (Ky (U0 (UW w8) (U0 (UW w8) (U0 (Kd (Kd (ZK (U0 U7 (U0 U7 (U0 (Kd (UW w8) U7 K7) U3))) (Qa w8)) (Kd (ZK (U0 (Kd (ZS (U0 (KI w8 U7 WM) U3) yN) U7 K7) U3) (Qa w8)) (UW w8) (Lk (by lia))) s1) (Kd (ZK (U0 (UW w8) U3) (Qa w8)) (UW w8) (Lk (by lia))) s2) U3))) w8 hF) (Qa w8) w8) ?_;have get:∀j,j<3+m+m->∃d,dg[j]?=O d:=λj hj=>⟨dg[j]'(by lia),Qe _⟩
 obtain⟨d0,e0⟩:=get 0 (by lia);obtain⟨d1,e1⟩:=get 1 (by lia);obtain⟨d2,e2⟩:=get 2 (by lia);have b0:=hdb 0 d0 3 e0 w8;have b1:=hdb 1 d1 2 e1 w8;have b2:=hdb 2 d2 ((m:Int)+1) e2 w8;have i0:oIx (.list (dg.map int)) (.int 0)=O (.int d0):=Zz (j:=0) (by rw[Qd,e0];rfl);have i1:oIx (.list (dg.map int)) (.int 1)=O (.int d1):=Zz (j:=1) (by rw[Qd,e1];rfl);have i2:oIx (.list (dg.map int)) (.int 2)=O (.int d2):=Zz (j:=2) (by rw[Qd,e2];rfl);refine Km (KE U7 (Qa w8) w8) ?_
 let ol:yd:=(dg.drop 3).take m
 have oll:ol.length=m:=by show((dg.drop 3).take m).length=m;rw[QZ,Jm];lia
 have olb:∀d∈ol,0<=d/\d<(n:Int)+1:=λd hd=>by
  obtain⟨j,hj,e⟩:=List.mem_iff_getElem.mp hd;have av:j<m:=by lia
  refine hdb (3+j) d _ ?_ (B8 av);have:ol[j]?=O d:=by rw[Qe hj,e]
  show dg[3+j]?=_;rw[←this];show _=((dg.drop 3).take m)[j]?;rw[List.getElem?_take,Qo av,List.getElem?_drop]
 have yH:DL.cutD (dg.map int) (O 3) (O (3+(m:Int)))=ol.map int:=by
  rw[N0 (by decide) (by lia) (by lia)];have t1:(3:Int).toNat=3:=rfl;have t2:(3+(m:Int)).toNat-(3:Int).toNat=m:=by lia
  rw[t2,t1]
 have step:Ho (sIf (UY oEq (U6 4 (U1 (.int 1))) (U1 (.int 1))) (Zf 5 (ZH (KW (Yi (UT 4) (Ki (U1 (.int 3)) λx=>Kk (YS x)) (Ki (UY U9 (U1 (.int 3)) (UT 3)) λx=>Kk (YS x)))) 1 (gN 8) (U1 ya) (UY oIx (Kw (UX (U1 .none) (UX (UY KY (UT 8) (U1 (.int 1))) (UV)))) (Zo RO (UX (Kb UH (Zl (oIB λi j=>decide (j<i)) 8 (U1 (.int 0)))) (UV)))))) (sNx))
   [pb (Kq cs ls),pb (.int c),pb (.int s),pb (.int m),pb (.list (dg.map int)),O (.pub .none),w9,w9]
   (λr=>∃old x6,r=.nx [pb (Kq cs ls),pb (.int c),pb (.int s),pb (.int m),pb (.list (dg.map int)),x6,w9,w9] /\
    (x6=O (.pub (Xn old)) ∨ ∃ws,old=O ws/\x6=O (.own (ws.map Ke)))/\(∀ws,old=O ws->ws.length=m)/\∀ws t,old=O ws->O t∈ws->0<=t/\t<n):=by
  have hc:∀a b:Option Sl,K4 (gN 8) (U1 ya) (UY oIx (Kw (UX (U1 .none) (UX (UY KY (UT 8) (U1 (.int 1))) (UV)))) (Zo RO (UX (Kb UH (Zl (oIB λi j=>decide (j<i)) 8 (U1 (.int 0)))) (UV)))) (ol.map int) (Ks [pb (Kq cs ls),pb (.int c),pb (.int s),pb (.int m),pb (.list (dg.map int)),O (.pub .none),w9,w9]++UF 1 w9) []=O ((ol.map RL).map Ke):=λ_ _=>by
   refine XI (λZ=>∃x,Z=[pb (Kq cs ls),pb (.int c),pb (.int s),pb (.int m),pb (.list (dg.map int)),O (.pub .none),w9,w9,x]) _ _ _ _ (by simp only[Qb]) ?_ ⟨w9,rfl⟩ (by rw[Qb,QF];lia);rintro i d e hd he Z ⟨x,rfl⟩;rw[Qd]at hd;rw[Qd,Qd]at he;cases hw:ol[i]? with
   |none=>rw[hw]at hd;cases hd
   |some z=>
   rw[hw]at hd he;cases hd;cases he;exact⟨_,U2 (Qa w8) w8,rfl,Kd (ZK (U0 U7 (U0 (Kd (UW w8) U7 YT) U3)) (Qa w8)) (ZS (U0 (KU (Yb w8 U7 w8)) U3) w8) (qV z),_,rfl⟩
  apply KR
  case h1=>exact Kd (KI w8 U7 i1) U7 XG
  case h2=>
   intro _;refine ZQ (Yo (Yc (ZB (V3 (UW w8) (XH U7) (XH (Kd U7 (UW w8) K7)) (by rw[Tc,yH])) Z9) (hc w9 w9)) (Qa w8) w8) ?_;refine⟨O (ol.map RL),_,rfl,.inr ⟨_,rfl,rfl⟩,λws e=>?_,λws t e ht=>?_⟩
   .cases e;rw[Qb];exact oll
   .cases e
    obtain⟨d,hd,e⟩:=Qt.mp ht;have:=olb d hd;unfold RL at e;split at e
    .cases e;lia
    .cases e
  case h3=>exact λ_=>K5 ⟨w9,_,rfl,.inl w8,(λws e=>by cases e),(λws t e=>by cases e)⟩
 refine K1 (Hn step λr hr=>?_);obtain⟨old,x6,rfl,hx6,hol,hob⟩:=hr;refine KQ ?_;refine Km (Yo (Wl U3 (Qa w8)) (Qa w8) w8) ?_;obtain⟨k2,rfl⟩:∃k:Nat,d2=k:=⟨d2.toNat,by lia⟩
 let tl:yd:=(dg.drop (3+m)).take k2
 have tll:tl.length=k2:=by show((dg.drop (3+m)).take k2).length=k2;rw[QZ,Jm];lia
 have tlb:∀j d,tl[j]?=O d->0<=d/\d<(m:Int):=λj d hj=>by
  have yB:j<k2:=by have:=(Qg.mp hj).1;lia
  refine hdb (3+m+j) d _ ?_ (qW (by lia));rw[←hj];show _=((dg.drop (3+m)).take k2)[j]?;rw[List.getElem?_take,Qo yB,List.getElem?_drop]
 have aD:DL.cutD (dg.map int) (O (3+(m:Int))) (O (3+(m:Int)+(k2:Int)))=tl.map int:=by
  rw[N0 (by lia) (by lia) (by lia)];have t1:(3+(m:Int)).toNat=3+m:=by lia
  have t2:(3+(m:Int)+(k2:Int)).toNat-(3+(m:Int)).toNat=k2:=by lia
  rw[t2,t1]
 apply K1;apply ZA (λi Z=>∃(T:yd)(x8:Option Sl),Z=[pb (Kq cs ls),pb (.int c),pb (.int s),pb (.int m),pb (.list (dg.map int)),x6,O (.own (T.map int)),x8]/\T.length=i/\T.Nodup/\∀a∈T,0<=a/\a<(m:Int))
 case h1=>exact ZB (V3 (UW w8) (XH (Kd U7 (UW w8) K7)) (XH (Kd (Kd U7 (UW w8) K7) (KI w8 U7 i2) K7)) (by rw[Tc,aD])) Z9
 case h0=>exact⟨[],_,rfl,rfl,List.nodup_nil,λ_ h=>by cases h⟩
 case hst=>
  rintro i d Z hi ⟨T,x8,rfl,hT,hTn,hTb⟩;rw[Qd]at hi;cases hw:tl[i]? with
  |none=>rw[hw]at hi;cases hi
  |some z=>
  rw[hw]at hi;cases hi;have hz:=tlb i z hw;have yx:i<k2:=by have:=(Qg.mp hw).1;lia
  obtain⟨zz,rfl⟩:∃k:Nat,z=k:=⟨z.toNat,by lia⟩
  refine⟨_,U2 (Qa w8) w8,?_⟩;unfold LV;obtain⟨k,hk,hk1,hk2⟩:=vT (m:=m) (T:=T) zz (by lia) hTn;refine Km (Ej (by lia) k 1000 zz hk1 hk2 (by lia) (by lia)) ?_;refine ZQ (X9 w8 (UW w8) w8 (by rw[Qb];lia) w8) ?_;refine K2 ⟨T++[(((zz+k) % m:Nat):Int)],_,by rw[QA (l₁:=T) (f:=int)];rfl,by rw[Qk,hT];rfl,?_,λa ha=>?_⟩
  .refine List.nodup_append.mpr ⟨hTn,List.nodup_cons.mpr ⟨(by simp),List.nodup_nil⟩,λa ha b hb e=>?_⟩
   rw[Qq.mp hb]at e;exact hk2 (e ▸ ha)
  .rcases QC.mp ha with h|h
   .exact hTb a h
   .rw[Qq.mp h]
    have:=Nat.mod_lt (zz+k) (show 0<m by lia);exact⟨by lia,by lia⟩
 case hend=>
  rintro Z ⟨T,x8,rfl,hT,hTn,hTb⟩;refine KQ ?_
  obtain⟨o,ho⟩:∃o:Ord,oIx (.list [.str "firsts", .str "full", .str "lasts"]) (.int d0)=O (.str o.tx):=by
   have:d0=0∨d0=1∨d0=2:=by lia
   rcases this with rfl|rfl|rfl
   .exact⟨.firsts,Zz (j:=0) w8⟩
   .exact⟨.full,Zz (j:=1) w8⟩
   .exact⟨.lasts,Zz (j:=2) w8⟩
  have ga:Y1 n m old T:=⟨hol,hob,hTn,hTb⟩;rcases hx6 with rfl|⟨ws,rfl,rfl⟩
  .exact KJ (Xl (U0 (Kd (ZK (U0 U7 (U0 U7 (U0 U7 U3))) (Qa w8)) (KI w8 U7 i0) ho) (U0 (UW w8) (U0 (Yy w8 w8) U3))) (Qa w8)) ⟨_,rfl,o,_,T,rfl,ga⟩
  .exact KJ (Xl (U0 (Kd (ZK (U0 U7 (U0 U7 (U0 U7 U3))) (Qa w8)) (KI w8 U7 i0) ho) (U0 (Yy w8 w8) (U0 (Yy w8 w8) U3))) (Qa w8)) ⟨_,rfl,o,O ws,T,rfl,ga⟩
end
section
variable{cs:yd}{ls:L3}{ws:LO}
theorem wP(g:Good cs ls):Vi [Kq cs ls]=O (.int (lng ls:Nat)):=by
 refine Zj (Z:=[pb (Kq cs ls)]) w8 ?_;unfold T3
 have hc:K4 (gN 1) (U1 ya) (Zu 1) (ls.map K0) (Ks [pb (Kq cs ls)]++UF 1 w9) []=O ((ls.map λrs=>(rs.length:Int)).map int):=by
  refine XI (λZ=>∃x,Z=[pb (Kq cs ls),x]) _ _ _ _ (by rw[Qb,Qb,Qb]) ?_ ⟨w9,rfl⟩ (by rw[Qb,QF];have:=g.l7;lia);rintro i d e hd he Z ⟨x,rfl⟩;rw[Qd]at hd;rw[Qd,Qd]at he;cases hl:ls[i]? with
  |none=>rw[hl]at hd;cases hd
  |some rs=>
  rw[hl]at hd he;cases hd;cases he;exact⟨_,U2 (Qa w8) w8,rfl,ZX w8 (FJ rs),_,rfl⟩
 refine KJ (ZS (U0 (KU (Yc (ZB (KI w8 U7 WB) Z9) hc)) U3) (N7 (by rw[Qb];have:=g.l1;lia))) ?_;rw[NS g.l1]
theorem wp{i:Nat}{rs:List yd}(h:ls[i]?=O rs)(t:Int):Vj [Kq cs ls,.int i,.int t]=O (.int (Zw t rs:Nat)):=by
 refine Zj (Z:=[pb (Kq cs ls),pb (.int i),pb (.int t),w9,w9]) w8 ?_;unfold T4;apply K1;apply ZA (λi' Z=>(∃x2 x3,Z=[pb (Kq cs ls),pb (.int i),pb (.int t),x2,x3])/\∀j r,j<i'->rs[j]?=O r->r.contains t=yb)
 case h1=>exact XQ (U0 (Kd (KI w8 U7 WB) (UW w8) (MX h)) U3) XN
 case h0=>exact⟨⟨_,_,rfl⟩,λj r h=>absurd h (JG _)⟩
 case hst=>
  rintro k d Z hi ⟨⟨x2,x3,rfl⟩,hb⟩;obtain⟨x,hx,rfl⟩:=XE hi;rw[Qd]at hx;cases hr:rs[k]? with
  |none=>rw[hr]at hx;cases hx
  |some r=>
   rw[hr]at hx;cases hx;refine⟨_,Kz w8 (U8 (U2 (Qa w8) w8) (U8 (U2 (Qa w8) w8) KB)),?_⟩;unfold LY;apply KR
   case h1=>exact Yb w8 (UW w8) (NG t r)
   case h2=>
    intro hh;refine KJ (Kd (UW w8) U7 K7) (Pl ?_);rw[FM hr hh hb];refine⟨?_⟩
    congr 2
    lia
   case h3=>
    intro hh;refine K5 (K2 ⟨⟨_,_,rfl⟩,λj r' hj e=>?_⟩);rcases JY.mp hj with hj|rfl
    .exact hb j r' hj e
    .rw[hr]at e;cases e;exact hh
 case hend=>rintro Z ⟨⟨x2,x3,rfl⟩,hb⟩;refine KQ (KJ U7 ?_);rw[FL (λj r hj e=>hb j r (by rw[YH,Qb];exact hj) e)];rfl
end
theorem B6{d:D}(h1:d.canLay0=ya)(h2:d.depth<=60):oEq d d=O ya:=by unfold oEq;rw[Qo ⟨h1,h1,h2⟩,NU _ h1]
section
variable{cs:yd}{ls:L3}{o:Ord}{old:yp}{ts:yd}
theorem Er{ts:yd}{b a r x:Int}(hn:(ts++[x]).Nodup):Xv (ts++[x]) b a r=Xv ts b a r*b+if x=a then b-r else 0:=by
 have hx:x∉ts:=λz=>(Jh.mp hn).2.2 x z x (Qq.mpr w8) w8;unfold Xv
 by_cases h:a∈ts
 .have hxa:¬x=a:=λe=>hx (e ▸ h)
  have hlt:=List.idxOf_lt_length_of_mem h;rw[Qo (QI _ h),Qo h,QB hxa,List.idxOf_append,Qo h,Qk,QP,show ts.length+1-1-ts.idxOf a=(ts.length-1-ts.idxOf a)+1 by lia,Int.pow_succ,Int.add_zero,Int.mul_assoc]
 .rw[QB h,Int.zero_mul,Jy]
  by_cases e:x=a
  .subst e
   rw[if_pos (by simp),if_pos w8,List.idxOf_append,if_neg h,List.length_append,List.length_singleton,List.idxOf_cons_self,show ts.length+1-1-(0+ts.length)=0 by lia,Int.pow_zero,Int.mul_one]
  .rw[if_neg (by simp[h];exact λz=>e z.symm),if_neg e]
noncomputable def pwL(b:Int)(n:Nat):yd:=(UE (n+1)).map λj:Nat=>b ^ j
theorem Hi{b:Int}{n j:Nat}(h:j<=n):(pwL b n)[j]?=O (b ^ j):=by unfold pwL;rw[Qd,QO (by lia)];rfl
theorem Hh{b:Int}{n:Nat}:(pwL b n).length=n+1:=by unfold pwL;rw[Qb,Qp]
theorem qS{b:Int}{n:Nat}:pwL b (n+1)=pwL b n++[b ^ n*b]:=by unfold pwL;rw[Uq,QA,←Int.pow_succ];rfl
theorem Nf{b:Int}{n:Nat}{k:Int}(h0:0<=k)(h:k<=n):oIx (.list ((pwL b n).map int)) (.int k)=O (.int (b ^ k.toNat)):=by
 have e:k=((k.toNat:Nat):Int):=by lia
 rw[e];refine Zz ?_;rw[Qd,Hi (by lia)];rfl
theorem qR{ws:LO}{i:Nat}{t:Int}(h:i<ws.length):oEq (Ke ws[i]) (.int t)=O (decide (ws[i]=O t)):=Ng (b:=O t)
noncomputable def Ord.isL:Ord->Bool
 |.lasts=>ya
 |_=>yb
theorem Cu(o:Ord):oEq (.str o.tx) (.str "lasts")=O o.isL:=by cases o<;>decide +kernel
theorem wA(g:Good cs ls)(ga:Y1 cs.length ls.length old ts){i:Nat}{rs:List yd}(hi:ls[i]?=O rs){t:Int}(ht:t∈rs.flatten):Vf [Kq cs ls,K9 o old ts,.int i,.int t]=O (.int (Zp ls o old ts i rs t)):=by
 have l7:=g.l7;have l1:=g.l1;have hL:lng ls<=5:=Nh l1 λrs h=>(g.rk rs h).few;have hrs:rs∈ls:=Qv hi;have zk:=Lm hrs;have hrk:Zw t rs<=lng ls:=by have:=MB t rs;lia
 have hrp:1<=Zw t rs:=by have:=Et ht;lia
 have htl:=ga.few;have hlt:i<ls.length:=(Qg.mp hi).1;refine Zj (Z:=[pb (Kq cs ls),pb (K9 o old ts),pb (.int i),pb (.int t),w9,w9,w9,w9,w9,w9,w9,w9,w9,w9,w9]) w8 ?_;unfold TY;refine Km (X8 (UW w8) (Kz w8 (U8 (U2 (Qa w8) w8) (U8 (U2 (Qa w8) w8) (U8 (U2 (Qa w8) w8) KB))))) ?_;have yy:Kn [.list (ls.map K0)]=O (.int ls.length):=by rw[Zv,Qb]
 refine Km (KE (Kd (ZS (U0 (KI w8 U7 WB) U3) yy) U7 K7) (Qa w8) w8) ?_;refine Km (KE (Ky (U0 (UW w8) U3) w8 (wP g)) (Qa w8) w8) ?_;refine Km (KE (Ky (U0 (UW w8) (U0 (UW w8) (U0 (UW w8) U3))) w8 (wp hi t)) (Qa w8) w8) ?_;refine Km (Yo (Wl (U0 U7 U3) (Qa w8)) (Qa w8) w8) ?_
 let S0:Option Sl:=O (.pub (Kq cs ls))
 let S1:Option Sl:=O (.pub (K9 o old ts))
 let S2:Option Sl:=O (.pub (.int i))
 let S3:Option Sl:=O (.pub (.int t))
 let S4:Option Sl:=O (.pub (.str o.tx))
 let S5:Option Sl:=O (.pub (Xn old))
 let S6:Option Sl:=O (.pub (.list (ts.map int)))
 let b:Int:=(ls.length:Int)+1
 let M:Nat:=lng ls
 let r:Nat:=Zw t rs
 let S7:Option Sl:=O (.pub (.int b))
 let S8:Option Sl:=O (.pub (.int (M:Int)))
 let S9:Option Sl:=O (.pub (.int (r:Int)))
 apply K1;apply ZA (λj Z=>∃yv,Z=[S0,S1,S2,S3,S4,S5,S6,S7,S8,S9,O (.own ((pwL b j).map int)),yv,w9,w9,w9])
 case h1=>exact Xi (U0 (UW w8) U3) (Xg (by lia) (by lia))
 case h0=>exact⟨_,rfl⟩
 case hst=>
  rintro j d Z hj ⟨yv,rfl⟩;refine⟨_,U2 (Qa w8) w8,?_⟩;unfold LX;obtain⟨_,yB⟩:=Wa hj
  have yw:oIx (.list ((pwL b j).map int)) (.int (-1))=O (.int (b ^ j)):=NH (by
   rw[List.getLast?_eq_getElem?,Qb,Hh,Qd,J7,Hi (Qu j)]
   rfl)
  refine ZQ (X9 w8 (Kd (V4 w8 (Rr U7) w8 yw) (UW w8) (WI (by lia) (by lia))) w8 (by rw[Qb,Hh];lia) w8) (K2 ⟨O (.pub d),?_⟩);rw[qS,QA];rfl
 case hend=>
  rintro Z ⟨yv,rfl⟩;have er:(Yp 0 (M:Int)).length=M:=by rw[YI];lia
  rw[er];refine KQ ?_
  let S10:Option Sl:=O (.own ((pwL b M).map int))
  have e1:((M:Int)-(r:Int)).toNat=M-r:=by lia
  have p1:oIx (.list ((pwL b M).map int)) (.int ((M:Int)-(r:Int)))=O (.int (b ^ (M-r))):=by rw[Nf (by lia) (by lia),e1]
  have p2:oIx (.list ((pwL b M).map int)) (.int (M:Int))=O (.int (b ^ M)):=by rw[Nf (by lia) (by lia)];rfl
  have p3:oIx (.list ((pwL b M).map int)) (.int ((r:Int)-1))=O (.int (b ^ (r-1))):=by rw[Nf (by lia) (by lia),show((r:Int)-1).toNat=r-1 by lia]
  refine Km (Z1:=[S0,S1,S2,S3,S4,S5,S6,S7,S8,S9,S10,yv,pb (.int (b ^ (M-r))),w9,w9]) (KE (V4 w8 (Kd (UW w8) (UW w8) YT) w8 p1) (Qa w8) w8) ?_
  have eo:ZE o b M r=match o with | .firsts=>b ^ (M-r) | .full=>b ^ (M-r)+b ^ M | .lasts=>b ^ M-b ^ (r-1):=by
   cases o with
   |firsts=>show b ^ ((M:Int)-(r:Int)).toNat=_;rw[e1]
   |full=>show b ^ ((M:Int)).toNat+b ^ ((M:Int)-(r:Int)).toNat=_;rw[e1,Int.add_comm];rfl
   |lasts=>show b ^ ((M:Int)).toNat-b ^ ((r:Int)-1).toNat=_;rw[show((r:Int)-1).toNat=r-1 by lia];rfl
  have done:∀w:Int,w=ZE o b M r->Ho (UZ (Kc 12 (UY Kv (UT 12) (UT 7)))
    (UZ (sIf (Zr (Kb (λd=>!isNon d) (UT 5)) (UY oEq (U6 5 (UT 2)) (UT 3)))
    (Kc 12 (UY U9 (UT 12) (U1 (.int 1))))
    (sNx))
    (UZ (Kc 13 (U1 (.int 0)))
    (UZ (Kx (KW (UT 6)) (gN 14) Oe)
    (Kf (UY U9 (UT 12) (UT 13))))))) [S0,S1,S2,S3,S4,S5,S6,S7,S8,S9,S10,yv,pb (.int w),w9,w9] (λo'=>o'=.rt (.int (Zp ls o old ts i rs t))):=by
   rintro w rfl;refine Km (Z1:=[S0,S1,S2,S3,S4,S5,S6,S7,S8,S9,S10,yv,pb (.int (ZE o b M r*b)),w9,w9]) (KE (Kd (UW rfl) (UW rfl) (WI (by lia) (by lia))) (Qa rfl) rfl) ?_
   have rest:∀v:Int,v=ZE o b M r*b+Y0 old i t->Ho (UZ (Kc 13 (U1 (.int 0)))
    (UZ (Kx (KW (UT 6)) (gN 14) Oe)
    (Kf (UY U9 (UT 12) (UT 13))))) [S0,S1,S2,S3,S4,S5,S6,S7,S8,S9,S10,yv,pb (.int v),w9,w9] (λo'=>o'=.rt (.int (Zp ls o old ts i rs t))):=by
    intro v hv;refine Km (KE U7 (Qa w8) w8) ?_;apply K1;apply ZA (λj Z=>∃yJ,Z=[S0,S1,S2,S3,S4,S5,S6,S7,S8,S9,S10,yv,pb (.int (v*((M:Int)+1) ^ j)),pb (.int (Xv (ts.take j) ((M:Int)+1) i r)),yJ])
    case h1=>exact ZB (UW w8) Z9
    case h0=>exact⟨w9,by rw[Int.pow_zero,Int.mul_one];rfl⟩
    case hst=>
     rintro j d Z hj ⟨yJ,rfl⟩;rw[Qd]at hj;cases hz:ts[j]? with
     |none=>rw[hz]at hj;cases hj
     |some a=>
     rw[hz]at hj;cases hj;have yB:j<ts.length:=(Qg.mp hz).1;have ha:ts[j]=a:=(Qg.mp hz).2;have hts:ts.take (j+1)=ts.take j++[a]:=by rw[List.take_succ_eq_append_getElem yB,ha]
     have hnd:(ts.take j++[a]).Nodup:=by rw[←hts];exact List.Nodup.sublist (List.take_sublist _ _) ga.once
     refine⟨_,U2 (Qa w8) w8,?_⟩;unfold Oe;refine Km (Z1:=[S0,S1,S2,S3,S4,S5,S6,S7,S8,S9,S10,yv,pb (.int (v*((M:Int)+1) ^ (j+1))),pb (.int (Xv (ts.take j) ((M:Int)+1) i r)),pb (.int a)]) (KE (Kd (UW w8) (Kd (UW w8) U7 K7) (WI (by lia) (by lia))) (Qa w8) (by rw[Int.mul_assoc,←Int.pow_succ];rfl)) ?_;refine Km (Z1:=[S0,S1,S2,S3,S4,S5,S6,S7,S8,S9,S10,yv,pb (.int (v*((M:Int)+1) ^ (j+1))),pb (.int (Xv (ts.take j) ((M:Int)+1) i r*((M:Int)+1))),pb (.int a)]) (KE (Kd (UW w8) (Kd (UW w8) U7 K7) (WI (by lia) (by lia))) (Qa w8) w8) ?_;refine KR (Yb w8 (UW w8) XG) (λhh=>?_) (λhh=>?_)
     .have e:a=(i:Int):=by simpa using hh
      refine ZQ (KE (Kd (Kd (Kd (UW w8) (UW w8) K7) U7 K7) (UW w8) YT) (Qa w8) w8) (K2 ⟨O (.pub (.int a)),?_⟩);rw[hts,Er hnd,Qo e];have:Xv (ts.take j) ((M:Int)+1) i r*((M:Int)+1)+(M:Int)+1-(r:Int)=Xv (ts.take j) ((M:Int)+1) i r*((M:Int)+1)+((M:Int)+1-(r:Int)):=by lia
      rw[←this];rfl
     .have e:¬a=(i:Int):=by simpa using hh
      refine K5 (K2 ⟨O (.pub (.int a)),?_⟩);rw[hts,Er hnd,QB e,Int.add_zero]
    case hend=>rintro Z ⟨yJ,rfl⟩;refine KQ (KJ (Kd (UW rfl) (UW rfl) K7) ?_);rw[Qb,JB,hv];rfl
   have hkk:Zr (Kb (λd=>!isNon d) (UT 5)) (UY oEq (U6 5 (UT 2)) (UT 3)) [S0,S1,S2,S3,S4,S5,S6,S7,S8,S9,S10,yv,pb (.int (ZE o b M r*b)),w9,w9]=.ok (decide (Y0 old i t=1)) [S0,S1,S2,S3,S4,S5,S6,S7,S8,S9,S10,yv,pb (.int (ZE o b M r*b)),w9,w9]:=by
    cases old with
    |none=>exact Om (KU (k:=λd=>!isNon d) (x:=PyData.none) (UW w8))
    |some ws=>
     have hw:ws.length=ls.length:=ga.len ws w8;have hwi:ws[i]?=O ws[i]:=Qe (by lia);have hx:oIx (.list (ws.map Ke)) (.int i)=O (Ke ws[i]):=Ln (by lia)
     have e:decide (Y0 (O ws) i t=1)=decide (ws[i]=O t):=by
      refine decide_eq_decide.mpr ?_
      show(if ws[i]?=O (O t)then(1:Int)else 0)=1 ↔ _
      rw[hwi];by_cases z:ws[i]=O t
      .rw[if_pos (by rw[z])];simp[z]
      .rw[if_neg (λy=>z (Option.some.inj y))];simp[z]
     rw[e];exact Rz (KU (k:=λd=>!isNon d) (x:=Xn (O ws)) (UW w8)) (Kd (KI w8 (UW w8) hx) (UW w8) (qR (by lia)))
   apply K1;refine KR hkk (λhh=>?_) (λhh=>?_)
   .have e:Y0 old i t=1:=by simpa using hh
    exact ZQ (KE (Kd (UW w8) U7 K7) (Qa w8) w8) (KQ (rest _ (by rw[e])))
   .have e:Y0 old i t=0:=by
     have hn:¬Y0 old i t=1:=by simpa using hh
     unfold Y0 at hn⊢;split at hn
     .rfl
     .split at hn
      .exact absurd w8 hn
      .rename_i hz;rw[QB hz]
    exact K5 (KQ (rest _ (by rw[e,Int.add_zero])))
  have f2:=Cu o;apply K1;refine KR (Yb w8 U7 (Ll o)) (λhh=>?_) (λhh=>?_)
  .cases o with
   |full=>refine ZQ (KE (Kd (UW w8) (V4 w8 (UW w8) w8 p2) K7) (Qa w8) w8) (KQ ?_);apply K1;exact KR (b:=yb) (Yb w8 U7 f2) (λz=>by cases z) λ_=>K5 (KQ (done _ eo.symm))
   |firsts=>cases hh
   |lasts=>cases hh
  .refine K5 (KQ ?_)
   apply K1;refine KR (Yb w8 U7 f2) (λh2=>?_) (λh2=>?_)
   .cases o with
    |lasts=>exact ZQ (KE (Kd (V4 w8 (UW w8) w8 p2) (V4 w8 (Kd (UW w8) U7 YT) w8 p3) YT) (Qa w8) w8) (KQ (done _ eo.symm))
    |firsts=>cases h2
    |full=>cases h2
   .cases o with
    |firsts=>exact K5 (KQ (done _ eo.symm))
    |full=>cases hh
    |lasts=>cases h2
end
theorem Ep{α β:Type}{f:α->β}(hf:∀a b,f a=f b->a=b){l:List α}(h:l.Nodup):(l.map f).Nodup:=by unfold List.Nodup at h⊢;rw[List.pairwise_map];exact h.imp λhne e=>hne (hf _ _ e)
theorem Eo:∀(ls:L3)(k:Nat),(∀rs∈ls,rs.flatten.Nodup)->(Kr k ls).Nodup
 |[],_,_=>List.nodup_nil
 |rs::ls,k,h=>by
  show((YW rs.flatten).map (λt=>((k:Int),t))++Kr (k+1) ls).Nodup
  rw[Jh];refine⟨?_,Eo ls (k+1) λr hr=>h r (Qh _ hr),λa ha b hb e=>?_⟩
  .exact Ep (λx y e=>(Prod.mk.inj e).2) ((Wj _).nodup_iff.mpr (h rs Qi))
  .subst e
   obtain⟨t,_,rfl⟩:=Qt.mp ha;have:=Mf ls (k+1) _ hb;simp at this
   lia
theorem ke(l:yd):(l.map int).all flat=ya:=by rw[Je];intro x hx;obtain⟨y,_,rfl⟩:=Qt.mp hx;rfl
noncomputable def W0(tm:Int)(as ps:yd):D:=.tuple [.int tm,.list (as.map int),.list (ps.map int)]
noncomputable def O3(ps cs:yd):yd:=(ps.zip cs).map λp=>p.1*p.2
noncomputable def Wh(cs as ps:yd):Int:=as.sum+(O3 ps cs).sum
theorem B5{cs:yd}{ls:L3}(g:Good cs ls):∀q∈Kr 0 ls,(0<=q.1/\q.1<ls.length)/\0<=q.2/\q.2<cs.length:=λq hq=>by
 obtain⟨i,rs,h1,h2,h3⟩:=Ta hq;have:=(g.rk rs (Qv h1)).flat q.2 h3;have:=(Qg.mp h1).1
 lia
theorem B4{ns:yd}{k:Int}(h0:0<=k)(h1:k<ns.length):oIx (.list (ns.map int)) (.int k)=O (.int (ns.getD k.toNat 0)):=by
 obtain⟨j,rfl⟩:∃j:Nat,k=j:=⟨k.toNat,by lia⟩
 rw[QM];exact Ot (by lia)
section
variable{cs:yd}{ls:L3}{o:Ord}{old:yp}{ts:yd}
theorem Me(g:Good cs ls)(ga:Y1 cs.length ls.length old ts){q:Int×Int}(hq:q∈Kr 0 ls):0<=KD ls o old ts q.1 q.2/\KD ls o old ts q.1 q.2<18446744073709551616:=by
 obtain⟨i,rs,h1,h2,h3⟩:=Ta hq;have l7:=g.l7;have l1:=g.l1;have hL:lng ls<=5:=Nh l1 λrs h=>(g.rk rs h).few;have zk:=Lm (Qv h1);have hr1:1<=Zw q.2 rs:=by have:=Et h3;lia
 have yS:Zw q.2 rs<=lng ls:=by have:=MB q.2 rs;lia
 have htl:=ga.few
 have e:KD ls o old ts q.1 q.2=Zp ls o old ts i rs q.2:=by
  unfold KD;rw[h2,Q0,QM]
  congr 1
  simp[List.getD,h1]
 rw[e];unfold Zp;have pw:∀{b:Int}{n k:Nat},1<=b->b<=8->n<=k->1<=b ^ n/\b ^ n<=8 ^ k:=λ{b n k} h0 h8 hk=>⟨Int.pow_pos h0,FH (by lia) h8 hk⟩
 have hb1:(1:Int)<=(ls.length:Int)+1:=by lia
 have aG:(ls.length:Int)+1<=8:=by lia
 have hM1:(1:Int)<=(lng ls:Int)+1:=by lia
 have hM8:(lng ls:Int)+1<=8:=by lia
 have a1:=pw hb1 aG (n:=lng ls) (k:=5) hL;have a2:=pw hb1 aG (n:=((lng ls:Int)-(Zw q.2 rs:Nat)).toNat) (k:=5) (by lia);have a3:=pw hb1 aG (n:=((Zw q.2 rs:Nat)-1:Int).toNat) (k:=5) (by lia)
 have a4:((ls.length:Int)+1) ^ ((Zw q.2 rs:Nat)-1:Int).toNat<=((ls.length:Int)+1) ^ lng ls:=by
  have:((Zw q.2 rs:Nat)-1:Int).toNat<=lng ls:=by lia
  obtain⟨k,hk⟩:=Nat.exists_eq_add_of_le this;rw[hk,Int.pow_add];have:=(pw hb1 aG (n:=k) (k:=5) (by lia)).1;have hm:=Jt this (show 0<=((ls.length:Int)+1) ^ ((Zw q.2 rs:Nat)-1:Int).toNat by lia);rw[Int.mul_one]at hm;exact hm
 have b1:0<=ZE o (ls.length+1) (lng ls) (Zw q.2 rs)/\ZE o (ls.length+1) (lng ls) (Zw q.2 rs)<=65536:=by
  cases o with
  |firsts=>show 0<=_ ^ _/\_ ^ _<=65536;lia
  |full=>show 0<=_ ^ ((lng ls:Int)).toNat+_ ^ _/\_ ^ ((lng ls:Int)).toNat+_ ^ _<=65536;rw[QM];lia
  |lasts=>show 0<=_ ^ ((lng ls:Int)).toNat-_ ^ _/\_ ^ ((lng ls:Int)).toNat-_ ^ _<=65536;rw[QM];lia
 have b2:0<=Y0 old i q.2/\Y0 old i q.2<=1:=by
  unfold Y0;split
  .lia
  .split<;>lia
 have b3:=pw hM1 hM8 (n:=ts.length) (k:=7) (by lia)
 have b4:0<=Xv ts ((lng ls:Int)+1) i (Zw q.2 rs)/\Xv ts ((lng ls:Int)+1) i (Zw q.2 rs)<=8*8 ^ 7:=by
  unfold Xv;split
  .have b5:=pw hM1 hM8 (n:=ts.length-1-ts.idxOf (i:Int)) (k:=7) (by lia)
   refine⟨Int.mul_nonneg (by lia) (by lia),?_⟩;exact Int.mul_le_mul (by lia) b5.2 (by lia) (by decide)
  .exact⟨by lia,by decide⟩
 have c1:0<=ZE o (ls.length+1) (lng ls) (Zw q.2 rs)*(ls.length+1)+Y0 old i q.2/\ZE o (ls.length+1) (lng ls) (Zw q.2 rs)*(ls.length+1)+Y0 old i q.2<=600000:=by
  have d1:0<=ZE o (ls.length+1) (lng ls) (Zw q.2 rs)*((ls.length:Int)+1):=Int.mul_nonneg b1.1 (by lia);have d2:ZE o (ls.length+1) (lng ls) (Zw q.2 rs)*((ls.length:Int)+1)<=65536*8:=Int.mul_le_mul b1.2 aG (by lia) (by decide)
  lia
 have d3:0<=(ZE o (ls.length+1) (lng ls) (Zw q.2 rs)*(ls.length+1)+Y0 old i q.2)*((lng ls:Int)+1) ^ ts.length:=Int.mul_nonneg c1.1 (by lia);have d4:(ZE o (ls.length+1) (lng ls) (Zw q.2 rs)*(ls.length+1)+Y0 old i q.2)*((lng ls:Int)+1) ^ ts.length<=600000*8 ^ 7:=Int.mul_le_mul c1.2 b3.2 (by lia) (by decide)
 lia
end
structure OkP(n m:Nat)(V:Int->Int->Int)(qs:LP)(tm:Int)(as ps:yd):Prop where
 t0:0<=tm
 la:as.length=m
 lp:ps.length=n
 aa:∀a∈as,0<=a
 pp:∀p∈ps,0<=p
 le:∀q∈qs,tm*V q.1 q.2<=as.getD q.1.toNat 0+ps.getD q.2.toNat 0
noncomputable def pz(ps:yd)(ws:LO):Int:=(ws.map λo=>match o with|some t=>ps.getD t.toNat 0|none=>0).sum
noncomputable def K8(n:Nat)(f:Nat->Int):Int:=((UE n).map f).sum
theorem WX{n:Nat}{f:Nat->Int}:K8 (n+1) f=K8 n f+f n:=by unfold K8;rw[Uq,QA,List.sum_append];simp
theorem Fh{f h:Nat->Int}:∀(n:Nat),K8 n (λk=>f k+h k)=K8 n f+K8 n h
 |0=>rfl
 |n+1=>by rw[WX,WX,WX,Fh n];lia
theorem Rs{f h:Nat->Int}:∀(n:Nat),(∀k,k<n->f k<=h k)->K8 n f<=K8 n h
 |0,_=>Q6 _
 |n+1,e=>by
  have h1:=Rs n λk hk=>e k (by lia)
  have h2:=e n (by lia);rw[WX,WX]
  lia
theorem Mk:∀(n:Nat)(f:Nat->Int),(∀k,k<n->f k=0)->K8 n f=0
 |0,_,_=>rfl
 |n+1,f,e=>by rw[WX,Mk n f λk hk=>e k (by lia),e n (by lia)];rfl
theorem Fg{p:Nat->Int}{j:Nat}:∀(n:Nat),j<n->K8 n (λk=>if k=j then p k else 0)=p j
 |n+1,h=>by
  rw[WX];by_cases e:n=j
  .subst e
   rw[Qo w8,Mk n _ λk hk=>QB (by lia)]
   lia
  .rw[QB e,Fg n (by lia)]
   lia
theorem Mt{f h:Nat->Int}{n:Nat}(e:∀k,k<n->f k=h k):K8 n f=K8 n h:=JT (Rs n λk hk=>by rw[e k hk];exact Q6 _) (Rs n λk hk=>by rw[e k hk];exact Q6 _)
theorem OO{ps:yd}{n:Nat}:∀(ws:LO),(∀t,O t∈ws->0<=t/\t<n)->pz ps ws=K8 n λk=>((ws.count (O (k:Int)):Nat):Int)*ps.getD k 0
 |[],_=>by rw[Mk n _ λk _=>by simp];rfl
 |o::ws,h=>by
  have ih:=OO (ps:=ps) ws λt ht=>h t (Qh _ ht)
  cases o with
  |none=>
   show((0:Int)::(ws.map λo=>match o with|some t=>ps.getD t.toNat 0|none=>0)).sum=_
   rw[Uo];unfold pz at ih;rw[ih,Jy];exact Mt λk _=>by rw[List.count_cons];simp
  |some t=>
   have ht:=h t Qi
   show(ps.getD t.toNat 0::(ws.map λo=>match o with|some t=>ps.getD t.toNat 0|none=>0)).sum=_
   rw[Uo];unfold pz at ih;rw[ih,←Fg (p:=λk=>ps.getD k 0) (j:=t.toNat) n (by lia),←Fh];refine Mt λk _=>?_;rw[JK]
   by_cases e:k=t.toNat
   .subst e
    have:(O t==O ((t.toNat:Nat):Int))=ya:=by simp;lia
    rw[Qo w8,Qo this,Int.natCast_add,Int.add_mul]
    lia
   .have:¬(O t==O ((k:Nat):Int))=ya:=by simp;lia
    rw[QB e,QB this,Jy,Nat.add_zero]
theorem Ms:∀(ps cs:yd),ps.length=cs.length->(O3 ps cs).sum=K8 cs.length λk=>cs.getD k 0*ps.getD k 0
 |ps,cs,h=>by
  unfold K8 O3
  congr 1
  apply Ug;intro i;rw[Qd,Qd];by_cases hi:i<cs.length
  .rw[QO hi]
   have h1:ps[i]?=O ps[i]:=Qe (by lia);have h2:cs[i]?=O cs[i]:=Qe hi;have hz:(ps.zip cs)[i]?=O (ps[i],cs[i]):=List.getElem?_zip_eq_some.mpr ⟨h1,h2⟩;rw[hz];simp only[Option.map_some,Ql,h1,h2,J4,Int.mul_comm]
  .rw[Q9 (l:=ps.zip cs) (by rw[Ub];lia),Q9 (l:=UE cs.length) (by rw[Qp];lia)]
   rfl
mutual
noncomputable def hW:D->Bool
 |.none | .bool _=>ya
 |.int i=>decide (i.natAbs<10 ^ 70)
 |.str z=>UJ z&&decide (z.length<=20)
 |.list xs | .tuple xs=>hWs xs
 |.dict kvs=>hWk kvs
noncomputable def hWs:yc->Bool
 |[]=>ya
 |x::xs=>hW x&&hWs xs
noncomputable def hWk:List (D×D)->Bool
 |[]=>ya
 |(.str z,v)::r=>UJ z&&(decide (z.length<=20)&&(hW v&&hWk r))
 |(.int i,v)::r=>decide (i.natAbs<10 ^ 70)&&(hW v&&hWk r)
 |_::_=>yb
end
theorem NP:∀{xs:yc},hWs xs=ya ↔ ∀x∈xs,hW x=ya
 |[]=>by simp[hWs]
 |x::r=>by rw[hWs,Bool.and_eq_true,NP (xs:=r)];simp
theorem vR{i:Int}(h:i.natAbs<10 ^ 70):i.natAbs.log2<1920:=by
 by_cases z:i.natAbs=0
 .rw[z];decide
 .have:=(Nat.log2_lt z).mpr (show i.natAbs<2 ^ 240 by
                              have:(10:Nat) ^ 70<2 ^ 240:=by decide +kernel
                              lia)
  lia
theorem FF{z:Str}(h1:UJ z=ya)(h2:z.length<=20):(UI z).leavesShort 80=ya:=by
 simp only[PyData.leavesShort,Je,Jn];intro c hc;unfold UJ at h1;rw[←Array.all_toList,Je]at h1;have:=h1 c hc;simp only[Jn]at this
 lia
mutual
theorem R7:∀{d:D},hW d=ya->Zs d=ya/\d.showable=ya/\d.leavesShort 80=ya
 |.none,_=>⟨rfl,rfl,rfl⟩
 |.bool _,_=>⟨rfl,rfl,rfl⟩
 |.int i,h=>by
  have h:i.natAbs<10 ^ 70:=Qa (by simpa only[hW]using h);refine⟨rfl,?_,?_⟩
  .simp only[PyData.showable,Jn]
   exact vR h
  .simp only[PyData.leavesShort,Jn]
   show(UO (toString i)).length<=80
   rw[PySem.ofString_length];have:=PySem.int_text_length_le10 (a:=i) (k:=70) (by decide) h
   lia
 |.str z,h=>by
  have h:UJ z=ya/\z.length<=20:=by simpa[hW]using h
  exact⟨by simpa[Zs]using h.1,rfl,FF h.1 h.2⟩
 |.list xs,h=>by obtain⟨a,b,c⟩:=hWs_all (xs:=xs) (by simpa[hW]using h);exact⟨by simpa[Zs]using a,by simpa[PyData.showable]using b,by simpa[PyData.leavesShort]using c⟩
 |.tuple xs,h=>by obtain⟨a,b,c⟩:=hWs_all (xs:=xs) (by simpa[hW]using h);exact⟨by simpa[Zs]using a,by simpa[PyData.showable]using b,by simpa[PyData.leavesShort]using c⟩
 |.dict kvs,h=>by obtain⟨a,b,c⟩:=hWk_all (kvs:=kvs) (by simpa[hW]using h);exact⟨by simpa[Zs]using a,by simpa[PyData.showable]using b,by simpa[PyData.leavesShort]using c⟩
theorem hWs_all:∀{xs:yc},hWs xs=ya->Wc xs=ya/\PyData.showableAll xs=ya/\PyData.leavesShortAll 80 xs=ya
 |[],_=>⟨rfl,rfl,rfl⟩
 |x::r,h=>by rw[hWs,QR]at h;obtain⟨a,b,c⟩:=R7 h.1;obtain⟨a',b',c'⟩:=hWs_all h.2;exact⟨by rw[Wc,a,a'];rfl,by rw[PyData.showableAll,b,b'];rfl,by rw[PyData.leavesShortAll,c,c'];rfl⟩
theorem hWk_all:∀{kvs:List (D×D)},hWk kvs=ya->layKv kvs=ya/\PyData.showableKv kvs=ya/\PyData.leavesShortKv 80 kvs=ya
 |[],_=>⟨rfl,rfl,rfl⟩
 |(.str z,v)::r,h=>by
  rw[hWk,QR,QR,QR]at h;obtain⟨h1,h2,h3,h4⟩:=h;have h2:=Qa h2;obtain⟨a,b,c⟩:=R7 h3;obtain⟨a',b',c'⟩:=hWk_all h4;refine⟨?_,?_,?_⟩
  .rw[layKv,a,a'];simp[XY,h1]
  .rw[PyData.showableKv,b,b'];rfl
  .rw[PyData.leavesShortKv,FF h1 h2,c,c'];rfl
 |(.none,v)::r,h=>by simp[hWk]at h
 |(.bool _,v)::r,h=>by simp[hWk]at h
 |(.int i,v)::r,h=>by
  rw[hWk,QR,QR]at h;obtain⟨h1,h3,h4⟩:=h;have hk:=R7 (d:=.int i) (by rw[hW];exact h1);obtain⟨a,b,c⟩:=R7 h3;obtain⟨a',b',c'⟩:=hWk_all h4;refine⟨?_,?_,?_⟩
  .rw[layKv,a,a'];rfl
  .rw[PyData.showableKv,hk.2.1,b,b'];rfl
  .rw[PyData.leavesShortKv,hk.2.2,c,c'];rfl
 |(.list _,v)::r,h=>by simp[hWk]at h
 |(.tuple _,v)::r,h=>by simp[hWk]at h
 |(.dict _,v)::r,h=>by simp[hWk]at h
end
def Sh(k n:Nat)(d:D):Prop:=hW d=ya/\d.depth<=k/\d.bulk<=n
theorem Sh.mono{k m n p:Nat}{d:D}(h:Sh k n d)(h1:k<=m)(h2:n<=p):Sh m p d:=⟨h.1,QJ h.2.1 h1,QJ h.2.2 h2⟩
theorem qQ{d:D}{k n:Nat}(h:Sh k n d)(hk:k<=50)(hn:n<=10000):V2 [d]=O (.str d.shown):=by
 obtain⟨a,b,c⟩:=R7 h.1;refine xc ⟨a,b,QJ h.2.1 hk,?_⟩;have:=PyData.shown_le_bulk 80 (by decide) d c;have:=h.2.2
 lia
theorem Ps{k:Nat}:∀{xs:yc},(∀x∈xs,x.depth<=k)->PyData.depthAll xs<=k
 |[],_=>by simp[PyData.depthAll]
 |x::r,h=>by
  have h1:=h x Qi;have h2:=Ps (xs:=r) λy hy=>h y (Qh _ hy);simp only[PyData.depthAll]
  lia
theorem Md{n:Nat}:∀{xs:yc},(∀x∈xs,x.bulk<=n)->PyData.bulkAll xs<=xs.length*(n+1)
 |[],_=>by simp[PyData.bulkAll]
 |x::r,h=>by
  have h1:=h x Qi;have h2:=Md (xs:=r) λy hy=>h y (Qh _ hy);simp only[PyData.bulkAll,Qz,Nat.succ_mul]
  lia
theorem B3{k n m:Nat}{xs:yc}(h:∀x∈xs,Sh k n x)(hl:xs.length<=m):Sh (k+1) (m*(n+1)) (.list xs):=by
 refine⟨by simpa[hW]using NP.mpr λx hx=>(h x hx).1,?_,?_⟩
 .have:=Ps λx hx=>(h x hx).2.1
  simp only[UL]
  lia
 .have h1:=Md λx hx=>(h x hx).2.2
  have h2:xs.length*(n+1)<=m*(n+1):=Nat.mul_le_mul_right _ hl;simp only[PyData.bulk]
  lia
theorem Ct{k n m:Nat}{xs:yc}(h:∀x∈xs,Sh k n x)(hl:xs.length<=m):Sh (k+1) (m*(n+1)) (.tuple xs):=by
 refine⟨by simpa[hW]using NP.mpr λx hx=>(h x hx).1,?_,?_⟩
 .have:=Ps λx hx=>(h x hx).2.1
  simp only[UL]
  lia
 .have h1:=Md λx hx=>(h x hx).2.2
  have h2:xs.length*(n+1)<=m*(n+1):=Nat.mul_le_mul_right _ hl;simp only[PyData.bulk]
  lia
theorem Cs{k n:Nat}{i:Int}(h:i.natAbs<10 ^ 70):Sh k n (.int i):=⟨by simpa only[hW]using Q8 h,by simp[UL],by simp[PyData.bulk]⟩
theorem Cr{k n:Nat}:Sh k n .none:=⟨rfl,by simp[UL],by simp[PyData.bulk]⟩
def Pz(k n:Nat)(d:D):Prop:=Sh k n d/\UJ d.shown=ya
theorem Pz.mono{k n k' n':Nat}{d:D}(h:Pz k n d)(h1:k<=k')(h2:n<=n'):Pz k' n' d:=⟨h.1.mono h1 h2,h.2⟩
theorem Nw{k n m:Nat}{xs:yc}(h:∀x∈xs,Pz k n x)(hl:xs.length<=m):Pz (k+1) (m*(n+1)) (.list xs):=⟨B3 (λx hx=>(h x hx).1) hl,wH λx hx=>(h x hx).2⟩
theorem Ff{s:Str}(hs:UJ s=ya):∀{ts:List Str},(∀t∈ts,UJ t=ya)->UJ (s.join ts)=ya
 |[],_=>(by decide +kernel:UJ (UO "")=ya)
 |[t],h=>h t Qi
 |t::u::r,h=>TK (TK (h t Qi) hs) (Ff hs λx hx=>h x (Qh _ hx))
theorem Lj{k n m:Nat}{xs:yc}(h:∀x∈xs,Pz k n x)(hl:xs.length<=m):Pz (k+1) (m*(n+1)) (.tuple xs):=⟨Ct (λx hx=>(h x hx).1) hl,by
 rw[UQ,PySem.tupleText];refine TK (TK (by decide +kernel) (Ff (by decide +kernel) λt ht=>?_)) ?_
 .obtain⟨x,hx,rfl⟩:=MP ht
  exact(h x hx).2
 .split<;>decide +kernel⟩
theorem Nd{k n:Nat}{i:Int}(h:i.natAbs<10 ^ 70):Pz k n (.int i):=⟨Cs h,by show UJ (UO (toString i))=ya;rw[DO];exact DN⟩
theorem Cq{k n:Nat}:Pz k n .none:=⟨Cr,by decide +kernel⟩
theorem Cp{k n:Nat}{d:D}(h:Pz k n d)(hk:k<=50)(hn:n<=10000):V2 [d]=O (.str d.shown)/\oEq (.str d.shown) (.str d.shown)=O ya:=
 ⟨qQ h.1 hk hn,B6 h.2 (by simp[UL])⟩
structure Stp where
 a:Nat
 b:Nat
 g:Int
 w:Option Nat
abbrev Tab:=List (Int×List Stp)
noncomputable def ent(T:Tab)(p:Nat):Int×List Stp:=T.getD p (0,[])
noncomputable def YG(W T:Tab)(s:Stp):Tab:=if(ent T s.b).1<(ent W s.a).1+s.g then T.set s.b ((ent W s.a).1+s.g,(ent W s.a).2++[s])else T
noncomputable def Oc(W:Tab)(S:List Stp):Tab:=S.foldl (YG W) W
noncomputable def KP(n:Nat)(S:List Stp):Nat->Tab
 |0=>UF n (0,[])
 |t+1=>Oc (KP n S t) S
theorem wz{T:Tab}{p:Nat}{x:Int×List Stp}(h:p<T.length):ent (T.set p x) p=x:=by unfold ent;rw[Ql,QL h];rfl
theorem Mr{T:Tab}{p q:Nat}{x:Int×List Stp}(h:p≠q):ent (T.set p x) q=ent T q:=by unfold ent;rw[Ql,Qr h,←Ql]
theorem ka(W T:Tab)(s:Stp):(YG W T s).length=T.length:=by
 unfold YG;split
 .rw[Jc]
 .rfl
structure Rn(W T:Tab)(S:List Stp):Prop where
 len:T.length=W.length
 up:∀p,(ent W p).1<=(ent T p).1
 how:∀p,ent T p=ent W p ∨ ∃s∈S,s.b=p/\ent T p=((ent W s.a).1+s.g,(ent W s.a).2++[s])/\(ent W p).1<(ent T p).1
theorem wD{W T:Tab}{S:List Stp}{s:Stp}(hs:s∈S)(hb:s.b<W.length)(k:Rn W T S):Rn W (YG W T s) S/\(∀p,(ent T p).1<=(ent (YG W T s) p).1)/\(ent W s.a).1+s.g<=(ent (YG W T s) s.b).1:=by
 have hbT:s.b<T.length:=by rw[k.len];exact hb
 unfold YG;split
 .rename_i h
  have self:=wz (x:=((ent W s.a).1+s.g,(ent W s.a).2++[s])) hbT;refine⟨⟨by rw[Jc];exact k.len,λp=>?_,λp=>?_⟩,λp=>?_,by rw[self];exact Q6 _⟩
  .by_cases z:s.b=p
   .subst z;rw[self];have:=k.up s.b;show _<=(ent W s.a).1+s.g;lia
   .rw[Mr z];exact k.up p
  .by_cases z:s.b=p
   .subst z;right;exact⟨s,hs,rfl,self,by rw[self];have:=k.up s.b;show _<(ent W s.a).1+s.g;lia⟩
   .rw[Mr z];exact k.how p
  .by_cases z:s.b=p
   .subst z;rw[self];show _<=(ent W s.a).1+s.g;lia
   .rw[Mr z];exact Q6 _
 .rename_i h
  exact⟨k,λp=>Q6 _,by lia⟩
theorem Ei{W:Tab}{S:List Stp}(hS:∀s∈S,s.b<W.length):∀(R:List Stp)(T:Tab),(∀s∈R,s∈S)->Rn W T S->Rn W (R.foldl (YG W) T) S/\(∀p,(ent T p).1<=(ent (R.foldl (YG W) T) p).1)/\∀s∈R,(ent W s.a).1+s.g<=(ent (R.foldl (YG W) T) s.b).1
 |[],T,_,k=>⟨k,λ_=>Q6 _,λs h=>by cases h⟩
 |s::R,T,hR,k=>by
  obtain⟨k1,u1,c1⟩:=wD (hR s Qi) (hS s (hR s Qi)) k;obtain⟨k2,u2,c2⟩:=Ei hS R (YG W T s) (λx hx=>hR x (Qh _ hx)) k1;refine⟨k2,λp=>JW (u1 p) (u2 p),λx hx=>?_⟩;rcases Qw.mp hx with rfl|hx
  .exact JW c1 (u2 x.b)
  .exact c2 x hx
theorem ET{W:Tab}{S:List Stp}(hS:∀s∈S,s.b<W.length):Rn W (Oc W S) S/\∀s∈S,(ent W s.a).1+s.g<=(ent (Oc W S) s.b).1:=by obtain⟨k,_,c⟩:=Ei hS S W (λ_ h=>h) ⟨rfl,λ_=>Q6 _,λ_=>.inl w8⟩;exact⟨k,c⟩
section
variable{n:Nat}{S:List Stp}(hS:∀s∈S,s.a<n/\s.b<n)
include hS
theorem RJ:∀t,(KP n S t).length=n
 |0=>by unfold KP;rw[QH]
 |t+1=>by unfold KP;rw[(ET (λs h=>by rw[RJ t];exact(hS s h).2)).1.len,RJ t]
theorem TL(t:Nat):Rn (KP n S t) (KP n S (t+1)) S/\∀s∈S,(ent (KP n S t) s.a).1+s.g<=(ent (KP n S (t+1)) s.b).1:=
 ET (λs h=>by rw[RJ hS t];exact(hS s h).2)
theorem Rv(p:Nat):ent (KP n S 0) p=(0,[]):=by
 unfold ent KP;rw[Ql,QD]
 split<;>rfl
theorem Po:∀t,(∀p,(ent (KP n S t) p).2.length<=t)/\(∀p,0<t->ent (KP n S t) p≠ent (KP n S (t-1)) p->(ent (KP n S t) p).2.length=t)
 |0=>⟨λp=>by rw[Rv hS];exact Qu _,λp h=>absurd h (Jv _)⟩
 |t+1=>by
  obtain⟨h1,h2⟩:=Po t;obtain⟨k,c⟩:=TL hS t
  have key:∀p,ent (KP n S (t+1)) p≠ent (KP n S t) p->(ent (KP n S (t+1)) p).2.length=t+1:=λp hne=>by
   rcases k.how p with e|⟨s,hs,hb,e,lt⟩
   .exact absurd e hne
   .rw[e,Qk,QP]
    congr 1
    cases t with
    |zero=>rw[Rv hS];rfl
    |succ t=>
     refine h2 s.a (JL t) λz=>?_
     obtain⟨k0,c0⟩:=TL hS t;have:=c0 s hs;rw[J7]at z;rw[e,z,←hb]at lt;exact absurd lt (by show ¬_<(ent (KP n S t) s.a).1+s.g;lia)
  refine⟨λp=>?_,λp _ hne=>key p (by rw[J7]at hne;exact hne)⟩;by_cases z:ent (KP n S (t+1)) p=ent (KP n S t) p
  .rw[z];exact Nat.le_succ_of_le (h1 p)
  .rw[key p z];exact Qu _
end
inductive Walk(S:List Stp):Nat->List Stp->Prop where
 |nil (p:Nat):Walk S p []
 |snoc {w:List Stp} {s:Stp} (hs:s∈S) (h:Walk S s.a w):Walk S s.b (w++[s])
noncomputable def Ku(w:List Stp):Int:=(w.map Stp.g).sum
theorem Mc:Ku []=0:=rfl
theorem WU(u v:List Stp):Ku (u++v)=Ku u+Ku v:=by unfold Ku;rw[QA,List.sum_append]
theorem Ru(s:Stp):Ku [s]=s.g:=by unfold Ku;simp
section
variable{n:Nat}{S:List Stp}(hS:∀s∈S,s.a<n/\s.b<n)
include hS
theorem RD:∀t p,Walk S p (ent (KP n S t) p).2/\Ku (ent (KP n S t) p).2=(ent (KP n S t) p).1
 |0,p=>by rw[Rv hS];exact⟨.nil p,rfl⟩
 |t+1,p=>by
  rcases(TL hS t).1.how p with e|⟨s,hs,hb,e,_⟩
  .rw[e];exact RD t p
  .obtain⟨h1,h2⟩:=RD t s.a
   rw[e,←hb];exact⟨.snoc hs h1,by rw[WU,Ru,h2]⟩
theorem Mj{t u:Nat}(h:t<=u)(p:Nat):(ent (KP n S t) p).1<=(ent (KP n S u) p).1:=by
 induction h with
 |refl=>exact Q6 _
 |step _ ih=>exact JW ih ((TL hS _).1.up p)
theorem j9{p:Nat}{w:List Stp}(h:Walk S p w):∀(t:Nat),w.length<=t->Ku w<=(ent (KP n S t) p).1:=by
 induction h with
 |nil p=>intro t _;have:=Mj hS (JM t) p;rw[Rv hS]at this;exact this
 |@snoc w s hs h ih=>
  intro t hl;rw[Qk,QP]at hl;obtain⟨u,rfl⟩:∃u,t=u+1:=⟨t-1,by lia⟩
  have:=ih u (by lia);have:=(TL hS u).2 s hs;rw[WU,Ru]
  lia
theorem vQ{t:Nat}(h0:0<t)(h:∀p,p<n->(ent (KP n S t) p).2.length≠t):∀s∈S,(ent (KP n S t) s.a).1+s.g<=(ent (KP n S t) s.b).1:=λs hs=>by
 obtain⟨u,rfl⟩:∃u,t=u+1:=⟨t-1,by lia⟩
 have e:ent (KP n S (u+1)) s.a=ent (KP n S u) s.a:=Classical.byContradiction λz=>h s.a (hS s hs).1 ((Po hS (u+1)).2 s.a h0 z);rw[e]
 exact(TL hS u).2 s hs
end
inductive Path(S:List Stp):Nat->List Stp->Nat->Prop where
 |nil (p:Nat):Path S p [] p
 |cons {s:Stp} {w:List Stp} {p:Nat} (hs:s∈S) (h:Path S s.b w p):Path S s.a (s::w) p
section
variable{S:List Stp}
theorem Path.append{q m p:Nat}{u v:List Stp}(h1:Path S q u m)(h2:Path S m v p):Path S q (u++v) p:=by
 induction h1 with
 |nil p=>exact h2
 |cons hs h ih=>exact .cons hs (ih h2)
theorem Path.split{p:Nat}{v:List Stp}:∀{u:List Stp}{q:Nat},Path S q (u++v) p->∃m,Path S q u m/\Path S m v p
 |[],q,h=>⟨q,.nil q,h⟩
 |s::u,q,h=>by
  cases h with
  |cons hs h=>obtain⟨m,h1,h2⟩:=Path.split (u:=u) h;exact⟨m,.cons hs h1,h2⟩
theorem Path.mem{q p:Nat}{w:List Stp}(h:Path S q w p):∀s∈w,s∈S:=by
 induction h with
 |nil p=>intro s h;cases h
 |cons hs h ih=>
  intro s hm;rcases Qw.mp hm with rfl|hm
  .exact hs
  .exact ih s hm
theorem Walk.path{p:Nat}{w:List Stp}(h:Walk S p w):∃q,Path S q w p:=by
 induction h with
 |nil p=>exact⟨p,.nil p⟩
 |snoc hs h ih=>obtain⟨q,hq⟩:=ih;exact⟨q,hq.append (.cons hs (.nil _))⟩
theorem Path.walk{p:Nat}:∀{w:List Stp}{q:Nat},Path S q w p->∀{u:List Stp},Walk S q u->Walk S p (u++w)
 |[],q,h,u,hu=>by cases h;rw[Q2];exact hu
 |s::w,q,h,u,hu=>by
  cases h with
  |cons hs h=>have:=Path.walk h (Walk.snoc hs hu);rw[Ja]at this;exact this
theorem Path.head{q p:Nat}{s:Stp}{w:List Stp}(h:Path S q (s::w) p):q=s.a:=by cases h;rfl
theorem Path.step{q p:Nat}{s:Stp}{w:List Stp}(h:Path S q (s::w) p):s∈S/\Path S s.b w p:=by cases h with|cons hs h=>exact⟨hs,h⟩
theorem Path.at{q p:Nat}{w:List Stp}(h:Path S q w p){i:Nat}{s:Stp}(hi:w[i]?=O s):Path S q (w.take i) s.a/\Path S q (w.take (i+1)) s.b/\Path S s.b (w.drop (i+1)) p:=by
 have hl:i<w.length:=(Qg.mp hi).1
 have e:w.drop i=s::w.drop (i+1):=by
  rw[Jr hl]
  congr 1
  exact(Qg.mp hi).2
 have h':Path S q (w.take i++w.drop i) p:=by rw[Ue];exact h
 obtain⟨m,h1,h2⟩:=h'.split;rw[e]at h2;have hm:=h2.head;subst hm;obtain⟨hs,h3⟩:=h2.step;refine⟨h1,?_,h3⟩;rw[JQ,hi];exact h1.append (.cons hs (.nil _))
theorem Path.next{q p:Nat}{w:List Stp}(h:Path S q w p){i:Nat}{s t:Stp}(hi:w[i]?=O s)(hj:w[i+1]?=O t):t.a=s.b:=by obtain⟨_,_,h3⟩:=h.at hi;have hl:i+1<w.length:=(Qg.mp hj).1;rw[Jr hl]at h3;rw[←(Qg.mp hj).2];exact h3.head.symm
structure Nv(w:List Stp)(i j:Nat):Prop where
 ij:i<=j
 jl:j<w.length
 same:∀s t,w[i]?=O s->w[j]?=O t->s.a=t.b
 first:∀j'<j,∀i' ≤ j',∀s t,w[i']?=O s->w[j']?=O t->s.a≠t.b
def Nu(w:List Stp):Prop:=∀j<w.length,∀i ≤ j,∀s t,w[i]?=O s->w[j]?=O t->s.a≠t.b
theorem Fe{n:Nat}(hS:∀s∈S,s.a<n/\s.b<n){q p:Nat}{w:List Stp}(h:Path S q w p)(hl:n<=w.length)(h0:0<n):¬Nu w:=λhn=>by
 obtain⟨s0,w0,rfl⟩:∃s0 w0,w=s0::w0:=by
  cases w with
  |nil=>rw[QF]at hl;lia
  |cons a b=>exact⟨a,b,rfl⟩
 let P:yn:=s0.a::(s0::w0).map Stp.b
 have key:∀k l:Nat,k<l->∀x y:Nat,P[k]?=O x->P[l]?=O y->x≠y:=λk l yO x y hx hy=>by
  obtain⟨l,rfl⟩:∃m,l=m+1:=⟨l-1,by lia⟩
  have hy:((s0::w0).map Stp.b)[l]?=O y:=hy;rw[Qd]at hy;cases ht:(s0::w0)[l]? with
  |none=>rw[ht]at hy;cases hy
  |some t=>
  rw[ht]at hy;cases hy;have yy:l<(s0::w0).length:=(Qg.mp ht).1;obtain⟨s,hs⟩:∃s,(s0::w0)[k]?=O s:=⟨_,Qe (by lia)⟩
  have hxs:x=s.a:=by
   cases k with
   |zero=>cases hs;cases hx;rfl
   |succ k=>
    have hx:((s0::w0).map Stp.b)[k]?=O x:=hx;rw[Qd]at hx;obtain⟨r,hr⟩:∃r,(s0::w0)[k]?=O r:=⟨_,Qe (by lia)⟩
    rw[hr]at hx;cases hx;exact(h.next hr hs).symm
  rw[hxs];exact hn l yy k (by lia) s t hs ht
 have nd:P.Nodup:=by rw[List.nodup_iff_pairwise_ne,List.pairwise_iff_getElem];intro k l hk hl2 yO;exact key k l yO _ _ (Qe hk) (Qe hl2)
 have bound:∀x∈P,x<n:=λx hx=>by
  rcases Qw.mp hx with rfl|hx
  .exact(hS s0 h.step.1).1
  .obtain⟨s,hs,rfl⟩:=Qt.mp hx
   exact(hS s (h.mem s hs)).2
 have le:P.length<=n:=by
  have:=List.Nodup.length_le_of_subset nd (l₂:=UE n) λx hx=>Q3.mpr (bound x hx)
  rwa[Qp]at this
 have:P.length=(s0::w0).length+1:=by show((s0::w0).map Stp.b).length+1=_;rw[Qb]
 lia
theorem vP{n:Nat}(hS:∀s∈S,s.a<n/\s.b<n)(h0:0<n){p:Nat}(hw:(ent (KP n S n) p).2.length=n){i j:Nat}(r:Nv (ent (KP n S n) p).2 i j) :
  ∃x,Path S x (((ent (KP n S n) p).2.take (j+1)).drop i) x/\0<Ku (((ent (KP n S n) p).2.take (j+1)).drop i):=by
 obtain⟨aj,hg⟩:=RD hS n p;generalize hW:(ent (KP n S n) p).2=w at hw r aj hg⊢;obtain⟨q,hp⟩:=aj.path;have hij:=r.ij;have yB:=r.jl;obtain⟨s,hs⟩:∃s,w[i]?=O s:=⟨_,Qe (by lia)⟩
 obtain⟨t,ht⟩:∃t,w[j]?=O t:=⟨_,Qe yB⟩
 have hst:=r.same s t hs ht;obtain⟨a1,a2,a3⟩:=hp.at hs;obtain⟨b1,b2,b3⟩:=hp.at ht;have e1:w.take (j+1)=w.take i++(w.take (j+1)).drop i:=by have:=(Ue i (w.take (j+1))).symm;rw[List.take_take,Nat.min_eq_left (by lia)]at this;exact this
 rw[e1]at b2;obtain⟨m,c1,c2⟩:=b2.split
 have hm:m=s.a:=by
  have e2:(w.take (j+1)).drop i=s::(w.take (j+1)).drop (i+1):=by
   rw[Jr (by rw[QZ];lia)]
   congr 1
   rw[List.getElem_take];exact(Qg.mp hs).2
  rw[e2]at c2;exact c2.head
 subst hm;rw[←hst]at c2 b3;refine⟨s.a,c2,?_⟩;have hsh:Path S q (w.take i++w.drop (j+1)) p:=a1.append b3;have am:=hsh.walk (u:=[]) (.nil q);rw[QY]at am;have hlen:(w.take i++w.drop (j+1)).length<=n-1:=by rw[Qk,QZ,Jm];lia
 have most:=j9 hS am (n-1) hlen;have hgw:Ku w=Ku (w.take i)+Ku ((w.take (j+1)).drop i)+Ku (w.drop (j+1)):=by rw[←WU,←e1,←WU,Ue]
 rw[WU]at most
 have lt:(ent (KP n S (n-1)) p).1<(ent (KP n S n) p).1:=by
  obtain⟨k,_⟩:=TL hS (n-1);rw[Nat.sub_add_cancel h0]at k;rcases k.how p with e|⟨_,_,_,_,lt⟩
  .have:=(Po hS (n-1)).1 p
   rw[←e,hW,hw]at this
   lia
  .exact lt
 lia
theorem vW{q p:Nat}{w:List Stp}(h:Path S q w p){i j:Nat}(r:Nv w i j):(((w.take (j+1)).drop i).map Stp.a).Nodup:=by
 rw[List.nodup_iff_pairwise_ne,List.pairwise_iff_getElem];intro k l hk hl yO;have hij:=r.ij;have yB:=r.jl;simp only[Qb,Jm,QZ]at hk hl;simp only[J5,List.getElem_drop,List.getElem_take];obtain⟨m,rfl⟩:∃m,l=m+1:=⟨l-1,by lia⟩
 have e1:w[i+m]?=O w[i+m]:=Qe (by lia);have e2:w[i+m+1]?=O w[i+(m+1)]:=Qe (by lia);have e3:w[i+k]?=O w[i+k]:=Qe (by lia);rw[h.next e1 e2];exact r.first (i+m) (by lia) (i+k) (by lia) _ _ e3 e1
end
noncomputable def Kl(f:Int×Int->Int)(i:Nat):yi->Int
 |none=>0
 |some t=>f ((i:Int),t)
noncomputable def plF(n:Nat):yi->Nat
 |none=>n
 |some t=>t.toNat
noncomputable def ZZ(n b:Nat):yi:=if b=n then w9 else O (b:Int)
noncomputable def Kg(f:Int×Int->Int)(k:Nat):LO->Int
 |[]=>0
 |o::r=>Kl f k o+Kg f (k+1) r
theorem Fd(f:Int×Int->Int){o':yi}:∀{d:LO}{k i:Nat}{o:yi},d[i]?=O o->Kg f k (d.set i o')=Kg f k d+Kl f (k+i) o'-Kl f (k+i) o
 |[],_,_,_,h=>by cases h
 |x::d,k,0,o,h=>by
  cases h;show Kl f k o'+Kg f (k+1) d=Kl f k x+Kg f (k+1) d+Kl f k o'-Kl f k x
  lia
 |x::d,k,i+1,o,h=>by
  rw[List.set_cons_succ];unfold Kg;rw[Fd f (d:=d) (k:=k+1) (i:=i) (o:=o) (by simpa using h),show k+1+i=k+(i+1)by lia]
  lia
theorem F5{o' x:yi}:∀{d:LO}{i:Nat}{o:yi},d[i]?=O o->(((d.set i o').count x:Nat):Int)=(d.count x:Nat)+(if o'=x then 1 else 0)-(if o=x then 1 else 0)
 |[],_,_,h=>by cases h
 |y::d,0,o,h=>by cases h;rw[List.set_cons_zero,JK,JK];by_cases h1:o'=x<;>by_cases h2:y=x<;>simp[h1,h2]<;>lia
 |y::d,i+1,o,h=>by
  have ih:=F5 (o':=o') (x:=x) (d:=d) (i:=i) (o:=o) (by simpa using h);rw[List.set_cons_succ,JK,JK]
  lia
structure Zi(cs:yd)(qs:LP)(m:Nat)(ws:LO):Prop where
 len:ws.length=m
 wish:∀(i:Nat) t,ws[i]?=O (O t)->((i:Int),t)∈qs
 cop:∀(k:Nat) c,cs[k]?=O c->((ws.count (O (k:Int)):Nat):Int)<=c
structure Pairs(n m:Nat)(qs:LP):Prop where
 nd:qs.Nodup
 lo:∀q∈qs,0<=q.1/\q.1<m/\0<=q.2/\q.2<n
inductive IsSt(cs:yd)(f:Int×Int->Int)(qs:LP)(ws:LO):Stp->Prop where
 |mv {i:Nat} {o o':yi} (h:ws[i]?=O o) (hne:o'≠o) (hq:∀t,o'=O t->((i:Int),t)∈qs):IsSt cs f qs ws ⟨plF cs.length o,plF cs.length o',Kl f i o'-Kl f i o,O i⟩
 |left {t:Nat} {c:Int} (h:cs[t]?=O c) (hl:((ws.count (O (t:Int)):Nat):Int)<c):IsSt cs f qs ws ⟨t,cs.length,0,w9⟩
 |give {t:Nat} (h:t<cs.length):IsSt cs f qs ws ⟨cs.length,t,0,w9⟩
noncomputable def app(n:Nat)(d:LO)(s:Stp):LO:=match s.w with
 |some i=>d.set i (ZZ n s.b)
 |none=>d
noncomputable def nIn(t:Nat)(R:List Stp):Nat:=(R.filter λs=>s.w.isSome&&s.b==t).length
noncomputable def Y6(t:Nat)(R:List Stp):Nat:=(R.filter λs=>s.w.isSome&&s.a==t).length
section
variable{cs:yd}{f:Int×Int->Int}{qs:LP}{m:Nat}{ws:LO}
theorem Du(hp:Pairs cs.length m qs){i:Nat}{o:yi}(h:∀t,o=O t->((i:Int),t)∈qs):ZZ cs.length (plF cs.length o)=o:=by
 cases o with
 |none=>unfold ZZ plF;rw[Qo w8]
 |some t=>
  have:=hp.lo _ (h t w8)
  show(if t.toNat=cs.length then w9 else O ((t.toNat:Nat):Int))=O t
  rw[QB (by lia)]
  congr 1
  lia
theorem Ob(hp:Pairs cs.length m qs){i:Nat}{o:yi}{t:Nat}(ht:t<cs.length)(h:∀t,o=O t->((i:Int),t)∈qs):plF cs.length o=t ↔ o=O (t:Int):=by
 cases o with
 |none=>exact⟨λe=>by have e:cs.length=t:=e;lia,λe=>by cases e⟩
 |some u=>
  have:=hp.lo _ (h u w8);show u.toNat=t ↔ _;constructor
  .intro e;congr 1;lia
  .intro e;cases e;lia
theorem Pj(hp:Pairs cs.length m qs)(hd:Zi cs qs m ws):∀(R:List Stp)(d:LO),(∀s∈R,IsSt cs f qs ws s)->(R.map Stp.a).Nodup->(∀s∈R,∀i,s.w=O i->d[i]?=ws[i]?)->d.length=ws.length->(∀(i:Nat) t,d[i]?=O (O t)->((i:Int),t)∈qs) ->
  Kg f 0 (R.foldl (app cs.length) d)=Kg f 0 d+Ku R/\(R.foldl (app cs.length) d).length=ws.length/\(∀(i:Nat) t,(R.foldl (app cs.length) d)[i]?=O (O t)->((i:Int),t)∈qs) /\
  ∀t,t<cs.length->(((R.foldl (app cs.length) d).count (O (t:Int)):Nat):Int)=(d.count (O (t:Int)):Nat)+(nIn t R:Nat)-(Y6 t R:Nat)
 |[],d,_,_,_,hl,hq=>⟨by show _=_+Ku [];rw[Mc];show Kg f 0 d=_;lia,hl,hq,λt _=>by show((d.count _:Nat):Int)=_+((0:Nat):Int)-((0:Nat):Int);lia⟩
 |s::R,d,hR,hn,ha,hl,hq=>by
  rw[Qs,Jw]at hn;have hgc:Ku (s::R)=s.g+Ku R:=by show Ku ([s]++R)=_;rw[WU,Ru]
  rw[Jx,hgc];cases hR s Qi with
  |@mv i o o' h hne yM=>
   have hdi:d[i]?=O o:=(ha _ Qi i w8).trans h;have ho:∀t,o=O t->((i:Int),t)∈qs:=λt e=>hd.wish i t (by rw[h,e])
   have yx:i<d.length:=(Qg.mp hdi).1;have eapp:app cs.length d ⟨plF cs.length o,plF cs.length o',Kl f i o'-Kl f i o,O i⟩=d.set i o':=by show d.set i (ZZ cs.length (plF cs.length o'))=_;rw[Du hp yM]
   rw[eapp]
   obtain⟨k1,k2,k3,k4⟩:=Pj hp hd R (d.set i o') (λs hs=>hR s (Qh _ hs)) hn.2 (λs hs j hj=>by
    have hji:i≠j:=λz=>by
     subst z;cases hR s (Qh _ hs)with
     |@mv i2 o2 o2' h2 _ _=>cases hj;rw[h]at h2;cases h2;exact hn.1 (Qt.mpr ⟨_,hs,rfl⟩)
     |left _ _=>cases hj
     |give _=>cases hj
    rw[Qr hji];exact ha s (Qh _ hs) j hj) (by rw[Jc];exact hl) (λj t e=>by
    by_cases z:i=j
    .subst z
     rw[QL yx]at e;cases e;exact yM t w8
    .rw[Qr z]at e;exact hq j t e)
   refine⟨?_,k2,k3,λt ht=>?_⟩
   .rw[k1,Fd f hdi,Q0]
    show _=Kg f 0 d+((Kl f i o'-Kl f i o)+Ku R)
    lia
   .rw[k4 t ht,F5 hdi]
    have e1:(if o'=O (t:Int)then(1:Int)else 0)=if plF cs.length o'=t then 1 else 0:=by
     by_cases z:o'=O (t:Int)
     .rw[Qo z,Qo ((Ob hp ht yM).mpr z)]
     .rw[QB z,QB (λy=>z ((Ob hp ht yM).mp y))]
    have e2:(if o=O (t:Int)then(1:Int)else 0)=if plF cs.length o=t then 1 else 0:=by
     by_cases z:o=O (t:Int)
     .rw[Qo z,Qo ((Ob hp ht ho).mpr z)]
     .rw[QB z,QB (λy=>z ((Ob hp ht ho).mp y))]
    have e3:∀(x:Nat),((nIn t (⟨plF cs.length o,plF cs.length o',Kl f i o'-Kl f i o,O i⟩::R):Nat):Int)=(if plF cs.length o'=t then 1 else 0)+(nIn t R:Nat):=λx=>by
     unfold nIn;rw[List.filter_cons];by_cases z:plF cs.length o'=t
     .rw[if_pos z,if_pos (by simp[z]),List.length_cons];lia
     .rw[if_neg z,if_neg (by simp[z])];lia
    have e4:∀(x:Nat),((Y6 t (⟨plF cs.length o,plF cs.length o',Kl f i o'-Kl f i o,O i⟩::R):Nat):Int)=(if plF cs.length o=t then 1 else 0)+(Y6 t R:Nat):=λx=>by
     unfold Y6;rw[List.filter_cons];by_cases z:plF cs.length o=t
     .rw[if_pos z,if_pos (by simp[z]),List.length_cons];lia
     .rw[if_neg z,if_neg (by simp[z])];lia
    rw[e1,e2,e3 0,e4 0]
    lia
  |left _ _=>obtain⟨k1,k2,k3,k4⟩:=Pj hp hd R d (λs hs=>hR s (Qh _ hs)) hn.2 (λs hs=>ha s (Qh _ hs)) hl hq;refine⟨?_,k2,k3,k4⟩;show Kg f 0 (R.foldl _ d)=Kg f 0 d+(0+Ku R);rw[k1];lia
  |give _=>obtain⟨k1,k2,k3,k4⟩:=Pj hp hd R d (λs hs=>hR s (Qh _ hs)) hn.2 (λs hs=>ha s (Qh _ hs)) hl hq;refine⟨?_,k2,k3,k4⟩;show Kg f 0 (R.foldl _ d)=Kg f 0 d+(0+Ku R);rw[k1];lia
theorem Nc(t:Nat):∀R:List Stp,nIn t R<=(R.map Stp.b).count t
 |[]=>Qu _
 |s::R=>by
  have ih:=Nc t R;unfold nIn at ih⊢;rw[List.filter_cons,Qs,JK];split
  .rename_i h
   rw[QR]at h;rw[Qz,Qo h.2]
   lia
  .lia
theorem Fc(hp:Pairs cs.length m qs)(hd:Zi cs qs m ws){R:List Stp}(hR:∀s∈R,IsSt cs f qs ws s)(hn:(R.map Stp.a).Nodup)(hb:(R.map Stp.b).Perm (R.map Stp.a)):Zi cs qs m (R.foldl (app cs.length) ws)/\Kg f 0 (R.foldl (app cs.length) ws)=Kg f 0 ws+Ku R:=by
 obtain⟨k1,k2,k3,k4⟩:=Pj hp hd R ws hR hn (λs hs i e=>rfl) w8 hd.wish;refine⟨⟨by rw[k2];exact hd.len,k3,λt c hc=>?_⟩,k1⟩;have ht:t<cs.length:=(Qg.mp hc).1;rw[k4 t ht];have h0:=hd.cop t c hc;have h1:(R.map Stp.a).count t<=1:=List.nodup_iff_count.mp hn t;have h2:=Nc t R;rw[hb.count_eq]at h2;by_cases z:nIn t R=0
 .lia
 .have hin:nIn t R=1:=by lia
  have hmem:t∈R.map Stp.a:=List.count_pos_iff.mp (by lia);obtain⟨s,hs,hst⟩:=Qt.mp hmem;cases hR s hs with
  |@mv i o o' h hne yM=>
   have:1<=Y6 t R:=by unfold Y6;exact List.length_pos_iff.mpr (List.ne_nil_of_mem (List.mem_filter.mpr ⟨hs,by simpa using hst⟩))
   lia
  |@left u c' h hl=>
   have hst:u=t:=hst;subst hst;rw[h]at hc;cases hc
   lia
  |@give u h=>
   have hst:cs.length=t:=hst
   lia
end
theorem Hg{S:List Stp}{q p:Nat}{w:List Stp}(h:Path S q w p):w.map Stp.a++[p]=q::w.map Stp.b:=by
 induction h with
 |nil p=>rfl
 |cons hs h ih=>rw[Qs,Qs,List.cons_append,ih]
theorem Mq{S:List Stp}{x:Nat}{w:List Stp}(h:Path S x w x):(w.map Stp.b).Perm (w.map Stp.a):=by have e:=Hg h;have p1:(w.map Stp.a++[x]).Perm (x::w.map Stp.a):=Uc;rw[e]at p1;exact List.Perm.cons_inv p1
noncomputable def ZP(f:Int×Int->Int)(V:Nat->Int)(qs:LP)(i:Int):Int:=qs.foldl (λa q=>if q.1=i then max a (f q-V q.2.toNat)else a) 0
theorem OL(f:Int×Int->Int)(V:Nat->Int)(i:Int):∀(qs:LP)(a:Int),a<=qs.foldl (λa q=>if q.1=i then max a (f q-V q.2.toNat)else a) a /\
  (∀q∈qs,q.1=i->f q-V q.2.toNat<=qs.foldl (λa q=>if q.1=i then max a (f q-V q.2.toNat)else a) a) /\
  ∀B,a<=B->(∀q∈qs,q.1=i->f q-V q.2.toNat<=B)->qs.foldl (λa q=>if q.1=i then max a (f q-V q.2.toNat)else a) a<=B
 |[],a=>⟨Q6 _,(λq h=>by cases h),λB h _=>h⟩
 |q::qs,a=>by
  rw[Jx];obtain⟨h1,h2,h3⟩:=OL f V i qs (if q.1=i then max a (f q-V q.2.toNat)else a);have hb:a<=(if q.1=i then max a (f q-V q.2.toNat)else a):=by split<;>lia
  refine⟨JW hb h1,λp hp e=>?_,λB ha hB=>h3 B ?_ λp hp=>hB p (Qh _ hp)⟩
  .rcases Qw.mp hp with rfl|hp
   .rw[Qo e]at h1⊢
    lia
   .exact h2 p hp e
  .have:=hB q Qi
   split
   .rename_i e
    have:=this e
    lia
   .exact ha
theorem F4{f:Int×Int->Int}{ps:yd}:∀(ws:LO)(k:Nat)(A:Nat->Int),(∀(j:Nat) o,ws[j]?=O o->A (k+j)=Kl f (k+j) o-(match o with|some t=>ps.getD t.toNat 0|none=>0))->((List.range' k ws.length).map A).sum=Kg f k ws-pz ps ws
 |[],k,A,_=>by show(0:Int)=0-0;lia
 |o::ws,k,A,h=>by
  rw[Qz,List.range'_succ,Qs,Uo,F4 ws (k+1) A λj o' e=>by have:=h (j+1) o' (by simpa using e);rw[show k+1+j=k+(j+1)by lia];exact this];have h0:=h 0 o w8;rw[Nat.add_zero]at h0;rw[h0];cases o with
  |none=>show Kl f k w9-0+(Kg f (k+1) ws-pz ps ws)=Kl f k w9+Kg f (k+1) ws-(0+pz ps ws);lia
  |some t=>show Kl f k (O t)-ps.getD t.toNat 0+(Kg f (k+1) ws-pz ps ws)=Kl f k (O t)+Kg f (k+1) ws-(ps.getD t.toNat 0+pz ps ws);lia
section
variable{cs:yd}{f:Int×Int->Int}{qs:LP}{m:Nat}{ws:LO}{S:List Stp}
theorem IsSt.lt(hp:Pairs cs.length m qs)(hd:Zi cs qs m ws){s:Stp}(h:IsSt cs f qs ws s):s.a<cs.length+1/\s.b<cs.length+1:=by
 have key:∀{i:Nat}{o:yi},(∀t,o=O t->((i:Int),t)∈qs)->plF cs.length o<cs.length+1:=λ{i o} h=>by
  cases o with
  |none=>exact JN _
  |some t=>have:=hp.lo _ (h t w8);show t.toNat<_;lia
 cases h with
 |mv h hne hq=>exact⟨key λt e=>hd.wish _ t (by rw[h,e]),key hq⟩
 |left h hl=>have:=(Qg.mp h).1;exact⟨JX this,JN _⟩
 |give h=>exact⟨JN _,JX h⟩
theorem qP{V:Nat->Int}(still:∀s∈S,V s.a+s.g<=V s.b){q p:Nat}{w:List Stp}(h:Path S q w p):V q+Ku w<=V p:=by
 induction h with
 |nil p=>rw[Mc];lia
 |@cons s w p hs h ih=>
  have:=still s hs;have e:Ku (s::w)=s.g+Ku w:=by show Ku ([s]++w)=_;rw[WU,Ru]
  lia
theorem F3(hp:Pairs cs.length m qs)(hd:Zi cs qs m ws){V:Nat->Int}(st:∀s,IsSt cs f qs ws s->V s.a+s.g<=V s.b)(vn:V cs.length=0) :
  OkP cs.length m (λa b=>f (a,b)) qs 1 ((UE m).map λi:Nat=>ZP f V qs (i:Int)) ((UE cs.length).map V)/\Wh cs ((UE m).map λi:Nat=>ZP f V qs (i:Int)) ((UE cs.length).map V)=Kg f 0 ws:=by
 have v0:∀p,p<cs.length->0<=V p:=λp z8=>by
  have h3:V cs.length+0<=V p:=st _ (.give z8)
  lia
 have psD:∀k,k<cs.length->((UE cs.length).map V).getD k 0=V k:=λk hk=>by rw[Ql,Qd,QO hk];rfl
 have ask:∀(i:Nat) o,ws[i]?=O o->ZP f V qs (i:Int)=Kl f i o-(match o with|some t=>((UE cs.length).map V).getD t.toNat 0|none=>0):=λi o h=>by
  obtain⟨a1,a2,a3⟩:=OL f V (i:Int) qs 0;cases o with
  |none=>
   have:ZP f V qs (i:Int)<=0:=a3 0 (Q6 _) λq hq e=>by
    have h1:=st _ ((.mv (f:=f) h (o':=O q.2) (by intro z;cases z) λt et=>by cases et;rw[←e];exact hq));have h1:V cs.length+(f ((i:Int),q.2)-0)<=V q.2.toNat:=h1;rw[←e]at h1;have:f (q.1,q.2)=f q:=rfl
    lia
   show ZP f V qs (i:Int)=0-0;have:0<=ZP f V qs (i:Int):=a1
   lia
  |some t=>
   have hq:=hd.wish i t h;have hb:=hp.lo _ hq;have hup:=st _ ((.mv (f:=f) h (o':=w9) (by intro z;cases z) λt et=>by cases et));have hup:V t.toNat+(0-f ((i:Int),t))<=V cs.length:=hup;show ZP f V qs (i:Int)=f ((i:Int),t)-((UE cs.length).map V).getD t.toNat 0;rw[psD t.toNat (by lia)];have lo:f ((i:Int),t)-V t.toNat<=ZP f V qs (i:Int):=a2 _ hq w8
   have hi:ZP f V qs (i:Int)<=f ((i:Int),t)-V t.toNat:=a3 _ (by lia) λq hq e=>by
    by_cases z:q.2=t
    .have:q=((i:Int),t):=by rw[←e,←z]
     rw[this];exact Q6 _
    .have h1:=st _ ((.mv (f:=f) h (o':=O q.2) (by intro y;cases y;exact z w8) λt et=>by cases et;rw[←e];exact hq))
     have h1:V t.toNat+(f ((i:Int),q.2)-f ((i:Int),t))<=V q.2.toNat:=h1;have:f (((i:Int)),q.2)=f q:=by rw[←e]
     lia
   lia
 refine⟨⟨by decide,by rw[Qb,Qp],by rw[Qb,Qp],λa ha=>?_,λp z8=>?_,λq hq=>?_⟩,?_⟩
 .obtain⟨i,_,rfl⟩:=Qt.mp ha
  exact(OL f V (i:Int) qs 0).1
 .obtain⟨i,_,rfl⟩:=Qt.mp z8
  exact v0 i (Q3.mp (by assumption))
 .have hb:=hp.lo q hq
  rw[psD q.2.toNat (by lia),Ql,Qd,QO (by lia)];have h2:=(OL f V q.1 qs 0).2.1 q hq w8;show 1*f q<=ZP f V qs ((q.1.toNat:Nat):Int)+V q.2.toNat;have e:((q.1.toNat:Nat):Int)=q.1:=by lia
  rw[e];have h2:f q-V q.2.toNat<=ZP f V qs q.1:=h2
  lia
 .unfold Wh
  rw[List.range_eq_range' (n:=m),←hd.len,F4 (f:=f) (ps:=(UE cs.length).map V) ws 0 (λi:Nat=>ZP f V qs (i:Int)) λj o e=>by rw[Q0];exact ask j o e];have zj:∀t,O t∈ws->0<=t/\t<cs.length:=λt ht=>by obtain⟨i,hi⟩:=JR.mp ht;have:=hp.lo _ (hd.wish i t hi);exact⟨this.2.2.1,this.2.2.2⟩
  rw[OO ws zj,Ms _ _ (by rw[Qb,Qp])]
  have e:K8 cs.length (λk=>cs.getD k 0*((UE cs.length).map V).getD k 0)=K8 cs.length λk=>((ws.count (O (k:Int)):Nat):Int)*((UE cs.length).map V).getD k 0:=Mt λk hk=>by
   rw[psD k hk];have hc:cs[k]?=O (cs.getD k 0):=by rw[Ql,Qe hk];rfl
   have hle:=hd.cop k _ hc;by_cases z:((ws.count (O (k:Int)):Nat):Int)=cs.getD k 0
   .rw[z]
   .have h1:=st _ ((.left (f:=f) (qs:=qs) hc (by lia)))
    have h1:V k+0<=V cs.length:=h1;have:=v0 k hk;have hz:V k=0:=by lia
    rw[hz,J9,J9]
  rw[e]
  lia
theorem Pi(hp:Pairs cs.length m qs)(hd:Zi cs qs m ws)(hin:∀s∈S,IsSt cs f qs ws s)(hall:∀s,IsSt cs f qs ws s->s∈S){V:Nat->Int}(hV:∀p,V p=(ent (KP (cs.length+1) S (cs.length+1)) p).1)
  (still:∀p,p<cs.length+1->(ent (KP (cs.length+1) S (cs.length+1)) p).2.length≠cs.length+1):(∀s∈S,V s.a+s.g<=V s.b)/\V cs.length=0:=by
 have hS:∀s∈S,s.a<cs.length+1/\s.b<cs.length+1:=λs hs=>(hin s hs).lt hp hd;have st:∀s∈S,V s.a+s.g<=V s.b:=λs hs=>by rw[hV,hV];exact vQ hS (JL _) still s hs
 have v0:∀p,0<=V p:=λp=>by have:=Mj hS (JM (cs.length+1)) p;rw[Rv hS]at this;rw[hV];exact this
 have vn:V cs.length=0:=by
  obtain⟨hw,hg⟩:=RD hS (cs.length+1) cs.length;obtain⟨q,hq⟩:=hw.path;have h1:=qP st hq;rw[hg,←hV]at h1;have h2:=v0 q;by_cases z:q=cs.length
  .rw[z]at h1 h2;lia
  .have hql:q<cs.length:=by
    cases ak:(ent (KP (cs.length+1) S (cs.length+1)) cs.length).2 with
    |nil=>rw[ak]at hq;cases hq;exact absurd w8 z
    |cons s w=>
     rw[ak]at hq;have:=(hS s hq.step.1).1;rw[←hq.head]at this
     lia
   have h3:=st _ (hall _ (.give hql));have h3:V cs.length+0<=V q:=h3;have:=v0 cs.length
   lia
 exact⟨st,vn⟩
theorem qO(hp:Pairs cs.length m qs)(hd:Zi cs qs m ws)(hin:∀s∈S,IsSt cs f qs ws s)(hall:∀s,IsSt cs f qs ws s->s∈S){V:Nat->Int}(hV:∀p,V p=(ent (KP (cs.length+1) S (cs.length+1)) p).1)
  (still:∀p,p<cs.length+1->(ent (KP (cs.length+1) S (cs.length+1)) p).2.length≠cs.length+1) :
  OkP cs.length m (λa b=>f (a,b)) qs 1 ((UE m).map λi:Nat=>ZP f V qs (i:Int)) ((UE cs.length).map V)/\Wh cs ((UE m).map λi:Nat=>ZP f V qs (i:Int)) ((UE cs.length).map V)=Kg f 0 ws:=by
 obtain⟨st,vn⟩:=Pi hp hd hin hall hV still;exact F3 hp hd (λs hs=>st s (hall s hs)) vn
end
noncomputable def YO:Option Nat->D
 |some i=>.int i
 |none=>.none
noncomputable def U4(s:Stp):D:=.tuple [.int s.a,.int s.b,.int s.g,YO s.w]
noncomputable def Ym(x:Int×List Stp):D:=.tuple [.int x.1,.list (x.2.map U4)]
noncomputable def U5(V:Int->Int->Int)(q:Int×Int):Int:=V q.1 q.2
noncomputable def Zq(n:Nat)(f:Int×Int->Int)(ws:LO):List Stp:=(UE ws.length).filterMap λi=>match ws.getD i w9 with
 |none=>w9
 |some t=>O ⟨t.toNat,n, -(Kl f i (O t)),O i⟩
noncomputable def Zb(n:Nat)(f:Int×Int->Int)(qs:LP)(ws:LO):List Stp:=qs.filterMap λq=>if ws.getD q.1.toNat w9≠O q.2 then O ⟨plF n (ws.getD q.1.toNat w9),q.2.toNat,f q-Kl f q.1.toNat (ws.getD q.1.toNat w9),O q.1.toNat⟩else w9
noncomputable def Z7(cs:yd)(ws:LO):List Stp:=(UE cs.length).filterMap λt=>if 0<cs.getD t 0-((ws.count (O (t:Int)):Nat):Int)then O ⟨t,cs.length,0,w9⟩else w9
noncomputable def Z6(n:Nat):List Stp:=(UE n).map λt=>⟨n,t,0,w9⟩
noncomputable def ZR(cs:yd)(f:Int×Int->Int)(qs:LP)(ws:LO):List Stp:=Zq cs.length f ws++Zb cs.length f qs ws++(Z7 cs ws++Z6 cs.length)
theorem j8{m j:Nat}{h h':Nat->Int}(hj:j<m)(e:∀i,i≠j->h' i=h i):(((UE m).map h).map int).set j (.int (h' j))=((UE m).map h').map int:=by
 apply Ug;intro i;by_cases z:j=i
 .subst z
  rw[QL (by rw[Qb,Qb,Qp];exact hj),Qd,Qd,QO hj];rfl
 .rw[Qr z,Qd,Qd,Qd,Qd]
  by_cases hi:i<m
  .rw[QO hi]
   show O (int (h i))=O (int (h' i));rw[e i λy=>z y.symm]
  .rw[Q9 (by rw[Qp];lia)]
   rfl
theorem Oz{m:Nat}{h:Nat->Int}{j:Nat}(hj:j<m):oIx (.list (((UE m).map h).map int)) (.int (j:Int))=O (.int (h j)):=Zz (by rw[Qd,Qd,QO hj];rfl)
section
variable{cs:yd}{ls:L3}{ws:LO}{V:Int->Int->Int}{qs:LP}
theorem vV{n:Nat}{o:yi}(h:∀t,o=O t->0<=t):Wv [.int n,Ke o]=O (.int (plF n o)):=by
 refine Zj (Z:=[pb (.int n),pb (Ke o)]) w8 ?_;unfold Su;cases o with
 |none=>exact KJ (Lr (KU (k:=isNon) (x:=PyData.none) (UW w8)) (UW w8)) w8
 |some t=>refine KJ (Ni (KU (k:=isNon) (x:=int t) (UW w8)) (UW w8)) ?_;have:=h t w8;show Out.rt (.int t)=Out.rt (.int ((t.toNat:Nat):Int));rw[show((t.toNat:Nat):Int)=t by lia]
noncomputable def Ys(V:Int->Int->Int)(ws:LO)(qs:LP)(i:Nat):Int:=match ws.getD i w9 with
 |none=>0
 |some t=>if((i:Int),t)∈qs then V i t else 0
theorem Op{k:Int}(h0:0<=k)(h1:k<ws.length):oIx (Kh ws) (.int k)=O (Ke (ws.getD k.toNat w9)):=by
 obtain⟨j,rfl⟩:∃j:Nat,k=j:=⟨k.toNat,by lia⟩
 refine Zz ?_;rw[Qd,QM,Ql,Qe (by lia)];rfl
theorem Mb{i:Nat}{o:yi}(h:ws[i]?=O o):ws.getD i w9=o:=by rw[Ql,h];rfl
theorem j7(hp:Pairs cs.length ws.length qs)(hd:Zi cs qs ws.length ws)(hm:ws.length<=1000)(hq1:qs.length<=1000):Vx [.int (cs.length:Nat),.list (qs.map (Zk V)),Kh ws]=O (.list ((Zq cs.length (U5 V) ws++Zb cs.length (U5 V) qs ws).map U4)):=by
 refine Zj (Z:=[pb (.int (cs.length:Nat)),pb (.list (qs.map (Zk V))),pb (Kh ws),w9,w9,w9,w9,w9]) w8 ?_;unfold Ss;have hlen:Kn [Kh ws]=O (.int ws.length):=by show Kn [.list (ws.map Ke)]=_;rw[Zv,Qb]
 have pos:∀i t,ws.getD i w9=O t->i<ws.length/\((i:Int),t)∈qs:=λi t e=>by
  by_cases hi:i<ws.length
  .rw[Ql,Qe hi]at e
   exact⟨hi,hd.wish i t (by rw[Qe hi];exact Uh O e)⟩
  .rw[Ql,Q9 (by lia)]at e;cases e
 refine Km (Yo (HH (n:=ws.length) (ZK (U0 U7 U3) (Qa w8)) (ZX w8 hlen) hm) (Qa w8) w8) ?_;apply K1;apply ZA (λk Z=>∃x4 x5 x6,Z=[pb (.int (cs.length:Nat)),pb (.list (qs.map (Zk V))),pb (Kh ws),O (.own (((UE ws.length).map (Ys V ws (qs.take k))).map int)),x4,x5,x6,w9])
 case h1=>exact ZB (UW w8) Z9
 case h0=>
  refine⟨w9,w9,w9,?_⟩
  have e:((UE ws.length).map (Ys V ws (qs.take 0))).map int=UF ws.length (.int 0):=by
   rw[List.eq_replicate_iff];refine⟨by rw[Qb,Qb,Qp],λb hb=>?_⟩;obtain⟨x,hx,rfl⟩:=Qt.mp hb;obtain⟨i,_,rfl⟩:=Qt.mp hx;unfold Ys;split
   .rfl
   .rw[if_neg (by rw[List.take_zero];simp)]
  rw[e];rfl
 case hst=>
  rintro k d Z hk ⟨x4,x5,x6,rfl⟩;rw[Qd]at hk;cases hq:qs[k]? with
  |none=>rw[hq]at hk;cases hk
  |some q=>
  rw[hq]at hk;cases hk;have hb:=hp.lo q (Qv hq);refine⟨_,Kz w8 (U8 (U2 (Qa w8) w8) (U8 (U2 (Qa w8) w8) (U8 (U2 (Qa w8) w8) KB))),?_⟩;unfold HJ;have yR:qs.take (k+1)=qs.take k++[q]:=by rw[JQ,hq];rfl
  apply KR
  case h1=>exact Kd (KI w8 (UW w8) (Op hb.1 hb.2.1)) (UW w8) (Ng (b:=O q.2))
  case h2=>
   intro hh;have hh:ws.getD q.1.toNat w9=O q.2:=Qa hh;refine ZQ (Ol (UW w8) w8 (UW w8) w8 ⟨hb.1,by rw[Qb,Qb,Qp];exact hb.2.1⟩ w8) (K2 ⟨O (.pub (.int q.1)),pb (.int q.2),pb (.int (V q.1 q.2)),?_⟩)
   have e:=j8 (m:=ws.length) (j:=q.1.toNat) (h:=Ys V ws (qs.take k)) (h':=Ys V ws (qs.take (k+1))) (by lia) λi hne=>by
    unfold Ys;cases ws.getD i w9 with
    |none=>rfl
    |some t=>
     dsimp only;rw[yR];by_cases z:((i:Int),t)∈qs.take k
     .rw[Qo z,Qo (QI _ z)]
     .rw[QB z,QB]
      intro y;rcases QC.mp y with y|y
      .exact z y
      .have:=Qq.mp y
       rw[←this]at hne;exact hne (by show i=((i:Int)).toNat;rw[QM])
   have ev:Ys V ws (qs.take (k+1)) q.1.toNat=V q.1 q.2:=by
    unfold Ys;rw[hh];have ei:((q.1.toNat:Nat):Int)=q.1:=by lia
    dsimp only;rw[ei,if_pos (by rw[yR];exact List.mem_append_right _ (by simp))]
   rw[ev]at e;rw[←e];rfl
  case h3=>
   intro hh;have hh:¬ws.getD q.1.toNat w9=O q.2:=Jf hh;refine K5 (K2 ⟨O (.pub (.int q.1)),pb (.int q.2),pb (.int (V q.1 q.2)),?_⟩)
   have e:(UE ws.length).map (Ys V ws (qs.take (k+1)))=(UE ws.length).map (Ys V ws (qs.take k)):=List.map_congr_left λi _=>by
    unfold Ys;cases hw:ws.getD i w9 with
    |none=>rfl
    |some t=>
     dsimp only;rw[yR];by_cases z:((i:Int),t)∈qs.take k
     .rw[Qo z,Qo (QI _ z)]
     .rw[QB z,QB]
      intro y;rcases QC.mp y with y|y
      .exact z y
      .have y:=Qq.mp y
       rw[←y]at hh;exact hh (by show ws.getD ((i:Int)).toNat w9=O t;rw[QM];exact hw)
   rw[e];rfl
 case hend=>
  rintro Z ⟨x4,x5,x6,rfl⟩;refine KQ ?_;have zj:qs.take (qs.map (Zk V)).length=qs:=by rw[Qb,JB]
  rw[zj]
  have aI:∀i,Ys V ws qs i=Kl (U5 V) i (ws.getD i w9):=λi=>by
   unfold Ys;cases hw:ws.getD i w9 with
   |none=>rfl
   |some t=>exact Qo (pos i t hw).2
  have hc:∀y4 y5 y6 y7:Option Sl,K4 (gT 2 (gNC (gN 8) (gNC (gN 9) (gN0)))) (Kb (λd=>!isNon d) (UT 9)) (KM (UX (UT 9) (UX (UT 0) (UX (Yj (U6 3 (UT 8))) (UX (UT 8) (UV)))))) (Yq 0 (ws.map Ke)) ([pb (.int (cs.length:Nat)),pb (.list (qs.map (Zk V))),pb (Kh ws),pb (.list (((UE ws.length).map (Ys V ws qs)).map int)),y4,y5,y6,y7]++UF 2 w9) []=O ((Zq cs.length (U5 V) ws).map U4):=by
   intro y4 y5 y6 y7
   have em:(Zq cs.length (U5 V) ws).map U4=((UE ws.length).map λi=>(match ws.getD i w9 with|none=>w9|some t=>O (U4 ⟨t.toNat,cs.length, -(Kl (U5 V) i (O t)),O i⟩):ye)).filterMap id:=by
    unfold Zq;rw[List.map_filterMap,List.filterMap_map]
    congr 1
    funext i;dsimp only[Function.comp,id];cases ws.getD i w9<;>rfl
   rw[em];refine MA (λZ=>∃z4 z5 z6 z7 x y,Z=[pb (.int (cs.length:Nat)),pb (.list (qs.map (Zk V))),pb (Kh ws),pb (.list (((UE ws.length).map (Ys V ws qs)).map int)),z4,z5,z6,z7,x,y]) _ _ _ _ (by rw[Qb,Qp,YH,Qb]) ?_ ⟨y4,y5,y6,y7,w9,w9,rfl⟩ (by rw[YH,Qb,QF];lia);rintro i d e hdd he Z ⟨z4,z5,z6,z7,x,y,rfl⟩;obtain⟨z,hz,rfl⟩:=XE hdd;rw[Qd]at hz;cases hw:ws[i]? with
   |none=>rw[hw]at hz;cases hz
   |some o=>
   rw[hw]at hz;cases hz;have yx:i<ws.length:=(Qg.mp hw).1;have hg:=Mb hw;rw[Qd,QO yx]at he;have he:O (match ws.getD i w9 with|none=>w9|some t=>O (U4 ⟨t.toNat,cs.length, -(Kl (U5 V) i (O t)),O i⟩):ye)=O e:=he;rw[hg]at he;cases he;rw[Q0];refine⟨_,Kz w8 (U8 (U2 (Qa w8) w8) (U8 (U2 (Qa w8) w8) KB)),?_,?_,_,_,_,_,_,_,rfl⟩
   .cases o with
    |none=>exact KU (k:=λd=>!isNon d) (x:=PyData.none) (UW w8)
    |some t=>exact KU (k:=λd=>!isNon d) (x:=int t) (UW w8)
   .intro v hv
    cases o with
    |none=>cases hv
    |some t=>
     cases hv;have hb:=hp.lo _ (pos i t hg).2;have et:((t.toNat:Nat):Int)=t:=by have:=hb.2.2.1;lia
     show _=Res.ok (PyData.tuple [.int ((t.toNat:Nat):Int),.int ((cs.length:Nat):Int),.int (-(Kl (U5 V) i (O t))),.int (i:Nat)]) _;rw[et,show Kl (U5 V) i (O t)=Ys V ws qs i by rw[aI,hg]];exact Xl (U0 (UW w8) (U0 (UW w8) (U0 (Rr (KI w8 (UW w8) (Oz yx))) (U0 (UW w8) U3)))) (Qa w8)
  have nlS:∀S:List Stp,(S.map U4).all nl0=ya:=λS=>Je.mpr λd hd=>by obtain⟨s,_,rfl⟩:=Qt.mp hd;obtain⟨a,b,g,w⟩:=s;cases w<;>rfl
  have hcl:∀x4 x5 x6:Option Sl,WC (ZH (YY (UX (UT 2) (UV))) 2 (gT 2 (gNC (gN 8) (gNC (gN 9) (gN0)))) (Kb (λd=>!isNon d) (UT 9)) (KM (UX (UT 9) (UX (UT 0) (UX (Yj (U6 3 (UT 8))) (UX (UT 8) (UV))))))) [pb (.int (cs.length:Nat)),pb (.list (qs.map (Zk V))),pb (Kh ws),O (.own (((UE ws.length).map (Ys V ws qs)).map int)),x4,x5,x6,w9]=.ok ((Zq cs.length (U5 V) ws).map U4) [pb (.int (cs.length:Nat)),pb (.list (qs.map (Zk V))),pb (Kh ws),O (.own (((UE ws.length).map (Ys V ws qs)).map int)),x4,x5,x6,w9]:=λx4 x5 x6=>
   qk (Z':=ZL [pb (.int (cs.length:Nat)),pb (.list (qs.map (Zk V))),pb (Kh ws),O (.own (((UE ws.length).map (Ys V ws qs)).map int)),x4,x5,x6,w9]) (Yc (XQ (U0 (UW w8) U3) XN) (hc _ _ _ _)) (nlS _)
  refine Km (Yo (hcl _ _ _) (Qa w8) w8) ?_;apply K1;apply ZA (λk Z=>∃x4 x5 x6,Z=[pb (.int (cs.length:Nat)),pb (.list (qs.map (Zk V))),pb (Kh ws),O (.own (((UE ws.length).map (Ys V ws qs)).map int)),x4,x5,x6,O (.own ((Zq cs.length (U5 V) ws++Zb cs.length (U5 V) (qs.take k) ws).map U4))])
  case h1=>exact ZB (UW w8) Z9
  case h0=>exact⟨_,_,_,by rw[JZ];show _=[_,_,_,_,_,_,_,O (Sl.own ((Zq cs.length (U5 V) ws++[]).map U4))];rw[Q2];rfl⟩
  case hst=>
   rintro k d Z hk ⟨x4,x5,x6,rfl⟩;rw[Qd]at hk;cases hq:qs[k]? with
   |none=>rw[hq]at hk;cases hk
   |some q=>
   rw[hq]at hk;cases hk;have hb:=hp.lo q (Qv hq);have yR:qs.take (k+1)=qs.take k++[q]:=by rw[JQ,hq];rfl
   have yO:k<qs.length:=(Qg.mp hq).1
   have hsz:((Zq cs.length (U5 V) ws++Zb cs.length (U5 V) (qs.take k) ws).map U4).length<1000000:=by
    rw[Qb,Qk];have h1:(Zq cs.length (U5 V) ws).length<=ws.length:=by unfold Zq;have:=Jd (λi=>match ws.getD i w9 with|none=>w9|some t=>O (⟨t.toNat,cs.length, -(Kl (U5 V) i (O t)),O i⟩:Stp)) (UE ws.length);rw[Qp]at this;exact this
    have h2:(Zb cs.length (U5 V) (qs.take k) ws).length<=qs.length:=by unfold Zb;refine QJ (Jd _ _) ?_;rw[QZ];lia
    lia
   refine⟨_,Kz w8 (U8 (U2 (Qa w8) w8) (U8 (U2 (Qa w8) w8) (U8 (U2 (Qa w8) w8) KB))),?_⟩;unfold HK;have e2:∀r:List Stp,Zb cs.length (U5 V) [q] ws=r->Zb cs.length (U5 V) (qs.take (k+1)) ws=Zb cs.length (U5 V) (qs.take k) ws++r:=λr hr=>by rw[yR];unfold Zb at hr⊢;rw[Ud,hr]
   apply KR
   case h1=>exact Kd (KI w8 (UW w8) (Op hb.1 hb.2.1)) (UW w8) (CA (b:=O q.2))
   case h2=>
    intro hh;have hh:¬ws.getD q.1.toNat w9=O q.2:=by simpa using hh
    have hpl:Wv [.int (cs.length:Nat),Ke (ws.getD q.1.toNat w9)]=O (.int (plF cs.length (ws.getD q.1.toNat w9))):=vV λt e=>by have:=hp.lo _ (pos _ t e).2;exact this.2.2.1
    refine ZQ (X9 w8 (Xl (U0 (Ky (U0 (UW w8) (U0 (KI w8 (UW w8) (Op hb.1 hb.2.1)) U3)) w8 hpl) (U0 (UW w8) (U0 (Kd (UW w8) (V4 w8 (UW w8) w8 (show oIx _ (.int q.1)=O (.int (Ys V ws qs q.1.toNat))from by have:=Oz (m:=ws.length) (h:=Ys V ws qs) (j:=q.1.toNat) (by lia);rw[show((q.1.toNat:Nat):Int)=q.1 by lia]at this;exact this)) YT) (U0 (UW w8) U3)))) (Qa w8)) w8 hsz w8) (K2 ⟨O (.pub (.int q.1)),pb (.int q.2),pb (.int (V q.1 q.2)),?_⟩);have er:Zb cs.length (U5 V) [q] ws=[⟨plF cs.length (ws.getD q.1.toNat w9),q.2.toNat,U5 V q-Kl (U5 V) q.1.toNat (ws.getD q.1.toNat w9),O q.1.toNat⟩]:=by unfold Zb;rw[JD,Qo hh];rfl
    rw[e2 _ er,←Ja,QA (l₂:=[_])];show _=[_,_,_,_,_,_,_,O (Sl.own (_++[PyData.tuple [_,.int ((q.2.toNat:Nat):Int),.int (U5 V q-Kl (U5 V) q.1.toNat (ws.getD q.1.toNat w9)),.int ((q.1.toNat:Nat):Int)]]))];rw[show((q.2.toNat:Nat):Int)=q.2 by lia,show((q.1.toNat:Nat):Int)=q.1 by lia,←aI];rfl
   case h3=>
    intro hh;have hh:ws.getD q.1.toNat w9=O q.2:=by simpa using hh
    refine K5 (K2 ⟨O (.pub (.int q.1)),pb (.int q.2),pb (.int (V q.1 q.2)),?_⟩);have er:Zb cs.length (U5 V) [q] ws=[]:=by unfold Zb;rw[List.filterMap_cons,if_neg (by rw[hh];simp)];rfl
    rw[e2 _ er,Q2];rfl
  case hend=>rintro Z ⟨x4,x5,x6,rfl⟩;rw[zj];exact KQ (KJ (Yy rfl rfl) rfl)
end
section
variable{cs:yd}{ls:L3}{ws:LO}{V:Int->Int->Int}{qs:LP}
theorem kB(g:Good cs ls)(hm:ws.length=ls.length):Vw [Kq cs ls,Kh ws]=O (.list ((Z7 cs ws++Z6 cs.length).map U4)):=by
 refine Zj (Z:=[pb (Kq cs ls),pb (Kh ws),w9,w9,w9]) w8 ?_;unfold Sr;have c6:=g.c6;have yN:Kn [.list (cs.map int)]=O (.int cs.length):=by rw[Zv,Qb]
 refine Km (KE (ZS (U0 (KI w8 U7 WM) U3) yN) (Qa w8) w8) ?_;refine Km (KE (Ky (U0 (UW w8) (U0 (UW w8) U3)) w8 (wQ g)) (Qa w8) w8) ?_;have yy:(Xw cs ws).length=cs.length:=by unfold Xw;rw[Qb,Qp]
 have hc:K4 (gT 2 (gNC (gN 5) (gNC (gN 6) (gN0)))) (Zl (oIB λi j=>decide (j<i)) 6 (U1 (.int 0))) (KM (UX (UT 5) (UX (UT 2) (UX (U1 (.int 0)) (UX (U1 .none) (UV)))))) (Yq 0 ((Xw cs ws).map int)) (Ks [pb (Kq cs ls),pb (Kh ws),pb (.int cs.length),pb (.list ((Xw cs ws).map int)),w9]++UF 2 w9) []=O ((Z7 cs ws).map U4):=by
  have em:(Z7 cs ws).map U4=((UE cs.length).map λt=>(if 0<cs.getD t 0-((ws.count (O (t:Int)):Nat):Int)then O (U4 ⟨t,cs.length,0,w9⟩)else none:ye)).filterMap id:=by
   unfold Z7;rw[List.map_filterMap,List.filterMap_map]
   congr 1
   funext i;dsimp only[Function.comp,id]
   split<;>rfl
  rw[em];refine MA (λZ=>∃x y,Z=[pb (Kq cs ls),pb (Kh ws),pb (.int cs.length),pb (.list ((Xw cs ws).map int)),w9,x,y]) _ _ _ _ (by rw[Qb,Qp,YH,Qb,yy]) ?_ ⟨w9,w9,rfl⟩ (by rw[YH,Qb,yy,QF];lia);rintro i d e hd he Z ⟨x,y,rfl⟩;obtain⟨z,hz,rfl⟩:=XE hd;rw[Qd]at hz
  have yx:i<cs.length:=by
   rw[←yy];cases hw:(Xw cs ws)[i]? with
   |none=>rw[hw]at hz;cases hz
   |some v=>exact(Qg.mp hw).1
  have hlv:(Xw cs ws)[i]?=O (cs.getD i 0-((ws.count (O (i:Int)):Nat):Int)):=by unfold Xw;rw[Qd,QO yx];rfl
  rw[hlv]at hz;cases hz;rw[Qd,QO yx]at he;cases he;rw[Q0];refine⟨_,Kz w8 (U8 (U2 (Qa w8) w8) (U8 (U2 (Qa w8) w8) KB)),?_,?_,_,_,rfl⟩
  .have e:(if 0<cs.getD i 0-((ws.count (O (i:Int)):Nat):Int)then O (U4 ⟨i,cs.length,0,w9⟩)else none:ye).isSome=decide (0<cs.getD i 0-((ws.count (O (i:Int)):Nat):Int)):=by
    by_cases h:0<cs.getD i 0-((ws.count (O (i:Int)):Nat):Int)
    .rw[Qo h,Q8 h];rfl
    .rw[QB h,QU h];rfl
   rw[e];exact Yb w8 U7 w8
  .intro v hv
   dsimp only at hv;split at hv
   .cases hv
    exact Xl (U0 (UW w8) (U0 (UW w8) (U0 U7 (U0 U7 U3)))) (Qa w8)
   .cases hv
 refine Km (Yo (Yc (XQ (U0 (UW w8) U3) XN) hc) (Qa w8) w8) ?_;have zk:(Yp 0 (cs.length:Int)).length=cs.length:=by rw[YI];lia
 have hc2:∀x4:Option Sl,K4 (gN 5) (U1 ya) (KM (UX (UT 2) (UX (UT 5) (UX (U1 (.int 0)) (UX (U1 .none) (UV)))))) (Yp 0 (cs.length:Int)) (Ks [pb (Kq cs ls),pb (Kh ws),pb (.int cs.length),pb (.list ((Xw cs ws).map int)),x4]++UF 1 w9) []=O ((Z6 cs.length).map U4):=λx4=>by refine XI (λZ=>∃z x,Z=[pb (Kq cs ls),pb (Kh ws),pb (.int cs.length),pb (.list ((Xw cs ws).map int)),z,x]) _ _ _ _ (by unfold Z6;rw[Qb,Qb,Qp,zk]) ?_ ⟨_,w9,rfl⟩ (by rw[zk,QF];lia);rintro i d e hd he Z ⟨z,x,rfl⟩;obtain⟨rfl,hlt⟩:=Wa hd;unfold Z6 at he;rw[Qd,Qd,QO (by lia)]at he;cases he;rw[Jy];exact⟨_,U2 (Qa w8) w8,rfl,Xl (U0 (UW w8) (U0 (UW w8) (U0 U7 (U0 U7 U3)))) (Qa w8),_,_,rfl⟩
 have h1:(Z7 cs ws).length<=cs.length:=by unfold Z7;have:=Jd (λt=>if 0<cs.getD t 0-((ws.count (O (t:Int)):Nat):Int)then O (⟨t,cs.length,0,w9⟩:Stp)else w9) (UE cs.length);rw[Qp]at this;exact this
 have h2:(Z6 cs.length).length=cs.length:=by unfold Z6;rw[Qb,Qp]
 refine KJ (Kd (Yy w8 w8) (KU (Yc (Xi (U0 (UW w8) U3) (Xg (by lia) (by lia))) (hc2 _))) (XF (by rw[Qb,Qb];lia))) ?_;rw[QA]
theorem MN(g:Good cs ls)(hm:ws.length=ls.length)(hp:Pairs cs.length ws.length qs)(hd:Zi cs qs ws.length ws)(hq1:qs.length<=1000):YC [Kq cs ls,.list (qs.map (Zk V)),Kh ws]=O (.list ((ZR cs (U5 V) qs ws).map U4)):=by
 refine Zj (Z:=[pb (Kq cs ls),pb (.list (qs.map (Zk V))),pb (Kh ws)]) w8 ?_;unfold Sq;have c6:=g.c6;have l7:=g.l7;have yN:Kn [.list (cs.map int)]=O (.int (cs.length:Nat)):=by rw[Zv,Qb]
 have h1:(Zq cs.length (U5 V) ws).length<=ws.length:=by unfold Zq;have:=Jd (λi=>match ws.getD i w9 with|none=>w9|some t=>O (⟨t.toNat,cs.length, -(Kl (U5 V) i (O t)),O i⟩:Stp)) (UE ws.length);rw[Qp]at this;exact this
 have h2:(Zb cs.length (U5 V) qs ws).length<=qs.length:=by unfold Zb;exact Jd _ _
 have h3:(Z7 cs ws).length<=cs.length:=by unfold Z7;have:=Jd (λt=>if 0<cs.getD t 0-((ws.count (O (t:Int)):Nat):Int)then O (⟨t,cs.length,0,w9⟩:Stp)else w9) (UE cs.length);rw[Qp]at this;exact this
 have h4:(Z6 cs.length).length=cs.length:=by unfold Z6;rw[Qb,Qp]
 refine KJ (Kd (Ky (U0 (ZS (U0 (KI w8 U7 WM) U3) yN) (U0 (UW w8) (U0 (UW w8) U3))) w8 (j7 hp hd (by lia) hq1)) (Ky (U0 (UW w8) (U0 (UW w8) U3)) w8 (kB g hm)) (XF (by rw[Qb,Qb,Qk,Qk];lia))) ?_;unfold ZR;rw[QA (l₁:=Zq cs.length (U5 V) ws++Zb cs.length (U5 V) qs ws)]
theorem kA{f:Int×Int->Int}:(ZR cs f qs ws).length<=ws.length+qs.length+2*cs.length:=by
 have h1:(Zq cs.length f ws).length<=ws.length:=by unfold Zq;have:=Jd (λi=>match ws.getD i w9 with|none=>w9|some t=>O (⟨t.toNat,cs.length, -(Kl f i (O t)),O i⟩:Stp)) (UE ws.length);rw[Qp]at this;exact this
 have h2:(Zb cs.length f qs ws).length<=qs.length:=by unfold Zb;exact Jd _ _
 have h3:(Z7 cs ws).length<=cs.length:=by unfold Z7;have:=Jd (λt=>if 0<cs.getD t 0-((ws.count (O (t:Int)):Nat):Int)then O (⟨t,cs.length,0,w9⟩:Stp)else w9) (UE cs.length);rw[Qp]at this;exact this
 have h4:(Z6 cs.length).length=cs.length:=by unfold Z6;rw[Qb,Qp]
 unfold ZR;rw[Qk,Qk,Qk]
 lia
theorem Xc{m:Nat}{f:Int×Int->Int}(hp:Pairs cs.length m qs)(hd:Zi cs qs m ws):∀s∈ZR cs f qs ws,IsSt cs f qs ws s:=λs hs=>by
 have gt:∀{i:Nat}{o:yi},i<ws.length->ws.getD i w9=o->ws[i]?=O o:=λ{i o} hi e=>by rw[Ql,Qe hi]at e;rw[Qe hi];exact Uh O e
 unfold ZR at hs;rcases QC.mp hs with hs|hs
 .rcases QC.mp hs with hs|hs
  .unfold Zq at hs
   obtain⟨i,hi,e⟩:=Jo.mp hs;have hi:=Q3.mp hi;cases hw:ws.getD i w9 with
   |none=>rw[hw]at e;cases e
   |some t=>
    rw[hw]at e;have e:=Q5 e;subst e;have:=IsSt.mv (cs:=cs) (f:=f) (qs:=qs) (gt hi hw) (o':=w9) (by intro z;cases z) (λt e=>by cases e);have e2:Kl f i w9-Kl f i (O t) = -(Kl f i (O t)):=by show 0-_=_;lia
    rw[e2]at this;exact this
  .unfold Zb at hs
   obtain⟨q,hq,e⟩:=Jo.mp hs;have hb:=hp.lo q hq;split at e
   .rename_i hne
    have e:=Q5 e;subst e;have hi:q.1.toNat<ws.length:=by rw[hd.len];lia
    have ei:((q.1.toNat:Nat):Int)=q.1:=by lia
    have:=IsSt.mv (cs:=cs) (f:=f) (qs:=qs) (gt hi w8) (o':=O q.2) (λz=>hne z.symm) (λt e=>by cases e;rw[ei];exact hq);have e2:Kl f q.1.toNat (O q.2)=f q:=by show f (((q.1.toNat:Nat):Int),q.2)=_;rw[ei]
    rw[e2]at this;exact this
   .cases e
 .rcases QC.mp hs with hs|hs
  .unfold Z7 at hs
   obtain⟨t,ht,e⟩:=Jo.mp hs;have ht:=Q3.mp ht;split at e
   .rename_i hl
    have e:=Q5 e;subst e;exact .left (c:=cs.getD t 0) (by rw[Ql,Qe ht];rfl) (by lia)
   .cases e
  .unfold Z6 at hs
   obtain⟨t,ht,rfl⟩:=Qt.mp hs;exact .give (Q3.mp ht)
theorem TD{m:Nat}{f:Int×Int->Int}(hp:Pairs cs.length m qs)(hd:Zi cs qs m ws):∀s,IsSt cs f qs ws s->s∈ZR cs f qs ws:=λs hs=>by
 unfold ZR;cases hs with
 |@mv i o o' h hne hq=>
  have hi:i<ws.length:=(Qg.mp h).1;have hg:=Mb h;refine QI _ ?_;cases o' with
  |none=>
   refine QI _ ?_;cases o with
   |none=>exact absurd w8 hne
   |some t=>unfold Zq;refine Jo.mpr ⟨i,Q3.mpr hi,?_⟩;rw[hg];show O (⟨t.toNat,cs.length, -(Kl f i (O t)),O i⟩:Stp)=O ⟨t.toNat,cs.length,0-Kl f i (O t),O i⟩;rw[show(0:Int)-Kl f i (O t) = -(Kl f i (O t))by lia]
  |some t=>refine QE _ ?_;have hqt:=hq t w8;have hb:=hp.lo _ hqt;unfold Zb;refine Jo.mpr ⟨((i:Int),t),hqt,?_⟩;dsimp only;rw[QM,hg,Qo (λz=>hne z.symm)];rfl
 |@left t c h hl=>
  refine QE _ (QI _ ?_);have ht:t<cs.length:=(Qg.mp h).1;unfold Z7;refine Jo.mpr ⟨t,Q3.mpr ht,?_⟩;have e:cs.getD t 0=c:=by rw[Ql,h];rfl
  rw[e,Qo (by lia)]
 |@give t h=>refine QE _ (QE _ ?_);unfold Z6;exact Qt.mpr ⟨t,Q3.mpr h,rfl⟩
end
theorem Hm{W:Tab}{p:Nat}(h:p<W.length):oIx (.list (W.map Ym)) (.int (p:Int))=O (Ym (ent W p)):=by refine Zz ?_;unfold ent;rw[Qd,Ql,Qe h];rfl
theorem kz{W:Tab}{S:List Stp}(hS:∀s∈S,s.a<W.length/\s.b<W.length)(hW:∀p,(ent W p).2.length<=1000)(hl:W.length<=1000):Vv [.list (W.map Ym),.list (S.map U4)]=O (.list ((Oc W S).map Ym)):=by
 refine Zj (Z:=[pb (.list (W.map Ym)),pb (.list (S.map U4)),w9,w9,w9,w9,w9,w9,w9,w9]) w8 ?_;unfold So;refine Km (Yo (N4 w8 (show VT [.list (W.map Ym)]=O (W.map Ym)from rfl)) (Qa w8) w8) ?_;apply K1;apply ZA (λk Z=>∃x3 x4 x5 x6 x7 x8 x9,Z=[pb (.list (W.map Ym)),pb (.list (S.map U4)),O (.own (((S.take k).foldl (YG W) W).map Ym)),x3,x4,x5,x6,x7,x8,x9])
 case h1=>exact ZB (UW w8) Z9
 case h0=>exact⟨_,_,_,_,_,_,_,rfl⟩
 case hst=>
  rintro k d Z hk ⟨x3,x4,x5,x6,x7,x8,x9,rfl⟩;rw[Qd]at hk;cases hq:S[k]? with
  |none=>rw[hq]at hk;cases hk
  |some s=>
  rw[hq]at hk;cases hk;have hs:=hS s (Qv hq);have yR:S.take (k+1)=S.take k++[s]:=by rw[JQ,hq];rfl
  have hfl:(S.take (k+1)).foldl (YG W) W=YG W ((S.take k).foldl (YG W) W) s:=by rw[yR,List.foldl_append];rfl
  have zD:∀(R:List Stp)(T:Tab),(R.foldl (YG W) T).length=T.length:=λR=>by
   induction R with
   |nil=>intro T;rfl
   |cons x R ih=>intro T;rw[Jx,ih,ka]
  generalize hT:(S.take k).foldl (YG W) W=T at hfl⊢;have zC:T.length=W.length:=by rw[←hT,zD]
  refine⟨_,U2 (Qa w8) w8,?_⟩;unfold Hd;refine Km (X8 (UW w8) (Kz w8 (U8 (U2 (Qa w8) w8) (U8 (U2 (Qa w8) w8) (U8 (U2 (Qa w8) w8) (U8 (U2 (Qa w8) w8) KB)))))) ?_;refine Km (X8 (KI w8 (UW w8) (Hm hs.1)) (Kz w8 (U8 (U2 (Qa w8) w8) (U8 (U2 (Qa w8) w8) KB)))) ?_;have i0:oIx (Ym (ent T s.b)) (.int 0)=O (.int (ent T s.b).1):=Zz (j:=0) w8;apply KR
  case h1=>exact Kd (Kd (UW w8) (UW w8) K7) (Kd (V4 w8 (UW w8) w8 (Hm (by rw[zC];exact hs.2))) U7 i0) w8
  case h2=>
   intro hh;have hh:(ent T s.b).1<(ent W s.a).1+s.g:=Qa hh;have hadd:U9 (.list ((ent W s.a).2.map U4)) (.list [U4 s])=O (.list (((ent W s.a).2++[s]).map U4)):=by rw[XF (by rw[Qb];have:=hW s.a;show _+1<=_;lia),QA];rfl
   refine ZQ (Ol (Xl (U0 (Kd (UW w8) (UW w8) K7) (U0 (Kd (UW w8) (ZK (U0 (UW w8) U3) (Qa w8)) hadd) U3)) (Qa w8)) w8 (UW w8) w8 ⟨Int.natCast_nonneg _,by rw[Qb,zC];have:=hs.2;lia⟩ w8) (K2 ⟨O (.pub (U4 s)),pb (.int s.a),pb (.int s.b),pb (.int s.g),pb (YO s.w),pb (.int (ent W s.a).1),pb (.list ((ent W s.a).2.map U4)),?_⟩);rw[hfl];unfold YG;rw[Qo hh,List.map_set];show [_,_,O (Sl.own ((T.map Ym).set ((s.b:Int)).toNat _)),_,_,_,_,_,_,_]=_;rw[QM];rfl
  case h3=>intro hh;have hh:¬(ent T s.b).1<(ent W s.a).1+s.g:=Jf hh;refine K5 (K2 ⟨O (.pub (U4 s)),pb (.int s.a),pb (.int s.b),pb (.int s.g),pb (YO s.w),pb (.int (ent W s.a).1),pb (.list ((ent W s.a).2.map U4)),?_⟩);rw[hfl];unfold YG;rw[QB hh];rfl
 case hend=>rintro Z ⟨x3,x4,x5,x6,x7,x8,x9,rfl⟩;refine KQ (KJ (Yy rfl rfl) ?_);rw[Qb,JB];rfl
theorem F2{n:Nat}{S:List Stp}(hS:∀s∈S,s.a<n/\s.b<n)(hn:n<=100):X2 [.int (n:Nat),.list (S.map U4)]=O (.list ((KP n S n).map Ym)):=by
 refine Zj (Z:=[pb (.int (n:Nat)),pb (.list (S.map U4)),w9,w9]) w8 ?_;unfold Sn;have hmul:Kv (.list [.tuple [.int 0,.list []]]) (.int (n:Nat))=O (.list ((KP n S 0).map Ym)):=by rw[Os (by lia)];unfold KP;rw[JP];rfl
 refine Km (KE (Kd (ZK (U0 (Xl (U0 U7 (U0 (ZK U3 (Qa w8)) U3)) (Qa w8)) U3) (Qa w8)) (UW w8) hmul) (Qa w8) w8) ?_;apply K1;apply ZA (λk Z=>k<=n/\∃x3,Z=[pb (.int (n:Nat)),pb (.list (S.map U4)),pb (.list ((KP n S k).map Ym)),x3])
 case h1=>exact Xi (U0 (UW w8) U3) (Xg (by lia) (by lia))
 case h0=>exact⟨JM _,_,rfl⟩
 case hst=>rintro k d Z hk ⟨_,x3,rfl⟩;obtain⟨rfl,hlt⟩:=Wa hk;refine⟨_,U2 (Qa w8) w8,?_⟩;unfold Hc;have hl:=RJ hS k;have hlo:=kz (W:=KP n S k) (S:=S) (by rw[hl];exact hS) (λp=>QJ ((Po hS k).1 p) (by lia)) (by rw[hl];lia);exact ZQ (KE (Ky (U0 (UW w8) (U0 (UW w8) U3)) w8 hlo) (Qa w8) w8) (K2 ⟨by lia,_,rfl⟩)
 case hend=>rintro Z ⟨_,x3,rfl⟩;refine KQ (KJ (UW rfl) ?_);rw[YI,show((n:Int)-0).toNat=n by lia]
theorem Co{xs:yc}{i j:Nat}(hij:i<=j)(hj:j<=xs.length):DL.cutD xs (O (i:Int)) (O (j:Int))=(xs.take j).drop i:=by unfold DL.cutD HT.sIx;dsimp only;rw[QB (by lia),QB (by lia),QM,QM,Nat.min_eq_left hj,Nat.min_eq_left (show i<=xs.length by lia),List.drop_take]
theorem wV{w:List Stp}(hl:w.length<=1000):∃d,Vu [.list (w.map U4)]=O d/\∃r,d=.list (r.map U4)/\((Nu w/\r=[]) ∨ ∃i j,Nv w i j/\r=(w.take (j+1)).drop i):=by
 refine WD (Z:=[pb (.list (w.map U4)),w9,w9,w9]) w8 ?_;unfold Sm;apply K1;apply ZA (λk Z=>(∃x1 x2 x3,Z=[pb (.list (w.map U4)),x1,x2,x3])/\∀j'<k,∀i' ≤ j',∀s t,w[i']?=O s->w[j']?=O t->s.a≠t.b)
 case h1=>exact XQ (U0 (UW w8) U3) XN
 case h0=>exact⟨⟨_,_,_,rfl⟩,λj' h=>absurd h (JG _)⟩
 case hst=>
  rintro k d Z hk ⟨⟨x1,x2,x3,rfl⟩,hb⟩;obtain⟨z,hz,rfl⟩:=XE hk;rw[Qd]at hz;cases ht:w[k]? with
  |none=>rw[ht]at hz;cases hz
  |some t=>
  rw[ht]at hz;cases hz;have yO:k<w.length:=(Qg.mp ht).1;rw[Q0];refine⟨_,Kz w8 (U8 (U2 (Qa w8) w8) (U8 (U2 (Qa w8) w8) KB)),?_⟩;unfold Ha;apply ZA (λl Z=>(∃x3,Z=[pb (.list (w.map U4)),pb (.int (k:Nat)),pb (U4 t),x3])/\∀i'<l,∀s,w[i']?=O s->s.a≠t.b)
  case h1=>exact Xi (U0 (Kd (UW w8) U7 K7) U3) (Xg (by lia) (by lia))
  case h0=>exact⟨⟨_,rfl⟩,λi' h=>absurd h (JG _)⟩
  case hst=>
   rintro l d Z hl2 ⟨⟨x3,rfl⟩,hc⟩;obtain⟨rfl,hlt⟩:=Wa hl2;have hlk:l<=k:=by lia
   obtain⟨s,hs⟩:∃s,w[l]?=O s:=⟨_,Qe (by lia)⟩
   refine⟨_,U2 (Qa w8) w8,?_⟩;have zl:(0:Int)+(l:Int)=l:=by lia
   rw[zl];unfold Hb;have il:oIx (.list (w.map U4)) (.int (l:Int))=O (U4 s):=Zz (by rw[Qd,hs];rfl);have i0:oIx (U4 s) (.int 0)=O (.int s.a):=Zz (j:=0) w8;have i1:oIx (U4 t) (.int 1)=O (.int t.b):=Zz (j:=1) w8;apply KR
   case h1=>exact Kd (Kd (KI w8 (UW w8) il) U7 i0) (KI w8 U7 i1) XG
   case h2=>
    intro hh;have hh:(s.a:Int)=(t.b:Int):=Qa hh;have yH:Y5 (.list (w.map U4)) (O (l:Int)) (O ((k:Int)+1))=O (.list (((w.take (k+1)).drop l).map U4)):=by rw[Tc,show((k:Int)+1)=((k+1:Nat):Int)by lia,Co (by lia) (by rw[Qb];lia),List.map_drop,List.map_take]
    refine KJ (V3 (UW w8) (XH (UW w8)) (XH (Kd (UW w8) U7 K7)) yH) (Pl (Pl (TH ⟨_,rfl,_,rfl,.inr ⟨l,k,⟨hlk,yO,λs' t' e1 e2=>?_,hb⟩,rfl⟩⟩)));rw[hs]at e1;rw[ht]at e2;cases e1;cases e2
    lia
   case h3=>
    intro hh;have hh:¬(s.a:Int)=(t.b:Int):=Jf hh;refine K5 (K2 ⟨⟨_,rfl⟩,λi' hi' s' e=>?_⟩);rcases JY.mp hi' with hi'|rfl
    .exact hc i' hi' s' e
    .rw[hs]at e;cases e;lia
  case hend=>
   rintro Z ⟨⟨x3,rfl⟩,hc⟩;refine K2 ⟨⟨_,_,_,rfl⟩,λj' hj' i' hi' s' t' e1 e2=>?_⟩;rcases JY.mp hj' with hj'|rfl
   .exact hb j' hj' i' hi' s' t' e1 e2
   .rw[ht]at e2
    cases e2;exact hc i' (by rw[YI];lia) s' e1
 case hend=>rintro Z ⟨⟨x1,x2,x3,rfl⟩,hb⟩;refine KQ (KJ (ZK U3 (Qa rfl)) ⟨_,rfl,[],rfl,.inl ⟨λj hj=>hb j (by rw[YH,Qb];exact hj),rfl⟩⟩)
noncomputable def Xz(n:Nat)(s:Stp):Option (Nat×yi):=s.w.map λi=>(i,ZZ n s.b)
noncomputable def Ye(p:Nat×yi):D:=.tuple [.int (p.1:Nat),Ke p.2]
noncomputable def rot(b:Nat)(r:List Stp):List Stp:=r.drop b++r.take b
theorem Rt(b:Nat)(r:List Stp):(rot b r).Perm r:=by unfold rot;have:=Uc (l₁:=r.drop b) (l₂:=r.take b);rw[Ue]at this;exact this
theorem EG{n:Nat}{r:List Stp}(hl:r.length<=1000):∃b,b<=r.length/\((∃s,r[b]?=O s/\s.a=n)∨(b=0/\∀s∈r,s.a≠n))/\Xu [.int (n:Nat),.list (r.map U4)]=O (.list (((rot b r).filterMap (Xz n)).map Ye)):=by
 have key:∃d,Xu [.int (n:Nat),.list (r.map U4)]=O d/\∃b,b<=r.length/\((∃s,r[b]?=O s/\s.a=n)∨(b=0/\∀s∈r,s.a≠n))/\d=.list (((rot b r).filterMap (Xz n)).map Ye):=by
  refine WD (Z:=[pb (.int (n:Nat)),pb (.list (r.map U4)),w9,w9,w9,w9,w9,w9,w9,w9]) w8 ?_;unfold Sk;refine Km (KE U7 (Qa w8) w8) ?_;apply K1;apply ZA (λk Z=>∃(b:Nat)(x3 x4:Option Sl),Z=[pb (.int (n:Nat)),pb (.list (r.map U4)),pb (.int (b:Nat)),x3,x4,w9,w9,w9,w9,w9]/\b<=r.length/\((∃s,r[b]?=O s/\s.a=n)∨(b=0/\∀s∈r.take k,s.a≠n)))
  case h1=>exact XQ (U0 (UW w8) U3) XN
  case h0=>exact⟨0,_,_,rfl,JM _,.inr ⟨rfl,λs h=>by rw[JZ]at h;cases h⟩⟩
  case hst=>
   rintro k d Z hk ⟨b,x3,x4,rfl,zn,hb⟩;obtain⟨z,hz,rfl⟩:=XE hk;rw[Qd]at hz;cases ht:r[k]? with
   |none=>rw[ht]at hz;cases hz
   |some t=>
   rw[ht]at hz;cases hz;have yO:k<r.length:=(Qg.mp ht).1;rw[Q0];refine⟨_,Kz w8 (U8 (U2 (Qa w8) w8) (U8 (U2 (Qa w8) w8) KB)),?_⟩;unfold HR;have i0:oIx (U4 t) (.int 0)=O (.int t.a):=Zz (j:=0) w8;apply KR
   case h1=>exact Kd (KI w8 U7 i0) (UW w8) XG
   case h2=>intro hh;have hh:(t.a:Int)=(n:Int):=Qa hh;exact ZQ (KE (UW w8) (Qa w8) w8) (K2 ⟨k,_,_,rfl,by lia,.inl ⟨t,ht,by lia⟩⟩)
   case h3=>
    intro hh;have hh:¬(t.a:Int)=(n:Int):=Jf hh;refine K5 (K2 ⟨b,_,_,rfl,zn,?_⟩);rcases hb with hb|⟨hb,hc⟩
    .exact .inl hb
    .refine .inr ⟨hb,λs hs=>?_⟩
     rw[JQ,ht]at hs;rcases QC.mp hs with hs|hs
     .exact hc s hs
     .rw[Qq.mp hs];lia
  case hend=>
   rintro Z ⟨b,x3,x4,rfl,zn,hb⟩;refine KQ ?_;have hb':(∃s,r[b]?=O s/\s.a=n)∨(b=0/\∀s∈r,s.a≠n):=by rw[YH,Qb,JB]at hb;exact hb
   refine Km (Yo (Wl U3 (Qa w8)) (Qa w8) w8) ?_;have c1:Y5 (.list (r.map U4)) (O (b:Int)) w9=O (.list ((r.drop b).map U4)):=by rw[Tc,qX (by rw[Qb];exact zn),List.map_drop]
   have c2:Y5 (.list (r.map U4)) w9 (O (b:Int))=O (.list ((r.take b).map U4)):=by rw[Tc,Cz (by rw[Qb];exact zn),List.map_take]
   have c3:U9 (.list ((r.drop b).map U4)) (.list ((r.take b).map U4))=O (.list ((rot b r).map U4)):=by rw[XF (by rw[Qb,Qb,Jm,QZ];lia)];unfold rot;rw[QA]
   apply K1;apply ZA (λk Z=>∃x6 x7 x8 x9,Z=[pb (.int (n:Nat)),pb (.list (r.map U4)),pb (.int (b:Nat)),x3,x4,O (.own ((((rot b r).take k).filterMap (Xz n)).map Ye)),x6,x7,x8,x9])
   case h1=>exact ZB (Kd (V3 (UW w8) (XH (UW w8)) U7 c1) (V3 (UW w8) U7 (XH (UW w8)) c2) c3) Z9
   case h0=>exact⟨_,_,_,_,rfl⟩
   case hst=>
    rintro k d Z hk ⟨x6,x7,x8,x9,rfl⟩;rw[Qd]at hk;cases hq:(rot b r)[k]? with
    |none=>rw[hq]at hk;cases hk
    |some s=>
    rw[hq]at hk;cases hk;have yO:k<(rot b r).length:=(Qg.mp hq).1;have zk:(rot b r).length=r.length:=(Rt b r).length_eq;have yR:(rot b r).take (k+1)=(rot b r).take k++[s]:=by rw[JQ,hq];rfl
    refine⟨_,Kz w8 (U8 (U2 (Qa w8) w8) (U8 (U2 (Qa w8) w8) (U8 (U2 (Qa w8) w8) (U8 (U2 (Qa w8) w8) KB)))),?_⟩;unfold HS
    have hsz:((((rot b r).take k).filterMap (Xz n)).map Ye).length<1000000:=by
     rw[Qb];have:=Jd (Xz n) ((rot b r).take k);rw[QZ]at this
     lia
    cases hw:s.w with
    |none=>
     apply KR
     case h1=>exact KU (k:=λd=>!isNon d) (x:=YO w9) (UW w8)
     case h2=>intro hh;cases hh
     case h3=>
      intro _;refine K5 (K2 ⟨O (.pub (.int s.a)),pb (.int s.b),pb (.int s.g),pb (YO w9),?_⟩);rw[yR,Ud];have:[s].filterMap (Xz n)=[]:=by unfold Xz;rw[JD,hw];rfl
      rw[this,Q2];rfl
    |some i=>
     apply KR
     case h1=>exact KU (k:=λd=>!isNon d) (x:=YO (O i)) (UW w8)
     case h3=>intro hh;cases hh
     case h2=>
      intro _
      have htest:∀Z:UU,Z[7]?=O (O (.pub (.int (s.b:Int))))->Z[0]?=O (O (.pub (.int (n:Int))))->mIf (Zl oEq 7 (UT 0)) (U1 .none) (UT 7) Z=.ok (Ke (ZZ n s.b)) Z:=λZ h7 h0=>by
       unfold ZZ;by_cases z:s.b=n
       .rw[Qo z]
        exact Lr (Yb h7 (UW h0) (by rw[XG,Q8 (by rw[z])])) U7
       .rw[QB z]
        exact Ni (Yb h7 (UW h0) (by rw[XG,QU (by lia)])) (UW h7)
      refine ZQ (X9 w8 (Xl (U0 (UW w8) (U0 (htest _ w8 w8) U3)) (Qa w8)) w8 hsz w8) (K2 ⟨O (.pub (.int s.a)),pb (.int s.b),pb (.int s.g),pb (YO (O i)),?_⟩);rw[yR,Ud];have:[s].filterMap (Xz n)=[(i,ZZ n s.b)]:=by unfold Xz;rw[JD,hw];rfl
      rw[this,QA];rfl
   case hend=>rintro Z ⟨x6,x7,x8,x9,rfl⟩;refine KQ (KJ (Yy rfl rfl) ⟨_,rfl,b,zn,hb',?_⟩);rw[Qb,JB]
 obtain⟨d,e,b,h1,h2,rfl⟩:=key;exact⟨b,h1,h2,e⟩
theorem ON(n:Nat):∀(R:List Stp)(d:LO),(R.filterMap (Xz n)).foldl (λd p=>d.set p.1 p.2) d=R.foldl (app n) d
 |[],d=>rfl
 |s::R,d=>by
  rw[Jx,JD];unfold Xz app;cases s.w with
  |none=>exact ON n R d
  |some i=>exact ON n R (d.set i (ZZ n s.b))
theorem F1{ws:LO}{tk:List (Nat×yi)}(h:∀p∈tk,p.1<ws.length):X3 [Kh ws,.list (tk.map Ye)]=O (Kh (tk.foldl (λd p=>d.set p.1 p.2) ws)):=by
 refine Zj (Z:=[pb (Kh ws),pb (.list (tk.map Ye)),w9,w9,w9]) w8 ?_;unfold Sv;refine Km (Yo (N4 w8 (show VT [Kh ws]=O (ws.map Ke)from rfl)) (Qa w8) w8) ?_
 have hlen:∀(R:List (Nat×yi))(d:LO),(R.foldl (λd p=>d.set p.1 p.2) d).length=d.length:=λR=>by
  induction R with
  |nil=>intro d;rfl
  |cons p R ih=>intro d;rw[Jx,ih,Jc]
 apply K1;apply ZA (λk Z=>∃x3 x4,Z=[pb (Kh ws),pb (.list (tk.map Ye)),O (.own (((tk.take k).foldl (λd p=>d.set p.1 p.2) ws).map Ke)),x3,x4])
 case h1=>exact ZB (UW w8) Z9
 case h0=>exact⟨_,_,rfl⟩
 case hst=>
  rintro k d Z hk ⟨x3,x4,rfl⟩;rw[Qd]at hk;cases hq:tk[k]? with
  |none=>rw[hq]at hk;cases hk
  |some p=>
  rw[hq]at hk;cases hk;have hpl:=h p (Qv hq);have yR:tk.take (k+1)=tk.take k++[p]:=by rw[JQ,hq];rfl
  refine⟨_,Kz w8 (U8 (U2 (Qa w8) w8) (U8 (U2 (Qa w8) w8) KB)),?_⟩;unfold HQ;refine ZQ (Ol (UW w8) w8 (UW w8) w8 ⟨Int.natCast_nonneg _,by rw[Qb,hlen];lia⟩ w8) (K2 ⟨O (.pub (.int (p.1:Nat))),pb (Ke p.2),?_⟩);rw[yR,List.foldl_append];show [_,_,O (Sl.own ((((tk.take k).foldl (λd p=>d.set p.1 p.2) ws).map Ke).set ((p.1:Int)).toNat (Ke p.2))),_,_]=[_,_,O (Sl.own ((((tk.take k).foldl (λd p=>d.set p.1 p.2) ws).set p.1 p.2).map Ke)),_,_];rw[QM,List.map_set]
 case hend=>rintro Z ⟨x3,x4,rfl⟩;refine KQ (KJ (Yy rfl rfl) ?_);rw[Qb,JB];rfl
def Tr(cs:yd)(f:Int×Int->Int)(qs:LP)(ws:LO):Prop:=∀p,p<cs.length+1->(ent (KP (cs.length+1) (ZR cs f qs ws) (cs.length+1)) p).2.length≠cs.length+1
structure PD(cs:yd)(f:Int×Int->Int)(qs:LP)(ws:LO)(r:List Stp)(b:Nat):Prop where
 rnd:∃x,Path (ZR cs f qs ws) x r x
 nd:(r.map Stp.a).Nodup
 pos:0<Ku r
 bl:b<=r.length
 bat:(∃s,r[b]?=O s/\s.a=cs.length)∨(b=0/\∀s∈r,s.a≠cs.length)
noncomputable def Yd(n b:Nat)(r:List Stp):List (Nat×yi):=(rot b r).filterMap (Xz n)
theorem TC(s:Stp)(R:List Stp):Ku (s::R)=s.g+Ku R:=by show Ku ([s]++R)=_;rw[WU,Ru]
theorem F0{u v:List Stp}(h:u.Perm v):Ku u=Ku v:=by
 induction h with
 |nil=>rfl
 |cons x _ ih=>rw[TC,TC,ih]
 |swap x y l=>rw[TC,TC,TC,TC];lia
 |trans _ _ ih1 zV=>rw[ih1,zV]
theorem kx{R:List Stp}(h:∀s∈R,s.g=0):Ku R=0:=by
 induction R with
 |nil=>rfl
 |cons s R ih=>
  have e:Ku (s::R)=s.g+Ku R:=by show Ku ([s]++R)=_;rw[WU,Ru]
  rw[e,h s Qi,ih λx hx=>h x (Qh _ hx)];rfl
section
variable{cs:yd}{ls:L3}{ws:LO}{V:Int->Int->Int}{qs:LP}{f:Int×Int->Int}{m:Nat}
theorem PD.does(hp:Pairs cs.length m qs)(hd:Zi cs qs m ws){r:List Stp}{b:Nat}(h:PD cs f qs ws r b):Zi cs qs m ((Yd cs.length b r).foldl (λd p=>d.set p.1 p.2) ws)/\Kg f 0 ((Yd cs.length b r).foldl (λd p=>d.set p.1 p.2) ws)=Kg f 0 ws+Ku r/\Yd cs.length b r≠[]/\∀p∈Yd cs.length b r,p.1<ws.length:=by
 obtain⟨x,hx⟩:=h.rnd;have hin:∀s∈r,IsSt cs f qs ws s:=λs hs=>Xc hp hd s (hx.mem s hs);have pr:=Rt b r;have ay:∀s∈rot b r,IsSt cs f qs ws s:=λs hs=>hin s (pr.mem_iff.mp hs);have ndR:((rot b r).map Stp.a).Nodup:=(pr.map Stp.a).nodup_iff.mpr h.nd;have pbR:((rot b r).map Stp.b).Perm ((rot b r).map Stp.a):=((pr.map Stp.b).trans (Mq hx)).trans (pr.map Stp.a).symm
 obtain⟨h1,h2⟩:=Fc hp hd ay ndR pbR;unfold Yd;rw[ON];refine⟨h1,by rw[h2,F0 pr],λz=>?_,λp zI=>?_⟩
 .have:Ku r=0:=kx λs hs=>by
   have hw:Xz cs.length s=w9:=by have:=List.filterMap_eq_nil_iff.mp z s (pr.mem_iff.mpr hs);exact this
   cases hin s hs with
   |mv _ _ _=>cases hw
   |left _ _=>rfl
   |give _=>rfl
  have:=h.pos
  lia
 .obtain⟨s,hs,e⟩:=Jo.mp zI
  cases ay s hs with
  |@mv i o o' hw _ _=>cases e;exact(Qg.mp hw).1
  |left _ _=>cases e
  |give _=>cases e
theorem En(g:Good cs ls)(hm:ws.length=ls.length)(hp:Pairs cs.length ws.length qs)(hd:Zi cs qs ws.length ws)(hq1:qs.length<=500):∃d,Wu [Kq cs ls,.list (qs.map (Zk V)),Kh ws]=O d/\((d=.list []/\Tr cs (U5 V) qs ws) ∨ ∃r b,d=.list ((Yd cs.length b r).map Ye)/\PD cs (U5 V) qs ws r b):=by
 refine WD (Z:=[pb (Kq cs ls),pb (.list (qs.map (Zk V))),pb (Kh ws),w9,w9,w9]) w8 ?_;unfold Sj;have c6:=g.c6;have l7:=g.l7;have yN:Kn [.list (cs.map int)]=O (.int cs.length):=by rw[Zv,Qb]
 have hS:∀s∈ZR cs (U5 V) qs ws,s.a<cs.length+1/\s.b<cs.length+1:=λs hs=>(Xc hp hd s hs).lt hp hd;have hwd:=F2 hS (by lia)
 have zG:=MN (V:=V) g hm hp hd (by lia);refine Km (KE (ZS (U0 (KI w8 U7 WM) U3) yN) (Qa w8) w8) ?_;have hadd:U9 (.int (cs.length:Int)) (.int 1)=O (.int ((cs.length+1:Nat):Int)):=by rw[K7];rfl
 apply K1;apply ZA (λk Z=>(∃x4 x5,Z=[pb (Kq cs ls),pb (.list (qs.map (Zk V))),pb (Kh ws),pb (.int cs.length),x4,x5])/\∀p<k,(ent (KP (cs.length+1) (ZR cs (U5 V) qs ws) (cs.length+1)) p).2.length≠cs.length+1)
 case h1=>exact ZB (Ky (U0 (Kd (UW w8) U7 hadd) (U0 (Ky (U0 (UW w8) (U0 (UW w8) (U0 (UW w8) U3))) w8 zG) U3)) w8 hwd) Z9
 case h0=>exact⟨⟨_,_,rfl⟩,λp h=>absurd h (JG _)⟩
 case hst=>
  rintro k d Z hk ⟨⟨x4,x5,rfl⟩,hb⟩;rw[Qd]at hk;cases hq:(KP (cs.length+1) (ZR cs (U5 V) qs ws) (cs.length+1))[k]? with
  |none=>rw[hq]at hk;cases hk
  |some e=>
  rw[hq]at hk;cases hk;have he:ent (KP (cs.length+1) (ZR cs (U5 V) qs ws) (cs.length+1)) k=e:=by unfold ent;rw[Ql,hq];rfl
  refine⟨_,Kz w8 (U8 (U2 (Qa w8) w8) (U8 (U2 (Qa w8) w8) KB)),?_⟩;unfold L9;have aq:Kn [.list (e.2.map U4)]=O (.int e.2.length):=by rw[Zv,Qb]
  apply KR
  case h1=>exact Kd (ZX w8 aq) (Kd (UW w8) U7 hadd) XG
  case h2=>
   intro hh;have hh:((e.2.length:Nat):Int)=((cs.length+1:Nat):Int):=Qa hh;have hlen:e.2.length=cs.length+1:=by lia
   obtain⟨d,hrw,r,rfl,hr⟩:=wV (w:=e.2) (by lia);have aj:=RD hS (cs.length+1) k;rw[he]at aj;obtain⟨q,yI⟩:=aj.1.path;rcases hr with ⟨hno,rfl⟩|⟨i,j,hra,rfl⟩
   .exact absurd hno (Fe hS yI (by lia) (JL _))
   .have hlr:((e.2.take (j+1)).drop i).length<=1000:=by rw[Jm,QZ];lia
    obtain⟨b,zn,aF,zF⟩:=EG (n:=cs.length) hlr;have hrg:=vP hS (JL _) (p:=k) (by rw[he];exact hlen) (by rw[he];exact hra);rw[he]at hrg;obtain⟨x,hx,hgp⟩:=hrg;exact KJ (Ky (U0 (UW w8) (U0 (Ky (U0 (UW w8) U3) w8 hrw) U3)) w8 zF) (Pl (TH ⟨_,rfl,.inr ⟨_,b,rfl,⟨⟨x,hx⟩,vW yI hra,hgp,zn,aF⟩⟩⟩))
  case h3=>
   intro hh;have hh:¬((e.2.length:Nat):Int)=((cs.length+1:Nat):Int):=Jf hh;refine K5 (K2 ⟨⟨_,_,rfl⟩,λp ap=>?_⟩);rcases JY.mp ap with ap|rfl
   .exact hb p ap
   .rw[he];lia
 case hend=>rintro Z ⟨⟨x4,x5,rfl⟩,hb⟩;refine KQ (KJ (ZK U3 (Qa rfl)) ⟨_,rfl,.inl ⟨rfl,λp hpn=>hb p ?_⟩⟩);rw[Qb,RJ hS];exact hpn
theorem Hl{M:Int}(zo:0<=M)(hM:∀q∈qs,f q<=M):∀(ws:LO)(k:Nat),(∀(i:Nat) t,ws[i]?=O (O t)->(((k+i:Nat):Int),t)∈qs)->Kg f k ws<=ws.length*M
 |[],k,_=>by show(0:Int)<=((0:Nat):Int)*M;rw[show(((0:Nat)):Int)=0 from rfl,Int.zero_mul];exact Q6 _
 |o::ws,k,h=>by
  have ih:=Hl zo hM ws (k+1) λi t e=>by have:=h (i+1) t (by simpa using e);rw[show k+1+i=k+(i+1)by lia];exact this
  have h0:Kl f k o<=M:=by
   cases o with
   |none=>exact zo
   |some t=>exact hM _ (by have:=h 0 t w8;rw[Nat.add_zero]at this;exact this)
  rw[Qz];show Kl f k o+Kg f (k+1) ws<=_;rw[show(((ws.length+1:Nat)):Int)=(ws.length:Int)+1 by lia,Int.add_mul,Int.one_mul]
  lia
theorem FZ(g:Good cs ls)(hm:m=ls.length)(hp:Pairs cs.length m qs)(hq1:qs.length<=500){M:Int}(zo:0<=M)(hM:∀q∈qs,U5 V q<=M):∀(N:Nat)(ws:LO)(d:D),Zi cs qs m ws->((d=.list []/\Tr cs (U5 V) qs ws) ∨ ∃r b,d=.list ((Yd cs.length b r).map Ye)/\PD cs (U5 V) qs ws r b) ->
  (m*M-Kg (U5 V) 0 ws<N)->∃y0,Zi cs qs m y0/\Tr cs (U5 V) qs y0/\XA (Pe (UT 3)) Og N [pb (Kq cs ls),pb (.list (qs.map (Zk V))),pb (Kh ws),pb d]=.nx [pb (Kq cs ls),pb (.list (qs.map (Zk V))),pb (Kh y0),pb (.list [])]
 |0,ws,d,hd,_,hN=>by have:=Hl zo hM ws 0 (λi t e=>by rw[Q0];exact hd.wish i t e);rw[hd.len]at this;exact absurd hN (by lia)
 |N+1,ws,d,hd,hg,hN=>by
  rcases hg with ⟨rfl,hst⟩|⟨r,b,rfl,hgr⟩
  .refine⟨ws,hd,hst,?_⟩
   unfold XA;rw[FR (ds:=[]) (UW w8)];rfl
  .obtain⟨h1,h2,h3,h4⟩:=hgr.does hp hd
   generalize hws':(Yd cs.length b r).foldl (λd p=>d.set p.1 p.2) ws=y0 at h1 h2;have yE:=F1 h4;rw[hws']at yE;obtain⟨d',hgw,az⟩:=En (V:=V) (ws:=y0) g (by rw[h1.len,hm]) (by rw[h1.len];exact hp) (by rw[h1.len];exact h1) hq1;obtain⟨ws2,k1,k2,k3⟩:=FZ g hm hp hq1 zo hM N y0 d' h1 az (by have:=hgr.pos;lia);refine⟨ws2,k1,k2,?_⟩;unfold XA;rw[FR (ds:=(Yd cs.length b r).map Ye) (UW w8)]
   have hne:(!((Yd cs.length b r).map Ye).isEmpty)=ya:=by
    cases hw:Yd cs.length b r with
    |nil=>exact absurd hw h3
    |cons _ _=>rfl
   dsimp only;rw[Qo hne];have hb:Ho Og [pb (Kq cs ls),pb (.list (qs.map (Zk V))),pb (Kh ws),pb (.list ((Yd cs.length b r).map Ye))] (λo=>o=.nx [pb (Kq cs ls),pb (.list (qs.map (Zk V))),pb (Kh y0),pb d']):=by unfold Og;refine Km (KE (Ky (U0 (UW w8) (U0 (UW w8) U3)) w8 yE) (Qa w8) w8) ?_;exact ZQ (KE (Ky (U0 (UW w8) (U0 (UW w8) (U0 (UW w8) U3))) w8 hgw) (Qa w8) w8) w8
   rw[hb.out];exact k3
theorem vO(g:Good cs ls)(hp:Pairs cs.length ls.length qs)(hq1:qs.length<=500){M:Int}(zo:0<=M)(hM:∀q∈qs,U5 V q<=M)(hF:ls.length*M<10 ^ 60):∃d,Vt [Kq cs ls,.list (qs.map (Zk V))]=O d/\∃ws,d=Kh ws/\Zi cs qs ls.length ws/\Tr cs (U5 V) qs ws:=by
 refine WD (Z:=[pb (Kq cs ls),pb (.list (qs.map (Zk V))),w9,w9]) w8 ?_;unfold Sg;have l7:=g.l7;have yy:Kn [.list (ls.map K0)]=O (.int (ls.length:Nat)):=by rw[Zv,Qb]
 let ws0:LO:=UF ls.length w9
 have hmul:Kv (.list [.none]) (.int (ls.length:Nat))=O (Kh ws0):=by rw[Os (by lia)];show _=O (UG ((UF ls.length w9).map Ke));rw[JP];rfl
 have hd0:Zi cs qs ls.length ws0:=⟨by show(UF _ _).length=_;rw[QH],(λi t h=>by
  have h:(UF ls.length (none:yi))[i]?=O (O t):=h;rw[QD]at h;split at h
  .cases h
  .cases h),λk c e=>by
  have h0:ws0.count (O (k:Int))=0:=List.count_eq_zero.mpr λh=>by cases (J8.mp h).2
  rw[h0];have:=g.c7 c (Qv e)
  show(0:Int)<=c
  lia⟩
 refine Km (KE (Kd (ZK (U0 U7 U3) (Qa w8)) (ZS (U0 (KI w8 U7 WB) U3) yy) hmul) (Qa w8) w8) ?_;obtain⟨d',hgw,az⟩:=En (V:=V) (ws:=ws0) g hd0.len (by rw[hd0.len];exact hp) (by rw[hd0.len];exact hd0) hq1;refine Km (KE (Ky (U0 (UW w8) (U0 (UW w8) (U0 (UW w8) U3))) w8 hgw) (Qa w8) w8) ?_
 have h0:∀(n k:Nat),Kg (U5 V) k (UF n w9)=0:=λn=>by
  induction n with
  |zero=>intro k;rfl
  |succ n ih=>intro k;rw[Jb];show 0+Kg (U5 V) (k+1) (UF n w9)=0;rw[ih];rfl
 have hfu:ls.length*M-Kg (U5 V) 0 ws0<(Wy:Nat):=by
  have e:Kg (U5 V) 0 ws0=0:=h0 _ _;have e2:((Wy:Nat):Int)=10 ^ 60:=by unfold Wy;rfl
  rw[e,e2]
  lia
 obtain⟨y0,k1,k2,k3⟩:=FZ g w8 hp hq1 zo hM Wy ws0 d' hd0 az hfu;refine Km k3 ?_;exact KJ (UW w8) ⟨_,rfl,y0,rfl,k1,k2⟩
end
section
variable{cs:yd}{ls:L3}{as ps:yd}
theorem Ay(g:Good cs ls):(Kr 0 ls).length<=42:=by rw[(Pt ls 0).length_eq];exact Oq g
end
section
variable{cs:yd}{ls:L3}
def RN(cs:yd)(ls:L3)(j:Nat)(d:D):Prop:=∃ws:LO,d=Kh ws/\ws.length=j/\(∀(i:Nat) t rs,ws[i]?=O (O t)->ls[i]?=O rs->t∈rs.flatten)/\∀(k:Nat) c,cs[k]?=O c->((ws.count (O (k:Int)):Nat):Int)<=c
theorem FY{ws:LO}{o:yi}{rs:List yd}(hi:ls[ws.length]?=O rs)(h1:∀(i:Nat) t rs,ws[i]?=O (O t)->ls[i]?=O rs->t∈rs.flatten)(h2:∀(k:Nat) c,cs[k]?=O c->((ws.count (O (k:Int)):Nat):Int)<=c)(ho:∀t,o=O t->t∈rs.flatten)(hc:∀(k:Nat) c,o=O (k:Int)->cs[k]?=O c->((ws.count (O (k:Int)):Nat):Int)<c):RN cs ls (ws.length+1) (.list (ws.map Ke++[Ke o])):=by
 refine⟨ws++[o],by unfold Kh;rw[QA];rfl,by rw[Qk];rfl,kj h1 hi ho,λk c e=>?_⟩;rw[List.count_append,List.count_singleton];split
 .rename_i z
  have:=hc k c (by simpa using z) e
  lia
 .have:=h2 k c e
  lia
end
section
variable{cs:yd}{ls:L3}
theorem Ma:∀{a b:LO},a.map Ke=b.map Ke->a=b
 |[],[],_=>rfl
 |[],_::_,h=>by cases h
 |_::_,[],h=>by cases h
 |x::a,y::b,h=>by
  rw[Qs,Qs,List.cons.injEq]at h;rw[Ma h.2];cases x with
  |none=>cases y with
   |none=>rfl
   |some _=>cases h.1
  |some _=>cases y with
   |none=>cases h.1
   |some _=>cases h.1;rfl
abbrev RM(cs:yd)(ls:L3)(j:Nat)(ws:LO):Prop:=ws.length=j/\(∀(i:Nat) t rs,ws[i]?=O (O t)->ls[i]?=O rs->t∈rs.flatten)/\∀(k:Nat) c,cs[k]?=O c->((ws.count (O (k:Int)):Nat):Int)<=c
abbrev Li(cs:yd)(ls:L3)(j:Nat)(ds:yc)(a:Nat)(es:yc):Prop:=∀a'<a,∀ws,ds[a']?=O (Kh ws)->∀o,RM cs ls (j+1) (ws++[o])->Kh (ws++[o])∈es
abbrev Dt(cs:yd)(ls:L3)(j:Nat)(Z:UU):Prop:=∃(s1 x2 x3 x4 x5:Option Sl)(ds:yc),Z=[pb (Kq cs ls),s1,x2,x3,x4,x5]/\(s1=O (.pub (.list ds))∨s1=O (.own ds))/\ds.length<=4 ^ j/\(∀d∈ds,RN cs ls j d)/\∀ws,RM cs ls j ws->Kh ws∈ds
abbrev MW(cs:yd)(ls:L3)(j:Nat)(ds:yc)(a:Nat)(Z:UU):Prop:=∃(es:yc)(y4 y5:Option Sl),Z=[pb (Kq cs ls),pb (.list ds),pb (.int j),O (.own es),y4,y5]/\es.length<=4*a/\(∀d∈es,RN cs ls (j+1) d)/\Li cs ls j ds a es
abbrev MV(cs:yd)(ls:L3)(j:Nat)(ds:yc)(ws th:LO)(a b:Nat)(Z:UU):Prop:=∃(es:yc)(y5:Option Sl),Z=[pb (Kq cs ls),pb (.list ds),pb (.int j),O (.own es),pb (Kh ws),y5]/\es.length<=4*a+b/\(∀d∈es,RN cs ls (j+1) d)/\Li cs ls j ds a es/\∀b'<b,∀u,th[b']?=O u->RM cs ls (j+1) (ws++[u])->Kh (ws++[u])∈es
theorem ku{ws:LO}{o:yi}{j:Nat}(h:RM cs ls (j+1) (ws++[o])):RM cs ls j ws:=by
 obtain⟨h1,h2,h3⟩:=h;rw[Qk]at h1;refine⟨by simpa using h1,λi t rs e er=>?_,λk c e=>?_⟩
 .have hi:=(Qg.mp e).1
  exact h2 i t rs (by rw[Qx hi];exact e) er
 .have:=h3 k c e
  rw[List.count_append]at this
  lia
theorem qN(g:Good cs ls)(hn:cs.length<4)(hm:ls.length<=4):∃r,Ve [Kq cs ls]=O r/\∃ds,r=.list ds/\ds.length<=256/\(∀d∈ds,∃ws,d=Kh ws/\Deal cs ls ws)/\∀ws,Deal cs ls ws->Kh ws∈ds:=by
 refine WD (Z:=[pb (Kq cs ls),w9,w9,w9,w9,w9]) w8 ?_;unfold TW;refine Km (Yo (Wl (U0 (ZK U3 (Qa w8)) U3) (Qa w8)) (Qa w8) w8) ?_
 let S0:Option Sl:=O (.pub (Kq cs ls))
 apply K1;apply ZA (Dt cs ls)
 case h1=>exact Xi (U0 (ZS (U0 (KI w8 U7 WB) U3) Zv) U3) (Xg (by rw[Qb];lia) (by lia))
 case h0=>
  refine⟨_,w9,w9,w9,w9,[.list []],rfl,.inr w8,Qu _,λd hd=>?_,λws hw=>?_⟩
  .rw[Qq.mp hd]
   exact⟨[],rfl,rfl,λi t rs e=>by simp at e,λk c e=>by have:=g.c7 c (List.mem_of_getElem? e);simp;lia⟩
  .rw[List.length_eq_zero_iff.mp hw.1]
   exact Qq.mpr w8
 case hst=>
  rintro j d Z hj ⟨s1,x2,x3,x4,x5,ds,rfl,hs1,h4,hp,hall⟩;obtain⟨rfl,yB⟩:=Wa hj;rw[Qb]at yB;have av:j<ls.length:=by lia
  have h16:4 ^ j<=64:=by
   have:j=0∨j=1∨j=2∨j=3:=by lia
   rcases this with rfl|rfl|rfl|rfl<;>decide
  have hls:ls[j]?=O ls[j]:=Qe av;have gr:=g.rk _ (Jp av);have hfl:=Mg gr;refine⟨_,U2 (Qa w8) w8,?_⟩;unfold LR;rw[Jy]
  let S2:Option Sl:=O (.pub (.int j))
  refine Km (Z1:=[S0,s1,S2,O (.own []),x4,x5]) (Yo (Wl U3 (Qa w8)) (Qa w8) w8) ?_
  let S1:Option Sl:=O (.pub (.list ds))
  have hv:UT 1 [S0,s1,S2,O (.own []),x4,x5]=.ok (.list ds) [S0,S1,S2,O (.own []),x4,x5]:=by
   rcases hs1 with rfl|rfl
   .exact UW w8
   .exact Yy w8 w8
  apply K1;apply ZA (MW cs ls j ds)
  case h1=>exact ZB hv Z9
  case h0=>exact⟨[],x4,x5,rfl,Qu _,(λd h=>by cases h),λa' h=>absurd h (JG _)⟩
  case hst=>
   rintro a d Z ha ⟨es,y4,y5,rfl,he4,hep,zK⟩;have hal:a<ds.length:=(Qg.mp ha).1;obtain⟨ws,rfl,zd,hw1,ak⟩:=hp d (Qv ha);refine⟨_,U2 (Qa w8) w8,?_⟩;unfold LS
   let S4:Option Sl:=O (.pub (Kh ws))
   obtain⟨th,zh⟩:∃th:LO,th=none::(YW ls[j].flatten).map O:=⟨_,rfl⟩
   have zj:th.length<=4:=by rw[zh,Qz,Qb,(Wj _).length_eq];lia
   have hit:U9 (.list [.none]) (.list ((YW ls[j].flatten).map int))=O (.list (th.map Ke)):=by rw[XF (by rw[Qb,(Wj _).length_eq];show 1+_<=_;lia),zh];show _=O (UG (.none::((YW ls[j].flatten).map O).map Ke));rw[Jl];rfl
   have hw:=km (cs:=cs) hls (by lia);apply ZA (MV cs ls j ds ws th a)
   case h1=>exact ZB (Kd (ZK (U0 U7 U3) (Qa w8)) (Ky (U0 (UW w8) (U0 (UW w8) U3)) w8 hw) hit) Z9
   case h0=>exact⟨es,y5,rfl,he4,hep,zK,λb' h=>absurd h (JG _)⟩
   case hst=>
    rintro b d Z hb ⟨fs,z5,rfl,hf4,hfp,hfh,aB⟩;rw[Qd]at hb;cases hz:th[b]? with
    |none=>rw[hz]at hb;cases hb
    |some u=>
    rw[hz]at hb;cases hb;have zn:b<th.length:=(Qg.mp hz).1;refine⟨_,U2 (Qa w8) w8,?_⟩;unfold LU;generalize hQ:VR (MW cs ls j ds (a+1)) _=Q
    have aH:∀hg:RN cs ls (j+1) (.list (ws.map Ke++[Ke u])),Ho (Zy 3 (UY U9 (UT 4) (Kw (UX (UT 5) (UV))))) [S0,S1,S2,O (.own fs),S4,pb (Ke u)] (VR (MV cs ls j ds ws th a (b+1)) Q):=by
     intro hg;refine ZQ (X9 w8 (Kd (UW w8) (ZK (U0 (UW w8) U3) (Qa w8)) (XF (x:=ws.map Ke) (by rw[Qb];show _+1<=_;lia))) w8 (by lia) w8) (K2 ⟨fs++[.list (ws.map Ke++[Ke u])],pb (Ke u),rfl,by rw[Qk];show _+1<=_;lia,λx hx=>?_,λa' h vs hv o ho=>QI _ (hfh a' h vs hv o ho),λb' h v hv hpv=>?_⟩)
     .rcases QC.mp hx with h|h
      .exact hfp x h
      .rw[Qq.mp h];exact hg
     .by_cases zN:b'=b
      .subst zN
       rw[hz]at hv;cases hv;refine QE _ (Qq.mpr ?_);unfold Kh;rw[QA];rfl
      .exact QI _ (aB b' (by lia) v hv hpv)
    cases u with
    |none=>
     refine KR (b:=ya) (Z1:=[S0,S1,S2,O (.own fs),S4,O (.pub .none)]) (D6 (KU (k:=isNon) (x:=PyData.none) (UW w8))) (λ_=>aH ?_) λz=>by cases z
     have:=FY (o:=w9) (rs:=ls[j]) (by rw[zd];exact hls) hw1 ak (λt e=>by cases e) (λk c e=>by cases e);rw[zd]at this;exact this
    |some t=>
     have htm:t∈ls[j].flatten:=by
      have hm:=Qv hz;rw[zh]at hm;rcases Qw.mp hm with h|h
      .cases h
      .obtain⟨t',ht',e⟩:=Qt.mp h
       cases e;exact(Wj _).mem_iff.mp ht'
     have htn:=gr.flat t htm;obtain⟨k,rfl⟩:∃k:Nat,t=k:=⟨t.toNat,by lia⟩
     have yO:k<cs.length:=by lia
     have hct:oIx (.list (cs.map int)) (.int (k:Int))=O (.int (cs.getD k 0)):=Ot yO;have hcg:cs[k]?=O (cs.getD k 0):=by rw[Ql,Qe yO];rfl
     refine KR (b:=decide (((ws.count (O (k:Int)):Nat):Int)<cs.getD k 0)) (Z1:=[S0,S1,S2,O (.own fs),S4,pb (.int k)]) (WO (KU (k:=isNon) (x:=int k) (UW w8)) (Kd (N6 (UW w8) (U0 (UW w8) U3) Mv) (Kd (KI w8 U7 WM) (UW w8) hct) w8)) (λhh=>aH ?_) λhh=>?_
     .have hlt:((ws.count (O (k:Int)):Nat):Int)<cs.getD k 0:=Qa hh
      have:=FY (cs:=cs) (o:=O (k:Int)) (rs:=ls[j]) (by rw[zd];exact hls) hw1 ak (λt' e=>by cases e;exact htm) (λk' c e ec=>by
       have e2:k=k':=by injection e with e;lia
       subst e2;rw[hcg]at ec;cases ec;exact hlt)
      rw[zd]at this;exact this
     .refine K5 (K2 ⟨fs,pb (.int k),rfl,by lia,hfp,hfh,λb' h v hv hpv=>?_⟩)
      by_cases zN:b'=b
      .subst zN
       rw[hz]at hv;cases hv;have h1:=hpv.2.2 k _ hcg;rw[List.count_append,List.count_singleton]at h1;have h2:=Jf hh;rw[if_pos (by simp)]at h1
       lia
      .exact aB b' (by lia) v hv hpv
   case hend=>
    rintro Z ⟨fs,z5,rfl,hf4,hfp,hfh,aB⟩;rw[Qb]at hf4 aB;refine K2 ⟨fs,_,_,rfl,by lia,hfp,λa' h vs hv o ho=>?_⟩;by_cases haa:a'=a
    .subst haa
     rw[ha]at hv;have e:ws=vs:=Ma (by injection hv with hv;exact(PyData.list.injEq _ _).mp hv);subst e
     have hom:o∈th:=by
      rw[zh];cases o with
      |none=>exact Qi
      |some t=>have:=ho.2.1 ws.length t ls[j] (by rw[Qy (Qu _),Nat.sub_self];rfl) (by rw[zd];exact hls);exact Qh _ (List.mem_map_of_mem ((Wj _).mem_iff.mpr this))
     obtain⟨b',hb',e⟩:=List.mem_iff_getElem.mp hom;exact aB b' hb' o (by rw[Qe hb',e]) ho
    .exact hfh a' (by lia) vs hv o ho
  case hend=>
   rintro Z ⟨es,y4,y5,rfl,he4,hep,zK⟩;refine KQ (ZQ (KE (Yy rfl rfl) (Qa rfl) rfl) (K2 ⟨_,_,_,_,_,es,rfl,.inl rfl,?_,hep,λvs hv=>?_⟩))
   .rw[Nat.pow_succ]
    lia
   .rcases List.eq_nil_or_concat vs with rfl|⟨ws,o,rfl⟩
    .have:=hv.1;cases this
    .rw[List.concat_eq_append]at hv⊢
     obtain⟨a',ha',e⟩:=List.mem_iff_getElem.mp (hall ws (ku hv));exact zK a' ha' ws (by rw[Qe ha',e]) o hv
 case hend=>
  rintro Z ⟨s1,x2,x3,x4,x5,ds,rfl,hs1,h4,hp,hall⟩;rw[YI,Qb,show((ls.length:Int)-0).toNat=ls.length by lia]at h4 hp hall
  have h64:4 ^ ls.length<=256:=by
   have:=g.l1;have:ls.length=1∨ls.length=2∨ls.length=3∨ls.length=4:=by lia
   rcases this with e|e|e|e<;>rw[e]<;>decide
  have fin:∃d,(Out.rt (.list ds))=.rt d/\∃ds,d=.list ds/\ds.length<=256/\(∀d∈ds,∃ws,d=Kh ws/\Deal cs ls ws)/\∀ws,Deal cs ls ws->Kh ws∈ds:=⟨_,rfl,ds,rfl,by lia,(λd hd=>by obtain⟨ws,e,h1,h2,h3⟩:=hp d hd;exact⟨ws,e,⟨h1,h2,h3⟩⟩),λws dw=>hall ws ⟨dw.len,dw.wish,dw.cop⟩⟩
  rcases hs1 with rfl|rfl
  .exact KQ (KJ (UW w8) fin)
  .exact KQ (KJ (Yy w8 w8) fin)
end
theorem Fb{f:Int×Int->Int}{ps:yd}:∀(ws:LO)(as:yd)(k:Nat),as.length=ws.length->(∀a∈as,0<=a)->(∀(i:Nat) t,ws[i]?=O (O t)->f (((k+i:Nat):Int),t)<=as.getD i 0+ps.getD t.toNat 0)->Kg f k ws<=as.sum+pz ps ws
 |[],[],k,_,_,_=>by show(0:Int)<=0+0;lia
 |o::ws,a::as,k,hl,ha,h=>by
  have ih:=Fb (f:=f) (ps:=ps) ws as (k+1) (by simpa using hl) (λx hx=>ha x (List.mem_cons_of_mem _ hx)) λi t e=>by have:=h (i+1) t (by simpa using e);rw[show k+1+i=k+(i+1)by lia];simpa using this
  have h0:=ha a Qi;rw[Uo];cases o with
  |none=>
   show 0+Kg f (k+1) ws<=a+as.sum+(0+pz ps ws)
   lia
  |some t=>
   have h1:=h 0 t w8;have h1:f ((k:Int),t)<=a+ps.getD t.toNat 0:=by simpa using h1
   show f ((k:Int),t)+Kg f (k+1) ws<=a+as.sum+(ps.getD t.toNat 0+pz ps ws)
   lia
 |[],_::_,_,hl,_,_=>by cases hl
 |_::_,[],_,hl,_,_=>by cases hl
section
variable{cs:yd}{ls:L3}{ws:LO}{qs:LP}{f:Int×Int->Int}{m:Nat}{as ps:yd}
theorem kt(hp:Pairs cs.length m qs)(hd:Zi cs qs m ws)(ok:OkP cs.length m (λa b=>f (a,b)) qs 1 as ps):Kg f 0 ws<=Wh cs as ps:=by
 have h1:=Fb (f:=f) (ps:=ps) ws as 0 (by rw[ok.la,hd.len]) ok.aa λi t e=>by have:=ok.le _ (hd.wish i t e);rw[Q0];have e1:((i:Int)).toNat=i:=QM i;rw[Int.one_mul]at this;dsimp only at this;rw[e1]at this;exact this
 have zj:∀t,O t∈ws->0<=t/\t<cs.length:=λt ht=>by obtain⟨i,hi⟩:=JR.mp ht;have:=hp.lo _ (hd.wish i t hi);exact⟨this.2.2.1,this.2.2.2⟩
 rw[OO ws zj]at h1;unfold Wh;rw[Ms _ _ ok.lp]
 have h2:K8 cs.length (λk=>((ws.count (O (k:Int)):Nat):Int)*ps.getD k 0)<=K8 cs.length λk=>cs.getD k 0*ps.getD k 0:=Rs _ λk hk=>by
  have hc:cs[k]?=O (cs.getD k 0):=by rw[Ql,Qe hk];rfl
  have hk2:0<=ps.getD k 0:=by rw[Ql,Qe (by rw[ok.lp];exact hk)];exact ok.pp _ (Jp _)
  exact Int.mul_le_mul_of_nonneg_right (hd.cop k _ hc) hk2
 lia
theorem vN(hp:Pairs cs.length m qs)(hd:Zi cs qs m ws)(st:Tr cs f qs ws){us:LO}(hu:Zi cs qs m us):Kg f 0 us<=Kg f 0 ws:=by obtain⟨ok,e⟩:=qO hp hd (Xc hp hd) (TD hp hd) (V:=λp=>(ent (KP (cs.length+1) (ZR cs f qs ws) (cs.length+1)) p).1) (λ_=>rfl) st;have:=kt hp hu ok;rw[e]at this;exact this
end
section
variable{cs:yd}{ls:L3}{ws:LO}{qs:LP}{V:Int->Int->Int}
noncomputable def prW(cs:yd)(f:Int×Int->Int)(qs:LP)(ws:LO)(p:Nat):Int:=(ent (KP (cs.length+1) (ZR cs f qs ws) (cs.length+1)) p).1
theorem jy(g:Good cs ls)(hp:Pairs cs.length ls.length qs)(hd:Zi cs qs ls.length ws)(hq1:qs.length<=500):Vs [Kq cs ls,.list (qs.map (Zk V)),Kh ws]=O (.list (((UE cs.length).map (prW cs (U5 V) qs ws)).map int)):=by
 refine Zj (Z:=[pb (Kq cs ls),pb (.list (qs.map (Zk V))),pb (Kh ws),w9,w9]) w8 ?_;unfold Sf;have c6:=g.c6;have hS:∀s∈ZR cs (U5 V) qs ws,s.a<cs.length+1/\s.b<cs.length+1:=λs hs=>(Xc hp hd s hs).lt hp hd;have yN:Kn [.list (cs.map int)]=O (.int cs.length):=by rw[Zv,Qb]
 have has:YC [Kq cs ls,.list (qs.map (Zk V)),Kh ws]=O (.list ((ZR cs (U5 V) qs ws).map U4)):=MN g hd.len (by rw[hd.len];exact hp) (by rw[hd.len];exact hd) (by lia);have hwd:=F2 hS (by lia);generalize hT:KP (cs.length+1) (ZR cs (U5 V) qs ws) (cs.length+1)=T at hwd;have zD:T.length=cs.length+1:=by rw[←hT];exact RJ hS _
 refine Km (KE (ZS (U0 (KI w8 U7 WM) U3) yN) (Qa w8) w8) ?_;refine Km (KE (Ky (U0 (Kd (UW w8) U7 K7) (U0 (Ky (U0 (UW w8) (U0 (UW w8) (U0 (UW w8) U3))) w8 has) U3)) w8 hwd) (Qa w8) w8) ?_
 have hcd:DL.cutD (T.map Ym) w9 (O (cs.length:Int))=(T.take cs.length).map Ym:=by
  have h2:HT.sIx (T.map Ym).length (T.map Ym).length (O (cs.length:Int))=cs.length:=by
   rw[Qb,zD];unfold HT.sIx;simp
   lia
  unfold DL.cutD;rw[h2,show HT.sIx (T.map Ym).length 0 w9=0 from rfl,List.drop_zero,Nat.sub_zero,List.map_take]
 have yH:Y5 (.list (T.map Ym)) w9 (O (cs.length:Int))=O (.list ((T.take cs.length).map Ym)):=by rw[Tc,hcd]
 have hc:K4 (gT 2 (gNC (gN 5) (gNC (gN 6) (gN0)))) (U1 ya) (UT 5) ((T.take cs.length).map Ym) (Ks [pb (Kq cs ls),pb (.list (qs.map (Zk V))),pb (Kh ws),pb (.int cs.length),pb (.list (T.map Ym))]++UF 2 w9) []=O ([]++((UE cs.length).map (prW cs (U5 V) qs ws)).map int):=by
  refine XI (λZ=>∃x y,Z=[pb (Kq cs ls),pb (.list (qs.map (Zk V))),pb (Kh ws),pb (.int cs.length),pb (.list (T.map Ym)),x,y]) _ _ _ _ ?_ ?_ ⟨w9,w9,rfl⟩ ?_
  .rw[Qb,Qb,Qb,QZ,Qp];lia
  .rintro i d e hd' he Z ⟨x,y,rfl⟩
   rw[Qd,Qd]at he
   have yx:i<cs.length:=by
    have:=(Qg.mp hd').1;rw[Qb,QZ]at this
    lia
   rw[QO yx]at he;cases he;rw[Qd,List.getElem?_take_of_lt yx,Qe (by lia)]at hd';cases hd';have hv:prW cs (U5 V) qs ws i=T[i].1:=by unfold prW ent;rw[hT,Ql,Qe (by lia)];rfl
   rw[hv];exact⟨_,Kz w8 (U8 (U2 (Qa w8) w8) (U8 (U2 (Qa w8) w8) KB)),rfl,UW w8,_,_,rfl⟩
  .rw[QF,Qb,QZ];lia
 exact KJ (KU (Yc (ZB (V3 (UW w8) U7 (XH (UW w8)) yH) Z9) hc)) w8
theorem Ax{n m:Nat}(hp:Pairs n m qs)(hm:m<=1000)(P:Nat->Int):Vr [.int (m:Nat),.list (qs.map (Zk V)),.list (((UE n).map P).map int)]=O (.list (((UE m).map λi:Nat=>ZP (U5 V) P qs (i:Int)).map int)):=by
 refine Zj (Z:=[pb (.int (m:Nat)),pb (.list (qs.map (Zk V))),pb (.list (((UE n).map P).map int)),w9,w9,w9,w9]) w8 ?_;unfold Se;refine Km (Yo (HH (n:=m) (ZK (U0 U7 U3) (Qa w8)) (UW w8) hm) (Qa w8) w8) ?_;apply K1;apply ZA (λk Z=>∃x4 x5 x6,Z=[pb (.int (m:Nat)),pb (.list (qs.map (Zk V))),pb (.list (((UE n).map P).map int)),O (.own (((UE m).map λi:Nat=>ZP (U5 V) P (qs.take k) (i:Int)).map int)),x4,x5,x6])
 case h1=>exact ZB (UW w8) Z9
 case h0=>
  refine⟨w9,w9,w9,?_⟩
  have e:(UF m (int 0))=((UE m).map λi:Nat=>ZP (U5 V) P (qs.take 0) (i:Int)).map int:=by
   rw[Jl];apply List.ext_getElem
   .rw[QH,Qb,Qp]
   .intro i h1 h2
    rw[List.getElem_replicate,J5];rfl
  rw[←e];rfl
 case hst=>
  rintro k d Z hk ⟨x4,x5,x6,rfl⟩;rw[Qd]at hk;cases hq:qs[k]? with
  |none=>rw[hq]at hk;cases hk
  |some q=>
  rw[hq]at hk;cases hk;have hb:=hp.lo q (Qv hq);obtain⟨⟨a,ha⟩,⟨t,ht⟩⟩:(∃a:Nat,q.1=a)/\∃t:Nat,q.2=t:=⟨⟨q.1.toNat,by lia⟩,⟨q.2.toNat,by lia⟩⟩
  have ham:a<m:=by lia
  have htn:t<n:=by lia
  refine⟨_,Kz w8 (U8 (U2 (Qa w8) w8) (U8 (U2 (Qa w8) w8) (U8 (U2 (Qa w8) w8) KB))),?_⟩;unfold HN;have h1:oIx (.list (((UE m).map λi:Nat=>ZP (U5 V) P (qs.take k) (i:Int)).map int)) (.int q.1)=O (.int (ZP (U5 V) P (qs.take k) (a:Int))):=by rw[ha];exact Zz (by rw[Qd,Qd,QO ham];rfl)
  have h2:oIx (.list (((UE n).map P).map int)) (.int q.2)=O (.int (P t)):=by rw[ht];exact Zz (by rw[Qd,Qd,QO htn];rfl)
  refine ZQ (Ol (ZS (U0 (V4 w8 (UW w8) w8 h1) (U0 (Kd (UW w8) (KI w8 (UW w8) h2) YT) U3)) Hq) w8 (UW w8) w8 ⟨hb.1,by rw[Qb,Qb,Qp];exact hb.2.1⟩ w8) (K2 ⟨O (.pub (.int q.1)),pb (.int q.2),pb (.int (V q.1 q.2)),?_⟩);have e:∀i:Nat,ZP (U5 V) P (qs.take (k+1)) (i:Int)=if q.1=(i:Int)then max (ZP (U5 V) P (qs.take k) (i:Int)) (U5 V q-P q.2.toNat)else ZP (U5 V) P (qs.take k) (i:Int):=λi=>by unfold ZP;rw[List.take_add_one,hq,List.foldl_append];rfl
  have e2:((((UE m).map λi:Nat=>ZP (U5 V) P (qs.take k) (i:Int)).map int).set q.1.toNat (.int (if V q.1 q.2-P t > ZP (U5 V) P (qs.take k) (a:Int)then V q.1 q.2-P t else ZP (U5 V) P (qs.take k) (a:Int))))=((UE m).map λi:Nat=>ZP (U5 V) P (qs.take (k+1)) (i:Int)).map int:=by
   apply List.ext_getElem
   .rw[Jc,Qb,Qb,Qb,Qb]
   .intro i h1 h2
    have hi:i<m:=by rw[Qb,Qb,Qp]at h2;exact h2
    rw[List.getElem_set,J5,J5,J5,J5,List.getElem_range,e];by_cases hia:a=i
    .subst hia
     rw[Qo (by lia),Qo ha,show q.2.toNat=t by lia]
     congr 1
     show _=max _ (V q.1 q.2-P t)
     split<;>lia
    .rw[QB (by lia),QB (by lia)]
  rw[←e2];rfl
 case hend=>rintro Z ⟨x4,x5,x6,rfl⟩;refine KQ (KJ (Yy rfl rfl) ?_);rw[Qb,JB]
noncomputable abbrev askL(m:Nat)(f:Int×Int->Int)(P:Nat->Int)(qs:LP):yd:=(UE m).map λi:Nat=>ZP f P qs (i:Int)
theorem Pn(g:Good cs ls):Pairs cs.length ls.length (Kr 0 ls) where
 nd:=Eo ls 0 λrs hr=>(g.rk rs hr).once
 lo:=λq hq=>by have:=B5 g q hq;exact⟨this.1.1,this.1.2,this.2.1,this.2.2⟩
end
section
variable{cs:yd}{ls:L3}{ws:LO}{o:Ord}{old:yp}{ts:yd}
theorem FX(h:Zi cs (Kr 0 ls) ls.length ws):Deal cs ls ws where
 len:=h.len
 wish:=λi t rs hw hrs=>by
  obtain⟨i',rs',h1,h2,h3⟩:=Ta (h.wish i t hw);have h2:(i:Int)=((0+i':Nat):Int):=h2;have hii:i=i':=by lia
  subst hii;rw[hrs]at h1;cases h1;exact h3
 cop:=h.cop
theorem LM(ls:L3):∀(ws:LO)(l2:L3)(k:Nat),(∀(j:Nat) rs,l2[j]?=O rs->ls.getD (k+j) []=rs)->ws.length=l2.length->Kg (U5 (KD ls o old ts)) k ws=ZC (YA (Zp ls o old ts) k l2 ws)
 |[],[],_,_,_=>rfl
 |[],_::_,_,_,h=>by cases h
 |_::_,[],_,_,h=>by cases h
 |x::ws,rs::l2,k,hj,hl=>by
  have ih:=LM ls ws l2 (k+1) (λj r h=>by rw[show k+1+j=k+(j+1)by lia];exact hj (j+1) r h) (by simpa using hl);show Kl _ k x+Kg _ (k+1) ws=ZC (x.map (Zp ls o old ts k rs)::YA _ (k+1) l2 ws);rw[FG,ih]
  congr 1
  cases x with
  |none=>rfl
  |some t=>show KD ls o old ts (k:Int) t=Zp ls o old ts k rs t;unfold KD;rw[QM,show ls.getD k []=rs from hj 0 rs w8]
theorem LK{M:Int}(h0:0<=M):∀(w:List Stp),(∀s∈w,s.g<=M)->Ku w<=w.length*M
 |[],_=>by show(0:Int)<=0*M;lia
 |s::w,h=>by
  have ih:=LK h0 w λx hx=>h x (Qh _ hx);have h1:=h s Qi
  show(List.sum (s.g::w.map Stp.g))<=((w.length+1:Nat):Int)*M
  rw[Uo,Int.natCast_add,Int.add_mul];have:(w.map Stp.g).sum=Ku w:=rfl
  lia
theorem Fp(g:Good cs ls)(ga:Y1 cs.length ls.length old ts){i:Nat}{x:yi}(h:∀t,x=O t->((i:Int),t)∈Kr 0 ls):0<=Kl (U5 (KD ls o old ts)) i x/\Kl (U5 (KD ls o old ts)) i x<18446744073709551616:=by
 cases x with
 |none=>exact⟨Q6 0,by show(0:Int)<_;lia⟩
 |some t=>exact Me g ga (h t w8)
theorem Aw(g:Good cs ls)(ga:Y1 cs.length ls.length old ts)(hd:Zi cs (Kr 0 ls) ls.length ws){s:Stp}(h:IsSt cs (U5 (KD ls o old ts)) (Kr 0 ls) ws s):s.g<=18446744073709551616:=by
 cases h with
 |@mv i x x' h hne hq=>
  have h1:=Fp (o:=o) g ga hq;have h2:=Fp (o:=o) g ga (i:=i) (x:=x) λt e=>hd.wish i t (by rw[h,e])
  show _-_<=_
  lia
 |left h hl=>show(0:Int)<=_;lia
 |give h=>show(0:Int)<=_;lia
theorem jx(g:Good cs ls)(ga:Y1 cs.length ls.length old ts)(hd:Zi cs (Kr 0 ls) ls.length ws)(p:Nat):0<=prW cs (U5 (KD ls o old ts)) (Kr 0 ls) ws p/\prW cs (U5 (KD ls o old ts)) (Kr 0 ls) ws p<=7*18446744073709551616:=by
 have hp:=Pn g;have hS:∀s∈ZR cs (U5 (KD ls o old ts)) (Kr 0 ls) ws,s.a<cs.length+1/\s.b<cs.length+1:=λs hs=>(Xc hp hd s hs).lt hp hd;have c6:=g.c6;constructor
 .have:=Mj hS (JM (cs.length+1)) p
  rw[Rv hS]at this;exact this
 .obtain⟨hw,hg⟩:=RD hS (cs.length+1) p
  have hlen:=(Po hS (cs.length+1)).1 p;obtain⟨q,yI⟩:=hw.path;have:=LK (M:=18446744073709551616) (by decide) _ λs hs=>Aw g ga hd (Xc hp hd s (yI.mem s hs))
  unfold prW;rw[←hg]
  lia
end
section
variable{cs:yd}{ls:L3}{o:Ord}{old:yp}{ts:yd}{ws:LO}
theorem Gx(du:Deal cs ls ws):Zi cs (Kr 0 ls) ls.length ws:=⟨du.len,λi t h=>by
 have yx:i<ls.length:=by have:=(Qg.mp h).1;have:=du.len;lia
 have hrs:ls[i]?=O ls[i]:=Qe yx;have:=GK (k:=0) hrs (du.wish i t _ h hrs);rwa[Q0]at this,du.cop⟩
end
theorem LJ{f h:Nat->Int}:∀(n:Nat),(∀k,k<n->f k<=h k)->(K8 n f=K8 n h ↔ ∀k,k<n->f k=h k)
 |0,_=>⟨λ_ k hk=>absurd hk (JG _),λ_=>rfl⟩
 |n+1,h0=>by
  have ih:=LJ n λk hk=>h0 k (by lia)
  have l:=Rs n λk hk=>h0 k (JX hk);have ln:=h0 n (JN _);rw[WX,WX]
  refine⟨λe k hk=>?_,λe=>?_⟩
  .by_cases z:k=n
   .subst z;lia
   .exact ih.mp (by lia) k (by lia)
  .rw[ih.mpr λk hk=>e k (by lia),e n (JN _)]
theorem Gw{f:Int×Int->Int}{ps:yd}{tm:Int}:∀(ws:LO)(as:yd)(k:Nat),as.length=ws.length->(∀a∈as,0<=a)->(∀(i:Nat) t,ws[i]?=O (O t)->tm*f (((k+i:Nat):Int),t)<=as.getD i 0+ps.getD t.toNat 0) ->
  tm*Kg f k ws<=as.sum+pz ps ws/\(tm*Kg f k ws=as.sum+pz ps ws ↔ (∀(i:Nat) t,ws[i]?=O (O t)->tm*f (((k+i:Nat):Int),t)=as.getD i 0+ps.getD t.toNat 0)/\∀i:Nat,ws[i]?=O w9->as.getD i 0=0)
 |[],[],k,_,_,_=>⟨by show tm*0<=0+0;lia,λ_=>⟨λi t h=>by simp at h,λi h=>by simp at h⟩,λ_=>by show tm*0=0+0;lia⟩
 |[],_::_,_,h,_,_=>by cases h
 |_::_,[],_,h,_,_=>by cases h
 |o::ws,a::as,k,hl,ha,h=>by
  obtain⟨ih1,zV⟩:=Gw (f:=f) (ps:=ps) (tm:=tm) ws as (k+1) (by simpa using hl) (λx hx=>ha x (List.mem_cons_of_mem _ hx)) λi t e=>by have:=h (i+1) t (by simpa using e);rw[show k+(i+1)=k+1+i by lia]at this;simpa using this
  have e2:(a::as).sum=a+as.sum:=by simp
  have ga:∀i:Nat,(a::as).getD (i+1) 0=as.getD i 0:=λi=>by simp
  have a0:=ha a Qi;rw[e2];cases o with
  |none=>
   have e1:Kg f k (none::ws)=0+Kg f (k+1) ws:=rfl;have e3:pz ps (none::ws)=0+pz ps ws:=rfl;rw[e1,e3,Jy,Jy];refine⟨by lia,λe=>?_,λ⟨e4,e5⟩=>?_⟩
   .obtain⟨c1,c2⟩:=zV.mp (by lia)
    refine⟨λi t hi=>?_,λi hi=>?_⟩
    .cases i with
     |zero=>cases hi
     |succ i=>have:=c1 i t (by simpa using hi);rw[show k+(i+1)=k+1+i by lia,ga];exact this
    .cases i with
     |zero=>show a=0;lia
     |succ i=>rw[ga];exact c2 i (by simpa using hi)
   .have h0:a=0:=e5 0 w8
    have:=zV.mpr ⟨λi t hi=>by have:=e4 (i+1) t (by simpa using hi);rw[show k+(i+1)=k+1+i by lia,ga]at this;exact this,λi hi=>by have:=e5 (i+1) (by simpa using hi);rwa[ga]at this⟩
    lia
  |some t=>
   have e1:Kg f k (O t::ws)=f ((k:Int),t)+Kg f (k+1) ws:=rfl;have e3:pz ps (O t::ws)=ps.getD t.toNat 0+pz ps ws:=rfl;have h0:=h 0 t w8;have h0:tm*f ((k:Int),t)<=a+ps.getD t.toNat 0:=h0;rw[e1,e3,Uj];refine⟨by lia,λe=>?_,λ⟨e4,e5⟩=>?_⟩
   .obtain⟨c1,c2⟩:=zV.mp (by lia)
    refine⟨λi u hi=>?_,λi hi=>?_⟩
    .cases i with
     |zero=>cases hi;show tm*f ((k:Int),t)=a+ps.getD t.toNat 0;lia
     |succ i=>have:=c1 i u (by simpa using hi);rw[show k+(i+1)=k+1+i by lia,ga];exact this
    .cases i with
     |zero=>cases hi
     |succ i=>rw[ga];exact c2 i (by simpa using hi)
   .have h0:tm*f ((k:Int),t)=a+ps.getD t.toNat 0:=e4 0 t w8
    have:=zV.mpr ⟨λi t hi=>by have:=e4 (i+1) t (by simpa using hi);rw[show k+(i+1)=k+1+i by lia,ga]at this;exact this,λi hi=>by have:=e5 (i+1) (by simpa using hi);rwa[ga]at this⟩
    lia
structure Nb(cs:yd)(f:Int×Int->Int)(tm:Int)(as ps:yd)(ws:LO):Prop where
 got:∀(i:Nat) t,ws[i]?=O (O t)->tm*f ((i:Int),t)=as.getD i 0+ps.getD t.toNat 0
 non:∀i:Nat,ws[i]?=O w9->as.getD i 0=0
 all:∀k,k<cs.length->ps.getD k 0=0∨((ws.count (O (k:Int)):Nat):Int)=cs.getD k 0
section
variable{cs:yd}{f:Int×Int->Int}{qs:LP}{m:Nat}{ws:LO}{tm:Int}{as ps:yd}
theorem Fo(hp:Pairs cs.length m qs)(hd:Zi cs qs m ws)(ok:OkP cs.length m (λa b=>f (a,b)) qs tm as ps):tm*Kg f 0 ws<=Wh cs as ps/\(tm*Kg f 0 ws=Wh cs as ps ↔ Nb cs f tm as ps ws):=by
 obtain⟨h1,h2⟩:=Gw (f:=f) (ps:=ps) (tm:=tm) ws as 0 (by rw[ok.la,hd.len]) ok.aa λi t e=>by rw[Q0];exact ok.le _ (hd.wish i t e)
 simp only[Q0]at h2;have zj:∀t,O t∈ws->0<=t/\t<cs.length:=λt ht=>by obtain⟨i,hi⟩:=JR.mp ht;have:=hp.lo _ (hd.wish i t hi);exact⟨this.2.2.1,this.2.2.2⟩
 have ap:∀k,k<cs.length->0<=ps.getD k 0:=λk hk=>by rw[Ql,Qe (by rw[ok.lp];exact hk)];exact ok.pp _ (Jp _)
 have hcop:∀k,k<cs.length->((ws.count (O (k:Int)):Nat):Int)<=cs.getD k 0:=λk hk=>hd.cop k _ (by rw[Ql,Qe hk];rfl)
 have hle:∀k,k<cs.length->((ws.count (O (k:Int)):Nat):Int)*ps.getD k 0<=cs.getD k 0*ps.getD k 0:=λk hk=>Int.mul_le_mul_of_nonneg_right (hcop k hk) (ap k hk);have s1:=Rs cs.length hle;have s2:=LJ cs.length hle;have ec:Wh cs as ps=as.sum+K8 cs.length λk=>cs.getD k 0*ps.getD k 0:=by unfold Wh;rw[Ms _ _ ok.lp]
 rw[ec];rw[OO ws zj]at h1 h2;refine⟨by lia,λe=>?_,λh=>?_⟩
 .obtain⟨c1,c2⟩:=h2.mp (by lia)
  refine⟨c1,c2,λk hk=>?_⟩;have e3:=s2.mp (by lia) k hk;by_cases z:ps.getD k 0=0
  .exact .inl z
  .exact .inr (Int.eq_of_mul_eq_mul_right z e3)
 .have e1:=h2.mpr ⟨h.got,h.non⟩
  have e3:=s2.mpr λk hk=>by
   rcases h.all k hk with z|z
   .rw[z,J9,J9]
   .rw[z]
  lia
end
abbrev Zn:=List (Nat×List Stp)
noncomputable def Ko(R:Zn)(p:Nat):Bool:=R.any λx=>x.1==p
noncomputable def Xy(R:Zn)(p:Nat):List Stp:=((R.find? λx=>x.1==p).map (·.2)).getD []
noncomputable def Zc(R:Zn)(s:Stp):Zn:=if Ko R s.a && !Ko R s.b then R++[(s.b,Xy R s.a++[s])]else R
noncomputable def ZI(T:List Stp)(q:Nat):Nat->Zn
 |0=>[(q,[])]
 |t+1=>T.foldl Zc (ZI T q t)
theorem Ph{R:Zn}{p:Nat}:Ko R p=ya ↔ ∃w,(p,w)∈R:=by
 unfold Ko;rw[List.any_eq_true];constructor
 .rintro⟨⟨a,w⟩,h1,h2⟩
  have:a=p:=by simpa using h2
  subst this;exact⟨w,h1⟩
 .rintro⟨w,h⟩
  exact⟨_,h,by simp⟩
theorem OK{R:Zn}{p:Nat}(h:Ko R p=ya):(p,Xy R p)∈R:=by
 obtain⟨w,hw⟩:=Ph.mp h;unfold Xy;cases e:R.find? λx=>x.1==p with
 |none=>have:=List.find?_eq_none.mp e _ hw;simp at this
 |some x=>
  have h1:=List.mem_of_find?_eq_some e;have h2:=List.find?_some e;have h2:x.1=p:=by simpa using h2
  obtain⟨a,w'⟩:=x;have h2:a=p:=h2;subst h2;exact h1
structure RdOk(T:List Stp)(q:Nat)(R:Zn):Prop where
 pth:∀x∈R,Path T q x.2 x.1
 nd:∀x∈R,(q::x.2.map Stp.b).Nodup
 cl:∀x∈R,∀y∈q::x.2.map Stp.b,Ko R y=ya
theorem N9{R:Zn}{x:Nat×List Stp}{p:Nat}:Ko (R++[x]) p=(Ko R p || x.1==p):=by unfold Ko;rw[List.any_append];simp
theorem Av{T:List Stp}{q:Nat}{R:Zn}{s:Stp}(hs:s∈T)(k:RdOk T q R):RdOk T q (Zc R s)/\(∀p,Ko R p=ya->Ko (Zc R s) p=ya)/\(Ko R s.a=ya->Ko (Zc R s) s.b=ya):=by
 unfold Zc;by_cases c:(Ko R s.a && !Ko R s.b)=ya
 .rw[Qo c]
  obtain⟨c1,c2⟩:=Uk.mp c;have c2:Ko R s.b=yb:=by simpa using c2
  have hm:=OK c1;have k1:=k.pth _ hm;have k2:=k.nd _ hm;have k3:=k.cl _ hm;have up:∀p,Ko R p=ya->Ko (R++[(s.b,Xy R s.a++[s])]) p=ya:=λp h=>by rw[N9,h];rfl
  have e:q::((Xy R s.a++[s]).map Stp.b)=(q::(Xy R s.a).map Stp.b)++[s.b]:=by rw[QA];rfl
  refine⟨⟨λx hx=>?_,λx hx=>?_,λx hx y hy=>?_⟩,up,λ_=>by rw[N9];simp⟩
  .rcases QC.mp hx with h|h
   .exact k.pth x h
   .cases Qq.mp h
    exact k1.append (.cons hs (.nil _))
  .rcases QC.mp hx with h|h
   .exact k.nd x h
   .cases Qq.mp h
    show(q::((Xy R s.a++[s]).map Stp.b)).Nodup
    rw[e];refine List.nodup_append.mpr ⟨k2,by simp,λa ha b hb z=>?_⟩;rw[Qq.mp hb]at z;rw[z]at ha;have:=k3 _ ha;rw[c2]at this;cases this
  .rcases QC.mp hx with h|h
   .exact up y (k.cl x h y hy)
   .cases Qq.mp h
    have hy:y∈q::((Xy R s.a++[s]).map Stp.b):=hy;rw[e]at hy;rcases QC.mp hy with hy|hy
    .exact up y (k3 y hy)
    .rw[N9,List.mem_singleton.mp hy];simp
 .rw[QB c]
  refine⟨k,λ_ h=>h,λh=>?_⟩;cases z:Ko R s.b with
  |true=>rfl
  |false=>rw[h,z]at c;exact absurd w8 c
theorem Nt{T:List Stp}{q:Nat}:∀(X:List Stp)(R:Zn),(∀s∈X,s∈T)->RdOk T q R->RdOk T q (X.foldl Zc R)/\(∀p,Ko R p=ya->Ko (X.foldl Zc R) p=ya)/\∀s∈X,Ko R s.a=ya->Ko (X.foldl Zc R) s.b=ya
 |[],R,_,k=>⟨k,λ_ h=>h,λs hs=>by cases hs⟩
 |s::X,R,h,k=>by
  obtain⟨k1,k2,k3⟩:=Av (h s Qi) k;obtain⟨f1,f2,f3⟩:=Nt X (Zc R s) (λx hx=>h x (Qh _ hx)) k1;refine⟨f1,λp hp=>f2 p (k2 p hp),λx hx ha=>?_⟩;rcases Qw.mp hx with rfl|hx
  .exact f2 _ (k3 ha)
  .exact f3 x hx (k2 _ ha)
theorem OM(T:List Stp)(q:Nat):∀t,RdOk T q (ZI T q t)/\∀w p,Path T q w p->w.length<=t->Ko (ZI T q t) p=ya
 |0=>by
  refine⟨⟨λx hx=>?_,λx hx=>?_,λx hx y hy=>?_⟩,λw p h hl=>?_⟩
  .cases Qq.mp hx;exact .nil q
  .cases List.mem_singleton.mp hx;simp
  .cases Qq.mp hx
   cases Qq.mp hy;exact Ph.mpr ⟨[],Qq.mpr w8⟩
  .have:w=[]:=List.eq_nil_of_length_eq_zero (by lia)
   subst this;cases h;exact Ph.mpr ⟨[],Qq.mpr w8⟩
 |t+1=>by
  obtain⟨k,ih⟩:=OM T q t;obtain⟨f1,f2,f3⟩:=Nt T (ZI T q t) (λ_ h=>h) k;refine⟨f1,λw p h hl=>?_⟩;by_cases c:w.length<=t
  .exact f2 p (ih w p h c)
  .obtain⟨u,s,rfl⟩:∃u s,w=u++[s]:=⟨w.dropLast,w.getLast (by intro z;rw[z]at c;simp at c),(List.dropLast_concat_getLast _).symm⟩
   obtain⟨mm,h1,h2⟩:=h.split;have hs:=h2.step.1;have ha:=h2.head;have hb:Path T s.b [] p:=h2.step.2;have hp:p=s.b:=by generalize s.b=x at hb;cases hb;rfl
   subst ha;rw[hp];exact f3 s hs (ih u s.a h1 (by rw[Qk,QP]at hl;lia))
theorem Eh{T:List Stp}{n:Nat}(hT:∀s∈T,s.a<n/\s.b<n)(h0:0<n){q p:Nat}:∀(N:Nat)(w:List Stp),w.length<=N->Path T q w p->∃w',Path T q w' p/\w'.length<n
 |0,w,hl,h=>⟨w,h,by lia⟩
 |N+1,w,hl,h=>by
  by_cases c:w.length<n
  .exact⟨w,h,c⟩
  .have hr:=Fe hT h (by lia) h0
   unfold Nu at hr;have:∃j,j<w.length/\∃i,i<=j/\∃s t,w[i]?=O s/\w[j]?=O t/\s.a=t.b:=by refine Classical.byContradiction λz=>hr λj hj i hi s t e1 e2 e3=>z ⟨j,hj,i,hi,s,t,e1,e2,e3⟩
   obtain⟨j,hj,i,hi,s,t,e1,e2,e3⟩:=this;have p1:=(h.at e1).1;have p2:=(h.at e2).2.2;rw[←e3]at p2;refine Eh hT h0 N (w.take i++w.drop (j+1)) ?_ (p1.append p2);rw[Qk,QZ,Jm]
   lia
def VQ(T:List Stp)(q p:Nat):Prop:=∃w,Path T q w p
theorem TB{T:List Stp}{n:Nat}(hT:∀s∈T,s.a<n/\s.b<n)(h0:0<n){q p:Nat}:Ko (ZI T q n) p=ya ↔ VQ T q p:=by
 obtain⟨k,c⟩:=OM T q n;constructor
 .intro h
  exact⟨_,k.pth _ (OK h)⟩
 .rintro⟨w,h⟩
  obtain⟨w',h',hl⟩:=Eh hT h0 w.length w (Qu _) h;exact c w' p h' (by lia)
noncomputable def ZG(T:List Stp)(n p:Nat):Nat:=(UE n).countP λq=>Ko (ZI T q n) p
theorem PU(T:List Stp)(n p:Nat):ZG T n p<=n:=by have:=List.countP_le_length (p:=λq=>Ko (ZI T q n) p) (l:=UE n);rwa[Qp]at this
theorem qM{T:List Stp}{n:Nat}(hT:∀s∈T,s.a<n/\s.b<n){s:Stp}(hs:s∈T):ZG T n s.a<=ZG T n s.b:=by
 have h0:0<n:=by have:=(hT s hs).1;lia
 refine List.countP_mono_left λq _ h=>?_
 obtain⟨w,hw⟩:=(TB hT h0).mp h;exact(TB hT h0).mpr ⟨_,hw.append (.cons hs (.nil _))⟩
noncomputable def Yl(S:List Stp)(V:Nat->Int):List Stp:=S.filter λs=>decide (V s.a+s.g=V s.b)
noncomputable def KH(T:List Stp)(V:Nat->Int)(n:Nat)(p:Nat):Int:=((n+1:Nat):Int)*V p+(ZG T (n+1) p:Int)-(ZG T (n+1) n:Int)
theorem jw{S:List Stp}{V:Nat->Int}{n:Nat}(hS:∀s∈S,s.a<n+1/\s.b<n+1)(st:∀s∈S,V s.a+s.g<=V s.b)(s:Stp)(hs:s∈S):KH (Yl S V) V n s.a+((n+1:Nat):Int)*s.g<=KH (Yl S V) V n s.b:=by
 have hT:∀s∈Yl S V,s.a<n+1/\s.b<n+1:=λs h=>hS s (Jg.mp h).1;have h1:=st s hs;unfold KH
 by_cases c:V s.a+s.g=V s.b
 .have:=qM hT (Jg.mpr ⟨hs,Q8 c⟩)
  rw[←c,Uj]
  lia
 .have l1:=PU (Yl S V) (n+1) s.a
  have h2:((n+1:Nat):Int)*(V s.a+s.g+1)<=((n+1:Nat):Int)*V s.b:=Jt (by lia) (by lia);rw[Uj,Uj]at h2
  lia
section
variable{cs:yd}{f:Int×Int->Int}{qs:LP}{m:Nat}{ws:LO}
theorem Gv(c:Int):∀(ws:LO)(k:Nat),Kg (λq=>c*f q) k ws=c*Kg f k ws
 |[],k=>by show(0:Int)=c*0;lia
 |o::ws,k=>by
  show Kl (λq=>c*f q) k o+Kg (λq=>c*f q) (k+1) ws=c*(Kl f k o+Kg f (k+1) ws);rw[Gv c ws (k+1),Uj];cases o with
  |none=>show 0+_=c*0+_;lia
  |some t=>rfl
theorem IsSt.mul{c:Int}{s:Stp}(h:IsSt cs (λq=>c*f q) qs ws s):∃s',IsSt cs f qs ws s'/\s.a=s'.a/\s.b=s'.b/\s.g=c*s'.g:=by
 cases h with
 |@mv i o o' h hne hq=>
  refine⟨_,.mv h hne hq,rfl,rfl,?_⟩
  have e:∀o:yi,Kl (λq=>c*f q) i o=c*Kl f i o:=λo=>by
   cases o with
   |none=>show(0:Int)=c*0;lia
   |some t=>rfl
  show Kl (λq=>c*f q) i o'-Kl (λq=>c*f q) i o=c*(Kl f i o'-Kl f i o);rw[e,e,Int.mul_sub]
 |left h hl=>exact⟨_,.left h hl,rfl,rfl,by show(0:Int)=c*0;lia⟩
 |give h=>exact⟨_,.give h,rfl,rfl,by show(0:Int)=c*0;lia⟩
theorem jv(hp:Pairs cs.length m qs)(hd:Zi cs qs m ws)(sw:Tr cs f qs ws){T:List Stp}(hT:T=Yl (ZR cs f qs ws) (prW cs f qs ws)) :
  OkP cs.length m (λa b=>f (a,b)) qs ((cs.length+1:Nat):Int) ((UE m).map λi:Nat=>ZP (λq=>((cs.length+1:Nat):Int)*f q) (KH T (prW cs f qs ws) cs.length) qs (i:Int)) ((UE cs.length).map (KH T (prW cs f qs ws) cs.length)) /\
  Wh cs ((UE m).map λi:Nat=>ZP (λq=>((cs.length+1:Nat):Int)*f q) (KH T (prW cs f qs ws) cs.length) qs (i:Int)) ((UE cs.length).map (KH T (prW cs f qs ws) cs.length))=((cs.length+1:Nat):Int)*Kg f 0 ws:=by
 obtain⟨st,vn⟩:=Pi (V:=prW cs f qs ws) hp hd (Xc hp hd) (TD hp hd) (λp=>rfl) sw;have hS:∀s∈ZR cs f qs ws,s.a<cs.length+1/\s.b<cs.length+1:=λs hs=>(Xc hp hd s hs).lt hp hd
 obtain⟨ok,cl⟩:=F3 (f:=λq=>((cs.length+1:Nat):Int)*f q) (V:=KH T (prW cs f qs ws) cs.length) hp hd (λs hs=>by obtain⟨s',h1,h2,h3,h4⟩:=hs.mul;rw[h2,h3,h4,hT];exact jw hS st s' (TD hp hd s' h1)) (by unfold KH;rw[vn,J9];lia);refine⟨⟨by lia,ok.la,ok.lp,ok.aa,ok.pp,λq hq=>?_⟩,by rw[cl,Gv]⟩;have:=ok.le q hq;rwa[Int.one_mul]at this
end
noncomputable def Xe(R:Zn):D:=.dict (R.map λx=>(.int (x.1:Nat),.list (x.2.map U4)))
theorem Nr{p:Nat}:Yn (.int (p:Nat))=O (.inl (p:Int)):=rfl
theorem Nq(a p:Nat):decide (Yn (.int (a:Nat))=O (.inl (p:Int)))=(a==p):=by
 rw[Nr];by_cases h:a=p
 .subst h;simp
 .have:¬((O (.inl (a:Int)):Option Key)=O (.inl (p:Int))):=λz=>by injection z with z;injection z with z;lia
  rw[QU this];simpa using h
theorem WR{R:Zn}{p:Nat}:ZU (.int (p:Nat)) (Xe R)=O (Ko R p):=by
 unfold ZU Xe;rw[Nr];dsimp only;rw[Qo (Je.mpr λx hx=>by obtain⟨y,_,rfl⟩:=Qt.mp hx;rfl)]
 congr 1
 unfold Ko;rw[List.any_map]
 congr 1
 funext x;exact Nq x.1 p
theorem Gu{R:Zn}{p:Nat}(h:Ko R p=ya):VZ (Xe R) (.int (p:Nat))=O (.list ((Xy R p).map U4)):=by
 unfold VZ Xe;rw[Nr];dsimp only;rw[List.find?_map];have e:((λx:D×D=>decide (Yn x.1=O (.inl (p:Int)))) ∘ λx:Nat×List Stp=>((.int (x.1:Nat),.list (x.2.map U4)):D×D))=λx=>x.1==p:=by funext x;exact Nq x.1 p
 rw[e];unfold Xy;cases z:R.find? λx=>x.1==p with
 |none=>obtain⟨w,hw⟩:=Ph.mp h;have:=List.find?_eq_none.mp z _ hw;simp at this
 |some x=>rfl
theorem qL{R:Zn}{p:Nat}{w:List Stp}(h:Ko R p=yb):XU (R.map λx=>((.int (x.1:Nat),.list (x.2.map U4)):D×D)) (.inl (p:Int)) (.list (w.map U4))=(R++[(p,w)]).map λx=>(.int (x.1:Nat),.list (x.2.map U4)):=by
 unfold XU
 have e:((R.map λx=>((.int (x.1:Nat),.list (x.2.map U4)):D×D)).any λx=>decide (Yn x.1=O (.inl (p:Int))))=yb:=by
  rw[List.any_map];have:((λx:D×D=>decide (Yn x.1=O (.inl (p:Int)))) ∘ λx:Nat×List Stp=>((.int (x.1:Nat),.list (x.2.map U4)):D×D))=λx=>x.1==p:=by funext x;exact Nq x.1 p
  rw[this];exact h
 rw[if_neg (by rw[e];simp),List.map_append];rfl
theorem Fn{n:Nat}{l:yn}(h:l.Nodup)(hl:∀x∈l,x<n):l.length<=n:=by
 have:=Rw n (l.map λk:Nat=>(k:Int)) (Ep (λa b e=>by lia) h) λx hx=>by
  obtain⟨k,hk,rfl⟩:=Qt.mp hx;have:=hl k hk
  lia
 rwa[Qb]at this
structure RdK(n:Nat)(R:Zn):Prop where
 nd:(R.map Prod.fst).Nodup
 lt:∀x∈R,x.1<n
theorem Cn{n:Nat}{R:Zn}{s:Stp}(hs:s.b<n)(k:RdK n R):RdK n (Zc R s):=by
 unfold Zc;by_cases c:(Ko R s.a && !Ko R s.b)=ya
 .rw[Qo c]
  have c2:Ko R s.b=yb:=by simpa using(Bool.and_eq_true_iff.mp c).2
  refine⟨?_,λx hx=>?_⟩
  .rw[QA]
   refine List.nodup_append.mpr ⟨k.nd,by simp,λa ha b hb z=>?_⟩;have hb:b=s.b:=by simpa using hb
   obtain⟨x,hx,rfl⟩:=Qt.mp ha;have:Ko R s.b=ya:=Ph.mpr ⟨x.2,by rw[←hb,←z];exact hx⟩;rw[c2]at this;cases this
  .rcases QC.mp hx with h|h
   .exact k.lt x h
   .cases Qq.mp h;exact hs
 .rw[QB c];exact k
theorem Na{n:Nat}:∀(X:List Stp)(R:Zn),(∀s∈X,s.b<n)->RdK n R->RdK n (X.foldl Zc R)
 |[],R,_,k=>k
 |s::X,R,h,k=>Na X (Zc R s) (λx hx=>h x (Qh _ hx)) (Cn (h s Qi) k)
theorem Gs{T:List Stp}{n q:Nat}(hT:∀s∈T,s.a<n/\s.b<n)(hq:q<n):∀t,RdK n (ZI T q t)
 |0=>⟨by show [q].Nodup;simp,λx hx=>by cases List.mem_singleton.mp hx;exact hq⟩
 |t+1=>Na T _ (λs hs=>(hT s hs).2) (Gs hT hq t)
theorem Gr{T:List Stp}{n q:Nat}{R:Zn}(hT:∀s∈T,s.a<n/\s.b<n)(hq:q<n)(k:RdOk T q R):∀x∈R,x.2.length<n:=λx hx=>by
 have h:=Fn (n:=n) (k.nd x hx) λy hy=>by
  rcases Qw.mp hy with rfl|hy
  .exact hq
  .obtain⟨s,hs,rfl⟩:=Qt.mp hy
   exact(hT s ((k.pth x hx).mem s hs)).2
 rw[Qz,Qb]at h
 lia
theorem RK(s:Stp):oIx (U4 s) (.int 0)=O (.int (s.a:Nat)):=Zz (j:=0) w8
theorem PB(s:Stp):oIx (U4 s) (.int 1)=O (.int (s.b:Nat)):=Zz (j:=1) w8
theorem Ds(s:Stp):oIx (U4 s) (.int 2)=O (.int s.g):=Zz (j:=2) w8
section
variable{n:Nat}{T:List Stp}{q:Nat}
theorem qK(hT:∀s∈T,s.a<n/\s.b<n)(hn:n<=100)(hq:q<n):Vp [.int (q:Nat),.int (n:Nat),.list (T.map U4)]=O (Xe (ZI T q n)):=by
 refine Zj (Z:=[pb (.int (q:Nat)),pb (.int (n:Nat)),pb (.list (T.map U4)),w9,w9,w9]) w8 ?_;unfold Sc
 let S0:Option Sl:=O (.pub (.int (q:Nat)))
 let S1:Option Sl:=O (.pub (.int (n:Nat)))
 let S2:Option Sl:=O (.pub (.list (T.map U4)))
 refine Km (Z1:=[S0,S1,S2,O (.deep .dic (Xe (ZI T q 0))),w9,w9]) (Hw (d:=Xe (ZI T q 0)) (K3 (x:=[(.int (q:Nat),.list [])]) w8 (Yw w8)) (Qa w8) w8) ?_;apply K1;apply ZA (λt Z=>∃x4 x5,Z=[S0,S1,S2,O (.deep .dic (Xe (ZI T q t))),x4,x5])
 case h1=>exact Xi (U0 (UW w8) U3) (Xg (by lia) (by lia))
 case h0=>exact⟨_,_,rfl⟩
 case hst=>
  rintro t d Z ht ⟨x4,x5,rfl⟩;refine⟨_,U2 (Qa w8) w8,?_⟩;unfold HL;apply ZA (λj Z=>∃x4 x5,Z=[S0,S1,S2,O (.deep .dic (Xe ((T.take j).foldl Zc (ZI T q t)))),x4,x5])
  case h1=>exact ZB (UW w8) Z9
  case h0=>exact⟨_,_,rfl⟩
  case hst=>
   rintro j d Z hj ⟨x4,x5,rfl⟩;rw[Qd]at hj;cases hs:T[j]? with
   |none=>rw[hs]at hj;cases hj
   |some s=>
   rw[hs]at hj;cases hj;have hsT:=Qv hs;have hsub:∀x∈T.take j,x∈T:=λx hx=>Ui hx;have kR:=(Nt (T.take j) (ZI T q t) hsub (OM T q t).1).1;have kK:=Na (n:=n) (T.take j) (ZI T q t) (λx hx=>(hT x (hsub x hx)).2) (Gs hT hq t)
   have eT:(T.take (j+1)).foldl Zc (ZI T q t)=Zc ((T.take j).foldl Zc (ZI T q t)) s:=by rw[List.take_add_one,hs,List.foldl_append];rfl
   generalize (T.take j).foldl Zc (ZI T q t)=R at kR kK eT;refine⟨_,U2 (Qa w8) w8,?_⟩;unfold HM
   have hlen:R.length<=n:=by
    have:=Fn (n:=n) kK.nd λx hx=>by obtain⟨y,hy,rfl⟩:=Qt.mp hx;exact kK.lt y hy
    rwa[Qb]at this
   by_cases ca:Ko R s.a=ya
   .by_cases cb:Ko R s.b=ya
    .refine KR (b:=yb) (Rz (Pd (t:=ya) (KI w8 U7 (RK s)) w8 (WR.trans (Uh O ca))) (Pd (t:=ya) (KI w8 U7 (PB s)) w8 (WR.trans (Uh O cb)))) (λz=>by cases z) λ_=>K5 (K2 ⟨x4,pb (U4 s),?_⟩)
     rw[eT];unfold Zc;rw[if_neg (by rw[ca,cb];simp)];rfl
    .have cb:Ko R s.b=yb:=by simpa using cb
     refine KR (b:=ya) (Rz (Pd (t:=ya) (KI w8 U7 (RK s)) w8 (WR.trans (Uh O ca))) (Pd (t:=yb) (KI w8 U7 (PB s)) w8 (WR.trans (Uh O cb)))) (λ_=>?_) λz=>by cases z
     have hl:=Gr hT hq kR _ (OK ca);have hl:(Xy R s.a).length<n:=hl;have hadd:U9 (.list ((Xy R s.a).map U4)) (.list [U4 s])=O (.list ((Xy R s.a++[s]).map U4)):=by rw[XF (by rw[Qb,QP];lia),QA];rfl
     refine ZQ (DW (k:=.inl ((s.b:Nat):Int)) (kvs:=R.map λx=>(.int (x.1:Nat),.list (x.2.map U4))) (Kd (Ag w8 (KI w8 U7 (RK s)) w8 (Gu ca)) (ZK (U0 (UW w8) U3) (Qa w8)) hadd) w8 (KI w8 U7 (PB s)) w8 w8 (by rw[Qb];lia) w8) (K2 ⟨x4,pb (U4 s),?_⟩);rw[qL cb,eT];unfold Zc;rw[Qo (by rw[ca,cb];rfl)];rfl
   .have ca:Ko R s.a=yb:=by simpa using ca
    refine KR (b:=yb) (Om (Pd (t:=yb) (KI w8 U7 (RK s)) w8 (WR.trans (Uh O ca)))) (λz=>by cases z) λ_=>K5 (K2 ⟨x4,pb (U4 s),?_⟩)
    rw[eT];unfold Zc;rw[if_neg (by rw[ca];simp)];rfl
  case hend=>rintro Z ⟨x4,x5,rfl⟩;refine K2 ⟨x4,x5,?_⟩;rw[Qb,JB];rfl
 case hend=>rintro Z ⟨x4,x5,rfl⟩;refine KQ (KJ (Ae rfl rfl) ?_);rw[YI];simp
noncomputable abbrev Y3(T:List Stp)(n:Nat):yc:=(UE n).map λq=>Xe (ZI T q n)
theorem v7(hT:∀s∈T,s.a<n/\s.b<n)(hn:n<=100):Vo [.int (n:Nat),.list (T.map U4)]=O (.list (Y3 T n)):=by
 refine Zj (Z:=[pb (.int (n:Nat)),pb (.list (T.map U4))]) w8 ?_;unfold Sb;refine KJ (KU (Yc (Xi (U0 (UW w8) U3) (Xg (by lia) (by lia))) (XI (λZ=>∃x,Z=[pb (.int (n:Nat)),pb (.list (T.map U4)),x]) _ (Y3 T n) _ [] ?_ ?_ ⟨w9,rfl⟩ ?_))) w8
 .rw[YI,List.length_map,List.length_range];simp
 .rintro i d e hd he Z ⟨x,rfl⟩
  obtain⟨rfl,hi⟩:=Wa hd;have hin:i<n:=by lia
  rw[Qd,QO hin]at he;cases he;rw[Jy];exact⟨_,U2 (Qa w8) w8,rfl,Ky (U0 (UW w8) (U0 (UW w8) (U0 (UW w8) U3))) w8 (qK hT hn hin),_,rfl⟩
 .rw[QF,YI];lia
end
theorem WW{α:Type}{s:D->UU->yk}{t:M Bool}{g:M D}(f:α->D)(p:α->Bool)(e:α->D)(I:UU->Prop):∀(xs:List α)(Z:UU)(es:yc),(∀a∈xs,∀Z,I Z->∃Z1,s (f a) Z=O Z1/\t Z1=.ok (p a) Z1/\(p a=ya->g Z1=.ok (e a) Z1)/\I (Ks Z1))->I Z->es.length+xs.length<=1000000->K4 s t g (xs.map f) Z es=O (es++(xs.filter p).map e)
 |[],Z,es,_,_,_=>by rw[List.map_nil,K4];simp
 |a::xs,Z,es,h,h0,hl=>by
  rw[Qz]at hl;obtain⟨Z1,h1,h2,h3,h4⟩:=h a Qi Z h0;have h':=λb hb=>h b (Qh _ hb);rw[Qs,K4,h1];dsimp only;rw[h2];dsimp only
  cases c:p a with
  |true=>rw[Qo w8,h3 c];dsimp only;rw[Qo (by lia),WW f p e I xs _ _ h' h4 (by rw[Qk,QP];lia),List.filter_cons_of_pos c,Ja];rfl
  |false=>rw[if_neg (by decide),WW f p e I xs _ _ h' h4 (by lia),List.filter_cons_of_neg (by rw[c];simp)]
theorem qJ{S:List Stp}{n:Nat}{V:Nat->Int}(hS:∀s∈S,s.a<n+1/\s.b<n+1)(vn:V n=0)(hn:n<=100)(hl:S.length<=1000):Vq [.list (S.map U4),.list (((UE n).map V).map int)]=O (.list ((Yl S V).map U4)):=by
 refine Zj (Z:=[pb (.list (S.map U4)),pb (.list (((UE n).map V).map int)),w9]) w8 ?_;unfold Sd;have hadd:U9 (.list (((UE n).map V).map int)) (.list [.int 0])=O (.list (((UE (n+1)).map V).map int)):=by rw[XF (by rw[Qb,Qb,Qp,QP];lia),Uq,QA,QA];show _=O (UG (_++[int (V n)]));rw[vn]
 refine Km (KE (Kd (UW w8) (ZK (U0 U7 U3) (Qa w8)) hadd) (Qa w8) w8) ?_;have hix:∀p,p<n+1->oIx (.list (((UE (n+1)).map V).map int)) (.int (p:Nat))=O (.int (V p)):=λp hp=>Oz hp
 let R:UU:=[pb (.list (S.map U4)),pb (.list (((UE n).map V).map int)),pb (.list (((UE (n+1)).map V).map int))]
 have hc:K4 (gN 3) (UY oEq (UY U9 (U6 2 (U6 3 (U1 (.int 0)))) (U6 3 (U1 (.int 2)))) (U6 2 (U6 3 (U1 (.int 1))))) (UT 3) (S.map U4) (Ks R++UF 1 w9) []=O ((Yl S V).map U4):=by refine(WW U4 (λs=>decide (V s.a+s.g=V s.b)) U4 (λZ=>∃x,Z=R++[x]) S _ [] ?_ ⟨w9,rfl⟩ (by rw[QF];lia)).trans (by rw[QY];rfl);rintro s hs Z ⟨x,rfl⟩;have hs:=hS s hs;exact⟨R++[pb (U4 s)],U2 (Qa w8) w8,Kd (Kd (KI w8 (KI w8 U7 (RK s)) (hix _ hs.1)) (KI w8 U7 (Ds s)) K7) (KI w8 (KI w8 U7 (PB s)) (hix _ hs.2)) XG,λ_=>UW w8,_,rfl⟩
 exact KJ (KU (Yc (ZB (UW w8) Z9) hc)) w8
section
variable{cs:yd}{ls:L3}{ws:LO}{qs:LP}{V:Int->Int->Int}{T:List Stp}{n m:Nat}{P:Nat->Int}
theorem wX(hn:n<=100):Vn [.list (((UE n).map P).map int),.list (Y3 T (n+1))]=O (.list (((UE n).map (KH T P n)).map int)):=by
 refine Zj (Z:=[pb (.list (((UE n).map P).map int)),pb (.list (Y3 T (n+1))),w9,w9]) w8 ?_;unfold Sa
 let S0:Option Sl:=O (.pub (.list (((UE n).map P).map int)))
 let S1:Option Sl:=O (.pub (.list (Y3 T (n+1))))
 let S2:Option Sl:=O (.pub (.int ((n+1:Nat):Int)))
 have hlen:Kn [.list (Y3 T (n+1))]=O (.int ((n+1:Nat):Int)):=by rw[Zv,Qb,Qp]
 refine Km (Z1:=[S0,S1,S2,w9]) (KE (ZX w8 hlen) (Qa w8) w8) ?_
 let L:yc:=((UE (n+1)).map λp=>((ZG T (n+1) p:Nat):Int)).map int
 have hc1:K4 (gN 4) (U1 ya) (Zo Kn (UX (Kb UG (ZH (KW (UT 1)) 1 (gN 5) (Zl ZU 4 (UT 5)) (UT 5))) UV)) (Yp 0 ((n+1:Nat):Int)) (Ks [S0,S1,S2,w9]++UF 1 w9) []=O L:=by
  refine(XI (λZ=>∃x,Z=[S0,S1,S2,w9,x]) _ L _ [] ?_ ?_ ⟨w9,rfl⟩ ?_).trans (by rw[QY])
  .rw[YI];show(List.map _ _).length=_;rw[List.length_map,List.length_map,List.length_range];simp
  .rintro i d e hd he Z ⟨x,rfl⟩
   obtain⟨rfl,hi⟩:=Wa hd;have hin:i<n+1:=by lia
   have he:(((UE (n+1)).map λp=>((ZG T (n+1) p:Nat):Int)).map int)[i]?=O e:=he;rw[Qd,Qd,QO hin]at he;cases he;rw[Jy];refine⟨_,U2 (Qa w8) w8,rfl,?_,_,rfl⟩;have hin2:K4 (gN 5) (Zl ZU 4 (UT 5)) (UT 5) (Y3 T (n+1)) (Ks [S0,S1,S2,w9,pb (.int (i:Nat))]++UF 1 w9) []=O (((UE (n+1)).filter λq=>Ko (ZI T q (n+1)) i).map λq=>Xe (ZI T q (n+1))):=by refine(WW (λq=>Xe (ZI T q (n+1))) (λq=>Ko (ZI T q (n+1)) i) (λq=>Xe (ZI T q (n+1))) (λZ=>∃x,Z=[S0,S1,S2,w9,pb (.int (i:Nat)),x]) (UE (n+1)) _ [] ?_ ⟨w9,rfl⟩ (by rw[QF,Qp];lia)).trans (by rw[QY]);rintro q hq Z ⟨x,rfl⟩;exact⟨[S0,S1,S2,w9,pb (.int (i:Nat)),pb (Xe (ZI T q (n+1)))],U2 (Qa w8) w8,Yb w8 (UW w8) WR,λ_=>UW w8,_,rfl⟩
   refine ZS (U0 (KU (Yc (ZB (UW w8) Z9) hin2)) U3) ?_;rw[Zv,Qb];show _=O (int ((ZG T (n+1) i:Nat):Int));unfold ZG;rw[List.countP_eq_length_filter]
  .rw[QF,YI];lia
 refine Km (Z1:=[S0,S1,S2,O (.own L)]) (Yo (Yc (Xi (U0 (UW w8) U3) (Xg (by lia) (by lia))) hc1) (Qa w8) w8) ?_;have hixL:∀p,p<n+1->oIx (.list L) (.int (p:Nat))=O (.int (ZG T (n+1) p:Nat)):=λp hp=>Oz (h:=λp=>((ZG T (n+1) p:Nat):Int)) hp
 have yw:oIx (.list L) (.int (-1))=O (.int (ZG T (n+1) n:Nat)):=by
  refine NH ?_
  show(((UE (n+1)).map λp=>((ZG T (n+1) p:Nat):Int)).map int).getLast?=_
  rw[Uq,QA,QA];simp
 let R:UU:=[S0,S1,S2,pb (.list L)]
 have hc2:K4 (gT 2 (gNC (gN 4) (gNC (gN 5) gN0))) (U1 ya) (UY KY (UY U9 (UY Kv (UT 2) (UT 5)) (U6 3 (UT 4))) (U6 3 (Yj (U1 (.int 1))))) (Yq 0 (((UE n).map P).map int)) (ZL [S0,S1,S2,O (.own L)]++UF 2 w9) []=O (((UE n).map (KH T P n)).map int):=by
  refine(XI (λZ=>∃x y,Z=[S0,S1,S2,pb (.list L),x,y]) _ (((UE n).map (KH T P n)).map int) _ [] ?_ ?_ ⟨w9,w9,rfl⟩ ?_).trans (by rw[QY])
  .rw[YH,Qb,Qb,Qb,Qb]
  .rintro i d e hd he Z ⟨x,y,rfl⟩
   obtain⟨z,hz,rfl⟩:=XE hd;have hin:i<n:=by have:=(Qg.mp hz).1;rwa[Qb,Qb,Qp]at this
   rw[Qd,Qd,QO hin]at he hz;cases he;cases hz;rw[Q0];exact⟨_,Kz w8 (U8 (U2 (Qa w8) w8) (U8 (U2 (Qa w8) w8) KB)),rfl,Kd (Kd (Kd (UW w8) (UW w8) (TJ (by lia) (by lia))) (KI w8 (UW w8) (hixL i (by lia))) K7) (KI w8 (Rr U7) yw) YT,_,_,rfl⟩
  .rw[QF,YH,Qb,Qb,Qp];lia
 exact KJ (KU (qY (XQ (U0 (UW w8) U3) XN) hc2 (ke _))) w8
theorem wU(hp:Pairs n m qs)(hn:n<=100)(hm:m<=1000)(hq1:qs.length<=500):Vm [.int (m:Nat),.list (qs.map (Zk V)),.list (((UE n).map P).map int),.list (Y3 T (n+1))]=O (W0 ((n+1:Nat):Int) (askL m (λq=>((n+1:Nat):Int)*U5 V q) (KH T P n) qs) ((UE n).map (KH T P n))):=by
 refine Zj (Z:=[pb (.int (m:Nat)),pb (.list (qs.map (Zk V))),pb (.list (((UE n).map P).map int)),pb (.list (Y3 T (n+1))),w9,w9,w9]) w8 ?_;unfold T9
 let S0:Option Sl:=O (.pub (.int (m:Nat)))
 let S1:Option Sl:=O (.pub (.list (qs.map (Zk V))))
 let S2:Option Sl:=O (.pub (.list (((UE n).map P).map int)))
 let S3:Option Sl:=O (.pub (.list (Y3 T (n+1))))
 let S4:Option Sl:=O (.pub (.int ((n+1:Nat):Int)))
 let S5:Option Sl:=O (.pub (.list (((UE n).map (KH T P n)).map int)))
 have hlen:Kn [.list (Y3 T (n+1))]=O (.int ((n+1:Nat):Int)):=by rw[Zv,Qb,Qp]
 refine Km (Z1:=[S0,S1,S2,S3,S4,w9,w9]) (KE (ZX w8 hlen) (Qa w8) w8) ?_;refine Km (Z1:=[S0,S1,S2,S3,S4,S5,w9]) (KE (Ky (U0 (UW w8) (U0 (UW w8) U3)) w8 (wX hn)) (Qa w8) w8) ?_
 have hc:K4 (gT 3 (gNC (gN 7) (gNC (gN 8) (gNC (gN 9) gN0)))) (U1 ya) (KM (UX (UT 7) (UX (UT 8) (UX (UY Kv (UT 4) (UT 9)) UV)))) (qs.map (Zk V)) (Ks [S0,S1,S2,S3,S4,S5,w9]++UF 3 w9) []=O (qs.map (Zk λa b=>((n+1:Nat):Int)*V a b)):=by
  refine(XI (λZ=>∃x y z,Z=[S0,S1,S2,S3,S4,S5,w9,x,y,z]) _ (qs.map (Zk λa b=>((n+1:Nat):Int)*V a b)) _ [] ?_ ?_ ⟨w9,w9,w9,rfl⟩ ?_).trans (by rw[QY])
  .rw[Qb,Qb]
  .rintro i d e hd he Z ⟨x,y,z,rfl⟩
   rw[Qd]at hd he;cases hq:qs[i]? with
   |none=>rw[hq]at hd;cases hd
   |some q=>
   rw[hq]at hd he;cases hd;cases he;exact⟨_,Kz w8 (U8 (U2 (Qa w8) w8) (U8 (U2 (Qa w8) w8) (U8 (U2 (Qa w8) w8) KB))),rfl,Xl (U0 (UW w8) (U0 (UW w8) (U0 (Kd (UW w8) (UW w8) (TJ (by lia) (by lia))) U3))) (Qa w8),_,_,_,rfl⟩
  .rw[QF,Qb];lia
 refine Km (KE (Ky (U0 (UW w8) (U0 (KU (Yc (ZB (UW w8) Z9) hc)) (U0 (UW w8) U3))) w8 (Ax hp hm _)) (Qa w8) w8) ?_;exact KJ (Xl (U0 (UW w8) (U0 (UW w8) (U0 (UW w8) U3))) (Qa w8)) w8
theorem N8:∀(us vs:LO),PyData.eqvAll (us.map Ke) (vs.map Ke)=decide (us=vs)
 |[],[]=>rfl
 |[],_::_=>by simp[PyData.eqvAll]
 |_::_,[]=>by simp[PyData.eqvAll]
 |u::us,v::vs=>by
  show(UM (Ke u) (Ke v)&&PyData.eqvAll (us.map Ke) (vs.map Ke))=_
  have e:UM (Ke u) (Ke v)=decide (u=v):=by
   cases u with
   |none=>cases v<;>simp[Ke,UM]
   |some a=>
    cases v with
    |none=>simp[Ke,UM]
    |some b=>by_cases h:a=b<;>simp[Ke,UM,h]
  rw[N8 us vs,e];by_cases h1:u=v<;>by_cases h2:us=vs<;>simp[h1,h2]
theorem qI(us:LO)(L:yq):oIn (Kh us) (.list (L.map Kh))=O (decide (us∈L)):=by
 have hlay:UK (L.map Kh)=ya:=TN λx hx=>by obtain⟨y,_,rfl⟩:=Qt.mp hx;exact OA y
 have hd:=GL us
 show(if(Kh us).canLay0=ya/\UK (L.map Kh)=ya/\(Kh us).depth<=60 then O ((L.map Kh).any λy=>UM y (Kh us))else w9)=_
 rw[Qo ⟨OA us,hlay,by lia⟩]
 congr 1
 rw[Ua,List.any_eq_true,Jn];constructor
 .rintro⟨y,hy,e⟩
  obtain⟨v,hv,rfl⟩:=Qt.mp hy;have e:PyData.eqvAll (v.map Ke) (us.map Ke)=ya:=e;rw[N8]at e;rw[←Qa e];exact hv
 .intro h
  refine⟨Kh us,Qt.mpr ⟨us,h,rfl⟩,?_⟩;show PyData.eqvAll (us.map Ke) (us.map Ke)=ya;rw[N8];simp
theorem ju(us:LO)(L:yq):∃b,Xo (Kh us) (.list (L.map Kh))=O b/\(b=yb->us∈L):=by refine⟨!decide (us∈L),?_,λh=>by simpa using h⟩;unfold Xo;rw[qI];rfl
def Wb(n:Nat)(ws:LO)(r:List Stp)(us:LO):Prop:=∃b,us=(rot b r).foldl (app n) ws
theorem jt(hp:Pairs cs.length m qs){f:Int×Int->Int}(hd:Zi cs qs m ws){U:Nat->Int}(hT:T=Yl (ZR cs f qs ws) U){x:Nat}{r:List Stp}(hr:Path T x r x)(hn:(r.map Stp.a).Nodup){us:LO}(h:Wb cs.length ws r us):Zi cs qs m us/\Kg f 0 us=Kg f 0 ws:=by
 obtain⟨b,rfl⟩:=h;have hin:∀s∈r,IsSt cs f qs ws s:=λs hs=>by have:=hr.mem s hs;rw[hT]at this;exact Xc hp hd s (Jg.mp this).1
 have pr:=Rt b r;obtain⟨h1,h2⟩:=Fc hp hd (λs hs=>hin s (pr.mem_iff.mp hs)) ((pr.map Stp.a).nodup_iff.mpr hn) (((pr.map Stp.b).trans (Mq hr)).trans (pr.map Stp.a).symm);refine⟨h1,?_⟩
 have hg:∀{q p:Nat}{w:List Stp},Path T q w p->U q+Ku w=U p:=λh=>by
  induction h with
  |nil p=>rw[Mc];lia
  |@cons s w p hs h ih=>
   rw[hT]at hs;have e1:=Qa (Jg.mp hs).2;rw[TC]
   lia
 have:=hg hr;rw[h2,F0 pr]
 lia
theorem EF{s:Stp}{w:List Stp}(hs:s∈T)(h:Path T s.b w s.a)(hn:(s.b::w.map Stp.b).Nodup):Path T s.a (s::w) s.a/\((s::w).map Stp.a).Nodup:=by
 refine⟨.cons hs h,?_⟩;have e:=Hg h;have p:((s::w).map Stp.a).Perm (s.b::w.map Stp.b):=by rw[←e,Qs];exact(Uc (l₁:=[s.a]))
 exact p.nodup_iff.mpr hn
theorem qH(g:Good cs ls)(hp:Pairs cs.length ls.length qs){f:Int×Int->Int}(hd:Zi cs qs ls.length ws){U:Nat->Int}(hT:T=Yl (ZR cs f qs ws) U)(hl:T.length<=1000):∃L:yq,Wt [Kh ws,.list (T.map U4),.list (Y3 T (cs.length+1))]=O (.list (L.map Kh)) /\
  ws∈L/\L.length<=1+T.length/\(∀us∈L,Zi cs qs ls.length us/\Kg f 0 us=Kg f 0 ws)/\∀s∈T,VQ T s.b s.a->¬(s.w=w9/\s.b=cs.length)->∃us∈L,∃w,Path T s.b w s.a/\(s.b::w.map Stp.b).Nodup/\Wb cs.length ws (s::w) us:=by
 have c6:=g.c6;have l7:=g.l7;have hTs:∀s∈T,IsSt cs f qs ws s:=λs hs=>by rw[hT]at hs;exact Xc hp hd s (Jg.mp hs).1
 have zD:∀s∈T,s.a<cs.length+1/\s.b<cs.length+1:=λs hs=>(hTs s hs).lt hp hd
 have main:∃d,Wt [Kh ws,.list (T.map U4),.list (Y3 T (cs.length+1))]=O d/\∃L:yq,d=.list (L.map Kh)/\ws∈L/\L.length<=1+T.length/\(∀us∈L,Zi cs qs ls.length us/\Kg f 0 us=Kg f 0 ws)/\∀s∈T,VQ T s.b s.a->¬(s.w=w9/\s.b=cs.length)->∃us∈L,∃w,Path T s.b w s.a/\(s.b::w.map Stp.b).Nodup/\Wb cs.length ws (s::w) us:=by
  refine WD (Z:=[pb (Kh ws),pb (.list (T.map U4)),pb (.list (Y3 T (cs.length+1))),w9,w9,w9,w9,w9,w9,w9,w9,w9]) w8 ?_;unfold T8
  let S0:Option Sl:=O (.pub (Kh ws))
  let S1:Option Sl:=O (.pub (.list (T.map U4)))
  let S2:Option Sl:=O (.pub (.list (Y3 T (cs.length+1))))
  let S3:Option Sl:=O (.pub (.int (cs.length:Nat)))
  have hlen:Kn [.list (Y3 T (cs.length+1))]=O (.int ((cs.length+1:Nat):Int)):=by rw[Zv,Qb,Qp]
  have hsub:KY (.int ((cs.length+1:Nat):Int)) (.int 1)=O (.int (cs.length:Nat)):=by rw[YT];congr 2;lia
  refine Km (Z1:=[S0,S1,S2,S3,w9,w9,w9,w9,w9,w9,w9,w9]) (KE (Kd (ZX w8 hlen) U7 hsub) (Qa w8) w8) ?_;have hls:VT [Kh ws]=O (ws.map Ke):=rfl;refine Km (Z1:=[S0,S1,S2,S3,O (.own ([ws].map Kh)),w9,w9,w9,w9,w9,w9,w9]) (Yo (Wl (U0 (KU (N4 w8 hls)) U3) (Qa w8)) (Qa w8) w8) ?_;apply K1;apply ZA (λj Z=>∃(L:yq)(x5 x6 x7 x8 x9 yK yv:Option Sl),Z=[S0,S1,S2,S3,O (.own (L.map Kh)),x5,x6,x7,x8,x9,yK,yv]/\ws∈L/\L.length<=1+j/\(∀us∈L,Zi cs qs ls.length us/\Kg f 0 us=Kg f 0 ws)/\∀s∈T.take j,VQ T s.b s.a->¬(s.w=w9/\s.b=cs.length)->∃us∈L,∃w,Path T s.b w s.a/\(s.b::w.map Stp.b).Nodup/\Wb cs.length ws (s::w) us)
  case h1=>exact ZB (UW w8) Z9
  case h0=>exact⟨[ws],_,_,_,_,_,_,_,rfl,Qq.mpr w8,Qu _,λus hu=>by cases Qq.mp hu;exact⟨hd,rfl⟩,λs hs=>by rw[JZ]at hs;cases hs⟩
  case hst=>
   rintro j d Z hj ⟨L,x5,x6,x7,x8,x9,yK,yv,rfl,hw,hL,hb,hsh⟩;have yB:j<T.length:=by have:=(Qg.mp hj).1;rwa[Qb]at this
   rw[Qd]at hj;cases hs:T[j]? with
   |none=>rw[hs]at hj;cases hj
   |some s=>
   rw[hs]at hj;cases hj;have hsT:=Qv hs;have hab:=zD s hsT;refine⟨_,U2 (Qa w8) w8,?_⟩;unfold HP
   let S5:Option Sl:=O (.pub (U4 s))
   let S6:Option Sl:=O (.pub (.int (s.a:Nat)))
   let S7:Option Sl:=O (.pub (.int (s.b:Nat)))
   let S8:Option Sl:=O (.pub (.int s.g))
   let S9:Option Sl:=O (.pub (YO s.w))
   refine Km (Z1:=[S0,S1,S2,S3,O (.own (L.map Kh)),S5,S6,S7,S8,S9,yK,yv]) (X8 (UW w8) (Kz w8 (U8 (U2 (Qa w8) w8) (U8 (U2 (Qa w8) w8) (U8 (U2 (Qa w8) w8) (U8 (U2 (Qa w8) w8) KB)))))) ?_;have hnon:isNon (YO s.w)=s.w.isNone:=by cases s.w<;>rfl
   let c10:Bool:=s.w.isNone&&decide ((s.b:Int)=(cs.length:Nat))
   refine Km (Z1:=[S0,S1,S2,S3,O (.own (L.map Kh)),S5,S6,S7,S8,S9,pb (.bool c10),yv]) (KE (On (t:=s.w.isNone) (u:=decide ((s.b:Int)=(cs.length:Nat))) (by rw[←hnon];exact KU (UW w8)) λ_=>KU (Yb w8 (UW w8) XG)) (Qa w8) w8) ?_;have hrd:oIx (.list (Y3 T (cs.length+1))) (.int (s.b:Nat))=O (Xe (ZI T s.b (cs.length+1))):=Zz (by rw[Qd,QO hab.2];rfl)
   have hnext:∀(L':yq),(∀us∈L,us∈L')->(VQ T s.b s.a->¬(s.w=w9/\s.b=cs.length)->∃us∈L',∃w,Path T s.b w s.a/\(s.b::w.map Stp.b).Nodup/\Wb cs.length ws (s::w) us)->∀x∈T.take (j+1),VQ T x.b x.a->¬(x.w=w9/\x.b=cs.length)->∃us∈L',∃w,Path T x.b w x.a/\(x.b::w.map Stp.b).Nodup/\Wb cs.length ws (x::w) us:=λL' hsub hn x hx=>by
    rw[List.take_add_one,hs]at hx;rcases QC.mp hx with hx|hx
    .intro h1 h2
     obtain⟨us,h3,h4⟩:=hsh x hx h1 h2;exact⟨us,hsub us h3,h4⟩
    .have:x=s:=by simpa using hx
     subst this;exact hn
   have hkey:=TB (q:=s.b) (p:=s.a) zD (JL _);by_cases c:Ko (ZI T s.b (cs.length+1)) s.a=ya/\c10=yb
   .obtain⟨c1,c2⟩:=c
    have kR:=(OM T s.b (cs.length+1)).1;have hm:=OK c1;have zZ:=kR.pth _ hm;have hnw:=kR.nd _ hm;have aq:=Gr zD hab.2 kR _ hm;generalize hw0:Xy (ZI T s.b (cs.length+1)) s.a=w at hm zZ hnw aq;have zZ:Path T s.b w s.a:=zZ;have hnw:(s.b::w.map Stp.b).Nodup:=hnw;have aq:w.length<cs.length+1:=aq;obtain⟨r1,r2⟩:=EF hsT zZ hnw;have hadd:U9 (.list [U4 s]) (.list (w.map U4))=O (.list ((s::w).map U4)):=by rw[XF (by rw[Qb,QP];lia)];rfl
    have hget:=Gu c1;rw[hw0]at hget;obtain⟨b,zn,aF,zF⟩:=EG (n:=cs.length) (r:=s::w) (by rw[Qz];lia)
    have hall:∀p∈(rot b (s::w)).filterMap (Xz cs.length),p.1<ws.length:=λp zI=>by
     obtain⟨x,hx,e⟩:=Jo.mp zI;have hxr:x∈s::w:=(Rt b (s::w)).mem_iff.mp hx;cases hTs x (r1.mem x hxr)with
     |@mv i o o' hw' _ _=>cases e;exact(Qg.mp hw').1
     |left _ _=>cases e
     |give _=>cases e
    have zM:=F1 hall;rw[ON]at zM;generalize hus:(rot b (s::w)).foldl (app cs.length) ws=us at zM;have yX:Wb cs.length ws (s::w) us:=⟨b,hus.symm⟩;have aE:=jt hp hd hT r1 r2 yX;refine KR (b:=ya) (Rz (by rw[←c1];exact Yb w8 (KI w8 (UW w8) hrd) WR) ((XJ (t:=c10) (Wk (UW w8))).trans (Uh (λb=>Res.ok b _) (by rw[c2];rfl)))) (λ_=>?_) λz=>by cases z
    refine Km (Z1:=[S0,S1,S2,S3,O (.own (L.map Kh)),S5,S6,S7,S8,S9,pb (.bool c10),pb (Kh us)]) (KE (Ky (U0 (UW w8) (U0 (Ky (U0 (UW w8) (U0 (Kd (ZK (U0 (UW w8) U3) (Qa w8)) (Kd (KI w8 (UW w8) hrd) (UW w8) hget) hadd) U3)) w8 zF) U3)) w8 zM) (Qa w8) w8) ?_;obtain⟨bb,hnin,hnb⟩:=ju us L;refine KR (b:=bb) (NW (UW w8) w8 hnin) (λ_=>?_) λhb0=>?_
    .have e:(L++[us]).map Kh=L.map Kh++[Kh us]:=by rw[QA];rfl
     refine ZQ (X9 w8 (UW w8) w8 (by rw[Qb];lia) w8) (K2 ⟨L++[us],S5,S6,S7,S8,S9,_,_,by rw[e];rfl,QI _ hw,by rw[Qk,QP];lia,λv hv=>?_,?_⟩)
     .rcases QC.mp hv with hv|hv
      .exact hb v hv
      .cases Qq.mp hv;exact aE
     .exact hnext _ (λv hv=>QI _ hv) λ_ _=>⟨us,QE _ (Qq.mpr w8),w,zZ,hnw,yX⟩
    .exact K5 (K2 ⟨L,S5,S6,S7,S8,S9,_,_,rfl,hw,by lia,hb,hnext _ (λv hv=>hv) λ_ _=>⟨us,hnb hb0,w,zZ,hnw,yX⟩⟩)
   .have hf:(Zr (Zl ZU 6 (U6 2 (UT 7))) (K6 (Yt (UT 10)))) [S0,S1,S2,S3,O (.own (L.map Kh)),S5,S6,S7,S8,S9,pb (.bool c10),yv]=.ok yb [S0,S1,S2,S3,O (.own (L.map Kh)),S5,S6,S7,S8,S9,pb (.bool c10),yv]:=by
     cases c1:Ko (ZI T s.b (cs.length+1)) s.a with
     |false=>exact Om (by rw[←c1];exact Yb w8 (KI w8 (UW w8) hrd) WR)
     |true=>
      have c2:c10=ya:=by
       cases c2:c10 with
       |true=>rfl
       |false=>exact absurd ⟨c1,c2⟩ c
      exact Rz (by rw[←c1];exact Yb w8 (KI w8 (UW w8) hrd) WR) ((XJ (t:=c10) (Wk (UW w8))).trans (Uh (λb=>Res.ok b _) (by rw[c2];rfl)))
    refine KR (b:=yb) hf (λz=>by cases z) λ_=>K5 (K2 ⟨L,S5,S6,S7,S8,S9,_,_,rfl,hw,by lia,hb,hnext _ (λv hv=>hv) λh1 h2=>?_⟩)
    refine absurd ⟨hkey.mpr h1,?_⟩ c;cases c2:c10 with
    |false=>rfl
    |true=>obtain⟨d1,d2⟩:=Uk.mp c2;exact absurd ⟨by simpa using d1,by have:=of_decide_eq_true d2;lia⟩ h2
  case hend=>rintro Z ⟨L,x5,x6,x7,x8,x9,yK,yv,rfl,hw,hL,hb,hsh⟩;rw[Qb]at hL hsh;rw[JB]at hsh;exact KQ (KJ (Yy rfl rfl) ⟨_,rfl,L,rfl,hw,hL,hb,hsh⟩)
 obtain⟨d,h1,L,rfl,h2,h3,h4,h5⟩:=main;exact⟨L,h1,h2,h3,h4,h5⟩
structure WebQ(cs:yd)(f:Int×Int->Int)(qs:LP)(m:Nat)(ws:LO)(T:List Stp)(as ps:yd)(L:yq):Prop where
 dl:Zi cs qs m ws
 st:Tr cs f qs ws
 tt:T=Yl (ZR cs f qs ws) (prW cs f qs ws)
 ea:as=askL m (λq=>((cs.length+1:Nat):Int)*f q) (KH T (prW cs f qs ws) cs.length) qs
 ep:ps=(UE cs.length).map (KH T (prW cs f qs ws) cs.length)
 ok:OkP cs.length m (λa b=>f (a,b)) qs ((cs.length+1:Nat):Int) as ps
 cl:Wh cs as ps=((cs.length+1:Nat):Int)*Kg f 0 ws
 len:L.length<=62
 fst:ws∈L
 best:∀us∈L,Zi cs qs m us/\Kg f 0 us=Kg f 0 ws
 shw:∀s∈T,VQ T s.b s.a->¬(s.w=w9/\s.b=cs.length)->∃us∈L,∃w,Path T s.b w s.a/\(s.b::w.map Stp.b).Nodup/\Wb cs.length ws (s::w) us
theorem js{o:Ord}{old:yp}{ts:yd}(g:Good cs ls)(ga:Y1 cs.length ls.length old ts):∃ws T as ps L,Vl [Kq cs ls,K9 o old ts]=O (.tuple [W0 ((cs.length+1:Nat):Int) as ps,.list (L.map Kh)])/\WebQ cs (U5 (KD ls o old ts)) (Kr 0 ls) ls.length ws T as ps L:=by
 have c6:=g.c6;have l7:=g.l7;have hp:=Pn g;have hq:=Ay g;obtain⟨M,zo,hM,hF⟩:∃M:Int,0<=M/\(∀q∈Kr 0 ls,U5 (KD ls o old ts) q<=M)/\ls.length*M<10 ^ 60:=⟨18446744073709551616,by decide,λq hq=>by have:=Me (o:=o) g ga hq;show KD ls o old ts q.1 q.2<=_;lia,by lia⟩
 obtain⟨d,zN,ws,rfl,hd,st⟩:=vO (V:=KD ls o old ts) g hp (by lia) zo hM hF;have hS:∀s∈ZR cs (U5 (KD ls o old ts)) (Kr 0 ls) ws,s.a<cs.length+1/\s.b<cs.length+1:=λs hs=>(Xc hp hd s hs).lt hp hd;have vn:=(Pi (V:=prW cs (U5 (KD ls o old ts)) (Kr 0 ls) ws) hp hd (Xc hp hd) (TD hp hd) (λp=>rfl) st).2;have has:YC [Kq cs ls,.list ((Kr 0 ls).map (Zk (KD ls o old ts))),Kh ws]=O (.list ((ZR cs (U5 (KD ls o old ts)) (Kr 0 ls) ws).map U4)):=MN g hd.len (by rw[hd.len];exact hp) (by rw[hd.len];exact hd) (by lia)
 have hdl:=hd.len;have hal:=kA (f:=U5 (KD ls o old ts)) (ws:=ws) (cs:=cs) (qs:=Kr 0 ls);have hti:=qJ hS vn (by lia) (by lia);generalize hT:Yl (ZR cs (U5 (KD ls o old ts)) (Kr 0 ls) ws) (prW cs (U5 (KD ls o old ts)) (Kr 0 ls) ws)=T at hti;have zD:T.length<=61:=by rw[←hT];exact QJ (Uf _ _) (by lia)
 have hTs:∀s∈T,s.a<cs.length+1/\s.b<cs.length+1:=λs hs=>by rw[←hT]at hs;exact hS s (Jg.mp hs).1
 obtain⟨L,hsh,h1,h2,h3,h4⟩:=qH g hp hd hT.symm (by lia);obtain⟨ok,cl⟩:=jv hp hd st hT.symm;have zH:=v7 (n:=cs.length+1) hTs (by lia);refine⟨ws,T,_,_,L,?_,hd,st,hT.symm,rfl,rfl,ok,cl,by lia,h1,h3,h4⟩;refine Zj (Z:=[pb (Kq cs ls),pb (K9 o old ts),w9,w9,w9,w9,w9]) w8 ?_;unfold T7;refine Km (KE (Ky (U0 (UW w8) (U0 (UW w8) U3)) w8 (wI g ga)) (Qa w8) w8) ?_;refine Km (KE (Ky (U0 (UW w8) (U0 (UW w8) U3)) w8 zN) (Qa w8) w8) ?_;refine Km (KE (Ky (U0 (UW w8) (U0 (UW w8) (U0 (UW w8) U3))) w8 (jy g hp hd (by lia))) (Qa w8) w8) ?_;refine Km (KE (Ky (U0 (Ky (U0 (UW w8) (U0 (UW w8) (U0 (UW w8) U3))) w8 has) (U0 (UW w8) U3)) w8 hti) (Qa w8) w8) ?_;have hlp:Kn [.list (((UE cs.length).map (prW cs (U5 (KD ls o old ts)) (Kr 0 ls) ws)).map int)]=O (.int (cs.length:Nat)):=by rw[Zv,Qb,Qb,Qp]
 have hld:Kn [Kh ws]=O (.int (ls.length:Nat)):=by unfold Kh;rw[Zv,Qb,hd.len]
 refine Km (KE (Ky (U0 (Kd (ZX w8 hlp) U7 K7) (U0 (UW w8) U3)) w8 zH) (Qa w8) w8) ?_;exact KJ (Xl (U0 (Ky (U0 (ZX w8 hld) (U0 (UW w8) (U0 (UW w8) (U0 (UW w8) U3)))) w8 (wU hp (by lia) (by lia) (by lia))) (U0 (Ky (U0 (UW w8) (U0 (UW w8) (U0 (UW w8) U3))) w8 hsh) U3)) (Qa w8)) w8
end
theorem ME{α:Type}{p q:α->Bool}:∀{l:List α},(∀x∈l,p x=ya->q x=ya)->l.countP q=l.countP p->∀x∈l,q x=ya->p x=ya
 |[],_,_,x,hx,_=>by cases hx
 |a::l,h,e,x,hx,hq=>by
  have h':=λy hy=>h y (Qh _ hy);have le:=List.countP_mono_left h';rw[List.countP_cons,List.countP_cons]at e;have ha:=h a Qi
  cases cp:p a with
  |true=>
   rw[cp,ha cp]at e;rcases Qw.mp hx with rfl|hx
   .exact cp
   .exact ME h' (by lia) x hx hq
  |false=>
   rw[cp]at e;cases cq:q a with
   |true=>rw[cq]at e;simp at e;lia
   |false=>
    rw[cq]at e;rcases Qw.mp hx with rfl|hx
    .rw[cq]at hq;cases hq
    .exact ME h' (by simpa using e) x hx hq
theorem jr{S:List Stp}{V:Nat->Int}{n:Nat}(hS:∀s∈S,s.a<n+1/\s.b<n+1)(st:∀s∈S,V s.a+s.g<=V s.b){s:Stp}(hs:s∈S)(e:KH (Yl S V) V n s.a+((n+1:Nat):Int)*s.g=KH (Yl S V) V n s.b):s∈Yl S V/\VQ (Yl S V) s.b s.a:=by
 have hT:∀s∈Yl S V,s.a<n+1/\s.b<n+1:=λs h=>hS s (Jg.mp h).1;have h1:=st s hs;have hab:=hS s hs;have self:Ko (ZI (Yl S V) s.b (n+1)) s.b=ya:=(TB hT (JL _)).mpr ⟨[],.nil _⟩;have lb:0<ZG (Yl S V) (n+1) s.b:=List.countP_pos_iff.mpr ⟨s.b,Q3.mpr hab.2,self⟩;unfold KH at e
 by_cases c:V s.a+s.g=V s.b
 .have hm:s∈Yl S V:=Jg.mpr ⟨hs,Q8 c⟩
  rw[←c,Uj]at e;have le:ZG (Yl S V) (n+1) s.b=ZG (Yl S V) (n+1) s.a:=by lia
  refine⟨hm,?_⟩;have:=ME (p:=λq=>Ko (ZI (Yl S V) q (n+1)) s.a) (q:=λq=>Ko (ZI (Yl S V) q (n+1)) s.b) (l:=UE (n+1)) (λq _ h=>by obtain⟨w,hw⟩:=(TB hT (JL _)).mp h;exact(TB hT (JL _)).mpr ⟨_,hw.append (.cons hm (.nil _))⟩) le s.b (Q3.mpr hab.2) self;exact(TB hT (JL _)).mp this
 .have l1:=PU (Yl S V) (n+1) s.a
  have h2:((n+1:Nat):Int)*(V s.a+s.g+1)<=((n+1:Nat):Int)*V s.b:=Jt (by lia) (by lia);rw[Uj,Uj]at h2
  lia
section
variable{cs:yd}{f:Int×Int->Int}{qs:LP}{m:Nat}{ws us:LO}{T:List Stp}{as ps:yd}{L:yq}
theorem Fm{α β:Type}{f:α->β}:∀{l:List α},(l.map f).Nodup->∀{x y},x∈l->y∈l->f x=f y->x=y
 |a::l,h,x,y,hx,hy,e=>by
  rw[Qs,Jw]at h;rcases Qw.mp hx with h1|h1<;>rcases Qw.mp hy with h2|h2
  .rw[h1,h2]
  .exact absurd (Qt.mpr ⟨y,h2,by rw[←e,h1]⟩) h.1
  .exact absurd (Qt.mpr ⟨x,h1,by rw[e,h2]⟩) h.1
  .exact Fm h.2 h1 h2 e
theorem Fl{n:Nat}{i:Nat}:∀(R:List Stp)(d:LO),(∀s∈R,s.w≠O i)->(R.foldl (app n) d)[i]?=d[i]?
 |[],d,_=>rfl
 |s::R,d,h=>by
  rw[Jx,Fl R _ λx hx=>h x (Qh _ hx)];unfold app;cases hw:s.w with
  |none=>rfl
  |some j=>dsimp only;rw[Qr λz=>h s Qi (by rw[hw,z])]
theorem LI{n:Nat}:∀(R:List Stp)(d:LO),(R.foldl (app n) d).length=d.length
 |[],d=>rfl
 |s::R,d=>by
  rw[Jx,LI R];unfold app;cases s.w with
  |none=>rfl
  |some j=>exact Jc
theorem Lh{n:Nat}{i:Nat}:∀(R:List Stp)(d:LO)(s:Stp),s∈R->s.w=O i->(∀x∈R,x.w=O i->x=s)->i<d.length->(R.foldl (app n) d)[i]?=O (ZZ n s.b)
 |x::R,d,s,hs,hw,hu,hi=>by
  rw[Jx];by_cases c:s∈R
  .exact Lh R _ s c hw (λy hy=>hu y (Qh _ hy)) (by have:=LI (n:=n) [x] d;rw[Jx,List.foldl_nil]at this;lia)
  .have hx:x=s:=by
    rcases Qw.mp hs with h|h
    .exact h.symm
    .exact absurd h c
   subst hx;rw[Fl R _ λy hy z=>c (by rw[←hu y (Qh _ hy) z];exact hy)];unfold app;rw[hw];exact QL hi
theorem Au(hp:Pairs cs.length m qs)(hd:Zi cs qs m ws){r:List Stp}(hr:∀s∈r,IsSt cs f qs ws s)(hn:(r.map Stp.a).Nodup)(h:Wb cs.length ws r us){s:Stp}(hs:s∈r){i:Nat}(hw:s.w=O i):us[i]?=O (ZZ cs.length s.b):=by
 obtain⟨b,rfl⟩:=h;have pr:=Rt b r
 have ai:∀x∈r,∀j,x.w=O j->j<ws.length/\x.a=plF cs.length (ws.getD j w9):=λx hx j e=>by
  cases hr x hx with
  |@mv i o o' h1 _ _=>cases e;exact⟨(Qg.mp h1).1,by rw[Mb h1]⟩
  |left _ _=>cases e
  |give _=>cases e
 refine Lh _ ws s (pr.mem_iff.mpr hs) hw (λx hx hxw=>?_) (ai s hs i hw).1;have hx:=pr.mem_iff.mp hx;have e:x.a=s.a:=(ai x hx i hxw).2.trans (ai s hs i hw).2.symm;exact Fm hn hx hs e
theorem Lg{t:Nat}{s:Stp}(hw:s.w=w9)(hb:s.b=t):∀R:List Stp,s∈R->nIn t R<(R.map Stp.b).count t
 |x::R,hs=>by
  have le:=Nc t R;rw[Qs,JK];by_cases c:s∈R
  .have ih:=Lg hw hb R c
   unfold nIn at ih⊢;rw[List.filter_cons];split
   .rename_i h
    rw[QR]at h;rw[Qz,Qo h.2]
    lia
   .lia
  .have hx:x=s:=by
    rcases Qw.mp hs with h|h
    .exact h.symm
    .exact absurd h c
   subst hx;unfold nIn at le⊢;rw[List.filter_cons_of_neg (by rw[hw];simp),if_pos (by rw[hb];simp)]
   lia
theorem jq(hp:Pairs cs.length m qs)(hd:Zi cs qs m ws){r:List Stp}(hr:∀s∈r,IsSt cs f qs ws s)(hn:(r.map Stp.a).Nodup)(hb:(r.map Stp.b).Perm (r.map Stp.a))(h:Wb cs.length ws r us){s:Stp}(hs:s∈r)(hw:s.w=w9){k:Nat}(hk:k<cs.length)(hsb:s.b=k):((us.count (O (k:Int)):Nat):Int)<cs.getD k 0:=by
 obtain⟨b,rfl⟩:=h;have pr:=Rt b r;have hR:∀s∈rot b r,IsSt cs f qs ws s:=λs hs=>hr s (pr.mem_iff.mp hs);have hnR:((rot b r).map Stp.a).Nodup:=(pr.map Stp.a).nodup_iff.mpr hn;have hbR:((rot b r).map Stp.b).Perm ((rot b r).map Stp.a):=((pr.map Stp.b).trans hb).trans (pr.map Stp.a).symm
 obtain⟨k1,k2,k3,k4⟩:=Pj hp hd (rot b r) ws hR hnR (λs hs i e=>rfl) w8 hd.wish;rw[k4 k hk];have hc:cs[k]?=O (cs.getD k 0):=by rw[Ql,Qe hk];rfl
 have h0:=hd.cop k _ hc;have h1:((rot b r).map Stp.a).count k<=1:=List.nodup_iff_count.mp hnR k;have h2:=Lg hw hsb (rot b r) (pr.mem_iff.mpr hs);rw[hbR.count_eq]at h2;have hmem:k∈(rot b r).map Stp.a:=List.count_pos_iff.mp (by lia);obtain⟨x,hx,zW⟩:=Qt.mp hmem;cases hR x hx with
 |@mv i o o' h hne yM=>
  have:1<=Y6 k (rot b r):=by unfold Y6;exact List.length_pos_iff.mpr (List.ne_nil_of_mem (List.mem_filter.mpr ⟨hx,by simpa using zW⟩))
  lia
 |@left u c' h hl=>
  have zW:u=k:=zW;subst zW;rw[h]at hc;cases hc
  lia
 |@give u h=>
  have zW:cs.length=k:=zW
  lia
theorem Lf(wq:WebQ cs f qs m ws T as ps L){k:Nat}(hk:k<cs.length):ps.getD k 0=KH T (prW cs f qs ws) cs.length k:=by rw[wq.ep,Ql,Qd,QO hk];rfl
theorem Eg(hp:Pairs cs.length m qs)(wq:WebQ cs f qs m ws T as ps L):KH T (prW cs f qs ws) cs.length cs.length=0:=by
 have vn:=(Pi (V:=prW cs f qs ws) hp wq.dl (Xc hp wq.dl) (TD hp wq.dl) (λp=>rfl) wq.st).2;unfold KH;rw[vn,J9]
 lia
theorem Fk(hp:Pairs cs.length m qs)(wq:WebQ cs f qs m ws T as ps L):Nb cs f ((cs.length+1:Nat):Int) as ps ws:=(Fo hp wq.dl wq.ok).2.mp wq.cl.symm
theorem Gq(hp:Pairs cs.length m qs)(wq:WebQ cs f qs m ws T as ps L){s:Stp}(hs:IsSt cs f qs ws s)(e:KH T (prW cs f qs ws) cs.length s.a+((cs.length+1:Nat):Int)*s.g=KH T (prW cs f qs ws) cs.length s.b)(hl:¬(s.w=w9/\s.b=cs.length)):∃us∈L,∃r,s∈r/\(∀x∈r,IsSt cs f qs ws x)/\(r.map Stp.a).Nodup/\(r.map Stp.b).Perm (r.map Stp.a)/\Wb cs.length ws r us:=by
 obtain⟨st,vn⟩:=Pi (V:=prW cs f qs ws) hp wq.dl (Xc hp wq.dl) (TD hp wq.dl) (λp=>rfl) wq.st;have hS:∀s∈ZR cs f qs ws,s.a<cs.length+1/\s.b<cs.length+1:=λs hs=>(Xc hp wq.dl s hs).lt hp wq.dl;rw[wq.tt]at e
 obtain⟨h1,h2⟩:=jr hS st (TD hp wq.dl s hs) e;rw[←wq.tt]at h1 h2;obtain⟨us,hu,w,p1,p2,p3⟩:=wq.shw s h1 h2 hl;obtain⟨r1,r2⟩:=EF h1 p1 p2;refine⟨us,hu,s::w,Qi,λx hx=>?_,r2,Mq r1,p3⟩;have:=r1.mem x hx;rw[wq.tt]at this;exact Xc hp wq.dl x (Jg.mp this).1
theorem vM(hp:Pairs cs.length m qs)(wq:WebQ cs f qs m ws T as ps L){i:Nat}(hi:i<m)(e:as.getD i 0=0):∃us∈L,us[i]?=O w9:=by
 have yx:i<ws.length:=by rw[wq.dl.len];exact hi
 have hw:ws[i]?=O ws[i]:=Qe yx;generalize ws[i]=o at hw;have tw:=Fk hp wq;cases o with
 |none=>exact⟨ws,wq.fst,hw⟩
 |some u=>
  have hs:IsSt cs f qs ws ⟨plF cs.length (O u),plF cs.length w9,Kl f i w9-Kl f i (O u),O i⟩:=.mv hw (λz=>by cases z) λu e=>by cases e
  have h1:=tw.got i u hw;have hu:=hp.lo _ (wq.dl.wish i u hw);have h2:=Lf wq (k:=u.toNat) (by have:=hu.2.2;lia);have h3:=Eg hp wq;have he:KH T (prW cs f qs ws) cs.length u.toNat+((cs.length+1:Nat):Int)*(0-f ((i:Int),u))=KH T (prW cs f qs ws) cs.length cs.length:=by rw[h3,←h2,Int.mul_sub,J9];omega
  obtain⟨us,hu,r,r1,r2,r3,_,r4⟩:=Gq hp wq hs he (λz=>by cases z.1);refine⟨us,hu,?_⟩;rw[Au hp wq.dl r2 r3 r4 r1 w8];show O (ZZ cs.length cs.length)=_;unfold ZZ;rw[Qo w8]
theorem vL(hp:Pairs cs.length m qs)(wq:WebQ cs f qs m ws T as ps L){k:Nat}(hk:k<cs.length)(e:ps.getD k 0=0):∃us∈L,((us.count (O (k:Int)):Nat):Int)<cs.getD k 0:=by
 have h2:=Lf wq hk;have h3:=Eg hp wq;have he:KH T (prW cs f qs ws) cs.length cs.length+((cs.length+1:Nat):Int)*0=KH T (prW cs f qs ws) cs.length k:=by rw[h3,J9,←h2,e];rfl
 obtain⟨us,hu,r,r1,r2,r3,r5,r4⟩:=Gq hp wq (.give hk) he (λz=>by have:k=cs.length:=z.2;lia);exact⟨us,hu,jq hp wq.dl r2 r3 r5 r4 r1 w8 hk w8⟩
structure Tj(cs:yd)(f:Int×Int->Int)(qs:LP)(m:Nat)(us:LO):Prop where
 dl:Zi cs qs m us
 mx:∀vs,Zi cs qs m vs->Kg f 0 vs<=Kg f 0 us
theorem Gp(hp:Pairs cs.length m qs)(wq:WebQ cs f qs m ws T as ps L):Tj cs f qs m ws:=⟨wq.dl,λvs hv=>vN hp wq.dl wq.st hv⟩
theorem Em(hp:Pairs cs.length m qs)(wq:WebQ cs f qs m ws T as ps L)(h:Tj cs f qs m us):Nb cs f ((cs.length+1:Nat):Int) as ps us:=by refine(Fo hp h.dl wq.ok).2.mp ?_;have h1:=h.mx ws wq.dl;have h2:=(Gp hp wq).mx us h.dl;rw[wq.cl,JT h1 h2]
theorem El(hp:Pairs cs.length m qs)(wq:WebQ cs f qs m ws T as ps L)(h:us∈L):Tj cs f qs m us:=by obtain⟨h1,h2⟩:=wq.best us h;exact⟨h1,λvs hv=>by rw[h2];exact(Gp hp wq).mx vs hv⟩
theorem jg(hp:Pairs cs.length m qs)(wq:WebQ cs f qs m ws T as ps L){i:Nat}(hi:i<m):as.getD i 0=0 ↔ ∃us,Tj cs f qs m us/\us[i]?=O w9:=
 ⟨λe=>let ⟨us,h1,h2⟩:=vM hp wq hi e;⟨us,El hp wq h1,h2⟩,λ⟨us,h1,h2⟩=>(Em hp wq h1).non i h2⟩
theorem jf(hp:Pairs cs.length m qs)(wq:WebQ cs f qs m ws T as ps L){k:Nat}(hk:k<cs.length):ps.getD k 0=0 ↔ ∃us,Tj cs f qs m us/\((us.count (O (k:Int)):Nat):Int)<cs.getD k 0:=
 ⟨λe=>let ⟨us,h1,h2⟩:=vL hp wq hk e;⟨us,El hp wq h1,h2⟩,λ⟨us,h1,h2⟩=>by
  rcases(Em hp wq h1).all k hk with z|z
  .exact z
  .lia⟩
end
noncomputable def KL(xs:yd):yd:=((UE xs.length).filter λi=>decide (0<xs.getD i 0)).map λi:Nat=>(i:Int)
theorem jp{xs:yd}(hl:xs.length<=1000){Z:UU}(h:∃x,Z=[x,w9,w9]):K4 (gT 2 (gNC (gN 1) (gNC (gN 2) gN0))) (Zl (oIB λi j=>decide (j<i)) 2 (U1 (.int 0))) (UT 1) (Yq 0 (xs.map int)) Z []=O ((KL xs).map int):=by
 have e:Yq 0 (xs.map int)=(UE xs.length).map λi=>PyData.tuple [.int (i:Nat),.int (xs.getD i 0)]:=by
  apply Ug;intro i;rw[OI,Qd,Qd,Q0];by_cases c:i<xs.length
  .rw[QO c]
   show Option.map _ (Option.map _ xs[i]?)=O (PyData.tuple [.int (i:Nat),.int (xs.getD i 0)]);rw[Ql,Qe c];rfl
  .rw[Q9 (by lia),Q9 (l:=UE xs.length) (by rw[Qp];lia)]
   rfl
 rw[e];have h:∃x y z,Z=[x,y,z]:=let ⟨x,e⟩:=h;⟨x,_,_,e⟩
 refine(WW (λi:Nat=>PyData.tuple [.int (i:Nat),.int (xs.getD i 0)]) (λi=>decide (0<xs.getD i 0)) (λi:Nat=>int (i:Nat)) (λZ=>∃x y z,Z=[x,y,z]) (UE xs.length) _ [] ?_ h (by rw[QF,Qp];lia)).trans (by rw[QY];unfold KL;rw[Jl];rfl);rintro i hi Z ⟨x,y,z,rfl⟩;exact⟨[x,pb (.int (i:Nat)),pb (.int (xs.getD i 0))],Kz w8 (U8 (U2 (Qa w8) w8) (U8 (U2 (Qa w8) w8) KB)),Yb w8 U7 Lq,λ_=>UW w8,YX x,_,_,rfl⟩
theorem LH{N:List Str}{g:SM}{f:M yc}{ds r:yc}{Z:UU}(h0:YV N ds=Z)(h:Ho g Z λo=>∃Z1,o=.nx Z1/\∃Z2,f Z1=.ok r Z2):YK N g f ds=O r:=by subst h0;obtain⟨Z1,e,Z2,e2⟩:=h.out;unfold YK;rw[e];dsimp only;rw[e2]
section
variable{cs:yd}{ls:L3}{o:Ord}{old:yp}{ts:yd}{ws:LO}{T:List Stp}{as ps:yd}{L:yq}
noncomputable abbrev XR(n:Nat)(as ps:yd)(L:yq):D:=.tuple [W0 ((n+1:Nat):Int) as ps,.list (L.map Kh)]
theorem jo{n:Nat}{V:Nat->Int}{M:Int}(hV:∀p,0<=V p/\V p<=M)(hn:n<=100)(p:Nat) : -1000<=KH T V n p/\KH T V n p<=101*M+1000:=by
 have h1:=hV p;have l1:=PU T (n+1) p;have l2:=PU T (n+1) n;have h2:((n+1:Nat):Int)*V p<=((n+1:Nat):Int)*M:=Jt h1.2 (by lia);have h3:((n+1:Nat):Int)*M<=101*M:=Int.mul_le_mul_of_nonneg_right (by lia) (by lia);have h4:0<=((n+1:Nat):Int)*V p:=Int.mul_nonneg (by lia) h1.1;unfold KH
 lia
theorem jn(g:Good cs ls)(ga:Y1 cs.length ls.length old ts)(wq:WebQ cs (U5 (KD ls o old ts)) (Kr 0 ls) ls.length ws T as ps L):(∀a∈as,0<=a/\a<10 ^ 40)/\∀p∈ps,0<=p/\p<10 ^ 40:=by
 have c6:=g.c6;have l7:=g.l7;have hp:=Pn g;have tw:=Fk hp wq
 have hps:∀p∈ps,0<=p/\p<10 ^ 40:=λp zI=>by
  refine⟨wq.ok.pp p zI,?_⟩;rw[wq.ep]at zI;obtain⟨k,_,rfl⟩:=Qt.mp zI;have:=(jo (T:=T) (n:=cs.length) (λq=>jx (o:=o) g ga wq.dl q) (by lia) k).2
  lia
 refine⟨λa ha=>?_,hps⟩;refine⟨wq.ok.aa a ha,?_⟩;obtain⟨i,hi⟩:=JR.mp ha;have hia:i<as.length:=(Qg.mp hi).1;have yx:i<ws.length:=by rw[wq.dl.len,←wq.ok.la];exact hia
 have e:as.getD i 0=a:=by rw[Ql,hi];rfl
 have hw:ws[i]?=O ws[i]:=Qe yx;generalize ws[i]=oo at hw;cases oo with
 |none=>have:=tw.non i hw;lia
 |some t=>
  have h1:=tw.got i t hw;have hq:=wq.dl.wish i t hw;have hb:=hp.lo _ hq;have hm:=Me (o:=o) g ga hq;have hm:U5 (KD ls o old ts) ((i:Int),t)<18446744073709551616:=hm.2;have h2:((cs.length+1:Nat):Int)*U5 (KD ls o old ts) ((i:Int),t)<=((cs.length+1:Nat):Int)*18446744073709551616:=Jt (by lia) (by lia);have h3:0<=ps.getD t.toNat 0:=by have hb:=hb.2.2;rw[Ql,Qe (by rw[wq.ok.lp];lia)];exact wq.ok.pp _ (Jp _)
  lia
theorem LG{xs:yd}{m:Nat}(h:∀x∈xs,0<=x/\x<10 ^ 40)(hl:xs.length<=m):Pz 1 m (.list (xs.map int)):=by have:=Nw (k:=0) (n:=0) (m:=m) (xs:=xs.map int) (λx hx=>by obtain⟨i,hi,rfl⟩:=Qt.mp hx;have:=h i hi;exact Nd (by lia)) (by rw[Qb];exact hl);rwa[show m*(0+1)=m by lia]at this
theorem At{us:LO}{m:Nat}(h:∀t,O t∈us->0<=t/\t<100)(hl:us.length<=m):Pz 1 m (Kh us):=by
 have:=Nw (k:=0) (n:=0) (m:=m) (xs:=us.map Ke) (λx hx=>by
  obtain⟨oo,ho,rfl⟩:=Qt.mp hx;cases oo with
  |none=>exact Cq
  |some t=>have:=h t ho;exact Nd (by lia)) (by rw[Qb];exact hl)
 rwa[show m*(0+1)=m by lia]at this
theorem je(g:Good cs ls)(ga:Y1 cs.length ls.length old ts)(wq:WebQ cs (U5 (KD ls o old ts)) (Kr 0 ls) ls.length ws T as ps L):Pz 3 1200 (XR cs.length as ps L):=by
 have c6:=g.c6;have l7:=g.l7;obtain⟨h1,h2⟩:=jn g ga wq;have ha:Pz 1 7 (.list (as.map int)):=LG h1 (by rw[wq.ok.la];exact l7);have hps:Pz 1 7 (.list (ps.map int)):=LG h2 (by rw[wq.ok.lp];lia)
 have hpap:Pz 2 24 (W0 ((cs.length+1:Nat):Int) as ps):=by
  refine Lj (k:=1) (n:=7) (m:=3) (λx hx=>?_) (Qu _);rcases Qw.mp hx with rfl|hx
  .exact Nd (by lia)
  rcases Qw.mp hx with rfl|hx
  .exact ha
  .rw[Qq.mp hx];exact hps
 have hL:Pz 2 496 (.list (L.map Kh)):=Nw (k:=1) (n:=7) (m:=62) (λx hx=>by
  obtain⟨us,hu,rfl⟩:=Qt.mp hx;have hd:=(wq.best us hu).1;refine At (λt ht=>?_) (by rw[hd.len];exact l7);obtain⟨i,hi⟩:=JR.mp ht;have:=(Pn g).lo _ (hd.wish i t hi);have:=this.2.2
  lia) (by rw[Qb];exact wq.len)
 exact(Lj (k:=2) (n:=496) (m:=2) (λx hx=>by
  rcases Qw.mp hx with rfl|hx
  .exact hpap.mono (Qu _) (by lia)
  .rw[Qq.mp hx];exact hL) (Qu _)).mono (Qu _) (by lia)
theorem Go{xs:yd}(hl:xs.length<=1000):RI [.list (xs.map int)]=O ((KL xs).map int):=by exact DE (Z:=[pb (.list (xs.map int))]) w8 w8 (Yc (XQ (U0 (UW w8) U3) XN) (jp hl ⟨_,rfl⟩))
theorem jm(hl:as.length<=1000):OT [XR cs.length as ps L]=O ((KL as).map int):=by refine LH (Z:=[pb (XR cs.length as ps L),w9,w9,w9,w9,w9]) w8 ?_;unfold MC;refine Km (X8 (UW w8) (Kz w8 (U8 (U2 (Qa w8) w8) (U8 (U2 (Qa w8) w8) KB)))) ?_;refine Km (X8 (UW w8) (Kz w8 (U8 (U2 (Qa w8) w8) (U8 (U2 (Qa w8) w8) (U8 (U2 (Qa w8) w8) KB))))) ?_;exact K5 ⟨_,rfl,_,Oi (U0 (UW w8) U3) w8 (Go hl)⟩
theorem As(hl:ps.length<=1000):Of [XR cs.length as ps L]=O ((KL ps).map int):=by refine LH (Z:=[pb (XR cs.length as ps L),w9,w9,w9,w9,w9]) w8 ?_;unfold NM;refine Km (X8 (UW w8) (Kz w8 (U8 (U2 (Qa w8) w8) (U8 (U2 (Qa w8) w8) KB)))) ?_;refine Km (X8 (UW w8) (Kz w8 (U8 (U2 (Qa w8) w8) (U8 (U2 (Qa w8) w8) (U8 (U2 (Qa w8) w8) KB))))) ?_;exact K5 ⟨_,rfl,_,Oi (U0 (UW w8) U3) w8 (Go hl)⟩
end
section
variable{cs:yd}{ls:L3}{ws:LO}{W:List (Nat×yi)}{o:Ord}{old:yp}{ts:yd}
theorem jk(g:Good cs ls)(ga:Y1 cs.length ls.length old ts)(dl:Deal cs ls ws):Ws [Kq cs ls,K9 o old ts,Kh ws]=O (.int (ZC (YA (Zp ls o old ts) 0 ls ws))):=by
 let S0:Option Sl:=O (.pub (Kq cs ls))
 let S1:Option Sl:=O (.pub (K9 o old ts))
 let S2:Option Sl:=O (.pub (Kh ws))
 have hl:=dl.len
 let G:=YA (Zp ls o old ts) 0 ls ws
 refine Zj (Z:=[S0,S1,S2,w9,w9,w9]) w8 ?_;unfold TX;refine Km (KE U7 (Qa w8) w8) ?_;apply K1;apply ZA (λk Z=>∃x4 x5,Z=[S0,S1,S2,pb (.int (ZC (G.take k))),x4,x5])
 case h1=>exact XQ (U0 (UW w8) U3) XN
 case h0=>exact⟨_,_,rfl⟩
 case hst=>
  rintro k d Z hk ⟨x4,x5,rfl⟩;obtain⟨x,hx,rfl⟩:=XE hk;rw[Q0];rw[Qd]at hx;cases hp:ws[k]? with
  |none=>rw[hp]at hx;cases hx
  |some w=>
  rw[hp]at hx;cases hx;have yO:k<ls.length:=by have:=(Qg.mp hp).1;lia
  have hs:ls[k]?=O ls[k]:=Qe yO;have hG:G[k]?=O (w.map (Zp ls o old ts k ls[k])):=by have:=Fi (W:=Zp ls o old ts) (k:=0) hs hp;rw[Q0]at this;exact this
  have al:ZC (G.take (k+1))=ZC (G.take k)+(w.map (Zp ls o old ts k ls[k])).getD 0:=by
   rw[JQ,hG,wt]
   congr 1
   exact(FG (l:=[])).trans (Int.add_zero _)
  refine⟨_,Kz w8 (U8 (U2 (Qa w8) w8) (U8 (U2 (Qa w8) w8) KB)),?_⟩;unfold LW;cases w with
  |none=>
   refine KR (b:=yb) (MY (d:=.none) (UW w8) w8) (λz=>by cases z) λ_=>K5 (K2 ⟨O (.pub (.int (k:Nat))),O (.pub .none),?_⟩)
   rw[al];show _=[S0,S1,S2,pb (.int (ZC (G.take k)+0)),_,_];rw[Int.add_zero];rfl
  |some t=>
   refine KR (b:=ya) (MY (d:=.int t) (UW w8) w8) (λ_=>ZQ (KE (Kd (UW w8) (Ky (U0 (UW w8) (U0 (UW w8) (U0 (UW w8) (U0 (UW w8) U3)))) w8 (wA g ga hs (dl.wish k t _ hp hs))) K7) (Qa w8) w8) (K2 ⟨O (.pub (.int (k:Nat))),pb (.int t),?_⟩)) λz=>by cases z
   rw[al];rfl
 case hend=>rintro Z ⟨x4,x5,rfl⟩;refine KQ (KJ (UW rfl) ?_);rw[YH,Qb,List.take_of_length_le (by rw[GH hl];lia)]
end
theorem Fj(X:yq):oEq (.list (X.map Kh)) (.list [])=O (decide (X=[])):=by
 cases X with
 |nil=>decide +kernel
 |cons a r=>
  have lay:UK ((a::r).map Kh)=ya:=TN λx hx=>by obtain⟨y,_,rfl⟩:=Qt.mp hx;exact OA y
  have dep:(UG ((a::r).map Kh)).depth<=60:=by
   have h:=Ps (k:=2) (xs:=(a::r).map Kh) λx hx=>by obtain⟨y,_,rfl⟩:=Qt.mp hx;exact GL y
   simp only[UL]
   lia
  unfold oEq;rw[Qo ⟨lay,rfl,by lia⟩];rfl
theorem v6{p:Nat->Bool}:∀(n:Nat),(UE (n+1)).filter p=(UE n).filter p++if p n=ya then [n]else []:=λn=>by
 rw[Uq,List.filter_append]
 congr 1
 cases h:p n with
 |true=>rw[List.filter_cons_of_pos h,Qo w8];rfl
 |false=>rw[List.filter_cons_of_neg (by rw[h];simp),if_neg (by decide)];rfl
section
variable{cs:yd}{ls:L3}{o:Ord}{old:yp}{ts:yd}
theorem Ar(g:Good cs ls)(ga:Y1 cs.length ls.length old ts){X:yq}(hX:∀us,us∈X ↔ Tj cs (U5 (KD ls o old ts)) (Kr 0 ls) ls.length us)(hXl:X.length<=1000):Vd [Kq cs ls,K9 o old ts,.list (X.map Kh)]=O (.bool ya):=by
 have c6:=g.c6;have l7:=g.l7;have hp:=Pn g;obtain⟨ws,T,as,ps,L,hweb,wq⟩:=js (o:=o) g ga;have hla:=wq.ok.la;have hlp:=wq.ok.lp;have hXm:∀us∈X,us.length=ls.length:=λus hu=>((hX us).mp hu).dl.len;refine Zj (Z:=[pb (Kq cs ls),pb (K9 o old ts),pb (.list (X.map Kh)),w9,w9,w9,w9,w9,w9,w9,w9]) w8 ?_;unfold TV
 let S0:Option Sl:=O (.pub (Kq cs ls))
 let S1:Option Sl:=O (.pub (K9 o old ts))
 let S2:Option Sl:=O (.pub (.list (X.map Kh)))
 let W:=XR cs.length as ps L
 let S3:Option Sl:=O (.pub W)
 let S4:Option Sl:=O (.pub (.str W.shown))
 obtain⟨hrep,heq⟩:=Cp (je g ga wq) (by decide) (by decide);refine Km (Z1:=[S0,S1,S2,S3,w9,w9,w9,w9,w9,w9,w9]) (KE (Ky (U0 (UW w8) (U0 (UW w8) U3)) w8 hweb) (Qa w8) w8) ?_;refine Km (Z1:=[S0,S1,S2,S3,S4,w9,w9,w9,w9,w9,w9]) (KE (ZS (U0 (UW w8) U3) hrep) (Qa w8) w8) ?_;refine Km (Z1:=[S0,S1,S2,S3,S4,O (.own []),w9,w9,w9,w9,w9]) (Yo (Wl U3 (Qa w8)) (Qa w8) w8) ?_
 let pA:yd->Nat->yc:=λxs k=>(((UE k).filter λi=>decide (0<xs.getD i 0)).map λi:Nat=>(i:Int)).map int
 have pAs:∀xs k,pA xs (k+1)=pA xs k++if 0<xs.getD k 0 then [.int (k:Nat)]else []:=λxs k=>by
  show(((UE (k+1)).filter _).map _).map _=_
  rw[v6,QA,QA]
  congr 1
  by_cases h:0<xs.getD k 0
  .rw[Qo (Q8 h),Qo h];rfl
  .rw[QB (by rw[QU h];decide),QB h];rfl
 have pAl:∀xs k,(pA xs k).length<=k:=λxs k=>by
  show((((UE k).filter _).map _).map _).length<=k
  rw[Qb,Qb];have:=Uf (λi=>decide (0<xs.getD i 0)) (UE k);rwa[Qp]at this
 apply K1;apply ZA (λk Z=>∃x6,Z=[S0,S1,S2,S3,S4,O (.own (pA as k)),x6,w9,w9,w9,w9])
 case h1=>exact Xi (U0 (ZS (U0 (KI w8 U7 WB) U3) Zv) U3) (Xg (by rw[Qb];lia) (by lia))
 case h0=>exact⟨_,rfl⟩
 case hst=>
  rintro i d Z hi ⟨x6,rfl⟩;obtain⟨rfl,hlt⟩:=Wa hi;rw[Qb]at hlt;have yx:i<ls.length:=by lia
  refine⟨_,U2 (Qa w8) w8,?_⟩;rw[Jy];unfold LZ
  let Y:=X.filter λus=>isNon (Ke (us.getD i w9))
  have hc:K4 (gN 11) (Kb isNon (U6 11 (UT 6))) (UT 11) (X.map Kh) (Ks [S0,S1,S2,S3,S4,O (.own (pA as i)),pb (.int (i:Nat)),w9,w9,w9,w9]++UF 1 w9) []=O (Y.map Kh):=by refine(WW Kh (λus=>isNon (Ke (us.getD i w9))) Kh (λZ=>∃x,Z=[S0,S1,S2,S3,S4,w9,pb (.int (i:Nat)),w9,w9,w9,w9,x]) X _ [] ?_ ⟨w9,rfl⟩ (by rw[QF];lia)).trans (by rw[QY]);rintro us hu Z ⟨x,rfl⟩;have hix:=Op (ws:=us) (k:=(i:Int)) (by lia) (by rw[hXm us hu];lia);rw[QM]at hix;exact⟨_,U2 (Qa w8) w8,KU (KI w8 (UW w8) hix),λ_=>UW w8,_,rfl⟩
  have hY:decide (Y=[])=decide (0<as.getD i 0):=by
   rw[Ua,Jn,Jn];have h0:0<=as.getD i 0:=by rw[Ql,Qe (by lia)];exact wq.ok.aa _ (Jp _)
   have key:=jg hp wq (i:=i) (by lia);constructor
   .intro hy
    by_cases z:as.getD i 0=0
    .obtain⟨us,h1,h2⟩:=key.mp z
     have hm:us∈Y:=Jg.mpr ⟨(hX us).mpr h1,by rw[Ql,h2];rfl⟩;rw[hy]at hm;cases hm
    .lia
   .intro hpos
    refine List.filter_eq_nil_iff.mpr λus hu hz=>?_;have hm:=(hX us).mp hu;have hl:i<us.length:=by rw[hm.dl.len];lia
    have hg:us[i]?=O us[i]:=Qe hl;rw[Ql,hg]at hz;cases hv:us[i]with
    |none=>rw[hv]at hg;have:=key.mpr ⟨us,hm,hg⟩;lia
    |some t=>rw[hv]at hz;cases hz
  refine KR (b:=decide (0<as.getD i 0)) (Z1:=[S0,S1,S2,S3,S4,O (.own (pA as i)),pb (.int (i:Nat)),w9,w9,w9,w9]) (Kd (KU (Yc (ZB (UW w8) Z9) hc)) (ZK U3 (Qa w8)) (by rw[Fj,hY])) (λh=>?_) λh=>?_
  .refine ZQ (X9 w8 (UW w8) w8 (by have:=pAl as i;lia) w8) (K2 ⟨O (.pub (.int (i:Nat))),?_⟩)
   rw[pAs,Qo (Qa h)];rfl
  .refine K5 (K2 ⟨O (.pub (.int (i:Nat))),?_⟩)
   rw[pAs,QB (Jf h),Q2]
 case hend=>
 rintro Z ⟨x6,rfl⟩;rw[YI,Qb,show((ls.length:Int)-0).toNat=ls.length by lia];refine KQ ?_;have eA:pA as ls.length=(KL as).map int:=by show _=(KL as).map _;unfold KL;rw[hla]
 rw[eA]
 let S5:Option Sl:=O (.own ((KL as).map int))
 refine Km (Z1:=[S0,S1,S2,S3,S4,S5,x6,O (.own []),w9,w9,w9]) (Yo (Wl U3 (Qa w8)) (Qa w8) w8) ?_;have yN:Kn [.list (cs.map int)]=O (.int (cs.length:Nat)):=by rw[Zv,Qb]
 apply K1;apply ZA (λk Z=>∃x8,Z=[S0,S1,S2,S3,S4,S5,x6,O (.own (pA ps k)),x8,w9,w9])
 case h1=>exact Xi (U0 (ZS (U0 (KI w8 U7 WM) U3) yN) U3) (Xg (by lia) (by lia))
 case h0=>exact⟨_,rfl⟩
 case hst=>
  rintro i d Z hi ⟨x8,rfl⟩;obtain⟨rfl,hlt⟩:=Wa hi;have yx:i<cs.length:=by lia
  refine⟨_,U2 (Qa w8) w8,?_⟩;rw[Jy];unfold L1;have hic:oIx (.list (cs.map int)) (.int (i:Nat))=O (.int (cs.getD i 0)):=B4 (k:=(i:Int)) (by lia) (by lia)
  let Y:=X.filter λus=>decide (((us.count (O (i:Int)):Nat):Int)<cs.getD i 0)
  have hc:K4 (gN 11) (UY (oIB λi j=>decide (i<j)) (V5 (UT 11) (UX (UT 8) (UV))) (UY oIx (U6 0 (U1 (.int 0))) (UT 8))) (UT 11) (X.map Kh) (Ks [S0,S1,S2,S3,S4,S5,x6,O (.own (pA ps i)),pb (.int (i:Nat)),w9,w9]++UF 1 w9) []=O (Y.map Kh):=by refine(WW Kh (λus=>decide (((us.count (O (i:Int)):Nat):Int)<cs.getD i 0)) Kh (λZ=>∃x y6,Z=[S0,S1,S2,S3,S4,w9,y6,w9,pb (.int (i:Nat)),w9,w9,x]) X _ [] ?_ ⟨w9,_,rfl⟩ (by rw[QF];lia)).trans (by rw[QY]);rintro us hu Z ⟨x,y6,rfl⟩;exact⟨_,U2 (Qa w8) w8,Kd (N6 (UW w8) (U0 (UW w8) U3) Mv) (Kd (KI w8 U7 WM) (UW w8) hic) Lq,λ_=>UW w8,_,YX y6,rfl⟩
  have hY:decide (Y=[])=decide (0<ps.getD i 0):=by
   rw[Ua,Jn,Jn];have h0:0<=ps.getD i 0:=by rw[Ql,Qe (by lia)];exact wq.ok.pp _ (Jp _)
   have key:=jf hp wq (k:=i) yx;constructor
   .intro hy
    by_cases z:ps.getD i 0=0
    .obtain⟨us,h1,h2⟩:=key.mp z
     have hm:us∈Y:=Jg.mpr ⟨(hX us).mpr h1,Q8 h2⟩;rw[hy]at hm;cases hm
    .lia
   .intro hpos
    refine List.filter_eq_nil_iff.mpr λus hu hz=>?_
    have:=key.mpr ⟨us,(hX us).mp hu,Qa hz⟩
    lia
  refine KR (b:=decide (0<ps.getD i 0)) (Z1:=[S0,S1,S2,S3,S4,S5,x6,O (.own (pA ps i)),pb (.int (i:Nat)),w9,w9]) (Kd (KU (Yc (ZB (UW w8) Z9) hc)) (ZK U3 (Qa w8)) (by rw[Fj,hY])) (λh=>?_) λh=>?_
  .refine ZQ (X9 w8 (UW w8) w8 (by have:=pAl ps i;lia) w8) (K2 ⟨O (.pub (.int (i:Nat))),?_⟩)
   rw[pAs,Qo (Qa h)];rfl
  .refine K5 (K2 ⟨O (.pub (.int (i:Nat))),?_⟩)
   rw[pAs,QB (Jf h),Q2]
 case hend=>
 rintro Z ⟨x8,rfl⟩;rw[YI,show((cs.length:Int)-0).toNat=cs.length by lia];refine KQ ?_;have eP:pA ps cs.length=(KL ps).map int:=by show _=(KL ps).map _;unfold KL;rw[hlp]
 rw[eP]
 let S7:Option Sl:=O (.own ((KL ps).map int))
 have posl:∀xs:yd,(KL xs).length<=xs.length:=λxs=>by unfold KL;rw[Qb];have:=Uf (λi=>decide (0<xs.getD i 0)) (UE xs.length);rwa[Qp]at this
 have la:=posl as;have lp:=posl ps
 let FD:D:=.list [.list ((KL as).map int),.list ((KL ps).map int)]
 apply K1;apply ZA (λ_ Z=>∃x9 yK,Z=[S0,S1,S2,S3,S4,S5,x6,S7,x8,x9,yK])
 case h1=>exact Xi (U0 U7 U3) (Xg (by decide) (by decide))
 case h0=>exact⟨_,_,rfl⟩
 case hst=>
  rintro i d Z hi ⟨x9,yK,rfl⟩;refine⟨_,U2 (Qa w8) w8,?_⟩;unfold L4;refine Km (Z1:=[S0,S1,S2,S3,S4,S5,x6,S7,x8,pb d,O (.deep (.lst (.lst .leaf)) FD)]) (Hw (q9 (c:=UG) (GP (KU (Oi (U0 (UW w8) U3) w8 (jm (by lia)))) (GP (KU (Oi (U0 (UW w8) U3) w8 (As (by lia)))) U3)) (Qa w8)) (Qa w8) w8) ?_
  have hne:oNe FD FD=O yb:=B9 (TN λx hx=>by
   rcases Qw.mp hx with rfl|hx
   .exact Mi _
   .rw[Qq.mp hx];exact Mi _) (by
   have h1:=Mh (KL as);have h2:=Mh (KL ps)
   have h:=Ps (k:=10) (xs:=[.list ((KL as).map int),.list ((KL ps).map int)]) λx hx=>by
    rcases Qw.mp hx with rfl|hx
    .unfold Zt at h1;lia
    .rw[Qq.mp hx];unfold Zt at h2;lia
   show(UG _).depth<=60
   simp only[UL]
   lia)
  apply K1;refine KR (b:=yb) (Z1:=[S0,S1,S2,S3,S4,S5,x6,S7,x8,pb d,O (.deep (.lst (.lst .leaf)) FD)]) (An (Yb (d:=FD) w8 (ZK (U0 (UW w8) (U0 (UW w8) U3)) (Qa w8)) hne)) (λz=>by cases z) λ_=>K5 (KQ ?_)
  have m1:Xx (.app (.int 0)) [0] (.lst (.lst .leaf)) FD=O (.list [.list ((KL as).map int++[.int 0]),.list ((KL ps).map int)]):=by
   show((if((KL as).map int).length<1000000 then O _ else w9).map UG).map _=_
   rw[Qo (by rw[Qb];lia)];rfl
  have m2:Xx (.app (.int 0)) [1] (.lst (.lst .leaf)) (.list [.list ((KL as).map int++[.int 0]),.list ((KL ps).map int)])=O (.list [.list ((KL as).map int++[.int 0]),.list ((KL ps).map int++[.int 0])]):=by
   show((if((KL ps).map int).length<1000000 then O _ else w9).map UG).map _=_
   rw[Qo (by rw[Qb];lia)];rfl
  refine Km (Hv w8 m1 w8) ?_;exact ZQ (Hv w8 m2 w8) (K2 ⟨_,_,rfl⟩)
 case hend=>rintro Z ⟨x9,yK,rfl⟩;exact KQ (KJ (KU (Kd (ZS (U0 (UW rfl) U3) hrep) (UW rfl) heq)) rfl)
end
theorem jj{cs:yd}{ls:L3}(g:Good cs ls):Deal cs ls (UF ls.length w9) where
 len:=QH
 wish:=λi t rs h _=>by cases List.eq_of_mem_replicate (Qv h)
 cop:=λk c hc=>by rw[List.count_eq_zero.mpr λh=>by cases List.eq_of_mem_replicate h];exact(g.c7 c (Qv hc)).1
theorem Gn{cs:yd}{ls:L3}:∀(ds:yc),(∀d∈ds,∃ws,d=Kh ws/\Deal cs ls ws)->∃L:yq,ds=L.map Kh/\∀ws∈L,Deal cs ls ws
 |[],_=>⟨[],rfl,λ_ h=>by cases h⟩
 |d::ds,h=>by
  obtain⟨ws,rfl,dw⟩:=h d Qi;obtain⟨L,rfl,hL⟩:=Gn ds λx hx=>h x (Qh _ hx)
  exact⟨ws::L,rfl,λx hx=>(Qw.mp hx).elim (λe=>e ▸ dw) (hL x)⟩
theorem jd:∀ns:yd,ns.length<=63->Vc [.list (ns.map int)]=O (.bool ya):=by
 intro ns hns;refine Zj (Z:=[pb (.list (ns.map int)),w9,w9,w9,w9,w9,w9,w9,w9]) w8 ?_;unfold TU;obtain⟨r,hr,cs,ls,rfl,g,hT,hA,_⟩:=wC 3 4 3 (ns:=ns) (by lia) 0;obtain⟨v5,hv5⟩:=MQ ns 5 (by lia);obtain⟨r,hall,ds,rfl,hdl,hds,aA⟩:=qN g (by lia) (by lia);obtain⟨L0,rfl,hL0⟩:=Gn ds hds;rw[Qb]at hdl;have hin:∀us,Deal cs ls us->us∈L0:=λus du=>by obtain⟨v,hv,e⟩:=Qt.mp (aA us du);injection e with e;rw[←Ma e];exact hv
 let S0:Option Sl:=O (.pub (.list (ns.map int)))
 let S1:Option Sl:=O (.pub (Kq cs ls))
 let S2:Option Sl:=O (.pub (.list (L0.map Kh)))
 refine Km (Z1:=[S0,S1,w9,w9,w9,w9,w9,w9,w9]) (KE (Ky (U0 (UW w8) (U0 U7 (U0 U7 (U0 U7 (U0 U7 U3))))) w8 hr) (Qa w8) w8) ?_;refine Km (Z1:=[S0,S1,S2,w9,w9,w9,w9,w9,w9]) (KE (Ky (U0 (UW w8) U3) w8 hall) (Qa w8) w8) ?_
 have hadd:U9 (.list [.int v5]) (.list (DL.cutD (ns.map int) (O 6) (O 7)))=O (.list (.int v5::DL.cutD (ns.map int) (O 6) (O 7))):=by
  rw[XF]
  .rfl
  .unfold DL.cutD
   rw[QZ,Jm,Qb,QP]
   lia
 apply K1;apply ZA (λ_ Z=>∃x3 x4 x5 x6 x7 x8,Z=[S0,S1,S2,x3,x4,x5,x6,x7,x8])
 case h1=>exact XQ (U0 (Kd (ZK (U0 (Ky (U0 (UW w8) (U0 U7 U3)) w8 hv5) U3) (Qa w8)) (V3 (UW w8) (XH U7) (XH U7) Tc) hadd) U3) XN
 case h0=>exact⟨_,_,_,_,_,_,rfl⟩
 case hst=>
  rintro i d Z hi ⟨x3,x4,x5,x6,x7,x8,rfl⟩;obtain⟨x,hx,rfl⟩:=XE hi
  obtain⟨c,rfl⟩:∃c:Int,x=.int c:=by
   rcases Qw.mp (Qv hx)with h|h
   .exact⟨_,h⟩
   .unfold DL.cutD at h
    obtain⟨c,_,rfl⟩:=Qt.mp (List.mem_of_mem_drop (Ui h));exact⟨c,rfl⟩
  refine⟨_,Kz w8 (U8 (U2 (Qa w8) w8) (U8 (U2 (Qa w8) w8) KB)),?_⟩;rw[Q0];unfold LQ;obtain⟨r,ha,o,old,ts,rfl,ga⟩:=kf g c (20+(i:Int))
  let F:=U5 (KD ls o old ts)
  let S3:Option Sl:=O (.pub (.int (i:Nat)))
  let S4:Option Sl:=O (.pub (.int c))
  let S5:Option Sl:=O (.pub (K9 o old ts))
  let W:LO->Int:=λus=>ZC (YA (Zp ls o old ts) 0 ls us)
  refine Km (Z1:=[S0,S1,S2,S3,S4,S5,x6,x7,x8]) (KE (Ky (U0 (UW w8) (U0 (UW w8) (U0 (Kd U7 (UW w8) K7) U3))) w8 ha) (Qa w8) w8) ?_;have hc:K4 (gN 9) (U1 ya) (Ka 3 Ws (UX (UT 1) (UX (UT 5) (UX (UT 9) (UV))))) (L0.map Kh) (Ks [S0,S1,S2,S3,S4,S5,x6,x7,x8]++UF 1 w9) []=O ((L0.map W).map int):=by refine(WW Kh (λ_=>ya) (λus=>int (W us)) (λZ=>∃x y6 y7 y8,Z=[S0,S1,S2,S3,S4,S5,y6,y7,y8,x]) L0 _ [] ?_ ⟨w9,_,_,_,rfl⟩ (by rw[QF];lia)).trans (by rw[QY,Ul.mpr (λ_ _=>rfl),Jl];rfl);rintro us hu Z ⟨x,y6,y7,y8,rfl⟩;exact⟨_,U2 (Qa w8) w8,rfl,λ_=>Ky (U0 (UW w8) (U0 (UW w8) (U0 (UW w8) U3))) w8 (jk g ga (hL0 us hu)),_,YX y6,YX y7,YX y8,rfl⟩
  refine Km (Z1:=[S0,S1,S2,S3,S4,S5,O (.own ((L0.map W).map int)),x7,x8]) (Yo (Yc (ZB (UW w8) Z9) hc) (Qa w8) w8) ?_;have hpos:0<(L0.map W).length:=by rw[Qb];exact List.length_pos_iff.mpr (List.ne_nil_of_mem (hin _ (jj g)))
  let S6:Option Sl:=O (.pub (.list ((L0.map W).map int)))
  let M:Int:=most (L0.map W)
  refine Km (Z1:=[S0,S1,S2,S3,S4,S5,S6,pb (.int M),x8]) (KE (ZS (U0 (Yy w8 w8) U3) (N7 hpos)) (Qa w8) w8) ?_
  have ez:YF (L0.map Kh) ((L0.map W).map int)=L0.map λus=>PyData.tuple [Kh us,.int (W us)]:=by
   unfold YF;rw[Jl,List.zip_map,Jl]
   have:∀X:yq,(X.zip X).map ((λp:D×D=>PyData.tuple [p.1,p.2]) ∘ Prod.map Kh (int ∘ W))=X.map λus=>PyData.tuple [Kh us,.int (W us)]:=by
    intro X;induction X with
    |nil=>rfl
    |cons a r ih=>rw[QW,Qs,ih];rfl
   exact this L0
  let X:=L0.filter λus=>decide (W us=M)
  have hc2:K4 (gT 2 (gNC (gN 9) (gNC (gN 10) gN0))) (Zl oEq 10 (UT 7)) (UT 9) (YF (L0.map Kh) ((L0.map W).map int)) (Ks [S0,S1,S2,S3,S4,S5,S6,pb (.int M),x8]++UF 2 w9) []=O (X.map Kh):=by rw[ez];refine(WW (λus=>PyData.tuple [Kh us,.int (W us)]) (λus=>decide (W us=M)) Kh (λZ=>∃x y y8,Z=[S0,S1,S2,S3,S4,S5,S6,pb (.int M),y8,x,y]) L0 _ [] ?_ ⟨w9,w9,_,rfl⟩ (by rw[QF];lia)).trans (by rw[QY]);rintro us hu Z ⟨x,y,y8,rfl⟩;exact⟨_,Kz w8 (U8 (U2 (Qa w8) w8) (U8 (U2 (Qa w8) w8) KB)),Yb w8 (UW w8) XG,λ_=>UW w8,_,_,YX y8,rfl⟩
  refine Km (Z1:=[S0,S1,S2,S3,S4,S5,S6,pb (.int M),O (.own (X.map Kh))]) (Yo (Yc (D5 (U0 (UW w8) (U0 (UW w8) U3)) w8) hc2) (Qa w8) w8) ?_;have val:∀us:LO,Deal cs ls us->W us=Kg F 0 us:=λus du=>(LM ls us ls 0 (λj rs h=>by rw[Q0,Ql,h];rfl) du.len).symm
  have hX:∀us,us∈X ↔ Tj cs F (Kr 0 ls) ls.length us:=λus=>by
   constructor
   .intro h
    obtain⟨h1,h2⟩:=Jg.mp h;have du:=hL0 us h1;refine⟨Gx du,λvs hv=>?_⟩;have dv:=FX hv;rw[←val vs dv,←val us du,Qa h2];exact Pc (Qt.mpr ⟨vs,hin vs dv,rfl⟩)
   .intro h
    have du:=FX h.dl;refine Jg.mpr ⟨hin us du,Q8 ?_⟩;obtain⟨v,hv,e⟩:=Qt.mp (Pm hpos);have h1:=h.mx v (Gx (hL0 v hv));rw[←val v (hL0 v hv),←val us du]at h1;have h2:W us<=M:=Pc (Qt.mpr ⟨us,hin us du,rfl⟩);have e:W v=M:=e
    lia
  have hXl:X.length<=1000:=QJ (Uf _ _) (by lia);exact KR (b:=yb) (XJ (t:=ya) (Wk (Ky (U0 (UW w8) (U0 (UW w8) (U0 (Yy w8 w8) U3))) w8 (Ar g ga hX hXl)))) (λz=>by cases z) λ_=>K5 (K2 ⟨_,_,_,_,_,_,rfl⟩)
 case hend=>rintro Z ⟨x3,x4,x5,x6,x7,x8,rfl⟩;exact KQ (KJ U7 rfl)
end W
open PySem PySem.W PyProof.Rows
set_option maxRecDepth 100000 in
set_option maxHeartbeats 0 in
theorem PySem.Challenge.cw_wishdeal_k59_served_and_full_holds : PySem.Challenge.rw_wishdeal_k59_served_and_full.Holds := by
 w_on;o_law
 refine holds_open (q:=W.q0) (loose:=[]) (Xt:=λs=>xlAt W.q0 [] s&&recOk [] s) (XP:=XL W.q0 []) (Yf:=Hook.obs .none) (Ya:=Hook.val .none) (YP:=Hook.says .none) (N:=5286) (d:=W.d_cd) (kwd:=[])
  W.Cj (Hook.of .none) (Hook.keeps .none) (λs e=>xl_of s (Uk.mp e).1) XL.keeps (by rfl) (by rfl) (by rfl)
  (λs e=>recFacts_of (Uk.mp e).2) (by rfl) (by assumption) (by decide +kernel) ⟨rfl,rfl,rfl,rfl,rfl,by decide +kernel⟩ ?hw (W.walk W.jd)
 case hw=>w_witness2


import PyProof.Rows.All
import Wide.All
import OpenK.AllK
import Wide.FinOn
import Lean
import PyProof.EqAt
import PyProof.EqKinds
import PyProof.TupleCall
import PyProof.EnumMake
import PyProof.ZipIter
import PyProof.ExcClass2
import PyProof.ExcInit
import PyProof.ExcBaseAll.ValueError
import PyProof.FString2
import PyProof.ExcArgsOwn
import PyProof.InstStoreFacts
import ObjForm.Fk.InstStore
import ObjForm.Fk.InstLoad
import PyProof.StationsW
import PyProof.RulesAs
import PyProof.NsDelKeeps
import OpenK.KMore
import PyProof.IsiBase
import OpenK.KNot
import PyProof.Rows.RuleN_isinstance
import PyProof.NeData
import PyProof.P3In
import PyProof.StrWalks
import PyProof.ConsumeWalk
import PyProof.SliceStr2
import PyProof.MeetsStr
import KE.KItem
import KE.KUnpack
import KE.KRevSl
import PyProof.Rows.SetFrom
import PyProof.SetRoads
import PyProof.Rows.Range3
import PyProof.CallType
import PyProof.Rows.CallKwBuiltin
import PyProof.Rows.MinMaxN
import PyProof.SumWalkG
import PyProof.Rows.SeqMore
import PyProof.Rows.SortWalk
import PyProof.Rows.SumAny
import PyProof.Rows.SeqMore2
import KE.KSortTup
import PyProof.Rows.SortShellK
import PyProof.ReprRoads
import PyProof.ReprBulk
import PyProof.CallFns
import PyProof.NeKinds
import PyProof.Rows.StrJoinMade
import PyProof.StrCalls
import KE.KIntText
import PyProof.ReprDict
import PyProof.DictIter
import PyProof.Rows.DictUnroll
import PySem.Challenge.RW_wishdeal_k45_whole_none_is_better
set_option compiler.extract_closed false
set_option Elab.async false
set_option linter.all false
set_option maxRecDepth 100000
set_option maxHeartbeats 4000000
theorem Qa:type_of% @of_decide_eq_true:=@of_decide_eq_true
theorem Ql:type_of% @if_pos:=@if_pos
theorem Qs:type_of% @if_neg:=@if_neg
theorem QG:type_of% @decide_eq_false:=@decide_eq_false
theorem Q2:type_of% @decide_eq_true:=@decide_eq_true
theorem Q8:type_of% @decide_eq_true_eq:=@decide_eq_true_eq
theorem Jb:type_of% @of_decide_eq_false:=@of_decide_eq_false
open List renaming length_map→Qb,getElem?_map→Qd,getElem?_eq_getElem→Qe,getElem?_eq_some_iff→Qg,getD_eq_getElem?_getD→Qh,length_append→Qj,mem_cons_of_mem→Qk,mem_cons_self→Qn,mem_of_getElem?→Qp,length_range→Qq,mem_map→Qr,getElem?_set_ne→Qu,getElem?_append_right→Qw,getElem?_append_left→Qx,map_append→Qz,map_cons→QA,getElem?_replicate→QB,length_nil→QC,getElem?_eq_none→QD,length_replicate→QE,length_cons→QF,getElem?_set_self→QJ,size_toArray→QK,mem_append_right→QL,flatten_cons→QN,map_map→QP,drop_eq_getElem_cons→QQ,replicate_succ→QS,mem_append→QW,length_set→QY,mem_cons→Q0,length_take→Q3,lookup_cons→Q4,getElem?_range→Q5,mem_range→Q7,append_nil→Q9,mem_singleton→Ja,length_reverse→Jc,sum_cons→Jd,mem_append_left→Jf,append_assoc→Jg,length_singleton→Ji,nil_append→Jj,length_drop→Jl,all_eq_true→Jn,length_filterMap_le→Jo,mem_filterMap→Jp,getElem_mem→Jq,ext_getElem?→Ju,length_zip→Jy,count_cons→Jz,pairwise_cons→JA,filterMap_cons→JD,map_congr_left→JF,take_succ→JK,sum_append→JM,filter_eq_self→JN,take_length→JO,getElem_range→JP,getElem?_zip_eq_some→JT,range_succ→JV,mem_iff_getElem→JY,length_zipWith→J0,take_zero→J4,getElem_map→J6,drop_eq_nil_of_le→J9,map_replicate→Uc,foldl_cons→Ud,length_filter_le→Ug,getElem?_zipWith→Uh,getElem?_reverse→Ui,take_append_drop→Uj,map_nil→Ul,mem_flatten→Up,length_pos_iff→Ur,mem_filter→Us,countP_map→Ut,mem_replicate→Uv,nodup_cons→Uw,range→UI,replicate→UJ,Pairwise→UT
open PySem renaming wpAny_bind→Qf,wpAny_pure→Qo,wpAny_loadPart_at→QM,wpAny_mono→QO,wpAny_truthy_bool→Q6,boot_len→Jk,wpAny_isSubtype_exc→Js,wpAny_standAt→Jt,wpAny_passesOwn→Jv,codeAny_builtin→JI,wpAny_pyIter_list→JL,mem_of_lookup→JZ,Value→Uy,Shared→Uz,Program→UA,Addr→UB,FuncData→UC,Expr→UD,sizeLine→UE,wpAny→UF,starEach→UG,compareOp→UH,assignEach→UV,foldedSetIterable→UW
open PySem.Heap renaming lt_size→Qi,get?_push_of_some→Qm,get?_push_size→QH
open PySem.PassesOwn renaming never→Qt,never→UR
open Int renaming toNat_natCast→Qv,le_refl→QZ,mul_le_mul_of_nonneg_right→Jr,emod_lt_of_pos→JQ,le_trans→JX,le_antisymm→Ue,emod_nonneg→Uf,zero_add→Uo,not_lt→Ux
open Nat renaming le_refl→Qy,lt_of_lt_of_le→QI,ne_of_lt→QR,le_trans→QT,zero_add→QU,le_of_not_lt→Je,lt_irrefl→Jw,lt_succ_iff_lt_or_eq→Jx,not_lt_zero→JU,ne_of_gt→JW,le_succ→J7,zero_le→J8,add_sub_cancel→Ub,lt_succ_of_lt→Uk,lt_succ_self→Um,add_zero→Uq
open Option.some renaming inj→QX
open Array renaming getD_eq_getD_getElem?→Jh,length_toList→JE,getElem?_eq_getElem→JS
open Bool renaming and_eq_true→Jm,eq_iff_iff→JH,false_ne_true→JJ,false_eq_true→Ua
open PySem.W.Fast renaming te1987589406359920131→JB
open PyProof.Rows renaming callWith_type1→JC,boot_all→JR
open PySem.W renaming kia_one→JG
open Option renaming getD_some→J5
open Array.Perm renaming refl→Uu
open PySem.PyData renaming list→UK,bool→UL,str→UM,strOk→UN,canLayAll0→UO,depth→UP,eqv→UQ,shown→UU
open PySem.Str renaming ofString→US
abbrev L3:=List (List (List Int))
abbrev LO:=List (Option Int)
abbrev LP:=List (Int×Int)
open PySem.W (Frag)
open PySem.PyData (int)
open List (replicate)
namespace DL
open PySem PySem.Spec PySem.W PyProof.Rows
def topRunT(tb:String->Option Builtin)(p:UA)(w:World)(m:Nat)(ann:Option Uy):Nat->SharedT->Thread->Option SharedT
 |0,_,_=>none
 |n+1,s,t=>match through t,stepOk m ann t with
  |true,_=>some s
  |false,false=>none
  |false,true=>match stepT (denote tb) p w s t with
   |some x=>topRunT tb p w m ann n x.1 x.2
   |none=>none
theorem Ev{tb:String->Option Builtin}{p:UA}{w:World}{m:Nat}{ann:Option Uy}:∀{n:Nat}{s s':SharedT}{t:Thread},topRunT tb p w m ann n s t=some s'->topRun tb p w m ann n s.abs t=some s'.abs
 |0,_,_,_,h=>by cases h
 |n+1,s,s',t,h=>by
  rw[topRunT] at h;rw[topRun]
  cases ht:through t with
  |true=>rw[ht] at h;cases h;rfl
  |false=>
   rw[ht] at h
   cases hk:stepOk m ann t with
   |false=>rw[hk] at h;cases h
   |true=>
    rw[hk] at h;dsimp only at h ⊢
    cases hs:stepT (denote tb) p w s t with
    |none=>rw[hs] at h;cases h
    |some x=>rw[hs] at h;rw[stepT_spec hs];exact Ev h
def btOf(l:List Obj):BT:=(l.foldl (λ(x:BT×Nat) o=>(x.1.ins x.2 o,x.2+1)) (.nil,0)).1
noncomputable def T0 (w:World) (os:OsState):SharedT:=⟨btOf (boot_heap w.params).objs.toList,11,(boot_heap w.params).life,#[],boot_drawn,boot_toks,os⟩
theorem Al(w:World)(os:OsState):(T0 w os).abs=⟨boot_heap w.params,#[],boot_drawn,boot_toks,os⟩:=by kernel_rfl
theorem jN(w:World):((boot_heap w.params).isNs mainGlobals&&(#[]:Array GenState).size==0,(boot_heap w.params).objs.size,(boot_heap w.params).nsMap mainGlobals "__annotations__")=(true,11,some (.ref 6)):=by kernel_rfl
noncomputable abbrev Dv (p q:UA) (loose:List Str) (Xt:Uz->Bool) (w:World) (t:SharedT) :=
 ((staticsOk (importedModules p.main.body) (boot_heap w.params) t.abs.heap&&namesBound p t.abs.heap&&gensDone t.abs&&laidKept (boot_heap w.params) t.abs.heap),openSeen q loose (importedModules p.main.body) Xt true t.abs)
theorem C0{p q:UA}{loose:List Str}{Xt:Uz->Bool}{N M:Nat}(e:opening p=plainProg p.main.scope.names)(hN:Nat.ble 600 N=true)(f:∀s,fenceModules? p s=some s)(le:Nat.ble M N=true)
  (run:∀(w:World)(os:OsState),(topRunT treeTable p w 11 (some (.ref 6)) M (T0 w os) (topStub p)).map (Dv p q loose Xt w)=some (true,openGood q loose)):LeftO p q loose Xt (Hook.obs .none) (Hook.val .none) N:=λw=>by
 obtain ⟨⟨h,gs,d,k,os⟩,e0,e'⟩:=Option.map_eq_some_iff.mp (boot_open e hN f w);have e':(h,gs,d,k)=(boot_heap w.params,#[],boot_drawn,boot_toks):=e';obtain ⟨rfl,rfl,rfl,rfl⟩:h=boot_heap w.params/\gs=#[]/\d=boot_drawn/\k=boot_toks:=by simpa only[Prod.mk.injEq] using e'
 obtain ⟨t,ht,l⟩:=Option.map_eq_some_iff.mp (run w os);have hr:=Ev ht;rw[Al] at hr;have r:=topRun_mono (N-M) _ _ _ _ hr;rw[show M+(N-M)=N by have:=Nat.le_of_ble_eq_true le;omega] at r
 obtain ⟨l1,l2⟩:=Prod.mk.inj l;have z:=jN w;obtain ⟨z1,z2,z3⟩:_/\_/\_:=by simpa only[Prod.mk.injEq] using z
 have tf:topFrom treeTable p w N ⟨boot_heap w.params,#[],boot_drawn,boot_toks,os⟩=some t.abs:=by
  unfold topFrom;dsimp only;rw[z1,z2,z3,r];show (match staticsOk (importedModules p.main.body) (boot_heap w.params) t.abs.heap&&namesBound p t.abs.heap&&gensDone t.abs&&laidKept (boot_heap w.params) t.abs.heap with|true=>some t.abs|false=>none)=_
  rw[l1]
 unfold openEnds;rw[e0];show (topFrom treeTable p w N _).map _=_;rw[tf];exact congrArg some (Prod.ext l2 rfl)
end DL
open PySem in
lay_quick PySem.Challenge.pw_wishdeal_k45_whole_none_is_better DL.topRunT PySem.W.openGood PySem.W.staticsOk PySem.W.namesBound PySem.W.laidKept PySem.W.xlAt
namespace W
open PySem PySem.Spec DL
abbrev p0:UA:=PySem.Challenge.pw_wishdeal_k45_whole_none_is_better
def WV:List Nat:=[1,2,4,5,6,8,9,10,11,12,13,14,15,16,17,18,19,21,22,23,25,26,27,28,29,31,32,33,34,35,36,37,39,40,41,42,43,45,47,48,49,50,51,52,53,54,55,56,57,58,59,61,62,64,65,66,67,68,69,70,71,72,73,74,75,76,77,78,79]
def ixL:List Nat:=[1,2,12,13,14,15,16,17,18,19,21,22,23,26,27,28,29,31,32,33,34,35,36,37,39,40,41,42,43,45,47,48,49,50,51,52,53,54,55,56,57,58,59,61,62,64,65,66,67,68,69,70,71,72,73,74,75,76,77,78,79]
abbrev q0:UA:=PySem.W.view p0 WV
theorem Du:∀(w:World)(os:OsState),(PySem.W.Fast.tw10708255244068714335 PySem.W.Fast.tw14364793385576792824 PySem.W.Fast.tw4711340678548116813 w 11 (some (.ref 6)) 2820 (T0 w os) (PySem.W.topStub PySem.W.Fast.tw4711340678548116813)).map (λt=>((PySem.W.Fast.tw13471830651028734593 (PySem.W.Fast.tw5923862056798008813 (Program.main PySem.W.Fast.tw4711340678548116813).body) (PySem.W.boot_heap w.params) t.abs.heap&&PySem.W.Fast.tw4683006035507612052 PySem.W.Fast.tw4711340678548116813 t.abs.heap&&PySem.W.gensDone t.abs&&PySem.W.Fast.tw16898566250750103049 (PySem.W.boot_heap w.params) t.abs.heap),PySem.W.Fast.tw4187177175401517315 (PySem.W.view PySem.W.Fast.tw4711340678548116813 WV) [] (PySem.W.Fast.tw5923862056798008813 (Program.main PySem.W.Fast.tw4711340678548116813).body) (λs=>PySem.W.Fast.tw4757257242682413121 (PySem.W.view PySem.W.Fast.tw4711340678548116813 WV) [] s&&PySem.W.recOk [] s) true t.abs))=some (true,PySem.W.Fast.tw3486900944545009338 (PySem.W.view PySem.W.Fast.tw4711340678548116813 WV) []):=by
 intro w os
 kernel_rfl
theorem Dt:PySem.W.LeftO p0 q0 [] (λs=>PySem.W.xlAt q0 [] s&&PySem.W.recOk [] s) (PySem.W.Hook.obs .none) (PySem.W.Hook.val .none) 5540:=by
 refine C0 (M:=2820) (by kernel_rfl) rfl (λs=>by kernel_rfl) rfl λw os=>?_
 have h:=Du w os;rw[←PySem.W.Fast.te10708255244068714335,←PySem.W.Fast.te14364793385576792824,←PySem.W.Fast.te4187177175401517315,←PySem.W.Fast.te5923862056798008813,←PySem.W.Fast.te13471830651028734593,←PySem.W.Fast.te4683006035507612052,←PySem.W.Fast.te16898566250750103049,←PySem.W.Fast.te4757257242682413121,←PySem.W.Fast.te3486900944545009338,←PySem.W.Fast.te4711340678548116813] at h;exact h
end W
namespace L2
open PySem PySem.Spec PyProof.Rows
abbrev Key:=Sum Int Str
def Ln:Key->Uy->Bool
 |.inl k,v=>Value.isInt k v
 |.inr x,v=>Value.isStrOf x v
def keyH(w:World):Key->Int
 |.inl k=>hashInt k
 |.inr x=>hashStr w x
theorem VY:∀{k:Key}{v:Uy},Ln k v=true->(∃i t,k=Sum.inl i/\v=Value.int i t)∨(∃x t,k=Sum.inr x/\v=Value.str x t)
 |.inl i,v,h=>by
  obtain ⟨t,e⟩:=Value.isInt_shape (k:=i) (v:=v) h;exact .inl ⟨i,t,rfl,e⟩
 |.inr x,v,h=>by
  obtain ⟨t,e⟩:=Value.isStrOf_shape (x:=x) (v:=v) h;exact .inr ⟨x,t,rfl,e⟩
theorem DW(a b:Int):decide ((Sum.inl a:Key)=Sum.inl b)=(a==b):=by
 by_cases e:a=b
 ·subst e;simp
 ·have h:¬(Sum.inl a:Key)=Sum.inl b:=λq=>e (Sum.inl.inj q)
  rw[QG h];exact (beq_eq_false_iff_ne.mpr e).symm
theorem DV(a b:Str):decide ((Sum.inr a:Key)=Sum.inr b)=decide (a=b):=by
 by_cases e:a=b
 ·subst e;simp
 ·have h:¬(Sum.inr a:Key)=Sum.inr b:=λq=>e (Sum.inr.inj q)
  rw[QG h,QG e]
theorem DU(a:Int)(b:Str):decide ((Sum.inl a:Key)=Sum.inr b)=false:=QG (λq=>nomatch q)
theorem DT(a:Str)(b:Int):decide ((Sum.inr a:Key)=Sum.inl b)=false:=QG (λq=>nomatch q)
def Ml(prog:UA)(w:World):PySem.KeyKind prog w Key where
 is:=Ln
 hash:=keyH w
 inj:=λv a b ha hb=>by
  rcases VY ha with ⟨i,t,rfl,rfl⟩|⟨x,t,rfl,rfl⟩
  ·rcases VY hb with ⟨j,u,rfl,e⟩|⟨y,u,rfl,e⟩
   ·injection e with e1 _;rw[e1]
   ·exact nomatch e
  ·rcases VY hb with ⟨j,u,rfl,e⟩|⟨y,u,rfl,e⟩
   ·exact nomatch e
   ·injection e with e1 _;rw[e1]
 byValue:=λk v h=>by
  rcases VY h with ⟨i,t,rfl,rfl⟩|⟨x,t,rfl,rfl⟩ <;> rfl
 pyHash:=λhv h=>by
  rcases VY hv with ⟨i,t,rfl,rfl⟩|⟨x,t,rfl,rfl⟩
  ·exact wpAny_pyHash_int h
  ·exact wpAny_pyHash_str h
 eqBool:=λhu hv h=>by
  rcases VY hu with ⟨i,t,rfl,rfl⟩|⟨x,t,rfl,rfl⟩
  ·rcases VY hv with ⟨j,u,rfl,rfl⟩|⟨y,u,rfl,rfl⟩
   ·rw[DW] at h;exact wpAny_eqBool_int h
   ·rw[DU] at h;exact SeqAt.EqAt.int_str i t y u _ _ _ _ h
  ·rcases VY hv with ⟨j,u,rfl,rfl⟩|⟨y,u,rfl,rfl⟩
   ·rw[DT] at h;exact SeqAt.EqAt.str_int x t j u _ _ _ _ h
   ·rw[DV] at h;exact wpAny_eqBool_str h
 «strs»:=λk x t v h=>by
  rcases VY h with ⟨i,u,rfl,e⟩|⟨y,u,rfl,e⟩
  ·exact nomatch e
  ·injection e with e1 _
   subst e1
   cases v <;> rfl
inductive V where
 |non|bl (b:Bool)|int (i:Int)|str (x:Str)|byt (b:Array UInt8)|flt (b:UInt64)|ref (a:UB)|ty (n:String)
 deriving DecidableEq
def RelV:V->Uy->Prop
 |.non,u=>u=Value.none
 |.bl b,u=>u=Value.bool b
 |.int i,u=>∃t,u=Value.int i t
 |.str x,u=>∃t,u=Value.str x t
 |.byt b,u=>∃t,u=Value.bytes b t
 |.flt b,u=>∃t,u=Value.float b t
 |.ref a,u=>u=Value.ref a
 |.ty n,u=>u=Value.type n
abbrev Vals:List V->List Uy->Prop:=Paired RelV
theorem Vals.length{xs:List V}{us:List Uy}(r:Vals xs us):xs.length=us.length:=Paired.length r
theorem Vals.get:∀{xs:List V}{us:List Uy}{i:Nat}{x:V},Vals xs us->xs[i]?=some x->∃u,us[i]?=some u/\RelV x u
 |_,_,_,_,.nil,e=>by simp at e
 |_,_,0,_,.cons r _,e=>by simp at e;subst e;exact ⟨_,rfl,r⟩
 |_,_,i+1,x,.cons _ t,e=>by
  obtain ⟨u,h1,h2⟩:=Vals.get (i:=i) (x:=x) t (by simpa using e)
  exact ⟨u,by simpa using h1,h2⟩
theorem Vals.set{x:V}{u:Uy}(r:RelV x u):∀{xs:List V}{us:List Uy}(i:Nat),Vals xs us->Vals (xs.set i x) (us.set i u)
 |_,_,_,.nil=>.nil
 |_,_,0,.cons _ t=>.cons r t
 |_,_,i+1,.cons q t=>.cons q (Vals.set r i t)
theorem Vals.append:∀{xs ys:List V}{us ws:List Uy},Vals xs us->Vals ys ws->Vals (xs++ys) (us++ws)
 |_,_,_,_,.nil,s=>s
 |_,_,_,_,.cons r t,s=>.cons r (Vals.append t s)
theorem Vals.take:∀{xs:List V}{us:List Uy}(n:Nat),Vals xs us->Vals (xs.take n) (us.take n)
 |_,_,0,_=>.nil
 |_,_,_+1,.nil=>.nil
 |_,_,n+1,.cons r t=>.cons r (Vals.take n t)
theorem Vals.drop:∀{xs:List V}{us:List Uy}(n:Nat),Vals xs us->Vals (xs.drop n) (us.drop n)
 |_,_,0,r=>r
 |_,_,_+1,.nil=>.nil
 |_,_,n+1,.cons _ t=>Vals.drop n t
def RY:Option V->Option Uy->Prop
 |some v,some u=>RelV v u
 |none,none=>True
 |_,_=>False
def KV{κ:Type}:List (κ×V)->List (κ×Uy)->Prop:=Paired λ(p:κ×V) (q:κ×Uy)=>p.1=q.1/\RelV p.2 q.2
def kV:Key->V
 |.inl i=>.int i
 |.inr x=>.str x
inductive HO where
  |lst (xs:List V)
  |tup (xs:List V)
  |dK (kvs:List (Key×V))|dT (kvs:List (List Key×V))
  |set (S:Int->Bool) (n:Nat)
  |ins (C dx:UB) (fs:List (Str×V))
  |own (x:UB)
  |xd (fs:List (Str×V))
  |met (f x:UB)
  |rng (lo hi:Int)
  |frz (o:Obj) (u:HO)
  |tbl (ps:Array Uy)
  |ext (φ:Heap->Prop)
abbrev Hp:=UB->Option HO
def upd(H:Hp)(a:UB)(o:HO):Hp:=λb=>if b=a then some o else H b
theorem Yx{H:Hp}{a:UB}{o:HO}:upd H a o a=some o:=by unfold upd;rw[Ql rfl]
theorem ZA{H:Hp}{a b:UB}{o:HO}(h:b≠a):upd H a o b=H b:=by unfold upd;rw[Qs h]
theorem Wl{H:Hp}{a b:UB}{o:HO}(h:H a=some o)(h':H b=none):a≠b:=by
 intro e;subst e;rw[h] at h';cases h'
section
variable(P:UA)(w:World)
def Y4(H:Hp)(h:Heap)(a:UB):HO->Prop
 |.lst xs=>xs.length<=UE/\∃(its:List Uy)(n:Nat),Vals xs its/\h.get? a=some { cls:=.type "list", data:=.seq its.toArray n }
 |.tup xs=>xs.length<=UE/\∃its:List Uy,Vals xs its/\IsTup h a its.toArray
 |.dK kvs=>kvs.length<=UE/\(a==sysModules)=false/\∃vs,KV kvs vs/\h.DictOf (Ml P w) a vs
 |.dT kvs=>kvs.length<=UE/\(a==sysModules)=false/\∃xs:List (List Key×UB×Uy),
   Paired (λ(p:List Key×V) (q:List Key×UB×Uy)=>p.1=q.1/\H q.2.1=some (.tup (p.1.map kV))/\RelV p.2 q.2.2) kvs xs /\
   ∃o es ep,h.get? a=some o/\o.ExactDict/\o.data=.dict es ep/\es.toList=xs.map (entryOfKey (tupleKind (Ml P w)))/\(xs.map (·.1)).Nodup
 |.set S n=>h.SetOf (intKind P w) a S n
 |.ins C dx fs=>H dx=some (.own a)/\fs.length<=1000/\dx≠a/\h.get? a=some (PySem.W.instObj C dx) /\
   ∃mA,h.Ns1 dx mA/\(∀f,RY (fs.lookup f) (mA f))/\PySem.Within mA (fs.map (·.1))
 |.own _=>∃o,h.get? a=some o
 |.xd fs=>∃mA,h.Ns1 a mA/\∀f,RY (fs.lookup f) (mA f)
 |.rng lo hi=>∃t u v,h.get? a=some { cls:=.type "range", data:=.fields #[.int lo t,.int hi u,.int 1 v] }
 |.frz o u=>h.get? a=some o/\Y4 H h a u
 |.tbl ps=>h.get? a=some { cls:=.none,data:=.fields ps }
 |.met f x=>h.get? a=some (PySem.W.methodObj (.ref f) (.ref x))
 |.ext φ=>φ h/\(∃o,h.get? a=some o)/\∀h1 h2:Heap,φ h1->(∀o,h1.get? a=some o->h2.get? a=some o)->φ h2
def HOk(H:Hp)(h:Heap):Prop:=∀a o,H a=some o->Y4 P w H h a o
end
section
variable{P:UA}{w:World}{H H':Hp}{h h':Heap}{a:UB}{o:HO}
theorem Y4.lt(x:Y4 P w H h a o):a<h.objs.size:=by
 cases o with
 |lst xs=>obtain ⟨_,_,_,_,e⟩:=x;exact Qi e
 |tup xs=>obtain ⟨_,_,_,p⟩:=x;exact p.lt
 |dK kvs=>obtain ⟨_,_,_,_,o,_,_,e,_⟩:=x;exact Qi e
 |dT kvs=>obtain ⟨_,_,_,_,o,_,_,e,_⟩:=x;exact Qi e
 |set S n=>obtain ⟨o,_,_,_,e,_⟩:=x;exact Qi e
 |ins C dx fs=>obtain ⟨_,_,_,e,_⟩:=x;exact Qi e
 |own y=>obtain ⟨_,e⟩:=x;exact Qi e
 |xd fs=>obtain ⟨_,⟨_,_,_,e,_⟩,_⟩:=x;exact Qi e
 |rng lo hi=>obtain ⟨_,_,_,e⟩:=x;exact Qi e
 |frz ob u=>obtain ⟨e,_⟩:=x;exact Qi e
 |tbl ps=>exact Qi (show h.get? a=some _ from x)
 |met f y=>exact Qi (show h.get? a=some _ from x)
 |ext φ=>obtain ⟨_,⟨_,e⟩,_⟩:=x;exact Qi e
theorem Paired.mapP{α β:Type}{F G:α->β->Prop}:∀{l₁:List α}{l₂:List β},Paired F l₁ l₂->(∀a b,F a b->G a b)->Paired G l₁ l₂
 |_,_,.nil,_=>.nil
 |_,_,.cons r t,f=>.cons (f _ _ r) (Paired.mapP t f)
theorem Y4.stay(x:Y4 P w H h a o)(k:∀b u,(b=a∨H b=some (.own a))->h.get? b=some u->h'.get? b=some u)
  (ho:∀b,H b=some (.own a)->H' b=some (.own a)) (ht:∀b xs,H b=some (.tup xs)->H' b=some (.tup xs)):Y4 P w H' h' a o:=by
 induction o with
 |lst xs=>obtain ⟨z,its,n,r,e⟩:=x;exact ⟨z,its,n,r,k _ _ (.inl rfl) e⟩
 |tup xs=>obtain ⟨z,its,r,ob,e,c⟩:=x;exact ⟨z,its,r,ob,k _ _ (.inl rfl) e,c⟩
 |dK kvs=>obtain ⟨z,y,vs,r,ob,es,ep,e,c⟩:=x;exact ⟨z,y,vs,r,ob,es,ep,k _ _ (.inl rfl) e,c⟩
 |dT kvs=>
  obtain ⟨z,y,xs,r,ob,es,ep,e,c⟩:=x;exact ⟨z,y,xs,Paired.mapP r λp q z=>⟨z.1,ht _ _ z.2.1,z.2.2⟩,ob,es,ep,k _ _ (.inl rfl) e,c⟩
 |set S n=>obtain ⟨ob,es,ep,t,e,c⟩:=x;exact ⟨ob,es,ep,t,k _ _ (.inl rfl) e,c⟩
 |ins C dx fs=>
  obtain ⟨d,z,ne,e,mA,⟨od,es,ep,e2,c⟩,r⟩:=x;exact ⟨ho _ d,z,ne,k _ _ (.inl rfl) e,mA,⟨od,es,ep,k _ _ (.inr d) e2,c⟩,r⟩
 |own y=>obtain ⟨ob,e⟩:=x;exact ⟨ob,k _ _ (.inl rfl) e⟩
 |xd fs=>obtain ⟨mA,⟨od,es,ep,e,c⟩,r⟩:=x;exact ⟨mA,⟨od,es,ep,k _ _ (.inl rfl) e,c⟩,r⟩
 |rng lo hi=>obtain ⟨t,u,v,e⟩:=x;exact ⟨t,u,v,k _ _ (.inl rfl) e⟩
 |frz ob u ih=>obtain ⟨e,q⟩:=x;exact ⟨k _ _ (.inl rfl) e,ih q⟩
 |tbl ps=>
  have e:h.get? a=some { cls:=.none,data:=.fields ps }:=x;show h'.get? a=some { cls:=.none,data:=.fields ps };exact k a _ (.inl rfl) e
 |met f y=>
  have e:h.get? a=some (PySem.W.methodObj (.ref f) (.ref y)):=x;show h'.get? a=some (PySem.W.methodObj (.ref f) (.ref y));exact k a _ (.inl rfl) e
 |ext φ=>obtain ⟨p,⟨o,e⟩,st⟩:=x;exact ⟨st _ _ p λo q=>k _ _ (.inl rfl) q,⟨o,k _ _ (.inl rfl) e⟩,st⟩
theorem HOk.lt(x:HOk P w H h)(e:H a=some o):a<h.objs.size:=(x a o e).lt
theorem HOk.fresh(x:HOk P w H h)(e:h.objs.size<=a):H a=none:=by
 cases q:H a with
 |none=>rfl
 |some u=>exact absurd (QI (x.lt q) e) (Jw _)
theorem HOk.kept(x:HOk P w H h)(k:∀b u,h.get? b=some u->h'.get? b=some u):HOk P w H h':=λa o e=>
 (x a o e).stay (λb u _ q=>k b u q) (λ_ q=>q) λ_ _ q=>q
theorem HOk.laid(x:HOk P w H h)(k:∀b u,h.get? b=some u->h'.get? b=some u)(hp:h.objs.size<=a)(new:Y4 P w (upd H a o) h' a o):HOk P w (upd H a o) h':=λb u e=>by
 have hn:=x.fresh hp
 by_cases hb:b=a
 ·subst hb;rw[Yx] at e;cases e;exact new
 ·rw[ZA hb] at e
  exact (x b u e).stay (λc v _ q=>k c v q) (λc q=>by rw[ZA (Wl q hn)];exact q) λc xs q=>by rw[ZA (Wl q hn)];exact q
end
def Rd(H:Hp)(a:UB)(u:HO):Prop:=H a=some u ∨ ∃o,H a=some (.frz o u)
theorem Rd.ok{P:UA}{w:World}{H:Hp}{h:Heap}{a:UB}{u:HO}(r:Rd H a u)(x:HOk P w H h):Y4 P w H h a u:=by
 rcases r with r|⟨o,r⟩
 ·exact x a u r
 ·obtain ⟨_,q⟩:=x a _ r
  exact q
def Mut:Option HO->Prop
 |some (.lst _)=>True
 |some (.dK _)=>True
 |some (.dT _)=>True
 |some (.set _ _)=>True
 |some (.ins _ _ _)=>True
 |some (.ext _)=>True
 |_=>False
section
variable{P:UA}{w:World}{H:Hp}{h h':Heap}{x e:UB}{o':HO}
theorem HOk.write(ok:HOk P w H h)(mu:Mut (H x))(he:e=x∨H e=some (.own x))(k:∀b u,b≠e->h.get? b=some u->h'.get? b=some u)(heo:∃u,h'.get? e=some u)
  (new:Y4 P w (upd H x o') h' x o'):HOk P w (upd H x o') h':=λb u q=>by
 have nown:∀c y,H c=some (.own y)->c≠x:=λc y r z=>by subst z;rw[r] at mu;exact mu
 have ntup:∀c xs,H c=some (.tup xs)->c≠x:=λc xs r z=>by subst z;rw[r] at mu;exact mu
 by_cases hb:b=x
 ·subst hb;rw[Yx] at q;cases q;exact new
 ·rw[ZA hb] at q
  by_cases hbe:b=e
  ·have q':H b=some (.own x):=by
    rcases he with z|z
    ·exact absurd (hbe.trans z) hb
    ·rw[hbe];exact z
   rw[q] at q';cases q';obtain ⟨v,hv⟩:=heo;exact ⟨v,by rw[hbe];exact hv⟩
  ·refine (ok b u q).stay (λc v hc r=>k c v ?_ r) (λc r=>by rw[ZA (nown c b r)];exact r) λc xs r=>by rw[ZA (ntup c xs r)];exact r
   rcases hc with rfl|hc
   ·exact hbe
   ·rintro rfl
    rcases he with z|z
    ·exact nown c b hc z
    ·rw[hc] at z;cases z;exact hb rfl
end
structure Un(fs ex:List UB)(H H':Hp)(h h':Heap):Prop where
 keep:∀b o,h.get? b=some o->H b=none->b∉fs->b∉ex->h'.get? b=some o
 slot:∀b o,h.get? b=some o->H b=none->b∈fs->b∉ex->∃sl,h'.get? b=some { o with slots:=sl }
 free:∀b o,h.get? b=some o->H b=none->b∉ex->H' b=none
 there:∀b o,h.get? b=some o->b∉ex->∃o',h'.get? b=some o'
 tups:∀b xs,H b=some (.tup xs)->H' b=some (.tup xs)
 frzs:∀b o u,H b=some (.frz o u)->H' b=some (.frz o u)
 tbls:∀b ps,H b=some (.tbl ps)->∃more,H' b=some (.tbl (ps++more))
section
variable{fs fs' ex ex':List UB}{H H1 H2:Hp}{h h1 h2 h':Heap}{a x e:UB}{o:HO}
theorem Un.any(u:Un fs ex H H1 h h1){b:UB}{ob:Obj}(q:h.get? b=some ob)(n:H b=none)(hx:b∉ex):∃sl,h1.get? b=some { ob with slots:=sl }:=by
 by_cases hb:b∈fs
 ·exact u.slot b ob q n hb hx
 ·exact ⟨ob.slots,u.keep b ob q n hb hx⟩
theorem Un.kept(k:∀b u,h.get? b=some u->h'.get? b=some u):Un fs ex H H h h' :=
 ⟨λb ob q _ _ _=>k b ob q,λb ob q _ _ _=>⟨ob.slots,k b ob q⟩,λ_ _ _ n _=>n,λb ob q _=>⟨ob,k b ob q⟩,λ_ _ q=>q,λ_ _ _ q=>q,λ_ ps q=>⟨#[],by rw[q];simp⟩⟩
theorem Un.refl:Un fs ex H H h h:=Un.kept λ_ _ q=>q
theorem Un.laid(k:∀b u,h.get? b=some u->h'.get? b=some u)(hp:h.objs.size<=a)(hn:H a=none):Un fs ex H (upd H a o) h h' where
 keep:=λb u q _ _ _=>k b u q
 slot:=λb u q _ _ _=>⟨u.slots,k b u q⟩
 free:=λb u q n _=>by rw[ZA (QR (QI (Qi q) hp))];exact n
 there:=λb u q _=>⟨u,k b u q⟩
 tups:=λb xs q=>by rw[ZA (Wl q hn)];exact q
 frzs:=λb u xs q=>by rw[ZA (Wl q hn)];exact q
 tbls:=λb ps q=>⟨#[],by rw[ZA (Wl q hn),q];simp⟩
theorem Un.write(mu:Mut (H x))(he:e=x∨H e=some (.own x))(k:∀b u,b≠e->h.get? b=some u->h'.get? b=some u)(heo:∃u,h'.get? e=some u):Un fs ex H (upd H x o) h h':=by
 have hx:∀b,H b=none->b≠x:=λb n z=>by subst z;rw[n] at mu;exact mu
 have hb:∀b,H b=none->b≠e:=λb n z=>by
  subst z;rcases he with r|r
  ·exact hx b n r
  ·rw[n] at r;cases r
 have hm:∀b u,H b=some u->¬Mut (some u)->b≠x:=λb u q nm z=>by subst z;rw[q] at mu;exact nm mu
 refine ⟨λb u q n _ _=>k b u (hb b n) q,λb u q n _ _=>⟨u.slots,k b u (hb b n) q⟩,λb u q n _=>by rw[ZA (hx b n)];exact n,λb u q _=>?_,
  λb xs q=>by rw[ZA (hm b _ q λz=>z)];exact q,λb u xs q=>by rw[ZA (hm b _ q λz=>z)];exact q,λb ps q=>⟨#[],by rw[ZA (hm b _ q λz=>z),q];simp⟩⟩
 by_cases hbe:b=e
 ·subst hbe;exact heo
 ·exact ⟨u,k b u hbe q⟩
end
def trk(h:Heap)(H:Hp):List UB:=(UI h.objs.size).filter λa=>(H a).isSome
def Xh(h:Heap)(H:Hp):Heap:=PySem.W.hideAll h (trk h H)
theorem jM(h:Heap)(H:Hp):(Xh h H).objs.size=h.objs.size:=PySem.W.hideAll_size _ _
theorem AV{h:Heap}{H:Hp}{b:UB}{o:Obj}(e:h.get? b=some o)(n:H b=none):(Xh h H).get? b=some o :=
 PySem.W.hideAll_get _ e λhm=>by
  have q:(H b).isSome=true:=(Us.mp hm).2;rw[n] at q;simp at q
theorem CZ{h:Heap}{H:Hp}{b:UB}{o:Obj}(e:(Xh h H).get? b=some o):h.get? b=some o/\H b=none:=by
 have e':h.get? b=some o:=PySem.W.of_hideAll (trk h H) e;refine ⟨e',?_⟩
 cases q:H b with
 |none=>rfl
 |some x=>
  have hm:b∈trk h H:=List.mem_filter.mpr ⟨List.mem_range.mpr (Heap.lt_size e'),by simp[q]⟩
  have z:(Xh h H).get? b=none:=PySem.W.hideAll_none (trk h H) hm;rw[z] at e;cases e
structure Mod(K:Frag)(mg:Str->Option Uy)(base:Heap):Prop where
 kin:K.In base
 glob:base.Ns mainGlobals mg
 blt:∃mb,base.Ns builtinsNs mb/\∀x:Str,x ≠ "__name__" -> mb x=bootBuiltins x
 nolimit:base.NoLimit
structure Cx where
 prog:UA
 w:World
 K:Frag
 mg:Str->Option Uy
 base:Heap
 A:Around
 N:List Str
 s₀:Uz
 H₀:Hp
 env:Env
 outer:List Env
 stack:List Env
 ex:List UB
 fn:Str->Bool
 calm:Bool
 pn:List (UB×Obj)
 xe:Uy->Uz->Prop
def frs(l:List Env):List UB:=l.filterMap (·.frame)
abbrev Cx.fs(X:Cx):List UB:=frs X.outer
def Vis(sc:Scope)(x:Str):Prop:=sc.names.lookup x=some .local∨sc.names.lookup x=some .cell∨sc.names.lookup x=some .free
def Loc(sc:Scope)(x:Str):Prop:=sc.names.lookup x=some .local∨sc.names.lookup x=some .cell
def Look(env:Env)(h:Heap)(m:Str->Option Uy)(x:Str)(u:Uy):Prop :=
 (env.kindOf x=some .local/\m x=some u)∨((env.kindOf x=some .cell∨env.kindOf x=some .free)/\∃c,env.cells.lookup x=some c/\h.IsCell c (some u))
structure Cx.Ok(X:Cx):Prop where
 mod:Mod X.K X.mg X.base
 kind:X.env.scope.kind=.function
 glob:X.env.globals=mainGlobals
 blt:X.env.builtins=builtinsNs
 above:X.s₀.heap.objs.size<=X.env.locals
 inj:∀x y c,X.env.cells.lookup x=some c->X.env.cells.lookup y=some c->x=y
 has:∀x,(X.env.kindOf x=some .cell∨X.env.kindOf x=some .free)->∃c,X.env.cells.lookup x=some c
 cab:∀x c,X.fn x=true->X.env.cells.lookup x=some c->X.s₀.heap.objs.size<=c
 hd:X.calm=true->X.A.handled=none
 frames:X.A.frames=some X.stack
 stk:X.stack=X.outer∨(X.stack=X.env::X.outer/\X.env.frame=some X.env.locals)
 exf:∀b∈X.ex,b≠X.env.locals/\∀x c,X.env.cells.lookup x=some c->c≠b
 bs:∀b o,X.base.get? b=some o->X.s₀.heap.get? b=some o/\X.H₀ b=none
 bsz:X.base.objs.size<=X.s₀.heap.objs.size
 noex:∀b o,X.base.get? b=some o->b∉X.ex
 exfs:∀b∈X.ex,b∉X.fs
 funs:X.s₀.heap.FunFrames X.base X.outer
 frf:∀b∈X.fs,X.H₀ b=none
structure Inv(X:Cx)(pins:List (UB×Obj))(σ:List (Option V))(H:Hp)(s:Uz):Prop where
 ok:X.Ok
 os:s.os=X.s₀.os
 bare:AllBare s.gens
 base:Un X.fs X.ex X.H₀ H X.s₀.heap s.heap
 loc:∃m,s.heap.Ns X.env.locals m/\∀(i:Nat)(x:Str)(v:V),X.N[i]?=some x->σ[i]?=some (some v)->Vis X.env.scope x->∃u,RelV v u/\Look X.env s.heap m x u
 cell:∀x c,X.env.cells.lookup x=some c->∃v,s.heap.IsCell c v
 free:H X.env.locals=none
 freeC:∀x c,X.env.cells.lookup x=some c->H c=none
 pin:∀p∈X.pn++pins,s.heap.get? p.1=some p.2/\H p.1=none/\p.1≠X.env.locals/\p.1∉X.fs/\∀v,p.2.data≠.cell v
 hok:HOk X.prog X.w H s.heap
 len:σ.length=X.N.length
section
variable{X:Cx}{pins:List (UB×Obj)}{σ:List (Option V)}{H H':Hp}{s:Uz}{h':Heap}
theorem Cx.Ok.nofr(ok:X.Ok){b:UB}{o:Obj}(e:X.base.get? b=some o):b∉X.fs:=λhb=>by
 have:=(ok.funs.mem hb).1
 rw[e] at this;cases this
theorem Inv.bs(I:Inv X pins σ H s):∀b o,X.base.get? b=some o->s.heap.get? b=some o/\H b=none:=λb o e=>
 ⟨I.base.keep b o (I.ok.bs b o e).1 (I.ok.bs b o e).2 (I.ok.nofr e) (I.ok.noex b o e),I.base.free b o (I.ok.bs b o e).1 (I.ok.bs b o e).2 (I.ok.noex b o e)⟩
theorem Inv.bk(I:Inv X pins σ H s):∀b o,X.base.get? b=some o->s.heap.get? b=some o:=λb o e=>(I.bs b o e).1
theorem Inv.mod(I:Inv X pins σ H s):Mod X.K X.mg X.base:=I.ok.mod
theorem Inv.kIn(I:Inv X pins σ H s):X.K.In s.heap:=I.ok.mod.kin.keeps I.bk
theorem Inv.lt(I:Inv X pins σ H s):X.env.locals<s.heap.objs.size:=let ⟨_,hn,_⟩:=I.loc;hn.lt
theorem Inv.sz(I:Inv X pins σ H s):X.s₀.heap.objs.size<=s.heap.objs.size:=QT I.ok.above (Nat.le_of_lt I.lt)
theorem Inv.nofs(I:Inv X pins σ H s){a:UB}(h:s.heap.objs.size<=a):a∉X.fs:=λhb=>by
 obtain ⟨_,o,ho,_⟩:=I.ok.funs.mem hb;exact absurd (QI (Qi ho) (QT I.sz h)) (Jw _)
theorem Inv.cne(I:Inv X pins σ H s):∀x c,X.env.cells.lookup x=some c->c≠X.env.locals:=λx c e z=>by
 obtain ⟨v,o,ho,hd⟩:=I.cell x c e;obtain ⟨m,⟨o',es,ep,ho',hd',_⟩,_⟩:=I.loc;rw[z,ho'] at ho;cases ho;rw[hd'] at hd;cases hd
theorem Inv.funs(I:Inv X pins σ H s):s.heap.FunFrames X.base X.outer:=by
 have all:∀(l:List Env),(∀b∈frs l,b∈X.fs)->X.s₀.heap.FunFrames X.base l->s.heap.FunFrames X.base l:=by
  intro l
  induction l with
  |nil=>intro _ _;trivial
  |cons env r ih=>
   intro hs hl;obtain ⟨hk,⟨L,o,hf,hn,ho,hd⟩,hr⟩:=hl;have hL:L∈X.fs:=hs L (by unfold frs;rw[JD,hf];exact Qn)
   obtain ⟨sl,e⟩:=I.base.slot L o ho (I.ok.frf L hL) hL λz=>I.ok.exfs L z hL;exact ⟨hk,⟨L,_,hf,hn,e,hd⟩,ih (λb hb=>hs b (by unfold frs;rw[JD,hf];exact Qk _ hb)) hr⟩
 exact all X.outer (λ_ hb=>hb) I.ok.funs
theorem Inv.stack(I:Inv X pins σ H s):s.heap.FunFrames X.base X.stack:=by
 rcases I.ok.stk with e|⟨e,hf⟩
 ·rw[e];exact I.funs
 ·rw[e]
  obtain ⟨m,hn,_⟩:=I.loc;refine .cons (by rw[I.ok.kind];decide) hf hn ?_ I.funs
  exact Heap.get?_none_of_le (QT I.ok.bsz I.ok.above)
theorem Inv.stkSub(I:Inv X pins σ H s):∀b∈frs X.stack,b∈X.env.locals::X.fs:=λb hb=>by
 rcases I.ok.stk with e|⟨e,hf⟩
 ·rw[e] at hb;exact Qk _ hb
 ·rw[e] at hb
  unfold frs at hb;rw[JD,hf] at hb;exact hb
theorem Inv.stkFree(I:Inv X pins σ H s):∀b∈frs X.stack,H b=none:=λb hb=>by
 rcases Q0.mp (I.stkSub b hb) with e|hb
 ·rw[e];exact I.free
 ·obtain ⟨_,o,ho,_⟩:=I.ok.funs.mem hb
  exact I.base.free b o ho (I.ok.frf b hb) λz=>I.ok.exfs b z hb
theorem Inv.step{g':Array GenState}{t':Nat}{d':Drawn}{ch:List UB}(I:Inv X pins σ H s)
  (hch:∀b∈ch,(b∈X.ex∨X.s₀.heap.objs.size<=b)/\b≠X.env.locals/\(∀x c,X.env.cells.lookup x=some c->c≠b)/\∀p∈X.pn++pins,p.1≠b)
  (keep:∀b o,b≠X.env.locals->b∉X.fs->b∉ch->s.heap.get? b=some o->H b=none->h'.get? b=some o)
  (slot:∀b o,b≠X.env.locals->b∈X.fs->b∉ch->s.heap.get? b=some o->H b=none->∃sl,h'.get? b=some { o with slots:=sl }) (free:∀b o,b∉ch->s.heap.get? b=some o->H b=none->H' b=none)
  (there:∀b o,b∉ch->s.heap.get? b=some o->∃o',h'.get? b=some o')
  (tups:∀b xs,H b=some (.tup xs)->H' b=some (.tup xs)) (frzs:∀b o u,H b=some (.frz o u)->H' b=some (.frz o u)) (tbls:∀b ps,H b=some (.tbl ps)->∃more,H' b=some (.tbl (ps++more)))
  (ns:∀m,s.heap.Ns X.env.locals m->h'.Ns X.env.locals m) (hok:HOk X.prog X.w H' h') (hg:AllBare g') :
  Inv X pins σ H' { s with heap:=h',gens:=g',drawn:=d',toks:=t' }:=by
 have neL:∀b o,X.s₀.heap.get? b=some o->b≠X.env.locals:=λb o e=>QR (QI (Qi e) I.ok.above)
 have neC:∀b o,X.s₀.heap.get? b=some o->b∉X.ex->b∉ch:=λb o e hx hb=>by
  rcases (hch b hb).1 with z|z
  ·exact hx z
  ·exact absurd (QI (Qi e) z) (Jw _)
 have cellK:∀x c,X.env.cells.lookup x=some c->∀v,s.heap.IsCell c v->h'.IsCell c v:=λx c e v ⟨o,ho,hd⟩=>by
  have nch:c∉ch:=λz=>(hch c z).2.2.1 x c e rfl
  by_cases hc:c∈X.fs
  ·obtain ⟨sl,q⟩:=slot c o (I.cne x c e) hc nch ho (I.freeC x c e)
   exact ⟨_,q,hd⟩
  ·exact ⟨o,keep c o (I.cne x c e) hc nch ho (I.freeC x c e),hd⟩
 refine ⟨I.ok,I.os,hg,⟨λb o e n hb hx=>?_,λb o e n hb hx=>?_,λb o e n hx=>?_,λb o e hx=>?_,λb xs e=>tups b xs (I.base.tups b xs e),λb o xs e=>frzs b o xs (I.base.frzs b o xs e),λb ps e=>?_⟩,?_,λx c e=>?_,?_,λx c e=>?_,λp hp=>?_,hok,I.len⟩
 ·exact keep b o (neL b o e) hb (neC b o e hx) (I.base.keep b o e n hb hx) (I.base.free b o e n hx)
 ·obtain ⟨sl,e1⟩:=I.base.slot b o e n hb hx
  obtain ⟨sl',e2⟩:=slot b _ (neL b o e) hb (neC b o e hx) e1 (I.base.free b o e n hx);exact ⟨sl',e2⟩
 ·obtain ⟨o',e1⟩:=I.base.there b o e hx
  exact free b o' (neC b o e hx) e1 (I.base.free b o e n hx)
 ·obtain ⟨o',e1⟩:=I.base.there b o e hx
  exact there b o' (neC b o e hx) e1
 ·obtain ⟨m1,e1⟩:=I.base.tbls b ps e
  obtain ⟨m2,e2⟩:=tbls b _ e1;exact ⟨m1++m2,by rw[e2,Array.append_assoc]⟩
 ·obtain ⟨m,hn,hl⟩:=I.loc
  refine ⟨m,ns m hn,λi x v e1 e2 e3=>?_⟩;obtain ⟨u,r,l⟩:=hl i x v e1 e2 e3;refine ⟨u,r,?_⟩;rcases l with l|⟨k,c,e,z⟩
  ·exact .inl l
  ·exact .inr ⟨k,c,e,cellK x c e _ z⟩
 ·obtain ⟨v,z⟩:=I.cell x c e
  exact ⟨v,cellK x c e v z⟩
 ·obtain ⟨m,⟨o,_,_,ho,_⟩,_⟩:=I.loc
  exact free _ o (λz=>(hch _ z).2.1 rfl) ho I.free
 ·obtain ⟨v,o,ho,hd⟩:=I.cell x c e
  exact free c o (λz=>(hch c z).2.2.1 x c e rfl) ho (I.freeC x c e)
 ·obtain ⟨e,n,ne,nf,d⟩:=I.pin p hp
  have nch:p.1∉ch:=λz=>(hch p.1 z).2.2.2 p hp rfl;exact ⟨keep p.1 p.2 ne nf nch e n,free p.1 p.2 nch e n,ne,nf,d⟩
theorem Inv.un{t':Nat}(I:Inv X pins σ H s)(u:Un X.fs [] H H' s.heap h')(hok:HOk X.prog X.w H' h'):Inv X pins σ H' { s with heap:=h',toks:=t' }:=by
 obtain ⟨m,⟨o,es,ep,ho,r⟩,_⟩:=id I.loc;obtain ⟨sl,hL⟩:=u.any ho I.free (by simp)
 exact I.step (g':=s.gens) (d':=s.drawn) (ch:=[]) (λ_ z=>nomatch z) (λb o _ hb _ e n=>u.keep b o e n hb (by simp)) (λb o _ hb _ e n=>u.slot b o e n hb (by simp)) (λb o _ e n=>u.free b o e n (by simp)) (λb o _ e=>u.there b o e (by simp)) u.tups u.frzs u.tbls (λm' hm=>by
  obtain ⟨o',es',ep',ho',r'⟩:=hm;rw[ho] at ho';cases ho';exact ⟨_,es',ep',hL,r'⟩) hok I.bare
theorem Inv.call{g':Array GenState}{t':Nat}{d':Drawn}{ch:List UB}(I:Inv X pins σ H s)(u:Un (frs X.stack) ch H H' s.heap h')(hok:HOk X.prog X.w H' h')(hg:AllBare g')
  (hch:∀b∈ch,(b∈X.ex∨X.s₀.heap.objs.size<=b)/\b≠X.env.locals/\(∀x c,X.env.cells.lookup x=some c->c≠b)/\∀p∈X.pn++pins,p.1≠b) :
  Inv X pins σ H' { s with heap:=h',gens:=g',drawn:=d',toks:=t' }:=by
 obtain ⟨m,⟨o,es,ep,ho,r⟩,_⟩:=id I.loc;obtain ⟨sl,hL⟩:=u.any ho I.free λz=>(hch _ z).2.1 rfl
 exact I.step (ch:=ch) hch (λb o hL hb hc e n=>u.keep b o e n (λz=>(Q0.mp (I.stkSub b z)).elim hL hb) hc) (λb o _ _ hc e n=>u.any e n hc) (λb o hc e n=>u.free b o e n hc) (λb o hc e=>u.there b o e hc) u.tups u.frzs u.tbls (λm' hm=>by
  obtain ⟨o',es',ep',ho',r'⟩:=hm;rw[ho] at ho';cases ho';exact ⟨_,es',ep',hL,r'⟩) hok hg
theorem Inv.turned{t':Nat}{it:UB}(I:Inv X pins σ H s)(k:∀b o,b≠it->s.heap.get? b=some o->h'.get? b=some o)(hn:H it=none)(hL:it≠X.env.locals)
  (h1:it∈X.ex∨X.s₀.heap.objs.size<=it) (h2:∀x c,X.env.cells.lookup x=some c->c≠it) (h3:∀p∈X.pn++pins,p.1≠it):Inv X pins σ H { s with heap:=h',toks:=t' }:=by
 have nit:∀b u,H b=some u->b≠it:=λb u e z=>by rw[z,hn] at e;cases e
 refine I.step (g':=s.gens) (d':=s.drawn) (ch:=[it]) (λb hb=>?_) (λb o _ _ hc e _=>k b o (λz=>hc (by simp[z])) e) (λb o _ _ hc e _=>⟨o.slots,k b o (λz=>hc (by simp[z])) e⟩) (λ_ _ _ _ n=>n)
  (λb o hc e=>⟨o,k b o (λz=>hc (by simp[z])) e⟩) (λ_ _ e=>e) (λ_ _ _ e=>e) (λb ps e=>⟨#[],by rw[e];simp⟩) (λm hm=>?_) (λb u e=>?_) I.bare
 ·have e:b=it:=by simpa using hb
  subst e;exact ⟨h1,hL,h2,h3⟩
 ·obtain ⟨o,es,ep,ho,r⟩:=hm
  exact ⟨o,es,ep,k _ o (Ne.symm hL) ho,r⟩
 ·refine (I.hok b u e).stay (λc v hc q=>k c v ?_ q) (λ_ q=>q) λ_ _ q=>q
  rcases hc with z|z
  ·rw[z];exact nit b u e
  ·exact nit c _ z
theorem Inv.tok(I:Inv X pins σ H s)(t:Nat):Inv X pins σ H { s with toks:=t }:=I.un (h':=s.heap) (t':=t) Un.refl I.hok
theorem Inv.kept{t':Nat}(I:Inv X pins σ H s)(k:∀b u,s.heap.get? b=some u->h'.get? b=some u):Inv X pins σ H { s with heap:=h',toks:=t' }:=I.un (Un.kept k) (I.hok.kept k)
theorem Inv.laid{a:UB}{o:HO}{t':Nat}(I:Inv X pins σ H s)(k:∀b u,s.heap.get? b=some u->h'.get? b=some u)(hp:s.heap.objs.size<=a)(new:Y4 X.prog X.w (upd H a o) h' a o) :
  Inv X pins σ (upd H a o) { s with heap:=h',toks:=t' }:=I.un (Un.laid k hp (I.hok.fresh hp)) (I.hok.laid k hp new)
theorem Inv.write{x e:UB}{o:HO}{t':Nat}(I:Inv X pins σ H s)(mu:Mut (H x))(he:e=x∨H e=some (.own x))(k:∀b u,b≠e->s.heap.get? b=some u->h'.get? b=some u)(heo:∃u,h'.get? e=some u)
  (new:Y4 X.prog X.w (upd H x o) h' x o):Inv X pins σ (upd H x o) { s with heap:=h',toks:=t' }:=I.un (Un.write mu he k heo) (I.hok.write mu he k heo new)
theorem Inv.pins_of{pins':List (UB×Obj)}(I:Inv X pins σ H s)(h:∀p∈pins',s.heap.get? p.1=some p.2/\H p.1=none/\p.1≠X.env.locals/\p.1∉X.fs/\∀v,p.2.data≠.cell v):Inv X pins' σ H s :=
 ⟨I.ok,I.os,I.bare,I.base,I.loc,I.cell,I.free,I.freeC,λp hp=>(QW.mp hp).elim (λz=>I.pin p (Jf _ z)) (h p),I.hok,I.len⟩
theorem GA{N:List Str}(hN:N.Nodup){i j:Nat}{x:Str}(a:N[i]?=some x)(b:N[j]?=some x):i=j:=by
 obtain ⟨h1,e1⟩:=Qg.mp a;obtain ⟨h2,e2⟩:=Qg.mp b;exact (List.getElem_inj hN).mp (e1.trans e2.symm)
theorem ML{M:Model}{A:Around}{E:Uy->Uz->Prop}{i:Nat}{x:Str}{v:V}{u:Uy}{Q:Unit->Uz->Prop}(I:Inv X pins σ H s)(hN:X.N.Nodup)(hi:X.N[i]?=some x)(hx:Loc X.env.scope x)(r:RelV v u)
  (h:∀s',Inv X pins (σ.set i (some v)) H s'->(∃a,Heap.SameBut a s.heap s'.heap/\(a=X.env.locals∨X.env.cells.lookup x=some a))->Q () s') (hf:X.fn x=true∨X.env.scope.names.lookup x=some .local:=by first|exact .inl rfl|exact .inr rfl|assumption):UF M A (storeName X.env x u) Q E s:=by
 obtain ⟨m,hn,hl⟩:=id I.loc;have hcls:(X.env.scope.kind==.class || (X.env.scope.kind==.module&&X.env.locals != X.env.globals))=false:=by rw[I.ok.kind];rfl
 have hiσ:i<σ.length:=by rw[I.len];exact (Qg.mp hi).1
 have cne:=I.cne
 have tracked:∀{a:UB}{h':Heap},(∃o,s.heap.get? a=some o/\H a=none)->Heap.SameBut a s.heap h'->HOk X.prog X.w H h':=λ{a h'} ha hs b ob e=>by
  obtain ⟨_,_,hfree⟩:=ha;refine (I.hok b ob e).stay (λc w' hc q=>(hs.2 c ?_).trans q) (λ_ q=>q) λ_ _ q=>q;rintro rfl;rcases hc with rfl|hc
  ·rw[hfree] at e;cases e
  ·rw[hfree] at hc;cases hc
 rcases hx with hk|hk
 ·refine wpAny_storeName_local hk hn (λh' hn' hs=>?_) hcls
  obtain ⟨oL,_,_,hoL,_⟩:=id hn;refine h _ ⟨I.ok,I.os,I.bare,⟨λb o e n hb hx=>?_,λb o e n hb hx=>?_,I.base.free,λb o e hx=>?_,I.base.tups,I.base.frzs,I.base.tbls⟩,⟨_,hn',λj y v' e1 e2 e3=>?_⟩,λy c e=>?_,I.free,I.freeC,λp hp=>?_,tracked ⟨oL,hoL,I.free⟩ hs,by simpa using I.len⟩ ⟨_,hs,.inl rfl⟩
  ·exact (hs.2 b (QR (QI (Qi e) I.ok.above))).trans (I.base.keep b o e n hb hx)
  ·obtain ⟨sl,e1⟩:=I.base.slot b o e n hb hx
   exact ⟨sl,(hs.2 b (QR (QI (Qi e) I.ok.above))).trans e1⟩
  ·obtain ⟨o',e1⟩:=I.base.there b o e hx
   exact ⟨o',(hs.2 b (QR (QI (Qi e) I.ok.above))).trans e1⟩
  ·by_cases hj:j=i
   ·subst hj
    rw[hi] at e1;cases e1;rw[QJ hiσ] at e2;cases e2;exact ⟨u,r,.inl ⟨hk,by simp⟩⟩
   ·rw[Qu (Ne.symm hj)] at e2
    obtain ⟨u',r',q⟩:=hl j y v' e1 e2 e3;refine ⟨u',r',?_⟩;rcases q with ⟨k,e⟩|⟨k,c,e,z⟩
    ·refine .inl ⟨k,?_⟩
     have:y≠x:=λe=>hj (GA hN e1 (e ▸ hi))
     simp[this,e]
    ·exact .inr ⟨k,c,e,z.sameBut hs (cne y c e)⟩
  ·obtain ⟨w',z⟩:=I.cell y c e
   exact ⟨w',z.sameBut hs (cne y c e)⟩
  ·obtain ⟨e,n,ne,nf,d⟩:=I.pin p hp
   exact ⟨(hs.2 p.1 ne).trans e,n,ne,nf,d⟩
 ·have hfn:X.fn x=true:=by
   rcases hf with z|z
   ·exact z
   ·rw[z] at hk;cases hk
  obtain ⟨c,hc⟩:=I.ok.has x (.inl hk);obtain ⟨w',z⟩:=I.cell x c hc;refine wpAny_storeName_cell I.ok.kind hk hc z (λh' hc' hs=>?_);obtain ⟨oc,hoc,hocd⟩:=id z;refine h { s with heap:=h' } ⟨I.ok,I.os,I.bare,⟨λb o e n hb hx=>?_,λb o e n hb hx=>?_,I.base.free,λb o e hx=>?_,I.base.tups,I.base.frzs,I.base.tbls⟩,⟨m,hn.sameBut hs (Ne.symm (cne x c hc)),λj y v' e1 e2 e3=>?_⟩,λy c' e=>?_,I.free,I.freeC,λp hp=>?_,tracked ⟨oc,hoc,I.freeC x c hc⟩ hs,by simpa using I.len⟩ ⟨c,hs,.inr hc⟩
  ·exact (hs.2 b (QR (QI (Qi e) (I.ok.cab x c hfn hc)))).trans (I.base.keep b o e n hb hx)
  ·obtain ⟨sl,e1⟩:=I.base.slot b o e n hb hx
   exact ⟨sl,(hs.2 b (QR (QI (Qi e) (I.ok.cab x c hfn hc)))).trans e1⟩
  ·obtain ⟨o',e1⟩:=I.base.there b o e hx
   exact ⟨o',(hs.2 b (QR (QI (Qi e) (I.ok.cab x c hfn hc)))).trans e1⟩
  ·by_cases hj:j=i
   ·subst hj
    rw[hi] at e1;cases e1;rw[QJ hiσ] at e2;cases e2;exact ⟨u,r,.inr ⟨.inl hk,c,hc,hc'⟩⟩
   ·rw[Qu (Ne.symm hj)] at e2
    obtain ⟨u',r',q⟩:=hl j y v' e1 e2 e3;refine ⟨u',r',?_⟩;rcases q with q|⟨k,c',e,z'⟩
    ·exact .inl q
    ·refine .inr ⟨k,c',e,z'.sameBut hs ?_⟩
     rintro rfl;exact hj (GA hN e1 (I.ok.inj _ _ _ e hc ▸ hi))
  ·by_cases hcc:c'=c
   ·subst hcc;exact ⟨_,hc'⟩
   ·obtain ⟨w2,z2⟩:=I.cell y c' e
    exact ⟨w2,z2.sameBut hs hcc⟩
  ·obtain ⟨e,n,ne,nf,d⟩:=I.pin p hp
   refine ⟨(hs.2 p.1 ?_).trans e,n,ne,nf,d⟩;intro q;rw[q,hoc] at e;have q':oc=p.2:=QX e;exact d w' (by rw[←q'];exact hocd)
theorem MF{M:Model}{A:Around}{E:Uy->Uz->Prop}{i:Nat}{x:Str}{v:V}{u:Uy}{Q:Unit->Uz->Prop}(I:Inv X pins σ H s)(hN:X.N.Nodup)(hi:X.N[i]?=some x)(hx:Loc X.env.scope x)(r:RelV v u)
  (h:∀s',Inv X pins (σ.set i (some v)) H s'->Q () s') (hf:X.fn x=true∨X.env.scope.names.lookup x=some .local:=by first|exact .inl rfl|exact .inr rfl|assumption):UF M A (storeName X.env x u) Q E s :=
 ML I hN hi hx r (λs' I' _=>h s' I') hf
theorem Inv.call'{s':Uz}{ch:List UB}(I:Inv X pins σ H s)(ho:s'.os=s.os)(u:Un (frs X.stack) ch H H' s.heap s'.heap)(hok:HOk X.prog X.w H' s'.heap)(hg:AllBare s'.gens)
  (hch:∀b∈ch,(b∈X.ex∨X.s₀.heap.objs.size<=b)/\b≠X.env.locals/\(∀x c,X.env.cells.lookup x=some c->c≠b)/\∀p∈X.pn++pins,p.1≠b):Inv X pins σ H' s':=by
 obtain ⟨h',g',d',t',o'⟩:=s';have e:o'=s.os:=ho;subst e;exact I.call (g':=g') (t':=t') (d':=d') u hok hg hch
end
abbrev XK:=Uy->Option UB->Hp->Prop
abbrev St:=List (Option V)
abbrev VK:=V->Hp->Prop
abbrev TE:=St->Hp->VK->Prop
abbrev TT:=St->Hp->(Bool->Hp->Prop)->Prop
abbrev TA:=St->Hp->(List V->Hp->Prop)->Prop
structure Ends where
 nx:St->Hp->Prop
 rt:VK
 bk:St->Hp->Prop:=λ_ _=>False
 ct:St->Hp->Prop:=λ_ _=>False
abbrev TS:=Ends->St->Hp->Prop
def EP(X:Cx)(pins:List (UB×Obj))(σ:St)(Q:VK)(u:Uy)(s':Uz):Prop:=∃v H',Inv X pins σ H' s'/\RelV v u/\Q v H'
def TP(X:Cx)(pins:List (UB×Obj))(σ:St)(Q:Bool->Hp->Prop)(b:Bool)(s':Uz):Prop:=∃H',Inv X pins σ H' s'/\Q b H'
def AP(X:Cx)(pins:List (UB×Obj))(σ:St)(Q:List V->Hp->Prop)(us:List Uy)(s':Uz):Prop:=∃vs H',Inv X pins σ H' s'/\Vals vs us/\Q vs H'
def SP(X:Cx)(pins:List (UB×Obj))(D:Ends)(f:Flow)(s':Uz):Prop :=
 match f with
 |.next=>∃σ' H',Inv X pins σ' H' s'/\D.nx σ' H'
 |.brk=>∃σ' H',Inv X pins σ' H' s'/\D.bk σ' H'
 |.cont=>∃σ' H',Inv X pins σ' H' s'/\D.ct σ' H'
 |.ret u=>∃v σ' H',Inv X pins σ' H' s'/\RelV v u/\D.rt v H'
def PE(X:Cx)(e:UD)(t:TE):Prop :=
 ∀(pins:List (UB×Obj))(s:Uz)(σ:St)(H:Hp)(Q:VK),Inv X pins σ H s->t σ H Q->UF (model X.prog X.w) X.A (eval e X.env) (EP X pins σ Q) X.xe s
def PT(X:Cx)(e:UD)(t:TT):Prop :=
 ∀(pins:List (UB×Obj))(s:Uz)(σ:St)(H:Hp)(Q:Bool->Hp->Prop),Inv X pins σ H s->t σ H Q->UF (model X.prog X.w) X.A (isTrue e X.env (eval e X.env)) (TP X pins σ Q) X.xe s
def PW(X:Cx)(e:UD)(t:TT):Prop :=
 ∀(whole:Sem Uy)(pins:List (UB×Obj))(s:Uz)(σ:St)(H:Hp)(Q:Bool->Hp->Prop),Inv X pins σ H s->t σ H Q->UF (model X.prog X.w) X.A (isTrue e X.env whole) (TP X pins σ Q) X.xe s
theorem PW.pt{X:Cx}{e:UD}{t:TT}(h:PW X e t):PT X e t:=h _
def PA(X:Cx)(es:List UD)(t:TA):Prop :=
 ∀(pos:Pos)(pins:List (UB×Obj))(s:Uz)(σ:St)(H:Hp)(Q:List V->Hp->Prop),Inv X pins σ H s->t σ H Q->UF (model X.prog X.w) X.A (spliced (backTo pos (UG es X.env))) (AP X pins σ Q) X.xe s
def PS(X:Cx)(st:Stmt)(t:TS):Prop :=
 ∀(pins:List (UB×Obj))(s:Uz)(σ:St)(H:Hp)(D:Ends),Inv X pins σ H s->t D σ H->UF (model X.prog X.w) X.A (exec st X.env) (SP X pins D) X.xe s
def PSs(X:Cx)(st:List Stmt)(t:TS):Prop :=
 ∀(pins:List (UB×Obj))(s:Uz)(σ:St)(H:Hp)(D:Ends),Inv X pins σ H s->t D σ H->UF (model X.prog X.w) X.A (execs st X.env) (SP X pins D) X.xe s
theorem thn{α:Type}{t:Sem α}{Q Q':α->Uz->Prop}{M:Model}{A:Around}{E:Uy->Uz->Prop}{s:Uz}(h:UF M A t Q E s)(hQ:∀a s,Q a s->Q' a s):UF M A t Q' E s:=QO h hQ λ_ _ x=>x
section
variable{X:Cx}
def ZT(i:Nat):TE:=λσ H Q=>∃v,σ[i]?=some (some v)/\Q v H
def tC(v:V):TE:=λ_ H Q=>Q v H
theorem LI{i:Nat}{x:Str}{pos:Pos}(hN:X.N[i]?=some x)(hv:Vis X.env.scope x)(hd:(x==("__debug__" : Str))=false:=by decide)(hcd:(x==("__classdict__" : Str))=false:=by decide):PE X (.Name x pos) (ZT i):=by
 intro pins s σ H Q I h;obtain ⟨v,e,h⟩:=h;obtain ⟨m,hn,hl⟩:=I.loc;obtain ⟨u,r,l⟩:=hl i x v hN e hv;have fin:EP X pins σ Q u s:=⟨v,H,I,r,h⟩;rcases l with ⟨hk,hm⟩|⟨hk,c,hc,hcell⟩
 ·exact wpAny_Name (wpAny_loadName_local I.ok.kind hk hn hm fin) hd
 ·rcases hk with hk|hk
  ·exact wpAny_Name (wpAny_loadName_cell I.ok.kind hk hc hcell fin) hd
  ·exact wpAny_Name (wpAny_loadName_free I.ok.kind hk hc hcell fin hcd) hd
theorem DS{i j pos}:PE X (.Constant (.int i) j pos) (tC (.int i)):=λ_ _ _ H _ I h=>wpAny_Constant_int ⟨.int i,H,I.tok _,⟨_,rfl⟩,h⟩
theorem Ds{b j pos}:PE X (.Constant (.bool b) j pos) (tC (.bl b)):=λ_ _ _ H _ I h=>Constant_bool ⟨.bl b,H,I,rfl,h⟩
theorem DR{j pos}:PE X (.Constant .none j pos) (tC .non):=λ_ _ _ H _ I h=>Constant_none ⟨.non,H,I,rfl,h⟩
theorem DQ{x j pos}:PE X (.Constant (.str x) j pos) (tC (.str x)):=λ_ _ _ H _ I h=>Calls.Constant_str ⟨.str x,H,I.tok _,⟨_,rfl⟩,h⟩
def Gl(X:Cx)(x:Str):Prop:=X.env.kindOf x=some .globalImplicit
theorem Gh{E:Uy->Uz->Prop}{pins:List (UB×Obj)}{s:Uz}{σ:St}{H:Hp}{x:Str}{u:Uy}{pos:Pos}{Q:Uy->Uz->Prop}(I:Inv X pins σ H s)(hg:Gl X x)(hm:X.mg x=some u)(h:Q u s)
  (hd:(x==("__debug__" : Str))=false:=by decide):UF (model X.prog X.w) X.A (eval (.Name x pos) X.env) Q E s :=
 Calls.Name_function_global I.ok.kind hg (Calls.loadGlobal_global (by rw[I.ok.glob];exact I.mod.glob.keeps I.bk) hm h) hd
theorem T3{E:Uy->Uz->Prop}{pins:List (UB×Obj)}{s:Uz}{σ:St}{H:Hp}{x:Str}{u:Uy}{pos:Pos}{Q:Uy->Uz->Prop}(I:Inv X pins σ H s)(hg:Gl X x)(hm:X.mg x=none)(hv:bootBuiltins x=some u)(h:Q u s)
  (hn:x ≠ "__name__" := by decide) (hd:(x==("__debug__" : Str))=false:=by decide):UF (model X.prog X.w) X.A (eval (.Name x pos) X.env) Q E s:=by
 obtain ⟨mb,h1,h2⟩:=I.mod.blt;exact Calls.Name_function_global I.ok.kind hg (Calls.loadGlobal_builtin (by rw[I.ok.glob];exact I.mod.glob.keeps I.bk) hm (by rw[I.ok.blt];exact h1.keeps I.bk) ((h2 x hn).trans hv) h) hd
theorem HK{x:Str}{v:V}{u:Uy}{pos:Pos}(hg:Gl X x)(hm:X.mg x=some u)(r:RelV v u)(hd:(x==("__debug__" : Str))=false:=by decide):PE X (.Name x pos) (tC v) :=
 λ_ _ _ H _ I h=>Gh I hg hm ⟨v,H,I,r,h⟩ hd
theorem CY{x:Str}{v:V}{u:Uy}{pos:Pos}(hg:Gl X x)(hm:X.mg x=none)(hv:bootBuiltins x=some u)(r:RelV v u)(hn:x ≠ "__name__" := by decide)(hd:(x==("__debug__" : Str))=false:=by decide):PE X (.Name x pos) (tC v) :=
 λ_ _ _ H _ I h=>T3 I hg hm hv ⟨v,H,I,r,h⟩ hn hd
variable{a b:UD}{ta tb:TE}{pos:Pos}
def PC(X:Cx)(op:CmpOp)(a b:UD)(t:TE):Prop :=
 ∀(pins:List (UB×Obj))(s:Uz)(σ:St)(H:Hp)(Q:VK),Inv X pins σ H s->t σ H Q ->
  UF (model X.prog X.w) X.A (eval a X.env) (λv s₁=>UF (model X.prog X.w) X.A (eval b X.env) (λu s₂=>UF (model X.prog X.w) X.A (UH op v u) (EP X pins σ Q) X.xe s₂) X.xe s₁) X.xe s
theorem Gz(b:UD){op:CmpOp}(h:op≠.In)(h2:op≠.NotIn):behindInMarks op b=false:=by
 have e1:(op==CmpOp.In)=false:=by cases op <;> first|rfl|exact absurd rfl h
 have e2:(op==CmpOp.NotIn)=false:=by cases op <;> first|rfl|exact absurd rfl h2
 cases b <;> simp[behindInMarks,e1,e2]
def tIsN(ta:TE):TE:=λσ H Q=>ta σ H λx H1=>Q (.bl (decide (x=.non))) H1
def Dr(ta:TE):TE:=λσ H Q=>ta σ H λx H1=>Q (.bl (!decide (x=.non))) H1
theorem RelV.none_iff{x:V}{v:Uy}(r:RelV x v):(v==Value.none)=decide (x=.non):=by
 cases x with
 |non=>cases r;rfl
 |bl _=>cases r;rfl
 |int _=>obtain ⟨t,rfl⟩:=r;rfl
 |str _=>obtain ⟨t,rfl⟩:=r;rfl
 |byt _=>obtain ⟨t,rfl⟩:=r;rfl
 |flt _=>obtain ⟨t,rfl⟩:=r;rfl
 |ref _=>cases r;rfl
 |ty _=>cases r;rfl
theorem LH{j pos'}(ha:PE X a ta):PC X .Is a (.Constant .none j pos') (tIsN ta):=by
 intro pins s σ H Q I h;refine thn (ha pins s σ H _ I h) λv s1 ⟨x,H1,I1,r1,q1⟩=>?_;exact Constant_none (is_none_gen ⟨.bl _,H1,I1,by rw[r1.none_iff];rfl,q1⟩)
theorem CW{j pos'}(ha:PE X a ta):PC X .IsNot a (.Constant .none j pos') (Dr ta):=by
 intro pins s σ H Q I h;refine thn (ha pins s σ H _ I h) λv s1 ⟨x,H1,I1,r1,q1⟩=>?_;exact Constant_none (isnot_none_gen ⟨.bl _,H1,I1,by rw[r1.none_iff];rfl,q1⟩)
def tB(t:TE):TT:=λσ H Q=>t σ H λx H1=>∃c,x=.bl c/\Q c H1
theorem CB{op:CmpOp}{t:TE}(h:PC X op a b t)(h1:behindInMarks op b=false:=by first|exact Gz _ (by decide) (by decide)|rfl):PE X (.Compare a [op] [b] pos) t:=λpins s σ H Q I hw=>wpAny_Compare1 (h pins s σ H Q I hw) h1
theorem LG{op:CmpOp}{t:TE}(h:PC X op a b t)(h1:behindInMarks op b=false:=by first|exact Gz _ (by decide) (by decide)|rfl):PT X (.Compare a [op] [b] pos) (tB t):=by
 intro pins s σ H Q I hw;refine wpAny_isTrue_Compare1 (thn (h pins s σ H _ I hw) λv s1 h1=>thn h1 λu s2 h2=>thn h2 λc s3 ⟨x,H1,I1,r1,q1⟩=>?_) h1;obtain ⟨d,rfl,q⟩:=q1;cases r1;exact Q6 ⟨H1,I1,q⟩
theorem CA{e:UD}{t:TE}(h:PE X e t)(he:∀whole,isTrue e X.env whole=(do let v ←whole;standAt e.pos;holding [v] (truthy v)):=by intro _;rfl):PT X e (tB t):=by
 intro pins s σ H Q I hw;refine isTrue_plain (thn (h pins s σ H _ I hw) λv s1 ⟨x,H1,I1,r1,q1⟩=>?_) (he _);obtain ⟨d,rfl,q⟩:=q1;cases r1;exact Q6 ⟨H1,I1,q⟩
variable{tA tB':TT}{rest:List UD}
def tAnd(t u:TT):TT:=λσ H Q=>t σ H λc H1=>if c=true then u σ H1 Q else Q false H1
def tOr(t u:TT):TT:=λσ H Q=>t σ H λc H1=>if c=true then Q true H1 else u σ H1 Q
def tNot(t:TT):TT:=λσ H Q=>t σ H λc H1=>Q (!c) H1
theorem CV(ha:PT X a tA):PW X (.BoolOp .And [a] pos) tA:=by
 intro wh pins s σ H Q I h;refine isTrue_and (thn (ha pins s σ H Q I h) λc s1 e=>?_)
 cases c with
 |true=>exact isTrue_and_nil e
 |false=>exact e
theorem Cz(ha:PT X a tA):PW X (.BoolOp .Or [a] pos) tA:=by
 intro wh pins s σ H Q I h;refine isTrue_or (thn (ha pins s σ H Q I h) λc s1 e=>?_)
 cases c with
 |false=>exact isTrue_or_nil e
 |true=>exact e
theorem Cy(ha:PT X a tA)(hb:PW X (.BoolOp .And (b::rest) pos) tB'):PW X (.BoolOp .And (a::b::rest) pos) (tAnd tA tB'):=by
 intro wh pins s σ H Q I h;refine isTrue_and (thn (ha pins s σ H _ I h) λc s1 ⟨H1,I1,q1⟩=>?_)
 cases c with
 |true=>exact hb wh pins s1 σ H1 Q I1 q1
 |false=>exact ⟨H1,I1,q1⟩
theorem Dq(ha:PT X a tA)(hb:PW X (.BoolOp .Or (b::rest) pos) tB'):PW X (.BoolOp .Or (a::b::rest) pos) (tOr tA tB'):=by
 intro wh pins s σ H Q I h;refine isTrue_or (thn (ha pins s σ H _ I h) λc s1 ⟨H1,I1,q1⟩=>?_)
 cases c with
 |true=>exact ⟨H1,I1,q1⟩
 |false=>exact hb wh pins s1 σ H1 Q I1 q1
theorem Cw(ha:PT X a tA):PT X (.UnaryOp .Not a pos) (tNot tA):=by
 intro pins s σ H Q I h;exact isTrue_not (ha pins s σ H (λc H1=>Q (!c) H1) I h)
def Dp(ta tb:TE):TE:=λσ H Q=>ta σ H λx H1=>∃c,x=.bl c/\if c=true then tb σ H1 Q else Q (.bl false) H1
def tOrV(ta tb:TE):TE:=λσ H Q=>ta σ H λx H1=>∃c,x=.bl c/\if c=true then Q (.bl true) H1 else tb σ H1 Q
def Do(ta:TE):TE:=λσ H Q=>ta σ H λx H1=>∃c,x=.bl c/\Q (.bl (!c)) H1
theorem Cv{op}{t:TE}(h:PE X a t):PE X (.BoolOp op [a] pos) t:=λpins s σ H Q I hw=>BoolOp_one (h pins s σ H Q I hw)
theorem Cu(ha:PE X a ta)(hb:PE X (.BoolOp .And (b::rest) pos) tb):PE X (.BoolOp .And (a::b::rest) pos) (Dp ta tb):=by
 intro pins s σ H Q I h;refine BoolOp_and (thn (ha pins s σ H _ I h) λv s1 ⟨x,H1,I1,r1,q1⟩=>?_);obtain ⟨c,rfl,q1⟩:=q1;cases r1;refine Q6 ?_
 cases c with
 |true=>exact hb pins s1 σ H1 Q I1 q1
 |false=>exact ⟨.bl false,H1,I1,rfl,q1⟩
theorem Dm(ha:PE X a ta)(hb:PE X (.BoolOp .Or (b::rest) pos) tb):PE X (.BoolOp .Or (a::b::rest) pos) (tOrV ta tb):=by
 intro pins s σ H Q I h;refine BoolOp_or (thn (ha pins s σ H _ I h) λv s1 ⟨x,H1,I1,r1,q1⟩=>?_);obtain ⟨c,rfl,q1⟩:=q1;cases r1;refine Q6 ?_
 cases c with
 |false=>exact hb pins s1 σ H1 Q I1 q1
 |true=>exact ⟨.bl true,H1,I1,rfl,q1⟩
theorem Ct(ha:PE X a ta):PE X (.UnaryOp .Not a pos) (Do ta):=by
 intro pins s σ H Q I h;refine UnaryOp_ (thn (ha pins s σ H _ I h) λv s1 ⟨x,H1,I1,r1,q1⟩=>?_);obtain ⟨c,rfl,q1⟩:=q1;cases r1;exact not_of (Q6 ⟨.bl (!c),H1,I1,rfl,q1⟩)
def tIf(t:TT)(ta tb:TE):TE:=λσ H Q=>t σ H λc H1=>if c=true then ta σ H1 Q else tb σ H1 Q
theorem AU{c:UD}(hc:PT X c tA)(ha:PE X a ta)(hb:PE X b tb):PE X (.IfExp c a b pos) (tIf tA ta tb):=by
 intro pins s σ H Q I h;refine wpAny_IfExp (thn (hc pins s σ H _ I h) λd s1 ⟨H1,I1,q1⟩=>?_)
 cases d with
 |true=>exact ha pins s1 σ H1 Q I1 q1
 |false=>exact hb pins s1 σ H1 Q I1 q1
end
def SqL(K:Frag)(H:Hp)(a:UB)(xs:List V):Prop :=
 Rd H a (.lst xs) ∨
  ∃(o:Obj)(its:Array Uy)(n:Nat),K.lookup a=some o/\o.cls=.type "list" /\ o.dict=none/\o.data=.seq its n/\its.size<=UE/\Vals xs its.toList
def SqT(K:Frag)(H:Hp)(a:UB)(xs:List V):Prop :=
 Rd H a (.tup xs) ∨
  ∃(o:Obj)(its:Array Uy)(n:Nat),K.lookup a=some o/\o.cls=.type "tuple" /\ o.data=.seq its n/\its.size<=UE/\Vals xs its.toList
def absV:Uy->Option V
 |.none=>some .non
 |.bool b=>some (.bl b)
 |.int i _=>some (.int i)
 |.str x _=>some (.str x)
 |.bytes b _=>some (.byt b)
 |.float b _=>some (.flt b)
 |.ref a=>some (.ref a)
 |.type n=>some (.ty n)
 |_=>none
theorem RelV.abs{x:V}{u:Uy}(r:RelV x u):absV u=some x:=by
 cases x with
 |non=>cases r;rfl
 |bl _=>cases r;rfl
 |int _=>obtain ⟨t,rfl⟩:=r;rfl
 |str _=>obtain ⟨t,rfl⟩:=r;rfl
 |byt _=>obtain ⟨t,rfl⟩:=r;rfl
 |flt _=>obtain ⟨t,rfl⟩:=r;rfl
 |ref _=>cases r;rfl
 |ty _=>cases r;rfl
theorem RelV.inj{x y:V}{u:Uy}(r:RelV x u)(q:RelV y u):x=y:=QX (r.abs.symm.trans q.abs)
theorem Vals.inj:∀{xs ys:List V}{us:List Uy},Vals xs us->Vals ys us->xs=ys
 |_,_,_,.nil,.nil=>rfl
 |_,_,_,.cons r t,.cons r' t'=>by rw[r.inj r',Vals.inj t t']
section
variable{X:Cx}{pins:List (UB×Obj)}{σ:St}{H:Hp}{s:Uz}{a:UB}{xs ys:List V}
theorem SqL.of{K:Frag}(h:H a=some (.lst xs)):SqL K H a xs:=.inl (.inl h)
theorem SqT.of{K:Frag}(h:H a=some (.tup xs)):SqT K H a xs:=.inl (.inl h)
theorem Inv.list(I:Inv X pins σ H s)(h:SqL X.K H a xs):∃its:List Uy,Vals xs its/\PlainL s.heap a its.toArray/\xs.length<=UE:=by
 rcases h with h|⟨o,its,n,hk,hc,hd,hs,hz,r⟩
 ·obtain ⟨z,its,n,r,e⟩:=h.ok I.hok
  exact ⟨its,r,⟨_,n,e,rfl,rfl,rfl⟩,z⟩
 ·refine ⟨its.toList,r,⟨o,n,I.kIn a o hk,hc,hd,by simpa using hs⟩,?_⟩
  have e:=r.length;simp only[JE] at e;omega
theorem Inv.tuple(I:Inv X pins σ H s)(h:SqT X.K H a xs):∃its:List Uy,Vals xs its/\IsTup s.heap a its.toArray/\xs.length<=UE:=by
 rcases h with h|⟨o,its,n,hk,hc,hs,hz,r⟩
 ·obtain ⟨z,its,r,p⟩:=h.ok I.hok
  exact ⟨its,r,p,z⟩
 ·refine ⟨its.toList,r,⟨o,I.kIn a o hk,hc,n,by simpa using hs⟩,?_⟩
  have e:=r.length;simp only[JE] at e;omega
theorem Inv.list_inj(I:Inv X pins σ H s)(h:SqL X.K H a xs)(h':SqL X.K H a ys):xs=ys:=by
 obtain ⟨its,r,⟨o,n,e,_,_,d⟩,_⟩:=I.list h;obtain ⟨its',r',⟨o',n',e',_,_,d'⟩,_⟩:=I.list h';rw[e] at e';cases e';rw[d] at d';injection d' with d1 _
 have:its=its':=by simpa using congrArg Array.toList d1
 subst this;exact r.inj r'
theorem Inv.tuple_inj(I:Inv X pins σ H s)(h:SqT X.K H a xs)(h':SqT X.K H a ys):xs=ys:=by
 obtain ⟨its,r,⟨o,e,_,n,d⟩,_⟩:=I.tuple h;obtain ⟨its',r',⟨o',e',_,n',d'⟩,_⟩:=I.tuple h';rw[e] at e';cases e';rw[d] at d';injection d' with d1 _
 have:its=its':=by simpa using congrArg Array.toList d1
 subst this;exact r.inj r'
end
abbrev Cx.wish(X:Cx)(E:Uy->Uz->Prop):Cx:={ X with xe:=E }
abbrev Cx.nox(X:Cx):Cx:=X.wish λ_ _=>False
theorem Cx.Ok.wish{X:Cx}(ok:X.Ok)(E:Uy->Uz->Prop):(X.wish E).Ok :=
 ⟨ok.mod,ok.kind,ok.glob,ok.blt,ok.above,ok.inj,ok.has,ok.cab,ok.hd,ok.frames,ok.stk,ok.exf,ok.bs,ok.bsz,ok.noex,ok.exfs,ok.funs,ok.frf⟩
theorem Cx.Ok.unwish{X:Cx}{E:Uy->Uz->Prop}(ok:(X.wish E).Ok):X.Ok :=
 ⟨ok.mod,ok.kind,ok.glob,ok.blt,ok.above,ok.inj,ok.has,ok.cab,ok.hd,ok.frames,ok.stk,ok.exf,ok.bs,ok.bsz,ok.noex,ok.exfs,ok.funs,ok.frf⟩
section
variable{X:Cx}{pins:List (UB×Obj)}{σ:St}{H:Hp}{s:Uz}{E:Uy->Uz->Prop}
theorem Inv.wish(I:Inv X pins σ H s)(E:Uy->Uz->Prop):Inv (X.wish E) pins σ H s:=⟨I.ok.wish E,I.os,I.bare,I.base,I.loc,I.cell,I.free,I.freeC,I.pin,I.hok,I.len⟩
theorem Inv.unwish(I:Inv (X.wish E) pins σ H s):Inv X pins σ H s:=⟨I.ok.unwish,I.os,I.bare,I.base,I.loc,I.cell,I.free,I.freeC,I.pin,I.hok,I.len⟩
theorem SP.unwish{D:Ends}{f:Flow}{s':Uz}(h:SP (X.wish E) pins D f s'):SP X pins D f s':=by
 cases f with
 |next=>obtain ⟨σ',H',I,q⟩:=h;exact ⟨σ',H',I.unwish,q⟩
 |brk=>obtain ⟨σ',H',I,q⟩:=h;exact ⟨σ',H',I.unwish,q⟩
 |cont=>obtain ⟨σ',H',I,q⟩:=h;exact ⟨σ',H',I.unwish,q⟩
 |ret u=>obtain ⟨v,σ',H',I,r,q⟩:=h;exact ⟨v,σ',H',I.unwish,r,q⟩
theorem PSs.nox{st:List Stmt}{t:TS}(h:PSs X.nox st t):PSs X st t:=λpins s σ H D I hw=>
 QO (h pins s σ H D (I.wish _) hw) (λ_ _ q=>q.unwish) λ_ _ z=>False.elim z
end
section
variable{X:Cx}{st:Stmt}{rest:List Stmt}{t u:TS}{e:UD}{te:TE}{pos:Pos}
def Dl:TS:=λD σ H=>D.nx σ H
def tSeq(t u:TS):TS:=λD σ H=>t { D with nx:=u D } σ H
theorem CU:PSs X [] Dl:=λ_ _ σ H _ I h=>wpAny_execs_nil ⟨σ,H,I,h⟩
theorem AT(h1:PS X st t)(h2:PSs X rest u):PSs X (st::rest) (tSeq t u):=by
 intro pins s σ H D I h;refine wpAny_execs_cons (thn (h1 pins s σ H { D with nx:=u D } I h) λf s1 q=>?_)
 cases f with
 |next=>
  obtain ⟨σ',H',I',q⟩:=q;exact h2 pins s1 σ' H' D I' q
 |ret v=>exact q
 |brk=>exact q
 |cont=>exact q
theorem CT(h1:PS X st t):PSs X [st] t:=by
 intro pins s σ H D I h;refine wpAny_execs_cons (thn (h1 pins s σ H D I h) λf s1 q=>?_)
 cases f with
 |next=>exact wpAny_execs_nil q
 |ret v=>exact q
 |brk=>exact q
 |cont=>exact q
theorem Inv.quiet{pins:List (UB×Obj)}{σ:St}{H:Hp}{s:Uz}(I:Inv X pins σ H s):interactive X.env=false:=by simp[interactive,I.ok.kind]
def Dk(te:TE):TS:=λD σ H=>te σ H λ_ H1=>D.nx σ H1
theorem HJ(he:PE X e te)(hs:swapsWith e none pos.line X.env=pure false:=by rfl):PS X (.Expr e pos) (Dk te):=by
 intro pins s σ H D I h;exact wpAny_Expr_any (thn (he pins s σ H _ I h) λv s1 ⟨x,H1,I1,r1,q1⟩=>⟨σ,H1,I1,q1⟩) I.quiet hs
def tRet(te:TE):TS:=λD σ H=>te σ H D.rt
theorem Cs(he:PE X e te):PS X (.Return (some e) pos) (tRet te):=by
 intro pins s σ H D I h;exact wpAny_Return_some (thn (he pins s σ H _ I h) λv s1 ⟨x,H1,I1,r1,q1⟩=>⟨x,σ,H1,I1,r1,q1⟩)
def tIfS(c:TT)(t u:TS):TS:=λD σ H=>c σ H λb H1=>if b=true then t D σ H1 else u D σ H1
theorem Dj{c:UD}{a b:List Stmt}{tc:TT}(hc:PT X c tc)(ha:PSs X a t)(hb:PSs X b u):PS X (.If c a b pos) (tIfS tc t u):=by
 intro pins s σ H D I h;refine wpAny_If (thn (hc pins s σ H _ I h) λd s1 ⟨H1,I1,q1⟩=>?_)
 cases d with
 |true=>exact ha pins s1 σ H1 D I1 q1
 |false=>exact hb pins s1 σ H1 D I1 q1
end
abbrev TG:=V->St->Hp->(St->Hp->Prop)->Prop
abbrev TGs:=List V->St->Hp->(St->Hp->Prop)->Prop
def PG(X:Cx)(target:UD)(t:TG):Prop :=
 ∀(pins:List (UB×Obj))(s:Uz)(σ:St)(H:Hp)(v:V)(u:Uy)(Q:St->Hp->Prop),Inv X pins σ H s->RelV v u->t v σ H Q ->
  UF (model X.prog X.w) X.A (assign target X.env u) (λ_ s'=>∃σ' H',Inv X pins σ' H' s'/\Q σ' H') X.xe s
def PGs(X:Cx)(ts:List UD)(t:TGs):Prop :=
 ∀(pins:List (UB×Obj))(s:Uz)(σ:St)(H:Hp)(vs:List V)(us:List Uy)(Q:St->Hp->Prop),Inv X pins σ H s->Vals vs us->t vs σ H Q ->
  UF (model X.prog X.w) X.A (assignInOrder ((UV ts X.env).map (·.2)) us) (λ_ s'=>∃σ' H',Inv X pins σ' H' s'/\Q σ' H') X.xe s
abbrev RX:=V->V->V->Hp->(Hp->Prop)->Prop
def PSet(X:Cx)(t:RX):Prop :=
 ∀(pins:List (UB×Obj))(s:Uz)(σ:St)(H:Hp)(o i v:V)(ov iv u:Uy)(Q:Hp->Prop),Inv X pins σ H s->RelV o ov->RelV i iv->RelV v u->t o i v H Q ->
  UF (model X.prog X.w) X.A (setItem ov iv u) (λ_ s'=>∃H',Inv X pins σ H' s'/\Q H') X.xe s
abbrev TIp:=V->V->Hp->VK->Prop
def PIp(X:Cx)(op:Operator)(t:TIp):Prop :=
 ∀(pins:List (UB×Obj))(s:Uz)(σ:St)(H:Hp)(x y:V)(v u:Uy)(Q:VK),Inv X pins σ H s->RelV x v->RelV y u->t x y H Q ->
  UF (model X.prog X.w) X.A (inplaceOp op v u) (EP X pins σ Q) X.xe s
section
variable{X:Cx}{pos:Pos}
def NI(i:Nat):TG:=λv σ H Q=>Q (σ.set i (some v)) H
theorem Kq{i:Nat}{x:Str}(hN:X.N.Nodup)(hi:X.N[i]?=some x)(hx:Loc X.env.scope x)(hf:X.fn x=true∨X.env.scope.names.lookup x=some .local:=by first|exact .inl rfl|exact .inr rfl|assumption):PG X (.Name x pos) (NI i):=by
 intro pins s σ H v u Q I r h;exact wpAny_assign_Name (MF I hN hi hx r (λs' I'=>⟨_,H,I',h⟩) hf)
def gNil:TGs:=λvs σ H Q=>vs=[]/\Q σ H
def Di(t:TG)(u:TGs):TGs:=λvs σ H Q=>∃v r,vs=v::r/\t v σ H λσ' H'=>u r σ' H' Q
theorem CS:PGs X [] gNil:=by
 intro pins s σ H vs us Q I r h;obtain ⟨e,h⟩:=h;subst e;cases r;exact assignInOrder_nil ⟨σ,H,I,h⟩
theorem AS{e:UD}{es:List UD}{t:TG}{u:TGs}(h1:PG X e t)(h2:PGs X es u)
  (hs:(UV (e::es) X.env).map (·.2)=assign e X.env::(UV es X.env).map (·.2):=by rfl):PGs X (e::es) (Di t u):=by
 intro pins s σ H vs us Q I r h;obtain ⟨v,vr,e1,h⟩:=h;subst e1
 cases r with
 |cons r rr=>
  rw[hs];refine assignInOrder_cons (thn (h1 pins s σ H _ _ _ I r h) λ_ s1 ⟨σ1,H1,I1,q1⟩=>?_);exact h2 pins s1 σ1 H1 _ _ Q I1 rr q1
def gTup(K:Frag)(n:Nat)(t:TGs):TG:=λv σ H Q=>∃a xs,v=.ref a/\SqT K H a xs/\xs.length=n/\t xs σ H Q
theorem Cr{es:List UD}{k:Nat}{t:TGs}{n:Nat}(hc:X.calm=true)(h:PGs X es t)
  (hn:(UV es X.env).length=n:=by rfl) (hst:(UV es X.env).findIdx? (·.1)=none:=by rfl):PG X (.Tuple es k pos) (gTup X.K n t):=by
 intro pins s σ H v u Q I r hw;obtain ⟨a,xs,e1,hq,hl,hw⟩:=hw;subst e1;cases r;obtain ⟨its,rv,ht,hz⟩:=I.tuple hq;refine assign_Tuple_tuple (I.ok.hd hc) ht (by simp[hn,←hl,rv.length]) hst λh' hx=>?_
 have I1:Inv X pins σ H { s with heap:=h' }:=I.kept (t':=s.toks) λb o e=>hx b o (QR (Qi e)) e;exact h pins _ σ H xs _ Q I1 (by simpa using rv) hw
def tAsg(te:TE)(g:TG):TS:=λD σ H=>te σ H λx H1=>g x σ H1 D.nx
theorem Cq{tg e:UD}{te:TE}{g:TG}(he:PE X e te)(hg:PG X tg g)(hs:swapsWithSole [tg] e pos.line X.env=pure false:=by rfl)(hw:swappedStores [tg] e X.env=pure none:=by rfl)
  (h1:(UV [tg] X.env).map (·.2)=[assign tg X.env]:=by rfl):PS X (.Assign [tg] e pos) (tAsg te g):=by
 intro pins s σ H D I h;refine wpAny_Assign_stores (thn (he pins s σ H _ I h) λv s1 ⟨x,H1,I1,r1,q1⟩=>?_) hs hw;rw[h1];exact thn (hg pins s1 σ H1 x v _ I1 r1 q1) λ_ s2 q=>q
theorem LF{i:Nat}{x:Str}{e:UD}{te:TE}{pos':Pos}(hN:X.N.Nodup)(hi:X.N[i]?=some x)(hx:Loc X.env.scope x)(he:PE X e te)(hs:swapsWith e (some (.Name x pos')) pos.line X.env=pure false:=by rfl)(hf:X.fn x=true∨X.env.scope.names.lookup x=some .local:=by first|exact .inl rfl|exact .inr rfl|assumption) :
  PS X (.Assign [.Name x pos'] e pos) (tAsg te (NI i)):=by
 intro pins s σ H D I h;refine wpAny_Assign_Name (thn (he pins s σ H _ I h) λv s1 ⟨y,H1,I1,r1,q1⟩=>?_) hs;exact MF I1 hN hi hx r1 (λs2 I2=>⟨_,H1,I2,q1⟩) hf
def tAug(i:Nat)(te:TE)(ti:TIp):TS:=λD σ H=>∃x,σ[i]?=some (some x)/\te σ H λy H1=>ti x y H1 λz H2=>D.nx (σ.set i (some z)) H2
theorem Cp{i:Nat}{x:Str}{e:UD}{te:TE}{op:Operator}{ti:TIp}{pos':Pos}(hN:X.N.Nodup)(hi:X.N[i]?=some x)(hx:Loc X.env.scope x)(he:PE X e te)(ho:PIp X op ti)(hf:X.fn x=true∨X.env.scope.names.lookup x=some .local:=by first|exact .inl rfl|exact .inr rfl|assumption) :
  PS X (.AugAssign (.Name x pos') op e pos) (tAug i te ti):=by
 intro pins s σ H D I h;obtain ⟨v,e1,h⟩:=h;obtain ⟨m,hn,hl⟩:=I.loc;have vis:Vis X.env.scope x:=by rcases hx with k|k;exact .inl k;exact .inr (.inl k)
 obtain ⟨u,r,l⟩:=hl i x v hi e1 vis;refine wpAny_AugAssign_Name ?_
 have go:UF (model X.prog X.w) X.A (eval e X.env) (λw s₂=>UF (model X.prog X.w) X.A (inplaceOp op u w) (λr s₃=>UF (model X.prog X.w) X.A (storeName X.env x r) (λ_=>SP X pins D .next) X.xe s₃) X.xe s₂) X.xe s:=by
  refine thn (he pins s σ H _ I h) λw s1 ⟨y,H1,I1,r1,q1⟩=>?_;refine thn (ho pins s1 σ H1 v y u w _ I1 r r1 q1) λz s2 ⟨zv,H2,I2,r2,q2⟩=>?_;exact MF I2 hN hi hx r2 (λs3 I3=>⟨_,H2,I3,q2⟩) hf
 rcases l with ⟨hk,hm⟩|⟨hk,c,hc,hcell⟩
 ·exact wpAny_loadName_local I.ok.kind hk hn hm go
 ·rcases hk with hk|hk
  ·exact wpAny_loadName_cell I.ok.kind hk hc hcell go
  ·rcases hx with k|k
   ·have:X.env.scope.names.lookup x=some .free:=hk
    rw[k] at this;cases this
   ·have:X.env.scope.names.lookup x=some .free:=hk
    rw[k] at this;cases this
def Dh(to ti te:TE)(tget:V->V->Hp->VK->Prop)(tip:TIp)(tset:RX):TS:=λD σ H=>to σ H λo H1=>ti σ H1 λi H2=>tget o i H2 λx H3=>te σ H3 λy H4=>tip x y H4 λz H5=>tset o i z H5 λH6=>D.nx σ H6
def PGet(X:Cx)(t:V->V->Hp->VK->Prop):Prop :=
 ∀(pins:List (UB×Obj))(s:Uz)(σ:St)(H:Hp)(o i:V)(ov iv:Uy)(Q:VK),Inv X pins σ H s->RelV o ov->RelV i iv->t o i H Q ->
  UF (model X.prog X.w) X.A (getItem ov iv) (EP X pins σ Q) X.xe s
theorem CQ{o i e:UD}{to ti te:TE}{tget:V->V->Hp->VK->Prop}{tip:TIp}{tset:RX}{op:Operator}{tpos:Pos}(ho:PE X o to)(hi:PE X i ti)(hg:PGet X tget)(he:PE X e te)(hp:PIp X op tip)(hs:PSet X tset)
  (ha:∀ov iv new,augStore i ov iv new=(do holding [new,ov,iv] (setItem ov iv new);release [new,ov,iv] [];pure .next):=by intros;rfl):PS X (.AugAssign (.Subscript o i tpos) op e pos) (Dh to ti te tget tip tset):=by
 intro pins s σ H D I h;refine wpAny_AugAssign_SubscriptAny (thn (ho pins s σ H _ I h) λov s1 ⟨x1,H1,I1,r1,q1⟩=>?_) ha;refine thn (hi pins s1 σ H1 _ I1 q1) λiv s2 ⟨x2,H2,I2,r2,q2⟩=>?_;refine thn (hg pins s2 σ H2 x1 x2 ov iv _ I2 r1 r2 q2) λold s3 ⟨x3,H3,I3,r3,q3⟩=>?_;refine thn (he pins s3 σ H3 _ I3 q3) λv s4 ⟨x4,H4,I4,r4,q4⟩=>?_;refine thn (hp pins s4 σ H4 x3 x4 old v _ I4 r3 r4 q4) λnew s5 ⟨x5,H5,I5,r5,q5⟩=>?_;exact thn (hs pins s5 σ H5 x1 x2 x5 ov iv new _ I5 r1 r2 r5 q5) λ_ s6 ⟨H6,I6,q6⟩=>⟨σ,H6,I6,q6⟩
def ipI(f:Int->Int->Int):TIp:=λx y H Q=>∃i j,x=.int i/\y=.int j/\Q (.int (f i j)) H
theorem Co:PIp X .Add (ipI λi j=>i+j):=by
 intro pins s σ H x y v u Q I r1 r2 h;obtain ⟨i,j,e1,e2,q⟩:=h;subst e1;subst e2;obtain ⟨t,rfl⟩:=r1;obtain ⟨t',rfl⟩:=r2;exact iadd_int ⟨.int _,H,I.tok _,⟨_,rfl⟩,q⟩
end
section
variable{X:Cx}{pos:Pos}
def Cn(c:TT)(tb:TS):TS:=λD σ H=>∃W:Nat->St->Hp->Prop,(∃m,W m σ H)/\∀m σ H,W m σ H ->
 c σ H λb H1=>if b=true then ∃N:St->Hp->Prop,(∀σ' H',N σ' H'->∃m',m'<m/\W m' σ' H')/\tb { D with nx:=N,ct:=N,bk:=D.nx } σ H1 else D.nx σ H1
theorem AR{c:UD}{body:List Stmt}{tc:TT}{tb:TS}(hp:PassesOwn (model X.prog X.w) X.A X.env X.xe)(hc:PT X c tc)(hb:PSs X body tb):PS X (.While c body [] pos) (Cn tc tb):=by
 intro pins s σ H D I h;obtain ⟨W,⟨m0,w0⟩,turn⟩:=h;refine wpAny_While (codeAny_whileLoop (λn s'=>∃σ' H',Inv X pins σ' H' s'/\W n σ' H') ?_ m0 ⟨σ,H,I,w0⟩);rintro n s1 ⟨σ1,H1,I1,w1⟩;refine Jv hp (thn (hc pins s1 σ1 H1 _ I1 (turn n σ1 H1 w1)) λb s2 ⟨H2,I2,q2⟩=>?_)
 cases b with
 |true=>
  obtain ⟨N,hN,q2⟩:=q2;rw[Ql rfl];refine Jv hp (thn (hb pins s2 σ1 H2 _ I2 q2) λf s3 q3=>?_)
  cases f with
  |next=>
   obtain ⟨σ3,H3,I3,n3⟩:=q3;obtain ⟨m',hm,w3⟩:=hN σ3 H3 n3;exact ⟨m',hm,σ3,H3,I3,w3⟩
  |cont=>
   obtain ⟨σ3,H3,I3,n3⟩:=q3;obtain ⟨m',hm,w3⟩:=hN σ3 H3 n3;exact ⟨m',hm,σ3,H3,I3,w3⟩
  |brk=>exact q3
  |ret v=>exact q3
 |false=>
  rw[Qs JJ];exact wpAny_execs_nil ⟨σ1,H2,I2,q2⟩
end
structure It where
 go:Nat->Hp->Prop
 yld:Nat->Hp->V->Hp->Prop
 stop:Nat->Hp->Prop
def Yp(X:Cx)(pins:List (UB×Obj))(H:Hp)(b:UB):Prop :=
 H b=none/\b≠X.env.locals/\b∉X.fs/\(b∈X.ex∨X.s₀.heap.objs.size<=b)/\(∀x c,X.env.cells.lookup x=some c->c≠b)/\∀p∈X.pn++pins,p.1≠b
theorem Inv.fpOk{X:Cx}{pins:List (UB×Obj)}{σ:St}{H H':Hp}{s:Uz}{b:UB}(I:Inv X pins σ H s)(hb:s.heap.objs.size<=b)(hn:H' b=none):Yp X pins H' b:=by
 refine ⟨hn,JW (QI I.lt hb),I.nofs hb,.inr (QT I.sz hb),λx c e z=>?_,λp hp z=>?_⟩
 ·obtain ⟨v,q⟩:=I.cell x c e
  exact absurd (QI q.lt (by rw[z];exact hb)) (Jw _)
 ·exact absurd (QI (Qi (I.pin p hp).1) (by rw[z];exact hb)) (Jw _)
structure Turn(P:UA)(w:World)(K:Frag)(tg:UD)(J:It)(fp:List UB)(it:UB)(tn:Nat->Heap->Prop):Prop where
 mem:it∈fp
 obj:∀i h,tn i h->∀b∈fp,∃o,h.get? b=some o/\∀v,o.data≠.cell v
 keep:∀i h h',tn i h->(∀b∈fp,∀o,h.get? b=some o->h'.get? b=some o)->tn i h'
 item:∀(X:Cx),X.prog=P->X.w=w->X.K=K->X.calm=true->∀(i:Nat)(pins:List (UB×Obj))(s:Uz)(σ:St)(H:Hp)(E:Uy->Uz->Prop),Inv X pins σ H s->(∀b∈fp,Yp X pins H b)->tn i s.heap->J.go i H ->
  UF (model P w) X.A (pyNext (.ref it)) (λr s1=>∃u,r=some u /\
   UF (model P w) X.A (letOwnedTupleGo tg (.ref it) u) (λ_ s2=>∃x H',Inv X pins σ H' s2/\RelV x u/\J.yld i H x H'/\tn (i+1) s2.heap/\∀b∈fp,H' b=none) E s1) E s
 done:∀(X:Cx),X.prog=P->X.w=w->X.K=K->X.calm=true->∀(i:Nat)(pins:List (UB×Obj))(s:Uz)(σ:St)(H:Hp)(E:Uy->Uz->Prop),Inv X pins σ H s->(∀b∈fp,Yp X pins H b)->tn i s.heap->J.stop i H ->
  UF (model P w) X.A (pyNext (.ref it)) (λr s1=>r=none/\Inv X pins σ H s1) E s
 self:∀(A:Around)(i:Nat)(s:Uz)(Q:Uy->Uz->Prop)(E:Uy->Uz->Prop),tn i s.heap->Q (.ref it) s->UF (model P w) A (pyIter (.ref it)) Q E s
abbrev TI:=St->Hp->(It->Hp->Prop)->Prop
def PIE(X:Cx)(pins:List (UB×Obj))(σ:St)(tg:UD)(R:It->Hp->Prop)(itv:Uy)(s2:Uz):Prop :=
 ∃(it:UB)(fp:List UB)(tn:Nat->Heap->Prop)(J:It)(H':Hp),itv=.ref it/\Inv X pins σ H' s2/\Turn X.prog X.w X.K tg J fp it tn/\tn 0 s2.heap/\(∀b∈fp,Yp X pins H' b)/\R J H'
def PI(X:Cx)(tg iter:UD)(wi:TI):Prop :=
 ∀(pins:List (UB×Obj))(s:Uz)(σ:St)(H:Hp)(R:It->Hp->Prop),Inv X pins σ H s->wi σ H R ->
  UF (model X.prog X.w) X.A (eval iter X.env) (λv s1=>UF (model X.prog X.w) X.A (pyIter v) (PIE X pins σ tg R) X.xe s1) X.xe s
theorem ON{M:Model}{A:Around}{E:Uy->Uz->Prop}{s:Uz}{tg:UD}{it:UB}{u:Uy}{o:Obj}{n:String}{vs:Array Uy}{Q:Unit->Uz->Prop}(ho:s.heap.get? it=some o)(hc:o.cls=.type n)(hd:o.data=.fields vs)
  (hn:["enumerate", "zip", "dict_itemiterator", "dict_reverseitemiterator", "odict_iterator", "itertools.zip_longest", "itertools.pairwise"].contains n=false) (hQ:Q () s):UF M A (letOwnedTupleGo tg (.ref it) u) Q E s:=by
 unfold letOwnedTupleGo
 cases tg <;> first
  |exact Qo hQ
  |(cases u <;> first
    |exact Qo hQ
    |(
      refine Qf (wpAny_load ho ?_);rw[hc,hd]
      show UF M A (if (["enumerate", "zip", "dict_itemiterator", "dict_reverseitemiterator", "odict_iterator", "itertools.zip_longest", "itertools.pairwise"].contains n&&vs[0]?==some (rawInt _))=true then _ else _) Q E s
      rw[Qs (by intro h;rw[hn,Bool.false_and] at h;cases h)]
      exact Qo hQ))
def Itl(K:Frag)(a:UB):It :=
 ⟨λi H=>∃xs x,SqL K H a xs/\xs[i]?=some x,λi H x H'=>H'=H/\∀xs,SqL K H a xs->xs[i]?=some x,λi H=>∃xs,SqL K H a xs/\xs.length<=i⟩
def Itt(K:Frag)(a:UB):It :=
 ⟨λi H=>∃xs x,SqT K H a xs/\xs[i]?=some x,λi H x H'=>H'=H/\∀xs,SqT K H a xs->xs[i]?=some x,λi H=>∃xs,SqT K H a xs/\xs.length<=i⟩
def Itr(lo:Int)(n:Nat):It:=⟨λi _=>i<n,λi H x H'=>H'=H/\x=.int (lo+i),λi _=>n<=i⟩
theorem qJ{P:UA}{w:World}{K:Frag}{tg:UD}(a it:UB):Turn P w K tg (Itl K a) [it] it (λi h=>h.IsListIter it a i) where
 mem:=by simp
 obj:=λi h st b hb=>by
  have e:b=it:=by simpa using hb
  subst e;obtain ⟨o,e,c,d⟩:=st;exact ⟨o,e,λv z=>by rw[d] at z;cases z⟩
 keep:=λi h h' st k=>st.at λo e=>k it (by simp) o e
 item:=by
  intro X hP hw hK hc i pins s σ H E I hf st hg;subst hP hw hK;obtain ⟨xs,x,hq,hx⟩:=hg;obtain ⟨its,rv,p,hz⟩:=I.list hq;obtain ⟨u,hu,ru⟩:=rv.get hx;obtain ⟨f0,f1,f2,f3,f4,f5⟩:=hf it (by simp)
  refine wpAny_pyNext_list_item st p.isList (x:=u) (by simpa using hu) λh' st' sb=>?_
  have I1:Inv X pins σ H { s with heap:=h' }:=I.turned (t':=s.toks) (λb o hb e=>(sb.2 b hb).trans e) f0 f1 f3 f4 f5;obtain ⟨o,e,c,d⟩:=id st';exact ⟨u,rfl,ON (s:={ s with heap:=h' }) e c d (by decide) ⟨x,H,I1,ru,⟨rfl,λys hy=>by rw[I.list_inj hy hq];exact hx⟩,st',λb hb=>(hf b hb).1⟩⟩
 done:=by
  intro X hP hw hK hc i pins s σ H E I hf st hg;subst hP hw hK;obtain ⟨xs,hq,hx⟩:=hg;obtain ⟨its,rv,p,hz⟩:=I.list hq;obtain ⟨f0,f1,f2,f3,f4,f5⟩:=hf it (by simp)
  have hl:=rv.length;exact wpAny_pyNext_list_end (I.ok.hd hc) st p.isList (by simp;omega) λh' eb=>⟨rfl,I.turned (t':=s.toks) (λb o hb e=>eb b o hb e) f0 f1 f3 f4 f5⟩
 self:=λ_ _ _ _ _ st h=>wpAny_pyIter_listiter st h
theorem jo{P:UA}{w:World}{K:Frag}{tg:UD}(a it:UB):Turn P w K tg (Itt K a) [it] it (λi h=>h.IsTupleIter it a i) where
 mem:=by simp
 obj:=λi h st b hb=>by
  have e:b=it:=by simpa using hb
  subst e;obtain ⟨o,e,c,d⟩:=st;exact ⟨o,e,λv z=>by rw[d] at z;cases z⟩
 keep:=λi h h' st k=>st.at λo e=>k it (by simp) o e
 item:=by
  intro X hP hw hK hc i pins s σ H E I hf st hg;subst hP hw hK;obtain ⟨xs,x,hq,hx⟩:=hg;obtain ⟨its,rv,p,hz⟩:=I.tuple hq;obtain ⟨u,hu,ru⟩:=rv.get hx;obtain ⟨f0,f1,f2,f3,f4,f5⟩:=hf it (by simp)
  refine wpAny_pyNext_tuple_item st (show s.heap.IsTuple a its.toArray from p) (x:=u) (by simpa using hu) λh' st' sb=>?_
  have I1:Inv X pins σ H { s with heap:=h' }:=I.turned (t':=s.toks) (λb o hb e=>(sb.2 b hb).trans e) f0 f1 f3 f4 f5;obtain ⟨o,e,c,d⟩:=id st';exact ⟨u,rfl,ON (s:={ s with heap:=h' }) e c d (by decide) ⟨x,H,I1,ru,⟨rfl,λys hy=>by rw[I.tuple_inj hy hq];exact hx⟩,st',λb hb=>(hf b hb).1⟩⟩
 done:=by
  intro X hP hw hK hc i pins s σ H E I hf st hg;subst hP hw hK;obtain ⟨xs,hq,hx⟩:=hg;obtain ⟨its,rv,p,hz⟩:=I.tuple hq;obtain ⟨f0,f1,f2,f3,f4,f5⟩:=hf it (by simp)
  have hl:=rv.length;exact wpAny_pyNext_tuple_end (I.ok.hd hc) st (show s.heap.IsTuple a its.toArray from p) (by simp;omega) λh' eb=>⟨rfl,I.turned (t':=s.toks) (λb o hb e=>eb b o hb e) f0 f1 f3 f4 f5⟩
 self:=λ_ _ _ _ _ st h=>wpAny_pyIter_tupleiter st h
theorem jn{P:UA}{w:World}{K:Frag}{tg:UD}(it:UB)(lo:Int)(n:Nat):Turn P w K tg (Itr lo n) [it] it (λi h=>IsRangeIter h it (lo+(i:Nat)*1) ((n:Int)-(i:Nat)) 1) where
 mem:=by simp
 obj:=λi h st b hb=>by
  have e:b=it:=by simpa using hb
  subst e
  exact ⟨_,st,λv z=>by
   have z':Data.fields _=Data.cell v:=z;cases z'⟩
 keep:=λi h h' st k=>k it (by simp) _ st
 item:=by
  intro X hP hw hK hc i pins s σ H E I hf st hg;subst hP hw hK;obtain ⟨f0,f1,f2,f3,f4,f5⟩:=hf it (by simp)
  have W:=Walks.range (prog:=X.prog) (w:=X.w) (I.ok.hd hc) it lo 1 n;refine W.item i s _ _ hg st λv h' tk hv st' kk=>?_;obtain ⟨t,rfl⟩:=hv;have I1:Inv X pins σ H { s with heap:=h',toks:=tk }:=I.turned (λb o hb e=>kk b o (by simpa using hb) e) f0 f1 f3 f4 f5
  refine ⟨_,rfl,ON (s:={ s with heap:=h',toks:=tk }) (n := "range_iterator") st' rfl rfl (by decide) ⟨.int (lo+i),H,I1,⟨t,?_⟩,⟨rfl,rfl⟩,st',λb hb=>(hf b hb).1⟩⟩
  rw[Int.mul_one]
 done:=by
  intro X hP hw hK hc i pins s σ H E I hf st hg;subst hP hw hK;obtain ⟨f0,f1,f2,f3,f4,f5⟩:=hf it (by simp)
  exact wpAny_pyNext_range_end (I.ok.hd hc) st (by have:n<=i:=hg;omega) λh' eb=>⟨rfl,I.turned (t':=s.toks) (λb o hb e=>eb b o hb e) f0 f1 f3 f4 f5⟩
 self:=λ_ _ _ _ _ st h=>wpAny_pyIter_rangeiter st h
section
variable{X:Cx}{tg:UD}
theorem Gy{pins:List (UB×Obj)}{σ:St}{H:Hp}{s:Uz}{R:It->Hp->Prop}{E:Uy->Uz->Prop}{lo hi:Int}{t u v:Tok}{tk:Nat}(I:Inv X pins σ H s)(h1 : -(2 ^ 62)<=lo)(h2:lo<2 ^ 62)(h3 : -(2 ^ 62)<=hi)(h4:hi<2 ^ 62)
  (q:R (Itr lo (hi-lo).toNat) H):UF (model X.prog X.w) X.A (pyIter (.ref s.heap.objs.size)) (PIE X pins σ tg R) E { s with heap:=s.heap.push { cls:=.type "range", data:=.fields #[.int lo t,.int hi u,.int 1 v] },toks:=tk }:=by
 refine wpAny_pyIter_range (IsRange.new ..) (small_one h1 h2 h3 h4) ?_
 have I1:Inv X pins σ H { s with heap:=s.heap.push { cls:=.type "range", data:=.fields #[.int lo t,.int hi u,.int 1 v] },toks:=tk }:=I.kept λb o e=>Qm _ e
 refine ⟨(s.heap.push { cls:=.type "range", data:=.fields #[.int lo t,.int hi u,.int 1 v] }).objs.size,[(s.heap.push { cls:=.type "range", data:=.fields #[.int lo t,.int hi u,.int 1 v] }).objs.size],_,_,H,rfl,
  I1.kept (t':=tk) λb o e=>Qm _ e,jn _ lo (hi-lo).toNat,?_,λb hb=>?_,q⟩
 ·have e1:lo+((0:Nat):Int)*1=lo:=by simp
  have e2:(((hi-lo).toNat:Nat):Int)-((0:Nat):Int)=Builtin.Range.rangeSize lo hi 1:=by rw[rangeSize_one];split <;> omega
  show IsRangeIter _ _ (lo+((0:Nat):Int)*1) ((((hi-lo).toNat:Nat):Int)-((0:Nat):Int)) 1;rw[e1,e2];exact QH _ rfl
 ·have e:b=(s.heap.push { cls:=.type "range", data:=.fields #[.int lo t,.int hi u,.int 1 v] }).objs.size:=by simpa using hb
  subst e;exact I1.fpOk (Qy _) (I1.hok.fresh (Qy _))
def Dg(ta:TA):TI:=λσ H R=>ta σ H λvs H1=>∃j:Int,vs=[.int j] /\ -(2 ^ 62)<=j/\j<2 ^ 62/\R (Itr 0 j.toNat) H1
def DP(ta:TA):TI:=λσ H R=>ta σ H λvs H1=>∃i j:Int,vs=[.int i,.int j]/\(-(2 ^ 62)<=i/\i<2 ^ 62 /\ -(2 ^ 62)<=j/\j<2 ^ 62)/\R (Itr i (j-i).toNat) H1
theorem qI{a:UD}{ta:TA}{p pos:Pos}(hg:Gl X "range")(hm:X.mg "range" = none)(ha:PA X [a] ta)(hs:UG [a] X.env=[(false,eval a X.env)]:=by rfl):PI X tg (.Call (.Name "range" p) [a] [] pos) (Dg ta):=by
 intro pins s σ H R I h;refine Call_ (T3 I hg hm boot_range (JC (thn (ha pos pins s σ H _ I h) λus s1 ⟨vs,H1,I1,r1,q1⟩=>?_) hs rfl));obtain ⟨j,e,q1,q2,q⟩:=q1;subst e
 cases r1 with
 |cons r rr=>
  cases rr;obtain ⟨t,rfl⟩:=r
  exact call_range_1 (Gy I1 (by omega) (by omega) q1 q2 (by simpa using q))
theorem qH{a b:UD}{ta:TA}{p pos:Pos}(hg:Gl X "range")(hm:X.mg "range" = none)(ha:PA X [a,b] ta)(hs:UG [a,b] X.env=[(false,eval a X.env),(false,eval b X.env)]:=by rfl)(hs2:UG [b] X.env=[(false,eval b X.env)]:=by rfl) :
  PI X tg (.Call (.Name "range" p) [a,b] [] pos) (DP ta):=by
 intro pins s σ H R I h;refine Call_ (T3 I hg hm boot_range (JC (thn (ha pos pins s σ H _ I h) λus s1 ⟨vs,H1,I1,r1,q1⟩=>?_) (by rw[hs,hs2]) (by rw[hs2];rfl)))
 obtain ⟨i,j,e,⟨q1,q2,q3,q4⟩,q⟩:=q1;subst e
 cases r1 with
 |cons r rr=>
  cases rr with
  |cons r' rr=>
   cases rr;obtain ⟨t,rfl⟩:=r
   obtain ⟨t',rfl⟩:=r';exact call_range_2 (Gy I1 q1 q2 q3 q4 q)
def tFor(wi:TI)(g:TG)(tb:TS):TS:=λD σ H=>wi σ H λJ H1=>∃W:Nat->Nat->St->Hp->Prop,(∃m,W 0 m σ H1)/\∀i m σ H,W i m σ H ->
 (J.stop i H/\D.nx σ H)∨(J.go i H/\∃N:St->Hp->Prop,(∀σ' H',N σ' H'->∃m',m'<m/\W (i+1) m' σ' H')/\∀x H',J.yld i H x H'->g x σ H' λσ2 H2=>tb { D with nx:=N,ct:=N,bk:=D.nx } σ2 H2)
def P4(fp:List UB)(h:Heap):List (UB×Obj):=fp.filterMap λb=>(h.get? b).map λo=>(b,o)
theorem NB{fp:List UB}{h:Heap}{b:UB}{o:Obj}(hb:b∈fp)(e:h.get? b=some o):(b,o)∈P4 fp h:=Jp.mpr ⟨b,hb,by rw[e];rfl⟩
theorem qG{fp:List UB}{h:Heap}{p:UB×Obj}(hp:p∈P4 fp h):p.1∈fp/\h.get? p.1=some p.2:=by
 obtain ⟨b,hb,e⟩:=Jp.mp hp
 cases q:h.get? b with
 |none=>rw[q] at e;cases e
 |some o=>
  rw[q] at e;have e':(b,o)=p:=QX e;subst e';exact ⟨hb,q⟩
theorem Inv.pinned{pins:List (UB×Obj)}{σ:St}{H:Hp}{s:Uz}{fp:List UB}(I:Inv X pins σ H s)(hf:∀b∈fp,Yp X pins H b)(ho:∀b∈fp,∃o,s.heap.get? b=some o/\∀v,o.data≠.cell v):Inv X (pins++P4 fp s.heap) σ H s :=
 I.pins_of λp hp=>(QW.mp hp).elim (λz=>I.pin p (QL _ z)) λz=>by
  obtain ⟨hb,e⟩:=qG z;obtain ⟨f0,f1,f2,_⟩:=hf p.1 hb;obtain ⟨o,e',d⟩:=ho p.1 hb;rw[e] at e';cases e';exact ⟨e,f0,f1,f2,d⟩
theorem Inv.unpinned{pins pl:List (UB×Obj)}{σ:St}{H:Hp}{s:Uz}(I:Inv X (pins++pl) σ H s):Inv X pins σ H s:=I.pins_of λp hp=>I.pin p (QL _ (Jf _ hp))
theorem Cm{iter:UD}{body:List Stmt}{wi:TI}{g:TG}{tb:TS}{pos:Pos}(hp:PassesOwn (model X.prog X.w) X.A X.env X.xe)(hc:X.calm=true)(hi:PI X tg iter wi)(hg:PG X tg g)(hb:PSs X body tb)
  (hs:∀x,UW iter X.env x=pure x:=by intro _;rfl):PS X (.For tg iter body [] pos) (tFor wi g tb):=by
 intro pins s σ H D I h;refine wpAny_For (thn (hi pins s σ H _ I h) λv s1 h1=>thn h1 λitv s2 h2=>?_) hs;obtain ⟨it,fp,tn,J,H2,e,I2,T,st2,f2,W,⟨m0,w0⟩,turn⟩:=h2;subst e;have stat:∀{H':Hp},(∀b∈fp,H' b=none)->∀b∈fp,Yp X pins H' b:=λhn b hb=>⟨hn b hb,(f2 b hb).2⟩;refine codeAny_forLoop_any (λn s'=>∃i σ' H',Inv X pins σ' H' s'/\tn i s'.heap/\(∀b∈fp,H' b=none)/\W i n σ' H') ?_ m0 ⟨0,σ,H2,I2,st2,λb hb=>(f2 b hb).1,w0⟩;rintro n s3 ⟨i,σ3,H3,I3,st3,fr3,w3⟩;rcases turn i n σ3 H3 w3 with ⟨stop,qn⟩|⟨go,N,hN,step⟩
 ·refine Jv hp (thn (T.done X rfl rfl rfl hc i pins s3 σ3 H3 X.xe I3 (stat fr3) st3 stop) λr s4 ⟨hr,I4⟩=>?_)
  subst hr;exact wpAny_execs_nil ⟨σ3,H3,I4,qn⟩
 ·refine Jv hp (thn (T.item X rfl rfl rfl hc i pins s3 σ3 H3 X.xe I3 (stat fr3) st3 go) λr s4 ⟨u,hr,h4⟩=>?_)
  subst hr;refine Jv hp (thn h4 λ_ s5 ⟨x,H5,I5,r5,y5,st5,fr5⟩=>?_);have I5':=I5.pinned (stat fr5) (T.obj _ _ st5);refine Jv hp (thn (hg _ s5 σ3 H5 x u _ I5' r5 (step x H5 y5)) λ_ s6 ⟨σ6,H6,I6,q6⟩=>?_);refine Jv hp (thn (hb _ s6 σ6 H6 _ I6 q6) λf s7 q7=>?_)
  have again:∀{σ7:St}{H7:Hp},Inv X (pins++P4 fp s5.heap) σ7 H7 s7->N σ7 H7->∃m,m<n/\∃i σ' H',Inv X pins σ' H' s7/\tn i s7.heap/\(∀b∈fp,H' b=none)/\W i m σ' H':=λ{σ7 H7} I7 n7=>by
   obtain ⟨m',hm,w7⟩:=hN σ7 H7 n7;refine ⟨m',hm,i+1,σ7,H7,I7.unpinned,T.keep _ _ _ st5 λb hb o e=>(I7.pin (b,o) (QL _ (QL _ (NB hb e)))).1,λb hb=>?_,w7⟩;obtain ⟨o,e,d⟩:=T.obj _ _ st5 b hb;exact (I7.pin (b,o) (QL _ (QL _ (NB hb e)))).2.1
  cases f with
  |next=>obtain ⟨σ7,H7,I7,n7⟩:=q7;exact again I7 n7
  |cont=>obtain ⟨σ7,H7,I7,n7⟩:=q7;exact again I7 n7
  |brk=>obtain ⟨σ7,H7,I7,q7⟩:=q7;exact ⟨σ7,H7,I7.unpinned,q7⟩
  |ret v=>obtain ⟨x7,σ7,H7,I7,r7,q7⟩:=q7;exact ⟨x7,σ7,H7,I7.unpinned,r7,q7⟩
end
abbrev R2:=V->V->Hp->VK->Prop
def OpR(X:Cx)(f:Uy->Uy->Sem Uy)(r:R2):Prop :=
 ∀(pins:List (UB×Obj))(s:Uz)(σ:St)(H:Hp)(x y:V)(v u:Uy)(Q:VK),Inv X pins σ H s->RelV x v->RelV y u->r x y H Q ->
  UF (model X.prog X.w) X.A (f v u) (EP X pins σ Q) X.xe s
def UnR(X:Cx)(f:Uy->Sem Uy)(r:V->Hp->VK->Prop):Prop :=
 ∀(pins:List (UB×Obj))(s:Uz)(σ:St)(H:Hp)(x:V)(v:Uy)(Q:VK),Inv X pins σ H s->RelV x v->r x H Q ->
  UF (model X.prog X.w) X.A (f v) (EP X pins σ Q) X.xe s
def XJ(X:Cx)(f:Uy)(r:List V->Hp->VK->Prop):Prop :=
 ∀(pins:List (UB×Obj))(s:Uz)(σ:St)(H:Hp)(xs:List V)(us:List Uy)(Q:VK),Inv X pins σ H s->Vals xs us->r xs H Q ->
  UF (model X.prog X.w) X.A (call f us) (EP X pins σ Q) X.xe s
def TruR(X:Cx)(r:V->Hp->(Bool->Hp->Prop)->Prop):Prop :=
 ∀(pins:List (UB×Obj))(s:Uz)(σ:St)(H:Hp)(x:V)(v:Uy)(Q:Bool->Hp->Prop),Inv X pins σ H s->RelV x v->r x H Q ->
  UF (model X.prog X.w) X.A (truthy v) (TP X pins σ Q) X.xe s
def tOp(r:R2)(ta tb:TE):TE:=λσ H Q=>ta σ H λx H1=>tb σ H1 λy H2=>r x y H2 Q
def tUn(r:V->Hp->VK->Prop)(ta:TE):TE:=λσ H Q=>ta σ H λx H1=>r x H1 Q
def rI(C:Int->Int->Prop)(g:Int->Int->V):R2:=λx y H Q=>∃i j,x=.int i/\y=.int j/\C i j/\Q (g i j) H
def rI0(g:Int->Int->V):R2:=λx y H Q=>∃i j,x=.int i/\y=.int j/\Q (g i j) H
def rU(g:Int->V):V->Hp->VK->Prop:=λx H Q=>∃i,x=.int i/\Q (g i) H
section
variable{X:Cx}{a b c:UD}{ta tb tc:TE}{pos:Pos}
theorem RV(ha:PE X a ta)(hb:PE X b tb){pins:List (UB×Obj)}{s:Uz}{σ:St}{H:Hp}{R:V->V->Hp->Prop}(I:Inv X pins σ H s)
  (h:ta σ H λx H1=>tb σ H1 λy H2=>R x y H2) {Q:Uy->Uz->Prop} {f:Uy->Uy->Sem Uy}
  (hf:∀v u s2 x y H2,Inv X pins σ H2 s2->RelV x v->RelV y u->R x y H2->UF (model X.prog X.w) X.A (f v u) Q X.xe s2) :
  UF (model X.prog X.w) X.A (eval a X.env) (λv s₁=>UF (model X.prog X.w) X.A (eval b X.env) (λu s₂=>UF (model X.prog X.w) X.A (f v u) Q X.xe s₂) X.xe s₁) X.xe s:=by
 refine thn (ha pins s σ H _ I h) λv s1 ⟨x,H1,I1,r1,q1⟩=>?_;refine thn (hb pins s1 σ H1 _ I1 q1) λu s2 ⟨y,H2,I2,r2,q2⟩=>?_;exact hf v u s2 x y H2 I2 r1 r2 q2
theorem Lp{op:Operator}{r:R2}(ho:OpR X (binaryOp op) r)(ha:PE X a ta)(hb:PE X b tb):PE X (.BinOp a op b pos) (tOp r ta tb):=by
 intro pins s σ H Q I h;exact wpAny_BinOp (RV ha hb I h λv u s2 x y H2 I2 rx ry q=>ho pins s2 σ H2 x y v u Q I2 rx ry q)
theorem DO{op:UnaryOp}{r:V->Hp->VK->Prop}(ho:UnR X (unaryOp op) r)(ha:PE X a ta):PE X (.UnaryOp op a pos) (tUn r ta):=by
 intro pins s σ H Q I h;exact UnaryOp_ (thn (ha pins s σ H _ I h) λv s1 ⟨x,H1,I1,r1,q1⟩=>ho pins s1 σ H1 x v Q I1 r1 q1)
theorem opI{f:Uy->Uy->Sem Uy}{C:Int->Int->Prop}{g:Int->Int->Int}
  (rule:∀(i j:Int)(t u:Tok)(s:Uz)(Q:Uy->Uz->Prop)(E:Uy->Uz->Prop),C i j->Q (.int (g i j) s.toks) { s with toks:=s.toks+1 }->UF (model X.prog X.w) X.A (f (.int i t) (.int j u)) Q E s) :
  OpR X f (rI C λi j=>.int (g i j)):=by
 intro pins s σ H x y v u Q I rx ry h;obtain ⟨i,j,rfl,rfl,hc,q⟩:=h;obtain ⟨t,rfl⟩:=rx;obtain ⟨t',rfl⟩:=ry;exact rule i j t t' s _ _ hc ⟨.int (g i j),H,I.tok _,⟨_,rfl⟩,q⟩
theorem opI0{f:Uy->Uy->Sem Uy}{g:Int->Int->Int}
  (rule:∀(i j:Int)(t u:Tok)(s:Uz)(Q:Uy->Uz->Prop)(E:Uy->Uz->Prop),Q (.int (g i j) s.toks) { s with toks:=s.toks+1 }->UF (model X.prog X.w) X.A (f (.int i t) (.int j u)) Q E s) :
  OpR X f (rI0 λi j=>.int (g i j)):=by
 intro pins s σ H x y v u Q I rx ry h;obtain ⟨i,j,rfl,rfl,q⟩:=h;obtain ⟨t,rfl⟩:=rx;obtain ⟨t',rfl⟩:=ry;exact rule i j t t' s _ _ ⟨.int (g i j),H,I.tok _,⟨_,rfl⟩,q⟩
theorem V0{f:Uy->Uy->Sem Uy}{g:Int->Int->Bool}
  (rule:∀(i j:Int)(t u:Tok)(s:Uz)(Q:Uy->Uz->Prop)(E:Uy->Uz->Prop),Q (.bool (g i j)) s->UF (model X.prog X.w) X.A (f (.int i t) (.int j u)) Q E s) :
  OpR X f (rI0 λi j=>.bl (g i j)):=by
 intro pins s σ H x y v u Q I rx ry h;obtain ⟨i,j,rfl,rfl,q⟩:=h;obtain ⟨t,rfl⟩:=rx;obtain ⟨t',rfl⟩:=ry;exact rule i j t t' s _ _ ⟨.bl (g i j),H,I,rfl,q⟩
def CPow(i j:Int):Prop:=0<=j/\j<=1000000/\i.natAbs<2 ^ 64
def CMul(i j:Int):Prop:=(-(2 ^ 64)<i/\i<2 ^ 64)∨(-(2 ^ 64)<j/\j<2 ^ 64)
theorem CMul.ok{i j:Int}(h:CMul i j):IntMulOk i j:=by
 rcases h with ⟨h1,h2⟩|⟨h1,h2⟩
 ·exact .of_left (intBits_le_64 h1 h2)
 ·exact .of_right (intBits_le_64 h1 h2)
theorem Cl:OpR X (binaryOp .Add) (rI0 λi j=>.int (i+j)):=opI0 λ_ _ _ _ _ _ _ q=>add_int q
theorem Ck:OpR X (binaryOp .Sub) (rI0 λi j=>.int (i-j)):=opI0 λ_ _ _ _ _ _ _ q=>sub_int q
theorem Cj:OpR X (binaryOp .Mult) (rI CMul λi j=>.int (i*j)):=opI λ_ _ _ _ _ _ _ hc q=>mul_int q hc.ok
theorem Ci:OpR X (binaryOp .Mod) (rI (λ_ j=>0<j) λi j=>.int (i % j)):=opI λi j _ _ _ _ _ hc q=>by
 have h1:(0:Int)<j:=hc;exact mod_int' (by omega) (by rw[Int.fmod_eq_emod_of_nonneg i (by omega)];exact q)
theorem Ch:OpR X (binaryOp .Pow) (rI CPow λi j=>.int (i ^ j.toNat)):=opI λ_ _ _ _ _ _ _ hc q=>pow_int_small hc.1 hc.2.1 hc.2.2 q
theorem CP:OpR X (inplaceOp .Mult) (rI CMul λi j=>.int (i*j)):=opI λ_ _ _ _ _ _ _ hc q=>imul_int q hc.ok
theorem unI{f:Uy->Sem Uy}{g:Int->Int}
  (rule:∀(i:Int)(t:Tok)(s:Uz)(Q:Uy->Uz->Prop)(E:Uy->Uz->Prop),Q (.int (g i) s.toks) { s with toks:=s.toks+1 }->UF (model X.prog X.w) X.A (f (.int i t)) Q E s) :
  UnR X f (rU λi=>.int (g i)):=by
 intro pins s σ H x v Q I rx h;obtain ⟨i,rfl,q⟩:=h;obtain ⟨t,rfl⟩:=rx;exact rule i t s _ _ ⟨.int (g i),H,I.tok _,⟨_,rfl⟩,q⟩
theorem Cg:UnR X (unaryOp .USub) (rU λi=>.int (-i)):=unI λ_ _ _ _ _ q=>neg_int q
end
section
variable{X:Cx}{a b c:UD}{ta tb tc:TE}{pos:Pos}
theorem NS{pins:List (UB×Obj)}{σ:St}{H:Hp}{s:Uz}{Q:VK}{k k':Bool}(I:Inv X pins σ H s)(q:Q (.bl k) H)(e:k=k'):EP X pins σ Q (.bool k') s:=by
 subst e;exact ⟨.bl k,H,I,rfl,q⟩
theorem DN:OpR X (UH .Lt) (rI0 λi j=>.bl (decide (i<j))):=V0 λ_ _ _ _ _ _ _ q=>lt_int q
theorem DM:OpR X (UH .LtE) (rI0 λi j=>.bl (decide (i<=j))):=V0 λ_ _ _ _ _ _ _ q=>le_int q
theorem DK:OpR X (UH .Gt) (rI0 λi j=>.bl (decide (j<i))):=V0 λ_ _ _ _ _ _ _ q=>gt_int q
theorem DJ:OpR X (UH .GtE) (rI0 λi j=>.bl (decide (j<=i))):=V0 λ_ _ _ _ _ _ _ q=>ge_int q
theorem qF:OpR X (UH .In) (λx y H Q=>∃i j,x=.str i/\y=.str j/\Q (.bl (!(Builtin.Str.occurrences j i 0 j.length 1).isEmpty)) H):=by
 intro pins s σ H x y v u Q I rx ry h;obtain ⟨i,j,rfl,rfl,q⟩:=h;obtain ⟨t,rfl⟩:=rx;obtain ⟨t',rfl⟩:=ry;exact in_str (NS I q rfl)
theorem kJ:OpR X (UH .NotIn) (λx y H Q=>∃i j,x=.str i/\y=.str j/\Q (.bl (!(!(Builtin.Str.occurrences j i 0 j.length 1).isEmpty))) H):=by
 intro pins s σ H x y v u Q I rx ry h;obtain ⟨i,j,rfl,rfl,q⟩:=h;obtain ⟨t,rfl⟩:=rx;obtain ⟨t',rfl⟩:=ry;exact notIn_str (NS I q rfl)
theorem OpR.or{f:Uy->Uy->Sem Uy}{r r':R2}(h:OpR X f r)(h':OpR X f r'):OpR X f (λx y H Q=>r x y H Q∨r' x y H Q):=by
 intro pins s σ H x y v u Q I rx ry q;rcases q with q|q
 ·exact h pins s σ H x y v u Q I rx ry q
 ·exact h' pins s σ H x y v u Q I rx ry q
theorem Zo(b:UD){op:CmpOp}(h:op≠.In:=by decide)(h2:op≠.NotIn:=by decide):behindInMarks op b=false:=by
 have e1:(op==CmpOp.In)=false:=by cases op <;> first|rfl|exact absurd rfl h
 have e2:(op==CmpOp.NotIn)=false:=by cases op <;> first|rfl|exact absurd rfl h2
 cases b <;> simp[behindInMarks,e1,e2]
theorem Mk{op:CmpOp}{r:R2}(ho:OpR X (UH op) r)(ha:PE X a ta)(hb:PE X b tb)(hm:behindInMarks op b=false):PE X (.Compare a [op] [b] pos) (tOp r ta tb):=by
 intro pins s σ H Q I h;exact wpAny_Compare1 (RV ha hb I h λv u s2 x y H2 I2 rx ry q=>ho pins s2 σ H2 x y v u Q I2 rx ry q) hm
def Lo(t:TE):TT:=λσ H Q=>t σ H λx H'=>∃k,x=.bl k/\Q k H'
theorem Mj{op:CmpOp}{r:R2}(ho:OpR X (UH op) r)(ha:PE X a ta)(hb:PE X b tb)(hm:behindInMarks op b=false):PT X (.Compare a [op] [b] pos) (Lo (tOp r ta tb)):=by
 intro pins s σ H Q I h
 refine wpAny_isTrue_Compare1 (thn (ha pins s σ H _ I h) λv s1 ⟨x,H1,I1,r1,q1⟩=>thn (hb pins s1 σ H1 _ I1 q1) λu s2 ⟨y,H2,I2,r2,q2⟩=>
  thn (ho pins s2 σ H2 x y v u _ I2 r1 r2 q2) λc s3 ⟨z,H3,I3,r3,k,e,q3⟩=>?_) hm
 subst e;cases r3;exact Q6 ⟨H3,I3,q3⟩
def LE(r r':R2)(ta tb tc:TE):TE:=λσ H Q=>ta σ H λx H1=>tb σ H1 λy H2=>r x y H2 λz H3=>∃k,z=.bl k /\
 (if k=true then tc σ H3 λw' H4=>r' y w' H4 Q else Q (.bl false) H3)
theorem AQ{op op':CmpOp}{r r':R2}(ho:OpR X (UH op) r)(ho':OpR X (UH op') r')(ha:PE X a ta)(hb:PE X b tb)(hc:PE X c tc)
  (hm:lastMarks [op,op'] [b,c]=false:=by with_unfolding_all rfl):PE X (.Compare a [op,op'] [b,c] pos) (LE r r' ta tb tc):=by
 intro pins s σ H Q I h
 refine Compare_chain (thn (ha pins s σ H _ I h) λv s1 ⟨x,H1,I1,r1,q1⟩=>chain_link (thn (hb pins s1 σ H1 _ I1 q1) λu s2 ⟨y,H2,I2,r2,q2⟩=>
  thn (ho pins s2 σ H2 x y v u _ I2 r1 r2 q2) λd s3 ⟨z,H3,I3,r3,k,e,q3⟩=>?_)) hm
 subst e;cases r3;refine Q6 ?_
 cases k with
 |false=>exact ite_ff ⟨.bl false,H3,I3,rfl,q3⟩
 |true=>exact ite_tt (chain_last (thn (hc pins s3 σ H3 _ I3 q3) λw' s4 ⟨z',H4,I4,r4,q4⟩=>ho' pins s4 σ H4 y z' u w' Q I4 r2 r4 q4))
theorem AO{op op':CmpOp}{r r':R2}(ho:OpR X (UH op) r)(ho':OpR X (UH op') r')(ha:PE X a ta)(hb:PE X b tb)(hc:PE X c tc)
  (hm:lastMarks [op,op'] [b,c]=false:=by with_unfolding_all rfl):PT X (.Compare a [op,op'] [b,c] pos) (Lo (LE r r' ta tb tc)):=by
 intro pins s σ H Q I h
 refine isTrue_chain (thn (ha pins s σ H _ I h) λv s1 ⟨x,H1,I1,r1,q1⟩=>test_link (thn (hb pins s1 σ H1 _ I1 q1) λu s2 ⟨y,H2,I2,r2,q2⟩=>
  thn (ho pins s2 σ H2 x y v u _ I2 r1 r2 q2) λd s3 ⟨z,H3,I3,r3,k,e,q3⟩=>?_)) hm
 subst e;cases r3;refine Q6 ?_
 cases k with
 |false=>
  obtain ⟨k',e',q'⟩:=q3;cases e';exact ite_ff ⟨H3,I3,q'⟩
 |true=>
  refine ite_tt (test_last (thn (hc pins s3 σ H3 _ I3 q3) λw' s4 ⟨z',H4,I4,r4,q4⟩=>thn (ho' pins s4 σ H4 y z' u w' _ I4 r2 r4 q4) λd' s5 ⟨z2,H5,I5,r5,k2,e2,q5⟩=>?_));subst e2;cases r5;exact Q6 ⟨H5,I5,q5⟩
def TruV(K:Frag)(x:V)(H:Hp)(k:Bool):Prop :=
 match x with
 |.non=>k=false
 |.bl b=>k=b
 |.int i=>k=(i != 0)
 |.str y=>y.length<=UE/\k=((y.length:Int) != 0)
 |.byt y=>y.size<=UE/\k=((y.size:Int) != 0)
 |.ref p=>(∃xs,SqL K H p xs/\k = !xs.isEmpty)∨(∃xs,SqT K H p xs/\k = !xs.isEmpty) ∨ ∃kvs,H p=some (.dK kvs)/\k = !kvs.isEmpty
 |_=>False
theorem jm{κ:Type}{kvs:List (κ×V)}{vs:List (κ×Uy)}(r:KV kvs vs):(!vs.isEmpty) = !kvs.isEmpty:=by
 cases r <;> rfl
theorem F2{xs:List V}{its:List Uy}(r:Vals xs its):(!its.toArray.isEmpty) = !xs.isEmpty:=by
 cases r <;> simp
theorem Sw:(UE:Nat)<2 ^ 63:=by rw[sizeLine_eq];decide
theorem Cf:TruR X (λx H Q=>∃k,TruV X.K x H k/\Q k H):=by
 intro pins s σ H x v Q I rx h;obtain ⟨k,e,q⟩:=h;have hl:=Sw;have hs:UE=16777216:=sizeLine_eq
 cases x with
 |non=>
  cases rx;have e':k=false:=e
  subst e';exact truthy_none ⟨H,I,q⟩
 |bl b=>
  cases rx;have e':k=b:=e
  subst e';exact Q6 ⟨H,I,q⟩
 |int i=>
  obtain ⟨t,rfl⟩:=rx;have e':k=(i != 0):=e;subst e';exact PySem.P.truthy_int ⟨H,I,q⟩
 |str y=>
  obtain ⟨t,rfl⟩:=rx;obtain ⟨hy,e'⟩:y.length<=UE/\k=((y.length:Int) != 0):=e;subst e';exact PySem.P.truthy_str (by omega) ⟨H,I.tok _,q⟩
 |byt y=>
  obtain ⟨t,rfl⟩:=rx;obtain ⟨hy,e'⟩:y.size<=UE/\k=((y.size:Int) != 0):=e;subst e';exact PySem.W.truthy_bytes (by omega) ⟨H,I.tok _,q⟩
 |ref p=>
  cases rx;have e':(∃xs,SqL X.K H p xs/\k = !xs.isEmpty)∨(∃xs,SqT X.K H p xs/\k = !xs.isEmpty) ∨ ∃kvs,H p=some (.dK kvs)/\k = !kvs.isEmpty:=e
  rcases e' with ⟨xs,hx,e'⟩|⟨xs,hx,e'⟩|⟨kvs,hx,e'⟩
  ·subst e'
   obtain ⟨its,r,pl,hz⟩:=I.list hx;have hlen:=r.length;exact wpAny_truthy_list pl.isList (by simp only[QK];omega) ⟨H,I.tok _,by rw[F2 r];exact q⟩
  ·subst e'
   obtain ⟨its,r,pl,hz⟩:=I.tuple hx;have hlen:=r.length;exact truthy_tuple pl (by simp only[QK];omega) ⟨H,I.tok _,by rw[F2 r];exact q⟩
  ·subst e'
   obtain ⟨hz,hS,vs,r,m⟩:kvs.length<=UE/\(p==sysModules)=false/\∃vs,KV kvs vs/\s.heap.DictOf (Ml X.prog X.w) p vs:=I.hok p _ hx;have hlen:kvs.length=vs.length:=Paired.length r;exact wpAny_truthy_dict hS m (by omega) ⟨H,I.tok _,by rw[jm r];exact q⟩
 |_=>exact (show False from e).elim
theorem AN(ha:PE X a ta)(he:∀whole,isTrue a X.env whole=(do let v ←whole;standAt a.pos;holding [v] (truthy v))) :
  PT X a (λσ H Q=>ta σ H λx H'=>∃k,TruV X.K x H' k/\Q k H'):=by
 intro pins s σ H Q I h;exact isTrue_plain (thn (ha pins s σ H _ I h) λv s1 ⟨x,H1,I1,r1,q1⟩=>Cf pins s1 σ H1 x v Q I1 r1 q1) (he _)
theorem jk:OpR X (binaryOp .Add) (λx y H Q=>∃i j,x=.str i/\y=.str j/\i.length+j.length<=UE/\Q (.str (i++j)) H):=by
 intro pins s σ H x y v u Q I rx ry h;obtain ⟨i,j,rfl,rfl,hz,q⟩:=h;obtain ⟨t,rfl⟩:=rx;obtain ⟨t',rfl⟩:=ry;exact add_str (λt' tk=>⟨.str (i++j),H,I.tok _,⟨_,rfl⟩,q⟩) hz
theorem OM{x:V}{us:List Uy}(r:Vals [x] us):∃u,us=[u]/\RelV x u:=by
 cases r with
 |cons r1 r2=>cases r2;exact ⟨_,rfl,r1⟩
theorem NH{x y:V}{us:List Uy}(r:Vals [x,y] us):∃u w',us=[u,w']/\RelV x u/\RelV y w':=by
 cases r with
 |cons r1 r2=>
  cases r2 with
  |cons r3 r4=>cases r4;exact ⟨_,_,rfl,r1,r3⟩
theorem qE(hc:X.calm=true):XJ X (.builtin "max") (λxs H Q=>∃i j,xs=[.int i,.int j]/\Q (.int (if j > i then j else i)) H):=by
 intro pins s σ H xs us Q I r h;obtain ⟨i,j,rfl,q⟩:=h;obtain ⟨u,w',rfl,⟨t,rfl⟩,⟨t',rfl⟩⟩:=NH r;refine max_two_ints (I.ok.hd hc) λh' tk k=>⟨_,H,I.kept k,?_,q⟩
 by_cases hj:j > i
 ·rw[Ql hj,Ql hj];exact ⟨_,rfl⟩
 ·rw[Qs hj,Qs hj];exact ⟨_,rfl⟩
theorem qD:XJ X (.type "int") (λxs H Q=>(∃i,xs=[.int i]/\Q (.int i) H) ∨ ∃k,xs=[.bl k]/\Q (.int (if k then 1 else 0)) H):=by
 intro pins s σ H xs us Q I r h;rcases h with ⟨i,rfl,q⟩|⟨k,rfl,q⟩
 ·obtain ⟨u,rfl,t,rfl⟩:=OM r
  exact call_int_int ⟨.int i,H,I,⟨_,rfl⟩,q⟩
 ·obtain ⟨u,rfl,r1⟩:=OM r
  cases r1;exact call_int_bool ⟨.int (if k then 1 else 0),H,I.tok _,⟨_,rfl⟩,q⟩
def LenV(K:Frag)(x:V)(H:Hp)(n:Nat):Prop :=
 match x with
 |.str y=>y.length<=UE/\n=y.length
 |.byt y=>y.size<=UE/\n=y.size
 |.ref p=>(∃xs,SqL K H p xs/\n=xs.length) ∨ ∃xs,SqT K H p xs/\n=xs.length
 |_=>False
theorem Gx:XJ X (.builtin "len") (λxs H Q=>∃x n,xs=[x]/\LenV X.K x H n/\Q (.int n) H):=by
 intro pins s σ H xs us Q I r h;obtain ⟨x,n,rfl,e,q⟩:=h;obtain ⟨u,rfl,rx⟩:=OM r;have hl:=Sw;have hs:UE=16777216:=sizeLine_eq
 cases x with
 |str y=>
  obtain ⟨t,rfl⟩:=rx;obtain ⟨hy,e'⟩:y.length<=UE/\n=y.length:=e;subst e';exact len_str (by omega) ⟨.int _,H,I.tok _,⟨_,rfl⟩,q⟩
 |byt y=>
  obtain ⟨t,rfl⟩:=rx;obtain ⟨hy,e'⟩:y.size<=UE/\n=y.size:=e;subst e';exact PySem.W.len_bytes (by omega) ⟨.int _,H,I.tok _,⟨_,rfl⟩,q⟩
 |ref p=>
  cases rx;have e':(∃xs,SqL X.K H p xs/\n=xs.length) ∨ ∃xs,SqT X.K H p xs/\n=xs.length:=e
  rcases e' with ⟨xs,hx,e'⟩|⟨xs,hx,e'⟩
  ·subst e'
   obtain ⟨its,r',pl,hz⟩:=I.list hx;have hlen:=r'.length;exact Calls.call_len_list pl.isList (by simp only[QK];omega) ⟨.int xs.length,H,I.tok _,⟨_,by simp only[QK];rw[hlen]⟩,q⟩
  ·subst e'
   obtain ⟨its,r',pl,hz⟩:=I.tuple hx;have hlen:=r'.length;exact len_tuple pl (by simp only[QK];omega) ⟨.int xs.length,H,I.tok _,⟨_,by simp only[QK];rw[hlen]⟩,q⟩
 |_=>exact (show False from e).elim
end
section
variable{prog:UA}{w:World}{A:Around}{E:Uy->Uz->Prop}{s:Uz}{K:Frag}{x dx C f:UB}{mA:Str->Option Uy}{name:Str}{v:Uy}
end
section
variable{P:UA}{w:World}{H H':Hp}{h h':Heap}{a C dx:UB}{fs fs':List (Str×V)}
end
section
variable{X:Cx}{pins:List (UB×Obj)}{σ:St}{H:Hp}{s:Uz}{a C dx:UB}{fs:List (Str×V)}{f:Str}{v:V}{A:Around}{E:Uy->Uz->Prop}
end
section
variable{X:Cx}{o e value:UD}{f:Str}{pos pos' tpos:Pos}{ta tv:TE}
end
section
variable{X:Cx}{pins:List (UB×Obj)}{σ:St}{H:Hp}{s:Uz}{A:Around}{E:Uy->Uz->Prop}{Q:Uy->Uz->Prop}{c:Uy}{b:Bool}
end
structure Room(k:Nat)(A:Around):Prop where
 hd:A.handled=none
 dp:A.depth+3*k+5<recursionLimit
 un:A.units+16*k+200<cLine
 gd:A.guards=some []
theorem Room.mono{j k:Nat}{A:Around}(r:Room k A)(h:j<=k):Room j A:=⟨r.hd,by have:=r.dp;omega,by have:=r.un;omega,r.gd⟩
theorem Room.deeper{k:Nat}{A:Around}(r:Room (k+1) A)(env:Env):Room k (A.deeper env) :=
 ⟨r.hd,by have:=r.dp;show A.depth+1+3*k+5<_;omega,by have:=r.un;show A.units+3+16*k+200<_;omega,r.gd⟩
theorem Room.depth{k:Nat}{A:Around}(r:Room k A):A.depth<recursionLimit:=by have:=r.dp;omega
theorem Room.units{k:Nat}{A:Around}(r:Room k A):A.units+64<cLine:=by have:=r.un;omega
def tNil:TA:=λ_ H Q=>Q [] H
def DI(ta:TE)(tr:TA):TA:=λσ H Q=>ta σ H λx H1=>tr σ H1 λxs H2=>Q (x::xs) H2
section
variable{X:Cx}{e:UD}{es:List UD}{te:TE}{t:TA}{pos:Pos}
theorem Sv:PA X [] tNil:=λ_ _ _ _ H Q I h=>Calls.spliced_nil ⟨[],H,I,.nil,h⟩
theorem VQ(ha:PE X e te)(hr:PA X es t)(hs:UG (e::es) X.env=(false,eval e X.env)::UG es X.env:=by rfl):PA X (e::es) (DI te t):=by
 intro pos pins s σ H Q I h;rw[hs];show UF _ _ (spliced ((false,eval e X.env)::backTo pos (UG es X.env))) _ _ s;refine Calls.spliced_cons (thn (ha pins s σ H _ I h) λu s1 ⟨x,H1,I1,r1,q1⟩=>?_);exact thn (hr pos pins s1 σ H1 _ I1 q1) λus s2 ⟨xs,H2,I2,r2,q2⟩=>⟨x::xs,H2,I2,.cons r1 r2,q2⟩
def tTup(t:TA):TE:=λσ H Q=>t σ H λxs H1=>xs.length<=UE/\∀p,H1 p=none->Q (.ref p) (upd H1 p (.tup xs))
def tLst(t:TA):TE:=λσ H Q=>t σ H λxs H1=>xs.length<=UE/\∀p,H1 p=none->Q (.ref p) (upd H1 p (.lst xs))
theorem Ce{x1}(h:PA X es t):PE X (.Tuple es x1 pos) (tTup t):=by
 intro pins s σ H Q I hq;refine wpAny_Tuple_spliced (thn (h pos pins s σ H _ I hq) λus s1 ⟨xs,H1,I1,r,z,q⟩=>⟨by rw[←r.length];exact z,?_⟩)
 have hf:H1 s1.heap.objs.size=none:=I1.hok.fresh (Qy _);refine ⟨.ref s1.heap.objs.size,upd H1 s1.heap.objs.size (.tup xs),I1.laid (t':=s1.toks) (λb u e=>Qm _ e) (Qy _) ?_,rfl,q _ hf⟩;exact ⟨z,us,r,⟨_,QH _ rfl,rfl,_,rfl⟩⟩
theorem LD(h:PA X es t):PE X (.List es pos) (tLst t):=by
 intro pins s σ H Q I hq;refine wpAny_List_spliced (thn (h pos pins s σ H _ I hq) λus s1 ⟨xs,H1,I1,r,z,q⟩=>⟨by rw[←r.length];exact z,?_⟩)
 have hf:H1 s1.heap.objs.size=none:=I1.hok.fresh (Qy _);refine ⟨.ref s1.heap.objs.size,upd H1 s1.heap.objs.size (.lst xs),I1.laid (t':=s1.toks) (λb u e=>Qm _ e) (Qy _) ?_,rfl,q _ hf⟩;exact ⟨z,us,0,r,QH _ rfl⟩
end
abbrev Sp:=List V->Hp->VK->XK->Prop
abbrev CXT:=List Env->Hp->Uz->XK->Uy->Uz->Prop
structure Env0(P:UA)(w:World)(K:Frag)(mg:Str->Option Uy)(base:Heap)(A:Around)(outer:List Env)(s:Uz)(H:Hp):Prop where
 frames:A.frames=some outer
 mod:Mod K mg base
 bs:∀b o,base.get? b=some o->s.heap.get? b=some o/\H b=none
 bsz:base.objs.size<=s.heap.objs.size
 funs:s.heap.FunFrames base outer
 frf:∀b∈frs outer,H b=none
 hok:HOk P w H s.heap
 bare:AllBare s.gens
def CE(outer:List Env)(P:UA)(w:World)(H:Hp)(s:Uz)(Q:VK)(u:Uy)(s':Uz):Prop :=
 ∃v H',s'.os=s.os/\AllBare s'.gens/\Un (frs outer) [] H H' s.heap s'.heap/\HOk P w H' s'.heap/\RelV v u/\Q v H'
def CR(CX:CXT)(outer:List Env)(P:UA)(w:World)(H:Hp)(s:Uz)(Q:VK)(E:XK)(r:Result)(s':Uz):Prop :=
 match r with
 |.ok (.ret u)=>CE outer P w H s Q u s'
 |.ok _=>False
 |.error e=>CX outer H s E e s'
structure FnOk(P:UA)(w:World)(K:Frag)(mg:Str->Option Uy)(base:Heap)(CX:CXT)(k:Nat)(f:UB)(fd:UC)(ps:List Str)(sp:Sp):Prop where
 len:∀vs H Q E,sp vs H Q E->vs.length=ps.length
 run:∀(A:Around)(outer:List Env)(s:Uz)(H:Hp)(args:Args)(us:List Uy)(vs:List V)(Q:VK)(E:XK),Room k A->Env0 P w K mg base A outer s H->BindsTo s fd args (ps.zip us)->Vals vs us->sp vs H Q E ->
  codeAny (model P w) A (.call (.ref f) args) (CR CX outer P w H s Q E) s
section
variable{X:Cx}{pins:List (UB×Obj)}{σ:St}{H:Hp}{s s':Uz}
theorem Inv.env0(I:Inv X pins σ H s):Env0 X.prog X.w X.K X.mg X.base X.A X.stack s H :=
 ⟨I.ok.frames,I.ok.mod,I.bs,QT I.ok.bsz I.sz,I.stack,I.stkFree,I.hok,I.bare⟩
theorem Inv.after{Q:VK}{u:Uy}(I:Inv X pins σ H s)(h:CE X.stack X.prog X.w H s Q u s'):EP X pins σ Q u s':=by
 obtain ⟨v,H',os,bare,un,hok,r,q⟩:=h;obtain ⟨hh,g,d,t,os'⟩:=s';obtain rfl:os'=s.os:=os;exact ⟨v,H',I.call (h':=hh) (g':=g) (d':=d) (t':=t) (ch:=[]) un hok bare (λb z=>absurd z (by simp)),r,q⟩
end
def DH(sp:Sp)(dvs:List V)(E:XK)(t:TA):TE:=λσ H Q=>t σ H λvs H1=>sp (vs++dvs) H1 Q E
def TU(K:Frag)(fd:UC)(ps:List Str)(ds:List Uy):Prop :=
 ∀(s:Uz)(us:List Uy),K.In s.heap->(us++ds).length=ps.length->BindsTo s fd ⟨us,[]⟩ (ps.zip (us++ds))
theorem TU.all{K:Frag}{fd:UC}{ps:List Str}(h:∀us:List Uy,us.length=ps.length->bindArgs fd ⟨us,[]⟩=pure (ps.zip us)):TU K fd ps []:=λs us _ hl=>by
 rw[Q9] at hl ⊢;exact .of_eq (h us hl)
def NR(CX:CXT)(X:Cx)(E:XK):Prop:=∀(pins:List (UB×Obj))(σ:St)(H:Hp)(s:Uz)(e:Uy)(s':Uz),Inv X pins σ H s->CX X.stack H s E e s'->X.xe e s'
section
variable{X:Cx}{CX:CXT}{k:Nat}{f C:UB}{fd:UC}{ps:List Str}{sp:Sp}{dvs:List V}{ds:List Uy}{E:XK}{x m:Str}{p pos apos:Pos}{e o:UD}{es:List UD}{ta:TE}{t:TA}
theorem Cd{pins:List (UB×Obj)}{σ:St}{H:Hp}{s:Uz}{Q:VK}{us:List Uy}{vs:List V}(F:FnOk X.prog X.w X.K X.mg X.base CX k f fd ps sp)(hr:Room k X.A)(hb:TU X.K fd ps ds)(hd:Vals dvs ds)(hx:NR CX X E)
  (I:Inv X pins σ H s) (r:Vals vs us) (h:sp (vs++dvs) H Q E):UF (model X.prog X.w) X.A (call (.ref f) us) (EP X pins σ Q) X.xe s:=by
 have r2:Vals (vs++dvs) (us++ds):=r.append hd;have hl:(us++ds).length=ps.length:=by rw[←r2.length];exact F.len _ _ _ _ h
 refine wpAny_call (codeAny_mono (F.run X.A X.stack s H ⟨us,[]⟩ (us++ds) (vs++dvs) Q E hr I.env0 (hb s us I.kIn hl) r2 h) λr s' hq=>?_)
 cases r with
 |error e=>exact hx pins σ H s e s' I hq
 |ok fl=>
  cases fl with
  |ret u=>exact I.after hq
  |next=>exact False.elim hq
  |brk=>exact False.elim hq
  |cont=>exact False.elim hq
theorem HI(F:FnOk X.prog X.w X.K X.mg X.base CX k f fd ps sp)(hr:Room k X.A)(hg:Gl X x)(hm:X.mg x=some (.ref f))(hk:PySem.W.keepIn X.K (.ref f)=true)(hb:TU X.K fd ps ds)(hd:Vals dvs ds)(hx:NR CX X E)
  (ha:PA X (e::es) t) (hdb:(x==("__debug__" : Str))=false:=by decide) (he:UG (e::es) X.env=(false,eval e X.env)::UG es X.env:=by rfl) (hpl:(backTo pos (UG es X.env)).any (·.1)=false:=by rfl) :
  PE X (.Call (.Name x p) (e::es) [] pos) (DH sp dvs E t):=by
 intro pins s σ H Q I h;refine wpAny_Call_Name_kw (Gh I hg hm ?_ hdb);refine PySem.W.callWith_K (h₀:=X.base) I.ok.mod.kin hk (thn (ha pos pins s σ H _ I h) λus s1 ⟨vs,H1,I1,r,q⟩=>⟨I1.kIn,?_⟩) he hpl;exact Cd F hr hb hd hx I1 r q
end
section
variable{X:Cx}{CX:CXT}{k:Nat}{f C:UB}{fd:UC}{ps ks:List Str}{sp:Sp}{E:XK}{x m:Str}{p pos apos kpos:Pos}{e o:UD}{es:List UD}{kws:List Keyword}{te ta:TE}{t tk:TA}{nm:Option Str}
variable{g:List Uy->List Uy->List Uy}{gV:List V->List V->List V}
end
structure Og(N P:List Str)(sc:Scope):Prop where
 kind:sc.kind=.function
 co:sc.isCoroutine=false
 gen:sc.isGenerator=false
 nd:N.Nodup
 pre:N.take P.length=P
 par:∀x∈P,sc.names.lookup x=some .local∨sc.names.lookup x=some .cell
 nofree:∀y∈sc.names,y.2≠.free
theorem Fn{kindOf:Str->Option NameKind}{x:Str}:∀{binds:List (Str×Uy)}{m:Str->Option Uy},(∀v,(x,v)∉binds)->bindL kindOf binds m x=m x
 |[],_,_=>rfl
 |(n,v)::r,m,h=>by
  unfold bindL;rw[Fn λw hw=>h w (Qk _ hw)];split
  ·have:x≠n:=by rintro rfl;exact h v Qn
   simp[this]
  ·rfl
theorem Fm{kindOf:Str->Option NameKind}{x:Str}:∀{binds:List (Str×Uy)}{m:Str->Option Uy},(∀v,(x,v)∉binds)->bindC kindOf binds m x=m x
 |[],_,_=>rfl
 |(n,v)::r,m,h=>by
  unfold bindC;rw[Fm λw hw=>h w (Qk _ hw)];split
  ·rfl
  ·have:x≠n:=by rintro rfl;exact h v Qn
   simp[this]
theorem Fl{kindOf:Str->Option NameKind}{x:Str}{v:Uy}:∀{P:List Str}{vs:List Uy}{i:Nat}{m:Str->Option Uy},P.Nodup->P[i]?=some x->vs[i]?=some v->kindOf x=some .local ->
  bindL kindOf (P.zip vs) m x=some v
 |[],_,_,_,_,h,_,_=>by simp at h
 |_::_,[],_,_,_,_,h,_=>by simp at h
 |p::P,w::vs,0,m,nd,h1,h2,hk=>by
  simp at h1 h2;subst h1;subst h2;show bindL kindOf ((p,w)::P.zip vs) m p=_;unfold bindL;rw[Fn λv hv=>(Uw.mp nd).1 (List.of_mem_zip hv).1,Ql hk];simp
 |p::P,w::vs,i+1,m,nd,h1,h2,hk=>by
  show bindL kindOf ((p,w)::P.zip vs) m x=_;unfold bindL;exact Fl (i:=i) (List.nodup_cons.mp nd).2 (by simpa using h1) (by simpa using h2) hk
theorem Fk{kindOf:Str->Option NameKind}{x:Str}{v:Uy}:∀{P:List Str}{vs:List Uy}{i:Nat}{m:Str->Option Uy},P.Nodup->P[i]?=some x->vs[i]?=some v->kindOf x≠some .local ->
  bindC kindOf (P.zip vs) m x=some v
 |[],_,_,_,_,h,_,_=>by simp at h
 |_::_,[],_,_,_,_,h,_=>by simp at h
 |p::P,w::vs,0,m,nd,h1,h2,hk=>by
  simp at h1 h2;subst h1;subst h2;show bindC kindOf ((p,w)::P.zip vs) m p=_;unfold bindC;rw[Fm λv hv=>(Uw.mp nd).1 (List.of_mem_zip hv).1,Qs hk];simp
 |p::P,w::vs,i+1,m,nd,h1,h2,hk=>by
  show bindC kindOf ((p,w)::P.zip vs) m x=_;unfold bindC;exact Fk (i:=i) (List.nodup_cons.mp nd).2 (by simpa using h1) (by simpa using h2) hk
def WY(N:List Str)(vs:List V):St:=vs.map some++UJ (N.length-vs.length) none
def X2(CX:CXT)(P:UA)(w:World)(K:Frag)(mg:Str->Option Uy)(base:Heap)(N:List Str)(qual:Str)(scope:Scope)(f:UB)(cd:Uy)(A:Around)(outer:List Env)(s:Uz)(H:Hp)(E:XK):Cx where
 prog:=P
 w:=w
 K:=K
 mg:=mg
 base:=base
 A:=A.deeper (envOfC qual scope s.heap.objs.size f cd)
 N:=N
 s₀:=s
 H₀:=H
 env:=envOfC qual scope s.heap.objs.size f cd
 outer:=outer
 stack:=envOfC qual scope s.heap.objs.size f cd::outer
 ex:=[]
 calm:=true
 fn:=λ_=>true
 pn:=[]
 xe:=λe s'=>UF (model P w) (A.deeper (envOfC qual scope s.heap.objs.size f cd)) (leaving (envOfC qual scope s.heap.objs.size f cd) e) (λ_ s''=>CX outer H s E e s'') (λe' s''=>CX outer H s E e' s'') s'
theorem Gw{sc:Scope}{n:Nat}{x:Str}(h:sc.names.lookup x=some .cell):∃c,(cellsFrom n sc.names []).lookup x=some c:=by
 have q:=PySem.W.cellsFrom_some sc.names n [] (.inl h);exact Option.isSome_iff_exists.mp q
theorem qC{CX:CXT}{P:UA}{w:World}{K:Frag}{mg:Str->Option Uy}{base:Heap}{N ps:List Str}{qual:Str}{scope:Scope}{f:UB}{cd:Uy}{A:Around}{outer:List Env}{s s1:Uz}{H:Hp}{E:XK}{us:List Uy}{vs:List V}
  (S:Og N ps scope) (hd:A.handled=none) (e0:Env0 P w K mg base A outer s H) (hl:vs.length=ps.length) (r:Vals vs us)
  (x:InCallC s s.heap.objs.size (bindL (envOfC qual scope s.heap.objs.size f cd).kindOf (ps.zip us) λ_=>none) (cellsFrom (s.heap.objs.size+1) scope.names []) (bindC (envOfC qual scope s.heap.objs.size f cd).kindOf (ps.zip us) λ_=>none) s1) :
  Inv (X2 CX P w K mg base N qual scope f cd A outer s H E) [] (WY N vs) H s1:=by
 have hpl:ps.length<=N.length:=by have:=congrArg List.length S.pre;rw[Q3] at this;omega
 obtain ⟨h1,tk,rfl,hk⟩:=x.done;have noA:∀b:UB,b∉(X2 CX P w K mg base N qual scope f cd A outer s H E).ex:=λb z=>absurd (show b∈([]:List UB) from z) (by simp)
 refine ⟨⟨e0.mod,S.kind,rfl,rfl,Qy _,λy z c h1 h2=>?_,λy hy=>?_,λy c _ h=>?_,λ_=>hd,Around.frames_deeper e0.frames,.inr ⟨rfl,rfl⟩,λb z=>absurd z (noA b),e0.bs,e0.bsz,λb _ _=>noA b,λb z=>absurd z (noA b),e0.funs,e0.frf⟩,
  rfl,e0.bare,Un.kept hk,⟨_,x.toInCall.ns,λi y v h1 h2 h3=>?_⟩,λy c h=>⟨_,x.cell y c h⟩,e0.hok.fresh (Nat.le_refl _),λy c h=>?_,λp hp=>absurd (show p∈([]:List (UB×Obj)) from hp) (by simp),e0.hok.kept hk,?_⟩
 ·exact name_of_addr x.apart (JZ h1) (JZ h2)
 ·have hy:scope.names.lookup y=some .cell∨scope.names.lookup y=some .free:=hy
  rcases hy with hy|hy
  ·exact Gw hy
  ·exact absurd rfl (S.nofree _ (JZ hy))
 ·exact Nat.le_of_lt (x.above y c (JZ h))
 ·have hi:i<vs.length:=by
   unfold WY at h2
   by_cases hi:i<vs.length
   ·exact hi
   ·rw[List.getElem?_append_right (by simpa using hi)] at h2
    rw[QB] at h2
    split at h2 <;> cases h2
  have ha:vs[i]?=some v:=by
   unfold WY at h2;rw[List.getElem?_append_left (by simpa using hi),List.getElem?_map] at h2
   cases e:vs[i]? with
   |none=>rw[e] at h2;cases h2
   |some a=>rw[e] at h2;cases h2;rfl
  obtain ⟨u,hu,rv⟩:=r.get ha
  have hp:ps[i]?=some y:=by
   rw[←S.pre,List.getElem?_take_of_lt (by omega)];exact h1
  have ndP:ps.Nodup:=by rw[←S.pre];exact S.nd.sublist (List.take_sublist _ _)
  refine ⟨u,rv,?_⟩;rcases S.par y (Qp hp) with k|k
  ·exact .inl ⟨k,Fl ndP hp hu k⟩
  ·obtain ⟨c,e⟩:=Gw (n:=s.heap.objs.size+1) k
   refine .inr ⟨.inl k,c,e,?_⟩;have q:=x.cell y c e;rw[Fk ndP hp hu (by show scope.names.lookup y≠_;rw[k];decide)] at q
   exact q
 ·exact e0.hok.fresh (Nat.le_of_lt (x.above y c (JZ h)))
 ·unfold WY
  show _=N.length;rw[Qj,Qb,QE];omega
theorem DG{CX:CXT}{P:UA}{w:World}{K:Frag}{mg:Str->Option Uy}{base:Heap}{k:Nat}{f:UB}{name qual:Str}{params:Arguments}{body:List Stmt}{scope:Scope}{dV kV doc pm cdv ct oc:Uy}{an od:Option UB}
  {osl:Array (Option Uy)} {N ps:List Str} {sp:Sp} (lk:K.lookup f=some ⟨oc,od,.func (PySem.W.fnOf name qual params body scope dV kV doc pm an cdv ct),osl⟩) (hcd:PySem.W.codeIn K cdv qual=true) (S:Og N ps scope)
  (len:∀vs H Q E,sp vs H Q E->vs.length=ps.length)
  (hbody:∀(A:Around)(outer:List Env)(s:Uz)(H:Hp)(vs:List V)(Q:VK)(E:XK),Room k (A.deeper (envOfC qual scope s.heap.objs.size f cdv))->sp vs H Q E ->
   ∃t,PSs (X2 CX P w K mg base N qual scope f cdv A outer s H E) body t/\t { nx:=λ_ H'=>Q .non H',rt:=Q } (WY N vs) H) :
  FnOk P w K mg base CX (k+1) f (PySem.W.fnOf name qual params body scope dV kV doc pm an cdv ct) ps sp:=by
 refine ⟨len,λA outer s H args us vs Q E hr e0 hb r hsp=>?_⟩;have hl:=len _ _ _ _ hsp;have KX:K.In s.heap:=e0.mod.kin.keeps λb o e=>(e0.bs b o e).1;have lim:s.heap.NoLimit:=e0.mod.nolimit.keeps λb o e=>(e0.bs b o e).1
 have hkind:∀y∈ps.zip us,scope.names.lookup y.1=some .local∨(scope.names.lookup y.1=some .cell/\((cellsFrom (s.heap.objs.size+1) scope.names []).lookup y.1).isSome=true):=λ⟨n,v⟩ hy=>by
  rcases S.par n (List.of_mem_zip hy).1 with q|q
  ·exact .inl q
  ·exact .inr ⟨q,PySem.W.cellsFrom_some _ _ _ (.inl q)⟩
 refine codeAny_call_function hr.depth (KX _ _ lk) rfl S.co S.gen rfl (PySem.W.codeRec_of KX hcd) (hb _ _ _ _ ?_);refine wpAny_newFunctionEnv_cells S.kind hkind λenv he s1 x=>?_;subst he;refine ⟨lim.keeps x.toInCall.keep,codeAny_func ?_⟩;obtain ⟨t,ht,hq⟩:=hbody A outer s H vs Q E (hr.deeper _) hsp;have I:Inv (X2 CX P w K mg base N qual scope f cdv A outer s H E) [] (WY N vs) H s1:=qC S hr.hd e0 hl r x;refine QO (ht [] s1 (WY N vs) H _ I hq) (λfl s' hs=>?_) λe s' hs=>hs
 have fin:∀{σ':St}{H':Hp}{v:V}{u:Uy},Inv (X2 CX P w K mg base N qual scope f cdv A outer s H E) [] σ' H' s'->RelV v u->Q v H'->CE outer P w H s Q u s' :=
  λ{σ' H' v u} J rv q=>⟨v,H',J.os,J.bare,J.base,J.hok,rv,q⟩
 cases fl with
 |ret u=>
  obtain ⟨v,σ',H',J,rv,q⟩:=hs;exact fin J rv q
 |next=>
  obtain ⟨σ',H',J,q⟩:=hs;exact fin (v:=V.non) (u:=Value.none) J rfl q
 |brk=>
  obtain ⟨_,_,_,q⟩:=hs;exact False.elim q
 |cont=>
  obtain ⟨_,_,_,q⟩:=hs;exact False.elim q
section
variable{X:Cx}{x:Str}{p pos:Pos}{e:UD}{es:List UD}{t:TA}{id T:String}{r:List V->Hp->VK->Prop}
def tCB(r:List V->Hp->VK->Prop)(t:TA):TE:=λσ H Q=>t σ H λvs H1=>r vs H1 Q
theorem Nh(hc:XJ X (.builtin id) r)(hg:Gl X x)(hm:X.mg x=none)(hv:bootBuiltins x=some (.builtin id))(ha:PA X (e::es) t)(hn:x ≠ "__name__" := by decide)(hdb:(x==("__debug__" : Str))=false:=by decide)
  (he:UG (e::es) X.env=(false,eval e X.env)::UG es X.env:=by rfl) (hpl:(backTo pos (UG es X.env)).any (·.1)=false:=by rfl):PE X (.Call (.Name x p) (e::es) [] pos) (tCB r t):=by
 intro pins s σ H Q I h;refine wpAny_Call_Name_kw (T3 I hg hm hv ?_ hn hdb);exact PyProof.Rows.callWith_builtin1 (thn (ha pos pins s σ H _ I h) λus s1 ⟨vs,H1,I1,r1,q1⟩=>hc pins s1 σ H1 vs us Q I1 r1 q1) he hpl
theorem NC(hc:XJ X (.type T) r)(hg:Gl X x)(hm:X.mg x=none)(hv:bootBuiltins x=some (.type T))(ha:PA X (e::es) t)(hn:x ≠ "__name__" := by decide)(hdb:(x==("__debug__" : Str))=false:=by decide)
  (he:UG (e::es) X.env=(false,eval e X.env)::UG es X.env:=by rfl) (hpl:(backTo pos (UG es X.env)).any (·.1)=false:=by rfl):PE X (.Call (.Name x p) (e::es) [] pos) (tCB r t):=by
 intro pins s σ H Q I h;refine wpAny_Call_Name_kw (T3 I hg hm hv ?_ hn hdb);exact JC (thn (ha pos pins s σ H _ I h) λus s1 ⟨vs,H1,I1,r1,q1⟩=>hc pins s1 σ H1 vs us Q I1 r1 q1) he hpl
end
end L2
namespace HT
open PySem PyProof.Rows
def Xd:List Int->List Int->Bool
 |[],[]=>false
 |[],_::_=>true
 |_::_,[]=>false
 |x::xs,y::ys=>if x=y then Xd xs ys else decide (x<y)
theorem F1(x y:Int)(xs ys:List Int):Xd (x::xs) (y::ys)=if x=y then Xd xs ys else decide (x<y):=rfl
theorem AM(A:Around)(s:Uz)(a:Int)(t:Tok)(c:Int)(u:Tok):∃e,SeqAt.EqAt A s (.int a t) (.int c u) e/\(e=true ↔ a=c) :=
 ⟨(a==c),SeqAt.EqAt.int_int a t c u,by simp⟩
section
open PySem.SeqAt
open PySem.AutoSeq1 (wpAny_loadPart')
open PySem.MeetsSeq PySem.MeetsSeq2 PySem.MeetsSeq3
end
section
variable{prog:UA}{w:World}{A:Around}{E:Uy->Uz->Prop}{s:Uz}
def sIx(n d:Nat):Option Int->Nat
 |none=>d
 |some v=>if v<0 then (v+(n:Int)).toNat else min v.toNat n
end
end HT
namespace L2
open PySem PySem.Spec PyProof.Rows
abbrev TO:=St->Hp->(Option Int->Hp->Prop)->Prop
def PO(X:Cx)(e:Option UD)(t:TO):Prop :=
 ∀(pins:List (UB×Obj))(s:Uz)(σ:St)(H:Hp)(Q:Option Int->Hp->Prop),Inv X pins σ H s->t σ H Q ->
  UF (model X.prog X.w) X.A (evalPart e X.env) (λu s'=>∃o H',Inv X pins σ H' s'/\IsPart u o/\Q o H') X.xe s
def CO:TO:=λ_ H Q=>Q none H
def DF(t:TE):TO:=λσ H Q=>t σ H λx H1=>∃i,x=.int i/\Q (some i) H1
theorem F0{ns:List Int}:∀{us:List Uy},Vals (ns.map V.int) us->IntsAre us ns:=by
 induction ns with
 |nil=>intro us r;rw[Ul] at r;cases r;exact .nil
 |cons n ns ih=>
  intro us r;rw[QA] at r
  cases r with
  |cons r1 r2=>
   obtain ⟨t,e⟩:=r1;subst e;exact .cons n t (ih r2)
section
variable{X:Cx}{e:UD}{te:TE}{lo hi:Option UD}{tl th:TO}{pos p2:Pos}
theorem CN:PO X none CO:=by
 intro pins s σ H Q I h;rw[evalPart_none];exact Qo ⟨none,H,I,.none,h⟩
theorem CM(h:PE X e te):PO X (some e) (DF te):=by
 intro pins s σ H Q I hw;rw[evalPart_some];refine thn (h pins s σ H _ I hw) λu s1 ⟨x,H1,I1,r1,q1⟩=>?_;obtain ⟨i,rfl,q⟩:=q1;obtain ⟨t,rfl⟩:=r1;exact ⟨some i,H1,I1,.int i t,q⟩
def SlR(X:Cx)(r:V->Option Int->Option Int->Hp->VK->Prop):Prop :=
 ∀(pins:List (UB×Obj))(s:Uz)(σ:St)(H:Hp)(x:V)(v vl vu:Uy)(lo hi:Option Int)(sl:UB)(Q:VK),Inv X pins σ H s->RelV x v->s.heap.IsSliceOf sl vl vu .none->IsPart vl lo->IsPart vu hi->r x lo hi H Q ->
  ∃T id,typeLookup (.type T) "__getitem__" = pure (some (.builtin id))/\s.TypeIs v T/\UF (model X.prog X.w) X.A (getItem v (.ref sl)) (EP X pins σ Q) X.xe s
theorem SlR.or{r r':V->Option Int->Option Int->Hp->VK->Prop}(h:SlR X r)(h':SlR X r'):SlR X (λx lo hi H Q=>r x lo hi H Q∨r' x lo hi H Q):=by
 intro pins s σ H x v vl vu lo hi sl Q I rx hs pl pu q;rcases q with q|q
 ·exact h pins s σ H x v vl vu lo hi sl Q I rx hs pl pu q
 ·exact h' pins s σ H x v vl vu lo hi sl Q I rx hs pl pu q
def tSl(r:V->Option Int->Option Int->Hp->VK->Prop)(te:TE)(tl th:TO):TE:=λσ H Q=>te σ H λx H1=>tl σ H1 λl H2=>th σ H2 λu H3=>r x l u H3 Q
theorem AL{r:V->Option Int->Option Int->Hp->VK->Prop}(hr:SlR X r)(he:PE X e te)(hl:PO X lo tl)(hu:PO X hi th):PE X (.Subscript e (.Slice lo hi none p2) pos) (tSl r te tl th):=by
 intro pins s σ H Q I h;refine Subscript_ (thn (he pins s σ H _ I h) λv s1 ⟨x,H1,I1,r1,q1⟩=>?_);refine wpAny_Slice (thn (hl pins s1 σ H1 _ I1 q1) λvl s2 ⟨l,H2,I2,pl,q2⟩=>thn (hu pins s2 σ H2 _ I2 q2) λvu s3 ⟨u,H3,I3,pu,q3⟩=>?_);rw[evalPart_none];refine Qo ?_
 have I4:Inv X pins σ H3 { s3 with heap:=s3.heap.push { cls:=.type "slice", data:=.fields #[vl,vu,.none] } }:=I3.kept (t':=s3.toks) λb ob q=>Qm _ q
 obtain ⟨T,id,hT,ht,hg⟩:=hr pins { s3 with heap:=s3.heap.push { cls:=.type "slice", data:=.fields #[vl,vu,.none] } } σ H3 x v vl vu l u s3.heap.objs.size Q I4 r1 (Heap.IsSliceOf.new ..) pl pu q3
 show UF (model X.prog X.w) X.A (subscriptTail e (.Slice lo hi none p2) v (.ref s3.heap.objs.size)) (EP X pins σ Q) X.xe { s3 with heap:=s3.heap.push { cls:=.type "slice", data:=.fields #[vl,vu,.none] } }
 exact tail_any (ops:=[.ref s3.heap.objs.size,v]) ht hT hg (by with_unfolding_all rfl)
def WC(xs:List V)(lo hi:Option Int):List V:=(xs.drop (HT.sIx xs.length 0 lo)).take (HT.sIx xs.length xs.length hi-HT.sIx xs.length 0 lo)
theorem kA(xs:List V)(lo hi:Option Int):(WC xs lo hi).length<=xs.length:=by
 unfold WC;rw[Q3,Jl];omega
end
def ixN(n:Nat)(i:Int):Option Nat:=if 0<=i then (if i<n then some i.toNat else none) else if -(n:Int)<=i then some (i+n).toNat else none
def atI{α:Type}(xs:List α)(i:Int):Option α:=(ixN xs.length i).bind λj=>xs[j]?
theorem Mi{n:Nat}{i:Int}{j:Nat}(h:ixN n i=some j):seqIndex? i n=some j/\j<n /\ -(n:Int)<=i/\i<n:=by
 unfold ixN at h
 by_cases h0:0<=i
 ·rw[Ql h0] at h
  by_cases h1:i<n
  ·rw[Ql h1] at h
   have e:i.toNat=j:=QX h;exact ⟨by rw[seqIndex_of h0 h1,e],by omega,by omega,h1⟩
  ·rw[Qs h1] at h;cases h
 ·rw[Qs h0] at h
  by_cases h1 : -(n:Int)<=i
  ·rw[Ql h1] at h
   have e:(i+n).toNat=j:=QX h;exact ⟨by rw[seqIndex_neg (by omega) h1,e],by omega,h1,by omega⟩
  ·rw[Qs h1] at h;cases h
theorem O7{α:Type}{xs:List α}{i:Int}{v:α}(h:atI xs i=some v):∃j,seqIndex? i xs.length=some j/\xs[j]?=some v/\j<xs.length /\ -(xs.length:Int)<=i/\i<xs.length:=by
 unfold atI at h
 cases e:ixN xs.length i with
 |none=>rw[e] at h;cases h
 |some j=>
  rw[e] at h;obtain ⟨h1,h2,h3,h4⟩:=Mi e;exact ⟨j,h1,h,h2,h3,h4⟩
theorem ZD{α:Type}{xs:List α}{j:Nat}{v:α}(h:xs[j]?=some v):atI xs (j:Int)=some v:=by
 have hj:j<xs.length:=(Qg.mp h).1
 have e:ixN xs.length (j:Int)=some j:=by
  unfold ixN;rw[if_pos (by omega),if_pos (by omega)];simp
 unfold atI;rw[e];exact h
def Mh(b:UD):Prop:=∀o i,subscripted b false o i=operate [o,i] (getItem o i)
def IxR(X:Cx)(r:R2):Prop :=
 ∀(value slice:UD)(pins:List (UB×Obj))(s:Uz)(σ:St)(H:Hp)(x y:V)(v u:Uy)(Q:VK),Inv X pins σ H s->RelV x v->RelV y u->r x y H Q ->
  subscripted slice false v u=operate [v,u] (getItem v u)->UF (model X.prog X.w) X.A (subscriptTail value slice v u) (EP X pins σ Q) X.xe s
def MtR(X:Cx)(id:String)(r:V->List V->Hp->VK->Prop):Prop :=
 ∀(pins:List (UB×Obj))(s:Uz)(σ:St)(H:Hp)(x:V)(xs:List V)(v:Uy)(us:List Uy)(Q:VK),Inv X pins σ H s->RelV x v->Vals xs us->r x xs H Q ->
  UF (model X.prog X.w) X.A (call (.builtin id) (v::us)) (EP X pins σ Q) X.xe s
section
variable{X:Cx}{a b:UD}{ta tb:TE}{pos:Pos}
theorem IxR.or{r r':R2}(h:IxR X r)(h':IxR X r'):IxR X (λx y H Q=>r x y H Q∨r' x y H Q):=by
 intro value slice pins s σ H x y v u Q I rx ry q hs;rcases q with q|q
 ·exact h value slice pins s σ H x y v u Q I rx ry q hs
 ·exact h' value slice pins s σ H x y v u Q I rx ry q hs
theorem Lv{r:R2}(hr:IxR X r)(ha:PE X a ta)(hb:PE X b tb)(hs:Mh b):PE X (.Subscript a b pos) (tOp r ta tb):=by
 intro pins s σ H Q I h;exact Subscript_ (RV ha hb I h λv u s2 x y H2 I2 rx ry q=>hr a b pins s2 σ H2 x y v u Q I2 rx ry q (hs _ _))
def rIxL(K:Frag):R2:=λx y H Q=>∃p xs i v,x=.ref p/\y=.int i/\SqL K H p xs/\atI xs i=some v/\Q v H
def rIxT(K:Frag):R2:=λx y H Q=>∃p xs i v,x=.ref p/\y=.int i/\SqT K H p xs/\atI xs i=some v/\Q v H
def rIxS:R2:=λx y H Q=>∃z i c,x=.str z/\y=.int i/\z.length<=UE/\atI z.cps.toList i=some c/\Q (.str ⟨#[c]⟩) H
theorem CL:IxR X (rIxL X.K):=by
 intro value slice pins s σ H x y v u Q I rx ry h hs;obtain ⟨p,xs,i,z,rfl,rfl,hq,he,q⟩:=h;cases rx;obtain ⟨t,rfl⟩:=ry;obtain ⟨its,r,pl,hz⟩:=I.list hq;obtain ⟨j,h1,h2,h3,h4,h5⟩:=O7 he;obtain ⟨w,ew,rw'⟩:=r.get h2;have hl:=r.length;have hn:=Sw;have fin:EP X pins σ Q w s:=⟨z,H,I,rw',q⟩
 by_cases h0:0<=i
 ·have hj:i.toNat=j:=by
   rw[seqIndex_of h0 h5] at h1;exact QX h1
  exact item_listR pl.isList h0 (by omega) (by rw[hj];simpa using ew) fin hs
 ·have hj:(i+(its.toArray.size:Int)).toNat=j:=by
   rw[seqIndex_neg (by omega) h4] at h1
   rw[QK,←hl];exact QX h1
  exact subscriptTail_builtinR (x:=w) pl.isList.typeIs slot_list_getitem.lookup
   (wpAny_getItem_list_neg (Q:=λr s'=>r=w/\EP X pins σ Q r s') pl.isList (by omega) (by rw[List.size_toArray] <;> omega) (by omega) (by rw[hj];simpa using ew) ⟨rfl,fin⟩) hs
theorem CI:IxR X (rIxT X.K):=by
 intro value slice pins s σ H x y v u Q I rx ry h hs;obtain ⟨p,xs,i,z,rfl,rfl,hq,he,q⟩:=h;cases rx;obtain ⟨t,rfl⟩:=ry;obtain ⟨its,r,pl,hz⟩:=I.tuple hq;obtain ⟨j,h1,h2,h3,h4,h5⟩:=O7 he;obtain ⟨w,ew,rw'⟩:=r.get h2;have hl:=r.length;have hn:=Sw;have fin:EP X pins σ Q w s:=⟨z,H,I,rw',q⟩
 exact subscriptTail_builtinR (x:=w) pl.typeIs slot_tuple_getitem.lookup
  (getItem_tuple (j:=j) (Q:=λr s'=>r=w/\EP X pins σ Q r s') pl (by omega) (by omega) (by rw[List.size_toArray,←hl];exact h1) (by simpa using ew) ⟨rfl,fin⟩) hs
theorem CH:IxR X rIxS:=by
 intro value slice pins s σ H x y v u Q I rx ry h hs;obtain ⟨z,i,c,rfl,rfl,hz,he,q⟩:=h;obtain ⟨t,rfl⟩:=rx;obtain ⟨t',rfl⟩:=ry;obtain ⟨j,h1,h2,h3,h4,h5⟩:=O7 he;have hl:z.cps.toList.length=z.length:=by simp[Str.length]
 rw[hl] at h1 h4 h5;have hn:=Sw
 exact tail_any (typeIs_str s z t) slot_str_getitem.lookup (getItem_str (c:=c) (by
  have e1:decide (i < -(2 ^ 63:Int))=false:=QG (by omega)
  have e2:decide (i ≥ 2 ^ 63)=false:=QG (by omega)
  rw[e1,e2,Bool.or_false]) (by rw[h1];simpa using h2) ⟨.str ⟨#[c]⟩,H,I.tok _,⟨_,rfl⟩,q⟩) hs
def rIx(K:Frag):R2:=λx y H Q=>rIxL K x y H Q∨rIxT K x y H Q∨rIxS x y H Q
theorem LV:IxR X (rIx X.K):=CL.or (CI.or CH)
theorem jj(its:List Uy)(n j:Nat)(u:Uy):Obj.mapSeq (·.setIfInBounds j u) { cls:=.type "list", data:=.seq its.toArray n } = { cls:=.type "list", data:=.seq (its.set j u).toArray n }:=by
 simp[Obj.mapSeq]
theorem Inv.lst{pins:List (UB×Obj)}{σ:St}{H:Hp}{s:Uz}{p:UB}{xs:List V}(I:Inv X pins σ H s)(h:H p=some (.lst xs)) :
  ∃(its:List Uy)(n:Nat),Vals xs its/\s.heap.get? p=some { cls:=.type "list", data:=.seq its.toArray n }/\xs.length<=UE:=by
 obtain ⟨z,its,n,r,e⟩:=I.hok p _ h;exact ⟨its,n,r,e,z⟩
theorem Inv.lstUpd{pins:List (UB×Obj)}{σ:St}{H:Hp}{s:Uz}{p:UB}{xs ys:List V}{its its':List Uy}{n n':Nat}{f:Obj->Obj}(I:Inv X pins σ H s)(h:H p=some (.lst xs))
  (ho:s.heap.get? p=some { cls:=.type "list", data:=.seq its.toArray n }) (hf:f { cls:=.type "list", data:=.seq its.toArray n } = { cls:=.type "list", data:=.seq its'.toArray n' }) (r:Vals ys its') (hz:ys.length<=UE) (t:Nat) :
  Inv X pins σ (upd H p (.lst ys)) { s with heap:=s.heap.update p f,toks:=t }:=by
 have e:(s.heap.update p f).get? p=some { cls:=.type "list", data:=.seq its'.toArray n' }:=by
  rw[Heap.get?_update_self f ho (by rw[hf] <;> rfl),hf]
 refine I.write (x:=p) (e:=p) (by rw[h];trivial) (.inl rfl) (λb u hb q=>(Heap.get?_update_other _ _ (Ne.symm hb)).trans q) ⟨_,e⟩ ?_
 exact ⟨hz,its',n',r,e⟩
def EV:V->V->V->Hp->(Hp->Prop)->Prop:=λo i v H Q=>∃p xs k j,o=.ref p/\i=.int k/\H p=some (.lst xs)/\ixN xs.length k=some j/\Q (upd H p (.lst (xs.set j v)))
theorem AK:PSet X EV:=by
 intro pins s σ H o i v ov iv u Q I ro ri rv h;obtain ⟨p,xs,k,j,rfl,rfl,hp,hj,q⟩:=h;cases ro;obtain ⟨t,rfl⟩:=ri;obtain ⟨its,n,r,ho,hz⟩:=I.lst hp;obtain ⟨h1,h2,h3,h4⟩:=Mi hj;have hl:=r.length;have hn:=Sw
 have I':Inv X pins σ (upd H p (.lst (xs.set j v))) { s with heap:=s.heap.update p (Obj.mapSeq (·.setIfInBounds j u)) } :=
  I.lstUpd hp ho (jj its n j u) (r.set rv j) (by rw[QY];exact hz) s.toks
 by_cases h0:0<=k
 ·have hk:k.toNat=j:=by
   rw[seqIndex_of h0 h4] at h1;exact QX h1
  exact PySem.W.ki_setAt ho h0 (by omega) (by rw[QK,←hl];exact h4) (by rw[hk];exact ⟨_,I',q⟩)
 ·have hk:(k+(its.toArray.size:Int)).toNat=j:=by
   rw[seqIndex_neg (by omega) h3] at h1
   rw[QK,←hl];exact QX h1
  exact PySem.W.ki_setBack ho (by omega) (by rw[QK,←hl];exact h3) (by omega) (by rw[hk];exact ⟨_,I',q⟩)
theorem kI(lo hi:Option Int)(n:Nat):(sliceBounds lo hi none n).1=((HT.sIx n 0 lo:Nat):Int)/\(sliceBounds lo hi none n).2.1=((HT.sIx n n hi:Nat):Int)/\(sliceBounds lo hi none n).2.2=1:=by
 refine ⟨?_,?_,rfl⟩
 ·cases lo with
  |none=>simp[sliceBounds,HT.sIx]
  |some i=>
   simp only[sliceBounds,HT.sIx,Option.getD_none,show (1:Int) > 0 by decide,if_true]
   by_cases h:i<0
   ·simp only[h,if_true] <;> omega
   ·simp only[h,if_false] <;> omega
 ·cases hi with
  |none=>simp[sliceBounds,HT.sIx]
  |some i=>
   simp only[sliceBounds,HT.sIx,Option.getD_none,show (1:Int) > 0 by decide,if_true]
   by_cases h:i<0
   ·simp only[h,if_true] <;> omega
   ·simp only[h,if_false] <;> omega
theorem kS(its:List Uy)(lo hi:Option Int):slicePick its.toArray lo hi none=((its.drop (HT.sIx its.length 0 lo)).take (HT.sIx its.length its.length hi-HT.sIx its.length 0 lo)).toArray:=by
 obtain ⟨h1,h2,h3⟩:=kI lo hi its.toArray.size;unfold slicePick;rw[h1,h2,h3];simp only[sliceRange_one,pick_run,QK] <;> rfl
def rSlL(K:Frag):V->Option Int->Option Int->Hp->VK->Prop:=λx lo hi H Q=>∃a xs,x=.ref a/\SqL K H a xs/\∀p,H p=none->Q (.ref p) (upd H p (.lst (WC xs lo hi)))
theorem CK:SlR X (rSlL X.K):=by
 intro pins s σ H x v vl vu lo hi sl Q I rx hs pl pu h;obtain ⟨a,xs,rfl,hx,q⟩:=h;cases rx;obtain ⟨its,r,ht,hz⟩:=I.list hx;have hlen:=r.length
 refine ⟨"list", _,slot_list_getitem.lookup,ht.isList.typeIs,?_⟩
 refine wpAny_getItem_list_slice ht.isList hs pl pu .none (by simp) ?_ (by rw[List.size_toArray] <;> omega)
 rw[kS,←hlen];refine ⟨.ref s.heap.objs.size,_,I.laid (t':=s.toks) (o:=.lst (WC xs lo hi)) (λb ob q=>Qm _ q) (Qy _) ?_,rfl,q _ (I.hok.fresh (Qy _))⟩;exact ⟨QT (kA xs lo hi) hz,_,0,(r.drop (HT.sIx xs.length 0 lo)).take (HT.sIx xs.length xs.length hi-HT.sIx xs.length 0 lo),QH _ rfl⟩
theorem Eu:XJ X (.type "list") (λxs H Q=>∃p ys,xs=[.ref p]/\(SqL X.K H p ys∨SqT X.K H p ys)/\∀l,H l=none->Q (.ref l) (upd H l (.lst ys))):=by
 intro pins s σ H xs us Q I r h;obtain ⟨p,ys,rfl,hq,q⟩:=h;obtain ⟨u,rfl,rx⟩:=OM r;cases rx
 have fin:∀(its:List Uy),Vals ys its->ys.length<=UE->∀(h':Heap)(c':Nat),(∀b o',s.heap.get? b=some o'->h'.get? b=some o') ->
   h'.get? s.heap.objs.size=some { cls:=.type "list", dict:=none,data:=.seq its.toArray c',slots:=#[] }->EP X pins σ Q (.ref s.heap.objs.size) { s with heap:=h' }:=λits r' hz h' c' kp e=>
  ⟨.ref s.heap.objs.size,_,I.laid (t':=s.toks) kp (Qy _) (show Y4 X.prog X.w _ h' _ (.lst ys) from ⟨hz,its,c',r',e⟩),rfl,q _ (I.hok.fresh (Qy _))⟩
 rcases hq with hq|hq
 ·obtain ⟨its,r',pl,hz⟩:=I.list hq
  have hlen:=r'.length;obtain ⟨o,ho,hc,n,hd⟩:=pl.isList;exact call_list_seq p (.inl rfl) ho hc hd (λh' c' kp e=>fin its r' hz h' c' kp e) (by simp only[QK] <;> omega)
 ·obtain ⟨its,r',pl,hz⟩:=I.tuple hq
  have hlen:=r'.length;obtain ⟨o,ho,hc,n,hd⟩:=pl;exact call_list_seq p (.inr rfl) ho hc hd (λh' c' kp e=>fin its r' hz h' c' kp e) (by simp only[QK] <;> omega)
def tyV(K:Frag)(T:String)(x:V)(H:Hp):Prop:=match x with
 |.str _=>T = "str"
 |.int _=>T = "int"
 |.ref p=>(T = "list" /\ ∃xs,SqL K H p xs)∨(T = "tuple" /\ ∃o,K.lookup p=some o/\o.cls=.type "tuple" /\ o.dict=none) ∨
   (T = "dict" /\ ((∃kvs,H p=some (.dK kvs)) ∨ ∃kvs,H p=some (.dT kvs)))∨(T = "set" /\ ∃S n,H p=some (.set S n))
 |_=>False
theorem CG{pins:List (UB×Obj)}{σ:St}{H:Hp}{s:Uz}{T:String}{x:V}{v:Uy}(I:Inv X pins σ H s)(r:RelV x v)(ty:tyV X.K T x H) :
  s.TypeIs v T/\∀a,v=.ref a->∃ob,s.heap.get? a=some ob/\ob.dict=none:=by
 cases x with
 |str z=>
  obtain ⟨t,rfl⟩:=r
  cases (show T = "str" from ty)
  exact ⟨typeIs_str s z t,λ_ e=>nomatch e⟩
 |int i=>
  obtain ⟨t,rfl⟩:=r
  cases (show T = "int" from ty)
  exact ⟨typeIs_int s i t,λ_ e=>nomatch e⟩
 |ref p=>
  cases r;rcases ty with ⟨rfl,xs,hq⟩|⟨rfl,o,hk,hc,hd⟩|⟨rfl,hk⟩|⟨rfl,S,n,hk⟩
  ·obtain ⟨its,_,pl,_⟩:=I.list hq
   refine ⟨pl.isList.typeIs,λa e=>?_⟩;cases e;obtain ⟨o,n,e,c,hd,_⟩:=pl;exact ⟨o,e,hd⟩
  ·refine ⟨⟨o,I.kIn p o hk,hc⟩,λa e=>?_⟩
   cases e;exact ⟨o,I.kIn _ o hk,hd⟩
  ·have z:∃o,s.heap.get? p=some o/\o.ExactDict:=by
    rcases hk with ⟨kvs,hk⟩|⟨kvs,hk⟩
    ·obtain ⟨_,_,_,_,o,_,_,e,ex,_⟩:=I.hok p _ hk
     exact ⟨o,e,ex⟩
    ·obtain ⟨_,_,_,_,o,_,_,e,ex,_⟩:=I.hok p _ hk
     exact ⟨o,e,ex⟩
   obtain ⟨o,e,ex⟩:=z;refine ⟨⟨o,e,ex.1⟩,λa e2=>?_⟩;cases e2;exact ⟨o,e,ex.2.1⟩
  ·obtain ⟨o,_,_,_,e,ex,_⟩:=I.hok p _ hk
   refine ⟨⟨o,e,ex.1⟩,λa e2=>?_⟩;cases e2;exact ⟨o,e,ex.2.1⟩
 |_=>exact False.elim ty
def tBM(K:Frag)(T:String)(r:V->List V->Hp->VK->Prop)(to:TE)(t:TA):TE:=λσ H Q=>to σ H λx H1=>tyV K T x H1/\t σ H1 λxs H2=>r x xs H2 Q
variable{o e:UD}{es:List UD}{to:TE}{t:TA}{name:Str}{apos cpos:Pos}{T id:String}{r:V->List V->Hp->VK->Prop}
theorem NG(pa:PlainAttrs T)(slot:Slot T name id)(hty:typeOf (.builtin id)=pure (.type "method_descriptor"))(hm:MtR X id r)(ho:PE X o to)(ha:PA X (e::es) t)
  (hbase:attributeBase o name X.env (eval o X.env)=eval o X.env:=by rfl)
  (hfew:((backTo cpos (UG (e::es) X.env)).all (λx=>!x.1)&&(backToKw cpos (keywordEach [] X.env)).all (λx=>x.1.isSome)
   && decide ((e::es).length+([]:List Keyword).length+(if ([]:List Keyword).isEmpty then 0 else 1)<30))=true:=by rfl)
  (hline:(apos.endLine==cpos.line)=true:=by rfl) (hs:UG (e::es) X.env=(false,eval e X.env)::UG es X.env:=by rfl) (hplain:(backTo cpos (UG es X.env)).any (·.1)=false:=by rfl) :
  PE X (.Call (.Attribute o name apos) (e::es) [] cpos) (tBM X.K T r to t):=by
 intro pins s σ H Q I h;refine wpAny_Call_method_late hbase hfew hline rfl (thn (ho pins s σ H _ I h) λv s1 ⟨x,H1,I1,r1,ty,q1⟩=>?_);obtain ⟨h1,h2⟩:=CG I1 r1 ty;refine ⟨T,id,pa,slot,hty,h1,h2,?_⟩;have hA:=ha cpos pins s1 σ H1 _ I1 q1;rw[hs] at hA ⊢;refine Calls.callWith_builtin (by show (false || (backTo cpos (UG es X.env)).any (·.1))=false;rw[hplain] <;> rfl) (Calls.evalArgs_plain ?_)
 exact thn hA λus s2 ⟨vs,H2,I2,r2,q2⟩=>hm pins s2 σ H2 x vs v us Q I2 r1 r2 q2
end
def MtM(X:Cx)(id:String)(r:V->List V->Hp->VK->Prop):Prop :=
 ∀(pins:List (UB×Obj))(s:Uz)(σ:St)(H:Hp)(x:V)(xs:List V)(v:Uy)(us:List Uy)(Q:VK),Inv X pins σ H s->RelV x v->Vals xs us->r x xs H Q ->
  UF (model X.prog X.w) X.A (call (.builtin id) (v::us)) (EP X pins σ Q) X.xe s
theorem Vals.one:∀{x:V}{us:List Uy},Vals [x] us->∃u,us=[u]/\RelV x u
 |_,_,.cons r .nil=>⟨_,rfl,r⟩
theorem Vals.two:∀{x y:V}{us:List Uy},Vals [x,y] us->∃u v,us=[u,v]/\RelV x u/\RelV y v
 |_,_,_,.cons r (.cons q .nil)=>⟨_,_,rfl,r,q⟩
theorem Vals.reverse{xs:List V}{us:List Uy}(h:Vals xs us):Vals xs.reverse us.reverse:=by
 induction h with
 |nil=>exact .nil
 |cons r t ih=>rw[List.reverse_cons,List.reverse_cons];exact Vals.append ih (.cons r .nil)
theorem Vals.rep{xs:List V}{us:List Uy}(h:Vals xs us):∀k:Nat,Vals (UJ k xs).flatten (UJ k us).flatten
 |0=>.nil
 |k+1=>by
  rw[QS,QS,QN,QN];exact Vals.append h (Vals.rep h k)
theorem Fj(its:List Uy):∀(k:Nat)(acc:List Uy),
  List.foldl (λx1 x2=>x1++x2) acc.toArray (UJ k its.toArray)=(acc++(UJ k its).flatten).toArray
 |0,acc=>by simp
 |k+1,acc=>by
  have e:acc.toArray++its.toArray=(acc++its).toArray:=by simp
  have e2:(acc++its)++(UJ k its).flatten=acc++(UJ (k+1) its).flatten:=by
   rw[QS,QN,Jg]
  rw[←e2,←Fj its k (acc++its),←e,QS,Ud]
section
variable{X:Cx}{pins:List (UB×Obj)}{σ:St}{H:Hp}{s:Uz}{l b:UB}{xs ys zs:List V}
theorem Inv.lset{its its':List Uy}{n:Nat}{f:Array Uy->Array Uy}{t':Nat}(I:Inv X pins σ H s)(hH:H l=some (.lst xs))
  (e:s.heap.get? l=some { cls:=.type "list", data:=.seq its.toArray n }) (hf:f its.toArray=its'.toArray) (hv:Vals ys its') (hz:ys.length<=UE) :
  Inv X pins σ (upd H l (.lst ys)) { s with heap:=s.heap.update l (Obj.mapSeq f),toks:=t' }:=by
 have q:=PySem.IsL.update e f;rw[hf] at q;refine I.write (x:=l) (e:=l) (by rw[hH];exact trivial) (.inl rfl) (λb' u hb hu=>(Heap.get?_update_other s.heap (Obj.mapSeq f) (Ne.symm hb)).trans hu) ⟨_,q⟩ ?_
 exact ⟨hz,its',_,hv,q⟩
theorem Inv.lnew{its:List Uy}{t':Nat}(I:Inv X pins σ H s)(hv:Vals ys its)(hz:ys.length<=UE) :
  Inv X pins σ (upd H s.heap.objs.size (.lst ys)) { s with heap:=s.heap.push { cls:=.type "list", data:=.seq its.toArray },toks:=t' } :=
 I.laid (λ_ _ q=>Qm _ q) (Qy _) ⟨hz,its,0,hv,QH _ rfl⟩
theorem Inv.fresh(I:Inv X pins σ H s):H s.heap.objs.size=none:=I.hok.fresh (Qy _)
theorem Inv.lstM(I:Inv X pins σ H s)(hH:H l=some (.lst xs)):xs.length<=UE/\∃(its:List Uy)(n:Nat),Vals xs its/\xs.length=its.length/\s.heap.get? l=some { cls:=.type "list", data:=.seq its.toArray n }:=by
 obtain ⟨z,its,n,r,e⟩:=I.hok l _ hH;exact ⟨z,its,n,r,r.length,e⟩
theorem AJ{n:Nat}(h:n<=UE):Builtin.List.listTooLong n=false:=by
 unfold Builtin.List.listTooLong;exact QG (by omega)
end
section
variable{X:Cx}
def CJ:V->List V->Hp->VK->Prop:=λx vs H Q=>∃l xs y,x=.ref l/\vs=[y]/\H l=some (.lst xs)/\xs.length<UE/\Q .non (upd H l (.lst (xs++[y])))
theorem Fi:MtM X "list.append" CJ:=by
 intro pins s σ H x vs v us Q I rx rv h;obtain ⟨l,xs,y,rfl,rfl,hH,hz,q⟩:=h;cases rx;obtain ⟨u,rfl,ru⟩:=rv.one;obtain ⟨z,its,n,r,hl,e⟩:=I.lstM hH;refine call_meets F.slot_list_append ⟨_,e,rfl⟩ F.entry_list_append (F.args_list_append_2 _ _) (PySem.list_append l its.toArray n u (by rw[QK];omega)) ⟨e,?_⟩
 refine ⟨.non,_,I.lset (its':=its++[u]) hH e (by simp) (r.append (.cons ru .nil)) ?_,rfl,q⟩
 rw[Qj,Ji];omega
theorem Bs{α:Type}(xs:List α)(k:Nat):(UJ k xs).flatten.length=k*xs.length:=by
 induction k with
 |zero=>simp
 |succ k ih=>rw[QS,QN,Qj,ih,Nat.succ_mul,Nat.add_comm]
end
section
variable{prog:UA}{w:World}{A:Around}{E:Uy->Uz->Prop}{s:Uz}
set_option maxRecDepth 100000 in
end
section
variable{X:Cx}
end
end L2
namespace Att
open PySem PySem.W PySem.Calls PyProof.Rows
theorem kX{P:Params}{h:Heap}:∀(ns:List Int)(vs:List Uy),WellAll P h vs (ns.map WData.int)->IntsAre vs ns:=by
 intro ns
 induction ns with
 |nil=>
  intro vs w;rw[Ul] at w;cases w;exact .nil
 |cons n ns ih=>
  intro vs w;rw[QA] at w
  cases w with
  |cons a b=>
   cases a;exact .cons _ _ (ih _ b)
theorem qB{l:OpenLaw}{n:Nat}(hn:l.most=some n){P:Params}{h:Heap}{args:List WData}{vals:List Uy}
  (hpre:l.row.toRowW.claim.pre args=true) (hwl:WellAll P h vals args) :
  ∃a vs ns,vals=[Value.ref a]/\args=[WData.list (ns.map WData.int)]/\h.get? a=some { cls:=.type "list", data:=.seq vs.toArray }/\IntsAre vs ns/\ns.length<=n:=by
 have hsh:WShape.hasAll [] args [.list .int]=true:=(pre_splitW hpre).1;have hc:l.pre.holds [] { args:=args }=true:=(pre_splitW hpre).2;obtain ⟨d,r,rfl,h1,h2⟩:=hasAllW_cons hsh;obtain rfl:=hasAllW_nil h2;obtain ⟨xs,rfl,h3⟩:=hasW_list h1;obtain ⟨ns,rfl⟩:=items_int h3
 have hlen:ns.length<=n:=by
  unfold OpenLaw.pre at hc
  have h4:(WTm.not (.lt (.lit (.int (n:Int))) (.len (.arg 0)))).holds [] { args:=[.list (ns.map .int)] }=true:=by
   have h4:=(holds_andW hc).1;rw[hn] at h4;exact h4
  have h5:=condW_of h4 (w_not (w_lt w_lit (w_len_list (w_arg rfl))));rw[Qb] at h5;refine Je λq=>?_;have q':(n:Int)<((ns.length:Nat):Int):=by omega
  first
   |(rw[Q2 q'] at h5;exact absurd h5 (by decide))
   |(simp at h5;omega)
 cases hwl with
 |cons w1 w2=>
  cases w2
  cases w1 with
  |list ho hall=>exact ⟨_,_,ns,rfl,rfl,ho,kX ns _ hall,hlen⟩
theorem qA(l:OpenLaw)(args:List WData):l.row.toRowW.claim.post args (.bool true) args=true :=
 postW_of (r:=l.row.toRowW) (X:=(true==true))
  (show WShape.has [] (.bool true) .bool=true by first|rfl|decide|simp[WShape.has,WShape.arms,WShape.armsAll])
  (show (WTm.eq .res (.lit (.bool true))).value [] { args:=args,res:=some (.bool true),after:=args }=some (.bool (true==true)) from w_eq_bool (w_res rfl) w_lit) rfl
theorem attach_call{l:OpenLaw}{n:Nat}{q:UA}{loose:List Str}{XP:(Str->Option Uy)->Heap->Prop}{YP:World->Heap->Prop}{d:DefRec}
  (hn:l.most=some n) (hdf:d.params.defaults=[])
  (call:∀(w:World)(s₀ s₁:Uz)(mg mb:Str->Option Uy)(fa:UB)(o:Obj)(pm cd doc:Uy)(a:UB)(vs:List Uy)(ns:List Int),
   Ground q loose [] XP w s₀ mg mb s₁.heap->YP w s₁.heap ->
   s₁.heap.get? fa=some o->o.data=.func (docDef d.name d.params d.body d.scope pm cd doc)->s₁.heap.CodeRec cd d.name->mg d.name=some (.ref fa) ->
   s₁.heap.get? a=some { cls:=.type "list", data:=.seq vs.toArray }->IntsAre vs ns->ns.length<=n->s₁.gens=#[] ->
   codeAny (model l.prog w) callerA (.call (.ref fa) ⟨[.ref a],[]⟩) (λr s'=>r=.ok (.ret (.bool true))/\OldK s₁.heap s'.heap/\s'.os=s₁.os/\AllBare s'.gens) s₁) :
  WalkO q loose XP YP l.row.toRowW d [] (λf vs=>PySem.call f vs):=by
 intro w s₀ s₁ mg mb G Y fa o pm cd doc dV kV ho hd hcd hD hmg hg args vals as hpre hlay hrd hwl hlo;obtain rfl:dV=.none:=Dflts.none hD hdf;obtain rfl:kV=.none:=Dflts.noKw hD;obtain ⟨a,vs,ns,rfl,rfl,hobj,hints,hlen⟩:=qB hn hpre hwl;refine enter_call (codeAny_mono (call w s₀ s₁ mg mb fa o pm cd doc a vs ns G Y ho (fd_plain hd) hcd hmg hobj hints hlen hg) λr s' hq=>?_);obtain ⟨rfl,h2,h3,h4⟩:=hq;exact ⟨.inl ⟨.bool true,.bool true,[],rfl,λ_=>rfl,.bool true,qA l _,λ_=>⟨List.Pairwise.nil,λ_ hm=>(nomatch hm)⟩⟩,h2,h3,h4⟩
section
variable{prog:UA}{w:World}{A:Around}{E:Uy->Uz->Prop}{s:Uz}{K:Frag}
end
end Att
namespace L2
open PySem PySem.Spec PyProof.Rows
theorem Sg:∀{vs:List Uy}{ns:List Int},IntsAre vs ns->Vals (ns.map V.int) vs
 |_,_,.nil=>.nil
 |_,_,.cons n t h=>.cons ⟨t,rfl⟩ (Sg h)
def Only(H:Hp):Prop:=∀b,H b=none ∨ ∃o xs,H b=some (.frz o (.lst xs))
theorem AI{P:UA}{w:World}{K:Frag}{mg mb:Str->Option Uy}{CX:CXT}{k:Nat}{fa a:UB}{fd:UC}{x:Str}{sp:Sp}{s₁:Uz}{vs:List Uy}{ns:List Int}
  (KX:K.In s₁.heap) (hns:s₁.heap.Ns mainGlobals mg) (hb:s₁.heap.Ns builtinsNs mb) (hbb:∀x:Str,x ≠ "__name__" -> mb x=bootBuiltins x) (hlim:s₁.heap.NoLimit) (hg:s₁.gens=#[])
  (ha:s₁.heap.get? a=some { cls:=.type "list", data:=.seq vs.toArray }) (hi:IntsAre vs ns) (hl:ns.length<=UE) (hr:Room k callerA)
  (F:∀base:Heap,K.In base->base.Ns mainGlobals mg->FnOk P w K mg base CX k fa fd [x] sp) (hbind:∀(s:Uz)(u:Uy),BindsTo s fd ⟨[u],[]⟩ [(x,u)])
  (hsp:∀H:Hp,Only H->SqL K H a (ns.map V.int)->sp [.ref a] H (λv _=>v=.bl true) λ_ _ _=>False)
  (hCX:∀H e s',CX [] H s₁ (λ_ _ _=>False) e s'->False) :
  codeAny (model P w) callerA (.call (.ref fa) ⟨[.ref a],[]⟩) (λr s'=>r=.ok (.ret (.bool true))/\OldK s₁.heap s'.heap/\s'.os=s₁.os/\AllBare s'.gens) s₁:=by
 have rv:=Sg hi;have lenV:=hi.length
 have core:∀H:Hp,Only H->SqL K H a (ns.map V.int)->HOk P w H s₁.heap->(∀b,H b≠none->b=a)->(H a≠none->K.lookup a=none) ->
   codeAny (model P w) callerA (.call (.ref fa) ⟨[.ref a],[]⟩) (λr s'=>r=.ok (.ret (.bool true))/\OldK s₁.heap s'.heap/\s'.os=s₁.os/\AllBare s'.gens) s₁:=by
  intro H hO hS hok hA hK;have base_of:∀{b:UB}{o:Obj},s₁.heap.get? b=some o->H b=none->(Xh s₁.heap H).get? b=some o:=λe n=>AV e n
  have noA:∀{b:UB}{o:Obj}{es:Array DictEntry}{ep:Nat},s₁.heap.get? b=some o->o.data=.dict es ep->H b=none:=λ{b o es ep} e d=>by
   cases q:H b with
   |none=>rfl
   |some u=>
    have e':b=a:=hA b (by rw[q];simp)
    subst e';rw[ha] at e;cases e;have d':Data.seq vs.toArray _=Data.dict es ep:=d;cases d'
  have nsK:∀{b:UB}{m:Str->Option Uy},s₁.heap.Ns b m->(Xh s₁.heap H).Ns b m:=λ{b m} ⟨o,es,ep,e,d,r⟩=>⟨o,es,ep,base_of e (noA e d),d,r⟩
  have hKb:K.In (Xh s₁.heap H):=λb o e=>base_of (KX b o e) (by
   cases q:H b with
   |none=>rfl
   |some u=>
    have e':b=a:=hA b (by rw[q];simp)
    subst e';rw[hK (by rw[q];simp)] at e;cases e)
  have hM:Mod K mg (Xh s₁.heap H):=⟨hKb,nsK hns,⟨mb,nsK hb,hbb⟩,let ⟨mc,h1,h2⟩:=hlim;⟨mc,nsK h1,h2⟩⟩
  have e0:Env0 P w K mg (Xh s₁.heap H) callerA [] s₁ H:=⟨rfl,hM,λb o e=>CZ e,Nat.le_of_eq (jM _ _),trivial,λb hb=>absurd (show b∈([]:List UB) from hb) (by simp),hok,.of_eq hg⟩
  refine codeAny_mono ((F _ hKb (nsK hns)).run callerA [] s₁ H ⟨[.ref a],[]⟩ [.ref a] [.ref a] _ _ hr e0 (hbind s₁ (.ref a)) (.cons rfl .nil) (hsp H hO hS)) λr s' h=>?_
  cases r with
  |error e=>exact (hCX H e s' h).elim
  |ok fl=>
   cases fl with
   |next=>exact False.elim h
   |brk=>exact False.elim h
   |cont=>exact False.elim h
   |ret u=>
    obtain ⟨v,H',os,bare,un,hok',r',q⟩:=h;have q':v=.bl true:=q;subst q';obtain rfl:u=Value.bool true:=r';refine ⟨rfl,OldK.of_keep λb o e=>?_,os,bare⟩
    cases q:H b with
    |none=>exact un.keep b o e q (by intro z;exact absurd (show b∈([]:List UB) from z) (by simp)) (by simp)
    |some u=>
     rcases hO b with z|⟨ob,xs,z⟩
     ·rw[q] at z;cases z
     ·have z2:=un.frzs b ob _ z
      obtain ⟨e1,_⟩:=hok b _ z;obtain ⟨e2,_⟩:=hok' b _ z2;rw[e] at e1;cases e1;exact e2
 cases hk:K.lookup a with
 |some o=>
  have e:=KX a o hk;rw[ha] at e;cases e;refine core (λ_=>none) (λ_=>.inl rfl) (.inr ⟨_,vs.toArray,_,hk,rfl,rfl,rfl,by rw[List.size_toArray,lenV];exact hl,by simpa using rv⟩) (λb u z=>by have z':(none:Option HO)=some u:=z;cases z') (λb z=>absurd rfl z) λz=>absurd rfl z
 |none=>
  refine core (λb=>if b=a then some (.frz { cls:=.type "list", data:=.seq vs.toArray } (.lst (ns.map V.int))) else none) (λb=>?_) (.inl (.inr ⟨{ cls:=.type "list", data:=.seq vs.toArray },Ql rfl⟩)) (λb u z=>?_) (λb z=>?_) λ_=>hk
  ·by_cases hb:b=a
   ·exact .inr ⟨_,_,Ql hb⟩
   ·exact .inl (Qs hb)
  ·by_cases hb:b=a
   ·have z':=(Ql hb).symm.trans z
    cases z';subst hb
    exact ⟨ha,by rw[Qb];exact hl,vs,_,rv,ha⟩
   ·have z':=(Qs hb).symm.trans z
    cases z'
  ·by_cases hb:b=a
   ·exact hb
   ·exact absurd (Qs hb) z
def Py(s:Stmt):Arguments:=match s with
 |.FunctionDef _ a _ _ _ _ _ _ _ _=>a
 |_=>{ posonlyargs:=[],args:=[],vararg:=none,kwonlyargs:=[],kw_defaults:=[],kwarg:=none,defaults:=[] }
def T9(s:Stmt):List Stmt:=match s with
 |.FunctionDef _ _ b _ _ _ _ _ _ _=>b
 |_=>[]
def Kv(s:Stmt):Scope:=match s with
 |.FunctionDef _ _ _ _ _ _ sc _ _ _=>sc
 |_=>{ kind:=.function,names:=[],isGenerator:=false,isCoroutine:=false }
abbrev CX0:CXT:=λ_ _ _ _ _ _=>False
abbrev E0:XK:=λ_ _ _=>False
theorem Lu{X:Cx}:NR CX0 X E0:=λ_ _ _ _ _ _ _ h=>h.elim
structure Fun(K:Frag)(x qual:Str)(st:Stmt)(f:UB)(fd:UC):Prop where
 ex:∃(oc:Uy)(od:Option UB)(kV doc pm:Uy)(an:Option UB)(cdv ct:Uy)(osl:Array (Option Uy)),
  fd=PySem.W.fnOf x qual (Py st) (T9 st) (Kv st) .none kV doc pm an cdv ct/\K.lookup f=some ⟨oc,od,.func fd,osl⟩/\PySem.W.codeIn K cdv qual=true
 kp:PySem.W.keepIn K (.ref f)=true
section
variable{P:UA}{w:World}{K:Frag}{mg:Str->Option Uy}{base:Heap}
theorem Fun.ok{x qual:Str}{st:Stmt}{f:UB}{fd:UC}{N ps:List Str}{k:Nat}{sp:Sp}(F:Fun K x qual st f fd)(S:Og N ps (Kv st))(len:∀vs H Q E,sp vs H Q E->vs.length=ps.length)
  (hbody:∀(cdv:Uy)(A:Around)(outer:List Env)(s:Uz)(H:Hp)(vs:List V)(Q:VK)(E:XK),Room k (A.deeper (envOfC qual (Kv st) s.heap.objs.size f cdv))->sp vs H Q E ->
   ∃t,PSs (X2 CX0 P w K mg base N qual (Kv st) f cdv A outer s H E).nox (T9 st) t/\t { nx:=λ_ H'=>Q .non H',rt:=Q } (WY N vs) H):FnOk P w K mg base CX0 (k+1) f fd ps sp:=by
 obtain ⟨oc,od,kV,doc,pm,an,cdv,ct,osl,rfl,lk,hcd⟩:=F.ex;refine DG lk hcd S len λA outer s H vs Q E hr hsp=>?_;obtain ⟨t,h,q⟩:=hbody cdv A outer s H vs Q E hr hsp;exact ⟨t,h.nox,q⟩
theorem Fun.binds{x qual:Str}{st:Stmt}{f:UB}{fd:UC}{ps:List Str}(F:Fun K x qual st f fd)
  (h:∀(kV doc pm:Uy)(an:Option UB)(cdv ct:Uy)(us:List Uy),us.length=ps.length->bindArgs (PySem.W.fnOf x qual (Py st) (T9 st) (Kv st) .none kV doc pm an cdv ct) ⟨us,[]⟩=pure (ps.zip us)):TU K fd ps []:=by
 obtain ⟨oc,od,kV,doc,pm,an,cdv,ct,osl,rfl,lk,hcd⟩:=F.ex;exact .all (h kV doc pm an cdv ct)
end
section
variable{X:Cx}
end
def Same(H H':Hp):Prop:=∀b o,H b=some o->H' b=some o
theorem Same.refl(H:Hp):Same H H:=λ_ _ h=>h
theorem Same.trans{H H1 H2:Hp}(a:Same H H1)(b:Same H1 H2):Same H H2:=λc o h=>b c o (a c o h)
theorem Same.free{H H':Hp}(e:Same H H'){l:UB}(h:H' l=Option.none):H l=Option.none:=by
 cases q:H l with
 |none=>rfl
 |some o=>
  rw[e l o q] at h;cases h
theorem Same.seq{K:Frag}{H H':Hp}{a:UB}{xs:List V}(e:Same H H')(h:SqL K H a xs):SqL K H' a xs:=by
 rcases h with (h|⟨o,h⟩)|h
 ·exact .inl (.inl (e _ _ h))
 ·exact .inl (.inr ⟨o,e _ _ h⟩)
 ·exact .inr h
section
variable{X:Cx}{pins:List (UB×Obj)}{σ:St}{H:Hp}{s:Uz}{h':Heap}
theorem Inv.turnedNew{t':Nat}{fp:List UB}{p:UB}{o:HO}(I:Inv X pins σ H s)(hf:∀b∈fp,Yp X pins H b)
  (k:∀b o,b∉fp->s.heap.get? b=some o->h'.get? b=some o) (hp:s.heap.objs.size<=p) (new:Y4 X.prog X.w (upd H p o) h' p o) :
  Inv X pins σ (upd H p o) { s with heap:=h',toks:=t' }:=by
 have hn:H p=none:=I.hok.fresh hp;have trk:∀b u,H b=some u->b∉fp:=λb u e z=>by rw[(hf b z).1] at e;cases e
 refine I.step (g':=s.gens) (d':=s.drawn) (ch:=fp) (λb hb=>?_) (λb o _ _ hc e _=>k b o hc e) (λb o _ _ hc e _=>⟨o.slots,k b o hc e⟩)
  (λb o _ e n=>by rw[ZA (QR (QI (Qi e) hp))];exact n) (λb o hc e=>⟨o,k b o hc e⟩)
  (λb xs e=>by rw[ZA (Wl e hn)];exact e) (λb ob u e=>by rw[ZA (Wl e hn)];exact e) (λb ps e=>⟨#[],by rw[ZA (Wl e hn),e];simp⟩)
  (λm hm=>?_) (λb u e=>?_) I.bare
 ·obtain ⟨_,f1,_,f3,f4,f5⟩:=hf b hb
  exact ⟨f3,f1,f4,f5⟩
 ·obtain ⟨ob,es,ep,ho,r⟩:=hm
  exact ⟨ob,es,ep,k _ ob (λz=>(hf _ z).2.1 rfl) ho,r⟩
 ·by_cases hb:b=p
  ·subst hb;rw[Yx] at e;cases e;exact new
  ·rw[ZA hb] at e
   refine (I.hok b u e).stay (λc v hc q=>k c v ?_ q) (λc q=>by rw[ZA (Wl q hn)];exact q) λc xs q=>by rw[ZA (Wl q hn)];exact q
   rcases hc with z|z
   ·rw[z];exact trk b u e
   ·exact trk c _ z
theorem Inv.turnedL{t':Nat}{fp:List UB}(I:Inv X pins σ H s)(hf:∀b∈fp,Yp X pins H b)
  (k:∀b o,b∉fp->s.heap.get? b=some o->h'.get? b=some o):Inv X pins σ H { s with heap:=h',toks:=t' }:=by
 have trk:∀b u,H b=some u->b∉fp:=λb u e z=>by rw[(hf b z).1] at e;cases e
 refine I.step (g':=s.gens) (d':=s.drawn) (ch:=fp) (λb hb=>?_) (λb o _ _ hc e _=>k b o hc e) (λb o _ _ hc e _=>⟨o.slots,k b o hc e⟩)
  (λ_ _ _ _ n=>n) (λb o hc e=>⟨o,k b o hc e⟩) (λ_ _ e=>e) (λ_ _ _ e=>e) (λb ps e=>⟨#[],by rw[e];simp⟩) (λm hm=>?_) (λb u e=>?_) I.bare
 ·obtain ⟨_,f1,_,f3,f4,f5⟩:=hf b hb
  exact ⟨f3,f1,f4,f5⟩
 ·obtain ⟨ob,es,ep,ho,r⟩:=hm
  exact ⟨ob,es,ep,k _ ob (λz=>(hf _ z).2.1 rfl) ho,r⟩
 ·refine (I.hok b u e).stay (λc v hc q=>k c v ?_ q) (λc q=>q) λc xs q=>q
  rcases hc with z|z
  ·rw[z];exact trk b u e
  ·exact trk c _ z
end
def Ite(K:Frag)(a:UB):It :=
 ⟨λi H=>∃xs x,SqL K H a xs/\xs[i]?=some x,
  λi H v H'=>∃p x,H p=none/\v=.ref p/\(∀xs,SqL K H a xs->xs[i]?=some x)/\H'=upd H p (.tup [.int i,x]),
  λi H=>∃xs,SqL K H a xs/\xs.length<=i⟩
theorem qz{P:UA}{w:World}{K:Frag}{elts:List UD}{x1}{tp:Pos}(a e it:UB)(hne:e≠it) :
  Turn P w K (.Tuple elts x1 tp) (Ite K a) [e,it] e (λi h=>(∃old,IsEnum h e it i old)/\h.IsListIter it a i) where
 mem:=by simp
 obj:=λi h st b hb=>by
  obtain ⟨⟨old,he⟩,o,ho,c,d⟩:=st;have hb':b=e∨b=it:=by simpa using hb
  rcases hb' with rfl|rfl
  ·exact ⟨_,he,λv z=>by
    have z':Data.fields _=Data.cell v:=z;cases z'⟩
  ·exact ⟨o,ho,λv z=>by rw[d] at z;cases z⟩
 keep:=λi h h' st k=>by
  obtain ⟨⟨old,he⟩,hi⟩:=st;exact ⟨⟨old,k e (by simp) _ he⟩,hi.at λo q=>k it (by simp) o q⟩
 item:=by
  intro X hP hw hK hc i pins s σ H E I hf st hg;subst hP hw hK;obtain ⟨⟨old,he⟩,hi⟩:=st;obtain ⟨xs,x,hq,hx⟩:=hg;obtain ⟨its,rv,p,hz⟩:=I.list hq;obtain ⟨u,hu,ru⟩:=rv.get hx;refine wpAny_pyNext_enum_item he hi p.isList (x:=u) (by simpa using hu) hne λh1 out hi1 ht hsz kk=>?_
  refine ⟨_,rfl,wpAny_letOwnedTupleGo_enum out λh2 he2 hs2=>?_⟩;have hel:e<s.heap.objs.size:=Qi he;have hs2':Heap.SameBut e h1 h2:=hs2
  have ht2:h2.get? s.heap.objs.size=some { cls:=.type "tuple", data:=.seq #[.int i s.toks,u] }:=(hs2'.2 _ (JW hel)).trans ht
  have kk2:∀b o,b∉[e,it]->s.heap.get? b=some o->h2.get? b=some o:=λb o hb q=>by
   have hbe:b≠e:=λz=>hb (by simp[z])
   have hbi:b≠it:=λz=>hb (by simp[z])
   exact (hs2'.2 b hbe).trans (kk b o hbe hbi q)
  have hn:H s.heap.objs.size=none:=I.hok.fresh (Qy _)
  have I2:Inv X pins σ (upd H s.heap.objs.size (.tup [.int i,x])) { s with heap:=h2,toks:=s.toks+1 } :=
   I.turnedNew (fp:=[e,it]) hf kk2 (Qy _) ⟨by show 2<=UE;decide,[.int i s.toks,u],.cons ⟨_,rfl⟩ (.cons ru .nil),⟨_,ht2,rfl,_,rfl⟩⟩
  refine ⟨.ref s.heap.objs.size,_,I2,rfl,⟨_,x,hn,rfl,λys hy=>by rw[I.list_inj hy hq];exact hx,rfl⟩,⟨⟨u,?_⟩,?_⟩,λb hb=>?_⟩
  ·have:=he2
   simpa using this
  ·have hi2:h2.IsListIter it a (i+1):=hi1.at λo q=>(hs2'.2 it (Ne.symm hne)).trans q
   exact hi2
  ·have fr:=(hf b hb)
   have hlt:b<s.heap.objs.size:=by
    have hb':b=e∨b=it:=by simpa using hb
    rcases hb' with rfl|rfl
    ·exact hel
    ·obtain ⟨o,ho,_⟩:=hi;exact Qi ho
   rw[ZA (QR hlt)];exact fr.1
 done:=by
  intro X hP hw hK hc i pins s σ H E I hf st hg;subst hP hw hK;obtain ⟨⟨old,he⟩,hi⟩:=st;obtain ⟨xs,hq,hx⟩:=hg;obtain ⟨its,rv,p,hz⟩:=I.list hq;have hl:=rv.length;exact wpAny_pyNext_enum_end (I.ok.hd hc) he hi p.isList (by simp;omega) λh' eb=>⟨rfl,I.turnedL (t':=s.toks) hf λb o hb q=>eb b o (λz=>hb (by simp[z])) q⟩
 self:=λ_ _ _ _ _ st h=>by
  obtain ⟨⟨old,he⟩,_⟩:=st;exact wpAny_pyIter_enum he h
section
variable{X:Cx}
def EU(K:Frag)(ta:TA):TI:=λσ H R=>ta σ H λvs H1=>∃a xs,vs=[.ref a]/\SqL K H1 a xs/\R (Ite K a) H1
theorem Br{a:UD}{ta:TA}{p pos:Pos}{elts:List UD}{x1}{tp:Pos}(hg:Gl X "enumerate")(hm:X.mg "enumerate" = none)(ha:PA X [a] ta)
  (hs:UG [a] X.env=[(false,eval a X.env)]:=by rfl):PI X (.Tuple elts x1 tp) (.Call (.Name "enumerate" p) [a] [] pos) (EU X.K ta):=by
 intro pins s σ H R I h;refine Call_ (T3 I hg hm boot_enumerate (JC (thn (ha pos pins s σ H _ I h) λus s1 ⟨vs,H1,I1,r1,q1⟩=>?_) hs rfl));obtain ⟨l,xs,e,hq,q⟩:=q1;subst e
 cases r1 with
 |cons r rr=>
  cases rr
  cases (show _=Value.ref l from r)
  obtain ⟨its,rv,pl,hz⟩:=I1.list hq;refine call_enumerate_list pl.isList λh' he hi hsz kk=>?_;have I2:Inv X pins σ H1 { s1 with heap:=h' }:=I1.kept (t':=s1.toks) kk;refine wpAny_pyIter_enum he ?_;refine ⟨s1.heap.objs.size+1,[s1.heap.objs.size+1,s1.heap.objs.size],_,_,H1,rfl,I2,qz l _ _ (Nat.succ_ne_self _),⟨⟨_,he⟩,hi⟩,λb hb=>?_,q⟩;have hb':b=s1.heap.objs.size+1∨b=s1.heap.objs.size:=by simpa using hb
  rcases hb' with rfl|rfl
  ·exact I1.fpOk (J7 _) (I1.hok.fresh (J7 _))
  ·exact I1.fpOk (Qy _) (I1.hok.fresh (Qy _))
end
section
variable{κ:Type}[DecidableEq κ]
end
section
variable{P:UA}{w:World}{H:Hp}{h:Heap}{a:UB}
end
section
variable{X:Cx}{pins:List (UB×Obj)}{σ:St}{H:Hp}{s:Uz}{a:UB}{y v:V}{u r:Uy}{o:Option V}{A:Around}{E:Uy->Uz->Prop}
end
section
variable{X:Cx}{pins:List (UB×Obj)}{σ:St}{H:Hp}{s:Uz}{a:UB}{kvs:List (Key×V)}{k:Key}{u:Uy}{A:Around}{E:Uy->Uz->Prop}
end
section
variable{X:Cx}{o i e value:UD}{pos pos' tpos:Pos}{td ty tv:TE}
end
section
variable{X:Cx}{pos:Pos}
end
end L2
namespace L2
open PySem PySem.Spec
def X5(bmB bm:List Uy):Prop:=∀(X:String)(b:Bool),bmB.contains (.type X)=b->bm.contains (.type X)=b
section
variable{prog:UA}{w:World}{A:Around}{E:Uy->Uz->Prop}{h:Heap}{g:Array GenState}{d:Drawn}{t:Nat}{os:OsState}{R:Result->Uz->Prop}
variable{nm q:Str}{C N:UB}{bs bm bmB:List Uy}{hdct:Bool}{sn:List Str}{sub:List Uy}{ab:Bool}{col:Option Bool}{dd:Option UB}{k0 k1 k2 k3 k5:Option Uy}{B newId initId:String}
end
def Y3(M:Model)(C:UB)(name:Str)(r:Option Uy)(h:Heap):Prop:=∀(A:Around)(E:Uy->Uz->Prop)(Q:Option Uy->Uz->Prop)(h':Heap)(g:Array GenState)(d:Drawn)(t:Nat)(os:OsState),
 (∀b o,h.get? b=some o->h'.get? b=some o)->Q r ⟨h',g,d,t,os⟩->UF M A (typeLookup (.ref C) name) Q E ⟨h',g,d,t,os⟩
theorem Y3.keeps{M:Model}{C:UB}{name:Str}{r:Option Uy}{h h':Heap}(x:Y3 M C name r h)(k:∀b o,h.get? b=some o->h'.get? b=some o):Y3 M C name r h' :=
 λA E Q h2 g d t os k2 q=>x A E Q h2 g d t os (λb o e=>k2 b o (k b o e)) q
theorem Y3.at{M:Model}{A:Around}{E:Uy->Uz->Prop}{Q:Option Uy->Uz->Prop}{C:UB}{name:Str}{r:Option Uy}{h:Heap}{g:Array GenState}{d:Drawn}{t:Nat}{os:OsState}(x:Y3 M C name r h)(q:Q r ⟨h,g,d,t,os⟩):UF M A (typeLookup (.ref C) name) Q E ⟨h,g,d,t,os⟩ :=
 x A E Q h g d t os (λ_ _ e=>e) q
section
variable{prog:UA}{w:World}{A:Around}{E:Uy->Uz->Prop}{h:Heap}{g:Array GenState}{d:Drawn}{t:Nat}{os:OsState}{R:Result->Uz->Prop}
variable{nm q:Str}{C N x:UB}{bs bm bmB:List Uy}{hdct:Bool}{sn:List Str}{sub:List Uy}{ab:Bool}{col:Option Bool}{dd:Option UB}{k0 k1 k2 k3 k5:Option Uy}{B newId sa owner:String}{mN mA:Str->Option Uy}{name:Str}{v:Uy}
theorem qy{M:Model}{o:Obj}{nameV:Uy}{Q:Unit->Uz->Prop}(T:X5 bmB bm)(hb:bmB.contains (.type "BaseException")=true)(hC:h.get? C=some (excClassObj nm q C N bs bm hdct sn sub ab col dd k0 k1 k2 k3 k5 newId))
  (hx:h.get? x=some o) (hc:o.cls=.ref C) (hq:Q () ⟨h,g,d,t,os⟩):UF M A (checkBuiltinCall "BaseException.__getattribute__" ⟨[.ref x,nameV],[]⟩) Q E ⟨h,g,d,t,os⟩:=by
 have hk:builtinKind "BaseException.__getattribute__" = some .slot:=by decide +kernel
 have hsplit:splitId "BaseException.__getattribute__" = some ("BaseException", "__getattribute__"):=by decide +kernel
 have hcB:(Value.ref C::bm).contains (.type "BaseException")=true:=by rw[List.contains_cons,T _ _ hb];rfl
 have ha:=PySem.F.args_bexc_ga (.ref x) nameV;simp only[checkBuiltinCall,hk,hsplit];refine Qf ?_
 ·unfold isInstance
  repeat (first|(with_reducible refine QM hx ?_;rw[hc])|(with_reducible refine Js hC ?_;rw[hcB])|wp_step)
  exact hq
end
section
variable{M:Model}{A:Around}{E:Uy->Uz->Prop}{s:Uz}{base:Heap}{env:Env}{outer:List Env}{L e:UB}
end
end L2
namespace L2
open PySem PySem.Spec PyProof.Rows PySem.Calls PyProof.V
def XO(fr:Bool)(e C:UB)(dd:Option UB):Heap->Prop:=λh=>∃vs sl,h.get? e=some { cls:=.ref C,dict:=dd,data:=.fields vs,slots:=sl }/\(fr=true->vs[1]?=some .none/\∃t0,vs[0]?=some (.ref t0))
section
variable{X:Cx}{pins:List (UB×Obj)}{σ:St}{H:Hp}{s:Uz}{e C:UB}{dd:Option UB}{h':Heap}
end
abbrev VB:List Uy:=[.type "ValueError", .type "Exception", .type "BaseException", .type "object"]
structure XCls(M:Model)(base:Heap)(C:UB)(bm:List Uy)(fI:UB):Prop where
 obj:∃nm q N bs sn sub ab col dd k0 k1 k2 k3 k5,base.get? C=some (excClassObj nm q C N bs bm true sn sub ab col dd k0 k1 k2 k3 k5 "ValueError.__new__")
 tail:X5 VB bm
 init:Y3 M C "__init__" (some (.ref fI)) base
 fn:∃o,base.get? fI=some o/\o.cls=.type "function"
 sa:Y3 M C "__setattr__" (some (.builtin "object.__setattr__")) base
 ga:Y3 M C "__getattribute__" (some (.builtin "BaseException.__getattribute__")) base
 gh:Y3 M C "__getattr__" none base
 cl:Y3 M C "__class__" (some (.builtin "object.__class__")) base
 pass:∀v,refuseLoop v "__setattr__" bm=pure ()
section
variable{X:Cx}{k:Nat}{f C:UB}{fd:UC}{ps:List Str}{sp:Sp}{x:Str}{p pos cpos:Pos}{e:UD}{es:List UD}{t:TA}{bm:List Uy}
end
section
variable{M:Model}{A:Around}{E:Uy->Uz->Prop}{h:Heap}{g:Array GenState}{d:Drawn}{t:Nat}{os:OsState}
variable{nm q nm' q':Str}{C N D N' a:UB}{bs bm bs' bm':List Uy}{hdct hdct':Bool}{sn sn':List Str}{sub sub':List Uy}{ab ab':Bool}{col col':Option Bool}{dd dd':Option UB}{k0 k1 k2 k3 k5 j0 j1 j2 j3 j5:Option Uy}{newId newId':String}
end
section
variable{X:Cx}{k:Nat}{f:UB}{fd:UC}{ps:List Str}{sp:Sp}{x n:Str}{p pos np hpos:Pos}{e:UD}{es:List UD}{t:TA}{KX:V->St->Hp->Prop}
end
section
variable{prog:UA}{w:World}{A:Around}{E:Uy->Uz->Prop}{h:Heap}{g:Array GenState}{d:Drawn}{t:Nat}{os:OsState}
variable{nm q:Str}{C N a:UB}{bs bm bmB:List Uy}{hdct:Bool}{sn:List Str}{sub:List Uy}{ab:Bool}{col:Option Bool}{dd:Option UB}{k0 k1 k2 k3 k5:Option Uy}{B newId initId nid:String}
end
section
variable{X:Cx}{k:Nat}{f D:UB}{fd:UC}{ps:List Str}{sp:Sp}{x:Str}{p pos apos:Pos}{e:UD}{es:List UD}{t:TA}
end
section
variable{X:Cx}{k:Nat}{f D:UB}{fd:UC}{ps:List Str}{sp:Sp}{x m:Str}{p pos apos:Pos}{e:UD}{es:List UD}{t:TA}
end
def XD(dx:UB)(fs:List (Str×V)):Heap->Prop:=λh=>∃mA,h.Ns1 dx mA/\h.ExactDictFk dx/\(∀f,RY (fs.lookup f) (mA f))/\PySem.Within mA (fs.map (·.1))
section
variable{X:Cx}{pins:List (UB×Obj)}{σ:St}{H:Hp}{s:Uz}{a C dx:UB}{h':Heap}{t':Nat}
end
section
variable{X:Cx}{o value:UD}{f:Str}{pos pos':Pos}{ta tv:TE}{KC:UB->List Uy->Prop}
end
section
variable{X:Cx}{value:UD}{te:TE}{pos:Pos}
end
section
variable{X:Cx}{e:UD}{f:Str}{pos:Pos}{ta:TE}{KC:UB->List Uy->Prop}
end
end L2
namespace L2
open PySem PySem.Spec
section
variable{prog:UA}{w:World}{A:Around}{E:Uy->Uz->Prop}{h:Heap}{g:Array GenState}{d:Drawn}{t:Nat}{os:OsState}{R:Result->Uz->Prop}
variable{nm q:Str}{C N a:UB}{bs bm bmB:List Uy}{hdct:Bool}{sn:List Str}{sub:List Uy}{ab:Bool}{col:Option Bool}{dd:Option UB}{k0 k1 k2 k3 k5:Option Uy}{newId:String}{o:Obj}
theorem ji(T:X5 bmB bm)(ho:bmB.contains (.type "object")=true)(hC:h.get? C=some (excClassObj nm q C N bs bm hdct sn sub ab col dd k0 k1 k2 k3 k5 newId))(hx:h.get? a=some o)(hc:o.cls=.ref C)(hq:R (.ok (.ret (.ref C))) ⟨h,g,d,t,os⟩) :
  codeAny (model prog w) A (.call (.builtin "getset_descriptor.__get__") ⟨[.builtin "object.__class__", .ref a,.ref C],[]⟩) R ⟨h,g,d,t,os⟩:=by
 have hT5:(⟨h,g,d,t,os⟩:Uz).TypeIs (.builtin "object.__class__") "getset_descriptor" := PySem.F.typeOf_object_class
 have hcB:(Value.ref C::bm).contains (.type (".".intercalate ("object.__class__".cutAt '.').dropLast))=true:=by
  rw[PySem.F.owner_object_class,List.contains_cons,T _ _ ho];rfl
 refine codeAny_call_builtin PySem.F.slot_gs_get.plain PySem.F.entry_gs_get (PySem.F.slot_gs_get.check _ _ _ _ _ _ _ _ hT5 (PySem.F.args_gs_get _ _ _) ?_)
 repeat (any_goals (first|assumption|(with_reducible refine QM hx ?_;rw[hc])|(with_reducible refine Js hC ?_;rw[hcB])|wp_step))
 refine ⟨Code.quiet_builtin _ (by decide +kernel),JI PySem.F.entry_object_class ?_⟩
 unfold Builtin.«object.__class__»
 repeat (any_goals (first|assumption|(with_reducible refine QM hx ?_;rw[hc])|wp_step))
theorem kH{tk:Tok}{Q:PySem.Fin->Uz->Prop}(T:X5 bmB bm)(ho:bmB.contains (.type "object")=true)(hC:h.get? C=some (excClassObj nm q C N bs bm hdct sn sub ab col dd k0 k1 k2 k3 k5 newId))(fc:Y3 (model prog w) C "__class__" (some (.builtin "object.__class__")) h)(hx:h.get? a=some o)(hc:o.cls=.ref C)(hq:Q (.done (.ret (.ref C))) ⟨h,g,d,t,os⟩) :
  UF (model prog w) A (Builtin.«object.__getattribute__» ⟨[.ref a,.str "__class__" tk],[]⟩) Q E ⟨h,g,d,t,os⟩:=by
 have hT5:(⟨h,g,d,t,os⟩:Uz).TypeIs (.builtin "object.__class__") "getset_descriptor" := PySem.F.typeOf_object_class
 have f5:=PySem.F.typeOf_object_class;have f6:=PySem.F.slot_gs_get.lookup;have f7:=PySem.F.slot_gs_set.lookup
 repeat (any_goals (first|assumption|(with_reducible refine QM hx ?_;rw[hc])|with_reducible refine fc.at ?_|wp_step))
 refine ji T ho hC hx hc ?_
 repeat (any_goals (first|assumption|wp_step))
theorem F9{Q:Option Uy->Uz->Prop}(FB:ExcAttrFacts "ValueError")(T:X5 VB bm)(hC:h.get? C=some (excClassObj nm q C N bs bm hdct sn sub ab col dd k0 k1 k2 k3 k5 newId))(fc:Y3 (model prog w) C "__class__" (some (.builtin "object.__class__")) h)
  (fg:Y3 (model prog w) C "__getattribute__" (some (.builtin "BaseException.__getattribute__")) h) (fa:Y3 (model prog w) C "__getattr__" none h) (hx:h.get? a=some o) (hc:o.cls=.ref C) (hq:Q (some (.ref C)) ⟨h,g,d,t+1,os⟩) :
  UF (model prog w) A (getAttr? (.ref a) "__class__") Q E ⟨h,g,d,t,os⟩:=by
 have f3:=FB.ga.bind (.ref a)
 have hx0:(false&&onTheHeap (Value.builtin "BaseException.__getattribute__"))=false:=rfl
 have hx2:(Value.builtin "BaseException.__getattribute__" == Value.builtin "object.__getattribute__")=false:=by decide +kernel
 have hx1:(onTheHeap (Value.ref C)&&Value.builtin "BaseException.__getattribute__" == Value.builtin "object.__getattribute__")=false:=by rw[hx2];rfl
 unfold getAttr? getAttrBy?;refine Qf (wpAny_mkText (Qf (wpAny_attempt ?_)))
 repeat (any_goals (first|assumption|(with_reducible refine QM hx ?_;rw[hc])|with_reducible refine fg.at ?_|with_reducible refine fa.at ?_|wp_step))
 refine codeAny_call_builtin FB.ga.plain PySem.F.entry_bexc_ga (qy T rfl hC hx hc (kH T rfl hC fc hx hc ?_))
 repeat (any_goals (first|assumption|wp_step))
end
end L2
namespace L2
open PySem PySem.Spec PyProof.Rows
section
variable{prog:UA}{w:World}{A:Around}{E:Uy->Uz->Prop}{h:Heap}{g:Array GenState}{d:Drawn}{t:Nat}{os:OsState}
variable{nm q nm' q':Str}{C N D N' a:UB}{bs bm bs' bm':List Uy}{hdct hdct':Bool}{sn sn':List Str}{sub sub':List Uy}{ab ab':Bool}{col col':Option Bool}{dd dd':Option UB}{k0 k1 k2 k3 k5 j0 j1 j2 j3 j5:Option Uy}{newId newId':String}{o:Obj}{b:Bool}
theorem Bq{Q:Uy->Uz->Prop}(T:X5 VB bm)(hC:h.get? C=some (excClassObj nm q C N bs bm hdct sn sub ab col dd k0 k1 k2 k3 k5 newId))(hD:h.get? D=some (excClassObj nm' q' D N' bs' bm' hdct' sn' sub' ab' col' dd' j0 j1 j2 j3 j5 newId'))
  (fc:Y3 (model prog w) C "__class__" (some (.builtin "object.__class__")) h) (fg:Y3 (model prog w) C "__getattribute__" (some (.builtin "BaseException.__getattribute__")) h) (fa:Y3 (model prog w) C "__getattr__" none h)
  (hx:h.get? a=some o) (hc:o.cls=.ref C) (hb:(Value.ref C::bm).contains (.ref D)=b) (hq:∀tk,Q (.bool b) ⟨h,g,d,tk,os⟩):UF (model prog w) A (call (.builtin "isinstance") [.ref a,.ref D]) Q E ⟨h,g,d,t,os⟩:=by
 have hT:(⟨h,g,d,t,os⟩:Uz).TypeIs (.ref D) "type" := ⟨_,hD,rfl⟩
 have f2:=tc_sub;refine call_isinstance_of ?_ (λz=>nomatch z);unfold Builtin.«isinstance.nested»;refine Qf ?_;unfold typeOf;refine Qf (QM hx (Qo ?_));rw[hc]
 by_cases e:C=D
 ·subst e
  have hb1:b=true:=by rw[←hb];simp
  subst hb1;rw[if_pos (by simp)]
  exact Qf (wpAny_rule (Qo (hq t)))
 ·rw[if_neg (by simp[e])]
  refine Qf (Qf (QM hD (Qo ?_)))
  rw[Ql (show (Value.type "type" == Value.type "type")=true by decide)]
  k_delta "plainIsInstance"
  unfold isType isInstance
  repeat (first|(with_reducible refine QM hx ?_;rw[hc])|with_reducible refine QM hD ?_|with_reducible refine QM hC ?_|(with_reducible refine Js hC ?_;rw[hb])|wp_step)
  cases b with
  |true=>wp_walk;exact hq t
  |false=>
   rw[Qs (by decide)]
   refine Qf (F9 PySem.F.excAttr_ValueError T hC fc fg fa hx hc ?_)
   repeat (first|with_reducible refine QM hC ?_|(with_reducible refine Js hC ?_;rw[hb])|wp_step)
   exact hq _
theorem CF{Q:Uy->Uz->Prop}{X:String}(T:X5 VB bm)(hC:h.get? C=some (excClassObj nm q C N bs bm hdct sn sub ab col dd k0 k1 k2 k3 k5 newId))(hX:typeOf (.type X)=pure (.type "type"))
  (fc:Y3 (model prog w) C "__class__" (some (.builtin "object.__class__")) h) (fg:Y3 (model prog w) C "__getattribute__" (some (.builtin "BaseException.__getattribute__")) h) (fa:Y3 (model prog w) C "__getattr__" none h)
  (hx:h.get? a=some o) (hc:o.cls=.ref C) (hb:(Value.ref C::bm).contains (.type X)=b) (hq:∀tk,Q (.bool b) ⟨h,g,d,tk,os⟩):UF (model prog w) A (call (.builtin "isinstance") [.ref a,.type X]) Q E ⟨h,g,d,t,os⟩:=by
 refine call_isinstance_of ?_ (λz=>nomatch z);unfold Builtin.«isinstance.nested»;refine Qf ?_
 have ty:∀{M:Model}{A:Around}{Q:Uy->Uz->Prop}{E:Uy->Uz->Prop},Q (.ref C) ⟨h,g,d,t,os⟩->UF M A (typeOf (.ref a)) Q E ⟨h,g,d,t,os⟩:=λq=>by
  unfold typeOf;refine Qf (QM hx (Qo ?_));rw[hc];exact q
 refine ty ?_;rw[if_neg (by simp)]
 refine Qf (wpAny_of_eq hX ?_)
 rw[Ql (show (Value.type "type" == Value.type "type")=true by decide)]
 k_delta "plainIsInstance"
 unfold isType isInstance
 repeat (first|(with_reducible refine QM hx ?_;rw[hc])|with_reducible refine QM hC ?_|(with_reducible refine Js hC ?_;rw[hb])|wp_step)
 cases b with
 |true=>wp_walk;exact hq t
 |false=>
  rw[Qs (by decide)]
  refine Qf (F9 PySem.F.excAttr_ValueError T hC fc fg fa hx hc ?_)
  repeat (first|with_reducible refine QM hC ?_|(with_reducible refine Js hC ?_;rw[hb])|wp_step)
  exact hq _
end
def rIsX(KC:UB->List Uy->Prop):List V->Hp->VK->Prop:=λxs H Q=>∃a C dd bm fr c b,xs=[.ref a,c]/\KC C bm/\H a=some (.ext (XO fr a C dd)) /\
 ((∃D bm',c=.ref D/\KC D bm'/\(Value.ref C::bm).contains (.ref D)=b) ∨ ∃T,c=.ty T/\typeOf (.type T)=pure (.type "type")/\(Value.ref C::bm).contains (.type T)=b)/\Q (.bl b) H
theorem AH{X:Cx}{KC:UB->List Uy->Prop}(hcls:∀C bm,KC C bm->∃fI,XCls (model X.prog X.w) X.base C bm fI):XJ X (.builtin "isinstance") (rIsX KC):=by
 rintro pins s σ H xs us Q I r ⟨a,C,dd,bm,fr,c,b,rfl,kc,hx,hD,q⟩
 cases r with
 |cons ra r=>
 cases r with
 |cons rc r=>
 cases r;have ra':_=Value.ref a:=ra
 subst ra';obtain ⟨fI,XC⟩:=hcls C bm kc;obtain ⟨nm,qn,N,bs,sn,sub,ab,col,dd1,k0,k1,k2,k3,k5,hC⟩:=XC.obj;obtain ⟨⟨vs,sl,ga,_⟩,_,_⟩:=I.hok a _ hx;obtain ⟨hp,g,d,tk,os⟩:=s;rcases hD with ⟨D,bm',rfl,kd,hb⟩|⟨T,rfl,hT,hb⟩
 ·have rc':_=Value.ref D:=rc
  subst rc';obtain ⟨fI',XD'⟩:=hcls D bm' kd;obtain ⟨nm',qn',N',bs',sn',sub',ab',col',dd2,j0,j1,j2,j3,j5,hD'⟩:=XD'.obj;exact Bq XC.tail (I.bk _ _ hC) (I.bk _ _ hD') (XC.cl.keeps I.bk) (XC.ga.keeps I.bk) (XC.gh.keeps I.bk) ga rfl hb λtk'=>⟨.bl b,H,I.tok tk',rfl,q⟩
 ·have rc':_=Value.type T:=rc
  subst rc';exact CF XC.tail (I.bk _ _ hC) hT (XC.cl.keeps I.bk) (XC.ga.keeps I.bk) (XC.gh.keeps I.bk) ga rfl hb λtk'=>⟨.bl b,H,I.tok tk',rfl,q⟩
def ET(nm:Str):List Str:=if nm = "NoWishes" then ["part", "number"] else if nm = "NoAim" then ["part"] else if nm = "NoText" then ["row"] else []
def Lr(K:Frag)(nm:Str):Option UB:=match PySem.W.nsIn K mainGlobals nm with|some (some (.ref C))=>some C|_=>none
def NmAt(K:Frag)(nm:Str)(C:UB):Prop:=∃o cd,K.lookup C=some o/\o.data=.cls cd/\cd.name=nm
structure ClsK(K:Frag)(nm:Str)(C:UB)(bm:List Uy):Prop where
 ad:Lr K nm=some C
 nmd:NmAt K nm C
 up:nm = "DealError" /\ bm=VB∨nm ≠ "DealError" /\ ∃D,Lr K "DealError" = some D/\bm=.ref D::VB/\NmAt K "DealError" D
 cls:∀(M:Model)(h:Heap),K.In h->∃fI,XCls M h C bm fI
 fld:∀(M:Model)(h:Heap),K.In h->∀f∈(["part", "number", "row"]:List Str),Y3 M C f none h
def KC(K:Frag):UB->List Uy->Prop:=λC bm=>∃nm,ClsK K nm C bm
section
variable{K:Frag}{nm x:Str}{C D:UB}{bm bm':List Uy}
theorem ClsK.ty(c:ClsK K nm C bm)(T:String):(Value.ref C::bm).contains (.type T)=VB.contains (.type T):=by
 rcases c.up with ⟨_,rfl⟩|⟨_,D',g,rfl,n⟩
 ·rfl
 ·rfl
end
section
variable{X:Cx}{e:UD}{st:Stmt}{sts:List Stmt}{t:TE}{ts:TS}
theorem ES(k:X.K.In X.base):∀C bm,KC X.K C bm->∃fI,XCls (model X.prog X.w) X.base C bm fI:=λ_ _ ⟨_,c⟩=>c.cls _ _ k
end
end L2
namespace DL
open PySem PySem.Spec L2
open PyProof.Rows hiding St
abbrev D:=PyData
abbrev XW:=V->St->Hp->Prop
abbrev KX0:XW:=λ_ _ _=>False
def XFs(G:Hp)(dd:Option UB)(fs:List Str)(vs:List V):Prop:=match dd with
 |none=>fs=[]/\vs=[]
 |some dx=>fs.length=vs.length/\G dx=some (.ext (XD dx (fs.zip vs)))
theorem XFs.mono{G G1:Hp}{dd:Option UB}{fs:List Str}{vs:List V}(e:Same G G1)(h:XFs G dd fs vs):XFs G1 dd fs vs:=by
 cases dd with
 |none=>exact h
 |some dx=>exact ⟨h.1,e _ _ h.2⟩
def kD:Key->D
 |.inl i=>.int i
 |.inr x=>.str x
def tkD(k:List Key):D:=.tuple (k.map kD)
def pdD(ks:List (List Key))(ds:List D):List (D×D):=(.bool true,.none)::(ks.map tkD).zip ds
mutual
inductive Rep(K:Frag)(G:Hp):V->D->Prop where
 |non:Rep K G .non .none
 |bl (b:Bool):Rep K G (.bl b) (.bool b)
 |int (i:Int):Rep K G (.int i) (.int i)
 |str (x:Str):Rep K G (.str x) (.str x)
 |lst {a:UB} {vs:List V} {ds:List D} (h:SqL K G a vs) (r:Reps K G vs ds):Rep K G (.ref a) (.list ds)
 |tup {a:UB} {vs:List V} {ds:List D} (h:SqT K G a vs) (r:Reps K G vs ds):Rep K G (.ref a) (.tuple ds)
 |dic {a:UB} (h:G a=some (.dK [])):Rep K G (.ref a) (.dict [])
 |exc {a C:UB} {dd:Option UB} {bm:List Uy} {nm:Str} {vs:List V} {ds:List D} (c:ClsK K nm C bm) (h:G a=some (.ext (XO false a C dd))) (hd:XFs G dd (ET nm) vs) (r:Reps K G vs ds):Rep K G (.ref a) (.dict [(.none,.tuple [.str nm,.list ds])])
 |dct {a:UB} {ks:List Key} {vs:List V} {ds:List D} {kvs:List (D×D)} (e:kvs=(ks.map kD).zip ds) (hne:ks≠[]) (hl:ks.length=ds.length) (h:G a=some (.dK (ks.zip vs))) (r:Reps K G vs ds):Rep K G (.ref a) (.dict kvs)
 |dtt {a:UB} {o:Obj} {ks:List (List Key)} {vs:List V} {ds:List D} {kvs:List (D×D)} (e:kvs=pdD ks ds) (hl:ks.length=ds.length) (h:G a=some (.frz o (.dT (ks.zip vs)))) (r:Reps K G vs ds):Rep K G (.ref a) (.dict kvs)
inductive Reps(K:Frag)(G:Hp):List V->List D->Prop where
 |nil:Reps K G [] []
 |cons {v:V} {d:D} {vs:List V} {ds:List D} (h:Rep K G v d) (t:Reps K G vs ds):Reps K G (v::vs) (d::ds)
end
variable{K:Frag}{B G0 G G1 G2 H H1 H2:Hp}
theorem We{a:UB}{xs:List V}(e:Same G G1)(h:SqT K G a xs):SqT K G1 a xs:=by
 rcases h with (h|⟨o,h⟩)|h
 ·exact .inl (.inl (e _ _ h))
 ·exact .inl (.inr ⟨o,e _ _ h⟩)
 ·exact .inr h
mutual
theorem Rep.mono(e:Same G G1):∀{v:V}{d:D},Rep K G v d->Rep K G1 v d
 |_,_,.non=>.non
 |_,_,.bl b=>.bl b
 |_,_,.int i=>.int i
 |_,_,.str x=>.str x
 |_,_,.lst h r=>.lst (e.seq h) (Reps.mono e r)
 |_,_,.tup h r=>.tup (We e h) (Reps.mono e r)
 |_,_,.dic h=>.dic (e _ _ h)
 |_,_,.exc c h hd r=>.exc c (e _ _ h) (hd.mono e) (Reps.mono e r)
 |_,_,.dct z n l h r=>.dct z n l (e _ _ h) (Reps.mono e r)
 |_,_,.dtt z l h r=>.dtt z l (e _ _ h) (Reps.mono e r)
theorem Reps.mono(e:Same G G1):∀{vs:List V}{ds:List D},Reps K G vs ds->Reps K G1 vs ds
 |_,_,.nil=>.nil
 |_,_,.cons h t=>.cons (Rep.mono e h) (Reps.mono e t)
end
section
variable{v:V}{vs ws:List V}{ds es:List D}
theorem Rep.bl_inv{b:Bool}(h:Rep K G v (.bool b)):v=.bl b:=by cases h;rfl
theorem Rep.int_inv{i:Int}(h:Rep K G v (.int i)):v=.int i:=by cases h;rfl
theorem Rep.str_inv{x:Str}(h:Rep K G v (.str x)):v=.str x:=by cases h;rfl
theorem Rep.lst_inv(h:Rep K G v (.list ds)):∃a vs,v=.ref a/\SqL K G a vs/\Reps K G vs ds:=by
 cases h with
 |lst h r=>exact ⟨_,_,rfl,h,r⟩
theorem Rep.tup_inv(h:Rep K G v (.tuple ds)):∃a vs,v=.ref a/\SqT K G a vs/\Reps K G vs ds:=by
 cases h with
 |tup h r=>exact ⟨_,_,rfl,h,r⟩
theorem Reps.length:∀{vs:List V}{ds:List D},Reps K G vs ds->vs.length=ds.length
 |_,_,.nil=>rfl
 |_,_,.cons _ t=>by rw[QF,QF,Reps.length t]
theorem Reps.get:∀{vs:List V}{ds:List D}{i:Nat}{d:D},Reps K G vs ds->ds[i]?=some d->∃v,vs[i]?=some v/\Rep K G v d
 |_,_,_,_,.nil,e=>by simp at e
 |_,_,0,_,.cons h _,e=>by simp at e;subst e;exact ⟨_,rfl,h⟩
 |_,_,i+1,d,.cons _ t,e=>by
  obtain ⟨u,h1,h2⟩:=Reps.get (i:=i) (d:=d) t (by simpa using e)
  exact ⟨u,by simpa using h1,h2⟩
theorem Reps.append:∀{vs ws:List V}{ds es:List D},Reps K G vs ds->Reps K G ws es->Reps K G (vs++ws) (ds++es)
 |_,_,_,_,.nil,s=>s
 |_,_,_,_,.cons r t,s=>.cons r (Reps.append t s)
theorem Reps.take:∀{vs:List V}{ds:List D}(n:Nat),Reps K G vs ds->Reps K G (vs.take n) (ds.take n)
 |_,_,0,_=>by rw[J4,J4];exact .nil
 |_,_,_+1,.nil=>.nil
 |_,_,n+1,.cons r t=>.cons r (Reps.take n t)
theorem Reps.drop:∀{vs:List V}{ds:List D}(n:Nat),Reps K G vs ds->Reps K G (vs.drop n) (ds.drop n)
 |_,_,0,r=>r
 |_,_,_+1,.nil=>.nil
 |_,_,n+1,.cons _ t=>Reps.drop n t
theorem Reps.reverse:∀{vs:List V}{ds:List D},Reps K G vs ds->Reps K G vs.reverse ds.reverse
 |_,_,.nil=>.nil
 |_,_,.cons r t=>by rw[List.reverse_cons,List.reverse_cons];exact Reps.append (Reps.reverse t) (.cons r .nil)
theorem Reps.set{v:V}{d:D}(r:Rep K G v d):∀{vs:List V}{ds:List D}(i:Nat),Reps K G vs ds->Reps K G (vs.set i v) (ds.set i d)
 |_,_,_,.nil=>.nil
 |_,_,0,.cons _ t=>.cons r t
 |_,_,i+1,.cons q t=>.cons q (Reps.set r i t)
theorem Reps.ints:∀(ns:List Int),Reps K G (ns.map V.int) (ns.map int)
 |[]=>.nil
 |n::ns=>.cons (.int n) (Reps.ints ns)
end
inductive MO where
 |l (vs:List V)|k (kvs:List (Key×V))|t (kvs:List (List Key×V))
def MO.ho:MO->HO
 |.l vs=>.lst vs
 |.k kvs=>.dK kvs
 |.t kvs=>.dT kvs
structure Ext(G H G' H':Hp):Prop where
 h:Same H H'
 g:Same G G'
 gh:Same G' H'
 np:∀a(u:MO),H a=some u.ho->G a=none->G' a=none
theorem Ext.refl(e:Same G H):Ext G H G H:=⟨.refl _,.refl _,e,λ_ _ _ q=>q⟩
theorem Yw{p:UB}{o:HO}(h:H p=none):Same H (upd H p o):=λb u e=>by rw[ZA (Wl e h)];exact e
theorem Ext.new{p:UB}{o:HO}(e:Same G H)(h:H p=none):Ext G H (upd G p o) (upd H p o):=by
 have hg:G p=none:=e.free h;refine ⟨Yw h,Yw hg,λb u q=>?_,λa u q n=>?_⟩
 ·by_cases z:b=p
  ·subst z;rw[Yx] at q ⊢;exact q
  ·rw[ZA z] at q ⊢;exact e b u q
 ·rw[ZA (Wl q h)];exact n
theorem Ext.hid{p:UB}{o:HO}(e:Same G H)(h:H p=none):Ext G H G (upd H p o) :=
 ⟨Yw h,.refl _,e.trans (Yw h),λ_ _ _ n=>n⟩
inductive Pat where
 |leaf|lst (p:Pat)|tup (ps:List Pat)
mutual
inductive RepO(K:Frag)(G H:Hp):Pat->V->D->List UB->Prop where
 |leaf {v:V} {d:D} (r:Rep K G v d):RepO K G H .leaf v d []
 |lst {p:Pat} {a:UB} {vs:List V} {ds:List D} {fp:List UB} (h:H a=some (.lst vs)) (r:RepOl K G H p vs ds fp):RepO K G H (.lst p) (.ref a) (.list ds) (a::fp)
 |tup {ps:List Pat} {a:UB} {vs:List V} {ds:List D} {fp:List UB} (h:H a=some (.tup vs)) (r:RepOs K G H ps vs ds fp):RepO K G H (.tup ps) (.ref a) (.tuple ds) fp
inductive RepOl(K:Frag)(G H:Hp):Pat->List V->List D->List UB->Prop where
 |nil {p:Pat}:RepOl K G H p [] [] []
 |cons {p:Pat} {v:V} {d:D} {vs:List V} {ds:List D} {f1 f2:List UB} (h:RepO K G H p v d f1) (t:RepOl K G H p vs ds f2):RepOl K G H p (v::vs) (d::ds) (f1++f2)
inductive RepOs(K:Frag)(G H:Hp):List Pat->List V->List D->List UB->Prop where
 |nil:RepOs K G H [] [] [] []
 |cons {p:Pat} {ps:List Pat} {v:V} {d:D} {vs:List V} {ds:List D} {f1 f2:List UB} (h:RepO K G H p v d f1) (t:RepOs K G H ps vs ds f2):RepOs K G H (p::ps) (v::vs) (d::ds) (f1++f2)
end
mutual
theorem RepO.mono(sg:Same G G1)(sh:Same H H1):∀{p:Pat}{v:V}{d:D}{fp:List UB},RepO K G H p v d fp->RepO K G1 H1 p v d fp
 |_,_,_,_,.leaf r=>.leaf (r.mono sg)
 |_,_,_,_,.lst h r=>.lst (sh _ _ h) (RepOl.mono sg sh r)
 |_,_,_,_,.tup h r=>.tup (sh _ _ h) (RepOs.mono sg sh r)
theorem RepOl.mono(sg:Same G G1)(sh:Same H H1):∀{p:Pat}{v:List V}{d:List D}{fp:List UB},RepOl K G H p v d fp->RepOl K G1 H1 p v d fp
 |_,_,_,_,.nil=>.nil
 |_,_,_,_,.cons h t=>.cons (RepO.mono sg sh h) (RepOl.mono sg sh t)
theorem RepOs.mono(sg:Same G G1)(sh:Same H H1):∀{p:List Pat}{v:List V}{d:List D}{fp:List UB},RepOs K G H p v d fp->RepOs K G1 H1 p v d fp
 |_,_,_,_,.nil=>.nil
 |_,_,_,_,.cons h t=>.cons (RepO.mono sg sh h) (RepOs.mono sg sh t)
end
mutual
theorem RepO.upd{a:UB}{o:HO}(nt:∀vs,H a≠some (.tup vs)):∀{p:Pat}{v:V}{d:D}{fp:List UB},RepO K G H p v d fp->a∉fp->RepO K G (upd H a o) p v d fp
 |_,_,_,_,.leaf r,_=>.leaf r
 |_,_,_,_,.lst h r,n=>.lst (by rw[ZA (λz=>n (by rw[z];exact Qn))];exact h) (RepOl.upd nt r λz=>n (Qk _ z))
 |_,_,_,_,.tup h r,n=>.tup (by rw[ZA (λz=>by subst z;exact nt _ h)];exact h) (RepOs.upd nt r n)
theorem RepOl.upd{a:UB}{o:HO}(nt:∀vs,H a≠some (.tup vs)):∀{p:Pat}{v:List V}{d:List D}{fp:List UB},RepOl K G H p v d fp->a∉fp->RepOl K G (upd H a o) p v d fp
 |_,_,_,_,.nil,_=>.nil
 |_,_,_,_,.cons h t,n=>.cons (RepO.upd nt h λz=>n (Jf _ z)) (RepOl.upd nt t λz=>n (QL _ z))
theorem RepOs.upd{a:UB}{o:HO}(nt:∀vs,H a≠some (.tup vs)):∀{p:List Pat}{v:List V}{d:List D}{fp:List UB},RepOs K G H p v d fp->a∉fp->RepOs K G (upd H a o) p v d fp
 |_,_,_,_,.nil,_=>.nil
 |_,_,_,_,.cons h t,n=>.cons (RepO.upd nt h λz=>n (Jf _ z)) (RepOs.upd nt t λz=>n (QL _ z))
end
mutual
theorem RepO.rep(gh:Same G H):∀{p:Pat}{v:V}{d:D}{fp:List UB},RepO K G H p v d fp->Rep K H v d
 |_,_,_,_,.leaf r=>r.mono gh
 |_,_,_,_,.lst h r=>.lst (SqL.of h) (RepOl.rep gh r)
 |_,_,_,_,.tup h r=>.tup (SqT.of h) (RepOs.rep gh r)
theorem RepOl.rep(gh:Same G H):∀{p:Pat}{v:List V}{d:List D}{fp:List UB},RepOl K G H p v d fp->Reps K H v d
 |_,_,_,_,.nil=>.nil
 |_,_,_,_,.cons h t=>.cons (RepO.rep gh h) (RepOl.rep gh t)
theorem RepOs.rep(gh:Same G H):∀{p:List Pat}{v:List V}{d:List D}{fp:List UB},RepOs K G H p v d fp->Reps K H v d
 |_,_,_,_,.nil=>.nil
 |_,_,_,_,.cons h t=>.cons (RepO.rep gh h) (RepOs.rep gh t)
end
mutual
theorem RepO.isl:∀{p:Pat}{v:V}{d:D}{fp:List UB},RepO K G H p v d fp->∀a∈fp,∃vs,H a=some (.lst vs)
 |_,_,_,_,.leaf r,a,m=>by cases m
 |_,_,_,_,.lst h r,a,m=>by
  rcases Q0.mp m with rfl|m
  ·exact ⟨_,h⟩
  ·exact RepOl.isl r a m
 |_,_,_,_,.tup h r,a,m=>RepOs.isl r a m
theorem RepOl.isl:∀{p:Pat}{v:List V}{d:List D}{fp:List UB},RepOl K G H p v d fp->∀a∈fp,∃vs,H a=some (.lst vs)
 |_,_,_,_,.nil,a,m=>by cases m
 |_,_,_,_,.cons h t,a,m=>by
  rcases QW.mp m with m|m
  ·exact RepO.isl h a m
  ·exact RepOl.isl t a m
theorem RepOs.isl:∀{p:List Pat}{v:List V}{d:List D}{fp:List UB},RepOs K G H p v d fp->∀a∈fp,∃vs,H a=some (.lst vs)
 |_,_,_,_,.nil,a,m=>by cases m
 |_,_,_,_,.cons h t,a,m=>by
  rcases QW.mp m with m|m
  ·exact RepO.isl h a m
  ·exact RepOs.isl t a m
end
mutual
theorem RepO.uniq(sh:Same H H1):∀{p:Pat}{v:V}{d d':D}{fp fp':List UB},RepO K G H p v d fp->RepO K G1 H1 p v d' fp'->fp=fp'
 |_,_,_,_,_,_,.leaf _,.leaf _=>rfl
 |_,_,_,_,_,_,.lst h r,.lst h' r'=>by
  have e:=sh _ _ h;rw[h'] at e;cases e;rw[RepOl.uniq sh r r']
 |_,_,_,_,_,_,.tup h r,.tup h' r'=>by
  have e:=sh _ _ h;rw[h'] at e;cases e;exact RepOs.uniq sh r r'
theorem RepOl.uniq(sh:Same H H1):∀{p:Pat}{v:List V}{d d':List D}{fp fp':List UB},RepOl K G H p v d fp->RepOl K G1 H1 p v d' fp'->fp=fp'
 |_,_,_,_,_,_,.nil,.nil=>rfl
 |_,_,_,_,_,_,.cons h t,.cons h' t'=>by rw[RepO.uniq sh h h',RepOl.uniq sh t t']
theorem RepOs.uniq(sh:Same H H1):∀{p:List Pat}{v:List V}{d d':List D}{fp fp':List UB},RepOs K G H p v d fp->RepOs K G1 H1 p v d' fp'->fp=fp'
 |_,_,_,_,_,_,.nil,.nil=>rfl
 |_,_,_,_,_,_,.cons h t,.cons h' t'=>by rw[RepO.uniq sh h h',RepOs.uniq sh t t']
end
inductive Sl where
 |pub (d:D)|own (ds:List D)|deep (p:Pat) (d:D)
abbrev UR:=List (Option Sl)
def DpOk(K:Frag)(B G H:Hp)(σ:St)(Z:UR):Prop:=∃ω:UB->Nat,
 (∀(i:Nat) p d,Z[i]?=some (some (.deep p d))->∃v fp,σ[i]?=some (some v)/\RepO K G H p v d fp/\fp.Nodup/\∀a∈fp,B a=none/\G a=none/\ω a=i) /\
 (∀(i:Nat) ds a,Z[i]?=some (some (.own ds))->σ[i]?=some (some (.ref a))->ω a=i)
theorem DpOk.of{σ:St}{Z:UR}(h1:∀(i:Nat) p d,Z[i]?=some (some (.deep p d))->False)(h2:∀(i:Nat) ds,Z[i]?=some (some (.own ds))->False):DpOk K B G H σ Z :=
 ⟨λ_=>0,λi p d q=>(h1 i p d q).elim,λi ds a q=>(h2 i ds q).elim⟩
theorem DpOk.map{B1:Hp}{σ σ1:St}{Z Z1:UR}(k:DpOk K B G H σ Z)
  (h1:∀(i:Nat) p d,Z1[i]?=some (some (.deep p d))->Z[i]?=some (some (.deep p d))/\σ1[i]?=σ[i]?)
  (h2:∀(i:Nat) ds,Z1[i]?=some (some (.own ds))->∃es,Z[i]?=some (some (.own es))/\σ1[i]?=σ[i]?)
  (h3:∀(i:Nat) p d v fp,Z[i]?=some (some (.deep p d))->σ[i]?=some (some v)->RepO K G H p v d fp->(∀a∈fp,B a=none/\G a=none)->(∀(j:Nat) ds a,Z[j]?=some (some (.own ds))->σ[j]?=some (some (.ref a))->a∉fp)->RepO K G1 H1 p v d fp/\∀a∈fp,B1 a=none/\G1 a=none):DpOk K B1 G1 H1 σ1 Z1:=by
 obtain ⟨ω,k1,k2⟩:=k;refine ⟨ω,λi p d q=>?_,λi ds a q s=>?_⟩
 ·obtain ⟨q1,e1⟩:=h1 i p d q
  obtain ⟨v,fp,s,r,n,w⟩:=k1 i p d q1
  obtain ⟨r1,w1⟩:=h3 i p d v fp q1 s r (λa m=>⟨(w a m).1,(w a m).2.1⟩) λj ds a qj sj m=>by
   have z1:=k2 j ds a qj sj;have z2:=(w a m).2.2;rw[z1] at z2;subst z2;rw[q1] at qj;cases qj
  exact ⟨v,fp,by rw[e1];exact s,r1,n,λa m=>⟨(w1 a m).1,(w1 a m).2,(w a m).2.2⟩⟩
 ·obtain ⟨es,q1,e1⟩:=h2 i ds q
  rw[e1] at s;exact k2 i es a q1 s
structure EOk(K:Frag)(B G0 G H:Hp)(σ:St)(Z:UR):Prop where
 bh:Same B H
 gh:Same G H
 g0:Same G0 G
 np:∀a(u:MO),B a=some u.ho->G0 a=none->G a=none
 len:Z.length=σ.length
 pub:∀(i:Nat) d,Z[i]?=some (some (.pub d))->∃v,σ[i]?=some (some v)/\Rep K G v d
 own:∀(i:Nat) ds,Z[i]?=some (some (.own ds))->∃a vs,σ[i]?=some (some (.ref a))/\B a=none/\G a=none/\H a=some (.lst vs)/\Reps K G vs ds
 sep:∀(i j:Nat) a ds es,Z[i]?=some (some (.own ds))->Z[j]?=some (some (.own es))->σ[i]?=some (some (.ref a))->σ[j]?=some (some (.ref a))->i=j
 dp:DpOk K B G H σ Z
theorem EOk.ext{G' H':Hp}{σ:St}{Z:UR}(k:EOk K B G0 G H σ Z)(e:Ext G H G' H'):EOk K B G0 G' H' σ Z where
 bh:=k.bh.trans e.h
 gh:=e.gh
 g0:=k.g0.trans e.g
 np:=λa o q n=>e.np a o (k.bh a _ q) (k.np a o q n)
 len:=k.len
 pub:=λi d q=>let ⟨v,h1,h2⟩:=k.pub i d q;⟨v,h1,h2.mono e.g⟩
 own:=λi ds q=>let ⟨a,vs,h1,h2,h3,h4,h5⟩:=k.own i ds q;⟨a,vs,h1,h2,e.np a (.l _) h4 h3,e.h a _ h4,h5.mono e.g⟩
 sep:=k.sep
 dp:=k.dp.map (λ_ _ _ q=>⟨q,rfl⟩) (λ_ ds q=>⟨ds,q,rfl⟩) λi p d v fp q s r w n=>⟨r.mono e.g e.h,λa m=>let ⟨_,hl⟩:=r.isl a m;⟨(w a m).1,e.np a (.l _) hl (w a m).2⟩⟩
theorem EOk.publish{σ:St}{Z:UR}{i:Nat}{ds:List D}(k:EOk K B G0 G H σ Z)(h:Z[i]?=some (some (.own ds))) :
  ∃a G',σ[i]?=some (some (.ref a))/\Same G G'/\Rep K G' (.ref a) (.list ds)/\EOk K B G0 G' H σ (Z.set i (some (.pub (.list ds)))):=by
 obtain ⟨a,vs,h1,h2,h3,h4,h5⟩:=k.own i ds h;have sg:Same G (upd G a (.lst vs)):=Yw h3;have hr:Rep K (upd G a (.lst vs)) (.ref a) (.list ds):=.lst (SqL.of Yx) (h5.mono sg);refine ⟨a,upd G a (.lst vs),h1,sg,hr,⟨k.bh,λb u q=>?_,k.g0.trans sg,λb o q n=>?_,by rw[QY];exact k.len,λj d q=>?_,λj es q=>?_,λj l c es fs q1 q2 s1 s2=>?_,?_⟩⟩
 ·by_cases z:b=a
  ·subst z;rw[Yx] at q;cases q;exact h4
  ·rw[ZA z] at q;exact k.gh b u q
 ·have z:b≠a:=λz=>by subst z;rw[h2] at q;cases q
  rw[ZA z];exact k.np b o q n
 ·by_cases z:i=j
  ·subst z
   have hl:i<Z.length:=(Qg.mp h).1;rw[QJ hl] at q;cases q;exact ⟨.ref a,h1,hr⟩
  ·rw[Qu z] at q
   obtain ⟨v,g1,g2⟩:=k.pub j d q;exact ⟨v,g1,g2.mono sg⟩
 ·by_cases z:i=j
  ·subst z
   have hl:i<Z.length:=(Qg.mp h).1;rw[QJ hl] at q;cases q
  ·rw[Qu z] at q
   obtain ⟨b,ws,g1,g2,g3,g4,g5⟩:=k.own j es q;have zb:b≠a:=λe=>z (k.sep i j a ds es h q h1 (by rw[←e];exact g1))
   exact ⟨b,ws,g1,g2,by rw[ZA zb];exact g3,g4,g5.mono sg⟩
 ·have nz:∀{m:Nat}{ts:List D},(Z.set i (some (Sl.pub (.list ds))))[m]?=some (some (.own ts))->Z[m]?=some (some (.own ts)):=λ{m ts} q=>by
   by_cases z:i=m
   ·subst z
    have hl:i<Z.length:=(Qg.mp h).1;rw[QJ hl] at q;cases q
   ·rw[Qu z] at q;exact q
  exact k.sep j l c es fs (nz q1) (nz q2) s1 s2
 ·have hl:i<Z.length:=(Qg.mp h).1
  have nz:∀{m:Nat}{s:Sl},(Z.set i (some (Sl.pub (.list ds))))[m]?=some (some s)->(∃d,s=.pub d)∨Z[m]?=some (some s):=λ{m s} q=>by
   by_cases z:i=m
   ·subst z
    rw[QJ hl] at q;cases q;exact .inl ⟨_,rfl⟩
   ·rw[Qu z] at q;exact .inr q
  refine k.dp.map (λm p d q=>?_) (λm es q=>?_) λm p d v fp q s r w n=>⟨r.mono sg (.refl _),λb mb=>⟨(w b mb).1,?_⟩⟩
  ·rcases nz q with ⟨_,e⟩|q
   ·cases e
   ·exact ⟨q,rfl⟩
  ·rcases nz q with ⟨_,e⟩|q
   ·cases e
   ·exact ⟨es,q,rfl⟩
  ·rw[ZA (λz=>by subst z;exact n i ds b h h1 mb)];exact (w b mb).2
inductive Res(α:Type) where
 |ok (a:α) (Z:UR)|bad
abbrev M(α:Type):=UR->Res α
def U1{α:Type}(a:α):M α:=λZ=>.ok a Z
def Ks{α:Type}(o:Option α):M α:=λZ=>match o with|some a=>.ok a Z|none=>.bad
def Kr{α β:Type}(f:M α)(k:α->M β):M β:=λZ=>match f Z with | .ok a Z'=>k a Z' | .bad=>.bad
section
variable(K:Frag)(B G0:Hp)
def aft{α γ:Type}(R:Hp->γ->α->Prop)(r:Res α)(G:Hp)(σ:St)(Q:γ->Hp->Prop):Prop :=
 match r with
 |.ok d Z'=>∀v G' H',EOk K B G0 G' H' σ Z'->Same G G'->R G' v d->Q v H'
 |.bad=>False
def tM{α γ:Type}(R:Hp->γ->α->Prop)(f:M α):St->Hp->(γ->Hp->Prop)->Prop:=λσ H Q=>
 ∃G Z,EOk K B G0 G H σ Z/\aft K B G0 R (f Z) G σ Q
abbrev tD(f:M D):TE:=tM K B G0 (Rep K) f
abbrev tDs(f:M (List D)):TA:=tM K B G0 (Reps K) f
abbrev tBo(f:M Bool):TT:=tM K B G0 (λ_ b c=>b=c) f
abbrev tOi(f:M (Option Int)):TO:=tM K B G0 (λ_ b c=>b=c) f
end
section
variable{K:Frag}{B G0:Hp}{α β γ δ ε:Type}{R:Hp->γ->α->Prop}{S:Hp->δ->β->Prop}{T:Hp->ε->α->Prop}{σ:St}{H:Hp}
theorem aft.mono{r:Res α}{G G':Hp}{Q:γ->Hp->Prop}(e:Same G G')(h:aft K B G0 R r G σ Q):aft K B G0 R r G' σ Q:=by
 cases r with
 |ok d Z=>exact λv G2 H2 k s q=>h v G2 H2 k (e.trans s) q
 |bad=>exact h
theorem aft.done{d:α}{Z:UR}{G G' H H':Hp}{v:γ}{Q:γ->Hp->Prop}(h:aft K B G0 R (.ok d Z) G σ Q)(k:EOk K B G0 G H σ Z)(e:Ext G H G' H')(r:R G' v d):Q v H' :=
 h v G' H' (k.ext e) e.g r
theorem aft.now{d:α}{Z:UR}{G H:Hp}{v:γ}{Q:γ->Hp->Prop}(h:aft K B G0 R (.ok d Z) G σ Q)(k:EOk K B G0 G H σ Z)(r:R G v d):Q v H :=
 h v G H k (.refl _) r
theorem aft.opt{o:Option α}{Z:UR}{G:Hp}{Q:γ->Hp->Prop}(h:aft K B G0 R (Ks o Z) G σ Q):∃d,o=some d/\aft K B G0 R (.ok d Z) G σ Q:=by
 cases o with
 |none=>exact h.elim
 |some d=>exact ⟨d,rfl,h⟩
theorem tM.bind{f:M α}{k:α->M β}{Q:δ->Hp->Prop}(h:tM K B G0 S (Kr f k) σ H Q) :
  tM K B G0 R f σ H (λv H1=>∃G Z d,EOk K B G0 G H1 σ Z/\R G v d/\aft K B G0 S (k d Z) G σ Q):=by
 obtain ⟨G,Z,e,a⟩:=h;refine ⟨G,Z,e,?_⟩;unfold Kr at a
 cases q:f Z with
 |bad=>rw[q] at a;exact a.elim
 |ok d Z1=>
  rw[q] at a;exact λv G' H' e' s r=>⟨G',Z1,d,e',r,aft.mono s a⟩
theorem tM.bind2{α' γ':Type}{R':Hp->γ'->α'->Prop}{f:M α}{g:α->M α'}{k:α->α'->M β}{Q:δ->Hp->Prop}(mo:∀G G' v d,Same G G'->R G v d->R G' v d)
  (h:tM K B G0 S (Kr f λx=>Kr (g x) λy=>k x y) σ H Q) :
  tM K B G0 R f σ H (λv H1=>∃x,tM K B G0 R' (g x) σ H1 λu H2=>∃G Z y,EOk K B G0 G H2 σ Z/\R G v x/\R' G u y/\aft K B G0 S (k x y Z) G σ Q):=by
 obtain ⟨G,Z,e,a⟩:=tM.bind (R:=R) h;refine ⟨G,Z,e,?_⟩
 cases q:f Z with
 |bad=>rw[q] at a;exact a.elim
 |ok d Z1=>
  rw[q] at a;intro v G' H' e' s r;obtain ⟨G2,Z2,d2,e2,r2,a2⟩:=a v G' H' e' s r;refine ⟨d2,G2,Z2,e2,?_⟩;unfold Kr at a2
  cases q2:g d2 Z2 with
  |bad=>rw[q2] at a2;exact a2.elim
  |ok d3 Z3=>
   rw[q2] at a2;exact λu G3 H3 e3 s3 r3=>⟨G3,Z3,d3,e3,mo _ _ _ _ s3 r2,r3,aft.mono s3 a2⟩
end
theorem HH{K:Frag}(G G':Hp)(v:V)(d:D)(e:Same G G')(r:Rep K G v d):Rep K G' v d:=r.mono e
theorem tM.two{K:Frag}{B G0:Hp}{β δ:Type}{S:Hp->δ->β->Prop}{σ:St}{H:Hp}{f g:M D}{k:D->D->M β}{Q:δ->Hp->Prop}{P:V->V->Hp->Prop}
  (h:tM K B G0 S (Kr f λx=>Kr g λy=>k x y) σ H Q)
  (i:∀v u H2 G Z x y,EOk K B G0 G H2 σ Z->Rep K G v x->Rep K G u y->aft K B G0 S (k x y Z) G σ Q->P v u H2) :
  tD K B G0 f σ H (λv H1=>tD K B G0 g σ H1 λu H2=>P v u H2):=by
 obtain ⟨G,Z,e,a⟩:=tM.bind2 (R:=Rep K) (R':=Rep K) HH h;refine ⟨G,Z,e,?_⟩
 cases q:f Z with
 |bad=>rw[q] at a;exact a.elim
 |ok d Z1=>
  rw[q] at a;intro v G' H' e' s r;obtain ⟨x,G2,Z2,e2,a2⟩:=a v G' H' e' s r;refine ⟨G2,Z2,e2,?_⟩
  cases q2:g Z2 with
  |bad=>rw[q2] at a2;exact a2.elim
  |ok d3 Z3=>
   rw[q2] at a2;intro u G3 H3 e3 s3 r3;obtain ⟨G4,Z4,y,e4,r4,r5,a5⟩:=a2 u G3 H3 e3 s3 r3;exact i v u H3 G4 Z4 x y e4 r4 r5 a5
theorem tM.one{K:Frag}{B G0:Hp}{α β γ δ:Type}{R:Hp->γ->α->Prop}{S:Hp->δ->β->Prop}{σ:St}{H:Hp}{f:M α}{k:α->M β}{Q:δ->Hp->Prop}{P:γ->Hp->Prop}
  (h:tM K B G0 S (Kr f k) σ H Q) (i:∀v H2 G Z x,EOk K B G0 G H2 σ Z->R G v x->aft K B G0 S (k x Z) G σ Q->P v H2):tM K B G0 R f σ H P:=by
 obtain ⟨G,Z,e,a⟩:=tM.bind (R:=R) h;refine ⟨G,Z,e,?_⟩
 cases q:f Z with
 |bad=>rw[q] at a;exact a.elim
 |ok d Z1=>
  rw[q] at a;intro v G' H' e' s r;obtain ⟨G2,Z2,d2,e2,r2,a2⟩:=a v G' H' e' s r;exact i v H' G2 Z2 d2 e2 r2 a2
section
variable{X:Cx}{B G0:Hp}{e a b:UD}{pos:Pos}
theorem KW{t t':TE}(h:PE X e t)(i:∀σ H Q,t' σ H Q->t σ H Q):PE X e t':=λpins s σ H Q I q=>h pins s σ H Q I (i σ H Q q)
theorem Xg{t t':TT}(h:PT X e t)(i:∀σ H Q,t' σ H Q->t σ H Q):PT X e t':=λpins s σ H Q I q=>h pins s σ H Q I (i σ H Q q)
theorem Vf{es:List UD}{t t':TA}(h:PA X es t)(i:∀σ H Q,t' σ H Q->t σ H Q):PA X es t':=λps pins s σ H Q I q=>h ps pins s σ H Q I (i σ H Q q)
theorem poof{eo:Option UD}{t t':TO}(h:PO X eo t)(i:∀σ H Q,t' σ H Q->t σ H Q):PO X eo t':=λpins s σ H Q I q=>h pins s σ H Q I (i σ H Q q)
theorem Yn{st:Stmt}{t t':TS}(h:PS X st t)(i:∀D σ H,t' D σ H->t D σ H):PS X st t':=λpins s σ H D I q=>h pins s σ H D I (i D σ H q)
theorem Lq{st:List Stmt}{t t':TS}(h:PSs X st t)(i:∀D σ H,t' D σ H->t D σ H):PSs X st t':=λpins s σ H D I q=>h pins s σ H D I (i D σ H q)
def UN(i:Nat):M D:=λZ=>match Z[i]? with
 |some (some (.pub d))=>.ok d Z
 |some (some (.own ds))=>.ok (.list ds) (Z.set i (some (.pub (.list ds))))
 |_=>.bad
theorem UX{i:Nat}(h:PE X e (ZT i)):PE X e (tD X.K B G0 (UN i)):=KW h λσ H Q ⟨G,Z,k,a⟩=>by
 unfold UN at a
 cases q:Z[i]? with
 |none=>rw[q] at a;exact a.elim
 |some o=>
  cases o with
  |none=>rw[q] at a;exact a.elim
  |some sl=>
   cases sl with
   |deep _ _=>rw[q] at a;exact a.elim
   |pub d=>
    rw[q] at a;obtain ⟨v,h1,h2⟩:=k.pub i d q;exact ⟨v,h1,a.now k h2⟩
   |own ds=>
    rw[q] at a;obtain ⟨ad,G',h1,h2,h3,h4⟩:=k.publish q;exact ⟨.ref ad,h1,a (.ref ad) G' H h4 h2 h3⟩
theorem OZ{v:V}{d:D}(h:PE X e (tC v))(r:∀G,Rep X.K G v d):PE X e (tD X.K B G0 (U1 d)):=KW h λσ H Q ⟨G,Z,k,a⟩=>a.now k (r G)
theorem Kd{i:Int}{j}:PE X (.Constant (.int i) j pos) (tD X.K B G0 (U1 (.int i))):=OZ DS λ_=>.int i
theorem Xz{i:Bool}{j}:PE X (.Constant (.bool i) j pos) (tD X.K B G0 (U1 (.bool i))):=OZ Ds λ_=>.bl i
theorem T8{j}:PE X (.Constant .none j pos) (tD X.K B G0 (U1 .none)):=OZ DR λ_=>.non
theorem Xv{x:Str}{j}:PE X (.Constant (.str x) j pos) (tD X.K B G0 (U1 (.str x))):=OZ DQ λ_=>.str x
def U3{β:Type}(op:D->D->Option β)(f g:M D):M β:=Kr f λx=>Kr g λy=>Ks (op x y)
def OpD(X:Cx)(f:Uy->Uy->Sem Uy)(op:D->D->Option D):Prop :=
 ∃r:R2,OpR X f r/\∀v u G H x y d Q,Same G H->Rep X.K G v x->Rep X.K G u y->op x y=some d->(∀w G' H',Ext G H G' H'->Rep X.K G' w d->Q w H')->r v u H Q
theorem Kw{op:Operator}{p:D->D->Option D}{f g:M D}(o:OpD X (binaryOp op) p)(ha:PE X a (tD X.K B G0 f))(hb:PE X b (tD X.K B G0 g)):PE X (.BinOp a op b pos) (tD X.K B G0 (U3 p f g)):=by
 obtain ⟨r,h,i⟩:=o;refine KW (Lp h ha hb) λσ H Q q=>?_;refine tM.two q λv u H2 G Z x y k rx ry a=>?_;obtain ⟨d,e,a⟩:=a.opt;exact i v u G H2 x y d Q k.gh rx ry e λw G' H' ex rw=>a.done k ex rw
theorem OpD.or{f:Uy->Uy->Sem Uy}{p q:D->D->Option D}(h:OpD X f p)(h':OpD X f q):OpD X f (λx y=>(p x y).orElse λ_=>q x y):=by
 obtain ⟨r,h1,i1⟩:=h;obtain ⟨r',h2,i2⟩:=h';refine ⟨_,h1.or h2,λv u G H x y d Q s rx ry e k=>?_⟩;dsimp only at e
 cases z:p x y with
 |some d'=>
  rw[z] at e;have e':d'=d:=QX e;subst e';exact .inl (i1 v u G H x y d' Q s rx ry z k)
 |none=>
  rw[z] at e;exact .inr (i2 v u G H x y d Q s rx ry e k)
def oII(g:Int->Int->Option D):D->D->Option D
 |.int i,.int j=>g i j
 |_,_=>none
theorem HG{g:Int->Int->Option D}{x y d:D}(e:oII g x y=some d):∃i j,x=.int i/\y=.int j/\g i j=some d:=by
 unfold oII at e
 split at e
 ·exact ⟨_,_,rfl,rfl,e⟩
 ·cases e
theorem OpD.int{f:Uy->Uy->Sem Uy}{C:Int->Int->Prop}{g:Int->Int->V}{p:Int->Int->Option D}(h:OpR X f (rI C g))(i:∀i j d,p i j=some d->C i j/\∀G,Rep X.K G (g i j) d):OpD X f (oII p):=by
 refine ⟨_,h,λv u G H x y d Q s rx ry e k=>?_⟩;obtain ⟨a,b,rfl,rfl,e⟩:=HG e;obtain ⟨c,r⟩:=i a b d e;exact ⟨a,b,rx.int_inv,ry.int_inv,c,k _ G H (.refl s) (r G)⟩
theorem OpD.int0{f:Uy->Uy->Sem Uy}{g:Int->Int->V}{p:Int->Int->D}(h:OpR X f (rI0 g))(i:∀i j G,Rep X.K G (g i j) (p i j)):OpD X f (oII λi j=>some (p i j)):=by
 refine ⟨_,h,λv u G H x y d Q s rx ry e k=>?_⟩;obtain ⟨a,b,rfl,rfl,e⟩:=HG e;cases e;exact ⟨a,b,rx.int_inv,ry.int_inv,k _ G H (.refl s) (i a b G)⟩
end
section
variable{X:Cx}{B G0:Hp}{e a b c:UD}{pos:Pos}
theorem CD:OpD X (binaryOp .Add) (oII λi j=>some (.int (i+j))):=.int0 Cl λ_ _ _=>.int _
theorem CC:OpD X (binaryOp .Sub) (oII λi j=>some (.int (i-j))):=.int0 Ck λ_ _ _=>.int _
def Y6(i j:Int):Option D:=if (-(2 ^ 64)<i/\i<2 ^ 64)∨(-(2 ^ 64)<j/\j<2 ^ 64) then some (.int (i*j)) else none
theorem Bp:OpD X (binaryOp .Mult) (oII Y6):=.int Cj λi j d h=>by
 unfold Y6 at h
 split at h
 ·rename_i c
  cases h;exact ⟨c,λ_=>.int _⟩
 ·cases h
def V7(i j:Int):Option D:=if 0<j then some (.int (i % j)) else none
theorem Df:OpD X (binaryOp .Mod) (oII V7):=.int Ci λi j d h=>by
 unfold V7 at h
 split at h
 ·rename_i c
  cases h;exact ⟨c,λ_=>.int _⟩
 ·cases h
theorem AG:OpR X (binaryOp .FloorDiv) (rI (λi j=>0<j/\j<2 ^ 64) λi j=>.int (i / j)):=opI λi j _ _ _ _ _ hc q=>by
 have h1:(0:Int)<j:=hc.1;have h2:j<2 ^ 64:=hc.2;refine floordiv_int (by omega) (by rw[Int.fdiv_eq_ediv_of_nonneg i (by omega)];exact q) (.inl (PyProof.noPylong_of_log2 ?_))
 have h0:j.natAbs≠0:=by omega
 have:j.natAbs.log2<64:=(Nat.log2_lt h0).mpr (by omega)
 omega
def V8(i j:Int):Option D:=if 0<j/\j<2 ^ 64 then some (.int (i / j)) else none
theorem De:OpD X (binaryOp .FloorDiv) (oII V8):=.int AG λi j d h=>by
 unfold V8 at h
 split at h
 ·rename_i c
  cases h;exact ⟨c,λ_=>.int _⟩
 ·cases h
def V6(i j:Int):Option D:=if 0<=j/\j<=1000000/\i.natAbs<2 ^ 64 then some (.int (i ^ j.toNat)) else none
theorem Dd:OpD X (binaryOp .Pow) (oII V6):=.int Ch λi j d h=>by
 unfold V6 at h
 split at h
 ·rename_i c
  cases h;exact ⟨c,λ_=>.int _⟩
 ·cases h
theorem lim:(1000000:Nat)<=UE:=by decide
def OL:D->D->Option D
 |.str x,.str y=>if x.length+y.length<=1000000 then some (.str (x++y)) else none
 |_,_=>none
theorem Bo:OpD X (binaryOp .Add) OL:=by
 refine ⟨_,jk,λv u G H x y d Q s rx ry e k=>?_⟩;unfold OL at e
 split at e
 ·split at e
  ·rename_i c
   cases e;exact ⟨_,_,rx.str_inv,ry.str_inv,QT c lim,k _ G H (.refl s) (.str _)⟩
  ·cases e
 ·cases e
def ER(K:Frag):R2:=λx y H Q=>∃l b xs zs,x=.ref l/\y=.ref b/\SqL K H l xs/\SqL K H b zs/\xs.length+zs.length<=UE/\∀p,H p=none->Q (.ref p) (upd H p (.lst (xs++zs)))
theorem Bm:OpR X (binaryOp .Add) (ER X.K):=by
 intro pins s σ H x y v u Q I rx ry h;obtain ⟨l,b,xs,zs,rfl,rfl,hH,hB,hz,q⟩:=h;cases rx;cases ry;obtain ⟨its,r,⟨⟨c1,d1,t1,s1⟩,n1,e1,ec1,ed1,et1⟩,z1⟩:=I.list hH;obtain ⟨its2,r2,⟨⟨c2,d2,t2,s2⟩,n2,e2,ec2,ed2,et2⟩,z2⟩:=I.list hB;simp only at ec1 ed1 et1 ec2 ed2 et2;subst ec1 ed1 et1 ec2 ed2 et2;have hl:=r.length;have hl2:=r2.length;refine concat_meets ⟨_,e1,rfl⟩ ⟨_,e2,rfl⟩ noFill_list_add seq_list_add PySem.F.slot_list_add PySem.F.entry_list_add (PySem.F.args_list_add_2 _ _) (list_addW l b its.toArray its2.toArray n1 n2 none none s1 s2 (by rw[QK,QK];omega)) ⟨e1,e2,?_⟩
 have ea:its.toArray++its2.toArray=(its++its2).toArray:=by simp
 rw[ea];exact ⟨.ref _,_,I.lnew (t':=s.toks) (r.append r2) (by rw[Qj];omega),rfl,q _ I.fresh⟩
theorem EQ(a:Int)(t:Tok)(l:UB)(items:Array Uy)(n:Nat)(sl:Array (Option Uy)) :
  Meets (Builtin.«int.__rmul__» ⟨[.int a t,.ref l],[]⟩) (λ_ R s=>s.heap.get? l=some { cls:=.type "list", dict:=none,data:=.seq items n,slots:=sl }/\R (.ok (.ret Value.notImplemented)) s) :=
 .of_wp λprog w A R s h=>by obtain ⟨hp,g,d,tk,os⟩:=s;obtain ⟨hl,h⟩:=h;wp_walk;exact ⟨_,rfl,h⟩
theorem mulW(l:UB)(items:Array Uy)(n:Nat)(x:Int)(u:Tok)(sl:Array (Option Uy))(hc0:¬(!Builtin.List.listFitsIndex x)=true)(hc1:¬items.size*x.toNat > (2 ^ 63-1) / 8)(hc2:¬Builtin.List.listTooLong (items.size*x.toNat)=true) :
  Meets (Builtin.«list.__mul__» ⟨[.ref l,.int x u],[]⟩) (λ_ R s=>s.heap.get? l=some { cls:=.type "list", dict:=none,data:=.seq items n,slots:=sl }/\R (.ok (.ret (Value.ref s.heap.objs.size))) { s with heap:=s.heap.push { cls:=Value.type "list", data:=Data.seq (List.foldl (λx1 x2=>x1++x2) #[] (UJ (if items.isEmpty=true then 0 else x.toNat) items)) },toks:=s.toks }) :=
 .of_wp λprog w A R s h=>by
  obtain ⟨hp,g,d,tk,os⟩:=s;obtain ⟨hl,h⟩:=h;have hsz:=AutoListH.joined_fits hc2
  wp_walk;refine wpAny_ite_false (QG (Nat.not_lt.mpr hsz)) ?_;wp_walk;exact ⟨_,rfl,h⟩
def EO(K:Frag):R2:=λx y H Q=>∃l k xs,x=.ref l/\y=.int k/\SqL K H l xs /\ -(2 ^ 63)<=k/\k<2 ^ 63/\xs.length*k.toNat<=UE /\
 ∀p,H p=none->Q (.ref p) (upd H p (.lst (UJ k.toNat xs).flatten))
theorem HF:OpR X (binaryOp .Mult) (EO X.K):=by
 intro pins s σ H x y v u Q I rx ry h;obtain ⟨l,k,xs,rfl,rfl,hH,h1,h2,hz,q⟩:=h;cases rx;obtain ⟨t,rfl⟩:=ry;obtain ⟨its,r,⟨⟨c1,d1,t1,sl⟩,n,e,ec1,ed1,et1⟩,z⟩:=I.list hH;simp only at ec1 ed1 et1;subst ec1 ed1 et1;have hl:=r.length;have hlen:its.toArray.size*k.toNat<=UE:=by rw[QK,←hl];exact hz
 have hcap:¬its.toArray.size*k.toNat > (2 ^ 63-1) / 8:=by
  have:(UE:Nat)<=(2 ^ 63-1) / 8:=by decide
  omega
 have hfit:¬(!Builtin.List.listFitsIndex k)=true:=by
  rw[fitsIndex_both h1 h2];exact JJ
 have hlong:¬Builtin.List.listTooLong (its.toArray.size*k.toNat)=true:=by
  rw[AJ hlen];exact JJ
 have hnew:List.foldl (λx1 x2=>x1++x2) #[] (UJ (if its.toArray.isEmpty=true then 0 else k.toNat) its.toArray)=(UJ k.toNat its).flatten.toArray:=by
  have f0:∀m:Nat,List.foldl (λx1 x2=>x1++x2) #[] (UJ m its.toArray)=(UJ m its).flatten.toArray:=λm=>by
   have:=Fj its m []
   rw[Jj] at this;exact this
  rw[f0]
  cases its with
  |nil=>simp
  |cons a r'=>rw[if_neg (by simp)]
 refine wpAny_binaryOp_repeat_ref (T := "list") (U := "int") (by decide) ⟨_,e,rfl⟩ (λs'=>typeIs_int s' k t) noFill_list_mul F.fills_int_mul F.slot_int_rmul repeat_list F.slot_int_index.lookup
  (call_meets F.slot_int_rmul (typeIs_int s k t) F.entry_int_rmul (F.args_int_rmul_2 _ _) (EQ k t l its.toArray n sl)
   ⟨e,rfl,⟨_,e,rfl⟩,call_meets F.slot_list_mul ⟨_,e,rfl⟩ F.entry_list_mul (F.args_list_mul_2 _ _) (mulW l its.toArray n k t sl hfit hcap hlong) ⟨e,?_⟩⟩)
 rw[hnew];exact ⟨.ref _,_,I.lnew (t':=s.toks) (r.rep k.toNat) (by rw[Bs,Nat.mul_comm];exact hz),rfl,q _ I.fresh⟩
def OK:D->D->Option D
 |.list x,.list y=>if x.length+y.length<=1000000 then some (.list (x++y)) else none
 |_,_=>none
theorem Bl:OpD X (binaryOp .Add) OK:=by
 refine ⟨_,Bm,λv u G H x y d Q s rx ry e k=>?_⟩;unfold OK at e
 split at e
 ·split at e
  ·rename_i c
   cases e;obtain ⟨l,vs,rfl,h1,r1⟩:=rx.lst_inv
   obtain ⟨b,ws,rfl,h2,r2⟩:=ry.lst_inv;refine ⟨l,b,vs,ws,rfl,rfl,s.seq h1,s.seq h2,by rw[r1.length,r2.length];exact QT c lim,λp hp=>k _ _ _ (Ext.new s hp) ?_⟩
   exact .lst (SqL.of Yx) ((r1.append r2).mono (Yw (s.free hp)))
  ·cases e
 ·cases e
theorem Reps.rep{K:Frag}{G:Hp}{vs:List V}{ds:List D}(r:Reps K G vs ds):∀n:Nat,Reps K G (UJ n vs).flatten (UJ n ds).flatten
 |0=>.nil
 |n+1=>by rw[QS,QS,QN,QN];exact r.append (r.rep n)
def OJ:D->D->Option D
 |.list x,.int k=>if -1000000<=k/\k<=1000000/\x.length*k.toNat<=1000000 then some (.list (UJ k.toNat x).flatten) else none
 |_,_=>none
theorem Bk:OpD X (binaryOp .Mult) OJ:=by
 refine ⟨_,HF,λv u G H x y d Q s rx ry e k=>?_⟩;unfold OJ at e
 split at e
 ·split at e
  ·rename_i c
   cases e;obtain ⟨l,vs,rfl,h1,r1⟩:=rx.lst_inv
   refine ⟨l,_,vs,rfl,ry.int_inv,s.seq h1,by omega,by omega,by rw[r1.length];exact QT c.2.2 lim,λp hp=>k _ _ _ (Ext.new s hp) ?_⟩
   exact .lst (SqL.of Yx) ((r1.rep _).mono (Yw (s.free hp)))
  ·cases e
 ·cases e
def Kh:D->D->Option D
 |.int i,.int j=>some (.int (i+j))
 |.str x,.str y=>if x.length+y.length<=1000000 then some (.str (x++y)) else none
 |.list x,.list y=>if x.length+y.length<=1000000 then some (.list (x++y)) else none
 |_,_=>none
def Zk:D->D->Option D
 |.int i,.int j=>some (.int (i-j))
 |_,_=>none
def KY:D->D->Option D
 |.int i,.int j=>Y6 i j
 |.list x,.int k=>if -1000000<=k/\k<=1000000/\x.length*k.toNat<=1000000 then some (.list (UJ k.toNat x).flatten) else none
 |_,_=>none
def ZL:D->D->Option D
 |.int i,.int j=>V7 i j
 |_,_=>none
def Vj:D->D->Option D
 |.int i,.int j=>V8 i j
 |_,_=>none
def Vh:D->D->Option D
 |.int i,.int j=>V6 i j
 |_,_=>none
theorem OpD.congr{f:Uy->Uy->Sem Uy}{p q:D->D->Option D}(h:OpD X f p)(e:∀x y,q x y=p x y):OpD X f q:=by
 have:q=p:=by funext x y;exact e x y
 rw[this];exact h
theorem Zf:OpD X (binaryOp .Add) Kh:=(CD.or (Bo.or Bl)).congr λx y=>by cases x <;> cases y <;> first|rfl|(simp only[Kh,oII,OL,OK,Option.orElse];done)|(simp only[Kh,oII,OL,OK,Option.orElse];split <;> rfl)
theorem Xn:OpD X (binaryOp .Sub) Zk:=CC.congr λx y=>by cases x <;> cases y <;> rfl
theorem Xm:OpD X (binaryOp .Mult) KY:=(Bp.or Bk).congr λx y=>by
 cases x <;> cases y <;> first|rfl|(simp only[KY,oII,OJ,Option.orElse];done)|(simp only[KY,oII,OJ,Option.orElse];split <;> first|rfl|assumption)
theorem Wo:OpD X (binaryOp .Mod) ZL:=Df.congr λx y=>by cases x <;> cases y <;> rfl
theorem Lj:OpD X (binaryOp .FloorDiv) Vj:=De.congr λx y=>by cases x <;> cases y <;> rfl
theorem EN:OpD X (binaryOp .Pow) Vh:=Dd.congr λx y=>by cases x <;> cases y <;> rfl
end
section
variable{X:Cx}{B G0:Hp}{e a b c:UD}{pos:Pos}
def OpB(X:Cx)(f:Uy->Uy->Sem Uy)(op:D->D->Option Bool):Prop :=
 ∃r:R2,OpR X f r/\∀v u G H x y d Q,Same G H->Rep X.K G v x->Rep X.K G u y->op x y=some d->Q (.bl d) H->r v u H Q
theorem OpB.or{f:Uy->Uy->Sem Uy}{p q:D->D->Option Bool}(h:OpB X f p)(h':OpB X f q):OpB X f (λx y=>(p x y).orElse λ_=>q x y):=by
 obtain ⟨r,h1,i1⟩:=h;obtain ⟨r',h2,i2⟩:=h';refine ⟨_,h1.or h2,λv u G H x y d Q s rx ry e k=>?_⟩;dsimp only at e
 cases z:p x y with
 |some d'=>
  rw[z] at e;have e':d'=d:=QX e;subst e';exact .inl (i1 v u G H x y d' Q s rx ry z k)
 |none=>
  rw[z] at e;exact .inr (i2 v u G H x y d Q s rx ry e k)
theorem OpB.congr{f:Uy->Uy->Sem Uy}{p q:D->D->Option Bool}(h:OpB X f p)(e:∀x y,q x y=p x y):OpB X f q:=by
 have:q=p:=by funext x y;exact e x y
 rw[this];exact h
theorem YO{op:CmpOp}{p:D->D->Option Bool}{f g:M D}(o:OpB X (UH op) p)(ha:PE X a (tD X.K B G0 f))(hb:PE X b (tD X.K B G0 g))(hm:behindInMarks op b=false) :
  PT X (.Compare a [op] [b] pos) (tBo X.K B G0 (U3 p f g)):=by
 obtain ⟨r,h,i⟩:=o;refine Xg (Mj h ha hb hm) λσ H Q q=>?_;refine tM.two q λv u H2 G Z x y k rx ry a=>?_;obtain ⟨d,e,a⟩:=a.opt;exact i v u G H2 x y d _ k.gh rx ry e ⟨d,rfl,a.now k rfl⟩
def Ka{α β:Type}(h:α->β)(f:M α):M β:=Kr f λx=>U1 (h x)
theorem tM.map{K:Frag}{α β γ δ:Type}{R:Hp->γ->α->Prop}{S:Hp->δ->β->Prop}{σ:St}{H:Hp}{h:α->β}{f:M α}{Q:δ->Hp->Prop}(j:γ->δ)(q:tM K B G0 S (Ka h f) σ H Q)
  (i:∀G v x,R G v x->S G (j v) (h x)):tM K B G0 R f σ H (λv H'=>Q (j v) H') :=
 tM.one (R:=R) (f:=f) q λv H2 G Z x k r a=>aft.now (show aft K B G0 S (.ok (h x) Z) G σ Q from a) k (i G v x r)
theorem tBo.val{K:Frag}{σ:St}{H:Hp}{f:M Bool}{Q:VK}(q:tD K B G0 (Ka UL f) σ H Q):tBo K B G0 f σ H (λb H'=>Q (.bl b) H') :=
 tM.map (R:=λ_ b c=>b=c) V.bl q λG v x e=>by rw[e];exact .bl x
theorem HE{op:CmpOp}{p:D->D->Option Bool}{f g:M D}(o:OpB X (UH op) p)(ha:PE X a (tD X.K B G0 f))(hb:PE X b (tD X.K B G0 g))(hm:behindInMarks op b=false) :
  PE X (.Compare a [op] [b] pos) (tD X.K B G0 (Ka UL (U3 p f g))):=by
 obtain ⟨r,h,i⟩:=o;refine KW (Mk h ha hb hm) λσ H Q q=>?_;refine tM.two (tBo.val q) λv u H2 G Z x y k rx ry a=>?_;obtain ⟨d,e,a⟩:=a.opt;exact i v u G H2 x y d _ k.gh rx ry e (a.now k rfl)
def T2(p q:D->D->Option Bool)(f g h:M D):M Bool:=Kr f λx=>Kr g λy=>Kr (Ks (p x y)) λt=>if t=true then Kr h λz=>Ks (q y z) else U1 false
theorem Fh{op op':CmpOp}{p q:D->D->Option Bool}{f g h:M D}(o:OpB X (UH op) p)(o':OpB X (UH op') q)(ha:PE X a (tD X.K B G0 f))(hb:PE X b (tD X.K B G0 g))(hc:PE X c (tD X.K B G0 h))
  (hm:lastMarks [op,op'] [b,c]=false:=by with_unfolding_all rfl):PT X (.Compare a [op,op'] [b,c] pos) (tBo X.K B G0 (T2 p q f g h)):=by
 obtain ⟨r,h1,i⟩:=o;obtain ⟨r',h2,i'⟩:=o';refine Xg (AO h1 h2 ha hb hc hm) λσ H Q w=>?_;refine tM.two w λv u H2 G Z x y k rx ry a=>?_
 cases z:p x y with
 |none=>rw[z] at a;exact a.elim
 |some t=>
  rw[z] at a;refine i v u G H2 x y t _ k.gh rx ry z ⟨t,rfl,?_⟩
  cases t with
  |false=>
   rw[Qs JJ];exact ⟨false,rfl,aft.now a k rfl⟩
  |true=>
   rw[Ql rfl];refine ⟨G,Z,k,?_⟩;have a4:aft X.K B G0 (λ_ (b:Bool) c=>b=c) ((Kr h λz=>Ks (q y z)) Z) G σ Q:=a;unfold Kr at a4
   cases z2:h Z with
   |bad=>rw[z2] at a4;exact a4.elim
   |ok d Z1=>
    rw[z2] at a4;intro w G5 H5 k5 s5 r5;obtain ⟨t2,e2,a6⟩:=a4.opt;exact i' u w G5 H5 y d t2 _ k5.gh (ry.mono s5) r5 e2 ⟨t2,rfl,a6 t2 G5 H5 k5 s5 rfl⟩
theorem Fg{op op':CmpOp}{p q:D->D->Option Bool}{f g h:M D}(o:OpB X (UH op) p)(o':OpB X (UH op') q)(ha:PE X a (tD X.K B G0 f))(hb:PE X b (tD X.K B G0 g))(hc:PE X c (tD X.K B G0 h))
  (hm:lastMarks [op,op'] [b,c]=false:=by with_unfolding_all rfl):PE X (.Compare a [op,op'] [b,c] pos) (tD X.K B G0 (Ka UL (T2 p q f g h))):=by
 obtain ⟨r,h1,i⟩:=o;obtain ⟨r',h2,i'⟩:=o';refine KW (AQ h1 h2 ha hb hc hm) λσ H Q w=>?_;refine tM.two (tBo.val w) λv u H2 G Z x y k rx ry a=>?_
 cases z:p x y with
 |none=>rw[z] at a;exact a.elim
 |some t=>
  rw[z] at a;refine i v u G H2 x y t _ k.gh rx ry z ⟨t,rfl,?_⟩
  cases t with
  |false=>
   rw[Qs JJ];exact aft.now (v:=false) a k rfl
  |true=>
   rw[Ql rfl];refine ⟨G,Z,k,?_⟩;have a4:aft X.K B G0 (λ_ (b:Bool) c=>b=c) ((Kr h λz=>Ks (q y z)) Z) G σ (λb H'=>Q (.bl b) H'):=a;unfold Kr at a4
   cases z2:h Z with
   |bad=>rw[z2] at a4;exact a4.elim
   |ok d Z1=>
    rw[z2] at a4;intro w G5 H5 k5 s5 r5;obtain ⟨t2,e2,a6⟩:=a4.opt;exact i' u w G5 H5 y d t2 _ k5.gh (ry.mono s5) r5 e2 (a6 t2 G5 H5 k5 s5 rfl)
def oIB(g:Int->Int->Bool):D->D->Option Bool
 |.int i,.int j=>some (g i j)
 |_,_=>none
theorem OpB.int{f:Uy->Uy->Sem Uy}{g:Int->Int->Bool}(h:OpR X f (rI0 λi j=>.bl (g i j))):OpB X f (oIB g):=by
 refine ⟨_,h,λv u G H x y d Q s rx ry e k=>?_⟩;unfold oIB at e
 split at e
 ·cases e
  exact ⟨_,_,rx.int_inv,ry.int_inv,k⟩
 ·cases e
theorem TM:OpB X (UH .Lt) (oIB λi j=>decide (i<j)):=.int DN
theorem WR:OpB X (UH .LtE) (oIB λi j=>decide (i<=j)):=.int DM
theorem Y7:OpB X (UH .Gt) (oIB λi j=>decide (j<i)):=.int DK
theorem B_ge:OpB X (UH .GtE) (oIB λi j=>decide (j<=i)):=.int DJ
mutual
theorem XZ{pins:List (UB×Obj)}{s:Uz}{σ:St}{G H:Hp}(I:Inv X pins σ H s)(sg:Same G H):∀{v:V}{d:D}{u:Uy},Rep X.K G v d->RelV v u->d.canLay0=true->∃as,Reads s.heap u d as
 |_,_,_,.non,r,_=>by cases r;exact ⟨_,.none⟩
 |_,_,_,.bl b,r,_=>by cases r;exact ⟨_,.bool b⟩
 |_,_,_,.int i,r,_=>by obtain ⟨t,rfl⟩:=r;exact ⟨_,.int i t⟩
 |_,_,_,.str x,r,_=>by obtain ⟨t,rfl⟩:=r;exact ⟨_,.str x t⟩
 |_,_,_,.lst h q,r,c=>by
  cases r;obtain ⟨its,rv,⟨o,n,e,hc,_,hd⟩,hz⟩:=I.list (sg.seq h)
  obtain ⟨as,ra⟩:=readsAll_of I sg q rv (show UO _=true by simpa[PyData.canLay0] using c)
  exact ⟨_,.list e hc hd (by simpa using ra)⟩
 |_,_,_,.tup h q,r,c=>by
  cases r;obtain ⟨its,rv,p,hz⟩:=I.tuple (We sg h)
  obtain ⟨o,e,hc,n,hd⟩:=p;obtain ⟨as,ra⟩:=readsAll_of I sg q rv (show UO _=true by simpa[PyData.canLay0] using c)
  exact ⟨_,.tuple e hc hd (by simpa using ra)⟩
 |_,_,_,.dic h,r,c=>by simp[PyData.canLay0] at c
 |_,_,_,.exc _ _ _ _,r,c=>by simp[PyData.canLay0] at c
 |_,_,_,.dct _ _ _ _ _,r,c=>by simp[PyData.canLay0] at c
 |_,_,_,.dtt _ _ _ _,r,c=>by simp[PyData.canLay0] at c
theorem readsAll_of{pins:List (UB×Obj)}{s:Uz}{σ:St}{G H:Hp}(I:Inv X pins σ H s)(sg:Same G H):∀{vs:List V}{ds:List D}{us:List Uy},Reps X.K G vs ds->Vals vs us->UO ds=true->∃as,ReadsAll s.heap us ds as
 |_,_,_,.nil,r,_=>by cases r;exact ⟨_,.nil⟩
 |_,_,_,.cons h t,r,c=>by
  cases r with
  |cons r1 r2=>
   have c':=c;rw[UO,Jm] at c';obtain ⟨as,ra⟩:=XZ I sg h r1 c'.1;obtain ⟨bs,rb⟩:=readsAll_of I sg t r2 c'.2;exact ⟨_,.cons ra rb⟩
end
def oEq(x y:D):Option Bool:=if x.canLay0=true/\y.canLay0=true/\x.depth<=60 then some (UQ x y) else none
def oNe(x y:D):Option Bool:=if x.canLay0=true/\y.canLay0=true/\x.depth<=60 then some (!UQ x y) else none
theorem Zr(hu:X.A.units+64<cLine):OpB X (UH .Eq) oEq:=by
 refine ⟨λv u H Q=>∃G x y d,Same G H/\Rep X.K G v x/\Rep X.K G u y/\oEq x y=some d/\Q (.bl d) H,?_,λv u G H x y d Q s rx ry e k=>⟨G,x,y,d,s,rx,ry,e,k⟩⟩;intro pins s σ H x y v u Q I rx ry ⟨G,dx,dy,d,sg,px,py,e,q⟩;unfold oEq at e
 split at e
 ·rename_i c
  cases e;obtain ⟨as,ra⟩:=XZ I sg px rx c.1
  obtain ⟨bs,rb⟩:=XZ I sg py ry c.2.1;exact SeqAt.compareEq_reads ra rb c.1 c.2.1 (by have:=c.2.2;omega) ⟨.bl _,H,I,rfl,q⟩
 ·cases e
theorem YJ(hu:X.A.units+64<cLine):OpB X (UH .NotEq) oNe:=by
 refine ⟨λv u H Q=>∃G x y d,Same G H/\Rep X.K G v x/\Rep X.K G u y/\oNe x y=some d/\Q (.bl d) H,?_,λv u G H x y d Q s rx ry e k=>⟨G,x,y,d,s,rx,ry,e,k⟩⟩;intro pins s σ H x y v u Q I rx ry ⟨G,dx,dy,d,sg,px,py,e,q⟩;unfold oNe at e
 split at e
 ·rename_i c
  cases e;obtain ⟨as,ra⟩:=XZ I sg px rx c.1
  obtain ⟨bs,rb⟩:=XZ I sg py ry c.2.1;exact SeqAt.compareNe_reads ra rb c.1 c.2.1 (by have:=c.2.2;omega) ⟨.bl _,H,I,rfl,q⟩
 ·cases e
def isNon:D->Bool
 |.none=>true
 |_=>false
theorem Rep.isNon{K:Frag}{G:Hp}{v:V}{d:D}(r:Rep K G v d):DL.isNon d=decide (v=.non):=by
 cases r <;> simp[DL.isNon]
end
section
variable{X:Cx}{B G0:Hp}{e a b c:UD}{pos:Pos}{es rest:List UD}
theorem tM.nx{K:Frag}{α β γ δ:Type}{R:Hp->γ->α->Prop}{S:Hp->δ->β->Prop}{σ:St}{G H:Hp}{Z:UR}{f:M α}{g:α->M β}{Q:δ->Hp->Prop}{P:γ->Hp->Prop}
  (k:EOk K B G0 G H σ Z) (a:aft K B G0 S (Kr f g Z) G σ Q) (i:∀v H' G' Z' x,EOk K B G0 G' H' σ Z'->Same G G'->R G' v x->aft K B G0 S (g x Z') G' σ Q->P v H'):tM K B G0 R f σ H P:=by
 refine ⟨G,Z,k,?_⟩;unfold Kr at a
 cases q:f Z with
 |bad=>rw[q] at a;exact a.elim
 |ok d Z1=>
  rw[q] at a;exact λv G' H' e s r=>i v H' G' Z1 d e s r (aft.mono s a)
def ZZ(f g:M Bool):M Bool:=Kr f λt=>if t=true then g else U1 false
def mOr(f g:M Bool):M Bool:=Kr f λt=>if t=true then U1 true else g
def Zu(f:M Bool):M Bool:=Ka (λt=>!t) f
theorem Bj{K:Frag}{f g:M Bool}{σ:St}{H:Hp}{Q:Bool->Hp->Prop}(q:tBo K B G0 (ZZ f g) σ H Q):tAnd (tBo K B G0 f) (tBo K B G0 g) σ H Q :=
 tM.one (R:=λ_ b c=>b=c) q λv H2 G Z x k r a=>by
  have r:v=x:=r;subst r
  cases v with
  |true=>exact ⟨G,Z,k,a⟩
  |false=>exact aft.now (v:=false) a k rfl
theorem Dc{K:Frag}{f g:M Bool}{σ:St}{H:Hp}{Q:Bool->Hp->Prop}(q:tBo K B G0 (mOr f g) σ H Q):tOr (tBo K B G0 f) (tBo K B G0 g) σ H Q :=
 tM.one (R:=λ_ b c=>b=c) q λv H2 G Z x k r a=>by
  have r:v=x:=r;subst r
  cases v with
  |false=>exact ⟨G,Z,k,a⟩
  |true=>exact aft.now (v:=true) a k rfl
theorem pwof{t t':TT}(h:PW X e t)(i:∀σ H Q,t' σ H Q->t σ H Q):PW X e t':=λwh pins s σ H Q I q=>h wh pins s σ H Q I (i σ H Q q)
theorem OA{f:M Bool}(ha:PT X a (tBo X.K B G0 f)):PW X (.BoolOp .And [a] pos) (tBo X.K B G0 f):=CV ha
theorem Vb{f:M Bool}(ha:PT X a (tBo X.K B G0 f)):PW X (.BoolOp .Or [a] pos) (tBo X.K B G0 f):=Cz ha
theorem Of{f g:M Bool}(ha:PT X a (tBo X.K B G0 f))(hb:PW X (.BoolOp .And (b::rest) pos) (tBo X.K B G0 g)):PW X (.BoolOp .And (a::b::rest) pos) (tBo X.K B G0 (ZZ f g)):=pwof (Cy ha hb) λ_ _ _ q=>Bj q
theorem W7{f g:M Bool}(ha:PT X a (tBo X.K B G0 f))(hb:PW X (.BoolOp .Or (b::rest) pos) (tBo X.K B G0 g)):PW X (.BoolOp .Or (a::b::rest) pos) (tBo X.K B G0 (mOr f g)):=pwof (Dq ha hb) λ_ _ _ q=>Dc q
theorem Xa{f:M Bool}(ha:PT X a (tBo X.K B G0 f)):PT X (.UnaryOp .Not a pos) (tBo X.K B G0 (Zu f)):=Xg (Cw ha) λσ H Q q=>tM.map (R:=λ_ b c=>b=c) (λt=>!t) q λ_ v x e=>by rw[e]
def YF(f:M D):M Bool:=Kr f λx=>match x with | .bool t=>U1 t|_=>λ_=>.bad
theorem Y9{f:M D}(h:PE X e (tD X.K B G0 f))(he:∀whole,isTrue e X.env whole=(do let v ←whole;standAt e.pos;holding [v] (truthy v)):=by intro _;rfl):PT X e (tBo X.K B G0 (YF f)) :=
 Xg (CA h he) λσ H Q q=>tM.one (R:=Rep X.K) q λv H2 G Z x k r a=>by
  cases x with
  |bool t=>exact ⟨t,r.bl_inv,aft.now (v:=t) a k rfl⟩
  |_=>exact a.elim
def WU(f g:M D):M D:=Kr f λx=>match x with | .bool true=>g | .bool false=>U1 (.bool false)|_=>λ_=>.bad
def WA(f g:M D):M D:=Kr f λx=>match x with | .bool true=>U1 (.bool true) | .bool false=>g|_=>λ_=>.bad
def PV(f:M D):M D:=Kr f λx=>match x with | .bool t=>U1 (.bool (!t))|_=>λ_=>.bad
theorem Oi{f g:M D}(ha:PE X a (tD X.K B G0 f))(hb:PE X (.BoolOp .And (b::rest) pos) (tD X.K B G0 g)):PE X (.BoolOp .And (a::b::rest) pos) (tD X.K B G0 (WU f g)) :=
 KW (Cu ha hb) λσ H Q q=>tM.one (R:=Rep X.K) q λv H2 G Z x k r a=>by
  cases x with
  |bool t=>
   refine ⟨t,r.bl_inv,?_⟩
   cases t with
   |true=>exact ⟨G,Z,k,a⟩
   |false=>exact aft.now a k (.bl false)
  |_=>exact a.elim
theorem LU{f g:M D}(ha:PE X a (tD X.K B G0 f))(hb:PE X (.BoolOp .Or (b::rest) pos) (tD X.K B G0 g)):PE X (.BoolOp .Or (a::b::rest) pos) (tD X.K B G0 (WA f g)) :=
 KW (Dm ha hb) λσ H Q q=>tM.one (R:=Rep X.K) q λv H2 G Z x k r a=>by
  cases x with
  |bool t=>
   refine ⟨t,r.bl_inv,?_⟩
   cases t with
   |false=>exact ⟨G,Z,k,a⟩
   |true=>exact aft.now a k (.bl true)
  |_=>exact a.elim
theorem SG{op}{f:M D}(h:PE X a (tD X.K B G0 f)):PE X (.BoolOp op [a] pos) (tD X.K B G0 f):=Cv h
theorem HD{f:M D}(ha:PE X a (tD X.K B G0 f)):PE X (.UnaryOp .Not a pos) (tD X.K B G0 (PV f)) :=
 KW (Ct ha) λσ H Q q=>tM.one (R:=Rep X.K) q λv H2 G Z x k r a=>by
  cases x with
  |bool t=>exact ⟨t,r.bl_inv,aft.now a k (.bl _)⟩
  |_=>exact a.elim
def mIf{α:Type}(f:M Bool)(g h:M α):M α:=Kr f λt=>if t=true then g else h
theorem Nu{f:M Bool}{g h:M D}(hc:PT X c (tBo X.K B G0 f))(ha:PE X a (tD X.K B G0 g))(hb:PE X b (tD X.K B G0 h)):PE X (.IfExp c a b pos) (tD X.K B G0 (mIf f g h)) :=
 KW (AU hc ha hb) λσ H Q q=>tM.one (R:=λ_ b c=>b=c) q λv H2 G Z x k r a=>by
  have r:v=x:=r;subst r
  cases v with
  |true=>exact ⟨G,Z,k,a⟩
  |false=>exact ⟨G,Z,k,a⟩
theorem Oh{f:M D}{j p2}(ha:PE X a (tD X.K B G0 f)):PT X (.Compare a [.Is] [.Constant .none j p2] pos) (tBo X.K B G0 (Ka isNon f)) :=
 Xg (LG (LH ha)) λσ H Q q=>tM.one (R:=Rep X.K) q λv H2 G Z x k r a=>⟨_,rfl,aft.now a k (by rw[r.isNon])⟩
theorem VF{f:M D}{j p2}(ha:PE X a (tD X.K B G0 f)):PT X (.Compare a [.IsNot] [.Constant .none j p2] pos) (tBo X.K B G0 (Ka (λd=>!isNon d) f)) :=
 Xg (LG (CW ha)) λσ H Q q=>tM.one (R:=Rep X.K) q λv H2 G Z x k r a=>⟨_,rfl,aft.now a k (by dsimp only;rw[r.isNon])⟩
theorem Bh{f:M D}{j p2}(ha:PE X a (tD X.K B G0 f)):PE X (.Compare a [.Is] [.Constant .none j p2] pos) (tD X.K B G0 (Ka (λd=>.bool (isNon d)) f)) :=
 KW (CB (LH ha)) λσ H Q q=>tM.one (R:=Rep X.K) q λv H2 G Z x k r a=>aft.now a k (by dsimp only;rw[r.isNon];exact .bl _)
def UT:M (List D):=U1 []
def UY(f:M D)(g:M (List D)):M (List D):=Kr f λx=>Kr g λxs=>U1 (x::xs)
theorem U8:PA X [] (tDs X.K B G0 UT):=Vf Sv λσ H Q ⟨G,Z,k,a⟩=>aft.now a k .nil
theorem tM.twoA{K:Frag}{σ:St}{H:Hp}{f:M D}{g:M (List D)}{β δ:Type}{S:Hp->δ->β->Prop}{k:D->List D->M β}{Q:δ->Hp->Prop}{P:V->List V->Hp->Prop}
  (h:tM K B G0 S (Kr f λx=>Kr g λy=>k x y) σ H Q)
  (i:∀v u H2 G Z x y,EOk K B G0 G H2 σ Z->Rep K G v x->Reps K G u y->aft K B G0 S (k x y Z) G σ Q->P v u H2) :
  tD K B G0 f σ H (λv H1=>tDs K B G0 g σ H1 λu H2=>P v u H2):=by
 obtain ⟨G,Z,e,a⟩:=tM.bind2 (R:=Rep K) (R':=Reps K) HH h;refine ⟨G,Z,e,?_⟩
 cases q:f Z with
 |bad=>rw[q] at a;exact a.elim
 |ok d Z1=>
  rw[q] at a;intro v G' H' e' s r;obtain ⟨x,G2,Z2,e2,a2⟩:=a v G' H' e' s r;refine ⟨G2,Z2,e2,?_⟩
  cases q2:g Z2 with
  |bad=>rw[q2] at a2;exact a2.elim
  |ok d3 Z3=>
   rw[q2] at a2;intro u G3 H3 e3 s3 r3;obtain ⟨G4,Z4,y,e4,r4,r5,a5⟩:=a2 u G3 H3 e3 s3 r3;exact i v u H3 G4 Z4 x y e4 r4 r5 a5
theorem U0{f:M D}{g:M (List D)}(ha:PE X e (tD X.K B G0 f))(hr:PA X es (tDs X.K B G0 g))(hs:UG (e::es) X.env=(false,eval e X.env)::UG es X.env:=by rfl) :
  PA X (e::es) (tDs X.K B G0 (UY f g)):=Vf (VQ ha hr hs) λσ H Q q=>tM.twoA q λv u H2 G Z x y k r1 r2 a=>aft.now a k (.cons r1 r2)
def Ze(f:M (List D)):M D:=Kr f λxs=>if xs.length<=1000000 then U1 (.tuple xs) else λ_=>.bad
def KR(f:M (List D)):M D:=Kr f λxs=>if xs.length<=1000000 then U1 (.list xs) else λ_=>.bad
theorem XR{x1}{f:M (List D)}(h:PA X es (tDs X.K B G0 f)):PE X (.Tuple es x1 pos) (tD X.K B G0 (Ze f)) :=
 KW (Ce h) λσ H Q q=>tM.one (R:=Reps X.K) q λv H2 G Z x k r a=>by
  split at a
  ·rename_i c
   refine ⟨by rw[r.length];exact QT c lim,λp hp=>?_⟩
   exact aft.done a k (Ext.new k.gh hp) (.tup (SqT.of Yx) (r.mono (Yw (k.gh.free hp))))
  ·exact a.elim
theorem Yi{f:M (List D)}(h:PA X es (tDs X.K B G0 f)):PE X (.List es pos) (tD X.K B G0 (KR f)) :=
 KW (LD h) λσ H Q q=>tM.one (R:=Reps X.K) q λv H2 G Z x k r a=>by
  split at a
  ·rename_i c
   refine ⟨by rw[r.length];exact QT c lim,λp hp=>?_⟩
   exact aft.done a k (Ext.new k.gh hp) (.lst (SqL.of Yx) (r.mono (Yw (k.gh.free hp))))
  ·exact a.elim
def oIx:D->D->Option D
 |.list xs,.int i=>atI xs i
 |.tuple xs,.int i=>atI xs i
 |.str z,.int i=>if z.length<=1000000 then (atI z.cps.toList i).map λc=>.str ⟨#[c]⟩ else none
 |_,_=>none
theorem Reps.atI{K:Frag}{G:Hp}{vs:List V}{ds:List D}{i:Int}{d:D}(r:Reps K G vs ds)(h:L2.atI ds i=some d):∃v,L2.atI vs i=some v/\Rep K G v d:=by
 unfold L2.atI at h ⊢;rw[r.length]
 cases z:ixN ds.length i with
 |none=>rw[z] at h;cases h
 |some j=>
  rw[z] at h;exact r.get (i:=j) h
theorem LT{K:Frag}{v u:V}{G H:Hp}{x y d:D}{Q:VK}(s:Same G H)(rx:Rep K G v x)(ry:Rep K G u y)(e:oIx x y=some d)(k:∀w,Rep K G w d->Q w H):rIx K v u H Q:=by
 unfold oIx at e
 split at e
 ·obtain ⟨l,vs,rfl,h1,r1⟩:=rx.lst_inv
  obtain ⟨w,e1,r2⟩:=r1.atI e;exact .inl ⟨l,vs,_,w,rfl,ry.int_inv,s.seq h1,e1,k w r2⟩
 ·obtain ⟨l,vs,rfl,h1,r1⟩:=rx.tup_inv
  obtain ⟨w,e1,r2⟩:=r1.atI e;exact .inr (.inl ⟨l,vs,_,w,rfl,ry.int_inv,We s h1,e1,k w r2⟩)
 ·split at e
  ·rename_i z i hz
   cases q:L2.atI z.cps.toList i with
   |none=>rw[q] at e;cases e
   |some ch=>
    rw[q] at e;cases e;exact .inr (.inr ⟨z,i,ch,rx.str_inv,ry.int_inv,QT hz lim,q,k _ (.str _)⟩)
  ·cases e
 ·cases e
theorem WX{f g:M D}(ha:PE X a (tD X.K B G0 f))(hb:PE X b (tD X.K B G0 g))(hs:Mh b):PE X (.Subscript a b pos) (tD X.K B G0 (U3 oIx f g)) :=
 KW (Lv LV ha hb hs) λσ H Q q=>tM.two q λv u H2 G Z x y k rx ry a=>by
  obtain ⟨d,e,a⟩:=a.opt;exact LT k.gh rx ry e λw r=>a.now k r
def Ki(i:Nat)(g:M D):M D:=λZ=>match Z[i]? with
 |some (some (.pub d))=>(Kr g λy=>Ks (oIx d y)) Z
 |some (some (.own _))=>(Kr g λy=>λZ'=>match Z'[i]? with|some (some (.own ds))=>Ks (oIx (.list ds) y) Z'|_=>.bad) Z
 |_=>.bad
theorem K5{i:Nat}{g:M D}(ha:PE X a (ZT i))(hb:PE X b (tD X.K B G0 g))(hs:Mh b):PE X (.Subscript a b pos) (tD X.K B G0 (Ki i g)) :=
 KW (Lv LV ha hb hs) λσ H Q ⟨G,Z,k,a⟩=>by
  unfold Ki at a
  cases q:Z[i]? with
  |none=>rw[q] at a;exact a.elim
  |some o=>
   cases o with
   |none=>rw[q] at a;exact a.elim
   |some sl=>
    cases sl with
    |deep _ _=>rw[q] at a;exact a.elim
    |pub d=>
     rw[q] at a;obtain ⟨v,h1,h2⟩:=k.pub i d q;refine ⟨v,h1,G,Z,k,?_⟩;dsimp only[Kr] at a
     cases z:g Z with
     |bad=>rw[z] at a;exact a.elim
     |ok y Z1=>
      rw[z] at a;intro u G' H' k' s' r';obtain ⟨d',e',a'⟩:=aft.opt a;exact LT k'.gh (h2.mono s') r' e' λw r=>a' w G' H' k' s' r
    |own ds=>
     rw[q] at a;obtain ⟨ad,vs,h1,h2,h3,h4,h5⟩:=k.own i ds q;refine ⟨.ref ad,h1,G,Z,k,?_⟩;dsimp only[Kr] at a
     cases z:g Z with
     |bad=>rw[z] at a;exact a.elim
     |ok y Z1=>
      rw[z] at a;dsimp only at a;intro u G' H' k' s' r'
      cases z2:Z1[i]? with
      |none=>rw[z2] at a;exact a.elim
      |some o2=>
       cases o2 with
       |none=>rw[z2] at a;exact a.elim
       |some sl2=>
        cases sl2 with
        |deep _ _=>rw[z2] at a;exact a.elim
        |pub d2=>rw[z2] at a;exact a.elim
        |own es2=>
         rw[z2] at a;obtain ⟨d',e',a'⟩:=aft.opt a;obtain ⟨ad',vs',g1,g2,g3,g4,g5⟩:=k'.own i es2 z2;rw[h1] at g1;cases g1;unfold oIx at e'
         cases y with
         |int j=>
          obtain ⟨w,e1,r2⟩:=g5.atI e';exact .inl ⟨ad,vs',j,w,rfl,r'.int_inv,SqL.of g4,e1,a' w G' H' k' s' r2⟩
         |_=>cases e'
def cutD(xs:List D)(lo hi:Option Int):List D:=(xs.drop (HT.sIx xs.length 0 lo)).take (HT.sIx xs.length xs.length hi-HT.sIx xs.length 0 lo)
theorem Reps.cut{K:Frag}{G:Hp}{vs:List V}{ds:List D}(r:Reps K G vs ds)(lo hi:Option Int):Reps K G (WC vs lo hi) (cutD ds lo hi):=by
 unfold WC cutD;rw[r.length];exact (r.drop _).take _
def Y2:D->Option (Option Int)
 |.int i=>some (some i)
 |_=>none
theorem VE:PO X none (tOi X.K B G0 (U1 none)):=poof CN λσ H Q ⟨G,Z,k,a⟩=>aft.now a k rfl
theorem Xw{f:M D}(h:PE X e (tD X.K B G0 f)):PO X (some e) (tOi X.K B G0 (Kr f λx=>Ks (Y2 x))):=poof (CM h) λσ H Q q=>tM.one (R:=Rep X.K) q λv H2 G Z x k r a=>by
 cases x with
 |int i=>exact ⟨i,r.int_inv,aft.now (v:=some i) a k rfl⟩
 |_=>exact a.elim
end
def V9:List (D×D)->Bool
 |(.none,_)::_=>true
 |_=>false
def Wu:D->String
 |.none=> "NoneType"
 |.bool _=> "bool"
 |.int _=> "int"
 |.str _=> "str"
 |.list _=> "list"
 |.tuple _=> "tuple"
 |.dict kvs=>if V9 kvs=true then "" else "dict"
def Zh(d:D)(c:String):Bool:=Wu d==c || (Wu d == "bool" && c == "int")
def PU:D->Bool
 |.dict kvs=>V9 kvs
 |_=>false
theorem LS{ks:List Key}{ds:List D}:Wu (.dict ((ks.map kD).zip ds)) = "dict" /\ PU (.dict ((ks.map kD).zip ds))=false:=by
 cases ks with
 |nil=>exact ⟨rfl,rfl⟩
 |cons k ks=>
  cases ds with
  |nil=>exact ⟨rfl,rfl⟩
  |cons d ds=>cases k <;> exact ⟨rfl,rfl⟩
theorem Bg(K:Frag)(d:D)(c:String)(nx:PU d=false)(hc:c = "int" ∨ c = "bool" ∨ c = "str" ∨ c = "list" ∨ c = "tuple" ∨ c = "dict"):PySem.W.kitOne K (.type (Wu d)) (.type c)=some (Zh d c):=by
 cases d with
 |dict kvs=>
  have e:Wu (.dict kvs) = "dict" := by
   have nx:V9 kvs=false:=nx
   show (if V9 kvs=true then "" else "dict")=_
   rw[nx];rfl
  unfold Zh;rw[e];rcases hc with rfl|rfl|rfl|rfl|rfl|rfl <;> rfl
 |_=>rcases hc with rfl|rfl|rfl|rfl|rfl|rfl <;> rfl
section
variable{X:Cx}{B G0:Hp}{e a b c:UD}{pos:Pos}{es rest:List UD}
def XT(X:Cx)(f:Uy)(p:List D->Option D):Prop :=
 ∃r,XJ X f r/\∀vs G H ds d Q,Same G H->Reps X.K G vs ds->p ds=some d->(∀w G' H',Ext G H G' H'->Rep X.K G' w d->Q w H')->r vs H Q
def ZN(p:List D->Option D)(f:M (List D)):M D:=Kr f λxs=>Ks (p xs)
theorem YG{x:Str}{p2:Pos}{id:String}{p:List D->Option D}{f:M (List D)}(hc:XT X (.builtin id) p)(hg:Gl X x)(hm:X.mg x=none)(hv:bootBuiltins x=some (.builtin id))(ha:PA X (e::es) (tDs X.K B G0 f))(hn:x ≠ "__name__" := by decide)(hdb:(x==("__debug__" : Str))=false:=by decide)
  (he:UG (e::es) X.env=(false,eval e X.env)::UG es X.env:=by rfl) (hpl:(backTo pos (UG es X.env)).any (·.1)=false:=by rfl):PE X (.Call (.Name x p2) (e::es) [] pos) (tD X.K B G0 (ZN p f)):=by
 obtain ⟨r,h,i⟩:=hc;refine KW (Nh h hg hm hv ha hn hdb he hpl) λσ H Q q=>tM.one (R:=Reps X.K) q λv H2 G Z x k rr a=>?_;obtain ⟨d,e,a⟩:=a.opt;exact i v G H2 x d Q k.gh rr e λw G' H' ex rw=>a.done k ex rw
theorem jh{x:Str}{p2:Pos}{T:String}{p:List D->Option D}{f:M (List D)}(hc:XT X (.type T) p)(hg:Gl X x)(hm:X.mg x=none)(hv:bootBuiltins x=some (.type T))(ha:PA X (e::es) (tDs X.K B G0 f))(hn:x ≠ "__name__" := by decide)(hdb:(x==("__debug__" : Str))=false:=by decide)
  (he:UG (e::es) X.env=(false,eval e X.env)::UG es X.env:=by rfl) (hpl:(backTo pos (UG es X.env)).any (·.1)=false:=by rfl):PE X (.Call (.Name x p2) (e::es) [] pos) (tD X.K B G0 (ZN p f)):=by
 obtain ⟨r,h,i⟩:=hc;refine KW (NC h hg hm hv ha hn hdb he hpl) λσ H Q q=>tM.one (R:=Reps X.K) q λv H2 G Z x k rr a=>?_;obtain ⟨d,e,a⟩:=a.opt;exact i v G H2 x d Q k.gh rr e λw G' H' ex rw=>a.done k ex rw
theorem Reps.nil_inv{K:Frag}{G:Hp}{vs:List V}(r:Reps K G vs []):vs=[]:=by cases r;rfl
theorem Reps.one_inv{K:Frag}{G:Hp}{vs:List V}{d:D}(r:Reps K G vs [d]):∃v,vs=[v]/\Rep K G v d:=by
 cases r with
 |cons h t=>cases t;exact ⟨_,rfl,h⟩
theorem Reps.two_inv{K:Frag}{G:Hp}{vs:List V}{d d':D}(r:Reps K G vs [d,d']):∃v v',vs=[v,v']/\Rep K G v d/\Rep K G v' d':=by
 cases r with
 |cons h t=>
  obtain ⟨v',rfl,r'⟩:=t.one_inv;exact ⟨_,v',rfl,h,r'⟩
def Ku:List D->Option D
 |[.list xs]=>some (.int xs.length)
 |[.tuple xs]=>some (.int xs.length)
 |[.str z]=>if z.length<=1000000 then some (.int z.length) else none
 |_=>none
theorem Wc:XT X (.builtin "len") Ku:=by
 refine ⟨_,Gx,λvs G H ds d Q s r e k=>?_⟩;unfold Ku at e
 split at e
 ·cases e
  obtain ⟨v,rfl,q⟩:=r.one_inv;obtain ⟨l,ws,rfl,h1,r1⟩:=q.lst_inv;exact ⟨.ref l,ws.length,rfl,.inl ⟨ws,s.seq h1,rfl⟩,by rw[r1.length];exact k _ G H (.refl s) (.int _)⟩
 ·cases e
  obtain ⟨v,rfl,q⟩:=r.one_inv;obtain ⟨l,ws,rfl,h1,r1⟩:=q.tup_inv;exact ⟨.ref l,ws.length,rfl,.inr ⟨ws,We s h1,rfl⟩,by rw[r1.length];exact k _ G H (.refl s) (.int _)⟩
 ·split at e
  ·rename_i z hz
   cases e;obtain ⟨v,rfl,q⟩:=r.one_inv
   exact ⟨.str z,z.length,by rw[q.str_inv],⟨QT hz lim,rfl⟩,k _ G H (.refl s) (.int _)⟩
  ·cases e
 ·cases e
def PR:List D->Option D
 |[.int i,.int j]=>some (.int (if j > i then j else i))
 |_=>none
theorem LR(hc:X.calm=true):XT X (.builtin "max") PR:=by
 refine ⟨_,qE hc,λvs G H ds d Q s r e k=>?_⟩;unfold PR at e
 split at e
 ·cases e
  obtain ⟨v,v',rfl,r1,r2⟩:=r.two_inv;exact ⟨_,_,by rw[r1.int_inv,r2.int_inv],k _ G H (.refl s) (.int _)⟩
 ·cases e
def ZM(i:Nat):M D:=λZ=>match Z[i]? with
 |some (some (.pub d))=>Ks (Ku [d]) Z
 |some (some (.own ds))=>.ok (.int ds.length) Z
 |_=>.bad
theorem Yq{i:Nat}{p2:Pos}(hg:Gl X "len")(hm:X.mg "len" = none)(ha:PE X e (ZT i))(he:UG [e] X.env=[(false,eval e X.env)]:=by rfl):PE X (.Call (.Name "len" p2) [e] [] pos) (tD X.K B G0 (ZM i)):=by
 refine KW (Nh Gx hg hm PySem.boot_len (VQ ha Sv (by rw[he];rfl)) (by decide) (by decide) (by rw[he];rfl) rfl) λσ H Q ⟨G,Z,k,a⟩=>?_
 unfold ZM at a
 cases q:Z[i]? with
 |none=>rw[q] at a;exact a.elim
 |some o=>
  cases o with
  |none=>rw[q] at a;exact a.elim
  |some sl=>
   cases sl with
   |deep _ _=>rw[q] at a;exact a.elim
   |pub d=>
    rw[q] at a;obtain ⟨v,h1,h2⟩:=k.pub i d q;refine ⟨v,h1,?_⟩;obtain ⟨d',e',a'⟩:=aft.opt a;obtain ⟨r,hr,ir⟩:=@Wc X;show ∃x n,[v]=[x]/\LenV X.K x H n/\Q (.int n) H;unfold Ku at e'
    split at e'
    ·rename_i xs he'
     injection he' with he1 he2;subst he1;cases e';obtain ⟨l,ws,rfl,g1,r1⟩:=h2.lst_inv;exact ⟨.ref l,ws.length,rfl,.inl ⟨ws,k.gh.seq g1,rfl⟩,by rw[r1.length];exact a'.now k (.int _)⟩
    ·rename_i xs he'
     injection he' with he1 he2;subst he1;cases e';obtain ⟨l,ws,rfl,g1,r1⟩:=h2.tup_inv;exact ⟨.ref l,ws.length,rfl,.inr ⟨ws,We k.gh g1,rfl⟩,by rw[r1.length];exact a'.now k (.int _)⟩
    ·rename_i z he'
     injection he' with he1 he2;subst he1
     split at e'
     ·rename_i hz
      cases e';exact ⟨.str z,z.length,by rw[h2.str_inv],⟨QT hz lim,rfl⟩,a'.now k (.int _)⟩
     ·cases e'
    ·cases e'
   |own ds=>
    rw[q] at a;obtain ⟨ad,vs,h1,g2,g3,h4,h5⟩:=k.own i ds q;exact ⟨.ref ad,h1,.ref ad,vs.length,rfl,.inl ⟨vs,SqL.of h4,rfl⟩,by rw[h5.length];exact aft.now a k (.int _)⟩
theorem Bf{pins:List (UB×Obj)}{s:Uz}{σ:St}{G H:Hp}{v:V}{u:Uy}{d:D}{cv:Uy}{t:Bool}{A:Around}{E:Uy->Uz->Prop}{Q:Uy->Uz->Prop}(I:Inv X pins σ H s)(sg:Same G H)(r:Rep X.K G v d)(rv:RelV v u)(nx:PU d=false)
  (ek:PySem.W.kitOne X.K (.type (Wu d)) cv=some t) (h:∀tk,Q (.bool t) { s with toks:=tk }):UF (model X.prog X.w) A (call (.builtin "isinstance") [u,cv]) Q E s:=by
 cases r with
 |non=>cases rv;exact JG PySem.W.kitx_none I.kIn True.intro ek (λz=>nomatch z) h
 |bl y=>cases rv;exact JG PySem.W.kitx_bool I.kIn True.intro ek (λz=>nomatch z) h
 |int i=>obtain ⟨t',rfl⟩:=rv;exact JG PySem.W.kitx_int I.kIn True.intro ek (λz=>nomatch z) h
 |str y=>obtain ⟨t',rfl⟩:=rv;exact JG PySem.W.kitx_str I.kIn True.intro ek (λz=>nomatch z) h
 |lst hl _=>
  cases rv;obtain ⟨its,r,⟨o,n,e,hc,_,hd⟩,hz⟩:=I.list (sg.seq hl)
  exact JG PySem.W.kitx_list I.kIn ⟨o,e,hc⟩ ek (λz=>nomatch z) h
 |tup hl _=>
  cases rv;obtain ⟨its,r,p,hz⟩:=I.tuple (We sg hl)
  obtain ⟨o,e,hc,_⟩:=p;exact JG PySem.W.kitx_tuple I.kIn ⟨o,e,hc⟩ ek (λz=>nomatch z) h
 |@dic ad hd=>
  cases rv;obtain ⟨_,_,vs,_,p⟩:=(show Y4 X.prog X.w H s.heap ad (.dK []) from I.hok ad _ (sg _ _ hd))
  obtain ⟨o,es,ep,h1,h2,_⟩:=p;exact JG PySem.W.kitx_dict I.kIn ⟨o,h1,h2.1⟩ ek (λz=>nomatch z) h
 |exc _ _ _ _=>cases nx
 |@dct ad ks vs ds kvs e0 _ _ hd _=>
  cases rv;subst e0
  rw[LS.1] at ek;obtain ⟨_,_,vs,_,p⟩:=(show Y4 X.prog X.w H s.heap ad (.dK (ks.zip _)) from I.hok ad _ (sg _ _ hd))
  obtain ⟨o,es,ep,h1,h2,_⟩:=p;exact JG PySem.W.kitx_dict I.kIn ⟨o,h1,h2.1⟩ ek (λz=>nomatch z) h
 |@dtt ad ob ks vs ds kvs e0 _ hd _=>
  cases rv;subst e0
  obtain ⟨_,_,_,xs,_,o,es,ep,h1,h2,_⟩:=(show Y4 X.prog X.w H s.heap ad (.frz ob (.dT (ks.zip _))) from I.hok ad _ (sg _ _ hd))
  exact JG PySem.W.kitx_dict I.kIn ⟨o,h1,h2.1⟩ ek (λz=>nomatch z) h
theorem Be(c:String)(hc:c = "int" ∨ c = "bool" ∨ c = "str" ∨ c = "list" ∨ c = "tuple" ∨ c = "dict"):typeOf (.type c)=pure (.type "type"):=by
 rcases hc with rfl|rfl|rfl|rfl|rfl|rfl <;> kernel_rfl
theorem AF:XJ X (.builtin "isinstance") (λxs H Q=>∃v c G d,xs=[v,.ty c]/\Same G H/\Rep X.K G v d/\(c = "int" ∨ c = "bool" ∨ c = "str" ∨ c = "list" ∨ c = "tuple" ∨ c = "dict")/\Q (.bl (Zh d c)) H):=by
 intro pins s σ H xs us Q I r h;obtain ⟨v,c,G,d,rfl,sg,rp,hc,q⟩:=h;obtain ⟨u,w',rfl,r1,r2⟩:=NH r
 cases (show w'=Value.type c from r2)
 by_cases nx:PU d=true
 ·cases rp with
  |@exc a C dd bm nm vs ds ck hx hd rr=>
   refine AH (ES I.ok.mod.kin) pins s σ H [.ref a,.ty c] [u,.type c] Q I r ⟨a,C,dd,bm,false,.ty c,false,rfl,⟨nm,ck⟩,sg _ _ hx,.inr ⟨c,rfl,Be c hc,?_⟩,?_⟩
   ·rw[ck.ty];rcases hc with rfl|rfl|rfl|rfl|rfl|rfl <;> rfl
   ·have e:Zh (.dict [(.none,.tuple [.str nm,.list ds])]) c=false:=by rcases hc with rfl|rfl|rfl|rfl|rfl|rfl <;> rfl
    rw[e] at q;exact q
  |dct e _ _ _ _=>subst e;rw[LS.2] at nx;cases nx
  |dtt e _ _ _=>subst e;cases nx
  |_=>cases nx
 ·have nx:PU d=false:=by simpa using nx
  exact Bf I sg rp r1 nx (Bg X.K d c nx hc) λtk=>⟨.bl _,H,I.tok tk,rfl,q⟩
theorem kY:bootBuiltins "isinstance" = some (.builtin "isinstance"):=by decide +kernel
theorem Wk{f:M D}{p2 p3:Pos}{c:String}(hc:c = "int" ∨ c = "bool" ∨ c = "str" ∨ c = "list" ∨ c = "tuple" ∨ c = "dict")(hg:Gl X "isinstance")(hm:X.mg "isinstance" = none)(hg2:Gl X (US c))(hm2:X.mg (US c)=none)
  (hv2:bootBuiltins (US c)=some (.type c)) (ha:PE X e (tD X.K B G0 f)) (hn2:(US c) ≠ "__name__") (hd2:((US c)==("__debug__" : Str))=false)
  (hs:UG [e,.Name (US c) p3] X.env=(false,eval e X.env)::UG [.Name (US c) p3] X.env:=by rfl)
  (hs2:UG [.Name (US c) p3] X.env=[(false,eval (.Name (US c) p3) X.env)]:=by rfl) :
  PE X (.Call (.Name "isinstance" p2) [e,.Name (US c) p3] [] pos) (tD X.K B G0 (Ka (λd=>.bool (Zh d c)) f)):=by
 refine KW (Nh AF hg hm kY (VQ ha (VQ (CY (v:=.ty c) hg2 hm2 hv2 rfl hn2 hd2) Sv (by rw[hs2];rfl)) hs) (by decide) (by decide) hs (by rw[hs2];rfl)) λσ H Q q=>?_
 refine tM.one (R:=Rep X.K) q λv H2 G Z x k r a=>?_;exact ⟨v,c,G,x,rfl,k.gh,r,hc,aft.now a k (.bl _)⟩
end
def spD(K:Frag)(n:Nat)(F:List D->Option D):Sp:=λvs H Q _=>∃G ds d,vs.length=n/\Same G H/\Reps K G vs ds/\F ds=some d/\∀v G' H',Ext G H G' H'->Rep K G' v d->Q v H'
section
variable{K:Frag}{B G0 G H:Hp}{σ:St}{Z:UR}
theorem EOk.exit(k:EOk K B G0 G H σ Z):Ext G0 B G H:=⟨k.bh,k.g0,k.gh,k.np⟩
theorem Vd{α:Type}{l:List α}{i:Nat}{x y:α}(h:(l.set i x)[i]?=some y):y=x:=by
 by_cases hl:i<l.length
 ·rw[QJ hl] at h;cases h;rfl
 ·rw[QD (by rw[QY];omega)] at h;cases h
theorem DpOk.setOther{i:Nat}{x:Option V}{y:Option Sl}(k:DpOk K B G H σ Z)(hy:∀s,y=some s->∃d,s=.pub d):DpOk K B G H (σ.set i x) (Z.set i y):=by
 have nz:∀{m:Nat}{s:Sl},(Z.set i y)[m]?=some (some s)->(∃d,s=.pub d)∨(Z[m]?=some (some s)/\(σ.set i x)[m]?=σ[m]?):=λ{m s} q=>by
  by_cases z:i=m
  ·subst z
   exact .inl (hy s (Vd q).symm)
  ·rw[Qu z] at q ⊢;exact .inr ⟨q,rfl⟩
 refine k.map (λm p d q=>?_) (λm es q=>?_) λm p d v fp q s r w n=>⟨r,w⟩
 ·rcases nz q with ⟨_,e⟩|q
  ·cases e
  ·exact q
 ·rcases nz q with ⟨_,e⟩|q
  ·cases e
  ·exact ⟨es,q⟩
theorem EOk.setPub{i:Nat}{v:V}{d:D}(k:EOk K B G0 G H σ Z)(r:Rep K G v d)(hi:i<Z.length):EOk K B G0 G H (σ.set i (some v)) (Z.set i (some (.pub d))) where
 bh:=k.bh
 gh:=k.gh
 g0:=k.g0
 np:=k.np
 len:=by rw[QY,QY];exact k.len
 pub:=λj d' q=>by
  by_cases z:i=j
  ·subst z
   have:=Vd q
   cases this;exact ⟨v,QJ (by rw[←k.len];exact hi),r⟩
  ·rw[Qu z] at q ⊢
   exact k.pub j d' q
 own:=λj ds q=>by
  by_cases z:i=j
  ·subst z
   have:=Vd q
   cases this
  ·rw[Qu z] at q ⊢
   exact k.own j ds q
 sep:=λj l c es fs q1 q2 s1 s2=>by
  have z1:i≠j:=λz=>by subst z;have:=Vd q1;cases this
  have z2:i≠l:=λz=>by subst z;have:=Vd q2;cases this
  rw[Qu z1] at q1 s1;rw[Qu z2] at q2 s2;exact k.sep j l c es fs q1 q2 s1 s2
 dp:=k.dp.setOther (λs e=>by cases e;exact ⟨_,rfl⟩)
structure NewL(K:Frag)(B G H:Hp)(σ:St)(Z:UR)(a:UB)(vs:List V)(ds:List D):Prop where
 b:B a=none
 g:G a=none
 h:H a=some (.lst vs)
 r:Reps K G vs ds
 f:∀(j:Nat) es,Z[j]?=some (some (.own es))->σ[j]?≠some (some (.ref a))
 dp:∀(j:Nat) p d v fp,Z[j]?=some (some (.deep p d))->σ[j]?=some (some v)->RepO K G H p v d fp->a∉fp
theorem EOk.freshD{H':Hp}{a:UB}(k:EOk K B G0 G H σ Z)(e:Same H H')(ha:H a=none){G':Hp}{j:Nat}{p:Pat}{d:D}{v:V}{fp:List UB}(q:Z[j]?=some (some (.deep p d)))(s:σ[j]?=some (some v))(r:RepO K G' H' p v d fp):a∉fp:=λm=>by
 obtain ⟨ω,k1,k2⟩:=k.dp;obtain ⟨v',fp',s',r',n,w⟩:=k1 j p d q;rw[s] at s';cases s';have u:=r'.uniq e r;subst u;obtain ⟨ws,hl⟩:=r'.isl a m;rw[ha] at hl;cases hl
theorem EOk.setOwn{i:Nat}{a:UB}{vs:List V}{ds:List D}(k:EOk K B G0 G H σ Z)(n:NewL K B G H σ Z a vs ds)(hi:i<Z.length):EOk K B G0 G H (σ.set i (some (.ref a))) (Z.set i (some (.own ds))) where
 bh:=k.bh
 gh:=k.gh
 g0:=k.g0
 np:=k.np
 len:=by rw[QY,QY];exact k.len
 pub:=λj d' q=>by
  by_cases z:i=j
  ·subst z
   have:=Vd q
   cases this
  ·rw[Qu z] at q ⊢
   exact k.pub j d' q
 own:=λj es q=>by
  by_cases z:i=j
  ·subst z
   have:=Vd q
   cases this;exact ⟨a,vs,QJ (by rw[←k.len];exact hi),n.b,n.g,n.h,n.r⟩
  ·rw[Qu z] at q ⊢
   exact k.own j es q
 sep:=λj l c es fs q1 q2 s1 s2=>by
  have hs:i<σ.length:=by rw[←k.len];exact hi
  by_cases z1:i=j
  ·subst z1
   rw[QJ hs] at s1;cases s1
   by_cases z2:i=l
   ·exact z2
   ·rw[Qu z2] at q2 s2
    exact absurd s2 (n.f l fs q2)
  ·by_cases z2:i=l
   ·subst z2
    rw[QJ hs] at s2;cases s2;rw[Qu z1] at q1 s1;exact absurd s1 (n.f j es q1)
   ·rw[Qu z1] at q1 s1
    rw[Qu z2] at q2 s2;exact k.sep j l c es fs q1 q2 s1 s2
 dp:=by
  obtain ⟨ω,k1,k2⟩:=k.dp;have hs:i<σ.length:=by rw[←k.len];exact hi
  refine ⟨λb=>if b=a then i else ω b,λj p d q=>?_,λj es b q s=>?_⟩
  ·by_cases z:i=j
   ·subst z;have:=Vd q;cases this
   ·rw[Qu z] at q ⊢
    obtain ⟨v,fp,s,r,nn,w⟩:=k1 j p d q;refine ⟨v,fp,s,r,nn,λb m=>⟨(w b m).1,(w b m).2.1,?_⟩⟩;dsimp only;rw[Qs (λz=>n.dp j p d v fp q s r (by rw[←z];exact m))]
    exact (w b m).2.2
  ·by_cases z:i=j
   ·subst z
    rw[QJ hs] at s;cases s;dsimp only;rw[Ql rfl]
   ·rw[Qu z] at q s
    dsimp only;rw[Qs (λe=>n.f j es q (by rw[←e];exact s))]
    exact k2 j es b q s
theorem EOk.change{i:Nat}{a:UB}{vs:List V}{ds es:List D}(k:EOk K B G0 G H σ Z)(q:Z[i]?=some (some (.own ds)))(ha:σ[i]?=some (some (.ref a)))(r:Reps K G vs es) :
  EOk K B G0 G (upd H a (.lst vs)) σ (Z.set i (some (.own es))):=by
 obtain ⟨a',ws,h1,h2,h3,h4,h5⟩:=k.own i ds q;rw[ha] at h1;cases h1;have hi:i<Z.length:=(Qg.mp q).1;refine ⟨λb o e=>?_,λb o e=>?_,k.g0,k.np,by rw[QY];exact k.len,λj d' e=>?_,λj fs e=>?_,λj l c fs gs q1 q2 s1 s2=>?_,?_⟩
 ·rw[ZA (Wl e h2)];exact k.bh b o e
 ·rw[ZA (Wl e h3)];exact k.gh b o e
 ·by_cases z:i=j
  ·subst z
   have:=Vd e
   cases this
  ·rw[Qu z] at e
   exact k.pub j d' e
 ·by_cases z:i=j
  ·subst z
   have:=Vd e
   cases this;exact ⟨a,vs,ha,h2,h3,Yx,r⟩
  ·rw[Qu z] at e
   obtain ⟨c,us,g1,g2,g3,g4,g5⟩:=k.own j fs e;have zc:c≠a:=λw=>z (k.sep i j a ds fs q e ha (by rw[←w];exact g1))
   exact ⟨c,us,g1,g2,g3,by rw[ZA zc];exact g4,g5⟩
 ·have f:∀{m:Nat}{ts:List D},(Z.set i (some (Sl.own es)))[m]?=some (some (.own ts))->∃ts',Z[m]?=some (some (.own ts')):=λ{m ts} e=>by
   by_cases z:i=m
   ·subst z;exact ⟨ds,q⟩
   ·rw[Qu z] at e;exact ⟨ts,e⟩
  obtain ⟨f1,w1⟩:=f q1;obtain ⟨f2,w2⟩:=f q2;exact k.sep j l c f1 f2 w1 w2 s1 s2
 ·refine k.dp.map (λj p d e=>?_) (λj fs e=>?_) λj p d v fp qj s rj w n=>⟨rj.upd (λ_ z=>by rw[h4] at z;cases z) (n i ds a q ha),w⟩
  ·by_cases z:i=j
   ·subst z;have:=Vd e;cases this
   ·rw[Qu z] at e;exact ⟨e,rfl⟩
  ·by_cases z:i=j
   ·subst z;exact ⟨ds,q,rfl⟩
   ·rw[Qu z] at e;exact ⟨fs,e,rfl⟩
end
inductive Out where
 |nx (Z:UR)|rt (d:D)|bk (Z:UR)|ct (Z:UR)|ex (Z:UR) (d:D)|bad
abbrev SM:=UR->Out
section
variable(K:Frag)(B G0:Hp)(KX:XW)
def aftS(o:Out)(G1:Hp)(Dn:Ends):Prop :=
 match o with
 |.nx Z=>∀σ G H,EOk K B G0 G H σ Z->Same G1 G->Dn.nx σ H
 |.bk Z=>∀σ G H,EOk K B G0 G H σ Z->Same G1 G->Dn.bk σ H
 |.ct Z=>∀σ G H,EOk K B G0 G H σ Z->Same G1 G->Dn.ct σ H
 |.rt d=>∀v G H,Ext G0 B G H->Rep K G v d->Dn.rt v H
 |.ex Z d=>∀v σ G H,EOk K B G0 G H σ Z->Same G1 G->Rep K G v d->KX v σ H
 |.bad=>False
def tS(g:SM):TS:=λDn σ H=>∃G Z,EOk K B G0 G H σ Z/\aftS K B G0 KX (g Z) G Dn
def sB{α:Type}(f:M α)(g:α->SM):SM:=λZ=>match f Z with | .ok a Z'=>g a Z' | .bad=>.bad
end
section
variable{X:Cx}{B G0:Hp}{KX:XW}{e a b c:UD}{pos:Pos}{es rest:List UD}{st:Stmt}{sts sts2:List Stmt}
theorem aftS.mono{K:Frag}{o:Out}{G G':Hp}{Dn:Ends}(e:Same G G')(h:aftS K B G0 KX o G Dn):aftS K B G0 KX o G' Dn:=by
 cases o with
 |nx Z=>exact λσ G2 H2 k s=>h σ G2 H2 k (e.trans s)
 |bk Z=>exact λσ G2 H2 k s=>h σ G2 H2 k (e.trans s)
 |ct Z=>exact λσ G2 H2 k s=>h σ G2 H2 k (e.trans s)
 |rt d=>exact h
 |ex Z d=>exact λv σ G2 H2 k s r=>h v σ G2 H2 k (e.trans s) r
 |bad=>exact h
theorem tS.bnd{K:Frag}{α γ:Type}{R:Hp->γ->α->Prop}{f:M α}{g:α->SM}{Dn:Ends}{σ:St}{H:Hp}{P:γ->Hp->Prop}(q:tS K B G0 KX (sB f g) Dn σ H)
  (i:∀v H' G' Z' x,EOk K B G0 G' H' σ Z'->R G' v x->aftS K B G0 KX (g x Z') G' Dn->P v H'):tM K B G0 R f σ H P:=by
 obtain ⟨G,Z,k,a⟩:=q;refine ⟨G,Z,k,?_⟩;unfold sB at a
 cases z:f Z with
 |bad=>rw[z] at a;exact a.elim
 |ok d Z1=>
  rw[z] at a;exact λv G' H' e s r=>i v H' G' Z1 d e r (aftS.mono s a)
def sNx:SM:=λZ=>.nx Z
def U2(g h:SM):SM:=λZ=>match g Z with | .nx Z'=>h Z'|o=>o
theorem Zl:PSs X [] (tS X.K B G0 KX sNx):=Lq CU λD σ H ⟨G,Z,k,a⟩=>a σ G H k (.refl _)
theorem Kg{g h:SM}(h1:PS X st (tS X.K B G0 KX g))(h2:PSs X sts (tS X.K B G0 KX h)):PSs X (st::sts) (tS X.K B G0 KX (U2 g h)):=Lq (AT h1 h2) λD σ H ⟨G,Z,k,a⟩=>by
 refine ⟨G,Z,k,?_⟩;unfold U2 at a
 cases z:g Z with
 |nx Z1=>rw[z] at a;exact λσ' G' H' k' s'=>⟨G',Z1,k',aftS.mono s' a⟩
 |rt d=>rw[z] at a;exact a
 |bk Z1=>rw[z] at a;exact a
 |ct Z1=>rw[z] at a;exact a
 |ex Z1 d=>rw[z] at a;exact a
 |bad=>rw[z] at a;exact a.elim
theorem Kj{g:SM}(h1:PS X st (tS X.K B G0 KX g)):PSs X [st] (tS X.K B G0 KX g):=CT h1
def VC:SM:=λ_=>.bad
theorem VS:PS X st (tS X.K B G0 KX VC):=λ_ _ _ _ _ _ ⟨_,_,_,a⟩=>a.elim
def U9(f:M D):SM:=sB f λd _=>.rt d
theorem KH{f:M D}(h:PE X e (tD X.K B G0 f)):PS X (.Return (some e) pos) (tS X.K B G0 KX (U9 f)):=Yn (Cs h) λD σ H q=>tS.bnd (R:=Rep X.K) q λv H' G' Z' x k r a=>a v G' H' k.exit r
def Wb(f:M D):SM:=sB f λ_ Z=>.nx Z
theorem Va{f:M D}(h:PE X e (tD X.K B G0 f))(hs:swapsWith e none pos.line X.env=pure false:=by rfl):PS X (.Expr e pos) (tS X.K B G0 KX (Wb f)):=Yn (HJ h hs) λD σ H q=>tS.bnd (R:=Rep X.K) q λv H' G' Z' x k r a=>a σ G' H' k (.refl _)
def sIf(f:M Bool)(g h:SM):SM:=sB f λt=>if t=true then g else h
theorem Zd{f:M Bool}{g h:SM}(hc:PT X c (tBo X.K B G0 f))(ha:PSs X sts (tS X.K B G0 KX g))(hb:PSs X sts2 (tS X.K B G0 KX h)):PS X (.If c sts sts2 pos) (tS X.K B G0 KX (sIf f g h)) :=
 Yn (Dj hc ha hb) λD σ H q=>tS.bnd (R:=λ_ b c=>b=c) q λv H' G' Z' x k r a=>by
  have r:v=x:=r;subst r
  cases v with
  |true=>exact ⟨G',Z',k,a⟩
  |false=>exact ⟨G',Z',k,a⟩
def tG(K:Frag)(B G0:Hp)(s:D->UR->Option UR):TG:=λv σ H Q=>∃G Z d Z',EOk K B G0 G H σ Z/\Rep K G v d/\s d Z=some Z'/\∀σ' G' H',EOk K B G0 G' H' σ' Z'->Same G G'->Q σ' H'
def tGs(K:Frag)(B G0:Hp)(s:List D->UR->Option UR):TGs:=λv σ H Q=>∃G Z d Z',EOk K B G0 G H σ Z/\Reps K G v d/\s d Z=some Z'/\∀σ' G' H',EOk K B G0 G' H' σ' Z'->Same G G'->Q σ' H'
theorem pgof{t t':TG}(h:PG X e t)(i:∀v σ H Q,t' v σ H Q->t v σ H Q):PG X e t':=λpins s σ H v u Q I r q=>h pins s σ H v u Q I r (i v σ H Q q)
theorem Li{t t':TGs}(h:PGs X es t)(i:∀v σ H Q,t' v σ H Q->t v σ H Q):PGs X es t':=λpins s σ H v u Q I r q=>h pins s σ H v u Q I r (i v σ H Q q)
def gN(i:Nat):D->UR->Option UR:=λd Z=>if i<Z.length then some (Z.set i (some (.pub d))) else none
theorem Kp{i:Nat}(h:PG X e (NI i)):PG X e (tG X.K B G0 (gN i)):=pgof h λv σ H Q ⟨G,Z,d,Z',k,r,e,q⟩=>by
 unfold gN at e
 split at e
 ·rename_i hi
  cases e;exact q _ G H (k.setPub r hi) (.refl _)
 ·cases e
def gN0:List D->UR->Option UR:=λd Z=>match d with | []=>some Z|_=>none
def gNC(s:D->UR->Option UR)(t:List D->UR->Option UR):List D->UR->Option UR:=λds Z=>match ds with|d::r=>(s d Z).bind (t r) | []=>none
theorem ZG:PGs X [] (tGs X.K B G0 gN0):=Li CS λv σ H Q ⟨G,Z,d,Z',k,r,e,q⟩=>by
 cases r with
 |nil=>cases e;exact ⟨rfl,q σ G H k (.refl _)⟩
 |cons _ _=>cases e
theorem KD{s:D->UR->Option UR}{t:List D->UR->Option UR}(h1:PG X e (tG X.K B G0 s))(h2:PGs X es (tGs X.K B G0 t))
  (hs:(UV (e::es) X.env).map (·.2)=assign e X.env::(UV es X.env).map (·.2):=by rfl):PGs X (e::es) (tGs X.K B G0 (gNC s t)):=Li (AS h1 h2 hs) λv σ H Q ⟨G,Z,d,Z',k,r,e,q⟩=>by
 cases r with
 |nil=>cases e
 |@cons w dw ws dws rw rt=>
  unfold gNC at e;dsimp only at e
  cases z:s dw Z with
  |none=>rw[z] at e;cases e
  |some Z1=>
   rw[z] at e;refine ⟨w,ws,rfl,G,Z,dw,Z1,k,rw,z,λσ' G' H' k' s'=>?_⟩;exact ⟨G',Z1,dws,Z',k',rt.mono s',e,λσ2 G2 H2 k2 s2=>q σ2 G2 H2 k2 (s'.trans s2)⟩
def gT(n:Nat)(t:List D->UR->Option UR):D->UR->Option UR:=λd Z=>match d with | .tuple ds=>if ds.length=n then t ds Z else none|_=>none
theorem ZE{k1:Nat}{t:List D->UR->Option UR}{n:Nat}(hc:X.calm=true)(h:PGs X es (tGs X.K B G0 t))
  (hn:(UV es X.env).length=n:=by rfl) (hst:(UV es X.env).findIdx? (·.1)=none:=by rfl):PG X (.Tuple es k1 pos) (tG X.K B G0 (gT n t)):=pgof (Cr hc h hn hst) λv σ H Q ⟨G,Z,d,Z',k,r,e,q⟩=>by
 unfold gT at e
 split at e
 ·split at e
  ·rename_i hl
   obtain ⟨ad,vs,rfl,h1,r1⟩:=r.tup_inv;exact ⟨ad,vs,rfl,We k.gh h1,by rw[r1.length];exact hl,G,Z,_,Z',k,r1,e,q⟩
  ·cases e
 ·cases e
def Z9(f:M D)(s:D->UR->Option UR):SM:=sB f λd Z=>match s d Z with|some Z'=>.nx Z'|none=>.bad
theorem VA{tg:UD}{f:M D}{s:D->UR->Option UR}(he:PE X e (tD X.K B G0 f))(hg:PG X tg (tG X.K B G0 s))(hs:swapsWithSole [tg] e pos.line X.env=pure false:=by rfl)(hw:swappedStores [tg] e X.env=pure none:=by rfl)
  (h1:(UV [tg] X.env).map (·.2)=[assign tg X.env]:=by rfl):PS X (.Assign [tg] e pos) (tS X.K B G0 KX (Z9 f s)) :=
 Yn (Cq he hg hs hw h1) λD σ H q=>tS.bnd (R:=Rep X.K) q λv H' G' Z' x k r a=>by
  cases z:s x Z' with
  |none=>rw[z] at a;exact a.elim
  |some Z2=>rw[z] at a;exact ⟨G',Z',x,Z2,k,r,z,λσ2 G2 H2 k2 s2=>a σ2 G2 H2 k2 s2⟩
def Km(i:Nat)(f:M D):SM:=Z9 f (gN i)
theorem K1{i:Nat}{x:Str}{f:M D}{p2:Pos}(hN:X.N.Nodup)(hi:X.N[i]?=some x)(hx:Loc X.env.scope x)(he:PE X e (tD X.K B G0 f))(hs:swapsWith e (some (.Name x p2)) pos.line X.env=pure false:=by rfl)
  (hf:X.fn x=true∨X.env.scope.names.lookup x=some .local:=by first|exact .inl rfl|exact .inr rfl|assumption):PS X (.Assign [.Name x p2] e pos) (tS X.K B G0 KX (Km i f)) :=
 Yn (LF hN hi hx he hs hf) λD σ H q=>tS.bnd (R:=Rep X.K) q λv H' G' Z' x k r a=>by
  unfold gN at a
  split at a
  ·rename_i Z2 hz
   split at hz
   ·rename_i hi2
    cases hz;exact a _ G' H' (k.setPub r hi2) (.refl _)
   ·cases hz
  ·exact a.elim
def tL(K:Frag)(B G0:Hp)(f:M (List D)):TE:=λσ H Q=>∃G Z,EOk K B G0 G H σ Z/\match f Z with
 |.ok ds Z'=>∀a vs G' H',EOk K B G0 G' H' σ Z'->Same G G'->NewL K B G' H' σ Z' a vs ds->Q (.ref a) H'
 |.bad=>False
def ZC(i:Nat)(f:M (List D)):SM:=sB f λds Z=>if i<Z.length then .nx (Z.set i (some (.own ds))) else .bad
theorem Wg{i:Nat}{x:Str}{f:M (List D)}{p2:Pos}(hN:X.N.Nodup)(hi:X.N[i]?=some x)(hx:Loc X.env.scope x)(he:PE X e (tL X.K B G0 f))(hs:swapsWith e (some (.Name x p2)) pos.line X.env=pure false:=by rfl)
  (hf:X.fn x=true∨X.env.scope.names.lookup x=some .local:=by first|exact .inl rfl|exact .inr rfl|assumption):PS X (.Assign [.Name x p2] e pos) (tS X.K B G0 KX (ZC i f)) :=
 Yn (LF hN hi hx he hs hf) λD σ H ⟨G,Z,k,a⟩=>by
  refine ⟨G,Z,k,?_⟩;unfold ZC sB at a
  cases z:f Z with
  |bad=>rw[z] at a;exact a.elim
  |ok ds Z1=>
   rw[z] at a;intro ad vs G' H' k' s' n;dsimp only at a
   split at a
   ·rename_i hl
    exact a _ G' H' (k'.setOwn n hl) s'
   ·exact a.elim
theorem NewL.of{K:Frag}{G H:Hp}{σ:St}{Z:UR}{p:UB}{vs:List V}{ds:List D}(k:EOk K B G0 G H σ Z)(hp:H p=none)(r:Reps K G vs ds):NewL K B G (upd H p (.lst vs)) σ Z p vs ds where
 b:=k.bh.free hp
 g:=k.gh.free hp
 h:=Yx
 r:=r
 f:=λj es q z=>by
  obtain ⟨a,ws,h1,h2,h3,h4,h5⟩:=k.own j es q;rw[z] at h1;cases h1;rw[hp] at h4;cases h4
 dp:=λj pt d v fp q s rr=>k.freshD (Yw hp) hp q s rr
theorem SF{f:M (List D)}(h:PA X es (tDs X.K B G0 f)):PE X (.List es pos) (tL X.K B G0 (Kr f λxs=>if xs.length<=1000000 then U1 xs else λ_=>.bad)) :=
 KW (LD h) λσ H Q ⟨G,Z,k,a⟩=>by
  refine ⟨G,Z,k,?_⟩;unfold Kr at a
  cases z:f Z with
  |bad=>rw[z] at a;exact a.elim
  |ok ds Z1=>
   rw[z] at a;dsimp only at a;intro v G' H' k' s' r
   by_cases c:ds.length<=1000000
   ·rw[Ql c] at a
    refine ⟨by rw[r.length];exact QT c lim,λp hp=>?_⟩
    exact a p v G' _ (k'.ext (Ext.hid k'.gh hp)) s' (NewL.of k' hp r)
   ·rw[Qs c] at a;exact a.elim
def Yy(i:Nat)(f:M D):SM:=λZ0=>match Z0[i]? with
 |some (some (.own _))=>sB f (λd Z=>match Z[i]? with
  |some (some (.own ds))=>if ds.length<1000000 then .nx (Z.set i (some (.own (ds++[d])))) else .bad
  |_=>.bad) Z0
 |_=>.bad
theorem VN{i:Nat}{f:M D}{o:UD}{apos cpos:Pos}(ho:PE X o (ZT i))(he:PE X e (tD X.K B G0 f))
  (hbase:attributeBase o "append" X.env (eval o X.env)=eval o X.env:=by rfl)
  (hfew:((backTo cpos (UG [e] X.env)).all (λx=>!x.1)&&(backToKw cpos (keywordEach [] X.env)).all (λx=>x.1.isSome)
   && decide ([e].length+([]:List Keyword).length+(if ([]:List Keyword).isEmpty then 0 else 1)<30))=true:=by rfl)
  (hline:(apos.endLine==cpos.line)=true:=by rfl) (hs:UG [e] X.env=[(false,eval e X.env)]:=by rfl)
  (hsw:swapsWith (.Call (.Attribute o "append" apos) [e] [] cpos) none pos.line X.env=pure false:=by rfl) :
  PS X (.Expr (.Call (.Attribute o "append" apos) [e] [] cpos) pos) (tS X.K B G0 KX (Yy i f)) :=
 Yn (HJ (NG PySem.F.plainAttrs_list PySem.F.slot_list_append PySem.F.type_list_append Fi ho (VQ he Sv (by rw[hs];rfl)) hbase hfew hline (by rw[hs];rfl) rfl) hsw) λD σ H ⟨G,Z,k,a⟩=>by
  unfold Yy at a
  cases q0:Z[i]? with
  |none=>rw[q0] at a;exact a.elim
  |some o0=>
   cases o0 with
   |none=>rw[q0] at a;exact a.elim
   |some sl0=>
    cases sl0 with
    |deep _ _=>rw[q0] at a;exact a.elim
    |pub d=>rw[q0] at a;exact a.elim
    |own ds0=>
     rw[q0] at a;obtain ⟨ad,vs0,h1,h2,h3,h4,h5⟩:=k.own i ds0 q0;refine ⟨.ref ad,h1,.inl ⟨rfl,_,SqL.of h4⟩,G,Z,k,?_⟩;unfold sB at a
     cases z:f Z with
     |bad=>rw[z] at a;exact a.elim
     |ok d Z1=>
      rw[z] at a;dsimp only at a;intro v G' H' k' s' r'
      cases q:Z1[i]? with
      |none=>rw[q] at a;exact a.elim
      |some o=>
       cases o with
       |none=>rw[q] at a;exact a.elim
       |some sl=>
        cases sl with
        |deep _ _=>rw[q] at a;exact a.elim
        |pub d=>rw[q] at a;exact a.elim
        |own ds=>
         rw[q] at a;dsimp only at a
         split at a
         ·rename_i hl
          obtain ⟨ad',vs,g1,g2,g3,g4,g5⟩:=k'.own i ds q;rw[h1] at g1;cases g1;refine ⟨ad,vs,v,rfl,rfl,g4,by rw[g5.length];exact QI hl lim,?_⟩
          exact a σ G' _ (k'.change q h1 (g5.append (.cons r' .nil))) s'
         ·exact a.elim
end
structure WT(K:Frag)(J:It)(ds:List D)(G1:Hp):Prop where
 go:∀i G H,Same G1 G->Same G H->i<ds.length->J.go i H
 stop:∀i G H,Same G1 G->Same G H->ds.length<=i->J.stop i H
 yld:∀i G H x H' d,Same G1 G->Same G H->ds[i]?=some d->J.yld i H x H'->∃G',Ext G H G' H'/\Rep K G' x d
def iD(K:Frag)(B G0:Hp)(f:M (List D)):TI:=λσ H R=>∃G Z,EOk K B G0 G H σ Z/\match f Z with
 |.ok ds Z'=>∀J G' H',EOk K B G0 G' H' σ Z'->Same G G'->WT K J ds G'->R J H'
 |.bad=>False
section
variable{X:Cx}{B G0:Hp}{KX:XW}{e a b c tg:UD}{pos:Pos}{es rest:List UD}{st:Stmt}{sts sts2:List Stmt}
theorem Ww{t t':TI}(h:PI X tg e t)(i:∀σ H R,t' σ H R->t σ H R):PI X tg e t':=λpins s σ H R I q=>h pins s σ H R I (i σ H R q)
theorem tM.toI{K:Frag}{α γ:Type}{R0:Hp->γ->α->Prop}{f:M α}{g:α->M (List D)}{σ:St}{H:Hp}{R:It->Hp->Prop}{P:γ->Hp->Prop}(q:iD K B G0 (Kr f g) σ H R)
  (i:∀v H' G' Z' x,EOk K B G0 G' H' σ Z'->R0 G' v x->(match g x Z' with
   |.ok ds Z2=>∀J G2 H2,EOk K B G0 G2 H2 σ Z2->Same G' G2->WT K J ds G2->R J H2
   |.bad=>False)->P v H'):tM K B G0 R0 f σ H P:=by
 obtain ⟨G,Z,k,a⟩:=q;refine ⟨G,Z,k,?_⟩;unfold Kr at a
 cases z:f Z with
 |bad=>rw[z] at a;exact a.elim
 |ok d Z1=>
  rw[z] at a;intro v G' H' e s r;refine i v H' G' Z1 d e r ?_;dsimp only at a
  cases z2:g d Z1 with
  |bad=>rw[z2] at a;exact a.elim
  |ok ds Z2=>
   rw[z2] at a;exact λJ G2 H2 k2 s2 it=>a J G2 H2 k2 (s.trans s2) it
theorem jg{K:Frag}{G1:Hp}{ad:UB}{vs:List V}{ds:List D}(h:SqL K G1 ad vs)(r:Reps K G1 vs ds):WT K (Itl K ad) ds G1 where
 go:=λi G H s1 s2 hi=>by
  have hi':i<vs.length:=by rw[r.length];exact hi
  exact ⟨vs,vs[i],(s1.trans s2).seq h,Qe hi'⟩
 stop:=λi G H s1 s2 hi=>⟨vs,(s1.trans s2).seq h,by rw[r.length];exact hi⟩
 yld:=λi G H x H' d s1 s2 e y=>by
  obtain ⟨rfl,y⟩:=y;obtain ⟨v,e1,r1⟩:=r.get e
  have:=y vs ((s1.trans s2).seq h)
  rw[e1] at this;cases this;exact ⟨G,.refl s2,r1.mono s1⟩
def YM(lo hi:Int):List D:=(UI (hi-lo).toNat).map λ(k:Nat)=>.int (lo+k)
theorem Vc(lo hi:Int):(YM lo hi).length=(hi-lo).toNat:=by unfold YM;rw[Qb,Qq]
theorem Ej{K:Frag}{G1:Hp}(lo hi:Int):WT K (Itr lo (hi-lo).toNat) (YM lo hi) G1 where
 go:=λi G H s1 s2 h=>by rw[Vc] at h;exact h
 stop:=λi G H s1 s2 h=>by rw[Vc] at h;exact h
 yld:=λi G H x H' d s1 s2 e y=>by
  obtain ⟨rfl,rfl⟩:=y;unfold YM at e;rw[Qd] at e
  have hi:i<(UI (hi-lo).toNat).length:=by
   refine Nat.lt_of_not_le λz=>?_;rw[QD z] at e;cases e
  rw[Qe hi,JP] at e;cases e;exact ⟨G,.refl s2,.int _⟩
def Pk:List D->Option (List D)
 |[.int j]=>if j<=1000000 /\ -1000000<=j then some (YM 0 j) else none
 |_=>none
def Pj:List D->Option (List D)
 |[.int i,.int j]=>if j<=1000000 /\ -1000000<=j/\i<=1000000 /\ -1000000<=i then some (YM i j) else none
 |_=>none
def W3(f:M (List D)):M (List D):=Kr f λx=>Ks (Pk x)
def PQ(f:M (List D)):M (List D):=Kr f λx=>Ks (Pj x)
theorem Sf{f:M (List D)}{p2:Pos}(hg:Gl X "range")(hm:X.mg "range" = none)(ha:PA X [a] (tDs X.K B G0 f))(hs:UG [a] X.env=[(false,eval a X.env)]:=by rfl) :
  PI X tg (.Call (.Name "range" p2) [a] [] pos) (iD X.K B G0 (W3 f)):=Ww (qI hg hm ha hs) λσ H R q=>tM.toI (R0:=Reps X.K) q λv H' G' Z' x k r a=>by
 cases z:Pk x with
 |none=>rw[z] at a;exact a.elim
 |some ds=>
  rw[z] at a;unfold Pk at z
  split at z
  ·split at z
   ·rename_i j c
    cases z;obtain ⟨w,rfl,r'⟩:=r.one_inv
    refine ⟨j,by rw[r'.int_inv],by omega,by omega,?_⟩
    have it:=Ej (K:=X.K) (G1:=G') 0 j;rw[Int.sub_zero] at it;exact a _ G' H' k (.refl _) it
   ·cases z
  ·cases z
theorem Ff{f:M (List D)}{p2:Pos}(hg:Gl X "range")(hm:X.mg "range" = none)(ha:PA X [a,b] (tDs X.K B G0 f))(hs:UG [a,b] X.env=[(false,eval a X.env),(false,eval b X.env)]:=by rfl)(hs2:UG [b] X.env=[(false,eval b X.env)]:=by rfl) :
  PI X tg (.Call (.Name "range" p2) [a,b] [] pos) (iD X.K B G0 (PQ f)):=Ww (qH hg hm ha hs hs2) λσ H R q=>tM.toI (R0:=Reps X.K) q λv H' G' Z' x k r a=>by
 cases z:Pj x with
 |none=>rw[z] at a;exact a.elim
 |some ds=>
  rw[z] at a;unfold Pj at z
  split at z
  ·split at z
   ·rename_i i j c
    cases z;obtain ⟨w,w',rfl,r1,r2⟩:=r.two_inv
    refine ⟨i,j,by rw[r1.int_inv,r2.int_inv],⟨by omega,by omega,by omega,by omega⟩,?_⟩
    exact a _ G' H' k (.refl _) (Ej i j)
   ·cases z
  ·cases z
def YY(n:Nat):List D->List D
 |[]=>[]
 |d::r=>.tuple [.int n,d]::YY (n+1) r
theorem YQ:∀(n:Nat)(ds:List D),(YY n ds).length=ds.length
 |_,[]=>rfl
 |n,d::r=>by rw[YY,QF,QF,YQ]
theorem MX:∀(n:Nat)(ds:List D)(i:Nat),(YY n ds)[i]?=ds[i]?.map λd=>.tuple [.int ((n+i:Nat):Int),d]
 |_,[],i=>by simp[YY]
 |n,d::r,0=>by simp[YY]
 |n,d::r,i+1=>by
  rw[YY,List.getElem?_cons_succ,List.getElem?_cons_succ,MX (n+1) r i]
  have:n+1+i=n+(i+1):=by omega
  rw[this]
theorem jf{K:Frag}{G1:Hp}{ad:UB}{vs:List V}{ds:List D}(h:SqL K G1 ad vs)(r:Reps K G1 vs ds):WT K (Ite K ad) (YY 0 ds) G1 where
 go:=λi G H s1 s2 hi=>by
  rw[YQ] at hi;have hi':i<vs.length:=by rw[r.length];exact hi
  exact ⟨vs,vs[i],(s1.trans s2).seq h,Qe hi'⟩
 stop:=λi G H s1 s2 hi=>by
  rw[YQ] at hi;exact ⟨vs,(s1.trans s2).seq h,by rw[r.length];exact hi⟩
 yld:=λi G H x H' d s1 s2 e y=>by
  obtain ⟨p,v,hp,rfl,y,rfl⟩:=y;rw[MX] at e
  cases z:ds[i]? with
  |none=>rw[z] at e;cases e
  |some d0=>
   rw[z] at e;cases e;obtain ⟨w,e1,r1⟩:=r.get z
   have:=y vs ((s1.trans s2).seq h)
   rw[e1] at this;cases this;refine ⟨upd G p (.tup [.int i,v]),Ext.new s2 hp,.tup (SqT.of Yx) (.cons ?_ (.cons ((r1.mono s1).mono (Yw (s2.free hp))) .nil))⟩;rw[QU];exact .int _
def P0:List D->Option (List D)
 |[.list ds]=>some (YY 0 ds)
 |_=>none
def Xc(f:M (List D)):M (List D):=Kr f λx=>Ks (P0 x)
theorem X0{f:M (List D)}{p2:Pos}{elts:List UD}{x1}{tp:Pos}(hg:Gl X "enumerate")(hm:X.mg "enumerate" = none)(ha:PA X [a] (tDs X.K B G0 f))(hs:UG [a] X.env=[(false,eval a X.env)]:=by rfl) :
  PI X (.Tuple elts x1 tp) (.Call (.Name "enumerate" p2) [a] [] pos) (iD X.K B G0 (Xc f)):=Ww (Br hg hm ha hs) λσ H R q=>tM.toI (R0:=Reps X.K) q λv H' G' Z' x k r a=>by
 cases z:P0 x with
 |none=>rw[z] at a;exact a.elim
 |some ds=>
  rw[z] at a;unfold P0 at z
  split at z
  ·cases z
   obtain ⟨w,rfl,r'⟩:=r.one_inv;obtain ⟨ad,vs,rfl,h1,r1⟩:=r'.lst_inv;exact ⟨ad,vs,rfl,k.gh.seq h1,a _ G' H' k (.refl _) (jf h1 r1)⟩
  ·cases z
def TR(s:D->UR->Option UR)(g:SM):List D->SM
 |[],Z=>.nx Z
 |d::r,Z=>match s d Z with
  |none=>.bad
  |some Z1=>match g Z1 with
   |.nx Z2=>TR s g r Z2
   |.ct Z2=>TR s g r Z2
   |.bk Z2=>.nx Z2
   |.rt d=>.rt d
   |.ex Z2 d=>.ex Z2 d
   |.bad=>.bad
def KZ(f:M (List D))(s:D->UR->Option UR)(g:SM):SM:=sB f λds=>TR s g ds
theorem Yu{iter:UD}{body:List Stmt}{f:M (List D)}{s:D->UR->Option UR}{g:SM}(hp:PassesOwn (model X.prog X.w) X.A X.env X.xe)(hc:X.calm=true)(hi:PI X tg iter (iD X.K B G0 f))(hg:PG X tg (tG X.K B G0 s))(hb:PSs X body (tS X.K B G0 KX g))
  (hs:∀x,UW iter X.env x=pure x:=by intro _;rfl):PS X (.For tg iter body [] pos) (tS X.K B G0 KX (KZ f s g)) :=
 Yn (Cm hp hc hi hg hb hs) λDn σ H ⟨G,Z,k,a⟩=>by
  refine ⟨G,Z,k,?_⟩;unfold KZ sB at a
  cases z:f Z with
  |bad=>rw[z] at a;exact a.elim
  |ok ds Z1=>
   rw[z] at a;dsimp only at a ⊢;intro J G1 H1 k1 s1 it;refine ⟨λi m σ' H'=>m=ds.length-i/\∃G' Z',EOk X.K B G0 G' H' σ' Z'/\Same G1 G'/\aftS X.K B G0 KX (TR s g (ds.drop i) Z') G' Dn,⟨ds.length,by omega,G1,Z1,k1,.refl _,by rw[List.drop_zero];exact aftS.mono s1 a⟩,?_⟩
   rintro i m σ' H' ⟨rfl,G',Z',k',s',a'⟩
   by_cases hi:i<ds.length
   ·right
    refine ⟨it.go i G' H' s' k'.gh hi,λσ2 H2=>∃G2 Z2,EOk X.K B G0 G2 H2 σ2 Z2/\Same G1 G2/\aftS X.K B G0 KX (TR s g (ds.drop (i+1)) Z2) G2 Dn,λσ2 H2 h2=>⟨ds.length-(i+1),by omega,rfl,h2⟩,λx H2 y=>?_⟩
    obtain ⟨G2,ex,rx⟩:=it.yld i G' H' x H2 ds[i] s' k'.gh (Qe hi) y;rw[QQ hi,TR] at a'
    cases z2:s ds[i] Z' with
    |none=>rw[z2] at a';exact a'.elim
    |some Z2=>
     rw[z2] at a';dsimp only at a';refine ⟨G2,Z',ds[i],Z2,k'.ext ex,rx,z2,λσ3 G3 H3 k3 s3=>⟨G3,Z2,k3,?_⟩⟩;have s13:Same G1 G3:=(s'.trans ex.g).trans s3
     cases z3:g Z2 with
     |nx Z3=>rw[z3] at a';exact λσ4 G4 H4 k4 s4=>⟨G4,Z3,k4,s13.trans s4,aftS.mono ((ex.g.trans s3).trans s4) a'⟩
     |ct Z3=>rw[z3] at a';exact λσ4 G4 H4 k4 s4=>⟨G4,Z3,k4,s13.trans s4,aftS.mono ((ex.g.trans s3).trans s4) a'⟩
     |bk Z3=>rw[z3] at a';exact λσ4 G4 H4 k4 s4=>a' σ4 G4 H4 k4 ((ex.g.trans s3).trans s4)
     |rt d=>rw[z3] at a';exact a'
     |ex Z3 d=>rw[z3] at a';exact λv σ4 G4 H4 k4 s4 r4=>a' v σ4 G4 H4 k4 ((ex.g.trans s3).trans s4) r4
     |bad=>rw[z3] at a';exact a'.elim
   ·left
    rw[J9 (by omega)] at a'
    exact ⟨it.stop i G' H' s' k'.gh (by omega),a' σ' G' H' k' (.refl _)⟩
theorem AE{k:Nat}{f:UB}{fd:UC}{ps:List Str}{F:List D->Option D}{g:M (List D)}{x:Str}{p2:Pos}{n:Nat}(FK:FnOk X.prog X.w X.K X.mg X.base CX0 k f fd ps (spD X.K n F))(hr:Room k X.A)(hg:Gl X x)(hm:X.mg x=some (.ref f))(hk:PySem.W.keepIn X.K (.ref f)=true)
  (hb:TU X.K fd ps []) (ha:PA X (e::es) (tDs X.K B G0 g)) (hn:(e::es).length=n) (hdb:(x==("__debug__" : Str))=false:=by decide) (he:UG (e::es) X.env=(false,eval e X.env)::UG es X.env:=by rfl) (hpl:(backTo pos (UG es X.env)).any (·.1)=false:=by rfl) :
  PE X (.Call (.Name x p2) (e::es) [] pos) (tD X.K B G0 (Kr g λxs=>if xs.length=n then Ks (F xs) else λ_=>.bad)) :=
 KW (HI FK hr hg hm hk hb .nil Lu ha hdb he hpl) λσ H Q q=>tM.one (R:=Reps X.K) q λv H2 G Z ds k r a=>by
  split at a
  ·rename_i hl
   obtain ⟨d,e,a⟩:=a.opt;exact ⟨G,ds,d,by rw[Q9,r.length];exact hl,k.gh,by rw[Q9];exact r,e,λw G' H' ex rw=>a.done k ex rw⟩
  ·exact a.elim
end
def Ws(N:List Str)(ds:List D):UR:=(ds.map λd=>some (Sl.pub d))++UJ (N.length-ds.length) none
theorem AD{K:Frag}{N:List Str}{G H:Hp}{vs:List V}{ds:List D}(s:Same G H)(r:Reps K G vs ds):EOk K H G G H (L2.WY N vs) (Ws N ds) where
 bh:=.refl _
 gh:=s
 g0:=.refl _
 np:=λ_ _ _ n=>n
 len:=by unfold L2.WY Ws;rw[Qj,Qj,Qb,Qb,QE,QE,r.length]
 pub:=λi d q=>by
  unfold Ws at q;unfold L2.WY
  by_cases hi:i<ds.length
  ·rw[Qx (by rw[Qb];exact hi),Qd] at q
   cases z:ds[i]? with
   |none=>rw[z] at q;cases q
   |some d'=>
    rw[z] at q;cases q;obtain ⟨v,e1,r1⟩:=r.get z;refine ⟨v,?_,r1⟩;rw[Qx (by rw[Qb,r.length];exact hi),Qd,e1]
    rfl
  ·rw[Qw (by rw[Qb];omega),QB] at q
   split at q <;> cases q
 own:=λi es q=>by
  unfold Ws at q
  by_cases hi:i<ds.length
  ·rw[Qx (by rw[Qb];exact hi),Qd] at q
   cases z:ds[i]? with
   |none=>rw[z] at q;cases q
   |some d'=>rw[z] at q;cases q
  ·rw[Qw (by rw[Qb];omega),QB] at q
   split at q <;> cases q
 sep:=λi j a es fs q _ _ _=>by
  unfold Ws at q
  by_cases hi:i<ds.length
  ·rw[Qx (by rw[Qb];exact hi),Qd] at q
   cases z:ds[i]? with
   |none=>rw[z] at q;cases q
   |some d'=>rw[z] at q;cases q
  ·rw[Qw (by rw[Qb];omega),QB] at q
   split at q <;> cases q
 dp:=by
  have key:∀{i:Nat}{s:Sl},(Ws N ds)[i]?=some (some s)->∃d,s=.pub d:=λ{i s} q=>by
   unfold Ws at q
   by_cases hi:i<ds.length
   ·rw[Qx (by rw[Qb];exact hi),Qd] at q
    cases z:ds[i]? with
    |none=>rw[z] at q;cases q
    |some d'=>rw[z] at q;cases q;exact ⟨_,rfl⟩
   ·rw[Qw (by rw[Qb];omega),QB] at q
    split at q <;> cases q
  exact .of (λi p d q=>by obtain ⟨_,e⟩:=key q;cases e) λi ds q=>by obtain ⟨_,e⟩:=key q;cases e
def Kn(N:List Str)(g:SM)(ds:List D):Option D:=match g (Ws N ds) with
 |.rt d=>some d
 |.nx _=>some .none
 |_=>none
theorem okD{P:UA}{w:World}{K:Frag}{mg:Str->Option Uy}{base:Heap}{x qual:Str}{st:Stmt}{f:UB}{fd:UC}{N ps:List Str}{k n:Nat}{g:SM}(F:Fun K x qual st f fd)(S:Og N ps (Kv st))(hn:ps.length=n)
  (der:∀(cdv:Uy)(A:Around)(outer:List Env)(s:Uz)(H:Hp)(E:XK)(B G0:Hp),Room k (A.deeper (envOfC qual (Kv st) s.heap.objs.size f cdv)) ->
   PSs (X2 CX0 P w K mg base N qual (Kv st) f cdv A outer s H E).nox (T9 st) (tS K B G0 KX0 g)):FnOk P w K mg base CX0 (k+1) f fd ps (spD K n (Kn N g)):=by
 refine F.ok S (λvs H Q E h=>?_) (λcdv A outer s H vs Q E hr h=>?_)
 ·obtain ⟨_,_,_,hl,_⟩:=h
  rw[hl,hn]
 ·obtain ⟨G,ds,d,hl,sg,r,hF,q⟩:=h
  refine ⟨_,der cdv A outer s H E H G hr,G,Ws N ds,AD sg r,?_⟩;unfold Kn at hF
  cases z:g (Ws N ds) with
  |rt d'=>
   rw[z] at hF;cases hF;exact λv G' H' ex rr=>q v G' H' ex rr
  |nx Z=>
   rw[z] at hF;cases hF;exact λσ' G' H' k' _=>q .non G' H' k'.exit .non
  |bk Z=>rw[z] at hF;cases hF
  |ct Z=>rw[z] at hF;cases hF
  |ex Z d=>rw[z] at hF;cases hF
  |bad=>rw[z] at hF;cases hF
section
variable{X:Cx}{B G0:Hp}{e a b c tg:UD}{pos:Pos}{es rest:List UD}
def oNeg:D->Option D
 |.int i=>some (.int (-i))
 |_=>none
def Z6(f:M D):M D:=Kr f λx=>Ks (oNeg x)
theorem VG{f:M D}(h:PE X a (tD X.K B G0 f)):PE X (.UnaryOp .USub a pos) (tD X.K B G0 (Z6 f)) :=
 KW (DO Cg h) λσ H Q q=>tM.one (R:=Rep X.K) q λv H2 G Z x k r a=>by
  cases x with
  |int i=>exact ⟨i,r.int_inv,aft.now a k (.int _)⟩
  |_=>exact a.elim
end
def Def(P:UA)(w:World)(K:Frag)(mg:Str->Option Uy)(base:Heap)(x:Str)(k n:Nat)(F:List D->Option D):Prop :=
 ∃(f:UB)(fd:UC)(ps:List Str),mg x=some (.ref f)/\PySem.W.keepIn K (.ref f)=true/\TU K fd ps []/\FnOk P w K mg base CX0 k f fd ps (spD K n F)
def U5(n:Nat)(F:List D->Option D)(g:M (List D)):M D:=Kr g λxs=>if xs.length=n then Ks (F xs) else λ_=>.bad
section
variable{X:Cx}{B G0:Hp}{e:UD}{pos:Pos}{es:List UD}
theorem Bd{k n:Nat}{F:List D->Option D}{g:M (List D)}{x:Str}{p2:Pos}(d:Def X.prog X.w X.K X.mg X.base x k n F)(hr:Room k X.A)(hg:Gl X x)(ha:PA X (e::es) (tDs X.K B G0 g))(hn:(e::es).length=n:=by rfl)
  (hdb:(x==("__debug__" : Str))=false:=by decide) (he:UG (e::es) X.env=(false,eval e X.env)::UG es X.env:=by rfl) (hpl:(backTo pos (UG es X.env)).any (·.1)=false:=by rfl) :
  PE X (.Call (.Name x p2) (e::es) [] pos) (tD X.K B G0 (U5 n F g)):=by
 obtain ⟨f,fd,ps,h1,h2,h3,h4⟩:=d;exact AE h4 hr hg h1 h2 h3 ha hn hdb he hpl
end
theorem Def.mk{P:UA}{w:World}{K:Frag}{mg:Str->Option Uy}{base:Heap}{x:Str}{k n:Nat}{F:List D->Option D}{st:Stmt}{f:UB}{fd:UC}{ps:List Str}(hm:mg x=some (.ref f))(FU:Fun K x x st f fd)(hb:TU K fd ps [])(ok:FnOk P w K mg base CX0 k f fd ps (spD K n F)) :
  Def P w K mg base x k n F:=⟨f,fd,ps,hm,FU.kp,hb,ok⟩
theorem Db{K:Frag}{H:Hp}{a:UB}{ns:List Int}{F:List D->Option D}{E:XK}(hS:SqL K H a (ns.map V.int))(h:F [.list (ns.map int)]=some (.bool true)):spD K 1 F [.ref a] H (λv _=>v=.bl true) E :=
 ⟨H,[.list (ns.map int)],.bool true,rfl,.refl _,.cons (.lst hS (Reps.ints ns)) .nil,h,λ_ _ _ _ r=>r.bl_inv⟩
end DL
namespace L2
open PySem PySem.Spec PyProof.Rows
theorem mem_of_lookup{x:Str}{k:NameKind}:∀{l:List (Str×NameKind)},l.lookup x=some k->(x,k)∈l
 |[],h=>by cases h
 |(y,j)::r,h=>by
  rw[Q4] at h
  split at h
  ·rename_i e
   cases h
   have:x=y:=by simpa using e
   rw[this];exact Qn
  ·exact Qk _ (mem_of_lookup h)
theorem M6{env:Env}:∀(l:List (Str×NameKind))(acc:List (Str×UB)),(∀y∈l,y.2=.free->∃c,env.cells.lookup y.1=some c) ->
  ∃cl,(forIn l acc (λx r=>if (x.2==NameKind.free)=true then (do let a ←cellOf env x.1;pure (ForInStep.yield ((x.1,a)::r))) else pure (ForInStep.yield r)):Sem (List (Str×UB)))=pure cl /\
   (∀x c,cl.lookup x=some c->acc.lookup x=some c∨env.cells.lookup x=some c)/\(∀y∈l,y.2=.free->∃c,cl.lookup y.1=some c)/\(∀x c,acc.lookup x=some c->∃c',cl.lookup x=some c')
 |[],acc,_=>⟨acc,rfl,λ_ _ h=>.inl h,λ_ h=>absurd h (by simp),λx c h=>⟨c,h⟩⟩
 |(n,k)::r,acc,h=>by
  by_cases hk:k=.free
  ·subst hk
   obtain ⟨c,hc⟩:=h (n,.free) Qn rfl;obtain ⟨cl,e,p1,p2,p3⟩:=M6 r ((n,c)::acc) λy hy=>h y (Qk _ hy);have hco:cellOf env n=pure c:=by unfold cellOf;rw[hc]
   have key:∀x c',((n,c)::acc).lookup x=some c'->acc.lookup x=some c'∨env.cells.lookup x=some c':=λx c' q=>by
    rw[Q4] at q
    split at q
    ·rename_i e1
     cases q
     have:x=n:=by simpa using e1
     subst this;exact .inr hc
    ·exact .inl q
   have own:((n,c)::acc).lookup n=some c:=by rw[List.lookup_cons];simp
   refine ⟨cl,?_,λx c' q=>?_,λy hy hf=>?_,λx c' q=>?_⟩
   ·rw[List.forIn_cons]
    have:(if (((n,NameKind.free):Str×NameKind).2==NameKind.free)=true then (do let a ←cellOf env n;pure (ForInStep.yield ((n,a)::acc))) else pure (ForInStep.yield acc):Sem _)=pure (ForInStep.yield ((n,c)::acc)):=by
     rw[Ql (show ((n,NameKind.free).snd==NameKind.free)=true from rfl),hco];rfl
    refine Eq.trans ?_ e;dsimp only at this ⊢;rw[this]
    rfl
   ·rcases p1 x c' q with z|z
    ·exact key x c' z
    ·exact .inr z
   ·rcases Q0.mp hy with z|z
    ·subst z
     exact p3 n c own
    ·exact p2 y z hf
   ·by_cases hx:x=n
    ·subst hx;exact p3 x c own
    ·refine p3 x c' ?_
     have hb:(x==n)=false:=by simpa using hx
     rw[Q4,hb];exact q
  ·obtain ⟨cl,e,p1,p2,p3⟩:=M6 r acc λy hy=>h y (Qk _ hy)
   refine ⟨cl,?_,p1,λy hy hf=>?_,p3⟩
   ·rw[List.forIn_cons]
    have hb:(k==NameKind.free)=false:=by cases k <;> first|rfl|exact absurd rfl hk
    refine Eq.trans ?_ e;dsimp only;rw[hb,Qs (by decide)]
    rfl
   ·rcases Q0.mp hy with z|z
    ·subst z;exact absurd hf hk
    ·exact p2 y z hf
theorem je{scope:Scope}{env:Env}(h:∀y∈scope.names,y.2=.free->∃c,env.cells.lookup y.1=some c) :
  ∃cl,closureFor scope env=pure cl/\(∀x c,cl.lookup x=some c->env.cells.lookup x=some c)/\∀y∈scope.names,y.2=.free->∃c,cl.lookup y.1=some c:=by
 obtain ⟨cl,e,p1,p2,_⟩:=M6 scope.names [] h;refine ⟨cl,?_,λx c q=>(p1 x c q).elim (λz=>by cases z) id,p2⟩
 have e2:((forIn scope.names [] (λx r=>if (x.2==NameKind.free)=true then (do let a ←cellOf env x.1;pure (ForInStep.yield ((x.1,a)::r))) else pure (ForInStep.yield r)):Sem (List (Str×UB))) >>= λs=>pure s)=pure cl:=by
  rw[e];rfl
 exact e2
theorem Ei{env:Env}{x:Str}{k:NameKind}:∀{names:List (Str×NameKind)},(names.map λ(n,k)=>if (k==NameKind.free&&env.scope.kind==.function&&env.kindOf n==some .cell) then (n,NameKind.cell) else (n,k)).lookup x=some k ->
  names.lookup x=some k∨(names.lookup x=some .free/\k=.cell)
 |[],h=>by cases h
 |(n,j)::r,h=>by
  have ih:=@Ei env x k r;have h:List.lookup x ((if (j==NameKind.free&&env.scope.kind==.function&&env.kindOf n==some .cell)=true then (n,NameKind.cell) else (n,j))::_)=some k:=h
  cases hx:x==n with
  |true=>
   by_cases hc:(j==NameKind.free&&env.scope.kind==.function&&env.kindOf n==some .cell)=true
   ·rw[Ql hc] at h
    simp only[Q4,hx] at h ⊢;cases h;simp only[Jm] at hc
    have:j=.free:=by have:=hc.1.1;cases j <;> first|rfl|cases this
    subst this;exact .inr ⟨rfl,rfl⟩
   ·rw[Qs hc] at h
    simp only[Q4,hx] at h ⊢;exact .inl h
  |false=>
   by_cases hc:(j==NameKind.free&&env.scope.kind==.function&&env.kindOf n==some .cell)=true
   ·rw[Ql hc] at h
    simp only[Q4,hx] at h ⊢;exact ih h
   ·rw[Qs hc] at h
    simp only[Q4,hx] at h ⊢;exact ih h
theorem Et{env:Env}{x:Str}:∀{names:List (Str×NameKind)},names.lookup x=some .free ->
  (names.map λ(n,k)=>if (k==NameKind.free&&env.scope.kind==.function&&env.kindOf n==some .cell) then (n,NameKind.cell) else (n,k)).lookup x=some .free ∨
  (names.map λ(n,k)=>if (k==NameKind.free&&env.scope.kind==.function&&env.kindOf n==some .cell) then (n,NameKind.cell) else (n,k)).lookup x=some .cell
 |[],h=>by cases h
 |(n,j)::r,h=>by
  have ih:=@Et env x r;show List.lookup x ((if (j==NameKind.free&&env.scope.kind==.function&&env.kindOf n==some .cell)=true then (n,NameKind.cell) else (n,j))::_)=_∨List.lookup x ((if (j==NameKind.free&&env.scope.kind==.function&&env.kindOf n==some .cell)=true then (n,NameKind.cell) else (n,j))::_)=_
  cases hx:x==n with
  |true=>
   simp only[Q4,hx] at h;cases h
   by_cases hc:(NameKind.free==NameKind.free&&env.scope.kind==.function&&env.kindOf n==some .cell)=true
   ·rw[if_pos hc];simp[List.lookup_cons,hx]
   ·rw[if_neg hc];simp[List.lookup_cons,hx]
  |false=>
   simp only[Q4,hx] at h
   by_cases hc:(j==NameKind.free&&env.scope.kind==.function&&env.kindOf n==some .cell)=true
   ·rw[Ql hc];simp only[Q4,hx];exact ih h
   ·rw[Qs hc];simp only[Q4,hx];exact ih h
theorem FZ{env:Env}{x:Str}:∀{names:List (Str×NameKind)},names.lookup x=some .globalImplicit ->
  (names.map λ(n,k)=>if (k==NameKind.free&&env.scope.kind==.function&&env.kindOf n==some .cell) then (n,NameKind.cell) else (n,k)).lookup x=some .globalImplicit
 |[],h=>by cases h
 |(n,j)::r,h=>by
  have ih:=@FZ env x r;show List.lookup x ((if (j==NameKind.free&&env.scope.kind==.function&&env.kindOf n==some .cell)=true then (n,NameKind.cell) else (n,j))::_)=_
  cases hx:x==n with
  |true=>
   simp only[Q4,hx] at h;cases h;rw[if_neg (by simp)]
   simp[List.lookup_cons,hx]
  |false=>
   simp only[Q4,hx] at h
   by_cases hc:(j==NameKind.free&&env.scope.kind==.function&&env.kindOf n==some .cell)=true
   ·rw[Ql hc];simp only[Q4,hx];exact ih h
   ·rw[Qs hc];simp only[Q4,hx];exact ih h
def Cx.blk(X:Cx)(N':List Str)(scope:Scope)(cl:List (Str×UB))(C:UB)(s₀:Uz)(H₀:Hp)(ex:List UB):Cx :=
 { X with N:=N',s₀:=s₀,H₀:=H₀,env:=compEnvC scope cl C X.env,outer:=X.stack,ex:=ex,fn:=λ_=>false,xe:=λ_ _=>False }
section
variable{X:Cx}{N':List Str}{scope:Scope}{cl:List (Str×UB)}{C:UB}{s₀:Uz}{H₀:Hp}{ex:List UB}{x:Str}
theorem Bc(h:scope.names.lookup x=some .local∨scope.names.lookup x=some .free):Vis (X.blk N' scope cl C s₀ H₀ ex).env.scope x:=by
 rcases h with h|h
 ·exact .inl (lookup_relabel_local h)
 ·rcases Et (env:=X.env) h with z|z
  ·exact .inr (.inr z)
  ·exact .inr (.inl z)
theorem Zw(h:scope.names.lookup x=some .local):Loc (X.blk N' scope cl C s₀ H₀ ex).env.scope x:=.inl (lookup_relabel_local h)
theorem Zx(h:scope.names.lookup x=some .local):(X.blk N' scope cl C s₀ H₀ ex).env.scope.names.lookup x=some .local:=lookup_relabel_local h
theorem W6(h:scope.names.lookup x=some .globalImplicit):Gl (X.blk N' scope cl C s₀ H₀ ex) x:=FZ h
end
def On(names:List (Str×NameKind))(N N2:List Str)(k:Nat):Bool :=
 N2.length==N.length+k&&(UI N2.length).all λi=>match N2[i]? with
  |none=>true
  |some x=>match names.lookup x with
   |some .free=>N[i]?==some x
   |some .local=>decide (N.length<=i)&&decide (i<N.length+k)
   |some .cell=>false
   |_=>true
theorem kG{names:List (Str×NameKind)}{N N2:List Str}{k:Nat}(h:On names N N2 k=true) :
  N2.length=N.length+k/\∀(i:Nat) x,N2[i]?=some x->(names.lookup x=some .free->N[i]?=some x)/\(names.lookup x=some .local->N.length<=i/\i<N.length+k):=by
 unfold On at h;simp only[Jm,beq_iff_eq,Jn,Q7] at h;refine ⟨h.1,λi x e=>?_⟩;have hi:=(Qg.mp e).1
 have:=h.2 i hi
 rw[e] at this;refine ⟨λq=>?_,λq=>?_⟩
 ·simp only[q] at this
  simpa using this
 ·simp only[q] at this
  simpa using this
theorem Inv.enter{X:Cx}{pins:List (UB×Obj)}{σ:St}{H:Hp}{s3:Uz}(I:Inv X pins σ H s3){scope:Scope}{cl:List (Str×UB)}{N2:List Str}{k:Nat}{h':Heap}{fp:List UB}{t':Nat}{m0:Str->Option Uy}
  (hb:On scope.names X.N N2 k=true) (hkind:scope.kind=.function) (hcell:∀y∈scope.names,y.2≠.cell)
  (hfree:∀y∈scope.names,y.2=.free->X.env.scope.names.lookup y.1=some .cell∨X.env.scope.names.lookup y.1=some .free)
  (cl1:∀x c,cl.lookup x=some c->X.env.cells.lookup x=some c) (cl2:∀y∈scope.names,y.2=.free->∃c,cl.lookup y.1=some c)
  (hn:h'.Ns s3.heap.objs.size m0) (hk:∀b o,s3.heap.get? b=some o->h'.get? b=some o) (hf:∀b∈fp,Yp X pins H b) (hfo:∀b∈fp,∃o,s3.heap.get? b=some o) :
  Inv (X.blk N2 scope cl s3.heap.objs.size s3 H fp) pins (σ++UJ k none) H { s3 with heap:=h',toks:=t' }:=by
 obtain ⟨hl,hN⟩:=kG hb;have lt:∀b o,s3.heap.get? b=some o->b≠s3.heap.objs.size:=λb o e=>QR (Qi e);have ofl:∀x,scope.names.lookup x=some .free->(x,NameKind.free)∈scope.names:=λx h=>mem_of_lookup h;have kinv:∀x kk,(X.blk N2 scope cl s3.heap.objs.size s3 H fp).env.scope.names.lookup x=some kk->scope.names.lookup x=some kk∨(scope.names.lookup x=some .free/\kk=.cell):=λx kk h=>Ei (env:=X.env) h
 have isfree:∀x,(X.blk N2 scope cl s3.heap.objs.size s3 H fp).env.scope.names.lookup x=some .cell∨(X.blk N2 scope cl s3.heap.objs.size s3 H fp).env.scope.names.lookup x=some .free->scope.names.lookup x=some .free:=λx h=>by
  rcases h with h|h
  ·rcases kinv x _ h with z|z
   ·exact absurd rfl (hcell _ (mem_of_lookup z))
   ·exact z.1
  ·rcases kinv x _ h with z|z
   ·exact z
   ·exact z.1
 have ok:(X.blk N2 scope cl s3.heap.objs.size s3 H fp).Ok :=
  {
   mod:=I.ok.mod
   kind:=hkind
   glob:=I.ok.glob
   blt:=I.ok.blt
   above:=Qy _
   inj:=λx y c a b=>I.ok.inj x y c (cl1 x c a) (cl1 y c b)
   has:=λx h=>cl2 (x,.free) (ofl x (isfree x h)) rfl
   cab:=λx c h=>by cases h
   hd:=I.ok.hd
   frames:=I.ok.frames
   stk:=.inl rfl
   exf:=λb hb=>⟨let ⟨o,e⟩:=hfo b hb;lt b o e,λx c e=>(hf b hb).2.2.2.2.1 x c (cl1 x c e)⟩
   bs:=I.bs
   bsz:=QT I.ok.bsz I.sz
   noex:=λb o e hb=>by
    rcases (hf b hb).2.2.2.1 with z|z
    ·exact I.ok.noex b o e z
    ·exact absurd (QI (Qi e) (QT I.ok.bsz z)) (Jw _)
   exfs:=λb hb hx=>by
    rcases Q0.mp (I.stkSub b hx) with z|z
    ·exact (hf b hb).2.1 z
    ·exact (hf b hb).2.2.1 z
   funs:=I.stack
   frf:=I.stkFree }
 refine ⟨ok,rfl,I.bare,Un.kept hk,⟨m0,hn,λi x v e1 e2 e3=>?_⟩,λx c e=>?_,I.hok.fresh (Qy _),λx c e=>I.freeC x c (cl1 x c e),λp hp=>?_,I.hok.kept hk,?_⟩
 ·have nl:scope.names.lookup x≠some .local:=λz=>by
   obtain ⟨g1,g2⟩:=(hN i x e1).2 z;rw[←I.len] at g1 g2;rw[Qw g1,QB] at e2
   split at e2 <;> cases e2
  have fr:scope.names.lookup x=some .free:=by
   rcases e3 with z|z|z
   ·rcases kinv x _ z with q|q
    ·exact absurd q nl
    ·cases q.2
   ·exact isfree x (.inl z)
   ·exact isfree x (.inr z)
  have eN:=(hN i x e1).1 fr;have hi:i<σ.length:=by rw[I.len];exact (Qg.mp eN).1
  rw[Qx hi] at e2;obtain ⟨m,hm,hlk⟩:=I.loc;have hkd:=hfree _ (ofl x fr) rfl;obtain ⟨u,r,l⟩:=hlk i x v eN e2 (.inr hkd);refine ⟨u,r,.inr ⟨?_,?_⟩⟩
  ·rcases e3 with z|z|z
   ·rcases kinv x _ z with q|q
    ·exact absurd q nl
    ·cases q.2
   ·exact .inl z
   ·exact .inr z
  ·rcases l with l|⟨_,c,ec,z⟩
   ·have:X.env.scope.names.lookup x=some .local:=l.1
    rcases hkd with q|q <;> (dsimp only at q;rw[this] at q;cases q)
   ·obtain ⟨c',ec'⟩:=cl2 _ (ofl x fr) rfl
    have:=cl1 _ _ ec'
    dsimp only at this ec';rw[ec] at this;cases this;obtain ⟨o,ho,hd⟩:=z;exact ⟨c,ec',o,hk c o ho,hd⟩
 ·obtain ⟨v,o,ho,hd⟩:=I.cell x c (cl1 x c e)
  exact ⟨v,o,hk c o ho,hd⟩
 ·obtain ⟨e,n,ne,nf,d⟩:=I.pin p hp
  refine ⟨hk _ _ e,n,lt _ _ e,λz=>?_,d⟩;rcases Q0.mp (I.stkSub _ z) with q|q
  ·exact ne q
  ·exact nf q
 ·rw[Qj,QE,I.len]
  exact hl.symm
section
variable{prog:UA}{w:World}{A:Around}{R:Result->Uz->Prop}{s:Uz}
end
abbrev nox:Uy->Uz->Prop:=λ_ _=>False
def Om(prog:UA)(w:World)(A:Around)(tg:UD)(ifs:List UD)(env:Env)(it:Uy)(code:Code)(W:(Uz->Prop)->Uz->Prop):Prop :=
 ∀(R:Result->Uz->Prop)(I:Nat->Uz->Prop)(n:Nat)(s:Uz),I n s ->
  (∀n s,I n s->UF (model prog w) A (pyNext it) (λr s₁=>match r with
   |none=>R (.ok .next) s₁
   |some v=>UF (model prog w) A (letOwnedTupleGo tg it v) (λ_ s₁'=>UF (model prog w) A (assign tg env v) (λ_ s₂=>
     UF (model prog w) A (forIn ifs true λc r=>if r=true then do let ok ←isTrue c env (eval c env);pure (ForInStep.yield ok) else pure (ForInStep.yield r)) (λok s₃=>
      if ok=true then W (λs₅=>∃m,m<n/\I m s₅) s₃ else ∃m,m<n/\I m s₃) nox s₂) nox s₁') nox s₁) nox s)->codeAny (model prog w) A code R s
section
variable{prog:UA}{w:World}{A:Around}{elt tg i:UD}{ifs:List UD}{gens:List Comprehension}{scope:Scope}{pos:Pos}{it acc:Uy}{env:Env}{j:Nat}
theorem jc(hg:gens[j]?=some ⟨tg,i,ifs,0⟩)(hn:gens[j+1]?=none):Om prog w A tg ifs env it (.compLoop (.ListComp elt gens scope pos) j it acc env)
  (λQ s=>UF (model prog w) A (eval elt env) (λx s₄=>UF (model prog w) A (call (.builtin "list.append") [acc,x]) (λ_ s₅=>Q s₅) nox s₄) nox s):=by
 intro R I n s h turn;refine codeAny_loop rfl I (λn s hI=>?_) n h;show UF _ A ((compTurn (.ListComp elt gens scope pos) j it acc env).onRaise (λx=>do noteFrame x env;theTreesLotGoes x)) _ _ s
 refine wpAny_noted ?_;unfold compTurn;dsimp only;simp only[hg,hn];refine Qf (Jt (Qf (QO (turn n s hI) (λr s₁ h₁=>?_) λ_ _ h'=>h'.elim)))
 cases r with
 |none=>exact Qo h₁
 |some v=>
  refine Qf (QO h₁ (λ_ s₁' h₁'=>?_) λ_ _ h'=>h'.elim);refine Qf (QO h₁' (λ_ s₂ h₂=>Qf (QO h₂ (λok s₃ h₃=>?_) λ_ _ h'=>h'.elim)) λ_ _ h'=>h'.elim)
  cases ok with
  |false=>exact Qo ⟨rfl,h₃⟩
  |true=>exact Qf (Qf (QO h₃ (λx s₄ h₄=>Qf (QO h₄ (λ_ s₅ h₅=>Qo (Qo ⟨rfl,h₅⟩)) λ_ _ h'=>h'.elim)) λ_ _ h'=>h'.elim))
theorem jb{tg1 i1:UD}{ifs1:List UD}(hg:gens[j]?=some ⟨tg,i,ifs,0⟩)(hn:gens[j+1]?=some ⟨tg1,i1,ifs1,0⟩)(hs:∀x,UW i1 env x=pure x):Om prog w A tg ifs env it (.compLoop (.ListComp elt gens scope pos) j it acc env)
  (λQ s=>UF (model prog w) A (eval i1 env) (λx s₄=>UF (model prog w) A (pyIter x) (λit1 s₅=>codeAny (model prog w) A (.compStart (.ListComp elt gens scope pos) (j+1) it1 acc env)
   (λr s₆=>match r with | .ok _=>Q s₆ | .error _=>False) s₅) nox s₄) nox s):=by
 intro R I n s h turn;refine codeAny_loop rfl I (λn s hI=>?_) n h;show UF _ A ((compTurn (.ListComp elt gens scope pos) j it acc env).onRaise (λx=>do noteFrame x env;theTreesLotGoes x)) _ _ s
 refine wpAny_noted ?_;unfold compTurn;dsimp only;simp only[hg,hn];refine Qf (Jt (Qf (QO (turn n s hI) (λr s₁ h₁=>?_) λ_ _ h'=>h'.elim)))
 cases r with
 |none=>exact Qo h₁
 |some v=>
  refine Qf (QO h₁ (λ_ s₁' h₁'=>?_) λ_ _ h'=>h'.elim);refine Qf (QO h₁' (λ_ s₂ h₂=>Qf (QO h₂ (λok s₃ h₃=>?_) λ_ _ h'=>h'.elim)) λ_ _ h'=>h'.elim)
  cases ok with
  |false=>exact Qo ⟨rfl,h₃⟩
  |true=>
   refine Qf (QO h₃ (λx s₄ h₄=>Qf (Jt (Qf (wpAny_of_eq (hs x) (Qf (wpAny_holding (QO h₄ (λit1 s₅ h₅=>?_) λ_ _ h'=>h'.elim))))))) λ_ _ h'=>h'.elim);refine Qf (wpAny_runOwn (codeAny_mono h₅ λr s₆ h₆=>?_))
   cases r with
   |ok f=>exact Qo ⟨rfl,h₆⟩
   |error x=>exact h₆.elim
theorem kF{R:Result->Uz->Prop}{s:Uz}(hg:gens[j]?=some ⟨tg,i,ifs,0⟩)
  (h0:codeAny (model prog w) A (.compLoop (.ListComp elt gens scope pos) j it acc env) R s)
  (h:UF (model prog w) A (pyIter it) (λit' s'=>codeAny (model prog w) A (.compLoop (.ListComp elt gens scope pos) j it' acc env) R s') nox s) :
  codeAny (model prog w) A (.compStart (.ListComp elt gens scope pos) j it acc env) R s:=by
 refine codeAny_of_tree ?_;show UF _ _ ((compStart (.ListComp elt gens scope pos) j it acc env).onRaise (λx=>do noteFrame x env;standAt theWindowsPlace)) _ _ s
 refine wpAny_notedAt ?_;unfold compStart;have hc:(clausesOf (.ListComp elt gens scope pos))[j]?=some ⟨tg,i,ifs,0⟩:=hg;simp only[hc];show UF _ _ (ask >>= _) _ _ s;refine Qf (wpAny_askSetting (wpAny_ite ?_));split
 ·first
   |exact Qf (Qo (Qo (And.intro rfl h0)))
   |exact Qo (And.intro rfl h0)
 ·first
   |exact Qf (wpAny_rule (Qf (Jt (Qf (QO h (λit' s' h'=>Qo (And.intro rfl h')) λ_ _ x=>x.elim)))))
   |(refine Qf (wpAny_rule ?_);show UF _ _ (standAt _ >>= _) _ _ s;exact Qf (Jt (Qf (QO h (λit' s' h'=>Qo (And.intro rfl h')) λ_ _ x=>x.elim))))
end
end L2
namespace DL
open PySem PySem.Spec L2
open PyProof.Rows hiding St
def Wn:Option Sl->Option Sl
 |some (.own _)=>none
 |some (.deep _ _)=>none
 |x=>x
def KJ(Z:UR):UR:=Z.map Wn
theorem ja{Z:UR}{i:Nat}{d:D}(h:(KJ Z)[i]?=some (some (.pub d))):Z[i]?=some (some (.pub d)):=by
 unfold KJ at h;rw[Qd] at h
 cases e:Z[i]? with
 |none=>rw[e] at h;cases h
 |some o=>
  rw[e] at h
  cases o with
  |none=>cases h
  |some sl=>cases sl with
   |pub d'=>cases h;rfl
   |own ds=>cases h
   |deep p d'=>cases h
theorem VT{Z:UR}{i:Nat}{ds:List D}(h:(KJ Z)[i]?=some (some (.own ds))):False:=by
 unfold KJ at h;rw[Qd] at h
 cases e:Z[i]? with
 |none=>rw[e] at h;cases h
 |some o=>
  rw[e] at h
  cases o with
  |none=>cases h
  |some sl=>cases sl with
   |pub d'=>cases h
   |own ds=>cases h
   |deep p d'=>cases h
theorem M5{Z:UR}{i:Nat}{p:Pat}{d:D}(h:(KJ Z)[i]?=some (some (.deep p d))):False:=by
 unfold KJ at h;rw[Qd] at h
 cases e:Z[i]? with
 |none=>rw[e] at h;cases h
 |some o=>
  rw[e] at h
  cases o with
  |none=>cases h
  |some sl=>cases sl <;> cases h
def Zs(s:D->UR->Option UR)(t:M Bool)(g:M D):List D->UR->List D->Option (List D)
 |[],_,es=>some es
 |d::r,Z,es=>match s d Z with
  |none=>none
  |some Z1=>match t Z1 with
   |.bad=>none
   |.ok b Z2=>if b=true then (match g Z2 with
     |.bad=>none
     |.ok e Z3=>if es.length<1000000 then Zs s t g r (KJ Z3) (es++[e]) else none)
    else Zs s t g r (KJ Z2) es
def ZS(f:M (List D))(k:Nat)(s:D->UR->Option UR)(t:M Bool)(g:M D):M (List D):=λZ=>match f Z with
 |.bad=>.bad
 |.ok ds Z1=>match Zs s t g ds (KJ Z1++UJ k none) [] with
  |none=>.bad
  |some es=>.ok es Z1
def WE(X:Cx)(ifs:List UD)(t:TT):Prop :=
 ∀(pins:List (UB×Obj))(s:Uz)(σ:St)(H:Hp)(Q:Bool->Hp->Prop),Inv X pins σ H s->t σ H Q ->
  UF (model X.prog X.w) X.A (forIn ifs true λc r=>if r=true then do let ok ←isTrue c X.env (eval c X.env);pure (ForInStep.yield ok) else pure (ForInStep.yield r)) (TP X pins σ Q) X.xe s
section
variable{X:Cx}{B G0:Hp}
theorem YE:WE X [] (tBo X.K B G0 (U1 true)):=λpins s σ H Q I ⟨G,Z,k,a⟩=>wpAny_tests_nil ⟨H,I,a true G H k (.refl _) rfl⟩
theorem SE{c:UD}{t:M Bool}(h:PT X c (tBo X.K B G0 t)):WE X [c] (tBo X.K B G0 t):=λpins s σ H Q I q=>wpAny_tests_one (h pins s σ H Q I q)
theorem EOk.rebase{K:Frag}{G H:Hp}{σ:St}{Z:UR}(k:EOk K B G0 G H σ Z):EOk K H G G H σ (KJ Z) where
 bh:=.refl _
 gh:=k.gh
 g0:=.refl _
 np:=λ_ _ _ n=>n
 len:=by unfold KJ;rw[Qb];exact k.len
 pub:=λi d q=>k.pub i d (ja q)
 own:=λi ds q=>(VT q).elim
 sep:=λi j a ds es q=>(VT q).elim
 dp:=.of (λ_ _ _ q=>M5 q) λ_ _ q=>VT q
theorem EOk.more{K:Frag}{G H:Hp}{σ:St}{Z:UR}(k:EOk K H G G H σ (KJ Z))(n:Nat):EOk K H G G H (σ++UJ n none) (KJ Z++UJ n none) where
 bh:=.refl _
 gh:=k.gh
 g0:=.refl _
 np:=λ_ _ _ n=>n
 len:=by rw[Qj,Qj,k.len,QE,QE]
 pub:=λi d q=>by
  by_cases hi:i<(KJ Z).length
  ·rw[Qx hi] at q
   rw[Qx (by rw[←k.len];exact hi)]
   exact k.pub i d q
  ·rw[Qw (Je hi),QB] at q
   split at q <;> cases q
 own:=λi ds q=>by
  by_cases hi:i<(KJ Z).length
  ·rw[Qx hi] at q
   exact (VT q).elim
  ·rw[Qw (Je hi),QB] at q
   split at q <;> cases q
 sep:=λi j a ds es q=>by
  by_cases hi:i<(KJ Z).length
  ·rw[Qx hi] at q
   exact (VT q).elim
  ·rw[Qw (Je hi),QB] at q
   split at q <;> cases q
 dp:=by
  refine .of (λi p d q=>?_) λi ds q=>?_
  ·by_cases hi:i<(KJ Z).length
   ·rw[Qx hi] at q;exact M5 q
   ·rw[Qw (Je hi),QB] at q;split at q <;> cases q
  ·by_cases hi:i<(KJ Z).length
   ·rw[Qx hi] at q;exact VT q
   ·rw[Qw (Je hi),QB] at q;split at q <;> cases q
theorem EOk.beside{K:Frag}{G H:Hp}{σ:St}{Z:UR}{a:UB}{o:HO}(k:EOk K B G0 G H σ Z)(hg:G a=none):EOk K (upd H a o) G G (upd H a o) σ (KJ Z) where
 bh:=.refl _
 gh:=λb u e=>by rw[ZA (λz=>by subst z;rw[hg] at e;cases e)];exact k.gh b u e
 g0:=.refl _
 np:=λ_ _ _ n=>n
 len:=k.rebase.len
 pub:=k.rebase.pub
 own:=λi ds q=>(VT q).elim
 sep:=λi j a ds es q=>(VT q).elim
 dp:=.of (λ_ _ _ q=>M5 q) λ_ _ q=>VT q
theorem lim1:1000000<=UE:=lim
def NK:Option Sl->Option Sl
 |some (.own ds)=>some (.pub (.list ds))
 |some (.deep _ d)=>some (.pub d)
 |x=>x
def Yr(Z:UR):UR:=Z.map NK
theorem Fe{Z:UR}{i:Nat}{d:D}(h:(Yr Z)[i]?=some (some (.pub d))):Z[i]?=some (some (.pub d))∨(∃ds,d=.list ds/\Z[i]?=some (some (.own ds))) ∨ ∃p,Z[i]?=some (some (.deep p d)):=by
 unfold Yr at h;rw[Qd] at h
 cases e:Z[i]? with
 |none=>rw[e] at h;cases h
 |some o=>
  rw[e] at h
  cases o with
  |none=>cases h
  |some sl=>cases sl with
   |pub d'=>cases h;exact .inl rfl
   |own ds=>cases h;exact .inr (.inl ⟨ds,rfl,rfl⟩)
   |deep p d'=>cases h;exact .inr (.inr ⟨p,rfl⟩)
theorem PM{Z:UR}{i:Nat}{ds:List D}(h:(Yr Z)[i]?=some (some (.own ds))):False:=by
 unfold Yr at h;rw[Qd] at h
 cases e:Z[i]? with
 |none=>rw[e] at h;cases h
 |some o=>
  rw[e] at h
  cases o with
  |none=>cases h
  |some sl=>cases sl with
   |pub d'=>cases h
   |own ds=>cases h
   |deep p d'=>cases h
theorem FY{Z:UR}{i:Nat}{p:Pat}{d:D}(h:(Yr Z)[i]?=some (some (.deep p d))):False:=by
 unfold Yr at h;rw[Qd] at h
 cases e:Z[i]? with
 |none=>rw[e] at h;cases h
 |some o=>
  rw[e] at h
  cases o with
  |none=>cases h
  |some sl=>cases sl <;> cases h
def flat:D->Bool
 |.none=>true | .bool _=>true | .int _=>true | .str _=>true|_=>false
theorem Rep.flat{K:Frag}{G G':Hp}{v:V}{d:D}(r:Rep K G v d)(h:DL.flat d=true):Rep K G' v d:=by
 cases r with
 |non=>exact .non
 |bl b=>exact .bl b
 |int i=>exact .int i
 |str x=>exact .str x
 |lst _ _=>cases h
 |tup _ _=>cases h
 |dic _=>cases h
 |exc _ _ _ _=>cases h
 |dct _ _ _ _ _=>cases h
 |dtt _ _ _ _=>cases h
theorem Reps.flat{K:Frag}{G G':Hp}:∀{vs:List V}{ds:List D},Reps K G vs ds->ds.all DL.flat=true->Reps K G' vs ds
 |_,_,.nil,_=>.nil
 |_,_,.cons r t,h=>by
  rw[List.all_cons,Jm] at h;exact .cons (r.flat h.1) (Reps.flat t h.2)
theorem EOk.lend{K:Frag}{B G0 G H:Hp}{σ:St}{Z:UR}{D:UB}{o:HO}(k:EOk K B G0 G H σ Z)(hD:H D=none)(n:Nat):EOk K (upd H D o) H H (upd H D o) (σ++UJ n none) (Yr Z++UJ n none) where
 bh:=.refl _
 gh:=Yw hD
 g0:=.refl _
 np:=λ_ _ _ n=>n
 len:=by unfold Yr;rw[Qj,Qj,Qb,k.len,QE,QE]
 pub:=λi d q=>by
  have hl:(Yr Z).length=Z.length:=by unfold Yr;rw[Qb]
  by_cases hi:i<(Yr Z).length
  ·rw[Qx hi] at q
   rw[Qx (by rw[←k.len,←hl];exact hi)]
   rcases Fe q with e|⟨ds,rfl,e⟩|⟨p,e⟩
   ·obtain ⟨v,h1,h2⟩:=k.pub i d e
    exact ⟨v,h1,h2.mono k.gh⟩
   ·obtain ⟨a,vs,h1,h2,h3,h4,h5⟩:=k.own i ds e
    exact ⟨.ref a,h1,.lst (SqL.of h4) (h5.mono k.gh)⟩
   ·obtain ⟨ω,k1,k2⟩:=k.dp
    obtain ⟨v,fp,s,r,_⟩:=k1 i p d e;exact ⟨v,s,r.rep k.gh⟩
  ·rw[Qw (Je hi),QB] at q
   split at q <;> cases q
 own:=λi ds q=>by
  by_cases hi:i<(Yr Z).length
  ·rw[Qx hi] at q
   exact (PM q).elim
  ·rw[Qw (Je hi),QB] at q
   split at q <;> cases q
 sep:=λi j a ds es q=>by
  by_cases hi:i<(Yr Z).length
  ·rw[Qx hi] at q
   exact (PM q).elim
  ·rw[Qw (Je hi),QB] at q
   split at q <;> cases q
 dp:=by
  refine .of (λi p d q=>?_) λi ds q=>?_
  ·by_cases hi:i<(Yr Z).length
   ·rw[Qx hi] at q;exact FY q
   ·rw[Qw (Je hi),QB] at q;split at q <;> cases q
  ·by_cases hi:i<(Yr Z).length
   ·rw[Qx hi] at q;exact PM q
   ·rw[Qw (Je hi),QB] at q;split at q <;> cases q
def P3(f:M (List D))(k:Nat)(s:D->UR->Option UR)(t:M Bool)(g:M D):M (List D):=λZ=>match f Z with
 |.bad=>.bad
 |.ok ds Z1=>match Zs s t g ds (Yr Z1++UJ k none) [] with
  |none=>.bad
  |some es=>if es.all flat=true then .ok es Z1 else .bad
end
def Xu(s:D->UR->Option UR)(t:M Bool)(g:M D):List D->UR->List D->Option (List D×UR)
 |[],Z,es=>some (es,Z)
 |d::r,Z,es=>match s d Z with
  |none=>none
  |some Z1=>match t Z1 with
   |.bad=>none
   |.ok b Z2=>if b=true then (match g Z2 with
     |.bad=>none
     |.ok e Z3=>if es.length<1000000 then Xu s t g r (KJ Z3) (es++[e]) else none)
    else Xu s t g r (KJ Z2) es
def W5(s0:D->UR->Option UR)(t0:M Bool)(f1:M (List D))(s1:D->UR->Option UR)(t1:M Bool)(g:M D):List D->UR->List D->Option (List D)
 |[],_,es=>some es
 |d::r,Z,es=>match s0 d Z with
  |none=>none
  |some Z1=>match t0 Z1 with
   |.bad=>none
   |.ok b Z2=>if b=true then (match f1 Z2 with
     |.bad=>none
     |.ok ds Z3=>match Xu s1 t1 g ds (KJ Z3) es with
      |none=>none
      |some (es',Z4)=>W5 s0 t0 f1 s1 t1 g r Z4 es')
    else W5 s0 t0 f1 s1 t1 g r (KJ Z2) es
def Od(f:M (List D))(k:Nat)(s:D->UR->Option UR)(t:M Bool)(f1:M (List D))(s1':D->UR->Option UR)(t1':M Bool)(g:M D):M (List D):=λZ=>match f Z with
 |.bad=>.bad
 |.ok ds Z1=>match W5 s t f1 s1' t1' g ds (KJ Z1++UJ k none) [] with
  |none=>.bad
  |some es=>.ok es Z1
def Wj(s0:D->UR->Option UR)(t0:M Bool)(f1:M (List D))(Rd:List D->UR->List D->Option (List D×UR)):List D->UR->List D->Option (List D×UR)
 |[],Z,es=>some (es,Z)
 |d::r,Z,es=>match s0 d Z with
  |none=>none
  |some Z1=>match t0 Z1 with
   |.bad=>none
   |.ok b Z2=>if b=true then (match f1 Z2 with
     |.bad=>none
     |.ok ds Z3=>match Rd ds (KJ Z3) es with
      |none=>none
      |some (es',Z4)=>Wj s0 t0 f1 Rd r Z4 es')
    else Wj s0 t0 f1 Rd r (KJ Z2) es
def SQ(Rd:List D->UR->List D->Option (List D×UR))(ds:List D)(Z:UR)(es:List D):Option (List D):=(Rd ds Z es).map (·.1)
def Oc(f:M (List D))(k:Nat)(s:D->UR->Option UR)(t:M Bool)(f1:M (List D))(s1':D->UR->Option UR)(t1':M Bool)(fx2:M (List D))(s2':D->UR->Option UR)(t2':M Bool)(g:M D):M (List D):=λZ=>match f Z with
 |.bad=>.bad
 |.ok ds Z1=>match SQ (Wj s t f1 (Wj s1' t1' fx2 (Xu s2' t2' g))) ds (KJ Z1++UJ k none) [] with
  |none=>.bad
  |some es=>.ok es Z1
abbrev RdB:=UR->List D->Option (List D×UR)
def rL(g:M D):RdB:=λZ es=>match g Z with
 |.bad=>none
 |.ok e Z3=>if es.length<1000000 then some (es++[e],KJ Z3) else none
def cT(s:D->UR->Option UR)(t:M Bool)(rd:RdB):List D->UR->List D->Option (List D×UR)
 |[],Z,es=>some (es,Z)
 |d::r,Z,es=>match s d Z with
  |none=>none
  |some Z1=>match t Z1 with
   |.bad=>none
   |.ok b Z2=>if b=true then (match rd Z2 es with
     |none=>none
     |some (es',Z')=>cT s t rd r Z' es')
    else cT s t rd r (KJ Z2) es
def rN(f:M (List D))(s:D->UR->Option UR)(t:M Bool)(rd:RdB):RdB:=λZ es=>match f Z with
 |.bad=>none
 |.ok ds Z3=>cT s t rd ds (KJ Z3) es
structure Left(Y:Cx)(D':UB)(pins:List (UB×Obj))(H G:Hp)(es':List D)(Z':UR)(σ':St)(H' G':Hp)(vs':List V)(s':Uz):Prop where
 inv:Inv Y pins σ' H' s'
 eok:EOk Y.K H' G' G' H' σ' Z'
 hh:∀a o,a≠D'->H a=some o->H' a=some o
 gg:Same G G'
 np:∀a(u:MO),a≠D'->H a=some u.ho->G a=none->G' a=none
 hd:H' D'=some (.lst vs')
 gd:G' D'=none
 rp:Reps Y.K G' vs' es'
def PZ(Y:Cx)(D':UB)(W:(Uz->Prop)->Uz->Prop)(rd:RdB):Prop :=
 ∀(pins:List (UB×Obj))(sh:Uz)(σ:St)(B1 G1 H G:Hp)(Z Z':UR)(vs:List V)(es es':List D)(Q:Uz->Prop),
  Inv Y pins σ H sh->EOk Y.K B1 G1 G H σ Z->B1 D'=some (.lst vs)->G1 D'=none->Reps Y.K G1 vs es->rd Z es=some (es',Z') ->
  (∀σ' H' G' vs' s',Left Y D' pins B1 G1 es' Z' σ' H' G' vs' s'->Q s')->W Q sh
section
variable{Y:Cx}{D':UB}
theorem q9{elt:UD}{g:M D}(hx:Y.xe=nox)(he:∀B1 G1,PE Y elt (tD Y.K B1 G1 g)) :
  PZ Y D' (λQ s=>UF (model Y.prog Y.w) Y.A (eval elt Y.env) (λx s₄=>UF (model Y.prog Y.w) Y.A (call (.builtin "list.append") [.ref D',x]) (λ_ s₅=>Q s₅) nox s₄) nox s) (rL g):=by
 intro pins sh σ B1 G1 H G Z Z' vs es es' Q I k hD gD r z fin;unfold rL at z
 cases zg:g Z with
 |bad=>rw[zg] at z;cases z
 |ok e Z4=>
 rw[zg] at z;dsimp only at z
 split at z
 ·rename_i hle
  cases z;have h:=he B1 G1 pins sh σ H (λv H8=>∃G8,EOk Y.K B1 G1 G8 H8 σ Z4/\Rep Y.K G8 v e) I ⟨G,Z,k,by unfold aft;rw[zg];exact λv G8 H8 k8 _ q=>⟨G8,k8,q⟩⟩
  rw[hx] at h;refine thn h λev s8 ⟨v,H8,I8,rv,G8,k8,r8⟩=>?_;have h2:=Fi pins s8 σ H8 (.ref D') [v] (.ref D') [ev] (λ_ H9=>H9=upd H8 D' (.lst (vs++[v]))) I8 rfl (.cons rv .nil) ⟨D',vs,v,rfl,rfl,k8.bh _ _ hD,by have:=lim1;rw[r.length];omega,rfl⟩
  rw[hx] at h2;refine thn h2 λ_ s9 ⟨_,H9,I9,_,e9⟩=>?_;subst e9;have g8:=k8.np _ (.l _) hD gD;exact fin σ _ G8 _ s9 ⟨I9,k8.beside g8,λa o z q=>by rw[ZA z];exact k8.bh a o q,k8.g0,λa o _ q w=>k8.np a o q w,Yx,g8,(r.mono k8.g0).append (.cons r8 .nil)⟩
 ·cases z
theorem Gv{tg:UD}{ifs:List UD}{code:Code}{W:(Uz->Prop)->Uz->Prop}{s:D->UR->Option UR}{t:M Bool}{rd:RdB}{it:UB}(hx:Y.xe=nox)(hc:Y.calm=true)(rule:Om Y.prog Y.w Y.A tg ifs Y.env (.ref it) code W)
  (hg:∀B1 G1,PG Y tg (tG Y.K B1 G1 s)) (ht:∀B1 G1,WE Y ifs (tBo Y.K B1 G1 t)) (hb:PZ Y D' W rd)
  {pins:List (UB×Obj)} {sh:Uz} {σ:St} {H G:Hp} {Z ZF:UR} {fp:List UB} {tn:Nat->Heap->Prop} {J:It} {ds es esF:List D} {vs:List V} {R:Result->Uz->Prop}
  (I:Inv Y pins σ H sh) (T:Turn Y.prog Y.w Y.K tg J fp it tn) (st:tn 0 sh.heap) (hf:∀b∈fp,Yp Y pins H b)
  (k:EOk Y.K H G G H σ Z) (its:WT Y.K J ds G) (hD:H D'=some (.lst vs)) (gD:G D'=none) (r:Reps Y.K G vs es) (zl:cT s t rd ds Z es=some (esF,ZF))
  (hfin:∀σ' H' G' vs' s',Left Y D' pins H G esF ZF σ' H' G' vs' s'->R (.ok .next) s'):codeAny (model Y.prog Y.w) Y.A code R sh:=by
 have stat:∀{H':Hp},(∀b∈fp,H' b=none)->∀b∈fp,Yp Y pins H' b:=λhn b hb=>⟨hn b hb,(hf b hb).2⟩
 refine rule R (λn s'=>∃i σ' H' G' Z' vs' es',n=ds.length-i/\tn i s'.heap/\(∀b∈fp,H' b=none)/\Left Y D' pins H G es' Z' σ' H' G' vs' s'/\cT s t rd (ds.drop i) Z' es'=some (esF,ZF)) ds.length sh
  ⟨0,σ,H,G,Z,vs,es,rfl,st,λb hb=>(hf b hb).1,⟨I,k,λ_ _ _ q=>q,.refl _,λ_ _ _ _ n=>n,hD,gD,r⟩,by rw[List.drop_zero];exact zl⟩ ?_
 rintro n s' ⟨i,σ',H',G',Z',vs',es',rfl,tn',fr',⟨I',k',sh',sg',np',hD',gD',r'⟩,zc⟩
 by_cases hlt:i<ds.length
 ·rw[QQ hlt,cT] at zc
  cases zs:s ds[i] Z' with
  |none=>rw[zs] at zc;cases zc
  |some Z2=>
  rw[zs] at zc;dsimp only at zc
  cases zt:t Z2 with
  |bad=>rw[zt] at zc;cases zc
  |ok b Z3=>
  rw[zt] at zc;dsimp only at zc;refine thn (T.item Y rfl rfl rfl hc i pins s' σ' H' nox I' (stat fr') tn' (its.go i G' H' sg' k'.gh hlt)) λrr s4 ⟨u,hr,h4⟩=>?_;subst hr;refine thn h4 λ_ s5 ⟨x,H5,I5,r5,y5,st5,fr5⟩=>?_;obtain ⟨G5,e5,rx⟩:=its.yld i G' H' x H5 ds[i] sg' k'.gh (Qe hlt) y5;have h6:=hg H' G' _ s5 σ' H5 x u (λσ6 H6=>∃G6,EOk Y.K H' G' G6 H6 σ6 Z2) (I5.pinned (stat fr5) (T.obj _ _ st5)) r5 ⟨G5,Z',ds[i],Z2,k'.ext e5,rx,zs,λσ6 G6 H6 k6 _=>⟨G6,k6⟩⟩;rw[hx] at h6;refine thn h6 λ_ s6 ⟨σ6,H6,I6,G6,k6⟩=>?_;have h7:=ht H' G' _ s6 σ6 H6 (λc H7=>c=b/\∃G7,EOk Y.K H' G' G7 H7 σ6 Z3) I6 ⟨G6,Z2,k6,by unfold aft;rw[zt];exact λc G7 H7 k7 _ q=>⟨q,G7,k7⟩⟩
  rw[hx] at h7;refine thn h7 λok s7 ⟨H7,I7,hb7,G7,k7⟩=>?_;subst hb7
  have again:∀{H9:Hp}{σ9:St}{s9:Uz},Inv Y (pins++P4 fp s5.heap) σ9 H9 s9->Inv Y pins σ9 H9 s9/\tn (i+1) s9.heap/\∀b∈fp,H9 b=none:=λ{H9 σ9 s9} I9=>by
   refine ⟨I9.unpinned,T.keep _ _ _ st5 λb hb o e=>(I9.pin (b,o) (QL _ (QL _ (NB hb e)))).1,λb hb=>?_⟩;obtain ⟨o,e,d⟩:=T.obj _ _ st5 b hb;exact (I9.pin (b,o) (QL _ (QL _ (NB hb e)))).2.1
  have lt:ds.length-(i+1)<ds.length-i:=Nat.sub_lt_sub_left hlt (Um i)
  cases ok with
  |false=>
   rw[Qs (by decide)] at zc ⊢
   obtain ⟨J1,J2,J3⟩:=again I7;exact ⟨_,lt,i+1,σ6,H7,G7,KJ Z3,vs',es',rfl,J2,J3,⟨J1,k7.rebase,λa o z q=>k7.bh a o (sh' a o z q),sg'.trans k7.g0,λa o z q w=>k7.np a o (sh' a _ z q) (np' a o z q w),k7.bh _ _ hD',k7.np _ (.l _) hD' gD',r'.mono k7.g0⟩,zc⟩
  |true=>
   rw[Ql rfl] at zc ⊢
   cases ze:rd Z3 es' with
   |none=>rw[ze] at zc;cases zc
   |some pr=>
   obtain ⟨es1,Z5⟩:=pr;rw[ze] at zc;refine hb _ s7 σ6 H' G' H7 G7 Z3 Z5 vs' es' es1 _ I7 k7 hD' gD' r' ze λσ9 H9 G9 vs9 s9 L=>?_;obtain ⟨J1,J2,J3⟩:=again L.inv;exact ⟨_,lt,i+1,σ9,H9,G9,Z5,vs9,es1,rfl,J2,J3,⟨J1,L.eok,λa o z q=>L.hh a o z (sh' a o z q),sg'.trans L.gg,λa o z q w=>L.np a o z (sh' a _ z q) (np' a o z q w),L.hd,L.gd,L.rp⟩,zc⟩
 ·rw[J9 (Je hlt),cT] at zc
  cases zc;refine thn (T.done Y rfl rfl rfl hc i pins s' σ' H' nox I' (stat fr') tn' (its.stop i G' H' sg' k'.gh (Je hlt))) λrr s4 ⟨hr,I6⟩=>?_
  subst hr;exact hfin σ' H' G' vs' s4 ⟨I6,k',sh',sg',np',hD',gD',r'⟩
theorem q8{elt tg1 i1:UD}{ifs1:List UD}{gens:List Comprehension}{scope:Scope}{pos:Pos}{j:Nat}{W:Uy->(Uz->Prop)->Uz->Prop}{f:M (List D)}{s:D->UR->Option UR}{t:M Bool}{rd:RdB}(hx:Y.xe=nox)(hc:Y.calm=true)
  (hn:gens[j+1]?=some ⟨tg1,i1,ifs1,0⟩) (rule:∀it1,Om Y.prog Y.w Y.A tg1 ifs1 Y.env it1 (.compLoop (.ListComp elt gens scope pos) (j+1) it1 (.ref D') Y.env) (W it1))
  (hi:∀B1 G1,PI Y tg1 i1 (iD Y.K B1 G1 f)) (hg:∀B1 G1,PG Y tg1 (tG Y.K B1 G1 s)) (ht:∀B1 G1,WE Y ifs1 (tBo Y.K B1 G1 t)) (hb:∀it1,PZ Y D' (W it1) rd) :
  PZ Y D' (λQ s=>UF (model Y.prog Y.w) Y.A (eval i1 Y.env) (λx s₄=>UF (model Y.prog Y.w) Y.A (pyIter x) (λit1 s₅=>codeAny (model Y.prog Y.w) Y.A (.compStart (.ListComp elt gens scope pos) (j+1) it1 (.ref D') Y.env)
   (λr s₆=>match r with | .ok _=>Q s₆ | .error _=>False) s₅) nox s₄) nox s) (rN f s t rd):=by
 intro pins sh σ B1 G1 H G Z Z' vs es es' Q I k hD gD r z fin;unfold rN at z
 cases zf:f Z with
 |bad=>rw[zf] at z;cases z
 |ok ds Z3=>
 rw[zf] at z;have h:=hi B1 G1 pins sh σ H (λJ1 H8=>∃G8,EOk Y.K B1 G1 G8 H8 σ Z3/\WT Y.K J1 ds G8) I ⟨G,Z,k,by rw[zf];exact λJ1 G8 H8 k8 _ q=>⟨G8,k8,q⟩⟩
 rw[hx] at h;refine thn h λxv s8 h8=>thn h8 λitv s9 h9=>?_;obtain ⟨it1,fp1,tn1,J1,H9,rfl,I9,T1,st9,f9,G9,k9,its9⟩:=h9
 have loop:codeAny (model Y.prog Y.w) Y.A (.compLoop (.ListComp elt gens scope pos) (j+1) (.ref it1) (.ref D') Y.env) (λr s₆=>match r with | .ok _=>Q s₆ | .error _=>False) s9 :=
  Gv hx hc (rule (.ref it1)) hg ht (hb _) I9 T1 st9 f9 k9.rebase its9 (k9.bh _ _ hD) (k9.np _ (.l _) hD gD) (r.mono k9.g0) z λσ' H' G' vs' s' L=>
   fin σ' H' G' vs' s' ⟨L.inv,L.eok,λa o z q=>L.hh a o z (k9.bh a o q),k9.g0.trans L.gg,λa o z q w=>L.np a o z (k9.bh a _ q) (k9.np a o q w),L.hd,L.gd,L.rp⟩
 exact kF hn loop (T1.self Y.A 0 _ _ _ st9 loop)
end
def OI(Y:Cx)(e:UD)(j:Nat)(tg:UD)(ifs:List UD)(rd:RdB):Prop :=
 ∀(D':UB)(it:Uy),∃W,Om Y.prog Y.w Y.A tg ifs Y.env it (.compLoop e j it (.ref D') Y.env) W/\PZ Y D' W rd
section
variable{Y:Cx}{elt tg i:UD}{ifs:List UD}{gens:List Comprehension}{scope:Scope}{pos:Pos}{j:Nat}
theorem Yd{g:M D}(hx:Y.xe=nox)(hg:gens[j]?=some ⟨tg,i,ifs,0⟩)(hn:gens[j+1]?=none)(he:∀B1 G1,PE Y elt (tD Y.K B1 G1 g)):OI Y (.ListComp elt gens scope pos) j tg ifs (rL g) :=
 λ_ _=>⟨_,jc hg hn,q9 hx he⟩
theorem MW{tg1 i1:UD}{ifs1:List UD}{f:M (List D)}{s:D->UR->Option UR}{t:M Bool}{rd:RdB}(hx:Y.xe=nox)(hc:Y.calm=true)(hg:gens[j]?=some ⟨tg,i,ifs,0⟩)(hn:gens[j+1]?=some ⟨tg1,i1,ifs1,0⟩)(hs:∀x,UW i1 Y.env x=pure x)
  (hi:∀B1 G1,PI Y tg1 i1 (iD Y.K B1 G1 f)) (hgt:∀B1 G1,PG Y tg1 (tG Y.K B1 G1 s)) (ht:∀B1 G1,WE Y ifs1 (tBo Y.K B1 G1 t)) (hb:OI Y (.ListComp elt gens scope pos) (j+1) tg1 ifs1 rd):OI Y (.ListComp elt gens scope pos) j tg ifs (rN f s t rd) :=
 λD' _=>⟨_,jb hg hn hs,q8 hx hc hn (λit1=>(Classical.choose_spec (hb D' it1)).1) hi hgt ht (λit1=>(Classical.choose_spec (hb D' it1)).2)⟩
end
def Xi(l:Bool)(Z:UR):UR:=match l with|true=>Yr Z|false=>KJ Z
theorem EM{K:Frag}{B G0 G1 H2:Hp}{σ:St}{Z1:UR}{D:UB}(l:Bool)(k1:EOk K B G0 G1 H2 σ Z1)(hfr:H2 D=none)(n:Nat) :
  ∃Gb,EOk K (upd H2 D (.lst [])) Gb Gb (upd H2 D (.lst [])) (σ++UJ n none) (Xi l Z1++UJ n none)/\Same G1 Gb/\Gb D=none /\
   ∀(G' H':Hp) vs es,(l=true->es.all flat=true)->Same Gb G'->Same H2 H'->Same G' H'->(∀a(u:MO),H2 a=some u.ho->Gb a=none->G' a=none)->G' D=none->Reps K G' vs es->∃Gf,Ext G1 H2 Gf H'/\Gf D=none/\Reps K Gf vs es:=by
 have gD:G1 D=none:=k1.gh.free hfr
 cases l with
 |false=>exact ⟨G1,(k1.beside gD).more n,.refl _,gD,λG' H' vs es _ g h gh np d r=>⟨G',⟨h,g,gh,np⟩,d,r⟩⟩
 |true=>exact ⟨H2,k1.lend hfr n,k1.gh,hfr,λG' H' vs es fl _ h _ _ _ r=>⟨G1,⟨h,.refl _,k1.gh.trans h,λ_ _ _ n=>n⟩,gD,r.flat (fl rfl)⟩⟩
def dCG(l:Bool)(f:M (List D))(k:Nat)(s:D->UR->Option UR)(t:M Bool)(rd:RdB):M (List D):=λZ=>match f Z with
 |.bad=>.bad
 |.ok ds Z1=>match cT s t rd ds (Xi l Z1++UJ k none) [] with
  |none=>.bad
  |some (es,_)=>if l=true->es.all flat=true then .ok es Z1 else .bad
theorem Mg{l:Bool}{f:M (List D)}{k:Nat}{s:D->UR->Option UR}{t:M Bool}{rd:RdB}{Z Z':UR}{es:List D}(h:dCG l f k s t rd Z=.ok es Z'):∃ds ZF,f Z=.ok ds Z'/\cT s t rd ds (Xi l Z'++UJ k none) []=some (es,ZF)/\(l=true->es.all flat=true):=by
 unfold dCG at h
 cases zf:f Z with
 |bad=>rw[zf] at h;cases h
 |ok ds Z1=>
 rw[zf] at h;dsimp only at h
 cases zl:cT s t rd ds (Xi l Z1++UJ k none) [] with
 |none=>rw[zl] at h;cases h
 |some pr=>
 obtain ⟨esF,ZF⟩:=pr;rw[zl] at h;dsimp only at h
 split at h
 ·rename_i hf
  cases h;exact ⟨ds,ZF,rfl,zl,hf⟩
 ·cases h
section
variable{X:Cx}{B G0:Hp}{KX:XW}
def X6(X:Cx)(N2:List Str)(scope:Scope)(e tg:UD)(ifs:List UD)(s:D->UR->Option UR)(t:M Bool)(rd:RdB):Prop :=
 ∀(cl:List (Str×UB))(C:UB)(s₀:Uz)(H₀:Hp)(ex:List UB),(∀B' G',PG (X.blk N2 scope cl C s₀ H₀ ex) tg (tG X.K B' G' s))/\(∀B' G',WE (X.blk N2 scope cl C s₀ H₀ ex) ifs (tBo X.K B' G' t))/\OI (X.blk N2 scope cl C s₀ H₀ ex) e 0 tg ifs rd
structure Pi(SC scope:Scope)(N1 N2:List Str)(k:Nat):Prop where
 b:On scope.names N1 N2 k=true
 kind:scope.kind=.function
 cell:∀y∈scope.names,y.2≠.cell
 names:∀y∈scope.names,y.2=.local->scope.names.lookup y.1=some .local
 free:∀y∈scope.names,y.2=.free->SC.names.lookup y.1=some .cell∨SC.names.lookup y.1=some .free
theorem ME{l:Bool}{tg elt iter:UD}{ifs:List UD}{gs:List Comprehension}{scope:Scope}{pos pos':Pos}{N2:List Str}{k:Nat}{f:M (List D)}{s:D->UR->Option UR}{t:M Bool}{rd:RdB}{use:Option (Uy->Sem Unit)}{Qc:Uy->Uz->Prop}(hc:X.calm=true)
  (hi:PI X tg iter (iD X.K B G0 f)) (hblk:X6 X N2 scope (.ListComp elt (⟨tg,iter,ifs,0⟩::gs) scope pos) tg ifs s t rd) (hb:Pi X.env.scope scope X.N N2 k) (hs:∀x,UW iter X.env x=pure x)
  {pins:List (UB×Obj)} {s0:Uz} {σ:St} {G H:Hp} {Z Z1 ZF:UR} {ds esF:List D} (I:Inv X pins σ H s0) (k0:EOk X.K B G0 G H σ Z) (zf:f Z=.ok ds Z1) (zl:cT s t rd ds (Xi l Z1++UJ k none) []=some (esF,ZF)) (hfl:l=true->esF.all flat=true)
  (hfin:∀(C D:UB)(vs:List V)(G' H':Hp)(s4:Uz)(m:Str->Option Uy),Inv X pins σ H' s4->s4.heap.Ns C m->H' C=none->C≠X.env.locals->X.s₀.heap.objs.size<=C->(∀x c,X.env.cells.lookup x=some c->c≠C)->(∀p∈X.pn++pins,p.1≠C) ->
   EOk X.K B G0 G' H' σ Z1->Same G G'->NewL X.K B G' H' σ Z1 D vs esF->compPost (model X.prog X.w) X.A X.xe use Qc (.ref D) C (.ok .next) s4) :
  UF (model X.prog X.w) X.A (comprehension (.ListComp elt (⟨tg,iter,ifs,0⟩::gs) scope pos) scope X.env pos' (newList []) false (eval iter X.env) use) Qc X.xe s0:=by
 obtain ⟨cl,hcl,cl1,cl2⟩:=je (scope:=scope) (env:=X.env) λy hy hf=>I.ok.has y.1 (hb.free y hy hf);refine wpAny_comprehension_free (use:=use) rfl hs hcl hb.kind hb.names (thn (hi pins s0 σ H (λJ H1=>∃G1,EOk X.K B G0 G1 H1 σ Z1/\Same G G1/\WT X.K J ds G1) I ⟨G,Z,k0,by rw[zf];exact λJ G1 H1 k1 s1 it=>⟨G1,k1,s1,it⟩⟩) λv s1 h1=>thn h1 λitv s2 h2=>?_)
 obtain ⟨it,fp,tn,J,H2,rfl,I2,T,st2,f2,G1,k1,sg1,its⟩:=h2;refine wpAny_newObj_type (wpAny_newFunctionEnv hb.cell (by intro y hy;simp at hy) (λh₁ hns₁ hsb₁=>?_) hb.kind)
 dsimp only at hns₁ hsb₁ ⊢;have hfr:H2 s2.heap.objs.size=none:=I2.hok.fresh (Qy _)
 have I3:Inv X pins σ (upd H2 s2.heap.objs.size (.lst [])) { s2 with heap:=s2.heap.push { cls:=.type "list", dict:=none,data:=.seq ([]:List Uy).toArray } } :=
  I2.laid (t':=s2.toks) (λb u e=>Qm _ e) (Qy _) ⟨J8 _,[],0,.nil,QH _ rfl⟩
 generalize hP:s2.heap.push { cls:=.type "list", dict:=none,data:=.seq ([]:List Uy).toArray }=P at I3 hns₁ hsb₁ ⊢
 have old:∀b o,s2.heap.get? b=some o->P.get? b=some o:=λb o e=>hP ▸ Qm _ e;have kept:∀b o,P.get? b=some o->h₁.get? b=some o:=λb o e=>hsb₁.extBut b o (QR (Qi e)) (Qm _ e);have fpo:∀b∈fp,∃o,s2.heap.get? b=some o:=λb hb=>let ⟨o,e,_⟩:=T.obj _ _ st2 b hb;⟨o,e⟩
 have fpD:∀b∈fp,b≠s2.heap.objs.size:=λb hb=>let ⟨o,e⟩:=fpo b hb;QR (Qi e)
 have f3:∀b∈fp,Yp X pins (upd H2 s2.heap.objs.size (.lst [])) b:=λb hb=>⟨by rw[ZA (fpD b hb)];exact (f2 b hb).1,(f2 b hb).2⟩
 have I4:=I3.enter (scope:=scope) (cl:=cl) (N2:=N2) (k:=k) (fp:=fp) (t':=s2.toks+([]:List (Str×Uy)).length) hb.b hb.kind hb.cell hb.free cl1 cl2 hns₁ kept f3 (λb hb=>let ⟨o,e⟩:=fpo b hb;⟨o,old b o e⟩)
 dsimp only at I4;obtain ⟨Gb,kb,sgb,gbD,ex⟩:=EM l k1 hfr k;have sH:Same H2 (upd H2 s2.heap.objs.size (.lst [])):=Yw hfr;have hD3:upd H2 s2.heap.objs.size (.lst []) s2.heap.objs.size=some (.lst []):=Yx;generalize upd H2 s2.heap.objs.size (.lst [])=H3 at I3 I4 f3 kb sH hD3;generalize s2.heap.objs.size=D at *;have tn0:tn 0 h₁:=T.keep 0 _ _ st2 λb hb o e=>kept b o (old b o e)
 have stat:∀b∈fp,Yp (X.blk N2 scope cl P.objs.size { s2 with heap:=P } H3 fp) pins H3 b:=λb hb=>by
  obtain ⟨z0,z1,z2,z3,z4,z5⟩:=f3 b hb;obtain ⟨o,e⟩:=fpo b hb;refine ⟨z0,QR (Qi (old b o e)),λz=>?_,.inl hb,λx c q=>z4 x c (cl1 x c q),z5⟩;rcases Q0.mp (I3.stkSub b z) with q|q
  ·exact z1 q
  ·exact z2 q
 have neD:∀a o,H2 a=some o->a≠D:=λa o q z=>by subst z;rw[hfr] at q;cases q
 obtain ⟨hg,ht,hcl'⟩:=hblk cl P.objs.size { s2 with heap:=P } H3 fp;obtain ⟨W,rule,body⟩:=hcl' D (.ref it)
 have loop:=Gv (Y:=X.blk N2 scope cl P.objs.size { s2 with heap:=P } H3 fp) (D':=D) (R:=compPost (model X.prog X.w) X.A X.xe use Qc (.ref D) P.objs.size) rfl hc rule hg ht body I4 T tn0 stat kb
  ⟨λi G H s1 s2 hi=>its.go i G H (sgb.trans s1) s2 hi,λi G H s1 s2 hi=>its.stop i G H (sgb.trans s1) s2 hi,λi G H x H' d s1 s2 e y=>its.yld i G H x H' d (sgb.trans s1) s2 e y⟩ hD3 gbD .nil zl λσ' H' G' vs' s4 L=>by
   obtain ⟨m,hm,_⟩:=id L.inv.loc;have I7:Inv X pins σ H' s4:=I3.call' (ch:=fp) L.inv.os L.inv.base L.inv.hok L.inv.bare λb hb=>⟨(f3 b hb).2.2.2.1,(f3 b hb).2.1,(f3 b hb).2.2.2.2.1,(f3 b hb).2.2.2.2.2⟩;obtain ⟨Gf,eF,dF,rF⟩:=ex G' H' vs' esF hfl L.gg (λa o q=>L.hh a o (neD a o q) (sH a o q)) L.eok.gh (λa o q z=>L.np a o (neD a _ q) (sH a _ q) z) L.gd L.rp
   refine hfin P.objs.size D vs' Gf H' s4 m I7 hm L.inv.free (JW I3.lt) I3.sz (λx c e z=>by obtain ⟨_,q⟩:=I3.cell x c e;exact absurd q.lt (by rw[z];exact Jw _)) (λp hp z=>by have:=Qi (I3.pin p hp).1;exact absurd this (by rw[z];exact Jw _))
    (k1.ext eF) (sg1.trans eF.g) ⟨k1.bh.free hfr,dF,L.hd,rF,λj es' q z=>?_,λj pt d v fp q s r=>k1.freshD eF.h hfr q s r⟩
   obtain ⟨a',ws,h1',h2',h3',h4',h5'⟩:=k1.own j es' q;rw[z] at h1';cases h1';rw[hfr] at h4';cases h4'
 exact codeAny_compStart_list loop (T.self X.A 0 _ _ _ tn0 loop)
theorem EL{l:Bool}{tg elt iter:UD}{ifs:List UD}{gs:List Comprehension}{scope:Scope}{pos:Pos}{N2:List Str}{k:Nat}{f:M (List D)}{s:D->UR->Option UR}{t:M Bool}{rd:RdB}(hc:X.calm=true)
  (hi:PI X tg iter (iD X.K B G0 f)) (hblk:X6 X N2 scope (.ListComp elt (⟨tg,iter,ifs,0⟩::gs) scope pos) tg ifs s t rd) (hb:Pi X.env.scope scope X.N N2 k) (hs:∀x,UW iter X.env x=pure x:=by intro _;rfl) :
  PE X (.ListComp elt (⟨tg,iter,ifs,0⟩::gs) scope pos) (tL X.K B G0 (dCG l f k s t rd)):=by
 intro pins s0 σ H Q I ⟨G,Z,k0,a⟩
 cases z:dCG l f k s t rd Z with
 |bad=>rw[z] at a;exact a.elim
 |ok es Z1=>
 rw[z] at a;obtain ⟨ds,ZF,zf,zl,hfl⟩:=Mg z;rw[eval_ListComp];refine ME hc hi hblk hb hs I k0 zf zl hfl λC D vs G' H' s4 m I7 hm hC hL hz hcl hp k' s' n=>?_;exact ⟨m,hm,λh' sb=>⟨.ref D,H',I7.turned (t':=s4.toks) (it:=C) (λb o hb e=>(sb.2 b hb).trans e) hC hL (.inr hz) hcl hp,rfl,a D vs G' H' k' s' n⟩⟩
theorem sD_g{l:Bool}{y:Str}{j:Nat}{py:Pos}{spos:Pos}{tg elt iter:UD}{ifs:List UD}{gs:List Comprehension}{scope:Scope}{pos:Pos}{N2:List Str}{k:Nat}{f:M (List D)}{s:D->UR->Option UR}{t:M Bool}{rd:RdB}(hN:X.N.Nodup)(hj:X.N[j]?=some y)(hy:X.env.scope.names.lookup y=some .local)(hc:X.calm=true)
  (hi:PI X tg iter (iD X.K B G0 f)) (hblk:X6 X N2 scope (.ListComp elt (⟨tg,iter,ifs,0⟩::gs) scope pos) tg ifs s t rd) (hb:Pi X.env.scope scope X.N N2 k) (hs:∀x,UW iter X.env x=pure x:=by intro _;rfl)
  (hsw:swapsWith (.ListComp elt (⟨tg,iter,ifs,0⟩::gs) scope pos) (some (.Name y py)) spos.line X.env=pure true:=by rfl) :
  PS X (.Assign [.Name y py] (.ListComp elt (⟨tg,iter,ifs,0⟩::gs) scope pos) spos) (tS X.K B G0 KX (ZC j (dCG l f k s t rd))):=by
 intro pins s0 σ H Dn I ⟨G,Z,k0,a⟩;unfold ZC sB at a
 cases z:dCG l f k s t rd Z with
 |bad=>rw[z] at a;exact a.elim
 |ok es Z1=>
 rw[z] at a;dsimp only at a
 by_cases hl:j<Z1.length
 ·rw[Ql hl] at a
  obtain ⟨ds,ZF,zf,zl,hfl⟩:=Mg z;rw[exec_Assign_Name_used _ _ _ _ hsw];refine Qf (Jt (Qf ?_));show UF _ X.A (do let _ ←comprehension (.ListComp elt (⟨tg,iter,ifs,0⟩::gs) scope pos) scope X.env _ (newList []) false (eval iter X.env) (some (assign (.Name y py) X.env))) _ _ s0
  refine Qf (QO (ME (use:=some (assign (.Name y py) X.env)) (Qc:=λ_ s'=>SP X pins Dn .next s') hc hi hblk hb hs I k0 zf zl hfl λC D vs G' H' s4 m I7 hm hC hL hz hcl hp k' s' n=>?_) (λ_ s' hq=>Qo (Qo hq)) λ_ _ e=>e);show UF _ X.A (assign (.Name y py) X.env (.ref D)) _ _ s4;refine wpAny_assign_Name (ML I7 hN hj (.inl hy) (v:=.ref D) rfl (λs5 I8 ⟨ad,sb,hx⟩=>?_) (.inr hy))
  have hCa:C≠ad:=by
   rcases hx with e|e
   ·rw[e];exact hL
   ·exact Ne.symm (hcl y ad e)
  refine ⟨m,hm.sameBut sb hCa,λh' sb'=>⟨_,H',I8.turned (t':=s5.toks) (it:=C) (λb o hb e=>(sb'.2 b hb).trans e) hC hL (.inr hz) hcl hp,?_⟩⟩;exact a _ G' H' (k'.setOwn n hl) s'
 ·rw[Qs hl] at a;exact a.elim
theorem EK{K:Frag}{f f':M (List D)}(h:∀Z es Z',f Z=.ok es Z'->f' Z=.ok es Z'){σ:St}{H:Hp}{Q:VK}(q:tL K B G0 f σ H Q):tL K B G0 f' σ H Q:=by
 obtain ⟨G,Z,k,a⟩:=q;refine ⟨G,Z,k,?_⟩
 cases z:f Z with
 |bad=>rw[z] at a;exact a.elim
 |ok es Z'=>rw[z] at a;rw[h Z es Z' z];exact a
theorem LQ{K:Frag}{f f':M (List D)}{j:Nat}(h:∀Z es Z',f Z=.ok es Z'->f' Z=.ok es Z'){Dn:_}{σ:St}{H:Hp}(q:tS K B G0 KX (ZC j f) Dn σ H):tS K B G0 KX (ZC j f') Dn σ H:=by
 obtain ⟨G,Z,k,a⟩:=q;refine ⟨G,Z,k,?_⟩;unfold ZC sB at a ⊢
 cases z:f Z with
 |bad=>rw[z] at a;exact a.elim
 |ok es Z'=>rw[z] at a;rw[h Z es Z' z];exact a
end
theorem Ng{s:D->UR->Option UR}{t:M Bool}{g:M D}:∀{ds:List D}{Z:UR}{es esF:List D},Zs s t g ds Z es=some esF->∃ZF,cT s t (rL g) ds Z es=some (esF,ZF)
 |[],Z,es,esF,h=>by rw[Zs] at h;cases h;exact ⟨Z,rfl⟩
 |d::r,Z,es,esF,h=>by
  rw[Zs] at h;rw[cT]
  cases zs:s d Z with
  |none=>rw[zs] at h;cases h
  |some Z1=>
  rw[zs] at h;dsimp only at h ⊢
  cases zt:t Z1 with
  |bad=>rw[zt] at h;cases h
  |ok b Z2=>
  rw[zt] at h;dsimp only at h ⊢
  cases b with
  |false=>exact Ng (ds:=r) h
  |true=>
   rw[Ql rfl] at h ⊢;unfold rL
   cases zg:g Z2 with
   |bad=>rw[zg] at h;cases h
   |ok e Z3=>
   rw[zg] at h;dsimp only at h ⊢
   split at h
   ·rename_i hl
    rw[Ql hl];exact Ng (ds:=r) h
   ·cases h
theorem Nt{s:D->UR->Option UR}{t:M Bool}{g:M D}:∀{ds:List D}{Z:UR}{es:List D},Xu s t g ds Z es=cT s t (rL g) ds Z es
 |[],Z,es=>rfl
 |d::r,Z,es=>by
  rw[Xu,cT]
  cases s d Z with
  |none=>rfl
  |some Z1=>
  dsimp only
  cases t Z1 with
  |bad=>rfl
  |ok b Z2=>
  dsimp only
  cases b with
  |false=>exact Nt (ds:=r)
  |true=>
   rw[Ql rfl,Ql rfl];unfold rL
   cases g Z2 with
   |bad=>rfl
   |ok e Z3=>
   dsimp only;split
   ·exact Nt (ds:=r)
   ·rfl
theorem Nr{s s1:D->UR->Option UR}{t t1:M Bool}{f:M (List D)}{Rd:List D->UR->List D->Option (List D×UR)}{rd:RdB}(hR:∀ds Z es,Rd ds Z es=cT s1 t1 rd ds Z es) :
  ∀{ds:List D}{Z:UR}{es:List D},Wj s t f Rd ds Z es=cT s t (rN f s1 t1 rd) ds Z es
 |[],Z,es=>rfl
 |d::r,Z,es=>by
  rw[Wj,cT]
  cases s d Z with
  |none=>rfl
  |some Z1=>
  dsimp only
  cases t Z1 with
  |bad=>rfl
  |ok b Z2=>
  dsimp only
  cases b with
  |false=>exact Nr hR (ds:=r)
  |true=>
   rw[Ql rfl,Ql rfl];unfold rN
   cases f Z2 with
   |bad=>rfl
   |ok ds Z3=>
   dsimp only;rw[hR]
   cases cT s1 t1 rd ds (KJ Z3) es with
   |none=>rfl
   |some pr=>exact Nr hR (ds:=r)
theorem MV{s s1:D->UR->Option UR}{t t1:M Bool}{f:M (List D)}{g:M D}:∀{ds:List D}{Z:UR}{es esF:List D},W5 s t f s1 t1 g ds Z es=some esF->∃ZF,cT s t (rN f s1 t1 (rL g)) ds Z es=some (esF,ZF)
 |[],Z,es,esF,h=>by rw[W5] at h;cases h;exact ⟨Z,rfl⟩
 |d::r,Z,es,esF,h=>by
  rw[W5] at h;rw[cT]
  cases zs:s d Z with
  |none=>rw[zs] at h;cases h
  |some Z1=>
  rw[zs] at h;dsimp only at h ⊢
  cases zt:t Z1 with
  |bad=>rw[zt] at h;cases h
  |ok b Z2=>
  rw[zt] at h;dsimp only at h ⊢
  cases b with
  |false=>exact MV (ds:=r) h
  |true=>
   rw[Ql rfl] at h ⊢;unfold rN
   cases zg:f Z2 with
   |bad=>rw[zg] at h;cases h
   |ok ds Z3=>
   rw[zg] at h;dsimp only at h ⊢;rw[←Nt]
   cases zl:Xu s1 t1 g ds (KJ Z3) es with
   |none=>rw[zl] at h;cases h
   |some pr=>rw[zl] at h;exact MV (ds:=r) h
theorem Yv{f:M (List D)}{k:Nat}{s:D->UR->Option UR}{t:M Bool}{g:M D}(Z:UR)(es:List D)(Z':UR)(h:ZS f k s t g Z=.ok es Z'):dCG false f k s t (rL g) Z=.ok es Z':=by
 unfold ZS at h;unfold dCG
 cases zf:f Z with
 |bad=>rw[zf] at h;cases h
 |ok ds Z1=>
 rw[zf] at h;dsimp only[Xi] at h ⊢
 cases zl:Zs s t g ds (KJ Z1++UJ k none) [] with
 |none=>rw[zl] at h;cases h
 |some esF=>
 rw[zl] at h;cases h;obtain ⟨ZF,e⟩:=Ng zl;rw[e];exact Ql λz=>by cases z
theorem qZ{f:M (List D)}{k:Nat}{s:D->UR->Option UR}{t:M Bool}{g:M D}(Z:UR)(es:List D)(Z':UR)(h:P3 f k s t g Z=.ok es Z'):dCG true f k s t (rL g) Z=.ok es Z':=by
 unfold P3 at h;unfold dCG
 cases zf:f Z with
 |bad=>rw[zf] at h;cases h
 |ok ds Z1=>
 rw[zf] at h;dsimp only[Xi] at h ⊢
 cases zl:Zs s t g ds (Yr Z1++UJ k none) [] with
 |none=>rw[zl] at h;cases h
 |some esF=>
 rw[zl] at h;dsimp only at h
 split at h
 ·rename_i hf
  cases h;obtain ⟨ZF,e⟩:=Ng zl
  rw[e];exact Ql λ_=>hf
 ·cases h
theorem qY{f f1:M (List D)}{k:Nat}{s s1:D->UR->Option UR}{t t1:M Bool}{g:M D}(Z:UR)(es:List D)(Z':UR)(h:Od f k s t f1 s1 t1 g Z=.ok es Z'):dCG false f k s t (rN f1 s1 t1 (rL g)) Z=.ok es Z':=by
 unfold Od at h;unfold dCG
 cases zf:f Z with
 |bad=>rw[zf] at h;cases h
 |ok ds Z1=>
 rw[zf] at h;dsimp only[Xi] at h ⊢
 cases zl:W5 s t f1 s1 t1 g ds (KJ Z1++UJ k none) [] with
 |none=>rw[zl] at h;cases h
 |some esF=>
 rw[zl] at h;cases h;obtain ⟨ZF,e⟩:=MV zl;rw[e];exact Ql λz=>by cases z
theorem qX{f f1 f2:M (List D)}{k:Nat}{s s1 s2:D->UR->Option UR}{t t1 t2:M Bool}{g:M D}(Z:UR)(es:List D)(Z':UR)(h:Oc f k s t f1 s1 t1 f2 s2 t2 g Z=.ok es Z'):dCG false f k s t (rN f1 s1 t1 (rN f2 s2 t2 (rL g))) Z=.ok es Z':=by
 unfold Oc at h;unfold dCG
 cases zf:f Z with
 |bad=>rw[zf] at h;cases h
 |ok ds Z1=>
 rw[zf] at h;dsimp only[Xi,SQ] at h ⊢;rw[Nr λ_ _ _=>Nr λ_ _ _=>Nt] at h
 cases zl:cT s t (rN f1 s1 t1 (rN f2 s2 t2 (rL g))) ds (KJ Z1++UJ k none) [] with
 |none=>rw[zl] at h;cases h
 |some pr=>
 rw[zl] at h;cases h;exact Ql λz=>by cases z
def Pr(q:Option NameKind->Bool)(SC scope:Scope)(N1 N2:List Str)(k:Nat):Bool :=
 On scope.names N1 N2 k&&decide (scope.kind=.function)&&scope.names.all λy=>match y.2 with
  |.cell=>false
  |.local=>decide (scope.names.lookup y.1=some .local)
  |.free=>q (SC.names.lookup y.1)
  |_=>true
def OH:Option NameKind->Bool
 |some .cell=>true|some .free=>true|_=>false
theorem jL{q:Option NameKind->Bool}{SC SC' scope:Scope}{N1 N2:List Str}{k:Nat}(h:Pr q SC scope N1 N2 k=true)(f:∀x,q (SC.names.lookup x)=true->SC'.names.lookup x=some .cell∨SC'.names.lookup x=some .free):Pi SC' scope N1 N2 k:=by
 unfold Pr at h;rw[Jm,Jm,Jn] at h;obtain ⟨⟨h1,h2⟩,h3⟩:=h;refine ⟨h1,Qa h2,λy hy e=>?_,λy hy e=>?_,λy hy e=>?_⟩
 ·have:=h3 y hy;rw[e] at this;cases this
 ·have:=h3 y hy;rw[e] at this;exact Qa this
 ·have:=h3 y hy;rw[e] at this;exact f _ this
theorem Mf{SC scope:Scope}{N1 N2:List Str}{k:Nat}(h:Pr OH SC scope N1 N2 k=true):Pi SC scope N1 N2 k:=jL h λx e=>by
 cases z:SC.names.lookup x with
 |none=>rw[z] at e;cases e
 |some y=>rw[z] at e;cases y <;> first|exact .inl rfl|exact .inr rfl|cases e
section
variable{X:Cx}{B G0:Hp}{KX:XW}
theorem Xl{l:Bool}{tg elt iter:UD}{ifs:List UD}{gs:List Comprehension}{scope:Scope}{pos:Pos}{f:M (List D)}{s:D->UR->Option UR}{t:M Bool}{rd:RdB}{F:M (List D)}(SC:Scope)(N1 N2:List Str)(k:Nat)(le:∀Z es Z',F Z=.ok es Z'->dCG l f k s t rd Z=.ok es Z')(hc:X.calm=true)
  (hi:PI X tg iter (iD X.K B G0 f)) (hblk:X6 X N2 scope (.ListComp elt (⟨tg,iter,ifs,0⟩::gs) scope pos) tg ifs s t rd) (h1:X.env.scope=SC) (h2:X.N=N1) (hb:Pr OH SC scope N1 N2 k=true) (hs:∀x,UW iter X.env x=pure x:=by intro _;rfl) :
  PE X (.ListComp elt (⟨tg,iter,ifs,0⟩::gs) scope pos) (tL X.K B G0 F) :=
 KW (EL hc hi hblk (by rw[h1,h2];exact Mf hb) hs) λ_ _ _ q=>EK le q
theorem YT{l:Bool}{y:Str}{j:Nat}{py:Pos}{spos:Pos}{tg elt iter:UD}{ifs:List UD}{gs:List Comprehension}{scope:Scope}{pos:Pos}{f:M (List D)}{s:D->UR->Option UR}{t:M Bool}{rd:RdB}{F:M (List D)}(SC:Scope)(N1 N2:List Str)(k:Nat)(le:∀Z es Z',F Z=.ok es Z'->dCG l f k s t rd Z=.ok es Z')(hN:X.N.Nodup)(hj:X.N[j]?=some y)(hy:X.env.scope.names.lookup y=some .local)(hc:X.calm=true)
  (hi:PI X tg iter (iD X.K B G0 f)) (hblk:X6 X N2 scope (.ListComp elt (⟨tg,iter,ifs,0⟩::gs) scope pos) tg ifs s t rd) (h1:X.env.scope=SC) (h2:X.N=N1) (hb:Pr OH SC scope N1 N2 k=true) (hs:∀x,UW iter X.env x=pure x:=by intro _;rfl)
  (hsw:swapsWith (.ListComp elt (⟨tg,iter,ifs,0⟩::gs) scope pos) (some (.Name y py)) spos.line X.env=pure true:=by rfl) :
  PS X (.Assign [.Name y py] (.ListComp elt (⟨tg,iter,ifs,0⟩::gs) scope pos) spos) (tS X.K B G0 KX (ZC j F)) :=
 Yn (sD_g hN hj hy hc hi hblk (by rw[h1,h2];exact Mf hb) hs hsw) λ_ _ _ q=>LQ le q
end
theorem AC{f:M (List D)}{k:Nat}{s s1' s2':D->UR->Option UR}{t t1' t2':M Bool}{f1 f2:M (List D)}{g:M D}{Z Z1 Z2:UR}{ds es:List D}(h1:f Z=.ok ds Z1)(h2:Wj s t f1 (Wj s1' t1' f2 (Xu s2' t2' g)) ds (KJ Z1++UJ k none) []=some (es,Z2)) :
  Oc f k s t f1 s1' t1' f2 s2' t2' g Z=.ok es Z1:=by
 unfold Oc;rw[h1];dsimp only[SQ];rw[h2];rfl
section
variable{X:Cx}{B G0:Hp}{e a b c tg:UD}{pos:Pos}{es rest:List UD}
theorem EOk.given{K:Frag}{G H:Hp}{σ:St}{Z:UR}{a:UB}{vs:List V}{ds:List D}(k:EOk K B G0 G H σ Z)(n:NewL K B G H σ Z a vs ds):EOk K B G0 (upd G a (.lst vs)) H σ Z where
 bh:=k.bh
 gh:=λb u q=>by
  by_cases z:b=a
  ·subst z;rw[Yx] at q;cases q;exact n.h
  ·rw[ZA z] at q;exact k.gh b u q
 g0:=k.g0.trans (Yw n.g)
 np:=λb o q z=>by
  have zb:b≠a:=λz=>by subst z;rw[n.b] at q;cases q
  rw[ZA zb];exact k.np b o q z
 len:=k.len
 pub:=λi d q=>let ⟨v,h1,h2⟩:=k.pub i d q;⟨v,h1,h2.mono (Yw n.g)⟩
 own:=λi ds q=>by
  obtain ⟨b,ws,h1,h2,h3,h4,h5⟩:=k.own i ds q;have zb:b≠a:=λz=>by subst z;exact n.f i ds q h1
  exact ⟨b,ws,h1,h2,by rw[ZA zb];exact h3,h4,h5.mono (Yw n.g)⟩
 sep:=k.sep
 dp:=k.dp.map (λ_ _ _ q=>⟨q,rfl⟩) (λ_ ds q=>⟨ds,q,rfl⟩) λi p d v fp q s r w nn=>⟨r.mono (Yw n.g) (.refl _),λb m=>⟨(w b m).1,by rw[ZA (λz=>n.dp i p d v fp q s r (by rw[←z];exact m))];exact (w b m).2⟩⟩
theorem Y0{f:M (List D)}(h:PE X e (tL X.K B G0 f)):PE X e (tD X.K B G0 (Ka UK f)) :=
 KW h λσ H Q ⟨G,Z,k,a⟩=>by
  refine ⟨G,Z,k,?_⟩;unfold Ka Kr at a
  cases z:f Z with
  |bad=>rw[z] at a;exact a.elim
  |ok ds Z1=>
   rw[z] at a;intro ad vs G' H' k' s' n;exact a (.ref ad) _ H' (k'.given n) (s'.trans (Yw n.g)) (.lst (SqL.of Yx) (n.r.mono (Yw n.g)))
theorem A4(hc:X.calm=true):XJ X (.builtin "all") (λxs H Q=>∃l,∃bs:List Bool,xs=[.ref l]/\SqL X.K H l (bs.map V.bl)/\Q (.bl (bs.all id)) H):=by
 intro pins s σ H xs us Q I rx h;obtain ⟨l,bs,rfl,hq,q⟩:=h;obtain ⟨u,rfl,ru⟩:=rx.one;cases ru;obtain ⟨its,rv,p,hz⟩:=I.list hq;have hl:=p.isList;have hlt:l<s.heap.objs.size:=by obtain ⟨_,e,_⟩:=id hl;exact Qi e
 have key:∀(i:Nat) v,its.toArray[i]?=some v->∃t,bs[i]?=some t/\v=.bool t:=λi v e=>by
  have e:its[i]?=some v:=by simpa using e
  have hi:i<bs.length:=by
   have:=(Qg.mp e).1
   have h2:=rv.length;rw[Qb] at h2;omega
  obtain ⟨u,e2,r2⟩:=rv.get (i:=i) (x:=.bl bs[i]) (by rw[Qd,Qe hi];rfl)
  rw[e] at e2;cases e2;exact ⟨bs[i],Qe hi,r2⟩
 refine call_all_walk (JL hl ?_)
 refine ⟨s.heap.objs.size,[s.heap.objs.size,l],[s.heap.objs.size],its.toArray.size,_,_,λi=>(bs[i]?).getD true,rfl,Walks.list (A:=X.A.in1) (I.ok.hd hc) _ l (QR hlt) its.toArray,
  ⟨⟨_,QH _ rfl,rfl,rfl⟩,hl.push _⟩,λi v s' Q' E' hP hQ=>?_,λh' tk hk=>?_⟩
 ·obtain ⟨b,e,rfl⟩:=key i v hP
  simp only[e,J5] at hQ;exact Q6 hQ
 ·have hn:its.toArray.size=bs.length:=by have:=rv.length;rw[List.length_map] at this;simp;omega
  have e:((UI its.toArray.size).all λi=>(bs[i]?).getD true)=bs.all id:=by
   rw[hn,JH,Jn,Jn];constructor
   ·intro h b hb
    obtain ⟨i,hi,e⟩:=List.getElem_of_mem hb
    have:=h i (Q7.mpr hi)
    simp only[Qe hi,J5,e] at this;exact this
   ·intro h i hi
    have hi':=Q7.mp hi;simp only[Qe hi',J5];exact h _ (Jq hi')
  rw[e];exact ⟨.bl (bs.all id),H,I.kept (t':=tk) λb x e=>hk b x (λhm=>by rw[Ja.mp hm] at e;exact Jw _ (Qi e)) (Qm _ e),rfl,q⟩
def T7:List D->Option (List Bool)
 |[]=>some []
 |.bool b::r=>(T7 r).map (b :: ·)
 |_=>none
theorem Es{K:Frag}{G:Hp}:∀{vs:List V}{ds:List D}{bs:List Bool},Reps K G vs ds->T7 ds=some bs->vs=bs.map V.bl
 |_,_,bs,.nil,e=>by cases e;rfl
 |_,_,bs,.cons (d:=d) r t,e=>by
  cases d with
  |bool b=>
   unfold T7 at e
   cases z:T7 _ with
   |none=>rw[z] at e;cases e
   |some cs=>
    rw[z] at e;cases e;rw[r.bl_inv,Es t z];rfl
  |_=>cases e
def YU:List D->Option D
 |[.list ds]=>(T7 ds).map λbs=>.bool (bs.all id)
 |_=>none
theorem PY(hc:X.calm=true):XT X (.builtin "all") YU:=by
 refine ⟨_,A4 hc,λvs G H ds d Q s r e k=>?_⟩;unfold YU at e
 split at e
 ·rename_i ds
  cases z:T7 ds with
  |none=>rw[z] at e;cases e
  |some bs=>
   rw[z] at e;cases e;obtain ⟨v,rfl,q⟩:=r.one_inv;obtain ⟨l,ws,rfl,h1,r1⟩:=q.lst_inv;have hw:=Es r1 z;subst hw;exact ⟨l,bs,rfl,s.seq h1,k _ G H (.refl s) (.bl _)⟩
 ·cases e
def Its(x:Str):It:=⟨λi _=>i<x.cps.size,λi H v H'=>H'=H/\∃c,x.cps[i]?=some c/\v=.str ⟨#[c]⟩,λi _=>x.cps.size<=i⟩
theorem A3{P:UA}{w:World}{K:Frag}{tg:UD}(x:Str)(t:Tok)(it:UB):Turn P w K tg (Its x) [it] it (λi h=>h.IsStrIter it (strIterType x) x t i) where
 mem:=by simp
 obj:=λi h st b hb=>by
  have e:b=it:=by simpa using hb
  subst e;obtain ⟨o,e,c,d⟩:=st;exact ⟨o,e,λv z=>by rw[d] at z;cases z⟩
 keep:=λi h h' st k=>by
  obtain ⟨o,e,c,d⟩:=st;exact ⟨o,k it (by simp) o e,c,d⟩
 item:=by
  intro X hP hw hK hc i pins s σ H E I hf st hg;subst hP hw hK;obtain ⟨f0,f1,f2,f3,f4,f5⟩:=hf it (by simp)
  have hx:x.cps[i]?=some x.cps[i]:=JS hg
  have fin:∀h' tk(T:String),strIterType x=T->h'.IsStrIter it T x t (i+1)->Heap.SameBut it s.heap h'->["enumerate", "zip", "dict_itemiterator", "dict_reverseitemiterator", "odict_iterator", "itertools.zip_longest", "itertools.pairwise"].contains T=false ->
    ∃u,some (Value.str ⟨#[x.cps[i]]⟩ s.toks)=some u/\UF (model X.prog X.w) X.A (letOwnedTupleGo tg (.ref it) u) (λ_ s2=>∃v H',Inv X pins σ H' s2/\RelV v u/\(Its x).yld i H v H'/\s2.heap.IsStrIter it (strIterType x) x t (i+1)/\∀b∈[it],H' b=none) E { s with heap:=h',toks:=tk }:=by
   intro h' tk T eT st' sb hn;have I1:Inv X pins σ H { s with heap:=h',toks:=tk }:=I.turned (t':=tk) (λb o hb e=>(sb.2 b hb).trans e) f0 f1 f3 f4 f5;obtain ⟨o,e,c,d⟩:=id st';refine ⟨_,rfl,ON (s:={ s with heap:=h',toks:=tk }) e c d hn ⟨.str ⟨#[x.cps[i]]⟩,H,I1,⟨_,rfl⟩,⟨rfl,_,hx,rfl⟩,by rw[eT];exact st',λb hb=>(hf b hb).1⟩⟩
  cases ha:x.cps.all (· < 128) with
  |true=>
   have eT:strIterType x = "str_ascii_iterator" := by simp[strIterType,ha]
   rw[eT] at st;exact wpAny_pyNext_ascii_item st hx λh' st' sb=>fin h' _ _ eT st' sb (by decide)
  |false=>
   have eT:strIterType x = "str_iterator" := by simp[strIterType,ha]
   rw[eT] at st;exact wpAny_pyNext_wide_item st hx λh' st' sb=>fin h' _ _ eT st' sb (by decide)
 done:=by
  intro X hP hw hK hc i pins s σ H E I hf st hg;subst hP hw hK;obtain ⟨f0,f1,f2,f3,f4,f5⟩:=hf it (by simp)
  have hx:x.cps[i]?=none:=Array.getElem?_eq_none hg
  cases ha:x.cps.all (· < 128) with
  |true=>
   have eT:strIterType x = "str_ascii_iterator" := by simp[strIterType,ha]
   rw[eT] at st;exact wpAny_pyNext_ascii_end (I.ok.hd hc) st hx λh' eb=>⟨rfl,I.turned (t':=s.toks) (λb o hb e=>eb b o hb e) f0 f1 f3 f4 f5⟩
  |false=>
   have eT:strIterType x = "str_iterator" := by simp[strIterType,ha]
   rw[eT] at st;exact wpAny_pyNext_wide_end (I.ok.hd hc) st hx λh' eb=>⟨rfl,I.turned (t':=s.toks) (λb o hb e=>eb b o hb e) f0 f1 f3 f4 f5⟩
 self:=λA i s Q E st h=>by
  cases ha:x.cps.all (· < 128) with
  |true=>
   have eT:strIterType x = "str_ascii_iterator" := by simp[strIterType,ha]
   rw[eT] at st;exact wpAny_pyIter_striter_ascii st h
  |false=>
   have eT:strIterType x = "str_iterator" := by simp[strIterType,ha]
   rw[eT] at st;exact wpAny_pyIter_striter_wide st h
def iAny(K:Frag)(tl:TE):TI:=λσ H R=>tl σ H λx H1=>(∃a,x=.ref a/\(∃xs,SqL K H1 a xs)/\R (Itl K a) H1)∨(∃a,x=.ref a/\(∃xs,SqT K H1 a xs)/\R (Itt K a) H1) ∨ ∃z,x=.str z/\R (Its z) H1
theorem Da{l:UD}{tl:TE}(hl:PE X l tl):PI X tg l (iAny X.K tl):=by
 intro pins s σ H R I h;refine thn (hl pins s σ H _ I h) λv s1 ⟨x,H1,I1,r1,q1⟩=>?_
 have fpOk:∀b∈[s1.heap.objs.size],Yp X pins H1 b:=λb hb=>by
  have e:b=s1.heap.objs.size:=by simpa using hb
  subst e;exact I1.fpOk (Qy _) (I1.hok.fresh (Qy _))
 rcases q1 with ⟨a,e,⟨xs,hq⟩,q⟩|⟨a,e,⟨xs,hq⟩,q⟩|⟨z,e,q⟩
 ·subst e
  cases r1;obtain ⟨its,rv,p,hz⟩:=I1.list hq
  refine JL p.isList ?_;exact ⟨s1.heap.objs.size,[s1.heap.objs.size],_,_,H1,rfl,I1.kept (t':=s1.toks) λb o e=>Qm _ e,qJ a _,⟨_,QH _ rfl,rfl,rfl⟩,fpOk,q⟩
 ·subst e
  cases r1;obtain ⟨its,rv,p,hz⟩:=I1.tuple hq
  refine wpAny_pyIter_tuple p ?_;exact ⟨s1.heap.objs.size,[s1.heap.objs.size],_,_,H1,rfl,I1.kept (t':=s1.toks) λb o e=>Qm _ e,jo a _,⟨_,QH _ rfl,rfl,rfl⟩,fpOk,q⟩
 ·subst e
  obtain ⟨t,rfl⟩:=r1;refine wpAny_pyIter_strU ?_;exact ⟨s1.heap.objs.size,[s1.heap.objs.size],_,_,H1,rfl,I1.kept (t':=s1.toks) λb o e=>Qm _ e,A3 z t _,⟨_,QH _ rfl,rfl,rfl⟩,fpOk,q⟩
def Ob(z:Str):List D:=z.cps.toList.map λc=>.str ⟨#[c]⟩
def Me:D->Option (List D)
 |.list ds=>some ds
 |.tuple ds=>some ds
 |.str z=>some (Ob z)
 |_=>none
theorem kz{K:Frag}{G1:Hp}{ad:UB}{vs:List V}{ds:List D}(h:SqT K G1 ad vs)(r:Reps K G1 vs ds):WT K (Itt K ad) ds G1 where
 go:=λi G H s1 s2 hi=>by
  have hi':i<vs.length:=by rw[r.length];exact hi
  exact ⟨vs,vs[i],We (s1.trans s2) h,Qe hi'⟩
 stop:=λi G H s1 s2 hi=>⟨vs,We (s1.trans s2) h,by rw[r.length];exact hi⟩
 yld:=λi G H x H' d s1 s2 e y=>by
  obtain ⟨rfl,y⟩:=y;obtain ⟨v,e1,r1⟩:=r.get e
  have:=y vs (We (s1.trans s2) h)
  rw[e1] at this;cases this;exact ⟨G,.refl s2,r1.mono s1⟩
theorem qW{K:Frag}{G1:Hp}{z:Str}:WT K (Its z) (Ob z) G1 where
 go:=λi G H s1 s2 hi=>by unfold Ob at hi;simpa[Its] using hi
 stop:=λi G H s1 s2 hi=>by unfold Ob at hi;simpa[Its] using hi
 yld:=λi G H x H' d s1 s2 e y=>by
  obtain ⟨rfl,c,hc,rfl⟩:=y;unfold Ob at e;rw[Qd] at e
  have:z.cps.toList[i]?=some c:=by simpa using hc
  rw[this] at e;cases e;exact ⟨G,.refl s2,.str _⟩
def Zt(f:M D):M (List D):=Kr f λx=>Ks (Me x)
theorem Yk{f:M D}(h:PE X e (tD X.K B G0 f)):PI X tg e (iD X.K B G0 (Zt f)):=Ww (Da h) λσ H R q=>tM.toI (R0:=Rep X.K) q λv H' G' Z' x k r a=>by
 cases x with
 |list ds=>
  obtain ⟨ad,vs,rfl,h1,r1⟩:=r.lst_inv;exact .inl ⟨ad,rfl,⟨vs,k.gh.seq h1⟩,a _ G' H' k (.refl _) (jg h1 r1)⟩
 |tuple ds=>
  obtain ⟨ad,vs,rfl,h1,r1⟩:=r.tup_inv;exact .inr (.inl ⟨ad,rfl,⟨vs,We k.gh h1⟩,a _ G' H' k (.refl _) (kz h1 r1)⟩)
 |str z=>
  have:=r.str_inv
  subst this;exact .inr (.inr ⟨z,rfl,a _ G' H' k (.refl _) qW⟩)
 |_=>exact a.elim
def inS(i j:Str):Bool:=!(Builtin.Str.occurrences j i 0 j.length 1).isEmpty
def oInS:D->D->Option Bool
 |.str i,.str j=>some (inS i j)
 |_,_=>none
def Lh:D->D->Option Bool
 |.str i,.str j=>some (!inS i j)
 |_,_=>none
theorem EJ:OpB X (UH .In) oInS:=⟨_,qF,λv u G H x y d Q s rx ry e k=>by
 unfold oInS at e
 split at e
 ·cases e
  have:=rx.str_inv;subst this
  have:=ry.str_inv;subst this
  exact ⟨_,_,rfl,rfl,k⟩
 ·cases e⟩
theorem E9:OpB X (UH .NotIn) Lh:=⟨_,kJ,λv u G H x y d Q s rx ry e k=>by
 unfold Lh at e
 split at e
 ·cases e
  have:=rx.str_inv;subst this
  have:=ry.str_inv;subst this
  exact ⟨_,_,rfl,rfl,k⟩
 ·cases e⟩
theorem OO{x:Str}{i:Int}(hg:Gl X x)(hm:∃t,X.mg x=some (.int i t))(hd:(x==("__debug__" : Str))=false:=by decide):PE X (.Name x pos) (tD X.K B G0 (U1 (.int i))):=by
 obtain ⟨t,hm⟩:=hm;exact KW (HK (v:=.int i) hg hm ⟨t,rfl⟩ hd) λσ H Q ⟨G,Z,k,a⟩=>aft.now a k (.int _)
end
section
variable{X:Cx}{B G0:Hp}{KX:XW}{e o a b c tg i:UD}{pos p2:Pos}{es rest:List UD}{te to ti:TE}
def E8(te to ti:TE):TS:=λD σ H=>te σ H λv H1=>to σ H1 λx H2=>ti σ H2 λk H3=>∃l xs n,x=.ref l/\H3 l=some (.lst xs)/\k=.int n/\0<=n/\n<xs.length/\D.nx σ (upd H3 l (.lst (xs.set n.toNat v)))
theorem A2(he:PE X e te)(ho:PE X o to)(hi:PE X i ti)(hs:swapsWith e (some (.Subscript o i p2)) pos.line X.env=pure false:=by rfl):PS X (.Assign [.Subscript o i p2] e pos) (E8 te to ti):=by
 intro pins s σ H D I h;refine wpAny_Assign_Subscript (thn (he pins s σ H _ I h) λv s1 ⟨x,H1,I1,r1,q1⟩=>thn (ho pins s1 σ H1 _ I1 q1) λov s2 ⟨y,H2,I2,r2,q2⟩=>thn (hi pins s2 σ H2 _ I2 q2) λiv s3 ⟨k,H3,I3,r3,q3⟩=>?_) hs;obtain ⟨l,xs,n,rfl,hl,rfl,h0,h1,q⟩:=q3;cases r2;obtain ⟨t,rfl⟩:=r3;obtain ⟨z,its,m,r,hlen,ee⟩:=I3.lstM hl
 refine PySem.W.ki_setAt (items:=its.toArray) (n:=m) ee h0 (by
                                  have:UE<2 ^ 63:=by decide
                                  omega) (by simp;omega) ?_
 refine ⟨σ,_,I3.lset (t':=s3.toks) (its:=its) (its':=its.set n.toNat v) (f:=(·.setIfInBounds n.toNat v)) hl ee (by simp) (r.set r1 n.toNat) (by rw[List.length_set];exact z),q⟩
def W0(j:Nat)(g f:M D):SM:=sB f λd Z1=>match Z1[j]? with
 |some (some (.own _))=>sB g (λy Z2=>match y with
  |.int k=>(match Z2[j]? with
   |some (some (.own ds))=>if 0<=k/\k<ds.length then .nx (Z2.set j (some (.own (ds.set k.toNat d)))) else .bad
   |_=>.bad)
  |_=>.bad) Z1
 |_=>.bad
theorem T6{j:Nat}{f g:M D}(he:PE X e (tD X.K B G0 f))(ho:PE X o (ZT j))(hi:PE X i (tD X.K B G0 g))(hs:swapsWith e (some (.Subscript o i p2)) pos.line X.env=pure false:=by rfl) :
  PS X (.Assign [.Subscript o i p2] e pos) (tS X.K B G0 KX (W0 j g f)) :=
 Yn (A2 he ho hi hs) λD σ H q=>tS.bnd (R:=Rep X.K) q λv H1 G1 Z1 d k r a=>by
  cases q0:Z1[j]? with
  |none=>rw[q0] at a;exact a.elim
  |some o0=>
   cases o0 with
   |none=>rw[q0] at a;exact a.elim
   |some sl0=>
    cases sl0 with
    |deep _ _=>rw[q0] at a;exact a.elim
    |pub d=>rw[q0] at a;exact a.elim
    |own ds0=>
     rw[q0] at a;obtain ⟨ad,vs0,h1,h2,h3,h4,h5⟩:=k.own j ds0 q0;refine ⟨.ref ad,h1,G1,Z1,k,?_⟩;dsimp only at a;unfold sB at a
     cases z:g Z1 with
     |bad=>rw[z] at a;exact a.elim
     |ok y Z2=>
      rw[z] at a;dsimp only at a;intro kv G' H' k' s' r'
      cases y with
      |int n=>
       dsimp only at a
       cases q:Z2[j]? with
       |none=>rw[q] at a;exact a.elim
       |some oo=>
        cases oo with
        |none=>rw[q] at a;exact a.elim
        |some sl=>
         cases sl with
         |deep _ _=>rw[q] at a;exact a.elim
         |pub d=>rw[q] at a;exact a.elim
         |own ds=>
          rw[q] at a;dsimp only at a
          split at a
          ·rename_i hn
           obtain ⟨ad',vs,g1,g2,g3,g4,g5⟩:=k'.own j ds q;rw[h1] at g1;cases g1;refine ⟨ad,vs,n,rfl,g4,r'.int_inv,hn.1,by rw[g5.length];exact hn.2,?_⟩
           exact a σ G' _ (k'.change q h1 (g5.set (r.mono s') n.toNat)) s'
          ·exact a.elim
      |_=>exact a.elim
def WD(z:Str)(lo hi:Option Int):Str:=if (Builtin.Str.strSliceIndices lo hi 1 z.length).length=z.length then z else ⟨((Builtin.Str.strSliceIndices lo hi 1 z.length).filterMap (z.cps[·]?)).toArray⟩
theorem E7:SlR X (λx lo hi H Q=>∃z,x=.str z/\(WD z lo hi).length<=UE/\Q (.str (WD z lo hi)) H):=by
 intro pins s σ H x v vl vu lo hi sl Q I rx hs pl pu h;obtain ⟨z,rfl,hz,q⟩:=h;obtain ⟨t,rfl⟩:=rx
 refine ⟨"str", _,F.slot_str_getitem.lookup,typeIs_str s z t,?_⟩
 obtain ⟨l,el,e1⟩:∃l:Option (Int×Tok),vl=partValue l/\l.map (·.1)=lo:=by
  cases pl with
  |none=>exact ⟨none,rfl,rfl⟩
  |int k t'=>exact ⟨some (k,t'),rfl,rfl⟩
 obtain ⟨u,eu,e2⟩:∃u:Option (Int×Tok),vu=partValue u/\u.map (·.1)=hi:=by
  cases pu with
  |none=>exact ⟨none,rfl,rfl⟩
  |int k t'=>exact ⟨some (k,t'),rfl,rfl⟩
 subst el eu;refine wpAny_getItem_str_slice (l:=l) (u:=u) (st:=none) hs rfl ?_;unfold sliceMade slicePicked;rw[e1,e2];unfold WD at hz q
 by_cases hw:(Builtin.Str.strSliceIndices lo hi 1 z.length).length=z.length
 ·rw[Ql hw] at hz q
  rw[if_pos (by simp[hw])]
  exact ⟨.str z,H,I,⟨t,rfl⟩,q⟩
 ·rw[Qs hw] at hz q
  rw[if_neg (by simp[hw])]
  exact ⟨hz,.str _,H,I.tok _,⟨_,rfl⟩,q⟩
end
section
variable{X:Cx}{B G0:Hp}{KX:XW}{e o a b c tg i:UD}{pos p2:Pos}{es rest:List UD}{te to ti:TE}
theorem pvb(i:Nat){x:Str}{pos:Pos}{N':List Str}{scope:Scope}{cl:List (Str×UB)}{C:UB}{s₀:Uz}{H₀:Hp}{ex:List UB}(hN:N'[i]?=some x:=by rfl)
  (h:scope.names.lookup x=some .local∨scope.names.lookup x=some .free:=by first|exact .inl rfl|exact .inr rfl) (hd:(x==("__debug__" : Str))=false:=by decide) (hcd:(x==("__classdict__" : Str))=false:=by decide) :
  PE (X.blk N' scope cl C s₀ H₀ ex) (.Name x pos) (ZT i):=LI hN (Bc h) hd hcd
def XB:D->Option Int->Option Int->Option D
 |.list xs,lo,hi=>some (.list (DL.cutD xs lo hi))
 |.str z,lo,hi=>if (WD z lo hi).length<=1000000 then some (.str (WD z lo hi)) else none
 |_,_,_=>none
def Yz(f:M D)(lo hi:M (Option Int)):M D:=Kr f λx=>Kr lo λl=>Kr hi λh=>Ks (XB x l h)
theorem VZ{lo hi:Option UD}{f:M D}{l h:M (Option Int)}(he:PE X e (tD X.K B G0 f))(hl:PO X lo (tOi X.K B G0 l))(hu:PO X hi (tOi X.K B G0 h)) :
  PE X (.Subscript e (.Slice lo hi none p2) pos) (tD X.K B G0 (Yz f l h)) :=
 KW (AL (CK.or E7) he hl hu) λσ H Q q=>by
  refine tM.one (R:=Rep X.K) q λv H2 G Z x k r a=>?_;refine tM.nx (R:=λ_ b c=>b=c) k a λl' H3 G3 Z3 xl k3 s3 r3 a3=>?_;refine tM.nx (R:=λ_ b c=>b=c) k3 a3 λh' H4 G4 Z4 xh k4 s4 r4 a4=>?_;have r3:l'=xl:=r3;have r4:h'=xh:=r4;subst r3 r4;unfold Ks XB at a4
  cases x with
  |list xs=>
   obtain ⟨ad,vs,rfl,h1,r1⟩:=((r.mono s3).mono s4).lst_inv;exact .inl ⟨ad,vs,rfl,k4.gh.seq h1,λp hp=>aft.done a4 k4 (Ext.new k4.gh hp) (.lst (SqL.of Yx) ((r1.cut l' h').mono (Yw (k4.gh.free hp))))⟩
  |str z=>
   dsimp only at a4
   have:=r.str_inv;subst this
   by_cases hc:(WD z l' h').length<=1000000
   ·rw[Ql hc] at a4
    exact .inr ⟨z,rfl,QT hc lim,aft.now a4 k4 (.str _)⟩
   ·rw[Qs hc] at a4;exact a4.elim
  |_=>exact a4.elim
end
section
variable{X:Cx}{B G0:Hp}{e o a b c tg:UD}{pos p2:Pos}{es rest:List UD}{te to ti:TE}
def Zz{β:Type}(p:D->D->Option β)(i:Nat)(g:M D):M β:=λZ=>match Z[i]? with
 |some (some (.pub d))=>(Kr g λy=>Ks (p d y)) Z
 |some (some (.own _))=>(Kr g λy=>λZ'=>match Z'[i]? with|some (some (.own ds))=>Ks (p (.list ds) y) Z'|_=>.bad) Z
 |_=>.bad
theorem Lg{K:Frag}{σ:St}{H:Hp}{p:D->D->Option Bool}{r:R2}{i:Nat}{g:M D}{Q:Bool->Hp->Prop}{QV:VK}(hq:∀t H3,Q t H3->QV (.bl t) H3)(hr:∀v u G H x y d Q,Same G H->Rep K G v x->Rep K G u y->p x y=some d->Q (.bl d) H->r v u H Q)
  (q:tBo K B G0 (Zz p i g) σ H Q):ZT i σ H λx H1=>tD K B G0 g σ H1 λy H2=>r x y H2 QV:=by
 obtain ⟨G,Z,k,a⟩:=q;unfold Zz at a
 cases q:Z[i]? with
 |none=>rw[q] at a;exact a.elim
 |some o=>
  cases o with
  |none=>rw[q] at a;exact a.elim
  |some sl=>
   cases sl with
   |deep _ _=>rw[q] at a;exact a.elim
   |pub d=>
    rw[q] at a;obtain ⟨v,h1,h2⟩:=k.pub i d q;refine ⟨v,h1,G,Z,k,?_⟩;dsimp only[Kr] at a
    cases z:g Z with
    |bad=>rw[z] at a;exact a.elim
    |ok y Z1=>
     rw[z] at a;intro u G' H' k' s' r';obtain ⟨d',e',a'⟩:=aft.opt a;exact hr v u G' H' d y d' _ k'.gh (h2.mono s') r' e' (hq _ _ (a' d' G' H' k' s' rfl))
   |own ds=>
    rw[q] at a;obtain ⟨ad,vs,h1,h2,h3,h4,h5⟩:=k.own i ds q;refine ⟨.ref ad,h1,G,Z,k,?_⟩;dsimp only[Kr] at a
    cases z:g Z with
    |bad=>rw[z] at a;exact a.elim
    |ok y Z1=>
     rw[z] at a;dsimp only at a;intro u G' H' k' s' r'
     cases q1:Z1[i]? with
     |none=>rw[q1] at a;exact a.elim
     |some oo=>
      cases oo with
      |none=>rw[q1] at a;exact a.elim
      |some sl1=>
       cases sl1 with
       |deep _ _=>rw[q1] at a;exact a.elim
       |pub d1=>rw[q1] at a;exact a.elim
       |own ds1=>
        rw[q1] at a;dsimp only at a;obtain ⟨ad',ws,g1,g2,g3,g4,g5⟩:=k'.own i ds1 q1;rw[h1] at g1;cases g1;obtain ⟨d',e',a'⟩:=aft.opt a;have sg:Same G' (upd G' ad (.lst ws)):=Yw g3
        have sh:Same (upd G' ad (.lst ws)) H':=λb o q=>by
         by_cases z:b=ad
         ·subst z;rw[Yx] at q;cases q;exact g4
         ·rw[ZA z] at q;exact k'.gh b o q
        exact hr (.ref ad) u _ H' (.list ds1) y d' _ sh (.lst (SqL.of Yx) (g5.mono sg)) (r'.mono sg) e' (hq _ _ (a' d' G' H' k' s' rfl))
theorem YN{op:CmpOp}{p:D->D->Option Bool}{i:Nat}{g:M D}(o:OpB X (UH op) p)(ha:PE X a (ZT i))(hb:PE X b (tD X.K B G0 g))(hm:behindInMarks op b=false) :
  PT X (.Compare a [op] [b] pos) (tBo X.K B G0 (Zz p i g)):=by
 obtain ⟨r,h,j⟩:=o;exact Xg (Mj h ha hb hm) λσ H Q q=>Lg (λt H3 z=>⟨t,rfl,z⟩) j q
theorem Px{op:CmpOp}{p:D->D->Option Bool}{i:Nat}{g:M D}(o:OpB X (UH op) p)(ha:PE X a (ZT i))(hb:PE X b (tD X.K B G0 g))(hm:behindInMarks op b=false) :
  PE X (.Compare a [op] [b] pos) (tD X.K B G0 (Ka UL (Zz p i g))):=by
 obtain ⟨r,h,j⟩:=o;exact KW (Mk h ha hb hm) λσ H Q q=>Lg (λt H3 z=>z) j (tBo.val q)
end
end DL
namespace L2
open PySem PySem.Spec PyProof.Rows
def Itz(K:Frag)(a b:UB):It :=
 ⟨λi H=>∃xs x ys y,SqL K H a xs/\xs[i]?=some x/\SqL K H b ys/\ys[i]?=some y,
  λi H v H'=>∃p x y,H p=none/\v=.ref p/\(∀xs,SqL K H a xs->xs[i]?=some x)/\(∀ys,SqL K H b ys->ys[i]?=some y)/\H'=upd H p (.tup [x,y]),
  λi H=>∃xs ys,SqL K H a xs/\SqL K H b ys/\(xs.length<=i∨ys.length<=i)⟩
theorem A1{P:UA}{w:World}{K:Frag}{elts:List UD}{x1}{tp:Pos}(a b z TI TO i1 i2:UB)(Dz:ZipApart z TI TO i1 i2 a b) :
  Turn P w K (.Tuple elts x1 tp) (Itz K a b) [z,TI,TO,i1,i2] z (λi h=>IsZip h z TI TO .none/\IsPair h TI (.ref i1) (.ref i2)/\(∃c d,IsPair h TO c d)/\h.IsListIter i1 a i/\h.IsListIter i2 b i) where
 mem:=by simp
 obj:=λi h st c hc=>by
  obtain ⟨h1,h2,⟨c0,d0,h3⟩,⟨o4,h4,_,d4⟩,⟨o5,h5,_,d5⟩⟩:=st;have hc':c=z∨c=TI∨c=TO∨c=i1∨c=i2:=by simpa using hc
  rcases hc' with rfl|rfl|rfl|rfl|rfl
  ·exact ⟨_,h1,λv q=>by have q':Data.fields _=Data.cell v:=q;cases q'⟩
  ·exact ⟨_,h2,λv q=>by have q':Data.seq _ _=Data.cell v:=q;cases q'⟩
  ·exact ⟨_,h3,λv q=>by have q':Data.seq _ _=Data.cell v:=q;cases q'⟩
  ·exact ⟨o4,h4,λv q=>by rw[d4] at q;cases q⟩
  ·exact ⟨o5,h5,λv q=>by rw[d5] at q;cases q⟩
 keep:=λi h h' st k=>by
  obtain ⟨h1,h2,⟨c0,d0,h3⟩,h4,h5⟩:=st;exact ⟨k z (by simp) _ h1,k TI (by simp) _ h2,⟨c0,d0,k TO (by simp) _ h3⟩,h4.at λo q=>k i1 (by simp) o q,h5.at λo q=>k i2 (by simp) o q⟩
 item:=by
  intro X hP hw hK hc i pins s σ H E I hf st hg;subst hP hw hK;obtain ⟨h1,h2,⟨c0,d0,h3⟩,h4,h5⟩:=st;obtain ⟨xs,x,ys,y,hq,hx,hq',hy⟩:=hg;obtain ⟨its,rv,p,hz⟩:=I.list hq;obtain ⟨its',rv',p',hz'⟩:=I.list hq';obtain ⟨u,hu,ru⟩:=rv.get hx;obtain ⟨u',hu',ru'⟩:=rv'.get hy;refine wpAny_pyNext_zip_item Dz h1 h2 h3 h4 h5 p.isList p'.isList (x:=u) (y:=u') (by simpa using hu) (by simpa using hu') λh' g1 g3 g4 g5 gp gs gk=>?_
  refine ⟨_,rfl,wpAny_letOwnedTupleGo_zip g1 λh2' gz sb=>?_⟩;have hzl:z<s.heap.objs.size:=Qi h1;have sb':Heap.SameBut z h' h2':=sb
  have gp2:h2'.get? s.heap.objs.size=some { cls:=.type "tuple", data:=.seq #[u,u'] }:=(sb'.2 _ (JW hzl)).trans gp
  have kk:∀c o,c∉[z,TI,TO,i1,i2]->s.heap.get? c=some o->h2'.get? c=some o:=λc o hc q=>by
   have n1:c≠z:=λe=>hc (by simp[e])
   have n3:c≠TO:=λe=>hc (by simp[e])
   have n4:c≠i1:=λe=>hc (by simp[e])
   have n5:c≠i2:=λe=>hc (by simp[e])
   exact (sb'.2 c n1).trans (gk c o n1 n3 n4 n5 q)
  have hn:H s.heap.objs.size=none:=I.hok.fresh (Qy _)
  have I2:Inv X pins σ (upd H s.heap.objs.size (.tup [x,y])) { s with heap:=h2' } :=
   I.turnedNew (t':=s.toks) (fp:=[z,TI,TO,i1,i2]) hf kk (Qy _) ⟨by show 2<=UE;decide,[u,u'],.cons ru (.cons ru' .nil),⟨_,gp2,rfl,_,rfl⟩⟩
  have gTI:IsPair h' TI (.ref i1) (.ref i2):=gk TI _ Dz.TIz Dz.TITO Dz.TIi1 Dz.TIi2 h2
  refine ⟨.ref s.heap.objs.size,_,I2,rfl,⟨_,x,y,hn,rfl,λws hw=>by rw[I.list_inj hw hq];exact hx,λws hw=>by rw[I.list_inj hw hq'];exact hy,rfl⟩,
   ⟨gz,(sb'.2 _ Dz.TIz).trans gTI,⟨u,u',(sb'.2 _ Dz.TOz).trans g3⟩,g4.at λo q=>(sb'.2 _ Dz.i1z).trans q,g5.at λo q=>(sb'.2 _ Dz.i2z).trans q⟩,λc hc=>?_⟩
  have hlt:c<s.heap.objs.size:=by
   have hc':c=z∨c=TI∨c=TO∨c=i1∨c=i2:=by simpa using hc
   rcases hc' with rfl|rfl|rfl|rfl|rfl
   ·exact hzl
   ·exact Qi h2
   ·exact Qi h3
   ·obtain ⟨o,ho,_⟩:=h4;exact Qi ho
   ·obtain ⟨o,ho,_⟩:=h5;exact Qi ho
  rw[ZA (QR hlt)];exact (hf c hc).1
 done:=by
  intro X hP hw hK hc i pins s σ H E I hf st hg;subst hP hw hK;obtain ⟨h1,h2,⟨c0,d0,h3⟩,h4,h5⟩:=st;obtain ⟨xs,ys,hq,hq',hx⟩:=hg;obtain ⟨its,rv,p,hz⟩:=I.list hq;obtain ⟨its',rv',p',hz'⟩:=I.list hq';have hl:=rv.length;have hl':=rv'.length;refine wpAny_pyNext_zip_end (I.ok.hd hc) Dz h1 h2 h3 h4 h5 p.isList p'.isList ?_ λh' eb=>⟨rfl,I.turnedL (t':=s.toks) hf λc o hb q=>eb c o (λe=>hb (by simp[e])) (λe=>hb (by simp[e])) (λe=>hb (by simp[e])) (λe=>hb (by simp[e])) q⟩
  rcases hx with hx|hx
  ·exact .inl (by simp;omega)
  ·exact .inr (by simp;omega)
 self:=λ_ _ _ _ _ st h=>wpAny_pyIter_zip st.1 h
section
variable{X:Cx}
def iZip(K:Frag)(ta:TA):TI:=λσ H R=>ta σ H λvs H1=>∃a b xs ys,vs=[.ref a,.ref b]/\SqL K H1 a xs/\SqL K H1 b ys/\R (Itz K a b) H1
theorem E6{a b:UD}{ta:TA}{p pos:Pos}{elts:List UD}{x1}{tp:Pos}(hg:Gl X "zip")(hm:X.mg "zip" = none)(ha:PA X [a,b] ta)
  (hs:UG [a,b] X.env=[(false,eval a X.env),(false,eval b X.env)]:=by rfl) (hs2:UG [b] X.env=[(false,eval b X.env)]:=by rfl):PI X (.Tuple elts x1 tp) (.Call (.Name "zip" p) [a,b] [] pos) (iZip X.K ta):=by
 intro pins s σ H R I h;refine Call_ (T3 I hg hm boot_zip (JC (thn (ha pos pins s σ H _ I h) λus s1 ⟨vs,H1,I1,r1,q1⟩=>?_) (by rw[hs,hs2]) (by rw[hs2];rfl)))
 obtain ⟨l1,l2,xs,ys,e,hq,hq',q⟩:=q1;subst e
 cases r1 with
 |cons r rr=>
  cases rr with
  |cons r' rr=>
   cases rr
   cases (show _=Value.ref l1 from r)
   cases (show _=Value.ref l2 from r')
   obtain ⟨its,rv,pl,hz⟩:=I1.list hq;obtain ⟨its',rv',pl',hz'⟩:=I1.list hq';have n1:l1<s1.heap.objs.size:=by obtain ⟨_,e,_⟩:=id pl.isList;exact Qi e
   have n2:l2<s1.heap.objs.size:=by obtain ⟨_,e,_⟩:=id pl'.isList;exact Qi e
   have ne:∀i j:Nat,i≠j->s1.heap.objs.size+i≠s1.heap.objs.size+j:=λi j h e=>h (Nat.add_left_cancel e);have m1:∀m:Nat,l1≠s1.heap.objs.size+m:=λm=>QR (QI n1 (Nat.le_add_right _ _));have m2:∀m:Nat,l2≠s1.heap.objs.size+m:=λm=>QR (QI n2 (Nat.le_add_right _ _));refine call_zip_2 pl.isList pl'.isList λh' g1 g2 g3 g4 g5 gs kk=>?_;have I2:Inv X pins σ H1 { s1 with heap:=h' }:=I1.kept (t':=s1.toks) kk;refine wpAny_pyIter_zip g1 ?_
   refine ⟨s1.heap.objs.size+4,[s1.heap.objs.size+4,s1.heap.objs.size+2,s1.heap.objs.size+3,s1.heap.objs.size,s1.heap.objs.size+1],_,_,H1,rfl,I2,
    A1 l1 l2 (s1.heap.objs.size+4) (s1.heap.objs.size+2) (s1.heap.objs.size+3) s1.heap.objs.size (s1.heap.objs.size+1) ⟨ne 2 4 (by decide),ne 3 4 (by decide),ne 0 4 (by decide),ne 1 4 (by decide),ne 2 3 (by decide),ne 2 0 (by decide),ne 2 1 (by decide),ne 3 0 (by decide),ne 3 1 (by decide),ne 0 1 (by decide),m1 4,m1 3,m1 0,m1 1,m2 4,m2 3,m2 0,m2 1⟩,⟨g1,g2,⟨_,_,g3⟩,g4,g5⟩,λc hc=>?_,q⟩
   have hc':s1.heap.objs.size<=c:=by
    have hc':c=s1.heap.objs.size+4∨c=s1.heap.objs.size+2∨c=s1.heap.objs.size+3∨c=s1.heap.objs.size∨c=s1.heap.objs.size+1:=by simpa using hc
    rcases hc' with rfl|rfl|rfl|rfl|rfl <;> first|exact Nat.le_add_right _ _|exact Qy _
   exact I1.fpOk hc' (I1.hok.fresh hc')
end
end L2
namespace DL
open PySem PySem.Spec L2
open PyProof.Rows hiding St
section
variable{X:Cx}{B G0:Hp}{e a b c tg:UD}{pos:Pos}{es rest:List UD}
def ZV(xs ys:List D):List D:=(xs.zip ys).map λp=>.tuple [p.1,p.2]
theorem qV{K:Frag}{G1:Hp}{a b:UB}{vs ws:List V}{ds es:List D}(h:SqL K G1 a vs)(h':SqL K G1 b ws)(r:Reps K G1 vs ds)(r':Reps K G1 ws es):WT K (Itz K a b) (ZV ds es) G1 where
 go:=λi G H s1 s2 hi=>by
  unfold ZV at hi;rw[Qb,Jy] at hi;have hi1:i<vs.length:=by rw[r.length];omega
  have hi2:i<ws.length:=by rw[r'.length];omega
  exact ⟨vs,vs[i],ws,ws[i],(s1.trans s2).seq h,Qe hi1,(s1.trans s2).seq h',Qe hi2⟩
 stop:=λi G H s1 s2 hi=>by
  unfold ZV at hi;rw[Qb,Jy] at hi;refine ⟨vs,ws,(s1.trans s2).seq h,(s1.trans s2).seq h',?_⟩;rw[r.length,r'.length];omega
 yld:=λi G H x H' d s1 s2 e y=>by
  obtain ⟨p,u,v,hp,rfl,y1,y2,rfl⟩:=y;have z1:=y1 vs ((s1.trans s2).seq h);have z2:=y2 ws ((s1.trans s2).seq h');unfold ZV at e;rw[Qd] at e
  cases q:(ds.zip es)[i]? with
  |none=>rw[q] at e;cases e
  |some pr=>
   rw[q] at e;cases e;rw[JT] at q;obtain ⟨u',e1,r1⟩:=r.get q.1;obtain ⟨v',e2,r2⟩:=r'.get q.2;rw[z1] at e1;rw[z2] at e2;cases e1;cases e2;exact ⟨upd G p (.tup [u,v]),Ext.new s2 hp,.tup (SqT.of Yx) (.cons ((r1.mono s1).mono (Yw (s2.free hp))) (.cons ((r2.mono s1).mono (Yw (s2.free hp))) .nil))⟩
def Vg:List D->Option (List D)
 |[.list xs,.list ys]=>some (ZV xs ys)
 |_=>none
theorem A0{x l:List D}(h:Vg x=some l):∃xs ys,x=[.list xs,.list ys]/\l=ZV xs ys:=by
 unfold Vg at h
 split at h
 ·cases h;exact ⟨_,_,rfl,rfl⟩
 ·cases h
def Xj(f:M (List D)):M (List D):=Kr f λx=>Ks (Vg x)
theorem Oa{f:M (List D)}{p2:Pos}{elts:List UD}{x1}{tp:Pos}(hg:Gl X "zip")(hm:X.mg "zip" = none)(ha:PA X [a,b] (tDs X.K B G0 f))(hs:UG [a,b] X.env=[(false,eval a X.env),(false,eval b X.env)]:=by rfl)(hs2:UG [b] X.env=[(false,eval b X.env)]:=by rfl) :
  PI X (.Tuple elts x1 tp) (.Call (.Name "zip" p2) [a,b] [] pos) (iD X.K B G0 (Xj f)):=Ww (E6 hg hm ha hs hs2) λσ H R q=>tM.toI (R0:=Reps X.K) q λv H' G' Z' x k r a=>by
 cases z:Vg x with
 |none=>rw[z] at a;exact a.elim
 |some l=>
  rw[z] at a;obtain ⟨xs,ys,rfl,rfl⟩:=A0 z
  cases r with
  |cons r1 rr=>
   cases rr with
   |cons r2 rr=>
    cases rr;obtain ⟨l1,vs,rfl,h1,q1⟩:=r1.lst_inv
    obtain ⟨l2,ws,rfl,h2,q2⟩:=r2.lst_inv;exact ⟨l1,l2,vs,ws,rfl,k.gh.seq h1,k.gh.seq h2,a _ G' H' k (.refl _) (qV h1 h2 q1 q2)⟩
end
section
variable{X:Cx}{B G0:Hp}{e o a b c tg:UD}{pos p2 p3:Pos}{es rest:List UD}{te to ti:TE}
def oIn:D->D->Option Bool
 |.str i,.str j=>some (inS i j)
 |x,.list xs=>if x.canLay0=true/\UO xs=true/\x.depth<=60 then some (xs.any λy=>UQ y x) else none
 |x,.tuple xs=>if x.canLay0=true/\UO xs=true/\x.depth<=60 then some (xs.any λy=>UQ y x) else none
 |_,_=>none
def X1(x y:D):Option Bool:=(oIn x y).map λt=>!t
def Wx(x y:D):Option Bool:=match y with
 |.list xs=>if x.canLay0=true/\UO xs=true/\x.depth<=60 then some (xs.any λy=>UQ y x) else none
 |.tuple xs=>if x.canLay0=true/\UO xs=true/\x.depth<=60 then some (xs.any λy=>UQ y x) else none
 |_=>none
theorem EI(hu:X.A.units+64<cLine):OpB X (UH .In) Wx:=by
 refine ⟨λv u H Q=>∃G x y d,Same G H/\Rep X.K G v x/\Rep X.K G u y/\Wx x y=some d/\Q (.bl d) H,?_,λv u G H x y d Q s rx ry e k=>⟨G,x,y,d,s,rx,ry,e,k⟩⟩;intro pins s σ H x y v u Q I rx ry ⟨G,dx,dy,d,sg,px,py,e,q⟩;unfold Wx at e
 split at e
 ·split at e
  ·rename_i c
   cases e;obtain ⟨as,ra⟩:=XZ I sg px rx c.1
   obtain ⟨bs,rb⟩:=XZ I sg py ry (show UO _=true from c.2.1)
   exact SeqAt.in_list_reads rb ra c.2.1 c.1 (by have:=c.2.2;omega) ⟨.bl _,H,I,rfl,q⟩
  ·cases e
 ·split at e
  ·rename_i c
   cases e;obtain ⟨as,ra⟩:=XZ I sg px rx c.1
   obtain ⟨bs,rb⟩:=XZ I sg py ry (show UO _=true from c.2.1)
   exact SeqAt.in_tuple_reads rb ra c.2.1 c.1 (by have:=c.2.2;omega) ⟨.bl _,H,I,rfl,q⟩
  ·cases e
 ·cases e
theorem E5(hu:X.A.units+64<cLine):OpB X (UH .NotIn) (λx y=>(Wx x y).map λt=>!t):=by
 refine ⟨λv u H Q=>∃G x y d,Same G H/\Rep X.K G v x/\Rep X.K G u y/\(Wx x y).map (λt=>!t)=some d/\Q (.bl d) H,?_,λv u G H x y d Q s rx ry e k=>⟨G,x,y,d,s,rx,ry,e,k⟩⟩;intro pins s σ H x y v u Q I rx ry ⟨G,dx,dy,d,sg,px,py,e,q⟩;unfold Wx at e
 split at e
 ·split at e
  ·rename_i c
   cases e;obtain ⟨as,ra⟩:=XZ I sg px rx c.1
   obtain ⟨bs,rb⟩:=XZ I sg py ry (show UO _=true from c.2.1)
   exact SeqAt.notIn_list_reads rb ra c.2.1 c.1 (by have:=c.2.2;omega) ⟨.bl _,H,I,rfl,q⟩
  ·cases e
 ·split at e
  ·rename_i c
   cases e;obtain ⟨as,ra⟩:=XZ I sg px rx c.1
   obtain ⟨bs,rb⟩:=XZ I sg py ry (show UO _=true from c.2.1)
   exact SeqAt.notIn_tuple_reads rb ra c.2.1 c.1 (by have:=c.2.2;omega) ⟨.bl _,H,I,rfl,q⟩
  ·cases e
 ·cases e
theorem TN(hu:X.A.units+64<cLine):OpB X (UH .In) oIn:=(EJ.or (EI hu)).congr λx y=>by
 cases x <;> cases y <;> rfl
theorem Lf(hu:X.A.units+64<cLine):OpB X (UH .NotIn) X1:=(E9.or (E5 hu)).congr λx y=>by
 cases x <;> cases y <;> rfl
theorem qU{tl th ts:TO}{lo hi:Option UD}{st:UD}(he:PE X e te)(hl:PO X lo tl)(hu:PO X hi th)(hst:PO X (some st) ts):PE X (.Subscript e (.Slice lo hi (some st) p2) pos)
  (λσ H Q=>te σ H λx H1=>tl σ H1 λl H2=>th σ H2 λu H3=>ts σ H3 λt H4=>∃a xs,x=.ref a/\SqL X.K H4 a xs/\l=none/\u=none/\t=some (-1)/\∀p,H4 p=none->Q (.ref p) (upd H4 p (.lst xs.reverse))):=by
 intro pins s σ H Q I h;refine Subscript_ (thn (he pins s σ H _ I h) λv s1 ⟨x,H1,I1,r1,q1⟩=>?_);refine wpAny_Slice (thn (hl pins s1 σ H1 _ I1 q1) λvl s2 ⟨l,H2,I2,pl,q2⟩=>thn (hu pins s2 σ H2 _ I2 q2) λvu s3 ⟨u,H3,I3,pu,q3⟩=>thn (hst pins s3 σ H3 _ I3 q3) λvt s4 ⟨t,H4,I4,pt,q4⟩=>?_);obtain ⟨a,xs,rfl,hx,rfl,rfl,rfl,q⟩:=q4;cases r1
 have I5:Inv X pins σ H4 { s4 with heap:=s4.heap.push { cls:=.type "slice", data:=.fields #[vl,vu,vt] } }:=I4.kept (t':=s4.toks) λb ob q=>Qm _ q
 obtain ⟨its,r,ht,hz⟩:=I5.list hx;have hlen:=r.length
 have hg:UF (model X.prog X.w) X.A (getItem (.ref a) (.ref s4.heap.objs.size)) (EP X pins σ Q) X.xe { s4 with heap:=s4.heap.push { cls:=.type "slice", data:=.fields #[vl,vu,vt] } }:=by
  refine wpAny_getItem_list_slice ht.isList (Heap.IsSliceOf.new ..) pl pu pt (by simp) ?_ (by rw[List.size_toArray] <;> omega)
  rw[PySem.W.krv_pick];refine ⟨.ref _,_,I5.laid (t':=s4.toks) (o:=.lst xs.reverse) (λb ob q=>Qm _ q) (Qy _) ?_,rfl,q _ (I5.hok.fresh (Qy _))⟩;exact ⟨by rw[Jc];exact hz,its.reverse,0,r.reverse,QH _ rfl⟩
 show UF (model X.prog X.w) X.A (subscriptTail e (.Slice lo hi (some st) p2) (.ref a) (.ref s4.heap.objs.size)) (EP X pins σ Q) X.xe { s4 with heap:=s4.heap.push { cls:=.type "slice", data:=.fields #[vl,vu,vt] } }
 exact tail_any (ops:=[.ref a,.ref s4.heap.objs.size]) ht.isList.typeIs slot_list_getitem.lookup hg (by with_unfolding_all rfl)
def V1:D->Option Int->Option Int->Option Int->Option D
 |.list xs,none,none,some i=>if i = -1 then some (.list xs.reverse) else none
 |_,_,_,_=>none
def WB(f:M D)(lo hi st:M (Option Int)):M D:=Kr f λx=>Kr lo λl=>Kr hi λh=>Kr st λt=>Ks (V1 x l h t)
theorem Md{lo hi:Option UD}{st:UD}{f:M D}{l h t:M (Option Int)}(he:PE X e (tD X.K B G0 f))(hl:PO X lo (tOi X.K B G0 l))(hu:PO X hi (tOi X.K B G0 h))(hst:PO X (some st) (tOi X.K B G0 t)) :
  PE X (.Subscript e (.Slice lo hi (some st) p2) pos) (tD X.K B G0 (WB f l h t)) :=
 KW (qU he hl hu hst) λσ H Q q=>by
  refine tM.one (R:=Rep X.K) q λv H2 G Z x k r a=>?_;refine tM.nx (R:=λ_ b c=>b=c) k a λl' H3 G3 Z3 xl k3 s3 r3 a3=>?_;refine tM.nx (R:=λ_ b c=>b=c) k3 a3 λh' H4 G4 Z4 xh k4 s4 r4 a4=>?_;refine tM.nx (R:=λ_ b c=>b=c) k4 a4 λt' H5 G5 Z5 xt k5 s5 r5 a5=>?_;have r3:l'=xl:=r3;have r4:h'=xh:=r4;have r5:t'=xt:=r5;subst r3 r4 r5
  cases x with
  |list xs=>
   cases l' with
   |some _=>exact a5.elim
   |none=>
   cases h' with
   |some _=>exact a5.elim
   |none=>
   cases t' with
   |none=>exact a5.elim
   |some i=>
   obtain ⟨ad,vs,rfl,h1,r1⟩:=(((r.mono s3).mono s4).mono s5).lst_inv
   by_cases hi:i = -1
   ·subst hi
    exact ⟨ad,vs,rfl,k5.gh.seq h1,rfl,rfl,rfl,λp hp=>aft.done a5 k5 (Ext.new k5.gh hp) (.lst (SqL.of Yx) (r1.reverse.mono (Yw (k5.gh.free hp))))⟩
   ·unfold Ks V1 at a5
    dsimp only at a5;rw[Qs hi] at a5;exact a5.elim
  |_=>
   unfold Ks V1 at a5;exact a5.elim
def Wa:List D->Option (List D)
 |[.list xs]=>some xs
 |[.tuple xs]=>some xs
 |_=>none
theorem FC{x l:List D}(h:Wa x=some l):x=[.list l]∨x=[.tuple l]:=by
 unfold Wa at h
 split at h
 ·cases h;exact .inl rfl
 ·cases h;exact .inr rfl
 ·cases h
theorem FX:bootBuiltins "list" = some (.type "list"):=by decide +kernel
theorem AZ{f:M (List D)}(hg:Gl X "list")(hm:X.mg "list" = none)(ha:PA X [a] (tDs X.K B G0 f))(he:UG [a] X.env=(false,eval a X.env)::UG [] X.env:=by rfl) :
  PE X (.Call (.Name "list" p2) [a] [] pos) (tL X.K B G0 (Kr f λxs=>Ks (Wa xs))) :=
 KW (NC Eu hg hm FX ha (by decide) (by decide) he rfl) λσ H Q ⟨G,Z,k,q⟩=>by
  refine ⟨G,Z,k,?_⟩;unfold Kr at q
  cases z:f Z with
  |bad=>rw[z] at q;exact q.elim
  |ok xs Z1=>
   rw[z] at q;dsimp only[Ks] at q;intro vs G' H' k' s' r
   cases z2:Wa xs with
   |none=>rw[z2] at q;exact q.elim
   |some l=>
    rw[z2] at q;rcases FC z2 with rfl|rfl
    ·obtain ⟨v,rfl,q1⟩:=r.one_inv
     obtain ⟨p,ws,rfl,h1,r1⟩:=q1.lst_inv;exact ⟨p,ws,rfl,.inl (k'.gh.seq h1),λad hp=>q ad ws G' _ (k'.ext (Ext.hid k'.gh hp)) s' (NewL.of k' hp r1)⟩
    ·obtain ⟨v,rfl,q1⟩:=r.one_inv
     obtain ⟨p,ws,rfl,h1,r1⟩:=q1.tup_inv;exact ⟨p,ws,rfl,.inr (We k'.gh h1),λad hp=>q ad ws G' _ (k'.ext (Ext.hid k'.gh hp)) s' (NewL.of k' hp r1)⟩
def Wi(i:Nat):M (List D):=λZ=>match Z[i]? with
 |some (some (.pub d))=>Ks (Wa [d]) Z
 |some (some (.own ds))=>.ok ds Z
 |_=>.bad
theorem SN{i:Nat}(hg:Gl X "list")(hm:X.mg "list" = none)(ho:PE X a (ZT i))(he:UG [a] X.env=(false,eval a X.env)::UG [] X.env:=by rfl) :
  PE X (.Call (.Name "list" p2) [a] [] pos) (tL X.K B G0 (Wi i)) :=
 KW (NC Eu hg hm FX (VQ ho Sv he) (by decide) (by decide) he rfl) λσ H Q ⟨G,Z,k,q⟩=>by
  unfold Wi at q
  cases z:Z[i]? with
  |none=>rw[z] at q;exact q.elim
  |some oo=>
   cases oo with
   |none=>rw[z] at q;exact q.elim
   |some sl=>
    cases sl with
    |deep _ _=>rw[z] at q;exact q.elim
    |own ds=>
     rw[z] at q;dsimp only at q;obtain ⟨ad,vs,h1,h2,h3,h4,h5⟩:=k.own i ds z;exact ⟨.ref ad,h1,ad,vs,rfl,.inl (SqL.of h4),λl hp=>q l vs G _ (k.ext (Ext.hid k.gh hp)) (.refl _) (NewL.of k hp h5)⟩
    |pub d=>
     rw[z] at q;dsimp only[Ks] at q;obtain ⟨v,h1,h2⟩:=k.pub i d z
     cases z2:Wa [d] with
     |none=>rw[z2] at q;exact q.elim
     |some l=>
      rw[z2] at q;dsimp only at q;rcases FC z2 with e|e
      ·cases e
       obtain ⟨p,ws,rfl,g1,r1⟩:=h2.lst_inv;exact ⟨_,h1,p,ws,rfl,.inl (k.gh.seq g1),λad hp=>q ad ws G _ (k.ext (Ext.hid k.gh hp)) (.refl _) (NewL.of k hp r1)⟩
      ·cases e
       obtain ⟨p,ws,rfl,g1,r1⟩:=h2.tup_inv;exact ⟨_,h1,p,ws,rfl,.inr (We k.gh g1),λad hp=>q ad ws G _ (k.ext (Ext.hid k.gh hp)) (.refl _) (NewL.of k hp r1)⟩
def PX:List D->Option D
 |[.int i]=>some (.int i)
 |[.bool b]=>some (.int (if b then 1 else 0))
 |_=>none
theorem E4:XT X (.type "int") PX:=by
 refine ⟨_,qD,λvs G H ds d Q s r e k=>?_⟩;unfold PX at e
 split at e
 ·cases e
  obtain ⟨v,rfl,q⟩:=r.one_inv;rw[q.int_inv];exact .inl ⟨_,rfl,k _ G H (.refl s) (.int _)⟩
 ·cases e
  obtain ⟨v,rfl,q⟩:=r.one_inv;rw[q.bl_inv];exact .inr ⟨_,rfl,k _ G H (.refl s) (.int _)⟩
 ·cases e
theorem EH{x:Str}{zs:List Str}(hg:Gl X x)(hm:∃ad o its n,X.mg x=some (.ref ad)/\X.K.lookup ad=some o/\o.cls=.type "tuple" /\ o.data=.seq its n/\its.size<=UE/\Vals (zs.map V.str) its.toList)(hd:(x==("__debug__" : Str))=false:=by decide) :
  PE X (.Name x pos) (tD X.K B G0 (U1 (.tuple (zs.map UM)))):=by
 obtain ⟨ad,o,its,n,hm,h1,h2,h3,h4,h5⟩:=hm;refine KW (HK (v:=.ref ad) hg hm rfl hd) λσ H Q ⟨G,Z,k,a⟩=>aft.now a k (.tup (.inr ⟨o,its,n,h1,h2,h3,h4,h5⟩) ?_)
 have:∀zs:List Str,Reps X.K G (zs.map V.str) (zs.map UM):=λzs=>by
  induction zs with
  |nil=>exact .nil
  |cons z r ih=>exact .cons (.str _) ih
 exact this zs
end
section
variable{X:Cx}{B G0:Hp}{e o a b c tg:UD}{pos p2 p3 p4:Pos}{es rest:List UD}{te to ti:TE}
theorem Sg:∀{ns:List Int}{us:List Uy},Vals (ns.map V.int) us->PyProof.Rows.IntsAre us ns
 |[],_,.nil=>.nil
 |n::ns,_,.cons h t=>by
  obtain ⟨tk,rfl⟩:=h;exact .cons n tk (Sg t)
def Sy(ns:List Int):Nat:=(PyProof.Rows.firstMet (λi=>ns.getD i 0) ns.length).length
theorem qT(hc:X.calm=true):XJ X (.type "set") (λxs H Q=>∃l,∃ns:List Int,xs=[.ref l]/\SqL X.K H l (ns.map V.int)/\ns.length+1<4096/\∀S p,H p=none->Q (.ref p) (upd H p (.set S (Sy ns)))):=by
 intro pins s σ H xs us Q I rx h;obtain ⟨l,ns,rfl,hq,hb,q⟩:=h;obtain ⟨u,rfl,ru⟩:=rx.one;cases ru;obtain ⟨its,rv,p,hz⟩:=I.list hq;have hi:=Sg rv;have hn:its.toArray.size=ns.length:=by have:=rv.length;rw[List.length_map] at this;simp;omega
 refine call_set_list (I.ok.hd hc) p.isList (ns:=ns) (by simpa using hi) (by rw[hn];exact hb) λh' tk hS hk=>?_
 rw[hn] at hS;refine ⟨.ref s.heap.objs.size,_,I.laid (t':=tk) (λb o e=>hk b o (Qi e) e) (Qy _) (show Y4 X.prog X.w _ h' _ (.set _ (Sy ns)) from hS),rfl,q _ _ (I.hok.fresh (Qy _))⟩
theorem qS:XJ X (.builtin "len") (λxs H Q=>∃p S n,xs=[.ref p]/\H p=some (.set S n)/\Q (.int n) H):=by
 intro pins s σ H xs us Q I rx h;obtain ⟨p,S,n,rfl,hp,q⟩:=h;obtain ⟨u,rfl,ru⟩:=rx.one;cases ru;obtain ⟨o,es,ep,t,h1,h2,h3,h4,h5,h6,h7,h8⟩:=(show s.heap.SetOf (intKind X.prog X.w) p S n from I.hok p _ hp)
 have hsb:scanBound=4096:=rfl;refine call_len_set h1 h2 h3 h7 (by omega) ?_
 rw[h8];exact ⟨.int n,H,I.tok _,⟨_,rfl⟩,q⟩
def Y1:List D->Option (List Int)
 |[]=>some []
 |.int i::r=>(Y1 r).map (i :: ·)
 |_=>none
theorem SJ{K:Frag}{G:Hp}:∀{vs:List V}{ds:List D}{ns:List Int},Reps K G vs ds->Y1 ds=some ns->vs=ns.map V.int
 |_,_,ns,.nil,e=>by cases e;rfl
 |_,_,ns,.cons (d:=d) r t,e=>by
  cases d with
  |int b=>
   unfold Y1 at e
   cases z:Y1 _ with
   |none=>rw[z] at e;cases e
   |some cs=>
    rw[z] at e;cases e;rw[r.int_inv,SJ t z];rfl
  |_=>cases e
theorem SH(ns:List Int):Y1 (ns.map int)=some ns:=by
 induction ns with
 |nil=>rfl
 |cons b r ih=>rw[QA,Y1,ih];rfl
def VP:List D->Option D
 |[.list ds]=>(match Y1 ds with
  |some ns=>if ns.length+1<4096 then some (.int (Sy ns)) else none
  |none=>none)
 |_=>none
theorem ky{xs:List D}{d:D}(h:VP xs=some d):∃ds ns,xs=[.list ds]/\Y1 ds=some ns/\ns.length+1<4096/\d=.int (Sy ns):=by
 unfold VP at h
 split at h
 ·rename_i ds
  cases z:Y1 ds with
  |none=>rw[z] at h;cases h
  |some ns=>
   rw[z] at h;dsimp only at h
   split at h
   ·rename_i c
    cases h;exact ⟨ds,ns,rfl,z,c,rfl⟩
   ·cases h
 ·cases h
theorem qR:bootBuiltins "set" = some (.type "set"):=by decide +kernel
theorem FW{f:M (List D)}(hc:X.calm=true)(hg:Gl X "len")(hm:X.mg "len" = none)(hg2:Gl X "set")(hm2:X.mg "set" = none)(ha:PA X [a] (tDs X.K B G0 f))(he:UG [a] X.env=(false,eval a X.env)::UG [] X.env:=by rfl)
  (he2:UG [.Call (.Name "set" p2) [a] [] p3] X.env=(false,eval (.Call (.Name "set" p2) [a] [] p3) X.env)::UG [] X.env:=by rfl) :
  PE X (.Call (.Name "len" p4) [.Call (.Name "set" p2) [a] [] p3] [] pos) (tD X.K B G0 (ZN VP f)) :=
 KW (Nh qS hg hm Jk (VQ (NC (qT hc) hg2 hm2 qR ha (by decide) (by decide) he rfl) Sv he2) (by decide) (by decide) he2 rfl) λσ H Q q=>tM.one (R:=Reps X.K) q λvs H2 G Z x k r a=>by
  obtain ⟨d,e,a⟩:=a.opt;obtain ⟨ds,ns,rfl,z,c,rfl⟩:=ky e;obtain ⟨v,rfl,q1⟩:=r.one_inv;obtain ⟨l,ws,rfl,h1,r1⟩:=q1.lst_inv
  have:=SJ r1 z
  subst this;refine ⟨l,ns,rfl,k.gh.seq h1,c,λS p hp=>⟨p,S,Sy ns,rfl,Yx,?_⟩⟩;exact aft.done a k (Ext.hid k.gh hp) (.int _)
end
end DL
namespace L2
open PySem PySem.Spec PyProof.Rows
section
variable{X:Cx}{tg:UD}
end
end L2
namespace DL
open PySem PySem.Spec L2
open PyProof.Rows hiding St
section
variable{X:Cx}{B G0:Hp}{e a b c tg:UD}{pos:Pos}{es rest:List UD}
end
end DL
namespace L2
open PySem PySem.Spec PyProof.Rows
section
variable{prog:UA}{w:World}{A:Around}{E:Uy->Uz->Prop}{s:Uz}{M:Model}{env:Env}
theorem Bb{pos:Pos}{T:String}{args:List (Bool×Sem Uy)}{kws:List (Option Str×Sem Uy)}{Q:Uy->Uz->Prop}(hp:args.any (·.1)=false)(hk:kws.any (·.1.isNone)=false)
  (h:UF M A (evalArgs (.type T) true args kws) (λa s1=>UF M A (call (.type T) a.pos a.kw) Q E s1) E s):UF M A (callWith pos (.type T) [] args kws) Q E s:=by
 unfold callWith;refine Qf (wpAny_holding (QO h (λa s1 h1=>Qf (Jt ?_)) λ_ _ z=>z));simp only[hp,hk,Bool.false_or];refine Qf (Qo ?_);exact Qf (QO h1 (λr s2 hr=>Qf (wpAny_holding (wpAny_point (Qo hr)))) λ_ _ z=>z)
theorem AY(l:UB)(t:Tok)(items:Array Uy)(n:Nat)(dct:Option UB)(sl:Array (Option Uy)) :
  Meets (Builtin.«enumerate.__new__» ⟨[.type "enumerate", .ref l],[("start", .int 1 t)]⟩) (λ_ R s=>s.heap.get? l=some ⟨.type "list", dct,.seq items n,sl⟩ /\
   R (.ok (.ret (.ref (s.heap.push { cls:=.type "list_iterator", data:=.fields #[.ref l,.int 0 0] }).objs.size))) { s with heap:=(s.heap.push { cls:=.type "list_iterator", data:=.fields #[.ref l,.int 0 0] }).push { cls:=.type "enumerate", data:=.fields #[.none,.bool false,.ref s.heap.objs.size,rawInt 1,.none,.none] } }) :=
 .of_wp λprog w A R s h=>by
  obtain ⟨hp,g,d,tk,os⟩:=s;obtain ⟨hl,h⟩:=h;have hsub:=sub_enumerate;have hL:Heap.IsList (Shared.heap ⟨hp,g,d,tk,os⟩) l items:=⟨_,hl,rfl,n,rfl⟩
  wp_walk using AutoSeq1.wpAny_loadPart' hl
  refine wpAny_stack_any λst=>(Qo ?_);split
  ·rename_i c _ _ _ _ _
   cases (c==Value.type "enumerate") <;> (wp_walk using (AutoSeq1.wpAny_loadPart' hl),(JL hL)) <;> exact ⟨_,rfl,h⟩
  ·(wp_walk using (AutoSeq1.wpAny_loadPart' hl),(JL hL));exact ⟨_,rfl,h⟩
theorem kR{T newId initId:String}{Bn Bi:Builtin}{args:List Uy}{kw:List (Str×Uy)}{S:PySem.Spec}{Q Q1:Uy->Uz->Prop}(ft:TypeCalled T newId initId)
  (hct:checkTypeCall T ⟨args,kw⟩=pure ()) (hcn:checkBuiltinCall newId ⟨.type T::args,kw⟩=pure ()) (eN:entryFor table newId=some Bn) (eI:entryFor table initId=some Bi)
  (g:Meets (Bn ⟨.type T::args,kw⟩) S) (h:S A.in1 (wants Q1 E) s)
  (hnext:∀obj s1,Q1 obj s1->s1.TypeIs obj T/\argsOk initId ⟨obj::args,kw⟩/\∃Si,Meets (Bi ⟨obj::args,kw⟩) Si/\Si A.in1 (wants (λr s2=>r=.none/\Q obj s2) E) s1) :
  UF (model prog w) A (call (.type T) args kw) Q E s:=by
 obtain ⟨c,tl,hmro⟩:=ft.mro;have hmade:=ft.made;have hsub:=ft.sub;refine wpAny_call (codeAny_of_tree ?_);show UF _ _ (callAny (.type T) _) _ _ _;refine Qo ⟨Code.quiet_builtin _ (by decide +kernel),(JI F.entry_type_call ?_)⟩
 rw[Around.under_plain (weight_type_call_type T args kw) (units_type_call_type T args kw)];have h1:=ft.notType;have h2:=ft.canCreate
 repeat' (any_goals (first|wp_step|assumption))
 refine codeAny_mono (codeAny_call_builtin ft.plain eN (wpAny_of_eq hcn (g prog w A.in1 _ s h))) λr s1 hr=>?_
 match r,hr with
 |.error e,hr=>exact hr
 |.ok (.ret obj),hr=>
  obtain ⟨hT,hok,Si,gi,hsi⟩:=hnext _ _ hr;have hli:=ft.init.lookup;have hbi:=ft.init.bind obj
  repeat' (any_goals (first|wp_step|assumption))
  refine codeAny_mono (codeAny_call_builtin ft.init.plain eI (ft.init.check _ _ _ _ _ _ _ _ hT hok (gi prog w A.in1 _ s1 hsi))) λr2 s2 hr2=>?_
  match r2,hr2 with
  |.error e,hr2=>exact hr2
  |.ok (.ret r),hr2=>
   obtain ⟨rfl,hq⟩:=hr2
   repeat' (any_goals (first|wp_step|assumption))
  |.ok .next,hr2=>exact hr2.elim
  |.ok .brk,hr2=>exact hr2.elim
  |.ok .cont,hr2=>exact hr2.elim
 |.ok .next,hr=>exact hr.elim
 |.ok .brk,hr=>exact hr.elim
 |.ok .cont,hr=>exact hr.elim
theorem kx{T newId:String}{self:Uy}{rest:List Uy}{kw:List (Str×Uy)}(hl:typeLookup (.type T) "__init__" = pure (some (.builtin "object.__init__")))
  (hm:Bind.madeBy (.type T)=pure (some newId)) (hne:(some newId != some "object.__new__")=true) :
  Meets (Builtin.«object.__init__» ⟨self::rest,kw⟩) (λ_ R s=>s.TypeIs self T/\R (.ok (.ret .none)) s):=by
 refine .of_wp λprog w A R s hs=>?_;obtain ⟨hT,hq⟩:=hs
 cases rest with
 |nil=>
  cases kw with
  |nil=>exact Qo ⟨_,rfl,hq⟩
  |cons k kw=>(repeat' (any_goals (first|wp_step|assumption)));exact ⟨_,rfl,hq⟩
 |cons a rest=>(repeat' (any_goals (first|wp_step|assumption)));exact ⟨_,rfl,hq⟩
theorem ku(a:Uy)(t:Tok):checkTypeCall "enumerate" ⟨[a],[("start", .int 1 t)]⟩=pure ():=by kernel_rfl
theorem jK(a:Uy)(t:Tok):checkBuiltinCall "enumerate.__new__" ⟨[.type "enumerate", a],[("start", .int 1 t)]⟩=pure ():=by kernel_rfl
theorem kt(o a:Uy)(t:Tok):argsOk "object.__init__" ⟨[o,a],[("start", .int 1 t)]⟩:=by unfold argsOk;kernel_rfl
theorem jJ{l:UB}{items:Array Uy}{t:Tok}{Q:Uy->Uz->Prop}(hL:s.heap.IsList l items)
  (h:∀h',IsEnum h' (s.heap.objs.size+1) s.heap.objs.size 1 .none->h'.IsListIter s.heap.objs.size l 0->(∀b o,s.heap.get? b=some o->h'.get? b=some o)->Q (.ref (s.heap.objs.size+1)) { s with heap:=h' }) :
  UF (model prog w) A (call (.type "enumerate") [.ref l] [("start", .int 1 t)]) Q E s:=by
 obtain ⟨⟨c,dct,dt,sl⟩,hl,hc,n,hd⟩:=hL
 replace hc:c=.type "list" := hc
 replace hd:dt=.seq items n:=hd
 subst hc hd
 have hz:(s.heap.push { cls:=.type "list_iterator", data:=.fields #[.ref l,.int 0 0] }).objs.size=s.heap.objs.size+1:=Heap.size_push ..
 have he:IsEnum ((s.heap.push { cls:=.type "list_iterator", data:=.fields #[.ref l,.int 0 0] }).push { cls:=.type "enumerate", data:=.fields #[.none,.bool false,.ref s.heap.objs.size,rawInt 1,.none,.none] }) (s.heap.objs.size+1) s.heap.objs.size 1 .none:=by
  rw[←hz];exact QH _ rfl
 refine kR F.called_enumerate (ku _ t) (jK _ t) F.entry_enumerate_new F.entry_object_init (AY l t items n dct sl) (Q1:=λobj s1=>s1.TypeIs obj "enumerate" /\ Q obj s1) ⟨hl,?_⟩ λobj s1 hq=>
  ⟨hq.1,kt obj _ t,_,kx F.called_enumerate.init.lookup F.called_enumerate.made (by decide),hq.1,rfl,hq.2⟩
 show _/\_;rw[hz];exact ⟨⟨_,he,rfl⟩,h _ he ⟨_,Qm _ (QH _ rfl),rfl,rfl⟩ λb o x=>Qm _ (Qm _ x)⟩
end
section
variable{prog:UA}{w:World}{A:Around}{E:Uy->Uz->Prop}{s:Uz}
theorem qQ{en it l:UB}{i:Nat}{j:Int}{items:Array Uy}{x old:Uy}{Q:Option Uy->Uz->Prop}(st:IsEnum s.heap en it j old)(li:s.heap.IsListIter it l i)(ls:s.heap.IsList l items)
  (at_:items[i]?=some x) (ne:en≠it)
  (k:∀h',IsEnumOut h' en it (j+1) x s.heap.objs.size->h'.IsListIter it l (i+1)->h'.get? s.heap.objs.size=some { cls:=.type "tuple", data:=.seq #[.int j s.toks,x] }->(∀b o,b≠en->b≠it->s.heap.get? b=some o->h'.get? b=some o) ->
   Q (some (.ref s.heap.objs.size)) { s with heap:=h',toks:=s.toks+1 }):UF (model prog w) A (pyNext (.ref en)) Q E s:=by
 have ty:s.TypeIs (.ref en) "enumerate" := ⟨_,st,rfl⟩
 have lt:en<s.heap.objs.size:=Qi st;unfold pyNext
 refine Qf (wpAny_attempt (wpAny_callSpecial?_slot (name:=US "__next__") ty F.slot_enumerate_next (wpAny_call_entry F.slot_enumerate_next ty F.entry_enumerate_next ?_ (F.args_enumerate_next_1 _))))
 show UF _ _ (field (.ref en) 2 >>= _) _ _ s;refine Qf (wpAny_field st rfl (x:=.ref it) rfl ?_);refine Qf (wpAny_nextOf_list_item li ls at_ λm1 li1 c1=>?_);have c1:Heap.SameBut it s.heap m1:=c1;have st1:IsEnum m1 en it j old:=(c1.2 en ne).trans st;show UF _ _ (field (.ref en) 3 >>= _) _ _ { s with heap:=m1 };refine Qf (wpAny_field st1 rfl (x:=rawInt j) rfl ?_);show UF _ _ (field (.ref en) 4 >>= _) _ _ { s with heap:=m1 };refine Qf (wpAny_field st1 rfl (x:=.none) rfl ?_);show UF _ _ (mkInt j >>= _) _ _ { s with heap:=m1 };refine Qf (wpAny_mkInt ?_);show UF _ _ (setField (.ref en) 3 (rawInt (j+1)) >>= _) _ _ { s with heap:=m1,toks:=s.toks+1 };refine wpAny_bind (wpAny_setField_rec st1 (by simp) λm2 st2 c2=>?_)
 have c2:Heap.SameBut en m1 m2:=c2;have st2:IsEnum m2 en it (j+1) old:=st2;show UF _ _ (setField (.ref en) 4 .none >>= _) _ _ { s with heap:=m2,toks:=s.toks+1 };refine wpAny_bind (wpAny_setField_rec st2 (by simp) λm3 st3 c3=>?_)
 have c3:Heap.SameBut en m2 m3:=c3;have st3:IsEnum m3 en it (j+1) old:=st3;show UF _ _ (newTuple [.int j s.toks,x] >>= _) _ _ { s with heap:=m3,toks:=s.toks+1 };refine Qf (wpAny_newTuple ?_);have z3:m3.objs.size=s.heap.objs.size:=c3.1.trans (c2.1.trans c1.1)
 have st4:IsEnum (m3.push { cls:=.type "tuple", data:=.seq #[.int j s.toks,x] }) en it (j+1) old:=Qm _ (show IsEnum m3 en it (j+1) old from st3)
 have tp4:(m3.push { cls:=.type "tuple", data:=.seq #[.int j s.toks,x] }).get? s.heap.objs.size=some { cls:=.type "tuple", data:=.seq #[.int j s.toks,x] }:=by rw[←z3];exact QH _ rfl
 have kp4:∀b o,b≠en->b≠it->s.heap.get? b=some o->(m3.push { cls:=.type "tuple", data:=.seq #[.int j s.toks,x] }).get? b=some o:=λb o n1 n2 q=>Qm _ ((c3.2 b n1).trans ((c2.2 b n1).trans ((c1.2 b n2).trans q)))
 have li4:(m3.push { cls:=.type "tuple", data:=.seq #[.int j s.toks,x] }).IsListIter it l (i+1):=by
  obtain ⟨o,q,r⟩:=li1;exact ⟨o,Qm _ ((c3.2 it (Ne.symm ne)).trans ((c2.2 it (Ne.symm ne)).trans q)),r⟩
 generalize m3.push { cls:=.type "tuple", data:=.seq #[.int j s.toks,x] }=m4 at st4 tp4 kp4 li4
 show UF _ _ (Builtin.SmallTypes.ownedTupleIsFree (.ref en) >>= _) _ _ { s with heap:=m4,toks:=s.toks+1 };rw[z3];refine Qf ?_;unfold Builtin.SmallTypes.ownedTupleIsFree Builtin.SmallTypes.ownedTupleHandOut;refine Qf (wpAny_field st4 rfl (x:=.none) rfl (Qo ?_));simp only[if_true];refine wpAny_bind (wpAny_rule (wpAny_bind (wpAny_field st4 rfl (x:=old) rfl (wpAny_bind (wpAny_setField_rec st4 (by simp) λm5 st5 c5=>?_)))))
 have c5:Heap.SameBut en m4 m5:=c5;have st5:IsEnum m5 en it (j+1) x:=st5;refine wpAny_bind (wpAny_bind (wpAny_setField_rec st5 (by simp) λm6 st6 c6=>?_))
 have c6:Heap.SameBut en m5 m6:=c6;have st6:IsEnumOut m6 en it (j+1) x s.heap.objs.size:=st6;refine wpAny_setField_rec st6 (by simp) λm7 st7 c7=>?_
 have c7:Heap.SameBut en m6 m7:=c7;have st7:IsEnumOut m7 en it (j+1) x s.heap.objs.size:=st7;have up:∀b,b≠en->m7.get? b=m4.get? b:=λb n=>(c7.2 b n).trans ((c6.2 b n).trans (c5.2 b n));refine Qf (wpAny_letGo (Qo ⟨_,rfl,Qo (k m7 st7 ?_ ((up _ (JW lt)).trans tp4) λb o n1 n2 q=>(up b n1).trans (kp4 b o n1 n2 q))⟩));obtain ⟨o,q,r⟩:=li4;exact ⟨o,(up it (Ne.symm ne)).trans q,r⟩
theorem qP{en it l:UB}{i:Nat}{j:Int}{items:Array Uy}{old:Uy}{Q:Option Uy->Uz->Prop}(hh:A.handled=none)(st:IsEnum s.heap en it j old)(li:s.heap.IsListIter it l i)(ls:s.heap.IsList l items)
  (at_:items[i]?=none) (k:∀h',Heap.ExtBut it s.heap h'->Q none { s with heap:=h' }):UF (model prog w) A (pyNext (.ref en)) Q E s:=by
 have ty:s.TypeIs (.ref en) "enumerate" := ⟨_,st,rfl⟩
 unfold pyNext
 refine Qf (wpAny_attempt (wpAny_callSpecial?_slot (name:=US "__next__") ty F.slot_enumerate_next (wpAny_call_entry F.slot_enumerate_next ty F.entry_enumerate_next ?_ (F.args_enumerate_next_1 _))))
 show UF _ _ (field (.ref en) 2 >>= _) _ _ s;refine Qf (wpAny_field st rfl (x:=.ref it) rfl (Qf (m:=Builtin.SmallTypes.nextOf (.ref it)) (wpAny_nextOf_list_end hh li ls at_ λh' z c y=>?_)));obtain ⟨o,q,t⟩:=y
 exact Qf (wpAny_isInstance (T := "StopIteration") (b:=true) ⟨o,q,t⟩ isSubtype_stop (Qo (k _ c)))
end
def Ph(K:Frag)(a:UB):It :=
 ⟨λi H=>∃xs x,SqL K H a xs/\xs[i]?=some x,
  λi H v H'=>∃p x,H p=none/\v=.ref p/\(∀xs,SqL K H a xs->xs[i]?=some x)/\H'=upd H p (.tup [.int (1+(i:Int)),x]),
  λi H=>∃xs,SqL K H a xs/\xs.length<=i⟩
theorem jI{P:UA}{w:World}{K:Frag}{elts:List UD}{x1}{tp:Pos}(a e it:UB)(hne:e≠it) :
  Turn P w K (.Tuple elts x1 tp) (Ph K a) [e,it] e (λi h=>(∃old,IsEnum h e it (1+(i:Int)) old)/\h.IsListIter it a i) where
 mem:=by simp
 obj:=λi h st b hb=>by
  obtain ⟨⟨old,he⟩,o,ho,c,d⟩:=st;have hb':b=e∨b=it:=by simpa using hb
  rcases hb' with rfl|rfl
  ·exact ⟨_,he,λv z=>by
    have z':Data.fields _=Data.cell v:=z;cases z'⟩
  ·exact ⟨o,ho,λv z=>by rw[d] at z;cases z⟩
 keep:=λi h h' st k=>by
  obtain ⟨⟨old,he⟩,hi⟩:=st;exact ⟨⟨old,k e (by simp) _ he⟩,hi.at λo q=>k it (by simp) o q⟩
 item:=by
  intro X hP hw hK hc i pins s σ H E I hf st hg;subst hP hw hK;obtain ⟨⟨old,he⟩,hi⟩:=st;obtain ⟨xs,x,hq,hx⟩:=hg;obtain ⟨its,rv,p,hz⟩:=I.list hq;obtain ⟨u,hu,ru⟩:=rv.get hx;refine qQ he hi p.isList (x:=u) (by simpa using hu) hne λh1 out hi1 ht kk=>?_
  refine ⟨_,rfl,wpAny_letOwnedTupleGo_enum out λh2 he2 hs2=>?_⟩;have hel:e<s.heap.objs.size:=Qi he;have hs2':Heap.SameBut e h1 h2:=hs2
  have ht2:h2.get? s.heap.objs.size=some { cls:=.type "tuple", data:=.seq #[.int (1+(i:Int)) s.toks,u] }:=(hs2'.2 _ (JW hel)).trans ht
  have kk2:∀b o,b∉[e,it]->s.heap.get? b=some o->h2.get? b=some o:=λb o hb q=>by
   have hbe:b≠e:=λz=>hb (by simp[z])
   have hbi:b≠it:=λz=>hb (by simp[z])
   exact (hs2'.2 b hbe).trans (kk b o hbe hbi q)
  have hn:H s.heap.objs.size=none:=I.hok.fresh (Qy _)
  have I2:Inv X pins σ (upd H s.heap.objs.size (.tup [.int (1+(i:Int)),x])) { s with heap:=h2,toks:=s.toks+1 } :=
   I.turnedNew (fp:=[e,it]) hf kk2 (Qy _) ⟨by show 2<=UE;decide,[.int (1+(i:Int)) s.toks,u],.cons ⟨_,rfl⟩ (.cons ru .nil),⟨_,ht2,rfl,_,rfl⟩⟩
  refine ⟨.ref s.heap.objs.size,_,I2,rfl,⟨_,x,hn,rfl,λys hy=>by rw[I.list_inj hy hq];exact hx,rfl⟩,⟨⟨u,?_⟩,?_⟩,λb hb=>?_⟩
  ·have e2:(1+((i+1:Nat):Int))=1+(i:Int)+1:=by omega
   rw[e2];exact he2
  ·exact hi1.at λo q=>(hs2'.2 it (Ne.symm hne)).trans q
  ·have hlt:b<s.heap.objs.size:=by
    have hb':b=e∨b=it:=by simpa using hb
    rcases hb' with rfl|rfl
    ·exact hel
    ·obtain ⟨o,ho,_⟩:=hi;exact Qi ho
   rw[ZA (QR hlt)];exact (hf b hb).1
 done:=by
  intro X hP hw hK hc i pins s σ H E I hf st hg;subst hP hw hK;obtain ⟨⟨old,he⟩,hi⟩:=st;obtain ⟨xs,hq,hx⟩:=hg;obtain ⟨its,rv,p,hz⟩:=I.list hq;have hl:=rv.length;exact qP (I.ok.hd hc) he hi p.isList (by simp;omega) λh' eb=>⟨rfl,I.turnedL (t':=s.toks) hf λb o hb q=>eb b o (λz=>hb (by simp[z])) q⟩
 self:=λ_ _ _ _ _ st h=>by
  obtain ⟨⟨old,he⟩,_⟩:=st;exact wpAny_pyIter_enum he h
section
variable{X:Cx}
theorem AX{a:UD}{ta:TA}{p pos k1 k2:Pos}{j}{elts:List UD}{x1}{tp:Pos}(hg:Gl X "enumerate")(hm:X.mg "enumerate" = none)(ha:PA X [a] ta)
  (hs:backTo pos (UG [a] X.env)=(false,eval a X.env)::backTo pos (UG [] X.env):=by rfl) (hpl:(backTo pos (UG [a] X.env)).any (·.1)=false:=by rfl) :
  PI X (.Tuple elts x1 tp) (.Call (.Name "enumerate" p) [a] [⟨some "start", .Constant (.int 1) j k1,k2⟩] pos) (λσ H R=>ta σ H λvs H1=>∃a xs,vs=[.ref a]/\SqL X.K H1 a xs/\R (Ph X.K a) H1):=by
 intro pins s σ H R I h;refine wpAny_Call_Name_kw (T3 I hg hm boot_enumerate (Bb hpl rfl ?_));rw[hs];refine evalArgs_kwB rfl ?_;rw[←hs];refine thn (ha pos pins s σ H _ I h) λus s1 ⟨vs,H1,I1,r1,q1⟩=>?_;refine kws_cons (wpAny_Constant_int (kws_nil ?_));obtain ⟨l,xs,e,hq,q⟩:=q1;subst e
 cases r1 with
 |cons r rr=>
  cases rr
  cases (show _=Value.ref l from r)
  have I1':=I1.tok (s1.toks+1);obtain ⟨its,rv,pl,hz⟩:=I1'.list hq;refine jJ pl.isList λh' he hi kk=>?_;have I2:Inv X pins σ H1 { s1 with heap:=h',toks:=s1.toks+1 }:=I1'.kept (t':=s1.toks+1) kk;refine wpAny_pyIter_enum he ?_;refine ⟨s1.heap.objs.size+1,[s1.heap.objs.size+1,s1.heap.objs.size],_,_,H1,rfl,I2,jI l _ _ (Nat.succ_ne_self _),⟨⟨_,he⟩,hi⟩,λb hb=>?_,q⟩;have hb':b=s1.heap.objs.size+1∨b=s1.heap.objs.size:=by simpa using hb
  rcases hb' with rfl|rfl
  ·exact I1.fpOk (J7 _) (I1.hok.fresh (J7 _))
  ·exact I1.fpOk (Qy _) (I1.hok.fresh (Qy _))
end
end L2
namespace DL
open PySem PySem.Spec L2
open PyProof.Rows hiding St
section
variable{X:Cx}{B G0:Hp}{e a b c tg:UD}{pos:Pos}{es rest:List UD}
theorem kr{K:Frag}{G1:Hp}{ad:UB}{vs:List V}{ds:List D}(h:SqL K G1 ad vs)(r:Reps K G1 vs ds):WT K (Ph K ad) (YY 1 ds) G1 where
 go:=λi G H s1 s2 hi=>by
  rw[YQ] at hi;have hi':i<vs.length:=by rw[r.length];exact hi
  exact ⟨vs,vs[i],(s1.trans s2).seq h,Qe hi'⟩
 stop:=λi G H s1 s2 hi=>by
  rw[YQ] at hi;exact ⟨vs,(s1.trans s2).seq h,by rw[r.length];exact hi⟩
 yld:=λi G H x H' d s1 s2 e y=>by
  obtain ⟨p,v,hp,rfl,y1,rfl⟩:=y;have z1:=y1 vs ((s1.trans s2).seq h);rw[MX] at e
  cases q:ds[i]? with
  |none=>rw[q] at e;cases e
  |some dd=>
   rw[q] at e;cases e;obtain ⟨v',e1,r1⟩:=r.get q;rw[z1] at e1;cases e1;refine ⟨upd G p (.tup [.int (1+(i:Int)),v]),Ext.new s2 hp,.tup (SqT.of Yx) (.cons ?_ (.cons ((r1.mono s1).mono (Yw (s2.free hp))) .nil))⟩
   have:((1+i:Nat):Int)=1+(i:Int):=by omega
   rw[this];exact .int _
def Pq:List D->Option (List D)
 |[.list ds]=>some (YY 1 ds)
 |_=>none
def OY(f:M (List D)):M (List D):=Kr f λx=>Ks (Pq x)
theorem jH{x l:List D}(h:Pq x=some l):∃ds,x=[.list ds]/\l=YY 1 ds:=by
 unfold Pq at h
 split at h
 ·cases h;exact ⟨_,rfl,rfl⟩
 ·cases h
theorem AW{f:M (List D)}{p2 k1 k2:Pos}{j}{elts:List UD}{x1}{tp:Pos}(hg:Gl X "enumerate")(hm:X.mg "enumerate" = none)(ha:PA X [a] (tDs X.K B G0 f))
  (hs:backTo pos (UG [a] X.env)=(false,eval a X.env)::backTo pos (UG [] X.env):=by rfl) (hpl:(backTo pos (UG [a] X.env)).any (·.1)=false:=by rfl) :
  PI X (.Tuple elts x1 tp) (.Call (.Name "enumerate" p2) [a] [⟨some "start", .Constant (.int 1) j k1,k2⟩] pos) (iD X.K B G0 (OY f)):=Ww (AX hg hm ha hs hpl) λσ H R q=>tM.toI (R0:=Reps X.K) q λv H' G' Z' x k r a=>by
 cases z:Pq x with
 |none=>rw[z] at a;exact a.elim
 |some l=>
  rw[z] at a;obtain ⟨ds,rfl,rfl⟩:=jH z;obtain ⟨v,rfl,q⟩:=r.one_inv;obtain ⟨l,ws,rfl,h1,r1⟩:=q.lst_inv;exact ⟨l,ws,rfl,k.gh.seq h1,a _ G' H' k (.refl _) (kr h1 r1)⟩
end
section
variable{X:Cx}
def most:List Int->Int
 |[]=>0
 |[n]=>n
 |n::r=>if most r > n then most r else n
theorem Nf:∀{ns:List Int},0<ns.length->most ns∈ns
 |[n],_=>List.mem_singleton.2 rfl
 |n::m::r,_=>by
  have ih:=Nf (ns:=m::r) (Nat.succ_pos _);unfold most;split
  ·exact Qk _ ih
  ·exact Qn ..
theorem Mc:∀{ns:List Int}{a:Int},a∈ns->a<=most ns
 |[n],a,h=>by rw[List.mem_singleton.1 h];exact QZ _
 |n::m::r,a,h=>by
  have ih:∀b,b∈m::r->b<=most (m::r):=λb hb=>Mc hb;unfold most;rcases Q0.1 h with e|h
  ·subst e;split <;> omega
  ·have:=ih a h;split <;> omega
theorem Ba{ns:List Int}{M:Int}(h1:M∈ns)(h2:∀a,a∈ns->a<=M):most ns=M :=
 Ue (h2 _ (Nf (List.length_pos_of_mem h1))) (Mc h1)
theorem qO(hc:X.calm=true):XJ X (.builtin "max") (λxs H Q=>∃l,∃ns:List Int,xs=[.ref l]/\SqL X.K H l (ns.map V.int)/\0<ns.length/\Q (.int (most ns)) H):=by
 intro pins s σ H xs us Q I rx h;obtain ⟨l,ns,rfl,hq,hb,q⟩:=h;obtain ⟨u,rfl,ru⟩:=rx.one;cases ru;obtain ⟨its,rv,p,hz⟩:=I.list hq;have hi:=Sg rv;obtain ⟨ys,e⟩:=hi.allInts.items
 have hns:ns=ys.toList.map (·.1):=by
  rw[←hi.numsOf,←nums_intItems,←e]
 have hsz:0<ys.size:=by
  rw[hns,Qb,JE] at hb;exact hb
 have hl:=p.isList;rw[e] at hl;refine max_intList (I.ok.hd hc) hl hsz λv h' tk hv hk=>?_;obtain ⟨t,rfl⟩:=intItems_at hv;obtain ⟨h1,h2⟩:=argBest_gt (numAt ys) (ys.size-1);refine ⟨.int (most ns),H,I.kept hk,⟨t,?_⟩,q⟩;rw[Ba (M:=_) ?_ ?_]
 ·rw[hns,numAt_eq];exact getD_mem (by rw[Qb,JE];omega)
 ·intro a ha
  rw[hns] at ha;obtain ⟨j,hj,rfl⟩:=mem_getD ha;rw[Qb,JE] at hj;rw[←numAt_eq];exact h2 j (by omega)
def Ss:List D->Option D
 |[.list ds]=>(match Y1 ds with
  |some ns=>if 0<ns.length then some (.int (most ns)) else none
  |none=>none)
 |_=>none
theorem qN{xs:List D}{d:D}(h:Ss xs=some d):∃ds ns,xs=[.list ds]/\Y1 ds=some ns/\0<ns.length/\d=.int (most ns):=by
 unfold Ss at h
 split at h
 ·rename_i ds
  cases z:Y1 ds with
  |none=>rw[z] at h;cases h
  |some ns=>
   rw[z] at h;dsimp only at h
   split at h
   ·rename_i c
    cases h;exact ⟨ds,ns,rfl,z,c,rfl⟩
   ·cases h
 ·cases h
theorem LN(hc:X.calm=true):XT X (.builtin "max") Ss:=by
 refine ⟨_,qO hc,λvs G H ds d Q s r e k=>?_⟩;obtain ⟨ds,ns,rfl,z,c,rfl⟩:=qN e;obtain ⟨v,rfl,q1⟩:=r.one_inv;obtain ⟨l,ws,rfl,h1,r1⟩:=q1.lst_inv
 have:=SJ r1 z
 subst this;exact ⟨l,ns,rfl,s.seq h1,c,k _ G H (.refl s) (.int _)⟩
theorem Gu{ns:List Int}(h:0<ns.length):Ss [.list (ns.map .int)]=some (.int (most ns)):=by
 unfold Ss;simp only[SH,Ql h]
end
section
variable{X:Cx}{B G0:Hp}{e o:UD}{es:List UD}
theorem kq{h:Heap}{vs:List Uy}{xs:List D}{as:List UB}{d:D}(rs:ReadsAll h vs xs as)(hxs:UO xs=true) :
  vs.countP (λy=>UQ (SeqAt.readOf h y) d)=xs.countP (λy=>UQ y d):=by
 have key:xs=vs.map (SeqAt.readOf h):=(SeqAt.readsAll_map xs vs as hxs rs).symm;rw[key,Ut]
 rfl
def VO(y x:D):Option D:=match y with
 |.list ds=>if x.canLay0=true/\UO ds=true/\x.depth<=60 then some (.int (ds.countP λy=>UQ y x)) else none
 |_=>none
theorem BZ(hu:X.A.units+64<cLine):MtR X "list.count" (λv vs H Q=>∃G u y x d,vs=[u]/\Same G H/\Rep X.K G v y/\Rep X.K G u x/\VO y x=some (.int d)/\Q (.int d) H):=by
 intro pins s σ H x xs v us Q I rx rs h;obtain ⟨G,u,dy,dx,d,rfl,sg,py,px,e,q⟩:=h;obtain ⟨w,rfl,rw'⟩:=rs.one;unfold VO at e
 split at e
 ·rename_i ds
  split at e
  ·rename_i c
   obtain ⟨bs,rb⟩:=XZ I sg py rx (show UO _=true from c.2.1)
   obtain ⟨as,ra⟩:=XZ I sg px rw' c.1
   cases rb with
   |list h1 h2 h3 h4=>
    rename_i l ob its cs n;obtain ⟨cls,dd,data,sl⟩:=ob;simp only at h2 h3;subst h2 h3;refine call_meets F.slot_list_count ⟨_,h1,rfl⟩ F.entry_list_count (F.args_list_count_2 _ _) (SeqAt.list_countAt _ _ _ dd sl _ (λy=>UQ (SeqAt.readOf s.heap y) dx)) ⟨h1,SeqAt.items_eqAt h4 ra c.2.1 c.1 (by have:=c.2.2;omega),?_⟩
    rw[kq h4 c.2.1];cases e;exact ⟨.int _,H,I.tok _,⟨_,rfl⟩,q⟩
  ·cases e
 ·cases e
def O6(y:D)(xs:List D):Option D:=match xs with
 |[x]=>VO y x
 |_=>none
theorem ko{ds xs:List D}{d:D}(h:O6 (.list ds) xs=some d):∃x n,xs=[x]/\d=.int n/\VO (.list ds) x=some (.int n):=by
 unfold O6 at h
 split at h
 ·rename_i x
  have h':=h;unfold VO at h;dsimp only at h
  split at h
  ·cases h;exact ⟨x,_,rfl,rfl,h'⟩
  ·cases h
 ·cases h
def VM(f:M D)(g:M (List D)):M D:=Kr f λy=>Kr g λxs=>Ks (match y with | .list ds=>O6 (.list ds) xs|_=>none)
theorem Nq{apos cpos:Pos}{f:M D}{g:M (List D)}(hu:X.A.units+64<cLine)(ho:PE X o (tD X.K B G0 f))(ha:PA X (e::es) (tDs X.K B G0 g))
  (hbase:attributeBase o "count" X.env (eval o X.env)=eval o X.env:=by rfl)
  (hfew:((backTo cpos (UG (e::es) X.env)).all (λx=>!x.1)&&(backToKw cpos (keywordEach [] X.env)).all (λx=>x.1.isSome)
   && decide ((e::es).length+([]:List Keyword).length+(if ([]:List Keyword).isEmpty then 0 else 1)<30))=true:=by rfl)
  (hline:(apos.endLine==cpos.line)=true:=by rfl) (hs:UG (e::es) X.env=(false,eval e X.env)::UG es X.env:=by rfl) (hplain:(backTo cpos (UG es X.env)).any (·.1)=false:=by rfl) :
  PE X (.Call (.Attribute o "count" apos) (e::es) [] cpos) (tD X.K B G0 (VM f g)) :=
 KW (NG F.plainAttrs_list F.slot_list_count F.type_list_count (BZ hu) ho ha hbase hfew hline hs hplain) λσ H Q q=>by
  refine tM.one (R:=Rep X.K) q λv H2 G Z y k r a=>?_
  cases y with
  |list ds=>
   obtain ⟨l,ws,rfl,h1,r1⟩:=r.lst_inv;refine ⟨.inl ⟨rfl,ws,k.gh.seq h1⟩,?_⟩;refine tM.nx (R:=Reps X.K) k a λxs H3 G3 Z3 es k3 s3 r3 a3=>?_;obtain ⟨d,e,a3⟩:=a3.opt;obtain ⟨x,n,rfl,rfl,e'⟩:=ko e;obtain ⟨u,rfl,ru⟩:=r3.one_inv;exact ⟨G3,u,.list ds,x,n,rfl,k3.gh,r.mono s3,ru,e',aft.now a3 k3 (.int _)⟩
  |_=>
   unfold Kr at a
   cases z:g Z with
   |bad=>rw[z] at a;exact a.elim
   |ok xs Z1=>rw[z] at a;exact a.elim
theorem Ol{f:M D}{g:M (List D)}{Z Z1 Z2:UR}{ds:List D}{x d:D}(h1:f Z=.ok (.list ds) Z1)(h2:g Z1=.ok [x] Z2)(h3:VO (.list ds) x=some d):VM f g Z=.ok d Z2:=by
 unfold VM Kr;rw[h1];dsimp only;rw[h2];dsimp only[O6];rw[h3]
 rfl
end
section
variable{prog:UA}{w:World}{A:Around}{R:Result->Uz->Prop}{h0:Heap}{l I S:UB}{rs:List (UB×List Uy)}
def WF(h h':Heap):Prop:=∀b o,h.get? b=some o->h'.get? b=some o
def Ls1(h:Heap)(a:UB)(its:List Uy)(sl:Array (Option Uy)):Prop:=∃n,h.get? a=some { cls:=.type "list", dict:=none,data:=.seq its.toArray n,slots:=sl }
def Ls(h:Heap)(a:UB)(its:List Uy):Prop:=∃n sl,h.get? a=some { cls:=.type "list", dict:=none,data:=.seq its.toArray n,slots:=sl }
theorem Ls.kept{h h':Heap}{a:UB}{its:List Uy}(x:Ls h a its)(k:WF h h'):Ls h' a its:=by
 obtain ⟨n,sl,e⟩:=x;exact ⟨n,sl,k _ _ e⟩
theorem jG(hh:A.in1.handled=none)(hI:h0.objs.size<=I)(hS:h0.objs.size<=S)(hIS:S≠I)(hl:h0.IsList l (rs.map λp=>Value.ref p.1).toArray)(hr:∀p∈rs,Ls h0 p.1 p.2) :
  ∀(k i:Nat)(s:Uz)(t:UB)(acc:List Uy)(c:Nat)(sl:Array (Option Uy)),rs.length-i=k->i<=rs.length->WF h0 s.heap->s.heap.IsListIter I l i ->
   s.heap.get? S=some { cls:=.type "list", dict:=none,data:=.seq #[.ref t] c,slots:=#[] }->t≠S->t≠I->Ls1 s.heap t acc sl->acc.length+((rs.drop i).map (·.2)).flatten.length<=UE ->
   (∀p h' tk sl',WF h0 h'->Ls1 h' p (acc++((rs.drop i).map (·.2)).flatten) sl'->(p=t/\i=rs.length/\sl'=sl∨h0.objs.size<=p/\sl'=#[])->R (.ok (.ret (.ref p))) { s with heap:=h',toks:=tk }) ->
   codeAny (model prog w) A (.builtin "sum.loop" ⟨[.ref I,.ref S,rawInt 2,rawInt 0],[]⟩) R s:=by
 intro k
 induction k with
 |zero=>
  intro i s t acc c sl hk hi hK hit hSS htS htI ht hz hR;have hin:i=rs.length:=by omega
  subst hin;refine JI F.entry_sum_loop ?_;rw[Around.under_plainId F.plain_sum_loop _];show UF _ A.in1 (seqItems? (.ref S) >>= _) _ _ s;refine Qf (wpAny_seqItems hSS rfl ?_);show UF _ A.in1 (tryCatch (pyNext (.ref I)) _ >>= _) _ _ s
  have hl':s.heap.IsList l (rs.map λp=>Value.ref p.1).toArray:=by
   obtain ⟨o,e,r⟩:=hl;exact ⟨o,hK _ _ e,r⟩
  refine wpAny_bind (wpAny_tryCatch (wpAny_pyNext_list_end hh hit hl' (by simp) λh' ex=>?_))
  refine Qo (hR t h' s.toks sl (λb o e=>?_) ?_ (.inl ⟨rfl,rfl,rfl⟩))
  ·exact ex b o (QR (QI (Qi e) hI)) (hK b o e)
  ·obtain ⟨n,e⟩:=ht
   rw[List.drop_length,Ul,List.flatten_nil,Q9];exact ⟨n,ex _ _ htI e⟩
 |succ k ih=>
  intro i s t acc c sl hk hi hK hit hSS htS htI ht hz hR;have hlt:i<rs.length:=by omega
  refine JI F.entry_sum_loop ?_;rw[Around.under_plainId F.plain_sum_loop _];show UF _ A.in1 (seqItems? (.ref S) >>= _) _ _ s;refine Qf (wpAny_seqItems hSS rfl ?_);show UF _ A.in1 (tryCatch (pyNext (.ref I)) _ >>= _) _ _ s
  have hl':s.heap.IsList l (rs.map λp=>Value.ref p.1).toArray:=by
   obtain ⟨o,e,r⟩:=hl;exact ⟨o,hK _ _ e,r⟩
  refine wpAny_bind (wpAny_tryCatch (wpAny_pyNext_list_item (x:=.ref (rs[i]'hlt).1) hit hl' (by simp[hlt]) λh' hit' sb=>?_))
  show UF _ A.in1 ((holding [Value.ref (rs[i]'hlt).1] (binaryOp .Add (.ref t) (.ref (rs[i]'hlt).1))).attempt >>= _) _ _ _;refine Qf (wpAny_attempt (wpAny_holding ?_));have hm:rs[i]'hlt∈rs:=Jq hlt;have hd:rs.drop i=rs[i]'hlt::rs.drop (i+1):=QQ hlt;have hK':WF h0 h':=λb o e=>(sb.2 b (QR (QI (Qi e) hI))).trans (hK b o e);obtain ⟨n1,e1⟩:=ht;have e1':=(sb.2 t htI).trans e1;obtain ⟨n2,s2,e2⟩:=(hr _ hm).kept hK';have hSS':=(sb.2 S hIS).trans hSS;rw[hd,QA,QN,Qj] at hz;refine concat_meets ⟨_,e1',rfl⟩ ⟨_,e2,rfl⟩ noFill_list_add seq_list_add PySem.F.slot_list_add PySem.F.entry_list_add (PySem.F.args_list_add_2 _ _) (list_addW t _ acc.toArray _ n1 n2 none none sl s2 (by rw[QK,QK];omega)) ⟨e1',e2,?_⟩
  have hlS:S<h'.objs.size:=Qi hSS';have hlI:I<h'.objs.size:=by obtain ⟨o,e,_⟩:=hit';exact Qi e
  have ea:acc.toArray++(rs[i]'hlt).2.toArray=(acc++(rs[i]'hlt).2).toArray:=by simp
  rw[ea]
  have hP:∀b o,h'.get? b=some o->(h'.push { cls:=Value.type "list", data:=Data.seq (acc++(rs[i]'hlt).2).toArray }).get? b=some o:=λb o e=>Qm _ e
  have hS1:=hP _ _ hSS'
  have hNew:(h'.push { cls:=Value.type "list", data:=Data.seq (acc++(rs[i]'hlt).2).toArray }).get? h'.objs.size=some { cls:=Value.type "list", data:=Data.seq (acc++(rs[i]'hlt).2).toArray }:=QH _ rfl
  show UF _ A.in1 (updateSeq S (λ_=>#[.ref h'.objs.size]) >>= _) _ _ _;refine Qf (wpAny_updateSeq hS1 rfl ?_);have hS2:=Heap.get?_update_self (Obj.mapSeq λ_=>#[Value.ref h'.objs.size]) hS1 rfl;refine Qf (wpAny_letGo ?_);refine Qf (wpAny_updateSeq hS2 rfl (Qo ⟨plainId_quiet F.plain_sum_loop _,?_⟩))
  have oth:∀b o,b≠S->(h'.push { cls:=Value.type "list", data:=Data.seq (acc++(rs[i]'hlt).2).toArray }).get? b=some o->(((h'.push { cls:=Value.type "list", data:=Data.seq (acc++(rs[i]'hlt).2).toArray }).update S (Obj.mapSeq λx=>#[Value.ref h'.objs.size])).update S (Obj.mapSeq λx=>#[Value.ref h'.objs.size])).get? b=some o:=λb o hb e=>(Heap.get?_update_other _ _ (Ne.symm hb)).trans ((Heap.get?_update_other _ _ (Ne.symm hb)).trans e)
  refine ih (i+1) _ h'.objs.size (acc++(rs[i]'hlt).2) _ #[] (by omega) hlt ?_ ?_ (Heap.get?_update_self _ hS2 rfl) (JW hlS) (JW hlI) ?_ (by rw[Qj];omega) λp h'' tk sl' hk'' hp hq=>?_
  ·exact λb o e=>oth b o (QR (QI (Qi e) hS)) (hP b o (hK' b o e))
  ·obtain ⟨o,e,r⟩:=hit'
   exact ⟨o,oth I o (Ne.symm hIS) (hP I o e),r⟩
  ·exact ⟨_,oth _ _ (JW hlS) hNew⟩
  ·refine hR p h'' tk sl' hk'' ?_ (.inr ?_)
   ·rw[hd,QA,QN,←Jg];exact hp
   ·rcases hq with ⟨rfl, -,e⟩|hq
    ·exact ⟨Nat.le_of_lt (Nat.lt_of_le_of_lt hS hlS),e⟩
    ·exact hq
end
section
variable{prog:UA}{w:World}{A:Around}{E:Uy->Uz->Prop}{s:Uz}{l z:UB}{rs:List (UB×List Uy)}
theorem qM(a b:Uy):argsOk "sum" ⟨[a,b],[]⟩:=by unfold argsOk;kernel_rfl
theorem jF{Q:Uy->Uz->Prop}(hh:A.handled=none)(hl:s.heap.IsList l (rs.map λp=>Value.ref p.1).toArray)(hr:∀p∈rs,Ls s.heap p.1 p.2)(hz:Ls s.heap z [])(hb:(rs.map (·.2)).flatten.length<=UE)
  (h:∀p h' tk sl',WF s.heap h'->Ls1 h' p (rs.map (·.2)).flatten sl'->(p=z/\rs=[]∨s.heap.objs.size<=p/\sl'=#[])->Q (.ref p) { s with heap:=h',toks:=tk }) :
  UF (model prog w) A (call (.builtin "sum") [.ref l,.ref z]) Q E s:=by
 refine call_function_tree F.kind_sum F.plain_sum F.entry_sum (qM _ _) ?_;unfold Builtin.«sum»;simp only[QF,QC];rw[Qs (by decide)]
 refine Qf (wpAny_of_eq (show Builtin.Builtins.bindParams "sum" ["start"] 0 ⟨[.ref z],[]⟩=pure [some (.ref z)] from rfl) ?_)
 refine Qf (JL hl ?_);refine Qf (Qo ?_);obtain ⟨n,sl,ez⟩:=id hz
 have ty:∀h:Heap,h.get? z=some { cls:=.type "list", dict:=none,data:=.seq [].toArray n,slots:=sl }->({ s with heap:=h }:Uz).TypeIs (.ref z) "list" := λh e=>⟨_,e,rfl⟩
 have ez':(s.heap.push { cls:=.type "list_iterator", data:=.fields #[.ref l,.int 0 0] }).get? z=_:=Qm _ ez
 simp only[List.forIn_cons,List.forIn_nil]
 refine Qf (Qf (Qf (wpAny_isInstance (T := "list") (b:=false) (ty _ ez') F.sub_list_str ?_)))
 simp only[Ua,if_false]
 refine Qo (Qf (Qf (wpAny_isInstance (T := "list") (b:=false) (ty _ ez') F.sub_list_bytes ?_)))
 simp only[Ua,if_false]
 refine Qo (Qf (Qf (wpAny_isInstance (T := "list") (b:=false) (ty _ ez') F.sub_list_bytearray ?_)))
 simp only[Ua,if_false];refine Qo (Qo ?_);refine Qf (wpAny_newObj_type ?_);have hzs:=Qi ez
 have s1:(s.heap.push { cls:=.type "list_iterator", data:=.fields #[.ref l,.int 0 0] }).objs.size=s.heap.objs.size+1:=Heap.size_push ..
 have k2:WF s.heap ((s.heap.push { cls:=.type "list_iterator", data:=.fields #[.ref l,.int 0 0] }).push { cls:=.type "list", data:=.seq #[.ref z] }):=λb o e=>Qm _ (Qm _ e)
 refine Qo ⟨plainId_quiet F.plain_sum_loop _,jG (h0:=s.heap) (l:=l) (I:=s.heap.objs.size) (S:=(s.heap.push { cls:=.type "list_iterator", data:=.fields #[.ref l,.int 0 0] }).objs.size) (rs:=rs) hh (Qy _) (by rw[s1];exact J7 _) (by rw[s1];exact Nat.succ_ne_self _) hl hr rs.length 0 _ z [] 0 sl rfl (J8 _)
  k2 ⟨_,Heap.get?_push_of_some _ (Heap.get?_push_size _ rfl),rfl,rfl⟩ (Heap.get?_push_size _ rfl) (by rw[s1];exact Nat.ne_of_lt (Nat.lt_succ_of_lt hzs)) (Nat.ne_of_lt hzs) ⟨n,k2 _ _ ez⟩ (by simpa using hb) λp h' tk sl' hk hp hq=>?_⟩
 exact h p h' tk sl' hk (by simpa using hp) (hq.imp (λe=>⟨e.1,List.eq_nil_of_length_eq_zero e.2.1.symm⟩) id)
end
section
variable{X:Cx}{pins:List (UB×Obj)}{σ:St}{H:Hp}{s:Uz}
theorem HL(I:Inv X pins σ H s):∀{rs:List (UB×List V)},(∀p∈rs,SqL X.K H p.1 p.2) ->
  ∃ts:List (UB×List Uy),(ts.map λp=>Value.ref p.1)=(rs.map λp=>Value.ref p.1)/\(∀p∈ts,Ls s.heap p.1 p.2)/\Vals (rs.map (·.2)).flatten (ts.map (·.2)).flatten
 |[],_=>⟨[],rfl,(λ_ h=>by cases h),(show Vals [] [] from Paired.nil)⟩
 |p::rs,h=>by
  obtain ⟨ts,e,hl,hv⟩:=HL I λq hq=>h q (Qk _ hq);obtain ⟨its,rv,⟨⟨c1,d1,t1,sl⟩,n,e1,ec,ed,et⟩,z⟩:=I.list (h p (Qn ..));simp only at ec ed et;subst ec ed et;refine ⟨(p.1,its)::ts,by rw[QA,QA,e],λq hq=>?_,?_⟩
  ·rcases Q0.1 hq with rfl|hq
   ·exact ⟨n,sl,e1⟩
   ·exact hl q hq
  ·rw[QA,QA,QN,QN]
   exact rv.append hv
theorem FA:∀{as:List UB}{us:List Uy},Vals (as.map V.ref) us->us=as.map Value.ref
 |[],_,.nil=>rfl
 |a::as,_,.cons h t=>by
  cases h;rw[FA t];rfl
theorem qL(hc:X.calm=true):XJ X (.builtin "sum") (λxs H Q=>∃l z,∃rs:List (UB×List V),xs=[.ref l,.ref z]/\SqL X.K H l (rs.map λp=>V.ref p.1)/\(∀p∈rs,SqL X.K H p.1 p.2)/\SqL X.K H z []/\(rs.map (·.2)).flatten.length<=UE /\
  (rs=[]->Q (.ref z) H)/\∀p,H p=none->Q (.ref p) (upd H p (.lst (rs.map (·.2)).flatten))):=by
 intro pins s σ H xs us Q I rx h;obtain ⟨l,z,rs,rfl,hq,hr,hz,hb,q0,q⟩:=h;obtain ⟨u,u',rfl,ru,ru'⟩:=NH rx;cases ru;cases ru';obtain ⟨its,rv,pl, -⟩:=I.list hq;obtain ⟨ts,e,hl,hv⟩:=HL I hr
 have ei:its=ts.map λp=>Value.ref p.1:=by
  rw[e]
  have:=FA (as:=rs.map (·.1)) (us:=its) (by rw[QP];exact rv)
  rw[this,QP];rfl
 subst ei;obtain ⟨zi,rz,⟨⟨c1,d1,t1,sl⟩,n,e1,ec,ed,et⟩, -⟩:=I.list hz;cases rz;simp only at ec ed et;subst ec ed et;have hlen:=hv.length;refine jF (I.ok.hd hc) pl.isList hl ⟨n,sl,e1⟩ (by omega) λp h' tk sl' hk hp hq=>?_
 rcases hq with ⟨rfl,rfl⟩|⟨hp',rfl⟩
 ·have hr0:rs=[]:=by
   cases rs with
   |nil=>rfl
   |cons a b=>cases e
  exact ⟨.ref _,H,I.kept hk,rfl,q0 hr0⟩
 ·obtain ⟨m,ep⟩:=hp
  exact ⟨.ref p,_,I.laid (t':=tk) hk hp' (show Y4 X.prog X.w _ h' _ (.lst _) from ⟨hb,_,m,hv,ep⟩),rfl,q p (I.hok.fresh hp')⟩
def VL:List D->Option (List (List D))
 |[]=>some []
 |.list xs::r=>(VL r).map (xs :: ·)
 |_=>none
theorem Eh{K:Frag}{G:Hp}:∀{vs:List V}{ds:List D}{ls:List (List D)},Reps K G vs ds->VL ds=some ls ->
  ∃rs:List (UB×List V),vs=(rs.map λp=>V.ref p.1)/\(∀p∈rs,SqL K G p.1 p.2)/\Reps K G (rs.map (·.2)).flatten ls.flatten/\rs.length=ls.length
 |_,_,ls,.nil,e=>by cases e;exact ⟨[],rfl,(λ_ h=>by cases h),.nil,rfl⟩
 |_,_,ls,.cons (d:=d) r t,e=>by
  cases d with
  |list xs=>
   unfold VL at e
   cases z:VL _ with
   |none=>rw[z] at e;cases e
   |some cs=>
    rw[z] at e;cases e;obtain ⟨rs,rfl,h1,h2,h3⟩:=Eh t z;obtain ⟨a,ws,rfl,h,rr⟩:=r.lst_inv;refine ⟨(a,ws)::rs,rfl,λp hp=>?_,?_,congrArg (· + 1) h3⟩
    ·rcases Q0.1 hp with rfl|hp
     ·exact h
     ·exact h1 p hp
    ·rw[QA,QN,QN]
     exact rr.append h2
  |_=>cases e
theorem jE(ls:List (List D)):VL (ls.map UK)=some ls:=by
 induction ls with
 |nil=>rfl
 |cons b r ih=>rw[QA,VL,ih];rfl
def Pn:List D->Option D
 |[.list ds,.list []]=>(match VL ds with
  |some ls=>if ls.flatten.length<=1000000 then some (.list ls.flatten) else none
  |none=>none)
 |_=>none
theorem qK{xs:List D}{d:D}(h:Pn xs=some d):∃ds ls,xs=[.list ds,.list []]/\VL ds=some ls/\ls.flatten.length<=1000000/\d=.list ls.flatten:=by
 unfold Pn at h
 split at h
 ·rename_i ds
  cases z:VL ds with
  |none=>rw[z] at h;cases h
  |some ls=>
   rw[z] at h;dsimp only at h
   split at h
   ·rename_i c
    cases h;exact ⟨ds,ls,rfl,z,c,rfl⟩
   ·cases h
 ·cases h
theorem E3(hc:X.calm=true):XT X (.builtin "sum") Pn:=by
 refine ⟨_,qL hc,λvs G H ds d Q s r e k=>?_⟩;obtain ⟨ds,ls,rfl,z,c,rfl⟩:=qK e;obtain ⟨v,v',rfl,q1,q2⟩:=r.two_inv;obtain ⟨l,ws,rfl,h1,r1⟩:=q1.lst_inv;obtain ⟨a,ws2,rfl,h2,r2⟩:=q2.lst_inv
 have:=r2.nil_inv
 subst this;obtain ⟨rs,rfl,g1,g2,g3⟩:=Eh r1 z;refine ⟨l,a,rs,rfl,s.seq h1,λp hp=>s.seq (g1 p hp),s.seq h2,?_,λe0=>?_,λp hp=>?_⟩
 ·rw[g2.length];exact QT c lim
 ·subst e0
  have:ls=[]:=List.eq_nil_of_length_eq_zero g3.symm
  subst this;exact k _ G H (.refl s) (.lst h2 .nil)
 ·exact k _ _ _ (.new s hp) (.lst (SqL.of Yx) (g2.mono (Yw (s.free hp))))
end
section
variable{X:Cx}
def YD(ns:List Int):List Int:=ns.mergeSort λa b=>decide (a<=b)
theorem Wt(ns:List Int):(YD ns).Perm ns:=List.mergeSort_perm ..
theorem Fz(ns:List Int):(YD ns).Pairwise (· <= ·):=by
 have:=List.pairwise_mergeSort (le:=λa b:Int=>decide (a<=b)) (by intro a b c;simp;omega) (by intro a b;simp;omega) ns
 exact this.imp (by simp)
theorem HU:∀{a b:List Int},a.Perm b->a.Pairwise (· <= ·)->b.Pairwise (· <= ·)->a=b
 |[],b,p,_,_=>by rw[List.nil_perm.1 p]
 |x::a,[],p,_,_=>by have:=p.length_eq;simp at this
 |x::a,y::b,p,ha,hb=>by
  have hx:y<=x:=by
   rcases Q0.1 (p.mem_iff.1 (Qn ..)) with e|e
   ·exact Int.le_of_eq e.symm
   ·exact (JA.1 hb).1 x e
  have hy:x<=y:=by
   rcases Q0.1 (p.mem_iff.2 (Qn ..)) with e|e
   ·exact Int.le_of_eq e.symm
   ·exact (JA.1 ha).1 y e
  have e:=Ue hy hx;subst e;rw[HU (List.Perm.cons_inv p) (JA.1 ha).2 (JA.1 hb).2]
theorem Fy:∀{us:List Uy}{ns:List Int},PyProof.Rows.IntsAre us ns->Vals (ns.map V.int) us
 |_,_,.nil=>Paired.nil
 |_,_,.cons n t h=>Paired.cons ⟨t,rfl⟩ (Fy h)
theorem jD:XJ X (.builtin "sorted") (λxs H Q=>∃l,∃ns:List Int,xs=[.ref l]/\SqL X.K H l (ns.map V.int)/\ns.length<64/\∀p,H p=none->Q (.ref p) (upd H p (.lst ((YD ns).map V.int)))):=by
 intro pins s σ H xs us Q I rx h;obtain ⟨l,ns,rfl,hq,hb,q⟩:=h;obtain ⟨u,rfl,ru⟩:=rx.one;cases ru;obtain ⟨its,rv,p,hz⟩:=I.list hq;have hi:=Sg rv;have hn:its.length=ns.length:=by have:=rv.length;rw[Qb] at this;omega
 refine sorted_ints p.isList hi (by omega) λout ns' a1 a2 a3=>?_
 obtain ⟨e,he⟩:=sortedAll_at s.heap its out;have en:ns'=YD ns:=HU (a2.trans (Wt ns).symm) a3 (Fz ns);subst en;refine ⟨.ref (s.heap.objs.size+1),_,I.laid (t':=s.toks) (λb o=>sortedAll_old) (J7 _) (show Y4 X.prog X.w _ _ _ (.lst ((YD ns).map V.int)) from ⟨?_,out.toList,e,Fy a1,he⟩),rfl,q _ (I.hok.fresh (J7 _))⟩
 rw[Qb,(Wt ns).length_eq];rw[Qb] at hz;exact hz
def Sx:List D->Option D
 |[.list ds]=>(match Y1 ds with
  |some ns=>if ns.length<64 then some (.list ((YD ns).map .int)) else none
  |none=>none)
 |_=>none
theorem jC{xs:List D}{d:D}(h:Sx xs=some d):∃ds ns,xs=[.list ds]/\Y1 ds=some ns/\ns.length<64/\d=.list ((YD ns).map .int):=by
 unfold Sx at h
 split at h
 ·rename_i ds
  cases z:Y1 ds with
  |none=>rw[z] at h;cases h
  |some ns=>
   rw[z] at h;dsimp only at h
   split at h
   ·rename_i c
    cases h;exact ⟨ds,ns,rfl,z,c,rfl⟩
   ·cases h
 ·cases h
theorem Fx{K:Frag}{G:Hp}:∀ns:List Int,Reps K G (ns.map V.int) (ns.map int)
 |[]=>.nil
 |n::r=>.cons (.int n) (Fx r)
theorem C9:XT X (.builtin "sorted") Sx:=by
 refine ⟨_,jD,λvs G H ds d Q s r e k=>?_⟩;obtain ⟨ds,ns,rfl,z,c,rfl⟩:=jC e;obtain ⟨v,rfl,q1⟩:=r.one_inv;obtain ⟨l,ws,rfl,h1,r1⟩:=q1.lst_inv
 have:=SJ r1 z
 subst this;exact ⟨l,ns,rfl,s.seq h1,c,λp hp=>k _ _ _ (.new s hp) (.lst (SqL.of Yx) (Fx _))⟩
theorem jd{ns:List Int}(h:ns.length<64):Sx [.list (ns.map .int)]=some (.list ((YD ns).map .int)):=by
 unfold Sx;simp only[SH,Ql h]
end
@[simp] theorem mBind_ok{α β:Type}{f:M α}{k:α->M β}{Z Z':UR}{x:α}(h:f Z=.ok x Z'):Kr f k Z=k x Z':=by unfold Kr;rw[h]
theorem Fw{s:D->UR->Option UR}{g:SM}{P:Nat->UR->Prop}{R:Out->Prop}:∀(ds:List D)(n:Nat)(Z:UR),P n Z ->
  (∀i d Z,ds[i]?=some d->P (n+i) Z->∃Z1,s d Z=some Z1/\((∃Z2,(g Z1=.nx Z2∨g Z1=.ct Z2)/\P (n+i+1) Z2)∨(∃x,g Z1=.rt x/\R (.rt x))∨(∃Z2,g Z1=.bk Z2/\R (.nx Z2)) ∨ ∃Z2 x,g Z1=.ex Z2 x/\R (.ex Z2 x)))->(∀Z,P (n+ds.length) Z->R (.nx Z))->R (TR s g ds Z)
 |[],n,Z,h,_,f=>f Z h
 |d::r,n,Z,h,st,f=>by
  obtain ⟨Z1,e1,e2⟩:=st 0 d Z rfl h;rw[TR,e1];dsimp only;rcases e2 with ⟨Z2,e2,h2⟩|⟨x,e2,h2⟩|⟨Z2,e2,h2⟩|⟨Z2,x,e2,h2⟩
  ·have goal:=Fw (R:=R) r (n+1) Z2 h2 (λi d' Z3 q p=>by
    have e:n+1+i=n+(i+1):=by omega
    rw[e] at p ⊢;exact st (i+1) d' Z3 (by simpa using q) p) (λZ3 p=>f Z3 (by
    have e:n+1+r.length=n+(d::r).length:=by rw[QF];omega
    rw[e] at p;exact p))
   rcases e2 with e2|e2 <;> (rw[e2];exact goal)
  ·rw[e2];exact h2
  ·rw[e2];exact h2
  ·rw[e2];exact h2
theorem Sh{lo hi:Int}{i:Nat}{d:D}(h:(YM lo hi)[i]?=some d):d=.int (lo+i)/\(i:Int)<hi-lo:=by
 have hl:i<(YM lo hi).length:=(Qg.mp h).1;rw[Vc] at hl;unfold YM at h;rw[Qd,Qe (by rw[Qq];exact hl),JP] at h
 cases h;exact ⟨rfl,by omega⟩
theorem E2{α:Type}{xs:List α}{i:Int}{v:α}(h0:0<=i)(h:xs[i.toNat]?=some v):atI xs i=some v:=by
 have:=ZD (xs:=xs) (j:=i.toNat) h
 rw[Int.toNat_of_nonneg h0] at this;exact this
section
variable{α β:Type}{Z Z1 Z2 Z3 Z':UR}{f g h:M D}
theorem U6{a:α}:U1 a Z=.ok a Z:=rfl
theorem U7:UT Z=.ok [] Z:=rfl
theorem Y5{o:Option α}{a:α}(h:o=some a):Ks o Z=.ok a Z:=by subst h;rfl
theorem Zq{f:M α}{k:α->M β}{x:α}{r:Res β}(h:f Z=.ok x Z1)(h2:k x Z1=r):Kr f k Z=r:=by unfold Kr;rw[h];exact h2
theorem KP{f:M α}{k:α->β}{x:α}(h:f Z=.ok x Z1):Ka k f Z=.ok (k x) Z1:=by unfold Ka Kr;rw[h];rfl
theorem UU{i:Nat}{d:D}(h:Z[i]?=some (some (.pub d))):UN i Z=.ok d Z:=by unfold UN;rw[h]
theorem Yh{i:Nat}{ds:List D}(h:Z[i]?=some (some (.own ds)))(h2:Z.set i (some (.pub (.list ds)))=Z'):UN i Z=.ok (.list ds) Z':=by unfold UN;rw[h];subst h2;rfl
theorem Kk{op:D->D->Option β}{x y:D}{r:β}(h1:f Z=.ok x Z1)(h2:g Z1=.ok y Z2)(h3:op x y=some r):U3 op f g Z=.ok r Z2:=by
 unfold U3;exact Zq h1 (Zq h2 (Y5 h3))
theorem UZ{g:M (List D)}{x:D}{xs:List D}(h1:f Z=.ok x Z1)(h2:g Z1=.ok xs Z2):UY f g Z=.ok (x::xs) Z2:=by
 unfold UY;exact Zq h1 (Zq h2 rfl)
theorem Xs{g:M (List D)}{xs:List D}(h1:g Z=.ok xs Z1)(h2:xs.length<=1000000):Ze g Z=.ok (.tuple xs) Z1:=by
 unfold Ze;exact Zq h1 (by rw[Ql h2];rfl)
theorem Z7{g:M (List D)}{xs:List D}(h1:g Z=.ok xs Z1)(h2:xs.length<=1000000):KR g Z=.ok (.list xs) Z1:=by
 unfold KR;exact Zq h1 (by rw[Ql h2];rfl)
theorem T5{g:M (List D)}{xs:List D}(h1:g Z=.ok xs Z1)(h2:xs.length<=1000000):(Kr g λxs=>if xs.length<=1000000 then U1 xs else λ_=>.bad) Z=.ok xs Z1 :=
 Zq h1 (by rw[Ql h2];rfl)
theorem K7{i:Nat}{d y r:D}(h:Z[i]?=some (some (.pub d)))(h1:g Z=.ok y Z1)(h2:oIx d y=some r):Ki i g Z=.ok r Z1:=by
 unfold Ki;rw[h];exact Zq h1 (Y5 h2)
theorem OX{i:Nat}{ds es:List D}{y r:D}(h:Z[i]?=some (some (.own ds)))(h1:g Z=.ok y Z1)(h3:Z1[i]?=some (some (.own es)))(h2:oIx (.list es) y=some r):Ki i g Z=.ok r Z1:=by
 unfold Ki;rw[h];exact Zq h1 (by rw[h3];exact Y5 h2)
theorem Yg{p:List D->Option D}{g:M (List D)}{xs:List D}{r:D}(h1:g Z=.ok xs Z1)(h2:p xs=some r):ZN p g Z=.ok r Z1:=by
 unfold ZN;exact Zq h1 (Y5 h2)
theorem Ky{n:Nat}{F:List D->Option D}{g:M (List D)}{xs:List D}{r:D}(h1:g Z=.ok xs Z1)(h2:xs.length=n)(h3:F xs=some r):U5 n F g Z=.ok r Z1:=by
 unfold U5;exact Zq h1 (by rw[Ql h2];exact Y5 h3)
theorem Vz{i:Int}(h1:f Z=.ok (.int i) Z1):Z6 f Z=.ok (.int (-i)) Z1:=by
 unfold Z6;exact Zq h1 rfl
theorem Ye{i:Nat}{d r:D}(h:Z[i]?=some (some (.pub d)))(h2:Ku [d]=some r):ZM i Z=.ok r Z:=by
 unfold ZM;rw[h];exact Y5 h2
theorem C8{i:Nat}{ds:List D}(h:Z[i]?=some (some (.own ds))):ZM i Z=.ok (.int ds.length) Z:=by
 unfold ZM;rw[h]
theorem T4{g:M (List D)}{i:Int}{r:List D}(h1:g Z=.ok [.int i] Z1)(h2:Pk [.int i]=some r):W3 g Z=.ok r Z1:=by
 unfold W3;exact Zq h1 (Y5 h2)
theorem HS{g:M (List D)}{i j:Int}{r:List D}(h1:g Z=.ok [.int i,.int j] Z1)(h2:Pj [.int i,.int j]=some r):PQ g Z=.ok r Z1:=by
 unfold PQ;exact Zq h1 (Y5 h2)
theorem XQ{g:M (List D)}{xs r:List D}(h1:g Z=.ok xs Z1)(h2:P0 xs=some r):Xc g Z=.ok r Z1:=by
 unfold Xc;exact Zq h1 (Y5 h2)
theorem Xy{i:Int}(h1:f Z=.ok (.int i) Z1):(Kr f λx=>Ks (Y2 x)) Z=.ok (some i) Z1:=Zq h1 rfl
theorem XV{f:M Bool}{t:Bool}(h1:f Z=.ok t Z1):Zu f Z=.ok (!t) Z1:=KP h1
theorem XY{t:Bool}(h1:f Z=.ok (.bool t) Z1):YF f Z=.ok t Z1:=by unfold YF;exact Zq h1 rfl
theorem E1{f g:M Bool}{t u:Bool}(h1:f Z=.ok t Z)(h2:t=true->g Z=.ok u Z):ZZ f g Z=.ok (t&&u) Z:=by
 unfold ZZ;refine Zq h1 ?_
 cases t with
 |true=>rw[Ql rfl];exact h2 rfl
 |false=>rfl
theorem O5{t u:Bool}(h1:f Z=.ok (.bool t) Z)(h2:t=true->g Z=.ok (.bool u) Z):WU f g Z=.ok (.bool (t&&u)) Z:=by
 unfold WU;refine Zq h1 ?_
 cases t with
 |true=>exact h2 rfl
 |false=>rfl
theorem NU{t u:Bool}(h1:f Z=.ok (.bool t) Z)(h2:t=false->g Z=.ok (.bool u) Z):WA f g Z=.ok (.bool (t || u)) Z:=by
 unfold WA;refine Zq h1 ?_
 cases t with
 |false=>exact h2 rfl
 |true=>rfl
theorem HR{t:Bool}(h1:f Z=.ok (.bool t) Z1):PV f Z=.ok (.bool (!t)) Z1:=by unfold PV;exact Zq h1 rfl
theorem NT{f:M Bool}{g h:M α}{r:Res α}(h1:f Z=.ok true Z1)(h2:g Z1=r):mIf f g h Z=r:=by unfold mIf;exact Zq h1 (by rw[Ql rfl];exact h2)
theorem OW{f:M Bool}{g h:M α}{r:Res α}(h1:f Z=.ok false Z1)(h2:h Z1=r):mIf f g h Z=r:=by unfold mIf;exact Zq h1 (by rw[Qs (by decide)];exact h2)
theorem EG{f:M Bool}{g h:M α}{t:Bool}{x y:α}(h1:f Z=.ok t Z1)(h2:g Z1=.ok x Z1)(h3:h Z1=.ok y Z1):mIf f g h Z=.ok (if t=true then x else y) Z1:=by
 unfold mIf;refine Zq h1 ?_;cases t with
 |true=>rw[Ql rfl,Ql rfl];exact h2
 |false=>rw[Qs (by decide),Qs (by decide)];exact h3
theorem Nd{p q:D->D->Option Bool}{x y z:D}{t u:Bool}(h1:f Z=.ok x Z)(h2:g Z=.ok y Z)(h3:p x y=some t)(h4:t=true->h Z=.ok z Z)(h5:t=true->q y z=some u):T2 p q f g h Z=.ok (t&&u) Z:=by
 unfold T2;refine Zq h1 (Zq h2 (Zq (Y5 h3) ?_))
 cases t with
 |true=>rw[Ql rfl];exact Zq (h4 rfl) (Y5 (h5 rfl))
 |false=>rfl
theorem ZH{i j:Int}:Kh (.int i) (.int j)=some (.int (i+j)):=rfl
theorem XX{x y:List D}(h:x.length+y.length<=1000000):Kh (.list x) (.list y)=some (.list (x++y)):=by unfold Kh;exact Ql h
theorem Xp{i j:Int}:Zk (.int i) (.int j)=some (.int (i-j)):=rfl
theorem Oj{i j:Int}(h1 : -18446744073709551616<i)(h2:i<18446744073709551616):KY (.int i) (.int j)=some (.int (i*j)):=by unfold KY Y6;exact Ql (.inl ⟨by omega,by omega⟩)
theorem PH{i j:Int}(h1 : -18446744073709551616<j)(h2:j<18446744073709551616):KY (.int i) (.int j)=some (.int (i*j)):=by unfold KY Y6;exact Ql (.inr ⟨by omega,by omega⟩)
theorem OD{x:List D}{k:Int}(h : -1000000<=k/\k<=1000000/\x.length*k.toNat<=1000000):KY (.list x) (.int k)=some (.list (UJ k.toNat x).flatten):=by unfold KY;exact Ql h
theorem Wp{i j:Int}(h:0<j):ZL (.int i) (.int j)=some (.int (i % j)):=by unfold ZL V7;exact Ql h
theorem HQ{i j:Int}(h:0<j)(h2:j<18446744073709551616):Vj (.int i) (.int j)=some (.int (i / j)):=by unfold Vj V8;exact Ql ⟨h,h2⟩
theorem C7{i j:Int}(h:0<=j/\j<=1000000/\i.natAbs<2 ^ 64):Vh (.int i) (.int j)=some (.int (i ^ j.toNat)):=by unfold Vh V6;exact Ql h
theorem Wf{i j:Int}:oEq (.int i) (.int j)=some (decide (i=j)):=by
 unfold oEq;rw[if_pos ⟨rfl,rfl,by simp[UP]⟩];congr 1
theorem ZR{xs:List D}:Ku [.list xs]=some (.int xs.length):=rfl
theorem HP{i j:Int}:PR [.int i,.int j]=some (.int (if j > i then j else i)):=rfl
theorem So{j:Int}(h1:j<=1000000)(h2 : -1000000<=j):Pk [.int j]=some (YM 0 j):=by unfold Pk;exact Ql ⟨h1,h2⟩
theorem Gs{i j:Int}(h1:j<=1000000)(h2 : -1000000<=j)(h3:i<=1000000)(h4 : -1000000<=i):Pj [.int i,.int j]=some (YM i j):=by unfold Pj;exact Ql ⟨h1,h2,h3,h4⟩
theorem XN{xs:List D}:P0 [.list xs]=some (YY 0 xs):=rfl
theorem K0{i:Nat}{d:D}(h1:f Z=.ok d Z1)(h2:i<Z1.length)(h3:Z1.set i (some (.pub d))=Z'):Km i f Z=.nx Z':=by
 unfold Km Z9 sB gN;rw[h1];dsimp only;rw[if_pos h2];subst h3;rfl
theorem Yt{i:Nat}{f:M (List D)}{ds:List D}(h1:f Z=.ok ds Z1)(h2:i<Z1.length)(h3:Z1.set i (some (.own ds))=Z'):ZC i f Z=.nx Z':=by
 unfold ZC sB;rw[h1];dsimp only;rw[if_pos h2];subst h3;rfl
theorem W4{i:Nat}{d:D}{ds0 ds:List D}(h0:Z[i]?=some (some (.own ds0)))(h1:f Z=.ok d Z1)(h2:Z1[i]?=some (some (.own ds)))(h3:ds.length<1000000)(h4:Z1.set i (some (.own (ds++[d])))=Z'):Yy i f Z=.nx Z':=by
 unfold Yy sB;rw[h0];dsimp only;rw[h1];dsimp only;rw[h2];dsimp only;rw[if_pos h3];subst h4;rfl
theorem Vy{d:D}{s:D->UR->Option UR}(h1:f Z=.ok d Z1)(h2:s d Z1=some Z'):Z9 f s Z=.nx Z':=by
 unfold Z9 sB;rw[h1];dsimp only;rw[h2]
theorem W9{d:D}(h1:f Z=.ok d Z1):Wb f Z=.nx Z1:=by unfold Wb sB;rw[h1]
theorem U4{i:Nat}{d:D}(h:i<Z.length)(h2:Z.set i (some (.pub d))=Z'):gN i d Z=some Z':=by unfold gN;rw[Ql h,h2]
theorem KL:gN0 [] Z=some Z:=rfl
theorem Kc{s:D->UR->Option UR}{t:List D->UR->Option UR}{d:D}{r:List D}(h1:s d Z=some Z1)(h2:t r Z1=some Z'):gNC s t (d::r) Z=some Z':=by unfold gNC;dsimp only;rw[h1];exact h2
theorem KK{n:Nat}{t:List D->UR->Option UR}{ds:List D}(h1:ds.length=n)(h2:t ds Z=some Z'):gT n t (.tuple ds) Z=some Z':=by unfold gT;dsimp only;rw[if_pos h1];exact h2
structure Ho(g:SM)(Z:UR)(Q:Out->Prop):Prop where
 out:Q (g Z)
def EF(h:SM)(Q:Out->Prop):Out->Prop
 |.nx Z'=>Ho h Z' Q
 |o=>Q o
structure NJ(h:SM)(Q:Out->Prop)(o:Out):Prop where
 out:EF h Q o
variable{Q:Out->Prop}{s t u:SM}
theorem KU(h:Ho s Z (NJ t Q)):Ho (U2 s t) Z Q:=by
 have h:=h.out.out;constructor;unfold U2
 cases e:s Z with
 |nx o=>rw[e] at h;exact h.out
 |_=>rw[e] at h;exact h
theorem Kx(h1:s Z=.nx Z1)(h2:Ho t Z1 Q):Ho (U2 s t) Z Q:=by
 constructor;unfold U2;rw[h1];exact h2.out
theorem ZW{o:Out}(h1:s Z=o)(h2:Q o):Ho s Z Q:=by constructor;rw[h1];exact h2
theorem K4(h:Q (.nx Z)):Ho sNx Z Q:=⟨h⟩
theorem KQ{o:UR}(h:Ho t o Q):NJ t Q (.nx o):=⟨h⟩
theorem Xe{d:D}(h:Q (.rt d)):NJ t Q (.rt d):=⟨h⟩
theorem KM{f:M Bool}{b:Bool}(h1:f Z=.ok b Z1)(h2:b=true->Ho s Z1 Q)(h3:b=false->Ho t Z1 Q):Ho (sIf f s t) Z Q:=by
 constructor;unfold sIf sB;rw[h1];dsimp only
 cases b with
 |true=>rw[Ql rfl];exact (h2 rfl).out
 |false=>rw[Qs (by decide)];exact (h3 rfl).out
theorem KI{d:D}(h1:f Z=.ok d Z1)(h2:Q (.rt d)):Ho (U9 f) Z Q:=by constructor;unfold U9 sB;rw[h1];exact h2
theorem HN{P:Out->Prop}(h:Ho s Z P)(k:∀o,P o->Q o):Ho s Z Q:=⟨k _ h.out⟩
def EE(I:UR->Prop)(Q:Out->Prop):Out->Prop
 |.nx Z | .ct Z=>I Z
 |.bk Z=>Q (.nx Z)
 |.rt d=>Q (.rt d)
 |.ex Z d=>Q (.ex Z d)
 |.bad=>False
structure Sr(I:UR->Prop)(Q:Out->Prop)(o:Out):Prop where
 out:EE I Q o
theorem ZB{I:UR->Prop}(h:I Z):Sr I Q (.nx Z):=⟨h⟩
theorem VD{I:UR->Prop}{d:D}(h:Q (.rt d)):Sr I Q (.rt d):=⟨h⟩
theorem Yj{f:M (List D)}{tg:D->UR->Option UR}{ds:List D}(I:Nat->UR->Prop)(h1:f Z=.ok ds Z1)(h0:I 0 Z1)
  (hst:∀i d Z,ds[i]?=some d->I i Z->∃Z2,tg d Z=some Z2/\Ho s Z2 (Sr (I (i+1)) Q)) (hend:∀Z,I ds.length Z->Q (.nx Z)):Ho (KZ f tg s) Z Q:=by
 constructor;unfold KZ sB;rw[h1];dsimp only
 refine Fw (P:=I) (R:=Q) ds 0 Z1 h0 (λi d Z e p=>?_) (λZ p=>hend Z (by rw[QU] at p;exact p))
 rw[QU] at p;obtain ⟨Z2,e2,q⟩:=hst i d Z e p;refine ⟨Z2,e2,?_⟩;rw[QU];have q:=q.out.out
 cases z:s Z2 with
 |nx o=>rw[z] at q;exact .inl ⟨o,.inl rfl,q⟩
 |ct o=>rw[z] at q;exact .inl ⟨o,.inr rfl,q⟩
 |rt o=>rw[z] at q;exact .inr (.inl ⟨o,rfl,q⟩)
 |bk o=>rw[z] at q;exact .inr (.inr (.inl ⟨o,rfl,q⟩))
 |ex o x=>rw[z] at q;exact .inr (.inr (.inr ⟨o,x,rfl,q⟩))
 |bad=>rw[z] at q;exact q.elim
theorem WW{N:List Str}{ds:List D}{P:D->Prop}(h0:Ws N ds=Z)(h:Ho s Z λo=>∃d,o=.rt d/\P d):∃d,Kn N s ds=some d/\P d:=by
 subst h0;obtain ⟨d,e,p⟩:=h.out;refine ⟨d,?_,p⟩;unfold Kn;rw[e]
theorem Zp{N:List Str}{ds:List D}{d:D}(h0:Ws N ds=Z)(h:Ho s Z λo=>o=.rt d):Kn N s ds=some d:=by
 obtain ⟨d',e,p⟩:=WW (P:=λx=>x=d) h0 (HN h λo e=>⟨d,e,rfl⟩);rw[e,p]
end
section
variable{α β:Type}{Z Z1 Z2 Z3 Z':UR}{f g h:M D}
theorem VJ{l u:M (Option Int)}{x r:D}{a b:Option Int}(h1:f Z=.ok x Z1)(h2:l Z1=.ok a Z2)(h3:u Z2=.ok b Z3)(h4:XB x a b=some r):Yz f l u Z=.ok r Z3:=by
 unfold Yz;exact Zq h1 (Zq h2 (Zq h3 (Y5 h4)))
theorem Wr{f g:M Bool}{u:Bool}(h1:f Z=.ok false Z1)(h2:g Z1=.ok u Z2):mOr f g Z=.ok u Z2:=by unfold mOr;exact Zq h1 (by rw[Qs (by decide)];exact h2)
theorem Pw{f g:M Bool}(h1:f Z=.ok false Z1):ZZ f g Z=.ok false Z1:=by unfold ZZ;exact Zq h1 rfl
theorem Pv{f g:M Bool}{u:Bool}(h1:f Z=.ok true Z1)(h2:g Z1=.ok u Z2):ZZ f g Z=.ok u Z2:=by unfold ZZ;exact Zq h1 (by rw[Ql rfl];exact h2)
theorem Sn{c:String}{d:D}{t:Bool}(h:f Z=.ok d Z1)(ht:(!Zh d c)=t):Zu (YF (Ka (λd=>.bool (Zh d c)) f)) Z=.ok t Z1:=by
 subst ht;exact XV (XY (KP (k:=λd=>UL (Zh d c)) h))
theorem Yl{x:D}{r:List D}(h1:f Z=.ok x Z1)(h2:Me x=some r):Zt f Z=.ok r Z1:=by
 unfold Zt;exact Zq h1 (Y5 h2)
theorem ZO{p:D->D->Option β}{i:Nat}{d y:D}{r:β}(h:Z[i]?=some (some (.pub d)))(h1:g Z=.ok y Z1)(h2:p d y=some r):Zz p i g Z=.ok r Z1:=by
 unfold Zz;rw[h];exact Zq h1 (Y5 h2)
theorem BY{p:D->D->Option β}{i:Nat}{ds es:List D}{y:D}{r:β}(h:Z[i]?=some (some (.own ds)))(h1:g Z=.ok y Z1)(h3:Z1[i]?=some (some (.own es)))(h2:p (.list es) y=some r):Zz p i g Z=.ok r Z1:=by
 unfold Zz;rw[h];exact Zq h1 (by rw[h3];exact Y5 h2)
theorem Ys{f:M (List D)}{k:Nat}{s:D->UR->Option UR}{t:M Bool}{ds es:List D}(h1:f Z=.ok ds Z1)(h2:Zs s t g ds (KJ Z1++UJ k none) []=some es):ZS f k s t g Z=.ok es Z1:=by
 unfold ZS;rw[h1];dsimp only;rw[h2]
theorem Se{s:D->UR->Option UR}{t:M Bool}(p:D->Bool)(q:D->D)(I:UR->Prop):∀(ds:List D)(Z:UR)(es:List D),(∀d∈ds,∀Z,I Z->∃Z1,s d Z=some Z1/\t Z1=.ok (p d) Z1/\(p d=true->g Z1=.ok (q d) Z1)/\I (KJ Z1))->I Z->es.length+ds.length<=1000000 ->
  Zs s t g ds Z es=some (es++(ds.filter p).map q)
 |[],Z,es,_,_,_=>by rw[Zs];simp
 |d::r,Z,es,st,h0,hz=>by
  obtain ⟨Z1,e1,e2,e3,h1⟩:=st d Qn Z h0;have ih:=λes' hz'=>Se p q I r (KJ Z1) es' (λd' hd=>st d' (Qk _ hd)) h1 hz';rw[QF] at hz;rw[Zs,e1];dsimp only;rw[e2];dsimp only
  cases hp:p d with
  |true=>
   rw[Ql rfl,e3 hp];dsimp only;rw[Ql (by omega),ih _ (by rw[Qj,Ji];omega),List.filter_cons_of_pos hp,QA,Jg]
   rfl
  |false=>
   rw[Qs (by decide),ih _ (by omega),List.filter_cons_of_neg (by rw[hp];decide)]
theorem Sc{j:Nat}{d:D}{k:Int}{ds0 ds:List D}(h1:f Z=.ok d Z1)(h0:Z1[j]?=some (some (.own ds0)))(h2:g Z1=.ok (.int k) Z2)(h3:Z2[j]?=some (some (.own ds)))(h4:0<=k/\k<ds.length)(h5:Z2.set j (some (.own (ds.set k.toNat d)))=Z'):W0 j g f Z=.nx Z':=by
 unfold W0 sB;rw[h1];dsimp only;rw[h0];dsimp only;rw[h2];dsimp only;rw[h3];dsimp only;rw[if_pos h4];subst h5;rfl
theorem VR{xs:List D}{a b:Option Int}:XB (.list xs) a b=some (.list (DL.cutD xs a b)):=rfl
theorem YZ{xs:List D}:Me (.list xs)=some xs:=rfl
theorem kn(bs:List Bool):T7 (bs.map UL)=some bs:=by
 induction bs with
 |nil=>rfl
 |cons b r ih=>rw[QA,T7,ih];rfl
theorem HM{bs:List Bool}:YU [.list (bs.map UL)]=some (.bool (bs.all id)):=by unfold YU;dsimp only;rw[kn];rfl
end
section
variable{α β:Type}{Z Z1 Z2 Z3 Z4 Z':UR}{f g h:M D}{s:SM}
theorem P9{g:M (List D)}{xs r:List D}(h1:g Z=.ok xs Z1)(h2:Vg xs=some r):Xj g Z=.ok r Z1:=by unfold Xj;exact Zq h1 (Y5 h2)
theorem NO{l u t:M (Option Int)}{xs:List D}(h1:f Z=.ok (.list xs) Z1)(h2:l Z1=.ok none Z2)(h3:u Z2=.ok none Z3)(h4:t Z3=.ok (some (-1)) Z4):WB f l u t Z=.ok (.list xs.reverse) Z4:=by
 unfold WB;exact Zq h1 (Zq h2 (Zq h3 (Zq h4 (Y5 (by unfold V1;exact Ql rfl)))))
theorem SB{i:Nat}{d:D}{ds:List D}(h:Z[i]?=some (some (.pub d)))(h2:Wa [d]=some ds):Wi i Z=.ok ds Z:=by unfold Wi;rw[h];exact Y5 h2
theorem P8{N:List Str}{ds:List D}(h0:Ws N ds=Z)(h:Ho s Z λo=>∃Z',o=.nx Z'):Kn N s ds=some .none:=by
 subst h0;obtain ⟨Z',e⟩:=h.out;unfold Kn;rw[e]
theorem Sb{i j:Int}:oNe (.int i) (.int j)=some (!decide (i=j)):=by
 unfold oNe;rw[if_pos ⟨rfl,rfl,by simp[UP]⟩];congr 1
theorem MD{xs:List Int}{j:Nat}{v:Int}:(xs.map int).set j (.int v)=(xs.set j v).map int:=by rw[List.map_set]
theorem MC{xs:List Int}{a b:Int}(ha:0<=a)(hb:0<=b)(hl:b<=xs.length):DL.cutD (xs.map int) (some a) (some b)=((xs.drop a.toNat).take (b.toNat-a.toNat)).map int:=by
 unfold DL.cutD HT.sIx;dsimp only;rw[Qs (by omega),Qs (by omega),Qb,List.map_take,List.map_drop]
 have e2:min b.toNat xs.length=b.toNat:=by omega
 rw[e2]
 by_cases hab:a.toNat<=xs.length
 ·have e1:min a.toNat xs.length=a.toNat:=by omega
  rw[e1]
 ·have e3:b.toNat-a.toNat=0:=by omega
  have e4:b.toNat-min a.toNat xs.length=0:=by omega
  rw[e3,e4,J4,J4]
theorem MU{xs ys:List Int}:ZV (xs.map int) (ys.map int)=(xs.zip ys).map λp=>.tuple [.int p.1,.int p.2]:=by
 unfold ZV;rw[List.zip_map,QP]
 rfl
end
section
variable{Z Z1:UR}
theorem Gr{g:M (List D)}{xs r:List D}(h1:g Z=.ok xs Z1)(h2:Pq xs=some r):OY g Z=.ok r Z1:=by
 unfold OY;exact Zq h1 (Y5 h2)
theorem Fv{xs:List D}:Pq [.list xs]=some (YY 1 xs):=rfl
end
section
variable{X:Cx}{B G0:Hp}{KX:XW}{e o a b c tg i:UD}{pos p2:Pos}{es rest:List UD}
def Wh(f:M Bool)(g:SM):Nat->SM
 |0,_=>.bad
 |n+1,Z=>match f Z with
  |.bad=>.bad
  |.ok t Z1=>if t=true then (match g Z1 with
   |.nx Z2=>Wh f g n Z2
   |.ct Z2=>Wh f g n Z2
   |.bk Z2=>.nx Z2
   |.rt d=>.rt d
   |.ex Z2 d=>.ex Z2 d
   |.bad=>.bad) else .nx Z1
theorem Gq{body:List Stmt}{f:M Bool}{g:SM}(n:Nat)(hp:PassesOwn (model X.prog X.w) X.A X.env X.xe)(hc:PT X c (tBo X.K B G0 f))(hb:PSs X body (tS X.K B G0 KX g)):PS X (.While c body [] pos) (tS X.K B G0 KX (Wh f g n)) :=
 Yn (AR hp hc hb) λDn σ H ⟨G,Z,k,a⟩=>by
  refine ⟨λm σ' H'=>∃G' Z',EOk X.K B G0 G' H' σ' Z'/\aftS X.K B G0 KX (Wh f g m Z') G' Dn,⟨n,G,Z,k,a⟩,?_⟩;rintro m σ' H' ⟨G',Z',k',a'⟩
  cases m with
  |zero=>exact a'.elim
  |succ m=>
   rw[Wh] at a';refine ⟨G',Z',k',?_⟩
   cases z:f Z' with
   |bad=>rw[z] at a';exact a'.elim
   |ok t Z1=>
    rw[z] at a';dsimp only at a';intro v G1 H1 k1 s1 e1;subst e1
    cases v with
    |false=>
     rw[Qs JJ] at a' ⊢;exact a' _ G1 H1 k1 s1
    |true=>
     rw[Ql rfl] at a' ⊢;refine ⟨λσ2 H2=>∃G2 Z2,EOk X.K B G0 G2 H2 σ2 Z2/\aftS X.K B G0 KX (Wh f g m Z2) G2 Dn,λσ2 H2 h2=>⟨m,Um m,h2⟩,G1,Z1,k1,?_⟩
     cases z2:g Z1 with
     |nx Z2=>rw[z2] at a';exact λσ4 G4 H4 k4 s4=>⟨G4,Z2,k4,aftS.mono (s1.trans s4) a'⟩
     |ct Z2=>rw[z2] at a';exact λσ4 G4 H4 k4 s4=>⟨G4,Z2,k4,aftS.mono (s1.trans s4) a'⟩
     |bk Z2=>rw[z2] at a';exact λσ4 G4 H4 k4 s4=>a' σ4 G4 H4 k4 (s1.trans s4)
     |rt d=>rw[z2] at a';exact a'
     |ex Z2 d=>rw[z2] at a';exact λv σ4 G4 H4 k4 s4 r4=>a' v σ4 G4 H4 k4 (s1.trans s4) r4
     |bad=>rw[z2] at a';exact a'.elim
def Ve(op:Int->Int->Option D)(j:Nat)(f:M D):SM:=λZ=>match Z[j]? with
 |some (some (.pub (.int a)))=>sB f (λy Z1=>match y with
  |.int b=>(match op a b with
   |some d=>if j<Z1.length then .nx (Z1.set j (some (.pub d))) else .bad
   |none=>.bad)
  |_=>.bad) Z
 |_=>.bad
def IpD(X:Cx)(op:Operator)(p:Int->Int->Option D):Prop:=∃ti,PIp X op ti/\∀i j d,p i j=some d->∃v:V,(∀G,Rep X.K G v d)/\∀H(Q:VK),Q v H->ti (.int i) (.int j) H Q
theorem Hf:IpD X .Add (λi j=>some (.int (i+j))):=⟨_,Co,λi j d e=>by cases e;exact ⟨_,λ_=>.int _,λH Q q=>⟨i,j,rfl,rfl,q⟩⟩⟩
theorem C6:IpD X .Mult Y6:=⟨_,CP,λi j d e=>by
 unfold Y6 at e
 split at e
 ·rename_i h
  cases e;exact ⟨_,λ_=>.int _,λH Q q=>⟨i,j,rfl,rfl,h,q⟩⟩
 ·cases e⟩
theorem EZ{j:Nat}{x:Str}{op:Operator}{p:Int->Int->Option D}{f:M D}{pos':Pos}(hN:X.N.Nodup)(hi:X.N[j]?=some x)(hx:Loc X.env.scope x)(ho:IpD X op p)(he:PE X e (tD X.K B G0 f))(hf:X.fn x=true∨X.env.scope.names.lookup x=some .local:=by first|exact .inl rfl|exact .inr rfl|assumption) :
  PS X (.AugAssign (.Name x pos') op e pos) (tS X.K B G0 KX (Ve p j f)):=by
 obtain ⟨ti,hti,hp⟩:=ho;refine Yn (Cp hN hi hx he hti hf) λDn σ H ⟨G,Z,k,a⟩=>?_;unfold Ve at a
 cases q:Z[j]? with
 |none=>rw[q] at a;exact a.elim
 |some o0=>
  cases o0 with
  |none=>rw[q] at a;exact a.elim
  |some sl=>
   cases sl with
   |deep _ _=>rw[q] at a;exact a.elim
   |own ds=>rw[q] at a;exact a.elim
   |pub d0=>
    rw[q] at a
    cases d0 with
    |int i0=>
     dsimp only at a;obtain ⟨v,h1,h2⟩:=k.pub j _ q;cases h2.int_inv;refine ⟨.int i0,h1,G,Z,k,?_⟩;unfold sB at a
     cases z:f Z with
     |bad=>rw[z] at a;exact a.elim
     |ok y Z1=>
      rw[z] at a;dsimp only at a;intro u G1 H1 k1 s1 r1
      cases y with
      |int i1=>
       cases r1.int_inv;dsimp only at a
       cases w:p i0 i1 with
       |none=>rw[w] at a;exact a.elim
       |some d=>
        rw[w] at a;dsimp only at a
        split at a
        ·rename_i hl
         obtain ⟨v',rv,hq⟩:=hp i0 i1 d w;exact hq H1 _ (a _ G1 H1 (k1.setPub (rv G1) hl) s1)
        ·exact a.elim
      |_=>exact a.elim
    |_=>exact a.elim
theorem BX:PGet X (λo i H Q=>∃p xs k v,o=.ref p/\i=.int k/\H p=some (.lst xs)/\atI xs k=some v/\Q v H):=by
 intro pins s σ H x y v u Q I rx ry h;obtain ⟨p,xs,k,z,rfl,rfl,hp,he,q⟩:=h;cases rx;obtain ⟨t,rfl⟩:=ry;obtain ⟨its,n,r,ho,hz⟩:=I.lst hp;obtain ⟨j,h1,h2,h3,h4,h5⟩:=O7 he;have hl:=r.length;have hn:=Sw;obtain ⟨w,ew,rw'⟩:=r.get h2;have fin:EP X pins σ Q w s:=⟨z,H,I,rw',q⟩;have il:s.heap.IsList p its.toArray:=⟨_,ho,rfl,⟨_,rfl⟩⟩
 by_cases h0:0<=k
 ·have hj:k.toNat=j:=by
   rw[seqIndex_of h0 h5] at h1;exact QX h1
  exact wpAny_getItem_list il h0 (by omega) (by rw[hj];simpa using ew) fin
 ·have hj:(k+(its.toArray.size:Int)).toNat=j:=by
   rw[seqIndex_neg (by omega) h4] at h1
   rw[QK,←hl];exact QX h1
  exact wpAny_getItem_list_neg il (by omega) (by rw[List.size_toArray,←hl];exact h4) (by omega) (by rw[hj];simpa using ew) fin
def Vw(Z:UR)(j:Nat):Option (List D):=match Z[j]? with
 |some (some (.own ds))=>some ds
 |_=>none
theorem Np{Z:UR}{j:Nat}{ds:List D}(h:Vw Z j=some ds):Z[j]?=some (some (.own ds)):=by
 unfold Vw at h
 split at h
 ·rename_i es e;cases h;exact e
 ·cases h
theorem MB{Z:UR}{j:Nat}{ds:List D}(h:Z[j]?=some (some (.own ds))):Vw Z j=some ds:=by unfold Vw;rw[h]
def TW(op:Int->Int->Option D)(j:Nat)(g f:M D):SM:=λZ=>match Vw Z j with
 |none=>.bad
 |some _=>sB g (λy Z1=>match y with
  |.int k=>(match (Vw Z1 j).bind (atI · k) with
   |some (.int a)=>sB f (λy2 Z2=>match y2 with
    |.int b=>(match op a b,Vw Z2 j with
     |some d,some es=>(match ixN es.length k with
      |some n=>.nx (Z2.set j (some (.own (es.set n d))))
      |none=>.bad)
     |_,_=>.bad)
    |_=>.bad) Z1
   |_=>.bad)
  |_=>.bad) Z
theorem He{j:Nat}{op:Operator}{p:Int->Int->Option D}{f g:M D}{tpos:Pos}(ho:PE X o (ZT j))(hi:PE X i (tD X.K B G0 g))(hp:IpD X op p)(he:PE X e (tD X.K B G0 f))
  (ha:∀ov iv new,augStore i ov iv new=(do holding [new,ov,iv] (setItem ov iv new);release [new,ov,iv] [];pure .next):=by intros;rfl):PS X (.AugAssign (.Subscript o i tpos) op e pos) (tS X.K B G0 KX (TW p j g f)):=by
 obtain ⟨ti,hti,hp⟩:=hp;refine Yn (CQ ho hi BX he hti AK ha) λDn σ H ⟨G,Z,k,a⟩=>?_;unfold TW at a
 cases q0:Vw Z j with
 |none=>rw[q0] at a;exact a.elim
 |some ds0=>
 rw[q0] at a;dsimp only at a;obtain ⟨ad,vs0,h1,h2,h3,h4,h5⟩:=k.own j ds0 (Np q0);refine ⟨.ref ad,h1,G,Z,k,?_⟩;unfold sB at a
 cases z:g Z with
 |bad=>rw[z] at a;exact a.elim
 |ok y Z1=>
 rw[z] at a;dsimp only at a;intro kv G1 H1 k1 s1 r1
 cases y with
 |int n=>
  cases r1.int_inv;dsimp only at a
  cases q1:Vw Z1 j with
  |none=>rw[q1] at a;exact a.elim
  |some ds1=>
  rw[q1] at a;dsimp only[Option.bind_some] at a
  cases q2:atI ds1 n with
  |none=>rw[q2] at a;exact a.elim
  |some d1=>
  rw[q2] at a;obtain ⟨ad1,vs1,g1,g2,g3,g4,g5⟩:=k1.own j ds1 (Np q1);rw[h1] at g1;cases g1;obtain ⟨v1,e1,rv1⟩:=g5.atI q2
  cases d1 with
  |int i0=>
   cases rv1.int_inv;dsimp only at a
   refine ⟨ad,vs1,n,.int i0,rfl,rfl,g4,e1,G1,Z1,k1,?_⟩
   cases z2:f Z1 with
   |bad=>rw[z2] at a;exact a.elim
   |ok y2 Z2=>
   rw[z2] at a;dsimp only at a;intro u G2 H2 k2 s2 r2
   cases y2 with
   |int i1=>
    cases r2.int_inv;dsimp only at a
    cases w:p i0 i1 with
    |none=>rw[w] at a;exact a.elim
    |some d=>
    cases q3:Vw Z2 j with
    |none=>rw[w,q3] at a;exact a.elim
    |some es=>
    rw[w,q3] at a;dsimp only at a;obtain ⟨ad2,vs2,f1,f2,f3,f4,f5⟩:=k2.own j es (Np q3);rw[h1] at f1;cases f1
    cases q4:ixN es.length n with
    |none=>rw[q4] at a;exact a.elim
    |some m=>
    rw[q4] at a;dsimp only at a;obtain ⟨v',rv,hq⟩:=hp i0 i1 d w;refine hq H2 _ ⟨ad,vs2,n,m,rfl,rfl,f4,by rw[f5.length];exact q4,?_⟩
    exact a σ G2 _ (k2.change (Np q3) h1 (f5.set (rv G2) m)) (s1.trans s2)
   |_=>exact a.elim
  |_=>exact a.elim
 |_=>exact a.elim
end
section
variable{X:Cx}{B G0:Hp}{KX:XW}
end
section
variable{X:Cx}{B G0:Hp}{e o a b c tg i:UD}{pos p2:Pos}{es rest:List UD}
theorem qh:MtR X "list.index" (λv vs H Q=>∃l k,∃ns:List Int,v=.ref l/\vs=[.int k]/\SqL X.K H l (ns.map V.int)/\PyData.layable0 (.list (ns.map .int))=true/\k∈ns/\Q (.int (ns.idxOf k:Nat)) H):=by
 intro pins s σ H x vs v us Q I rx rv h;obtain ⟨l,k,ns,rfl,rfl,hq,hl,hk,q⟩:=h;cases rx;obtain ⟨u,rfl,ru⟩:=rv.one;obtain ⟨t,rfl⟩:=ru;obtain ⟨its,rv,p,hz⟩:=I.list hq;exact index_list_ints p.isList (Sg rv) hl hk ⟨.int _,H,I.tok _,⟨_,rfl⟩,q⟩
def Pu(y:D)(xs:List D):Option D:=match y,xs with
 |.list ds,[.int k]=>(match Y1 ds with
  |some ns=>if PyData.layable0 (.list (ns.map .int))=true/\k∈ns then some (.int (ns.idxOf k:Nat)) else none
  |none=>none)
 |_,_=>none
theorem km{ds xs:List D}{d:D}(h:Pu (.list ds) xs=some d):∃k ns,xs=[.int k]/\Y1 ds=some ns/\PyData.layable0 (.list (ns.map .int))=true/\k∈ns/\d=.int (ns.idxOf k:Nat):=by
 unfold Pu at h
 split at h
 ·rename_i ds' k e1
  cases e1
  cases z:Y1 ds with
  |none=>rw[z] at h;cases h
  |some ns=>
   rw[z] at h;dsimp only at h
   split at h
   ·rename_i c
    cases h;exact ⟨k,ns,rfl,rfl,c.1,c.2,rfl⟩
   ·cases h
 ·cases h
def OV(f:M D)(g:M (List D)):M D:=Kr f λy=>Kr g λxs=>Ks (match y with | .list ds=>Pu (.list ds) xs|_=>none)
theorem qg{apos cpos:Pos}{f:M D}{g:M (List D)}(ho:PE X o (tD X.K B G0 f))(ha:PA X (e::es) (tDs X.K B G0 g))
  (hbase:attributeBase o "index" X.env (eval o X.env)=eval o X.env:=by rfl)
  (hfew:((backTo cpos (UG (e::es) X.env)).all (λx=>!x.1)&&(backToKw cpos (keywordEach [] X.env)).all (λx=>x.1.isSome)
   && decide ((e::es).length+([]:List Keyword).length+(if ([]:List Keyword).isEmpty then 0 else 1)<30))=true:=by rfl)
  (hline:(apos.endLine==cpos.line)=true:=by rfl) (hs:UG (e::es) X.env=(false,eval e X.env)::UG es X.env:=by rfl) (hplain:(backTo cpos (UG es X.env)).any (·.1)=false:=by rfl) :
  PE X (.Call (.Attribute o "index" apos) (e::es) [] cpos) (tD X.K B G0 (OV f g)) :=
 KW (NG F.plainAttrs_list F.slot_list_index F.type_list_index qh ho ha hbase hfew hline hs hplain) λσ H Q q=>by
  refine tM.one (R:=Rep X.K) q λv H2 G Z y k r a=>?_
  cases y with
  |list ds=>
   obtain ⟨l,ws,rfl,h1,r1⟩:=r.lst_inv;refine ⟨.inl ⟨rfl,ws,k.gh.seq h1⟩,?_⟩;refine tM.nx (R:=Reps X.K) k a λxs H3 G3 Z3 es k3 s3 r3 a3=>?_;obtain ⟨d,e,a3⟩:=a3.opt;obtain ⟨x,ns,rfl,z,hl,hk,rfl⟩:=km e;obtain ⟨u,rfl,ru⟩:=r3.one_inv
   have:=SJ r1 z
   subst this;exact ⟨l,x,ns,rfl,by rw[ru.int_inv],k3.gh.seq (s3.seq h1),hl,hk,aft.now a3 k3 (.int _)⟩
  |_=>
   unfold Kr at a
   cases z:g Z with
   |bad=>rw[z] at a;exact a.elim
   |ok xs Z1=>rw[z] at a;exact a.elim
theorem BW{f:M D}{g:M (List D)}{Z Z1 Z2:UR}{ds:List D}{x d:D}(h1:f Z=.ok (.list ds) Z1)(h2:g Z1=.ok [x] Z2)(h3:Pu (.list ds) [x]=some d):OV f g Z=.ok d Z2:=by
 unfold OV Kr;rw[h1];dsimp only;rw[h2];dsimp only;rw[h3]
 rfl
end
end DL
namespace DL
open PySem PySem.Spec PySem.W PyProof.Rows
def KE{α:Type}(lt:Nat->Nat->Bool):KasT α->α
 |.ret a=>a
 |.ask i j k=>KE lt (k (lt i j))
theorem PL{α β:Type}{lt:Nat->Nat->Bool}{f:α->KasT β}:∀t:KasT α,KE lt (t.bind f)=KE lt (f (KE lt t))
 |.ret _=>rfl
 |.ask i j k=>by show KE lt ((k (lt i j)).bind f)=_;rw[PL];rfl
section
variable{key:Nat->Int}{p:Array Nat}
def KA(key:Nat->Int)(p:Array Nat)(i:Nat):Int:=key (p.getD i 0)
def srt(key:Nat->Int)(p:Array Nat)(m:Nat):Prop:=∀i j,i<=j->j<m->KA key p i<=KA key p j
def dsc(key:Nat->Int)(p:Array Nat)(m:Nat):Prop:=∀i j,i<=j->j<m->KA key p j<=KA key p i
abbrev kl(key:Nat->Int)(i j:Nat):Bool:=decide (key i<key j)
theorem Fu{k d i:Nat}(hk:k<p.size)(hd:d<=k):KA key (bubble p k d) i=if i=k-d then KA key p k else if k-d<i/\i<=k then KA key p (i-1) else KA key p i:=by
 unfold KA;simp only[Jh];rw[getElem?_bubble hk d hd]
 repeat' split
 all_goals rfl
theorem P7{i j k:Nat}(hj:j<=p.size):KA key (kas_rev p i j) k=if i<=k/\k<j then KA key p (i+j-1-k) else KA key p k:=by
 unfold KA kas_rev;simp only[Jh];rw[getElem?_mirror_all hj]
 split <;> rfl
theorem SA{i j:Nat}:(kas_rev p i j).size=p.size:=mirror_size _ _ _ _
theorem VW{i j:Nat}:(kas_rev p i j).Perm p:=mirror_perm _ _ _ _
theorem MA:∀(f n:Nat),1<=n->srt key p n->srt key p (KE (kl key) (kas_asc p f n))/\n<=KE (kl key) (kas_asc p f n)/\KE (kl key) (kas_asc p f n)<=n+f /\
  (KE (kl key) (kas_asc p f n)<n+f->KA key p (KE (kl key) (kas_asc p f n))<KA key p (KE (kl key) (kas_asc p f n)-1))
 |0,n,h1,hs=>⟨hs,Qy _,Qy _,λh=>absurd h (Jw _)⟩
 |f+1,n,h1,hs=>by
  unfold kas_asc KE
  cases c:kl key (p.getD n 0) (p.getD (n-1) 0) with
  |true=>
   dsimp only;rw[Ql rfl];exact ⟨hs,Qy _,by show n<=n+(f+1);omega,λ_=>Qa c⟩
  |false=>
   dsimp only;rw[Qs (by decide)]
   have hle:KA key p (n-1)<=KA key p n:=Ux.mp (Jb c)
   obtain ⟨a1,a2,a3,a4⟩:=MA f (n+1) (by omega) (λi j hij hj=>by
    by_cases hjn:j=n
    ·subst hjn
     by_cases hin:i=j
     ·subst hin;exact QZ _
     ·exact JX (hs i (j-1) (by omega) (by omega)) hle
    ·exact hs i j hij (by omega))
   exact ⟨a1,by omega,by omega,λh=>a4 (by omega)⟩
def eqs(key:Nat->Int)(p:Array Nat)(n q:Nat):Prop:=∀i,n-1-q<=i->i<n->KA key p i=KA key p (n-1)
theorem No:∀(f:Nat)(p:Array Nat)(n q:Nat),1<=n->q+1<=n->n+f<=p.size->dsc key p n->eqs key p n q ->
  let r:=KE (kl key) (kas_desc f p n q)
  r.1.Perm p/\r.1.size=p.size/\dsc key r.1 r.2.1/\eqs key r.1 r.2.1 r.2.2/\r.2.2+1<=r.2.1/\n<=r.2.1/\r.2.1<=n+f
 |0,p,n,q,h1,hq,hz,hd,he=>⟨Uu _,rfl,hd,he,hq,Qy _,Qy _⟩
 |f+1,p,n,q,h1,hq,hz,hd,he=>by
  intro r;have hr:r=KE (kl key) (kas_desc (f+1) p n q):=rfl;unfold kas_desc KE at hr
  cases c:kl key (p.getD n 0) (p.getD (n-1) 0) with
  |true=>
   rw[c] at hr;(try dsimp only at hr);rw[if_pos rfl] at hr;have hlt:KA key p n<KA key p (n-1):=Qa c
   have ext:∀p':Array Nat,(∀i,KA key p' i=KA key p i)->dsc key p' (n+1)/\eqs key p' (n+1) 0:=λp' hp=>⟨λi j hij hj=>by
     rw[hp,hp]
     by_cases hjn:j=n
     ·subst hjn
      by_cases hin:i=j
      ·subst hin;exact QZ _
      ·exact JX (Int.le_of_lt hlt) (hd i (j-1) (by omega) (by omega))
     ·exact hd i j hij (by omega),λi hi1 hi2=>by
     have:i=n:=by omega
     subst this;rfl⟩
   by_cases hq0:q > 0
   ·rw[Ql hq0] at hr
    have same:∀i,KA key (kas_rev p (n-(q+1)) n) i=KA key p i:=λi=>by
     rw[P7 (by omega)]
     split
     ·rw[he _ (by omega) (by omega),he i (by omega) (by omega)]
     ·rfl
    obtain ⟨d1,e1⟩:=ext _ same;obtain ⟨a1,a2,a3,a4,a5,a6,a7⟩:=No f (kas_rev p (n-(q+1)) n) (n+1) 0 (by omega) (by omega) (by rw[SA];omega) d1 e1
    rw[←hr] at a1 a2 a3 a4 a5 a6 a7;exact ⟨a1.trans VW,a2.trans SA,a3,a4,a5,by omega,by omega⟩
   ·rw[Qs hq0] at hr
    obtain ⟨d1,e1⟩:=ext p λ_=>rfl;obtain ⟨a1,a2,a3,a4,a5,a6,a7⟩:=No f p (n+1) 0 (by omega) (by omega) (by omega) d1 e1
    rw[←hr] at a1 a2 a3 a4 a5 a6 a7;exact ⟨a1,a2,a3,a4,a5,by omega,by omega⟩
  |false=>
   rw[c] at hr;(try dsimp only at hr);rw[if_neg (by decide)] at hr
   unfold KE at hr;have hle:KA key p (n-1)<=KA key p n:=Ux.mp (Jb c)
   cases d:kl key (p.getD (n-1) 0) (p.getD n 0) with
   |true=>
    rw[d] at hr;(try dsimp only at hr);rw[if_pos rfl] at hr;unfold KE at hr;rw[hr];exact ⟨Uu _,rfl,hd,he,hq,Qy _,by show n<=n+(f+1);omega⟩
   |false=>
    rw[d] at hr;(try dsimp only at hr);rw[if_neg (by decide)] at hr
    have hge:KA key p n<=KA key p (n-1):=Ux.mp (Jb d)
    obtain ⟨a1,a2,a3,a4,a5,a6,a7⟩:=No f p (n+1) (q+1) (by omega) (by omega) (by omega) (λi j hij hj=>by
     by_cases hjn:j=n
     ·subst hjn
      by_cases hin:i=j
      ·subst hin;exact QZ _
      ·exact JX hge (hd i (j-1) (by omega) (by omega))
     ·exact hd i j hij (by omega)) (λi hi1 hi2=>by
     have e0:KA key p n=KA key p (n-1):=Ue hge hle;show KA key p i=KA key p (n+1-1);rw[Ub,e0]
     by_cases hin:i=n
     ·subst hin;exact e0
     ·exact he i (by omega) (by omega))
    rw[←hr] at a1 a2 a3 a4 a5 a6 a7;exact ⟨a1,a2,a3,a4,a5,by omega,by omega⟩
theorem FV{n nrem:Nat}(h1:1<=n)(hn:n<=nrem)(hz:nrem<=p.size)(hd:dsc key p n) :
  let r:=KE (kl key) (kas_tail3 n nrem p)
  r.2.Perm p/\r.2.size=p.size/\srt key r.2 r.1/\1<=r.1/\r.1<=nrem:=by
 intro r;have hr:r=KE (kl key) (kas_tail3 n nrem p):=rfl;unfold kas_tail3 at hr;rw[PL] at hr
 have hs:srt key (kas_rev p 0 n) n:=λi j hij hj=>by
  rw[P7 (by omega),P7 (by omega),Ql (by omega),Ql (by omega)]
  exact hd _ _ (by omega) (by omega)
 obtain ⟨a1,a2,a3,_⟩:=MA (key:=key) (p:=kas_rev p 0 n) (nrem-n) n h1 hs;rw[hr];exact ⟨VW,SA,a1,by show 1<=KE _ _;omega,by show KE _ _<=_;omega⟩
theorem En{n nrem:Nat}(h1:1<=n)(hn:n+1<=nrem)(hz:nrem<=p.size)(hd:dsc key p (n+1)) :
  let r:=KE (kl key) (kas_descPart n nrem p)
  r.2.Perm p/\r.2.size=p.size/\srt key r.2 r.1/\1<=r.1/\r.1<=nrem:=by
 intro r;have hr:r=KE (kl key) (kas_descPart n nrem p):=rfl;unfold kas_descPart at hr;rw[PL] at hr
 obtain ⟨a1,a2,a3,a4,a5,a6,a7⟩:=No (key:=key) (nrem-(n+1)) p (n+1) 0 (by omega) (by omega) (by omega) hd (λi hi1 hi2=>by
  have:i=n:=by omega
  subst this;rfl)
 generalize KE (kl key) (kas_desc (nrem-(n+1)) p (n+1) 0)=d at hr a1 a2 a3 a4 a5 a6 a7;obtain ⟨p1,n1,q1⟩:=d;dsimp only at hr a1 a2 a3 a4 a5 a6 a7
 by_cases hq:q1 > 0
 ·rw[Ql hq] at hr
  have same:∀i,KA key (kas_rev p1 (n1-(q1+1)) n1) i=KA key p1 i:=λi=>by
   rw[P7 (by omega)]
   split
   ·rw[a4 _ (by omega) (by omega),a4 i (by omega) (by omega)]
   ·rfl
  obtain ⟨b1,b2,b3,b4,b5⟩:=FV (key:=key) (p:=kas_rev p1 (n1-(q1+1)) n1) (n:=n1) (nrem:=nrem) (by omega) (by omega) (by rw[SA];omega) (λi j hij hj=>by rw[same,same];exact a3 i j hij hj)
  rw[hr];exact ⟨(b1.trans VW).trans a1,(b2.trans SA).trans a2,b3,b4,b5⟩
 ·rw[Qs hq] at hr
  obtain ⟨b1,b2,b3,b4,b5⟩:=FV (key:=key) (p:=p1) (n:=n1) (nrem:=nrem) (by omega) (by omega) (by omega) a3
  rw[hr];exact ⟨b1.trans a1,b2.trans a2,b3,b4,b5⟩
theorem jB{nrem:Nat}(h1:1<=nrem)(hz:nrem<=p.size) :
  let r:=KE (kl key) (kas_count nrem p)
  r.2.Perm p/\r.2.size=p.size/\srt key r.2 r.1/\1<=r.1/\r.1<=nrem:=by
 intro r;have hr:r=KE (kl key) (kas_count nrem p):=rfl;unfold kas_count at hr;rw[PL] at hr
 obtain ⟨a1,a2,a3,a4⟩:=MA (key:=key) (p:=p) (nrem-1) 1 (Qy _) (λi j hij hj=>by
  have:i=j:=by omega
  subst this;exact QZ _)
 generalize KE (kl key) (kas_asc p (nrem-1) 1)=n at hr a1 a2 a3 a4
 by_cases hn:(n==nrem)=true
 ·rw[Ql hn] at hr
  unfold KE at hr;rw[hr];exact ⟨Uu _,rfl,a1,a2,by show n<=nrem;omega⟩
 ·rw[Qs hn] at hr
  have hne:n≠nrem:=by simpa using hn
  have hlt:=a4 (by omega)
  by_cases hn1:n > 1
  ·rw[Ql hn1] at hr
   unfold KE at hr
   cases c:kl key (p.getD 0 0) (p.getD (n-1) 0) with
   |true=>
    rw[c] at hr;(try dsimp only at hr);rw[if_pos rfl] at hr;unfold KE at hr;rw[hr];exact ⟨Uu _,rfl,a1,a2,by show n<=nrem;omega⟩
   |false=>
    rw[c] at hr;(try dsimp only at hr);rw[if_neg (by decide)] at hr
    have hge:KA key p (n-1)<=KA key p 0:=Ux.mp (Jb c);have all:∀i,i<n->KA key p i=KA key p 0:=λi hi=>Ue (JX (a1 i (n-1) (by omega) (by omega)) hge) (a1 0 i (by omega) hi)
    have same:∀i,KA key (kas_rev p 0 n) i=KA key p i:=λi=>by
     rw[P7 (by omega)]
     split
     ·rw[all _ (by omega),all i (by omega)]
     ·rfl
    obtain ⟨b1,b2,b3,b4,b5⟩:=En (key:=key) (p:=kas_rev p 0 n) (n:=n) (nrem:=nrem) a2 (by omega) (by rw[SA];exact hz) (λi j hij hj=>by
     rw[same,same]
     by_cases hjn:j=n
     ·subst hjn
      by_cases hin:i=j
      ·subst hin;exact QZ _
      ·rw[all i (by omega)]
       rw[all (j-1) (by omega)] at hlt
       exact Int.le_of_lt hlt
     ·rw[all i (by omega),all j (by omega)];exact QZ _)
    rw[hr];exact ⟨b1.trans VW,b2.trans SA,b3,b4,b5⟩
  ·rw[Qs hn1] at hr
   have:n=1:=by omega
   subst this
   obtain ⟨b1,b2,b3,b4,b5⟩:=En (key:=key) (p:=p) (n:=1) (nrem:=nrem) (Qy _) (by omega) hz (λi j hij hj=>by
    by_cases hij2:i=j
    ·subst hij2;exact QZ _
    ·have h0:i=0:=by omega
     have h1:j=1:=by omega
     subst h0;subst h1;exact Int.le_of_lt hlt)
   rw[hr];exact ⟨b1,b2,b3,b4,b5⟩
theorem M4{k:Nat}(hs:srt key p k):∀(f l r:Nat),l<=r->r<=k->r-l<=f->(∀i,i<l->KA key p i<=KA key p k)->(∀i,r<=i->i<k->KA key p k<KA key p i) ->
  let m:=KE (kl key) (kas_place p k f l r)
  m<=k/\(∀i,i<m->KA key p i<=KA key p k)/\(∀i,m<=i->i<k->KA key p k<KA key p i)
 |0,l,r,hlr,hrk,hf,h1,h2=>⟨by show l<=k;omega,h1,λi (hi:l<=i)=>h2 i (by omega)⟩
 |f+1,l,r,hlr,hrk,hf,h1,h2=>by
  intro m;have hm:m=KE (kl key) (kas_place p k (f+1) l r):=rfl;unfold kas_place at hm
  by_cases hge:l ≥ r
  ·rw[Ql hge] at hm
   unfold KE at hm;rw[hm];exact ⟨by omega,h1,λi hi=>h2 i (by omega)⟩
  ·rw[Qs hge] at hm
   unfold KE at hm
   cases c:kl key (p.getD k 0) (p.getD ((l+r) / 2) 0) with
   |true=>
    rw[c] at hm;(try dsimp only at hm);rw[if_pos rfl] at hm;rw[hm];have hlt:KA key p k<KA key p ((l+r) / 2):=Qa c;exact M4 hs f l ((l+r) / 2) (by omega) (by omega) (by omega) h1 λi hi hik=>Int.lt_of_lt_of_le hlt (hs _ _ hi hik)
   |false=>
    rw[c] at hm;(try dsimp only at hm);rw[if_neg (by decide)] at hm
    rw[hm];have hle:KA key p ((l+r) / 2)<=KA key p k:=Ux.mp (Jb c);exact M4 hs f ((l+r) / 2+1) r (by omega) hrk (by omega) (λi hi=>JX (hs i ((l+r) / 2) (by omega) (by omega)) hle) h2
theorem Gp:∀(f:Nat)(p:Array Nat)(k:Nat),k+f<=p.size->srt key p k->let r:=KE (kl key) (kas_bin f p k);r.Perm p/\r.size=p.size/\srt key r (k+f)
 |0,p,k,_,hs=>⟨Uu _,rfl,hs⟩
 |f+1,p,k,hz,hs=>by
  intro r;have hr:r=KE (kl key) (kas_bin (f+1) p k):=rfl;unfold kas_bin at hr;rw[PL] at hr;obtain ⟨a1,a2,a3⟩:=M4 (key:=key) hs k 0 k (J8 _) (Qy _) (by omega) (λi hi=>by omega) (λi h1 h2=>by omega)
  generalize KE (kl key) (kas_place p k k 0 k)=l at hr a1 a2 a3;have hk:k<p.size:=by omega
  obtain ⟨b1,b2,b3⟩:=Gp f (bubble p k (k-l)) (k+1) (by rw[bubble_size];omega) (λi j hij hj=>by
   rw[Fu hk (by omega),Fu hk (by omega),show k-(k-l)=l by omega]
   by_cases hi:i=l
   ·rw[Ql hi]
    by_cases hjl:j=l
    ·rw[Ql hjl];exact QZ _
    ·rw[Qs hjl,Ql (by omega)]
     exact Int.le_of_lt (a3 (j-1) (by omega) (by omega))
   ·rw[Qs hi]
    by_cases hi2:l<i/\i<=k
    ·rw[Ql hi2,Qs (show ¬j=l by omega),Ql (by omega)]
     exact hs _ _ (by omega) (by omega)
    ·rw[Qs hi2]
     by_cases hjl:j=l
     ·rw[Ql hjl];exact a2 i (by omega)
     ·rw[Qs hjl]
      split
      ·exact hs _ _ (by omega) (by omega)
      ·exact hs _ _ (by omega) (by omega))
  rw[hr];exact ⟨b1.trans (bubble_perm _ _ _),b2.trans (bubble_size _ _ _),by rw[show k+(f+1)=k+1+f by omega];exact b3⟩
theorem qf{n:Nat}(h1:1<=n):let r:=KE (kl key) (kas_sort n);r.Perm (List.toArray (UI n))/\r.size=n/\srt key r n:=by
 intro r;have hr:r=KE (kl key) (kas_sort n):=rfl;unfold kas_sort at hr;rw[PL] at hr;have hsz:(List.toArray (UI n)).size=n:=by simp
 obtain ⟨a1,a2,a3,a4,a5⟩:=jB (key:=key) (p:=List.toArray (UI n)) (nrem:=n) h1 (by rw[hsz];exact Qy _)
 generalize KE (kl key) (kas_count n (List.toArray (UI n)))=d at hr a1 a2 a3 a4 a5
 by_cases hlt:d.1<n
 ·rw[Ql hlt] at hr
  have hmax:max d.1 1=d.1:=by omega
  rw[hmax] at hr;obtain ⟨b1,b2,b3⟩:=Gp (key:=key) (n-d.1) d.2 d.1 (by omega) a3
  rw[hr];exact ⟨b1.trans a1,by omega,by rw[show d.1+(n-d.1)=n by omega] at b3;exact b3⟩
 ·rw[Qs hlt] at hr
  unfold KE at hr;rw[hr];exact ⟨a1,by omega,by rw[show d.1=n by omega] at a3;exact a3⟩
def Asks{α:Type}(N:Nat)(R:α->Prop):KasT α->Prop
 |.ret a=>R a
 |.ask i j k=>i<N/\j<N/\∀b,Asks N R (k b)
theorem Asks.bind{α β:Type}{N:Nat}{R:α->Prop}{S:β->Prop}{f:α->KasT β}(hf:∀a,R a->Asks N S (f a)):∀{t:KasT α},Asks N R t->Asks N S (t.bind f)
 |.ret a,h=>hf a h
 |.ask _ _ k,⟨h1,h2,h3⟩=>⟨h1,h2,λb=>Asks.bind hf (h3 b)⟩
theorem Go{α:Type}{lt:Nat->Nat->Bool}{cmp:Nat->Nat->(Bool->Uz->Prop)->Uz->Prop}{s:Uz}{N:Nat}{R:α->Prop}(hc:∀i j C,i<N->j<N->C (lt i j) s->cmp i j C s):∀(t:KasT α)(Q:α->Uz->Prop),Asks N R t->Q (KE lt t) s->t.kasWp cmp Q s
 |.ret _,_,_,h=>h
 |.ask i j k,Q,⟨h1,h2,h3⟩,h=>hc i j _ h1 h2 (Go hc (k (lt i j)) Q (h3 _) h)
def bnd(N:Nat)(p:Array Nat):Prop:=∀i,p.getD i 0<N
theorem PF{N:Nat}{p q:Array Nat}(hN:0<N)(h:bnd N p)(e:q.Perm p):bnd N q:=λi=>by
 rw[Jh]
 cases z:q[i]? with
 |none=>exact hN
 |some v=>
  have hm:v∈q:=Array.mem_of_getElem? z;have hm2:v∈p:=e.mem_iff.mp hm;obtain ⟨j,hj,e2⟩:=Array.mem_iff_getElem.mp hm2
  have:=h j
  rw[Jh,JS hj,e2] at this;exact this
section
variable{N:Nat}(hN:0<N)
include hN
theorem Mz{p:Array Nat}(h:bnd N p):∀(f n:Nat),Asks N (λ_=>True) (kas_asc p f n)
 |0,_=>trivial
 |f+1,n=>⟨h _,h _,λb=>by
  cases b with
  |true=>(try dsimp only);rw[if_pos rfl];trivial
  |false=>(try dsimp only);rw[if_neg (by decide)];exact Mz h f (n+1)⟩
theorem Nn:∀(f:Nat)(p:Array Nat)(n q:Nat),bnd N p->Asks N (λr=>bnd N r.1) (kas_desc f p n q)
 |0,p,_,_,h=>h
 |f+1,p,n,q,h=>⟨h _,h _,λb=>by
  cases b with
  |true=>
   dsimp only;rw[Ql rfl];split
   ·exact Nn f _ _ _ (PF hN h VW)
   ·exact Nn f _ _ _ h
  |false=>
   dsimp only;rw[Qs (by decide)]
   refine ⟨h _,h _,λb=>?_⟩
   cases b with
   |true=>(try dsimp only);rw[if_pos rfl];exact h
   |false=>(try dsimp only);rw[if_neg (by decide)];exact Nn f _ _ _ h⟩
theorem FT{p:Array Nat}{n nrem:Nat}(h:bnd N p):Asks N (λr=>bnd N r.2) (kas_tail3 n nrem p) :=
 Asks.bind (N:=N) (R:=λ_=>True) (S:=λr:Nat×Array Nat=>bnd N r.2) (f:=λm=>.ret (m,kas_rev p 0 n)) (λ_ _=>PF (p:=p) (q:=kas_rev p 0 n) hN h VW) (Mz hN (PF hN h VW) _ _)
theorem Em{p:Array Nat}{n nrem:Nat}(h:bnd N p):Asks N (λr=>bnd N r.2) (kas_descPart n nrem p) :=
 Asks.bind (λr hr=>by
  split
  ·exact FT hN (PF hN hr VW)
  ·exact FT hN hr) (Nn hN _ _ _ _ h)
theorem jA{p:Array Nat}{nrem:Nat}(h:bnd N p):Asks N (λr=>bnd N r.2) (kas_count nrem p) :=
 Asks.bind (R:=λ_=>True) (λn _=>by
  split
  ·exact h
  ·split
   ·refine ⟨h _,h _,λb=>?_⟩
    cases b with
    |true=>(try dsimp only);rw[if_pos rfl];exact h
    |false=>(try dsimp only);rw[if_neg (by decide)];exact Em hN (PF hN h VW)
   ·exact Em hN h) (Mz hN h _ _)
theorem M3{p:Array Nat}(h:bnd N p)(k:Nat):∀(f l r:Nat),Asks N (λ_=>True) (kas_place p k f l r)
 |0,_,_=>trivial
 |f+1,l,r=>by
  unfold kas_place;split
  ·trivial
  ·refine ⟨h _,h _,λb=>?_⟩
   cases b with
   |true=>(try dsimp only);rw[if_pos rfl];exact M3 h k f _ _
   |false=>(try dsimp only);rw[if_neg (by decide)];exact M3 h k f _ _
theorem Gn:∀(f:Nat)(p:Array Nat)(k:Nat),bnd N p->Asks N (λ_=>True) (kas_bin f p k)
 |0,_,_,_=>trivial
 |f+1,p,k,h=>Asks.bind (R:=λ_=>True) (λl _=>Gn f _ _ (PF hN h (bubble_perm _ _ _))) (M3 hN h k _ _ _)
end
theorem qe{n:Nat}(hn:0<n):Asks n (λ_=>True) (kas_sort n):=by
 have hb:bnd n (List.toArray (UI n)):=λi=>by
  rw[Jh]
  by_cases hi:i<n
  ·simp[hi]
  ·simp[hi,hn]
 refine Asks.bind (λr hr=>?_) (jA hn hb);split
 ·exact Gn hn _ _ _ hr
 ·trivial
end
def K2(q:Int×Int):Int:=q.1*10000000+q.2
def okP(q:Int×Int):Prop:=-1000000<=q.2/\q.2<=1000000
theorem C5{x y:Int×Int}(hx:okP x)(hy:okP y):K2 x<K2 y ↔ (x.1<y.1∨x.1=y.1/\x.2<y.2):=by
 unfold K2 okP at *;omega
theorem BV{x y:Int×Int}(hx:okP x)(hy:okP y)(h:K2 x=K2 y):x=y:=by
 unfold K2 okP at *;have h1:x.1=y.1:=by omega
 have h2:x.2=y.2:=by omega
 exact Prod.ext h1 h2
section
variable{prog:UA}{w:World}{A:Around}{E:Uy->Uz->Prop}{s:Uz}
def OU(h:Heap)(v:Uy)(q:Int×Int):Prop:=∃a t u o n,v=.ref a/\h.get? a=some o/\o.cls=.type "tuple" /\ o.data=.seq #[.int q.1 t,.int q.2 u] n
theorem C4{x y:Uy}{p q:Int×Int}{Q:Bool->Uz->Prop}(hx:OU s.heap x p)(hy:OU s.heap y q)(h:Q (decide (p.1<q.1∨p.1=q.1/\p.2<q.2)) s):UF (model prog w) A (keyLt' (tuples' true) x y) Q E s:=by
 obtain ⟨a,t,u,o,n,rfl,e1,c1,d1⟩:=hx;obtain ⟨b,t',u',o',n',rfl,e2,c2,d2⟩:=hy;refine kat_lt e1 d1 e2 d2 ?_;show KatLex prog w A true _ Q [(Value.int p.1 t,Value.int q.1 t'),(Value.int p.2 u,Value.int q.2 u')] 0 s;refine kat_cons (wpAny_eqBool_int ?_)
 by_cases h1:p.1=q.1
 ·have e:(p.1==q.1)=true:=by simpa using h1
  rw[e];refine kat_yes (kat_cons (wpAny_eqBool_int ?_))
  by_cases h2:p.2=q.2
  ·have e:(p.2==q.2)=true:=by simpa using h2
   rw[e];refine kat_yes (kat_nil ?_)
   have:decide (p.1<q.1∨p.1=q.1/\p.2<q.2)=false:=QG (by omega)
   rw[this] at h;exact h
  ·have e:(p.2==q.2)=false:=by simpa using h2
   rw[e];refine kat_no (kat_one _ _ (PyProof.Rows.lt_int ?_))
   have:decide (p.1<q.1∨p.1=q.1/\p.2<q.2)=decide (p.2<q.2):=by
    by_cases z:p.2<q.2
    ·rw[Q2 z,Q2 (.inr ⟨h1,z⟩)]
    ·rw[QG z,QG (by omega)]
   rw[this] at h;exact h
 ·have e:(p.1==q.1)=false:=by simpa using h1
  rw[e];refine kat_no (oneLt_int ?_)
  have:decide (p.1<q.1∨p.1=q.1/\p.2<q.2)=decide (p.1<q.1):=by
   by_cases z:p.1<q.1
   ·rw[Q2 z,Q2 (.inl z)]
   ·rw[QG z,QG (by omega)]
  rw[this] at h;exact h
def Xx(h:Heap):List Uy->LP->Prop
 |[],[]=>True
 |v::vs,q::qs=>OU h v q/\Xx h vs qs
 |_,_=>False
theorem Xx.get{h:Heap}:∀{vs:List Uy}{qs:LP},Xx h vs qs->vs.length=qs.length/\∀(i:Nat)(hi:i<vs.length),OU h (vs.getD i .none) (qs.getD i (0,0))
 |[],[],_=>⟨rfl,λi hi=>absurd hi (JU _)⟩
 |v::vs,q::qs,⟨h1,h2⟩=>by
  obtain ⟨e,f⟩:=Xx.get h2;refine ⟨by simp[e],λi hi=>?_⟩
  cases i with
  |zero=>exact h1
  |succ i=>exact f i (by simpa using hi)
theorem Xx.tups{h:Heap}:∀{vs:List Uy}{qs:LP},Xx h vs qs->∃fs:List Uy,KatTups h vs fs/\fs.length=vs.length/\∀v∈fs,∃i t,v=.int i t
 |[],[],_=>⟨[],trivial,rfl,λ_ h=>by cases h⟩
 |v::vs,q::qs,⟨hp,h2⟩=>by
  obtain ⟨a,t,u,o,n,rfl,e1,c1,d1⟩:=hp;obtain ⟨fs,f1,f2,f3⟩:=Xx.tups h2;refine ⟨.int q.1 t::fs,.cons e1 c1 d1 rfl f1,by simp[f2],λv hv=>?_⟩
  rcases Q0.mp hv with rfl|hv
  ·exact ⟨_,_,rfl⟩
  ·exact f3 v hv
theorem Xx.mono{h h':Heap}(k:∀b o,h.get? b=some o->h'.get? b=some o):∀{vs:List Uy}{qs:LP},Xx h vs qs->Xx h' vs qs
 |[],[],_=>trivial
 |v::vs,q::qs,⟨hp,h2⟩=>by
  obtain ⟨a,t,u,o,n,rfl,e1,c1,d1⟩:=hp;exact ⟨⟨a,t,u,o,n,rfl,k _ _ e1,c1,d1⟩,Xx.mono k h2⟩
def OG(qs:LP)(π:List Nat):Prop:=π.Perm (UI qs.length)/\(π.map λi=>qs.getD i (0,0)).Pairwise λx y=>K2 x<=K2 y
theorem xc{a:UB}{vs:List Uy}{qs:LP}{n:Nat}{P:Fin->Uz->Prop}(ho:s.heap.get? a=some (seqObj "list" vs.toArray n))
  (hp:Xx ((s.heap.update a (Obj.mapSeq λ_=>#[]))) vs qs) (hq:∀q∈qs,okP q) (h64:vs.length<64)
  (h:∀π:List Nat,OG qs π->P (.done (.ret .none)) { s with heap:=sortedHeap s.heap a vs (List.toArray (π.map λi=>vs.getD i .none)) }) :
  UF (model prog w) A (Builtin.«list.sort» ⟨[.ref a],[]⟩) P E s:=by
 obtain ⟨hl,hget⟩:=hp.get;rw[list_sort_plain];have ha:a<s.heap.objs.size:=Qi ho;refine Qf (listItems_at ho rfl ?_);refine Qf (listUpdate_at ho rfl ?_)
 obtain ⟨e1,ho1⟩:∃e1,(s.heap.update a (Obj.mapSeq λ_=>#[])).get? a=some (seqObj "list" #[] e1):=⟨_,get?_update_seq ho (λ_=>#[])⟩
 refine Qf (seqEpoch_at ho1 rfl ?_);refine Qf (wpAny_newTuple ?_);refine Qf (wpAny_newList ?_);refine wpAny_holding ?_
 have ho6:(((s.heap.update a (Obj.mapSeq λ_=>#[])).push (seqObj "tuple" vs.toArray 0)).push (seqObj "list" #[] 0)).get? a=some (seqObj "list" #[] e1):=by
  rw[Heap.get?_push_ne _ _ _ (by rw[size_push',Heap.size_update];exact QR (Uk ha)),Heap.get?_push_ne _ _ _ (by rw[Heap.size_update];exact QR ha)]
  exact ho1
 have hp6:Xx (((s.heap.update a (Obj.mapSeq λ_=>#[])).push (seqObj "tuple" vs.toArray 0)).push (seqObj "list" #[] 0)) vs qs:=hp.mono λb o e=>Qm _ (Qm _ e)
 show UF (model prog w) A _ P E { s with heap:=((s.heap.update a (Obj.mapSeq λ_=>#[])).push (seqObj "tuple" vs.toArray 0)).push (seqObj "list" #[] 0) }
 dsimp only;have hsz:vs.toArray.size=vs.length:=by simp
 by_cases h2:vs.toArray.size<2
 ·rw[Ql h2,Ql h2]
  refine Qf (Qo ?_);rw[StateT.run_pure];refine Qf (Qo ?_);dsimp only;refine Qf (seqEpoch_at ho6 rfl ?_);refine Qf (listUpdate_at ho6 rfl ?_ (hsz2:=by rw[Array.size_map];show (pairsOf vs).size<=_;rw[pairsOf_size,sizeLine_eq];omega))
  simp only[bne_self_eq_false,Ua,if_false]
  have hid:(arrOf (SortSt.mk' general' (vs.toArray.zip vs.toArray) #[] 7 none)).map (·.2)=List.toArray ((UI vs.length).map λi=>vs.getD i .none):=by
   show (vs.toArray.zip vs.toArray).map (·.2)=_;apply Array.toList_inj.mp;apply Ju;intro i;simp only[Array.toList_map,Array.toList_zip,Qd,JT]
   by_cases hi:i<vs.length
   ·simp[List.getElem?_zip_eq_some,hi,List.getElem?_range]
   ·simp[hi]
  rw[hid];refine Qo (h (UI vs.length) ⟨by rw[hl],?_⟩)
  rw[List.pairwise_map];rw[hsz] at h2;rcases (show vs.length=0∨vs.length=1 by omega) with z|z <;> rw[z]
  ·exact .nil
  ·exact List.pairwise_singleton _ _
 ·rw[Qs h2,Qs h2]
  rw[hsz] at h2;obtain ⟨fs,f1,f2,f3⟩:=hp6.tups
  refine Qf (kat_kind (T:=.type "int") f1 (by omega) (λv hv=>by obtain ⟨i,t,rfl⟩:=f3 v hv;exact (show Looks _ _ (pure (Value.type "int")) _ from .now)) rfl ?_)
  refine Qf (QO (kat_run (ks:=vs) (G:=λp s'=>s' = { s with heap:=((s.heap.update a (Obj.mapSeq λ_=>#[])).push (seqObj "tuple" vs.toArray 0)).push (seqObj "list" #[] 0) }/\p=KE (kl λi=>K2 (qs.getD i (0,0))) (kas_sort vs.length))
   (Q:=λst' s'=>s' = { s with heap:=((s.heap.update a (Obj.mapSeq λ_=>#[])).push (seqObj "tuple" vs.toArray 0)).push (seqObj "list" #[] 0) }/\failedOf st'=none/\arrOf st'=(KE (kl λi=>K2 (qs.getD i (0,0))) (kas_sort vs.length)).map (kas_item (vs.toArray.zip vs.toArray)))
   rfl (by omega) h64 (λp st' s' a1 a2 a3 a4=>⟨a4.1,a3,by rw[a2,a4.2]⟩) ?_) ?_ λ_ _ e=>e)
  ·refine Go (N:=vs.length) (R:=λ_=>True) (lt:=kl λi=>K2 (qs.getD i (0,0))) (λi j C hi hj hC=>?_) _ _ (qe (by omega)) ⟨rfl,rfl⟩
   refine C4 (Xx.get hp6 |>.2 i hi) (Xx.get hp6 |>.2 j hj) ?_;have oi:okP (qs.getD i (0,0)):=hq _ (by rw[Qh,Qe (by omega)];exact Jq _)
   have oj:okP (qs.getD j (0,0)):=hq _ (by rw[Qh,Qe (by omega)];exact Jq _)
   have e:decide ((qs.getD i (0,0)).1<(qs.getD j (0,0)).1∨(qs.getD i (0,0)).1=(qs.getD j (0,0)).1/\(qs.getD i (0,0)).2<(qs.getD j (0,0)).2)=kl (λi=>K2 (qs.getD i (0,0))) i j:=by
    unfold kl;exact decide_eq_decide.mpr (C5 oi oj).symm
   rw[e];exact hC
  ·rintro ⟨⟨⟩,st'⟩ s' ⟨rfl,hf,har⟩
   dsimp only;obtain ⟨b1,b2,b3⟩:=qf (key:=λi=>K2 (qs.getD i (0,0))) (n:=vs.length) (by omega)
   generalize KE (kl λi=>K2 (qs.getD i (0,0))) (kas_sort vs.length)=p at har b1 b2 b3;have hout:=kat_snds (ks:=vs) (vs:=vs) rfl har;have hsz2:((arrOf st').map (·.2)).size=vs.length:=by rw[hout,QK,Qb,JE,b2]
   refine Qf (seqEpoch_at ho6 rfl ?_);refine Qf (listUpdate_at ho6 rfl ?_ (hsz2:=by rw[hsz2,sizeLine_eq];omega))
   rw[hf];simp only[bne_self_eq_false,Ua,if_false];rw[hout];refine Qo (h p.toList ⟨?_,?_⟩)
   ·have:=Array.perm_iff_toList_perm.mp b1
    rw[←hl];exact this
   ·rw[List.pairwise_map,List.pairwise_iff_getElem]
    intro i j hi hj hij;rw[JE,b2] at hi hj
    have:=b3 i j (by omega) hj
    unfold KA at this;rw[Jh,Jh,JS (by omega),JS (by omega)] at this
    simpa using this
end
section
variable{prog:UA}{w:World}{A:Around}{E:Uy->Uz->Prop}{s:Uz}
theorem kL{l:UB}{vs:List Uy}{qs:LP}{Q:Uy->Uz->Prop}(hl:s.heap.IsList l vs.toArray)(hp:Xx s.heap vs qs)(hq:∀q∈qs,okP q)(h64:vs.length<64)
  (h:∀π:List Nat,OG qs π->Q (.ref (s.heap.objs.size+1)) { s with heap:=sortedAll s.heap vs (List.toArray (π.map λi=>vs.getD i .none)) }) :
  UF (model prog w) A (call (.builtin "sorted") [.ref l]) Q E s:=by
 refine Calls.call_function_entry kind_sorted plain_sorted entry_sorted (args_sorted1 _) ?_;unfold Builtin.«sorted»
 refine Qf (m:=checkCount "sorted" 1 1 _) (Qo ?_)
 refine Qf (collect_list hl ?_);refine Qf (wpAny_newList ?_)
 have hsz:((s.heap.push (seqObj "list" #[] 0)).update s.heap.objs.size (Obj.mapSeq (· ++ vs.toArray))).objs.size=s.heap.objs.size+1:=by
  rw[Heap.size_update,size_push']
 have hoL:(((s.heap.push (seqObj "list" #[] 0)).update s.heap.objs.size (Obj.mapSeq (· ++ vs.toArray))).push (seqObj "list" vs.toArray 0)).get? (s.heap.objs.size+1)=some (seqObj "list" vs.toArray 0):=by
  rw[←hsz];exact QH _ rfl
 show UF _ _ _ _ _ { s with heap:=((s.heap.push (seqObj "list" #[] 0)).update s.heap.objs.size (Obj.mapSeq (· ++ vs.toArray))).push (seqObj "list" vs.toArray 0) }
 rw[hsz];refine Qf (wpAny_holding (wpAny_call_entry slot_list_sort ⟨_,hoL,rfl⟩ entry_list_sort (xc (qs:=qs) hoL (hp.mono λb o e=>?_) hq h64 λπ a1=>⟨_,rfl,?_⟩) (args_list_sort _)))
 ·have hlt:b<s.heap.objs.size:=Qi e
  dsimp only;have hlt':(b:Nat)<s.heap.objs.size:=hlt;rw[Heap.get?_update_ne _ _ _ _ (QR (Uk hlt')),Heap.get?_push_ne _ _ _ (by rw[hsz];exact QR (Uk hlt')),Heap.get?_update_ne _ _ _ _ (QR hlt),Heap.get?_push_ne _ _ _ (QR hlt)]
  exact e
 ·exact Qo ⟨_,rfl,h π a1⟩
end
end DL
namespace DL
open PySem PySem.Spec L2
open PyProof.Rows hiding St
section
variable{X:Cx}
theorem Gm{pins:List (UB×Obj)}{s:Uz}{σ:St}{H:Hp}(I:Inv X pins σ H s):∀{as:List UB}{us:List Uy}{qs:LP},Vals (as.map V.ref) us->as.length=qs.length->(∀(i:Nat) a q,as[i]?=some a->qs[i]?=some q->SqT X.K H a [.int q.1,.int q.2])->Xx s.heap us qs
 |[],_,[],.nil,_,_=>trivial
 |a::as,_,q::qs,.cons r t,hl,h=>by
  refine ⟨?_,Gm I t (by simpa using hl) λi a q h1 h2=>h (i+1) a q (by simpa using h1) (by simpa using h2)⟩
  cases r;obtain ⟨its,rv,⟨o,e,c,n,d⟩,_⟩:=I.tuple (h 0 a q rfl rfl)
  obtain ⟨u,v,rfl,r1,r2⟩:=rv.two;obtain ⟨t1,rfl⟩:=r1;obtain ⟨t2,rfl⟩:=r2;exact ⟨a,t1,t2,o,n,rfl,e,c,by simpa using d⟩
theorem Ft{as:List UB}{us:List Uy}(r:Vals (as.map V.ref) us):∀(π:List Nat),(∀i∈π,i<as.length)->Vals (π.map λi=>V.ref (as.getD i 0)) (π.map λi=>us.getD i .none)
 |[],_=>.nil
 |i::π,h=>by
  refine .cons ?_ (Ft r π λj hj=>h j (Qk _ hj));have hi:=h i Qn;have e:(as.map V.ref)[i]?=some (.ref (as.getD i 0)):=by rw[List.getElem?_map,List.getElem?_eq_getElem hi];simp[List.getD,List.getElem?_eq_getElem hi]
  obtain ⟨u,e2,ru⟩:=r.get e;simp only[List.getD,e2,J5];exact ru
theorem jz:XJ X (.builtin "sorted") (λxs H Q=>∃l,∃as:List UB,∃qs:LP,xs=[.ref l]/\SqL X.K H l (as.map V.ref)/\as.length=qs.length/\(∀(i:Nat) a q,as[i]?=some a->qs[i]?=some q->SqT X.K H a [.int q.1,.int q.2])/\(∀q∈qs,okP q)/\qs.length<64 /\
  ∀π p,OG qs π->H p=none->Q (.ref p) (upd H p (.lst (π.map λi=>V.ref (as.getD i 0))))):=by
 intro pins s σ H xs us Q I rx h;obtain ⟨l,as,qs,rfl,hq,hl,ht,ho,hb,q⟩:=h;obtain ⟨u,rfl,ru⟩:=rx.one;cases ru;obtain ⟨its,rv,p,hz⟩:=I.list hq;have hn:its.length=qs.length:=by have:=rv.length;rw[Qb] at this;omega
 refine kL (qs:=qs) p.isList (Gm I rv hl ht) ho (by omega) λπ hπ=>?_
 obtain ⟨e,he⟩:=sortedAll_at s.heap its (List.toArray (π.map λi=>its.getD i .none))
 have hπl:∀i∈π,i<as.length:=λi hi=>by
  have:=hπ.1.mem_iff.mp hi
  rw[Q7] at this;omega
 refine ⟨.ref (s.heap.objs.size+1),_,I.laid (t':=s.toks) (λb o=>sortedAll_old) (J7 _) (show Y4 X.prog X.w _ _ _ (.lst (π.map λi=>V.ref (as.getD i 0))) from ⟨?_,_,e,Ft rv π hπl,he⟩),rfl,q π _ hπ (I.hok.fresh (J7 _))⟩
 rw[Qb,hπ.1.length_eq,Qq];rw[Qb] at hz;omega
def OT:D->Option (Int×Int)
 |.tuple [.int a,.int b]=>some (a,b)
 |_=>none
def Sm:List D->Option LP
 |[]=>some []
 |d::r=>(OT d).bind λq=>(Sm r).map (q :: ·)
def Zn(q:Int×Int):D:=.tuple [.int q.1,.int q.2]
theorem qd{d:D}{q:Int×Int}(h:OT d=some q):d=Zn q:=by
 unfold OT at h
 split at h
 ·cases h;rfl
 ·cases h
theorem Eg:∀{ds:List D}{qs:LP},Sm ds=some qs->ds=qs.map Zn
 |[],qs,h=>by cases h;rfl
 |d::r,qs,h=>by
  unfold Sm at h
  cases z:OT d with
  |none=>rw[z] at h;cases h
  |some q=>
   rw[z] at h
   cases z2:Sm r with
   |none=>rw[z2] at h;cases h
   |some qs'=>rw[z2] at h;cases h;rw[qd z,Eg z2];rfl
theorem Ee:∀qs:LP,Sm (qs.map Zn)=some qs
 |[]=>rfl
 |q::r=>by rw[QA,Sm,Ee r];rfl
def VH(qs:LP):LP:=qs.mergeSort λx y=>decide (K2 x<=K2 y)
theorem FS(qs:LP):(VH qs).Perm qs:=List.mergeSort_perm ..
theorem Fs(qs:LP):(VH qs).Pairwise λx y=>K2 x<=K2 y:=by
 have:=List.pairwise_mergeSort (le:=λx y:Int×Int=>decide (K2 x<=K2 y)) (by intro a b c;simp;omega) (by intro a b;simp;omega) qs
 exact this.imp (by simp)
theorem My:∀{a b:LP},(∀x∈a,okP x)->a.Perm b->a.Pairwise (λx y=>K2 x<=K2 y)->b.Pairwise (λx y=>K2 x<=K2 y)->a=b
 |[],b,_,p,_,_=>by rw[List.nil_perm.1 p]
 |x::a,[],_,p,_,_=>by have:=p.length_eq;simp at this
 |x::a,y::b,ok,p,ha,hb=>by
  have hx:K2 y<=K2 x:=by
   rcases Q0.1 (p.mem_iff.1 (Qn ..)) with e|e
   ·rw[e];exact QZ _
   ·exact (JA.1 hb).1 x e
  have hy:K2 x<=K2 y:=by
   rcases Q0.1 (p.mem_iff.2 (Qn ..)) with e|e
   ·rw[e];exact QZ _
   ·exact (JA.1 ha).1 y e
  have oky:okP y:=ok y (p.mem_iff.2 (Qn ..));have e:=BV (ok x (Qn ..)) oky (Ue hy hx);subst e;rw[My (λz hz=>ok z (Qk _ hz)) (List.Perm.cons_inv p) (JA.1 ha).2 (JA.1 hb).2]
theorem BU{qs:LP}{π:List Nat}(ok:∀q∈qs,okP q)(h:OG qs π):(π.map λi=>qs.getD i (0,0))=VH qs:=by
 have hp:(π.map λi=>qs.getD i (0,0)).Perm qs:=by
  have h1:=h.1.map λi=>qs.getD i (0,0)
  have e:(UI qs.length).map (λi=>qs.getD i (0,0))=qs:=by
   apply Ju;intro i;rw[Qd]
   by_cases hi:i<qs.length
   ·rw[List.getElem?_range hi,List.getElem?_eq_getElem hi];simp[List.getD,List.getElem?_eq_getElem hi]
   ·rw[QD (by rw[Qq];omega),QD (by omega)];rfl
  rw[e] at h1;exact h1
 exact My (λx hx=>ok x (hp.mem_iff.mp hx)) (hp.trans (FS qs).symm) h.2 (Fs qs)
def okPB(q:Int×Int):Bool:=decide (-1000000<=q.2/\q.2<=1000000)
def P6:List D->Option D
 |[.list ds]=>(match Sm ds with
  |some qs=>if qs.length<64/\qs.all okPB=true then some (.list ((VH qs).map Zn)) else none
  |none=>none)
 |_=>none
theorem jy{xs:List D}{d:D}(h:P6 xs=some d):∃qs:LP,xs=[.list (qs.map Zn)]/\qs.length<64/\(∀q∈qs,okP q)/\d=.list ((VH qs).map Zn):=by
 unfold P6 at h
 split at h
 ·rename_i ds
  cases z:Sm ds with
  |none=>rw[z] at h;cases h
  |some qs=>
   rw[z] at h;dsimp only at h
   split at h
   ·rename_i c
    cases h;exact ⟨qs,by rw[Eg z],c.1,λq hq=>(show -1000000<=q.2/\q.2<=1000000 from Qa (Jn.mp c.2 q hq)),rfl⟩
   ·cases h
 ·cases h
theorem Fr{K:Frag}{G:Hp}:∀{vs:List V}{qs:LP},Reps K G vs (qs.map Zn)->∃as:List UB,vs=as.map V.ref/\as.length=qs.length/\∀(i:Nat) a q,as[i]?=some a->qs[i]?=some q->SqT K G a [.int q.1,.int q.2]
 |_,[],.nil=>⟨[],rfl,rfl,λi a q h=>by simp at h⟩
 |_,q::qs,.cons r t=>by
  obtain ⟨as,rfl,hl,h⟩:=Fr t;obtain ⟨a,ws,rfl,h1,r1⟩:=r.tup_inv
  cases r1 with
  |cons ra rb=>
   obtain ⟨v,rfl,rb'⟩:=rb.one_inv;refine ⟨a::as,rfl,by simp[hl],λi a' q' e1 e2=>?_⟩
   cases i with
   |zero=>
    cases e1;cases e2
    rw[ra.int_inv,rb'.int_inv] at h1;exact h1
   |succ i=>exact h i a' q' (by simpa using e1) (by simpa using e2)
theorem BS{K:Frag}{G:Hp}{a:UB}{q:Int×Int}(h:SqT K G a [.int q.1,.int q.2]):Rep K G (.ref a) (Zn q):=.tup h (.cons (.int _) (.cons (.int _) .nil))
theorem Fq{K:Frag}{G:Hp}{as:List UB}{qs:LP}(hl:as.length=qs.length)(h:∀(i:Nat) a q,as[i]?=some a->qs[i]?=some q->SqT K G a [.int q.1,.int q.2]):∀π:List Nat,(∀i∈π,i<qs.length)->Reps K G (π.map λi=>V.ref (as.getD i 0)) ((π.map λi=>qs.getD i (0,0)).map Zn)
 |[],_=>.nil
 |i::π,hb=>by
  refine .cons ?_ (Fq hl h π λj hj=>hb j (Qk _ hj));have hi:=hb i Qn;refine BS (h i _ _ ?_ ?_)
  ·rw[List.getElem?_eq_getElem (by omega)];simp[List.getD,List.getElem?_eq_getElem (show i<as.length by omega)]
  ·rw[List.getElem?_eq_getElem hi];simp[List.getD,List.getElem?_eq_getElem hi]
theorem C3:XT X (.builtin "sorted") P6:=by
 refine ⟨_,jz,λvs G H ds d Q s r e k=>?_⟩;obtain ⟨qs,rfl,h64,ok,rfl⟩:=jy e;obtain ⟨v,rfl,q1⟩:=r.one_inv;obtain ⟨l,ws,rfl,h1,r1⟩:=q1.lst_inv;obtain ⟨as,rfl,hl,ht⟩:=Fr r1;refine ⟨l,as,qs,rfl,s.seq h1,hl,λi a q e1 e2=>We s (ht i a q e1 e2),ok,h64,λπ p hπ hp=>?_⟩;have hb:∀i∈π,i<qs.length:=λi hi=>Q7.mp (hπ.1.mem_iff.mp hi);have rr:=(Fq hl ht π hb).mono (Yw (s.free hp):Same G (upd G p (.lst (π.map λi=>V.ref (as.getD i 0)))));rw[BU ok hπ] at rr;exact k _ _ _ (Ext.new s hp) (.lst (SqL.of Yx) rr)
theorem XT.or{f:Uy}{p q:List D->Option D}(h1:XT X f p)(h2:XT X f q):XT X f (λxs=>(p xs).orElse λ_=>q xs):=by
 obtain ⟨r1,c1,k1⟩:=h1;obtain ⟨r2,c2,k2⟩:=h2;refine ⟨λxs H Q=>r1 xs H Q∨r2 xs H Q,λpins s σ H xs us Q I rx h=>?_,λvs G H ds d Q s r e k=>?_⟩
 ·rcases h with h|h
  ·exact c1 pins s σ H xs us Q I rx h
  ·exact c2 pins s σ H xs us Q I rx h
 ·dsimp only at e
  cases z:p ds with
  |some d'=>rw[z] at e;cases e;exact .inl (k1 vs G H ds _ Q s r z k)
  |none=>rw[z] at e;exact .inr (k2 vs G H ds _ Q s r e k)
def Sq(xs:List D):Option D:=(Sx xs).orElse λ_=>P6 xs
theorem LM:XT X (.builtin "sorted") Sq:=C9.or C3
theorem FR{ns:List Int}(h:ns.length<64):Sq [.list (ns.map .int)]=some (.list ((YD ns).map .int)):=by unfold Sq;rw[jd h];rfl
theorem qc{qs:LP}(h:qs.length<64)(ok:∀q∈qs,okP q):Sq [.list (qs.map Zn)]=some (.list ((VH qs).map Zn)):=by
 cases qs with
 |nil=>
  have e1:VH []=[]:=by unfold VH;simp
  have e2:YD []=[]:=by unfold YD;simp
  have:=FR (ns:=[]) (by decide)
  rw[e2] at this;rw[e1];exact this
 |cons q r=>
  have e1:Sx [.list ((q::r).map Zn)]=none:=rfl;unfold Sq;rw[e1,Option.orElse];unfold P6;dsimp only;rw[Ee];exact Ql ⟨h,Jn.mpr λq hq=>Q2 (show -1000000<=q.2/\q.2<=1000000 from ok q hq)⟩
end
section
variable{X:Cx}
end
section
variable{X:Cx}{B G0:Hp}{e o a b c tg:UD}{pos p2:Pos}{es rest:List UD}{te to ti:TE}
def TV{β:Type}(p:D->D->Option β)(f:M D)(j:Nat):M β:=Kr f λx=>λZ=>match Z[j]? with
 |some (some (.pub d))=>Ks (p x d) Z
 |some (some (.own ds))=>Ks (p x (.list ds)) Z
 |_=>.bad
theorem Le{K:Frag}{σ:St}{H:Hp}{p:D->D->Option Bool}{r:R2}{j:Nat}{f:M D}{Q:Bool->Hp->Prop}{QV:VK}(hq:∀t H3,Q t H3->QV (.bl t) H3)
  (hr:∀v u G H x y d Q,Same G H->Rep K G v x->Rep K G u y->p x y=some d->Q (.bl d) H->r v u H Q)
  (q:tBo K B G0 (TV p f j) σ H Q):tD K B G0 f σ H λx H1=>ZT j σ H1 λy H2=>r x y H2 QV:=by
 refine tM.one (R:=Rep K) q λv H2 G Z x k rx a=>?_
 cases z:Z[j]? with
 |none=>rw[z] at a;exact a.elim
 |some o=>
  cases o with
  |none=>rw[z] at a;exact a.elim
  |some sl=>
   cases sl with
   |deep _ _=>rw[z] at a;exact a.elim
   |pub d=>
    rw[z] at a;dsimp only at a;obtain ⟨d',e',a'⟩:=aft.opt a;obtain ⟨u,h1,h2⟩:=k.pub j d z;exact ⟨u,h1,hr v u G H2 x d d' _ k.gh rx h2 e' (hq _ _ (a' d' G H2 k (.refl _) rfl))⟩
   |own ds=>
    rw[z] at a;dsimp only at a;obtain ⟨d',e',a'⟩:=aft.opt a;obtain ⟨ad,vs,h1,h2,h3,h4,h5⟩:=k.own j ds z;exact ⟨.ref ad,h1,hr v (.ref ad) H2 H2 x (.list ds) d' _ (.refl _) (rx.mono k.gh) (.lst (SqL.of h4) (h5.mono k.gh)) e' (hq _ _ (a' d' G H2 k (.refl _) rfl))⟩
theorem BB{op:CmpOp}{p:D->D->Option Bool}{j:Nat}{f:M D}(o:OpB X (UH op) p)(ha:PE X a (tD X.K B G0 f))(hb:PE X b (ZT j))(hm:behindInMarks op b=false) :
  PT X (.Compare a [op] [b] pos) (tBo X.K B G0 (TV p f j)):=by
 obtain ⟨r,h,i⟩:=o;exact Xg (Mj h ha hb hm) λσ H Q q=>Le (λt H3 z=>⟨t,rfl,z⟩) i q
theorem BA{op:CmpOp}{p:D->D->Option Bool}{j:Nat}{f:M D}(o:OpB X (UH op) p)(ha:PE X a (tD X.K B G0 f))(hb:PE X b (ZT j))(hm:behindInMarks op b=false) :
  PE X (.Compare a [op] [b] pos) (tD X.K B G0 (Ka UL (TV p f j))):=by
 obtain ⟨r,h,i⟩:=o;exact KW (Mk h ha hb hm) λσ H Q q=>Le (λt H3 z=>z) i (tBo.val q)
theorem Nc{β:Type}{p:D->D->Option β}{f:M D}{j:Nat}{Z Z1:UR}{x:D}{ds:List D}{r:β}(h1:f Z=.ok x Z1)(h2:Z1[j]?=some (some (.own ds)))(h3:p x (.list ds)=some r):TV p f j Z=.ok r Z1:=by
 unfold TV;exact Zq h1 (by rw[h2];exact Y5 h3)
end
def Wv(K:Frag)(B G0:Hp)(f:M (List D)):TA:=λσ H Q=>∃G Z,EOk K B G0 G H σ Z/\match f Z with
 |.ok ds Z'=>∀vs G' H',EOk K B G0 G' H' σ Z'->Same G G'->Reps K H' vs ds->Q vs H'
 |.bad=>False
def W8(Z:UR)(j:Nat):Option D:=match Z[j]? with
 |some (some (.pub d))=>some d
 |some (some (.own ds))=>some (.list ds)
 |some (some (.deep _ d))=>some d
 |_=>none
theorem EOk.tree{K:Frag}{B G0 G H:Hp}{σ:St}{Z:UR}{j:Nat}{d:D}(k:EOk K B G0 G H σ Z)(h:W8 Z j=some d):∃v,σ[j]?=some (some v)/\Rep K H v d:=by
 unfold W8 at h
 split at h
 ·rename_i d' e
  cases h;obtain ⟨v,h1,h2⟩:=k.pub j _ e
  exact ⟨v,h1,h2.mono k.gh⟩
 ·rename_i ds e
  cases h;obtain ⟨a,vs,h1,h2,h3,h4,h5⟩:=k.own j ds e
  exact ⟨.ref a,h1,.lst (SqL.of h4) (h5.mono k.gh)⟩
 ·rename_i p d' e
  cases h;obtain ⟨ω,k1,k2⟩:=k.dp
  obtain ⟨v,fp,s,r,_⟩:=k1 j p _ e;exact ⟨v,s,r.rep k.gh⟩
 ·cases h
def Pp(j:Nat)(g:M (List D)):M (List D):=λZ=>match W8 Z j with
 |none=>.bad
 |some _=>(Kr g λxs=>λZ'=>match W8 Z' j with
  |some d=>.ok (d::xs) Z'
  |none=>.bad) Z
def Pm(n:Nat)(F:List D->Option D)(g:M (List D)):M D:=Kr g λxs=>if xs.length=n then (match F xs with
 |some d=>if flat d=true then U1 d else λ_=>.bad
 |none=>λ_=>.bad) else λ_=>.bad
section
variable{X:Cx}{B G0:Hp}{e o a b c tg:UD}{pos p2:Pos}{es rest:List UD}
theorem Bz:PA X [] (Wv X.K B G0 UT):=Vf Sv λσ H Q ⟨G,Z,k,a⟩=>a [] G H k (.refl _) .nil
theorem BR{f:M D}{g:M (List D)}(ha:PE X e (tD X.K B G0 f))(hr:PA X es (Wv X.K B G0 g))(hs:UG (e::es) X.env=(false,eval e X.env)::UG es X.env:=by rfl) :
  PA X (e::es) (Wv X.K B G0 (UY f g)):=Vf (VQ ha hr hs) λσ H Q ⟨G,Z,k,a⟩=>by
 refine ⟨G,Z,k,?_⟩;unfold UY Kr at a
 cases z:f Z with
 |bad=>rw[z] at a;exact a.elim
 |ok d Z1=>
 rw[z] at a;dsimp only at a;intro v G1 H1 k1 s1 r1;refine ⟨G1,Z1,k1,?_⟩
 cases z2:g Z1 with
 |bad=>rw[z2] at a;exact a.elim
 |ok xs Z2=>
 rw[z2] at a;dsimp only[U1] at a;intro vs G2 H2 k2 s2 r2;exact a (v::vs) G2 H2 k2 (s1.trans s2) (.cons ((r1.mono s2).mono k2.gh) r2)
theorem qb{j:Nat}{g:M (List D)}(ha:PE X e (ZT j))(hr:PA X es (Wv X.K B G0 g))(hs:UG (e::es) X.env=(false,eval e X.env)::UG es X.env:=by rfl) :
  PA X (e::es) (Wv X.K B G0 (Pp j g)):=Vf (VQ ha hr hs) λσ H Q ⟨G,Z,k,a⟩=>by
 unfold Pp at a
 cases z0:W8 Z j with
 |none=>rw[z0] at a;exact a.elim
 |some d0=>
 rw[z0] at a;obtain ⟨v,hv,_⟩:=k.tree z0;refine ⟨v,hv,G,Z,k,?_⟩;dsimp only[Kr] at a
 cases z2:g Z with
 |bad=>rw[z2] at a;exact a.elim
 |ok xs Z2=>
 rw[z2] at a;dsimp only at a;intro vs G2 H2 k2 s2 r2
 cases z:W8 Z2 j with
 |none=>rw[z] at a;exact a.elim
 |some d=>
 rw[z] at a;obtain ⟨v',hv',rv⟩:=k2.tree z;rw[hv] at hv';cases hv';exact a (v::vs) G2 H2 k2 s2 (.cons rv r2)
theorem BQ{k n:Nat}{F:List D->Option D}{g:M (List D)}{x:Str}{p2:Pos}(d:Def X.prog X.w X.K X.mg X.base x k n F)(hr:Room k X.A)(hg:Gl X x)(ha:PA X (e::es) (Wv X.K B G0 g))(hn:(e::es).length=n:=by rfl)
  (hdb:(x==("__debug__" : Str))=false:=by decide) (he:UG (e::es) X.env=(false,eval e X.env)::UG es X.env:=by rfl) (hpl:(backTo pos (UG es X.env)).any (·.1)=false:=by rfl) :
  PE X (.Call (.Name x p2) (e::es) [] pos) (tD X.K B G0 (Pm n F g)):=by
 obtain ⟨f,fd,ps,h1,h2,h3,FK⟩:=d;refine KW (HI FK hr hg h1 h2 h3 .nil Lu ha hdb he hpl) λσ H Q ⟨G,Z,k,a⟩=>⟨G,Z,k,?_⟩;unfold Pm Kr at a
 cases z:g Z with
 |bad=>rw[z] at a;exact a.elim
 |ok ds Z1=>
 rw[z] at a;dsimp only at a;intro vs G1 H1 k1 s1 r1
 by_cases hl:ds.length=n
 ·rw[Ql hl] at a
  cases zF:F ds with
  |none=>rw[zF] at a;exact a.elim
  |some d=>
  rw[zF] at a;dsimp only at a
  by_cases hf:flat d=true
  ·rw[Ql hf] at a
   refine ⟨H1,ds,d,by rw[Q9,r1.length];exact hl,.refl _,by rw[Q9];exact r1,zF,λv G2 H2 ex rv=>?_⟩
   exact a v G1 H2 (k1.ext ⟨ex.h,.refl _,k1.gh.trans ex.h,λ_ _ _ n=>n⟩) s1 (rv.flat hf)
  ·rw[Qs hf] at a;exact a.elim
 ·rw[Qs hl] at a;exact a.elim
theorem BP{j:Nat}{g:M (List D)}{Z Z1:UR}{xs:List D}{d0 d:D}(h0:W8 Z j=some d0)(h1:g Z=.ok xs Z1)(h2:W8 Z1 j=some d):Pp j g Z=.ok (d::xs) Z1:=by
 unfold Pp;rw[h0];dsimp only[Kr];rw[h1];dsimp only;rw[h2]
theorem By{n:Nat}{F:List D->Option D}{g:M (List D)}{Z Z1:UR}{xs:List D}{r:D}(h1:g Z=.ok xs Z1)(h2:xs.length=n)(h3:F xs=some r)(h4:flat r=true:=by rfl):Pm n F g Z=.ok r Z1:=by
 unfold Pm;exact Zq h1 (by rw[if_pos h2,h3];dsimp only;rw[if_pos h4];rfl)
end
end DL
namespace HT
open PySem PyProof.Rows
theorem BO{xs ys:List Int}{i:Nat}(h1:xs.length<=i):Xd (ys.drop i) (xs.drop i)=false:=by
 rw[List.drop_of_length_le h1]
 cases ys.drop i <;> rfl
theorem BN{xs ys:List Int}{i:Nat}(h1:ys.length<=i)(h2:i<xs.length):Xd (ys.drop i) (xs.drop i)=true:=by
 rw[List.drop_of_length_le h1,QQ h2];rfl
theorem BM{xs ys:List Int}{i:Nat}{a c:Int}(h1:xs[i]?=some a)(h2:ys[i]?=some c):Xd (ys.drop i) (xs.drop i)=if c=a then Xd (ys.drop (i+1)) (xs.drop (i+1)) else decide (c<a):=by
 obtain ⟨l1,e1⟩:=Qg.mp h1;obtain ⟨l2,e2⟩:=Qg.mp h2;rw[QQ l1,QQ l2,F1,e1,e2]
section
open PySem.SeqAt
open PySem.AutoSeq1 (wpAny_loadPart')
open PySem.MeetsSeq PySem.MeetsSeq2 PySem.MeetsSeq3
theorem BL(A:Around)(s:Uz)(a:Int)(t:Tok)(c:Int)(u:Tok)(prog:UA)(w:World)(E:Uy->Uz->Prop)(Q:Uy->Uz->Prop)(h:Q (.bool (decide (c<a))) s) :
  UF (model prog w) A (richCompare .Gt (.int a t) (.int c u)) Q E s :=
 (PyProof.Rows.gt_int h:UF (model prog w) A (UH .Gt (.int a t) (.int c u)) Q E s)
theorem qa{p q:UB}{us vs:Array Uy}{m m':Nat}{dp dq:Option UB}{sp sq:Array (Option Uy)}{xs ys:List Int}(ix:IntsAre us.toList xs)(iy:IntsAre vs.toList ys) :
  ∀d i:Nat,us.size-i=d->i<=us.size->i<=vs.size->Meets (Builtin.«list.__eq__.loop» ⟨[.ref p,.ref q,rawInt i,rawInt 4],[]⟩)
   (λ_ R s=>s.heap.get? p=some { cls:=.type "list", dict:=dp,data:=.seq us m,slots:=sp }/\s.heap.get? q=some { cls:=.type "list", dict:=dq,data:=.seq vs m',slots:=sq } /\
    R (.ok (.ret (.bool (Xd (ys.drop i) (xs.drop i))))) s):=by
 have zx:us.size=xs.length:=by rw[←ix.length];simp
 have zy:vs.size=ys.length:=by rw[←iy.length];simp
 intro d
 induction d with
 |zero=>
  intro i hd h1 h2 prog w A R s h;obtain ⟨hp,g,dd,tk,os⟩:=s;obtain ⟨gp,gq,h⟩:=h
  wp_walk using wpAny_loadPart' gp,wpAny_loadPart' gq
  have n1:us[((i:Nat):Int).toNat]?=none:=by simp;omega
  rw[n1]
  wp_walk using wpAny_loadPart' gp,wpAny_loadPart' gq
  show R (.ok (.ret (.bool (decide (us.size > vs.size))))) _;rw[QG (by omega)]
  rw[BO (by omega)] at h
  exact h
 |succ d ih=>
  intro i hd h1 h2 prog w A R s h;obtain ⟨hp,g,dd,tk,os⟩:=s;obtain ⟨gp,gq,h⟩:=h
  wp_walk using wpAny_loadPart' gp,wpAny_loadPart' gq
  have lt1:i<us.size:=by omega
  have s1:us[((i:Nat):Int).toNat]?=some us[i]:=by simp[lt1]
  obtain ⟨a,t,ea,xa⟩:=ix.at (i:=i) (v:=us[i]) (by simp[lt1])
  rcases Nat.lt_or_ge i vs.size with lt2|ge2
  ·have s2:vs[((i:Nat):Int).toNat]?=some vs[i]:=by simp[lt2]
   obtain ⟨c,u,ec,yc⟩:=iy.at (i:=i) (v:=vs[i]) (by simp[lt2])
   rw[s1,s2,ea,ec];rw[BM xa yc] at h;obtain ⟨e,he,hiff⟩:=AM A.in1 ⟨hp,g,dd,tk,os⟩ a t c u;refine Qf (he prog w _ _ ?_)
   cases e with
   |true=>
    have hac:a=c:=hiff.mp rfl;rw[Ql hac.symm] at h
    wp_walk
    have up:((i:Int)+1)=((i+1:Nat):Int):=by omega
    rw[up]
    exact ⟨plainId_quiet plain_eq_loop _,JI entry_eq_loop (by
     rw[Around.under_plainId plain_eq_loop _];exact ih (i+1) (by omega) (by omega) (by omega) prog w A R _ ⟨gp,gq,h⟩)⟩
   |false=>
    have hac:¬c=a:=λz=>absurd (hiff.mpr z.symm) JJ;rw[Qs hac] at h;have rc:=BL A.in1 ⟨hp,g,dd,tk,os⟩ a t c u prog w
    wp_walk using wpAny_loadPart' gp,wpAny_loadPart' gq
    rw[s1,s2,ea,ec]
    wp_walk using rc
    exact h
  ·have n2:vs[((i:Nat):Int).toNat]?=none:=by simp;omega
   rw[s1,n2]
   wp_walk using wpAny_loadPart' gp,wpAny_loadPart' gq
   show R (.ok (.ret (.bool (decide (us.size > vs.size))))) _;rw[Q2 (by omega)]
   rw[BN (by omega) (by omega)] at h
   exact h
theorem jx{p q:UB}{us vs:Array Uy}{m m':Nat}{dp dq:Option UB}{sp sq:Array (Option Uy)}{xs ys:List Int}(ix:IntsAre us.toList xs)(iy:IntsAre vs.toList ys) :
  Meets (Builtin.«list.__gt__» ⟨[.ref p,.ref q],[]⟩)
   (λ_ R s=>s.heap.get? p=some { cls:=.type "list", dict:=dp,data:=.seq us m,slots:=sp }/\s.heap.get? q=some { cls:=.type "list", dict:=dq,data:=.seq vs m',slots:=sq } /\
    R (.ok (.ret (.bool (Xd ys xs)))) s):=by
 intro prog w A R s h;obtain ⟨hp,g,dd,tk,os⟩:=s;obtain ⟨gp,gq,h⟩:=h;have f3:=AutoSeq1.sub_list_list
 wp_walk using wpAny_loadPart' gp,wpAny_loadPart' gq
 exact ⟨plainId_quiet plain_eq_loop _,JI entry_eq_loop (by
  rw[Around.under_plainId plain_eq_loop _];exact qa ix iy _ 0 rfl (Nat.zero_le _) (Nat.zero_le _) prog w A R _ ⟨gp,gq,by simpa using h⟩)⟩
end
section
variable{prog:UA}{w:World}{A:Around}{E:Uy->Uz->Prop}{s:Uz}
theorem kE{p q:UB}{us vs:Array Uy}{xs ys:List Int}{Q:Uy->Uz->Prop}(hl:s.heap.IsList p us)(hb:s.heap.IsList q vs)(ix:IntsAre us.toList xs)(iy:IntsAre vs.toList ys)
  (hu:A.units<cLine) (h:Q (.bool (Xd ys xs)) s):UF (model prog w) A (UH .Gt (.ref p) (.ref q)) Q E s:=by
 obtain ⟨⟨cls,dd,data,sl⟩,ho,hc,n,hd⟩:=id hl;obtain ⟨⟨cls2,dd2,data2,sl2⟩,ho2,hc2,n2,hd2⟩:=id hb;simp only at hc hd hc2 hd2;subst hc hd hc2 hd2
 exact richCompare_meets_room (op:=.Gt) ⟨_,ho,rfl⟩ ⟨_,ho2,rfl⟩ PySem.F.slot_list_gt PySem.F.entry_list_gt (PySem.F.args_list_gt_2 _ _) (jx ix iy)
  ⟨ho,ho2,show Value.bool (Xd ys xs)≠Value.notImplemented/\Q (.bool (Xd ys xs)) s from ⟨(λx=>nomatch x),h⟩⟩ hu
end
end HT
namespace DL
open PySem PySem.Spec L2
open PyProof.Rows hiding St
section
variable{X:Cx}
def Vi(x y:D):Option Bool:=match x,y with
 |.list xs,.list ys=>(match Y1 xs,Y1 ys with
  |some ns,some ms=>some (HT.Xd ms ns)
  |_,_=>none)
 |_,_=>none
def rGtL(K:Frag):R2:=λx y H Q=>∃a b ns ms,x=.ref a/\y=.ref b/\SqL K H a (ns.map V.int)/\SqL K H b (ms.map V.int)/\Q (.bl (HT.Xd ms ns)) H
theorem EY(hu:X.A.units<cLine):OpR X (UH .Gt) (rGtL X.K):=by
 intro pins s σ H x y v u Q I rx ry h;obtain ⟨a,b,ns,ms,rfl,rfl,ha,hb,q⟩:=h;cases rx;cases ry;obtain ⟨its,r1,p1,_⟩:=I.list ha;obtain ⟨its2,r2,p2,_⟩:=I.list hb;exact HT.kE p1.isList p2.isList (F0 r1) (F0 r2) hu ⟨.bl (HT.Xd ms ns),H,I,rfl,q⟩
theorem ED(hu:X.A.units+64<cLine):OpB X (UH .Gt) Vi:=by
 refine ⟨_,EY (by omega),λv u G H x y d Q s rx ry e k=>?_⟩
 unfold Vi at e
 split at e
 ·rename_i xs ys
  cases z1:Y1 xs with
  |none=>rw[z1] at e;cases e
  |some ns=>
   rw[z1] at e
   cases z2:Y1 ys with
   |none=>rw[z2] at e;cases e
   |some ms=>
    rw[z2] at e;cases e;obtain ⟨a,vs,rfl,q1,w1⟩:=rx.lst_inv;obtain ⟨b,us,rfl,q2,w2⟩:=ry.lst_inv;have e1:=SJ w1 z1;have e2:=SJ w2 z2;subst e1 e2;exact ⟨a,b,ns,ms,rfl,rfl,s.seq q1,s.seq q2,k⟩
 ·cases e
def Wy(x y:D):Option Bool:=((oIB λi j=>decide (j<i)) x y).orElse λ_=>Vi x y
theorem EC(hu:X.A.units+64<cLine):OpB X (UH .Gt) Wy:=OpB.or Y7 (ED hu)
theorem Bx{ns ms:List Int}:Wy (.list (ns.map .int)) (.list (ms.map .int))=some (HT.Xd ms ns):=by
 have e:Vi (.list (ns.map .int)) (.list (ms.map .int))=some (HT.Xd ms ns):=by
  unfold Vi;dsimp only;rw[SH,SH]
 unfold Wy;rw[e]
 rfl
end
section
variable{X:Cx}
def Pl(x y:D):Option (List D):=match x,y with
 |.list xs,.int k=>if -1000000<=k/\k<=1000000/\xs.length*k.toNat<=1000000 then some (UJ k.toNat xs).flatten else none
 |_,_=>none
theorem A9{x y:D}{ds:List D}(h:Pl x y=some ds):∃xs k,x=.list xs/\y=.int k/\(-1000000<=k/\k<=1000000/\xs.length*k.toNat<=1000000)/\ds=(UJ k.toNat xs).flatten:=by
 unfold Pl at h
 split at h
 ·split at h
  ·rename_i xs k c
   cases h;exact ⟨xs,k,rfl,rfl,c,rfl⟩
  ·cases h
 ·cases h
def Su(f g:M D):M (List D):=Kr f λx=>Kr g λy=>Ks (Pl x y)
theorem Ms{f g:M D}(ha:PE X a (tD X.K B G0 f))(hb:PE X b (tD X.K B G0 g)):PE X (.BinOp a .Mult b pos) (tL X.K B G0 (Su f g)) :=
 KW (Lp HF ha hb) λσ H Q ⟨G,Z,k,q⟩=>by
  refine ⟨G,Z,k,?_⟩;unfold Su Kr at q
  cases z:f Z with
  |bad=>rw[z] at q;exact q.elim
  |ok x Z1=>
   rw[z] at q;dsimp only at q;intro v G1 H1 k1 s1 r1;refine ⟨G1,Z1,k1,?_⟩
   cases z2:g Z1 with
   |bad=>rw[z2] at q;exact q.elim
   |ok y Z2=>
    rw[z2] at q;dsimp only[Ks] at q;intro u G2 H2 k2 s2 r2
    cases z3:Pl x y with
    |none=>rw[z3] at q;exact q.elim
    |some ds=>
     rw[z3] at q;obtain ⟨xs,i,rfl,rfl,c,rfl⟩:=A9 z3;obtain ⟨l,vs,rfl,h1,w⟩:=r1.lst_inv;exact ⟨l,i,vs,rfl,r2.int_inv,k2.gh.seq (s2.seq h1),by omega,by omega,by rw[w.length];exact QT c.2.2 lim,λp hp=>q p _ G2 _ (k2.ext (Ext.hid k2.gh hp)) (s1.trans s2) (NewL.of k2 hp ((w.mono s2).rep _))⟩
theorem Mr{f g:M D}{Z Z1 Z2:UR}{x:D}{n:Nat}(h1:f Z=.ok (.list [x]) Z1)(h2:g Z1=.ok (.int n) Z2)(h:n<=1000):Su f g Z=.ok (UJ n x) Z2:=by
 unfold Su Kr;rw[h1];dsimp only;rw[h2];dsimp only[Ks]
 have e:Pl (.list [x]) (.int n)=some (UJ n x):=by
  unfold Pl;dsimp only;rw[Ql ⟨by omega,by omega,by show 1*_<=_;omega⟩]
  congr 1
  rw[Qv];clear h2 h
  induction n with
  |zero=>rfl
  |succ n ih=>rw[QS,QN,ih,QS];rfl
 rw[e]
end
end DL
namespace DL
open PySem
theorem lz0{P:List Uy->Prop}{us:List Uy}(hl:us.length=0)(h:P []):P us:=by
 cases us with
 |nil=>exact h
 |cons a r=>cases hl
theorem lzS{P:List Uy->Prop}{us:List Uy}{n:Nat}(hl:us.length=n+1)(h:∀a r,r.length=n->P (a::r)):P us:=by
 cases us with
 |nil=>cases hl
 |cons a r=>exact h a r (Nat.succ.inj hl)
theorem lz1{P:List Uy->Prop}{us:List Uy}(hl:us.length=1)(h:∀a,P [a]):P us:=lzS hl λa r e=>lz0 (P:=λr=>P (a::r)) e (h a)
theorem lz2{P:List Uy->Prop}{us:List Uy}(hl:us.length=2)(h:∀a b,P [a,b]):P us:=lzS hl λa r e=>lz1 (P:=λr=>P (a::r)) e (h a)
theorem lz3{P:List Uy->Prop}{us:List Uy}(hl:us.length=3)(h:∀a b c,P [a,b,c]):P us:=lzS hl λa r e=>lz2 (P:=λr=>P (a::r)) e (h a)
theorem lz4{P:List Uy->Prop}{us:List Uy}(hl:us.length=4)(h:∀a b c d,P [a,b,c,d]):P us:=lzS hl λa r e=>lz3 (P:=λr=>P (a::r)) e (h a)
theorem lz5{P:List Uy->Prop}{us:List Uy}(hl:us.length=5)(h:∀a b c d e,P [a,b,c,d,e]):P us:=lzS hl λa r e=>lz4 (P:=λr=>P (a::r)) e (h a)
theorem bz1{fd:UC}{ps:List Str}{us:List Uy}(hl:us.length=1)(h:∀a,bindArgs fd { pos:=[a] }=pure (ps.zip [a])):bindArgs fd { pos:=us }=pure (ps.zip us):=lz1 (P:=λus=>bindArgs fd { pos:=us }=pure (ps.zip us)) hl h
theorem bz2{fd:UC}{ps:List Str}{us:List Uy}(hl:us.length=2)(h:∀a b,bindArgs fd { pos:=[a,b] }=pure (ps.zip [a,b])):bindArgs fd { pos:=us }=pure (ps.zip us):=lz2 (P:=λus=>bindArgs fd { pos:=us }=pure (ps.zip us)) hl h
theorem bz3{fd:UC}{ps:List Str}{us:List Uy}(hl:us.length=3)(h:∀a b c,bindArgs fd { pos:=[a,b,c] }=pure (ps.zip [a,b,c])):bindArgs fd { pos:=us }=pure (ps.zip us):=lz3 (P:=λus=>bindArgs fd { pos:=us }=pure (ps.zip us)) hl h
theorem bz4{fd:UC}{ps:List Str}{us:List Uy}(hl:us.length=4)(h:∀a b c d,bindArgs fd { pos:=[a,b,c,d] }=pure (ps.zip [a,b,c,d])):bindArgs fd { pos:=us }=pure (ps.zip us):=lz4 (P:=λus=>bindArgs fd { pos:=us }=pure (ps.zip us)) hl h
theorem bz5{fd:UC}{ps:List Str}{us:List Uy}(hl:us.length=5)(h:∀a b c d e,bindArgs fd { pos:=[a,b,c,d,e] }=pure (ps.zip [a,b,c,d,e])):bindArgs fd { pos:=us }=pure (ps.zip us):=lz5 (P:=λus=>bindArgs fd { pos:=us }=pure (ps.zip us)) hl h
end DL
namespace DL
open PySem PySem.Spec L2
open PyProof.Rows hiding St
def whole(h:Heap):Frag:=(UI h.objs.size).filterMap λa=>(h.get? a).map λo=>(a,o)
theorem Fp{g:UB->Option Obj}{x:UB}:∀l:List UB,(l.filterMap λa=>(g a).map λo=>(a,o)).lookup x=if x∈l then g x else none
 |[]=>rfl
 |y::l=>by
  have ih:=Fp (g:=g) (x:=x) l
  by_cases e:x=y
  ·subst e
   rw[Ql Qn]
   cases z:g x with
   |none=>rw[List.filterMap_cons_none (by rw[z];rfl),ih,z];split <;> rfl
   |some o=>rw[List.filterMap_cons_some (by rw[z];rfl),Q4,beq_self_eq_true]
  ·have m:(x∈y::l)=(x∈l):=by simp[List.mem_cons,e]
   have b:(x==y)=false:=by simpa using e
   have ih':(if x∈y::l then g x else none)=_:=(by simp only[m];exact ih.symm)
   rw[ih']
   cases z:g y with
   |none=>rw[List.filterMap_cons_none (by rw[z];rfl)]
   |some o=>rw[List.filterMap_cons_some (by rw[z];rfl),Q4,b]
theorem Oz{h:Heap}{a:UB}:(whole h).lookup a=h.get? a:=by
 unfold whole;rw[Fp];split
 ·rfl
 ·rename_i n
  cases z:h.get? a with
  |none=>rfl
  |some o=>exact absurd (Q7.mpr (Qi z)) n
theorem BK(h:Heap):(whole h).In h:=λa o e=>by rw[Oz] at e;exact e
def EB(st:Stmt):Option DefRec:=match st with
 |.FunctionDef name a b _ _ _ sc _ _ pos=>some ⟨name,a,b,sc,pos⟩
 |_=>none
def NN(st:Stmt):Option Str:=match st with
 |.FunctionDef name _ _ _ _ _ _ _ _ _=>some name
 |_=>none
def EA(st:Stmt):Pos:=match st with
 |.FunctionDef _ _ _ _ _ _ _ _ _ pos=>pos
 |_=>⟨0,0,0,0⟩
abbrev Ym(p:UA)(i:Nat):Stmt:=p.main.body.getD i (.Pass ⟨0,0,0,0⟩)
def P5(p:UA)(ix:List Nat):List DefRec:=ix.filterMap λi=>EB (Ym p i)
section
variable{p q:UA}{loose:List Str}{mean:ExcName->Option Uy}{mg mb:Str->Option Uy}{h:Heap}{w:World}
theorem LK{ix:List Nat}(T:Top q loose mean mg mb h)(e:recsOf q=P5 p ix)(i:Nat)(x:Str)(hi:ix.contains i=true)(hn:NN (Ym p i)=some x):∃f fd,mg x=some (.ref f)/\Fun (whole h) x x (Ym p i) f fd:=by
 cases hs:Ym p i with
 |FunctionDef name a b _ _ _ sc _ _ pos=>
  rw[hs] at hn;cases hn
  have hd:(⟨x,a,b,sc,pos⟩:DefRec)∈recsOf q:=by
   rw[e];exact List.mem_filterMap.mpr ⟨i,by simpa using hi,by rw[hs];rfl⟩
  obtain ⟨f,⟨oc,od,dt,osl⟩,pm,cd,doc,h1,h2,h3,h4⟩:=T.fn _ hd;have h3:dt=_:=h3;subst h3;refine ⟨f,_,h1,⟨⟨oc,od,.none,doc,pm,_,cd,_,osl,rfl,by rw[Oz];exact h2,?_⟩,?_⟩⟩
  ·obtain ⟨c,⟨_,_,dc,_⟩,vs,t,rfl,g1,g2,g3⟩:=h4
   have g2:dc=_:=g2;subst g2;unfold PySem.W.codeIn;dsimp only;rw[Oz,g1];dsimp only;have g4:vs.toList[1]?=some (.str x t):=by rw[Array.getElem?_toList];exact g3
   cases hv:vs.toList with
   |nil=>rw[hv] at g4;cases g4
   |cons v0 r=>
    rw[hv] at g4
    cases r with
    |nil=>cases g4
    |cons v1 r=>cases g4;exact beq_self_eq_true _
  ·unfold PySem.W.keepIn
   dsimp only;rw[Oz,h2]
 |_=>rw[hs] at hn;cases hn
theorem A8{K:Frag}{x qual y:Str}{st:Stmt}{f:UB}{fd:UC}(F:Fun K x qual st f fd)
  (hb:∀(kV doc pm:Uy)(an:Option UB)(cdv ct v:Uy),bindArgs (PySem.W.fnOf x qual (Py st) (T9 st) (Kv st) .none kV doc pm an cdv ct) ⟨[v],[]⟩=pure [(y,v)]) (s:Uz) (v:Uy):BindsTo s fd ⟨[v],[]⟩ [(y,v)]:=by
 obtain ⟨oc,od,kV,doc,pm,an,cdv,ct,osl,rfl,lk,hcd⟩:=F.ex;exact .of_eq (hb kV doc pm an cdv ct v)
def OF(q:UA)(loose:List Str)(x:Str):Bool :=
 !startupNames.contains x && !loose.contains x && !((recsOf q).map (·.name)).contains x && !((litsOf q).map (·.1)).contains x && !((clssOf q loose).map (·.name)).contains x
theorem XU(T:Top q loose mean mg mb h){xs:List Str}(e:xs.all (OF q loose)=true){x:Str}(hx:x∈xs):mg x=none:=by
 have:=Jn.mp e x hx
 unfold OF at this;simp only[Jm,Bool.not_eq_true',List.contains_eq_mem,decide_eq_false_iff_not] at this;exact T.free x this.1.1.1.1 this.1.1.1.2 this.1.1.2 this.1.2 this.2
theorem Nm(T:Top q loose mean mg mb h){x:Str}{i:Int}(e:valOf q x=some (.int i)):∃t,mg x=some (.int i t):=by
 obtain ⟨v,h1,h2⟩:=T.const x _ e
 have:=h2 h
 cases this;exact ⟨_,h1⟩
theorem Ld:∀{vs:List Uy}{ss:List Str},StrsAre vs ss->Vals (ss.map V.str) vs
 |_,_,.nil=>.nil
 |_,_,.cons y t r=>.cons ⟨t,rfl⟩ (Ld r)
theorem A7(B:Tables q w mg h){x:Str}{ss:List Str}(e:tupStrsOf q x=some ss)(hl:ss.length<=1000) :
  ∃ad o its n,mg x=some (.ref ad)/\(whole h).lookup ad=some o/\o.cls=.type "tuple" /\ o.data=.seq its n/\its.size<=UE/\Vals (ss.map V.str) its.toList:=by
 obtain ⟨a,vs,h1,⟨o,h2,h3,n,h4⟩,h5⟩:=B.tupS x ss e;have r:=Ld h5;refine ⟨a,o,_,n,h1,by rw[Oz];exact h2,h3,h4,?_,r⟩
 have:=r.length
 rw[Qb] at this;have l:(1000:Nat)<=UE:=by decide
 rw[QK];omega
end
def scOk(sc:Scope)(N gl:List Str):Bool:=(N.all λx=>match sc.names.lookup x with|some .local=>true|some .cell=>true|_=>false)&&gl.all λx=>match sc.names.lookup x with|some .globalImplicit=>true|_=>false
def fnB(sc:Scope)(N gl:List Str):Bool:=decide (sc.kind=.function) && !sc.isCoroutine && !sc.isGenerator&&decide N.Nodup&&(sc.names.all λy=>match y.2 with | .free=>false|_=>true)&&scOk sc N gl
structure FnNm(sc:Scope)(N gl:List Str):Prop where
 kind:sc.kind=.function
 co:sc.isCoroutine=false
 gen:sc.isGenerator=false
 nd:N.Nodup
 nofree:∀y∈sc.names,y.2≠.free
 nm:∀x∈N,sc.names.lookup x=some .local∨sc.names.lookup x=some .cell
 gl:∀x∈gl,sc.names.lookup x=some .globalImplicit
theorem K9{sc:Scope}{N gl:List Str}(H:fnB sc N gl=true):FnNm sc N gl:=by
 unfold fnB scOk at H;simp only[Jm,Q8,Bool.not_eq_true',Jn] at H;obtain ⟨⟨⟨⟨⟨h1,h2⟩,h3⟩,h4⟩,h5⟩,h6,h7⟩:=H;refine ⟨h1,h2,h3,h4,λy hy e=>?_,λx hx=>?_,λx hx=>?_⟩
 ·have:=h5 y hy;rw[e] at this;cases this
 ·have:=h6 x hx
  split at this
  ·rename_i e;exact .inl e
  ·rename_i e;exact .inr e
  ·cases this
 ·have:=h7 x hx
  split at this
  ·rename_i e;exact e
  ·cases this
section
variable{sc:Scope}{N gl:List Str}{x:Str}
theorem nq(H:FnNm sc N gl):N.Nodup:=H.nd
theorem fq(H:FnNm sc N gl)(n:Nat):Og N (N.take n) sc:=⟨H.kind,H.co,H.gen,H.nd,by rw[Q3,List.take_eq_take_iff];omega,λx hx=>H.nm x (List.mem_of_mem_take hx),H.nofree⟩
theorem lq(H:FnNm sc N gl)(i:Nat)(h:N[i]?=some x:=by rfl):L2.Loc sc x:=H.nm x (Qp h)
theorem gq(H:FnNm sc N gl)(i:Nat)(h:gl[i]?=some x:=by rfl):sc.names.lookup x=some .globalImplicit:=H.gl x (Qp h)
theorem pq{X:Cx}{pos:Pos}(H:FnNm X.env.scope X.N gl)(i:Nat)(h:X.N[i]?=some x:=by rfl)(hd:(x==("__debug__" : Str))=false:=by decide)(hc:(x==("__classdict__" : Str))=false:=by decide):PE X (.Name x pos) (ZT i) :=
 LI h ((H.nm x (Qp h)).elim .inl λz=>.inr (.inl z)) hd hc
end
theorem Za{q p:UA}{loose:List Str}{mean:ExcName->Option Uy}{mg mb:Str->Option Uy}{h:Heap}{ix:List Nat}(P:UA)(w:World)(base:Heap){ps:List Str}{k n:Nat}{F:List D->Option D}(T:Top q loose mean mg mb h)(e:recsOf q=P5 p ix)(i:Nat)(x:Str)(hi:ix.contains i=true)(hn:NN (Ym p i)=some x)
  (ok:∀{f:UB}{fd:UC},Fun (whole h) x x (Ym p i) f fd->FnOk P w (whole h) mg base CX0 k f fd ps (spD (whole h) n F))
  (hb:∀(kV doc pm:Uy)(an:Option UB)(cdv ct:Uy)(us:List Uy),us.length=ps.length->bindArgs (PySem.W.fnOf x x (Py (Ym p i)) (T9 (Ym p i)) (Kv (Ym p i)) .none kV doc pm an cdv ct) ⟨us,[]⟩=pure (ps.zip us)):Def P w (whole h) mg base x k n F:=by
 obtain ⟨f,fd,m,FU⟩:=LK T e i x hi hn;exact Def.mk m FU (FU.binds hb) (ok FU)
section
variable{X:Cx}{B G0:Hp}{e:UD}{pos:Pos}{es:List UD}
theorem pdf{k kk n:Nat}{F:List D->Option D}{g:M (List D)}{x:Str}{p2:Pos}(d:Def X.prog X.w X.K X.mg X.base x k n F)(hr:Room kk X.A)(hg:Gl X x)(ha:PA X (e::es) (tDs X.K B G0 g))(hk:k<=kk:=by decide)(hn:(e::es).length=n:=by rfl)
  (hdb:(x==("__debug__" : Str))=false:=by decide) (he:UG (e::es) X.env=(false,eval e X.env)::UG es X.env:=by rfl) (hpl:(backTo pos (UG es X.env)).any (·.1)=false:=by rfl) :
  PE X (.Call (.Name x p2) (e::es) [] pos) (tD X.K B G0 (U5 n F g)):=Bd d (hr.mono hk) hg ha hn hdb he hpl
end
theorem Ez{q p:UA}{loose:List Str}{mean:ExcName->Option Uy}{mg mb:Str->Option Uy}{h:Heap}{ix:List Nat}{P:UA}{w:World}{k:Nat}{F:List D->Option D}{y:Str}{fa:UB}(T:Top q loose mean mg mb h)(e:recsOf q=P5 p ix)(i:Nat)(x:Str)(hi:ix.contains i=true)(hn:NN (Ym p i)=some x)(hfa:mg x=some (.ref fa))
  (hb:∀(kV doc pm:Uy)(an:Option UB)(cdv ct v:Uy),bindArgs (PySem.W.fnOf x x (Py (Ym p i)) (T9 (Ym p i)) (Kv (Ym p i)) .none kV doc pm an cdv ct) ⟨[v],[]⟩=pure [(y,v)])
  (ok:∀(base:Heap){f:UB}{fd:UC},Fun (whole h) x x (Ym p i) f fd->FnOk P w (whole h) mg base CX0 k f fd [y] (spD (whole h) 1 F)) :
  ∃fd:UC,(∀(s:Uz)(v:Uy),BindsTo s fd ⟨[v],[]⟩ [(y,v)])/\∀base:Heap,FnOk P w (whole h) mg base CX0 k fa fd [y] (spD (whole h) 1 F):=by
 obtain ⟨f,fd,m,FU⟩:=LK T e i x hi hn
 cases hfa.symm.trans m
 exact ⟨fd,A8 FU hb,λbase=>ok base FU⟩
theorem BJ{l:PySem.W.OpenLaw}{n k:Nat}{q:UA}{loose:List Str}{XP:(Str->Option Uy)->Heap->Prop}{YP:World->Heap->Prop}{d:DefRec}{F:List D->Option D}{x:Str}
  (hn:l.most=some n) (hn2:n<=UE) (hdf:d.params.defaults=[]) (hr:Room k callerA)
  (hF:∀(w:World)(s₀:Uz)(mg mb:Str->Option Uy)(fa:UB)(h:Heap),PySem.W.Ground q loose [] XP w s₀ mg mb h->mg d.name=some (.ref fa) ->
   ∃fd:UC,(∀(s:Uz)(u:Uy),BindsTo s fd ⟨[u],[]⟩ [(x,u)])/\∀base:Heap,FnOk l.prog w (whole h) mg base CX0 k fa fd [x] (spD (whole h) 1 F))
  (hl:∀ns:List Int,ns.length<=n->F [.list (ns.map int)]=some (.bool true)) :
  PySem.W.WalkO q loose XP YP l.row.toRowW d [] (λf vs=>PySem.call f vs):=by
 refine Att.attach_call hn hdf λw s₀ s₁ mg mb fa o pm cd doc a vs ns G Y ho hd hcd hmg hobj hints hlen hg=>?_;obtain ⟨fd,hb,hF⟩:=hF w s₀ mg mb fa _ G hmg;exact AI (BK _) G.T.g G.T.b G.T.builtins G.T.nolimit hg hobj hints (QT hlen hn2) hr (λbase _ _=>hF base) hb (λH hO hS=>Db hS (hl ns hlen)) λH e s' z=>z
section
variable{K:Frag}{G H H':Hp}{nm:Str}{C a:UB}{bm:List Uy}{vs:List V}{ds fs:List D}{dd:Option UB}
end
section
variable{X:Cx}{B G0:Hp}{KX:XW}{e a b c:UD}{pos p2 cpos:Pos}{es:List UD}{st:Stmt}{sts:List Stmt}{nm x:Str}{k kk n:Nat}
end
section
variable{K:Frag}{B G0 G H:Hp}{σ:St}{Z:UR}
end
section
variable{X:Cx}{B G0:Hp}{KX:XW}{e a b c:UD}{pos p2 cpos np hpos:Pos}{es:List UD}{x n:Str}{k kk:Nat}
end
section
variable{P:UA}{w:World}{K:Frag}{mg:Str->Option Uy}{base:Heap}{st:Stmt}{f f0 D:UB}{fd fd0:UC}{q:Str}{p1 p2 p3 p4 p5 p6 p7 p8 p9 r1 r2 r3 r4 r5 r6 r7 r8 r9 q1 q2:Pos}{j1 j2:Nat}
end
section
variable{h h':Heap}{nm:Str}{own:Option Stmt}{C N:UB}{bm:List Uy}{mN:Str->Option Uy}
end
section
variable{h h':Heap}{nm:Str}{own ownD:Option Stmt}{C N D ND:UB}{bm:List Uy}{mN mD:Str->Option Uy}{M:Model}
end
section
variable{h:Heap}{mg:Str->Option Uy}{p:UA}{l:XL0}{i j:Nat}{c:Str×Option Nat}{p1 p2 p3 p4 p5 p6 p7 p8 p9 r1 r2 r3 r4 r5 r6 r7 r8 r9 q1 q2:Pos}{j1 j2:Nat}
end
section
variable{α β:Type}{Z Z1 Z2 Z3 Z':UR}{f:M D}{s t:SM}{Q:Out->Prop}{d:D}{ds fs:List D}{nm x:Str}{o:Out}
end
section
variable{X:Cx}{B G0:Hp}{KX:XW}{e o a b c:UD}{pos p2:Pos}{es rest:List UD}
end
end DL
namespace L2
open PySem PySem.Spec PyProof.Rows
end L2
namespace DL
open PySem PySem.Spec L2
open PyProof.Rows hiding St
section
variable{K:Frag}{B G0 G H:Hp}{σ:St}{Z:UR}
end
section
variable{X:Cx}{B G0:Hp}{KX:XW}{e o a b c:UD}{pos p2:Pos}{es rest:List UD}
end
section
variable{X:Cx}{B G0:Hp}{KX:XW}{e o a b c:UD}{pos p2 cpos:Pos}{es rest:List UD}
end
section
variable{X:Cx}
end
end DL
namespace DL
open PySem PySem.Spec L2 PySem.SeqAt PySem.AutoSeq1
open PyProof.Rows hiding St
section
variable{X:Cx}{pins:List (UB×Obj)}{s:Uz}{σ:L2.St}{G H:Hp}{A:Around}
end
section
variable{X:Cx}{pins:List (UB×Obj)}{s:Uz}{σ:L2.St}{G H:Hp}{A:Around}
end
end DL
namespace DL
open PySem PySem.Spec L2
open PyProof.Rows hiding St
section
variable{X:Cx}{pins:List (UB×Obj)}{s:Uz}{σ:L2.St}{G H:Hp}
end
section
variable{X:Cx}
end
section
variable{X:Cx}{B G0:Hp}{KX:XW}{e:UD}{pos cpos:Pos}{sts sts2:List Stmt}
end
end DL
namespace L2
open PySem PySem.Spec PyProof.Rows
section
variable{prog:UA}{w:World}{A:Around}{E:Uy->Uz->Prop}{s:Uz}{d it:UB}{o:Obj}{es:Array DictEntry}{ep i:Nat}
end
section
variable{X:Cx}{tg:UD}
end
end L2
namespace DL
open PySem PySem.Spec L2
open PyProof.Rows hiding St
section
variable{K:Frag}{B G0 G H:Hp}{σ:St}{Z:UR}
end
section
variable{X:Cx}{B G0:Hp}{KX:XW}{e a b c tg:UD}{pos:Pos}
end
section
variable{X:Cx}{B G0:Hp}{KX:XW}{e a b c tg iter:UD}{pos:Pos}
end
section
variable{X:Cx}
def OE:D->D->Option Bool
 |.bool c,.bool b=>some (!(c==b))
 |_,_=>none
theorem Bw:OpR X (UH .IsNot) (λx y H Q=>∃c b,x=.bl c/\y=.bl b/\Q (.bl (!(c==b))) H):=by
 intro pins s σ H x y v u Q I rx ry h;obtain ⟨c,b,rfl,rfl,q⟩:=h;cases rx;cases ry;unfold UH;refine Qf (wpAny_of_eq (a:=(c==b)) (by cases c <;> cases b <;> rfl) (Qo (NS I q rfl)))
theorem EX:OpB X (UH .IsNot) OE:=⟨_,Bw,λv u G H x y d Q s rx ry e q=>by
 unfold OE at e
 split at e
 ·cases e;exact ⟨_,_,rx.bl_inv,ry.bl_inv,q⟩
 ·cases e⟩
end
end DL
namespace L2
open PySem PySem.Spec PyProof.Rows
end L2
namespace DL
open PySem PySem.Spec L2
open PyProof.Rows hiding St
section
variable{X:Cx}{B G0:Hp}{KX:XW}{e1 e2 e3:UD}{pos:Pos}
end
section
variable{X:Cx}{B G0:Hp}{e:UD}{pos:Pos}{es:List UD}{st:Stmt}{sts:List Stmt}
end
section
variable{prog:UA}{w:World}{A:Around}{E:Uy->Uz->Prop}{s:Uz}
end
end DL
namespace L2
open PySem PySem.Spec PyProof.Rows
section
variable{X:Cx}
end
end L2
namespace DL
open PySem PySem.Spec L2
open PyProof.Rows hiding St
section
variable{X:Cx}{B G0:Hp}{e a b c tg:UD}{pos:Pos}{es rest:List UD}
end
theorem EOk.lent{K:Frag}{B G0 G H:Hp}{σ:St}{Z:UR}(k:EOk K B G0 G H σ Z):EOk K H H H H σ (Yr Z) where
 bh:=.refl _
 gh:=.refl _
 g0:=.refl _
 np:=λ_ _ e n=>by rw[n] at e;cases e
 len:=by unfold Yr;rw[Qb];exact k.len
 pub:=λi d e=>by
  rcases Fe e with e2|⟨ds,rfl,e2⟩|⟨p,e2⟩
  ·exact k.tree (by unfold W8;rw[e2])
  ·exact k.tree (by unfold W8;rw[e2])
  ·exact k.tree (by unfold W8;rw[e2])
 own:=λi ds e=>(PM e).elim
 sep:=λi j a ds es e=>(PM e).elim
 dp:=.of (λ_ _ _ q=>FY q) λ_ _ q=>PM q
section
variable{X:Cx}{B G0:Hp}{KX:XW}{e a b c tg iter:UD}{pos:Pos}
end
end DL
namespace L2
open PySem PySem.Spec PyProof.Rows
section
variable{X:Cx}
end
end L2
namespace DL
open PySem PySem.Spec L2
open PyProof.Rows hiding St
section
variable{X:Cx}{B G0:Hp}{e a b c tg:UD}{pos:Pos}{es rest:List UD}
end
section
variable{prog:UA}{w:World}{A:Around}{E:Uy->Uz->Prop}{s:Uz}
end
section
variable{X:Cx}{B G0:Hp}{e a b c:UD}{pos p2 p3:Pos}
end
section
variable{X:Cx}{B G0:Hp}{KX:XW}{e o a b c tg i:UD}{pos p2:Pos}{es rest:List UD}{te to ti:TE}
end
section
variable{prog:UA}{w:World}{A:Around}{E:Uy->Uz->Prop}{s:Uz}
end
section
variable{prog:UA}{w:World}{A:Around}{E:Uy->Uz->Prop}
variable{K:Type}[DecidableEq K]{knd:KeyKind prog w K}
end
section
variable{prog:UA}{w:World}{A:Around}{E:Uy->Uz->Prop}{h:Heap}{g:Array GenState}{d:Drawn}{t:Nat}{os:OsState}{a:UB}{o:Obj}
end
section
variable{prog:UA}{w:World}{A:Around}{E:Uy->Uz->Prop}
variable{K:Type}[DecidableEq K]{knd:KeyKind prog w K}
end
end DL
namespace L2
open PySem PySem.Spec PyProof.Rows
section
variable{X:Cx}
end
end L2
namespace DL
open PySem PySem.Spec L2
open PyProof.Rows hiding St
section
variable{X:Cx}{B G0:Hp}{a:UD}{p p2 p3 pos:Pos}
end
section
variable{K:Frag}{B G0 G H:Hp}{σ:St}{Z:UR}
end
section
variable{X:Cx}{B G0:Hp}{KX:XW}{e o a b c:UD}{pos:Pos}{es:List UD}{st:Stmt}{sts:List Stmt}{pt:Pat}
end
section
variable{K:Frag}{B G0 G H:Hp}{σ:St}{Z:UR}
end
section
variable{X:Cx}{B G0:Hp}{KX:XW}{e o a b c:UD}{pos:Pos}{es:List UD}
end
section
variable{X:Cx}{B G0:Hp}{KX:XW}{e o a b c:UD}{pos:Pos}{es:List UD}
end
def isT:Option HO->Bool
 |some (.tup _)=>true
 |some (.frz _ (.tup _))=>true
 |_=>false
theorem EW{u:MO}:isT (some u.ho)=false:=by cases u <;> rfl
def Yb(fp:List UB)(G H:Hp):Hp:=λb=>if b∈fp∨isT (H b)=true then H b else G b
section
variable{K:Frag}{B G0 G H:Hp}{fp:List UB}
theorem A6(gh:Same G H):Same G (Yb fp G H):=λb o e=>by
 unfold Yb;split
 ·exact gh b o e
 ·exact e
theorem Bv(gh:Same G H):Same (Yb fp G H) H:=λb o e=>by
 unfold Yb at e
 split at e
 ·exact e
 ·exact gh b o e
theorem Hd{b:UB}(h:b∈fp∨isT (H b)=true):Yb fp G H b=H b:=by unfold Yb;rw[Ql h]
theorem Hc{b:UB}(h:b∉fp)(h2:isT (H b)=false):Yb fp G H b=G b:=by
 unfold Yb;rw[Qs];rintro (z|z)
 ·exact h z
 ·rw[h2] at z;cases z
theorem Ext.pubT{G' H':Hp}(ex:Ext G H G' H')(fr:∀a∈fp,H a=none):Ext G H (Yb fp G' H') H' :=
 ⟨ex.h,ex.g.trans (A6 ex.gh),Bv ex.gh,λa u e n=>by
  rw[Hc (λm=>by rw[fr a m] at e;cases e) (by rw[ex.h a _ e];exact EW)]
  exact ex.np a u e n⟩
def nl0:D->Bool
 |.tuple ds=>ds.all flat
 |d=>flat d
theorem Rep.nl{G' G2 H':Hp}{v:V}{d:D}(r:Rep K G' v d)(h:nl0 d=true)(gh:Same G' H'):Rep K (Yb fp G2 H') v d:=by
 cases r with
 |tup hs rr=>
  refine .tup ?_ (rr.flat h);rcases hs with (hs|⟨o,hs⟩)|hs
  ·have:=gh _ _ hs
   exact .inl (.inl ((Hd (.inr (by rw[this];rfl))).trans this))
  ·have:=gh _ _ hs
   exact .inl (.inr ⟨o,(Hd (.inr (by rw[this];rfl))).trans this⟩)
  ·exact .inr hs
 |non=>exact .non
 |bl b=>exact .bl b
 |int i=>exact .int i
 |str x=>exact .str x
 |lst _ _=>cases h
 |dic _=>cases h
 |exc _ _ _ _=>cases h
 |dct _ _ _ _ _=>cases h
 |dtt _ _ _ _=>cases h
theorem Reps.nl{G' G2 H':Hp}(gh:Same G' H'):∀{vs:List V}{ds:List D},Reps K G' vs ds->ds.all nl0=true->Reps K (Yb fp G2 H') vs ds
 |_,_,.nil,_=>.nil
 |_,_,.cons r t,h=>by
  rw[List.all_cons,Jm] at h;exact .cons (r.nl h.1 gh) (Reps.nl gh t h.2)
end
def Vx(f:M (List D)):M (List D):=λZ=>match f (Yr Z) with
 |.ok ds _=>if ds.all nl0=true then .ok ds Z else .bad
 |.bad=>.bad
section
variable{X:Cx}{B G0:Hp}{KX:XW}{e o a b c:UD}{pos:Pos}{es:List UD}{pt:Pat}
end
section
variable{Z Z1 Z2 Z':UR}{pt:Pat}
theorem BI{f:M (List D)}{ds:List D}(h:f (Yr Z)=.ok ds Z')(hf:ds.all nl0=true):Vx f Z=.ok ds Z:=by unfold Vx;rw[h];dsimp only;rw[if_pos hf]
end
section
variable{X:Cx}{B G0:Hp}{e:UD}
end
section
variable{X:Cx}{B G0:Hp}{e o a b c:UD}{pos:Pos}{es:List UD}
end
section
variable{X:Cx}{B G0:Hp}{KX:XW}{e1 e2 e3 a b:UD}{pos:Pos}{es:List UD}
end
section
variable{K:Frag}{B G0 G H:Hp}{fp:List UB}
end
section
variable{X:Cx}{B G0:Hp}{KX:XW}{e a b:UD}{pos:Pos}{es:List UD}
end
theorem NewL.back{K:Frag}{B G0 G H G' H':Hp}{σ:St}{Z Z1:UR}{ad:UB}{vs:List V}{ds:List D}(k:EOk K B G0 G H σ Z)(k':EOk K H H G' H' σ Z1)(n:NewL K H G' H' σ Z1 ad vs ds)(hf:ds.all nl0=true) :
  EOk K B G0 (Yb [] G H') H' σ Z/\Same G (Yb [] G H')/\NewL K B (Yb [] G H') H' σ Z ad vs ds:=by
 have ex:Ext G H G H':=⟨k'.bh,.refl _,k.gh.trans k'.bh,λ_ _ _ n=>n⟩;have ex2:Ext G H (Yb [] G H') H':=ex.pubT (λa m=>by cases m)
 refine ⟨k.ext ex2,ex2.g,⟨k.bh.free n.b,?_,n.h,n.r.nl k'.gh hf,λj es q w=>?_,λj pt d v fp q s r=>k.freshD k'.bh n.b q s r⟩⟩
 ·rw[Hc (by simp) (by rw[n.h];rfl)]
  exact k.gh.free n.b
 ·obtain ⟨b,us,g1,g2,g3,g4,g5⟩:=k.own j es q
  rw[g1] at w;cases w;rw[n.b] at g4;cases g4
section
variable{X:Cx}{B G0:Hp}{KX:XW}
theorem Ey{l:Bool}{y:Str}{j:Nat}{py:Pos}{spos:Pos}{tg elt iter:UD}{ifs:List UD}{gs:List Comprehension}{scope:Scope}{pos:Pos}{N2:List Str}{k:Nat}{f:M (List D)}{s:D->UR->Option UR}{t:M Bool}{rd:RdB}(hN:X.N.Nodup)(hj:X.N[j]?=some y)(hy:X.env.scope.names.lookup y=some .local)(hc:X.calm=true)
  (hi:∀B' G',PI X tg iter (iD X.K B' G' f)) (hblk:X6 X N2 scope (.ListComp elt (⟨tg,iter,ifs,0⟩::gs) scope pos) tg ifs s t rd) (hb:Pi X.env.scope scope X.N N2 k) (hs:∀x,UW iter X.env x=pure x:=by intro _;rfl)
  (hsw:swapsWith (.ListComp elt (⟨tg,iter,ifs,0⟩::gs) scope pos) (some (.Name y py)) spos.line X.env=pure true:=by rfl) :
  PS X (.Assign [.Name y py] (.ListComp elt (⟨tg,iter,ifs,0⟩::gs) scope pos) spos) (tS X.K B G0 KX (ZC j (Vx (dCG l f k s t rd)))):=by
 intro pins s0 σ H Dn I ⟨G,Z,k0,a⟩;unfold ZC sB Vx at a
 cases z:dCG l f k s t rd (Yr Z) with
 |bad=>rw[z] at a;exact a.elim
 |ok es Z1=>
 rw[z] at a;dsimp only at a
 by_cases hnl:es.all nl0=true
 case neg=>rw[Qs hnl] at a;exact a.elim
 rw[Ql hnl] at a;dsimp only at a
 by_cases hl:j<Z.length
 ·rw[Ql hl] at a
  obtain ⟨ds,ZF,zf,zl,hfl⟩:=Mg z;rw[exec_Assign_Name_used _ _ _ _ hsw];refine Qf (Jt (Qf ?_));show UF _ X.A (do let _ ←comprehension (.ListComp elt (⟨tg,iter,ifs,0⟩::gs) scope pos) scope X.env _ (newList []) false (eval iter X.env) (some (assign (.Name y py) X.env))) _ _ s0
  refine Qf (QO (ME (use:=some (assign (.Name y py) X.env)) (Qc:=λ_ s'=>SP X pins Dn .next s') hc (hi H H) hblk hb hs I k0.lent zf zl hfl λC D vs G' H' s4 m I7 hm hC hL hz hcl hp k' s' n=>?_) (λ_ s' hq=>Qo (Qo hq)) λ_ _ e=>e);show UF _ X.A (assign (.Name y py) X.env (.ref D)) _ _ s4;refine wpAny_assign_Name (ML I7 hN hj (.inl hy) (v:=.ref D) rfl (λs5 I8 ⟨ad,sb,hx⟩=>?_) (.inr hy))
  have hCa:C≠ad:=by
   rcases hx with e|e
   ·rw[e];exact hL
   ·exact Ne.symm (hcl y ad e)
  refine ⟨m,hm.sameBut sb hCa,λh' sb'=>⟨_,H',I8.turned (t':=s5.toks) (it:=C) (λb o hb e=>(sb'.2 b hb).trans e) hC hL (.inr hz) hcl hp,?_⟩⟩;obtain ⟨k2,s2,n2⟩:=NewL.back k0 k' n hnl;exact a _ _ H' (k2.setOwn n2 hl) s2
 ·rw[Qs hl] at a;exact a.elim
theorem A5{F F':M (List D)}(h:∀Z es Z',F Z=.ok es Z'->F' Z=.ok es Z')(Z:UR)(es:List D)(Z':UR)(e:Vx F Z=.ok es Z'):Vx F' Z=.ok es Z':=by
 unfold Vx at e ⊢
 cases z:F (Yr Z) with
 |bad=>rw[z] at e;cases e
 |ok ds Z1=>rw[z] at e;rw[h _ _ _ z];exact e
theorem Ex{l:Bool}{y:Str}{j:Nat}{py:Pos}{spos:Pos}{tg elt iter:UD}{ifs:List UD}{gs:List Comprehension}{scope:Scope}{pos:Pos}{f:M (List D)}{s:D->UR->Option UR}{t:M Bool}{rd:RdB}{F:M (List D)}(SC:Scope)(N1 N2:List Str)(k:Nat)(le:∀Z es Z',F Z=.ok es Z'->dCG l f k s t rd Z=.ok es Z')(hN:X.N.Nodup)(hj:X.N[j]?=some y)(hy:X.env.scope.names.lookup y=some .local)(hc:X.calm=true)
  (hi:∀B' G',PI X tg iter (iD X.K B' G' f)) (hblk:X6 X N2 scope (.ListComp elt (⟨tg,iter,ifs,0⟩::gs) scope pos) tg ifs s t rd) (h1:X.env.scope=SC) (h2:X.N=N1) (hb:Pr OH SC scope N1 N2 k=true) (hs:∀x,UW iter X.env x=pure x:=by intro _;rfl)
  (hsw:swapsWith (.ListComp elt (⟨tg,iter,ifs,0⟩::gs) scope pos) (some (.Name y py)) spos.line X.env=pure true:=by rfl) :
  PS X (.Assign [.Name y py] (.ListComp elt (⟨tg,iter,ifs,0⟩::gs) scope pos) spos) (tS X.K B G0 KX (ZC j (Vx F))) :=
 Yn (Ey hN hj hy hc hi hblk (by rw[h1,h2];exact Mf hb) hs hsw) λ_ _ _ q=>LQ (A5 le) q
end
def Pt(f:M D):M Bool:=Kr f λx=>match x with | .list ds=>U1 (!ds.isEmpty)|_=>λ_=>.bad
def WQ:Nat:=10 ^ 60
section
variable{X:Cx}{B G0:Hp}{e:UD}
theorem kC{α β:Type}{xs:List α}{ys:List β}(h:xs.length=ys.length):xs.isEmpty=ys.isEmpty:=by
 cases xs <;> cases ys <;> first|rfl|(simp at h)
theorem Hb{f:M D}(h:PE X e (tD X.K B G0 f))(he:∀whole,isTrue e X.env whole=(do let v ←whole;standAt e.pos;holding [v] (truthy v)):=by intro _;rfl):PT X e (tBo X.K B G0 (Pt f)) :=
 Xg (AN h he) λσ H Q q=>tM.one (R:=Rep X.K) q λv H2 G Z x k r a=>by
  cases x with
  |list ds=>
   obtain ⟨l,vs,rfl,h1,r1⟩:=r.lst_inv;refine ⟨!vs.isEmpty,.inl ⟨vs,k.gh.seq h1,rfl⟩,?_⟩;exact aft.now (v:=!vs.isEmpty) a k (by rw[kC r1.length])
  |_=>exact a.elim
theorem Nl{f:M D}{Z Z1:UR}{ds:List D}(h1:f Z=.ok (.list ds) Z1):Pt f Z=.ok (!ds.isEmpty) Z1:=by unfold Pt;exact Zq h1 rfl
end
end DL
namespace L2
open PySem PySem.Spec PyProof.Rows PySem.Calls PyProof.V
section
variable{X:Cx}{x n:Str}{pos np hpos:Pos}{pins:List (UB×Obj)}{σ:St}{H:Hp}{s:Uz}{a C D fI fD:UB}{dd:Option UB}{bm bmD:List Uy}{rest:List ExceptHandler}{Q:Flow->Uz->Prop}
end
end L2
namespace DL
open PySem PySem.Spec L2
open PyProof.Rows hiding St
section
variable{X:Cx}{B G0:Hp}{KX:XW}{e a b c:UD}{pos p2 cpos np np2 hpos hpos2:Pos}{es:List UD}{x x2 n:Str}{k kk:Nat}
end
section
variable{X:Cx}{B G0:Hp}{KX:XW}{e e1 e2:UD}{pos:Pos}
end
section
variable{X:Cx}
end
end DL
namespace W
open PySem PySem.Spec L2 DL
open PyProof.Rows hiding St
def top(i:Nat):Stmt:=PySem.Challenge.pw_wishdeal_k45_whole_none_is_better.main.body.getD i (.Pass ⟨0,0,0,0⟩)
abbrev GG(s:Stmt)(x:Str):Prop:=(Kv s).names.lookup x=some NameKind.globalImplicit
abbrev VV(s:Stmt)(x:Str):Prop:=L2.Vis (Kv s) x
abbrev LL(s:Stmt)(x:Str):Prop:=L2.Loc (Kv s) x
theorem vk{s:Stmt}{x:Str}(h:(Kv s).names.lookup x=some .local∨(Kv s).names.lookup x=some .cell∨(Kv s).names.lookup x=some .free):VV s x:=h
theorem lk{s:Stmt}{x:Str}(h:(Kv s).names.lookup x=some .local∨(Kv s).names.lookup x=some .cell):LL s x:=h
structure Txt(K:Frag)(mg:Str->Option Uy):Prop where
 b_all:mg "all" = none
 b_bool:mg "bool" = none
 b_enumerate:mg "enumerate" = none
 b_int:mg "int" = none
 b_isinstance:mg "isinstance" = none
 b_len:mg "len" = none
 b_list:mg "list" = none
 b_max:mg "max" = none
 b_range:mg "range" = none
 b_set:mg "set" = none
 b_sorted:mg "sorted" = none
 b_str:mg "str" = none
 b_sum:mg "sum" = none
 b_tuple:mg "tuple" = none
 b_zip:mg "zip" = none
 c_MOST_ASKERS:∃t,mg "MOST_ASKERS" = some (Value.int 7 t)
 c_MOST_COPIES:∃t,mg "MOST_COPIES" = some (Value.int 7 t)
 c_MOST_RANKS:∃t,mg "MOST_RANKS" = some (Value.int 5 t)
 c_MOST_THINGS:∃t,mg "MOST_THINGS" = some (Value.int 6 t)
 c_ORDERS:∃ad o its n,mg "ORDERS" = some (.ref ad)/\K.lookup ad=some o/\o.cls=.type "tuple" /\ o.data=.seq its n/\its.size<=UE/\Vals ((["firsts", "full", "lasts"]:List Str).map V.str) its.toList
abbrev Saw:Stmt:=top 36
abbrev N_aw:List Str:=["one", "other", "mine", "yours"]
theorem Haw:FnNm (Kv Saw) N_aw ["zip"]:=K9 (by decide +kernel)
def Ha:SM :=
 sIf (Zz oNe 2 (UN 3))
 (U9 (WA (Ka UL (Zz oEq 3 (U1 (.int 0)))) (Ka UL (T2 (oIB λi j=>decide (i<j)) (oIB λi j=>decide (i<j)) (U1 (.int 0)) (UN 2) (UN 3)))))
 (sNx)
def RA:SM :=
 U2 (KZ (Xj (UY (UN 0) (UY (UN 1) (UT)))) (gT 2 (gNC (gN 2) (gNC (gN 3) (gN0)))) Ha)
 (U9 (U1 (.bool false)))
def Tv:List D->Option D:=Kn N_aw RA
abbrev Sap:Stmt:=top 28
abbrev Tc:List Str:=["order", "one", "other", "more", "less"]
theorem Hap:FnNm (Kv Sap) Tc ["zip"]:=K9 (by decide +kernel)
def RG:SM :=
 U2 (ZC 3 (ZS (Xj (UY (UN 1) (UY (UN 2) (UT)))) 2 (gT 2 (gNC (gN 5) (gNC (gN 6) (gN0)))) (U1 true) (U3 Zk (UN 5) (UN 6))))
 (U2 (sIf (Zz oEq 0 (U1 (.str "firsts")))
 (U9 (UN 3))
 (sNx))
 (U2 (ZC 4 (ZS (Zt (UN 3)) 1 (gN 5) (U1 true) (Z6 (UN 5))))
 (U2 (sIf (Zz oEq 0 (U1 (.str "full")))
 (U9 (U3 Kh (Yz (UN 4) (Kr (Z6 (U1 (.int 1))) λx=>Ks (Y2 x)) (U1 none)) (UN 3)))
 (sNx))
 (U9 (WB (UN 4) (U1 none) (U1 none) (Kr (Z6 (U1 (.int 1))) λx=>Ks (Y2 x)))))))
def Tz:List D->Option D:=Kn Tc RG
abbrev San:Stmt:=top 26
abbrev N_an:List Str:=["thing"]
theorem Han:FnNm (Kv San) N_an ["isinstance", "str", "ORDERS"]:=K9 (by decide +kernel)
def RI:SM :=
 U9 (WU (Ka (λd=>.bool (Zh d "str")) (UN 0)) (Ka UL (Zz oIn 0 (U1 (.tuple ((["firsts", "full", "lasts"]:List Str).map UM))))))
def TB:List D->Option D:=Kn N_an RI
abbrev Sao:Stmt:=top 27
abbrev N_ao:List Str:=["thing"]
theorem Hao:FnNm (Kv Sao) N_ao ["is_order"]:=K9 (by decide +kernel)
def RH:SM :=
 sIf (Zu (YF (U5 1 TB (UY (UN 0) (UT)))))
 (VC)
 (sNx)
def WN:List D->Option D:=Kn N_ao RH
abbrev Saq:Stmt:=top 29
abbrev N_aq:List Str:=["order", "one", "other", "gap"]
theorem Haq:FnNm (Kv Saq) N_aq ["gaps", "look_at_order"]:=K9 (by decide +kernel)
def L9:SM :=
 sIf (Zz oNe 3 (U1 (.int 0)))
 (U9 (mIf (Zz (oIB λi j=>decide (j<i)) 3 (U1 (.int 0))) (U1 (.str "better")) (U1 (.str "worse"))))
 (sNx)
def RF:SM :=
 U2 (Wb (U5 1 WN (UY (UN 0) (UT))))
 (U2 (KZ (Zt (U5 3 Tz (UY (UN 0) (UY (UN 1) (UY (UN 2) (UT)))))) (gN 3) L9)
 (U9 (U1 (.str "alike"))))
def Ty:List D->Option D:=Kn N_aq RF
abbrev Sau:Stmt:=top 34
abbrev R8:List Str:=["old", "dealing"]
theorem Hau:FnNm (Kv Sau) R8 ["zip", "len"]:=K9 (by decide +kernel)
def V4:SM :=
 U2 (sIf (Ka isNon (UN 0))
 (U9 (U1 (.int 0)))
 (sNx))
 (U9 (ZN Ku (UY (Ka UK (ZS (Xj (UY (UN 0) (UY (UN 1) (UT)))) 2 (gT 2 (gNC (gN 2) (gNC (gN 3) (gN0)))) (ZZ (Ka (λd=>!isNon d) (UN 2)) (Zz oEq 3 (UN 2))) (UN 2))) (UT))))
def WL:List D->Option D:=Kn R8 V4
abbrev Saa:Stmt:=top 1
abbrev N_aa:List Str:=["thing"]
theorem Haa:FnNm (Kv Saa) N_aa ["isinstance", "int", "bool"]:=K9 (by decide +kernel)
def RU:SM :=
 U9 (WU (Ka (λd=>.bool (Zh d "int")) (UN 0)) (PV (Ka (λd=>.bool (Zh d "bool")) (UN 0))))
def TL:List D->Option D:=Kn N_aa RU
abbrev Sab:Stmt:=top 2
abbrev N_ab:List Str:=["thing", "many"]
theorem Hab:FnNm (Kv Sab) N_ab ["is_whole"]:=K9 (by decide +kernel)
def RT:SM :=
 U9 (WU (U5 1 TL (UY (UN 0) (UT))) (Ka UL (T2 (oIB λi j=>decide (i<=j)) (oIB λi j=>decide (i<j)) (U1 (.int 0)) (UN 0) (UN 1))))
def YA:List D->Option D:=Kn N_ab RT
abbrev Sad:Stmt:=top 13
abbrev Pg:List Str:=["thing", "things"]
theorem Had:FnNm (Kv Sad) Pg ["all", "isinstance", "list", "len"]:=K9 (by decide +kernel)
def RR:SM :=
 U2 (sIf (mOr (Zu (YF (Ka (λd=>.bool (Zh d "list")) (UN 0)))) (U3 oEq (ZM 0) (U1 (.int 0))))
 (U9 (U1 (.bool false)))
 (sNx))
 (U9 (ZN YU (UY (Ka UK (ZS (Zt (UN 0)) 1 (gN 2) (U1 true) (U5 2 YA (UY (UN 2) (UY (UN 1) (UT)))))) (UT))))
def Vu:List D->Option D:=Kn Pg RR
abbrev Sae:Stmt:=top 14
abbrev Td:List Str:=["thing", "things", "wished"]
theorem Hae:FnNm (Kv Sae) Td ["len", "set", "all", "isinstance", "list", "MOST_RANKS"]:=K9 (by decide +kernel)
def RQ:SM :=
 U2 (sIf (mOr (Zu (YF (Ka (λd=>.bool (Zh d "list")) (UN 0)))) (U3 (oIB λi j=>decide (j<i)) (ZM 0) (U1 (.int 5))))
 (U9 (U1 (.bool false)))
 (sNx))
 (U2 (sIf (Zu (YF (ZN YU (UY (Ka UK (ZS (Zt (UN 0)) 1 (gN 3) (U1 true) (U5 2 Vu (UY (UN 3) (UY (UN 1) (UT)))))) (UT)))))
 (U9 (U1 (.bool false)))
 (sNx))
 (U2 (ZC 2 (Od (Zt (UN 0)) 2 (gN 3) (U1 true) (Zt (UN 3)) (gN 4) (U1 true) (UN 4)))
 (U9 (Ka UL (U3 oEq (ZN VP (UY (UN 2) (UT))) (ZM 2))))))
def TJ:List D->Option D:=Kn Td RQ
abbrev Saf:Stmt:=top 15
abbrev N_af:List Str:=["lists", "things", "asker", "ranks"]
theorem Haf:FnNm (Kv Saf) N_af ["enumerate", "is_asker_list", "isinstance", "list", "len", "MOST_ASKERS"]:=K9 (by decide +kernel)
def L8:SM :=
 sIf (Zu (YF (U5 2 TJ (UY (UN 3) (UY (UN 1) (UT))))))
 (VC)
 (sNx)
def RP:SM :=
 U2 (sIf (mOr (Zu (YF (Ka (λd=>.bool (Zh d "list")) (UN 0)))) (Zu (T2 (oIB λi j=>decide (i<=j)) (oIB λi j=>decide (i<=j)) (U1 (.int 1)) (ZM 0) (U1 (.int 7)))))
 (VC)
 (sNx))
 (KZ (Xc (UY (UN 0) (UT))) (gT 2 (gNC (gN 2) (gNC (gN 3) (gN0)))) L8)
def TH:List D->Option D:=Kn N_af RP
abbrev Sac:Stmt:=top 12
abbrev N_ac:List Str:=["copies", "number", "many"]
theorem Hac:FnNm (Kv Sac) N_ac ["enumerate", "MOST_COPIES", "is_number_below", "isinstance", "list", "len", "MOST_THINGS"]:=K9 (by decide +kernel)
def L7:SM :=
 sIf (Zu (YF (U5 2 YA (UY (UN 2) (UY (U3 Kh (U1 (.int 7)) (U1 (.int 1))) (UT))))))
 (VC)
 (sNx)
def RS:SM :=
 U2 (sIf (mOr (Zu (YF (Ka (λd=>.bool (Zh d "list")) (UN 0)))) (Zu (T2 (oIB λi j=>decide (i<=j)) (oIB λi j=>decide (i<=j)) (U1 (.int 1)) (ZM 0) (U1 (.int 6)))))
 (VC)
 (sNx))
 (KZ (Xc (UY (UN 0) (UT))) (gT 2 (gNC (gN 1) (gNC (gN 2) (gN0)))) L7)
def TK:List D->Option D:=Kn N_ac RS
abbrev Sag:Stmt:=top 16
abbrev N_ag:List Str:=["thing", "copies", "lists"]
theorem Hag:FnNm (Kv Sag) N_ag ["len", "look_at_lists", "look_at_copies", "isinstance", "tuple"]:=K9 (by decide +kernel)
def RO:SM :=
 U2 (sIf (mOr (Zu (YF (Ka (λd=>.bool (Zh d "tuple")) (UN 0)))) (U3 oNe (ZM 0) (U1 (.int 2))))
 (VC)
 (sNx))
 (U2 (Z9 (UN 0) (gT 2 (gNC (gN 1) (gNC (gN 2) (gN0)))))
 (U2 (Wb (U5 1 TK (UY (UN 1) (UT))))
 (Wb (U5 2 TH (UY (UN 2) (UY (ZM 1) (UT)))))))
def YI:List D->Option D:=Kn N_ag RO
abbrev Sai:Stmt:=top 18
abbrev Pf:List Str:=["wishes"]
theorem Hai:FnNm (Kv Sai) Pf ["max", "look_at_wishes"]:=K9 (by decide +kernel)
def RN:SM :=
 U2 (Wb (U5 1 YI (UY (UN 0) (UT))))
 (U9 (ZN Ss (UY (Ka UK (ZS (Zt (Ki 0 (U1 (.int 1)))) 1 (gN 1) (U1 true) (ZM 1))) (UT))))
def WP:List D->Option D:=Kn Pf RN
abbrev Sah:Stmt:=top 17
abbrev N_ah:List Str:=["ranks", "thing", "number", "rank"]
theorem Hah:FnNm (Kv Sah) N_ah ["enumerate"]:=K9 (by decide +kernel)
def Mq:SM :=
 sIf (Zz oIn 1 (UN 3))
 (U9 (UN 2))
 (sNx)
def V5:SM :=
 U2 (KZ (OY (UY (UN 0) (UT))) (gT 2 (gNC (gN 2) (gNC (gN 3) (gN0)))) Mq)
 (U9 (U1 (.int 0)))
def Xk:List D->Option D:=Kn N_ah V5
abbrev Sak:Stmt:=top 21
abbrev Pd:List Str:=["wishes", "dealing"]
theorem Hak:FnNm (Kv Sak) Pd ["enumerate", "look_at_wishes"]:=K9 (by decide +kernel)
def RL:SM :=
 U2 (Wb (U5 1 YI (UY (UN 0) (UT))))
 (U9 (Ka UK (ZS (Xc (UY (UN 1) (UT))) 2 (gT 2 (gNC (gN 2) (gNC (gN 3) (gN0)))) (U1 true) (U5 2 Xk (UY (U3 oIx (Ki 0 (U1 (.int 1))) (UN 2)) (UY (UN 3) (UT)))))))
def WO:List D->Option D:=Kn Pd RL
abbrev Sal:Stmt:=top 22
abbrev Pc:List Str:=["wishes", "dealing", "got"]
theorem Hal:FnNm (Kv Sal) Pc ["longest", "range", "ranks_got"]:=K9 (by decide +kernel)
def RK:SM :=
 U2 (Km 2 (U5 2 WO (UY (UN 0) (UY (UN 1) (UT)))))
 (U9 (U3 Kh (Ka UK (ZS (PQ (UY (U1 (.int 1)) (UY (U3 Kh (U5 1 WP (UY (UN 0) (UT))) (U1 (.int 1))) (UT)))) 1 (gN 3) (U1 true) (VM (UN 2) (UY (UN 3) (UT))))) (KR (UY (VM (UN 2) (UY (U1 (.int 0)) (UT))) (UT)))))
def TD:List D->Option D:=Kn Pc RK
abbrev Sas:Stmt:=top 32
abbrev R9:List Str:=["thing", "askers"]
theorem Has:FnNm (Kv Sas) R9 ["len", "set", "isinstance", "list", "all"]:=K9 (by decide +kernel)
def RD:SM :=
 U2 (sIf (mOr (Zu (YF (Ka (λd=>.bool (Zh d "list")) (UN 0)))) (Zu (YF (ZN YU (UY (Ka UK (ZS (Zt (UN 0)) 1 (gN 2) (U1 true) (U5 2 YA (UY (UN 2) (UY (UN 1) (UT)))))) (UT))))))
 (U9 (U1 (.bool false)))
 (sNx))
 (U9 (Ka UL (U3 oEq (ZN VP (UY (UN 0) (UT))) (ZM 0))))
def Tw:List D->Option D:=Kn R9 RD
abbrev Sar:Stmt:=top 31
abbrev Pa:List Str:=["thing", "askers", "things"]
theorem Har:FnNm (Kv Sar) Pa ["all", "isinstance", "list", "len"]:=K9 (by decide +kernel)
def RE:SM :=
 U2 (sIf (Ka isNon (UN 0))
 (U9 (U1 (.bool true)))
 (sNx))
 (U2 (sIf (mOr (Zu (YF (Ka (λd=>.bool (Zh d "list")) (UN 0)))) (U3 oNe (ZM 0) (UN 1)))
 (U9 (U1 (.bool false)))
 (sNx))
 (U9 (ZN YU (UY (Ka UK (ZS (Zt (UN 0)) 1 (gN 3) (U1 true) (WA (Ka (λd=>.bool (isNon d)) (UN 3)) (U5 2 YA (UY (UN 3) (UY (UN 2) (UT))))))) (UT)))))
def Tx:List D->Option D:=Kn Pa RE
abbrev Sat:Stmt:=top 33
abbrev N_at:List Str:=["wishes", "thing", "copies", "lists", "order", "old", "turns"]
theorem Hat:FnNm (Kv Sat) N_at ["len", "is_turns", "is_old", "look_at_order", "isinstance", "tuple", "look_at_wishes"]:=K9 (by decide +kernel)
def RC:SM :=
 U2 (Wb (U5 1 YI (UY (UN 0) (UT))))
 (U2 (sIf (mOr (Zu (YF (Ka (λd=>.bool (Zh d "tuple")) (UN 1)))) (U3 oNe (ZM 1) (U1 (.int 3))))
 (VC)
 (sNx))
 (U2 (Z9 (UN 0) (gT 2 (gNC (gN 2) (gNC (gN 3) (gN0)))))
 (U2 (Z9 (UN 1) (gT 3 (gNC (gN 4) (gNC (gN 5) (gNC (gN 6) (gN0))))))
 (U2 (Wb (U5 1 WN (UY (UN 4) (UT))))
 (U2 (sIf (Zu (YF (U5 3 Tx (UY (UN 5) (UY (ZM 3) (UY (ZM 2) (UT)))))))
 (VC)
 (sNx))
 (sIf (Zu (YF (U5 2 Tw (UY (UN 6) (UY (ZM 3) (UT))))))
 (VC)
 (sNx)))))))
def WM:List D->Option D:=Kn N_at RC
abbrev Sav:Stmt:=top 35
abbrev R7:List Str:=["wishes", "aim", "dealing", "order", "old", "turns", "got"]
theorem Hav:FnNm (Kv Sav) R7 ["how_many_kept", "counts_of", "ranks_got", "look_at_aim"]:=K9 (by decide +kernel)
def RB:SM :=
 U2 (Wb (U5 2 WM (UY (UN 0) (UY (UN 1) (UT)))))
 (U2 (Z9 (UN 1) (gT 3 (gNC (gN 3) (gNC (gN 4) (gNC (gN 5) (gN0))))))
 (U2 (Km 6 (U5 2 WO (UY (UN 0) (UY (UN 2) (UT)))))
 (U9 (Ze (UY (U5 2 TD (UY (UN 0) (UY (UN 2) (UT)))) (UY (U5 2 WL (UY (UN 4) (UY (UN 2) (UT)))) (UY (Ka UK (ZS (Zt (UN 5)) 1 (gN 7) (U1 true) (Ki 6 (UN 7)))) (UT))))))))
def Vt:List D->Option D:=Kn R7 RB
abbrev Sax:Stmt:=top 37
abbrev N_ax:List Str:=["wishes", "aim", "one", "other", "counts", "kept", "ranks", "other_counts", "other_kept", "other_ranks", "beside"]
theorem Hax:FnNm (Kv Sax) N_ax ["is_better_by_turns", "beside_by", "score_of"]:=K9 (by decide +kernel)
def Rz:SM :=
 U2 (Z9 (U5 3 Vt (UY (UN 0) (UY (UN 1) (UY (UN 2) (UT))))) (gT 3 (gNC (gN 4) (gNC (gN 5) (gNC (gN 6) (gN0))))))
 (U2 (Z9 (U5 3 Vt (UY (UN 0) (UY (UN 1) (UY (UN 3) (UT))))) (gT 3 (gNC (gN 7) (gNC (gN 8) (gNC (gN 9) (gN0))))))
 (U2 (Km 10 (U5 3 Ty (UY (Ki 1 (U1 (.int 0))) (UY (UN 4) (UY (UN 7) (UT))))))
 (U2 (sIf (Zz oNe 10 (U1 (.str "alike")))
 (U9 (Ka UL (Zz oEq 10 (U1 (.str "better")))))
 (sNx))
 (U2 (sIf (Zz oNe 5 (UN 8))
 (U9 (Ka UL (Zz (oIB λi j=>decide (j<i)) 5 (UN 8))))
 (sNx))
 (U9 (U5 2 Tv (UY (UN 6) (UY (UN 9) (UT)))))))))
def Vs:List D->Option D:=Kn N_ax Rz
abbrev Sbx:Stmt:=top 68
abbrev R3:List Str:=["_law_wishes_here"]
theorem Hbx:FnNm (Kv Sbx) R3 ["max"]:=K9 (by decide +kernel)
def S9:SM :=
 U9 (ZN Ss (UY (Ka UK (ZS (Zt (Ki 0 (U1 (.int 1)))) 1 (gN 1) (U1 true) (ZM 1))) (UT)))
def XG:List D->Option D:=Kn R3 S9
abbrev Sbw:Stmt:=top 67
abbrev N_bw:List Str:=["_law_wishes_here", "_law_asker", "_law_thing", "_law_k", "_law_row"]
theorem Hbw:FnNm (Kv Sbw) N_bw ["enumerate"]:=K9 (by decide +kernel)
def L6:SM :=
 sIf (Zz oIn 2 (UN 4))
 (U9 (U3 Kh (UN 3) (U1 (.int 1))))
 (sNx)
def Ra:SM :=
 U2 (KZ (Xc (UY (U3 oIx (Ki 0 (U1 (.int 1))) (UN 1)) (UT))) (gT 2 (gNC (gN 3) (gNC (gN 4) (gN0)))) L6)
 (U9 (U1 (.int 0)))
def XH:List D->Option D:=Kn N_bw Ra
abbrev Scb:Stmt:=top 72
abbrev N_cb:List Str:=["_law_wishes_here", "_law_dealing", "_law_counts_here", "_law_asker", "_law_thing"]
theorem Hcb:FnNm (Kv Scb) N_cb ["enumerate", "_law_rank", "_law_longest"]:=K9 (by decide +kernel)
def L5:SM :=
 sIf (Ka isNon (UN 4))
 (TW (λi j=>some (.int (i+j))) 2 (Z6 (U1 (.int 1))) (U1 (.int 1)))
 (TW (λi j=>some (.int (i+j))) 2 (U3 Zk (U5 3 XH (UY (UN 0) (UY (UN 3) (UY (UN 4) (UT))))) (U1 (.int 1))) (U1 (.int 1)))
def S5:SM :=
 U2 (ZC 2 (Su (KR (UY (U1 (.int 0)) (UT))) (U3 Kh (U5 1 XG (UY (UN 0) (UT))) (U1 (.int 1)))))
 (U2 (KZ (Xc (UY (UN 1) (UT))) (gT 2 (gNC (gN 3) (gNC (gN 4) (gN0)))) L5)
 (U9 (UN 2)))
def Tg:List D->Option D:=Kn N_cb S5
abbrev Scf:Stmt:=top 76
abbrev Vl:List Str:=["_law_wishes_here", "_law_aim_here", "_law_dealing", "_law_order", "_law_old", "_law_turns", "_law_counts_here", "_law_kept", "_law_same", "_law_ranks", "_law_asker", "_law_rank_here"]
theorem Hcf:FnNm (Kv Scf) Vl ["_law_longest", "_law_rank", "len", "zip", "_law_counts"]:=K9 (by decide +kernel)
def O4:SM :=
 U2 (Km 11 (U1 (.int 0)))
 (U2 (sIf (Ka (λd=>!isNon d) (Ki 2 (UN 10)))
 (Km 11 (U3 Zk (U3 Kh (U5 1 XG (UY (UN 0) (UT))) (U1 (.int 1))) (U5 3 XH (UY (UN 0) (UY (UN 10) (UY (Ki 2 (UN 10)) (UT)))))))
 (sNx))
 (Yy 9 (UN 11)))
def SX:SM :=
 U2 (Z9 (UN 1) (gT 3 (gNC (gN 3) (gNC (gN 4) (gNC (gN 5) (gN0))))))
 (U2 (Km 6 (U5 2 Tg (UY (UN 0) (UY (UN 2) (UT)))))
 (U2 (sIf (Zz oEq 3 (U1 (.str "full")))
 (Km 6 (U3 Kh (KR (UY (U3 Zk (U1 (.int 0)) (Ki 6 (Z6 (U1 (.int 1))))) (UT))) (UN 6)))
 (sNx))
 (U2 (sIf (Zz oEq 3 (U1 (.str "lasts")))
 (ZC 6 (ZS (Zt (WB (UN 6) (U1 none) (U1 none) (Kr (Z6 (U1 (.int 1))) λx=>Ks (Y2 x)))) 1 (gN 12) (U1 true) (U3 Zk (U1 (.int 0)) (UN 12))))
 (sNx))
 (U2 (Km 7 (U1 (.int 0)))
 (U2 (sIf (Ka (λd=>!isNon d) (UN 4))
 (U2 (ZC 8 (ZS (Xj (UY (UN 4) (UY (UN 2) (UT)))) 2 (gT 2 (gNC (gN 12) (gNC (gN 13) (gN0)))) (Zz oEq 12 (UN 13)) (UN 13)))
 (Km 7 (ZN Ku (UY (Ka UK (ZS (Zt (UN 8)) 1 (gN 12) (Ka (λd=>!isNon d) (UN 12)) (UN 12))) (UT)))))
 (sNx))
 (U2 (ZC 9 (Kr (UT) λxs=>if xs.length<=1000000 then U1 xs else λ_=>.bad))
 (U2 (KZ (Zt (UN 5)) (gN 10) O4)
 (U9 (U3 Kh (U3 Kh (UN 6) (KR (UY (UN 7) (UT)))) (UN 9))))))))))
def WH:List D->Option D:=Kn Vl SX
abbrev Scg:Stmt:=top 77
abbrev N_cg:List Str:=["_law_wishes_here", "_law_asker", "_law_thing"]
theorem Hcg:FnNm (Kv Scg) N_cg ["_law_rank", "_law_longest"]:=K9 (by decide +kernel)
def SW:SM :=
 U2 (sIf (Ka isNon (UN 2))
 (U9 (U3 Kh (U5 1 XG (UY (UN 0) (UT))) (U1 (.int 1))))
 (sNx))
 (U9 (U5 3 XH (UY (UN 0) (UY (UN 1) (UY (UN 2) (UT))))))
def WG:List D->Option D:=Kn N_cg SW
abbrev Sch:Stmt:=top 78
abbrev Vk:List Str:=["_law_wishes_here", "_law_one", "_law_other", "_law_mine", "_law_theirs"]
theorem Hch:FnNm (Kv Sch) Vk ["zip", "all", "enumerate"]:=K9 (by decide +kernel)
def SV:SM :=
 U2 (ZC 3 (ZS (Xc (UY (UN 1) (UT))) 2 (gT 2 (gNC (gN 5) (gNC (gN 6) (gN0)))) (U1 true) (U5 3 WG (UY (UN 0) (UY (UN 5) (UY (UN 6) (UT)))))))
 (U2 (ZC 4 (ZS (Xc (UY (UN 2) (UT))) 2 (gT 2 (gNC (gN 5) (gNC (gN 6) (gN0)))) (U1 true) (U5 3 WG (UY (UN 0) (UY (UN 5) (UY (UN 6) (UT)))))))
 (U9 (WU (Ka UL (TV oNe (UN 3) 4)) (ZN YU (UY (Ka UK (ZS (Xj (UY (UN 3) (UY (UN 4) (UT)))) 2 (gT 2 (gNC (gN 5) (gNC (gN 6) (gN0)))) (U1 true) (Ka UL (Zz (oIB λi j=>decide (i<=j)) 5 (UN 6))))) (UT))))))
def Vm:List D->Option D:=Kn Vk SV
abbrev Sby:Stmt:=top 69
abbrev N_by:List Str:=["_law_wishes_here", "_law_asker"]
theorem Hby:FnNm (Kv Sby) N_by ["sum", "sorted"]:=K9 (by decide +kernel)
def S8:SM :=
 U9 (ZN Sq (UY (ZN Pn (UY (U3 oIx (Ki 0 (U1 (.int 1))) (UN 1)) (UY (KR (UT)) (UT)))) (UT)))
def XF:List D->Option D:=Kn N_by S8
abbrev Sbu:Stmt:=top 65
abbrev N_bu:List Str:=["_law_cell", "_law_salt", "_law_sizes", "_law_number", "_law_left", "_law_found", "_law_k", "_law_one"]
theorem Hbu:FnNm (Kv Sbu) N_bu ["len", "range", "max"]:=K9 (by decide +kernel)
def Mp:SM :=
 sIf (ZZ (Zz (oIB λi j=>decide (j<=i)) 3 (U3 Vh (U1 (.int 10)) (U1 (.int 18)))) (Zz (oIB λi j=>decide (j<i)) 4 (U1 (.int 0))))
 (U2 (Yy 5 (U3 ZL (UN 4) (Ki 2 (UN 6))))
 (Km 4 (U3 Vj (UN 4) (Ki 2 (UN 6)))))
 (U2 (Km 7 (U3 ZL (U3 Kh (U3 Kh (U3 Kh (UN 3) (U3 KY (U1 (.int 7919)) (UN 1))) (U3 KY (U3 KY (U1 (.int 101)) (UN 6)) (UN 6))) (UN 6)) (U1 (.int 2147483647))))
 (U2 (Km 7 (U3 ZL (U3 KY (UN 7) (U1 (.int 48271))) (U1 (.int 2147483647))))
 (U2 (Km 7 (U3 ZL (U3 KY (U3 ZL (U3 KY (UN 7) (UN 7)) (U1 (.int 2147483629))) (U1 (.int 48271))) (U1 (.int 2147483647))))
 (Yy 5 (U3 ZL (U3 Vj (UN 7) (U1 (.int 16))) (Ki 2 (UN 6)))))))
def Rc:SM :=
 U2 (Km 3 (ZN PR (UY (UN 0) (UY (U3 Zk (Z6 (U1 (.int 1))) (UN 0)) (UT)))))
 (U2 (Km 4 (UN 3))
 (U2 (ZC 5 (Kr (UT) λxs=>if xs.length<=1000000 then U1 xs else λ_=>.bad))
 (U2 (KZ (W3 (UY (ZM 2) (UT))) (gN 6) Mp)
 (U9 (UN 5)))))
def YV:List D->Option D:=Kn N_bu Rc
abbrev Sca:Stmt:=top 71
abbrev RZ:List Str:=["_law_wishes_here", "_law_cell", "_law_salt", "_law_left", "_law_digits", "_law_found", "_law_asker", "_law_some", "_law_thing"]
theorem Hca:FnNm (Kv Sca) RZ ["len", "range", "_law_wished", "_law_numbers", "list"]:=K9 (by decide +kernel)
def Mo:SM :=
 U2 (Km 7 (U3 Kh (Ka UK (P3 (Zt (U5 2 XF (UY (UN 0) (UY (UN 6) (UT))))) 1 (gN 9) (U3 (oIB λi j=>decide (j<i)) (Ki 3 (UN 9)) (U1 (.int 0))) (UN 9))) (KR (UY (U1 .none) (UT)))))
 (U2 (Km 8 (Ki 7 (U3 ZL (Ki 4 (UN 6)) (ZM 7))))
 (U2 (sIf (Ka (λd=>!isNon d) (UN 8))
 (W0 3 (UN 8) (U3 Zk (Ki 3 (UN 8)) (U1 (.int 1))))
 (sNx))
 (Yy 5 (UN 8))))
def S6:SM :=
 U2 (ZC 3 (Kr (UY (Ki 0 (U1 (.int 0))) (UT)) λxs=>Ks (Wa xs)))
 (U2 (Km 4 (U5 3 YV (UY (UN 1) (UY (UN 2) (UY (U3 KY (KR (UY (U1 (.int 61)) (UT))) (ZN Ku (UY (Ki 0 (U1 (.int 1))) (UT)))) (UT))))))
 (U2 (ZC 5 (Kr (UT) λxs=>if xs.length<=1000000 then U1 xs else λ_=>.bad))
 (U2 (KZ (W3 (UY (ZN Ku (UY (Ki 0 (U1 (.int 1))) (UT))) (UT))) (gN 6) Mo)
 (U9 (UN 5)))))
def Th:List D->Option D:=Kn RZ S6
abbrev Scc:Stmt:=top 73
abbrev N_cc:List Str:=["_law_thing"]
theorem Hcc:FnNm (Kv Scc) N_cc ["isinstance", "int", "bool"]:=K9 (by decide +kernel)
def SZ:SM :=
 U9 (WU (Ka (λd=>.bool (Zh d "int")) (UN 0)) (PV (Ka (λd=>.bool (Zh d "bool")) (UN 0))))
def Tf:List D->Option D:=Kn N_cc SZ
abbrev Scd:Stmt:=top 74
abbrev N_cd:List Str:=["_law_wishes_here", "_law_thing", "_law_asker", "_law_one"]
theorem Hcd:FnNm (Kv Scd) N_cd ["enumerate", "_law_is_number", "_law_wished", "isinstance", "list", "len"]:=K9 (by decide +kernel)
def Mn:SM :=
 U2 (sIf (ZZ (Ka (λd=>!isNon d) (UN 3)) (mOr (Zu (YF (U5 1 Tf (UY (UN 3) (UT))))) (Zz X1 3 (U5 2 XF (UY (UN 0) (UY (UN 2) (UT)))))))
 (U9 (U1 (.bool false)))
 (sNx))
 (sIf (ZZ (Ka (λd=>!isNon d) (UN 3)) (U3 (oIB λi j=>decide (j<i)) (VM (UN 1) (UY (UN 3) (UT))) (U3 oIx (Ki 0 (U1 (.int 0))) (UN 3))))
 (U9 (U1 (.bool false)))
 (sNx))
def V2:SM :=
 U2 (sIf (mOr (Zu (YF (Ka (λd=>.bool (Zh d "list")) (UN 1)))) (U3 oNe (ZM 1) (ZN Ku (UY (Ki 0 (U1 (.int 1))) (UT)))))
 (U9 (U1 (.bool false)))
 (sNx))
 (U2 (KZ (Xc (UY (UN 1) (UT))) (gT 2 (gNC (gN 2) (gNC (gN 3) (gN0)))) Mn)
 (U9 (U1 (.bool true))))
def XE:List D->Option D:=Kn N_cd V2
abbrev Sce:Stmt:=top 75
abbrev N_ce:List Str:=["_law_wishes_here", "_law_dealing", "_law_cell", "_law_salt", "_law_digits", "_law_one", "_law_other", "_law_found", "_law_some"]
theorem Hce:FnNm (Kv Sce) N_ce ["list", "_law_is_dealing", "len", "_law_wished", "_law_numbers"]:=K9 (by decide +kernel)
def SY:SM :=
 U2 (Km 4 (U5 3 YV (UY (UN 2) (UY (UN 3) (UY (KR (UY (U1 (.int 2)) (UY (U1 (.int 7)) (UY (U1 (.int 7)) (UY (U1 (.int 61)) (UT)))))) (UT))))))
 (U2 (Km 5 (U3 ZL (Ki 4 (U1 (.int 1))) (ZM 1)))
 (U2 (Km 6 (U3 ZL (Ki 4 (U1 (.int 2))) (ZM 1)))
 (U2 (ZC 7 (Wi 1))
 (U2 (sIf (U3 oEq (Ki 4 (U1 (.int 0))) (U1 (.int 0)))
 (U2 (W0 7 (UN 5) (Ki 1 (UN 6)))
 (W0 7 (UN 6) (Ki 1 (UN 5))))
 (U2 (Km 8 (U3 Kh (U5 2 XF (UY (UN 0) (UY (UN 5) (UT)))) (KR (UY (U1 .none) (UT)))))
 (W0 7 (UN 5) (Ki 8 (U3 ZL (Ki 4 (U1 (.int 3))) (ZM 8))))))
 (U2 (sIf (YF (Pm 2 XE (UY (UN 0) (Pp 7 (UT)))))
 (U9 (UN 7))
 (sNx))
 (U9 (Ka UK (Wi 1))))))))
def Vn:List D->Option D:=Kn N_ce SY
abbrev Sbp:Stmt:=top 58
abbrev N_bp:List Str:=["askers", "worths", "prices", "asks", "asker", "thing", "worth"]
theorem Hbp:FnNm (Kv Sbp) N_bp ["max"]:=K9 (by decide +kernel)
def Hy:SM :=
 W0 3 (UN 4) (ZN PR (UY (Ki 3 (UN 4)) (UY (U3 Zk (UN 6) (Ki 2 (UN 5))) (UT))))
def Rh:SM :=
 U2 (ZC 3 (Su (KR (UY (U1 (.int 0)) (UT))) (UN 0)))
 (U2 (KZ (Zt (UN 1)) (gT 3 (gNC (gN 4) (gNC (gN 5) (gNC (gN 6) (gN0))))) Hy)
 (U9 (UN 3)))
def Tl:List D->Option D:=Kn N_bp Rh
abbrev Sbe:Stmt:=top 47
abbrev N_be:List Str:=["nothing", "got"]
theorem Hbe:FnNm (Kv Sbe) N_be []:=K9 (by decide +kernel)
def Rs:SM :=
 U9 (mIf (Ka isNon (UN 1)) (UN 0) (UN 1))
def Vq:List D->Option D:=Kn N_be Rs
abbrev Sbf:Stmt:=top 48
abbrev R5:List Str:=["nothing", "worths", "dealing", "had", "asker", "thing", "worth", "told"]
theorem Hbf:FnNm (Kv Sbf) R5 ["place_of", "enumerate", "len"]:=K9 (by decide +kernel)
def Hx:SM :=
 sIf (U3 oNe (Ki 2 (UN 4)) (UN 5))
 (Yy 7 (Ze (UY (U5 2 Vq (UY (UN 0) (UY (Ki 2 (UN 4)) (UT)))) (UY (UN 5) (UY (U3 Zk (UN 6) (Ki 3 (UN 4))) (UY (UN 4) (UT)))))))
 (sNx)
def Hw:SM :=
 sIf (U3 oEq (Ki 2 (UN 4)) (UN 5))
 (W0 3 (UN 4) (UN 6))
 (sNx)
def Rr:SM :=
 U2 (ZC 3 (Su (KR (UY (U1 (.int 0)) (UT))) (ZM 2)))
 (U2 (KZ (Zt (UN 1)) (gT 3 (gNC (gN 4) (gNC (gN 5) (gNC (gN 6) (gN0))))) Hw)
 (U2 (ZC 7 (Vx (ZS (Xc (UY (UN 2) (UT))) 2 (gT 2 (gNC (gN 8) (gNC (gN 9) (gN0)))) (Ka (λd=>!isNon d) (UN 9)) (Ze (UY (UN 9) (UY (UN 0) (UY (Z6 (Ki 3 (UN 8))) (UY (UN 8) (UT)))))))))
 (U2 (KZ (Zt (UN 1)) (gT 3 (gNC (gN 4) (gNC (gN 5) (gNC (gN 6) (gN0))))) Hx)
 (U9 (UN 7)))))
def Tr:List D->Option D:=Kn R5 Rr
abbrev Sam:Stmt:=top 23
abbrev Pb:List Str:=["wishes", "dealing"]
theorem Ham:FnNm (Kv Sam) Pb ["enumerate", "look_at_wishes"]:=K9 (by decide +kernel)
def RJ:SM :=
 U2 (Wb (U5 1 YI (UY (UN 0) (UT))))
 (U9 (Ka UK (ZS (Xc (UY (Ki 0 (U1 (.int 0))) (UT))) 2 (gT 2 (gNC (gN 2) (gNC (gN 3) (gN0)))) (U1 true) (U3 Zk (UN 3) (VM (UN 1) (UY (UN 2) (UT)))))))
def TC:List D->Option D:=Kn Pb RJ
abbrev Sbg:Stmt:=top 49
abbrev Tb:List Str:=["wishes", "dealing", "nothing", "left", "to_nothing"]
theorem Hbg:FnNm (Kv Sbg) Tb ["range", "enumerate", "copies_left", "len"]:=K9 (by decide +kernel)
def Rq:SM :=
 U2 (Km 2 (ZN Ku (UY (Ki 0 (U1 (.int 0))) (UT))))
 (U2 (Km 3 (U5 2 TC (UY (UN 0) (UY (UN 1) (UT)))))
 (U2 (ZC 4 (ZS (Xc (UY (UN 3) (UT))) 2 (gT 2 (gNC (gN 5) (gNC (gN 6) (gN0)))) (Zz (oIB λi j=>decide (j<i)) 6 (U1 (.int 0))) (Ze (UY (UN 5) (UY (UN 2) (UY (U1 (.int 0)) (UY (U1 .none) (UT))))))))
 (U9 (U3 Kh (UN 4) (Ka UK (ZS (W3 (UY (UN 2) (UT))) 1 (gN 5) (U1 true) (Ze (UY (UN 2) (UY (UN 5) (UY (U1 (.int 0)) (UY (U1 .none) (UT))))))))))))
def Tq:List D->Option D:=Kn Tb Rq
abbrev Sbh:Stmt:=top 50
abbrev N_bh:List Str:=["wishes", "worths", "dealing"]
theorem Hbh:FnNm (Kv Sbh) N_bh ["len", "steps_of_askers", "steps_of_copies"]:=K9 (by decide +kernel)
def Rp:SM :=
 U9 (U3 Kh (U5 3 Tr (UY (ZN Ku (UY (Ki 0 (U1 (.int 0))) (UT))) (UY (UN 1) (UY (UN 2) (UT))))) (U5 2 Tq (UY (UN 0) (UY (UN 2) (UT)))))
def X9:List D->Option D:=Kn N_bh Rp
abbrev Sbi:Stmt:=top 51
abbrev N_bi:List Str:=["walks", "steps", "told", "step", "ahead", "behind", "gain", "asker", "gained", "walked"]
theorem Hbi:FnNm (Kv Sbi) N_bi ["list"]:=K9 (by decide +kernel)
def Hv:SM :=
 U2 (Z9 (UN 3) (gT 4 (gNC (gN 4) (gNC (gN 5) (gNC (gN 6) (gNC (gN 7) (gN0)))))))
 (U2 (Z9 (Ki 0 (UN 4)) (gT 2 (gNC (gN 8) (gNC (gN 9) (gN0)))))
 (sIf (U3 (oIB λi j=>decide (j<i)) (U3 Kh (UN 8) (UN 6)) (U3 oIx (Ki 2 (UN 5)) (U1 (.int 0))))
 (W0 2 (UN 5) (Ze (UY (U3 Kh (UN 8) (UN 6)) (UY (U3 Kh (UN 9) (KR (UY (UN 3) (UT)))) (UT)))))
 (sNx)))
def Ro:SM :=
 U2 (ZC 2 (Wi 0))
 (U2 (KZ (Zt (UN 1)) (gN 3) Hv)
 (U9 (UN 2)))
def Tp:List D->Option D:=Kn N_bi Ro
abbrev Sbj:Stmt:=top 52
abbrev N_bj:List Str:=["places", "steps", "told", "turn"]
theorem Hbj:FnNm (Kv Sbj) N_bj ["range", "longer_walks"]:=K9 (by decide +kernel)
def Hu:SM :=
 Km 2 (U5 2 Tp (UY (UN 2) (UY (UN 1) (UT))))
def Rn:SM :=
 U2 (Km 2 (U3 KY (KR (UY (Ze (UY (U1 (.int 0)) (UY (KR (UT)) (UT)))) (UT))) (UN 0)))
 (U2 (KZ (W3 (UY (UN 0) (UT))) (gN 3) Hu)
 (U9 (UN 2)))
def WJ:List D->Option D:=Kn N_bj Rn
abbrev Sbo:Stmt:=top 57
abbrev R4:List Str:=["wishes", "worths", "dealing", "nothing", "walks"]
theorem Hbo:FnNm (Kv Sbo) R4 ["all_steps", "widest_walks", "len"]:=K9 (by decide +kernel)
def Ri:SM :=
 U2 (Km 3 (ZN Ku (UY (Ki 0 (U1 (.int 0))) (UT))))
 (U2 (Km 4 (U5 2 WJ (UY (U3 Kh (UN 3) (U1 (.int 1))) (UY (U5 3 X9 (UY (UN 0) (UY (UN 1) (UY (UN 2) (UT))))) (UT)))))
 (U9 (Ka UK (ZS (Zt (Yz (UN 4) (U1 none) (Kr (UN 3) λx=>Ks (Y2 x)))) 2 (gT 2 (gNC (gN 5) (gNC (gN 6) (gN0)))) (U1 true) (UN 5)))))
def Tm:List D->Option D:=Kn R4 Ri
abbrev Sbq:Stmt:=top 59
abbrev N_bq:List Str:=["wishes", "worths", "dealing", "prices"]
theorem Hbq:FnNm (Kv Sbq) N_bq ["len", "asks_beyond", "prices_for"]:=K9 (by decide +kernel)
def Rg:SM :=
 U2 (Km 3 (U5 3 Tm (UY (UN 0) (UY (UN 1) (UY (UN 2) (UT))))))
 (U9 (Ze (UY (U1 (.int 1)) (UY (U5 3 Tl (UY (ZN Ku (UY (Ki 0 (U1 (.int 1))) (UT))) (UY (UN 1) (UY (UN 3) (UT))))) (UY (UN 3) (UT))))))
def WI:List D->Option D:=Kn N_bq Rg
abbrev Sbk:Stmt:=top 53
abbrev N_bk:List Str:=["walk", "end", "step", "begin"]
theorem Hbk:FnNm (Kv Sbk) N_bk ["enumerate", "range"]:=K9 (by decide +kernel)
def Ht:SM :=
 sIf (U3 oEq (U3 oIx (Ki 0 (UN 3)) (U1 (.int 0))) (Ki 2 (U1 (.int 1))))
 (U9 (Yz (UN 0) (Kr (UN 3) λx=>Ks (Y2 x)) (Kr (U3 Kh (UN 1) (U1 (.int 1))) λx=>Ks (Y2 x))))
 (sNx)
def Hs:SM :=
 KZ (W3 (UY (U3 Kh (UN 1) (U1 (.int 1))) (UT))) (gN 3) Ht
def Rm:SM :=
 U2 (KZ (Xc (UY (UN 0) (UT))) (gT 2 (gNC (gN 1) (gNC (gN 2) (gN0)))) Hs)
 (U9 (KR (UT)))
def To:List D->Option D:=Kn N_bk Rm
abbrev Sbl:Stmt:=top 54
abbrev N_bl:List Str:=["nothing", "steps", "begin", "number", "step", "way", "ahead", "behind", "gain", "asker"]
theorem Hbl:FnNm (Kv Sbl) N_bl ["enumerate"]:=K9 (by decide +kernel)
def Hr:SM :=
 sIf (Ka (λd=>!isNon d) (UN 9))
 (Yy 5 (Ze (UY (UN 9) (UY (mIf (Zz oEq 7 (UN 0)) (U1 .none) (UN 7)) (UT)))))
 (sNx)
def Hq:SM :=
 sIf (U3 oEq (Ki 4 (U1 (.int 0))) (UN 0))
 (Km 2 (UN 3))
 (sNx)
def Rl:SM :=
 U2 (Km 2 (U1 (.int 0)))
 (U2 (KZ (Xc (UY (UN 1) (UT))) (gT 2 (gNC (gN 3) (gNC (gN 4) (gN0)))) Hq)
 (U2 (ZC 5 (Kr (UT) λxs=>if xs.length<=1000000 then U1 xs else λ_=>.bad))
 (U2 (KZ (Zt (U3 Kh (Yz (UN 1) (Kr (UN 2) λx=>Ks (Y2 x)) (U1 none)) (Yz (UN 1) (U1 none) (Kr (UN 2) λx=>Ks (Y2 x))))) (gT 4 (gNC (gN 6) (gNC (gN 7) (gNC (gN 8) (gNC (gN 9) (gN0)))))) Hr)
 (U9 (UN 5)))))
def Vp:List D->Option D:=Kn N_bl Rl
abbrev Sbm:Stmt:=top 55
abbrev N_bm:List Str:=["wishes", "worths", "dealing", "nothing", "gained", "walk"]
theorem Hbm:FnNm (Kv Sbm) N_bm ["all_steps", "widest_walks", "len", "round_within", "way_round"]:=K9 (by decide +kernel)
def Hn:SM :=
 sIf (U3 oEq (ZM 5) (U3 Kh (UN 3) (U1 (.int 1))))
 (U9 (U5 2 Vp (UY (UN 3) (UY (U5 1 To (UY (UN 5) (UT))) (UT)))))
 (sNx)
def Rk:SM :=
 U2 (Km 3 (ZN Ku (UY (Ki 0 (U1 (.int 0))) (UT))))
 (U2 (KZ (Zt (U5 2 WJ (UY (U3 Kh (UN 3) (U1 (.int 1))) (UY (U5 3 X9 (UY (UN 0) (UY (UN 1) (UY (UN 2) (UT))))) (UT))))) (gT 2 (gNC (gN 4) (gNC (gN 5) (gN0)))) Hn)
 (U9 (KR (UT))))
def X8:List D->Option D:=Kn N_bm Rk
abbrev Saj:Stmt:=top 19
abbrev Pe:List Str:=["wishes"]
theorem Haj:FnNm (Kv Saj) Pe ["enumerate", "sorted", "look_at_wishes"]:=K9 (by decide +kernel)
def RM:SM :=
 U2 (Wb (U5 1 YI (UY (UN 0) (UT))))
 (U9 (ZN Sq (UY (Ka UK (Oc (Xc (UY (Ki 0 (U1 (.int 1))) (UT))) 4 (gT 2 (gNC (gN 1) (gNC (gN 2) (gN0)))) (U1 true) (Zt (UN 2)) (gN 3) (U1 true) (Zt (UN 3)) (gN 4) (U1 true) (Ze (UY (UN 1) (UY (UN 4) (UT)))))) (UT))))
def TF:List D->Option D:=Kn Pe RM
abbrev Say:Stmt:=top 39
abbrev N_ay:List Str:=["base", "times", "told", "step"]
theorem Hay:FnNm (Kv Say) N_ay ["range"]:=K9 (by decide +kernel)
def Hm:SM :=
 Ve Y6 2 (UN 0)
def Ry:SM :=
 U2 (Km 2 (U1 (.int 1)))
 (U2 (KZ (W3 (UY (UN 1) (UT))) (gN 3) Hm)
 (U9 (UN 2)))
def Yc:List D->Option D:=Kn N_ay Ry
abbrev Sba:Stmt:=top 41
abbrev N_ba:List Str:=["turns", "base", "asker", "rank", "behind"]
theorem Hba:FnNm (Kv Sba) N_ba ["power", "len"]:=K9 (by decide +kernel)
def Rw:SM :=
 U2 (sIf (Zz X1 2 (UN 0))
 (U9 (U1 (.int 0)))
 (sNx))
 (U2 (Km 4 (U3 Zk (U3 Zk (ZM 0) (U1 (.int 1))) (OV (UN 0) (UY (UN 2) (UT)))))
 (U9 (U3 KY (U3 Zk (UN 1) (UN 3)) (U5 2 Yc (UY (UN 1) (UY (UN 4) (UT)))))))
def Tt:List D->Option D:=Kn N_ba Rw
abbrev Saz:Stmt:=top 40
abbrev N_az:List Str:=["order", "base", "most", "rank"]
theorem Haz:FnNm (Kv Saz) N_az ["power"]:=K9 (by decide +kernel)
def Rx:SM :=
 U2 (sIf (Zz oEq 0 (U1 (.str "firsts")))
 (U9 (U5 2 Yc (UY (UN 1) (UY (U3 Zk (UN 2) (UN 3)) (UT)))))
 (sNx))
 (U2 (sIf (Zz oEq 0 (U1 (.str "full")))
 (U9 (U3 Kh (U5 2 Yc (UY (UN 1) (UY (UN 2) (UT)))) (U5 2 Yc (UY (UN 1) (UY (U3 Zk (UN 2) (UN 3)) (UT))))))
 (sNx))
 (U9 (U3 Zk (U5 2 Yc (UY (UN 1) (UY (UN 2) (UT)))) (U5 2 Yc (UY (UN 1) (UY (U3 Zk (UN 3) (U1 (.int 1))) (UT)))))))
def Tu:List D->Option D:=Kn N_az Rx
abbrev Sbb:Stmt:=top 42
abbrev N_bb:List Str:=["wishes", "aim", "most", "asker", "thing", "order", "old", "turns", "lists", "rank", "base", "kept", "by_counts"]
theorem Hbb:FnNm (Kv Sbb) N_bb ["len", "power", "worth_by_turns", "worth_by_order", "rank_in"]:=K9 (by decide +kernel)
def Rv:SM :=
 U2 (Z9 (UN 1) (gT 3 (gNC (gN 5) (gNC (gN 6) (gNC (gN 7) (gN0))))))
 (U2 (Km 8 (Ki 0 (U1 (.int 1))))
 (U2 (Km 9 (U5 2 Xk (UY (Ki 8 (UN 3)) (UY (UN 4) (UT)))))
 (U2 (Km 10 (U3 Kh (ZM 8) (U1 (.int 1))))
 (U2 (Km 11 (mIf (ZZ (Ka (λd=>!isNon d) (UN 6)) (U3 oEq (Ki 6 (UN 3)) (UN 4))) (U1 (.int 1)) (U1 (.int 0))))
 (U2 (Km 12 (U3 Kh (U3 KY (U5 4 Tu (UY (UN 5) (UY (UN 10) (UY (UN 2) (UY (UN 9) (UT)))))) (UN 10)) (UN 11)))
 (U9 (U3 Kh (U3 KY (UN 12) (U5 2 Yc (UY (U3 Kh (UN 2) (U1 (.int 1))) (UY (ZM 7) (UT))))) (U5 4 Tt (UY (UN 7) (UY (U3 Kh (UN 2) (U1 (.int 1))) (UY (UN 3) (UY (UN 9) (UT)))))))))))))
def Vr:List D->Option D:=Kn N_bb Rv
abbrev Sbc:Stmt:=top 43
abbrev R6:List Str:=["wishes", "aim", "most"]
theorem Hbc:FnNm (Kv Sbc) R6 ["all_wishes", "longest", "look_at_aim"]:=K9 (by decide +kernel)
def Ru:SM :=
 U2 (Wb (U5 2 WM (UY (UN 0) (UY (UN 1) (UT)))))
 (U2 (Km 2 (U5 1 WP (UY (UN 0) (UT))))
 (U9 (Ka UK (ZS (Zt (U5 1 TF (UY (UN 0) (UT)))) 2 (gT 2 (gNC (gN 3) (gNC (gN 4) (gN0)))) (U1 true) (Ze (UY (UN 3) (UY (UN 4) (UY (U5 5 Vr (UY (UN 0) (UY (UN 1) (UY (UN 2) (UY (UN 3) (UY (UN 4) (UT))))))) (UT)))))))))
def WK:List D->Option D:=Kn R6 Ru
abbrev Sbs:Stmt:=top 62
abbrev N_bs:List Str:=["wishes", "aim", "dealing", "worths", "way"]
theorem Hbs:FnNm (Kv Sbs) N_bs ["paper_for", "gaining_way", "all_worths"]:=K9 (by decide +kernel)
def Re:SM :=
 U2 (Km 3 (U5 2 WK (UY (UN 0) (UY (UN 1) (UT)))))
 (U2 (Km 4 (U5 3 X8 (UY (UN 0) (UY (UN 3) (UY (UN 2) (UT))))))
 (U2 (sIf (Pt (UN 4))
 (U9 (Ze (UY (U1 (.str "way")) (UY (UN 4) (UT)))))
 (sNx))
 (U9 (Ze (UY (U1 (.str "best")) (UY (U5 3 WI (UY (UN 0) (UY (UN 3) (UY (UN 2) (UT))))) (UT)))))))
def Vo:List D->Option D:=Kn N_bs Re
abbrev Sbd:Stmt:=top 45
abbrev N_bd:List Str:=["dealing", "way", "told", "asker", "taken"]
theorem Hbd:FnNm (Kv Sbd) N_bd ["list"]:=K9 (by decide +kernel)
def Hl:SM :=
 W0 2 (UN 3) (UN 4)
def Rt:SM :=
 U2 (ZC 2 (Wi 0))
 (U2 (KZ (Zt (UN 1)) (gT 2 (gNC (gN 3) (gNC (gN 4) (gN0)))) Hl)
 (U9 (UN 2)))
def Ts:List D->Option D:=Kn N_bd Rt
abbrev Sbn:Stmt:=top 56
abbrev N_bn:List Str:=["wishes", "worths", "dealing", "way"]
theorem Hbn:FnNm (Kv Sbn) N_bn ["gaining_way", "behind_way", "len"]:=K9 (by decide +kernel)
def O3:SM :=
 U2 (Km 2 (U5 2 Ts (UY (UN 2) (UY (UN 3) (UT)))))
 (Km 3 (U5 3 X8 (UY (UN 0) (UY (UN 1) (UY (UN 2) (UT))))))
def Rj:SM :=
 U2 (Km 2 (U3 KY (KR (UY (U1 .none) (UT))) (ZN Ku (UY (Ki 0 (U1 (.int 1))) (UT)))))
 (U2 (Km 3 (U5 3 X8 (UY (UN 0) (UY (UN 1) (UY (UN 2) (UT))))))
 (U2 (Wh (Pt (UN 3)) O3 WQ)
 (U9 (UN 2))))
def Tn:List D->Option D:=Kn N_bn Rj
abbrev Sbr:Stmt:=top 61
abbrev N_br:List Str:=["wishes", "aim", "worths", "dealing"]
theorem Hbr:FnNm (Kv Sbr) N_br ["paper_for", "best_by", "all_worths"]:=K9 (by decide +kernel)
def Rf:SM :=
 U2 (Km 2 (U5 2 WK (UY (UN 0) (UY (UN 1) (UT)))))
 (U2 (Km 3 (U5 2 Tn (UY (UN 0) (UY (UN 2) (UT)))))
 (U9 (Ze (UY (UN 3) (UY (U5 3 WI (UY (UN 0) (UY (UN 2) (UY (UN 3) (UT))))) (UT))))))
def Tk:List D->Option D:=Kn N_br Rf
abbrev Sbt:Stmt:=top 64
abbrev N_bt:List Str:=["_law_script", "_law_k"]
theorem Hbt:FnNm (Kv Sbt) N_bt ["len"]:=K9 (by decide +kernel)
def V3:SM :=
 U2 (sIf (Zz (oIB λi j=>decide (i<j)) 1 (ZM 0))
 (U9 (Ki 0 (UN 1)))
 (sNx))
 (U9 (U1 (.int 0)))
def X7:List D->Option D:=Kn N_bt V3
abbrev Sbz:Stmt:=top 70
abbrev R1:List Str:=["_law_wishes_here", "_law_cell", "_law_salt", "_law_askers", "_law_sizes", "_law_digits", "_law_old", "_law_turns", "_law_digit"]
theorem Hbz:FnNm (Kv Sbz) R1 ["_law_numbers", "len"]:=K9 (by decide +kernel)
def O2:SM :=
 Km 8 (U3 ZL (U3 Kh (UN 8) (U1 (.int 1))) (UN 3))
def Hk:SM :=
 U2 (Wh (TV oIn (UN 8) 7) O2 1000)
 (Yy 7 (UN 8))
def S7:SM :=
 U2 (Km 3 (ZN Ku (UY (Ki 0 (U1 (.int 1))) (UT))))
 (U2 (Km 4 (U3 Kh (KR (UY (U1 (.int 3)) (UY (U1 (.int 2)) (UY (U3 Kh (UN 3) (U1 (.int 1))) (UT))))) (U3 KY (KR (UY (U3 Kh (ZN Ku (UY (Ki 0 (U1 (.int 0))) (UT))) (U1 (.int 1))) (UT))) (UN 3))))
 (U2 (Km 5 (U5 3 YV (UY (UN 1) (UY (UN 2) (UY (U3 Kh (UN 4) (U3 KY (KR (UY (UN 3) (UT))) (UN 3))) (UT))))))
 (U2 (Km 6 (U1 .none))
 (U2 (sIf (U3 oEq (Ki 5 (U1 (.int 1))) (U1 (.int 1)))
 (ZC 6 (ZS (Zt (Yz (UN 5) (Kr (U1 (.int 3)) λx=>Ks (Y2 x)) (Kr (U3 Kh (U1 (.int 3)) (UN 3)) λx=>Ks (Y2 x)))) 1 (gN 9) (U1 true) (U3 oIx (KR (UY (U1 .none) (UY (U3 Zk (UN 9) (U1 (.int 1))) (UT)))) (ZN PX (UY (Ka UL (Zz (oIB λi j=>decide (j<i)) 9 (U1 (.int 0)))) (UT))))))
 (sNx))
 (U2 (ZC 7 (Kr (UT) λxs=>if xs.length<=1000000 then U1 xs else λ_=>.bad))
 (U2 (KZ (Zt (Yz (UN 5) (Kr (U3 Kh (U1 (.int 3)) (UN 3)) λx=>Ks (Y2 x)) (Kr (U3 Kh (U3 Kh (U1 (.int 3)) (UN 3)) (Ki 5 (U1 (.int 2)))) λx=>Ks (Y2 x)))) (gN 8) Hk)
 (U9 (Ze (UY (U3 oIx (KR (UY (U1 (.str "firsts")) (UY (U1 (.str "full")) (UY (U1 (.str "lasts")) (UT))))) (Ki 5 (U1 (.int 0)))) (UY (UN 6) (UY (UN 7) (UT))))))))))))
def Ti:List D->Option D:=Kn R1 S7
abbrev Sbv:Stmt:=top 66
abbrev Ta:List Str:=["_law_script", "_law_at", "_law_most_things", "_law_most_askers", "_law_most_ranks", "_law_sizes", "_law_digits", "_law_copies", "_law_lists", "_law_asker", "_law_cell", "_law_places", "_law_ranks", "_law_rank_here", "_law_row"]
theorem Hbv:FnNm (Kv Sbv) Ta ["range", "len", "_law_numbers", "_law_cell_at"]:=K9 (by decide +kernel)
def Mm:SM :=
 U2 (ZC 14 (ZS (W3 (UY (ZM 7) (UT))) 1 (gN 15) (U3 oEq (Ki 11 (UN 15)) (UN 13)) (UN 15)))
 (sIf (Zz oNe 14 (KR (UT)))
 (Yy 12 (U3 oIx (KR (UY (UN 14) (UY (WB (UN 14) (U1 none) (U1 none) (Kr (Z6 (U1 (.int 1))) λx=>Ks (Y2 x))) (UT)))) (Ki 11 (Z6 (U1 (.int 1))))))
 (sNx))
def Ma:SM :=
 U2 (Km 10 (U5 2 X7 (UY (UN 0) (UY (U3 Kh (U3 Kh (UN 1) (U1 (.int 1))) (UN 9)) (UT)))))
 (U2 (Km 11 (U5 3 YV (UY (UN 10) (UY (U3 Kh (U3 Kh (U3 KY (U1 (.int 11)) (UN 1)) (U3 KY (U1 (.int 3)) (UN 9))) (U1 (.int 1))) (UY (U3 Kh (U3 KY (KR (UY (U3 Kh (UN 4) (U1 (.int 1))) (UT))) (UN 2)) (KR (UY (U1 (.int 2)) (UT)))) (UT))))))
 (U2 (ZC 12 (Kr (UT) λxs=>if xs.length<=1000000 then U1 xs else λ_=>.bad))
 (U2 (KZ (PQ (UY (U1 (.int 1)) (UY (U3 Kh (UN 4) (U1 (.int 1))) (UT)))) (gN 13) Mm)
 (Yy 8 (UN 12)))))
def Rb:SM :=
 U2 (Km 5 (U3 Kh (KR (UY (UN 2) (UY (UN 3) (UT)))) (U3 KY (KR (UY (U1 (.int 11)) (UT))) (UN 2))))
 (U2 (Km 6 (U5 3 YV (UY (U5 2 X7 (UY (UN 0) (UY (UN 1) (UT)))) (UY (UN 1) (UY (UN 5) (UT))))))
 (U2 (ZC 7 (ZS (Zt (Yz (UN 6) (Kr (U1 (.int 2)) λx=>Ks (Y2 x)) (Kr (U3 Kh (U1 (.int 3)) (Ki 6 (U1 (.int 0)))) λx=>Ks (Y2 x)))) 1 (gN 15) (U1 true) (U3 oIx (KR (UY (U1 (.int 1)) (UY (U1 (.int 1)) (UY (U1 (.int 2)) (UY (U1 (.int 0)) (UY (U1 (.int 3)) (UY (U1 (.int 7)) (UY (U1 (.int 1)) (UY (U1 (.int 4)) (UY (U1 (.int 5)) (UY (U1 (.int 6)) (UY (U1 (.int 1)) (UT))))))))))))) (UN 15))))
 (U2 (ZC 8 (Kr (UT) λxs=>if xs.length<=1000000 then U1 xs else λ_=>.bad))
 (U2 (KZ (W3 (UY (U3 Kh (U1 (.int 1)) (Ki 6 (U1 (.int 1)))) (UT))) (gN 9) Ma)
 (U9 (Ze (UY (UN 7) (UY (UN 8) (UT)))))))))
def Tj:List D->Option D:=Kn Ta Rb
abbrev Sci:Stmt:=top 79
abbrev N_ci:List Str:=["_law_script", "_law_wishes_here", "_law_aim_here", "_law_best", "_law_key_here", "_law_dealing", "_law_k", "_law_cell"]
theorem Hci:FnNm (Kv Sci) N_ci ["enumerate", "list", "is_better", "_law_key", "_law_above", "_law_dealt", "_law_near", "bettered", "_law_is_dealing", "best_dealing", "_law_cell_at", "_law_aim", "_law_wishes"]:=K9 (by decide +kernel)
def Hj:SM :=
 U2 (sIf (U3 oEq (U3 ZL (UN 6) (U1 (.int 4))) (U1 (.int 0)))
 (Km 5 (U5 3 Th (UY (UN 1) (UY (UN 7) (UY (U3 Kh (U1 (.int 31)) (UN 6)) (UT))))))
 (sIf (U3 oEq (U3 ZL (UN 6) (U1 (.int 4))) (U1 (.int 1)))
 (Km 5 (U5 4 Vn (UY (UN 1) (UY (UN 3) (UY (UN 7) (UY (U3 Kh (U1 (.int 31)) (UN 6)) (UT)))))))
 (Km 5 (U5 4 Vn (UY (UN 1) (UY (UN 5) (UY (UN 7) (UY (U3 Kh (U1 (.int 31)) (UN 6)) (UT)))))))))
 (U2 (sIf (mOr (U3 Wy (U5 3 WH (UY (UN 1) (UY (UN 2) (UY (UN 5) (UT))))) (UN 4)) (YF (U5 3 Vm (UY (UN 1) (UY (UN 5) (UY (UN 3) (UT)))))))
 (U9 (U1 (.bool false)))
 (sNx))
 (sIf (U3 OE (U5 4 Vs (UY (UN 1) (UY (UN 2) (UY (Ka UK (Wi 5)) (UY (Ka UK (Wi 3)) (UT)))))) (U1 (.bool false)))
 (U9 (U1 (.bool false)))
 (sNx)))
def SU:SM :=
 U2 (Km 1 (U5 5 Tj (UY (UN 0) (UY (U1 (.int 1)) (UY (U1 (.int 6)) (UY (U1 (.int 7)) (UY (U1 (.int 5)) (UT))))))))
 (U2 (Km 2 (U5 3 Ti (UY (UN 1) (UY (U5 2 X7 (UY (UN 0) (UY (U1 (.int 0)) (UT)))) (UY (U1 (.int 5)) (UT))))))
 (U2 (Km 3 (U3 oIx (U5 2 Tk (UY (UN 1) (UY (UN 2) (UT)))) (U1 (.int 0))))
 (U2 (sIf (Zu (YF (U5 2 XE (UY (UN 1) (UY (UN 3) (UT))))))
 (U9 (U1 (.bool false)))
 (sNx))
 (U2 (sIf (U3 oNe (U3 oIx (U5 3 Vo (UY (UN 1) (UY (UN 2) (UY (Ka UK (Wi 3)) (UT))))) (U1 (.int 0))) (U1 (.str "best")))
 (U9 (U1 (.bool false)))
 (sNx))
 (U2 (Km 4 (U5 3 WH (UY (UN 1) (UY (UN 2) (UY (UN 3) (UT))))))
 (U2 (Km 5 (UN 3))
 (U2 (KZ (Xc (UY (Yz (UN 0) (Kr (U1 (.int 9)) λx=>Ks (Y2 x)) (Kr (U1 (.int 63)) λx=>Ks (Y2 x))) (UT))) (gT 2 (gNC (gN 6) (gNC (gN 7) (gN0)))) Hj)
 (U9 (U1 (.bool true))))))))))
def Te:List D->Option D:=Kn N_ci SU
section
variable{P:UA}{w:World}{K:Frag}{mg:Str->Option Uy}{base:Heap}{f:UB}{fd:UC}(T:Txt K mg)
include T
theorem Kaw(F:Fun K "is_better_by_turns" "is_better_by_turns" Saw f fd):FnOk P w K mg base CX0 1 f fd ["one", "other"] (spD K 2 Tv) :=
 okD (k:=0) (g:=RA) F (fq Haw 2) rfl λcdv A outer s H E B G0 hr=>
 have hu:=hr.units;have hgd:=hr.gd
 (Kg (Yu Qt rfl (Oa (gq Haw 0) T.b_zip (U0 (UX (pq Haw 0)) (U0 (UX (pq Haw 1)) U8))) (ZE rfl (KD (Kp (Kq (i:=2) (nq Haw) rfl (lq Haw 2))) (KD (Kp (Kq (i:=3) (nq Haw) rfl (lq Haw 3))) ZG)))
 (Kj (Zd (YN (YJ hu) (pq Haw 2) (UX (pq Haw 3)) (Zo _))
 (Kj (KH (LU (Px (Zr hu) (pq Haw 3) Kd (Zo _)) (SG (Fg TM TM Kd (UX (pq Haw 2)) (UX (pq Haw 3)))))))
 Zl)))
 (Kj (KH Xz)))
theorem Kap(F:Fun K "gaps" "gaps" Sap f fd):FnOk P w K mg base CX0 1 f fd ["order", "one", "other"] (spD K 3 Tz) :=
 okD (k:=0) (g:=RG) F (fq Hap 3) rfl λcdv A outer s H E B G0 hr=>
 have hu:=hr.units;have hgd:=hr.gd
 (Kg (YT (j:=3) (Kv Sap) Tc ["order", "one", "other", "more", "less", "mine", "yours"] 2 Yv (nq Hap) rfl rfl rfl (Oa (gq Hap 0) T.b_zip (U0 (UX (pq Hap 1)) (U0 (UX (pq Hap 2)) U8))) (λcl C s0 H0 ex=>⟨λB' G'=>(ZE rfl (KD (Kp (Kq (i:=5) (show (["order", "one", "other", "more", "less", "mine", "yours"]:List Str).Nodup by decide +kernel) rfl (Zw rfl) (.inr (Zx rfl)))) (KD (Kp (Kq (i:=6) (show (["order", "one", "other", "more", "less", "mine", "yours"]:List Str).Nodup by decide +kernel) rfl (Zw rfl) (.inr (Zx rfl)))) ZG))),λB' G'=>YE,(Yd rfl rfl rfl λB' G'=>(Kw Xn (UX (pvb 5)) (UX (pvb 6))))⟩) rfl rfl (by decide +kernel))
 (Kg (Zd (YN (Zr hu) (pq Hap 0) Xv (Zo _))
 (Kj (KH (UX (pq Hap 3))))
 Zl)
 (Kg (YT (j:=4) (Kv Sap) Tc ["order", "one", "other", "more", "less", "gap"] 1 Yv (nq Hap) rfl rfl rfl (Yk (UX (pq Hap 3))) (λcl C s0 H0 ex=>⟨λB' G'=>(Kp (Kq (i:=5) (show (["order", "one", "other", "more", "less", "gap"]:List Str).Nodup by decide +kernel) rfl (Zw rfl) (.inr (Zx rfl)))),λB' G'=>YE,(Yd rfl rfl rfl λB' G'=>(VG (UX (pvb 5))))⟩) rfl rfl (by decide +kernel))
 (Kg (Zd (YN (Zr hu) (pq Hap 0) Xv (Zo _))
 (Kj (KH (Kw Zf (VZ (UX (pq Hap 4)) (Xw (VG Kd)) VE) (UX (pq Hap 3)))))
 Zl)
 (Kj (KH (Md (UX (pq Hap 4)) VE VE (Xw (VG Kd)))))))))
theorem Kan(F:Fun K "is_order" "is_order" San f fd):FnOk P w K mg base CX0 1 f fd ["thing"] (spD K 1 TB) :=
 okD (k:=0) (g:=RI) F (fq Han 1) rfl λcdv A outer s H E B G0 hr=>
 have hu:=hr.units;have hgd:=hr.gd
 (Kj (KH (Oi (Wk (c := "str") (by decide) (gq Han 0) T.b_isinstance (gq Han 1) T.b_str (by decide +kernel) (UX (pq Han 0)) (by decide) (by decide)) (SG (Px (TN hu) (pq Han 0) (EH (gq Han 2) T.c_ORDERS) rfl)))))
theorem Kao(d_an:Def P w K mg base "is_order" 1 1 TB)(F:Fun K "look_at_order" "look_at_order" Sao f fd):FnOk P w K mg base CX0 2 f fd ["thing"] (spD K 1 WN) :=
 okD (k:=1) (g:=RH) F (fq Hao 1) rfl λcdv A outer s H E B G0 hr=>
 have hu:=hr.units;have hgd:=hr.gd
 (Kj (Zd (Xa (Y9 (pdf d_an hr (gq Hao 0) (U0 (UX (pq Hao 0)) U8))))
 (Kj VS)
 Zl))
theorem Kaq(d_ap:Def P w K mg base "gaps" 1 3 Tz)(d_ao:Def P w K mg base "look_at_order" 2 1 WN)(F:Fun K "beside_by" "beside_by" Saq f fd):FnOk P w K mg base CX0 3 f fd ["order", "one", "other"] (spD K 3 Ty) :=
 okD (k:=2) (g:=RF) F (fq Haq 3) rfl λcdv A outer s H E B G0 hr=>
 have hu:=hr.units;have hgd:=hr.gd
 (Kg (Va (pdf d_ao hr (gq Haq 1) (U0 (UX (pq Haq 0)) U8)))
 (Kg (Yu Qt rfl (Yk (pdf d_ap hr (gq Haq 0) (U0 (UX (pq Haq 0)) (U0 (UX (pq Haq 1)) (U0 (UX (pq Haq 2)) U8))))) (Kp (Kq (i:=3) (nq Haq) rfl (lq Haq 3)))
 (Kj (Zd (YN (YJ hu) (pq Haq 3) Kd (Zo _))
 (Kj (KH (Nu (YN Y7 (pq Haq 3) Kd (Zo _)) Xv Xv)))
 Zl)))
 (Kj (KH Xv))))
theorem Kau(F:Fun K "how_many_kept" "how_many_kept" Sau f fd):FnOk P w K mg base CX0 1 f fd ["old", "dealing"] (spD K 2 WL) :=
 okD (k:=0) (g:=V4) F (fq Hau 2) rfl λcdv A outer s H E B G0 hr=>
 have hu:=hr.units;have hgd:=hr.gd
 (Kg (Zd (Oh (UX (pq Hau 0)))
 (Kj (KH Kd))
 Zl)
 (Kj (KH (YG Wc (gq Hau 1) T.b_len Jk (U0 (Y0 (Xl (Kv Sau) R8 ["old", "dealing", "thing", "got"] 2 Yv rfl (Oa (gq Hau 0) T.b_zip (U0 (UX (pq Hau 0)) (U0 (UX (pq Hau 1)) U8))) (λcl C s0 H0 ex=>⟨λB' G'=>(ZE rfl (KD (Kp (Kq (i:=2) (show (["old", "dealing", "thing", "got"]:List Str).Nodup by decide +kernel) rfl (Zw rfl) (.inr (Zx rfl)))) (KD (Kp (Kq (i:=3) (show (["old", "dealing", "thing", "got"]:List Str).Nodup by decide +kernel) rfl (Zw rfl) (.inr (Zx rfl)))) ZG))),λB' G'=>(SE (PW.pt (Of (VF (UX (pvb 2))) (OA (YN (Zr hu) (pvb 3) (UX (pvb 2)) (Zo _)))))),(Yd rfl rfl rfl λB' G'=>(UX (pvb 2)))⟩) rfl rfl (by decide +kernel))) U8)))))
theorem Kaa(F:Fun K "is_whole" "is_whole" Saa f fd):FnOk P w K mg base CX0 1 f fd ["thing"] (spD K 1 TL) :=
 okD (k:=0) (g:=RU) F (fq Haa 1) rfl λcdv A outer s H E B G0 hr=>
 have hu:=hr.units;have hgd:=hr.gd
 (Kj (KH (Oi (Wk (c := "int") (by decide) (gq Haa 0) T.b_isinstance (gq Haa 1) T.b_int (by decide +kernel) (UX (pq Haa 0)) (by decide) (by decide)) (SG (HD (Wk (c := "bool") (by decide) (gq Haa 0) T.b_isinstance (gq Haa 2) T.b_bool (by decide +kernel) (UX (pq Haa 0)) (by decide) (by decide)))))))
theorem Kab(d_aa:Def P w K mg base "is_whole" 1 1 TL)(F:Fun K "is_number_below" "is_number_below" Sab f fd):FnOk P w K mg base CX0 2 f fd ["thing", "many"] (spD K 2 YA) :=
 okD (k:=1) (g:=RT) F (fq Hab 2) rfl λcdv A outer s H E B G0 hr=>
 have hu:=hr.units;have hgd:=hr.gd
 (Kj (KH (Oi (pdf d_aa hr (gq Hab 0) (U0 (UX (pq Hab 0)) U8)) (SG (Fg WR TM Kd (UX (pq Hab 0)) (UX (pq Hab 1)))))))
theorem Kad(d_ab:Def P w K mg base "is_number_below" 2 2 YA)(F:Fun K "is_rank" "is_rank" Sad f fd):FnOk P w K mg base CX0 3 f fd ["thing", "things"] (spD K 2 Vu) :=
 okD (k:=2) (g:=RR) F (fq Had 2) rfl λcdv A outer s H E B G0 hr=>
 have hu:=hr.units;have hgd:=hr.gd
 (Kg (Zd (PW.pt (W7 (Xa (Y9 (Wk (c := "list") (by decide) (gq Had 1) T.b_isinstance (gq Had 2) T.b_list (by decide +kernel) (UX (pq Had 0)) (by decide) (by decide)))) (Vb (YO (Zr hu) (Yq (gq Had 3) T.b_len (pq Had 0)) Kd (Zo _)))))
 (Kj (KH Xz))
 Zl)
 (Kj (KH (YG (PY rfl) (gq Had 0) T.b_all JR (U0 (Y0 (Xl (Kv Sad) Pg ["thing", "things", "number"] 1 Yv rfl (Yk (UX (pq Had 0))) (λcl C s0 H0 ex=>⟨λB' G'=>(Kp (Kq (i:=2) (show (["thing", "things", "number"]:List Str).Nodup by decide +kernel) rfl (Zw rfl) (.inr (Zx rfl)))),λB' G'=>YE,(Yd rfl rfl rfl λB' G'=>(pdf d_ab hr (W6 rfl) (U0 (UX (pvb 2)) (U0 (UX (pvb 1)) U8))))⟩) rfl rfl (by decide +kernel))) U8)))))
theorem Kae(d_ad:Def P w K mg base "is_rank" 3 2 Vu)(F:Fun K "is_asker_list" "is_asker_list" Sae f fd):FnOk P w K mg base CX0 4 f fd ["thing", "things"] (spD K 2 TJ) :=
 okD (k:=3) (g:=RQ) F (fq Hae 2) rfl λcdv A outer s H E B G0 hr=>
 have hu:=hr.units;have hgd:=hr.gd
 (Kg (Zd (PW.pt (W7 (Xa (Y9 (Wk (c := "list") (by decide) (gq Hae 3) T.b_isinstance (gq Hae 4) T.b_list (by decide +kernel) (UX (pq Hae 0)) (by decide) (by decide)))) (Vb (YO Y7 (Yq (gq Hae 0) T.b_len (pq Hae 0)) (OO (gq Hae 5) T.c_MOST_RANKS) (Zo _)))))
 (Kj (KH Xz))
 Zl)
 (Kg (Zd (Xa (Y9 (YG (PY rfl) (gq Hae 2) T.b_all JR (U0 (Y0 (Xl (Kv Sae) Td ["thing", "things", "wished", "rank"] 1 Yv rfl (Yk (UX (pq Hae 0))) (λcl C s0 H0 ex=>⟨λB' G'=>(Kp (Kq (i:=3) (show (["thing", "things", "wished", "rank"]:List Str).Nodup by decide +kernel) rfl (Zw rfl) (.inr (Zx rfl)))),λB' G'=>YE,(Yd rfl rfl rfl λB' G'=>(pdf d_ad hr (W6 rfl) (U0 (UX (pvb 3)) (U0 (UX (pvb 1)) U8))))⟩) rfl rfl (by decide +kernel))) U8))))
 (Kj (KH Xz))
 Zl)
 (Kg (YT (j:=2) (Kv Sae) Td ["thing", "things", "wished", "rank", "number"] 2 qY (nq Hae) rfl rfl rfl (Yk (UX (pq Hae 0))) (λcl C s0 H0 ex=>⟨λB' G'=>(Kp (Kq (i:=3) (show (["thing", "things", "wished", "rank", "number"]:List Str).Nodup by decide +kernel) rfl (Zw rfl) (.inr (Zx rfl)))),λB' G'=>YE,(MW rfl rfl rfl rfl (λ_=>rfl) (λB' G'=>(Yk (UX (pvb 3)))) (λB' G'=>(Kp (Kq (i:=4) (show (["thing", "things", "wished", "rank", "number"]:List Str).Nodup by decide +kernel) rfl (Zw rfl) (.inr (Zx rfl))))) (λB' G'=>YE) (Yd rfl rfl rfl λB' G'=>(UX (pvb 4))))⟩) rfl rfl (by decide +kernel))
 (Kj (KH (HE (Zr hu) (FW rfl (gq Hae 0) T.b_len (gq Hae 1) T.b_set (U0 (UX (pq Hae 2)) U8)) (Yq (gq Hae 0) T.b_len (pq Hae 2)) (Zo _)))))))
theorem Kaf(d_ae:Def P w K mg base "is_asker_list" 4 2 TJ)(F:Fun K "look_at_lists" "look_at_lists" Saf f fd):FnOk P w K mg base CX0 5 f fd ["lists", "things"] (spD K 2 TH) :=
 okD (k:=4) (g:=RP) F (fq Haf 2) rfl λcdv A outer s H E B G0 hr=>
 have hu:=hr.units;have hgd:=hr.gd
 (Kg (Zd (PW.pt (W7 (Xa (Y9 (Wk (c := "list") (by decide) (gq Haf 2) T.b_isinstance (gq Haf 3) T.b_list (by decide +kernel) (UX (pq Haf 0)) (by decide) (by decide)))) (Vb (Xa (Fh WR WR Kd (Yq (gq Haf 4) T.b_len (pq Haf 0)) (OO (gq Haf 5) T.c_MOST_ASKERS))))))
 (Kj VS)
 Zl)
 (Kj (Yu Qt rfl (X0 (gq Haf 0) T.b_enumerate (U0 (UX (pq Haf 0)) U8)) (ZE rfl (KD (Kp (Kq (i:=2) (nq Haf) rfl (lq Haf 2))) (KD (Kp (Kq (i:=3) (nq Haf) rfl (lq Haf 3))) ZG)))
 (Kj (Zd (Xa (Y9 (pdf d_ae hr (gq Haf 1) (U0 (UX (pq Haf 3)) (U0 (UX (pq Haf 1)) U8)))))
 (Kj VS)
 Zl)))))
theorem Kac(d_ab:Def P w K mg base "is_number_below" 2 2 YA)(F:Fun K "look_at_copies" "look_at_copies" Sac f fd):FnOk P w K mg base CX0 3 f fd ["copies"] (spD K 1 TK) :=
 okD (k:=2) (g:=RS) F (fq Hac 1) rfl λcdv A outer s H E B G0 hr=>
 have hu:=hr.units;have hgd:=hr.gd
 (Kg (Zd (PW.pt (W7 (Xa (Y9 (Wk (c := "list") (by decide) (gq Hac 3) T.b_isinstance (gq Hac 4) T.b_list (by decide +kernel) (UX (pq Hac 0)) (by decide) (by decide)))) (Vb (Xa (Fh WR WR Kd (Yq (gq Hac 5) T.b_len (pq Hac 0)) (OO (gq Hac 6) T.c_MOST_THINGS))))))
 (Kj VS)
 Zl)
 (Kj (Yu Qt rfl (X0 (gq Hac 0) T.b_enumerate (U0 (UX (pq Hac 0)) U8)) (ZE rfl (KD (Kp (Kq (i:=1) (nq Hac) rfl (lq Hac 1))) (KD (Kp (Kq (i:=2) (nq Hac) rfl (lq Hac 2))) ZG)))
 (Kj (Zd (Xa (Y9 (pdf d_ab hr (gq Hac 2) (U0 (UX (pq Hac 2)) (U0 (Kw Zf (OO (gq Hac 1) T.c_MOST_COPIES) Kd) U8)))))
 (Kj VS)
 Zl)))))
theorem Kag(d_af:Def P w K mg base "look_at_lists" 5 2 TH)(d_ac:Def P w K mg base "look_at_copies" 3 1 TK)(F:Fun K "look_at_wishes" "look_at_wishes" Sag f fd):FnOk P w K mg base CX0 6 f fd ["thing"] (spD K 1 YI) :=
 okD (k:=5) (g:=RO) F (fq Hag 1) rfl λcdv A outer s H E B G0 hr=>
 have hu:=hr.units;have hgd:=hr.gd
 (Kg (Zd (PW.pt (W7 (Xa (Y9 (Wk (c := "tuple") (by decide) (gq Hag 3) T.b_isinstance (gq Hag 4) T.b_tuple (by decide +kernel) (UX (pq Hag 0)) (by decide) (by decide)))) (Vb (YO (YJ hu) (Yq (gq Hag 0) T.b_len (pq Hag 0)) Kd (Zo _)))))
 (Kj VS)
 Zl)
 (Kg (VA (UX (pq Hag 0)) (ZE rfl (KD (Kp (Kq (i:=1) (nq Hag) rfl (lq Hag 1))) (KD (Kp (Kq (i:=2) (nq Hag) rfl (lq Hag 2))) ZG))))
 (Kg (Va (pdf d_ac hr (gq Hag 2) (U0 (UX (pq Hag 1)) U8)))
 (Kj (Va (pdf d_af hr (gq Hag 1) (U0 (UX (pq Hag 2)) (U0 (Yq (gq Hag 0) T.b_len (pq Hag 1)) U8))))))))
theorem Kai(d_ag:Def P w K mg base "look_at_wishes" 6 1 YI)(F:Fun K "longest" "longest" Sai f fd):FnOk P w K mg base CX0 7 f fd ["wishes"] (spD K 1 WP) :=
 okD (k:=6) (g:=RN) F (fq Hai 1) rfl λcdv A outer s H E B G0 hr=>
 have hu:=hr.units;have hgd:=hr.gd
 (Kg (Va (pdf d_ag hr (gq Hai 1) (U0 (UX (pq Hai 0)) U8)))
 (Kj (KH (YG (LN rfl) (gq Hai 0) T.b_max boot_max (U0 (Y0 (Xl (Kv Sai) Pf ["wishes", "ranks"] 1 Yv rfl (Yk (K5 (pq Hai 0) Kd (λ_ _=>rfl))) (λcl C s0 H0 ex=>⟨λB' G'=>(Kp (Kq (i:=1) (show (["wishes", "ranks"]:List Str).Nodup by decide +kernel) rfl (Zw rfl) (.inr (Zx rfl)))),λB' G'=>YE,(Yd rfl rfl rfl λB' G'=>(Yq (W6 rfl) T.b_len (pvb 1)))⟩) rfl rfl (by decide +kernel))) U8)))))
theorem Kah(F:Fun K "rank_in" "rank_in" Sah f fd):FnOk P w K mg base CX0 1 f fd ["ranks", "thing"] (spD K 2 Xk) :=
 okD (k:=0) (g:=V5) F (fq Hah 2) rfl λcdv A outer s H E B G0 hr=>
 have hu:=hr.units;have hgd:=hr.gd
 (Kg (Yu Qt rfl (AW (gq Hah 0) T.b_enumerate (U0 (UX (pq Hah 0)) U8)) (ZE rfl (KD (Kp (Kq (i:=2) (nq Hah) rfl (lq Hah 2))) (KD (Kp (Kq (i:=3) (nq Hah) rfl (lq Hah 3))) ZG)))
 (Kj (Zd (YN (TN hu) (pq Hah 1) (UX (pq Hah 3)) rfl)
 (Kj (KH (UX (pq Hah 2))))
 Zl)))
 (Kj (KH Kd)))
theorem Kak(d_ah:Def P w K mg base "rank_in" 1 2 Xk)(d_ag:Def P w K mg base "look_at_wishes" 6 1 YI)(F:Fun K "ranks_got" "ranks_got" Sak f fd):FnOk P w K mg base CX0 7 f fd ["wishes", "dealing"] (spD K 2 WO) :=
 okD (k:=6) (g:=RL) F (fq Hak 2) rfl λcdv A outer s H E B G0 hr=>
 have hu:=hr.units;have hgd:=hr.gd
 (Kg (Va (pdf d_ag hr (gq Hak 1) (U0 (UX (pq Hak 0)) U8)))
 (Kj (KH (Y0 (Xl (Kv Sak) Pd ["wishes", "dealing", "asker", "got"] 2 Yv rfl (X0 (gq Hak 0) T.b_enumerate (U0 (UX (pq Hak 1)) U8)) (λcl C s0 H0 ex=>⟨λB' G'=>(ZE rfl (KD (Kp (Kq (i:=2) (show (["wishes", "dealing", "asker", "got"]:List Str).Nodup by decide +kernel) rfl (Zw rfl) (.inr (Zx rfl)))) (KD (Kp (Kq (i:=3) (show (["wishes", "dealing", "asker", "got"]:List Str).Nodup by decide +kernel) rfl (Zw rfl) (.inr (Zx rfl)))) ZG))),λB' G'=>YE,(Yd rfl rfl rfl λB' G'=>(pdf d_ah hr (W6 rfl) (U0 (WX (K5 (pvb 0) Kd (λ_ _=>rfl)) (UX (pvb 2)) (λ_ _=>rfl)) (U0 (UX (pvb 3)) U8))))⟩) rfl rfl (by decide +kernel))))))
theorem Kal(d_ai:Def P w K mg base "longest" 7 1 WP)(d_ak:Def P w K mg base "ranks_got" 7 2 WO)(F:Fun K "counts_of" "counts_of" Sal f fd):FnOk P w K mg base CX0 8 f fd ["wishes", "dealing"] (spD K 2 TD) :=
 okD (k:=7) (g:=RK) F (fq Hal 2) rfl λcdv A outer s H E B G0 hr=>
 have hu:=hr.units;have hgd:=hr.gd
 (Kg (K1 (i:=2) (nq Hal) rfl (lq Hal 2) (pdf d_ak hr (gq Hal 2) (U0 (UX (pq Hal 0)) (U0 (UX (pq Hal 1)) U8))))
 (Kj (KH (Kw Zf (Y0 (Xl (Kv Sal) Pc ["wishes", "dealing", "got", "rank"] 1 Yv rfl (Ff (gq Hal 1) T.b_range (U0 Kd (U0 (Kw Zf (pdf d_ai hr (gq Hal 0) (U0 (UX (pq Hal 0)) U8)) Kd) U8))) (λcl C s0 H0 ex=>⟨λB' G'=>(Kp (Kq (i:=3) (show (["wishes", "dealing", "got", "rank"]:List Str).Nodup by decide +kernel) rfl (Zw rfl) (.inr (Zx rfl)))),λB' G'=>YE,(Yd rfl rfl rfl λB' G'=>(Nq hu (UX (pvb 2)) (U0 (UX (pvb 3)) U8)))⟩) rfl rfl (by decide +kernel))) (Yi (U0 (Nq hu (UX (pq Hal 2)) (U0 Kd U8)) U8))))))
theorem Kas(d_ab:Def P w K mg base "is_number_below" 2 2 YA)(F:Fun K "is_turns" "is_turns" Sas f fd):FnOk P w K mg base CX0 3 f fd ["thing", "askers"] (spD K 2 Tw) :=
 okD (k:=2) (g:=RD) F (fq Has 2) rfl λcdv A outer s H E B G0 hr=>
 have hu:=hr.units;have hgd:=hr.gd
 (Kg (Zd (PW.pt (W7 (Xa (Y9 (Wk (c := "list") (by decide) (gq Has 2) T.b_isinstance (gq Has 3) T.b_list (by decide +kernel) (UX (pq Has 0)) (by decide) (by decide)))) (Vb (Xa (Y9 (YG (PY rfl) (gq Has 4) T.b_all JR (U0 (Y0 (Xl (Kv Sas) R9 ["thing", "askers", "asker"] 1 Yv rfl (Yk (UX (pq Has 0))) (λcl C s0 H0 ex=>⟨λB' G'=>(Kp (Kq (i:=2) (show (["thing", "askers", "asker"]:List Str).Nodup by decide +kernel) rfl (Zw rfl) (.inr (Zx rfl)))),λB' G'=>YE,(Yd rfl rfl rfl λB' G'=>(pdf d_ab hr (W6 rfl) (U0 (UX (pvb 2)) (U0 (UX (pvb 1)) U8))))⟩) rfl rfl (by decide +kernel))) U8)))))))
 (Kj (KH Xz))
 Zl)
 (Kj (KH (HE (Zr hu) (FW rfl (gq Has 0) T.b_len (gq Has 1) T.b_set (U0 (UX (pq Has 0)) U8)) (Yq (gq Has 0) T.b_len (pq Has 0)) (Zo _)))))
theorem Kar(d_ab:Def P w K mg base "is_number_below" 2 2 YA)(F:Fun K "is_old" "is_old" Sar f fd):FnOk P w K mg base CX0 3 f fd ["thing", "askers", "things"] (spD K 3 Tx) :=
 okD (k:=2) (g:=RE) F (fq Har 3) rfl λcdv A outer s H E B G0 hr=>
 have hu:=hr.units;have hgd:=hr.gd
 (Kg (Zd (Oh (UX (pq Har 0)))
 (Kj (KH Xz))
 Zl)
 (Kg (Zd (PW.pt (W7 (Xa (Y9 (Wk (c := "list") (by decide) (gq Har 1) T.b_isinstance (gq Har 2) T.b_list (by decide +kernel) (UX (pq Har 0)) (by decide) (by decide)))) (Vb (YO (YJ hu) (Yq (gq Har 3) T.b_len (pq Har 0)) (UX (pq Har 1)) (Zo _)))))
 (Kj (KH Xz))
 Zl)
 (Kj (KH (YG (PY rfl) (gq Har 0) T.b_all JR (U0 (Y0 (Xl (Kv Sar) Pa ["thing", "askers", "things", "kept"] 1 Yv rfl (Yk (UX (pq Har 0))) (λcl C s0 H0 ex=>⟨λB' G'=>(Kp (Kq (i:=3) (show (["thing", "askers", "things", "kept"]:List Str).Nodup by decide +kernel) rfl (Zw rfl) (.inr (Zx rfl)))),λB' G'=>YE,(Yd rfl rfl rfl λB' G'=>(LU (Bh (UX (pvb 3))) (SG (pdf d_ab hr (W6 rfl) (U0 (UX (pvb 3)) (U0 (UX (pvb 2)) U8))))))⟩) rfl rfl (by decide +kernel))) U8))))))
theorem Kat(d_as:Def P w K mg base "is_turns" 3 2 Tw)(d_ar:Def P w K mg base "is_old" 3 3 Tx)(d_ao:Def P w K mg base "look_at_order" 2 1 WN)(d_ag:Def P w K mg base "look_at_wishes" 6 1 YI)(F:Fun K "look_at_aim" "look_at_aim" Sat f fd):FnOk P w K mg base CX0 7 f fd ["wishes", "thing"] (spD K 2 WM) :=
 okD (k:=6) (g:=RC) F (fq Hat 2) rfl λcdv A outer s H E B G0 hr=>
 have hu:=hr.units;have hgd:=hr.gd
 (Kg (Va (pdf d_ag hr (gq Hat 6) (U0 (UX (pq Hat 0)) U8)))
 (Kg (Zd (PW.pt (W7 (Xa (Y9 (Wk (c := "tuple") (by decide) (gq Hat 4) T.b_isinstance (gq Hat 5) T.b_tuple (by decide +kernel) (UX (pq Hat 1)) (by decide) (by decide)))) (Vb (YO (YJ hu) (Yq (gq Hat 0) T.b_len (pq Hat 1)) Kd (Zo _)))))
 (Kj VS)
 Zl)
 (Kg (VA (UX (pq Hat 0)) (ZE rfl (KD (Kp (Kq (i:=2) (nq Hat) rfl (lq Hat 2))) (KD (Kp (Kq (i:=3) (nq Hat) rfl (lq Hat 3))) ZG))))
 (Kg (VA (UX (pq Hat 1)) (ZE rfl (KD (Kp (Kq (i:=4) (nq Hat) rfl (lq Hat 4))) (KD (Kp (Kq (i:=5) (nq Hat) rfl (lq Hat 5))) (KD (Kp (Kq (i:=6) (nq Hat) rfl (lq Hat 6))) ZG)))))
 (Kg (Va (pdf d_ao hr (gq Hat 3) (U0 (UX (pq Hat 4)) U8)))
 (Kg (Zd (Xa (Y9 (pdf d_ar hr (gq Hat 2) (U0 (UX (pq Hat 5)) (U0 (Yq (gq Hat 0) T.b_len (pq Hat 3)) (U0 (Yq (gq Hat 0) T.b_len (pq Hat 2)) U8))))))
 (Kj VS)
 Zl)
 (Kj (Zd (Xa (Y9 (pdf d_as hr (gq Hat 1) (U0 (UX (pq Hat 6)) (U0 (Yq (gq Hat 0) T.b_len (pq Hat 3)) U8)))))
 (Kj VS)
 Zl))))))))
theorem Kav(d_au:Def P w K mg base "how_many_kept" 1 2 WL)(d_al:Def P w K mg base "counts_of" 8 2 TD)(d_ak:Def P w K mg base "ranks_got" 7 2 WO)(d_at:Def P w K mg base "look_at_aim" 7 2 WM)(F:Fun K "score_of" "score_of" Sav f fd):FnOk P w K mg base CX0 9 f fd ["wishes", "aim", "dealing"] (spD K 3 Vt) :=
 okD (k:=8) (g:=RB) F (fq Hav 3) rfl λcdv A outer s H E B G0 hr=>
 have hu:=hr.units;have hgd:=hr.gd
 (Kg (Va (pdf d_at hr (gq Hav 3) (U0 (UX (pq Hav 0)) (U0 (UX (pq Hav 1)) U8))))
 (Kg (VA (UX (pq Hav 1)) (ZE rfl (KD (Kp (Kq (i:=3) (nq Hav) rfl (lq Hav 3))) (KD (Kp (Kq (i:=4) (nq Hav) rfl (lq Hav 4))) (KD (Kp (Kq (i:=5) (nq Hav) rfl (lq Hav 5))) ZG)))))
 (Kg (K1 (i:=6) (nq Hav) rfl (lq Hav 6) (pdf d_ak hr (gq Hav 2) (U0 (UX (pq Hav 0)) (U0 (UX (pq Hav 2)) U8))))
 (Kj (KH (XR (U0 (pdf d_al hr (gq Hav 1) (U0 (UX (pq Hav 0)) (U0 (UX (pq Hav 2)) U8))) (U0 (pdf d_au hr (gq Hav 0) (U0 (UX (pq Hav 4)) (U0 (UX (pq Hav 2)) U8))) (U0 (Y0 (Xl (Kv Sav) R7 ["wishes", "aim", "dealing", "order", "old", "turns", "got", "asker"] 1 Yv rfl (Yk (UX (pq Hav 5))) (λcl C s0 H0 ex=>⟨λB' G'=>(Kp (Kq (i:=7) (show (["wishes", "aim", "dealing", "order", "old", "turns", "got", "asker"]:List Str).Nodup by decide +kernel) rfl (Zw rfl) (.inr (Zx rfl)))),λB' G'=>YE,(Yd rfl rfl rfl λB' G'=>(K5 (pvb 6) (UX (pvb 7)) (λ_ _=>rfl)))⟩) rfl rfl (by decide +kernel))) U8)))))))))
theorem Kax(d_aw:Def P w K mg base "is_better_by_turns" 1 2 Tv)(d_aq:Def P w K mg base "beside_by" 3 3 Ty)(d_av:Def P w K mg base "score_of" 9 3 Vt)(F:Fun K "is_better" "is_better" Sax f fd):FnOk P w K mg base CX0 10 f fd ["wishes", "aim", "one", "other"] (spD K 4 Vs) :=
 okD (k:=9) (g:=Rz) F (fq Hax 4) rfl λcdv A outer s H E B G0 hr=>
 have hu:=hr.units;have hgd:=hr.gd
 (Kg (VA (pdf d_av hr (gq Hax 2) (U0 (UX (pq Hax 0)) (U0 (UX (pq Hax 1)) (U0 (UX (pq Hax 2)) U8)))) (ZE rfl (KD (Kp (Kq (i:=4) (nq Hax) rfl (lq Hax 4))) (KD (Kp (Kq (i:=5) (nq Hax) rfl (lq Hax 5))) (KD (Kp (Kq (i:=6) (nq Hax) rfl (lq Hax 6))) ZG)))))
 (Kg (VA (pdf d_av hr (gq Hax 2) (U0 (UX (pq Hax 0)) (U0 (UX (pq Hax 1)) (U0 (UX (pq Hax 3)) U8)))) (ZE rfl (KD (Kp (Kq (i:=7) (nq Hax) rfl (lq Hax 7))) (KD (Kp (Kq (i:=8) (nq Hax) rfl (lq Hax 8))) (KD (Kp (Kq (i:=9) (nq Hax) rfl (lq Hax 9))) ZG)))))
 (Kg (K1 (i:=10) (nq Hax) rfl (lq Hax 10) (pdf d_aq hr (gq Hax 1) (U0 (K5 (pq Hax 1) Kd (λ_ _=>rfl)) (U0 (UX (pq Hax 4)) (U0 (UX (pq Hax 7)) U8)))))
 (Kg (Zd (YN (YJ hu) (pq Hax 10) Xv (Zo _))
 (Kj (KH (Px (Zr hu) (pq Hax 10) Xv (Zo _))))
 Zl)
 (Kg (Zd (YN (YJ hu) (pq Hax 5) (UX (pq Hax 8)) (Zo _))
 (Kj (KH (Px Y7 (pq Hax 5) (UX (pq Hax 8)) (Zo _))))
 Zl)
 (Kj (KH (pdf d_aw hr (gq Hax 0) (U0 (UX (pq Hax 6)) (U0 (UX (pq Hax 9)) U8))))))))))
theorem Kbx(F:Fun K "_law_longest" "_law_longest" Sbx f fd):FnOk P w K mg base CX0 1 f fd ["_law_wishes_here"] (spD K 1 XG) :=
 okD (k:=0) (g:=S9) F (fq Hbx 1) rfl λcdv A outer s H E B G0 hr=>
 have hu:=hr.units;have hgd:=hr.gd
 (Kj (KH (YG (LN rfl) (gq Hbx 0) T.b_max boot_max (U0 (Y0 (Xl (Kv Sbx) R3 ["_law_wishes_here", "_law_ranks"] 1 Yv rfl (Yk (K5 (pq Hbx 0) Kd (λ_ _=>rfl))) (λcl C s0 H0 ex=>⟨λB' G'=>(Kp (Kq (i:=1) (show (["_law_wishes_here", "_law_ranks"]:List Str).Nodup by decide +kernel) rfl (Zw rfl) (.inr (Zx rfl)))),λB' G'=>YE,(Yd rfl rfl rfl λB' G'=>(Yq (W6 rfl) T.b_len (pvb 1)))⟩) rfl rfl (by decide +kernel))) U8))))
theorem Kbw(F:Fun K "_law_rank" "_law_rank" Sbw f fd):FnOk P w K mg base CX0 1 f fd ["_law_wishes_here", "_law_asker", "_law_thing"] (spD K 3 XH) :=
 okD (k:=0) (g:=Ra) F (fq Hbw 3) rfl λcdv A outer s H E B G0 hr=>
 have hu:=hr.units;have hgd:=hr.gd
 (Kg (Yu Qt rfl (X0 (gq Hbw 0) T.b_enumerate (U0 (WX (K5 (pq Hbw 0) Kd (λ_ _=>rfl)) (UX (pq Hbw 1)) (λ_ _=>rfl)) U8)) (ZE rfl (KD (Kp (Kq (i:=3) (nq Hbw) rfl (lq Hbw 3))) (KD (Kp (Kq (i:=4) (nq Hbw) rfl (lq Hbw 4))) ZG)))
 (Kj (Zd (YN (TN hu) (pq Hbw 2) (UX (pq Hbw 4)) rfl)
 (Kj (KH (Kw Zf (UX (pq Hbw 3)) Kd)))
 Zl)))
 (Kj (KH Kd)))
theorem Kcb(d_bw:Def P w K mg base "_law_rank" 1 3 XH)(d_bx:Def P w K mg base "_law_longest" 1 1 XG)(F:Fun K "_law_counts" "_law_counts" Scb f fd):FnOk P w K mg base CX0 2 f fd ["_law_wishes_here", "_law_dealing"] (spD K 2 Tg) :=
 okD (k:=1) (g:=S5) F (fq Hcb 2) rfl λcdv A outer s H E B G0 hr=>
 have hu:=hr.units;have hgd:=hr.gd
 (Kg (Wg (i:=2) (nq Hcb) rfl (lq Hcb 2) (Ms (Yi (U0 Kd U8)) (Kw Zf (pdf d_bx hr (gq Hcb 2) (U0 (UX (pq Hcb 0)) U8)) Kd)))
 (Kg (Yu Qt rfl (X0 (gq Hcb 0) T.b_enumerate (U0 (UX (pq Hcb 1)) U8)) (ZE rfl (KD (Kp (Kq (i:=3) (nq Hcb) rfl (lq Hcb 3))) (KD (Kp (Kq (i:=4) (nq Hcb) rfl (lq Hcb 4))) ZG)))
 (Kj (Zd (Oh (UX (pq Hcb 4)))
 (Kj (He (pq Hcb 2) (VG Kd) Hf Kd))
 (Kj (He (pq Hcb 2) (Kw Xn (pdf d_bw hr (gq Hcb 1) (U0 (UX (pq Hcb 0)) (U0 (UX (pq Hcb 3)) (U0 (UX (pq Hcb 4)) U8)))) Kd) Hf Kd)))))
 (Kj (KH (UX (pq Hcb 2))))))
theorem Kcf(d_bx:Def P w K mg base "_law_longest" 1 1 XG)(d_bw:Def P w K mg base "_law_rank" 1 3 XH)(d_cb:Def P w K mg base "_law_counts" 2 2 Tg)(F:Fun K "_law_key" "_law_key" Scf f fd):FnOk P w K mg base CX0 3 f fd ["_law_wishes_here", "_law_aim_here", "_law_dealing"] (spD K 3 WH) :=
 okD (k:=2) (g:=SX) F (fq Hcf 3) rfl λcdv A outer s H E B G0 hr=>
 have hu:=hr.units;have hgd:=hr.gd
 (Kg (VA (UX (pq Hcf 1)) (ZE rfl (KD (Kp (Kq (i:=3) (nq Hcf) rfl (lq Hcf 3))) (KD (Kp (Kq (i:=4) (nq Hcf) rfl (lq Hcf 4))) (KD (Kp (Kq (i:=5) (nq Hcf) rfl (lq Hcf 5))) ZG)))))
 (Kg (K1 (i:=6) (nq Hcf) rfl (lq Hcf 6) (pdf d_cb hr (gq Hcf 4) (U0 (UX (pq Hcf 0)) (U0 (UX (pq Hcf 2)) U8))))
 (Kg (Zd (YN (Zr hu) (pq Hcf 3) Xv (Zo _))
 (Kj (K1 (i:=6) (nq Hcf) rfl (lq Hcf 6) (Kw Zf (Yi (U0 (Kw Xn Kd (K5 (pq Hcf 6) (VG Kd) (λ_ _=>rfl))) U8)) (UX (pq Hcf 6)))))
 Zl)
 (Kg (Zd (YN (Zr hu) (pq Hcf 3) Xv (Zo _))
 (Kj (YT (j:=6) (Kv Scf) Vl ["_law_wishes_here", "_law_aim_here", "_law_dealing", "_law_order", "_law_old", "_law_turns", "_law_counts_here", "_law_kept", "_law_same", "_law_ranks", "_law_asker", "_law_rank_here", "_law_one"] 1 Yv (nq Hcf) rfl rfl rfl (Yk (Md (UX (pq Hcf 6)) VE VE (Xw (VG Kd)))) (λcl C s0 H0 ex=>⟨λB' G'=>(Kp (Kq (i:=12) (show (["_law_wishes_here", "_law_aim_here", "_law_dealing", "_law_order", "_law_old", "_law_turns", "_law_counts_here", "_law_kept", "_law_same", "_law_ranks", "_law_asker", "_law_rank_here", "_law_one"]:List Str).Nodup by decide +kernel) rfl (Zw rfl) (.inr (Zx rfl)))),λB' G'=>YE,(Yd rfl rfl rfl λB' G'=>(Kw Xn Kd (UX (pvb 12))))⟩) rfl rfl (by decide +kernel)))
 Zl)
 (Kg (K1 (i:=7) (nq Hcf) rfl (lq Hcf 7) Kd)
 (Kg (Zd (VF (UX (pq Hcf 4)))
 (Kg (YT (j:=8) (Kv Scf) Vl ["_law_wishes_here", "_law_aim_here", "_law_dealing", "_law_order", "_law_old", "_law_turns", "_law_counts_here", "_law_kept", "_law_same", "_law_ranks", "_law_asker", "_law_rank_here", "_law_had", "_law_thing"] 2 Yv (nq Hcf) rfl rfl rfl (Oa (gq Hcf 3) T.b_zip (U0 (UX (pq Hcf 4)) (U0 (UX (pq Hcf 2)) U8))) (λcl C s0 H0 ex=>⟨λB' G'=>(ZE rfl (KD (Kp (Kq (i:=12) (show (["_law_wishes_here", "_law_aim_here", "_law_dealing", "_law_order", "_law_old", "_law_turns", "_law_counts_here", "_law_kept", "_law_same", "_law_ranks", "_law_asker", "_law_rank_here", "_law_had", "_law_thing"]:List Str).Nodup by decide +kernel) rfl (Zw rfl) (.inr (Zx rfl)))) (KD (Kp (Kq (i:=13) (show (["_law_wishes_here", "_law_aim_here", "_law_dealing", "_law_order", "_law_old", "_law_turns", "_law_counts_here", "_law_kept", "_law_same", "_law_ranks", "_law_asker", "_law_rank_here", "_law_had", "_law_thing"]:List Str).Nodup by decide +kernel) rfl (Zw rfl) (.inr (Zx rfl)))) ZG))),λB' G'=>(SE (YN (Zr hu) (pvb 12) (UX (pvb 13)) (Zo _))),(Yd rfl rfl rfl λB' G'=>(UX (pvb 13)))⟩) rfl rfl (by decide +kernel))
 (Kj (K1 (i:=7) (nq Hcf) rfl (lq Hcf 7) (YG Wc (gq Hcf 2) T.b_len Jk (U0 (Y0 (Xl (Kv Scf) Vl ["_law_wishes_here", "_law_aim_here", "_law_dealing", "_law_order", "_law_old", "_law_turns", "_law_counts_here", "_law_kept", "_law_same", "_law_ranks", "_law_asker", "_law_rank_here", "_law_thing"] 1 Yv rfl (Yk (UX (pq Hcf 8))) (λcl C s0 H0 ex=>⟨λB' G'=>(Kp (Kq (i:=12) (show (["_law_wishes_here", "_law_aim_here", "_law_dealing", "_law_order", "_law_old", "_law_turns", "_law_counts_here", "_law_kept", "_law_same", "_law_ranks", "_law_asker", "_law_rank_here", "_law_thing"]:List Str).Nodup by decide +kernel) rfl (Zw rfl) (.inr (Zx rfl)))),λB' G'=>(SE (VF (UX (pvb 12)))),(Yd rfl rfl rfl λB' G'=>(UX (pvb 12)))⟩) rfl rfl (by decide +kernel))) U8)))))
 Zl)
 (Kg (Wg (i:=9) (nq Hcf) rfl (lq Hcf 9) (SF U8))
 (Kg (Yu Qt rfl (Yk (UX (pq Hcf 5))) (Kp (Kq (i:=10) (nq Hcf) rfl (lq Hcf 10)))
 (Kg (K1 (i:=11) (nq Hcf) rfl (lq Hcf 11) Kd)
 (Kg (Zd (VF (K5 (pq Hcf 2) (UX (pq Hcf 10)) (λ_ _=>rfl)))
 (Kj (K1 (i:=11) (nq Hcf) rfl (lq Hcf 11) (Kw Xn (Kw Zf (pdf d_bx hr (gq Hcf 0) (U0 (UX (pq Hcf 0)) U8)) Kd) (pdf d_bw hr (gq Hcf 1) (U0 (UX (pq Hcf 0)) (U0 (UX (pq Hcf 10)) (U0 (K5 (pq Hcf 2) (UX (pq Hcf 10)) (λ_ _=>rfl)) U8)))))))
 Zl)
 (Kj (VN (pq Hcf 9) (UX (pq Hcf 11)))))))
 (Kj (KH (Kw Zf (Kw Zf (UX (pq Hcf 6)) (Yi (U0 (UX (pq Hcf 7)) U8))) (UX (pq Hcf 9)))))))))))))
theorem Kcg(d_bw:Def P w K mg base "_law_rank" 1 3 XH)(d_bx:Def P w K mg base "_law_longest" 1 1 XG)(F:Fun K "_law_place" "_law_place" Scg f fd):FnOk P w K mg base CX0 2 f fd ["_law_wishes_here", "_law_asker", "_law_thing"] (spD K 3 WG) :=
 okD (k:=1) (g:=SW) F (fq Hcg 3) rfl λcdv A outer s H E B G0 hr=>
 have hu:=hr.units;have hgd:=hr.gd
 (Kg (Zd (Oh (UX (pq Hcg 2)))
 (Kj (KH (Kw Zf (pdf d_bx hr (gq Hcg 1) (U0 (UX (pq Hcg 0)) U8)) Kd)))
 Zl)
 (Kj (KH (pdf d_bw hr (gq Hcg 0) (U0 (UX (pq Hcg 0)) (U0 (UX (pq Hcg 1)) (U0 (UX (pq Hcg 2)) U8)))))))
theorem Kch(d_cg:Def P w K mg base "_law_place" 2 3 WG)(F:Fun K "_law_above" "_law_above" Sch f fd):FnOk P w K mg base CX0 3 f fd ["_law_wishes_here", "_law_one", "_law_other"] (spD K 3 Vm) :=
 okD (k:=2) (g:=SV) F (fq Hch 3) rfl λcdv A outer s H E B G0 hr=>
 have hu:=hr.units;have hgd:=hr.gd
 (Kg (YT (j:=3) (Kv Sch) Vk ["_law_wishes_here", "_law_one", "_law_other", "_law_mine", "_law_theirs", "_law_asker", "_law_thing"] 2 Yv (nq Hch) rfl rfl rfl (X0 (gq Hch 2) T.b_enumerate (U0 (UX (pq Hch 1)) U8)) (λcl C s0 H0 ex=>⟨λB' G'=>(ZE rfl (KD (Kp (Kq (i:=5) (show (["_law_wishes_here", "_law_one", "_law_other", "_law_mine", "_law_theirs", "_law_asker", "_law_thing"]:List Str).Nodup by decide +kernel) rfl (Zw rfl) (.inr (Zx rfl)))) (KD (Kp (Kq (i:=6) (show (["_law_wishes_here", "_law_one", "_law_other", "_law_mine", "_law_theirs", "_law_asker", "_law_thing"]:List Str).Nodup by decide +kernel) rfl (Zw rfl) (.inr (Zx rfl)))) ZG))),λB' G'=>YE,(Yd rfl rfl rfl λB' G'=>(pdf d_cg hr (W6 rfl) (U0 (UX (pvb 0)) (U0 (UX (pvb 5)) (U0 (UX (pvb 6)) U8)))))⟩) rfl rfl (by decide +kernel))
 (Kg (YT (j:=4) (Kv Sch) Vk ["_law_wishes_here", "_law_one", "_law_other", "_law_mine", "_law_theirs", "_law_asker", "_law_thing"] 2 Yv (nq Hch) rfl rfl rfl (X0 (gq Hch 2) T.b_enumerate (U0 (UX (pq Hch 2)) U8)) (λcl C s0 H0 ex=>⟨λB' G'=>(ZE rfl (KD (Kp (Kq (i:=5) (show (["_law_wishes_here", "_law_one", "_law_other", "_law_mine", "_law_theirs", "_law_asker", "_law_thing"]:List Str).Nodup by decide +kernel) rfl (Zw rfl) (.inr (Zx rfl)))) (KD (Kp (Kq (i:=6) (show (["_law_wishes_here", "_law_one", "_law_other", "_law_mine", "_law_theirs", "_law_asker", "_law_thing"]:List Str).Nodup by decide +kernel) rfl (Zw rfl) (.inr (Zx rfl)))) ZG))),λB' G'=>YE,(Yd rfl rfl rfl λB' G'=>(pdf d_cg hr (W6 rfl) (U0 (UX (pvb 0)) (U0 (UX (pvb 5)) (U0 (UX (pvb 6)) U8)))))⟩) rfl rfl (by decide +kernel))
 (Kj (KH (Oi (BA (YJ hu) (UX (pq Hch 3)) (pq Hch 4) (Zo _)) (SG (YG (PY rfl) (gq Hch 1) T.b_all JR (U0 (Y0 (Xl (Kv Sch) Vk ["_law_wishes_here", "_law_one", "_law_other", "_law_mine", "_law_theirs", "_law_here", "_law_there"] 2 Yv rfl (Oa (gq Hch 0) T.b_zip (U0 (UX (pq Hch 3)) (U0 (UX (pq Hch 4)) U8))) (λcl C s0 H0 ex=>⟨λB' G'=>(ZE rfl (KD (Kp (Kq (i:=5) (show (["_law_wishes_here", "_law_one", "_law_other", "_law_mine", "_law_theirs", "_law_here", "_law_there"]:List Str).Nodup by decide +kernel) rfl (Zw rfl) (.inr (Zx rfl)))) (KD (Kp (Kq (i:=6) (show (["_law_wishes_here", "_law_one", "_law_other", "_law_mine", "_law_theirs", "_law_here", "_law_there"]:List Str).Nodup by decide +kernel) rfl (Zw rfl) (.inr (Zx rfl)))) ZG))),λB' G'=>YE,(Yd rfl rfl rfl λB' G'=>(Px WR (pvb 5) (UX (pvb 6)) (Zo _)))⟩) rfl rfl (by decide +kernel))) U8))))))))
theorem Kby(F:Fun K "_law_wished" "_law_wished" Sby f fd):FnOk P w K mg base CX0 1 f fd ["_law_wishes_here", "_law_asker"] (spD K 2 XF) :=
 okD (k:=0) (g:=S8) F (fq Hby 2) rfl λcdv A outer s H E B G0 hr=>
 have hu:=hr.units;have hgd:=hr.gd
 (Kj (KH (YG LM (gq Hby 1) T.b_sorted PyProof.Rows.boot_sorted (U0 (YG (E3 rfl) (gq Hby 0) T.b_sum PyProof.Rows.boot_sum (U0 (WX (K5 (pq Hby 0) Kd (λ_ _=>rfl)) (UX (pq Hby 1)) (λ_ _=>rfl)) (U0 (Yi U8) U8))) U8))))
theorem Kbu(F:Fun K "_law_numbers" "_law_numbers" Sbu f fd):FnOk P w K mg base CX0 1 f fd ["_law_cell", "_law_salt", "_law_sizes"] (spD K 3 YV) :=
 okD (k:=0) (g:=Rc) F (fq Hbu 3) rfl λcdv A outer s H E B G0 hr=>
 have hu:=hr.units;have hgd:=hr.gd
 (Kg (K1 (i:=3) (nq Hbu) rfl (lq Hbu 3) (YG (LR rfl) (gq Hbu 2) T.b_max boot_max (U0 (UX (pq Hbu 0)) (U0 (Kw Xn (VG Kd) (UX (pq Hbu 0))) U8))))
 (Kg (K1 (i:=4) (nq Hbu) rfl (lq Hbu 4) (UX (pq Hbu 3)))
 (Kg (Wg (i:=5) (nq Hbu) rfl (lq Hbu 5) (SF U8))
 (Kg (Yu Qt rfl (Sf (gq Hbu 1) T.b_range (U0 (Yq (gq Hbu 0) T.b_len (pq Hbu 2)) U8)) (Kp (Kq (i:=6) (nq Hbu) rfl (lq Hbu 6)))
 (Kj (Zd (PW.pt (Of (YN B_ge (pq Hbu 3) (Kw EN Kd Kd) (Zo _)) (OA (YN Y7 (pq Hbu 4) Kd (Zo _)))))
 (Kg (VN (pq Hbu 5) (Kw Wo (UX (pq Hbu 4)) (K5 (pq Hbu 2) (UX (pq Hbu 6)) (λ_ _=>rfl))))
 (Kj (K1 (i:=4) (nq Hbu) rfl (lq Hbu 4) (Kw Lj (UX (pq Hbu 4)) (K5 (pq Hbu 2) (UX (pq Hbu 6)) (λ_ _=>rfl))))))
 (Kg (K1 (i:=7) (nq Hbu) rfl (lq Hbu 7) (Kw Wo (Kw Zf (Kw Zf (Kw Zf (UX (pq Hbu 3)) (Kw Xm Kd (UX (pq Hbu 1)))) (Kw Xm (Kw Xm Kd (UX (pq Hbu 6))) (UX (pq Hbu 6)))) (UX (pq Hbu 6))) Kd))
 (Kg (K1 (i:=7) (nq Hbu) rfl (lq Hbu 7) (Kw Wo (Kw Xm (UX (pq Hbu 7)) Kd) Kd))
 (Kg (K1 (i:=7) (nq Hbu) rfl (lq Hbu 7) (Kw Wo (Kw Xm (Kw Wo (Kw Xm (UX (pq Hbu 7)) (UX (pq Hbu 7))) Kd) Kd) Kd))
 (Kj (VN (pq Hbu 5) (Kw Wo (Kw Lj (UX (pq Hbu 7)) Kd) (K5 (pq Hbu 2) (UX (pq Hbu 6)) (λ_ _=>rfl)))))))))))
 (Kj (KH (UX (pq Hbu 5))))))))
theorem Kca(d_by:Def P w K mg base "_law_wished" 1 2 XF)(d_bu:Def P w K mg base "_law_numbers" 1 3 YV)(F:Fun K "_law_dealt" "_law_dealt" Sca f fd):FnOk P w K mg base CX0 2 f fd ["_law_wishes_here", "_law_cell", "_law_salt"] (spD K 3 Th) :=
 okD (k:=1) (g:=S6) F (fq Hca 3) rfl λcdv A outer s H E B G0 hr=>
 have hu:=hr.units;have hgd:=hr.gd
 (Kg (Wg (i:=3) (nq Hca) rfl (lq Hca 3) (AZ (gq Hca 4) T.b_list (U0 (K5 (pq Hca 0) Kd (λ_ _=>rfl)) U8)))
 (Kg (K1 (i:=4) (nq Hca) rfl (lq Hca 4) (pdf d_bu hr (gq Hca 3) (U0 (UX (pq Hca 1)) (U0 (UX (pq Hca 2)) (U0 (Kw Xm (Yi (U0 Kd U8)) (YG Wc (gq Hca 0) T.b_len Jk (U0 (K5 (pq Hca 0) Kd (λ_ _=>rfl)) U8))) U8)))))
 (Kg (Wg (i:=5) (nq Hca) rfl (lq Hca 5) (SF U8))
 (Kg (Yu Qt rfl (Sf (gq Hca 1) T.b_range (U0 (YG Wc (gq Hca 0) T.b_len Jk (U0 (K5 (pq Hca 0) Kd (λ_ _=>rfl)) U8)) U8)) (Kp (Kq (i:=6) (nq Hca) rfl (lq Hca 6)))
 (Kg (K1 (i:=7) (nq Hca) rfl (lq Hca 7) (Kw Zf (Y0 (Xl (Kv Sca) RZ ["_law_wishes_here", "_law_cell", "_law_salt", "_law_left", "_law_digits", "_law_found", "_law_asker", "_law_some", "._law_thing", "_law_thing"] 1 qZ rfl (Yk (pdf d_by hr (gq Hca 2) (U0 (UX (pq Hca 0)) (U0 (UX (pq Hca 6)) U8)))) (λcl C s0 H0 ex=>⟨λB' G'=>(Kp (Kq (i:=9) (show (["_law_wishes_here", "_law_cell", "_law_salt", "_law_left", "_law_digits", "_law_found", "_law_asker", "_law_some", "._law_thing", "_law_thing"]:List Str).Nodup by decide +kernel) rfl (Zw rfl) (.inr (Zx rfl)))),λB' G'=>(SE (YO Y7 (K5 (pvb 3) (UX (pvb 9)) (λ_ _=>rfl)) Kd (Zo _))),(Yd rfl rfl rfl λB' G'=>(UX (pvb 9)))⟩) rfl rfl (by decide +kernel))) (Yi (U0 T8 U8))))
 (Kg (K1 (i:=8) (nq Hca) rfl (lq Hca 8) (K5 (pq Hca 7) (Kw Wo (K5 (pq Hca 4) (UX (pq Hca 6)) (λ_ _=>rfl)) (Yq (gq Hca 0) T.b_len (pq Hca 7))) (λ_ _=>rfl)))
 (Kg (Zd (VF (UX (pq Hca 8)))
 (Kj (T6 (Kw Xn (K5 (pq Hca 3) (UX (pq Hca 8)) (λ_ _=>rfl)) Kd) (pq Hca 3) (UX (pq Hca 8))))
 Zl)
 (Kj (VN (pq Hca 5) (UX (pq Hca 8))))))))
 (Kj (KH (UX (pq Hca 5))))))))
theorem Kcc(F:Fun K "_law_is_number" "_law_is_number" Scc f fd):FnOk P w K mg base CX0 1 f fd ["_law_thing"] (spD K 1 Tf) :=
 okD (k:=0) (g:=SZ) F (fq Hcc 1) rfl λcdv A outer s H E B G0 hr=>
 have hu:=hr.units;have hgd:=hr.gd
 (Kj (KH (Oi (Wk (c := "int") (by decide) (gq Hcc 0) T.b_isinstance (gq Hcc 1) T.b_int (by decide +kernel) (UX (pq Hcc 0)) (by decide) (by decide)) (SG (HD (Wk (c := "bool") (by decide) (gq Hcc 0) T.b_isinstance (gq Hcc 2) T.b_bool (by decide +kernel) (UX (pq Hcc 0)) (by decide) (by decide)))))))
theorem Kcd(d_cc:Def P w K mg base "_law_is_number" 1 1 Tf)(d_by:Def P w K mg base "_law_wished" 1 2 XF)(F:Fun K "_law_is_dealing" "_law_is_dealing" Scd f fd):FnOk P w K mg base CX0 2 f fd ["_law_wishes_here", "_law_thing"] (spD K 2 XE) :=
 okD (k:=1) (g:=V2) F (fq Hcd 2) rfl λcdv A outer s H E B G0 hr=>
 have hu:=hr.units;have hgd:=hr.gd
 (Kg (Zd (PW.pt (W7 (Xa (Y9 (Wk (c := "list") (by decide) (gq Hcd 3) T.b_isinstance (gq Hcd 4) T.b_list (by decide +kernel) (UX (pq Hcd 1)) (by decide) (by decide)))) (Vb (YO (YJ hu) (Yq (gq Hcd 5) T.b_len (pq Hcd 1)) (YG Wc (gq Hcd 5) T.b_len Jk (U0 (K5 (pq Hcd 0) Kd (λ_ _=>rfl)) U8)) (Zo _)))))
 (Kj (KH Xz))
 Zl)
 (Kg (Yu Qt rfl (X0 (gq Hcd 0) T.b_enumerate (U0 (UX (pq Hcd 1)) U8)) (ZE rfl (KD (Kp (Kq (i:=2) (nq Hcd) rfl (lq Hcd 2))) (KD (Kp (Kq (i:=3) (nq Hcd) rfl (lq Hcd 3))) ZG)))
 (Kg (Zd (PW.pt (Of (VF (UX (pq Hcd 3))) (OA (PW.pt (W7 (Xa (Y9 (pdf d_cc hr (gq Hcd 1) (U0 (UX (pq Hcd 3)) U8)))) (Vb (YN (Lf hu) (pq Hcd 3) (pdf d_by hr (gq Hcd 2) (U0 (UX (pq Hcd 0)) (U0 (UX (pq Hcd 2)) U8))) rfl)))))))
 (Kj (KH Xz))
 Zl)
 (Kj (Zd (PW.pt (Of (VF (UX (pq Hcd 3))) (OA (YO Y7 (Nq hu (UX (pq Hcd 1)) (U0 (UX (pq Hcd 3)) U8)) (WX (K5 (pq Hcd 0) Kd (λ_ _=>rfl)) (UX (pq Hcd 3)) (λ_ _=>rfl)) (Zo _)))))
 (Kj (KH Xz))
 Zl))))
 (Kj (KH Xz))))
theorem Kce(d_cd:Def P w K mg base "_law_is_dealing" 2 2 XE)(d_by:Def P w K mg base "_law_wished" 1 2 XF)(d_bu:Def P w K mg base "_law_numbers" 1 3 YV)(F:Fun K "_law_near" "_law_near" Sce f fd):FnOk P w K mg base CX0 3 f fd ["_law_wishes_here", "_law_dealing", "_law_cell", "_law_salt"] (spD K 4 Vn) :=
 okD (k:=2) (g:=SY) F (fq Hce 4) rfl λcdv A outer s H E B G0 hr=>
 have hu:=hr.units;have hgd:=hr.gd
 (Kg (K1 (i:=4) (nq Hce) rfl (lq Hce 4) (pdf d_bu hr (gq Hce 4) (U0 (UX (pq Hce 2)) (U0 (UX (pq Hce 3)) (U0 (Yi (U0 Kd (U0 Kd (U0 Kd (U0 Kd U8))))) U8)))))
 (Kg (K1 (i:=5) (nq Hce) rfl (lq Hce 5) (Kw Wo (K5 (pq Hce 4) Kd (λ_ _=>rfl)) (Yq (gq Hce 2) T.b_len (pq Hce 1))))
 (Kg (K1 (i:=6) (nq Hce) rfl (lq Hce 6) (Kw Wo (K5 (pq Hce 4) Kd (λ_ _=>rfl)) (Yq (gq Hce 2) T.b_len (pq Hce 1))))
 (Kg (Wg (i:=7) (nq Hce) rfl (lq Hce 7) (SN (gq Hce 0) T.b_list (pq Hce 1)))
 (Kg (Zd (YO (Zr hu) (K5 (pq Hce 4) Kd (λ_ _=>rfl)) Kd (Zo _))
 (Kg (T6 (K5 (pq Hce 1) (UX (pq Hce 6)) (λ_ _=>rfl)) (pq Hce 7) (UX (pq Hce 5)))
 (Kj (T6 (K5 (pq Hce 1) (UX (pq Hce 5)) (λ_ _=>rfl)) (pq Hce 7) (UX (pq Hce 6)))))
 (Kg (K1 (i:=8) (nq Hce) rfl (lq Hce 8) (Kw Zf (pdf d_by hr (gq Hce 3) (U0 (UX (pq Hce 0)) (U0 (UX (pq Hce 5)) U8))) (Yi (U0 T8 U8))))
 (Kj (T6 (K5 (pq Hce 8) (Kw Wo (K5 (pq Hce 4) Kd (λ_ _=>rfl)) (Yq (gq Hce 2) T.b_len (pq Hce 8))) (λ_ _=>rfl)) (pq Hce 7) (UX (pq Hce 5))))))
 (Kg (Zd (Y9 (BQ d_cd (hr.mono (by decide)) (gq Hce 1) (BR (UX (pq Hce 0)) (qb (pq Hce 7) Bz))))
 (Kj (KH (UX (pq Hce 7))))
 Zl)
 (Kj (KH (Y0 (SN (gq Hce 0) T.b_list (pq Hce 1)))))))))))
theorem Kbp(F:Fun K "asks_beyond" "asks_beyond" Sbp f fd):FnOk P w K mg base CX0 1 f fd ["askers", "worths", "prices"] (spD K 3 Tl) :=
 okD (k:=0) (g:=Rh) F (fq Hbp 3) rfl λcdv A outer s H E B G0 hr=>
 have hu:=hr.units;have hgd:=hr.gd
 (Kg (Wg (i:=3) (nq Hbp) rfl (lq Hbp 3) (Ms (Yi (U0 Kd U8)) (UX (pq Hbp 0))))
 (Kg (Yu Qt rfl (Yk (UX (pq Hbp 1))) (ZE rfl (KD (Kp (Kq (i:=4) (nq Hbp) rfl (lq Hbp 4))) (KD (Kp (Kq (i:=5) (nq Hbp) rfl (lq Hbp 5))) (KD (Kp (Kq (i:=6) (nq Hbp) rfl (lq Hbp 6))) ZG))))
 (Kj (T6 (YG (LR rfl) (gq Hbp 0) T.b_max boot_max (U0 (K5 (pq Hbp 3) (UX (pq Hbp 4)) (λ_ _=>rfl)) (U0 (Kw Xn (UX (pq Hbp 6)) (K5 (pq Hbp 2) (UX (pq Hbp 5)) (λ_ _=>rfl))) U8))) (pq Hbp 3) (UX (pq Hbp 4)))))
 (Kj (KH (UX (pq Hbp 3))))))
theorem Kbe(F:Fun K "place_of" "place_of" Sbe f fd):FnOk P w K mg base CX0 1 f fd ["nothing", "got"] (spD K 2 Vq) :=
 okD (k:=0) (g:=Rs) F (fq Hbe 2) rfl λcdv A outer s H E B G0 hr=>
 have hu:=hr.units;have hgd:=hr.gd
 (Kj (KH (Nu (Oh (UX (pq Hbe 1))) (UX (pq Hbe 0)) (UX (pq Hbe 1)))))
theorem Kbf(d_be:Def P w K mg base "place_of" 1 2 Vq)(F:Fun K "steps_of_askers" "steps_of_askers" Sbf f fd):FnOk P w K mg base CX0 2 f fd ["nothing", "worths", "dealing"] (spD K 3 Tr) :=
 okD (k:=1) (g:=Rr) F (fq Hbf 3) rfl λcdv A outer s H E B G0 hr=>
 have hu:=hr.units;have hgd:=hr.gd
 (Kg (Wg (i:=3) (nq Hbf) rfl (lq Hbf 3) (Ms (Yi (U0 Kd U8)) (Yq (gq Hbf 2) T.b_len (pq Hbf 2))))
 (Kg (Yu Qt rfl (Yk (UX (pq Hbf 1))) (ZE rfl (KD (Kp (Kq (i:=4) (nq Hbf) rfl (lq Hbf 4))) (KD (Kp (Kq (i:=5) (nq Hbf) rfl (lq Hbf 5))) (KD (Kp (Kq (i:=6) (nq Hbf) rfl (lq Hbf 6))) ZG))))
 (Kj (Zd (YO (Zr hu) (K5 (pq Hbf 2) (UX (pq Hbf 4)) (λ_ _=>rfl)) (UX (pq Hbf 5)) (Zo _))
 (Kj (T6 (UX (pq Hbf 6)) (pq Hbf 3) (UX (pq Hbf 4))))
 Zl)))
 (Kg (Ex (j:=7) (Kv Sbf) R5 ["nothing", "worths", "dealing", "had", ".asker", "thing", "worth", "told", "asker", "got"] 2 Yv (nq Hbf) rfl rfl rfl (λB' G'=>(X0 (gq Hbf 1) T.b_enumerate (U0 (UX (pq Hbf 2)) U8))) (λcl C s0 H0 ex=>⟨λB' G'=>(ZE rfl (KD (Kp (Kq (i:=8) (show (["nothing", "worths", "dealing", "had", ".asker", "thing", "worth", "told", "asker", "got"]:List Str).Nodup by decide +kernel) rfl (Zw rfl) (.inr (Zx rfl)))) (KD (Kp (Kq (i:=9) (show (["nothing", "worths", "dealing", "had", ".asker", "thing", "worth", "told", "asker", "got"]:List Str).Nodup by decide +kernel) rfl (Zw rfl) (.inr (Zx rfl)))) ZG))),λB' G'=>(SE (VF (UX (pvb 9)))),(Yd rfl rfl rfl λB' G'=>(XR (U0 (UX (pvb 9)) (U0 (UX (pvb 0)) (U0 (VG (K5 (pvb 3) (UX (pvb 8)) (λ_ _=>rfl))) (U0 (UX (pvb 8)) U8))))))⟩) rfl rfl (by decide +kernel))
 (Kg (Yu Qt rfl (Yk (UX (pq Hbf 1))) (ZE rfl (KD (Kp (Kq (i:=4) (nq Hbf) rfl (lq Hbf 4))) (KD (Kp (Kq (i:=5) (nq Hbf) rfl (lq Hbf 5))) (KD (Kp (Kq (i:=6) (nq Hbf) rfl (lq Hbf 6))) ZG))))
 (Kj (Zd (YO (YJ hu) (K5 (pq Hbf 2) (UX (pq Hbf 4)) (λ_ _=>rfl)) (UX (pq Hbf 5)) (Zo _))
 (Kj (VN (pq Hbf 7) (XR (U0 (pdf d_be hr (gq Hbf 0) (U0 (UX (pq Hbf 0)) (U0 (K5 (pq Hbf 2) (UX (pq Hbf 4)) (λ_ _=>rfl)) U8))) (U0 (UX (pq Hbf 5)) (U0 (Kw Xn (UX (pq Hbf 6)) (K5 (pq Hbf 3) (UX (pq Hbf 4)) (λ_ _=>rfl))) (U0 (UX (pq Hbf 4)) U8)))))))
 Zl)))
 (Kj (KH (UX (pq Hbf 7))))))))
theorem Kam(d_ag:Def P w K mg base "look_at_wishes" 6 1 YI)(F:Fun K "copies_left" "copies_left" Sam f fd):FnOk P w K mg base CX0 7 f fd ["wishes", "dealing"] (spD K 2 TC) :=
 okD (k:=6) (g:=RJ) F (fq Ham 2) rfl λcdv A outer s H E B G0 hr=>
 have hu:=hr.units;have hgd:=hr.gd
 (Kg (Va (pdf d_ag hr (gq Ham 1) (U0 (UX (pq Ham 0)) U8)))
 (Kj (KH (Y0 (Xl (Kv Sam) Pb ["wishes", "dealing", "thing", "many"] 2 Yv rfl (X0 (gq Ham 0) T.b_enumerate (U0 (K5 (pq Ham 0) Kd (λ_ _=>rfl)) U8)) (λcl C s0 H0 ex=>⟨λB' G'=>(ZE rfl (KD (Kp (Kq (i:=2) (show (["wishes", "dealing", "thing", "many"]:List Str).Nodup by decide +kernel) rfl (Zw rfl) (.inr (Zx rfl)))) (KD (Kp (Kq (i:=3) (show (["wishes", "dealing", "thing", "many"]:List Str).Nodup by decide +kernel) rfl (Zw rfl) (.inr (Zx rfl)))) ZG))),λB' G'=>YE,(Yd rfl rfl rfl λB' G'=>(Kw Xn (UX (pvb 3)) (Nq hu (UX (pvb 1)) (U0 (UX (pvb 2)) U8))))⟩) rfl rfl (by decide +kernel))))))
theorem Kbg(d_am:Def P w K mg base "copies_left" 7 2 TC)(F:Fun K "steps_of_copies" "steps_of_copies" Sbg f fd):FnOk P w K mg base CX0 8 f fd ["wishes", "dealing"] (spD K 2 Tq) :=
 okD (k:=7) (g:=Rq) F (fq Hbg 2) rfl λcdv A outer s H E B G0 hr=>
 have hu:=hr.units;have hgd:=hr.gd
 (Kg (K1 (i:=2) (nq Hbg) rfl (lq Hbg 2) (YG Wc (gq Hbg 3) T.b_len Jk (U0 (K5 (pq Hbg 0) Kd (λ_ _=>rfl)) U8)))
 (Kg (K1 (i:=3) (nq Hbg) rfl (lq Hbg 3) (pdf d_am hr (gq Hbg 2) (U0 (UX (pq Hbg 0)) (U0 (UX (pq Hbg 1)) U8))))
 (Kg (YT (j:=4) (Kv Sbg) Tb ["wishes", "dealing", "nothing", "left", "to_nothing", "thing", "many"] 2 Yv (nq Hbg) rfl rfl rfl (X0 (gq Hbg 1) T.b_enumerate (U0 (UX (pq Hbg 3)) U8)) (λcl C s0 H0 ex=>⟨λB' G'=>(ZE rfl (KD (Kp (Kq (i:=5) (show (["wishes", "dealing", "nothing", "left", "to_nothing", "thing", "many"]:List Str).Nodup by decide +kernel) rfl (Zw rfl) (.inr (Zx rfl)))) (KD (Kp (Kq (i:=6) (show (["wishes", "dealing", "nothing", "left", "to_nothing", "thing", "many"]:List Str).Nodup by decide +kernel) rfl (Zw rfl) (.inr (Zx rfl)))) ZG))),λB' G'=>(SE (YN Y7 (pvb 6) Kd (Zo _))),(Yd rfl rfl rfl λB' G'=>(XR (U0 (UX (pvb 5)) (U0 (UX (pvb 2)) (U0 Kd (U0 T8 U8))))))⟩) rfl rfl (by decide +kernel))
 (Kj (KH (Kw Zf (UX (pq Hbg 4)) (Y0 (Xl (Kv Sbg) Tb ["wishes", "dealing", "nothing", "left", "to_nothing", "thing"] 1 Yv rfl (Sf (gq Hbg 0) T.b_range (U0 (UX (pq Hbg 2)) U8)) (λcl C s0 H0 ex=>⟨λB' G'=>(Kp (Kq (i:=5) (show (["wishes", "dealing", "nothing", "left", "to_nothing", "thing"]:List Str).Nodup by decide +kernel) rfl (Zw rfl) (.inr (Zx rfl)))),λB' G'=>YE,(Yd rfl rfl rfl λB' G'=>(XR (U0 (UX (pvb 2)) (U0 (UX (pvb 5)) (U0 Kd (U0 T8 U8))))))⟩) rfl rfl (by decide +kernel)))))))))
theorem Kbh(d_bf:Def P w K mg base "steps_of_askers" 2 3 Tr)(d_bg:Def P w K mg base "steps_of_copies" 8 2 Tq)(F:Fun K "all_steps" "all_steps" Sbh f fd):FnOk P w K mg base CX0 9 f fd ["wishes", "worths", "dealing"] (spD K 3 X9) :=
 okD (k:=8) (g:=Rp) F (fq Hbh 3) rfl λcdv A outer s H E B G0 hr=>
 have hu:=hr.units;have hgd:=hr.gd
 (Kj (KH (Kw Zf (pdf d_bf hr (gq Hbh 1) (U0 (YG Wc (gq Hbh 0) T.b_len Jk (U0 (K5 (pq Hbh 0) Kd (λ_ _=>rfl)) U8)) (U0 (UX (pq Hbh 1)) (U0 (UX (pq Hbh 2)) U8)))) (pdf d_bg hr (gq Hbh 2) (U0 (UX (pq Hbh 0)) (U0 (UX (pq Hbh 2)) U8))))))
theorem Kbi(F:Fun K "longer_walks" "longer_walks" Sbi f fd):FnOk P w K mg base CX0 1 f fd ["walks", "steps"] (spD K 2 Tp) :=
 okD (k:=0) (g:=Ro) F (fq Hbi 2) rfl λcdv A outer s H E B G0 hr=>
 have hu:=hr.units;have hgd:=hr.gd
 (Kg (Wg (i:=2) (nq Hbi) rfl (lq Hbi 2) (SN (gq Hbi 0) T.b_list (pq Hbi 0)))
 (Kg (Yu Qt rfl (Yk (UX (pq Hbi 1))) (Kp (Kq (i:=3) (nq Hbi) rfl (lq Hbi 3)))
 (Kg (VA (UX (pq Hbi 3)) (ZE rfl (KD (Kp (Kq (i:=4) (nq Hbi) rfl (lq Hbi 4))) (KD (Kp (Kq (i:=5) (nq Hbi) rfl (lq Hbi 5))) (KD (Kp (Kq (i:=6) (nq Hbi) rfl (lq Hbi 6))) (KD (Kp (Kq (i:=7) (nq Hbi) rfl (lq Hbi 7))) ZG))))))
 (Kg (VA (K5 (pq Hbi 0) (UX (pq Hbi 4)) (λ_ _=>rfl)) (ZE rfl (KD (Kp (Kq (i:=8) (nq Hbi) rfl (lq Hbi 8))) (KD (Kp (Kq (i:=9) (nq Hbi) rfl (lq Hbi 9))) ZG))))
 (Kj (Zd (YO Y7 (Kw Zf (UX (pq Hbi 8)) (UX (pq Hbi 6))) (WX (K5 (pq Hbi 2) (UX (pq Hbi 5)) (λ_ _=>rfl)) Kd (λ_ _=>rfl)) (Zo _))
 (Kj (T6 (XR (U0 (Kw Zf (UX (pq Hbi 8)) (UX (pq Hbi 6))) (U0 (Kw Zf (UX (pq Hbi 9)) (Yi (U0 (UX (pq Hbi 3)) U8))) U8))) (pq Hbi 2) (UX (pq Hbi 5))))
 Zl)))))
 (Kj (KH (UX (pq Hbi 2))))))
theorem Kbj(d_bi:Def P w K mg base "longer_walks" 1 2 Tp)(F:Fun K "widest_walks" "widest_walks" Sbj f fd):FnOk P w K mg base CX0 2 f fd ["places", "steps"] (spD K 2 WJ) :=
 okD (k:=1) (g:=Rn) F (fq Hbj 2) rfl λcdv A outer s H E B G0 hr=>
 have hu:=hr.units;have hgd:=hr.gd
 (Kg (K1 (i:=2) (nq Hbj) rfl (lq Hbj 2) (Kw Xm (Yi (U0 (XR (U0 Kd (U0 (Yi U8) U8))) U8)) (UX (pq Hbj 0))))
 (Kg (Yu Qt rfl (Sf (gq Hbj 0) T.b_range (U0 (UX (pq Hbj 0)) U8)) (Kp (Kq (i:=3) (nq Hbj) rfl (lq Hbj 3)))
 (Kj (K1 (i:=2) (nq Hbj) rfl (lq Hbj 2) (pdf d_bi hr (gq Hbj 1) (U0 (UX (pq Hbj 2)) (U0 (UX (pq Hbj 1)) U8))))))
 (Kj (KH (UX (pq Hbj 2))))))
theorem Kbo(d_bh:Def P w K mg base "all_steps" 9 3 X9)(d_bj:Def P w K mg base "widest_walks" 2 2 WJ)(F:Fun K "prices_for" "prices_for" Sbo f fd):FnOk P w K mg base CX0 10 f fd ["wishes", "worths", "dealing"] (spD K 3 Tm) :=
 okD (k:=9) (g:=Ri) F (fq Hbo 3) rfl λcdv A outer s H E B G0 hr=>
 have hu:=hr.units;have hgd:=hr.gd
 (Kg (K1 (i:=3) (nq Hbo) rfl (lq Hbo 3) (YG Wc (gq Hbo 2) T.b_len Jk (U0 (K5 (pq Hbo 0) Kd (λ_ _=>rfl)) U8)))
 (Kg (K1 (i:=4) (nq Hbo) rfl (lq Hbo 4) (pdf d_bj hr (gq Hbo 1) (U0 (Kw Zf (UX (pq Hbo 3)) Kd) (U0 (pdf d_bh hr (gq Hbo 0) (U0 (UX (pq Hbo 0)) (U0 (UX (pq Hbo 1)) (U0 (UX (pq Hbo 2)) U8)))) U8))))
 (Kj (KH (Y0 (Xl (Kv Sbo) R4 ["wishes", "worths", "dealing", "nothing", "walks", "gained", "walk"] 2 Yv rfl (Yk (VZ (UX (pq Hbo 4)) VE (Xw (UX (pq Hbo 3))))) (λcl C s0 H0 ex=>⟨λB' G'=>(ZE rfl (KD (Kp (Kq (i:=5) (show (["wishes", "worths", "dealing", "nothing", "walks", "gained", "walk"]:List Str).Nodup by decide +kernel) rfl (Zw rfl) (.inr (Zx rfl)))) (KD (Kp (Kq (i:=6) (show (["wishes", "worths", "dealing", "nothing", "walks", "gained", "walk"]:List Str).Nodup by decide +kernel) rfl (Zw rfl) (.inr (Zx rfl)))) ZG))),λB' G'=>YE,(Yd rfl rfl rfl λB' G'=>(UX (pvb 5)))⟩) rfl rfl (by decide +kernel)))))))
theorem Kbq(d_bp:Def P w K mg base "asks_beyond" 1 3 Tl)(d_bo:Def P w K mg base "prices_for" 10 3 Tm)(F:Fun K "paper_for" "paper_for" Sbq f fd):FnOk P w K mg base CX0 11 f fd ["wishes", "worths", "dealing"] (spD K 3 WI) :=
 okD (k:=10) (g:=Rg) F (fq Hbq 3) rfl λcdv A outer s H E B G0 hr=>
 have hu:=hr.units;have hgd:=hr.gd
 (Kg (K1 (i:=3) (nq Hbq) rfl (lq Hbq 3) (pdf d_bo hr (gq Hbq 2) (U0 (UX (pq Hbq 0)) (U0 (UX (pq Hbq 1)) (U0 (UX (pq Hbq 2)) U8)))))
 (Kj (KH (XR (U0 Kd (U0 (pdf d_bp hr (gq Hbq 1) (U0 (YG Wc (gq Hbq 0) T.b_len Jk (U0 (K5 (pq Hbq 0) Kd (λ_ _=>rfl)) U8)) (U0 (UX (pq Hbq 1)) (U0 (UX (pq Hbq 3)) U8)))) (U0 (UX (pq Hbq 3)) U8)))))))
theorem Kbk(F:Fun K "round_within" "round_within" Sbk f fd):FnOk P w K mg base CX0 1 f fd ["walk"] (spD K 1 To) :=
 okD (k:=0) (g:=Rm) F (fq Hbk 1) rfl λcdv A outer s H E B G0 hr=>
 have hu:=hr.units;have hgd:=hr.gd
 (Kg (Yu Qt rfl (X0 (gq Hbk 0) T.b_enumerate (U0 (UX (pq Hbk 0)) U8)) (ZE rfl (KD (Kp (Kq (i:=1) (nq Hbk) rfl (lq Hbk 1))) (KD (Kp (Kq (i:=2) (nq Hbk) rfl (lq Hbk 2))) ZG)))
 (Kj (Yu Qt rfl (Sf (gq Hbk 1) T.b_range (U0 (Kw Zf (UX (pq Hbk 1)) Kd) U8)) (Kp (Kq (i:=3) (nq Hbk) rfl (lq Hbk 3)))
 (Kj (Zd (YO (Zr hu) (WX (K5 (pq Hbk 0) (UX (pq Hbk 3)) (λ_ _=>rfl)) Kd (λ_ _=>rfl)) (K5 (pq Hbk 2) Kd (λ_ _=>rfl)) (Zo _))
 (Kj (KH (VZ (UX (pq Hbk 0)) (Xw (UX (pq Hbk 3))) (Xw (Kw Zf (UX (pq Hbk 1)) Kd)))))
 Zl)))))
 (Kj (KH (Yi U8))))
theorem Kbl(F:Fun K "way_round" "way_round" Sbl f fd):FnOk P w K mg base CX0 1 f fd ["nothing", "steps"] (spD K 2 Vp) :=
 okD (k:=0) (g:=Rl) F (fq Hbl 2) rfl λcdv A outer s H E B G0 hr=>
 have hu:=hr.units;have hgd:=hr.gd
 (Kg (K1 (i:=2) (nq Hbl) rfl (lq Hbl 2) Kd)
 (Kg (Yu Qt rfl (X0 (gq Hbl 0) T.b_enumerate (U0 (UX (pq Hbl 1)) U8)) (ZE rfl (KD (Kp (Kq (i:=3) (nq Hbl) rfl (lq Hbl 3))) (KD (Kp (Kq (i:=4) (nq Hbl) rfl (lq Hbl 4))) ZG)))
 (Kj (Zd (YO (Zr hu) (K5 (pq Hbl 4) Kd (λ_ _=>rfl)) (UX (pq Hbl 0)) (Zo _))
 (Kj (K1 (i:=2) (nq Hbl) rfl (lq Hbl 2) (UX (pq Hbl 3))))
 Zl)))
 (Kg (Wg (i:=5) (nq Hbl) rfl (lq Hbl 5) (SF U8))
 (Kg (Yu Qt rfl (Yk (Kw Zf (VZ (UX (pq Hbl 1)) (Xw (UX (pq Hbl 2))) VE) (VZ (UX (pq Hbl 1)) VE (Xw (UX (pq Hbl 2)))))) (ZE rfl (KD (Kp (Kq (i:=6) (nq Hbl) rfl (lq Hbl 6))) (KD (Kp (Kq (i:=7) (nq Hbl) rfl (lq Hbl 7))) (KD (Kp (Kq (i:=8) (nq Hbl) rfl (lq Hbl 8))) (KD (Kp (Kq (i:=9) (nq Hbl) rfl (lq Hbl 9))) ZG)))))
 (Kj (Zd (VF (UX (pq Hbl 9)))
 (Kj (VN (pq Hbl 5) (XR (U0 (UX (pq Hbl 9)) (U0 (Nu (YN (Zr hu) (pq Hbl 7) (UX (pq Hbl 0)) (Zo _)) T8 (UX (pq Hbl 7))) U8)))))
 Zl)))
 (Kj (KH (UX (pq Hbl 5))))))))
theorem Kbm(d_bh:Def P w K mg base "all_steps" 9 3 X9)(d_bj:Def P w K mg base "widest_walks" 2 2 WJ)(d_bk:Def P w K mg base "round_within" 1 1 To)(d_bl:Def P w K mg base "way_round" 1 2 Vp)(F:Fun K "gaining_way" "gaining_way" Sbm f fd):FnOk P w K mg base CX0 10 f fd ["wishes", "worths", "dealing"] (spD K 3 X8) :=
 okD (k:=9) (g:=Rk) F (fq Hbm 3) rfl λcdv A outer s H E B G0 hr=>
 have hu:=hr.units;have hgd:=hr.gd
 (Kg (K1 (i:=3) (nq Hbm) rfl (lq Hbm 3) (YG Wc (gq Hbm 2) T.b_len Jk (U0 (K5 (pq Hbm 0) Kd (λ_ _=>rfl)) U8)))
 (Kg (Yu Qt rfl (Yk (pdf d_bj hr (gq Hbm 1) (U0 (Kw Zf (UX (pq Hbm 3)) Kd) (U0 (pdf d_bh hr (gq Hbm 0) (U0 (UX (pq Hbm 0)) (U0 (UX (pq Hbm 1)) (U0 (UX (pq Hbm 2)) U8)))) U8)))) (ZE rfl (KD (Kp (Kq (i:=4) (nq Hbm) rfl (lq Hbm 4))) (KD (Kp (Kq (i:=5) (nq Hbm) rfl (lq Hbm 5))) ZG)))
 (Kj (Zd (YO (Zr hu) (Yq (gq Hbm 2) T.b_len (pq Hbm 5)) (Kw Zf (UX (pq Hbm 3)) Kd) (Zo _))
 (Kj (KH (pdf d_bl hr (gq Hbm 4) (U0 (UX (pq Hbm 3)) (U0 (pdf d_bk hr (gq Hbm 3) (U0 (UX (pq Hbm 5)) U8)) U8)))))
 Zl)))
 (Kj (KH (Yi U8)))))
theorem Kaj(d_ag:Def P w K mg base "look_at_wishes" 6 1 YI)(F:Fun K "all_wishes" "all_wishes" Saj f fd):FnOk P w K mg base CX0 7 f fd ["wishes"] (spD K 1 TF) :=
 okD (k:=6) (g:=RM) F (fq Haj 1) rfl λcdv A outer s H E B G0 hr=>
 have hu:=hr.units;have hgd:=hr.gd
 (Kg (Va (pdf d_ag hr (gq Haj 2) (U0 (UX (pq Haj 0)) U8)))
 (Kj (KH (YG LM (gq Haj 1) T.b_sorted PyProof.Rows.boot_sorted (U0 (Y0 (Xl (Kv Saj) Pe ["wishes", "asker", "ranks", "rank", "thing"] 4 qX rfl (X0 (gq Haj 0) T.b_enumerate (U0 (K5 (pq Haj 0) Kd (λ_ _=>rfl)) U8)) (λcl C s0 H0 ex=>⟨λB' G'=>(ZE rfl (KD (Kp (Kq (i:=1) (show (["wishes", "asker", "ranks", "rank", "thing"]:List Str).Nodup by decide +kernel) rfl (Zw rfl) (.inr (Zx rfl)))) (KD (Kp (Kq (i:=2) (show (["wishes", "asker", "ranks", "rank", "thing"]:List Str).Nodup by decide +kernel) rfl (Zw rfl) (.inr (Zx rfl)))) ZG))),λB' G'=>YE,(MW rfl rfl rfl rfl (λ_=>rfl) (λB' G'=>(Yk (UX (pvb 2)))) (λB' G'=>(Kp (Kq (i:=3) (show (["wishes", "asker", "ranks", "rank", "thing"]:List Str).Nodup by decide +kernel) rfl (Zw rfl) (.inr (Zx rfl))))) (λB' G'=>YE) (MW rfl rfl rfl rfl (λ_=>rfl) (λB' G'=>(Yk (UX (pvb 3)))) (λB' G'=>(Kp (Kq (i:=4) (show (["wishes", "asker", "ranks", "rank", "thing"]:List Str).Nodup by decide +kernel) rfl (Zw rfl) (.inr (Zx rfl))))) (λB' G'=>YE) (Yd rfl rfl rfl λB' G'=>(XR (U0 (UX (pvb 1)) (U0 (UX (pvb 4)) U8))))))⟩) rfl rfl (by decide +kernel))) U8)))))
theorem Kay(F:Fun K "power" "power" Say f fd):FnOk P w K mg base CX0 1 f fd ["base", "times"] (spD K 2 Yc) :=
 okD (k:=0) (g:=Ry) F (fq Hay 2) rfl λcdv A outer s H E B G0 hr=>
 have hu:=hr.units;have hgd:=hr.gd
 (Kg (K1 (i:=2) (nq Hay) rfl (lq Hay 2) Kd)
 (Kg (Yu Qt rfl (Sf (gq Hay 0) T.b_range (U0 (UX (pq Hay 1)) U8)) (Kp (Kq (i:=3) (nq Hay) rfl (lq Hay 3)))
 (Kj (EZ (j:=2) (nq Hay) rfl (lq Hay 2) C6 (UX (pq Hay 0)))))
 (Kj (KH (UX (pq Hay 2))))))
theorem Kba(d_ay:Def P w K mg base "power" 1 2 Yc)(F:Fun K "worth_by_turns" "worth_by_turns" Sba f fd):FnOk P w K mg base CX0 2 f fd ["turns", "base", "asker", "rank"] (spD K 4 Tt) :=
 okD (k:=1) (g:=Rw) F (fq Hba 4) rfl λcdv A outer s H E B G0 hr=>
 have hu:=hr.units;have hgd:=hr.gd
 (Kg (Zd (YN (Lf hu) (pq Hba 2) (UX (pq Hba 0)) rfl)
 (Kj (KH Kd))
 Zl)
 (Kg (K1 (i:=4) (nq Hba) rfl (lq Hba 4) (Kw Xn (Kw Xn (Yq (gq Hba 1) T.b_len (pq Hba 0)) Kd) (qg (UX (pq Hba 0)) (U0 (UX (pq Hba 2)) U8))))
 (Kj (KH (Kw Xm (Kw Xn (UX (pq Hba 1)) (UX (pq Hba 3))) (pdf d_ay hr (gq Hba 0) (U0 (UX (pq Hba 1)) (U0 (UX (pq Hba 4)) U8))))))))
theorem Kaz(d_ay:Def P w K mg base "power" 1 2 Yc)(F:Fun K "worth_by_order" "worth_by_order" Saz f fd):FnOk P w K mg base CX0 2 f fd ["order", "base", "most", "rank"] (spD K 4 Tu) :=
 okD (k:=1) (g:=Rx) F (fq Haz 4) rfl λcdv A outer s H E B G0 hr=>
 have hu:=hr.units;have hgd:=hr.gd
 (Kg (Zd (YN (Zr hu) (pq Haz 0) Xv (Zo _))
 (Kj (KH (pdf d_ay hr (gq Haz 0) (U0 (UX (pq Haz 1)) (U0 (Kw Xn (UX (pq Haz 2)) (UX (pq Haz 3))) U8)))))
 Zl)
 (Kg (Zd (YN (Zr hu) (pq Haz 0) Xv (Zo _))
 (Kj (KH (Kw Zf (pdf d_ay hr (gq Haz 0) (U0 (UX (pq Haz 1)) (U0 (UX (pq Haz 2)) U8))) (pdf d_ay hr (gq Haz 0) (U0 (UX (pq Haz 1)) (U0 (Kw Xn (UX (pq Haz 2)) (UX (pq Haz 3))) U8))))))
 Zl)
 (Kj (KH (Kw Xn (pdf d_ay hr (gq Haz 0) (U0 (UX (pq Haz 1)) (U0 (UX (pq Haz 2)) U8))) (pdf d_ay hr (gq Haz 0) (U0 (UX (pq Haz 1)) (U0 (Kw Xn (UX (pq Haz 3)) Kd) U8))))))))
theorem Kbb(d_ay:Def P w K mg base "power" 1 2 Yc)(d_ba:Def P w K mg base "worth_by_turns" 2 4 Tt)(d_az:Def P w K mg base "worth_by_order" 2 4 Tu)(d_ah:Def P w K mg base "rank_in" 1 2 Xk)(F:Fun K "worth_by_aim" "worth_by_aim" Sbb f fd):FnOk P w K mg base CX0 3 f fd ["wishes", "aim", "most", "asker", "thing"] (spD K 5 Vr) :=
 okD (k:=2) (g:=Rv) F (fq Hbb 5) rfl λcdv A outer s H E B G0 hr=>
 have hu:=hr.units;have hgd:=hr.gd
 (Kg (VA (UX (pq Hbb 1)) (ZE rfl (KD (Kp (Kq (i:=5) (nq Hbb) rfl (lq Hbb 5))) (KD (Kp (Kq (i:=6) (nq Hbb) rfl (lq Hbb 6))) (KD (Kp (Kq (i:=7) (nq Hbb) rfl (lq Hbb 7))) ZG)))))
 (Kg (K1 (i:=8) (nq Hbb) rfl (lq Hbb 8) (K5 (pq Hbb 0) Kd (λ_ _=>rfl)))
 (Kg (K1 (i:=9) (nq Hbb) rfl (lq Hbb 9) (pdf d_ah hr (gq Hbb 4) (U0 (K5 (pq Hbb 8) (UX (pq Hbb 3)) (λ_ _=>rfl)) (U0 (UX (pq Hbb 4)) U8))))
 (Kg (K1 (i:=10) (nq Hbb) rfl (lq Hbb 10) (Kw Zf (Yq (gq Hbb 0) T.b_len (pq Hbb 8)) Kd))
 (Kg (K1 (i:=11) (nq Hbb) rfl (lq Hbb 11) (Nu (PW.pt (Of (VF (UX (pq Hbb 6))) (OA (YO (Zr hu) (K5 (pq Hbb 6) (UX (pq Hbb 3)) (λ_ _=>rfl)) (UX (pq Hbb 4)) (Zo _))))) Kd Kd))
 (Kg (K1 (i:=12) (nq Hbb) rfl (lq Hbb 12) (Kw Zf (Kw Xm (pdf d_az hr (gq Hbb 3) (U0 (UX (pq Hbb 5)) (U0 (UX (pq Hbb 10)) (U0 (UX (pq Hbb 2)) (U0 (UX (pq Hbb 9)) U8))))) (UX (pq Hbb 10))) (UX (pq Hbb 11))))
 (Kj (KH (Kw Zf (Kw Xm (UX (pq Hbb 12)) (pdf d_ay hr (gq Hbb 1) (U0 (Kw Zf (UX (pq Hbb 2)) Kd) (U0 (Yq (gq Hbb 0) T.b_len (pq Hbb 7)) U8)))) (pdf d_ba hr (gq Hbb 2) (U0 (UX (pq Hbb 7)) (U0 (Kw Zf (UX (pq Hbb 2)) Kd) (U0 (UX (pq Hbb 3)) (U0 (UX (pq Hbb 9)) U8))))))))))))))
theorem Kbc(d_aj:Def P w K mg base "all_wishes" 7 1 TF)(d_bb:Def P w K mg base "worth_by_aim" 3 5 Vr)(d_ai:Def P w K mg base "longest" 7 1 WP)(d_at:Def P w K mg base "look_at_aim" 7 2 WM)(F:Fun K "all_worths" "all_worths" Sbc f fd):FnOk P w K mg base CX0 8 f fd ["wishes", "aim"] (spD K 2 WK) :=
 okD (k:=7) (g:=Ru) F (fq Hbc 2) rfl λcdv A outer s H E B G0 hr=>
 have hu:=hr.units;have hgd:=hr.gd
 (Kg (Va (pdf d_at hr (gq Hbc 2) (U0 (UX (pq Hbc 0)) (U0 (UX (pq Hbc 1)) U8))))
 (Kg (K1 (i:=2) (nq Hbc) rfl (lq Hbc 2) (pdf d_ai hr (gq Hbc 1) (U0 (UX (pq Hbc 0)) U8)))
 (Kj (KH (Y0 (Xl (Kv Sbc) R6 ["wishes", "aim", "most", "asker", "thing"] 2 Yv rfl (Yk (pdf d_aj hr (gq Hbc 0) (U0 (UX (pq Hbc 0)) U8))) (λcl C s0 H0 ex=>⟨λB' G'=>(ZE rfl (KD (Kp (Kq (i:=3) (show (["wishes", "aim", "most", "asker", "thing"]:List Str).Nodup by decide +kernel) rfl (Zw rfl) (.inr (Zx rfl)))) (KD (Kp (Kq (i:=4) (show (["wishes", "aim", "most", "asker", "thing"]:List Str).Nodup by decide +kernel) rfl (Zw rfl) (.inr (Zx rfl)))) ZG))),λB' G'=>YE,(Yd rfl rfl rfl λB' G'=>(XR (U0 (UX (pvb 3)) (U0 (UX (pvb 4)) (U0 (pdf d_bb hr (W6 rfl) (U0 (UX (pvb 0)) (U0 (UX (pvb 1)) (U0 (UX (pvb 2)) (U0 (UX (pvb 3)) (U0 (UX (pvb 4)) U8)))))) U8)))))⟩) rfl rfl (by decide +kernel)))))))
theorem Kbs(d_bq:Def P w K mg base "paper_for" 11 3 WI)(d_bm:Def P w K mg base "gaining_way" 10 3 X8)(d_bc:Def P w K mg base "all_worths" 8 2 WK)(F:Fun K "bettered" "bettered" Sbs f fd):FnOk P w K mg base CX0 12 f fd ["wishes", "aim", "dealing"] (spD K 3 Vo) :=
 okD (k:=11) (g:=Re) F (fq Hbs 3) rfl λcdv A outer s H E B G0 hr=>
 have hu:=hr.units;have hgd:=hr.gd
 (Kg (K1 (i:=3) (nq Hbs) rfl (lq Hbs 3) (pdf d_bc hr (gq Hbs 2) (U0 (UX (pq Hbs 0)) (U0 (UX (pq Hbs 1)) U8))))
 (Kg (K1 (i:=4) (nq Hbs) rfl (lq Hbs 4) (pdf d_bm hr (gq Hbs 1) (U0 (UX (pq Hbs 0)) (U0 (UX (pq Hbs 3)) (U0 (UX (pq Hbs 2)) U8)))))
 (Kg (Zd (Hb (UX (pq Hbs 4)))
 (Kj (KH (XR (U0 Xv (U0 (UX (pq Hbs 4)) U8)))))
 Zl)
 (Kj (KH (XR (U0 Xv (U0 (pdf d_bq hr (gq Hbs 0) (U0 (UX (pq Hbs 0)) (U0 (UX (pq Hbs 3)) (U0 (UX (pq Hbs 2)) U8)))) U8))))))))
theorem Kbd(F:Fun K "behind_way" "behind_way" Sbd f fd):FnOk P w K mg base CX0 1 f fd ["dealing", "way"] (spD K 2 Ts) :=
 okD (k:=0) (g:=Rt) F (fq Hbd 2) rfl λcdv A outer s H E B G0 hr=>
 have hu:=hr.units;have hgd:=hr.gd
 (Kg (Wg (i:=2) (nq Hbd) rfl (lq Hbd 2) (SN (gq Hbd 0) T.b_list (pq Hbd 0)))
 (Kg (Yu Qt rfl (Yk (UX (pq Hbd 1))) (ZE rfl (KD (Kp (Kq (i:=3) (nq Hbd) rfl (lq Hbd 3))) (KD (Kp (Kq (i:=4) (nq Hbd) rfl (lq Hbd 4))) ZG)))
 (Kj (T6 (UX (pq Hbd 4)) (pq Hbd 2) (UX (pq Hbd 3)))))
 (Kj (KH (UX (pq Hbd 2))))))
theorem Kbn(d_bm:Def P w K mg base "gaining_way" 10 3 X8)(d_bd:Def P w K mg base "behind_way" 1 2 Ts)(F:Fun K "best_by" "best_by" Sbn f fd):FnOk P w K mg base CX0 11 f fd ["wishes", "worths"] (spD K 2 Tn) :=
 okD (k:=10) (g:=Rj) F (fq Hbn 2) rfl λcdv A outer s H E B G0 hr=>
 have hu:=hr.units;have hgd:=hr.gd
 (Kg (K1 (i:=2) (nq Hbn) rfl (lq Hbn 2) (Kw Xm (Yi (U0 T8 U8)) (YG Wc (gq Hbn 2) T.b_len Jk (U0 (K5 (pq Hbn 0) Kd (λ_ _=>rfl)) U8))))
 (Kg (K1 (i:=3) (nq Hbn) rfl (lq Hbn 3) (pdf d_bm hr (gq Hbn 0) (U0 (UX (pq Hbn 0)) (U0 (UX (pq Hbn 1)) (U0 (UX (pq Hbn 2)) U8)))))
 (Kg (Gq WQ Qt (Hb (UX (pq Hbn 3)))
 (Kg (K1 (i:=2) (nq Hbn) rfl (lq Hbn 2) (pdf d_bd hr (gq Hbn 1) (U0 (UX (pq Hbn 2)) (U0 (UX (pq Hbn 3)) U8))))
 (Kj (K1 (i:=3) (nq Hbn) rfl (lq Hbn 3) (pdf d_bm hr (gq Hbn 0) (U0 (UX (pq Hbn 0)) (U0 (UX (pq Hbn 1)) (U0 (UX (pq Hbn 2)) U8))))))))
 (Kj (KH (UX (pq Hbn 2)))))))
theorem Kbr(d_bq:Def P w K mg base "paper_for" 11 3 WI)(d_bn:Def P w K mg base "best_by" 11 2 Tn)(d_bc:Def P w K mg base "all_worths" 8 2 WK)(F:Fun K "best_dealing" "best_dealing" Sbr f fd):FnOk P w K mg base CX0 12 f fd ["wishes", "aim"] (spD K 2 Tk) :=
 okD (k:=11) (g:=Rf) F (fq Hbr 2) rfl λcdv A outer s H E B G0 hr=>
 have hu:=hr.units;have hgd:=hr.gd
 (Kg (K1 (i:=2) (nq Hbr) rfl (lq Hbr 2) (pdf d_bc hr (gq Hbr 2) (U0 (UX (pq Hbr 0)) (U0 (UX (pq Hbr 1)) U8))))
 (Kg (K1 (i:=3) (nq Hbr) rfl (lq Hbr 3) (pdf d_bn hr (gq Hbr 1) (U0 (UX (pq Hbr 0)) (U0 (UX (pq Hbr 2)) U8))))
 (Kj (KH (XR (U0 (UX (pq Hbr 3)) (U0 (pdf d_bq hr (gq Hbr 0) (U0 (UX (pq Hbr 0)) (U0 (UX (pq Hbr 2)) (U0 (UX (pq Hbr 3)) U8)))) U8)))))))
theorem Kbt(F:Fun K "_law_cell_at" "_law_cell_at" Sbt f fd):FnOk P w K mg base CX0 1 f fd ["_law_script", "_law_k"] (spD K 2 X7) :=
 okD (k:=0) (g:=V3) F (fq Hbt 2) rfl λcdv A outer s H E B G0 hr=>
 have hu:=hr.units;have hgd:=hr.gd
 (Kg (Zd (YN TM (pq Hbt 1) (Yq (gq Hbt 0) T.b_len (pq Hbt 0)) (Zo _))
 (Kj (KH (K5 (pq Hbt 0) (UX (pq Hbt 1)) (λ_ _=>rfl))))
 Zl)
 (Kj (KH Kd)))
theorem Kbz(d_bu:Def P w K mg base "_law_numbers" 1 3 YV)(F:Fun K "_law_aim" "_law_aim" Sbz f fd):FnOk P w K mg base CX0 2 f fd ["_law_wishes_here", "_law_cell", "_law_salt"] (spD K 3 Ti) :=
 okD (k:=1) (g:=S7) F (fq Hbz 3) rfl λcdv A outer s H E B G0 hr=>
 have hu:=hr.units;have hgd:=hr.gd
 (Kg (K1 (i:=3) (nq Hbz) rfl (lq Hbz 3) (YG Wc (gq Hbz 1) T.b_len Jk (U0 (K5 (pq Hbz 0) Kd (λ_ _=>rfl)) U8)))
 (Kg (K1 (i:=4) (nq Hbz) rfl (lq Hbz 4) (Kw Zf (Yi (U0 Kd (U0 Kd (U0 (Kw Zf (UX (pq Hbz 3)) Kd) U8)))) (Kw Xm (Yi (U0 (Kw Zf (YG Wc (gq Hbz 1) T.b_len Jk (U0 (K5 (pq Hbz 0) Kd (λ_ _=>rfl)) U8)) Kd) U8)) (UX (pq Hbz 3)))))
 (Kg (K1 (i:=5) (nq Hbz) rfl (lq Hbz 5) (pdf d_bu hr (gq Hbz 0) (U0 (UX (pq Hbz 1)) (U0 (UX (pq Hbz 2)) (U0 (Kw Zf (UX (pq Hbz 4)) (Kw Xm (Yi (U0 (UX (pq Hbz 3)) U8)) (UX (pq Hbz 3)))) U8)))))
 (Kg (K1 (i:=6) (nq Hbz) rfl (lq Hbz 6) T8)
 (Kg (Zd (YO (Zr hu) (K5 (pq Hbz 5) Kd (λ_ _=>rfl)) Kd (Zo _))
 (Kj (YT (j:=6) (Kv Sbz) R1 ["_law_wishes_here", "_law_cell", "_law_salt", "_law_askers", "_law_sizes", "_law_digits", "_law_old", "_law_turns", "._law_digit", "_law_digit"] 1 Yv (nq Hbz) rfl rfl rfl (Yk (VZ (UX (pq Hbz 5)) (Xw Kd) (Xw (Kw Zf Kd (UX (pq Hbz 3)))))) (λcl C s0 H0 ex=>⟨λB' G'=>(Kp (Kq (i:=9) (show (["_law_wishes_here", "_law_cell", "_law_salt", "_law_askers", "_law_sizes", "_law_digits", "_law_old", "_law_turns", "._law_digit", "_law_digit"]:List Str).Nodup by decide +kernel) rfl (Zw rfl) (.inr (Zx rfl)))),λB' G'=>YE,(Yd rfl rfl rfl λB' G'=>(WX (Yi (U0 T8 (U0 (Kw Xn (UX (pvb 9)) Kd) U8))) (jh E4 (W6 rfl) T.b_int PyProof.Rows.boot_int (U0 (Px Y7 (pvb 9) Kd (Zo _)) U8)) (λ_ _=>rfl)))⟩) rfl rfl (by decide +kernel)))
 Zl)
 (Kg (Wg (i:=7) (nq Hbz) rfl (lq Hbz 7) (SF U8))
 (Kg (Yu Qt rfl (Yk (VZ (UX (pq Hbz 5)) (Xw (Kw Zf Kd (UX (pq Hbz 3)))) (Xw (Kw Zf (Kw Zf Kd (UX (pq Hbz 3))) (K5 (pq Hbz 5) Kd (λ_ _=>rfl)))))) (Kp (Kq (i:=8) (nq Hbz) rfl (lq Hbz 8)))
 (Kg (Gq 1000 Qt (BB (TN hu) (UX (pq Hbz 8)) (pq Hbz 7) rfl)
 (Kj (K1 (i:=8) (nq Hbz) rfl (lq Hbz 8) (Kw Wo (Kw Zf (UX (pq Hbz 8)) Kd) (UX (pq Hbz 3))))))
 (Kj (VN (pq Hbz 7) (UX (pq Hbz 8))))))
 (Kj (KH (XR (U0 (WX (Yi (U0 Xv (U0 Xv (U0 Xv U8)))) (K5 (pq Hbz 5) Kd (λ_ _=>rfl)) (λ_ _=>rfl)) (U0 (UX (pq Hbz 6)) (U0 (UX (pq Hbz 7)) U8)))))))))))))
theorem Kbv(d_bu:Def P w K mg base "_law_numbers" 1 3 YV)(d_bt:Def P w K mg base "_law_cell_at" 1 2 X7)(F:Fun K "_law_wishes" "_law_wishes" Sbv f fd):FnOk P w K mg base CX0 2 f fd ["_law_script", "_law_at", "_law_most_things", "_law_most_askers", "_law_most_ranks"] (spD K 5 Tj) :=
 okD (k:=1) (g:=Rb) F (fq Hbv 5) rfl λcdv A outer s H E B G0 hr=>
 have hu:=hr.units;have hgd:=hr.gd
 (Kg (K1 (i:=5) (nq Hbv) rfl (lq Hbv 5) (Kw Zf (Yi (U0 (UX (pq Hbv 2)) (U0 (UX (pq Hbv 3)) U8))) (Kw Xm (Yi (U0 Kd U8)) (UX (pq Hbv 2)))))
 (Kg (K1 (i:=6) (nq Hbv) rfl (lq Hbv 6) (pdf d_bu hr (gq Hbv 2) (U0 (pdf d_bt hr (gq Hbv 3) (U0 (UX (pq Hbv 0)) (U0 (UX (pq Hbv 1)) U8))) (U0 (UX (pq Hbv 1)) (U0 (UX (pq Hbv 5)) U8)))))
 (Kg (YT (j:=7) (Kv Sbv) Ta ["_law_script", "_law_at", "_law_most_things", "_law_most_askers", "_law_most_ranks", "_law_sizes", "_law_digits", "_law_copies", "_law_lists", "_law_asker", "_law_cell", "_law_places", "_law_ranks", "_law_rank_here", "_law_row", "_law_digit"] 1 Yv (nq Hbv) rfl rfl rfl (Yk (VZ (UX (pq Hbv 6)) (Xw Kd) (Xw (Kw Zf Kd (K5 (pq Hbv 6) Kd (λ_ _=>rfl)))))) (λcl C s0 H0 ex=>⟨λB' G'=>(Kp (Kq (i:=15) (show (["_law_script", "_law_at", "_law_most_things", "_law_most_askers", "_law_most_ranks", "_law_sizes", "_law_digits", "_law_copies", "_law_lists", "_law_asker", "_law_cell", "_law_places", "_law_ranks", "_law_rank_here", "_law_row", "_law_digit"]:List Str).Nodup by decide +kernel) rfl (Zw rfl) (.inr (Zx rfl)))),λB' G'=>YE,(Yd rfl rfl rfl λB' G'=>(WX (Yi (U0 Kd (U0 Kd (U0 Kd (U0 Kd (U0 Kd (U0 Kd (U0 Kd (U0 Kd (U0 Kd (U0 Kd (U0 Kd U8)))))))))))) (UX (pvb 15)) (λ_ _=>rfl)))⟩) rfl rfl (by decide +kernel))
 (Kg (Wg (i:=8) (nq Hbv) rfl (lq Hbv 8) (SF U8))
 (Kg (Yu Qt rfl (Sf (gq Hbv 0) T.b_range (U0 (Kw Zf Kd (K5 (pq Hbv 6) Kd (λ_ _=>rfl))) U8)) (Kp (Kq (i:=9) (nq Hbv) rfl (lq Hbv 9)))
 (Kg (K1 (i:=10) (nq Hbv) rfl (lq Hbv 10) (pdf d_bt hr (gq Hbv 3) (U0 (UX (pq Hbv 0)) (U0 (Kw Zf (Kw Zf (UX (pq Hbv 1)) Kd) (UX (pq Hbv 9))) U8))))
 (Kg (K1 (i:=11) (nq Hbv) rfl (lq Hbv 11) (pdf d_bu hr (gq Hbv 2) (U0 (UX (pq Hbv 10)) (U0 (Kw Zf (Kw Zf (Kw Xm Kd (UX (pq Hbv 1))) (Kw Xm Kd (UX (pq Hbv 9)))) Kd) (U0 (Kw Zf (Kw Xm (Yi (U0 (Kw Zf (UX (pq Hbv 4)) Kd) U8)) (UX (pq Hbv 2))) (Yi (U0 Kd U8))) U8)))))
 (Kg (Wg (i:=12) (nq Hbv) rfl (lq Hbv 12) (SF U8))
 (Kg (Yu Qt rfl (Ff (gq Hbv 0) T.b_range (U0 Kd (U0 (Kw Zf (UX (pq Hbv 4)) Kd) U8))) (Kp (Kq (i:=13) (nq Hbv) rfl (lq Hbv 13)))
 (Kg (YT (j:=14) (Kv Sbv) Ta ["_law_script", "_law_at", "_law_most_things", "_law_most_askers", "_law_most_ranks", "_law_sizes", "_law_digits", "_law_copies", "_law_lists", "_law_asker", "_law_cell", "_law_places", "_law_ranks", "_law_rank_here", "_law_row", "_law_thing"] 1 Yv (nq Hbv) rfl rfl rfl (Sf (gq Hbv 0) T.b_range (U0 (Yq (gq Hbv 1) T.b_len (pq Hbv 7)) U8)) (λcl C s0 H0 ex=>⟨λB' G'=>(Kp (Kq (i:=15) (show (["_law_script", "_law_at", "_law_most_things", "_law_most_askers", "_law_most_ranks", "_law_sizes", "_law_digits", "_law_copies", "_law_lists", "_law_asker", "_law_cell", "_law_places", "_law_ranks", "_law_rank_here", "_law_row", "_law_thing"]:List Str).Nodup by decide +kernel) rfl (Zw rfl) (.inr (Zx rfl)))),λB' G'=>(SE (YO (Zr hu) (K5 (pvb 11) (UX (pvb 15)) (λ_ _=>rfl)) (UX (pvb 13)) (Zo _))),(Yd rfl rfl rfl λB' G'=>(UX (pvb 15)))⟩) rfl rfl (by decide +kernel))
 (Kj (Zd (YN (YJ hu) (pq Hbv 14) (Yi U8) (Zo _))
 (Kj (VN (pq Hbv 12) (WX (Yi (U0 (UX (pq Hbv 14)) (U0 (Md (UX (pq Hbv 14)) VE VE (Xw (VG Kd))) U8))) (K5 (pq Hbv 11) (VG Kd) (λ_ _=>rfl)) (λ_ _=>rfl))))
 Zl))))
 (Kj (VN (pq Hbv 8) (UX (pq Hbv 12)))))))))
 (Kj (KH (XR (U0 (UX (pq Hbv 7)) (U0 (UX (pq Hbv 8)) U8))))))))))
theorem Kci(d_ax:Def P w K mg base "is_better" 10 4 Vs)(d_cf:Def P w K mg base "_law_key" 3 3 WH)(d_ch:Def P w K mg base "_law_above" 3 3 Vm)(d_ca:Def P w K mg base "_law_dealt" 2 3 Th)(d_ce:Def P w K mg base "_law_near" 3 4 Vn)(d_bs:Def P w K mg base "bettered" 12 3 Vo)(d_cd:Def P w K mg base "_law_is_dealing" 2 2 XE)(d_br:Def P w K mg base "best_dealing" 12 2 Tk)(d_bt:Def P w K mg base "_law_cell_at" 1 2 X7)(d_bz:Def P w K mg base "_law_aim" 2 3 Ti)(d_bv:Def P w K mg base "_law_wishes" 2 5 Tj)(F:Fun K "law" "law" Sci f fd):FnOk P w K mg base CX0 13 f fd ["_law_script"] (spD K 1 Te) :=
 okD (k:=12) (g:=SU) F (fq Hci 1) rfl λcdv A outer s H E B G0 hr=>
 have hu:=hr.units;have hgd:=hr.gd
 (Kg (K1 (i:=1) (nq Hci) rfl (lq Hci 1) (pdf d_bv hr (gq Hci 12) (U0 (UX (pq Hci 0)) (U0 Kd (U0 Kd (U0 Kd (U0 Kd U8)))))))
 (Kg (K1 (i:=2) (nq Hci) rfl (lq Hci 2) (pdf d_bz hr (gq Hci 11) (U0 (UX (pq Hci 1)) (U0 (pdf d_bt hr (gq Hci 10) (U0 (UX (pq Hci 0)) (U0 Kd U8))) (U0 Kd U8)))))
 (Kg (K1 (i:=3) (nq Hci) rfl (lq Hci 3) (WX (pdf d_br hr (gq Hci 9) (U0 (UX (pq Hci 1)) (U0 (UX (pq Hci 2)) U8))) Kd (λ_ _=>rfl)))
 (Kg (Zd (Xa (Y9 (pdf d_cd hr (gq Hci 8) (U0 (UX (pq Hci 1)) (U0 (UX (pq Hci 3)) U8)))))
 (Kj (KH Xz))
 Zl)
 (Kg (Zd (YO (YJ hu) (WX (pdf d_bs hr (gq Hci 7) (U0 (UX (pq Hci 1)) (U0 (UX (pq Hci 2)) (U0 (Y0 (SN (gq Hci 1) T.b_list (pq Hci 3))) U8)))) Kd (λ_ _=>rfl)) Xv (Zo _))
 (Kj (KH Xz))
 Zl)
 (Kg (K1 (i:=4) (nq Hci) rfl (lq Hci 4) (pdf d_cf hr (gq Hci 3) (U0 (UX (pq Hci 1)) (U0 (UX (pq Hci 2)) (U0 (UX (pq Hci 3)) U8)))))
 (Kg (K1 (i:=5) (nq Hci) rfl (lq Hci 5) (UX (pq Hci 3)))
 (Kg (Yu Qt rfl (X0 (gq Hci 0) T.b_enumerate (U0 (VZ (UX (pq Hci 0)) (Xw Kd) (Xw Kd)) U8)) (ZE rfl (KD (Kp (Kq (i:=6) (nq Hci) rfl (lq Hci 6))) (KD (Kp (Kq (i:=7) (nq Hci) rfl (lq Hci 7))) ZG)))
 (Kg (Zd (YO (Zr hu) (Kw Wo (UX (pq Hci 6)) Kd) Kd (Zo _))
 (Kj (K1 (i:=5) (nq Hci) rfl (lq Hci 5) (pdf d_ca hr (gq Hci 5) (U0 (UX (pq Hci 1)) (U0 (UX (pq Hci 7)) (U0 (Kw Zf Kd (UX (pq Hci 6))) U8))))))
 (Kj (Zd (YO (Zr hu) (Kw Wo (UX (pq Hci 6)) Kd) Kd (Zo _))
 (Kj (K1 (i:=5) (nq Hci) rfl (lq Hci 5) (pdf d_ce hr (gq Hci 6) (U0 (UX (pq Hci 1)) (U0 (UX (pq Hci 3)) (U0 (UX (pq Hci 7)) (U0 (Kw Zf Kd (UX (pq Hci 6))) U8)))))))
 (Kj (K1 (i:=5) (nq Hci) rfl (lq Hci 5) (pdf d_ce hr (gq Hci 6) (U0 (UX (pq Hci 1)) (U0 (UX (pq Hci 5)) (U0 (UX (pq Hci 7)) (U0 (Kw Zf Kd (UX (pq Hci 6))) U8))))))))))
 (Kg (Zd (PW.pt (W7 (YO (EC hu) (pdf d_cf hr (gq Hci 3) (U0 (UX (pq Hci 1)) (U0 (UX (pq Hci 2)) (U0 (UX (pq Hci 5)) U8)))) (UX (pq Hci 4)) (Zo _)) (Vb (Y9 (pdf d_ch hr (gq Hci 4) (U0 (UX (pq Hci 1)) (U0 (UX (pq Hci 5)) (U0 (UX (pq Hci 3)) U8))))))))
 (Kj (KH Xz))
 Zl)
 (Kj (Zd (YO EX (pdf d_ax hr (gq Hci 2) (U0 (UX (pq Hci 1)) (U0 (UX (pq Hci 2)) (U0 (Y0 (SN (gq Hci 1) T.b_list (pq Hci 5))) (U0 (Y0 (SN (gq Hci 1) T.b_list (pq Hci 3))) U8))))) Xz (Zo _))
 (Kj (KH Xz))
 Zl)))))
 (Kj (KH Xz))))))))))
end
theorem K8:recsOf q0=P5 p0 ixL:=by
 show recsOf (PySem.W.view PySem.Challenge.pw_wishdeal_k45_whole_none_is_better WV)=P5 PySem.Challenge.pw_wishdeal_k45_whole_none_is_better ixL;rw[PySem.W.Fast.te3399658132070893891,PySem.W.Fast.te4711340678548116813]
 kernel_rfl
theorem XS:(["all", "bool", "enumerate", "int", "isinstance", "len", "list", "max", "range", "set", "sorted", "str", "sum", "tuple", "zip"]:List Str).all (OF q0 (PySem.W.looseW q0 []))=true:=by
 show List.all _ (OF (PySem.W.view PySem.Challenge.pw_wishdeal_k45_whole_none_is_better WV) (PySem.W.looseW (PySem.W.view PySem.Challenge.pw_wishdeal_k45_whole_none_is_better WV) []))=true
 k_qdec
theorem xf:valOf q0 "MOST_ASKERS" = some (.int 7):=by
 show valOf (PySem.W.view PySem.Challenge.pw_wishdeal_k45_whole_none_is_better WV) _=_;rw[JB,PySem.W.Fast.te4711340678548116813]
 kernel_rfl
theorem kP:valOf q0 "MOST_COPIES" = some (.int 7):=by
 show valOf (PySem.W.view PySem.Challenge.pw_wishdeal_k45_whole_none_is_better WV) _=_;rw[JB,PySem.W.Fast.te4711340678548116813]
 kernel_rfl
theorem kQ:valOf q0 "MOST_RANKS" = some (.int 5):=by
 show valOf (PySem.W.view PySem.Challenge.pw_wishdeal_k45_whole_none_is_better WV) _=_;rw[JB,PySem.W.Fast.te4711340678548116813]
 kernel_rfl
theorem kO:valOf q0 "MOST_THINGS" = some (.int 6):=by
 show valOf (PySem.W.view PySem.Challenge.pw_wishdeal_k45_whole_none_is_better WV) _=_;rw[JB,PySem.W.Fast.te4711340678548116813]
 kernel_rfl
theorem qt:tupStrsOf q0 "ORDERS" = some (["firsts", "full", "lasts"]:List Str):=by
 show tupStrsOf (PySem.W.view PySem.Challenge.pw_wishdeal_k45_whole_none_is_better WV) _=_;rw[PySem.W.Fast.te14491516231548247274,PySem.W.Fast.te4711340678548116813]
 kernel_rfl
theorem DE{l:PySem.W.OpenLaw}{w:World}{s0:Uz}{mg mb:Str->Option Uy}{fa:UB}{h:Heap}{XP:(Str->Option Uy)->Heap->Prop}(G:PySem.W.Ground q0 [] [] XP w s0 mg mb h)(hfa:mg "law" = some (.ref fa)) :
  ∃fd:UC,(∀(s:Uz)(v:Uy),BindsTo s fd ⟨[v],[]⟩ [("_law_script", v)])/\∀base:Heap,FnOk l.prog w (whole h) mg base CX0 13 fa fd ["_law_script"] (spD (whole h) 1 Te):=by
 have T:Txt (whole h) mg:=⟨XU G.T XS (.head _),XU G.T XS (.tail _ (.head _)),XU G.T XS (.tail _ (.tail _ (.head _))),XU G.T XS (.tail _ (.tail _ (.tail _ (.head _)))),XU G.T XS (.tail _ (.tail _ (.tail _ (.tail _ (.head _))))),XU G.T XS (.tail _ (.tail _ (.tail _ (.tail _ (.tail _ (.head _)))))),XU G.T XS (.tail _ (.tail _ (.tail _ (.tail _ (.tail _ (.tail _ (.head _))))))),XU G.T XS (.tail _ (.tail _ (.tail _ (.tail _ (.tail _ (.tail _ (.tail _ (.head _)))))))),XU G.T XS (.tail _ (.tail _ (.tail _ (.tail _ (.tail _ (.tail _ (.tail _ (.tail _ (.head _))))))))),XU G.T XS (.tail _ (.tail _ (.tail _ (.tail _ (.tail _ (.tail _ (.tail _ (.tail _ (.tail _ (.head _)))))))))),XU G.T XS (.tail _ (.tail _ (.tail _ (.tail _ (.tail _ (.tail _ (.tail _ (.tail _ (.tail _ (.tail _ (.head _))))))))))),XU G.T XS (.tail _ (.tail _ (.tail _ (.tail _ (.tail _ (.tail _ (.tail _ (.tail _ (.tail _ (.tail _ (.tail _ (.head _)))))))))))),XU G.T XS (.tail _ (.tail _ (.tail _ (.tail _ (.tail _ (.tail _ (.tail _ (.tail _ (.tail _ (.tail _ (.tail _ (.tail _ (.head _))))))))))))),XU G.T XS (.tail _ (.tail _ (.tail _ (.tail _ (.tail _ (.tail _ (.tail _ (.tail _ (.tail _ (.tail _ (.tail _ (.tail _ (.tail _ (.head _)))))))))))))),XU G.T XS (.tail _ (.tail _ (.tail _ (.tail _ (.tail _ (.tail _ (.tail _ (.tail _ (.tail _ (.tail _ (.tail _ (.tail _ (.tail _ (.tail _ (.head _))))))))))))))),Nm G.T xf,Nm G.T kP,Nm G.T kQ,Nm G.T kO,A7 G.B qt (by decide)⟩
 refine Ez G.T K8 79 "law" rfl rfl hfa (λ_ _ _ _ _ _ _=>rfl) λbase=>?_
 have d_aw:=Za l.prog w base G.T K8 36 "is_better_by_turns" rfl rfl (λF=>Kaw T  F) λ_ _ _ _ _ _ us hl=>bz2 (us:=us) hl λ_ _=>rfl
 have d_ap:=Za l.prog w base G.T K8 28 "gaps" rfl rfl (λF=>Kap T  F) λ_ _ _ _ _ _ us hl=>bz3 (us:=us) hl λ_ _ _=>rfl
 have d_an:=Za l.prog w base G.T K8 26 "is_order" rfl rfl (λF=>Kan T  F) λ_ _ _ _ _ _ us hl=>bz1 (us:=us) hl λ_=>rfl
 have d_ao:=Za l.prog w base G.T K8 27 "look_at_order" rfl rfl (λF=>Kao T d_an F) λ_ _ _ _ _ _ us hl=>bz1 (us:=us) hl λ_=>rfl
 have d_aq:=Za l.prog w base G.T K8 29 "beside_by" rfl rfl (λF=>Kaq T d_ap d_ao F) λ_ _ _ _ _ _ us hl=>bz3 (us:=us) hl λ_ _ _=>rfl
 have d_au:=Za l.prog w base G.T K8 34 "how_many_kept" rfl rfl (λF=>Kau T  F) λ_ _ _ _ _ _ us hl=>bz2 (us:=us) hl λ_ _=>rfl
 have d_aa:=Za l.prog w base G.T K8 1 "is_whole" rfl rfl (λF=>Kaa T  F) λ_ _ _ _ _ _ us hl=>bz1 (us:=us) hl λ_=>rfl
 have d_ab:=Za l.prog w base G.T K8 2 "is_number_below" rfl rfl (λF=>Kab T d_aa F) λ_ _ _ _ _ _ us hl=>bz2 (us:=us) hl λ_ _=>rfl
 have d_ad:=Za l.prog w base G.T K8 13 "is_rank" rfl rfl (λF=>Kad T d_ab F) λ_ _ _ _ _ _ us hl=>bz2 (us:=us) hl λ_ _=>rfl
 have d_ae:=Za l.prog w base G.T K8 14 "is_asker_list" rfl rfl (λF=>Kae T d_ad F) λ_ _ _ _ _ _ us hl=>bz2 (us:=us) hl λ_ _=>rfl
 have d_af:=Za l.prog w base G.T K8 15 "look_at_lists" rfl rfl (λF=>Kaf T d_ae F) λ_ _ _ _ _ _ us hl=>bz2 (us:=us) hl λ_ _=>rfl
 have d_ac:=Za l.prog w base G.T K8 12 "look_at_copies" rfl rfl (λF=>Kac T d_ab F) λ_ _ _ _ _ _ us hl=>bz1 (us:=us) hl λ_=>rfl
 have d_ag:=Za l.prog w base G.T K8 16 "look_at_wishes" rfl rfl (λF=>Kag T d_af d_ac F) λ_ _ _ _ _ _ us hl=>bz1 (us:=us) hl λ_=>rfl
 have d_ai:=Za l.prog w base G.T K8 18 "longest" rfl rfl (λF=>Kai T d_ag F) λ_ _ _ _ _ _ us hl=>bz1 (us:=us) hl λ_=>rfl
 have d_ah:=Za l.prog w base G.T K8 17 "rank_in" rfl rfl (λF=>Kah T  F) λ_ _ _ _ _ _ us hl=>bz2 (us:=us) hl λ_ _=>rfl
 have d_ak:=Za l.prog w base G.T K8 21 "ranks_got" rfl rfl (λF=>Kak T d_ah d_ag F) λ_ _ _ _ _ _ us hl=>bz2 (us:=us) hl λ_ _=>rfl
 have d_al:=Za l.prog w base G.T K8 22 "counts_of" rfl rfl (λF=>Kal T d_ai d_ak F) λ_ _ _ _ _ _ us hl=>bz2 (us:=us) hl λ_ _=>rfl
 have d_as:=Za l.prog w base G.T K8 32 "is_turns" rfl rfl (λF=>Kas T d_ab F) λ_ _ _ _ _ _ us hl=>bz2 (us:=us) hl λ_ _=>rfl
 have d_ar:=Za l.prog w base G.T K8 31 "is_old" rfl rfl (λF=>Kar T d_ab F) λ_ _ _ _ _ _ us hl=>bz3 (us:=us) hl λ_ _ _=>rfl
 have d_at:=Za l.prog w base G.T K8 33 "look_at_aim" rfl rfl (λF=>Kat T d_as d_ar d_ao d_ag F) λ_ _ _ _ _ _ us hl=>bz2 (us:=us) hl λ_ _=>rfl
 have d_av:=Za l.prog w base G.T K8 35 "score_of" rfl rfl (λF=>Kav T d_au d_al d_ak d_at F) λ_ _ _ _ _ _ us hl=>bz3 (us:=us) hl λ_ _ _=>rfl
 have d_ax:=Za l.prog w base G.T K8 37 "is_better" rfl rfl (λF=>Kax T d_aw d_aq d_av F) λ_ _ _ _ _ _ us hl=>bz4 (us:=us) hl λ_ _ _ _=>rfl
 have d_bx:=Za l.prog w base G.T K8 68 "_law_longest" rfl rfl (λF=>Kbx T  F) λ_ _ _ _ _ _ us hl=>bz1 (us:=us) hl λ_=>rfl
 have d_bw:=Za l.prog w base G.T K8 67 "_law_rank" rfl rfl (λF=>Kbw T  F) λ_ _ _ _ _ _ us hl=>bz3 (us:=us) hl λ_ _ _=>rfl
 have d_cb:=Za l.prog w base G.T K8 72 "_law_counts" rfl rfl (λF=>Kcb T d_bw d_bx F) λ_ _ _ _ _ _ us hl=>bz2 (us:=us) hl λ_ _=>rfl
 have d_cf:=Za l.prog w base G.T K8 76 "_law_key" rfl rfl (λF=>Kcf T d_bx d_bw d_cb F) λ_ _ _ _ _ _ us hl=>bz3 (us:=us) hl λ_ _ _=>rfl
 have d_cg:=Za l.prog w base G.T K8 77 "_law_place" rfl rfl (λF=>Kcg T d_bw d_bx F) λ_ _ _ _ _ _ us hl=>bz3 (us:=us) hl λ_ _ _=>rfl
 have d_ch:=Za l.prog w base G.T K8 78 "_law_above" rfl rfl (λF=>Kch T d_cg F) λ_ _ _ _ _ _ us hl=>bz3 (us:=us) hl λ_ _ _=>rfl
 have d_by:=Za l.prog w base G.T K8 69 "_law_wished" rfl rfl (λF=>Kby T  F) λ_ _ _ _ _ _ us hl=>bz2 (us:=us) hl λ_ _=>rfl
 have d_bu:=Za l.prog w base G.T K8 65 "_law_numbers" rfl rfl (λF=>Kbu T  F) λ_ _ _ _ _ _ us hl=>bz3 (us:=us) hl λ_ _ _=>rfl
 have d_ca:=Za l.prog w base G.T K8 71 "_law_dealt" rfl rfl (λF=>Kca T d_by d_bu F) λ_ _ _ _ _ _ us hl=>bz3 (us:=us) hl λ_ _ _=>rfl
 have d_cc:=Za l.prog w base G.T K8 73 "_law_is_number" rfl rfl (λF=>Kcc T  F) λ_ _ _ _ _ _ us hl=>bz1 (us:=us) hl λ_=>rfl
 have d_cd:=Za l.prog w base G.T K8 74 "_law_is_dealing" rfl rfl (λF=>Kcd T d_cc d_by F) λ_ _ _ _ _ _ us hl=>bz2 (us:=us) hl λ_ _=>rfl
 have d_ce:=Za l.prog w base G.T K8 75 "_law_near" rfl rfl (λF=>Kce T d_cd d_by d_bu F) λ_ _ _ _ _ _ us hl=>bz4 (us:=us) hl λ_ _ _ _=>rfl
 have d_bp:=Za l.prog w base G.T K8 58 "asks_beyond" rfl rfl (λF=>Kbp T  F) λ_ _ _ _ _ _ us hl=>bz3 (us:=us) hl λ_ _ _=>rfl
 have d_be:=Za l.prog w base G.T K8 47 "place_of" rfl rfl (λF=>Kbe T  F) λ_ _ _ _ _ _ us hl=>bz2 (us:=us) hl λ_ _=>rfl
 have d_bf:=Za l.prog w base G.T K8 48 "steps_of_askers" rfl rfl (λF=>Kbf T d_be F) λ_ _ _ _ _ _ us hl=>bz3 (us:=us) hl λ_ _ _=>rfl
 have d_am:=Za l.prog w base G.T K8 23 "copies_left" rfl rfl (λF=>Kam T d_ag F) λ_ _ _ _ _ _ us hl=>bz2 (us:=us) hl λ_ _=>rfl
 have d_bg:=Za l.prog w base G.T K8 49 "steps_of_copies" rfl rfl (λF=>Kbg T d_am F) λ_ _ _ _ _ _ us hl=>bz2 (us:=us) hl λ_ _=>rfl
 have d_bh:=Za l.prog w base G.T K8 50 "all_steps" rfl rfl (λF=>Kbh T d_bf d_bg F) λ_ _ _ _ _ _ us hl=>bz3 (us:=us) hl λ_ _ _=>rfl
 have d_bi:=Za l.prog w base G.T K8 51 "longer_walks" rfl rfl (λF=>Kbi T  F) λ_ _ _ _ _ _ us hl=>bz2 (us:=us) hl λ_ _=>rfl
 have d_bj:=Za l.prog w base G.T K8 52 "widest_walks" rfl rfl (λF=>Kbj T d_bi F) λ_ _ _ _ _ _ us hl=>bz2 (us:=us) hl λ_ _=>rfl
 have d_bo:=Za l.prog w base G.T K8 57 "prices_for" rfl rfl (λF=>Kbo T d_bh d_bj F) λ_ _ _ _ _ _ us hl=>bz3 (us:=us) hl λ_ _ _=>rfl
 have d_bq:=Za l.prog w base G.T K8 59 "paper_for" rfl rfl (λF=>Kbq T d_bp d_bo F) λ_ _ _ _ _ _ us hl=>bz3 (us:=us) hl λ_ _ _=>rfl
 have d_bk:=Za l.prog w base G.T K8 53 "round_within" rfl rfl (λF=>Kbk T  F) λ_ _ _ _ _ _ us hl=>bz1 (us:=us) hl λ_=>rfl
 have d_bl:=Za l.prog w base G.T K8 54 "way_round" rfl rfl (λF=>Kbl T  F) λ_ _ _ _ _ _ us hl=>bz2 (us:=us) hl λ_ _=>rfl
 have d_bm:=Za l.prog w base G.T K8 55 "gaining_way" rfl rfl (λF=>Kbm T d_bh d_bj d_bk d_bl F) λ_ _ _ _ _ _ us hl=>bz3 (us:=us) hl λ_ _ _=>rfl
 have d_aj:=Za l.prog w base G.T K8 19 "all_wishes" rfl rfl (λF=>Kaj T d_ag F) λ_ _ _ _ _ _ us hl=>bz1 (us:=us) hl λ_=>rfl
 have d_ay:=Za l.prog w base G.T K8 39 "power" rfl rfl (λF=>Kay T  F) λ_ _ _ _ _ _ us hl=>bz2 (us:=us) hl λ_ _=>rfl
 have d_ba:=Za l.prog w base G.T K8 41 "worth_by_turns" rfl rfl (λF=>Kba T d_ay F) λ_ _ _ _ _ _ us hl=>bz4 (us:=us) hl λ_ _ _ _=>rfl
 have d_az:=Za l.prog w base G.T K8 40 "worth_by_order" rfl rfl (λF=>Kaz T d_ay F) λ_ _ _ _ _ _ us hl=>bz4 (us:=us) hl λ_ _ _ _=>rfl
 have d_bb:=Za l.prog w base G.T K8 42 "worth_by_aim" rfl rfl (λF=>Kbb T d_ay d_ba d_az d_ah F) λ_ _ _ _ _ _ us hl=>bz5 (us:=us) hl λ_ _ _ _ _=>rfl
 have d_bc:=Za l.prog w base G.T K8 43 "all_worths" rfl rfl (λF=>Kbc T d_aj d_bb d_ai d_at F) λ_ _ _ _ _ _ us hl=>bz2 (us:=us) hl λ_ _=>rfl
 have d_bs:=Za l.prog w base G.T K8 62 "bettered" rfl rfl (λF=>Kbs T d_bq d_bm d_bc F) λ_ _ _ _ _ _ us hl=>bz3 (us:=us) hl λ_ _ _=>rfl
 have d_bd:=Za l.prog w base G.T K8 45 "behind_way" rfl rfl (λF=>Kbd T  F) λ_ _ _ _ _ _ us hl=>bz2 (us:=us) hl λ_ _=>rfl
 have d_bn:=Za l.prog w base G.T K8 56 "best_by" rfl rfl (λF=>Kbn T d_bm d_bd F) λ_ _ _ _ _ _ us hl=>bz2 (us:=us) hl λ_ _=>rfl
 have d_br:=Za l.prog w base G.T K8 61 "best_dealing" rfl rfl (λF=>Kbr T d_bq d_bn d_bc F) λ_ _ _ _ _ _ us hl=>bz2 (us:=us) hl λ_ _=>rfl
 have d_bt:=Za l.prog w base G.T K8 64 "_law_cell_at" rfl rfl (λF=>Kbt T  F) λ_ _ _ _ _ _ us hl=>bz2 (us:=us) hl λ_ _=>rfl
 have d_bz:=Za l.prog w base G.T K8 70 "_law_aim" rfl rfl (λF=>Kbz T d_bu F) λ_ _ _ _ _ _ us hl=>bz3 (us:=us) hl λ_ _ _=>rfl
 have d_bv:=Za l.prog w base G.T K8 66 "_law_wishes" rfl rfl (λF=>Kbv T d_bu d_bt F) λ_ _ _ _ _ _ us hl=>bz5 (us:=us) hl λ_ _ _ _ _=>rfl
 exact λ{_ _} F=>Kci T d_ax d_cf d_ch d_ca d_ce d_bs d_cd d_br d_bt d_bz d_bv F
abbrev d_ci:DefRec:=⟨"law", Py Sci,T9 Sci,Kv Sci,EA Sci⟩
theorem walk{YP:World->Heap->Prop}{XP:(Str->Option Uy)->Heap->Prop}(hlaw:∀ns:List Int,ns.length<=63->Te [.list (ns.map int)]=some (.bool true)):PySem.W.WalkO q0 [] XP YP (PySem.Challenge.rw_wishdeal_k45_whole_none_is_better).row.toRowW d_ci [] (λf vs=>PySem.call f vs) :=
 BJ (n:=63) (k:=13) (x := "_law_script") rfl (by decide) rfl ⟨rfl,by decide,by decide,rfl⟩ (λ_ _ _ _ _ _ G hm=>DE G hm) hlaw
theorem Lm{f:M D}{Z Z1:UR}{d:D}{t:Bool}(h:f Z=.ok d Z1)(ht:(!isNon d)=t):Ka (λd=>!isNon d) f Z=.ok t Z1:=by
 subst ht;exact KP (k:=λd=>!isNon d) h
theorem FQ{sizes found:List Int}{z d:Int}(h:∀(j:Nat) d z,found[j]?=some d->sizes[j]?=some z->0<=d/\d<z)(hz:sizes[found.length]?=some z)(h0:0<=d/\d<z) :
  ∀(j:Nat) d' z',(found++[d])[j]?=some d'->sizes[j]?=some z'->0<=d'/\d'<z':=by
 intro j d' z' e1 e2
 by_cases hj:j<found.length
 ·rw[Qx hj] at e1
  exact h j d' z' e1 e2
 ·by_cases hj2:j=found.length
  ·subst hj2
   rw[hz] at e2;cases e2;rw[Qw (Qy _),Nat.sub_self,List.getElem?_cons_zero] at e1;cases e1;exact h0
  ·rw[QD (by rw[Qj,Ji];omega)] at e1
   cases e1
abbrev pb(d:D):Option Sl:=some (.pub d)
def inv(c s:Int)(sizes:List Int)(n:Int)(i:Nat)(Z:UR):Prop:=∃left found x6 x7,Z=[some (Sl.pub (.int c)),pb (.int s),pb (.list (sizes.map .int)),pb (.int n),pb (.int left),some (.own ((found:List Int).map .int)),x6,x7] /\
 found.length=i/\∀(j:Nat) d z,found[j]?=some d->sizes[j]?=some z->0<=d/\d<z
theorem qq{c s n:Int}{sizes:List Int}(hs:∀x∈sizes,0<x/\x<18446744073709551616)(hl:sizes.length<=1000){i:Nat}{d:D}{Z:UR}{Q:Out->Prop}(hi:(YM 0 sizes.length)[i]?=some d)(h:inv c s sizes n i Z) :
  ∃Z2,gN 6 d Z=some Z2/\Ho Mp Z2 (Sr (inv c s sizes n (i+1)) Q):=by
 obtain ⟨left,found,x6,x7,rfl,hf,hfd⟩:=h;obtain ⟨rfl,hlt⟩:=Sh hi;obtain ⟨z,hz⟩:∃z,sizes[i]?=some z:=⟨sizes[i]'(by omega),Qe _⟩
 obtain ⟨z1,z2⟩:=hs z (Qp hz)
 have hix:oIx (.list (sizes.map int)) (.int (0+(i:Int)))=some (.int z):=by
  rw[Uo];exact ZD (by rw[Qd,hz];rfl)
 generalize hk:(0:Int)+(i:Int)=k at hix ⊢;have hk1:k<18446744073709551616:=by omega
 have hk2 : -18446744073709551616<k:=by omega
 have hlen:(found.map int).length<1000000:=by rw[Qb];omega
 have pw:Vh (.int 10) (.int 18)=some (.int 1000000000000000000):=by rw[C7 (by decide)];rfl
 refine ⟨_,U4 (Qa rfl) rfl,?_⟩;unfold Mp;apply KM
 case h1=>exact E1 (ZO rfl (Kk U6 U6 pw) rfl) λ_=>ZO rfl U6 rfl
 case h2=>
  intro _;refine Kx (W4 rfl (Kk (UU rfl) (K7 rfl (UU rfl) hix) (Wp (by omega))) rfl hlen rfl) ?_
  refine ZW (K0 (Kk (UU rfl) (K7 rfl (UU rfl) hix) (HQ (by omega) (by omega))) (Qa rfl) rfl) (ZB ?_)
  exact ⟨_,found++[left % z],_,_,by rw[Qz];rfl,by rw[Qj,hf];rfl,FQ hfd (by rw[hf];exact hz) ⟨Uf _ (by omega),JQ _ z1⟩⟩
 case h3=>
  intro _;refine Kx (K0 (Kk (Kk (Kk (Kk (UU rfl) (Kk U6 (UU rfl) (Oj (by decide) (by decide))) ZH) (Kk (Kk U6 (UU rfl) (Oj (by decide) (by decide))) (UU rfl) (PH hk2 hk1)) ZH) (UU rfl) ZH) U6 (Wp (by decide))) (Qa rfl) rfl) ?_
  refine Kx (K0 (Kk (Kk (UU rfl) U6 (PH (by decide) (by decide))) U6 (Wp (by decide))) (Qa rfl) rfl) ?_
  refine Kx (K0 (Kk (Kk (Kk (Kk (UU rfl) (UU rfl) (PH (by omega) (by omega))) U6 (Wp (by decide))) U6 (PH (by decide) (by decide))) U6 (Wp (by decide))) (Qa rfl) rfl) ?_
  refine ZW (W4 rfl (Kk (Kk (UU rfl) U6 (HQ (by decide) (by decide))) (K7 rfl (UU rfl) hix) (Wp (by omega))) rfl hlen rfl) (ZB ?_)
  exact ⟨_,found++[_ % z],_,_,by rw[Qz];rfl,by rw[Qj,hf];rfl,FQ hfd (by rw[hf];exact hz) ⟨Uf _ (by omega),JQ _ z1⟩⟩
theorem OB(c s:Int){sizes:List Int}(hs:∀x∈sizes,0<x/\x<18446744073709551616)(hl:sizes.length<=1000) :
  ∃r,YV [.int c,.int s,.list (sizes.map int)]=some r/\∃ds:List Int,r=.list (ds.map .int)/\ds.length=sizes.length/\∀(j:Nat) d z,ds[j]?=some d->sizes[j]?=some z->0<=d/\d<z:=by
 refine WW (Z:=[pb (.int c),pb (.int s),pb (.list (sizes.map int)),none,none,none,none,none]) rfl ?_;unfold Rc;refine Kx (K0 (Yg (UZ (UU rfl) (UZ (Kk (Vz U6) (UU rfl) Xp) U7)) HP) (Qa rfl) rfl) ?_;refine Kx (K0 (UU rfl) (Qa rfl) rfl) ?_;refine Kx (Yt (T5 U7 (Qa rfl)) (Qa rfl) rfl) ?_;apply KU;apply Yj (ds:=YM 0 sizes.length) (inv c s sizes (if -1-c > c then -1-c else c))
 case h1=>exact T4 (UZ (Ye rfl (by rw[ZR,Qb])) U7) (So (by omega) (by omega))
 case h0=>exact ⟨_,[],none,none,rfl,rfl,λj d z e=>by cases e⟩
 case hst=>exact λi d Z e h=>qq hs hl e h
 case hend=>
  rintro Z ⟨left,found,x6,x7,rfl,hf,hfd⟩;rw[Vc] at hf;exact KQ (KI (Yh rfl rfl) ⟨_,rfl,found,rfl,by omega,hfd⟩)
theorem Oy:∀{xs:List D},(∀x∈xs,PyData.canLay0 x=true)->UO xs=true
 |[],_=>rfl
 |x::r,h=>by
  show (PyData.canLay0 x&&UO r)=true;rw[h x Qn,Oy λy hy=>h y (Qk _ hy)];rfl
theorem Nk{n:Nat}:∀{xs:List D},(∀x∈xs,UP x<=n)->PyData.depthAll xs<=n
 |[],_=>by simp[PyData.depthAll]
 |x::r,h=>by
  have h1:=h x Qn;have h2:=Nk (n:=n) λy hy=>h y (Qk _ hy);simp only[PyData.depthAll];omega
def ZQ(r:List Int):D:=.list (r.map int)
def Zc(rs:List (List Int)):D:=.list (rs.map ZQ)
def Ko(cs:List Int)(ls:L3):D:=.tuple [.list (cs.map int),.list (ls.map Zc)]
structure Sd(n:Nat)(rs:List (List Int)):Prop where
 few:rs.length<=5
 some:∀r∈rs,r≠[]
 there:∀r∈rs,∀t∈r,0<=t/\t<n
 once:rs.flatten.Nodup
structure Good(cs:List Int)(ls:L3):Prop where
 c1:1<=cs.length
 c6:cs.length<=6
 c7:∀c∈cs,0<=c/\c<8
 l1:1<=ls.length
 l7:ls.length<=7
 rk:∀rs∈ls,Sd cs.length rs
theorem Gk(r:List Int):(ZQ r).canLay0=true:=Oy λx hx=>by obtain ⟨y,_,rfl⟩:=Qr.mp hx;rfl
theorem Hi(i:Int):(int i).depth<=1:=by simp[UP]
theorem N9{n:Nat}{xs:List D}(h:PyData.depthAll xs<=n):(UK xs).depth<=n+1:=by simp only[UP];omega
theorem BH(r:List Int):(ZQ r).depth<=2:=N9 (Nk λx hx=>by obtain ⟨y,_,rfl⟩:=Qr.mp hx;exact Hi y)
theorem qp(i:Int):TL [.int i]=some (.bool true):=by
 refine Zp (Z:=[pb (.int i)]) rfl ?_;unfold RU;exact KI (O5 (KP (UU rfl)) (λ_=>HR (KP (UU rfl)))) rfl
theorem Nj{i m:Int}(h0:0<=i)(h1:i<m):YA [.int i,.int m]=some (.bool true):=by
 refine Zp (Z:=[pb (.int i),pb (.int m)]) rfl ?_;unfold RT;have hb:(decide (0<=i)&&decide (i<m))=true:=by simp[h0,h1]
 refine KI (O5 (t:=true) (u:=true) (Ky (UZ (UU rfl) U7) rfl (qp i)) (λ_=>?_)) rfl;rw[←hb];exact KP (Nd U6 (UU rfl) rfl (λ_=>UU rfl) (λ_=>rfl))
theorem Ni{α:Type}(l:List α):YU [.list (l.map λ_=>.bool true)]=some (.bool true):=by
 have:(l.map λ_=>UL true)=(l.map λ_=>true).map UL:=by rw[QP];rfl
 rw[this,HM]
 congr 2
 rw[List.all_map]
 induction l with
 |nil=>rfl
 |cons x r ih=>simpa using ih
theorem jw{r:List Int}{n:Int}(hne:r≠[])(hl:r.length<=1000)(h:∀t∈r,0<=t/\t<n):Vu [ZQ r,.int n]=some (.bool true):=by
 refine Zp (Z:=[pb (ZQ r),pb (.int n)]) rfl ?_;unfold RR;apply KU;have hlen:Ku [ZQ r]=some (.int r.length):=by unfold ZQ;rw[ZR,Qb]
 have hp:0<r.length:=Ur.mpr hne;apply KM
 case h1=>exact Wr (Z1:=[pb (ZQ r),pb (.int n)]) (Sn (UU rfl) rfl) (Kk (Ye rfl hlen) U6 Wf)
 case h2=>
       intro hh;have:(r.length:Int)=0:=by simpa using hh
       omega
 case h3=>
  intro _;refine K4 (KQ ?_)
  have hc:Zs (gN 2) (U1 true) (U5 2 YA (UY (UN 2) (UY (UN 1) (UT)))) (r.map int) (KJ [pb (ZQ r),pb (.int n)]++UJ 1 none) []=some (r.map λ_=>.bool true):=by
   rw[Se (λ_=>true) (λ_=>.bool true) (λZ=>∃x,Z=[pb (ZQ r),pb (.int n),x])]
   ·rw[JN.mpr (λ_ _=>rfl),Jj,QP];rfl
   ·rintro d hm Z ⟨x,rfl⟩
    obtain ⟨t,ht,rfl⟩:=Qr.mp hm;exact ⟨_,U4 (Qa rfl) rfl,rfl,λ_=>Ky (UZ (UU rfl) (UZ (UU rfl) U7)) rfl (Nj (h t ht).1 (h t ht).2),_,rfl⟩
   ·exact ⟨none,rfl⟩
   ·rw[Qb,QC];omega
  exact KI (Yg (UZ (KP (Ys (Yl (UU rfl) rfl) hc)) U7) (Ni r)) rfl
theorem Fo{a b c x3:Option Sl}(ha:Wn a=a)(hb:Wn b=b)(hc:Wn c=c)(hx:Wn x3=x3):∀(ds es:List D)(x4:Option Sl),es.length+ds.length<=1000000 ->
  ∃y,Xu (gN 4) (U1 true) (UN 4) ds [a,b,c,x3,x4] es=some (es++ds,[a,b,c,x3,y])
 |[],es,x4,_=>⟨x4,by rw[Xu,Q9]⟩
 |d::r,es,x4,h=>by
  rw[QF] at h;obtain ⟨y,e⟩:=Fo ha hb hc hx r (es++[d]) (some (.pub d)) (by rw[Qj,Ji];omega)
  refine ⟨y,?_⟩;rw[Xu];have h1:gN 4 d [a,b,c,x3,x4]=some [a,b,c,x3,pb d]:=U4 (Qa rfl) rfl;rw[h1];dsimp only[U1];rw[Ql rfl];have h2:UN 4 [a,b,c,x3,pb d]=.ok d [a,b,c,x3,pb d]:=UU rfl;rw[h2];dsimp only;rw[Ql (by omega)]
  have h3:KJ [a,b,c,x3,pb d]=[a,b,c,x3,pb d]:=by
   unfold KJ;simp only[QA,Ul,ha,hb,hc,hx]
   rfl
  rw[h3,e,Jg];rfl
theorem Ef{a b:D}:∀(rs:List (List Int))(es:List D)(x3 x4:Option Sl),es.length+rs.flatten.length<=1000000 ->
  W5 (gN 3) (U1 true) (Zt (UN 3)) (gN 4) (U1 true) (UN 4) (rs.map ZQ) [pb a,pb b,none,x3,x4] es=some (es++rs.flatten.map int)
 |[],es,_,_,_=>by rw[List.map_nil,W5];simp
 |r::rs,es,x3,x4,h=>by
  rw[QN,Qj] at h;rw[QA,W5];have h1:gN 3 (ZQ r) [pb a,pb b,none,x3,x4]=some [pb a,pb b,none,pb (ZQ r),x4]:=U4 (Qa rfl) rfl;rw[h1];dsimp only[U1];rw[Ql rfl];have h2:Zt (UN 3) [pb a,pb b,none,pb (ZQ r),x4]=.ok (r.map int) [pb a,pb b,none,pb (ZQ r),x4]:=Yl (UU rfl) rfl;rw[h2];dsimp only;have h3:KJ [pb a,pb b,none,pb (ZQ r),x4]=[pb a,pb b,none,pb (ZQ r),Wn x4]:=rfl;rw[h3];obtain ⟨y,e⟩:=Fo (a:=some (.pub a)) (b:=some (.pub b)) (c:=none) (x3:=some (.pub (ZQ r))) rfl rfl rfl rfl (r.map int) es (Wn x4) (by rw[Qb];omega)
  rw[e];dsimp only;have ih:=Ef (a:=a) (b:=b) rs (es++r.map int) (some (.pub (ZQ r))) y (by rw[Qj,Qb];omega)
  refine Eq.trans ih ?_;rw[QN,Qz,Jg]
theorem FP{ns:List Int}(h:ns.Nodup):Sy ns=ns.length:=by
 unfold Sy
 have:∀i,i<=ns.length->(PyProof.Rows.firstMet (λi=>ns.getD i 0) i).length=i:=by
  intro i
  induction i with
  |zero=>intro _;rfl
  |succ i ih=>
   intro hi;rw[PyProof.Rows.firstMet_succ]
   have hany:(PyProof.Rows.firstMet (λi=>ns.getD i 0) i).any (· == ns.getD i 0)=false:=by
    rw[PyProof.Rows.firstMet_any,List.any_eq_false];intro x hx;obtain ⟨j,hj,rfl⟩:=Qr.mp hx;have hj:=Q7.mp hj;intro e;have e:ns.getD j 0=ns.getD i 0:=by simpa using e
    have l1:j<ns.length:=by omega
    have l2:i<ns.length:=by omega
    simp only[List.getD,Qe l1,Qe l2,J5] at e;exact absurd ((List.getElem_inj h).mp e) (by omega)
   unfold PyProof.Rows.step_dedup;rw[hany];rw[Qs (by decide),Qj,ih (by omega)];rfl
 exact this ns.length (Qy _)
theorem ke{rs:List (List Int)}{n:Nat}(g:Sd n rs)(hn:n<=6)(hf:rs.flatten.length<=1000):TJ [Zc rs,.int n]=some (.bool true):=by
 refine Zp (Z:=[pb (Zc rs),pb (.int n),none]) rfl ?_;unfold RQ;have hlen:Ku [Zc rs]=some (.int rs.length):=by unfold Zc;rw[ZR,Qb]
 have h5:=g.few;have hrl:∀r∈rs,r.length<=1000:=λr hr=>QT (List.Sublist.length_le (List.sublist_flatten_of_mem hr)) hf;apply KU;apply KM
 case h1=>exact Wr (Z1:=[pb (Zc rs),pb (.int n),none]) (Sn (UU rfl) rfl) (Kk (Ye rfl hlen) U6 rfl)
 case h2=>
       intro hh;have:(5:Int)<(rs.length:Int):=by simpa using hh
       omega
 case h3=>
  intro _;refine K4 (KQ ?_)
  have hc:Zs (gN 3) (U1 true) (U5 2 Vu (UY (UN 3) (UY (UN 1) (UT)))) (rs.map ZQ) (KJ [pb (Zc rs),pb (.int n),none]++UJ 1 none) []=some (rs.map λ_=>.bool true):=by
   rw[Se (λ_=>true) (λ_=>.bool true) (λZ=>∃x,Z=[pb (Zc rs),pb (.int n),none,x])]
   ·rw[JN.mpr (λ_ _=>rfl),Jj,QP];rfl
   ·rintro d hm Z ⟨x,rfl⟩
    obtain ⟨r,hr,rfl⟩:=Qr.mp hm;exact ⟨_,U4 (Qa rfl) rfl,rfl,λ_=>Ky (UZ (UU rfl) (UZ (UU rfl) U7)) rfl (jw (g.some r hr) (hrl r hr) (g.there r hr)),_,rfl⟩
   ·exact ⟨none,rfl⟩
   ·rw[Qb,QC];omega
  apply KU;apply KM
  case h1=>exact XV (XY (Yg (UZ (KP (Ys (Yl (UU rfl) rfl) hc)) U7) (Ni rs)))
  case h2=>intro hh;cases hh
  case h3=>
   intro _;refine K4 (KQ ?_)
   have h2:Od (Zt (UN 0)) 2 (gN 3) (U1 true) (Zt (UN 3)) (gN 4) (U1 true) (UN 4) [pb (Zc rs),pb (.int n),none]=.ok (rs.flatten.map int) [pb (Zc rs),pb (.int n),none]:=by
    unfold Od;have e1:Zt (UN 0) [pb (Zc rs),pb (.int n),none]=.ok (rs.map ZQ) [pb (Zc rs),pb (.int n),none]:=Yl (UU rfl) rfl;rw[e1];dsimp only;have e2:=Ef (a:=Zc rs) (b:=.int n) rs [] none none (by rw[QC];omega)
    have e3:W5 (gN 3) (U1 true) (Zt (UN 3)) (gN 4) (U1 true) (UN 4) (rs.map ZQ) (KJ [pb (Zc rs),pb (.int n),none]++UJ 2 none) []=some ([]++rs.flatten.map int):=e2;rw[e3]
    rfl
   refine Kx (Yt h2 (Qa rfl) rfl) ?_
   have hls:VP [.list (rs.flatten.map int)]=some (.int rs.flatten.length):=by
    unfold VP;dsimp only;rw[SH];dsimp only;rw[Ql (by omega),FP g.once]
   refine KI (KP (Kk (Yg (UZ (Yh rfl rfl) U7) hls) (Ye rfl ZR) Wf)) ?_;rw[Qb];simp
theorem Xo{d:D}:∀{xs:List D}{k i:Nat},(YY k xs)[i]?=some d->∃x,xs[i]?=some x/\d=.tuple [.int ((k+i:Nat):Int),x]
 |[],k,i,h=>by cases h
 |x::r,k,0,h=>by
  cases h;exact ⟨x,rfl,rfl⟩
 |x::r,k,i+1,h=>by
  obtain ⟨y,e,q⟩:=Xo (xs:=r) (k:=k+1) (i:=i) h;exact ⟨y,e,by rw[q];congr 4;omega⟩
theorem Sk:∀(n:Nat)(l:List Int),l.Nodup->(∀x∈l,0<=x/\x<n)->l.length<=n
 |0,[],_,_=>Qy _
 |0,x::r,_,h=>by have:=h x Qn;omega
 |n+1,l,hn,h=>by
  by_cases hm:(n:Int)∈l
  ·have:=Sk n (l.erase (n:Int)) (hn.erase _) λx hx=>by
    have h1:=(List.Nodup.mem_erase_iff hn).mp hx;have h2:=h x h1.2;have h3:=h1.1;omega
   rw[List.length_erase_of_mem hm] at this;omega
  ·have:=Sk n l hn λx hx=>by
    have h2:=h x hx;have h3:x≠(n:Int):=λe=>hm (e ▸ hx);omega
   omega
theorem Mx{n:Nat}{rs:List (List Int)}(g:Sd n rs):rs.flatten.length<=n:=Sk n _ g.once λx hx=>by
 obtain ⟨r,hr,hxr⟩:=Up.mp hx;exact g.there r hr x hxr
theorem qo{cs:List Int}(h1:1<=cs.length)(h6:cs.length<=6)(h:∀c∈cs,0<=c/\c<8):TK [.list (cs.map int)]=some .none:=by
 refine P8 (Z:=[pb (.list (cs.map int)),none,none]) rfl ?_;unfold RS;have hlen:Ku [.list (cs.map int)]=some (.int cs.length):=by rw[ZR,Qb]
 apply KU;apply KM
 case h1=>exact Wr (Z1:=[pb (.list (cs.map int)),none,none]) (Sn (UU rfl) rfl) (XV (Nd U6 (Ye rfl hlen) rfl (λ_=>U6) (λ_=>rfl)))
 case h2=>
  intro hh;have a1:(1:Int)<=(cs.length:Int):=by omega
  have a2:(cs.length:Int)<=6:=by omega
  simp[a1,a2] at hh
 case h3=>
  intro _;refine K4 (KQ ?_);apply Yj (λ_ Z=>∃x1 x2,Z=[pb (.list (cs.map int)),x1,x2])
  case h1=>exact XQ (UZ (UU rfl) U7) XN
  case h0=>exact ⟨_,_,rfl⟩
  case hst=>
   rintro i d Z hi ⟨x1,x2,rfl⟩;obtain ⟨x,hx,rfl⟩:=Xo hi;obtain ⟨c,hc,rfl⟩:=Qr.mp (Qp hx);refine ⟨_,KK rfl (Kc (U4 (Qa rfl) rfl) (Kc (U4 (Qa rfl) rfl) KL)),?_⟩;unfold L7;apply KM
   case h1=>exact XV (XY (Ky (UZ (UU rfl) (UZ (Kk U6 U6 ZH) U7)) rfl (Nj (h c hc).1 (by have:=(h c hc).2;omega))))
   case h2=>intro hh;cases hh
   case h3=>exact λ_=>K4 (ZB ⟨_,_,rfl⟩)
  case hend=>exact λZ ⟨x1,x2,e⟩=>⟨_,rfl⟩
theorem BG{ls:L3}{n:Nat}(hn:n<=6)(h1:1<=ls.length)(h7:ls.length<=7)(h:∀rs∈ls,Sd n rs):TH [.list (ls.map Zc),.int n]=some .none:=by
 refine P8 (Z:=[pb (.list (ls.map Zc)),pb (.int n),none,none]) rfl ?_;unfold RP;have hlen:Ku [.list (ls.map Zc)]=some (.int ls.length):=by rw[ZR,Qb]
 apply KU;apply KM
 case h1=>exact Wr (Z1:=[pb (.list (ls.map Zc)),pb (.int n),none,none]) (Sn (UU rfl) rfl) (XV (Nd U6 (Ye rfl hlen) rfl (λ_=>U6) (λ_=>rfl)))
 case h2=>
  intro hh;have a1:(1:Int)<=(ls.length:Int):=by omega
  have a2:(ls.length:Int)<=7:=by omega
  simp[a1,a2] at hh
 case h3=>
  intro _;refine K4 (KQ ?_);apply Yj (λ_ Z=>∃x2 x3,Z=[pb (.list (ls.map Zc)),pb (.int n),x2,x3])
  case h1=>exact XQ (UZ (UU rfl) U7) XN
  case h0=>exact ⟨_,_,rfl⟩
  case hst=>
   rintro i d Z hi ⟨x1,x2,rfl⟩;obtain ⟨x,hx,rfl⟩:=Xo hi;obtain ⟨rs,hrs,rfl⟩:=Qr.mp (Qp hx);refine ⟨_,KK rfl (Kc (U4 (Qa rfl) rfl) (Kc (U4 (Qa rfl) rfl) KL)),?_⟩;unfold L8;have hfl:=Mx (h rs hrs);apply KM
   case h1=>exact XV (XY (Ky (UZ (UU rfl) (UZ (UU rfl) U7)) rfl (ke (h rs hrs) hn (by omega))))
   case h2=>intro hh;cases hh
   case h3=>exact λ_=>K4 (ZB ⟨_,_,rfl⟩)
  case hend=>exact λZ ⟨x1,x2,e⟩=>⟨_,rfl⟩
theorem Ox{cs:List Int}{ls:L3}(g:Good cs ls):YI [Ko cs ls]=some .none:=by
 refine P8 (Z:=[pb (Ko cs ls),none,none]) rfl ?_;unfold RO;apply KU;apply KM
 case h1=>exact Wr (Z1:=[pb (Ko cs ls),none,none]) (Sn (UU rfl) rfl) (Kk (Ye rfl rfl) U6 Sb)
 case h2=>intro hh;cases hh
 case h3=>
  intro _;refine K4 (KQ ?_);have hlen:Ku [.list (cs.map int)]=some (.int (cs.length:Nat)):=by rw[ZR,Qb]
  refine Kx (Vy (UU rfl) (KK rfl (Kc (U4 (Qa rfl) rfl) (Kc (U4 (Qa rfl) rfl) KL)))) ?_;refine Kx (W9 (Ky (UZ (UU rfl) U7) rfl (qo g.c1 g.c6 g.c7))) ?_;exact ZW (W9 (Ky (UZ (UU rfl) (UZ (Ye rfl hlen) U7)) rfl (BG g.c6 g.l1 g.l7 g.rk))) ⟨_,rfl⟩
theorem MK:∀(xs ys:List Int),PyData.eqvAll (xs.map int) (ys.map int)=decide (xs=ys)
 |[],[]=>rfl
 |[],y::ys=>by simp[PyData.eqvAll]
 |x::xs,[]=>by simp[PyData.eqvAll]
 |x::xs,y::ys=>by
  have ih:=MK xs ys;show (UQ (.int x) (.int y)&&PyData.eqvAll (xs.map int) (ys.map int))=_;rw[ih]
  have:UQ (.int x) (.int y)=decide (x=y):=rfl
  rw[this,JH];simp
theorem qm{xs:List Int}:oNe (.list (xs.map int)) (.list [])=some (!decide (xs=[])):=by
 unfold oNe;have h1:(UK (xs.map int)).canLay0=true:=Gk xs;have h3:(UK (xs.map int)).depth<=60:=by have:=BH xs;unfold ZQ at this;omega
 rw[Ql ⟨h1,rfl,h3⟩]
 congr 2
 exact MK xs []
theorem Bu{xs:List D}{x:D}(h:xs.getLast?=some x):oIx (.list xs) (.int (-1))=some x:=by
 unfold oIx atI;have hl:xs≠[]:=by rintro rfl;cases h
 have hp:0<xs.length:=Ur.mpr hl;rw[List.getLast?_eq_getElem?] at h;show (ixN xs.length (-1)).bind _=_;unfold ixN;rw[Qs (by decide),Ql (by omega)]
 have e2:(-1+(xs.length:Int)).toNat=xs.length-1:=by omega
 simp only[Option.bind_some];rw[e2];exact h
theorem N8{xs:List Int}{k:Nat}(h:k<xs.length):oIx (.list (xs.map int)) (.int k)=some (.int (xs.getD k 0)):=by
 refine ZD ?_;rw[Qd,Qe h];simp[List.getD,List.getElem?_eq_getElem h]
theorem La(ns:List Int)(k:Nat)(hl:ns.length<=1000):∃v,X7 [.list (ns.map int),.int k]=some (.int v):=by
 have hlen:Ku [.list (ns.map int)]=some (.int ns.length):=by rw[ZR,Qb]
 by_cases h:k<ns.length
 ·refine ⟨ns.getD k 0,Zp (Z:=[pb (.list (ns.map int)),pb (.int k)]) rfl ?_⟩
  unfold V3;apply KU;apply KM
  case h1=>exact ZO rfl (Ye rfl hlen) rfl
  case h2=>exact λ_=>KI (K7 rfl (UU rfl) (N8 h)) (Xe rfl)
  case h3=>
        intro hh;have:¬(k:Int)<(ns.length:Int):=by simpa using hh
        omega
 ·refine ⟨0,Zp (Z:=[pb (.list (ns.map int)),pb (.int k)]) rfl ?_⟩
  unfold V3;apply KU;apply KM
  case h1=>exact ZO rfl (Ye rfl hlen) rfl
  case h2=>
        intro hh;have:(k:Int)<(ns.length:Int):=by simpa using hh
        omega
  case h3=>exact λ_=>K4 (KQ (KI U6 rfl))
def sz6:List Int:=6::7::UJ 6 11
def szP:List Int:=UJ 6 6++[2]
theorem DD:∀x∈sz6,0<x/\x<18446744073709551616:=by decide
theorem DC:∀x∈szP,0<x/\x<18446744073709551616:=by decide
def tab:List Int:=[1,1,2,0,3,7,1,4,5,6,1]
theorem LJ{z:Int}(h0:0<=z)(h1:z<11):oIx (.list (tab.map int)) (.int z)=some (.int (tab.getD z.toNat 0))/\0<=tab.getD z.toNat 0/\tab.getD z.toNat 0<8:=by
 have e:z=0∨z=1∨z=2∨z=3∨z=4∨z=5∨z=6∨z=7∨z=8∨z=9∨z=10:=by omega
 rcases e with rfl|rfl|rfl|rfl|rfl|rfl|rfl|rfl|rfl|rfl|rfl <;> exact ⟨rfl,by decide,by decide⟩
structure VI(n:Nat)(pl:List Int)(j:Nat)(rs:List (List Int)):Prop where
 few:rs.length<=j
 some:∀r∈rs,r≠[]
 there:∀r∈rs,∀t∈r,(0<=t/\t<n)/\pl.getD t.toNat 0<1+(j:Int)
 once:rs.flatten.Nodup
def TY(n:Nat)(pl:List Int)(r:Int):List Int:=((UI n).filter λk=>decide (pl.getD k 0=r)).map λk:Nat=>(k:Int)
theorem ka(n:Nat)(pl:List Int)(r:Int):(TY n pl r).Nodup:=by
 unfold TY;refine List.Pairwise.map _ (λa b h e=>h (by omega)) ((List.nodup_range).filter _)
theorem FI{n:Nat}{pl:List Int}{r t:Int}(h:t∈TY n pl r):(0<=t/\t<n)/\pl.getD t.toNat 0=r:=by
 unfold TY at h;obtain ⟨k,hk,rfl⟩:=Qr.mp h;have hk:=Us.mp hk;have h1:=Q7.mp hk.1;have h2:pl.getD k 0=r:=by simpa using hk.2
 exact ⟨⟨by omega,by omega⟩,by rw[Qv];exact h2⟩
theorem VI.add{n:Nat}{pl:List Int}{j:Nat}{rs:List (List Int)}{row:List Int}(g:VI n pl j rs)(hne:row≠[])(hm:∀t∈row,t∈TY n pl (1+(j:Int)))(hn:row.Nodup):VI n pl (j+1) (rs++[row]) where
 few:=by rw[Qj,Ji];have:=g.few;omega
 some:=λr hr=>by
  rcases QW.mp hr with z|z
  ·exact g.some r z
  ·rw[Ja.mp z];exact hne
 there:=λr hr t ht=>by
  rcases QW.mp hr with z|z
  ·have:=g.there r z t ht;exact ⟨this.1,by omega⟩
  ·rw[Ja.mp z] at ht
   have:=FI (hm t ht)
   exact ⟨this.1,by omega⟩
 once:=by
  rw[List.flatten_append,List.flatten_singleton];refine List.nodup_append.mpr ⟨g.once,hn,λa ha b hb e=>?_⟩;subst e;obtain ⟨r,hr,har⟩:=Up.mp ha;have h1:=(g.there r hr a har).2;have h2:=(FI (hm a hb)).2;omega
theorem VI.next{n:Nat}{pl:List Int}{j:Nat}{rs:List (List Int)}(g:VI n pl j rs):VI n pl (j+1) rs :=
 ⟨by have:=g.few;omega,g.some,λr hr t ht=>⟨(g.there r hr t ht).1,by have:=(g.there r hr t ht).2;omega⟩,g.once⟩
theorem VI.good{n:Nat}{pl:List Int}{rs:List (List Int)}(g:VI n pl 5 rs):Sd n rs:=⟨g.few,g.some,λr hr t ht=>(g.there r hr t ht).1,g.once⟩
def SR(S dz sz:D)(at_ n:Nat)(cs pl:List Int)(ls:L3)(x9 x10:Option Sl)(j:Nat)(Z:UR):Prop:=∃(rs:List (List Int))(x13 x14:Option Sl),
 Z=[pb S,pb (.int at_),pb (.int 6),pb (.int 7),pb (.int 5),pb sz,pb dz,some (.own (cs.map int)),some (.own (ls.map Zc)),x9,x10,pb (.list (pl.map int)),some (.own (rs.map ZQ)),x13,x14]/\VI n pl j rs
theorem ql{S dz sz:D}{at_ n:Nat}{cs pl:List Int}{ls:L3}{v9 v10:D}{j:Nat}{d:D}{Z:UR}{Q:Out->Prop}(hcs:cs.length=n)(hn:n<=6)(hpl:pl.length=7)(hlast:pl.getD 6 0=0∨pl.getD 6 0=1)
  (hj:(YM 1 (5+1))[j]?=some d) (h:SR S dz sz at_ n cs pl ls (some (.pub v9)) (some (.pub v10)) j Z) :
  ∃Z2,gN 13 d Z=some Z2/\Ho Mm Z2 (Sr (SR S dz sz at_ n cs pl ls (some (.pub v9)) (some (.pub v10)) (j+1)) Q):=by
 obtain ⟨rs,x13,x14,rfl,g⟩:=h;obtain ⟨rfl,hlt⟩:=Sh hj;have hj5:j<5:=by omega
 refine ⟨_,U4 (Qa rfl) rfl,?_⟩;unfold Mm
 have hrd:YM 0 ((n:Nat):Int)=(UI n).map λk=>.int (k:Int):=by
  unfold YM
  have:((n:Int)-0).toNat=n:=by omega
  rw[this];apply JF;intro k _;rw[Uo]
 have hc:Zs (gN 15) (U3 oEq (Ki 11 (UN 15)) (UN 13)) (UN 15) (YM 0 ((n:Nat):Int)) (KJ [pb S,pb (.int at_),pb (.int 6),pb (.int 7),pb (.int 5),pb sz,pb dz,some (.own (cs.map int)),some (.own (ls.map Zc)),pb v9,pb v10,pb (.list (pl.map int)),some (.own (rs.map ZQ)),pb (.int (1+(j:Int))),x14]++UJ 1 none) []=some ((TY n pl (1+(j:Int))).map int):=by
  rw[hrd,Se (λd=>match d with | .int k=>decide (pl.getD k.toNat 0=1+(j:Int))|_=>false) (λd=>d) (λZ=>∃x,Z=[pb S,pb (.int at_),pb (.int 6),pb (.int 7),pb (.int 5),pb sz,pb dz,none,none,pb v9,pb v10,pb (.list (pl.map int)),none,pb (.int (1+(j:Int))),Wn x14,x])]
  ·rw[Jj,List.map_id',List.filter_map]
   unfold TY;rw[QP]
   rfl
  ·rintro d hm Z ⟨x,rfl⟩
   obtain ⟨k,hk,rfl⟩:=Qr.mp hm;have hk:=Q7.mp hk;refine ⟨_,U4 (Qa rfl) rfl,Kk (K7 rfl (UU rfl) (N8 (by omega))) (UU rfl) Wf,λ_=>UU rfl,pb (.int k),?_⟩
   unfold KJ
   cases x14 with
   |none=>rfl
   |some sl=>cases sl <;> rfl
  ·exact ⟨none,rfl⟩
  ·rw[Qb,Qq,QC];omega
 have hlen:(cs.map int).length=n:=by rw[Qb,hcs]
 refine Kx (Yt (Ys (T4 (UZ (C8 rfl) U7) (by rw[hlen];exact So (by omega) (by omega))) hc) (Qa rfl) rfl) ?_
 generalize hrow:TY n pl (1+(j:Int))=row;apply KM
 case h1=>exact BY rfl (Z7 U7 (by decide)) rfl qm
 case h2=>
  intro hh;have hne:row≠[]:=by simpa using hh
  have hlx:oIx (.list (pl.map int)) (.int (-1))=some (.int (pl.getD 6 0)):=Bu (by
   rw[List.getLast?_eq_getElem?,Qb,hpl,Qd,Qe (show 7-1<pl.length by omega)]
   simp[List.getD,List.getElem?_eq_getElem (show 6<pl.length by omega)])
  obtain ⟨row',hix,hrow'⟩:∃row':List Int,oIx (.list [.list (row.map int),.list (row.map int).reverse]) (.int (pl.getD 6 0))=some (ZQ row')/\(row'=row∨row'=row.reverse):=by
   rcases hlast with e|e
   ·rw[e];exact ⟨row,rfl,.inl rfl⟩
   ·rw[e];exact ⟨row.reverse,by show some (UK (row.map int).reverse)=_;unfold ZQ;rw[List.map_reverse],.inr rfl⟩
  have hrl:(rs.map ZQ).length<1000000:=by rw[Qb];have:=g.few;omega
  refine ZW (W4 rfl (Kk (Z7 (UZ (Yh rfl rfl) (UZ (NO (UU rfl) U6 U6 (Xy (Vz U6))) U7)) (Qa rfl)) (K7 rfl (Vz U6) hlx) hix) rfl hrl rfl) ?_;refine ZB ⟨rs++[row'],pb (.int (1+(j:Int))),pb (.list (row.map int)),by rw[Qz];rfl,g.add ?_ ?_ ?_⟩
  ·rcases hrow' with e|e <;> rw[e]
   ·exact hne
   ·exact λz=>hne (List.reverse_eq_nil_iff.mp z)
  ·intro t ht
   rw[hrow];rcases hrow' with e|e <;> rw[e] at ht
   ·exact ht
   ·exact List.mem_reverse.mp ht
  ·have hnd:=ka n pl (1+(j:Int))
   rw[hrow] at hnd;rcases hrow' with e|e <;> rw[e]
   ·exact hnd
   ·exact (List.reverse_perm row).nodup_iff.mpr hnd
 case h3=>exact λ_=>K4 (ZB ⟨rs,_,_,rfl,g.next⟩)
def ST(S dz sz:D)(at_ n:Nat)(cs:List Int)(i:Nat)(Z:UR):Prop:=∃(ls:L3)(x9 x10 x11 x12 x13 x14:Option Sl),
 Z=[pb S,pb (.int at_),pb (.int 6),pb (.int 7),pb (.int 5),pb sz,pb dz,some (.own (cs.map int)),some (.own (ls.map Zc)),x9,x10,x11,x12,x13,x14]/\ls.length=i/\∀rs∈ls,Sd n rs
theorem jv{ns:List Int}{dz sz:D}{at_ n:Nat}{cs:List Int}{i:Nat}{m:Int}{d:D}{Z:UR}{Q:Out->Prop}(hns:ns.length<=1000)(hcs:cs.length=n)(hn:n<=6)(hm:m<=100)
  (hi:(YM 0 m)[i]?=some d) (h:ST (.list (ns.map int)) dz sz at_ n cs i Z) :
  ∃Z2,gN 9 d Z=some Z2/\Ho Ma Z2 (Sr (ST (.list (ns.map int)) dz sz at_ n cs (i+1)) Q):=by
 obtain ⟨ls,x9,x10,x11,x12,x13,x14,rfl,hl,hg⟩:=h;obtain ⟨rfl,hlt⟩:=Sh hi;refine ⟨_,U4 (Qa rfl) rfl,?_⟩;unfold Ma;obtain ⟨v,hv⟩:=La ns (at_+1+i) hns;have ev:((at_:Int)+1+(0+(i:Int)))=((at_+1+i:Nat):Int):=by omega
 rw[←ev] at hv;refine Kx (K0 (Ky (UZ (UU rfl) (UZ (Kk (Kk (UU rfl) U6 ZH) (UU rfl) ZH) U7)) rfl hv) (Qa rfl) rfl) ?_;obtain ⟨r,hF,pl,rfl,hpl,hpb⟩:=OB v (11*(at_:Int)+3*(0+(i:Int))+1) (sizes:=szP) DC (by decide)
 have hpl7:pl.length=7:=hpl;have hmul:KY (.list [.int (5+1)]) (.int 6)=some (.list ((UJ 6 6).map int)):=OD (by decide)
 have hadd:Kh (.list ((UJ 6 6).map int)) (.list [.int 2])=some (.list (szP.map int)):=XX (by decide)
 refine Kx (K0 (Ky (UZ (UU rfl) (UZ (Kk (Kk (Kk U6 (UU rfl) (Oj (by decide) (by decide))) (Kk U6 (UU rfl) (Oj (by decide) (by decide))) ZH) U6 ZH) (UZ (Kk (Kk (Z7 (UZ (Kk (UU rfl) U6 ZH) U7) (Qa rfl)) (UU rfl) hmul) (Z7 (UZ U6 U7) (Qa rfl)) hadd) U7))) rfl hF) (Qa rfl) rfl) ?_
 refine Kx (Yt (T5 U7 (Qa rfl)) (Qa rfl) rfl) ?_
 have hlast:pl.getD 6 0=0∨pl.getD 6 0=1:=by
  have e:pl[6]?=some pl[6]:=Qe (by omega)
  have:=hpb 6 pl[6] 2 e rfl
  have e2:pl.getD 6 0=pl[6]:=by simp[List.getD,e]
  rw[e2];omega
 apply KU;apply Yj (SR (.list (ns.map int)) dz sz at_ n cs pl ls (some (.pub (.int (0+(i:Int))))) (some (.pub (.int v))))
 case h1=>exact HS (UZ U6 (UZ (Kk (UU rfl) U6 ZH) U7)) (Gs (by decide) (by decide) (by decide) (by decide))
 case h0=>exact ⟨[],x13,x14,rfl,⟨Qy _,λ_ h=>(by cases h),λ_ h=>(by cases h),List.nodup_nil⟩⟩
 case hst=>exact λj d Z e h=>ql hcs hn hpl7 hlast e h
 case hend=>
  rintro Z ⟨rs,y13,y14,rfl,g⟩;refine KQ ?_;have hl5:(YM 1 (5+1)).length=5:=rfl;rw[hl5] at g;have hll:(ls.map Zc).length<1000000:=by rw[Qb];omega
  refine ZW (W4 rfl (Yh rfl rfl) rfl hll rfl) ?_;refine ZB ⟨ls++[rs],pb (.int (0+(i:Int))),pb (.int v),pb (.list (pl.map int)),pb (.list (rs.map ZQ)),y13,y14,by rw[Qz];rfl,by rw[Qj,hl];rfl,λx hx=>?_⟩
  rcases QW.mp hx with z|z
  ·exact hg x z
  ·rw[Ja.mp z];exact g.good
theorem j9{ns:List Int}(hns:ns.length<=1000)(at_:Nat):∃r,Tj [.list (ns.map int),.int at_,.int 6,.int 7,.int 5]=some r/\∃cs ls,r=Ko cs ls/\Good cs ls:=by
 obtain ⟨v,hv⟩:=La ns at_ hns;obtain ⟨r,hF,ds,rfl,hl,hd⟩:=OB v at_ (sizes:=sz6) DD (by decide)
 have hl8:ds.length=8:=hl
 have at':∀(j:Nat)(k z:Int),k=j->sz6[j]?=some z->∃d,oIx (.list (ds.map int)) (.int k)=some (.int d)/\ds[j]?=some d/\0<=d/\d<z:=λj k z hk hz=>by
  subst hk;have hj:j<ds.length:=by rw[hl];exact (Qg.mp hz).1
  have e:ds[j]?=some ds[j]:=Qe hj;obtain ⟨p0,p1⟩:=hd j ds[j] z e hz;exact ⟨ds[j],ZD (by rw[Qd,e];rfl),e,p0,p1⟩
 obtain ⟨d0,x0,e0,p0,q0⟩:=at' 0 0 6 rfl rfl;obtain ⟨d1,x1,e1,p1,q1⟩:=at' 1 1 7 rfl rfl;have hmul:KY (.list [.int 11]) (.int 6)=some (.list ((UJ 6 11).map int)):=OD (by decide)
 have hadd:Kh (.list [.int 6,.int 7]) (.list ((UJ 6 11).map int))=some (.list (sz6.map int)):=XX (by decide)
 obtain ⟨n,hn⟩:∃n:Nat,1+d0=n:=⟨(1+d0).toNat,by omega⟩
 refine WW (Z:=[pb (.list (ns.map int)),pb (.int at_),pb (.int 6),pb (.int 7),pb (.int 5),none,none,none,none,none,none,none,none,none,none]) rfl ?_;unfold Rb;refine Kx (K0 (Kk (Z7 (UZ (UU rfl) (UZ (UU rfl) U7)) (Qa rfl)) (Kk (Z7 (UZ U6 U7) (Qa rfl)) (UU rfl) hmul) hadd) (Qa rfl) rfl) ?_;refine Kx (K0 (Ky (UZ (Ky (UZ (UU rfl) (UZ (UU rfl) U7)) rfl hv) (UZ (UU rfl) (UZ (UU rfl) U7))) rfl hF) (Qa rfl) rfl) ?_
 have hcut:DL.cutD (ds.map int) (some 2) (some (3+d0))=((ds.drop 2).take n).map int:=by
  rw[MC (by decide) (by omega) (by omega)]
  have:(3+d0).toNat-(2:Int).toNat=n:=by omega
  rw[this];rfl
 have hrowl:((ds.drop 2).take n).length=n:=by rw[Q3,Jl,hl8];omega
 have each:∀z∈(ds.drop 2).take n,0<=z/\z<11:=λz hz=>by
  have hz:=List.mem_of_mem_take hz;obtain ⟨k,hk,e⟩:=List.getElem_of_mem hz;rw[Jl,hl8] at hk;rw[List.getElem_drop] at e;have e2:ds[2+k]?=some z:=by rw[←e];exact Qe _
  refine hd (2+k) z 11 e2 ?_
  have:k=0∨k=1∨k=2∨k=3∨k=4∨k=5:=by omega
  rcases this with rfl|rfl|rfl|rfl|rfl|rfl <;> rfl
 let cs:List Int:=((ds.drop 2).take n).map λz=>tab.getD z.toNat 0
 have hcl:cs.length=n:=by show (List.map _ _).length=n;rw[Qb,hrowl]
 have hc:∀xs:List (Option Sl),KJ xs=xs->xs.length=15->Zs (gN 15) (U1 true) (U3 oIx (KR (UY (U1 (.int 1)) (UY (U1 (.int 1)) (UY (U1 (.int 2)) (UY (U1 (.int 0)) (UY (U1 (.int 3)) (UY (U1 (.int 7)) (UY (U1 (.int 1)) (UY (U1 (.int 4)) (UY (U1 (.int 5)) (UY (U1 (.int 6)) (UY (U1 (.int 1)) (UT))))))))))))) (UN 15)) (((ds.drop 2).take n).map int) (KJ xs++UJ 1 none) []=some (cs.map int):=by
  intro xs hx hxl;rw[hx,Se (λ_=>true) (λd=>match d with | .int z=>.int (tab.getD z.toNat 0)|_=>.none) (λZ=>∃x,Z=xs++[x])]
  ·rw[JN.mpr (λ_ _=>rfl),Jj,QP]
   show _=some ((((ds.drop 2).take n).map λz=>tab.getD z.toNat 0).map int);rw[QP]
   rfl
  ·rintro d hm Z ⟨x,rfl⟩
   obtain ⟨z,hz,rfl⟩:=Qr.mp hm;have ht:=LJ (each z hz).1 (each z hz).2
   have hset:(xs++[x]).set 15 (some (Sl.pub (.int z)))=xs++[pb (.int z)]:=by
    rw[List.set_append_right _ _ (by omega),hxl];rfl
   have hget:(xs++[some (Sl.pub (.int z))])[15]?=some (some (Sl.pub (.int z))):=by
    rw[Qw (by omega),hxl];rfl
   refine ⟨_,U4 (by rw[Qj,hxl];exact Qa rfl) hset,rfl,λ_=>?_,pb (.int z),?_⟩
   ·exact Kk (Z7 (UZ U6 (UZ U6 (UZ U6 (UZ U6 (UZ U6 (UZ U6 (UZ U6 (UZ U6 (UZ U6 (UZ U6 (UZ U6 U7))))))))))) (Qa rfl)) (UU hget) ht.1
   ·unfold KJ at hx ⊢
    rw[Qz,hx];rfl
  ·exact ⟨none,rfl⟩
  ·rw[Qb,hrowl,QC];omega
 refine Kx (Yt (Ys (Yl (VJ (UU rfl) (Xy U6) (Xy (Kk U6 (K7 rfl U6 x0) ZH)) (by rw[VR,hcut])) YZ) (hc _ rfl rfl)) (Qa rfl) rfl) ?_
 refine Kx (Yt (T5 U7 (Qa rfl)) (Qa rfl) rfl) ?_;apply KU;apply Yj (ST (.list (ns.map int)) (.list (ds.map int)) (.list (sz6.map int)) at_ n cs)
 case h1=>exact T4 (UZ (Kk U6 (K7 rfl U6 x1) ZH) U7) (So (by omega) (by omega))
 case h0=>exact ⟨[],_,_,_,_,_,_,rfl,rfl,λ_ h=>by cases h⟩
 case hst=>exact λi d Z e h=>jv hns hcl (by omega) (by omega) e h
 case hend=>
  rintro Z ⟨ls,y9,y10,y11,y12,y13,y14,rfl,hll,hg⟩;rw[Vc] at hll;refine KQ (KI (Xs (UZ (Yh rfl rfl) (UZ (Yh rfl rfl) U7)) (Qa rfl)) ⟨_,rfl,cs,ls,rfl,?_⟩)
  exact ⟨by omega,by omega,λc hc=>by
   obtain ⟨z,hz,rfl⟩:=Qr.mp hc;exact (LJ (each z hz).1 (each z hz).2).2,by omega,by omega,λrs hrs=>by rw[hcl];exact hg rs hrs⟩
theorem Hh{x:D}{m:Nat}(h:m<=1000):KY (.list [x]) (.int m)=some (.list (UJ m x)):=by
 rw[OD ⟨by omega,by omega,by rw[Qv];show 1*m<=_;omega⟩,Qv]
 congr 2
 induction m with
 |zero=>rfl
 |succ m ih=>rw[QS,QN,ih (by omega)];rfl
def Zg(t:Int)(rs:List (List Int)):Nat:=if rs.findIdx (λr=>r.contains t)<rs.length then rs.findIdx (λr=>r.contains t)+1 else 0
theorem Bt(a b:Int):UQ (.int a) (.int b)=(a==b):=by simp[UQ]
theorem N7(t:Int)(r:List Int):oIn (.int t) (ZQ r)=some (r.contains t):=by
 have h1:UO (r.map int)=true:=by
  induction r with
  |nil=>rfl
  |cons x r ih=>rw[QA];unfold UO;rw[ih];rfl
 unfold oIn ZQ;dsimp only;rw[Ql ⟨rfl,h1,J8 _⟩]
 congr 1
 rw[List.any_map];clear h1
 induction r with
 |nil=>rfl
 |cons x r ih=>
  rw[List.any_cons,ih,List.contains_cons]
  congr 1
  show UQ (.int x) (.int t)=(t==x);rw[Bt];exact JH.2 ⟨λh=>beq_iff_eq.2 (beq_iff_eq.1 h).symm,λh=>beq_iff_eq.2 (beq_iff_eq.1 h).symm⟩
theorem FH{t:Int}{rs:List (List Int)}{i:Nat}{r:List Int}(hr:rs[i]?=some r)(h:r.contains t=true)(hb:∀j r,j<i->rs[j]?=some r->r.contains t=false):Zg t rs=1+i:=by
 obtain ⟨hi,e⟩:=List.getElem?_eq_some_iff.1 hr;have hf:rs.findIdx (λr=>r.contains t)=i:=(List.findIdx_eq hi).2 ⟨by rw[e];exact h,λj hj=>hb j _ hj (Qe (Nat.lt_trans hj hi))⟩
 unfold Zg;rw[hf,Ql hi,Nat.add_comm]
theorem FG{t:Int}{rs:List (List Int)}(hb:∀j r,j<rs.length->rs[j]?=some r->r.contains t=false):Zg t rs=0:=by
 have hf:rs.findIdx (λr=>r.contains t)=rs.length:=List.findIdx_eq_length.2 λr hr=>by
  obtain ⟨j,hj,e⟩:=List.mem_iff_getElem.1 hr;exact hb j r hj (by rw[Qe hj,e])
 unfold Zg;rw[hf,Qs (Jw _)]
theorem FO(t:Int)(rs:List (List Int)):Xk [Zc rs,.int t]=some (.int (Zg t rs:Nat)):=by
 refine Zp (Z:=[pb (Zc rs),pb (.int t),none,none]) rfl ?_;unfold V5;apply KU;apply Yj (λi Z=>(∃x2 x3,Z=[pb (Zc rs),pb (.int t),x2,x3])/\∀j r,j<i->rs[j]?=some r->r.contains t=false)
 case h1=>exact Gr (UZ (UU rfl) U7) Fv
 case h0=>exact ⟨⟨_,_,rfl⟩,λj r h=>absurd h (JU _)⟩
 case hst=>
  rintro i d Z hi ⟨⟨x2,x3,rfl⟩,hb⟩;obtain ⟨x,hx,rfl⟩:=Xo hi;rw[Qd] at hx
  cases hr:rs[i]? with
  |none=>rw[hr] at hx;cases hx
  |some r=>
   rw[hr] at hx;cases hx;refine ⟨_,KK rfl (Kc (U4 (Qa rfl) rfl) (Kc (U4 (Qa rfl) rfl) KL)),?_⟩;unfold Mq;apply KM
   case h1=>exact ZO rfl (UU rfl) (N7 t r)
   case h2=>
    intro hh;refine KI (UU rfl) (VD ?_);rw[FH hr hh hb];exact ⟨rfl⟩
   case h3=>
    intro hh;refine K4 (ZB ⟨⟨_,_,rfl⟩,λj r' hj hr'=>?_⟩);rcases Nat.lt_succ_iff_lt_or_eq.1 hj with h|rfl
    ·exact hb j r' h hr'
    ·rw[hr] at hr';cases hr';exact hh
 case hend=>
  rintro Z ⟨⟨x2,x3,rfl⟩,hb⟩;rw[YQ,Qb] at hb;refine KQ ?_;rw[FG hb];exact KI U6 rfl
def Kf:Option Int->D
 |none=>.none
 |some t=>.int t
def Kl(ws:LO):D:=.list (ws.map Kf)
structure Deal(cs:List Int)(ls:L3)(ws:LO):Prop where
 len:ws.length=ls.length
 wish:∀(i:Nat) t rs,ws[i]?=some (some t)->ls[i]?=some rs->t∈rs.flatten
 cop:∀(k:Nat) c,cs[k]?=some c->((ws.count (some (k:Int)):Nat):Int)<=c
theorem OC{t:Int}{rs:List (List Int)}(h:t∈rs.flatten):Zg t rs≠0:=by
 obtain ⟨r,hr,ht⟩:=Up.mp h
 have:rs.findIdx (λr=>r.contains t)<rs.length:=List.findIdx_lt_length_of_exists ⟨r,hr,by simpa using ht⟩
 unfold Zg;rw[Ql this];omega
theorem BF(ws:LO):UO (ws.map Kf)=true:=Oy λx hx=>by
 obtain ⟨y,_,rfl⟩:=Qr.mp hx
 cases y <;> rfl
theorem N6(a b:Option Int):UQ (Kf a) (Kf b)=decide (a=b):=by
 rw[JH]
 cases a <;> cases b <;> simp[Kf,UQ]
theorem NA{ws:LO}{k:Int}:VO (Kl ws) (.int k)=some (.int (ws.count (some k):Nat)):=by
 unfold Kl VO;dsimp only;rw[if_pos ⟨rfl,BF ws,by simp[UP]⟩]
 congr 3
 induction ws with
 |nil=>rfl
 |cons w r ih=>
  rw[QA,List.countP_cons,Jz,ih]
  congr 1
  have:=N6 w (some k)
  have e:Kf (some k)=.int k:=rfl;rw[e] at this;rw[this]
  cases w with
  |none=>simp
  |some z=>simp
theorem BE{f:M (List D)}{k:Nat}{s:D->UR->Option UR}{t:M Bool}{g:M D}{Z Z1:UR}{ds es:List D}(h1:f Z=.ok ds Z1)(h2:Zs s t g ds (Yr Z1++UJ k none) []=some es)(h3:es.all flat=true):P3 f k s t g Z=.ok es Z1:=by
 unfold P3;rw[h1];dsimp only;rw[h2];dsimp only;rw[if_pos h3]
theorem Nx{cs:List Int}{ls:L3}{rs:List (List Int)}{i:Nat}(hi:ls[i]?=some rs)(hl:rs.flatten.length<64):XF [Ko cs ls,.int i]=some (.list ((YD rs.flatten).map int)):=by
 refine Zp (Z:=[pb (Ko cs ls),pb (.int i)]) rfl ?_;unfold S8
 have i1:oIx (Ko cs ls) (.int 1)=some (.list (ls.map Zc)):=ZD (j:=1) rfl;have i2:oIx (.list (ls.map Zc)) (.int i)=some (Zc rs):=ZD (by rw[Qd,hi];rfl)
 have hs:Pn [Zc rs,.list []]=some (.list (rs.flatten.map int)):=by
  have e:Zc rs=.list ((rs.map λr=>r.map int).map UK):=by unfold Zc;rw[QP];rfl
  have e2:(rs.map λr=>r.map int).flatten=rs.flatten.map int:=by rw[List.map_flatten]
  rw[e];unfold Pn;dsimp only;rw[jE];dsimp only;rw[e2,Ql (by rw[Qb];omega)]
 exact KI (Yg (UZ (Yg (UZ (Kk (K7 rfl U6 i1) (UU rfl) i2) (UZ (Z7 U7 (Qa rfl)) U7)) hs) U7) (FR hl)) rfl
structure SD(cs:List Int)(ls:L3)(lf:List Int)(ws:LO):Prop where
 wish:∀(i:Nat) t rs,ws[i]?=some (some t)->ls[i]?=some rs->t∈rs.flatten
 len:lf.length=cs.length
 cop:∀(k:Nat) c,cs[k]?=some c->lf[k]?=some (c-((ws.count (some (k:Int)):Nat):Int))/\0<=c-((ws.count (some (k:Int)):Nat):Int)
theorem FF{ls:L3}{ws:LO}{o:Option Int}{rs:List (List Int)}(h:∀(i:Nat) t rs,ws[i]?=some (some t)->ls[i]?=some rs->t∈rs.flatten)(hi:ls[ws.length]?=some rs)(ho:∀t,o=some t->t∈rs.flatten) :
  ∀(i:Nat) t rs,(ws++[o])[i]?=some (some t)->ls[i]?=some rs->t∈rs.flatten:=by
 intro j t rs' e1 e2
 by_cases hj:j<ws.length
 ·rw[Qx hj] at e1;exact h j t rs' e1 e2
 ·by_cases hj2:j=ws.length
  ·subst hj2
   rw[hi] at e2;cases e2;rw[Qw (Qy _),Nat.sub_self,List.getElem?_cons_zero] at e1;cases e1;exact ho t rfl
  ·rw[QD (by rw[Qj,Ji];omega)] at e1
   cases e1
theorem SD.none{cs:List Int}{ls:L3}{lf:List Int}{ws:LO}{rs:List (List Int)}(d:SD cs ls lf ws)(hi:ls[ws.length]?=some rs):SD cs ls lf (ws++[Option.none]) where
 wish:=FF d.wish hi λt e=>by cases e
 len:=d.len
 cop:=λk c e=>by rw[List.count_append];simpa using d.cop k c e
theorem SD.give{cs:List Int}{ls:L3}{lf:List Int}{ws:LO}{rs:List (List Int)}{t v:Int}(d:SD cs ls lf ws)(hi:ls[ws.length]?=some rs)(ht:t∈rs.flatten)(h0:0<=t)(hv:lf[t.toNat]?=some v)(hp:0<v):SD cs ls (lf.set t.toNat (v-1)) (ws++[some t]) where
 wish:=FF d.wish hi λt' e=>by cases e;exact ht
 len:=by rw[QY];exact d.len
 cop:=λk c e=>by
  obtain ⟨h1,h2⟩:=d.cop k c e;rw[List.count_append]
  by_cases hk:t=(k:Int)
  ·subst hk
   rw[Qv] at hv ⊢;rw[h1] at hv;cases hv;have hl:k<lf.length:=(Qg.mp h1).1;rw[QJ hl];simp only[List.count_singleton_self];refine ⟨by congr 1;omega,by omega⟩
  ·have hne:t.toNat≠k:=by omega
   rw[Qu hne]
   have:List.count (some (k:Int)) [some t]=0:=by
    rw[List.count_eq_zero];intro z
    have:=Ja.mp z
    exact hk (QX this).symm
   rw[this];exact ⟨h1,h2⟩
theorem Po{os:LO}{k:Nat}(h:k<os.length):oIx (.list (os.map Kf)) (.int k)=some (Kf os[k]):=ZD (by rw[Qd,Qe h];rfl)
theorem Gj{ws:LO}{o:Option Int}:(ws++[o]).map Kf=ws.map Kf++[Kf o]:=by rw[Qz];rfl
def SS(cs:List Int)(ls:L3)(c s:D)(dg:List Int)(i:Nat)(Z:UR):Prop:=∃(lf:List Int)(ws:LO)(x6 x7 x8:Option Sl),
 Z=[pb (Ko cs ls),pb c,pb s,some (.own (lf.map int)),pb (.list (dg.map int)),some (.own (ws.map Kf)),x6,x7,x8]/\ws.length=i/\SD cs ls lf ws
theorem ju{cs:List Int}{ls:L3}{c s:D}{dg:List Int}{i:Nat}{d:D}{Z:UR}{Q:Out->Prop}(g:Good cs ls)(hdl:dg.length=ls.length)(hd0:∀x∈dg,0<=x)(hi:(YM 0 ls.length)[i]?=some d)(h:SS cs ls c s dg i Z) :
  ∃Z2,gN 6 d Z=some Z2/\Ho Mo Z2 (Sr (SS cs ls c s dg (i+1)) Q):=by
 obtain ⟨lf,ws,x6,x7,x8,rfl,hw,dl⟩:=h;obtain ⟨rfl,hlt⟩:=Sh hi;have hil:i<ls.length:=by omega
 have hls:ls[i]?=some ls[i]:=Qe hil;have gr:=g.rk _ (Qp hls);have hfl:=Mx gr;refine ⟨_,U4 (Qa rfl) rfl,?_⟩;unfold Mo;rw[Uo];generalize hrs:ls[i]=rs at *;have hmem:∀t∈YD rs.flatten,t∈rs.flatten:=λt ht=>(Wt _).mem_iff.mp ht
 have hthere:∀t∈rs.flatten,0<=t/\t<lf.length:=λt ht=>by
  obtain ⟨r,hr,htr⟩:=Up.mp ht
  have:=gr.there r hr t htr
  rw[dl.len];exact this
 let L:=(YD rs.flatten).filter λt=>decide (0<lf.getD t.toNat 0)
 have hc:Zs (gN 9) (U3 (oIB λi j=>decide (j<i)) (Ki 3 (UN 9)) (U1 (.int 0))) (UN 9) ((YD rs.flatten).map int) (Yr [pb (Ko cs ls),pb c,pb s,some (.own (lf.map int)),pb (.list (dg.map int)),some (.own (ws.map Kf)),pb (.int (i:Int)),x7,x8]++UJ 1 none) []=some (L.map int):=by
  rw[Se (λd=>match d with | .int t=>decide (0<lf.getD t.toNat 0)|_=>false) (λd=>d) (λZ=>∃x y7 y8,Z=[pb (Ko cs ls),pb c,pb s,pb (.list (lf.map int)),pb (.list (dg.map int)),pb (.list (ws.map Kf)),pb (.int (i:Int)),y7,y8,x])]
  ·rw[Jj,List.map_id',List.filter_map]
   rfl
  ·rintro d hm Z ⟨x,y7,y8,rfl⟩
   obtain ⟨t,ht,rfl⟩:=Qr.mp hm;obtain ⟨h0,h1⟩:=hthere t (hmem t ht);obtain ⟨k,rfl⟩:∃k:Nat,t=k:=⟨t.toNat,by omega⟩
   refine ⟨_,U4 (Qa rfl) rfl,Kk (K7 rfl (UU rfl) (N8 (by omega))) U6 rfl,λ_=>UU rfl,pb (.int k),Wn y7,Wn y8,rfl⟩
  ·exact ⟨none,NK x7,NK x8,rfl⟩
  ·rw[Qb,QC,(Wt _).length_eq];have:=g.c6;omega
 have hLl:L.length<=6:=by
  have:L.length<=(YD rs.flatten).length:=Ug _ _
  rw[(Wt _).length_eq] at this;have:=g.c6;omega
 have hadd:Kh (.list (L.map int)) (.list [.none])=some (.list ((L.map some++[none]).map Kf)):=by
  rw[XX (by rw[Qb];show L.length+1<=_;omega),Qz,QP];rfl
 refine Kx (K0 (Kk (KP (BE (Yl (Ky (UZ (UU rfl) (UZ (UU rfl) U7)) rfl (Nx (cs:=cs) hls (by have:=g.c6;omega))) YZ) hc (by rw[List.all_map,Jn];exact λ_ _=>rfl))) (Z7 (UZ U6 U7) (Qa rfl)) hadd) (Qa rfl) rfl) ?_
 have hol:(L.map some++[none]:LO).length=L.length+1:=by rw[Qj,Qb];rfl
 have hlen:Ku [.list ((L.map some++[none]:LO).map Kf)]=some (.int ((L.length+1:Nat):Int)):=by rw[ZR,Qb,hol]
 have hdi:dg[i]?=some dg[i]:=Qe (by omega)
 have hx0:=hd0 _ (Qp hdi);have hix:oIx (.list (dg.map int)) (.int (i:Int))=some (.int dg[i]):=ZD (by rw[Qd,hdi];rfl)
 have hm0:0<=dg[i] % ((L.length+1:Nat):Int):=Uf _ (by omega)
 have hm1:dg[i] % ((L.length+1:Nat):Int)<((L.length+1:Nat):Int):=JQ _ (by omega)
 obtain ⟨k,hk⟩:∃k:Nat,dg[i] % ((L.length+1:Nat):Int)=k:=⟨(dg[i] % ((L.length+1:Nat):Int)).toNat,by omega⟩
 have hkl:k<(L.map some++[none]:LO).length:=by rw[hol];omega
 have hpick:=Po (os:=L.map some++[none]) hkl;rw[←hk] at hpick;generalize ho:(L.map some++[none]:LO)[k]=o at hpick;refine Kx (K0 (K7 rfl (Kk (K7 rfl (UU rfl) hix) (Ye rfl hlen) (Wp (by omega))) hpick) (Qa rfl) rfl) ?_
 have hwl:(ws.map Kf).length<1000000:=by rw[Qb];have:=g.l7;omega
 have hls':ls[ws.length]?=some rs:=by rw[hw];exact hls
 cases o with
 |none=>
  apply KU;apply KM
  case h1=>exact Lm (UU rfl) rfl
  case h2=>intro hh;cases hh
  case h3=>
   intro _;refine K4 (KQ ?_);refine ZW (W4 rfl (UU rfl) rfl hwl rfl) ?_;exact ZB ⟨lf,ws++[none],_,_,_,by rw[Gj (ws:=ws)];rfl,by rw[Qj,hw];rfl,dl.none hls'⟩
 |some t=>
  have htL:t∈L:=by
   have hm:some t∈(L.map some++[none]:LO):=ho ▸ Jq hkl;rcases QW.mp hm with z|z
   ·obtain ⟨t',h1,h2⟩:=Qr.mp z
    cases h2;exact h1
   ·cases Ja.mp z
  obtain ⟨htm,htp⟩:=Us.mp htL;have htf:=hmem t htm;obtain ⟨h0,h1⟩:=hthere t htf;have hv:lf[t.toNat]?=some lf[t.toNat]:=Qe (by omega)
  have hvd:lf.getD t.toNat 0=lf[t.toNat]:=by simp[List.getD,hv]
  have hpos:0<lf[t.toNat]:=by rw[hvd] at htp;simpa using htp
  have hvx:oIx (.list (lf.map int)) (.int t)=some (.int lf[t.toNat]):=E2 h0 (by rw[Qd,hv];rfl)
  apply KU;apply KM
  case h1=>exact Lm (UU rfl) rfl
  case h2=>
   intro _;refine ZW (Sc (Kk (OX rfl (UU rfl) rfl hvx) U6 Xp) rfl (UU rfl) rfl ⟨h0,by rw[Qb];exact h1⟩ rfl) ?_
   refine KQ ?_;refine ZW (W4 rfl (UU rfl) rfl hwl rfl) ?_;exact ZB ⟨lf.set t.toNat (lf[t.toNat]-1),ws++[some t],_,_,_,by rw[Gj (ws:=ws),←MD];rfl,by rw[Qj,hw];rfl,dl.give hls' htf h0 hv hpos⟩
  case h3=>intro hh;cases hh
theorem jt{cs:List Int}{ls:L3}(g:Good cs ls)(c s:Int):∃r,Th [Ko cs ls,.int c,.int s]=some r/\∃ws,r=Kl ws/\Deal cs ls ws:=by
 refine WW (Z:=[pb (Ko cs ls),pb (.int c),pb (.int s),none,none,none,none,none,none]) rfl ?_;unfold S6;have i0:oIx (Ko cs ls) (.int 0)=some (.list (cs.map int)):=ZD (j:=0) rfl;have i1:oIx (Ko cs ls) (.int 1)=some (.list (ls.map Zc)):=ZD (j:=1) rfl;have hlen:Ku [.list (ls.map Zc)]=some (.int ls.length):=by rw[ZR,Qb]
 refine Kx (Yt (Zq (UZ (K7 rfl U6 i0) U7) (Y5 (show Wa [.list (cs.map int)]=some (cs.map int) from rfl))) (Qa rfl) rfl) ?_
 have hmul:KY (.list [.int 61]) (.int ls.length)=some (.list ((UJ ls.length (61:Int)).map int)):=by
  rw[OD ⟨by omega,by have:=g.l7;omega,by show 1*_<=_;have:=g.l7;omega⟩]
  congr 2
  rw[Qv];generalize ls.length=n
  induction n with
  |zero=>rfl
  |succ n ih=>rw[QS,QN,ih,QS,QA];rfl
 obtain ⟨r,hF,dg,rfl,hdl,hdb⟩:=OB c s (sizes:=UJ ls.length (61:Int)) (λx hx=>by rw[(Uv.mp hx).2];decide) (by rw[QE];have:=g.l7;omega)
 rw[QE] at hdl;refine Kx (K0 (Ky (UZ (UU rfl) (UZ (UU rfl) (UZ (Kk (Z7 (UZ U6 U7) (Qa rfl)) (Yg (UZ (K7 rfl U6 i1) U7) hlen) hmul) U7))) rfl hF) (Qa rfl) rfl) ?_;refine Kx (Yt (T5 U7 (Qa rfl)) (Qa rfl) rfl) ?_;apply KU;apply Yj (SS cs ls (.int c) (.int s) dg)
 case h1=>exact T4 (UZ (Yg (UZ (K7 rfl U6 i1) U7) hlen) U7) (So (by have:=g.l7;omega) (by omega))
 case h0=>exact ⟨cs,[],_,_,_,rfl,rfl,⟨λ_ _ _ h=>(by cases h),rfl,λk c e=>by
  have:=g.c7 c (Qp e)
  simp only[List.count_nil];exact ⟨by rw[e];congr 1;omega,by omega⟩⟩⟩
 case hst=>exact λi d Z e h=>ju g hdl (λx hx=>by
  obtain ⟨j,hj,e⟩:=JY.mp hx;exact (hdb j x 61 (by rw[Qe hj,e]) (by rw[QB,Ql (by omega)])).1) e h
 case hend=>
  rintro Z ⟨lf,ws,x6,x7,x8,rfl,hw,dl⟩;rw[Vc] at hw;refine KQ (KI (Yh rfl rfl) ⟨_,rfl,ws,rfl,⟨by omega,dl.wish,λk c e=>by have:=(dl.cop k c e).2;omega⟩⟩)
theorem XM{s:D->UR->Option UR}{t:M Bool}{g:M D}(I:UR->Prop):∀(ds qs:List D)(Z:UR)(es:List D),qs.length=ds.length ->
  (∀(i:Nat) d e,ds[i]?=some d->qs[i]?=some e->∀Z,I Z->∃Z1,s d Z=some Z1/\t Z1=.ok true Z1/\g Z1=.ok e Z1/\I (KJ Z1))->I Z->es.length+ds.length<=1000000->Zs s t g ds Z es=some (es++qs)
 |[],[],Z,es,_,_,_,_=>by rw[Zs,Q9]
 |d::r,e::q,Z,es,hl,st,h0,hz=>by
  obtain ⟨Z1,e1,e2,e3,h1⟩:=st 0 d e rfl rfl Z h0;rw[QF] at hz;rw[Zs,e1];dsimp only;rw[e2];dsimp only;rw[Ql rfl,e3];dsimp only;rw[if_pos (by omega),XM I r q (KJ Z1) (es++[e]) (by simpa using hl) (λi d' e' x y=>st (i+1) d' e' (by simpa using x) (by simpa using y)) h1 (by rw[List.length_append,List.length_singleton];omega),List.append_assoc]
  rfl
def rg(rs:List (List Int)):Option Int->Int
 |none=>0
 |some t=>(Zg t rs:Nat)
def Kb(ls:L3)(ws:LO):List Int:=List.zipWith rg ls ws
def lng(ls:L3):Nat:=(most (ls.map λrs=>(rs.length:Int))).toNat
def KB(L:Nat)(got:List Int):List Int:=(UI L).map (λr:Nat=>((got.count (1+(r:Int)):Nat):Int))++[((got.count 0:Nat):Int)]
def Wd(cs:List Int)(ws:LO):List Int:=(UI cs.length).map λk:Nat=>cs.getD k 0-((ws.count (some (k:Int)):Nat):Int)
theorem N5{ls:L3}(h:1<=ls.length):most (ls.map λrs=>(rs.length:Int))=(lng ls:Nat):=by
 have hm:most (ls.map λrs=>(rs.length:Int))∈ls.map λrs=>(rs.length:Int):=Nf (by rw[Qb];omega)
 obtain ⟨rs,_,e⟩:=Qr.mp hm;unfold lng;omega
theorem NP{ls:L3}{rs:List (List Int)}(h:rs∈ls):rs.length<=lng ls:=by
 have h1:((rs.length:Nat):Int)<=most (ls.map λrs=>(rs.length:Int)):=Mc (Qr.mpr ⟨rs,h,rfl⟩);have h2:=N5 (ls:=ls) (List.length_pos_of_mem h);omega
theorem Oe{ls:L3}{n:Nat}(h1:1<=ls.length)(h:∀rs∈ls,rs.length<=n):lng ls<=n:=by
 have hm:most (ls.map λrs=>(rs.length:Int))∈ls.map λrs=>(rs.length:Int):=Nf (by rw[Qb];omega)
 obtain ⟨rs,hr,e⟩:=Qr.mp hm
 have:=h rs hr
 unfold lng;omega
theorem Nw(t:Int)(rs:List (List Int)):Zg t rs<=rs.length:=by
 unfold Zg
 split <;> omega
theorem j8(rs:List (List Int)):Xk [Zc rs,.none]=some (.int 0):=by
 refine Zp (Z:=[pb (Zc rs),some (.pub .none),none,none]) rfl ?_;unfold V5;apply KU;apply Yj (λi Z=>∃x2 x3,Z=[pb (Zc rs),some (.pub .none),x2,x3])
 case h1=>exact Gr (UZ (UU rfl) U7) Fv
 case h0=>exact ⟨_,_,rfl⟩
 case hst=>
  rintro i d Z hi ⟨x2,x3,rfl⟩;obtain ⟨x,hx,rfl⟩:=Xo hi;rw[Qd] at hx
  cases hr:rs[i]? with
  |none=>rw[hr] at hx;cases hx
  |some r=>
   rw[hr] at hx;cases hx;refine ⟨_,KK rfl (Kc (U4 (Qa rfl) rfl) (Kc (U4 (Qa rfl) rfl) KL)),?_⟩;unfold Mq
   have hin:oIn .none (ZQ r)=some false:=by
    have h1:UO (r.map int)=true:=Gk r;unfold oIn ZQ;dsimp only;rw[if_pos ⟨rfl,h1,by simp[UP]⟩]
    congr 1
    rw[List.any_map,List.any_eq_false];intro x _;simp[UQ]
   apply KM
   case h1=>exact ZO rfl (UU rfl) hin
   case h2=>intro hh;cases hh
   case h3=>exact λ_=>K4 (ZB ⟨_,_,rfl⟩)
 case hend=>
  rintro Z ⟨x2,x3,rfl⟩;exact KQ (KI U6 rfl)
theorem j7(o:Option Int)(rs:List (List Int)):Xk [Zc rs,Kf o]=some (.int (rg rs o)):=by
 cases o with
 |none=>exact j8 rs
 |some t=>exact FO t rs
section
variable{cs:List Int}{ls:L3}{ws:LO}
theorem TX:oIx (Ko cs ls) (.int 0)=some (.list (cs.map int)):=ZD (j:=0) rfl
theorem WZ:oIx (Ko cs ls) (.int 1)=some (.list (ls.map Zc)):=ZD (j:=1) rfl
theorem NL{i:Nat}{rs:List (List Int)}(h:ls[i]?=some rs):oIx (.list (ls.map Zc)) (.int i)=some (Zc rs):=ZD (by rw[Qd,h];rfl)
theorem FE(rs:List (List Int)):Ku [Zc rs]=some (.int rs.length):=by unfold Zc;rw[ZR,Qb]
theorem FN(g:Good cs ls):WP [Ko cs ls]=some (.int (lng ls:Nat)):=by
 refine Zp (Z:=[pb (Ko cs ls)]) rfl ?_;unfold RN;have hw:=Ox g
 have hc:Zs (gN 1) (U1 true) (ZM 1) (ls.map Zc) (KJ [pb (Ko cs ls)]++UJ 1 none) []=some ((ls.map λrs=>(rs.length:Int)).map int):=by
  refine XM (λZ=>∃x,Z=[pb (Ko cs ls),x]) _ _ _ _ (by rw[Qb,Qb,Qb]) ?_ ⟨none,rfl⟩ (by rw[Qb,QC];have:=g.l7;omega)
  rintro i d e hd he Z ⟨x,rfl⟩;rw[Qd] at hd;rw[Qd,Qd] at he
  cases hl:ls[i]? with
  |none=>rw[hl] at hd;cases hd
  |some rs=>
  rw[hl] at hd he;cases hd;cases he;exact ⟨_,U4 (Qa rfl) rfl,rfl,Ye rfl (FE rs),_,rfl⟩
 refine Kx (W9 (Ky (UZ (UU rfl) U7) rfl hw)) ?_;refine KI (Yg (UZ (KP (Ys (Yl (K7 rfl U6 WZ) YZ) hc)) U7) (Gu (by rw[Qb];have:=g.l1;omega))) ?_
 rw[N5 g.l1]
theorem MJ{i:Nat}{rs:List (List Int)}{o:Option Int}(h1:ls[i]?=some rs)(h2:ws[i]?=some o):(Kb ls ws)[i]?=some (rg rs o):=by
 unfold Kb;rw[Uh,h1,h2]
theorem Ed(g:Good cs ls)(hl:ws.length=ls.length):WO [Ko cs ls,Kl ws]=some (.list ((Kb ls ws).map int)):=by
 refine Zp (Z:=[pb (Ko cs ls),pb (Kl ws)]) rfl ?_;unfold RL;have hw:=Ox g;have hrl:(Kb ls ws).length=ls.length:=by unfold Kb;rw[J0];omega
 have hc:Zs (gT 2 (gNC (gN 2) (gNC (gN 3) (gN0)))) (U1 true) (U5 2 Xk (UY (U3 oIx (Ki 0 (U1 (.int 1))) (UN 2)) (UY (UN 3) (UT)))) (YY 0 (ws.map Kf)) (KJ [pb (Ko cs ls),pb (Kl ws)]++UJ 2 none) []=some ((Kb ls ws).map int):=by
  refine XM (λZ=>∃x y,Z=[pb (Ko cs ls),pb (Kl ws),x,y]) _ _ _ _ (by rw[Qb,YQ,Qb];omega) ?_ ⟨none,none,rfl⟩ (by rw[YQ,Qb,QC];have:=g.l7;omega)
  rintro i d e hd he Z ⟨x,y,rfl⟩;obtain ⟨z,hz,rfl⟩:=Xo hd;rw[Qd] at hz
  cases hwi:ws[i]? with
  |none=>rw[hwi] at hz;cases hz
  |some o=>
  rw[hwi] at hz;cases hz;have hil:i<ls.length:=by have:=(Qg.mp hwi).1;omega
  have hls:ls[i]?=some ls[i]:=Qe hil;rw[Qd,MJ hls hwi] at he;cases he;rw[QU];exact ⟨_,KK rfl (Kc (U4 (Qa rfl) rfl) (Kc (U4 (Qa rfl) rfl) KL)),rfl,Ky (UZ (Kk (K7 rfl U6 WZ) (UU rfl) (NL hls)) (UZ (UU rfl) U7)) rfl (j7 o ls[i]),_,_,rfl⟩
 refine Kx (W9 (Ky (UZ (UU rfl) U7) rfl hw)) ?_;exact KI (KP (Ys (XQ (UZ (UU rfl) U7) XN) hc)) rfl
theorem FM{xs:List Int}{k:Int}:VO (.list (xs.map int)) (.int k)=some (.int (xs.count k:Nat)):=by
 have:=NA (ws:=xs.map some) (k:=k)
 unfold Kl at this;rw[QP] at this
 have e:(xs.map some).count (some k)=xs.count k:=by
  rw[List.count,Ut,List.count]
  congr 1
 rw[e] at this;exact this
theorem kM(g:Good cs ls)(hl:ws.length=ls.length):TD [Ko cs ls,Kl ws]=some (.list ((KB (lng ls) (Kb ls ws)).map int)):=by
 refine Zp (Z:=[pb (Ko cs ls),pb (Kl ws),none]) rfl ?_;unfold RK;refine Kx (K0 (Ky (UZ (UU rfl) (UZ (UU rfl) U7)) rfl (Ed g hl)) (Qa rfl) rfl) ?_;have h5:lng ls<=5:=Oe g.l1 λrs hr=>(g.rk rs hr).few
 have hc:Zs (gN 3) (U1 true) (VM (UN 2) (UY (UN 3) (UT))) (YM 1 ((lng ls:Nat)+1)) (KJ [pb (Ko cs ls),pb (Kl ws),pb (.list ((Kb ls ws).map int))]++UJ 1 none) []=some (((UI (lng ls)).map (λr:Nat=>(((Kb ls ws).count (1+(r:Int)):Nat):Int))).map int):=by
  have hrl:(YM 1 (((lng ls:Nat):Int)+1)).length=lng ls:=by rw[Vc];omega
  refine XM (λZ=>∃x,Z=[pb (Ko cs ls),pb (Kl ws),pb (.list ((Kb ls ws).map int)),x]) _ _ _ _ (by rw[hrl,Qb,Qb,Qq]) ?_ ⟨none,rfl⟩ (by rw[hrl,QC];omega)
  rintro i d e hd he Z ⟨x,rfl⟩;obtain ⟨rfl,hlt⟩:=Sh hd;have hi:i<lng ls:=by omega
  rw[Qd,Qd,Qe (by rw[Qq];exact hi),JP] at he
  cases he;exact ⟨_,U4 (Qa rfl) rfl,rfl,Ol (UU rfl) (UZ (UU rfl) U7) FM,_,rfl⟩
 refine KI (Kk (KP (Ys (HS (UZ U6 (UZ (Kk (Ky (UZ (UU rfl) U7) rfl (FN g)) U6 ZH) U7)) (Gs (by omega) (by omega) (by decide) (by decide))) hc)) (Z7 (UZ (Ol (UU rfl) (UZ U6 U7) FM) U7) (Qa rfl)) (XX (by rw[Qb,Qb,Qq];show lng ls+1<=_;omega))) ?_
 unfold KB;rw[Qz]
 rfl
theorem kN(g:Good cs ls):TC [Ko cs ls,Kl ws]=some (.list ((Wd cs ws).map int)):=by
 refine Zp (Z:=[pb (Ko cs ls),pb (Kl ws)]) rfl ?_;unfold RJ;have hw:=Ox g
 have hc:Zs (gT 2 (gNC (gN 2) (gNC (gN 3) (gN0)))) (U1 true) (U3 Zk (UN 3) (VM (UN 1) (UY (UN 2) (UT)))) (YY 0 (cs.map int)) (KJ [pb (Ko cs ls),pb (Kl ws)]++UJ 2 none) []=some ((Wd cs ws).map int):=by
  refine XM (λZ=>∃x y,Z=[pb (Ko cs ls),pb (Kl ws),x,y]) _ _ _ _ (by unfold Wd;rw[Qb,Qb,Qq,YQ,Qb]) ?_ ⟨none,none,rfl⟩ (by rw[YQ,Qb,QC];have:=g.c6;omega)
  rintro i d e hd he Z ⟨x,y,rfl⟩;obtain ⟨z,hz,rfl⟩:=Xo hd;rw[Qd] at hz
  cases hci:cs[i]? with
  |none=>rw[hci] at hz;cases hz
  |some c=>
  rw[hci] at hz;cases hz;have hil:i<cs.length:=(Qg.mp hci).1;unfold Wd at he;rw[Qd,Qd,Qe (by rw[Qq];exact hil),JP] at he
  cases he;rw[QU];have e:cs.getD i 0=c:=by simp[List.getD,hci]
  dsimp only;rw[e];exact ⟨_,KK rfl (Kc (U4 (Qa rfl) rfl) (Kc (U4 (Qa rfl) rfl) KL)),rfl,Kk (UU rfl) (Ol (UU rfl) (UZ (UU rfl) U7) NA) Xp,_,_,rfl⟩
 refine Kx (W9 (Ky (UZ (UU rfl) U7) rfl hw)) ?_;exact KI (KP (Ys (XQ (UZ (K7 rfl U6 TX) U7) XN) hc)) rfl
end
def plc(L:Nat)(r:Int):Nat:=if r=0 then L else (r-1).toNat
def okR(L:Nat)(got:List Int):Prop:=∀r∈got,0<=r/\r<=L
theorem BD{L:Nat}{got:List Int}(h:okR L got){p:Nat}(hp:p<L+1):(KB L got)[p]?=some (((got.map (plc L)).count p:Nat):Int):=by
 unfold KB
 have key:∀r∈got,(plc L r=p ↔ r=if p=L then 0 else 1+(p:Int)):=λr hr=>by
  have:=h r hr
  unfold plc
  split <;> split <;> omega
 have cnt:(got.map (plc L)).count p=got.count (if p=L then 0 else 1+(p:Int)):=by
  rw[List.count,Ut,List.count];apply List.countP_congr;intro r hr
  have:=key r hr
  simp only[Function.comp,beq_iff_eq];exact this
 by_cases hpl:p=L
 ·subst hpl
  rw[Qw (by rw[Qb,Qq];exact Qy _),Qb,Qq,Nat.sub_self,cnt,Ql rfl]
  rfl
 ·rw[Qx (by rw[Qb,Qq];omega),Qd,Qe (by rw[Qq];omega),JP,cnt,Qs hpl]
  rfl
theorem VU(L:Nat)(got:List Int):(KB L got).length=L+1:=by
 unfold KB;rw[Qj,Qb,Qq];rfl
def WS(xs:List Int)(p:Nat)(d:Int):List Int:=xs.set p (xs.getD p 0+d)
theorem MT{xs:List Int}{p:Nat}{d:Int}:(WS xs p d).length=xs.length:=by unfold WS;rw[QY]
theorem FD{xs:List Int}{p q:Nat}{d v:Int}(h:xs[q]?=some v):(WS xs p d)[q]?=some (if q=p then v+d else v):=by
 unfold WS;have hq:q<xs.length:=(Qg.mp h).1
 by_cases e:q=p
 ·subst e
  rw[QJ hq,Ql rfl];simp[List.getD,h]
 ·rw[Qu (λz=>e z.symm),Qs e,h]
theorem FL:∀(qs:List Nat)(n:Nat),(∀q∈qs,q<n)->((UI n).map λp=>((qs.count p:Nat):Int)).sum=qs.length
 |[],n,_=>by
  have:((UI n).map λp=>((([]:List Nat).count p:Nat):Int))=(UI n).map λ_=>(0:Int):=by
   apply List.map_congr_left;intro p _;simp
  rw[this];clear this
  induction n with
  |zero=>rfl
  |succ n ih=>rw[JV,Qz,JM,ih (λq hq=>by cases hq)];rfl
 |q::r,n,h=>by
  have ih:=FL r n λx hx=>h x (Qk _ hx);have hq:=h q Qn
  have e:((UI n).map λp=>(((q::r).count p:Nat):Int)).sum=((UI n).map λp=>((r.count p:Nat):Int)).sum+((UI n).map λp=>if q=p then (1:Int) else 0).sum:=by
   clear ih hq h
   induction n with
   |zero=>rfl
   |succ n ih=>
    rw[JV,Qz,Qz,Qz,JM,JM,JM,ih];simp only[QA,Ul,Jd,List.sum_nil,Jz,beq_iff_eq]
    split <;> omega
  rw[e,ih]
  have one:∀m:Nat,((UI m).map λp=>if q=p then (1:Int) else 0).sum=if q<m then 1 else 0:=by
   intro m
   induction m with
   |zero=>simp
   |succ m ih=>
    rw[JV,Qz,JM,ih];simp only[QA,Ul,Jd,List.sum_nil]
    split <;> split <;> split <;> omega
  rw[one n,Ql hq,QF];omega
theorem Sa{ls:L3}{ws:LO}:okR (lng ls) (Kb ls ws):=λr hr=>by
 unfold Kb at hr;obtain ⟨i,hi,e⟩:=JY.mp hr;rw[List.getElem_zipWith] at e;rw[J0] at hi;have hm:ls[i]'(by omega)∈ls:=Jq _
 have h1:=NP hm;rw[←e]
 cases ws[i]'(by omega) with
 |none=>exact ⟨QZ _,by show (0:Int)<=_;omega⟩
 |some t=>
  have h2:=Nw t (ls[i]'(by omega))
  exact ⟨by show (0:Int)<=((Zg t _:Nat):Int);omega,by show ((Zg t _:Nat):Int)<=_;omega⟩
theorem Hg{op:Int->Int->Option D}{j:Nat}{f g:M D}{Z Z1 Z2 Z':UR}{ds0 ds es:List D}{a b k:Int}{d:D}{n:Nat}(h0:Z[j]?=some (some (.own ds0)))(h1:g Z=.ok (.int k) Z1)(h2:Z1[j]?=some (some (.own ds)))(h3:atI ds k=some (.int a))(h4:f Z1=.ok (.int b) Z2)(h5:op a b=some d)
  (h6:Z2[j]?=some (some (.own es))) (h7:ixN es.length k=some n) (h8:Z2.set j (some (.own (es.set n d)))=Z'):TW op j g f Z=.nx Z':=by
 unfold TW;rw[MB h0];dsimp only;unfold sB;rw[h1];dsimp only;rw[MB h2];dsimp only[Option.bind_some];rw[h3];dsimp only;rw[h4];dsimp only;rw[h5,MB h6];dsimp only;rw[h7];dsimp only;rw[h8]
theorem Cc{n p:Nat}(h:p<n):ixN n (p:Int)=some p:=by
 unfold ixN;rw[Ql (by omega),Ql (by omega),Qv]
theorem Cb{op:Int->Int->Option D}{j:Nat}{f g:M D}{Z Z':UR}{xs:List Int}{p:Nat}{d b:Int}(h0:Z[j]?=some (some (.own (xs.map int))))(h1:g Z=.ok (.int p) Z)(hp:p<xs.length)(h4:f Z=.ok (.int b) Z)(h5:∀a,op a b=some (.int (a+d)))
  (h8:Z.set j (some (.own ((WS xs p d).map int)))=Z'):TW op j g f Z=.nx Z':=by
 refine Hg (n:=p) h0 h1 h0 (a:=xs.getD p 0) (ZD ?_) h4 (h5 _) h0 (by rw[Qb];exact Cc hp) ?_
 ·rw[List.getElem?_map,List.getElem?_eq_getElem hp];simp[List.getD,List.getElem?_eq_getElem hp]
 ·rw[←h8,MD];rfl
theorem OS{a b:Option Int}:oEq (Kf a) (Kf b)=some (decide (a=b)):=by
 unfold oEq;rw[if_pos ⟨by cases a <;> rfl,by cases b <;> rfl,by cases a <;> simp[Kf,UP]⟩,N6]
theorem DB{a b:Option Int}:oNe (Kf a) (Kf b)=some (!decide (a=b)):=by
 unfold oNe;rw[if_pos ⟨by cases a <;> rfl,by cases b <;> rfl,by cases a <;> simp[Kf,UP]⟩,N6]
section
variable{cs:List Int}{ls:L3}{ws:LO}{a:Nat}{o had:Option Int}{rs:List (List Int)}{t:Int}
theorem lt_int{i j:Int}:(oIB λi j=>decide (i<j)) (.int i) (.int j)=some (decide (i<j)):=rfl
end
theorem DA{xs:List D}{a:Nat}(h:a<=xs.length):DL.cutD xs none (some (a:Int))=xs.take a:=by
 unfold DL.cutD HT.sIx;dsimp only;rw[Qs (by omega),Qv]
 have:min a xs.length=a:=by omega
 rw[this];simp
theorem BC{xs:List D}{a:Nat}(h:a<=xs.length):DL.cutD xs (some (a:Int)) none=xs.drop a:=by
 unfold DL.cutD HT.sIx;dsimp only;rw[Qs (by omega),Qv]
 have:min a xs.length=a:=by omega
 rw[this,List.take_of_length_le (by rw[Jl];omega)]
theorem FJ{s:D->UR->Option UR}{t:M Bool}{g:M D}(I:UR->Prop):∀(ds qs:List D)(Z:UR)(es:List D),qs.length=ds.length ->
  (∀(i:Nat) d e,ds[i]?=some d->qs[i]?=some e->∀Z,I Z->∃Z1,s d Z=some Z1/\t Z1=.ok true Z1/\g Z1=.ok e Z1/\I (KJ Z1))->I Z->es.length+ds.length<=1000000->∃Z',Xu s t g ds Z es=some (es++qs,Z')/\I Z'
 |[],[],Z,es,_,_,h0,_=>⟨Z,by rw[Xu,Q9],h0⟩
 |d::r,e::q,Z,es,hl,st,h0,hz=>by
  obtain ⟨Z1,e1,e2,e3,h1⟩:=st 0 d e rfl rfl Z h0;rw[QF] at hz;obtain ⟨Z',e',h'⟩:=FJ I r q (KJ Z1) (es++[e]) (by simpa using hl) (λi d' e' x y=>st (i+1) d' e' (by simpa using x) (by simpa using y)) h1 (by rw[List.length_append,List.length_singleton];omega)
  refine ⟨Z',?_,h'⟩;rw[Xu,e1];dsimp only;rw[e2];dsimp only;rw[Ql rfl,e3];dsimp only;rw[Ql (by omega),e',Jg]
  rfl
theorem M2{s:D->UR->Option UR}{t:M Bool}{f:M (List D)}{Rd:List D->UR->List D->Option (List D×UR)}(I:UR->Prop):∀(ds:List D)(qs:List (List D))(Z:UR)(es:List D),qs.length=ds.length ->
  (∀(i:Nat) d q,ds[i]?=some d->qs[i]?=some q->∀Z es,I Z->es.length+q.length<=1000000->∃Z1 xs Z2 Z3,s d Z=some Z1/\t Z1=.ok true Z1/\f Z1=.ok xs Z2/\Rd xs (KJ Z2) es=some (es++q,Z3)/\I Z3)->I Z->es.length+qs.flatten.length<=1000000->∃Z',Wj s t f Rd ds Z es=some (es++qs.flatten,Z')/\I Z'
 |[],[],Z,es,_,_,h0,_=>⟨Z,by rw[Wj,List.flatten_nil,Q9],h0⟩
 |d::r,q::qr,Z,es,hl,st,h0,hz=>by
  rw[QN,Qj] at hz;obtain ⟨Z1,xs,Z2,Z3,e1,e2,e3,e4,h1⟩:=st 0 d q rfl rfl Z es h0 (by omega)
  obtain ⟨Z',e',h'⟩:=M2 I r qr Z3 (es++q) (by simpa using hl) (λi d' e' x y=>st (i+1) d' e' (by simpa using x) (by simpa using y)) h1 (by rw[List.length_append];omega)
  refine ⟨Z',?_,h'⟩;rw[Wj,e1];dsimp only;rw[e2];dsimp only;rw[Ql rfl,e3];dsimp only;rw[e4];dsimp only;rw[e',QN,Jg]
def Vv(i:Nat)(rs:List (List Int)):LP:=rs.flatten.map λt=>((i:Int),t)
def YH(k:Nat):L3->LP
 |[]=>[]
 |rs::ls=>Vv k rs++YH (k+1) ls
def KS(k:Nat):L3->LP
 |[]=>[]
 |rs::ls=>(YD rs.flatten).map (λt=>((k:Int),t))++KS (k+1) ls
theorem Ow:∀(ls:L3)(k:Nat),(KS k ls).Perm (YH k ls)
 |[],_=>.nil
 |rs::ls,k=>((Wt rs.flatten).map _).append (Ow ls (k+1))
theorem MI:∀(ls:L3)(k:Nat),∀q∈KS k ls,(k:Int)<=q.1
 |[],_,q,h=>by cases h
 |rs::ls,k,q,h=>by
  rcases QW.mp h with h|h
  ·obtain ⟨t,_,rfl⟩:=Qr.mp h;exact QZ _
  ·have:=MI ls (k+1) q h;omega
theorem Sj:∀{ls:L3}{k:Nat}{q:Int×Int},q∈KS k ls->∃i rs,ls[i]?=some rs/\q.1=((k+i:Nat):Int)/\q.2∈rs.flatten
 |[],_,q,h=>by cases h
 |rs::ls,k,q,h=>by
  rcases QW.mp h with h|h
  ·obtain ⟨t,ht,rfl⟩:=Qr.mp h
   exact ⟨0,rs,rfl,rfl,(Wt _).mem_iff.mp ht⟩
  ·obtain ⟨i,rs',h1,h2,h3⟩:=Sj h
   exact ⟨i+1,rs',by simpa using h1,by rw[h2];congr 1;omega,h3⟩
theorem Gi:∀{ls:L3}{k i:Nat}{rs:List (List Int)}{t:Int},ls[i]?=some rs->t∈rs.flatten->(((k+i:Nat):Int),t)∈KS k ls
 |rs::ls,k,0,rs',t,h,ht=>by
  cases h;exact Jf _ (Qr.mpr ⟨t,(Wt _).mem_iff.mpr ht,rfl⟩)
 |rs::ls,k,i+1,rs',t,h,ht=>by
  have:=Gi (ls:=ls) (k:=k+1) (i:=i) (by simpa using h) ht
  rw[show k+1+i=k+(i+1) by omega] at this
  exact QL _ this
theorem GL{n:Nat}(hn:n<=6):∀(ls:L3)(k:Nat),(∀rs∈ls,∀t∈rs.flatten,0<=t/\t<n)->(KS k ls).Pairwise λx y=>K2 x<=K2 y
 |[],_,_=>.nil
 |rs::ls,k,h=>by
  refine List.pairwise_append.mpr ⟨?_,GL hn ls (k+1) λrs' hr=>h rs' (Qk _ hr),λx hx y hy=>?_⟩
  ·rw[List.pairwise_map]
   refine (Fz rs.flatten).imp λ{a b} hab=>?_
   unfold K2;dsimp only;omega
  ·obtain ⟨t,ht,rfl⟩:=Qr.mp hx
   have h1:=MI ls (k+1) y hy;have h2:=h rs Qn t ((Wt _).mem_iff.mp ht);obtain ⟨i,rs',g1,g2,g3⟩:=Sj hy;have h3:=h rs' (Qk _ (Qp g1)) y.2 g3;unfold K2;dsimp only;omega
theorem Sd.flat{n:Nat}{rs:List (List Int)}(g:Sd n rs):∀t∈rs.flatten,0<=t/\t<n:=λt ht=>by
 obtain ⟨r,h1,h2⟩:=Up.mp ht;exact g.there r h1 t h2
section
variable{cs:List Int}{ls:L3}
theorem GK(n:Nat):∀(ls:L3)(k:Nat),(∀rs∈ls,rs.flatten.length<=n)->(YH k ls).length<=ls.length*n
 |[],_,_=>by simp[YH]
 |rs::ls,k,h=>by
  have h1:=GK n ls (k+1) λr hr=>h r (Qk _ hr);have h2:=h rs Qn;show (Vv k rs++YH (k+1) ls).length<=_;rw[Qj,QF,Nat.succ_mul];unfold Vv;rw[Qb];omega
theorem js(g:Good cs ls):VH (YH 0 ls)=KS 0 ls:=by
 have hf:∀rs∈ls,∀t∈rs.flatten,0<=t/\t<cs.length:=λrs hr=>(g.rk rs hr).flat
 have ok:∀q∈KS 0 ls,okP q:=λq hq=>by
  obtain ⟨i,rs,h1,h2,h3⟩:=Sj hq
  have:=hf rs (Qp h1) q.2 h3
  have:=g.c6
  exact ⟨by omega,by omega⟩
 exact (My ok ((Ow ls 0).trans (FS _).symm) (GL g.c6 ls 0 hf) (Fs _)).symm
theorem Dy(g:Good cs ls):∀q∈YH 0 ls,okP q:=λq hq=>by
 obtain ⟨i,rs,h1,h2,h3⟩:=Sj ((Ow ls 0).mem_iff.mpr hq)
 have:=(g.rk rs (Qp h1)).flat q.2 h3
 have:=g.c6
 exact ⟨by omega,by omega⟩
theorem O9(g:Good cs ls):(YH 0 ls).length<=42:=by
 have h:=GK 6 ls 0 λrs hr=>QT (Mx (g.rk rs hr)) g.c6
 have:=g.l7
 omega
theorem N4:∀(ls:L3)(k:Nat),((ls.zipIdx k).map λp=>(Vv p.2 p.1).map Zn).flatten=(YH k ls).map Zn
 |[],_=>rfl
 |rs::ls,k=>by
  rw[List.zipIdx_cons,QA,QN,N4 ls (k+1)];show _=(Vv k rs++YH (k+1) ls).map Zn;rw[Qz]
theorem kW(g:Good cs ls):TF [Ko cs ls]=some (.list ((KS 0 ls).map Zn)):=by
 refine Zp (Z:=[pb (Ko cs ls)]) rfl ?_;unfold RM;refine Kx (W9 (Ky (UZ (UU rfl) U7) rfl (Ox g))) ?_
 have hc:∃Z',Wj (gT 2 (gNC (gN 1) (gNC (gN 2) (gN0)))) (U1 true) (Zt (UN 2)) (Wj (gN 3) (U1 true) (Zt (UN 3)) (Xu (gN 4) (U1 true) (Ze (UY (UN 1) (UY (UN 4) (UT)))))) (YY 0 (ls.map Zc)) (KJ [pb (Ko cs ls)]++UJ 4 none) []=some ((YH 0 ls).map Zn,Z'):=by
  have key:=M2 (s:=gT 2 (gNC (gN 1) (gNC (gN 2) (gN0)))) (t:=U1 true) (f:=Zt (UN 2)) (Rd:=Wj (gN 3) (U1 true) (Zt (UN 3)) (Xu (gN 4) (U1 true) (Ze (UY (UN 1) (UY (UN 4) (UT))))))
   (λZ=>∃x1 x2 x3 x4,Z=[pb (Ko cs ls),x1,x2,x3,x4]) (YY 0 (ls.map Zc)) ((ls.zipIdx 0).map λp=>(Vv p.2 p.1).map Zn) (KJ [pb (Ko cs ls)]++UJ 4 none) [] (by rw[Qb,List.length_zipIdx,YQ,Qb]) ?_ ⟨none,none,none,none,rfl⟩ (by
    rw[N4,Qb,QC];have:=O9 g;omega)
  ·obtain ⟨Z',e,_⟩:=key
   rw[N4,Jj] at e;exact ⟨Z',e⟩
  rintro i d q hd hq Z es ⟨x1,x2,x3,x4,rfl⟩ hlen;obtain ⟨z,hz,rfl⟩:=Xo hd;rw[Qd] at hz;rw[Qd,List.getElem?_zipIdx] at hq
  cases hls:ls[i]? with
  |none=>rw[hls] at hz;cases hz
  |some rs=>
  rw[hls] at hz hq;cases hz;cases hq;rw[QU] at *;dsimp only at hlen ⊢
  have inner:=M2 (s:=gN 3) (t:=U1 true) (f:=Zt (UN 3)) (Rd:=Xu (gN 4) (U1 true) (Ze (UY (UN 1) (UY (UN 4) (UT)))))
   (λZ=>∃x3 x4,Z=[pb (Ko cs ls),pb (.int i),pb (Zc rs),x3,x4]) (rs.map ZQ) (rs.map λr=>r.map λt=>Zn ((i:Int),t)) (KJ [pb (Ko cs ls),pb (.int i),pb (Zc rs),x3,x4]) es (by rw[Qb,Qb]) ?_ ⟨Wn x3,Wn x4,rfl⟩ ?_
  ·obtain ⟨Z3,e3,y3,y4,h3⟩:=inner
   have ef:(rs.map λr=>r.map λt=>Zn ((i:Int),t)).flatten=(Vv i rs).map Zn:=by
    unfold Vv;rw[QP,List.map_flatten];rfl
   rw[ef] at e3;exact ⟨_,_,_,Z3,KK rfl (Kc (U4 (Qa rfl) rfl) (Kc (U4 (Qa rfl) rfl) KL)),rfl,Yl (UU rfl) rfl,e3,_,_,_,_,h3⟩
  ·rintro j d q hd hq Z es' ⟨y3,y4,rfl⟩ hlen'
   rw[Qd] at hd hq
   cases hr:rs[j]? with
   |none=>rw[hr] at hd;cases hd
   |some r=>
   rw[hr] at hd hq;cases hd;cases hq
   obtain ⟨Z3,e3,z4,h3⟩:=FJ (s:=gN 4) (t:=U1 true) (g:=Ze (UY (UN 1) (UY (UN 4) (UT)))) (λZ=>∃x4,Z=[pb (Ko cs ls),pb (.int i),pb (Zc rs),pb (ZQ r),x4]) (r.map int) (r.map λt=>Zn ((i:Int),t)) (KJ [pb (Ko cs ls),pb (.int i),pb (Zc rs),pb (ZQ r),y4]) es' (by rw[Qb,Qb]) (by
    rintro m d e hd he Z ⟨x4,rfl⟩;rw[Qd] at hd he
    cases hm:r[m]? with
    |none=>rw[hm] at hd;cases hd
    |some t=>
    rw[hm] at hd he;cases hd;cases he;exact ⟨_,U4 (Qa rfl) rfl,rfl,Xs (UZ (UU rfl) (UZ (UU rfl) U7)) (Qa rfl),_,rfl⟩) ⟨Wn y4,rfl⟩ (by rw[Qb] at hlen' ⊢;exact hlen')
   exact ⟨_,_,_,Z3,U4 (Qa rfl) rfl,rfl,Yl (UU rfl) rfl,e3,_,_,h3⟩
  ·have ef:(rs.map λr=>r.map λt=>Zn ((i:Int),t)).flatten=(Vv i rs).map Zn:=by
    unfold Vv;rw[QP,List.map_flatten];rfl
   rw[ef];exact hlen
 obtain ⟨Z',hc⟩:=hc;have hs:=qc (qs:=YH 0 ls) (by have:=O9 g;omega) (Dy g)
 rw[js g] at hs;exact KI (Yg (UZ (KP (AC (XQ (UZ (K7 rfl U6 WZ) U7) XN) hc)) U7) hs) rfl
end
def fnz:List Int->Int
 |[]=>0
 |x::r=>if x=0 then fnz r else x
def bsT(g:Int):Str:=if g=0 then "alike" else if 0<g then "better" else "worse"
inductive Ord where|firsts|full|lasts
def Ord.tx:Ord->Str
 |.firsts=> "firsts" | .full=> "full" | .lasts=> "lasts"
def Ord.isF:Ord->Bool
 |.firsts=>true|_=>false
def Ord.isU:Ord->Bool
 |.full=>true|_=>false
theorem LC(o:Ord):oEq (.str o.tx) (.str "firsts")=some o.isF:=by cases o <;> decide +kernel
theorem P2(o:Ord):oEq (.str o.tx) (.str "full")=some o.isU:=by cases o <;> decide +kernel
def KG(xs ys:List Int):List Int:=(xs.zip ys).map λp=>p.1-p.2
def XI(o:Ord)(xs ys:List Int):List Int:=match o with
 |.firsts=>KG xs ys
 |.full=>((KG xs ys).map λx=>-x).drop ((KG xs ys).length-1)++KG xs ys
 |.lasts=>((KG xs ys).map λx=>-x).reverse
theorem kU(o:Ord):TB [.str o.tx]=some (.bool true):=by
 refine Zp (Z:=[pb (.str o.tx)]) rfl ?_;unfold RI
 have h:oIn (.str o.tx) (.tuple ((["firsts", "full", "lasts"]:List Str).map UM))=some true:=by cases o <;> decide +kernel
 exact KI (O5 (KP (k:=λd=>UL (Zh d "str")) (UU rfl)) (λ_=>KP (ZO rfl U6 h))) rfl
theorem Fc(o:Ord):WN [.str o.tx]=some .none:=by
 refine P8 (Z:=[pb (.str o.tx)]) rfl ?_;unfold RH;apply KM
 case h1=>exact XV (XY (Ky (UZ (UU rfl) U7) rfl (kU o)))
 case h2=>intro h;cases h
 case h3=>exact λ_=>K4 ⟨_,rfl⟩
theorem qk(o:Ord){xs ys:List Int}(hx:xs.length<=1000):Tz [.str o.tx,.list (xs.map int),.list (ys.map int)]=some (.list ((XI o xs ys).map int)):=by
 refine Zp (Z:=[pb (.str o.tx),pb (.list (xs.map int)),pb (.list (ys.map int)),none,none]) rfl ?_;unfold RG;have hzl:(xs.zip ys).length<=1000:=by rw[Jy];omega
 have hc1:Zs (gT 2 (gNC (gN 5) (gNC (gN 6) (gN0)))) (U1 true) (U3 Zk (UN 5) (UN 6)) (ZV (xs.map int) (ys.map int)) (KJ [pb (.str o.tx),pb (.list (xs.map int)),pb (.list (ys.map int)),none,none]++UJ 2 none) []=some ((KG xs ys).map int):=by
  rw[MU,Se (λ_=>true) (λd=>match d with | .tuple [.int a,.int b]=>.int (a-b)|_=>.none) (λZ=>∃x y,Z=[pb (.str o.tx),pb (.list (xs.map int)),pb (.list (ys.map int)),none,none,x,y])]
  ·rw[JN.mpr (λ_ _=>rfl),Jj,QP]
   unfold KG;rw[QP]
   rfl
  ·rintro d hm Z ⟨x,y,rfl⟩
   obtain ⟨p,_,rfl⟩:=Qr.mp hm;exact ⟨_,KK rfl (Kc (U4 (Qa rfl) rfl) (Kc (U4 (Qa rfl) rfl) KL)),rfl,λ_=>Kk (UU rfl) (UU rfl) Xp,_,_,rfl⟩
  ·exact ⟨none,none,rfl⟩
  ·rw[Qb,QC];omega
 have hml:(KG xs ys).length<=1000:=by unfold KG;rw[Qb];exact hzl
 refine Kx (Yt (Ys (P9 (UZ (UU rfl) (UZ (UU rfl) U7)) rfl) hc1) (Qa rfl) rfl) ?_
 have hc2:Zs (gN 5) (U1 true) (Z6 (UN 5)) ((KG xs ys).map int) (KJ [pb (.str o.tx),pb (.list (xs.map int)),pb (.list (ys.map int)),pb (.list ((KG xs ys).map int)),none]++UJ 1 none) []=some (((KG xs ys).map λx=>-x).map int):=by
  rw[Se (λ_=>true) (λd=>match d with | .int a=>.int (-a)|_=>.none) (λZ=>∃x,Z=[pb (.str o.tx),pb (.list (xs.map int)),pb (.list (ys.map int)),pb (.list ((KG xs ys).map int)),none,x])]
  ·rw[JN.mpr (λ_ _=>rfl),Jj,QP,QP]
   rfl
  ·rintro d hm Z ⟨x,rfl⟩
   obtain ⟨p,_,rfl⟩:=Qr.mp hm;exact ⟨_,U4 (Qa rfl) rfl,rfl,λ_=>Vz (UU rfl),_,rfl⟩
  ·exact ⟨none,rfl⟩
  ·rw[Qb,QC];omega
 apply KU;have e1:=LC o;have e2:=P2 o;apply KM
 case h1=>exact ZO rfl U6 e1
 case h2=>
  intro h
  cases o with
  |firsts=>exact KI (Yh rfl rfl) (Xe rfl)
  |_=>cases h
 case h3=>
  intro h1;refine K4 (KQ ?_);refine Kx (Yt (Ys (Yl (Yh rfl rfl) YZ) hc2) (Qa rfl) rfl) ?_;generalize hneg:((KG xs ys).map λx=>-x)=neg;have hnl:neg.length=(KG xs ys).length:=by rw[←hneg,Qb]
  apply KU;apply KM
  case h1=>exact ZO rfl U6 e2
  case h2=>
   intro h
   cases o with
   |full=>
    have hcut:DL.cutD (neg.map int) (some (-1)) none=(neg.drop (neg.length-1)).map int:=by
     unfold DL.cutD HT.sIx;dsimp only;rw[Ql (by decide),Qb]
     have:((-1:Int)+(neg.length:Int)).toNat=neg.length-1:=by omega
     rw[this,←List.map_drop,List.take_of_length_le (by rw[Qb,Jl];omega)]
    refine KI (Kk (VJ (Yh rfl rfl) (Xy (Vz U6)) U6 (by rw[VR,hcut])) (UU rfl) (XX (by rw[Qb,Qb,Jl];omega))) (Xe ?_)
    unfold XI;dsimp only;rw[hneg,←hnl,Qz]
   |_=>cases h
  case h3=>
   intro h2;refine K4 (KQ ?_)
   cases o with
   |lasts=>
    refine KI (NO (Yh rfl rfl) U6 U6 (Xy (Vz U6))) ?_;unfold XI;dsimp only;rw[hneg,List.map_reverse]
   |firsts=>cases h1
   |full=>cases h2
theorem Ak{g:List Int}{i:Nat}{z:Int}(h:g[i]?=some z):fnz (g.drop i)=if z=0 then fnz (g.drop (i+1)) else z:=by
 obtain ⟨hl,e⟩:=Qg.mp h;rw[QQ hl,e]
 rfl
theorem j6(o:Ord){xs ys:List Int}(hx:xs.length<=1000):Ty [.str o.tx,.list (xs.map int),.list (ys.map int)]=some (.str (bsT (fnz (XI o xs ys)))):=by
 refine Zp (Z:=[pb (.str o.tx),pb (.list (xs.map int)),pb (.list (ys.map int)),none]) rfl ?_;unfold RF;refine Kx (W9 (Ky (UZ (UU rfl) U7) rfl (Fc o))) ?_;have hg:=qk o (ys:=ys) hx;generalize XI o xs ys=g at hg;apply KU;apply Yj (λi Z=>(∃x,Z=[pb (.str o.tx),pb (.list (xs.map int)),pb (.list (ys.map int)),x])/\fnz g=fnz (g.drop i))
 case h1=>exact Yl (Ky (UZ (UU rfl) (UZ (UU rfl) (UZ (UU rfl) U7))) rfl hg) YZ
 case h0=>exact ⟨⟨none,rfl⟩,rfl⟩
 case hst=>
  rintro i d Z hi ⟨⟨x,rfl⟩,hf⟩;rw[Qd] at hi
  cases hz:g[i]? with
  |none=>rw[hz] at hi;cases hi
  |some z=>
  rw[hz] at hi;cases hi;rw[Ak hz] at hf;refine ⟨_,U4 (Qa rfl) rfl,?_⟩;unfold L9;apply KM
  case h1=>exact ZO rfl U6 Sb
  case h2=>
   intro h;have hz0:z≠0:=by simpa using h
   rw[Qs hz0] at hf
   by_cases hp:0<z
   ·refine KI (NT (by rw[show true=decide (0<z) by simp[hp]];exact ZO rfl U6 rfl) U6) (VD (Xe ?_))
    unfold bsT;rw[hf,Qs hz0,Ql hp]
   ·refine KI (OW (by rw[show false=decide (0<z) by simp[hp]];exact ZO rfl U6 rfl) U6) (VD (Xe ?_))
    unfold bsT;rw[hf,Qs hz0,Qs hp]
  case h3=>
   intro h;have hz0:z=0:=by simpa using h
   rw[Ql hz0] at hf;exact K4 (ZB ⟨⟨_,rfl⟩,hf⟩)
 case hend=>
  rintro Z ⟨⟨x,rfl⟩,hf⟩;refine KQ (KI U6 ?_);rw[Qb,List.drop_length] at hf
  have:fnz g=0:=hf
  unfold bsT;rw[this]
  rfl
def ZU:Option LO->D
 |none=>.none
 |some ws=>Kl ws
def KT(o:Ord)(old:Option LO)(ts:List Int):D:=.tuple [.str o.tx,ZU old,.list (ts.map int)]
structure YL(n m:Nat)(old:Option LO)(ts:List Int):Prop where
 len:∀ws,old=some ws->ws.length=m
 old:∀ws t,old=some ws->some t∈ws->0<=t/\t<n
 once:ts.Nodup
 there:∀a∈ts,0<=a/\a<m
theorem YL.few{n m:Nat}{old:Option LO}{ts:List Int}(g:YL n m old ts):ts.length<=m:=Sk m ts g.once g.there
theorem qi{n m:Nat}{old:Option LO}(h1:∀ws,old=some ws->ws.length=m)(h2:∀ws t,old=some ws->some t∈ws->0<=t/\t<n)(hm:m<=1000):Tx [ZU old,.int m,.int n]=some (.bool true):=by
 refine Zp (Z:=[pb (ZU old),pb (.int m),pb (.int n)]) rfl ?_;unfold RE;apply KU
 cases old with
 |none=>
  apply KM
  case h1=>exact KP (UU rfl)
  case h2=>exact λ_=>KI U6 (Xe rfl)
  case h3=>intro hh;cases hh
 |some ws=>
  have hl:=h1 ws rfl;have hlen:Ku [Kl ws]=some (.int m):=by unfold Kl;rw[ZR,Qb,hl]
  apply KM
  case h1=>exact KP (UU rfl)
  case h2=>intro hh;cases hh
  case h3=>
   intro _;refine K4 (KQ ?_);apply KU;apply KM
   case h1=>exact Wr (Z1:=[pb (Kl ws),pb (.int m),pb (.int n)]) (Sn (UU rfl) rfl) (Kk (Ye rfl hlen) (UU rfl) Sb)
   case h2=>intro hh;simp at hh
   case h3=>
    intro _;refine K4 (KQ ?_)
    have hc:Zs (gN 3) (U1 true) (WA (Ka (λd=>.bool (isNon d)) (UN 3)) (U5 2 YA (UY (UN 3) (UY (UN 2) (UT))))) (ws.map Kf) (KJ [pb (Kl ws),pb (.int m),pb (.int n)]++UJ 1 none) []=some (ws.map λ_=>.bool true):=by
     refine XM (λZ=>∃x,Z=[pb (Kl ws),pb (.int m),pb (.int n),x]) _ _ _ _ (by simp only[Qb]) ?_ ⟨none,rfl⟩ (by rw[Qb,QC];omega)
     rintro i d e hd he Z ⟨x,rfl⟩;rw[Qd] at hd he
     cases hw:ws[i]? with
     |none=>rw[hw] at hd;cases hd
     |some o=>
     rw[hw] at hd he;cases hd;cases he;refine ⟨_,U4 (Qa rfl) rfl,rfl,?_,_,rfl⟩
     cases o with
     |none=>exact NU (t:=true) (u:=true) (KP (k:=λd=>UL (isNon d)) (x:=.none) (UU rfl)) (λh=>nomatch h)
     |some t=>
      have hb:=h2 ws t rfl (Qp hw);exact NU (t:=false) (u:=true) (KP (k:=λd=>UL (isNon d)) (x:=.int t) (UU rfl)) (λ_=>Ky (UZ (UU rfl) (UZ (UU rfl) U7)) rfl (Nj hb.1 hb.2))
    exact KI (Yg (UZ (KP (Ys (Yl (UU rfl) rfl) hc)) U7) (Ni ws)) rfl
theorem j4{m:Nat}{ts:List Int}(h1:ts.Nodup)(h2:∀a∈ts,0<=a/\a<m)(hm:m<=1000):Tw [.list (ts.map int),.int m]=some (.bool true):=by
 refine Zp (Z:=[pb (.list (ts.map int)),pb (.int m)]) rfl ?_;unfold RD;have hl:=Sk m ts h1 h2;apply KU
 have hc:Zs (gN 2) (U1 true) (U5 2 YA (UY (UN 2) (UY (UN 1) (UT)))) (ts.map int) (KJ [pb (.list (ts.map int)),pb (.int m)]++UJ 1 none) []=some (ts.map λ_=>.bool true):=by
  refine XM (λZ=>∃x,Z=[pb (.list (ts.map int)),pb (.int m),x]) _ _ _ _ (by simp only[Qb]) ?_ ⟨none,rfl⟩ (by rw[Qb,QC];omega)
  rintro i d e hd he Z ⟨x,rfl⟩;rw[Qd] at hd he
  cases hw:ts[i]? with
  |none=>rw[hw] at hd;cases hd
  |some t=>
  rw[hw] at hd he;cases hd;cases he;have hb:=h2 t (Qp hw);exact ⟨_,U4 (Qa rfl) rfl,rfl,Ky (UZ (UU rfl) (UZ (UU rfl) U7)) rfl (Nj hb.1 hb.2),_,rfl⟩
 apply KM
 case h1=>exact Wr (Z1:=[pb (.list (ts.map int)),pb (.int m)]) (Sn (UU rfl) rfl) (XV (XY (Yg (UZ (KP (Ys (Yl (UU rfl) YZ) hc)) U7) (Ni ts))))
 case h2=>intro hh;cases hh
 case h3=>
  intro _;refine K4 (KQ ?_)
  have hs:VP [.list (ts.map int)]=some (.int ts.length):=by
   unfold VP;dsimp only;rw[SH];dsimp only;rw[Ql (by omega),FP h1]
  have hlen:Ku [.list (ts.map int)]=some (.int ts.length):=by rw[ZR,Qb]
  refine KI (KP (Kk (Yg (UZ (UU rfl) U7) hs) (Ye rfl hlen) Wf)) ?_;simp
section
variable{cs:List Int}{ls:L3}{o:Ord}{old:Option LO}{ts:List Int}
theorem LB(g:Good cs ls)(ga:YL cs.length ls.length old ts):WM [Ko cs ls,KT o old ts]=some .none:=by
 refine P8 (Z:=[pb (Ko cs ls),pb (KT o old ts),none,none,none,none,none]) rfl ?_;unfold RC;have l7:=g.l7;have c6:=g.c6;have hll:Ku [.list (ls.map Zc)]=some (.int ls.length):=by rw[ZR,Qb]
 have hlc:Ku [.list (cs.map int)]=some (.int cs.length):=by rw[ZR,Qb]
 refine Kx (W9 (Ky (UZ (UU rfl) U7) rfl (Ox g))) ?_;apply KU;apply KM
 case h1=>exact Wr (Z1:=[pb (Ko cs ls),pb (KT o old ts),none,none,none,none,none]) (Sn (UU rfl) rfl) (Kk (Ye rfl (show Ku [KT o old ts]=some (.int 3) from rfl)) U6 Sb)
 case h2=>intro hh;simp at hh
 case h3=>
  intro _;refine K4 (KQ ?_);refine Kx (Vy (UU rfl) (KK rfl (Kc (U4 (Qa rfl) rfl) (Kc (U4 (Qa rfl) rfl) KL)))) ?_;refine Kx (Vy (UU rfl) (KK rfl (Kc (U4 (Qa rfl) rfl) (Kc (U4 (Qa rfl) rfl) (Kc (U4 (Qa rfl) rfl) KL))))) ?_;refine Kx (W9 (Ky (UZ (UU rfl) U7) rfl (Fc o))) ?_;apply KU;apply KM
  case h1=>exact XV (XY (Ky (UZ (UU rfl) (UZ (Ye rfl hll) (UZ (Ye rfl hlc) U7))) rfl (qi ga.len ga.old (by omega))))
  case h2=>intro hh;cases hh
  case h3=>
   intro _;refine K4 (KQ ?_);apply KM
   case h1=>exact XV (XY (Ky (UZ (UU rfl) (UZ (Ye rfl hll) U7)) rfl (j4 ga.once ga.there (by omega))))
   case h2=>intro hh;cases hh
   case h3=>exact λ_=>K4 ⟨_,rfl⟩
end
theorem O8{t:Int}{r:List Int}:oIn (.int t) (.list (r.map int))=some (r.contains t):=N7 t r
theorem F8{c s w sz dg x6:Option Sl}{m:Nat}{T:List Int}(hm:0<m):∀(k fuel d:Nat),(∀j,j<k->(((d+j) % m:Nat):Int)∈T)->(((d+k) % m:Nat):Int)∉T->d<m->k<fuel ->
  Wh (TV oIn (UN 8) 7) O2 fuel [w,c,s,pb (.int m),sz,dg,x6,some (.own (T.map int)),pb (.int d)]=.nx [w,c,s,pb (.int m),sz,dg,x6,some (.own (T.map int)),pb (.int (((d+k) % m:Nat):Int))]
 |0,fuel+1,d,_,hn,hd,_=>by
  have e0:(d+0) % m=d:=by rw[Uq];exact Nat.mod_eq_of_lt hd
  rw[e0] at hn ⊢;have e:(T.contains (d:Int))=false:=by simpa using hn
  rw[Wh,Nc (r:=false) (UU rfl) rfl (by rw[O8,e])]
  rfl
 |k+1,fuel+1,d,hj,hn,hd,hf=>by
  have h0:=hj 0 (by omega)
  rw[Uq,Nat.mod_eq_of_lt hd] at h0;have e:(T.contains (d:Int))=true:=by simpa using h0
  rw[Wh,Nc (r:=true) (UU rfl) rfl (by rw[O8,e])]
  dsimp only;rw[Ql rfl]
  have hst:O2 [w,c,s,pb (.int m),sz,dg,x6,some (.own (T.map int)),pb (.int d)]=.nx [w,c,s,pb (.int m),sz,dg,x6,some (.own (T.map int)),pb (.int (((d+1) % m:Nat):Int))]:=by
   unfold O2;refine K0 (Kk (Kk (UU rfl) U6 ZH) (UU rfl) (Wp (by omega))) (Qa rfl) ?_
   have e1:((d+1:Nat):Int)=(d:Int)+1:=by omega
   have:((d:Int)+1) % (m:Int)=(((d+1) % m:Nat):Int):=by rw[Int.natCast_emod,e1]
   rw[this];rfl
  rw[hst];dsimp only;have e2:∀j,((d+1) % m+j) % m=(d+(j+1)) % m:=λj=>by rw[Nat.mod_add_mod];congr 1;omega
  have:=F8 (c:=c) (s:=s) (w:=w) (sz:=sz) (dg:=dg) (x6:=x6) (T:=T) hm k fuel ((d+1) % m) (λj hjk=>by rw[e2];exact hj (j+1) (by omega)) (by rw[e2];exact hn) (Nat.mod_lt _ hm) (by omega)
  rw[e2] at this;exact this
theorem Fb:∀(a b:List Int),a.Nodup->(∀x∈a,x∈b)->a.length<=b.length
 |[],_,_,_=>J8 _
 |x::a,b,hn,h=>by
  have hx:=h x Qn;have hn':=Uw.mp hn
  have:=Fb a (b.erase x) hn'.2 λy hy=>by
   have hne:y≠x:=λe=>hn'.1 (e ▸ hy);exact (List.mem_erase_of_ne hne).mpr (h y (Qk _ hy))
  rw[List.length_erase_of_mem hx] at this;have hp:=List.length_pos_of_mem hx;rw[QF];omega
theorem jr{m:Nat}{T:List Int}(d:Nat)(hl:T.length<m)(hn:T.Nodup):∃k,k<m/\(∀j,j<k->(((d+j) % m:Nat):Int)∈T)/\(((d+k) % m:Nat):Int)∉T:=by
 have ex:∃k,k<m/\(((d+k) % m:Nat):Int)∉T:=by
  refine Classical.byContradiction λhno=>?_;have all:∀k,k<m->(((d+k) % m:Nat):Int)∈T:=λk hk=>Classical.byContradiction λz=>hno ⟨k,hk,z⟩
  have hsub:∀x:Nat,x<m->((x:Nat):Int)∈T:=λx hx=>by
   have h1:=all ((x+m-d % m) % m) (Nat.mod_lt _ (by omega))
   have e:(d+(x+m-d % m) % m) % m=x:=by
    have hdm:d % m<m:=Nat.mod_lt _ (by omega)
    rw[Nat.add_mod_mod,←Nat.mod_add_mod];rw[show d % m+(x+m-d % m)=x+m by omega,Nat.add_mod_right,Nat.mod_eq_of_lt hx]
   rw[e] at h1;exact h1
  have:=Fb ((UI m).map λx:Nat=>(x:Int)) T (List.Pairwise.map _ (λa b h e=>h (by omega)) List.nodup_range) (λt ht=>by
   obtain ⟨x,hx,rfl⟩:=Qr.mp ht;exact hsub x (Q7.mp hx))
  rw[Qb,Qq] at this;omega
 obtain ⟨k,hk,hkn⟩:=ex
 induction k using Nat.strongRecOn with
 |_ k ih=>
  by_cases h:∀j,j<k->(((d+j) % m:Nat):Int)∈T
  ·exact ⟨k,hk,h,hkn⟩
  ·obtain ⟨j,hj⟩:=Classical.not_forall.mp h
   obtain ⟨hj1,hj2⟩:=Classical.not_imp.mp hj;exact ih j hj1 (by omega) hj2
theorem LA{x:D}{m:Nat}(h:m<=1000):KY (.list [x]) (.int m)=some (.list (UJ m x)):=by
 rw[OD ⟨by omega,by omega,by show 1*_<=_;omega⟩]
 congr 2
 rw[Qv];clear h
 induction m with
 |zero=>rfl
 |succ n ih=>rw[QS,QN,ih,QS];rfl
def szA(n m:Nat):List Int:=[3,2,(m:Int)+1]++UJ m ((n:Int)+1)++UJ m (m:Int)
theorem HC(n m:Nat):(szA n m).length=3+m+m:=by unfold szA;rw[Qj,Qj,QE,QE];rfl
theorem Ca{n m j:Nat}(h:j<m):(szA n m)[3+j]?=some ((n:Int)+1):=by
 unfold szA;rw[Qx (by rw[Qj,QE];show 3+j<3+m;omega),Qw (by show 3<=3+j;omega)]
 show (UJ m ((n:Int)+1))[3+j-3]?=_;rw[Nat.add_sub_cancel_left,QB,Ql h]
theorem Aj{n m j:Nat}(h:j<m):(szA n m)[3+m+j]?=some (m:Int):=by
 unfold szA;have e:([3,2,(m:Int)+1]++UJ m ((n:Int)+1)).length=3+m:=by rw[Qj,QE];rfl
 rw[Qw (by rw[e];omega),e,Nat.add_sub_cancel_left,QB,Ql h]
section
variable{cs:List Int}{ls:L3}
def PP(d:Int):Option Int:=if 0<d then some (d-1) else none
theorem Ai(d:Int):oIx (.list [.none,.int (d-1)]) (.int (if decide (0<d)=true then 1 else 0))=some (Kf (PP d)):=by
 unfold PP
 by_cases h:0<d
 ·rw[Q2 h,Ql rfl,Ql h];exact ZD (j:=1) rfl
 ·rw[QG h,Qs (by decide),Qs h];exact ZD (j:=0) rfl
theorem Ah(g:Good cs ls)(c s:Int):∃r,Ti [Ko cs ls,.int c,.int s]=some r/\∃o old ts,r=KT o old ts/\YL cs.length ls.length old ts:=by
 refine WW (Z:=[pb (Ko cs ls),pb (.int c),pb (.int s),none,none,none,none,none,none]) rfl ?_;unfold S7;have l7:=g.l7;have l1:=g.l1;have c6:=g.c6;have c1:=g.c1;have hll:Ku [.list (ls.map Zc)]=some (.int ls.length):=by rw[ZR,Qb]
 have hlc:Ku [.list (cs.map int)]=some (.int cs.length):=by rw[ZR,Qb]
 generalize hm:ls.length=m at *;generalize hn:cs.length=n at *;refine Kx (K0 (Yg (UZ (K7 rfl U6 WZ) U7) hll) (Qa rfl) rfl) ?_
 have s1:Kh (.list [.int 3,.int 2,.int ((m:Int)+1)]) (.list (UJ m (.int ((n:Int)+1))))=some (.list (([3,2,(m:Int)+1]++UJ m ((n:Int)+1)).map int)):=by
  rw[XX (by rw[QE];show 3+m<=_;omega),Qz,Uc];rfl
 refine Kx (K0 (Kk (Z7 (UZ U6 (UZ U6 (UZ (Kk (UU rfl) U6 ZH) U7))) (Qa rfl)) (Kk (Z7 (UZ (Kk (Yg (UZ (K7 rfl U6 TX) U7) hlc) U6 ZH) U7) (Qa rfl)) (UU rfl) (LA (by omega))) s1) (Qa rfl) rfl) ?_
 have s2:Kh (.list (([3,2,(m:Int)+1]++UJ m ((n:Int)+1)).map int)) (.list (UJ m (.int (m:Int))))=some (.list ((szA n m).map int)):=by
  rw[XX (by rw[Qb,Qj,QE,QE];show 3+m+m<=_;omega)]
  unfold szA;rw[Qz (l₂:=UJ m (m:Int)),Uc (n:=m) (a:=(m:Int))]
 obtain ⟨r,hF,dg,rfl,hdl,hdb⟩:=OB c s (sizes:=szA n m) (λx hx=>by
  unfold szA at hx;rcases QW.mp hx with hx|hx
  ·rcases QW.mp hx with hx|hx
   ·have hx:x=3∨x=2∨x=(m:Int)+1:=by simpa using hx
    omega
   ·rw[(Uv.mp hx).2];omega
  ·rw[(Uv.mp hx).2];omega) (by rw[HC];omega)
 rw[HC] at hdl;refine Kx (K0 (Ky (UZ (UU rfl) (UZ (UU rfl) (UZ (Kk (UU rfl) (Kk (Z7 (UZ (UU rfl) U7) (Qa rfl)) (UU rfl) (LA (by omega))) s2) U7))) rfl hF) (Qa rfl) rfl) ?_
 have get:∀j,j<3+m+m->∃d,dg[j]?=some d:=λj hj=>⟨dg[j]'(by omega),Qe _⟩
 obtain ⟨d0,e0⟩:=get 0 (by omega)
 obtain ⟨d1,e1⟩:=get 1 (by omega)
 obtain ⟨d2,e2⟩:=get 2 (by omega)
 have b0:=hdb 0 d0 3 e0 rfl;have b1:=hdb 1 d1 2 e1 rfl;have b2:=hdb 2 d2 ((m:Int)+1) e2 rfl;have i0:oIx (.list (dg.map int)) (.int 0)=some (.int d0):=ZD (j:=0) (by rw[Qd,e0];rfl)
 have i1:oIx (.list (dg.map int)) (.int 1)=some (.int d1):=ZD (j:=1) (by rw[Qd,e1];rfl)
 have i2:oIx (.list (dg.map int)) (.int 2)=some (.int d2):=ZD (j:=2) (by rw[Qd,e2];rfl)
 refine Kx (K0 U6 (Qa rfl) rfl) ?_
 let ol:List Int:=(dg.drop 3).take m
 have oll:ol.length=m:=by show ((dg.drop 3).take m).length=m;rw[Q3,Jl];omega
 have olb:∀d∈ol,0<=d/\d<(n:Int)+1:=λd hd=>by
  obtain ⟨j,hj,e⟩:=JY.mp hd;have hjm:j<m:=by omega
  refine hdb (3+j) d _ ?_ (Ca hjm)
  have:ol[j]?=some d:=by rw[Qe hj,e]
  show dg[3+j]?=_;rw[←this];show _=((dg.drop 3).take m)[j]?;rw[List.getElem?_take,Ql hjm,List.getElem?_drop]
 have hcut:DL.cutD (dg.map int) (some 3) (some (3+(m:Int)))=ol.map int:=by
  rw[MC (by decide) (by omega) (by omega)]
  have t1:(3:Int).toNat=3:=rfl;have t2:(3+(m:Int)).toNat-(3:Int).toNat=m:=by omega
  rw[t2,t1]
 have step:Ho (sIf (U3 oEq (Ki 5 (U1 (.int 1))) (U1 (.int 1))) (ZC 6 (ZS (Zt (Yz (UN 5) (Kr (U1 (.int 3)) λx=>Ks (Y2 x)) (Kr (U3 Kh (U1 (.int 3)) (UN 3)) λx=>Ks (Y2 x)))) 1 (gN 9) (U1 true) (U3 oIx (KR (UY (U1 .none) (UY (U3 Zk (UN 9) (U1 (.int 1))) (UT)))) (ZN PX (UY (Ka UL (Zz (oIB λi j=>decide (j<i)) 9 (U1 (.int 0)))) (UT)))))) (sNx))
   [pb (Ko cs ls),pb (.int c),pb (.int s),pb (.int m),pb (.list (([3,2,(m:Int)+1]++UJ m ((n:Int)+1)).map int)),pb (.list (dg.map int)),some (.pub .none),none,none]
   (λr=>∃old x6,r=.nx [pb (Ko cs ls),pb (.int c),pb (.int s),pb (.int m),pb (.list (([3,2,(m:Int)+1]++UJ m ((n:Int)+1)).map int)),pb (.list (dg.map int)),x6,none,none] /\
    (x6=some (.pub (ZU old)) ∨ ∃ws,old=some ws/\x6=some (.own (ws.map Kf)))/\(∀ws,old=some ws->ws.length=m)/\∀ws t,old=some ws->some t∈ws->0<=t/\t<n):=by
  have hc:∀a b:Option Sl,Zs (gN 9) (U1 true) (U3 oIx (KR (UY (U1 .none) (UY (U3 Zk (UN 9) (U1 (.int 1))) (UT)))) (ZN PX (UY (Ka UL (Zz (oIB λi j=>decide (j<i)) 9 (U1 (.int 0)))) (UT)))) (ol.map int) (KJ [pb (Ko cs ls),pb (.int c),pb (.int s),pb (.int m),pb (.list (([3,2,(m:Int)+1]++UJ m ((n:Int)+1)).map int)),pb (.list (dg.map int)),some (.pub .none),none,none]++UJ 1 none) []=some ((ol.map PP).map Kf):=λ_ _=>by
   refine XM (λZ=>∃x,Z=[pb (Ko cs ls),pb (.int c),pb (.int s),pb (.int m),pb (.list (([3,2,(m:Int)+1]++UJ m ((n:Int)+1)).map int)),pb (.list (dg.map int)),some (.pub .none),none,none,x]) _ _ _ _ (by simp only[Qb]) ?_ ⟨none,rfl⟩ (by rw[Qb,QC];omega)
   rintro i d e hd he Z ⟨x,rfl⟩;rw[Qd] at hd;rw[Qd,Qd] at he
   cases hw:ol[i]? with
   |none=>rw[hw] at hd;cases hd
   |some z=>
   rw[hw] at hd he;cases hd;cases he;exact ⟨_,U4 (Qa rfl) rfl,rfl,Kk (Z7 (UZ U6 (UZ (Kk (UU rfl) U6 Xp) U7)) (Qa rfl)) (Yg (UZ (KP (ZO rfl U6 rfl)) U7) rfl) (Ai z),_,rfl⟩
  apply KM
  case h1=>exact Kk (K7 rfl U6 i1) U6 Wf
  case h2=>
   intro _;refine ZW (Yt (Ys (Yl (VJ (UU rfl) (Xy U6) (Xy (Kk U6 (UU rfl) ZH)) (by rw[VR,hcut])) YZ) (hc none none)) (Qa rfl) rfl) ?_
   refine ⟨some (ol.map PP),_,rfl,.inr ⟨_,rfl,rfl⟩,λws e=>?_,λws t e ht=>?_⟩
   ·cases e;rw[Qb];exact oll
   ·cases e
    obtain ⟨d,hd,e⟩:=Qr.mp ht
    have:=olb d hd
    unfold PP at e
    split at e
    ·cases e;omega
    ·cases e
  case h3=>exact λ_=>K4 ⟨none,_,rfl,.inl rfl,(λws e=>by cases e),(λws t e=>by cases e)⟩
 refine KU (HN step λr hr=>?_);obtain ⟨old,x6,rfl,hx6,hol,hob⟩:=hr;refine KQ ?_;refine Kx (Yt (T5 U7 (Qa rfl)) (Qa rfl) rfl) ?_;obtain ⟨k2,rfl⟩:∃k:Nat,d2=k:=⟨d2.toNat,by omega⟩
 let tl:List Int:=(dg.drop (3+m)).take k2
 have tll:tl.length=k2:=by show ((dg.drop (3+m)).take k2).length=k2;rw[Q3,Jl];omega
 have tlb:∀j d,tl[j]?=some d->0<=d/\d<(m:Int):=λj d hj=>by
  have hjl:j<k2:=by have:=(Qg.mp hj).1;omega
  refine hdb (3+m+j) d _ ?_ (Aj (by omega))
  rw[←hj];show _=((dg.drop (3+m)).take k2)[j]?;rw[List.getElem?_take,Ql hjl,List.getElem?_drop]
 have hcut2:DL.cutD (dg.map int) (some (3+(m:Int))) (some (3+(m:Int)+(k2:Int)))=tl.map int:=by
  rw[MC (by omega) (by omega) (by omega)]
  have t1:(3+(m:Int)).toNat=3+m:=by omega
  have t2:(3+(m:Int)+(k2:Int)).toNat-(3+(m:Int)).toNat=k2:=by omega
  rw[t2,t1]
 apply KU;apply Yj (λi Z=>∃(T:List Int)(x8:Option Sl),Z=[pb (Ko cs ls),pb (.int c),pb (.int s),pb (.int m),pb (.list (([3,2,(m:Int)+1]++UJ m ((n:Int)+1)).map int)),pb (.list (dg.map int)),x6,some (.own (T.map int)),x8]/\T.length=i/\T.Nodup/\∀a∈T,0<=a/\a<(m:Int))
 case h1=>exact Yl (VJ (UU rfl) (Xy (Kk U6 (UU rfl) ZH)) (Xy (Kk (Kk U6 (UU rfl) ZH) (K7 rfl U6 i2) ZH)) (by rw[VR,hcut2])) YZ
 case h0=>exact ⟨[],_,rfl,rfl,List.nodup_nil,λ_ h=>by cases h⟩
 case hst=>
  rintro i d Z hi ⟨T,x8,rfl,hT,hTn,hTb⟩;rw[Qd] at hi
  cases hw:tl[i]? with
  |none=>rw[hw] at hi;cases hi
  |some z=>
  rw[hw] at hi;cases hi;have hz:=tlb i z hw;have hil:i<k2:=by have:=(Qg.mp hw).1;omega
  obtain ⟨zz,rfl⟩:∃k:Nat,z=k:=⟨z.toNat,by omega⟩
  refine ⟨_,U4 (Qa rfl) rfl,?_⟩;unfold Hk;obtain ⟨k,hk,hk1,hk2⟩:=jr (m:=m) (T:=T) zz (by omega) hTn
  refine Kx (F8 (by omega) k 1000 zz hk1 hk2 (by omega) (by omega)) ?_
  refine ZW (W4 rfl (UU rfl) rfl (by rw[Qb];omega) rfl) ?_
  refine ZB ⟨T++[(((zz+k) % m:Nat):Int)],_,by rw[Qz (l₁:=T) (f:=int)];rfl,by rw[Qj,hT];rfl,?_,λa ha=>?_⟩
  ·refine List.nodup_append.mpr ⟨hTn,List.nodup_cons.mpr ⟨(by simp),List.nodup_nil⟩,λa ha b hb e=>?_⟩
   rw[Ja.mp hb] at e;exact hk2 (e ▸ ha)
  ·rcases QW.mp ha with h|h
   ·exact hTb a h
   ·rw[Ja.mp h]
    have:=Nat.mod_lt (zz+k) (show 0<m by omega)
    exact ⟨by omega,by omega⟩
 case hend=>
  rintro Z ⟨T,x8,rfl,hT,hTn,hTb⟩;refine KQ ?_
  obtain ⟨o,ho⟩:∃o:Ord,oIx (.list [.str "firsts", .str "full", .str "lasts"]) (.int d0)=some (.str o.tx):=by
   have:d0=0∨d0=1∨d0=2:=by omega
   rcases this with rfl|rfl|rfl
   ·exact ⟨.firsts,ZD (j:=0) rfl⟩
   ·exact ⟨.full,ZD (j:=1) rfl⟩
   ·exact ⟨.lasts,ZD (j:=2) rfl⟩
  have ga:YL n m old T:=⟨hol,hob,hTn,hTb⟩;rcases hx6 with rfl|⟨ws,rfl,rfl⟩
  ·exact KI (Xs (UZ (Kk (Z7 (UZ U6 (UZ U6 (UZ U6 U7))) (Qa rfl)) (K7 rfl U6 i0) ho) (UZ (UU rfl) (UZ (Yh rfl rfl) U7))) (Qa rfl)) ⟨_,rfl,o,_,T,rfl,ga⟩
  ·exact KI (Xs (UZ (Kk (Z7 (UZ U6 (UZ U6 (UZ U6 U7))) (Qa rfl)) (K7 rfl U6 i0) ho) (UZ (Yh rfl rfl) (UZ (Yh rfl rfl) U7))) (Qa rfl)) ⟨_,rfl,o,some ws,T,rfl,ga⟩
end
theorem D9{op:Int->Int->Option D}{j:Nat}{f:M D}{Z Z1 Z':UR}{a b:Int}{d:D}(h0:Z[j]?=some (some (.pub (.int a))))(h1:f Z=.ok (.int b) Z1)(h2:op a b=some d)(h3:j<Z1.length)(h4:Z1.set j (some (.pub d))=Z'):Ve op j f Z=.nx Z':=by
 unfold Ve;rw[h0];dsimp only[sB];rw[h1];dsimp only;rw[h2];dsimp only;rw[Ql h3,h4]
theorem mulN{i j:Int}(h : -1000<j/\j<1000):Y6 i j=some (.int (i*j)):=by unfold Y6;exact Ql (.inr ⟨by omega,by omega⟩)
theorem Os{b n:Int}(hb : -1000<b/\b<1000)(hn : -1000<=n/\n<=1000):Yc [.int b,.int n]=some (.int (b ^ n.toNat)):=by
 refine Zp (Z:=[pb (.int b),pb (.int n),none,none]) rfl ?_;unfold Ry;refine Kx (K0 U6 (Qa rfl) rfl) ?_;apply KU;apply Yj (λi Z=>∃x3,Z=[pb (.int b),pb (.int n),pb (.int (b ^ i)),x3])
 case h1=>exact T4 (UZ (UU rfl) U7) (So (by omega) (by omega))
 case h0=>exact ⟨_,by rw[Int.pow_zero];rfl⟩
 case hst=>
  rintro i d Z hi ⟨x3,rfl⟩;refine ⟨_,U4 (Qa rfl) rfl,?_⟩;unfold Hm;refine ZW (D9 rfl (UU rfl) (mulN hb) (Qa rfl) rfl) ?_;exact ZB ⟨_,by rw[Int.pow_succ];rfl⟩
 case hend=>
  rintro Z ⟨x3,rfl⟩;refine KQ (KI (UU rfl) ?_);rw[Vc]
  congr 4
  omega
def Yo:Ord->Int->Int->Int->Int
 |.firsts,b,M,r=>b ^ (M-r).toNat
 |.full,b,M,r=>b ^ M.toNat+b ^ (M-r).toNat
 |.lasts,b,M,r=>b ^ M.toNat-b ^ (r-1).toNat
theorem jZ(o:Ord){b M r:Int}(hb : -1000<b/\b<1000)(hM:0<=M/\M<=100)(hr:0<=r/\r<=100):Tu [.str o.tx,.int b,.int M,.int r]=some (.int (Yo o b M r)):=by
 refine Zp (Z:=[pb (.str o.tx),pb (.int b),pb (.int M),pb (.int r)]) rfl ?_;unfold Rx;have p1:Yc [.int b,.int (M-r)]=some (.int (b ^ (M-r).toNat)):=Os hb ⟨by omega,by omega⟩
 have p2:Yc [.int b,.int M]=some (.int (b ^ M.toNat)):=Os hb ⟨by omega,by omega⟩
 have p3:Yc [.int b,.int (r-1)]=some (.int (b ^ (r-1).toNat)):=Os hb ⟨by omega,by omega⟩
 apply KU;apply KM
 case h1=>exact ZO rfl U6 (LC o)
 case h2=>
  intro h
  cases o with
  |firsts=>exact KI (Ky (UZ (UU rfl) (UZ (Kk (UU rfl) (UU rfl) Xp) U7)) rfl p1) (Xe rfl)
  |full=>cases h
  |lasts=>cases h
 case h3=>
  intro h;refine K4 (KQ ?_);apply KU;apply KM
  case h1=>exact ZO rfl U6 (P2 o)
  case h2=>
   intro h'
   cases o with
   |full=>exact KI (Kk (Ky (UZ (UU rfl) (UZ (UU rfl) U7)) rfl p2) (Ky (UZ (UU rfl) (UZ (Kk (UU rfl) (UU rfl) Xp) U7)) rfl p1) ZH) (Xe rfl)
   |firsts=>cases h
   |lasts=>cases h'
  case h3=>
   intro h';refine K4 (KQ ?_)
   cases o with
   |firsts=>cases h
   |full=>cases h'
   |lasts=>exact KI (Kk (Ky (UZ (UU rfl) (UZ (UU rfl) U7)) rfl p2) (Ky (UZ (UU rfl) (UZ (Kk (UU rfl) U6 Xp) U7)) rfl p3) Xp) rfl
def TQ(ts:List Int)(b i r:Int):Int:=if i∈ts then (b-r)*b ^ (ts.length-1-ts.idxOf i) else 0
theorem Ec{n:Nat}:∀{xs:List D},(∀x∈xs,PyData.weight x<=n)->PyData.weightAll xs<=xs.length*(n+1)
 |[],_=>by simp[PyData.weightAll]
 |x::xs,h=>by
  have h1:=h x Qn;have h2:=Ec (xs:=xs) λy hy=>h y (Qk _ hy);rw[PyData.weightAll,QF,Nat.succ_mul];omega
theorem jq{i:Int}(h:0<=i/\i<1000):(int i).weight<=10:=by
 simp only[PyData.weight];split
 ·omega
 ·rename_i hne
  have h0:i.natAbs≠0:=by intro e;exact hne (by simpa using e)
  have:=(Nat.log2_lt h0 (k:=10)).mpr (by omega)
  omega
theorem kj{ts:List Int}(h:∀a∈ts,0<=a/\a<1000)(hl:ts.length<=1000):PyData.layable0 (.list (ts.map int))=true:=by
 unfold PyData.layable0;have h1:(UK (ts.map int)).canLay0=true:=Oy λx hx=>by obtain ⟨y,_,rfl⟩:=Qr.mp hx;rfl
 have h2:(UK (ts.map int)).depth<=64:=QT (N9 (n:=1) (Nk λx hx=>by obtain ⟨y,_,rfl⟩:=Qr.mp hx;exact Hi y)) (by decide)
 have h3:(UK (ts.map int)).weight<=2 ^ 20:=by
  have:=Ec (n:=10) (xs:=ts.map int) λx hx=>by obtain ⟨y,hy,rfl⟩:=Qr.mp hx;exact jq (h y hy)
  rw[Qb] at this;simp only[PyData.weight];omega
 rw[h1,Q2 h2,Q2 h3]
 rfl
theorem Ag{ts:List Int}{k:Int}(hb:∀a∈ts,0<=a/\a<1000)(hl:ts.length<=1000)(h:k∈ts):Pu (.list (ts.map int)) [.int k]=some (.int (ts.idxOf k:Nat)):=by
 unfold Pu;dsimp only;rw[SH];dsimp only;exact Ql ⟨kj hb hl,h⟩
theorem Af{t:Int}{r:List Int}:X1 (.int t) (.list (r.map int))=some (!r.contains t):=by
 unfold X1;rw[O8]
 rfl
theorem jY{ts:List Int}{b i r:Int}(hb : -1000<b/\b<1000)(hr : -1000<r/\r<1000)(hl:ts.length<=100)(ht:∀a∈ts,0<=a/\a<1000):Tt [.list (ts.map int),.int b,.int i,.int r]=some (.int (TQ ts b i r)):=by
 refine Zp (Z:=[pb (.list (ts.map int)),pb (.int b),pb (.int i),pb (.int r),none]) rfl ?_;unfold Rw TQ;apply KU;apply KM
 case h1=>exact ZO rfl (UU rfl) Af
 case h2=>
  intro h
  have:¬i∈ts:=by simpa using h
  rw[Qs this];exact KI U6 (Xe rfl)
 case h3=>
  intro h;have hm:i∈ts:=by simpa using h
  rw[Ql hm];refine K4 (KQ ?_);have hi:=List.idxOf_lt_length_of_mem hm;have hlen:Ku [.list (ts.map int)]=some (.int ts.length):=by rw[ZR,Qb]
  refine Kx (K0 (Kk (Kk (Ye rfl hlen) U6 Xp) (BW (UU rfl) (UZ (UU rfl) U7) (Ag ht (by omega) hm)) Xp) (Qa rfl) rfl) ?_
  have hp:=Os (b:=b) (n:=(ts.length:Int)-1-(ts.idxOf i:Nat)) hb ⟨by omega,by omega⟩
  have e:((ts.length:Int)-1-(ts.idxOf i:Nat)).toNat=ts.length-1-ts.idxOf i:=by omega
  rw[e] at hp;exact KI (Kk (Kk (UU rfl) (UU rfl) Xp) (Ky (UZ (UU rfl) (UZ (UU rfl) U7)) rfl hp) (Oj (by omega) (by omega))) rfl
def Wm(old:Option LO)(i:Nat)(t:Int):Int:=match old with
 |none=>0
 |some ws=>if ws[i]?=some (some t) then 1 else 0
section
variable{cs:List Int}{ls:L3}{o:Ord}{old:Option LO}{ts:List Int}
def ZI(ls:L3)(o:Ord)(old:Option LO)(ts:List Int)(i:Nat)(rs:List (List Int))(t:Int):Int :=
 (Yo o (ls.length+1) (lng ls) (Zg t rs)*(ls.length+1)+Wm old i t)*((lng ls:Int)+1) ^ ts.length+TQ ts (lng ls+1) i (Zg t rs)
theorem Fa{b:Int}(h0:0<=b)(h:b<=8):∀{n k:Nat},n<=k->b ^ n<=8 ^ k:=λ{n k} hk=>by
 have e:b=((b.toNat:Nat):Int):=by omega
 rw[e];have h1:b.toNat ^ n<=8 ^ n:=Nat.pow_le_pow_left (by omega) n
 have h2:8 ^ n<=8 ^ k:=Nat.pow_le_pow_right (by omega) hk
 have h3:((b.toNat ^ n:Nat):Int)<=((8 ^ k:Nat):Int):=by omega
 rw[Int.natCast_pow,Int.natCast_pow] at h3;exact h3
theorem qx(g:Good cs ls)(ga:YL cs.length ls.length old ts){i:Nat}{rs:List (List Int)}(hi:ls[i]?=some rs)(t:Int):Vr [Ko cs ls,KT o old ts,.int (lng ls:Nat),.int i,.int t]=some (.int (ZI ls o old ts i rs t)):=by
 have l7:=g.l7;have l1:=g.l1;have hL:lng ls<=5:=Oe l1 λrs h=>(g.rk rs h).few;have hrk:Zg t rs<=5:=by have:=Nw t rs;have:=(g.rk rs (Qp hi)).few;omega
 have htl:=ga.few;have hlt:i<ls.length:=(Qg.mp hi).1;refine Zp (Z:=[pb (Ko cs ls),pb (KT o old ts),pb (.int (lng ls:Nat)),pb (.int i),pb (.int t),none,none,none,none,none,none,none,none]) rfl ?_;unfold Rv ZI;refine Kx (Vy (UU rfl) (KK rfl (Kc (U4 (Qa rfl) rfl) (Kc (U4 (Qa rfl) rfl) (Kc (U4 (Qa rfl) rfl) KL))))) ?_;refine Kx (K0 (K7 rfl U6 WZ) (Qa rfl) rfl) ?_;refine Kx (K0 (Ky (UZ (K7 rfl (UU rfl) (NL hi)) (UZ (UU rfl) U7)) rfl (FO t rs)) (Qa rfl) rfl) ?_;have hll:Ku [.list (ls.map Zc)]=some (.int ls.length):=by rw[ZR,Qb]
 have htl':Ku [.list (ts.map int)]=some (.int ts.length):=by rw[ZR,Qb]
 refine Kx (K0 (Kk (Ye rfl hll) U6 ZH) (Qa rfl) rfl) ?_
 have hk:∀Z:UR,Z[6]?=some (some (.pub (ZU old)))->Z[3]?=some (some (.pub (.int i)))->Z[4]?=some (some (.pub (.int t))) ->
   mIf (ZZ (Ka (λd=>!isNon d) (UN 6)) (U3 oEq (Ki 6 (UN 3)) (UN 4))) (U1 (int 1)) (U1 (.int 0)) Z=.ok (.int (Wm old i t)) Z:=λZ r6 r3 r4=>by
  cases old with
  |none=>
   exact OW (Pw (KP (UU r6))) U6
  |some ws=>
   have hw:ws.length=ls.length:=ga.len ws rfl;have hwi:ws[i]?=some ws[i]:=Qe (by omega)
   have hx:oIx (.list (ws.map Kf)) (.int i)=some (Kf ws[i]):=Po (by omega)
   have ht:(ZZ (Ka (λd=>!isNon d) (UN 6)) (U3 oEq (Ki 6 (UN 3)) (UN 4))) Z=.ok (decide (ws[i]=some t)) Z :=
    Pv (KP (UU r6)) (Kk (K7 r6 (UU r3) hx) (UU r4) (OS (b:=some t)))
   rw[EG ht U6 U6]
   congr 1
   unfold Wm;dsimp only;rw[hwi]
   by_cases h:ws[i]=some t
   ·rw[Q2 h,Ql rfl,Ql (by rw[h])]
   ·rw[QG h,Qs (by decide),Qs (λe=>h (QX e))]
 refine Kx (K0 (hk _ rfl rfl rfl) (Qa rfl) rfl) ?_;have h1:=jZ o (b:=(ls.length:Int)+1) (M:=(lng ls:Nat)) (r:=(Zg t rs:Nat)) ⟨by omega,by omega⟩ ⟨by omega,by omega⟩ ⟨by omega,by omega⟩
 have h2:=Os (b:=(lng ls:Int)+1) (n:=(ts.length:Nat)) ⟨by omega,by omega⟩ ⟨by omega,by omega⟩
 have h3:=jY (ts:=ts) (b:=(lng ls:Int)+1) (i:=i) (r:=(Zg t rs:Nat)) ⟨by omega,by omega⟩ ⟨by omega,by omega⟩ (by omega) (λa ha=>by have:=ga.there a ha;omega)
 rw[Qv] at h2;refine Kx (K0 (Kk (Kk (Ky (UZ (UU rfl) (UZ (UU rfl) (UZ (UU rfl) (UZ (UU rfl) U7)))) rfl h1) (UU rfl) (PH (by omega) (by omega))) (UU rfl) ZH) (Qa rfl) rfl) ?_
 have hp:((lng ls:Int)+1) ^ ts.length<=8 ^ 7:=Fa (by omega) (by omega) (by omega)
 have hp0:0<=((lng ls:Int)+1) ^ ts.length:=Int.pow_nonneg (by omega)
 exact KI (Kk (Kk (UU rfl) (Ky (UZ (Kk (UU rfl) U6 ZH) (UZ (Ye rfl htl') U7)) rfl h2) (PH (by omega) (by omega))) (Ky (UZ (UU rfl) (UZ (Kk (UU rfl) U6 ZH) (UZ (UU rfl) (UZ (UU rfl) U7)))) rfl h3) ZH) rfl
end
theorem PK{s:D->UR->Option UR}{t:M Bool}{g:M D}(I:UR->Prop):∀(ds:List D)(qs:List (Option D))(Z:UR)(es:List D),qs.length=ds.length ->
  (∀(i:Nat) d e,ds[i]?=some d->qs[i]?=some e->∀Z,I Z->∃Z1,s d Z=some Z1/\t Z1=.ok e.isSome Z1/\(∀x,e=some x->g Z1=.ok x Z1)/\I (KJ Z1))->I Z->es.length+ds.length<=1000000->Zs s t g ds Z es=some (es++qs.filterMap id)
 |[],[],Z,es,_,_,_,_=>by rw[Zs];simp
 |d::r,e::q,Z,es,hl,st,h0,hz=>by
  obtain ⟨Z1,e1,e2,e3,h1⟩:=st 0 d e rfl rfl Z h0;rw[QF] at hz;have ih:=λes' hz'=>PK I r q (KJ Z1) es' (by simpa using hl) (λi d' e' x y=>st (i+1) d' e' (by simpa using x) (by simpa using y)) h1 hz'
  rw[Zs,e1];dsimp only;rw[e2];dsimp only
  cases e with
  |none=>
   rw[if_neg (show ¬(none:Option D).isSome=true by simp),ih es (by omega)]
   rfl
  |some x=>
   rw[Ql (show (some x).isSome=true from rfl),e3 x rfl]
   dsimp only;rw[Ql (by omega),ih (es++[x]) (by rw[Qj,Ji];omega),Jg]
   rfl
def K3(W:Nat->List (List Int)->Int->Int):Nat->L3->LO->LO
 |k,rs::ls,o::r=>(o.map (W k rs))::K3 W (k+1) ls r
 |_,_,_=>[]
def Zb(l:LO):Int:=(l.filterMap id).sum
theorem SL{o:Option Int}{l:LO}:Zb (o::l)=o.getD 0+Zb l:=by
 cases o with
 |none=>show Zb l=0+Zb l;omega
 |some x=>show (x::l.filterMap id).sum=_;rw[Jd];rfl
section
variable{cs:List Int}{ls:L3}{o:Ord}{old:Option LO}{ts:List Int}{ws:LO}
def Zm(ls:L3)(o:Ord)(old:Option LO)(ts:List Int)(a t:Int):Int:=ZI ls o old ts a.toNat (ls.getD a.toNat []) t
def ZP(V:Int->Int->Int)(q:Int×Int):D:=.tuple [.int q.1,.int q.2,.int (V q.1 q.2)]
theorem Er(g:Good cs ls)(ga:YL cs.length ls.length old ts):WK [Ko cs ls,KT o old ts]=some (.list ((KS 0 ls).map (ZP (Zm ls o old ts)))):=by
 refine Zp (Z:=[pb (Ko cs ls),pb (KT o old ts),none]) rfl ?_;unfold Ru;refine Kx (W9 (Ky (UZ (UU rfl) (UZ (UU rfl) U7)) rfl (LB g ga))) ?_;refine Kx (K0 (Ky (UZ (UU rfl) U7) rfl (FN g)) (Qa rfl) rfl) ?_;have few:(KS 0 ls).length<=42:=by rw[(Ow ls 0).length_eq];exact O9 g
 have hc:Zs (gT 2 (gNC (gN 3) (gNC (gN 4) (gN0)))) (U1 true) (Ze (UY (UN 3) (UY (UN 4) (UY (U5 5 Vr (UY (UN 0) (UY (UN 1) (UY (UN 2) (UY (UN 3) (UY (UN 4) (UT))))))) (UT))))) ((KS 0 ls).map Zn) (KJ [pb (Ko cs ls),pb (KT o old ts),pb (.int (lng ls:Nat))]++UJ 2 none) []=some ((KS 0 ls).map (ZP (Zm ls o old ts))):=by
  refine XM (λZ=>∃x y,Z=[pb (Ko cs ls),pb (KT o old ts),pb (.int (lng ls:Nat)),x,y]) _ _ _ _ (by simp only[Qb]) ?_ ⟨none,none,rfl⟩ (by rw[Qb,QC];omega)
  rintro i d e hd he Z ⟨x,y,rfl⟩;rw[Qd] at hd he
  cases hw:(KS 0 ls)[i]? with
  |none=>rw[hw] at hd;cases hd
  |some q=>
  rw[hw] at hd he;cases hd;cases he;obtain ⟨a,t⟩:=q;obtain ⟨j,rs,hj,ha,ht⟩:=Sj (Qp hw);have ha:a=(j:Int):=by rw[QU] at ha;exact ha
  subst ha;have hv:Zm ls o old ts j t=ZI ls o old ts j rs t:=by unfold Zm;rw[Qv,Qh,hj];rfl
  refine ⟨_,KK rfl (Kc (U4 (Qa rfl) rfl) (Kc (U4 (Qa rfl) rfl) KL)),rfl,?_,_,_,rfl⟩;unfold ZP;dsimp only;rw[hv];exact Xs (UZ (UU rfl) (UZ (UU rfl) (UZ (Ky (UZ (UU rfl) (UZ (UU rfl) (UZ (UU rfl) (UZ (UU rfl) (UZ (UU rfl) U7))))) rfl (qx g ga hj t)) U7))) (Qa rfl)
 exact KI (KP (Ys (Yl (Ky (UZ (UU rfl) U7) rfl (kW g)) YZ) hc)) rfl
end
theorem GJ{n:Nat}:ixN (n+1) (-1)=some n:=by
 unfold ixN;rw[Qs (by omega),Ql (by omega)]
 congr 1
 omega
theorem D8{op:Int->Int->Option D}{j:Nat}{f g:M D}{Z Z':UR}{xs:List Int}{p:Nat}{k d b:Int}(h0:Z[j]?=some (some (.own (xs.map int))))(h1:g Z=.ok (.int k) Z)(hk:ixN xs.length k=some p)(h4:f Z=.ok (.int b) Z)(h5:∀a,op a b=some (.int (a+d)))
  (h8:Z.set j (some (.own ((WS xs p d).map int)))=Z'):TW op j g f Z=.nx Z':=by
 have hp:=(Mi hk).2.1;refine Hg (n:=p) h0 h1 h0 (a:=xs.getD p 0) ?_ h4 (h5 _) h0 (by rw[Qb];exact hk) ?_
 ·unfold atI
  rw[Qb,hk];show (xs.map int)[p]?=_;rw[List.getElem?_map,List.getElem?_eq_getElem hp];simp[List.getD,List.getElem?_eq_getElem hp]
 ·rw[←h8,MD];rfl
section
variable{cs:List Int}{ls:L3}{ws:LO}
theorem Lc(g:Good cs ls):XG [Ko cs ls]=some (.int (lng ls:Nat)):=by
 refine Zp (Z:=[pb (Ko cs ls)]) rfl ?_;unfold S9
 have hc:Zs (gN 1) (U1 true) (ZM 1) (ls.map Zc) (KJ [pb (Ko cs ls)]++UJ 1 none) []=some ((ls.map λrs=>(rs.length:Int)).map int):=by
  refine XM (λZ=>∃x,Z=[pb (Ko cs ls),x]) _ _ _ _ (by rw[Qb,Qb,Qb]) ?_ ⟨none,rfl⟩ (by rw[Qb,QC];have:=g.l7;omega)
  rintro i d e hd he Z ⟨x,rfl⟩;rw[Qd] at hd;rw[Qd,Qd] at he
  cases hl:ls[i]? with
  |none=>rw[hl] at hd;cases hd
  |some rs=>
  rw[hl] at hd he;cases hd;cases he;exact ⟨_,U4 (Qa rfl) rfl,rfl,Ye rfl (FE rs),_,rfl⟩
 refine KI (Yg (UZ (KP (Ys (Yl (K7 rfl U6 WZ) YZ) hc)) U7) (Gu (by rw[Qb];have:=g.l1;omega))) ?_
 rw[N5 g.l1]
theorem Lb{i:Nat}{rs:List (List Int)}(h:ls[i]?=some rs)(t:Int):XH [Ko cs ls,.int i,.int t]=some (.int (Zg t rs:Nat)):=by
 refine Zp (Z:=[pb (Ko cs ls),pb (.int i),pb (.int t),none,none]) rfl ?_;unfold Ra;apply KU;apply Yj (λi' Z=>(∃x2 x3,Z=[pb (Ko cs ls),pb (.int i),pb (.int t),x2,x3])/\∀j r,j<i'->rs[j]?=some r->r.contains t=false)
 case h1=>exact XQ (UZ (Kk (K7 rfl U6 WZ) (UU rfl) (NL h)) U7) XN
 case h0=>exact ⟨⟨_,_,rfl⟩,λj r h=>absurd h (JU _)⟩
 case hst=>
  rintro k d Z hi ⟨⟨x2,x3,rfl⟩,hb⟩;obtain ⟨x,hx,rfl⟩:=Xo hi;rw[Qd] at hx
  cases hr:rs[k]? with
  |none=>rw[hr] at hx;cases hx
  |some r=>
   rw[hr] at hx;cases hx;refine ⟨_,KK rfl (Kc (U4 (Qa rfl) rfl) (Kc (U4 (Qa rfl) rfl) KL)),?_⟩;unfold L6;apply KM
   case h1=>exact ZO rfl (UU rfl) (N7 t r)
   case h2=>
    intro hh;refine KI (Kk (UU rfl) U6 ZH) (VD ?_);rw[FH hr hh hb];refine ⟨?_⟩
    congr 2
    omega
   case h3=>
    intro hh;refine K4 (ZB ⟨⟨_,_,rfl⟩,λj r' hj e=>?_⟩);rcases Jx.mp hj with hj|rfl
    ·exact hb j r' hj e
    ·rw[hr] at e;cases e;exact hh
 case hend=>
  rintro Z ⟨⟨x2,x3,rfl⟩,hb⟩;refine KQ (KI U6 ?_);rw[FG (λj r hj e=>hb j r (by rw[YQ,Qb];exact hj) e)]
  rfl
def Kz(n:Nat)(qs:List Nat):List Int:=(UI n).map λp=>((qs.count p:Nat):Int)
theorem Xq(n:Nat)(qs:List Nat):(Kz n qs).length=n:=by unfold Kz;rw[Qb,Qq]
theorem Sz{n p:Nat}{qs:List Nat}(h:p<n):(Kz n qs)[p]?=some ((qs.count p:Nat):Int):=by
 unfold Kz;rw[Qd,Q5 h];rfl
theorem GI(n:Nat):Kz n []=UJ n 0:=by
 unfold Kz;rw[List.eq_replicate_iff];exact ⟨by rw[Qb,Qq],λb hb=>by obtain ⟨p,_,rfl⟩:=Qr.mp hb;rfl⟩
theorem GZ{n p:Nat}{qs:List Nat}:WS (Kz n qs) p 1=Kz n (qs++[p]):=by
 apply Ju;intro k
 by_cases hk:k<n
 ·rw[FD (Sz hk),Sz hk,List.count_append]
  congr 1
  by_cases e:k=p
  ·rw[Ql e,e,List.count_singleton_self];omega
  ·rw[Qs e,List.count_singleton]
   have:(p==k)=false:=by rw[beq_eq_false_iff_ne];exact λz=>e z.symm
   rw[this];show _=(((_+0:Nat)):Int);omega
 ·rw[QD (by rw[MT,Xq];omega),QD (by rw[Xq];omega)]
theorem MS{L:Nat}{got:List Int}(h:okR L got):Kz (L+1) (got.map (plc L))=KB L got:=by
 apply Ju;intro k
 by_cases hk:k<L+1
 ·rw[Sz hk,BD h hk]
 ·rw[QD (by rw[Xq];omega),QD (by rw[VU];omega)]
theorem Oq(hl:ws.length=ls.length):(Kb ls ws).length=ls.length:=by unfold Kb;rw[J0];omega
theorem kT(g:Good cs ls)(dl:Deal cs ls ws):Tg [Ko cs ls,Kl ws]=some (.list ((KB (lng ls) (Kb ls ws)).map int)):=by
 have hL:lng ls<=5:=Oe g.l1 λrs h=>(g.rk rs h).few;have l7:=g.l7;refine Zp (Z:=[pb (Ko cs ls),pb (Kl ws),none,none,none]) rfl ?_;unfold S5;have hadd:Kh (.int (lng ls:Nat)) (.int 1)=some (.int ((lng ls+1:Nat):Int)):=by rw[ZH];rfl
 refine Kx (Yt (Mr (n:=lng ls+1) (Z7 (UZ U6 U7) (Qa rfl)) (Kk (Ky (UZ (UU rfl) U7) rfl (Lc g)) U6 hadd) (by omega)) (Qa rfl) rfl) ?_
 apply KU;apply Yj (λi Z=>∃x3 x4,Z=[pb (Ko cs ls),pb (Kl ws),some (.own ((Kz (lng ls+1) (((Kb ls ws).take i).map (plc (lng ls)))).map int)),x3,x4])
 case h1=>exact XQ (UZ (UU rfl) U7) XN
 case h0=>exact ⟨_,_,by rw[J4,Ul,GI,Uc];rfl⟩
 case hst=>
  rintro i d Z hi ⟨x3,x4,rfl⟩;obtain ⟨z,hz,rfl⟩:=Xo hi;rw[Qd] at hz
  cases hwi:ws[i]? with
  |none=>rw[hwi] at hz;cases hz
  |some o=>
  rw[hwi] at hz;cases hz;have hil:i<ls.length:=by have:=(Qg.mp hwi).1;have:=dl.len;omega
  have hls:ls[i]?=some ls[i]:=Qe hil;have hg:=MJ hls hwi
  have hnext:(((Kb ls ws).take (i+1)).map (plc (lng ls)))=((Kb ls ws).take i).map (plc (lng ls))++[plc (lng ls) (rg ls[i] o)]:=by
   rw[JK,hg,Qz];rfl
  rw[QU];refine ⟨_,KK rfl (Kc (U4 (Qa rfl) rfl) (Kc (U4 (Qa rfl) rfl) KL)),?_⟩;unfold L5;generalize ((Kb ls ws).take i).map (plc (lng ls))=qs at hnext ⊢
  cases o with
  |none=>
   apply KM
   case h1=>exact KP (k:=isNon) (x:=PyData.none) (UU rfl)
   case h3=>intro h;cases h
   case h2=>
    intro _;have e:plc (lng ls) (rg ls[i] none)=lng ls:=rfl;refine ZW (D8 (p:=lng ls) (k:=-1) rfl (Vz U6) (by rw[Xq];exact GJ) U6 (d:=1) (λa=>rfl) rfl) ?_
    refine ZB ⟨some (.pub (.int i)),some (.pub .none),?_⟩;rw[hnext,e,←GZ]
    rfl
  |some t=>
   apply KM
   case h1=>exact KP (k:=isNon) (x:=int t) (UU rfl)
   case h2=>intro h;cases h
   case h3=>
    intro _;have hr:=OC (dl.wish i t ls[i] hwi hls);have hle:=Nw t ls[i];have hlg:=NP (Qp hls)
    have e:plc (lng ls) (rg ls[i] (some t))=Zg t ls[i]-1:=by
     show plc (lng ls) ((Zg t ls[i]:Nat):Int)=_;unfold plc;rw[Qs (by omega)]
     omega
    have hsub:Zk (.int (Zg t ls[i]:Nat)) (.int 1)=some (.int ((Zg t ls[i]-1:Nat):Int)):=by rw[Xp];congr 2;omega
    refine ZW (Cb (p:=Zg t ls[i]-1) rfl (Kk (Ky (UZ (UU rfl) (UZ (UU rfl) (UZ (UU rfl) U7))) rfl (Lb hls t)) U6 hsub) (by rw[Xq];omega) U6 (d:=1) (λa=>rfl) rfl) ?_
    refine ZB ⟨some (.pub (.int i)),pb (.int t),?_⟩;rw[hnext,e,←GZ]
    rfl
 case hend=>
  rintro Z ⟨x3,x4,rfl⟩;refine KQ (KI (Yh rfl rfl) ?_);rw[YQ,Qb,List.take_of_length_le (by rw[Oq dl.len];have:=dl.len;omega),MS Sa]
end
section
variable{cs:List Int}{ls:L3}{ws us:LO}
theorem ix_c{t:Int}(h0:0<=t)(h:t<cs.length):oIx (.list (cs.map int)) (.int t)=some (.int (cs.getD t.toNat 0)):=by
 have e:t=((t.toNat:Nat):Int):=by omega
 rw[e];refine ZD ?_;rw[Qd,Qe (by omega),Qh,Qv,Qe (by omega)]
 rfl
theorem F7{t:Int}{fl:List Int}:X1 (.int t) (.list ((YD fl).map int))=some (!fl.contains t):=by
 have e:(YD fl).contains t=fl.contains t:=by
  rw[JH];simp only[List.contains_iff_mem];exact (Wt fl).mem_iff
 unfold X1;rw[O8,e]
 rfl
theorem Ep(i:Int):Tf [.int i]=some (.bool true):=by
 refine Zp (Z:=[pb (.int i)]) rfl ?_;unfold SZ
 exact KI (O5 (KP (k:=λd=>UL (Zh d "int")) (UU rfl)) (λ_=>HR (KP (k:=λd=>UL (Zh d "bool")) (UU rfl)))) rfl
theorem xb(g:Good cs ls)(hl:us.length=ls.length)(hr:∀t,some t∈us->0<=t/\t<cs.length):∃r,XE [Ko cs ls,Kl us]=some r/\∃b,r=.bool b/\(b=true->Deal cs ls us):=by
 refine WW (Z:=[pb (Ko cs ls),pb (Kl us),none,none]) rfl ?_;unfold V2;have l7:=g.l7;have hll:Ku [.list (ls.map Zc)]=some (.int ls.length):=by rw[ZR,Qb]
 have hul:Ku [Kl us]=some (.int us.length):=by unfold Kl;rw[ZR,Qb]
 have hne:oNe (.int us.length) (.int ls.length)=some false:=by rw[Sb,hl];simp
 have hsz:∀Z:UR,Z[0]?=some (some (.pub (Ko cs ls)))->Z[1]?=some (some (.pub (Kl us)))->U3 oNe (ZM 1) (ZN Ku (UY (Ki 0 (U1 (.int 1))) UT)) Z=.ok false Z:=λZ r0 r1=>
  Kk (Ye r1 hul) (Yg (UZ (K7 r0 U6 WZ) U7) hll) hne
 apply KU;apply KM
 case h1=>exact Wr (XV (XY (KP (k:=λd=>UL (Zh d "list")) (x:=Kl us) (UU rfl)))) (hsz _ rfl rfl)
 case h2=>intro h;cases h
 case h3=>
  intro _;refine K4 (KQ ?_);apply KU;apply Yj (λi Z=>(∃x2 x3,Z=[pb (Ko cs ls),pb (Kl us),x2,x3])/\∀(j:Nat) t rs,j<i->us[j]?=some (some t)->ls[j]?=some rs->t∈rs.flatten/\((us.count (some t):Nat):Int)<=cs.getD t.toNat 0)
  case h1=>exact XQ (UZ (UU rfl) U7) XN
  case h0=>exact ⟨⟨_,_,rfl⟩,λj t rs h=>absurd h (JU _)⟩
  case hst=>
   rintro i d Z hi ⟨⟨x2,x3,rfl⟩,hb⟩;obtain ⟨z,hz,rfl⟩:=Xo hi;rw[Qd] at hz
   cases hwi:us[i]? with
   |none=>rw[hwi] at hz;cases hz
   |some o=>
   rw[hwi] at hz;cases hz;have hil:i<ls.length:=by have:=(Qg.mp hwi).1;omega
   have hls:ls[i]?=some ls[i]:=Qe hil;rw[QU];refine ⟨_,KK rfl (Kc (U4 (Qa rfl) rfl) (Kc (U4 (Qa rfl) rfl) KL)),?_⟩;unfold Mn
   cases o with
   |none=>
    apply KU;apply KM
    case h1=>exact Pw (KP (k:=λd=>!isNon d) (x:=PyData.none) (UU rfl))
    case h2=>intro h;cases h
    case h3=>
     intro _;refine K4 (KQ ?_);apply KM
     case h1=>exact Pw (KP (k:=λd=>!isNon d) (x:=PyData.none) (UU rfl))
     case h2=>intro h;cases h
     case h3=>
      intro _;refine K4 (ZB ⟨⟨_,_,rfl⟩,λj t rs hj e1 e2=>?_⟩);rcases Jx.mp hj with hj|rfl
      ·exact hb j t rs hj e1 e2
      ·rw[hwi] at e1;cases e1
   |some t=>
    have ht:=hr t (Qp hwi)
    have hfl:(ls[i]).flatten.length<64:=by
     have gr:=g.rk ls[i] (Qp hls)
     have:=Sk cs.length _ gr.once gr.flat
     have:=g.c6
     omega
    apply KU;apply KM
    case h1=>exact Pv (KP (k:=λd=>!isNon d) (x:=int t) (UU rfl)) (Wr (XV (XY (Ky (UZ (UU rfl) U7) rfl (Ep t)))) (ZO rfl (Ky (UZ (UU rfl) (UZ (UU rfl) U7)) rfl (Nx hls hfl)) F7))
    case h2=>exact λ_=>KI U6 (Xe (VD ⟨_,rfl,false,rfl,λh=>by cases h⟩))
    case h3=>
     intro h1;refine K4 (KQ ?_);apply KM
     case h1=>exact Pv (KP (k:=λd=>!isNon d) (x:=int t) (UU rfl)) (Kk (Ol (UU rfl) (UZ (UU rfl) U7) NA) (Kk (K7 rfl U6 TX) (UU rfl) (ix_c ht.1 ht.2)) rfl)
     case h2=>exact λ_=>KI U6 (VD ⟨_,rfl,false,rfl,λh=>by cases h⟩)
     case h3=>
      intro h2;refine K4 (ZB ⟨⟨_,_,rfl⟩,λj t' rs hj e1 e2=>?_⟩);rcases Jx.mp hj with hj|rfl
      ·exact hb j t' rs hj e1 e2
      ·rw[hwi] at e1
       rw[hls] at e2;cases e1;cases e2;have h2:=Jb h2;exact ⟨by simpa using h1,by omega⟩
  case hend=>
   rintro Z ⟨⟨x2,x3,rfl⟩,hb⟩;refine KQ (KI U6 ⟨_,rfl,true,rfl,λ_=>⟨hl,λi t rs h1 h2=>?_,λk c hk=>?_⟩⟩)
   ·exact (hb i t rs (by rw[YQ,Qb];exact (Qg.mp h1).1) h1 h2).1
   ·rcases Nat.eq_zero_or_pos (us.count (some (k:Int))) with h0|h0
    ·rw[h0];exact (g.c7 c (Qp hk)).1
    ·obtain ⟨i,hi,e⟩:=JY.mp (List.count_pos_iff.mp h0)
     have e1:us[i]?=some (some (k:Int)):=by rw[Qe hi,e]
     have hil:i<ls.length:=by omega
     have:=(hb i k ls[i] (by rw[YQ,Qb];exact hi) e1 (Qe hil)).2
     rw[Qv,Qh,hk] at this;exact this
theorem Deal.range(g:Good cs ls)(dl:Deal cs ls ws):∀t,some t∈ws->0<=t/\t<cs.length:=λt ht=>by
 obtain ⟨i,hi,e⟩:=JY.mp ht;have hil:i<ls.length:=by have:=dl.len;omega
 have hls:ls[i]?=some ls[i]:=Qe hil;exact (g.rk _ (Qp hls)).flat t (dl.wish i t _ (by rw[Qe hi,e]) hls)
end
section
variable{cs:List Int}{ls:L3}{ws:LO}
theorem GH(g:Good cs ls)(dl:Deal cs ls ws){us:LO}{x2 x3 x4 x5 x6 x8:Option Sl}(hl:us.length=ls.length)(hr:∀t,some t∈us->0<=t/\t<cs.length) :
  Ho (U2 (sIf (YF (Pm 2 XE (UY (UN 0) (Pp 7 (UT))))) (U9 (UN 7)) (sNx)) (U9 (Ka UK (Wi 1))))
   [pb (Ko cs ls),pb (Kl ws),x2,x3,x4,x5,x6,some (.own (us.map Kf)),x8] (λo=>∃d,o=Out.rt d/\∃vs,d=Kl vs/\Deal cs ls vs):=by
 obtain ⟨r,hF,b,rfl,hb⟩:=xb g hl hr;apply KU;apply KM
 case h1=>exact XY (By (UZ (UU rfl) (BP rfl U7 rfl)) rfl hF)
 case h2=>exact λh=>KI (Yh rfl rfl) (Xe ⟨_,rfl,us,rfl,hb h⟩)
 case h3=>exact λ_=>K4 (KQ (KI (KP (SB rfl (show Wa [Kl ws]=some (ws.map Kf) from rfl))) ⟨_,rfl,ws,rfl,dl⟩))
theorem N3{us:LO}{k:Nat}{o:Option Int}:(us.map Kf).set k (Kf o)=(us.set k o).map Kf:=by rw[List.map_set]
theorem GY(g:Good cs ls)(dl:Deal cs ls ws)(c s:Int):∃r,Vn [Ko cs ls,Kl ws,.int c,.int s]=some r/\∃vs,r=Kl vs/\Deal cs ls vs:=by
 refine WW (Z:=[pb (Ko cs ls),pb (Kl ws),pb (.int c),pb (.int s),none,none,none,none,none]) rfl ?_;unfold SY;have l7:=g.l7;have l1:=g.l1;have len:=dl.len
 obtain ⟨r,hF,dg,rfl,hdl,hdb⟩:=OB c s (sizes:=[2,7,7,61]) (λx hx=>by
  have hx:x=2∨x=7∨x=61:=by simpa using hx
  omega) (by show 4<=1000;decide)
 have hd4:dg.length=4:=hdl
 match dg,hd4 with
 |[d0,d1,d2,d3],_=>
 have b1:=hdb 1 d1 _ rfl rfl;have b2:=hdb 2 d2 _ rfl rfl;have b3:=hdb 3 d3 _ rfl rfl;refine Kx (K0 (Ky (UZ (UU rfl) (UZ (UU rfl) (UZ (Z7 (UZ U6 (UZ U6 (UZ U6 (UZ U6 U7)))) (Qa rfl)) U7))) rfl hF) (Qa rfl) rfl) ?_;have x0:oIx (.list ([d0,d1,d2,d3].map int)) (.int 0)=some (.int d0):=ZD (j:=0) rfl;have x1:oIx (.list ([d0,d1,d2,d3].map int)) (.int 1)=some (.int d1):=ZD (j:=1) rfl;have x2:oIx (.list ([d0,d1,d2,d3].map int)) (.int 2)=some (.int d2):=ZD (j:=2) rfl;have x3:oIx (.list ([d0,d1,d2,d3].map int)) (.int 3)=some (.int d3):=ZD (j:=3) rfl;have hul:Ku [Kl ws]=some (.int ws.length):=by unfold Kl;rw[ZR,Qb]
 obtain ⟨a,ha⟩:∃a:Nat,d1 % (ws.length:Int)=a:=⟨(d1 % (ws.length:Int)).toNat,by have:=Uf d1 (show (ws.length:Int)≠0 by omega);omega⟩
 obtain ⟨b,hb⟩:∃b:Nat,d2 % (ws.length:Int)=b:=⟨(d2 % (ws.length:Int)).toNat,by have:=Uf d2 (show (ws.length:Int)≠0 by omega);omega⟩
 have hal:a<ws.length:=by have:=JQ d1 (show 0<(ws.length:Int) by omega);omega
 have hbl:b<ws.length:=by have:=JQ d2 (show 0<(ws.length:Int) by omega);omega
 have m1:ZL (.int d1) (.int ws.length)=some (.int a):=by rw[Wp (by omega),ha]
 have m2:ZL (.int d2) (.int ws.length)=some (.int b):=by rw[Wp (by omega),hb]
 refine Kx (K0 (Kk (K7 rfl U6 x1) (Ye rfl hul) m1) (Qa rfl) rfl) ?_;refine Kx (K0 (Kk (K7 rfl U6 x2) (Ye rfl hul) m2) (Qa rfl) rfl) ?_;refine Kx (Yt (SB rfl (show Wa [Kl ws]=some (ws.map Kf) from rfl)) (Qa rfl) rfl) ?_
 have hrg:=dl.range g;have ia:oIx (Kl ws) (.int a)=some (Kf ws[a]):=Po hal;have ib:oIx (Kl ws) (.int b)=some (Kf ws[b]):=Po hbl;have hls:ls[a]?=some (ls[a]'(by omega)):=Qe (by omega)
 generalize ls[a]'(by omega)=rs at hls
 have gr:=g.rk rs (Qp hls);apply KU;apply KM
 case h1=>exact Kk (K7 rfl U6 x0) U6 Wf
 case h2=>
  intro _;refine Kx (Sc (k:=a) (K7 rfl (UU rfl) ib) rfl (UU rfl) rfl (by rw[Qb];omega) rfl) ?_
  refine ZW (Sc (k:=b) (K7 rfl (UU rfl) ia) rfl (UU rfl) rfl (by rw[QY,Qb];omega) rfl) ?_
  refine KQ ?_;rw[Qv,Qv,N3,N3];refine GH g dl (by rw[QY,QY];exact len) λt ht=>?_
  rcases List.mem_or_eq_of_mem_set ht with ht|ht
  ·rcases List.mem_or_eq_of_mem_set ht with ht|ht
   ·exact hrg t ht
   ·exact hrg t (by rw[ht];exact Jq _)
  ·exact hrg t (by rw[ht];exact Jq _)
 case h3=>
  intro _
  have hfl:rs.flatten.length<64:=by
   have:=Sk cs.length _ gr.once gr.flat
   have:=g.c6
   omega
  let os:LO:=(YD rs.flatten).map some++[none]
  have hos:os.map Kf=(YD rs.flatten).map int++[.none]:=by show (List.map some (YD rs.flatten)++[none]).map Kf=_;rw[Qz,QP];rfl
  have hsl:(YD rs.flatten).length=rs.flatten.length:=(Wt rs.flatten).length_eq
  have hadd:Kh (.list ((YD rs.flatten).map int)) (.list [.none])=some (.list (os.map Kf)):=by
   rw[XX (by rw[Qb,hsl];show _+1<=_;omega),hos]
  have hol:0<os.length:=by show 0<(List.map some (YD rs.flatten)++[none]).length;rw[Qj];show 0<_+1;omega
  have hlo:Ku [.list (os.map Kf)]=some (.int os.length):=by rw[ZR,Qb]
  refine Kx (K0 (Kk (Ky (UZ (UU rfl) (UZ (UU rfl) U7)) rfl (Nx hls hfl)) (Z7 (UZ U6 U7) (Qa rfl)) hadd) (Qa rfl) rfl) ?_;obtain ⟨k,hk⟩:∃k:Nat,d3 % (os.length:Int)=k:=⟨(d3 % (os.length:Int)).toNat,by have:=Uf d3 (show (os.length:Int)≠0 by omega);omega⟩
  have hkl:k<os.length:=by have:=JQ d3 (show 0<(os.length:Int) by omega);omega
  have m3:ZL (.int d3) (.int os.length)=some (.int k):=by rw[Wp (by omega),hk]
  refine ZW (Sc (k:=a) (K7 rfl (Kk (K7 rfl U6 x3) (Ye rfl hlo) m3) (Po hkl)) rfl (UU rfl) rfl (by rw[Qb];omega) rfl) ?_
  refine KQ ?_;rw[Qv,N3];refine GH g dl (by rw[QY];exact len) λt ht=>?_
  rcases List.mem_or_eq_of_mem_set ht with ht|ht
  ·exact hrg t ht
  ·have hm:os[k]∈os:=Jq _
   rw[←ht] at hm;rcases QW.mp hm with hm|hm
   ·obtain ⟨y,hy,e⟩:=Qr.mp hm
    cases e;exact gr.flat t ((Wt rs.flatten).mem_iff.mp hy)
   ·cases Ja.mp hm
end
theorem NQ(o:Ord):oEq (.str o.tx) (.str "lasts")=some (match o with | .lasts=>true|_=>false):=by cases o <;> decide +kernel
def YX(c:List Int):Int:=c.getD (c.length-1) 0
def XA:Ord->List Int->List Int
 |.firsts,c=>c
 |.full,c=>(0-YX c)::c
 |.lasts,c=>c.reverse.map λx=>0-x
def Zi(old:Option LO)(ws:LO):Nat:=match old with
 |none=>0
 |some os=>((os.zip ws).filter λp=>decide (p.1=p.2)&&p.2.isSome).length
def Zy(ls:L3)(ws:LO)(a:Int):Int:=match ws.getD a.toNat none with
 |none=>0
 |some t=>(lng ls:Int)+1-(Zg t (ls.getD a.toNat []):Nat)
theorem Ae{c:List Int}(h:c≠[]):oIx (.list (c.map int)) (.int (-1))=some (.int (YX c)):=by
 have hl:0<c.length:=Ur.mpr h;show atI (c.map int) (-1)=_;obtain ⟨n,hn⟩:∃n,c.length=n+1:=⟨c.length-1,by omega⟩
 unfold atI;rw[Qb,hn,GJ];show (c.map int)[n]?=_;unfold YX;rw[Qd,hn,Ub,Qh,Qe (by omega)]
 rfl
theorem GX(os ws:LO):ZV (os.map Kf) (ws.map Kf)=(os.zip ws).map λp=>.tuple [Kf p.1,Kf p.2]:=by
 unfold ZV;rw[List.zip_map,QP]
 rfl
theorem N0{α β:Type}{l:List α}{p:α->Bool}{f:α->β}:(l.map λx=>if p x=true then some (f x) else none).filterMap id=(l.filter p).map f:=by
 induction l with
 |nil=>rfl
 |cons x r ih=>
  rw[QA]
  by_cases h:p x=true
  ·rw[Ql h,List.filter_cons_of_pos h,QA,←ih];rfl
  ·rw[Qs h,List.filter_cons_of_neg h,←ih];rfl
section
variable{cs:List Int}{ls:L3}{ws:LO}{o:Ord}{old:Option LO}{ts:List Int}
theorem GF(g:Good cs ls):(KB (lng ls) (Kb ls ws)).length<=6:=by
 have hL:lng ls<=5:=Oe g.l1 λrs h=>(g.rk rs h).few;rw[VU];omega
theorem GW(g:Good cs ls)(dl:Deal cs ls ws)(ga:YL cs.length ls.length old ts){K6:List Int}{k7:Int}{x6 x8 x10 x11:Option Sl}{x3 x4:Option Sl}(h6:x6=some (.pub (.list (K6.map int)))∨x6=some (.own (K6.map int)))(hK:K6.length<=100) :
  Ho (U2 (KZ (Zt (UN 5)) (gN 10) O4) (U9 (U3 Kh (U3 Kh (UN 6) (KR (UY (UN 7) (UT)))) (UN 9))))
   [pb (Ko cs ls),pb (KT o old ts),pb (Kl ws),x3,x4,pb (.list (ts.map int)),x6,pb (.int k7),x8,some (.own []),x10,x11] (λr=>r=Out.rt (.list ((K6++[k7]++ts.map (Zy ls ws)).map int))):=by
 have l7:=g.l7;have few:=ga.few;apply KU;apply Yj (λi Z=>∃y10 y11,Z=[pb (Ko cs ls),pb (KT o old ts),pb (Kl ws),x3,x4,pb (.list (ts.map int)),x6,pb (.int k7),x8,some (.own (((ts.take i).map (Zy ls ws)).map int)),y10,y11])
 case h1=>exact Yl (UU rfl) YZ
 case h0=>exact ⟨_,_,rfl⟩
 case hst=>
  rintro i d Z hi ⟨y10,y11,rfl⟩;rw[Qd] at hi
  cases hti:ts[i]? with
  |none=>rw[hti] at hi;cases hi
  |some z=>
  rw[hti] at hi;cases hi;have hz:=ga.there z (Qp hti);obtain ⟨a,rfl⟩:∃a:Nat,z=a:=⟨z.toNat,by omega⟩
  have hal:a<ls.length:=by omega
  have hls:ls[a]?=some ls[a]:=Qe hal;have hwl:a<ws.length:=by have:=dl.len;omega
  have hwa:ws[a]?=some ws[a]:=Qe hwl;have hix:oIx (Kl ws) (.int a)=some (Kf ws[a]):=Po hwl;have hwd:ws.getD a none=ws[a]:=by rw[Qh,hwa];rfl
  have hld:ls.getD a []=ls[a]:=by rw[Qh,hls];rfl
  have hnext:((ts.take (i+1)).map (Zy ls ws))=(ts.take i).map (Zy ls ws)++[Zy ls ws a]:=by rw[JK,hti,Qz];rfl
  have htl:(((ts.take i).map (Zy ls ws)).map int).length<1000000:=by rw[Qb,Qb,Q3];omega
  have htr:Zy ls ws a=match ws[a] with|none=>0|some t=>(lng ls:Int)+1-(Zg t ls[a]:Nat):=by unfold Zy;rw[Qv,hwd,hld]
  refine ⟨_,U4 (Qa rfl) rfl,?_⟩;unfold O4;refine Kx (K0 U6 (Qa rfl) rfl) ?_;rw[hnext,Qz];generalize ((ts.take i).map (Zy ls ws)).map int=T at htl ⊢;generalize hwo:ws[a]=w at hix htr
  cases w with
  |none=>
   apply KU;apply KM
   case h1=>exact KP (k:=λd=>!isNon d) (x:=PyData.none) (K7 rfl (UU rfl) hix)
   case h2=>intro h;cases h
   case h3=>
    intro _;refine K4 (KQ ?_);refine ZW (W4 rfl (UU rfl) rfl htl rfl) ?_;rw[htr];exact ZB ⟨_,_,rfl⟩
  |some t=>
   apply KU;apply KM
   case h1=>exact KP (k:=λd=>!isNon d) (x:=int t) (K7 rfl (UU rfl) hix)
   case h2=>
    intro _;refine ZW (K0 (Kk (Kk (Ky (UZ (UU rfl) U7) rfl (Lc g)) U6 ZH) (Ky (UZ (UU rfl) (UZ (UU rfl) (UZ (K7 rfl (UU rfl) hix) U7))) rfl (Lb hls t)) Xp) (Qa rfl) rfl) ?_;refine KQ ?_;refine ZW (W4 rfl (UU rfl) rfl htl rfl) ?_;rw[htr];exact ZB ⟨_,_,rfl⟩
   case h3=>intro h;cases h
 case hend=>
  rintro Z ⟨y10,y11,rfl⟩;rw[Qb,JO];refine KQ ?_
  have e1:Kh (.list (K6.map int)) (.list [.int k7])=some (.list ((K6++[k7]).map int)):=by
   rw[XX (by rw[Qb];show _+1<=_;omega),Qz];rfl
  have e2:Kh (.list ((K6++[k7]).map int)) (.list ((ts.map (Zy ls ws)).map int))=some (.list ((K6++[k7]++ts.map (Zy ls ws)).map int)):=by
   rw[XX (by rw[Qb,Qb,Qb,Qj];show _+1+_<=_;omega),←Qz]
  rcases h6 with rfl|rfl
  ·exact KI (Kk (Kk (UU rfl) (Z7 (UZ (UU rfl) U7) (Qa rfl)) e1) (Yh rfl rfl) e2) rfl
  ·exact KI (Kk (Kk (Yh rfl rfl) (Z7 (UZ (UU rfl) U7) (Qa rfl)) e1) (Yh rfl rfl) e2) rfl
theorem MH(g:Good cs ls)(dl:Deal cs ls ws)(ga:YL cs.length ls.length old ts){K6:List Int}{x3 x6 x7 x8 x9 x10 x11:Option Sl}(h6:x6=some (.pub (.list (K6.map int)))∨x6=some (.own (K6.map int)))(hK:K6.length<=100) :
  Ho (U2 (Km 7 (U1 (.int 0)))
 (U2 (sIf (Ka (λd=>!isNon d) (UN 4))
 (U2 (ZC 8 (ZS (Xj (UY (UN 4) (UY (UN 2) (UT)))) 2 (gT 2 (gNC (gN 12) (gNC (gN 13) (gN0)))) (Zz oEq 12 (UN 13)) (UN 13)))
 (Km 7 (ZN Ku (UY (Ka UK (ZS (Zt (UN 8)) 1 (gN 12) (Ka (λd=>!isNon d) (UN 12)) (UN 12))) (UT)))))
 (sNx))
 (U2 (ZC 9 (Kr (UT) λxs=>if xs.length<=1000000 then U1 xs else λ_=>.bad))
 (U2 (KZ (Zt (UN 5)) (gN 10) O4)
 (U9 (U3 Kh (U3 Kh (UN 6) (KR (UY (UN 7) (UT)))) (UN 9)))))))
   [pb (Ko cs ls),pb (KT o old ts),pb (Kl ws),x3,pb (ZU old),pb (.list (ts.map int)),x6,x7,x8,x9,x10,x11] (λr=>r=Out.rt (.list ((K6++[(Zi old ws:Int)]++ts.map (Zy ls ws)).map int))):=by
 have l7:=g.l7;have len:=dl.len;refine Kx (K0 U6 (Qa rfl) rfl) ?_;apply KU
 cases old with
 |none=>
  apply KM
  case h1=>exact KP (k:=λd=>!isNon d) (x:=PyData.none) (UU rfl)
  case h2=>intro h;cases h
  case h3=>
   intro _;refine K4 (KQ ?_);refine Kx (Yt (T5 U7 (Qa rfl)) (Qa rfl) rfl) ?_;exact GW g dl ga h6 hK
 |some os=>
  have hos:os.length=ls.length:=ga.len os rfl;have hzl:(os.zip ws).length<=7:=by rw[Jy];omega
  apply KM
  case h1=>exact KP (k:=λd=>!isNon d) (x:=Kl os) (UU rfl)
  case h3=>intro h;cases h
  case h2=>
   intro _
   let same:LO:=((os.zip ws).filter λp=>decide (p.1=p.2)).map λp=>p.2
   have hc:Zs (gT 2 (gNC (gN 12) (gNC (gN 13) (gN0)))) (Zz oEq 12 (UN 13)) (UN 13) (ZV (os.map Kf) (ws.map Kf)) (KJ [pb (Ko cs ls),pb (KT o (some os) ts),pb (Kl ws),x3,pb (ZU (some os)),pb (.list (ts.map int)),x6,pb (.int 0),x8,x9,x10,x11]++UJ 2 none) []=some (same.map Kf):=by
    have hsm:same.map Kf=((os.zip ws).map λp=>if decide (p.1=p.2)=true then some (Kf p.2) else none).filterMap id:=by
     rw[N0];show (List.map _ _).map Kf=_;rw[QP];rfl
    rw[GX,hsm];refine PK (λZ=>∃y3 y6 y8 y9 y10 y11 x y,Z=[pb (Ko cs ls),pb (KT o (some os) ts),pb (Kl ws),y3,pb (ZU (some os)),pb (.list (ts.map int)),y6,pb (.int 0),y8,y9,y10,y11,x,y]) _ _ _ _ (by rw[Qb,Qb]) ?_ ⟨_,_,_,_,_,_,none,none,rfl⟩ (by rw[Qb,QC];omega)
    rintro i d e hd he Z ⟨y3,y6,y8,y9,y10,y11,x,y,rfl⟩;rw[Qd] at hd he
    cases hq:(os.zip ws)[i]? with
    |none=>rw[hq] at hd;cases hd
    |some q=>
    rw[hq] at hd he;cases hd;cases he;refine ⟨_,KK rfl (Kc (U4 (Qa rfl) rfl) (Kc (U4 (Qa rfl) rfl) KL)),?_,?_,_,_,_,_,_,_,_,_,rfl⟩
    ·have e:(if decide (q.1=q.2)=true then some (Kf q.2) else none).isSome=decide (q.1=q.2):=by
      by_cases h:q.1=q.2
      ·rw[Q2 h];rfl
      ·rw[QG h];rfl
     rw[e];exact ZO rfl (UU rfl) OS
    ·intro v hv
     dsimp only at hv
     split at hv
     ·cases hv;exact UU rfl
     ·cases hv
   refine Kx (Yt (Ys (P9 (UZ (UU rfl) (UZ (UU rfl) U7)) rfl) hc) (Qa rfl) rfl) ?_;have hsl:same.length<=7:=by show (List.map _ _).length<=7;rw[Qb];exact QT (Ug _ _) hzl
   have hc2:Zs (gN 12) (Ka (λd=>!isNon d) (UN 12)) (UN 12) (same.map Kf) (KJ [pb (Ko cs ls),pb (KT o (some os) ts),pb (Kl ws),x3,pb (ZU (some os)),pb (.list (ts.map int)),x6,pb (.int 0),pb (.list (same.map Kf)),x9,x10,x11]++UJ 1 none) []=some ((same.filter Option.isSome).map Kf):=by
    rw[←N0];refine PK (λZ=>∃y3 y6 y8 y9 y10 y11 x,Z=[pb (Ko cs ls),pb (KT o (some os) ts),pb (Kl ws),y3,pb (ZU (some os)),pb (.list (ts.map int)),y6,pb (.int 0),y8,y9,y10,y11,x]) _ _ _ _ (by simp only[Qb]) ?_ ⟨_,_,_,_,_,_,none,rfl⟩ (by rw[Qb,QC];omega)
    rintro i d e hd he Z ⟨y3,y6,y8,y9,y10,y11,x,rfl⟩;rw[Qd] at hd he
    cases hq:same[i]? with
    |none=>rw[hq] at hd;cases hd
    |some q=>
    rw[hq] at hd he;cases hd;cases he;refine ⟨_,U4 (Qa rfl) rfl,?_,?_,_,_,_,_,_,_,_,rfl⟩
    ·cases q with
     |none=>exact KP (k:=λd=>!isNon d) (x:=PyData.none) (UU rfl)
     |some t=>exact KP (k:=λd=>!isNon d) (x:=int t) (UU rfl)
    ·intro v hv
     dsimp only at hv
     split at hv
     ·cases hv;exact UU rfl
     ·cases hv
   have hln:Ku [.list ((same.filter Option.isSome).map Kf)]=some (.int (Zi (some os) ws:Nat)):=by
    rw[ZR,Qb]
    congr 3
    show ((List.map _ _).filter _).length=_;unfold Zi;dsimp only;rw[List.filter_map,Qb,List.filter_filter]
    congr 1
    apply List.filter_congr;intro p _;show (p.2.isSome&&decide (p.1=p.2))=_;rw[Bool.and_comm]
   refine ZW (K0 (Yg (UZ (KP (Ys (Yl (Yh rfl rfl) YZ) hc2)) U7) hln) (Qa rfl) rfl) ?_;refine KQ ?_;refine Kx (Yt (T5 U7 (Qa rfl)) (Qa rfl) rfl) ?_;exact GW g dl ga h6 hK
theorem Lz(g:Good cs ls)(dl:Deal cs ls ws)(ga:YL cs.length ls.length old ts):WH [Ko cs ls,KT o old ts,Kl ws]=some (.list ((XA o (KB (lng ls) (Kb ls ws))++[(Zi old ws:Int)]++ts.map (Zy ls ws)).map int)):=by
 refine Zp (Z:=[pb (Ko cs ls),pb (KT o old ts),pb (Kl ws),none,none,none,none,none,none,none,none,none]) rfl ?_;unfold SX;have few:(KB (lng ls) (Kb ls ws)).length<=6:=GF g;have hne:KB (lng ls) (Kb ls ws)≠[]:=λe=>by have:=VU (lng ls) (Kb ls ws);rw[e] at this;cases this
 refine Kx (Vy (UU rfl) (KK rfl (Kc (U4 (Qa rfl) rfl) (Kc (U4 (Qa rfl) rfl) (Kc (U4 (Qa rfl) rfl) KL))))) ?_;refine Kx (K0 (Ky (UZ (UU rfl) (UZ (UU rfl) U7)) rfl (kT g dl)) (Qa rfl) rfl) ?_;generalize KB (lng ls) (Kb ls ws)=c at few hne
 cases o with
 |firsts=>
  apply KU;apply KM
  case h1=>exact ZO rfl U6 (P2 .firsts)
  case h2=>intro h;cases h
  case h3=>
   intro _;refine K4 (KQ ?_);apply KU;apply KM
   case h1=>exact ZO rfl U6 (NQ .firsts)
   case h2=>intro h;cases h
   case h3=>exact λ_=>K4 (KQ (MH g dl ga (K6:=c) (.inl rfl) (by omega)))
 |full=>
  apply KU;apply KM
  case h1=>exact ZO rfl U6 (P2 .full)
  case h3=>intro h;cases h
  case h2=>
   intro _
   have e:Kh (.list [.int (0-YX c)]) (.list (c.map int))=some (.list (((0-YX c)::c).map int)):=by
    rw[XX (by rw[Qb];show 1+_<=_;omega)];rfl
   refine ZW (K0 (Kk (Z7 (UZ (Kk U6 (K7 rfl (Vz U6) (Ae hne)) Xp) U7) (Qa rfl)) (UU rfl) e) (Qa rfl) rfl) ?_;refine KQ ?_;apply KU;apply KM
   case h1=>exact ZO rfl U6 (NQ .full)
   case h2=>intro h;cases h
   case h3=>exact λ_=>K4 (KQ (MH g dl ga (K6:=(0-YX c)::c) (.inl rfl) (by rw[QF];omega)))
 |lasts=>
  apply KU;apply KM
  case h1=>exact ZO rfl U6 (P2 .lasts)
  case h2=>intro h;cases h
  case h3=>
   intro _;refine K4 (KQ ?_);apply KU;apply KM
   case h1=>exact ZO rfl U6 (NQ .lasts)
   case h3=>intro h;cases h
   case h2=>
    intro _
    have hc:∀x7 x8 x9 x10 x11:Option Sl,Zs (gN 12) (U1 true) (U3 Zk (U1 (.int 0)) (UN 12)) (c.map int).reverse (KJ [pb (Ko cs ls),pb (KT .lasts old ts),pb (Kl ws),pb (.str Ord.lasts.tx),pb (ZU old),pb (.list (ts.map int)),pb (.list (c.map int)),none,none,none,none,none]++UJ 1 none) []=some ((c.reverse.map λx=>0-x).map int):=λx7 x8 x9 x10 x11=>by
     rw[←List.map_reverse];refine XM (λZ=>∃x,Z=[pb (Ko cs ls),pb (KT .lasts old ts),pb (Kl ws),pb (.str Ord.lasts.tx),pb (ZU old),pb (.list (ts.map int)),pb (.list (c.map int)),none,none,none,none,none,x]) _ _ _ _ (by simp only[Qb]) ?_ ⟨none,rfl⟩ (by rw[Qb,QC,Jc];omega)
     rintro i d e hd he Z ⟨x,rfl⟩;rw[Qd] at hd;rw[Qd,Qd] at he
     cases hq:c.reverse[i]? with
     |none=>rw[hq] at hd;cases hd
     |some q=>
     rw[hq] at hd he;cases hd;cases he;exact ⟨_,U4 (Qa rfl) rfl,rfl,Kk U6 (UU rfl) Xp,_,rfl⟩
    refine ZW (Yt (Ys (Yl (NO (UU rfl) U6 U6 (Xy (Vz U6))) YZ) (hc none none none none none)) (Qa rfl) rfl) ?_;exact KQ (MH g dl ga (K6:=c.reverse.map λx=>0-x) (.inr rfl) (by rw[Qb,Jc];omega))
end
def btr:LP->Bool
 |[]=>false
 |(m,y)::r=>if m=y then btr r else decide (y=0) || (decide (0<m)&&decide (m<y))
def rgA(ls:L3)(ws:LO)(a:Int):Int:=(Kb ls ws).getD a.toNat 0
def X3(o:Ord)(c1 c2:List Int)(k1 k2:Int)(r1 r2:List Int):Bool:=if fnz (XI o c1 c2)=0 then (if k1=k2 then btr (r1.zip r2) else decide (k2<k1)) else decide (0<fnz (XI o c1 c2))
section
variable{cs:List Int}{ls:L3}{ws us:LO}{o:Ord}{old:Option LO}{ts:List Int}
theorem ki{os:LO}(h:os.length<=100):WL [ZU (some os),Kl ws]=some (.int (Zi (some os) ws:Nat)):=by
 refine Zp (Z:=[pb (Kl os),pb (Kl ws)]) rfl ?_;unfold V4;apply KU;apply KM
 case h1=>exact KP (k:=isNon) (x:=Kl os) (UU rfl)
 case h2=>intro h;cases h
 case h3=>
  intro _;refine K4 (KQ ?_)
  have hc:Zs (gT 2 (gNC (gN 2) (gNC (gN 3) (gN0)))) (ZZ (Ka (λd=>!isNon d) (UN 2)) (Zz oEq 3 (UN 2))) (UN 2) (ZV (os.map Kf) (ws.map Kf)) (KJ [pb (Kl os),pb (Kl ws)]++UJ 2 none) []=some (((os.zip ws).filter λp=>p.1.isSome&&decide (p.2=p.1)).map λp=>Kf p.1):=by
   rw[GX,←N0];refine PK (λZ=>∃x y,Z=[pb (Kl os),pb (Kl ws),x,y]) _ _ _ _ (by simp only[Qb]) ?_ ⟨none,none,rfl⟩ (by rw[Qb,QC,Jy];omega)
   rintro i d e hd he Z ⟨x,y,rfl⟩;rw[Qd] at hd he
   cases hq:(os.zip ws)[i]? with
   |none=>rw[hq] at hd;cases hd
   |some q=>
   rw[hq] at hd he;cases hd;cases he;obtain ⟨p1,p2⟩:=q;refine ⟨_,KK rfl (Kc (U4 (Qa rfl) rfl) (Kc (U4 (Qa rfl) rfl) KL)),?_,?_,_,_,rfl⟩
   ·dsimp only
    cases p1 with
    |none=>exact Pw (KP (k:=λd=>!isNon d) (x:=PyData.none) (UU rfl))
    |some t=>
     have e:(if ((some t).isSome&&decide (p2=some t))=true then some (Kf (some t)) else none).isSome=decide (p2=some t):=by
      by_cases h:p2=some t
      ·rw[Q2 h];rfl
      ·rw[QG h];rfl
     rw[e];exact Pv (KP (k:=λd=>!isNon d) (x:=int t) (UU rfl)) (ZO rfl (UU rfl) (OS (a:=p2) (b:=some t)))
   ·intro v hv
    dsimp only at hv
    split at hv
    ·cases hv;exact UU rfl
    ·cases hv
  have hln:Ku [.list (((os.zip ws).filter λp=>p.1.isSome&&decide (p.2=p.1)).map λp=>Kf p.1)]=some (.int (Zi (some os) ws:Nat)):=by
   rw[ZR,Qb]
   congr 3
   unfold Zi;dsimp only
   congr 1
   apply List.filter_congr;rintro ⟨p1,p2⟩ _;dsimp only
   by_cases h:p1=p2
   ·subst h;rw[Bool.and_comm]
   ·rw[QG h,QG (λe=>h e.symm),Bool.and_false,Bool.false_and]
  exact KI (Yg (UZ (KP (Ys (P9 (UZ (UU rfl) (UZ (UU rfl) U7)) rfl) hc)) U7) hln) rfl
theorem kh:WL [ZU none,Kl ws]=some (.int (Zi none ws:Nat)):=by
 refine Zp (Z:=[some (.pub .none),pb (Kl ws)]) rfl ?_;unfold V4;apply KU;apply KM
 case h1=>exact KP (k:=isNon) (x:=PyData.none) (UU rfl)
 case h2=>exact λ_=>KI U6 (Xe rfl)
 case h3=>intro h;cases h
def Dx(ls:L3)(old:Option LO)(ts:List Int)(ws:LO):D:=.tuple [.list ((KB (lng ls) (Kb ls ws)).map int),.int (Zi old ws:Nat),.list ((ts.map (rgA ls ws)).map int)]
theorem GE(g:Good cs ls)(hl:ws.length=ls.length)(ga:YL cs.length ls.length old ts):Vt [Ko cs ls,KT o old ts,Kl ws]=some (Dx ls old ts ws):=by
 refine Zp (Z:=[pb (Ko cs ls),pb (KT o old ts),pb (Kl ws),none,none,none,none]) rfl ?_;unfold RB;have l7:=g.l7;have few:=ga.few;refine Kx (W9 (Ky (UZ (UU rfl) (UZ (UU rfl) U7)) rfl (LB g ga))) ?_;refine Kx (Vy (UU rfl) (KK rfl (Kc (U4 (Qa rfl) rfl) (Kc (U4 (Qa rfl) rfl) (Kc (U4 (Qa rfl) rfl) KL))))) ?_;refine Kx (K0 (Ky (UZ (UU rfl) (UZ (UU rfl) U7)) rfl (Ed g hl)) (Qa rfl) rfl) ?_
 have hk:WL [ZU old,Kl ws]=some (.int (Zi old ws:Nat)):=by
  cases old with
  |none=>exact kh
  |some os=>exact ki (by have:=ga.len os rfl;omega)
 have hc:Zs (gN 7) (U1 true) (Ki 6 (UN 7)) (ts.map int) (KJ [pb (Ko cs ls),pb (KT o old ts),pb (Kl ws),pb (.str o.tx),pb (ZU old),pb (.list (ts.map int)),pb (.list ((Kb ls ws).map int))]++UJ 1 none) []=some ((ts.map (rgA ls ws)).map int):=by
  refine XM (λZ=>∃x,Z=[pb (Ko cs ls),pb (KT o old ts),pb (Kl ws),pb (.str o.tx),pb (ZU old),pb (.list (ts.map int)),pb (.list ((Kb ls ws).map int)),x]) _ _ _ _ (by simp only[Qb]) ?_ ⟨none,rfl⟩ (by rw[Qb,QC];omega)
  rintro i d e hd he Z ⟨x,rfl⟩;rw[Qd] at hd;rw[Qd,Qd] at he
  cases hq:ts[i]? with
  |none=>rw[hq] at hd;cases hd
  |some q=>
  rw[hq] at hd he;cases hd;cases he;have hz:=ga.there q (Qp hq);obtain ⟨a,rfl⟩:∃a:Nat,q=a:=⟨q.toNat,by omega⟩
  have hal:a<(Kb ls ws).length:=by rw[Oq hl];omega
  refine ⟨_,U4 (Qa rfl) rfl,rfl,K7 rfl (UU rfl) (ZD ?_),_,rfl⟩;unfold rgA;rw[Qd,Qv,Qh,Qe hal]
  rfl
 exact KI (Xs (UZ (Ky (UZ (UU rfl) (UZ (UU rfl) U7)) rfl (kM g hl)) (UZ (Ky (UZ (UU rfl) (UZ (UU rfl) U7)) rfl hk) (UZ (KP (Ys (Yl (UU rfl) YZ) hc)) U7))) (Qa rfl)) rfl
theorem kZ{xs ys:List Int}:Tv [.list (xs.map int),.list (ys.map int)]=some (.bool (btr (xs.zip ys))):=by
 refine Zp (Z:=[pb (.list (xs.map int)),pb (.list (ys.map int)),none,none]) rfl ?_;unfold RA;apply KU;apply Yj (λi Z=>(∃x2 x3,Z=[pb (.list (xs.map int)),pb (.list (ys.map int)),x2,x3])/\btr (xs.zip ys)=btr ((xs.zip ys).drop i))
 case h1=>exact P9 (UZ (UU rfl) (UZ (UU rfl) U7)) rfl
 case h0=>exact ⟨⟨_,_,rfl⟩,rfl⟩
 case hst=>
  rintro i d Z hi ⟨⟨x2,x3,rfl⟩,hb⟩;rw[MU,Qd] at hi
  cases hq:(xs.zip ys)[i]? with
  |none=>rw[hq] at hi;cases hi
  |some q=>
  rw[hq] at hi;cases hi;obtain ⟨m,y⟩:=q;obtain ⟨hil,he⟩:=Qg.mp hq;rw[QQ hil,he,btr] at hb;refine ⟨_,KK rfl (Kc (U4 (Qa rfl) rfl) (Kc (U4 (Qa rfl) rfl) KL)),?_⟩;unfold Ha;apply KM
  case h1=>exact ZO rfl (UU rfl) Sb
  case h2=>
   intro h;have hmy:¬m=y:=by simpa using h
   rw[Qs hmy] at hb;refine KI (NU (KP (ZO rfl U6 Wf)) (λ_=>KP (Nd U6 (UU rfl) lt_int (λ_=>UU rfl) (λ_=>lt_int)))) (VD (Xe ?_));rw[hb]
  case h3=>
   intro h;have hmy:m=y:=by simpa using h
   rw[Ql hmy] at hb;exact K4 (ZB ⟨⟨_,_,rfl⟩,hb⟩)
 case hend=>
  rintro Z ⟨⟨x2,x3,rfl⟩,hb⟩;refine KQ (KI U6 ?_);rw[MU,Qb,List.drop_length] at hb;rw[hb]
  rfl
end
theorem NZ(a b:List Int):fnz (a++b)=if fnz a=0 then fnz b else fnz a:=by
 induction a with
 |nil=>rfl
 |cons x r ih=>
  show (if x=0 then fnz (r++b) else x)=if (if x=0 then fnz r else x)=0 then fnz b else (if x=0 then fnz r else x)
  by_cases h:x=0
  ·rw[Ql h,Ql h,ih]
  ·rw[Qs h,Qs h,Qs h]
theorem HB:∀{xs ys:List Int},xs.length=ys.length->HT.Xd ys xs=decide (0<fnz (KG xs ys))
 |[],[],_=>rfl
 |x::xs,y::ys,h=>by
  rw[HT.F1];show _=decide (0<if x-y=0 then fnz (KG xs ys) else x-y)
  by_cases e:y=x
  ·rw[if_pos e,if_pos (by omega),HB (by simpa using h)]
  ·rw[Qs e,Qs (by omega)]
   exact JH.2 (by rw[Q8,Q8];omega)
theorem Nv{a b c d:List Int}(h:a.length=c.length):KG (a++b) (c++d)=KG a c++KG b d:=by
 unfold KG;rw[List.zip_append h,Qz]
theorem Ov{a b:List Int}(h:a.length=b.length):(KG a b).length=a.length:=by unfold KG;rw[Qb,Jy];omega
theorem MR{a b:List Int}{i:Nat}{x y:Int}(h1:a[i]?=some x)(h2:b[i]?=some y):(KG a b)[i]?=some (x-y):=by
 unfold KG;rw[Qd,JT.mpr (by exact (⟨h1,h2⟩:a[i]?=some (x,y).1/\b[i]?=some (x,y).2))]
 rfl
theorem Ad{o:Ord}{a b:List Int}(h:a.length=b.length):(XA o a).length=(XA o b).length:=by
 cases o with
 |firsts=>exact h
 |full=>show (_::a).length=(_::b).length;rw[QF,QF,h]
 |lasts=>show (a.reverse.map _).length=(b.reverse.map _).length;rw[Qb,Qb,Jc,Jc,h]
theorem GV{o:Ord}{a b:List Int}(h:a.length=b.length)(hne:a≠[]):KG (XA o a) (XA o b)=XI o a b:=by
 have hp:0<a.length:=Ur.mpr hne
 cases o with
 |firsts=>rfl
 |full=>
  have hml:=Ov h;have hx:a[a.length-1]?=some (YX a):=by unfold YX;rw[Qh,Qe (by omega)];rfl
  have hy:b[a.length-1]?=some (YX b):=by unfold YX;rw[←h,Qh,Qe (by omega)];rfl
  have hm:=MR hx hy;show (0-YX a-(0-YX b))::KG a b=((KG a b).map λx=>-x).drop ((KG a b).length-1)++KG a b
  have hd:((KG a b).map λx=>-x).drop ((KG a b).length-1)=[-(YX a-YX b)]:=by
   rw[hml];have hl:a.length-1<((KG a b).map λx=>-x).length:=by rw[Qb,hml];omega
   rw[QQ hl,List.drop_of_length_le (by rw[Qb,hml];omega)]
   have e:((KG a b).map λx=>-x)[a.length-1]?=some (-(YX a-YX b)):=by rw[Qd,hm];rfl
   rw[Qe hl] at e;rw[QX e]
  rw[hd];show _ = -(YX a-YX b)::KG a b
  congr 1
  omega
 |lasts=>
  show KG (a.reverse.map λx=>0-x) (b.reverse.map λx=>0-x)=((KG a b).map λx=>-x).reverse;apply Ju;intro i;have hml:=Ov h
  by_cases hi:i<a.length
  ·obtain ⟨x,hx⟩:∃x,a[a.length-1-i]?=some x:=⟨_,Qe (by omega)⟩
   obtain ⟨y,hy⟩:∃y,b[a.length-1-i]?=some y:=⟨_,Qe (by omega)⟩
   have e1:(a.reverse.map λx=>0-x)[i]?=some (0-x):=by rw[Qd,Ui hi,hx];rfl
   have e2:(b.reverse.map λx=>0-x)[i]?=some (0-y):=by rw[Qd,Ui (by omega),←h,hy];rfl
   rw[MR e1 e2,Ui (by rw[Qb,hml];exact hi),Qb,hml,Qd,MR hx hy]
   show some (0-x-(0-y))=some (-(x-y))
   congr 1
   omega
  ·rw[QD (by rw[Ov (by rw[Qb,Qb,Jc,Jc,h]),Qb,Jc];omega),QD (by rw[Jc,Qb,hml];omega)]
def tf(L:Nat)(r:Int):Int:=if r=0 then 0 else (L:Int)+1-r
theorem MQ{L:Nat}:∀{xs ys:List Int},(∀r∈xs,0<=r/\r<=L)->(∀r∈ys,0<=r/\r<=L)->decide (0<fnz (KG (xs.map (tf L)) (ys.map (tf L))))=btr (xs.zip ys)
 |[],ys,_,_=>by cases ys <;> rfl
 |_::_,[],_,_=>rfl
 |x::xs,y::ys,hx,hy=>by
  have bx:=hx x Qn;have by':=hy y Qn;rw[List.zip_cons_cons,btr];show decide (0<if tf L x-tf L y=0 then fnz (KG (xs.map (tf L)) (ys.map (tf L))) else tf L x-tf L y)=_
  by_cases e:x=y
  ·rw[Ql e,Ql (by rw[e];omega),MQ (λr h=>hx r (Qk _ h)) (λr h=>hy r (Qk _ h))]
  ·have hne:tf L x-tf L y≠0:=by unfold tf;split <;> split <;> omega
   rw[Qs e,Qs hne];apply JH.2;rw[Q8,Bool.or_eq_true,Jm,Q8,Q8,Q8];unfold tf
   split <;> split <;> omega
section
variable{cs:List Int}{ls:L3}{ws us:LO}{o:Ord}{old:Option LO}{ts:List Int}
theorem Op(g:Good cs ls)(dl:Deal cs ls ws)(ga:YL cs.length ls.length old ts):ts.map (Zy ls ws)=(ts.map (rgA ls ws)).map (tf (lng ls)):=by
 rw[QP];apply JF;intro z hz;have h:=ga.there z hz;obtain ⟨a,rfl⟩:∃a:Nat,z=a:=⟨z.toNat,by omega⟩
 have hal:a<ls.length:=by omega
 have hwl:a<ws.length:=by have:=dl.len;omega
 have hls:ls[a]?=some ls[a]:=Qe hal;have hwa:ws[a]?=some ws[a]:=Qe hwl;have hg:=MJ hls hwa;show Zy ls ws a=tf (lng ls) (rgA ls ws a);unfold Zy rgA;rw[Qv,Qh,Qh,Qh,hwa,hls,hg];show (match ws[a] with|none=>(0:Int)|some t=>(lng ls:Int)+1-(Zg t ls[a]:Nat))=tf (lng ls) (rg ls[a] ws[a])
 have hp:=λt (e:ws[a]=some t)=>OC (dl.wish a t ls[a] (by rw[hwa,e]) hls)
 generalize ws[a]=w at hp
 cases w with
 |none=>rfl
 |some t=>
  have:=hp t rfl
  show _=tf (lng ls) ((Zg t ls[a]:Nat):Int);unfold tf;rw[Qs (by omega)]
theorem P1{z:Int}:0<=rgA ls ws z/\rgA ls ws z<=lng ls:=by
 unfold rgA;rw[Qh]
 cases h:(Kb ls ws)[z.toNat]? with
 |none=>exact ⟨QZ 0,by show (0:Int)<=_;omega⟩
 |some r=>exact Sa r (Qp h)
theorem Ac(g:Good cs ls)(d1:Deal cs ls ws)(d2:Deal cs ls us)(ga:YL cs.length ls.length old ts) :
  HT.Xd (XA o (KB (lng ls) (Kb ls us))++[(Zi old us:Int)]++ts.map (Zy ls us)) (XA o (KB (lng ls) (Kb ls ws))++[(Zi old ws:Int)]++ts.map (Zy ls ws)) =
   X3 o (KB (lng ls) (Kb ls ws)) (KB (lng ls) (Kb ls us)) (Zi old ws) (Zi old us) (ts.map (rgA ls ws)) (ts.map (rgA ls us)):=by
 have hl:(KB (lng ls) (Kb ls ws)).length=(KB (lng ls) (Kb ls us)).length:=by rw[VU,VU]
 have hne:KB (lng ls) (Kb ls ws)≠[]:=λe=>by have:=VU (lng ls) (Kb ls ws);rw[e] at this;cases this
 have hol:=Ad (o:=o) hl;rw[HB (by simp only[Qj,Qb,hol];rfl),Nv (by rw[Qj,Qj,hol];rfl),Nv hol,GV hl hne,NZ,NZ,Op g d1 ga,Op g d2 ga]
 have ht:=MQ (L:=lng ls) (xs:=ts.map (rgA ls ws)) (ys:=ts.map (rgA ls us)) (λr h=>by obtain ⟨z,_,rfl⟩:=Qr.mp h;exact P1) (λr h=>by obtain ⟨z,_,rfl⟩:=Qr.mp h;exact P1)
 unfold X3;rw[←ht]
 have hk:fnz (KG [(Zi old ws:Int)] [(Zi old us:Int)])=(Zi old ws:Int)-Zi old us:=by
  show (if (Zi old ws:Int)-Zi old us=0 then (0:Int) else (Zi old ws:Int)-Zi old us)=_
  split <;> omega
 rw[hk]
 by_cases h1:fnz (XI o (KB (lng ls) (Kb ls ws)) (KB (lng ls) (Kb ls us)))=0
 ·rw[Ql h1,Ql h1]
  by_cases h2:(Zi old ws:Int)=Zi old us
  ·rw[Ql h2,Ql (by omega)]
  ·rw[Qs h2,Qs (by omega)]
   exact JH.2 (by rw[Q8,Q8];omega)
 ·rw[Qs h1,Qs h1,Qs h1]
theorem qw(g:Good cs ls)(hl1:ws.length=ls.length)(hl2:us.length=ls.length)(ga:YL cs.length ls.length old ts):Vs [Ko cs ls,KT o old ts,Kl ws,Kl us] =
  some (.bool (X3 o (KB (lng ls) (Kb ls ws)) (KB (lng ls) (Kb ls us)) (Zi old ws) (Zi old us) (ts.map (rgA ls ws)) (ts.map (rgA ls us)))):=by
 refine Zp (Z:=[pb (Ko cs ls),pb (KT o old ts),pb (Kl ws),pb (Kl us),none,none,none,none,none,none,none]) rfl ?_;unfold Rz X3;refine Kx (Vy (Ky (UZ (UU rfl) (UZ (UU rfl) (UZ (UU rfl) U7))) rfl (GE (o:=o) g hl1 ga)) (KK rfl (Kc (U4 (Qa rfl) rfl) (Kc (U4 (Qa rfl) rfl) (Kc (U4 (Qa rfl) rfl) KL))))) ?_;refine Kx (Vy (Ky (UZ (UU rfl) (UZ (UU rfl) (UZ (UU rfl) U7))) rfl (GE (o:=o) g hl2 ga)) (KK rfl (Kc (U4 (Qa rfl) rfl) (Kc (U4 (Qa rfl) rfl) (Kc (U4 (Qa rfl) rfl) KL))))) ?_;have few:(KB (lng ls) (Kb ls ws)).length<=6:=GF g;have hb:=j6 o (xs:=KB (lng ls) (Kb ls ws)) (ys:=KB (lng ls) (Kb ls us)) (by omega)
 have i0:oIx (KT o old ts) (.int 0)=some (.str o.tx):=ZD (j:=0) rfl;refine Kx (K0 (Ky (UZ (K7 rfl U6 i0) (UZ (UU rfl) (UZ (UU rfl) U7))) rfl hb) (Qa rfl) rfl) ?_;generalize fnz (XI o (KB (lng ls) (Kb ls ws)) (KB (lng ls) (Kb ls us)))=z
 have e1:oNe (.str (bsT z)) (.str "alike")=some (decide (z≠0)):=by
  unfold bsT
  by_cases h:z=0
  ·rw[Ql h,QG (by omega)];decide +kernel
  ·rw[Qs h,Q2 h];split <;> decide +kernel
 have e2:oEq (.str (bsT z)) (.str "better")=some (decide (0<z)):=by
  unfold bsT
  by_cases h:z=0
  ·rw[Ql h,QG (by omega)];decide +kernel
  ·rw[Qs h]
   by_cases h2:0<z
   ·rw[Ql h2,Q2 h2];decide +kernel
   ·rw[Qs h2,QG h2];decide +kernel
 apply KU;apply KM
 case h1=>exact ZO rfl U6 e1
 case h2=>
  intro h;rw[Qs (Qa h)];exact KI (KP (ZO rfl U6 e2)) (Xe rfl)
 case h3=>
  intro h;have hz:z=0:=by have:=Jb h;omega
  rw[Ql hz];refine K4 (KQ ?_);apply KU;apply KM
  case h1=>exact ZO rfl (UU rfl) Sb
  case h2=>
   intro h;have hk:¬((Zi old ws:Nat):Int)=(Zi old us:Nat):=by simpa using h
   rw[Qs hk];exact KI (KP (ZO rfl (UU rfl) rfl)) (Xe rfl)
  case h3=>
   intro h;have hk:((Zi old ws:Nat):Int)=(Zi old us:Nat):=by simpa using h
   rw[Ql hk];exact K4 (KQ (KI (Ky (UZ (UU rfl) (UZ (UU rfl) U7)) rfl kZ) rfl))
end
def val(B:Int):List Int->Int
 |[]=>0
 |d::r=>d*B ^ r.length+val B r
theorem MG{B:Int}(h:0<B)(n:Nat):0<B ^ n:=Int.pow_pos h
theorem MP{B:Int}(hB:0<B):∀{l:List Int},(∀d∈l, -(B-1)<=d/\d<=B-1) -> -(B ^ l.length-1)<=val B l/\val B l<=B ^ l.length-1
 |[],_=>by simp[val]
 |d::r,h=>by
  have h1:=h d Qn;have h2:=MP hB (l:=r) λx hx=>h x (Qk _ hx);have hp:=MG hB r.length;rw[val,QF,Int.pow_succ];generalize B ^ r.length=P at h2 hp;generalize val B r=v at h2;have u1:d*P<=(B-1)*P:=Jr h1.2 (by omega)
  have u2 : -(B-1)*P<=d*P:=Jr h1.1 (by omega)
  have e1:(B-1)*P=P*B-P:=by rw[Int.sub_mul,Int.one_mul,Int.mul_comm]
  have e2 : -(B-1)*P = -(P*B-P):=by rw[Int.neg_mul,e1]
  omega
theorem MN{X Y P:Int}(hP:0<P)(hY : -(P-1)<=Y/\Y<=P-1):(0<X*P+Y ↔ 0<X∨X=0/\0<Y)/\(X*P+Y=0 ↔ X=0/\Y=0):=by
 rcases Int.lt_trichotomy X 0 with h|h|h
 ·have:X*P <= -1*P:=Jr (by omega) (by omega)
  constructor <;> constructor <;> intro h' <;> omega
 ·subst h
  rw[Int.zero_mul]
  constructor <;> constructor <;> intro h' <;> omega
 ·have:1*P<=X*P:=Jr (by omega) (by omega)
  constructor <;> constructor <;> intro h' <;> omega
theorem NY{B:Int}(hB:0<B):∀{l:List Int},(∀d∈l, -(B-1)<=d/\d<=B-1)->(0<val B l ↔ 0<fnz l)/\(val B l=0 ↔ fnz l=0)
 |[],_=>by simp[val,fnz]
 |d::r,h=>by
  have hr:=λx hx=>h x (Qk d hx);have ih:=NY hB (l:=r) hr;have tp:=MN (X:=d) (MG hB r.length) (MP hB hr);show (0<d*B ^ r.length+val B r ↔ 0<if d=0 then fnz r else d)/\(d*B ^ r.length+val B r=0 ↔ (if d=0 then fnz r else d)=0)
  by_cases hd:d=0
  ·rw[Ql hd]
   constructor
   ·rw[tp.1,ih.1];omega
   ·rw[tp.2,ih.2];omega
  ·rw[Qs hd]
   constructor
   ·rw[tp.1];omega
   ·rw[tp.2];omega
theorem Mw{B:Int}:∀{xs ys:List Int},xs.length=ys.length->val B (KG xs ys)=val B xs-val B ys
 |[],[],_=>rfl
 |x::xs,y::ys,h=>by
  have hl:xs.length=ys.length:=by simpa using h
  show (x-y)*B ^ (KG xs ys).length+val B (KG xs ys)=_;rw[Mw hl,Ov hl,val,val,←hl,Int.sub_mul];omega
theorem D7{B:Int}(l:List Int):val B (l.map λx=>-x) = -val B l:=by
 induction l with
 |nil=>rfl
 |cons d r ih=>rw[QA,val,val,ih,Qb,Int.neg_mul];omega
theorem GU{B:Int}:∀{xs:List Int}{p:Nat},p<xs.length->val B (WS xs p 1)=val B xs+B ^ (xs.length-1-p)
 |x::xs,0,_=>by
  show (x+1)*B ^ xs.length+val B xs=x*B ^ xs.length+val B xs+B ^ xs.length;rw[Int.add_mul,Int.one_mul];omega
 |x::xs,p+1,h=>by
  have hp:p<xs.length:=by simpa using h
  have ih:=GU (B:=B) hp
  have e:WS (x::xs) (p+1) 1=x::WS xs p 1:=by
   unfold WS;rw[List.set_cons_succ]
   rfl
  rw[e,val,val,ih,MT];have e2:(x::xs).length-1-(p+1)=xs.length-1-p:=by rw[QF];omega
  rw[e2];omega
theorem qv{n p:Nat}{qs:List Nat}:WS (Kz n qs) p 1=Kz n (p::qs):=by
 apply Ju;intro k
 by_cases hk:k<n
 ·rw[FD (Sz hk),Sz hk,Jz]
  congr 1
  by_cases e:k=p
  ·rw[if_pos e,e,if_pos (by simp)];omega
  ·have:¬(p==k)=true:=by rw[beq_iff_eq];exact λz=>e z.symm
   rw[Qs e,Qs this];omega
 ·rw[QD (by rw[MT,Xq];omega),QD (by rw[Xq];omega)]
theorem qu{B:Int}(n:Nat):val B (UJ n 0)=0:=by
 induction n with
 |zero=>rfl
 |succ n ih=>rw[QS,val,ih,Int.zero_mul];rfl
theorem Mv{B:Int}{n:Nat}:∀{qs:List Nat},(∀p∈qs,p<n)->val B (Kz n qs)=(qs.map λp=>B ^ (n-1-p)).sum
 |[],_=>by rw[GI,qu];rfl
 |p::qs,h=>by
  have hp:=h p Qn;rw[←qv,GU (by rw[Xq];exact hp),Mv (λq hq=>h q (Qk _ hq)),Xq,QA,Jd]
  omega
theorem D6{B:Int}{n:Nat}:∀{qs:List Nat},(∀p∈qs,p<n)->val B (Kz n qs).reverse=(qs.map λp=>B ^ p).sum:=λ{qs} h=>by
 have e:(Kz n qs).reverse=Kz n (qs.map λp=>n-1-p):=by
  apply Ju;intro k
  by_cases hk:k<n
  ·rw[Ui (by rw[Xq];exact hk),Xq,Sz (by omega),Sz hk]
   congr 2
   rw[List.count,List.count,Ut];apply List.countP_congr;intro p hp
   have:=h p hp
   simp only[Function.comp,beq_iff_eq];omega
  ·rw[QD (by rw[Jc,Xq];omega),QD (by rw[Xq];omega)]
 rw[e,Mv (λp hp=>by obtain ⟨q,hq,rfl⟩:=Qr.mp hp;have:=h q hq;omega),QP]
 congr 1
 apply JF;intro p hp
 have:=h p hp
 show B ^ (n-1-(n-1-p))=B ^ p
 congr 1
 omega
def Zv(o:Ord)(L:Nat)(qs:List Nat):List Int:=match o with
 |.firsts=>Kz L qs
 |.full=>(qs.length:Int)::Kz L qs
 |.lasts=>(qs.length:Int)::(Kz L qs).reverse.map λx=>-x
theorem HA{α:Type}(f g:α->Int)(l:List α):(l.map λx=>f x+g x).sum=(l.map f).sum+(l.map g).sum:=by
 induction l with
 |nil=>rfl
 |cons a r ih=>rw[QA,Jd,ih,QA,Jd,QA,Jd];omega
theorem D5{α:Type}(f g:α->Int)(l:List α):(l.map λx=>f x-g x).sum=(l.map f).sum-(l.map g).sum:=by
 induction l with
 |nil=>rfl
 |cons a r ih=>rw[QA,Jd,ih,QA,Jd,QA,Jd];omega
theorem MM{α:Type}(c:Int)(l:List α):(l.map λ_=>c).sum=(l.length:Int)*c:=by
 induction l with
 |nil=>simp
 |cons a r ih=>rw[QA,Jd,ih,QF,Int.natCast_add,Int.add_mul];omega
theorem D4(o:Ord){B:Int}{L:Nat}{sr:List Int}(h:∀r∈sr,1<=r/\r<=L):(sr.map (Yo o B L)).sum=val B (Zv o L (sr.map λr=>(r-1).toNat)):=by
 have hq:∀p∈sr.map (λr=>(r-1).toNat),p<L:=λp hp=>by
  obtain ⟨r,hr,rfl⟩:=Qr.mp hp
  have:=h r hr
  omega
 have e1:(sr.map λr=>B ^ ((L:Int)-r).toNat).sum=val B (Kz L (sr.map λr=>(r-1).toNat)):=by
  rw[Mv hq,QP]
  congr 1
  apply JF;intro r hr
  have:=h r hr
  show B ^ _=B ^ (L-1-(r-1).toNat)
  congr 1
  omega
 have e2:(sr.map λr=>B ^ (r-1).toNat).sum=val B (Kz L (sr.map λr=>(r-1).toNat)).reverse:=by
  rw[D6 hq,QP]
  rfl
 have e3:(sr.map λ_=>B ^ (L:Int).toNat).sum=((sr.map λr=>(r-1).toNat).length:Int)*B ^ L:=by
  rw[MM,Qb,Qv]
 cases o with
 |firsts=>exact e1
 |full=>
  show (sr.map λr=>B ^ (L:Int).toNat+B ^ ((L:Int)-r).toNat).sum=((sr.map λr=>(r-1).toNat).length:Int)*B ^ (Kz L (sr.map λr=>(r-1).toNat)).length+val B (Kz L (sr.map λr=>(r-1).toNat));rw[HA,e1,e3,Xq]
 |lasts=>
  show (sr.map λr=>B ^ (L:Int).toNat-B ^ (r-1).toNat).sum=((sr.map λr=>(r-1).toNat).length:Int)*B ^ ((Kz L (sr.map λr=>(r-1).toNat)).reverse.map λx=>-x).length+val B ((Kz L (sr.map λr=>(r-1).toNat)).reverse.map λx=>-x);rw[D5,e2,e3,D7,Qb,Qb,Jc,Xq];omega
def srv(got:List Int):List Int:=got.filter λr=>decide (r≠0)
def plQ(got:List Int):List Nat:=(srv got).map λr=>(r-1).toNat
theorem F6{L:Nat}{got:List Int}(h:okR L got):KB L got=Kz L (plQ got)++[(got.length:Int)-(plQ got).length]:=by
 unfold KB
 congr 1
 ·unfold Kz
  apply JF;intro p _
  congr 1
  unfold plQ srv;rw[List.count,List.count,Ut,List.countP_filter];apply List.countP_congr;intro r hr
  have:=h r hr
  simp only[Function.comp,beq_iff_eq,Jm,Q8];omega
 ·congr 1
  unfold plQ srv;rw[Qb,List.count]
  have e:got.length=got.countP (λr=>decide (r≠0))+got.countP (λr=>r==0):=by
   rw[List.length_eq_countP_add_countP (p:=λr=>decide (r≠0))]
   congr 1
   apply List.countP_congr;intro r _;simp
  rw[List.countP_eq_length_filter] at e;omega
theorem El:∀{a b:List Int},a.length=b.length->fnz (KG a b)=0->a=b
 |[],[],_,_=>rfl
 |x::a,y::b,h,e=>by
  have e:(if x-y=0 then fnz (KG a b) else x-y)=0:=e
  by_cases hxy:x-y=0
  ·rw[Ql hxy] at e
   rw[El (by simpa using h) e,show x=y by omega]
  ·rw[Qs hxy] at e;exact absurd e hxy
theorem GD{n:Nat}{qs:List Nat}(h:∀p∈qs,p<n):(Kz n qs).sum=qs.length:=FL qs n h
theorem Ly{L:Nat}{got:List Int}(h:okR L got):∀p∈plQ got,p<L:=λp hp=>by
 obtain ⟨r,hr,rfl⟩:=Qr.mp hp;obtain ⟨hr,h0⟩:=Us.mp hr
 have:=h r hr
 have:r≠0:=by simpa using h0
 omega
theorem Ab{o:Ord}{L:Nat}{g1 g2:List Int}(h1:okR L g1)(h2:okR L g2)(hl:g1.length=g2.length):fnz (XI o (KB L g1) (KB L g2))=fnz (KG (Zv o L (plQ g1)) (Zv o L (plQ g2))):=by
 have hcl:(KB L g1).length=(KB L g2).length:=by rw[VU,VU]
 have hne:KB L g1≠[]:=λe=>by have:=VU L g1;rw[e] at this;cases this
 rw[←GV hcl hne,F6 h1,F6 h2];have l1:=Xq L (plQ g1);have l2:=Xq L (plQ g2);have s1:=GD (Ly h1);have s2:=GD (Ly h2);generalize hc1:Kz L (plQ g1)=C1 at *;generalize hc2:Kz L (plQ g2)=C2 at *;have hC:C1.length=C2.length:=by rw[l1,l2]
 have last:∀(C:List Int)(z:Int),YX (C++[z])=z:=λC z=>by
  unfold YX;rw[Qj,Qh,Qw (by show C.length<=C.length+1-1;omega)]
  show ([z][C.length+1-1-C.length]?).getD 0=z;rw[show C.length+1-1-C.length=0 by omega]
  rfl
 have tail:fnz (KG C1 C2++KG [(g1.length:Int)-(plQ g1).length] [(g2.length:Int)-(plQ g2).length])=fnz (KG C1 C2):=by
  rw[NZ]
  by_cases e:fnz (KG C1 C2)=0
  ·have:=El hC e
   rw[Ql e,e];show (if (g1.length:Int)-(plQ g1).length-((g2.length:Int)-(plQ g2).length)=0 then (0:Int) else _)=0;rw[Ql (by rw[this] at s1;omega)]
  ·rw[Qs e]
 cases o with
 |firsts=>
  show fnz (KG (C1++_) (C2++_))=fnz (KG (Kz L (plQ g1)) (Kz L (plQ g2)));rw[hc1,hc2,Nv hC,tail]
 |full=>
  show fnz (KG ((0-YX (C1++_))::(C1++_)) ((0-YX (C2++_))::(C2++_)))=fnz (KG (((plQ g1).length:Int)::Kz L (plQ g1)) (((plQ g2).length:Int)::Kz L (plQ g2)));rw[hc1,hc2,last,last];show (if (0-((g1.length:Int)-(plQ g1).length))-(0-((g2.length:Int)-(plQ g2).length))=0 then fnz (KG (C1++_) (C2++_)) else _)=(if ((plQ g1).length:Int)-(plQ g2).length=0 then fnz (KG C1 C2) else _);rw[Nv hC,tail];have e:(0-((g1.length:Int)-(plQ g1).length))-(0-((g2.length:Int)-(plQ g2).length))=((plQ g1).length:Int)-(plQ g2).length:=by omega
  rw[e]
  congr 1
 |lasts=>
  show fnz (KG ((C1++[_]).reverse.map λx=>0-x) ((C2++[_]).reverse.map λx=>0-x))=fnz (KG (((plQ g1).length:Int)::(Kz L (plQ g1)).reverse.map λx=>-x) (((plQ g2).length:Int)::(Kz L (plQ g2)).reverse.map λx=>-x));rw[hc1,hc2,List.reverse_append,List.reverse_append];have e0:(λx:Int=>0-x)=λx=>-x:=by funext x;omega
  rw[e0];show (if -((g1.length:Int)-(plQ g1).length) - -((g2.length:Int)-(plQ g2).length)=0 then fnz (KG (C1.reverse.map λx=>-x) (C2.reverse.map λx=>-x)) else _)=(if ((plQ g1).length:Int)-(plQ g2).length=0 then fnz (KG (C1.reverse.map λx=>-x) (C2.reverse.map λx=>-x)) else _);have e : -((g1.length:Int)-(plQ g1).length) - -((g2.length:Int)-(plQ g2).length)=((plQ g1).length:Int)-(plQ g2).length:=by omega
  rw[e]
  congr 1
theorem Mu{W W1 W2:Nat->List (List Int)->Int->Int}{c:Int}(h:∀i rs t,W i rs t=W1 i rs t*c+W2 i rs t):∀(ls:L3)(ws:LO)(k:Nat),Zb (K3 W k ls ws)=Zb (K3 W1 k ls ws)*c+Zb (K3 W2 k ls ws)
 |[],_,_=>by simp[K3,Zb]
 |_::_,[],_=>by simp[K3,Zb]
 |rs::ls,o::ws,k=>by
  rw[K3,K3,K3,SL,SL,SL,Mu h ls ws (k+1),Int.add_mul]
  cases o with
  |none=>show (0:Int)+_=0*c+_+(0+_);rw[Int.zero_mul];omega
  |some t=>show W k rs t+_=W1 k rs t*c+_+(W2 k rs t+_);rw[h];omega
theorem GC{f:Int->Int}:∀(ls:L3)(ws:LO)(k:Nat),(∀(i:Nat) t rs,ws[i]?=some (some t)->ls[i]?=some rs->Zg t rs≠0)->Zb (K3 (λ_ rs t=>f (Zg t rs:Nat)) k ls ws)=((srv (Kb ls ws)).map f).sum
 |[],_,_,_=>by simp[K3,Zb,Kb,srv]
 |_::_,[],_,_=>by simp[K3,Zb,Kb,srv]
 |rs::ls,o::ws,k,h=>by
  have ih:=GC (f:=f) ls ws (k+1) λi t r h1 h2=>h (i+1) t r (by simpa using h1) (by simpa using h2)
  have e:Kb (rs::ls) (o::ws)=rg rs o::Kb ls ws:=rfl;rw[K3,SL,ih,e]
  cases o with
  |none=>
   have:srv (rg rs none::Kb ls ws)=srv (Kb ls ws):=rfl
   rw[this];show (0:Int)+_=_;omega
  |some t=>
   have h0:=h 0 t rs rfl rfl
   have:srv (rg rs (some t)::Kb ls ws)=((Zg t rs:Nat):Int)::srv (Kb ls ws):=by
    unfold srv;rw[List.filter_cons_of_pos (by show decide (((Zg t rs:Nat):Int)≠0)=true;simpa using h0)]
    rfl
   rw[this,QA,Jd]
   rfl
theorem M1{W:Nat->List (List Int)->Int->Int}{h:Nat->Int}:∀(ls:L3)(ws:LO)(k:Nat),ws.length=ls.length->(∀(i:Nat) rs o,ls[i]?=some rs->ws[i]?=some o->(o.map (W (k+i) rs)).getD 0=h (k+i))->Zb (K3 W k ls ws)=((UI ls.length).map λi=>h (k+i)).sum
 |[],[],_,_,_=>by simp[K3,Zb]
 |rs::ls,o::ws,k,hl,hh=>by
  have ih:=M1 (h:=h) ls ws (k+1) (by simpa using hl) λi rs' o' h1 h2=>by
   have:=hh (i+1) rs' o' (by simpa using h1) (by simpa using h2)
   rw[show k+1+i=k+(i+1) by omega]
   exact this
  have h0:=hh 0 rs o rfl rfl;rw[K3,SL,ih,QF,List.range_succ_eq_map,QA,Jd,QP];rw[Uq] at h0;rw[Uq,h0]
  congr 2
  apply JF;intro i _;show h (k+1+i)=h (k+(i+1));rw[show k+1+i=k+(i+1) by omega]
theorem Hz{c:Int}{a:Nat}:∀n:Nat,((UI n).map λi=>if i=a then c else 0).sum=if a<n then c else 0
 |0=>by simp
 |n+1=>by
  rw[JV,Qz,JM,Hz n];show _+((if n=a then c else 0)+0)=_
  by_cases h:a<n
  ·rw[Ql h,Qs (by omega),Ql (by omega)];omega
  ·by_cases h2:n=a
   ·rw[Qs h,Ql h2,Ql (by omega)];omega
   ·rw[Qs h,Qs h2,Qs (by omega)];omega
theorem GB{b:Int}{g:Int->Int}{n:Nat}:∀{ts:List Int},ts.Nodup->(∀a∈ts,0<=a/\a<n)->((UI n).map λi:Nat=>if (i:Int)∈ts then g i*b ^ (ts.length-1-ts.idxOf (i:Int)) else 0).sum=val b (ts.map g)
 |[],_,_=>by
  have:(λi:Nat=>if (i:Int)∈([]:List Int) then g i*b ^ (([]:List Int).length-1-([]:List Int).idxOf (i:Int)) else 0)=λ_=>(0:Int):=by funext i;rw[if_neg (by simp)]
  rw[this,MM];simp[val]
 |a::r,hn,hb=>by
  obtain ⟨ha,hr⟩:=Uw.mp hn;have h0:=hb a Qn;have ih:=GB (b:=b) (g:=g) (n:=n) hr λx hx=>hb x (Qk _ hx)
  have e:(λi:Nat=>if (i:Int)∈a::r then g i*b ^ ((a::r).length-1-(a::r).idxOf (i:Int)) else 0) =
    λi:Nat=>(if i=a.toNat then g a*b ^ r.length else 0)+(if (i:Int)∈r then g i*b ^ (r.length-1-r.idxOf (i:Int)) else 0):=by
   funext i
   by_cases h:(i:Int)=a
   ·have hi:i=a.toNat:=by omega
    rw[Ql (by rw[h];exact Qn),Ql hi,Qs (by rw[h];exact ha),h,List.idxOf_cons_self,QF]
    simp
   ·have hi:¬i=a.toNat:=by omega
    rw[Qs hi,Uo]
    by_cases h2:(i:Int)∈r
    ·have hb:(a==(i:Int))=false:=by simpa using Ne.symm h
     rw[Ql (Qk _ h2),Ql h2,List.idxOf_cons,hb,QF];show g i*b ^ (r.length+1-1-(r.idxOf (i:Int)+1))=_
     congr 2
     omega
    ·rw[if_neg h2,if_neg (by simp[h,h2])]
  rw[e,HA,Hz,Ql (by omega),ih,QA,val,Qb]
section
variable{cs:List Int}{ls:L3}{ws us:LO}{o:Ord}{old:Option LO}{ts:List Int}
theorem AB(hl:ws.length=ls.length)(ga:YL cs.length ls.length old ts):Zb (K3 (λi rs t=>TQ ts (lng ls+1) i (Zg t rs:Nat)) 0 ls ws)=val ((lng ls:Int)+1) (ts.map (Zy ls ws)):=by
 rw[M1 (h:=λi:Nat=>if (i:Int)∈ts then Zy ls ws i*((lng ls:Int)+1) ^ (ts.length-1-ts.idxOf (i:Int)) else 0) ls ws 0 hl,←GB ga.once ga.there]
 ·congr 2
  funext i
  rw[QU]
 ·intro i rs o' h1 h2
  rw[QU]
  have e:Zy ls ws (i:Int)=(o'.map λt=>(lng ls:Int)+1-(Zg t rs:Nat)).getD 0:=by
   unfold Zy;rw[Qv,Qh,Qh,h1,h2]
   cases o' <;> rfl
  rw[e]
  cases o' with
  |none=>
   show (0:Int)=if (i:Int)∈ts then 0*_ else 0;split
   ·rw[Int.zero_mul]
   ·rfl
  |some t=>rfl
theorem GT{os:LO}:∀(ls:L3)(ws:LO)(k:Nat),ws.length=ls.length->Zb (K3 (λi _ t=>if os[i]?=some (some t) then 1 else 0) k ls ws)=((((os.drop k).zip ws).filter λp=>decide (p.1=p.2)&&p.2.isSome).length:Nat)
 |[],[],k,_=>by simp[K3,Zb]
 |rs::ls,o::ws,k,hl=>by
  have ih:=GT (os:=os) ls ws (k+1) (by simpa using hl)
  rw[K3,SL,ih]
  by_cases hk:k<os.length
  ·rw[QQ hk,List.zip_cons_cons,Qe hk]
   cases o with
   |none=>rw[List.filter_cons_of_neg (by simp)];show (0:Int)+_=_;omega
   |some t=>
    show (if some os[k]=some (some t) then (1:Int) else 0)+_=_
    by_cases e:os[k]=some t
    ·rw[if_pos (by rw[e]),List.filter_cons_of_pos (by simp[e]),List.length_cons];omega
    ·rw[if_neg (by simpa using e),List.filter_cons_of_neg (by simp[e])];omega
  ·rw[J9 (by omega),J9 (by omega),List.zip_nil_left,List.zip_nil_left,QD (by omega)]
   cases o with
   |none=>rfl
   |some t=>rfl
theorem Aa(hl:ws.length=ls.length):Zb (K3 (λi _ t=>Wm old i t) 0 ls ws)=(Zi old ws:Int):=by
 cases old with
 |none=>
  rw[M1 (h:=λ_=>0) ls ws 0 hl,MM]
  ·simp[Zi]
  ·intro i rs o' _ _
   cases o' <;> rfl
 |some os=>exact GT ls ws 0 hl
theorem GS(dl:Deal cs ls ws)(ga:YL cs.length ls.length old ts):Zb (K3 (ZI ls o old ts) 0 ls ws) =
  (val ((ls.length:Int)+1) (Zv o (lng ls) (plQ (Kb ls ws)))*((ls.length:Int)+1)+Zi old ws)*((lng ls:Int)+1) ^ ts.length+val ((lng ls:Int)+1) (ts.map (Zy ls ws)):=by
 rw[Mu (W:=ZI ls o old ts) (W1:=λi rs t=>Yo o (ls.length+1) (lng ls) (Zg t rs:Nat)*((ls.length:Int)+1)+Wm old i t) (W2:=λi rs t=>TQ ts (lng ls+1) i (Zg t rs:Nat)) (c:=((lng ls:Int)+1) ^ ts.length) (λ_ _ _=>rfl) ls ws 0,
  Mu (W1:=λi rs t=>Yo o (ls.length+1) (lng ls) (Zg t rs:Nat)) (W2:=λi _ t=>Wm old i t) (c:=(ls.length:Int)+1) (λ_ _ _=>rfl) ls ws 0,AB dl.len ga,Aa dl.len,
  GC (f:=λr=>Yo o (ls.length+1) (lng ls) r) ls ws 0 (λi t rs h1 h2=>OC (dl.wish i t rs h1 h2)),D4 o]
 ·rfl
 ·intro r hr
  obtain ⟨hr,h0⟩:=Us.mp hr
  have:=Sa (ls:=ls) (ws:=ws) r hr
  have:r≠0:=by simpa using h0
  omega
end
theorem Mt{lo n:Int}{a b:List Int}(ha:∀x∈a,lo<=x/\x<=lo+n)(hb:∀x∈b,lo<=x/\x<=lo+n):∀d∈KG a b, -n<=d/\d<=n:=λd hd=>by
 unfold KG at hd;obtain ⟨p,hp,rfl⟩:=Qr.mp hd;obtain ⟨h1,h2⟩:=List.of_mem_zip (a:=p.1) (b:=p.2) hp
 have:=ha _ h1
 have:=hb _ h2
 omega
theorem O1{n:Nat}{qs:List Nat}{m:Int}(h:(qs.length:Int)<=m):∀x∈Kz n qs,0<=x/\x<=0+m:=λx hx=>by
 unfold Kz at hx;obtain ⟨p,_,rfl⟩:=Qr.mp hx
 have:=List.count_le_length (a:=p) (l:=qs)
 omega
theorem B9(o:Ord)(L:Nat)(p q:List Nat):(Zv o L p).length=(Zv o L q).length:=by
 cases o <;> simp[Zv,Xq]
theorem D3(o:Ord){L:Nat}{p q:List Nat}{m:Int}(hp:(p.length:Int)<=m)(hq:(q.length:Int)<=m):∀d∈KG (Zv o L p) (Zv o L q), -m<=d/\d<=m:=by
 have hc:=Mt (O1 (n:=L) hp) (O1 (n:=L) hq)
 cases o with
 |firsts=>exact hc
 |full=>
  intro d hd;rcases Q0.mp (show d∈((p.length:Int)-q.length)::KG (Kz L p) (Kz L q) from hd) with rfl|h
  ·omega
  ·exact hc d h
 |lasts=>
  intro d hd;rcases Q0.mp (show d∈((p.length:Int)-q.length)::KG ((Kz L p).reverse.map λx=>-x) ((Kz L q).reverse.map λx=>-x) from hd) with rfl|h
  ·omega
  ·refine Mt (lo:=-m) (n:=m) (λx hx=>?_) (λx hx=>?_) d h
   ·obtain ⟨y,hy,rfl⟩:=Qr.mp hx
    have:=O1 (n:=L) hp y (List.mem_reverse.mp hy)
    omega
   ·obtain ⟨y,hy,rfl⟩:=Qr.mp hx
    have:=O1 (n:=L) hq y (List.mem_reverse.mp hy)
    omega
theorem jp{a a' k k' t t' B P:Int}:((a*B+k)*P+t)-((a'*B+k')*P+t')=((a-a')*B+(k-k'))*P+(t-t'):=by
 have e:(a-a')*B+(k-k')=(a*B+k)-(a'*B+k'):=by rw[Int.sub_mul];omega
 rw[e,Int.sub_mul (a*B+k)];omega
section
variable{cs:List Int}{ls:L3}{ws us:LO}{o:Ord}{old:Option LO}{ts:List Int}
theorem L4:((plQ (Kb ls ws)).length:Int)<=ls.length:=by
 have h1:(plQ (Kb ls ws)).length<=(Kb ls ws).length:=by
  unfold plQ srv;rw[Qb];exact Ug _ _
 have h2:(Kb ls ws).length<=ls.length:=by unfold Kb;rw[J0];omega
 omega
theorem GR(hl:ws.length=ls.length):(Zi old ws:Int)<=ls.length:=by
 cases old with
 |none=>show ((0:Nat):Int)<=_;omega
 |some os=>
  have h:=Ug (λp:Option Int×Option Int=>decide (p.1=p.2)&&p.2.isSome) (os.zip ws);rw[Jy] at h;show ((((os.zip ws).filter λp=>decide (p.1=p.2)&&p.2.isSome).length:Nat):Int)<=_;omega
theorem Gg(g:Good cs ls)(dl:Deal cs ls ws)(ga:YL cs.length ls.length old ts):∀x∈ts.map (Zy ls ws),0<=x/\x<=0+(lng ls:Int):=λx hx=>by
 rw[Op g dl ga] at hx;obtain ⟨y,hy,rfl⟩:=Qr.mp hx;obtain ⟨z,_,rfl⟩:=Qr.mp hy
 have:=P1 (ls:=ls) (ws:=ws) (z:=z)
 unfold tf
 split <;> omega
theorem jU(g:Good cs ls)(d1:Deal cs ls ws)(d2:Deal cs ls us)(ga:YL cs.length ls.length old ts){w1 w2:Int}(e1:w1=Zb (K3 (ZI ls o old ts) 0 ls ws))(e2:w2=Zb (K3 (ZI ls o old ts) 0 ls us)) :
  (w2<w1 ↔ 0<fnz (XI o (KB (lng ls) (Kb ls ws)) (KB (lng ls) (Kb ls us)))∨fnz (XI o (KB (lng ls) (Kb ls ws)) (KB (lng ls) (Kb ls us)))=0/\((Zi old us:Int)<Zi old ws∨(Zi old ws:Int)=Zi old us/\0<fnz (KG (ts.map (Zy ls ws)) (ts.map (Zy ls us))))) /\
  (w1=w2 ↔ fnz (XI o (KB (lng ls) (Kb ls ws)) (KB (lng ls) (Kb ls us)))=0/\(Zi old ws:Int)=Zi old us/\fnz (KG (ts.map (Zy ls ws)) (ts.map (Zy ls us)))=0):=by
 have hgl:(Kb ls ws).length=(Kb ls us).length:=by rw[Oq d1.len,Oq d2.len]
 rw[Ab (Sa (ls:=ls) (ws:=ws)) (Sa (ls:=ls) (ws:=us)) hgl];have hB:(0:Int)<(ls.length:Int)+1:=by omega
 have hM:(0:Int)<(lng ls:Int)+1:=by omega
 have bd1:=D3 o (L:=lng ls) (L4 (ls:=ls) (ws:=ws)) (L4 (ls:=ls) (ws:=us));have bd2:=Mt (Gg g d1 ga) (Gg g d2 ga);have k1:=GR (old:=old) d1.len;have k2:=GR (old:=old) d2.len;have hl1:=B9 o (lng ls) (plQ (Kb ls ws)) (plQ (Kb ls us));have hl2:(ts.map (Zy ls ws)).length=(ts.map (Zy ls us)).length:=by rw[Qb,Qb]
 have v1:=Mw (B:=(ls.length:Int)+1) hl1;have v2:=Mw (B:=(lng ls:Int)+1) hl2;have ml:(KG (ts.map (Zy ls ws)) (ts.map (Zy ls us))).length=ts.length:=by rw[Ov hl2,Qb]
 have f1:=NY hB (l:=KG (Zv o (lng ls) (plQ (Kb ls ws))) (Zv o (lng ls) (plQ (Kb ls us)))) (λd hd=>by have:=bd1 d hd;omega)
 have f2:=NY hM (l:=KG (ts.map (Zy ls ws)) (ts.map (Zy ls us))) (λd hd=>by have:=bd2 d hd;omega)
 have sm:=MP hM (l:=KG (ts.map (Zy ls ws)) (ts.map (Zy ls us))) (λd hd=>by have:=bd2 d hd;omega)
 rw[ml] at sm;have tp1:=MN (X:=val ((ls.length:Int)+1) (KG (Zv o (lng ls) (plQ (Kb ls ws))) (Zv o (lng ls) (plQ (Kb ls us))))) (Y:=(Zi old ws:Int)-Zi old us) hB (by omega)
 have tp2:=MN (X:=val ((ls.length:Int)+1) (KG (Zv o (lng ls) (plQ (Kb ls ws))) (Zv o (lng ls) (plQ (Kb ls us))))*((ls.length:Int)+1)+((Zi old ws:Int)-Zi old us)) (MG hM ts.length) sm
 have df:w1-w2=(val ((ls.length:Int)+1) (KG (Zv o (lng ls) (plQ (Kb ls ws))) (Zv o (lng ls) (plQ (Kb ls us))))*((ls.length:Int)+1)+((Zi old ws:Int)-Zi old us))*((lng ls:Int)+1) ^ ts.length+val ((lng ls:Int)+1) (KG (ts.map (Zy ls ws)) (ts.map (Zy ls us))):=by
  rw[e1,e2,GS d1 ga,GS d2 ga,v1,v2];exact jp
 rw[←df] at tp2;generalize val ((ls.length:Int)+1) (KG (Zv o (lng ls) (plQ (Kb ls ws))) (Zv o (lng ls) (plQ (Kb ls us))))*((ls.length:Int)+1)+((Zi old ws:Int)-Zi old us)=X at tp1 tp2;generalize val ((ls.length:Int)+1) (KG (Zv o (lng ls) (plQ (Kb ls ws))) (Zv o (lng ls) (plQ (Kb ls us))))=V at tp1 f1;generalize val ((lng ls:Int)+1) (KG (ts.map (Zy ls ws)) (ts.map (Zy ls us)))=Y at tp2 f2;generalize fnz (KG (Zv o (lng ls) (plQ (Kb ls ws))) (Zv o (lng ls) (plQ (Kb ls us))))=A at f1 ⊢;generalize fnz (KG (ts.map (Zy ls ws)) (ts.map (Zy ls us)))=C at f2 ⊢;constructor
 ·constructor
  ·intro h
   rcases tp2.1.mp (by omega) with h1|⟨h1,h2⟩
   ·rcases tp1.1.mp h1 with h3|⟨h3,h4⟩
    ·exact .inl (f1.1.mp h3)
    ·exact .inr ⟨f1.2.mp h3,.inl (by omega)⟩
   ·obtain ⟨h3,h4⟩:=tp1.2.mp h1
    exact .inr ⟨f1.2.mp h3,.inr ⟨by omega,f2.1.mp h2⟩⟩
  ·intro h
   have:0<w1-w2:=tp2.1.mpr (by
    rcases h with h|⟨h,h2|⟨h2,h3⟩⟩
    ·exact .inl (tp1.1.mpr (.inl (f1.1.mpr h)))
    ·exact .inl (tp1.1.mpr (.inr ⟨f1.2.mpr h,by omega⟩))
    ·exact .inr ⟨tp1.2.mpr ⟨f1.2.mpr h,by omega⟩,f2.1.mpr h3⟩)
   omega
 ·constructor
  ·intro h
   obtain ⟨h1,h2⟩:=tp2.2.mp (by omega)
   obtain ⟨h3,h4⟩:=tp1.2.mp h1;exact ⟨f1.2.mp h3,by omega,f2.2.mp h2⟩
  ·rintro ⟨h1,h2,h3⟩
   have:=tp2.2.mpr ⟨tp1.2.mpr ⟨f1.2.mpr h1,by omega⟩,f2.2.mpr h3⟩
   omega
theorem GQ(g:Good cs ls)(d1:Deal cs ls ws)(d2:Deal cs ls us)(ga:YL cs.length ls.length old ts) :
  X3 o (KB (lng ls) (Kb ls ws)) (KB (lng ls) (Kb ls us)) (Zi old ws) (Zi old us) (ts.map (rgA ls ws)) (ts.map (rgA ls us))=decide (Zb (K3 (ZI ls o old ts) 0 ls us)<Zb (K3 (ZI ls o old ts) 0 ls ws)):=by
 have ht:=MQ (L:=lng ls) (xs:=ts.map (rgA ls ws)) (ys:=ts.map (rgA ls us)) (λr h=>by obtain ⟨z,_,rfl⟩:=Qr.mp h;exact P1) (λr h=>by obtain ⟨z,_,rfl⟩:=Qr.mp h;exact P1)
 rw[←Op g d1 ga,←Op g d2 ga] at ht;have hs:=(jU (o:=o) g d1 d2 ga rfl rfl).1;unfold X3;rw[←ht];apply JH.2;rw[Q8,hs];generalize fnz (XI o (KB (lng ls) (Kb ls ws)) (KB (lng ls) (Kb ls us)))=A;generalize fnz (KG (ts.map (Zy ls ws)) (ts.map (Zy ls us)))=C
 by_cases h:A=0
 ·rw[Ql h]
  by_cases h2:(Zi old ws:Int)=Zi old us
  ·rw[Ql h2,Q8];omega
  ·rw[Qs h2,Q8];omega
 ·rw[Qs h,Q8];omega
end
theorem jT{α β:Type}{f:α->β}(hf:∀a b,f a=f b->a=b){l:List α}(h:l.Nodup):(l.map f).Nodup:=by
 unfold List.Nodup at h ⊢;rw[List.pairwise_map];exact h.imp λhne e=>hne (hf _ _ e)
theorem F5:∀(ls:L3)(k:Nat),(∀rs∈ls,rs.flatten.Nodup)->(KS k ls).Nodup
 |[],_,_=>List.nodup_nil
 |rs::ls,k,h=>by
  show ((YD rs.flatten).map (λt=>((k:Int),t))++KS (k+1) ls).Nodup;rw[List.nodup_append];refine ⟨?_,F5 ls (k+1) λr hr=>h r (Qk _ hr),λa ha b hb e=>?_⟩
  ·exact jT (λx y e=>(Prod.mk.inj e).2) ((Wt _).nodup_iff.mpr (h rs Qn))
  ·subst e
   obtain ⟨t,_,rfl⟩:=Qr.mp ha
   have:=MI ls (k+1) _ hb
   simp at this;omega
def SO(tm:Int)(as ps:List Int):D:=.tuple [.int tm,.list (as.map int),.list (ps.map int)]
def NF(ps cs:List Int):List Int:=(ps.zip cs).map λp=>p.1*p.2
def OR(cs as ps:List Int):Int:=as.sum+(NF ps cs).sum
theorem D2{cs:List Int}{ls:L3}(g:Good cs ls):∀q∈KS 0 ls,(0<=q.1/\q.1<ls.length)/\0<=q.2/\q.2<cs.length:=λq hq=>by
 obtain ⟨i,rs,h1,h2,h3⟩:=Sj hq
 have:=(g.rk rs (Qp h1)).flat q.2 h3
 have:=(Qg.mp h1).1
 omega
section
variable{cs:List Int}{ls:L3}{o:Ord}{old:Option LO}{ts:List Int}
theorem B8(g:Good cs ls)(ga:YL cs.length ls.length old ts){q:Int×Int}(hq:q∈KS 0 ls):0<=Zm ls o old ts q.1 q.2/\Zm ls o old ts q.1 q.2<18446744073709551616:=by
 obtain ⟨i,rs,h1,h2,h3⟩:=Sj hq;have l7:=g.l7;have l1:=g.l1;have hL:lng ls<=5:=Oe l1 λrs h=>(g.rk rs h).few;have hrl:=NP (Qp h1);have hr1:1<=Zg q.2 rs:=by have:=OC h3;omega
 have hr2:Zg q.2 rs<=lng ls:=by have:=Nw q.2 rs;omega
 have htl:=ga.few
 have e:Zm ls o old ts q.1 q.2=ZI ls o old ts i rs q.2:=by
  unfold Zm;rw[h2,QU,Qv]
  congr 1
  simp[List.getD,h1]
 rw[e];unfold ZI;have pw:∀{b:Int}{n k:Nat},1<=b->b<=8->n<=k->1<=b ^ n/\b ^ n<=8 ^ k:=λ{b n k} h0 h8 hk=>⟨Int.pow_pos h0,Fa (by omega) h8 hk⟩
 have hb1:(1:Int)<=(ls.length:Int)+1:=by omega
 have hb8:(ls.length:Int)+1<=8:=by omega
 have hM1:(1:Int)<=(lng ls:Int)+1:=by omega
 have hM8:(lng ls:Int)+1<=8:=by omega
 have a1:=pw hb1 hb8 (n:=lng ls) (k:=5) hL;have a2:=pw hb1 hb8 (n:=((lng ls:Int)-(Zg q.2 rs:Nat)).toNat) (k:=5) (by omega)
 have a3:=pw hb1 hb8 (n:=((Zg q.2 rs:Nat)-1:Int).toNat) (k:=5) (by omega)
 have a4:((ls.length:Int)+1) ^ ((Zg q.2 rs:Nat)-1:Int).toNat<=((ls.length:Int)+1) ^ lng ls:=by
  have:((Zg q.2 rs:Nat)-1:Int).toNat<=lng ls:=by omega
  obtain ⟨k,hk⟩:=Nat.exists_eq_add_of_le this;rw[hk,Int.pow_add]
  have:=(pw hb1 hb8 (n:=k) (k:=5) (by omega)).1
  have hm:=Int.mul_le_mul_of_nonneg_left this (show 0<=((ls.length:Int)+1) ^ ((Zg q.2 rs:Nat)-1:Int).toNat by omega)
  rw[Int.mul_one] at hm;exact hm
 have b1:0<=Yo o (ls.length+1) (lng ls) (Zg q.2 rs)/\Yo o (ls.length+1) (lng ls) (Zg q.2 rs)<=65536:=by
  cases o with
  |firsts=>show 0<=_ ^ _/\_ ^ _<=65536;omega
  |full=>
   show 0<=_ ^ ((lng ls:Int)).toNat+_ ^ _/\_ ^ ((lng ls:Int)).toNat+_ ^ _<=65536;rw[Qv];omega
  |lasts=>
   show 0<=_ ^ ((lng ls:Int)).toNat-_ ^ _/\_ ^ ((lng ls:Int)).toNat-_ ^ _<=65536;rw[Qv];omega
 have b2:0<=Wm old i q.2/\Wm old i q.2<=1:=by
  unfold Wm;split
  ·omega
  ·split <;> omega
 have b3:=pw hM1 hM8 (n:=ts.length) (k:=7) (by omega)
 have b4:0<=TQ ts ((lng ls:Int)+1) i (Zg q.2 rs)/\TQ ts ((lng ls:Int)+1) i (Zg q.2 rs)<=8*8 ^ 7:=by
  unfold TQ;split
  ·have b5:=pw hM1 hM8 (n:=ts.length-1-ts.idxOf (i:Int)) (k:=7) (by omega)
   refine ⟨Int.mul_nonneg (by omega) (by omega),?_⟩
   exact Int.mul_le_mul (by omega) b5.2 (by omega) (by decide)
  ·exact ⟨by omega,by decide⟩
 have c1:0<=Yo o (ls.length+1) (lng ls) (Zg q.2 rs)*(ls.length+1)+Wm old i q.2/\Yo o (ls.length+1) (lng ls) (Zg q.2 rs)*(ls.length+1)+Wm old i q.2<=600000:=by
  have d1:0<=Yo o (ls.length+1) (lng ls) (Zg q.2 rs)*((ls.length:Int)+1):=Int.mul_nonneg b1.1 (by omega)
  have d2:Yo o (ls.length+1) (lng ls) (Zg q.2 rs)*((ls.length:Int)+1)<=65536*8:=Int.mul_le_mul b1.2 hb8 (by omega) (by decide)
  omega
 have d3:0<=(Yo o (ls.length+1) (lng ls) (Zg q.2 rs)*(ls.length+1)+Wm old i q.2)*((lng ls:Int)+1) ^ ts.length:=Int.mul_nonneg c1.1 (by omega)
 have d4:(Yo o (ls.length+1) (lng ls) (Zg q.2 rs)*(ls.length+1)+Wm old i q.2)*((lng ls:Int)+1) ^ ts.length<=600000*8 ^ 7:=Int.mul_le_mul c1.2 b3.2 (by omega) (by decide)
 omega
end
structure OkP(n m:Nat)(V:Int->Int->Int)(qs:LP)(tm:Int)(as ps:List Int):Prop where
 t0:0<=tm
 la:as.length=m
 lp:ps.length=n
 aa:∀a∈as,0<=a
 pp:∀p∈ps,0<=p
 le:∀q∈qs,tm*V q.1 q.2<=as.getD q.1.toNat 0+ps.getD q.2.toNat 0
def pz(ps:List Int)(ws:LO):Int:=(ws.map λo=>match o with|some t=>ps.getD t.toNat 0|none=>0).sum
def ZJ(n:Nat)(f:Nat->Int):Int:=((UI n).map f).sum
theorem SK{n:Nat}{f:Nat->Int}:ZJ (n+1) f=ZJ n f+f n:=by
 unfold ZJ;rw[JV,Qz,JM];simp
theorem Ge{f h:Nat->Int}:∀(n:Nat),ZJ n (λk=>f k+h k)=ZJ n f+ZJ n h
 |0=>rfl
 |n+1=>by rw[SK,SK,SK,Ge n];omega
theorem O0{f h:Nat->Int}:∀(n:Nat),(∀k,k<n->f k<=h k)->ZJ n f<=ZJ n h
 |0,_=>QZ _
 |n+1,e=>by
  have h1:=O0 n λk hk=>e k (by omega)
  have h2:=e n (by omega)
  rw[SK,SK];omega
theorem M0:∀(n:Nat)(f:Nat->Int),(∀k,k<n->f k=0)->ZJ n f=0
 |0,_,_=>rfl
 |n+1,f,e=>by rw[SK,M0 n f λk hk=>e k (by omega),e n (by omega)];rfl
theorem Gd{p:Nat->Int}{j:Nat}:∀(n:Nat),j<n->ZJ n (λk=>if k=j then p k else 0)=p j
 |n+1,h=>by
  rw[SK]
  by_cases e:n=j
  ·subst e
   rw[Ql rfl,M0 n _ λk hk=>Qs (by omega)]
   omega
  ·rw[Qs e,Gd n (by omega)]
   omega
theorem M9{f h:Nat->Int}{n:Nat}(e:∀k,k<n->f k=h k):ZJ n f=ZJ n h:=Ue (O0 n λk hk=>by rw[e k hk];exact QZ _) (O0 n λk hk=>by rw[e k hk];exact QZ _)
theorem MZ{ps:List Int}{n:Nat}:∀(ws:LO),(∀t,some t∈ws->0<=t/\t<n)->pz ps ws=ZJ n λk=>((ws.count (some (k:Int)):Nat):Int)*ps.getD k 0
 |[],_=>by
  rw[M0 n _ λk _=>by simp]
  rfl
 |o::ws,h=>by
  have ih:=MZ (ps:=ps) ws λt ht=>h t (Qk _ ht)
  cases o with
  |none=>
   show ((0:Int)::(ws.map λo=>match o with|some t=>ps.getD t.toNat 0|none=>0)).sum=_
   rw[Jd];unfold pz at ih;rw[ih,Uo];exact M9 λk _=>by rw[List.count_cons];simp
  |some t=>
   have ht:=h t Qn;show (ps.getD t.toNat 0::(ws.map λo=>match o with|some t=>ps.getD t.toNat 0|none=>0)).sum=_
   rw[Jd];unfold pz at ih;rw[ih,←Gd (p:=λk=>ps.getD k 0) (j:=t.toNat) n (by omega),←Ge]
   refine M9 λk _=>?_;rw[Jz]
   by_cases e:k=t.toNat
   ·subst e
    have:(some t==some ((t.toNat:Nat):Int))=true:=by simp;omega
    rw[Ql rfl,Ql this,Int.natCast_add,Int.add_mul];omega
   ·have:¬(some t==some ((k:Nat):Int))=true:=by simp;omega
    rw[Qs e,Qs this,Uo,Uq]
theorem F4:∀(ps cs:List Int),ps.length=cs.length->(NF ps cs).sum=ZJ cs.length λk=>cs.getD k 0*ps.getD k 0
 |ps,cs,h=>by
  unfold ZJ NF
  congr 1
  apply Ju;intro i;rw[Qd,Qd]
  by_cases hi:i<cs.length
  ·rw[Q5 hi]
   have h1:ps[i]?=some ps[i]:=Qe (by omega)
   have h2:cs[i]?=some cs[i]:=Qe hi;have hz:(ps.zip cs)[i]?=some (ps[i],cs[i]):=JT.mpr ⟨h1,h2⟩;rw[hz];simp only[Option.map_some,Qh,h1,h2,J5,Int.mul_comm]
  ·rw[QD (l:=ps.zip cs) (by rw[Jy];omega),QD (l:=UI cs.length) (by rw[Qq];omega)]
   rfl
structure Stp where
 a:Nat
 b:Nat
 g:Int
 w:Option Nat
abbrev Tab:=List (Int×List Stp)
def ent(T:Tab)(p:Nat):Int×List Stp:=T.getD p (0,[])
def Xb(W T:Tab)(s:Stp):Tab:=if (ent T s.b).1<(ent W s.a).1+s.g then T.set s.b ((ent W s.a).1+s.g,(ent W s.a).2++[s]) else T
def OQ(W:Tab)(S:List Stp):Tab:=S.foldl (Xb W) W
def Zj(n:Nat)(S:List Stp):Nat->Tab
 |0=>UJ n (0,[])
 |t+1=>OQ (Zj n S t) S
theorem kg{T:Tab}{p:Nat}{x:Int×List Stp}(h:p<T.length):ent (T.set p x) p=x:=by
 unfold ent;rw[Qh,QJ h];rfl
theorem M8{T:Tab}{p q:Nat}{x:Int×List Stp}(h:p≠q):ent (T.set p x) q=ent T q:=by
 unfold ent;rw[Qh,Qu h,←Qh]
theorem AA(W T:Tab)(s:Stp):(Xb W T s).length=T.length:=by
 unfold Xb;split
 ·rw[QY]
 ·rfl
structure Ps(W T:Tab)(S:List Stp):Prop where
 len:T.length=W.length
 up:∀p,(ent W p).1<=(ent T p).1
 how:∀p,ent T p=ent W p ∨ ∃s∈S,s.b=p/\ent T p=((ent W s.a).1+s.g,(ent W s.a).2++[s])/\(ent W p).1<(ent T p).1
theorem kf{W T:Tab}{S:List Stp}{s:Stp}(hs:s∈S)(hb:s.b<W.length)(k:Ps W T S):Ps W (Xb W T s) S/\(∀p,(ent T p).1<=(ent (Xb W T s) p).1)/\(ent W s.a).1+s.g<=(ent (Xb W T s) s.b).1:=by
 have hbT:s.b<T.length:=by rw[k.len];exact hb
 unfold Xb;split
 ·rename_i h
  have self:=kg (x:=((ent W s.a).1+s.g,(ent W s.a).2++[s])) hbT;refine ⟨⟨by rw[QY];exact k.len,λp=>?_,λp=>?_⟩,λp=>?_,by rw[self];exact QZ _⟩
  ·by_cases z:s.b=p
   ·subst z;rw[self];have:=k.up s.b;show _<=(ent W s.a).1+s.g;omega
   ·rw[M8 z];exact k.up p
  ·by_cases z:s.b=p
   ·subst z;right;exact ⟨s,hs,rfl,self,by rw[self];have:=k.up s.b;show _<(ent W s.a).1+s.g;omega⟩
   ·rw[M8 z];exact k.how p
  ·by_cases z:s.b=p
   ·subst z;rw[self];show _<=(ent W s.a).1+s.g;omega
   ·rw[M8 z];exact QZ _
 ·rename_i h
  exact ⟨k,λp=>QZ _,by omega⟩
theorem Ek{W:Tab}{S:List Stp}(hS:∀s∈S,s.b<W.length):∀(R:List Stp)(T:Tab),(∀s∈R,s∈S)->Ps W T S->Ps W (R.foldl (Xb W) T) S/\(∀p,(ent T p).1<=(ent (R.foldl (Xb W) T) p).1)/\∀s∈R,(ent W s.a).1+s.g<=(ent (R.foldl (Xb W) T) s.b).1
 |[],T,_,k=>⟨k,λ_=>QZ _,λs h=>by cases h⟩
 |s::R,T,hR,k=>by
  obtain ⟨k1,u1,c1⟩:=kf (hR s Qn) (hS s (hR s Qn)) k;obtain ⟨k2,u2,c2⟩:=Ek hS R (Xb W T s) (λx hx=>hR x (Qk _ hx)) k1;refine ⟨k2,λp=>JX (u1 p) (u2 p),λx hx=>?_⟩;rcases Q0.mp hx with rfl|hx
  ·exact JX c1 (u2 x.b)
  ·exact c2 x hx
theorem Eo{W:Tab}{S:List Stp}(hS:∀s∈S,s.b<W.length):Ps W (OQ W S) S/\∀s∈S,(ent W s.a).1+s.g<=(ent (OQ W S) s.b).1:=by
 obtain ⟨k,_,c⟩:=Ek hS S W (λ_ h=>h) ⟨rfl,λ_=>QZ _,λ_=>.inl rfl⟩;exact ⟨k,c⟩
section
variable{n:Nat}{S:List Stp}(hS:∀s∈S,s.a<n/\s.b<n)
include hS
theorem PJ:∀t,(Zj n S t).length=n
 |0=>by unfold Zj;rw[QE]
 |t+1=>by
  unfold Zj;rw[(Eo (λs h=>by rw[PJ t];exact (hS s h).2)).1.len,PJ t]
theorem SI(t:Nat):Ps (Zj n S t) (Zj n S (t+1)) S/\∀s∈S,(ent (Zj n S t) s.a).1+s.g<=(ent (Zj n S (t+1)) s.b).1 :=
 Eo (λs h=>by rw[PJ hS t];exact (hS s h).2)
theorem Oo(p:Nat):ent (Zj n S 0) p=(0,[]):=by
 unfold ent Zj;rw[Qh,QB]
 split <;> rfl
theorem Nz:∀t,(∀p,(ent (Zj n S t) p).2.length<=t)/\(∀p,0<t->ent (Zj n S t) p≠ent (Zj n S (t-1)) p->(ent (Zj n S t) p).2.length=t)
 |0=>⟨λp=>by rw[Oo hS];exact Qy _,λp h=>absurd h (Jw _)⟩
 |t+1=>by
  obtain ⟨h1,h2⟩:=Nz t;obtain ⟨k,c⟩:=SI hS t
  have key:∀p,ent (Zj n S (t+1)) p≠ent (Zj n S t) p->(ent (Zj n S (t+1)) p).2.length=t+1:=λp hne=>by
   rcases k.how p with e|⟨s,hs,hb,e,lt⟩
   ·exact absurd e hne
   ·rw[e,Qj,Ji]
    congr 1
    cases t with
    |zero=>rw[Oo hS];rfl
    |succ t=>
     refine h2 s.a (Nat.succ_pos t) λz=>?_;obtain ⟨k0,c0⟩:=SI hS t
     have:=c0 s hs
     rw[Ub] at z;rw[e,z,←hb] at lt;exact absurd lt (by show ¬_<(ent (Zj n S t) s.a).1+s.g;omega)
  refine ⟨λp=>?_,λp _ hne=>key p (by rw[Ub] at hne;exact hne)⟩
  by_cases z:ent (Zj n S (t+1)) p=ent (Zj n S t) p
  ·rw[z];exact Nat.le_succ_of_le (h1 p)
  ·rw[key p z];exact Qy _
end
inductive Walk(S:List Stp):Nat->List Stp->Prop where
 |nil (p:Nat):Walk S p []
 |snoc {w:List Stp} {s:Stp} (hs:s∈S) (h:Walk S s.a w):Walk S s.b (w++[s])
def KO(w:List Stp):Int:=(w.map Stp.g).sum
theorem Gc:KO []=0:=rfl
theorem VX(u v:List Stp):KO (u++v)=KO u+KO v:=by unfold KO;rw[Qz,JM]
theorem PD(s:Stp):KO [s]=s.g:=by unfold KO;simp
section
variable{n:Nat}{S:List Stp}(hS:∀s∈S,s.a<n/\s.b<n)
include hS
theorem Ou:∀t p,Walk S p (ent (Zj n S t) p).2/\KO (ent (Zj n S t) p).2=(ent (Zj n S t) p).1
 |0,p=>by rw[Oo hS];exact ⟨.nil p,rfl⟩
 |t+1,p=>by
  rcases (SI hS t).1.how p with e|⟨s,hs,hb,e,_⟩
  ·rw[e];exact Ou t p
  ·obtain ⟨h1,h2⟩:=Ou t s.a
   rw[e,←hb];exact ⟨.snoc hs h1,by rw[VX,PD,h2]⟩
theorem GP{t u:Nat}(h:t<=u)(p:Nat):(ent (Zj n S t) p).1<=(ent (Zj n S u) p).1:=by
 induction h with
 |refl=>exact QZ _
 |step _ ih=>exact JX ih ((SI hS _).1.up p)
theorem Az{p:Nat}{w:List Stp}(h:Walk S p w):∀(t:Nat),w.length<=t->KO w<=(ent (Zj n S t) p).1:=by
 induction h with
 |nil p=>
  intro t _
  have:=GP hS (J8 t) p
  rw[Oo hS] at this;exact this
 |@snoc w s hs h ih=>
  intro t hl;rw[Qj,Ji] at hl;obtain ⟨u,rfl⟩:∃u,t=u+1:=⟨t-1,by omega⟩
  have:=ih u (by omega)
  have:=(SI hS u).2 s hs
  rw[VX,PD];omega
theorem jS{t:Nat}(h0:0<t)(h:∀p,p<n->(ent (Zj n S t) p).2.length≠t):∀s∈S,(ent (Zj n S t) s.a).1+s.g<=(ent (Zj n S t) s.b).1:=λs hs=>by
 obtain ⟨u,rfl⟩:∃u,t=u+1:=⟨t-1,by omega⟩
 have e:ent (Zj n S (u+1)) s.a=ent (Zj n S u) s.a:=Classical.byContradiction λz=>h s.a (hS s hs).1 ((Nz hS (u+1)).2 s.a h0 z);rw[e];exact (SI hS u).2 s hs
end
inductive Path(S:List Stp):Nat->List Stp->Nat->Prop where
 |nil (p:Nat):Path S p [] p
 |cons {s:Stp} {w:List Stp} {p:Nat} (hs:s∈S) (h:Path S s.b w p):Path S s.a (s::w) p
section
variable{S:List Stp}
theorem Path.append{q m p:Nat}{u v:List Stp}(h1:Path S q u m)(h2:Path S m v p):Path S q (u++v) p:=by
 induction h1 with
 |nil p=>exact h2
 |cons hs h ih=>exact .cons hs (ih h2)
theorem Path.split{p:Nat}{v:List Stp}:∀{u:List Stp}{q:Nat},Path S q (u++v) p->∃m,Path S q u m/\Path S m v p
 |[],q,h=>⟨q,.nil q,h⟩
 |s::u,q,h=>by
  cases h with
  |cons hs h=>
   obtain ⟨m,h1,h2⟩:=Path.split (u:=u) h;exact ⟨m,.cons hs h1,h2⟩
theorem Path.mem{q p:Nat}{w:List Stp}(h:Path S q w p):∀s∈w,s∈S:=by
 induction h with
 |nil p=>intro s h;cases h
 |cons hs h ih=>
  intro s hm;rcases Q0.mp hm with rfl|hm
  ·exact hs
  ·exact ih s hm
theorem Walk.path{p:Nat}{w:List Stp}(h:Walk S p w):∃q,Path S q w p:=by
 induction h with
 |nil p=>exact ⟨p,.nil p⟩
 |snoc hs h ih=>
  obtain ⟨q,hq⟩:=ih;exact ⟨q,hq.append (.cons hs (.nil _))⟩
theorem Path.walk{p:Nat}:∀{w:List Stp}{q:Nat},Path S q w p->∀{u:List Stp},Walk S q u->Walk S p (u++w)
 |[],q,h,u,hu=>by cases h;rw[Q9];exact hu
 |s::w,q,h,u,hu=>by
  cases h with
  |cons hs h=>
   have:=Path.walk h (Walk.snoc hs hu)
   rw[Jg] at this;exact this
theorem Path.head{q p:Nat}{s:Stp}{w:List Stp}(h:Path S q (s::w) p):q=s.a:=by cases h;rfl
theorem Path.step{q p:Nat}{s:Stp}{w:List Stp}(h:Path S q (s::w) p):s∈S/\Path S s.b w p:=by cases h with|cons hs h=>exact ⟨hs,h⟩
theorem Path.at{q p:Nat}{w:List Stp}(h:Path S q w p){i:Nat}{s:Stp}(hi:w[i]?=some s):Path S q (w.take i) s.a/\Path S q (w.take (i+1)) s.b/\Path S s.b (w.drop (i+1)) p:=by
 have hl:i<w.length:=(Qg.mp hi).1
 have e:w.drop i=s::w.drop (i+1):=by
  rw[QQ hl]
  congr 1
  exact (Qg.mp hi).2
 have h':Path S q (w.take i++w.drop i) p:=by rw[Uj];exact h
 obtain ⟨m,h1,h2⟩:=h'.split;rw[e] at h2;have hm:=h2.head;subst hm;obtain ⟨hs,h3⟩:=h2.step;refine ⟨h1,?_,h3⟩;rw[JK,hi];exact h1.append (.cons hs (.nil _))
theorem Path.next{q p:Nat}{w:List Stp}(h:Path S q w p){i:Nat}{s t:Stp}(hi:w[i]?=some s)(hj:w[i+1]?=some t):t.a=s.b:=by
 obtain ⟨_,_,h3⟩:=h.at hi;have hl:i+1<w.length:=(Qg.mp hj).1;rw[QQ hl] at h3;rw[←(Qg.mp hj).2];exact h3.head.symm
structure NX(w:List Stp)(i j:Nat):Prop where
 ij:i<=j
 jl:j<w.length
 same:∀s t,w[i]?=some s->w[j]?=some t->s.a=t.b
 first:∀j'<j,∀i' ≤ j',∀s t,w[i']?=some s->w[j']?=some t->s.a≠t.b
def L1(w:List Stp):Prop:=∀j<w.length,∀i ≤ j,∀s t,w[i]?=some s->w[j]?=some t->s.a≠t.b
theorem B7{n:Nat}(hS:∀s∈S,s.a<n/\s.b<n){q p:Nat}{w:List Stp}(h:Path S q w p)(hl:n<=w.length)(h0:0<n):¬L1 w:=λhn=>by
 obtain ⟨s0,w0,rfl⟩:∃s0 w0,w=s0::w0:=by
  cases w with
  |nil=>rw[QC] at hl;omega
  |cons a b=>exact ⟨a,b,rfl⟩
 let P:List Nat:=s0.a::(s0::w0).map Stp.b
 have key:∀k l:Nat,k<l->∀x y:Nat,P[k]?=some x->P[l]?=some y->x≠y:=λk l hkl x y hx hy=>by
  obtain ⟨l,rfl⟩:∃m,l=m+1:=⟨l-1,by omega⟩
  have hy:((s0::w0).map Stp.b)[l]?=some y:=hy;rw[Qd] at hy
  cases ht:(s0::w0)[l]? with
  |none=>rw[ht] at hy;cases hy
  |some t=>
  rw[ht] at hy;cases hy;have hll:l<(s0::w0).length:=(Qg.mp ht).1;obtain ⟨s,hs⟩:∃s,(s0::w0)[k]?=some s:=⟨_,Qe (by omega)⟩
  have hxs:x=s.a:=by
   cases k with
   |zero=>cases hs;cases hx;rfl
   |succ k=>
    have hx:((s0::w0).map Stp.b)[k]?=some x:=hx;rw[Qd] at hx;obtain ⟨r,hr⟩:∃r,(s0::w0)[k]?=some r:=⟨_,Qe (by omega)⟩
    rw[hr] at hx;cases hx;exact (h.next hr hs).symm
  rw[hxs];exact hn l hll k (by omega) s t hs ht
 have nd:P.Nodup:=by
  rw[List.nodup_iff_pairwise_ne,List.pairwise_iff_getElem];intro k l hk hl2 hkl;exact key k l hkl _ _ (Qe hk) (Qe hl2)
 have bound:∀x∈P,x<n:=λx hx=>by
  rcases Q0.mp hx with rfl|hx
  ·exact (hS s0 h.step.1).1
  ·obtain ⟨s,hs,rfl⟩:=Qr.mp hx
   exact (hS s (h.mem s hs)).2
 have le:P.length<=n:=by
  have:=List.Nodup.length_le_of_subset nd (l₂:=UI n) λx hx=>Q7.mpr (bound x hx)
  rwa[Qq] at this
 have:P.length=(s0::w0).length+1:=by show ((s0::w0).map Stp.b).length+1=_;rw[Qb]
 omega
theorem jR{n:Nat}(hS:∀s∈S,s.a<n/\s.b<n)(h0:0<n){p:Nat}(hw:(ent (Zj n S n) p).2.length=n){i j:Nat}(r:NX (ent (Zj n S n) p).2 i j) :
  ∃x,Path S x (((ent (Zj n S n) p).2.take (j+1)).drop i) x/\0<KO (((ent (Zj n S n) p).2.take (j+1)).drop i):=by
 obtain ⟨hwk,hg⟩:=Ou hS n p;generalize hW:(ent (Zj n S n) p).2=w at hw r hwk hg ⊢;obtain ⟨q,hp⟩:=hwk.path;have hij:=r.ij;have hjl:=r.jl;obtain ⟨s,hs⟩:∃s,w[i]?=some s:=⟨_,Qe (by omega)⟩
 obtain ⟨t,ht⟩:∃t,w[j]?=some t:=⟨_,Qe hjl⟩;have hst:=r.same s t hs ht;obtain ⟨a1,a2,a3⟩:=hp.at hs;obtain ⟨b1,b2,b3⟩:=hp.at ht
 have e1:w.take (j+1)=w.take i++(w.take (j+1)).drop i:=by
  have:=(Uj i (w.take (j+1))).symm
  rw[List.take_take,Nat.min_eq_left (by omega)] at this
  exact this
 rw[e1] at b2;obtain ⟨m,c1,c2⟩:=b2.split
 have hm:m=s.a:=by
  have e2:(w.take (j+1)).drop i=s::(w.take (j+1)).drop (i+1):=by
   rw[QQ (by rw[Q3];omega)]
   congr 1
   rw[List.getElem_take];exact (Qg.mp hs).2
  rw[e2] at c2;exact c2.head
 subst hm;rw[←hst] at c2 b3;refine ⟨s.a,c2,?_⟩;have hsh:Path S q (w.take i++w.drop (j+1)) p:=a1.append b3;have hshw:=hsh.walk (u:=[]) (.nil q);rw[Jj] at hshw;have hlen:(w.take i++w.drop (j+1)).length<=n-1:=by rw[Qj,Q3,Jl];omega
 have most:=Az hS hshw (n-1) hlen
 have hgw:KO w=KO (w.take i)+KO ((w.take (j+1)).drop i)+KO (w.drop (j+1)):=by
  rw[←VX,←e1,←VX,Uj]
 rw[VX] at most
 have lt:(ent (Zj n S (n-1)) p).1<(ent (Zj n S n) p).1:=by
  obtain ⟨k,_⟩:=SI hS (n-1);rw[Nat.sub_add_cancel h0] at k;rcases k.how p with e|⟨_,_,_,_,lt⟩
  ·have:=(Nz hS (n-1)).1 p
   rw[←e,hW,hw] at this;omega
  ·exact lt
 omega
theorem jX{q p:Nat}{w:List Stp}(h:Path S q w p){i j:Nat}(r:NX w i j):(((w.take (j+1)).drop i).map Stp.a).Nodup:=by
 rw[List.nodup_iff_pairwise_ne,List.pairwise_iff_getElem];intro k l hk hl hkl;have hij:=r.ij;have hjl:=r.jl;simp only[Qb,Jl,Q3] at hk hl;simp only[J6,List.getElem_drop,List.getElem_take];obtain ⟨m,rfl⟩:∃m,l=m+1:=⟨l-1,by omega⟩
 have e1:w[i+m]?=some w[i+m]:=Qe (by omega)
 have e2:w[i+m+1]?=some w[i+(m+1)]:=Qe (by omega)
 have e3:w[i+k]?=some w[i+k]:=Qe (by omega)
 rw[h.next e1 e2];exact r.first (i+m) (by omega) (i+k) (by omega) _ _ e3 e1
end
def KF(f:Int×Int->Int)(i:Nat):Option Int->Int
 |none=>0
 |some t=>f ((i:Int),t)
def plF(n:Nat):Option Int->Nat
 |none=>n
 |some t=>t.toNat
def Xf(n b:Nat):Option Int:=if b=n then none else some (b:Int)
def KN(f:Int×Int->Int)(k:Nat):LO->Int
 |[]=>0
 |o::r=>KF f k o+KN f (k+1) r
theorem Ga(f:Int×Int->Int){o':Option Int}:∀{d:LO}{k i:Nat}{o:Option Int},d[i]?=some o->KN f k (d.set i o')=KN f k d+KF f (k+i) o'-KF f (k+i) o
 |[],_,_,_,h=>by cases h
 |x::d,k,0,o,h=>by
  cases h;show KF f k o'+KN f (k+1) d=KF f k x+KN f (k+1) d+KF f k o'-KF f k x
  omega
 |x::d,k,i+1,o,h=>by
  rw[List.set_cons_succ];unfold KN;rw[Ga f (d:=d) (k:=k+1) (i:=i) (o:=o) (by simpa using h),show k+1+i=k+(i+1) by omega]
  omega
theorem GO{o' x:Option Int}:∀{d:LO}{i:Nat}{o:Option Int},d[i]?=some o->(((d.set i o').count x:Nat):Int)=(d.count x:Nat)+(if o'=x then 1 else 0)-(if o=x then 1 else 0)
 |[],_,_,h=>by cases h
 |y::d,0,o,h=>by
  cases h;rw[List.set_cons_zero,Jz,Jz]
  by_cases h1:o'=x <;> by_cases h2:y=x <;> simp[h1,h2] <;> omega
 |y::d,i+1,o,h=>by
  have ih:=GO (o':=o') (x:=x) (d:=d) (i:=i) (o:=o) (by simpa using h)
  rw[List.set_cons_succ,Jz,Jz];omega
structure YC(cs:List Int)(qs:LP)(m:Nat)(ws:LO):Prop where
 len:ws.length=m
 wish:∀(i:Nat) t,ws[i]?=some (some t)->((i:Int),t)∈qs
 cop:∀(k:Nat) c,cs[k]?=some c->((ws.count (some (k:Int)):Nat):Int)<=c
structure Y8(n m:Nat)(qs:LP):Prop where
 nd:qs.Nodup
 lo:∀q∈qs,0<=q.1/\q.1<m/\0<=q.2/\q.2<n
inductive IsSt(cs:List Int)(f:Int×Int->Int)(qs:LP)(ws:LO):Stp->Prop where
 |mv {i:Nat} {o o':Option Int} (h:ws[i]?=some o) (hne:o'≠o) (hq:∀t,o'=some t->((i:Int),t)∈qs):IsSt cs f qs ws ⟨plF cs.length o,plF cs.length o',KF f i o'-KF f i o,some i⟩
 |left {t:Nat} {c:Int} (h:cs[t]?=some c) (hl:((ws.count (some (t:Int)):Nat):Int)<c):IsSt cs f qs ws ⟨t,cs.length,0,none⟩
 |give {t:Nat} (h:t<cs.length):IsSt cs f qs ws ⟨cs.length,t,0,none⟩
def app(n:Nat)(d:LO)(s:Stp):LO:=match s.w with
 |some i=>d.set i (Xf n s.b)
 |none=>d
def nIn(t:Nat)(R:List Stp):Nat:=(R.filter λs=>s.w.isSome&&s.b==t).length
def Wz(t:Nat)(R:List Stp):Nat:=(R.filter λs=>s.w.isSome&&s.a==t).length
section
variable{cs:List Int}{f:Int×Int->Int}{qs:LP}{m:Nat}{ws:LO}
theorem Ew(hp:Y8 cs.length m qs){i:Nat}{o:Option Int}(h:∀t,o=some t->((i:Int),t)∈qs):Xf cs.length (plF cs.length o)=o:=by
 cases o with
 |none=>unfold Xf plF;rw[Ql rfl]
 |some t=>
  have:=hp.lo _ (h t rfl)
  show (if t.toNat=cs.length then none else some ((t.toNat:Nat):Int))=some t;rw[Qs (by omega)]
  congr 1
  omega
theorem OP(hp:Y8 cs.length m qs){i:Nat}{o:Option Int}{t:Nat}(ht:t<cs.length)(h:∀t,o=some t->((i:Int),t)∈qs):plF cs.length o=t ↔ o=some (t:Int):=by
 cases o with
 |none=>exact ⟨λe=>by have e:cs.length=t:=e;omega,λe=>by cases e⟩
 |some u=>
  have:=hp.lo _ (h u rfl)
  show u.toNat=t ↔ _;constructor
  ·intro e;congr 1;omega
  ·intro e;cases e;omega
theorem Nb(hp:Y8 cs.length m qs)(hd:YC cs qs m ws):∀(R:List Stp)(d:LO),(∀s∈R,IsSt cs f qs ws s)->(R.map Stp.a).Nodup->(∀s∈R,∀i,s.w=some i->d[i]?=ws[i]?)->d.length=ws.length->(∀(i:Nat) t,d[i]?=some (some t)->((i:Int),t)∈qs) ->
  KN f 0 (R.foldl (app cs.length) d)=KN f 0 d+KO R/\(R.foldl (app cs.length) d).length=ws.length/\(∀(i:Nat) t,(R.foldl (app cs.length) d)[i]?=some (some t)->((i:Int),t)∈qs) /\
  ∀t,t<cs.length->(((R.foldl (app cs.length) d).count (some (t:Int)):Nat):Int)=(d.count (some (t:Int)):Nat)+(nIn t R:Nat)-(Wz t R:Nat)
 |[],d,_,_,_,hl,hq=>⟨by show _=_+KO [];rw[Gc];show KN f 0 d=_;omega,hl,hq,λt _=>by show ((d.count _:Nat):Int)=_+((0:Nat):Int)-((0:Nat):Int);omega⟩
 |s::R,d,hR,hn,ha,hl,hq=>by
  rw[QA,List.nodup_cons] at hn;have hgc:KO (s::R)=s.g+KO R:=by show KO ([s]++R)=_;rw[VX,PD]
  rw[Ud,hgc]
  cases hR s Qn with
  |@mv i o o' h hne hq'=>
   have hdi:d[i]?=some o:=(ha _ Qn i rfl).trans h;have ho:∀t,o=some t->((i:Int),t)∈qs:=λt e=>hd.wish i t (by rw[h,e])
   have hil:i<d.length:=(Qg.mp hdi).1
   have eapp:app cs.length d ⟨plF cs.length o,plF cs.length o',KF f i o'-KF f i o,some i⟩=d.set i o':=by
    show d.set i (Xf cs.length (plF cs.length o'))=_;rw[Ew hp hq']
   rw[eapp]
   obtain ⟨k1,k2,k3,k4⟩:=Nb hp hd R (d.set i o') (λs hs=>hR s (Qk _ hs)) hn.2 (λs hs j hj=>by
    have hji:i≠j:=λz=>by
     subst z
     cases hR s (Qk _ hs) with
     |@mv i2 o2 o2' h2 _ _=>
      cases hj;rw[h] at h2
      cases h2;exact hn.1 (Qr.mpr ⟨_,hs,rfl⟩)
     |left _ _=>cases hj
     |give _=>cases hj
    rw[Qu hji];exact ha s (Qk _ hs) j hj) (by rw[QY];exact hl) (λj t e=>by
    by_cases z:i=j
    ·subst z
     rw[QJ hil] at e;cases e;exact hq' t rfl
    ·rw[Qu z] at e;exact hq j t e)
   refine ⟨?_,k2,k3,λt ht=>?_⟩
   ·rw[k1,Ga f hdi,QU]
    show _=KN f 0 d+((KF f i o'-KF f i o)+KO R);omega
   ·rw[k4 t ht,GO hdi]
    have e1:(if o'=some (t:Int) then (1:Int) else 0)=if plF cs.length o'=t then 1 else 0:=by
     by_cases z:o'=some (t:Int)
     ·rw[Ql z,Ql ((OP hp ht hq').mpr z)]
     ·rw[Qs z,Qs (λy=>z ((OP hp ht hq').mp y))]
    have e2:(if o=some (t:Int) then (1:Int) else 0)=if plF cs.length o=t then 1 else 0:=by
     by_cases z:o=some (t:Int)
     ·rw[Ql z,Ql ((OP hp ht ho).mpr z)]
     ·rw[Qs z,Qs (λy=>z ((OP hp ht ho).mp y))]
    have e3:∀(x:Nat),((nIn t (⟨plF cs.length o,plF cs.length o',KF f i o'-KF f i o,some i⟩::R):Nat):Int)=(if plF cs.length o'=t then 1 else 0)+(nIn t R:Nat):=λx=>by
     unfold nIn;rw[List.filter_cons]
     by_cases z:plF cs.length o'=t
     ·rw[if_pos z,if_pos (by simp[z]),List.length_cons];omega
     ·rw[if_neg z,if_neg (by simp[z])];omega
    have e4:∀(x:Nat),((Wz t (⟨plF cs.length o,plF cs.length o',KF f i o'-KF f i o,some i⟩::R):Nat):Int)=(if plF cs.length o=t then 1 else 0)+(Wz t R:Nat):=λx=>by
     unfold Wz;rw[List.filter_cons]
     by_cases z:plF cs.length o=t
     ·rw[if_pos z,if_pos (by simp[z]),List.length_cons];omega
     ·rw[if_neg z,if_neg (by simp[z])];omega
    rw[e1,e2,e3 0,e4 0];omega
  |left _ _=>
   obtain ⟨k1,k2,k3,k4⟩:=Nb hp hd R d (λs hs=>hR s (Qk _ hs)) hn.2 (λs hs=>ha s (Qk _ hs)) hl hq;refine ⟨?_,k2,k3,k4⟩;show KN f 0 (R.foldl _ d)=KN f 0 d+(0+KO R);rw[k1];omega
  |give _=>
   obtain ⟨k1,k2,k3,k4⟩:=Nb hp hd R d (λs hs=>hR s (Qk _ hs)) hn.2 (λs hs=>ha s (Qk _ hs)) hl hq;refine ⟨?_,k2,k3,k4⟩;show KN f 0 (R.foldl _ d)=KN f 0 d+(0+KO R);rw[k1];omega
theorem Lx(t:Nat):∀R:List Stp,nIn t R<=(R.map Stp.b).count t
 |[]=>Qy _
 |s::R=>by
  have ih:=Lx t R;unfold nIn at ih ⊢;rw[List.filter_cons,QA,Jz];split
  ·rename_i h
   rw[Jm] at h;rw[QF,Ql h.2];omega
  ·omega
theorem B6(hp:Y8 cs.length m qs)(hd:YC cs qs m ws){R:List Stp}(hR:∀s∈R,IsSt cs f qs ws s)(hn:(R.map Stp.a).Nodup)(hb:(R.map Stp.b).Perm (R.map Stp.a)):YC cs qs m (R.foldl (app cs.length) ws)/\KN f 0 (R.foldl (app cs.length) ws)=KN f 0 ws+KO R:=by
 obtain ⟨k1,k2,k3,k4⟩:=Nb hp hd R ws hR hn (λs hs i e=>rfl) rfl hd.wish;refine ⟨⟨by rw[k2];exact hd.len,k3,λt c hc=>?_⟩,k1⟩
 have ht:t<cs.length:=(Qg.mp hc).1;rw[k4 t ht];have h0:=hd.cop t c hc;have h1:(R.map Stp.a).count t<=1:=List.nodup_iff_count.mp hn t;have h2:=Lx t R;rw[hb.count_eq] at h2
 by_cases z:nIn t R=0
 ·omega
 ·have hin:nIn t R=1:=by omega
  have hmem:t∈R.map Stp.a:=List.count_pos_iff.mp (by omega)
  obtain ⟨s,hs,hst⟩:=Qr.mp hmem
  cases hR s hs with
  |@mv i o o' h hne hq'=>
   have:1<=Wz t R:=by
    unfold Wz;exact List.length_pos_iff.mpr (List.ne_nil_of_mem (List.mem_filter.mpr ⟨hs,by simpa using hst⟩))
   omega
  |@left u c' h hl=>
   have hst:u=t:=hst;subst hst;rw[h] at hc;cases hc;omega
  |@give u h=>
   have hst:cs.length=t:=hst;omega
end
theorem D1{S:List Stp}{q p:Nat}{w:List Stp}(h:Path S q w p):w.map Stp.a++[p]=q::w.map Stp.b:=by
 induction h with
 |nil p=>rfl
 |cons hs h ih=>rw[QA,QA,List.cons_append,ih]
theorem jQ{S:List Stp}{x:Nat}{w:List Stp}(h:Path S x w x):(w.map Stp.b).Perm (w.map Stp.a):=by
 have e:=D1 h;have p1:(w.map Stp.a++[x]).Perm (x::w.map Stp.a):=List.perm_append_comm;rw[e] at p1;exact List.Perm.cons_inv p1
def YB(f:Int×Int->Int)(V:Nat->Int)(qs:LP)(i:Int):Int:=qs.foldl (λa q=>if q.1=i then max a (f q-V q.2.toNat) else a) 0
theorem Ny(f:Int×Int->Int)(V:Nat->Int)(i:Int):∀(qs:LP)(a:Int),a<=qs.foldl (λa q=>if q.1=i then max a (f q-V q.2.toNat) else a) a /\
  (∀q∈qs,q.1=i->f q-V q.2.toNat<=qs.foldl (λa q=>if q.1=i then max a (f q-V q.2.toNat) else a) a) /\
  ∀B,a<=B->(∀q∈qs,q.1=i->f q-V q.2.toNat<=B)->qs.foldl (λa q=>if q.1=i then max a (f q-V q.2.toNat) else a) a<=B
 |[],a=>⟨QZ _,(λq h=>by cases h),λB h _=>h⟩
 |q::qs,a=>by
  rw[Ud];obtain ⟨h1,h2,h3⟩:=Ny f V i qs (if q.1=i then max a (f q-V q.2.toNat) else a);have hb:a<=(if q.1=i then max a (f q-V q.2.toNat) else a):=by split <;> omega
  refine ⟨JX hb h1,λp hp e=>?_,λB ha hB=>h3 B ?_ λp hp=>hB p (Qk _ hp)⟩
  ·rcases Q0.mp hp with rfl|hp
   ·rw[Ql e] at h1 ⊢
    omega
   ·exact h2 p hp e
  ·have:=hB q Qn
   split
   ·rename_i e
    have:=this e
    omega
   ·exact ha
theorem GN{f:Int×Int->Int}{ps:List Int}:∀(ws:LO)(k:Nat)(A:Nat->Int),(∀(j:Nat) o,ws[j]?=some o->A (k+j)=KF f (k+j) o-(match o with|some t=>ps.getD t.toNat 0|none=>0))->((List.range' k ws.length).map A).sum=KN f k ws-pz ps ws
 |[],k,A,_=>by show (0:Int)=0-0;omega
 |o::ws,k,A,h=>by
  rw[QF,List.range'_succ,QA,Jd,GN ws (k+1) A λj o' e=>by
   have:=h (j+1) o' (by simpa using e)
   rw[show k+1+j=k+(j+1) by omega]
   exact this]
  have h0:=h 0 o rfl;rw[Uq] at h0;rw[h0]
  cases o with
  |none=>show KF f k none-0+(KN f (k+1) ws-pz ps ws)=KF f k none+KN f (k+1) ws-(0+pz ps ws);omega
  |some t=>show KF f k (some t)-ps.getD t.toNat 0+(KN f (k+1) ws-pz ps ws)=KF f k (some t)+KN f (k+1) ws-(ps.getD t.toNat 0+pz ps ws);omega
section
variable{cs:List Int}{f:Int×Int->Int}{qs:LP}{m:Nat}{ws:LO}{S:List Stp}
theorem IsSt.lt(hp:Y8 cs.length m qs)(hd:YC cs qs m ws){s:Stp}(h:IsSt cs f qs ws s):s.a<cs.length+1/\s.b<cs.length+1:=by
 have key:∀{i:Nat}{o:Option Int},(∀t,o=some t->((i:Int),t)∈qs)->plF cs.length o<cs.length+1:=λ{i o} h=>by
  cases o with
  |none=>exact Um _
  |some t=>have:=hp.lo _ (h t rfl);show t.toNat<_;omega
 cases h with
 |mv h hne hq=>exact ⟨key λt e=>hd.wish _ t (by rw[h,e]),key hq⟩
 |left h hl=>have:=(Qg.mp h).1;exact ⟨Uk this,Um _⟩
 |give h=>exact ⟨Um _,Uk h⟩
theorem B5{V:Nat->Int}(still:∀s∈S,V s.a+s.g<=V s.b){q p:Nat}{w:List Stp}(h:Path S q w p):V q+KO w<=V p:=by
 induction h with
 |nil p=>rw[Gc];omega
 |@cons s w p hs h ih=>
  have:=still s hs
  have e:KO (s::w)=s.g+KO w:=by show KO ([s]++w)=_;rw[VX,PD]
  omega
theorem B4(hp:Y8 cs.length m qs)(hd:YC cs qs m ws)(hin:∀s∈S,IsSt cs f qs ws s)(hall:∀s,IsSt cs f qs ws s->s∈S){V:Nat->Int}(hV:∀p,V p=(ent (Zj (cs.length+1) S (cs.length+1)) p).1)
  (still:∀p,p<cs.length+1->(ent (Zj (cs.length+1) S (cs.length+1)) p).2.length≠cs.length+1) :
  OkP cs.length m (λa b=>f (a,b)) qs 1 ((UI m).map λi:Nat=>YB f V qs (i:Int)) ((UI cs.length).map V)/\OR cs ((UI m).map λi:Nat=>YB f V qs (i:Int)) ((UI cs.length).map V)=KN f 0 ws:=by
 have hS:∀s∈S,s.a<cs.length+1/\s.b<cs.length+1:=λs hs=>(hin s hs).lt hp hd;have st:∀s∈S,V s.a+s.g<=V s.b:=λs hs=>by rw[hV,hV];exact jS hS (Nat.succ_pos _) still s hs
 have v0:∀p,0<=V p:=λp=>by
  have:=GP hS (J8 (cs.length+1)) p
  rw[Oo hS] at this;rw[hV];exact this
 have vn:V cs.length=0:=by
  obtain ⟨hw,hg⟩:=Ou hS (cs.length+1) cs.length;obtain ⟨q,hq⟩:=hw.path;have h1:=B5 st hq;rw[hg,←hV] at h1;have h2:=v0 q
  by_cases z:q=cs.length
  ·rw[z] at h1 h2;omega
  ·have hql:q<cs.length:=by
    cases hw2:(ent (Zj (cs.length+1) S (cs.length+1)) cs.length).2 with
    |nil=>rw[hw2] at hq;cases hq;exact absurd rfl z
    |cons s w=>
     rw[hw2] at hq
     have:=(hS s hq.step.1).1
     rw[←hq.head] at this;omega
   have h3:=st _ (hall _ (.give hql));have h3:V cs.length+0<=V q:=h3
   have:=v0 cs.length
   omega
 have psD:∀k,k<cs.length->((UI cs.length).map V).getD k 0=V k:=λk hk=>by
  rw[Qh,Qd,Q5 hk]
  rfl
 have ask:∀(i:Nat) o,ws[i]?=some o->YB f V qs (i:Int)=KF f i o-(match o with|some t=>((UI cs.length).map V).getD t.toNat 0|none=>0):=λi o h=>by
  obtain ⟨a1,a2,a3⟩:=Ny f V (i:Int) qs 0
  cases o with
  |none=>
   have:YB f V qs (i:Int)<=0:=a3 0 (QZ _) λq hq e=>by
    have h1:=st _ (hall _ (.mv (f:=f) h (o':=some q.2) (by intro z;cases z) λt et=>by cases et;rw[←e];exact hq))
    have h1:V cs.length+(f ((i:Int),q.2)-0)<=V q.2.toNat:=h1;rw[←e] at h1
    have:f (q.1,q.2)=f q:=rfl
    omega
   show YB f V qs (i:Int)=0-0
   have:0<=YB f V qs (i:Int):=a1
   omega
  |some t=>
   have hq:=hd.wish i t h;have hb:=hp.lo _ hq;have hup:=st _ (hall _ (.mv (f:=f) h (o':=none) (by intro z;cases z) λt et=>by cases et))
   have hup:V t.toNat+(0-f ((i:Int),t))<=V cs.length:=hup;show YB f V qs (i:Int)=f ((i:Int),t)-((UI cs.length).map V).getD t.toNat 0;rw[psD t.toNat (by omega)]
   have lo:f ((i:Int),t)-V t.toNat<=YB f V qs (i:Int):=a2 _ hq rfl
   have hi:YB f V qs (i:Int)<=f ((i:Int),t)-V t.toNat:=a3 _ (by omega) λq hq e=>by
    by_cases z:q.2=t
    ·have:q=((i:Int),t):=by rw[←e,←z]
     rw[this];exact QZ _
    ·have h1:=st _ (hall _ (.mv (f:=f) h (o':=some q.2) (by intro y;cases y;exact z rfl) λt et=>by cases et;rw[←e];exact hq))
     have h1:V t.toNat+(f ((i:Int),q.2)-f ((i:Int),t))<=V q.2.toNat:=h1
     have:f (((i:Int)),q.2)=f q:=by rw[←e]
     omega
   omega
 refine ⟨⟨by decide,by rw[Qb,Qq],by rw[Qb,Qq],λa ha=>?_,λp hp'=>?_,λq hq=>?_⟩,?_⟩
 ·obtain ⟨i,_,rfl⟩:=Qr.mp ha
  exact (Ny f V (i:Int) qs 0).1
 ·obtain ⟨i,_,rfl⟩:=Qr.mp hp'
  exact v0 i
 ·have hb:=hp.lo q hq
  rw[psD q.2.toNat (by omega),Qh,Qd,Q5 (by omega)]
  have h2:=(Ny f V q.1 qs 0).2.1 q hq rfl;show 1*f q<=YB f V qs ((q.1.toNat:Nat):Int)+V q.2.toNat;have e:((q.1.toNat:Nat):Int)=q.1:=by omega
  rw[e];have h2:f q-V q.2.toNat<=YB f V qs q.1:=h2;omega
 ·unfold OR
  rw[List.range_eq_range' (n:=m),←hd.len,GN (f:=f) (ps:=(UI cs.length).map V) ws 0 (λi:Nat=>YB f V qs (i:Int)) λj o e=>by rw[QU];exact ask j o e]
  have hth:∀t,some t∈ws->0<=t/\t<cs.length:=λt ht=>by
   obtain ⟨i,hi⟩:=List.mem_iff_getElem?.mp ht
   have:=hp.lo _ (hd.wish i t hi)
   exact ⟨this.2.2.1,this.2.2.2⟩
  rw[MZ ws hth,F4 _ _ (by rw[Qb,Qq])]
  have e:ZJ cs.length (λk=>cs.getD k 0*((UI cs.length).map V).getD k 0)=ZJ cs.length λk=>((ws.count (some (k:Int)):Nat):Int)*((UI cs.length).map V).getD k 0:=M9 λk hk=>by
   rw[psD k hk];have hc:cs[k]?=some (cs.getD k 0):=by rw[Qh,Qe hk];rfl
   have hle:=hd.cop k _ hc
   by_cases z:((ws.count (some (k:Int)):Nat):Int)=cs.getD k 0
   ·rw[z]
   ·have h1:=st _ (hall _ (.left (f:=f) (qs:=qs) hc (by omega)))
    have h1:V k+0<=V cs.length:=h1
    have:=v0 k
    have hz:V k=0:=by omega
    rw[hz,Int.mul_zero,Int.mul_zero]
  rw[e];omega
end
def X4:Option Nat->D
 |some i=>.int i
 |none=>.none
def Kt(s:Stp):D:=.tuple [.int s.a,.int s.b,.int s.g,X4 s.w]
def YK(x:Int×List Stp):D:=.tuple [.int x.1,.list (x.2.map Kt)]
def Ke(V:Int->Int->Int)(q:Int×Int):Int:=V q.1 q.2
def ZY(n:Nat)(f:Int×Int->Int)(ws:LO):List Stp:=(UI ws.length).filterMap λi=>match ws.getD i none with
 |none=>none
 |some t=>some ⟨t.toNat,n, -(KF f i (some t)),some i⟩
def ZK(n:Nat)(f:Int×Int->Int)(qs:LP)(ws:LO):List Stp:=qs.filterMap λq=>if ws.getD q.1.toNat none≠some q.2 then some ⟨plF n (ws.getD q.1.toNat none),q.2.toNat,f q-KF f q.1.toNat (ws.getD q.1.toNat none),some q.1.toNat⟩ else none
def YS(cs:List Int)(ws:LO):List Stp:=(UI cs.length).filterMap λt=>if 0<cs.getD t 0-((ws.count (some (t:Int)):Nat):Int) then some ⟨t,cs.length,0,none⟩ else none
def YR(n:Nat):List Stp:=(UI n).map λt=>⟨n,t,0,none⟩
def Xr(cs:List Int)(f:Int×Int->Int)(qs:LP)(ws:LO):List Stp:=ZY cs.length f ws++ZK cs.length f qs ws++(YS cs ws++YR cs.length)
theorem Ay{m j:Nat}{h h':Nat->Int}(hj:j<m)(e:∀i,i≠j->h' i=h i):(((UI m).map h).map int).set j (.int (h' j))=((UI m).map h').map int:=by
 apply Ju;intro i
 by_cases z:j=i
 ·subst z
  rw[QJ (by rw[Qb,Qb,Qq];exact hj),Qd,Qd,Q5 hj]
  rfl
 ·rw[Qu z,Qd,Qd,Qd,Qd]
  by_cases hi:i<m
  ·rw[Q5 hi]
   show some (int (h i))=some (int (h' i));rw[e i λy=>z y.symm]
  ·rw[QD (by rw[Qq];omega)]
   rfl
theorem HZ{m:Nat}{h:Nat->Int}{j:Nat}(hj:j<m):oIx (.list (((UI m).map h).map int)) (.int (j:Int))=some (.int (h j)):=ZD (by rw[Qd,Qd,Q5 hj];rfl)
section
variable{cs:List Int}{ls:L3}{ws:LO}{V:Int->Int->Int}{qs:LP}
theorem jW{n:Nat}{o:Option Int}(h:∀t,o=some t->0<=t):Vq [.int n,Kf o]=some (.int (plF n o)):=by
 refine Zp (Z:=[pb (.int n),pb (Kf o)]) rfl ?_;unfold Rs
 cases o with
 |none=>exact KI (NT (KP (k:=isNon) (x:=PyData.none) (UU rfl)) (UU rfl)) rfl
 |some t=>
  refine KI (OW (KP (k:=isNon) (x:=int t) (UU rfl)) (UU rfl)) ?_
  have:=h t rfl
  show Out.rt (.int t)=Out.rt (.int ((t.toNat:Nat):Int));rw[show ((t.toNat:Nat):Int)=t by omega]
def YW(V:Int->Int->Int)(ws:LO)(qs:LP)(i:Nat):Int:=match ws.getD i none with
 |none=>0
 |some t=>if ((i:Int),t)∈qs then V i t else 0
theorem NW{k:Int}(h0:0<=k)(h1:k<ws.length):oIx (Kl ws) (.int k)=some (Kf (ws.getD k.toNat none)):=by
 obtain ⟨j,rfl⟩:∃j:Nat,k=j:=⟨k.toNat,by omega⟩
 refine ZD ?_;rw[Qd,Qv,Qh,Qe (by omega)]
 rfl
theorem HY{i:Nat}{o:Option Int}(h:ws[i]?=some o):ws.getD i none=o:=by rw[Qh,h];rfl
theorem Ax(hp:Y8 cs.length ws.length qs)(hd:YC cs qs ws.length ws)(hm:ws.length<=1000)(hq1:qs.length<=1000):Tr [.int (cs.length:Nat),.list (qs.map (ZP V)),Kl ws]=some (.list ((ZY cs.length (Ke V) ws++ZK cs.length (Ke V) qs ws).map Kt)):=by
 refine Zp (Z:=[pb (.int (cs.length:Nat)),pb (.list (qs.map (ZP V))),pb (Kl ws),none,none,none,none,none]) rfl ?_;unfold Rr;have hlen:Ku [Kl ws]=some (.int ws.length):=by show Ku [.list (ws.map Kf)]=_;rw[ZR,Qb]
 have pos:∀i t,ws.getD i none=some t->i<ws.length/\((i:Int),t)∈qs:=λi t e=>by
  by_cases hi:i<ws.length
  ·rw[Qh,Qe hi] at e
   exact ⟨hi,hd.wish i t (by rw[Qe hi];exact congrArg some e)⟩
  ·rw[Qh,QD (by omega)] at e;cases e
 refine Kx (Yt (Mr (n:=ws.length) (Z7 (UZ U6 U7) (Qa rfl)) (Ye rfl hlen) hm) (Qa rfl) rfl) ?_;apply KU;apply Yj (λk Z=>∃x4 x5 x6,Z=[pb (.int (cs.length:Nat)),pb (.list (qs.map (ZP V))),pb (Kl ws),some (.own (((UI ws.length).map (YW V ws (qs.take k))).map int)),x4,x5,x6,none])
 case h1=>exact Yl (UU rfl) YZ
 case h0=>
  refine ⟨none,none,none,?_⟩
  have e:((UI ws.length).map (YW V ws (qs.take 0))).map int=UJ ws.length (.int 0):=by
   rw[List.eq_replicate_iff];refine ⟨by rw[Qb,Qb,Qq],λb hb=>?_⟩
   obtain ⟨x,hx,rfl⟩:=Qr.mp hb;obtain ⟨i,_,rfl⟩:=Qr.mp hx;unfold YW;split
   ·rfl
   ·rw[if_neg (by rw[List.take_zero];simp)]
  rw[e]
  rfl
 case hst=>
  rintro k d Z hk ⟨x4,x5,x6,rfl⟩;rw[Qd] at hk
  cases hq:qs[k]? with
  |none=>rw[hq] at hk;cases hk
  |some q=>
  rw[hq] at hk;cases hk;have hb:=hp.lo q (Qp hq);refine ⟨_,KK rfl (Kc (U4 (Qa rfl) rfl) (Kc (U4 (Qa rfl) rfl) (Kc (U4 (Qa rfl) rfl) KL))),?_⟩;unfold Hw;have hta:qs.take (k+1)=qs.take k++[q]:=by rw[JK,hq];rfl
  apply KM
  case h1=>exact Kk (K7 rfl (UU rfl) (NW hb.1 hb.2.1)) (UU rfl) (OS (b:=some q.2))
  case h2=>
   intro hh;have hh:ws.getD q.1.toNat none=some q.2:=Qa hh;refine ZW (Sc (UU rfl) rfl (UU rfl) rfl ⟨hb.1,by rw[Qb,Qb,Qq];exact hb.2.1⟩ rfl) (ZB ⟨some (.pub (.int q.1)),pb (.int q.2),pb (.int (V q.1 q.2)),?_⟩)
   have e:=Ay (m:=ws.length) (j:=q.1.toNat) (h:=YW V ws (qs.take k)) (h':=YW V ws (qs.take (k+1))) (by omega) λi hne=>by
    unfold YW
    cases ws.getD i none with
    |none=>rfl
    |some t=>
     dsimp only;rw[hta]
     by_cases z:((i:Int),t)∈qs.take k
     ·rw[Ql z,Ql (Jf _ z)]
     ·rw[Qs z,Qs]
      intro y;rcases QW.mp y with y|y
      ·exact z y
      ·have:=Ja.mp y
       rw[←this] at hne;exact hne (by show i=((i:Int)).toNat;rw[Qv])
   have ev:YW V ws (qs.take (k+1)) q.1.toNat=V q.1 q.2:=by
    unfold YW;rw[hh];have ei:((q.1.toNat:Nat):Int)=q.1:=by omega
    dsimp only;rw[ei,if_pos (by rw[hta];exact List.mem_append_right _ (by simp))]
   rw[ev] at e;rw[←e]
   rfl
  case h3=>
   intro hh;have hh:¬ws.getD q.1.toNat none=some q.2:=Jb hh;refine K4 (ZB ⟨some (.pub (.int q.1)),pb (.int q.2),pb (.int (V q.1 q.2)),?_⟩)
   have e:(UI ws.length).map (YW V ws (qs.take (k+1)))=(UI ws.length).map (YW V ws (qs.take k)):=JF λi _=>by
    unfold YW
    cases hw:ws.getD i none with
    |none=>rfl
    |some t=>
     dsimp only;rw[hta]
     by_cases z:((i:Int),t)∈qs.take k
     ·rw[Ql z,Ql (Jf _ z)]
     ·rw[Qs z,Qs]
      intro y;rcases QW.mp y with y|y
      ·exact z y
      ·have y:=Ja.mp y
       rw[←y] at hh;exact hh (by show ws.getD ((i:Int)).toNat none=some t;rw[Qv];exact hw)
   rw[e]
   rfl
 case hend=>
  rintro Z ⟨x4,x5,x6,rfl⟩;refine KQ ?_;have hth:qs.take (qs.map (ZP V)).length=qs:=by rw[Qb,JO]
  rw[hth]
  have hadE:∀i,YW V ws qs i=KF (Ke V) i (ws.getD i none):=λi=>by
   unfold YW
   cases hw:ws.getD i none with
   |none=>rfl
   |some t=>exact Ql (pos i t hw).2
  have hc:∀y4 y5 y6 y7:Option Sl,Zs (gT 2 (gNC (gN 8) (gNC (gN 9) (gN0)))) (Ka (λd=>!isNon d) (UN 9)) (Ze (UY (UN 9) (UY (UN 0) (UY (Z6 (Ki 3 (UN 8))) (UY (UN 8) (UT)))))) (YY 0 (ws.map Kf)) ([pb (.int (cs.length:Nat)),pb (.list (qs.map (ZP V))),pb (Kl ws),pb (.list (((UI ws.length).map (YW V ws qs)).map int)),y4,y5,y6,y7]++UJ 2 none) []=some ((ZY cs.length (Ke V) ws).map Kt):=by
   intro y4 y5 y6 y7
   have em:(ZY cs.length (Ke V) ws).map Kt=((UI ws.length).map λi=>(match ws.getD i none with|none=>none|some t=>some (Kt ⟨t.toNat,cs.length, -(KF (Ke V) i (some t)),some i⟩):Option D)).filterMap id:=by
    unfold ZY;rw[List.map_filterMap,List.filterMap_map]
    congr 1
    funext i
    dsimp only[Function.comp,id]
    cases ws.getD i none <;> rfl
   rw[em];refine PK (λZ=>∃z4 z5 z6 z7 x y,Z=[pb (.int (cs.length:Nat)),pb (.list (qs.map (ZP V))),pb (Kl ws),pb (.list (((UI ws.length).map (YW V ws qs)).map int)),z4,z5,z6,z7,x,y]) _ _ _ _ (by rw[Qb,Qq,YQ,Qb]) ?_ ⟨y4,y5,y6,y7,none,none,rfl⟩ (by rw[YQ,Qb,QC];omega)
   rintro i d e hdd he Z ⟨z4,z5,z6,z7,x,y,rfl⟩;obtain ⟨z,hz,rfl⟩:=Xo hdd;rw[Qd] at hz
   cases hw:ws[i]? with
   |none=>rw[hw] at hz;cases hz
   |some o=>
   rw[hw] at hz;cases hz;have hil:i<ws.length:=(Qg.mp hw).1;have hg:=HY hw;rw[Qd,Q5 hil] at he;have he:some (match ws.getD i none with|none=>none|some t=>some (Kt ⟨t.toNat,cs.length, -(KF (Ke V) i (some t)),some i⟩):Option D)=some e:=he
   rw[hg] at he;cases he;rw[QU];refine ⟨_,KK rfl (Kc (U4 (Qa rfl) rfl) (Kc (U4 (Qa rfl) rfl) KL)),?_,?_,_,_,_,_,_,_,rfl⟩
   ·cases o with
    |none=>exact KP (k:=λd=>!isNon d) (x:=PyData.none) (UU rfl)
    |some t=>exact KP (k:=λd=>!isNon d) (x:=int t) (UU rfl)
   ·intro v hv
    cases o with
    |none=>cases hv
    |some t=>
     cases hv;have hb:=hp.lo _ (pos i t hg).2
     have et:((t.toNat:Nat):Int)=t:=by have:=hb.2.2.1;omega
     show _=Res.ok (PyData.tuple [.int ((t.toNat:Nat):Int),.int ((cs.length:Nat):Int),.int (-(KF (Ke V) i (some t))),.int (i:Nat)]) _;rw[et,show KF (Ke V) i (some t)=YW V ws qs i by rw[hadE,hg]]
     exact Xs (UZ (UU rfl) (UZ (UU rfl) (UZ (Vz (K7 rfl (UU rfl) (HZ hil))) (UZ (UU rfl) U7)))) (Qa rfl)
  have nlS:∀S:List Stp,(S.map Kt).all nl0=true:=λS=>Jn.mpr λd hd=>by
   obtain ⟨s,_,rfl⟩:=Qr.mp hd;obtain ⟨a,b,g,w⟩:=s
   cases w <;> rfl
  have hcl:∀x4 x5 x6:Option Sl,Vx (ZS (Xc (UY (UN 2) (UT))) 2 (gT 2 (gNC (gN 8) (gNC (gN 9) (gN0)))) (Ka (λd=>!isNon d) (UN 9)) (Ze (UY (UN 9) (UY (UN 0) (UY (Z6 (Ki 3 (UN 8))) (UY (UN 8) (UT))))))) [pb (.int (cs.length:Nat)),pb (.list (qs.map (ZP V))),pb (Kl ws),some (.own (((UI ws.length).map (YW V ws qs)).map int)),x4,x5,x6,none]=.ok ((ZY cs.length (Ke V) ws).map Kt) [pb (.int (cs.length:Nat)),pb (.list (qs.map (ZP V))),pb (Kl ws),some (.own (((UI ws.length).map (YW V ws qs)).map int)),x4,x5,x6,none]:=λx4 x5 x6=>
   BI (Z':=Yr [pb (.int (cs.length:Nat)),pb (.list (qs.map (ZP V))),pb (Kl ws),some (.own (((UI ws.length).map (YW V ws qs)).map int)),x4,x5,x6,none]) (Ys (XQ (UZ (UU rfl) U7) XN) (hc _ _ _ _)) (nlS _)
  refine Kx (Yt (hcl _ _ _) (Qa rfl) rfl) ?_;apply KU;apply Yj (λk Z=>∃x4 x5 x6,Z=[pb (.int (cs.length:Nat)),pb (.list (qs.map (ZP V))),pb (Kl ws),some (.own (((UI ws.length).map (YW V ws qs)).map int)),x4,x5,x6,some (.own ((ZY cs.length (Ke V) ws++ZK cs.length (Ke V) (qs.take k) ws).map Kt))])
  case h1=>exact Yl (UU rfl) YZ
  case h0=>exact ⟨_,_,_,by rw[J4];show _=[_,_,_,_,_,_,_,some (Sl.own ((ZY cs.length (Ke V) ws++[]).map Kt))];rw[Q9];rfl⟩
  case hst=>
   rintro k d Z hk ⟨x4,x5,x6,rfl⟩;rw[Qd] at hk
   cases hq:qs[k]? with
   |none=>rw[hq] at hk;cases hk
   |some q=>
   rw[hq] at hk;cases hk;have hb:=hp.lo q (Qp hq);have hta:qs.take (k+1)=qs.take k++[q]:=by rw[JK,hq];rfl
   have hkl:k<qs.length:=(Qg.mp hq).1
   have hsz:((ZY cs.length (Ke V) ws++ZK cs.length (Ke V) (qs.take k) ws).map Kt).length<1000000:=by
    rw[Qb,Qj];have h1:(ZY cs.length (Ke V) ws).length<=ws.length:=by unfold ZY;have:=Jo (λi=>match ws.getD i none with|none=>none|some t=>some (⟨t.toNat,cs.length, -(KF (Ke V) i (some t)),some i⟩:Stp)) (UI ws.length);rw[Qq] at this;exact this
    have h2:(ZK cs.length (Ke V) (qs.take k) ws).length<=qs.length:=by unfold ZK;refine QT (Jo _ _) ?_;rw[Q3];omega
    omega
   refine ⟨_,KK rfl (Kc (U4 (Qa rfl) rfl) (Kc (U4 (Qa rfl) rfl) (Kc (U4 (Qa rfl) rfl) KL))),?_⟩;unfold Hx;have e2:∀r:List Stp,ZK cs.length (Ke V) [q] ws=r->ZK cs.length (Ke V) (qs.take (k+1)) ws=ZK cs.length (Ke V) (qs.take k) ws++r:=λr hr=>by rw[hta];unfold ZK at hr ⊢;rw[List.filterMap_append,hr]
   apply KM
   case h1=>exact Kk (K7 rfl (UU rfl) (NW hb.1 hb.2.1)) (UU rfl) (DB (b:=some q.2))
   case h2=>
    intro hh;have hh:¬ws.getD q.1.toNat none=some q.2:=by simpa using hh
    have hpl:Vq [.int (cs.length:Nat),Kf (ws.getD q.1.toNat none)]=some (.int (plF cs.length (ws.getD q.1.toNat none))):=jW λt e=>by have:=hp.lo _ (pos _ t e).2;exact this.2.2.1
    refine ZW (W4 rfl (Xs (UZ (Ky (UZ (UU rfl) (UZ (K7 rfl (UU rfl) (NW hb.1 hb.2.1)) U7)) rfl hpl) (UZ (UU rfl) (UZ (Kk (UU rfl) (OX rfl (UU rfl) rfl (show oIx _ (.int q.1)=some (.int (YW V ws qs q.1.toNat)) from by have:=HZ (m:=ws.length) (h:=YW V ws qs) (j:=q.1.toNat) (by omega);rw[show ((q.1.toNat:Nat):Int)=q.1 by omega] at this;exact this)) Xp) (UZ (UU rfl) U7)))) (Qa rfl)) rfl hsz rfl) (ZB ⟨some (.pub (.int q.1)),pb (.int q.2),pb (.int (V q.1 q.2)),?_⟩)
    have er:ZK cs.length (Ke V) [q] ws=[⟨plF cs.length (ws.getD q.1.toNat none),q.2.toNat,Ke V q-KF (Ke V) q.1.toNat (ws.getD q.1.toNat none),some q.1.toNat⟩]:=by
     unfold ZK;rw[JD,Ql hh]
     rfl
    rw[e2 _ er,←Jg,Qz (l₂:=[_])];show _=[_,_,_,_,_,_,_,some (Sl.own (_++[PyData.tuple [_,.int ((q.2.toNat:Nat):Int),.int (Ke V q-KF (Ke V) q.1.toNat (ws.getD q.1.toNat none)),.int ((q.1.toNat:Nat):Int)]]))];rw[show ((q.2.toNat:Nat):Int)=q.2 by omega,show ((q.1.toNat:Nat):Int)=q.1 by omega,←hadE]
    rfl
   case h3=>
    intro hh;have hh:ws.getD q.1.toNat none=some q.2:=by simpa using hh
    refine K4 (ZB ⟨some (.pub (.int q.1)),pb (.int q.2),pb (.int (V q.1 q.2)),?_⟩)
    have er:ZK cs.length (Ke V) [q] ws=[]:=by
     unfold ZK;rw[List.filterMap_cons,if_neg (by rw[hh];simp)]
     rfl
    rw[e2 _ er,Q9]
    rfl
  case hend=>
   rintro Z ⟨x4,x5,x6,rfl⟩;rw[hth];exact KQ (KI (Yh rfl rfl) rfl)
end
section
variable{cs:List Int}{ls:L3}{ws:LO}{V:Int->Int->Int}{qs:LP}
theorem Aw(g:Good cs ls)(hm:ws.length=ls.length):Tq [Ko cs ls,Kl ws]=some (.list ((YS cs ws++YR cs.length).map Kt)):=by
 refine Zp (Z:=[pb (Ko cs ls),pb (Kl ws),none,none,none]) rfl ?_;unfold Rq;have c6:=g.c6;have hlc:Ku [.list (cs.map int)]=some (.int cs.length):=by rw[ZR,Qb]
 refine Kx (K0 (Yg (UZ (K7 rfl U6 TX) U7) hlc) (Qa rfl) rfl) ?_;refine Kx (K0 (Ky (UZ (UU rfl) (UZ (UU rfl) U7)) rfl (kN g)) (Qa rfl) rfl) ?_;have hll:(Wd cs ws).length=cs.length:=by unfold Wd;rw[Qb,Qq]
 have hc:Zs (gT 2 (gNC (gN 5) (gNC (gN 6) (gN0)))) (Zz (oIB λi j=>decide (j<i)) 6 (U1 (.int 0))) (Ze (UY (UN 5) (UY (UN 2) (UY (U1 (.int 0)) (UY (U1 .none) (UT)))))) (YY 0 ((Wd cs ws).map int)) (KJ [pb (Ko cs ls),pb (Kl ws),pb (.int cs.length),pb (.list ((Wd cs ws).map int)),none]++UJ 2 none) []=some ((YS cs ws).map Kt):=by
  have em:(YS cs ws).map Kt=((UI cs.length).map λt=>(if 0<cs.getD t 0-((ws.count (some (t:Int)):Nat):Int) then some (Kt ⟨t,cs.length,0,none⟩) else none:Option D)).filterMap id:=by
   unfold YS;rw[List.map_filterMap,List.filterMap_map]
   congr 1
   funext i
   dsimp only[Function.comp,id]
   split <;> rfl
  rw[em];refine PK (λZ=>∃x y,Z=[pb (Ko cs ls),pb (Kl ws),pb (.int cs.length),pb (.list ((Wd cs ws).map int)),none,x,y]) _ _ _ _ (by rw[Qb,Qq,YQ,Qb,hll]) ?_ ⟨none,none,rfl⟩ (by rw[YQ,Qb,hll,QC];omega)
  rintro i d e hd he Z ⟨x,y,rfl⟩;obtain ⟨z,hz,rfl⟩:=Xo hd;rw[Qd] at hz
  have hil:i<cs.length:=by
   rw[←hll]
   cases hw:(Wd cs ws)[i]? with
   |none=>rw[hw] at hz;cases hz
   |some v=>exact (Qg.mp hw).1
  have hlv:(Wd cs ws)[i]?=some (cs.getD i 0-((ws.count (some (i:Int)):Nat):Int)):=by unfold Wd;rw[Qd,Q5 hil];rfl
  rw[hlv] at hz;cases hz;rw[Qd,Q5 hil] at he;cases he;rw[QU];refine ⟨_,KK rfl (Kc (U4 (Qa rfl) rfl) (Kc (U4 (Qa rfl) rfl) KL)),?_,?_,_,_,rfl⟩
  ·have e:(if 0<cs.getD i 0-((ws.count (some (i:Int)):Nat):Int) then some (Kt ⟨i,cs.length,0,none⟩) else none:Option D).isSome=decide (0<cs.getD i 0-((ws.count (some (i:Int)):Nat):Int)):=by
    by_cases h:0<cs.getD i 0-((ws.count (some (i:Int)):Nat):Int)
    ·rw[Ql h,Q2 h];rfl
    ·rw[Qs h,QG h];rfl
   rw[e];exact ZO rfl U6 rfl
  ·intro v hv
   dsimp only at hv
   split at hv
   ·cases hv
    exact Xs (UZ (UU rfl) (UZ (UU rfl) (UZ U6 (UZ U6 U7)))) (Qa rfl)
   ·cases hv
 refine Kx (Yt (Ys (XQ (UZ (UU rfl) U7) XN) hc) (Qa rfl) rfl) ?_;have hrl:(YM 0 (cs.length:Int)).length=cs.length:=by rw[Vc];omega
 have hc2:∀x4:Option Sl,Zs (gN 5) (U1 true) (Ze (UY (UN 2) (UY (UN 5) (UY (U1 (.int 0)) (UY (U1 .none) (UT)))))) (YM 0 (cs.length:Int)) (KJ [pb (Ko cs ls),pb (Kl ws),pb (.int cs.length),pb (.list ((Wd cs ws).map int)),x4]++UJ 1 none) []=some ((YR cs.length).map Kt):=λx4=>by
  refine XM (λZ=>∃z x,Z=[pb (Ko cs ls),pb (Kl ws),pb (.int cs.length),pb (.list ((Wd cs ws).map int)),z,x]) _ _ _ _ (by unfold YR;rw[Qb,Qb,Qq,hrl]) ?_ ⟨_,none,rfl⟩ (by rw[hrl,QC];omega)
  rintro i d e hd he Z ⟨z,x,rfl⟩;obtain ⟨rfl,hlt⟩:=Sh hd;unfold YR at he;rw[Qd,Qd,Q5 (by omega)] at he
  cases he;rw[Uo];exact ⟨_,U4 (Qa rfl) rfl,rfl,Xs (UZ (UU rfl) (UZ (UU rfl) (UZ U6 (UZ U6 U7)))) (Qa rfl),_,_,rfl⟩
 have h1:(YS cs ws).length<=cs.length:=by unfold YS;have:=Jo (λt=>if 0<cs.getD t 0-((ws.count (some (t:Int)):Nat):Int) then some (⟨t,cs.length,0,none⟩:Stp) else none) (UI cs.length);rw[Qq] at this;exact this
 have h2:(YR cs.length).length=cs.length:=by unfold YR;rw[Qb,Qq]
 refine KI (Kk (Yh rfl rfl) (KP (Ys (T4 (UZ (UU rfl) U7) (So (by omega) (by omega))) (hc2 _))) (XX (by rw[Qb,Qb];omega))) ?_
 rw[Qz]
theorem Eb(g:Good cs ls)(hm:ws.length=ls.length)(hp:Y8 cs.length ws.length qs)(hd:YC cs qs ws.length ws)(hq1:qs.length<=1000):X9 [Ko cs ls,.list (qs.map (ZP V)),Kl ws]=some (.list ((Xr cs (Ke V) qs ws).map Kt)):=by
 refine Zp (Z:=[pb (Ko cs ls),pb (.list (qs.map (ZP V))),pb (Kl ws)]) rfl ?_;unfold Rp;have c6:=g.c6;have l7:=g.l7;have hlc:Ku [.list (cs.map int)]=some (.int (cs.length:Nat)):=by rw[ZR,Qb]
 have h1:(ZY cs.length (Ke V) ws).length<=ws.length:=by unfold ZY;have:=Jo (λi=>match ws.getD i none with|none=>none|some t=>some (⟨t.toNat,cs.length, -(KF (Ke V) i (some t)),some i⟩:Stp)) (UI ws.length);rw[Qq] at this;exact this
 have h2:(ZK cs.length (Ke V) qs ws).length<=qs.length:=by unfold ZK;exact Jo _ _
 have h3:(YS cs ws).length<=cs.length:=by unfold YS;have:=Jo (λt=>if 0<cs.getD t 0-((ws.count (some (t:Int)):Nat):Int) then some (⟨t,cs.length,0,none⟩:Stp) else none) (UI cs.length);rw[Qq] at this;exact this
 have h4:(YR cs.length).length=cs.length:=by unfold YR;rw[Qb,Qq]
 refine KI (Kk (Ky (UZ (Yg (UZ (K7 rfl U6 TX) U7) hlc) (UZ (UU rfl) (UZ (UU rfl) U7))) rfl (Ax hp hd (by omega) hq1)) (Ky (UZ (UU rfl) (UZ (UU rfl) U7)) rfl (Aw g hm)) (XX (by rw[Qb,Qb,Qj,Qj];omega))) ?_
 unfold Xr;rw[Qz (l₁:=ZY cs.length (Ke V) ws++ZK cs.length (Ke V) qs ws)]
theorem Na{m:Nat}{f:Int×Int->Int}(hp:Y8 cs.length m qs)(hd:YC cs qs m ws):∀s∈Xr cs f qs ws,IsSt cs f qs ws s:=λs hs=>by
 have gt:∀{i:Nat}{o:Option Int},i<ws.length->ws.getD i none=o->ws[i]?=some o:=λ{i o} hi e=>by
  rw[Qh,Qe hi] at e;rw[Qe hi];exact congrArg some e
 unfold Xr at hs;rcases QW.mp hs with hs|hs
 ·rcases QW.mp hs with hs|hs
  ·unfold ZY at hs
   obtain ⟨i,hi,e⟩:=Jp.mp hs;have hi:=Q7.mp hi
   cases hw:ws.getD i none with
   |none=>rw[hw] at e;cases e
   |some t=>
    rw[hw] at e;have e:=QX e;subst e
    have:=IsSt.mv (cs:=cs) (f:=f) (qs:=qs) (gt hi hw) (o':=none) (by intro z;cases z) (λt e=>by cases e)
    have e2:KF f i none-KF f i (some t) = -(KF f i (some t)):=by show 0-_=_;omega
    rw[e2] at this;exact this
  ·unfold ZK at hs
   obtain ⟨q,hq,e⟩:=Jp.mp hs;have hb:=hp.lo q hq
   split at e
   ·rename_i hne
    have e:=QX e;subst e;have hi:q.1.toNat<ws.length:=by rw[hd.len];omega
    have ei:((q.1.toNat:Nat):Int)=q.1:=by omega
    have:=IsSt.mv (cs:=cs) (f:=f) (qs:=qs) (gt hi rfl) (o':=some q.2) (λz=>hne z.symm) (λt e=>by cases e;rw[ei];exact hq)
    have e2:KF f q.1.toNat (some q.2)=f q:=by show f (((q.1.toNat:Nat):Int),q.2)=_;rw[ei]
    rw[e2] at this;exact this
   ·cases e
 ·rcases QW.mp hs with hs|hs
  ·unfold YS at hs
   obtain ⟨t,ht,e⟩:=Jp.mp hs;have ht:=Q7.mp ht
   split at e
   ·rename_i hl
    have e:=QX e;subst e;exact .left (c:=cs.getD t 0) (by rw[Qh,Qe ht];rfl) (by omega)
   ·cases e
  ·unfold YR at hs
   obtain ⟨t,ht,rfl⟩:=Qr.mp hs;exact .give (Q7.mp ht)
theorem Av{m:Nat}{f:Int×Int->Int}(hp:Y8 cs.length m qs)(hd:YC cs qs m ws):∀s,IsSt cs f qs ws s->s∈Xr cs f qs ws:=λs hs=>by
 unfold Xr
 cases hs with
 |@mv i o o' h hne hq=>
  have hi:i<ws.length:=(Qg.mp h).1;have hg:=HY h;refine Jf _ ?_
  cases o' with
  |none=>
   refine Jf _ ?_
   cases o with
   |none=>exact absurd rfl hne
   |some t=>
    unfold ZY;refine Jp.mpr ⟨i,Q7.mpr hi,?_⟩;rw[hg];show some (⟨t.toNat,cs.length, -(KF f i (some t)),some i⟩:Stp)=some ⟨t.toNat,cs.length,0-KF f i (some t),some i⟩;rw[show (0:Int)-KF f i (some t) = -(KF f i (some t)) by omega]
  |some t=>
   refine QL _ ?_;have hqt:=hq t rfl;have hb:=hp.lo _ hqt;unfold ZK;refine Jp.mpr ⟨((i:Int),t),hqt,?_⟩;dsimp only;rw[Qv,hg,Ql (λz=>hne z.symm)]
   rfl
 |@left t c h hl=>
  refine QL _ (Jf _ ?_);have ht:t<cs.length:=(Qg.mp h).1;unfold YS;refine Jp.mpr ⟨t,Q7.mpr ht,?_⟩;have e:cs.getD t 0=c:=by rw[Qh,h];rfl
  rw[e,Ql (by omega)]
 |@give t h=>
  refine QL _ (QL _ ?_);unfold YR;exact Qr.mpr ⟨t,Q7.mpr h,rfl⟩
end
theorem L0{W:Tab}{p:Nat}(h:p<W.length):oIx (.list (W.map YK)) (.int (p:Int))=some (YK (ent W p)):=by
 refine ZD ?_;unfold ent;rw[Qd,Qh,Qe h]
 rfl
theorem Au{W:Tab}{S:List Stp}(hS:∀s∈S,s.a<W.length/\s.b<W.length)(hW:∀p,(ent W p).2.length<=1000)(hl:W.length<=1000):Tp [.list (W.map YK),.list (S.map Kt)]=some (.list ((OQ W S).map YK)):=by
 refine Zp (Z:=[pb (.list (W.map YK)),pb (.list (S.map Kt)),none,none,none,none,none,none,none,none]) rfl ?_;unfold Ro;refine Kx (Yt (SB rfl (show Wa [.list (W.map YK)]=some (W.map YK) from rfl)) (Qa rfl) rfl) ?_
 apply KU;apply Yj (λk Z=>∃x3 x4 x5 x6 x7 x8 x9,Z=[pb (.list (W.map YK)),pb (.list (S.map Kt)),some (.own (((S.take k).foldl (Xb W) W).map YK)),x3,x4,x5,x6,x7,x8,x9])
 case h1=>exact Yl (UU rfl) YZ
 case h0=>exact ⟨_,_,_,_,_,_,_,rfl⟩
 case hst=>
  rintro k d Z hk ⟨x3,x4,x5,x6,x7,x8,x9,rfl⟩;rw[Qd] at hk
  cases hq:S[k]? with
  |none=>rw[hq] at hk;cases hk
  |some s=>
  rw[hq] at hk;cases hk;have hs:=hS s (Qp hq);have hta:S.take (k+1)=S.take k++[s]:=by rw[JK,hq];rfl
  have hfl:(S.take (k+1)).foldl (Xb W) W=Xb W ((S.take k).foldl (Xb W) W) s:=by rw[hta,List.foldl_append];rfl
  have hTl:∀(R:List Stp)(T:Tab),(R.foldl (Xb W) T).length=T.length:=λR=>by
   induction R with
   |nil=>intro T;rfl
   |cons x R ih=>intro T;rw[Ud,ih,AA]
  generalize hT:(S.take k).foldl (Xb W) W=T at hfl ⊢;have hTlen:T.length=W.length:=by rw[←hT,hTl]
  refine ⟨_,U4 (Qa rfl) rfl,?_⟩;unfold Hv;refine Kx (Vy (UU rfl) (KK rfl (Kc (U4 (Qa rfl) rfl) (Kc (U4 (Qa rfl) rfl) (Kc (U4 (Qa rfl) rfl) (Kc (U4 (Qa rfl) rfl) KL)))))) ?_;refine Kx (Vy (K7 rfl (UU rfl) (L0 hs.1)) (KK rfl (Kc (U4 (Qa rfl) rfl) (Kc (U4 (Qa rfl) rfl) KL)))) ?_;have i0:oIx (YK (ent T s.b)) (.int 0)=some (.int (ent T s.b).1):=ZD (j:=0) rfl;apply KM
  case h1=>exact Kk (Kk (UU rfl) (UU rfl) ZH) (Kk (OX rfl (UU rfl) rfl (L0 (by rw[hTlen];exact hs.2))) U6 i0) rfl
  case h2=>
   intro hh;have hh:(ent T s.b).1<(ent W s.a).1+s.g:=Qa hh
   have hadd:Kh (.list ((ent W s.a).2.map Kt)) (.list [Kt s])=some (.list (((ent W s.a).2++[s]).map Kt)):=by
    rw[XX (by rw[Qb];have:=hW s.a;show _+1<=_;omega),Qz];rfl
   refine ZW (Sc (Xs (UZ (Kk (UU rfl) (UU rfl) ZH) (UZ (Kk (UU rfl) (Z7 (UZ (UU rfl) U7) (Qa rfl)) hadd) U7)) (Qa rfl)) rfl (UU rfl) rfl ⟨Int.natCast_nonneg _,by rw[Qb,hTlen];have:=hs.2;omega⟩ rfl) (ZB ⟨some (.pub (Kt s)),pb (.int s.a),pb (.int s.b),pb (.int s.g),pb (X4 s.w),pb (.int (ent W s.a).1),pb (.list ((ent W s.a).2.map Kt)),?_⟩)
   rw[hfl];unfold Xb;rw[Ql hh,List.map_set];show [_,_,some (Sl.own ((T.map YK).set ((s.b:Int)).toNat _)),_,_,_,_,_,_,_]=_;rw[Qv]
   rfl
  case h3=>
   intro hh;have hh:¬(ent T s.b).1<(ent W s.a).1+s.g:=Jb hh;refine K4 (ZB ⟨some (.pub (Kt s)),pb (.int s.a),pb (.int s.b),pb (.int s.g),pb (X4 s.w),pb (.int (ent W s.a).1),pb (.list ((ent W s.a).2.map Kt)),?_⟩);rw[hfl];unfold Xb;rw[Qs hh]
   rfl
 case hend=>
  rintro Z ⟨x3,x4,x5,x6,x7,x8,x9,rfl⟩;refine KQ (KI (Yh rfl rfl) ?_);rw[Qb,JO]
  rfl
theorem GM{n:Nat}{S:List Stp}(hS:∀s∈S,s.a<n/\s.b<n)(hn:n<=100):WJ [.int (n:Nat),.list (S.map Kt)]=some (.list ((Zj n S n).map YK)):=by
 refine Zp (Z:=[pb (.int (n:Nat)),pb (.list (S.map Kt)),none,none]) rfl ?_;unfold Rn
 have hmul:KY (.list [.tuple [.int 0,.list []]]) (.int (n:Nat))=some (.list ((Zj n S 0).map YK)):=by
  rw[Hh (by omega)]
  unfold Zj;rw[Uc]
  rfl
 refine Kx (K0 (Kk (Z7 (UZ (Xs (UZ U6 (UZ (Z7 U7 (Qa rfl)) U7)) (Qa rfl)) U7) (Qa rfl)) (UU rfl) hmul) (Qa rfl) rfl) ?_;apply KU;apply Yj (λk Z=>k<=n/\∃x3,Z=[pb (.int (n:Nat)),pb (.list (S.map Kt)),pb (.list ((Zj n S k).map YK)),x3])
 case h1=>exact T4 (UZ (UU rfl) U7) (So (by omega) (by omega))
 case h0=>exact ⟨J8 _,_,rfl⟩
 case hst=>
  rintro k d Z hk ⟨_,x3,rfl⟩;obtain ⟨rfl,hlt⟩:=Sh hk;refine ⟨_,U4 (Qa rfl) rfl,?_⟩;unfold Hu;have hl:=PJ hS k;have hlo:=Au (W:=Zj n S k) (S:=S) (by rw[hl];exact hS) (λp=>QT ((Nz hS k).1 p) (by omega)) (by rw[hl];omega)
  exact ZW (K0 (Ky (UZ (UU rfl) (UZ (UU rfl) U7)) rfl hlo) (Qa rfl) rfl) (ZB ⟨by omega,_,rfl⟩)
 case hend=>
  rintro Z ⟨_,x3,rfl⟩;refine KQ (KI (UU rfl) ?_);rw[Vc,show ((n:Int)-0).toNat=n by omega]
theorem Dw{xs:List D}{i j:Nat}(hij:i<=j)(hj:j<=xs.length):DL.cutD xs (some (i:Int)) (some (j:Int))=(xs.take j).drop i:=by
 unfold DL.cutD HT.sIx;dsimp only;rw[Qs (by omega),Qs (by omega),Qv,Qv,Nat.min_eq_left hj,Nat.min_eq_left (show i<=xs.length by omega),List.drop_take]
theorem xj{w:List Stp}(hl:w.length<=1000):∃d,To [.list (w.map Kt)]=some d/\∃r,d=.list (r.map Kt)/\((L1 w/\r=[]) ∨ ∃i j,NX w i j/\r=(w.take (j+1)).drop i):=by
 refine WW (Z:=[pb (.list (w.map Kt)),none,none,none]) rfl ?_;unfold Rm;apply KU;apply Yj (λk Z=>(∃x1 x2 x3,Z=[pb (.list (w.map Kt)),x1,x2,x3])/\∀j'<k,∀i' ≤ j',∀s t,w[i']?=some s->w[j']?=some t->s.a≠t.b)
 case h1=>exact XQ (UZ (UU rfl) U7) XN
 case h0=>exact ⟨⟨_,_,_,rfl⟩,λj' h=>absurd h (JU _)⟩
 case hst=>
  rintro k d Z hk ⟨⟨x1,x2,x3,rfl⟩,hb⟩;obtain ⟨z,hz,rfl⟩:=Xo hk;rw[Qd] at hz
  cases ht:w[k]? with
  |none=>rw[ht] at hz;cases hz
  |some t=>
  rw[ht] at hz;cases hz;have hkl:k<w.length:=(Qg.mp ht).1;rw[QU];refine ⟨_,KK rfl (Kc (U4 (Qa rfl) rfl) (Kc (U4 (Qa rfl) rfl) KL)),?_⟩;unfold Hs;apply Yj (λl Z=>(∃x3,Z=[pb (.list (w.map Kt)),pb (.int (k:Nat)),pb (Kt t),x3])/\∀i'<l,∀s,w[i']?=some s->s.a≠t.b)
  case h1=>exact T4 (UZ (Kk (UU rfl) U6 ZH) U7) (So (by omega) (by omega))
  case h0=>exact ⟨⟨_,rfl⟩,λi' h=>absurd h (JU _)⟩
  case hst=>
   rintro l d Z hl2 ⟨⟨x3,rfl⟩,hc⟩;obtain ⟨rfl,hlt⟩:=Sh hl2;have hlk:l<=k:=by omega
   obtain ⟨s,hs⟩:∃s,w[l]?=some s:=⟨_,Qe (by omega)⟩
   refine ⟨_,U4 (Qa rfl) rfl,?_⟩;have zl:(0:Int)+(l:Int)=l:=by omega
   rw[zl];unfold Ht;have il:oIx (.list (w.map Kt)) (.int (l:Int))=some (Kt s):=ZD (by rw[Qd,hs];rfl)
   have i0:oIx (Kt s) (.int 0)=some (.int s.a):=ZD (j:=0) rfl;have i1:oIx (Kt t) (.int 1)=some (.int t.b):=ZD (j:=1) rfl;apply KM
   case h1=>exact Kk (Kk (K7 rfl (UU rfl) il) U6 i0) (K7 rfl U6 i1) Wf
   case h2=>
    intro hh;have hh:(s.a:Int)=(t.b:Int):=Qa hh
    have hcut:XB (.list (w.map Kt)) (some (l:Int)) (some ((k:Int)+1))=some (.list (((w.take (k+1)).drop l).map Kt)):=by
     rw[VR,show ((k:Int)+1)=((k+1:Nat):Int) by omega,Dw (by omega) (by rw[Qb];omega),List.map_drop,List.map_take]
    refine KI (VJ (UU rfl) (Xy (UU rfl)) (Xy (Kk (UU rfl) U6 ZH)) hcut) (VD (VD (Xe ⟨_,rfl,_,rfl,.inr ⟨l,k,⟨hlk,hkl,λs' t' e1 e2=>?_,hb⟩,rfl⟩⟩)));rw[hs] at e1;rw[ht] at e2;cases e1;cases e2;omega
   case h3=>
    intro hh;have hh:¬(s.a:Int)=(t.b:Int):=Jb hh;refine K4 (ZB ⟨⟨_,rfl⟩,λi' hi' s' e=>?_⟩);rcases Jx.mp hi' with hi'|rfl
    ·exact hc i' hi' s' e
    ·rw[hs] at e;cases e;omega
  case hend=>
   rintro Z ⟨⟨x3,rfl⟩,hc⟩;refine ZB ⟨⟨_,_,_,rfl⟩,λj' hj' i' hi' s' t' e1 e2=>?_⟩;rcases Jx.mp hj' with hj'|rfl
   ·exact hb j' hj' i' hi' s' t' e1 e2
   ·rw[ht] at e2
    cases e2;exact hc i' (by rw[Vc];omega) s' e1
 case hend=>
  rintro Z ⟨⟨x1,x2,x3,rfl⟩,hb⟩;refine KQ (KI (Z7 U7 (Qa rfl)) ⟨_,rfl,[],rfl,.inl ⟨λj hj=>hb j (by rw[YQ,Qb];exact hj),rfl⟩⟩)
def Wq(n:Nat)(s:Stp):Option (Nat×Option Int):=s.w.map λi=>(i,Xf n s.b)
def Z8(p:Nat×Option Int):D:=.tuple [.int (p.1:Nat),Kf p.2]
def rot(b:Nat)(r:List Stp):List Stp:=r.drop b++r.take b
theorem HX(b:Nat)(r:List Stp):(rot b r).Perm r:=by
 unfold rot
 have:=List.perm_append_comm (l₁:=r.drop b) (l₂:=r.take b)
 rw[Uj] at this;exact this
theorem kB{n:Nat}{r:List Stp}(hl:r.length<=1000):∃b,b<=r.length/\((∃s,r[b]?=some s/\s.a=n)∨(b=0/\∀s∈r,s.a≠n))/\Vp [.int (n:Nat),.list (r.map Kt)]=some (.list (((rot b r).filterMap (Wq n)).map Z8)):=by
 have key:∃d,Vp [.int (n:Nat),.list (r.map Kt)]=some d/\∃b,b<=r.length/\((∃s,r[b]?=some s/\s.a=n)∨(b=0/\∀s∈r,s.a≠n))/\d=.list (((rot b r).filterMap (Wq n)).map Z8):=by
  refine WW (Z:=[pb (.int (n:Nat)),pb (.list (r.map Kt)),none,none,none,none,none,none,none,none]) rfl ?_;unfold Rl;refine Kx (K0 U6 (Qa rfl) rfl) ?_;apply KU;apply Yj (λk Z=>∃(b:Nat)(x3 x4:Option Sl),Z=[pb (.int (n:Nat)),pb (.list (r.map Kt)),pb (.int (b:Nat)),x3,x4,none,none,none,none,none]/\b<=r.length/\((∃s,r[b]?=some s/\s.a=n)∨(b=0/\∀s∈r.take k,s.a≠n)))
  case h1=>exact XQ (UZ (UU rfl) U7) XN
  case h0=>exact ⟨0,_,_,rfl,J8 _,.inr ⟨rfl,λs h=>by rw[J4] at h;cases h⟩⟩
  case hst=>
   rintro k d Z hk ⟨b,x3,x4,rfl,hbl,hb⟩;obtain ⟨z,hz,rfl⟩:=Xo hk;rw[Qd] at hz
   cases ht:r[k]? with
   |none=>rw[ht] at hz;cases hz
   |some t=>
   rw[ht] at hz;cases hz;have hkl:k<r.length:=(Qg.mp ht).1;rw[QU];refine ⟨_,KK rfl (Kc (U4 (Qa rfl) rfl) (Kc (U4 (Qa rfl) rfl) KL)),?_⟩;unfold Hq;have i0:oIx (Kt t) (.int 0)=some (.int t.a):=ZD (j:=0) rfl;apply KM
   case h1=>exact Kk (K7 rfl U6 i0) (UU rfl) Wf
   case h2=>
    intro hh;have hh:(t.a:Int)=(n:Int):=Qa hh;exact ZW (K0 (UU rfl) (Qa rfl) rfl) (ZB ⟨k,_,_,rfl,by omega,.inl ⟨t,ht,by omega⟩⟩)
   case h3=>
    intro hh;have hh:¬(t.a:Int)=(n:Int):=Jb hh;refine K4 (ZB ⟨b,_,_,rfl,hbl,?_⟩);rcases hb with hb|⟨hb,hc⟩
    ·exact .inl hb
    ·refine .inr ⟨hb,λs hs=>?_⟩
     rw[JK,ht] at hs;rcases QW.mp hs with hs|hs
     ·exact hc s hs
     ·rw[Ja.mp hs];omega
  case hend=>
   rintro Z ⟨b,x3,x4,rfl,hbl,hb⟩;refine KQ ?_
   have hb':(∃s,r[b]?=some s/\s.a=n)∨(b=0/\∀s∈r,s.a≠n):=by
    rw[YQ,Qb,JO] at hb;exact hb
   refine Kx (Yt (T5 U7 (Qa rfl)) (Qa rfl) rfl) ?_;have c1:XB (.list (r.map Kt)) (some (b:Int)) none=some (.list ((r.drop b).map Kt)):=by rw[VR,BC (by rw[Qb];exact hbl),List.map_drop]
   have c2:XB (.list (r.map Kt)) none (some (b:Int))=some (.list ((r.take b).map Kt)):=by rw[VR,DA (by rw[Qb];exact hbl),List.map_take]
   have c3:Kh (.list ((r.drop b).map Kt)) (.list ((r.take b).map Kt))=some (.list ((rot b r).map Kt)):=by
    rw[XX (by rw[Qb,Qb,Jl,Q3];omega)]
    unfold rot;rw[Qz]
   apply KU;apply Yj (λk Z=>∃x6 x7 x8 x9,Z=[pb (.int (n:Nat)),pb (.list (r.map Kt)),pb (.int (b:Nat)),x3,x4,some (.own ((((rot b r).take k).filterMap (Wq n)).map Z8)),x6,x7,x8,x9])
   case h1=>exact Yl (Kk (VJ (UU rfl) (Xy (UU rfl)) U6 c1) (VJ (UU rfl) U6 (Xy (UU rfl)) c2) c3) YZ
   case h0=>exact ⟨_,_,_,_,rfl⟩
   case hst=>
    rintro k d Z hk ⟨x6,x7,x8,x9,rfl⟩;rw[Qd] at hk
    cases hq:(rot b r)[k]? with
    |none=>rw[hq] at hk;cases hk
    |some s=>
    rw[hq] at hk;cases hk;have hkl:k<(rot b r).length:=(Qg.mp hq).1;have hrl:(rot b r).length=r.length:=(HX b r).length_eq;have hta:(rot b r).take (k+1)=(rot b r).take k++[s]:=by rw[JK,hq];rfl
    refine ⟨_,KK rfl (Kc (U4 (Qa rfl) rfl) (Kc (U4 (Qa rfl) rfl) (Kc (U4 (Qa rfl) rfl) (Kc (U4 (Qa rfl) rfl) KL)))),?_⟩;unfold Hr
    have hsz:((((rot b r).take k).filterMap (Wq n)).map Z8).length<1000000:=by
     rw[Qb]
     have:=Jo (Wq n) ((rot b r).take k)
     rw[Q3] at this;omega
    cases hw:s.w with
    |none=>
     apply KM
     case h1=>exact KP (k:=λd=>!isNon d) (x:=X4 none) (UU rfl)
     case h2=>intro hh;cases hh
     case h3=>
      intro _;refine K4 (ZB ⟨some (.pub (.int s.a)),pb (.int s.b),pb (.int s.g),pb (X4 none),?_⟩);rw[hta,List.filterMap_append]
      have:[s].filterMap (Wq n)=[]:=by unfold Wq;rw[JD,hw];rfl
      rw[this,Q9]
      rfl
    |some i=>
     apply KM
     case h1=>exact KP (k:=λd=>!isNon d) (x:=X4 (some i)) (UU rfl)
     case h3=>intro hh;cases hh
     case h2=>
      intro _
      have htest:∀Z:UR,Z[7]?=some (some (.pub (.int (s.b:Int))))->Z[0]?=some (some (.pub (.int (n:Int))))->mIf (Zz oEq 7 (UN 0)) (U1 .none) (UN 7) Z=.ok (Kf (Xf n s.b)) Z:=λZ h7 h0=>by
       unfold Xf
       by_cases z:s.b=n
       ·rw[Ql z]
        exact NT (ZO h7 (UU h0) (by rw[Wf,Q2 (by rw[z])])) U6
       ·rw[Qs z]
        exact OW (ZO h7 (UU h0) (by rw[Wf,QG (by omega)])) (UU h7)
      refine ZW (W4 rfl (Xs (UZ (UU rfl) (UZ (htest _ rfl rfl) U7)) (Qa rfl)) rfl hsz rfl) (ZB ⟨some (.pub (.int s.a)),pb (.int s.b),pb (.int s.g),pb (X4 (some i)),?_⟩);rw[hta,List.filterMap_append]
      have:[s].filterMap (Wq n)=[(i,Xf n s.b)]:=by unfold Wq;rw[JD,hw];rfl
      rw[this,Qz]
      rfl
   case hend=>
    rintro Z ⟨x6,x7,x8,x9,rfl⟩;refine KQ (KI (Yh rfl rfl) ⟨_,rfl,b,hbl,hb',?_⟩);rw[Qb,JO]
 obtain ⟨d,e,b,h1,h2,rfl⟩:=key;exact ⟨b,h1,h2,e⟩
theorem MY(n:Nat):∀(R:List Stp)(d:LO),(R.filterMap (Wq n)).foldl (λd p=>d.set p.1 p.2) d=R.foldl (app n) d
 |[],d=>rfl
 |s::R,d=>by
  rw[Ud,JD];unfold Wq app
  cases s.w with
  |none=>exact MY n R d
  |some i=>exact MY n R (d.set i (Xf n s.b))
theorem At{ws:LO}{tk:List (Nat×Option Int)}(h:∀p∈tk,p.1<ws.length):Ts [Kl ws,.list (tk.map Z8)]=some (Kl (tk.foldl (λd p=>d.set p.1 p.2) ws)):=by
 refine Zp (Z:=[pb (Kl ws),pb (.list (tk.map Z8)),none,none,none]) rfl ?_;unfold Rt;refine Kx (Yt (SB rfl (show Wa [Kl ws]=some (ws.map Kf) from rfl)) (Qa rfl) rfl) ?_
 have hlen:∀(R:List (Nat×Option Int))(d:LO),(R.foldl (λd p=>d.set p.1 p.2) d).length=d.length:=λR=>by
  induction R with
  |nil=>intro d;rfl
  |cons p R ih=>intro d;rw[Ud,ih,QY]
 apply KU;apply Yj (λk Z=>∃x3 x4,Z=[pb (Kl ws),pb (.list (tk.map Z8)),some (.own (((tk.take k).foldl (λd p=>d.set p.1 p.2) ws).map Kf)),x3,x4])
 case h1=>exact Yl (UU rfl) YZ
 case h0=>exact ⟨_,_,rfl⟩
 case hst=>
  rintro k d Z hk ⟨x3,x4,rfl⟩;rw[Qd] at hk
  cases hq:tk[k]? with
  |none=>rw[hq] at hk;cases hk
  |some p=>
  rw[hq] at hk;cases hk;have hpl:=h p (Qp hq);have hta:tk.take (k+1)=tk.take k++[p]:=by rw[JK,hq];rfl
  refine ⟨_,KK rfl (Kc (U4 (Qa rfl) rfl) (Kc (U4 (Qa rfl) rfl) KL)),?_⟩;unfold Hl;refine ZW (Sc (UU rfl) rfl (UU rfl) rfl ⟨Int.natCast_nonneg _,by rw[Qb,hlen];omega⟩ rfl) (ZB ⟨some (.pub (.int (p.1:Nat))),pb (Kf p.2),?_⟩)
  rw[hta,List.foldl_append];show [_,_,some (Sl.own ((((tk.take k).foldl (λd p=>d.set p.1 p.2) ws).map Kf).set ((p.1:Int)).toNat (Kf p.2))),_,_]=[_,_,some (Sl.own ((((tk.take k).foldl (λd p=>d.set p.1 p.2) ws).set p.1 p.2).map Kf)),_,_];rw[Qv,List.map_set]
 case hend=>
  rintro Z ⟨x3,x4,rfl⟩;refine KQ (KI (Yh rfl rfl) ?_);rw[Qb,JO]
  rfl
def TZ(cs:List Int)(f:Int×Int->Int)(qs:LP)(ws:LO):Prop:=∀p,p<cs.length+1->(ent (Zj (cs.length+1) (Xr cs f qs ws) (cs.length+1)) p).2.length≠cs.length+1
structure PN(cs:List Int)(f:Int×Int->Int)(qs:LP)(ws:LO)(r:List Stp)(b:Nat):Prop where
 rnd:∃x,Path (Xr cs f qs ws) x r x
 nd:(r.map Stp.a).Nodup
 pos:0<KO r
 bl:b<=r.length
 bat:(∃s,r[b]?=some s/\s.a=cs.length)∨(b=0/\∀s∈r,s.a≠cs.length)
def ZX(n b:Nat)(r:List Stp):List (Nat×Option Int):=(rot b r).filterMap (Wq n)
theorem PB(s:Stp)(R:List Stp):KO (s::R)=s.g+KO R:=by show KO ([s]++R)=_;rw[VX,PD]
theorem As{u v:List Stp}(h:u.Perm v):KO u=KO v:=by
 induction h with
 |nil=>rfl
 |cons x _ ih=>rw[PB,PB,ih]
 |swap x y l=>rw[PB,PB,PB,PB];omega
 |trans _ _ ih1 ih2=>rw[ih1,ih2]
theorem Ar{R:List Stp}(h:∀s∈R,s.g=0):KO R=0:=by
 induction R with
 |nil=>rfl
 |cons s R ih=>
  have e:KO (s::R)=s.g+KO R:=by show KO ([s]++R)=_;rw[VX,PD]
  rw[e,h s Qn,ih λx hx=>h x (Qk _ hx)]
  rfl
section
variable{cs:List Int}{ls:L3}{ws:LO}{V:Int->Int->Int}{qs:LP}{f:Int×Int->Int}{m:Nat}
theorem PN.does(hp:Y8 cs.length m qs)(hd:YC cs qs m ws){r:List Stp}{b:Nat}(h:PN cs f qs ws r b):YC cs qs m ((ZX cs.length b r).foldl (λd p=>d.set p.1 p.2) ws)/\KN f 0 ((ZX cs.length b r).foldl (λd p=>d.set p.1 p.2) ws)=KN f 0 ws+KO r/\ZX cs.length b r≠[]/\∀p∈ZX cs.length b r,p.1<ws.length:=by
 obtain ⟨x,hx⟩:=h.rnd;have hin:∀s∈r,IsSt cs f qs ws s:=λs hs=>Na hp hd s (hx.mem s hs);have pr:=HX b r;have hinR:∀s∈rot b r,IsSt cs f qs ws s:=λs hs=>hin s (pr.mem_iff.mp hs);have ndR:((rot b r).map Stp.a).Nodup:=(pr.map Stp.a).nodup_iff.mpr h.nd;have pbR:((rot b r).map Stp.b).Perm ((rot b r).map Stp.a):=((pr.map Stp.b).trans (jQ hx)).trans (pr.map Stp.a).symm;obtain ⟨h1,h2⟩:=B6 hp hd hinR ndR pbR;unfold ZX;rw[MY];refine ⟨h1,by rw[h2,As pr],λz=>?_,λp hpm=>?_⟩
 ·have:KO r=0:=Ar λs hs=>by
   have hw:Wq cs.length s=none:=by
    have:=List.filterMap_eq_nil_iff.mp z s (pr.mem_iff.mpr hs)
    exact this
   cases hin s hs with
   |mv _ _ _=>cases hw
   |left _ _=>rfl
   |give _=>rfl
  have:=h.pos
  omega
 ·obtain ⟨s,hs,e⟩:=Jp.mp hpm
  cases hinR s hs with
  |@mv i o o' hw _ _=>
   cases e;exact (Qg.mp hw).1
  |left _ _=>cases e
  |give _=>cases e
theorem M7(g:Good cs ls)(hm:ws.length=ls.length)(hp:Y8 cs.length ws.length qs)(hd:YC cs qs ws.length ws)(hq1:qs.length<=500):∃d,X8 [Ko cs ls,.list (qs.map (ZP V)),Kl ws]=some d/\((d=.list []/\TZ cs (Ke V) qs ws) ∨ ∃r b,d=.list ((ZX cs.length b r).map Z8)/\PN cs (Ke V) qs ws r b):=by
 refine WW (Z:=[pb (Ko cs ls),pb (.list (qs.map (ZP V))),pb (Kl ws),none,none,none]) rfl ?_;unfold Rk;have c6:=g.c6;have l7:=g.l7;have hlc:Ku [.list (cs.map int)]=some (.int cs.length):=by rw[ZR,Qb]
 have hS:∀s∈Xr cs (Ke V) qs ws,s.a<cs.length+1/\s.b<cs.length+1:=λs hs=>(Na hp hd s hs).lt hp hd;have hwd:=GM hS (by omega)
 have hsteps:=Eb (V:=V) g hm hp hd (by omega)
 refine Kx (K0 (Yg (UZ (K7 rfl U6 TX) U7) hlc) (Qa rfl) rfl) ?_;have hadd:Kh (.int (cs.length:Int)) (.int 1)=some (.int ((cs.length+1:Nat):Int)):=by rw[ZH];rfl
 apply KU;apply Yj (λk Z=>(∃x4 x5,Z=[pb (Ko cs ls),pb (.list (qs.map (ZP V))),pb (Kl ws),pb (.int cs.length),x4,x5])/\∀p<k,(ent (Zj (cs.length+1) (Xr cs (Ke V) qs ws) (cs.length+1)) p).2.length≠cs.length+1)
 case h1=>exact Yl (Ky (UZ (Kk (UU rfl) U6 hadd) (UZ (Ky (UZ (UU rfl) (UZ (UU rfl) (UZ (UU rfl) U7))) rfl hsteps) U7)) rfl hwd) YZ
 case h0=>exact ⟨⟨_,_,rfl⟩,λp h=>absurd h (JU _)⟩
 case hst=>
  rintro k d Z hk ⟨⟨x4,x5,rfl⟩,hb⟩;rw[Qd] at hk
  cases hq:(Zj (cs.length+1) (Xr cs (Ke V) qs ws) (cs.length+1))[k]? with
  |none=>rw[hq] at hk;cases hk
  |some e=>
  rw[hq] at hk;cases hk;have he:ent (Zj (cs.length+1) (Xr cs (Ke V) qs ws) (cs.length+1)) k=e:=by unfold ent;rw[Qh,hq];rfl
  refine ⟨_,KK rfl (Kc (U4 (Qa rfl) rfl) (Kc (U4 (Qa rfl) rfl) KL)),?_⟩;unfold Hn;have hlw:Ku [.list (e.2.map Kt)]=some (.int e.2.length):=by rw[ZR,Qb]
  apply KM
  case h1=>exact Kk (Ye rfl hlw) (Kk (UU rfl) U6 hadd) Wf
  case h2=>
   intro hh;have hh:((e.2.length:Nat):Int)=((cs.length+1:Nat):Int):=Qa hh;have hlen:e.2.length=cs.length+1:=by omega
   obtain ⟨d,hrw,r,rfl,hr⟩:=xj (w:=e.2) (by omega)
   have hwk:=Ou hS (cs.length+1) k;rw[he] at hwk;obtain ⟨q,hpath⟩:=hwk.1.path;rcases hr with ⟨hno,rfl⟩|⟨i,j,hra,rfl⟩
   ·exact absurd hno (B7 hS hpath (by omega) (Nat.succ_pos _))
   ·have hlr:((e.2.take (j+1)).drop i).length<=1000:=by rw[Jl,Q3];omega
    obtain ⟨b,hbl,hbat,hway⟩:=kB (n:=cs.length) hlr;have hrg:=jR hS (Nat.succ_pos _) (p:=k) (by rw[he];exact hlen) (by rw[he];exact hra)
    rw[he] at hrg;obtain ⟨x,hx,hgp⟩:=hrg;exact KI (Ky (UZ (UU rfl) (UZ (Ky (UZ (UU rfl) U7) rfl hrw) U7)) rfl hway) (VD (Xe ⟨_,rfl,.inr ⟨_,b,rfl,⟨⟨x,hx⟩,jX hpath hra,hgp,hbl,hbat⟩⟩⟩))
  case h3=>
   intro hh;have hh:¬((e.2.length:Nat):Int)=((cs.length+1:Nat):Int):=Jb hh;refine K4 (ZB ⟨⟨_,_,rfl⟩,λp hpk=>?_⟩);rcases Jx.mp hpk with hpk|rfl
   ·exact hb p hpk
   ·rw[he];omega
 case hend=>
  rintro Z ⟨⟨x4,x5,rfl⟩,hb⟩;refine KQ (KI (Z7 U7 (Qa rfl)) ⟨_,rfl,.inl ⟨rfl,λp hpn=>hb p ?_⟩⟩);rw[Qb,PJ hS];exact hpn
theorem LZ{M:Int}(hM0:0<=M)(hM:∀q∈qs,f q<=M):∀(ws:LO)(k:Nat),(∀(i:Nat) t,ws[i]?=some (some t)->(((k+i:Nat):Int),t)∈qs)->KN f k ws<=ws.length*M
 |[],k,_=>by show (0:Int)<=((0:Nat):Int)*M;rw[show (((0:Nat)):Int)=0 from rfl,Int.zero_mul];exact QZ _
 |o::ws,k,h=>by
  have ih:=LZ hM0 hM ws (k+1) λi t e=>by
   have:=h (i+1) t (by simpa using e)
   rw[show k+1+i=k+(i+1) by omega]
   exact this
  have h0:KF f k o<=M:=by
   cases o with
   |none=>exact hM0
   |some t=>exact hM _ (by have:=h 0 t rfl;rw[Uq] at this;exact this)
  rw[QF];show KF f k o+KN f (k+1) ws<=_;rw[show (((ws.length+1:Nat)):Int)=(ws.length:Int)+1 by omega,Int.add_mul,Int.one_mul]
  omega
theorem Fd(g:Good cs ls)(hm:m=ls.length)(hp:Y8 cs.length m qs)(hq1:qs.length<=500){M:Int}(hM0:0<=M)(hM:∀q∈qs,Ke V q<=M):∀(N:Nat)(ws:LO)(d:D),YC cs qs m ws->((d=.list []/\TZ cs (Ke V) qs ws) ∨ ∃r b,d=.list ((ZX cs.length b r).map Z8)/\PN cs (Ke V) qs ws r b) ->
  (m*M-KN (Ke V) 0 ws<N)->∃ws',YC cs qs m ws'/\TZ cs (Ke V) qs ws'/\Wh (Pt (UN 3)) O3 N [pb (Ko cs ls),pb (.list (qs.map (ZP V))),pb (Kl ws),pb d]=.nx [pb (Ko cs ls),pb (.list (qs.map (ZP V))),pb (Kl ws'),pb (.list [])]
 |0,ws,d,hd,_,hN=>by
  have:=LZ hM0 hM ws 0 (λi t e=>by rw[QU];exact hd.wish i t e)
  rw[hd.len] at this;exact absurd hN (by omega)
 |N+1,ws,d,hd,hg,hN=>by
  rcases hg with ⟨rfl,hst⟩|⟨r,b,rfl,hgr⟩
  ·refine ⟨ws,hd,hst,?_⟩
   unfold Wh;rw[Nl (ds:=[]) (UU rfl)]
   rfl
  ·obtain ⟨h1,h2,h3,h4⟩:=hgr.does hp hd
   generalize hws':(ZX cs.length b r).foldl (λd p=>d.set p.1 p.2) ws=ws' at h1 h2;have hbe:=At h4;rw[hws'] at hbe;obtain ⟨d',hgw,hg'⟩:=M7 (V:=V) (ws:=ws') g (by rw[h1.len,hm]) (by rw[h1.len];exact hp) (by rw[h1.len];exact h1) hq1
   obtain ⟨ws2,k1,k2,k3⟩:=Fd g hm hp hq1 hM0 hM N ws' d' h1 hg' (by have:=hgr.pos;omega)
   refine ⟨ws2,k1,k2,?_⟩;unfold Wh;rw[Nl (ds:=(ZX cs.length b r).map Z8) (UU rfl)]
   have hne:(!((ZX cs.length b r).map Z8).isEmpty)=true:=by
    cases hw:ZX cs.length b r with
    |nil=>exact absurd hw h3
    |cons _ _=>rfl
   dsimp only;rw[Ql hne]
   have hb:Ho O3 [pb (Ko cs ls),pb (.list (qs.map (ZP V))),pb (Kl ws),pb (.list ((ZX cs.length b r).map Z8))] (λo=>o=.nx [pb (Ko cs ls),pb (.list (qs.map (ZP V))),pb (Kl ws'),pb d']):=by
    unfold O3;refine Kx (K0 (Ky (UZ (UU rfl) (UZ (UU rfl) U7)) rfl hbe) (Qa rfl) rfl) ?_;exact ZW (K0 (Ky (UZ (UU rfl) (UZ (UU rfl) (UZ (UU rfl) U7))) rfl hgw) (Qa rfl) rfl) rfl
   rw[hb.out];exact k3
theorem jP(g:Good cs ls)(hp:Y8 cs.length ls.length qs)(hq1:qs.length<=500){M:Int}(hM0:0<=M)(hM:∀q∈qs,Ke V q<=M)(hF:ls.length*M<10 ^ 60):∃d,Tn [Ko cs ls,.list (qs.map (ZP V))]=some d/\∃ws,d=Kl ws/\YC cs qs ls.length ws/\TZ cs (Ke V) qs ws:=by
 refine WW (Z:=[pb (Ko cs ls),pb (.list (qs.map (ZP V))),none,none]) rfl ?_;unfold Rj;have l7:=g.l7;have hll:Ku [.list (ls.map Zc)]=some (.int (ls.length:Nat)):=by rw[ZR,Qb]
 let ws0:LO:=UJ ls.length none
 have hmul:KY (.list [.none]) (.int (ls.length:Nat))=some (Kl ws0):=by
  rw[Hh (by omega)]
  show _=some (UK ((UJ ls.length none).map Kf));rw[Uc]
  rfl
 have hd0:YC cs qs ls.length ws0:=⟨by show (UJ _ _).length=_;rw[QE],(λi t h=>by
  have h:(UJ ls.length (none:Option Int))[i]?=some (some t):=h;rw[QB] at h
  split at h
  ·cases h
  ·cases h),λk c e=>by
  have h0:ws0.count (some (k:Int))=0:=List.count_eq_zero.mpr λh=>by cases (Uv.mp h).2
  rw[h0]
  have:=g.c7 c (Qp e)
  show (0:Int)<=c
  omega⟩
 refine Kx (K0 (Kk (Z7 (UZ U6 U7) (Qa rfl)) (Yg (UZ (K7 rfl U6 WZ) U7) hll) hmul) (Qa rfl) rfl) ?_;obtain ⟨d',hgw,hg'⟩:=M7 (V:=V) (ws:=ws0) g hd0.len (by rw[hd0.len];exact hp) (by rw[hd0.len];exact hd0) hq1
 refine Kx (K0 (Ky (UZ (UU rfl) (UZ (UU rfl) (UZ (UU rfl) U7))) rfl hgw) (Qa rfl) rfl) ?_
 have h0:∀(n k:Nat),KN (Ke V) k (UJ n none)=0:=λn=>by
  induction n with
  |zero=>intro k;rfl
  |succ n ih=>intro k;rw[QS];show 0+KN (Ke V) (k+1) (UJ n none)=0;rw[ih];rfl
 have hfu:ls.length*M-KN (Ke V) 0 ws0<(WQ:Nat):=by
  have e:KN (Ke V) 0 ws0=0:=h0 _ _;have e2:((WQ:Nat):Int)=10 ^ 60:=by unfold WQ;rfl
  rw[e,e2];omega
 obtain ⟨ws',k1,k2,k3⟩:=Fd g rfl hp hq1 hM0 hM WQ ws0 d' hd0 hg' hfu;refine Kx k3 ?_;exact KI (UU rfl) ⟨_,rfl,ws',rfl,k1,k2⟩
end
section
variable{cs:List Int}{ls:L3}
end
section
variable{cs:List Int}{ls:L3}{as ps:List Int}
theorem LY(g:Good cs ls):(KS 0 ls).length<=42:=by rw[(Ow ls 0).length_eq];exact O9 g
end
theorem HW{f:Int×Int->Int}{ps:List Int}:∀(ws:LO)(as:List Int)(k:Nat),as.length=ws.length->(∀a∈as,0<=a)->(∀(i:Nat) t,ws[i]?=some (some t)->f (((k+i:Nat):Int),t)<=as.getD i 0+ps.getD t.toNat 0)->KN f k ws<=as.sum+pz ps ws
 |[],[],k,_,_,_=>by show (0:Int)<=0+0;omega
 |o::ws,a::as,k,hl,ha,h=>by
  have ih:=HW (f:=f) (ps:=ps) ws as (k+1) (by simpa using hl) (λx hx=>ha x (List.mem_cons_of_mem _ hx)) λi t e=>by
   have:=h (i+1) t (by simpa using e)
   rw[show k+1+i=k+(i+1) by omega]
   simpa using this
  have h0:=ha a Qn;rw[Jd]
  cases o with
  |none=>
   show 0+KN f (k+1) ws<=a+as.sum+(0+pz ps ws);omega
  |some t=>
   have h1:=h 0 t rfl;have h1:f ((k:Int),t)<=a+ps.getD t.toNat 0:=by simpa using h1
   show f ((k:Int),t)+KN f (k+1) ws<=a+as.sum+(ps.getD t.toNat 0+pz ps ws);omega
 |[],_::_,_,hl,_,_=>by cases hl
 |_::_,[],_,hl,_,_=>by cases hl
section
variable{cs:List Int}{ls:L3}{ws:LO}{qs:LP}{f:Int×Int->Int}{m:Nat}{as ps:List Int}
theorem Aq(hp:Y8 cs.length m qs)(hd:YC cs qs m ws)(ok:OkP cs.length m (λa b=>f (a,b)) qs 1 as ps):KN f 0 ws<=OR cs as ps:=by
 have h1:=HW (f:=f) (ps:=ps) ws as 0 (by rw[ok.la,hd.len]) ok.aa λi t e=>by
  have:=ok.le _ (hd.wish i t e)
  rw[QU];have e1:((i:Int)).toNat=i:=Qv i;rw[Int.one_mul] at this;dsimp only at this;rw[e1] at this;exact this
 have hth:∀t,some t∈ws->0<=t/\t<cs.length:=λt ht=>by
  obtain ⟨i,hi⟩:=List.mem_iff_getElem?.mp ht
  have:=hp.lo _ (hd.wish i t hi)
  exact ⟨this.2.2.1,this.2.2.2⟩
 rw[MZ ws hth] at h1;unfold OR;rw[F4 _ _ ok.lp]
 have h2:ZJ cs.length (λk=>((ws.count (some (k:Int)):Nat):Int)*ps.getD k 0)<=ZJ cs.length λk=>cs.getD k 0*ps.getD k 0:=O0 _ λk hk=>by
  have hc:cs[k]?=some (cs.getD k 0):=by rw[Qh,Qe hk];rfl
  have hk2:0<=ps.getD k 0:=by
   rw[Qh,Qe (by rw[ok.lp];exact hk)]
   exact ok.pp _ (Jq _)
  exact Jr (hd.cop k _ hc) hk2
 omega
theorem F3(hp:Y8 cs.length m qs)(hd:YC cs qs m ws)(st:TZ cs f qs ws){us:LO}(hu:YC cs qs m us):KN f 0 us<=KN f 0 ws:=by
 obtain ⟨ok,e⟩:=B4 hp hd (Na hp hd) (Av hp hd) (V:=λp=>(ent (Zj (cs.length+1) (Xr cs f qs ws) (cs.length+1)) p).1) (λ_=>rfl) st
 have:=Aq hp hu ok
 rw[e] at this;exact this
end
section
variable{cs:List Int}{ls:L3}{ws:LO}{qs:LP}{V:Int->Int->Int}
def prW(cs:List Int)(f:Int×Int->Int)(qs:LP)(ws:LO)(p:Nat):Int:=(ent (Zj (cs.length+1) (Xr cs f qs ws) (cs.length+1)) p).1
theorem Ap(g:Good cs ls)(hp:Y8 cs.length ls.length qs)(hd:YC cs qs ls.length ws)(hq1:qs.length<=500):Tm [Ko cs ls,.list (qs.map (ZP V)),Kl ws]=some (.list (((UI cs.length).map (prW cs (Ke V) qs ws)).map int)):=by
 refine Zp (Z:=[pb (Ko cs ls),pb (.list (qs.map (ZP V))),pb (Kl ws),none,none]) rfl ?_;unfold Ri;have c6:=g.c6;have hS:∀s∈Xr cs (Ke V) qs ws,s.a<cs.length+1/\s.b<cs.length+1:=λs hs=>(Na hp hd s hs).lt hp hd;have hlc:Ku [.list (cs.map int)]=some (.int cs.length):=by rw[ZR,Qb]
 have has:X9 [Ko cs ls,.list (qs.map (ZP V)),Kl ws]=some (.list ((Xr cs (Ke V) qs ws).map Kt)):=Eb g hd.len (by rw[hd.len];exact hp) (by rw[hd.len];exact hd) (by omega)
 have hwd:=GM hS (by omega)
 generalize hT:Zj (cs.length+1) (Xr cs (Ke V) qs ws) (cs.length+1)=T at hwd;have hTl:T.length=cs.length+1:=by rw[←hT];exact PJ hS _
 refine Kx (K0 (Yg (UZ (K7 rfl U6 TX) U7) hlc) (Qa rfl) rfl) ?_;refine Kx (K0 (Ky (UZ (Kk (UU rfl) U6 ZH) (UZ (Ky (UZ (UU rfl) (UZ (UU rfl) (UZ (UU rfl) U7))) rfl has) U7)) rfl hwd) (Qa rfl) rfl) ?_
 have hcd:DL.cutD (T.map YK) none (some (cs.length:Int))=(T.take cs.length).map YK:=by
  have h2:HT.sIx (T.map YK).length (T.map YK).length (some (cs.length:Int))=cs.length:=by
   rw[Qb,hTl];unfold HT.sIx;simp;omega
  unfold DL.cutD;rw[h2,show HT.sIx (T.map YK).length 0 none=0 from rfl,List.drop_zero,Nat.sub_zero,List.map_take]
 have hcut:XB (.list (T.map YK)) none (some (cs.length:Int))=some (.list ((T.take cs.length).map YK)):=by
  rw[VR,hcd]
 have hc:Zs (gT 2 (gNC (gN 5) (gNC (gN 6) (gN0)))) (U1 true) (UN 5) ((T.take cs.length).map YK) (KJ [pb (Ko cs ls),pb (.list (qs.map (ZP V))),pb (Kl ws),pb (.int cs.length),pb (.list (T.map YK))]++UJ 2 none) []=some ([]++((UI cs.length).map (prW cs (Ke V) qs ws)).map int):=by
  refine XM (λZ=>∃x y,Z=[pb (Ko cs ls),pb (.list (qs.map (ZP V))),pb (Kl ws),pb (.int cs.length),pb (.list (T.map YK)),x,y]) _ _ _ _ ?_ ?_ ⟨none,none,rfl⟩ ?_
  ·rw[Qb,Qb,Qb,Q3,Qq];omega
  ·rintro i d e hd' he Z ⟨x,y,rfl⟩
   rw[Qd,Qd] at he
   have hil:i<cs.length:=by
    have:=(Qg.mp hd').1
    rw[Qb,Q3] at this;omega
   rw[Q5 hil] at he;cases he;rw[Qd,List.getElem?_take_of_lt hil,Qe (by omega)] at hd'
   cases hd'
   have hv:prW cs (Ke V) qs ws i=T[i].1:=by
    unfold prW ent;rw[hT,Qh,Qe (by omega)]
    rfl
   rw[hv];exact ⟨_,KK rfl (Kc (U4 (Qa rfl) rfl) (Kc (U4 (Qa rfl) rfl) KL)),rfl,UU rfl,_,_,rfl⟩
  ·rw[QC,Qb,Q3];omega
 exact KI (KP (Ys (Yl (VJ (UU rfl) U6 (Xy (UU rfl)) hcut) YZ) hc)) rfl
theorem D0{n m:Nat}(hp:Y8 n m qs)(hm:m<=1000)(P:Nat->Int):Tl [.int (m:Nat),.list (qs.map (ZP V)),.list (((UI n).map P).map int)]=some (.list (((UI m).map λi:Nat=>YB (Ke V) P qs (i:Int)).map int)):=by
 refine Zp (Z:=[pb (.int (m:Nat)),pb (.list (qs.map (ZP V))),pb (.list (((UI n).map P).map int)),none,none,none,none]) rfl ?_;unfold Rh;refine Kx (Yt (Mr (n:=m) (Z7 (UZ U6 U7) (Qa rfl)) (UU rfl) hm) (Qa rfl) rfl) ?_;apply KU;apply Yj (λk Z=>∃x4 x5 x6,Z=[pb (.int (m:Nat)),pb (.list (qs.map (ZP V))),pb (.list (((UI n).map P).map int)),some (.own (((UI m).map λi:Nat=>YB (Ke V) P (qs.take k) (i:Int)).map int)),x4,x5,x6])
 case h1=>exact Yl (UU rfl) YZ
 case h0=>
  refine ⟨none,none,none,?_⟩
  have e:(UJ m (int 0))=((UI m).map λi:Nat=>YB (Ke V) P (qs.take 0) (i:Int)).map int:=by
   rw[QP];apply List.ext_getElem
   ·rw[QE,Qb,Qq]
   ·intro i h1 h2
    rw[List.getElem_replicate,J6]
    rfl
  rw[←e]
  rfl
 case hst=>
  rintro k d Z hk ⟨x4,x5,x6,rfl⟩;rw[Qd] at hk
  cases hq:qs[k]? with
  |none=>rw[hq] at hk;cases hk
  |some q=>
  rw[hq] at hk;cases hk;have hb:=hp.lo q (Qp hq);obtain ⟨⟨a,ha⟩,⟨t,ht⟩⟩:(∃a:Nat,q.1=a)/\∃t:Nat,q.2=t:=⟨⟨q.1.toNat,by omega⟩,⟨q.2.toNat,by omega⟩⟩
  have ham:a<m:=by omega
  have htn:t<n:=by omega
  refine ⟨_,KK rfl (Kc (U4 (Qa rfl) rfl) (Kc (U4 (Qa rfl) rfl) (Kc (U4 (Qa rfl) rfl) KL))),?_⟩;unfold Hy
  have h1:oIx (.list (((UI m).map λi:Nat=>YB (Ke V) P (qs.take k) (i:Int)).map int)) (.int q.1)=some (.int (YB (Ke V) P (qs.take k) (a:Int))):=by
   rw[ha];exact ZD (by rw[Qd,Qd,Q5 ham];rfl)
  have h2:oIx (.list (((UI n).map P).map int)) (.int q.2)=some (.int (P t)):=by
   rw[ht];exact ZD (by rw[Qd,Qd,Q5 htn];rfl)
  refine ZW (Sc (Yg (UZ (OX rfl (UU rfl) rfl h1) (UZ (Kk (UU rfl) (K7 rfl (UU rfl) h2) Xp) U7)) HP) rfl (UU rfl) rfl ⟨hb.1,by rw[Qb,Qb,Qq];exact hb.2.1⟩ rfl) (ZB ⟨some (.pub (.int q.1)),pb (.int q.2),pb (.int (V q.1 q.2)),?_⟩)
  have e:∀i:Nat,YB (Ke V) P (qs.take (k+1)) (i:Int)=if q.1=(i:Int) then max (YB (Ke V) P (qs.take k) (i:Int)) (Ke V q-P q.2.toNat) else YB (Ke V) P (qs.take k) (i:Int):=λi=>by
   unfold YB;rw[List.take_add_one,hq,List.foldl_append]
   rfl
  have e2:((((UI m).map λi:Nat=>YB (Ke V) P (qs.take k) (i:Int)).map int).set q.1.toNat (.int (if V q.1 q.2-P t > YB (Ke V) P (qs.take k) (a:Int) then V q.1 q.2-P t else YB (Ke V) P (qs.take k) (a:Int))))=((UI m).map λi:Nat=>YB (Ke V) P (qs.take (k+1)) (i:Int)).map int:=by
   apply List.ext_getElem
   ·rw[QY,Qb,Qb,Qb,Qb]
   ·intro i h1 h2
    have hi:i<m:=by rw[Qb,Qb,Qq] at h2;exact h2
    rw[List.getElem_set,J6,J6,J6,J6,JP,e]
    by_cases hia:a=i
    ·subst hia
     rw[Ql (by omega),Ql ha,show q.2.toNat=t by omega]
     congr 1
     show _=max _ (V q.1 q.2-P t)
     split <;> omega
    ·rw[Qs (by omega),Qs (by omega)]
  rw[←e2]
  rfl
 case hend=>
  rintro Z ⟨x4,x5,x6,rfl⟩;refine KQ (KI (Yh rfl rfl) ?_);rw[Qb,JO]
abbrev RW(m:Nat)(f:Int×Int->Int)(P:Nat->Int)(qs:LP):List Int:=(UI m).map λi:Nat=>YB f P qs (i:Int)
theorem Ea(g:Good cs ls)(hp:Y8 cs.length ls.length qs)(hd:YC cs qs ls.length ws)(hq1:qs.length<=500):WI [Ko cs ls,.list (qs.map (ZP V)),Kl ws]=some (SO 1 (RW ls.length (Ke V) (prW cs (Ke V) qs ws) qs) ((UI cs.length).map (prW cs (Ke V) qs ws))):=by
 refine Zp (Z:=[pb (Ko cs ls),pb (.list (qs.map (ZP V))),pb (Kl ws),none]) rfl ?_;unfold Rg;have l7:=g.l7;have hll:Ku [.list (ls.map Zc)]=some (.int ls.length):=by rw[ZR,Qb]
 refine Kx (K0 (Ky (UZ (UU rfl) (UZ (UU rfl) (UZ (UU rfl) U7))) rfl (Ap g hp hd hq1)) (Qa rfl) rfl) ?_;exact KI (Xs (UZ U6 (UZ (Ky (UZ (Yg (UZ (K7 rfl U6 WZ) U7) hll) (UZ (UU rfl) (UZ (UU rfl) U7))) rfl (D0 hp (by omega) _)) (UZ (UU rfl) U7))) (Qa rfl)) rfl
theorem Ot(g:Good cs ls):Y8 cs.length ls.length (KS 0 ls) where
 nd:=F5 ls 0 λrs hr=>(g.rk rs hr).once
 lo:=λq hq=>by
  have:=D2 g q hq
  exact ⟨this.1.1,this.1.2,this.2.1,this.2.2⟩
theorem xi{o:Ord}{old:Option LO}{ts:List Int}(g:Good cs ls)(ga:YL cs.length ls.length old ts):∃ws,Tk [Ko cs ls,KT o old ts]=some (.tuple [Kl ws,SO 1 (RW ls.length (Ke (Zm ls o old ts)) (prW cs (Ke (Zm ls o old ts)) (KS 0 ls) ws) (KS 0 ls)) ((UI cs.length).map (prW cs (Ke (Zm ls o old ts)) (KS 0 ls) ws))])/\YC cs (KS 0 ls) ls.length ws/\TZ cs (Ke (Zm ls o old ts)) (KS 0 ls) ws:=by
 have hq:=LY g;have l7:=g.l7;obtain ⟨d,hb,ws,rfl,hd,hst⟩:=jP (V:=Zm ls o old ts) g (Ot g) (by omega) (M:=18446744073709551616) (by decide) (λq hq=>Int.le_of_lt (B8 g ga hq).2) (by omega)
 refine ⟨ws,?_,hd,hst⟩;refine Zp (Z:=[pb (Ko cs ls),pb (KT o old ts),none,none]) rfl ?_;unfold Rf;refine Kx (K0 (Ky (UZ (UU rfl) (UZ (UU rfl) U7)) rfl (Er g ga)) (Qa rfl) rfl) ?_;refine Kx (K0 (Ky (UZ (UU rfl) (UZ (UU rfl) U7)) rfl hb) (Qa rfl) rfl) ?_;exact KI (Xs (UZ (UU rfl) (UZ (Ky (UZ (UU rfl) (UZ (UU rfl) (UZ (UU rfl) U7))) rfl (Ea g (Ot g) hd (by omega))) U7)) (Qa rfl)) rfl
end
section
variable{cs:List Int}{ls:L3}{ws:LO}
theorem jV{o:Ord}{old:Option LO}{ts:List Int}(g:Good cs ls)(ga:YL cs.length ls.length old ts)(hd:YC cs (KS 0 ls) ls.length ws):∃d,Vo [Ko cs ls,KT o old ts,Kl ws]=some d/\((d=.tuple [.str "best", SO 1 (RW ls.length (Ke (Zm ls o old ts)) (prW cs (Ke (Zm ls o old ts)) (KS 0 ls) ws) (KS 0 ls)) ((UI cs.length).map (prW cs (Ke (Zm ls o old ts)) (KS 0 ls) ws))]/\TZ cs (Ke (Zm ls o old ts)) (KS 0 ls) ws) ∨ ∃r b,d=.tuple [.str "way", .list ((ZX cs.length b r).map Z8)]/\PN cs (Ke (Zm ls o old ts)) (KS 0 ls) ws r b):=by
 have hq:=LY g;have hp:=Ot g;obtain ⟨d,hw,hcase⟩:=M7 (V:=Zm ls o old ts) g hd.len (by rw[hd.len];exact hp) (by rw[hd.len];exact hd) (by omega)
 refine WW (Z:=[pb (Ko cs ls),pb (KT o old ts),pb (Kl ws),none,none]) rfl ?_;unfold Re;refine Kx (K0 (Ky (UZ (UU rfl) (UZ (UU rfl) U7)) rfl (Er g ga)) (Qa rfl) rfl) ?_;refine Kx (K0 (Ky (UZ (UU rfl) (UZ (UU rfl) (UZ (UU rfl) U7))) rfl hw) (Qa rfl) rfl) ?_;apply KU;rcases hcase with ⟨rfl,hst⟩|⟨r,b,rfl,hg⟩
 ·refine KM (b:=false) (Z1:=[pb (Ko cs ls),pb (KT o old ts),pb (Kl ws),pb (.list ((KS 0 ls).map (ZP (Zm ls o old ts)))),pb (.list [])]) (Nl (ds:=[]) (UU rfl)) (λz=>by cases z) λ_=>K4 (KQ ?_)
  exact KI (Xs (UZ U6 (UZ (Ky (UZ (UU rfl) (UZ (UU rfl) (UZ (UU rfl) U7))) rfl (Ea g hp hd (by omega))) U7)) (Qa rfl)) ⟨_,rfl,.inl ⟨rfl,hst⟩⟩
 ·have hne:=(hg.does hp hd).2.2.1
  refine KM (b:=true) (Z1:=[pb (Ko cs ls),pb (KT o old ts),pb (Kl ws),pb (.list ((KS 0 ls).map (ZP (Zm ls o old ts)))),pb (.list ((ZX cs.length b r).map Z8))]) ?_ (λ_=>?_) (λz=>by cases z)
  ·refine (Nl (ds:=(ZX cs.length b r).map Z8) (UU rfl)).trans ?_
   cases hwr:ZX cs.length b r with
   |nil=>exact absurd hwr hne
   |cons x xs=>rfl
  ·exact KI (Xs (UZ U6 (UZ (UU rfl) U7)) (Qa rfl)) (Xe ⟨_,rfl,.inr ⟨r,b,rfl,hg⟩⟩)
theorem kK{o:Ord}{old:Option LO}{ts:List Int}(g:Good cs ls)(ga:YL cs.length ls.length old ts)(hd:YC cs (KS 0 ls) ls.length ws)(hst:TZ cs (Ke (Zm ls o old ts)) (KS 0 ls) ws):∃d,Vo [Ko cs ls,KT o old ts,Kl ws]=some (.tuple [.str "best", d]):=by
 have hp:=Ot g;obtain ⟨d,hb,⟨rfl,_⟩|⟨r,b,rfl,hg⟩⟩:=jV (o:=o) g ga hd
 ·exact ⟨_,hb⟩
 ·have h1:=hg.does hp hd
  have:=F3 hp hd hst h1.1
  have h2:=hg.pos;omega
end
section
variable{cs:List Int}{ls:L3}{ws:LO}{o:Ord}{old:Option LO}{ts:List Int}
theorem xg(g:Good cs ls)(dl:Deal cs ls ws):XE [Ko cs ls,Kl ws]=some (.bool true):=by
 refine Zp (Z:=[pb (Ko cs ls),pb (Kl ws),none,none]) rfl ?_;unfold V2;have l7:=g.l7;have hl:=dl.len;have hll:Ku [.list (ls.map Zc)]=some (.int ls.length):=by rw[ZR,Qb]
 have hul:Ku [Kl ws]=some (.int ws.length):=by unfold Kl;rw[ZR,Qb]
 have hne:oNe (.int ws.length) (.int ls.length)=some false:=by rw[Sb,hl];simp
 apply KU;apply KM
 case h1=>exact Wr (XV (XY (KP (k:=λd=>UL (Zh d "list")) (x:=Kl ws) (UU rfl)))) (Kk (Ye rfl hul) (Yg (UZ (K7 rfl U6 WZ) U7) hll) hne)
 case h2=>intro h;cases h
 case h3=>
  intro _;refine K4 (KQ ?_);apply KU;apply Yj (λi Z=>∃x2 x3,Z=[pb (Ko cs ls),pb (Kl ws),x2,x3])
  case h1=>exact XQ (UZ (UU rfl) U7) XN
  case h0=>exact ⟨_,_,rfl⟩
  case hst=>
   rintro i d Z hi ⟨x2,x3,rfl⟩;obtain ⟨z,hz,rfl⟩:=Xo hi;rw[Qd] at hz
   cases hwi:ws[i]? with
   |none=>rw[hwi] at hz;cases hz
   |some o=>
   rw[hwi] at hz;cases hz;have hil:i<ls.length:=by have:=(Qg.mp hwi).1;omega
   have hls:ls[i]?=some ls[i]:=Qe hil;rw[QU];refine ⟨_,KK rfl (Kc (U4 (Qa rfl) rfl) (Kc (U4 (Qa rfl) rfl) KL)),?_⟩;unfold Mn
   cases o with
   |none=>
    apply KU;apply KM
    case h1=>exact Pw (KP (k:=λd=>!isNon d) (x:=PyData.none) (UU rfl))
    case h2=>intro h;cases h
    case h3=>
     intro _;refine K4 (KQ ?_);apply KM
     case h1=>exact Pw (KP (k:=λd=>!isNon d) (x:=PyData.none) (UU rfl))
     case h2=>intro h;cases h
     case h3=>exact λ_=>K4 (ZB ⟨_,_,rfl⟩)
   |some t=>
    have htm:=dl.wish i t _ hwi hls;have gr:=g.rk ls[i] (Qp hls);have ht:=gr.flat t htm
    have hfl:(ls[i]).flatten.length<64:=by
     have:=Sk cs.length _ gr.once gr.flat
     have:=g.c6
     omega
    apply KU;apply KM
    case h1=>exact Pv (KP (k:=λd=>!isNon d) (x:=int t) (UU rfl)) (Wr (XV (XY (Ky (UZ (UU rfl) U7) rfl (Ep t)))) (ZO rfl (Ky (UZ (UU rfl) (UZ (UU rfl) U7)) rfl (Nx hls hfl)) F7))
    case h2=>intro h;simp[htm] at h
    case h3=>
     intro _;refine K4 (KQ ?_);apply KM
     case h1=>exact Pv (KP (k:=λd=>!isNon d) (x:=int t) (UU rfl)) (Kk (Ol (UU rfl) (UZ (UU rfl) U7) NA) (Kk (K7 rfl U6 TX) (UU rfl) (ix_c ht.1 ht.2)) rfl)
     case h2=>
      intro h;have h:=Qa h;obtain ⟨k,rfl⟩:∃k:Nat,t=k:=⟨t.toNat,by omega⟩
      have hc:=dl.cop k (cs.getD k 0) (by rw[Qh,Qe (show k<cs.length by omega)];rfl)
      rw[Qv] at h;omega
     case h3=>exact λ_=>K4 (ZB ⟨_,_,rfl⟩)
  case hend=>
   rintro Z ⟨x2,x3,rfl⟩;exact KQ (KI U6 rfl)
theorem Ao(h:YC cs (KS 0 ls) ls.length ws):Deal cs ls ws where
 len:=h.len
 wish:=λi t rs hw hrs=>by
  obtain ⟨i',rs',h1,h2,h3⟩:=Sj (h.wish i t hw);have h2:(i:Int)=((0+i':Nat):Int):=h2;have hii:i=i':=by omega
  subst hii;rw[hrs] at h1;cases h1;exact h3
 cop:=h.cop
theorem NV(ls:L3):∀(ws:LO)(l2:L3)(k:Nat),(∀(j:Nat) rs,l2[j]?=some rs->ls.getD (k+j) []=rs)->ws.length=l2.length->KN (Ke (Zm ls o old ts)) k ws=Zb (K3 (ZI ls o old ts) k l2 ws)
 |[],[],_,_,_=>rfl
 |[],_::_,_,_,h=>by cases h
 |_::_,[],_,_,h=>by cases h
 |x::ws,rs::l2,k,hj,hl=>by
  have ih:=NV ls ws l2 (k+1) (λj r h=>by rw[show k+1+j=k+(j+1) by omega];exact hj (j+1) r h) (by simpa using hl)
  show KF _ k x+KN _ (k+1) ws=Zb (x.map (ZI ls o old ts k rs)::K3 _ (k+1) l2 ws);rw[SL,ih]
  congr 1
  cases x with
  |none=>rfl
  |some t=>
   show Zm ls o old ts (k:Int) t=ZI ls o old ts k rs t;unfold Zm;rw[Qv,show ls.getD k []=rs from hj 0 rs rfl]
end
theorem An{d:Nat->Int}{m:Nat}:∀(n:Nat),(∀k,k<m->d k=0)->m<n->d m≠0->∀r,fnz ((UI n).map d++r)=d m:=λn hz hm hd r=>by
 obtain ⟨j,rfl⟩:∃j,n=m+1+j:=⟨n-(m+1),by omega⟩
 rw[List.range_add,JV,Qz,Qz,Jg,Jg]
 have key:∀l:List Nat,(∀k∈l,d k=0)->∀s,fnz (l.map d++s)=fnz s:=λl=>by
  induction l with
  |nil=>exact λ_ s=>rfl
  |cons a l ih=>
   intro h s;show (if d a=0 then fnz (l.map d++s) else d a)=fnz s;rw[Ql (h a Qn)];exact ih (λk hk=>h k (Qk _ hk)) s
 rw[key _ λk hk=>hz k (Q7.mp hk)];show fnz (d m::_)=_;unfold fnz;rw[Qs hd]
theorem DZ{d:Nat->Int}{m:Nat}:∀(n:Nat),(∀k,m<k->k<n->d k=0)->m<n->d m≠0->fnz ((UI n).reverse.map d)=d m:=λn=>by
 induction n with
 |zero=>intro _ h;omega
 |succ n ih=>
  intro hz hm hd;rw[JV,List.reverse_append,Qz];show fnz (d n::_)=_;unfold fnz
  by_cases h:m=n
  ·subst h
   rw[Qs hd]
  ·rw[Ql (hz n (by omega) (by omega))]
   exact ih (λk h1 h2=>hz k h1 (by omega)) (by omega) hd
def cB(r:Nat)(l:List Nat):Nat:=(l.filter λx=>decide (x<r)).length
theorem Mb(r:Nat):∀l:List Nat,cB (r+1) l=cB r l+l.count r
 |[]=>rfl
 |x::l=>by
  have ih:=Mb r l;unfold cB at ih ⊢;rw[Jz]
  by_cases h1:x<r
  ·rw[List.filter_cons_of_pos (by simp;omega),List.filter_cons_of_pos (by simp[h1]),List.length_cons,List.length_cons,ih,if_neg (by simp;omega)]
   omega
  ·by_cases h2:x=r
   ·rw[List.filter_cons_of_pos (by simp;omega),List.filter_cons_of_neg (by simp;omega),List.length_cons,ih,if_pos (by simp[h2])]
    omega
   ·rw[List.filter_cons_of_neg (by simp;omega),List.filter_cons_of_neg (by simp;omega),ih,if_neg (by simp[h2])]
    omega
theorem Lw{r:Nat}{l:List Nat}(h:∀x∈l,x<r):cB r l=l.length:=by
 unfold cB;rw[JN.mpr λx hx=>Q2 (h x hx)]
theorem Pz(r x:Nat)(l:List Nat):cB r (x::l)=(if x<r then 1 else 0)+cB r l:=by
 unfold cB
 by_cases h:x<r
 ·rw[List.filter_cons_of_pos (by simp[h]),if_pos h,List.length_cons];omega
 ·rw[List.filter_cons_of_neg (by simp;omega),if_neg h];omega
theorem NE(r:Nat):∀(p q:List Nat),p.length=q.length->(∀(i x y:Nat),p[i]?=some x->q[i]?=some y->x<=y)->cB r q<=cB r p
 |[],[],_,_=>Qy _
 |[],_::_,h,_=>by cases h
 |_::_,[],h,_=>by cases h
 |x::p,y::q,hl,h=>by
  have ih:=NE r p q (by simpa using hl) λi a b e1 e2=>h (i+1) a b (by simpa using e1) (by simpa using e2)
  have h0:=h 0 x y rfl rfl;rw[Pz,Pz]
  split <;> split <;> omega
theorem Ll:∀(p q:List Nat),p.length=q.length->(∀(i x y:Nat),p[i]?=some x->q[i]?=some y->x<=y)->p≠q->∃r,r∈p/\cB (r+1) q<cB (r+1) p
 |[],[],_,_,h=>absurd rfl h
 |[],_::_,h,_,_=>by cases h
 |_::_,[],h,_,_=>by cases h
 |x::p,y::q,hl,h,hne=>by
  have hl':p.length=q.length:=by simpa using hl
  have h':∀(i a b:Nat),p[i]?=some a->q[i]?=some b->a<=b:=λi a b e1 e2=>h (i+1) a b (by simpa using e1) (by simpa using e2)
  have h0:=h 0 x y rfl rfl
  by_cases hxy:x=y
  ·subst hxy
   obtain ⟨r,hr,hlt⟩:=Ll p q hl' h' λe=>hne (by rw[e])
   exact ⟨r,Qk _ hr,by rw[Pz,Pz];omega⟩
  ·refine ⟨x,Qn,?_⟩
   have:=NE (x+1) p q hl' h'
   rw[Pz,Pz,Qs (by omega),Ql (by omega)]
   omega
theorem HV{D:Nat->Int}(h0:∀r,0<=D r):∀(n:Nat),(∃r,r<=n/\0<D r)->∃m,m<=n/\0<D m/\∀k,k<m->D k=0
 |0,⟨r,hr,h⟩=>⟨r,hr,h,λk hk=>by omega⟩
 |n+1,⟨r,hr,h⟩=>by
  by_cases hx:∃r,r<=n/\0<D r
  ·obtain ⟨m,h1,h2,h3⟩:=HV h0 n hx
   exact ⟨m,by omega,h2,h3⟩
  ·refine ⟨r,hr,h,λk hk=>?_⟩
   have:=h0 k
   have:¬0<D k:=λz=>hx ⟨k,by omega,z⟩
   omega
theorem LX{D:Nat->Int}(h0:∀r,0<=D r):∀(n:Nat),(∃r,r<=n/\0<D r)->∃m,m<=n/\0<D m/\∀k,m<k->k<=n->D k=0
 |0,⟨r,hr,h⟩=>⟨r,hr,h,λk h1 h2=>by omega⟩
 |n+1,⟨r,hr,h⟩=>by
  by_cases hz:0<D (n+1)
  ·exact ⟨n+1,Qy _,hz,λk h1 h2=>by omega⟩
  ·obtain ⟨m,h1,h2,h3⟩:=LX h0 n ⟨r,by
    have:r≠n+1:=λe=>hz (e ▸ h)
    omega,h⟩
   refine ⟨m,by omega,h2,λk k1 k2=>?_⟩
   have:=h0 (n+1)
   by_cases hk:k=n+1
   ·subst hk;omega
   ·exact h3 k k1 (by omega)
theorem jO{L:Nat}(o:Ord){p q:List Nat}(hl:p.length=q.length)(hpq:∀(i x y:Nat),p[i]?=some x->q[i]?=some y->x<=y)(hne:p≠q)(hp:∀x∈p,x<=L)(hq:∀x∈q,x<=L):0<fnz (XI o (Kz (L+1) p) (Kz (L+1) q)):=by
 let D:Nat->Int:=λr=>(cB r p:Int)-(cB r q:Int)
 have h0:∀r,0<=D r:=λr=>by have:=NE r p q hl hpq;show 0<=(cB r p:Int)-(cB r q:Int);omega
 have hd:∀r,((p.count r:Nat):Int)-((q.count r:Nat):Int)=D (r+1)-D r:=λr=>by
  show _=((cB (r+1) p:Int)-(cB (r+1) q:Int))-((cB r p:Int)-(cB r q:Int));rw[Mb,Mb];omega
 have hD0:D 0=0:=by
  have:∀l:List Nat,cB 0 l=0:=λl=>by
   unfold cB;rw[List.length_eq_zero_iff,List.filter_eq_nil_iff];intro x _;simp
  show (cB 0 p:Int)-(cB 0 q:Int)=0;rw[this,this];omega
 have hDL:D (L+1)=0:=by
  show (cB (L+1) p:Int)-(cB (L+1) q:Int)=0;rw[Lw λx hx=>Nat.lt_succ_of_le (hp x hx),Lw λx hx=>Nat.lt_succ_of_le (hq x hx)];omega
 obtain ⟨r,hr,hlt⟩:=Ll p q hl hpq hne
 have hex:∃r,r<=L/\0<D r:=by
  have h1:0<D (r+1):=by show 0<(cB (r+1) p:Int)-(cB (r+1) q:Int);omega
  have:=hp r hr
  refine ⟨r+1,?_,h1⟩
  have:r+1≠L+1:=λe=>by rw[e] at h1;omega
  omega
 have hm:KG (Kz (L+1) p) (Kz (L+1) q)=(UI (L+1)).map λk=>((p.count k:Nat):Int)-((q.count k:Nat):Int):=by
  unfold KG Kz;rw[List.zip_map,QP];apply List.ext_getElem
  ·simp
  ·intro i h1 h2
   simp
 obtain ⟨m,m1,m2,m3⟩:=HV h0 L hex;have hm0:m≠0:=λe=>by subst e;omega
 obtain ⟨a,rfl⟩:∃a,m=a+1:=⟨m-1,by omega⟩
 have hfirst:∀s,fnz ((UI (L+1)).map (λk=>((p.count k:Nat):Int)-((q.count k:Nat):Int))++s)=D (a+1):=λs=>by
  have ha:((p.count a:Nat):Int)-((q.count a:Nat):Int)=D (a+1):=by rw[hd a,m3 a (by omega)];omega
  rw[An (m:=a) (L+1) (λk hk=>by rw[hd k,m3 k (by omega),m3 (k+1) (by omega)];omega) (by omega) (by rw[ha];omega),ha]
 cases o with
 |firsts=>
  show 0<fnz (KG _ _);rw[hm]
  have:=hfirst []
  rw[Q9] at this;rw[this];exact m2
 |full=>
  show 0<fnz (((KG _ _).map λx=>-x).drop ((KG _ _).length-1)++KG _ _);rw[hm,Qb,Qq,Ub]
  have e:(((UI (L+1)).map λk=>((p.count k:Nat):Int)-((q.count k:Nat):Int)).map λx=>-x).drop L=[-(((p.count L:Nat):Int)-((q.count L:Nat):Int))]:=by
   rw[List.range_succ,List.map_append,List.map_append,List.drop_append_of_le_length (by simp),List.drop_of_length_le (by simp)]
   rfl
  rw[e];show 0<fnz (_::_);unfold fnz;split
  ·have:=hfirst []
   rw[Q9] at this;rw[←this] at m2;exact m2
  ·rename_i hz
   have:=hd L
   have:=h0 L
   omega
 |lasts=>
  show 0<fnz (((KG _ _).map λx=>-x).reverse);obtain ⟨b,b1,b2,b3⟩:=LX h0 L hex
  have hb:((p.count b:Nat):Int)-((q.count b:Nat):Int) = - D b:=by
   have:D (b+1)=0:=by
    by_cases z:b=L
    ·rw[z];exact hDL
    ·exact b3 (b+1) (by omega) (by omega)
   rw[hd b,this];omega
  have e:((KG (Kz (L+1) p) (Kz (L+1) q)).map λx=>-x).reverse=(UI (L+1)).reverse.map λk=>-(((p.count k:Nat):Int)-((q.count k:Nat):Int)):=by
   rw[hm,QP,←List.map_reverse]
   rfl
  rw[e,DZ (m:=b) (L+1) (λk k1 k2=>by
   have h1:D k=0:=b3 k k1 (by omega)
   have h2:D (k+1)=0:=by
    by_cases z:k=L
    ·rw[z];exact hDL
    ·exact b3 (k+1) (by omega) (by omega)
   rw[hd k,h1,h2]
   omega) (by omega) (by rw[hb];omega),hb]
  omega
section
variable{cs:List Int}{ls:L3}{ws us:LO}{o:Ord}{old:Option LO}{ts:List Int}
def plN(ls:L3)(ws:LO):List Nat:=(Kb ls ws).map (plc (lng ls))
def plJ(ls:L3)(ws:LO):List Int:=(plN ls ws).map λx:Nat=>(x:Int)+1
theorem Am(g:Good cs ls){i:Nat}{rs:List (List Int)}{x:Option Int}(hi:ls[i]?=some rs)(hw:∀t,x=some t->t∈rs.flatten):WG [Ko cs ls,.int i,Kf x]=some (.int (((plc (lng ls) (rg rs x):Nat):Int)+1)):=by
 refine Zp (Z:=[pb (Ko cs ls),pb (.int i),pb (Kf x)]) rfl ?_;unfold SW;apply KU
 cases x with
 |none=>
  refine KM (b:=true) (Z1:=[pb (Ko cs ls),pb (.int i),some (.pub .none)]) (KP (k:=isNon) (x:=PyData.none) (UU rfl)) (λ_=>?_) λz=>by cases z
  exact KI (Kk (Ky (UZ (UU rfl) U7) rfl (Lc g)) U6 ZH) (Xe rfl)
 |some t=>
  refine KM (b:=false) (Z1:=[pb (Ko cs ls),pb (.int i),pb (.int t)]) (KP (k:=isNon) (x:=int t) (UU rfl)) (λz=>by cases z) λ_=>K4 (KQ ?_)
  refine KI (Ky (UZ (UU rfl) (UZ (UU rfl) (UZ (UU rfl) U7))) rfl (Lb hi t)) ?_;have h0:=OC (hw t rfl)
  have e:((plc (lng ls) (rg rs (some t)):Nat):Int)+1=((Zg t rs:Nat):Int):=by
   show ((plc (lng ls) ((Zg t rs:Nat):Int):Nat):Int)+1=_;unfold plc;rw[Qs (by omega)]
   omega
  rw[e]
theorem DY{f g:M D}{Z Z1 Z2:UR}(h1:f Z=.ok (.bool true) Z1)(h2:g Z1=.ok (.bool false) Z2):WU f g Z=.ok (.bool false) Z2:=by unfold WU;exact Zq h1 h2
theorem DX{f g:M D}{Z Z1:UR}(h1:f Z=.ok (.bool false) Z1):WU f g Z=.ok (.bool false) Z1:=by unfold WU;exact Zq h1 rfl
theorem B3{xs ys:List Int}:oNe (.list (xs.map int)) (.list (ys.map int))=some (!decide (xs=ys)):=by
 have lay:∀zs:List Int,PyData.canLay0 (.list (zs.map int))=true:=λzs=>Oy λx hx=>by obtain ⟨t,_,rfl⟩:=Qr.mp hx;rfl
 have dep:∀zs:List Int,UP (.list (zs.map int))<=1:=λzs=>N9 (n:=0) (Nk λx hx=>by obtain ⟨t,_,rfl⟩:=List.mem_map.mp hx;simp[UP])
 unfold oNe;rw[Ql ⟨lay xs,lay ys,by have:=dep xs;omega⟩]
 congr 2
 simp only[UQ,MK]
theorem NM(dl:Deal cs ls ws):(plN ls ws).length=ls.length:=by unfold plN;rw[Qb];exact Oq dl.len
theorem Lk:∀x∈plN ls ws,x<=lng ls:=λx hx=>by
 obtain ⟨r,hr,rfl⟩:=Qr.mp hx
 have:=Sa r hr
 unfold plc
 split <;> omega
theorem LW(g:Good cs ls)(dl:Deal cs ls ws)(b c:D):Zs (gT 2 (gNC (gN 5) (gNC (gN 6) (gN0)))) (U1 true) (U5 3 WG (UY (UN 0) (UY (UN 5) (UY (UN 6) (UT))))) (YY 0 (ws.map Kf)) [pb (Ko cs ls),pb b,pb c,none,none,none,none] []=some ([]++(plJ ls ws).map int):=by
 have l7:=g.l7;have hl:=dl.len;refine XM (λZ=>∃x y,Z=[pb (Ko cs ls),pb b,pb c,none,none,x,y]) _ _ _ _ (by unfold plJ;rw[Qb,Qb,NM dl,YQ,Qb];exact hl.symm) ?_ ⟨none,none,rfl⟩ (by rw[YQ,Qb,QC];omega)
 rintro i d e hd he Z ⟨x,y,rfl⟩;obtain ⟨z,hz,rfl⟩:=Xo hd;rw[Qd] at hz
 cases hw:ws[i]? with
 |none=>rw[hw] at hz;cases hz
 |some u=>
 rw[hw] at hz;cases hz;have hil:i<ws.length:=(Qg.mp hw).1;have hrs:ls[i]?=some ls[i]:=Qe (by omega)
 have hv:(plJ ls ws)[i]?=some (((plc (lng ls) (rg ls[i] u):Nat):Int)+1):=by
  unfold plJ plN Kb;rw[Qd,Qd,Uh,hrs,hw]
  rfl
 rw[Qd,hv] at he;cases he;rw[QU];exact ⟨_,KK rfl (Kc (U4 (Qa rfl) rfl) (Kc (U4 (Qa rfl) rfl) KL)),rfl,Ky (UZ (UU rfl) (UZ (UU rfl) (UZ (UU rfl) U7))) rfl (Am (x:=u) g hrs λt e=>dl.wish i t _ (by rw[hw,e]) hrs),_,_,rfl⟩
theorem B2(g:Good cs ls)(d1:Deal cs ls us)(d2:Deal cs ls ws)(ga:YL cs.length ls.length old ts)(h:Zb (K3 (ZI ls o old ts) 0 ls us)<=Zb (K3 (ZI ls o old ts) 0 ls ws)):Vm [Ko cs ls,Kl us,Kl ws]=some (.bool false):=by
 have l7:=g.l7;refine Zp (Z:=[pb (Ko cs ls),pb (Kl us),pb (Kl ws),none,none]) rfl ?_;unfold SV;have hc1:=LW g d1 (Kl us) (Kl ws);have hc2:=LW g d2 (Kl us) (Kl ws);refine Kx (Yt (Ys (XQ (UZ (UU rfl) U7) XN) hc1) (Qa rfl) rfl) ?_;refine Kx (Yt (Ys (XQ (UZ (UU rfl) U7) XN) hc2) (Qa rfl) rfl) ?_;rw[Jj,Jj];have hne:=B3 (xs:=plJ ls us) (ys:=plJ ls ws)
 by_cases he:plJ ls us=plJ ls ws
 ·rw[Q2 he] at hne
  exact KI (DX (KP (Nc (Yh rfl rfl) rfl hne))) rfl
 ·rw[QG he] at hne
  have hl1:=NM d1;have hl2:=NM d2
  have hall:(List.zipWith (λa b:Int=>decide (a<=b)) (plJ ls us) (plJ ls ws)).all id=false:=by
   refine Bool.eq_false_iff.mpr λha=>?_;have hb:=GQ (o:=o) g d1 d2 ga;rw[QG (by omega)] at hb
   have hgap:=jO (L:=lng ls) o (p:=plN ls us) (q:=plN ls ws) (by rw[hl1,hl2]) (λi x y e1 e2=>by
    have hm:decide (((x:Int)+1)<=((y:Int)+1))∈List.zipWith (λa b:Int=>decide (a<=b)) (plJ ls us) (plJ ls ws):=Qp (i:=i) (by
     unfold plJ;rw[Uh,Qd,Qd,e1,e2]
     rfl)
    have:=Qa (Jn.mp ha _ hm)
    omega) (λe=>he (by unfold plJ;rw[e])) Lk Lk
   unfold plN at hgap;rw[MS Sa,MS Sa] at hgap;unfold X3 at hb;rw[Qs (by omega),Q2 hgap] at hb
   cases hb
  have hz:ZV ((plJ ls us).map int) ((plJ ls ws).map int)=((plJ ls us).zip (plJ ls ws)).map λp=>.tuple [.int p.1,.int p.2]:=by
   unfold ZV;rw[List.zip_map,QP]
   rfl
  have hc:Zs (gT 2 (gNC (gN 5) (gNC (gN 6) (gN0)))) (U1 true) (Ka UL (Zz (oIB λi j=>decide (i<=j)) 5 (UN 6))) (ZV ((plJ ls us).map int) ((plJ ls ws).map int)) (KJ [pb (Ko cs ls),pb (Kl us),pb (Kl ws),pb (.list ((plJ ls us).map int)),pb (.list ((plJ ls ws).map int))]++UJ 2 none) []=some ([]++(List.zipWith (λa b:Int=>decide (a<=b)) (plJ ls us) (plJ ls ws)).map UL):=by
   rw[hz];refine XM (λZ=>∃x y,Z=[pb (Ko cs ls),pb (Kl us),pb (Kl ws),pb (.list ((plJ ls us).map int)),pb (.list ((plJ ls ws).map int)),x,y]) _ _ _ _ (by rw[Qb,Qb,J0,Jy]) ?_ ⟨none,none,rfl⟩ (by rw[QC,Qb,Jy];unfold plJ;rw[Qb,Qb,hl1,hl2];omega)
   rintro i d e hd hee Z ⟨x,y,rfl⟩;rw[Qd] at hd hee
   cases hp:((plJ ls us).zip (plJ ls ws))[i]? with
   |none=>rw[hp] at hd;cases hd
   |some q=>
   rw[hp] at hd;cases hd
   have hp2:(List.zipWith (λa b:Int=>decide (a<=b)) (plJ ls us) (plJ ls ws))[i]?=some (decide (q.1<=q.2)):=by
    have:=List.getElem?_zip_eq_some.mp hp
    rw[Uh,this.1,this.2]
   rw[hp2] at hee;cases hee;exact ⟨_,KK rfl (Kc (U4 (Qa rfl) rfl) (Kc (U4 (Qa rfl) rfl) KL)),rfl,KP (ZO rfl (UU rfl) rfl),_,_,rfl⟩
  refine KI (DY (KP (Nc (Yh rfl rfl) rfl hne)) (Yg (UZ (KP (Ys (P9 (UZ (UU rfl) (UZ (Yh rfl rfl) U7)) rfl) hc)) U7) (show YU [.list ([]++_)]=some (.bool false) by rw[Jj,HM,hall]))) rfl
end
theorem B0:∀ns:List Int,ns.length<=63->Te [.list (ns.map int)]=some (.bool true):=by
 intro ns hns;refine Zp (Z:=[pb (.list (ns.map int)),none,none,none,none,none,none,none]) rfl ?_;unfold SU;obtain ⟨r,hr,cs,ls,rfl,g⟩:=j9 (ns:=ns) (by omega) 1
 have l7:=g.l7;have c6:=g.c6;obtain ⟨v0,hv0⟩:=La ns 0 (by omega)
 obtain ⟨r,ha,o,old,ts,rfl,ga⟩:=Ah g v0 5;refine Kx (K0 (Ky (UZ (UU rfl) (UZ U6 (UZ U6 (UZ U6 (UZ U6 U7))))) rfl hr) (Qa rfl) rfl) ?_;refine Kx (K0 (Ky (UZ (UU rfl) (UZ (Ky (UZ (UU rfl) (UZ U6 U7)) rfl hv0) (UZ U6 U7))) rfl ha) (Qa rfl) rfl) ?_;obtain ⟨ws,hbd,hdq,hst⟩:=xi (o:=o) g ga;have dl:=Ao hdq;have hix:∀d:D,oIx (.tuple [Kl ws,d]) (.int 0)=some (Kl ws):=λd=>ZD (j:=0) rfl;refine Kx (K0 (Kk (Ky (UZ (UU rfl) (UZ (UU rfl) U7)) rfl hbd) U6 (hix _)) (Qa rfl) rfl) ?_
 have most:∀us,Deal cs ls us->Zb (K3 (ZI ls o old ts) 0 ls us)<=Zb (K3 (ZI ls o old ts) 0 ls ws):=λus du=>by
  have hu:YC cs (KS 0 ls) ls.length us:=⟨du.len,λi t h=>by
   have hil:i<ls.length:=by have:=(Qg.mp h).1;have:=du.len;omega
   have hrs:ls[i]?=some ls[i]:=Qe hil
   have:=Gi (k:=0) hrs (du.wish i t _ h hrs)
   rwa[QU] at this,du.cop⟩
  have:=F3 (Ot g) hdq hst hu
  rw[NV ls us ls 0 (λj rs h=>by rw[QU,Qh,h];rfl) du.len,NV ls ws ls 0 (λj rs h=>by rw[QU,Qh,h];rfl) dl.len] at this
  exact this
 let S0:Option Sl:=some (.pub (.list (ns.map int)))
 let S1:Option Sl:=some (.pub (Ko cs ls))
 let S2:Option Sl:=some (.pub (KT o old ts))
 let S3:Option Sl:=some (.pub (Kl ws))
 have lst:∀us:LO,Wa [Kl us]=some (us.map Kf):=λus=>rfl;apply KU;refine KM (b:=false) (Z1:=[S0,S1,S2,S3,none,none,none,none]) (XV (XY (Ky (UZ (UU rfl) (UZ (UU rfl) U7)) rfl (xg g dl)))) (λz=>by cases z) λ_=>K4 (KQ ?_)
 obtain ⟨pd,hbt⟩:=kK (o:=o) g ga hdq hst
 have hix2:oIx (.tuple [.str "best", pd]) (.int 0)=some (.str "best"):=ZD (j:=0) rfl
 have hbe:oNe (.str "best") (.str "best")=some false:=by decide +kernel
 apply KU;refine KM (b:=false) (Z1:=[S0,S1,S2,S3,none,none,none,none]) (Kk (Kk (Ky (UZ (UU rfl) (UZ (UU rfl) (UZ (KP (SB rfl (lst ws))) U7))) rfl hbt) U6 hix2) U6 hbe) (λz=>by cases z) λ_=>K4 (KQ ?_)
 refine Kx (K0 (Ky (UZ (UU rfl) (UZ (UU rfl) (UZ (UU rfl) U7))) rfl (Lz g dl ga)) (Qa rfl) rfl) ?_;refine Kx (K0 (UU rfl) (Qa rfl) rfl) ?_
 let K:LO->List Int:=λus=>XA o (KB (lng ls) (Kb ls us))++[(Zi old us:Int)]++ts.map (Zy ls us)
 let S4:Option Sl:=some (.pub (.list ((K ws).map int)))
 have rest:∀(us:LO)(y6 y7:Option Sl)(Q:Out->Prop),Deal cs ls us->Q (.nx [S0,S1,S2,S3,S4,pb (Kl us),y6,y7])->Ho (U2 (sIf (mOr (U3 Wy (U5 3 WH (UY (UN 1) (UY (UN 2) (UY (UN 5) (UT))))) (UN 4)) (YF (U5 3 Vm (UY (UN 1) (UY (UN 5) (UY (UN 3) (UT)))))))
   (U9 (U1 (.bool false)))
   (sNx))
   (sIf (U3 OE (U5 4 Vs (UY (UN 1) (UY (UN 2) (UY (Ka UK (Wi 5)) (UY (Ka UK (Wi 3)) (UT)))))) (U1 (.bool false)))
   (U9 (U1 (.bool false)))
   (sNx))) [S0,S1,S2,S3,S4,pb (Kl us),y6,y7] Q:=λus y6 y7 Q du hQ=>by
  have hle:=most us du;have hbw:=GQ (o:=o) g du dl ga;rw[QG (by omega)] at hbw
  have hkm:=Ac (o:=o) g du dl ga;rw[hbw] at hkm;have hbi:=qw (o:=o) g du.len dl.len ga;rw[hbw] at hbi;have hgt:Wy (.list ((K us).map int)) (.list ((K ws).map int))=some false:=by rw[Bx];exact congrArg some hkm
  apply KU;refine KM (b:=false) (Z1:=[S0,S1,S2,S3,S4,pb (Kl us),y6,y7]) (Wr (Kk (Ky (UZ (UU rfl) (UZ (UU rfl) (UZ (UU rfl) U7))) rfl (Lz g du ga)) (UU rfl) hgt) (XY (Ky (UZ (UU rfl) (UZ (UU rfl) (UZ (UU rfl) U7))) rfl (B2 (o:=o) g du dl ga hle)))) (λz=>by cases z) λ_=>K4 (KQ ?_)
  exact KM (b:=false) (Z1:=[S0,S1,S2,S3,S4,pb (Kl us),y6,y7]) (Kk (Ky (UZ (UU rfl) (UZ (UU rfl) (UZ (KP (SB rfl (lst us))) (UZ (KP (SB rfl (lst ws))) U7)))) rfl hbi) U6 rfl) (λz=>by cases z) λ_=>K4 hQ
 apply KU;apply Yj (λ_ Z=>∃(us:LO)(y6 y7:Option Sl),Z=[S0,S1,S2,S3,S4,pb (Kl us),y6,y7]/\Deal cs ls us)
 case h1=>exact XQ (UZ (VJ (UU rfl) (Xy U6) (Xy U6) VR) U7) XN
 case h0=>exact ⟨ws,_,_,rfl,dl⟩
 case hst=>
  rintro i d Z hi ⟨us,y6,y7,rfl,du⟩;obtain ⟨x,hx,rfl⟩:=Xo hi
  obtain ⟨c,rfl⟩:∃c:Int,x=.int c:=by
   have h:=Qp hx;unfold DL.cutD at h;obtain ⟨c,_,rfl⟩:=Qr.mp (List.mem_of_mem_drop (List.mem_of_mem_take h));exact ⟨c,rfl⟩
  refine ⟨_,KK rfl (Kc (U4 (Qa rfl) rfl) (Kc (U4 (Qa rfl) rfl) KL)),?_⟩;rw[QU];unfold Hj;obtain ⟨r1,hd1,w1,rfl,dw1⟩:=jt g c (31+(i:Int));obtain ⟨r2,hd2,w2,rfl,dw2⟩:=GY g dl c (31+(i:Int));obtain ⟨r3,hd3,w3,rfl,dw3⟩:=GY g du c (31+(i:Int));apply KU;apply KM
  case h1=>exact Kk (Kk (UU rfl) U6 (Wp (by decide))) U6 Wf
  case h2=>
   intro _;exact ZW (K0 (Ky (UZ (UU rfl) (UZ (UU rfl) (UZ (Kk U6 (UU rfl) ZH) U7))) rfl hd1) (Qa rfl) rfl) (KQ (rest w1 _ _ _ dw1 (ZB ⟨w1,_,_,rfl,dw1⟩)))
  case h3=>
   intro _;apply KM
   case h1=>exact Kk (Kk (UU rfl) U6 (Wp (by decide))) U6 Wf
   case h2=>
    intro _;exact ZW (K0 (Ky (UZ (UU rfl) (UZ (UU rfl) (UZ (UU rfl) (UZ (Kk U6 (UU rfl) ZH) U7)))) rfl hd2) (Qa rfl) rfl) (KQ (rest w2 _ _ _ dw2 (ZB ⟨w2,_,_,rfl,dw2⟩)))
   case h3=>
    intro _;exact ZW (K0 (Ky (UZ (UU rfl) (UZ (UU rfl) (UZ (UU rfl) (UZ (Kk U6 (UU rfl) ZH) U7)))) rfl hd3) (Qa rfl) rfl) (KQ (rest w3 _ _ _ dw3 (ZB ⟨w3,_,_,rfl,dw3⟩)))
 case hend=>
  rintro Z ⟨us,y6,y7,rfl,_⟩;exact KQ (KI U6 rfl)
end W
open PySem PySem.W PyProof.Rows
set_option maxRecDepth 100000 in
set_option maxHeartbeats 0 in
theorem PySem.Challenge.cw_wishdeal_k45_whole_none_is_better_holds : PySem.Challenge.rw_wishdeal_k45_whole_none_is_better.Holds := by
 w_on;o_law
 refine holds_open (q:=W.q0) (loose:=[]) (Xt:=λs=>xlAt W.q0 [] s&&recOk [] s) (XP:=XL W.q0 []) (Yf:=Hook.obs .none) (Ya:=Hook.val .none) (YP:=Hook.says .none) (N:=5540) (d:=W.d_ci) (kwd:=[])
  W.Dt (Hook.of .none) (Hook.keeps .none) (λs e=>xl_of s (Bool.and_eq_true_iff.mp e).1) XL.keeps (by rfl) (by rfl) (by rfl)
  (λs e=>recFacts_of (Bool.and_eq_true_iff.mp e).2) (by rfl) (by assumption) (by decide +kernel) ⟨rfl,rfl,rfl,rfl,rfl,by decide +kernel⟩ ?hw (W.walk W.B0)
 case hw=>w_witness2


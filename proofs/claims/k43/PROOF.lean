import PyProof.Rows.All
import Wide.All
import OpenK.AllK
import Wide.FinOn
import Lean
import PyProof.EqAt
import PyProof.EqKinds
import PyProof.TupleCall
import PyProof.EnumMake
import PyProof.ZipIter
import PyProof.ExcClass2
import PyProof.ExcInit
import PyProof.ExcBaseAll.ValueError
import PyProof.FString2
import PyProof.ExcArgsOwn
import PyProof.InstStoreFacts
import ObjForm.Fk.InstStore
import ObjForm.Fk.InstLoad
import PyProof.StationsW
import PyProof.RulesAs
import PyProof.NsDelKeeps
import OpenK.KMore
import PyProof.IsiBase
import OpenK.KNot
import PyProof.Rows.RuleN_isinstance
import PyProof.NeData
import PyProof.P3In
import PyProof.StrWalks
import PyProof.ConsumeWalk
import PyProof.SliceStr2
import PyProof.MeetsStr
import KE.KItem
import KE.KUnpack
import KE.KRevSl
import PyProof.Rows.SetFrom
import PyProof.SetRoads
import PyProof.Rows.Range3
import PyProof.CallType
import PyProof.Rows.CallKwBuiltin
import PyProof.Rows.MinMaxN
import PyProof.SumWalkG
import PyProof.Rows.SeqMore
import PyProof.Rows.SortWalk
import PyProof.Rows.SumAny
import PyProof.Rows.SeqMore2
import KE.KSortTup
import PyProof.Rows.SortShellK
import PyProof.ReprRoads
import PyProof.ReprBulk
import PyProof.CallFns
import PyProof.NeKinds
import PyProof.Rows.StrJoinMade
import PyProof.StrCalls
import KE.KIntText
import PyProof.ReprDict
import PyProof.DictIter
import PyProof.Rows.DictUnroll
import PySem.Challenge.RW_wishdeal_k43_bettered
set_option compiler.extract_closed false
set_option Elab.async false
set_option linter.all false
set_option maxRecDepth 100000
set_option maxHeartbeats 4000000
theorem Qa:type_of% @of_decide_eq_true:=@of_decide_eq_true
theorem Qp:type_of% @if_pos:=@if_pos
theorem Qz:type_of% @if_neg:=@if_neg
theorem QI:type_of% @decide_eq_false:=@decide_eq_false
theorem Q5:type_of% @decide_eq_true:=@decide_eq_true
theorem Jb:type_of% @of_decide_eq_false:=@of_decide_eq_false
theorem Ud:type_of% @if_false:=@if_false
open List renaming length_map→Qb,getElem?_map→Qe,getElem?_eq_getElem→Qf,getElem?_eq_some_iff→Qg,mem_cons_of_mem→Qj,mem_cons_self→Qk,length_append→Ql,mem_of_getElem?→Qn,getD_eq_getElem?_getD→Qo,getElem?_set_ne→Qq,mem_map→Qr,length_range→Qu,getElem?_append_left→Qv,getElem?_append_right→Qw,map_cons→Qx,getElem?_replicate→QA,length_nil→QB,map_append→QC,getElem?_set_self→QD,length_replicate→QE,size_toArray→QH,mem_append_right→QJ,flatten_cons→QL,length_take→QN,length_cons→QO,mem_cons→QQ,mem_append→QR,length_set→QS,getElem?_range→QU,mem_singleton→QW,map_map→QY,replicate_succ→Q0,lookup_cons→Q2,all_eq_true→Q3,length_singleton→Q6,append_nil→Q7,mem_range→Q8,mem_append_left→Q9,append_assoc→Ja,getElem?_eq_none→Jc,drop_eq_getElem_cons→Jd,length_filterMap_le→Jf,mem_filterMap→Jj,nil_append→Jk,length_drop→Jl,filterMap_cons→Jn,pairwise_cons→Jw,getElem?_cons_succ→Jy,take_length→Jz,getElem_mem→JE,take_succ→JJ,take_append_drop→JK,mem_or_eq_of_mem_set→JL,getLast?_eq_getElem?→JM,nodup_cons→JN,foldl_cons→JO,length_zip→JP,count_cons→JS,getElem_map→JY,length_pos_of_mem→J0,zip_cons_cons→J4,take_zero→J7,mem_of_mem_take→J8,mem_iff_getElem→J9,mem_flatten→Ub,filter_eq_self→Uc,sum_cons→Ue,map_nil→Uh,drop_zero→Ui,map_take→Uk,range→Ux,replicate→Uy,Pairwise→UI
open PySem renaming wpAny_bind→Qd,wpAny_pure→Qh,wpAny_mono→QG,wpAny_loadPart_at→QK,wpAny_truthy_bool→Q4,wpAny_isSubtype_exc→Jp,wpAny_standAt→Jr,wpAny_passesOwn→Js,wpAny_typeNameOfWhole_keyiter→Jt,wpAny_call_entry→JB,wpAny_holding→JC,wpAny_pyIter_list→JG,mem_of_lookup→JW,Value→Um,Shared→Uo,Program→Up,Addr→Uq,FuncData→Ur,Expr→Us,sizeLine→Ut,wpAny→Uu,starEach→Uv,compareOp→Uw,assignEach→UK,foldedSetIterable→UL
open PySem.Heap renaming lt_size→Qi,get?_push_of_some→Qm,get?_push_size→Qy
open Nat renaming le_refl→Qs,lt_of_lt_of_le→QF,le_trans→QM,ne_of_lt→QP,zero_add→QX,le_of_not_lt→Je,lt_irrefl→Jo,lt_succ_iff_lt_or_eq→Ju,zero_le→JH,not_lt_zero→JR,ne_of_gt→JT,le_succ→JZ,lt_succ_of_lt→J6,lt_succ_self→Ua,min_eq_left→Ug,succ_pos→Uj
open Int renaming toNat_natCast→Qt,le_refl→QZ,emod_lt_of_pos→JI,le_antisymm→JQ,le_trans→JU,zero_add→JV,emod_nonneg→J5,not_lt→Ul
open Option.some renaming inj→QT
open Array renaming getD_eq_getD_getElem?→Jg,length_toList→Jh,getElem?_eq_getElem→Jq
open Bool renaming false_ne_true→Ji,and_eq_true→Jm,false_eq_true→JF
open PySem.F renaming slot_dict_keyiterator_next→Jv
open PySem.W.Fast renaming te1987589406359920131→Jx
open PyProof.Rows renaming callWith_type1→JA
open PySem.W renaming kia_one→JD
open Option renaming getD_some→JX
open Array.Perm renaming refl→Uf
open PySem.PyData renaming list→Uz,bool→UA,str→UB,strOk→UC,canLayAll0→UD,depth→UE,eqv→UF,shown→UJ
open PySem.PassesOwn renaming never→UG
open PySem.Str renaming ofString→UH
abbrev L3:=List (List (List Int))
abbrev LO:=List (Option Int)
abbrev LP:=List (Int×Int)
open PySem.W (Frag)
open PySem.PyData (int)
open List (replicate)
namespace DL
open PySem PySem.Spec PySem.W PyProof.Rows
def topRunT(tb:String->Option Builtin)(p:Up)(w:World)(m:Nat)(ann:Option Um):Nat->SharedT->Thread->Option SharedT
 |0,_,_=>none
 |n+1,s,t=>match through t,stepOk m ann t with
  |true,_=>some s
  |false,false=>none
  |false,true=>match stepT (denote tb) p w s t with
   |some x=>topRunT tb p w m ann n x.1 x.2
   |none=>none
theorem GL{tb:String->Option Builtin}{p:Up}{w:World}{m:Nat}{ann:Option Um}:∀{n:Nat}{s s':SharedT}{t:Thread},topRunT tb p w m ann n s t=some s'->topRun tb p w m ann n s.abs t=some s'.abs
 |0,_,_,_,h=>by cases h
 |n+1,s,s',t,h=>by
  rw[topRunT]at h;rw[topRun];cases ht:through t with
  |true=>rw[ht]at h;cases h;rfl
  |false=>
   rw[ht]at h;cases hk:stepOk m ann t with
   |false=>rw[hk]at h;cases h
   |true=>
    rw[hk]at h;dsimp only at h⊢;cases hs:stepT (denote tb) p w s t with
    |none=>rw[hs]at h;cases h
    |some x=>rw[hs]at h;rw[stepT_spec hs];exact GL h
def btOf(l:List Obj):BT:=(l.foldl (λ(x:BT×Nat) o=>(x.1.ins x.2 o,x.2+1)) (.nil,0)).1
noncomputable def T0 (w:World) (os:OsState):SharedT:=⟨btOf (boot_heap w.params).objs.toList,11,(boot_heap w.params).life,#[],boot_drawn,boot_toks,os⟩
theorem At(w:World)(os:OsState):(T0 w os).abs=⟨boot_heap w.params,#[],boot_drawn,boot_toks,os⟩:=by kernel_rfl
theorem ji(w:World):((boot_heap w.params).isNs mainGlobals&&(#[]:Array GenState).size==0,(boot_heap w.params).objs.size,(boot_heap w.params).nsMap mainGlobals "__annotations__")=(true,11,some (.ref 6)):=by kernel_rfl
noncomputable abbrev Eh (p q:Up) (loose:List Str) (Xt:Uo->Bool) (w:World) (t:SharedT):=
 ((staticsOk (importedModules p.main.body) (boot_heap w.params) t.abs.heap&&namesBound p t.abs.heap&&gensDone t.abs&&laidKept (boot_heap w.params) t.abs.heap),openSeen q loose (importedModules p.main.body) Xt true t.abs)
theorem CP{p q:Up}{loose:List Str}{Xt:Uo->Bool}{N M:Nat}(e:opening p=plainProg p.main.scope.names)(hN:Nat.ble 600 N=true)(f:∀s,fenceModules? p s=some s)(le:Nat.ble M N=true)
  (run:∀(w:World)(os:OsState),(topRunT treeTable p w 11 (some (.ref 6)) M (T0 w os) (topStub p)).map (Eh p q loose Xt w)=some (true,openGood q loose)):LeftO p q loose Xt (Hook.obs .none) (Hook.val .none) N:=λw=>by
 obtain⟨⟨h,gs,d,k,os⟩,e0,e'⟩:=Option.map_eq_some_iff.mp (boot_open e hN f w);have e':(h,gs,d,k)=(boot_heap w.params,#[],boot_drawn,boot_toks):=e';obtain⟨rfl,rfl,rfl,rfl⟩:h=boot_heap w.params/\gs=#[]/\d=boot_drawn/\k=boot_toks:=by simpa only[Prod.mk.injEq]using e'
 obtain⟨t,ht,l⟩:=Option.map_eq_some_iff.mp (run w os);have hr:=GL ht;rw[At]at hr;have r:=topRun_mono (N-M) _ _ _ _ hr;rw[show M+(N-M)=N by have:=Nat.le_of_ble_eq_true le;omega]at r;obtain⟨l1,l2⟩:=Prod.mk.inj l;have z:=ji w;obtain⟨z1,z2,z3⟩:_/\_/\_:=by simpa only[Prod.mk.injEq]using z
 have tf:topFrom treeTable p w N ⟨boot_heap w.params,#[],boot_drawn,boot_toks,os⟩=some t.abs:=by
  unfold topFrom;dsimp only;rw[z1,z2,z3,r]
  show(match staticsOk (importedModules p.main.body) (boot_heap w.params) t.abs.heap&&namesBound p t.abs.heap&&gensDone t.abs&&laidKept (boot_heap w.params) t.abs.heap with|true=>some t.abs|false=>none)=_
  rw[l1]
 unfold openEnds;rw[e0]
 show(topFrom treeTable p w N _).map _=_
 rw[tf];exact congrArg some (Prod.ext l2 rfl)
end DL
open PySem in
lay_quick PySem.Challenge.pw_wishdeal_k43_bettered DL.topRunT PySem.W.openGood PySem.W.staticsOk PySem.W.namesBound PySem.W.laidKept PySem.W.xlAt
namespace W
open PySem PySem.Spec DL
noncomputable abbrev p0:Up:=PySem.Challenge.pw_wishdeal_k43_bettered
noncomputable def XA:List Nat:=[1,2,4,5,6,8,9,10,11,12,13,14,15,16,17,18,19,21,23,24,25,27,28,29,31,32,33,34,35,37,38,39,40,41,42,43,44,45,46,47,48,50,52,53,54,55,56,57,58,59,60,61,62,63,64,65,66,67,68,69,70,71,72,73,74,75,76]
noncomputable def ixL:List Nat:=[1,2,12,13,14,15,16,17,18,19,21,24,25,27,28,29,31,32,33,34,35,37,38,39,40,41,42,43,44,45,46,47,48,50,52,53,54,55,56,57,58,59,60,61,62,63,64,65,66,67,68,69,70,71,72,73,74,75,76]
noncomputable abbrev q0:Up:=PySem.W.view p0 XA
theorem Eg:∀(w:World)(os:OsState),(PySem.W.Fast.tw10708255244068714335 PySem.W.Fast.tw14364793385576792824 PySem.W.Fast.tw14596890240909809656 w 11 (some (.ref 6)) 2756 (T0 w os) (PySem.W.topStub PySem.W.Fast.tw14596890240909809656)).map (λt=>((PySem.W.Fast.tw13471830651028734593 (PySem.W.Fast.tw5923862056798008813 (Program.main PySem.W.Fast.tw14596890240909809656).body) (PySem.W.boot_heap w.params) t.abs.heap&&PySem.W.Fast.tw4683006035507612052 PySem.W.Fast.tw14596890240909809656 t.abs.heap&&PySem.W.gensDone t.abs&&PySem.W.Fast.tw16898566250750103049 (PySem.W.boot_heap w.params) t.abs.heap),PySem.W.Fast.tw4187177175401517315 (PySem.W.view PySem.W.Fast.tw14596890240909809656 XA) [] (PySem.W.Fast.tw5923862056798008813 (Program.main PySem.W.Fast.tw14596890240909809656).body) (λs=>PySem.W.Fast.tw4757257242682413121 (PySem.W.view PySem.W.Fast.tw14596890240909809656 XA) [] s&&PySem.W.recOk [] s) true t.abs))=some (true,PySem.W.Fast.tw3486900944545009338 (PySem.W.view PySem.W.Fast.tw14596890240909809656 XA) []):=by intro w os;kernel_rfl
theorem Ef:PySem.W.LeftO p0 q0 [] (λs=>PySem.W.xlAt q0 [] s&&PySem.W.recOk [] s) (PySem.W.Hook.obs .none) (PySem.W.Hook.val .none) 5412:=by
 refine CP (M:=2756) (by kernel_rfl) rfl (λs=>by kernel_rfl) rfl λw os=>?_
 have h:=Eg w os;rw[←PySem.W.Fast.te10708255244068714335,←PySem.W.Fast.te14364793385576792824,←PySem.W.Fast.te4187177175401517315,←PySem.W.Fast.te5923862056798008813,←PySem.W.Fast.te13471830651028734593,←PySem.W.Fast.te4683006035507612052,←PySem.W.Fast.te16898566250750103049,←PySem.W.Fast.te4757257242682413121,←PySem.W.Fast.te3486900944545009338,←PySem.W.Fast.te14596890240909809656]at h;exact h
end W
namespace L2
open PySem PySem.Spec PyProof.Rows
abbrev Key:=Sum Int Str
noncomputable def SO:Key->Um->Bool
 |.inl k,v=>Value.isInt k v
 |.inr x,v=>Value.isStrOf x v
noncomputable def keyH(w:World):Key->Int
 |.inl k=>hashInt k
 |.inr x=>hashStr w x
theorem Wy:∀{k:Key}{v:Um},SO k v=true->(∃i t,k=Sum.inl i/\v=Value.int i t)∨(∃x t,k=Sum.inr x/\v=Value.str x t)
 |.inl i,v,h=>by obtain⟨t,e⟩:=Value.isInt_shape (k:=i) (v:=v) h;exact .inl ⟨i,t,rfl,e⟩
 |.inr x,v,h=>by obtain⟨t,e⟩:=Value.isStrOf_shape (x:=x) (v:=v) h;exact .inr ⟨x,t,rfl,e⟩
theorem jh(i:Int)(t:Tok):SO (.inl i) (.int i t)=true:=by simp[SO,Value.isInt]
theorem jg(x:Str)(t:Tok):SO (.inr x) (.str x t)=true:=by simp[SO,Value.isStrOf]
theorem E2(a b:Int):decide ((Sum.inl a:Key)=Sum.inl b)=(a==b):=by
 by_cases e:a=b
 ·subst e;simp
 ·have h:¬(Sum.inl a:Key)=Sum.inl b:=λq=>e (Sum.inl.inj q)
  rw[QI h];exact(beq_eq_false_iff_ne.mpr e).symm
theorem E1(a b:Str):decide ((Sum.inr a:Key)=Sum.inr b)=decide (a=b):=by
 by_cases e:a=b
 ·subst e;simp
 ·have h:¬(Sum.inr a:Key)=Sum.inr b:=λq=>e (Sum.inr.inj q)
  rw[QI h,QI e]
theorem EZ(a:Int)(b:Str):decide ((Sum.inl a:Key)=Sum.inr b)=false:=QI (λq=>nomatch q)
theorem EY(a:Str)(b:Int):decide ((Sum.inr a:Key)=Sum.inl b)=false:=QI (λq=>nomatch q)
noncomputable def YZ(prog:Up)(w:World):PySem.KeyKind prog w Key where
 is:=SO
 hash:=keyH w
 inj:=λv a b ha hb=>by
  rcases Wy ha with ⟨i,t,rfl,rfl⟩|⟨x,t,rfl,rfl⟩
  ·rcases Wy hb with ⟨j,u,rfl,e⟩|⟨y,u,rfl,e⟩
   ·injection e with e1 _;rw[e1]
   ·exact nomatch e
  ·rcases Wy hb with ⟨j,u,rfl,e⟩|⟨y,u,rfl,e⟩
   ·exact nomatch e
   ·injection e with e1 _;rw[e1]
 byValue:=λk v h=>by rcases Wy h with ⟨i,t,rfl,rfl⟩|⟨x,t,rfl,rfl⟩<;>rfl
 pyHash:=λhv h=>by
  rcases Wy hv with ⟨i,t,rfl,rfl⟩|⟨x,t,rfl,rfl⟩
  ·exact wpAny_pyHash_int h
  ·exact wpAny_pyHash_str h
 eqBool:=λhu hv h=>by
  rcases Wy hu with ⟨i,t,rfl,rfl⟩|⟨x,t,rfl,rfl⟩
  ·rcases Wy hv with ⟨j,u,rfl,rfl⟩|⟨y,u,rfl,rfl⟩
   ·rw[E2]at h;exact wpAny_eqBool_int h
   ·rw[EZ]at h;exact SeqAt.EqAt.int_str i t y u _ _ _ _ h
  ·rcases Wy hv with ⟨j,u,rfl,rfl⟩|⟨y,u,rfl,rfl⟩
   ·rw[EY]at h;exact SeqAt.EqAt.str_int x t j u _ _ _ _ h
   ·rw[E1]at h;exact wpAny_eqBool_str h
 «strs»:=λk x t v h=>by
  rcases Wy h with ⟨i,u,rfl,e⟩|⟨y,u,rfl,e⟩
  ·exact nomatch e
  ·injection e with e1 _
   subst e1;cases v<;>rfl
theorem jS(prog:Up)(w:World)(i:Int)(t:Tok):(YZ prog w).is (.inl i) (.int i t)=true:=jh i t
theorem jR(prog:Up)(w:World)(x:Str)(t:Tok):(YZ prog w).is (.inr x) (.str x t)=true:=jg x t
inductive V where
 |non|bl (b:Bool)|int (i:Int)|str (x:Str)|byt (b:Array UInt8)|flt (b:UInt64)|ref (a:Uq)|ty (n:String)
 deriving DecidableEq
noncomputable def RelV:V->Um->Prop
 |.non,u=>u=Value.none
 |.bl b,u=>u=Value.bool b
 |.int i,u=>∃t,u=Value.int i t
 |.str x,u=>∃t,u=Value.str x t
 |.byt b,u=>∃t,u=Value.bytes b t
 |.flt b,u=>∃t,u=Value.float b t
 |.ref a,u=>u=Value.ref a
 |.ty n,u=>u=Value.type n
noncomputable abbrev Vals:List V->List Um->Prop:=Paired RelV
theorem Vals.length{xs:List V}{us:List Um}(r:Vals xs us):xs.length=us.length:=Paired.length r
theorem Vals.get:∀{xs:List V}{us:List Um}{i:Nat}{x:V},Vals xs us->xs[i]?=some x->∃u,us[i]?=some u/\RelV x u
 |_,_,_,_,.nil,e=>by simp at e
 |_,_,0,_,.cons r _,e=>by simp at e;subst e;exact⟨_,rfl,r⟩
 |_,_,i+1,x,.cons _ t,e=>by obtain⟨u,h1,h2⟩:=Vals.get (i:=i) (x:=x) t (by simpa using e);exact⟨u,by simpa using h1,h2⟩
theorem Vals.set{x:V}{u:Um}(r:RelV x u):∀{xs:List V}{us:List Um}(i:Nat),Vals xs us->Vals (xs.set i x) (us.set i u)
 |_,_,_,.nil=>.nil
 |_,_,0,.cons _ t=>.cons r t
 |_,_,i+1,.cons q t=>.cons q (Vals.set r i t)
theorem Vals.append:∀{xs ys:List V}{us ws:List Um},Vals xs us->Vals ys ws->Vals (xs++ys) (us++ws)
 |_,_,_,_,.nil,s=>s
 |_,_,_,_,.cons r t,s=>.cons r (Vals.append t s)
theorem Vals.take:∀{xs:List V}{us:List Um}(n:Nat),Vals xs us->Vals (xs.take n) (us.take n)
 |_,_,0,_=>.nil
 |_,_,_+1,.nil=>.nil
 |_,_,n+1,.cons r t=>.cons r (Vals.take n t)
theorem Vals.drop:∀{xs:List V}{us:List Um}(n:Nat),Vals xs us->Vals (xs.drop n) (us.drop n)
 |_,_,0,r=>r
 |_,_,_+1,.nil=>.nil
 |_,_,n+1,.cons _ t=>Vals.drop n t
noncomputable def RelO:Option V->Option Um->Prop
 |some v,some u=>RelV v u
 |none,none=>True
 |_,_=>False
noncomputable def KV{κ:Type}:List (κ×V)->List (κ×Um)->Prop:=Paired λ(p:κ×V) (q:κ×Um)=>p.1=q.1/\RelV p.2 q.2
noncomputable def kV:Key->V
 |.inl i=>.int i
 |.inr x=>.str x
inductive HO where
  |lst (xs:List V)
  |tup (xs:List V)
  |dK (kvs:List (Key×V))|dT (kvs:List (List Key×V))
  |set (S:Int->Bool) (n:Nat)
  |ins (C dx:Uq) (fs:List (Str×V))
  |own (x:Uq)
  |xd (fs:List (Str×V))
  |met (f x:Uq)
  |rng (lo hi:Int)
  |frz (o:Obj) (u:HO)
  |tbl (ps:Array Um)
  |ext (φ:Heap->Prop)
abbrev Hp:=Uq->Option HO
noncomputable def upd(H:Hp)(a:Uq)(o:HO):Hp:=λb=>if b=a then some o else H b
theorem Zf{H:Hp}{a:Uq}{o:HO}:upd H a o a=some o:=by unfold upd;rw[Qp rfl]
theorem KN{H:Hp}{a b:Uq}{o:HO}(h:b≠a):upd H a o b=H b:=by unfold upd;rw[Qz h]
theorem NM{H:Hp}{a b:Uq}{o u:HO}(h:H a=some o)(h':H b=some u)(d:o≠u):a≠b:=by intro e;subst e;rw[h]at h';exact d (QT h')
theorem Yi{H:Hp}{a b:Uq}{o:HO}(h:H a=some o)(h':H b=none):a≠b:=by intro e;subst e;rw[h]at h';cases h'
section
variable(P:Up)(w:World)
noncomputable def Zo(H:Hp)(h:Heap)(a:Uq):HO->Prop
 |.lst xs=>xs.length<=Ut/\∃(its:List Um)(n:Nat),Vals xs its/\h.get? a=some {cls:=.type "list", data:=.seq its.toArray n}
 |.tup xs=>xs.length<=Ut/\∃its:List Um,Vals xs its/\IsTup h a its.toArray
 |.dK kvs=>kvs.length<=Ut/\(a==sysModules)=false/\∃vs,KV kvs vs/\h.DictOf (YZ P w) a vs
 |.dT kvs=>kvs.length<=Ut/\(a==sysModules)=false/\∃xs:List (List Key×Uq×Um),
   Paired (λ(p:List Key×V) (q:List Key×Uq×Um)=>p.1=q.1/\H q.2.1=some (.tup (p.1.map kV))/\RelV p.2 q.2.2) kvs xs /\
   ∃o es ep,h.get? a=some o/\o.ExactDict/\o.data=.dict es ep/\es.toList=xs.map (entryOfKey (tupleKind (YZ P w)))/\(xs.map (·.1)).Nodup
 |.set S n=>h.SetOf (intKind P w) a S n
 |.ins C dx fs=>H dx=some (.own a)/\fs.length<=1000/\dx≠a/\h.get? a=some (PySem.W.instObj C dx) /\
   ∃mA,h.Ns1 dx mA/\(∀f,RelO (fs.lookup f) (mA f))/\PySem.Within mA (fs.map (·.1))
 |.own _=>∃o,h.get? a=some o
 |.xd fs=>∃mA,h.Ns1 a mA/\∀f,RelO (fs.lookup f) (mA f)
 |.rng lo hi=>∃t u v,h.get? a=some {cls:=.type "range", data:=.fields #[.int lo t,.int hi u,.int 1 v]}
 |.frz o u=>h.get? a=some o/\Zo H h a u
 |.tbl ps=>h.get? a=some {cls:=.none,data:=.fields ps}
 |.met f x=>h.get? a=some (PySem.W.methodObj (.ref f) (.ref x))
 |.ext φ=>φ h/\(∃o,h.get? a=some o)/\∀h1 h2:Heap,φ h1->(∀o,h1.get? a=some o->h2.get? a=some o)->φ h2
def HOk(H:Hp)(h:Heap):Prop:=∀a o,H a=some o->Zo P w H h a o
end
section
variable{P:Up}{w:World}{H H':Hp}{h h':Heap}{a:Uq}{o:HO}
theorem Zo.lt(x:Zo P w H h a o):a<h.objs.size:=by
 cases o with
 |lst xs=>obtain⟨_,_,_,_,e⟩:=x;exact Qi e
 |tup xs=>obtain⟨_,_,_,p⟩:=x;exact p.lt
 |dK kvs=>obtain⟨_,_,_,_,o,_,_,e,_⟩:=x;exact Qi e
 |dT kvs=>obtain⟨_,_,_,_,o,_,_,e,_⟩:=x;exact Qi e
 |set S n=>obtain⟨o,_,_,_,e,_⟩:=x;exact Qi e
 |ins C dx fs=>obtain⟨_,_,_,e,_⟩:=x;exact Qi e
 |own y=>obtain⟨_,e⟩:=x;exact Qi e
 |xd fs=>obtain⟨_,⟨_,_,_,e,_⟩,_⟩:=x;exact Qi e
 |rng lo hi=>obtain⟨_,_,_,e⟩:=x;exact Qi e
 |frz ob u=>obtain⟨e,_⟩:=x;exact Qi e
 |tbl ps=>exact Qi (show h.get? a=some _ from x)
 |met f y=>exact Qi (show h.get? a=some _ from x)
 |ext φ=>obtain⟨_,⟨_,e⟩,_⟩:=x;exact Qi e
theorem Paired.mapP{α β:Type}{F G:α->β->Prop}:∀{l₁:List α}{l₂:List β},Paired F l₁ l₂->(∀a b,F a b->G a b)->Paired G l₁ l₂
 |_,_,.nil,_=>.nil
 |_,_,.cons r t,f=>.cons (f _ _ r) (Paired.mapP t f)
theorem Zo.stay(x:Zo P w H h a o)(k:∀b u,(b=a∨H b=some (.own a))->h.get? b=some u->h'.get? b=some u)
  (ho:∀b,H b=some (.own a)->H' b=some (.own a)) (ht:∀b xs,H b=some (.tup xs)->H' b=some (.tup xs)):Zo P w H' h' a o:=by
 induction o with
 |lst xs=>obtain⟨z,its,n,r,e⟩:=x;exact⟨z,its,n,r,k _ _ (.inl rfl) e⟩
 |tup xs=>obtain⟨z,its,r,ob,e,c⟩:=x;exact⟨z,its,r,ob,k _ _ (.inl rfl) e,c⟩
 |dK kvs=>obtain⟨z,y,vs,r,ob,es,ep,e,c⟩:=x;exact⟨z,y,vs,r,ob,es,ep,k _ _ (.inl rfl) e,c⟩
 |dT kvs=>obtain⟨z,y,xs,r,ob,es,ep,e,c⟩:=x;exact⟨z,y,xs,Paired.mapP r λp q z=>⟨z.1,ht _ _ z.2.1,z.2.2⟩,ob,es,ep,k _ _ (.inl rfl) e,c⟩
 |set S n=>obtain⟨ob,es,ep,t,e,c⟩:=x;exact⟨ob,es,ep,t,k _ _ (.inl rfl) e,c⟩
 |ins C dx fs=>obtain⟨d,z,ne,e,mA,⟨od,es,ep,e2,c⟩,r⟩:=x;exact⟨ho _ d,z,ne,k _ _ (.inl rfl) e,mA,⟨od,es,ep,k _ _ (.inr d) e2,c⟩,r⟩
 |own y=>obtain⟨ob,e⟩:=x;exact⟨ob,k _ _ (.inl rfl) e⟩
 |xd fs=>obtain⟨mA,⟨od,es,ep,e,c⟩,r⟩:=x;exact⟨mA,⟨od,es,ep,k _ _ (.inl rfl) e,c⟩,r⟩
 |rng lo hi=>obtain⟨t,u,v,e⟩:=x;exact⟨t,u,v,k _ _ (.inl rfl) e⟩
 |frz ob u ih=>obtain⟨e,q⟩:=x;exact⟨k _ _ (.inl rfl) e,ih q⟩
 |tbl ps=>have e:h.get? a=some {cls:=.none,data:=.fields ps}:=x;show h'.get? a=some {cls:=.none,data:=.fields ps};exact k a _ (.inl rfl) e
 |met f y=>have e:h.get? a=some (PySem.W.methodObj (.ref f) (.ref y)):=x;show h'.get? a=some (PySem.W.methodObj (.ref f) (.ref y));exact k a _ (.inl rfl) e
 |ext φ=>obtain⟨p,⟨o,e⟩,st⟩:=x;exact⟨st _ _ p λo q=>k _ _ (.inl rfl) q,⟨o,k _ _ (.inl rfl) e⟩,st⟩
theorem HOk.lt(x:HOk P w H h)(e:H a=some o):a<h.objs.size:=(x a o e).lt
theorem HOk.fresh(x:HOk P w H h)(e:h.objs.size<=a):H a=none:=by
 cases q:H a with
 |none=>rfl
 |some u=>exact absurd (QF (x.lt q) e) (Jo _)
theorem HOk.kept(x:HOk P w H h)(k:∀b u,h.get? b=some u->h'.get? b=some u):HOk P w H h':=λa o e=>
 (x a o e).stay (λb u _ q=>k b u q) (λ_ q=>q) λ_ _ q=>q
theorem HOk.laid(x:HOk P w H h)(k:∀b u,h.get? b=some u->h'.get? b=some u)(hp:h.objs.size<=a)(new:Zo P w (upd H a o) h' a o):HOk P w (upd H a o) h':=λb u e=>by
 have hn:=x.fresh hp;by_cases hb:b=a
 ·subst hb;rw[Zf]at e;cases e;exact new
 ·rw[KN hb]at e;exact(x b u e).stay (λc v _ q=>k c v q) (λc q=>by rw[KN (Yi q hn)];exact q) λc xs q=>by rw[KN (Yi q hn)];exact q
end
def Rd(H:Hp)(a:Uq)(u:HO):Prop:=H a=some u ∨ ∃o,H a=some (.frz o u)
theorem Rd.ok{P:Up}{w:World}{H:Hp}{h:Heap}{a:Uq}{u:HO}(r:Rd H a u)(x:HOk P w H h):Zo P w H h a u:=by
 rcases r with r|⟨o,r⟩
 ·exact x a u r
 ·obtain⟨_,q⟩:=x a _ r;exact q
noncomputable def Mut:Option HO->Prop
 |some (.lst _)=>True
 |some (.dK _)=>True
 |some (.dT _)=>True
 |some (.set _ _)=>True
 |some (.ins _ _ _)=>True
 |some (.ext _)=>True
 |_=>False
section
variable{P:Up}{w:World}{H:Hp}{h h':Heap}{x e:Uq}{o':HO}
theorem HOk.write(ok:HOk P w H h)(mu:Mut (H x))(he:e=x∨H e=some (.own x))(k:∀b u,b≠e->h.get? b=some u->h'.get? b=some u)(heo:∃u,h'.get? e=some u)
  (new:Zo P w (upd H x o') h' x o'):HOk P w (upd H x o') h':=λb u q=>by
 have nown:∀c y,H c=some (.own y)->c≠x:=λc y r z=>by subst z;rw[r]at mu;exact mu
 have ntup:∀c xs,H c=some (.tup xs)->c≠x:=λc xs r z=>by subst z;rw[r]at mu;exact mu
 by_cases hb:b=x
 ·subst hb;rw[Zf]at q;cases q;exact new
 ·rw[KN hb]at q;by_cases hbe:b=e
  ·have q':H b=some (.own x):=by
    rcases he with z|z
    ·exact absurd (hbe.trans z) hb
    ·rw[hbe];exact z
   rw[q]at q';cases q';obtain⟨v,hv⟩:=heo;exact⟨v,by rw[hbe];exact hv⟩
  ·refine(ok b u q).stay (λc v hc r=>k c v ?_ r) (λc r=>by rw[KN (nown c b r)];exact r) λc xs r=>by rw[KN (ntup c xs r)];exact r
   rcases hc with rfl|hc
   ·exact hbe
   ·rintro rfl;rcases he with z|z
    ·exact nown c b hc z
    ·rw[hc]at z;cases z;exact hb rfl
end
structure Un(fs ex:List Uq)(H H':Hp)(h h':Heap):Prop where
 keep:∀b o,h.get? b=some o->H b=none->b∉fs->b∉ex->h'.get? b=some o
 slot:∀b o,h.get? b=some o->H b=none->b∈fs->b∉ex->∃sl,h'.get? b=some {o with slots:=sl}
 free:∀b o,h.get? b=some o->H b=none->b∉ex->H' b=none
 there:∀b o,h.get? b=some o->b∉ex->∃o',h'.get? b=some o'
 tups:∀b xs,H b=some (.tup xs)->H' b=some (.tup xs)
 frzs:∀b o u,H b=some (.frz o u)->H' b=some (.frz o u)
 tbls:∀b ps,H b=some (.tbl ps)->∃more,H' b=some (.tbl (ps++more))
section
variable{fs fs' ex ex':List Uq}{H H1 H2:Hp}{h h1 h2 h':Heap}{a x e:Uq}{o:HO}
theorem Un.any(u:Un fs ex H H1 h h1){b:Uq}{ob:Obj}(q:h.get? b=some ob)(n:H b=none)(hx:b∉ex):∃sl,h1.get? b=some {ob with slots:=sl}:=by
 by_cases hb:b∈fs
 ·exact u.slot b ob q n hb hx
 ·exact⟨ob.slots,u.keep b ob q n hb hx⟩
theorem Un.kept(k:∀b u,h.get? b=some u->h'.get? b=some u):Un fs ex H H h h':=
 ⟨λb ob q _ _ _=>k b ob q,λb ob q _ _ _=>⟨ob.slots,k b ob q⟩,λ_ _ _ n _=>n,λb ob q _=>⟨ob,k b ob q⟩,λ_ _ q=>q,λ_ _ _ q=>q,λ_ ps q=>⟨#[],by rw[q];simp⟩⟩
theorem Un.refl:Un fs ex H H h h:=Un.kept λ_ _ q=>q
theorem Un.laid(k:∀b u,h.get? b=some u->h'.get? b=some u)(hp:h.objs.size<=a)(hn:H a=none):Un fs ex H (upd H a o) h h' where
 keep:=λb u q _ _ _=>k b u q
 slot:=λb u q _ _ _=>⟨u.slots,k b u q⟩
 free:=λb u q n _=>by rw[KN (QP (QF (Qi q) hp))];exact n
 there:=λb u q _=>⟨u,k b u q⟩
 tups:=λb xs q=>by rw[KN (Yi q hn)];exact q
 frzs:=λb u xs q=>by rw[KN (Yi q hn)];exact q
 tbls:=λb ps q=>⟨#[],by rw[KN (Yi q hn),q];simp⟩
theorem Un.write(mu:Mut (H x))(he:e=x∨H e=some (.own x))(k:∀b u,b≠e->h.get? b=some u->h'.get? b=some u)(heo:∃u,h'.get? e=some u):Un fs ex H (upd H x o) h h':=by
 have hx:∀b,H b=none->b≠x:=λb n z=>by subst z;rw[n]at mu;exact mu
 have hb:∀b,H b=none->b≠e:=λb n z=>by
  subst z;rcases he with r|r
  ·exact hx b n r
  ·rw[n]at r;cases r
 have hm:∀b u,H b=some u->¬Mut (some u)->b≠x:=λb u q nm z=>by subst z;rw[q]at mu;exact nm mu
 refine⟨λb u q n _ _=>k b u (hb b n) q,λb u q n _ _=>⟨u.slots,k b u (hb b n) q⟩,λb u q n _=>by rw[KN (hx b n)];exact n,λb u q _=>?_,
  λb xs q=>by rw[KN (hm b _ q λz=>z)];exact q,λb u xs q=>by rw[KN (hm b _ q λz=>z)];exact q,λb ps q=>⟨#[],by rw[KN (hm b _ q λz=>z),q];simp⟩⟩
 by_cases hbe:b=e
 ·subst hbe;exact heo
 ·exact⟨u,k b u hbe q⟩
end
noncomputable def trk(h:Heap)(H:Hp):List Uq:=(Ux h.objs.size).filter λa=>(H a).isSome
noncomputable def YC(h:Heap)(H:Hp):Heap:=PySem.W.hideAll h (trk h H)
theorem jf(h:Heap)(H:Hp):(YC h H).objs.size=h.objs.size:=PySem.W.hideAll_size _ _
theorem As{h:Heap}{H:Hp}{b:Uq}{o:Obj}(e:h.get? b=some o)(n:H b=none):(YC h H).get? b=some o:=
 PySem.W.hideAll_get _ e λhm=>by have q:(H b).isSome=true:=(List.mem_filter.mp hm).2;rw[n]at q;simp at q
theorem CO{h:Heap}{H:Hp}{b:Uq}{o:Obj}(e:(YC h H).get? b=some o):h.get? b=some o/\H b=none:=by
 have e':h.get? b=some o:=PySem.W.of_hideAll (trk h H) e;refine⟨e',?_⟩;cases q:H b with
 |none=>rfl
 |some x=>have hm:b∈trk h H:=List.mem_filter.mpr ⟨List.mem_range.mpr (Heap.lt_size e'),by simp[q]⟩;have z:(YC h H).get? b=none:=PySem.W.hideAll_none (trk h H) hm;rw[z]at e;cases e
structure Mod(K:Frag)(mg:Str->Option Um)(base:Heap):Prop where
 kin:K.In base
 glob:base.Ns mainGlobals mg
 blt:∃mb,base.Ns builtinsNs mb/\∀x:Str,x ≠ "__name__" -> mb x=bootBuiltins x
 nolimit:base.NoLimit
structure Cx where
 prog:Up
 w:World
 K:Frag
 mg:Str->Option Um
 base:Heap
 A:Around
 N:List Str
 s₀:Uo
 H₀:Hp
 env:Env
 outer:List Env
 stack:List Env
 ex:List Uq
 fn:Str->Bool
 calm:Bool
 pn:List (Uq×Obj)
 xe:Um->Uo->Prop
noncomputable def frs(l:List Env):List Uq:=l.filterMap (·.frame)
noncomputable abbrev Cx.fs(X:Cx):List Uq:=frs X.outer
def Vis(sc:Scope)(x:Str):Prop:=sc.names.lookup x=some .local∨sc.names.lookup x=some .cell∨sc.names.lookup x=some .free
def Loc(sc:Scope)(x:Str):Prop:=sc.names.lookup x=some .local∨sc.names.lookup x=some .cell
def Look(env:Env)(h:Heap)(m:Str->Option Um)(x:Str)(u:Um):Prop:=
 (env.kindOf x=some .local/\m x=some u)∨((env.kindOf x=some .cell∨env.kindOf x=some .free)/\∃c,env.cells.lookup x=some c/\h.IsCell c (some u))
structure Cx.Ok(X:Cx):Prop where
 mod:Mod X.K X.mg X.base
 kind:X.env.scope.kind=.function
 glob:X.env.globals=mainGlobals
 blt:X.env.builtins=builtinsNs
 above:X.s₀.heap.objs.size<=X.env.locals
 inj:∀x y c,X.env.cells.lookup x=some c->X.env.cells.lookup y=some c->x=y
 has:∀x,(X.env.kindOf x=some .cell∨X.env.kindOf x=some .free)->∃c,X.env.cells.lookup x=some c
 cab:∀x c,X.fn x=true->X.env.cells.lookup x=some c->X.s₀.heap.objs.size<=c
 hd:X.calm=true->X.A.handled=none
 frames:X.A.frames=some X.stack
 stk:X.stack=X.outer∨(X.stack=X.env::X.outer/\X.env.frame=some X.env.locals)
 exf:∀b∈X.ex,b≠X.env.locals/\∀x c,X.env.cells.lookup x=some c->c≠b
 bs:∀b o,X.base.get? b=some o->X.s₀.heap.get? b=some o/\X.H₀ b=none
 bsz:X.base.objs.size<=X.s₀.heap.objs.size
 noex:∀b o,X.base.get? b=some o->b∉X.ex
 exfs:∀b∈X.ex,b∉X.fs
 funs:X.s₀.heap.FunFrames X.base X.outer
 frf:∀b∈X.fs,X.H₀ b=none
structure Inv(X:Cx)(pins:List (Uq×Obj))(σ:List (Option V))(H:Hp)(s:Uo):Prop where
 ok:X.Ok
 os:s.os=X.s₀.os
 bare:AllBare s.gens
 base:Un X.fs X.ex X.H₀ H X.s₀.heap s.heap
 loc:∃m,s.heap.Ns X.env.locals m/\∀(i:Nat)(x:Str)(v:V),X.N[i]?=some x->σ[i]?=some (some v)->Vis X.env.scope x->∃u,RelV v u/\Look X.env s.heap m x u
 cell:∀x c,X.env.cells.lookup x=some c->∃v,s.heap.IsCell c v
 free:H X.env.locals=none
 freeC:∀x c,X.env.cells.lookup x=some c->H c=none
 pin:∀p∈X.pn++pins,s.heap.get? p.1=some p.2/\H p.1=none/\p.1≠X.env.locals/\p.1∉X.fs/\∀v,p.2.data≠.cell v
 hok:HOk X.prog X.w H s.heap
 len:σ.length=X.N.length
section
variable{X:Cx}{pins:List (Uq×Obj)}{σ:List (Option V)}{H H':Hp}{s:Uo}{h':Heap}
theorem Cx.Ok.nofr(ok:X.Ok){b:Uq}{o:Obj}(e:X.base.get? b=some o):b∉X.fs:=λhb=>by have:=(ok.funs.mem hb).1;rw[e]at this;cases this
theorem Inv.bs(I:Inv X pins σ H s):∀b o,X.base.get? b=some o->s.heap.get? b=some o/\H b=none:=λb o e=>
 ⟨I.base.keep b o (I.ok.bs b o e).1 (I.ok.bs b o e).2 (I.ok.nofr e) (I.ok.noex b o e),I.base.free b o (I.ok.bs b o e).1 (I.ok.bs b o e).2 (I.ok.noex b o e)⟩
theorem Inv.bk(I:Inv X pins σ H s):∀b o,X.base.get? b=some o->s.heap.get? b=some o:=λb o e=>(I.bs b o e).1
theorem Inv.mod(I:Inv X pins σ H s):Mod X.K X.mg X.base:=I.ok.mod
theorem Inv.kIn(I:Inv X pins σ H s):X.K.In s.heap:=I.ok.mod.kin.keeps I.bk
theorem Inv.lt(I:Inv X pins σ H s):X.env.locals<s.heap.objs.size:=let ⟨_,hn,_⟩:=I.loc;hn.lt
theorem Inv.sz(I:Inv X pins σ H s):X.s₀.heap.objs.size<=s.heap.objs.size:=QM I.ok.above (Nat.le_of_lt I.lt)
theorem Inv.nofs(I:Inv X pins σ H s){a:Uq}(h:s.heap.objs.size<=a):a∉X.fs:=λhb=>by obtain⟨_,o,ho,_⟩:=I.ok.funs.mem hb;exact absurd (QF (Qi ho) (QM I.sz h)) (Jo _)
theorem Inv.cne(I:Inv X pins σ H s):∀x c,X.env.cells.lookup x=some c->c≠X.env.locals:=λx c e z=>by obtain⟨v,o,ho,hd⟩:=I.cell x c e;obtain⟨m,⟨o',es,ep,ho',hd',_⟩,_⟩:=I.loc;rw[z,ho']at ho;cases ho;rw[hd']at hd;cases hd
theorem Inv.funs(I:Inv X pins σ H s):s.heap.FunFrames X.base X.outer:=by
 have all:∀(l:List Env),(∀b∈frs l,b∈X.fs)->X.s₀.heap.FunFrames X.base l->s.heap.FunFrames X.base l:=by
  intro l;induction l with
  |nil=>intro _ _;trivial
  |cons env r ih=>
   intro hs hl;obtain⟨hk,⟨L,o,hf,hn,ho,hd⟩,hr⟩:=hl;have hL:L∈X.fs:=hs L (by unfold frs;rw[Jn,hf];exact Qk);obtain⟨sl,e⟩:=I.base.slot L o ho (I.ok.frf L hL) hL λz=>I.ok.exfs L z hL
   exact⟨hk,⟨L,_,hf,hn,e,hd⟩,ih (λb hb=>hs b (by unfold frs;rw[Jn,hf];exact Qj _ hb)) hr⟩
 exact all X.outer (λ_ hb=>hb) I.ok.funs
theorem Inv.stack(I:Inv X pins σ H s):s.heap.FunFrames X.base X.stack:=by
 rcases I.ok.stk with e|⟨e,hf⟩
 ·rw[e];exact I.funs
 ·rw[e];obtain⟨m,hn,_⟩:=I.loc;refine .cons (by rw[I.ok.kind];decide) hf hn ?_ I.funs;exact Heap.get?_none_of_le (QM I.ok.bsz I.ok.above)
theorem Inv.stkSub(I:Inv X pins σ H s):∀b∈frs X.stack,b∈X.env.locals::X.fs:=λb hb=>by
 rcases I.ok.stk with e|⟨e,hf⟩
 ·rw[e]at hb;exact Qj _ hb
 ·rw[e]at hb;unfold frs at hb;rw[Jn,hf]at hb;exact hb
theorem Inv.stkFree(I:Inv X pins σ H s):∀b∈frs X.stack,H b=none:=λb hb=>by
 rcases QQ.mp (I.stkSub b hb)with e|hb
 ·rw[e];exact I.free
 ·obtain⟨_,o,ho,_⟩:=I.ok.funs.mem hb;exact I.base.free b o ho (I.ok.frf b hb) λz=>I.ok.exfs b z hb
theorem Inv.step{g':Array GenState}{t':Nat}{d':Drawn}{ch:List Uq}(I:Inv X pins σ H s)
  (hch:∀b∈ch,(b∈X.ex∨X.s₀.heap.objs.size<=b)/\b≠X.env.locals/\(∀x c,X.env.cells.lookup x=some c->c≠b)/\∀p∈X.pn++pins,p.1≠b)
  (keep:∀b o,b≠X.env.locals->b∉X.fs->b∉ch->s.heap.get? b=some o->H b=none->h'.get? b=some o)
  (slot:∀b o,b≠X.env.locals->b∈X.fs->b∉ch->s.heap.get? b=some o->H b=none->∃sl,h'.get? b=some {o with slots:=sl}) (free:∀b o,b∉ch->s.heap.get? b=some o->H b=none->H' b=none)
  (there:∀b o,b∉ch->s.heap.get? b=some o->∃o',h'.get? b=some o')
  (tups:∀b xs,H b=some (.tup xs)->H' b=some (.tup xs)) (frzs:∀b o u,H b=some (.frz o u)->H' b=some (.frz o u)) (tbls:∀b ps,H b=some (.tbl ps)->∃more,H' b=some (.tbl (ps++more)))
  (ns:∀m,s.heap.Ns X.env.locals m->h'.Ns X.env.locals m) (hok:HOk X.prog X.w H' h') (hg:AllBare g') :
  Inv X pins σ H' {s with heap:=h',gens:=g',drawn:=d',toks:=t'}:=by
 have neL:∀b o,X.s₀.heap.get? b=some o->b≠X.env.locals:=λb o e=>QP (QF (Qi e) I.ok.above)
 have neC:∀b o,X.s₀.heap.get? b=some o->b∉X.ex->b∉ch:=λb o e hx hb=>by
  rcases(hch b hb).1 with z|z
  ·exact hx z
  ·exact absurd (QF (Qi e) z) (Jo _)
 have cellK:∀x c,X.env.cells.lookup x=some c->∀v,s.heap.IsCell c v->h'.IsCell c v:=λx c e v ⟨o,ho,hd⟩=>by
  have nch:c∉ch:=λz=>(hch c z).2.2.1 x c e rfl
  by_cases hc:c∈X.fs
  ·obtain⟨sl,q⟩:=slot c o (I.cne x c e) hc nch ho (I.freeC x c e);exact⟨_,q,hd⟩
  ·exact⟨o,keep c o (I.cne x c e) hc nch ho (I.freeC x c e),hd⟩
 refine⟨I.ok,I.os,hg,⟨λb o e n hb hx=>?_,λb o e n hb hx=>?_,λb o e n hx=>?_,λb o e hx=>?_,λb xs e=>tups b xs (I.base.tups b xs e),λb o xs e=>frzs b o xs (I.base.frzs b o xs e),λb ps e=>?_⟩,?_,λx c e=>?_,?_,λx c e=>?_,λp hp=>?_,hok,I.len⟩
 ·exact keep b o (neL b o e) hb (neC b o e hx) (I.base.keep b o e n hb hx) (I.base.free b o e n hx)
 ·obtain⟨sl,e1⟩:=I.base.slot b o e n hb hx;obtain⟨sl',e2⟩:=slot b _ (neL b o e) hb (neC b o e hx) e1 (I.base.free b o e n hx);exact⟨sl',e2⟩
 ·obtain⟨o',e1⟩:=I.base.there b o e hx;exact free b o' (neC b o e hx) e1 (I.base.free b o e n hx)
 ·obtain⟨o',e1⟩:=I.base.there b o e hx;exact there b o' (neC b o e hx) e1
 ·obtain⟨m1,e1⟩:=I.base.tbls b ps e;obtain⟨m2,e2⟩:=tbls b _ e1;exact⟨m1++m2,by rw[e2,Array.append_assoc]⟩
 ·obtain⟨m,hn,hl⟩:=I.loc;refine⟨m,ns m hn,λi x v e1 e2 e3=>?_⟩;obtain⟨u,r,l⟩:=hl i x v e1 e2 e3;refine⟨u,r,?_⟩;rcases l with l|⟨k,c,e,z⟩
  ·exact .inl l
  ·exact .inr ⟨k,c,e,cellK x c e _ z⟩
 ·obtain⟨v,z⟩:=I.cell x c e;exact⟨v,cellK x c e v z⟩
 ·obtain⟨m,⟨o,_,_,ho,_⟩,_⟩:=I.loc;exact free _ o (λz=>(hch _ z).2.1 rfl) ho I.free
 ·obtain⟨v,o,ho,hd⟩:=I.cell x c e;exact free c o (λz=>(hch c z).2.2.1 x c e rfl) ho (I.freeC x c e)
 ·obtain⟨e,n,ne,nf,d⟩:=I.pin p hp;have nch:p.1∉ch:=λz=>(hch p.1 z).2.2.2 p hp rfl
  exact⟨keep p.1 p.2 ne nf nch e n,free p.1 p.2 nch e n,ne,nf,d⟩
theorem Inv.un{t':Nat}(I:Inv X pins σ H s)(u:Un X.fs [] H H' s.heap h')(hok:HOk X.prog X.w H' h'):Inv X pins σ H' {s with heap:=h',toks:=t'}:=by obtain⟨m,⟨o,es,ep,ho,r⟩,_⟩:=id I.loc;obtain⟨sl,hL⟩:=u.any ho I.free (by simp);exact I.step (g':=s.gens) (d':=s.drawn) (ch:=[]) (λ_ z=>nomatch z) (λb o _ hb _ e n=>u.keep b o e n hb (by simp)) (λb o _ hb _ e n=>u.slot b o e n hb (by simp)) (λb o _ e n=>u.free b o e n (by simp)) (λb o _ e=>u.there b o e (by simp)) u.tups u.frzs u.tbls (λm' hm=>by obtain⟨o',es',ep',ho',r'⟩:=hm;rw[ho]at ho';cases ho';exact⟨_,es',ep',hL,r'⟩) hok I.bare
theorem Inv.call{g':Array GenState}{t':Nat}{d':Drawn}{ch:List Uq}(I:Inv X pins σ H s)(u:Un (frs X.stack) ch H H' s.heap h')(hok:HOk X.prog X.w H' h')(hg:AllBare g')
  (hch:∀b∈ch,(b∈X.ex∨X.s₀.heap.objs.size<=b)/\b≠X.env.locals/\(∀x c,X.env.cells.lookup x=some c->c≠b)/\∀p∈X.pn++pins,p.1≠b) :
  Inv X pins σ H' {s with heap:=h',gens:=g',drawn:=d',toks:=t'}:=by
 obtain⟨m,⟨o,es,ep,ho,r⟩,_⟩:=id I.loc;obtain⟨sl,hL⟩:=u.any ho I.free λz=>(hch _ z).2.1 rfl
 exact I.step (ch:=ch) hch (λb o hL hb hc e n=>u.keep b o e n (λz=>(QQ.mp (I.stkSub b z)).elim hL hb) hc) (λb o _ _ hc e n=>u.any e n hc) (λb o hc e n=>u.free b o e n hc) (λb o hc e=>u.there b o e hc) u.tups u.frzs u.tbls (λm' hm=>by obtain⟨o',es',ep',ho',r'⟩:=hm;rw[ho]at ho';cases ho';exact⟨_,es',ep',hL,r'⟩) hok hg
theorem Inv.turned{t':Nat}{it:Uq}(I:Inv X pins σ H s)(k:∀b o,b≠it->s.heap.get? b=some o->h'.get? b=some o)(hn:H it=none)(hL:it≠X.env.locals)
  (h1:it∈X.ex∨X.s₀.heap.objs.size<=it) (h2:∀x c,X.env.cells.lookup x=some c->c≠it) (h3:∀p∈X.pn++pins,p.1≠it):Inv X pins σ H {s with heap:=h',toks:=t'}:=by
 have nit:∀b u,H b=some u->b≠it:=λb u e z=>by rw[z,hn]at e;cases e
 refine I.step (g':=s.gens) (d':=s.drawn) (ch:=[it]) (λb hb=>?_) (λb o _ _ hc e _=>k b o (λz=>hc (by simp[z])) e) (λb o _ _ hc e _=>⟨o.slots,k b o (λz=>hc (by simp[z])) e⟩) (λ_ _ _ _ n=>n)
  (λb o hc e=>⟨o,k b o (λz=>hc (by simp[z])) e⟩) (λ_ _ e=>e) (λ_ _ _ e=>e) (λb ps e=>⟨#[],by rw[e];simp⟩) (λm hm=>?_) (λb u e=>?_) I.bare
 ·have e:b=it:=by simpa using hb
  subst e;exact⟨h1,hL,h2,h3⟩
 ·obtain⟨o,es,ep,ho,r⟩:=hm;exact⟨o,es,ep,k _ o (Ne.symm hL) ho,r⟩
 ·refine(I.hok b u e).stay (λc v hc q=>k c v ?_ q) (λ_ q=>q) λ_ _ q=>q
  rcases hc with z|z
  ·rw[z];exact nit b u e
  ·exact nit c _ z
theorem Inv.tok(I:Inv X pins σ H s)(t:Nat):Inv X pins σ H {s with toks:=t}:=I.un (h':=s.heap) (t':=t) Un.refl I.hok
theorem Inv.kept{t':Nat}(I:Inv X pins σ H s)(k:∀b u,s.heap.get? b=some u->h'.get? b=some u):Inv X pins σ H {s with heap:=h',toks:=t'}:=I.un (Un.kept k) (I.hok.kept k)
theorem Inv.laid{a:Uq}{o:HO}{t':Nat}(I:Inv X pins σ H s)(k:∀b u,s.heap.get? b=some u->h'.get? b=some u)(hp:s.heap.objs.size<=a)(new:Zo X.prog X.w (upd H a o) h' a o) :
  Inv X pins σ (upd H a o) {s with heap:=h',toks:=t'}:=I.un (Un.laid k hp (I.hok.fresh hp)) (I.hok.laid k hp new)
theorem Inv.write{x e:Uq}{o:HO}{t':Nat}(I:Inv X pins σ H s)(mu:Mut (H x))(he:e=x∨H e=some (.own x))(k:∀b u,b≠e->s.heap.get? b=some u->h'.get? b=some u)(heo:∃u,h'.get? e=some u)
  (new:Zo X.prog X.w (upd H x o) h' x o):Inv X pins σ (upd H x o) {s with heap:=h',toks:=t'}:=I.un (Un.write mu he k heo) (I.hok.write mu he k heo new)
theorem Inv.pins_of{pins':List (Uq×Obj)}(I:Inv X pins σ H s)(h:∀p∈pins',s.heap.get? p.1=some p.2/\H p.1=none/\p.1≠X.env.locals/\p.1∉X.fs/\∀v,p.2.data≠.cell v):Inv X pins' σ H s:=
 ⟨I.ok,I.os,I.bare,I.base,I.loc,I.cell,I.free,I.freeC,λp hp=>(QR.mp hp).elim (λz=>I.pin p (Q9 _ z)) (h p),I.hok,I.len⟩
theorem LG{N:List Str}(hN:N.Nodup){i j:Nat}{x:Str}(a:N[i]?=some x)(b:N[j]?=some x):i=j:=by obtain⟨h1,e1⟩:=Qg.mp a;obtain⟨h2,e2⟩:=Qg.mp b;exact(List.getElem_inj hN).mp (e1.trans e2.symm)
theorem Ng{M:Model}{A:Around}{E:Um->Uo->Prop}{i:Nat}{x:Str}{v:V}{u:Um}{Q:Unit->Uo->Prop}(I:Inv X pins σ H s)(hN:X.N.Nodup)(hi:X.N[i]?=some x)(hx:Loc X.env.scope x)(r:RelV v u)
  (h:∀s',Inv X pins (σ.set i (some v)) H s'->(∃a,Heap.SameBut a s.heap s'.heap/\(a=X.env.locals∨X.env.cells.lookup x=some a))->Q () s') (hf:X.fn x=true∨X.env.scope.names.lookup x=some .local:=by first|exact .inl rfl|exact .inr rfl|assumption):Uu M A (storeName X.env x u) Q E s:=by
 obtain⟨m,hn,hl⟩:=id I.loc;have hcls:(X.env.scope.kind==.class || (X.env.scope.kind==.module&&X.env.locals != X.env.globals))=false:=by rw[I.ok.kind];rfl
 have hiσ:i<σ.length:=by rw[I.len];exact(Qg.mp hi).1
 have cne:=I.cne
 have tracked:∀{a:Uq}{h':Heap},(∃o,s.heap.get? a=some o/\H a=none)->Heap.SameBut a s.heap h'->HOk X.prog X.w H h':=λ{a h'} ha hs b ob e=>by
  obtain⟨_,_,hfree⟩:=ha;refine(I.hok b ob e).stay (λc w' hc q=>(hs.2 c ?_).trans q) (λ_ q=>q) λ_ _ q=>q
  rintro rfl;rcases hc with rfl|hc
  ·rw[hfree]at e;cases e
  ·rw[hfree]at hc;cases hc
 rcases hx with hk|hk
 ·refine wpAny_storeName_local hk hn (λh' hn' hs=>?_) hcls;obtain⟨oL,_,_,hoL,_⟩:=id hn;refine h _ ⟨I.ok,I.os,I.bare,⟨λb o e n hb hx=>?_,λb o e n hb hx=>?_,I.base.free,λb o e hx=>?_,I.base.tups,I.base.frzs,I.base.tbls⟩,⟨_,hn',λj y v' e1 e2 e3=>?_⟩,λy c e=>?_,I.free,I.freeC,λp hp=>?_,tracked ⟨oL,hoL,I.free⟩ hs,by simpa using I.len⟩ ⟨_,hs,.inl rfl⟩
  ·exact(hs.2 b (QP (QF (Qi e) I.ok.above))).trans (I.base.keep b o e n hb hx)
  ·obtain⟨sl,e1⟩:=I.base.slot b o e n hb hx;exact⟨sl,(hs.2 b (QP (QF (Qi e) I.ok.above))).trans e1⟩
  ·obtain⟨o',e1⟩:=I.base.there b o e hx;exact⟨o',(hs.2 b (QP (QF (Qi e) I.ok.above))).trans e1⟩
  ·by_cases hj:j=i
   ·subst hj;rw[hi]at e1;cases e1;rw[QD hiσ]at e2;cases e2;exact⟨u,r,.inl ⟨hk,by simp⟩⟩
   ·rw[Qq (Ne.symm hj)]at e2;obtain⟨u',r',q⟩:=hl j y v' e1 e2 e3;refine⟨u',r',?_⟩;rcases q with ⟨k,e⟩|⟨k,c,e,z⟩
    ·refine .inl ⟨k,?_⟩;have:y≠x:=λe=>hj (LG hN e1 (e ▸ hi))
     simp[this,e]
    ·exact .inr ⟨k,c,e,z.sameBut hs (cne y c e)⟩
  ·obtain⟨w',z⟩:=I.cell y c e;exact⟨w',z.sameBut hs (cne y c e)⟩
  ·obtain⟨e,n,ne,nf,d⟩:=I.pin p hp;exact⟨(hs.2 p.1 ne).trans e,n,ne,nf,d⟩
 ·have hfn:X.fn x=true:=by
   rcases hf with z|z
   ·exact z
   ·rw[z]at hk;cases hk
  obtain⟨c,hc⟩:=I.ok.has x (.inl hk);obtain⟨w',z⟩:=I.cell x c hc;refine wpAny_storeName_cell I.ok.kind hk hc z (λh' hc' hs=>?_);obtain⟨oc,hoc,hocd⟩:=id z;refine h {s with heap:=h'} ⟨I.ok,I.os,I.bare,⟨λb o e n hb hx=>?_,λb o e n hb hx=>?_,I.base.free,λb o e hx=>?_,I.base.tups,I.base.frzs,I.base.tbls⟩,⟨m,hn.sameBut hs (Ne.symm (cne x c hc)),λj y v' e1 e2 e3=>?_⟩,λy c' e=>?_,I.free,I.freeC,λp hp=>?_,tracked ⟨oc,hoc,I.freeC x c hc⟩ hs,by simpa using I.len⟩ ⟨c,hs,.inr hc⟩
  ·exact(hs.2 b (QP (QF (Qi e) (I.ok.cab x c hfn hc)))).trans (I.base.keep b o e n hb hx)
  ·obtain⟨sl,e1⟩:=I.base.slot b o e n hb hx;exact⟨sl,(hs.2 b (QP (QF (Qi e) (I.ok.cab x c hfn hc)))).trans e1⟩
  ·obtain⟨o',e1⟩:=I.base.there b o e hx;exact⟨o',(hs.2 b (QP (QF (Qi e) (I.ok.cab x c hfn hc)))).trans e1⟩
  ·by_cases hj:j=i
   ·subst hj;rw[hi]at e1;cases e1;rw[QD hiσ]at e2;cases e2;exact⟨u,r,.inr ⟨.inl hk,c,hc,hc'⟩⟩
   ·rw[Qq (Ne.symm hj)]at e2;obtain⟨u',r',q⟩:=hl j y v' e1 e2 e3;refine⟨u',r',?_⟩;rcases q with q|⟨k,c',e,z'⟩
    ·exact .inl q
    ·refine .inr ⟨k,c',e,z'.sameBut hs ?_⟩;rintro rfl;exact hj (LG hN e1 (I.ok.inj _ _ _ e hc ▸ hi))
  ·by_cases hcc:c'=c
   ·subst hcc;exact⟨_,hc'⟩
   ·obtain⟨w2,z2⟩:=I.cell y c' e;exact⟨w2,z2.sameBut hs hcc⟩
  ·obtain⟨e,n,ne,nf,d⟩:=I.pin p hp;refine⟨(hs.2 p.1 ?_).trans e,n,ne,nf,d⟩;intro q;rw[q,hoc]at e;have q':oc=p.2:=QT e;exact d w' (by rw[←q'];exact hocd)
theorem OQ{M:Model}{A:Around}{E:Um->Uo->Prop}{i:Nat}{x:Str}{v:V}{u:Um}{Q:Unit->Uo->Prop}(I:Inv X pins σ H s)(hN:X.N.Nodup)(hi:X.N[i]?=some x)(hx:Loc X.env.scope x)(r:RelV v u)
  (h:∀s',Inv X pins (σ.set i (some v)) H s'->Q () s') (hf:X.fn x=true∨X.env.scope.names.lookup x=some .local:=by first|exact .inl rfl|exact .inr rfl|assumption):Uu M A (storeName X.env x u) Q E s:=
 Ng I hN hi hx r (λs' I' _=>h s' I') hf
theorem Inv.call'{s':Uo}{ch:List Uq}(I:Inv X pins σ H s)(ho:s'.os=s.os)(u:Un (frs X.stack) ch H H' s.heap s'.heap)(hok:HOk X.prog X.w H' s'.heap)(hg:AllBare s'.gens)
  (hch:∀b∈ch,(b∈X.ex∨X.s₀.heap.objs.size<=b)/\b≠X.env.locals/\(∀x c,X.env.cells.lookup x=some c->c≠b)/\∀p∈X.pn++pins,p.1≠b):Inv X pins σ H' s':=by
 obtain⟨h',g',d',t',o'⟩:=s';have e:o'=s.os:=ho;subst e;exact I.call (g':=g') (t':=t') (d':=d') u hok hg hch
end
abbrev XK:=Um->Option Uq->Hp->Prop
abbrev St:=List (Option V)
abbrev VK:=V->Hp->Prop
abbrev TE:=St->Hp->VK->Prop
abbrev TT:=St->Hp->(Bool->Hp->Prop)->Prop
abbrev TA:=St->Hp->(List V->Hp->Prop)->Prop
structure Ends where
 nx:St->Hp->Prop
 rt:VK
 bk:St->Hp->Prop:=λ_ _=>False
 ct:St->Hp->Prop:=λ_ _=>False
abbrev TS:=Ends->St->Hp->Prop
def EP(X:Cx)(pins:List (Uq×Obj))(σ:St)(Q:VK)(u:Um)(s':Uo):Prop:=∃v H',Inv X pins σ H' s'/\RelV v u/\Q v H'
def TP(X:Cx)(pins:List (Uq×Obj))(σ:St)(Q:Bool->Hp->Prop)(b:Bool)(s':Uo):Prop:=∃H',Inv X pins σ H' s'/\Q b H'
def AP(X:Cx)(pins:List (Uq×Obj))(σ:St)(Q:List V->Hp->Prop)(us:List Um)(s':Uo):Prop:=∃vs H',Inv X pins σ H' s'/\Vals vs us/\Q vs H'
def SP(X:Cx)(pins:List (Uq×Obj))(D:Ends)(f:Flow)(s':Uo):Prop:=
 match f with
 |.next=>∃σ' H',Inv X pins σ' H' s'/\D.nx σ' H'
 |.brk=>∃σ' H',Inv X pins σ' H' s'/\D.bk σ' H'
 |.cont=>∃σ' H',Inv X pins σ' H' s'/\D.ct σ' H'
 |.ret u=>∃v σ' H',Inv X pins σ' H' s'/\RelV v u/\D.rt v H'
def PE(X:Cx)(e:Us)(t:TE):Prop:=
 ∀(pins:List (Uq×Obj))(s:Uo)(σ:St)(H:Hp)(Q:VK),Inv X pins σ H s->t σ H Q->Uu (model X.prog X.w) X.A (eval e X.env) (EP X pins σ Q) X.xe s
def PT(X:Cx)(e:Us)(t:TT):Prop:=
 ∀(pins:List (Uq×Obj))(s:Uo)(σ:St)(H:Hp)(Q:Bool->Hp->Prop),Inv X pins σ H s->t σ H Q->Uu (model X.prog X.w) X.A (isTrue e X.env (eval e X.env)) (TP X pins σ Q) X.xe s
def PW(X:Cx)(e:Us)(t:TT):Prop:=
 ∀(whole:Sem Um)(pins:List (Uq×Obj))(s:Uo)(σ:St)(H:Hp)(Q:Bool->Hp->Prop),Inv X pins σ H s->t σ H Q->Uu (model X.prog X.w) X.A (isTrue e X.env whole) (TP X pins σ Q) X.xe s
theorem PW.pt{X:Cx}{e:Us}{t:TT}(h:PW X e t):PT X e t:=h _
def PA(X:Cx)(es:List Us)(t:TA):Prop:=
 ∀(pos:Pos)(pins:List (Uq×Obj))(s:Uo)(σ:St)(H:Hp)(Q:List V->Hp->Prop),Inv X pins σ H s->t σ H Q->Uu (model X.prog X.w) X.A (spliced (backTo pos (Uv es X.env))) (AP X pins σ Q) X.xe s
def PS(X:Cx)(st:Stmt)(t:TS):Prop:=
 ∀(pins:List (Uq×Obj))(s:Uo)(σ:St)(H:Hp)(D:Ends),Inv X pins σ H s->t D σ H->Uu (model X.prog X.w) X.A (exec st X.env) (SP X pins D) X.xe s
def PSs(X:Cx)(st:List Stmt)(t:TS):Prop:=
 ∀(pins:List (Uq×Obj))(s:Uo)(σ:St)(H:Hp)(D:Ends),Inv X pins σ H s->t D σ H->Uu (model X.prog X.w) X.A (execs st X.env) (SP X pins D) X.xe s
theorem thn{α:Type}{t:Sem α}{Q Q':α->Uo->Prop}{M:Model}{A:Around}{E:Um->Uo->Prop}{s:Uo}(h:Uu M A t Q E s)(hQ:∀a s,Q a s->Q' a s):Uu M A t Q' E s:=QG h hQ λ_ _ x=>x
section
variable{X:Cx}
noncomputable def K9(i:Nat):TE:=λσ H Q=>∃v,σ[i]?=some (some v)/\Q v H
noncomputable def tC(v:V):TE:=λ_ H Q=>Q v H
theorem Mw{i:Nat}{x:Str}{pos:Pos}(hN:X.N[i]?=some x)(hv:Vis X.env.scope x)(hd:(x==("__debug__" : Str))=false:=by decide)(hcd:(x==("__classdict__" : Str))=false:=by decide):PE X (.Name x pos) (K9 i):=by
 intro pins s σ H Q I h;obtain⟨v,e,h⟩:=h;obtain⟨m,hn,hl⟩:=I.loc;obtain⟨u,r,l⟩:=hl i x v hN e hv;have fin:EP X pins σ Q u s:=⟨v,H,I,r,h⟩;rcases l with ⟨hk,hm⟩|⟨hk,c,hc,hcell⟩
 ·exact wpAny_Name (wpAny_loadName_local I.ok.kind hk hn hm fin) hd
 ·rcases hk with hk|hk
  ·exact wpAny_Name (wpAny_loadName_cell I.ok.kind hk hc hcell fin) hd
  ·exact wpAny_Name (wpAny_loadName_free I.ok.kind hk hc hcell fin hcd) hd
theorem EX{i j pos}:PE X (.Constant (.int i) j pos) (tC (.int i)):=λ_ _ _ H _ I h=>wpAny_Constant_int ⟨.int i,H,I.tok _,⟨_,rfl⟩,h⟩
theorem Ee{b j pos}:PE X (.Constant (.bool b) j pos) (tC (.bl b)):=λ_ _ _ H _ I h=>Constant_bool ⟨.bl b,H,I,rfl,h⟩
theorem EW{j pos}:PE X (.Constant .none j pos) (tC .non):=λ_ _ _ H _ I h=>Constant_none ⟨.non,H,I,rfl,h⟩
theorem EV{x j pos}:PE X (.Constant (.str x) j pos) (tC (.str x)):=λ_ _ _ H _ I h=>Calls.Constant_str ⟨.str x,H,I.tok _,⟨_,rfl⟩,h⟩
def Gl(X:Cx)(x:Str):Prop:=X.env.kindOf x=some .globalImplicit
theorem Lq{E:Um->Uo->Prop}{pins:List (Uq×Obj)}{s:Uo}{σ:St}{H:Hp}{x:Str}{u:Um}{pos:Pos}{Q:Um->Uo->Prop}(I:Inv X pins σ H s)(hg:Gl X x)(hm:X.mg x=some u)(h:Q u s)
  (hd:(x==("__debug__" : Str))=false:=by decide):Uu (model X.prog X.w) X.A (eval (.Name x pos) X.env) Q E s:=
 Calls.Name_function_global I.ok.kind hg (Calls.loadGlobal_global (by rw[I.ok.glob];exact I.mod.glob.keeps I.bk) hm h) hd
theorem VG{E:Um->Uo->Prop}{pins:List (Uq×Obj)}{s:Uo}{σ:St}{H:Hp}{x:Str}{u:Um}{pos:Pos}{Q:Um->Uo->Prop}(I:Inv X pins σ H s)(hg:Gl X x)(hm:X.mg x=none)(hv:bootBuiltins x=some u)(h:Q u s)
  (hn:x ≠ "__name__" :=by decide) (hd:(x==("__debug__" : Str))=false:=by decide):Uu (model X.prog X.w) X.A (eval (.Name x pos) X.env) Q E s:=by
 obtain⟨mb,h1,h2⟩:=I.mod.blt;exact Calls.Name_function_global I.ok.kind hg (Calls.loadGlobal_builtin (by rw[I.ok.glob];exact I.mod.glob.keeps I.bk) hm (by rw[I.ok.blt];exact h1.keeps I.bk) ((h2 x hn).trans hv) h) hd
theorem Lp{x:Str}{v:V}{u:Um}{pos:Pos}(hg:Gl X x)(hm:X.mg x=some u)(r:RelV v u)(hd:(x==("__debug__" : Str))=false:=by decide):PE X (.Name x pos) (tC v):=
 λ_ _ _ H _ I h=>Lq I hg hm ⟨v,H,I,r,h⟩ hd
theorem CN{x:Str}{v:V}{u:Um}{pos:Pos}(hg:Gl X x)(hm:X.mg x=none)(hv:bootBuiltins x=some u)(r:RelV v u)(hn:x ≠ "__name__" :=by decide)(hd:(x==("__debug__" : Str))=false:=by decide):PE X (.Name x pos) (tC v):=
 λ_ _ _ H _ I h=>VG I hg hm hv ⟨v,H,I,r,h⟩ hn hd
variable{a b:Us}{ta tb:TE}{pos:Pos}
def PC(X:Cx)(op:CmpOp)(a b:Us)(t:TE):Prop:=
 ∀(pins:List (Uq×Obj))(s:Uo)(σ:St)(H:Hp)(Q:VK),Inv X pins σ H s->t σ H Q ->
  Uu (model X.prog X.w) X.A (eval a X.env) (λv s₁=>Uu (model X.prog X.w) X.A (eval b X.env) (λu s₂=>Uu (model X.prog X.w) X.A (Uw op v u) (EP X pins σ Q) X.xe s₂) X.xe s₁) X.xe s
theorem LF(b:Us){op:CmpOp}(h:op≠.In)(h2:op≠.NotIn):behindInMarks op b=false:=by
 have e1:(op==CmpOp.In)=false:=by cases op<;>first|rfl|exact absurd rfl h
 have e2:(op==CmpOp.NotIn)=false:=by cases op<;>first|rfl|exact absurd rfl h2
 cases b<;>simp[behindInMarks,e1,e2]
noncomputable def tIsN(ta:TE):TE:=λσ H Q=>ta σ H λx H1=>Q (.bl (decide (x=.non))) H1
noncomputable def Ed(ta:TE):TE:=λσ H Q=>ta σ H λx H1=>Q (.bl (!decide (x=.non))) H1
theorem RelV.none_iff{x:V}{v:Um}(r:RelV x v):(v==Value.none)=decide (x=.non):=by
 cases x with
 |non=>cases r;rfl
 |bl _=>cases r;rfl
 |int _=>obtain⟨t,rfl⟩:=r;rfl
 |str _=>obtain⟨t,rfl⟩:=r;rfl
 |byt _=>obtain⟨t,rfl⟩:=r;rfl
 |flt _=>obtain⟨t,rfl⟩:=r;rfl
 |ref _=>cases r;rfl
 |ty _=>cases r;rfl
theorem Mo{j pos'}(ha:PE X a ta):PC X .Is a (.Constant .none j pos') (tIsN ta):=by intro pins s σ H Q I h;refine thn (ha pins s σ H _ I h) λv s1 ⟨x,H1,I1,r1,q1⟩=>?_;exact Constant_none (is_none_gen ⟨.bl _,H1,I1,by rw[r1.none_iff];rfl,q1⟩)
theorem CM{j pos'}(ha:PE X a ta):PC X .IsNot a (.Constant .none j pos') (Ed ta):=by intro pins s σ H Q I h;refine thn (ha pins s σ H _ I h) λv s1 ⟨x,H1,I1,r1,q1⟩=>?_;exact Constant_none (isnot_none_gen ⟨.bl _,H1,I1,by rw[r1.none_iff];rfl,q1⟩)
noncomputable def tB(t:TE):TT:=λσ H Q=>t σ H λx H1=>∃c,x=.bl c/\Q c H1
theorem EU{op:CmpOp}{t:TE}(h:PC X op a b t)(h1:behindInMarks op b=false:=by first|exact LF _ (by decide) (by decide)|rfl):PE X (.Compare a [op] [b] pos) t:=λpins s σ H Q I hw=>wpAny_Compare1 (h pins s σ H Q I hw) h1
theorem Mn{op:CmpOp}{t:TE}(h:PC X op a b t)(h1:behindInMarks op b=false:=by first|exact LF _ (by decide) (by decide)|rfl):PT X (.Compare a [op] [b] pos) (tB t):=by intro pins s σ H Q I hw;refine wpAny_isTrue_Compare1 (thn (h pins s σ H _ I hw) λv s1 h1=>thn h1 λu s2 h2=>thn h2 λc s3 ⟨x,H1,I1,r1,q1⟩=>?_) h1;obtain⟨d,rfl,q⟩:=q1;cases r1;exact Q4 ⟨H1,I1,q⟩
theorem ET{e:Us}{t:TE}(h:PE X e t)(he:∀whole,isTrue e X.env whole=(do let v ←whole;standAt e.pos;holding [v] (truthy v)):=by intro _;rfl):PT X e (tB t):=by intro pins s σ H Q I hw;refine isTrue_plain (thn (h pins s σ H _ I hw) λv s1 ⟨x,H1,I1,r1,q1⟩=>?_) (he _);obtain⟨d,rfl,q⟩:=q1;cases r1;exact Q4 ⟨H1,I1,q⟩
variable{tA tB':TT}{rest:List Us}
noncomputable def tAnd(t u:TT):TT:=λσ H Q=>t σ H λc H1=>if c=true then u σ H1 Q else Q false H1
noncomputable def tOr(t u:TT):TT:=λσ H Q=>t σ H λc H1=>if c=true then Q true H1 else u σ H1 Q
noncomputable def tNot(t:TT):TT:=λσ H Q=>t σ H λc H1=>Q (!c) H1
theorem CL(ha:PT X a tA):PW X (.BoolOp .And [a] pos) tA:=by
 intro wh pins s σ H Q I h;refine isTrue_and (thn (ha pins s σ H Q I h) λc s1 e=>?_);cases c with
 |true=>exact isTrue_and_nil e
 |false=>exact e
theorem ES(ha:PT X a tA):PW X (.BoolOp .Or [a] pos) tA:=by
 intro wh pins s σ H Q I h;refine isTrue_or (thn (ha pins s σ H Q I h) λc s1 e=>?_);cases c with
 |false=>exact isTrue_or_nil e
 |true=>exact e
theorem ER(ha:PT X a tA)(hb:PW X (.BoolOp .And (b::rest) pos) tB'):PW X (.BoolOp .And (a::b::rest) pos) (tAnd tA tB'):=by
 intro wh pins s σ H Q I h;refine isTrue_and (thn (ha pins s σ H _ I h) λc s1 ⟨H1,I1,q1⟩=>?_);cases c with
 |true=>exact hb wh pins s1 σ H1 Q I1 q1
 |false=>exact⟨H1,I1,q1⟩
theorem Ec(ha:PT X a tA)(hb:PW X (.BoolOp .Or (b::rest) pos) tB'):PW X (.BoolOp .Or (a::b::rest) pos) (tOr tA tB'):=by
 intro wh pins s σ H Q I h;refine isTrue_or (thn (ha pins s σ H _ I h) λc s1 ⟨H1,I1,q1⟩=>?_);cases c with
 |true=>exact⟨H1,I1,q1⟩
 |false=>exact hb wh pins s1 σ H1 Q I1 q1
theorem EQ(ha:PT X a tA):PT X (.UnaryOp .Not a pos) (tNot tA):=by intro pins s σ H Q I h;exact isTrue_not (ha pins s σ H (λc H1=>Q (!c) H1) I h)
noncomputable def Eb(ta tb:TE):TE:=λσ H Q=>ta σ H λx H1=>∃c,x=.bl c/\if c=true then tb σ H1 Q else Q (.bl false) H1
noncomputable def tOrV(ta tb:TE):TE:=λσ H Q=>ta σ H λx H1=>∃c,x=.bl c/\if c=true then Q (.bl true) H1 else tb σ H1 Q
noncomputable def Ea(ta:TE):TE:=λσ H Q=>ta σ H λx H1=>∃c,x=.bl c/\Q (.bl (!c)) H1
theorem EO{op}{t:TE}(h:PE X a t):PE X (.BoolOp op [a] pos) t:=λpins s σ H Q I hw=>BoolOp_one (h pins s σ H Q I hw)
theorem EN(ha:PE X a ta)(hb:PE X (.BoolOp .And (b::rest) pos) tb):PE X (.BoolOp .And (a::b::rest) pos) (Eb ta tb):=by
 intro pins s σ H Q I h;refine BoolOp_and (thn (ha pins s σ H _ I h) λv s1 ⟨x,H1,I1,r1,q1⟩=>?_);obtain⟨c,rfl,q1⟩:=q1;cases r1;refine Q4 ?_;cases c with
 |true=>exact hb pins s1 σ H1 Q I1 q1
 |false=>exact⟨.bl false,H1,I1,rfl,q1⟩
theorem F9(ha:PE X a ta)(hb:PE X (.BoolOp .Or (b::rest) pos) tb):PE X (.BoolOp .Or (a::b::rest) pos) (tOrV ta tb):=by
 intro pins s σ H Q I h;refine BoolOp_or (thn (ha pins s σ H _ I h) λv s1 ⟨x,H1,I1,r1,q1⟩=>?_);obtain⟨c,rfl,q1⟩:=q1;cases r1;refine Q4 ?_;cases c with
 |false=>exact hb pins s1 σ H1 Q I1 q1
 |true=>exact⟨.bl true,H1,I1,rfl,q1⟩
theorem EM(ha:PE X a ta):PE X (.UnaryOp .Not a pos) (Ea ta):=by intro pins s σ H Q I h;refine UnaryOp_ (thn (ha pins s σ H _ I h) λv s1 ⟨x,H1,I1,r1,q1⟩=>?_);obtain⟨c,rfl,q1⟩:=q1;cases r1;exact not_of (Q4 ⟨.bl (!c),H1,I1,rfl,q1⟩)
noncomputable def tIf(t:TT)(ta tb:TE):TE:=λσ H Q=>t σ H λc H1=>if c=true then ta σ H1 Q else tb σ H1 Q
theorem Ar{c:Us}(hc:PT X c tA)(ha:PE X a ta)(hb:PE X b tb):PE X (.IfExp c a b pos) (tIf tA ta tb):=by
 intro pins s σ H Q I h;refine wpAny_IfExp (thn (hc pins s σ H _ I h) λd s1 ⟨H1,I1,q1⟩=>?_);cases d with
 |true=>exact ha pins s1 σ H1 Q I1 q1
 |false=>exact hb pins s1 σ H1 Q I1 q1
end
def SqL(K:Frag)(H:Hp)(a:Uq)(xs:List V):Prop:=
 Rd H a (.lst xs) ∨
  ∃(o:Obj)(its:Array Um)(n:Nat),K.lookup a=some o/\o.cls=.type "list" /\ o.dict=none/\o.data=.seq its n/\its.size<=Ut/\Vals xs its.toList
def SqT(K:Frag)(H:Hp)(a:Uq)(xs:List V):Prop:=
 Rd H a (.tup xs) ∨
  ∃(o:Obj)(its:Array Um)(n:Nat),K.lookup a=some o/\o.cls=.type "tuple" /\ o.data=.seq its n/\its.size<=Ut/\Vals xs its.toList
noncomputable def absV:Um->Option V
 |.none=>some .non
 |.bool b=>some (.bl b)
 |.int i _=>some (.int i)
 |.str x _=>some (.str x)
 |.bytes b _=>some (.byt b)
 |.float b _=>some (.flt b)
 |.ref a=>some (.ref a)
 |.type n=>some (.ty n)
 |_=>none
theorem RelV.abs{x:V}{u:Um}(r:RelV x u):absV u=some x:=by
 cases x with
 |non=>cases r;rfl
 |bl _=>cases r;rfl
 |int _=>obtain⟨t,rfl⟩:=r;rfl
 |str _=>obtain⟨t,rfl⟩:=r;rfl
 |byt _=>obtain⟨t,rfl⟩:=r;rfl
 |flt _=>obtain⟨t,rfl⟩:=r;rfl
 |ref _=>cases r;rfl
 |ty _=>cases r;rfl
theorem RelV.inj{x y:V}{u:Um}(r:RelV x u)(q:RelV y u):x=y:=QT (r.abs.symm.trans q.abs)
theorem Vals.inj:∀{xs ys:List V}{us:List Um},Vals xs us->Vals ys us->xs=ys
 |_,_,_,.nil,.nil=>rfl
 |_,_,_,.cons r t,.cons r' t'=>by rw[r.inj r',Vals.inj t t']
section
variable{X:Cx}{pins:List (Uq×Obj)}{σ:St}{H:Hp}{s:Uo}{a:Uq}{xs ys:List V}
theorem SqL.of{K:Frag}(h:H a=some (.lst xs)):SqL K H a xs:=.inl (.inl h)
theorem SqT.of{K:Frag}(h:H a=some (.tup xs)):SqT K H a xs:=.inl (.inl h)
theorem Inv.list(I:Inv X pins σ H s)(h:SqL X.K H a xs):∃its:List Um,Vals xs its/\PlainL s.heap a its.toArray/\xs.length<=Ut:=by
 rcases h with h|⟨o,its,n,hk,hc,hd,hs,hz,r⟩
 ·obtain⟨z,its,n,r,e⟩:=h.ok I.hok;exact⟨its,r,⟨_,n,e,rfl,rfl,rfl⟩,z⟩
 ·refine⟨its.toList,r,⟨o,n,I.kIn a o hk,hc,hd,by simpa using hs⟩,?_⟩;have e:=r.length;simp only[Jh]at e;omega
theorem Inv.tuple(I:Inv X pins σ H s)(h:SqT X.K H a xs):∃its:List Um,Vals xs its/\IsTup s.heap a its.toArray/\xs.length<=Ut:=by
 rcases h with h|⟨o,its,n,hk,hc,hs,hz,r⟩
 ·obtain⟨z,its,r,p⟩:=h.ok I.hok;exact⟨its,r,p,z⟩
 ·refine⟨its.toList,r,⟨o,I.kIn a o hk,hc,n,by simpa using hs⟩,?_⟩;have e:=r.length;simp only[Jh]at e;omega
theorem Inv.list_inj(I:Inv X pins σ H s)(h:SqL X.K H a xs)(h':SqL X.K H a ys):xs=ys:=by
 obtain⟨its,r,⟨o,n,e,_,_,d⟩,_⟩:=I.list h;obtain⟨its',r',⟨o',n',e',_,_,d'⟩,_⟩:=I.list h';rw[e]at e';cases e';rw[d]at d';injection d' with d1 _
 have:its=its':=by simpa using congrArg Array.toList d1
 subst this;exact r.inj r'
theorem Inv.tuple_inj(I:Inv X pins σ H s)(h:SqT X.K H a xs)(h':SqT X.K H a ys):xs=ys:=by
 obtain⟨its,r,⟨o,e,_,n,d⟩,_⟩:=I.tuple h;obtain⟨its',r',⟨o',e',_,n',d'⟩,_⟩:=I.tuple h';rw[e]at e';cases e';rw[d]at d';injection d' with d1 _
 have:its=its':=by simpa using congrArg Array.toList d1
 subst this;exact r.inj r'
end
noncomputable abbrev Cx.wish(X:Cx)(E:Um->Uo->Prop):Cx:={X with xe:=E}
noncomputable abbrev Cx.nox(X:Cx):Cx:=X.wish λ_ _=>False
theorem Cx.Ok.wish{X:Cx}(ok:X.Ok)(E:Um->Uo->Prop):(X.wish E).Ok:=
 ⟨ok.mod,ok.kind,ok.glob,ok.blt,ok.above,ok.inj,ok.has,ok.cab,ok.hd,ok.frames,ok.stk,ok.exf,ok.bs,ok.bsz,ok.noex,ok.exfs,ok.funs,ok.frf⟩
theorem Cx.Ok.unwish{X:Cx}{E:Um->Uo->Prop}(ok:(X.wish E).Ok):X.Ok:=
 ⟨ok.mod,ok.kind,ok.glob,ok.blt,ok.above,ok.inj,ok.has,ok.cab,ok.hd,ok.frames,ok.stk,ok.exf,ok.bs,ok.bsz,ok.noex,ok.exfs,ok.funs,ok.frf⟩
section
variable{X:Cx}{pins:List (Uq×Obj)}{σ:St}{H:Hp}{s:Uo}{E:Um->Uo->Prop}
theorem Inv.wish(I:Inv X pins σ H s)(E:Um->Uo->Prop):Inv (X.wish E) pins σ H s:=⟨I.ok.wish E,I.os,I.bare,I.base,I.loc,I.cell,I.free,I.freeC,I.pin,I.hok,I.len⟩
theorem Inv.unwish(I:Inv (X.wish E) pins σ H s):Inv X pins σ H s:=⟨I.ok.unwish,I.os,I.bare,I.base,I.loc,I.cell,I.free,I.freeC,I.pin,I.hok,I.len⟩
theorem SP.unwish{D:Ends}{f:Flow}{s':Uo}(h:SP (X.wish E) pins D f s'):SP X pins D f s':=by
 cases f with
 |next=>obtain⟨σ',H',I,q⟩:=h;exact⟨σ',H',I.unwish,q⟩
 |brk=>obtain⟨σ',H',I,q⟩:=h;exact⟨σ',H',I.unwish,q⟩
 |cont=>obtain⟨σ',H',I,q⟩:=h;exact⟨σ',H',I.unwish,q⟩
 |ret u=>obtain⟨v,σ',H',I,r,q⟩:=h;exact⟨v,σ',H',I.unwish,r,q⟩
theorem PSs.nox{st:List Stmt}{t:TS}(h:PSs X.nox st t):PSs X st t:=λpins s σ H D I hw=>
 QG (h pins s σ H D (I.wish _) hw) (λ_ _ q=>q.unwish) λ_ _ z=>False.elim z
end
section
variable{X:Cx}{st:Stmt}{rest:List Stmt}{t u:TS}{e:Us}{te:TE}{pos:Pos}
noncomputable def F8:TS:=λD σ H=>D.nx σ H
noncomputable def tSeq(t u:TS):TS:=λD σ H=>t {D with nx:=u D} σ H
theorem CK:PSs X [] F8:=λ_ _ σ H _ I h=>wpAny_execs_nil ⟨σ,H,I,h⟩
theorem OP(h1:PS X st t)(h2:PSs X rest u):PSs X (st::rest) (tSeq t u):=by
 intro pins s σ H D I h;refine wpAny_execs_cons (thn (h1 pins s σ H {D with nx:=u D} I h) λf s1 q=>?_);cases f with
 |next=>obtain⟨σ',H',I',q⟩:=q;exact h2 pins s1 σ' H' D I' q
 |ret v=>exact q
 |brk=>exact q
 |cont=>exact q
theorem Oz(h1:PS X st t):PSs X [st] t:=by
 intro pins s σ H D I h;refine wpAny_execs_cons (thn (h1 pins s σ H D I h) λf s1 q=>?_);cases f with
 |next=>exact wpAny_execs_nil q
 |ret v=>exact q
 |brk=>exact q
 |cont=>exact q
theorem Inv.quiet{pins:List (Uq×Obj)}{σ:St}{H:Hp}{s:Uo}(I:Inv X pins σ H s):interactive X.env=false:=by simp[interactive,I.ok.kind]
noncomputable def EH(te:TE):TS:=λD σ H=>te σ H λ_ H1=>D.nx σ H1
theorem Oy(he:PE X e te)(hs:swapsWith e none pos.line X.env=pure false:=by rfl):PS X (.Expr e pos) (EH te):=by intro pins s σ H D I h;exact wpAny_Expr_any (thn (he pins s σ H _ I h) λv s1 ⟨x,H1,I1,r1,q1⟩=>⟨σ,H1,I1,q1⟩) I.quiet hs
noncomputable def tRet(te:TE):TS:=λD σ H=>te σ H D.rt
theorem Mm(he:PE X e te):PS X (.Return (some e) pos) (tRet te):=by intro pins s σ H D I h;exact wpAny_Return_some (thn (he pins s σ H _ I h) λv s1 ⟨x,H1,I1,r1,q1⟩=>⟨x,σ,H1,I1,r1,q1⟩)
noncomputable def tIfS(c:TT)(t u:TS):TS:=λD σ H=>c σ H λb H1=>if b=true then t D σ H1 else u D σ H1
theorem EG{c:Us}{a b:List Stmt}{tc:TT}(hc:PT X c tc)(ha:PSs X a t)(hb:PSs X b u):PS X (.If c a b pos) (tIfS tc t u):=by
 intro pins s σ H D I h;refine wpAny_If (thn (hc pins s σ H _ I h) λd s1 ⟨H1,I1,q1⟩=>?_);cases d with
 |true=>exact ha pins s1 σ H1 D I1 q1
 |false=>exact hb pins s1 σ H1 D I1 q1
end
abbrev TG:=V->St->Hp->(St->Hp->Prop)->Prop
abbrev TGs:=List V->St->Hp->(St->Hp->Prop)->Prop
def PG(X:Cx)(target:Us)(t:TG):Prop:=
 ∀(pins:List (Uq×Obj))(s:Uo)(σ:St)(H:Hp)(v:V)(u:Um)(Q:St->Hp->Prop),Inv X pins σ H s->RelV v u->t v σ H Q ->
  Uu (model X.prog X.w) X.A (assign target X.env u) (λ_ s'=>∃σ' H',Inv X pins σ' H' s'/\Q σ' H') X.xe s
def PGs(X:Cx)(ts:List Us)(t:TGs):Prop:=
 ∀(pins:List (Uq×Obj))(s:Uo)(σ:St)(H:Hp)(vs:List V)(us:List Um)(Q:St->Hp->Prop),Inv X pins σ H s->Vals vs us->t vs σ H Q ->
  Uu (model X.prog X.w) X.A (assignInOrder ((UK ts X.env).map (·.2)) us) (λ_ s'=>∃σ' H',Inv X pins σ' H' s'/\Q σ' H') X.xe s
abbrev TIp:=V->V->Hp->VK->Prop
def PIp(X:Cx)(op:Operator)(t:TIp):Prop:=
 ∀(pins:List (Uq×Obj))(s:Uo)(σ:St)(H:Hp)(x y:V)(v u:Um)(Q:VK),Inv X pins σ H s->RelV x v->RelV y u->t x y H Q ->
  Uu (model X.prog X.w) X.A (inplaceOp op v u) (EP X pins σ Q) X.xe s
section
variable{X:Cx}{pos:Pos}
noncomputable def P6(i:Nat):TG:=λv σ H Q=>Q (σ.set i (some v)) H
theorem XH{i:Nat}{x:Str}(hN:X.N.Nodup)(hi:X.N[i]?=some x)(hx:Loc X.env.scope x)(hf:X.fn x=true∨X.env.scope.names.lookup x=some .local:=by first|exact .inl rfl|exact .inr rfl|assumption):PG X (.Name x pos) (P6 i):=by intro pins s σ H v u Q I r h;exact wpAny_assign_Name (OQ I hN hi hx r (λs' I'=>⟨_,H,I',h⟩) hf)
noncomputable def gNil:TGs:=λvs σ H Q=>vs=[]/\Q σ H
noncomputable def EF(t:TG)(u:TGs):TGs:=λvs σ H Q=>∃v r,vs=v::r/\t v σ H λσ' H'=>u r σ' H' Q
theorem Lu:PGs X [] gNil:=by intro pins s σ H vs us Q I r h;obtain⟨e,h⟩:=h;subst e;cases r;exact assignInOrder_nil ⟨σ,H,I,h⟩
theorem OO{e:Us}{es:List Us}{t:TG}{u:TGs}(h1:PG X e t)(h2:PGs X es u)
  (hs:(UK (e::es) X.env).map (·.2)=assign e X.env::(UK es X.env).map (·.2):=by rfl):PGs X (e::es) (EF t u):=by
 intro pins s σ H vs us Q I r h;obtain⟨v,vr,e1,h⟩:=h;subst e1;cases r with
 |cons r rr=>rw[hs];refine assignInOrder_cons (thn (h1 pins s σ H _ _ _ I r h) λ_ s1 ⟨σ1,H1,I1,q1⟩=>?_);exact h2 pins s1 σ1 H1 _ _ Q I1 rr q1
noncomputable def gTup(K:Frag)(n:Nat)(t:TGs):TG:=λv σ H Q=>∃a xs,v=.ref a/\SqT K H a xs/\xs.length=n/\t xs σ H Q
theorem Ml{es:List Us}{k:Nat}{t:TGs}{n:Nat}(hc:X.calm=true)(h:PGs X es t)
  (hn:(UK es X.env).length=n:=by rfl) (hst:(UK es X.env).findIdx? (·.1)=none:=by rfl):PG X (.Tuple es k pos) (gTup X.K n t):=by
 intro pins s σ H v u Q I r hw;obtain⟨a,xs,e1,hq,hl,hw⟩:=hw;subst e1;cases r;obtain⟨its,rv,ht,hz⟩:=I.tuple hq;refine assign_Tuple_tuple (I.ok.hd hc) ht (by simp[hn,←hl,rv.length]) hst λh' hx=>?_
 have I1:Inv X pins σ H {s with heap:=h'}:=I.kept (t':=s.toks) λb o e=>hx b o (QP (Qi e)) e;exact h pins _ σ H xs _ Q I1 (by simpa using rv) hw
noncomputable def tAsg(te:TE)(g:TG):TS:=λD σ H=>te σ H λx H1=>g x σ H1 D.nx
theorem EL{tg e:Us}{te:TE}{g:TG}(he:PE X e te)(hg:PG X tg g)(hs:swapsWithSole [tg] e pos.line X.env=pure false:=by rfl)(hw:swappedStores [tg] e X.env=pure none:=by rfl)
  (h1:(UK [tg] X.env).map (·.2)=[assign tg X.env]:=by rfl):PS X (.Assign [tg] e pos) (tAsg te g):=by
 intro pins s σ H D I h;refine wpAny_Assign_stores (thn (he pins s σ H _ I h) λv s1 ⟨x,H1,I1,r1,q1⟩=>?_) hs hw;rw[h1];exact thn (hg pins s1 σ H1 x v _ I1 r1 q1) λ_ s2 q=>q
theorem Oi{i:Nat}{x:Str}{e:Us}{te:TE}{pos':Pos}(hN:X.N.Nodup)(hi:X.N[i]?=some x)(hx:Loc X.env.scope x)(he:PE X e te)(hs:swapsWith e (some (.Name x pos')) pos.line X.env=pure false:=by rfl)(hf:X.fn x=true∨X.env.scope.names.lookup x=some .local:=by first|exact .inl rfl|exact .inr rfl|assumption) :
  PS X (.Assign [.Name x pos'] e pos) (tAsg te (P6 i)):=by
 intro pins s σ H D I h;refine wpAny_Assign_Name (thn (he pins s σ H _ I h) λv s1 ⟨y,H1,I1,r1,q1⟩=>?_) hs;exact OQ I1 hN hi hx r1 (λs2 I2=>⟨_,H1,I2,q1⟩) hf
noncomputable def tAug(i:Nat)(te:TE)(ti:TIp):TS:=λD σ H=>∃x,σ[i]?=some (some x)/\te σ H λy H1=>ti x y H1 λz H2=>D.nx (σ.set i (some z)) H2
theorem EK{i:Nat}{x:Str}{e:Us}{te:TE}{op:Operator}{ti:TIp}{pos':Pos}(hN:X.N.Nodup)(hi:X.N[i]?=some x)(hx:Loc X.env.scope x)(he:PE X e te)(ho:PIp X op ti)(hf:X.fn x=true∨X.env.scope.names.lookup x=some .local:=by first|exact .inl rfl|exact .inr rfl|assumption) :
  PS X (.AugAssign (.Name x pos') op e pos) (tAug i te ti):=by
 intro pins s σ H D I h;obtain⟨v,e1,h⟩:=h;obtain⟨m,hn,hl⟩:=I.loc;have vis:Vis X.env.scope x:=by rcases hx with k|k;exact .inl k;exact .inr (.inl k)
 obtain⟨u,r,l⟩:=hl i x v hi e1 vis;refine wpAny_AugAssign_Name ?_;have go:Uu (model X.prog X.w) X.A (eval e X.env) (λw s₂=>Uu (model X.prog X.w) X.A (inplaceOp op u w) (λr s₃=>Uu (model X.prog X.w) X.A (storeName X.env x r) (λ_=>SP X pins D .next) X.xe s₃) X.xe s₂) X.xe s:=by refine thn (he pins s σ H _ I h) λw s1 ⟨y,H1,I1,r1,q1⟩=>?_;refine thn (ho pins s1 σ H1 v y u w _ I1 r r1 q1) λz s2 ⟨zv,H2,I2,r2,q2⟩=>?_;exact OQ I2 hN hi hx r2 (λs3 I3=>⟨_,H2,I3,q2⟩) hf
 rcases l with ⟨hk,hm⟩|⟨hk,c,hc,hcell⟩
 ·exact wpAny_loadName_local I.ok.kind hk hn hm go
 ·rcases hk with hk|hk
  ·exact wpAny_loadName_cell I.ok.kind hk hc hcell go
  ·rcases hx with k|k
   ·have:X.env.scope.names.lookup x=some .free:=hk;rw[k]at this;cases this
   ·have:X.env.scope.names.lookup x=some .free:=hk;rw[k]at this;cases this
end
section
variable{X:Cx}{pos:Pos}
noncomputable def EJ(c:TT)(tb:TS):TS:=λD σ H=>∃W:Nat->St->Hp->Prop,(∃m,W m σ H)/\∀m σ H,W m σ H ->
 c σ H λb H1=>if b=true then ∃N:St->Hp->Prop,(∀σ' H',N σ' H'->∃m',m'<m/\W m' σ' H')/\tb {D with nx:=N,ct:=N,bk:=D.nx} σ H1 else D.nx σ H1
theorem Aq{c:Us}{body:List Stmt}{tc:TT}{tb:TS}(hp:PassesOwn (model X.prog X.w) X.A X.env X.xe)(hc:PT X c tc)(hb:PSs X body tb):PS X (.While c body [] pos) (EJ tc tb):=by
 intro pins s σ H D I h;obtain⟨W,⟨m0,w0⟩,turn⟩:=h;refine wpAny_While (codeAny_whileLoop (λn s'=>∃σ' H',Inv X pins σ' H' s'/\W n σ' H') ?_ m0 ⟨σ,H,I,w0⟩);rintro n s1 ⟨σ1,H1,I1,w1⟩;refine Js hp (thn (hc pins s1 σ1 H1 _ I1 (turn n σ1 H1 w1)) λb s2 ⟨H2,I2,q2⟩=>?_);cases b with
 |true=>
  obtain⟨N,hN,q2⟩:=q2;rw[Qp rfl];refine Js hp (thn (hb pins s2 σ1 H2 _ I2 q2) λf s3 q3=>?_);cases f with
  |next=>obtain⟨σ3,H3,I3,n3⟩:=q3;obtain⟨m',hm,w3⟩:=hN σ3 H3 n3;exact⟨m',hm,σ3,H3,I3,w3⟩
  |cont=>obtain⟨σ3,H3,I3,n3⟩:=q3;obtain⟨m',hm,w3⟩:=hN σ3 H3 n3;exact⟨m',hm,σ3,H3,I3,w3⟩
  |brk=>exact q3
  |ret v=>exact q3
 |false=>rw[Qz Ji];exact wpAny_execs_nil ⟨σ1,H2,I2,q2⟩
end
structure It where
 go:Nat->Hp->Prop
 yld:Nat->Hp->V->Hp->Prop
 stop:Nat->Hp->Prop
def ZB(X:Cx)(pins:List (Uq×Obj))(H:Hp)(b:Uq):Prop:=
 H b=none/\b≠X.env.locals/\b∉X.fs/\(b∈X.ex∨X.s₀.heap.objs.size<=b)/\(∀x c,X.env.cells.lookup x=some c->c≠b)/\∀p∈X.pn++pins,p.1≠b
theorem Inv.fpOk{X:Cx}{pins:List (Uq×Obj)}{σ:St}{H H':Hp}{s:Uo}{b:Uq}(I:Inv X pins σ H s)(hb:s.heap.objs.size<=b)(hn:H' b=none):ZB X pins H' b:=by
 refine⟨hn,JT (QF I.lt hb),I.nofs hb,.inr (QM I.sz hb),λx c e z=>?_,λp hp z=>?_⟩
 ·obtain⟨v,q⟩:=I.cell x c e;exact absurd (QF q.lt (by rw[z];exact hb)) (Jo _)
 ·exact absurd (QF (Qi (I.pin p hp).1) (by rw[z];exact hb)) (Jo _)
structure Turn(P:Up)(w:World)(K:Frag)(tg:Us)(J:It)(fp:List Uq)(it:Uq)(tn:Nat->Heap->Prop):Prop where
 mem:it∈fp
 obj:∀i h,tn i h->∀b∈fp,∃o,h.get? b=some o/\∀v,o.data≠.cell v
 keep:∀i h h',tn i h->(∀b∈fp,∀o,h.get? b=some o->h'.get? b=some o)->tn i h'
 item:∀(X:Cx),X.prog=P->X.w=w->X.K=K->X.calm=true->∀(i:Nat)(pins:List (Uq×Obj))(s:Uo)(σ:St)(H:Hp)(E:Um->Uo->Prop),Inv X pins σ H s->(∀b∈fp,ZB X pins H b)->tn i s.heap->J.go i H ->
  Uu (model P w) X.A (pyNext (.ref it)) (λr s1=>∃u,r=some u /\
   Uu (model P w) X.A (letOwnedTupleGo tg (.ref it) u) (λ_ s2=>∃x H',Inv X pins σ H' s2/\RelV x u/\J.yld i H x H'/\tn (i+1) s2.heap/\∀b∈fp,H' b=none) E s1) E s
 done:∀(X:Cx),X.prog=P->X.w=w->X.K=K->X.calm=true->∀(i:Nat)(pins:List (Uq×Obj))(s:Uo)(σ:St)(H:Hp)(E:Um->Uo->Prop),Inv X pins σ H s->(∀b∈fp,ZB X pins H b)->tn i s.heap->J.stop i H ->
  Uu (model P w) X.A (pyNext (.ref it)) (λr s1=>r=none/\Inv X pins σ H s1) E s
 self:∀(A:Around)(i:Nat)(s:Uo)(Q:Um->Uo->Prop)(E:Um->Uo->Prop),tn i s.heap->Q (.ref it) s->Uu (model P w) A (pyIter (.ref it)) Q E s
abbrev TI:=St->Hp->(It->Hp->Prop)->Prop
def PIE(X:Cx)(pins:List (Uq×Obj))(σ:St)(tg:Us)(R:It->Hp->Prop)(itv:Um)(s2:Uo):Prop:=
 ∃(it:Uq)(fp:List Uq)(tn:Nat->Heap->Prop)(J:It)(H':Hp),itv=.ref it/\Inv X pins σ H' s2/\Turn X.prog X.w X.K tg J fp it tn/\tn 0 s2.heap/\(∀b∈fp,ZB X pins H' b)/\R J H'
def PI(X:Cx)(tg iter:Us)(wi:TI):Prop:=
 ∀(pins:List (Uq×Obj))(s:Uo)(σ:St)(H:Hp)(R:It->Hp->Prop),Inv X pins σ H s->wi σ H R ->
  Uu (model X.prog X.w) X.A (eval iter X.env) (λv s1=>Uu (model X.prog X.w) X.A (pyIter v) (PIE X pins σ tg R) X.xe s1) X.xe s
theorem RB{M:Model}{A:Around}{E:Um->Uo->Prop}{s:Uo}{tg:Us}{it:Uq}{u:Um}{o:Obj}{n:String}{vs:Array Um}{Q:Unit->Uo->Prop}(ho:s.heap.get? it=some o)(hc:o.cls=.type n)(hd:o.data=.fields vs)
  (hn:["enumerate", "zip", "dict_itemiterator", "dict_reverseitemiterator", "odict_iterator", "itertools.zip_longest", "itertools.pairwise"].contains n=false) (hQ:Q () s):Uu M A (letOwnedTupleGo tg (.ref it) u) Q E s:=by
 unfold letOwnedTupleGo
 cases tg<;>first
  |exact Qh hQ
  |(cases u<;>first
    |exact Qh hQ
    |(
      refine Qd (wpAny_load ho ?_);rw[hc,hd];show Uu M A (if(["enumerate", "zip", "dict_itemiterator", "dict_reverseitemiterator", "odict_iterator", "itertools.zip_longest", "itertools.pairwise"].contains n&&vs[0]?==some (rawInt _))=true then _ else _) Q E s;rw[Qz (by intro h;rw[hn,Bool.false_and]at h;cases h)];exact Qh hQ))
noncomputable def Itl(K:Frag)(a:Uq):It:=
 ⟨λi H=>∃xs x,SqL K H a xs/\xs[i]?=some x,λi H x H'=>H'=H/\∀xs,SqL K H a xs->xs[i]?=some x,λi H=>∃xs,SqL K H a xs/\xs.length<=i⟩
noncomputable def Itt(K:Frag)(a:Uq):It:=
 ⟨λi H=>∃xs x,SqT K H a xs/\xs[i]?=some x,λi H x H'=>H'=H/\∀xs,SqT K H a xs->xs[i]?=some x,λi H=>∃xs,SqT K H a xs/\xs.length<=i⟩
noncomputable def Itr(lo:Int)(n:Nat):It:=⟨λi _=>i<n,λi H x H'=>H'=H/\x=.int (lo+i),λi _=>n<=i⟩
theorem jE{P:Up}{w:World}{K:Frag}{tg:Us}(a it:Uq):Turn P w K tg (Itl K a) [it] it (λi h=>h.IsListIter it a i) where
 mem:=by simp
 obj:=λi h st b hb=>by
  have e:b=it:=by simpa using hb
  subst e;obtain⟨o,e,c,d⟩:=st;exact⟨o,e,λv z=>by rw[d]at z;cases z⟩
 keep:=λi h h' st k=>st.at λo e=>k it (by simp) o e
 item:=by
  intro X hP hw hK hc i pins s σ H E I hf st hg;subst hP hw hK;obtain⟨xs,x,hq,hx⟩:=hg;obtain⟨its,rv,p,hz⟩:=I.list hq;obtain⟨u,hu,ru⟩:=rv.get hx;obtain⟨f0,f1,f2,f3,f4,f5⟩:=hf it (by simp);refine wpAny_pyNext_list_item st p.isList (x:=u) (by simpa using hu) λh' st' sb=>?_
  have I1:Inv X pins σ H {s with heap:=h'}:=I.turned (t':=s.toks) (λb o hb e=>(sb.2 b hb).trans e) f0 f1 f3 f4 f5;obtain⟨o,e,c,d⟩:=id st';exact⟨u,rfl,RB (s:={s with heap:=h'}) e c d (by decide) ⟨x,H,I1,ru,⟨rfl,λys hy=>by rw[I.list_inj hy hq];exact hx⟩,st',λb hb=>(hf b hb).1⟩⟩
 done:=by intro X hP hw hK hc i pins s σ H E I hf st hg;subst hP hw hK;obtain⟨xs,hq,hx⟩:=hg;obtain⟨its,rv,p,hz⟩:=I.list hq;obtain⟨f0,f1,f2,f3,f4,f5⟩:=hf it (by simp);have hl:=rv.length;exact wpAny_pyNext_list_end (I.ok.hd hc) st p.isList (by simp;omega) λh' eb=>⟨rfl,I.turned (t':=s.toks) (λb o hb e=>eb b o hb e) f0 f1 f3 f4 f5⟩
 self:=λ_ _ _ _ _ st h=>wpAny_pyIter_listiter st h
theorem jP{P:Up}{w:World}{K:Frag}{tg:Us}(a it:Uq):Turn P w K tg (Itt K a) [it] it (λi h=>h.IsTupleIter it a i) where
 mem:=by simp
 obj:=λi h st b hb=>by
  have e:b=it:=by simpa using hb
  subst e;obtain⟨o,e,c,d⟩:=st;exact⟨o,e,λv z=>by rw[d]at z;cases z⟩
 keep:=λi h h' st k=>st.at λo e=>k it (by simp) o e
 item:=by
  intro X hP hw hK hc i pins s σ H E I hf st hg;subst hP hw hK;obtain⟨xs,x,hq,hx⟩:=hg;obtain⟨its,rv,p,hz⟩:=I.tuple hq;obtain⟨u,hu,ru⟩:=rv.get hx;obtain⟨f0,f1,f2,f3,f4,f5⟩:=hf it (by simp);refine wpAny_pyNext_tuple_item st (show s.heap.IsTuple a its.toArray from p) (x:=u) (by simpa using hu) λh' st' sb=>?_
  have I1:Inv X pins σ H {s with heap:=h'}:=I.turned (t':=s.toks) (λb o hb e=>(sb.2 b hb).trans e) f0 f1 f3 f4 f5;obtain⟨o,e,c,d⟩:=id st';exact⟨u,rfl,RB (s:={s with heap:=h'}) e c d (by decide) ⟨x,H,I1,ru,⟨rfl,λys hy=>by rw[I.tuple_inj hy hq];exact hx⟩,st',λb hb=>(hf b hb).1⟩⟩
 done:=by intro X hP hw hK hc i pins s σ H E I hf st hg;subst hP hw hK;obtain⟨xs,hq,hx⟩:=hg;obtain⟨its,rv,p,hz⟩:=I.tuple hq;obtain⟨f0,f1,f2,f3,f4,f5⟩:=hf it (by simp);have hl:=rv.length;exact wpAny_pyNext_tuple_end (I.ok.hd hc) st (show s.heap.IsTuple a its.toArray from p) (by simp;omega) λh' eb=>⟨rfl,I.turned (t':=s.toks) (λb o hb e=>eb b o hb e) f0 f1 f3 f4 f5⟩
 self:=λ_ _ _ _ _ st h=>wpAny_pyIter_tupleiter st h
theorem jO{P:Up}{w:World}{K:Frag}{tg:Us}(it:Uq)(lo:Int)(n:Nat):Turn P w K tg (Itr lo n) [it] it (λi h=>IsRangeIter h it (lo+(i:Nat)*1) ((n:Int)-(i:Nat)) 1) where
 mem:=by simp
 obj:=λi h st b hb=>by
  have e:b=it:=by simpa using hb
  subst e;exact⟨_,st,λv z=>by have z':Data.fields _=Data.cell v:=z;cases z'⟩
 keep:=λi h h' st k=>k it (by simp) _ st
 item:=by
  intro X hP hw hK hc i pins s σ H E I hf st hg;subst hP hw hK;obtain⟨f0,f1,f2,f3,f4,f5⟩:=hf it (by simp);have W:=Walks.range (prog:=X.prog) (w:=X.w) (I.ok.hd hc) it lo 1 n;refine W.item i s _ _ hg st λv h' tk hv st' kk=>?_
  obtain⟨t,rfl⟩:=hv;have I1:Inv X pins σ H {s with heap:=h',toks:=tk}:=I.turned (λb o hb e=>kk b o (by simpa using hb) e) f0 f1 f3 f4 f5;refine⟨_,rfl,RB (s:={s with heap:=h',toks:=tk}) (n:= "range_iterator") st' rfl rfl (by decide) ⟨.int (lo+i),H,I1,⟨t,?_⟩,⟨rfl,rfl⟩,st',λb hb=>(hf b hb).1⟩⟩;rw[Int.mul_one]
 done:=by intro X hP hw hK hc i pins s σ H E I hf st hg;subst hP hw hK;obtain⟨f0,f1,f2,f3,f4,f5⟩:=hf it (by simp);exact wpAny_pyNext_range_end (I.ok.hd hc) st (by have:n<=i:=hg;omega) λh' eb=>⟨rfl,I.turned (t':=s.toks) (λb o hb e=>eb b o hb e) f0 f1 f3 f4 f5⟩
 self:=λ_ _ _ _ _ st h=>wpAny_pyIter_rangeiter st h
section
variable{X:Cx}{tg:Us}
theorem LD{pins:List (Uq×Obj)}{σ:St}{H:Hp}{s:Uo}{R:It->Hp->Prop}{E:Um->Uo->Prop}{lo hi:Int}{t u v:Tok}{tk:Nat}(I:Inv X pins σ H s)(h1 : -(2 ^ 62)<=lo)(h2:lo<2 ^ 62)(h3 : -(2 ^ 62)<=hi)(h4:hi<2 ^ 62)
  (q:R (Itr lo (hi-lo).toNat) H):Uu (model X.prog X.w) X.A (pyIter (.ref s.heap.objs.size)) (PIE X pins σ tg R) E {s with heap:=s.heap.push {cls:=.type "range", data:=.fields #[.int lo t,.int hi u,.int 1 v]},toks:=tk}:=by
 refine wpAny_pyIter_range (IsRange.new ..) (small_one h1 h2 h3 h4) ?_;have I1:Inv X pins σ H {s with heap:=s.heap.push {cls:=.type "range", data:=.fields #[.int lo t,.int hi u,.int 1 v]},toks:=tk}:=I.kept λb o e=>Qm _ e
 refine⟨(s.heap.push {cls:=.type "range", data:=.fields #[.int lo t,.int hi u,.int 1 v]}).objs.size,[(s.heap.push {cls:=.type "range", data:=.fields #[.int lo t,.int hi u,.int 1 v]}).objs.size],_,_,H,rfl,
  I1.kept (t':=tk) λb o e=>Qm _ e,jO _ lo (hi-lo).toNat,?_,λb hb=>?_,q⟩
 ·have e1:lo+((0:Nat):Int)*1=lo:=by simp
  have e2:(((hi-lo).toNat:Nat):Int)-((0:Nat):Int)=Builtin.Range.rangeSize lo hi 1:=by rw[rangeSize_one];split<;>omega
  show IsRangeIter _ _ (lo+((0:Nat):Int)*1) ((((hi-lo).toNat:Nat):Int)-((0:Nat):Int)) 1;rw[e1,e2];exact Qy _ rfl
 ·have e:b=(s.heap.push {cls:=.type "range", data:=.fields #[.int lo t,.int hi u,.int 1 v]}).objs.size:=by simpa using hb
  subst e;exact I1.fpOk (Qs _) (I1.hok.fresh (Qs _))
noncomputable def EE(ta:TA):TI:=λσ H R=>ta σ H λvs H1=>∃j:Int,vs=[.int j] /\ -(2 ^ 62)<=j/\j<2 ^ 62/\R (Itr 0 j.toNat) H1
noncomputable def ED(ta:TA):TI:=λσ H R=>ta σ H λvs H1=>∃i j:Int,vs=[.int i,.int j]/\(-(2 ^ 62)<=i/\i<2 ^ 62 /\ -(2 ^ 62)<=j/\j<2 ^ 62)/\R (Itr i (j-i).toNat) H1
theorem jD{a:Us}{ta:TA}{p pos:Pos}(hg:Gl X "range")(hm:X.mg "range" = none)(ha:PA X [a] ta)(hs:Uv [a] X.env=[(false,eval a X.env)]:=by rfl):PI X tg (.Call (.Name "range" p) [a] [] pos) (EE ta):=by
 intro pins s σ H R I h;refine Call_ (VG I hg hm boot_range (JA (thn (ha pos pins s σ H _ I h) λus s1 ⟨vs,H1,I1,r1,q1⟩=>?_) hs rfl));obtain⟨j,e,q1,q2,q⟩:=q1;subst e;cases r1 with
 |cons r rr=>cases rr;obtain⟨t,rfl⟩:=r;exact call_range_1 (LD I1 (by omega) (by omega) q1 q2 (by simpa using q))
theorem jC{a b:Us}{ta:TA}{p pos:Pos}(hg:Gl X "range")(hm:X.mg "range" = none)(ha:PA X [a,b] ta)(hs:Uv [a,b] X.env=[(false,eval a X.env),(false,eval b X.env)]:=by rfl)(hs2:Uv [b] X.env=[(false,eval b X.env)]:=by rfl) :
  PI X tg (.Call (.Name "range" p) [a,b] [] pos) (ED ta):=by
 intro pins s σ H R I h;refine Call_ (VG I hg hm boot_range (JA (thn (ha pos pins s σ H _ I h) λus s1 ⟨vs,H1,I1,r1,q1⟩=>?_) (by rw[hs,hs2]) (by rw[hs2];rfl)));obtain⟨i,j,e,⟨q1,q2,q3,q4⟩,q⟩:=q1;subst e;cases r1 with
 |cons r rr=>
  cases rr with
  |cons r' rr=>cases rr;obtain⟨t,rfl⟩:=r;obtain⟨t',rfl⟩:=r';exact call_range_2 (LD I1 q1 q2 q3 q4 q)
noncomputable def tFor(wi:TI)(g:TG)(tb:TS):TS:=λD σ H=>wi σ H λJ H1=>∃W:Nat->Nat->St->Hp->Prop,(∃m,W 0 m σ H1)/\∀i m σ H,W i m σ H ->
 (J.stop i H/\D.nx σ H)∨(J.go i H/\∃N:St->Hp->Prop,(∀σ' H',N σ' H'->∃m',m'<m/\W (i+1) m' σ' H')/\∀x H',J.yld i H x H'->g x σ H' λσ2 H2=>tb {D with nx:=N,ct:=N,bk:=D.nx} σ2 H2)
noncomputable def RH(fp:List Uq)(h:Heap):List (Uq×Obj):=fp.filterMap λb=>(h.get? b).map λo=>(b,o)
theorem PR{fp:List Uq}{h:Heap}{b:Uq}{o:Obj}(hb:b∈fp)(e:h.get? b=some o):(b,o)∈RH fp h:=Jj.mpr ⟨b,hb,by rw[e];rfl⟩
theorem jB{fp:List Uq}{h:Heap}{p:Uq×Obj}(hp:p∈RH fp h):p.1∈fp/\h.get? p.1=some p.2:=by
 obtain⟨b,hb,e⟩:=Jj.mp hp;cases q:h.get? b with
 |none=>rw[q]at e;cases e
 |some o=>rw[q]at e;have e':(b,o)=p:=QT e;subst e';exact⟨hb,q⟩
theorem Inv.pinned{pins:List (Uq×Obj)}{σ:St}{H:Hp}{s:Uo}{fp:List Uq}(I:Inv X pins σ H s)(hf:∀b∈fp,ZB X pins H b)(ho:∀b∈fp,∃o,s.heap.get? b=some o/\∀v,o.data≠.cell v):Inv X (pins++RH fp s.heap) σ H s:=
 I.pins_of λp hp=>(QR.mp hp).elim (λz=>I.pin p (QJ _ z)) λz=>by obtain⟨hb,e⟩:=jB z;obtain⟨f0,f1,f2,_⟩:=hf p.1 hb;obtain⟨o,e',d⟩:=ho p.1 hb;rw[e]at e';cases e';exact⟨e,f0,f1,f2,d⟩
theorem Inv.unpinned{pins pl:List (Uq×Obj)}{σ:St}{H:Hp}{s:Uo}(I:Inv X (pins++pl) σ H s):Inv X pins σ H s:=I.pins_of λp hp=>I.pin p (QJ _ (Q9 _ hp))
theorem Mk{iter:Us}{body:List Stmt}{wi:TI}{g:TG}{tb:TS}{pos:Pos}(hp:PassesOwn (model X.prog X.w) X.A X.env X.xe)(hc:X.calm=true)(hi:PI X tg iter wi)(hg:PG X tg g)(hb:PSs X body tb)
  (hs:∀x,UL iter X.env x=pure x:=by intro _;rfl):PS X (.For tg iter body [] pos) (tFor wi g tb):=by
 intro pins s σ H D I h;refine wpAny_For (thn (hi pins s σ H _ I h) λv s1 h1=>thn h1 λitv s2 h2=>?_) hs;obtain⟨it,fp,tn,J,H2,e,I2,T,st2,f2,W,⟨m0,w0⟩,turn⟩:=h2;subst e;have stat:∀{H':Hp},(∀b∈fp,H' b=none)->∀b∈fp,ZB X pins H' b:=λhn b hb=>⟨hn b hb,(f2 b hb).2⟩;refine codeAny_forLoop_any (λn s'=>∃i σ' H',Inv X pins σ' H' s'/\tn i s'.heap/\(∀b∈fp,H' b=none)/\W i n σ' H') ?_ m0 ⟨0,σ,H2,I2,st2,λb hb=>(f2 b hb).1,w0⟩;rintro n s3 ⟨i,σ3,H3,I3,st3,fr3,w3⟩;rcases turn i n σ3 H3 w3 with ⟨stop,qn⟩|⟨go,N,hN,step⟩
 ·refine Js hp (thn (T.done X rfl rfl rfl hc i pins s3 σ3 H3 X.xe I3 (stat fr3) st3 stop) λr s4 ⟨hr,I4⟩=>?_);subst hr;exact wpAny_execs_nil ⟨σ3,H3,I4,qn⟩
 ·refine Js hp (thn (T.item X rfl rfl rfl hc i pins s3 σ3 H3 X.xe I3 (stat fr3) st3 go) λr s4 ⟨u,hr,h4⟩=>?_);subst hr;refine Js hp (thn h4 λ_ s5 ⟨x,H5,I5,r5,y5,st5,fr5⟩=>?_);have I5':=I5.pinned (stat fr5) (T.obj _ _ st5);refine Js hp (thn (hg _ s5 σ3 H5 x u _ I5' r5 (step x H5 y5)) λ_ s6 ⟨σ6,H6,I6,q6⟩=>?_);refine Js hp (thn (hb _ s6 σ6 H6 _ I6 q6) λf s7 q7=>?_);have again:∀{σ7:St}{H7:Hp},Inv X (pins++RH fp s5.heap) σ7 H7 s7->N σ7 H7->∃m,m<n/\∃i σ' H',Inv X pins σ' H' s7/\tn i s7.heap/\(∀b∈fp,H' b=none)/\W i m σ' H':=λ{σ7 H7} I7 n7=>by obtain⟨m',hm,w7⟩:=hN σ7 H7 n7;refine⟨m',hm,i+1,σ7,H7,I7.unpinned,T.keep _ _ _ st5 λb hb o e=>(I7.pin (b,o) (QJ _ (QJ _ (PR hb e)))).1,λb hb=>?_,w7⟩;obtain⟨o,e,d⟩:=T.obj _ _ st5 b hb;exact(I7.pin (b,o) (QJ _ (QJ _ (PR hb e)))).2.1
  cases f with
  |next=>obtain⟨σ7,H7,I7,n7⟩:=q7;exact again I7 n7
  |cont=>obtain⟨σ7,H7,I7,n7⟩:=q7;exact again I7 n7
  |brk=>obtain⟨σ7,H7,I7,q7⟩:=q7;exact⟨σ7,H7,I7.unpinned,q7⟩
  |ret v=>obtain⟨x7,σ7,H7,I7,r7,q7⟩:=q7;exact⟨x7,σ7,H7,I7.unpinned,r7,q7⟩
end
abbrev R2:=V->V->Hp->VK->Prop
def OpR(X:Cx)(f:Um->Um->Sem Um)(r:R2):Prop:=
 ∀(pins:List (Uq×Obj))(s:Uo)(σ:St)(H:Hp)(x y:V)(v u:Um)(Q:VK),Inv X pins σ H s->RelV x v->RelV y u->r x y H Q ->
  Uu (model X.prog X.w) X.A (f v u) (EP X pins σ Q) X.xe s
def UnR(X:Cx)(f:Um->Sem Um)(r:V->Hp->VK->Prop):Prop:=
 ∀(pins:List (Uq×Obj))(s:Uo)(σ:St)(H:Hp)(x:V)(v:Um)(Q:VK),Inv X pins σ H s->RelV x v->r x H Q ->
  Uu (model X.prog X.w) X.A (f v) (EP X pins σ Q) X.xe s
def Yu(X:Cx)(f:Um)(r:List V->Hp->VK->Prop):Prop:=
 ∀(pins:List (Uq×Obj))(s:Uo)(σ:St)(H:Hp)(xs:List V)(us:List Um)(Q:VK),Inv X pins σ H s->Vals xs us->r xs H Q ->
  Uu (model X.prog X.w) X.A (call f us) (EP X pins σ Q) X.xe s
def TruR(X:Cx)(r:V->Hp->(Bool->Hp->Prop)->Prop):Prop:=
 ∀(pins:List (Uq×Obj))(s:Uo)(σ:St)(H:Hp)(x:V)(v:Um)(Q:Bool->Hp->Prop),Inv X pins σ H s->RelV x v->r x H Q ->
  Uu (model X.prog X.w) X.A (truthy v) (TP X pins σ Q) X.xe s
noncomputable def tOp(r:R2)(ta tb:TE):TE:=λσ H Q=>ta σ H λx H1=>tb σ H1 λy H2=>r x y H2 Q
noncomputable def tUn(r:V->Hp->VK->Prop)(ta:TE):TE:=λσ H Q=>ta σ H λx H1=>r x H1 Q
noncomputable def rI(C:Int->Int->Prop)(g:Int->Int->V):R2:=λx y H Q=>∃i j,x=.int i/\y=.int j/\C i j/\Q (g i j) H
noncomputable def rI0(g:Int->Int->V):R2:=λx y H Q=>∃i j,x=.int i/\y=.int j/\Q (g i j) H
noncomputable def rU(g:Int->V):V->Hp->VK->Prop:=λx H Q=>∃i,x=.int i/\Q (g i) H
section
variable{X:Cx}{a b c:Us}{ta tb tc:TE}{pos:Pos}
theorem Su(ha:PE X a ta)(hb:PE X b tb){pins:List (Uq×Obj)}{s:Uo}{σ:St}{H:Hp}{R:V->V->Hp->Prop}(I:Inv X pins σ H s)
  (h:ta σ H λx H1=>tb σ H1 λy H2=>R x y H2) {Q:Um->Uo->Prop} {f:Um->Um->Sem Um}
  (hf:∀v u s2 x y H2,Inv X pins σ H2 s2->RelV x v->RelV y u->R x y H2->Uu (model X.prog X.w) X.A (f v u) Q X.xe s2) :
  Uu (model X.prog X.w) X.A (eval a X.env) (λv s₁=>Uu (model X.prog X.w) X.A (eval b X.env) (λu s₂=>Uu (model X.prog X.w) X.A (f v u) Q X.xe s₂) X.xe s₁) X.xe s:=by
 refine thn (ha pins s σ H _ I h) λv s1 ⟨x,H1,I1,r1,q1⟩=>?_;refine thn (hb pins s1 σ H1 _ I1 q1) λu s2 ⟨y,H2,I2,r2,q2⟩=>?_;exact hf v u s2 x y H2 I2 r1 r2 q2
theorem NL{op:Operator}{r:R2}(ho:OpR X (binaryOp op) r)(ha:PE X a ta)(hb:PE X b tb):PE X (.BinOp a op b pos) (tOp r ta tb):=by intro pins s σ H Q I h;exact wpAny_BinOp (Su ha hb I h λv u s2 x y H2 I2 rx ry q=>ho pins s2 σ H2 x y v u Q I2 rx ry q)
theorem EC{op:UnaryOp}{r:V->Hp->VK->Prop}(ho:UnR X (unaryOp op) r)(ha:PE X a ta):PE X (.UnaryOp op a pos) (tUn r ta):=by intro pins s σ H Q I h;exact UnaryOp_ (thn (ha pins s σ H _ I h) λv s1 ⟨x,H1,I1,r1,q1⟩=>ho pins s1 σ H1 x v Q I1 r1 q1)
theorem opI{f:Um->Um->Sem Um}{C:Int->Int->Prop}{g:Int->Int->Int}
  (rule:∀(i j:Int)(t u:Tok)(s:Uo)(Q:Um->Uo->Prop)(E:Um->Uo->Prop),C i j->Q (.int (g i j) s.toks) {s with toks:=s.toks+1}->Uu (model X.prog X.w) X.A (f (.int i t) (.int j u)) Q E s) :
  OpR X f (rI C λi j=>.int (g i j)):=by
 intro pins s σ H x y v u Q I rx ry h;obtain⟨i,j,rfl,rfl,hc,q⟩:=h;obtain⟨t,rfl⟩:=rx;obtain⟨t',rfl⟩:=ry;exact rule i j t t' s _ _ hc ⟨.int (g i j),H,I.tok _,⟨_,rfl⟩,q⟩
theorem opI0{f:Um->Um->Sem Um}{g:Int->Int->Int}
  (rule:∀(i j:Int)(t u:Tok)(s:Uo)(Q:Um->Uo->Prop)(E:Um->Uo->Prop),Q (.int (g i j) s.toks) {s with toks:=s.toks+1}->Uu (model X.prog X.w) X.A (f (.int i t) (.int j u)) Q E s) :
  OpR X f (rI0 λi j=>.int (g i j)):=by
 intro pins s σ H x y v u Q I rx ry h;obtain⟨i,j,rfl,rfl,q⟩:=h;obtain⟨t,rfl⟩:=rx;obtain⟨t',rfl⟩:=ry;exact rule i j t t' s _ _ ⟨.int (g i j),H,I.tok _,⟨_,rfl⟩,q⟩
theorem WG{f:Um->Um->Sem Um}{g:Int->Int->Bool}
  (rule:∀(i j:Int)(t u:Tok)(s:Uo)(Q:Um->Uo->Prop)(E:Um->Uo->Prop),Q (.bool (g i j)) s->Uu (model X.prog X.w) X.A (f (.int i t) (.int j u)) Q E s) :
  OpR X f (rI0 λi j=>.bl (g i j)):=by
 intro pins s σ H x y v u Q I rx ry h;obtain⟨i,j,rfl,rfl,q⟩:=h;obtain⟨t,rfl⟩:=rx;obtain⟨t',rfl⟩:=ry;exact rule i j t t' s _ _ ⟨.bl (g i j),H,I,rfl,q⟩
def CPow(i j:Int):Prop:=0<=j/\j<=1000000/\i.natAbs<2 ^ 64
def CMul(i j:Int):Prop:=(-(2 ^ 64)<i/\i<2 ^ 64)∨(-(2 ^ 64)<j/\j<2 ^ 64)
theorem CMul.ok{i j:Int}(h:CMul i j):IntMulOk i j:=by
 rcases h with ⟨h1,h2⟩|⟨h1,h2⟩
 ·exact .of_left (intBits_le_64 h1 h2)
 ·exact .of_right (intBits_le_64 h1 h2)
theorem EI:OpR X (binaryOp .Add) (rI0 λi j=>.int (i+j)):=opI0 λ_ _ _ _ _ _ _ q=>add_int q
theorem Dq:OpR X (binaryOp .Sub) (rI0 λi j=>.int (i-j)):=opI0 λ_ _ _ _ _ _ _ q=>sub_int q
theorem Dp:OpR X (binaryOp .Mult) (rI CMul λi j=>.int (i*j)):=opI λ_ _ _ _ _ _ _ hc q=>mul_int q hc.ok
theorem Do:OpR X (binaryOp .Mod) (rI (λ_ j=>0<j) λi j=>.int (i % j)):=opI λi j _ _ _ _ _ hc q=>by have h1:(0:Int)<j:=hc;exact mod_int' (by omega) (by rw[Int.fmod_eq_emod_of_nonneg i (by omega)];exact q)
theorem Dm:OpR X (binaryOp .Pow) (rI CPow λi j=>.int (i ^ j.toNat)):=opI λ_ _ _ _ _ _ _ hc q=>pow_int_small hc.1 hc.2.1 hc.2.2 q
theorem CJ:OpR X (inplaceOp .Mult) (rI CMul λi j=>.int (i*j)):=opI λ_ _ _ _ _ _ _ hc q=>imul_int q hc.ok
theorem unI{f:Um->Sem Um}{g:Int->Int}
  (rule:∀(i:Int)(t:Tok)(s:Uo)(Q:Um->Uo->Prop)(E:Um->Uo->Prop),Q (.int (g i) s.toks) {s with toks:=s.toks+1}->Uu (model X.prog X.w) X.A (f (.int i t)) Q E s) :
  UnR X f (rU λi=>.int (g i)):=by
 intro pins s σ H x v Q I rx h;obtain⟨i,rfl,q⟩:=h;obtain⟨t,rfl⟩:=rx;exact rule i t s _ _ ⟨.int (g i),H,I.tok _,⟨_,rfl⟩,q⟩
theorem Dl:UnR X (unaryOp .USub) (rU λi=>.int (-i)):=unI λ_ _ _ _ _ q=>neg_int q
end
section
variable{X:Cx}{a b c:Us}{ta tb tc:TE}{pos:Pos}
theorem Mj{pins:List (Uq×Obj)}{σ:St}{H:Hp}{s:Uo}{Q:VK}{k k':Bool}(I:Inv X pins σ H s)(q:Q (.bl k) H)(e:k=k'):EP X pins σ Q (.bool k') s:=by subst e;exact⟨.bl k,H,I,rfl,q⟩
theorem EB:OpR X (Uw .Lt) (rI0 λi j=>.bl (decide (i<j))):=WG λ_ _ _ _ _ _ _ q=>lt_int q
theorem EA:OpR X (Uw .LtE) (rI0 λi j=>.bl (decide (i<=j))):=WG λ_ _ _ _ _ _ _ q=>le_int q
theorem Ez:OpR X (Uw .Gt) (rI0 λi j=>.bl (decide (j<i))):=WG λ_ _ _ _ _ _ _ q=>gt_int q
theorem Ey:OpR X (Uw .GtE) (rI0 λi j=>.bl (decide (j<=i))):=WG λ_ _ _ _ _ _ _ q=>ge_int q
theorem jA:OpR X (Uw .In) (λx y H Q=>∃i j,x=.str i/\y=.str j/\Q (.bl (!(Builtin.Str.occurrences j i 0 j.length 1).isEmpty)) H):=by intro pins s σ H x y v u Q I rx ry h;obtain⟨i,j,rfl,rfl,q⟩:=h;obtain⟨t,rfl⟩:=rx;obtain⟨t',rfl⟩:=ry;exact in_str (Mj I q rfl)
theorem kC:OpR X (Uw .NotIn) (λx y H Q=>∃i j,x=.str i/\y=.str j/\Q (.bl (!(!(Builtin.Str.occurrences j i 0 j.length 1).isEmpty))) H):=by intro pins s σ H x y v u Q I rx ry h;obtain⟨i,j,rfl,rfl,q⟩:=h;obtain⟨t,rfl⟩:=rx;obtain⟨t',rfl⟩:=ry;exact notIn_str (Mj I q rfl)
theorem OpR.or{f:Um->Um->Sem Um}{r r':R2}(h:OpR X f r)(h':OpR X f r'):OpR X f (λx y H Q=>r x y H Q∨r' x y H Q):=by
 intro pins s σ H x y v u Q I rx ry q;rcases q with q|q
 ·exact h pins s σ H x y v u Q I rx ry q
 ·exact h' pins s σ H x y v u Q I rx ry q
theorem Oh(b:Us){op:CmpOp}(h:op≠.In:=by decide)(h2:op≠.NotIn:=by decide):behindInMarks op b=false:=by
 have e1:(op==CmpOp.In)=false:=by cases op<;>first|rfl|exact absurd rfl h
 have e2:(op==CmpOp.NotIn)=false:=by cases op<;>first|rfl|exact absurd rfl h2
 cases b<;>simp[behindInMarks,e1,e2]
theorem Lr{op:CmpOp}{r:R2}(ho:OpR X (Uw op) r)(ha:PE X a ta)(hb:PE X b tb)(hm:behindInMarks op b=false):PE X (.Compare a [op] [b] pos) (tOp r ta tb):=by intro pins s σ H Q I h;exact wpAny_Compare1 (Su ha hb I h λv u s2 x y H2 I2 rx ry q=>ho pins s2 σ H2 x y v u Q I2 rx ry q) hm
noncomputable def NT(t:TE):TT:=λσ H Q=>t σ H λx H'=>∃k,x=.bl k/\Q k H'
theorem Ox{op:CmpOp}{r:R2}(ho:OpR X (Uw op) r)(ha:PE X a ta)(hb:PE X b tb)(hm:behindInMarks op b=false):PT X (.Compare a [op] [b] pos) (NT (tOp r ta tb)):=by
 intro pins s σ H Q I h
 refine wpAny_isTrue_Compare1 (thn (ha pins s σ H _ I h) λv s1 ⟨x,H1,I1,r1,q1⟩=>thn (hb pins s1 σ H1 _ I1 q1) λu s2 ⟨y,H2,I2,r2,q2⟩=>
  thn (ho pins s2 σ H2 x y v u _ I2 r1 r2 q2) λc s3 ⟨z,H3,I3,r3,k,e,q3⟩=>?_) hm
 subst e;cases r3;exact Q4 ⟨H3,I3,q3⟩
noncomputable def Mi(r r':R2)(ta tb tc:TE):TE:=λσ H Q=>ta σ H λx H1=>tb σ H1 λy H2=>r x y H2 λz H3=>∃k,z=.bl k /\
 (if k=true then tc σ H3 λw' H4=>r' y w' H4 Q else Q (.bl false) H3)
theorem Ap{op op':CmpOp}{r r':R2}(ho:OpR X (Uw op) r)(ho':OpR X (Uw op') r')(ha:PE X a ta)(hb:PE X b tb)(hc:PE X c tc)
  (hm:lastMarks [op,op'] [b,c]=false:=by with_unfolding_all rfl):PE X (.Compare a [op,op'] [b,c] pos) (Mi r r' ta tb tc):=by
 intro pins s σ H Q I h
 refine Compare_chain (thn (ha pins s σ H _ I h) λv s1 ⟨x,H1,I1,r1,q1⟩=>chain_link (thn (hb pins s1 σ H1 _ I1 q1) λu s2 ⟨y,H2,I2,r2,q2⟩=>
  thn (ho pins s2 σ H2 x y v u _ I2 r1 r2 q2) λd s3 ⟨z,H3,I3,r3,k,e,q3⟩=>?_)) hm
 subst e;cases r3;refine Q4 ?_;cases k with
 |false=>exact ite_ff ⟨.bl false,H3,I3,rfl,q3⟩
 |true=>exact ite_tt (chain_last (thn (hc pins s3 σ H3 _ I3 q3) λw' s4 ⟨z',H4,I4,r4,q4⟩=>ho' pins s4 σ H4 y z' u w' Q I4 r2 r4 q4))
theorem Ao{op op':CmpOp}{r r':R2}(ho:OpR X (Uw op) r)(ho':OpR X (Uw op') r')(ha:PE X a ta)(hb:PE X b tb)(hc:PE X c tc)
  (hm:lastMarks [op,op'] [b,c]=false:=by with_unfolding_all rfl):PT X (.Compare a [op,op'] [b,c] pos) (NT (Mi r r' ta tb tc)):=by
 intro pins s σ H Q I h
 refine isTrue_chain (thn (ha pins s σ H _ I h) λv s1 ⟨x,H1,I1,r1,q1⟩=>test_link (thn (hb pins s1 σ H1 _ I1 q1) λu s2 ⟨y,H2,I2,r2,q2⟩=>
  thn (ho pins s2 σ H2 x y v u _ I2 r1 r2 q2) λd s3 ⟨z,H3,I3,r3,k,e,q3⟩=>?_)) hm
 subst e;cases r3;refine Q4 ?_;cases k with
 |false=>obtain⟨k',e',q'⟩:=q3;cases e';exact ite_ff ⟨H3,I3,q'⟩
 |true=>refine ite_tt (test_last (thn (hc pins s3 σ H3 _ I3 q3) λw' s4 ⟨z',H4,I4,r4,q4⟩=>thn (ho' pins s4 σ H4 y z' u w' _ I4 r2 r4 q4) λd' s5 ⟨z2,H5,I5,r5,k2,e2,q5⟩=>?_));subst e2;cases r5;exact Q4 ⟨H5,I5,q5⟩
def TruV(K:Frag)(x:V)(H:Hp)(k:Bool):Prop:=
 match x with
 |.non=>k=false
 |.bl b=>k=b
 |.int i=>k=(i != 0)
 |.str y=>y.length<=Ut/\k=((y.length:Int) != 0)
 |.byt y=>y.size<=Ut/\k=((y.size:Int) != 0)
 |.ref p=>(∃xs,SqL K H p xs/\k = !xs.isEmpty)∨(∃xs,SqT K H p xs/\k = !xs.isEmpty) ∨ ∃kvs,H p=some (.dK kvs)/\k = !kvs.isEmpty
 |_=>False
theorem jN{κ:Type}{kvs:List (κ×V)}{vs:List (κ×Um)}(r:KV kvs vs):(!vs.isEmpty) = !kvs.isEmpty:=by cases r<;>rfl
theorem GC{xs:List V}{its:List Um}(r:Vals xs its):(!its.toArray.isEmpty) = !xs.isEmpty:=by cases r<;>simp
theorem RG:(Ut:Nat)<2 ^ 63:=by rw[sizeLine_eq];decide
theorem Dk:TruR X (λx H Q=>∃k,TruV X.K x H k/\Q k H):=by
 intro pins s σ H x v Q I rx h;obtain⟨k,e,q⟩:=h;have hl:=RG;have hs:Ut=16777216:=sizeLine_eq;cases x with
 |non=>cases rx;have e':k=false:=e;subst e';exact truthy_none ⟨H,I,q⟩
 |bl b=>cases rx;have e':k=b:=e;subst e';exact Q4 ⟨H,I,q⟩
 |int i=>obtain⟨t,rfl⟩:=rx;have e':k=(i != 0):=e;subst e';exact PySem.P.truthy_int ⟨H,I,q⟩
 |str y=>obtain⟨t,rfl⟩:=rx;obtain⟨hy,e'⟩:y.length<=Ut/\k=((y.length:Int) != 0):=e;subst e';exact PySem.P.truthy_str (by omega) ⟨H,I.tok _,q⟩
 |byt y=>obtain⟨t,rfl⟩:=rx;obtain⟨hy,e'⟩:y.size<=Ut/\k=((y.size:Int) != 0):=e;subst e';exact PySem.W.truthy_bytes (by omega) ⟨H,I.tok _,q⟩
 |ref p=>
  cases rx;have e':(∃xs,SqL X.K H p xs/\k = !xs.isEmpty)∨(∃xs,SqT X.K H p xs/\k = !xs.isEmpty) ∨ ∃kvs,H p=some (.dK kvs)/\k = !kvs.isEmpty:=e;rcases e' with ⟨xs,hx,e'⟩|⟨xs,hx,e'⟩|⟨kvs,hx,e'⟩
  ·subst e';obtain⟨its,r,pl,hz⟩:=I.list hx;have hlen:=r.length;exact wpAny_truthy_list pl.isList (by simp only[QH];omega) ⟨H,I.tok _,by rw[GC r];exact q⟩
  ·subst e';obtain⟨its,r,pl,hz⟩:=I.tuple hx;have hlen:=r.length;exact truthy_tuple pl (by simp only[QH];omega) ⟨H,I.tok _,by rw[GC r];exact q⟩
  ·subst e';obtain⟨hz,hS,vs,r,m⟩:kvs.length<=Ut/\(p==sysModules)=false/\∃vs,KV kvs vs/\s.heap.DictOf (YZ X.prog X.w) p vs:=I.hok p _ hx;have hlen:kvs.length=vs.length:=Paired.length r;exact wpAny_truthy_dict hS m (by omega) ⟨H,I.tok _,by rw[jN r];exact q⟩
 |_=>exact(show False from e).elim
theorem An(ha:PE X a ta)(he:∀whole,isTrue a X.env whole=(do let v ←whole;standAt a.pos;holding [v] (truthy v))) :
  PT X a (λσ H Q=>ta σ H λx H'=>∃k,TruV X.K x H' k/\Q k H'):=by
 intro pins s σ H Q I h;exact isTrue_plain (thn (ha pins s σ H _ I h) λv s1 ⟨x,H1,I1,r1,q1⟩=>Dk pins s1 σ H1 x v Q I1 r1 q1) (he _)
theorem jM:OpR X (binaryOp .Add) (λx y H Q=>∃i j,x=.str i/\y=.str j/\i.length+j.length<=Ut/\Q (.str (i++j)) H):=by intro pins s σ H x y v u Q I rx ry h;obtain⟨i,j,rfl,rfl,hz,q⟩:=h;obtain⟨t,rfl⟩:=rx;obtain⟨t',rfl⟩:=ry;exact add_str (λt' tk=>⟨.str (i++j),H,I.tok _,⟨_,rfl⟩,q⟩) hz
theorem Pc{x:V}{us:List Um}(r:Vals [x] us):∃u,us=[u]/\RelV x u:=by
 cases r with
 |cons r1 r2=>cases r2;exact⟨_,rfl,r1⟩
theorem P5{x y:V}{us:List Um}(r:Vals [x,y] us):∃u w',us=[u,w']/\RelV x u/\RelV y w':=by
 cases r with
 |cons r1 r2=>
  cases r2 with
  |cons r3 r4=>cases r4;exact⟨_,_,rfl,r1,r3⟩
theorem ql(hc:X.calm=true):Yu X (.builtin "max") (λxs H Q=>∃i j,xs=[.int i,.int j]/\Q (.int (if j > i then j else i)) H):=by
 intro pins s σ H xs us Q I r h;obtain⟨i,j,rfl,q⟩:=h;obtain⟨u,w',rfl,⟨t,rfl⟩,⟨t',rfl⟩⟩:=P5 r;refine max_two_ints (I.ok.hd hc) λh' tk k=>⟨_,H,I.kept k,?_,q⟩
 by_cases hj:j > i
 ·rw[Qp hj,Qp hj];exact⟨_,rfl⟩
 ·rw[Qz hj,Qz hj];exact⟨_,rfl⟩
theorem qk:Yu X (.type "int") (λxs H Q=>(∃i,xs=[.int i]/\Q (.int i) H) ∨ ∃k,xs=[.bl k]/\Q (.int (if k then 1 else 0)) H):=by
 intro pins s σ H xs us Q I r h;rcases h with ⟨i,rfl,q⟩|⟨k,rfl,q⟩
 ·obtain⟨u,rfl,t,rfl⟩:=Pc r;exact call_int_int ⟨.int i,H,I,⟨_,rfl⟩,q⟩
 ·obtain⟨u,rfl,r1⟩:=Pc r;cases r1;exact call_int_bool ⟨.int (if k then 1 else 0),H,I.tok _,⟨_,rfl⟩,q⟩
def LenV(K:Frag)(x:V)(H:Hp)(n:Nat):Prop:=
 match x with
 |.str y=>y.length<=Ut/\n=y.length
 |.byt y=>y.size<=Ut/\n=y.size
 |.ref p=>(∃xs,SqL K H p xs/\n=xs.length) ∨ ∃xs,SqT K H p xs/\n=xs.length
 |_=>False
theorem LC:Yu X (.builtin "len") (λxs H Q=>∃x n,xs=[x]/\LenV X.K x H n/\Q (.int n) H):=by
 intro pins s σ H xs us Q I r h;obtain⟨x,n,rfl,e,q⟩:=h;obtain⟨u,rfl,rx⟩:=Pc r;have hl:=RG;have hs:Ut=16777216:=sizeLine_eq;cases x with
 |str y=>obtain⟨t,rfl⟩:=rx;obtain⟨hy,e'⟩:y.length<=Ut/\n=y.length:=e;subst e';exact len_str (by omega) ⟨.int _,H,I.tok _,⟨_,rfl⟩,q⟩
 |byt y=>obtain⟨t,rfl⟩:=rx;obtain⟨hy,e'⟩:y.size<=Ut/\n=y.size:=e;subst e';exact PySem.W.len_bytes (by omega) ⟨.int _,H,I.tok _,⟨_,rfl⟩,q⟩
 |ref p=>
  cases rx;have e':(∃xs,SqL X.K H p xs/\n=xs.length) ∨ ∃xs,SqT X.K H p xs/\n=xs.length:=e;rcases e' with ⟨xs,hx,e'⟩|⟨xs,hx,e'⟩
  ·subst e';obtain⟨its,r',pl,hz⟩:=I.list hx;have hlen:=r'.length;exact Calls.call_len_list pl.isList (by simp only[QH];omega) ⟨.int xs.length,H,I.tok _,⟨_,by simp only[QH];rw[hlen]⟩,q⟩
  ·subst e';obtain⟨its,r',pl,hz⟩:=I.tuple hx;have hlen:=r'.length;exact len_tuple pl (by simp only[QH];omega) ⟨.int xs.length,H,I.tok _,⟨_,by simp only[QH];rw[hlen]⟩,q⟩
 |_=>exact(show False from e).elim
end
section
variable{prog:Up}{w:World}{A:Around}{E:Um->Uo->Prop}{s:Uo}{K:Frag}{x dx C f:Uq}{mA:Str->Option Um}{name:Str}{v:Um}
end
theorem RelO.some_of{v:V}{o:Option Um}(r:RelO (some v) o):∃u,o=some u/\RelV v u:=by
 cases o with
 |none=>exact(show False from r).elim
 |some u=>exact⟨u,rfl,r⟩
section
variable{P:Up}{w:World}{H H':Hp}{h h':Heap}{a C dx:Uq}{fs fs':List (Str×V)}
end
section
variable{X:Cx}{pins:List (Uq×Obj)}{σ:St}{H:Hp}{s:Uo}{a C dx:Uq}{fs:List (Str×V)}{f:Str}{v:V}{A:Around}{E:Um->Uo->Prop}
end
section
variable{X:Cx}{o e value:Us}{f:Str}{pos pos' tpos:Pos}{ta tv:TE}
end
section
variable{X:Cx}{pins:List (Uq×Obj)}{σ:St}{H:Hp}{s:Uo}{A:Around}{E:Um->Uo->Prop}{Q:Um->Uo->Prop}{c:Um}{b:Bool}
end
structure Room(k:Nat)(A:Around):Prop where
 hd:A.handled=none
 dp:A.depth+3*k+5<recursionLimit
 un:A.units+16*k+200<cLine
 gd:A.guards=some []
theorem Room.mono{j k:Nat}{A:Around}(r:Room k A)(h:j<=k):Room j A:=⟨r.hd,by have:=r.dp;omega,by have:=r.un;omega,r.gd⟩
theorem Room.deeper{k:Nat}{A:Around}(r:Room (k+1) A)(env:Env):Room k (A.deeper env):=
 ⟨r.hd,by have:=r.dp;show A.depth+1+3*k+5<_;omega,by have:=r.un;show A.units+3+16*k+200<_;omega,r.gd⟩
theorem Room.depth{k:Nat}{A:Around}(r:Room k A):A.depth<recursionLimit:=by have:=r.dp;omega
theorem Room.units{k:Nat}{A:Around}(r:Room k A):A.units+64<cLine:=by have:=r.un;omega
noncomputable def tNil:TA:=λ_ H Q=>Q [] H
noncomputable def Fl(ta:TE)(tr:TA):TA:=λσ H Q=>ta σ H λx H1=>tr σ H1 λxs H2=>Q (x::xs) H2
section
variable{X:Cx}{e:Us}{es:List Us}{te:TE}{t:TA}{pos:Pos}
theorem Ws:PA X [] tNil:=λ_ _ _ _ H Q I h=>Calls.spliced_nil ⟨[],H,I,.nil,h⟩
theorem XG(ha:PE X e te)(hr:PA X es t)(hs:Uv (e::es) X.env=(false,eval e X.env)::Uv es X.env:=by rfl):PA X (e::es) (Fl te t):=by intro pos pins s σ H Q I h;rw[hs];show Uu _ _ (spliced ((false,eval e X.env)::backTo pos (Uv es X.env))) _ _ s;refine Calls.spliced_cons (thn (ha pins s σ H _ I h) λu s1 ⟨x,H1,I1,r1,q1⟩=>?_);exact thn (hr pos pins s1 σ H1 _ I1 q1) λus s2 ⟨xs,H2,I2,r2,q2⟩=>⟨x::xs,H2,I2,.cons r1 r2,q2⟩
noncomputable def tTup(t:TA):TE:=λσ H Q=>t σ H λxs H1=>xs.length<=Ut/\∀p,H1 p=none->Q (.ref p) (upd H1 p (.tup xs))
noncomputable def tLst(t:TA):TE:=λσ H Q=>t σ H λxs H1=>xs.length<=Ut/\∀p,H1 p=none->Q (.ref p) (upd H1 p (.lst xs))
theorem Mh{x1}(h:PA X es t):PE X (.Tuple es x1 pos) (tTup t):=by intro pins s σ H Q I hq;refine wpAny_Tuple_spliced (thn (h pos pins s σ H _ I hq) λus s1 ⟨xs,H1,I1,r,z,q⟩=>⟨by rw[←r.length];exact z,?_⟩);have hf:H1 s1.heap.objs.size=none:=I1.hok.fresh (Qs _);refine⟨.ref s1.heap.objs.size,upd H1 s1.heap.objs.size (.tup xs),I1.laid (t':=s1.toks) (λb u e=>Qm _ e) (Qs _) ?_,rfl,q _ hf⟩;exact⟨z,us,r,⟨_,Qy _ rfl,rfl,_,rfl⟩⟩
theorem Mg(h:PA X es t):PE X (.List es pos) (tLst t):=by intro pins s σ H Q I hq;refine wpAny_List_spliced (thn (h pos pins s σ H _ I hq) λus s1 ⟨xs,H1,I1,r,z,q⟩=>⟨by rw[←r.length];exact z,?_⟩);have hf:H1 s1.heap.objs.size=none:=I1.hok.fresh (Qs _);refine⟨.ref s1.heap.objs.size,upd H1 s1.heap.objs.size (.lst xs),I1.laid (t':=s1.toks) (λb u e=>Qm _ e) (Qs _) ?_,rfl,q _ hf⟩;exact⟨z,us,0,r,Qy _ rfl⟩
end
abbrev Sp:=List V->Hp->VK->XK->Prop
abbrev CXT:=List Env->Hp->Uo->XK->Um->Uo->Prop
structure Env0(P:Up)(w:World)(K:Frag)(mg:Str->Option Um)(base:Heap)(A:Around)(outer:List Env)(s:Uo)(H:Hp):Prop where
 frames:A.frames=some outer
 mod:Mod K mg base
 bs:∀b o,base.get? b=some o->s.heap.get? b=some o/\H b=none
 bsz:base.objs.size<=s.heap.objs.size
 funs:s.heap.FunFrames base outer
 frf:∀b∈frs outer,H b=none
 hok:HOk P w H s.heap
 bare:AllBare s.gens
def CE(outer:List Env)(P:Up)(w:World)(H:Hp)(s:Uo)(Q:VK)(u:Um)(s':Uo):Prop:=
 ∃v H',s'.os=s.os/\AllBare s'.gens/\Un (frs outer) [] H H' s.heap s'.heap/\HOk P w H' s'.heap/\RelV v u/\Q v H'
def CR(CX:CXT)(outer:List Env)(P:Up)(w:World)(H:Hp)(s:Uo)(Q:VK)(E:XK)(r:Result)(s':Uo):Prop:=
 match r with
 |.ok (.ret u)=>CE outer P w H s Q u s'
 |.ok _=>False
 |.error e=>CX outer H s E e s'
structure FnOk(P:Up)(w:World)(K:Frag)(mg:Str->Option Um)(base:Heap)(CX:CXT)(k:Nat)(f:Uq)(fd:Ur)(ps:List Str)(sp:Sp):Prop where
 len:∀vs H Q E,sp vs H Q E->vs.length=ps.length
 run:∀(A:Around)(outer:List Env)(s:Uo)(H:Hp)(args:Args)(us:List Um)(vs:List V)(Q:VK)(E:XK),Room k A->Env0 P w K mg base A outer s H->BindsTo s fd args (ps.zip us)->Vals vs us->sp vs H Q E ->
  codeAny (model P w) A (.call (.ref f) args) (CR CX outer P w H s Q E) s
section
variable{X:Cx}{pins:List (Uq×Obj)}{σ:St}{H:Hp}{s s':Uo}
theorem Inv.env0(I:Inv X pins σ H s):Env0 X.prog X.w X.K X.mg X.base X.A X.stack s H:=
 ⟨I.ok.frames,I.ok.mod,I.bs,QM I.ok.bsz I.sz,I.stack,I.stkFree,I.hok,I.bare⟩
theorem Inv.after{Q:VK}{u:Um}(I:Inv X pins σ H s)(h:CE X.stack X.prog X.w H s Q u s'):EP X pins σ Q u s':=by obtain⟨v,H',os,bare,un,hok,r,q⟩:=h;obtain⟨hh,g,d,t,os'⟩:=s';obtain rfl:os'=s.os:=os;exact⟨v,H',I.call (h':=hh) (g':=g) (d':=d) (t':=t) (ch:=[]) un hok bare (λb z=>absurd z (by simp)),r,q⟩
end
noncomputable def Fk(sp:Sp)(dvs:List V)(E:XK)(t:TA):TE:=λσ H Q=>t σ H λvs H1=>sp (vs++dvs) H1 Q E
def Vx(K:Frag)(fd:Ur)(ps:List Str)(ds:List Um):Prop:=
 ∀(s:Uo)(us:List Um),K.In s.heap->(us++ds).length=ps.length->BindsTo s fd ⟨us,[]⟩ (ps.zip (us++ds))
theorem Vx.all{K:Frag}{fd:Ur}{ps:List Str}(h:∀us:List Um,us.length=ps.length->bindArgs fd ⟨us,[]⟩=pure (ps.zip us)):Vx K fd ps []:=λs us _ hl=>by rw[Q7]at hl⊢;exact .of_eq (h us hl)
def Oe(CX:CXT)(X:Cx)(E:XK):Prop:=∀(pins:List (Uq×Obj))(σ:St)(H:Hp)(s:Uo)(e:Um)(s':Uo),Inv X pins σ H s->CX X.stack H s E e s'->X.xe e s'
section
variable{X:Cx}{CX:CXT}{k:Nat}{f C:Uq}{fd:Ur}{ps:List Str}{sp:Sp}{dvs:List V}{ds:List Um}{E:XK}{x m:Str}{p pos apos:Pos}{e o:Us}{es:List Us}{ta:TE}{t:TA}
theorem Dj{pins:List (Uq×Obj)}{σ:St}{H:Hp}{s:Uo}{Q:VK}{us:List Um}{vs:List V}(F:FnOk X.prog X.w X.K X.mg X.base CX k f fd ps sp)(hr:Room k X.A)(hb:Vx X.K fd ps ds)(hd:Vals dvs ds)(hx:Oe CX X E)
  (I:Inv X pins σ H s) (r:Vals vs us) (h:sp (vs++dvs) H Q E):Uu (model X.prog X.w) X.A (call (.ref f) us) (EP X pins σ Q) X.xe s:=by
 have r2:Vals (vs++dvs) (us++ds):=r.append hd;have hl:(us++ds).length=ps.length:=by rw[←r2.length];exact F.len _ _ _ _ h
 refine wpAny_call (codeAny_mono (F.run X.A X.stack s H ⟨us,[]⟩ (us++ds) (vs++dvs) Q E hr I.env0 (hb s us I.kIn hl) r2 h) λr s' hq=>?_);cases r with
 |error e=>exact hx pins σ H s e s' I hq
 |ok fl=>
  cases fl with
  |ret u=>exact I.after hq
  |next=>exact False.elim hq
  |brk=>exact False.elim hq
  |cont=>exact False.elim hq
theorem Li(F:FnOk X.prog X.w X.K X.mg X.base CX k f fd ps sp)(hr:Room k X.A)(hg:Gl X x)(hm:X.mg x=some (.ref f))(hk:PySem.W.keepIn X.K (.ref f)=true)(hb:Vx X.K fd ps ds)(hd:Vals dvs ds)(hx:Oe CX X E)
  (ha:PA X (e::es) t) (hdb:(x==("__debug__" : Str))=false:=by decide) (he:Uv (e::es) X.env=(false,eval e X.env)::Uv es X.env:=by rfl) (hpl:(backTo pos (Uv es X.env)).any (·.1)=false:=by rfl) :
  PE X (.Call (.Name x p) (e::es) [] pos) (Fk sp dvs E t):=by
 intro pins s σ H Q I h;refine wpAny_Call_Name_kw (Lq I hg hm ?_ hdb);refine PySem.W.callWith_K (h₀:=X.base) I.ok.mod.kin hk (thn (ha pos pins s σ H _ I h) λus s1 ⟨vs,H1,I1,r,q⟩=>⟨I1.kIn,?_⟩) he hpl;exact Dj F hr hb hd hx I1 r q
end
section
variable{X:Cx}{CX:CXT}{k:Nat}{f C:Uq}{fd:Ur}{ps ks:List Str}{sp:Sp}{E:XK}{x m:Str}{p pos apos kpos:Pos}{e o:Us}{es:List Us}{kws:List Keyword}{te ta:TE}{t tk:TA}{nm:Option Str}
variable{g:List Um->List Um->List Um}{gV:List V->List V->List V}
end
structure RP(N P:List Str)(sc:Scope):Prop where
 kind:sc.kind=.function
 co:sc.isCoroutine=false
 gen:sc.isGenerator=false
 nd:N.Nodup
 pre:N.take P.length=P
 par:∀x∈P,sc.names.lookup x=some .local∨sc.names.lookup x=some .cell
 nofree:∀y∈sc.names,y.2≠.free
theorem Hs{kindOf:Str->Option NameKind}{x:Str}:∀{binds:List (Str×Um)}{m:Str->Option Um},(∀v,(x,v)∉binds)->bindL kindOf binds m x=m x
 |[],_,_=>rfl
 |(n,v)::r,m,h=>by
  unfold bindL;rw[Hs λw hw=>h w (Qj _ hw)];split
  ·have:x≠n:=by rintro rfl;exact h v Qk
   simp[this]
  ·rfl
theorem Hr{kindOf:Str->Option NameKind}{x:Str}:∀{binds:List (Str×Um)}{m:Str->Option Um},(∀v,(x,v)∉binds)->bindC kindOf binds m x=m x
 |[],_,_=>rfl
 |(n,v)::r,m,h=>by
  unfold bindC;rw[Hr λw hw=>h w (Qj _ hw)];split
  ·rfl
  ·have:x≠n:=by rintro rfl;exact h v Qk
   simp[this]
theorem Hq{kindOf:Str->Option NameKind}{x:Str}{v:Um}:∀{P:List Str}{vs:List Um}{i:Nat}{m:Str->Option Um},P.Nodup->P[i]?=some x->vs[i]?=some v->kindOf x=some .local ->
  bindL kindOf (P.zip vs) m x=some v
 |[],_,_,_,_,h,_,_=>by simp at h
 |_::_,[],_,_,_,_,h,_=>by simp at h
 |p::P,w::vs,0,m,nd,h1,h2,hk=>by simp at h1 h2;subst h1;subst h2;show bindL kindOf ((p,w)::P.zip vs) m p=_;unfold bindL;rw[Hs λv hv=>(JN.mp nd).1 (List.of_mem_zip hv).1,Qp hk];simp
 |p::P,w::vs,i+1,m,nd,h1,h2,hk=>by show bindL kindOf ((p,w)::P.zip vs) m x=_;unfold bindL;exact Hq (i:=i) (List.nodup_cons.mp nd).2 (by simpa using h1) (by simpa using h2) hk
theorem Hn{kindOf:Str->Option NameKind}{x:Str}{v:Um}:∀{P:List Str}{vs:List Um}{i:Nat}{m:Str->Option Um},P.Nodup->P[i]?=some x->vs[i]?=some v->kindOf x≠some .local ->
  bindC kindOf (P.zip vs) m x=some v
 |[],_,_,_,_,h,_,_=>by simp at h
 |_::_,[],_,_,_,_,h,_=>by simp at h
 |p::P,w::vs,0,m,nd,h1,h2,hk=>by simp at h1 h2;subst h1;subst h2;show bindC kindOf ((p,w)::P.zip vs) m p=_;unfold bindC;rw[Hr λv hv=>(JN.mp nd).1 (List.of_mem_zip hv).1,Qz hk];simp
 |p::P,w::vs,i+1,m,nd,h1,h2,hk=>by show bindC kindOf ((p,w)::P.zip vs) m x=_;unfold bindC;exact Hn (i:=i) (List.nodup_cons.mp nd).2 (by simpa using h1) (by simpa using h2) hk
noncomputable def XJ(N:List Str)(vs:List V):St:=vs.map some++Uy (N.length-vs.length) none
noncomputable def Y4(CX:CXT)(P:Up)(w:World)(K:Frag)(mg:Str->Option Um)(base:Heap)(N:List Str)(qual:Str)(scope:Scope)(f:Uq)(cd:Um)(A:Around)(outer:List Env)(s:Uo)(H:Hp)(E:XK):Cx where
 prog:=P
 w:=w
 K:=K
 mg:=mg
 base:=base
 A:=A.deeper (envOfC qual scope s.heap.objs.size f cd)
 N:=N
 s₀:=s
 H₀:=H
 env:=envOfC qual scope s.heap.objs.size f cd
 outer:=outer
 stack:=envOfC qual scope s.heap.objs.size f cd::outer
 ex:=[]
 calm:=true
 fn:=λ_=>true
 pn:=[]
 xe:=λe s'=>Uu (model P w) (A.deeper (envOfC qual scope s.heap.objs.size f cd)) (leaving (envOfC qual scope s.heap.objs.size f cd) e) (λ_ s''=>CX outer H s E e s'') (λe' s''=>CX outer H s E e' s'') s'
theorem LB{sc:Scope}{n:Nat}{x:Str}(h:sc.names.lookup x=some .cell):∃c,(cellsFrom n sc.names []).lookup x=some c:=by have q:=PySem.W.cellsFrom_some sc.names n [] (.inl h);exact Option.isSome_iff_exists.mp q
theorem qi{CX:CXT}{P:Up}{w:World}{K:Frag}{mg:Str->Option Um}{base:Heap}{N ps:List Str}{qual:Str}{scope:Scope}{f:Uq}{cd:Um}{A:Around}{outer:List Env}{s s1:Uo}{H:Hp}{E:XK}{us:List Um}{vs:List V}
  (S:RP N ps scope) (hd:A.handled=none) (e0:Env0 P w K mg base A outer s H) (hl:vs.length=ps.length) (r:Vals vs us)
  (x:InCallC s s.heap.objs.size (bindL (envOfC qual scope s.heap.objs.size f cd).kindOf (ps.zip us) λ_=>none) (cellsFrom (s.heap.objs.size+1) scope.names []) (bindC (envOfC qual scope s.heap.objs.size f cd).kindOf (ps.zip us) λ_=>none) s1) :
  Inv (Y4 CX P w K mg base N qual scope f cd A outer s H E) [] (XJ N vs) H s1:=by
 have hpl:ps.length<=N.length:=by have:=congrArg List.length S.pre;rw[QN]at this;omega
 obtain⟨h1,tk,rfl,hk⟩:=x.done;have noA:∀b:Uq,b∉(Y4 CX P w K mg base N qual scope f cd A outer s H E).ex:=λb z=>absurd (show b∈([]:List Uq)from z) (by simp)
 refine⟨⟨e0.mod,S.kind,rfl,rfl,Qs _,λy z c h1 h2=>?_,λy hy=>?_,λy c _ h=>?_,λ_=>hd,Around.frames_deeper e0.frames,.inr ⟨rfl,rfl⟩,λb z=>absurd z (noA b),e0.bs,e0.bsz,λb _ _=>noA b,λb z=>absurd z (noA b),e0.funs,e0.frf⟩,
  rfl,e0.bare,Un.kept hk,⟨_,x.toInCall.ns,λi y v h1 h2 h3=>?_⟩,λy c h=>⟨_,x.cell y c h⟩,e0.hok.fresh (Nat.le_refl _),λy c h=>?_,λp hp=>absurd (show p∈([]:List (Uq×Obj))from hp) (by simp),e0.hok.kept hk,?_⟩
 ·exact name_of_addr x.apart (JW h1) (JW h2)
 ·have hy:scope.names.lookup y=some .cell∨scope.names.lookup y=some .free:=hy;rcases hy with hy|hy
  ·exact LB hy
  ·exact absurd rfl (S.nofree _ (JW hy))
 ·exact Nat.le_of_lt (x.above y c (JW h))
 ·have hi:i<vs.length:=by
   unfold XJ at h2;by_cases hi:i<vs.length
   ·exact hi
   ·rw[List.getElem?_append_right (by simpa using hi)]at h2;rw[QA]at h2;split at h2<;>cases h2
  have ha:vs[i]?=some v:=by
   unfold XJ at h2;rw[List.getElem?_append_left (by simpa using hi),List.getElem?_map]at h2;cases e:vs[i]? with
   |none=>rw[e]at h2;cases h2
   |some a=>rw[e]at h2;cases h2;rfl
  obtain⟨u,hu,rv⟩:=r.get ha;have hp:ps[i]?=some y:=by rw[←S.pre,List.getElem?_take_of_lt (by omega)];exact h1
  have ndP:ps.Nodup:=by rw[←S.pre];exact S.nd.sublist (List.take_sublist _ _)
  refine⟨u,rv,?_⟩;rcases S.par y (Qn hp)with k|k
  ·exact .inl ⟨k,Hq ndP hp hu k⟩
  ·obtain⟨c,e⟩:=LB (n:=s.heap.objs.size+1) k;refine .inr ⟨.inl k,c,e,?_⟩;have q:=x.cell y c e;rw[Hn ndP hp hu (by show scope.names.lookup y≠_;rw[k];decide)]at q;exact q
 ·exact e0.hok.fresh (Nat.le_of_lt (x.above y c (JW h)))
 ·unfold XJ;show _=N.length;rw[Ql,Qb,QE];omega
theorem Fj{CX:CXT}{P:Up}{w:World}{K:Frag}{mg:Str->Option Um}{base:Heap}{k:Nat}{f:Uq}{name qual:Str}{params:Arguments}{body:List Stmt}{scope:Scope}{dV kV doc pm cdv ct oc:Um}{an od:Option Uq}
  {osl:Array (Option Um)} {N ps:List Str} {sp:Sp} (lk:K.lookup f=some ⟨oc,od,.func (PySem.W.fnOf name qual params body scope dV kV doc pm an cdv ct),osl⟩) (hcd:PySem.W.codeIn K cdv qual=true) (S:RP N ps scope)
  (len:∀vs H Q E,sp vs H Q E->vs.length=ps.length)
  (hbody:∀(A:Around)(outer:List Env)(s:Uo)(H:Hp)(vs:List V)(Q:VK)(E:XK),Room k (A.deeper (envOfC qual scope s.heap.objs.size f cdv))->sp vs H Q E ->
   ∃t,PSs (Y4 CX P w K mg base N qual scope f cdv A outer s H E) body t/\t {nx:=λ_ H'=>Q .non H',rt:=Q} (XJ N vs) H) :
  FnOk P w K mg base CX (k+1) f (PySem.W.fnOf name qual params body scope dV kV doc pm an cdv ct) ps sp:=by
 refine⟨len,λA outer s H args us vs Q E hr e0 hb r hsp=>?_⟩;have hl:=len _ _ _ _ hsp;have KX:K.In s.heap:=e0.mod.kin.keeps λb o e=>(e0.bs b o e).1;have lim:s.heap.NoLimit:=e0.mod.nolimit.keeps λb o e=>(e0.bs b o e).1
 have hkind:∀y∈ps.zip us,scope.names.lookup y.1=some .local∨(scope.names.lookup y.1=some .cell/\((cellsFrom (s.heap.objs.size+1) scope.names []).lookup y.1).isSome=true):=λ⟨n,v⟩ hy=>by
  rcases S.par n (List.of_mem_zip hy).1 with q|q
  ·exact .inl q
  ·exact .inr ⟨q,PySem.W.cellsFrom_some _ _ _ (.inl q)⟩
 refine codeAny_call_function hr.depth (KX _ _ lk) rfl S.co S.gen rfl (PySem.W.codeRec_of KX hcd) (hb _ _ _ _ ?_);refine wpAny_newFunctionEnv_cells S.kind hkind λenv he s1 x=>?_;subst he
 refine⟨lim.keeps x.toInCall.keep,codeAny_func ?_⟩;obtain⟨t,ht,hq⟩:=hbody A outer s H vs Q E (hr.deeper _) hsp;have I:Inv (Y4 CX P w K mg base N qual scope f cdv A outer s H E) [] (XJ N vs) H s1:=qi S hr.hd e0 hl r x;refine QG (ht [] s1 (XJ N vs) H _ I hq) (λfl s' hs=>?_) λe s' hs=>hs
 have fin:∀{σ':St}{H':Hp}{v:V}{u:Um},Inv (Y4 CX P w K mg base N qual scope f cdv A outer s H E) [] σ' H' s'->RelV v u->Q v H'->CE outer P w H s Q u s':=
  λ{σ' H' v u} J rv q=>⟨v,H',J.os,J.bare,J.base,J.hok,rv,q⟩
 cases fl with
 |ret u=>obtain⟨v,σ',H',J,rv,q⟩:=hs;exact fin J rv q
 |next=>obtain⟨σ',H',J,q⟩:=hs;exact fin (v:=V.non) (u:=Value.none) J rfl q
 |brk=>obtain⟨_,_,_,q⟩:=hs;exact False.elim q
 |cont=>obtain⟨_,_,_,q⟩:=hs;exact False.elim q
section
variable{X:Cx}{x:Str}{p pos:Pos}{e:Us}{es:List Us}{t:TA}{id T:String}{r:List V->Hp->VK->Prop}
noncomputable def tCB(r:List V->Hp->VK->Prop)(t:TA):TE:=λσ H Q=>t σ H λvs H1=>r vs H1 Q
theorem PB(hc:Yu X (.builtin id) r)(hg:Gl X x)(hm:X.mg x=none)(hv:bootBuiltins x=some (.builtin id))(ha:PA X (e::es) t)(hn:x ≠ "__name__" :=by decide)(hdb:(x==("__debug__" : Str))=false:=by decide)
  (he:Uv (e::es) X.env=(false,eval e X.env)::Uv es X.env:=by rfl) (hpl:(backTo pos (Uv es X.env)).any (·.1)=false:=by rfl):PE X (.Call (.Name x p) (e::es) [] pos) (tCB r t):=by
 intro pins s σ H Q I h;refine wpAny_Call_Name_kw (VG I hg hm hv ?_ hn hdb);exact PyProof.Rows.callWith_builtin1 (thn (ha pos pins s σ H _ I h) λus s1 ⟨vs,H1,I1,r1,q1⟩=>hc pins s1 σ H1 vs us Q I1 r1 q1) he hpl
theorem PM(hc:Yu X (.type T) r)(hg:Gl X x)(hm:X.mg x=none)(hv:bootBuiltins x=some (.type T))(ha:PA X (e::es) t)(hn:x ≠ "__name__" :=by decide)(hdb:(x==("__debug__" : Str))=false:=by decide)
  (he:Uv (e::es) X.env=(false,eval e X.env)::Uv es X.env:=by rfl) (hpl:(backTo pos (Uv es X.env)).any (·.1)=false:=by rfl):PE X (.Call (.Name x p) (e::es) [] pos) (tCB r t):=by
 intro pins s σ H Q I h;refine wpAny_Call_Name_kw (VG I hg hm hv ?_ hn hdb);exact JA (thn (ha pos pins s σ H _ I h) λus s1 ⟨vs,H1,I1,r1,q1⟩=>hc pins s1 σ H1 vs us Q I1 r1 q1) he hpl
end
end L2
namespace HT
open PySem PyProof.Rows
section
open PySem.SeqAt
open PySem.AutoSeq1 (wpAny_loadPart')
open PySem.MeetsSeq PySem.MeetsSeq2 PySem.MeetsSeq3
end
section
variable{prog:Up}{w:World}{A:Around}{E:Um->Uo->Prop}{s:Uo}
noncomputable def sIx(n d:Nat):Option Int->Nat
 |none=>d
 |some v=>if v<0 then(v+(n:Int)).toNat else min v.toNat n
theorem Am(n d:Nat):sIx n d none=d:=rfl
theorem CI(n d k:Nat):sIx n d (some (k:Int))=min k n:=by
 show(if(k:Int)<0 then((k:Int)+(n:Int)).toNat else min (k:Int).toNat n)=min k n
 rw[Qz (by omega),Qt]
end
end HT
namespace L2
open PySem PySem.Spec PyProof.Rows
abbrev TO:=St->Hp->(Option Int->Hp->Prop)->Prop
def PO(X:Cx)(e:Option Us)(t:TO):Prop:=
 ∀(pins:List (Uq×Obj))(s:Uo)(σ:St)(H:Hp)(Q:Option Int->Hp->Prop),Inv X pins σ H s->t σ H Q ->
  Uu (model X.prog X.w) X.A (evalPart e X.env) (λu s'=>∃o H',Inv X pins σ H' s'/\IsPart u o/\Q o H') X.xe s
noncomputable def CH:TO:=λ_ H Q=>Q none H
noncomputable def Fi(t:TE):TO:=λσ H Q=>t σ H λx H1=>∃i,x=.int i/\Q (some i) H1
section
variable{X:Cx}{e:Us}{te:TE}{lo hi:Option Us}{tl th:TO}{pos p2:Pos}
theorem CG:PO X none CH:=by intro pins s σ H Q I h;rw[evalPart_none];exact Qh ⟨none,H,I,.none,h⟩
theorem CF(h:PE X e te):PO X (some e) (Fi te):=by
 intro pins s σ H Q I hw;rw[evalPart_some];refine thn (h pins s σ H _ I hw) λu s1 ⟨x,H1,I1,r1,q1⟩=>?_
 obtain⟨i,rfl,q⟩:=q1;obtain⟨t,rfl⟩:=r1;exact⟨some i,H1,I1,.int i t,q⟩
def SlR(X:Cx)(r:V->Option Int->Option Int->Hp->VK->Prop):Prop:=
 ∀(pins:List (Uq×Obj))(s:Uo)(σ:St)(H:Hp)(x:V)(v vl vu:Um)(lo hi:Option Int)(sl:Uq)(Q:VK),Inv X pins σ H s->RelV x v->s.heap.IsSliceOf sl vl vu .none->IsPart vl lo->IsPart vu hi->r x lo hi H Q ->
  ∃T id,typeLookup (.type T) "__getitem__" = pure (some (.builtin id))/\s.TypeIs v T/\Uu (model X.prog X.w) X.A (getItem v (.ref sl)) (EP X pins σ Q) X.xe s
theorem SlR.or{r r':V->Option Int->Option Int->Hp->VK->Prop}(h:SlR X r)(h':SlR X r'):SlR X (λx lo hi H Q=>r x lo hi H Q∨r' x lo hi H Q):=by
 intro pins s σ H x v vl vu lo hi sl Q I rx hs pl pu q;rcases q with q|q
 ·exact h pins s σ H x v vl vu lo hi sl Q I rx hs pl pu q
 ·exact h' pins s σ H x v vl vu lo hi sl Q I rx hs pl pu q
noncomputable def tSl(r:V->Option Int->Option Int->Hp->VK->Prop)(te:TE)(tl th:TO):TE:=λσ H Q=>te σ H λx H1=>tl σ H1 λl H2=>th σ H2 λu H3=>r x l u H3 Q
theorem Al{r:V->Option Int->Option Int->Hp->VK->Prop}(hr:SlR X r)(he:PE X e te)(hl:PO X lo tl)(hu:PO X hi th):PE X (.Subscript e (.Slice lo hi none p2) pos) (tSl r te tl th):=by
 intro pins s σ H Q I h;refine Subscript_ (thn (he pins s σ H _ I h) λv s1 ⟨x,H1,I1,r1,q1⟩=>?_);refine wpAny_Slice (thn (hl pins s1 σ H1 _ I1 q1) λvl s2 ⟨l,H2,I2,pl,q2⟩=>thn (hu pins s2 σ H2 _ I2 q2) λvu s3 ⟨u,H3,I3,pu,q3⟩=>?_);rw[evalPart_none];refine Qh ?_;have I4:Inv X pins σ H3 {s3 with heap:=s3.heap.push {cls:=.type "slice", data:=.fields #[vl,vu,.none]}}:=I3.kept (t':=s3.toks) λb ob q=>Qm _ q
 obtain⟨T,id,hT,ht,hg⟩:=hr pins {s3 with heap:=s3.heap.push {cls:=.type "slice", data:=.fields #[vl,vu,.none]}} σ H3 x v vl vu l u s3.heap.objs.size Q I4 r1 (Heap.IsSliceOf.new ..) pl pu q3;show Uu (model X.prog X.w) X.A (subscriptTail e (.Slice lo hi none p2) v (.ref s3.heap.objs.size)) (EP X pins σ Q) X.xe {s3 with heap:=s3.heap.push {cls:=.type "slice", data:=.fields #[vl,vu,.none]}};exact tail_any (ops:=[.ref s3.heap.objs.size,v]) ht hT hg (by with_unfolding_all rfl)
noncomputable def Xv(xs:List V)(lo hi:Option Int):List V:=(xs.drop (HT.sIx xs.length 0 lo)).take (HT.sIx xs.length xs.length hi-HT.sIx xs.length 0 lo)
theorem jQ(xs:List V)(lo hi:Option Int):(Xv xs lo hi).length<=xs.length:=by unfold Xv;rw[QN,Jl];omega
end
noncomputable def ixN(n:Nat)(i:Int):Option Nat:=if 0<=i then(if i<n then some i.toNat else none)else if -(n:Int)<=i then some (i+n).toNat else none
noncomputable def atI{α:Type}(xs:List α)(i:Int):Option α:=(ixN xs.length i).bind λj=>xs[j]?
theorem CD{n:Nat}{i:Int}{j:Nat}(h:ixN n i=some j):seqIndex? i n=some j/\j<n /\ -(n:Int)<=i/\i<n:=by
 unfold ixN at h;by_cases h0:0<=i
 ·rw[Qp h0]at h;by_cases h1:i<n
  ·rw[Qp h1]at h;have e:i.toNat=j:=QT h;exact⟨by rw[seqIndex_of h0 h1,e],by omega,by omega,h1⟩
  ·rw[Qz h1]at h;cases h
 ·rw[Qz h0]at h;by_cases h1 : -(n:Int)<=i
  ·rw[Qp h1]at h;have e:(i+n).toNat=j:=QT h;exact⟨by rw[seqIndex_neg (by omega) h1,e],by omega,h1,by omega⟩
  ·rw[Qz h1]at h;cases h
theorem Ow{α:Type}{xs:List α}{i:Int}{v:α}(h:atI xs i=some v):∃j,seqIndex? i xs.length=some j/\xs[j]?=some v/\j<xs.length /\ -(xs.length:Int)<=i/\i<xs.length:=by
 unfold atI at h;cases e:ixN xs.length i with
 |none=>rw[e]at h;cases h
 |some j=>rw[e]at h;obtain⟨h1,h2,h3,h4⟩:=CD e;exact⟨j,h1,h,h2,h3,h4⟩
theorem KW{α:Type}{xs:List α}{j:Nat}{v:α}(h:xs[j]?=some v):atI xs (j:Int)=some v:=by
 have hj:j<xs.length:=(Qg.mp h).1;have e:ixN xs.length (j:Int)=some j:=by unfold ixN;rw[if_pos (by omega),if_pos (by omega)];simp
 unfold atI;rw[e];exact h
def Ov(b:Us):Prop:=∀o i,subscripted b false o i=operate [o,i] (getItem o i)
def IxR(X:Cx)(r:R2):Prop:=
 ∀(value slice:Us)(pins:List (Uq×Obj))(s:Uo)(σ:St)(H:Hp)(x y:V)(v u:Um)(Q:VK),Inv X pins σ H s->RelV x v->RelV y u->r x y H Q ->
  subscripted slice false v u=operate [v,u] (getItem v u)->Uu (model X.prog X.w) X.A (subscriptTail value slice v u) (EP X pins σ Q) X.xe s
def MtR(X:Cx)(id:String)(r:V->List V->Hp->VK->Prop):Prop:=
 ∀(pins:List (Uq×Obj))(s:Uo)(σ:St)(H:Hp)(x:V)(xs:List V)(v:Um)(us:List Um)(Q:VK),Inv X pins σ H s->RelV x v->Vals xs us->r x xs H Q ->
  Uu (model X.prog X.w) X.A (call (.builtin id) (v::us)) (EP X pins σ Q) X.xe s
section
variable{X:Cx}{a b:Us}{ta tb:TE}{pos:Pos}
theorem IxR.or{r r':R2}(h:IxR X r)(h':IxR X r'):IxR X (λx y H Q=>r x y H Q∨r' x y H Q):=by
 intro value slice pins s σ H x y v u Q I rx ry q hs;rcases q with q|q
 ·exact h value slice pins s σ H x y v u Q I rx ry q hs
 ·exact h' value slice pins s σ H x y v u Q I rx ry q hs
theorem NS{r:R2}(hr:IxR X r)(ha:PE X a ta)(hb:PE X b tb)(hs:Ov b):PE X (.Subscript a b pos) (tOp r ta tb):=by intro pins s σ H Q I h;exact Subscript_ (Su ha hb I h λv u s2 x y H2 I2 rx ry q=>hr a b pins s2 σ H2 x y v u Q I2 rx ry q (hs _ _))
noncomputable def rIxL(K:Frag):R2:=λx y H Q=>∃p xs i v,x=.ref p/\y=.int i/\SqL K H p xs/\atI xs i=some v/\Q v H
noncomputable def rIxT(K:Frag):R2:=λx y H Q=>∃p xs i v,x=.ref p/\y=.int i/\SqT K H p xs/\atI xs i=some v/\Q v H
noncomputable def rIxS:R2:=λx y H Q=>∃z i c,x=.str z/\y=.int i/\z.length<=Ut/\atI z.cps.toList i=some c/\Q (.str ⟨#[c]⟩) H
theorem CC:IxR X (rIxL X.K):=by
 intro value slice pins s σ H x y v u Q I rx ry h hs;obtain⟨p,xs,i,z,rfl,rfl,hq,he,q⟩:=h;cases rx;obtain⟨t,rfl⟩:=ry;obtain⟨its,r,pl,hz⟩:=I.list hq;obtain⟨j,h1,h2,h3,h4,h5⟩:=Ow he;obtain⟨w,ew,rw'⟩:=r.get h2;have hl:=r.length;have hn:=RG;have fin:EP X pins σ Q w s:=⟨z,H,I,rw',q⟩
 by_cases h0:0<=i
 ·have hj:i.toNat=j:=by
   rw[seqIndex_of h0 h5]at h1;exact QT h1
  exact item_listR pl.isList h0 (by omega) (by rw[hj];simpa using ew) fin hs
 ·have hj:(i+(its.toArray.size:Int)).toNat=j:=by
   rw[seqIndex_neg (by omega) h4]at h1;rw[QH,←hl];exact QT h1
  exact subscriptTail_builtinR (x:=w) pl.isList.typeIs slot_list_getitem.lookup
   (wpAny_getItem_list_neg (Q:=λr s'=>r=w/\EP X pins σ Q r s') pl.isList (by omega) (by rw[List.size_toArray]<;>omega) (by omega) (by rw[hj];simpa using ew) ⟨rfl,fin⟩) hs
theorem Di:IxR X (rIxT X.K):=by
 intro value slice pins s σ H x y v u Q I rx ry h hs;obtain⟨p,xs,i,z,rfl,rfl,hq,he,q⟩:=h;cases rx;obtain⟨t,rfl⟩:=ry;obtain⟨its,r,pl,hz⟩:=I.tuple hq;obtain⟨j,h1,h2,h3,h4,h5⟩:=Ow he;obtain⟨w,ew,rw'⟩:=r.get h2;have hl:=r.length;have hn:=RG;have fin:EP X pins σ Q w s:=⟨z,H,I,rw',q⟩
 exact subscriptTail_builtinR (x:=w) pl.typeIs slot_tuple_getitem.lookup
  (getItem_tuple (j:=j) (Q:=λr s'=>r=w/\EP X pins σ Q r s') pl (by omega) (by omega) (by rw[List.size_toArray,←hl];exact h1) (by simpa using ew) ⟨rfl,fin⟩) hs
theorem Dh:IxR X rIxS:=by
 intro value slice pins s σ H x y v u Q I rx ry h hs;obtain⟨z,i,c,rfl,rfl,hz,he,q⟩:=h;obtain⟨t,rfl⟩:=rx;obtain⟨t',rfl⟩:=ry;obtain⟨j,h1,h2,h3,h4,h5⟩:=Ow he;have hl:z.cps.toList.length=z.length:=by simp[Str.length]
 rw[hl]at h1 h4 h5;have hn:=RG;exact tail_any (typeIs_str s z t) slot_str_getitem.lookup (getItem_str (c:=c) (by have e1:decide (i < -(2 ^ 63:Int))=false:=QI (by omega);have e2:decide (i ≥ 2 ^ 63)=false:=QI (by omega);rw[e1,e2,Bool.or_false]) (by rw[h1];simpa using h2) ⟨.str ⟨#[c]⟩,H,I.tok _,⟨_,rfl⟩,q⟩) hs
noncomputable def rIx(K:Frag):R2:=λx y H Q=>rIxL K x y H Q∨rIxT K x y H Q∨rIxS x y H Q
theorem Mf:IxR X (rIx X.K):=CC.or (Di.or Dh)
theorem kB(lo hi:Option Int)(n:Nat):(sliceBounds lo hi none n).1=((HT.sIx n 0 lo:Nat):Int)/\(sliceBounds lo hi none n).2.1=((HT.sIx n n hi:Nat):Int)/\(sliceBounds lo hi none n).2.2=1:=by
 refine⟨?_,?_,rfl⟩
 ·cases lo with
  |none=>simp[sliceBounds,HT.sIx]
  |some i=>
   simp only[sliceBounds,HT.sIx,Option.getD_none,show(1:Int) > 0 by decide,if_true];by_cases h:i<0
   ·simp only[h,if_true]<;>omega
   ·simp only[h,Ud]<;>omega
 ·cases hi with
  |none=>simp[sliceBounds,HT.sIx]
  |some i=>
   simp only[sliceBounds,HT.sIx,Option.getD_none,show(1:Int) > 0 by decide,if_true];by_cases h:i<0
   ·simp only[h,if_true]<;>omega
   ·simp only[h,Ud]<;>omega
theorem kI(its:List Um)(lo hi:Option Int):slicePick its.toArray lo hi none=((its.drop (HT.sIx its.length 0 lo)).take (HT.sIx its.length its.length hi-HT.sIx its.length 0 lo)).toArray:=by obtain⟨h1,h2,h3⟩:=kB lo hi its.toArray.size;unfold slicePick;rw[h1,h2,h3];simp only[sliceRange_one,pick_run,QH]<;>rfl
noncomputable def rSlL(K:Frag):V->Option Int->Option Int->Hp->VK->Prop:=λx lo hi H Q=>∃a xs,x=.ref a/\SqL K H a xs/\∀p,H p=none->Q (.ref p) (upd H p (.lst (Xv xs lo hi)))
theorem CB:SlR X (rSlL X.K):=by intro pins s σ H x v vl vu lo hi sl Q I rx hs pl pu h;obtain⟨a,xs,rfl,hx,q⟩:=h;cases rx;obtain⟨its,r,ht,hz⟩:=I.list hx;have hlen:=r.length;refine⟨"list", _,slot_list_getitem.lookup,ht.isList.typeIs,?_⟩;refine wpAny_getItem_list_slice ht.isList hs pl pu .none (by simp) ?_ (by rw[List.size_toArray]<;>omega);rw[kI,←hlen];refine⟨.ref s.heap.objs.size,_,I.laid (t':=s.toks) (o:=.lst (Xv xs lo hi)) (λb ob q=>Qm _ q) (Qs _) ?_,rfl,q _ (I.hok.fresh (Qs _))⟩;exact⟨QM (jQ xs lo hi) hz,_,0,(r.drop (HT.sIx xs.length 0 lo)).take (HT.sIx xs.length xs.length hi-HT.sIx xs.length 0 lo),Qy _ rfl⟩
theorem GK:Yu X (.type "list") (λxs H Q=>∃p ys,xs=[.ref p]/\(SqL X.K H p ys∨SqT X.K H p ys)/\∀l,H l=none->Q (.ref l) (upd H l (.lst ys))):=by
 intro pins s σ H xs us Q I r h;obtain⟨p,ys,rfl,hq,q⟩:=h;obtain⟨u,rfl,rx⟩:=Pc r;cases rx
 have fin:∀(its:List Um),Vals ys its->ys.length<=Ut->∀(h':Heap)(c':Nat),(∀b o',s.heap.get? b=some o'->h'.get? b=some o') ->
   h'.get? s.heap.objs.size=some {cls:=.type "list", dict:=none,data:=.seq its.toArray c',slots:=#[]}->EP X pins σ Q (.ref s.heap.objs.size) {s with heap:=h'}:=λits r' hz h' c' kp e=>
  ⟨.ref s.heap.objs.size,_,I.laid (t':=s.toks) kp (Qs _) (show Zo X.prog X.w _ h' _ (.lst ys)from⟨hz,its,c',r',e⟩),rfl,q _ (I.hok.fresh (Qs _))⟩
 rcases hq with hq|hq
 ·obtain⟨its,r',pl,hz⟩:=I.list hq;have hlen:=r'.length;obtain⟨o,ho,hc,n,hd⟩:=pl.isList;exact call_list_seq p (.inl rfl) ho hc hd (λh' c' kp e=>fin its r' hz h' c' kp e) (by simp only[QH]<;>omega)
 ·obtain⟨its,r',pl,hz⟩:=I.tuple hq;have hlen:=r'.length;obtain⟨o,ho,hc,n,hd⟩:=pl;exact call_list_seq p (.inr rfl) ho hc hd (λh' c' kp e=>fin its r' hz h' c' kp e) (by simp only[QH]<;>omega)
def tyV(K:Frag)(T:String)(x:V)(H:Hp):Prop:=match x with
 |.str _=>T = "str"
 |.int _=>T = "int"
 |.ref p=>(T = "list" /\ ∃xs,SqL K H p xs)∨(T = "tuple" /\ ∃o,K.lookup p=some o/\o.cls=.type "tuple" /\ o.dict=none) ∨
   (T = "dict" /\ ((∃kvs,H p=some (.dK kvs)) ∨ ∃kvs,H p=some (.dT kvs)))∨(T = "set" /\ ∃S n,H p=some (.set S n))
 |_=>False
theorem Dg{pins:List (Uq×Obj)}{σ:St}{H:Hp}{s:Uo}{T:String}{x:V}{v:Um}(I:Inv X pins σ H s)(r:RelV x v)(ty:tyV X.K T x H) :
  s.TypeIs v T/\∀a,v=.ref a->∃ob,s.heap.get? a=some ob/\ob.dict=none:=by
 cases x with
 |str z=>obtain⟨t,rfl⟩:=r;cases (show T = "str" from ty);exact⟨typeIs_str s z t,λ_ e=>nomatch e⟩
 |int i=>obtain⟨t,rfl⟩:=r;cases (show T = "int" from ty);exact⟨typeIs_int s i t,λ_ e=>nomatch e⟩
 |ref p=>
  cases r;rcases ty with ⟨rfl,xs,hq⟩|⟨rfl,o,hk,hc,hd⟩|⟨rfl,hk⟩|⟨rfl,S,n,hk⟩
  ·obtain⟨its,_,pl,_⟩:=I.list hq;refine⟨pl.isList.typeIs,λa e=>?_⟩;cases e;obtain⟨o,n,e,c,hd,_⟩:=pl;exact⟨o,e,hd⟩
  ·refine⟨⟨o,I.kIn p o hk,hc⟩,λa e=>?_⟩;cases e;exact⟨o,I.kIn _ o hk,hd⟩
  ·have z:∃o,s.heap.get? p=some o/\o.ExactDict:=by
    rcases hk with ⟨kvs,hk⟩|⟨kvs,hk⟩
    ·obtain⟨_,_,_,_,o,_,_,e,ex,_⟩:=I.hok p _ hk;exact⟨o,e,ex⟩
    ·obtain⟨_,_,_,_,o,_,_,e,ex,_⟩:=I.hok p _ hk;exact⟨o,e,ex⟩
   obtain⟨o,e,ex⟩:=z;refine⟨⟨o,e,ex.1⟩,λa e2=>?_⟩;cases e2;exact⟨o,e,ex.2.1⟩
  ·obtain⟨o,_,_,_,e,ex,_⟩:=I.hok p _ hk;refine⟨⟨o,e,ex.1⟩,λa e2=>?_⟩;cases e2;exact⟨o,e,ex.2.1⟩
 |_=>exact False.elim ty
noncomputable def tBM(K:Frag)(T:String)(r:V->List V->Hp->VK->Prop)(to:TE)(t:TA):TE:=λσ H Q=>to σ H λx H1=>tyV K T x H1/\t σ H1 λxs H2=>r x xs H2 Q
variable{o e:Us}{es:List Us}{to:TE}{t:TA}{name:Str}{apos cpos:Pos}{T id:String}{r:V->List V->Hp->VK->Prop}
theorem Pb(pa:PlainAttrs T)(slot:Slot T name id)(hty:typeOf (.builtin id)=pure (.type "method_descriptor"))(hm:MtR X id r)(ho:PE X o to)(ha:PA X (e::es) t)
  (hbase:attributeBase o name X.env (eval o X.env)=eval o X.env:=by rfl)
  (hfew:((backTo cpos (Uv (e::es) X.env)).all (λx=>!x.1)&&(backToKw cpos (keywordEach [] X.env)).all (λx=>x.1.isSome)
   && decide ((e::es).length+([]:List Keyword).length+(if([]:List Keyword).isEmpty then 0 else 1)<30))=true:=by rfl)
  (hline:(apos.endLine==cpos.line)=true:=by rfl) (hs:Uv (e::es) X.env=(false,eval e X.env)::Uv es X.env:=by rfl) (hplain:(backTo cpos (Uv es X.env)).any (·.1)=false:=by rfl) :
  PE X (.Call (.Attribute o name apos) (e::es) [] cpos) (tBM X.K T r to t):=by
 intro pins s σ H Q I h;refine wpAny_Call_method_late hbase hfew hline rfl (thn (ho pins s σ H _ I h) λv s1 ⟨x,H1,I1,r1,ty,q1⟩=>?_);obtain⟨h1,h2⟩:=Dg I1 r1 ty;refine⟨T,id,pa,slot,hty,h1,h2,?_⟩;have hA:=ha cpos pins s1 σ H1 _ I1 q1;rw[hs]at hA⊢;refine Calls.callWith_builtin (by show(false || (backTo cpos (Uv es X.env)).any (·.1))=false;rw[hplain]<;>rfl) (Calls.evalArgs_plain ?_);exact thn hA λus s2 ⟨vs,H2,I2,r2,q2⟩=>hm pins s2 σ H2 x vs v us Q I2 r1 r2 q2
end
def MtM(X:Cx)(id:String)(r:V->List V->Hp->VK->Prop):Prop:=
 ∀(pins:List (Uq×Obj))(s:Uo)(σ:St)(H:Hp)(x:V)(xs:List V)(v:Um)(us:List Um)(Q:VK),Inv X pins σ H s->RelV x v->Vals xs us->r x xs H Q ->
  Uu (model X.prog X.w) X.A (call (.builtin id) (v::us)) (EP X pins σ Q) X.xe s
theorem Vals.one:∀{x:V}{us:List Um},Vals [x] us->∃u,us=[u]/\RelV x u
 |_,_,.cons r .nil=>⟨_,rfl,r⟩
theorem Vals.two:∀{x y:V}{us:List Um},Vals [x,y] us->∃u v,us=[u,v]/\RelV x u/\RelV y v
 |_,_,_,.cons r (.cons q .nil)=>⟨_,_,rfl,r,q⟩
theorem Vals.reverse{xs:List V}{us:List Um}(h:Vals xs us):Vals xs.reverse us.reverse:=by
 induction h with
 |nil=>exact .nil
 |cons r t ih=>rw[List.reverse_cons,List.reverse_cons];exact Vals.append ih (.cons r .nil)
theorem Vals.rep{xs:List V}{us:List Um}(h:Vals xs us):∀k:Nat,Vals (Uy k xs).flatten (Uy k us).flatten
 |0=>.nil
 |k+1=>by rw[Q0,Q0,QL,QL];exact Vals.append h (Vals.rep h k)
theorem Hm(its:List Um):∀(k:Nat)(acc:List Um),
  List.foldl (λx1 x2=>x1++x2) acc.toArray (Uy k its.toArray)=(acc++(Uy k its).flatten).toArray
 |0,acc=>by simp
 |k+1,acc=>by
  have e:acc.toArray++its.toArray=(acc++its).toArray:=by simp
  have e2:(acc++its)++(Uy k its).flatten=acc++(Uy (k+1) its).flatten:=by rw[Q0,QL,Ja]
  rw[←e2,←Hm its k (acc++its),←e,Q0,JO]
section
variable{X:Cx}{pins:List (Uq×Obj)}{σ:St}{H:Hp}{s:Uo}{l b:Uq}{xs ys zs:List V}
theorem Inv.lset{its its':List Um}{n:Nat}{f:Array Um->Array Um}{t':Nat}(I:Inv X pins σ H s)(hH:H l=some (.lst xs))
  (e:s.heap.get? l=some {cls:=.type "list", data:=.seq its.toArray n}) (hf:f its.toArray=its'.toArray) (hv:Vals ys its') (hz:ys.length<=Ut) :
  Inv X pins σ (upd H l (.lst ys)) {s with heap:=s.heap.update l (Obj.mapSeq f),toks:=t'}:=by
 have q:=PySem.IsL.update e f;rw[hf]at q;refine I.write (x:=l) (e:=l) (by rw[hH];exact trivial) (.inl rfl) (λb' u hb hu=>(Heap.get?_update_other s.heap (Obj.mapSeq f) (Ne.symm hb)).trans hu) ⟨_,q⟩ ?_;exact⟨hz,its',_,hv,q⟩
theorem Inv.lnew{its:List Um}{t':Nat}(I:Inv X pins σ H s)(hv:Vals ys its)(hz:ys.length<=Ut) :
  Inv X pins σ (upd H s.heap.objs.size (.lst ys)) {s with heap:=s.heap.push {cls:=.type "list", data:=.seq its.toArray},toks:=t'}:=
 I.laid (λ_ _ q=>Qm _ q) (Qs _) ⟨hz,its,0,hv,Qy _ rfl⟩
theorem Inv.fresh(I:Inv X pins σ H s):H s.heap.objs.size=none:=I.hok.fresh (Qs _)
theorem Inv.lstM(I:Inv X pins σ H s)(hH:H l=some (.lst xs)):xs.length<=Ut/\∃(its:List Um)(n:Nat),Vals xs its/\xs.length=its.length/\s.heap.get? l=some {cls:=.type "list", data:=.seq its.toArray n}:=by obtain⟨z,its,n,r,e⟩:=I.hok l _ hH;exact⟨z,its,n,r,r.length,e⟩
theorem LA{n:Nat}(h:n<=Ut):Builtin.List.listTooLong n=false:=by unfold Builtin.List.listTooLong;exact QI (by omega)
end
section
variable{X:Cx}
noncomputable def CA:V->List V->Hp->VK->Prop:=λx vs H Q=>∃l xs y,x=.ref l/\vs=[y]/\H l=some (.lst xs)/\xs.length<Ut/\Q .non (upd H l (.lst (xs++[y])))
theorem Hl:MtM X "list.append" CA:=by intro pins s σ H x vs v us Q I rx rv h;obtain⟨l,xs,y,rfl,rfl,hH,hz,q⟩:=h;cases rx;obtain⟨u,rfl,ru⟩:=rv.one;obtain⟨z,its,n,r,hl,e⟩:=I.lstM hH;refine call_meets F.slot_list_append ⟨_,e,rfl⟩ F.entry_list_append (F.args_list_append_2 _ _) (PySem.list_append l its.toArray n u (by rw[QH];omega)) ⟨e,?_⟩;refine⟨.non,_,I.lset (its':=its++[u]) hH e (by simp) (r.append (.cons ru .nil)) ?_,rfl,q⟩;rw[Ql,Q6];omega
noncomputable def Cz:V->List V->Hp->VK->Prop:=λx vs H Q=>∃l b xs zs,x=.ref l/\vs=[.ref b]/\H l=some (.lst xs)/\H b=some (.lst zs)/\xs.length+zs.length<=Ut/\Q .non (upd H l (.lst (xs++zs)))
theorem qh:MtM X "list.extend" Cz:=by
 intro pins s σ H x vs v us Q I rx rv h;obtain⟨l,b,xs,zs,rfl,rfl,hH,hB,hz,q⟩:=h;cases rx;obtain⟨u,rfl,ru⟩:=rv.one;cases ru;obtain⟨z,its,n,r,hl,e⟩:=I.lstM hH;obtain⟨z2,its2,n2,r2,hl2,e2⟩:=I.lstM hB;have hsz:its.toArray.size+its2.toArray.size<=Ut:=by rw[QH,QH];omega
 have hlong:¬(!its.toArray.isEmpty&&Builtin.List.listTooLong (its.toArray.size+its2.toArray.size))=true:=by rw[LA hsz,Bool.and_false];exact Ji
 refine call_meets F.slot_list_extend ⟨_,e,rfl⟩ F.entry_list_extend (F.args_list_extend_2 _ _)
  (AutoSeq1.list_extend_list_list_0 l its.toArray n b its2.toArray n2 hlong (by rw[QH];omega) (by omega)) ⟨e,e2,?_⟩
 refine⟨.non,_,I.lset (its':=its++its2) hH e (by simp) (r.append r2) ?_,rfl,q⟩;rw[Ql];omega
theorem Cy{α:Type}(xs:List α)(k:Nat):(Uy k xs).flatten.length=k*xs.length:=by
 induction k with
 |zero=>simp
 |succ k ih=>rw[Q0,QL,Ql,ih,Nat.succ_mul,Nat.add_comm]
end
section
variable{prog:Up}{w:World}{A:Around}{E:Um->Uo->Prop}{s:Uo}
set_option maxRecDepth 100000 in
end
section
variable{X:Cx}
end
end L2
namespace Att
open PySem PySem.W PySem.Calls PyProof.Rows
theorem kP{P:Params}{h:Heap}:∀(ns:List Int)(vs:List Um),WellAll P h vs (ns.map WData.int)->IntsAre vs ns:=by
 intro ns;induction ns with
 |nil=>intro vs w;rw[Uh]at w;cases w;exact .nil
 |cons n ns ih=>
  intro vs w;rw[Qx]at w;cases w with
  |cons a b=>cases a;exact .cons _ _ (ih _ b)
theorem qg{l:OpenLaw}{n:Nat}(hn:l.most=some n){P:Params}{h:Heap}{args:List WData}{vals:List Um}
  (hpre:l.row.toRowW.claim.pre args=true) (hwl:WellAll P h vals args) :
  ∃a vs ns,vals=[Value.ref a]/\args=[WData.list (ns.map WData.int)]/\h.get? a=some {cls:=.type "list", data:=.seq vs.toArray}/\IntsAre vs ns/\ns.length<=n:=by
 have hsh:WShape.hasAll [] args [.list .int]=true:=(pre_splitW hpre).1;have hc:l.pre.holds [] {args:=args}=true:=(pre_splitW hpre).2;obtain⟨d,r,rfl,h1,h2⟩:=hasAllW_cons hsh;obtain rfl:=hasAllW_nil h2;obtain⟨xs,rfl,h3⟩:=hasW_list h1;obtain⟨ns,rfl⟩:=items_int h3
 have hlen:ns.length<=n:=by
  unfold OpenLaw.pre at hc;have h4:(WTm.not (.lt (.lit (.int (n:Int))) (.len (.arg 0)))).holds [] {args:=[.list (ns.map .int)]}=true:=by have h4:=(holds_andW hc).1;rw[hn]at h4;exact h4
  have h5:=condW_of h4 (w_not (w_lt w_lit (w_len_list (w_arg rfl))));rw[Qb]at h5;refine Je λq=>?_;have q':(n:Int)<((ns.length:Nat):Int):=by omega
  first
   |(rw[Q5 q']at h5;exact absurd h5 (by decide))
   |(simp at h5;omega)
 cases hwl with
 |cons w1 w2=>
  cases w2;cases w1 with
  |list ho hall=>exact⟨_,_,ns,rfl,rfl,ho,kP ns _ hall,hlen⟩
theorem qf(l:OpenLaw)(args:List WData):l.row.toRowW.claim.post args (.bool true) args=true:=
 postW_of (r:=l.row.toRowW) (X:=(true==true))
  (show WShape.has [] (.bool true) .bool=true by first|rfl|decide|simp[WShape.has,WShape.arms,WShape.armsAll])
  (show(WTm.eq .res (.lit (.bool true))).value [] {args:=args,res:=some (.bool true),after:=args}=some (.bool (true==true))from w_eq_bool (w_res rfl) w_lit) rfl
theorem attach_call{l:OpenLaw}{n:Nat}{q:Up}{loose:List Str}{XP:(Str->Option Um)->Heap->Prop}{YP:World->Heap->Prop}{d:DefRec}
  (hn:l.most=some n) (hdf:d.params.defaults=[])
  (call:∀(w:World)(s₀ s₁:Uo)(mg mb:Str->Option Um)(fa:Uq)(o:Obj)(pm cd doc:Um)(a:Uq)(vs:List Um)(ns:List Int),
   Ground q loose [] XP w s₀ mg mb s₁.heap->YP w s₁.heap ->
   s₁.heap.get? fa=some o->o.data=.func (docDef d.name d.params d.body d.scope pm cd doc)->s₁.heap.CodeRec cd d.name->mg d.name=some (.ref fa) ->
   s₁.heap.get? a=some {cls:=.type "list", data:=.seq vs.toArray}->IntsAre vs ns->ns.length<=n->s₁.gens=#[] ->
   codeAny (model l.prog w) callerA (.call (.ref fa) ⟨[.ref a],[]⟩) (λr s'=>r=.ok (.ret (.bool true))/\OldK s₁.heap s'.heap/\s'.os=s₁.os/\AllBare s'.gens) s₁) :
  WalkO q loose XP YP l.row.toRowW d [] (λf vs=>PySem.call f vs):=by
 intro w s₀ s₁ mg mb G Y fa o pm cd doc dV kV ho hd hcd hD hmg hg args vals as hpre hlay hrd hwl hlo;obtain rfl:dV=.none:=Dflts.none hD hdf;obtain rfl:kV=.none:=Dflts.noKw hD;obtain⟨a,vs,ns,rfl,rfl,hobj,hints,hlen⟩:=qg hn hpre hwl;refine enter_call (codeAny_mono (call w s₀ s₁ mg mb fa o pm cd doc a vs ns G Y ho (fd_plain hd) hcd hmg hobj hints hlen hg) λr s' hq=>?_);obtain⟨rfl,h2,h3,h4⟩:=hq;exact⟨.inl ⟨.bool true,.bool true,[],rfl,λ_=>rfl,.bool true,qf l _,λ_=>⟨List.Pairwise.nil,λ_ hm=>(nomatch hm)⟩⟩,h2,h3,h4⟩
section
variable{prog:Up}{w:World}{A:Around}{E:Um->Uo->Prop}{s:Uo}{K:Frag}
end
end Att
namespace L2
open PySem PySem.Spec PyProof.Rows
theorem Wj:∀{vs:List Um}{ns:List Int},IntsAre vs ns->Vals (ns.map V.int) vs
 |_,_,.nil=>.nil
 |_,_,.cons n t h=>.cons ⟨t,rfl⟩ (Wj h)
def Only(H:Hp):Prop:=∀b,H b=none ∨ ∃o xs,H b=some (.frz o (.lst xs))
theorem Ak{P:Up}{w:World}{K:Frag}{mg mb:Str->Option Um}{CX:CXT}{k:Nat}{fa a:Uq}{fd:Ur}{x:Str}{sp:Sp}{s₁:Uo}{vs:List Um}{ns:List Int}
  (KX:K.In s₁.heap) (hns:s₁.heap.Ns mainGlobals mg) (hb:s₁.heap.Ns builtinsNs mb) (hbb:∀x:Str,x ≠ "__name__" -> mb x=bootBuiltins x) (hlim:s₁.heap.NoLimit) (hg:s₁.gens=#[])
  (ha:s₁.heap.get? a=some {cls:=.type "list", data:=.seq vs.toArray}) (hi:IntsAre vs ns) (hl:ns.length<=Ut) (hr:Room k callerA)
  (F:∀base:Heap,K.In base->base.Ns mainGlobals mg->FnOk P w K mg base CX k fa fd [x] sp) (hbind:∀(s:Uo)(u:Um),BindsTo s fd ⟨[u],[]⟩ [(x,u)])
  (hsp:∀H:Hp,Only H->SqL K H a (ns.map V.int)->sp [.ref a] H (λv _=>v=.bl true) λ_ _ _=>False)
  (hCX:∀H e s',CX [] H s₁ (λ_ _ _=>False) e s'->False) :
  codeAny (model P w) callerA (.call (.ref fa) ⟨[.ref a],[]⟩) (λr s'=>r=.ok (.ret (.bool true))/\OldK s₁.heap s'.heap/\s'.os=s₁.os/\AllBare s'.gens) s₁:=by
 have rv:=Wj hi;have lenV:=hi.length
 have core:∀H:Hp,Only H->SqL K H a (ns.map V.int)->HOk P w H s₁.heap->(∀b,H b≠none->b=a)->(H a≠none->K.lookup a=none) ->
   codeAny (model P w) callerA (.call (.ref fa) ⟨[.ref a],[]⟩) (λr s'=>r=.ok (.ret (.bool true))/\OldK s₁.heap s'.heap/\s'.os=s₁.os/\AllBare s'.gens) s₁:=by
  intro H hO hS hok hA hK;have base_of:∀{b:Uq}{o:Obj},s₁.heap.get? b=some o->H b=none->(YC s₁.heap H).get? b=some o:=λe n=>As e n
  have noA:∀{b:Uq}{o:Obj}{es:Array DictEntry}{ep:Nat},s₁.heap.get? b=some o->o.data=.dict es ep->H b=none:=λ{b o es ep} e d=>by
   cases q:H b with
   |none=>rfl
   |some u=>have e':b=a:=hA b (by rw[q];simp);subst e';rw[ha]at e;cases e;have d':Data.seq vs.toArray _=Data.dict es ep:=d;cases d'
  have nsK:∀{b:Uq}{m:Str->Option Um},s₁.heap.Ns b m->(YC s₁.heap H).Ns b m:=λ{b m} ⟨o,es,ep,e,d,r⟩=>⟨o,es,ep,base_of e (noA e d),d,r⟩
  have hKb:K.In (YC s₁.heap H):=λb o e=>base_of (KX b o e) (by
   cases q:H b with
   |none=>rfl
   |some u=>have e':b=a:=hA b (by rw[q];simp);subst e';rw[hK (by rw[q];simp)]at e;cases e)
  have hM:Mod K mg (YC s₁.heap H):=⟨hKb,nsK hns,⟨mb,nsK hb,hbb⟩,let ⟨mc,h1,h2⟩:=hlim;⟨mc,nsK h1,h2⟩⟩
  have e0:Env0 P w K mg (YC s₁.heap H) callerA [] s₁ H:=⟨rfl,hM,λb o e=>CO e,Nat.le_of_eq (jf _ _),trivial,λb hb=>absurd (show b∈([]:List Uq)from hb) (by simp),hok,.of_eq hg⟩
  refine codeAny_mono ((F _ hKb (nsK hns)).run callerA [] s₁ H ⟨[.ref a],[]⟩ [.ref a] [.ref a] _ _ hr e0 (hbind s₁ (.ref a)) (.cons rfl .nil) (hsp H hO hS)) λr s' h=>?_
  cases r with
  |error e=>exact(hCX H e s' h).elim
  |ok fl=>
   cases fl with
   |next=>exact False.elim h
   |brk=>exact False.elim h
   |cont=>exact False.elim h
   |ret u=>
    obtain⟨v,H',os,bare,un,hok',r',q⟩:=h;have q':v=.bl true:=q;subst q';obtain rfl:u=Value.bool true:=r';refine⟨rfl,OldK.of_keep λb o e=>?_,os,bare⟩;cases q:H b with
    |none=>exact un.keep b o e q (by intro z;exact absurd (show b∈([]:List Uq)from z) (by simp)) (by simp)
    |some u=>
     rcases hO b with z|⟨ob,xs,z⟩
     ·rw[q]at z;cases z
     ·have z2:=un.frzs b ob _ z;obtain⟨e1,_⟩:=hok b _ z;obtain⟨e2,_⟩:=hok' b _ z2;rw[e]at e1;cases e1;exact e2
 cases hk:K.lookup a with
 |some o=>have e:=KX a o hk;rw[ha]at e;cases e;refine core (λ_=>none) (λ_=>.inl rfl) (.inr ⟨_,vs.toArray,_,hk,rfl,rfl,rfl,by rw[List.size_toArray,lenV];exact hl,by simpa using rv⟩) (λb u z=>by have z':(none:Option HO)=some u:=z;cases z') (λb z=>absurd rfl z) λz=>absurd rfl z
 |none=>
  refine core (λb=>if b=a then some (.frz {cls:=.type "list", data:=.seq vs.toArray} (.lst (ns.map V.int)))else none) (λb=>?_) (.inl (.inr ⟨{cls:=.type "list", data:=.seq vs.toArray},Qp rfl⟩)) (λb u z=>?_) (λb z=>?_) λ_=>hk
  ·by_cases hb:b=a
   ·exact .inr ⟨_,_,Qp hb⟩
   ·exact .inl (Qz hb)
  ·by_cases hb:b=a
   ·have z':=(Qp hb).symm.trans z;cases z';subst hb;exact⟨ha,by rw[Qb];exact hl,vs,_,rv,ha⟩
   ·have z':=(Qz hb).symm.trans z;cases z'
  ·by_cases hb:b=a
   ·exact hb
   ·exact absurd (Qz hb) z
noncomputable def Rc(s:Stmt):Arguments:=match s with
 |.FunctionDef _ a _ _ _ _ _ _ _ _=>a
 |_=>{posonlyargs:=[],args:=[],vararg:=none,kwonlyargs:=[],kw_defaults:=[],kwarg:=none,defaults:=[]}
noncomputable def VO(s:Stmt):List Stmt:=match s with
 |.FunctionDef _ _ b _ _ _ _ _ _ _=>b
 |_=>[]
noncomputable def ZO(s:Stmt):Scope:=match s with
 |.FunctionDef _ _ _ _ _ _ sc _ _ _=>sc
 |_=>{kind:=.function,names:=[],isGenerator:=false,isCoroutine:=false}
noncomputable abbrev CX0:CXT:=λ_ _ _ _ _ _=>False
noncomputable abbrev E0:XK:=λ_ _ _=>False
theorem NR{X:Cx}:Oe CX0 X E0:=λ_ _ _ _ _ _ _ h=>h.elim
structure Fun(K:Frag)(x qual:Str)(st:Stmt)(f:Uq)(fd:Ur):Prop where
 ex:∃(oc:Um)(od:Option Uq)(kV doc pm:Um)(an:Option Uq)(cdv ct:Um)(osl:Array (Option Um)),
  fd=PySem.W.fnOf x qual (Rc st) (VO st) (ZO st) .none kV doc pm an cdv ct/\K.lookup f=some ⟨oc,od,.func fd,osl⟩/\PySem.W.codeIn K cdv qual=true
 kp:PySem.W.keepIn K (.ref f)=true
section
variable{P:Up}{w:World}{K:Frag}{mg:Str->Option Um}{base:Heap}
theorem Fun.ok{x qual:Str}{st:Stmt}{f:Uq}{fd:Ur}{N ps:List Str}{k:Nat}{sp:Sp}(F:Fun K x qual st f fd)(S:RP N ps (ZO st))(len:∀vs H Q E,sp vs H Q E->vs.length=ps.length)
  (hbody:∀(cdv:Um)(A:Around)(outer:List Env)(s:Uo)(H:Hp)(vs:List V)(Q:VK)(E:XK),Room k (A.deeper (envOfC qual (ZO st) s.heap.objs.size f cdv))->sp vs H Q E ->
   ∃t,PSs (Y4 CX0 P w K mg base N qual (ZO st) f cdv A outer s H E).nox (VO st) t/\t {nx:=λ_ H'=>Q .non H',rt:=Q} (XJ N vs) H):FnOk P w K mg base CX0 (k+1) f fd ps sp:=by
 obtain⟨oc,od,kV,doc,pm,an,cdv,ct,osl,rfl,lk,hcd⟩:=F.ex;refine Fj lk hcd S len λA outer s H vs Q E hr hsp=>?_
 obtain⟨t,h,q⟩:=hbody cdv A outer s H vs Q E hr hsp;exact⟨t,h.nox,q⟩
theorem Fun.binds{x qual:Str}{st:Stmt}{f:Uq}{fd:Ur}{ps:List Str}(F:Fun K x qual st f fd)
  (h:∀(kV doc pm:Um)(an:Option Uq)(cdv ct:Um)(us:List Um),us.length=ps.length->bindArgs (PySem.W.fnOf x qual (Rc st) (VO st) (ZO st) .none kV doc pm an cdv ct) ⟨us,[]⟩=pure (ps.zip us)):Vx K fd ps []:=by
 obtain⟨oc,od,kV,doc,pm,an,cdv,ct,osl,rfl,lk,hcd⟩:=F.ex;exact .all (h kV doc pm an cdv ct)
end
section
variable{X:Cx}
end
def Same(H H':Hp):Prop:=∀b o,H b=some o->H' b=some o
theorem Same.refl(H:Hp):Same H H:=λ_ _ h=>h
theorem Same.trans{H H1 H2:Hp}(a:Same H H1)(b:Same H1 H2):Same H H2:=λc o h=>b c o (a c o h)
theorem Same.free{H H':Hp}(e:Same H H'){l:Uq}(h:H' l=Option.none):H l=Option.none:=by
 cases q:H l with
 |none=>rfl
 |some o=>rw[e l o q]at h;cases h
theorem Same.seq{K:Frag}{H H':Hp}{a:Uq}{xs:List V}(e:Same H H')(h:SqL K H a xs):SqL K H' a xs:=by
 rcases h with (h|⟨o,h⟩)|h
 ·exact .inl (.inl (e _ _ h))
 ·exact .inl (.inr ⟨o,e _ _ h⟩)
 ·exact .inr h
section
variable{X:Cx}{pins:List (Uq×Obj)}{σ:St}{H:Hp}{s:Uo}{h':Heap}
theorem Inv.turnedNew{t':Nat}{fp:List Uq}{p:Uq}{o:HO}(I:Inv X pins σ H s)(hf:∀b∈fp,ZB X pins H b)
  (k:∀b o,b∉fp->s.heap.get? b=some o->h'.get? b=some o) (hp:s.heap.objs.size<=p) (new:Zo X.prog X.w (upd H p o) h' p o) :
  Inv X pins σ (upd H p o) {s with heap:=h',toks:=t'}:=by
 have hn:H p=none:=I.hok.fresh hp;have trk:∀b u,H b=some u->b∉fp:=λb u e z=>by rw[(hf b z).1]at e;cases e
 refine I.step (g':=s.gens) (d':=s.drawn) (ch:=fp) (λb hb=>?_) (λb o _ _ hc e _=>k b o hc e) (λb o _ _ hc e _=>⟨o.slots,k b o hc e⟩)
  (λb o _ e n=>by rw[KN (QP (QF (Qi e) hp))];exact n) (λb o hc e=>⟨o,k b o hc e⟩)
  (λb xs e=>by rw[KN (Yi e hn)];exact e) (λb ob u e=>by rw[KN (Yi e hn)];exact e) (λb ps e=>⟨#[],by rw[KN (Yi e hn),e];simp⟩)
  (λm hm=>?_) (λb u e=>?_) I.bare
 ·obtain⟨_,f1,_,f3,f4,f5⟩:=hf b hb;exact⟨f3,f1,f4,f5⟩
 ·obtain⟨ob,es,ep,ho,r⟩:=hm;exact⟨ob,es,ep,k _ ob (λz=>(hf _ z).2.1 rfl) ho,r⟩
 ·by_cases hb:b=p
  ·subst hb;rw[Zf]at e;cases e;exact new
  ·rw[KN hb]at e;refine(I.hok b u e).stay (λc v hc q=>k c v ?_ q) (λc q=>by rw[KN (Yi q hn)];exact q) λc xs q=>by rw[KN (Yi q hn)];exact q
   rcases hc with z|z
   ·rw[z];exact trk b u e
   ·exact trk c _ z
theorem Inv.turnedL{t':Nat}{fp:List Uq}(I:Inv X pins σ H s)(hf:∀b∈fp,ZB X pins H b)
  (k:∀b o,b∉fp->s.heap.get? b=some o->h'.get? b=some o):Inv X pins σ H {s with heap:=h',toks:=t'}:=by
 have trk:∀b u,H b=some u->b∉fp:=λb u e z=>by rw[(hf b z).1]at e;cases e
 refine I.step (g':=s.gens) (d':=s.drawn) (ch:=fp) (λb hb=>?_) (λb o _ _ hc e _=>k b o hc e) (λb o _ _ hc e _=>⟨o.slots,k b o hc e⟩)
  (λ_ _ _ _ n=>n) (λb o hc e=>⟨o,k b o hc e⟩) (λ_ _ e=>e) (λ_ _ _ e=>e) (λb ps e=>⟨#[],by rw[e];simp⟩) (λm hm=>?_) (λb u e=>?_) I.bare
 ·obtain⟨_,f1,_,f3,f4,f5⟩:=hf b hb;exact⟨f3,f1,f4,f5⟩
 ·obtain⟨ob,es,ep,ho,r⟩:=hm;exact⟨ob,es,ep,k _ ob (λz=>(hf _ z).2.1 rfl) ho,r⟩
 ·refine(I.hok b u e).stay (λc v hc q=>k c v ?_ q) (λc q=>q) λc xs q=>q
  rcases hc with z|z
  ·rw[z];exact trk b u e
  ·exact trk c _ z
end
noncomputable def Ite(K:Frag)(a:Uq):It:=
 ⟨λi H=>∃xs x,SqL K H a xs/\xs[i]?=some x,
  λi H v H'=>∃p x,H p=none/\v=.ref p/\(∀xs,SqL K H a xs->xs[i]?=some x)/\H'=upd H p (.tup [.int i,x]),
  λi H=>∃xs,SqL K H a xs/\xs.length<=i⟩
theorem qe{P:Up}{w:World}{K:Frag}{elts:List Us}{x1}{tp:Pos}(a e it:Uq)(hne:e≠it) :
  Turn P w K (.Tuple elts x1 tp) (Ite K a) [e,it] e (λi h=>(∃old,IsEnum h e it i old)/\h.IsListIter it a i) where
 mem:=by simp
 obj:=λi h st b hb=>by
  obtain⟨⟨old,he⟩,o,ho,c,d⟩:=st;have hb':b=e∨b=it:=by simpa using hb
  rcases hb' with rfl|rfl
  ·exact⟨_,he,λv z=>by have z':Data.fields _=Data.cell v:=z;cases z'⟩
  ·exact⟨o,ho,λv z=>by rw[d]at z;cases z⟩
 keep:=λi h h' st k=>by obtain⟨⟨old,he⟩,hi⟩:=st;exact⟨⟨old,k e (by simp) _ he⟩,hi.at λo q=>k it (by simp) o q⟩
 item:=by
  intro X hP hw hK hc i pins s σ H E I hf st hg;subst hP hw hK;obtain⟨⟨old,he⟩,hi⟩:=st;obtain⟨xs,x,hq,hx⟩:=hg;obtain⟨its,rv,p,hz⟩:=I.list hq;obtain⟨u,hu,ru⟩:=rv.get hx;refine wpAny_pyNext_enum_item he hi p.isList (x:=u) (by simpa using hu) hne λh1 out hi1 ht hsz kk=>?_
  refine⟨_,rfl,wpAny_letOwnedTupleGo_enum out λh2 he2 hs2=>?_⟩;have hel:e<s.heap.objs.size:=Qi he;have hs2':Heap.SameBut e h1 h2:=hs2;have ht2:h2.get? s.heap.objs.size=some {cls:=.type "tuple", data:=.seq #[.int i s.toks,u]}:=(hs2'.2 _ (JT hel)).trans ht
  have kk2:∀b o,b∉[e,it]->s.heap.get? b=some o->h2.get? b=some o:=λb o hb q=>by
   have hbe:b≠e:=λz=>hb (by simp[z])
   have hbi:b≠it:=λz=>hb (by simp[z])
   exact(hs2'.2 b hbe).trans (kk b o hbe hbi q)
  have hn:H s.heap.objs.size=none:=I.hok.fresh (Qs _)
  have I2:Inv X pins σ (upd H s.heap.objs.size (.tup [.int i,x])) {s with heap:=h2,toks:=s.toks+1}:=
   I.turnedNew (fp:=[e,it]) hf kk2 (Qs _) ⟨by show 2<=Ut;decide,[.int i s.toks,u],.cons ⟨_,rfl⟩ (.cons ru .nil),⟨_,ht2,rfl,_,rfl⟩⟩
  refine⟨.ref s.heap.objs.size,_,I2,rfl,⟨_,x,hn,rfl,λys hy=>by rw[I.list_inj hy hq];exact hx,rfl⟩,⟨⟨u,?_⟩,?_⟩,λb hb=>?_⟩
  ·have:=he2;simpa using this
  ·have hi2:h2.IsListIter it a (i+1):=hi1.at λo q=>(hs2'.2 it (Ne.symm hne)).trans q
   exact hi2
  ·have fr:=(hf b hb)
   have hlt:b<s.heap.objs.size:=by
    have hb':b=e∨b=it:=by simpa using hb
    rcases hb' with rfl|rfl
    ·exact hel
    ·obtain⟨o,ho,_⟩:=hi;exact Qi ho
   rw[KN (QP hlt)];exact fr.1
 done:=by intro X hP hw hK hc i pins s σ H E I hf st hg;subst hP hw hK;obtain⟨⟨old,he⟩,hi⟩:=st;obtain⟨xs,hq,hx⟩:=hg;obtain⟨its,rv,p,hz⟩:=I.list hq;have hl:=rv.length;exact wpAny_pyNext_enum_end (I.ok.hd hc) he hi p.isList (by simp;omega) λh' eb=>⟨rfl,I.turnedL (t':=s.toks) hf λb o hb q=>eb b o (λz=>hb (by simp[z])) q⟩
 self:=λ_ _ _ _ _ st h=>by obtain⟨⟨old,he⟩,_⟩:=st;exact wpAny_pyIter_enum he h
section
variable{X:Cx}
noncomputable def Fh(K:Frag)(ta:TA):TI:=λσ H R=>ta σ H λvs H1=>∃a xs,vs=[.ref a]/\SqL K H1 a xs/\R (Ite K a) H1
theorem C0{a:Us}{ta:TA}{p pos:Pos}{elts:List Us}{x1}{tp:Pos}(hg:Gl X "enumerate")(hm:X.mg "enumerate" = none)(ha:PA X [a] ta)
  (hs:Uv [a] X.env=[(false,eval a X.env)]:=by rfl):PI X (.Tuple elts x1 tp) (.Call (.Name "enumerate" p) [a] [] pos) (Fh X.K ta):=by
 intro pins s σ H R I h;refine Call_ (VG I hg hm boot_enumerate (JA (thn (ha pos pins s σ H _ I h) λus s1 ⟨vs,H1,I1,r1,q1⟩=>?_) hs rfl));obtain⟨l,xs,e,hq,q⟩:=q1;subst e;cases r1 with
 |cons r rr=>
  cases rr;cases (show _=Value.ref l from r);obtain⟨its,rv,pl,hz⟩:=I1.list hq;refine call_enumerate_list pl.isList λh' he hi hsz kk=>?_;have I2:Inv X pins σ H1 {s1 with heap:=h'}:=I1.kept (t':=s1.toks) kk;refine wpAny_pyIter_enum he ?_
  refine⟨s1.heap.objs.size+1,[s1.heap.objs.size+1,s1.heap.objs.size],_,_,H1,rfl,I2,qe l _ _ (Nat.succ_ne_self _),⟨⟨_,he⟩,hi⟩,λb hb=>?_,q⟩;have hb':b=s1.heap.objs.size+1∨b=s1.heap.objs.size:=by simpa using hb
  rcases hb' with rfl|rfl
  ·exact I1.fpOk (JZ _) (I1.hok.fresh (JZ _))
  ·exact I1.fpOk (Qs _) (I1.hok.fresh (Qs _))
end
section
variable{κ:Type}[DecidableEq κ]
noncomputable def ZP(kvs:List (κ×V))(k:κ):Option V:=(kvs.find? λkv=>decide (kv.1=k)).map (·.2)
noncomputable def ZJ(kvs:List (κ×V))(k:κ)(v:V):List (κ×V):=
 if(kvs.any λkv=>decide (kv.1=k))=true then kvs.map (λkv=>if kv.1=k then(kv.1,v)else kv)else kvs++[(k,v)]
theorem O7{p:κ×V}{r:List (κ×V)}{k:κ}(e:p.1=k):ZP (p::r) k=some p.2:=by simp[ZP,List.find?_cons,e]
theorem Pz{p:κ×V}{r:List (κ×V)}{k:κ}(e:¬p.1=k):ZP (p::r) k=ZP r k:=by simp[ZP,List.find?_cons,e]
theorem O6(k:κ):∀kvs:List (κ×V),(kvs.any λkv=>decide (kv.1=k))=(ZP kvs k).isSome
 |[]=>rfl
 |p::r=>by
  rw[List.any_cons];by_cases e:p.1=k
  ·simp only[O7 e,Q5 e,Bool.true_or,Option.isSome_some]
  ·rw[Pz e,QI e,Bool.false_or];exact O6 k r
theorem Gm(kvs:List (κ×V))(k:κ)(v:V):(ZJ kvs k v).length<=kvs.length+1:=by
 unfold ZJ;split
 ·rw[Qb];omega
 ·rw[Ql,QO,QB];omega
theorem Aj{kvs:List (κ×V)}{k:κ}(v:V)(h:ZP kvs k=none):ZJ kvs k v=kvs++[(k,v)]:=by unfold ZJ;rw[O6,h];exact Qz (by decide)
theorem RelO.isSome_eq{o:Option V}{u:Option Um}(r:RelO o u):o.isSome=u.isSome:=by
 cases o with
 |none=>cases u with
  |none=>rfl
  |some _=>exact(show False from r).elim
 |some _=>cases u with
  |none=>exact(show False from r).elim
  |some _=>rfl
theorem KV.any{kvs:List (κ×V)}{vs:List (κ×Um)}(r:KV kvs vs)(k:κ):(kvs.any λkv=>decide (kv.1=k))=vs.any λkv=>decide (kv.1=k):=by
 unfold KV at r;induction r with
 |nil=>rfl
 |cons h t ih=>rw[List.any_cons,List.any_cons,ih,h.1]
theorem KV.repl{kvs:List (κ×V)}{vs:List (κ×Um)}(r:KV kvs vs)(k:κ){y:V}{u:Um}(ry:RelV y u) :
  KV (kvs.map λkv=>if kv.1=k then(kv.1,y)else kv) (vs.map λkv=>if kv.1=k then(kv.1,u)else kv):=by
 unfold KV at r⊢;induction r with
 |nil=>exact .nil
 |@cons p q ps qs h t ih=>
  rw[Qx,Qx];refine .cons ?_ ih;obtain⟨h1,h2⟩:=h;by_cases e:p.1=k
  ·rw[Qp e,Qp (h1.symm.trans e)];exact⟨h1,ry⟩
  ·rw[Qz e,Qz (λz=>e (h1.trans z))];exact⟨h1,h2⟩
theorem KV.put{kvs:List (κ×V)}{vs:List (κ×Um)}(r:KV kvs vs)(k:κ){y:V}{u:Um}(ry:RelV y u):KV (ZJ kvs k y) (stored vs k u):=by
 unfold ZJ stored;rw[r.any k];by_cases e:(vs.any λkv=>decide (kv.1=k))=true
 ·rw[Qp e,Qp e];exact r.repl k ry
 ·rw[Qz e,Qz e];exact Paired.snoc r ⟨rfl,ry⟩
theorem KV.length{kvs:List (κ×V)}{vs:List (κ×Um)}(r:KV kvs vs):kvs.length=vs.length:=Paired.length r
end
theorem NQ{P:Up}{w:World}{k:Key}{u:Um}(r:RelV (kV k) u):(YZ P w).is k u=true:=by
 cases k with
 |inl i=>obtain⟨t,e⟩:=(show ∃t,u=Value.int i t from r);subst e;exact jS P w i t
 |inr x=>obtain⟨t,e⟩:=(show ∃t,u=Value.str x t from r);subst e;exact jR P w x t
theorem Nf{P:Up}{w:World}:∀{ks:List Key}{us:List Um},Vals (ks.map kV) us->ItemsAre (YZ P w) ks us
 |[],_,r=>by rw[Uh]at r;cases r;exact .nil
 |k::ks,_,r=>by
  rw[Qx]at r;cases r with
  |cons h t=>exact .cons (NQ h) (Nf t)
noncomputable abbrev KT(H:Hp):List (List Key×V)->List (List Key×Uq×Um)->Prop:=Paired λp q=>p.1=q.1/\H q.2.1=some (.tup (p.1.map kV))/\RelV p.2 q.2.2
theorem KT.val{H:Hp}{kvs:List (List Key×V)}{xs:List (List Key×Uq×Um)}(r:KT H kvs xs)(k:List Key):RelO (ZP kvs k) ((atKey xs k).map (·.2)):=by
 induction r with
 |nil=>exact True.intro
 |@cons p q ps qs h t ih=>
  obtain⟨h1,_,h2⟩:=h;by_cases e:p.1=k
  ·have e':q.1=k:=h1.symm.trans e;have b:atKey (q::qs) k=some q.2:=by simp[atKey,List.find?_cons,e']
   rw[O7 e,b];exact h2
  ·have e':¬q.1=k:=λz=>e (h1.trans z)
   have b:atKey (q::qs) k=atKey qs k:=by simp[atKey,List.find?_cons,e']
   rw[Pz e,b];exact ih
theorem KT.repl{H:Hp}{kvs:List (List Key×V)}{xs:List (List Key×Uq×Um)}(r:KT H kvs xs)(k:List Key){y:V}{u:Um}(ry:RelV y u) :
  KT H (kvs.map λkv=>if kv.1=k then(kv.1,y)else kv) (xs.map (putAt k u)):=by
 induction r with
 |nil=>exact .nil
 |@cons p q ps qs h t ih=>
  rw[Qx,Qx];refine .cons ?_ ih;obtain⟨h1,h2,h3⟩:=h;unfold putAt;by_cases e:p.1=k
  ·rw[Qp e,Qp (h1.symm.trans e)];exact⟨h1,h2,ry⟩
  ·rw[Qz e,Qz (λz=>e (h1.trans z))];exact⟨h1,h2,h3⟩
theorem KT.put{H:Hp}{kvs:List (List Key×V)}{xs:List (List Key×Uq×Um)}(r:KT H kvs xs)(k:List Key){b:Uq}{y:V}{u:Um}(hb:H b=some (.tup (k.map kV)))(ry:RelV y u) :
  KT H (ZJ kvs k y) (storedH xs k b u):=by
 have e:(kvs.any λkv=>decide (kv.1=k))=(atKey xs k).isSome:=by rw[O6,(r.val k).isSome_eq,Option.isSome_map]
 unfold ZJ storedH;rw[e];by_cases q:(atKey xs k).isSome=true
 ·rw[Qp q,Qp q];exact r.repl k ry
 ·rw[Qz q,Qz q];exact Paired.snoc r ⟨rfl,hb,ry⟩
theorem KT.keeps{H H':Hp}{kvs:List (List Key×V)}{xs:List (List Key×Uq×Um)}(r:KT H kvs xs)(ht:∀b ys,H b=some (.tup ys)->H' b=some (.tup ys)):KT H' kvs xs:=
 Paired.mapP r λ_ _ z=>⟨z.1,ht _ _ z.2.1,z.2.2⟩
section
variable{P:Up}{w:World}{H:Hp}{h:Heap}{a:Uq}
theorem NP{u:HO}(ok:HOk P w H h)(e:Rd H a u):Zo P w H h a u:=e.ok ok
theorem Fg{kvs:List (Key×V)}(ok:HOk P w H h)(e:Rd H a (.dK kvs)):kvs.length<=Ut/\(a==sysModules)=false/\∃vs,KV kvs vs/\h.DictOf (YZ P w) a vs:=
 show Zo P w H h a (.dK kvs)from NP ok e
theorem Ff{kvs:List (Key×V)}(ok:HOk P w H h)(e:H a=some (.dK kvs)):kvs.length<=Ut/\(a==sysModules)=false/\∃vs,KV kvs vs/\h.DictOf (YZ P w) a vs:=Fg ok (.inl e)
theorem Me{ks:List Key}(ok:HOk P w H h)(e:H a=some (.tup (ks.map kV))):(tupleKind (YZ P w)).is h ks a:=by
 obtain⟨_,its,r,o,h1,h2,n,h3⟩:=(show Zo P w H h a (.tup (ks.map kV))from ok a _ e)
 exact⟨o,its.toArray,n,h1,h2,h3,by simpa using Nf r⟩
theorem NO{kvs:List (List Key×V)}(ok:HOk P w H h)(e:Rd H a (.dT kvs)):kvs.length<=Ut/\(a==sysModules)=false /\
  ∃xs,KT H kvs xs/\h.DictOfH (tupleKind (YZ P w)) a xs:=by
 obtain⟨z,y,xs,r,o,es,ep,h1,h2,h3,h4,h5⟩:=(show Zo P w H h a (.dT kvs)from NP ok e)
 refine⟨z,y,xs,r,o,es,ep,h1,h2,h3,h4,λx hx=>?_,h5⟩
 have all:∀{l:List (List Key×V)}{m:List (List Key×Uq×Um)},KT H l m->∀x∈m,(tupleKind (YZ P w)).is h x.1 x.2.1:=by
  intro l m q;induction q with
  |nil=>intro x hx;exact nomatch hx
  |@cons p q ps qs hq t ih=>
   intro x hx;rcases QQ.mp hx with e|hx
   ·subst e;exact Me ok (by rw[←hq.1];exact hq.2.1)
   ·exact ih x hx
 exact all r x hx
theorem Fe{kvs:List (List Key×V)}(ok:HOk P w H h)(e:H a=some (.dT kvs)):kvs.length<=Ut/\(a==sysModules)=false /\
  ∃xs,KT H kvs xs/\h.DictOfH (tupleKind (YZ P w)) a xs:=NO ok (.inl e)
end
def DPut(H:Hp)(a:Uq)(y v:V)(H':Hp):Prop:=
 (∃kvs k,H a=some (.dK kvs)/\y=kV k/\kvs.length<Ut/\H'=upd H a (.dK (ZJ kvs k v))) ∨
 ∃kvs k b,H a=some (.dT kvs)/\y=.ref b/\H b=some (.tup (k.map kV))/\kvs.length<Ut/\H'=upd H a (.dT (ZJ kvs k v))
theorem DPut.t{H:Hp}{a b:Uq}{kvs:List (List Key×V)}{k:List Key}{v:V}(e:H a=some (.dT kvs))(eb:H b=some (.tup (k.map kV)))(hl:kvs.length<Ut) :
  DPut H a (.ref b) v (upd H a (.dT (ZJ kvs k v))):=.inr ⟨kvs,k,b,e,rfl,eb,hl,rfl⟩
section
variable{X:Cx}{pins:List (Uq×Obj)}{σ:St}{H:Hp}{s:Uo}{a:Uq}{y v:V}{u r:Um}{o:Option V}{A:Around}{E:Um->Uo->Prop}
theorem Inv.big(I:Inv X pins σ H s):sysModules<s.heap.objs.size:=by have h:mainGlobals<s.heap.objs.size:=(I.mod.glob.keeps I.bk).lt;exact Nat.lt_trans (by decide) h
theorem Ou{h':Heap}{t':Nat}{ob:HO}(I:Inv X pins σ H s)(mu:Mut (H a))(hs:Heap.SameBut a s.heap h')(he:∃q,h'.get? a=some q)(new:Zo X.prog X.w (upd H a ob) h' a ob) :
  Inv X pins σ (upd H a ob) {s with heap:=h',toks:=t'}:=
 I.write (x:=a) (e:=a) mu (.inl rfl) (λb q hb z=>(hs.2 b hb).trans z) he new
theorem Df{P:Up}{w:World}{H':Hp}{h':Heap}{kvs:List (Key×V)}{vs:List (Key×Um)}(z:kvs.length<=Ut)(hd:(a==sysModules)=false)(rel:KV kvs vs)(dd:h'.DictOf (YZ P w) a vs) :
  Zo P w H' h' a (.dK kvs):=⟨z,hd,vs,rel,dd⟩
theorem qd{H':Hp}{Q:Unit->Uo->Prop}(hu:A.units+1<cLine)(I:Inv X pins σ H s)(g:DPut H a y v H')(ry:RelV y u)(rv:RelV v r)(h:∀s',Inv X pins σ H' s'->Q () s') :
  Uu (model X.prog X.w) A (setItem (.ref a) u r) Q E s:=by
 rcases g with ⟨kvs,k,e,ey,l,eH⟩|⟨kvs,k,b,e,ey,eb,l,eH⟩
 ·subst ey eH;obtain⟨z,hd,vs,rel,dd⟩:=Ff I.hok e;have hz:vs.length<=Ut:=by rw[←rel.length];exact z
  have hl:(ZJ kvs k v).length<=Ut:=by have:=Gm kvs k v;omega
  refine wpAny_setItem_pairs (hsz:=hz) (NQ ry) dd λh' dd' hs=>h _ ?_;have he:∃q,h'.get? a=some q:=let ⟨q,_,_,hq,_⟩:=dd';⟨q,hq⟩
  exact Ou I (by rw[e];exact True.intro) hs he (Df hl hd (rel.put k rv) dd')
 ·subst ey eH;cases (show u=Value.ref b from ry);obtain⟨z,hd,xs,rel,dd⟩:=Fe I.hok e;have hz:xs.length<=Ut:=by rw[←Paired.length rel];exact z
  have hl:(ZJ kvs k v).length<=Ut:=by have:=Gm kvs k v;omega
  refine wpAny_setItem_heap (hsz:=hz) (tupleKind_room_in1 hu) (Me I.hok eb) dd λh' dd' hs=>h _ ?_
  obtain⟨q,es,ep,hq,h2,h3,h4,_,h5⟩:=dd';refine Ou I (by rw[e];exact True.intro) hs ⟨q,hq⟩ ⟨hl,hd,_,(rel.put k eb rv).keeps λc ys ec=>?_,q,es,ep,hq,h2,h3,h4,h5⟩;rw[KN (NM ec e (λz=>nomatch z))];exact ec
end
section
variable{X:Cx}{pins:List (Uq×Obj)}{σ:St}{H:Hp}{s:Uo}{a:Uq}{kvs:List (Key×V)}{k:Key}{u:Um}{A:Around}{E:Um->Uo->Prop}
end
def Sv(i:Us):Prop:=∀ov iv,subscripted i false ov iv=operate [ov,iv] (getItem ov iv)
theorem CZ{prog:Up}{w:World}{A:Around}{E:Um->Uo->Prop}{s:Uo}{env:Env}{value slice:Us}{pos:Pos}{T id:String}{Q:Um->Uo->Prop}
  (hl:typeLookup (.type T) "__getitem__" = pure (some (.builtin id))) (hs:Sv slice)
  (h:Uu (model prog w) A (eval value env) (λo s₁=>Uu (model prog w) A (eval slice env) (λi s₂=>s₂.TypeIs o T/\Uu (model prog w) A (getItem o i) Q E s₂) E s₁) E s) :
  Uu (model prog w) A (eval (.Subscript value slice pos) env) Q E s:=by
 refine Subscript_ (QG h (λo s₁ h₁=>QG h₁ (λi s₂ h₂=>?_) λ_ _ x=>x) λ_ _ x=>x);obtain⟨hT,h₂⟩:=h₂;unfold subscriptTail;refine Qd ?_;rw[getitemInPython_of_ne hT.not_modules];refine Qd (wpAny_specialOf hT hl ?_);have fin:Uu (model prog w) A (subscripted slice false o i) (λr s₃=>Uu (model prog w) A (letTemporaryGo value o r >>= λ_=>pure r) Q E s₃) E s₂:=by rw[hs o i];exact wpAny_operating (QG h₂ (λr s₃ h₃=>Qd (wpAny_letTemporaryGo (Qh h₃))) λ_ _ x=>x)
 first
  |exact Qh (Qd fin)
  |exact Qd (Qh (Qd fin))
  |exact Qd fin
noncomputable def Fd(td ty tv:TE):TS:=λD σ H=>tv σ H λv H1=>td σ H1 λx H2=>ty σ H2 λy H3=>∃a H4,x=.ref a/\DPut H3 a y v H4/\D.nx σ H4
section
variable{X:Cx}{o i e value:Us}{pos pos' tpos:Pos}{td ty tv:TE}
theorem CY(hu:X.A.units+1<cLine)(ho:PE X o td)(hi:PE X i ty)(hv:PE X value tv)(hs:swapsWith value (some (.Subscript o i pos')) pos.line X.env=pure false) :
  PS X (.Assign [.Subscript o i pos'] value pos) (Fd td ty tv):=by
 intro pins s σ H D I h;refine wpAny_Assign_Subscript (thn (hv pins s σ H _ I h) λr s1 ⟨v,H1,I1,rv,q1⟩=>thn (ho pins s1 σ H1 _ I1 q1) λu s2 ⟨x,H2,I2,rx,q2⟩=>thn (hi pins s2 σ H2 _ I2 q2) λiv s3 ⟨y,H3,I3,ry,a,H4,ex,g,q3⟩=>?_) hs;subst ex;obtain rfl:u=Value.ref a:=rx;exact qd hu I3 g ry rv λs4 I4=>⟨σ,H4,I4,q3⟩
end
theorem Ai{P:Up}{w:World}{H:Hp}(h:Heap)(hb:sysModules<h.objs.size):Zo P w H (h.push {cls:=.type "dict", data:=.dict #[]}) h.objs.size (.dT []):=
 ⟨JH _,beq_eq_false_iff_ne.mpr (Ne.symm (QP hb)),[],.nil,_,#[],0,Qy _ rfl,⟨rfl,rfl,rfl⟩,rfl,rfl,List.nodup_nil⟩
noncomputable def De:TE:=λ_ H Q=>∀p,H p=none->Q (.ref p) (upd H p (.dT []))
section
variable{X:Cx}{pos:Pos}
theorem Ah:PE X (.Dict [] [] pos) De:=λpins s σ H Q I h=>
 wpAny_Dict_empty ⟨.ref s.heap.objs.size,_,I.laid (a:=s.heap.objs.size) (o:=.dT []) (t':=s.toks) (λ_ _ q=>Qm _ q) (Qs _) (Ai s.heap I.big),rfl,h _ (I.hok.fresh (Qs _))⟩
end
end L2
namespace L2
open PySem PySem.Spec
def Y6(bmB bm:List Um):Prop:=∀(X:String)(b:Bool),bmB.contains (.type X)=b->bm.contains (.type X)=b
section
variable{prog:Up}{w:World}{A:Around}{E:Um->Uo->Prop}{h:Heap}{g:Array GenState}{d:Drawn}{t:Nat}{os:OsState}{R:Result->Uo->Prop}
variable{nm q:Str}{C N:Uq}{bs bm bmB:List Um}{hdct:Bool}{sn:List Str}{sub:List Um}{ab:Bool}{col:Option Bool}{dd:Option Uq}{k0 k1 k2 k3 k5:Option Um}{B newId initId:String}
end
def Yg(M:Model)(C:Uq)(name:Str)(r:Option Um)(h:Heap):Prop:=∀(A:Around)(E:Um->Uo->Prop)(Q:Option Um->Uo->Prop)(h':Heap)(g:Array GenState)(d:Drawn)(t:Nat)(os:OsState),
 (∀b o,h.get? b=some o->h'.get? b=some o)->Q r ⟨h',g,d,t,os⟩->Uu M A (typeLookup (.ref C) name) Q E ⟨h',g,d,t,os⟩
theorem Yg.keeps{M:Model}{C:Uq}{name:Str}{r:Option Um}{h h':Heap}(x:Yg M C name r h)(k:∀b o,h.get? b=some o->h'.get? b=some o):Yg M C name r h':=
 λA E Q h2 g d t os k2 q=>x A E Q h2 g d t os (λb o e=>k2 b o (k b o e)) q
theorem Yg.at{M:Model}{A:Around}{E:Um->Uo->Prop}{Q:Option Um->Uo->Prop}{C:Uq}{name:Str}{r:Option Um}{h:Heap}{g:Array GenState}{d:Drawn}{t:Nat}{os:OsState}(x:Yg M C name r h)(q:Q r ⟨h,g,d,t,os⟩):Uu M A (typeLookup (.ref C) name) Q E ⟨h,g,d,t,os⟩:=
 x A E Q h g d t os (λ_ _ e=>e) q
section
variable{prog:Up}{w:World}{A:Around}{E:Um->Uo->Prop}{h:Heap}{g:Array GenState}{d:Drawn}{t:Nat}{os:OsState}{R:Result->Uo->Prop}
variable{nm q:Str}{C N x:Uq}{bs bm bmB:List Um}{hdct:Bool}{sn:List Str}{sub:List Um}{ab:Bool}{col:Option Bool}{dd:Option Uq}{k0 k1 k2 k3 k5:Option Um}{B newId sa owner:String}{mN mA:Str->Option Um}{name:Str}{v:Um}
theorem qc{M:Model}{o:Obj}{nameV:Um}{Q:Unit->Uo->Prop}(T:Y6 bmB bm)(hb:bmB.contains (.type "BaseException")=true)(hC:h.get? C=some (excClassObj nm q C N bs bm hdct sn sub ab col dd k0 k1 k2 k3 k5 newId))
  (hx:h.get? x=some o) (hc:o.cls=.ref C) (hq:Q () ⟨h,g,d,t,os⟩):Uu M A (checkBuiltinCall "BaseException.__getattribute__" ⟨[.ref x,nameV],[]⟩) Q E ⟨h,g,d,t,os⟩:=by
 have hk:builtinKind "BaseException.__getattribute__" = some .slot:=by decide +kernel
 have hsplit:splitId "BaseException.__getattribute__" = some ("BaseException", "__getattribute__"):=by decide +kernel
 have hcB:(Value.ref C::bm).contains (.type "BaseException")=true:=by rw[List.contains_cons,T _ _ hb];rfl
 have ha:=PySem.F.args_bexc_ga (.ref x) nameV;simp only[checkBuiltinCall,hk,hsplit];refine Qd ?_
 ·unfold isInstance
  repeat (first|(with_reducible refine QK hx ?_;rw[hc])|(with_reducible refine Jp hC ?_;rw[hcB])|wp_step)
  exact hq
end
section
variable{M:Model}{A:Around}{E:Um->Uo->Prop}{s:Uo}{base:Heap}{env:Env}{outer:List Env}{L e:Uq}
end
end L2
namespace L2
open PySem PySem.Spec PyProof.Rows PySem.Calls PyProof.V
noncomputable def XO(fr:Bool)(e C:Uq)(dd:Option Uq):Heap->Prop:=λh=>∃vs sl,h.get? e=some {cls:=.ref C,dict:=dd,data:=.fields vs,slots:=sl}/\(fr=true->vs[1]?=some .none/\∃t0,vs[0]?=some (.ref t0))
section
variable{X:Cx}{pins:List (Uq×Obj)}{σ:St}{H:Hp}{s:Uo}{e C:Uq}{dd:Option Uq}{h':Heap}
end
noncomputable abbrev VB:List Um:=[.type "ValueError", .type "Exception", .type "BaseException", .type "object"]
structure XCls(M:Model)(base:Heap)(C:Uq)(bm:List Um)(fI:Uq):Prop where
 obj:∃nm q N bs sn sub ab col dd k0 k1 k2 k3 k5,base.get? C=some (excClassObj nm q C N bs bm true sn sub ab col dd k0 k1 k2 k3 k5 "ValueError.__new__")
 tail:Y6 VB bm
 init:Yg M C "__init__" (some (.ref fI)) base
 fn:∃o,base.get? fI=some o/\o.cls=.type "function"
 sa:Yg M C "__setattr__" (some (.builtin "object.__setattr__")) base
 ga:Yg M C "__getattribute__" (some (.builtin "BaseException.__getattribute__")) base
 gh:Yg M C "__getattr__" none base
 cl:Yg M C "__class__" (some (.builtin "object.__class__")) base
 pass:∀v,refuseLoop v "__setattr__" bm=pure ()
section
variable{X:Cx}{k:Nat}{f C:Uq}{fd:Ur}{ps:List Str}{sp:Sp}{x:Str}{p pos cpos:Pos}{e:Us}{es:List Us}{t:TA}{bm:List Um}
end
section
variable{M:Model}{A:Around}{E:Um->Uo->Prop}{h:Heap}{g:Array GenState}{d:Drawn}{t:Nat}{os:OsState}
variable{nm q nm' q':Str}{C N D N' a:Uq}{bs bm bs' bm':List Um}{hdct hdct':Bool}{sn sn':List Str}{sub sub':List Um}{ab ab':Bool}{col col':Option Bool}{dd dd':Option Uq}{k0 k1 k2 k3 k5 j0 j1 j2 j3 j5:Option Um}{newId newId':String}
end
section
variable{X:Cx}{k:Nat}{f:Uq}{fd:Ur}{ps:List Str}{sp:Sp}{x n:Str}{p pos np hpos:Pos}{e:Us}{es:List Us}{t:TA}{KX:V->St->Hp->Prop}
end
section
variable{prog:Up}{w:World}{A:Around}{E:Um->Uo->Prop}{h:Heap}{g:Array GenState}{d:Drawn}{t:Nat}{os:OsState}
variable{nm q:Str}{C N a:Uq}{bs bm bmB:List Um}{hdct:Bool}{sn:List Str}{sub:List Um}{ab:Bool}{col:Option Bool}{dd:Option Uq}{k0 k1 k2 k3 k5:Option Um}{B newId initId nid:String}
end
section
variable{X:Cx}{k:Nat}{f D:Uq}{fd:Ur}{ps:List Str}{sp:Sp}{x:Str}{p pos apos:Pos}{e:Us}{es:List Us}{t:TA}
end
section
variable{X:Cx}{k:Nat}{f D:Uq}{fd:Ur}{ps:List Str}{sp:Sp}{x m:Str}{p pos apos:Pos}{e:Us}{es:List Us}{t:TA}
end
noncomputable def XD(dx:Uq)(fs:List (Str×V)):Heap->Prop:=λh=>∃mA,h.Ns1 dx mA/\h.ExactDictFk dx/\(∀f,RelO (fs.lookup f) (mA f))/\PySem.Within mA (fs.map (·.1))
section
variable{X:Cx}{pins:List (Uq×Obj)}{σ:St}{H:Hp}{s:Uo}{a C dx:Uq}{h':Heap}{t':Nat}
end
section
variable{X:Cx}{o value:Us}{f:Str}{pos pos':Pos}{ta tv:TE}{KC:Uq->List Um->Prop}
end
section
variable{X:Cx}{value:Us}{te:TE}{pos:Pos}
end
section
variable{X:Cx}{e:Us}{f:Str}{pos:Pos}{ta:TE}{KC:Uq->List Um->Prop}
end
end L2
namespace L2
open PySem PySem.Spec
section
variable{prog:Up}{w:World}{A:Around}{E:Um->Uo->Prop}{h:Heap}{g:Array GenState}{d:Drawn}{t:Nat}{os:OsState}{R:Result->Uo->Prop}
variable{nm q:Str}{C N a:Uq}{bs bm bmB:List Um}{hdct:Bool}{sn:List Str}{sub:List Um}{ab:Bool}{col:Option Bool}{dd:Option Uq}{k0 k1 k2 k3 k5:Option Um}{newId:String}{o:Obj}
theorem jL(T:Y6 bmB bm)(ho:bmB.contains (.type "object")=true)(hC:h.get? C=some (excClassObj nm q C N bs bm hdct sn sub ab col dd k0 k1 k2 k3 k5 newId))(hx:h.get? a=some o)(hc:o.cls=.ref C)(hq:R (.ok (.ret (.ref C))) ⟨h,g,d,t,os⟩) :
  codeAny (model prog w) A (.call (.builtin "getset_descriptor.__get__") ⟨[.builtin "object.__class__", .ref a,.ref C],[]⟩) R ⟨h,g,d,t,os⟩:=by
 have hT5:(⟨h,g,d,t,os⟩:Uo).TypeIs (.builtin "object.__class__") "getset_descriptor" :=PySem.F.typeOf_object_class;have hcB:(Value.ref C::bm).contains (.type (".".intercalate ("object.__class__".cutAt '.').dropLast))=true:=by rw[PySem.F.owner_object_class,List.contains_cons,T _ _ ho];rfl
 refine codeAny_call_builtin PySem.F.slot_gs_get.plain PySem.F.entry_gs_get (PySem.F.slot_gs_get.check _ _ _ _ _ _ _ _ hT5 (PySem.F.args_gs_get _ _ _) ?_)
 repeat (any_goals (first|assumption|(with_reducible refine QK hx ?_;rw[hc])|(with_reducible refine Jp hC ?_;rw[hcB])|wp_step))
 refine⟨Code.quiet_builtin _ (by decide +kernel),codeAny_builtin PySem.F.entry_object_class ?_⟩;unfold Builtin.«object.__class__»
 repeat (any_goals (first|assumption|(with_reducible refine QK hx ?_;rw[hc])|wp_step))
theorem kA{tk:Tok}{Q:PySem.Fin->Uo->Prop}(T:Y6 bmB bm)(ho:bmB.contains (.type "object")=true)(hC:h.get? C=some (excClassObj nm q C N bs bm hdct sn sub ab col dd k0 k1 k2 k3 k5 newId))(fc:Yg (model prog w) C "__class__" (some (.builtin "object.__class__")) h)(hx:h.get? a=some o)(hc:o.cls=.ref C)(hq:Q (.done (.ret (.ref C))) ⟨h,g,d,t,os⟩) :
  Uu (model prog w) A (Builtin.«object.__getattribute__» ⟨[.ref a,.str "__class__" tk],[]⟩) Q E ⟨h,g,d,t,os⟩:=by
 have hT5:(⟨h,g,d,t,os⟩:Uo).TypeIs (.builtin "object.__class__") "getset_descriptor" :=PySem.F.typeOf_object_class;have f5:=PySem.F.typeOf_object_class;have f6:=PySem.F.slot_gs_get.lookup;have f7:=PySem.F.slot_gs_set.lookup
 repeat (any_goals (first|assumption|(with_reducible refine QK hx ?_;rw[hc])|with_reducible refine fc.at ?_|wp_step))
 refine jL T ho hC hx hc ?_
 repeat (any_goals (first|assumption|wp_step))
theorem Gk{Q:Option Um->Uo->Prop}(FB:ExcAttrFacts "ValueError")(T:Y6 VB bm)(hC:h.get? C=some (excClassObj nm q C N bs bm hdct sn sub ab col dd k0 k1 k2 k3 k5 newId))(fc:Yg (model prog w) C "__class__" (some (.builtin "object.__class__")) h)
  (fg:Yg (model prog w) C "__getattribute__" (some (.builtin "BaseException.__getattribute__")) h) (fa:Yg (model prog w) C "__getattr__" none h) (hx:h.get? a=some o) (hc:o.cls=.ref C) (hq:Q (some (.ref C)) ⟨h,g,d,t+1,os⟩) :
  Uu (model prog w) A (getAttr? (.ref a) "__class__") Q E ⟨h,g,d,t,os⟩:=by
 have f3:=FB.ga.bind (.ref a);have hx0:(false&&onTheHeap (Value.builtin "BaseException.__getattribute__"))=false:=rfl;have hx2:(Value.builtin "BaseException.__getattribute__" == Value.builtin "object.__getattribute__")=false:=by decide +kernel
 have hx1:(onTheHeap (Value.ref C)&&Value.builtin "BaseException.__getattribute__" == Value.builtin "object.__getattribute__")=false:=by rw[hx2];rfl
 unfold getAttr? getAttrBy?;refine Qd (wpAny_mkText (Qd (wpAny_attempt ?_)))
 repeat (any_goals (first|assumption|(with_reducible refine QK hx ?_;rw[hc])|with_reducible refine fg.at ?_|with_reducible refine fa.at ?_|wp_step))
 refine codeAny_call_builtin FB.ga.plain PySem.F.entry_bexc_ga (qc T rfl hC hx hc (kA T rfl hC fc hx hc ?_))
 repeat (any_goals (first|assumption|wp_step))
end
end L2
namespace L2
open PySem PySem.Spec PyProof.Rows
section
variable{prog:Up}{w:World}{A:Around}{E:Um->Uo->Prop}{h:Heap}{g:Array GenState}{d:Drawn}{t:Nat}{os:OsState}
variable{nm q nm' q':Str}{C N D N' a:Uq}{bs bm bs' bm':List Um}{hdct hdct':Bool}{sn sn':List Str}{sub sub':List Um}{ab ab':Bool}{col col':Option Bool}{dd dd':Option Uq}{k0 k1 k2 k3 k5 j0 j1 j2 j3 j5:Option Um}{newId newId':String}{o:Obj}{b:Bool}
theorem CW{Q:Um->Uo->Prop}(T:Y6 VB bm)(hC:h.get? C=some (excClassObj nm q C N bs bm hdct sn sub ab col dd k0 k1 k2 k3 k5 newId))(hD:h.get? D=some (excClassObj nm' q' D N' bs' bm' hdct' sn' sub' ab' col' dd' j0 j1 j2 j3 j5 newId'))
  (fc:Yg (model prog w) C "__class__" (some (.builtin "object.__class__")) h) (fg:Yg (model prog w) C "__getattribute__" (some (.builtin "BaseException.__getattribute__")) h) (fa:Yg (model prog w) C "__getattr__" none h)
  (hx:h.get? a=some o) (hc:o.cls=.ref C) (hb:(Value.ref C::bm).contains (.ref D)=b) (hq:∀tk,Q (.bool b) ⟨h,g,d,tk,os⟩):Uu (model prog w) A (call (.builtin "isinstance") [.ref a,.ref D]) Q E ⟨h,g,d,t,os⟩:=by
 have hT:(⟨h,g,d,t,os⟩:Uo).TypeIs (.ref D) "type" :=⟨_,hD,rfl⟩
 have f2:=tc_sub;refine call_isinstance_of ?_ (λz=>nomatch z);unfold Builtin.«isinstance.nested»;refine Qd ?_;unfold typeOf;refine Qd (QK hx (Qh ?_));rw[hc];by_cases e:C=D
 ·subst e;have hb1:b=true:=by rw[←hb];simp
  subst hb1;rw[if_pos (by simp)];exact Qd (wpAny_rule (Qh (hq t)))
 ·rw[if_neg (by simp[e])];refine Qd (Qd (QK hD (Qh ?_)));rw[Qp (show(Value.type "type" == Value.type "type")=true by decide)]
  k_delta "plainIsInstance"
  unfold isType isInstance
  repeat (first|(with_reducible refine QK hx ?_;rw[hc])|with_reducible refine QK hD ?_|with_reducible refine QK hC ?_|(with_reducible refine Jp hC ?_;rw[hb])|wp_step)
  cases b with
  |true=>wp_walk;exact hq t
  |false=>
   rw[Qz (by decide)];refine Qd (Gk PySem.F.excAttr_ValueError T hC fc fg fa hx hc ?_)
   repeat (first|with_reducible refine QK hC ?_|(with_reducible refine Jp hC ?_;rw[hb])|wp_step)
   exact hq _
theorem Dd{Q:Um->Uo->Prop}{X:String}(T:Y6 VB bm)(hC:h.get? C=some (excClassObj nm q C N bs bm hdct sn sub ab col dd k0 k1 k2 k3 k5 newId))(hX:typeOf (.type X)=pure (.type "type"))
  (fc:Yg (model prog w) C "__class__" (some (.builtin "object.__class__")) h) (fg:Yg (model prog w) C "__getattribute__" (some (.builtin "BaseException.__getattribute__")) h) (fa:Yg (model prog w) C "__getattr__" none h)
  (hx:h.get? a=some o) (hc:o.cls=.ref C) (hb:(Value.ref C::bm).contains (.type X)=b) (hq:∀tk,Q (.bool b) ⟨h,g,d,tk,os⟩):Uu (model prog w) A (call (.builtin "isinstance") [.ref a,.type X]) Q E ⟨h,g,d,t,os⟩:=by
 refine call_isinstance_of ?_ (λz=>nomatch z);unfold Builtin.«isinstance.nested»;refine Qd ?_;have ty:∀{M:Model}{A:Around}{Q:Um->Uo->Prop}{E:Um->Uo->Prop},Q (.ref C) ⟨h,g,d,t,os⟩->Uu M A (typeOf (.ref a)) Q E ⟨h,g,d,t,os⟩:=λq=>by unfold typeOf;refine Qd (QK hx (Qh ?_));rw[hc];exact q
 refine ty ?_;rw[if_neg (by simp)];refine Qd (wpAny_of_eq hX ?_);rw[Qp (show(Value.type "type" == Value.type "type")=true by decide)]
 k_delta "plainIsInstance"
 unfold isType isInstance
 repeat (first|(with_reducible refine QK hx ?_;rw[hc])|with_reducible refine QK hC ?_|(with_reducible refine Jp hC ?_;rw[hb])|wp_step)
 cases b with
 |true=>wp_walk;exact hq t
 |false=>
  rw[Qz (by decide)];refine Qd (Gk PySem.F.excAttr_ValueError T hC fc fg fa hx hc ?_)
  repeat (first|with_reducible refine QK hC ?_|(with_reducible refine Jp hC ?_;rw[hb])|wp_step)
  exact hq _
end
noncomputable def rIsX(KC:Uq->List Um->Prop):List V->Hp->VK->Prop:=λxs H Q=>∃a C dd bm fr c b,xs=[.ref a,c]/\KC C bm/\H a=some (.ext (XO fr a C dd)) /\
 ((∃D bm',c=.ref D/\KC D bm'/\(Value.ref C::bm).contains (.ref D)=b) ∨ ∃T,c=.ty T/\typeOf (.type T)=pure (.type "type")/\(Value.ref C::bm).contains (.type T)=b)/\Q (.bl b) H
theorem Ag{X:Cx}{KC:Uq->List Um->Prop}(hcls:∀C bm,KC C bm->∃fI,XCls (model X.prog X.w) X.base C bm fI):Yu X (.builtin "isinstance") (rIsX KC):=by
 rintro pins s σ H xs us Q I r ⟨a,C,dd,bm,fr,c,b,rfl,kc,hx,hD,q⟩;cases r with
 |cons ra r=>
 cases r with
 |cons rc r=>
 cases r;have ra':_=Value.ref a:=ra;subst ra';obtain⟨fI,XC⟩:=hcls C bm kc;obtain⟨nm,qn,N,bs,sn,sub,ab,col,dd1,k0,k1,k2,k3,k5,hC⟩:=XC.obj;obtain⟨⟨vs,sl,ga,_⟩,_,_⟩:=I.hok a _ hx;obtain⟨hp,g,d,tk,os⟩:=s;rcases hD with ⟨D,bm',rfl,kd,hb⟩|⟨T,rfl,hT,hb⟩
 ·have rc':_=Value.ref D:=rc;subst rc';obtain⟨fI',XD'⟩:=hcls D bm' kd;obtain⟨nm',qn',N',bs',sn',sub',ab',col',dd2,j0,j1,j2,j3,j5,hD'⟩:=XD'.obj;exact CW XC.tail (I.bk _ _ hC) (I.bk _ _ hD') (XC.cl.keeps I.bk) (XC.ga.keeps I.bk) (XC.gh.keeps I.bk) ga rfl hb λtk'=>⟨.bl b,H,I.tok tk',rfl,q⟩
 ·have rc':_=Value.type T:=rc;subst rc';exact Dd XC.tail (I.bk _ _ hC) hT (XC.cl.keeps I.bk) (XC.ga.keeps I.bk) (XC.gh.keeps I.bk) ga rfl hb λtk'=>⟨.bl b,H,I.tok tk',rfl,q⟩
noncomputable def Fc(nm:Str):List Str:=if nm = "NoWishes" then ["part", "number"]else if nm = "NoAim" then ["part"]else if nm = "NoText" then ["row"]else []
noncomputable def NN(K:Frag)(nm:Str):Option Uq:=match PySem.W.nsIn K mainGlobals nm with|some (some (.ref C))=>some C|_=>none
def NmAt(K:Frag)(nm:Str)(C:Uq):Prop:=∃o cd,K.lookup C=some o/\o.data=.cls cd/\cd.name=nm
structure ClsK(K:Frag)(nm:Str)(C:Uq)(bm:List Um):Prop where
 ad:NN K nm=some C
 nmd:NmAt K nm C
 up:nm = "DealError" /\ bm=VB∨nm ≠ "DealError" /\ ∃D,NN K "DealError" = some D/\bm=.ref D::VB/\NmAt K "DealError" D
 cls:∀(M:Model)(h:Heap),K.In h->∃fI,XCls M h C bm fI
 fld:∀(M:Model)(h:Heap),K.In h->∀f∈(["part", "number", "row"]:List Str),Yg M C f none h
noncomputable def KC(K:Frag):Uq->List Um->Prop:=λC bm=>∃nm,ClsK K nm C bm
section
variable{K:Frag}{nm x:Str}{C D:Uq}{bm bm':List Um}
theorem ClsK.ty(c:ClsK K nm C bm)(T:String):(Value.ref C::bm).contains (.type T)=VB.contains (.type T):=by
 rcases c.up with ⟨_,rfl⟩|⟨_,D',g,rfl,n⟩
 ·rfl
 ·rfl
end
section
variable{X:Cx}{e:Us}{st:Stmt}{sts:List Stmt}{t:TE}{ts:TS}
theorem Fb(k:X.K.In X.base):∀C bm,KC X.K C bm->∃fI,XCls (model X.prog X.w) X.base C bm fI:=λ_ _ ⟨_,c⟩=>c.cls _ _ k
end
end L2
namespace DL
open PySem PySem.Spec L2
open PyProof.Rows hiding St
abbrev D:=PyData
abbrev XW:=V->St->Hp->Prop
noncomputable abbrev KX0:XW:=λ_ _ _=>False
def XFs(G:Hp)(dd:Option Uq)(fs:List Str)(vs:List V):Prop:=match dd with
 |none=>fs=[]/\vs=[]
 |some dx=>fs.length=vs.length/\G dx=some (.ext (XD dx (fs.zip vs)))
theorem XFs.mono{G G1:Hp}{dd:Option Uq}{fs:List Str}{vs:List V}(e:Same G G1)(h:XFs G dd fs vs):XFs G1 dd fs vs:=by
 cases dd with
 |none=>exact h
 |some dx=>exact⟨h.1,e _ _ h.2⟩
noncomputable def kD:Key->D
 |.inl i=>.int i
 |.inr x=>.str x
noncomputable def tkD(k:List Key):D:=.tuple (k.map kD)
noncomputable def pdD(ks:List (List Key))(ds:List D):List (D×D):=(.bool true,.none)::(ks.map tkD).zip ds
mutual
inductive Rep(K:Frag)(G:Hp):V->D->Prop where
 |non:Rep K G .non .none
 |bl (b:Bool):Rep K G (.bl b) (.bool b)
 |int (i:Int):Rep K G (.int i) (.int i)
 |str (x:Str):Rep K G (.str x) (.str x)
 |lst {a:Uq} {vs:List V} {ds:List D} (h:SqL K G a vs) (r:Reps K G vs ds):Rep K G (.ref a) (.list ds)
 |tup {a:Uq} {vs:List V} {ds:List D} (h:SqT K G a vs) (r:Reps K G vs ds):Rep K G (.ref a) (.tuple ds)
 |dic {a:Uq} (h:G a=some (.dK [])):Rep K G (.ref a) (.dict [])
 |exc {a C:Uq} {dd:Option Uq} {bm:List Um} {nm:Str} {vs:List V} {ds:List D} (c:ClsK K nm C bm) (h:G a=some (.ext (XO false a C dd))) (hd:XFs G dd (Fc nm) vs) (r:Reps K G vs ds):Rep K G (.ref a) (.dict [(.none,.tuple [.str nm,.list ds])])
 |dct {a:Uq} {ks:List Key} {vs:List V} {ds:List D} {kvs:List (D×D)} (e:kvs=(ks.map kD).zip ds) (hne:ks≠[]) (hl:ks.length=ds.length) (h:G a=some (.dK (ks.zip vs))) (r:Reps K G vs ds):Rep K G (.ref a) (.dict kvs)
 |dtt {a:Uq} {o:Obj} {ks:List (List Key)} {vs:List V} {ds:List D} {kvs:List (D×D)} (e:kvs=pdD ks ds) (hl:ks.length=ds.length) (h:G a=some (.frz o (.dT (ks.zip vs)))) (r:Reps K G vs ds):Rep K G (.ref a) (.dict kvs)
inductive Reps(K:Frag)(G:Hp):List V->List D->Prop where
 |nil:Reps K G [] []
 |cons {v:V} {d:D} {vs:List V} {ds:List D} (h:Rep K G v d) (t:Reps K G vs ds):Reps K G (v::vs) (d::ds)
end
variable{K:Frag}{B G0 G G1 G2 H H1 H2:Hp}
theorem YU{a:Uq}{xs:List V}(e:Same G G1)(h:SqT K G a xs):SqT K G1 a xs:=by
 rcases h with (h|⟨o,h⟩)|h
 ·exact .inl (.inl (e _ _ h))
 ·exact .inl (.inr ⟨o,e _ _ h⟩)
 ·exact .inr h
mutual
theorem Rep.mono(e:Same G G1):∀{v:V}{d:D},Rep K G v d->Rep K G1 v d
 |_,_,.non=>.non
 |_,_,.bl b=>.bl b
 |_,_,.int i=>.int i
 |_,_,.str x=>.str x
 |_,_,.lst h r=>.lst (e.seq h) (Reps.mono e r)
 |_,_,.tup h r=>.tup (YU e h) (Reps.mono e r)
 |_,_,.dic h=>.dic (e _ _ h)
 |_,_,.exc c h hd r=>.exc c (e _ _ h) (hd.mono e) (Reps.mono e r)
 |_,_,.dct z n l h r=>.dct z n l (e _ _ h) (Reps.mono e r)
 |_,_,.dtt z l h r=>.dtt z l (e _ _ h) (Reps.mono e r)
theorem Reps.mono(e:Same G G1):∀{vs:List V}{ds:List D},Reps K G vs ds->Reps K G1 vs ds
 |_,_,.nil=>.nil
 |_,_,.cons h t=>.cons (Rep.mono e h) (Reps.mono e t)
end
section
variable{v:V}{vs ws:List V}{ds es:List D}
theorem Rep.bl_inv{b:Bool}(h:Rep K G v (.bool b)):v=.bl b:=by cases h;rfl
theorem Rep.int_inv{i:Int}(h:Rep K G v (.int i)):v=.int i:=by cases h;rfl
theorem Rep.str_inv{x:Str}(h:Rep K G v (.str x)):v=.str x:=by cases h;rfl
theorem Rep.lst_inv(h:Rep K G v (.list ds)):∃a vs,v=.ref a/\SqL K G a vs/\Reps K G vs ds:=by
 cases h with
 |lst h r=>exact⟨_,_,rfl,h,r⟩
theorem Rep.tup_inv(h:Rep K G v (.tuple ds)):∃a vs,v=.ref a/\SqT K G a vs/\Reps K G vs ds:=by
 cases h with
 |tup h r=>exact⟨_,_,rfl,h,r⟩
theorem Reps.length:∀{vs:List V}{ds:List D},Reps K G vs ds->vs.length=ds.length
 |_,_,.nil=>rfl
 |_,_,.cons _ t=>by rw[QO,QO,Reps.length t]
theorem Reps.get:∀{vs:List V}{ds:List D}{i:Nat}{d:D},Reps K G vs ds->ds[i]?=some d->∃v,vs[i]?=some v/\Rep K G v d
 |_,_,_,_,.nil,e=>by simp at e
 |_,_,0,_,.cons h _,e=>by simp at e;subst e;exact⟨_,rfl,h⟩
 |_,_,i+1,d,.cons _ t,e=>by obtain⟨u,h1,h2⟩:=Reps.get (i:=i) (d:=d) t (by simpa using e);exact⟨u,by simpa using h1,h2⟩
theorem Reps.append:∀{vs ws:List V}{ds es:List D},Reps K G vs ds->Reps K G ws es->Reps K G (vs++ws) (ds++es)
 |_,_,_,_,.nil,s=>s
 |_,_,_,_,.cons r t,s=>.cons r (Reps.append t s)
theorem Reps.take:∀{vs:List V}{ds:List D}(n:Nat),Reps K G vs ds->Reps K G (vs.take n) (ds.take n)
 |_,_,0,_=>by rw[J7,J7];exact .nil
 |_,_,_+1,.nil=>.nil
 |_,_,n+1,.cons r t=>.cons r (Reps.take n t)
theorem Reps.drop:∀{vs:List V}{ds:List D}(n:Nat),Reps K G vs ds->Reps K G (vs.drop n) (ds.drop n)
 |_,_,0,r=>r
 |_,_,_+1,.nil=>.nil
 |_,_,n+1,.cons _ t=>Reps.drop n t
theorem Reps.reverse:∀{vs:List V}{ds:List D},Reps K G vs ds->Reps K G vs.reverse ds.reverse
 |_,_,.nil=>.nil
 |_,_,.cons r t=>by rw[List.reverse_cons,List.reverse_cons];exact Reps.append (Reps.reverse t) (.cons r .nil)
theorem Reps.set{v:V}{d:D}(r:Rep K G v d):∀{vs:List V}{ds:List D}(i:Nat),Reps K G vs ds->Reps K G (vs.set i v) (ds.set i d)
 |_,_,_,.nil=>.nil
 |_,_,0,.cons _ t=>.cons r t
 |_,_,i+1,.cons q t=>.cons q (Reps.set r i t)
theorem Reps.ints:∀(ns:List Int),Reps K G (ns.map V.int) (ns.map int)
 |[]=>.nil
 |n::ns=>.cons (.int n) (Reps.ints ns)
end
inductive MO where
 |l (vs:List V)|k (kvs:List (Key×V))|t (kvs:List (List Key×V))
noncomputable def MO.ho:MO->HO
 |.l vs=>.lst vs
 |.k kvs=>.dK kvs
 |.t kvs=>.dT kvs
structure Ext(G H G' H':Hp):Prop where
 h:Same H H'
 g:Same G G'
 gh:Same G' H'
 np:∀a(u:MO),H a=some u.ho->G a=none->G' a=none
theorem Ext.refl(e:Same G H):Ext G H G H:=⟨.refl _,.refl _,e,λ_ _ _ q=>q⟩
theorem Ext.trans{G' H' G'' H'':Hp}(a:Ext G H G' H')(b:Ext G' H' G'' H''):Ext G H G'' H'':=
 ⟨a.h.trans b.h,a.g.trans b.g,b.gh,λx o e q=>b.np x o (a.h x _ e) (a.np x o e q)⟩
theorem Zq{p:Uq}{o:HO}(h:H p=none):Same H (upd H p o):=λb u e=>by rw[KN (Yi e h)];exact e
theorem Ext.new{p:Uq}{o:HO}(e:Same G H)(h:H p=none):Ext G H (upd G p o) (upd H p o):=by
 have hg:G p=none:=e.free h;refine⟨Zq h,Zq hg,λb u q=>?_,λa u q n=>?_⟩
 ·by_cases z:b=p
  ·subst z;rw[Zf]at q⊢;exact q
  ·rw[KN z]at q⊢;exact e b u q
 ·rw[KN (Yi q h)];exact n
theorem Ext.hid{p:Uq}{o:HO}(e:Same G H)(h:H p=none):Ext G H G (upd H p o):=
 ⟨Zq h,.refl _,e.trans (Zq h),λ_ _ _ n=>n⟩
inductive Pat where
 |leaf|lst (p:Pat)|tup (ps:List Pat)
mutual
inductive RepO(K:Frag)(G H:Hp):Pat->V->D->List Uq->Prop where
 |leaf {v:V} {d:D} (r:Rep K G v d):RepO K G H .leaf v d []
 |lst {p:Pat} {a:Uq} {vs:List V} {ds:List D} {fp:List Uq} (h:H a=some (.lst vs)) (r:RepOl K G H p vs ds fp):RepO K G H (.lst p) (.ref a) (.list ds) (a::fp)
 |tup {ps:List Pat} {a:Uq} {vs:List V} {ds:List D} {fp:List Uq} (h:H a=some (.tup vs)) (r:RepOs K G H ps vs ds fp):RepO K G H (.tup ps) (.ref a) (.tuple ds) fp
inductive RepOl(K:Frag)(G H:Hp):Pat->List V->List D->List Uq->Prop where
 |nil {p:Pat}:RepOl K G H p [] [] []
 |cons {p:Pat} {v:V} {d:D} {vs:List V} {ds:List D} {f1 f2:List Uq} (h:RepO K G H p v d f1) (t:RepOl K G H p vs ds f2):RepOl K G H p (v::vs) (d::ds) (f1++f2)
inductive RepOs(K:Frag)(G H:Hp):List Pat->List V->List D->List Uq->Prop where
 |nil:RepOs K G H [] [] [] []
 |cons {p:Pat} {ps:List Pat} {v:V} {d:D} {vs:List V} {ds:List D} {f1 f2:List Uq} (h:RepO K G H p v d f1) (t:RepOs K G H ps vs ds f2):RepOs K G H (p::ps) (v::vs) (d::ds) (f1++f2)
end
mutual
theorem RepO.mono(sg:Same G G1)(sh:Same H H1):∀{p:Pat}{v:V}{d:D}{fp:List Uq},RepO K G H p v d fp->RepO K G1 H1 p v d fp
 |_,_,_,_,.leaf r=>.leaf (r.mono sg)
 |_,_,_,_,.lst h r=>.lst (sh _ _ h) (RepOl.mono sg sh r)
 |_,_,_,_,.tup h r=>.tup (sh _ _ h) (RepOs.mono sg sh r)
theorem RepOl.mono(sg:Same G G1)(sh:Same H H1):∀{p:Pat}{v:List V}{d:List D}{fp:List Uq},RepOl K G H p v d fp->RepOl K G1 H1 p v d fp
 |_,_,_,_,.nil=>.nil
 |_,_,_,_,.cons h t=>.cons (RepO.mono sg sh h) (RepOl.mono sg sh t)
theorem RepOs.mono(sg:Same G G1)(sh:Same H H1):∀{p:List Pat}{v:List V}{d:List D}{fp:List Uq},RepOs K G H p v d fp->RepOs K G1 H1 p v d fp
 |_,_,_,_,.nil=>.nil
 |_,_,_,_,.cons h t=>.cons (RepO.mono sg sh h) (RepOs.mono sg sh t)
end
mutual
theorem RepO.upd{a:Uq}{o:HO}(nt:∀vs,H a≠some (.tup vs)):∀{p:Pat}{v:V}{d:D}{fp:List Uq},RepO K G H p v d fp->a∉fp->RepO K G (upd H a o) p v d fp
 |_,_,_,_,.leaf r,_=>.leaf r
 |_,_,_,_,.lst h r,n=>.lst (by rw[KN (λz=>n (by rw[z];exact Qk))];exact h) (RepOl.upd nt r λz=>n (Qj _ z))
 |_,_,_,_,.tup h r,n=>.tup (by rw[KN (λz=>by subst z;exact nt _ h)];exact h) (RepOs.upd nt r n)
theorem RepOl.upd{a:Uq}{o:HO}(nt:∀vs,H a≠some (.tup vs)):∀{p:Pat}{v:List V}{d:List D}{fp:List Uq},RepOl K G H p v d fp->a∉fp->RepOl K G (upd H a o) p v d fp
 |_,_,_,_,.nil,_=>.nil
 |_,_,_,_,.cons h t,n=>.cons (RepO.upd nt h λz=>n (Q9 _ z)) (RepOl.upd nt t λz=>n (QJ _ z))
theorem RepOs.upd{a:Uq}{o:HO}(nt:∀vs,H a≠some (.tup vs)):∀{p:List Pat}{v:List V}{d:List D}{fp:List Uq},RepOs K G H p v d fp->a∉fp->RepOs K G (upd H a o) p v d fp
 |_,_,_,_,.nil,_=>.nil
 |_,_,_,_,.cons h t,n=>.cons (RepO.upd nt h λz=>n (Q9 _ z)) (RepOs.upd nt t λz=>n (QJ _ z))
end
mutual
theorem RepO.rep(gh:Same G H):∀{p:Pat}{v:V}{d:D}{fp:List Uq},RepO K G H p v d fp->Rep K H v d
 |_,_,_,_,.leaf r=>r.mono gh
 |_,_,_,_,.lst h r=>.lst (SqL.of h) (RepOl.rep gh r)
 |_,_,_,_,.tup h r=>.tup (SqT.of h) (RepOs.rep gh r)
theorem RepOl.rep(gh:Same G H):∀{p:Pat}{v:List V}{d:List D}{fp:List Uq},RepOl K G H p v d fp->Reps K H v d
 |_,_,_,_,.nil=>.nil
 |_,_,_,_,.cons h t=>.cons (RepO.rep gh h) (RepOl.rep gh t)
theorem RepOs.rep(gh:Same G H):∀{p:List Pat}{v:List V}{d:List D}{fp:List Uq},RepOs K G H p v d fp->Reps K H v d
 |_,_,_,_,.nil=>.nil
 |_,_,_,_,.cons h t=>.cons (RepO.rep gh h) (RepOs.rep gh t)
end
mutual
theorem RepO.isl:∀{p:Pat}{v:V}{d:D}{fp:List Uq},RepO K G H p v d fp->∀a∈fp,∃vs,H a=some (.lst vs)
 |_,_,_,_,.leaf r,a,m=>by cases m
 |_,_,_,_,.lst h r,a,m=>by
  rcases QQ.mp m with rfl|m
  ·exact⟨_,h⟩
  ·exact RepOl.isl r a m
 |_,_,_,_,.tup h r,a,m=>RepOs.isl r a m
theorem RepOl.isl:∀{p:Pat}{v:List V}{d:List D}{fp:List Uq},RepOl K G H p v d fp->∀a∈fp,∃vs,H a=some (.lst vs)
 |_,_,_,_,.nil,a,m=>by cases m
 |_,_,_,_,.cons h t,a,m=>by
  rcases QR.mp m with m|m
  ·exact RepO.isl h a m
  ·exact RepOl.isl t a m
theorem RepOs.isl:∀{p:List Pat}{v:List V}{d:List D}{fp:List Uq},RepOs K G H p v d fp->∀a∈fp,∃vs,H a=some (.lst vs)
 |_,_,_,_,.nil,a,m=>by cases m
 |_,_,_,_,.cons h t,a,m=>by
  rcases QR.mp m with m|m
  ·exact RepO.isl h a m
  ·exact RepOs.isl t a m
end
mutual
theorem RepO.uniq(sh:Same H H1):∀{p:Pat}{v:V}{d d':D}{fp fp':List Uq},RepO K G H p v d fp->RepO K G1 H1 p v d' fp'->fp=fp'
 |_,_,_,_,_,_,.leaf _,.leaf _=>rfl
 |_,_,_,_,_,_,.lst h r,.lst h' r'=>by have e:=sh _ _ h;rw[h']at e;cases e;rw[RepOl.uniq sh r r']
 |_,_,_,_,_,_,.tup h r,.tup h' r'=>by have e:=sh _ _ h;rw[h']at e;cases e;exact RepOs.uniq sh r r'
theorem RepOl.uniq(sh:Same H H1):∀{p:Pat}{v:List V}{d d':List D}{fp fp':List Uq},RepOl K G H p v d fp->RepOl K G1 H1 p v d' fp'->fp=fp'
 |_,_,_,_,_,_,.nil,.nil=>rfl
 |_,_,_,_,_,_,.cons h t,.cons h' t'=>by rw[RepO.uniq sh h h',RepOl.uniq sh t t']
theorem RepOs.uniq(sh:Same H H1):∀{p:List Pat}{v:List V}{d d':List D}{fp fp':List Uq},RepOs K G H p v d fp->RepOs K G1 H1 p v d' fp'->fp=fp'
 |_,_,_,_,_,_,.nil,.nil=>rfl
 |_,_,_,_,_,_,.cons h t,.cons h' t'=>by rw[RepO.uniq sh h h',RepOs.uniq sh t t']
end
inductive Sl where
 |pub (d:D)|own (ds:List D)|deep (p:Pat) (d:D)
abbrev UJ:=List (Option Sl)
def DpOk(K:Frag)(B G H:Hp)(σ:St)(Z:UJ):Prop:=∃ω:Uq->Nat,
 (∀(i:Nat) p d,Z[i]?=some (some (.deep p d))->∃v fp,σ[i]?=some (some v)/\RepO K G H p v d fp/\fp.Nodup/\∀a∈fp,B a=none/\G a=none/\ω a=i) /\
 (∀(i:Nat) ds a,Z[i]?=some (some (.own ds))->σ[i]?=some (some (.ref a))->ω a=i)
theorem DpOk.of{σ:St}{Z:UJ}(h1:∀(i:Nat) p d,Z[i]?=some (some (.deep p d))->False)(h2:∀(i:Nat) ds,Z[i]?=some (some (.own ds))->False):DpOk K B G H σ Z:=
 ⟨λ_=>0,λi p d q=>(h1 i p d q).elim,λi ds a q=>(h2 i ds q).elim⟩
theorem DpOk.map{B1:Hp}{σ σ1:St}{Z Z1:UJ}(k:DpOk K B G H σ Z)
  (h1:∀(i:Nat) p d,Z1[i]?=some (some (.deep p d))->Z[i]?=some (some (.deep p d))/\σ1[i]?=σ[i]?)
  (h2:∀(i:Nat) ds,Z1[i]?=some (some (.own ds))->∃es,Z[i]?=some (some (.own es))/\σ1[i]?=σ[i]?)
  (h3:∀(i:Nat) p d v fp,Z[i]?=some (some (.deep p d))->σ[i]?=some (some v)->RepO K G H p v d fp->(∀a∈fp,B a=none/\G a=none)->(∀(j:Nat) ds a,Z[j]?=some (some (.own ds))->σ[j]?=some (some (.ref a))->a∉fp)->RepO K G1 H1 p v d fp/\∀a∈fp,B1 a=none/\G1 a=none):DpOk K B1 G1 H1 σ1 Z1:=by
 obtain⟨ω,k1,k2⟩:=k;refine⟨ω,λi p d q=>?_,λi ds a q s=>?_⟩
 ·obtain⟨q1,e1⟩:=h1 i p d q;obtain⟨v,fp,s,r,n,w⟩:=k1 i p d q1;obtain⟨r1,w1⟩:=h3 i p d v fp q1 s r (λa m=>⟨(w a m).1,(w a m).2.1⟩) λj ds a qj sj m=>by have z1:=k2 j ds a qj sj;have z2:=(w a m).2.2;rw[z1]at z2;subst z2;rw[q1]at qj;cases qj
  exact⟨v,fp,by rw[e1];exact s,r1,n,λa m=>⟨(w1 a m).1,(w1 a m).2,(w a m).2.2⟩⟩
 ·obtain⟨es,q1,e1⟩:=h2 i ds q;rw[e1]at s;exact k2 i es a q1 s
structure EOk(K:Frag)(B G0 G H:Hp)(σ:St)(Z:UJ):Prop where
 bh:Same B H
 gh:Same G H
 g0:Same G0 G
 np:∀a(u:MO),B a=some u.ho->G0 a=none->G a=none
 len:Z.length=σ.length
 pub:∀(i:Nat) d,Z[i]?=some (some (.pub d))->∃v,σ[i]?=some (some v)/\Rep K G v d
 own:∀(i:Nat) ds,Z[i]?=some (some (.own ds))->∃a vs,σ[i]?=some (some (.ref a))/\B a=none/\G a=none/\H a=some (.lst vs)/\Reps K G vs ds
 sep:∀(i j:Nat) a ds es,Z[i]?=some (some (.own ds))->Z[j]?=some (some (.own es))->σ[i]?=some (some (.ref a))->σ[j]?=some (some (.ref a))->i=j
 dp:DpOk K B G H σ Z
theorem EOk.ext{G' H':Hp}{σ:St}{Z:UJ}(k:EOk K B G0 G H σ Z)(e:Ext G H G' H'):EOk K B G0 G' H' σ Z where
 bh:=k.bh.trans e.h
 gh:=e.gh
 g0:=k.g0.trans e.g
 np:=λa o q n=>e.np a o (k.bh a _ q) (k.np a o q n)
 len:=k.len
 pub:=λi d q=>let ⟨v,h1,h2⟩:=k.pub i d q;⟨v,h1,h2.mono e.g⟩
 own:=λi ds q=>let ⟨a,vs,h1,h2,h3,h4,h5⟩:=k.own i ds q;⟨a,vs,h1,h2,e.np a (.l _) h4 h3,e.h a _ h4,h5.mono e.g⟩
 sep:=k.sep
 dp:=k.dp.map (λ_ _ _ q=>⟨q,rfl⟩) (λ_ ds q=>⟨ds,q,rfl⟩) λi p d v fp q s r w n=>⟨r.mono e.g e.h,λa m=>let ⟨_,hl⟩:=r.isl a m;⟨(w a m).1,e.np a (.l _) hl (w a m).2⟩⟩
theorem EOk.publish{σ:St}{Z:UJ}{i:Nat}{ds:List D}(k:EOk K B G0 G H σ Z)(h:Z[i]?=some (some (.own ds))) :
  ∃a G',σ[i]?=some (some (.ref a))/\Same G G'/\Rep K G' (.ref a) (.list ds)/\EOk K B G0 G' H σ (Z.set i (some (.pub (.list ds)))):=by
 obtain⟨a,vs,h1,h2,h3,h4,h5⟩:=k.own i ds h;have sg:Same G (upd G a (.lst vs)):=Zq h3;have hr:Rep K (upd G a (.lst vs)) (.ref a) (.list ds):=.lst (SqL.of Zf) (h5.mono sg);refine⟨a,upd G a (.lst vs),h1,sg,hr,⟨k.bh,λb u q=>?_,k.g0.trans sg,λb o q n=>?_,by rw[QS];exact k.len,λj d q=>?_,λj es q=>?_,λj l c es fs q1 q2 s1 s2=>?_,?_⟩⟩
 ·by_cases z:b=a
  ·subst z;rw[Zf]at q;cases q;exact h4
  ·rw[KN z]at q;exact k.gh b u q
 ·have z:b≠a:=λz=>by subst z;rw[h2]at q;cases q
  rw[KN z];exact k.np b o q n
 ·by_cases z:i=j
  ·subst z;have hl:i<Z.length:=(Qg.mp h).1;rw[QD hl]at q;cases q;exact⟨.ref a,h1,hr⟩
  ·rw[Qq z]at q;obtain⟨v,g1,g2⟩:=k.pub j d q;exact⟨v,g1,g2.mono sg⟩
 ·by_cases z:i=j
  ·subst z;have hl:i<Z.length:=(Qg.mp h).1;rw[QD hl]at q;cases q
  ·rw[Qq z]at q;obtain⟨b,ws,g1,g2,g3,g4,g5⟩:=k.own j es q;have zb:b≠a:=λe=>z (k.sep i j a ds es h q h1 (by rw[←e];exact g1))
   exact⟨b,ws,g1,g2,by rw[KN zb];exact g3,g4,g5.mono sg⟩
 ·have nz:∀{m:Nat}{ts:List D},(Z.set i (some (Sl.pub (.list ds))))[m]?=some (some (.own ts))->Z[m]?=some (some (.own ts)):=λ{m ts} q=>by
   by_cases z:i=m
   ·subst z;have hl:i<Z.length:=(Qg.mp h).1;rw[QD hl]at q;cases q
   ·rw[Qq z]at q;exact q
  exact k.sep j l c es fs (nz q1) (nz q2) s1 s2
 ·have hl:i<Z.length:=(Qg.mp h).1
  have nz:∀{m:Nat}{s:Sl},(Z.set i (some (Sl.pub (.list ds))))[m]?=some (some s)->(∃d,s=.pub d)∨Z[m]?=some (some s):=λ{m s} q=>by
   by_cases z:i=m
   ·subst z;rw[QD hl]at q;cases q;exact .inl ⟨_,rfl⟩
   ·rw[Qq z]at q;exact .inr q
  refine k.dp.map (λm p d q=>?_) (λm es q=>?_) λm p d v fp q s r w n=>⟨r.mono sg (.refl _),λb mb=>⟨(w b mb).1,?_⟩⟩
  ·rcases nz q with ⟨_,e⟩|q
   ·cases e
   ·exact⟨q,rfl⟩
  ·rcases nz q with ⟨_,e⟩|q
   ·cases e
   ·exact⟨es,q,rfl⟩
  ·rw[KN (λz=>by subst z;exact n i ds b h h1 mb)];exact(w b mb).2
inductive Res(α:Type) where
 |ok (a:α) (Z:UJ)|bad
noncomputable abbrev M(α:Type):=UJ->Res α
noncomputable def UQ{α:Type}(a:α):M α:=λZ=>.ok a Z
noncomputable def Kc{α:Type}(o:Option α):M α:=λZ=>match o with|some a=>.ok a Z|none=>.bad
noncomputable def Kb{α β:Type}(f:M α)(k:α->M β):M β:=λZ=>match f Z with | .ok a Z'=>k a Z' | .bad=>.bad
section
variable(K:Frag)(B G0:Hp)
def aft{α γ:Type}(R:Hp->γ->α->Prop)(r:Res α)(G:Hp)(σ:St)(Q:γ->Hp->Prop):Prop:=
 match r with
 |.ok d Z'=>∀v G' H',EOk K B G0 G' H' σ Z'->Same G G'->R G' v d->Q v H'
 |.bad=>False
noncomputable def tM{α γ:Type}(R:Hp->γ->α->Prop)(f:M α):St->Hp->(γ->Hp->Prop)->Prop:=λσ H Q=>
 ∃G Z,EOk K B G0 G H σ Z/\aft K B G0 R (f Z) G σ Q
noncomputable abbrev tD(f:M D):TE:=tM K B G0 (Rep K) f
noncomputable abbrev tDs(f:M (List D)):TA:=tM K B G0 (Reps K) f
noncomputable abbrev tBo(f:M Bool):TT:=tM K B G0 (λ_ b c=>b=c) f
noncomputable abbrev tOi(f:M (Option Int)):TO:=tM K B G0 (λ_ b c=>b=c) f
end
section
variable{K:Frag}{B G0:Hp}{α β γ δ ε:Type}{R:Hp->γ->α->Prop}{S:Hp->δ->β->Prop}{T:Hp->ε->α->Prop}{σ:St}{H:Hp}
theorem aft.mono{r:Res α}{G G':Hp}{Q:γ->Hp->Prop}(e:Same G G')(h:aft K B G0 R r G σ Q):aft K B G0 R r G' σ Q:=by
 cases r with
 |ok d Z=>exact λv G2 H2 k s q=>h v G2 H2 k (e.trans s) q
 |bad=>exact h
theorem aft.done{d:α}{Z:UJ}{G G' H H':Hp}{v:γ}{Q:γ->Hp->Prop}(h:aft K B G0 R (.ok d Z) G σ Q)(k:EOk K B G0 G H σ Z)(e:Ext G H G' H')(r:R G' v d):Q v H':=
 h v G' H' (k.ext e) e.g r
theorem aft.now{d:α}{Z:UJ}{G H:Hp}{v:γ}{Q:γ->Hp->Prop}(h:aft K B G0 R (.ok d Z) G σ Q)(k:EOk K B G0 G H σ Z)(r:R G v d):Q v H:=
 h v G H k (.refl _) r
theorem aft.opt{o:Option α}{Z:UJ}{G:Hp}{Q:γ->Hp->Prop}(h:aft K B G0 R (Kc o Z) G σ Q):∃d,o=some d/\aft K B G0 R (.ok d Z) G σ Q:=by
 cases o with
 |none=>exact h.elim
 |some d=>exact⟨d,rfl,h⟩
theorem tM.bind{f:M α}{k:α->M β}{Q:δ->Hp->Prop}(h:tM K B G0 S (Kb f k) σ H Q) :
  tM K B G0 R f σ H (λv H1=>∃G Z d,EOk K B G0 G H1 σ Z/\R G v d/\aft K B G0 S (k d Z) G σ Q):=by
 obtain⟨G,Z,e,a⟩:=h;refine⟨G,Z,e,?_⟩;unfold Kb at a;cases q:f Z with
 |bad=>rw[q]at a;exact a.elim
 |ok d Z1=>rw[q]at a;exact λv G' H' e' s r=>⟨G',Z1,d,e',r,aft.mono s a⟩
theorem tM.bind2{α' γ':Type}{R':Hp->γ'->α'->Prop}{f:M α}{g:α->M α'}{k:α->α'->M β}{Q:δ->Hp->Prop}(mo:∀G G' v d,Same G G'->R G v d->R G' v d)
  (h:tM K B G0 S (Kb f λx=>Kb (g x) λy=>k x y) σ H Q) :
  tM K B G0 R f σ H (λv H1=>∃x,tM K B G0 R' (g x) σ H1 λu H2=>∃G Z y,EOk K B G0 G H2 σ Z/\R G v x/\R' G u y/\aft K B G0 S (k x y Z) G σ Q):=by
 obtain⟨G,Z,e,a⟩:=tM.bind (R:=R) h;refine⟨G,Z,e,?_⟩;cases q:f Z with
 |bad=>rw[q]at a;exact a.elim
 |ok d Z1=>
  rw[q]at a;intro v G' H' e' s r;obtain⟨G2,Z2,d2,e2,r2,a2⟩:=a v G' H' e' s r;refine⟨d2,G2,Z2,e2,?_⟩;unfold Kb at a2;cases q2:g d2 Z2 with
  |bad=>rw[q2]at a2;exact a2.elim
  |ok d3 Z3=>rw[q2]at a2;exact λu G3 H3 e3 s3 r3=>⟨G3,Z3,d3,e3,mo _ _ _ _ s3 r2,r3,aft.mono s3 a2⟩
end
theorem Lh{K:Frag}(G G':Hp)(v:V)(d:D)(e:Same G G')(r:Rep K G v d):Rep K G' v d:=r.mono e
theorem tM.two{K:Frag}{B G0:Hp}{β δ:Type}{S:Hp->δ->β->Prop}{σ:St}{H:Hp}{f g:M D}{k:D->D->M β}{Q:δ->Hp->Prop}{P:V->V->Hp->Prop}
  (h:tM K B G0 S (Kb f λx=>Kb g λy=>k x y) σ H Q)
  (i:∀v u H2 G Z x y,EOk K B G0 G H2 σ Z->Rep K G v x->Rep K G u y->aft K B G0 S (k x y Z) G σ Q->P v u H2) :
  tD K B G0 f σ H (λv H1=>tD K B G0 g σ H1 λu H2=>P v u H2):=by
 obtain⟨G,Z,e,a⟩:=tM.bind2 (R:=Rep K) (R':=Rep K) Lh h;refine⟨G,Z,e,?_⟩;cases q:f Z with
 |bad=>rw[q]at a;exact a.elim
 |ok d Z1=>
  rw[q]at a;intro v G' H' e' s r;obtain⟨x,G2,Z2,e2,a2⟩:=a v G' H' e' s r;refine⟨G2,Z2,e2,?_⟩;cases q2:g Z2 with
  |bad=>rw[q2]at a2;exact a2.elim
  |ok d3 Z3=>rw[q2]at a2;intro u G3 H3 e3 s3 r3;obtain⟨G4,Z4,y,e4,r4,r5,a5⟩:=a2 u G3 H3 e3 s3 r3;exact i v u H3 G4 Z4 x y e4 r4 r5 a5
theorem tM.one{K:Frag}{B G0:Hp}{α β γ δ:Type}{R:Hp->γ->α->Prop}{S:Hp->δ->β->Prop}{σ:St}{H:Hp}{f:M α}{k:α->M β}{Q:δ->Hp->Prop}{P:γ->Hp->Prop}
  (h:tM K B G0 S (Kb f k) σ H Q) (i:∀v H2 G Z x,EOk K B G0 G H2 σ Z->R G v x->aft K B G0 S (k x Z) G σ Q->P v H2):tM K B G0 R f σ H P:=by
 obtain⟨G,Z,e,a⟩:=tM.bind (R:=R) h;refine⟨G,Z,e,?_⟩;cases q:f Z with
 |bad=>rw[q]at a;exact a.elim
 |ok d Z1=>rw[q]at a;intro v G' H' e' s r;obtain⟨G2,Z2,d2,e2,r2,a2⟩:=a v G' H' e' s r;exact i v H' G2 Z2 d2 e2 r2 a2
section
variable{X:Cx}{B G0:Hp}{e a b:Us}{pos:Pos}
theorem Kt{t t':TE}(h:PE X e t)(i:∀σ H Q,t' σ H Q->t σ H Q):PE X e t':=λpins s σ H Q I q=>h pins s σ H Q I (i σ H Q q)
theorem YB{t t':TT}(h:PT X e t)(i:∀σ H Q,t' σ H Q->t σ H Q):PT X e t':=λpins s σ H Q I q=>h pins s σ H Q I (i σ H Q q)
theorem X1{es:List Us}{t t':TA}(h:PA X es t)(i:∀σ H Q,t' σ H Q->t σ H Q):PA X es t':=λps pins s σ H Q I q=>h ps pins s σ H Q I (i σ H Q q)
theorem poof{eo:Option Us}{t t':TO}(h:PO X eo t)(i:∀σ H Q,t' σ H Q->t σ H Q):PO X eo t':=λpins s σ H Q I q=>h pins s σ H Q I (i σ H Q q)
theorem ZA{st:Stmt}{t t':TS}(h:PS X st t)(i:∀D σ H,t' D σ H->t D σ H):PS X st t':=λpins s σ H D I q=>h pins s σ H D I (i D σ H q)
theorem P7{st:List Stmt}{t t':TS}(h:PSs X st t)(i:∀D σ H,t' D σ H->t D σ H):PSs X st t':=λpins s σ H D I q=>h pins s σ H D I (i D σ H q)
noncomputable def UI(i:Nat):M D:=λZ=>match Z[i]? with
 |some (some (.pub d))=>.ok d Z
 |some (some (.own ds))=>.ok (.list ds) (Z.set i (some (.pub (.list ds))))
 |_=>.bad
theorem ZD{i:Nat}(h:PE X e (K9 i)):PE X e (tD X.K B G0 (UI i)):=Kt h λσ H Q ⟨G,Z,k,a⟩=>by
 unfold UI at a;cases q:Z[i]? with
 |none=>rw[q]at a;exact a.elim
 |some o=>
  cases o with
  |none=>rw[q]at a;exact a.elim
  |some sl=>
   cases sl with
   |deep _ _=>rw[q]at a;exact a.elim
   |pub d=>rw[q]at a;obtain⟨v,h1,h2⟩:=k.pub i d q;exact⟨v,h1,a.now k h2⟩
   |own ds=>rw[q]at a;obtain⟨ad,G',h1,h2,h3,h4⟩:=k.publish q;exact⟨.ref ad,h1,a (.ref ad) G' H h4 h2 h3⟩
theorem Pj{v:V}{d:D}(h:PE X e (tC v))(r:∀G,Rep X.K G v d):PE X e (tD X.K B G0 (UQ d)):=Kt h λσ H Q ⟨G,Z,k,a⟩=>a.now k (r G)
theorem Md{i:Int}{j}:PE X (.Constant (.int i) j pos) (tD X.K B G0 (UQ (.int i))):=Pj EX λ_=>.int i
theorem CV{i:Bool}{j}:PE X (.Constant (.bool i) j pos) (tD X.K B G0 (UQ (.bool i))):=Pj Ee λ_=>.bl i
theorem CU{j}:PE X (.Constant .none j pos) (tD X.K B G0 (UQ .none)):=Pj EW λ_=>.non
theorem Dc{x:Str}{j}:PE X (.Constant (.str x) j pos) (tD X.K B G0 (UQ (.str x))):=Pj EV λ_=>.str x
noncomputable def UP{β:Type}(op:D->D->Option β)(f g:M D):M β:=Kb f λx=>Kb g λy=>Kc (op x y)
def OpD(X:Cx)(f:Um->Um->Sem Um)(op:D->D->Option D):Prop:=
 ∃r:R2,OpR X f r/\∀v u G H x y d Q,Same G H->Rep X.K G v x->Rep X.K G u y->op x y=some d->(∀w G' H',Ext G H G' H'->Rep X.K G' w d->Q w H')->r v u H Q
theorem VS{op:Operator}{p:D->D->Option D}{f g:M D}(o:OpD X (binaryOp op) p)(ha:PE X a (tD X.K B G0 f))(hb:PE X b (tD X.K B G0 g)):PE X (.BinOp a op b pos) (tD X.K B G0 (UP p f g)):=by
 obtain⟨r,h,i⟩:=o;refine Kt (NL h ha hb) λσ H Q q=>?_;refine tM.two q λv u H2 G Z x y k rx ry a=>?_
 obtain⟨d,e,a⟩:=a.opt;exact i v u G H2 x y d Q k.gh rx ry e λw G' H' ex rw=>a.done k ex rw
theorem OpD.or{f:Um->Um->Sem Um}{p q:D->D->Option D}(h:OpD X f p)(h':OpD X f q):OpD X f (λx y=>(p x y).orElse λ_=>q x y):=by
 obtain⟨r,h1,i1⟩:=h;obtain⟨r',h2,i2⟩:=h';refine⟨_,h1.or h2,λv u G H x y d Q s rx ry e k=>?_⟩;dsimp only at e;cases z:p x y with
 |some d'=>rw[z]at e;have e':d'=d:=QT e;subst e';exact .inl (i1 v u G H x y d' Q s rx ry z k)
 |none=>rw[z]at e;exact .inr (i2 v u G H x y d Q s rx ry e k)
noncomputable def oII(g:Int->Int->Option D):D->D->Option D
 |.int i,.int j=>g i j
 |_,_=>none
theorem Lg{g:Int->Int->Option D}{x y d:D}(e:oII g x y=some d):∃i j,x=.int i/\y=.int j/\g i j=some d:=by
 unfold oII at e;split at e
 ·exact⟨_,_,rfl,rfl,e⟩
 ·cases e
theorem OpD.int{f:Um->Um->Sem Um}{C:Int->Int->Prop}{g:Int->Int->V}{p:Int->Int->Option D}(h:OpR X f (rI C g))(i:∀i j d,p i j=some d->C i j/\∀G,Rep X.K G (g i j) d):OpD X f (oII p):=by refine⟨_,h,λv u G H x y d Q s rx ry e k=>?_⟩;obtain⟨a,b,rfl,rfl,e⟩:=Lg e;obtain⟨c,r⟩:=i a b d e;exact⟨a,b,rx.int_inv,ry.int_inv,c,k _ G H (.refl s) (r G)⟩
theorem OpD.int0{f:Um->Um->Sem Um}{g:Int->Int->V}{p:Int->Int->D}(h:OpR X f (rI0 g))(i:∀i j G,Rep X.K G (g i j) (p i j)):OpD X f (oII λi j=>some (p i j)):=by refine⟨_,h,λv u G H x y d Q s rx ry e k=>?_⟩;obtain⟨a,b,rfl,rfl,e⟩:=Lg e;cases e;exact⟨a,b,rx.int_inv,ry.int_inv,k _ G H (.refl s) (i a b G)⟩
end
section
variable{X:Cx}{B G0:Hp}{e a b c:Us}{pos:Pos}
theorem Db:OpD X (binaryOp .Add) (oII λi j=>some (.int (i+j))):=.int0 EI λ_ _ _=>.int _
theorem Da:OpD X (binaryOp .Sub) (oII λi j=>some (.int (i-j))):=.int0 Dq λ_ _ _=>.int _
noncomputable def Ym(i j:Int):Option D:=if(-(2 ^ 64)<i/\i<2 ^ 64)∨(-(2 ^ 64)<j/\j<2 ^ 64)then some (.int (i*j))else none
theorem CT:OpD X (binaryOp .Mult) (oII Ym):=.int Dp λi j d h=>by
 unfold Ym at h;split at h
 ·rename_i c;cases h;exact⟨c,λ_=>.int _⟩
 ·cases h
noncomputable def WN(i j:Int):Option D:=if 0<j then some (.int (i % j))else none
theorem E9:OpD X (binaryOp .Mod) (oII WN):=.int Do λi j d h=>by
 unfold WN at h;split at h
 ·rename_i c;cases h;exact⟨c,λ_=>.int _⟩
 ·cases h
theorem Af:OpR X (binaryOp .FloorDiv) (rI (λi j=>0<j/\j<2 ^ 64) λi j=>.int (i / j)):=opI λi j _ _ _ _ _ hc q=>by
 have h1:(0:Int)<j:=hc.1;have h2:j<2 ^ 64:=hc.2;refine floordiv_int (by omega) (by rw[Int.fdiv_eq_ediv_of_nonneg i (by omega)];exact q) (.inl (PyProof.noPylong_of_log2 ?_));have h0:j.natAbs≠0:=by omega
 have:j.natAbs.log2<64:=(Nat.log2_lt h0).mpr (by omega);omega
noncomputable def WO(i j:Int):Option D:=if 0<j/\j<2 ^ 64 then some (.int (i / j))else none
theorem E8:OpD X (binaryOp .FloorDiv) (oII WO):=.int Af λi j d h=>by
 unfold WO at h;split at h
 ·rename_i c;cases h;exact⟨c,λ_=>.int _⟩
 ·cases h
noncomputable def WM(i j:Int):Option D:=if 0<=j/\j<=1000000/\i.natAbs<2 ^ 64 then some (.int (i ^ j.toNat))else none
theorem E7:OpD X (binaryOp .Pow) (oII WM):=.int Dm λi j d h=>by
 unfold WM at h;split at h
 ·rename_i c;cases h;exact⟨c,λ_=>.int _⟩
 ·cases h
theorem lim:(1000000:Nat)<=Ut:=by decide
noncomputable def Pa:D->D->Option D
 |.str x,.str y=>if x.length+y.length<=1000000 then some (.str (x++y))else none
 |_,_=>none
theorem CS:OpD X (binaryOp .Add) Pa:=by
 refine⟨_,jM,λv u G H x y d Q s rx ry e k=>?_⟩;unfold Pa at e;split at e
 ·split at e
  ·rename_i c;cases e;exact⟨_,_,rx.str_inv,ry.str_inv,QM c lim,k _ G H (.refl s) (.str _)⟩
  ·cases e
 ·cases e
noncomputable def Fa(K:Frag):R2:=λx y H Q=>∃l b xs zs,x=.ref l/\y=.ref b/\SqL K H l xs/\SqL K H b zs/\xs.length+zs.length<=Ut/\∀p,H p=none->Q (.ref p) (upd H p (.lst (xs++zs)))
theorem CQ:OpR X (binaryOp .Add) (Fa X.K):=by
 intro pins s σ H x y v u Q I rx ry h;obtain⟨l,b,xs,zs,rfl,rfl,hH,hB,hz,q⟩:=h;cases rx;cases ry;obtain⟨its,r,⟨⟨c1,d1,t1,s1⟩,n1,e1,ec1,ed1,et1⟩,z1⟩:=I.list hH;obtain⟨its2,r2,⟨⟨c2,d2,t2,s2⟩,n2,e2,ec2,ed2,et2⟩,z2⟩:=I.list hB;simp only at ec1 ed1 et1 ec2 ed2 et2;subst ec1 ed1 et1 ec2 ed2 et2;have hl:=r.length;have hl2:=r2.length;refine concat_meets ⟨_,e1,rfl⟩ ⟨_,e2,rfl⟩ noFill_list_add seq_list_add PySem.F.slot_list_add PySem.F.entry_list_add (PySem.F.args_list_add_2 _ _) (list_addW l b its.toArray its2.toArray n1 n2 none none s1 s2 (by rw[QH,QH];omega)) ⟨e1,e2,?_⟩;have ea:its.toArray++its2.toArray=(its++its2).toArray:=by simp
 rw[ea];exact⟨.ref _,_,I.lnew (t':=s.toks) (r.append r2) (by rw[Ql];omega),rfl,q _ I.fresh⟩
theorem GZ(a:Int)(t:Tok)(l:Uq)(items:Array Um)(n:Nat)(sl:Array (Option Um)) :
  Meets (Builtin.«int.__rmul__» ⟨[.int a t,.ref l],[]⟩) (λ_ R s=>s.heap.get? l=some {cls:=.type "list", dict:=none,data:=.seq items n,slots:=sl}/\R (.ok (.ret Value.notImplemented)) s):=
 .of_wp λprog w A R s h=>by obtain⟨hp,g,d,tk,os⟩:=s;obtain⟨hl,h⟩:=h;wp_walk;exact⟨_,rfl,h⟩
theorem mulW(l:Uq)(items:Array Um)(n:Nat)(x:Int)(u:Tok)(sl:Array (Option Um))(hc0:¬(!Builtin.List.listFitsIndex x)=true)(hc1:¬items.size*x.toNat > (2 ^ 63-1) / 8)(hc2:¬Builtin.List.listTooLong (items.size*x.toNat)=true) :
  Meets (Builtin.«list.__mul__» ⟨[.ref l,.int x u],[]⟩) (λ_ R s=>s.heap.get? l=some {cls:=.type "list", dict:=none,data:=.seq items n,slots:=sl}/\R (.ok (.ret (Value.ref s.heap.objs.size))) {s with heap:=s.heap.push {cls:=Value.type "list", data:=Data.seq (List.foldl (λx1 x2=>x1++x2) #[] (Uy (if items.isEmpty=true then 0 else x.toNat) items))},toks:=s.toks}):=
 .of_wp λprog w A R s h=>by
  obtain⟨hp,g,d,tk,os⟩:=s;obtain⟨hl,h⟩:=h;have hsz:=AutoListH.joined_fits hc2
  wp_walk;refine wpAny_ite_false (QI (Nat.not_lt.mpr hsz)) ?_;wp_walk;exact⟨_,rfl,h⟩
noncomputable def GY(K:Frag):R2:=λx y H Q=>∃l k xs,x=.ref l/\y=.int k/\SqL K H l xs /\ -(2 ^ 63)<=k/\k<2 ^ 63/\xs.length*k.toNat<=Ut /\
 ∀p,H p=none->Q (.ref p) (upd H p (.lst (Uy k.toNat xs).flatten))
theorem Lf:OpR X (binaryOp .Mult) (GY X.K):=by
 intro pins s σ H x y v u Q I rx ry h;obtain⟨l,k,xs,rfl,rfl,hH,h1,h2,hz,q⟩:=h;cases rx;obtain⟨t,rfl⟩:=ry;obtain⟨its,r,⟨⟨c1,d1,t1,sl⟩,n,e,ec1,ed1,et1⟩,z⟩:=I.list hH;simp only at ec1 ed1 et1;subst ec1 ed1 et1;have hl:=r.length;have hlen:its.toArray.size*k.toNat<=Ut:=by rw[QH,←hl];exact hz
 have hcap:¬its.toArray.size*k.toNat > (2 ^ 63-1) / 8:=by
  have:(Ut:Nat)<=(2 ^ 63-1) / 8:=by decide
  omega
 have hfit:¬(!Builtin.List.listFitsIndex k)=true:=by rw[fitsIndex_both h1 h2];exact Ji
 have hlong:¬Builtin.List.listTooLong (its.toArray.size*k.toNat)=true:=by rw[LA hlen];exact Ji
 have hnew:List.foldl (λx1 x2=>x1++x2) #[] (Uy (if its.toArray.isEmpty=true then 0 else k.toNat) its.toArray)=(Uy k.toNat its).flatten.toArray:=by
  have f0:∀m:Nat,List.foldl (λx1 x2=>x1++x2) #[] (Uy m its.toArray)=(Uy m its).flatten.toArray:=λm=>by have:=Hm its m [];rw[Jk]at this;exact this
  rw[f0];cases its with
  |nil=>simp
  |cons a r'=>rw[if_neg (by simp)]
 refine wpAny_binaryOp_repeat_ref (T:= "list") (U:= "int") (by decide) ⟨_,e,rfl⟩ (λs'=>typeIs_int s' k t) noFill_list_mul F.fills_int_mul F.slot_int_rmul repeat_list F.slot_int_index.lookup
  (call_meets F.slot_int_rmul (typeIs_int s k t) F.entry_int_rmul (F.args_int_rmul_2 _ _) (GZ k t l its.toArray n sl)
   ⟨e,rfl,⟨_,e,rfl⟩,call_meets F.slot_list_mul ⟨_,e,rfl⟩ F.entry_list_mul (F.args_list_mul_2 _ _) (mulW l its.toArray n k t sl hfit hcap hlong) ⟨e,?_⟩⟩)
 rw[hnew];exact⟨.ref _,_,I.lnew (t':=s.toks) (r.rep k.toNat) (by rw[Cy,Nat.mul_comm];exact hz),rfl,q _ I.fresh⟩
noncomputable def R9:D->D->Option D
 |.list x,.list y=>if x.length+y.length<=1000000 then some (.list (x++y))else none
 |_,_=>none
theorem DX:OpD X (binaryOp .Add) R9:=by
 refine⟨_,CQ,λv u G H x y d Q s rx ry e k=>?_⟩;unfold R9 at e;split at e
 ·split at e
  ·rename_i c;cases e;obtain⟨l,vs,rfl,h1,r1⟩:=rx.lst_inv;obtain⟨b,ws,rfl,h2,r2⟩:=ry.lst_inv;refine⟨l,b,vs,ws,rfl,rfl,s.seq h1,s.seq h2,by rw[r1.length,r2.length];exact QM c lim,λp hp=>k _ _ _ (Ext.new s hp) ?_⟩;exact .lst (SqL.of Zf) ((r1.append r2).mono (Zq (s.free hp)))
  ·cases e
 ·cases e
theorem Reps.rep{K:Frag}{G:Hp}{vs:List V}{ds:List D}(r:Reps K G vs ds):∀n:Nat,Reps K G (Uy n vs).flatten (Uy n ds).flatten
 |0=>.nil
 |n+1=>by rw[Q0,Q0,QL,QL];exact r.append (r.rep n)
noncomputable def Pe:D->D->Option D
 |.list x,.int k=>if -1000000<=k/\k<=1000000/\x.length*k.toNat<=1000000 then some (.list (Uy k.toNat x).flatten)else none
 |_,_=>none
theorem DW:OpD X (binaryOp .Mult) Pe:=by
 refine⟨_,Lf,λv u G H x y d Q s rx ry e k=>?_⟩;unfold Pe at e;split at e
 ·split at e
  ·rename_i c;cases e;obtain⟨l,vs,rfl,h1,r1⟩:=rx.lst_inv;refine⟨l,_,vs,rfl,ry.int_inv,s.seq h1,by omega,by omega,by rw[r1.length];exact QM c.2.2 lim,λp hp=>k _ _ _ (Ext.new s hp) ?_⟩;exact .lst (SqL.of Zf) ((r1.rep _).mono (Zq (s.free hp)))
  ·cases e
 ·cases e
noncomputable def U3:D->D->Option D
 |.int i,.int j=>some (.int (i+j))
 |.str x,.str y=>if x.length+y.length<=1000000 then some (.str (x++y))else none
 |.list x,.list y=>if x.length+y.length<=1000000 then some (.list (x++y))else none
 |_,_=>none
noncomputable def KR:D->D->Option D
 |.int i,.int j=>some (.int (i-j))
 |_,_=>none
noncomputable def Ko:D->D->Option D
 |.int i,.int j=>Ym i j
 |.list x,.int k=>if -1000000<=k/\k<=1000000/\x.length*k.toNat<=1000000 then some (.list (Uy k.toNat x).flatten)else none
 |_,_=>none
noncomputable def Zd:D->D->Option D
 |.int i,.int j=>WN i j
 |_,_=>none
noncomputable def X3:D->D->Option D
 |.int i,.int j=>WO i j
 |_,_=>none
noncomputable def Xr:D->D->Option D
 |.int i,.int j=>WM i j
 |_,_=>none
theorem OpD.congr{f:Um->Um->Sem Um}{p q:D->D->Option D}(h:OpD X f p)(e:∀x y,q x y=p x y):OpD X f q:=by
 have:q=p:=by funext x y;exact e x y
 rw[this];exact h
theorem GX:OpD X (binaryOp .Add) U3:=(Db.or (CS.or DX)).congr λx y=>by cases x<;>cases y<;>first|rfl|(simp only[U3,oII,Pa,R9,Option.orElse];done)|(simp only[U3,oII,Pa,R9,Option.orElse];split<;>rfl)
theorem NW:OpD X (binaryOp .Sub) KR:=Da.congr λx y=>by cases x<;>cases y<;>rfl
theorem GW:OpD X (binaryOp .Mult) Ko:=(CT.or DW).congr λx y=>by cases x<;>cases y<;>first|rfl|(simp only[Ko,oII,Pe,Option.orElse];done)|(simp only[Ko,oII,Pe,Option.orElse];split<;>first|rfl|assumption)
theorem GV:OpD X (binaryOp .Mod) Zd:=E9.congr λx y=>by cases x<;>cases y<;>rfl
theorem GU:OpD X (binaryOp .FloorDiv) X3:=E8.congr λx y=>by cases x<;>cases y<;>rfl
theorem GT:OpD X (binaryOp .Pow) Xr:=E7.congr λx y=>by cases x<;>cases y<;>rfl
end
section
variable{X:Cx}{B G0:Hp}{e a b c:Us}{pos:Pos}
def OpB(X:Cx)(f:Um->Um->Sem Um)(op:D->D->Option Bool):Prop:=
 ∃r:R2,OpR X f r/\∀v u G H x y d Q,Same G H->Rep X.K G v x->Rep X.K G u y->op x y=some d->Q (.bl d) H->r v u H Q
theorem OpB.or{f:Um->Um->Sem Um}{p q:D->D->Option Bool}(h:OpB X f p)(h':OpB X f q):OpB X f (λx y=>(p x y).orElse λ_=>q x y):=by
 obtain⟨r,h1,i1⟩:=h;obtain⟨r',h2,i2⟩:=h';refine⟨_,h1.or h2,λv u G H x y d Q s rx ry e k=>?_⟩;dsimp only at e;cases z:p x y with
 |some d'=>rw[z]at e;have e':d'=d:=QT e;subst e';exact .inl (i1 v u G H x y d' Q s rx ry z k)
 |none=>rw[z]at e;exact .inr (i2 v u G H x y d Q s rx ry e k)
theorem OpB.congr{f:Um->Um->Sem Um}{p q:D->D->Option Bool}(h:OpB X f p)(e:∀x y,q x y=p x y):OpB X f q:=by
 have:q=p:=by funext x y;exact e x y
 rw[this];exact h
theorem Ot{op:CmpOp}{p:D->D->Option Bool}{f g:M D}(o:OpB X (Uw op) p)(ha:PE X a (tD X.K B G0 f))(hb:PE X b (tD X.K B G0 g))(hm:behindInMarks op b=false) :
  PT X (.Compare a [op] [b] pos) (tBo X.K B G0 (UP p f g)):=by
 obtain⟨r,h,i⟩:=o;refine YB (Ox h ha hb hm) λσ H Q q=>?_;refine tM.two q λv u H2 G Z x y k rx ry a=>?_
 obtain⟨d,e,a⟩:=a.opt;exact i v u G H2 x y d _ k.gh rx ry e ⟨d,rfl,a.now k rfl⟩
noncomputable def UZ{α β:Type}(h:α->β)(f:M α):M β:=Kb f λx=>UQ (h x)
theorem tM.map{K:Frag}{α β γ δ:Type}{R:Hp->γ->α->Prop}{S:Hp->δ->β->Prop}{σ:St}{H:Hp}{h:α->β}{f:M α}{Q:δ->Hp->Prop}(j:γ->δ)(q:tM K B G0 S (UZ h f) σ H Q)
  (i:∀G v x,R G v x->S G (j v) (h x)):tM K B G0 R f σ H (λv H'=>Q (j v) H'):=
 tM.one (R:=R) (f:=f) q λv H2 G Z x k r a=>aft.now (show aft K B G0 S (.ok (h x) Z) G σ Q from a) k (i G v x r)
theorem tBo.val{K:Frag}{σ:St}{H:Hp}{f:M Bool}{Q:VK}(q:tD K B G0 (UZ UA f) σ H Q):tBo K B G0 f σ H (λb H'=>Q (.bl b) H'):=
 tM.map (R:=λ_ b c=>b=c) V.bl q λG v x e=>by rw[e];exact .bl x
theorem DV{op:CmpOp}{p:D->D->Option Bool}{f g:M D}(o:OpB X (Uw op) p)(ha:PE X a (tD X.K B G0 f))(hb:PE X b (tD X.K B G0 g))(hm:behindInMarks op b=false) :
  PE X (.Compare a [op] [b] pos) (tD X.K B G0 (UZ UA (UP p f g))):=by
 obtain⟨r,h,i⟩:=o;refine Kt (Lr h ha hb hm) λσ H Q q=>?_;refine tM.two (tBo.val q) λv u H2 G Z x y k rx ry a=>?_
 obtain⟨d,e,a⟩:=a.opt;exact i v u G H2 x y d _ k.gh rx ry e (a.now k rfl)
noncomputable def VX(p q:D->D->Option Bool)(f g h:M D):M Bool:=Kb f λx=>Kb g λy=>Kb (Kc (p x y)) λt=>if t=true then Kb h λz=>Kc (q y z)else UQ false
theorem qb{op op':CmpOp}{p q:D->D->Option Bool}{f g h:M D}(o:OpB X (Uw op) p)(o':OpB X (Uw op') q)(ha:PE X a (tD X.K B G0 f))(hb:PE X b (tD X.K B G0 g))(hc:PE X c (tD X.K B G0 h))
  (hm:lastMarks [op,op'] [b,c]=false:=by with_unfolding_all rfl):PT X (.Compare a [op,op'] [b,c] pos) (tBo X.K B G0 (VX p q f g h)):=by
 obtain⟨r,h1,i⟩:=o;obtain⟨r',h2,i'⟩:=o';refine YB (Ao h1 h2 ha hb hc hm) λσ H Q w=>?_;refine tM.two w λv u H2 G Z x y k rx ry a=>?_
 cases z:p x y with
 |none=>rw[z]at a;exact a.elim
 |some t=>
  rw[z]at a;refine i v u G H2 x y t _ k.gh rx ry z ⟨t,rfl,?_⟩;cases t with
  |false=>rw[Qz Ji];exact⟨false,rfl,aft.now a k rfl⟩
  |true=>
   rw[Qp rfl];refine⟨G,Z,k,?_⟩;have a4:aft X.K B G0 (λ_ (b:Bool) c=>b=c) ((Kb h λz=>Kc (q y z)) Z) G σ Q:=a;unfold Kb at a4;cases z2:h Z with
   |bad=>rw[z2]at a4;exact a4.elim
   |ok d Z1=>rw[z2]at a4;intro w G5 H5 k5 s5 r5;obtain⟨t2,e2,a6⟩:=a4.opt;exact i' u w G5 H5 y d t2 _ k5.gh (ry.mono s5) r5 e2 ⟨t2,rfl,a6 t2 G5 H5 k5 s5 rfl⟩
theorem qa{op op':CmpOp}{p q:D->D->Option Bool}{f g h:M D}(o:OpB X (Uw op) p)(o':OpB X (Uw op') q)(ha:PE X a (tD X.K B G0 f))(hb:PE X b (tD X.K B G0 g))(hc:PE X c (tD X.K B G0 h))
  (hm:lastMarks [op,op'] [b,c]=false:=by with_unfolding_all rfl):PE X (.Compare a [op,op'] [b,c] pos) (tD X.K B G0 (UZ UA (VX p q f g h))):=by
 obtain⟨r,h1,i⟩:=o;obtain⟨r',h2,i'⟩:=o';refine Kt (Ap h1 h2 ha hb hc hm) λσ H Q w=>?_;refine tM.two (tBo.val w) λv u H2 G Z x y k rx ry a=>?_
 cases z:p x y with
 |none=>rw[z]at a;exact a.elim
 |some t=>
  rw[z]at a;refine i v u G H2 x y t _ k.gh rx ry z ⟨t,rfl,?_⟩;cases t with
  |false=>rw[Qz Ji];exact aft.now (v:=false) a k rfl
  |true=>
   rw[Qp rfl];refine⟨G,Z,k,?_⟩;have a4:aft X.K B G0 (λ_ (b:Bool) c=>b=c) ((Kb h λz=>Kc (q y z)) Z) G σ (λb H'=>Q (.bl b) H'):=a;unfold Kb at a4;cases z2:h Z with
   |bad=>rw[z2]at a4;exact a4.elim
   |ok d Z1=>rw[z2]at a4;intro w G5 H5 k5 s5 r5;obtain⟨t2,e2,a6⟩:=a4.opt;exact i' u w G5 H5 y d t2 _ k5.gh (ry.mono s5) r5 e2 (a6 t2 G5 H5 k5 s5 rfl)
noncomputable def oIB(g:Int->Int->Bool):D->D->Option Bool
 |.int i,.int j=>some (g i j)
 |_,_=>none
theorem OpB.int{f:Um->Um->Sem Um}{g:Int->Int->Bool}(h:OpR X f (rI0 λi j=>.bl (g i j))):OpB X f (oIB g):=by
 refine⟨_,h,λv u G H x y d Q s rx ry e k=>?_⟩;unfold oIB at e;split at e
 ·cases e;exact⟨_,_,rx.int_inv,ry.int_inv,k⟩
 ·cases e
theorem B_lt:OpB X (Uw .Lt) (oIB λi j=>decide (i<j)):=.int EB
theorem B_le:OpB X (Uw .LtE) (oIB λi j=>decide (i<=j)):=.int EA
theorem B_gt:OpB X (Uw .Gt) (oIB λi j=>decide (j<i)):=.int Ez
theorem B_ge:OpB X (Uw .GtE) (oIB λi j=>decide (j<=i)):=.int Ey
mutual
theorem YW{pins:List (Uq×Obj)}{s:Uo}{σ:St}{G H:Hp}(I:Inv X pins σ H s)(sg:Same G H):∀{v:V}{d:D}{u:Um},Rep X.K G v d->RelV v u->d.canLay0=true->∃as,Reads s.heap u d as
 |_,_,_,.non,r,_=>by cases r;exact⟨_,.none⟩
 |_,_,_,.bl b,r,_=>by cases r;exact⟨_,.bool b⟩
 |_,_,_,.int i,r,_=>by obtain⟨t,rfl⟩:=r;exact⟨_,.int i t⟩
 |_,_,_,.str x,r,_=>by obtain⟨t,rfl⟩:=r;exact⟨_,.str x t⟩
 |_,_,_,.lst h q,r,c=>by cases r;obtain⟨its,rv,⟨o,n,e,hc,_,hd⟩,hz⟩:=I.list (sg.seq h);obtain⟨as,ra⟩:=readsAll_of I sg q rv (show UD _=true by simpa[PyData.canLay0]using c);exact⟨_,.list e hc hd (by simpa using ra)⟩
 |_,_,_,.tup h q,r,c=>by cases r;obtain⟨its,rv,p,hz⟩:=I.tuple (YU sg h);obtain⟨o,e,hc,n,hd⟩:=p;obtain⟨as,ra⟩:=readsAll_of I sg q rv (show UD _=true by simpa[PyData.canLay0]using c);exact⟨_,.tuple e hc hd (by simpa using ra)⟩
 |_,_,_,.dic h,r,c=>by simp[PyData.canLay0]at c
 |_,_,_,.exc _ _ _ _,r,c=>by simp[PyData.canLay0]at c
 |_,_,_,.dct _ _ _ _ _,r,c=>by simp[PyData.canLay0]at c
 |_,_,_,.dtt _ _ _ _,r,c=>by simp[PyData.canLay0]at c
theorem readsAll_of{pins:List (Uq×Obj)}{s:Uo}{σ:St}{G H:Hp}(I:Inv X pins σ H s)(sg:Same G H):∀{vs:List V}{ds:List D}{us:List Um},Reps X.K G vs ds->Vals vs us->UD ds=true->∃as,ReadsAll s.heap us ds as
 |_,_,_,.nil,r,_=>by cases r;exact⟨_,.nil⟩
 |_,_,_,.cons h t,r,c=>by
  cases r with
  |cons r1 r2=>have c':=c;rw[UD,Jm]at c';obtain⟨as,ra⟩:=YW I sg h r1 c'.1;obtain⟨bs,rb⟩:=readsAll_of I sg t r2 c'.2;exact⟨_,.cons ra rb⟩
end
noncomputable def oEq(x y:D):Option Bool:=if x.canLay0=true/\y.canLay0=true/\x.depth<=60 then some (UF x y)else none
noncomputable def oNe(x y:D):Option Bool:=if x.canLay0=true/\y.canLay0=true/\x.depth<=60 then some (!UF x y)else none
theorem Sz(hu:X.A.units+64<cLine):OpB X (Uw .Eq) oEq:=by
 refine⟨λv u H Q=>∃G x y d,Same G H/\Rep X.K G v x/\Rep X.K G u y/\oEq x y=some d/\Q (.bl d) H,?_,λv u G H x y d Q s rx ry e k=>⟨G,x,y,d,s,rx,ry,e,k⟩⟩;intro pins s σ H x y v u Q I rx ry ⟨G,dx,dy,d,sg,px,py,e,q⟩;unfold oEq at e;split at e
 ·rename_i c;cases e;obtain⟨as,ra⟩:=YW I sg px rx c.1;obtain⟨bs,rb⟩:=YW I sg py ry c.2.1;exact SeqAt.compareEq_reads ra rb c.1 c.2.1 (by have:=c.2.2;omega) ⟨.bl _,H,I,rfl,q⟩
 ·cases e
theorem B_ne(hu:X.A.units+64<cLine):OpB X (Uw .NotEq) oNe:=by
 refine⟨λv u H Q=>∃G x y d,Same G H/\Rep X.K G v x/\Rep X.K G u y/\oNe x y=some d/\Q (.bl d) H,?_,λv u G H x y d Q s rx ry e k=>⟨G,x,y,d,s,rx,ry,e,k⟩⟩;intro pins s σ H x y v u Q I rx ry ⟨G,dx,dy,d,sg,px,py,e,q⟩;unfold oNe at e;split at e
 ·rename_i c;cases e;obtain⟨as,ra⟩:=YW I sg px rx c.1;obtain⟨bs,rb⟩:=YW I sg py ry c.2.1;exact SeqAt.compareNe_reads ra rb c.1 c.2.1 (by have:=c.2.2;omega) ⟨.bl _,H,I,rfl,q⟩
 ·cases e
noncomputable def isNon:D->Bool
 |.none=>true
 |_=>false
theorem Rep.isNon{K:Frag}{G:Hp}{v:V}{d:D}(r:Rep K G v d):DL.isNon d=decide (v=.non):=by cases r<;>simp[DL.isNon]
end
section
variable{X:Cx}{B G0:Hp}{e a b c:Us}{pos:Pos}{es rest:List Us}
theorem tM.nx{K:Frag}{α β γ δ:Type}{R:Hp->γ->α->Prop}{S:Hp->δ->β->Prop}{σ:St}{G H:Hp}{Z:UJ}{f:M α}{g:α->M β}{Q:δ->Hp->Prop}{P:γ->Hp->Prop}
  (k:EOk K B G0 G H σ Z) (a:aft K B G0 S (Kb f g Z) G σ Q) (i:∀v H' G' Z' x,EOk K B G0 G' H' σ Z'->Same G G'->R G' v x->aft K B G0 S (g x Z') G' σ Q->P v H'):tM K B G0 R f σ H P:=by
 refine⟨G,Z,k,?_⟩;unfold Kb at a;cases q:f Z with
 |bad=>rw[q]at a;exact a.elim
 |ok d Z1=>rw[q]at a;exact λv G' H' e s r=>i v H' G' Z1 d e s r (aft.mono s a)
noncomputable def K1(f g:M Bool):M Bool:=Kb f λt=>if t=true then g else UQ false
noncomputable def mOr(f g:M Bool):M Bool:=Kb f λt=>if t=true then UQ true else g
noncomputable def Kp(f:M Bool):M Bool:=UZ (λt=>!t) f
theorem DU{K:Frag}{f g:M Bool}{σ:St}{H:Hp}{Q:Bool->Hp->Prop}(q:tBo K B G0 (K1 f g) σ H Q):tAnd (tBo K B G0 f) (tBo K B G0 g) σ H Q:=
 tM.one (R:=λ_ b c=>b=c) q λv H2 G Z x k r a=>by
  have r:v=x:=r;subst r;cases v with
  |true=>exact⟨G,Z,k,a⟩
  |false=>exact aft.now (v:=false) a k rfl
theorem Dx{K:Frag}{f g:M Bool}{σ:St}{H:Hp}{Q:Bool->Hp->Prop}(q:tBo K B G0 (mOr f g) σ H Q):tOr (tBo K B G0 f) (tBo K B G0 g) σ H Q:=
 tM.one (R:=λ_ b c=>b=c) q λv H2 G Z x k r a=>by
  have r:v=x:=r;subst r;cases v with
  |false=>exact⟨G,Z,k,a⟩
  |true=>exact aft.now (v:=true) a k rfl
theorem pwof{t t':TT}(h:PW X e t)(i:∀σ H Q,t' σ H Q->t σ H Q):PW X e t':=λwh pins s σ H Q I q=>h wh pins s σ H Q I (i σ H Q q)
theorem AF{f:M Bool}(ha:PT X a (tBo X.K B G0 f)):PW X (.BoolOp .And [a] pos) (tBo X.K B G0 f):=CL ha
theorem DT{f:M Bool}(ha:PT X a (tBo X.K B G0 f)):PW X (.BoolOp .Or [a] pos) (tBo X.K B G0 f):=ES ha
theorem DS{f g:M Bool}(ha:PT X a (tBo X.K B G0 f))(hb:PW X (.BoolOp .And (b::rest) pos) (tBo X.K B G0 g)):PW X (.BoolOp .And (a::b::rest) pos) (tBo X.K B G0 (K1 f g)):=pwof (ER ha hb) λ_ _ _ q=>DU q
theorem Dw{f g:M Bool}(ha:PT X a (tBo X.K B G0 f))(hb:PW X (.BoolOp .Or (b::rest) pos) (tBo X.K B G0 g)):PW X (.BoolOp .Or (a::b::rest) pos) (tBo X.K B G0 (mOr f g)):=pwof (Ec ha hb) λ_ _ _ q=>Dx q
theorem DR{f:M Bool}(ha:PT X a (tBo X.K B G0 f)):PT X (.UnaryOp .Not a pos) (tBo X.K B G0 (Kp f)):=YB (EQ ha) λσ H Q q=>tM.map (R:=λ_ b c=>b=c) (λt=>!t) q λ_ v x e=>by rw[e]
noncomputable def K7(f:M D):M Bool:=Kb f λx=>match x with | .bool t=>UQ t|_=>λ_=>.bad
theorem DQ{f:M D}(h:PE X e (tD X.K B G0 f))(he:∀whole,isTrue e X.env whole=(do let v ←whole;standAt e.pos;holding [v] (truthy v)):=by intro _;rfl):PT X e (tBo X.K B G0 (K7 f)):=
 YB (ET h he) λσ H Q q=>tM.one (R:=Rep X.K) q λv H2 G Z x k r a=>by
  cases x with
  |bool t=>exact⟨t,r.bl_inv,aft.now (v:=t) a k rfl⟩
  |_=>exact a.elim
noncomputable def Vw(f g:M D):M D:=Kb f λx=>match x with | .bool true=>g | .bool false=>UQ (.bool false)|_=>λ_=>.bad
noncomputable def X4(f g:M D):M D:=Kb f λx=>match x with | .bool true=>UQ (.bool true) | .bool false=>g|_=>λ_=>.bad
noncomputable def Rx(f:M D):M D:=Kb f λx=>match x with | .bool t=>UQ (.bool (!t))|_=>λ_=>.bad
theorem DP{f g:M D}(ha:PE X a (tD X.K B G0 f))(hb:PE X (.BoolOp .And (b::rest) pos) (tD X.K B G0 g)):PE X (.BoolOp .And (a::b::rest) pos) (tD X.K B G0 (Vw f g)):=
 Kt (EN ha hb) λσ H Q q=>tM.one (R:=Rep X.K) q λv H2 G Z x k r a=>by
  cases x with
  |bool t=>
   refine⟨t,r.bl_inv,?_⟩;cases t with
   |true=>exact⟨G,Z,k,a⟩
   |false=>exact aft.now a k (.bl false)
  |_=>exact a.elim
theorem Dv{f g:M D}(ha:PE X a (tD X.K B G0 f))(hb:PE X (.BoolOp .Or (b::rest) pos) (tD X.K B G0 g)):PE X (.BoolOp .Or (a::b::rest) pos) (tD X.K B G0 (X4 f g)):=
 Kt (F9 ha hb) λσ H Q q=>tM.one (R:=Rep X.K) q λv H2 G Z x k r a=>by
  cases x with
  |bool t=>
   refine⟨t,r.bl_inv,?_⟩;cases t with
   |false=>exact⟨G,Z,k,a⟩
   |true=>exact aft.now a k (.bl true)
  |_=>exact a.elim
theorem DO{op}{f:M D}(h:PE X a (tD X.K B G0 f)):PE X (.BoolOp op [a] pos) (tD X.K B G0 f):=EO h
theorem DN{f:M D}(ha:PE X a (tD X.K B G0 f)):PE X (.UnaryOp .Not a pos) (tD X.K B G0 (Rx f)):=
 Kt (EM ha) λσ H Q q=>tM.one (R:=Rep X.K) q λv H2 G Z x k r a=>by
  cases x with
  |bool t=>exact⟨t,r.bl_inv,aft.now a k (.bl _)⟩
  |_=>exact a.elim
noncomputable def mIf{α:Type}(f:M Bool)(g h:M α):M α:=Kb f λt=>if t=true then g else h
theorem A9{f:M Bool}{g h:M D}(hc:PT X c (tBo X.K B G0 f))(ha:PE X a (tD X.K B G0 g))(hb:PE X b (tD X.K B G0 h)):PE X (.IfExp c a b pos) (tD X.K B G0 (mIf f g h)):=
 Kt (Ar hc ha hb) λσ H Q q=>tM.one (R:=λ_ b c=>b=c) q λv H2 G Z x k r a=>by
  have r:v=x:=r;subst r;cases v with
  |true=>exact⟨G,Z,k,a⟩
  |false=>exact⟨G,Z,k,a⟩
theorem DM{f:M D}{j p2}(ha:PE X a (tD X.K B G0 f)):PT X (.Compare a [.Is] [.Constant .none j p2] pos) (tBo X.K B G0 (UZ isNon f)):=
 YB (Mn (Mo ha)) λσ H Q q=>tM.one (R:=Rep X.K) q λv H2 G Z x k r a=>⟨_,rfl,aft.now a k (by rw[r.isNon])⟩
theorem Lz{f:M D}{j p2}(ha:PE X a (tD X.K B G0 f)):PT X (.Compare a [.IsNot] [.Constant .none j p2] pos) (tBo X.K B G0 (UZ (λd=>!isNon d) f)):=
 YB (Mn (CM ha)) λσ H Q q=>tM.one (R:=Rep X.K) q λv H2 G Z x k r a=>⟨_,rfl,aft.now a k (by dsimp only;rw[r.isNon])⟩
theorem DK{f:M D}{j p2}(ha:PE X a (tD X.K B G0 f)):PE X (.Compare a [.Is] [.Constant .none j p2] pos) (tD X.K B G0 (UZ (λd=>.bool (isNon d)) f)):=
 Kt (EU (Mo ha)) λσ H Q q=>tM.one (R:=Rep X.K) q λv H2 G Z x k r a=>aft.now a k (by dsimp only;rw[r.isNon];exact .bl _)
noncomputable def UM:M (List D):=UQ []
noncomputable def UO(f:M D)(g:M (List D)):M (List D):=Kb f λx=>Kb g λxs=>UQ (x::xs)
theorem VN:PA X [] (tDs X.K B G0 UM):=X1 Ws λσ H Q ⟨G,Z,k,a⟩=>aft.now a k .nil
theorem tM.twoA{K:Frag}{σ:St}{H:Hp}{f:M D}{g:M (List D)}{β δ:Type}{S:Hp->δ->β->Prop}{k:D->List D->M β}{Q:δ->Hp->Prop}{P:V->List V->Hp->Prop}
  (h:tM K B G0 S (Kb f λx=>Kb g λy=>k x y) σ H Q)
  (i:∀v u H2 G Z x y,EOk K B G0 G H2 σ Z->Rep K G v x->Reps K G u y->aft K B G0 S (k x y Z) G σ Q->P v u H2) :
  tD K B G0 f σ H (λv H1=>tDs K B G0 g σ H1 λu H2=>P v u H2):=by
 obtain⟨G,Z,e,a⟩:=tM.bind2 (R:=Rep K) (R':=Reps K) Lh h;refine⟨G,Z,e,?_⟩;cases q:f Z with
 |bad=>rw[q]at a;exact a.elim
 |ok d Z1=>
  rw[q]at a;intro v G' H' e' s r;obtain⟨x,G2,Z2,e2,a2⟩:=a v G' H' e' s r;refine⟨G2,Z2,e2,?_⟩;cases q2:g Z2 with
  |bad=>rw[q2]at a2;exact a2.elim
  |ok d3 Z3=>rw[q2]at a2;intro u G3 H3 e3 s3 r3;obtain⟨G4,Z4,y,e4,r4,r5,a5⟩:=a2 u G3 H3 e3 s3 r3;exact i v u H3 G4 Z4 x y e4 r4 r5 a5
theorem YG{f:M D}{g:M (List D)}(ha:PE X e (tD X.K B G0 f))(hr:PA X es (tDs X.K B G0 g))(hs:Uv (e::es) X.env=(false,eval e X.env)::Uv es X.env:=by rfl) :
  PA X (e::es) (tDs X.K B G0 (UO f g)):=X1 (XG ha hr hs) λσ H Q q=>tM.twoA q λv u H2 G Z x y k r1 r2 a=>aft.now a k (.cons r1 r2)
noncomputable def KE(f:M (List D)):M D:=Kb f λxs=>if xs.length<=1000000 then UQ (.tuple xs)else λ_=>.bad
noncomputable def KF(f:M (List D)):M D:=Kb f λxs=>if xs.length<=1000000 then UQ (.list xs)else λ_=>.bad
theorem Os{x1}{f:M (List D)}(h:PA X es (tDs X.K B G0 f)):PE X (.Tuple es x1 pos) (tD X.K B G0 (KE f)):=
 Kt (Mh h) λσ H Q q=>tM.one (R:=Reps X.K) q λv H2 G Z x k r a=>by
  split at a
  ·rename_i c;refine⟨by rw[r.length];exact QM c lim,λp hp=>?_⟩;exact aft.done a k (Ext.new k.gh hp) (.tup (SqT.of Zf) (r.mono (Zq (k.gh.free hp))))
  ·exact a.elim
theorem Le{f:M (List D)}(h:PA X es (tDs X.K B G0 f)):PE X (.List es pos) (tD X.K B G0 (KF f)):=
 Kt (Mg h) λσ H Q q=>tM.one (R:=Reps X.K) q λv H2 G Z x k r a=>by
  split at a
  ·rename_i c;refine⟨by rw[r.length];exact QM c lim,λp hp=>?_⟩;exact aft.done a k (Ext.new k.gh hp) (.lst (SqL.of Zf) (r.mono (Zq (k.gh.free hp))))
  ·exact a.elim
noncomputable def oIx:D->D->Option D
 |.list xs,.int i=>atI xs i
 |.tuple xs,.int i=>atI xs i
 |.str z,.int i=>if z.length<=1000000 then(atI z.cps.toList i).map λc=>.str ⟨#[c]⟩else none
 |_,_=>none
theorem Reps.atI{K:Frag}{G:Hp}{vs:List V}{ds:List D}{i:Int}{d:D}(r:Reps K G vs ds)(h:L2.atI ds i=some d):∃v,L2.atI vs i=some v/\Rep K G v d:=by
 unfold L2.atI at h⊢;rw[r.length];cases z:ixN ds.length i with
 |none=>rw[z]at h;cases h
 |some j=>rw[z]at h;exact r.get (i:=j) h
theorem Mc{K:Frag}{v u:V}{G H:Hp}{x y d:D}{Q:VK}(s:Same G H)(rx:Rep K G v x)(ry:Rep K G u y)(e:oIx x y=some d)(k:∀w,Rep K G w d->Q w H):rIx K v u H Q:=by
 unfold oIx at e;split at e
 ·obtain⟨l,vs,rfl,h1,r1⟩:=rx.lst_inv;obtain⟨w,e1,r2⟩:=r1.atI e;exact .inl ⟨l,vs,_,w,rfl,ry.int_inv,s.seq h1,e1,k w r2⟩
 ·obtain⟨l,vs,rfl,h1,r1⟩:=rx.tup_inv;obtain⟨w,e1,r2⟩:=r1.atI e;exact .inr (.inl ⟨l,vs,_,w,rfl,ry.int_inv,YU s h1,e1,k w r2⟩)
 ·split at e
  ·rename_i z i hz;cases q:L2.atI z.cps.toList i with
   |none=>rw[q]at e;cases e
   |some ch=>rw[q]at e;cases e;exact .inr (.inr ⟨z,i,ch,rx.str_inv,ry.int_inv,QM hz lim,q,k _ (.str _)⟩)
  ·cases e
 ·cases e
theorem Du{f g:M D}(ha:PE X a (tD X.K B G0 f))(hb:PE X b (tD X.K B G0 g))(hs:Ov b):PE X (.Subscript a b pos) (tD X.K B G0 (UP oIx f g)):=
 Kt (NS Mf ha hb hs) λσ H Q q=>tM.two q λv u H2 G Z x y k rx ry a=>by obtain⟨d,e,a⟩:=a.opt;exact Mc k.gh rx ry e λw r=>a.now k r
noncomputable def UU(i:Nat)(g:M D):M D:=λZ=>match Z[i]? with
 |some (some (.pub d))=>(Kb g λy=>Kc (oIx d y)) Z
 |some (some (.own _))=>(Kb g λy=>λZ'=>match Z'[i]? with|some (some (.own ds))=>Kc (oIx (.list ds) y) Z'|_=>.bad) Z
 |_=>.bad
theorem Rb{i:Nat}{g:M D}(ha:PE X a (K9 i))(hb:PE X b (tD X.K B G0 g))(hs:Ov b):PE X (.Subscript a b pos) (tD X.K B G0 (UU i g)):=
 Kt (NS Mf ha hb hs) λσ H Q ⟨G,Z,k,a⟩=>by
  unfold UU at a;cases q:Z[i]? with
  |none=>rw[q]at a;exact a.elim
  |some o=>
   cases o with
   |none=>rw[q]at a;exact a.elim
   |some sl=>
    cases sl with
    |deep _ _=>rw[q]at a;exact a.elim
    |pub d=>
     rw[q]at a;obtain⟨v,h1,h2⟩:=k.pub i d q;refine⟨v,h1,G,Z,k,?_⟩;dsimp only[Kb]at a;cases z:g Z with
     |bad=>rw[z]at a;exact a.elim
     |ok y Z1=>rw[z]at a;intro u G' H' k' s' r';obtain⟨d',e',a'⟩:=aft.opt a;exact Mc k'.gh (h2.mono s') r' e' λw r=>a' w G' H' k' s' r
    |own ds=>
     rw[q]at a;obtain⟨ad,vs,h1,h2,h3,h4,h5⟩:=k.own i ds q;refine⟨.ref ad,h1,G,Z,k,?_⟩;dsimp only[Kb]at a;cases z:g Z with
     |bad=>rw[z]at a;exact a.elim
     |ok y Z1=>
      rw[z]at a;dsimp only at a;intro u G' H' k' s' r';cases z2:Z1[i]? with
      |none=>rw[z2]at a;exact a.elim
      |some o2=>
       cases o2 with
       |none=>rw[z2]at a;exact a.elim
       |some sl2=>
        cases sl2 with
        |deep _ _=>rw[z2]at a;exact a.elim
        |pub d2=>rw[z2]at a;exact a.elim
        |own es2=>
         rw[z2]at a;obtain⟨d',e',a'⟩:=aft.opt a;obtain⟨ad',vs',g1,g2,g3,g4,g5⟩:=k'.own i es2 z2;rw[h1]at g1;cases g1;unfold oIx at e';cases y with
         |int j=>obtain⟨w,e1,r2⟩:=g5.atI e';exact .inl ⟨ad,vs',j,w,rfl,r'.int_inv,SqL.of g4,e1,a' w G' H' k' s' r2⟩
         |_=>cases e'
noncomputable def cutD(xs:List D)(lo hi:Option Int):List D:=(xs.drop (HT.sIx xs.length 0 lo)).take (HT.sIx xs.length xs.length hi-HT.sIx xs.length 0 lo)
theorem Reps.cut{K:Frag}{G:Hp}{vs:List V}{ds:List D}(r:Reps K G vs ds)(lo hi:Option Int):Reps K G (Xv vs lo hi) (cutD ds lo hi):=by unfold Xv cutD;rw[r.length];exact(r.drop _).take _
noncomputable def Yt:D->Option (Option Int)
 |.int i=>some (some i)
 |_=>none
theorem AE:PO X none (tOi X.K B G0 (UQ none)):=poof CG λσ H Q ⟨G,Z,k,a⟩=>aft.now a k rfl
theorem AD{f:M D}(h:PE X e (tD X.K B G0 f)):PO X (some e) (tOi X.K B G0 (Kb f λx=>Kc (Yt x))):=poof (CF h) λσ H Q q=>tM.one (R:=Rep X.K) q λv H2 G Z x k r a=>by
 cases x with
 |int i=>exact⟨i,r.int_inv,aft.now (v:=some i) a k rfl⟩
 |_=>exact a.elim
end
noncomputable def WP:List (D×D)->Bool
 |(.none,_)::_=>true
 |_=>false
noncomputable def Xp:D->String
 |.none=> "NoneType"
 |.bool _=> "bool"
 |.int _=> "int"
 |.str _=> "str"
 |.list _=> "list"
 |.tuple _=> "tuple"
 |.dict kvs=>if WP kvs=true then "" else "dict"
noncomputable def Kr(d:D)(c:String):Bool:=Xp d==c || (Xp d == "bool" && c == "int")
noncomputable def Rw:D->Bool
 |.dict kvs=>WP kvs
 |_=>false
theorem Mb{ks:List Key}{ds:List D}:Xp (.dict ((ks.map kD).zip ds)) = "dict" /\ Rw (.dict ((ks.map kD).zip ds))=false:=by
 cases ks with
 |nil=>exact⟨rfl,rfl⟩
 |cons k ks=>
  cases ds with
  |nil=>exact⟨rfl,rfl⟩
  |cons d ds=>cases k<;>exact⟨rfl,rfl⟩
theorem DJ(K:Frag)(d:D)(c:String)(nx:Rw d=false)(hc:c = "int" ∨ c = "bool" ∨ c = "str" ∨ c = "list" ∨ c = "tuple" ∨ c = "dict"):PySem.W.kitOne K (.type (Xp d)) (.type c)=some (Kr d c):=by
 cases d with
 |dict kvs=>
  have e:Xp (.dict kvs) = "dict" :=by
   have nx:WP kvs=false:=nx
   show(if WP kvs=true then "" else "dict")=_
   rw[nx];rfl
  unfold Kr;rw[e];rcases hc with rfl|rfl|rfl|rfl|rfl|rfl<;>rfl
 |_=>rcases hc with rfl|rfl|rfl|rfl|rfl|rfl<;>rfl
section
variable{X:Cx}{B G0:Hp}{e a b c:Us}{pos:Pos}{es rest:List Us}
def YF(X:Cx)(f:Um)(p:List D->Option D):Prop:=
 ∃r,Yu X f r/\∀vs G H ds d Q,Same G H->Reps X.K G vs ds->p ds=some d->(∀w G' H',Ext G H G' H'->Rep X.K G' w d->Q w H')->r vs H Q
noncomputable def K0(p:List D->Option D)(f:M (List D)):M D:=Kb f λxs=>Kc (p xs)
theorem WA{x:Str}{p2:Pos}{id:String}{p:List D->Option D}{f:M (List D)}(hc:YF X (.builtin id) p)(hg:Gl X x)(hm:X.mg x=none)(hv:bootBuiltins x=some (.builtin id))(ha:PA X (e::es) (tDs X.K B G0 f))(hn:x ≠ "__name__" :=by decide)(hdb:(x==("__debug__" : Str))=false:=by decide)
  (he:Uv (e::es) X.env=(false,eval e X.env)::Uv es X.env:=by rfl) (hpl:(backTo pos (Uv es X.env)).any (·.1)=false:=by rfl):PE X (.Call (.Name x p2) (e::es) [] pos) (tD X.K B G0 (K0 p f)):=by
 obtain⟨r,h,i⟩:=hc;refine Kt (PB h hg hm hv ha hn hdb he hpl) λσ H Q q=>tM.one (R:=Reps X.K) q λv H2 G Z x k rr a=>?_
 obtain⟨d,e,a⟩:=a.opt;exact i v G H2 x d Q k.gh rr e λw G' H' ex rw=>a.done k ex rw
theorem jK{x:Str}{p2:Pos}{T:String}{p:List D->Option D}{f:M (List D)}(hc:YF X (.type T) p)(hg:Gl X x)(hm:X.mg x=none)(hv:bootBuiltins x=some (.type T))(ha:PA X (e::es) (tDs X.K B G0 f))(hn:x ≠ "__name__" :=by decide)(hdb:(x==("__debug__" : Str))=false:=by decide)
  (he:Uv (e::es) X.env=(false,eval e X.env)::Uv es X.env:=by rfl) (hpl:(backTo pos (Uv es X.env)).any (·.1)=false:=by rfl):PE X (.Call (.Name x p2) (e::es) [] pos) (tD X.K B G0 (K0 p f)):=by
 obtain⟨r,h,i⟩:=hc;refine Kt (PM h hg hm hv ha hn hdb he hpl) λσ H Q q=>tM.one (R:=Reps X.K) q λv H2 G Z x k rr a=>?_
 obtain⟨d,e,a⟩:=a.opt;exact i v G H2 x d Q k.gh rr e λw G' H' ex rw=>a.done k ex rw
theorem Reps.nil_inv{K:Frag}{G:Hp}{vs:List V}(r:Reps K G vs []):vs=[]:=by cases r;rfl
theorem Reps.one_inv{K:Frag}{G:Hp}{vs:List V}{d:D}(r:Reps K G vs [d]):∃v,vs=[v]/\Rep K G v d:=by
 cases r with
 |cons h t=>cases t;exact⟨_,rfl,h⟩
theorem Reps.two_inv{K:Frag}{G:Hp}{vs:List V}{d d':D}(r:Reps K G vs [d,d']):∃v v',vs=[v,v']/\Rep K G v d/\Rep K G v' d':=by
 cases r with
 |cons h t=>obtain⟨v',rfl,r'⟩:=t.one_inv;exact⟨_,v',rfl,h,r'⟩
noncomputable def Ka:List D->Option D
 |[.list xs]=>some (.int xs.length)
 |[.tuple xs]=>some (.int xs.length)
 |[.str z]=>if z.length<=1000000 then some (.int z.length)else none
 |_=>none
theorem NV:YF X (.builtin "len") Ka:=by
 refine⟨_,LC,λvs G H ds d Q s r e k=>?_⟩;unfold Ka at e;split at e
 ·cases e;obtain⟨v,rfl,q⟩:=r.one_inv;obtain⟨l,ws,rfl,h1,r1⟩:=q.lst_inv;exact⟨.ref l,ws.length,rfl,.inl ⟨ws,s.seq h1,rfl⟩,by rw[r1.length];exact k _ G H (.refl s) (.int _)⟩
 ·cases e;obtain⟨v,rfl,q⟩:=r.one_inv;obtain⟨l,ws,rfl,h1,r1⟩:=q.tup_inv;exact⟨.ref l,ws.length,rfl,.inr ⟨ws,YU s h1,rfl⟩,by rw[r1.length];exact k _ G H (.refl s) (.int _)⟩
 ·split at e
  ·rename_i z hz;cases e;obtain⟨v,rfl,q⟩:=r.one_inv;exact⟨.str z,z.length,by rw[q.str_inv],⟨QM hz lim,rfl⟩,k _ G H (.refl s) (.int _)⟩
  ·cases e
 ·cases e
noncomputable def Rv:List D->Option D
 |[.int i,.int j]=>some (.int (if j > i then j else i))
 |_=>none
theorem Dt(hc:X.calm=true):YF X (.builtin "max") Rv:=by
 refine⟨_,ql hc,λvs G H ds d Q s r e k=>?_⟩;unfold Rv at e;split at e
 ·cases e;obtain⟨v,v',rfl,r1,r2⟩:=r.two_inv;exact⟨_,_,by rw[r1.int_inv,r2.int_inv],k _ G H (.refl s) (.int _)⟩
 ·cases e
noncomputable def K3(i:Nat):M D:=λZ=>match Z[i]? with
 |some (some (.pub d))=>Kc (Ka [d]) Z
 |some (some (.own ds))=>.ok (.int ds.length) Z
 |_=>.bad
theorem Ly{i:Nat}{p2:Pos}(hg:Gl X "len")(hm:X.mg "len" = none)(ha:PE X e (K9 i))(he:Uv [e] X.env=[(false,eval e X.env)]:=by rfl):PE X (.Call (.Name "len" p2) [e] [] pos) (tD X.K B G0 (K3 i)):=by
 refine Kt (PB LC hg hm PySem.boot_len (XG ha Ws (by rw[he];rfl)) (by decide) (by decide) (by rw[he];rfl) rfl) λσ H Q ⟨G,Z,k,a⟩=>?_
 unfold K3 at a;cases q:Z[i]? with
 |none=>rw[q]at a;exact a.elim
 |some o=>
  cases o with
  |none=>rw[q]at a;exact a.elim
  |some sl=>
   cases sl with
   |deep _ _=>rw[q]at a;exact a.elim
   |pub d=>
    rw[q]at a;obtain⟨v,h1,h2⟩:=k.pub i d q;refine⟨v,h1,?_⟩;obtain⟨d',e',a'⟩:=aft.opt a;obtain⟨r,hr,ir⟩:=@NV X;show ∃x n,[v]=[x]/\LenV X.K x H n/\Q (.int n) H;unfold Ka at e';split at e'
    ·rename_i xs he';injection he' with he1 he2;subst he1;cases e'
     obtain⟨l,ws,rfl,g1,r1⟩:=h2.lst_inv;exact⟨.ref l,ws.length,rfl,.inl ⟨ws,k.gh.seq g1,rfl⟩,by rw[r1.length];exact a'.now k (.int _)⟩
    ·rename_i xs he';injection he' with he1 he2;subst he1;cases e'
     obtain⟨l,ws,rfl,g1,r1⟩:=h2.tup_inv;exact⟨.ref l,ws.length,rfl,.inr ⟨ws,YU k.gh g1,rfl⟩,by rw[r1.length];exact a'.now k (.int _)⟩
    ·rename_i z he';injection he' with he1 he2;subst he1
     split at e'
     ·rename_i hz;cases e';exact⟨.str z,z.length,by rw[h2.str_inv],⟨QM hz lim,rfl⟩,a'.now k (.int _)⟩
     ·cases e'
    ·cases e'
   |own ds=>rw[q]at a;obtain⟨ad,vs,h1,g2,g3,h4,h5⟩:=k.own i ds q;exact⟨.ref ad,h1,.ref ad,vs.length,rfl,.inl ⟨vs,SqL.of h4,rfl⟩,by rw[h5.length];exact aft.now a k (.int _)⟩
theorem DI{pins:List (Uq×Obj)}{s:Uo}{σ:St}{G H:Hp}{v:V}{u:Um}{d:D}{cv:Um}{t:Bool}{A:Around}{E:Um->Uo->Prop}{Q:Um->Uo->Prop}(I:Inv X pins σ H s)(sg:Same G H)(r:Rep X.K G v d)(rv:RelV v u)(nx:Rw d=false)
  (ek:PySem.W.kitOne X.K (.type (Xp d)) cv=some t) (h:∀tk,Q (.bool t) {s with toks:=tk}):Uu (model X.prog X.w) A (call (.builtin "isinstance") [u,cv]) Q E s:=by
 cases r with
 |non=>cases rv;exact JD PySem.W.kitx_none I.kIn True.intro ek (λz=>nomatch z) h
 |bl y=>cases rv;exact JD PySem.W.kitx_bool I.kIn True.intro ek (λz=>nomatch z) h
 |int i=>obtain⟨t',rfl⟩:=rv;exact JD PySem.W.kitx_int I.kIn True.intro ek (λz=>nomatch z) h
 |str y=>obtain⟨t',rfl⟩:=rv;exact JD PySem.W.kitx_str I.kIn True.intro ek (λz=>nomatch z) h
 |lst hl _=>cases rv;obtain⟨its,r,⟨o,n,e,hc,_,hd⟩,hz⟩:=I.list (sg.seq hl);exact JD PySem.W.kitx_list I.kIn ⟨o,e,hc⟩ ek (λz=>nomatch z) h
 |tup hl _=>cases rv;obtain⟨its,r,p,hz⟩:=I.tuple (YU sg hl);obtain⟨o,e,hc,_⟩:=p;exact JD PySem.W.kitx_tuple I.kIn ⟨o,e,hc⟩ ek (λz=>nomatch z) h
 |@dic ad hd=>
  cases rv;obtain⟨_,_,vs,_,p⟩:=(show Zo X.prog X.w H s.heap ad (.dK [])from I.hok ad _ (sg _ _ hd))
  obtain⟨o,es,ep,h1,h2,_⟩:=p;exact JD PySem.W.kitx_dict I.kIn ⟨o,h1,h2.1⟩ ek (λz=>nomatch z) h
 |exc _ _ _ _=>cases nx
 |@dct ad ks vs ds kvs e0 _ _ hd _=>
  cases rv;subst e0;rw[Mb.1]at ek;obtain⟨_,_,vs,_,p⟩:=(show Zo X.prog X.w H s.heap ad (.dK (ks.zip _))from I.hok ad _ (sg _ _ hd))
  obtain⟨o,es,ep,h1,h2,_⟩:=p;exact JD PySem.W.kitx_dict I.kIn ⟨o,h1,h2.1⟩ ek (λz=>nomatch z) h
 |@dtt ad ob ks vs ds kvs e0 _ hd _=>
  cases rv;subst e0;obtain⟨_,_,_,xs,_,o,es,ep,h1,h2,_⟩:=(show Zo X.prog X.w H s.heap ad (.frz ob (.dT (ks.zip _)))from I.hok ad _ (sg _ _ hd))
  exact JD PySem.W.kitx_dict I.kIn ⟨o,h1,h2.1⟩ ek (λz=>nomatch z) h
theorem DH(c:String)(hc:c = "int" ∨ c = "bool" ∨ c = "str" ∨ c = "list" ∨ c = "tuple" ∨ c = "dict"):typeOf (.type c)=pure (.type "type"):=by rcases hc with rfl|rfl|rfl|rfl|rfl|rfl<;>kernel_rfl
theorem AC:Yu X (.builtin "isinstance") (λxs H Q=>∃v c G d,xs=[v,.ty c]/\Same G H/\Rep X.K G v d/\(c = "int" ∨ c = "bool" ∨ c = "str" ∨ c = "list" ∨ c = "tuple" ∨ c = "dict")/\Q (.bl (Kr d c)) H):=by
 intro pins s σ H xs us Q I r h;obtain⟨v,c,G,d,rfl,sg,rp,hc,q⟩:=h;obtain⟨u,w',rfl,r1,r2⟩:=P5 r;cases (show w'=Value.type c from r2);by_cases nx:Rw d=true
 ·cases rp with
  |@exc a C dd bm nm vs ds ck hx hd rr=>
   refine Ag (Fb I.ok.mod.kin) pins s σ H [.ref a,.ty c] [u,.type c] Q I r ⟨a,C,dd,bm,false,.ty c,false,rfl,⟨nm,ck⟩,sg _ _ hx,.inr ⟨c,rfl,DH c hc,?_⟩,?_⟩
   ·rw[ck.ty];rcases hc with rfl|rfl|rfl|rfl|rfl|rfl<;>rfl
   ·have e:Kr (.dict [(.none,.tuple [.str nm,.list ds])]) c=false:=by rcases hc with rfl|rfl|rfl|rfl|rfl|rfl<;>rfl
    rw[e]at q;exact q
  |dct e _ _ _ _=>subst e;rw[Mb.2]at nx;cases nx
  |dtt e _ _ _=>subst e;cases nx
  |_=>cases nx
 ·have nx:Rw d=false:=by simpa using nx
  exact DI I sg rp r1 nx (DJ X.K d c nx hc) λtk=>⟨.bl _,H,I.tok tk,rfl,q⟩
theorem kQ:bootBuiltins "isinstance" = some (.builtin "isinstance"):=by decide +kernel
theorem RY{f:M D}{p2 p3:Pos}{c:String}(hc:c = "int" ∨ c = "bool" ∨ c = "str" ∨ c = "list" ∨ c = "tuple" ∨ c = "dict")(hg:Gl X "isinstance")(hm:X.mg "isinstance" = none)(hg2:Gl X (UH c))(hm2:X.mg (UH c)=none)
  (hv2:bootBuiltins (UH c)=some (.type c)) (ha:PE X e (tD X.K B G0 f)) (hn2:(UH c) ≠ "__name__") (hd2:((UH c)==("__debug__" : Str))=false)
  (hs:Uv [e,.Name (UH c) p3] X.env=(false,eval e X.env)::Uv [.Name (UH c) p3] X.env:=by rfl)
  (hs2:Uv [.Name (UH c) p3] X.env=[(false,eval (.Name (UH c) p3) X.env)]:=by rfl) :
  PE X (.Call (.Name "isinstance" p2) [e,.Name (UH c) p3] [] pos) (tD X.K B G0 (UZ (λd=>.bool (Kr d c)) f)):=by
 refine Kt (PB AC hg hm kQ (XG ha (XG (CN (v:=.ty c) hg2 hm2 hv2 rfl hn2 hd2) Ws (by rw[hs2];rfl)) hs) (by decide) (by decide) hs (by rw[hs2];rfl)) λσ H Q q=>?_
 refine tM.one (R:=Rep X.K) q λv H2 G Z x k r a=>?_
 exact⟨v,c,G,x,rfl,k.gh,r,hc,aft.now a k (.bl _)⟩
end
noncomputable def spD(K:Frag)(n:Nat)(F:List D->Option D):Sp:=λvs H Q _=>∃G ds d,vs.length=n/\Same G H/\Reps K G vs ds/\F ds=some d/\∀v G' H',Ext G H G' H'->Rep K G' v d->Q v H'
section
variable{K:Frag}{B G0 G H:Hp}{σ:St}{Z:UJ}
theorem EOk.exit(k:EOk K B G0 G H σ Z):Ext G0 B G H:=⟨k.bh,k.g0,k.gh,k.np⟩
theorem XU{α:Type}{l:List α}{i:Nat}{x y:α}(h:(l.set i x)[i]?=some y):y=x:=by
 by_cases hl:i<l.length
 ·rw[QD hl]at h;cases h;rfl
 ·rw[Jc (by rw[QS];omega)]at h;cases h
theorem DpOk.setOther{i:Nat}{x:Option V}{y:Option Sl}(k:DpOk K B G H σ Z)(hy:∀s,y=some s->∃d,s=.pub d):DpOk K B G H (σ.set i x) (Z.set i y):=by
 have nz:∀{m:Nat}{s:Sl},(Z.set i y)[m]?=some (some s)->(∃d,s=.pub d)∨(Z[m]?=some (some s)/\(σ.set i x)[m]?=σ[m]?):=λ{m s} q=>by
  by_cases z:i=m
  ·subst z;exact .inl (hy s (XU q).symm)
  ·rw[Qq z]at q⊢;exact .inr ⟨q,rfl⟩
 refine k.map (λm p d q=>?_) (λm es q=>?_) λm p d v fp q s r w n=>⟨r,w⟩
 ·rcases nz q with ⟨_,e⟩|q
  ·cases e
  ·exact q
 ·rcases nz q with ⟨_,e⟩|q
  ·cases e
  ·exact⟨es,q⟩
theorem EOk.setPub{i:Nat}{v:V}{d:D}(k:EOk K B G0 G H σ Z)(r:Rep K G v d)(hi:i<Z.length):EOk K B G0 G H (σ.set i (some v)) (Z.set i (some (.pub d))) where
 bh:=k.bh
 gh:=k.gh
 g0:=k.g0
 np:=k.np
 len:=by rw[QS,QS];exact k.len
 pub:=λj d' q=>by
  by_cases z:i=j
  ·subst z;have:=XU q;cases this;exact⟨v,QD (by rw[←k.len];exact hi),r⟩
  ·rw[Qq z]at q⊢;exact k.pub j d' q
 own:=λj ds q=>by
  by_cases z:i=j
  ·subst z;have:=XU q;cases this
  ·rw[Qq z]at q⊢;exact k.own j ds q
 sep:=λj l c es fs q1 q2 s1 s2=>by
  have z1:i≠j:=λz=>by subst z;have:=XU q1;cases this
  have z2:i≠l:=λz=>by subst z;have:=XU q2;cases this
  rw[Qq z1]at q1 s1;rw[Qq z2]at q2 s2;exact k.sep j l c es fs q1 q2 s1 s2
 dp:=k.dp.setOther (λs e=>by cases e;exact⟨_,rfl⟩)
structure NewL(K:Frag)(B G H:Hp)(σ:St)(Z:UJ)(a:Uq)(vs:List V)(ds:List D):Prop where
 b:B a=none
 g:G a=none
 h:H a=some (.lst vs)
 r:Reps K G vs ds
 f:∀(j:Nat) es,Z[j]?=some (some (.own es))->σ[j]?≠some (some (.ref a))
 dp:∀(j:Nat) p d v fp,Z[j]?=some (some (.deep p d))->σ[j]?=some (some v)->RepO K G H p v d fp->a∉fp
theorem EOk.freshD{H':Hp}{a:Uq}(k:EOk K B G0 G H σ Z)(e:Same H H')(ha:H a=none){G':Hp}{j:Nat}{p:Pat}{d:D}{v:V}{fp:List Uq}(q:Z[j]?=some (some (.deep p d)))(s:σ[j]?=some (some v))(r:RepO K G' H' p v d fp):a∉fp:=λm=>by obtain⟨ω,k1,k2⟩:=k.dp;obtain⟨v',fp',s',r',n,w⟩:=k1 j p d q;rw[s]at s';cases s';have u:=r'.uniq e r;subst u;obtain⟨ws,hl⟩:=r'.isl a m;rw[ha]at hl;cases hl
theorem EOk.setOwn{i:Nat}{a:Uq}{vs:List V}{ds:List D}(k:EOk K B G0 G H σ Z)(n:NewL K B G H σ Z a vs ds)(hi:i<Z.length):EOk K B G0 G H (σ.set i (some (.ref a))) (Z.set i (some (.own ds))) where
 bh:=k.bh
 gh:=k.gh
 g0:=k.g0
 np:=k.np
 len:=by rw[QS,QS];exact k.len
 pub:=λj d' q=>by
  by_cases z:i=j
  ·subst z;have:=XU q;cases this
  ·rw[Qq z]at q⊢;exact k.pub j d' q
 own:=λj es q=>by
  by_cases z:i=j
  ·subst z;have:=XU q;cases this;exact⟨a,vs,QD (by rw[←k.len];exact hi),n.b,n.g,n.h,n.r⟩
  ·rw[Qq z]at q⊢;exact k.own j es q
 sep:=λj l c es fs q1 q2 s1 s2=>by
  have hs:i<σ.length:=by rw[←k.len];exact hi
  by_cases z1:i=j
  ·subst z1;rw[QD hs]at s1;cases s1;by_cases z2:i=l
   ·exact z2
   ·rw[Qq z2]at q2 s2;exact absurd s2 (n.f l fs q2)
  ·by_cases z2:i=l
   ·subst z2;rw[QD hs]at s2;cases s2;rw[Qq z1]at q1 s1;exact absurd s1 (n.f j es q1)
   ·rw[Qq z1]at q1 s1;rw[Qq z2]at q2 s2;exact k.sep j l c es fs q1 q2 s1 s2
 dp:=by
  obtain⟨ω,k1,k2⟩:=k.dp;have hs:i<σ.length:=by rw[←k.len];exact hi
  refine⟨λb=>if b=a then i else ω b,λj p d q=>?_,λj es b q s=>?_⟩
  ·by_cases z:i=j
   ·subst z;have:=XU q;cases this
   ·rw[Qq z]at q⊢;obtain⟨v,fp,s,r,nn,w⟩:=k1 j p d q;refine⟨v,fp,s,r,nn,λb m=>⟨(w b m).1,(w b m).2.1,?_⟩⟩;dsimp only;rw[Qz (λz=>n.dp j p d v fp q s r (by rw[←z];exact m))];exact(w b m).2.2
  ·by_cases z:i=j
   ·subst z;rw[QD hs]at s;cases s;dsimp only;rw[Qp rfl]
   ·rw[Qq z]at q s;dsimp only;rw[Qz (λe=>n.f j es q (by rw[←e];exact s))];exact k2 j es b q s
theorem EOk.change{i:Nat}{a:Uq}{vs:List V}{ds es:List D}(k:EOk K B G0 G H σ Z)(q:Z[i]?=some (some (.own ds)))(ha:σ[i]?=some (some (.ref a)))(r:Reps K G vs es) :
  EOk K B G0 G (upd H a (.lst vs)) σ (Z.set i (some (.own es))):=by
 obtain⟨a',ws,h1,h2,h3,h4,h5⟩:=k.own i ds q;rw[ha]at h1;cases h1;have hi:i<Z.length:=(Qg.mp q).1;refine⟨λb o e=>?_,λb o e=>?_,k.g0,k.np,by rw[QS];exact k.len,λj d' e=>?_,λj fs e=>?_,λj l c fs gs q1 q2 s1 s2=>?_,?_⟩
 ·rw[KN (Yi e h2)];exact k.bh b o e
 ·rw[KN (Yi e h3)];exact k.gh b o e
 ·by_cases z:i=j
  ·subst z;have:=XU e;cases this
  ·rw[Qq z]at e;exact k.pub j d' e
 ·by_cases z:i=j
  ·subst z;have:=XU e;cases this;exact⟨a,vs,ha,h2,h3,Zf,r⟩
  ·rw[Qq z]at e;obtain⟨c,us,g1,g2,g3,g4,g5⟩:=k.own j fs e;have zc:c≠a:=λw=>z (k.sep i j a ds fs q e ha (by rw[←w];exact g1))
   exact⟨c,us,g1,g2,g3,by rw[KN zc];exact g4,g5⟩
 ·have f:∀{m:Nat}{ts:List D},(Z.set i (some (Sl.own es)))[m]?=some (some (.own ts))->∃ts',Z[m]?=some (some (.own ts')):=λ{m ts} e=>by
   by_cases z:i=m
   ·subst z;exact⟨ds,q⟩
   ·rw[Qq z]at e;exact⟨ts,e⟩
  obtain⟨f1,w1⟩:=f q1;obtain⟨f2,w2⟩:=f q2;exact k.sep j l c f1 f2 w1 w2 s1 s2
 ·refine k.dp.map (λj p d e=>?_) (λj fs e=>?_) λj p d v fp qj s rj w n=>⟨rj.upd (λ_ z=>by rw[h4]at z;cases z) (n i ds a q ha),w⟩
  ·by_cases z:i=j
   ·subst z;have:=XU e;cases this
   ·rw[Qq z]at e;exact⟨e,rfl⟩
  ·by_cases z:i=j
   ·subst z;exact⟨ds,q,rfl⟩
   ·rw[Qq z]at e;exact⟨fs,e,rfl⟩
end
inductive Out where
 |nx (Z:UJ)|rt (d:D)|bk (Z:UJ)|ct (Z:UJ)|ex (Z:UJ) (d:D)|bad
abbrev SM:=UJ->Out
section
variable(K:Frag)(B G0:Hp)(KX:XW)
def aftS(o:Out)(G1:Hp)(Dn:Ends):Prop:=
 match o with
 |.nx Z=>∀σ G H,EOk K B G0 G H σ Z->Same G1 G->Dn.nx σ H
 |.bk Z=>∀σ G H,EOk K B G0 G H σ Z->Same G1 G->Dn.bk σ H
 |.ct Z=>∀σ G H,EOk K B G0 G H σ Z->Same G1 G->Dn.ct σ H
 |.rt d=>∀v G H,Ext G0 B G H->Rep K G v d->Dn.rt v H
 |.ex Z d=>∀v σ G H,EOk K B G0 G H σ Z->Same G1 G->Rep K G v d->KX v σ H
 |.bad=>False
noncomputable def tS(g:SM):TS:=λDn σ H=>∃G Z,EOk K B G0 G H σ Z/\aftS K B G0 KX (g Z) G Dn
noncomputable def sB{α:Type}(f:M α)(g:α->SM):SM:=λZ=>match f Z with | .ok a Z'=>g a Z' | .bad=>.bad
end
section
variable{X:Cx}{B G0:Hp}{KX:XW}{e a b c:Us}{pos:Pos}{es rest:List Us}{st:Stmt}{sts sts2:List Stmt}
theorem aftS.mono{K:Frag}{o:Out}{G G':Hp}{Dn:Ends}(e:Same G G')(h:aftS K B G0 KX o G Dn):aftS K B G0 KX o G' Dn:=by
 cases o with
 |nx Z=>exact λσ G2 H2 k s=>h σ G2 H2 k (e.trans s)
 |bk Z=>exact λσ G2 H2 k s=>h σ G2 H2 k (e.trans s)
 |ct Z=>exact λσ G2 H2 k s=>h σ G2 H2 k (e.trans s)
 |rt d=>exact h
 |ex Z d=>exact λv σ G2 H2 k s r=>h v σ G2 H2 k (e.trans s) r
 |bad=>exact h
theorem tS.bnd{K:Frag}{α γ:Type}{R:Hp->γ->α->Prop}{f:M α}{g:α->SM}{Dn:Ends}{σ:St}{H:Hp}{P:γ->Hp->Prop}(q:tS K B G0 KX (sB f g) Dn σ H)
  (i:∀v H' G' Z' x,EOk K B G0 G' H' σ Z'->R G' v x->aftS K B G0 KX (g x Z') G' Dn->P v H'):tM K B G0 R f σ H P:=by
 obtain⟨G,Z,k,a⟩:=q;refine⟨G,Z,k,?_⟩;unfold sB at a;cases z:f Z with
 |bad=>rw[z]at a;exact a.elim
 |ok d Z1=>rw[z]at a;exact λv G' H' e s r=>i v H' G' Z1 d e r (aftS.mono s a)
noncomputable def sNx:SM:=λZ=>.nx Z
noncomputable def US(g h:SM):SM:=λZ=>match g Z with | .nx Z'=>h Z'|o=>o
theorem Od:PSs X [] (tS X.K B G0 KX sNx):=P7 CK λD σ H ⟨G,Z,k,a⟩=>a σ G H k (.refl _)
theorem RO{g h:SM}(h1:PS X st (tS X.K B G0 KX g))(h2:PSs X sts (tS X.K B G0 KX h)):PSs X (st::sts) (tS X.K B G0 KX (US g h)):=P7 (OP h1 h2) λD σ H ⟨G,Z,k,a⟩=>by
 refine⟨G,Z,k,?_⟩;unfold US at a;cases z:g Z with
 |nx Z1=>rw[z]at a;exact λσ' G' H' k' s'=>⟨G',Z1,k',aftS.mono s' a⟩
 |rt d=>rw[z]at a;exact a
 |bk Z1=>rw[z]at a;exact a
 |ct Z1=>rw[z]at a;exact a
 |ex Z1 d=>rw[z]at a;exact a
 |bad=>rw[z]at a;exact a.elim
theorem SX{g:SM}(h1:PS X st (tS X.K B G0 KX g)):PSs X [st] (tS X.K B G0 KX g):=Oz h1
noncomputable def Wh:SM:=λ_=>.bad
theorem AB:PS X st (tS X.K B G0 KX Wh):=λ_ _ _ _ _ _ ⟨_,_,_,a⟩=>a.elim
noncomputable def UY(f:M D):SM:=sB f λd _=>.rt d
theorem Ma{f:M D}(h:PE X e (tD X.K B G0 f)):PS X (.Return (some e) pos) (tS X.K B G0 KX (UY f)):=ZA (Mm h) λD σ H q=>tS.bnd (R:=Rep X.K) q λv H' G' Z' x k r a=>a v G' H' k.exit r
noncomputable def XI(f:M D):SM:=sB f λ_ Z=>.nx Z
theorem DG{f:M D}(h:PE X e (tD X.K B G0 f))(hs:swapsWith e none pos.line X.env=pure false:=by rfl):PS X (.Expr e pos) (tS X.K B G0 KX (XI f)):=ZA (Oy h hs) λD σ H q=>tS.bnd (R:=Rep X.K) q λv H' G' Z' x k r a=>a σ G' H' k (.refl _)
noncomputable def sIf(f:M Bool)(g h:SM):SM:=sB f λt=>if t=true then g else h
theorem P2{f:M Bool}{g h:SM}(hc:PT X c (tBo X.K B G0 f))(ha:PSs X sts (tS X.K B G0 KX g))(hb:PSs X sts2 (tS X.K B G0 KX h)):PS X (.If c sts sts2 pos) (tS X.K B G0 KX (sIf f g h)):=
 ZA (EG hc ha hb) λD σ H q=>tS.bnd (R:=λ_ b c=>b=c) q λv H' G' Z' x k r a=>by
  have r:v=x:=r;subst r;cases v with
  |true=>exact⟨G',Z',k,a⟩
  |false=>exact⟨G',Z',k,a⟩
noncomputable def tG(K:Frag)(B G0:Hp)(s:D->UJ->Option UJ):TG:=λv σ H Q=>∃G Z d Z',EOk K B G0 G H σ Z/\Rep K G v d/\s d Z=some Z'/\∀σ' G' H',EOk K B G0 G' H' σ' Z'->Same G G'->Q σ' H'
noncomputable def tGs(K:Frag)(B G0:Hp)(s:List D->UJ->Option UJ):TGs:=λv σ H Q=>∃G Z d Z',EOk K B G0 G H σ Z/\Reps K G v d/\s d Z=some Z'/\∀σ' G' H',EOk K B G0 G' H' σ' Z'->Same G G'->Q σ' H'
theorem pgof{t t':TG}(h:PG X e t)(i:∀v σ H Q,t' v σ H Q->t v σ H Q):PG X e t':=λpins s σ H v u Q I r q=>h pins s σ H v u Q I r (i v σ H Q q)
theorem NU{t t':TGs}(h:PGs X es t)(i:∀v σ H Q,t' v σ H Q->t v σ H Q):PGs X es t':=λpins s σ H v u Q I r q=>h pins s σ H v u Q I r (i v σ H Q q)
noncomputable def gN(i:Nat):D->UJ->Option UJ:=λd Z=>if i<Z.length then some (Z.set i (some (.pub d)))else none
theorem Wi{i:Nat}(h:PG X e (P6 i)):PG X e (tG X.K B G0 (gN i)):=pgof h λv σ H Q ⟨G,Z,d,Z',k,r,e,q⟩=>by
 unfold gN at e;split at e
 ·rename_i hi;cases e;exact q _ G H (k.setPub r hi) (.refl _)
 ·cases e
noncomputable def gN0:List D->UJ->Option UJ:=λd Z=>match d with | []=>some Z|_=>none
noncomputable def gNC(s:D->UJ->Option UJ)(t:List D->UJ->Option UJ):List D->UJ->Option UJ:=λds Z=>match ds with|d::r=>(s d Z).bind (t r) | []=>none
theorem Pi:PGs X [] (tGs X.K B G0 gN0):=NU Lu λv σ H Q ⟨G,Z,d,Z',k,r,e,q⟩=>by
 cases r with
 |nil=>cases e;exact⟨rfl,q σ G H k (.refl _)⟩
 |cons _ _=>cases e
theorem Ww{s:D->UJ->Option UJ}{t:List D->UJ->Option UJ}(h1:PG X e (tG X.K B G0 s))(h2:PGs X es (tGs X.K B G0 t))
  (hs:(UK (e::es) X.env).map (·.2)=assign e X.env::(UK es X.env).map (·.2):=by rfl):PGs X (e::es) (tGs X.K B G0 (gNC s t)):=NU (OO h1 h2 hs) λv σ H Q ⟨G,Z,d,Z',k,r,e,q⟩=>by
 cases r with
 |nil=>cases e
 |@cons w dw ws dws rw rt=>
  unfold gNC at e;dsimp only at e;cases z:s dw Z with
  |none=>rw[z]at e;cases e
  |some Z1=>rw[z]at e;refine⟨w,ws,rfl,G,Z,dw,Z1,k,rw,z,λσ' G' H' k' s'=>?_⟩;exact⟨G',Z1,dws,Z',k',rt.mono s',e,λσ2 G2 H2 k2 s2=>q σ2 G2 H2 k2 (s'.trans s2)⟩
noncomputable def gT(n:Nat)(t:List D->UJ->Option UJ):D->UJ->Option UJ:=λd Z=>match d with | .tuple ds=>if ds.length=n then t ds Z else none|_=>none
theorem Ph{k1:Nat}{t:List D->UJ->Option UJ}{n:Nat}(hc:X.calm=true)(h:PGs X es (tGs X.K B G0 t))
  (hn:(UK es X.env).length=n:=by rfl) (hst:(UK es X.env).findIdx? (·.1)=none:=by rfl):PG X (.Tuple es k1 pos) (tG X.K B G0 (gT n t)):=pgof (Ml hc h hn hst) λv σ H Q ⟨G,Z,d,Z',k,r,e,q⟩=>by
 unfold gT at e;split at e
 ·split at e
  ·rename_i hl;obtain⟨ad,vs,rfl,h1,r1⟩:=r.tup_inv;exact⟨ad,vs,rfl,YU k.gh h1,by rw[r1.length];exact hl,G,Z,_,Z',k,r1,e,q⟩
  ·cases e
 ·cases e
noncomputable def ZI(f:M D)(s:D->UJ->Option UJ):SM:=sB f λd Z=>match s d Z with|some Z'=>.nx Z'|none=>.bad
theorem Ds{tg:Us}{f:M D}{s:D->UJ->Option UJ}(he:PE X e (tD X.K B G0 f))(hg:PG X tg (tG X.K B G0 s))(hs:swapsWithSole [tg] e pos.line X.env=pure false:=by rfl)(hw:swappedStores [tg] e X.env=pure none:=by rfl)
  (h1:(UK [tg] X.env).map (·.2)=[assign tg X.env]:=by rfl):PS X (.Assign [tg] e pos) (tS X.K B G0 KX (ZI f s)):=
 ZA (EL he hg hs hw h1) λD σ H q=>tS.bnd (R:=Rep X.K) q λv H' G' Z' x k r a=>by
  cases z:s x Z' with
  |none=>rw[z]at a;exact a.elim
  |some Z2=>rw[z]at a;exact⟨G',Z',x,Z2,k,r,z,λσ2 G2 H2 k2 s2=>a σ2 G2 H2 k2 s2⟩
noncomputable def U6(i:Nat)(f:M D):SM:=ZI f (gN i)
theorem Dr{i:Nat}{x:Str}{f:M D}{p2:Pos}(hN:X.N.Nodup)(hi:X.N[i]?=some x)(hx:Loc X.env.scope x)(he:PE X e (tD X.K B G0 f))(hs:swapsWith e (some (.Name x p2)) pos.line X.env=pure false:=by rfl)
  (hf:X.fn x=true∨X.env.scope.names.lookup x=some .local:=by first|exact .inl rfl|exact .inr rfl|assumption):PS X (.Assign [.Name x p2] e pos) (tS X.K B G0 KX (U6 i f)):=
 ZA (Oi hN hi hx he hs hf) λD σ H q=>tS.bnd (R:=Rep X.K) q λv H' G' Z' x k r a=>by
  unfold gN at a;split at a
  ·rename_i Z2 hz;split at hz
   ·rename_i hi2;cases hz;exact a _ G' H' (k.setPub r hi2) (.refl _)
   ·cases hz
  ·exact a.elim
noncomputable def tL(K:Frag)(B G0:Hp)(f:M (List D)):TE:=λσ H Q=>∃G Z,EOk K B G0 G H σ Z/\match f Z with
 |.ok ds Z'=>∀a vs G' H',EOk K B G0 G' H' σ Z'->Same G G'->NewL K B G' H' σ Z' a vs ds->Q (.ref a) H'
 |.bad=>False
noncomputable def K8(i:Nat)(f:M (List D)):SM:=sB f λds Z=>if i<Z.length then .nx (Z.set i (some (.own ds)))else .bad
theorem Ld{i:Nat}{x:Str}{f:M (List D)}{p2:Pos}(hN:X.N.Nodup)(hi:X.N[i]?=some x)(hx:Loc X.env.scope x)(he:PE X e (tL X.K B G0 f))(hs:swapsWith e (some (.Name x p2)) pos.line X.env=pure false:=by rfl)
  (hf:X.fn x=true∨X.env.scope.names.lookup x=some .local:=by first|exact .inl rfl|exact .inr rfl|assumption):PS X (.Assign [.Name x p2] e pos) (tS X.K B G0 KX (K8 i f)):=
 ZA (Oi hN hi hx he hs hf) λD σ H ⟨G,Z,k,a⟩=>by
  refine⟨G,Z,k,?_⟩;unfold K8 sB at a;cases z:f Z with
  |bad=>rw[z]at a;exact a.elim
  |ok ds Z1=>
   rw[z]at a;intro ad vs G' H' k' s' n;dsimp only at a;split at a
   ·rename_i hl;exact a _ G' H' (k'.setOwn n hl) s'
   ·exact a.elim
theorem NewL.of{K:Frag}{G H:Hp}{σ:St}{Z:UJ}{p:Uq}{vs:List V}{ds:List D}(k:EOk K B G0 G H σ Z)(hp:H p=none)(r:Reps K G vs ds):NewL K B G (upd H p (.lst vs)) σ Z p vs ds where
 b:=k.bh.free hp
 g:=k.gh.free hp
 h:=Zf
 r:=r
 f:=λj es q z=>by obtain⟨a,ws,h1,h2,h3,h4,h5⟩:=k.own j es q;rw[z]at h1;cases h1;rw[hp]at h4;cases h4
 dp:=λj pt d v fp q s rr=>k.freshD (Zq hp) hp q s rr
theorem DF{f:M (List D)}(h:PA X es (tDs X.K B G0 f)):PE X (.List es pos) (tL X.K B G0 (Kb f λxs=>if xs.length<=1000000 then UQ xs else λ_=>.bad)):=
 Kt (Mg h) λσ H Q ⟨G,Z,k,a⟩=>by
  refine⟨G,Z,k,?_⟩;unfold Kb at a;cases z:f Z with
  |bad=>rw[z]at a;exact a.elim
  |ok ds Z1=>
   rw[z]at a;dsimp only at a;intro v G' H' k' s' r;by_cases c:ds.length<=1000000
   ·rw[Qp c]at a;refine⟨by rw[r.length];exact QM c lim,λp hp=>?_⟩;exact a p v G' _ (k'.ext (Ext.hid k'.gh hp)) s' (NewL.of k' hp r)
   ·rw[Qz c]at a;exact a.elim
noncomputable def Zz(i:Nat)(f:M D):SM:=λZ0=>match Z0[i]? with
 |some (some (.own _))=>sB f (λd Z=>match Z[i]? with
  |some (some (.own ds))=>if ds.length<1000000 then .nx (Z.set i (some (.own (ds++[d]))))else .bad
  |_=>.bad) Z0
 |_=>.bad
theorem N9{i:Nat}{f:M D}{o:Us}{apos cpos:Pos}(ho:PE X o (K9 i))(he:PE X e (tD X.K B G0 f))
  (hbase:attributeBase o "append" X.env (eval o X.env)=eval o X.env:=by rfl)
  (hfew:((backTo cpos (Uv [e] X.env)).all (λx=>!x.1)&&(backToKw cpos (keywordEach [] X.env)).all (λx=>x.1.isSome)
   && decide ([e].length+([]:List Keyword).length+(if([]:List Keyword).isEmpty then 0 else 1)<30))=true:=by rfl)
  (hline:(apos.endLine==cpos.line)=true:=by rfl) (hs:Uv [e] X.env=[(false,eval e X.env)]:=by rfl)
  (hsw:swapsWith (.Call (.Attribute o "append" apos) [e] [] cpos) none pos.line X.env=pure false:=by rfl) :
  PS X (.Expr (.Call (.Attribute o "append" apos) [e] [] cpos) pos) (tS X.K B G0 KX (Zz i f)):=
 ZA (Oy (Pb PySem.F.plainAttrs_list PySem.F.slot_list_append PySem.F.type_list_append Hl ho (XG he Ws (by rw[hs];rfl)) hbase hfew hline (by rw[hs];rfl) rfl) hsw) λD σ H ⟨G,Z,k,a⟩=>by
  unfold Zz at a;cases q0:Z[i]? with
  |none=>rw[q0]at a;exact a.elim
  |some o0=>
   cases o0 with
   |none=>rw[q0]at a;exact a.elim
   |some sl0=>
    cases sl0 with
    |deep _ _=>rw[q0]at a;exact a.elim
    |pub d=>rw[q0]at a;exact a.elim
    |own ds0=>
     rw[q0]at a;obtain⟨ad,vs0,h1,h2,h3,h4,h5⟩:=k.own i ds0 q0;refine⟨.ref ad,h1,.inl ⟨rfl,_,SqL.of h4⟩,G,Z,k,?_⟩;unfold sB at a;cases z:f Z with
     |bad=>rw[z]at a;exact a.elim
     |ok d Z1=>
      rw[z]at a;dsimp only at a;intro v G' H' k' s' r';cases q:Z1[i]? with
      |none=>rw[q]at a;exact a.elim
      |some o=>
       cases o with
       |none=>rw[q]at a;exact a.elim
       |some sl=>
        cases sl with
        |deep _ _=>rw[q]at a;exact a.elim
        |pub d=>rw[q]at a;exact a.elim
        |own ds=>
         rw[q]at a;dsimp only at a;split at a
         ·rename_i hl;obtain⟨ad',vs,g1,g2,g3,g4,g5⟩:=k'.own i ds q;rw[h1]at g1;cases g1;refine⟨ad,vs,v,rfl,rfl,g4,by rw[g5.length];exact QF hl lim,?_⟩;exact a σ G' _ (k'.change q h1 (g5.append (.cons r' .nil))) s'
         ·exact a.elim
end
structure Xj(K:Frag)(J:It)(ds:List D)(G1:Hp):Prop where
 go:∀i G H,Same G1 G->Same G H->i<ds.length->J.go i H
 stop:∀i G H,Same G1 G->Same G H->ds.length<=i->J.stop i H
 yld:∀i G H x H' d,Same G1 G->Same G H->ds[i]?=some d->J.yld i H x H'->∃G',Ext G H G' H'/\Rep K G' x d
noncomputable def iD(K:Frag)(B G0:Hp)(f:M (List D)):TI:=λσ H R=>∃G Z,EOk K B G0 G H σ Z/\match f Z with
 |.ok ds Z'=>∀J G' H',EOk K B G0 G' H' σ Z'->Same G G'->Xj K J ds G'->R J H'
 |.bad=>False
section
variable{X:Cx}{B G0:Hp}{KX:XW}{e a b c tg:Us}{pos:Pos}{es rest:List Us}{st:Stmt}{sts sts2:List Stmt}
theorem Y2{t t':TI}(h:PI X tg e t)(i:∀σ H R,t' σ H R->t σ H R):PI X tg e t':=λpins s σ H R I q=>h pins s σ H R I (i σ H R q)
theorem tM.toI{K:Frag}{α γ:Type}{R0:Hp->γ->α->Prop}{f:M α}{g:α->M (List D)}{σ:St}{H:Hp}{R:It->Hp->Prop}{P:γ->Hp->Prop}(q:iD K B G0 (Kb f g) σ H R)
  (i:∀v H' G' Z' x,EOk K B G0 G' H' σ Z'->R0 G' v x->(match g x Z' with
   |.ok ds Z2=>∀J G2 H2,EOk K B G0 G2 H2 σ Z2->Same G' G2->Xj K J ds G2->R J H2
   |.bad=>False)->P v H'):tM K B G0 R0 f σ H P:=by
 obtain⟨G,Z,k,a⟩:=q;refine⟨G,Z,k,?_⟩;unfold Kb at a;cases z:f Z with
 |bad=>rw[z]at a;exact a.elim
 |ok d Z1=>
  rw[z]at a;intro v G' H' e s r;refine i v H' G' Z1 d e r ?_;dsimp only at a;cases z2:g d Z1 with
  |bad=>rw[z2]at a;exact a.elim
  |ok ds Z2=>rw[z2]at a;exact λJ G2 H2 k2 s2 it=>a J G2 H2 k2 (s.trans s2) it
theorem jJ{K:Frag}{G1:Hp}{ad:Uq}{vs:List V}{ds:List D}(h:SqL K G1 ad vs)(r:Reps K G1 vs ds):Xj K (Itl K ad) ds G1 where
 go:=λi G H s1 s2 hi=>by
  have hi':i<vs.length:=by rw[r.length];exact hi
  exact⟨vs,vs[i],(s1.trans s2).seq h,Qf hi'⟩
 stop:=λi G H s1 s2 hi=>⟨vs,(s1.trans s2).seq h,by rw[r.length];exact hi⟩
 yld:=λi G H x H' d s1 s2 e y=>by obtain⟨rfl,y⟩:=y;obtain⟨v,e1,r1⟩:=r.get e;have:=y vs ((s1.trans s2).seq h);rw[e1]at this;cases this;exact⟨G,.refl s2,r1.mono s1⟩
noncomputable def ZU(lo hi:Int):List D:=(Ux (hi-lo).toNat).map λ(k:Nat)=>.int (lo+k)
theorem Xf(lo hi:Int):(ZU lo hi).length=(hi-lo).toNat:=by unfold ZU;rw[Qb,Qu]
theorem Gj{K:Frag}{G1:Hp}(lo hi:Int):Xj K (Itr lo (hi-lo).toNat) (ZU lo hi) G1 where
 go:=λi G H s1 s2 h=>by rw[Xf]at h;exact h
 stop:=λi G H s1 s2 h=>by rw[Xf]at h;exact h
 yld:=λi G H x H' d s1 s2 e y=>by
  obtain⟨rfl,rfl⟩:=y;unfold ZU at e;rw[Qe]at e;have hi:i<(Ux (hi-lo).toNat).length:=by refine Nat.lt_of_not_le λz=>?_;rw[Jc z]at e;cases e
  rw[Qf hi,List.getElem_range]at e;cases e;exact⟨G,.refl s2,.int _⟩
noncomputable def SN:List D->Option (List D)
 |[.int j]=>if j<=1000000 /\ -1000000<=j then some (ZU 0 j)else none
 |_=>none
noncomputable def SH:List D->Option (List D)
 |[.int i,.int j]=>if j<=1000000 /\ -1000000<=j/\i<=1000000 /\ -1000000<=i then some (ZU i j)else none
 |_=>none
noncomputable def Xa(f:M (List D)):M (List D):=Kb f λx=>Kc (SN x)
noncomputable def Pd(f:M (List D)):M (List D):=Kb f λx=>Kc (SH x)
theorem A8{f:M (List D)}{p2:Pos}(hg:Gl X "range")(hm:X.mg "range" = none)(ha:PA X [a] (tDs X.K B G0 f))(hs:Uv [a] X.env=[(false,eval a X.env)]:=by rfl) :
  PI X tg (.Call (.Name "range" p2) [a] [] pos) (iD X.K B G0 (Xa f)):=Y2 (jD hg hm ha hs) λσ H R q=>tM.toI (R0:=Reps X.K) q λv H' G' Z' x k r a=>by
 cases z:SN x with
 |none=>rw[z]at a;exact a.elim
 |some ds=>
  rw[z]at a;unfold SN at z;split at z
  ·split at z
   ·rename_i j c;cases z;obtain⟨w,rfl,r'⟩:=r.one_inv;refine⟨j,by rw[r'.int_inv],by omega,by omega,?_⟩;have it:=Gj (K:=X.K) (G1:=G') 0 j;rw[Int.sub_zero]at it;exact a _ G' H' k (.refl _) it
   ·cases z
  ·cases z
theorem A7{f:M (List D)}{p2:Pos}(hg:Gl X "range")(hm:X.mg "range" = none)(ha:PA X [a,b] (tDs X.K B G0 f))(hs:Uv [a,b] X.env=[(false,eval a X.env),(false,eval b X.env)]:=by rfl)(hs2:Uv [b] X.env=[(false,eval b X.env)]:=by rfl) :
  PI X tg (.Call (.Name "range" p2) [a,b] [] pos) (iD X.K B G0 (Pd f)):=Y2 (jC hg hm ha hs hs2) λσ H R q=>tM.toI (R0:=Reps X.K) q λv H' G' Z' x k r a=>by
 cases z:SH x with
 |none=>rw[z]at a;exact a.elim
 |some ds=>
  rw[z]at a;unfold SH at z;split at z
  ·split at z
   ·rename_i i j c;cases z;obtain⟨w,w',rfl,r1,r2⟩:=r.two_inv;refine⟨i,j,by rw[r1.int_inv,r2.int_inv],⟨by omega,by omega,by omega,by omega⟩,?_⟩;exact a _ G' H' k (.refl _) (Gj i j)
   ·cases z
  ·cases z
noncomputable def Ye(n:Nat):List D->List D
 |[]=>[]
 |d::r=>.tuple [.int n,d]::Ye (n+1) r
theorem Yr:∀(n:Nat)(ds:List D),(Ye n ds).length=ds.length
 |_,[]=>rfl
 |n,d::r=>by rw[Ye,QO,QO,Yr]
theorem Nd:∀(n:Nat)(ds:List D)(i:Nat),(Ye n ds)[i]?=ds[i]?.map λd=>.tuple [.int ((n+i:Nat):Int),d]
 |_,[],i=>by simp[Ye]
 |n,d::r,0=>by simp[Ye]
 |n,d::r,i+1=>by
  rw[Ye,Jy,Jy,Nd (n+1) r i];have:n+1+i=n+(i+1):=by omega
  rw[this]
theorem je{K:Frag}{G1:Hp}{ad:Uq}{vs:List V}{ds:List D}(h:SqL K G1 ad vs)(r:Reps K G1 vs ds):Xj K (Ite K ad) (Ye 0 ds) G1 where
 go:=λi G H s1 s2 hi=>by
  rw[Yr]at hi;have hi':i<vs.length:=by rw[r.length];exact hi
  exact⟨vs,vs[i],(s1.trans s2).seq h,Qf hi'⟩
 stop:=λi G H s1 s2 hi=>by rw[Yr]at hi;exact⟨vs,(s1.trans s2).seq h,by rw[r.length];exact hi⟩
 yld:=λi G H x H' d s1 s2 e y=>by
  obtain⟨p,v,hp,rfl,y,rfl⟩:=y;rw[Nd]at e;cases z:ds[i]? with
  |none=>rw[z]at e;cases e
  |some d0=>rw[z]at e;cases e;obtain⟨w,e1,r1⟩:=r.get z;have:=y vs ((s1.trans s2).seq h);rw[e1]at this;cases this;refine⟨upd G p (.tup [.int i,v]),Ext.new s2 hp,.tup (SqT.of Zf) (.cons ?_ (.cons ((r1.mono s1).mono (Zq (s2.free hp))) .nil))⟩;rw[QX];exact .int _
noncomputable def Ru:List D->Option (List D)
 |[.list ds]=>some (Ye 0 ds)
 |_=>none
noncomputable def YL(f:M (List D)):M (List D):=Kb f λx=>Kc (Ru x)
theorem Lm{f:M (List D)}{p2:Pos}{elts:List Us}{x1}{tp:Pos}(hg:Gl X "enumerate")(hm:X.mg "enumerate" = none)(ha:PA X [a] (tDs X.K B G0 f))(hs:Uv [a] X.env=[(false,eval a X.env)]:=by rfl) :
  PI X (.Tuple elts x1 tp) (.Call (.Name "enumerate" p2) [a] [] pos) (iD X.K B G0 (YL f)):=Y2 (C0 hg hm ha hs) λσ H R q=>tM.toI (R0:=Reps X.K) q λv H' G' Z' x k r a=>by
 cases z:Ru x with
 |none=>rw[z]at a;exact a.elim
 |some ds=>
  rw[z]at a;unfold Ru at z;split at z
  ·cases z;obtain⟨w,rfl,r'⟩:=r.one_inv;obtain⟨ad,vs,rfl,h1,r1⟩:=r'.lst_inv;exact⟨ad,vs,rfl,k.gh.seq h1,a _ G' H' k (.refl _) (je h1 r1)⟩
  ·cases z
noncomputable def Vv(s:D->UJ->Option UJ)(g:SM):List D->SM
 |[],Z=>.nx Z
 |d::r,Z=>match s d Z with
  |none=>.bad
  |some Z1=>match g Z1 with
   |.nx Z2=>Vv s g r Z2
   |.ct Z2=>Vv s g r Z2
   |.bk Z2=>.nx Z2
   |.rt d=>.rt d
   |.ex Z2 d=>.ex Z2 d
   |.bad=>.bad
noncomputable def Kw(f:M (List D))(s:D->UJ->Option UJ)(g:SM):SM:=sB f λds=>Vv s g ds
theorem Og{iter:Us}{body:List Stmt}{f:M (List D)}{s:D->UJ->Option UJ}{g:SM}(hp:PassesOwn (model X.prog X.w) X.A X.env X.xe)(hc:X.calm=true)(hi:PI X tg iter (iD X.K B G0 f))(hg:PG X tg (tG X.K B G0 s))(hb:PSs X body (tS X.K B G0 KX g))
  (hs:∀x,UL iter X.env x=pure x:=by intro _;rfl):PS X (.For tg iter body [] pos) (tS X.K B G0 KX (Kw f s g)):=
 ZA (Mk hp hc hi hg hb hs) λDn σ H ⟨G,Z,k,a⟩=>by
  refine⟨G,Z,k,?_⟩;unfold Kw sB at a;cases z:f Z with
  |bad=>rw[z]at a;exact a.elim
  |ok ds Z1=>
   rw[z]at a;dsimp only at a⊢;intro J G1 H1 k1 s1 it;refine⟨λi m σ' H'=>m=ds.length-i/\∃G' Z',EOk X.K B G0 G' H' σ' Z'/\Same G1 G'/\aftS X.K B G0 KX (Vv s g (ds.drop i) Z') G' Dn,⟨ds.length,by omega,G1,Z1,k1,.refl _,by rw[Ui];exact aftS.mono s1 a⟩,?_⟩;rintro i m σ' H' ⟨rfl,G',Z',k',s',a'⟩;by_cases hi:i<ds.length
   ·right;refine⟨it.go i G' H' s' k'.gh hi,λσ2 H2=>∃G2 Z2,EOk X.K B G0 G2 H2 σ2 Z2/\Same G1 G2/\aftS X.K B G0 KX (Vv s g (ds.drop (i+1)) Z2) G2 Dn,λσ2 H2 h2=>⟨ds.length-(i+1),by omega,rfl,h2⟩,λx H2 y=>?_⟩
    obtain⟨G2,ex,rx⟩:=it.yld i G' H' x H2 ds[i] s' k'.gh (Qf hi) y;rw[Jd hi,Vv]at a';cases z2:s ds[i] Z' with
    |none=>rw[z2]at a';exact a'.elim
    |some Z2=>
     rw[z2]at a';dsimp only at a';refine⟨G2,Z',ds[i],Z2,k'.ext ex,rx,z2,λσ3 G3 H3 k3 s3=>⟨G3,Z2,k3,?_⟩⟩;have s13:Same G1 G3:=(s'.trans ex.g).trans s3;cases z3:g Z2 with
     |nx Z3=>rw[z3]at a';exact λσ4 G4 H4 k4 s4=>⟨G4,Z3,k4,s13.trans s4,aftS.mono ((ex.g.trans s3).trans s4) a'⟩
     |ct Z3=>rw[z3]at a';exact λσ4 G4 H4 k4 s4=>⟨G4,Z3,k4,s13.trans s4,aftS.mono ((ex.g.trans s3).trans s4) a'⟩
     |bk Z3=>rw[z3]at a';exact λσ4 G4 H4 k4 s4=>a' σ4 G4 H4 k4 ((ex.g.trans s3).trans s4)
     |rt d=>rw[z3]at a';exact a'
     |ex Z3 d=>rw[z3]at a';exact λv σ4 G4 H4 k4 s4 r4=>a' v σ4 G4 H4 k4 ((ex.g.trans s3).trans s4) r4
     |bad=>rw[z3]at a';exact a'.elim
   ·left;rw[List.drop_eq_nil_of_le (by omega)]at a'
    exact⟨it.stop i G' H' s' k'.gh (by omega),a' σ' G' H' k' (.refl _)⟩
theorem AA{k:Nat}{f:Uq}{fd:Ur}{ps:List Str}{F:List D->Option D}{g:M (List D)}{x:Str}{p2:Pos}{n:Nat}(FK:FnOk X.prog X.w X.K X.mg X.base CX0 k f fd ps (spD X.K n F))(hr:Room k X.A)(hg:Gl X x)(hm:X.mg x=some (.ref f))(hk:PySem.W.keepIn X.K (.ref f)=true)
  (hb:Vx X.K fd ps []) (ha:PA X (e::es) (tDs X.K B G0 g)) (hn:(e::es).length=n) (hdb:(x==("__debug__" : Str))=false:=by decide) (he:Uv (e::es) X.env=(false,eval e X.env)::Uv es X.env:=by rfl) (hpl:(backTo pos (Uv es X.env)).any (·.1)=false:=by rfl) :
  PE X (.Call (.Name x p2) (e::es) [] pos) (tD X.K B G0 (Kb g λxs=>if xs.length=n then Kc (F xs)else λ_=>.bad)):=
 Kt (Li FK hr hg hm hk hb .nil NR ha hdb he hpl) λσ H Q q=>tM.one (R:=Reps X.K) q λv H2 G Z ds k r a=>by
  split at a
  ·rename_i hl;obtain⟨d,e,a⟩:=a.opt;exact⟨G,ds,d,by rw[Q7,r.length];exact hl,k.gh,by rw[Q7];exact r,e,λw G' H' ex rw=>a.done k ex rw⟩
  ·exact a.elim
end
noncomputable def Xm(N:List Str)(ds:List D):UJ:=(ds.map λd=>some (Sl.pub d))++Uy (N.length-ds.length) none
theorem Az{K:Frag}{N:List Str}{G H:Hp}{vs:List V}{ds:List D}(s:Same G H)(r:Reps K G vs ds):EOk K H G G H (L2.XJ N vs) (Xm N ds) where
 bh:=.refl _
 gh:=s
 g0:=.refl _
 np:=λ_ _ _ n=>n
 len:=by unfold L2.XJ Xm;rw[Ql,Ql,Qb,Qb,QE,QE,r.length]
 pub:=λi d q=>by
  unfold Xm at q;unfold L2.XJ;by_cases hi:i<ds.length
  ·rw[Qv (by rw[Qb];exact hi),Qe]at q;cases z:ds[i]? with
   |none=>rw[z]at q;cases q
   |some d'=>rw[z]at q;cases q;obtain⟨v,e1,r1⟩:=r.get z;refine⟨v,?_,r1⟩;rw[Qv (by rw[Qb,r.length];exact hi),Qe,e1];rfl
  ·rw[Qw (by rw[Qb];omega),QA]at q;split at q<;>cases q
 own:=λi es q=>by
  unfold Xm at q;by_cases hi:i<ds.length
  ·rw[Qv (by rw[Qb];exact hi),Qe]at q;cases z:ds[i]? with
   |none=>rw[z]at q;cases q
   |some d'=>rw[z]at q;cases q
  ·rw[Qw (by rw[Qb];omega),QA]at q;split at q<;>cases q
 sep:=λi j a es fs q _ _ _=>by
  unfold Xm at q;by_cases hi:i<ds.length
  ·rw[Qv (by rw[Qb];exact hi),Qe]at q;cases z:ds[i]? with
   |none=>rw[z]at q;cases q
   |some d'=>rw[z]at q;cases q
  ·rw[Qw (by rw[Qb];omega),QA]at q;split at q<;>cases q
 dp:=by
  have key:∀{i:Nat}{s:Sl},(Xm N ds)[i]?=some (some s)->∃d,s=.pub d:=λ{i s} q=>by
   unfold Xm at q;by_cases hi:i<ds.length
   ·rw[Qv (by rw[Qb];exact hi),Qe]at q;cases z:ds[i]? with
    |none=>rw[z]at q;cases q
    |some d'=>rw[z]at q;cases q;exact⟨_,rfl⟩
   ·rw[Qw (by rw[Qb];omega),QA]at q;split at q<;>cases q
  exact .of (λi p d q=>by obtain⟨_,e⟩:=key q;cases e) λi ds q=>by obtain⟨_,e⟩:=key q;cases e
noncomputable def U9(N:List Str)(g:SM)(ds:List D):Option D:=match g (Xm N ds)with
 |.rt d=>some d
 |.nx _=>some .none
 |_=>none
theorem okD{P:Up}{w:World}{K:Frag}{mg:Str->Option Um}{base:Heap}{x qual:Str}{st:Stmt}{f:Uq}{fd:Ur}{N ps:List Str}{k n:Nat}{g:SM}(F:Fun K x qual st f fd)(S:RP N ps (ZO st))(hn:ps.length=n)
  (der:∀(cdv:Um)(A:Around)(outer:List Env)(s:Uo)(H:Hp)(E:XK)(B G0:Hp),Room k (A.deeper (envOfC qual (ZO st) s.heap.objs.size f cdv)) ->
   PSs (Y4 CX0 P w K mg base N qual (ZO st) f cdv A outer s H E).nox (VO st) (tS K B G0 KX0 g)):FnOk P w K mg base CX0 (k+1) f fd ps (spD K n (U9 N g)):=by
 refine F.ok S (λvs H Q E h=>?_) (λcdv A outer s H vs Q E hr h=>?_)
 ·obtain⟨_,_,_,hl,_⟩:=h;rw[hl,hn]
 ·obtain⟨G,ds,d,hl,sg,r,hF,q⟩:=h;refine⟨_,der cdv A outer s H E H G hr,G,Xm N ds,Az sg r,?_⟩;unfold U9 at hF;cases z:g (Xm N ds)with
  |rt d'=>rw[z]at hF;cases hF;exact λv G' H' ex rr=>q v G' H' ex rr
  |nx Z=>rw[z]at hF;cases hF;exact λσ' G' H' k' _=>q .non G' H' k'.exit .non
  |bk Z=>rw[z]at hF;cases hF
  |ct Z=>rw[z]at hF;cases hF
  |ex Z d=>rw[z]at hF;cases hF
  |bad=>rw[z]at hF;cases hF
section
variable{X:Cx}{B G0:Hp}{e a b c tg:Us}{pos:Pos}{es rest:List Us}
noncomputable def oNeg:D->Option D
 |.int i=>some (.int (-i))
 |_=>none
noncomputable def Yb(f:M D):M D:=Kb f λx=>Kc (oNeg x)
theorem Ll{f:M D}(h:PE X a (tD X.K B G0 f)):PE X (.UnaryOp .USub a pos) (tD X.K B G0 (Yb f)):=
 Kt (EC Dl h) λσ H Q q=>tM.one (R:=Rep X.K) q λv H2 G Z x k r a=>by
  cases x with
  |int i=>exact⟨i,r.int_inv,aft.now a k (.int _)⟩
  |_=>exact a.elim
end
def Def(P:Up)(w:World)(K:Frag)(mg:Str->Option Um)(base:Heap)(x:Str)(k n:Nat)(F:List D->Option D):Prop:=
 ∃(f:Uq)(fd:Ur)(ps:List Str),mg x=some (.ref f)/\PySem.W.keepIn K (.ref f)=true/\Vx K fd ps []/\FnOk P w K mg base CX0 k f fd ps (spD K n F)
noncomputable def UX(n:Nat)(F:List D->Option D)(g:M (List D)):M D:=Kb g λxs=>if xs.length=n then Kc (F xs)else λ_=>.bad
section
variable{X:Cx}{B G0:Hp}{e:Us}{pos:Pos}{es:List Us}
theorem DE{k n:Nat}{F:List D->Option D}{g:M (List D)}{x:Str}{p2:Pos}(d:Def X.prog X.w X.K X.mg X.base x k n F)(hr:Room k X.A)(hg:Gl X x)(ha:PA X (e::es) (tDs X.K B G0 g))(hn:(e::es).length=n:=by rfl)
  (hdb:(x==("__debug__" : Str))=false:=by decide) (he:Uv (e::es) X.env=(false,eval e X.env)::Uv es X.env:=by rfl) (hpl:(backTo pos (Uv es X.env)).any (·.1)=false:=by rfl) :
  PE X (.Call (.Name x p2) (e::es) [] pos) (tD X.K B G0 (UX n F g)):=by
 obtain⟨f,fd,ps,h1,h2,h3,h4⟩:=d;exact AA h4 hr hg h1 h2 h3 ha hn hdb he hpl
end
theorem Def.mk{P:Up}{w:World}{K:Frag}{mg:Str->Option Um}{base:Heap}{x:Str}{k n:Nat}{F:List D->Option D}{st:Stmt}{f:Uq}{fd:Ur}{ps:List Str}(hm:mg x=some (.ref f))(FU:Fun K x x st f fd)(hb:Vx K fd ps [])(ok:FnOk P w K mg base CX0 k f fd ps (spD K n F)) :
  Def P w K mg base x k n F:=⟨f,fd,ps,hm,FU.kp,hb,ok⟩
theorem F7{K:Frag}{H:Hp}{a:Uq}{ns:List Int}{F:List D->Option D}{E:XK}(hS:SqL K H a (ns.map V.int))(h:F [.list (ns.map int)]=some (.bool true)):spD K 1 F [.ref a] H (λv _=>v=.bl true) E:=
 ⟨H,[.list (ns.map int)],.bool true,rfl,.refl _,.cons (.lst hS (Reps.ints ns)) .nil,h,λ_ _ _ _ r=>r.bl_inv⟩
end DL
namespace L2
open PySem PySem.Spec PyProof.Rows
theorem mem_of_lookup{x:Str}{k:NameKind}:∀{l:List (Str×NameKind)},l.lookup x=some k->(x,k)∈l
 |[],h=>by cases h
 |(y,j)::r,h=>by
  rw[Q2]at h;split at h
  ·rename_i e;cases h;have:x=y:=by simpa using e
   rw[this];exact Qk
  ·exact Qj _ (mem_of_lookup h)
theorem NB{env:Env}:∀(l:List (Str×NameKind))(acc:List (Str×Uq)),(∀y∈l,y.2=.free->∃c,env.cells.lookup y.1=some c) ->
  ∃cl,(forIn l acc (λx r=>if(x.2==NameKind.free)=true then(do let a ←cellOf env x.1;pure (ForInStep.yield ((x.1,a)::r)))else pure (ForInStep.yield r)):Sem (List (Str×Uq)))=pure cl /\
   (∀x c,cl.lookup x=some c->acc.lookup x=some c∨env.cells.lookup x=some c)/\(∀y∈l,y.2=.free->∃c,cl.lookup y.1=some c)/\(∀x c,acc.lookup x=some c->∃c',cl.lookup x=some c')
 |[],acc,_=>⟨acc,rfl,λ_ _ h=>.inl h,λ_ h=>absurd h (by simp),λx c h=>⟨c,h⟩⟩
 |(n,k)::r,acc,h=>by
  by_cases hk:k=.free
  ·subst hk;obtain⟨c,hc⟩:=h (n,.free) Qk rfl;obtain⟨cl,e,p1,p2,p3⟩:=NB r ((n,c)::acc) λy hy=>h y (Qj _ hy)
   have hco:cellOf env n=pure c:=by unfold cellOf;rw[hc]
   have key:∀x c',((n,c)::acc).lookup x=some c'->acc.lookup x=some c'∨env.cells.lookup x=some c':=λx c' q=>by
    rw[Q2]at q;split at q
    ·rename_i e1;cases q;have:x=n:=by simpa using e1
     subst this;exact .inr hc
    ·exact .inl q
   have own:((n,c)::acc).lookup n=some c:=by rw[List.lookup_cons];simp
   refine⟨cl,?_,λx c' q=>?_,λy hy hf=>?_,λx c' q=>?_⟩
   ·rw[List.forIn_cons];have:(if(((n,NameKind.free):Str×NameKind).2==NameKind.free)=true then(do let a ←cellOf env n;pure (ForInStep.yield ((n,a)::acc)))else pure (ForInStep.yield acc):Sem _)=pure (ForInStep.yield ((n,c)::acc)):=by rw[Qp (show((n,NameKind.free).snd==NameKind.free)=true from rfl),hco];rfl
    refine Eq.trans ?_ e;dsimp only at this⊢;rw[this];rfl
   ·rcases p1 x c' q with z|z
    ·exact key x c' z
    ·exact .inr z
   ·rcases QQ.mp hy with z|z
    ·subst z;exact p3 n c own
    ·exact p2 y z hf
   ·by_cases hx:x=n
    ·subst hx;exact p3 x c own
    ·refine p3 x c' ?_;have hb:(x==n)=false:=by simpa using hx
     rw[Q2,hb];exact q
  ·obtain⟨cl,e,p1,p2,p3⟩:=NB r acc λy hy=>h y (Qj _ hy)
   refine⟨cl,?_,p1,λy hy hf=>?_,p3⟩
   ·rw[List.forIn_cons];have hb:(k==NameKind.free)=false:=by cases k<;>first|rfl|exact absurd rfl hk
    refine Eq.trans ?_ e;dsimp only;rw[hb,Qz (by decide)];rfl
   ·rcases QQ.mp hy with z|z
    ·subst z;exact absurd hf hk
    ·exact p2 y z hf
theorem jd{scope:Scope}{env:Env}(h:∀y∈scope.names,y.2=.free->∃c,env.cells.lookup y.1=some c) :
  ∃cl,closureFor scope env=pure cl/\(∀x c,cl.lookup x=some c->env.cells.lookup x=some c)/\∀y∈scope.names,y.2=.free->∃c,cl.lookup y.1=some c:=by
 obtain⟨cl,e,p1,p2,_⟩:=NB scope.names [] h;refine⟨cl,?_,λx c q=>(p1 x c q).elim (λz=>by cases z) id,p2⟩;have e2:((forIn scope.names [] (λx r=>if(x.2==NameKind.free)=true then(do let a ←cellOf env x.1;pure (ForInStep.yield ((x.1,a)::r)))else pure (ForInStep.yield r)):Sem (List (Str×Uq))) >>= λs=>pure s)=pure cl:=by rw[e];rfl
 exact e2
theorem Gy{env:Env}{x:Str}{k:NameKind}:∀{names:List (Str×NameKind)},(names.map λ(n,k)=>if(k==NameKind.free&&env.scope.kind==.function&&env.kindOf n==some .cell)then(n,NameKind.cell)else(n,k)).lookup x=some k ->
  names.lookup x=some k∨(names.lookup x=some .free/\k=.cell)
 |[],h=>by cases h
 |(n,j)::r,h=>by
  have ih:=@Gy env x k r;have h:List.lookup x ((if(j==NameKind.free&&env.scope.kind==.function&&env.kindOf n==some .cell)=true then(n,NameKind.cell)else(n,j))::_)=some k:=h;cases hx:x==n with
  |true=>
   by_cases hc:(j==NameKind.free&&env.scope.kind==.function&&env.kindOf n==some .cell)=true
   ·rw[Qp hc]at h;simp only[Q2,hx]at h⊢;cases h;simp only[Jm]at hc;have:j=.free:=by have:=hc.1.1;cases j<;>first|rfl|cases this
    subst this;exact .inr ⟨rfl,rfl⟩
   ·rw[Qz hc]at h;simp only[Q2,hx]at h⊢;exact .inl h
  |false=>
   by_cases hc:(j==NameKind.free&&env.scope.kind==.function&&env.kindOf n==some .cell)=true
   ·rw[Qp hc]at h;simp only[Q2,hx]at h⊢;exact ih h
   ·rw[Qz hc]at h;simp only[Q2,hx]at h⊢;exact ih h
theorem GJ{env:Env}{x:Str}:∀{names:List (Str×NameKind)},names.lookup x=some .free ->
  (names.map λ(n,k)=>if(k==NameKind.free&&env.scope.kind==.function&&env.kindOf n==some .cell)then(n,NameKind.cell)else(n,k)).lookup x=some .free ∨
  (names.map λ(n,k)=>if(k==NameKind.free&&env.scope.kind==.function&&env.kindOf n==some .cell)then(n,NameKind.cell)else(n,k)).lookup x=some .cell
 |[],h=>by cases h
 |(n,j)::r,h=>by
  have ih:=@GJ env x r;show List.lookup x ((if(j==NameKind.free&&env.scope.kind==.function&&env.kindOf n==some .cell)=true then(n,NameKind.cell)else(n,j))::_)=_∨List.lookup x ((if(j==NameKind.free&&env.scope.kind==.function&&env.kindOf n==some .cell)=true then(n,NameKind.cell)else(n,j))::_)=_;cases hx:x==n with
  |true=>
   simp only[Q2,hx]at h;cases h;by_cases hc:(NameKind.free==NameKind.free&&env.scope.kind==.function&&env.kindOf n==some .cell)=true
   ·rw[if_pos hc];simp[List.lookup_cons,hx]
   ·rw[if_neg hc];simp[List.lookup_cons,hx]
  |false=>
   simp only[Q2,hx]at h;by_cases hc:(j==NameKind.free&&env.scope.kind==.function&&env.kindOf n==some .cell)=true
   ·rw[Qp hc];simp only[Q2,hx];exact ih h
   ·rw[Qz hc];simp only[Q2,hx];exact ih h
theorem GB{env:Env}{x:Str}:∀{names:List (Str×NameKind)},names.lookup x=some .globalImplicit ->
  (names.map λ(n,k)=>if(k==NameKind.free&&env.scope.kind==.function&&env.kindOf n==some .cell)then(n,NameKind.cell)else(n,k)).lookup x=some .globalImplicit
 |[],h=>by cases h
 |(n,j)::r,h=>by
  have ih:=@GB env x r;show List.lookup x ((if(j==NameKind.free&&env.scope.kind==.function&&env.kindOf n==some .cell)=true then(n,NameKind.cell)else(n,j))::_)=_;cases hx:x==n with
  |true=>simp only[Q2,hx]at h;cases h;rw[if_neg (by simp)];simp[List.lookup_cons,hx]
  |false=>
   simp only[Q2,hx]at h;by_cases hc:(j==NameKind.free&&env.scope.kind==.function&&env.kindOf n==some .cell)=true
   ·rw[Qp hc];simp only[Q2,hx];exact ih h
   ·rw[Qz hc];simp only[Q2,hx];exact ih h
noncomputable def Cx.blk(X:Cx)(N':List Str)(scope:Scope)(cl:List (Str×Uq))(C:Uq)(s₀:Uo)(H₀:Hp)(ex:List Uq):Cx:=
 {X with N:=N',s₀:=s₀,H₀:=H₀,env:=compEnvC scope cl C X.env,outer:=X.stack,ex:=ex,fn:=λ_=>false,xe:=λ_ _=>False}
section
variable{X:Cx}{N':List Str}{scope:Scope}{cl:List (Str×Uq)}{C:Uq}{s₀:Uo}{H₀:Hp}{ex:List Uq}{x:Str}
theorem DD(h:scope.names.lookup x=some .local∨scope.names.lookup x=some .free):Vis (X.blk N' scope cl C s₀ H₀ ex).env.scope x:=by
 rcases h with h|h
 ·exact .inl (lookup_relabel_local h)
 ·rcases GJ (env:=X.env) h with z|z
  ·exact .inr (.inr z)
  ·exact .inr (.inl z)
theorem Oq(h:scope.names.lookup x=some .local):Loc (X.blk N' scope cl C s₀ H₀ ex).env.scope x:=.inl (lookup_relabel_local h)
theorem Of(h:scope.names.lookup x=some .local):(X.blk N' scope cl C s₀ H₀ ex).env.scope.names.lookup x=some .local:=lookup_relabel_local h
theorem F6(h:scope.names.lookup x=some .globalImplicit):Gl (X.blk N' scope cl C s₀ H₀ ex) x:=GB h
end
noncomputable def RU(names:List (Str×NameKind))(N N2:List Str)(k:Nat):Bool:=
 N2.length==N.length+k&&(Ux N2.length).all λi=>match N2[i]? with
  |none=>true
  |some x=>match names.lookup x with
   |some .free=>N[i]?==some x
   |some .local=>decide (N.length<=i)&&decide (i<N.length+k)
   |some .cell=>false
   |_=>true
theorem kz{names:List (Str×NameKind)}{N N2:List Str}{k:Nat}(h:RU names N N2 k=true) :
  N2.length=N.length+k/\∀(i:Nat) x,N2[i]?=some x->(names.lookup x=some .free->N[i]?=some x)/\(names.lookup x=some .local->N.length<=i/\i<N.length+k):=by
 unfold RU at h;simp only[Jm,beq_iff_eq,Q3,Q8]at h;refine⟨h.1,λi x e=>?_⟩;have hi:=(Qg.mp e).1;have:=h.2 i hi;rw[e]at this;refine⟨λq=>?_,λq=>?_⟩
 ·simp only[q]at this;simpa using this
 ·simp only[q]at this;simpa using this
theorem Inv.enter{X:Cx}{pins:List (Uq×Obj)}{σ:St}{H:Hp}{s3:Uo}(I:Inv X pins σ H s3){scope:Scope}{cl:List (Str×Uq)}{N2:List Str}{k:Nat}{h':Heap}{fp:List Uq}{t':Nat}{m0:Str->Option Um}
  (hb:RU scope.names X.N N2 k=true) (hkind:scope.kind=.function) (hcell:∀y∈scope.names,y.2≠.cell)
  (hfree:∀y∈scope.names,y.2=.free->X.env.scope.names.lookup y.1=some .cell∨X.env.scope.names.lookup y.1=some .free)
  (cl1:∀x c,cl.lookup x=some c->X.env.cells.lookup x=some c) (cl2:∀y∈scope.names,y.2=.free->∃c,cl.lookup y.1=some c)
  (hn:h'.Ns s3.heap.objs.size m0) (hk:∀b o,s3.heap.get? b=some o->h'.get? b=some o) (hf:∀b∈fp,ZB X pins H b) (hfo:∀b∈fp,∃o,s3.heap.get? b=some o) :
  Inv (X.blk N2 scope cl s3.heap.objs.size s3 H fp) pins (σ++Uy k none) H {s3 with heap:=h',toks:=t'}:=by
 obtain⟨hl,hN⟩:=kz hb;have lt:∀b o,s3.heap.get? b=some o->b≠s3.heap.objs.size:=λb o e=>QP (Qi e);have ofl:∀x,scope.names.lookup x=some .free->(x,NameKind.free)∈scope.names:=λx h=>mem_of_lookup h;have kinv:∀x kk,(X.blk N2 scope cl s3.heap.objs.size s3 H fp).env.scope.names.lookup x=some kk->scope.names.lookup x=some kk∨(scope.names.lookup x=some .free/\kk=.cell):=λx kk h=>Gy (env:=X.env) h
 have isfree:∀x,(X.blk N2 scope cl s3.heap.objs.size s3 H fp).env.scope.names.lookup x=some .cell∨(X.blk N2 scope cl s3.heap.objs.size s3 H fp).env.scope.names.lookup x=some .free->scope.names.lookup x=some .free:=λx h=>by
  rcases h with h|h
  ·rcases kinv x _ h with z|z
   ·exact absurd rfl (hcell _ (mem_of_lookup z))
   ·exact z.1
  ·rcases kinv x _ h with z|z
   ·exact z
   ·exact z.1
 have ok:(X.blk N2 scope cl s3.heap.objs.size s3 H fp).Ok:=
  {
   mod:=I.ok.mod
   kind:=hkind
   glob:=I.ok.glob
   blt:=I.ok.blt
   above:=Qs _
   inj:=λx y c a b=>I.ok.inj x y c (cl1 x c a) (cl1 y c b)
   has:=λx h=>cl2 (x,.free) (ofl x (isfree x h)) rfl
   cab:=λx c h=>by cases h
   hd:=I.ok.hd
   frames:=I.ok.frames
   stk:=.inl rfl
   exf:=λb hb=>⟨let ⟨o,e⟩:=hfo b hb;lt b o e,λx c e=>(hf b hb).2.2.2.2.1 x c (cl1 x c e)⟩
   bs:=I.bs
   bsz:=QM I.ok.bsz I.sz
   noex:=λb o e hb=>by
    rcases(hf b hb).2.2.2.1 with z|z
    ·exact I.ok.noex b o e z
    ·exact absurd (QF (Qi e) (QM I.ok.bsz z)) (Jo _)
   exfs:=λb hb hx=>by
    rcases QQ.mp (I.stkSub b hx)with z|z
    ·exact(hf b hb).2.1 z
    ·exact(hf b hb).2.2.1 z
   funs:=I.stack
   frf:=I.stkFree}
 refine⟨ok,rfl,I.bare,Un.kept hk,⟨m0,hn,λi x v e1 e2 e3=>?_⟩,λx c e=>?_,I.hok.fresh (Qs _),λx c e=>I.freeC x c (cl1 x c e),λp hp=>?_,I.hok.kept hk,?_⟩
 ·have nl:scope.names.lookup x≠some .local:=λz=>by
   obtain⟨g1,g2⟩:=(hN i x e1).2 z;rw[←I.len]at g1 g2;rw[Qw g1,QA]at e2;split at e2<;>cases e2
  have fr:scope.names.lookup x=some .free:=by
   rcases e3 with z|z|z
   ·rcases kinv x _ z with q|q
    ·exact absurd q nl
    ·cases q.2
   ·exact isfree x (.inl z)
   ·exact isfree x (.inr z)
  have eN:=(hN i x e1).1 fr;have hi:i<σ.length:=by rw[I.len];exact(Qg.mp eN).1
  rw[Qv hi]at e2;obtain⟨m,hm,hlk⟩:=I.loc;have hkd:=hfree _ (ofl x fr) rfl;obtain⟨u,r,l⟩:=hlk i x v eN e2 (.inr hkd);refine⟨u,r,.inr ⟨?_,?_⟩⟩
  ·rcases e3 with z|z|z
   ·rcases kinv x _ z with q|q
    ·exact absurd q nl
    ·cases q.2
   ·exact .inl z
   ·exact .inr z
  ·rcases l with l|⟨_,c,ec,z⟩
   ·have:X.env.scope.names.lookup x=some .local:=l.1;rcases hkd with q|q<;>(dsimp only at q;rw[this]at q;cases q)
   ·obtain⟨c',ec'⟩:=cl2 _ (ofl x fr) rfl;have:=cl1 _ _ ec';dsimp only at this ec';rw[ec]at this;cases this;obtain⟨o,ho,hd⟩:=z;exact⟨c,ec',o,hk c o ho,hd⟩
 ·obtain⟨v,o,ho,hd⟩:=I.cell x c (cl1 x c e);exact⟨v,o,hk c o ho,hd⟩
 ·obtain⟨e,n,ne,nf,d⟩:=I.pin p hp;refine⟨hk _ _ e,n,lt _ _ e,λz=>?_,d⟩;rcases QQ.mp (I.stkSub _ z)with q|q
  ·exact ne q
  ·exact nf q
 ·rw[Ql,QE,I.len];exact hl.symm
section
variable{prog:Up}{w:World}{A:Around}{R:Result->Uo->Prop}{s:Uo}
end
noncomputable abbrev nox:Um->Uo->Prop:=λ_ _=>False
def RT(prog:Up)(w:World)(A:Around)(tg:Us)(ifs:List Us)(env:Env)(it:Um)(code:Code)(W:(Uo->Prop)->Uo->Prop):Prop:=
 ∀(R:Result->Uo->Prop)(I:Nat->Uo->Prop)(n:Nat)(s:Uo),I n s ->
  (∀n s,I n s->Uu (model prog w) A (pyNext it) (λr s₁=>match r with
   |none=>R (.ok .next) s₁
   |some v=>Uu (model prog w) A (letOwnedTupleGo tg it v) (λ_ s₁'=>Uu (model prog w) A (assign tg env v) (λ_ s₂=>
     Uu (model prog w) A (forIn ifs true λc r=>if r=true then do let ok ←isTrue c env (eval c env);pure (ForInStep.yield ok)else pure (ForInStep.yield r)) (λok s₃=>
      if ok=true then W (λs₅=>∃m,m<n/\I m s₅) s₃ else ∃m,m<n/\I m s₃) nox s₂) nox s₁') nox s₁) nox s)->codeAny (model prog w) A code R s
section
variable{prog:Up}{w:World}{A:Around}{elt tg i:Us}{ifs:List Us}{gens:List Comprehension}{scope:Scope}{pos:Pos}{it acc:Um}{env:Env}{j:Nat}
theorem qF(hg:gens[j]?=some ⟨tg,i,ifs,0⟩)(hn:gens[j+1]?=none):RT prog w A tg ifs env it (.compLoop (.ListComp elt gens scope pos) j it acc env)
  (λQ s=>Uu (model prog w) A (eval elt env) (λx s₄=>Uu (model prog w) A (call (.builtin "list.append") [acc,x]) (λ_ s₅=>Q s₅) nox s₄) nox s):=by
 intro R I n s h turn;refine codeAny_loop rfl I (λn s hI=>?_) n h;show Uu _ A ((compTurn (.ListComp elt gens scope pos) j it acc env).onRaise (λx=>do noteFrame x env;theTreesLotGoes x)) _ _ s;refine wpAny_noted ?_;unfold compTurn;dsimp only;simp only[hg,hn];refine Qd (Jr (Qd (QG (turn n s hI) (λr s₁ h₁=>?_) λ_ _ h'=>h'.elim)));cases r with
 |none=>exact Qh h₁
 |some v=>
  refine Qd (QG h₁ (λ_ s₁' h₁'=>?_) λ_ _ h'=>h'.elim);refine Qd (QG h₁' (λ_ s₂ h₂=>Qd (QG h₂ (λok s₃ h₃=>?_) λ_ _ h'=>h'.elim)) λ_ _ h'=>h'.elim);cases ok with
  |false=>exact Qh ⟨rfl,h₃⟩
  |true=>exact Qd (Qd (QG h₃ (λx s₄ h₄=>Qd (QG h₄ (λ_ s₅ h₅=>Qh (Qh ⟨rfl,h₅⟩)) λ_ _ h'=>h'.elim)) λ_ _ h'=>h'.elim))
theorem qE{tg1 i1:Us}{ifs1:List Us}(hg:gens[j]?=some ⟨tg,i,ifs,0⟩)(hn:gens[j+1]?=some ⟨tg1,i1,ifs1,0⟩)(hs:∀x,UL i1 env x=pure x):RT prog w A tg ifs env it (.compLoop (.ListComp elt gens scope pos) j it acc env)
  (λQ s=>Uu (model prog w) A (eval i1 env) (λx s₄=>Uu (model prog w) A (pyIter x) (λit1 s₅=>codeAny (model prog w) A (.compStart (.ListComp elt gens scope pos) (j+1) it1 acc env)
   (λr s₆=>match r with | .ok _=>Q s₆ | .error _=>False) s₅) nox s₄) nox s):=by
 intro R I n s h turn;refine codeAny_loop rfl I (λn s hI=>?_) n h;show Uu _ A ((compTurn (.ListComp elt gens scope pos) j it acc env).onRaise (λx=>do noteFrame x env;theTreesLotGoes x)) _ _ s;refine wpAny_noted ?_;unfold compTurn;dsimp only;simp only[hg,hn];refine Qd (Jr (Qd (QG (turn n s hI) (λr s₁ h₁=>?_) λ_ _ h'=>h'.elim)));cases r with
 |none=>exact Qh h₁
 |some v=>
  refine Qd (QG h₁ (λ_ s₁' h₁'=>?_) λ_ _ h'=>h'.elim);refine Qd (QG h₁' (λ_ s₂ h₂=>Qd (QG h₂ (λok s₃ h₃=>?_) λ_ _ h'=>h'.elim)) λ_ _ h'=>h'.elim);cases ok with
  |false=>exact Qh ⟨rfl,h₃⟩
  |true=>
   refine Qd (QG h₃ (λx s₄ h₄=>Qd (Jr (Qd (wpAny_of_eq (hs x) (Qd (JC (QG h₄ (λit1 s₅ h₅=>?_) λ_ _ h'=>h'.elim))))))) λ_ _ h'=>h'.elim);refine Qd (wpAny_runOwn (codeAny_mono h₅ λr s₆ h₆=>?_));cases r with
   |ok f=>exact Qh ⟨rfl,h₆⟩
   |error x=>exact h₆.elim
theorem ku{R:Result->Uo->Prop}{s:Uo}(hg:gens[j]?=some ⟨tg,i,ifs,0⟩)
  (h0:codeAny (model prog w) A (.compLoop (.ListComp elt gens scope pos) j it acc env) R s)
  (h:Uu (model prog w) A (pyIter it) (λit' s'=>codeAny (model prog w) A (.compLoop (.ListComp elt gens scope pos) j it' acc env) R s') nox s) :
  codeAny (model prog w) A (.compStart (.ListComp elt gens scope pos) j it acc env) R s:=by
 refine codeAny_of_tree ?_;show Uu _ _ ((compStart (.ListComp elt gens scope pos) j it acc env).onRaise (λx=>do noteFrame x env;standAt theWindowsPlace)) _ _ s;refine wpAny_notedAt ?_;unfold compStart;have hc:(clausesOf (.ListComp elt gens scope pos))[j]?=some ⟨tg,i,ifs,0⟩:=hg;simp only[hc];show Uu _ _ (ask >>= _) _ _ s;refine Qd (wpAny_askSetting (wpAny_ite ?_));split
 ·first
   |exact Qd (Qh (Qh (And.intro rfl h0)))
   |exact Qh (And.intro rfl h0)
 ·first
   |exact Qd (wpAny_rule (Qd (Jr (Qd (QG h (λit' s' h'=>Qh (And.intro rfl h')) λ_ _ x=>x.elim)))))
   |(refine Qd (wpAny_rule ?_);show Uu _ _ (standAt _ >>= _) _ _ s;exact Qd (Jr (Qd (QG h (λit' s' h'=>Qh (And.intro rfl h')) λ_ _ x=>x.elim))))
end
end L2
namespace DL
open PySem PySem.Spec L2
open PyProof.Rows hiding St
noncomputable def Xi:Option Sl->Option Sl
 |some (.own _)=>none
 |some (.deep _ _)=>none
 |x=>x
noncomputable def Kn(Z:UJ):UJ:=Z.map Xi
theorem qD{Z:UJ}{i:Nat}{d:D}(h:(Kn Z)[i]?=some (some (.pub d))):Z[i]?=some (some (.pub d)):=by
 unfold Kn at h;rw[Qe]at h;cases e:Z[i]? with
 |none=>rw[e]at h;cases h
 |some o=>
  rw[e]at h;cases o with
  |none=>cases h
  |some sl=>cases sl with
   |pub d'=>cases h;rfl
   |own ds=>cases h
   |deep p d'=>cases h
theorem Wz{Z:UJ}{i:Nat}{ds:List D}(h:(Kn Z)[i]?=some (some (.own ds))):False:=by
 unfold Kn at h;rw[Qe]at h;cases e:Z[i]? with
 |none=>rw[e]at h;cases h
 |some o=>
  rw[e]at h;cases o with
  |none=>cases h
  |some sl=>cases sl with
   |pub d'=>cases h
   |own ds=>cases h
   |deep p d'=>cases h
theorem NA{Z:UJ}{i:Nat}{p:Pat}{d:D}(h:(Kn Z)[i]?=some (some (.deep p d))):False:=by
 unfold Kn at h;rw[Qe]at h;cases e:Z[i]? with
 |none=>rw[e]at h;cases h
 |some o=>
  rw[e]at h;cases o with
  |none=>cases h
  |some sl=>cases sl<;>cases h
noncomputable def K2(s:D->UJ->Option UJ)(t:M Bool)(g:M D):List D->UJ->List D->Option (List D)
 |[],_,es=>some es
 |d::r,Z,es=>match s d Z with
  |none=>none
  |some Z1=>match t Z1 with
   |.bad=>none
   |.ok b Z2=>if b=true then(match g Z2 with
     |.bad=>none
     |.ok e Z3=>if es.length<1000000 then K2 s t g r (Kn Z3) (es++[e])else none)
    else K2 s t g r (Kn Z2) es
noncomputable def Zx(f:M (List D))(k:Nat)(s:D->UJ->Option UJ)(t:M Bool)(g:M D):M (List D):=λZ=>match f Z with
 |.bad=>.bad
 |.ok ds Z1=>match K2 s t g ds (Kn Z1++Uy k none) []with
  |none=>.bad
  |some es=>.ok es Z1
def Y7(X:Cx)(ifs:List Us)(t:TT):Prop:=
 ∀(pins:List (Uq×Obj))(s:Uo)(σ:St)(H:Hp)(Q:Bool->Hp->Prop),Inv X pins σ H s->t σ H Q ->
  Uu (model X.prog X.w) X.A (forIn ifs true λc r=>if r=true then do let ok ←isTrue c X.env (eval c X.env);pure (ForInStep.yield ok)else pure (ForInStep.yield r)) (TP X pins σ Q) X.xe s
section
variable{X:Cx}{B G0:Hp}
theorem DC:Y7 X [] (tBo X.K B G0 (UQ true)):=λpins s σ H Q I ⟨G,Z,k,a⟩=>wpAny_tests_nil ⟨H,I,a true G H k (.refl _) rfl⟩
theorem Lk{c:Us}{t:M Bool}(h:PT X c (tBo X.K B G0 t)):Y7 X [c] (tBo X.K B G0 t):=λpins s σ H Q I q=>wpAny_tests_one (h pins s σ H Q I q)
theorem EOk.rebase{K:Frag}{G H:Hp}{σ:St}{Z:UJ}(k:EOk K B G0 G H σ Z):EOk K H G G H σ (Kn Z) where
 bh:=.refl _
 gh:=k.gh
 g0:=.refl _
 np:=λ_ _ _ n=>n
 len:=by unfold Kn;rw[Qb];exact k.len
 pub:=λi d q=>k.pub i d (qD q)
 own:=λi ds q=>(Wz q).elim
 sep:=λi j a ds es q=>(Wz q).elim
 dp:=.of (λ_ _ _ q=>NA q) λ_ _ q=>Wz q
theorem EOk.more{K:Frag}{G H:Hp}{σ:St}{Z:UJ}(k:EOk K H G G H σ (Kn Z))(n:Nat):EOk K H G G H (σ++Uy n none) (Kn Z++Uy n none) where
 bh:=.refl _
 gh:=k.gh
 g0:=.refl _
 np:=λ_ _ _ n=>n
 len:=by rw[Ql,Ql,k.len,QE,QE]
 pub:=λi d q=>by
  by_cases hi:i<(Kn Z).length
  ·rw[Qv hi]at q;rw[Qv (by rw[←k.len];exact hi)];exact k.pub i d q
  ·rw[Qw (Je hi),QA]at q;split at q<;>cases q
 own:=λi ds q=>by
  by_cases hi:i<(Kn Z).length
  ·rw[Qv hi]at q;exact(Wz q).elim
  ·rw[Qw (Je hi),QA]at q;split at q<;>cases q
 sep:=λi j a ds es q=>by
  by_cases hi:i<(Kn Z).length
  ·rw[Qv hi]at q;exact(Wz q).elim
  ·rw[Qw (Je hi),QA]at q;split at q<;>cases q
 dp:=by
  refine .of (λi p d q=>?_) λi ds q=>?_
  ·by_cases hi:i<(Kn Z).length
   ·rw[Qv hi]at q;exact NA q
   ·rw[Qw (Je hi),QA]at q;split at q<;>cases q
  ·by_cases hi:i<(Kn Z).length
   ·rw[Qv hi]at q;exact Wz q
   ·rw[Qw (Je hi),QA]at q;split at q<;>cases q
theorem EOk.beside{K:Frag}{G H:Hp}{σ:St}{Z:UJ}{a:Uq}{o:HO}(k:EOk K B G0 G H σ Z)(hg:G a=none):EOk K (upd H a o) G G (upd H a o) σ (Kn Z) where
 bh:=.refl _
 gh:=λb u e=>by rw[KN (λz=>by subst z;rw[hg]at e;cases e)];exact k.gh b u e
 g0:=.refl _
 np:=λ_ _ _ n=>n
 len:=k.rebase.len
 pub:=k.rebase.pub
 own:=λi ds q=>(Wz q).elim
 sep:=λi j a ds es q=>(Wz q).elim
 dp:=.of (λ_ _ _ q=>NA q) λ_ _ q=>Wz q
theorem lim1:1000000<=Ut:=lim
noncomputable def P1:Option Sl->Option Sl
 |some (.own ds)=>some (.pub (.list ds))
 |some (.deep _ d)=>some (.pub d)
 |x=>x
noncomputable def ZH(Z:UJ):UJ:=Z.map P1
theorem Hk{Z:UJ}{i:Nat}{d:D}(h:(ZH Z)[i]?=some (some (.pub d))):Z[i]?=some (some (.pub d))∨(∃ds,d=.list ds/\Z[i]?=some (some (.own ds))) ∨ ∃p,Z[i]?=some (some (.deep p d)):=by
 unfold ZH at h;rw[Qe]at h;cases e:Z[i]? with
 |none=>rw[e]at h;cases h
 |some o=>
  rw[e]at h;cases o with
  |none=>cases h
  |some sl=>cases sl with
   |pub d'=>cases h;exact .inl rfl
   |own ds=>cases h;exact .inr (.inl ⟨ds,rfl,rfl⟩)
   |deep p d'=>cases h;exact .inr (.inr ⟨p,rfl⟩)
theorem Ri{Z:UJ}{i:Nat}{ds:List D}(h:(ZH Z)[i]?=some (some (.own ds))):False:=by
 unfold ZH at h;rw[Qe]at h;cases e:Z[i]? with
 |none=>rw[e]at h;cases h
 |some o=>
  rw[e]at h;cases o with
  |none=>cases h
  |some sl=>cases sl with
   |pub d'=>cases h
   |own ds=>cases h
   |deep p d'=>cases h
theorem GA{Z:UJ}{i:Nat}{p:Pat}{d:D}(h:(ZH Z)[i]?=some (some (.deep p d))):False:=by
 unfold ZH at h;rw[Qe]at h;cases e:Z[i]? with
 |none=>rw[e]at h;cases h
 |some o=>
  rw[e]at h;cases o with
  |none=>cases h
  |some sl=>cases sl<;>cases h
noncomputable def flat:D->Bool
 |.none=>true | .bool _=>true | .int _=>true | .str _=>true|_=>false
theorem Rep.flat{K:Frag}{G G':Hp}{v:V}{d:D}(r:Rep K G v d)(h:DL.flat d=true):Rep K G' v d:=by
 cases r with
 |non=>exact .non
 |bl b=>exact .bl b
 |int i=>exact .int i
 |str x=>exact .str x
 |lst _ _=>cases h
 |tup _ _=>cases h
 |dic _=>cases h
 |exc _ _ _ _=>cases h
 |dct _ _ _ _ _=>cases h
 |dtt _ _ _ _=>cases h
theorem Reps.flat{K:Frag}{G G':Hp}:∀{vs:List V}{ds:List D},Reps K G vs ds->ds.all DL.flat=true->Reps K G' vs ds
 |_,_,.nil,_=>.nil
 |_,_,.cons r t,h=>by rw[List.all_cons,Jm]at h;exact .cons (r.flat h.1) (Reps.flat t h.2)
theorem EOk.lend{K:Frag}{B G0 G H:Hp}{σ:St}{Z:UJ}{D:Uq}{o:HO}(k:EOk K B G0 G H σ Z)(hD:H D=none)(n:Nat):EOk K (upd H D o) H H (upd H D o) (σ++Uy n none) (ZH Z++Uy n none) where
 bh:=.refl _
 gh:=Zq hD
 g0:=.refl _
 np:=λ_ _ _ n=>n
 len:=by unfold ZH;rw[Ql,Ql,Qb,k.len,QE,QE]
 pub:=λi d q=>by
  have hl:(ZH Z).length=Z.length:=by unfold ZH;rw[Qb]
  by_cases hi:i<(ZH Z).length
  ·rw[Qv hi]at q;rw[Qv (by rw[←k.len,←hl];exact hi)];rcases Hk q with e|⟨ds,rfl,e⟩|⟨p,e⟩
   ·obtain⟨v,h1,h2⟩:=k.pub i d e;exact⟨v,h1,h2.mono k.gh⟩
   ·obtain⟨a,vs,h1,h2,h3,h4,h5⟩:=k.own i ds e;exact⟨.ref a,h1,.lst (SqL.of h4) (h5.mono k.gh)⟩
   ·obtain⟨ω,k1,k2⟩:=k.dp;obtain⟨v,fp,s,r,_⟩:=k1 i p d e;exact⟨v,s,r.rep k.gh⟩
  ·rw[Qw (Je hi),QA]at q;split at q<;>cases q
 own:=λi ds q=>by
  by_cases hi:i<(ZH Z).length
  ·rw[Qv hi]at q;exact(Ri q).elim
  ·rw[Qw (Je hi),QA]at q;split at q<;>cases q
 sep:=λi j a ds es q=>by
  by_cases hi:i<(ZH Z).length
  ·rw[Qv hi]at q;exact(Ri q).elim
  ·rw[Qw (Je hi),QA]at q;split at q<;>cases q
 dp:=by
  refine .of (λi p d q=>?_) λi ds q=>?_
  ·by_cases hi:i<(ZH Z).length
   ·rw[Qv hi]at q;exact GA q
   ·rw[Qw (Je hi),QA]at q;split at q<;>cases q
  ·by_cases hi:i<(ZH Z).length
   ·rw[Qv hi]at q;exact Ri q
   ·rw[Qw (Je hi),QA]at q;split at q<;>cases q
noncomputable def RF(f:M (List D))(k:Nat)(s:D->UJ->Option UJ)(t:M Bool)(g:M D):M (List D):=λZ=>match f Z with
 |.bad=>.bad
 |.ok ds Z1=>match K2 s t g ds (ZH Z1++Uy k none) []with
  |none=>.bad
  |some es=>if es.all flat=true then .ok es Z1 else .bad
end
noncomputable def YO(s:D->UJ->Option UJ)(t:M Bool)(g:M D):List D->UJ->List D->Option (List D×UJ)
 |[],Z,es=>some (es,Z)
 |d::r,Z,es=>match s d Z with
  |none=>none
  |some Z1=>match t Z1 with
   |.bad=>none
   |.ok b Z2=>if b=true then(match g Z2 with
     |.bad=>none
     |.ok e Z3=>if es.length<1000000 then YO s t g r (Kn Z3) (es++[e])else none)
    else YO s t g r (Kn Z2) es
noncomputable def XT(s0:D->UJ->Option UJ)(t0:M Bool)(f1:M (List D))(s1:D->UJ->Option UJ)(t1:M Bool)(g:M D):List D->UJ->List D->Option (List D)
 |[],_,es=>some es
 |d::r,Z,es=>match s0 d Z with
  |none=>none
  |some Z1=>match t0 Z1 with
   |.bad=>none
   |.ok b Z2=>if b=true then(match f1 Z2 with
     |.bad=>none
     |.ok ds Z3=>match YO s1 t1 g ds (Kn Z3) es with
      |none=>none
      |some (es',Z4)=>XT s0 t0 f1 s1 t1 g r Z4 es')
    else XT s0 t0 f1 s1 t1 g r (Kn Z2) es
noncomputable def RE(f:M (List D))(k:Nat)(s:D->UJ->Option UJ)(t:M Bool)(f1:M (List D))(s1':D->UJ->Option UJ)(t1':M Bool)(g:M D):M (List D):=λZ=>match f Z with
 |.bad=>.bad
 |.ok ds Z1=>match XT s t f1 s1' t1' g ds (Kn Z1++Uy k none) []with
  |none=>.bad
  |some es=>.ok es Z1
noncomputable def Xc(s0:D->UJ->Option UJ)(t0:M Bool)(f1:M (List D))(Rd:List D->UJ->List D->Option (List D×UJ)):List D->UJ->List D->Option (List D×UJ)
 |[],Z,es=>some (es,Z)
 |d::r,Z,es=>match s0 d Z with
  |none=>none
  |some Z1=>match t0 Z1 with
   |.bad=>none
   |.ok b Z2=>if b=true then(match f1 Z2 with
     |.bad=>none
     |.ok ds Z3=>match Rd ds (Kn Z3) es with
      |none=>none
      |some (es',Z4)=>Xc s0 t0 f1 Rd r Z4 es')
    else Xc s0 t0 f1 Rd r (Kn Z2) es
noncomputable def Tf(Rd:List D->UJ->List D->Option (List D×UJ))(ds:List D)(Z:UJ)(es:List D):Option (List D):=(Rd ds Z es).map (·.1)
noncomputable def RD(f:M (List D))(k:Nat)(s:D->UJ->Option UJ)(t:M Bool)(f1:M (List D))(s1':D->UJ->Option UJ)(t1':M Bool)(fx2:M (List D))(s2':D->UJ->Option UJ)(t2':M Bool)(g:M D):M (List D):=λZ=>match f Z with
 |.bad=>.bad
 |.ok ds Z1=>match Tf (Xc s t f1 (Xc s1' t1' fx2 (YO s2' t2' g))) ds (Kn Z1++Uy k none) []with
  |none=>.bad
  |some es=>.ok es Z1
abbrev RdB:=UJ->List D->Option (List D×UJ)
noncomputable def rL(g:M D):RdB:=λZ es=>match g Z with
 |.bad=>none
 |.ok e Z3=>if es.length<1000000 then some (es++[e],Kn Z3)else none
noncomputable def cT(s:D->UJ->Option UJ)(t:M Bool)(rd:RdB):List D->UJ->List D->Option (List D×UJ)
 |[],Z,es=>some (es,Z)
 |d::r,Z,es=>match s d Z with
  |none=>none
  |some Z1=>match t Z1 with
   |.bad=>none
   |.ok b Z2=>if b=true then(match rd Z2 es with
     |none=>none
     |some (es',Z')=>cT s t rd r Z' es')
    else cT s t rd r (Kn Z2) es
noncomputable def rN(f:M (List D))(s:D->UJ->Option UJ)(t:M Bool)(rd:RdB):RdB:=λZ es=>match f Z with
 |.bad=>none
 |.ok ds Z3=>cT s t rd ds (Kn Z3) es
structure Left(Y:Cx)(D':Uq)(pins:List (Uq×Obj))(H G:Hp)(es':List D)(Z':UJ)(σ':St)(H' G':Hp)(vs':List V)(s':Uo):Prop where
 inv:Inv Y pins σ' H' s'
 eok:EOk Y.K H' G' G' H' σ' Z'
 hh:∀a o,a≠D'->H a=some o->H' a=some o
 gg:Same G G'
 np:∀a(u:MO),a≠D'->H a=some u.ho->G a=none->G' a=none
 hd:H' D'=some (.lst vs')
 gd:G' D'=none
 rp:Reps Y.K G' vs' es'
def RA(Y:Cx)(D':Uq)(W:(Uo->Prop)->Uo->Prop)(rd:RdB):Prop:=
 ∀(pins:List (Uq×Obj))(sh:Uo)(σ:St)(B1 G1 H G:Hp)(Z Z':UJ)(vs:List V)(es es':List D)(Q:Uo->Prop),
  Inv Y pins σ H sh->EOk Y.K B1 G1 G H σ Z->B1 D'=some (.lst vs)->G1 D'=none->Reps Y.K G1 vs es->rd Z es=some (es',Z') ->
  (∀σ' H' G' vs' s',Left Y D' pins B1 G1 es' Z' σ' H' G' vs' s'->Q s')->W Q sh
section
variable{Y:Cx}{D':Uq}
theorem qC{elt:Us}{g:M D}(hx:Y.xe=nox)(he:∀B1 G1,PE Y elt (tD Y.K B1 G1 g)) :
  RA Y D' (λQ s=>Uu (model Y.prog Y.w) Y.A (eval elt Y.env) (λx s₄=>Uu (model Y.prog Y.w) Y.A (call (.builtin "list.append") [.ref D',x]) (λ_ s₅=>Q s₅) nox s₄) nox s) (rL g):=by
 intro pins sh σ B1 G1 H G Z Z' vs es es' Q I k hD gD r z fin;unfold rL at z;cases zg:g Z with
 |bad=>rw[zg]at z;cases z
 |ok e Z4=>
 rw[zg]at z;dsimp only at z;split at z
 ·rename_i hle;cases z;have h:=he B1 G1 pins sh σ H (λv H8=>∃G8,EOk Y.K B1 G1 G8 H8 σ Z4/\Rep Y.K G8 v e) I ⟨G,Z,k,by unfold aft;rw[zg];exact λv G8 H8 k8 _ q=>⟨G8,k8,q⟩⟩;rw[hx]at h;refine thn h λev s8 ⟨v,H8,I8,rv,G8,k8,r8⟩=>?_;have h2:=Hl pins s8 σ H8 (.ref D') [v] (.ref D') [ev] (λ_ H9=>H9=upd H8 D' (.lst (vs++[v]))) I8 rfl (.cons rv .nil) ⟨D',vs,v,rfl,rfl,k8.bh _ _ hD,by have:=lim1;rw[r.length];omega,rfl⟩
  rw[hx]at h2;refine thn h2 λ_ s9 ⟨_,H9,I9,_,e9⟩=>?_;subst e9;have g8:=k8.np _ (.l _) hD gD;exact fin σ _ G8 _ s9 ⟨I9,k8.beside g8,λa o z q=>by rw[KN z];exact k8.bh a o q,k8.g0,λa o _ q w=>k8.np a o q w,Zf,g8,(r.mono k8.g0).append (.cons r8 .nil)⟩
 ·cases z
theorem Lx{tg:Us}{ifs:List Us}{code:Code}{W:(Uo->Prop)->Uo->Prop}{s:D->UJ->Option UJ}{t:M Bool}{rd:RdB}{it:Uq}(hx:Y.xe=nox)(hc:Y.calm=true)(rule:RT Y.prog Y.w Y.A tg ifs Y.env (.ref it) code W)
  (hg:∀B1 G1,PG Y tg (tG Y.K B1 G1 s)) (ht:∀B1 G1,Y7 Y ifs (tBo Y.K B1 G1 t)) (hb:RA Y D' W rd)
  {pins:List (Uq×Obj)} {sh:Uo} {σ:St} {H G:Hp} {Z ZF:UJ} {fp:List Uq} {tn:Nat->Heap->Prop} {J:It} {ds es esF:List D} {vs:List V} {R:Result->Uo->Prop}
  (I:Inv Y pins σ H sh) (T:Turn Y.prog Y.w Y.K tg J fp it tn) (st:tn 0 sh.heap) (hf:∀b∈fp,ZB Y pins H b)
  (k:EOk Y.K H G G H σ Z) (its:Xj Y.K J ds G) (hD:H D'=some (.lst vs)) (gD:G D'=none) (r:Reps Y.K G vs es) (zl:cT s t rd ds Z es=some (esF,ZF))
  (hfin:∀σ' H' G' vs' s',Left Y D' pins H G esF ZF σ' H' G' vs' s'->R (.ok .next) s'):codeAny (model Y.prog Y.w) Y.A code R sh:=by
 have stat:∀{H':Hp},(∀b∈fp,H' b=none)->∀b∈fp,ZB Y pins H' b:=λhn b hb=>⟨hn b hb,(hf b hb).2⟩
 refine rule R (λn s'=>∃i σ' H' G' Z' vs' es',n=ds.length-i/\tn i s'.heap/\(∀b∈fp,H' b=none)/\Left Y D' pins H G es' Z' σ' H' G' vs' s'/\cT s t rd (ds.drop i) Z' es'=some (esF,ZF)) ds.length sh
  ⟨0,σ,H,G,Z,vs,es,rfl,st,λb hb=>(hf b hb).1,⟨I,k,λ_ _ _ q=>q,.refl _,λ_ _ _ _ n=>n,hD,gD,r⟩,by rw[Ui];exact zl⟩ ?_
 rintro n s' ⟨i,σ',H',G',Z',vs',es',rfl,tn',fr',⟨I',k',sh',sg',np',hD',gD',r'⟩,zc⟩;by_cases hlt:i<ds.length
 ·rw[Jd hlt,cT]at zc;cases zs:s ds[i] Z' with
  |none=>rw[zs]at zc;cases zc
  |some Z2=>
  rw[zs]at zc;dsimp only at zc;cases zt:t Z2 with
  |bad=>rw[zt]at zc;cases zc
  |ok b Z3=>
  rw[zt]at zc;dsimp only at zc;refine thn (T.item Y rfl rfl rfl hc i pins s' σ' H' nox I' (stat fr') tn' (its.go i G' H' sg' k'.gh hlt)) λrr s4 ⟨u,hr,h4⟩=>?_;subst hr;refine thn h4 λ_ s5 ⟨x,H5,I5,r5,y5,st5,fr5⟩=>?_
  obtain⟨G5,e5,rx⟩:=its.yld i G' H' x H5 ds[i] sg' k'.gh (Qf hlt) y5;have h6:=hg H' G' _ s5 σ' H5 x u (λσ6 H6=>∃G6,EOk Y.K H' G' G6 H6 σ6 Z2) (I5.pinned (stat fr5) (T.obj _ _ st5)) r5 ⟨G5,Z',ds[i],Z2,k'.ext e5,rx,zs,λσ6 G6 H6 k6 _=>⟨G6,k6⟩⟩;rw[hx]at h6;refine thn h6 λ_ s6 ⟨σ6,H6,I6,G6,k6⟩=>?_;have h7:=ht H' G' _ s6 σ6 H6 (λc H7=>c=b/\∃G7,EOk Y.K H' G' G7 H7 σ6 Z3) I6 ⟨G6,Z2,k6,by unfold aft;rw[zt];exact λc G7 H7 k7 _ q=>⟨q,G7,k7⟩⟩
  rw[hx]at h7;refine thn h7 λok s7 ⟨H7,I7,hb7,G7,k7⟩=>?_;subst hb7
  have again:∀{H9:Hp}{σ9:St}{s9:Uo},Inv Y (pins++RH fp s5.heap) σ9 H9 s9->Inv Y pins σ9 H9 s9/\tn (i+1) s9.heap/\∀b∈fp,H9 b=none:=λ{H9 σ9 s9} I9=>by refine⟨I9.unpinned,T.keep _ _ _ st5 λb hb o e=>(I9.pin (b,o) (QJ _ (QJ _ (PR hb e)))).1,λb hb=>?_⟩;obtain⟨o,e,d⟩:=T.obj _ _ st5 b hb;exact(I9.pin (b,o) (QJ _ (QJ _ (PR hb e)))).2.1
  have lt:ds.length-(i+1)<ds.length-i:=Nat.sub_lt_sub_left hlt (Ua i);cases ok with
  |false=>rw[Qz (by decide)]at zc⊢;obtain⟨J1,J2,J3⟩:=again I7;exact⟨_,lt,i+1,σ6,H7,G7,Kn Z3,vs',es',rfl,J2,J3,⟨J1,k7.rebase,λa o z q=>k7.bh a o (sh' a o z q),sg'.trans k7.g0,λa o z q w=>k7.np a o (sh' a _ z q) (np' a o z q w),k7.bh _ _ hD',k7.np _ (.l _) hD' gD',r'.mono k7.g0⟩,zc⟩
  |true=>
   rw[Qp rfl]at zc⊢;cases ze:rd Z3 es' with
   |none=>rw[ze]at zc;cases zc
   |some pr=>
   obtain⟨es1,Z5⟩:=pr;rw[ze]at zc;refine hb _ s7 σ6 H' G' H7 G7 Z3 Z5 vs' es' es1 _ I7 k7 hD' gD' r' ze λσ9 H9 G9 vs9 s9 L=>?_
   obtain⟨J1,J2,J3⟩:=again L.inv;exact⟨_,lt,i+1,σ9,H9,G9,Z5,vs9,es1,rfl,J2,J3,⟨J1,L.eok,λa o z q=>L.hh a o z (sh' a o z q),sg'.trans L.gg,λa o z q w=>L.np a o z (sh' a _ z q) (np' a o z q w),L.hd,L.gd,L.rp⟩,zc⟩
 ·rw[List.drop_eq_nil_of_le (Je hlt),cT]at zc;cases zc;refine thn (T.done Y rfl rfl rfl hc i pins s' σ' H' nox I' (stat fr') tn' (its.stop i G' H' sg' k'.gh (Je hlt))) λrr s4 ⟨hr,I6⟩=>?_
  subst hr;exact hfin σ' H' G' vs' s4 ⟨I6,k',sh',sg',np',hD',gD',r'⟩
theorem qB{elt tg1 i1:Us}{ifs1:List Us}{gens:List Comprehension}{scope:Scope}{pos:Pos}{j:Nat}{W:Um->(Uo->Prop)->Uo->Prop}{f:M (List D)}{s:D->UJ->Option UJ}{t:M Bool}{rd:RdB}(hx:Y.xe=nox)(hc:Y.calm=true)
  (hn:gens[j+1]?=some ⟨tg1,i1,ifs1,0⟩) (rule:∀it1,RT Y.prog Y.w Y.A tg1 ifs1 Y.env it1 (.compLoop (.ListComp elt gens scope pos) (j+1) it1 (.ref D') Y.env) (W it1))
  (hi:∀B1 G1,PI Y tg1 i1 (iD Y.K B1 G1 f)) (hg:∀B1 G1,PG Y tg1 (tG Y.K B1 G1 s)) (ht:∀B1 G1,Y7 Y ifs1 (tBo Y.K B1 G1 t)) (hb:∀it1,RA Y D' (W it1) rd) :
  RA Y D' (λQ s=>Uu (model Y.prog Y.w) Y.A (eval i1 Y.env) (λx s₄=>Uu (model Y.prog Y.w) Y.A (pyIter x) (λit1 s₅=>codeAny (model Y.prog Y.w) Y.A (.compStart (.ListComp elt gens scope pos) (j+1) it1 (.ref D') Y.env)
   (λr s₆=>match r with | .ok _=>Q s₆ | .error _=>False) s₅) nox s₄) nox s) (rN f s t rd):=by
 intro pins sh σ B1 G1 H G Z Z' vs es es' Q I k hD gD r z fin;unfold rN at z;cases zf:f Z with
 |bad=>rw[zf]at z;cases z
 |ok ds Z3=>
 rw[zf]at z;have h:=hi B1 G1 pins sh σ H (λJ1 H8=>∃G8,EOk Y.K B1 G1 G8 H8 σ Z3/\Xj Y.K J1 ds G8) I ⟨G,Z,k,by rw[zf];exact λJ1 G8 H8 k8 _ q=>⟨G8,k8,q⟩⟩;rw[hx]at h;refine thn h λxv s8 h8=>thn h8 λitv s9 h9=>?_
 obtain⟨it1,fp1,tn1,J1,H9,rfl,I9,T1,st9,f9,G9,k9,its9⟩:=h9
 have loop:codeAny (model Y.prog Y.w) Y.A (.compLoop (.ListComp elt gens scope pos) (j+1) (.ref it1) (.ref D') Y.env) (λr s₆=>match r with | .ok _=>Q s₆ | .error _=>False) s9:=
  Lx hx hc (rule (.ref it1)) hg ht (hb _) I9 T1 st9 f9 k9.rebase its9 (k9.bh _ _ hD) (k9.np _ (.l _) hD gD) (r.mono k9.g0) z λσ' H' G' vs' s' L=>
   fin σ' H' G' vs' s' ⟨L.inv,L.eok,λa o z q=>L.hh a o z (k9.bh a o q),k9.g0.trans L.gg,λa o z q w=>L.np a o z (k9.bh a _ q) (k9.np a o q w),L.hd,L.gd,L.rp⟩
 exact ku hn loop (T1.self Y.A 0 _ _ _ st9 loop)
end
def Rz(Y:Cx)(e:Us)(j:Nat)(tg:Us)(ifs:List Us)(rd:RdB):Prop:=
 ∀(D':Uq)(it:Um),∃W,RT Y.prog Y.w Y.A tg ifs Y.env it (.compLoop e j it (.ref D') Y.env) W/\RA Y D' W rd
section
variable{Y:Cx}{elt tg i:Us}{ifs:List Us}{gens:List Comprehension}{scope:Scope}{pos:Pos}{j:Nat}
theorem Hj{g:M D}(hx:Y.xe=nox)(hg:gens[j]?=some ⟨tg,i,ifs,0⟩)(hn:gens[j+1]?=none)(he:∀B1 G1,PE Y elt (tD Y.K B1 G1 g)):Rz Y (.ListComp elt gens scope pos) j tg ifs (rL g):=
 λ_ _=>⟨_,qF hg hn,qC hx he⟩
theorem qA{tg1 i1:Us}{ifs1:List Us}{f:M (List D)}{s:D->UJ->Option UJ}{t:M Bool}{rd:RdB}(hx:Y.xe=nox)(hc:Y.calm=true)(hg:gens[j]?=some ⟨tg,i,ifs,0⟩)(hn:gens[j+1]?=some ⟨tg1,i1,ifs1,0⟩)(hs:∀x,UL i1 Y.env x=pure x)
  (hi:∀B1 G1,PI Y tg1 i1 (iD Y.K B1 G1 f)) (hgt:∀B1 G1,PG Y tg1 (tG Y.K B1 G1 s)) (ht:∀B1 G1,Y7 Y ifs1 (tBo Y.K B1 G1 t)) (hb:Rz Y (.ListComp elt gens scope pos) (j+1) tg1 ifs1 rd):Rz Y (.ListComp elt gens scope pos) j tg ifs (rN f s t rd):=
 λD' _=>⟨_,qE hg hn hs,qB hx hc hn (λit1=>(Classical.choose_spec (hb D' it1)).1) hi hgt ht (λit1=>(Classical.choose_spec (hb D' it1)).2)⟩
end
noncomputable def YD(l:Bool)(Z:UJ):UJ:=match l with|true=>ZH Z|false=>Kn Z
theorem GS{K:Frag}{B G0 G1 H2:Hp}{σ:St}{Z1:UJ}{D:Uq}(l:Bool)(k1:EOk K B G0 G1 H2 σ Z1)(hfr:H2 D=none)(n:Nat) :
  ∃Gb,EOk K (upd H2 D (.lst [])) Gb Gb (upd H2 D (.lst [])) (σ++Uy n none) (YD l Z1++Uy n none)/\Same G1 Gb/\Gb D=none /\
   ∀(G' H':Hp) vs es,(l=true->es.all flat=true)->Same Gb G'->Same H2 H'->Same G' H'->(∀a(u:MO),H2 a=some u.ho->Gb a=none->G' a=none)->G' D=none->Reps K G' vs es->∃Gf,Ext G1 H2 Gf H'/\Gf D=none/\Reps K Gf vs es:=by
 have gD:G1 D=none:=k1.gh.free hfr;cases l with
 |false=>exact⟨G1,(k1.beside gD).more n,.refl _,gD,λG' H' vs es _ g h gh np d r=>⟨G',⟨h,g,gh,np⟩,d,r⟩⟩
 |true=>exact⟨H2,k1.lend hfr n,k1.gh,hfr,λG' H' vs es fl _ h _ _ _ r=>⟨G1,⟨h,.refl _,k1.gh.trans h,λ_ _ _ n=>n⟩,gD,r.flat (fl rfl)⟩⟩
noncomputable def dCG(l:Bool)(f:M (List D))(k:Nat)(s:D->UJ->Option UJ)(t:M Bool)(rd:RdB):M (List D):=λZ=>match f Z with
 |.bad=>.bad
 |.ok ds Z1=>match cT s t rd ds (YD l Z1++Uy k none) []with
  |none=>.bad
  |some (es,_)=>if l=true->es.all flat=true then .ok es Z1 else .bad
theorem Op{l:Bool}{f:M (List D)}{k:Nat}{s:D->UJ->Option UJ}{t:M Bool}{rd:RdB}{Z Z':UJ}{es:List D}(h:dCG l f k s t rd Z=.ok es Z'):∃ds ZF,f Z=.ok ds Z'/\cT s t rd ds (YD l Z'++Uy k none) []=some (es,ZF)/\(l=true->es.all flat=true):=by
 unfold dCG at h;cases zf:f Z with
 |bad=>rw[zf]at h;cases h
 |ok ds Z1=>
 rw[zf]at h;dsimp only at h;cases zl:cT s t rd ds (YD l Z1++Uy k none) []with
 |none=>rw[zl]at h;cases h
 |some pr=>
 obtain⟨esF,ZF⟩:=pr;rw[zl]at h;dsimp only at h;split at h
 ·rename_i hf;cases h;exact⟨ds,ZF,rfl,zl,hf⟩
 ·cases h
section
variable{X:Cx}{B G0:Hp}{KX:XW}
def Yn(X:Cx)(N2:List Str)(scope:Scope)(e tg:Us)(ifs:List Us)(s:D->UJ->Option UJ)(t:M Bool)(rd:RdB):Prop:=
 ∀(cl:List (Str×Uq))(C:Uq)(s₀:Uo)(H₀:Hp)(ex:List Uq),(∀B' G',PG (X.blk N2 scope cl C s₀ H₀ ex) tg (tG X.K B' G' s))/\(∀B' G',Y7 (X.blk N2 scope cl C s₀ H₀ ex) ifs (tBo X.K B' G' t))/\Rz (X.blk N2 scope cl C s₀ H₀ ex) e 0 tg ifs rd
structure SG(SC scope:Scope)(N1 N2:List Str)(k:Nat):Prop where
 b:RU scope.names N1 N2 k=true
 kind:scope.kind=.function
 cell:∀y∈scope.names,y.2≠.cell
 names:∀y∈scope.names,y.2=.local->scope.names.lookup y.1=some .local
 free:∀y∈scope.names,y.2=.free->SC.names.lookup y.1=some .cell∨SC.names.lookup y.1=some .free
theorem O5{l:Bool}{tg elt iter:Us}{ifs:List Us}{gs:List Comprehension}{scope:Scope}{pos pos':Pos}{N2:List Str}{k:Nat}{f:M (List D)}{s:D->UJ->Option UJ}{t:M Bool}{rd:RdB}{use:Option (Um->Sem Unit)}{Qc:Um->Uo->Prop}(hc:X.calm=true)
  (hi:PI X tg iter (iD X.K B G0 f)) (hblk:Yn X N2 scope (.ListComp elt (⟨tg,iter,ifs,0⟩::gs) scope pos) tg ifs s t rd) (hb:SG X.env.scope scope X.N N2 k) (hs:∀x,UL iter X.env x=pure x)
  {pins:List (Uq×Obj)} {s0:Uo} {σ:St} {G H:Hp} {Z Z1 ZF:UJ} {ds esF:List D} (I:Inv X pins σ H s0) (k0:EOk X.K B G0 G H σ Z) (zf:f Z=.ok ds Z1) (zl:cT s t rd ds (YD l Z1++Uy k none) []=some (esF,ZF)) (hfl:l=true->esF.all flat=true)
  (hfin:∀(C D:Uq)(vs:List V)(G' H':Hp)(s4:Uo)(m:Str->Option Um),Inv X pins σ H' s4->s4.heap.Ns C m->H' C=none->C≠X.env.locals->X.s₀.heap.objs.size<=C->(∀x c,X.env.cells.lookup x=some c->c≠C)->(∀p∈X.pn++pins,p.1≠C) ->
   EOk X.K B G0 G' H' σ Z1->Same G G'->NewL X.K B G' H' σ Z1 D vs esF->compPost (model X.prog X.w) X.A X.xe use Qc (.ref D) C (.ok .next) s4) :
  Uu (model X.prog X.w) X.A (comprehension (.ListComp elt (⟨tg,iter,ifs,0⟩::gs) scope pos) scope X.env pos' (newList []) false (eval iter X.env) use) Qc X.xe s0:=by
 obtain⟨cl,hcl,cl1,cl2⟩:=jd (scope:=scope) (env:=X.env) λy hy hf=>I.ok.has y.1 (hb.free y hy hf)
 refine wpAny_comprehension_free (use:=use) rfl hs hcl hb.kind hb.names (thn (hi pins s0 σ H (λJ H1=>∃G1,EOk X.K B G0 G1 H1 σ Z1/\Same G G1/\Xj X.K J ds G1) I ⟨G,Z,k0,by rw[zf];exact λJ G1 H1 k1 s1 it=>⟨G1,k1,s1,it⟩⟩) λv s1 h1=>thn h1 λitv s2 h2=>?_);obtain⟨it,fp,tn,J,H2,rfl,I2,T,st2,f2,G1,k1,sg1,its⟩:=h2;refine wpAny_newObj_type (wpAny_newFunctionEnv hb.cell (by intro y hy;simp at hy) (λh₁ hns₁ hsb₁=>?_) hb.kind);dsimp only at hns₁ hsb₁⊢;have hfr:H2 s2.heap.objs.size=none:=I2.hok.fresh (Qs _)
 have I3:Inv X pins σ (upd H2 s2.heap.objs.size (.lst [])) {s2 with heap:=s2.heap.push {cls:=.type "list", dict:=none,data:=.seq ([]:List Um).toArray}}:=
  I2.laid (t':=s2.toks) (λb u e=>Qm _ e) (Qs _) ⟨JH _,[],0,.nil,Qy _ rfl⟩
 generalize hP:s2.heap.push {cls:=.type "list", dict:=none,data:=.seq ([]:List Um).toArray}=P at I3 hns₁ hsb₁⊢;have old:∀b o,s2.heap.get? b=some o->P.get? b=some o:=λb o e=>hP ▸ Qm _ e;have kept:∀b o,P.get? b=some o->h₁.get? b=some o:=λb o e=>hsb₁.extBut b o (QP (Qi e)) (Qm _ e);have fpo:∀b∈fp,∃o,s2.heap.get? b=some o:=λb hb=>let ⟨o,e,_⟩:=T.obj _ _ st2 b hb;⟨o,e⟩
 have fpD:∀b∈fp,b≠s2.heap.objs.size:=λb hb=>let ⟨o,e⟩:=fpo b hb;QP (Qi e)
 have f3:∀b∈fp,ZB X pins (upd H2 s2.heap.objs.size (.lst [])) b:=λb hb=>⟨by rw[KN (fpD b hb)];exact(f2 b hb).1,(f2 b hb).2⟩
 have I4:=I3.enter (scope:=scope) (cl:=cl) (N2:=N2) (k:=k) (fp:=fp) (t':=s2.toks+([]:List (Str×Um)).length) hb.b hb.kind hb.cell hb.free cl1 cl2 hns₁ kept f3 (λb hb=>let ⟨o,e⟩:=fpo b hb;⟨o,old b o e⟩);dsimp only at I4;obtain⟨Gb,kb,sgb,gbD,ex⟩:=GS l k1 hfr k;have sH:Same H2 (upd H2 s2.heap.objs.size (.lst [])):=Zq hfr;have hD3:upd H2 s2.heap.objs.size (.lst []) s2.heap.objs.size=some (.lst []):=Zf;generalize upd H2 s2.heap.objs.size (.lst [])=H3 at I3 I4 f3 kb sH hD3;generalize s2.heap.objs.size=D at *;have tn0:tn 0 h₁:=T.keep 0 _ _ st2 λb hb o e=>kept b o (old b o e)
 have stat:∀b∈fp,ZB (X.blk N2 scope cl P.objs.size {s2 with heap:=P} H3 fp) pins H3 b:=λb hb=>by
  obtain⟨z0,z1,z2,z3,z4,z5⟩:=f3 b hb;obtain⟨o,e⟩:=fpo b hb;refine⟨z0,QP (Qi (old b o e)),λz=>?_,.inl hb,λx c q=>z4 x c (cl1 x c q),z5⟩;rcases QQ.mp (I3.stkSub b z)with q|q
  ·exact z1 q
  ·exact z2 q
 have neD:∀a o,H2 a=some o->a≠D:=λa o q z=>by subst z;rw[hfr]at q;cases q
 obtain⟨hg,ht,hcl'⟩:=hblk cl P.objs.size {s2 with heap:=P} H3 fp;obtain⟨W,rule,body⟩:=hcl' D (.ref it)
 have loop:=Lx (Y:=X.blk N2 scope cl P.objs.size {s2 with heap:=P} H3 fp) (D':=D) (R:=compPost (model X.prog X.w) X.A X.xe use Qc (.ref D) P.objs.size) rfl hc rule hg ht body I4 T tn0 stat kb
  ⟨λi G H s1 s2 hi=>its.go i G H (sgb.trans s1) s2 hi,λi G H s1 s2 hi=>its.stop i G H (sgb.trans s1) s2 hi,λi G H x H' d s1 s2 e y=>its.yld i G H x H' d (sgb.trans s1) s2 e y⟩ hD3 gbD .nil zl λσ' H' G' vs' s4 L=>by
   obtain⟨m,hm,_⟩:=id L.inv.loc;have I7:Inv X pins σ H' s4:=I3.call' (ch:=fp) L.inv.os L.inv.base L.inv.hok L.inv.bare λb hb=>⟨(f3 b hb).2.2.2.1,(f3 b hb).2.1,(f3 b hb).2.2.2.2.1,(f3 b hb).2.2.2.2.2⟩
   obtain⟨Gf,eF,dF,rF⟩:=ex G' H' vs' esF hfl L.gg (λa o q=>L.hh a o (neD a o q) (sH a o q)) L.eok.gh (λa o q z=>L.np a o (neD a _ q) (sH a _ q) z) L.gd L.rp
   refine hfin P.objs.size D vs' Gf H' s4 m I7 hm L.inv.free (JT I3.lt) I3.sz (λx c e z=>by obtain⟨_,q⟩:=I3.cell x c e;exact absurd q.lt (by rw[z];exact Jo _)) (λp hp z=>by have:=Qi (I3.pin p hp).1;exact absurd this (by rw[z];exact Jo _))
    (k1.ext eF) (sg1.trans eF.g) ⟨k1.bh.free hfr,dF,L.hd,rF,λj es' q z=>?_,λj pt d v fp q s r=>k1.freshD eF.h hfr q s r⟩
   obtain⟨a',ws,h1',h2',h3',h4',h5'⟩:=k1.own j es' q;rw[z]at h1';cases h1';rw[hfr]at h4';cases h4'
 exact codeAny_compStart_list loop (T.self X.A 0 _ _ _ tn0 loop)
theorem GR{l:Bool}{tg elt iter:Us}{ifs:List Us}{gs:List Comprehension}{scope:Scope}{pos:Pos}{N2:List Str}{k:Nat}{f:M (List D)}{s:D->UJ->Option UJ}{t:M Bool}{rd:RdB}(hc:X.calm=true)
  (hi:PI X tg iter (iD X.K B G0 f)) (hblk:Yn X N2 scope (.ListComp elt (⟨tg,iter,ifs,0⟩::gs) scope pos) tg ifs s t rd) (hb:SG X.env.scope scope X.N N2 k) (hs:∀x,UL iter X.env x=pure x:=by intro _;rfl) :
  PE X (.ListComp elt (⟨tg,iter,ifs,0⟩::gs) scope pos) (tL X.K B G0 (dCG l f k s t rd)):=by
 intro pins s0 σ H Q I ⟨G,Z,k0,a⟩;cases z:dCG l f k s t rd Z with
 |bad=>rw[z]at a;exact a.elim
 |ok es Z1=>
 rw[z]at a;obtain⟨ds,ZF,zf,zl,hfl⟩:=Op z;rw[eval_ListComp];refine O5 hc hi hblk hb hs I k0 zf zl hfl λC D vs G' H' s4 m I7 hm hC hL hz hcl hp k' s' n=>?_
 exact⟨m,hm,λh' sb=>⟨.ref D,H',I7.turned (t':=s4.toks) (it:=C) (λb o hb e=>(sb.2 b hb).trans e) hC hL (.inr hz) hcl hp,rfl,a D vs G' H' k' s' n⟩⟩
theorem sD_g{l:Bool}{y:Str}{j:Nat}{py:Pos}{spos:Pos}{tg elt iter:Us}{ifs:List Us}{gs:List Comprehension}{scope:Scope}{pos:Pos}{N2:List Str}{k:Nat}{f:M (List D)}{s:D->UJ->Option UJ}{t:M Bool}{rd:RdB}(hN:X.N.Nodup)(hj:X.N[j]?=some y)(hy:X.env.scope.names.lookup y=some .local)(hc:X.calm=true)
  (hi:PI X tg iter (iD X.K B G0 f)) (hblk:Yn X N2 scope (.ListComp elt (⟨tg,iter,ifs,0⟩::gs) scope pos) tg ifs s t rd) (hb:SG X.env.scope scope X.N N2 k) (hs:∀x,UL iter X.env x=pure x:=by intro _;rfl)
  (hsw:swapsWith (.ListComp elt (⟨tg,iter,ifs,0⟩::gs) scope pos) (some (.Name y py)) spos.line X.env=pure true:=by rfl) :
  PS X (.Assign [.Name y py] (.ListComp elt (⟨tg,iter,ifs,0⟩::gs) scope pos) spos) (tS X.K B G0 KX (K8 j (dCG l f k s t rd))):=by
 intro pins s0 σ H Dn I ⟨G,Z,k0,a⟩;unfold K8 sB at a;cases z:dCG l f k s t rd Z with
 |bad=>rw[z]at a;exact a.elim
 |ok es Z1=>
 rw[z]at a;dsimp only at a;by_cases hl:j<Z1.length
 ·rw[Qp hl]at a;obtain⟨ds,ZF,zf,zl,hfl⟩:=Op z;rw[exec_Assign_Name_used _ _ _ _ hsw];refine Qd (Jr (Qd ?_));show Uu _ X.A (do let _ ←comprehension (.ListComp elt (⟨tg,iter,ifs,0⟩::gs) scope pos) scope X.env _ (newList []) false (eval iter X.env) (some (assign (.Name y py) X.env))) _ _ s0;refine Qd (QG (O5 (use:=some (assign (.Name y py) X.env)) (Qc:=λ_ s'=>SP X pins Dn .next s') hc hi hblk hb hs I k0 zf zl hfl λC D vs G' H' s4 m I7 hm hC hL hz hcl hp k' s' n=>?_) (λ_ s' hq=>Qh (Qh hq)) λ_ _ e=>e);show Uu _ X.A (assign (.Name y py) X.env (.ref D)) _ _ s4;refine wpAny_assign_Name (Ng I7 hN hj (.inl hy) (v:=.ref D) rfl (λs5 I8 ⟨ad,sb,hx⟩=>?_) (.inr hy))
  have hCa:C≠ad:=by
   rcases hx with e|e
   ·rw[e];exact hL
   ·exact Ne.symm (hcl y ad e)
  refine⟨m,hm.sameBut sb hCa,λh' sb'=>⟨_,H',I8.turned (t':=s5.toks) (it:=C) (λb o hb e=>(sb'.2 b hb).trans e) hC hL (.inr hz) hcl hp,?_⟩⟩;exact a _ G' H' (k'.setOwn n hl) s'
 ·rw[Qz hl]at a;exact a.elim
theorem GQ{K:Frag}{f f':M (List D)}(h:∀Z es Z',f Z=.ok es Z'->f' Z=.ok es Z'){σ:St}{H:Hp}{Q:VK}(q:tL K B G0 f σ H Q):tL K B G0 f' σ H Q:=by
 obtain⟨G,Z,k,a⟩:=q;refine⟨G,Z,k,?_⟩;cases z:f Z with
 |bad=>rw[z]at a;exact a.elim
 |ok es Z'=>rw[z]at a;rw[h Z es Z' z];exact a
theorem N8{K:Frag}{f f':M (List D)}{j:Nat}(h:∀Z es Z',f Z=.ok es Z'->f' Z=.ok es Z'){Dn:_}{σ:St}{H:Hp}(q:tS K B G0 KX (K8 j f) Dn σ H):tS K B G0 KX (K8 j f') Dn σ H:=by
 obtain⟨G,Z,k,a⟩:=q;refine⟨G,Z,k,?_⟩;unfold K8 sB at a⊢;cases z:f Z with
 |bad=>rw[z]at a;exact a.elim
 |ok es Z'=>rw[z]at a;rw[h Z es Z' z];exact a
end
theorem Py{s:D->UJ->Option UJ}{t:M Bool}{g:M D}:∀{ds:List D}{Z:UJ}{es esF:List D},K2 s t g ds Z es=some esF->∃ZF,cT s t (rL g) ds Z es=some (esF,ZF)
 |[],Z,es,esF,h=>by rw[K2]at h;cases h;exact⟨Z,rfl⟩
 |d::r,Z,es,esF,h=>by
  rw[K2]at h;rw[cT];cases zs:s d Z with
  |none=>rw[zs]at h;cases h
  |some Z1=>
  rw[zs]at h;dsimp only at h⊢;cases zt:t Z1 with
  |bad=>rw[zt]at h;cases h
  |ok b Z2=>
  rw[zt]at h;dsimp only at h⊢;cases b with
  |false=>exact Py (ds:=r) h
  |true=>
   rw[Qp rfl]at h⊢;unfold rL;cases zg:g Z2 with
   |bad=>rw[zg]at h;cases h
   |ok e Z3=>
   rw[zg]at h;dsimp only at h⊢;split at h
   ·rename_i hl;rw[Qp hl];exact Py (ds:=r) h
   ·cases h
theorem PL{s:D->UJ->Option UJ}{t:M Bool}{g:M D}:∀{ds:List D}{Z:UJ}{es:List D},YO s t g ds Z es=cT s t (rL g) ds Z es
 |[],Z,es=>rfl
 |d::r,Z,es=>by
  rw[YO,cT];cases s d Z with
  |none=>rfl
  |some Z1=>
  dsimp only;cases t Z1 with
  |bad=>rfl
  |ok b Z2=>
  dsimp only;cases b with
  |false=>exact PL (ds:=r)
  |true=>
   rw[Qp rfl,Qp rfl];unfold rL;cases g Z2 with
   |bad=>rfl
   |ok e Z3=>
   dsimp only;split
   ·exact PL (ds:=r)
   ·rfl
theorem PK{s s1:D->UJ->Option UJ}{t t1:M Bool}{f:M (List D)}{Rd:List D->UJ->List D->Option (List D×UJ)}{rd:RdB}(hR:∀ds Z es,Rd ds Z es=cT s1 t1 rd ds Z es) :
  ∀{ds:List D}{Z:UJ}{es:List D},Xc s t f Rd ds Z es=cT s t (rN f s1 t1 rd) ds Z es
 |[],Z,es=>rfl
 |d::r,Z,es=>by
  rw[Xc,cT];cases s d Z with
  |none=>rfl
  |some Z1=>
  dsimp only;cases t Z1 with
  |bad=>rfl
  |ok b Z2=>
  dsimp only;cases b with
  |false=>exact PK hR (ds:=r)
  |true=>
   rw[Qp rfl,Qp rfl];unfold rN;cases f Z2 with
   |bad=>rfl
   |ok ds Z3=>
   dsimp only;rw[hR];cases cT s1 t1 rd ds (Kn Z3) es with
   |none=>rfl
   |some pr=>exact PK hR (ds:=r)
theorem Np{s s1:D->UJ->Option UJ}{t t1:M Bool}{f:M (List D)}{g:M D}:∀{ds:List D}{Z:UJ}{es esF:List D},XT s t f s1 t1 g ds Z es=some esF->∃ZF,cT s t (rN f s1 t1 (rL g)) ds Z es=some (esF,ZF)
 |[],Z,es,esF,h=>by rw[XT]at h;cases h;exact⟨Z,rfl⟩
 |d::r,Z,es,esF,h=>by
  rw[XT]at h;rw[cT];cases zs:s d Z with
  |none=>rw[zs]at h;cases h
  |some Z1=>
  rw[zs]at h;dsimp only at h⊢;cases zt:t Z1 with
  |bad=>rw[zt]at h;cases h
  |ok b Z2=>
  rw[zt]at h;dsimp only at h⊢;cases b with
  |false=>exact Np (ds:=r) h
  |true=>
   rw[Qp rfl]at h⊢;unfold rN;cases zg:f Z2 with
   |bad=>rw[zg]at h;cases h
   |ok ds Z3=>
   rw[zg]at h;dsimp only at h⊢;rw[←PL];cases zl:YO s1 t1 g ds (Kn Z3) es with
   |none=>rw[zl]at h;cases h
   |some pr=>rw[zl]at h;exact Np (ds:=r) h
theorem Lw{f:M (List D)}{k:Nat}{s:D->UJ->Option UJ}{t:M Bool}{g:M D}(Z:UJ)(es:List D)(Z':UJ)(h:Zx f k s t g Z=.ok es Z'):dCG false f k s t (rL g) Z=.ok es Z':=by
 unfold Zx at h;unfold dCG;cases zf:f Z with
 |bad=>rw[zf]at h;cases h
 |ok ds Z1=>
 rw[zf]at h;dsimp only[YD]at h⊢;cases zl:K2 s t g ds (Kn Z1++Uy k none) []with
 |none=>rw[zl]at h;cases h
 |some esF=>
 rw[zl]at h;cases h;obtain⟨ZF,e⟩:=Py zl;rw[e];exact Qp λz=>by cases z
theorem qz{f:M (List D)}{k:Nat}{s:D->UJ->Option UJ}{t:M Bool}{g:M D}(Z:UJ)(es:List D)(Z':UJ)(h:RF f k s t g Z=.ok es Z'):dCG true f k s t (rL g) Z=.ok es Z':=by
 unfold RF at h;unfold dCG;cases zf:f Z with
 |bad=>rw[zf]at h;cases h
 |ok ds Z1=>
 rw[zf]at h;dsimp only[YD]at h⊢;cases zl:K2 s t g ds (ZH Z1++Uy k none) []with
 |none=>rw[zl]at h;cases h
 |some esF=>
 rw[zl]at h;dsimp only at h;split at h
 ·rename_i hf;cases h;obtain⟨ZF,e⟩:=Py zl;rw[e];exact Qp λ_=>hf
 ·cases h
theorem qy{f f1:M (List D)}{k:Nat}{s s1:D->UJ->Option UJ}{t t1:M Bool}{g:M D}(Z:UJ)(es:List D)(Z':UJ)(h:RE f k s t f1 s1 t1 g Z=.ok es Z'):dCG false f k s t (rN f1 s1 t1 (rL g)) Z=.ok es Z':=by
 unfold RE at h;unfold dCG;cases zf:f Z with
 |bad=>rw[zf]at h;cases h
 |ok ds Z1=>
 rw[zf]at h;dsimp only[YD]at h⊢;cases zl:XT s t f1 s1 t1 g ds (Kn Z1++Uy k none) []with
 |none=>rw[zl]at h;cases h
 |some esF=>
 rw[zl]at h;cases h;obtain⟨ZF,e⟩:=Np zl;rw[e];exact Qp λz=>by cases z
theorem qx{f f1 f2:M (List D)}{k:Nat}{s s1 s2:D->UJ->Option UJ}{t t1 t2:M Bool}{g:M D}(Z:UJ)(es:List D)(Z':UJ)(h:RD f k s t f1 s1 t1 f2 s2 t2 g Z=.ok es Z'):dCG false f k s t (rN f1 s1 t1 (rN f2 s2 t2 (rL g))) Z=.ok es Z':=by
 unfold RD at h;unfold dCG;cases zf:f Z with
 |bad=>rw[zf]at h;cases h
 |ok ds Z1=>
 rw[zf]at h;dsimp only[YD,Tf]at h⊢;rw[PK λ_ _ _=>PK λ_ _ _=>PL]at h;cases zl:cT s t (rN f1 s1 t1 (rN f2 s2 t2 (rL g))) ds (Kn Z1++Uy k none) []with
 |none=>rw[zl]at h;cases h
 |some pr=>
 rw[zl]at h;cases h;exact Qp λz=>by cases z
noncomputable def VF(q:Option NameKind->Bool)(SC scope:Scope)(N1 N2:List Str)(k:Nat):Bool:=
 RU scope.names N1 N2 k&&decide (scope.kind=.function)&&scope.names.all λy=>match y.2 with
  |.cell=>false
  |.local=>decide (scope.names.lookup y.1=some .local)
  |.free=>q (SC.names.lookup y.1)
  |_=>true
noncomputable def SF:Option NameKind->Bool
 |some .cell=>true|some .free=>true|_=>false
theorem jc{q:Option NameKind->Bool}{SC SC' scope:Scope}{N1 N2:List Str}{k:Nat}(h:VF q SC scope N1 N2 k=true)(f:∀x,q (SC.names.lookup x)=true->SC'.names.lookup x=some .cell∨SC'.names.lookup x=some .free):SG SC' scope N1 N2 k:=by
 unfold VF at h;rw[Jm,Jm,Q3]at h;obtain⟨⟨h1,h2⟩,h3⟩:=h;refine⟨h1,Qa h2,λy hy e=>?_,λy hy e=>?_,λy hy e=>?_⟩
 ·have:=h3 y hy;rw[e]at this;cases this
 ·have:=h3 y hy;rw[e]at this;exact Qa this
 ·have:=h3 y hy;rw[e]at this;exact f _ this
theorem OJ{SC scope:Scope}{N1 N2:List Str}{k:Nat}(h:VF SF SC scope N1 N2 k=true):SG SC scope N1 N2 k:=jc h λx e=>by
 cases z:SC.names.lookup x with
 |none=>rw[z]at e;cases e
 |some y=>rw[z]at e;cases y<;>first|exact .inl rfl|exact .inr rfl|cases e
section
variable{X:Cx}{B G0:Hp}{KX:XW}
theorem GP{l:Bool}{tg elt iter:Us}{ifs:List Us}{gs:List Comprehension}{scope:Scope}{pos:Pos}{f:M (List D)}{s:D->UJ->Option UJ}{t:M Bool}{rd:RdB}{F:M (List D)}(SC:Scope)(N1 N2:List Str)(k:Nat)(le:∀Z es Z',F Z=.ok es Z'->dCG l f k s t rd Z=.ok es Z')(hc:X.calm=true)
  (hi:PI X tg iter (iD X.K B G0 f)) (hblk:Yn X N2 scope (.ListComp elt (⟨tg,iter,ifs,0⟩::gs) scope pos) tg ifs s t rd) (h1:X.env.scope=SC) (h2:X.N=N1) (hb:VF SF SC scope N1 N2 k=true) (hs:∀x,UL iter X.env x=pure x:=by intro _;rfl) :
  PE X (.ListComp elt (⟨tg,iter,ifs,0⟩::gs) scope pos) (tL X.K B G0 F):=
 Kt (GR hc hi hblk (by rw[h1,h2];exact OJ hb) hs) λ_ _ _ q=>GQ le q
theorem sD_1{l:Bool}{y:Str}{j:Nat}{py:Pos}{spos:Pos}{tg elt iter:Us}{ifs:List Us}{gs:List Comprehension}{scope:Scope}{pos:Pos}{f:M (List D)}{s:D->UJ->Option UJ}{t:M Bool}{rd:RdB}{F:M (List D)}(SC:Scope)(N1 N2:List Str)(k:Nat)(le:∀Z es Z',F Z=.ok es Z'->dCG l f k s t rd Z=.ok es Z')(hN:X.N.Nodup)(hj:X.N[j]?=some y)(hy:X.env.scope.names.lookup y=some .local)(hc:X.calm=true)
  (hi:PI X tg iter (iD X.K B G0 f)) (hblk:Yn X N2 scope (.ListComp elt (⟨tg,iter,ifs,0⟩::gs) scope pos) tg ifs s t rd) (h1:X.env.scope=SC) (h2:X.N=N1) (hb:VF SF SC scope N1 N2 k=true) (hs:∀x,UL iter X.env x=pure x:=by intro _;rfl)
  (hsw:swapsWith (.ListComp elt (⟨tg,iter,ifs,0⟩::gs) scope pos) (some (.Name y py)) spos.line X.env=pure true:=by rfl) :
  PS X (.Assign [.Name y py] (.ListComp elt (⟨tg,iter,ifs,0⟩::gs) scope pos) spos) (tS X.K B G0 KX (K8 j F)):=
 ZA (sD_g hN hj hy hc hi hblk (by rw[h1,h2];exact OJ hb) hs hsw) λ_ _ _ q=>N8 le q
end
theorem Ay{f:M (List D)}{k:Nat}{s s1' s2':D->UJ->Option UJ}{t t1' t2':M Bool}{f1 f2:M (List D)}{g:M D}{Z Z1 Z2:UJ}{ds es:List D}(h1:f Z=.ok ds Z1)(h2:Xc s t f1 (Xc s1' t1' f2 (YO s2' t2' g)) ds (Kn Z1++Uy k none) []=some (es,Z2)) :
  RD f k s t f1 s1' t1' f2 s2' t2' g Z=.ok es Z1:=by
 unfold RD;rw[h1];dsimp only[Tf];rw[h2];rfl
section
variable{X:Cx}{B G0:Hp}{e a b c tg:Us}{pos:Pos}{es rest:List Us}
theorem EOk.given{K:Frag}{G H:Hp}{σ:St}{Z:UJ}{a:Uq}{vs:List V}{ds:List D}(k:EOk K B G0 G H σ Z)(n:NewL K B G H σ Z a vs ds):EOk K B G0 (upd G a (.lst vs)) H σ Z where
 bh:=k.bh
 gh:=λb u q=>by
  by_cases z:b=a
  ·subst z;rw[Zf]at q;cases q;exact n.h
  ·rw[KN z]at q;exact k.gh b u q
 g0:=k.g0.trans (Zq n.g)
 np:=λb o q z=>by
  have zb:b≠a:=λz=>by subst z;rw[n.b]at q;cases q
  rw[KN zb];exact k.np b o q z
 len:=k.len
 pub:=λi d q=>let ⟨v,h1,h2⟩:=k.pub i d q;⟨v,h1,h2.mono (Zq n.g)⟩
 own:=λi ds q=>by
  obtain⟨b,ws,h1,h2,h3,h4,h5⟩:=k.own i ds q;have zb:b≠a:=λz=>by subst z;exact n.f i ds q h1
  exact⟨b,ws,h1,h2,by rw[KN zb];exact h3,h4,h5.mono (Zq n.g)⟩
 sep:=k.sep
 dp:=k.dp.map (λ_ _ _ q=>⟨q,rfl⟩) (λ_ ds q=>⟨ds,q,rfl⟩) λi p d v fp q s r w nn=>⟨r.mono (Zq n.g) (.refl _),λb m=>⟨(w b m).1,by rw[KN (λz=>n.dp i p d v fp q s r (by rw[←z];exact m))];exact(w b m).2⟩⟩
theorem DB{f:M (List D)}(h:PE X e (tL X.K B G0 f)):PE X e (tD X.K B G0 (UZ Uz f)):=
 Kt h λσ H Q ⟨G,Z,k,a⟩=>by
  refine⟨G,Z,k,?_⟩;unfold UZ Kb at a;cases z:f Z with
  |bad=>rw[z]at a;exact a.elim
  |ok ds Z1=>rw[z]at a;intro ad vs G' H' k' s' n;exact a (.ref ad) _ H' (k'.given n) (s'.trans (Zq n.g)) (.lst (SqL.of Zf) (n.r.mono (Zq n.g)))
theorem Br(hc:X.calm=true):Yu X (.builtin "all") (λxs H Q=>∃l,∃bs:List Bool,xs=[.ref l]/\SqL X.K H l (bs.map V.bl)/\Q (.bl (bs.all id)) H):=by
 intro pins s σ H xs us Q I rx h;obtain⟨l,bs,rfl,hq,q⟩:=h;obtain⟨u,rfl,ru⟩:=rx.one;cases ru;obtain⟨its,rv,p,hz⟩:=I.list hq;have hl:=p.isList;have hlt:l<s.heap.objs.size:=by obtain⟨_,e,_⟩:=id hl;exact Qi e
 have key:∀(i:Nat) v,its.toArray[i]?=some v->∃t,bs[i]?=some t/\v=.bool t:=λi v e=>by
  have e:its[i]?=some v:=by simpa using e
  have hi:i<bs.length:=by have:=(Qg.mp e).1;have h2:=rv.length;rw[Qb]at h2;omega
  obtain⟨u,e2,r2⟩:=rv.get (i:=i) (x:=.bl bs[i]) (by rw[Qe,Qf hi];rfl);rw[e]at e2;cases e2;exact⟨bs[i],Qf hi,r2⟩
 refine call_all_walk (JG hl ?_)
 refine⟨s.heap.objs.size,[s.heap.objs.size,l],[s.heap.objs.size],its.toArray.size,_,_,λi=>(bs[i]?).getD true,rfl,Walks.list (A:=X.A.in1) (I.ok.hd hc) _ l (QP hlt) its.toArray,
  ⟨⟨_,Qy _ rfl,rfl,rfl⟩,hl.push _⟩,λi v s' Q' E' hP hQ=>?_,λh' tk hk=>?_⟩
 ·obtain⟨b,e,rfl⟩:=key i v hP;simp only[e,JX]at hQ;exact Q4 hQ
 ·have hn:its.toArray.size=bs.length:=by have:=rv.length;rw[List.length_map]at this;simp;omega
  have e:((Ux its.toArray.size).all λi=>(bs[i]?).getD true)=bs.all id:=by
   rw[hn,Bool.eq_iff_iff,Q3,Q3];constructor
   ·intro h b hb;obtain⟨i,hi,e⟩:=List.getElem_of_mem hb;have:=h i (Q8.mpr hi);simp only[Qf hi,JX,e]at this;exact this
   ·intro h i hi;have hi':=Q8.mp hi;simp only[Qf hi',JX];exact h _ (JE hi')
  rw[e];exact⟨.bl (bs.all id),H,I.kept (t':=tk) λb x e=>hk b x (λhm=>by rw[QW.mp hm]at e;exact Jo _ (Qi e)) (Qm _ e),rfl,q⟩
noncomputable def VM:List D->Option (List Bool)
 |[]=>some []
 |.bool b::r=>(VM r).map (b :: ·)
 |_=>none
theorem GI{K:Frag}{G:Hp}:∀{vs:List V}{ds:List D}{bs:List Bool},Reps K G vs ds->VM ds=some bs->vs=bs.map V.bl
 |_,_,bs,.nil,e=>by cases e;rfl
 |_,_,bs,.cons (d:=d) r t,e=>by
  cases d with
  |bool b=>
   unfold VM at e;cases z:VM _ with
   |none=>rw[z]at e;cases e
   |some cs=>rw[z]at e;cases e;rw[r.bl_inv,GI t z];rfl
  |_=>cases e
noncomputable def Yl:List D->Option D
 |[.list ds]=>(VM ds).map λbs=>.bool (bs.all id)
 |_=>none
theorem GO(hc:X.calm=true):YF X (.builtin "all") Yl:=by
 refine⟨_,Br hc,λvs G H ds d Q s r e k=>?_⟩;unfold Yl at e;split at e
 ·rename_i ds;cases z:VM ds with
  |none=>rw[z]at e;cases e
  |some bs=>rw[z]at e;cases e;obtain⟨v,rfl,q⟩:=r.one_inv;obtain⟨l,ws,rfl,h1,r1⟩:=q.lst_inv;have hw:=GI r1 z;subst hw;exact⟨l,bs,rfl,s.seq h1,k _ G H (.refl s) (.bl _)⟩
 ·cases e
noncomputable def Its(x:Str):It:=⟨λi _=>i<x.cps.size,λi H v H'=>H'=H/\∃c,x.cps[i]?=some c/\v=.str ⟨#[c]⟩,λi _=>x.cps.size<=i⟩
theorem Bq{P:Up}{w:World}{K:Frag}{tg:Us}(x:Str)(t:Tok)(it:Uq):Turn P w K tg (Its x) [it] it (λi h=>h.IsStrIter it (strIterType x) x t i) where
 mem:=by simp
 obj:=λi h st b hb=>by
  have e:b=it:=by simpa using hb
  subst e;obtain⟨o,e,c,d⟩:=st;exact⟨o,e,λv z=>by rw[d]at z;cases z⟩
 keep:=λi h h' st k=>by obtain⟨o,e,c,d⟩:=st;exact⟨o,k it (by simp) o e,c,d⟩
 item:=by
  intro X hP hw hK hc i pins s σ H E I hf st hg;subst hP hw hK;obtain⟨f0,f1,f2,f3,f4,f5⟩:=hf it (by simp);have hx:x.cps[i]?=some x.cps[i]:=Jq hg
  have fin:∀h' tk(T:String),strIterType x=T->h'.IsStrIter it T x t (i+1)->Heap.SameBut it s.heap h'->["enumerate", "zip", "dict_itemiterator", "dict_reverseitemiterator", "odict_iterator", "itertools.zip_longest", "itertools.pairwise"].contains T=false ->
    ∃u,some (Value.str ⟨#[x.cps[i]]⟩ s.toks)=some u/\Uu (model X.prog X.w) X.A (letOwnedTupleGo tg (.ref it) u) (λ_ s2=>∃v H',Inv X pins σ H' s2/\RelV v u/\(Its x).yld i H v H'/\s2.heap.IsStrIter it (strIterType x) x t (i+1)/\∀b∈[it],H' b=none) E {s with heap:=h',toks:=tk}:=by
   intro h' tk T eT st' sb hn;have I1:Inv X pins σ H {s with heap:=h',toks:=tk}:=I.turned (t':=tk) (λb o hb e=>(sb.2 b hb).trans e) f0 f1 f3 f4 f5;obtain⟨o,e,c,d⟩:=id st';refine⟨_,rfl,RB (s:={s with heap:=h',toks:=tk}) e c d hn ⟨.str ⟨#[x.cps[i]]⟩,H,I1,⟨_,rfl⟩,⟨rfl,_,hx,rfl⟩,by rw[eT];exact st',λb hb=>(hf b hb).1⟩⟩
  cases ha:x.cps.all (· < 128)with
  |true=>
   have eT:strIterType x = "str_ascii_iterator" :=by simp[strIterType,ha]
   rw[eT]at st;exact wpAny_pyNext_ascii_item st hx λh' st' sb=>fin h' _ _ eT st' sb (by decide)
  |false=>
   have eT:strIterType x = "str_iterator" :=by simp[strIterType,ha]
   rw[eT]at st;exact wpAny_pyNext_wide_item st hx λh' st' sb=>fin h' _ _ eT st' sb (by decide)
 done:=by
  intro X hP hw hK hc i pins s σ H E I hf st hg;subst hP hw hK;obtain⟨f0,f1,f2,f3,f4,f5⟩:=hf it (by simp);have hx:x.cps[i]?=none:=Array.getElem?_eq_none hg;cases ha:x.cps.all (· < 128)with
  |true=>
   have eT:strIterType x = "str_ascii_iterator" :=by simp[strIterType,ha]
   rw[eT]at st;exact wpAny_pyNext_ascii_end (I.ok.hd hc) st hx λh' eb=>⟨rfl,I.turned (t':=s.toks) (λb o hb e=>eb b o hb e) f0 f1 f3 f4 f5⟩
  |false=>
   have eT:strIterType x = "str_iterator" :=by simp[strIterType,ha]
   rw[eT]at st;exact wpAny_pyNext_wide_end (I.ok.hd hc) st hx λh' eb=>⟨rfl,I.turned (t':=s.toks) (λb o hb e=>eb b o hb e) f0 f1 f3 f4 f5⟩
 self:=λA i s Q E st h=>by
  cases ha:x.cps.all (· < 128)with
  |true=>
   have eT:strIterType x = "str_ascii_iterator" :=by simp[strIterType,ha]
   rw[eT]at st;exact wpAny_pyIter_striter_ascii st h
  |false=>
   have eT:strIterType x = "str_iterator" :=by simp[strIterType,ha]
   rw[eT]at st;exact wpAny_pyIter_striter_wide st h
noncomputable def iAny(K:Frag)(tl:TE):TI:=λσ H R=>tl σ H λx H1=>(∃a,x=.ref a/\(∃xs,SqL K H1 a xs)/\R (Itl K a) H1)∨(∃a,x=.ref a/\(∃xs,SqT K H1 a xs)/\R (Itt K a) H1) ∨ ∃z,x=.str z/\R (Its z) H1
theorem F5{l:Us}{tl:TE}(hl:PE X l tl):PI X tg l (iAny X.K tl):=by
 intro pins s σ H R I h;refine thn (hl pins s σ H _ I h) λv s1 ⟨x,H1,I1,r1,q1⟩=>?_
 have fpOk:∀b∈[s1.heap.objs.size],ZB X pins H1 b:=λb hb=>by
  have e:b=s1.heap.objs.size:=by simpa using hb
  subst e;exact I1.fpOk (Qs _) (I1.hok.fresh (Qs _))
 rcases q1 with ⟨a,e,⟨xs,hq⟩,q⟩|⟨a,e,⟨xs,hq⟩,q⟩|⟨z,e,q⟩
 ·subst e;cases r1;obtain⟨its,rv,p,hz⟩:=I1.list hq;refine JG p.isList ?_;exact⟨s1.heap.objs.size,[s1.heap.objs.size],_,_,H1,rfl,I1.kept (t':=s1.toks) λb o e=>Qm _ e,jE a _,⟨_,Qy _ rfl,rfl,rfl⟩,fpOk,q⟩
 ·subst e;cases r1;obtain⟨its,rv,p,hz⟩:=I1.tuple hq;refine wpAny_pyIter_tuple p ?_;exact⟨s1.heap.objs.size,[s1.heap.objs.size],_,_,H1,rfl,I1.kept (t':=s1.toks) λb o e=>Qm _ e,jP a _,⟨_,Qy _ rfl,rfl,rfl⟩,fpOk,q⟩
 ·subst e;obtain⟨t,rfl⟩:=r1;refine wpAny_pyIter_strU ?_;exact⟨s1.heap.objs.size,[s1.heap.objs.size],_,_,H1,rfl,I1.kept (t':=s1.toks) λb o e=>Qm _ e,Bq z t _,⟨_,Qy _ rfl,rfl,rfl⟩,fpOk,q⟩
noncomputable def RC(z:Str):List D:=z.cps.toList.map λc=>.str ⟨#[c]⟩
noncomputable def OI:D->Option (List D)
 |.list ds=>some ds
 |.tuple ds=>some ds
 |.str z=>some (RC z)
 |_=>none
theorem ki{K:Frag}{G1:Hp}{ad:Uq}{vs:List V}{ds:List D}(h:SqT K G1 ad vs)(r:Reps K G1 vs ds):Xj K (Itt K ad) ds G1 where
 go:=λi G H s1 s2 hi=>by
  have hi':i<vs.length:=by rw[r.length];exact hi
  exact⟨vs,vs[i],YU (s1.trans s2) h,Qf hi'⟩
 stop:=λi G H s1 s2 hi=>⟨vs,YU (s1.trans s2) h,by rw[r.length];exact hi⟩
 yld:=λi G H x H' d s1 s2 e y=>by obtain⟨rfl,y⟩:=y;obtain⟨v,e1,r1⟩:=r.get e;have:=y vs (YU (s1.trans s2) h);rw[e1]at this;cases this;exact⟨G,.refl s2,r1.mono s1⟩
theorem qw{K:Frag}{G1:Hp}{z:Str}:Xj K (Its z) (RC z) G1 where
 go:=λi G H s1 s2 hi=>by unfold RC at hi;simpa[Its]using hi
 stop:=λi G H s1 s2 hi=>by unfold RC at hi;simpa[Its]using hi
 yld:=λi G H x H' d s1 s2 e y=>by
  obtain⟨rfl,c,hc,rfl⟩:=y;unfold RC at e;rw[Qe]at e;have:z.cps.toList[i]?=some c:=by simpa using hc
  rw[this]at e;cases e;exact⟨G,.refl s2,.str _⟩
noncomputable def KU(f:M D):M (List D):=Kb f λx=>Kc (OI x)
theorem Pg{f:M D}(h:PE X e (tD X.K B G0 f)):PI X tg e (iD X.K B G0 (KU f)):=Y2 (F5 h) λσ H R q=>tM.toI (R0:=Rep X.K) q λv H' G' Z' x k r a=>by
 cases x with
 |list ds=>obtain⟨ad,vs,rfl,h1,r1⟩:=r.lst_inv;exact .inl ⟨ad,rfl,⟨vs,k.gh.seq h1⟩,a _ G' H' k (.refl _) (jJ h1 r1)⟩
 |tuple ds=>obtain⟨ad,vs,rfl,h1,r1⟩:=r.tup_inv;exact .inr (.inl ⟨ad,rfl,⟨vs,YU k.gh h1⟩,a _ G' H' k (.refl _) (ki h1 r1)⟩)
 |str z=>have:=r.str_inv;subst this;exact .inr (.inr ⟨z,rfl,a _ G' H' k (.refl _) qw⟩)
 |_=>exact a.elim
noncomputable def inS(i j:Str):Bool:=!(Builtin.Str.occurrences j i 0 j.length 1).isEmpty
noncomputable def oInS:D->D->Option Bool
 |.str i,.str j=>some (inS i j)
 |_,_=>none
noncomputable def NJ:D->D->Option Bool
 |.str i,.str j=>some (!inS i j)
 |_,_=>none
theorem GN:OpB X (Uw .In) oInS:=⟨_,jA,λv u G H x y d Q s rx ry e k=>by
 unfold oInS at e;split at e
 ·cases e;have:=rx.str_inv;subst this;have:=ry.str_inv;subst this;exact⟨_,_,rfl,rfl,k⟩
 ·cases e⟩
theorem F4:OpB X (Uw .NotIn) NJ:=⟨_,kC,λv u G H x y d Q s rx ry e k=>by
 unfold NJ at e;split at e
 ·cases e;have:=rx.str_inv;subst this;have:=ry.str_inv;subst this;exact⟨_,_,rfl,rfl,k⟩
 ·cases e⟩
theorem GM{x:Str}{i:Int}(hg:Gl X x)(hm:∃t,X.mg x=some (.int i t))(hd:(x==("__debug__" : Str))=false:=by decide):PE X (.Name x pos) (tD X.K B G0 (UQ (.int i))):=by obtain⟨t,hm⟩:=hm;exact Kt (Lp (v:=.int i) hg hm ⟨t,rfl⟩ hd) λσ H Q ⟨G,Z,k,a⟩=>aft.now a k (.int _)
end
section
variable{X:Cx}{B G0:Hp}{KX:XW}{e o a b c tg i:Us}{pos p2:Pos}{es rest:List Us}{te to ti:TE}
noncomputable def F3(te to ti:TE):TS:=λD σ H=>te σ H λv H1=>to σ H1 λx H2=>ti σ H2 λk H3=>∃l xs n,x=.ref l/\H3 l=some (.lst xs)/\k=.int n/\0<=n/\n<xs.length/\D.nx σ (upd H3 l (.lst (xs.set n.toNat v)))
theorem Bp(he:PE X e te)(ho:PE X o to)(hi:PE X i ti)(hs:swapsWith e (some (.Subscript o i p2)) pos.line X.env=pure false:=by rfl):PS X (.Assign [.Subscript o i p2] e pos) (F3 te to ti):=by
 intro pins s σ H D I h;refine wpAny_Assign_Subscript (thn (he pins s σ H _ I h) λv s1 ⟨x,H1,I1,r1,q1⟩=>thn (ho pins s1 σ H1 _ I1 q1) λov s2 ⟨y,H2,I2,r2,q2⟩=>thn (hi pins s2 σ H2 _ I2 q2) λiv s3 ⟨k,H3,I3,r3,q3⟩=>?_) hs;obtain⟨l,xs,n,rfl,hl,rfl,h0,h1,q⟩:=q3;cases r2;obtain⟨t,rfl⟩:=r3;obtain⟨z,its,m,r,hlen,ee⟩:=I3.lstM hl
 refine PySem.W.ki_setAt (items:=its.toArray) (n:=m) ee h0 (by
                                  have:Ut<2 ^ 63:=by decide
                                  omega) (by simp;omega) ?_
 refine⟨σ,_,I3.lset (t':=s3.toks) (its:=its) (its':=its.set n.toNat v) (f:=(·.setIfInBounds n.toNat v)) hl ee (by simp) (r.set r1 n.toNat) (by rw[List.length_set];exact z),q⟩
noncomputable def XN(j:Nat)(g f:M D):SM:=sB f λd Z1=>match Z1[j]? with
 |some (some (.own _))=>sB g (λy Z2=>match y with
  |.int k=>(match Z2[j]? with
   |some (some (.own ds))=>if 0<=k/\k<ds.length then .nx (Z2.set j (some (.own (ds.set k.toNat d))))else .bad
   |_=>.bad)
  |_=>.bad) Z1
 |_=>.bad
theorem Lj{j:Nat}{f g:M D}(he:PE X e (tD X.K B G0 f))(ho:PE X o (K9 j))(hi:PE X i (tD X.K B G0 g))(hs:swapsWith e (some (.Subscript o i p2)) pos.line X.env=pure false:=by rfl) :
  PS X (.Assign [.Subscript o i p2] e pos) (tS X.K B G0 KX (XN j g f)):=
 ZA (Bp he ho hi hs) λD σ H q=>tS.bnd (R:=Rep X.K) q λv H1 G1 Z1 d k r a=>by
  cases q0:Z1[j]? with
  |none=>rw[q0]at a;exact a.elim
  |some o0=>
   cases o0 with
   |none=>rw[q0]at a;exact a.elim
   |some sl0=>
    cases sl0 with
    |deep _ _=>rw[q0]at a;exact a.elim
    |pub d=>rw[q0]at a;exact a.elim
    |own ds0=>
     rw[q0]at a;obtain⟨ad,vs0,h1,h2,h3,h4,h5⟩:=k.own j ds0 q0;refine⟨.ref ad,h1,G1,Z1,k,?_⟩;dsimp only at a;unfold sB at a;cases z:g Z1 with
     |bad=>rw[z]at a;exact a.elim
     |ok y Z2=>
      rw[z]at a;dsimp only at a;intro kv G' H' k' s' r';cases y with
      |int n=>
       dsimp only at a;cases q:Z2[j]? with
       |none=>rw[q]at a;exact a.elim
       |some oo=>
        cases oo with
        |none=>rw[q]at a;exact a.elim
        |some sl=>
         cases sl with
         |deep _ _=>rw[q]at a;exact a.elim
         |pub d=>rw[q]at a;exact a.elim
         |own ds=>
          rw[q]at a;dsimp only at a;split at a
          ·rename_i hn;obtain⟨ad',vs,g1,g2,g3,g4,g5⟩:=k'.own j ds q;rw[h1]at g1;cases g1;refine⟨ad,vs,n,rfl,g4,r'.int_inv,hn.1,by rw[g5.length];exact hn.2,?_⟩;exact a σ G' _ (k'.change q h1 (g5.set (r.mono s') n.toNat)) s'
          ·exact a.elim
      |_=>exact a.elim
noncomputable def Xw(z:Str)(lo hi:Option Int):Str:=if(Builtin.Str.strSliceIndices lo hi 1 z.length).length=z.length then z else⟨((Builtin.Str.strSliceIndices lo hi 1 z.length).filterMap (z.cps[·]?)).toArray⟩
theorem F2:SlR X (λx lo hi H Q=>∃z,x=.str z/\(Xw z lo hi).length<=Ut/\Q (.str (Xw z lo hi)) H):=by
 intro pins s σ H x v vl vu lo hi sl Q I rx hs pl pu h;obtain⟨z,rfl,hz,q⟩:=h;obtain⟨t,rfl⟩:=rx;refine⟨"str", _,F.slot_str_getitem.lookup,typeIs_str s z t,?_⟩
 obtain⟨l,el,e1⟩:∃l:Option (Int×Tok),vl=partValue l/\l.map (·.1)=lo:=by
  cases pl with
  |none=>exact⟨none,rfl,rfl⟩
  |int k t'=>exact⟨some (k,t'),rfl,rfl⟩
 obtain⟨u,eu,e2⟩:∃u:Option (Int×Tok),vu=partValue u/\u.map (·.1)=hi:=by
  cases pu with
  |none=>exact⟨none,rfl,rfl⟩
  |int k t'=>exact⟨some (k,t'),rfl,rfl⟩
 subst el eu;refine wpAny_getItem_str_slice (l:=l) (u:=u) (st:=none) hs rfl ?_;unfold sliceMade slicePicked;rw[e1,e2];unfold Xw at hz q;by_cases hw:(Builtin.Str.strSliceIndices lo hi 1 z.length).length=z.length
 ·rw[Qp hw]at hz q;rw[if_pos (by simp[hw])];exact⟨.str z,H,I,⟨t,rfl⟩,q⟩
 ·rw[Qz hw]at hz q;rw[if_neg (by simp[hw])];exact⟨hz,.str _,H,I.tok _,⟨_,rfl⟩,q⟩
end
section
variable{X:Cx}{B G0:Hp}{KX:XW}{e o a b c tg i:Us}{pos p2:Pos}{es rest:List Us}{te to ti:TE}
theorem pvb(i:Nat){x:Str}{pos:Pos}{N':List Str}{scope:Scope}{cl:List (Str×Uq)}{C:Uq}{s₀:Uo}{H₀:Hp}{ex:List Uq}(hN:N'[i]?=some x:=by rfl)
  (h:scope.names.lookup x=some .local∨scope.names.lookup x=some .free:=by first|exact .inl rfl|exact .inr rfl) (hd:(x==("__debug__" : Str))=false:=by decide) (hcd:(x==("__classdict__" : Str))=false:=by decide) :
  PE (X.blk N' scope cl C s₀ H₀ ex) (.Name x pos) (K9 i):=Mw hN (DD h) hd hcd
noncomputable def YQ:D->Option Int->Option Int->Option D
 |.list xs,lo,hi=>some (.list (DL.cutD xs lo hi))
 |.str z,lo,hi=>if(Xw z lo hi).length<=1000000 then some (.str (Xw z lo hi))else none
 |_,_,_=>none
noncomputable def ZK(f:M D)(lo hi:M (Option Int)):M D:=Kb f λx=>Kb lo λl=>Kb hi λh=>Kc (YQ x l h)
theorem jb{lo hi:Option Us}{f:M D}{l h:M (Option Int)}(he:PE X e (tD X.K B G0 f))(hl:PO X lo (tOi X.K B G0 l))(hu:PO X hi (tOi X.K B G0 h)) :
  PE X (.Subscript e (.Slice lo hi none p2) pos) (tD X.K B G0 (ZK f l h)):=
 Kt (Al (CB.or F2) he hl hu) λσ H Q q=>by
  refine tM.one (R:=Rep X.K) q λv H2 G Z x k r a=>?_;refine tM.nx (R:=λ_ b c=>b=c) k a λl' H3 G3 Z3 xl k3 s3 r3 a3=>?_;refine tM.nx (R:=λ_ b c=>b=c) k3 a3 λh' H4 G4 Z4 xh k4 s4 r4 a4=>?_;have r3:l'=xl:=r3;have r4:h'=xh:=r4;subst r3 r4;unfold Kc YQ at a4
  cases x with
  |list xs=>obtain⟨ad,vs,rfl,h1,r1⟩:=((r.mono s3).mono s4).lst_inv;exact .inl ⟨ad,vs,rfl,k4.gh.seq h1,λp hp=>aft.done a4 k4 (Ext.new k4.gh hp) (.lst (SqL.of Zf) ((r1.cut l' h').mono (Zq (k4.gh.free hp))))⟩
  |str z=>
   dsimp only at a4;have:=r.str_inv;subst this;by_cases hc:(Xw z l' h').length<=1000000
   ·rw[Qp hc]at a4;exact .inr ⟨z,rfl,QM hc lim,aft.now a4 k4 (.str _)⟩
   ·rw[Qz hc]at a4;exact a4.elim
  |_=>exact a4.elim
end
section
variable{X:Cx}{B G0:Hp}{e o a b c tg:Us}{pos p2:Pos}{es rest:List Us}{te to ti:TE}
noncomputable def K5{β:Type}(p:D->D->Option β)(i:Nat)(g:M D):M β:=λZ=>match Z[i]? with
 |some (some (.pub d))=>(Kb g λy=>Kc (p d y)) Z
 |some (some (.own _))=>(Kb g λy=>λZ'=>match Z'[i]? with|some (some (.own ds))=>Kc (p (.list ds) y) Z'|_=>.bad) Z
 |_=>.bad
theorem NI{K:Frag}{σ:St}{H:Hp}{p:D->D->Option Bool}{r:R2}{i:Nat}{g:M D}{Q:Bool->Hp->Prop}{QV:VK}(hq:∀t H3,Q t H3->QV (.bl t) H3)(hr:∀v u G H x y d Q,Same G H->Rep K G v x->Rep K G u y->p x y=some d->Q (.bl d) H->r v u H Q)
  (q:tBo K B G0 (K5 p i g) σ H Q):K9 i σ H λx H1=>tD K B G0 g σ H1 λy H2=>r x y H2 QV:=by
 obtain⟨G,Z,k,a⟩:=q;unfold K5 at a;cases q:Z[i]? with
 |none=>rw[q]at a;exact a.elim
 |some o=>
  cases o with
  |none=>rw[q]at a;exact a.elim
  |some sl=>
   cases sl with
   |deep _ _=>rw[q]at a;exact a.elim
   |pub d=>
    rw[q]at a;obtain⟨v,h1,h2⟩:=k.pub i d q;refine⟨v,h1,G,Z,k,?_⟩;dsimp only[Kb]at a;cases z:g Z with
    |bad=>rw[z]at a;exact a.elim
    |ok y Z1=>rw[z]at a;intro u G' H' k' s' r';obtain⟨d',e',a'⟩:=aft.opt a;exact hr v u G' H' d y d' _ k'.gh (h2.mono s') r' e' (hq _ _ (a' d' G' H' k' s' rfl))
   |own ds=>
    rw[q]at a;obtain⟨ad,vs,h1,h2,h3,h4,h5⟩:=k.own i ds q;refine⟨.ref ad,h1,G,Z,k,?_⟩;dsimp only[Kb]at a;cases z:g Z with
    |bad=>rw[z]at a;exact a.elim
    |ok y Z1=>
     rw[z]at a;dsimp only at a;intro u G' H' k' s' r';cases q1:Z1[i]? with
     |none=>rw[q1]at a;exact a.elim
     |some oo=>
      cases oo with
      |none=>rw[q1]at a;exact a.elim
      |some sl1=>
       cases sl1 with
       |deep _ _=>rw[q1]at a;exact a.elim
       |pub d1=>rw[q1]at a;exact a.elim
       |own ds1=>
        rw[q1]at a;dsimp only at a;obtain⟨ad',ws,g1,g2,g3,g4,g5⟩:=k'.own i ds1 q1;rw[h1]at g1;cases g1;obtain⟨d',e',a'⟩:=aft.opt a;have sg:Same G' (upd G' ad (.lst ws)):=Zq g3
        have sh:Same (upd G' ad (.lst ws)) H':=λb o q=>by
         by_cases z:b=ad
         ·subst z;rw[Zf]at q;cases q;exact g4
         ·rw[KN z]at q;exact k'.gh b o q
        exact hr (.ref ad) u _ H' (.list ds1) y d' _ sh (.lst (SqL.of Zf) (g5.mono sg)) (r'.mono sg) e' (hq _ _ (a' d' G' H' k' s' rfl))
theorem DA{op:CmpOp}{p:D->D->Option Bool}{i:Nat}{g:M D}(o:OpB X (Uw op) p)(ha:PE X a (K9 i))(hb:PE X b (tD X.K B G0 g))(hm:behindInMarks op b=false) :
  PT X (.Compare a [op] [b] pos) (tBo X.K B G0 (K5 p i g)):=by
 obtain⟨r,h,j⟩:=o;exact YB (Ox h ha hb hm) λσ H Q q=>NI (λt H3 z=>⟨t,rfl,z⟩) j q
theorem Dy{op:CmpOp}{p:D->D->Option Bool}{i:Nat}{g:M D}(o:OpB X (Uw op) p)(ha:PE X a (K9 i))(hb:PE X b (tD X.K B G0 g))(hm:behindInMarks op b=false) :
  PE X (.Compare a [op] [b] pos) (tD X.K B G0 (UZ UA (K5 p i g))):=by
 obtain⟨r,h,j⟩:=o;exact Kt (Lr h ha hb hm) λσ H Q q=>NI (λt H3 z=>z) j (tBo.val q)
end
end DL
namespace L2
open PySem PySem.Spec PyProof.Rows
noncomputable def Itz(K:Frag)(a b:Uq):It:=
 ⟨λi H=>∃xs x ys y,SqL K H a xs/\xs[i]?=some x/\SqL K H b ys/\ys[i]?=some y,
  λi H v H'=>∃p x y,H p=none/\v=.ref p/\(∀xs,SqL K H a xs->xs[i]?=some x)/\(∀ys,SqL K H b ys->ys[i]?=some y)/\H'=upd H p (.tup [x,y]),
  λi H=>∃xs ys,SqL K H a xs/\SqL K H b ys/\(xs.length<=i∨ys.length<=i)⟩
theorem Bo{P:Up}{w:World}{K:Frag}{elts:List Us}{x1}{tp:Pos}(a b z TI TO i1 i2:Uq)(Dz:ZipApart z TI TO i1 i2 a b) :
  Turn P w K (.Tuple elts x1 tp) (Itz K a b) [z,TI,TO,i1,i2] z (λi h=>IsZip h z TI TO .none/\IsPair h TI (.ref i1) (.ref i2)/\(∃c d,IsPair h TO c d)/\h.IsListIter i1 a i/\h.IsListIter i2 b i) where
 mem:=by simp
 obj:=λi h st c hc=>by
  obtain⟨h1,h2,⟨c0,d0,h3⟩,⟨o4,h4,_,d4⟩,⟨o5,h5,_,d5⟩⟩:=st;have hc':c=z∨c=TI∨c=TO∨c=i1∨c=i2:=by simpa using hc
  rcases hc' with rfl|rfl|rfl|rfl|rfl
  ·exact⟨_,h1,λv q=>by have q':Data.fields _=Data.cell v:=q;cases q'⟩
  ·exact⟨_,h2,λv q=>by have q':Data.seq _ _=Data.cell v:=q;cases q'⟩
  ·exact⟨_,h3,λv q=>by have q':Data.seq _ _=Data.cell v:=q;cases q'⟩
  ·exact⟨o4,h4,λv q=>by rw[d4]at q;cases q⟩
  ·exact⟨o5,h5,λv q=>by rw[d5]at q;cases q⟩
 keep:=λi h h' st k=>by obtain⟨h1,h2,⟨c0,d0,h3⟩,h4,h5⟩:=st;exact⟨k z (by simp) _ h1,k TI (by simp) _ h2,⟨c0,d0,k TO (by simp) _ h3⟩,h4.at λo q=>k i1 (by simp) o q,h5.at λo q=>k i2 (by simp) o q⟩
 item:=by
  intro X hP hw hK hc i pins s σ H E I hf st hg;subst hP hw hK;obtain⟨h1,h2,⟨c0,d0,h3⟩,h4,h5⟩:=st;obtain⟨xs,x,ys,y,hq,hx,hq',hy⟩:=hg;obtain⟨its,rv,p,hz⟩:=I.list hq;obtain⟨its',rv',p',hz'⟩:=I.list hq';obtain⟨u,hu,ru⟩:=rv.get hx;obtain⟨u',hu',ru'⟩:=rv'.get hy;refine wpAny_pyNext_zip_item Dz h1 h2 h3 h4 h5 p.isList p'.isList (x:=u) (y:=u') (by simpa using hu) (by simpa using hu') λh' g1 g3 g4 g5 gp gs gk=>?_
  refine⟨_,rfl,wpAny_letOwnedTupleGo_zip g1 λh2' gz sb=>?_⟩;have hzl:z<s.heap.objs.size:=Qi h1;have sb':Heap.SameBut z h' h2':=sb;have gp2:h2'.get? s.heap.objs.size=some {cls:=.type "tuple", data:=.seq #[u,u']}:=(sb'.2 _ (JT hzl)).trans gp
  have kk:∀c o,c∉[z,TI,TO,i1,i2]->s.heap.get? c=some o->h2'.get? c=some o:=λc o hc q=>by
   have n1:c≠z:=λe=>hc (by simp[e])
   have n3:c≠TO:=λe=>hc (by simp[e])
   have n4:c≠i1:=λe=>hc (by simp[e])
   have n5:c≠i2:=λe=>hc (by simp[e])
   exact(sb'.2 c n1).trans (gk c o n1 n3 n4 n5 q)
  have hn:H s.heap.objs.size=none:=I.hok.fresh (Qs _)
  have I2:Inv X pins σ (upd H s.heap.objs.size (.tup [x,y])) {s with heap:=h2'}:=
   I.turnedNew (t':=s.toks) (fp:=[z,TI,TO,i1,i2]) hf kk (Qs _) ⟨by show 2<=Ut;decide,[u,u'],.cons ru (.cons ru' .nil),⟨_,gp2,rfl,_,rfl⟩⟩
  have gTI:IsPair h' TI (.ref i1) (.ref i2):=gk TI _ Dz.TIz Dz.TITO Dz.TIi1 Dz.TIi2 h2
  refine⟨.ref s.heap.objs.size,_,I2,rfl,⟨_,x,y,hn,rfl,λws hw=>by rw[I.list_inj hw hq];exact hx,λws hw=>by rw[I.list_inj hw hq'];exact hy,rfl⟩,
   ⟨gz,(sb'.2 _ Dz.TIz).trans gTI,⟨u,u',(sb'.2 _ Dz.TOz).trans g3⟩,g4.at λo q=>(sb'.2 _ Dz.i1z).trans q,g5.at λo q=>(sb'.2 _ Dz.i2z).trans q⟩,λc hc=>?_⟩
  have hlt:c<s.heap.objs.size:=by
   have hc':c=z∨c=TI∨c=TO∨c=i1∨c=i2:=by simpa using hc
   rcases hc' with rfl|rfl|rfl|rfl|rfl
   ·exact hzl
   ·exact Qi h2
   ·exact Qi h3
   ·obtain⟨o,ho,_⟩:=h4;exact Qi ho
   ·obtain⟨o,ho,_⟩:=h5;exact Qi ho
  rw[KN (QP hlt)];exact(hf c hc).1
 done:=by
  intro X hP hw hK hc i pins s σ H E I hf st hg;subst hP hw hK;obtain⟨h1,h2,⟨c0,d0,h3⟩,h4,h5⟩:=st;obtain⟨xs,ys,hq,hq',hx⟩:=hg;obtain⟨its,rv,p,hz⟩:=I.list hq;obtain⟨its',rv',p',hz'⟩:=I.list hq';have hl:=rv.length;have hl':=rv'.length;refine wpAny_pyNext_zip_end (I.ok.hd hc) Dz h1 h2 h3 h4 h5 p.isList p'.isList ?_ λh' eb=>⟨rfl,I.turnedL (t':=s.toks) hf λc o hb q=>eb c o (λe=>hb (by simp[e])) (λe=>hb (by simp[e])) (λe=>hb (by simp[e])) (λe=>hb (by simp[e])) q⟩
  rcases hx with hx|hx
  ·exact .inl (by simp;omega)
  ·exact .inr (by simp;omega)
 self:=λ_ _ _ _ _ st h=>wpAny_pyIter_zip st.1 h
section
variable{X:Cx}
noncomputable def iZip(K:Frag)(ta:TA):TI:=λσ H R=>ta σ H λvs H1=>∃a b xs ys,vs=[.ref a,.ref b]/\SqL K H1 a xs/\SqL K H1 b ys/\R (Itz K a b) H1
theorem F1{a b:Us}{ta:TA}{p pos:Pos}{elts:List Us}{x1}{tp:Pos}(hg:Gl X "zip")(hm:X.mg "zip" = none)(ha:PA X [a,b] ta)
  (hs:Uv [a,b] X.env=[(false,eval a X.env),(false,eval b X.env)]:=by rfl) (hs2:Uv [b] X.env=[(false,eval b X.env)]:=by rfl):PI X (.Tuple elts x1 tp) (.Call (.Name "zip" p) [a,b] [] pos) (iZip X.K ta):=by
 intro pins s σ H R I h;refine Call_ (VG I hg hm boot_zip (JA (thn (ha pos pins s σ H _ I h) λus s1 ⟨vs,H1,I1,r1,q1⟩=>?_) (by rw[hs,hs2]) (by rw[hs2];rfl)));obtain⟨l1,l2,xs,ys,e,hq,hq',q⟩:=q1;subst e;cases r1 with
 |cons r rr=>
  cases rr with
  |cons r' rr=>
   cases rr;cases (show _=Value.ref l1 from r);cases (show _=Value.ref l2 from r');obtain⟨its,rv,pl,hz⟩:=I1.list hq;obtain⟨its',rv',pl',hz'⟩:=I1.list hq';have n1:l1<s1.heap.objs.size:=by obtain⟨_,e,_⟩:=id pl.isList;exact Qi e
   have n2:l2<s1.heap.objs.size:=by obtain⟨_,e,_⟩:=id pl'.isList;exact Qi e
   have ne:∀i j:Nat,i≠j->s1.heap.objs.size+i≠s1.heap.objs.size+j:=λi j h e=>h (Nat.add_left_cancel e);have m1:∀m:Nat,l1≠s1.heap.objs.size+m:=λm=>QP (QF n1 (Nat.le_add_right _ _));have m2:∀m:Nat,l2≠s1.heap.objs.size+m:=λm=>QP (QF n2 (Nat.le_add_right _ _));refine call_zip_2 pl.isList pl'.isList λh' g1 g2 g3 g4 g5 gs kk=>?_;have I2:Inv X pins σ H1 {s1 with heap:=h'}:=I1.kept (t':=s1.toks) kk;refine wpAny_pyIter_zip g1 ?_
   refine⟨s1.heap.objs.size+4,[s1.heap.objs.size+4,s1.heap.objs.size+2,s1.heap.objs.size+3,s1.heap.objs.size,s1.heap.objs.size+1],_,_,H1,rfl,I2,
    Bo l1 l2 (s1.heap.objs.size+4) (s1.heap.objs.size+2) (s1.heap.objs.size+3) s1.heap.objs.size (s1.heap.objs.size+1) ⟨ne 2 4 (by decide),ne 3 4 (by decide),ne 0 4 (by decide),ne 1 4 (by decide),ne 2 3 (by decide),ne 2 0 (by decide),ne 2 1 (by decide),ne 3 0 (by decide),ne 3 1 (by decide),ne 0 1 (by decide),m1 4,m1 3,m1 0,m1 1,m2 4,m2 3,m2 0,m2 1⟩,⟨g1,g2,⟨_,_,g3⟩,g4,g5⟩,λc hc=>?_,q⟩
   have hc':s1.heap.objs.size<=c:=by
    have hc':c=s1.heap.objs.size+4∨c=s1.heap.objs.size+2∨c=s1.heap.objs.size+3∨c=s1.heap.objs.size∨c=s1.heap.objs.size+1:=by simpa using hc
    rcases hc' with rfl|rfl|rfl|rfl|rfl<;>first|exact Nat.le_add_right _ _|exact Qs _
   exact I1.fpOk hc' (I1.hok.fresh hc')
end
end L2
namespace DL
open PySem PySem.Spec L2
open PyProof.Rows hiding St
section
variable{X:Cx}{B G0:Hp}{e a b c tg:Us}{pos:Pos}{es rest:List Us}
noncomputable def Ys(xs ys:List D):List D:=(xs.zip ys).map λp=>.tuple [p.1,p.2]
theorem qv{K:Frag}{G1:Hp}{a b:Uq}{vs ws:List V}{ds es:List D}(h:SqL K G1 a vs)(h':SqL K G1 b ws)(r:Reps K G1 vs ds)(r':Reps K G1 ws es):Xj K (Itz K a b) (Ys ds es) G1 where
 go:=λi G H s1 s2 hi=>by
  unfold Ys at hi;rw[Qb,JP]at hi;have hi1:i<vs.length:=by rw[r.length];omega
  have hi2:i<ws.length:=by rw[r'.length];omega
  exact⟨vs,vs[i],ws,ws[i],(s1.trans s2).seq h,Qf hi1,(s1.trans s2).seq h',Qf hi2⟩
 stop:=λi G H s1 s2 hi=>by unfold Ys at hi;rw[Qb,JP]at hi;refine⟨vs,ws,(s1.trans s2).seq h,(s1.trans s2).seq h',?_⟩;rw[r.length,r'.length];omega
 yld:=λi G H x H' d s1 s2 e y=>by
  obtain⟨p,u,v,hp,rfl,y1,y2,rfl⟩:=y;have z1:=y1 vs ((s1.trans s2).seq h);have z2:=y2 ws ((s1.trans s2).seq h');unfold Ys at e;rw[Qe]at e;cases q:(ds.zip es)[i]? with
  |none=>rw[q]at e;cases e
  |some pr=>rw[q]at e;cases e;rw[List.getElem?_zip_eq_some]at q;obtain⟨u',e1,r1⟩:=r.get q.1;obtain⟨v',e2,r2⟩:=r'.get q.2;rw[z1]at e1;rw[z2]at e2;cases e1;cases e2;exact⟨upd G p (.tup [u,v]),Ext.new s2 hp,.tup (SqT.of Zf) (.cons ((r1.mono s1).mono (Zq (s2.free hp))) (.cons ((r2.mono s1).mono (Zq (s2.free hp))) .nil))⟩
noncomputable def X2:List D->Option (List D)
 |[.list xs,.list ys]=>some (Ys xs ys)
 |_=>none
theorem Bm{x l:List D}(h:X2 x=some l):∃xs ys,x=[.list xs,.list ys]/\l=Ys xs ys:=by
 unfold X2 at h;split at h
 ·cases h;exact⟨_,_,rfl,rfl⟩
 ·cases h
noncomputable def WQ(f:M (List D)):M (List D):=Kb f λx=>Kc (X2 x)
theorem F0{f:M (List D)}{p2:Pos}{elts:List Us}{x1}{tp:Pos}(hg:Gl X "zip")(hm:X.mg "zip" = none)(ha:PA X [a,b] (tDs X.K B G0 f))(hs:Uv [a,b] X.env=[(false,eval a X.env),(false,eval b X.env)]:=by rfl)(hs2:Uv [b] X.env=[(false,eval b X.env)]:=by rfl) :
  PI X (.Tuple elts x1 tp) (.Call (.Name "zip" p2) [a,b] [] pos) (iD X.K B G0 (WQ f)):=Y2 (F1 hg hm ha hs hs2) λσ H R q=>tM.toI (R0:=Reps X.K) q λv H' G' Z' x k r a=>by
 cases z:X2 x with
 |none=>rw[z]at a;exact a.elim
 |some l=>
  rw[z]at a;obtain⟨xs,ys,rfl,rfl⟩:=Bm z;cases r with
  |cons r1 rr=>
   cases rr with
   |cons r2 rr=>cases rr;obtain⟨l1,vs,rfl,h1,q1⟩:=r1.lst_inv;obtain⟨l2,ws,rfl,h2,q2⟩:=r2.lst_inv;exact⟨l1,l2,vs,ws,rfl,k.gh.seq h1,k.gh.seq h2,a _ G' H' k (.refl _) (qv h1 h2 q1 q2)⟩
end
section
variable{X:Cx}{B G0:Hp}{e o a b c tg:Us}{pos p2 p3:Pos}{es rest:List Us}{te to ti:TE}
noncomputable def oIn:D->D->Option Bool
 |.str i,.str j=>some (inS i j)
 |x,.list xs=>if x.canLay0=true/\UD xs=true/\x.depth<=60 then some (xs.any λy=>UF y x)else none
 |x,.tuple xs=>if x.canLay0=true/\UD xs=true/\x.depth<=60 then some (xs.any λy=>UF y x)else none
 |_,_=>none
noncomputable def Yk(x y:D):Option Bool:=(oIn x y).map λt=>!t
noncomputable def Xs(x y:D):Option Bool:=match y with
 |.list xs=>if x.canLay0=true/\UD xs=true/\x.depth<=60 then some (xs.any λy=>UF y x)else none
 |.tuple xs=>if x.canLay0=true/\UD xs=true/\x.depth<=60 then some (xs.any λy=>UF y x)else none
 |_=>none
theorem FI(hu:X.A.units+64<cLine):OpB X (Uw .In) Xs:=by
 refine⟨λv u H Q=>∃G x y d,Same G H/\Rep X.K G v x/\Rep X.K G u y/\Xs x y=some d/\Q (.bl d) H,?_,λv u G H x y d Q s rx ry e k=>⟨G,x,y,d,s,rx,ry,e,k⟩⟩;intro pins s σ H x y v u Q I rx ry ⟨G,dx,dy,d,sg,px,py,e,q⟩;unfold Xs at e;split at e
 ·split at e
  ·rename_i c;cases e;obtain⟨as,ra⟩:=YW I sg px rx c.1;obtain⟨bs,rb⟩:=YW I sg py ry (show UD _=true from c.2.1);exact SeqAt.in_list_reads rb ra c.2.1 c.1 (by have:=c.2.2;omega) ⟨.bl _,H,I,rfl,q⟩
  ·cases e
 ·split at e
  ·rename_i c;cases e;obtain⟨as,ra⟩:=YW I sg px rx c.1;obtain⟨bs,rb⟩:=YW I sg py ry (show UD _=true from c.2.1);exact SeqAt.in_tuple_reads rb ra c.2.1 c.1 (by have:=c.2.2;omega) ⟨.bl _,H,I,rfl,q⟩
  ·cases e
 ·cases e
theorem FZ(hu:X.A.units+64<cLine):OpB X (Uw .NotIn) (λx y=>(Xs x y).map λt=>!t):=by
 refine⟨λv u H Q=>∃G x y d,Same G H/\Rep X.K G v x/\Rep X.K G u y/\(Xs x y).map (λt=>!t)=some d/\Q (.bl d) H,?_,λv u G H x y d Q s rx ry e k=>⟨G,x,y,d,s,rx,ry,e,k⟩⟩;intro pins s σ H x y v u Q I rx ry ⟨G,dx,dy,d,sg,px,py,e,q⟩;unfold Xs at e;split at e
 ·split at e
  ·rename_i c;cases e;obtain⟨as,ra⟩:=YW I sg px rx c.1;obtain⟨bs,rb⟩:=YW I sg py ry (show UD _=true from c.2.1);exact SeqAt.notIn_list_reads rb ra c.2.1 c.1 (by have:=c.2.2;omega) ⟨.bl _,H,I,rfl,q⟩
  ·cases e
 ·split at e
  ·rename_i c;cases e;obtain⟨as,ra⟩:=YW I sg px rx c.1;obtain⟨bs,rb⟩:=YW I sg py ry (show UD _=true from c.2.1);exact SeqAt.notIn_tuple_reads rb ra c.2.1 c.1 (by have:=c.2.2;omega) ⟨.bl _,H,I,rfl,q⟩
  ·cases e
 ·cases e
theorem B_in(hu:X.A.units+64<cLine):OpB X (Uw .In) oIn:=(GN.or (FI hu)).congr λx y=>by cases x<;>cases y<;>rfl
theorem FH(hu:X.A.units+64<cLine):OpB X (Uw .NotIn) Yk:=(F4.or (FZ hu)).congr λx y=>by cases x<;>cases y<;>rfl
theorem qu{tl th ts:TO}{lo hi:Option Us}{st:Us}(he:PE X e te)(hl:PO X lo tl)(hu:PO X hi th)(hst:PO X (some st) ts):PE X (.Subscript e (.Slice lo hi (some st) p2) pos)
  (λσ H Q=>te σ H λx H1=>tl σ H1 λl H2=>th σ H2 λu H3=>ts σ H3 λt H4=>∃a xs,x=.ref a/\SqL X.K H4 a xs/\l=none/\u=none/\t=some (-1)/\∀p,H4 p=none->Q (.ref p) (upd H4 p (.lst xs.reverse))):=by
 intro pins s σ H Q I h;refine Subscript_ (thn (he pins s σ H _ I h) λv s1 ⟨x,H1,I1,r1,q1⟩=>?_);refine wpAny_Slice (thn (hl pins s1 σ H1 _ I1 q1) λvl s2 ⟨l,H2,I2,pl,q2⟩=>thn (hu pins s2 σ H2 _ I2 q2) λvu s3 ⟨u,H3,I3,pu,q3⟩=>thn (hst pins s3 σ H3 _ I3 q3) λvt s4 ⟨t,H4,I4,pt,q4⟩=>?_);obtain⟨a,xs,rfl,hx,rfl,rfl,rfl,q⟩:=q4;cases r1;have I5:Inv X pins σ H4 {s4 with heap:=s4.heap.push {cls:=.type "slice", data:=.fields #[vl,vu,vt]}}:=I4.kept (t':=s4.toks) λb ob q=>Qm _ q
 obtain⟨its,r,ht,hz⟩:=I5.list hx;have hlen:=r.length;have hg:Uu (model X.prog X.w) X.A (getItem (.ref a) (.ref s4.heap.objs.size)) (EP X pins σ Q) X.xe {s4 with heap:=s4.heap.push {cls:=.type "slice", data:=.fields #[vl,vu,vt]}}:=by refine wpAny_getItem_list_slice ht.isList (Heap.IsSliceOf.new ..) pl pu pt (by simp) ?_ (by rw[List.size_toArray]<;>omega);rw[PySem.W.krv_pick];refine⟨.ref _,_,I5.laid (t':=s4.toks) (o:=.lst xs.reverse) (λb ob q=>Qm _ q) (Qs _) ?_,rfl,q _ (I5.hok.fresh (Qs _))⟩;exact⟨by rw[List.length_reverse];exact hz,its.reverse,0,r.reverse,Qy _ rfl⟩
 show Uu (model X.prog X.w) X.A (subscriptTail e (.Slice lo hi (some st) p2) (.ref a) (.ref s4.heap.objs.size)) (EP X pins σ Q) X.xe {s4 with heap:=s4.heap.push {cls:=.type "slice", data:=.fields #[vl,vu,vt]}};exact tail_any (ops:=[.ref a,.ref s4.heap.objs.size]) ht.isList.typeIs slot_list_getitem.lookup hg (by with_unfolding_all rfl)
noncomputable def WH:D->Option Int->Option Int->Option Int->Option D
 |.list xs,none,none,some i=>if i = -1 then some (.list xs.reverse)else none
 |_,_,_,_=>none
noncomputable def WR(f:M D)(lo hi st:M (Option Int)):M D:=Kb f λx=>Kb lo λl=>Kb hi λh=>Kb st λt=>Kc (WH x l h t)
theorem Cm{lo hi:Option Us}{st:Us}{f:M D}{l h t:M (Option Int)}(he:PE X e (tD X.K B G0 f))(hl:PO X lo (tOi X.K B G0 l))(hu:PO X hi (tOi X.K B G0 h))(hst:PO X (some st) (tOi X.K B G0 t)) :
  PE X (.Subscript e (.Slice lo hi (some st) p2) pos) (tD X.K B G0 (WR f l h t)):=
 Kt (qu he hl hu hst) λσ H Q q=>by
  refine tM.one (R:=Rep X.K) q λv H2 G Z x k r a=>?_;refine tM.nx (R:=λ_ b c=>b=c) k a λl' H3 G3 Z3 xl k3 s3 r3 a3=>?_;refine tM.nx (R:=λ_ b c=>b=c) k3 a3 λh' H4 G4 Z4 xh k4 s4 r4 a4=>?_;refine tM.nx (R:=λ_ b c=>b=c) k4 a4 λt' H5 G5 Z5 xt k5 s5 r5 a5=>?_;have r3:l'=xl:=r3;have r4:h'=xh:=r4;have r5:t'=xt:=r5;subst r3 r4 r5
  cases x with
  |list xs=>
   cases l' with
   |some _=>exact a5.elim
   |none=>
   cases h' with
   |some _=>exact a5.elim
   |none=>
   cases t' with
   |none=>exact a5.elim
   |some i=>
   obtain⟨ad,vs,rfl,h1,r1⟩:=(((r.mono s3).mono s4).mono s5).lst_inv;by_cases hi:i = -1
   ·subst hi;exact⟨ad,vs,rfl,k5.gh.seq h1,rfl,rfl,rfl,λp hp=>aft.done a5 k5 (Ext.new k5.gh hp) (.lst (SqL.of Zf) (r1.reverse.mono (Zq (k5.gh.free hp))))⟩
   ·unfold Kc WH at a5;dsimp only at a5;rw[Qz hi]at a5;exact a5.elim
  |_=>unfold Kc WH at a5;exact a5.elim
noncomputable def YK:List D->Option (List D)
 |[.list xs]=>some xs
 |[.tuple xs]=>some xs
 |_=>none
theorem Hi{x l:List D}(h:YK x=some l):x=[.list l]∨x=[.tuple l]:=by
 unfold YK at h;split at h
 ·cases h;exact .inl rfl
 ·cases h;exact .inr rfl
 ·cases h
theorem Gz:bootBuiltins "list" = some (.type "list"):=by decide +kernel
theorem Bl{f:M (List D)}(hg:Gl X "list")(hm:X.mg "list" = none)(ha:PA X [a] (tDs X.K B G0 f))(he:Uv [a] X.env=(false,eval a X.env)::Uv [] X.env:=by rfl) :
  PE X (.Call (.Name "list" p2) [a] [] pos) (tL X.K B G0 (Kb f λxs=>Kc (YK xs))):=
 Kt (PM GK hg hm Gz ha (by decide) (by decide) he rfl) λσ H Q ⟨G,Z,k,q⟩=>by
  refine⟨G,Z,k,?_⟩;unfold Kb at q;cases z:f Z with
  |bad=>rw[z]at q;exact q.elim
  |ok xs Z1=>
   rw[z]at q;dsimp only[Kc]at q;intro vs G' H' k' s' r;cases z2:YK xs with
   |none=>rw[z2]at q;exact q.elim
   |some l=>
    rw[z2]at q;rcases Hi z2 with rfl|rfl
    ·obtain⟨v,rfl,q1⟩:=r.one_inv;obtain⟨p,ws,rfl,h1,r1⟩:=q1.lst_inv;exact⟨p,ws,rfl,.inl (k'.gh.seq h1),λad hp=>q ad ws G' _ (k'.ext (Ext.hid k'.gh hp)) s' (NewL.of k' hp r1)⟩
    ·obtain⟨v,rfl,q1⟩:=r.one_inv;obtain⟨p,ws,rfl,h1,r1⟩:=q1.tup_inv;exact⟨p,ws,rfl,.inr (YU k'.gh h1),λad hp=>q ad ws G' _ (k'.ext (Ext.hid k'.gh hp)) s' (NewL.of k' hp r1)⟩
noncomputable def Xl(i:Nat):M (List D):=λZ=>match Z[i]? with
 |some (some (.pub d))=>Kc (YK [d]) Z
 |some (some (.own ds))=>.ok ds Z
 |_=>.bad
theorem qt{i:Nat}(hg:Gl X "list")(hm:X.mg "list" = none)(ho:PE X a (K9 i))(he:Uv [a] X.env=(false,eval a X.env)::Uv [] X.env:=by rfl) :
  PE X (.Call (.Name "list" p2) [a] [] pos) (tL X.K B G0 (Xl i)):=
 Kt (PM GK hg hm Gz (XG ho Ws he) (by decide) (by decide) he rfl) λσ H Q ⟨G,Z,k,q⟩=>by
  unfold Xl at q;cases z:Z[i]? with
  |none=>rw[z]at q;exact q.elim
  |some oo=>
   cases oo with
   |none=>rw[z]at q;exact q.elim
   |some sl=>
    cases sl with
    |deep _ _=>rw[z]at q;exact q.elim
    |own ds=>rw[z]at q;dsimp only at q;obtain⟨ad,vs,h1,h2,h3,h4,h5⟩:=k.own i ds z;exact⟨.ref ad,h1,ad,vs,rfl,.inl (SqL.of h4),λl hp=>q l vs G _ (k.ext (Ext.hid k.gh hp)) (.refl _) (NewL.of k hp h5)⟩
    |pub d=>
     rw[z]at q;dsimp only[Kc]at q;obtain⟨v,h1,h2⟩:=k.pub i d z;cases z2:YK [d]with
     |none=>rw[z2]at q;exact q.elim
     |some l=>
      rw[z2]at q;dsimp only at q;rcases Hi z2 with e|e
      ·cases e;obtain⟨p,ws,rfl,g1,r1⟩:=h2.lst_inv;exact⟨_,h1,p,ws,rfl,.inl (k.gh.seq g1),λad hp=>q ad ws G _ (k.ext (Ext.hid k.gh hp)) (.refl _) (NewL.of k hp r1)⟩
      ·cases e;obtain⟨p,ws,rfl,g1,r1⟩:=h2.tup_inv;exact⟨_,h1,p,ws,rfl,.inr (YU k.gh g1),λad hp=>q ad ws G _ (k.ext (Ext.hid k.gh hp)) (.refl _) (NewL.of k hp r1)⟩
noncomputable def Ry:List D->Option D
 |[.int i]=>some (.int i)
 |[.bool b]=>some (.int (if b then 1 else 0))
 |_=>none
theorem FY:YF X (.type "int") Ry:=by
 refine⟨_,qk,λvs G H ds d Q s r e k=>?_⟩;unfold Ry at e;split at e
 ·cases e;obtain⟨v,rfl,q⟩:=r.one_inv;rw[q.int_inv];exact .inl ⟨_,rfl,k _ G H (.refl s) (.int _)⟩
 ·cases e;obtain⟨v,rfl,q⟩:=r.one_inv;rw[q.bl_inv];exact .inr ⟨_,rfl,k _ G H (.refl s) (.int _)⟩
 ·cases e
theorem FG{x:Str}{zs:List Str}(hg:Gl X x)(hm:∃ad o its n,X.mg x=some (.ref ad)/\X.K.lookup ad=some o/\o.cls=.type "tuple" /\ o.data=.seq its n/\its.size<=Ut/\Vals (zs.map V.str) its.toList)(hd:(x==("__debug__" : Str))=false:=by decide) :
  PE X (.Name x pos) (tD X.K B G0 (UQ (.tuple (zs.map UB)))):=by
 obtain⟨ad,o,its,n,hm,h1,h2,h3,h4,h5⟩:=hm;refine Kt (Lp (v:=.ref ad) hg hm rfl hd) λσ H Q ⟨G,Z,k,a⟩=>aft.now a k (.tup (.inr ⟨o,its,n,h1,h2,h3,h4,h5⟩) ?_)
 have:∀zs:List Str,Reps X.K G (zs.map V.str) (zs.map UB):=λzs=>by
  induction zs with
  |nil=>exact .nil
  |cons z r ih=>exact .cons (.str _) ih
 exact this zs
end
section
variable{X:Cx}{B G0:Hp}{e o a b c tg:Us}{pos p2 p3 p4:Pos}{es rest:List Us}{te to ti:TE}
theorem Wj:∀{ns:List Int}{us:List Um},Vals (ns.map V.int) us->PyProof.Rows.IntsAre us ns
 |[],_,.nil=>.nil
 |n::ns,_,.cons h t=>by obtain⟨tk,rfl⟩:=h;exact .cons n tk (Wj t)
noncomputable def VZ(ns:List Int):Nat:=(PyProof.Rows.firstMet (λi=>ns.getD i 0) ns.length).length
theorem qq(hc:X.calm=true):Yu X (.type "set") (λxs H Q=>∃l,∃ns:List Int,xs=[.ref l]/\SqL X.K H l (ns.map V.int)/\ns.length+1<4096/\∀S p,H p=none->Q (.ref p) (upd H p (.set S (VZ ns)))):=by
 intro pins s σ H xs us Q I rx h;obtain⟨l,ns,rfl,hq,hb,q⟩:=h;obtain⟨u,rfl,ru⟩:=rx.one;cases ru;obtain⟨its,rv,p,hz⟩:=I.list hq;have hi:=Wj rv;have hn:its.toArray.size=ns.length:=by have:=rv.length;rw[List.length_map]at this;simp;omega
 refine call_set_list (I.ok.hd hc) p.isList (ns:=ns) (by simpa using hi) (by rw[hn];exact hb) λh' tk hS hk=>?_
 rw[hn]at hS;refine⟨.ref s.heap.objs.size,_,I.laid (t':=tk) (λb o e=>hk b o (Qi e) e) (Qs _) (show Zo X.prog X.w _ h' _ (.set _ (VZ ns))from hS),rfl,q _ _ (I.hok.fresh (Qs _))⟩
theorem qp:Yu X (.builtin "len") (λxs H Q=>∃p S n,xs=[.ref p]/\H p=some (.set S n)/\Q (.int n) H):=by
 intro pins s σ H xs us Q I rx h;obtain⟨p,S,n,rfl,hp,q⟩:=h;obtain⟨u,rfl,ru⟩:=rx.one;cases ru;obtain⟨o,es,ep,t,h1,h2,h3,h4,h5,h6,h7,h8⟩:=(show s.heap.SetOf (intKind X.prog X.w) p S n from I.hok p _ hp)
 have hsb:scanBound=4096:=rfl;refine call_len_set h1 h2 h3 h7 (by omega) ?_;rw[h8];exact⟨.int n,H,I.tok _,⟨_,rfl⟩,q⟩
noncomputable def ZT:List D->Option (List Int)
 |[]=>some []
 |.int i::r=>(ZT r).map (i :: ·)
 |_=>none
theorem Ta{K:Frag}{G:Hp}:∀{vs:List V}{ds:List D}{ns:List Int},Reps K G vs ds->ZT ds=some ns->vs=ns.map V.int
 |_,_,ns,.nil,e=>by cases e;rfl
 |_,_,ns,.cons (d:=d) r t,e=>by
  cases d with
  |int b=>
   unfold ZT at e;cases z:ZT _ with
   |none=>rw[z]at e;cases e
   |some cs=>rw[z]at e;cases e;rw[r.int_inv,Ta t z];rfl
  |_=>cases e
theorem V8(ns:List Int):ZT (ns.map int)=some ns:=by
 induction ns with
 |nil=>rfl
 |cons b r ih=>rw[Qx,ZT,ih];rfl
noncomputable def Wv:List D->Option D
 |[.list ds]=>(match ZT ds with
  |some ns=>if ns.length+1<4096 then some (.int (VZ ns))else none
  |none=>none)
 |_=>none
theorem kh{xs:List D}{d:D}(h:Wv xs=some d):∃ds ns,xs=[.list ds]/\ZT ds=some ns/\ns.length+1<4096/\d=.int (VZ ns):=by
 unfold Wv at h;split at h
 ·rename_i ds;cases z:ZT ds with
  |none=>rw[z]at h;cases h
  |some ns=>
   rw[z]at h;dsimp only at h;split at h
   ·rename_i c;cases h;exact⟨ds,ns,rfl,z,c,rfl⟩
   ·cases h
 ·cases h
theorem qo:bootBuiltins "set" = some (.type "set"):=by decide +kernel
theorem ja{f:M (List D)}(hc:X.calm=true)(hg:Gl X "len")(hm:X.mg "len" = none)(hg2:Gl X "set")(hm2:X.mg "set" = none)(ha:PA X [a] (tDs X.K B G0 f))(he:Uv [a] X.env=(false,eval a X.env)::Uv [] X.env:=by rfl)
  (he2:Uv [.Call (.Name "set" p2) [a] [] p3] X.env=(false,eval (.Call (.Name "set" p2) [a] [] p3) X.env)::Uv [] X.env:=by rfl) :
  PE X (.Call (.Name "len" p4) [.Call (.Name "set" p2) [a] [] p3] [] pos) (tD X.K B G0 (K0 Wv f)):=
 Kt (PB qp hg hm boot_len (XG (PM (qq hc) hg2 hm2 qo ha (by decide) (by decide) he rfl) Ws he2) (by decide) (by decide) he2 rfl) λσ H Q q=>tM.one (R:=Reps X.K) q λvs H2 G Z x k r a=>by obtain⟨d,e,a⟩:=a.opt;obtain⟨ds,ns,rfl,z,c,rfl⟩:=kh e;obtain⟨v,rfl,q1⟩:=r.one_inv;obtain⟨l,ws,rfl,h1,r1⟩:=q1.lst_inv;have:=Ta r1 z;subst this;refine⟨l,ns,rfl,k.gh.seq h1,c,λS p hp=>⟨p,S,VZ ns,rfl,Zf,?_⟩⟩;exact aft.done a k (Ext.hid k.gh hp) (.int _)
end
end DL
namespace L2
open PySem PySem.Spec PyProof.Rows
section
variable{X:Cx}{tg:Us}
end
end L2
namespace DL
open PySem PySem.Spec L2
open PyProof.Rows hiding St
section
variable{X:Cx}{B G0:Hp}{e a b c tg:Us}{pos:Pos}{es rest:List Us}
end
end DL
namespace L2
open PySem PySem.Spec PyProof.Rows
section
variable{prog:Up}{w:World}{A:Around}{E:Um->Uo->Prop}{s:Uo}{M:Model}{env:Env}
theorem Ck{pos:Pos}{T:String}{args:List (Bool×Sem Um)}{kws:List (Option Str×Sem Um)}{Q:Um->Uo->Prop}(hp:args.any (·.1)=false)(hk:kws.any (·.1.isNone)=false)
  (h:Uu M A (evalArgs (.type T) true args kws) (λa s1=>Uu M A (call (.type T) a.pos a.kw) Q E s1) E s):Uu M A (callWith pos (.type T) [] args kws) Q E s:=by
 unfold callWith;refine Qd (JC (QG h (λa s1 h1=>Qd (Jr ?_)) λ_ _ z=>z));simp only[hp,hk,Bool.false_or];refine Qd (Qh ?_);exact Qd (QG h1 (λr s2 hr=>Qd (JC (wpAny_point (Qh hr)))) λ_ _ z=>z)
theorem Bk(l:Uq)(t:Tok)(items:Array Um)(n:Nat)(dct:Option Uq)(sl:Array (Option Um)) :
  Meets (Builtin.«enumerate.__new__» ⟨[.type "enumerate", .ref l],[("start", .int 1 t)]⟩) (λ_ R s=>s.heap.get? l=some ⟨.type "list", dct,.seq items n,sl⟩ /\
   R (.ok (.ret (.ref (s.heap.push {cls:=.type "list_iterator", data:=.fields #[.ref l,.int 0 0]}).objs.size))) {s with heap:=(s.heap.push {cls:=.type "list_iterator", data:=.fields #[.ref l,.int 0 0]}).push {cls:=.type "enumerate", data:=.fields #[.none,.bool false,.ref s.heap.objs.size,rawInt 1,.none,.none]}}):=
 .of_wp λprog w A R s h=>by
  obtain⟨hp,g,d,tk,os⟩:=s;obtain⟨hl,h⟩:=h;have hsub:=sub_enumerate;have hL:Heap.IsList (Shared.heap ⟨hp,g,d,tk,os⟩) l items:=⟨_,hl,rfl,n,rfl⟩
  wp_walk using AutoSeq1.wpAny_loadPart' hl
  refine wpAny_stack_any λst=>(Qh ?_);split
  ·rename_i c _ _ _ _ _;cases (c==Value.type "enumerate")<;>(wp_walk using(AutoSeq1.wpAny_loadPart' hl),(JG hL))<;>exact⟨_,rfl,h⟩
  ·(wp_walk using(AutoSeq1.wpAny_loadPart' hl),(JG hL));exact⟨_,rfl,h⟩
theorem kK{T newId initId:String}{Bn Bi:Builtin}{args:List Um}{kw:List (Str×Um)}{S:PySem.Spec}{Q Q1:Um->Uo->Prop}(ft:TypeCalled T newId initId)
  (hct:checkTypeCall T ⟨args,kw⟩=pure ()) (hcn:checkBuiltinCall newId ⟨.type T::args,kw⟩=pure ()) (eN:entryFor table newId=some Bn) (eI:entryFor table initId=some Bi)
  (g:Meets (Bn ⟨.type T::args,kw⟩) S) (h:S A.in1 (wants Q1 E) s)
  (hnext:∀obj s1,Q1 obj s1->s1.TypeIs obj T/\argsOk initId ⟨obj::args,kw⟩/\∃Si,Meets (Bi ⟨obj::args,kw⟩) Si/\Si A.in1 (wants (λr s2=>r=.none/\Q obj s2) E) s1) :
  Uu (model prog w) A (call (.type T) args kw) Q E s:=by
 obtain⟨c,tl,hmro⟩:=ft.mro;have hmade:=ft.made;have hsub:=ft.sub;refine wpAny_call (codeAny_of_tree ?_);show Uu _ _ (callAny (.type T) _) _ _ _;refine Qh ⟨Code.quiet_builtin _ (by decide +kernel),(codeAny_builtin F.entry_type_call ?_)⟩;rw[Around.under_plain (weight_type_call_type T args kw) (units_type_call_type T args kw)];have h1:=ft.notType;have h2:=ft.canCreate
 repeat' (any_goals (first|wp_step|assumption))
 refine codeAny_mono (codeAny_call_builtin ft.plain eN (wpAny_of_eq hcn (g prog w A.in1 _ s h))) λr s1 hr=>?_
 match r,hr with
 |.error e,hr=>exact hr
 |.ok (.ret obj),hr=>
  obtain⟨hT,hok,Si,gi,hsi⟩:=hnext _ _ hr;have hli:=ft.init.lookup;have hbi:=ft.init.bind obj
  repeat' (any_goals (first|wp_step|assumption))
  refine codeAny_mono (codeAny_call_builtin ft.init.plain eI (ft.init.check _ _ _ _ _ _ _ _ hT hok (gi prog w A.in1 _ s1 hsi))) λr2 s2 hr2=>?_
  match r2,hr2 with
  |.error e,hr2=>exact hr2
  |.ok (.ret r),hr2=>
   obtain⟨rfl,hq⟩:=hr2
   repeat' (any_goals (first|wp_step|assumption))
  |.ok .next,hr2=>exact hr2.elim
  |.ok .brk,hr2=>exact hr2.elim
  |.ok .cont,hr2=>exact hr2.elim
 |.ok .next,hr=>exact hr.elim
 |.ok .brk,hr=>exact hr.elim
 |.ok .cont,hr=>exact hr.elim
theorem kg{T newId:String}{self:Um}{rest:List Um}{kw:List (Str×Um)}(hl:typeLookup (.type T) "__init__" = pure (some (.builtin "object.__init__")))
  (hm:Bind.madeBy (.type T)=pure (some newId)) (hne:(some newId != some "object.__new__")=true) :
  Meets (Builtin.«object.__init__» ⟨self::rest,kw⟩) (λ_ R s=>s.TypeIs self T/\R (.ok (.ret .none)) s):=by
 refine .of_wp λprog w A R s hs=>?_
 obtain⟨hT,hq⟩:=hs;cases rest with
 |nil=>
  cases kw with
  |nil=>exact Qh ⟨_,rfl,hq⟩
  |cons k kw=>(repeat' (any_goals (first|wp_step|assumption)));exact⟨_,rfl,hq⟩
 |cons a rest=>(repeat' (any_goals (first|wp_step|assumption)));exact⟨_,rfl,hq⟩
theorem kf(a:Um)(t:Tok):checkTypeCall "enumerate" ⟨[a],[("start", .int 1 t)]⟩=pure ():=by kernel_rfl
theorem q9(a:Um)(t:Tok):checkBuiltinCall "enumerate.__new__" ⟨[.type "enumerate", a],[("start", .int 1 t)]⟩=pure ():=by kernel_rfl
theorem ke(o a:Um)(t:Tok):argsOk "object.__init__" ⟨[o,a],[("start", .int 1 t)]⟩:=by unfold argsOk;kernel_rfl
theorem q8{l:Uq}{items:Array Um}{t:Tok}{Q:Um->Uo->Prop}(hL:s.heap.IsList l items)
  (h:∀h',IsEnum h' (s.heap.objs.size+1) s.heap.objs.size 1 .none->h'.IsListIter s.heap.objs.size l 0->(∀b o,s.heap.get? b=some o->h'.get? b=some o)->Q (.ref (s.heap.objs.size+1)) {s with heap:=h'}) :
  Uu (model prog w) A (call (.type "enumerate") [.ref l] [("start", .int 1 t)]) Q E s:=by
 obtain⟨⟨c,dct,dt,sl⟩,hl,hc,n,hd⟩:=hL;replace hc:c=.type "list" :=hc;replace hd:dt=.seq items n:=hd;subst hc hd;have hz:(s.heap.push {cls:=.type "list_iterator", data:=.fields #[.ref l,.int 0 0]}).objs.size=s.heap.objs.size+1:=Heap.size_push ..;have he:IsEnum ((s.heap.push {cls:=.type "list_iterator", data:=.fields #[.ref l,.int 0 0]}).push {cls:=.type "enumerate", data:=.fields #[.none,.bool false,.ref s.heap.objs.size,rawInt 1,.none,.none]}) (s.heap.objs.size+1) s.heap.objs.size 1 .none:=by rw[←hz];exact Qy _ rfl
 refine kK F.called_enumerate (kf _ t) (q9 _ t) F.entry_enumerate_new F.entry_object_init (Bk l t items n dct sl) (Q1:=λobj s1=>s1.TypeIs obj "enumerate" /\ Q obj s1) ⟨hl,?_⟩ λobj s1 hq=>
  ⟨hq.1,ke obj _ t,_,kg F.called_enumerate.init.lookup F.called_enumerate.made (by decide),hq.1,rfl,hq.2⟩
 show _/\_;rw[hz];exact⟨⟨_,he,rfl⟩,h _ he ⟨_,Qm _ (Qy _ rfl),rfl,rfl⟩ λb o x=>Qm _ (Qm _ x)⟩
end
section
variable{prog:Up}{w:World}{A:Around}{E:Um->Uo->Prop}{s:Uo}
theorem qm{en it l:Uq}{i:Nat}{j:Int}{items:Array Um}{x old:Um}{Q:Option Um->Uo->Prop}(st:IsEnum s.heap en it j old)(li:s.heap.IsListIter it l i)(ls:s.heap.IsList l items)
  (at_:items[i]?=some x) (ne:en≠it)
  (k:∀h',IsEnumOut h' en it (j+1) x s.heap.objs.size->h'.IsListIter it l (i+1)->h'.get? s.heap.objs.size=some {cls:=.type "tuple", data:=.seq #[.int j s.toks,x]}->(∀b o,b≠en->b≠it->s.heap.get? b=some o->h'.get? b=some o) ->
   Q (some (.ref s.heap.objs.size)) {s with heap:=h',toks:=s.toks+1}):Uu (model prog w) A (pyNext (.ref en)) Q E s:=by
 have ty:s.TypeIs (.ref en) "enumerate" :=⟨_,st,rfl⟩
 have lt:en<s.heap.objs.size:=Qi st;unfold pyNext;refine Qd (wpAny_attempt (wpAny_callSpecial?_slot (name:=UH "__next__") ty F.slot_enumerate_next (JB F.slot_enumerate_next ty F.entry_enumerate_next ?_ (F.args_enumerate_next_1 _))));show Uu _ _ (field (.ref en) 2 >>= _) _ _ s;refine Qd (wpAny_field st rfl (x:=.ref it) rfl ?_);refine Qd (wpAny_nextOf_list_item li ls at_ λm1 li1 c1=>?_);have c1:Heap.SameBut it s.heap m1:=c1;have st1:IsEnum m1 en it j old:=(c1.2 en ne).trans st;show Uu _ _ (field (.ref en) 3 >>= _) _ _ {s with heap:=m1};refine Qd (wpAny_field st1 rfl (x:=rawInt j) rfl ?_);show Uu _ _ (field (.ref en) 4 >>= _) _ _ {s with heap:=m1};refine Qd (wpAny_field st1 rfl (x:=.none) rfl ?_);show Uu _ _ (mkInt j >>= _) _ _ {s with heap:=m1};refine Qd (wpAny_mkInt ?_);show Uu _ _ (setField (.ref en) 3 (rawInt (j+1)) >>= _) _ _ {s with heap:=m1,toks:=s.toks+1};refine wpAny_bind (wpAny_setField_rec st1 (by simp) λm2 st2 c2=>?_);have c2:Heap.SameBut en m1 m2:=c2;have st2:IsEnum m2 en it (j+1) old:=st2;show Uu _ _ (setField (.ref en) 4 .none >>= _) _ _ {s with heap:=m2,toks:=s.toks+1};refine wpAny_bind (wpAny_setField_rec st2 (by simp) λm3 st3 c3=>?_);have c3:Heap.SameBut en m2 m3:=c3;have st3:IsEnum m3 en it (j+1) old:=st3;show Uu _ _ (newTuple [.int j s.toks,x] >>= _) _ _ {s with heap:=m3,toks:=s.toks+1};refine Qd (wpAny_newTuple ?_);have z3:m3.objs.size=s.heap.objs.size:=c3.1.trans (c2.1.trans c1.1);have st4:IsEnum (m3.push {cls:=.type "tuple", data:=.seq #[.int j s.toks,x]}) en it (j+1) old:=Qm _ (show IsEnum m3 en it (j+1) old from st3);have tp4:(m3.push {cls:=.type "tuple", data:=.seq #[.int j s.toks,x]}).get? s.heap.objs.size=some {cls:=.type "tuple", data:=.seq #[.int j s.toks,x]}:=by rw[←z3];exact Qy _ rfl
 have kp4:∀b o,b≠en->b≠it->s.heap.get? b=some o->(m3.push {cls:=.type "tuple", data:=.seq #[.int j s.toks,x]}).get? b=some o:=λb o n1 n2 q=>Qm _ ((c3.2 b n1).trans ((c2.2 b n1).trans ((c1.2 b n2).trans q)))
 have li4:(m3.push {cls:=.type "tuple", data:=.seq #[.int j s.toks,x]}).IsListIter it l (i+1):=by obtain⟨o,q,r⟩:=li1;exact⟨o,Qm _ ((c3.2 it (Ne.symm ne)).trans ((c2.2 it (Ne.symm ne)).trans q)),r⟩
 generalize m3.push {cls:=.type "tuple", data:=.seq #[.int j s.toks,x]}=m4 at st4 tp4 kp4 li4;show Uu _ _ (Builtin.SmallTypes.ownedTupleIsFree (.ref en) >>= _) _ _ {s with heap:=m4,toks:=s.toks+1};rw[z3];refine Qd ?_;unfold Builtin.SmallTypes.ownedTupleIsFree Builtin.SmallTypes.ownedTupleHandOut;refine Qd (wpAny_field st4 rfl (x:=.none) rfl (Qh ?_));simp only[if_true];refine wpAny_bind (wpAny_rule (wpAny_bind (wpAny_field st4 rfl (x:=old) rfl (wpAny_bind (wpAny_setField_rec st4 (by simp) λm5 st5 c5=>?_)))));have c5:Heap.SameBut en m4 m5:=c5;have st5:IsEnum m5 en it (j+1) x:=st5;refine wpAny_bind (wpAny_bind (wpAny_setField_rec st5 (by simp) λm6 st6 c6=>?_));have c6:Heap.SameBut en m5 m6:=c6;have st6:IsEnumOut m6 en it (j+1) x s.heap.objs.size:=st6;refine wpAny_setField_rec st6 (by simp) λm7 st7 c7=>?_
 have c7:Heap.SameBut en m6 m7:=c7;have st7:IsEnumOut m7 en it (j+1) x s.heap.objs.size:=st7;have up:∀b,b≠en->m7.get? b=m4.get? b:=λb n=>(c7.2 b n).trans ((c6.2 b n).trans (c5.2 b n));refine Qd (wpAny_letGo (Qh ⟨_,rfl,Qh (k m7 st7 ?_ ((up _ (JT lt)).trans tp4) λb o n1 n2 q=>(up b n1).trans (kp4 b o n1 n2 q))⟩))
 obtain⟨o,q,r⟩:=li4;exact⟨o,(up it (Ne.symm ne)).trans q,r⟩
theorem qN{en it l:Uq}{i:Nat}{j:Int}{items:Array Um}{old:Um}{Q:Option Um->Uo->Prop}(hh:A.handled=none)(st:IsEnum s.heap en it j old)(li:s.heap.IsListIter it l i)(ls:s.heap.IsList l items)
  (at_:items[i]?=none) (k:∀h',Heap.ExtBut it s.heap h'->Q none {s with heap:=h'}):Uu (model prog w) A (pyNext (.ref en)) Q E s:=by
 have ty:s.TypeIs (.ref en) "enumerate" :=⟨_,st,rfl⟩
 unfold pyNext;refine Qd (wpAny_attempt (wpAny_callSpecial?_slot (name:=UH "__next__") ty F.slot_enumerate_next (JB F.slot_enumerate_next ty F.entry_enumerate_next ?_ (F.args_enumerate_next_1 _))));show Uu _ _ (field (.ref en) 2 >>= _) _ _ s;refine Qd (wpAny_field st rfl (x:=.ref it) rfl (Qd (m:=Builtin.SmallTypes.nextOf (.ref it)) (wpAny_nextOf_list_end hh li ls at_ λh' z c y=>?_)));obtain⟨o,q,t⟩:=y;exact Qd (wpAny_isInstance (T:= "StopIteration") (b:=true) ⟨o,q,t⟩ isSubtype_stop (Qh (k _ c)))
end
noncomputable def Sx(K:Frag)(a:Uq):It:=
 ⟨λi H=>∃xs x,SqL K H a xs/\xs[i]?=some x,
  λi H v H'=>∃p x,H p=none/\v=.ref p/\(∀xs,SqL K H a xs->xs[i]?=some x)/\H'=upd H p (.tup [.int (1+(i:Int)),x]),
  λi H=>∃xs,SqL K H a xs/\xs.length<=i⟩
theorem qZ{P:Up}{w:World}{K:Frag}{elts:List Us}{x1}{tp:Pos}(a e it:Uq)(hne:e≠it) :
  Turn P w K (.Tuple elts x1 tp) (Sx K a) [e,it] e (λi h=>(∃old,IsEnum h e it (1+(i:Int)) old)/\h.IsListIter it a i) where
 mem:=by simp
 obj:=λi h st b hb=>by
  obtain⟨⟨old,he⟩,o,ho,c,d⟩:=st;have hb':b=e∨b=it:=by simpa using hb
  rcases hb' with rfl|rfl
  ·exact⟨_,he,λv z=>by have z':Data.fields _=Data.cell v:=z;cases z'⟩
  ·exact⟨o,ho,λv z=>by rw[d]at z;cases z⟩
 keep:=λi h h' st k=>by obtain⟨⟨old,he⟩,hi⟩:=st;exact⟨⟨old,k e (by simp) _ he⟩,hi.at λo q=>k it (by simp) o q⟩
 item:=by
  intro X hP hw hK hc i pins s σ H E I hf st hg;subst hP hw hK;obtain⟨⟨old,he⟩,hi⟩:=st;obtain⟨xs,x,hq,hx⟩:=hg;obtain⟨its,rv,p,hz⟩:=I.list hq;obtain⟨u,hu,ru⟩:=rv.get hx;refine qm he hi p.isList (x:=u) (by simpa using hu) hne λh1 out hi1 ht kk=>?_
  refine⟨_,rfl,wpAny_letOwnedTupleGo_enum out λh2 he2 hs2=>?_⟩;have hel:e<s.heap.objs.size:=Qi he;have hs2':Heap.SameBut e h1 h2:=hs2;have ht2:h2.get? s.heap.objs.size=some {cls:=.type "tuple", data:=.seq #[.int (1+(i:Int)) s.toks,u]}:=(hs2'.2 _ (JT hel)).trans ht
  have kk2:∀b o,b∉[e,it]->s.heap.get? b=some o->h2.get? b=some o:=λb o hb q=>by
   have hbe:b≠e:=λz=>hb (by simp[z])
   have hbi:b≠it:=λz=>hb (by simp[z])
   exact(hs2'.2 b hbe).trans (kk b o hbe hbi q)
  have hn:H s.heap.objs.size=none:=I.hok.fresh (Qs _)
  have I2:Inv X pins σ (upd H s.heap.objs.size (.tup [.int (1+(i:Int)),x])) {s with heap:=h2,toks:=s.toks+1}:=
   I.turnedNew (fp:=[e,it]) hf kk2 (Qs _) ⟨by show 2<=Ut;decide,[.int (1+(i:Int)) s.toks,u],.cons ⟨_,rfl⟩ (.cons ru .nil),⟨_,ht2,rfl,_,rfl⟩⟩
  refine⟨.ref s.heap.objs.size,_,I2,rfl,⟨_,x,hn,rfl,λys hy=>by rw[I.list_inj hy hq];exact hx,rfl⟩,⟨⟨u,?_⟩,?_⟩,λb hb=>?_⟩
  ·have e2:(1+((i+1:Nat):Int))=1+(i:Int)+1:=by omega
   rw[e2];exact he2
  ·exact hi1.at λo q=>(hs2'.2 it (Ne.symm hne)).trans q
  ·have hlt:b<s.heap.objs.size:=by
    have hb':b=e∨b=it:=by simpa using hb
    rcases hb' with rfl|rfl
    ·exact hel
    ·obtain⟨o,ho,_⟩:=hi;exact Qi ho
   rw[KN (QP hlt)];exact(hf b hb).1
 done:=by intro X hP hw hK hc i pins s σ H E I hf st hg;subst hP hw hK;obtain⟨⟨old,he⟩,hi⟩:=st;obtain⟨xs,hq,hx⟩:=hg;obtain⟨its,rv,p,hz⟩:=I.list hq;have hl:=rv.length;exact qN (I.ok.hd hc) he hi p.isList (by simp;omega) λh' eb=>⟨rfl,I.turnedL (t':=s.toks) hf λb o hb q=>eb b o (λz=>hb (by simp[z])) q⟩
 self:=λ_ _ _ _ _ st h=>by obtain⟨⟨old,he⟩,_⟩:=st;exact wpAny_pyIter_enum he h
section
variable{X:Cx}
theorem Bj{a:Us}{ta:TA}{p pos k1 k2:Pos}{j}{elts:List Us}{x1}{tp:Pos}(hg:Gl X "enumerate")(hm:X.mg "enumerate" = none)(ha:PA X [a] ta)
  (hs:backTo pos (Uv [a] X.env)=(false,eval a X.env)::backTo pos (Uv [] X.env):=by rfl) (hpl:(backTo pos (Uv [a] X.env)).any (·.1)=false:=by rfl) :
  PI X (.Tuple elts x1 tp) (.Call (.Name "enumerate" p) [a] [⟨some "start", .Constant (.int 1) j k1,k2⟩] pos) (λσ H R=>ta σ H λvs H1=>∃a xs,vs=[.ref a]/\SqL X.K H1 a xs/\R (Sx X.K a) H1):=by
 intro pins s σ H R I h;refine wpAny_Call_Name_kw (VG I hg hm boot_enumerate (Ck hpl rfl ?_));rw[hs];refine evalArgs_kwB rfl ?_;rw[←hs];refine thn (ha pos pins s σ H _ I h) λus s1 ⟨vs,H1,I1,r1,q1⟩=>?_;refine kws_cons (wpAny_Constant_int (kws_nil ?_))
 obtain⟨l,xs,e,hq,q⟩:=q1;subst e;cases r1 with
 |cons r rr=>
  cases rr;cases (show _=Value.ref l from r);have I1':=I1.tok (s1.toks+1);obtain⟨its,rv,pl,hz⟩:=I1'.list hq;refine q8 pl.isList λh' he hi kk=>?_;have I2:Inv X pins σ H1 {s1 with heap:=h',toks:=s1.toks+1}:=I1'.kept (t':=s1.toks+1) kk;refine wpAny_pyIter_enum he ?_
  refine⟨s1.heap.objs.size+1,[s1.heap.objs.size+1,s1.heap.objs.size],_,_,H1,rfl,I2,qZ l _ _ (Nat.succ_ne_self _),⟨⟨_,he⟩,hi⟩,λb hb=>?_,q⟩;have hb':b=s1.heap.objs.size+1∨b=s1.heap.objs.size:=by simpa using hb
  rcases hb' with rfl|rfl
  ·exact I1.fpOk (JZ _) (I1.hok.fresh (JZ _))
  ·exact I1.fpOk (Qs _) (I1.hok.fresh (Qs _))
end
end L2
namespace DL
open PySem PySem.Spec L2
open PyProof.Rows hiding St
section
variable{X:Cx}{B G0:Hp}{e a b c tg:Us}{pos:Pos}{es rest:List Us}
theorem ka{K:Frag}{G1:Hp}{ad:Uq}{vs:List V}{ds:List D}(h:SqL K G1 ad vs)(r:Reps K G1 vs ds):Xj K (Sx K ad) (Ye 1 ds) G1 where
 go:=λi G H s1 s2 hi=>by
  rw[Yr]at hi;have hi':i<vs.length:=by rw[r.length];exact hi
  exact⟨vs,vs[i],(s1.trans s2).seq h,Qf hi'⟩
 stop:=λi G H s1 s2 hi=>by rw[Yr]at hi;exact⟨vs,(s1.trans s2).seq h,by rw[r.length];exact hi⟩
 yld:=λi G H x H' d s1 s2 e y=>by
  obtain⟨p,v,hp,rfl,y1,rfl⟩:=y;have z1:=y1 vs ((s1.trans s2).seq h);rw[Nd]at e;cases q:ds[i]? with
  |none=>rw[q]at e;cases e
  |some dd=>
   rw[q]at e;cases e;obtain⟨v',e1,r1⟩:=r.get q;rw[z1]at e1;cases e1;refine⟨upd G p (.tup [.int (1+(i:Int)),v]),Ext.new s2 hp,.tup (SqT.of Zf) (.cons ?_ (.cons ((r1.mono s1).mono (Zq (s2.free hp))) .nil))⟩;have:((1+i:Nat):Int)=1+(i:Int):=by omega
   rw[this];exact .int _
noncomputable def SW:List D->Option (List D)
 |[.list ds]=>some (Ye 1 ds)
 |_=>none
noncomputable def Pf(f:M (List D)):M (List D):=Kb f λx=>Kc (SW x)
theorem qY{x l:List D}(h:SW x=some l):∃ds,x=[.list ds]/\l=Ye 1 ds:=by
 unfold SW at h;split at h
 ·cases h;exact⟨_,rfl,rfl⟩
 ·cases h
theorem Bh{f:M (List D)}{p2 k1 k2:Pos}{j}{elts:List Us}{x1}{tp:Pos}(hg:Gl X "enumerate")(hm:X.mg "enumerate" = none)(ha:PA X [a] (tDs X.K B G0 f))
  (hs:backTo pos (Uv [a] X.env)=(false,eval a X.env)::backTo pos (Uv [] X.env):=by rfl) (hpl:(backTo pos (Uv [a] X.env)).any (·.1)=false:=by rfl) :
  PI X (.Tuple elts x1 tp) (.Call (.Name "enumerate" p2) [a] [⟨some "start", .Constant (.int 1) j k1,k2⟩] pos) (iD X.K B G0 (Pf f)):=Y2 (Bj hg hm ha hs hpl) λσ H R q=>tM.toI (R0:=Reps X.K) q λv H' G' Z' x k r a=>by
 cases z:SW x with
 |none=>rw[z]at a;exact a.elim
 |some l=>rw[z]at a;obtain⟨ds,rfl,rfl⟩:=qY z;obtain⟨v,rfl,q⟩:=r.one_inv;obtain⟨l,ws,rfl,h1,r1⟩:=q.lst_inv;exact⟨l,ws,rfl,k.gh.seq h1,a _ G' H' k (.refl _) (ka h1 r1)⟩
end
section
variable{X:Cx}
noncomputable def most:List Int->Int
 |[]=>0
 |[n]=>n
 |n::r=>if most r > n then most r else n
theorem RS:∀{ns:List Int},0<ns.length->most ns∈ns
 |[n],_=>QW.2 rfl
 |n::m::r,_=>by
  have ih:=RS (ns:=m::r) (Uj _);unfold most;split
  ·exact Qj _ ih
  ·exact Qk ..
theorem OH:∀{ns:List Int}{a:Int},a∈ns->a<=most ns
 |[n],a,h=>by rw[QW.1 h];exact QZ _
 |n::m::r,a,h=>by
  have ih:∀b,b∈m::r->b<=most (m::r):=λb hb=>OH hb;unfold most;rcases QQ.1 h with e|h
  ·subst e;split<;>omega
  ·have:=ih a h;split<;>omega
theorem Cj{ns:List Int}{M:Int}(h1:M∈ns)(h2:∀a,a∈ns->a<=M):most ns=M:=
 JQ (h2 _ (RS (J0 h1))) (OH h1)
theorem qM(hc:X.calm=true):Yu X (.builtin "max") (λxs H Q=>∃l,∃ns:List Int,xs=[.ref l]/\SqL X.K H l (ns.map V.int)/\0<ns.length/\Q (.int (most ns)) H):=by
 intro pins s σ H xs us Q I rx h;obtain⟨l,ns,rfl,hq,hb,q⟩:=h;obtain⟨u,rfl,ru⟩:=rx.one;cases ru;obtain⟨its,rv,p,hz⟩:=I.list hq;have hi:=Wj rv;obtain⟨ys,e⟩:=hi.allInts.items;have hns:ns=ys.toList.map (·.1):=by rw[←hi.numsOf,←nums_intItems,←e]
 have hsz:0<ys.size:=by rw[hns,Qb,Jh]at hb;exact hb
 have hl:=p.isList;rw[e]at hl;refine max_intList (I.ok.hd hc) hl hsz λv h' tk hv hk=>?_
 obtain⟨t,rfl⟩:=intItems_at hv;obtain⟨h1,h2⟩:=argBest_gt (numAt ys) (ys.size-1);refine⟨.int (most ns),H,I.kept hk,⟨t,?_⟩,q⟩;rw[Cj (M:=_) ?_ ?_]
 ·rw[hns,numAt_eq];exact getD_mem (by rw[Qb,Jh];omega)
 ·intro a ha;rw[hns]at ha;obtain⟨j,hj,rfl⟩:=mem_getD ha;rw[Qb,Jh]at hj;rw[←numAt_eq];exact h2 j (by omega)
noncomputable def Vu:List D->Option D
 |[.list ds]=>(match ZT ds with
  |some ns=>if 0<ns.length then some (.int (most ns))else none
  |none=>none)
 |_=>none
theorem qL{xs:List D}{d:D}(h:Vu xs=some d):∃ds ns,xs=[.list ds]/\ZT ds=some ns/\0<ns.length/\d=.int (most ns):=by
 unfold Vu at h;split at h
 ·rename_i ds;cases z:ZT ds with
  |none=>rw[z]at h;cases h
  |some ns=>
   rw[z]at h;dsimp only at h;split at h
   ·rename_i c;cases h;exact⟨ds,ns,rfl,z,c,rfl⟩
   ·cases h
 ·cases h
theorem FX(hc:X.calm=true):YF X (.builtin "max") Vu:=by refine⟨_,qM hc,λvs G H ds d Q s r e k=>?_⟩;obtain⟨ds,ns,rfl,z,c,rfl⟩:=qL e;obtain⟨v,rfl,q1⟩:=r.one_inv;obtain⟨l,ws,rfl,h1,r1⟩:=q1.lst_inv;have:=Ta r1 z;subst this;exact⟨l,ns,rfl,s.seq h1,c,k _ G H (.refl s) (.int _)⟩
theorem O4{ns:List Int}(h:0<ns.length):Vu [.list (ns.map .int)]=some (.int (most ns)):=by unfold Vu;simp only[V8,Qp h]
end
section
variable{X:Cx}{B G0:Hp}{e o:Us}{es:List Us}
theorem j9{h:Heap}{vs:List Um}{xs:List D}{as:List Uq}{d:D}(rs:ReadsAll h vs xs as)(hxs:UD xs=true) :
  vs.countP (λy=>UF (SeqAt.readOf h y) d)=xs.countP (λy=>UF y d):=by
 have key:xs=vs.map (SeqAt.readOf h):=(SeqAt.readsAll_map xs vs as hxs rs).symm;rw[key,List.countP_map];rfl
noncomputable def VL(y x:D):Option D:=match y with
 |.list ds=>if x.canLay0=true/\UD ds=true/\x.depth<=60 then some (.int (ds.countP λy=>UF y x))else none
 |_=>none
theorem Bg(hu:X.A.units+64<cLine):MtR X "list.count" (λv vs H Q=>∃G u y x d,vs=[u]/\Same G H/\Rep X.K G v y/\Rep X.K G u x/\VL y x=some (.int d)/\Q (.int d) H):=by
 intro pins s σ H x xs v us Q I rx rs h;obtain⟨G,u,dy,dx,d,rfl,sg,py,px,e,q⟩:=h;obtain⟨w,rfl,rw'⟩:=rs.one;unfold VL at e;split at e
 ·rename_i ds;split at e
  ·rename_i c;obtain⟨bs,rb⟩:=YW I sg py rx (show UD _=true from c.2.1);obtain⟨as,ra⟩:=YW I sg px rw' c.1;cases rb with
   |list h1 h2 h3 h4=>rename_i l ob its cs n;obtain⟨cls,dd,data,sl⟩:=ob;simp only at h2 h3;subst h2 h3;refine call_meets F.slot_list_count ⟨_,h1,rfl⟩ F.entry_list_count (F.args_list_count_2 _ _) (SeqAt.list_countAt _ _ _ dd sl _ (λy=>UF (SeqAt.readOf s.heap y) dx)) ⟨h1,SeqAt.items_eqAt h4 ra c.2.1 c.1 (by have:=c.2.2;omega),?_⟩;rw[j9 h4 c.2.1];cases e;exact⟨.int _,H,I.tok _,⟨_,rfl⟩,q⟩
  ·cases e
 ·cases e
noncomputable def Pv(y:D)(xs:List D):Option D:=match xs with
 |[x]=>VL y x
 |_=>none
theorem j8{ds xs:List D}{d:D}(h:Pv (.list ds) xs=some d):∃x n,xs=[x]/\d=.int n/\VL (.list ds) x=some (.int n):=by
 unfold Pv at h;split at h
 ·rename_i x;have h':=h;unfold VL at h;dsimp only at h;split at h
  ·cases h;exact⟨x,_,rfl,rfl,h'⟩
  ·cases h
 ·cases h
noncomputable def VE(f:M D)(g:M (List D)):M D:=Kb f λy=>Kb g λxs=>Kc (match y with | .list ds=>Pv (.list ds) xs|_=>none)
theorem qK{apos cpos:Pos}{f:M D}{g:M (List D)}(hu:X.A.units+64<cLine)(ho:PE X o (tD X.K B G0 f))(ha:PA X (e::es) (tDs X.K B G0 g))
  (hbase:attributeBase o "count" X.env (eval o X.env)=eval o X.env:=by rfl)
  (hfew:((backTo cpos (Uv (e::es) X.env)).all (λx=>!x.1)&&(backToKw cpos (keywordEach [] X.env)).all (λx=>x.1.isSome)
   && decide ((e::es).length+([]:List Keyword).length+(if([]:List Keyword).isEmpty then 0 else 1)<30))=true:=by rfl)
  (hline:(apos.endLine==cpos.line)=true:=by rfl) (hs:Uv (e::es) X.env=(false,eval e X.env)::Uv es X.env:=by rfl) (hplain:(backTo cpos (Uv es X.env)).any (·.1)=false:=by rfl) :
  PE X (.Call (.Attribute o "count" apos) (e::es) [] cpos) (tD X.K B G0 (VE f g)):=
 Kt (Pb F.plainAttrs_list F.slot_list_count F.type_list_count (Bg hu) ho ha hbase hfew hline hs hplain) λσ H Q q=>by
  refine tM.one (R:=Rep X.K) q λv H2 G Z y k r a=>?_
  cases y with
  |list ds=>
   obtain⟨l,ws,rfl,h1,r1⟩:=r.lst_inv;refine⟨.inl ⟨rfl,ws,k.gh.seq h1⟩,?_⟩;refine tM.nx (R:=Reps X.K) k a λxs H3 G3 Z3 es k3 s3 r3 a3=>?_
   obtain⟨d,e,a3⟩:=a3.opt;obtain⟨x,n,rfl,rfl,e'⟩:=j8 e;obtain⟨u,rfl,ru⟩:=r3.one_inv;exact⟨G3,u,.list ds,x,n,rfl,k3.gh,r.mono s3,ru,e',aft.now a3 k3 (.int _)⟩
  |_=>
   unfold Kb at a;cases z:g Z with
   |bad=>rw[z]at a;exact a.elim
   |ok xs Z1=>rw[z]at a;exact a.elim
theorem Px{f:M D}{g:M (List D)}{Z Z1 Z2:UJ}{ds:List D}{x d:D}(h1:f Z=.ok (.list ds) Z1)(h2:g Z1=.ok [x] Z2)(h3:VL (.list ds) x=some d):VE f g Z=.ok d Z2:=by unfold VE Kb;rw[h1];dsimp only;rw[h2];dsimp only[Pv];rw[h3];rfl
end
section
variable{prog:Up}{w:World}{A:Around}{R:Result->Uo->Prop}{h0:Heap}{l I S:Uq}{rs:List (Uq×List Um)}
def Xx(h h':Heap):Prop:=∀b o,h.get? b=some o->h'.get? b=some o
def Ls1(h:Heap)(a:Uq)(its:List Um)(sl:Array (Option Um)):Prop:=∃n,h.get? a=some {cls:=.type "list", dict:=none,data:=.seq its.toArray n,slots:=sl}
def Ls(h:Heap)(a:Uq)(its:List Um):Prop:=∃n sl,h.get? a=some {cls:=.type "list", dict:=none,data:=.seq its.toArray n,slots:=sl}
theorem Ls.kept{h h':Heap}{a:Uq}{its:List Um}(x:Ls h a its)(k:Xx h h'):Ls h' a its:=by obtain⟨n,sl,e⟩:=x;exact⟨n,sl,k _ _ e⟩
theorem qX(hh:A.in1.handled=none)(hI:h0.objs.size<=I)(hS:h0.objs.size<=S)(hIS:S≠I)(hl:h0.IsList l (rs.map λp=>Value.ref p.1).toArray)(hr:∀p∈rs,Ls h0 p.1 p.2) :
  ∀(k i:Nat)(s:Uo)(t:Uq)(acc:List Um)(c:Nat)(sl:Array (Option Um)),rs.length-i=k->i<=rs.length->Xx h0 s.heap->s.heap.IsListIter I l i ->
   s.heap.get? S=some {cls:=.type "list", dict:=none,data:=.seq #[.ref t] c,slots:=#[]}->t≠S->t≠I->Ls1 s.heap t acc sl->acc.length+((rs.drop i).map (·.2)).flatten.length<=Ut ->
   (∀p h' tk sl',Xx h0 h'->Ls1 h' p (acc++((rs.drop i).map (·.2)).flatten) sl'->(p=t/\i=rs.length/\sl'=sl∨h0.objs.size<=p/\sl'=#[])->R (.ok (.ret (.ref p))) {s with heap:=h',toks:=tk}) ->
   codeAny (model prog w) A (.builtin "sum.loop" ⟨[.ref I,.ref S,rawInt 2,rawInt 0],[]⟩) R s:=by
 intro k;induction k with
 |zero=>
  intro i s t acc c sl hk hi hK hit hSS htS htI ht hz hR;have hin:i=rs.length:=by omega
  subst hin;refine codeAny_builtin F.entry_sum_loop ?_;rw[Around.under_plainId F.plain_sum_loop _];show Uu _ A.in1 (seqItems? (.ref S) >>= _) _ _ s;refine Qd (wpAny_seqItems hSS rfl ?_);show Uu _ A.in1 (tryCatch (pyNext (.ref I)) _ >>= _) _ _ s;have hl':s.heap.IsList l (rs.map λp=>Value.ref p.1).toArray:=by obtain⟨o,e,r⟩:=hl;exact⟨o,hK _ _ e,r⟩
  refine wpAny_bind (wpAny_tryCatch (wpAny_pyNext_list_end hh hit hl' (by simp) λh' ex=>?_));refine Qh (hR t h' s.toks sl (λb o e=>?_) ?_ (.inl ⟨rfl,rfl,rfl⟩))
  ·exact ex b o (QP (QF (Qi e) hI)) (hK b o e)
  ·obtain⟨n,e⟩:=ht;rw[List.drop_length,Uh,List.flatten_nil,Q7];exact⟨n,ex _ _ htI e⟩
 |succ k ih=>
  intro i s t acc c sl hk hi hK hit hSS htS htI ht hz hR;have hlt:i<rs.length:=by omega
  refine codeAny_builtin F.entry_sum_loop ?_;rw[Around.under_plainId F.plain_sum_loop _];show Uu _ A.in1 (seqItems? (.ref S) >>= _) _ _ s;refine Qd (wpAny_seqItems hSS rfl ?_);show Uu _ A.in1 (tryCatch (pyNext (.ref I)) _ >>= _) _ _ s;have hl':s.heap.IsList l (rs.map λp=>Value.ref p.1).toArray:=by obtain⟨o,e,r⟩:=hl;exact⟨o,hK _ _ e,r⟩
  refine wpAny_bind (wpAny_tryCatch (wpAny_pyNext_list_item (x:=.ref (rs[i]'hlt).1) hit hl' (by simp[hlt]) λh' hit' sb=>?_));show Uu _ A.in1 ((holding [Value.ref (rs[i]'hlt).1] (binaryOp .Add (.ref t) (.ref (rs[i]'hlt).1))).attempt >>= _) _ _ _;refine Qd (wpAny_attempt (JC ?_));have hm:rs[i]'hlt∈rs:=JE hlt;have hd:rs.drop i=rs[i]'hlt::rs.drop (i+1):=Jd hlt;have hK':Xx h0 h':=λb o e=>(sb.2 b (QP (QF (Qi e) hI))).trans (hK b o e)
  obtain⟨n1,e1⟩:=ht;have e1':=(sb.2 t htI).trans e1;obtain⟨n2,s2,e2⟩:=(hr _ hm).kept hK';have hSS':=(sb.2 S hIS).trans hSS;rw[hd,Qx,QL,Ql]at hz;refine concat_meets ⟨_,e1',rfl⟩ ⟨_,e2,rfl⟩ noFill_list_add seq_list_add PySem.F.slot_list_add PySem.F.entry_list_add (PySem.F.args_list_add_2 _ _) (list_addW t _ acc.toArray _ n1 n2 none none sl s2 (by rw[QH,QH];omega)) ⟨e1',e2,?_⟩;have hlS:S<h'.objs.size:=Qi hSS';have hlI:I<h'.objs.size:=by obtain⟨o,e,_⟩:=hit';exact Qi e
  have ea:acc.toArray++(rs[i]'hlt).2.toArray=(acc++(rs[i]'hlt).2).toArray:=by simp
  rw[ea];have hP:∀b o,h'.get? b=some o->(h'.push {cls:=Value.type "list", data:=Data.seq (acc++(rs[i]'hlt).2).toArray}).get? b=some o:=λb o e=>Qm _ e
  have hS1:=hP _ _ hSS';have hNew:(h'.push {cls:=Value.type "list", data:=Data.seq (acc++(rs[i]'hlt).2).toArray}).get? h'.objs.size=some {cls:=Value.type "list", data:=Data.seq (acc++(rs[i]'hlt).2).toArray}:=Qy _ rfl;show Uu _ A.in1 (updateSeq S (λ_=>#[.ref h'.objs.size]) >>= _) _ _ _;refine Qd (wpAny_updateSeq hS1 rfl ?_);have hS2:=Heap.get?_update_self (Obj.mapSeq λ_=>#[Value.ref h'.objs.size]) hS1 rfl;refine Qd (wpAny_letGo ?_);refine Qd (wpAny_updateSeq hS2 rfl (Qh ⟨plainId_quiet F.plain_sum_loop _,?_⟩));have oth:∀b o,b≠S->(h'.push {cls:=Value.type "list", data:=Data.seq (acc++(rs[i]'hlt).2).toArray}).get? b=some o->(((h'.push {cls:=Value.type "list", data:=Data.seq (acc++(rs[i]'hlt).2).toArray}).update S (Obj.mapSeq λx=>#[Value.ref h'.objs.size])).update S (Obj.mapSeq λx=>#[Value.ref h'.objs.size])).get? b=some o:=λb o hb e=>(Heap.get?_update_other _ _ (Ne.symm hb)).trans ((Heap.get?_update_other _ _ (Ne.symm hb)).trans e)
  refine ih (i+1) _ h'.objs.size (acc++(rs[i]'hlt).2) _ #[] (by omega) hlt ?_ ?_ (Heap.get?_update_self _ hS2 rfl) (JT hlS) (JT hlI) ?_ (by rw[Ql];omega) λp h'' tk sl' hk'' hp hq=>?_
  ·exact λb o e=>oth b o (QP (QF (Qi e) hS)) (hP b o (hK' b o e))
  ·obtain⟨o,e,r⟩:=hit';exact⟨o,oth I o (Ne.symm hIS) (hP I o e),r⟩
  ·exact⟨_,oth _ _ (JT hlS) hNew⟩
  ·refine hR p h'' tk sl' hk'' ?_ (.inr ?_)
   ·rw[hd,Qx,QL,←Ja];exact hp
   ·rcases hq with ⟨rfl, -,e⟩|hq
    ·exact⟨Nat.le_of_lt (Nat.lt_of_le_of_lt hS hlS),e⟩
    ·exact hq
end
section
variable{prog:Up}{w:World}{A:Around}{E:Um->Uo->Prop}{s:Uo}{l z:Uq}{rs:List (Uq×List Um)}
theorem qJ(a b:Um):argsOk "sum" ⟨[a,b],[]⟩:=by unfold argsOk;kernel_rfl
theorem qW{Q:Um->Uo->Prop}(hh:A.handled=none)(hl:s.heap.IsList l (rs.map λp=>Value.ref p.1).toArray)(hr:∀p∈rs,Ls s.heap p.1 p.2)(hz:Ls s.heap z [])(hb:(rs.map (·.2)).flatten.length<=Ut)
  (h:∀p h' tk sl',Xx s.heap h'->Ls1 h' p (rs.map (·.2)).flatten sl'->(p=z/\rs=[]∨s.heap.objs.size<=p/\sl'=#[])->Q (.ref p) {s with heap:=h',toks:=tk}) :
  Uu (model prog w) A (call (.builtin "sum") [.ref l,.ref z]) Q E s:=by
 refine call_function_tree F.kind_sum F.plain_sum F.entry_sum (qJ _ _) ?_;unfold Builtin.«sum»;simp only[QO,QB];rw[Qz (by decide)];refine Qd (wpAny_of_eq (show Builtin.Builtins.bindParams "sum" ["start"] 0 ⟨[.ref z],[]⟩=pure [some (.ref z)]from rfl) ?_);refine Qd (JG hl ?_);refine Qd (Qh ?_);obtain⟨n,sl,ez⟩:=id hz;have ty:∀h:Heap,h.get? z=some {cls:=.type "list", dict:=none,data:=.seq [].toArray n,slots:=sl}->({s with heap:=h}:Uo).TypeIs (.ref z) "list" :=λh e=>⟨_,e,rfl⟩
 have ez':(s.heap.push {cls:=.type "list_iterator", data:=.fields #[.ref l,.int 0 0]}).get? z=_:=Qm _ ez;simp only[List.forIn_cons,List.forIn_nil];refine Qd (Qd (Qd (wpAny_isInstance (T:= "list") (b:=false) (ty _ ez') F.sub_list_str ?_)));simp only[JF,Ud];refine Qh (Qd (Qd (wpAny_isInstance (T:= "list") (b:=false) (ty _ ez') F.sub_list_bytes ?_)));simp only[JF,Ud];refine Qh (Qd (Qd (wpAny_isInstance (T:= "list") (b:=false) (ty _ ez') F.sub_list_bytearray ?_)));simp only[JF,Ud];refine Qh (Qh ?_);refine Qd (wpAny_newObj_type ?_);have hzs:=Qi ez;have s1:(s.heap.push {cls:=.type "list_iterator", data:=.fields #[.ref l,.int 0 0]}).objs.size=s.heap.objs.size+1:=Heap.size_push ..;have k2:Xx s.heap ((s.heap.push {cls:=.type "list_iterator", data:=.fields #[.ref l,.int 0 0]}).push {cls:=.type "list", data:=.seq #[.ref z]}):=λb o e=>Qm _ (Qm _ e)
 refine Qh ⟨plainId_quiet F.plain_sum_loop _,qX (h0:=s.heap) (l:=l) (I:=s.heap.objs.size) (S:=(s.heap.push {cls:=.type "list_iterator", data:=.fields #[.ref l,.int 0 0]}).objs.size) (rs:=rs) hh (Qs _) (by rw[s1];exact JZ _) (by rw[s1];exact Nat.succ_ne_self _) hl hr rs.length 0 _ z [] 0 sl rfl (JH _)
  k2 ⟨_,Heap.get?_push_of_some _ (Heap.get?_push_size _ rfl),rfl,rfl⟩ (Heap.get?_push_size _ rfl) (by rw[s1];exact Nat.ne_of_lt (Nat.lt_succ_of_lt hzs)) (Nat.ne_of_lt hzs) ⟨n,k2 _ _ ez⟩ (by simpa using hb) λp h' tk sl' hk hp hq=>?_⟩
 exact h p h' tk sl' hk (by simpa using hp) (hq.imp (λe=>⟨e.1,List.eq_nil_of_length_eq_zero e.2.1.symm⟩) id)
end
section
variable{X:Cx}{pins:List (Uq×Obj)}{σ:St}{H:Hp}{s:Uo}
theorem Lo(I:Inv X pins σ H s):∀{rs:List (Uq×List V)},(∀p∈rs,SqL X.K H p.1 p.2) ->
  ∃ts:List (Uq×List Um),(ts.map λp=>Value.ref p.1)=(rs.map λp=>Value.ref p.1)/\(∀p∈ts,Ls s.heap p.1 p.2)/\Vals (rs.map (·.2)).flatten (ts.map (·.2)).flatten
 |[],_=>⟨[],rfl,(λ_ h=>by cases h),(show Vals [] []from Paired.nil)⟩
 |p::rs,h=>by
  obtain⟨ts,e,hl,hv⟩:=Lo I λq hq=>h q (Qj _ hq)
  obtain⟨its,rv,⟨⟨c1,d1,t1,sl⟩,n,e1,ec,ed,et⟩,z⟩:=I.list (h p (Qk ..));simp only at ec ed et;subst ec ed et;refine⟨(p.1,its)::ts,by rw[Qx,Qx,e],λq hq=>?_,?_⟩
  ·rcases QQ.1 hq with rfl|hq
   ·exact⟨n,sl,e1⟩
   ·exact hl q hq
  ·rw[Qx,Qx,QL,QL];exact rv.append hv
theorem Hh:∀{as:List Uq}{us:List Um},Vals (as.map V.ref) us->us=as.map Value.ref
 |[],_,.nil=>rfl
 |a::as,_,.cons h t=>by cases h;rw[Hh t];rfl
theorem qI(hc:X.calm=true):Yu X (.builtin "sum") (λxs H Q=>∃l z,∃rs:List (Uq×List V),xs=[.ref l,.ref z]/\SqL X.K H l (rs.map λp=>V.ref p.1)/\(∀p∈rs,SqL X.K H p.1 p.2)/\SqL X.K H z []/\(rs.map (·.2)).flatten.length<=Ut /\
  (rs=[]->Q (.ref z) H)/\∀p,H p=none->Q (.ref p) (upd H p (.lst (rs.map (·.2)).flatten))):=by
 intro pins s σ H xs us Q I rx h;obtain⟨l,z,rs,rfl,hq,hr,hz,hb,q0,q⟩:=h;obtain⟨u,u',rfl,ru,ru'⟩:=P5 rx;cases ru;cases ru';obtain⟨its,rv,pl, -⟩:=I.list hq;obtain⟨ts,e,hl,hv⟩:=Lo I hr;have ei:its=ts.map λp=>Value.ref p.1:=by rw[e];have:=Hh (as:=rs.map (·.1)) (us:=its) (by rw[QY];exact rv);rw[this,QY];rfl
 subst ei;obtain⟨zi,rz,⟨⟨c1,d1,t1,sl⟩,n,e1,ec,ed,et⟩, -⟩:=I.list hz;cases rz;simp only at ec ed et;subst ec ed et;have hlen:=hv.length;refine qW (I.ok.hd hc) pl.isList hl ⟨n,sl,e1⟩ (by omega) λp h' tk sl' hk hp hq=>?_
 rcases hq with ⟨rfl,rfl⟩|⟨hp',rfl⟩
 ·have hr0:rs=[]:=by
   cases rs with
   |nil=>rfl
   |cons a b=>cases e
  exact⟨.ref _,H,I.kept hk,rfl,q0 hr0⟩
 ·obtain⟨m,ep⟩:=hp;exact⟨.ref p,_,I.laid (t':=tk) hk hp' (show Zo X.prog X.w _ h' _ (.lst _)from⟨hb,_,m,hv,ep⟩),rfl,q p (I.hok.fresh hp')⟩
noncomputable def Wr:List D->Option (List (List D))
 |[]=>some []
 |.list xs::r=>(Wr r).map (xs :: ·)
 |_=>none
theorem Gx{K:Frag}{G:Hp}:∀{vs:List V}{ds:List D}{ls:List (List D)},Reps K G vs ds->Wr ds=some ls ->
  ∃rs:List (Uq×List V),vs=(rs.map λp=>V.ref p.1)/\(∀p∈rs,SqL K G p.1 p.2)/\Reps K G (rs.map (·.2)).flatten ls.flatten/\rs.length=ls.length
 |_,_,ls,.nil,e=>by cases e;exact⟨[],rfl,(λ_ h=>by cases h),.nil,rfl⟩
 |_,_,ls,.cons (d:=d) r t,e=>by
  cases d with
  |list xs=>
   unfold Wr at e;cases z:Wr _ with
   |none=>rw[z]at e;cases e
   |some cs=>
    rw[z]at e;cases e;obtain⟨rs,rfl,h1,h2,h3⟩:=Gx t z;obtain⟨a,ws,rfl,h,rr⟩:=r.lst_inv;refine⟨(a,ws)::rs,rfl,λp hp=>?_,?_,congrArg (· + 1) h3⟩
    ·rcases QQ.1 hp with rfl|hp
     ·exact h
     ·exact h1 p hp
    ·rw[Qx,QL,QL];exact rr.append h2
  |_=>cases e
theorem qV(ls:List (List D)):Wr (ls.map Uz)=some ls:=by
 induction ls with
 |nil=>rfl
 |cons b r ih=>rw[Qx,Wr,ih];rfl
noncomputable def SE:List D->Option D
 |[.list ds,.list []]=>(match Wr ds with
  |some ls=>if ls.flatten.length<=1000000 then some (.list ls.flatten)else none
  |none=>none)
 |_=>none
theorem qH{xs:List D}{d:D}(h:SE xs=some d):∃ds ls,xs=[.list ds,.list []]/\Wr ds=some ls/\ls.flatten.length<=1000000/\d=.list ls.flatten:=by
 unfold SE at h;split at h
 ·rename_i ds;cases z:Wr ds with
  |none=>rw[z]at h;cases h
  |some ls=>
   rw[z]at h;dsimp only at h;split at h
   ·rename_i c;cases h;exact⟨ds,ls,rfl,z,c,rfl⟩
   ·cases h
 ·cases h
theorem FW(hc:X.calm=true):YF X (.builtin "sum") SE:=by
 refine⟨_,qI hc,λvs G H ds d Q s r e k=>?_⟩;obtain⟨ds,ls,rfl,z,c,rfl⟩:=qH e;obtain⟨v,v',rfl,q1,q2⟩:=r.two_inv;obtain⟨l,ws,rfl,h1,r1⟩:=q1.lst_inv;obtain⟨a,ws2,rfl,h2,r2⟩:=q2.lst_inv;have:=r2.nil_inv;subst this;obtain⟨rs,rfl,g1,g2,g3⟩:=Gx r1 z;refine⟨l,a,rs,rfl,s.seq h1,λp hp=>s.seq (g1 p hp),s.seq h2,?_,λe0=>?_,λp hp=>?_⟩
 ·rw[g2.length];exact QM c lim
 ·subst e0;have:ls=[]:=List.eq_nil_of_length_eq_zero g3.symm;subst this;exact k _ G H (.refl s) (.lst h2 .nil)
 ·exact k _ _ _ (.new s hp) (.lst (SqL.of Zf) (g2.mono (Zq (s.free hp))))
end
section
variable{X:Cx}
noncomputable def Ze(ns:List Int):List Int:=ns.mergeSort λa b=>decide (a<=b)
theorem YY(ns:List Int):(Ze ns).Perm ns:=List.mergeSort_perm ..
theorem HJ(ns:List Int):(Ze ns).Pairwise (· <= ·):=by have:=List.pairwise_mergeSort (le:=λa b:Int=>decide (a<=b)) (by intro a b c;simp;omega) (by intro a b;simp;omega) ns;exact this.imp (by simp)
theorem Ln:∀{a b:List Int},a.Perm b->a.Pairwise (· <= ·)->b.Pairwise (· <= ·)->a=b
 |[],b,p,_,_=>by rw[List.nil_perm.1 p]
 |x::a,[],p,_,_=>by have:=p.length_eq;simp at this
 |x::a,y::b,p,ha,hb=>by
  have hx:y<=x:=by
   rcases QQ.1 (p.mem_iff.1 (Qk ..))with e|e
   ·exact Int.le_of_eq e.symm
   ·exact(Jw.1 hb).1 x e
  have hy:x<=y:=by
   rcases QQ.1 (p.mem_iff.2 (Qk ..))with e|e
   ·exact Int.le_of_eq e.symm
   ·exact(Jw.1 ha).1 y e
  have e:=JQ hy hx;subst e;rw[Ln (List.Perm.cons_inv p) (Jw.1 ha).2 (Jw.1 hb).2]
theorem HI:∀{us:List Um}{ns:List Int},PyProof.Rows.IntsAre us ns->Vals (ns.map V.int) us
 |_,_,.nil=>Paired.nil
 |_,_,.cons n t h=>Paired.cons ⟨t,rfl⟩ (HI h)
theorem qU:Yu X (.builtin "sorted") (λxs H Q=>∃l,∃ns:List Int,xs=[.ref l]/\SqL X.K H l (ns.map V.int)/\ns.length<64/\∀p,H p=none->Q (.ref p) (upd H p (.lst ((Ze ns).map V.int)))):=by
 intro pins s σ H xs us Q I rx h;obtain⟨l,ns,rfl,hq,hb,q⟩:=h;obtain⟨u,rfl,ru⟩:=rx.one;cases ru;obtain⟨its,rv,p,hz⟩:=I.list hq;have hi:=Wj rv;have hn:its.length=ns.length:=by have:=rv.length;rw[Qb]at this;omega
 refine sorted_ints p.isList hi (by omega) λout ns' a1 a2 a3=>?_
 obtain⟨e,he⟩:=sortedAll_at s.heap its out;have en:ns'=Ze ns:=Ln (a2.trans (YY ns).symm) a3 (HJ ns);subst en;refine⟨.ref (s.heap.objs.size+1),_,I.laid (t':=s.toks) (λb o=>sortedAll_old) (JZ _) (show Zo X.prog X.w _ _ _ (.lst ((Ze ns).map V.int))from⟨?_,out.toList,e,HI a1,he⟩),rfl,q _ (I.hok.fresh (JZ _))⟩;rw[Qb,(YY ns).length_eq];rw[Qb]at hz;exact hz
noncomputable def VY:List D->Option D
 |[.list ds]=>(match ZT ds with
  |some ns=>if ns.length<64 then some (.list ((Ze ns).map .int))else none
  |none=>none)
 |_=>none
theorem qT{xs:List D}{d:D}(h:VY xs=some d):∃ds ns,xs=[.list ds]/\ZT ds=some ns/\ns.length<64/\d=.list ((Ze ns).map .int):=by
 unfold VY at h;split at h
 ·rename_i ds;cases z:ZT ds with
  |none=>rw[z]at h;cases h
  |some ns=>
   rw[z]at h;dsimp only at h;split at h
   ·rename_i c;cases h;exact⟨ds,ns,rfl,z,c,rfl⟩
   ·cases h
 ·cases h
theorem HH{K:Frag}{G:Hp}:∀ns:List Int,Reps K G (ns.map V.int) (ns.map int)
 |[]=>.nil
 |n::r=>.cons (.int n) (HH r)
theorem Ci:YF X (.builtin "sorted") VY:=by refine⟨_,qU,λvs G H ds d Q s r e k=>?_⟩;obtain⟨ds,ns,rfl,z,c,rfl⟩:=qT e;obtain⟨v,rfl,q1⟩:=r.one_inv;obtain⟨l,ws,rfl,h1,r1⟩:=q1.lst_inv;have:=Ta r1 z;subst this;exact⟨l,ns,rfl,s.seq h1,c,λp hp=>k _ _ _ (.new s hp) (.lst (SqL.of Zf) (HH _))⟩
theorem qG{ns:List Int}(h:ns.length<64):VY [.list (ns.map .int)]=some (.list ((Ze ns).map .int)):=by unfold VY;simp only[V8,Qp h]
end
@[simp] theorem mBind_ok{α β:Type}{f:M α}{k:α->M β}{Z Z':UJ}{x:α}(h:f Z=.ok x Z'):Kb f k Z=k x Z':=by unfold Kb;rw[h]
theorem HG{s:D->UJ->Option UJ}{g:SM}{P:Nat->UJ->Prop}{R:Out->Prop}:∀(ds:List D)(n:Nat)(Z:UJ),P n Z ->
  (∀i d Z,ds[i]?=some d->P (n+i) Z->∃Z1,s d Z=some Z1/\((∃Z2,(g Z1=.nx Z2∨g Z1=.ct Z2)/\P (n+i+1) Z2)∨(∃x,g Z1=.rt x/\R (.rt x))∨(∃Z2,g Z1=.bk Z2/\R (.nx Z2)) ∨ ∃Z2 x,g Z1=.ex Z2 x/\R (.ex Z2 x)))->(∀Z,P (n+ds.length) Z->R (.nx Z))->R (Vv s g ds Z)
 |[],n,Z,h,_,f=>f Z h
 |d::r,n,Z,h,st,f=>by
  obtain⟨Z1,e1,e2⟩:=st 0 d Z rfl h;rw[Vv,e1];dsimp only;rcases e2 with ⟨Z2,e2,h2⟩|⟨x,e2,h2⟩|⟨Z2,e2,h2⟩|⟨Z2,x,e2,h2⟩
  ·have goal:=HG (R:=R) r (n+1) Z2 h2 (λi d' Z3 q p=>by
    have e:n+1+i=n+(i+1):=by omega
    rw[e]at p⊢;exact st (i+1) d' Z3 (by simpa using q) p) (λZ3 p=>f Z3 (by
    have e:n+1+r.length=n+(d::r).length:=by rw[QO];omega
    rw[e]at p;exact p))
   rcases e2 with e2|e2<;>(rw[e2];exact goal)
  ·rw[e2];exact h2
  ·rw[e2];exact h2
  ·rw[e2];exact h2
theorem Wk{lo hi:Int}{i:Nat}{d:D}(h:(ZU lo hi)[i]?=some d):d=.int (lo+i)/\(i:Int)<hi-lo:=by have hl:i<(ZU lo hi).length:=(Qg.mp h).1;rw[Xf]at hl;unfold ZU at h;rw[Qe,Qf (by rw[Qu];exact hl),List.getElem_range]at h;cases h;exact⟨rfl,by omega⟩
theorem FV{α:Type}{xs:List α}{i:Int}{v:α}(h0:0<=i)(h:xs[i.toNat]?=some v):atI xs i=some v:=by have:=KW (xs:=xs) (j:=i.toNat) h;rw[Int.toNat_of_nonneg h0]at this;exact this
section
variable{α β:Type}{Z Z1 Z2 Z3 Z':UJ}{f g h:M D}
theorem UT{a:α}:UQ a Z=.ok a Z:=rfl
theorem UV:UM Z=.ok [] Z:=rfl
theorem ZZ{o:Option α}{a:α}(h:o=some a):Kc o Z=.ok a Z:=by subst h;rfl
theorem KS{f:M α}{k:α->M β}{x:α}{r:Res β}(h:f Z=.ok x Z1)(h2:k x Z1=r):Kb f k Z=r:=by unfold Kb;rw[h];exact h2
theorem Kv{f:M α}{k:α->β}{x:α}(h:f Z=.ok x Z1):UZ k f Z=.ok (k x) Z1:=by unfold UZ Kb;rw[h];rfl
theorem UN{i:Nat}{d:D}(h:Z[i]?=some (some (.pub d))):UI i Z=.ok d Z:=by unfold UI;rw[h]
theorem Yj{i:Nat}{ds:List D}(h:Z[i]?=some (some (.own ds)))(h2:Z.set i (some (.pub (.list ds)))=Z'):UI i Z=.ok (.list ds) Z':=by unfold UI;rw[h];subst h2;rfl
theorem U2{op:D->D->Option β}{x y:D}{r:β}(h1:f Z=.ok x Z1)(h2:g Z1=.ok y Z2)(h3:op x y=some r):UP op f g Z=.ok r Z2:=by unfold UP;exact KS h1 (KS h2 (ZZ h3))
theorem UR{g:M (List D)}{x:D}{xs:List D}(h1:f Z=.ok x Z1)(h2:g Z1=.ok xs Z2):UO f g Z=.ok (x::xs) Z2:=by unfold UO;exact KS h1 (KS h2 rfl)
theorem Yz{g:M (List D)}{xs:List D}(h1:g Z=.ok xs Z1)(h2:xs.length<=1000000):KE g Z=.ok (.tuple xs) Z1:=by unfold KE;exact KS h1 (by rw[Qp h2];rfl)
theorem ZE{g:M (List D)}{xs:List D}(h1:g Z=.ok xs Z1)(h2:xs.length<=1000000):KF g Z=.ok (.list xs) Z1:=by unfold KF;exact KS h1 (by rw[Qp h2];rfl)
theorem Wu{g:M (List D)}{xs:List D}(h1:g Z=.ok xs Z1)(h2:xs.length<=1000000):(Kb g λxs=>if xs.length<=1000000 then UQ xs else λ_=>.bad) Z=.ok xs Z1:=
 KS h1 (by rw[Qp h2];rfl)
theorem Kh{i:Nat}{d y r:D}(h:Z[i]?=some (some (.pub d)))(h1:g Z=.ok y Z1)(h2:oIx d y=some r):UU i g Z=.ok r Z1:=by unfold UU;rw[h];exact KS h1 (ZZ h2)
theorem Wq{i:Nat}{ds es:List D}{y r:D}(h:Z[i]?=some (some (.own ds)))(h1:g Z=.ok y Z1)(h3:Z1[i]?=some (some (.own es)))(h2:oIx (.list es) y=some r):UU i g Z=.ok r Z1:=by unfold UU;rw[h];exact KS h1 (by rw[h3];exact ZZ h2)
theorem Zc{p:List D->Option D}{g:M (List D)}{xs:List D}{r:D}(h1:g Z=.ok xs Z1)(h2:p xs=some r):K0 p g Z=.ok r Z1:=by unfold K0;exact KS h1 (ZZ h2)
theorem Ki{n:Nat}{F:List D->Option D}{g:M (List D)}{xs:List D}{r:D}(h1:g Z=.ok xs Z1)(h2:xs.length=n)(h3:F xs=some r):UX n F g Z=.ok r Z1:=by unfold UX;exact KS h1 (by rw[Qp h2];exact ZZ h3)
theorem SV{i:Int}(h1:f Z=.ok (.int i) Z1):Yb f Z=.ok (.int (-i)) Z1:=by unfold Yb;exact KS h1 rfl
theorem Zh{i:Nat}{d r:D}(h:Z[i]?=some (some (.pub d)))(h2:Ka [d]=some r):K3 i Z=.ok r Z:=by unfold K3;rw[h];exact ZZ h2
theorem Ch{i:Nat}{ds:List D}(h:Z[i]?=some (some (.own ds))):K3 i Z=.ok (.int ds.length) Z:=by unfold K3;rw[h]
theorem XZ{g:M (List D)}{i:Int}{r:List D}(h1:g Z=.ok [.int i] Z1)(h2:SN [.int i]=some r):Xa g Z=.ok r Z1:=by unfold Xa;exact KS h1 (ZZ h2)
theorem Cg{g:M (List D)}{i j:Int}{r:List D}(h1:g Z=.ok [.int i,.int j] Z1)(h2:SH [.int i,.int j]=some r):Pd g Z=.ok r Z1:=by unfold Pd;exact KS h1 (ZZ h2)
theorem Xe{g:M (List D)}{xs r:List D}(h1:g Z=.ok xs Z1)(h2:Ru xs=some r):YL g Z=.ok r Z1:=by unfold YL;exact KS h1 (ZZ h2)
theorem Y0{i:Int}(h1:f Z=.ok (.int i) Z1):(Kb f λx=>Kc (Yt x)) Z=.ok (some i) Z1:=KS h1 rfl
theorem ZN{f:M Bool}{t:Bool}(h1:f Z=.ok t Z1):Kp f Z=.ok (!t) Z1:=Kv h1
theorem ZY{t:Bool}(h1:f Z=.ok (.bool t) Z1):K7 f Z=.ok t Z1:=by unfold K7;exact KS h1 rfl
theorem N7{f g:M Bool}{t u:Bool}(h1:f Z=.ok t Z)(h2:t=true->g Z=.ok u Z):K1 f g Z=.ok (t&&u) Z:=by
 unfold K1;refine KS h1 ?_;cases t with
 |true=>rw[Qp rfl];exact h2 rfl
 |false=>rfl
theorem FF{f g:M Bool}{t u:Bool}(h1:f Z=.ok t Z)(h2:t=false->g Z=.ok u Z):mOr f g Z=.ok (t || u) Z:=by
 unfold mOr;refine KS h1 ?_;cases t with
 |false=>rw[Qz (by decide)];exact h2 rfl
 |true=>rfl
theorem Ra{t u:Bool}(h1:f Z=.ok (.bool t) Z)(h2:t=true->g Z=.ok (.bool u) Z):Vw f g Z=.ok (.bool (t&&u)) Z:=by
 unfold Vw;refine KS h1 ?_;cases t with
 |true=>exact h2 rfl
 |false=>rfl
theorem N6{t u:Bool}(h1:f Z=.ok (.bool t) Z)(h2:t=false->g Z=.ok (.bool u) Z):X4 f g Z=.ok (.bool (t || u)) Z:=by
 unfold X4;refine KS h1 ?_;cases t with
 |false=>exact h2 rfl
 |true=>rfl
theorem OG{t:Bool}(h1:f Z=.ok (.bool t) Z1):Rx f Z=.ok (.bool (!t)) Z1:=by unfold Rx;exact KS h1 rfl
theorem N5{f:M Bool}{g h:M α}{r:Res α}(h1:f Z=.ok true Z1)(h2:g Z1=r):mIf f g h Z=r:=by unfold mIf;exact KS h1 (by rw[Qp rfl];exact h2)
theorem Oc{f:M Bool}{g h:M α}{r:Res α}(h1:f Z=.ok false Z1)(h2:h Z1=r):mIf f g h Z=r:=by unfold mIf;exact KS h1 (by rw[Qz (by decide)];exact h2)
theorem FE{f:M Bool}{g h:M α}{t:Bool}{x y:α}(h1:f Z=.ok t Z1)(h2:g Z1=.ok x Z1)(h3:h Z1=.ok y Z1):mIf f g h Z=.ok (if t=true then x else y) Z1:=by
 unfold mIf;refine KS h1 ?_;cases t with
 |true=>rw[Qp rfl,Qp rfl];exact h2
 |false=>rw[Qz (by decide),Qz (by decide)];exact h3
theorem O3{p q:D->D->Option Bool}{x y z:D}{t u:Bool}(h1:f Z=.ok x Z)(h2:g Z=.ok y Z)(h3:p x y=some t)(h4:t=true->h Z=.ok z Z)(h5:t=true->q y z=some u):VX p q f g h Z=.ok (t&&u) Z:=by
 unfold VX;refine KS h1 (KS h2 (KS (ZZ h3) ?_));cases t with
 |true=>rw[Qp rfl];exact KS (h4 rfl) (ZZ (h5 rfl))
 |false=>rfl
theorem KZ{i j:Int}:U3 (.int i) (.int j)=some (.int (i+j)):=rfl
theorem Xo{x y:List D}(h:x.length+y.length<=1000000):U3 (.list x) (.list y)=some (.list (x++y)):=by unfold U3;exact Qp h
theorem Yy{i j:Int}:KR (.int i) (.int j)=some (.int (i-j)):=rfl
theorem Rk{i j:Int}(h1 : -18446744073709551616<i)(h2:i<18446744073709551616):Ko (.int i) (.int j)=some (.int (i*j)):=by unfold Ko Ym;exact Qp (.inl ⟨by omega,by omega⟩)
theorem XX{i j:Int}(h1 : -18446744073709551616<j)(h2:j<18446744073709551616):Ko (.int i) (.int j)=some (.int (i*j)):=by unfold Ko Ym;exact Qp (.inr ⟨by omega,by omega⟩)
theorem RX{x:List D}{k:Int}(h : -1000000<=k/\k<=1000000/\x.length*k.toNat<=1000000):Ko (.list x) (.int k)=some (.list (Uy k.toNat x).flatten):=by unfold Ko;exact Qp h
theorem XF{i j:Int}(h:0<j):Zd (.int i) (.int j)=some (.int (i % j)):=by unfold Zd WN;exact Qp h
theorem ML{i j:Int}(h:0<j)(h2:j<18446744073709551616):X3 (.int i) (.int j)=some (.int (i / j)):=by unfold X3 WO;exact Qp ⟨h,h2⟩
theorem MK{i j:Int}(h:0<=j/\j<=1000000/\i.natAbs<2 ^ 64):Xr (.int i) (.int j)=some (.int (i ^ j.toNat)):=by unfold Xr WM;exact Qp h
theorem RM{p:Int->Int->Bool}{i j:Int}:oIB p (.int i) (.int j)=some (p i j):=rfl
theorem Xd{i j:Int}:oEq (.int i) (.int j)=some (decide (i=j)):=by unfold oEq;rw[if_pos ⟨rfl,rfl,by simp[UE]⟩];congr 1
theorem K6{xs:List D}:Ka [.list xs]=some (.int xs.length):=rfl
theorem Bf{xs:List D}:Ka [.tuple xs]=some (.int xs.length):=rfl
theorem MJ{i j:Int}:Rv [.int i,.int j]=some (.int (if j > i then j else i)):=rfl
theorem XV{j:Int}(h1:j<=1000000)(h2 : -1000000<=j):SN [.int j]=some (ZU 0 j):=by unfold SN;exact Qp ⟨h1,h2⟩
theorem Be{i j:Int}(h1:j<=1000000)(h2 : -1000000<=j)(h3:i<=1000000)(h4 : -1000000<=i):SH [.int i,.int j]=some (ZU i j):=by unfold SH;exact Qp ⟨h1,h2,h3,h4⟩
theorem Xn{xs:List D}:Ru [.list xs]=some (Ye 0 xs):=rfl
theorem KI{i:Nat}{d:D}(h1:f Z=.ok d Z1)(h2:i<Z1.length)(h3:Z1.set i (some (.pub d))=Z'):U6 i f Z=.nx Z':=by unfold U6 ZI sB gN;rw[h1];dsimp only;rw[if_pos h2];subst h3;rfl
theorem Z6{i:Nat}{f:M (List D)}{ds:List D}(h1:f Z=.ok ds Z1)(h2:i<Z1.length)(h3:Z1.set i (some (.own ds))=Z'):K8 i f Z=.nx Z':=by unfold K8 sB;rw[h1];dsimp only;rw[if_pos h2];subst h3;rfl
theorem XS{i:Nat}{d:D}{ds0 ds:List D}(h0:Z[i]?=some (some (.own ds0)))(h1:f Z=.ok d Z1)(h2:Z1[i]?=some (some (.own ds)))(h3:ds.length<1000000)(h4:Z1.set i (some (.own (ds++[d])))=Z'):Zz i f Z=.nx Z':=by unfold Zz sB;rw[h0];dsimp only;rw[h1];dsimp only;rw[h2];dsimp only;rw[if_pos h3];subst h4;rfl
theorem VD{d:D}{s:D->UJ->Option UJ}(h1:f Z=.ok d Z1)(h2:s d Z1=some Z'):ZI f s Z=.nx Z':=by unfold ZI sB;rw[h1];dsimp only;rw[h2]
theorem VJ{d:D}(h1:f Z=.ok d Z1):XI f Z=.nx Z1:=by unfold XI sB;rw[h1]
theorem UW{i:Nat}{d:D}(h:i<Z.length)(h2:Z.set i (some (.pub d))=Z'):gN i d Z=some Z':=by unfold gN;rw[Qp h,h2]
theorem KD:gN0 [] Z=some Z:=rfl
theorem U4{s:D->UJ->Option UJ}{t:List D->UJ->Option UJ}{d:D}{r:List D}(h1:s d Z=some Z1)(h2:t r Z1=some Z'):gNC s t (d::r) Z=some Z':=by unfold gNC;dsimp only;rw[h1];exact h2
theorem KB{n:Nat}{t:List D->UJ->Option UJ}{ds:List D}(h1:ds.length=n)(h2:t ds Z=some Z'):gT n t (.tuple ds) Z=some Z':=by unfold gT;dsimp only;rw[if_pos h1];exact h2
structure Ho(g:SM)(Z:UJ)(Q:Out->Prop):Prop where
 out:Q (g Z)
noncomputable def FD(h:SM)(Q:Out->Prop):Out->Prop
 |.nx Z'=>Ho h Z' Q
 |o=>Q o
structure P4(h:SM)(Q:Out->Prop)(o:Out):Prop where
 out:FD h Q o
variable{Q:Out->Prop}{s t u:SM}
theorem Kq(h:Ho s Z (P4 t Q)):Ho (US s t) Z Q:=by
 have h:=h.out.out;constructor;unfold US;cases e:s Z with
 |nx o=>rw[e]at h;exact h.out
 |_=>rw[e]at h;exact h
theorem Kj(h1:s Z=.nx Z1)(h2:Ho t Z1 Q):Ho (US s t) Z Q:=by
 constructor;unfold US;rw[h1];exact h2.out
theorem Zv{o:Out}(h1:s Z=o)(h2:Q o):Ho s Z Q:=by constructor;rw[h1];exact h2
theorem Kx(h:Q (.nx Z)):Ho sNx Z Q:=⟨h⟩
theorem Kl{o:UJ}(h:Ho t o Q):P4 t Q (.nx o):=⟨h⟩
theorem XE{d:D}(h:Q (.rt d)):P4 t Q (.rt d):=⟨h⟩
theorem Ks{f:M Bool}{b:Bool}(h1:f Z=.ok b Z1)(h2:b=true->Ho s Z1 Q)(h3:b=false->Ho t Z1 Q):Ho (sIf f s t) Z Q:=by
 constructor;unfold sIf sB;rw[h1];dsimp only
 cases b with
 |true=>rw[Qp rfl];exact(h2 rfl).out
 |false=>rw[Qz (by decide)];exact(h3 rfl).out
theorem Ku{d:D}(h1:f Z=.ok d Z1)(h2:Q (.rt d)):Ho (UY f) Z Q:=by constructor;unfold UY sB;rw[h1];exact h2
theorem Pu{P:Out->Prop}(h:Ho s Z P)(k:∀o,P o->Q o):Ho s Z Q:=⟨k _ h.out⟩
noncomputable def FC(I:UJ->Prop)(Q:Out->Prop):Out->Prop
 |.nx Z | .ct Z=>I Z
 |.bk Z=>Q (.nx Z)
 |.rt d=>Q (.rt d)
 |.ex Z d=>Q (.ex Z d)
 |.bad=>False
structure VW(I:UJ->Prop)(Q:Out->Prop)(o:Out):Prop where
 out:FC I Q o
theorem K4{I:UJ->Prop}(h:I Z):VW I Q (.nx Z):=⟨h⟩
theorem V7{I:UJ->Prop}{d:D}(h:Q (.rt d)):VW I Q (.rt d):=⟨h⟩
theorem Zw{f:M (List D)}{tg:D->UJ->Option UJ}{ds:List D}(I:Nat->UJ->Prop)(h1:f Z=.ok ds Z1)(h0:I 0 Z1)
  (hst:∀i d Z,ds[i]?=some d->I i Z->∃Z2,tg d Z=some Z2/\Ho s Z2 (VW (I (i+1)) Q)) (hend:∀Z,I ds.length Z->Q (.nx Z)):Ho (Kw f tg s) Z Q:=by
 constructor;unfold Kw sB;rw[h1];dsimp only
 refine HG (P:=I) (R:=Q) ds 0 Z1 h0 (λi d Z e p=>?_) (λZ p=>hend Z (by rw[QX]at p;exact p));rw[QX]at p;obtain⟨Z2,e2,q⟩:=hst i d Z e p;refine⟨Z2,e2,?_⟩;rw[QX];have q:=q.out.out;cases z:s Z2 with
 |nx o=>rw[z]at q;exact .inl ⟨o,.inl rfl,q⟩
 |ct o=>rw[z]at q;exact .inl ⟨o,.inr rfl,q⟩
 |rt o=>rw[z]at q;exact .inr (.inl ⟨o,rfl,q⟩)
 |bk o=>rw[z]at q;exact .inr (.inr (.inl ⟨o,rfl,q⟩))
 |ex o x=>rw[z]at q;exact .inr (.inr (.inr ⟨o,x,rfl,q⟩))
 |bad=>rw[z]at q;exact q.elim
theorem XR{N:List Str}{ds:List D}{P:D->Prop}(h0:Xm N ds=Z)(h:Ho s Z λo=>∃d,o=.rt d/\P d):∃d,U9 N s ds=some d/\P d:=by subst h0;obtain⟨d,e,p⟩:=h.out;refine⟨d,?_,p⟩;unfold U9;rw[e]
theorem KY{N:List Str}{ds:List D}{d:D}(h0:Xm N ds=Z)(h:Ho s Z λo=>o=.rt d):U9 N s ds=some d:=by obtain⟨d',e,p⟩:=XR (P:=λx=>x=d) h0 (Pu h λo e=>⟨d,e,rfl⟩);rw[e,p]
end
section
variable{α β:Type}{Z Z1 Z2 Z3 Z':UJ}{f g h:M D}
theorem Wp{l u:M (Option Int)}{x r:D}{a b:Option Int}(h1:f Z=.ok x Z1)(h2:l Z1=.ok a Z2)(h3:u Z2=.ok b Z3)(h4:YQ x a b=some r):ZK f l u Z=.ok r Z3:=by unfold ZK;exact KS h1 (KS h2 (KS h3 (ZZ h4)))
theorem ZC{f g:M Bool}{u:Bool}(h1:f Z=.ok false Z1)(h2:g Z1=.ok u Z2):mOr f g Z=.ok u Z2:=by unfold mOr;exact KS h1 (by rw[Qz (by decide)];exact h2)
theorem V2{f g:M Bool}(h1:f Z=.ok false Z1):K1 f g Z=.ok false Z1:=by unfold K1;exact KS h1 rfl
theorem V1{f g:M Bool}{u:Bool}(h1:f Z=.ok true Z1)(h2:g Z1=.ok u Z2):K1 f g Z=.ok u Z2:=by unfold K1;exact KS h1 (by rw[Qp rfl];exact h2)
theorem XB{c:String}{d:D}{t:Bool}(h:f Z=.ok d Z1)(ht:(!Kr d c)=t):Kp (K7 (UZ (λd=>.bool (Kr d c)) f)) Z=.ok t Z1:=by subst ht;exact ZN (ZY (Kv (k:=λd=>UA (Kr d c)) h))
theorem Zp{x:D}{r:List D}(h1:f Z=.ok x Z1)(h2:OI x=some r):KU f Z=.ok r Z1:=by unfold KU;exact KS h1 (ZZ h2)
theorem Zu{p:D->D->Option β}{i:Nat}{d y:D}{r:β}(h:Z[i]?=some (some (.pub d)))(h1:g Z=.ok y Z1)(h2:p d y=some r):K5 p i g Z=.ok r Z1:=by unfold K5;rw[h];exact KS h1 (ZZ h2)
theorem Bd{p:D->D->Option β}{i:Nat}{ds es:List D}{y:D}{r:β}(h:Z[i]?=some (some (.own ds)))(h1:g Z=.ok y Z1)(h3:Z1[i]?=some (some (.own es)))(h2:p (.list es) y=some r):K5 p i g Z=.ok r Z1:=by unfold K5;rw[h];exact KS h1 (by rw[h3];exact ZZ h2)
theorem Z7{f:M (List D)}{k:Nat}{s:D->UJ->Option UJ}{t:M Bool}{ds es:List D}(h1:f Z=.ok ds Z1)(h2:K2 s t g ds (Kn Z1++Uy k none) []=some es):Zx f k s t g Z=.ok es Z1:=by unfold Zx;rw[h1];dsimp only;rw[h2]
theorem Tb{s:D->UJ->Option UJ}{t:M Bool}(p:D->Bool)(q:D->D)(I:UJ->Prop):∀(ds:List D)(Z:UJ)(es:List D),(∀d∈ds,∀Z,I Z->∃Z1,s d Z=some Z1/\t Z1=.ok (p d) Z1/\(p d=true->g Z1=.ok (q d) Z1)/\I (Kn Z1))->I Z->es.length+ds.length<=1000000 ->
  K2 s t g ds Z es=some (es++(ds.filter p).map q)
 |[],Z,es,_,_,_=>by rw[K2];simp
 |d::r,Z,es,st,h0,hz=>by
  obtain⟨Z1,e1,e2,e3,h1⟩:=st d Qk Z h0;have ih:=λes' hz'=>Tb p q I r (Kn Z1) es' (λd' hd=>st d' (Qj _ hd)) h1 hz';rw[QO]at hz;rw[K2,e1];dsimp only;rw[e2];dsimp only
  cases hp:p d with
  |true=>rw[Qp rfl,e3 hp];dsimp only;rw[Qp (by omega),ih _ (by rw[Ql,Q6];omega),List.filter_cons_of_pos hp,Qx,Ja];rfl
  |false=>rw[Qz (by decide),ih _ (by omega),List.filter_cons_of_neg (by rw[hp];decide)]
theorem VI{j:Nat}{d:D}{k:Int}{ds0 ds:List D}(h1:f Z=.ok d Z1)(h0:Z1[j]?=some (some (.own ds0)))(h2:g Z1=.ok (.int k) Z2)(h3:Z2[j]?=some (some (.own ds)))(h4:0<=k/\k<ds.length)(h5:Z2.set j (some (.own (ds.set k.toNat d)))=Z'):XN j g f Z=.nx Z':=by unfold XN sB;rw[h1];dsimp only;rw[h0];dsimp only;rw[h2];dsimp only;rw[h3];dsimp only;rw[if_pos h4];subst h5;rfl
theorem WD{xs:List D}{a b:Option Int}:YQ (.list xs) a b=some (.list (DL.cutD xs a b)):=rfl
theorem ZX{xs:List D}:OI (.list xs)=some xs:=rfl
theorem j7(bs:List Bool):VM (bs.map UA)=some bs:=by
 induction bs with
 |nil=>rfl
 |cons b r ih=>rw[Qx,VM,ih];rfl
theorem MI{bs:List Bool}:Yl [.list (bs.map UA)]=some (.bool (bs.all id)):=by unfold Yl;dsimp only;rw[j7];rfl
end
section
variable{α β:Type}{Z Z1 Z2 Z3 Z4 Z':UJ}{f g h:M D}{s:SM}
theorem FT{g:M (List D)}{xs r:List D}(h1:g Z=.ok xs Z1)(h2:X2 xs=some r):WQ g Z=.ok r Z1:=by unfold WQ;exact KS h1 (ZZ h2)
theorem FS{l u t:M (Option Int)}{xs:List D}(h1:f Z=.ok (.list xs) Z1)(h2:l Z1=.ok none Z2)(h3:u Z2=.ok none Z3)(h4:t Z3=.ok (some (-1)) Z4):WR f l u t Z=.ok (.list xs.reverse) Z4:=by unfold WR;exact KS h1 (KS h2 (KS h3 (KS h4 (ZZ (by unfold WH;exact Qp rfl)))))
theorem Rj{i:Nat}{d:D}{ds:List D}(h:Z[i]?=some (some (.pub d)))(h2:YK [d]=some ds):Xl i Z=.ok ds Z:=by unfold Xl;rw[h];exact ZZ h2
theorem RL{N:List Str}{ds:List D}(h0:Xm N ds=Z)(h:Ho s Z λo=>∃Z',o=.nx Z'):U9 N s ds=some .none:=by subst h0;obtain⟨Z',e⟩:=h.out;unfold U9;rw[e]
theorem XY{i j:Int}:oNe (.int i) (.int j)=some (!decide (i=j)):=by unfold oNe;rw[if_pos ⟨rfl,rfl,by simp[UE]⟩];congr 1
theorem Bc{xs:List Int}{j:Nat}{v:Int}:(xs.map int).set j (.int v)=(xs.set j v).map int:=by rw[List.map_set]
theorem O2{xs:List Int}{a b:Int}(ha:0<=a)(hb:0<=b)(hl:b<=xs.length):DL.cutD (xs.map int) (some a) (some b)=((xs.drop a.toNat).take (b.toNat-a.toNat)).map int:=by
 unfold DL.cutD HT.sIx;dsimp only;rw[Qz (by omega),Qz (by omega),Qb,Uk,List.map_drop];have e2:min b.toNat xs.length=b.toNat:=by omega
 rw[e2];by_cases hab:a.toNat<=xs.length
 ·have e1:min a.toNat xs.length=a.toNat:=by omega
  rw[e1]
 ·have e3:b.toNat-a.toNat=0:=by omega
  have e4:b.toNat-min a.toNat xs.length=0:=by omega
  rw[e3,e4,J7,J7]
theorem AW{xs ys:List Int}:Ys (xs.map int) (ys.map int)=(xs.zip ys).map λp=>.tuple [.int p.1,.int p.2]:=by unfold Ys;rw[List.zip_map,QY];rfl
end
section
variable{Z Z1:UJ}
theorem Bb{g:M (List D)}{xs r:List D}(h1:g Z=.ok xs Z1)(h2:SW xs=some r):Pf g Z=.ok r Z1:=by unfold Pf;exact KS h1 (ZZ h2)
theorem AV{xs:List D}:SW [.list xs]=some (Ye 1 xs):=rfl
end
section
variable{X:Cx}{B G0:Hp}{KX:XW}{e o a b c tg i:Us}{pos p2:Pos}{es rest:List Us}
noncomputable def Wg(f:M Bool)(g:SM):Nat->SM
 |0,_=>.bad
 |n+1,Z=>match f Z with
  |.bad=>.bad
  |.ok t Z1=>if t=true then(match g Z1 with
   |.nx Z2=>Wg f g n Z2
   |.ct Z2=>Wg f g n Z2
   |.bk Z2=>.nx Z2
   |.rt d=>.rt d
   |.ex Z2 d=>.ex Z2 d
   |.bad=>.bad)else .nx Z1
theorem Ba{body:List Stmt}{f:M Bool}{g:SM}(n:Nat)(hp:PassesOwn (model X.prog X.w) X.A X.env X.xe)(hc:PT X c (tBo X.K B G0 f))(hb:PSs X body (tS X.K B G0 KX g)):PS X (.While c body [] pos) (tS X.K B G0 KX (Wg f g n)):=
 ZA (Aq hp hc hb) λDn σ H ⟨G,Z,k,a⟩=>by
  refine⟨λm σ' H'=>∃G' Z',EOk X.K B G0 G' H' σ' Z'/\aftS X.K B G0 KX (Wg f g m Z') G' Dn,⟨n,G,Z,k,a⟩,?_⟩;rintro m σ' H' ⟨G',Z',k',a'⟩;cases m with
  |zero=>exact a'.elim
  |succ m=>
   rw[Wg]at a';refine⟨G',Z',k',?_⟩;cases z:f Z' with
   |bad=>rw[z]at a';exact a'.elim
   |ok t Z1=>
    rw[z]at a';dsimp only at a';intro v G1 H1 k1 s1 e1;subst e1;cases v with
    |false=>rw[Qz Ji]at a'⊢;exact a' _ G1 H1 k1 s1
    |true=>
     rw[Qp rfl]at a'⊢;refine⟨λσ2 H2=>∃G2 Z2,EOk X.K B G0 G2 H2 σ2 Z2/\aftS X.K B G0 KX (Wg f g m Z2) G2 Dn,λσ2 H2 h2=>⟨m,Ua m,h2⟩,G1,Z1,k1,?_⟩;cases z2:g Z1 with
     |nx Z2=>rw[z2]at a';exact λσ4 G4 H4 k4 s4=>⟨G4,Z2,k4,aftS.mono (s1.trans s4) a'⟩
     |ct Z2=>rw[z2]at a';exact λσ4 G4 H4 k4 s4=>⟨G4,Z2,k4,aftS.mono (s1.trans s4) a'⟩
     |bk Z2=>rw[z2]at a';exact λσ4 G4 H4 k4 s4=>a' σ4 G4 H4 k4 (s1.trans s4)
     |rt d=>rw[z2]at a';exact a'
     |ex Z2 d=>rw[z2]at a';exact λv σ4 G4 H4 k4 s4 r4=>a' v σ4 G4 H4 k4 (s1.trans s4) r4
     |bad=>rw[z2]at a';exact a'.elim
noncomputable def Xq(op:Int->Int->Option D)(j:Nat)(f:M D):SM:=λZ=>match Z[j]? with
 |some (some (.pub (.int a)))=>sB f (λy Z1=>match y with
  |.int b=>(match op a b with
   |some d=>if j<Z1.length then .nx (Z1.set j (some (.pub d)))else .bad
   |none=>.bad)
  |_=>.bad) Z
 |_=>.bad
def IpD(X:Cx)(op:Operator)(p:Int->Int->Option D):Prop:=∃ti,PIp X op ti/\∀i j d,p i j=some d->∃v:V,(∀G,Rep X.K G v d)/\∀H(Q:VK),Q v H->ti (.int i) (.int j) H Q
theorem Cf:IpD X .Mult Ym:=⟨_,CJ,λi j d e=>by
 unfold Ym at e;split at e
 ·rename_i h;cases e;exact⟨_,λ_=>.int _,λH Q q=>⟨i,j,rfl,rfl,h,q⟩⟩
 ·cases e⟩
theorem FR{j:Nat}{x:Str}{op:Operator}{p:Int->Int->Option D}{f:M D}{pos':Pos}(hN:X.N.Nodup)(hi:X.N[j]?=some x)(hx:Loc X.env.scope x)(ho:IpD X op p)(he:PE X e (tD X.K B G0 f))(hf:X.fn x=true∨X.env.scope.names.lookup x=some .local:=by first|exact .inl rfl|exact .inr rfl|assumption) :
  PS X (.AugAssign (.Name x pos') op e pos) (tS X.K B G0 KX (Xq p j f)):=by
 obtain⟨ti,hti,hp⟩:=ho;refine ZA (EK hN hi hx he hti hf) λDn σ H ⟨G,Z,k,a⟩=>?_;unfold Xq at a
 cases q:Z[j]? with
 |none=>rw[q]at a;exact a.elim
 |some o0=>
  cases o0 with
  |none=>rw[q]at a;exact a.elim
  |some sl=>
   cases sl with
   |deep _ _=>rw[q]at a;exact a.elim
   |own ds=>rw[q]at a;exact a.elim
   |pub d0=>
    rw[q]at a;cases d0 with
    |int i0=>
     dsimp only at a;obtain⟨v,h1,h2⟩:=k.pub j _ q;cases h2.int_inv;refine⟨.int i0,h1,G,Z,k,?_⟩;unfold sB at a;cases z:f Z with
     |bad=>rw[z]at a;exact a.elim
     |ok y Z1=>
      rw[z]at a;dsimp only at a;intro u G1 H1 k1 s1 r1;cases y with
      |int i1=>
       cases r1.int_inv;dsimp only at a;cases w:p i0 i1 with
       |none=>rw[w]at a;exact a.elim
       |some d=>
        rw[w]at a;dsimp only at a;split at a
        ·rename_i hl;obtain⟨v',rv,hq⟩:=hp i0 i1 d w;exact hq H1 _ (a _ G1 H1 (k1.setPub (rv G1) hl) s1)
        ·exact a.elim
      |_=>exact a.elim
    |_=>exact a.elim
noncomputable def VA(Z:UJ)(j:Nat):Option (List D):=match Z[j]? with
 |some (some (.own ds))=>some ds
 |_=>none
theorem No{Z:UJ}{j:Nat}{ds:List D}(h:VA Z j=some ds):Z[j]?=some (some (.own ds)):=by
 unfold VA at h;split at h
 ·rename_i es e;cases h;exact e
 ·cases h
theorem Lv{Z:UJ}{j:Nat}{ds:List D}(h:Z[j]?=some (some (.own ds))):VA Z j=some ds:=by unfold VA;rw[h]
noncomputable def X0(j:Nat)(f:M (List D)):SM:=λZ=>match VA Z j with
 |none=>.bad
 |some _=>sB f (λes Z1=>match VA Z1 j with
  |some ds=>if ds.length+es.length<=1000000 then .nx (Z1.set j (some (.own (ds++es))))else .bad
  |none=>.bad) Z
theorem FQ{j:Nat}{f:M (List D)}{apos cpos:Pos}(ho:PE X o (K9 j))(he:PE X e (tL X.K B G0 f))
  (hbase:attributeBase o "extend" X.env (eval o X.env)=eval o X.env:=by rfl)
  (hfew:((backTo cpos (Uv [e] X.env)).all (λx=>!x.1)&&(backToKw cpos (keywordEach [] X.env)).all (λx=>x.1.isSome)
   && decide ([e].length+([]:List Keyword).length+(if([]:List Keyword).isEmpty then 0 else 1)<30))=true:=by rfl)
  (hline:(apos.endLine==cpos.line)=true:=by rfl) (hs:Uv [e] X.env=[(false,eval e X.env)]:=by rfl)
  (hsw:swapsWith (.Call (.Attribute o "extend" apos) [e] [] cpos) none pos.line X.env=pure false:=by rfl) :
  PS X (.Expr (.Call (.Attribute o "extend" apos) [e] [] cpos) pos) (tS X.K B G0 KX (X0 j f)):=
 ZA (Oy (Pb PySem.F.plainAttrs_list PySem.F.slot_list_extend PySem.F.type_list_extend qh ho (XG he Ws (by rw[hs];rfl)) hbase hfew hline (by rw[hs];rfl) rfl) hsw) λD σ H ⟨G,Z,k,a⟩=>by
  unfold X0 at a;cases q0:VA Z j with
  |none=>rw[q0]at a;exact a.elim
  |some ds0=>
  rw[q0]at a;dsimp only at a;obtain⟨ad,vs0,h1,h2,h3,h4,h5⟩:=k.own j ds0 (No q0);refine⟨.ref ad,h1,.inl ⟨rfl,_,SqL.of h4⟩,G,Z,k,?_⟩;unfold sB at a;cases z:f Z with
  |bad=>rw[z]at a;exact a.elim
  |ok es Z1=>
  rw[z]at a;dsimp only at a;intro b zs G1 H1 k1 s1 n1;cases q1:VA Z1 j with
  |none=>rw[q1]at a;exact a.elim
  |some ds=>
  rw[q1]at a;dsimp only at a;split at a
  ·rename_i hl;obtain⟨ad1,vs,g1,g2,g3,g4,g5⟩:=k1.own j ds (No q1);rw[h1]at g1;cases g1;refine⟨ad,b,vs,zs,rfl,rfl,g4,n1.h,by rw[g5.length,n1.r.length];exact QM hl lim,?_⟩;exact a σ G1 _ (k1.change (No q1) h1 (g5.append n1.r)) s1
  ·exact a.elim
end
section
variable{X:Cx}{B G0:Hp}{KX:XW}
end
section
variable{X:Cx}{B G0:Hp}{e o a b c tg i:Us}{pos p2:Pos}{es rest:List Us}
theorem AU(hc:X.calm=true):Yu X (.builtin "sum") (λxs H Q=>∃l,∃ns:List Int,xs=[.ref l]/\SqL X.K H l (ns.map V.int)/\Q (.int ns.sum) H):=by
 intro pins s σ H xs us Q I rx h;obtain⟨l,ns,rfl,hq,q⟩:=h;obtain⟨u,rfl,ru⟩:=rx.one;cases ru;obtain⟨its,rv,p,hz⟩:=I.list hq;have hi:=Wj rv;obtain⟨ys,e⟩:=hi.allInts.items;have hns:ns=ys.toList.map (·.1):=by rw[←hi.numsOf,←nums_intItems,←e]
 have hl:=p.isList;rw[e]at hl;refine sum_intListG (I.ok.hd hc) hl λh' tk t' hk=>?_
 have e2:preSum (numAt ys) ys.size=ns.sum:=by rw[preSum_eq,List.take_of_length_le (by simp),hns]
 rw[e2];exact⟨.int ns.sum,H,I.kept hk,⟨t',rfl⟩,q⟩
noncomputable def Vz:List D->Option D
 |[.list ds]=>(ZT ds).map λns=>.int ns.sum
 |_=>none
theorem AT{xs:List D}{d:D}(h:Vz xs=some d):∃ds ns,xs=[.list ds]/\ZT ds=some ns/\d=.int ns.sum:=by
 unfold Vz at h;split at h
 ·rename_i ds;cases z:ZT ds with
  |none=>rw[z]at h;cases h
  |some ns=>rw[z]at h;cases h;exact⟨ds,ns,rfl,z,rfl⟩
 ·cases h
theorem FP(hc:X.calm=true):YF X (.builtin "sum") Vz:=by refine⟨_,AU hc,λvs G H ds d Q s r e k=>?_⟩;obtain⟨ds,ns,rfl,z,rfl⟩:=AT e;obtain⟨v,rfl,q1⟩:=r.one_inv;obtain⟨l,ws,rfl,h1,r1⟩:=q1.lst_inv;have:=Ta r1 z;subst this;exact⟨l,ns,rfl,s.seq h1,k _ G H (.refl s) (.int _)⟩
theorem O1{ns:List Int}:Vz [.list (ns.map .int)]=some (.int ns.sum):=by unfold Vz;dsimp only;rw[V8];rfl
theorem AS:MtR X "list.index" (λv vs H Q=>∃l k,∃ns:List Int,v=.ref l/\vs=[.int k]/\SqL X.K H l (ns.map V.int)/\PyData.layable0 (.list (ns.map .int))=true/\k∈ns/\Q (.int (ns.idxOf k:Nat)) H):=by intro pins s σ H x vs v us Q I rx rv h;obtain⟨l,k,ns,rfl,rfl,hq,hl,hk,q⟩:=h;cases rx;obtain⟨u,rfl,ru⟩:=rv.one;obtain⟨t,rfl⟩:=ru;obtain⟨its,rv,p,hz⟩:=I.list hq;exact index_list_ints p.isList (Wj rv) hl hk ⟨.int _,H,I.tok _,⟨_,rfl⟩,q⟩
noncomputable def SZ(y:D)(xs:List D):Option D:=match y,xs with
 |.list ds,[.int k]=>(match ZT ds with
  |some ns=>if PyData.layable0 (.list (ns.map .int))=true/\k∈ns then some (.int (ns.idxOf k:Nat))else none
  |none=>none)
 |_,_=>none
theorem j6{ds xs:List D}{d:D}(h:SZ (.list ds) xs=some d):∃k ns,xs=[.int k]/\ZT ds=some ns/\PyData.layable0 (.list (ns.map .int))=true/\k∈ns/\d=.int (ns.idxOf k:Nat):=by
 unfold SZ at h;split at h
 ·rename_i ds' k e1;cases e1;cases z:ZT ds with
  |none=>rw[z]at h;cases h
  |some ns=>
   rw[z]at h;dsimp only at h;split at h
   ·rename_i c;cases h;exact⟨k,ns,rfl,rfl,c.1,c.2,rfl⟩
   ·cases h
 ·cases h
noncomputable def Po(f:M D)(g:M (List D)):M D:=Kb f λy=>Kb g λxs=>Kc (match y with | .list ds=>SZ (.list ds) xs|_=>none)
theorem AR{apos cpos:Pos}{f:M D}{g:M (List D)}(ho:PE X o (tD X.K B G0 f))(ha:PA X (e::es) (tDs X.K B G0 g))
  (hbase:attributeBase o "index" X.env (eval o X.env)=eval o X.env:=by rfl)
  (hfew:((backTo cpos (Uv (e::es) X.env)).all (λx=>!x.1)&&(backToKw cpos (keywordEach [] X.env)).all (λx=>x.1.isSome)
   && decide ((e::es).length+([]:List Keyword).length+(if([]:List Keyword).isEmpty then 0 else 1)<30))=true:=by rfl)
  (hline:(apos.endLine==cpos.line)=true:=by rfl) (hs:Uv (e::es) X.env=(false,eval e X.env)::Uv es X.env:=by rfl) (hplain:(backTo cpos (Uv es X.env)).any (·.1)=false:=by rfl) :
  PE X (.Call (.Attribute o "index" apos) (e::es) [] cpos) (tD X.K B G0 (Po f g)):=
 Kt (Pb F.plainAttrs_list F.slot_list_index F.type_list_index AS ho ha hbase hfew hline hs hplain) λσ H Q q=>by
  refine tM.one (R:=Rep X.K) q λv H2 G Z y k r a=>?_
  cases y with
  |list ds=>
   obtain⟨l,ws,rfl,h1,r1⟩:=r.lst_inv;refine⟨.inl ⟨rfl,ws,k.gh.seq h1⟩,?_⟩;refine tM.nx (R:=Reps X.K) k a λxs H3 G3 Z3 es k3 s3 r3 a3=>?_
   obtain⟨d,e,a3⟩:=a3.opt;obtain⟨x,ns,rfl,z,hl,hk,rfl⟩:=j6 e;obtain⟨u,rfl,ru⟩:=r3.one_inv;have:=Ta r1 z;subst this;exact⟨l,x,ns,rfl,by rw[ru.int_inv],k3.gh.seq (s3.seq h1),hl,hk,aft.now a3 k3 (.int _)⟩
  |_=>
   unfold Kb at a;cases z:g Z with
   |bad=>rw[z]at a;exact a.elim
   |ok xs Z1=>rw[z]at a;exact a.elim
theorem C9{f:M D}{g:M (List D)}{Z Z1 Z2:UJ}{ds:List D}{x d:D}(h1:f Z=.ok (.list ds) Z1)(h2:g Z1=.ok [x] Z2)(h3:SZ (.list ds) [x]=some d):Po f g Z=.ok d Z2:=by unfold Po Kb;rw[h1];dsimp only;rw[h2];dsimp only;rw[h3];rfl
end
end DL
namespace DL
open PySem PySem.Spec PySem.W PyProof.Rows
noncomputable def Kk{α:Type}(lt:Nat->Nat->Bool):KasT α->α
 |.ret a=>a
 |.ask i j k=>Kk lt (k (lt i j))
theorem Rh{α β:Type}{lt:Nat->Nat->Bool}{f:α->KasT β}:∀t:KasT α,Kk lt (t.bind f)=Kk lt (f (Kk lt t))
 |.ret _=>rfl
 |.ask i j k=>by show Kk lt ((k (lt i j)).bind f)=_;rw[Rh];rfl
section
variable{key:Nat->Int}{p:Array Nat}
noncomputable def KA(key:Nat->Int)(p:Array Nat)(i:Nat):Int:=key (p.getD i 0)
def srt(key:Nat->Int)(p:Array Nat)(m:Nat):Prop:=∀i j,i<=j->j<m->KA key p i<=KA key p j
def dsc(key:Nat->Int)(p:Array Nat)(m:Nat):Prop:=∀i j,i<=j->j<m->KA key p j<=KA key p i
noncomputable abbrev kl(key:Nat->Int)(i j:Nat):Bool:=decide (key i<key j)
theorem HF{k d i:Nat}(hk:k<p.size)(hd:d<=k):KA key (bubble p k d) i=if i=k-d then KA key p k else if k-d<i/\i<=k then KA key p (i-1)else KA key p i:=by
 unfold KA;simp only[Jg];rw[getElem?_bubble hk d hd]
 repeat' split
 all_goals rfl
theorem RK{i j k:Nat}(hj:j<=p.size):KA key (kas_rev p i j) k=if i<=k/\k<j then KA key p (i+j-1-k)else KA key p k:=by
 unfold KA kas_rev;simp only[Jg];rw[getElem?_mirror_all hj]
 split<;>rfl
theorem V6{i j:Nat}:(kas_rev p i j).size=p.size:=mirror_size _ _ _ _
theorem WC{i j:Nat}:(kas_rev p i j).Perm p:=mirror_perm _ _ _ _
theorem O0:∀(f n:Nat),1<=n->srt key p n->srt key p (Kk (kl key) (kas_asc p f n))/\n<=Kk (kl key) (kas_asc p f n)/\Kk (kl key) (kas_asc p f n)<=n+f /\
  (Kk (kl key) (kas_asc p f n)<n+f->KA key p (Kk (kl key) (kas_asc p f n))<KA key p (Kk (kl key) (kas_asc p f n)-1))
 |0,n,h1,hs=>⟨hs,Qs _,Qs _,λh=>absurd h (Jo _)⟩
 |f+1,n,h1,hs=>by
  unfold kas_asc Kk;cases c:kl key (p.getD n 0) (p.getD (n-1) 0)with
  |true=>dsimp only;rw[Qp rfl];exact⟨hs,Qs _,by show n<=n+(f+1);omega,λ_=>Qa c⟩
  |false=>
   dsimp only;rw[Qz (by decide)];have hle:KA key p (n-1)<=KA key p n:=Ul.mp (Jb c)
   obtain⟨a1,a2,a3,a4⟩:=O0 f (n+1) (by omega) (λi j hij hj=>by
    by_cases hjn:j=n
    ·subst hjn;by_cases hin:i=j
     ·subst hin;exact QZ _
     ·exact JU (hs i (j-1) (by omega) (by omega)) hle
    ·exact hs i j hij (by omega))
   exact⟨a1,by omega,by omega,λh=>a4 (by omega)⟩
def eqs(key:Nat->Int)(p:Array Nat)(n q:Nat):Prop:=∀i,n-1-q<=i->i<n->KA key p i=KA key p (n-1)
theorem PJ:∀(f:Nat)(p:Array Nat)(n q:Nat),1<=n->q+1<=n->n+f<=p.size->dsc key p n->eqs key p n q ->
  let r:=Kk (kl key) (kas_desc f p n q)
  r.1.Perm p/\r.1.size=p.size/\dsc key r.1 r.2.1/\eqs key r.1 r.2.1 r.2.2/\r.2.2+1<=r.2.1/\n<=r.2.1/\r.2.1<=n+f
 |0,p,n,q,h1,hq,hz,hd,he=>⟨Uf _,rfl,hd,he,hq,Qs _,Qs _⟩
 |f+1,p,n,q,h1,hq,hz,hd,he=>by
  intro r;have hr:r=Kk (kl key) (kas_desc (f+1) p n q):=rfl;unfold kas_desc Kk at hr;cases c:kl key (p.getD n 0) (p.getD (n-1) 0)with
  |true=>
   rw[c]at hr;(try dsimp only at hr);rw[if_pos rfl]at hr;have hlt:KA key p n<KA key p (n-1):=Qa c
   have ext:∀p':Array Nat,(∀i,KA key p' i=KA key p i)->dsc key p' (n+1)/\eqs key p' (n+1) 0:=λp' hp=>⟨λi j hij hj=>by
     rw[hp,hp];by_cases hjn:j=n
     ·subst hjn;by_cases hin:i=j
      ·subst hin;exact QZ _
      ·exact JU (Int.le_of_lt hlt) (hd i (j-1) (by omega) (by omega))
     ·exact hd i j hij (by omega),λi hi1 hi2=>by
     have:i=n:=by omega
     subst this;rfl⟩
   by_cases hq0:q > 0
   ·rw[Qp hq0]at hr
    have same:∀i,KA key (kas_rev p (n-(q+1)) n) i=KA key p i:=λi=>by
     rw[RK (by omega)];split
     ·rw[he _ (by omega) (by omega),he i (by omega) (by omega)]
     ·rfl
    obtain⟨d1,e1⟩:=ext _ same;obtain⟨a1,a2,a3,a4,a5,a6,a7⟩:=PJ f (kas_rev p (n-(q+1)) n) (n+1) 0 (by omega) (by omega) (by rw[V6];omega) d1 e1;rw[←hr]at a1 a2 a3 a4 a5 a6 a7;exact⟨a1.trans WC,a2.trans V6,a3,a4,a5,by omega,by omega⟩
   ·rw[Qz hq0]at hr;obtain⟨d1,e1⟩:=ext p λ_=>rfl
    obtain⟨a1,a2,a3,a4,a5,a6,a7⟩:=PJ f p (n+1) 0 (by omega) (by omega) (by omega) d1 e1;rw[←hr]at a1 a2 a3 a4 a5 a6 a7;exact⟨a1,a2,a3,a4,a5,by omega,by omega⟩
  |false=>
   rw[c]at hr;(try dsimp only at hr);rw[if_neg (by decide)]at hr;unfold Kk at hr;have hle:KA key p (n-1)<=KA key p n:=Ul.mp (Jb c);cases d:kl key (p.getD (n-1) 0) (p.getD n 0)with
   |true=>rw[d]at hr;(try dsimp only at hr);rw[if_pos rfl]at hr;unfold Kk at hr;rw[hr];exact⟨Uf _,rfl,hd,he,hq,Qs _,by show n<=n+(f+1);omega⟩
   |false=>
    rw[d]at hr;(try dsimp only at hr);rw[if_neg (by decide)]at hr;have hge:KA key p n<=KA key p (n-1):=Ul.mp (Jb d)
    obtain⟨a1,a2,a3,a4,a5,a6,a7⟩:=PJ f p (n+1) (q+1) (by omega) (by omega) (by omega) (λi j hij hj=>by
     by_cases hjn:j=n
     ·subst hjn;by_cases hin:i=j
      ·subst hin;exact QZ _
      ·exact JU hge (hd i (j-1) (by omega) (by omega))
     ·exact hd i j hij (by omega)) (λi hi1 hi2=>by
     have e0:KA key p n=KA key p (n-1):=JQ hge hle;show KA key p i=KA key p (n+1-1);rw[Nat.add_sub_cancel,e0];by_cases hin:i=n
     ·subst hin;exact e0
     ·exact he i (by omega) (by omega))
    rw[←hr]at a1 a2 a3 a4 a5 a6 a7;exact⟨a1,a2,a3,a4,a5,by omega,by omega⟩
theorem Gi{n nrem:Nat}(h1:1<=n)(hn:n<=nrem)(hz:nrem<=p.size)(hd:dsc key p n) :
  let r:=Kk (kl key) (kas_tail3 n nrem p)
  r.2.Perm p/\r.2.size=p.size/\srt key r.2 r.1/\1<=r.1/\r.1<=nrem:=by
 intro r;have hr:r=Kk (kl key) (kas_tail3 n nrem p):=rfl;unfold kas_tail3 at hr;rw[Rh]at hr;have hs:srt key (kas_rev p 0 n) n:=λi j hij hj=>by rw[RK (by omega),RK (by omega),Qp (by omega),Qp (by omega)];exact hd _ _ (by omega) (by omega)
 obtain⟨a1,a2,a3,_⟩:=O0 (key:=key) (p:=kas_rev p 0 n) (nrem-n) n h1 hs;rw[hr];exact⟨WC,V6,a1,by show 1<=Kk _ _;omega,by show Kk _ _<=_;omega⟩
theorem GE{n nrem:Nat}(h1:1<=n)(hn:n+1<=nrem)(hz:nrem<=p.size)(hd:dsc key p (n+1)) :
  let r:=Kk (kl key) (kas_descPart n nrem p)
  r.2.Perm p/\r.2.size=p.size/\srt key r.2 r.1/\1<=r.1/\r.1<=nrem:=by
 intro r;have hr:r=Kk (kl key) (kas_descPart n nrem p):=rfl;unfold kas_descPart at hr;rw[Rh]at hr
 obtain⟨a1,a2,a3,a4,a5,a6,a7⟩:=PJ (key:=key) (nrem-(n+1)) p (n+1) 0 (by omega) (by omega) (by omega) hd (λi hi1 hi2=>by
  have:i=n:=by omega
  subst this;rfl)
 generalize Kk (kl key) (kas_desc (nrem-(n+1)) p (n+1) 0)=d at hr a1 a2 a3 a4 a5 a6 a7;obtain⟨p1,n1,q1⟩:=d;dsimp only at hr a1 a2 a3 a4 a5 a6 a7;by_cases hq:q1 > 0
 ·rw[Qp hq]at hr
  have same:∀i,KA key (kas_rev p1 (n1-(q1+1)) n1) i=KA key p1 i:=λi=>by
   rw[RK (by omega)];split
   ·rw[a4 _ (by omega) (by omega),a4 i (by omega) (by omega)]
   ·rfl
  obtain⟨b1,b2,b3,b4,b5⟩:=Gi (key:=key) (p:=kas_rev p1 (n1-(q1+1)) n1) (n:=n1) (nrem:=nrem) (by omega) (by omega) (by rw[V6];omega) (λi j hij hj=>by rw[same,same];exact a3 i j hij hj);rw[hr];exact⟨(b1.trans WC).trans a1,(b2.trans V6).trans a2,b3,b4,b5⟩
 ·rw[Qz hq]at hr;obtain⟨b1,b2,b3,b4,b5⟩:=Gi (key:=key) (p:=p1) (n:=n1) (nrem:=nrem) (by omega) (by omega) (by omega) a3;rw[hr];exact⟨b1.trans a1,b2.trans a2,b3,b4,b5⟩
theorem qS{nrem:Nat}(h1:1<=nrem)(hz:nrem<=p.size) :
  let r:=Kk (kl key) (kas_count nrem p)
  r.2.Perm p/\r.2.size=p.size/\srt key r.2 r.1/\1<=r.1/\r.1<=nrem:=by
 intro r;have hr:r=Kk (kl key) (kas_count nrem p):=rfl;unfold kas_count at hr;rw[Rh]at hr
 obtain⟨a1,a2,a3,a4⟩:=O0 (key:=key) (p:=p) (nrem-1) 1 (Qs _) (λi j hij hj=>by
  have:i=j:=by omega
  subst this;exact QZ _)
 generalize Kk (kl key) (kas_asc p (nrem-1) 1)=n at hr a1 a2 a3 a4;by_cases hn:(n==nrem)=true
 ·rw[Qp hn]at hr;unfold Kk at hr;rw[hr];exact⟨Uf _,rfl,a1,a2,by show n<=nrem;omega⟩
 ·rw[Qz hn]at hr;have hne:n≠nrem:=by simpa using hn
  have hlt:=a4 (by omega);by_cases hn1:n > 1
  ·rw[Qp hn1]at hr;unfold Kk at hr;cases c:kl key (p.getD 0 0) (p.getD (n-1) 0)with
   |true=>rw[c]at hr;(try dsimp only at hr);rw[if_pos rfl]at hr;unfold Kk at hr;rw[hr];exact⟨Uf _,rfl,a1,a2,by show n<=nrem;omega⟩
   |false=>
    rw[c]at hr;(try dsimp only at hr);rw[if_neg (by decide)]at hr;have hge:KA key p (n-1)<=KA key p 0:=Ul.mp (Jb c);have all:∀i,i<n->KA key p i=KA key p 0:=λi hi=>JQ (JU (a1 i (n-1) (by omega) (by omega)) hge) (a1 0 i (by omega) hi)
    have same:∀i,KA key (kas_rev p 0 n) i=KA key p i:=λi=>by
     rw[RK (by omega)];split
     ·rw[all _ (by omega),all i (by omega)]
     ·rfl
    obtain⟨b1,b2,b3,b4,b5⟩:=GE (key:=key) (p:=kas_rev p 0 n) (n:=n) (nrem:=nrem) a2 (by omega) (by rw[V6];exact hz) (λi j hij hj=>by
     rw[same,same];by_cases hjn:j=n
     ·subst hjn;by_cases hin:i=j
      ·subst hin;exact QZ _
      ·rw[all i (by omega)];rw[all (j-1) (by omega)]at hlt;exact Int.le_of_lt hlt
     ·rw[all i (by omega),all j (by omega)];exact QZ _)
    rw[hr];exact⟨b1.trans WC,b2.trans V6,b3,b4,b5⟩
  ·rw[Qz hn1]at hr;have:n=1:=by omega
   subst this
   obtain⟨b1,b2,b3,b4,b5⟩:=GE (key:=key) (p:=p) (n:=1) (nrem:=nrem) (Qs _) (by omega) hz (λi j hij hj=>by
    by_cases hij2:i=j
    ·subst hij2;exact QZ _
    ·have h0:i=0:=by omega
     have h1:j=1:=by omega
     subst h0;subst h1;exact Int.le_of_lt hlt)
   rw[hr];exact⟨b1,b2,b3,b4,b5⟩
theorem Nz{k:Nat}(hs:srt key p k):∀(f l r:Nat),l<=r->r<=k->r-l<=f->(∀i,i<l->KA key p i<=KA key p k)->(∀i,r<=i->i<k->KA key p k<KA key p i) ->
  let m:=Kk (kl key) (kas_place p k f l r)
  m<=k/\(∀i,i<m->KA key p i<=KA key p k)/\(∀i,m<=i->i<k->KA key p k<KA key p i)
 |0,l,r,hlr,hrk,hf,h1,h2=>⟨by show l<=k;omega,h1,λi (hi:l<=i)=>h2 i (by omega)⟩
 |f+1,l,r,hlr,hrk,hf,h1,h2=>by
  intro m;have hm:m=Kk (kl key) (kas_place p k (f+1) l r):=rfl;unfold kas_place at hm;by_cases hge:l ≥ r
  ·rw[Qp hge]at hm;unfold Kk at hm;rw[hm];exact⟨by omega,h1,λi hi=>h2 i (by omega)⟩
  ·rw[Qz hge]at hm;unfold Kk at hm;cases c:kl key (p.getD k 0) (p.getD ((l+r) / 2) 0)with
   |true=>rw[c]at hm;(try dsimp only at hm);rw[if_pos rfl]at hm;rw[hm];have hlt:KA key p k<KA key p ((l+r) / 2):=Qa c;exact Nz hs f l ((l+r) / 2) (by omega) (by omega) (by omega) h1 λi hi hik=>Int.lt_of_lt_of_le hlt (hs _ _ hi hik)
   |false=>rw[c]at hm;(try dsimp only at hm);rw[if_neg (by decide)]at hm;rw[hm];have hle:KA key p ((l+r) / 2)<=KA key p k:=Ul.mp (Jb c);exact Nz hs f ((l+r) / 2+1) r (by omega) hrk (by omega) (λi hi=>JU (hs i ((l+r) / 2) (by omega) (by omega)) hle) h2
theorem L8:∀(f:Nat)(p:Array Nat)(k:Nat),k+f<=p.size->srt key p k->let r:=Kk (kl key) (kas_bin f p k);r.Perm p/\r.size=p.size/\srt key r (k+f)
 |0,p,k,_,hs=>⟨Uf _,rfl,hs⟩
 |f+1,p,k,hz,hs=>by
  intro r;have hr:r=Kk (kl key) (kas_bin (f+1) p k):=rfl;unfold kas_bin at hr;rw[Rh]at hr;obtain⟨a1,a2,a3⟩:=Nz (key:=key) hs k 0 k (JH _) (Qs _) (by omega) (λi hi=>by omega) (λi h1 h2=>by omega);generalize Kk (kl key) (kas_place p k k 0 k)=l at hr a1 a2 a3;have hk:k<p.size:=by omega
  obtain⟨b1,b2,b3⟩:=L8 f (bubble p k (k-l)) (k+1) (by rw[bubble_size];omega) (λi j hij hj=>by
   rw[HF hk (by omega),HF hk (by omega),show k-(k-l)=l by omega];by_cases hi:i=l
   ·rw[Qp hi];by_cases hjl:j=l
    ·rw[Qp hjl];exact QZ _
    ·rw[Qz hjl,Qp (by omega)];exact Int.le_of_lt (a3 (j-1) (by omega) (by omega))
   ·rw[Qz hi];by_cases hi2:l<i/\i<=k
    ·rw[Qp hi2,Qz (show ¬j=l by omega),Qp (by omega)];exact hs _ _ (by omega) (by omega)
    ·rw[Qz hi2];by_cases hjl:j=l
     ·rw[Qp hjl];exact a2 i (by omega)
     ·rw[Qz hjl];split
      ·exact hs _ _ (by omega) (by omega)
      ·exact hs _ _ (by omega) (by omega))
  rw[hr];exact⟨b1.trans (bubble_perm _ _ _),b2.trans (bubble_size _ _ _),by rw[show k+(f+1)=k+1+f by omega];exact b3⟩
theorem AQ{n:Nat}(h1:1<=n):let r:=Kk (kl key) (kas_sort n);r.Perm (List.toArray (Ux n))/\r.size=n/\srt key r n:=by
 intro r;have hr:r=Kk (kl key) (kas_sort n):=rfl;unfold kas_sort at hr;rw[Rh]at hr;have hsz:(List.toArray (Ux n)).size=n:=by simp
 obtain⟨a1,a2,a3,a4,a5⟩:=qS (key:=key) (p:=List.toArray (Ux n)) (nrem:=n) h1 (by rw[hsz];exact Qs _);generalize Kk (kl key) (kas_count n (List.toArray (Ux n)))=d at hr a1 a2 a3 a4 a5;by_cases hlt:d.1<n
 ·rw[Qp hlt]at hr;have hmax:max d.1 1=d.1:=by omega
  rw[hmax]at hr;obtain⟨b1,b2,b3⟩:=L8 (key:=key) (n-d.1) d.2 d.1 (by omega) a3;rw[hr];exact⟨b1.trans a1,by omega,by rw[show d.1+(n-d.1)=n by omega]at b3;exact b3⟩
 ·rw[Qz hlt]at hr;unfold Kk at hr;rw[hr];exact⟨a1,by omega,by rw[show d.1=n by omega]at a3;exact a3⟩
noncomputable def Asks{α:Type}(N:Nat)(R:α->Prop):KasT α->Prop
 |.ret a=>R a
 |.ask i j k=>i<N/\j<N/\∀b,Asks N R (k b)
theorem Asks.bind{α β:Type}{N:Nat}{R:α->Prop}{S:β->Prop}{f:α->KasT β}(hf:∀a,R a->Asks N S (f a)):∀{t:KasT α},Asks N R t->Asks N S (t.bind f)
 |.ret a,h=>hf a h
 |.ask _ _ k,⟨h1,h2,h3⟩=>⟨h1,h2,λb=>Asks.bind hf (h3 b)⟩
theorem L7{α:Type}{lt:Nat->Nat->Bool}{cmp:Nat->Nat->(Bool->Uo->Prop)->Uo->Prop}{s:Uo}{N:Nat}{R:α->Prop}(hc:∀i j C,i<N->j<N->C (lt i j) s->cmp i j C s):∀(t:KasT α)(Q:α->Uo->Prop),Asks N R t->Q (Kk lt t) s->t.kasWp cmp Q s
 |.ret _,_,_,h=>h
 |.ask i j k,Q,⟨h1,h2,h3⟩,h=>hc i j _ h1 h2 (L7 hc (k (lt i j)) Q (h3 _) h)
def bnd(N:Nat)(p:Array Nat):Prop:=∀i,p.getD i 0<N
theorem Ro{N:Nat}{p q:Array Nat}(hN:0<N)(h:bnd N p)(e:q.Perm p):bnd N q:=λi=>by
 rw[Jg];cases z:q[i]? with
 |none=>exact hN
 |some v=>have hm:v∈q:=Array.mem_of_getElem? z;have hm2:v∈p:=e.mem_iff.mp hm;obtain⟨j,hj,e2⟩:=Array.mem_iff_getElem.mp hm2;have:=h j;rw[Jg,Jq hj,e2]at this;exact this
section
variable{N:Nat}(hN:0<N)
include hN
theorem OZ{p:Array Nat}(h:bnd N p):∀(f n:Nat),Asks N (λ_=>True) (kas_asc p f n)
 |0,_=>trivial
 |f+1,n=>⟨h _,h _,λb=>by
  cases b with
  |true=>(try dsimp only);rw[if_pos rfl];trivial
  |false=>(try dsimp only);rw[if_neg (by decide)];exact OZ h f (n+1)⟩
theorem PH:∀(f:Nat)(p:Array Nat)(n q:Nat),bnd N p->Asks N (λr=>bnd N r.1) (kas_desc f p n q)
 |0,p,_,_,h=>h
 |f+1,p,n,q,h=>⟨h _,h _,λb=>by
  cases b with
  |true=>
   dsimp only;rw[Qp rfl];split
   ·exact PH f _ _ _ (Ro hN h WC)
   ·exact PH f _ _ _ h
  |false=>
   dsimp only;rw[Qz (by decide)];refine⟨h _,h _,λb=>?_⟩;cases b with
   |true=>(try dsimp only);rw[if_pos rfl];exact h
   |false=>(try dsimp only);rw[if_neg (by decide)];exact PH f _ _ _ h⟩
theorem Gh{p:Array Nat}{n nrem:Nat}(h:bnd N p):Asks N (λr=>bnd N r.2) (kas_tail3 n nrem p):=
 Asks.bind (N:=N) (R:=λ_=>True) (S:=λr:Nat×Array Nat=>bnd N r.2) (f:=λm=>.ret (m,kas_rev p 0 n)) (λ_ _=>Ro (p:=p) (q:=kas_rev p 0 n) hN h WC) (OZ hN (Ro hN h WC) _ _)
theorem GD{p:Array Nat}{n nrem:Nat}(h:bnd N p):Asks N (λr=>bnd N r.2) (kas_descPart n nrem p):=
 Asks.bind (λr hr=>by
  split
  ·exact Gh hN (Ro hN hr WC)
  ·exact Gh hN hr) (PH hN _ _ _ _ h)
theorem qR{p:Array Nat}{nrem:Nat}(h:bnd N p):Asks N (λr=>bnd N r.2) (kas_count nrem p):=
 Asks.bind (R:=λ_=>True) (λn _=>by
  split
  ·exact h
  ·split
   ·refine⟨h _,h _,λb=>?_⟩;cases b with
    |true=>(try dsimp only);rw[if_pos rfl];exact h
    |false=>(try dsimp only);rw[if_neg (by decide)];exact GD hN (Ro hN h WC)
   ·exact GD hN h) (OZ hN h _ _)
theorem Ny{p:Array Nat}(h:bnd N p)(k:Nat):∀(f l r:Nat),Asks N (λ_=>True) (kas_place p k f l r)
 |0,_,_=>trivial
 |f+1,l,r=>by
  unfold kas_place;split
  ·trivial
  ·refine⟨h _,h _,λb=>?_⟩;cases b with
   |true=>(try dsimp only);rw[if_pos rfl];exact Ny h k f _ _
   |false=>(try dsimp only);rw[if_neg (by decide)];exact Ny h k f _ _
theorem L6:∀(f:Nat)(p:Array Nat)(k:Nat),bnd N p->Asks N (λ_=>True) (kas_bin f p k)
 |0,_,_,_=>trivial
 |f+1,p,k,h=>Asks.bind (R:=λ_=>True) (λl _=>L6 f _ _ (Ro hN h (bubble_perm _ _ _))) (Ny hN h k _ _ _)
end
theorem AO{n:Nat}(hn:0<n):Asks n (λ_=>True) (kas_sort n):=by
 have hb:bnd n (List.toArray (Ux n)):=λi=>by
  rw[Jg];by_cases hi:i<n
  ·simp[hi]
  ·simp[hi,hn]
 refine Asks.bind (λr hr=>?_) (qR hn hb);split
 ·exact L6 hn _ _ _ hr
 ·trivial
end
noncomputable def KG(q:Int×Int):Int:=q.1*10000000+q.2
def okP(q:Int×Int):Prop:=-1000000<=q.2/\q.2<=1000000
theorem Ce{x y:Int×Int}(hx:okP x)(hy:okP y):KG x<KG y ↔ (x.1<y.1∨x.1=y.1/\x.2<y.2):=by unfold KG okP at *;omega
theorem C8{x y:Int×Int}(hx:okP x)(hy:okP y)(h:KG x=KG y):x=y:=by
 unfold KG okP at *;have h1:x.1=y.1:=by omega
 have h2:x.2=y.2:=by omega
 exact Prod.ext h1 h2
section
variable{prog:Up}{w:World}{A:Around}{E:Um->Uo->Prop}{s:Uo}
def Pn(h:Heap)(v:Um)(q:Int×Int):Prop:=∃a t u o n,v=.ref a/\h.get? a=some o/\o.cls=.type "tuple" /\ o.data=.seq #[.int q.1 t,.int q.2 u] n
theorem Cd{x y:Um}{p q:Int×Int}{Q:Bool->Uo->Prop}(hx:Pn s.heap x p)(hy:Pn s.heap y q)(h:Q (decide (p.1<q.1∨p.1=q.1/\p.2<q.2)) s):Uu (model prog w) A (keyLt' (tuples' true) x y) Q E s:=by
 obtain⟨a,t,u,o,n,rfl,e1,c1,d1⟩:=hx;obtain⟨b,t',u',o',n',rfl,e2,c2,d2⟩:=hy;refine kat_lt e1 d1 e2 d2 ?_;show KatLex prog w A true _ Q [(Value.int p.1 t,Value.int q.1 t'),(Value.int p.2 u,Value.int q.2 u')] 0 s;refine kat_cons (wpAny_eqBool_int ?_);by_cases h1:p.1=q.1
 ·have e:(p.1==q.1)=true:=by simpa using h1
  rw[e];refine kat_yes (kat_cons (wpAny_eqBool_int ?_));by_cases h2:p.2=q.2
  ·have e:(p.2==q.2)=true:=by simpa using h2
   rw[e];refine kat_yes (kat_nil ?_);have:decide (p.1<q.1∨p.1=q.1/\p.2<q.2)=false:=QI (by omega);rw[this]at h;exact h
  ·have e:(p.2==q.2)=false:=by simpa using h2
   rw[e];refine kat_no (kat_one _ _ (PyProof.Rows.lt_int ?_))
   have:decide (p.1<q.1∨p.1=q.1/\p.2<q.2)=decide (p.2<q.2):=by
    by_cases z:p.2<q.2
    ·rw[Q5 z,Q5 (.inr ⟨h1,z⟩)]
    ·rw[QI z,QI (by omega)]
   rw[this]at h;exact h
 ·have e:(p.1==q.1)=false:=by simpa using h1
  rw[e];refine kat_no (oneLt_int ?_)
  have:decide (p.1<q.1∨p.1=q.1/\p.2<q.2)=decide (p.1<q.1):=by
   by_cases z:p.1<q.1
   ·rw[Q5 z,Q5 (.inl z)]
   ·rw[QI z,QI (by omega)]
  rw[this]at h;exact h
noncomputable def YN(h:Heap):List Um->LP->Prop
 |[],[]=>True
 |v::vs,q::qs=>Pn h v q/\YN h vs qs
 |_,_=>False
theorem YN.get{h:Heap}:∀{vs:List Um}{qs:LP},YN h vs qs->vs.length=qs.length/\∀(i:Nat)(hi:i<vs.length),Pn h (vs.getD i .none) (qs.getD i (0,0))
 |[],[],_=>⟨rfl,λi hi=>absurd hi (JR _)⟩
 |v::vs,q::qs,⟨h1,h2⟩=>by
  obtain⟨e,f⟩:=YN.get h2;refine⟨by simp[e],λi hi=>?_⟩;cases i with
  |zero=>exact h1
  |succ i=>exact f i (by simpa using hi)
theorem YN.tups{h:Heap}:∀{vs:List Um}{qs:LP},YN h vs qs->∃fs:List Um,KatTups h vs fs/\fs.length=vs.length/\∀v∈fs,∃i t,v=.int i t
 |[],[],_=>⟨[],trivial,rfl,λ_ h=>by cases h⟩
 |v::vs,q::qs,⟨hp,h2⟩=>by
  obtain⟨a,t,u,o,n,rfl,e1,c1,d1⟩:=hp;obtain⟨fs,f1,f2,f3⟩:=YN.tups h2;refine⟨.int q.1 t::fs,.cons e1 c1 d1 rfl f1,by simp[f2],λv hv=>?_⟩;rcases QQ.mp hv with rfl|hv
  ·exact⟨_,_,rfl⟩
  ·exact f3 v hv
theorem YN.mono{h h':Heap}(k:∀b o,h.get? b=some o->h'.get? b=some o):∀{vs:List Um}{qs:LP},YN h vs qs->YN h' vs qs
 |[],[],_=>trivial
 |v::vs,q::qs,⟨hp,h2⟩=>by obtain⟨a,t,u,o,n,rfl,e1,c1,d1⟩:=hp;exact⟨⟨a,t,u,o,n,rfl,k _ _ e1,c1,d1⟩,YN.mono k h2⟩
def R5(qs:LP)(π:List Nat):Prop:=π.Perm (Ux qs.length)/\(π.map λi=>qs.getD i (0,0)).Pairwise λx y=>KG x<=KG y
theorem kW{a:Uq}{vs:List Um}{qs:LP}{n:Nat}{P:Fin->Uo->Prop}(ho:s.heap.get? a=some (seqObj "list" vs.toArray n))
  (hp:YN ((s.heap.update a (Obj.mapSeq λ_=>#[]))) vs qs) (hq:∀q∈qs,okP q) (h64:vs.length<64)
  (h:∀π:List Nat,R5 qs π->P (.done (.ret .none)) {s with heap:=sortedHeap s.heap a vs (List.toArray (π.map λi=>vs.getD i .none))}) :
  Uu (model prog w) A (Builtin.«list.sort» ⟨[.ref a],[]⟩) P E s:=by
 obtain⟨hl,hget⟩:=hp.get;rw[list_sort_plain];have ha:a<s.heap.objs.size:=Qi ho;refine Qd (listItems_at ho rfl ?_);refine Qd (listUpdate_at ho rfl ?_);obtain⟨e1,ho1⟩:∃e1,(s.heap.update a (Obj.mapSeq λ_=>#[])).get? a=some (seqObj "list" #[] e1):=⟨_,get?_update_seq ho (λ_=>#[])⟩
 refine Qd (seqEpoch_at ho1 rfl ?_);refine Qd (wpAny_newTuple ?_);refine Qd (wpAny_newList ?_);refine JC ?_;have ho6:(((s.heap.update a (Obj.mapSeq λ_=>#[])).push (seqObj "tuple" vs.toArray 0)).push (seqObj "list" #[] 0)).get? a=some (seqObj "list" #[] e1):=by rw[Heap.get?_push_ne _ _ _ (by rw[size_push',Heap.size_update];exact QP (J6 ha)),Heap.get?_push_ne _ _ _ (by rw[Heap.size_update];exact QP ha)];exact ho1
 have hp6:YN (((s.heap.update a (Obj.mapSeq λ_=>#[])).push (seqObj "tuple" vs.toArray 0)).push (seqObj "list" #[] 0)) vs qs:=hp.mono λb o e=>Qm _ (Qm _ e)
 show Uu (model prog w) A _ P E {s with heap:=((s.heap.update a (Obj.mapSeq λ_=>#[])).push (seqObj "tuple" vs.toArray 0)).push (seqObj "list" #[] 0)};dsimp only;have hsz:vs.toArray.size=vs.length:=by simp
 by_cases h2:vs.toArray.size<2
 ·rw[Qp h2,Qp h2];refine Qd (Qh ?_);rw[StateT.run_pure];refine Qd (Qh ?_);dsimp only;refine Qd (seqEpoch_at ho6 rfl ?_);refine Qd (listUpdate_at ho6 rfl ?_ (hsz2:=by rw[Array.size_map];show(pairsOf vs).size<=_;rw[pairsOf_size,sizeLine_eq];omega));simp only[bne_self_eq_false,JF,Ud]
  have hid:(arrOf (SortSt.mk' general' (vs.toArray.zip vs.toArray) #[] 7 none)).map (·.2)=List.toArray ((Ux vs.length).map λi=>vs.getD i .none):=by
   show(vs.toArray.zip vs.toArray).map (·.2)=_
   apply Array.toList_inj.mp;apply List.ext_getElem?;intro i;simp only[Array.toList_map,Array.toList_zip,Qe,List.getElem?_zip_eq_some];by_cases hi:i<vs.length
   ·simp[List.getElem?_zip_eq_some,hi,List.getElem?_range]
   ·simp[hi]
  rw[hid];refine Qh (h (Ux vs.length) ⟨by rw[hl],?_⟩);rw[List.pairwise_map];rw[hsz]at h2
  rcases(show vs.length=0∨vs.length=1 by omega)with z|z<;>rw[z]
  ·exact .nil
  ·exact List.pairwise_singleton _ _
 ·rw[Qz h2,Qz h2];rw[hsz]at h2;obtain⟨fs,f1,f2,f3⟩:=hp6.tups;refine Qd (kat_kind (T:=.type "int") f1 (by omega) (λv hv=>by obtain⟨i,t,rfl⟩:=f3 v hv;exact(show Looks _ _ (pure (Value.type "int")) _ from .now)) rfl ?_)
  refine Qd (QG (kat_run (ks:=vs) (G:=λp s'=>s' = {s with heap:=((s.heap.update a (Obj.mapSeq λ_=>#[])).push (seqObj "tuple" vs.toArray 0)).push (seqObj "list" #[] 0)}/\p=Kk (kl λi=>KG (qs.getD i (0,0))) (kas_sort vs.length))
   (Q:=λst' s'=>s' = {s with heap:=((s.heap.update a (Obj.mapSeq λ_=>#[])).push (seqObj "tuple" vs.toArray 0)).push (seqObj "list" #[] 0)}/\failedOf st'=none/\arrOf st'=(Kk (kl λi=>KG (qs.getD i (0,0))) (kas_sort vs.length)).map (kas_item (vs.toArray.zip vs.toArray)))
   rfl (by omega) h64 (λp st' s' a1 a2 a3 a4=>⟨a4.1,a3,by rw[a2,a4.2]⟩) ?_) ?_ λ_ _ e=>e)
  ·refine L7 (N:=vs.length) (R:=λ_=>True) (lt:=kl λi=>KG (qs.getD i (0,0))) (λi j C hi hj hC=>?_) _ _ (AO (by omega)) ⟨rfl,rfl⟩;refine Cd (YN.get hp6 |>.2 i hi) (YN.get hp6 |>.2 j hj) ?_;have oi:okP (qs.getD i (0,0)):=hq _ (by rw[Qo,Qf (by omega)];exact JE _);have oj:okP (qs.getD j (0,0)):=hq _ (by rw[Qo,Qf (by omega)];exact JE _);have e:decide ((qs.getD i (0,0)).1<(qs.getD j (0,0)).1∨(qs.getD i (0,0)).1=(qs.getD j (0,0)).1/\(qs.getD i (0,0)).2<(qs.getD j (0,0)).2)=kl (λi=>KG (qs.getD i (0,0))) i j:=by unfold kl;exact decide_eq_decide.mpr (Ce oi oj).symm
   rw[e];exact hC
  ·rintro⟨⟨⟩,st'⟩ s' ⟨rfl,hf,har⟩;dsimp only;obtain⟨b1,b2,b3⟩:=AQ (key:=λi=>KG (qs.getD i (0,0))) (n:=vs.length) (by omega);generalize Kk (kl λi=>KG (qs.getD i (0,0))) (kas_sort vs.length)=p at har b1 b2 b3;have hout:=kat_snds (ks:=vs) (vs:=vs) rfl har;have hsz2:((arrOf st').map (·.2)).size=vs.length:=by rw[hout,QH,Qb,Jh,b2]
   refine Qd (seqEpoch_at ho6 rfl ?_);refine Qd (listUpdate_at ho6 rfl ?_ (hsz2:=by rw[hsz2,sizeLine_eq];omega));rw[hf];simp only[bne_self_eq_false,JF,Ud];rw[hout];refine Qh (h p.toList ⟨?_,?_⟩)
   ·have:=Array.perm_iff_toList_perm.mp b1;rw[←hl];exact this
   ·rw[List.pairwise_map,List.pairwise_iff_getElem];intro i j hi hj hij;rw[Jh,b2]at hi hj;have:=b3 i j (by omega) hj;unfold KA at this;rw[Jg,Jg,Jq (by omega),Jq (by omega)]at this;simpa using this
end
section
variable{prog:Up}{w:World}{A:Around}{E:Um->Uo->Prop}{s:Uo}
theorem kE{l:Uq}{vs:List Um}{qs:LP}{Q:Um->Uo->Prop}(hl:s.heap.IsList l vs.toArray)(hp:YN s.heap vs qs)(hq:∀q∈qs,okP q)(h64:vs.length<64)
  (h:∀π:List Nat,R5 qs π->Q (.ref (s.heap.objs.size+1)) {s with heap:=sortedAll s.heap vs (List.toArray (π.map λi=>vs.getD i .none))}) :
  Uu (model prog w) A (call (.builtin "sorted") [.ref l]) Q E s:=by
 refine Calls.call_function_entry kind_sorted plain_sorted entry_sorted (args_sorted1 _) ?_;unfold Builtin.«sorted»;refine Qd (m:=checkCount "sorted" 1 1 _) (Qh ?_);refine Qd (collect_list hl ?_);refine Qd (wpAny_newList ?_);have hsz:((s.heap.push (seqObj "list" #[] 0)).update s.heap.objs.size (Obj.mapSeq (· ++ vs.toArray))).objs.size=s.heap.objs.size+1:=by rw[Heap.size_update,size_push']
 have hoL:(((s.heap.push (seqObj "list" #[] 0)).update s.heap.objs.size (Obj.mapSeq (· ++ vs.toArray))).push (seqObj "list" vs.toArray 0)).get? (s.heap.objs.size+1)=some (seqObj "list" vs.toArray 0):=by rw[←hsz];exact Qy _ rfl
 show Uu _ _ _ _ _ {s with heap:=((s.heap.push (seqObj "list" #[] 0)).update s.heap.objs.size (Obj.mapSeq (· ++ vs.toArray))).push (seqObj "list" vs.toArray 0)};rw[hsz];refine Qd (JC (JB slot_list_sort ⟨_,hoL,rfl⟩ entry_list_sort (kW (qs:=qs) hoL (hp.mono λb o e=>?_) hq h64 λπ a1=>⟨_,rfl,?_⟩) (args_list_sort _)))
 ·have hlt:b<s.heap.objs.size:=Qi e;dsimp only;have hlt':(b:Nat)<s.heap.objs.size:=hlt;rw[Heap.get?_update_ne _ _ _ _ (QP (J6 hlt')),Heap.get?_push_ne _ _ _ (by rw[hsz];exact QP (J6 hlt')),Heap.get?_update_ne _ _ _ _ (QP hlt),Heap.get?_push_ne _ _ _ (QP hlt)];exact e
 ·exact Qh ⟨_,rfl,h π a1⟩
end
end DL
namespace DL
open PySem PySem.Spec L2
open PyProof.Rows hiding St
section
variable{X:Cx}
theorem L5{pins:List (Uq×Obj)}{s:Uo}{σ:St}{H:Hp}(I:Inv X pins σ H s):∀{as:List Uq}{us:List Um}{qs:LP},Vals (as.map V.ref) us->as.length=qs.length->(∀(i:Nat) a q,as[i]?=some a->qs[i]?=some q->SqT X.K H a [.int q.1,.int q.2])->YN s.heap us qs
 |[],_,[],.nil,_,_=>trivial
 |a::as,_,q::qs,.cons r t,hl,h=>by refine⟨?_,L5 I t (by simpa using hl) λi a q h1 h2=>h (i+1) a q (by simpa using h1) (by simpa using h2)⟩;cases r;obtain⟨its,rv,⟨o,e,c,n,d⟩,_⟩:=I.tuple (h 0 a q rfl rfl);obtain⟨u,v,rfl,r1,r2⟩:=rv.two;obtain⟨t1,rfl⟩:=r1;obtain⟨t2,rfl⟩:=r2;exact⟨a,t1,t2,o,n,rfl,e,c,by simpa using d⟩
theorem HE{as:List Uq}{us:List Um}(r:Vals (as.map V.ref) us):∀(π:List Nat),(∀i∈π,i<as.length)->Vals (π.map λi=>V.ref (as.getD i 0)) (π.map λi=>us.getD i .none)
 |[],_=>.nil
 |i::π,h=>by
  refine .cons ?_ (HE r π λj hj=>h j (Qj _ hj));have hi:=h i Qk;have e:(as.map V.ref)[i]?=some (.ref (as.getD i 0)):=by rw[List.getElem?_map,List.getElem?_eq_getElem hi];simp[List.getD,List.getElem?_eq_getElem hi]
  obtain⟨u,e2,ru⟩:=r.get e;simp only[List.getD,e2,JX];exact ru
theorem qQ:Yu X (.builtin "sorted") (λxs H Q=>∃l,∃as:List Uq,∃qs:LP,xs=[.ref l]/\SqL X.K H l (as.map V.ref)/\as.length=qs.length/\(∀(i:Nat) a q,as[i]?=some a->qs[i]?=some q->SqT X.K H a [.int q.1,.int q.2])/\(∀q∈qs,okP q)/\qs.length<64 /\
  ∀π p,R5 qs π->H p=none->Q (.ref p) (upd H p (.lst (π.map λi=>V.ref (as.getD i 0))))):=by
 intro pins s σ H xs us Q I rx h;obtain⟨l,as,qs,rfl,hq,hl,ht,ho,hb,q⟩:=h;obtain⟨u,rfl,ru⟩:=rx.one;cases ru;obtain⟨its,rv,p,hz⟩:=I.list hq;have hn:its.length=qs.length:=by have:=rv.length;rw[Qb]at this;omega
 refine kE (qs:=qs) p.isList (L5 I rv hl ht) ho (by omega) λπ hπ=>?_
 obtain⟨e,he⟩:=sortedAll_at s.heap its (List.toArray (π.map λi=>its.getD i .none));have hπl:∀i∈π,i<as.length:=λi hi=>by have:=hπ.1.mem_iff.mp hi;rw[Q8]at this;omega
 refine⟨.ref (s.heap.objs.size+1),_,I.laid (t':=s.toks) (λb o=>sortedAll_old) (JZ _) (show Zo X.prog X.w _ _ _ (.lst (π.map λi=>V.ref (as.getD i 0)))from⟨?_,_,e,HE rv π hπl,he⟩),rfl,q π _ hπ (I.hok.fresh (JZ _))⟩;rw[Qb,hπ.1.length_eq,Qu];rw[Qb]at hz;omega
noncomputable def Pm:D->Option (Int×Int)
 |.tuple [.int a,.int b]=>some (a,b)
 |_=>none
noncomputable def VH:List D->Option LP
 |[]=>some []
 |d::r=>(Pm d).bind λq=>(VH r).map (q :: ·)
noncomputable def Kf(q:Int×Int):D:=.tuple [.int q.1,.int q.2]
theorem AN{d:D}{q:Int×Int}(h:Pm d=some q):d=Kf q:=by
 unfold Pm at h;split at h
 ·cases h;rfl
 ·cases h
theorem Gw:∀{ds:List D}{qs:LP},VH ds=some qs->ds=qs.map Kf
 |[],qs,h=>by cases h;rfl
 |d::r,qs,h=>by
  unfold VH at h;cases z:Pm d with
  |none=>rw[z]at h;cases h
  |some q=>
   rw[z]at h;cases z2:VH r with
   |none=>rw[z2]at h;cases h
   |some qs'=>rw[z2]at h;cases h;rw[AN z,Gw z2];rfl
theorem Gr:∀qs:LP,VH (qs.map Kf)=some qs
 |[]=>rfl
 |q::r=>by rw[Qx,VH,Gr r];rfl
noncomputable def Wm(qs:LP):LP:=qs.mergeSort λx y=>decide (KG x<=KG y)
theorem Gg(qs:LP):(Wm qs).Perm qs:=List.mergeSort_perm ..
theorem HD(qs:LP):(Wm qs).Pairwise λx y=>KG x<=KG y:=by have:=List.pairwise_mergeSort (le:=λx y:Int×Int=>decide (KG x<=KG y)) (by intro a b c;simp;omega) (by intro a b;simp;omega) qs;exact this.imp (by simp)
theorem OY:∀{a b:LP},(∀x∈a,okP x)->a.Perm b->a.Pairwise (λx y=>KG x<=KG y)->b.Pairwise (λx y=>KG x<=KG y)->a=b
 |[],b,_,p,_,_=>by rw[List.nil_perm.1 p]
 |x::a,[],_,p,_,_=>by have:=p.length_eq;simp at this
 |x::a,y::b,ok,p,ha,hb=>by
  have hx:KG y<=KG x:=by
   rcases QQ.1 (p.mem_iff.1 (Qk ..))with e|e
   ·rw[e];exact QZ _
   ·exact(Jw.1 hb).1 x e
  have hy:KG x<=KG y:=by
   rcases QQ.1 (p.mem_iff.2 (Qk ..))with e|e
   ·rw[e];exact QZ _
   ·exact(Jw.1 ha).1 y e
  have oky:okP y:=ok y (p.mem_iff.2 (Qk ..));have e:=C8 (ok x (Qk ..)) oky (JQ hy hx);subst e;rw[OY (λz hz=>ok z (Qj _ hz)) (List.Perm.cons_inv p) (Jw.1 ha).2 (Jw.1 hb).2]
theorem C7{qs:LP}{π:List Nat}(ok:∀q∈qs,okP q)(h:R5 qs π):(π.map λi=>qs.getD i (0,0))=Wm qs:=by
 have hp:(π.map λi=>qs.getD i (0,0)).Perm qs:=by
  have h1:=h.1.map λi=>qs.getD i (0,0)
  have e:(Ux qs.length).map (λi=>qs.getD i (0,0))=qs:=by
   apply List.ext_getElem?;intro i;rw[Qe];by_cases hi:i<qs.length
   ·rw[List.getElem?_range hi,List.getElem?_eq_getElem hi];simp[List.getD,List.getElem?_eq_getElem hi]
   ·rw[Jc (by rw[Qu];omega),Jc (by omega)];rfl
  rw[e]at h1;exact h1
 exact OY (λx hx=>ok x (hp.mem_iff.mp hx)) (hp.trans (Gg qs).symm) h.2 (HD qs)
noncomputable def okPB(q:Int×Int):Bool:=decide (-1000000<=q.2/\q.2<=1000000)
noncomputable def RJ:List D->Option D
 |[.list ds]=>(match VH ds with
  |some qs=>if qs.length<64/\qs.all okPB=true then some (.list ((Wm qs).map Kf))else none
  |none=>none)
 |_=>none
theorem qP{xs:List D}{d:D}(h:RJ xs=some d):∃qs:LP,xs=[.list (qs.map Kf)]/\qs.length<64/\(∀q∈qs,okP q)/\d=.list ((Wm qs).map Kf):=by
 unfold RJ at h;split at h
 ·rename_i ds;cases z:VH ds with
  |none=>rw[z]at h;cases h
  |some qs=>
   rw[z]at h;dsimp only at h;split at h
   ·rename_i c;cases h;exact⟨qs,by rw[Gw z],c.1,λq hq=>(show -1000000<=q.2/\q.2<=1000000 from Qa (Q3.mp c.2 q hq)),rfl⟩
   ·cases h
 ·cases h
theorem HC{K:Frag}{G:Hp}:∀{vs:List V}{qs:LP},Reps K G vs (qs.map Kf)->∃as:List Uq,vs=as.map V.ref/\as.length=qs.length/\∀(i:Nat) a q,as[i]?=some a->qs[i]?=some q->SqT K G a [.int q.1,.int q.2]
 |_,[],.nil=>⟨[],rfl,rfl,λi a q h=>by simp at h⟩
 |_,q::qs,.cons r t=>by
  obtain⟨as,rfl,hl,h⟩:=HC t;obtain⟨a,ws,rfl,h1,r1⟩:=r.tup_inv;cases r1 with
  |cons ra rb=>
   obtain⟨v,rfl,rb'⟩:=rb.one_inv;refine⟨a::as,rfl,by simp[hl],λi a' q' e1 e2=>?_⟩;cases i with
   |zero=>cases e1;cases e2;rw[ra.int_inv,rb'.int_inv]at h1;exact h1
   |succ i=>exact h i a' q' (by simpa using e1) (by simpa using e2)
theorem C6{K:Frag}{G:Hp}{a:Uq}{q:Int×Int}(h:SqT K G a [.int q.1,.int q.2]):Rep K G (.ref a) (Kf q):=.tup h (.cons (.int _) (.cons (.int _) .nil))
theorem HB{K:Frag}{G:Hp}{as:List Uq}{qs:LP}(hl:as.length=qs.length)(h:∀(i:Nat) a q,as[i]?=some a->qs[i]?=some q->SqT K G a [.int q.1,.int q.2]):∀π:List Nat,(∀i∈π,i<qs.length)->Reps K G (π.map λi=>V.ref (as.getD i 0)) ((π.map λi=>qs.getD i (0,0)).map Kf)
 |[],_=>.nil
 |i::π,hb=>by
  refine .cons ?_ (HB hl h π λj hj=>hb j (Qj _ hj));have hi:=hb i Qk;refine C6 (h i _ _ ?_ ?_)
  ·rw[List.getElem?_eq_getElem (by omega)];simp[List.getD,List.getElem?_eq_getElem (show i<as.length by omega)]
  ·rw[List.getElem?_eq_getElem hi];simp[List.getD,List.getElem?_eq_getElem hi]
theorem Cc:YF X (.builtin "sorted") RJ:=by refine⟨_,qQ,λvs G H ds d Q s r e k=>?_⟩;obtain⟨qs,rfl,h64,ok,rfl⟩:=qP e;obtain⟨v,rfl,q1⟩:=r.one_inv;obtain⟨l,ws,rfl,h1,r1⟩:=q1.lst_inv;obtain⟨as,rfl,hl,ht⟩:=HC r1;refine⟨l,as,qs,rfl,s.seq h1,hl,λi a q e1 e2=>YU s (ht i a q e1 e2),ok,h64,λπ p hπ hp=>?_⟩;have hb:∀i∈π,i<qs.length:=λi hi=>Q8.mp (hπ.1.mem_iff.mp hi);have rr:=(HB hl ht π hb).mono (Zq (s.free hp):Same G (upd G p (.lst (π.map λi=>V.ref (as.getD i 0)))));rw[C7 ok hπ]at rr;exact k _ _ _ (Ext.new s hp) (.lst (SqL.of Zf) rr)
theorem YF.or{f:Um}{p q:List D->Option D}(h1:YF X f p)(h2:YF X f q):YF X f (λxs=>(p xs).orElse λ_=>q xs):=by
 obtain⟨r1,c1,k1⟩:=h1;obtain⟨r2,c2,k2⟩:=h2;refine⟨λxs H Q=>r1 xs H Q∨r2 xs H Q,λpins s σ H xs us Q I rx h=>?_,λvs G H ds d Q s r e k=>?_⟩
 ·rcases h with h|h
  ·exact c1 pins s σ H xs us Q I rx h
  ·exact c2 pins s σ H xs us Q I rx h
 ·dsimp only at e;cases z:p ds with
  |some d'=>rw[z]at e;cases e;exact .inl (k1 vs G H ds _ Q s r z k)
  |none=>rw[z]at e;exact .inr (k2 vs G H ds _ Q s r e k)
noncomputable def VU(xs:List D):Option D:=(VY xs).orElse λ_=>RJ xs
theorem FO:YF X (.builtin "sorted") VU:=Ci.or Cc
theorem Ge{ns:List Int}(h:ns.length<64):VU [.list (ns.map .int)]=some (.list ((Ze ns).map .int)):=by unfold VU;rw[qG h];rfl
theorem AM{qs:LP}(h:qs.length<64)(ok:∀q∈qs,okP q):VU [.list (qs.map Kf)]=some (.list ((Wm qs).map Kf)):=by
 cases qs with
 |nil=>
  have e1:Wm []=[]:=by unfold Wm;simp
  have e2:Ze []=[]:=by unfold Ze;simp
  have:=Ge (ns:=[]) (by decide);rw[e2]at this;rw[e1];exact this
 |cons q r=>have e1:VY [.list ((q::r).map Kf)]=none:=rfl;unfold VU;rw[e1,Option.orElse];unfold RJ;dsimp only;rw[Gr];exact Qp ⟨h,Q3.mpr λq hq=>Q5 (show -1000000<=q.2/\q.2<=1000000 from ok q hq)⟩
end
section
variable{X:Cx}
noncomputable def VT:List D->Option D
 |[d]=>if d.canLay0=true/\d.showable=true/\d.hasDict=false/\d.depth<=50/\d.shown.length<=1000000 then some (.str d.shown)else none
 |_=>none
theorem AL(hu:X.A.units+64<cLine)(hg:X.A.guards=some []):Yu X (.builtin "repr") (λxs H Q=>∃G v d,xs=[v]/\Same G H/\Rep X.K G v d/\d.canLay0=true/\d.showable=true/\d.hasDict=false/\d.depth<=50/\d.shown.length<=1000000/\Q (.str d.shown) H):=by
 intro pins s σ H xs us Q I rx h;obtain⟨G,v,d,rfl,sg,r,c1,c2,c3,c4,c5,q⟩:=h;obtain⟨u,rfl,ru⟩:=rx.one;obtain⟨as,ra⟩:=YW I sg r ru c1;have fin:∀h'(t:Tok) tk,(∀b o,s.heap.get? b=some o->h'.get? b=some o)->EP X pins σ Q (.str d.shown t) {s with heap:=h',toks:=tk}:=λh' t tk hk=>⟨.str d.shown,H,I.kept hk,⟨t,rfl⟩,q⟩
 cases r with
 |non=>cases ru;exact P.repr_of_none (fin s.heap _ _ λ_ _ e=>e)
 |bl b=>cases ru;exact P.repr_of_bool (fin s.heap _ _ λ_ _ e=>e)
 |int i=>obtain⟨t,rfl⟩:=ru;exact P.repr_of_int (by have:(int i).showable=true:=c2;simpa[PyData.showable]using this) (fin s.heap _ _ λ_ _ e=>e)
 |str x=>obtain⟨t,rfl⟩:=ru;exact P.repr_of_str (fin s.heap _ _ λ_ _ e=>e) (QM c5 lim)
 |lst h r=>cases ru;exact repr_of_reads' ra c2 (λz=>by rw[c3]at z;cases z) hg (by omega) (λ_ _ e=>e) (λh' t tk hk=>fin h' t tk hk) (QM c5 lim)
 |tup h r=>cases ru;exact repr_of_reads' ra c2 (λz=>by rw[c3]at z;cases z) hg (by omega) (λ_ _ e=>e) (λh' t tk hk=>fin h' t tk hk) (QM c5 lim)
 |dic h=>cases c1
 |exc _ _ _ _=>cases c1
 |dct _ _ _ _ _=>cases c1
 |dtt _ _ _ _=>cases c1
theorem FN(hu:X.A.units+64<cLine)(hg:X.A.guards=some []):YF X (.builtin "repr") VT:=by
 refine⟨_,AL hu hg,λvs G H ds d Q s r e k=>?_⟩;unfold VT at e;split at e
 ·split at e
  ·rename_i x c;cases e;obtain⟨v,rfl,q1⟩:=r.one_inv;exact⟨G,v,_,rfl,s,q1,c.1,c.2.1,c.2.2.1,c.2.2.2.1,c.2.2.2.2,k _ G H (.refl s) (.str _)⟩
  ·cases e
 ·cases e
theorem qO:bootBuiltins "repr" = some (.builtin "repr"):=by decide +kernel
theorem C5{d:D}(c:d.canLay0=true/\d.showable=true/\d.hasDict=false/\d.depth<=50/\d.shown.length<=1000000):VT [d]=some (.str d.shown):=by unfold VT;exact Qp c
end
section
variable{X:Cx}{B G0:Hp}{e o a b c tg:Us}{pos p2:Pos}{es rest:List Us}{te to ti:TE}
noncomputable def SD{β:Type}(p:D->D->Option β)(f:M D)(j:Nat):M β:=Kb f λx=>λZ=>match Z[j]? with
 |some (some (.pub d))=>Kc (p x d) Z
 |some (some (.own ds))=>Kc (p x (.list ds)) Z
 |_=>.bad
theorem FA{K:Frag}{σ:St}{H:Hp}{p:D->D->Option Bool}{r:R2}{j:Nat}{f:M D}{Q:Bool->Hp->Prop}{QV:VK}(hq:∀t H3,Q t H3->QV (.bl t) H3)
  (hr:∀v u G H x y d Q,Same G H->Rep K G v x->Rep K G u y->p x y=some d->Q (.bl d) H->r v u H Q)
  (q:tBo K B G0 (SD p f j) σ H Q):tD K B G0 f σ H λx H1=>K9 j σ H1 λy H2=>r x y H2 QV:=by
 refine tM.one (R:=Rep K) q λv H2 G Z x k rx a=>?_
 cases z:Z[j]? with
 |none=>rw[z]at a;exact a.elim
 |some o=>
  cases o with
  |none=>rw[z]at a;exact a.elim
  |some sl=>
   cases sl with
   |deep _ _=>rw[z]at a;exact a.elim
   |pub d=>rw[z]at a;dsimp only at a;obtain⟨d',e',a'⟩:=aft.opt a;obtain⟨u,h1,h2⟩:=k.pub j d z;exact⟨u,h1,hr v u G H2 x d d' _ k.gh rx h2 e' (hq _ _ (a' d' G H2 k (.refl _) rfl))⟩
   |own ds=>rw[z]at a;dsimp only at a;obtain⟨d',e',a'⟩:=aft.opt a;obtain⟨ad,vs,h1,h2,h3,h4,h5⟩:=k.own j ds z;exact⟨.ref ad,h1,hr v (.ref ad) H2 H2 x (.list ds) d' _ (.refl _) (rx.mono k.gh) (.lst (SqL.of h4) (h5.mono k.gh)) e' (hq _ _ (a' d' G H2 k (.refl _) rfl))⟩
theorem Cb{op:CmpOp}{p:D->D->Option Bool}{j:Nat}{f:M D}(o:OpB X (Uw op) p)(ha:PE X a (tD X.K B G0 f))(hb:PE X b (K9 j))(hm:behindInMarks op b=false) :
  PT X (.Compare a [op] [b] pos) (tBo X.K B G0 (SD p f j)):=by
 obtain⟨r,h,i⟩:=o;exact YB (Ox h ha hb hm) λσ H Q q=>FA (λt H3 z=>⟨t,rfl,z⟩) i q
theorem L4{β:Type}{p:D->D->Option β}{f:M D}{j:Nat}{Z Z1:UJ}{x:D}{ds:List D}{r:β}(h1:f Z=.ok x Z1)(h2:Z1[j]?=some (some (.own ds)))(h3:p x (.list ds)=some r):SD p f j Z=.ok r Z1:=by unfold SD;exact KS h1 (by rw[h2];exact ZZ h3)
end
noncomputable def Y1(K:Frag)(B G0:Hp)(f:M (List D)):TA:=λσ H Q=>∃G Z,EOk K B G0 G H σ Z/\match f Z with
 |.ok ds Z'=>∀vs G' H',EOk K B G0 G' H' σ Z'->Same G G'->Reps K H' vs ds->Q vs H'
 |.bad=>False
noncomputable def XQ(Z:UJ)(j:Nat):Option D:=match Z[j]? with
 |some (some (.pub d))=>some d
 |some (some (.own ds))=>some (.list ds)
 |some (some (.deep _ d))=>some d
 |_=>none
theorem EOk.tree{K:Frag}{B G0 G H:Hp}{σ:St}{Z:UJ}{j:Nat}{d:D}(k:EOk K B G0 G H σ Z)(h:XQ Z j=some d):∃v,σ[j]?=some (some v)/\Rep K H v d:=by
 unfold XQ at h;split at h
 ·rename_i d' e;cases h;obtain⟨v,h1,h2⟩:=k.pub j _ e;exact⟨v,h1,h2.mono k.gh⟩
 ·rename_i ds e;cases h;obtain⟨a,vs,h1,h2,h3,h4,h5⟩:=k.own j ds e;exact⟨.ref a,h1,.lst (SqL.of h4) (h5.mono k.gh)⟩
 ·rename_i p d' e;cases h;obtain⟨ω,k1,k2⟩:=k.dp;obtain⟨v,fp,s,r,_⟩:=k1 j p _ e;exact⟨v,s,r.rep k.gh⟩
 ·cases h
noncomputable def SU(j:Nat)(g:M (List D)):M (List D):=λZ=>match XQ Z j with
 |none=>.bad
 |some _=>(Kb g λxs=>λZ'=>match XQ Z' j with
  |some d=>.ok (d::xs) Z'
  |none=>.bad) Z
noncomputable def SB(n:Nat)(F:List D->Option D)(g:M (List D)):M D:=Kb g λxs=>if xs.length=n then(match F xs with
 |some d=>if flat d=true then UQ d else λ_=>.bad
 |none=>λ_=>.bad)else λ_=>.bad
section
variable{X:Cx}{B G0:Hp}{e o a b c tg:Us}{pos p2:Pos}{es rest:List Us}
theorem Ca:PA X [] (Y1 X.K B G0 UM):=X1 Ws λσ H Q ⟨G,Z,k,a⟩=>a [] G H k (.refl _) .nil
theorem C4{f:M D}{g:M (List D)}(ha:PE X e (tD X.K B G0 f))(hr:PA X es (Y1 X.K B G0 g))(hs:Uv (e::es) X.env=(false,eval e X.env)::Uv es X.env:=by rfl) :
  PA X (e::es) (Y1 X.K B G0 (UO f g)):=X1 (XG ha hr hs) λσ H Q ⟨G,Z,k,a⟩=>by
 refine⟨G,Z,k,?_⟩;unfold UO Kb at a;cases z:f Z with
 |bad=>rw[z]at a;exact a.elim
 |ok d Z1=>
 rw[z]at a;dsimp only at a;intro v G1 H1 k1 s1 r1;refine⟨G1,Z1,k1,?_⟩;cases z2:g Z1 with
 |bad=>rw[z2]at a;exact a.elim
 |ok xs Z2=>
 rw[z2]at a;dsimp only[UQ]at a;intro vs G2 H2 k2 s2 r2;exact a (v::vs) G2 H2 k2 (s1.trans s2) (.cons ((r1.mono s2).mono k2.gh) r2)
theorem AK{j:Nat}{g:M (List D)}(ha:PE X e (K9 j))(hr:PA X es (Y1 X.K B G0 g))(hs:Uv (e::es) X.env=(false,eval e X.env)::Uv es X.env:=by rfl) :
  PA X (e::es) (Y1 X.K B G0 (SU j g)):=X1 (XG ha hr hs) λσ H Q ⟨G,Z,k,a⟩=>by
 unfold SU at a;cases z0:XQ Z j with
 |none=>rw[z0]at a;exact a.elim
 |some d0=>
 rw[z0]at a;obtain⟨v,hv,_⟩:=k.tree z0;refine⟨v,hv,G,Z,k,?_⟩;dsimp only[Kb]at a;cases z2:g Z with
 |bad=>rw[z2]at a;exact a.elim
 |ok xs Z2=>
 rw[z2]at a;dsimp only at a;intro vs G2 H2 k2 s2 r2;cases z:XQ Z2 j with
 |none=>rw[z]at a;exact a.elim
 |some d=>
 rw[z]at a;obtain⟨v',hv',rv⟩:=k2.tree z;rw[hv]at hv';cases hv';exact a (v::vs) G2 H2 k2 s2 (.cons rv r2)
theorem C3{k n:Nat}{F:List D->Option D}{g:M (List D)}{x:Str}{p2:Pos}(d:Def X.prog X.w X.K X.mg X.base x k n F)(hr:Room k X.A)(hg:Gl X x)(ha:PA X (e::es) (Y1 X.K B G0 g))(hn:(e::es).length=n:=by rfl)
  (hdb:(x==("__debug__" : Str))=false:=by decide) (he:Uv (e::es) X.env=(false,eval e X.env)::Uv es X.env:=by rfl) (hpl:(backTo pos (Uv es X.env)).any (·.1)=false:=by rfl) :
  PE X (.Call (.Name x p2) (e::es) [] pos) (tD X.K B G0 (SB n F g)):=by
 obtain⟨f,fd,ps,h1,h2,h3,FK⟩:=d;refine Kt (Li FK hr hg h1 h2 h3 .nil NR ha hdb he hpl) λσ H Q ⟨G,Z,k,a⟩=>⟨G,Z,k,?_⟩;unfold SB Kb at a
 cases z:g Z with
 |bad=>rw[z]at a;exact a.elim
 |ok ds Z1=>
 rw[z]at a;dsimp only at a;intro vs G1 H1 k1 s1 r1;by_cases hl:ds.length=n
 ·rw[Qp hl]at a;cases zF:F ds with
  |none=>rw[zF]at a;exact a.elim
  |some d=>
  rw[zF]at a;dsimp only at a;by_cases hf:flat d=true
  ·rw[Qp hf]at a;refine⟨H1,ds,d,by rw[Q7,r1.length];exact hl,.refl _,by rw[Q7];exact r1,zF,λv G2 H2 ex rv=>?_⟩;exact a v G1 H2 (k1.ext ⟨ex.h,.refl _,k1.gh.trans ex.h,λ_ _ _ n=>n⟩) s1 (rv.flat hf)
  ·rw[Qz hf]at a;exact a.elim
 ·rw[Qz hl]at a;exact a.elim
theorem C2{j:Nat}{g:M (List D)}{Z Z1:UJ}{xs:List D}{d0 d:D}(h0:XQ Z j=some d0)(h1:g Z=.ok xs Z1)(h2:XQ Z1 j=some d):SU j g Z=.ok (d::xs) Z1:=by unfold SU;rw[h0];dsimp only[Kb];rw[h1];dsimp only;rw[h2]
theorem D9{n:Nat}{F:List D->Option D}{g:M (List D)}{Z Z1:UJ}{xs:List D}{r:D}(h1:g Z=.ok xs Z1)(h2:xs.length=n)(h3:F xs=some r)(h4:flat r=true:=by rfl):SB n F g Z=.ok r Z1:=by unfold SB;exact KS h1 (by rw[if_pos h2,h3];dsimp only;rw[if_pos h4];rfl)
end
end DL
namespace HT
open PySem PyProof.Rows
section
open PySem.SeqAt
open PySem.AutoSeq1 (wpAny_loadPart')
open PySem.MeetsSeq PySem.MeetsSeq2 PySem.MeetsSeq3
end
section
variable{prog:Up}{w:World}{A:Around}{E:Um->Uo->Prop}{s:Uo}
end
end HT
namespace DL
open PySem PySem.Spec L2
open PyProof.Rows hiding St
section
variable{X:Cx}
end
section
variable{X:Cx}
noncomputable def SA(x y:D):Option (List D):=match x,y with
 |.list xs,.int k=>if -1000000<=k/\k<=1000000/\xs.length*k.toNat<=1000000 then some (Uy k.toNat xs).flatten else none
 |_,_=>none
theorem AJ{x y:D}{ds:List D}(h:SA x y=some ds):∃xs k,x=.list xs/\y=.int k/\(-1000000<=k/\k<=1000000/\xs.length*k.toNat<=1000000)/\ds=(Uy k.toNat xs).flatten:=by
 unfold SA at h;split at h
 ·split at h
  ·rename_i xs k c;cases h;exact⟨xs,k,rfl,rfl,c,rfl⟩
  ·cases h
 ·cases h
noncomputable def SL(f g:M D):M (List D):=Kb f λx=>Kb g λy=>Kc (SA x y)
theorem MH{f g:M D}(ha:PE X a (tD X.K B G0 f))(hb:PE X b (tD X.K B G0 g)):PE X (.BinOp a .Mult b pos) (tL X.K B G0 (SL f g)):=
 Kt (NL Lf ha hb) λσ H Q ⟨G,Z,k,q⟩=>by
  refine⟨G,Z,k,?_⟩;unfold SL Kb at q;cases z:f Z with
  |bad=>rw[z]at q;exact q.elim
  |ok x Z1=>
   rw[z]at q;dsimp only at q;intro v G1 H1 k1 s1 r1;refine⟨G1,Z1,k1,?_⟩;cases z2:g Z1 with
   |bad=>rw[z2]at q;exact q.elim
   |ok y Z2=>
    rw[z2]at q;dsimp only[Kc]at q;intro u G2 H2 k2 s2 r2;cases z3:SA x y with
    |none=>rw[z3]at q;exact q.elim
    |some ds=>rw[z3]at q;obtain⟨xs,i,rfl,rfl,c,rfl⟩:=AJ z3;obtain⟨l,vs,rfl,h1,w⟩:=r1.lst_inv;exact⟨l,i,vs,rfl,r2.int_inv,k2.gh.seq (s2.seq h1),by omega,by omega,by rw[w.length];exact QM c.2.2 lim,λp hp=>q p _ G2 _ (k2.ext (Ext.hid k2.gh hp)) (s1.trans s2) (NewL.of k2 hp ((w.mono s2).rep _))⟩
theorem MG{f g:M D}{Z Z1 Z2:UJ}{x:D}{n:Nat}(h1:f Z=.ok (.list [x]) Z1)(h2:g Z1=.ok (.int n) Z2)(h:n<=1000):SL f g Z=.ok (Uy n x) Z2:=by
 unfold SL Kb;rw[h1];dsimp only;rw[h2];dsimp only[Kc]
 have e:SA (.list [x]) (.int n)=some (Uy n x):=by
  unfold SA;dsimp only;rw[Qp ⟨by omega,by omega,by show 1*_<=_;omega⟩]
  congr 1
  rw[Qt];clear h2 h;induction n with
  |zero=>rfl
  |succ n ih=>rw[Q0,QL,ih,Q0];rfl
 rw[e]
end
end DL
namespace DL
open PySem
theorem lz0{P:List Um->Prop}{us:List Um}(hl:us.length=0)(h:P []):P us:=by
 cases us with
 |nil=>exact h
 |cons a r=>cases hl
theorem lzS{P:List Um->Prop}{us:List Um}{n:Nat}(hl:us.length=n+1)(h:∀a r,r.length=n->P (a::r)):P us:=by
 cases us with
 |nil=>cases hl
 |cons a r=>exact h a r (Nat.succ.inj hl)
theorem lz1{P:List Um->Prop}{us:List Um}(hl:us.length=1)(h:∀a,P [a]):P us:=lzS hl λa r e=>lz0 (P:=λr=>P (a::r)) e (h a)
theorem lz2{P:List Um->Prop}{us:List Um}(hl:us.length=2)(h:∀a b,P [a,b]):P us:=lzS hl λa r e=>lz1 (P:=λr=>P (a::r)) e (h a)
theorem lz3{P:List Um->Prop}{us:List Um}(hl:us.length=3)(h:∀a b c,P [a,b,c]):P us:=lzS hl λa r e=>lz2 (P:=λr=>P (a::r)) e (h a)
theorem lz4{P:List Um->Prop}{us:List Um}(hl:us.length=4)(h:∀a b c d,P [a,b,c,d]):P us:=lzS hl λa r e=>lz3 (P:=λr=>P (a::r)) e (h a)
theorem lz5{P:List Um->Prop}{us:List Um}(hl:us.length=5)(h:∀a b c d e,P [a,b,c,d,e]):P us:=lzS hl λa r e=>lz4 (P:=λr=>P (a::r)) e (h a)
theorem bz1{fd:Ur}{ps:List Str}{us:List Um}(hl:us.length=1)(h:∀a,bindArgs fd {pos:=[a]}=pure (ps.zip [a])):bindArgs fd {pos:=us}=pure (ps.zip us):=lz1 (P:=λus=>bindArgs fd {pos:=us}=pure (ps.zip us)) hl h
theorem bz2{fd:Ur}{ps:List Str}{us:List Um}(hl:us.length=2)(h:∀a b,bindArgs fd {pos:=[a,b]}=pure (ps.zip [a,b])):bindArgs fd {pos:=us}=pure (ps.zip us):=lz2 (P:=λus=>bindArgs fd {pos:=us}=pure (ps.zip us)) hl h
theorem bz3{fd:Ur}{ps:List Str}{us:List Um}(hl:us.length=3)(h:∀a b c,bindArgs fd {pos:=[a,b,c]}=pure (ps.zip [a,b,c])):bindArgs fd {pos:=us}=pure (ps.zip us):=lz3 (P:=λus=>bindArgs fd {pos:=us}=pure (ps.zip us)) hl h
theorem bz4{fd:Ur}{ps:List Str}{us:List Um}(hl:us.length=4)(h:∀a b c d,bindArgs fd {pos:=[a,b,c,d]}=pure (ps.zip [a,b,c,d])):bindArgs fd {pos:=us}=pure (ps.zip us):=lz4 (P:=λus=>bindArgs fd {pos:=us}=pure (ps.zip us)) hl h
theorem bz5{fd:Ur}{ps:List Str}{us:List Um}(hl:us.length=5)(h:∀a b c d e,bindArgs fd {pos:=[a,b,c,d,e]}=pure (ps.zip [a,b,c,d,e])):bindArgs fd {pos:=us}=pure (ps.zip us):=lz5 (P:=λus=>bindArgs fd {pos:=us}=pure (ps.zip us)) hl h
end DL
namespace DL
open PySem PySem.Spec L2
open PyProof.Rows hiding St
noncomputable def whole(h:Heap):Frag:=(Ux h.objs.size).filterMap λa=>(h.get? a).map λo=>(a,o)
theorem HA{g:Uq->Option Obj}{x:Uq}:∀l:List Uq,(l.filterMap λa=>(g a).map λo=>(a,o)).lookup x=if x∈l then g x else none
 |[]=>rfl
 |y::l=>by
  have ih:=HA (g:=g) (x:=x) l;by_cases e:x=y
  ·subst e;rw[Qp Qk];cases z:g x with
   |none=>rw[List.filterMap_cons_none (by rw[z];rfl),ih,z];split<;>rfl
   |some o=>rw[List.filterMap_cons_some (by rw[z];rfl),Q2,beq_self_eq_true]
  ·have m:(x∈y::l)=(x∈l):=by simp[List.mem_cons,e]
   have b:(x==y)=false:=by simpa using e
   have ih':(if x∈y::l then g x else none)=_:=(by simp only[m];exact ih.symm)
   rw[ih'];cases z:g y with
   |none=>rw[List.filterMap_cons_none (by rw[z];rfl)]
   |some o=>rw[List.filterMap_cons_some (by rw[z];rfl),Q2,b]
theorem R1{h:Heap}{a:Uq}:(whole h).lookup a=h.get? a:=by
 unfold whole;rw[HA];split
 ·rfl
 ·rename_i n;cases z:h.get? a with
  |none=>rfl
  |some o=>exact absurd (Q8.mpr (Qi z)) n
theorem C1(h:Heap):(whole h).In h:=λa o e=>by rw[R1]at e;exact e
noncomputable def Fz(st:Stmt):Option DefRec:=match st with
 |.FunctionDef name a b _ _ _ sc _ _ pos=>some ⟨name,a,b,sc,pos⟩
 |_=>none
noncomputable def Ob(st:Stmt):Option Str:=match st with
 |.FunctionDef name _ _ _ _ _ _ _ _ _=>some name
 |_=>none
noncomputable def Fy(st:Stmt):Pos:=match st with
 |.FunctionDef _ _ _ _ _ _ _ _ _ pos=>pos
 |_=>⟨0,0,0,0⟩
noncomputable abbrev Zy(p:Up)(i:Nat):Stmt:=p.main.body.getD i (.Pass ⟨0,0,0,0⟩)
noncomputable def RI(p:Up)(ix:List Nat):List DefRec:=ix.filterMap λi=>Fz (Zy p i)
section
variable{p q:Up}{loose:List Str}{mean:ExcName->Option Um}{mg mb:Str->Option Um}{h:Heap}{w:World}
theorem N4{ix:List Nat}(T:Top q loose mean mg mb h)(e:recsOf q=RI p ix)(i:Nat)(x:Str)(hi:ix.contains i=true)(hn:Ob (Zy p i)=some x):∃f fd,mg x=some (.ref f)/\Fun (whole h) x x (Zy p i) f fd:=by
 cases hs:Zy p i with
 |FunctionDef name a b _ _ _ sc _ _ pos=>
  rw[hs]at hn;cases hn;have hd:(⟨x,a,b,sc,pos⟩:DefRec)∈recsOf q:=by rw[e];exact List.mem_filterMap.mpr ⟨i,by simpa using hi,by rw[hs];rfl⟩
  obtain⟨f,⟨oc,od,dt,osl⟩,pm,cd,doc,h1,h2,h3,h4⟩:=T.fn _ hd;have h3:dt=_:=h3;subst h3;refine⟨f,_,h1,⟨⟨oc,od,.none,doc,pm,_,cd,_,osl,rfl,by rw[R1];exact h2,?_⟩,?_⟩⟩
  ·obtain⟨c,⟨_,_,dc,_⟩,vs,t,rfl,g1,g2,g3⟩:=h4;have g2:dc=_:=g2;subst g2;unfold PySem.W.codeIn;dsimp only;rw[R1,g1];dsimp only;have g4:vs.toList[1]?=some (.str x t):=by rw[Array.getElem?_toList];exact g3
   cases hv:vs.toList with
   |nil=>rw[hv]at g4;cases g4
   |cons v0 r=>
    rw[hv]at g4;cases r with
    |nil=>cases g4
    |cons v1 r=>cases g4;exact beq_self_eq_true _
  ·unfold PySem.W.keepIn;dsimp only;rw[R1,h2]
 |_=>rw[hs]at hn;cases hn
theorem AI{K:Frag}{x qual y:Str}{st:Stmt}{f:Uq}{fd:Ur}(F:Fun K x qual st f fd)
  (hb:∀(kV doc pm:Um)(an:Option Uq)(cdv ct v:Um),bindArgs (PySem.W.fnOf x qual (Rc st) (VO st) (ZO st) .none kV doc pm an cdv ct) ⟨[v],[]⟩=pure [(y,v)]) (s:Uo) (v:Um):BindsTo s fd ⟨[v],[]⟩ [(y,v)]:=by
 obtain⟨oc,od,kV,doc,pm,an,cdv,ct,osl,rfl,lk,hcd⟩:=F.ex;exact .of_eq (hb kV doc pm an cdv ct v)
noncomputable def R8(q:Up)(loose:List Str)(x:Str):Bool:=
 !startupNames.contains x && !loose.contains x && !((recsOf q).map (·.name)).contains x && !((litsOf q).map (·.1)).contains x && !((clssOf q loose).map (·.name)).contains x
theorem YM(T:Top q loose mean mg mb h){xs:List Str}(e:xs.all (R8 q loose)=true){x:Str}(hx:x∈xs):mg x=none:=by have:=Q3.mp e x hx;unfold R8 at this;simp only[Jm,Bool.not_eq_true',List.contains_eq_mem,decide_eq_false_iff_not]at this;exact T.free x this.1.1.1.1 this.1.1.1.2 this.1.1.2 this.1.2 this.2
theorem PF(T:Top q loose mean mg mb h){x:Str}{i:Int}(e:valOf q x=some (.int i)):∃t,mg x=some (.int i t):=by obtain⟨v,h1,h2⟩:=T.const x _ e;have:=h2 h;cases this;exact⟨_,h1⟩
theorem NH:∀{vs:List Um}{ss:List Str},StrsAre vs ss->Vals (ss.map V.str) vs
 |_,_,.nil=>.nil
 |_,_,.cons y t r=>.cons ⟨t,rfl⟩ (NH r)
theorem AH(B:Tables q w mg h){x:Str}{ss:List Str}(e:tupStrsOf q x=some ss)(hl:ss.length<=1000) :
  ∃ad o its n,mg x=some (.ref ad)/\(whole h).lookup ad=some o/\o.cls=.type "tuple" /\ o.data=.seq its n/\its.size<=Ut/\Vals (ss.map V.str) its.toList:=by
 obtain⟨a,vs,h1,⟨o,h2,h3,n,h4⟩,h5⟩:=B.tupS x ss e;have r:=NH h5;refine⟨a,o,_,n,h1,by rw[R1];exact h2,h3,h4,?_,r⟩;have:=r.length;rw[Qb]at this;have l:(1000:Nat)<=Ut:=by decide
 rw[QH];omega
end
noncomputable def scOk(sc:Scope)(N gl:List Str):Bool:=(N.all λx=>match sc.names.lookup x with|some .local=>true|some .cell=>true|_=>false)&&gl.all λx=>match sc.names.lookup x with|some .globalImplicit=>true|_=>false
noncomputable def fnB(sc:Scope)(N gl:List Str):Bool:=decide (sc.kind=.function) && !sc.isCoroutine && !sc.isGenerator&&decide N.Nodup&&(sc.names.all λy=>match y.2 with | .free=>false|_=>true)&&scOk sc N gl
structure FnNm(sc:Scope)(N gl:List Str):Prop where
 kind:sc.kind=.function
 co:sc.isCoroutine=false
 gen:sc.isGenerator=false
 nd:N.Nodup
 nofree:∀y∈sc.names,y.2≠.free
 nm:∀x∈N,sc.names.lookup x=some .local∨sc.names.lookup x=some .cell
 gl:∀x∈gl,sc.names.lookup x=some .globalImplicit
theorem KL{sc:Scope}{N gl:List Str}(H:fnB sc N gl=true):FnNm sc N gl:=by
 unfold fnB scOk at H;simp only[Jm,decide_eq_true_eq,Bool.not_eq_true',Q3]at H;obtain⟨⟨⟨⟨⟨h1,h2⟩,h3⟩,h4⟩,h5⟩,h6,h7⟩:=H;refine⟨h1,h2,h3,h4,λy hy e=>?_,λx hx=>?_,λx hx=>?_⟩
 ·have:=h5 y hy;rw[e]at this;cases this
 ·have:=h6 x hx;split at this
  ·rename_i e;exact .inl e
  ·rename_i e;exact .inr e
  ·cases this
 ·have:=h7 x hx;split at this
  ·rename_i e;exact e
  ·cases this
section
variable{sc:Scope}{N gl:List Str}{x:Str}
theorem nq(H:FnNm sc N gl):N.Nodup:=H.nd
theorem fq(H:FnNm sc N gl)(n:Nat):RP N (N.take n) sc:=⟨H.kind,H.co,H.gen,H.nd,by rw[QN,List.take_eq_take_iff];omega,λx hx=>H.nm x (J8 hx),H.nofree⟩
theorem lq(H:FnNm sc N gl)(i:Nat)(h:N[i]?=some x:=by rfl):L2.Loc sc x:=H.nm x (Qn h)
theorem gq(H:FnNm sc N gl)(i:Nat)(h:gl[i]?=some x:=by rfl):sc.names.lookup x=some .globalImplicit:=H.gl x (Qn h)
theorem pq{X:Cx}{pos:Pos}(H:FnNm X.env.scope X.N gl)(i:Nat)(h:X.N[i]?=some x:=by rfl)(hd:(x==("__debug__" : Str))=false:=by decide)(hc:(x==("__classdict__" : Str))=false:=by decide):PE X (.Name x pos) (K9 i):=
 Mw h ((H.nm x (Qn h)).elim .inl λz=>.inr (.inl z)) hd hc
end
theorem KM{q p:Up}{loose:List Str}{mean:ExcName->Option Um}{mg mb:Str->Option Um}{h:Heap}{ix:List Nat}(P:Up)(w:World)(base:Heap){ps:List Str}{k n:Nat}{F:List D->Option D}(T:Top q loose mean mg mb h)(e:recsOf q=RI p ix)(i:Nat)(x:Str)(hi:ix.contains i=true)(hn:Ob (Zy p i)=some x)
  (ok:∀{f:Uq}{fd:Ur},Fun (whole h) x x (Zy p i) f fd->FnOk P w (whole h) mg base CX0 k f fd ps (spD (whole h) n F))
  (hb:∀(kV doc pm:Um)(an:Option Uq)(cdv ct:Um)(us:List Um),us.length=ps.length->bindArgs (PySem.W.fnOf x x (Rc (Zy p i)) (VO (Zy p i)) (ZO (Zy p i)) .none kV doc pm an cdv ct) ⟨us,[]⟩=pure (ps.zip us)):Def P w (whole h) mg base x k n F:=by
 obtain⟨f,fd,m,FU⟩:=N4 T e i x hi hn;exact Def.mk m FU (FU.binds hb) (ok FU)
section
variable{X:Cx}{B G0:Hp}{e:Us}{pos:Pos}{es:List Us}
theorem pdf{k kk n:Nat}{F:List D->Option D}{g:M (List D)}{x:Str}{p2:Pos}(d:Def X.prog X.w X.K X.mg X.base x k n F)(hr:Room kk X.A)(hg:Gl X x)(ha:PA X (e::es) (tDs X.K B G0 g))(hk:k<=kk:=by decide)(hn:(e::es).length=n:=by rfl)
  (hdb:(x==("__debug__" : Str))=false:=by decide) (he:Uv (e::es) X.env=(false,eval e X.env)::Uv es X.env:=by rfl) (hpl:(backTo pos (Uv es X.env)).any (·.1)=false:=by rfl) :
  PE X (.Call (.Name x p2) (e::es) [] pos) (tD X.K B G0 (UX n F g)):=DE d (hr.mono hk) hg ha hn hdb he hpl
end
theorem Fx{q p:Up}{loose:List Str}{mean:ExcName->Option Um}{mg mb:Str->Option Um}{h:Heap}{ix:List Nat}{P:Up}{w:World}{k:Nat}{F:List D->Option D}{y:Str}{fa:Uq}(T:Top q loose mean mg mb h)(e:recsOf q=RI p ix)(i:Nat)(x:Str)(hi:ix.contains i=true)(hn:Ob (Zy p i)=some x)(hfa:mg x=some (.ref fa))
  (hb:∀(kV doc pm:Um)(an:Option Uq)(cdv ct v:Um),bindArgs (PySem.W.fnOf x x (Rc (Zy p i)) (VO (Zy p i)) (ZO (Zy p i)) .none kV doc pm an cdv ct) ⟨[v],[]⟩=pure [(y,v)])
  (ok:∀(base:Heap){f:Uq}{fd:Ur},Fun (whole h) x x (Zy p i) f fd->FnOk P w (whole h) mg base CX0 k f fd [y] (spD (whole h) 1 F)) :
  ∃fd:Ur,(∀(s:Uo)(v:Um),BindsTo s fd ⟨[v],[]⟩ [(y,v)])/\∀base:Heap,FnOk P w (whole h) mg base CX0 k fa fd [y] (spD (whole h) 1 F):=by
 obtain⟨f,fd,m,FU⟩:=N4 T e i x hi hn;cases hfa.symm.trans m;exact⟨fd,AI FU hb,λbase=>ok base FU⟩
theorem BO{l:PySem.W.OpenLaw}{n k:Nat}{q:Up}{loose:List Str}{XP:(Str->Option Um)->Heap->Prop}{YP:World->Heap->Prop}{d:DefRec}{F:List D->Option D}{x:Str}
  (hn:l.most=some n) (hn2:n<=Ut) (hdf:d.params.defaults=[]) (hr:Room k callerA)
  (hF:∀(w:World)(s₀:Uo)(mg mb:Str->Option Um)(fa:Uq)(h:Heap),PySem.W.Ground q loose [] XP w s₀ mg mb h->mg d.name=some (.ref fa) ->
   ∃fd:Ur,(∀(s:Uo)(u:Um),BindsTo s fd ⟨[u],[]⟩ [(x,u)])/\∀base:Heap,FnOk l.prog w (whole h) mg base CX0 k fa fd [x] (spD (whole h) 1 F))
  (hl:∀ns:List Int,ns.length<=n->F [.list (ns.map int)]=some (.bool true)) :
  PySem.W.WalkO q loose XP YP l.row.toRowW d [] (λf vs=>PySem.call f vs):=by
 refine Att.attach_call hn hdf λw s₀ s₁ mg mb fa o pm cd doc a vs ns G Y ho hd hcd hmg hobj hints hlen hg=>?_
 obtain⟨fd,hb,hF⟩:=hF w s₀ mg mb fa _ G hmg;exact Ak (C1 _) G.T.g G.T.b G.T.builtins G.T.nolimit hg hobj hints (QM hlen hn2) hr (λbase _ _=>hF base) hb (λH hO hS=>F7 hS (hl ns hlen)) λH e s' z=>z
section
variable{K:Frag}{G H H':Hp}{nm:Str}{C a:Uq}{bm:List Um}{vs:List V}{ds fs:List D}{dd:Option Uq}
end
section
variable{X:Cx}{B G0:Hp}{KX:XW}{e a b c:Us}{pos p2 cpos:Pos}{es:List Us}{st:Stmt}{sts:List Stmt}{nm x:Str}{k kk n:Nat}
end
section
variable{K:Frag}{B G0 G H:Hp}{σ:St}{Z:UJ}
end
section
variable{X:Cx}{B G0:Hp}{KX:XW}{e a b c:Us}{pos p2 cpos np hpos:Pos}{es:List Us}{x n:Str}{k kk:Nat}
end
section
variable{P:Up}{w:World}{K:Frag}{mg:Str->Option Um}{base:Heap}{st:Stmt}{f f0 D:Uq}{fd fd0:Ur}{q:Str}{p1 p2 p3 p4 p5 p6 p7 p8 p9 r1 r2 r3 r4 r5 r6 r7 r8 r9 q1 q2:Pos}{j1 j2:Nat}
end
section
variable{h h':Heap}{nm:Str}{own:Option Stmt}{C N:Uq}{bm:List Um}{mN:Str->Option Um}
end
section
variable{h h':Heap}{nm:Str}{own ownD:Option Stmt}{C N D ND:Uq}{bm:List Um}{mN mD:Str->Option Um}{M:Model}
end
section
variable{h:Heap}{mg:Str->Option Um}{p:Up}{l:XL0}{i j:Nat}{c:Str×Option Nat}{p1 p2 p3 p4 p5 p6 p7 p8 p9 r1 r2 r3 r4 r5 r6 r7 r8 r9 q1 q2:Pos}{j1 j2:Nat}
end
section
variable{α β:Type}{Z Z1 Z2 Z3 Z':UJ}{f:M D}{s t:SM}{Q:Out->Prop}{d:D}{ds fs:List D}{nm x:Str}{o:Out}
end
section
variable{X:Cx}{B G0:Hp}{KX:XW}{e o a b c:Us}{pos p2:Pos}{es rest:List Us}
end
end DL
namespace L2
open PySem PySem.Spec PyProof.Rows
end L2
namespace DL
open PySem PySem.Spec L2
open PyProof.Rows hiding St
noncomputable def R7:D->Option Key
 |.int i=>some (.inl i)
 |.str x=>some (.inr x)
 |_=>none
noncomputable def Wo:List D->Option (List Key)
 |[]=>some []
 |d::r=>match R7 d,Wo r with
  |some k,some ks=>some (k::ks)
  |_,_=>none
section
variable{K:Frag}{B G0 G H:Hp}{σ:St}{Z:UJ}
theorem OX{d:D}{k:Key}(h:R7 d=some k):d=kD k:=by
 cases d with
 |int i=>cases h;rfl
 |str x=>cases h;rfl
 |_=>cases h
theorem Rep.key_inv{v:V}{k:Key}(r:Rep K G v (kD k)):v=kV k:=by
 cases k with
 |inl i=>exact r.int_inv
 |inr x=>exact r.str_inv
end
section
variable{X:Cx}{B G0:Hp}{KX:XW}{e o a b c:Us}{pos p2:Pos}{es rest:List Us}
end
section
variable{X:Cx}{B G0:Hp}{KX:XW}{e o a b c:Us}{pos p2 cpos:Pos}{es rest:List Us}
end
section
variable{X:Cx}
end
end DL
namespace DL
open PySem PySem.Spec L2 PySem.SeqAt PySem.AutoSeq1
open PyProof.Rows hiding St
section
variable{X:Cx}{pins:List (Uq×Obj)}{s:Uo}{σ:L2.St}{G H:Hp}{A:Around}
end
section
variable{X:Cx}{pins:List (Uq×Obj)}{s:Uo}{σ:L2.St}{G H:Hp}{A:Around}
end
end DL
namespace DL
open PySem PySem.Spec L2
open PyProof.Rows hiding St
section
variable{X:Cx}{pins:List (Uq×Obj)}{s:Uo}{σ:L2.St}{G H:Hp}
end
section
variable{X:Cx}
end
section
variable{X:Cx}{B G0:Hp}{KX:XW}{e:Us}{pos cpos:Pos}{sts sts2:List Stmt}
end
end DL
namespace L2
open PySem PySem.Spec PyProof.Rows
section
variable{prog:Up}{w:World}{A:Around}{E:Um->Uo->Prop}{s:Uo}{d it:Uq}{o:Obj}{es:Array DictEntry}{ep i:Nat}
theorem D8{Q:Um->Uo->Prop}(hd:(d==sysModules)=false)(ho:s.heap.get? d=some o)(hc:o.ExactDict)(hdat:o.data=.dict es ep)
  (hQ:Q (.ref s.heap.objs.size) {s with heap:=s.heap.push {cls:=.type "dict_keyiterator", data:=.fields #[.ref d,.int 0 0,.int es.size 0,.int ep 0]}}):Uu (model prog w) A (pyIter (.ref d)) Q E s:=by
 have hT:s.TypeIs (.ref d) "dict" :=⟨o,ho,hc.1⟩
 refine wpAny_pyIter_slot hT F.slot_dict_iter (JB F.slot_dict_iter hT F.entry_dict_iter ?_ (F.args_dict_iter_1 _));unfold Builtin.«dict.__iter__»;refine Qd ?_;unfold Builtin.Dict.dictSlotNone;refine Qd (wpAny_notOrdered_dict hT ?_);show Uu _ _ (pure (Value.ref d)) _ _ s;refine Qh ?_;show Uu _ _ (Builtin.Dict.showsAll d >>= _) _ _ s;unfold Builtin.Dict.showsAll;rw[Qz (by rw[hd];exact Ji)];refine Qd (Qh ?_);refine Qd (wpAny_dictEntries ho hdat (Qd (wpAny_dictEpoch ho hdat ?_)));refine wpAny_bind (wpAny_newObj_type (wpAny_pure ⟨_,rfl, "dict_keyiterator", _,⟨_,Heap.get?_push_size _ rfl,rfl⟩,F.slot_dict_keyiterator_next.lookup,?_⟩));simpa[rawInt]using hQ
theorem D7{Q:Option Um->Uo->Prop}(hit:s.heap.IsKeyIter it d i es.size ep)(hod:s.heap.get? d=some o)(hdd:o.data=.dict es ep)(hlt:i<es.size)
  (hQ:∀h',h'.IsKeyIter it d (i+1) es.size ep->Heap.SameBut it s.heap h'->Q (some es[i].key) {s with heap:=h'}):Uu (model prog w) A (pyNext (.ref it)) Q E s:=by
 obtain⟨oi,ho,hc,hd⟩:=id hit;unfold pyNext;refine Qd (wpAny_attempt (wpAny_callSpecial?_slot (name:=UH "__next__") hit.typeIs Jv (JB Jv hit.typeIs F.entry_dict_keyiterator_next ?_ (F.args_dict_keyiterator_next_1 _))));refine Qd (Qh (Qd (Qd ?_)))
 first|refine Qd (Jt hit.typeIs (Qh (Qd (wpAny_fieldsOf ho hd ?_))))|refine Qd (wpAny_typeNameOf_keyiter hit.typeIs (Qh (Qd (wpAny_fieldsOf ho hd ?_))))
 have hown:Builtin.Dict_items.ownsTuple "dict_keyiterator" = false:=(by decide)
 simp only[hown,JF,Ud];show Uu _ _ (if(Value.ref d==Value.none)=true then _ else _) _ _ s;rw[Qz (show ¬((Value.ref d==Value.none)=true)from Ji)];refine Qd (Qh (Qd (wpAny_dictEntries hod hdd ?_)));rw[if_neg (by simp)];refine wpAny_bind (wpAny_pure (wpAny_bind (wpAny_dictEpoch hod hdd ?_)));rw[if_neg (by simp)];refine wpAny_pure ?_;simp only[show ¬((i:Int)<0)from by omega,Ud,Qt,Jq hlt];refine Qd ?_
 first|refine Qd (Jt hit.typeIs (Qh (Qd (wpAny_isOneOf_keyiter hit.typeIs ?_))))|refine Qd (wpAny_typeNameOf_keyiter hit.typeIs (Qh (Qd (wpAny_isOneOf_keyiter hit.typeIs ?_))))
 show Uu _ _ (setField (.ref it) 1 (rawInt ((i:Int)+1)) >>= _) _ _ s;refine wpAny_bind (wpAny_setField ho hd (by simp) ?_);have hit':(s.heap.update it (Obj.mapFields (·.setIfInBounds 1 (rawInt ((i:Int)+1))))).IsKeyIter it d (i+1) es.size ep:=⟨_,Heap.get?_update_self _ ho (Obj.isFreed_of_fields (Obj.data_mapFields hd _)),(Obj.cls_mapFields ..).trans hc,by rw[Obj.data_mapFields hd];simp[rawInt]⟩
 refine Qd (JC (Qd (wpAny_isOneOf_keyiter (s:={s with heap:=s.heap.update it (Obj.mapFields (·.setIfInBounds 1 (rawInt ((i:Int)+1))))}) hit'.typeIs ?_)));show Uu _ _ (pure es[i].key) _ _ _;exact Qh (Qh ⟨_,rfl,Qh (hQ _ hit' (Heap.SameBut.update ..))⟩)
theorem FM{Q:Option Um->Uo->Prop}(hh:A.handled=none)(hit:s.heap.IsKeyIter it d i es.size ep)(hod:s.heap.get? d=some o)(hdd:o.data=.dict es ep)(hge:es.size<=i)
  (hQ:∀h',Heap.ExtBut it s.heap h'->Q none {s with heap:=h'}):Uu (model prog w) A (pyNext (.ref it)) Q E s:=by
 obtain⟨oi,ho,hc,hd⟩:=id hit;unfold pyNext;refine Qd (wpAny_attempt (wpAny_callSpecial?_slot (name:=UH "__next__") hit.typeIs Jv (JB Jv hit.typeIs F.entry_dict_keyiterator_next ?_ (F.args_dict_keyiterator_next_1 _))));refine Qd (Qh (Qd (Qd ?_)))
 first|refine Qd (Jt hit.typeIs (Qh (Qd (wpAny_fieldsOf ho hd ?_))))|refine Qd (wpAny_typeNameOf_keyiter hit.typeIs (Qh (Qd (wpAny_fieldsOf ho hd ?_))))
 have hown:Builtin.Dict_items.ownsTuple "dict_keyiterator" = false:=(by decide)
 simp only[hown,JF,Ud];show Uu _ _ (if(Value.ref d==Value.none)=true then _ else _) _ _ s;rw[Qz (show ¬((Value.ref d==Value.none)=true)from Ji)];refine Qd (Qh (Qd (wpAny_dictEntries hod hdd ?_)));rw[if_neg (by simp)];refine wpAny_bind (wpAny_pure (wpAny_bind (wpAny_dictEpoch hod hdd ?_)));rw[if_neg (by simp)];refine wpAny_pure ?_;simp only[show ¬((i:Int)<0)from by omega,Ud,Qt,Array.getElem?_eq_none hge];refine Qd ?_
 first|refine Qd (Jt hit.typeIs (Qh ?_))|refine Qd (wpAny_typeNameOf_keyiter hit.typeIs (Qh ?_))
 show Uu _ _ (setField (.ref it) 0 .none >>= _) _ _ s;refine wpAny_bind (wpAny_setField ho hd (by simp) ?_);show Uu _ _ (newExc (.type "StopIteration") [] >>= _) _ _ _;refine Qd ?_;simp only[newExc,newTuple];refine Qd (wpAny_newObj_type ?_ (by size_fits));refine Qd (m:=firstArgMember _ _) (wpAny_of_eq (a:=Value.none) (by first|rfl|(simp only[firstArgMember];rfl)) ?_);refine wpAny_newObj_type ?_ (by size_fits);simp only[raiseNew];refine Qd (wpAny_handled ?_);rw[show A.in1.handled=none from hh];refine Qd (Qh (wpAny_throw ?_));refine Qd (wpAny_isInstance (T:= "StopIteration") (b:=true) ⟨_,Qy _ rfl,rfl⟩ isSubtype_stop (Qh (hQ _ (((Heap.SameBut.update ..).extBut.push _).push _))))
end
theorem KT.get{H:Hp}:∀{kvs:List (List Key×V)}{xs:List (List Key×Uq×Um)}{i:Nat}{p:List Key×V},KT H kvs xs->kvs[i]?=some p->∃q,xs[i]?=some q/\p.1=q.1/\H q.2.1=some (.tup (p.1.map kV))/\RelV p.2 q.2.2
 |_,_,0,_,.cons h _,e=>by cases e;exact⟨_,rfl,h⟩
 |_,_,i+1,p,.cons _ t,e=>by obtain⟨q,h1,h2⟩:=KT.get (i:=i) (p:=p) t (by simpa using e);exact⟨q,by simpa using h1,h2⟩
noncomputable def Itf(o:Obj)(d:Uq):It:=
 ⟨λi H=>∃kvs,H d=some (.frz o (.dT kvs))/\i<kvs.length,
  λi H v H'=>H'=H/\∃b,v=.ref b/\∀kvs,H d=some (.frz o (.dT kvs))->∃p,kvs[i]?=some p/\H b=some (.tup (p.1.map kV)),
  λi H=>∃kvs,H d=some (.frz o (.dT kvs))/\kvs.length<=i⟩
theorem KT.length{H:Hp}{kvs:List (List Key×V)}{xs:List (List Key×Uq×Um)}(r:KT H kvs xs):kvs.length=xs.length:=Paired.length r
theorem N3{X:Cx}{pins:List (Uq×Obj)}{s:Uo}{σ:St}{H:Hp}{o:Obj}{es:Array DictEntry}{ep:Nat}{d:Uq}{kvs:List (List Key×V)}(hd:o.data=.dict es ep)(I:Inv X pins σ H s)(hq:H d=some (.frz o (.dT kvs))) :
  s.heap.get? d=some o/\o.ExactDict/\(d==sysModules)=false/\es.size=kvs.length/\∀i(h:i<es.size),∃p b,kvs[i]?=some p/\es[i].key=.ref b/\H b=some (.tup (p.1.map kV)):=by
 obtain⟨hget,z,y,xs,rel,o',es',ep',h1,h2,h3,h4,h5⟩:=(show Zo X.prog X.w H s.heap d (.frz o (.dT kvs))from I.hok d _ hq)
 rw[hget]at h1;cases h1;rw[hd]at h3;cases h3;have hl:es.size=kvs.length:=by have:=congrArg List.length h4;rw[Qb,←KT.length rel]at this;simpa using this
 refine⟨hget,h2,y,hl,λi h=>?_⟩;have hk:kvs[i]?=some kvs[i]:=Qf (by omega);obtain⟨q,hx,e1,e2,e3⟩:=KT.get rel hk;refine⟨_,q.2.1,hk,?_,e2⟩;have e:es.toList[i]?=some (entryOfKey (tupleKind (YZ X.prog X.w)) q):=by rw[h4,Qe,hx];rfl
 have e':es.toList[i]?=some es[i]:=by rw[Array.getElem?_toList,Jq h]
 rw[e']at e;rw[QT e];rfl
theorem jz{P:Up}{w:World}{K:Frag}{tg:Us}{o:Obj}{es:Array DictEntry}{ep:Nat}(hd:o.data=.dict es ep)(d it:Uq):Turn P w K tg (Itf o d) [it] it (λi h=>h.IsKeyIter it d i es.size ep) where
 mem:=by simp
 obj:=λi h st b hb=>by
  have e:b=it:=by simpa using hb
  subst e;obtain⟨o,e,c,d⟩:=st;exact⟨o,e,λv z=>by rw[d]at z;cases z⟩
 keep:=λi h h' st k=>by obtain⟨o,e,c,d⟩:=st;exact⟨o,k it (by simp) o e,c,d⟩
 item:=by
  intro X hP hw hK hc i pins s σ H E I hf st hg;subst hP hw hK;obtain⟨kvs,hq,hi⟩:=hg;obtain⟨hget,hx,hy,hl,hall⟩:=N3 hd I hq;have hi':i<es.size:=by omega
  obtain⟨p,b,h1,h2,h3⟩:=hall i hi';obtain⟨f0,f1,f2,f3,f4,f5⟩:=hf it (by simp);refine D7 st hget hd hi' λh' st' sb=>?_;have I1:Inv X pins σ H {s with heap:=h'}:=I.turned (t':=s.toks) (λb o hb e=>(sb.2 b hb).trans e) f0 f1 f3 f4 f5
  obtain⟨o',e,c,d'⟩:=id st';refine⟨_,rfl,RB (s:={s with heap:=h'}) e c d' (by decide) ⟨.ref b,H,I1,by rw[h2];rfl,⟨rfl,b,rfl,λkvs' hq'=>?_⟩,st',λb hb=>(hf b hb).1⟩⟩;rw[hq]at hq';cases hq';exact⟨p,h1,h3⟩
 done:=by intro X hP hw hK hc i pins s σ H E I hf st hg;subst hP hw hK;obtain⟨kvs,hq,hi⟩:=hg;obtain⟨hget,hx,hy,hl,hall⟩:=N3 hd I hq;obtain⟨f0,f1,f2,f3,f4,f5⟩:=hf it (by simp);exact FM (I.ok.hd hc) st hget hd (by omega) λh' eb=>⟨rfl,I.turned (t':=s.toks) (λb o hb e=>eb b o hb e) f0 f1 f3 f4 f5⟩
 self:=λ_ _ _ _ _ st h=>wpAny_pyIter_keyiter st h
section
variable{X:Cx}{tg:Us}
noncomputable def iDct(tl:TE):TI:=λσ H R=>tl σ H λx H1=>∃a o kvs,x=.ref a/\H1 a=some (.frz o (.dT kvs))/\R (Itf o a) H1
theorem FL{l:Us}{tl:TE}(hl:PE X l tl):PI X tg l (iDct tl):=by
 intro pins s σ H R I h;refine thn (hl pins s σ H _ I h) λv s1 ⟨x,H1,I1,r1,q1⟩=>?_
 obtain⟨a,o,kvs,e,hq,q⟩:=q1;subst e;cases r1;obtain⟨hget,z,y,xs,rel,o',es,ep,h1,h2,h3,_⟩:=(show Zo X.prog X.w H1 s1.heap a (.frz o (.dT kvs))from I1.hok a _ hq)
 rw[hget]at h1;cases h1;refine D8 y hget h2 h3 ?_;refine⟨s1.heap.objs.size,[s1.heap.objs.size],_,_,H1,rfl,I1.kept (t':=s1.toks) λb o e=>Qm _ e,jz h3 a _,⟨_,Qy _ rfl,rfl,rfl⟩,λb hb=>?_,q⟩;have e:b=s1.heap.objs.size:=by simpa using hb
 subst e;exact I1.fpOk (Qs _) (I1.hok.fresh (Qs _))
noncomputable def tFrz(te:TE):TE:=λσ H Q=>te σ H λv H1=>∃a kvs,v=.ref a/\H1 a=some (.dT kvs)/\∀o,Q v (upd H1 a (.frz o (.dT kvs)))
theorem FJ{e:Us}{te:TE}(h:PE X e te):PE X e (tFrz te):=by
 intro pins s σ H Q I q;refine thn (h pins s σ H _ I q) λu s1 ⟨v,H1,I1,rv,a,kvs,ev,hq,q1⟩=>?_;subst ev
 obtain⟨z,y,xs,rel,o,es,ep,h1,h2⟩:=(show Zo X.prog X.w H1 s1.heap a (.dT kvs)from I1.hok a _ hq)
 refine⟨.ref a,_,?_,rv,q1 o⟩;refine Ou (t':=s1.toks) I1 (by rw[hq];exact True.intro) (Heap.SameBut.refl _ _) ⟨o,h1⟩ ⟨h1,z,y,xs,KT.keeps rel λb ys e=>?_,o,es,ep,h1,h2⟩;rw[KN (NM e hq (by intro z;cases z))];exact e
noncomputable def Ex(K:Frag)(td ty:TE):TE:=λσ H Q=>td σ H λx H1=>ty σ H1 λy H2=>∃a b kvs k v,x=.ref a/\y=.ref b/\Rd H2 a (.dT kvs)/\SqT K H2 b (k.map kV)/\ZP kvs k=some v/\Q v H2
theorem BN{o i:Us}{pos:Pos}{td ty:TE}(hu:X.A.units+1<cLine)(ho:PE X o td)(hi:PE X i ty)(hs:Sv i):PE X (.Subscript o i pos) (Ex X.K td ty):=by intro pins s σ H Q I h;refine CZ PySem.F.slot_dict_getitem.lookup hs (thn (ho pins s σ H _ I h) λu s1 ⟨x,H1,I1,rx,q1⟩=>thn (hi pins s1 σ H1 _ I1 q1) λiv s2 ⟨y,H2,I2,ry,a,b,kvs,k,v,ex,ey,e,eb,l,q2⟩=>?_);subst ex ey;obtain rfl:u=Value.ref a:=rx;obtain rfl:iv=Value.ref b:=ry;obtain⟨z,hd,xs,rel,dd⟩:=NO I2.hok e;refine⟨dd.typeIs,?_⟩;obtain⟨w',hw,rw'⟩:=RelO.some_of (v:=v) (o:=(atKey xs k).map (·.2)) (by rw[←l];exact rel.val k);obtain⟨p,hp,hp2⟩:=Option.map_eq_some_iff.mp hw;obtain⟨its,rv,⟨ob,g1,g2,n,g3⟩,hz⟩:=I2.tuple eb;refine wpAny_getItem_heap (tupleKind_room_in1 hu) ⟨ob,its.toArray,n,g1,g2,g3,by simpa using Nf rv⟩ dd hp ?_;rw[hp2];exact⟨v,H2,I2.tok _,rw',q2⟩
end
end L2
namespace DL
open PySem PySem.Spec L2
open PyProof.Rows hiding St
section
variable{K:Frag}{B G0 G H:Hp}{σ:St}{Z:UJ}
noncomputable def YJ(Z:UJ):Bool:=Z.all λs=>match s with|some (.own _)=>false|some (.deep _ _)=>false|_=>true
theorem RZ(h:YJ Z=true){i:Nat}{ds:List D}(q:Z[i]?=some (some (.own ds))):False:=by have:=Q3.mp h _ (Qn q);cases this
theorem jy(h:YJ Z=true){i:Nat}{p:Pat}{d:D}(q:Z[i]?=some (some (.deep p d))):False:=by have:=Q3.mp h _ (Qn q);cases this
theorem DpOk.no(h:YJ Z=true):DpOk K B G H σ Z:=.of (λ_ _ _ q=>jy h q) λ_ _ q=>RZ h q
theorem Hz{i:Nat}{d:D}(h:YJ Z=true):YJ (Z.set i (some (.pub d)))=true:=by
 unfold YJ;rw[Q3];intro s hs;rcases JL hs with h1|h1
 ·exact Q3.mp h s h1
 ·subst h1;rfl
theorem EOk.rebaseN(k:EOk K B G0 G H σ Z)(h:YJ Z=true):EOk K H G G H σ Z where
 bh:=.refl _
 gh:=k.gh
 g0:=.refl _
 np:=λ_ _ _ n=>n
 len:=k.len
 pub:=k.pub
 own:=λi ds q=>(RZ h q).elim
 sep:=k.sep
 dp:=.no h
theorem EOk.heap{H':Hp}(k:EOk K B G0 G H σ Z)(h:YJ Z=true)(g:Same G H'):EOk K H' G G H' σ Z where
 bh:=.refl _
 gh:=g
 g0:=.refl _
 np:=λ_ _ _ n=>n
 len:=k.len
 pub:=k.pub
 own:=λi ds q=>(RZ h q).elim
 sep:=k.sep
 dp:=.no h
theorem Nn:∀(k:List Key),Reps K G (k.map kV) (k.map kD)
 |[]=>.nil
 |.inl i::r=>.cons (.int i) (Nn r)
 |.inr x::r=>.cons (.str x) (Nn r)
theorem L0:∀{k:List Key}{ws:List V},Reps K G ws (k.map kD)->ws=k.map kV
 |[],_,.nil=>rfl
 |k::r,_,.cons h t=>by rw[Qx,←L0 t,h.key_inv]
theorem BM{b:Uq}{ys:List V}(gh:Same G H)(hb:H b=some (.tup ys)):∃G',Ext G H G' H/\SqT K G' b ys:=by
 cases q:G b with
 |some u=>have:=gh b u q;rw[hb]at this;cases this;exact⟨G,.refl gh,SqT.of q⟩
 |none=>
  refine⟨upd G b (.tup ys),⟨.refl _,Zq q,λc u e=>?_,λc u e n=>?_⟩,SqT.of Zf⟩
  ·by_cases z:c=b
   ·subst z;rw[Zf]at e;cases e;exact hb
   ·rw[KN z]at e;exact gh c u e
  ·by_cases z:c=b
   ·subst z;rw[hb]at e;cases u<;>cases e
   ·rw[KN z];exact n
theorem AG{ad:Uq}{o:Obj}{ks:List (List Key)}{vs:List V}(h:G ad=some (.frz o (.dT (ks.zip vs))))(hl:ks.length=vs.length):Xj K (Itf o ad) (ks.map tkD) G where
 go:=λi G1 H s1 s2 hi=>by rw[Qb]at hi;exact⟨_,s2 _ _ (s1 _ _ h),by rw[JP];omega⟩
 stop:=λi G1 H s1 s2 hi=>by rw[Qb]at hi;exact⟨_,s2 _ _ (s1 _ _ h),by rw[JP];omega⟩
 yld:=λi G1 H x H' d s1 s2 e y=>by
  obtain⟨rfl,b,rfl,y⟩:=y;obtain⟨p,hp,hb⟩:=y _ (s2 _ _ (s1 _ _ h));rw[Qe]at e;have hp1:ks[i]?=some p.1:=by rw[List.getElem?_zip_eq_some]at hp;exact hp.1
  rw[hp1]at e;cases e;obtain⟨G',ex,sq⟩:=BM (K:=K) s2 hb;exact⟨G',ex,.tup sq (Nn p.1)⟩
noncomputable def kOf:D->Option (List Key)
 |.tuple ds=>Wo ds
 |_=>none
noncomputable def unT:List (D×D)->Option (List D)
 |(.bool true,.none)::r=>some (r.map (·.1))
 |_=>none
noncomputable def Rt:D->Option (List D)
 |.dict kvs=>unT kvs
 |_=>none
noncomputable def R6(f:M D):M (List D):=Kb f λx=>Kc (Rt x)
noncomputable def SK:D->D->Option D
 |.dict ((.bool true,.none)::r),y=>match kOf y with
  |some k=>(r.find? λp=>decide (kOf p.1=some k)).map (·.2)
  |none=>none
 |_,_=>none
theorem Rep.prs_inv{v:V}{r:List (D×D)}(h:Rep K G v (.dict ((.bool true,.none)::r))):∃(a:Uq)(o:Obj)(ks:List (List Key))(vs:List V)(ds:List D),v=.ref a/\r=(ks.map tkD).zip ds/\ks.length=ds.length/\G a=some (.frz o (.dT (ks.zip vs)))/\Reps K G vs ds:=by
 cases h with
 |@dct ad ks vs ds _ e hne hl _ _=>
  cases ks with
  |nil=>exact absurd rfl hne
  |cons k ks=>
   cases ds with
   |nil=>cases hl
   |cons d ds=>have e1:=(Prod.mk.inj (List.cons.inj e).1).1;cases k<;>cases e1
 |@dtt ad o ks vs ds _ e hl h r=>exact⟨ad,o,ks,vs,ds,rfl,(List.cons.inj e).2,hl,h,r⟩
theorem Nx:∀(k:List Key),Wo (k.map kD)=some k
 |[]=>rfl
 |.inl i::r=>by rw[Qx,Wo];show(match some (Sum.inl i),Wo (r.map kD)with|some k,some ks=>some (k::ks)|_,_=>none)=_;rw[Nx r]
 |.inr x::r=>by rw[Qx,Wo];show(match some (Sum.inr x),Wo (r.map kD)with|some k,some ks=>some (k::ks)|_,_=>none)=_;rw[Nx r]
theorem Gd:∀{ds:List D}{k:List Key},Wo ds=some k->ds=k.map kD
 |[],_,h=>by cases h;rfl
 |d::r,k,h=>by
  rw[Wo]at h;split at h
  ·rename_i k1 ks h1 h2;cases h;rw[Qx,←Gd h2,←OX h1]
  ·cases h
theorem Ew(k:List Key):kOf (tkD k)=some k:=Nx k
theorem LZ{k:List Key}{d:D}:∀{ks:List (List Key)}{vs:List V}{ds:List D},Reps K G vs ds->(((ks.map tkD).zip ds).find? λp=>decide (kOf p.1=some k)).map (·.2)=some d->∃v,ZP (ks.zip vs) k=some v/\Rep K G v d
 |[],vs,ds,_,e=>by simp at e
 |q::ks,_,_,.nil,e=>by simp at e
 |q::ks,_,_,.cons (v:=v) (vs:=vs) (ds:=ds) r t,e=>by
  rw[Qx,J4,List.find?_cons,Ew]at e;rw[J4];by_cases h:q=k
  ·subst h;simp only[decide_true]at e;cases e;exact⟨v,O7 rfl,r⟩
  ·have h':¬(some q=some k):=λz=>h (QT z)
   simp only[h',decide_false]at e;rw[Pz (by exact h)];exact LZ t e
end
section
variable{X:Cx}{B G0:Hp}{KX:XW}{e a b c tg:Us}{pos:Pos}
theorem D6{f:M D}(h:PE X e (tD X.K B G0 f)):PI X tg e (iD X.K B G0 (R6 f)):=Y2 (FL h) λσ H R q=>tM.toI (R0:=Rep X.K) q λv H' G' Z' x k r a=>by
 cases z:Rt x with
 |none=>rw[z]at a;exact a.elim
 |some ds=>
  rw[z]at a;unfold Rt at z;split at z
  ·unfold unT at z;split at z
   ·cases z;obtain⟨ad,o,ks,vs,ds,rfl,rfl,hl,hg,rr⟩:=r.prs_inv;refine⟨ad,o,_,rfl,k.gh _ _ hg,a _ G' H' k (.refl _) ?_⟩;rw[List.map_fst_zip (by rw[Qb];omega)];exact AG hg (by rw[rr.length];exact hl)
   ·cases z
  ·cases z
theorem D5(hu:X.A.units+64<cLine){f g:M D}(ha:PE X a (tD X.K B G0 f))(hb:PE X b (tD X.K B G0 g))(hs:Sv b:=by intro _ _;rfl):PE X (.Subscript a b pos) (tD X.K B G0 (UP SK f g)):=
 Kt (BN (by omega) ha hb hs) λσ H Q q=>tM.two q λv u H2 G Z x y k rx ry a=>by
  obtain⟨d,e,a1⟩:=a.opt;unfold SK at e;split at e
  ·rename_i r;split at e
   ·rename_i ky hk;obtain⟨ad,o,ks,vs,ds,rfl,rfl,hl,hg,rr⟩:=rx.prs_inv;cases y with
    |tuple ys=>have hy:=Gd hk;subst hy;obtain⟨bd,ws,rfl,hsq,rw'⟩:=ry.tup_inv;have hws:ws=ky.map kV:=L0 rw';subst hws;obtain⟨w,hw,rw2⟩:=LZ rr e;exact⟨ad,bd,_,ky,w,rfl,rfl,.inr ⟨o,k.gh _ _ hg⟩,YU k.gh hsq,hw,a1.now k rw2⟩
    |_=>cases hk
   ·cases e
  ·cases e
end
noncomputable def Rs(acc:List (List Key×D))(k:List Key):Bool:=acc.all λp=>decide (p.1≠k)
theorem BL{acc:List (List Key×D)}{k:List Key}(h:Rs acc k=true):k∉acc.map (·.1):=λz=>by obtain⟨p,hp,e⟩:=Qr.mp z;have:=Qa (Q3.mp h p hp);exact this e
noncomputable def Tg:Option (Option Sl)->Bool
 |some none=>true
 |_=>false
theorem D4{x:Option (Option Sl)}(h:Tg x=true):x=some none:=by
 unfold Tg at h;split at h
 ·rfl
 ·cases h
noncomputable def XM(i1 i2:Nat)(g:M D):List D->List (List Key×D)->UJ->Option (List (List Key×D))
 |[],acc,_=>some acc
 |.tuple [x,y]::r,acc,Z=>match R7 x,R7 y with
  |some kx,some ky=>match g ((Z.set i1 (some (.pub x))).set i2 (some (.pub y)))with
   |.ok v Z'=>if acc.length<1000000/\Rs acc [kx,ky]=true/\YJ Z'=true then XM i1 i2 g r (acc++[([kx,ky],v)]) Z' else none
   |.bad=>none
  |_,_=>none
 |_::_,_,_=>none
noncomputable def Tc(acc:List (List Key×D)):D:=.dict (pdD (acc.map (·.1)) (acc.map (·.2)))
noncomputable def WF(j i1 i2:Nat)(f:M (List D))(g:M D):SM:=λZ=>
 if YJ Z=true/\Tg Z[j]?=true/\i1<Z.length/\i2<Z.length then match f Z with
  |.ok ds Z1=>if YJ Z1=true then match XM i1 i2 g ds [] Z1 with
   |some acc=>.rt (Tc acc)
   |none=>.bad
   else .bad
  |.bad=>.bad
 else .bad
section
variable{X:Cx}{B G0:Hp}{KX:XW}{e a b c tg iter:Us}{pos:Pos}
theorem Ev{j i1 i2:Nat}{x y z:Str}{f:M (List D)}{g:M D}{p1 p2 p3 p4 p5 p6 p7 p8 p9 pa pb pc pd pe:Pos}{k1 k2}
  (hu:X.A.units+64<cLine) (hp:PassesOwn (model X.prog X.w) X.A X.env X.xe) (hc:X.calm=true) (hN:X.N.Nodup)
  (hj:X.N[j]?=some x) (h1:X.N[i1]?=some y) (h2:X.N[i2]?=some z) (hx:Loc X.env.scope x) (hy:Loc X.env.scope y) (hz:Loc X.env.scope z)
  (vx:∀q,PE X (.Name x q) (K9 j)) (vy:∀q,PE X (.Name y q) (K9 i1)) (vz:∀q,PE X (.Name z q) (K9 i2))
  (n1:j≠i1) (n2:j≠i2) (n3:i1≠i2)
  (hi:∀B' G',PI X (.Tuple [.Name y p3,.Name z p4] k1 p5) iter (iD X.K B' G' f)) (hg:∀B' G',PE X e (tD X.K B' G' g))
  (hfx:X.fn x=true∨X.env.scope.names.lookup x=some .local) (hfy:X.fn y=true∨X.env.scope.names.lookup y=some .local) (hfz:X.fn z=true∨X.env.scope.names.lookup z=some .local)
  (hs1:swapsWith (.Dict [] [] p2) (some (.Name x p1)) pa.line X.env=pure false:=by rfl)
  (hs2:swapsWith e (some (.Subscript (.Name x p6) (.Tuple [.Name y p7,.Name z p8] k2 p9) pb)) pc.line X.env=pure false:=by rfl)
  (hs3:(UK [.Name y p3,.Name z p4] X.env).map (·.2)=assign (.Name y p3) X.env::(UK [.Name z p4] X.env).map (·.2):=by rfl)
  (hs4:(UK [.Name z p4] X.env).map (·.2)=assign (.Name z p4) X.env::(UK [] X.env).map (·.2):=by rfl)
  (hs5:(UK [.Name y p3,.Name z p4] X.env).length=2:=by rfl) (hs6:(UK [.Name y p3,.Name z p4] X.env).findIdx? (·.1)=none:=by rfl)
  (hs7:Uv [.Name y p7,.Name z p8] X.env=(false,eval (.Name y p7) X.env)::Uv [.Name z p8] X.env:=by rfl)
  (hs8:Uv [.Name z p8] X.env=[(false,eval (.Name z p8) X.env)]:=by rfl)
  (hs9:∀x,UL iter X.env x=pure x:=by intro _;rfl) :
  PSs X [.Assign [.Name x p1] (.Dict [] [] p2) pa,.For (.Tuple [.Name y p3,.Name z p4] k1 p5) iter [.Assign [.Subscript (.Name x p6) (.Tuple [.Name y p7,.Name z p8] k2 p9) pb] e pc] [] pd,.Return (some (.Name x pe)) pos] (tS X.K B G0 KX (WF j i1 i2 f g)):=by
 have L1:=Oi (pos:=pa) hN hj hx (Ah (X:=X) (pos:=p2)) hs1 hfx;have hi':PI X (.Tuple [.Name y p3,.Name z p4] k1 p5) iter (λσ H R=>∃B' G',iD X.K B' G' f σ H R):=λpins s σ H R I ⟨B',G',q⟩=>hi B' G' pins s σ H R I q;have hg':PE X e (λσ H Q=>∃B' G',tD X.K B' G' g σ H Q):=λpins s σ H Q I ⟨B',G',q⟩=>hg B' G' pins s σ H Q I q;have T:=Ml (X:=X) (pos:=p5) (k:=k1) hc (OO (XH (pos:=p3) hN h1 hy hfy) (OO (XH (pos:=p4) hN h2 hz hfz) Lu hs4) hs3) hs5 hs6;have P:=CY (X:=X) (pos:=pc) (pos':=pb) (by omega) (vx p6) (Mh (pos:=p9) (x1:=k2) (XG (vy p7) (XG (vz p8) Ws hs8) hs7)) hg' hs2
 have F:=Mk (pos:=pd) hp hc hi' T (Oz P) hs9;have R:=Mm (pos:=pos) (FJ (vx pe));refine P7 (OP L1 (OP F (Oz R))) λDn σ H ⟨G,Z,k,a⟩=>?_;unfold WF at a
 split at a
 case isFalse=>exact a.elim
 case isTrue hcond=>
 obtain⟨c1,c2,c3,c4⟩:=hcond;have c2:=D4 c2;intro p hp0;show ∃B' G',iD X.K B' G' f (σ.set j (some (.ref p))) (upd H p (.dT [])) _;have hgp:G p=none:=k.gh.free hp0
 have hbp:B p=none:=by
  cases q:B p with
  |none=>rfl
  |some u=>have:=k.bh p u q;rw[hp0]at this;cases this
 have hjl:j<Z.length:=(Qg.mp c2).1;have sgH:Same G (upd H p (.dT [])):=k.gh.trans (Zq hp0)
 have k1:EOk X.K (upd H p (.dT [])) G G (upd H p (.dT [])) (σ.set j (some (.ref p))) Z:=by
  refine⟨.refl _,sgH,.refl _,λ_ _ _ n=>n,by rw[QS];exact k.len,λi d q=>?_,λi ds q=>(RZ c1 q).elim,λi l ad es fs q _ _ _=>(RZ c1 q).elim,.no c1⟩;have z:j≠i:=λz=>by subst z;rw[c2]at q;cases q
  rw[Qq z];exact k.pub i d q
 have hpj:(σ.set j (some (V.ref p)))[j]?=some (some (.ref p)):=QD (by rw[←k.len];exact hjl);have ex0:Ext G0 B G (upd H p (.dT [])):=k.exit.trans (Ext.hid k.gh hp0);refine⟨_,_,G,Z,k1,?_⟩;cases zf:f Z with
 |bad=>rw[zf]at a;exact a.elim
 |ok ds Z1=>
 rw[zf]at a;dsimp only at a⊢;split at a
 case isFalse=>exact a.elim
 case isTrue c5=>
 cases zl:XM i1 i2 g ds [] Z1 with
 |none=>rw[zl]at a;exact a.elim
 |some accF=>
 rw[zl]at a;dsimp only at a;intro J G1 H1 kk s1 it;have hp1:H1 p=some (.dT []):=kk.bh p _ Zf;have hg1:G1 p=none:=kk.np p (.t []) Zf hgp
 refine⟨λi m σ' H'=>m=ds.length-i/\∃G' Z' acc vs,EOk X.K H' G' G' H' σ' Z'/\Same G1 G'/\YJ Z'=true/\Z'.length=Z.length/\σ'[j]?=some (some (.ref p))/\H' p=some (.dT ((acc.map (·.1)).zip vs))/\Reps X.K G' vs (acc.map (·.2))/\G' p=none/\Ext G0 B G' H'/\XM i1 i2 g (ds.drop i) acc Z'=some accF,
  ⟨ds.length,by omega,G1,Z1,[],[],kk.rebaseN c5,.refl _,c5,by rw[kk.len,k1.len],hpj,hp1,.nil,hg1,ex0.trans kk.exit,by rw[Ui];exact zl⟩,?_⟩
 rintro i m σ' H' ⟨rfl,G',Z',acc,vs,k',s',c6,c6',hpj',hp',rv,hg'',ex',hl⟩;by_cases hi:i<ds.length
 ·right;refine⟨it.go i G' H' s' k'.gh hi,λσ2 H2=>∃G' Z' acc vs,EOk X.K H2 G' G' H2 σ2 Z'/\Same G1 G'/\YJ Z'=true/\Z'.length=Z.length/\σ2[j]?=some (some (.ref p))/\H2 p=some (.dT ((acc.map (·.1)).zip vs))/\Reps X.K G' vs (acc.map (·.2))/\G' p=none/\Ext G0 B G' H2/\XM i1 i2 g (ds.drop (i+1)) acc Z'=some accF,λσ2 H2 h2=>⟨ds.length-(i+1),by omega,rfl,h2⟩,λxv H2 yl=>?_⟩
  obtain⟨G2,ex,rx⟩:=it.yld i G' H' xv H2 ds[i] s' k'.gh (Qf hi) yl;rw[Jd hi]at hl;generalize hdi:ds[i]=di at hl rx;unfold XM at hl;split at hl
  ·rename_i heq;cases heq
  ·rename_i acc Z' _ _ _ dx dy r heq;injection heq with he1 he2;subst he1 he2
   split at hl
   ·rename_i kx ky hkx hky;obtain⟨ad,ws,rfl,hsq,rws⟩:=rx.tup_inv;cases rws with
    |cons ra rws=>
    cases rws with
    |cons rb rws=>
    cases rws;rename_i v1 v2;have ev1:=OX hkx;have ev2:=OX hky;subst ev1 ev2;have ew1:=ra.key_inv;have ew2:=rb.key_inv;subst ew1 ew2;refine⟨ad,_,rfl,YU ex.gh hsq,rfl,_,_,rfl,_,_,rfl,rfl,?_⟩;have k2:EOk X.K H' G' G2 H2 σ' Z':=k'.ext ex;have k3:=(k2.setPub (i:=i1) ra (by rw[c6'];exact c3)).setPub (i:=i2) rb (by rw[QS,c6'];exact c4);have c7:YJ ((Z'.set i1 (some (.pub (kD kx)))).set i2 (some (.pub (kD ky))))=true:=Hz (Hz c6);have hs2:H2 p=some (.dT ((acc.map (·.1)).zip vs)):=ex.h p _ hp';have hg2:G2 p=none:=ex.np p (.t _) hp' hg'';refine⟨_,_,G2,_,k3.rebaseN c7,?_⟩;cases zg:g ((Z'.set i1 (some (.pub (kD kx)))).set i2 (some (.pub (kD ky))))with
    |bad=>rw[zg]at hl;cases hl
    |ok dv Z4=>
    rw[zg]at hl;dsimp only at hl;split at hl
    case isFalse=>cases hl
    case isTrue hcc=>
    obtain⟨d1,d2,d3⟩:=hcc;have d2:=BL d2;intro v G4 H4 k4 s4 rv4;have lj:j<σ'.length:=(Qg.mp hpj').1;have l1:i1<σ'.length:=by rw[←k'.len,c6'];exact c3
    have l2:i2<σ'.length:=by rw[←k'.len,c6'];exact c4
    refine⟨.ref p,by rw[Qq n2.symm,Qq n1.symm];exact hpj',?_⟩;refine⟨_,by rw[Qq n3.symm];exact QD l1,_,QD (by rw[QS];exact l2),(show 2<=Ut by decide),λq hq=>?_⟩;have hp4:H4 p=some (.dT ((acc.map (·.1)).zip vs)):=k4.bh p _ hs2;have hqp:p≠q:=Yi hp4 hq;have hg4:G4 p=none:=k4.np p (.t _) hs2 hg2;have hgq:G4 q=none:=k4.gh.free hq;have hvl:vs.length=acc.length:=by rw[rv.length,Qb]
    have hnone:ZP ((acc.map (·.1)).zip vs) [kx,ky]=none:=by
     have key:∀(ks:List (List Key))(us:List V),[kx,ky]∉ks->ZP (ks.zip us) [kx,ky]=none:=by
      intro ks;induction ks with
      |nil=>intro us _;rfl
      |cons k0 kr ih=>
       intro us hn;cases us with
       |nil=>rfl
       |cons u0 ur=>rw[J4,Pz (by intro z;exact hn (by rw[←z];exact Qk))];exact ih ur λz=>hn (Qj _ z)
     exact key _ _ d2
    refine⟨p,_,rfl,DPut.t (k:=[kx,ky]) (by rw[KN hqp];exact hp4) Zf (by rw[JP,Qb,sizeLine_eq];omega),?_⟩;rw[Aj _ hnone];have sg6:Same G4 (upd (upd H4 q (.tup [kV kx,kV ky])) p (.dT ((acc.map (·.1)).zip vs++[([kx,ky],v)]))):=λbb u e=>by rw[KN (Yi e hg4),KN (Yi e hgq)];exact k4.gh bb u e
    refine⟨G4,Z4,acc++[([kx,ky],dv)],vs++[v],k4.heap d3 sg6,(s'.trans ex.g).trans s4,d3,?_,?_,?_,?_,hg4,?_,hl⟩
    ·rw[k4.len,QS,QS,←k'.len,c6']
    ·rw[Qq n2.symm,Qq n1.symm];exact hpj'
    ·rw[Zf,QC,List.zip_append (by rw[Qb,hvl])];rfl
    ·rw[QC];exact Reps.append (rv.mono (ex.g.trans s4)) (.cons rv4 .nil)
    ·have e4:Ext G0 B G4 H4:=(ex'.trans ex).trans k4.exit;refine⟨λbb u e=>?_,e4.g,sg6,e4.np⟩;have hb4:=e4.h bb u e;rw[KN (Yi e hbp),KN (Yi hb4 hq)];exact hb4
   ·cases hl
  ·cases hl
 ·left;refine⟨it.stop i G' H' s' k'.gh (by omega),.ref p,hpj',p,_,rfl,hp',λo=>?_⟩
  rw[List.drop_eq_nil_of_le (by omega)]at hl;have hl:some acc=some accF:=hl;have hl:=QT hl;subst hl;refine a (.ref p) (upd G' p (.frz o (.dT ((acc.map (·.1)).zip vs)))) _ ⟨λbb u e=>?_,ex'.g.trans (Zq hg''),λbb u e=>?_,λbb u e n=>?_⟩ ?_
  ·rw[KN (Yi e hbp)];exact ex'.h bb u e
  ·by_cases zz:bb=p
   ·subst zz;rw[Zf]at e⊢;exact e
   ·rw[KN zz]at e⊢;exact k'.gh bb u e
  ·rw[KN (Yi e hbp)];exact ex'.np bb u e n
  ·exact .dtt rfl (by rw[Qb,Qb]) Zf (rv.mono (Zq hg''))
end
section
variable{X:Cx}
noncomputable def YT:List Int->Int
 |[]=>0
 |[n]=>n
 |n::r=>if YT r<n then YT r else n
theorem Nm:∀{ns:List Int},0<ns.length->YT ns∈ns
 |[n],_=>QW.2 rfl
 |n::m::r,_=>by
  have ih:=Nm (ns:=m::r) (Uj _);unfold YT;split
  ·exact Qj _ ih
  ·exact Qk ..
theorem LY:∀{ns:List Int}{a:Int},a∈ns->YT ns<=a
 |[n],a,h=>by rw[QW.1 h];exact QZ _
 |n::m::r,a,h=>by
  have ih:∀b,b∈m::r->YT (m::r)<=b:=λb hb=>LY hb;unfold YT;rcases QQ.1 h with e|h
  ·subst e;split<;>omega
  ·have:=ih a h;split<;>omega
theorem BK{ns:List Int}{M:Int}(h1:M∈ns)(h2:∀a,a∈ns->M<=a):YT ns=M:=
 JQ (LY h1) (h2 _ (Nm (J0 h1)))
theorem A0(hc:X.calm=true):Yu X (.builtin "min") (λxs H Q=>∃l,∃ns:List Int,xs=[.ref l]/\SqL X.K H l (ns.map V.int)/\0<ns.length/\Q (.int (YT ns)) H):=by
 intro pins s σ H xs us Q I rx h;obtain⟨l,ns,rfl,hq,hb,q⟩:=h;obtain⟨u,rfl,ru⟩:=rx.one;cases ru;obtain⟨its,rv,p,hz⟩:=I.list hq;have hi:=Wj rv;obtain⟨ys,e⟩:=hi.allInts.items;have hns:ns=ys.toList.map (·.1):=by rw[←hi.numsOf,←nums_intItems,←e]
 have hsz:0<ys.size:=by rw[hns,Qb,Jh]at hb;exact hb
 have hl:=p.isList;rw[e]at hl;refine min_intList (I.ok.hd hc) hl hsz λv h' tk hv hk=>?_
 obtain⟨t,rfl⟩:=intItems_at hv;obtain⟨h1,h2⟩:=argBest_lt (numAt ys) (ys.size-1);refine⟨.int (YT ns),H,I.kept hk,⟨t,?_⟩,q⟩;rw[BK (M:=_) ?_ ?_]
 ·rw[hns,numAt_eq];exact getD_mem (by rw[Qb,Jh];omega)
 ·intro a ha;rw[hns]at ha;obtain⟨j,hj,rfl⟩:=mem_getD ha;rw[Qb,Jh]at hj;rw[←numAt_eq];exact h2 j (by omega)
noncomputable def SJ:List D->Option D
 |[.list ds]=>(match ZT ds with
  |some ns=>if 0<ns.length then some (.int (YT ns))else none
  |none=>none)
 |_=>none
theorem AZ{xs:List D}{d:D}(h:SJ xs=some d):∃ds ns,xs=[.list ds]/\ZT ds=some ns/\0<ns.length/\d=.int (YT ns):=by
 unfold SJ at h;split at h
 ·rename_i ds;cases z:ZT ds with
  |none=>rw[z]at h;cases h
  |some ns=>
   rw[z]at h;dsimp only at h;split at h
   ·rename_i c;cases h;exact⟨ds,ns,rfl,z,c,rfl⟩
   ·cases h
 ·cases h
theorem Eu(hc:X.calm=true):YF X (.builtin "min") SJ:=by refine⟨_,A0 hc,λvs G H ds d Q s r e k=>?_⟩;obtain⟨ds,ns,rfl,z,c,rfl⟩:=AZ e;obtain⟨v,rfl,q1⟩:=r.one_inv;obtain⟨l,ws,rfl,h1,r1⟩:=q1.lst_inv;have:=Ta r1 z;subst this;exact⟨l,ns,rfl,s.seq h1,c,k _ G H (.refl s) (.int _)⟩
theorem BJ{ns:List Int}(h:0<ns.length):SJ [.list (ns.map .int)]=some (.int (YT ns)):=by unfold SJ;simp only[V8,Qp h]
end
end DL
namespace L2
open PySem PySem.Spec PyProof.Rows
end L2
namespace DL
open PySem PySem.Spec L2
open PyProof.Rows hiding St
section
variable{X:Cx}{B G0:Hp}{KX:XW}{e1 e2 e3:Us}{pos:Pos}
end
section
variable{X:Cx}{B G0:Hp}{e:Us}{pos:Pos}{es:List Us}{st:Stmt}{sts:List Stmt}
end
section
variable{prog:Up}{w:World}{A:Around}{E:Um->Uo->Prop}{s:Uo}
end
end DL
namespace L2
open PySem PySem.Spec PyProof.Rows
section
variable{X:Cx}
end
end L2
namespace DL
open PySem PySem.Spec L2
open PyProof.Rows hiding St
section
variable{X:Cx}{B G0:Hp}{e a b c tg:Us}{pos:Pos}{es rest:List Us}
end
theorem EOk.lent{K:Frag}{B G0 G H:Hp}{σ:St}{Z:UJ}(k:EOk K B G0 G H σ Z):EOk K H H H H σ (ZH Z) where
 bh:=.refl _
 gh:=.refl _
 g0:=.refl _
 np:=λ_ _ e n=>by rw[n]at e;cases e
 len:=by unfold ZH;rw[Qb];exact k.len
 pub:=λi d e=>by
  rcases Hk e with e2|⟨ds,rfl,e2⟩|⟨p,e2⟩
  ·exact k.tree (by unfold XQ;rw[e2])
  ·exact k.tree (by unfold XQ;rw[e2])
  ·exact k.tree (by unfold XQ;rw[e2])
 own:=λi ds e=>(Ri e).elim
 sep:=λi j a ds es e=>(Ri e).elim
 dp:=.of (λ_ _ _ q=>GA q) λ_ _ q=>Ri q
section
variable{X:Cx}{B G0:Hp}{KX:XW}{e a b c tg iter:Us}{pos:Pos}
end
end DL
namespace L2
open PySem PySem.Spec PyProof.Rows
section
variable{X:Cx}
end
end L2
namespace DL
open PySem PySem.Spec L2
open PyProof.Rows hiding St
section
variable{X:Cx}{B G0:Hp}{e a b c tg:Us}{pos:Pos}{es rest:List Us}
end
section
variable{prog:Up}{w:World}{A:Around}{E:Um->Uo->Prop}{s:Uo}
end
section
variable{X:Cx}{B G0:Hp}{e a b c:Us}{pos p2 p3:Pos}
end
section
variable{X:Cx}{B G0:Hp}{KX:XW}{e o a b c tg i:Us}{pos p2:Pos}{es rest:List Us}{te to ti:TE}
end
section
variable{prog:Up}{w:World}{A:Around}{E:Um->Uo->Prop}{s:Uo}
end
section
variable{prog:Up}{w:World}{A:Around}{E:Um->Uo->Prop}
variable{K:Type}[DecidableEq K]{knd:KeyKind prog w K}
end
section
variable{prog:Up}{w:World}{A:Around}{E:Um->Uo->Prop}{h:Heap}{g:Array GenState}{d:Drawn}{t:Nat}{os:OsState}{a:Uq}{o:Obj}
end
section
variable{prog:Up}{w:World}{A:Around}{E:Um->Uo->Prop}
variable{K:Type}[DecidableEq K]{knd:KeyKind prog w K}
end
end DL
namespace L2
open PySem PySem.Spec PyProof.Rows
section
variable{X:Cx}
end
end L2
namespace DL
open PySem PySem.Spec L2
open PyProof.Rows hiding St
section
variable{X:Cx}{B G0:Hp}{a:Us}{p p2 p3 pos:Pos}
end
section
variable{K:Frag}{B G0 G H:Hp}{σ:St}{Z:UJ}
end
section
variable{X:Cx}{B G0:Hp}{KX:XW}{e o a b c:Us}{pos:Pos}{es:List Us}{st:Stmt}{sts:List Stmt}{pt:Pat}
end
section
variable{K:Frag}{B G0 G H:Hp}{σ:St}{Z:UJ}
end
section
variable{X:Cx}{B G0:Hp}{KX:XW}{e o a b c:Us}{pos:Pos}{es:List Us}
end
section
variable{X:Cx}{B G0:Hp}{KX:XW}{e o a b c:Us}{pos:Pos}{es:List Us}
end
noncomputable def isT:Option HO->Bool
 |some (.tup _)=>true
 |some (.frz _ (.tup _))=>true
 |_=>false
theorem Et{u:MO}:isT (some u.ho)=false:=by cases u<;>rfl
noncomputable def Zr(fp:List Uq)(G H:Hp):Hp:=λb=>if b∈fp∨isT (H b)=true then H b else G b
section
variable{K:Frag}{B G0 G H:Hp}{fp:List Uq}
theorem AY(gh:Same G H):Same G (Zr fp G H):=λb o e=>by
 unfold Zr;split
 ·exact gh b o e
 ·exact e
theorem D3(gh:Same G H):Same (Zr fp G H) H:=λb o e=>by
 unfold Zr at e;split at e
 ·exact e
 ·exact gh b o e
theorem M8{b:Uq}(h:b∈fp∨isT (H b)=true):Zr fp G H b=H b:=by unfold Zr;rw[Qp h]
theorem M7{b:Uq}(h:b∉fp)(h2:isT (H b)=false):Zr fp G H b=G b:=by
 unfold Zr;rw[Qz];rintro(z|z)
 ·exact h z
 ·rw[h2]at z;cases z
theorem Ext.pubT{G' H':Hp}(ex:Ext G H G' H')(fr:∀a∈fp,H a=none):Ext G H (Zr fp G' H') H':=
 ⟨ex.h,ex.g.trans (AY ex.gh),D3 ex.gh,λa u e n=>by rw[M7 (λm=>by rw[fr a m]at e;cases e) (by rw[ex.h a _ e];exact Et)];exact ex.np a u e n⟩
noncomputable def nl0:D->Bool
 |.tuple ds=>ds.all flat
 |d=>flat d
theorem Rep.nl{G' G2 H':Hp}{v:V}{d:D}(r:Rep K G' v d)(h:nl0 d=true)(gh:Same G' H'):Rep K (Zr fp G2 H') v d:=by
 cases r with
 |tup hs rr=>
  refine .tup ?_ (rr.flat h);rcases hs with (hs|⟨o,hs⟩)|hs
  ·have:=gh _ _ hs;exact .inl (.inl ((M8 (.inr (by rw[this];rfl))).trans this))
  ·have:=gh _ _ hs;exact .inl (.inr ⟨o,(M8 (.inr (by rw[this];rfl))).trans this⟩)
  ·exact .inr hs
 |non=>exact .non
 |bl b=>exact .bl b
 |int i=>exact .int i
 |str x=>exact .str x
 |lst _ _=>cases h
 |dic _=>cases h
 |exc _ _ _ _=>cases h
 |dct _ _ _ _ _=>cases h
 |dtt _ _ _ _=>cases h
theorem Reps.nl{G' G2 H':Hp}(gh:Same G' H'):∀{vs:List V}{ds:List D},Reps K G' vs ds->ds.all nl0=true->Reps K (Zr fp G2 H') vs ds
 |_,_,.nil,_=>.nil
 |_,_,.cons r t,h=>by rw[List.all_cons,Jm]at h;exact .cons (r.nl h.1 gh) (Reps.nl gh t h.2)
end
noncomputable def Wf(f:M (List D)):M (List D):=λZ=>match f (ZH Z)with
 |.ok ds _=>if ds.all nl0=true then .ok ds Z else .bad
 |.bad=>.bad
section
variable{X:Cx}{B G0:Hp}{KX:XW}{e o a b c:Us}{pos:Pos}{es:List Us}{pt:Pat}
end
section
variable{Z Z1 Z2 Z':UJ}{pt:Pat}
theorem BI{f:M (List D)}{ds:List D}(h:f (ZH Z)=.ok ds Z')(hf:ds.all nl0=true):Wf f Z=.ok ds Z:=by unfold Wf;rw[h];dsimp only;rw[if_pos hf]
end
section
variable{X:Cx}{B G0:Hp}{e:Us}
end
section
variable{X:Cx}{B G0:Hp}{e o a b c:Us}{pos:Pos}{es:List Us}
end
section
variable{X:Cx}{B G0:Hp}{KX:XW}{e1 e2 e3 a b:Us}{pos:Pos}{es:List Us}
end
section
variable{K:Frag}{B G0 G H:Hp}{fp:List Uq}
end
section
variable{X:Cx}{B G0:Hp}{KX:XW}{e a b:Us}{pos:Pos}{es:List Us}
end
theorem NewL.back{K:Frag}{B G0 G H G' H':Hp}{σ:St}{Z Z1:UJ}{ad:Uq}{vs:List V}{ds:List D}(k:EOk K B G0 G H σ Z)(k':EOk K H H G' H' σ Z1)(n:NewL K H G' H' σ Z1 ad vs ds)(hf:ds.all nl0=true) :
  EOk K B G0 (Zr [] G H') H' σ Z/\Same G (Zr [] G H')/\NewL K B (Zr [] G H') H' σ Z ad vs ds:=by
 have ex:Ext G H G H':=⟨k'.bh,.refl _,k.gh.trans k'.bh,λ_ _ _ n=>n⟩;have ex2:Ext G H (Zr [] G H') H':=ex.pubT (λa m=>by cases m);refine⟨k.ext ex2,ex2.g,⟨k.bh.free n.b,?_,n.h,n.r.nl k'.gh hf,λj es q w=>?_,λj pt d v fp q s r=>k.freshD k'.bh n.b q s r⟩⟩
 ·rw[M7 (by simp) (by rw[n.h];rfl)];exact k.gh.free n.b
 ·obtain⟨b,us,g1,g2,g3,g4,g5⟩:=k.own j es q;rw[g1]at w;cases w;rw[n.b]at g4;cases g4
section
variable{X:Cx}{B G0:Hp}{KX:XW}
theorem Fw{l:Bool}{y:Str}{j:Nat}{py:Pos}{spos:Pos}{tg elt iter:Us}{ifs:List Us}{gs:List Comprehension}{scope:Scope}{pos:Pos}{N2:List Str}{k:Nat}{f:M (List D)}{s:D->UJ->Option UJ}{t:M Bool}{rd:RdB}(hN:X.N.Nodup)(hj:X.N[j]?=some y)(hy:X.env.scope.names.lookup y=some .local)(hc:X.calm=true)
  (hi:∀B' G',PI X tg iter (iD X.K B' G' f)) (hblk:Yn X N2 scope (.ListComp elt (⟨tg,iter,ifs,0⟩::gs) scope pos) tg ifs s t rd) (hb:SG X.env.scope scope X.N N2 k) (hs:∀x,UL iter X.env x=pure x:=by intro _;rfl)
  (hsw:swapsWith (.ListComp elt (⟨tg,iter,ifs,0⟩::gs) scope pos) (some (.Name y py)) spos.line X.env=pure true:=by rfl) :
  PS X (.Assign [.Name y py] (.ListComp elt (⟨tg,iter,ifs,0⟩::gs) scope pos) spos) (tS X.K B G0 KX (K8 j (Wf (dCG l f k s t rd)))):=by
 intro pins s0 σ H Dn I ⟨G,Z,k0,a⟩;unfold K8 sB Wf at a;cases z:dCG l f k s t rd (ZH Z)with
 |bad=>rw[z]at a;exact a.elim
 |ok es Z1=>
 rw[z]at a;dsimp only at a;by_cases hnl:es.all nl0=true
 case neg=>rw[Qz hnl]at a;exact a.elim
 rw[Qp hnl]at a;dsimp only at a;by_cases hl:j<Z.length
 ·rw[Qp hl]at a;obtain⟨ds,ZF,zf,zl,hfl⟩:=Op z;rw[exec_Assign_Name_used _ _ _ _ hsw];refine Qd (Jr (Qd ?_));show Uu _ X.A (do let _ ←comprehension (.ListComp elt (⟨tg,iter,ifs,0⟩::gs) scope pos) scope X.env _ (newList []) false (eval iter X.env) (some (assign (.Name y py) X.env))) _ _ s0;refine Qd (QG (O5 (use:=some (assign (.Name y py) X.env)) (Qc:=λ_ s'=>SP X pins Dn .next s') hc (hi H H) hblk hb hs I k0.lent zf zl hfl λC D vs G' H' s4 m I7 hm hC hL hz hcl hp k' s' n=>?_) (λ_ s' hq=>Qh (Qh hq)) λ_ _ e=>e);show Uu _ X.A (assign (.Name y py) X.env (.ref D)) _ _ s4;refine wpAny_assign_Name (Ng I7 hN hj (.inl hy) (v:=.ref D) rfl (λs5 I8 ⟨ad,sb,hx⟩=>?_) (.inr hy))
  have hCa:C≠ad:=by
   rcases hx with e|e
   ·rw[e];exact hL
   ·exact Ne.symm (hcl y ad e)
  refine⟨m,hm.sameBut sb hCa,λh' sb'=>⟨_,H',I8.turned (t':=s5.toks) (it:=C) (λb o hb e=>(sb'.2 b hb).trans e) hC hL (.inr hz) hcl hp,?_⟩⟩;obtain⟨k2,s2,n2⟩:=NewL.back k0 k' n hnl;exact a _ _ H' (k2.setOwn n2 hl) s2
 ·rw[Qz hl]at a;exact a.elim
theorem AX{F F':M (List D)}(h:∀Z es Z',F Z=.ok es Z'->F' Z=.ok es Z')(Z:UJ)(es:List D)(Z':UJ)(e:Wf F Z=.ok es Z'):Wf F' Z=.ok es Z':=by
 unfold Wf at e⊢;cases z:F (ZH Z)with
 |bad=>rw[z]at e;cases e
 |ok ds Z1=>rw[z]at e;rw[h _ _ _ z];exact e
theorem Fv{l:Bool}{y:Str}{j:Nat}{py:Pos}{spos:Pos}{tg elt iter:Us}{ifs:List Us}{gs:List Comprehension}{scope:Scope}{pos:Pos}{f:M (List D)}{s:D->UJ->Option UJ}{t:M Bool}{rd:RdB}{F:M (List D)}(SC:Scope)(N1 N2:List Str)(k:Nat)(le:∀Z es Z',F Z=.ok es Z'->dCG l f k s t rd Z=.ok es Z')(hN:X.N.Nodup)(hj:X.N[j]?=some y)(hy:X.env.scope.names.lookup y=some .local)(hc:X.calm=true)
  (hi:∀B' G',PI X tg iter (iD X.K B' G' f)) (hblk:Yn X N2 scope (.ListComp elt (⟨tg,iter,ifs,0⟩::gs) scope pos) tg ifs s t rd) (h1:X.env.scope=SC) (h2:X.N=N1) (hb:VF SF SC scope N1 N2 k=true) (hs:∀x,UL iter X.env x=pure x:=by intro _;rfl)
  (hsw:swapsWith (.ListComp elt (⟨tg,iter,ifs,0⟩::gs) scope pos) (some (.Name y py)) spos.line X.env=pure true:=by rfl) :
  PS X (.Assign [.Name y py] (.ListComp elt (⟨tg,iter,ifs,0⟩::gs) scope pos) spos) (tS X.K B G0 KX (K8 j (Wf F))):=
 ZA (Fw hN hj hy hc hi hblk (by rw[h1,h2];exact OJ hb) hs hsw) λ_ _ _ q=>N8 (AX le) q
end
noncomputable def Pt(f:M D):M Bool:=Kb f λx=>match x with | .list ds=>UQ (!ds.isEmpty)|_=>λ_=>.bad
section
variable{X:Cx}{B G0:Hp}{e:Us}
theorem j4{α β:Type}{xs:List α}{ys:List β}(h:xs.length=ys.length):xs.isEmpty=ys.isEmpty:=by cases xs<;>cases ys<;>first|rfl|(simp at h)
theorem D2{f:M D}(h:PE X e (tD X.K B G0 f))(he:∀whole,isTrue e X.env whole=(do let v ←whole;standAt e.pos;holding [v] (truthy v)):=by intro _;rfl):PT X e (tBo X.K B G0 (Pt f)):=
 YB (An h he) λσ H Q q=>tM.one (R:=Rep X.K) q λv H2 G Z x k r a=>by
  cases x with
  |list ds=>obtain⟨l,vs,rfl,h1,r1⟩:=r.lst_inv;refine⟨!vs.isEmpty,.inl ⟨vs,k.gh.seq h1,rfl⟩,?_⟩;exact aft.now (v:=!vs.isEmpty) a k (by rw[j4 r1.length])
  |_=>exact a.elim
theorem Hy{f:M D}{Z Z1:UJ}{ds:List D}(h1:f Z=.ok (.list ds) Z1):Pt f Z=.ok (!ds.isEmpty) Z1:=by unfold Pt;exact KS h1 rfl
end
end DL
namespace L2
open PySem PySem.Spec PyProof.Rows PySem.Calls PyProof.V
section
variable{X:Cx}{x n:Str}{pos np hpos:Pos}{pins:List (Uq×Obj)}{σ:St}{H:Hp}{s:Uo}{a C D fI fD:Uq}{dd:Option Uq}{bm bmD:List Um}{rest:List ExceptHandler}{Q:Flow->Uo->Prop}
end
end L2
namespace DL
open PySem PySem.Spec L2
open PyProof.Rows hiding St
section
variable{X:Cx}{B G0:Hp}{KX:XW}{e a b c:Us}{pos p2 cpos np np2 hpos hpos2:Pos}{es:List Us}{x x2 n:Str}{k kk:Nat}
end
section
variable{X:Cx}{B G0:Hp}{KX:XW}{e e1 e2:Us}{pos:Pos}
end
section
variable{X:Cx}
noncomputable def Td:D->D->Option Bool
 |.list xs,.list ys=>if xs.length=ys.length then none else some false
 |_,_=>none
theorem Fu(hu:X.A.units+64<cLine):OpB X (Uw .Eq) Td:=by
 refine⟨λv u H Q=>∃l m xs ys,v=.ref l/\u=.ref m/\SqL X.K H l xs/\SqL X.K H m ys/\xs.length≠ys.length/\Q (.bl false) H,?_,λv u G H x y d Q s rx ry e k=>?_⟩
 ·intro pins s σ H x y v u Q I rx ry h;obtain⟨l,m,xs,ys,rfl,rfl,h1,h2,hne,q⟩:=h;cases rx;cases ry;obtain⟨its,r,p,z⟩:=I.list h1;obtain⟨its2,r2,p2,z2⟩:=I.list h2;refine SeqAt.eq_list_lengthsAt p.isList p2.isList ?_ (by omega) ⟨.bl false,H,I,rfl,q⟩;rw[QH,QH,←r.length,←r2.length];simpa using hne
 ·unfold Td at e;split at e
  ·split at e
   ·cases e
   ·rename_i hl;cases e;obtain⟨l,vs,rfl,h1,r1⟩:=rx.lst_inv;obtain⟨m,ws,rfl,h2,r2⟩:=ry.lst_inv;exact⟨l,m,vs,ws,rfl,rfl,s.seq h1,s.seq h2,by rw[r1.length,r2.length];exact hl,k⟩
  ·cases e
noncomputable def Te(x y:D):Option Bool:=(Td x y).orElse λ_=>oEq x y
theorem Ft(hu:X.A.units+64<cLine):OpB X (Uw .Eq) Te:=(Fu hu).or (Sz hu)
theorem D1{xs:List D}:Te (.list xs) (.list [])=some xs.isEmpty:=by
 cases xs with
 |nil=>kernel_rfl
 |cons x r=>rfl
end
noncomputable def tgN:Us->List Str
 |.Name x _=>[x]
 |.Tuple [.Name x _] _ _=>[x]
 |.Tuple [.Name x _,.Name y _] _ _=>[x,y]
 |.Tuple [.Name x _,.Name y _,.Name z _] _ _=>[x,y,z]
 |.Tuple [.Name x _,.Name y _,.Name z _,.Name u _] _ _=>[x,y,z,u]
 |_=>[]
noncomputable def adN(vs:List Str):List Str->List Str
 |[]=>vs
 |x::r=>adN (if vs.elem x then vs else vs++[x]) r
noncomputable def Tk(vs:List Str):List Comprehension->List Str
 |[]=>vs
 |⟨tg,_,_,_⟩::r=>Tk (adN vs (tgN tg)) r
noncomputable def dotN(x:Str):Str:=("." : Str)++x
noncomputable def blN(N:List Str)(gs:List Comprehension):List Str:=N.map (λx=>if(Tk [] gs).elem x then dotN x else x)++Tk [] gs
noncomputable def glN(sc:Scope):List Str:=sc.names.filterMap λy=>match y.2 with | .globalImplicit=>some y.1|_=>none
abbrev NmF(s:Stmt)(N:List Str):Prop:=FnNm (ZO s) N (glN (ZO s))
theorem mq{α:Type}{l:List α}{x:α}(n:Nat)(h:l[n]?=some x):x∈l:=Qn h
section
variable{sc:Scope}{N gl:List Str}{x:Str}
theorem gA(H:FnNm sc N gl)(h:gl.elem x=true):sc.names.lookup x=some .globalImplicit:=H.gl x (by simpa using h)
end
section
variable{X:Cx}{B G0:Hp}{KX:XW}{e e1 e2 o a b c i:Us}{gl:List Str}{pos p2:Pos}{x:Str}{j:Nat}
theorem Fs(H:FnNm X.env.scope X.N gl)(hi:X.N[j]?=some x:=by rfl)(hf:X.fn x=true∨X.env.scope.names.lookup x=some .local:=by first|exact .inl rfl|exact .inr rfl|assumption):PG X (.Name x pos) (tG X.K B G0 (gN j)):=Wi (XH H.nd hi (lq H j hi) hf)
theorem Es{N':List Str}{scope:Scope}{cl:List (Str×Uq)}{C:Uq}{s₀:Uo}{H₀:Hp}{ex:List Uq}(hN:N'.Nodup:=by decide +kernel)(hi:N'[j]?=some x:=by rfl)(hl:scope.names.lookup x=some .local:=by rfl):PG (X.blk N' scope cl C s₀ H₀ ex) (.Name x pos) (tG X.K B G0 (gN j)):=Wi (XH hN hi (Oq hl) (.inr (Of hl)))
theorem aSet{f:M D}(H:FnNm X.env.scope X.N gl)(he:PE X e (tD X.K B G0 f))(hi:X.N[j]?=some x:=by rfl)(hs:swapsWith e (some (.Name x p2)) pos.line X.env=pure false:=by rfl)
  (hf:X.fn x=true∨X.env.scope.names.lookup x=some .local:=by first|exact .inl rfl|exact .inr rfl|assumption):PS X (.Assign [.Name x p2] e pos) (tS X.K B G0 KX (U6 j f)):=Dr H.nd hi (lq H j hi) he hs hf
theorem Fq{f:M (List D)}(H:FnNm X.env.scope X.N gl)(he:PE X e (tL X.K B G0 f))(hi:X.N[j]?=some x:=by rfl)(hs:swapsWith e (some (.Name x p2)) pos.line X.env=pure false:=by rfl)
  (hf:X.fn x=true∨X.env.scope.names.lookup x=some .local:=by first|exact .inl rfl|exact .inr rfl|assumption):PS X (.Assign [.Name x p2] e pos) (tS X.K B G0 KX (K8 j f)):=Ld H.nd hi (lq H j hi) he hs hf
theorem aAug{op:Operator}{p:Int->Int->Option D}{f:M D}{pos':Pos}(H:FnNm X.env.scope X.N gl)(ho:IpD X op p)(he:PE X e (tD X.K B G0 f))(hi:X.N[j]?=some x:=by rfl)(hf:X.fn x=true∨X.env.scope.names.lookup x=some .local:=by first|exact .inl rfl|exact .inr rfl|assumption):PS X (.AugAssign (.Name x pos') op e pos) (tS X.K B G0 KX (Xq p j f)):=FR H.nd hi (lq H j hi) ho he hf
theorem Fp{l:Bool}{tg elt iter:Us}{ifs:List Us}{gs:List Comprehension}{scope:Scope}{f:M (List D)}{s:D->UJ->Option UJ}{t:M Bool}{rd:RdB}{F:M (List D)}{k:Nat}{SC:Scope}{N1:List Str}(H:FnNm SC N1 gl)(le:∀Z es Z',F Z=.ok es Z'->dCG l f k s t rd Z=.ok es Z')(hc:X.calm=true)
  (hi:PI X tg iter (iD X.K B G0 f)) (hblk:Yn X (blN N1 (⟨tg,iter,ifs,0⟩::gs)) scope (.ListComp elt (⟨tg,iter,ifs,0⟩::gs) scope pos) tg ifs s t rd) (hb:VF SF SC scope N1 (blN N1 (⟨tg,iter,ifs,0⟩::gs)) k=true) (h1:X.env.scope=SC:=by rfl) (h2:X.N=N1:=by rfl) (hs:∀x,UL iter X.env x=pure x:=by intro _;rfl) :
  PE X (.ListComp elt (⟨tg,iter,ifs,0⟩::gs) scope pos) (tL X.K B G0 F):=GP _ _ _ k le hc hi hblk h1 h2 hb hs
theorem Fo{l:Bool}{y:Str}{py spos:Pos}{tg elt iter:Us}{ifs:List Us}{gs:List Comprehension}{scope:Scope}{f:M (List D)}{s:D->UJ->Option UJ}{t:M Bool}{rd:RdB}{F:M (List D)}{k:Nat}{SC:Scope}{N1:List Str}(H:FnNm SC N1 gl)(le:∀Z es Z',F Z=.ok es Z'->dCG l f k s t rd Z=.ok es Z')(hc:X.calm=true)
  (hi:PI X tg iter (iD X.K B G0 f)) (hblk:Yn X (blN N1 (⟨tg,iter,ifs,0⟩::gs)) scope (.ListComp elt (⟨tg,iter,ifs,0⟩::gs) scope pos) tg ifs s t rd) (hb:VF SF SC scope N1 (blN N1 (⟨tg,iter,ifs,0⟩::gs)) k=true) (hj:N1[j]?=some y:=by rfl) (hy:SC.names.lookup y=some .local:=by rfl) (h1:X.env.scope=SC:=by rfl) (h2:X.N=N1:=by rfl) (hs:∀x,UL iter X.env x=pure x:=by intro _;rfl)
  (hsw:swapsWith (.ListComp elt (⟨tg,iter,ifs,0⟩::gs) scope pos) (some (.Name y py)) spos.line X.env=pure true:=by rfl) :
  PS X (.Assign [.Name y py] (.ListComp elt (⟨tg,iter,ifs,0⟩::gs) scope pos) spos) (tS X.K B G0 KX (K8 j F)):=sD_1 _ _ _ k le (h2 ▸ H.nd) (h2 ▸ hj) (h1 ▸ hy) hc hi hblk h1 h2 hb hs hsw
end
end DL
namespace W
open PySem PySem.Spec L2 DL
open PyProof.Rows hiding St
noncomputable def top(i:Nat):Stmt:=PySem.Challenge.pw_wishdeal_k43_bettered.main.body.getD i (.Pass ⟨0,0,0,0⟩)
abbrev GG(s:Stmt)(x:Str):Prop:=(ZO s).names.lookup x=some NameKind.globalImplicit
abbrev VV(s:Stmt)(x:Str):Prop:=L2.Vis (ZO s) x
abbrev LL(s:Stmt)(x:Str):Prop:=L2.Loc (ZO s) x
theorem vk{s:Stmt}{x:Str}(h:(ZO s).names.lookup x=some .local∨(ZO s).names.lookup x=some .cell∨(ZO s).names.lookup x=some .free):VV s x:=h
theorem lk{s:Stmt}{x:Str}(h:(ZO s).names.lookup x=some .local∨(ZO s).names.lookup x=some .cell):LL s x:=h
structure Txt(K:Frag)(mg:Str->Option Um):Prop where
 b_all:mg "all" = none
 b_bool:mg "bool" = none
 b_enumerate:mg "enumerate" = none
 b_int:mg "int" = none
 b_isinstance:mg "isinstance" = none
 b_len:mg "len" = none
 b_list:mg "list" = none
 b_max:mg "max" = none
 b_min:mg "min" = none
 b_range:mg "range" = none
 b_repr:mg "repr" = none
 b_set:mg "set" = none
 b_sorted:mg "sorted" = none
 b_str:mg "str" = none
 b_sum:mg "sum" = none
 b_tuple:mg "tuple" = none
 b_zip:mg "zip" = none
 c_MOST_ASKERS:∃t,mg "MOST_ASKERS" = some (Value.int 7 t)
 c_MOST_COPIES:∃t,mg "MOST_COPIES" = some (Value.int 7 t)
 c_MOST_RANKS:∃t,mg "MOST_RANKS" = some (Value.int 5 t)
 c_MOST_THINGS:∃t,mg "MOST_THINGS" = some (Value.int 6 t)
 c_ORDERS:∃ad o its n,mg "ORDERS" = some (.ref ad)/\K.lookup ad=some o/\o.cls=.type "tuple" /\ o.data=.seq its n/\its.size<=Ut/\Vals ((["firsts", "full", "lasts"]:List Str).map V.str) its.toList
noncomputable abbrev Sbi:Stmt:=top 52
noncomputable abbrev N_bi:List Str:=["_law_script", "_law_k"]
theorem Hbi:NmF Sbi N_bi:=KL (by decide +kernel)
noncomputable def WL:SM:=
 US (sIf (K5 (oIB λi j=>decide (i<j)) 1 (K3 0))
 (UY (UU 0 (UI 1)))
 (sNx))
 (UY (UQ (.int 0)))
noncomputable def YE:List D->Option D:=U9 N_bi WL
noncomputable abbrev Scd:Stmt:=top 73
noncomputable abbrev N_cd:List Str:=["_law_dealing", "_law_way", "_law_found", "_law_asker", "_law_thing"]
theorem Hcd:NmF Scd N_cd:=KL (by decide +kernel)
noncomputable def M6:SM:=
 XN 2 (UI 3) (UI 4)
noncomputable def To:SM:=
 US (K8 2 (Xl 0))
 (US (Kw (KU (UI 1)) (gT 2 (gNC (gN 3) (gNC (gN 4) (gN0)))) M6)
 (UY (UI 2)))
noncomputable def WU:List D->Option D:=U9 N_cd To
noncomputable abbrev Sby:Stmt:=top 68
noncomputable abbrev N_by:List Str:=["_law_worths_here", "_law_dealing", "_law_pairs"]
theorem Hby:NmF Sby N_by:=KL (by decide +kernel)
noncomputable def Tt:SM:=
 US (K8 2 (Zx (YL (UO (UI 1) (UM))) 2 (gT 2 (gNC (gN 3) (gNC (gN 4) (gN0)))) (UZ (λd=>!isNon d) (UI 4)) (KE (UO (UI 3) (UO (UI 4) (UM))))))
 (UY (K0 Vz (UO (UZ Uz (Zx (KU (UI 2)) 1 (gN 3) (UQ true) (UP SK (UI 0) (UI 3)))) (UM))))
noncomputable def Y8:List D->Option D:=U9 N_by Tt
noncomputable abbrev Scb:Stmt:=top 71
noncomputable abbrev N_cb:List Str:=["_law_wishes_here", "_law_dealing"]
theorem Hcb:NmF Scb N_cb:=KL (by decide +kernel)
noncomputable def Tq:SM:=
 UY (UZ Uz (Zx (Xa (UO (K0 Ka (UO (UU 0 (UQ (.int 0))) (UM))) (UM))) 1 (gN 2) (UQ true) (UP KR (UP oIx (UU 0 (UQ (.int 0))) (UI 2)) (VE (UI 1) (UO (UI 2) (UM))))))
noncomputable def WW:List D->Option D:=U9 N_cb Tq
noncomputable abbrev Sbn:Stmt:=top 57
noncomputable abbrev N_bn:List Str:=["_law_wishes_here", "_law_asker"]
theorem Hbn:NmF Sbn N_bn:=KL (by decide +kernel)
noncomputable def TF:SM:=
 UY (K0 VU (UO (K0 SE (UO (UP oIx (UU 0 (UQ (.int 1))) (UI 1)) (UO (KF (UM)) (UM)))) (UM)))
noncomputable def ZS:List D->Option D:=U9 N_bn TF
noncomputable abbrev Sbs:Stmt:=top 62
noncomputable abbrev N_bs:List Str:=["_law_thing"]
theorem Hbs:NmF Sbs N_bs:=KL (by decide +kernel)
noncomputable def WK:SM:=
 UY (Vw (UZ (λd=>.bool (Kr d "int")) (UI 0)) (Rx (UZ (λd=>.bool (Kr d "bool")) (UI 0))))
noncomputable def ZL:List D->Option D:=U9 N_bs WK
noncomputable abbrev Scc:Stmt:=top 72
noncomputable abbrev N_cc:List Str:=["_law_wishes_here", "_law_dealing", "_law_way", "_law_k", "_law_step", "_law_asker", "_law_thing", "_law_last"]
theorem Hcc:NmF Scc N_cc:=KL (by decide +kernel)
noncomputable def M5:SM:=
 US (sIf (mOr (Kp (K7 (UZ (λd=>.bool (Kr d "tuple")) (UI 4)))) (mOr (UP oNe (K3 4) (UQ (.int 2))) (Kp (K7 (UX 1 ZL (UO (UU 4 (UQ (.int 0))) (UM)))))))
 (UY (UQ (.bool false)))
 (sNx))
 (US (ZI (UI 4) (gT 2 (gNC (gN 5) (gNC (gN 6) (gN0)))))
 (US (sIf (mOr (K5 (oIB λi j=>decide (i<j)) 5 (UQ (.int 0))) (mOr (K5 (oIB λi j=>decide (j<=i)) 5 (K3 1)) (K5 oIn 5 (UZ Uz (Zx (KU (ZK (UI 2) (UQ none) (Kb (UI 3) λx=>Kc (Yt x)))) 1 (gN 8) (UQ true) (UU 8 (UQ (.int 0))))))))
 (UY (UQ (.bool false)))
 (sNx))
 (US (sIf (mOr (K1 (UZ isNon (UI 6)) (UP (oIB λi j=>decide (i<j)) (UP U3 (UI 3) (UQ (.int 1))) (K3 2))) (K5 oEq 6 (UU 1 (UI 5))))
 (UY (UQ (.bool false)))
 (sNx))
 (US (sIf (K1 (UZ (λd=>!isNon d) (UI 6)) (Kp (K7 (UX 1 ZL (UO (UI 6) (UM))))))
 (UY (UQ (.bool false)))
 (sNx))
 (US (sIf (K1 (UZ (λd=>!isNon d) (UI 6)) (K5 Yk 6 (UX 2 ZS (UO (UI 0) (UO (UI 5) (UM))))))
 (UY (UQ (.bool false)))
 (sNx))
 (sIf (K1 (K5 (oIB λi j=>decide (j<i)) 3 (UQ (.int 0))) (UP oNe (UU 1 (UI 5)) (UP oIx (UU 2 (UP KR (UI 3) (UQ (.int 1)))) (UQ (.int 1)))))
 (UY (UQ (.bool false)))
 (sNx)))))))
noncomputable def Tp:SM:=
 US (sIf (mOr (Kp (K7 (UZ (λd=>.bool (Kr d "list")) (UI 2)))) (K5 Te 2 (KF (UM))))
 (UY (UQ (.bool false)))
 (sNx))
 (US (Kw (YL (UO (UI 2) (UM))) (gT 2 (gNC (gN 3) (gNC (gN 4) (gN0)))) M5)
 (US (U6 7 (UP oIx (UU 2 (Yb (UQ (.int 1)))) (UQ (.int 1))))
 (US (sIf (mOr (UZ isNon (UI 7)) (K5 oEq 7 (UU 1 (UP oIx (UU 2 (UQ (.int 0))) (UQ (.int 0))))))
 (UY (UQ (.bool true)))
 (sNx))
 (UY (UZ UA (UP (oIB λi j=>decide (j<i)) (UP oIx (UX 2 WW (UO (UI 0) (UO (UI 1) (UM)))) (UI 7)) (UQ (.int 0))))))))
noncomputable def WV:List D->Option D:=U9 N_cc Tp
noncomputable abbrev Sca:Stmt:=top 70
noncomputable abbrev N_ca:List Str:=["_law_wishes_here", "_law_paper"]
theorem Hca:NmF Sca N_ca:=KL (by decide +kernel)
noncomputable def Tr:SM:=
 UY (UP U3 (K0 Vz (UO (UU 1 (UQ (.int 1))) (UM))) (K0 Vz (UO (UZ Uz (Zx (WQ (UO (UU 0 (UQ (.int 0))) (UO (UU 1 (UQ (.int 2))) (UM)))) 2 (gT 2 (gNC (gN 2) (gNC (gN 3) (gN0)))) (UQ true) (UP Ko (UI 2) (UI 3)))) (UM))))
noncomputable def WX:List D->Option D:=U9 N_ca Tr
noncomputable abbrev Sbv:Stmt:=top 65
noncomputable abbrev N_bv:List Str:=["_law_wishes_here", "_law_thing", "_law_asker", "_law_one"]
theorem Hbv:NmF Sbv N_bv:=KL (by decide +kernel)
noncomputable def OF:SM:=
 US (sIf (K1 (UZ (λd=>!isNon d) (UI 3)) (mOr (Kp (K7 (UX 1 ZL (UO (UI 3) (UM))))) (K5 Yk 3 (UX 2 ZS (UO (UI 0) (UO (UI 2) (UM)))))))
 (UY (UQ (.bool false)))
 (sNx))
 (sIf (K1 (UZ (λd=>!isNon d) (UI 3)) (UP (oIB λi j=>decide (j<i)) (VE (UI 1) (UO (UI 3) (UM))) (UP oIx (UU 0 (UQ (.int 0))) (UI 3))))
 (UY (UQ (.bool false)))
 (sNx))
noncomputable def WJ:SM:=
 US (sIf (mOr (Kp (K7 (UZ (λd=>.bool (Kr d "list")) (UI 1)))) (UP oNe (K3 1) (K0 Ka (UO (UU 0 (UQ (.int 1))) (UM)))))
 (UY (UQ (.bool false)))
 (sNx))
 (US (Kw (YL (UO (UI 1) (UM))) (gT 2 (gNC (gN 2) (gNC (gN 3) (gN0)))) OF)
 (UY (UQ (.bool true))))
noncomputable def YS:List D->Option D:=U9 N_bv WJ
noncomputable abbrev Sbt:Stmt:=top 63
noncomputable abbrev N_bt:List Str:=["_law_thing", "_law_many"]
theorem Hbt:NmF Sbt N_bt:=KL (by decide +kernel)
noncomputable def Tx:SM:=
 US (sIf (mOr (Kp (K7 (UZ (λd=>.bool (Kr d "list")) (UI 0)))) (UP oNe (K3 0) (UI 1)))
 (UY (UQ (.bool false)))
 (sNx))
 (UY (K0 Yl (UO (UZ Uz (Zx (KU (UI 0)) 1 (gN 2) (UQ true) (UX 1 ZL (UO (UI 2) (UM))))) (UM))))
noncomputable def X7:List D->Option D:=U9 N_bt Tx
noncomputable abbrev Sbz:Stmt:=top 69
noncomputable abbrev N_bz:List Str:=["_law_wishes_here", "_law_worths_here", "_law_thing", "_law_asker", "_law_one"]
theorem Hbz:NmF Sbz N_bz:=KL (by decide +kernel)
noncomputable def M4:SM:=
 sIf (UP (oIB λi j=>decide (i<j)) (UP U3 (UP oIx (UU 2 (UQ (.int 1))) (UI 3)) (UP oIx (UU 2 (UQ (.int 2))) (UI 4))) (UP Ko (UU 2 (UQ (.int 0))) (UP SK (UI 1) (KE (UO (UI 3) (UO (UI 4) (UM)))))))
 (UY (UQ (.bool false)))
 (sNx)
noncomputable def Ts:SM:=
 US (sIf (mOr (Kp (K7 (UZ (λd=>.bool (Kr d "tuple")) (UI 2)))) (UP oNe (K3 2) (UQ (.int 3))))
 (UY (UQ (.bool false)))
 (sNx))
 (US (sIf (mOr (Kp (K7 (UX 1 ZL (UO (UU 2 (UQ (.int 0))) (UM))))) (UP (oIB λi j=>decide (i<j)) (UU 2 (UQ (.int 0))) (UQ (.int 1))))
 (UY (UQ (.bool false)))
 (sNx))
 (US (sIf (mOr (Kp (K7 (UX 2 X7 (UO (UU 2 (UQ (.int 1))) (UO (K0 Ka (UO (UU 0 (UQ (.int 1))) (UM))) (UM)))))) (Kp (K7 (UX 2 X7 (UO (UU 2 (UQ (.int 2))) (UO (K0 Ka (UO (UU 0 (UQ (.int 0))) (UM))) (UM)))))))
 (UY (UQ (.bool false)))
 (sNx))
 (US (sIf (UP (oIB λi j=>decide (i<j)) (K0 SJ (UO (UP U3 (UU 2 (UQ (.int 1))) (UU 2 (UQ (.int 2)))) (UM))) (UQ (.int 0)))
 (UY (UQ (.bool false)))
 (sNx))
 (US (Kw (R6 (UI 1)) (gT 2 (gNC (gN 3) (gNC (gN 4) (gN0)))) M4)
 (UY (UQ (.bool true)))))))
noncomputable def WY:List D->Option D:=U9 N_bz Ts
noncomputable abbrev Sce:Stmt:=top 74
noncomputable abbrev N_ce:List Str:=["_law_wishes_here", "_law_worths_here", "_law_dealing", "_law_paper"]
theorem Hce:NmF Sce N_ce:=KL (by decide +kernel)
noncomputable def Tn:SM:=
 US (sIf (mOr (Kp (K7 (UX 2 YS (UO (UI 0) (UO (UI 2) (UM)))))) (Kp (K7 (UX 3 WY (UO (UI 0) (UO (UI 1) (UO (UI 3) (UM))))))))
 (UY (UQ (.bool false)))
 (sNx))
 (US (sIf (mOr (UP oNe (UU 3 (UQ (.int 0))) (UQ (.int 1))) (UP (oIB λi j=>decide (j<=i)) (K0 Vu (UO (UP U3 (UU 3 (UQ (.int 1))) (UU 3 (UQ (.int 2)))) (UM))) (UP Xr (UQ (.int 10)) (UQ (.int 40)))))
 (UY (UQ (.bool false)))
 (sNx))
 (UY (UZ UA (UP oEq (UX 2 WX (UO (UI 0) (UO (UI 3) (UM)))) (UX 2 Y8 (UO (UI 1) (UO (UI 2) (UM))))))))
noncomputable def WT:List D->Option D:=U9 N_ce Tn
noncomputable abbrev Scf:Stmt:=top 75
noncomputable abbrev N_cf:List Str:=["_law_wishes_here", "_law_worths_here", "_law_dealing", "_law_found"]
theorem Hcf:NmF Scf N_cf:=KL (by decide +kernel)
noncomputable def WI:SM:=
 US (sIf (mOr (Kp (K7 (UZ (λd=>.bool (Kr d "tuple")) (UI 3)))) (mOr (UP oNe (K3 3) (UQ (.int 2))) (Kp (K7 (UZ (λd=>.bool (Kr d "str")) (UU 3 (UQ (.int 0))))))))
 (UY (UQ (.bool false)))
 (sNx))
 (US (sIf (UP oEq (UU 3 (UQ (.int 0))) (UQ (.str "best")))
 (UY (UX 4 WT (UO (UI 0) (UO (UI 1) (UO (UI 2) (UO (UU 3 (UQ (.int 1))) (UM)))))))
 (sNx))
 (US (sIf (mOr (UP oNe (UU 3 (UQ (.int 0))) (UQ (.str "way"))) (Kp (K7 (UX 3 WV (UO (UI 0) (UO (UI 2) (UO (UU 3 (UQ (.int 1))) (UM))))))))
 (UY (UQ (.bool false)))
 (sNx))
 (UY (UZ UA (UP (oIB λi j=>decide (j<i)) (UX 2 Y8 (UO (UI 1) (UO (UX 2 WU (UO (UI 2) (UO (UU 3 (UQ (.int 1))) (UM)))) (UM)))) (UX 2 Y8 (UO (UI 1) (UO (UI 2) (UM)))))))))
noncomputable def X5:List D->Option D:=U9 N_cf WI
noncomputable abbrev Sbf:Stmt:=top 47
noncomputable abbrev N_bf:List Str:=["askers", "worths", "prices", "asks", "asker", "thing", "worth"]
theorem Hbf:NmF Sbf N_bf:=KL (by decide +kernel)
noncomputable def M3:SM:=
 XN 3 (UI 4) (K0 Rv (UO (UU 3 (UI 4)) (UO (UP KR (UI 6) (UU 2 (UI 5))) (UM))))
noncomputable def TQ:SM:=
 US (K8 3 (SL (KF (UO (UQ (.int 0)) (UM))) (UI 0)))
 (US (Kw (KU (UI 1)) (gT 3 (gNC (gN 4) (gNC (gN 5) (gNC (gN 6) (gN0))))) M3)
 (UY (UI 3)))
noncomputable def W7:List D->Option D:=U9 N_bf TQ
noncomputable abbrev Sav:Stmt:=top 37
noncomputable abbrev N_av:List Str:=["nothing", "got"]
theorem Hav:NmF Sav N_av:=KL (by decide +kernel)
noncomputable def T4:SM:=
 UY (mIf (UZ isNon (UI 1)) (UI 0) (UI 1))
noncomputable def Wb:List D->Option D:=U9 N_av T4
noncomputable abbrev Saw:Stmt:=top 38
noncomputable abbrev Sw:List Str:=["nothing", "worths", "dealing", "had", "asker", "thing", "worth", "told"]
theorem Haw:FnNm (ZO Saw) Sw ["place_of", "enumerate", "len"]:=KL (by decide +kernel)
noncomputable def M2:SM:=
 sIf (UP oNe (UU 2 (UI 4)) (UI 5))
 (Zz 7 (KE (UO (UX 2 Wb (UO (UI 0) (UO (UU 2 (UI 4)) (UM)))) (UO (UI 5) (UO (UP KR (UI 6) (UU 3 (UI 4))) (UO (UI 4) (UM)))))))
 (sNx)
noncomputable def M1:SM:=
 sIf (UP oEq (UU 2 (UI 4)) (UI 5))
 (XN 3 (UI 4) (UI 6))
 (sNx)
noncomputable def T3:SM:=
 US (K8 3 (SL (KF (UO (UQ (.int 0)) (UM))) (K3 2)))
 (US (Kw (KU (UI 1)) (gT 3 (gNC (gN 4) (gNC (gN 5) (gNC (gN 6) (gN0))))) M1)
 (US (K8 7 (Wf (Zx (YL (UO (UI 2) (UM))) 2 (gT 2 (gNC (gN 8) (gNC (gN 9) (gN0)))) (UZ (λd=>!isNon d) (UI 9)) (KE (UO (UI 9) (UO (UI 0) (UO (Yb (UU 3 (UI 8))) (UO (UI 8) (UM)))))))))
 (US (Kw (KU (UI 1)) (gT 3 (gNC (gN 4) (gNC (gN 5) (gNC (gN 6) (gN0))))) M2)
 (UY (UI 7)))))
noncomputable def Vd:List D->Option D:=U9 Sw T3
noncomputable abbrev Saa:Stmt:=top 1
noncomputable abbrev N_aa:List Str:=["thing"]
theorem Haa:NmF Saa N_aa:=KL (by decide +kernel)
noncomputable def Ss:SM:=
 UY (Vw (UZ (λd=>.bool (Kr d "int")) (UI 0)) (Rx (UZ (λd=>.bool (Kr d "bool")) (UI 0))))
noncomputable def Vt:List D->Option D:=U9 N_aa Ss
noncomputable abbrev Sab:Stmt:=top 2
noncomputable abbrev N_ab:List Str:=["thing", "many"]
theorem Hab:NmF Sab N_ab:=KL (by decide +kernel)
noncomputable def Sr:SM:=
 UY (Vw (UX 1 Vt (UO (UI 0) (UM))) (UZ UA (VX (oIB λi j=>decide (i<=j)) (oIB λi j=>decide (i<j)) (UQ (.int 0)) (UI 0) (UI 1))))
noncomputable def ZM:List D->Option D:=U9 N_ab Sr
noncomputable abbrev Sad:Stmt:=top 13
noncomputable abbrev N_ad:List Str:=["thing", "things"]
theorem Had:NmF Sad N_ad:=KL (by decide +kernel)
noncomputable def So:SM:=
 US (sIf (mOr (Kp (K7 (UZ (λd=>.bool (Kr d "list")) (UI 0)))) (UP oEq (K3 0) (UQ (.int 0))))
 (UY (UQ (.bool false)))
 (sNx))
 (UY (K0 Yl (UO (UZ Uz (Zx (KU (UI 0)) 1 (gN 2) (UQ true) (UX 2 ZM (UO (UI 2) (UO (UI 1) (UM)))))) (UM))))
noncomputable def Wd:List D->Option D:=U9 N_ad So
noncomputable abbrev Sae:Stmt:=top 14
noncomputable abbrev N_ae:List Str:=["thing", "things", "wished"]
theorem Hae:NmF Sae N_ae:=KL (by decide +kernel)
noncomputable def Sn:SM:=
 US (sIf (mOr (Kp (K7 (UZ (λd=>.bool (Kr d "list")) (UI 0)))) (UP (oIB λi j=>decide (j<i)) (K3 0) (UQ (.int 5))))
 (UY (UQ (.bool false)))
 (sNx))
 (US (sIf (Kp (K7 (K0 Yl (UO (UZ Uz (Zx (KU (UI 0)) 1 (gN 3) (UQ true) (UX 2 Wd (UO (UI 3) (UO (UI 1) (UM)))))) (UM)))))
 (UY (UQ (.bool false)))
 (sNx))
 (US (K8 2 (RE (KU (UI 0)) 2 (gN 3) (UQ true) (KU (UI 3)) (gN 4) (UQ true) (UI 4)))
 (UY (UZ UA (UP oEq (K0 Wv (UO (UI 2) (UM))) (K3 2))))))
noncomputable def Vr:List D->Option D:=U9 N_ae Sn
noncomputable abbrev Saf:Stmt:=top 15
noncomputable abbrev N_af:List Str:=["lists", "things", "asker", "ranks"]
theorem Haf:NmF Saf N_af:=KL (by decide +kernel)
noncomputable def M0:SM:=
 sIf (Kp (K7 (UX 2 Vr (UO (UI 3) (UO (UI 1) (UM))))))
 (Wh)
 (sNx)
noncomputable def Sm:SM:=
 US (sIf (mOr (Kp (K7 (UZ (λd=>.bool (Kr d "list")) (UI 0)))) (Kp (VX (oIB λi j=>decide (i<=j)) (oIB λi j=>decide (i<=j)) (UQ (.int 1)) (K3 0) (UQ (.int 7)))))
 (Wh)
 (sNx))
 (Kw (YL (UO (UI 0) (UM))) (gT 2 (gNC (gN 2) (gNC (gN 3) (gN0)))) M0)
noncomputable def Vq:List D->Option D:=U9 N_af Sm
noncomputable abbrev Sac:Stmt:=top 12
noncomputable abbrev N_ac:List Str:=["copies", "number", "many"]
theorem Hac:NmF Sac N_ac:=KL (by decide +kernel)
noncomputable def MZ:SM:=
 sIf (Kp (K7 (UX 2 ZM (UO (UI 2) (UO (UP U3 (UQ (.int 7)) (UQ (.int 1))) (UM))))))
 (Wh)
 (sNx)
noncomputable def Sq:SM:=
 US (sIf (mOr (Kp (K7 (UZ (λd=>.bool (Kr d "list")) (UI 0)))) (Kp (VX (oIB λi j=>decide (i<=j)) (oIB λi j=>decide (i<=j)) (UQ (.int 1)) (K3 0) (UQ (.int 6)))))
 (Wh)
 (sNx))
 (Kw (YL (UO (UI 0) (UM))) (gT 2 (gNC (gN 1) (gNC (gN 2) (gN0)))) MZ)
noncomputable def Vs:List D->Option D:=U9 N_ac Sq
noncomputable abbrev Sag:Stmt:=top 16
noncomputable abbrev N_ag:List Str:=["thing", "copies", "lists"]
theorem Hag:NmF Sag N_ag:=KL (by decide +kernel)
noncomputable def Sk:SM:=
 US (sIf (mOr (Kp (K7 (UZ (λd=>.bool (Kr d "tuple")) (UI 0)))) (UP oNe (K3 0) (UQ (.int 2))))
 (Wh)
 (sNx))
 (US (ZI (UI 0) (gT 2 (gNC (gN 1) (gNC (gN 2) (gN0)))))
 (US (XI (UX 1 Vs (UO (UI 1) (UM))))
 (XI (UX 2 Vq (UO (UI 2) (UO (K3 1) (UM)))))))
noncomputable def Yo:List D->Option D:=U9 N_ag Sk
noncomputable abbrev Sak:Stmt:=top 21
noncomputable abbrev N_ak:List Str:=["wishes", "dealing"]
theorem Hak:NmF Sak N_ak:=KL (by decide +kernel)
noncomputable def Sf:SM:=
 US (XI (UX 1 Yo (UO (UI 0) (UM))))
 (UY (UZ Uz (Zx (YL (UO (UU 0 (UQ (.int 0))) (UM))) 2 (gT 2 (gNC (gN 2) (gNC (gN 3) (gN0)))) (UQ true) (UP KR (UI 3) (VE (UI 1) (UO (UI 2) (UM)))))))
noncomputable def Vm:List D->Option D:=U9 N_ak Sf
noncomputable abbrev Sax:Stmt:=top 39
noncomputable abbrev N_ax:List Str:=["wishes", "dealing", "nothing", "left", "to_nothing"]
theorem Hax:NmF Sax N_ax:=KL (by decide +kernel)
noncomputable def T2:SM:=
 US (U6 2 (K0 Ka (UO (UU 0 (UQ (.int 0))) (UM))))
 (US (U6 3 (UX 2 Vm (UO (UI 0) (UO (UI 1) (UM)))))
 (US (K8 4 (Zx (YL (UO (UI 3) (UM))) 2 (gT 2 (gNC (gN 5) (gNC (gN 6) (gN0)))) (K5 (oIB λi j=>decide (j<i)) 6 (UQ (.int 0))) (KE (UO (UI 5) (UO (UI 2) (UO (UQ (.int 0)) (UO (UQ .none) (UM))))))))
 (UY (UP U3 (UI 4) (UZ Uz (Zx (Xa (UO (UI 2) (UM))) 1 (gN 5) (UQ true) (KE (UO (UI 2) (UO (UI 5) (UO (UQ (.int 0)) (UO (UQ .none) (UM))))))))))))
noncomputable def Vc:List D->Option D:=U9 N_ax T2
noncomputable abbrev Say:Stmt:=top 40
noncomputable abbrev N_ay:List Str:=["wishes", "worths", "dealing"]
theorem Hay:NmF Say N_ay:=KL (by decide +kernel)
noncomputable def TZ:SM:=
 UY (UP U3 (UX 3 Vd (UO (K0 Ka (UO (UU 0 (UQ (.int 0))) (UM))) (UO (UI 1) (UO (UI 2) (UM))))) (UX 2 Vc (UO (UI 0) (UO (UI 2) (UM)))))
noncomputable def Y9:List D->Option D:=U9 N_ay TZ
noncomputable abbrev Saz:Stmt:=top 41
noncomputable abbrev N_az:List Str:=["walks", "steps", "told", "step", "ahead", "behind", "gain", "asker", "gained", "walked"]
theorem Haz:NmF Saz N_az:=KL (by decide +kernel)
noncomputable def MY:SM:=
 US (ZI (UI 3) (gT 4 (gNC (gN 4) (gNC (gN 5) (gNC (gN 6) (gNC (gN 7) (gN0)))))))
 (US (ZI (UU 0 (UI 4)) (gT 2 (gNC (gN 8) (gNC (gN 9) (gN0)))))
 (sIf (UP (oIB λi j=>decide (j<i)) (UP U3 (UI 8) (UI 6)) (UP oIx (UU 2 (UI 5)) (UQ (.int 0))))
 (XN 2 (UI 5) (KE (UO (UP U3 (UI 8) (UI 6)) (UO (UP U3 (UI 9) (KF (UO (UI 3) (UM)))) (UM)))))
 (sNx)))
noncomputable def TY:SM:=
 US (K8 2 (Xl 0))
 (US (Kw (KU (UI 1)) (gN 3) MY)
 (UY (UI 2)))
noncomputable def Vb:List D->Option D:=U9 N_az TY
noncomputable abbrev Sba:Stmt:=top 42
noncomputable abbrev N_ba:List Str:=["places", "steps", "told", "turn"]
theorem Hba:NmF Sba N_ba:=KL (by decide +kernel)
noncomputable def MX:SM:=
 U6 2 (UX 2 Vb (UO (UI 2) (UO (UI 1) (UM))))
noncomputable def TX:SM:=
 US (U6 2 (UP Ko (KF (UO (KE (UO (UQ (.int 0)) (UO (KF (UM)) (UM)))) (UM))) (UI 0)))
 (US (Kw (Xa (UO (UI 0) (UM))) (gN 3) MX)
 (UY (UI 2)))
noncomputable def Xz:List D->Option D:=U9 N_ba TX
noncomputable abbrev Sbe:Stmt:=top 46
noncomputable abbrev N_be:List Str:=["wishes", "worths", "dealing", "nothing", "walks"]
theorem Hbe:NmF Sbe N_be:=KL (by decide +kernel)
noncomputable def TR:SM:=
 US (U6 3 (K0 Ka (UO (UU 0 (UQ (.int 0))) (UM))))
 (US (U6 4 (UX 2 Xz (UO (UP U3 (UI 3) (UQ (.int 1))) (UO (UX 3 Y9 (UO (UI 0) (UO (UI 1) (UO (UI 2) (UM))))) (UM)))))
 (UY (UZ Uz (Zx (KU (ZK (UI 4) (UQ none) (Kb (UI 3) λx=>Kc (Yt x)))) 2 (gT 2 (gNC (gN 5) (gNC (gN 6) (gN0)))) (UQ true) (UI 5)))))
noncomputable def W8:List D->Option D:=U9 N_be TR
noncomputable abbrev Sbg:Stmt:=top 48
noncomputable abbrev N_bg:List Str:=["wishes", "worths", "dealing", "prices"]
theorem Hbg:NmF Sbg N_bg:=KL (by decide +kernel)
noncomputable def TN:SM:=
 US (U6 3 (UX 3 W8 (UO (UI 0) (UO (UI 1) (UO (UI 2) (UM))))))
 (UY (KE (UO (UQ (.int 1)) (UO (UX 3 W7 (UO (K0 Ka (UO (UU 0 (UQ (.int 1))) (UM))) (UO (UI 1) (UO (UI 3) (UM))))) (UO (UI 3) (UM))))))
noncomputable def W6:List D->Option D:=U9 N_bg TN
noncomputable abbrev Sbb:Stmt:=top 43
noncomputable abbrev N_bb:List Str:=["walk", "end", "step", "begin"]
theorem Hbb:NmF Sbb N_bb:=KL (by decide +kernel)
noncomputable def MW:SM:=
 sIf (UP oEq (UP oIx (UU 0 (UI 3)) (UQ (.int 0))) (UU 2 (UQ (.int 1))))
 (UY (ZK (UI 0) (Kb (UI 3) λx=>Kc (Yt x)) (Kb (UP U3 (UI 1) (UQ (.int 1))) λx=>Kc (Yt x))))
 (sNx)
noncomputable def MV:SM:=
 Kw (Xa (UO (UP U3 (UI 1) (UQ (.int 1))) (UM))) (gN 3) MW
noncomputable def TW:SM:=
 US (Kw (YL (UO (UI 0) (UM))) (gT 2 (gNC (gN 1) (gNC (gN 2) (gN0)))) MV)
 (UY (KF (UM)))
noncomputable def Va:List D->Option D:=U9 N_bb TW
noncomputable abbrev Sbc:Stmt:=top 44
noncomputable abbrev N_bc:List Str:=["nothing", "steps", "begin", "number", "step", "way", "ahead", "behind", "gain", "asker"]
theorem Hbc:NmF Sbc N_bc:=KL (by decide +kernel)
noncomputable def MU:SM:=
 sIf (UZ (λd=>!isNon d) (UI 9))
 (Zz 5 (KE (UO (UI 9) (UO (mIf (K5 oEq 7 (UI 0)) (UQ .none) (UI 7)) (UM)))))
 (sNx)
noncomputable def MT:SM:=
 sIf (UP oEq (UU 4 (UQ (.int 0))) (UI 0))
 (U6 2 (UI 3))
 (sNx)
noncomputable def TV:SM:=
 US (U6 2 (UQ (.int 0)))
 (US (Kw (YL (UO (UI 1) (UM))) (gT 2 (gNC (gN 3) (gNC (gN 4) (gN0)))) MT)
 (US (K8 5 (Kb (UM) λxs=>if xs.length<=1000000 then UQ xs else λ_=>.bad))
 (US (Kw (KU (UP U3 (ZK (UI 1) (Kb (UI 2) λx=>Kc (Yt x)) (UQ none)) (ZK (UI 1) (UQ none) (Kb (UI 2) λx=>Kc (Yt x))))) (gT 4 (gNC (gN 6) (gNC (gN 7) (gNC (gN 8) (gNC (gN 9) (gN0)))))) MU)
 (UY (UI 5)))))
noncomputable def Wa:List D->Option D:=U9 N_bc TV
noncomputable abbrev Sbd:Stmt:=top 45
noncomputable abbrev N_bd:List Str:=["wishes", "worths", "dealing", "nothing", "gained", "walk"]
theorem Hbd:NmF Sbd N_bd:=KL (by decide +kernel)
noncomputable def MS:SM:=
 sIf (UP oEq (K3 5) (UP U3 (UI 3) (UQ (.int 1))))
 (UY (UX 2 Wa (UO (UI 3) (UO (UX 1 Va (UO (UI 5) (UM))) (UM)))))
 (sNx)
noncomputable def TU:SM:=
 US (U6 3 (K0 Ka (UO (UU 0 (UQ (.int 0))) (UM))))
 (US (Kw (KU (UX 2 Xz (UO (UP U3 (UI 3) (UQ (.int 1))) (UO (UX 3 Y9 (UO (UI 0) (UO (UI 1) (UO (UI 2) (UM))))) (UM))))) (gT 2 (gNC (gN 4) (gNC (gN 5) (gN0)))) MS)
 (UY (KF (UM))))
noncomputable def W9:List D->Option D:=U9 N_bd TU
noncomputable abbrev Saj:Stmt:=top 19
noncomputable abbrev N_aj:List Str:=["wishes"]
theorem Haj:NmF Saj N_aj:=KL (by decide +kernel)
noncomputable def Sg:SM:=
 US (XI (UX 1 Yo (UO (UI 0) (UM))))
 (UY (K0 VU (UO (UZ Uz (RD (YL (UO (UU 0 (UQ (.int 1))) (UM))) 4 (gT 2 (gNC (gN 1) (gNC (gN 2) (gN0)))) (UQ true) (KU (UI 2)) (gN 3) (UQ true) (KU (UI 3)) (gN 4) (UQ true) (KE (UO (UI 1) (UO (UI 4) (UM)))))) (UM))))
noncomputable def Vn:List D->Option D:=U9 N_aj Sg
noncomputable abbrev Saq:Stmt:=top 31
noncomputable abbrev N_aq:List Str:=["base", "times", "told", "step"]
theorem Haq:NmF Saq N_aq:=KL (by decide +kernel)
noncomputable def MR:SM:=
 Xq Ym 2 (UI 0)
noncomputable def T9:SM:=
 US (U6 2 (UQ (.int 1)))
 (US (Kw (Xa (UO (UI 1) (UM))) (gN 3) MR)
 (UY (UI 2)))
noncomputable def Zs:List D->Option D:=U9 N_aq T9
noncomputable abbrev Sas:Stmt:=top 33
noncomputable abbrev N_as:List Str:=["turns", "base", "asker", "rank", "behind"]
theorem Has:NmF Sas N_as:=KL (by decide +kernel)
noncomputable def T7:SM:=
 US (sIf (K5 Yk 2 (UI 0))
 (UY (UQ (.int 0)))
 (sNx))
 (US (U6 4 (UP KR (UP KR (K3 0) (UQ (.int 1))) (Po (UI 0) (UO (UI 2) (UM)))))
 (UY (UP Ko (UP KR (UI 1) (UI 3)) (UX 2 Zs (UO (UI 1) (UO (UI 4) (UM)))))))
noncomputable def Vf:List D->Option D:=U9 N_as T7
noncomputable abbrev Sar:Stmt:=top 32
noncomputable abbrev N_ar:List Str:=["order", "base", "most", "rank"]
theorem Har:NmF Sar N_ar:=KL (by decide +kernel)
noncomputable def T8:SM:=
 US (sIf (K5 oEq 0 (UQ (.str "firsts")))
 (UY (UX 2 Zs (UO (UI 1) (UO (UP KR (UI 2) (UI 3)) (UM)))))
 (sNx))
 (US (sIf (K5 oEq 0 (UQ (.str "full")))
 (UY (UP U3 (UX 2 Zs (UO (UI 1) (UO (UI 2) (UM)))) (UX 2 Zs (UO (UI 1) (UO (UP KR (UI 2) (UI 3)) (UM))))))
 (sNx))
 (UY (UP KR (UX 2 Zs (UO (UI 1) (UO (UI 2) (UM)))) (UX 2 Zs (UO (UI 1) (UO (UP KR (UI 3) (UQ (.int 1))) (UM)))))))
noncomputable def Vg:List D->Option D:=U9 N_ar T8
noncomputable abbrev Sah:Stmt:=top 17
noncomputable abbrev N_ah:List Str:=["ranks", "thing", "number", "rank"]
theorem Hah:NmF Sah N_ah:=KL (by decide +kernel)
noncomputable def MQ:SM:=
 sIf (K5 oIn 1 (UI 3))
 (UY (UI 2))
 (sNx)
noncomputable def Sj:SM:=
 US (Kw (Pf (UO (UI 0) (UM))) (gT 2 (gNC (gN 2) (gNC (gN 3) (gN0)))) MQ)
 (UY (UQ (.int 0)))
noncomputable def Vp:List D->Option D:=U9 N_ah Sj
noncomputable abbrev Sat:Stmt:=top 34
noncomputable abbrev N_at:List Str:=["wishes", "aim", "most", "asker", "thing", "order", "old", "turns", "lists", "rank", "base", "kept", "by_counts"]
theorem Hat:NmF Sat N_at:=KL (by decide +kernel)
noncomputable def T6:SM:=
 US (ZI (UI 1) (gT 3 (gNC (gN 5) (gNC (gN 6) (gNC (gN 7) (gN0))))))
 (US (U6 8 (UU 0 (UQ (.int 1))))
 (US (U6 9 (UX 2 Vp (UO (UU 8 (UI 3)) (UO (UI 4) (UM)))))
 (US (U6 10 (UP U3 (K3 8) (UQ (.int 1))))
 (US (U6 11 (mIf (K1 (UZ (λd=>!isNon d) (UI 6)) (UP oEq (UU 6 (UI 3)) (UI 4))) (UQ (.int 1)) (UQ (.int 0))))
 (US (U6 12 (UP U3 (UP Ko (UX 4 Vg (UO (UI 5) (UO (UI 10) (UO (UI 2) (UO (UI 9) (UM)))))) (UI 10)) (UI 11)))
 (UY (UP U3 (UP Ko (UI 12) (UX 2 Zs (UO (UP U3 (UI 2) (UQ (.int 1))) (UO (K3 7) (UM))))) (UX 4 Vf (UO (UI 7) (UO (UP U3 (UI 2) (UQ (.int 1))) (UO (UI 3) (UO (UI 9) (UM)))))))))))))
noncomputable def Wc:List D->Option D:=U9 N_at T6
noncomputable abbrev Sai:Stmt:=top 18
noncomputable abbrev N_ai:List Str:=["wishes"]
theorem Hai:NmF Sai N_ai:=KL (by decide +kernel)
noncomputable def Sh:SM:=
 US (XI (UX 1 Yo (UO (UI 0) (UM))))
 (UY (K0 Vu (UO (UZ Uz (Zx (KU (UU 0 (UQ (.int 1)))) 1 (gN 1) (UQ true) (K3 1))) (UM))))
noncomputable def Vo:List D->Option D:=U9 N_ai Sh
noncomputable abbrev Sao:Stmt:=top 28
noncomputable abbrev N_ao:List Str:=["thing", "askers"]
theorem Hao:NmF Sao N_ao:=KL (by decide +kernel)
noncomputable def Sb:SM:=
 US (sIf (mOr (Kp (K7 (UZ (λd=>.bool (Kr d "list")) (UI 0)))) (Kp (K7 (K0 Yl (UO (UZ Uz (Zx (KU (UI 0)) 1 (gN 2) (UQ true) (UX 2 ZM (UO (UI 2) (UO (UI 1) (UM)))))) (UM))))))
 (UY (UQ (.bool false)))
 (sNx))
 (UY (UZ UA (UP oEq (K0 Wv (UO (UI 0) (UM))) (K3 0))))
noncomputable def Vi:List D->Option D:=U9 N_ao Sb
noncomputable abbrev San:Stmt:=top 27
noncomputable abbrev N_an:List Str:=["thing", "askers", "things"]
theorem Han:NmF San N_an:=KL (by decide +kernel)
noncomputable def Sc:SM:=
 US (sIf (UZ isNon (UI 0))
 (UY (UQ (.bool true)))
 (sNx))
 (US (sIf (mOr (Kp (K7 (UZ (λd=>.bool (Kr d "list")) (UI 0)))) (UP oNe (K3 0) (UI 1)))
 (UY (UQ (.bool false)))
 (sNx))
 (UY (K0 Yl (UO (UZ Uz (Zx (KU (UI 0)) 1 (gN 3) (UQ true) (X4 (UZ (λd=>.bool (isNon d)) (UI 3)) (UX 2 ZM (UO (UI 3) (UO (UI 2) (UM))))))) (UM)))))
noncomputable def Vj:List D->Option D:=U9 N_an Sc
noncomputable abbrev Sal:Stmt:=top 24
noncomputable abbrev N_al:List Str:=["thing"]
theorem Hal:NmF Sal N_al:=KL (by decide +kernel)
noncomputable def Se:SM:=
 UY (Vw (UZ (λd=>.bool (Kr d "str")) (UI 0)) (UZ UA (K5 oIn 0 (UQ (.tuple ((["firsts", "full", "lasts"]:List Str).map UB))))))
noncomputable def Vl:List D->Option D:=U9 N_al Se
noncomputable abbrev Sam:Stmt:=top 25
noncomputable abbrev N_am:List Str:=["thing"]
theorem Ham:NmF Sam N_am:=KL (by decide +kernel)
noncomputable def Sd:SM:=
 sIf (Kp (K7 (UX 1 Vl (UO (UI 0) (UM)))))
 (Wh)
 (sNx)
noncomputable def Vk:List D->Option D:=U9 N_am Sd
noncomputable abbrev Sap:Stmt:=top 29
noncomputable abbrev N_ap:List Str:=["wishes", "thing", "copies", "lists", "order", "old", "turns"]
theorem Hap:NmF Sap N_ap:=KL (by decide +kernel)
noncomputable def Sa:SM:=
 US (XI (UX 1 Yo (UO (UI 0) (UM))))
 (US (sIf (mOr (Kp (K7 (UZ (λd=>.bool (Kr d "tuple")) (UI 1)))) (UP oNe (K3 1) (UQ (.int 3))))
 (Wh)
 (sNx))
 (US (ZI (UI 0) (gT 2 (gNC (gN 2) (gNC (gN 3) (gN0)))))
 (US (ZI (UI 1) (gT 3 (gNC (gN 4) (gNC (gN 5) (gNC (gN 6) (gN0))))))
 (US (XI (UX 1 Vk (UO (UI 4) (UM))))
 (US (sIf (Kp (K7 (UX 3 Vj (UO (UI 5) (UO (K3 3) (UO (K3 2) (UM)))))))
 (Wh)
 (sNx))
 (sIf (Kp (K7 (UX 2 Vi (UO (UI 6) (UO (K3 3) (UM))))))
 (Wh)
 (sNx)))))))
noncomputable def Vh:List D->Option D:=U9 N_ap Sa
noncomputable abbrev Sau:Stmt:=top 35
noncomputable abbrev N_au:List Str:=["wishes", "aim", "most"]
theorem Hau:NmF Sau N_au:=KL (by decide +kernel)
noncomputable def T5:SM:=
 US (XI (UX 2 Vh (UO (UI 0) (UO (UI 1) (UM)))))
 (US (U6 2 (UX 1 Vo (UO (UI 0) (UM))))
 (UY (UZ Uz (Zx (KU (UX 1 Vn (UO (UI 0) (UM)))) 2 (gT 2 (gNC (gN 3) (gNC (gN 4) (gN0)))) (UQ true) (KE (UO (UI 3) (UO (UI 4) (UO (UX 5 Wc (UO (UI 0) (UO (UI 1) (UO (UI 2) (UO (UI 3) (UO (UI 4) (UM))))))) (UM)))))))))
noncomputable def Ve:List D->Option D:=U9 N_au T5
noncomputable abbrev Sbh:Stmt:=top 50
noncomputable abbrev N_bh:List Str:=["wishes", "aim", "dealing", "worths", "way"]
theorem Hbh:NmF Sbh N_bh:=KL (by decide +kernel)
noncomputable def TM:SM:=
 US (U6 3 (UX 2 Ve (UO (UI 0) (UO (UI 1) (UM)))))
 (US (U6 4 (UX 3 W9 (UO (UI 0) (UO (UI 3) (UO (UI 2) (UM))))))
 (US (sIf (Pt (UI 4))
 (UY (KE (UO (UQ (.str "way")) (UO (UI 4) (UM)))))
 (sNx))
 (UY (KE (UO (UQ (.str "best")) (UO (UX 3 W6 (UO (UI 0) (UO (UI 3) (UO (UI 2) (UM))))) (UM)))))))
noncomputable def Xy:List D->Option D:=U9 N_bh TM
noncomputable abbrev Sbj:Stmt:=top 53
noncomputable abbrev N_bj:List Str:=["_law_cell", "_law_salt", "_law_sizes", "_law_number", "_law_left_here", "_law_found", "_law_k", "_law_one"]
theorem Hbj:NmF Sbj N_bj:=KL (by decide +kernel)
noncomputable def OE:SM:=
 sIf (K1 (K5 (oIB λi j=>decide (j<=i)) 3 (UP Xr (UQ (.int 10)) (UQ (.int 18)))) (K5 (oIB λi j=>decide (j<i)) 4 (UQ (.int 0))))
 (US (Zz 5 (UP Zd (UI 4) (UU 2 (UI 6))))
 (U6 4 (UP X3 (UI 4) (UU 2 (UI 6)))))
 (US (U6 7 (UP Zd (UP U3 (UP U3 (UP U3 (UI 3) (UP Ko (UQ (.int 7919)) (UI 1))) (UP Ko (UP Ko (UQ (.int 101)) (UI 6)) (UI 6))) (UI 6)) (UQ (.int 2147483647))))
 (US (U6 7 (UP Zd (UP Ko (UI 7) (UQ (.int 48271))) (UQ (.int 2147483647))))
 (US (U6 7 (UP Zd (UP Ko (UP Zd (UP Ko (UI 7) (UI 7)) (UQ (.int 2147483629))) (UQ (.int 48271))) (UQ (.int 2147483647))))
 (Zz 5 (UP Zd (UP X3 (UI 7) (UQ (.int 16))) (UU 2 (UI 6)))))))
noncomputable def TL:SM:=
 US (U6 3 (K0 Rv (UO (UI 0) (UO (UP KR (Yb (UQ (.int 1))) (UI 0)) (UM)))))
 (US (U6 4 (UI 3))
 (US (K8 5 (Kb (UM) λxs=>if xs.length<=1000000 then UQ xs else λ_=>.bad))
 (US (Kw (Xa (UO (K3 2) (UM))) (gN 6) OE)
 (UY (UI 5)))))
noncomputable def Yc:List D->Option D:=U9 N_bj TL
noncomputable abbrev Sbp:Stmt:=top 59
noncomputable abbrev N_bp:List Str:=["_law_wishes_here", "_law_cell", "_law_salt", "_law_left_here", "_law_digits", "_law_found", "_law_asker", "_law_some", "_law_thing"]
theorem Hbp:NmF Sbp N_bp:=KL (by decide +kernel)
noncomputable def OD:SM:=
 US (U6 7 (UP U3 (UZ Uz (RF (KU (UX 2 ZS (UO (UI 0) (UO (UI 6) (UM))))) 1 (gN 9) (UP (oIB λi j=>decide (j<i)) (UU 3 (UI 9)) (UQ (.int 0))) (UI 9))) (KF (UO (UQ .none) (UM)))))
 (US (U6 8 (UU 7 (UP Zd (UU 4 (UI 6)) (K3 7))))
 (US (sIf (UZ (λd=>!isNon d) (UI 8))
 (XN 3 (UI 8) (UP KR (UU 3 (UI 8)) (UQ (.int 1))))
 (sNx))
 (Zz 5 (UI 8))))
noncomputable def TC:SM:=
 US (K8 3 (Kb (UO (UU 0 (UQ (.int 0))) (UM)) λxs=>Kc (YK xs)))
 (US (U6 4 (UX 3 Yc (UO (UI 1) (UO (UI 2) (UO (UP Ko (KF (UO (UQ (.int 61)) (UM))) (K0 Ka (UO (UU 0 (UQ (.int 1))) (UM)))) (UM))))))
 (US (K8 5 (Kb (UM) λxs=>if xs.length<=1000000 then UQ xs else λ_=>.bad))
 (US (Kw (Xa (UO (K0 Ka (UO (UU 0 (UQ (.int 1))) (UM))) (UM))) (gN 6) OD)
 (UY (UI 5)))))
noncomputable def X9:List D->Option D:=U9 N_bp TC
noncomputable abbrev Sbw:Stmt:=top 66
noncomputable abbrev N_bw:List Str:=["_law_wishes_here", "_law_dealing", "_law_cell", "_law_salt", "_law_digits", "_law_one", "_law_other", "_law_found", "_law_some"]
theorem Hbw:NmF Sbw N_bw:=KL (by decide +kernel)
noncomputable def Tv:SM:=
 US (U6 4 (UX 3 Yc (UO (UI 2) (UO (UI 3) (UO (KF (UO (UQ (.int 2)) (UO (UQ (.int 7)) (UO (UQ (.int 7)) (UO (UQ (.int 61)) (UM)))))) (UM))))))
 (US (U6 5 (UP Zd (UU 4 (UQ (.int 1))) (K3 1)))
 (US (U6 6 (UP Zd (UU 4 (UQ (.int 2))) (K3 1)))
 (US (K8 7 (Xl 1))
 (US (sIf (UP oEq (UU 4 (UQ (.int 0))) (UQ (.int 0)))
 (US (XN 7 (UI 5) (UU 1 (UI 6)))
 (XN 7 (UI 6) (UU 1 (UI 5))))
 (US (U6 8 (UP U3 (UX 2 ZS (UO (UI 0) (UO (UI 5) (UM)))) (KF (UO (UQ .none) (UM)))))
 (XN 7 (UI 5) (UU 8 (UP Zd (UU 4 (UQ (.int 3))) (K3 8))))))
 (US (sIf (K7 (SB 2 YS (UO (UI 0) (SU 7 (UM)))))
 (UY (UI 7))
 (sNx))
 (UY (UZ Uz (Xl 1))))))))
noncomputable def W0:List D->Option D:=U9 N_bw Tv
noncomputable abbrev Sbr:Stmt:=top 61
noncomputable abbrev N_br:List Str:=["_law_wishes_here", "_law_lists", "_law_ranks"]
theorem Hbr:NmF Sbr N_br:=KL (by decide +kernel)
noncomputable def MP:SM:=
 Zz 1 (UZ Uz (Zx (KU (UI 2)) 1 (gN 3) (UQ true) (UZ Uz (Xl 3))))
noncomputable def Tz:SM:=
 US (K8 1 (Kb (UM) λxs=>if xs.length<=1000000 then UQ xs else λ_=>.bad))
 (US (Kw (KU (UU 0 (UQ (.int 1)))) (gN 2) MP)
 (UY (KE (UO (UZ Uz (Kb (UO (UU 0 (UQ (.int 0))) (UM)) λxs=>Kc (YK xs))) (UO (UI 1) (UM))))))
noncomputable def W1:List D->Option D:=U9 N_br Tz
noncomputable abbrev Sbu:Stmt:=top 64
noncomputable abbrev N_bu:List Str:=["_law_wishes_here", "_law_found", "_law_asker"]
theorem Hbu:NmF Sbu N_bu:=KL (by decide +kernel)
noncomputable def MN:SM:=
 X0 1 (Zx (KU (UX 2 ZS (UO (UI 0) (UO (UI 2) (UM))))) 1 (gN 3) (UQ true) (KE (UO (UI 2) (UO (UI 3) (UM)))))
noncomputable def Tw:SM:=
 US (K8 1 (Kb (UM) λxs=>if xs.length<=1000000 then UQ xs else λ_=>.bad))
 (US (Kw (Xa (UO (K0 Ka (UO (UU 0 (UQ (.int 1))) (UM))) (UM))) (gN 2) MN)
 (UY (UI 1)))
noncomputable def X6:List D->Option D:=U9 N_bu Tw
noncomputable abbrev Sbl:Stmt:=top 55
noncomputable abbrev N_bl:List Str:=["_law_wishes_here", "_law_asker", "_law_thing", "_law_k", "_law_row"]
theorem Hbl:NmF Sbl N_bl:=KL (by decide +kernel)
noncomputable def MM:SM:=
 sIf (K5 oIn 2 (UI 4))
 (UY (UP U3 (UI 3) (UQ (.int 1))))
 (sNx)
noncomputable def TJ:SM:=
 US (Kw (YL (UO (UP oIx (UU 0 (UQ (.int 1))) (UI 1)) (UM))) (gT 2 (gNC (gN 3) (gNC (gN 4) (gN0)))) MM)
 (UY (UQ (.int 0)))
noncomputable def W4:List D->Option D:=U9 N_bl TJ
noncomputable abbrev Sbm:Stmt:=top 56
noncomputable abbrev N_bm:List Str:=["_law_wishes_here"]
theorem Hbm:NmF Sbm N_bm:=KL (by decide +kernel)
noncomputable def TH:SM:=
 UY (K0 Vu (UO (UZ Uz (Zx (KU (UU 0 (UQ (.int 1)))) 1 (gN 1) (UQ true) (K3 1))) (UM)))
noncomputable def W3:List D->Option D:=U9 N_bm TH
noncomputable abbrev Sbq:Stmt:=top 60
noncomputable abbrev N_bq:List Str:=["_law_wishes_here", "_law_aim_here", "_law_asker", "_law_thing", "_law_order", "_law_old", "_law_turns", "_law_base", "_law_ranks", "_law_rank_here", "_law_powers", "_law_k", "_law_worth_here", "_law_pick", "_law_one"]
theorem Hbq:NmF Sbq N_bq:=KL (by decide +kernel)
noncomputable def Ps:SM:=
 US (U6 12 (UP Ko (UI 12) (UP U3 (UI 8) (UQ (.int 1)))))
 (US (U6 13 (UP Ko (UI 13) (UP U3 (UI 8) (UQ (.int 1)))))
 (sIf (K5 oEq 14 (UI 2))
 (U6 13 (UP KR (UP U3 (UP U3 (UI 13) (UI 8)) (UQ (.int 1))) (UI 9)))
 (sNx)))
noncomputable def Lc:SM:=
 Zz 10 (UP Ko (UU 10 (Yb (UQ (.int 1)))) (UI 7))
noncomputable def TB:SM:=
 US (ZI (UI 1) (gT 3 (gNC (gN 4) (gNC (gN 5) (gNC (gN 6) (gN0))))))
 (US (U6 7 (UP U3 (K0 Ka (UO (UU 0 (UQ (.int 1))) (UM))) (UQ (.int 1))))
 (US (U6 8 (UX 1 W3 (UO (UI 0) (UM))))
 (US (U6 9 (UX 3 W4 (UO (UI 0) (UO (UI 2) (UO (UI 3) (UM))))))
 (US (K8 10 (Kb (UO (UQ (.int 1)) (UM)) λxs=>if xs.length<=1000000 then UQ xs else λ_=>.bad))
 (US (Kw (Xa (UO (UI 8) (UM))) (gN 11) Lc)
 (US (U6 12 (UU 10 (UP KR (UI 8) (UI 9))))
 (US (sIf (K5 oEq 4 (UQ (.str "full")))
 (U6 12 (UP U3 (UI 12) (UU 10 (UI 8))))
 (sNx))
 (US (sIf (K5 oEq 4 (UQ (.str "lasts")))
 (U6 12 (UP KR (UU 10 (UI 8)) (UU 10 (UP KR (UI 9) (UQ (.int 1))))))
 (sNx))
 (US (U6 12 (UP Ko (UI 12) (UI 7)))
 (US (sIf (K1 (UZ (λd=>!isNon d) (UI 5)) (UP oEq (UU 5 (UI 2)) (UI 3)))
 (U6 12 (UP U3 (UI 12) (UQ (.int 1))))
 (sNx))
 (US (U6 13 (UQ (.int 0)))
 (US (Kw (KU (UI 6)) (gN 14) Ps)
 (UY (UP U3 (UI 12) (UI 13)))))))))))))))
noncomputable def X8:List D->Option D:=U9 N_bq TB
noncomputable abbrev Sbx:Stmt:=top 67
noncomputable abbrev N_bx:List Str:=["_law_wishes_here", "_law_aim_here", "_law_found", "_law_asker", "_law_thing"]
theorem Hbx:FnNm (ZO Sbx) N_bx ["_law_wishes_of", "_law_worth"]:=KL (by decide +kernel)
noncomputable def Tu:SM:=
 WF 2 3 4 (KU (UX 1 X6 (UO (UI 0) (UM)))) (UX 4 X8 (UO (UI 0) (UO (UI 1) (UO (UI 3) (UO (UI 4) (UM))))))
noncomputable def WZ:List D->Option D:=U9 N_bx Tu
noncomputable abbrev Sbo:Stmt:=top 58
noncomputable abbrev N_bo:List Str:=["_law_wishes_here", "_law_cell", "_law_salt", "_law_askers", "_law_sizes", "_law_digits", "_law_old", "_law_turns", "_law_digit"]
theorem Hbo:NmF Sbo N_bo:=KL (by decide +kernel)
noncomputable def Pr:SM:=
 U6 8 (UP Zd (UP U3 (UI 8) (UQ (.int 1))) (UI 3))
noncomputable def Lb:SM:=
 US (Wg (SD oIn (UI 8) 7) Pr 1000)
 (Zz 7 (UI 8))
noncomputable def TD:SM:=
 US (U6 3 (K0 Ka (UO (UU 0 (UQ (.int 1))) (UM))))
 (US (U6 4 (UP U3 (KF (UO (UQ (.int 3)) (UO (UQ (.int 2)) (UO (UP U3 (UI 3) (UQ (.int 1))) (UM))))) (UP Ko (KF (UO (UP U3 (K0 Ka (UO (UU 0 (UQ (.int 0))) (UM))) (UQ (.int 1))) (UM))) (UI 3))))
 (US (U6 5 (UX 3 Yc (UO (UI 1) (UO (UI 2) (UO (UP U3 (UI 4) (UP Ko (KF (UO (UI 3) (UM))) (UI 3))) (UM))))))
 (US (U6 6 (UQ .none))
 (US (sIf (UP oEq (UU 5 (UQ (.int 1))) (UQ (.int 1)))
 (K8 6 (Zx (KU (ZK (UI 5) (Kb (UQ (.int 3)) λx=>Kc (Yt x)) (Kb (UP U3 (UQ (.int 3)) (UI 3)) λx=>Kc (Yt x)))) 1 (gN 9) (UQ true) (UP oIx (KF (UO (UQ .none) (UO (UP KR (UI 9) (UQ (.int 1))) (UM)))) (K0 Ry (UO (UZ UA (K5 (oIB λi j=>decide (j<i)) 9 (UQ (.int 0)))) (UM))))))
 (sNx))
 (US (K8 7 (Kb (UM) λxs=>if xs.length<=1000000 then UQ xs else λ_=>.bad))
 (US (Kw (KU (ZK (UI 5) (Kb (UP U3 (UQ (.int 3)) (UI 3)) λx=>Kc (Yt x)) (Kb (UP U3 (UP U3 (UQ (.int 3)) (UI 3)) (UU 5 (UQ (.int 2)))) λx=>Kc (Yt x)))) (gN 8) Lb)
 (UY (KE (UO (UP oIx (KF (UO (UQ (.str "firsts")) (UO (UQ (.str "full")) (UO (UQ (.str "lasts")) (UM))))) (UU 5 (UQ (.int 0)))) (UO (UI 6) (UO (UI 7) (UM))))))))))))
noncomputable def W2:List D->Option D:=U9 N_bo TD
noncomputable abbrev Sbk:Stmt:=top 54
noncomputable abbrev N_bk:List Str:=["_law_script", "_law_at", "_law_most_things", "_law_most_askers", "_law_most_ranks", "_law_sizes", "_law_digits", "_law_copies", "_law_lists", "_law_asker", "_law_cell", "_law_places", "_law_ranks", "_law_rank_here", "_law_row"]
theorem Hbk:NmF Sbk N_bk:=KL (by decide +kernel)
noncomputable def OC:SM:=
 US (K8 14 (Zx (Xa (UO (K3 7) (UM))) 1 (gN 15) (UP oEq (UU 11 (UI 15)) (UI 13)) (UI 15)))
 (sIf (K5 oNe 14 (KF (UM)))
 (Zz 12 (UP oIx (KF (UO (UI 14) (UO (WR (UI 14) (UQ none) (UQ none) (Kb (Yb (UQ (.int 1))) λx=>Kc (Yt x))) (UM)))) (UU 11 (Yb (UQ (.int 1))))))
 (sNx))
noncomputable def OB:SM:=
 US (U6 10 (UX 2 YE (UO (UI 0) (UO (UP U3 (UP U3 (UI 1) (UQ (.int 1))) (UI 9)) (UM)))))
 (US (U6 11 (UX 3 Yc (UO (UI 10) (UO (UP U3 (UP U3 (UP Ko (UQ (.int 11)) (UI 1)) (UP Ko (UQ (.int 3)) (UI 9))) (UQ (.int 1))) (UO (UP U3 (UP Ko (KF (UO (UP U3 (UI 4) (UQ (.int 1))) (UM))) (UI 2)) (KF (UO (UQ (.int 2)) (UM)))) (UM))))))
 (US (K8 12 (Kb (UM) λxs=>if xs.length<=1000000 then UQ xs else λ_=>.bad))
 (US (Kw (Pd (UO (UQ (.int 1)) (UO (UP U3 (UI 4) (UQ (.int 1))) (UM)))) (gN 13) OC)
 (Zz 8 (UI 12)))))
noncomputable def TK:SM:=
 US (U6 5 (UP U3 (KF (UO (UI 2) (UO (UI 3) (UM)))) (UP Ko (KF (UO (UQ (.int 11)) (UM))) (UI 2))))
 (US (U6 6 (UX 3 Yc (UO (UX 2 YE (UO (UI 0) (UO (UI 1) (UM)))) (UO (UI 1) (UO (UI 5) (UM))))))
 (US (K8 7 (Zx (KU (ZK (UI 6) (Kb (UQ (.int 2)) λx=>Kc (Yt x)) (Kb (UP U3 (UQ (.int 3)) (UU 6 (UQ (.int 0)))) λx=>Kc (Yt x)))) 1 (gN 15) (UQ true) (UP oIx (KF (UO (UQ (.int 1)) (UO (UQ (.int 1)) (UO (UQ (.int 2)) (UO (UQ (.int 0)) (UO (UQ (.int 3)) (UO (UQ (.int 7)) (UO (UQ (.int 1)) (UO (UQ (.int 4)) (UO (UQ (.int 5)) (UO (UQ (.int 6)) (UO (UQ (.int 1)) (UM))))))))))))) (UI 15))))
 (US (K8 8 (Kb (UM) λxs=>if xs.length<=1000000 then UQ xs else λ_=>.bad))
 (US (Kw (Xa (UO (UP U3 (UQ (.int 1)) (UU 6 (UQ (.int 1)))) (UM))) (gN 9) OB)
 (UY (KE (UO (UI 7) (UO (UI 8) (UM)))))))))
noncomputable def W5:List D->Option D:=U9 N_bk TK
noncomputable abbrev Scg:Stmt:=top 76
noncomputable abbrev N_cg:List Str:=["_law_script", "_law_wishes_here", "_law_aim_here", "_law_worths_here", "_law_handed", "_law_shown", "_law_dealing", "_law_k", "_law_cell", "_law_given", "_law_found"]
theorem Hcg:NmF Scg N_cg:=KL (by decide +kernel)
noncomputable def La:SM:=
 US (sIf (UP oEq (UP Zd (UI 7) (UQ (.int 3))) (UQ (.int 2)))
 (U6 6 (UX 3 X9 (UO (UI 1) (UO (UI 8) (UO (UP U3 (UQ (.int 31)) (UI 7)) (UM))))))
 (U6 6 (UX 4 W0 (UO (UI 1) (UO (UI 6) (UO (UI 8) (UO (UP U3 (UQ (.int 31)) (UI 7)) (UM))))))))
 (US (K8 9 (Xl 6))
 (US (U6 10 (UX 3 Xy (UO (UI 4) (UO (UI 2) (UO (UI 9) (UM))))))
 (sIf (mOr (Kp (K7 (UX 4 X5 (UO (UI 1) (UO (UI 3) (UO (UI 6) (UO (UI 10) (UM)))))))) (K5 oNe 9 (UI 6)))
 (UY (UQ (.bool false)))
 (sNx))))
noncomputable def Tl:SM:=
 US (U6 1 (UX 5 W5 (UO (UI 0) (UO (UQ (.int 1)) (UO (UQ (.int 6)) (UO (UQ (.int 7)) (UO (UQ (.int 5)) (UM))))))))
 (US (U6 2 (UX 3 W2 (UO (UI 1) (UO (UX 2 YE (UO (UI 0) (UO (UQ (.int 0)) (UM)))) (UO (UQ (.int 5)) (UM))))))
 (US (U6 3 (UX 2 WZ (UO (UI 1) (UO (UI 2) (UM)))))
 (US (U6 4 (UX 1 W1 (UO (UI 1) (UM))))
 (US (U6 5 (K0 VT (UO (UI 2) (UM))))
 (US (U6 6 (UX 3 X9 (UO (UI 1) (UO (UX 2 YE (UO (UI 0) (UO (UQ (.int 3)) (UM)))) (UO (UQ (.int 2)) (UM))))))
 (US (Kw (YL (UO (UP U3 (KF (UO (UX 2 YE (UO (UI 0) (UO (UQ (.int 2)) (UM)))) (UM))) (ZK (UI 0) (Kb (UQ (.int 9)) λx=>Kc (Yt x)) (Kb (UQ (.int 30)) λx=>Kc (Yt x)))) (UM))) (gT 2 (gNC (gN 7) (gNC (gN 8) (gN0)))) La)
 (UY (Vw (UZ UA (K5 oEq 4 (UI 1))) (UZ UA (UP oEq (K0 VT (UO (UI 2) (UM))) (UI 5)))))))))))
noncomputable def WS:List D->Option D:=U9 N_cg Tl
set_option hygiene false in
local macro_rules | `(tactic| walk_at "g")=>`(tactic| first | exact gA nm rfl | exact F6 rfl)
set_option hygiene false in
local macro_rules | `(tactic| walk_at "v")=>`(tactic| first | exact pq nm _ | exact pvb _)
set_option hygiene false in
local macro_rules | `(tactic| walk_at "b")=>`(tactic| first | ((with_reducible show OpB _ (compareOp CmpOp.Eq) _);first | exact Sz hu | exact Ft hu) | ((with_reducible show OpB _ (compareOp CmpOp.NotEq) _);first | exact B_ne hu) | ((with_reducible show OpB _ (compareOp CmpOp.Lt) _);first | exact B_lt) | ((with_reducible show OpB _ (compareOp CmpOp.LtE) _);first | exact B_le) | ((with_reducible show OpB _ (compareOp CmpOp.Gt) _);first | exact B_gt) | ((with_reducible show OpB _ (compareOp CmpOp.GtE) _);first | exact B_ge) | ((with_reducible show OpB _ (compareOp CmpOp.In) _);first | exact B_in hu) | ((with_reducible show OpB _ (compareOp CmpOp.NotIn) _);first | exact FH hu))
set_option hygiene false in
local macro_rules | `(tactic| walk_at "m")=>`(tactic| first | exact Oh _ | exact rfl)
set_option hygiene false in
local macro_rules | `(tactic| walk_at "k")=>`(tactic| first | exact Lw | exact qz | exact qy | exact qx)
set_option hygiene false in
local macro_rules | `(tactic| walk_at "w")=>`(tactic| first | exact PassesOwn.never)
set_option hygiene false in
local macro_rules | `(tactic| walk_at "x")=>`(tactic| first | assumption | exact wants_cx)
set_option hygiene false in
local macro_rules | `(tactic| walk_at "c")=>`(tactic| first | exact T.c_MOST_ASKERS | exact T.c_MOST_COPIES | exact T.c_MOST_RANKS | exact T.c_MOST_THINGS | exact T.c_ORDERS)
set_option hygiene false in
local macro_rules | `(tactic| walk_at "ck")=>`(tactic| fail)
set_option hygiene false in
local macro_rules | `(tactic| walk_at "e")=>`(tactic| first | ((with_reducible show PE _ (Expr.Name _ _) _);first | exact ZD (pq nm _) | exact ZD (pvb _) | exact GM (by walk_at "g") (by walk_at "c") | exact FG (by walk_at "g") (by walk_at "c")) | ((with_reducible show PE _ (Expr.Constant _ _ _) _);first | exact Md | exact CU | exact Dc | exact CV) | ((with_reducible show PE _ (Expr.Subscript _ _ _) _);first | refine Rb (by walk_at "v") ?_ (fun _ _=>rfl) | refine jb ?_ ?_ ?_ | refine Cm ?_ ?_ ?_ ?_ | refine Du ?_ ?_ (fun _ _=>rfl) | refine D5 hu ?_ ?_) | ((with_reducible show PE _ (Expr.BinOp _ Operator.Add _ _) _);first | refine VS GX ?_ ?_) | ((with_reducible show PE _ (Expr.BinOp _ Operator.Sub _ _) _);first | refine VS NW ?_ ?_) | ((with_reducible show PE _ (Expr.BinOp _ Operator.Mult _ _) _);first | refine VS GW ?_ ?_) | ((with_reducible show PE _ (Expr.BinOp _ Operator.Mod _ _) _);first | refine VS GV ?_ ?_) | ((with_reducible show PE _ (Expr.BinOp _ Operator.FloorDiv _ _) _);first | refine VS GU ?_ ?_) | ((with_reducible show PE _ (Expr.BinOp _ Operator.Pow _ _) _);first | refine VS GT ?_ ?_) | ((with_reducible show PE _ (Expr.Call (Expr.Name "len" _) _ _ _) _);first | refine Ly (by walk_at "g") T.b_len (by walk_at "v") | refine WA NV (by walk_at "g") T.b_len boot_len ?_ | refine ja rfl (by walk_at "g") T.b_len (by walk_at "g") T.b_set ?_) | ((with_reducible show PE _ (Expr.Call (Expr.Name "max" _) _ _ _) _);first | refine WA (Dt rfl) (by walk_at "g") T.b_max boot_max ?_ | refine WA (FX rfl) (by walk_at "g") T.b_max boot_max ?_) | ((with_reducible show PE _ (Expr.Call (Expr.Name "min" _) _ _ _) _);first | refine WA (Eu rfl) (by walk_at "g") T.b_min boot_min ?_) | ((with_reducible show PE _ (Expr.Call (Expr.Name "sorted" _) _ _ _) _);first | refine WA FO (by walk_at "g") T.b_sorted PyProof.Rows.boot_sorted ?_) | ((with_reducible show PE _ (Expr.Call (Expr.Name "sum" _) _ _ _) _);first | refine WA (FP rfl) (by walk_at "g") T.b_sum PyProof.Rows.boot_sum ?_ | refine WA (FW rfl) (by walk_at "g") T.b_sum PyProof.Rows.boot_sum ?_) | ((with_reducible show PE _ (Expr.Call (Expr.Name "all" _) _ _ _) _);first | refine WA (GO rfl) (by walk_at "g") T.b_all PyProof.Rows.boot_all ?_) | ((with_reducible show PE _ (Expr.Call (Expr.Name "repr" _) _ _ _) _);first | refine WA (FN hu hgd) (by walk_at "g") T.b_repr qO ?_) | ((with_reducible show PE _ (Expr.Call (Expr.Name "int" _) _ _ _) _);first | refine jK FY (by walk_at "g") T.b_int PyProof.Rows.boot_int ?_) | ((with_reducible show PE _ (Expr.Call (Expr.Name "isinstance" _) [_,Expr.Name "int" _] _ _) _);first | refine RY (c := "int") (by decide) (by walk_at "g") T.b_isinstance (by walk_at "g") T.b_int (by decide +kernel) ?_ (by decide) (by decide)) | ((with_reducible show PE _ (Expr.Call (Expr.Name "isinstance" _) [_,Expr.Name "list" _] _ _) _);first | refine RY (c := "list") (by decide) (by walk_at "g") T.b_isinstance (by walk_at "g") T.b_list (by decide +kernel) ?_ (by decide) (by decide)) | ((with_reducible show PE _ (Expr.Call (Expr.Name "isinstance" _) [_,Expr.Name "tuple" _] _ _) _);first | refine RY (c := "tuple") (by decide) (by walk_at "g") T.b_isinstance (by walk_at "g") T.b_tuple (by decide +kernel) ?_ (by decide) (by decide)) | ((with_reducible show PE _ (Expr.Call (Expr.Name "isinstance" _) [_,Expr.Name "bool" _] _ _) _);first | refine RY (c := "bool") (by decide) (by walk_at "g") T.b_isinstance (by walk_at "g") T.b_bool (by decide +kernel) ?_ (by decide) (by decide)) | ((with_reducible show PE _ (Expr.Call (Expr.Name "isinstance" _) [_,Expr.Name "str" _] _ _) _);first | refine RY (c := "str") (by decide) (by walk_at "g") T.b_isinstance (by walk_at "g") T.b_str (by decide +kernel) ?_ (by decide) (by decide)) | ((with_reducible show PE _ (Expr.Call (Expr.Name _ _) _ _ _) _);first | refine pdf (by assumption) hr (by walk_at "g") ?_ | refine C3 (by assumption) (hr.mono (by decide)) (by walk_at "g") ?_) | ((with_reducible show PE _ (Expr.Call _ _ _ _) _);first | refine qK hu ?_ ?_ | refine AR ?_ ?_) | refine Le ?_ | refine Os ?_ | ((with_reducible show PE _ (Expr.Compare _ _ _ _) _);first | refine DK ?_ | refine Dy (by walk_at "b") (by walk_at "v") ?_ (by walk_at "m") | refine DV (by walk_at "b") ?_ ?_ (by walk_at "m") | refine qa (by walk_at "b") (by walk_at "b") ?_ ?_ ?_) | refine DB ?_ | refine Ll ?_ | refine DN ?_ | refine DP ?_ ?_ | refine Dv ?_ ?_ | refine DO ?_ | refine A9 ?_ ?_ ?_)
set_option hygiene false in
local macro_rules | `(tactic| walk_at "t")=>`(tactic| first | ((with_reducible show PT _ (Expr.Compare _ _ _ _) _);first | refine DM ?_ | refine Lz ?_ | refine DA (by walk_at "b") (by walk_at "v") ?_ (by walk_at "m") | refine Cb (by walk_at "b") ?_ (by walk_at "v") (by walk_at "m") | refine Ot (by walk_at "b") ?_ ?_ (by walk_at "m") | refine qb (by walk_at "b") (by walk_at "b") ?_ ?_ ?_) | ((with_reducible show PT _ (Expr.BoolOp _ _ _) _);refine PW.pt ?_) | refine DR ?_ | refine DQ ?_ | refine D2 ?_)
set_option hygiene false in
local macro_rules | `(tactic| walk_at "l")=>`(tactic| first | refine Fp nm (by walk_at "k") rfl ?_ ?_ (by decide +kernel) | refine qt (by walk_at "g") T.b_list (by walk_at "v") | refine Bl (by walk_at "g") T.b_list ?_ | refine DF ?_ | refine MH ?_ ?_)
set_option hygiene false in
local macro_rules | `(tactic| walk_at "i")=>`(tactic| first | refine A8 (by walk_at "g") T.b_range ?_ | refine A7 (by walk_at "g") T.b_range ?_ | refine Lm (by walk_at "g") T.b_enumerate ?_ | refine Bh (by walk_at "g") T.b_enumerate ?_ | refine F0 (by walk_at "g") T.b_zip ?_ | refine D6 ?_ | refine Pg ?_)
set_option hygiene false in
local macro_rules | `(tactic| walk_at "s")=>`(tactic| first | ((with_reducible show PS _ (Stmt.Assign [Expr.Name _ _] _ _) _);first | refine aSet nm ?_ | refine Fo nm (by walk_at "k") rfl ?_ ?_ (by decide +kernel) | refine Fq nm ?_) | ((with_reducible show PS _ (Stmt.Assign _ _ _) _);first | refine Ds ?_ ?_ | refine Lj ?_ (by walk_at "v") ?_) | refine P2 ?_ ?_ ?_ | refine Ma ?_ | refine Og (by walk_at "w") rfl ?_ ?_ ?_ | ((with_reducible show PS _ (Stmt.Expr _ _) _);first | refine N9 (by walk_at "v") ?_ | refine FQ (by walk_at "v") ?_ | refine DG ?_) | refine aAug nm Cf ?_ | exact AB | refine Ba _ (by walk_at "w") ?_ ?_)
set_option hygiene false in
local macro_rules | `(tactic| walk_at "d")=>`(tactic| (have hu:=hr.units;have hgd:=hr.gd;repeat' (first | ((with_reducible show PE _ _ (tD _ _ _ _));first | walk_at "e") | ((with_reducible show PA _ _ (tDs _ _ _ _));first | refine YG ?_ ?_ | exact VN) | ((with_reducible show PSs _ _ (tS _ _ _ _ _));first | refine RO ?_ ?_ | refine SX ?_ | exact Od | exact sD_nevers) | ((with_reducible show PS _ _ _);walk_at "s") | ((with_reducible show PT _ _ _);walk_at "t") | ((with_reducible show PW _ _ _);first | refine DS ?_ ?_ | refine Dw ?_ ?_ | refine AF ?_ | refine DT ?_) | ((with_reducible show PE _ _ (tL _ _ _ _));walk_at "l") | ((with_reducible show PI _ _ _ _);walk_at "i") | ((with_reducible show PG _ _ _);first | exact Fs nm | exact Es | refine Ph rfl ?_) | ((with_reducible show PGs _ _ _);first | exact Pi | refine Ww ?_ ?_) | ((with_reducible show PO _ _ _);first | exact AE | refine AD ?_) | ((with_reducible show Yn _ _ _ _ _ _ _ _ _);refine fun cl C s0 H0 ex=>⟨fun B' G'=>?_,fun B' G'=>?_,?_⟩) | ((with_reducible show Y7 _ _ _);first | exact DC | refine Lk ?_) | ((with_reducible show Rz _ _ _ _ _ _);first | refine Hj rfl rfl rfl fun B' G'=>?_ | refine qA rfl rfl rfl rfl (fun _=>rfl) (fun B' G'=>?_) (fun B' G'=>?_) (fun B' G'=>?_) ?_) | ((with_reducible show PA _ _ (Y1 _ _ _ _));first | exact Ca | refine AK (by walk_at "v") ?_ | refine C4 ?_ ?_))))
section
variable{P:Up}{w:World}{K:Frag}{mg:Str->Option Um}{base:Heap}{f:Uq}{fd:Ur}(T:Txt K mg)
include T
theorem Kbi(F:Fun K "_law_cell_at" "_law_cell_at" Sbi f fd):FnOk P w K mg base CX0 1 f fd ["_law_script", "_law_k"] (spD K 2 YE):=
 okD (k:=0) (g:=WL) F (fq Hbi 2) rfl λcdv A outer s H E B G0 hr=>
 have nm:=Hbi
 by walk_at "d"
theorem Kcd(F:Fun K "_law_done" "_law_done" Scd f fd):FnOk P w K mg base CX0 1 f fd ["_law_dealing", "_law_way"] (spD K 2 WU):=
 okD (k:=0) (g:=To) F (fq Hcd 2) rfl λcdv A outer s H E B G0 hr=>
 have nm:=Hcd
 by walk_at "d"
theorem Kby(F:Fun K "_law_sum" "_law_sum" Sby f fd):FnOk P w K mg base CX0 1 f fd ["_law_worths_here", "_law_dealing"] (spD K 2 Y8):=
 okD (k:=0) (g:=Tt) F (fq Hby 2) rfl λcdv A outer s H E B G0 hr=>
 have nm:=Hby
 by walk_at "d"
theorem Kcb(F:Fun K "_law_left" "_law_left" Scb f fd):FnOk P w K mg base CX0 1 f fd ["_law_wishes_here", "_law_dealing"] (spD K 2 WW):=
 okD (k:=0) (g:=Tq) F (fq Hcb 2) rfl λcdv A outer s H E B G0 hr=>
 have nm:=Hcb
 by walk_at "d"
theorem Kbn(F:Fun K "_law_wished" "_law_wished" Sbn f fd):FnOk P w K mg base CX0 1 f fd ["_law_wishes_here", "_law_asker"] (spD K 2 ZS):=
 okD (k:=0) (g:=TF) F (fq Hbn 2) rfl λcdv A outer s H E B G0 hr=>
 have nm:=Hbn
 by walk_at "d"
theorem Kbs(F:Fun K "_law_is_number" "_law_is_number" Sbs f fd):FnOk P w K mg base CX0 1 f fd ["_law_thing"] (spD K 1 ZL):=
 okD (k:=0) (g:=WK) F (fq Hbs 1) rfl λcdv A outer s H E B G0 hr=>
 have nm:=Hbs
 by walk_at "d"
theorem Kcc(d_cb:Def P w K mg base "_law_left" 1 2 WW)(d_bn:Def P w K mg base "_law_wished" 1 2 ZS)(d_bs:Def P w K mg base "_law_is_number" 1 1 ZL)(F:Fun K "_law_is_way" "_law_is_way" Scc f fd):FnOk P w K mg base CX0 2 f fd ["_law_wishes_here", "_law_dealing", "_law_way"] (spD K 3 WV):=
 okD (k:=1) (g:=Tp) F (fq Hcc 3) rfl λcdv A outer s H E B G0 hr=>
 have nm:=Hcc
 by walk_at "d"
theorem Kca(F:Fun K "_law_claim" "_law_claim" Sca f fd):FnOk P w K mg base CX0 1 f fd ["_law_wishes_here", "_law_paper"] (spD K 2 WX):=
 okD (k:=0) (g:=Tr) F (fq Hca 2) rfl λcdv A outer s H E B G0 hr=>
 have nm:=Hca
 by walk_at "d"
theorem Kbv(d_bs:Def P w K mg base "_law_is_number" 1 1 ZL)(d_bn:Def P w K mg base "_law_wished" 1 2 ZS)(F:Fun K "_law_is_dealing" "_law_is_dealing" Sbv f fd):FnOk P w K mg base CX0 2 f fd ["_law_wishes_here", "_law_thing"] (spD K 2 YS):=
 okD (k:=1) (g:=WJ) F (fq Hbv 2) rfl λcdv A outer s H E B G0 hr=>
 have nm:=Hbv
 by walk_at "d"
theorem Kbt(d_bs:Def P w K mg base "_law_is_number" 1 1 ZL)(F:Fun K "_law_is_row" "_law_is_row" Sbt f fd):FnOk P w K mg base CX0 2 f fd ["_law_thing", "_law_many"] (spD K 2 X7):=
 okD (k:=1) (g:=Tx) F (fq Hbt 2) rfl λcdv A outer s H E B G0 hr=>
 have nm:=Hbt
 by walk_at "d"
theorem Kbz(d_bt:Def P w K mg base "_law_is_row" 2 2 X7)(d_bs:Def P w K mg base "_law_is_number" 1 1 ZL)(F:Fun K "_law_lets" "_law_lets" Sbz f fd):FnOk P w K mg base CX0 3 f fd ["_law_wishes_here", "_law_worths_here", "_law_thing"] (spD K 3 WY):=
 okD (k:=2) (g:=Ts) F (fq Hbz 3) rfl λcdv A outer s H E B G0 hr=>
 have nm:=Hbz
 by walk_at "d"
theorem Kce(d_ca:Def P w K mg base "_law_claim" 1 2 WX)(d_by:Def P w K mg base "_law_sum" 1 2 Y8)(d_bv:Def P w K mg base "_law_is_dealing" 2 2 YS)(d_bz:Def P w K mg base "_law_lets" 3 3 WY)(F:Fun K "_law_shows_best" "_law_shows_best" Sce f fd):FnOk P w K mg base CX0 4 f fd ["_law_wishes_here", "_law_worths_here", "_law_dealing", "_law_paper"] (spD K 4 WT):=
 okD (k:=3) (g:=Tn) F (fq Hce 4) rfl λcdv A outer s H E B G0 hr=>
 have nm:=Hce
 by walk_at "d"
theorem Kcf(d_cd:Def P w K mg base "_law_done" 1 2 WU)(d_by:Def P w K mg base "_law_sum" 1 2 Y8)(d_cc:Def P w K mg base "_law_is_way" 2 3 WV)(d_ce:Def P w K mg base "_law_shows_best" 4 4 WT)(F:Fun K "_law_right" "_law_right" Scf f fd):FnOk P w K mg base CX0 5 f fd ["_law_wishes_here", "_law_worths_here", "_law_dealing", "_law_found"] (spD K 4 X5):=
 okD (k:=4) (g:=WI) F (fq Hcf 4) rfl λcdv A outer s H E B G0 hr=>
 have nm:=Hcf
 by walk_at "d"
theorem Kbf(F:Fun K "asks_beyond" "asks_beyond" Sbf f fd):FnOk P w K mg base CX0 1 f fd ["askers", "worths", "prices"] (spD K 3 W7):=
 okD (k:=0) (g:=TQ) F (fq Hbf 3) rfl λcdv A outer s H E B G0 hr=>
 have nm:=Hbf
 by walk_at "d"
theorem Kav(F:Fun K "place_of" "place_of" Sav f fd):FnOk P w K mg base CX0 1 f fd ["nothing", "got"] (spD K 2 Wb):=
 okD (k:=0) (g:=T4) F (fq Hav 2) rfl λcdv A outer s H E B G0 hr=>
 have nm:=Hav
 by walk_at "d"
theorem Kaw(d_av:Def P w K mg base "place_of" 1 2 Wb)(F:Fun K "steps_of_askers" "steps_of_askers" Saw f fd):FnOk P w K mg base CX0 2 f fd ["nothing", "worths", "dealing"] (spD K 3 Vd):=
 okD (k:=1) (g:=T3) F (fq Haw 3) rfl λcdv A outer s H E B G0 hr=>
 have hu:=hr.units;have hgd:=hr.gd
 (RO (Ld (i:=3) (nq Haw) rfl (lq Haw 3) (MH (Le (YG Md VN)) (Ly (gq Haw 2) T.b_len (pq Haw 2))))
 (RO (Og UG rfl (Pg (ZD (pq Haw 1))) (Ph rfl (Ww (Wi (XH (i:=4) (nq Haw) rfl (lq Haw 4))) (Ww (Wi (XH (i:=5) (nq Haw) rfl (lq Haw 5))) (Ww (Wi (XH (i:=6) (nq Haw) rfl (lq Haw 6))) Pi))))
 (SX (P2 (Ot (Sz hu) (Rb (pq Haw 2) (ZD (pq Haw 4)) (λ_ _=>rfl)) (ZD (pq Haw 5)) (Oh _))
 (SX (Lj (ZD (pq Haw 6)) (pq Haw 3) (ZD (pq Haw 4))))
 Od)))
 (RO (Fv (j:=7) (ZO Saw) Sw ["nothing", "worths", "dealing", "had", ".asker", "thing", "worth", "told", "asker", "got"] 2 Lw (nq Haw) rfl rfl rfl (λB' G'=>(Lm (gq Haw 1) T.b_enumerate (YG (ZD (pq Haw 2)) VN))) (λcl C s0 H0 ex=>⟨λB' G'=>(Ph rfl (Ww (Wi (XH (i:=8) (show(["nothing", "worths", "dealing", "had", ".asker", "thing", "worth", "told", "asker", "got"]:List Str).Nodup by decide +kernel) rfl (Oq rfl) (.inr (Of rfl)))) (Ww (Wi (XH (i:=9) (show(["nothing", "worths", "dealing", "had", ".asker", "thing", "worth", "told", "asker", "got"]:List Str).Nodup by decide +kernel) rfl (Oq rfl) (.inr (Of rfl)))) Pi))),λB' G'=>(Lk (Lz (ZD (pvb 9)))),(Hj rfl rfl rfl λB' G'=>(Os (YG (ZD (pvb 9)) (YG (ZD (pvb 0)) (YG (Ll (Rb (pvb 3) (ZD (pvb 8)) (λ_ _=>rfl))) (YG (ZD (pvb 8)) VN))))))⟩) rfl rfl (by decide +kernel))
 (RO (Og UG rfl (Pg (ZD (pq Haw 1))) (Ph rfl (Ww (Wi (XH (i:=4) (nq Haw) rfl (lq Haw 4))) (Ww (Wi (XH (i:=5) (nq Haw) rfl (lq Haw 5))) (Ww (Wi (XH (i:=6) (nq Haw) rfl (lq Haw 6))) Pi))))
 (SX (P2 (Ot (B_ne hu) (Rb (pq Haw 2) (ZD (pq Haw 4)) (λ_ _=>rfl)) (ZD (pq Haw 5)) (Oh _))
 (SX (N9 (pq Haw 7) (Os (YG (pdf d_av hr (gq Haw 0) (YG (ZD (pq Haw 0)) (YG (Rb (pq Haw 2) (ZD (pq Haw 4)) (λ_ _=>rfl)) VN))) (YG (ZD (pq Haw 5)) (YG (VS NW (ZD (pq Haw 6)) (Rb (pq Haw 3) (ZD (pq Haw 4)) (λ_ _=>rfl))) (YG (ZD (pq Haw 4)) VN)))))))
 Od)))
 (SX (Ma (ZD (pq Haw 7))))))))
theorem Kaa(F:Fun K "is_whole" "is_whole" Saa f fd):FnOk P w K mg base CX0 1 f fd ["thing"] (spD K 1 Vt):=
 okD (k:=0) (g:=Ss) F (fq Haa 1) rfl λcdv A outer s H E B G0 hr=>
 have nm:=Haa
 by walk_at "d"
theorem Kab(d_aa:Def P w K mg base "is_whole" 1 1 Vt)(F:Fun K "is_number_below" "is_number_below" Sab f fd):FnOk P w K mg base CX0 2 f fd ["thing", "many"] (spD K 2 ZM):=
 okD (k:=1) (g:=Sr) F (fq Hab 2) rfl λcdv A outer s H E B G0 hr=>
 have nm:=Hab
 by walk_at "d"
theorem Kad(d_ab:Def P w K mg base "is_number_below" 2 2 ZM)(F:Fun K "is_rank" "is_rank" Sad f fd):FnOk P w K mg base CX0 3 f fd ["thing", "things"] (spD K 2 Wd):=
 okD (k:=2) (g:=So) F (fq Had 2) rfl λcdv A outer s H E B G0 hr=>
 have nm:=Had
 by walk_at "d"
theorem Kae(d_ad:Def P w K mg base "is_rank" 3 2 Wd)(F:Fun K "is_asker_list" "is_asker_list" Sae f fd):FnOk P w K mg base CX0 4 f fd ["thing", "things"] (spD K 2 Vr):=
 okD (k:=3) (g:=Sn) F (fq Hae 2) rfl λcdv A outer s H E B G0 hr=>
 have nm:=Hae
 by walk_at "d"
theorem Kaf(d_ae:Def P w K mg base "is_asker_list" 4 2 Vr)(F:Fun K "look_at_lists" "look_at_lists" Saf f fd):FnOk P w K mg base CX0 5 f fd ["lists", "things"] (spD K 2 Vq):=
 okD (k:=4) (g:=Sm) F (fq Haf 2) rfl λcdv A outer s H E B G0 hr=>
 have nm:=Haf
 by walk_at "d"
theorem Kac(d_ab:Def P w K mg base "is_number_below" 2 2 ZM)(F:Fun K "look_at_copies" "look_at_copies" Sac f fd):FnOk P w K mg base CX0 3 f fd ["copies"] (spD K 1 Vs):=
 okD (k:=2) (g:=Sq) F (fq Hac 1) rfl λcdv A outer s H E B G0 hr=>
 have nm:=Hac
 by walk_at "d"
theorem Kag(d_af:Def P w K mg base "look_at_lists" 5 2 Vq)(d_ac:Def P w K mg base "look_at_copies" 3 1 Vs)(F:Fun K "look_at_wishes" "look_at_wishes" Sag f fd):FnOk P w K mg base CX0 6 f fd ["thing"] (spD K 1 Yo):=
 okD (k:=5) (g:=Sk) F (fq Hag 1) rfl λcdv A outer s H E B G0 hr=>
 have nm:=Hag
 by walk_at "d"
theorem Kak(d_ag:Def P w K mg base "look_at_wishes" 6 1 Yo)(F:Fun K "copies_left" "copies_left" Sak f fd):FnOk P w K mg base CX0 7 f fd ["wishes", "dealing"] (spD K 2 Vm):=
 okD (k:=6) (g:=Sf) F (fq Hak 2) rfl λcdv A outer s H E B G0 hr=>
 have nm:=Hak
 by walk_at "d"
theorem Kax(d_ak:Def P w K mg base "copies_left" 7 2 Vm)(F:Fun K "steps_of_copies" "steps_of_copies" Sax f fd):FnOk P w K mg base CX0 8 f fd ["wishes", "dealing"] (spD K 2 Vc):=
 okD (k:=7) (g:=T2) F (fq Hax 2) rfl λcdv A outer s H E B G0 hr=>
 have nm:=Hax
 by walk_at "d"
theorem Kay(d_aw:Def P w K mg base "steps_of_askers" 2 3 Vd)(d_ax:Def P w K mg base "steps_of_copies" 8 2 Vc)(F:Fun K "all_steps" "all_steps" Say f fd):FnOk P w K mg base CX0 9 f fd ["wishes", "worths", "dealing"] (spD K 3 Y9):=
 okD (k:=8) (g:=TZ) F (fq Hay 3) rfl λcdv A outer s H E B G0 hr=>
 have nm:=Hay
 by walk_at "d"
theorem Kaz(F:Fun K "longer_walks" "longer_walks" Saz f fd):FnOk P w K mg base CX0 1 f fd ["walks", "steps"] (spD K 2 Vb):=
 okD (k:=0) (g:=TY) F (fq Haz 2) rfl λcdv A outer s H E B G0 hr=>
 have nm:=Haz
 by walk_at "d"
theorem Kba(d_az:Def P w K mg base "longer_walks" 1 2 Vb)(F:Fun K "widest_walks" "widest_walks" Sba f fd):FnOk P w K mg base CX0 2 f fd ["places", "steps"] (spD K 2 Xz):=
 okD (k:=1) (g:=TX) F (fq Hba 2) rfl λcdv A outer s H E B G0 hr=>
 have nm:=Hba
 by walk_at "d"
theorem Kbe(d_ay:Def P w K mg base "all_steps" 9 3 Y9)(d_ba:Def P w K mg base "widest_walks" 2 2 Xz)(F:Fun K "prices_for" "prices_for" Sbe f fd):FnOk P w K mg base CX0 10 f fd ["wishes", "worths", "dealing"] (spD K 3 W8):=
 okD (k:=9) (g:=TR) F (fq Hbe 3) rfl λcdv A outer s H E B G0 hr=>
 have nm:=Hbe
 by walk_at "d"
theorem Kbg(d_bf:Def P w K mg base "asks_beyond" 1 3 W7)(d_be:Def P w K mg base "prices_for" 10 3 W8)(F:Fun K "paper_for" "paper_for" Sbg f fd):FnOk P w K mg base CX0 11 f fd ["wishes", "worths", "dealing"] (spD K 3 W6):=
 okD (k:=10) (g:=TN) F (fq Hbg 3) rfl λcdv A outer s H E B G0 hr=>
 have nm:=Hbg
 by walk_at "d"
theorem Kbb(F:Fun K "round_within" "round_within" Sbb f fd):FnOk P w K mg base CX0 1 f fd ["walk"] (spD K 1 Va):=
 okD (k:=0) (g:=TW) F (fq Hbb 1) rfl λcdv A outer s H E B G0 hr=>
 have nm:=Hbb
 by walk_at "d"
theorem Kbc(F:Fun K "way_round" "way_round" Sbc f fd):FnOk P w K mg base CX0 1 f fd ["nothing", "steps"] (spD K 2 Wa):=
 okD (k:=0) (g:=TV) F (fq Hbc 2) rfl λcdv A outer s H E B G0 hr=>
 have nm:=Hbc
 by walk_at "d"
theorem Kbd(d_ay:Def P w K mg base "all_steps" 9 3 Y9)(d_ba:Def P w K mg base "widest_walks" 2 2 Xz)(d_bb:Def P w K mg base "round_within" 1 1 Va)(d_bc:Def P w K mg base "way_round" 1 2 Wa)(F:Fun K "gaining_way" "gaining_way" Sbd f fd):FnOk P w K mg base CX0 10 f fd ["wishes", "worths", "dealing"] (spD K 3 W9):=
 okD (k:=9) (g:=TU) F (fq Hbd 3) rfl λcdv A outer s H E B G0 hr=>
 have nm:=Hbd
 by walk_at "d"
theorem Kaj(d_ag:Def P w K mg base "look_at_wishes" 6 1 Yo)(F:Fun K "all_wishes" "all_wishes" Saj f fd):FnOk P w K mg base CX0 7 f fd ["wishes"] (spD K 1 Vn):=
 okD (k:=6) (g:=Sg) F (fq Haj 1) rfl λcdv A outer s H E B G0 hr=>
 have nm:=Haj
 by walk_at "d"
theorem Kaq(F:Fun K "power" "power" Saq f fd):FnOk P w K mg base CX0 1 f fd ["base", "times"] (spD K 2 Zs):=
 okD (k:=0) (g:=T9) F (fq Haq 2) rfl λcdv A outer s H E B G0 hr=>
 have nm:=Haq
 by walk_at "d"
theorem Kas(d_aq:Def P w K mg base "power" 1 2 Zs)(F:Fun K "worth_by_turns" "worth_by_turns" Sas f fd):FnOk P w K mg base CX0 2 f fd ["turns", "base", "asker", "rank"] (spD K 4 Vf):=
 okD (k:=1) (g:=T7) F (fq Has 4) rfl λcdv A outer s H E B G0 hr=>
 have nm:=Has
 by walk_at "d"
theorem Kar(d_aq:Def P w K mg base "power" 1 2 Zs)(F:Fun K "worth_by_order" "worth_by_order" Sar f fd):FnOk P w K mg base CX0 2 f fd ["order", "base", "most", "rank"] (spD K 4 Vg):=
 okD (k:=1) (g:=T8) F (fq Har 4) rfl λcdv A outer s H E B G0 hr=>
 have nm:=Har
 by walk_at "d"
theorem Kah(F:Fun K "rank_in" "rank_in" Sah f fd):FnOk P w K mg base CX0 1 f fd ["ranks", "thing"] (spD K 2 Vp):=
 okD (k:=0) (g:=Sj) F (fq Hah 2) rfl λcdv A outer s H E B G0 hr=>
 have nm:=Hah
 by walk_at "d"
theorem Kat(d_aq:Def P w K mg base "power" 1 2 Zs)(d_as:Def P w K mg base "worth_by_turns" 2 4 Vf)(d_ar:Def P w K mg base "worth_by_order" 2 4 Vg)(d_ah:Def P w K mg base "rank_in" 1 2 Vp)(F:Fun K "worth_by_aim" "worth_by_aim" Sat f fd):FnOk P w K mg base CX0 3 f fd ["wishes", "aim", "most", "asker", "thing"] (spD K 5 Wc):=
 okD (k:=2) (g:=T6) F (fq Hat 5) rfl λcdv A outer s H E B G0 hr=>
 have nm:=Hat
 by walk_at "d"
theorem Kai(d_ag:Def P w K mg base "look_at_wishes" 6 1 Yo)(F:Fun K "longest" "longest" Sai f fd):FnOk P w K mg base CX0 7 f fd ["wishes"] (spD K 1 Vo):=
 okD (k:=6) (g:=Sh) F (fq Hai 1) rfl λcdv A outer s H E B G0 hr=>
 have nm:=Hai
 by walk_at "d"
theorem Kao(d_ab:Def P w K mg base "is_number_below" 2 2 ZM)(F:Fun K "is_turns" "is_turns" Sao f fd):FnOk P w K mg base CX0 3 f fd ["thing", "askers"] (spD K 2 Vi):=
 okD (k:=2) (g:=Sb) F (fq Hao 2) rfl λcdv A outer s H E B G0 hr=>
 have nm:=Hao
 by walk_at "d"
theorem Kan(d_ab:Def P w K mg base "is_number_below" 2 2 ZM)(F:Fun K "is_old" "is_old" San f fd):FnOk P w K mg base CX0 3 f fd ["thing", "askers", "things"] (spD K 3 Vj):=
 okD (k:=2) (g:=Sc) F (fq Han 3) rfl λcdv A outer s H E B G0 hr=>
 have nm:=Han
 by walk_at "d"
theorem Kal(F:Fun K "is_order" "is_order" Sal f fd):FnOk P w K mg base CX0 1 f fd ["thing"] (spD K 1 Vl):=
 okD (k:=0) (g:=Se) F (fq Hal 1) rfl λcdv A outer s H E B G0 hr=>
 have nm:=Hal
 by walk_at "d"
theorem Kam(d_al:Def P w K mg base "is_order" 1 1 Vl)(F:Fun K "look_at_order" "look_at_order" Sam f fd):FnOk P w K mg base CX0 2 f fd ["thing"] (spD K 1 Vk):=
 okD (k:=1) (g:=Sd) F (fq Ham 1) rfl λcdv A outer s H E B G0 hr=>
 have nm:=Ham
 by walk_at "d"
theorem Kap(d_ao:Def P w K mg base "is_turns" 3 2 Vi)(d_an:Def P w K mg base "is_old" 3 3 Vj)(d_am:Def P w K mg base "look_at_order" 2 1 Vk)(d_ag:Def P w K mg base "look_at_wishes" 6 1 Yo)(F:Fun K "look_at_aim" "look_at_aim" Sap f fd):FnOk P w K mg base CX0 7 f fd ["wishes", "thing"] (spD K 2 Vh):=
 okD (k:=6) (g:=Sa) F (fq Hap 2) rfl λcdv A outer s H E B G0 hr=>
 have nm:=Hap
 by walk_at "d"
theorem Kau(d_aj:Def P w K mg base "all_wishes" 7 1 Vn)(d_at:Def P w K mg base "worth_by_aim" 3 5 Wc)(d_ai:Def P w K mg base "longest" 7 1 Vo)(d_ap:Def P w K mg base "look_at_aim" 7 2 Vh)(F:Fun K "all_worths" "all_worths" Sau f fd):FnOk P w K mg base CX0 8 f fd ["wishes", "aim"] (spD K 2 Ve):=
 okD (k:=7) (g:=T5) F (fq Hau 2) rfl λcdv A outer s H E B G0 hr=>
 have nm:=Hau
 by walk_at "d"
theorem Kbh(d_bg:Def P w K mg base "paper_for" 11 3 W6)(d_bd:Def P w K mg base "gaining_way" 10 3 W9)(d_au:Def P w K mg base "all_worths" 8 2 Ve)(F:Fun K "bettered" "bettered" Sbh f fd):FnOk P w K mg base CX0 12 f fd ["wishes", "aim", "dealing"] (spD K 3 Xy):=
 okD (k:=11) (g:=TM) F (fq Hbh 3) rfl λcdv A outer s H E B G0 hr=>
 have nm:=Hbh
 by walk_at "d"
theorem Kbj(F:Fun K "_law_numbers" "_law_numbers" Sbj f fd):FnOk P w K mg base CX0 1 f fd ["_law_cell", "_law_salt", "_law_sizes"] (spD K 3 Yc):=
 okD (k:=0) (g:=TL) F (fq Hbj 3) rfl λcdv A outer s H E B G0 hr=>
 have nm:=Hbj
 by walk_at "d"
theorem Kbp(d_bn:Def P w K mg base "_law_wished" 1 2 ZS)(d_bj:Def P w K mg base "_law_numbers" 1 3 Yc)(F:Fun K "_law_dealt" "_law_dealt" Sbp f fd):FnOk P w K mg base CX0 2 f fd ["_law_wishes_here", "_law_cell", "_law_salt"] (spD K 3 X9):=
 okD (k:=1) (g:=TC) F (fq Hbp 3) rfl λcdv A outer s H E B G0 hr=>
 have nm:=Hbp
 by walk_at "d"
theorem Kbw(d_bv:Def P w K mg base "_law_is_dealing" 2 2 YS)(d_bn:Def P w K mg base "_law_wished" 1 2 ZS)(d_bj:Def P w K mg base "_law_numbers" 1 3 Yc)(F:Fun K "_law_near" "_law_near" Sbw f fd):FnOk P w K mg base CX0 3 f fd ["_law_wishes_here", "_law_dealing", "_law_cell", "_law_salt"] (spD K 4 W0):=
 okD (k:=2) (g:=Tv) F (fq Hbw 4) rfl λcdv A outer s H E B G0 hr=>
 have nm:=Hbw
 by walk_at "d"
theorem Kbr(F:Fun K "_law_copy" "_law_copy" Sbr f fd):FnOk P w K mg base CX0 1 f fd ["_law_wishes_here"] (spD K 1 W1):=
 okD (k:=0) (g:=Tz) F (fq Hbr 1) rfl λcdv A outer s H E B G0 hr=>
 have nm:=Hbr
 by walk_at "d"
theorem Kbu(d_bn:Def P w K mg base "_law_wished" 1 2 ZS)(F:Fun K "_law_wishes_of" "_law_wishes_of" Sbu f fd):FnOk P w K mg base CX0 2 f fd ["_law_wishes_here"] (spD K 1 X6):=
 okD (k:=1) (g:=Tw) F (fq Hbu 1) rfl λcdv A outer s H E B G0 hr=>
 have nm:=Hbu
 by walk_at "d"
theorem Kbl(F:Fun K "_law_rank" "_law_rank" Sbl f fd):FnOk P w K mg base CX0 1 f fd ["_law_wishes_here", "_law_asker", "_law_thing"] (spD K 3 W4):=
 okD (k:=0) (g:=TJ) F (fq Hbl 3) rfl λcdv A outer s H E B G0 hr=>
 have nm:=Hbl
 by walk_at "d"
theorem Kbm(F:Fun K "_law_longest" "_law_longest" Sbm f fd):FnOk P w K mg base CX0 1 f fd ["_law_wishes_here"] (spD K 1 W3):=
 okD (k:=0) (g:=TH) F (fq Hbm 1) rfl λcdv A outer s H E B G0 hr=>
 have nm:=Hbm
 by walk_at "d"
theorem Kbq(d_bl:Def P w K mg base "_law_rank" 1 3 W4)(d_bm:Def P w K mg base "_law_longest" 1 1 W3)(F:Fun K "_law_worth" "_law_worth" Sbq f fd):FnOk P w K mg base CX0 2 f fd ["_law_wishes_here", "_law_aim_here", "_law_asker", "_law_thing"] (spD K 4 X8):=
 okD (k:=1) (g:=TB) F (fq Hbq 4) rfl λcdv A outer s H E B G0 hr=>
 have nm:=Hbq
 by walk_at "d"
theorem Kbx(d_bu:Def P w K mg base "_law_wishes_of" 2 1 X6)(d_bq:Def P w K mg base "_law_worth" 2 4 X8)(F:Fun K "_law_worths" "_law_worths" Sbx f fd):FnOk P w K mg base CX0 3 f fd ["_law_wishes_here", "_law_aim_here"] (spD K 2 WZ):=
 okD (k:=2) (g:=Tu) F (fq Hbx 2) rfl λcdv A outer s H E B G0 hr=>
 have hu:=hr.units;have hgd:=hr.gd
 (Ev (j:=2) (i1:=3) (i2:=4) hu UG rfl (nq Hbx) rfl rfl rfl (lq Hbx 2) (lq Hbx 3) (lq Hbx 4) (λ_=>(pq Hbx 2)) (λ_=>(pq Hbx 3)) (λ_=>(pq Hbx 4)) (by decide) (by decide) (by decide)
 (λB' G'=>(Pg (pdf d_bu hr (gq Hbx 0) (YG (ZD (pq Hbx 0)) VN))))
 (λB' G'=>(pdf d_bq hr (gq Hbx 1) (YG (ZD (pq Hbx 0)) (YG (ZD (pq Hbx 1)) (YG (ZD (pq Hbx 3)) (YG (ZD (pq Hbx 4)) VN)))))) (by first|exact .inl rfl|exact .inr rfl|assumption) (by first|exact .inl rfl|exact .inr rfl|assumption) (by first|exact .inl rfl|exact .inr rfl|assumption))
theorem Kbo(d_bj:Def P w K mg base "_law_numbers" 1 3 Yc)(F:Fun K "_law_aim" "_law_aim" Sbo f fd):FnOk P w K mg base CX0 2 f fd ["_law_wishes_here", "_law_cell", "_law_salt"] (spD K 3 W2):=
 okD (k:=1) (g:=TD) F (fq Hbo 3) rfl λcdv A outer s H E B G0 hr=>
 have nm:=Hbo
 by walk_at "d"
theorem Kbk(d_bj:Def P w K mg base "_law_numbers" 1 3 Yc)(d_bi:Def P w K mg base "_law_cell_at" 1 2 YE)(F:Fun K "_law_wishes" "_law_wishes" Sbk f fd):FnOk P w K mg base CX0 2 f fd ["_law_script", "_law_at", "_law_most_things", "_law_most_askers", "_law_most_ranks"] (spD K 5 W5):=
 okD (k:=1) (g:=TK) F (fq Hbk 5) rfl λcdv A outer s H E B G0 hr=>
 have nm:=Hbk
 by walk_at "d"
theorem Kcg(d_bi:Def P w K mg base "_law_cell_at" 1 2 YE)(d_cf:Def P w K mg base "_law_right" 5 4 X5)(d_bh:Def P w K mg base "bettered" 12 3 Xy)(d_bp:Def P w K mg base "_law_dealt" 2 3 X9)(d_bw:Def P w K mg base "_law_near" 3 4 W0)(d_br:Def P w K mg base "_law_copy" 1 1 W1)(d_bx:Def P w K mg base "_law_worths" 3 2 WZ)(d_bo:Def P w K mg base "_law_aim" 2 3 W2)(d_bk:Def P w K mg base "_law_wishes" 2 5 W5)(F:Fun K "law" "law" Scg f fd):FnOk P w K mg base CX0 13 f fd ["_law_script"] (spD K 1 WS):=
 okD (k:=12) (g:=Tl) F (fq Hcg 1) rfl λcdv A outer s H E B G0 hr=>
 have nm:=Hcg
 by walk_at "d"
end
theorem KJ:recsOf q0=RI p0 ixL:=by show recsOf (PySem.W.view PySem.Challenge.pw_wishdeal_k43_bettered XA)=RI PySem.Challenge.pw_wishdeal_k43_bettered ixL;rw[PySem.W.Fast.te3399658132070893891,PySem.W.Fast.te14596890240909809656];kernel_rfl
theorem YI:(["all", "bool", "enumerate", "int", "isinstance", "len", "list", "max", "min", "range", "repr", "set", "sorted", "str", "sum", "tuple", "zip"]:List Str).all (R8 q0 (PySem.W.looseW q0 []))=true:=by show List.all _ (R8 (PySem.W.view PySem.Challenge.pw_wishdeal_k43_bettered XA) (PySem.W.looseW (PySem.W.view PySem.Challenge.pw_wishdeal_k43_bettered XA) []))=true;k_qdec
theorem kR:valOf q0 "MOST_ASKERS" = some (.int 7):=by show valOf (PySem.W.view PySem.Challenge.pw_wishdeal_k43_bettered XA) _=_;rw[Jx,PySem.W.Fast.te14596890240909809656];kernel_rfl
theorem xa:valOf q0 "MOST_COPIES" = some (.int 7):=by show valOf (PySem.W.view PySem.Challenge.pw_wishdeal_k43_bettered XA) _=_;rw[Jx,PySem.W.Fast.te14596890240909809656];kernel_rfl
theorem kJ:valOf q0 "MOST_RANKS" = some (.int 5):=by show valOf (PySem.W.view PySem.Challenge.pw_wishdeal_k43_bettered XA) _=_;rw[Jx,PySem.W.Fast.te14596890240909809656];kernel_rfl
theorem kZ:valOf q0 "MOST_THINGS" = some (.int 6):=by show valOf (PySem.W.view PySem.Challenge.pw_wishdeal_k43_bettered XA) _=_;rw[Jx,PySem.W.Fast.te14596890240909809656];kernel_rfl
theorem A6:tupStrsOf q0 "ORDERS" = some (["firsts", "full", "lasts"]:List Str):=by show tupStrsOf (PySem.W.view PySem.Challenge.pw_wishdeal_k43_bettered XA) _=_;rw[PySem.W.Fast.te14491516231548247274,PySem.W.Fast.te14596890240909809656];kernel_rfl
theorem Er{l:PySem.W.OpenLaw}{w:World}{s0:Uo}{mg mb:Str->Option Um}{fa:Uq}{h:Heap}{XP:(Str->Option Um)->Heap->Prop}(G:PySem.W.Ground q0 [] [] XP w s0 mg mb h)(hfa:mg "law" = some (.ref fa)) :
  ∃fd:Ur,(∀(s:Uo)(v:Um),BindsTo s fd ⟨[v],[]⟩ [("_law_script", v)])/\∀base:Heap,FnOk l.prog w (whole h) mg base CX0 13 fa fd ["_law_script"] (spD (whole h) 1 WS):=by
 have T:Txt (whole h) mg:=⟨YM G.T YI (mq 0 rfl),YM G.T YI (mq 1 rfl),YM G.T YI (mq 2 rfl),YM G.T YI (mq 3 rfl),YM G.T YI (mq 4 rfl),YM G.T YI (mq 5 rfl),YM G.T YI (mq 6 rfl),YM G.T YI (mq 7 rfl),YM G.T YI (mq 8 rfl),YM G.T YI (mq 9 rfl),YM G.T YI (mq 10 rfl),YM G.T YI (mq 11 rfl),YM G.T YI (mq 12 rfl),YM G.T YI (mq 13 rfl),YM G.T YI (mq 14 rfl),YM G.T YI (mq 15 rfl),YM G.T YI (mq 16 rfl),PF G.T kR,PF G.T xa,PF G.T kJ,PF G.T kZ,AH G.B A6 (by decide)⟩
 refine Fx G.T KJ 76 "law" rfl rfl hfa (λ_ _ _ _ _ _ _=>rfl) λbase=>?_
 have d_bi:=KM l.prog w base G.T KJ 52 "_law_cell_at" rfl rfl (λF=>Kbi T  F) λ_ _ _ _ _ _ us hl=>bz2 (us:=us) hl λ_ _=>rfl
 have d_cd:=KM l.prog w base G.T KJ 73 "_law_done" rfl rfl (λF=>Kcd T  F) λ_ _ _ _ _ _ us hl=>bz2 (us:=us) hl λ_ _=>rfl
 have d_by:=KM l.prog w base G.T KJ 68 "_law_sum" rfl rfl (λF=>Kby T  F) λ_ _ _ _ _ _ us hl=>bz2 (us:=us) hl λ_ _=>rfl
 have d_cb:=KM l.prog w base G.T KJ 71 "_law_left" rfl rfl (λF=>Kcb T  F) λ_ _ _ _ _ _ us hl=>bz2 (us:=us) hl λ_ _=>rfl
 have d_bn:=KM l.prog w base G.T KJ 57 "_law_wished" rfl rfl (λF=>Kbn T  F) λ_ _ _ _ _ _ us hl=>bz2 (us:=us) hl λ_ _=>rfl
 have d_bs:=KM l.prog w base G.T KJ 62 "_law_is_number" rfl rfl (λF=>Kbs T  F) λ_ _ _ _ _ _ us hl=>bz1 (us:=us) hl λ_=>rfl
 have d_cc:=KM l.prog w base G.T KJ 72 "_law_is_way" rfl rfl (λF=>Kcc T d_cb d_bn d_bs F) λ_ _ _ _ _ _ us hl=>bz3 (us:=us) hl λ_ _ _=>rfl
 have d_ca:=KM l.prog w base G.T KJ 70 "_law_claim" rfl rfl (λF=>Kca T  F) λ_ _ _ _ _ _ us hl=>bz2 (us:=us) hl λ_ _=>rfl
 have d_bv:=KM l.prog w base G.T KJ 65 "_law_is_dealing" rfl rfl (λF=>Kbv T d_bs d_bn F) λ_ _ _ _ _ _ us hl=>bz2 (us:=us) hl λ_ _=>rfl
 have d_bt:=KM l.prog w base G.T KJ 63 "_law_is_row" rfl rfl (λF=>Kbt T d_bs F) λ_ _ _ _ _ _ us hl=>bz2 (us:=us) hl λ_ _=>rfl
 have d_bz:=KM l.prog w base G.T KJ 69 "_law_lets" rfl rfl (λF=>Kbz T d_bt d_bs F) λ_ _ _ _ _ _ us hl=>bz3 (us:=us) hl λ_ _ _=>rfl
 have d_ce:=KM l.prog w base G.T KJ 74 "_law_shows_best" rfl rfl (λF=>Kce T d_ca d_by d_bv d_bz F) λ_ _ _ _ _ _ us hl=>bz4 (us:=us) hl λ_ _ _ _=>rfl
 have d_cf:=KM l.prog w base G.T KJ 75 "_law_right" rfl rfl (λF=>Kcf T d_cd d_by d_cc d_ce F) λ_ _ _ _ _ _ us hl=>bz4 (us:=us) hl λ_ _ _ _=>rfl
 have d_bf:=KM l.prog w base G.T KJ 47 "asks_beyond" rfl rfl (λF=>Kbf T  F) λ_ _ _ _ _ _ us hl=>bz3 (us:=us) hl λ_ _ _=>rfl
 have d_av:=KM l.prog w base G.T KJ 37 "place_of" rfl rfl (λF=>Kav T  F) λ_ _ _ _ _ _ us hl=>bz2 (us:=us) hl λ_ _=>rfl
 have d_aw:=KM l.prog w base G.T KJ 38 "steps_of_askers" rfl rfl (λF=>Kaw T d_av F) λ_ _ _ _ _ _ us hl=>bz3 (us:=us) hl λ_ _ _=>rfl
 have d_aa:=KM l.prog w base G.T KJ 1 "is_whole" rfl rfl (λF=>Kaa T  F) λ_ _ _ _ _ _ us hl=>bz1 (us:=us) hl λ_=>rfl
 have d_ab:=KM l.prog w base G.T KJ 2 "is_number_below" rfl rfl (λF=>Kab T d_aa F) λ_ _ _ _ _ _ us hl=>bz2 (us:=us) hl λ_ _=>rfl
 have d_ad:=KM l.prog w base G.T KJ 13 "is_rank" rfl rfl (λF=>Kad T d_ab F) λ_ _ _ _ _ _ us hl=>bz2 (us:=us) hl λ_ _=>rfl
 have d_ae:=KM l.prog w base G.T KJ 14 "is_asker_list" rfl rfl (λF=>Kae T d_ad F) λ_ _ _ _ _ _ us hl=>bz2 (us:=us) hl λ_ _=>rfl
 have d_af:=KM l.prog w base G.T KJ 15 "look_at_lists" rfl rfl (λF=>Kaf T d_ae F) λ_ _ _ _ _ _ us hl=>bz2 (us:=us) hl λ_ _=>rfl
 have d_ac:=KM l.prog w base G.T KJ 12 "look_at_copies" rfl rfl (λF=>Kac T d_ab F) λ_ _ _ _ _ _ us hl=>bz1 (us:=us) hl λ_=>rfl
 have d_ag:=KM l.prog w base G.T KJ 16 "look_at_wishes" rfl rfl (λF=>Kag T d_af d_ac F) λ_ _ _ _ _ _ us hl=>bz1 (us:=us) hl λ_=>rfl
 have d_ak:=KM l.prog w base G.T KJ 21 "copies_left" rfl rfl (λF=>Kak T d_ag F) λ_ _ _ _ _ _ us hl=>bz2 (us:=us) hl λ_ _=>rfl
 have d_ax:=KM l.prog w base G.T KJ 39 "steps_of_copies" rfl rfl (λF=>Kax T d_ak F) λ_ _ _ _ _ _ us hl=>bz2 (us:=us) hl λ_ _=>rfl
 have d_ay:=KM l.prog w base G.T KJ 40 "all_steps" rfl rfl (λF=>Kay T d_aw d_ax F) λ_ _ _ _ _ _ us hl=>bz3 (us:=us) hl λ_ _ _=>rfl
 have d_az:=KM l.prog w base G.T KJ 41 "longer_walks" rfl rfl (λF=>Kaz T  F) λ_ _ _ _ _ _ us hl=>bz2 (us:=us) hl λ_ _=>rfl
 have d_ba:=KM l.prog w base G.T KJ 42 "widest_walks" rfl rfl (λF=>Kba T d_az F) λ_ _ _ _ _ _ us hl=>bz2 (us:=us) hl λ_ _=>rfl
 have d_be:=KM l.prog w base G.T KJ 46 "prices_for" rfl rfl (λF=>Kbe T d_ay d_ba F) λ_ _ _ _ _ _ us hl=>bz3 (us:=us) hl λ_ _ _=>rfl
 have d_bg:=KM l.prog w base G.T KJ 48 "paper_for" rfl rfl (λF=>Kbg T d_bf d_be F) λ_ _ _ _ _ _ us hl=>bz3 (us:=us) hl λ_ _ _=>rfl
 have d_bb:=KM l.prog w base G.T KJ 43 "round_within" rfl rfl (λF=>Kbb T  F) λ_ _ _ _ _ _ us hl=>bz1 (us:=us) hl λ_=>rfl
 have d_bc:=KM l.prog w base G.T KJ 44 "way_round" rfl rfl (λF=>Kbc T  F) λ_ _ _ _ _ _ us hl=>bz2 (us:=us) hl λ_ _=>rfl
 have d_bd:=KM l.prog w base G.T KJ 45 "gaining_way" rfl rfl (λF=>Kbd T d_ay d_ba d_bb d_bc F) λ_ _ _ _ _ _ us hl=>bz3 (us:=us) hl λ_ _ _=>rfl
 have d_aj:=KM l.prog w base G.T KJ 19 "all_wishes" rfl rfl (λF=>Kaj T d_ag F) λ_ _ _ _ _ _ us hl=>bz1 (us:=us) hl λ_=>rfl
 have d_aq:=KM l.prog w base G.T KJ 31 "power" rfl rfl (λF=>Kaq T  F) λ_ _ _ _ _ _ us hl=>bz2 (us:=us) hl λ_ _=>rfl
 have d_as:=KM l.prog w base G.T KJ 33 "worth_by_turns" rfl rfl (λF=>Kas T d_aq F) λ_ _ _ _ _ _ us hl=>bz4 (us:=us) hl λ_ _ _ _=>rfl
 have d_ar:=KM l.prog w base G.T KJ 32 "worth_by_order" rfl rfl (λF=>Kar T d_aq F) λ_ _ _ _ _ _ us hl=>bz4 (us:=us) hl λ_ _ _ _=>rfl
 have d_ah:=KM l.prog w base G.T KJ 17 "rank_in" rfl rfl (λF=>Kah T  F) λ_ _ _ _ _ _ us hl=>bz2 (us:=us) hl λ_ _=>rfl
 have d_at:=KM l.prog w base G.T KJ 34 "worth_by_aim" rfl rfl (λF=>Kat T d_aq d_as d_ar d_ah F) λ_ _ _ _ _ _ us hl=>bz5 (us:=us) hl λ_ _ _ _ _=>rfl
 have d_ai:=KM l.prog w base G.T KJ 18 "longest" rfl rfl (λF=>Kai T d_ag F) λ_ _ _ _ _ _ us hl=>bz1 (us:=us) hl λ_=>rfl
 have d_ao:=KM l.prog w base G.T KJ 28 "is_turns" rfl rfl (λF=>Kao T d_ab F) λ_ _ _ _ _ _ us hl=>bz2 (us:=us) hl λ_ _=>rfl
 have d_an:=KM l.prog w base G.T KJ 27 "is_old" rfl rfl (λF=>Kan T d_ab F) λ_ _ _ _ _ _ us hl=>bz3 (us:=us) hl λ_ _ _=>rfl
 have d_al:=KM l.prog w base G.T KJ 24 "is_order" rfl rfl (λF=>Kal T  F) λ_ _ _ _ _ _ us hl=>bz1 (us:=us) hl λ_=>rfl
 have d_am:=KM l.prog w base G.T KJ 25 "look_at_order" rfl rfl (λF=>Kam T d_al F) λ_ _ _ _ _ _ us hl=>bz1 (us:=us) hl λ_=>rfl
 have d_ap:=KM l.prog w base G.T KJ 29 "look_at_aim" rfl rfl (λF=>Kap T d_ao d_an d_am d_ag F) λ_ _ _ _ _ _ us hl=>bz2 (us:=us) hl λ_ _=>rfl
 have d_au:=KM l.prog w base G.T KJ 35 "all_worths" rfl rfl (λF=>Kau T d_aj d_at d_ai d_ap F) λ_ _ _ _ _ _ us hl=>bz2 (us:=us) hl λ_ _=>rfl
 have d_bh:=KM l.prog w base G.T KJ 50 "bettered" rfl rfl (λF=>Kbh T d_bg d_bd d_au F) λ_ _ _ _ _ _ us hl=>bz3 (us:=us) hl λ_ _ _=>rfl
 have d_bj:=KM l.prog w base G.T KJ 53 "_law_numbers" rfl rfl (λF=>Kbj T  F) λ_ _ _ _ _ _ us hl=>bz3 (us:=us) hl λ_ _ _=>rfl
 have d_bp:=KM l.prog w base G.T KJ 59 "_law_dealt" rfl rfl (λF=>Kbp T d_bn d_bj F) λ_ _ _ _ _ _ us hl=>bz3 (us:=us) hl λ_ _ _=>rfl
 have d_bw:=KM l.prog w base G.T KJ 66 "_law_near" rfl rfl (λF=>Kbw T d_bv d_bn d_bj F) λ_ _ _ _ _ _ us hl=>bz4 (us:=us) hl λ_ _ _ _=>rfl
 have d_br:=KM l.prog w base G.T KJ 61 "_law_copy" rfl rfl (λF=>Kbr T  F) λ_ _ _ _ _ _ us hl=>bz1 (us:=us) hl λ_=>rfl
 have d_bu:=KM l.prog w base G.T KJ 64 "_law_wishes_of" rfl rfl (λF=>Kbu T d_bn F) λ_ _ _ _ _ _ us hl=>bz1 (us:=us) hl λ_=>rfl
 have d_bl:=KM l.prog w base G.T KJ 55 "_law_rank" rfl rfl (λF=>Kbl T  F) λ_ _ _ _ _ _ us hl=>bz3 (us:=us) hl λ_ _ _=>rfl
 have d_bm:=KM l.prog w base G.T KJ 56 "_law_longest" rfl rfl (λF=>Kbm T  F) λ_ _ _ _ _ _ us hl=>bz1 (us:=us) hl λ_=>rfl
 have d_bq:=KM l.prog w base G.T KJ 60 "_law_worth" rfl rfl (λF=>Kbq T d_bl d_bm F) λ_ _ _ _ _ _ us hl=>bz4 (us:=us) hl λ_ _ _ _=>rfl
 have d_bx:=KM l.prog w base G.T KJ 67 "_law_worths" rfl rfl (λF=>Kbx T d_bu d_bq F) λ_ _ _ _ _ _ us hl=>bz2 (us:=us) hl λ_ _=>rfl
 have d_bo:=KM l.prog w base G.T KJ 58 "_law_aim" rfl rfl (λF=>Kbo T d_bj F) λ_ _ _ _ _ _ us hl=>bz3 (us:=us) hl λ_ _ _=>rfl
 have d_bk:=KM l.prog w base G.T KJ 54 "_law_wishes" rfl rfl (λF=>Kbk T d_bj d_bi F) λ_ _ _ _ _ _ us hl=>bz5 (us:=us) hl λ_ _ _ _ _=>rfl
 exact λ{_ _} F=>Kcg T d_bi d_cf d_bh d_bp d_bw d_br d_bx d_bo d_bk F
noncomputable abbrev d_cg:DefRec:=⟨"law", Rc Scg,VO Scg,ZO Scg,Fy Scg⟩
theorem walk{YP:World->Heap->Prop}{XP:(Str->Option Um)->Heap->Prop}(hlaw:∀ns:List Int,ns.length<=63->WS [.list (ns.map int)]=some (.bool true)):PySem.W.WalkO q0 [] XP YP (PySem.Challenge.rw_wishdeal_k43_bettered).row.toRowW d_cg [] (λf vs=>PySem.call f vs):=
 BO (n:=63) (k:=13) (x:= "_law_script") rfl (by decide) rfl ⟨rfl,by decide,by decide,rfl⟩ (λ_ _ _ _ _ _ G hm=>Er G hm) hlaw
theorem P3{f:M D}{Z Z1:UJ}{d:D}{t:Bool}(h:f Z=.ok d Z1)(ht:(!isNon d)=t):UZ (λd=>!isNon d) f Z=.ok t Z1:=by subst ht;exact Kv (k:=λd=>!isNon d) h
theorem Gc{sizes found:List Int}{z d:Int}(h:∀(j:Nat) d z,found[j]?=some d->sizes[j]?=some z->0<=d/\d<z)(hz:sizes[found.length]?=some z)(h0:0<=d/\d<z) :
  ∀(j:Nat) d' z',(found++[d])[j]?=some d'->sizes[j]?=some z'->0<=d'/\d'<z':=by
 intro j d' z' e1 e2;by_cases hj:j<found.length
 ·rw[Qv hj]at e1;exact h j d' z' e1 e2
 ·by_cases hj2:j=found.length
  ·subst hj2;rw[hz]at e2;cases e2;rw[Qw (Qs _),Nat.sub_self,List.getElem?_cons_zero]at e1;cases e1;exact h0
  ·rw[Jc (by rw[Ql,Q6];omega)]at e1;cases e1
def inv(c s:Int)(sizes:List Int)(n:Int)(i:Nat)(Z:UJ):Prop:=∃left found x6 x7,Z=[some (Sl.pub (.int c)),some (.pub (.int s)),some (.pub (.list (sizes.map .int))),some (.pub (.int n)),some (.pub (.int left)),some (.own ((found:List Int).map .int)),x6,x7] /\
 found.length=i/\∀(j:Nat) d z,found[j]?=some d->sizes[j]?=some z->0<=d/\d<z
theorem A5{c s n:Int}{sizes:List Int}(hs:∀x∈sizes,0<x/\x<18446744073709551616)(hl:sizes.length<=1000){i:Nat}{d:D}{Z:UJ}{Q:Out->Prop}(hi:(ZU 0 sizes.length)[i]?=some d)(h:inv c s sizes n i Z) :
  ∃Z2,gN 6 d Z=some Z2/\Ho OE Z2 (VW (inv c s sizes n (i+1)) Q):=by
 obtain⟨left,found,x6,x7,rfl,hf,hfd⟩:=h;obtain⟨rfl,hlt⟩:=Wk hi;obtain⟨z,hz⟩:∃z,sizes[i]?=some z:=⟨sizes[i]'(by omega),Qf _⟩
 obtain⟨z1,z2⟩:=hs z (Qn hz);have hix:oIx (.list (sizes.map int)) (.int (0+(i:Int)))=some (.int z):=by rw[JV];exact KW (by rw[Qe,hz];rfl)
 generalize hk:(0:Int)+(i:Int)=k at hix⊢;have hk1:k<18446744073709551616:=by omega
 have hk2 : -18446744073709551616<k:=by omega
 have hlen:(found.map int).length<1000000:=by rw[Qb];omega
 have pw:Xr (.int 10) (.int 18)=some (.int 1000000000000000000):=by rw[MK (by decide)];rfl
 refine⟨_,UW (Qa rfl) rfl,?_⟩;unfold OE;apply Ks
 case h1=>exact N7 (Zu rfl (U2 UT UT pw) rfl) λ_=>Zu rfl UT rfl
 case h2=>intro _;refine Kj (XS rfl (U2 (UN rfl) (Kh rfl (UN rfl) hix) (XF (by omega))) rfl hlen rfl) ?_;refine Zv (KI (U2 (UN rfl) (Kh rfl (UN rfl) hix) (ML (by omega) (by omega))) (Qa rfl) rfl) (K4 ?_);exact⟨_,found++[left % z],_,_,by rw[QC];rfl,by rw[Ql,hf];rfl,Gc hfd (by rw[hf];exact hz) ⟨J5 _ (by omega),JI _ z1⟩⟩
 case h3=>intro _;refine Kj (KI (U2 (U2 (U2 (U2 (UN rfl) (U2 UT (UN rfl) (Rk (by decide) (by decide))) KZ) (U2 (U2 UT (UN rfl) (Rk (by decide) (by decide))) (UN rfl) (XX hk2 hk1)) KZ) (UN rfl) KZ) UT (XF (by decide))) (Qa rfl) rfl) ?_;refine Kj (KI (U2 (U2 (UN rfl) UT (XX (by decide) (by decide))) UT (XF (by decide))) (Qa rfl) rfl) ?_;refine Kj (KI (U2 (U2 (U2 (U2 (UN rfl) (UN rfl) (XX (by omega) (by omega))) UT (XF (by decide))) UT (XX (by decide) (by decide))) UT (XF (by decide))) (Qa rfl) rfl) ?_;refine Zv (XS rfl (U2 (U2 (UN rfl) UT (ML (by decide) (by decide))) (Kh rfl (UN rfl) hix) (XF (by omega))) rfl hlen rfl) (K4 ?_);exact⟨_,found++[_ % z],_,_,by rw[QC];rfl,by rw[Ql,hf];rfl,Gc hfd (by rw[hf];exact hz) ⟨J5 _ (by omega),JI _ z1⟩⟩
theorem R4(c s:Int){sizes:List Int}(hs:∀x∈sizes,0<x/\x<18446744073709551616)(hl:sizes.length<=1000) :
  ∃r,Yc [.int c,.int s,.list (sizes.map int)]=some r/\∃ds:List Int,r=.list (ds.map .int)/\ds.length=sizes.length/\∀(j:Nat) d z,ds[j]?=some d->sizes[j]?=some z->0<=d/\d<z:=by
 refine XR (Z:=[some (.pub (.int c)),some (.pub (.int s)),some (.pub (.list (sizes.map int))),none,none,none,none,none]) rfl ?_;unfold TL;refine Kj (KI (Zc (UR (UN rfl) (UR (U2 (SV UT) (UN rfl) Yy) UV)) MJ) (Qa rfl) rfl) ?_;refine Kj (KI (UN rfl) (Qa rfl) rfl) ?_;refine Kj (Z6 (Wu UV (Qa rfl)) (Qa rfl) rfl) ?_;apply Kq;apply Zw (ds:=ZU 0 sizes.length) (inv c s sizes (if -1-c > c then -1-c else c))
 case h1=>exact XZ (UR (Zh rfl (by rw[K6,Qb])) UV) (XV (by omega) (by omega))
 case h0=>exact⟨_,[],none,none,rfl,rfl,λj d z e=>by cases e⟩
 case hst=>exact λi d Z e h=>A5 hs hl e h
 case hend=>rintro Z ⟨left,found,x6,x7,rfl,hf,hfd⟩;rw[Xf]at hf;exact Kl (Ku (Yj rfl rfl) ⟨_,rfl,found,rfl,by omega,hfd⟩)
mutual
theorem OW:∀(d:PyData),d.canLay0=true->UF d d=true
 |.none,_=>rfl
 |.bool b,_=>by cases b<;>rfl
 |.int i,_=>by simp[UF]
 |.str s,_=>by simp[UF]
 |.list xs,h=>eqvAll_refl xs h
 |.tuple xs,h=>eqvAll_refl xs h
 |.dict _,h=>by cases h
theorem eqvAll_refl:∀(xs:List PyData),UD xs=true->PyData.eqvAll xs xs=true
 |[],_=>rfl
 |x::r,h=>by
  have h:(PyData.canLay0 x&&UD r)=true:=h;rw[Jm]at h
  show(UF x x&&PyData.eqvAll r r)=true
  rw[OW x h.1,eqvAll_refl r h.2];rfl
end
theorem VR:∀{xs:List D},(∀x∈xs,PyData.canLay0 x=true)->UD xs=true
 |[],_=>rfl
 |x::r,h=>by
  show(PyData.canLay0 x&&UD r)=true
  rw[h x Qk,VR λy hy=>h y (Qj _ hy)];rfl
theorem VQ{n:Nat}:∀{xs:List D},(∀x∈xs,UE x<=n)->PyData.depthAll xs<=n
 |[],_=>by simp[PyData.depthAll]
 |x::r,h=>by have h1:=h x Qk;have h2:=VQ (n:=n) λy hy=>h y (Qj _ hy);simp only[PyData.depthAll];omega
noncomputable def Zb(r:List Int):D:=.list (r.map int)
noncomputable def KH(rs:List (List Int)):D:=.list (rs.map Zb)
noncomputable def U7(cs:List Int)(ls:L3):D:=.tuple [.list (cs.map int),.list (ls.map KH)]
structure VP(n:Nat)(rs:List (List Int)):Prop where
 few:rs.length<=5
 some:∀r∈rs,r≠[]
 there:∀r∈rs,∀t∈r,0<=t/\t<n
 once:rs.flatten.Nodup
structure Good(cs:List Int)(ls:L3):Prop where
 c1:1<=cs.length
 c6:cs.length<=6
 c7:∀c∈cs,0<=c/\c<8
 l1:1<=ls.length
 l7:ls.length<=7
 rk:∀rs∈ls,VP cs.length rs
theorem OV(r:List Int):(Zb r).canLay0=true:=VR λx hx=>by obtain⟨y,_,rfl⟩:=Qr.mp hx;rfl
theorem A4(rs:List (List Int)):(KH rs).canLay0=true:=VR λx hx=>by obtain⟨y,_,rfl⟩:=Qr.mp hx;exact OV y
theorem BH(cs:List Int)(ls:L3):(U7 cs ls).canLay0=true:=VR λx hx=>by
 have hx:x=.list (cs.map int)∨x=.list (ls.map KH):=by simpa using hx
 rcases hx with rfl|rfl
 ·exact OV cs
 ·exact VR λx hx=>by obtain⟨y,_,rfl⟩:=Qr.mp hx;exact A4 y
theorem M9(i:Int):(int i).depth<=1:=by simp[UE]
theorem RR{n:Nat}{xs:List D}(h:PyData.depthAll xs<=n):(Uz xs).depth<=n+1:=by simp only[UE];omega
theorem OU(r:List Int):(Zb r).depth<=2:=RR (VQ λx hx=>by obtain⟨y,_,rfl⟩:=Qr.mp hx;exact M9 y)
theorem A3(rs:List (List Int)):(KH rs).depth<=3:=RR (VQ λx hx=>by obtain⟨y,_,rfl⟩:=Qr.mp hx;exact OU y)
theorem BG(cs:List Int)(ls:L3):(U7 cs ls).depth<=60:=by
 have h:PyData.depthAll [.list (cs.map int),.list (ls.map KH)]<=4:=VQ λx hx=>by
  have hx:x=.list (cs.map int)∨x=.list (ls.map KH):=by simpa using hx
  rcases hx with rfl|rfl
  ·have:=OU cs;unfold Zb at this;omega
  ·exact RR (VQ λx hx=>by obtain⟨y,_,rfl⟩:=Qr.mp hx;exact A3 y)
 unfold U7;simp only[UE]at h⊢;omega
theorem A2(i:Int):Vt [.int i]=some (.bool true):=by refine KY (Z:=[some (.pub (.int i))]) rfl ?_;unfold Ss;exact Ku (Ra (Kv (UN rfl)) (λ_=>OG (Kv (UN rfl)))) rfl
theorem PD{i m:Int}(h0:0<=i)(h1:i<m):ZM [.int i,.int m]=some (.bool true):=by
 refine KY (Z:=[some (.pub (.int i)),some (.pub (.int m))]) rfl ?_;unfold Sr;have hb:(decide (0<=i)&&decide (i<m))=true:=by simp[h0,h1]
 refine Ku (Ra (t:=true) (u:=true) (Ki (UR (UN rfl) UV) rfl (A2 i)) (λ_=>?_)) rfl;rw[←hb];exact Kv (O3 UT (UN rfl) rfl (λ_=>UN rfl) (λ_=>rfl))
theorem PQ{α:Type}(l:List α):Yl [.list (l.map λ_=>.bool true)]=some (.bool true):=by
 have:(l.map λ_=>UA true)=(l.map λ_=>true).map UA:=by rw[QY];rfl
 rw[this,MI]
 congr 2
 rw[List.all_map];induction l with
 |nil=>rfl
 |cons x r ih=>simpa using ih
theorem jx{r:List Int}{n:Int}(hne:r≠[])(hl:r.length<=1000)(h:∀t∈r,0<=t/\t<n):Wd [Zb r,.int n]=some (.bool true):=by
 refine KY (Z:=[some (.pub (Zb r)),some (.pub (.int n))]) rfl ?_;unfold So;apply Kq;have hlen:Ka [Zb r]=some (.int r.length):=by unfold Zb;rw[K6,Qb]
 have hp:0<r.length:=List.length_pos_iff.mpr hne;apply Ks
 case h1=>exact ZC (Z1:=[some (.pub (Zb r)),some (.pub (.int n))]) (XB (UN rfl) rfl) (U2 (Zh rfl hlen) UT Xd)
 case h2=>
       intro hh;have:(r.length:Int)=0:=by simpa using hh
       omega
 case h3=>
  intro _;refine Kx (Kl ?_)
  have hc:K2 (gN 2) (UQ true) (UX 2 ZM (UO (UI 2) (UO (UI 1) (UM)))) (r.map int) (Kn [some (.pub (Zb r)),some (.pub (.int n))]++Uy 1 none) []=some (r.map λ_=>.bool true):=by
   rw[Tb (λ_=>true) (λ_=>.bool true) (λZ=>∃x,Z=[some (.pub (Zb r)),some (.pub (.int n)),x])]
   ·rw[Uc.mpr (λ_ _=>rfl),Jk,QY];rfl
   ·rintro d hm Z ⟨x,rfl⟩;obtain⟨t,ht,rfl⟩:=Qr.mp hm;exact⟨_,UW (Qa rfl) rfl,rfl,λ_=>Ki (UR (UN rfl) (UR (UN rfl) UV)) rfl (PD (h t ht).1 (h t ht).2),_,rfl⟩
   ·exact⟨none,rfl⟩
   ·rw[Qb,QB];omega
  exact Ku (Zc (UR (Kv (Z7 (Zp (UN rfl) rfl) hc)) UV) (PQ r)) rfl
theorem Hx{a b c x3:Option Sl}(ha:Xi a=a)(hb:Xi b=b)(hc:Xi c=c)(hx:Xi x3=x3):∀(ds es:List D)(x4:Option Sl),es.length+ds.length<=1000000 ->
  ∃y,YO (gN 4) (UQ true) (UI 4) ds [a,b,c,x3,x4] es=some (es++ds,[a,b,c,x3,y])
 |[],es,x4,_=>⟨x4,by rw[YO,Q7]⟩
 |d::r,es,x4,h=>by
  rw[QO]at h;obtain⟨y,e⟩:=Hx ha hb hc hx r (es++[d]) (some (.pub d)) (by rw[Ql,Q6];omega);refine⟨y,?_⟩;rw[YO];have h1:gN 4 d [a,b,c,x3,x4]=some [a,b,c,x3,some (.pub d)]:=UW (Qa rfl) rfl;rw[h1];dsimp only[UQ];rw[Qp rfl];have h2:UI 4 [a,b,c,x3,some (.pub d)]=.ok d [a,b,c,x3,some (.pub d)]:=UN rfl;rw[h2];dsimp only;rw[Qp (by omega)];have h3:Kn [a,b,c,x3,some (.pub d)]=[a,b,c,x3,some (.pub d)]:=by unfold Kn;simp only[Qx,Uh,ha,hb,hc,hx];rfl
  rw[h3,e,Ja];rfl
theorem Gv{a b:D}:∀(rs:List (List Int))(es:List D)(x3 x4:Option Sl),es.length+rs.flatten.length<=1000000 ->
  XT (gN 3) (UQ true) (KU (UI 3)) (gN 4) (UQ true) (UI 4) (rs.map Zb) [some (.pub a),some (.pub b),none,x3,x4] es=some (es++rs.flatten.map int)
 |[],es,_,_,_=>by rw[List.map_nil,XT];simp
 |r::rs,es,x3,x4,h=>by rw[QL,Ql]at h;rw[Qx,XT];have h1:gN 3 (Zb r) [some (.pub a),some (.pub b),none,x3,x4]=some [some (.pub a),some (.pub b),none,some (.pub (Zb r)),x4]:=UW (Qa rfl) rfl;rw[h1];dsimp only[UQ];rw[Qp rfl];have h2:KU (UI 3) [some (.pub a),some (.pub b),none,some (.pub (Zb r)),x4]=.ok (r.map int) [some (.pub a),some (.pub b),none,some (.pub (Zb r)),x4]:=Zp (UN rfl) rfl;rw[h2];dsimp only;have h3:Kn [some (.pub a),some (.pub b),none,some (.pub (Zb r)),x4]=[some (.pub a),some (.pub b),none,some (.pub (Zb r)),Xi x4]:=rfl;rw[h3];obtain⟨y,e⟩:=Hx (a:=some (.pub a)) (b:=some (.pub b)) (c:=none) (x3:=some (.pub (Zb r))) rfl rfl rfl rfl (r.map int) es (Xi x4) (by rw[Qb];omega);rw[e];dsimp only;have ih:=Gv (a:=a) (b:=b) rs (es++r.map int) (some (.pub (Zb r))) y (by rw[Ql,Qb];omega);refine Eq.trans ih ?_;rw[QL,QC,Ja]
theorem Ga{ns:List Int}(h:ns.Nodup):VZ ns=ns.length:=by
 unfold VZ
 have:∀i,i<=ns.length->(PyProof.Rows.firstMet (λi=>ns.getD i 0) i).length=i:=by
  intro i;induction i with
  |zero=>intro _;rfl
  |succ i ih=>
   intro hi;rw[PyProof.Rows.firstMet_succ]
   have hany:(PyProof.Rows.firstMet (λi=>ns.getD i 0) i).any (· == ns.getD i 0)=false:=by
    rw[PyProof.Rows.firstMet_any,List.any_eq_false];intro x hx;obtain⟨j,hj,rfl⟩:=Qr.mp hx;have hj:=Q8.mp hj;intro e;have e:ns.getD j 0=ns.getD i 0:=by simpa using e
    have l1:j<ns.length:=by omega
    have l2:i<ns.length:=by omega
    simp only[List.getD,Qf l1,Qf l2,JX]at e;exact absurd ((List.getElem_inj h).mp e) (by omega)
   unfold PyProof.Rows.step_dedup;rw[hany];rw[Qz (by decide),Ql,ih (by omega)];rfl
 exact this ns.length (Qs _)
theorem jZ{rs:List (List Int)}{n:Nat}(g:VP n rs)(hn:n<=6)(hf:rs.flatten.length<=1000):Vr [KH rs,.int n]=some (.bool true):=by
 refine KY (Z:=[some (.pub (KH rs)),some (.pub (.int n)),none]) rfl ?_;unfold Sn;have hlen:Ka [KH rs]=some (.int rs.length):=by unfold KH;rw[K6,Qb]
 have h5:=g.few;have hrl:∀r∈rs,r.length<=1000:=λr hr=>QM (List.Sublist.length_le (List.sublist_flatten_of_mem hr)) hf;apply Kq;apply Ks
 case h1=>exact ZC (Z1:=[some (.pub (KH rs)),some (.pub (.int n)),none]) (XB (UN rfl) rfl) (U2 (Zh rfl hlen) UT rfl)
 case h2=>
       intro hh;have:(5:Int)<(rs.length:Int):=by simpa using hh
       omega
 case h3=>
  intro _;refine Kx (Kl ?_)
  have hc:K2 (gN 3) (UQ true) (UX 2 Wd (UO (UI 3) (UO (UI 1) (UM)))) (rs.map Zb) (Kn [some (.pub (KH rs)),some (.pub (.int n)),none]++Uy 1 none) []=some (rs.map λ_=>.bool true):=by
   rw[Tb (λ_=>true) (λ_=>.bool true) (λZ=>∃x,Z=[some (.pub (KH rs)),some (.pub (.int n)),none,x])]
   ·rw[Uc.mpr (λ_ _=>rfl),Jk,QY];rfl
   ·rintro d hm Z ⟨x,rfl⟩;obtain⟨r,hr,rfl⟩:=Qr.mp hm;exact⟨_,UW (Qa rfl) rfl,rfl,λ_=>Ki (UR (UN rfl) (UR (UN rfl) UV)) rfl (jx (g.some r hr) (hrl r hr) (g.there r hr)),_,rfl⟩
   ·exact⟨none,rfl⟩
   ·rw[Qb,QB];omega
  apply Kq;apply Ks
  case h1=>exact ZN (ZY (Zc (UR (Kv (Z7 (Zp (UN rfl) rfl) hc)) UV) (PQ rs)))
  case h2=>intro hh;cases hh
  case h3=>
   intro _;refine Kx (Kl ?_);have h2:RE (KU (UI 0)) 2 (gN 3) (UQ true) (KU (UI 3)) (gN 4) (UQ true) (UI 4) [some (.pub (KH rs)),some (.pub (.int n)),none]=.ok (rs.flatten.map int) [some (.pub (KH rs)),some (.pub (.int n)),none]:=by unfold RE;have e1:KU (UI 0) [some (.pub (KH rs)),some (.pub (.int n)),none]=.ok (rs.map Zb) [some (.pub (KH rs)),some (.pub (.int n)),none]:=Zp (UN rfl) rfl;rw[e1];dsimp only;have e2:=Gv (a:=KH rs) (b:=.int n) rs [] none none (by rw[QB];omega);have e3:XT (gN 3) (UQ true) (KU (UI 3)) (gN 4) (UQ true) (UI 4) (rs.map Zb) (Kn [some (.pub (KH rs)),some (.pub (.int n)),none]++Uy 2 none) []=some ([]++rs.flatten.map int):=e2;rw[e3];rfl
   refine Kj (Z6 h2 (Qa rfl) rfl) ?_;have hls:Wv [.list (rs.flatten.map int)]=some (.int rs.flatten.length):=by unfold Wv;dsimp only;rw[V8];dsimp only;rw[Qp (by omega),Ga g.once]
   refine Ku (Kv (U2 (Zc (UR (Yj rfl rfl) UV) hls) (Zh rfl K6) Xd)) ?_;rw[Qb];simp
theorem YV{d:D}:∀{xs:List D}{k i:Nat},(Ye k xs)[i]?=some d->∃x,xs[i]?=some x/\d=.tuple [.int ((k+i:Nat):Int),x]
 |[],k,i,h=>by cases h
 |x::r,k,0,h=>by cases h;exact⟨x,rfl,rfl⟩
 |x::r,k,i+1,h=>by obtain⟨y,e,q⟩:=YV (xs:=r) (k:=k+1) (i:=i) h;exact⟨y,e,by rw[q];congr 4;omega⟩
theorem WB:∀(n:Nat)(l:List Int),l.Nodup->(∀x∈l,0<=x/\x<n)->l.length<=n
 |0,[],_,_=>Qs _
 |0,x::r,_,h=>by have:=h x Qk;omega
 |n+1,l,hn,h=>by
  by_cases hm:(n:Int)∈l
  ·have:=WB n (l.erase (n:Int)) (hn.erase _) λx hx=>by
    have h1:=(List.Nodup.mem_erase_iff hn).mp hx;have h2:=h x h1.2;have h3:=h1.1;omega
   rw[List.length_erase_of_mem hm]at this;omega
  ·have:=WB n l hn λx hx=>by
    have h2:=h x hx;have h3:x≠(n:Int):=λe=>hm (e ▸ hx);omega
   omega
theorem Rn{n:Nat}{rs:List (List Int)}(g:VP n rs):rs.flatten.length<=n:=WB n _ g.once λx hx=>by obtain⟨r,hr,hxr⟩:=Ub.mp hx;exact g.there r hr x hxr
theorem A1{cs:List Int}(h1:1<=cs.length)(h6:cs.length<=6)(h:∀c∈cs,0<=c/\c<8):Vs [.list (cs.map int)]=some .none:=by
 refine RL (Z:=[some (.pub (.list (cs.map int))),none,none]) rfl ?_;unfold Sq;have hlen:Ka [.list (cs.map int)]=some (.int cs.length):=by rw[K6,Qb]
 apply Kq;apply Ks
 case h1=>exact ZC (Z1:=[some (.pub (.list (cs.map int))),none,none]) (XB (UN rfl) rfl) (ZN (O3 UT (Zh rfl hlen) rfl (λ_=>UT) (λ_=>rfl)))
 case h2=>
  intro hh;have a1:(1:Int)<=(cs.length:Int):=by omega
  have a2:(cs.length:Int)<=6:=by omega
  simp[a1,a2]at hh
 case h3=>
  intro _;refine Kx (Kl ?_);apply Zw (λ_ Z=>∃x1 x2,Z=[some (.pub (.list (cs.map int))),x1,x2])
  case h1=>exact Xe (UR (UN rfl) UV) Xn
  case h0=>exact⟨_,_,rfl⟩
  case hst=>
   rintro i d Z hi ⟨x1,x2,rfl⟩;obtain⟨x,hx,rfl⟩:=YV hi;obtain⟨c,hc,rfl⟩:=Qr.mp (Qn hx);refine⟨_,KB rfl (U4 (UW (Qa rfl) rfl) (U4 (UW (Qa rfl) rfl) KD)),?_⟩;unfold MZ;apply Ks
   case h1=>exact ZN (ZY (Ki (UR (UN rfl) (UR (U2 UT UT KZ) UV)) rfl (PD (h c hc).1 (by have:=(h c hc).2;omega))))
   case h2=>intro hh;cases hh
   case h3=>exact λ_=>Kx (K4 ⟨_,_,rfl⟩)
  case hend=>exact λZ ⟨x1,x2,e⟩=>⟨_,rfl⟩
theorem BF{ls:L3}{n:Nat}(hn:n<=6)(h1:1<=ls.length)(h7:ls.length<=7)(h:∀rs∈ls,VP n rs):Vq [.list (ls.map KH),.int n]=some .none:=by
 refine RL (Z:=[some (.pub (.list (ls.map KH))),some (.pub (.int n)),none,none]) rfl ?_;unfold Sm;have hlen:Ka [.list (ls.map KH)]=some (.int ls.length):=by rw[K6,Qb]
 apply Kq;apply Ks
 case h1=>exact ZC (Z1:=[some (.pub (.list (ls.map KH))),some (.pub (.int n)),none,none]) (XB (UN rfl) rfl) (ZN (O3 UT (Zh rfl hlen) rfl (λ_=>UT) (λ_=>rfl)))
 case h2=>
  intro hh;have a1:(1:Int)<=(ls.length:Int):=by omega
  have a2:(ls.length:Int)<=7:=by omega
  simp[a1,a2]at hh
 case h3=>
  intro _;refine Kx (Kl ?_);apply Zw (λ_ Z=>∃x2 x3,Z=[some (.pub (.list (ls.map KH))),some (.pub (.int n)),x2,x3])
  case h1=>exact Xe (UR (UN rfl) UV) Xn
  case h0=>exact⟨_,_,rfl⟩
  case hst=>
   rintro i d Z hi ⟨x1,x2,rfl⟩;obtain⟨x,hx,rfl⟩:=YV hi;obtain⟨rs,hrs,rfl⟩:=Qr.mp (Qn hx);refine⟨_,KB rfl (U4 (UW (Qa rfl) rfl) (U4 (UW (Qa rfl) rfl) KD)),?_⟩;unfold M0;have hfl:=Rn (h rs hrs);apply Ks
   case h1=>exact ZN (ZY (Ki (UR (UN rfl) (UR (UN rfl) UV)) rfl (jZ (h rs hrs) hn (by omega))))
   case h2=>intro hh;cases hh
   case h3=>exact λ_=>Kx (K4 ⟨_,_,rfl⟩)
  case hend=>exact λZ ⟨x1,x2,e⟩=>⟨_,rfl⟩
theorem PP{cs:List Int}{ls:L3}(g:Good cs ls):Yo [U7 cs ls]=some .none:=by
 refine RL (Z:=[some (.pub (U7 cs ls)),none,none]) rfl ?_;unfold Sk;apply Kq;apply Ks
 case h1=>exact ZC (Z1:=[some (.pub (U7 cs ls)),none,none]) (XB (UN rfl) rfl) (U2 (Zh rfl rfl) UT XY)
 case h2=>intro hh;cases hh
 case h3=>
  intro _;refine Kx (Kl ?_);have hlen:Ka [.list (cs.map int)]=some (.int (cs.length:Nat)):=by rw[K6,Qb]
  refine Kj (VD (UN rfl) (KB rfl (U4 (UW (Qa rfl) rfl) (U4 (UW (Qa rfl) rfl) KD)))) ?_;refine Kj (VJ (Ki (UR (UN rfl) UV) rfl (A1 g.c1 g.c6 g.c7))) ?_;exact Zv (VJ (Ki (UR (UN rfl) (UR (Zh rfl hlen) UV)) rfl (BF g.c6 g.l1 g.l7 g.rk))) ⟨_,rfl⟩
theorem LX:∀(xs ys:List Int),PyData.eqvAll (xs.map int) (ys.map int)=decide (xs=ys)
 |[],[]=>rfl
 |[],y::ys=>by simp[PyData.eqvAll]
 |x::xs,[]=>by simp[PyData.eqvAll]
 |x::xs,y::ys=>by
  have ih:=LX xs ys
  show(UF (.int x) (.int y)&&PyData.eqvAll (xs.map int) (ys.map int))=_
  rw[ih];have:UF (.int x) (.int y)=decide (x=y):=rfl;rw[this,Bool.eq_iff_iff];simp
theorem Ae{xs:List Int}:oNe (.list (xs.map int)) (.list [])=some (!decide (xs=[])):=by
 unfold oNe;have h1:(Uz (xs.map int)).canLay0=true:=OV xs;have h3:(Uz (xs.map int)).depth<=60:=by have:=OU xs;unfold Zb at this;omega
 rw[Qp ⟨h1,rfl,h3⟩]
 congr 2
 exact LX xs []
theorem OA{xs:List D}{x:D}(h:xs.getLast?=some x):oIx (.list xs) (.int (-1))=some x:=by
 unfold oIx atI;have hl:xs≠[]:=by rintro rfl;cases h
 have hp:0<xs.length:=List.length_pos_iff.mpr hl;rw[JM]at h
 show(ixN xs.length (-1)).bind _=_
 unfold ixN;rw[Qz (by decide),Qp (by omega)];have e2:(-1+(xs.length:Int)).toNat=xs.length-1:=by omega
 simp only[Option.bind_some];rw[e2];exact h
theorem Pq{xs:List Int}{k:Nat}(h:k<xs.length):oIx (.list (xs.map int)) (.int k)=some (.int (xs.getD k 0)):=by refine KW ?_;rw[Qe,Qf h];simp[List.getD,List.getElem?_eq_getElem h]
theorem R3(ns:List Int)(k:Nat)(hl:ns.length<=1000):∃v,YE [.list (ns.map int),.int k]=some (.int v):=by
 have hlen:Ka [.list (ns.map int)]=some (.int ns.length):=by rw[K6,Qb]
 by_cases h:k<ns.length
 ·refine⟨ns.getD k 0,KY (Z:=[some (.pub (.list (ns.map int))),some (.pub (.int k))]) rfl ?_⟩;unfold WL;apply Kq;apply Ks
  case h1=>exact Zu rfl (Zh rfl hlen) rfl
  case h2=>exact λ_=>Ku (Kh rfl (UN rfl) (Pq h)) (XE rfl)
  case h3=>
        intro hh;have:¬(k:Int)<(ns.length:Int):=by simpa using hh
        omega
 ·refine⟨0,KY (Z:=[some (.pub (.list (ns.map int))),some (.pub (.int k))]) rfl ?_⟩;unfold WL;apply Kq;apply Ks
  case h1=>exact Zu rfl (Zh rfl hlen) rfl
  case h2=>
        intro hh;have:(k:Int)<(ns.length:Int):=by simpa using hh
        omega
  case h3=>exact λ_=>Kx (Kl (Ku UT rfl))
noncomputable def sz6:List Int:=6::7::Uy 6 11
noncomputable def szP:List Int:=Uy 6 6++[2]
theorem Ep:∀x∈sz6,0<x/\x<18446744073709551616:=by decide
theorem Eo:∀x∈szP,0<x/\x<18446744073709551616:=by decide
noncomputable def tab:List Int:=[1,1,2,0,3,7,1,4,5,6,1]
theorem N0{z:Int}(h0:0<=z)(h1:z<11):oIx (.list (tab.map int)) (.int z)=some (.int (tab.getD z.toNat 0))/\0<=tab.getD z.toNat 0/\tab.getD z.toNat 0<8:=by
 have e:z=0∨z=1∨z=2∨z=3∨z=4∨z=5∨z=6∨z=7∨z=8∨z=9∨z=10:=by omega
 rcases e with rfl|rfl|rfl|rfl|rfl|rfl|rfl|rfl|rfl|rfl|rfl<;>exact⟨rfl,by decide,by decide⟩
structure Wt(n:Nat)(pl:List Int)(j:Nat)(rs:List (List Int)):Prop where
 few:rs.length<=j
 some:∀r∈rs,r≠[]
 there:∀r∈rs,∀t∈r,(0<=t/\t<n)/\pl.getD t.toNat 0<1+(j:Int)
 once:rs.flatten.Nodup
noncomputable def Vy(n:Nat)(pl:List Int)(r:Int):List Int:=((Ux n).filter λk=>decide (pl.getD k 0=r)).map λk:Nat=>(k:Int)
theorem jY(n:Nat)(pl:List Int)(r:Int):(Vy n pl r).Nodup:=by unfold Vy;refine List.Pairwise.map _ (λa b h e=>h (by omega)) ((List.nodup_range).filter _)
theorem Hw{n:Nat}{pl:List Int}{r t:Int}(h:t∈Vy n pl r):(0<=t/\t<n)/\pl.getD t.toNat 0=r:=by
 unfold Vy at h;obtain⟨k,hk,rfl⟩:=Qr.mp h;have hk:=List.mem_filter.mp hk;have h1:=Q8.mp hk.1;have h2:pl.getD k 0=r:=by simpa using hk.2
 exact⟨⟨by omega,by omega⟩,by rw[Qt];exact h2⟩
theorem Wt.add{n:Nat}{pl:List Int}{j:Nat}{rs:List (List Int)}{row:List Int}(g:Wt n pl j rs)(hne:row≠[])(hm:∀t∈row,t∈Vy n pl (1+(j:Int)))(hn:row.Nodup):Wt n pl (j+1) (rs++[row]) where
 few:=by rw[Ql,Q6];have:=g.few;omega
 some:=λr hr=>by
  rcases QR.mp hr with z|z
  ·exact g.some r z
  ·rw[QW.mp z];exact hne
 there:=λr hr t ht=>by
  rcases QR.mp hr with z|z
  ·have:=g.there r z t ht;exact⟨this.1,by omega⟩
  ·rw[QW.mp z]at ht;have:=Hw (hm t ht);exact⟨this.1,by omega⟩
 once:=by rw[List.flatten_append,List.flatten_singleton];refine List.nodup_append.mpr ⟨g.once,hn,λa ha b hb e=>?_⟩;subst e;obtain⟨r,hr,har⟩:=Ub.mp ha;have h1:=(g.there r hr a har).2;have h2:=(Hw (hm a hb)).2;omega
theorem Wt.next{n:Nat}{pl:List Int}{j:Nat}{rs:List (List Int)}(g:Wt n pl j rs):Wt n pl (j+1) rs:=
 ⟨by have:=g.few;omega,g.some,λr hr t ht=>⟨(g.there r hr t ht).1,by have:=(g.there r hr t ht).2;omega⟩,g.once⟩
theorem Wt.good{n:Nat}{pl:List Int}{rs:List (List Int)}(g:Wt n pl 5 rs):VP n rs:=⟨g.few,g.some,λr hr t ht=>(g.there r hr t ht).1,g.once⟩
def Th(S dz sz:D)(at_ n:Nat)(cs pl:List Int)(ls:L3)(x9 x10:Option Sl)(j:Nat)(Z:UJ):Prop:=∃(rs:List (List Int))(x13 x14:Option Sl),
 Z=[some (.pub S),some (.pub (.int at_)),some (.pub (.int 6)),some (.pub (.int 7)),some (.pub (.int 5)),some (.pub sz),some (.pub dz),some (.own (cs.map int)),some (.own (ls.map KH)),x9,x10,some (.pub (.list (pl.map int))),some (.own (rs.map Zb)),x13,x14]/\Wt n pl j rs
theorem Ad{S dz sz:D}{at_ n:Nat}{cs pl:List Int}{ls:L3}{v9 v10:D}{j:Nat}{d:D}{Z:UJ}{Q:Out->Prop}(hcs:cs.length=n)(hn:n<=6)(hpl:pl.length=7)(hlast:pl.getD 6 0=0∨pl.getD 6 0=1)
  (hj:(ZU 1 (5+1))[j]?=some d) (h:Th S dz sz at_ n cs pl ls (some (.pub v9)) (some (.pub v10)) j Z) :
  ∃Z2,gN 13 d Z=some Z2/\Ho OC Z2 (VW (Th S dz sz at_ n cs pl ls (some (.pub v9)) (some (.pub v10)) (j+1)) Q):=by
 obtain⟨rs,x13,x14,rfl,g⟩:=h;obtain⟨rfl,hlt⟩:=Wk hj;have hj5:j<5:=by omega
 refine⟨_,UW (Qa rfl) rfl,?_⟩;unfold OC
 have hrd:ZU 0 ((n:Nat):Int)=(Ux n).map λk=>.int (k:Int):=by
  unfold ZU;have:((n:Int)-0).toNat=n:=by omega
  rw[this];apply List.map_congr_left;intro k _;rw[JV]
 have hc:K2 (gN 15) (UP oEq (UU 11 (UI 15)) (UI 13)) (UI 15) (ZU 0 ((n:Nat):Int)) (Kn [some (.pub S),some (.pub (.int at_)),some (.pub (.int 6)),some (.pub (.int 7)),some (.pub (.int 5)),some (.pub sz),some (.pub dz),some (.own (cs.map int)),some (.own (ls.map KH)),some (.pub v9),some (.pub v10),some (.pub (.list (pl.map int))),some (.own (rs.map Zb)),some (.pub (.int (1+(j:Int)))),x14]++Uy 1 none) []=some ((Vy n pl (1+(j:Int))).map int):=by
  rw[hrd,Tb (λd=>match d with | .int k=>decide (pl.getD k.toNat 0=1+(j:Int))|_=>false) (λd=>d) (λZ=>∃x,Z=[some (.pub S),some (.pub (.int at_)),some (.pub (.int 6)),some (.pub (.int 7)),some (.pub (.int 5)),some (.pub sz),some (.pub dz),none,none,some (.pub v9),some (.pub v10),some (.pub (.list (pl.map int))),none,some (.pub (.int (1+(j:Int)))),Xi x14,x])]
  ·rw[Jk,List.map_id',List.filter_map];unfold Vy;rw[QY];rfl
  ·rintro d hm Z ⟨x,rfl⟩;obtain⟨k,hk,rfl⟩:=Qr.mp hm;have hk:=Q8.mp hk;refine⟨_,UW (Qa rfl) rfl,U2 (Kh rfl (UN rfl) (Pq (by omega))) (UN rfl) Xd,λ_=>UN rfl,some (.pub (.int k)),?_⟩;unfold Kn;cases x14 with
   |none=>rfl
   |some sl=>cases sl<;>rfl
  ·exact⟨none,rfl⟩
  ·rw[Qb,Qu,QB];omega
 have hlen:(cs.map int).length=n:=by rw[Qb,hcs]
 refine Kj (Z6 (Z7 (XZ (UR (Ch rfl) UV) (by rw[hlen];exact XV (by omega) (by omega))) hc) (Qa rfl) rfl) ?_;generalize hrow:Vy n pl (1+(j:Int))=row;apply Ks
 case h1=>exact Bd rfl (ZE UV (by decide)) rfl Ae
 case h2=>
  intro hh;have hne:row≠[]:=by simpa using hh
  have hlx:oIx (.list (pl.map int)) (.int (-1))=some (.int (pl.getD 6 0)):=OA (by rw[JM,Qb,hpl,Qe,Qf (show 7-1<pl.length by omega)];simp[List.getD,List.getElem?_eq_getElem (show 6<pl.length by omega)])
  obtain⟨row',hix,hrow'⟩:∃row':List Int,oIx (.list [.list (row.map int),.list (row.map int).reverse]) (.int (pl.getD 6 0))=some (Zb row')/\(row'=row∨row'=row.reverse):=by
   rcases hlast with e|e
   ·rw[e];exact⟨row,rfl,.inl rfl⟩
   ·rw[e];exact⟨row.reverse,by show some (Uz (row.map int).reverse)=_;unfold Zb;rw[List.map_reverse],.inr rfl⟩
  have hrl:(rs.map Zb).length<1000000:=by rw[Qb];have:=g.few;omega
  refine Zv (XS rfl (U2 (ZE (UR (Yj rfl rfl) (UR (FS (UN rfl) UT UT (Y0 (SV UT))) UV)) (Qa rfl)) (Kh rfl (SV UT) hlx) hix) rfl hrl rfl) ?_;refine K4 ⟨rs++[row'],some (.pub (.int (1+(j:Int)))),some (.pub (.list (row.map int))),by rw[QC];rfl,g.add ?_ ?_ ?_⟩
  ·rcases hrow' with e|e<;>rw[e]
   ·exact hne
   ·exact λz=>hne (List.reverse_eq_nil_iff.mp z)
  ·intro t ht;rw[hrow];rcases hrow' with e|e<;>rw[e]at ht
   ·exact ht
   ·exact List.mem_reverse.mp ht
  ·have hnd:=jY n pl (1+(j:Int));rw[hrow]at hnd;rcases hrow' with e|e<;>rw[e]
   ·exact hnd
   ·exact(List.reverse_perm row).nodup_iff.mpr hnd
 case h3=>exact λ_=>Kx (K4 ⟨rs,_,_,rfl,g.next⟩)
def Tj(S dz sz:D)(at_ n:Nat)(cs:List Int)(i:Nat)(Z:UJ):Prop:=∃(ls:L3)(x9 x10 x11 x12 x13 x14:Option Sl),
 Z=[some (.pub S),some (.pub (.int at_)),some (.pub (.int 6)),some (.pub (.int 7)),some (.pub (.int 5)),some (.pub sz),some (.pub dz),some (.own (cs.map int)),some (.own (ls.map KH)),x9,x10,x11,x12,x13,x14]/\ls.length=i/\∀rs∈ls,VP n rs
theorem jw{ns:List Int}{dz sz:D}{at_ n:Nat}{cs:List Int}{i:Nat}{m:Int}{d:D}{Z:UJ}{Q:Out->Prop}(hns:ns.length<=1000)(hcs:cs.length=n)(hn:n<=6)(hm:m<=100)
  (hi:(ZU 0 m)[i]?=some d) (h:Tj (.list (ns.map int)) dz sz at_ n cs i Z) :
  ∃Z2,gN 9 d Z=some Z2/\Ho OB Z2 (VW (Tj (.list (ns.map int)) dz sz at_ n cs (i+1)) Q):=by
 obtain⟨ls,x9,x10,x11,x12,x13,x14,rfl,hl,hg⟩:=h;obtain⟨rfl,hlt⟩:=Wk hi;refine⟨_,UW (Qa rfl) rfl,?_⟩;unfold OB;obtain⟨v,hv⟩:=R3 ns (at_+1+i) hns;have ev:((at_:Int)+1+(0+(i:Int)))=((at_+1+i:Nat):Int):=by omega
 rw[←ev]at hv;refine Kj (KI (Ki (UR (UN rfl) (UR (U2 (U2 (UN rfl) UT KZ) (UN rfl) KZ) UV)) rfl hv) (Qa rfl) rfl) ?_;obtain⟨r,hF,pl,rfl,hpl,hpb⟩:=R4 v (11*(at_:Int)+3*(0+(i:Int))+1) (sizes:=szP) Eo (by decide);have hpl7:pl.length=7:=hpl;have hmul:Ko (.list [.int (5+1)]) (.int 6)=some (.list ((Uy 6 6).map int)):=RX (by decide);have hadd:U3 (.list ((Uy 6 6).map int)) (.list [.int 2])=some (.list (szP.map int)):=Xo (by decide);refine Kj (KI (Ki (UR (UN rfl) (UR (U2 (U2 (U2 UT (UN rfl) (Rk (by decide) (by decide))) (U2 UT (UN rfl) (Rk (by decide) (by decide))) KZ) UT KZ) (UR (U2 (U2 (ZE (UR (U2 (UN rfl) UT KZ) UV) (Qa rfl)) (UN rfl) hmul) (ZE (UR UT UV) (Qa rfl)) hadd) UV))) rfl hF) (Qa rfl) rfl) ?_;refine Kj (Z6 (Wu UV (Qa rfl)) (Qa rfl) rfl) ?_
 have hlast:pl.getD 6 0=0∨pl.getD 6 0=1:=by
  have e:pl[6]?=some pl[6]:=Qf (by omega);have:=hpb 6 pl[6] 2 e rfl;have e2:pl.getD 6 0=pl[6]:=by simp[List.getD,e]
  rw[e2];omega
 apply Kq;apply Zw (Th (.list (ns.map int)) dz sz at_ n cs pl ls (some (.pub (.int (0+(i:Int))))) (some (.pub (.int v))))
 case h1=>exact Cg (UR UT (UR (U2 (UN rfl) UT KZ) UV)) (Be (by decide) (by decide) (by decide) (by decide))
 case h0=>exact⟨[],x13,x14,rfl,⟨Qs _,λ_ h=>(by cases h),λ_ h=>(by cases h),List.nodup_nil⟩⟩
 case hst=>exact λj d Z e h=>Ad hcs hn hpl7 hlast e h
 case hend=>
  rintro Z ⟨rs,y13,y14,rfl,g⟩;refine Kl ?_;have hl5:(ZU 1 (5+1)).length=5:=rfl;rw[hl5]at g;have hll:(ls.map KH).length<1000000:=by rw[Qb];omega
  refine Zv (XS rfl (Yj rfl rfl) rfl hll rfl) ?_;refine K4 ⟨ls++[rs],some (.pub (.int (0+(i:Int)))),some (.pub (.int v)),some (.pub (.list (pl.map int))),some (.pub (.list (rs.map Zb))),y13,y14,by rw[QC];rfl,by rw[Ql,hl];rfl,λx hx=>?_⟩;rcases QR.mp hx with z|z
  ·exact hg x z
  ·rw[QW.mp z];exact g.good
theorem kt{ns:List Int}(hns:ns.length<=1000)(at_:Nat):∃r,W5 [.list (ns.map int),.int at_,.int 6,.int 7,.int 5]=some r/\∃cs ls,r=U7 cs ls/\Good cs ls:=by
 obtain⟨v,hv⟩:=R3 ns at_ hns;obtain⟨r,hF,ds,rfl,hl,hd⟩:=R4 v at_ (sizes:=sz6) Ep (by decide);have hl8:ds.length=8:=hl
 have at':∀(j:Nat)(k z:Int),k=j->sz6[j]?=some z->∃d,oIx (.list (ds.map int)) (.int k)=some (.int d)/\ds[j]?=some d/\0<=d/\d<z:=λj k z hk hz=>by
  subst hk;have hj:j<ds.length:=by rw[hl];exact(Qg.mp hz).1
  have e:ds[j]?=some ds[j]:=Qf hj;obtain⟨p0,p1⟩:=hd j ds[j] z e hz;exact⟨ds[j],KW (by rw[Qe,e];rfl),e,p0,p1⟩
 obtain⟨d0,x0,e0,p0,q0⟩:=at' 0 0 6 rfl rfl;obtain⟨d1,x1,e1,p1,q1⟩:=at' 1 1 7 rfl rfl;have hmul:Ko (.list [.int 11]) (.int 6)=some (.list ((Uy 6 11).map int)):=RX (by decide);have hadd:U3 (.list [.int 6,.int 7]) (.list ((Uy 6 11).map int))=some (.list (sz6.map int)):=Xo (by decide);obtain⟨n,hn⟩:∃n:Nat,1+d0=n:=⟨(1+d0).toNat,by omega⟩
 refine XR (Z:=[some (.pub (.list (ns.map int))),some (.pub (.int at_)),some (.pub (.int 6)),some (.pub (.int 7)),some (.pub (.int 5)),none,none,none,none,none,none,none,none,none,none]) rfl ?_;unfold TK;refine Kj (KI (U2 (ZE (UR (UN rfl) (UR (UN rfl) UV)) (Qa rfl)) (U2 (ZE (UR UT UV) (Qa rfl)) (UN rfl) hmul) hadd) (Qa rfl) rfl) ?_;refine Kj (KI (Ki (UR (Ki (UR (UN rfl) (UR (UN rfl) UV)) rfl hv) (UR (UN rfl) (UR (UN rfl) UV))) rfl hF) (Qa rfl) rfl) ?_
 have hcut:DL.cutD (ds.map int) (some 2) (some (3+d0))=((ds.drop 2).take n).map int:=by
  rw[O2 (by decide) (by omega) (by omega)];have:(3+d0).toNat-(2:Int).toNat=n:=by omega
  rw[this];rfl
 have hrowl:((ds.drop 2).take n).length=n:=by rw[QN,Jl,hl8];omega
 have each:∀z∈(ds.drop 2).take n,0<=z/\z<11:=λz hz=>by
  have hz:=J8 hz;obtain⟨k,hk,e⟩:=List.getElem_of_mem hz;rw[Jl,hl8]at hk;rw[List.getElem_drop]at e;have e2:ds[2+k]?=some z:=by rw[←e];exact Qf _
  refine hd (2+k) z 11 e2 ?_;have:k=0∨k=1∨k=2∨k=3∨k=4∨k=5:=by omega
  rcases this with rfl|rfl|rfl|rfl|rfl|rfl<;>rfl
 let cs:List Int:=((ds.drop 2).take n).map λz=>tab.getD z.toNat 0
 have hcl:cs.length=n:=by show(List.map _ _).length=n;rw[Qb,hrowl]
 have hc:∀xs:List (Option Sl),Kn xs=xs->xs.length=15->K2 (gN 15) (UQ true) (UP oIx (KF (UO (UQ (.int 1)) (UO (UQ (.int 1)) (UO (UQ (.int 2)) (UO (UQ (.int 0)) (UO (UQ (.int 3)) (UO (UQ (.int 7)) (UO (UQ (.int 1)) (UO (UQ (.int 4)) (UO (UQ (.int 5)) (UO (UQ (.int 6)) (UO (UQ (.int 1)) (UM))))))))))))) (UI 15)) (((ds.drop 2).take n).map int) (Kn xs++Uy 1 none) []=some (cs.map int):=by
  intro xs hx hxl;rw[hx,Tb (λ_=>true) (λd=>match d with | .int z=>.int (tab.getD z.toNat 0)|_=>.none) (λZ=>∃x,Z=xs++[x])]
  ·rw[Uc.mpr (λ_ _=>rfl),Jk,QY];show _=some ((((ds.drop 2).take n).map λz=>tab.getD z.toNat 0).map int);rw[QY];rfl
  ·rintro d hm Z ⟨x,rfl⟩;obtain⟨z,hz,rfl⟩:=Qr.mp hm;have ht:=N0 (each z hz).1 (each z hz).2;have hset:(xs++[x]).set 15 (some (Sl.pub (.int z)))=xs++[some (.pub (.int z))]:=by rw[List.set_append_right _ _ (by omega),hxl];rfl
   have hget:(xs++[some (Sl.pub (.int z))])[15]?=some (some (Sl.pub (.int z))):=by rw[Qw (by omega),hxl];rfl
   refine⟨_,UW (by rw[Ql,hxl];exact Qa rfl) hset,rfl,λ_=>?_,some (.pub (.int z)),?_⟩
   ·exact U2 (ZE (UR UT (UR UT (UR UT (UR UT (UR UT (UR UT (UR UT (UR UT (UR UT (UR UT (UR UT UV))))))))))) (Qa rfl)) (UN hget) ht.1
   ·unfold Kn at hx⊢;rw[QC,hx];rfl
  ·exact⟨none,rfl⟩
  ·rw[Qb,hrowl,QB];omega
 refine Kj (Z6 (Z7 (Zp (Wp (UN rfl) (Y0 UT) (Y0 (U2 UT (Kh rfl UT x0) KZ)) (by rw[WD,hcut])) ZX) (hc _ rfl rfl)) (Qa rfl) rfl) ?_;refine Kj (Z6 (Wu UV (Qa rfl)) (Qa rfl) rfl) ?_;apply Kq;apply Zw (Tj (.list (ns.map int)) (.list (ds.map int)) (.list (sz6.map int)) at_ n cs)
 case h1=>exact XZ (UR (U2 UT (Kh rfl UT x1) KZ) UV) (XV (by omega) (by omega))
 case h0=>exact⟨[],_,_,_,_,_,_,rfl,rfl,λ_ h=>by cases h⟩
 case hst=>exact λi d Z e h=>jw hns hcl (by omega) (by omega) e h
 case hend=>rintro Z ⟨ls,y9,y10,y11,y12,y13,y14,rfl,hll,hg⟩;rw[Xf]at hll;refine Kl (Ku (Yz (UR (Yj rfl rfl) (UR (Yj rfl rfl) UV)) (Qa rfl)) ⟨_,rfl,cs,ls,rfl,?_⟩);exact⟨by omega,by omega,λc hc=>by obtain⟨z,hz,rfl⟩:=Qr.mp hc;exact(N0 (each z hz).1 (each z hz).2).2,by omega,by omega,λrs hrs=>by rw[hcl];exact hg rs hrs⟩
theorem D0{x:D}{m:Nat}(h:m<=1000):Ko (.list [x]) (.int m)=some (.list (Uy m x)):=by
 rw[RX ⟨by omega,by omega,by rw[Qt];show 1*m<=_;omega⟩,Qt]
 congr 2
 induction m with
 |zero=>rfl
 |succ m ih=>rw[Q0,QL,ih (by omega)];rfl
noncomputable def Zg(t:Int)(rs:List (List Int)):Nat:=if rs.findIdx (λr=>r.contains t)<rs.length then rs.findIdx (λr=>r.contains t)+1 else 0
theorem DZ(a b:Int):UF (.int a) (.int b)=(a==b):=by simp[UF]
theorem ON(t:Int)(r:List Int):oIn (.int t) (Zb r)=some (r.contains t):=by
 have h1:UD (r.map int)=true:=by
  induction r with
  |nil=>rfl
  |cons x r ih=>rw[Qx];unfold UD;rw[ih];rfl
 unfold oIn Zb;dsimp only;rw[Qp ⟨rfl,h1,JH _⟩]
 congr 1
 rw[List.any_map];clear h1;induction r with
 |nil=>rfl
 |cons x r ih=>
  rw[List.any_cons,ih,List.contains_cons]
  congr 1
  show UF (.int x) (.int t)=(t==x);rw[DZ];exact Bool.eq_iff_iff.2 ⟨λh=>beq_iff_eq.2 (beq_iff_eq.1 h).symm,λh=>beq_iff_eq.2 (beq_iff_eq.1 h).symm⟩
theorem Hv{t:Int}{rs:List (List Int)}{i:Nat}{r:List Int}(hr:rs[i]?=some r)(h:r.contains t=true)(hb:∀j r,j<i->rs[j]?=some r->r.contains t=false):Zg t rs=1+i:=by obtain⟨hi,e⟩:=List.getElem?_eq_some_iff.1 hr;have hf:rs.findIdx (λr=>r.contains t)=i:=(List.findIdx_eq hi).2 ⟨by rw[e];exact h,λj hj=>hb j _ hj (Qf (Nat.lt_trans hj hi))⟩;unfold Zg;rw[hf,Qp hi,Nat.add_comm]
theorem Hu{t:Int}{rs:List (List Int)}(hb:∀j r,j<rs.length->rs[j]?=some r->r.contains t=false):Zg t rs=0:=by
 have hf:rs.findIdx (λr=>r.contains t)=rs.length:=List.findIdx_eq_length.2 λr hr=>by obtain⟨j,hj,e⟩:=List.mem_iff_getElem.1 hr;exact hb j r hj (by rw[Qf hj,e])
 unfold Zg;rw[hf,Qz (Jo _)]
theorem jv(t:Int)(rs:List (List Int)):Vp [KH rs,.int t]=some (.int (Zg t rs:Nat)):=by
 refine KY (Z:=[some (.pub (KH rs)),some (.pub (.int t)),none,none]) rfl ?_;unfold Sj;apply Kq;apply Zw (λi Z=>(∃x2 x3,Z=[some (.pub (KH rs)),some (.pub (.int t)),x2,x3])/\∀j r,j<i->rs[j]?=some r->r.contains t=false)
 case h1=>exact Bb (UR (UN rfl) UV) AV
 case h0=>exact⟨⟨_,_,rfl⟩,λj r h=>absurd h (JR _)⟩
 case hst=>
  rintro i d Z hi ⟨⟨x2,x3,rfl⟩,hb⟩;obtain⟨x,hx,rfl⟩:=YV hi;rw[Qe]at hx;cases hr:rs[i]? with
  |none=>rw[hr]at hx;cases hx
  |some r=>
   rw[hr]at hx;cases hx;refine⟨_,KB rfl (U4 (UW (Qa rfl) rfl) (U4 (UW (Qa rfl) rfl) KD)),?_⟩;unfold MQ;apply Ks
   case h1=>exact Zu rfl (UN rfl) (ON t r)
   case h2=>intro hh;refine Ku (UN rfl) (V7 ?_);rw[Hv hr hh hb];exact⟨rfl⟩
   case h3=>
    intro hh;refine Kx (K4 ⟨⟨_,_,rfl⟩,λj r' hj hr'=>?_⟩);rcases Nat.lt_succ_iff_lt_or_eq.1 hj with h|rfl
    ·exact hb j r' h hr'
    ·rw[hr]at hr';cases hr';exact hh
 case hend=>rintro Z ⟨⟨x2,x3,rfl⟩,hb⟩;rw[Yr,Qb]at hb;refine Kl ?_;rw[Hu hb];exact Ku UT rfl
noncomputable def U5:Option Int->D
 |none=>.none
 |some t=>.int t
noncomputable def Ke(ws:LO):D:=.list (ws.map U5)
structure Deal(cs:List Int)(ls:L3)(ws:LO):Prop where
 len:ws.length=ls.length
 wish:∀(i:Nat) t rs,ws[i]?=some (some t)->ls[i]?=some rs->t∈rs.flatten
 cop:∀(k:Nat) c,cs[k]?=some c->((ws.count (some (k:Int)):Nat):Int)<=c
theorem HZ{t:Int}{rs:List (List Int)}(h:t∈rs.flatten):Zg t rs≠0:=by obtain⟨r,hr,ht⟩:=Ub.mp h;have:rs.findIdx (λr=>r.contains t)<rs.length:=List.findIdx_lt_length_of_exists ⟨r,hr,by simpa using ht⟩;unfold Zg;rw[Qp this];omega
theorem OT(ws:LO):UD (ws.map U5)=true:=VR λx hx=>by obtain⟨y,_,rfl⟩:=Qr.mp hx;cases y<;>rfl
theorem OM(a b:Option Int):UF (U5 a) (U5 b)=decide (a=b):=by rw[Bool.eq_iff_iff];cases a<;>cases b<;>simp[U5,UF]
theorem PY{ws:LO}{k:Int}:VL (Ke ws) (.int k)=some (.int (ws.count (some k):Nat)):=by
 unfold Ke VL;dsimp only;rw[if_pos ⟨rfl,OT ws,by simp[UE]⟩]
 congr 3
 induction ws with
 |nil=>rfl
 |cons w r ih=>
  rw[Qx,List.countP_cons,JS,ih]
  congr 1
  have:=OM w (some k);have e:U5 (some k)=.int k:=rfl;rw[e]at this;rw[this];cases w with
  |none=>simp
  |some z=>simp
theorem BE{f:M (List D)}{k:Nat}{s:D->UJ->Option UJ}{t:M Bool}{g:M D}{Z Z1:UJ}{ds es:List D}(h1:f Z=.ok ds Z1)(h2:K2 s t g ds (ZH Z1++Uy k none) []=some es)(h3:es.all flat=true):RF f k s t g Z=.ok es Z1:=by unfold RF;rw[h1];dsimp only;rw[h2];dsimp only;rw[if_pos h3]
theorem Rg{cs:List Int}{ls:L3}{rs:List (List Int)}{i:Nat}(hi:ls[i]?=some rs)(hl:rs.flatten.length<64):ZS [U7 cs ls,.int i]=some (.list ((Ze rs.flatten).map int)):=by
 refine KY (Z:=[some (.pub (U7 cs ls)),some (.pub (.int i))]) rfl ?_;unfold TF;have i1:oIx (U7 cs ls) (.int 1)=some (.list (ls.map KH)):=KW (j:=1) rfl;have i2:oIx (.list (ls.map KH)) (.int i)=some (KH rs):=KW (by rw[Qe,hi];rfl)
 have hs:SE [KH rs,.list []]=some (.list (rs.flatten.map int)):=by
  have e:KH rs=.list ((rs.map λr=>r.map int).map Uz):=by unfold KH;rw[QY];rfl
  have e2:(rs.map λr=>r.map int).flatten=rs.flatten.map int:=by rw[List.map_flatten]
  rw[e];unfold SE;dsimp only;rw[qV];dsimp only;rw[e2,Qp (by rw[Qb];omega)]
 exact Ku (Zc (UR (Zc (UR (U2 (Kh rfl UT i1) (UN rfl) i2) (UR (ZE UV (Qa rfl)) UV)) hs) UV) (Ge hl)) rfl
structure V0(cs:List Int)(ls:L3)(lf:List Int)(ws:LO):Prop where
 wish:∀(i:Nat) t rs,ws[i]?=some (some t)->ls[i]?=some rs->t∈rs.flatten
 len:lf.length=cs.length
 cop:∀(k:Nat) c,cs[k]?=some c->lf[k]?=some (c-((ws.count (some (k:Int)):Nat):Int))/\0<=c-((ws.count (some (k:Int)):Nat):Int)
theorem Ht{ls:L3}{ws:LO}{o:Option Int}{rs:List (List Int)}(h:∀(i:Nat) t rs,ws[i]?=some (some t)->ls[i]?=some rs->t∈rs.flatten)(hi:ls[ws.length]?=some rs)(ho:∀t,o=some t->t∈rs.flatten) :
  ∀(i:Nat) t rs,(ws++[o])[i]?=some (some t)->ls[i]?=some rs->t∈rs.flatten:=by
 intro j t rs' e1 e2;by_cases hj:j<ws.length
 ·rw[Qv hj]at e1;exact h j t rs' e1 e2
 ·by_cases hj2:j=ws.length
  ·subst hj2;rw[hi]at e2;cases e2;rw[Qw (Qs _),Nat.sub_self,List.getElem?_cons_zero]at e1;cases e1;exact ho t rfl
  ·rw[Jc (by rw[Ql,Q6];omega)]at e1;cases e1
theorem V0.none{cs:List Int}{ls:L3}{lf:List Int}{ws:LO}{rs:List (List Int)}(d:V0 cs ls lf ws)(hi:ls[ws.length]?=some rs):V0 cs ls lf (ws++[Option.none]) where
 wish:=Ht d.wish hi λt e=>by cases e
 len:=d.len
 cop:=λk c e=>by rw[List.count_append];simpa using d.cop k c e
theorem V0.give{cs:List Int}{ls:L3}{lf:List Int}{ws:LO}{rs:List (List Int)}{t v:Int}(d:V0 cs ls lf ws)(hi:ls[ws.length]?=some rs)(ht:t∈rs.flatten)(h0:0<=t)(hv:lf[t.toNat]?=some v)(hp:0<v):V0 cs ls (lf.set t.toNat (v-1)) (ws++[some t]) where
 wish:=Ht d.wish hi λt' e=>by cases e;exact ht
 len:=by rw[QS];exact d.len
 cop:=λk c e=>by
  obtain⟨h1,h2⟩:=d.cop k c e;rw[List.count_append];by_cases hk:t=(k:Int)
  ·subst hk;rw[Qt]at hv⊢;rw[h1]at hv;cases hv;have hl:k<lf.length:=(Qg.mp h1).1;rw[QD hl];simp only[List.count_singleton_self];refine⟨by congr 1;omega,by omega⟩
  ·have hne:t.toNat≠k:=by omega
   rw[Qq hne];have:List.count (some (k:Int)) [some t]=0:=by rw[List.count_eq_zero];intro z;have:=QW.mp z;exact hk (QT this).symm
   rw[this];exact⟨h1,h2⟩
theorem SS{os:LO}{k:Nat}(h:k<os.length):oIx (.list (os.map U5)) (.int k)=some (U5 os[k]):=KW (by rw[Qe,Qf h];rfl)
theorem LW{ws:LO}{o:Option Int}:(ws++[o]).map U5=ws.map U5++[U5 o]:=by rw[QC];rfl
def Ti(cs:List Int)(ls:L3)(c s:D)(dg:List Int)(i:Nat)(Z:UJ):Prop:=∃(lf:List Int)(ws:LO)(x6 x7 x8:Option Sl),
 Z=[some (.pub (U7 cs ls)),some (.pub c),some (.pub s),some (.own (lf.map int)),some (.pub (.list (dg.map int))),some (.own (ws.map U5)),x6,x7,x8]/\ws.length=i/\V0 cs ls lf ws
theorem ju{cs:List Int}{ls:L3}{c s:D}{dg:List Int}{i:Nat}{d:D}{Z:UJ}{Q:Out->Prop}(g:Good cs ls)(hdl:dg.length=ls.length)(hd0:∀x∈dg,0<=x)(hi:(ZU 0 ls.length)[i]?=some d)(h:Ti cs ls c s dg i Z) :
  ∃Z2,gN 6 d Z=some Z2/\Ho OD Z2 (VW (Ti cs ls c s dg (i+1)) Q):=by
 obtain⟨lf,ws,x6,x7,x8,rfl,hw,dl⟩:=h;obtain⟨rfl,hlt⟩:=Wk hi;have hil:i<ls.length:=by omega
 have hls:ls[i]?=some ls[i]:=Qf hil;have gr:=g.rk _ (Qn hls);have hfl:=Rn gr;refine⟨_,UW (Qa rfl) rfl,?_⟩;unfold OD;rw[JV];generalize hrs:ls[i]=rs at *;have hmem:∀t∈Ze rs.flatten,t∈rs.flatten:=λt ht=>(YY _).mem_iff.mp ht
 have hthere:∀t∈rs.flatten,0<=t/\t<lf.length:=λt ht=>by obtain⟨r,hr,htr⟩:=Ub.mp ht;have:=gr.there r hr t htr;rw[dl.len];exact this
 let L:=(Ze rs.flatten).filter λt=>decide (0<lf.getD t.toNat 0)
 have hc:K2 (gN 9) (UP (oIB λi j=>decide (j<i)) (UU 3 (UI 9)) (UQ (.int 0))) (UI 9) ((Ze rs.flatten).map int) (ZH [some (.pub (U7 cs ls)),some (.pub c),some (.pub s),some (.own (lf.map int)),some (.pub (.list (dg.map int))),some (.own (ws.map U5)),some (.pub (.int (i:Int))),x7,x8]++Uy 1 none) []=some (L.map int):=by
  rw[Tb (λd=>match d with | .int t=>decide (0<lf.getD t.toNat 0)|_=>false) (λd=>d) (λZ=>∃x y7 y8,Z=[some (.pub (U7 cs ls)),some (.pub c),some (.pub s),some (.pub (.list (lf.map int))),some (.pub (.list (dg.map int))),some (.pub (.list (ws.map U5))),some (.pub (.int (i:Int))),y7,y8,x])]
  ·rw[Jk,List.map_id',List.filter_map];rfl
  ·rintro d hm Z ⟨x,y7,y8,rfl⟩;obtain⟨t,ht,rfl⟩:=Qr.mp hm;obtain⟨h0,h1⟩:=hthere t (hmem t ht);obtain⟨k,rfl⟩:∃k:Nat,t=k:=⟨t.toNat,by omega⟩
   refine⟨_,UW (Qa rfl) rfl,U2 (Kh rfl (UN rfl) (Pq (by omega))) UT rfl,λ_=>UN rfl,some (.pub (.int k)),Xi y7,Xi y8,rfl⟩
  ·exact⟨none,P1 x7,P1 x8,rfl⟩
  ·rw[Qb,QB,(YY _).length_eq];have:=g.c6;omega
 have hLl:L.length<=6:=by have:L.length<=(Ze rs.flatten).length:=List.length_filter_le _ _;rw[(YY _).length_eq]at this;have:=g.c6;omega
 have hadd:U3 (.list (L.map int)) (.list [.none])=some (.list ((L.map some++[none]).map U5)):=by rw[Xo (by rw[Qb];show L.length+1<=_;omega),QC,QY];rfl
 refine Kj (KI (U2 (Kv (BE (Zp (Ki (UR (UN rfl) (UR (UN rfl) UV)) rfl (Rg (cs:=cs) hls (by have:=g.c6;omega))) ZX) hc (by rw[List.all_map,Q3];exact λ_ _=>rfl))) (ZE (UR UT UV) (Qa rfl)) hadd) (Qa rfl) rfl) ?_;have hol:(L.map some++[none]:LO).length=L.length+1:=by rw[Ql,Qb];rfl
 have hlen:Ka [.list ((L.map some++[none]:LO).map U5)]=some (.int ((L.length+1:Nat):Int)):=by rw[K6,Qb,hol]
 have hdi:dg[i]?=some dg[i]:=Qf (by omega);have hx0:=hd0 _ (Qn hdi);have hix:oIx (.list (dg.map int)) (.int (i:Int))=some (.int dg[i]):=KW (by rw[Qe,hdi];rfl);have hm0:0<=dg[i] % ((L.length+1:Nat):Int):=J5 _ (by omega);have hm1:dg[i] % ((L.length+1:Nat):Int)<((L.length+1:Nat):Int):=JI _ (by omega);obtain⟨k,hk⟩:∃k:Nat,dg[i] % ((L.length+1:Nat):Int)=k:=⟨(dg[i] % ((L.length+1:Nat):Int)).toNat,by omega⟩
 have hkl:k<(L.map some++[none]:LO).length:=by rw[hol];omega
 have hpick:=SS (os:=L.map some++[none]) hkl;rw[←hk]at hpick;generalize ho:(L.map some++[none]:LO)[k]=o at hpick;refine Kj (KI (Kh rfl (U2 (Kh rfl (UN rfl) hix) (Zh rfl hlen) (XF (by omega))) hpick) (Qa rfl) rfl) ?_;have hwl:(ws.map U5).length<1000000:=by rw[Qb];have:=g.l7;omega
 have hls':ls[ws.length]?=some rs:=by rw[hw];exact hls
 cases o with
 |none=>
  apply Kq;apply Ks
  case h1=>exact P3 (UN rfl) rfl
  case h2=>intro hh;cases hh
  case h3=>intro _;refine Kx (Kl ?_);refine Zv (XS rfl (UN rfl) rfl hwl rfl) ?_;exact K4 ⟨lf,ws++[none],_,_,_,by rw[LW (ws:=ws)];rfl,by rw[Ql,hw];rfl,dl.none hls'⟩
 |some t=>
  have htL:t∈L:=by
   have hm:some t∈(L.map some++[none]:LO):=ho ▸ JE hkl;rcases QR.mp hm with z|z
   ·obtain⟨t',h1,h2⟩:=Qr.mp z;cases h2;exact h1
   ·cases QW.mp z
  obtain⟨htm,htp⟩:=List.mem_filter.mp htL;have htf:=hmem t htm;obtain⟨h0,h1⟩:=hthere t htf;have hv:lf[t.toNat]?=some lf[t.toNat]:=Qf (by omega);have hvd:lf.getD t.toNat 0=lf[t.toNat]:=by simp[List.getD,hv]
  have hpos:0<lf[t.toNat]:=by rw[hvd]at htp;simpa using htp
  have hvx:oIx (.list (lf.map int)) (.int t)=some (.int lf[t.toNat]):=FV h0 (by rw[Qe,hv];rfl);apply Kq;apply Ks
  case h1=>exact P3 (UN rfl) rfl
  case h2=>intro _;refine Zv (VI (U2 (Wq rfl (UN rfl) rfl hvx) UT Yy) rfl (UN rfl) rfl ⟨h0,by rw[Qb];exact h1⟩ rfl) ?_;refine Kl ?_;refine Zv (XS rfl (UN rfl) rfl hwl rfl) ?_;exact K4 ⟨lf.set t.toNat (lf[t.toNat]-1),ws++[some t],_,_,_,by rw[LW (ws:=ws),←Bc];rfl,by rw[Ql,hw];rfl,dl.give hls' htf h0 hv hpos⟩
  case h3=>intro hh;cases hh
theorem HY{cs:List Int}{ls:L3}(g:Good cs ls)(c s:Int):∃r,X9 [U7 cs ls,.int c,.int s]=some r/\∃ws,r=Ke ws/\Deal cs ls ws:=by
 refine XR (Z:=[some (.pub (U7 cs ls)),some (.pub (.int c)),some (.pub (.int s)),none,none,none,none,none,none]) rfl ?_;unfold TC;have i0:oIx (U7 cs ls) (.int 0)=some (.list (cs.map int)):=KW (j:=0) rfl;have i1:oIx (U7 cs ls) (.int 1)=some (.list (ls.map KH)):=KW (j:=1) rfl;have hlen:Ka [.list (ls.map KH)]=some (.int ls.length):=by rw[K6,Qb]
 refine Kj (Z6 (KS (UR (Kh rfl UT i0) UV) (ZZ (show YK [.list (cs.map int)]=some (cs.map int)from rfl))) (Qa rfl) rfl) ?_
 have hmul:Ko (.list [.int 61]) (.int ls.length)=some (.list ((Uy ls.length (61:Int)).map int)):=by
  rw[RX ⟨by omega,by have:=g.l7;omega,by show 1*_<=_;have:=g.l7;omega⟩]
  congr 2
  rw[Qt];generalize ls.length=n;induction n with
  |zero=>rfl
  |succ n ih=>rw[Q0,QL,ih,Q0,Qx];rfl
 obtain⟨r,hF,dg,rfl,hdl,hdb⟩:=R4 c s (sizes:=Uy ls.length (61:Int)) (λx hx=>by rw[(List.mem_replicate.mp hx).2];decide) (by rw[QE];have:=g.l7;omega);rw[QE]at hdl;refine Kj (KI (Ki (UR (UN rfl) (UR (UN rfl) (UR (U2 (ZE (UR UT UV) (Qa rfl)) (Zc (UR (Kh rfl UT i1) UV) hlen) hmul) UV))) rfl hF) (Qa rfl) rfl) ?_;refine Kj (Z6 (Wu UV (Qa rfl)) (Qa rfl) rfl) ?_;apply Kq;apply Zw (Ti cs ls (.int c) (.int s) dg)
 case h1=>exact XZ (UR (Zc (UR (Kh rfl UT i1) UV) hlen) UV) (XV (by have:=g.l7;omega) (by omega))
 case h0=>exact⟨cs,[],_,_,_,rfl,rfl,⟨λ_ _ _ h=>(by cases h),rfl,λk c e=>by have:=g.c7 c (Qn e);simp only[List.count_nil];exact⟨by rw[e];congr 1;omega,by omega⟩⟩⟩
 case hst=>exact λi d Z e h=>ju g hdl (λx hx=>by obtain⟨j,hj,e⟩:=J9.mp hx;exact(hdb j x 61 (by rw[Qf hj,e]) (by rw[QA,Qp (by omega)])).1) e h
 case hend=>rintro Z ⟨lf,ws,x6,x7,x8,rfl,hw,dl⟩;rw[Xf]at hw;refine Kl (Ku (Yj rfl rfl) ⟨_,rfl,ws,rfl,⟨by omega,dl.wish,λk c e=>by have:=(dl.cop k c e).2;omega⟩⟩)
theorem LV(ws:LO):(Ke ws).depth<=2:=RR (VQ λx hx=>by obtain⟨y,_,rfl⟩:=Qr.mp hx;cases y<;>simp[U5,UE])
theorem DY(ws:LO):oNe (Ke ws) (Ke ws)=some false:=by unfold oNe;have h:(Ke ws).canLay0=true:=OT ws;rw[Qp ⟨h,h,by have:=LV ws;omega⟩,OW _ h];rfl
theorem YX{s:D->UJ->Option UJ}{t:M Bool}{g:M D}(I:UJ->Prop):∀(ds qs:List D)(Z:UJ)(es:List D),qs.length=ds.length ->
  (∀(i:Nat) d e,ds[i]?=some d->qs[i]?=some e->∀Z,I Z->∃Z1,s d Z=some Z1/\t Z1=.ok true Z1/\g Z1=.ok e Z1/\I (Kn Z1))->I Z->es.length+ds.length<=1000000->K2 s t g ds Z es=some (es++qs)
 |[],[],Z,es,_,_,_,_=>by rw[K2,Q7]
 |d::r,e::q,Z,es,hl,st,h0,hz=>by obtain⟨Z1,e1,e2,e3,h1⟩:=st 0 d e rfl rfl Z h0;rw[QO]at hz;rw[K2,e1];dsimp only;rw[e2];dsimp only;rw[Qp rfl,e3];dsimp only;rw[if_pos (by omega),YX I r q (Kn Z1) (es++[e]) (by simpa using hl) (λi d' e' x y=>st (i+1) d' e' (by simpa using x) (by simpa using y)) h1 (by rw[List.length_append,List.length_singleton];omega),List.append_assoc];rfl
noncomputable def lng(ls:L3):Nat:=(most (ls.map λrs=>(rs.length:Int))).toNat
noncomputable def Yq(cs:List Int)(ws:LO):List Int:=(Ux cs.length).map λk:Nat=>cs.getD k 0-((ws.count (some (k:Int)):Nat):Int)
theorem OL{ls:L3}(h:1<=ls.length):most (ls.map λrs=>(rs.length:Int))=(lng ls:Nat):=by
 have hm:most (ls.map λrs=>(rs.length:Int))∈ls.map λrs=>(rs.length:Int):=RS (by rw[Qb];omega)
 obtain⟨rs,_,e⟩:=Qr.mp hm;unfold lng;omega
theorem NZ{ls:L3}{rs:List (List Int)}(h:rs∈ls):rs.length<=lng ls:=by have h1:((rs.length:Nat):Int)<=most (ls.map λrs=>(rs.length:Int)):=OH (Qr.mpr ⟨rs,h,rfl⟩);have h2:=OL (ls:=ls) (J0 h);omega
theorem P9{ls:L3}{n:Nat}(h1:1<=ls.length)(h:∀rs∈ls,rs.length<=n):lng ls<=n:=by
 have hm:most (ls.map λrs=>(rs.length:Int))∈ls.map λrs=>(rs.length:Int):=RS (by rw[Qb];omega)
 obtain⟨rs,hr,e⟩:=Qr.mp hm;have:=h rs hr;unfold lng;omega
theorem Nl(t:Int)(rs:List (List Int)):Zg t rs<=rs.length:=by
 unfold Zg
 split<;>omega
section
variable{cs:List Int}{ls:L3}{ws:LO}
theorem Xh:oIx (U7 cs ls) (.int 0)=some (.list (cs.map int)):=KW (j:=0) rfl
theorem Xg:oIx (U7 cs ls) (.int 1)=some (.list (ls.map KH)):=KW (j:=1) rfl
theorem NK{i:Nat}{rs:List (List Int)}(h:ls[i]?=some rs):oIx (.list (ls.map KH)) (.int i)=some (KH rs):=KW (by rw[Qe,h];rfl)
theorem HP(rs:List (List Int)):Ka [KH rs]=some (.int rs.length):=by unfold KH;rw[K6,Qb]
theorem jt(g:Good cs ls):Vo [U7 cs ls]=some (.int (lng ls:Nat)):=by
 refine KY (Z:=[some (.pub (U7 cs ls))]) rfl ?_;unfold Sh;have hw:=PP g
 have hc:K2 (gN 1) (UQ true) (K3 1) (ls.map KH) (Kn [some (.pub (U7 cs ls))]++Uy 1 none) []=some ((ls.map λrs=>(rs.length:Int)).map int):=by
  refine YX (λZ=>∃x,Z=[some (.pub (U7 cs ls)),x]) _ _ _ _ (by rw[Qb,Qb,Qb]) ?_ ⟨none,rfl⟩ (by rw[Qb,QB];have:=g.l7;omega);rintro i d e hd he Z ⟨x,rfl⟩;rw[Qe]at hd;rw[Qe,Qe]at he;cases hl:ls[i]? with
  |none=>rw[hl]at hd;cases hd
  |some rs=>
  rw[hl]at hd he;cases hd;cases he;exact⟨_,UW (Qa rfl) rfl,rfl,Zh rfl (HP rs),_,rfl⟩
 refine Kj (VJ (Ki (UR (UN rfl) UV) rfl hw)) ?_;refine Ku (Zc (UR (Kv (Z7 (Zp (Kh rfl UT Xg) ZX) hc)) UV) (O4 (by rw[Qb];have:=g.l1;omega))) ?_;rw[OL g.l1]
theorem kY(g:Good cs ls):Vm [U7 cs ls,Ke ws]=some (.list ((Yq cs ws).map int)):=by
 refine KY (Z:=[some (.pub (U7 cs ls)),some (.pub (Ke ws))]) rfl ?_;unfold Sf;have hw:=PP g
 have hc:K2 (gT 2 (gNC (gN 2) (gNC (gN 3) (gN0)))) (UQ true) (UP KR (UI 3) (VE (UI 1) (UO (UI 2) (UM)))) (Ye 0 (cs.map int)) (Kn [some (.pub (U7 cs ls)),some (.pub (Ke ws))]++Uy 2 none) []=some ((Yq cs ws).map int):=by
  refine YX (λZ=>∃x y,Z=[some (.pub (U7 cs ls)),some (.pub (Ke ws)),x,y]) _ _ _ _ (by unfold Yq;rw[Qb,Qb,Qu,Yr,Qb]) ?_ ⟨none,none,rfl⟩ (by rw[Yr,Qb,QB];have:=g.c6;omega);rintro i d e hd he Z ⟨x,y,rfl⟩;obtain⟨z,hz,rfl⟩:=YV hd;rw[Qe]at hz;cases hci:cs[i]? with
  |none=>rw[hci]at hz;cases hz
  |some c=>
  rw[hci]at hz;cases hz;have hil:i<cs.length:=(Qg.mp hci).1;unfold Yq at he;rw[Qe,Qe,Qf (by rw[Qu];exact hil),List.getElem_range]at he;cases he;rw[QX];have e:cs.getD i 0=c:=by simp[List.getD,hci]
  dsimp only;rw[e];exact⟨_,KB rfl (U4 (UW (Qa rfl) rfl) (U4 (UW (Qa rfl) rfl) KD)),rfl,U2 (UN rfl) (Px (UN rfl) (UR (UN rfl) UV) PY) Yy,_,_,rfl⟩
 refine Kj (VJ (Ki (UR (UN rfl) UV) rfl hw)) ?_;exact Ku (Kv (Z7 (Xe (UR (Kh rfl UT Xh) UV) Xn) hc)) rfl
end
theorem RN{a b:Option Int}:oEq (U5 a) (U5 b)=some (decide (a=b)):=by unfold oEq;rw[if_pos ⟨by cases a<;>rfl,by cases b<;>rfl,by cases a<;>simp[U5,UE]⟩,OM]
theorem NY{a b:Option Int}:oNe (U5 a) (U5 b)=some (!decide (a=b)):=by unfold oNe;rw[if_pos ⟨by cases a<;>rfl,by cases b<;>rfl,by cases a<;>simp[U5,UE]⟩,OM]
section
variable{cs:List Int}{ls:L3}{ws:LO}{a:Nat}{o had:Option Int}{rs:List (List Int)}{t:Int}
end
theorem En{xs:List D}{a:Nat}(h:a<=xs.length):DL.cutD xs none (some (a:Int))=xs.take a:=by
 unfold DL.cutD HT.sIx;dsimp only;rw[Qz (by omega),Qt];have:min a xs.length=a:=by omega
 rw[this];simp
theorem BD{xs:List D}{a:Nat}(h:a<=xs.length):DL.cutD xs (some (a:Int)) none=xs.drop a:=by
 unfold DL.cutD HT.sIx;dsimp only;rw[Qz (by omega),Qt];have:min a xs.length=a:=by omega
 rw[this,List.take_of_length_le (by rw[Jl];omega)]
theorem HX{s:D->UJ->Option UJ}{t:M Bool}{g:M D}(I:UJ->Prop):∀(ds qs:List D)(Z:UJ)(es:List D),qs.length=ds.length ->
  (∀(i:Nat) d e,ds[i]?=some d->qs[i]?=some e->∀Z,I Z->∃Z1,s d Z=some Z1/\t Z1=.ok true Z1/\g Z1=.ok e Z1/\I (Kn Z1))->I Z->es.length+ds.length<=1000000->∃Z',YO s t g ds Z es=some (es++qs,Z')/\I Z'
 |[],[],Z,es,_,_,h0,_=>⟨Z,by rw[YO,Q7],h0⟩
 |d::r,e::q,Z,es,hl,st,h0,hz=>by obtain⟨Z1,e1,e2,e3,h1⟩:=st 0 d e rfl rfl Z h0;rw[QO]at hz;obtain⟨Z',e',h'⟩:=HX I r q (Kn Z1) (es++[e]) (by simpa using hl) (λi d' e' x y=>st (i+1) d' e' (by simpa using x) (by simpa using y)) h1 (by rw[List.length_append,List.length_singleton];omega);refine⟨Z',?_,h'⟩;rw[YO,e1];dsimp only;rw[e2];dsimp only;rw[Qp rfl,e3];dsimp only;rw[Qp (by omega),e',Ja];rfl
theorem Nw{s:D->UJ->Option UJ}{t:M Bool}{f:M (List D)}{Rd:List D->UJ->List D->Option (List D×UJ)}(I:UJ->Prop):∀(ds:List D)(qs:List (List D))(Z:UJ)(es:List D),qs.length=ds.length ->
  (∀(i:Nat) d q,ds[i]?=some d->qs[i]?=some q->∀Z es,I Z->es.length+q.length<=1000000->∃Z1 xs Z2 Z3,s d Z=some Z1/\t Z1=.ok true Z1/\f Z1=.ok xs Z2/\Rd xs (Kn Z2) es=some (es++q,Z3)/\I Z3)->I Z->es.length+qs.flatten.length<=1000000->∃Z',Xc s t f Rd ds Z es=some (es++qs.flatten,Z')/\I Z'
 |[],[],Z,es,_,_,h0,_=>⟨Z,by rw[Xc,List.flatten_nil,Q7],h0⟩
 |d::r,q::qr,Z,es,hl,st,h0,hz=>by rw[QL,Ql]at hz;obtain⟨Z1,xs,Z2,Z3,e1,e2,e3,e4,h1⟩:=st 0 d q rfl rfl Z es h0 (by omega);obtain⟨Z',e',h'⟩:=Nw I r qr Z3 (es++q) (by simpa using hl) (λi d' e' x y=>st (i+1) d' e' (by simpa using x) (by simpa using y)) h1 (by rw[List.length_append];omega);refine⟨Z',?_,h'⟩;rw[Xc,e1];dsimp only;rw[e2];dsimp only;rw[Qp rfl,e3];dsimp only;rw[e4];dsimp only;rw[e',QL,Ja]
noncomputable def We(i:Nat)(rs:List (List Int)):LP:=rs.flatten.map λt=>((i:Int),t)
noncomputable def ZQ(k:Nat):L3->LP
 |[]=>[]
 |rs::ls=>We k rs++ZQ (k+1) ls
noncomputable def U1(k:Nat):L3->LP
 |[]=>[]
 |rs::ls=>(Ze rs.flatten).map (λt=>((k:Int),t))++U1 (k+1) ls
theorem V4:∀(ls:L3)(k:Nat),(U1 k ls).Perm (ZQ k ls)
 |[],_=>.nil
 |rs::ls,k=>((YY rs.flatten).map _).append (V4 ls (k+1))
theorem OS:∀(ls:L3)(k:Nat),∀q∈U1 k ls,(k:Int)<=q.1
 |[],_,q,h=>by cases h
 |rs::ls,k,q,h=>by
  rcases QR.mp h with h|h
  ·obtain⟨t,_,rfl⟩:=Qr.mp h;exact QZ _
  ·have:=OS ls (k+1) q h;omega
theorem Wl:∀{ls:L3}{k:Nat}{q:Int×Int},q∈U1 k ls->∃i rs,ls[i]?=some rs/\q.1=((k+i:Nat):Int)/\q.2∈rs.flatten
 |[],_,q,h=>by cases h
 |rs::ls,k,q,h=>by
  rcases QR.mp h with h|h
  ·obtain⟨t,ht,rfl⟩:=Qr.mp h;exact⟨0,rs,rfl,rfl,(YY _).mem_iff.mp ht⟩
  ·obtain⟨i,rs',h1,h2,h3⟩:=Wl h;exact⟨i+1,rs',by simpa using h1,by rw[h2];congr 1;omega,h3⟩
theorem OR:∀{ls:L3}{k i:Nat}{rs:List (List Int)}{t:Int},ls[i]?=some rs->t∈rs.flatten->(((k+i:Nat):Int),t)∈U1 k ls
 |rs::ls,k,0,rs',t,h,ht=>by cases h;exact Q9 _ (Qr.mpr ⟨t,(YY _).mem_iff.mpr ht,rfl⟩)
 |rs::ls,k,i+1,rs',t,h,ht=>by have:=OR (ls:=ls) (k:=k+1) (i:=i) (by simpa using h) ht;rw[show k+1+i=k+(i+1)by omega]at this;exact QJ _ this
theorem LU{n:Nat}(hn:n<=6):∀(ls:L3)(k:Nat),(∀rs∈ls,∀t∈rs.flatten,0<=t/\t<n)->(U1 k ls).Pairwise λx y=>KG x<=KG y
 |[],_,_=>.nil
 |rs::ls,k,h=>by
  refine List.pairwise_append.mpr ⟨?_,LU hn ls (k+1) λrs' hr=>h rs' (Qj _ hr),λx hx y hy=>?_⟩
  ·rw[List.pairwise_map];refine(HJ rs.flatten).imp λ{a b} hab=>?_
   unfold KG;dsimp only;omega
  ·obtain⟨t,ht,rfl⟩:=Qr.mp hx;have h1:=OS ls (k+1) y hy;have h2:=h rs Qk t ((YY _).mem_iff.mp ht);obtain⟨i,rs',g1,g2,g3⟩:=Wl hy;have h3:=h rs' (Qj _ (Qn g1)) y.2 g3;unfold KG;dsimp only;omega
theorem VP.flat{n:Nat}{rs:List (List Int)}(g:VP n rs):∀t∈rs.flatten,0<=t/\t<n:=λt ht=>by obtain⟨r,h1,h2⟩:=Ub.mp ht;exact g.there r h1 t h2
section
variable{cs:List Int}{ls:L3}
theorem Nc(n:Nat):∀(ls:L3)(k:Nat),(∀rs∈ls,rs.flatten.length<=n)->(ZQ k ls).length<=ls.length*n
 |[],_,_=>by simp[ZQ]
 |rs::ls,k,h=>by
  have h1:=Nc n ls (k+1) λr hr=>h r (Qj _ hr);have h2:=h rs Qk
  show(We k rs++ZQ (k+1) ls).length<=_
  rw[Ql,QO,Nat.succ_mul];unfold We;rw[Qb];omega
theorem js(g:Good cs ls):Wm (ZQ 0 ls)=U1 0 ls:=by
 have hf:∀rs∈ls,∀t∈rs.flatten,0<=t/\t<cs.length:=λrs hr=>(g.rk rs hr).flat
 have ok:∀q∈U1 0 ls,okP q:=λq hq=>by obtain⟨i,rs,h1,h2,h3⟩:=Wl hq;have:=hf rs (Qn h1) q.2 h3;have:=g.c6;exact⟨by omega,by omega⟩
 exact(OY ok ((V4 ls 0).trans (Gg _).symm) (LU g.c6 ls 0 hf) (HD _)).symm
theorem Em(g:Good cs ls):∀q∈ZQ 0 ls,okP q:=λq hq=>by obtain⟨i,rs,h1,h2,h3⟩:=Wl ((V4 ls 0).mem_iff.mpr hq);have:=(g.rk rs (Qn h1)).flat q.2 h3;have:=g.c6;exact⟨by omega,by omega⟩
theorem RQ(g:Good cs ls):(ZQ 0 ls).length<=42:=by
 have h:=Nc 6 ls 0 λrs hr=>QM (Rn (g.rk rs hr)) g.c6
 have:=g.l7;omega
theorem OK:∀(ls:L3)(k:Nat),((ls.zipIdx k).map λp=>(We p.2 p.1).map Kf).flatten=(ZQ k ls).map Kf
 |[],_=>rfl
 |rs::ls,k=>by rw[List.zipIdx_cons,Qx,QL,OK ls (k+1)];show _=(We k rs++ZQ (k+1) ls).map Kf;rw[QC]
theorem kO(g:Good cs ls):Vn [U7 cs ls]=some (.list ((U1 0 ls).map Kf)):=by
 refine KY (Z:=[some (.pub (U7 cs ls))]) rfl ?_;unfold Sg;refine Kj (VJ (Ki (UR (UN rfl) UV) rfl (PP g))) ?_
 have hc:∃Z',Xc (gT 2 (gNC (gN 1) (gNC (gN 2) (gN0)))) (UQ true) (KU (UI 2)) (Xc (gN 3) (UQ true) (KU (UI 3)) (YO (gN 4) (UQ true) (KE (UO (UI 1) (UO (UI 4) (UM)))))) (Ye 0 (ls.map KH)) (Kn [some (.pub (U7 cs ls))]++Uy 4 none) []=some ((ZQ 0 ls).map Kf,Z'):=by
  have key:=Nw (s:=gT 2 (gNC (gN 1) (gNC (gN 2) (gN0)))) (t:=UQ true) (f:=KU (UI 2)) (Rd:=Xc (gN 3) (UQ true) (KU (UI 3)) (YO (gN 4) (UQ true) (KE (UO (UI 1) (UO (UI 4) (UM))))))
   (λZ=>∃x1 x2 x3 x4,Z=[some (.pub (U7 cs ls)),x1,x2,x3,x4]) (Ye 0 (ls.map KH)) ((ls.zipIdx 0).map λp=>(We p.2 p.1).map Kf) (Kn [some (.pub (U7 cs ls))]++Uy 4 none) [] (by rw[Qb,List.length_zipIdx,Yr,Qb]) ?_ ⟨none,none,none,none,rfl⟩ (by rw[OK,Qb,QB];have:=RQ g;omega)
  ·obtain⟨Z',e,_⟩:=key;rw[OK,Jk]at e;exact⟨Z',e⟩
  rintro i d q hd hq Z es ⟨x1,x2,x3,x4,rfl⟩ hlen;obtain⟨z,hz,rfl⟩:=YV hd;rw[Qe]at hz;rw[Qe,List.getElem?_zipIdx]at hq;cases hls:ls[i]? with
  |none=>rw[hls]at hz;cases hz
  |some rs=>
  rw[hls]at hz hq;cases hz;cases hq;rw[QX]at *;dsimp only at hlen⊢
  have inner:=Nw (s:=gN 3) (t:=UQ true) (f:=KU (UI 3)) (Rd:=YO (gN 4) (UQ true) (KE (UO (UI 1) (UO (UI 4) (UM)))))
   (λZ=>∃x3 x4,Z=[some (.pub (U7 cs ls)),some (.pub (.int i)),some (.pub (KH rs)),x3,x4]) (rs.map Zb) (rs.map λr=>r.map λt=>Kf ((i:Int),t)) (Kn [some (.pub (U7 cs ls)),some (.pub (.int i)),some (.pub (KH rs)),x3,x4]) es (by rw[Qb,Qb]) ?_ ⟨Xi x3,Xi x4,rfl⟩ ?_
  ·obtain⟨Z3,e3,y3,y4,h3⟩:=inner;have ef:(rs.map λr=>r.map λt=>Kf ((i:Int),t)).flatten=(We i rs).map Kf:=by unfold We;rw[QY,List.map_flatten];rfl
   rw[ef]at e3;exact⟨_,_,_,Z3,KB rfl (U4 (UW (Qa rfl) rfl) (U4 (UW (Qa rfl) rfl) KD)),rfl,Zp (UN rfl) rfl,e3,_,_,_,_,h3⟩
  ·rintro j d q hd hq Z es' ⟨y3,y4,rfl⟩ hlen';rw[Qe]at hd hq;cases hr:rs[j]? with
   |none=>rw[hr]at hd;cases hd
   |some r=>
   rw[hr]at hd hq;cases hd;cases hq
   obtain⟨Z3,e3,z4,h3⟩:=HX (s:=gN 4) (t:=UQ true) (g:=KE (UO (UI 1) (UO (UI 4) (UM)))) (λZ=>∃x4,Z=[some (.pub (U7 cs ls)),some (.pub (.int i)),some (.pub (KH rs)),some (.pub (Zb r)),x4]) (r.map int) (r.map λt=>Kf ((i:Int),t)) (Kn [some (.pub (U7 cs ls)),some (.pub (.int i)),some (.pub (KH rs)),some (.pub (Zb r)),y4]) es' (by rw[Qb,Qb]) (by
    rintro m d e hd he Z ⟨x4,rfl⟩;rw[Qe]at hd he;cases hm:r[m]? with
    |none=>rw[hm]at hd;cases hd
    |some t=>
    rw[hm]at hd he;cases hd;cases he;exact⟨_,UW (Qa rfl) rfl,rfl,Yz (UR (UN rfl) (UR (UN rfl) UV)) (Qa rfl),_,rfl⟩) ⟨Xi y4,rfl⟩ (by rw[Qb]at hlen'⊢;exact hlen')
   exact⟨_,_,_,Z3,UW (Qa rfl) rfl,rfl,Zp (UN rfl) rfl,e3,_,_,h3⟩
  ·have ef:(rs.map λr=>r.map λt=>Kf ((i:Int),t)).flatten=(We i rs).map Kf:=by
    unfold We;rw[QY,List.map_flatten];rfl
   rw[ef];exact hlen
 obtain⟨Z',hc⟩:=hc;have hs:=AM (qs:=ZQ 0 ls) (by have:=RQ g;omega) (Em g);rw[js g]at hs;exact Ku (Zc (UR (Kv (Ay (Xe (UR (Kh rfl UT Xg) UV) Xn) hc)) UV) hs) rfl
end
inductive Ord where|firsts|full|lasts
noncomputable def Ord.tx:Ord->Str
 |.firsts=> "firsts" | .full=> "full" | .lasts=> "lasts"
noncomputable def Ord.isF:Ord->Bool
 |.firsts=>true|_=>false
noncomputable def Ord.isU:Ord->Bool
 |.full=>true|_=>false
theorem El(o:Ord):oEq (.str o.tx) (.str "firsts")=some o.isF:=by cases o<;>decide +kernel
theorem NX(o:Ord):oEq (.str o.tx) (.str "full")=some o.isU:=by cases o<;>decide +kernel
theorem kN(o:Ord):Vl [.str o.tx]=some (.bool true):=by
 refine KY (Z:=[some (.pub (.str o.tx))]) rfl ?_;unfold Se;have h:oIn (.str o.tx) (.tuple ((["firsts", "full", "lasts"]:List Str).map UB))=some true:=by cases o<;>decide +kernel
 exact Ku (Ra (Kv (k:=λd=>UA (Kr d "str")) (UN rfl)) (λ_=>Kv (Zu rfl UT h))) rfl
theorem Ac(o:Ord):Vk [.str o.tx]=some .none:=by
 refine RL (Z:=[some (.pub (.str o.tx))]) rfl ?_;unfold Sd;apply Ks
 case h1=>exact ZN (ZY (Ki (UR (UN rfl) UV) rfl (kN o)))
 case h2=>intro h;cases h
 case h3=>exact λ_=>Kx ⟨_,rfl⟩
noncomputable def ZR:Option LO->D
 |none=>.none
 |some ws=>Ke ws
noncomputable def Kz(o:Ord)(old:Option LO)(ts:List Int):D:=.tuple [.str o.tx,ZR old,.list (ts.map int)]
structure Yx(n m:Nat)(old:Option LO)(ts:List Int):Prop where
 len:∀ws,old=some ws->ws.length=m
 old:∀ws t,old=some ws->some t∈ws->0<=t/\t<n
 once:ts.Nodup
 there:∀a∈ts,0<=a/\a<m
theorem Yx.few{n m:Nat}{old:Option LO}{ts:List Int}(g:Yx n m old ts):ts.length<=m:=WB m ts g.once g.there
theorem Ab{n m:Nat}{old:Option LO}(h1:∀ws,old=some ws->ws.length=m)(h2:∀ws t,old=some ws->some t∈ws->0<=t/\t<n)(hm:m<=1000):Vj [ZR old,.int m,.int n]=some (.bool true):=by
 refine KY (Z:=[some (.pub (ZR old)),some (.pub (.int m)),some (.pub (.int n))]) rfl ?_;unfold Sc;apply Kq;cases old with
 |none=>
  apply Ks
  case h1=>exact Kv (UN rfl)
  case h2=>exact λ_=>Ku UT (XE rfl)
  case h3=>intro hh;cases hh
 |some ws=>
  have hl:=h1 ws rfl;have hlen:Ka [Ke ws]=some (.int m):=by unfold Ke;rw[K6,Qb,hl]
  apply Ks
  case h1=>exact Kv (UN rfl)
  case h2=>intro hh;cases hh
  case h3=>
   intro _;refine Kx (Kl ?_);apply Kq;apply Ks
   case h1=>exact ZC (Z1:=[some (.pub (Ke ws)),some (.pub (.int m)),some (.pub (.int n))]) (XB (UN rfl) rfl) (U2 (Zh rfl hlen) (UN rfl) XY)
   case h2=>intro hh;simp at hh
   case h3=>
    intro _;refine Kx (Kl ?_)
    have hc:K2 (gN 3) (UQ true) (X4 (UZ (λd=>.bool (isNon d)) (UI 3)) (UX 2 ZM (UO (UI 3) (UO (UI 2) (UM))))) (ws.map U5) (Kn [some (.pub (Ke ws)),some (.pub (.int m)),some (.pub (.int n))]++Uy 1 none) []=some (ws.map λ_=>.bool true):=by
     refine YX (λZ=>∃x,Z=[some (.pub (Ke ws)),some (.pub (.int m)),some (.pub (.int n)),x]) _ _ _ _ (by simp only[Qb]) ?_ ⟨none,rfl⟩ (by rw[Qb,QB];omega);rintro i d e hd he Z ⟨x,rfl⟩;rw[Qe]at hd he;cases hw:ws[i]? with
     |none=>rw[hw]at hd;cases hd
     |some o=>
     rw[hw]at hd he;cases hd;cases he;refine⟨_,UW (Qa rfl) rfl,rfl,?_,_,rfl⟩;cases o with
     |none=>exact N6 (t:=true) (u:=true) (Kv (k:=λd=>UA (isNon d)) (x:=.none) (UN rfl)) (λh=>nomatch h)
     |some t=>have hb:=h2 ws t rfl (Qn hw);exact N6 (t:=false) (u:=true) (Kv (k:=λd=>UA (isNon d)) (x:=.int t) (UN rfl)) (λ_=>Ki (UR (UN rfl) (UR (UN rfl) UV)) rfl (PD hb.1 hb.2))
    exact Ku (Zc (UR (Kv (Z7 (Zp (UN rfl) rfl) hc)) UV) (PQ ws)) rfl
theorem kq{m:Nat}{ts:List Int}(h1:ts.Nodup)(h2:∀a∈ts,0<=a/\a<m)(hm:m<=1000):Vi [.list (ts.map int),.int m]=some (.bool true):=by
 refine KY (Z:=[some (.pub (.list (ts.map int))),some (.pub (.int m))]) rfl ?_;unfold Sb;have hl:=WB m ts h1 h2;apply Kq
 have hc:K2 (gN 2) (UQ true) (UX 2 ZM (UO (UI 2) (UO (UI 1) (UM)))) (ts.map int) (Kn [some (.pub (.list (ts.map int))),some (.pub (.int m))]++Uy 1 none) []=some (ts.map λ_=>.bool true):=by
  refine YX (λZ=>∃x,Z=[some (.pub (.list (ts.map int))),some (.pub (.int m)),x]) _ _ _ _ (by simp only[Qb]) ?_ ⟨none,rfl⟩ (by rw[Qb,QB];omega);rintro i d e hd he Z ⟨x,rfl⟩;rw[Qe]at hd he;cases hw:ts[i]? with
  |none=>rw[hw]at hd;cases hd
  |some t=>
  rw[hw]at hd he;cases hd;cases he;have hb:=h2 t (Qn hw);exact⟨_,UW (Qa rfl) rfl,rfl,Ki (UR (UN rfl) (UR (UN rfl) UV)) rfl (PD hb.1 hb.2),_,rfl⟩
 apply Ks
 case h1=>exact ZC (Z1:=[some (.pub (.list (ts.map int))),some (.pub (.int m))]) (XB (UN rfl) rfl) (ZN (ZY (Zc (UR (Kv (Z7 (Zp (UN rfl) ZX) hc)) UV) (PQ ts))))
 case h2=>intro hh;cases hh
 case h3=>
  intro _;refine Kx (Kl ?_);have hs:Wv [.list (ts.map int)]=some (.int ts.length):=by unfold Wv;dsimp only;rw[V8];dsimp only;rw[Qp (by omega),Ga h1]
  have hlen:Ka [.list (ts.map int)]=some (.int ts.length):=by rw[K6,Qb]
  refine Ku (Kv (U2 (Zc (UR (UN rfl) UV) hs) (Zh rfl hlen) Xd)) ?_;simp
section
variable{cs:List Int}{ls:L3}{o:Ord}{old:Option LO}{ts:List Int}
theorem Ek(g:Good cs ls)(ga:Yx cs.length ls.length old ts):Vh [U7 cs ls,Kz o old ts]=some .none:=by
 refine RL (Z:=[some (.pub (U7 cs ls)),some (.pub (Kz o old ts)),none,none,none,none,none]) rfl ?_;unfold Sa;have l7:=g.l7;have c6:=g.c6;have hll:Ka [.list (ls.map KH)]=some (.int ls.length):=by rw[K6,Qb]
 have hlc:Ka [.list (cs.map int)]=some (.int cs.length):=by rw[K6,Qb]
 refine Kj (VJ (Ki (UR (UN rfl) UV) rfl (PP g))) ?_;apply Kq;apply Ks
 case h1=>exact ZC (Z1:=[some (.pub (U7 cs ls)),some (.pub (Kz o old ts)),none,none,none,none,none]) (XB (UN rfl) rfl) (U2 (Zh rfl (show Ka [Kz o old ts]=some (.int 3)from rfl)) UT XY)
 case h2=>intro hh;simp at hh
 case h3=>
  intro _;refine Kx (Kl ?_);refine Kj (VD (UN rfl) (KB rfl (U4 (UW (Qa rfl) rfl) (U4 (UW (Qa rfl) rfl) KD)))) ?_;refine Kj (VD (UN rfl) (KB rfl (U4 (UW (Qa rfl) rfl) (U4 (UW (Qa rfl) rfl) (U4 (UW (Qa rfl) rfl) KD))))) ?_;refine Kj (VJ (Ki (UR (UN rfl) UV) rfl (Ac o))) ?_;apply Kq;apply Ks
  case h1=>exact ZN (ZY (Ki (UR (UN rfl) (UR (Zh rfl hll) (UR (Zh rfl hlc) UV))) rfl (Ab ga.len ga.old (by omega))))
  case h2=>intro hh;cases hh
  case h3=>
   intro _;refine Kx (Kl ?_);apply Ks
   case h1=>exact ZN (ZY (Ki (UR (UN rfl) (UR (Zh rfl hll) UV)) rfl (kq ga.once ga.there (by omega))))
   case h2=>intro hh;cases hh
   case h3=>exact λ_=>Kx ⟨_,rfl⟩
end
theorem SY{t:Int}{r:List Int}:oIn (.int t) (.list (r.map int))=some (r.contains t):=ON t r
theorem HW{c s w sz dg x6:Option Sl}{m:Nat}{T:List Int}(hm:0<m):∀(k fuel d:Nat),(∀j,j<k->(((d+j) % m:Nat):Int)∈T)->(((d+k) % m:Nat):Int)∉T->d<m->k<fuel ->
  Wg (SD oIn (UI 8) 7) Pr fuel [w,c,s,some (.pub (.int m)),sz,dg,x6,some (.own (T.map int)),some (.pub (.int d))]=.nx [w,c,s,some (.pub (.int m)),sz,dg,x6,some (.own (T.map int)),some (.pub (.int (((d+k) % m:Nat):Int)))]
 |0,fuel+1,d,_,hn,hd,_=>by
  have e0:(d+0) % m=d:=by rw[Nat.add_zero];exact Nat.mod_eq_of_lt hd
  rw[e0]at hn⊢;have e:(T.contains (d:Int))=false:=by simpa using hn
  rw[Wg,L4 (r:=false) (UN rfl) rfl (by rw[SY,e])];rfl
 |k+1,fuel+1,d,hj,hn,hd,hf=>by
  have h0:=hj 0 (by omega);rw[Nat.add_zero,Nat.mod_eq_of_lt hd]at h0;have e:(T.contains (d:Int))=true:=by simpa using h0
  rw[Wg,L4 (r:=true) (UN rfl) rfl (by rw[SY,e])];dsimp only;rw[Qp rfl]
  have hst:Pr [w,c,s,some (.pub (.int m)),sz,dg,x6,some (.own (T.map int)),some (.pub (.int d))]=.nx [w,c,s,some (.pub (.int m)),sz,dg,x6,some (.own (T.map int)),some (.pub (.int (((d+1) % m:Nat):Int)))]:=by
   unfold Pr;refine KI (U2 (U2 (UN rfl) UT KZ) (UN rfl) (XF (by omega))) (Qa rfl) ?_;have e1:((d+1:Nat):Int)=(d:Int)+1:=by omega
   have:((d:Int)+1) % (m:Int)=(((d+1) % m:Nat):Int):=by rw[Int.natCast_emod,e1]
   rw[this];rfl
  rw[hst];dsimp only;have e2:∀j,((d+1) % m+j) % m=(d+(j+1)) % m:=λj=>by rw[Nat.mod_add_mod];congr 1;omega
  have:=HW (c:=c) (s:=s) (w:=w) (sz:=sz) (dg:=dg) (x6:=x6) (T:=T) hm k fuel ((d+1) % m) (λj hjk=>by rw[e2];exact hj (j+1) (by omega)) (by rw[e2];exact hn) (Nat.mod_lt _ hm) (by omega);rw[e2]at this;exact this
theorem HN:∀(a b:List Int),a.Nodup->(∀x∈a,x∈b)->a.length<=b.length
 |[],_,_,_=>JH _
 |x::a,b,hn,h=>by
  have hx:=h x Qk;have hn':=JN.mp hn
  have:=HN a (b.erase x) hn'.2 λy hy=>by
   have hne:y≠x:=λe=>hn'.1 (e ▸ hy)
   exact(List.mem_erase_of_ne hne).mpr (h y (Qj _ hy))
  rw[List.length_erase_of_mem hx]at this;have hp:=J0 hx;rw[QO];omega
theorem jr{m:Nat}{T:List Int}(d:Nat)(hl:T.length<m)(hn:T.Nodup):∃k,k<m/\(∀j,j<k->(((d+j) % m:Nat):Int)∈T)/\(((d+k) % m:Nat):Int)∉T:=by
 have ex:∃k,k<m/\(((d+k) % m:Nat):Int)∉T:=by
  refine Classical.byContradiction λhno=>?_;have all:∀k,k<m->(((d+k) % m:Nat):Int)∈T:=λk hk=>Classical.byContradiction λz=>hno ⟨k,hk,z⟩
  have hsub:∀x:Nat,x<m->((x:Nat):Int)∈T:=λx hx=>by
   have h1:=all ((x+m-d % m) % m) (Nat.mod_lt _ (by omega));have e:(d+(x+m-d % m) % m) % m=x:=by have hdm:d % m<m:=Nat.mod_lt _ (by omega);rw[Nat.add_mod_mod,←Nat.mod_add_mod];rw[show d % m+(x+m-d % m)=x+m by omega,Nat.add_mod_right,Nat.mod_eq_of_lt hx]
   rw[e]at h1;exact h1
  have:=HN ((Ux m).map λx:Nat=>(x:Int)) T (List.Pairwise.map _ (λa b h e=>h (by omega)) List.nodup_range) (λt ht=>by obtain⟨x,hx,rfl⟩:=Qr.mp ht;exact hsub x (Q8.mp hx));rw[Qb,Qu]at this;omega
 obtain⟨k,hk,hkn⟩:=ex;induction k using Nat.strongRecOn with
 |_ k ih=>
  by_cases h:∀j,j<k->(((d+j) % m:Nat):Int)∈T
  ·exact⟨k,hk,h,hkn⟩
  ·obtain⟨j,hj⟩:=Classical.not_forall.mp h;obtain⟨hj1,hj2⟩:=Classical.not_imp.mp hj;exact ih j hj1 (by omega) hj2
theorem Mv{x:D}{m:Nat}(h:m<=1000):Ko (.list [x]) (.int m)=some (.list (Uy m x)):=by
 rw[RX ⟨by omega,by omega,by show 1*_<=_;omega⟩]
 congr 2
 rw[Qt];clear h;induction m with
 |zero=>rfl
 |succ n ih=>rw[Q0,QL,ih,Q0];rfl
noncomputable def szA(n m:Nat):List Int:=[3,2,(m:Int)+1]++Uy m ((n:Int)+1)++Uy m (m:Int)
theorem ME(n m:Nat):(szA n m).length=3+m+m:=by unfold szA;rw[Ql,Ql,QE,QE];rfl
theorem Cw{n m j:Nat}(h:j<m):(szA n m)[3+j]?=some ((n:Int)+1):=by
 unfold szA;rw[Qv (by rw[Ql,QE];show 3+j<3+m;omega),Qw (by show 3<=3+j;omega)]
 show(Uy m ((n:Int)+1))[3+j-3]?=_
 rw[Nat.add_sub_cancel_left,QA,Qp h]
theorem BC{n m j:Nat}(h:j<m):(szA n m)[3+m+j]?=some (m:Int):=by
 unfold szA;have e:([3,2,(m:Int)+1]++Uy m ((n:Int)+1)).length=3+m:=by rw[Ql,QE];rfl
 rw[Qw (by rw[e];omega),e,Nat.add_sub_cancel_left,QA,Qp h]
section
variable{cs:List Int}{ls:L3}
noncomputable def Rq(d:Int):Option Int:=if 0<d then some (d-1)else none
theorem BB(d:Int):oIx (.list [.none,.int (d-1)]) (.int (if decide (0<d)=true then 1 else 0))=some (U5 (Rq d)):=by
 unfold Rq;by_cases h:0<d
 ·rw[Q5 h,Qp rfl,Qp h];exact KW (j:=1) rfl
 ·rw[QI h,Qz (by decide),Qz h];exact KW (j:=0) rfl
theorem BA(g:Good cs ls)(c s:Int):∃r,W2 [U7 cs ls,.int c,.int s]=some r/\∃o old ts,r=Kz o old ts/\Yx cs.length ls.length old ts:=by
 refine XR (Z:=[some (.pub (U7 cs ls)),some (.pub (.int c)),some (.pub (.int s)),none,none,none,none,none,none]) rfl ?_;unfold TD;have l7:=g.l7;have l1:=g.l1;have c6:=g.c6;have c1:=g.c1;have hll:Ka [.list (ls.map KH)]=some (.int ls.length):=by rw[K6,Qb]
 have hlc:Ka [.list (cs.map int)]=some (.int cs.length):=by rw[K6,Qb]
 generalize hm:ls.length=m at *;generalize hn:cs.length=n at *;refine Kj (KI (Zc (UR (Kh rfl UT Xg) UV) hll) (Qa rfl) rfl) ?_;have s1:U3 (.list [.int 3,.int 2,.int ((m:Int)+1)]) (.list (Uy m (.int ((n:Int)+1))))=some (.list (([3,2,(m:Int)+1]++Uy m ((n:Int)+1)).map int)):=by rw[Xo (by rw[QE];show 3+m<=_;omega),QC,List.map_replicate];rfl
 refine Kj (KI (U2 (ZE (UR UT (UR UT (UR (U2 (UN rfl) UT KZ) UV))) (Qa rfl)) (U2 (ZE (UR (U2 (Zc (UR (Kh rfl UT Xh) UV) hlc) UT KZ) UV) (Qa rfl)) (UN rfl) (Mv (by omega))) s1) (Qa rfl) rfl) ?_;have s2:U3 (.list (([3,2,(m:Int)+1]++Uy m ((n:Int)+1)).map int)) (.list (Uy m (.int (m:Int))))=some (.list ((szA n m).map int)):=by rw[Xo (by rw[Qb,Ql,QE,QE];show 3+m+m<=_;omega)];unfold szA;rw[QC (l₂:=Uy m (m:Int)),List.map_replicate (n:=m) (a:=(m:Int))]
 obtain⟨r,hF,dg,rfl,hdl,hdb⟩:=R4 c s (sizes:=szA n m) (λx hx=>by
  unfold szA at hx;rcases QR.mp hx with hx|hx
  ·rcases QR.mp hx with hx|hx
   ·have hx:x=3∨x=2∨x=(m:Int)+1:=by simpa using hx
    omega
   ·rw[(List.mem_replicate.mp hx).2];omega
  ·rw[(List.mem_replicate.mp hx).2];omega) (by rw[ME];omega)
 rw[ME]at hdl;refine Kj (KI (Ki (UR (UN rfl) (UR (UN rfl) (UR (U2 (UN rfl) (U2 (ZE (UR (UN rfl) UV) (Qa rfl)) (UN rfl) (Mv (by omega))) s2) UV))) rfl hF) (Qa rfl) rfl) ?_;have get:∀j,j<3+m+m->∃d,dg[j]?=some d:=λj hj=>⟨dg[j]'(by omega),Qf _⟩
 obtain⟨d0,e0⟩:=get 0 (by omega);obtain⟨d1,e1⟩:=get 1 (by omega);obtain⟨d2,e2⟩:=get 2 (by omega);have b0:=hdb 0 d0 3 e0 rfl;have b1:=hdb 1 d1 2 e1 rfl;have b2:=hdb 2 d2 ((m:Int)+1) e2 rfl;have i0:oIx (.list (dg.map int)) (.int 0)=some (.int d0):=KW (j:=0) (by rw[Qe,e0];rfl);have i1:oIx (.list (dg.map int)) (.int 1)=some (.int d1):=KW (j:=1) (by rw[Qe,e1];rfl);have i2:oIx (.list (dg.map int)) (.int 2)=some (.int d2):=KW (j:=2) (by rw[Qe,e2];rfl);refine Kj (KI UT (Qa rfl) rfl) ?_
 let ol:List Int:=(dg.drop 3).take m
 have oll:ol.length=m:=by show((dg.drop 3).take m).length=m;rw[QN,Jl];omega
 have olb:∀d∈ol,0<=d/\d<(n:Int)+1:=λd hd=>by
  obtain⟨j,hj,e⟩:=J9.mp hd;have hjm:j<m:=by omega
  refine hdb (3+j) d _ ?_ (Cw hjm);have:ol[j]?=some d:=by rw[Qf hj,e]
  show dg[3+j]?=_;rw[←this];show _=((dg.drop 3).take m)[j]?;rw[List.getElem?_take,Qp hjm,List.getElem?_drop]
 have hcut:DL.cutD (dg.map int) (some 3) (some (3+(m:Int)))=ol.map int:=by
  rw[O2 (by decide) (by omega) (by omega)];have t1:(3:Int).toNat=3:=rfl;have t2:(3+(m:Int)).toNat-(3:Int).toNat=m:=by omega
  rw[t2,t1]
 have step:Ho (sIf (UP oEq (UU 5 (UQ (.int 1))) (UQ (.int 1))) (K8 6 (Zx (KU (ZK (UI 5) (Kb (UQ (.int 3)) λx=>Kc (Yt x)) (Kb (UP U3 (UQ (.int 3)) (UI 3)) λx=>Kc (Yt x)))) 1 (gN 9) (UQ true) (UP oIx (KF (UO (UQ .none) (UO (UP KR (UI 9) (UQ (.int 1))) (UM)))) (K0 Ry (UO (UZ UA (K5 (oIB λi j=>decide (j<i)) 9 (UQ (.int 0)))) (UM)))))) (sNx))
   [some (.pub (U7 cs ls)),some (.pub (.int c)),some (.pub (.int s)),some (.pub (.int m)),some (.pub (.list (([3,2,(m:Int)+1]++Uy m ((n:Int)+1)).map int))),some (.pub (.list (dg.map int))),some (.pub .none),none,none]
   (λr=>∃old x6,r=.nx [some (.pub (U7 cs ls)),some (.pub (.int c)),some (.pub (.int s)),some (.pub (.int m)),some (.pub (.list (([3,2,(m:Int)+1]++Uy m ((n:Int)+1)).map int))),some (.pub (.list (dg.map int))),x6,none,none] /\
    (x6=some (.pub (ZR old)) ∨ ∃ws,old=some ws/\x6=some (.own (ws.map U5)))/\(∀ws,old=some ws->ws.length=m)/\∀ws t,old=some ws->some t∈ws->0<=t/\t<n):=by
  have hc:∀a b:Option Sl,K2 (gN 9) (UQ true) (UP oIx (KF (UO (UQ .none) (UO (UP KR (UI 9) (UQ (.int 1))) (UM)))) (K0 Ry (UO (UZ UA (K5 (oIB λi j=>decide (j<i)) 9 (UQ (.int 0)))) (UM)))) (ol.map int) (Kn [some (.pub (U7 cs ls)),some (.pub (.int c)),some (.pub (.int s)),some (.pub (.int m)),some (.pub (.list (([3,2,(m:Int)+1]++Uy m ((n:Int)+1)).map int))),some (.pub (.list (dg.map int))),some (.pub .none),none,none]++Uy 1 none) []=some ((ol.map Rq).map U5):=λ_ _=>by
   refine YX (λZ=>∃x,Z=[some (.pub (U7 cs ls)),some (.pub (.int c)),some (.pub (.int s)),some (.pub (.int m)),some (.pub (.list (([3,2,(m:Int)+1]++Uy m ((n:Int)+1)).map int))),some (.pub (.list (dg.map int))),some (.pub .none),none,none,x]) _ _ _ _ (by simp only[Qb]) ?_ ⟨none,rfl⟩ (by rw[Qb,QB];omega);rintro i d e hd he Z ⟨x,rfl⟩;rw[Qe]at hd;rw[Qe,Qe]at he;cases hw:ol[i]? with
   |none=>rw[hw]at hd;cases hd
   |some z=>
   rw[hw]at hd he;cases hd;cases he;exact⟨_,UW (Qa rfl) rfl,rfl,U2 (ZE (UR UT (UR (U2 (UN rfl) UT Yy) UV)) (Qa rfl)) (Zc (UR (Kv (Zu rfl UT rfl)) UV) rfl) (BB z),_,rfl⟩
  apply Ks
  case h1=>exact U2 (Kh rfl UT i1) UT Xd
  case h2=>
   intro _;refine Zv (Z6 (Z7 (Zp (Wp (UN rfl) (Y0 UT) (Y0 (U2 UT (UN rfl) KZ)) (by rw[WD,hcut])) ZX) (hc none none)) (Qa rfl) rfl) ?_;refine⟨some (ol.map Rq),_,rfl,.inr ⟨_,rfl,rfl⟩,λws e=>?_,λws t e ht=>?_⟩
   ·cases e;rw[Qb];exact oll
   ·cases e;obtain⟨d,hd,e⟩:=Qr.mp ht;have:=olb d hd;unfold Rq at e;split at e
    ·cases e;omega
    ·cases e
  case h3=>exact λ_=>Kx ⟨none,_,rfl,.inl rfl,(λws e=>by cases e),(λws t e=>by cases e)⟩
 refine Kq (Pu step λr hr=>?_);obtain⟨old,x6,rfl,hx6,hol,hob⟩:=hr;refine Kl ?_;refine Kj (Z6 (Wu UV (Qa rfl)) (Qa rfl) rfl) ?_;obtain⟨k2,rfl⟩:∃k:Nat,d2=k:=⟨d2.toNat,by omega⟩
 let tl:List Int:=(dg.drop (3+m)).take k2
 have tll:tl.length=k2:=by show((dg.drop (3+m)).take k2).length=k2;rw[QN,Jl];omega
 have tlb:∀j d,tl[j]?=some d->0<=d/\d<(m:Int):=λj d hj=>by
  have hjl:j<k2:=by have:=(Qg.mp hj).1;omega
  refine hdb (3+m+j) d _ ?_ (BC (by omega));rw[←hj];show _=((dg.drop (3+m)).take k2)[j]?;rw[List.getElem?_take,Qp hjl,List.getElem?_drop]
 have hcut2:DL.cutD (dg.map int) (some (3+(m:Int))) (some (3+(m:Int)+(k2:Int)))=tl.map int:=by
  rw[O2 (by omega) (by omega) (by omega)];have t1:(3+(m:Int)).toNat=3+m:=by omega
  have t2:(3+(m:Int)+(k2:Int)).toNat-(3+(m:Int)).toNat=k2:=by omega
  rw[t2,t1]
 apply Kq;apply Zw (λi Z=>∃(T:List Int)(x8:Option Sl),Z=[some (.pub (U7 cs ls)),some (.pub (.int c)),some (.pub (.int s)),some (.pub (.int m)),some (.pub (.list (([3,2,(m:Int)+1]++Uy m ((n:Int)+1)).map int))),some (.pub (.list (dg.map int))),x6,some (.own (T.map int)),x8]/\T.length=i/\T.Nodup/\∀a∈T,0<=a/\a<(m:Int))
 case h1=>exact Zp (Wp (UN rfl) (Y0 (U2 UT (UN rfl) KZ)) (Y0 (U2 (U2 UT (UN rfl) KZ) (Kh rfl UT i2) KZ)) (by rw[WD,hcut2])) ZX
 case h0=>exact⟨[],_,rfl,rfl,List.nodup_nil,λ_ h=>by cases h⟩
 case hst=>
  rintro i d Z hi ⟨T,x8,rfl,hT,hTn,hTb⟩;rw[Qe]at hi;cases hw:tl[i]? with
  |none=>rw[hw]at hi;cases hi
  |some z=>
  rw[hw]at hi;cases hi;have hz:=tlb i z hw;have hil:i<k2:=by have:=(Qg.mp hw).1;omega
  obtain⟨zz,rfl⟩:∃k:Nat,z=k:=⟨z.toNat,by omega⟩
  refine⟨_,UW (Qa rfl) rfl,?_⟩;unfold Lb;obtain⟨k,hk,hk1,hk2⟩:=jr (m:=m) (T:=T) zz (by omega) hTn;refine Kj (HW (by omega) k 1000 zz hk1 hk2 (by omega) (by omega)) ?_;refine Zv (XS rfl (UN rfl) rfl (by rw[Qb];omega) rfl) ?_;refine K4 ⟨T++[(((zz+k) % m:Nat):Int)],_,by rw[QC (l₁:=T) (f:=int)];rfl,by rw[Ql,hT];rfl,?_,λa ha=>?_⟩
  ·refine List.nodup_append.mpr ⟨hTn,List.nodup_cons.mpr ⟨(by simp),List.nodup_nil⟩,λa ha b hb e=>?_⟩;rw[QW.mp hb]at e;exact hk2 (e ▸ ha)
  ·rcases QR.mp ha with h|h
   ·exact hTb a h
   ·rw[QW.mp h];have:=Nat.mod_lt (zz+k) (show 0<m by omega);exact⟨by omega,by omega⟩
 case hend=>
  rintro Z ⟨T,x8,rfl,hT,hTn,hTb⟩;refine Kl ?_
  obtain⟨o,ho⟩:∃o:Ord,oIx (.list [.str "firsts", .str "full", .str "lasts"]) (.int d0)=some (.str o.tx):=by
   have:d0=0∨d0=1∨d0=2:=by omega
   rcases this with rfl|rfl|rfl
   ·exact⟨.firsts,KW (j:=0) rfl⟩
   ·exact⟨.full,KW (j:=1) rfl⟩
   ·exact⟨.lasts,KW (j:=2) rfl⟩
  have ga:Yx n m old T:=⟨hol,hob,hTn,hTb⟩;rcases hx6 with rfl|⟨ws,rfl,rfl⟩
  ·exact Ku (Yz (UR (U2 (ZE (UR UT (UR UT (UR UT UV))) (Qa rfl)) (Kh rfl UT i0) ho) (UR (UN rfl) (UR (Yj rfl rfl) UV))) (Qa rfl)) ⟨_,rfl,o,_,T,rfl,ga⟩
  ·exact Ku (Yz (UR (U2 (ZE (UR UT (UR UT (UR UT UV))) (Qa rfl)) (Kh rfl UT i0) ho) (UR (Yj rfl rfl) (UR (Yj rfl rfl) UV))) (Qa rfl)) ⟨_,rfl,o,some ws,T,rfl,ga⟩
end
theorem Cv{op:Int->Int->Option D}{j:Nat}{f:M D}{Z Z1 Z':UJ}{a b:Int}{d:D}(h0:Z[j]?=some (some (.pub (.int a))))(h1:f Z=.ok (.int b) Z1)(h2:op a b=some d)(h3:j<Z1.length)(h4:Z1.set j (some (.pub d))=Z'):Xq op j f Z=.nx Z':=by unfold Xq;rw[h0];dsimp only[sB];rw[h1];dsimp only;rw[h2];dsimp only;rw[Qp h3,h4]
theorem mulN{i j:Int}(h : -1000<j/\j<1000):Ym i j=some (.int (i*j)):=by unfold Ym;exact Qp (.inr ⟨by omega,by omega⟩)
theorem RV{b n:Int}(hb : -1000<b/\b<1000)(hn : -1000<=n/\n<=1000):Zs [.int b,.int n]=some (.int (b ^ n.toNat)):=by
 refine KY (Z:=[some (.pub (.int b)),some (.pub (.int n)),none,none]) rfl ?_;unfold T9;refine Kj (KI UT (Qa rfl) rfl) ?_;apply Kq;apply Zw (λi Z=>∃x3,Z=[some (.pub (.int b)),some (.pub (.int n)),some (.pub (.int (b ^ i))),x3])
 case h1=>exact XZ (UR (UN rfl) UV) (XV (by omega) (by omega))
 case h0=>exact⟨_,by rw[Int.pow_zero];rfl⟩
 case hst=>rintro i d Z hi ⟨x3,rfl⟩;refine⟨_,UW (Qa rfl) rfl,?_⟩;unfold MR;refine Zv (Cv rfl (UN rfl) (mulN hb) (Qa rfl) rfl) ?_;exact K4 ⟨_,by rw[Int.pow_succ];rfl⟩
 case hend=>
  rintro Z ⟨x3,rfl⟩;refine Kl (Ku (UN rfl) ?_);rw[Xf]
  congr 4
  omega
noncomputable def Zn:Ord->Int->Int->Int->Int
 |.firsts,b,M,r=>b ^ (M-r).toNat
 |.full,b,M,r=>b ^ M.toNat+b ^ (M-r).toNat
 |.lasts,b,M,r=>b ^ M.toNat-b ^ (r-1).toNat
theorem ko(o:Ord){b M r:Int}(hb : -1000<b/\b<1000)(hM:0<=M/\M<=100)(hr:0<=r/\r<=100):Vg [.str o.tx,.int b,.int M,.int r]=some (.int (Zn o b M r)):=by
 refine KY (Z:=[some (.pub (.str o.tx)),some (.pub (.int b)),some (.pub (.int M)),some (.pub (.int r))]) rfl ?_;unfold T8;have p1:Zs [.int b,.int (M-r)]=some (.int (b ^ (M-r).toNat)):=RV hb ⟨by omega,by omega⟩;have p2:Zs [.int b,.int M]=some (.int (b ^ M.toNat)):=RV hb ⟨by omega,by omega⟩;have p3:Zs [.int b,.int (r-1)]=some (.int (b ^ (r-1).toNat)):=RV hb ⟨by omega,by omega⟩;apply Kq;apply Ks
 case h1=>exact Zu rfl UT (El o)
 case h2=>
  intro h;cases o with
  |firsts=>exact Ku (Ki (UR (UN rfl) (UR (U2 (UN rfl) (UN rfl) Yy) UV)) rfl p1) (XE rfl)
  |full=>cases h
  |lasts=>cases h
 case h3=>
  intro h;refine Kx (Kl ?_);apply Kq;apply Ks
  case h1=>exact Zu rfl UT (NX o)
  case h2=>
   intro h';cases o with
   |full=>exact Ku (U2 (Ki (UR (UN rfl) (UR (UN rfl) UV)) rfl p2) (Ki (UR (UN rfl) (UR (U2 (UN rfl) (UN rfl) Yy) UV)) rfl p1) KZ) (XE rfl)
   |firsts=>cases h
   |lasts=>cases h'
  case h3=>
   intro h';refine Kx (Kl ?_);cases o with
   |firsts=>cases h
   |full=>cases h'
   |lasts=>exact Ku (U2 (Ki (UR (UN rfl) (UR (UN rfl) UV)) rfl p2) (Ki (UR (UN rfl) (UR (U2 (UN rfl) UT Yy) UV)) rfl p3) Yy) rfl
noncomputable def Xb(ts:List Int)(b i r:Int):Int:=if i∈ts then(b-r)*b ^ (ts.length-1-ts.idxOf i)else 0
theorem Gq{n:Nat}:∀{xs:List D},(∀x∈xs,PyData.weight x<=n)->PyData.weightAll xs<=xs.length*(n+1)
 |[],_=>by simp[PyData.weightAll]
 |x::xs,h=>by have h1:=h x Qk;have h2:=Gq (xs:=xs) λy hy=>h y (Qj _ hy);rw[PyData.weightAll,QO,Nat.succ_mul];omega
theorem jq{i:Int}(h:0<=i/\i<1000):(int i).weight<=10:=by
 simp only[PyData.weight];split
 ·omega
 ·rename_i hne;have h0:i.natAbs≠0:=by intro e;exact hne (by simpa using e)
  have:=(Nat.log2_lt h0 (k:=10)).mpr (by omega);omega
theorem kH{ts:List Int}(h:∀a∈ts,0<=a/\a<1000)(hl:ts.length<=1000):PyData.layable0 (.list (ts.map int))=true:=by
 unfold PyData.layable0;have h1:(Uz (ts.map int)).canLay0=true:=VR λx hx=>by obtain⟨y,_,rfl⟩:=Qr.mp hx;rfl
 have h2:(Uz (ts.map int)).depth<=64:=QM (RR (n:=1) (VQ λx hx=>by obtain⟨y,_,rfl⟩:=Qr.mp hx;exact M9 y)) (by decide)
 have h3:(Uz (ts.map int)).weight<=2 ^ 20:=by
  have:=Gq (n:=10) (xs:=ts.map int) λx hx=>by obtain⟨y,hy,rfl⟩:=Qr.mp hx;exact jq (h y hy)
  rw[Qb]at this;simp only[PyData.weight];omega
 rw[h1,Q5 h2,Q5 h3];rfl
theorem Bz{ts:List Int}{k:Int}(hb:∀a∈ts,0<=a/\a<1000)(hl:ts.length<=1000)(h:k∈ts):SZ (.list (ts.map int)) [.int k]=some (.int (ts.idxOf k:Nat)):=by unfold SZ;dsimp only;rw[V8];dsimp only;exact Qp ⟨kH hb hl,h⟩
theorem By{t:Int}{r:List Int}:Yk (.int t) (.list (r.map int))=some (!r.contains t):=by unfold Yk;rw[SY];rfl
theorem kn{ts:List Int}{b i r:Int}(hb : -1000<b/\b<1000)(hr : -1000<r/\r<1000)(hl:ts.length<=100)(ht:∀a∈ts,0<=a/\a<1000):Vf [.list (ts.map int),.int b,.int i,.int r]=some (.int (Xb ts b i r)):=by
 refine KY (Z:=[some (.pub (.list (ts.map int))),some (.pub (.int b)),some (.pub (.int i)),some (.pub (.int r)),none]) rfl ?_;unfold T7 Xb;apply Kq;apply Ks
 case h1=>exact Zu rfl (UN rfl) By
 case h2=>
  intro h;have:¬i∈ts:=by simpa using h
  rw[Qz this];exact Ku UT (XE rfl)
 case h3=>
  intro h;have hm:i∈ts:=by simpa using h
  rw[Qp hm];refine Kx (Kl ?_);have hi:=List.idxOf_lt_length_of_mem hm;have hlen:Ka [.list (ts.map int)]=some (.int ts.length):=by rw[K6,Qb]
  refine Kj (KI (U2 (U2 (Zh rfl hlen) UT Yy) (C9 (UN rfl) (UR (UN rfl) UV) (Bz ht (by omega) hm)) Yy) (Qa rfl) rfl) ?_;have hp:=RV (b:=b) (n:=(ts.length:Int)-1-(ts.idxOf i:Nat)) hb ⟨by omega,by omega⟩;have e:((ts.length:Int)-1-(ts.idxOf i:Nat)).toNat=ts.length-1-ts.idxOf i:=by omega
  rw[e]at hp;exact Ku (U2 (U2 (UN rfl) (UN rfl) Yy) (Ki (UR (UN rfl) (UR (UN rfl) UV)) rfl hp) (Rk (by omega) (by omega))) rfl
noncomputable def YH(old:Option LO)(i:Nat)(t:Int):Int:=match old with
 |none=>0
 |some ws=>if ws[i]?=some (some t)then 1 else 0
section
variable{cs:List Int}{ls:L3}{o:Ord}{old:Option LO}{ts:List Int}
noncomputable def Zj(ls:L3)(o:Ord)(old:Option LO)(ts:List Int)(i:Nat)(rs:List (List Int))(t:Int):Int:=
 (Zn o (ls.length+1) (lng ls) (Zg t rs)*(ls.length+1)+YH old i t)*((lng ls:Int)+1) ^ ts.length+Xb ts (lng ls+1) i (Zg t rs)
theorem HM{b:Int}(h0:0<=b)(h:b<=8):∀{n k:Nat},n<=k->b ^ n<=8 ^ k:=λ{n k} hk=>by
 have e:b=((b.toNat:Nat):Int):=by omega
 rw[e];have h1:b.toNat ^ n<=8 ^ n:=Nat.pow_le_pow_left (by omega) n;have h2:8 ^ n<=8 ^ k:=Nat.pow_le_pow_right (by omega) hk;have h3:((b.toNat ^ n:Nat):Int)<=((8 ^ k:Nat):Int):=by omega
 rw[Int.natCast_pow,Int.natCast_pow]at h3;exact h3
theorem Aa(g:Good cs ls)(ga:Yx cs.length ls.length old ts){i:Nat}{rs:List (List Int)}(hi:ls[i]?=some rs)(t:Int):Wc [U7 cs ls,Kz o old ts,.int (lng ls:Nat),.int i,.int t]=some (.int (Zj ls o old ts i rs t)):=by
 have l7:=g.l7;have l1:=g.l1;have hL:lng ls<=5:=P9 l1 λrs h=>(g.rk rs h).few;have hrk:Zg t rs<=5:=by have:=Nl t rs;have:=(g.rk rs (Qn hi)).few;omega
 have htl:=ga.few;have hlt:i<ls.length:=(Qg.mp hi).1;refine KY (Z:=[some (.pub (U7 cs ls)),some (.pub (Kz o old ts)),some (.pub (.int (lng ls:Nat))),some (.pub (.int i)),some (.pub (.int t)),none,none,none,none,none,none,none,none]) rfl ?_;unfold T6 Zj;refine Kj (VD (UN rfl) (KB rfl (U4 (UW (Qa rfl) rfl) (U4 (UW (Qa rfl) rfl) (U4 (UW (Qa rfl) rfl) KD))))) ?_;refine Kj (KI (Kh rfl UT Xg) (Qa rfl) rfl) ?_;refine Kj (KI (Ki (UR (Kh rfl (UN rfl) (NK hi)) (UR (UN rfl) UV)) rfl (jv t rs)) (Qa rfl) rfl) ?_;have hll:Ka [.list (ls.map KH)]=some (.int ls.length):=by rw[K6,Qb]
 have htl':Ka [.list (ts.map int)]=some (.int ts.length):=by rw[K6,Qb]
 refine Kj (KI (U2 (Zh rfl hll) UT KZ) (Qa rfl) rfl) ?_
 have hk:∀Z:UJ,Z[6]?=some (some (.pub (ZR old)))->Z[3]?=some (some (.pub (.int i)))->Z[4]?=some (some (.pub (.int t))) ->
   mIf (K1 (UZ (λd=>!isNon d) (UI 6)) (UP oEq (UU 6 (UI 3)) (UI 4))) (UQ (int 1)) (UQ (.int 0)) Z=.ok (.int (YH old i t)) Z:=λZ r6 r3 r4=>by
  cases old with
  |none=>exact Oc (V2 (Kv (UN r6))) UT
  |some ws=>
   have hw:ws.length=ls.length:=ga.len ws rfl;have hwi:ws[i]?=some ws[i]:=Qf (by omega);have hx:oIx (.list (ws.map U5)) (.int i)=some (U5 ws[i]):=SS (by omega)
   have ht:(K1 (UZ (λd=>!isNon d) (UI 6)) (UP oEq (UU 6 (UI 3)) (UI 4))) Z=.ok (decide (ws[i]=some t)) Z:=
    V1 (Kv (UN r6)) (U2 (Kh r6 (UN r3) hx) (UN r4) (RN (b:=some t)))
   rw[FE ht UT UT]
   congr 1
   unfold YH;dsimp only;rw[hwi];by_cases h:ws[i]=some t
   ·rw[Q5 h,Qp rfl,Qp (by rw[h])]
   ·rw[QI h,Qz (by decide),Qz (λe=>h (QT e))]
 refine Kj (KI (hk _ rfl rfl rfl) (Qa rfl) rfl) ?_;have h1:=ko o (b:=(ls.length:Int)+1) (M:=(lng ls:Nat)) (r:=(Zg t rs:Nat)) ⟨by omega,by omega⟩ ⟨by omega,by omega⟩ ⟨by omega,by omega⟩;have h2:=RV (b:=(lng ls:Int)+1) (n:=(ts.length:Nat)) ⟨by omega,by omega⟩ ⟨by omega,by omega⟩;have h3:=kn (ts:=ts) (b:=(lng ls:Int)+1) (i:=i) (r:=(Zg t rs:Nat)) ⟨by omega,by omega⟩ ⟨by omega,by omega⟩ (by omega) (λa ha=>by have:=ga.there a ha;omega);rw[Qt]at h2;refine Kj (KI (U2 (U2 (Ki (UR (UN rfl) (UR (UN rfl) (UR (UN rfl) (UR (UN rfl) UV)))) rfl h1) (UN rfl) (XX (by omega) (by omega))) (UN rfl) KZ) (Qa rfl) rfl) ?_;have hp:((lng ls:Int)+1) ^ ts.length<=8 ^ 7:=HM (by omega) (by omega) (by omega);have hp0:0<=((lng ls:Int)+1) ^ ts.length:=Int.pow_nonneg (by omega);exact Ku (U2 (U2 (UN rfl) (Ki (UR (U2 (UN rfl) UT KZ) (UR (Zh rfl htl') UV)) rfl h2) (XX (by omega) (by omega))) (Ki (UR (UN rfl) (UR (U2 (UN rfl) UT KZ) (UR (UN rfl) (UR (UN rfl) UV)))) rfl h3) KZ) rfl
end
theorem PN{s:D->UJ->Option UJ}{t:M Bool}{g:M D}(I:UJ->Prop):∀(ds:List D)(qs:List (Option D))(Z:UJ)(es:List D),qs.length=ds.length ->
  (∀(i:Nat) d e,ds[i]?=some d->qs[i]?=some e->∀Z,I Z->∃Z1,s d Z=some Z1/\t Z1=.ok e.isSome Z1/\(∀x,e=some x->g Z1=.ok x Z1)/\I (Kn Z1))->I Z->es.length+ds.length<=1000000->K2 s t g ds Z es=some (es++qs.filterMap id)
 |[],[],Z,es,_,_,_,_=>by rw[K2];simp
 |d::r,e::q,Z,es,hl,st,h0,hz=>by
  obtain⟨Z1,e1,e2,e3,h1⟩:=st 0 d e rfl rfl Z h0;rw[QO]at hz;have ih:=λes' hz'=>PN I r q (Kn Z1) es' (by simpa using hl) (λi d' e' x y=>st (i+1) d' e' (by simpa using x) (by simpa using y)) h1 hz'
  rw[K2,e1];dsimp only;rw[e2];dsimp only;cases e with
  |none=>rw[if_neg (show ¬(none:Option D).isSome=true by simp),ih es (by omega)];rfl
  |some x=>rw[Qp (show(some x).isSome=true from rfl),e3 x rfl];dsimp only;rw[Qp (by omega),ih (es++[x]) (by rw[Ql,Q6];omega),Ja];rfl
noncomputable def Y3(W:Nat->List (List Int)->Int->Int):Nat->L3->LO->LO
 |k,rs::ls,o::r=>(o.map (W k rs))::Y3 W (k+1) ls r
 |_,_,_=>[]
noncomputable def YA(l:LO):Int:=(l.filterMap id).sum
theorem HL{o:Option Int}{l:LO}:YA (o::l)=o.getD 0+YA l:=by
 cases o with
 |none=>show YA l=0+YA l;omega
 |some x=>show(x::l.filterMap id).sum=_;rw[Ue];rfl
section
variable{cs:List Int}{ls:L3}{o:Ord}{old:Option LO}{ts:List Int}{ws:LO}
noncomputable def U8(ls:L3)(o:Ord)(old:Option LO)(ts:List Int)(a t:Int):Int:=Zj ls o old ts a.toNat (ls.getD a.toNat []) t
noncomputable def Zt(V:Int->Int->Int)(q:Int×Int):D:=.tuple [.int q.1,.int q.2,.int (V q.1 q.2)]
theorem kM(g:Good cs ls)(ga:Yx cs.length ls.length old ts):Ve [U7 cs ls,Kz o old ts]=some (.list ((U1 0 ls).map (Zt (U8 ls o old ts)))):=by
 refine KY (Z:=[some (.pub (U7 cs ls)),some (.pub (Kz o old ts)),none]) rfl ?_;unfold T5;refine Kj (VJ (Ki (UR (UN rfl) (UR (UN rfl) UV)) rfl (Ek g ga))) ?_;refine Kj (KI (Ki (UR (UN rfl) UV) rfl (jt g)) (Qa rfl) rfl) ?_;have few:(U1 0 ls).length<=42:=by rw[(V4 ls 0).length_eq];exact RQ g
 have hc:K2 (gT 2 (gNC (gN 3) (gNC (gN 4) (gN0)))) (UQ true) (KE (UO (UI 3) (UO (UI 4) (UO (UX 5 Wc (UO (UI 0) (UO (UI 1) (UO (UI 2) (UO (UI 3) (UO (UI 4) (UM))))))) (UM))))) ((U1 0 ls).map Kf) (Kn [some (.pub (U7 cs ls)),some (.pub (Kz o old ts)),some (.pub (.int (lng ls:Nat)))]++Uy 2 none) []=some ((U1 0 ls).map (Zt (U8 ls o old ts))):=by
  refine YX (λZ=>∃x y,Z=[some (.pub (U7 cs ls)),some (.pub (Kz o old ts)),some (.pub (.int (lng ls:Nat))),x,y]) _ _ _ _ (by simp only[Qb]) ?_ ⟨none,none,rfl⟩ (by rw[Qb,QB];omega);rintro i d e hd he Z ⟨x,y,rfl⟩;rw[Qe]at hd he;cases hw:(U1 0 ls)[i]? with
  |none=>rw[hw]at hd;cases hd
  |some q=>
  rw[hw]at hd he;cases hd;cases he;obtain⟨a,t⟩:=q;obtain⟨j,rs,hj,ha,ht⟩:=Wl (Qn hw);have ha:a=(j:Int):=by rw[QX]at ha;exact ha
  subst ha;have hv:U8 ls o old ts j t=Zj ls o old ts j rs t:=by unfold U8;rw[Qt,Qo,hj];rfl
  refine⟨_,KB rfl (U4 (UW (Qa rfl) rfl) (U4 (UW (Qa rfl) rfl) KD)),rfl,?_,_,_,rfl⟩;unfold Zt;dsimp only;rw[hv];exact Yz (UR (UN rfl) (UR (UN rfl) (UR (Ki (UR (UN rfl) (UR (UN rfl) (UR (UN rfl) (UR (UN rfl) (UR (UN rfl) UV))))) rfl (Aa g ga hj t)) UV))) (Qa rfl)
 exact Ku (Kv (Z7 (Zp (Ki (UR (UN rfl) UV) rfl (kO g)) ZX) hc)) rfl
end
theorem Nr{B:Nat}:∀{xs:List D},(∀x∈xs,PyData.leavesShort B x=true)->PyData.leavesShortAll B xs=true
 |[],_=>rfl
 |x::xs,h=>by rw[PyData.leavesShortAll,h x Qk,Nr λy hy=>h y (Qj _ hy)];rfl
theorem Nv:∀{xs:List D},(∀x∈xs,PyData.showable x=true)->PyData.showableAll xs=true
 |[],_=>rfl
 |x::xs,h=>by rw[PyData.showableAll,h x Qk,Nv λy hy=>h y (Qj _ hy)];rfl
theorem Nu{n:Nat}:∀{xs:List D},(∀x∈xs,PyData.bulk x<=n)->PyData.bulkAll xs<=xs.length*(n+1)
 |[],_=>by simp[PyData.bulkAll]
 |x::xs,h=>by have h1:=h x Qk;have h2:=Nu (xs:=xs) λy hy=>h y (Qj _ hy);rw[PyData.bulkAll,QO,Nat.succ_mul];omega
theorem ten{i:Int}(h:0<=i/\i<10):(int i).leavesShort 8=true/\(int i).showable=true:=by
 have:i=0∨i=1∨i=2∨i=3∨i=4∨i=5∨i=6∨i=7∨i=8∨i=9:=by omega
 rcases this with rfl|rfl|rfl|rfl|rfl|rfl|rfl|rfl|rfl|rfl<;>decide +kernel
def Sy(d:D):Prop:=d.canLay0=true/\d.leavesShort 8=true/\d.showable=true/\d.depth<=2/\d.bulk<=20
theorem HK{ws:LO}(h:∀t,some t∈ws->0<=t/\t<10)(hl:ws.length<=20):Sy (Ke ws):=by
 refine⟨OT ws,Nr λx hx=>?_,Nv λx hx=>?_,LV ws,?_⟩
 ·obtain⟨o,ho,rfl⟩:=Qr.mp hx;cases o with
  |none=>rfl
  |some t=>exact(ten (h t ho)).1
 ·obtain⟨o,ho,rfl⟩:=Qr.mp hx;cases o with
  |none=>rfl
  |some t=>exact(ten (h t ho)).2
 ·have:=Nu (n:=0) (xs:=ws.map U5) λx hx=>by
   obtain⟨o,ho,rfl⟩:=Qr.mp hx;cases o<;>exact Qs 0
  rw[Qb]at this;show PyData.bulkAll (ws.map U5)<=20;omega
theorem Bx{n m:Nat}{o:Ord}{old:Option LO}{ts:List Int}(ga:Yx n m old ts)(hn:n<=6)(hm:m<=7):VT [Kz o old ts]=some (.str (Kz o old ts).shown):=by
 have e1:Sy (ZR old):=by
  cases old with
  |none=>exact⟨rfl,rfl,rfl,by decide,by decide⟩
  |some ws=>exact HK (λt h=>by have:=ga.old ws t rfl h;omega) (by have:=ga.len ws rfl;omega)
 have e2:Sy (.list (ts.map int)):=by
  have:=HK (ws:=ts.map some) (λt h=>by
   obtain⟨x,hx,e⟩:=Qr.mp h;cases e;have:=ga.there t hx
   omega) (by rw[Qb];have:=ga.few;omega)
  unfold Ke at this;rw[QY]at this;exact this
 obtain⟨a1,a2,a3,a4,a5⟩:=e1;obtain⟨b1,b2,b3,b4,b5⟩:=e2;have s1:(UB o.tx).canLay0=true:=by cases o<;>decide +kernel
 have s2:(UB o.tx).leavesShort 8=true:=by cases o<;>decide +kernel
 have s5:(UB o.tx).bulk<=6:=by cases o<;>decide +kernel
 have all:∀{P:D->Prop},P (.str o.tx)->P (ZR old)->P (.list (ts.map int))->∀x∈[UB o.tx,ZR old,.list (ts.map int)],P x:=λh1 h2 h3 x hx=>by
  have hx:x=.str o.tx∨x=ZR old∨x=.list (ts.map int):=by simpa using hx
  rcases hx with rfl|rfl|rfl
  ·exact h1
  ·exact h2
  ·exact h3
 have hc:(Kz o old ts).canLay0=true:=VR (all s1 a1 b1);have hs:(Kz o old ts).leavesShort 8=true:=Nr (all s2 a2 b2);have hb:(Kz o old ts).bulk<=100:=by have:=Nu (n:=20) (all (P:=λx=>PyData.bulk x<=20) (by omega) a5 b5);exact QM this (show 3*21<=100 by decide)
 refine C5 ⟨hc,Nv (all rfl a3 b3),PyData.hasDict_of_canLay _ hc,?_,?_⟩
 ·have:=VQ (n:=2) (all (P:=λx=>UE x<=2) (by simp[UE]) a4 b4)
  show(PyData.tuple _).depth<=50
  simp only[UE];omega
 ·have:=PyData.shown_le_bulk 8 (by decide) _ hs;omega
section
variable{cs:List Int}{ls:L3}
theorem Cu(g:Good cs ls):W1 [U7 cs ls]=some (U7 cs ls):=by
 refine KY (Z:=[some (.pub (U7 cs ls)),none,none]) rfl ?_;unfold Tz;have l7:=g.l7;refine Kj (Z6 (Wu UV (Qa rfl)) (Qa rfl) rfl) ?_;apply Kq;apply Zw (λi Z=>∃x2,Z=[some (.pub (U7 cs ls)),some (.own ((ls.take i).map KH)),x2])
 case h1=>exact Zp (Kh rfl UT Xg) ZX
 case h0=>exact⟨_,rfl⟩
 case hst=>
  rintro i d Z hi ⟨x2,rfl⟩;rw[Qe]at hi;cases hw:ls[i]? with
  |none=>rw[hw]at hi;cases hi
  |some rs=>
  rw[hw]at hi;cases hi;have hrs:rs.length<=5:=(g.rk rs (Qn hw)).few;refine⟨_,UW (Qa rfl) rfl,?_⟩;unfold MP
  have hc:∀x1:Option Sl,K2 (gN 3) (UQ true) (UZ Uz (Xl 3)) (rs.map Zb) (Kn [some (.pub (U7 cs ls)),x1,some (.pub (KH rs))]++Uy 1 none) []=some (rs.map Zb):=λx1=>by
   refine YX (λZ=>∃a x,Z=[some (.pub (U7 cs ls)),a,some (.pub (KH rs)),x]) _ _ _ _ rfl ?_ ⟨_,none,rfl⟩ (by rw[Qb,QB];omega);rintro j d e hd he Z ⟨a,x,rfl⟩;rw[hd]at he;cases he;rw[Qe]at hd;cases hwj:rs[j]? with
   |none=>rw[hwj]at hd;cases hd
   |some r=>
   rw[hwj]at hd;cases hd;exact⟨_,UW (Qa rfl) rfl,rfl,Kv (Rj rfl (show YK [Zb r]=some (r.map int)from rfl)),_,_,rfl⟩
  refine Zv (XS rfl (Kv (Z7 (Zp (UN rfl) ZX) (hc _))) rfl (by rw[Qb,QN];omega) rfl) ?_;refine K4 ⟨some (.pub (KH rs)),?_⟩;rw[JJ,hw,QC];rfl
 case hend=>rintro Z ⟨x2,rfl⟩;rw[Qb,Jz];exact Kl (Ku (Yz (UR (Kv (KS (UR (Kh rfl UT Xh) UV) (ZZ (show YK [.list (cs.map int)]=some (cs.map int)from rfl)))) (UR (Yj rfl rfl) UV)) (Qa rfl)) rfl)
end
theorem WE{a b:Str}(h1:UC a=true)(h2:UC b=true):UC (a++b)=true:=by unfold UC at *;rw[PySem.Str.cps_append,Array.all_append,h1,h2];rfl
theorem Gu:∀(ts:List Str)(k:Nat)(acc:Str),UC acc=true->(∀t∈ts,UC t=true)->UC (textFrom k acc ts)=true
 |[],k,acc,h,_=>h
 |t::r,k,acc,h,ht=>by
  refine Gu r (k+1) _ (WE (WE h ?_) (ht t Qk)) λx hx=>ht x (Qj _ hx)
  split<;>decide +kernel
theorem Gp:∀{xs:List D}{t:Str},t∈PyData.shownAll xs->∃x∈xs,t=x.shown
 |[],t,h=>by cases h
 |x::xs,t,h=>by
  rw[PyData.shownAll]at h;rcases QQ.mp h with h|h
  ·exact⟨x,Qk,h⟩
  ·obtain⟨y,hy,e⟩:=Gp h;exact⟨y,Qj _ hy,e⟩
theorem GH{xs:List D}(h:∀x∈xs,UC x.shown=true):UC (Uz xs).shown=true:=by show UC (textFrom 0 "[" (PyData.shownAll xs) ++ "]")=true;exact WE (Gu _ _ _ (by decide +kernel) λt ht=>by obtain⟨x,hx,rfl⟩:=Gp ht;exact h x hx) (by decide +kernel)
theorem Mu{i:Int}(h:0<=i/\i<10):UC (int i).shown=true:=by
 have:i=0∨i=1∨i=2∨i=3∨i=4∨i=5∨i=6∨i=7∨i=8∨i=9:=by omega
 rcases this with rfl|rfl|rfl|rfl|rfl|rfl|rfl|rfl|rfl|rfl<;>decide +kernel
theorem Ct{ws:LO}(h:∀t,some t∈ws->0<=t/\t<10):UC (Ke ws).shown=true:=GH λx hx=>by
 obtain⟨o,ho,rfl⟩:=Qr.mp hx;cases o with
 |none=>decide +kernel
 |some t=>exact Mu (h t ho)
theorem km{n m:Nat}{o:Ord}{old:Option LO}{ts:List Int}(ga:Yx n m old ts)(hn:n<=6)(hm:m<=7):UC (Kz o old ts).shown=true:=by
 have e1:UC (ZR old).shown=true:=by
  cases old with
  |none=>decide +kernel
  |some ws=>exact Ct λt h=>by have:=ga.old ws t rfl h;omega
 have e2:UC (Uz (ts.map int)).shown=true:=GH λx hx=>by obtain⟨y,hy,rfl⟩:=Qr.mp hx;exact Mu (by have:=ga.there y hy;omega)
 have e0:UC (UB o.tx).shown=true:=by cases o<;>decide +kernel
 show UC (("(" : Str)++(_ ++ ", " ++ (_ ++ ", " ++ _)) ++ ")")=true;exact WE (WE (by decide +kernel) (WE (WE e0 (by decide +kernel)) (WE (WE e1 (by decide +kernel)) e2))) (by decide +kernel)
section
variable{cs:List Int}{ls:L3}{ws:LO}
theorem kX(g:Good cs ls):W3 [U7 cs ls]=some (.int (lng ls:Nat)):=by
 refine KY (Z:=[some (.pub (U7 cs ls))]) rfl ?_;unfold TH
 have hc:K2 (gN 1) (UQ true) (K3 1) (ls.map KH) (Kn [some (.pub (U7 cs ls))]++Uy 1 none) []=some ((ls.map λrs=>(rs.length:Int)).map int):=by
  refine YX (λZ=>∃x,Z=[some (.pub (U7 cs ls)),x]) _ _ _ _ (by rw[Qb,Qb,Qb]) ?_ ⟨none,rfl⟩ (by rw[Qb,QB];have:=g.l7;omega);rintro i d e hd he Z ⟨x,rfl⟩;rw[Qe]at hd;rw[Qe,Qe]at he;cases hl:ls[i]? with
  |none=>rw[hl]at hd;cases hd
  |some rs=>
  rw[hl]at hd he;cases hd;cases he;exact⟨_,UW (Qa rfl) rfl,rfl,Zh rfl (HP rs),_,rfl⟩
 refine Ku (Zc (UR (Kv (Z7 (Zp (Kh rfl UT Xg) ZX) hc)) UV) (O4 (by rw[Qb];have:=g.l1;omega))) ?_;rw[OL g.l1]
theorem kj{i:Nat}{rs:List (List Int)}(h:ls[i]?=some rs)(t:Int):W4 [U7 cs ls,.int i,.int t]=some (.int (Zg t rs:Nat)):=by
 refine KY (Z:=[some (.pub (U7 cs ls)),some (.pub (.int i)),some (.pub (.int t)),none,none]) rfl ?_;unfold TJ;apply Kq;apply Zw (λi' Z=>(∃x2 x3,Z=[some (.pub (U7 cs ls)),some (.pub (.int i)),some (.pub (.int t)),x2,x3])/\∀j r,j<i'->rs[j]?=some r->r.contains t=false)
 case h1=>exact Xe (UR (U2 (Kh rfl UT Xg) (UN rfl) (NK h)) UV) Xn
 case h0=>exact⟨⟨_,_,rfl⟩,λj r h=>absurd h (JR _)⟩
 case hst=>
  rintro k d Z hi ⟨⟨x2,x3,rfl⟩,hb⟩;obtain⟨x,hx,rfl⟩:=YV hi;rw[Qe]at hx;cases hr:rs[k]? with
  |none=>rw[hr]at hx;cases hx
  |some r=>
   rw[hr]at hx;cases hx;refine⟨_,KB rfl (U4 (UW (Qa rfl) rfl) (U4 (UW (Qa rfl) rfl) KD)),?_⟩;unfold MM;apply Ks
   case h1=>exact Zu rfl (UN rfl) (ON t r)
   case h2=>
    intro hh;refine Ku (U2 (UN rfl) UT KZ) (V7 ?_);rw[Hv hr hh hb];refine⟨?_⟩
    congr 2
    omega
   case h3=>
    intro hh;refine Kx (K4 ⟨⟨_,_,rfl⟩,λj r' hj e=>?_⟩);rcases Ju.mp hj with hj|rfl
    ·exact hb j r' hj e
    ·rw[hr]at e;cases e;exact hh
 case hend=>rintro Z ⟨⟨x2,x3,rfl⟩,hb⟩;refine Kl (Ku UT ?_);rw[Hu (λj r hj e=>hb j r (by rw[Yr,Qb];exact hj) e)];rfl
end
section
variable{cs:List Int}{ls:L3}{ws us:LO}
theorem ix_c{t:Int}(h0:0<=t)(h:t<cs.length):oIx (.list (cs.map int)) (.int t)=some (.int (cs.getD t.toNat 0)):=by
 have e:t=((t.toNat:Nat):Int):=by omega
 rw[e];refine KW ?_;rw[Qe,Qf (by omega),Qo,Qt,Qf (by omega)];rfl
theorem HV{t:Int}{fl:List Int}:Yk (.int t) (.list ((Ze fl).map int))=some (!fl.contains t):=by
 have e:(Ze fl).contains t=fl.contains t:=by rw[Bool.eq_iff_iff];simp only[List.contains_iff_mem];exact(YY fl).mem_iff
 unfold Yk;rw[SY,e];rfl
theorem PZ(i:Int):ZL [.int i]=some (.bool true):=by refine KY (Z:=[some (.pub (.int i))]) rfl ?_;unfold WK;exact Ku (Ra (Kv (k:=λd=>UA (Kr d "int")) (UN rfl)) (λ_=>OG (Kv (k:=λd=>UA (Kr d "bool")) (UN rfl)))) rfl
theorem kU(g:Good cs ls)(hl:us.length=ls.length)(hr:∀t,some t∈us->0<=t/\t<cs.length):∃r,YS [U7 cs ls,Ke us]=some r/\∃b,r=.bool b/\(b=true->Deal cs ls us):=by
 refine XR (Z:=[some (.pub (U7 cs ls)),some (.pub (Ke us)),none,none]) rfl ?_;unfold WJ;have l7:=g.l7;have hll:Ka [.list (ls.map KH)]=some (.int ls.length):=by rw[K6,Qb]
 have hul:Ka [Ke us]=some (.int us.length):=by unfold Ke;rw[K6,Qb]
 have hne:oNe (.int us.length) (.int ls.length)=some false:=by rw[XY,hl];simp
 have hsz:∀Z:UJ,Z[0]?=some (some (.pub (U7 cs ls)))->Z[1]?=some (some (.pub (Ke us)))->UP oNe (K3 1) (K0 Ka (UO (UU 0 (UQ (.int 1))) UM)) Z=.ok false Z:=λZ r0 r1=>
  U2 (Zh r1 hul) (Zc (UR (Kh r0 UT Xg) UV) hll) hne
 apply Kq;apply Ks
 case h1=>exact ZC (ZN (ZY (Kv (k:=λd=>UA (Kr d "list")) (x:=Ke us) (UN rfl)))) (hsz _ rfl rfl)
 case h2=>intro h;cases h
 case h3=>
  intro _;refine Kx (Kl ?_);apply Kq;apply Zw (λi Z=>(∃x2 x3,Z=[some (.pub (U7 cs ls)),some (.pub (Ke us)),x2,x3])/\∀(j:Nat) t rs,j<i->us[j]?=some (some t)->ls[j]?=some rs->t∈rs.flatten/\((us.count (some t):Nat):Int)<=cs.getD t.toNat 0)
  case h1=>exact Xe (UR (UN rfl) UV) Xn
  case h0=>exact⟨⟨_,_,rfl⟩,λj t rs h=>absurd h (JR _)⟩
  case hst=>
   rintro i d Z hi ⟨⟨x2,x3,rfl⟩,hb⟩;obtain⟨z,hz,rfl⟩:=YV hi;rw[Qe]at hz;cases hwi:us[i]? with
   |none=>rw[hwi]at hz;cases hz
   |some o=>
   rw[hwi]at hz;cases hz;have hil:i<ls.length:=by have:=(Qg.mp hwi).1;omega
   have hls:ls[i]?=some ls[i]:=Qf hil;rw[QX];refine⟨_,KB rfl (U4 (UW (Qa rfl) rfl) (U4 (UW (Qa rfl) rfl) KD)),?_⟩;unfold OF;cases o with
   |none=>
    apply Kq;apply Ks
    case h1=>exact V2 (Kv (k:=λd=>!isNon d) (x:=PyData.none) (UN rfl))
    case h2=>intro h;cases h
    case h3=>
     intro _;refine Kx (Kl ?_);apply Ks
     case h1=>exact V2 (Kv (k:=λd=>!isNon d) (x:=PyData.none) (UN rfl))
     case h2=>intro h;cases h
     case h3=>
      intro _;refine Kx (K4 ⟨⟨_,_,rfl⟩,λj t rs hj e1 e2=>?_⟩);rcases Ju.mp hj with hj|rfl
      ·exact hb j t rs hj e1 e2
      ·rw[hwi]at e1;cases e1
   |some t=>
    have ht:=hr t (Qn hwi);have hfl:(ls[i]).flatten.length<64:=by have gr:=g.rk ls[i] (Qn hls);have:=WB cs.length _ gr.once gr.flat;have:=g.c6;omega
    apply Kq;apply Ks
    case h1=>exact V1 (Kv (k:=λd=>!isNon d) (x:=int t) (UN rfl)) (ZC (ZN (ZY (Ki (UR (UN rfl) UV) rfl (PZ t)))) (Zu rfl (Ki (UR (UN rfl) (UR (UN rfl) UV)) rfl (Rg hls hfl)) HV))
    case h2=>exact λ_=>Ku UT (XE (V7 ⟨_,rfl,false,rfl,λh=>by cases h⟩))
    case h3=>
     intro h1;refine Kx (Kl ?_);apply Ks
     case h1=>exact V1 (Kv (k:=λd=>!isNon d) (x:=int t) (UN rfl)) (U2 (Px (UN rfl) (UR (UN rfl) UV) PY) (U2 (Kh rfl UT Xh) (UN rfl) (ix_c ht.1 ht.2)) rfl)
     case h2=>exact λ_=>Ku UT (V7 ⟨_,rfl,false,rfl,λh=>by cases h⟩)
     case h3=>
      intro h2;refine Kx (K4 ⟨⟨_,_,rfl⟩,λj t' rs hj e1 e2=>?_⟩);rcases Ju.mp hj with hj|rfl
      ·exact hb j t' rs hj e1 e2
      ·rw[hwi]at e1;rw[hls]at e2;cases e1;cases e2;have h2:=Jb h2;exact⟨by simpa using h1,by omega⟩
  case hend=>
   rintro Z ⟨⟨x2,x3,rfl⟩,hb⟩;refine Kl (Ku UT ⟨_,rfl,true,rfl,λ_=>⟨hl,λi t rs h1 h2=>?_,λk c hk=>?_⟩⟩)
   ·exact(hb i t rs (by rw[Yr,Qb];exact(Qg.mp h1).1) h1 h2).1
   ·rcases Nat.eq_zero_or_pos (us.count (some (k:Int)))with h0|h0
    ·rw[h0];exact(g.c7 c (Qn hk)).1
    ·obtain⟨i,hi,e⟩:=J9.mp (List.count_pos_iff.mp h0);have e1:us[i]?=some (some (k:Int)):=by rw[Qf hi,e]
     have hil:i<ls.length:=by omega
     have:=(hb i k ls[i] (by rw[Yr,Qb];exact hi) e1 (Qf hil)).2;rw[Qt,Qo,hk]at this;exact this
theorem Deal.range(g:Good cs ls)(dl:Deal cs ls ws):∀t,some t∈ws->0<=t/\t<cs.length:=λt ht=>by
 obtain⟨i,hi,e⟩:=J9.mp ht;have hil:i<ls.length:=by have:=dl.len;omega
 have hls:ls[i]?=some ls[i]:=Qf hil;exact(g.rk _ (Qn hls)).flat t (dl.wish i t _ (by rw[Qf hi,e]) hls)
end
section
variable{cs:List Int}{ls:L3}{ws:LO}
theorem LS(g:Good cs ls)(dl:Deal cs ls ws){us:LO}{x2 x3 x4 x5 x6 x8:Option Sl}(hl:us.length=ls.length)(hr:∀t,some t∈us->0<=t/\t<cs.length) :
  Ho (US (sIf (K7 (SB 2 YS (UO (UI 0) (SU 7 (UM))))) (UY (UI 7)) (sNx)) (UY (UZ Uz (Xl 1))))
   [some (.pub (U7 cs ls)),some (.pub (Ke ws)),x2,x3,x4,x5,x6,some (.own (us.map U5)),x8] (λo=>∃d,o=Out.rt d/\∃vs,d=Ke vs/\Deal cs ls vs):=by
 obtain⟨r,hF,b,rfl,hb⟩:=kU g hl hr;apply Kq;apply Ks
 case h1=>exact ZY (D9 (UR (UN rfl) (C2 rfl UV rfl)) rfl hF)
 case h2=>exact λh=>Ku (Yj rfl rfl) (XE ⟨_,rfl,us,rfl,hb h⟩)
 case h3=>exact λ_=>Kx (Kl (Ku (Kv (Rj rfl (show YK [Ke ws]=some (ws.map U5)from rfl))) ⟨_,rfl,ws,rfl,dl⟩))
theorem Oo{us:LO}{k:Nat}{o:Option Int}:(us.map U5).set k (U5 o)=(us.set k o).map U5:=by rw[List.map_set]
theorem B9(g:Good cs ls)(dl:Deal cs ls ws)(c s:Int):∃r,W0 [U7 cs ls,Ke ws,.int c,.int s]=some r/\∃vs,r=Ke vs/\Deal cs ls vs:=by
 refine XR (Z:=[some (.pub (U7 cs ls)),some (.pub (Ke ws)),some (.pub (.int c)),some (.pub (.int s)),none,none,none,none,none]) rfl ?_;unfold Tv;have l7:=g.l7;have l1:=g.l1;have len:=dl.len
 obtain⟨r,hF,dg,rfl,hdl,hdb⟩:=R4 c s (sizes:=[2,7,7,61]) (λx hx=>by
  have hx:x=2∨x=7∨x=61:=by simpa using hx
  omega) (by show 4<=1000;decide)
 have hd4:dg.length=4:=hdl
 match dg,hd4 with
 |[d0,d1,d2,d3],_=>
 have b1:=hdb 1 d1 _ rfl rfl;have b2:=hdb 2 d2 _ rfl rfl;have b3:=hdb 3 d3 _ rfl rfl;refine Kj (KI (Ki (UR (UN rfl) (UR (UN rfl) (UR (ZE (UR UT (UR UT (UR UT (UR UT UV)))) (Qa rfl)) UV))) rfl hF) (Qa rfl) rfl) ?_;have x0:oIx (.list ([d0,d1,d2,d3].map int)) (.int 0)=some (.int d0):=KW (j:=0) rfl;have x1:oIx (.list ([d0,d1,d2,d3].map int)) (.int 1)=some (.int d1):=KW (j:=1) rfl;have x2:oIx (.list ([d0,d1,d2,d3].map int)) (.int 2)=some (.int d2):=KW (j:=2) rfl;have x3:oIx (.list ([d0,d1,d2,d3].map int)) (.int 3)=some (.int d3):=KW (j:=3) rfl;have hul:Ka [Ke ws]=some (.int ws.length):=by unfold Ke;rw[K6,Qb]
 obtain⟨a,ha⟩:∃a:Nat,d1 % (ws.length:Int)=a:=⟨(d1 % (ws.length:Int)).toNat,by have:=J5 d1 (show(ws.length:Int)≠0 by omega);omega⟩
 obtain⟨b,hb⟩:∃b:Nat,d2 % (ws.length:Int)=b:=⟨(d2 % (ws.length:Int)).toNat,by have:=J5 d2 (show(ws.length:Int)≠0 by omega);omega⟩
 have hal:a<ws.length:=by have:=JI d1 (show 0<(ws.length:Int)by omega);omega
 have hbl:b<ws.length:=by have:=JI d2 (show 0<(ws.length:Int)by omega);omega
 have m1:Zd (.int d1) (.int ws.length)=some (.int a):=by rw[XF (by omega),ha]
 have m2:Zd (.int d2) (.int ws.length)=some (.int b):=by rw[XF (by omega),hb]
 refine Kj (KI (U2 (Kh rfl UT x1) (Zh rfl hul) m1) (Qa rfl) rfl) ?_;refine Kj (KI (U2 (Kh rfl UT x2) (Zh rfl hul) m2) (Qa rfl) rfl) ?_;refine Kj (Z6 (Rj rfl (show YK [Ke ws]=some (ws.map U5)from rfl)) (Qa rfl) rfl) ?_;have hrg:=dl.range g;have ia:oIx (Ke ws) (.int a)=some (U5 ws[a]):=SS hal;have ib:oIx (Ke ws) (.int b)=some (U5 ws[b]):=SS hbl;have hls:ls[a]?=some (ls[a]'(by omega)):=Qf (by omega);generalize ls[a]'(by omega)=rs at hls;have gr:=g.rk rs (Qn hls);apply Kq;apply Ks
 case h1=>exact U2 (Kh rfl UT x0) UT Xd
 case h2=>
  intro _;refine Kj (VI (k:=a) (Kh rfl (UN rfl) ib) rfl (UN rfl) rfl (by rw[Qb];omega) rfl) ?_;refine Zv (VI (k:=b) (Kh rfl (UN rfl) ia) rfl (UN rfl) rfl (by rw[QS,Qb];omega) rfl) ?_;refine Kl ?_;rw[Qt,Qt,Oo,Oo];refine LS g dl (by rw[QS,QS];exact len) λt ht=>?_
  rcases JL ht with ht|ht
  ·rcases JL ht with ht|ht
   ·exact hrg t ht
   ·exact hrg t (by rw[ht];exact JE _)
  ·exact hrg t (by rw[ht];exact JE _)
 case h3=>
  intro _;have hfl:rs.flatten.length<64:=by have:=WB cs.length _ gr.once gr.flat;have:=g.c6;omega
  let os:LO:=(Ze rs.flatten).map some++[none]
  have hos:os.map U5=(Ze rs.flatten).map int++[.none]:=by show(List.map some (Ze rs.flatten)++[none]).map U5=_;rw[QC,QY];rfl
  have hsl:(Ze rs.flatten).length=rs.flatten.length:=(YY rs.flatten).length_eq;have hadd:U3 (.list ((Ze rs.flatten).map int)) (.list [.none])=some (.list (os.map U5)):=by rw[Xo (by rw[Qb,hsl];show _+1<=_;omega),hos]
  have hol:0<os.length:=by show 0<(List.map some (Ze rs.flatten)++[none]).length;rw[Ql];show 0<_+1;omega
  have hlo:Ka [.list (os.map U5)]=some (.int os.length):=by rw[K6,Qb]
  refine Kj (KI (U2 (Ki (UR (UN rfl) (UR (UN rfl) UV)) rfl (Rg hls hfl)) (ZE (UR UT UV) (Qa rfl)) hadd) (Qa rfl) rfl) ?_;obtain⟨k,hk⟩:∃k:Nat,d3 % (os.length:Int)=k:=⟨(d3 % (os.length:Int)).toNat,by have:=J5 d3 (show(os.length:Int)≠0 by omega);omega⟩
  have hkl:k<os.length:=by have:=JI d3 (show 0<(os.length:Int)by omega);omega
  have m3:Zd (.int d3) (.int os.length)=some (.int k):=by rw[XF (by omega),hk]
  refine Zv (VI (k:=a) (Kh rfl (U2 (Kh rfl UT x3) (Zh rfl hlo) m3) (SS hkl)) rfl (UN rfl) rfl (by rw[Qb];omega) rfl) ?_;refine Kl ?_;rw[Qt,Oo];refine LS g dl (by rw[QS];exact len) λt ht=>?_
  rcases JL ht with ht|ht
  ·exact hrg t ht
  ·have hm:os[k]∈os:=JE _;rw[←ht]at hm;rcases QR.mp hm with hm|hm
   ·obtain⟨y,hy,e⟩:=Qr.mp hm;cases e;exact gr.flat t ((YY rs.flatten).mem_iff.mp hy)
   ·cases QW.mp hm
end
theorem Bw{xs:List D}{a b:Option Int}:(DL.cutD xs a b).length<=xs.length:=by unfold DL.cutD;rw[QN,Jl];omega
theorem Bv{xs:List D}{a b:Option Int}{x:D}(h:x∈DL.cutD xs a b):x∈xs:=by unfold DL.cutD at h;exact List.mem_of_mem_drop (J8 h)
theorem B8{ns:List Int}{n:Int}{a b:Option Int}{i:Nat}{x:D}(h:(int n::DL.cutD (ns.map int) a b)[i]?=some x):∃c:Int,x=.int c:=by
 have hm:=Qn h;rcases QQ.mp hm with rfl|hm
 ·exact⟨n,rfl⟩
 ·obtain⟨c,_,rfl⟩:=Qr.mp (Bv hm);exact⟨c,rfl⟩
theorem B7{ns:List Int}{n:Int}{a b:Option Int}(h:ns.length<=1000):U3 (.list [.int n]) (.list (DL.cutD (ns.map int) a b))=some (.list (int n::DL.cutD (ns.map int) a b)):=Xo (by
 have:=Bw (xs:=ns.map int) (a:=a) (b:=b);rw[Qb]at this;show 1+_<=_
 omega)
theorem On{f g:M Bool}{Z:UJ}{t u:Bool}(h1:f Z=.ok t Z)(h2:t=true->g Z=.ok u Z)(h3:t=false->u=false):K1 f g Z=.ok u Z:=by
 have:=N7 h1 h2;cases t with
 |true=>exact this
 |false=>rw[h3 rfl];exact this
theorem MD{d:D}(h1:d.canLay0=true)(h2:d.depth<=60):oEq d d=some true:=by unfold oEq;rw[Qp ⟨h1,h1,h2⟩,OW _ h1]
theorem Go(i:Int):ZL [.int i]=some (.bool true):=by refine KY (Z:=[some (.pub (.int i))]) rfl ?_;unfold WK;exact Ku (Ra (Kv (k:=λd=>UA (Kr d "int")) (UN rfl)) (λ_=>OG (Kv (k:=λd=>UA (Kr d "bool")) (UN rfl)))) rfl
theorem Cs{j:Nat}{f:M (List D)}{Z Z1 Z':UJ}{ds0 ds es:List D}(h0:Z[j]?=some (some (.own ds0)))(h1:f Z=.ok es Z1)(h2:Z1[j]?=some (some (.own ds)))(h3:ds.length+es.length<=1000000)(h4:Z1.set j (some (.own (ds++es)))=Z'):X0 j f Z=.nx Z':=by unfold X0;rw[Lv h0];dsimp only;unfold sB;rw[h1];dsimp only;rw[Lv h2];dsimp only;rw[Qp h3,h4]
theorem LR:∀(a b:L3)(k:Nat),U1 k (a++b)=U1 k a++U1 (k+a.length) b
 |[],b,k=>rfl
 |rs::a,b,k=>by show _++U1 (k+1) (a++b)=_;rw[LR a b (k+1)];show _=(_++U1 (k+1) a)++U1 (k+(a.length+1)) b;rw[Ja,show k+1+a.length=k+(a.length+1)by omega]
theorem Bu{n:Nat}(ls:L3)(k:Nat)(h:∀rs∈ls,rs.flatten.length<=n):(U1 k ls).length<=ls.length*n:=by rw[(V4 ls k).length_eq];exact Nc n ls k h
section
variable{cs:List Int}{ls:L3}{o:Ord}{old:Option LO}{ts:List Int}
theorem kG(g:Good cs ls):X6 [U7 cs ls]=some (.list ((U1 0 ls).map Kf)):=by
 have l7:=g.l7;have c6:=g.c6;refine KY (Z:=[some (.pub (U7 cs ls)),none,none]) rfl ?_;unfold Tw;refine Kj (Z6 (Wu UV (Qa rfl)) (Qa rfl) rfl) ?_;apply Kq;apply Zw (λi Z=>∃x2,Z=[some (.pub (U7 cs ls)),some (.own ((U1 0 (ls.take i)).map Kf)),x2])
 case h1=>exact XZ (UR (Zc (UR (Kh rfl UT Xg) UV) K6) UV) (XV (by rw[Qb];omega) (by omega))
 case h0=>exact⟨_,rfl⟩
 case hst=>
  rintro i d Z hi ⟨x2,rfl⟩;obtain⟨rfl,hlt⟩:=Wk hi;rw[Qb]at hlt;have hls:ls[i]?=some ls[i]:=Qf (by omega);have gr:=g.rk _ (Qn hls);have hfl:=Rn gr;refine⟨_,UW (Qa rfl) rfl,?_⟩;unfold MN;rw[JV];have hw:=Rg (cs:=cs) hls (by omega)
  have hc:K2 (gN 3) (UQ true) (KE (UO (UI 2) (UO (UI 3) (UM)))) ((Ze ls[i].flatten).map int) (Kn [some (.pub (U7 cs ls)),some (.own ((U1 0 (ls.take i)).map Kf)),some (.pub (.int i))]++Uy 1 none) []=some ((Ze ls[i].flatten).map λt=>Kf ((i:Int),t)):=by
   have hsl:(Ze ls[i].flatten).length<=6:=by rw[(YY _).length_eq];omega
   refine(YX (λZ=>∃x,Z=[some (Sl.pub (U7 cs ls)),none,some (Sl.pub (.int i)),x]) _ ((Ze ls[i].flatten).map λt=>Kf ((i:Int),t)) _ _ (by rw[Qb,Qb]) ?_ ⟨none,rfl⟩ (by rw[Qb,QB];omega)).trans (by rw[Jk]);rintro j d e hd he Z ⟨x,rfl⟩;rw[Qe]at hd he;cases z:(Ze ls[i].flatten)[j]? with
   |none=>rw[z]at hd;cases hd
   |some t=>rw[z]at hd he;cases hd;cases he;exact⟨_,UW (Qa rfl) rfl,rfl,Yz (UR (UN rfl) (UR (UN rfl) UV)) (Qa rfl),_,rfl⟩
  have ha:(U1 0 (ls.take i)).length<=42:=by
   have:=Bu (n:=6) (ls.take i) 0 λrs hrs=>by have:=Rn (g.rk rs (J8 hrs));omega
   rw[QN]at this;have:min i ls.length<=7:=by omega
   omega
  refine Zv (Cs rfl (Z7 (Zp (Ki (UR (UN rfl) (UR (UN rfl) UV)) rfl hw) ZX) hc) rfl ?_ rfl) (K4 ⟨some (.pub (.int i)),?_⟩)
  ·rw[Qb,Qb,(YY _).length_eq];omega
  ·have e:U1 0 (ls.take (i+1))=U1 0 (ls.take i)++(Ze ls[i].flatten).map λt=>((i:Int),t):=by
    rw[List.take_succ_eq_append_getElem (by omega),LR,QN,Ug (by omega),QX];show _++((Ze ls[i].flatten).map (λt=>((i:Int),t))++[])=_;rw[Q7]
   rw[e,QC,QY];rfl
 case hend=>rintro Z ⟨x2,rfl⟩;rw[Xf,Qb];refine Kl (Ku (Yj rfl rfl) ?_);rw[show((ls.length:Int)-0).toNat=ls.length by omega,Jz]
theorem HU{ts:List Int}{b a r x:Int}(hn:(ts++[x]).Nodup):Xb (ts++[x]) b a r=Xb ts b a r*b+if x=a then b-r else 0:=by
 have hx:x∉ts:=λz=>(List.nodup_append.mp hn).2.2 x z x (List.mem_singleton.mpr rfl) rfl;unfold Xb
 by_cases h:a∈ts
 ·have hxa:¬x=a:=λe=>hx (e ▸ h)
  have hlt:=List.idxOf_lt_length_of_mem h;rw[Qp (Q9 _ h),Qp h,Qz hxa,List.idxOf_append,Qp h,Ql,Q6,show ts.length+1-1-ts.idxOf a=(ts.length-1-ts.idxOf a)+1 by omega,Int.pow_succ,Int.add_zero,Int.mul_assoc]
 ·rw[Qz h,Int.zero_mul,JV];by_cases e:x=a
  ·subst e;rw[if_pos (by simp),if_pos rfl,List.idxOf_append,if_neg h,List.length_append,List.length_singleton,List.idxOf_cons_self,show ts.length+1-1-(0+ts.length)=0 by omega,Int.pow_zero,Int.mul_one]
  ·rw[if_neg (by simp[h];exact λz=>e z.symm),if_neg e]
noncomputable def pwL(b:Int)(n:Nat):List Int:=(Ux (n+1)).map λj:Nat=>b ^ j
theorem MC{b:Int}{n j:Nat}(h:j<=n):(pwL b n)[j]?=some (b ^ j):=by unfold pwL;rw[Qe,QU (by omega)];rfl
theorem MB{b:Int}{n:Nat}:(pwL b n).length=n+1:=by unfold pwL;rw[Qb,Qu]
theorem Bt{b:Int}{n:Nat}:pwL b (n+1)=pwL b n++[b ^ n*b]:=by unfold pwL;rw[List.range_succ,QC,←Int.pow_succ];rfl
theorem P8{b:Int}{n:Nat}{k:Int}(h0:0<=k)(h:k<=n):oIx (.list ((pwL b n).map int)) (.int k)=some (.int (b ^ k.toNat)):=by
 have e:k=((k.toNat:Nat):Int):=by omega
 rw[e];refine KW ?_;rw[Qe,MC (by omega)];rfl
theorem Bs{ws:LO}{i:Nat}{t:Int}(h:i<ws.length):oEq (U5 ws[i]) (.int t)=some (decide (ws[i]=some t)):=RN (b:=some t)
noncomputable def Ord.isL:Ord->Bool
 |.lasts=>true
 |_=>false
theorem Ej(o:Ord):oEq (.str o.tx) (.str "lasts")=some o.isL:=by cases o<;>decide +kernel
theorem kF(g:Good cs ls)(ga:Yx cs.length ls.length old ts){i:Nat}{rs:List (List Int)}(hi:ls[i]?=some rs){t:Int}(ht:t∈rs.flatten):X8 [U7 cs ls,Kz o old ts,.int i,.int t]=some (.int (Zj ls o old ts i rs t)):=by
 have l7:=g.l7;have l1:=g.l1;have hL:lng ls<=5:=P9 l1 λrs h=>(g.rk rs h).few;have hrs:rs∈ls:=Qn hi;have hrl:=NZ hrs;have hrk:Zg t rs<=lng ls:=by have:=Nl t rs;omega
 have hrp:1<=Zg t rs:=by have:=HZ ht;omega
 have htl:=ga.few;have hlt:i<ls.length:=(Qg.mp hi).1;refine KY (Z:=[some (.pub (U7 cs ls)),some (.pub (Kz o old ts)),some (.pub (.int i)),some (.pub (.int t)),none,none,none,none,none,none,none,none,none,none,none]) rfl ?_;unfold TB;refine Kj (VD (UN rfl) (KB rfl (U4 (UW (Qa rfl) rfl) (U4 (UW (Qa rfl) rfl) (U4 (UW (Qa rfl) rfl) KD))))) ?_;have hll:Ka [.list (ls.map KH)]=some (.int ls.length):=by rw[K6,Qb]
 refine Kj (KI (U2 (Zc (UR (Kh rfl UT Xg) UV) hll) UT KZ) (Qa rfl) rfl) ?_;refine Kj (KI (Ki (UR (UN rfl) UV) rfl (kX g)) (Qa rfl) rfl) ?_;refine Kj (KI (Ki (UR (UN rfl) (UR (UN rfl) (UR (UN rfl) UV))) rfl (kj hi t)) (Qa rfl) rfl) ?_;refine Kj (Z6 (Wu (UR UT UV) (Qa rfl)) (Qa rfl) rfl) ?_
 let S0:Option Sl:=some (.pub (U7 cs ls))
 let S1:Option Sl:=some (.pub (Kz o old ts))
 let S2:Option Sl:=some (.pub (.int i))
 let S3:Option Sl:=some (.pub (.int t))
 let S4:Option Sl:=some (.pub (.str o.tx))
 let S5:Option Sl:=some (.pub (ZR old))
 let S6:Option Sl:=some (.pub (.list (ts.map int)))
 let b:Int:=(ls.length:Int)+1
 let M:Nat:=lng ls
 let r:Nat:=Zg t rs
 let S7:Option Sl:=some (.pub (.int b))
 let S8:Option Sl:=some (.pub (.int (M:Int)))
 let S9:Option Sl:=some (.pub (.int (r:Int)))
 apply Kq;apply Zw (λj Z=>∃x11,Z=[S0,S1,S2,S3,S4,S5,S6,S7,S8,S9,some (.own ((pwL b j).map int)),x11,none,none,none])
 case h1=>exact XZ (UR (UN rfl) UV) (XV (by omega) (by omega))
 case h0=>exact⟨_,rfl⟩
 case hst=>
  rintro j d Z hj ⟨x11,rfl⟩;refine⟨_,UW (Qa rfl) rfl,?_⟩;unfold Lc;obtain⟨_,hjl⟩:=Wk hj
  have hlast:oIx (.list ((pwL b j).map int)) (.int (-1))=some (.int (b ^ j)):=OA (by
   rw[JM,Qb,MB,Qe,Nat.add_sub_cancel,MC (Qs j)]
   rfl)
  refine Zv (XS rfl (U2 (Wq rfl (SV UT) rfl hlast) (UN rfl) (XX (by omega) (by omega))) rfl (by rw[Qb,MB];omega) rfl) (K4 ⟨some (.pub d),?_⟩);rw[Bt,QC];rfl
 case hend=>
  rintro Z ⟨x11,rfl⟩;have er:(ZU 0 (M:Int)).length=M:=by rw[Xf];omega
  rw[er];refine Kl ?_
  let S10:Option Sl:=some (.own ((pwL b M).map int))
  have e1:((M:Int)-(r:Int)).toNat=M-r:=by omega
  have p1:oIx (.list ((pwL b M).map int)) (.int ((M:Int)-(r:Int)))=some (.int (b ^ (M-r))):=by rw[P8 (by omega) (by omega),e1]
  have p2:oIx (.list ((pwL b M).map int)) (.int (M:Int))=some (.int (b ^ M)):=by rw[P8 (by omega) (by omega)];rfl
  have p3:oIx (.list ((pwL b M).map int)) (.int ((r:Int)-1))=some (.int (b ^ (r-1))):=by rw[P8 (by omega) (by omega),show((r:Int)-1).toNat=r-1 by omega]
  refine Kj (Z1:=[S0,S1,S2,S3,S4,S5,S6,S7,S8,S9,S10,x11,some (.pub (.int (b ^ (M-r)))),none,none]) (KI (Wq rfl (U2 (UN rfl) (UN rfl) Yy) rfl p1) (Qa rfl) rfl) ?_
  have eo:Zn o b M r=match o with | .firsts=>b ^ (M-r) | .full=>b ^ (M-r)+b ^ M | .lasts=>b ^ M-b ^ (r-1):=by
   cases o with
   |firsts=>show b ^ ((M:Int)-(r:Int)).toNat=_;rw[e1]
   |full=>show b ^ ((M:Int)).toNat+b ^ ((M:Int)-(r:Int)).toNat=_;rw[e1,Int.add_comm];rfl
   |lasts=>show b ^ ((M:Int)).toNat-b ^ ((r:Int)-1).toNat=_;rw[show((r:Int)-1).toNat=r-1 by omega];rfl
  have done:∀w:Int,w=Zn o b M r->Ho (US (U6 12 (UP Ko (UI 12) (UI 7)))
    (US (sIf (K1 (UZ (λd=>!isNon d) (UI 5)) (UP oEq (UU 5 (UI 2)) (UI 3)))
    (U6 12 (UP U3 (UI 12) (UQ (.int 1))))
    (sNx))
    (US (U6 13 (UQ (.int 0)))
    (US (Kw (KU (UI 6)) (gN 14) Ps)
    (UY (UP U3 (UI 12) (UI 13))))))) [S0,S1,S2,S3,S4,S5,S6,S7,S8,S9,S10,x11,some (.pub (.int w)),none,none] (λo'=>o'=.rt (.int (Zj ls o old ts i rs t))):=by
   rintro w rfl;refine Kj (Z1:=[S0,S1,S2,S3,S4,S5,S6,S7,S8,S9,S10,x11,some (.pub (.int (Zn o b M r*b))),none,none]) (KI (U2 (UN rfl) (UN rfl) (XX (by omega) (by omega))) (Qa rfl) rfl) ?_
   have rest:∀v:Int,v=Zn o b M r*b+YH old i t->Ho (US (U6 13 (UQ (.int 0)))
    (US (Kw (KU (UI 6)) (gN 14) Ps)
    (UY (UP U3 (UI 12) (UI 13))))) [S0,S1,S2,S3,S4,S5,S6,S7,S8,S9,S10,x11,some (.pub (.int v)),none,none] (λo'=>o'=.rt (.int (Zj ls o old ts i rs t))):=by
    intro v hv;refine Kj (KI UT (Qa rfl) rfl) ?_;apply Kq;apply Zw (λj Z=>∃x14,Z=[S0,S1,S2,S3,S4,S5,S6,S7,S8,S9,S10,x11,some (.pub (.int (v*((M:Int)+1) ^ j))),some (.pub (.int (Xb (ts.take j) ((M:Int)+1) i r))),x14])
    case h1=>exact Zp (UN rfl) ZX
    case h0=>exact⟨none,by rw[Int.pow_zero,Int.mul_one];rfl⟩
    case hst=>
     rintro j d Z hj ⟨x14,rfl⟩;rw[Qe]at hj;cases hz:ts[j]? with
     |none=>rw[hz]at hj;cases hj
     |some a=>
     rw[hz]at hj;cases hj;have hjl:j<ts.length:=(Qg.mp hz).1;have ha:ts[j]=a:=(Qg.mp hz).2;have hts:ts.take (j+1)=ts.take j++[a]:=by rw[List.take_succ_eq_append_getElem hjl,ha]
     have hnd:(ts.take j++[a]).Nodup:=by rw[←hts];exact List.Nodup.sublist (List.take_sublist _ _) ga.once
     refine⟨_,UW (Qa rfl) rfl,?_⟩;unfold Ps;refine Kj (Z1:=[S0,S1,S2,S3,S4,S5,S6,S7,S8,S9,S10,x11,some (.pub (.int (v*((M:Int)+1) ^ (j+1)))),some (.pub (.int (Xb (ts.take j) ((M:Int)+1) i r))),some (.pub (.int a))]) (KI (U2 (UN rfl) (U2 (UN rfl) UT KZ) (XX (by omega) (by omega))) (Qa rfl) (by rw[Int.mul_assoc,←Int.pow_succ];rfl)) ?_;refine Kj (Z1:=[S0,S1,S2,S3,S4,S5,S6,S7,S8,S9,S10,x11,some (.pub (.int (v*((M:Int)+1) ^ (j+1)))),some (.pub (.int (Xb (ts.take j) ((M:Int)+1) i r*((M:Int)+1)))),some (.pub (.int a))]) (KI (U2 (UN rfl) (U2 (UN rfl) UT KZ) (XX (by omega) (by omega))) (Qa rfl) rfl) ?_;refine Ks (Zu rfl (UN rfl) Xd) (λhh=>?_) (λhh=>?_)
     ·have e:a=(i:Int):=by simpa using hh
      refine Zv (KI (U2 (U2 (U2 (UN rfl) (UN rfl) KZ) UT KZ) (UN rfl) Yy) (Qa rfl) rfl) (K4 ⟨some (.pub (.int a)),?_⟩);rw[hts,HU hnd,Qp e];have:Xb (ts.take j) ((M:Int)+1) i r*((M:Int)+1)+(M:Int)+1-(r:Int)=Xb (ts.take j) ((M:Int)+1) i r*((M:Int)+1)+((M:Int)+1-(r:Int)):=by omega
      rw[←this];rfl
     ·have e:¬a=(i:Int):=by simpa using hh
      refine Kx (K4 ⟨some (.pub (.int a)),?_⟩);rw[hts,HU hnd,Qz e,Int.add_zero]
    case hend=>rintro Z ⟨x14,rfl⟩;refine Kl (Ku (U2 (UN rfl) (UN rfl) KZ) ?_);rw[Qb,Jz,hv];rfl
   have hkk:K1 (UZ (λd=>!isNon d) (UI 5)) (UP oEq (UU 5 (UI 2)) (UI 3)) [S0,S1,S2,S3,S4,S5,S6,S7,S8,S9,S10,x11,some (.pub (.int (Zn o b M r*b))),none,none]=.ok (decide (YH old i t=1)) [S0,S1,S2,S3,S4,S5,S6,S7,S8,S9,S10,x11,some (.pub (.int (Zn o b M r*b))),none,none]:=by
    cases old with
    |none=>exact V2 (Kv (k:=λd=>!isNon d) (x:=PyData.none) (UN rfl))
    |some ws=>
     have hw:ws.length=ls.length:=ga.len ws rfl;have hwi:ws[i]?=some ws[i]:=Qf (by omega);have hx:oIx (.list (ws.map U5)) (.int i)=some (U5 ws[i]):=SS (by omega)
     have e:decide (YH (some ws) i t=1)=decide (ws[i]=some t):=by
      refine decide_eq_decide.mpr ?_
      show(if ws[i]?=some (some t)then(1:Int)else 0)=1 ↔ _
      rw[hwi];by_cases z:ws[i]=some t
      ·rw[if_pos (by rw[z])];simp[z]
      ·rw[if_neg (λy=>z (Option.some.inj y))];simp[z]
     rw[e];exact V1 (Kv (k:=λd=>!isNon d) (x:=ZR (some ws)) (UN rfl)) (U2 (Kh rfl (UN rfl) hx) (UN rfl) (Bs (by omega)))
   apply Kq;refine Ks hkk (λhh=>?_) (λhh=>?_)
   ·have e:YH old i t=1:=by simpa using hh
    exact Zv (KI (U2 (UN rfl) UT KZ) (Qa rfl) rfl) (Kl (rest _ (by rw[e])))
   ·have e:YH old i t=0:=by
     have hn:¬YH old i t=1:=by simpa using hh
     unfold YH at hn⊢;split at hn
     ·rfl
     ·split at hn
      ·exact absurd rfl hn
      ·rename_i hz;rw[Qz hz]
    exact Kx (Kl (rest _ (by rw[e,Int.add_zero])))
  have f2:=Ej o;apply Kq;refine Ks (Zu rfl UT (NX o)) (λhh=>?_) (λhh=>?_)
  ·cases o with
   |full=>refine Zv (KI (U2 (UN rfl) (Wq rfl (UN rfl) rfl p2) KZ) (Qa rfl) rfl) (Kl ?_);apply Kq;exact Ks (b:=false) (Zu rfl UT f2) (λz=>by cases z) λ_=>Kx (Kl (done _ eo.symm))
   |firsts=>cases hh
   |lasts=>cases hh
  ·refine Kx (Kl ?_);apply Kq;refine Ks (Zu rfl UT f2) (λh2=>?_) (λh2=>?_)
   ·cases o with
    |lasts=>exact Zv (KI (U2 (Wq rfl (UN rfl) rfl p2) (Wq rfl (U2 (UN rfl) UT Yy) rfl p3) Yy) (Qa rfl) rfl) (Kl (done _ eo.symm))
    |firsts=>cases h2
    |full=>cases h2
   ·cases o with
    |firsts=>exact Kx (Kl (done _ eo.symm))
    |full=>cases hh
    |lasts=>cases h2
end
theorem HS{α β:Type}{f:α->β}(hf:∀a b,f a=f b->a=b){l:List α}(h:l.Nodup):(l.map f).Nodup:=by unfold List.Nodup at h⊢;rw[List.pairwise_map];exact h.imp λhne e=>hne (hf _ _ e)
noncomputable def pk(q:Int×Int):List Key:=[.inl q.1,.inl q.2]
theorem Mt{a b:Int×Int}(h:pk a=pk b):a=b:=by unfold pk at h;injection h with h1 h2;injection h2 with h2 _;injection h1 with h1;injection h2 with h2;exact Prod.ext h1 h2
theorem LQ{i1 i2:Nat}{g:M D}{V:Int×Int->D}(I:UJ->Prop):∀(qs:LP)(acc:List (List Key×D))(Z:UJ),I Z ->
  (∀q∈qs,∀Z,I Z->∃Z',g ((Z.set i1 (some (.pub (.int q.1)))).set i2 (some (.pub (.int q.2))))=.ok (V q) Z'/\YJ Z'=true/\I Z')->acc.length+qs.length<=1000000->(acc.map (·.1)++qs.map pk).Nodup ->
  XM i1 i2 g (qs.map Kf) acc Z=some (acc++qs.map λq=>(pk q,V q))
 |[],acc,Z,_,_,_,_=>by rw[Uh,XM,Uh,Q7]
 |q::r,acc,Z,h0,st,hl,hn=>by
  obtain⟨Z',e1,e2,e3⟩:=st q Qk Z h0;rw[QO]at hl
  have hk:Rs acc (pk q)=true:=by
   unfold Rs;rw[Q3];intro p hp;refine Q5 λz=>?_
   exact(List.nodup_append.mp hn).2.2 p.1 (Qr.mpr ⟨p,hp,rfl⟩) (pk q) (Qr.mpr ⟨q,Qk,rfl⟩) z
  have ih:=LQ I r (acc++[(pk q,V q)]) Z' e3 (λq' hq=>st q' (Qj _ hq)) (by rw[Ql,Q6];omega) (by rw[QC,Ja];exact hn);rw[Qx];show XM i1 i2 g (.tuple [.int q.1,.int q.2]::r.map Kf) acc Z=_;rw[XM]
  show(match g ((Z.set i1 (some (.pub (.int q.1)))).set i2 (some (.pub (.int q.2))))with
   |.ok v Z'=>if acc.length<1000000/\Rs acc (pk q)=true/\YJ Z'=true then XM i1 i2 g (r.map Kf) (acc++[(pk q,v)]) Z' else none
   |.bad=>none)=_
  rw[e1];dsimp only;rw[Qp ⟨by omega,hk,e2⟩,ih,Ja];rfl
noncomputable def wtD(V:Int->Int->Int)(qs:LP):D:=Tc (qs.map λq=>(pk q,.int (V q.1 q.2)))
theorem Ms(V:Int->Int->Int)(qs:LP):wtD V qs=.dict ((.bool true,.none)::qs.map λq=>(Kf q,.int (V q.1 q.2))):=by
 unfold wtD Tc pdD
 congr 2
 rw[QY,QY,QY,List.zip_map',List.map_congr_left];intro q _;rfl
theorem Cr{V:Int->Int->Int}{qs:LP}:Rt (wtD V qs)=some (qs.map Kf):=by rw[Ms];show some ((qs.map λq=>(Kf q,int (V q.1 q.2))).map (·.1))=_;rw[QY];rfl
theorem Mr{V:Int->Int->Int}{qs:LP}{q:Int×Int}(h:q∈qs):SK (wtD V qs) (Kf q)=some (.int (V q.1 q.2)):=by
 rw[Ms]
 show((qs.map λq=>(Kf q,int (V q.1 q.2))).find? λp=>decide (kOf p.1=some (pk q))).map (·.2)=_
 have key:∀(l:LP),q∈l->(l.map λq=>(Kf q,int (V q.1 q.2))).find? (λp=>decide (kOf p.1=some (pk q)))=some (Kf q,.int (V q.1 q.2)):=by
  intro l;induction l with
  |nil=>intro h;cases h
  |cons a r ih=>
   intro h;rw[Qx];by_cases e:a=q
   ·subst e;exact List.find?_cons_of_pos (Q5 rfl)
   ·rw[List.find?_cons_of_neg (by
     intro z;have z:kOf (Kf a)=some (pk q):=Qa z;have z:some (pk a)=some (pk q):=z;exact e (Mt (QT z)))]
    exact ih ((QQ.mp h).resolve_left λz=>e z.symm)
 rw[key qs h];rfl
theorem Cq{f:M D}{Z Z1:UJ}{x:D}{r:List D}(h1:f Z=.ok x Z1)(h2:Rt x=some r):R6 f Z=.ok r Z1:=by unfold R6;exact KS h1 (ZZ h2)
theorem Nt:∀(ls:L3)(k:Nat),(∀rs∈ls,rs.flatten.Nodup)->(U1 k ls).Nodup
 |[],_,_=>List.nodup_nil
 |rs::ls,k,h=>by
  show((Ze rs.flatten).map (λt=>((k:Int),t))++U1 (k+1) ls).Nodup
  rw[List.nodup_append];refine⟨?_,Nt ls (k+1) λr hr=>h r (Qj _ hr),λa ha b hb e=>?_⟩
  ·exact HS (λx y e=>(Prod.mk.inj e).2) ((YY _).nodup_iff.mpr (h rs Qk))
  ·subst e;obtain⟨t,_,rfl⟩:=Qr.mp ha;have:=OS ls (k+1) _ hb;simp at this;omega
section
variable{cs:List Int}{ls:L3}{o:Ord}{old:Option LO}{ts:List Int}
theorem Cp(g:Good cs ls):(U1 0 ls).length<=42:=by rw[(V4 ls 0).length_eq];exact RQ g
theorem kL(g:Good cs ls)(ga:Yx cs.length ls.length old ts):WZ [U7 cs ls,Kz o old ts]=some (wtD (U8 ls o old ts) (U1 0 ls)):=by
 refine KY (Z:=[some (.pub (U7 cs ls)),some (.pub (Kz o old ts)),none,none,none]) rfl ?_;unfold Tu;constructor;have hf:KU (UX 1 X6 (UO (UI 0) (UM))) [some (.pub (U7 cs ls)),some (.pub (Kz o old ts)),none,none,none]=.ok ((U1 0 ls).map Kf) [some (.pub (U7 cs ls)),some (.pub (Kz o old ts)),none,none,none]:=Zp (Ki (UR (UN rfl) UV) rfl (kG g)) ZX;have h42:=Cp g
 have hp:=LQ (i1:=3) (i2:=4) (g:=UX 4 X8 (UO (UI 0) (UO (UI 1) (UO (UI 3) (UO (UI 4) (UM)))))) (V:=λq=>.int (U8 ls o old ts q.1 q.2))
  (λZ=>∃x y,Z=[some (.pub (U7 cs ls)),some (.pub (Kz o old ts)),none,x,y]) (U1 0 ls) [] [some (.pub (U7 cs ls)),some (.pub (Kz o old ts)),none,none,none] ⟨_,_,rfl⟩ (λq hq Z ⟨x,y,e⟩=>by
   subst e;obtain⟨i,rs,h1,h2,h3⟩:=Wl hq;rw[QX]at h2;refine⟨[some (.pub (U7 cs ls)),some (.pub (Kz o old ts)),none,some (.pub (.int q.1)),some (.pub (.int q.2))],?_,rfl,_,_,rfl⟩;have hw:=kF (o:=o) g ga h1 h3
   have e:U8 ls o old ts q.1 q.2=Zj ls o old ts i rs q.2:=by
    unfold U8;rw[h2,Qt]
    congr 1
    simp[List.getD,h1]
   rw[e];refine Ki (UR (UN rfl) (UR (UN rfl) (UR (UN rfl) (UR (UN rfl) UV)))) rfl ?_;rw[h2];exact hw) (by rw[QB];omega) (by
   show((U1 0 ls).map pk).Nodup
   exact HS (λa b e=>Mt e) (Nt ls 0 λrs hrs=>(g.rk rs hrs).once))
 unfold WF;rw[Qp ⟨rfl,rfl,Qa rfl,Qa rfl⟩,hf];dsimp only;rw[Qp (show YJ _=true from rfl),hp];rfl
end
noncomputable def KQ(tm:Int)(as ps:List Int):D:=.tuple [.int tm,.list (as.map int),.list (ps.map int)]
noncomputable def VC(ps cs:List Int):List Int:=(ps.zip cs).map λp=>p.1*p.2
theorem HR:∀(ps cs:List Int),VC ps cs=VC cs ps
 |[],cs=>by cases cs<;>rfl
 |_::_,[]=>rfl
 |p::ps,c::cs=>by have ih:=HR ps cs;unfold VC at ih⊢;rw[J4,J4,Qx,Qx,ih,Int.mul_comm]
noncomputable def SR(cs as ps:List Int):Int:=as.sum+(VC ps cs).sum
section
variable{cs:List Int}{ls:L3}{tm:Int}{as ps:List Int}
theorem Fn:oIx (KQ tm as ps) (.int 1)=some (.list (as.map int)):=KW (j:=1) rfl
theorem Fm:oIx (KQ tm as ps) (.int 2)=some (.list (ps.map int)):=KW (j:=2) rfl
end
theorem MA{cs:List Int}{ls:L3}(g:Good cs ls):∀q∈U1 0 ls,(0<=q.1/\q.1<ls.length)/\0<=q.2/\q.2<cs.length:=λq hq=>by obtain⟨i,rs,h1,h2,h3⟩:=Wl hq;have:=(g.rk rs (Qn h1)).flat q.2 h3;have:=(Qg.mp h1).1;omega
theorem Mz{ns:List Int}{k:Int}(h0:0<=k)(h1:k<ns.length):oIx (.list (ns.map int)) (.int k)=some (.int (ns.getD k.toNat 0)):=by
 obtain⟨j,rfl⟩:∃j:Nat,k=j:=⟨k.toNat,by omega⟩
 rw[Qt];exact Pq (by omega)
section
variable{cs:List Int}{ls:L3}{o:Ord}{old:Option LO}{ts:List Int}
theorem Nb(g:Good cs ls)(ga:Yx cs.length ls.length old ts){q:Int×Int}(hq:q∈U1 0 ls):0<=U8 ls o old ts q.1 q.2/\U8 ls o old ts q.1 q.2<18446744073709551616:=by
 obtain⟨i,rs,h1,h2,h3⟩:=Wl hq;have l7:=g.l7;have l1:=g.l1;have hL:lng ls<=5:=P9 l1 λrs h=>(g.rk rs h).few;have hrl:=NZ (Qn h1);have hr1:1<=Zg q.2 rs:=by have:=HZ h3;omega
 have hr2:Zg q.2 rs<=lng ls:=by have:=Nl q.2 rs;omega
 have htl:=ga.few
 have e:U8 ls o old ts q.1 q.2=Zj ls o old ts i rs q.2:=by
  unfold U8;rw[h2,QX,Qt]
  congr 1
  simp[List.getD,h1]
 rw[e];unfold Zj;have pw:∀{b:Int}{n k:Nat},1<=b->b<=8->n<=k->1<=b ^ n/\b ^ n<=8 ^ k:=λ{b n k} h0 h8 hk=>⟨Int.pow_pos h0,HM (by omega) h8 hk⟩
 have hb1:(1:Int)<=(ls.length:Int)+1:=by omega
 have hb8:(ls.length:Int)+1<=8:=by omega
 have hM1:(1:Int)<=(lng ls:Int)+1:=by omega
 have hM8:(lng ls:Int)+1<=8:=by omega
 have a1:=pw hb1 hb8 (n:=lng ls) (k:=5) hL;have a2:=pw hb1 hb8 (n:=((lng ls:Int)-(Zg q.2 rs:Nat)).toNat) (k:=5) (by omega);have a3:=pw hb1 hb8 (n:=((Zg q.2 rs:Nat)-1:Int).toNat) (k:=5) (by omega)
 have a4:((ls.length:Int)+1) ^ ((Zg q.2 rs:Nat)-1:Int).toNat<=((ls.length:Int)+1) ^ lng ls:=by
  have:((Zg q.2 rs:Nat)-1:Int).toNat<=lng ls:=by omega
  obtain⟨k,hk⟩:=Nat.exists_eq_add_of_le this;rw[hk,Int.pow_add];have:=(pw hb1 hb8 (n:=k) (k:=5) (by omega)).1;have hm:=Int.mul_le_mul_of_nonneg_left this (show 0<=((ls.length:Int)+1) ^ ((Zg q.2 rs:Nat)-1:Int).toNat by omega);rw[Int.mul_one]at hm;exact hm
 have b1:0<=Zn o (ls.length+1) (lng ls) (Zg q.2 rs)/\Zn o (ls.length+1) (lng ls) (Zg q.2 rs)<=65536:=by
  cases o with
  |firsts=>show 0<=_ ^ _/\_ ^ _<=65536;omega
  |full=>show 0<=_ ^ ((lng ls:Int)).toNat+_ ^ _/\_ ^ ((lng ls:Int)).toNat+_ ^ _<=65536;rw[Qt];omega
  |lasts=>show 0<=_ ^ ((lng ls:Int)).toNat-_ ^ _/\_ ^ ((lng ls:Int)).toNat-_ ^ _<=65536;rw[Qt];omega
 have b2:0<=YH old i q.2/\YH old i q.2<=1:=by
  unfold YH;split
  ·omega
  ·split<;>omega
 have b3:=pw hM1 hM8 (n:=ts.length) (k:=7) (by omega)
 have b4:0<=Xb ts ((lng ls:Int)+1) i (Zg q.2 rs)/\Xb ts ((lng ls:Int)+1) i (Zg q.2 rs)<=8*8 ^ 7:=by
  unfold Xb;split
  ·have b5:=pw hM1 hM8 (n:=ts.length-1-ts.idxOf (i:Int)) (k:=7) (by omega);refine⟨Int.mul_nonneg (by omega) (by omega),?_⟩;exact Int.mul_le_mul (by omega) b5.2 (by omega) (by decide)
  ·exact⟨by omega,by decide⟩
 have c1:0<=Zn o (ls.length+1) (lng ls) (Zg q.2 rs)*(ls.length+1)+YH old i q.2/\Zn o (ls.length+1) (lng ls) (Zg q.2 rs)*(ls.length+1)+YH old i q.2<=600000:=by have d1:0<=Zn o (ls.length+1) (lng ls) (Zg q.2 rs)*((ls.length:Int)+1):=Int.mul_nonneg b1.1 (by omega);have d2:Zn o (ls.length+1) (lng ls) (Zg q.2 rs)*((ls.length:Int)+1)<=65536*8:=Int.mul_le_mul b1.2 hb8 (by omega) (by decide);omega
 have d3:0<=(Zn o (ls.length+1) (lng ls) (Zg q.2 rs)*(ls.length+1)+YH old i q.2)*((lng ls:Int)+1) ^ ts.length:=Int.mul_nonneg c1.1 (by omega);have d4:(Zn o (ls.length+1) (lng ls) (Zg q.2 rs)*(ls.length+1)+YH old i q.2)*((lng ls:Int)+1) ^ ts.length<=600000*8 ^ 7:=Int.mul_le_mul c1.2 b3.2 (by omega) (by decide);omega
end
structure OkP(n m:Nat)(V:Int->Int->Int)(qs:LP)(tm:Int)(as ps:List Int):Prop where
 t0:0<=tm
 la:as.length=m
 lp:ps.length=n
 aa:∀a∈as,0<=a
 pp:∀p∈ps,0<=p
 le:∀q∈qs,tm*V q.1 q.2<=as.getD q.1.toNat 0+ps.getD q.2.toNat 0
theorem jX{cs:List Int}{ls:L3}{tm:Int}{as ps:List Int}(g:Good cs ls):WX [U7 cs ls,KQ tm as ps]=some (.int (SR cs as ps)):=by
 refine KY (Z:=[some (.pub (U7 cs ls)),some (.pub (KQ tm as ps))]) rfl ?_;unfold Tr;have c6:=g.c6
 have hc:K2 (gT 2 (gNC (gN 2) (gNC (gN 3) (gN0)))) (UQ true) (UP Ko (UI 2) (UI 3)) (Ys (cs.map int) (ps.map int)) (Kn [some (.pub (U7 cs ls)),some (.pub (KQ tm as ps))]++Uy 2 none) []=some ((VC cs ps).map int):=by
  rw[AW,Tb (λ_=>true) (λd=>match d with | .tuple [.int a,.int b]=>.int (a*b)|_=>.none) (λZ=>∃x y,Z=[some (.pub (U7 cs ls)),some (.pub (KQ tm as ps)),x,y])]
  ·rw[Uc.mpr (λ_ _=>rfl),Jk,QY];unfold VC;rw[QY];rfl
  ·rintro d hm Z ⟨x,y,rfl⟩;obtain⟨p,hp,rfl⟩:=Qr.mp hm;have:=g.c7 p.1 (List.of_mem_zip hp).1;exact⟨_,KB rfl (U4 (UW (Qa rfl) rfl) (U4 (UW (Qa rfl) rfl) KD)),rfl,λ_=>U2 (UN rfl) (UN rfl) (Rk (by omega) (by omega)),_,_,rfl⟩
  ·exact⟨none,none,rfl⟩
  ·rw[Qb,QB,JP];omega
 refine Ku (U2 (Zc (UR (Kh rfl UT Fn) UV) O1) (Zc (UR (Kv (Z7 (FT (UR (Kh rfl UT Xh) (UR (Kh rfl UT Fm) UV)) rfl) hc)) UV) O1) KZ) ?_;unfold SR;rw[HR]
noncomputable def pairsOf:Nat->LO->LP
 |_,[]=>[]
 |k,some t::r=>((k:Int),t)::pairsOf (k+1) r
 |k,none::r=>pairsOf (k+1) r
noncomputable def Xk:Nat->LO->List (Option D)
 |_,[]=>[]
 |k,o::r=>(o.map λt=>Kf ((k:Int),t))::Xk (k+1) r
theorem PX:∀(k:Nat)(ws:LO),(Xk k ws).filterMap id=(pairsOf k ws).map Kf
 |_,[]=>rfl
 |k,some t::r=>by
  have ih:=PX (k+1) r
  show(some (Kf ((k:Int),t))::Xk (k+1) r).filterMap id=_
  rw[Jn];show _::_=_;rw[ih];rfl
 |k,none::r=>by
  have ih:=PX (k+1) r
  show((none:Option D)::Xk (k+1) r).filterMap id=_
  rw[Jn];exact ih
theorem NG:∀(k:Nat)(ws:LO),(Xk k ws).length=ws.length
 |_,[]=>rfl
 |k,_::r=>by rw[Xk,QO,QO,NG]
theorem HQ:∀(k i:Nat)(ws:LO),(Xk k ws)[i]?=ws[i]?.map λo=>o.map λt=>Kf (((k+i:Nat):Int),t)
 |_,_,[]=>by simp[Xk]
 |k,0,o::r=>by simp[Xk]
 |k,i+1,o::r=>by rw[Xk,Jy,Jy,HQ (k+1) i r,show k+1+i=k+(i+1)by omega]
theorem Nq:∀{k:Nat}{ws:LO}{q:Int×Int},q∈pairsOf k ws->∃i:Nat,ws[i]?=some (some q.2)/\q.1=((k+i:Nat):Int)
 |k,some t::r,q,h=>by
  rcases QQ.mp h with rfl|h
  ·exact⟨0,rfl,rfl⟩
  ·obtain⟨i,h1,h2⟩:=Nq (k:=k+1) h;exact⟨i+1,by simpa using h1,by rw[h2];congr 1;omega⟩
 |k,none::r,q,h=>by obtain⟨i,h1,h2⟩:=Nq (k:=k+1) h;exact⟨i+1,by simpa using h1,by rw[h2];congr 1;omega⟩
theorem Hg{W:Nat->List (List Int)->Int->Int}{V:Int->Int->Int}:∀(ls:L3)(ws:LO)(k:Nat),ws.length=ls.length->(∀(i:Nat) rs t,ls[i]?=some rs->V (((k+i:Nat):Int)) t=W (k+i) rs t)->((pairsOf k ws).map λq=>V q.1 q.2).sum=YA (Y3 W k ls ws)
 |[],[],_,_,_=>rfl
 |rs::ls,o::ws,k,hl,h=>by
  have ih:=Hg (W:=W) (V:=V) ls ws (k+1) (by simpa using hl) (λi rs' t e=>by have:=h (i+1) rs' t (by simpa using e);rw[show k+(i+1)=k+1+i by omega]at this;exact this);rw[Y3,HL,←ih];cases o with
  |none=>show((pairsOf (k+1) ws).map λq=>V q.1 q.2).sum=0+_;omega
  |some t=>
   show(V (k:Int) t::(pairsOf (k+1) ws).map λq=>V q.1 q.2).sum=W k rs t+_
   rw[Ue];have:=h 0 rs t rfl;rw[Nat.add_zero]at this;rw[this]
noncomputable def pz(ps:List Int)(ws:LO):Int:=(ws.map λo=>match o with|some t=>ps.getD t.toNat 0|none=>0).sum
noncomputable def Zi(n:Nat)(f:Nat->Int):Int:=((Ux n).map f).sum
theorem V3{n:Nat}{f:Nat->Int}:Zi (n+1) f=Zi n f+f n:=by unfold Zi;rw[List.range_succ,QC,List.sum_append];simp
theorem LN{f h:Nat->Int}:∀(n:Nat),Zi n (λk=>f k+h k)=Zi n f+Zi n h
 |0=>rfl
 |n+1=>by rw[V3,V3,V3,LN n];omega
theorem Om{f h:Nat->Int}:∀(n:Nat),(∀k,k<n->f k<=h k)->Zi n f<=Zi n h
 |0,_=>QZ _
 |n+1,e=>by
  have h1:=Om n λk hk=>e k (by omega)
  have h2:=e n (by omega);rw[V3,V3];omega
theorem Nk:∀(n:Nat)(f:Nat->Int),(∀k,k<n->f k=0)->Zi n f=0
 |0,_,_=>rfl
 |n+1,f,e=>by rw[V3,Nk n f λk hk=>e k (by omega),e n (by omega)];rfl
theorem LM{p:Nat->Int}{j:Nat}:∀(n:Nat),j<n->Zi n (λk=>if k=j then p k else 0)=p j
 |n+1,h=>by
  rw[V3];by_cases e:n=j
  ·subst e;rw[Qp rfl,Nk n _ λk hk=>Qz (by omega)];omega
  ·rw[Qz e,LM n (by omega)];omega
theorem NF{f h:Nat->Int}{n:Nat}(e:∀k,k<n->f k=h k):Zi n f=Zi n h:=JQ (Om n λk hk=>by rw[e k hk];exact QZ _) (Om n λk hk=>by rw[e k hk];exact QZ _)
theorem Hf{ps:List Int}{n:Nat}:∀(ws:LO),(∀t,some t∈ws->0<=t/\t<n)->pz ps ws=Zi n λk=>((ws.count (some (k:Int)):Nat):Int)*ps.getD k 0
 |[],_=>by rw[Nk n _ λk _=>by simp];rfl
 |o::ws,h=>by
  have ih:=Hf (ps:=ps) ws λt ht=>h t (Qj _ ht)
  cases o with
  |none=>
   show((0:Int)::(ws.map λo=>match o with|some t=>ps.getD t.toNat 0|none=>0)).sum=_
   rw[Ue];unfold pz at ih;rw[ih,JV];exact NF λk _=>by rw[List.count_cons];simp
  |some t=>
   have ht:=h t Qk
   show(ps.getD t.toNat 0::(ws.map λo=>match o with|some t=>ps.getD t.toNat 0|none=>0)).sum=_
   rw[Ue];unfold pz at ih;rw[ih,←LM (p:=λk=>ps.getD k 0) (j:=t.toNat) n (by omega),←LN];refine NF λk _=>?_;rw[JS]
   by_cases e:k=t.toNat
   ·subst e;have:(some t==some ((t.toNat:Nat):Int))=true:=by simp;omega
    rw[Qp rfl,Qp this,Int.natCast_add,Int.add_mul];omega
   ·have:¬(some t==some ((k:Nat):Int))=true:=by simp;omega
    rw[Qz e,Qz this,JV,Nat.add_zero]
theorem jp:∀(ps cs:List Int),ps.length=cs.length->(VC ps cs).sum=Zi cs.length λk=>cs.getD k 0*ps.getD k 0
 |ps,cs,h=>by
  unfold Zi VC
  congr 1
  apply List.ext_getElem?;intro i;rw[Qe,Qe];by_cases hi:i<cs.length
  ·rw[QU hi];have h1:ps[i]?=some ps[i]:=Qf (by omega);have h2:cs[i]?=some cs[i]:=Qf hi;have hz:(ps.zip cs)[i]?=some (ps[i],cs[i]):=List.getElem?_zip_eq_some.mpr ⟨h1,h2⟩;rw[hz];simp only[Option.map_some,Qo,h1,h2,JX,Int.mul_comm]
  ·rw[Jc (l:=ps.zip cs) (by rw[JP];omega),Jc (l:=Ux cs.length) (by rw[Qu];omega)];rfl
section
variable{cs:List Int}{ls:L3}{o:Ord}{old:Option LO}{ts:List Int}{ws:LO}
theorem NE(g:Good cs ls)(dl:Deal cs ls ws):Y8 [wtD (U8 ls o old ts) (U1 0 ls),Ke ws]=some (.int (YA (Y3 (Zj ls o old ts) 0 ls ws))):=by
 refine KY (Z:=[some (.pub (wtD (U8 ls o old ts) (U1 0 ls))),some (.pub (Ke ws)),none]) rfl ?_;unfold Tt;have hwl:ws.length<=7:=by have:=dl.len;have:=g.l7;omega
 let S0:Option Sl:=some (.pub (wtD (U8 ls o old ts) (U1 0 ls)))
 let S1:Option Sl:=some (.pub (Ke ws))
 have hc:K2 (gT 2 (gNC (gN 3) (gNC (gN 4) (gN0)))) (UZ (λd=>!isNon d) (UI 4)) (KE (UO (UI 3) (UO (UI 4) (UM)))) (Ye 0 (ws.map U5)) (Kn [S0,S1,none]++Uy 2 none) []=some ((pairsOf 0 ws).map Kf):=by
  rw[←PX];refine(PN (λZ=>∃x y,Z=[S0,S1,none,x,y]) _ (Xk 0 ws) _ _ (by rw[NG,Yr,Qb]) ?_ ⟨none,none,rfl⟩ (by rw[Yr,Qb,QB];omega)).trans (by rw[Jk]);rintro i d e hd he Z ⟨x,y,rfl⟩;obtain⟨z,hz,rfl⟩:=YV hd;rw[Qe]at hz;rw[HQ]at he;cases hwi:ws[i]? with
  |none=>rw[hwi]at hz;cases hz
  |some w=>
  rw[hwi]at hz he;cases hz;cases he;refine⟨_,KB rfl (U4 (UW (Qa rfl) rfl) (U4 (UW (Qa rfl) rfl) KD)),?_,?_,_,_,rfl⟩
  ·cases w with
   |none=>exact Kv (k:=λd=>!isNon d) (x:=PyData.none) (UN rfl)
   |some t=>exact Kv (k:=λd=>!isNon d) (x:=int t) (UN rfl)
  ·intro v hv;cases w with
   |none=>cases hv
   |some t=>cases hv;exact Yz (UR (UN rfl) (UR (UN rfl) UV)) (Qa rfl)
 refine Kj (Z1:=[S0,S1,some (.own ((pairsOf 0 ws).map Kf))]) (Z6 (Z7 (Xe (UR (UN rfl) UV) rfl) hc) (Qa rfl) rfl) ?_;have hpl:(pairsOf 0 ws).length<=7:=by have:((Xk 0 ws).filterMap id).length<=(Xk 0 ws).length:=Jf _ _;rw[PX,NG,Qb]at this;omega
 have hc2:K2 (gN 3) (UQ true) (UP SK (UI 0) (UI 3)) ((pairsOf 0 ws).map Kf) (Kn [S0,S1,some (.pub (.list ((pairsOf 0 ws).map Kf)))]++Uy 1 none) []=some (((pairsOf 0 ws).map λq=>U8 ls o old ts q.1 q.2).map int):=by
  refine(YX (λZ=>∃x,Z=[S0,S1,some (.pub (.list ((pairsOf 0 ws).map Kf))),x]) _ (((pairsOf 0 ws).map λq=>U8 ls o old ts q.1 q.2).map int) _ _ (by rw[Qb,Qb,Qb]) ?_ ⟨none,rfl⟩ (by rw[Qb,QB];omega)).trans (by rw[Jk]);rintro i d e hd he Z ⟨x,rfl⟩;rw[Qe]at hd he;rw[Qe]at he;cases hz:(pairsOf 0 ws)[i]? with
  |none=>rw[hz]at hd;cases hd
  |some q=>
  rw[hz]at hd he;cases hd;cases he;have hq:=Qn hz;obtain⟨j,h1,h2⟩:=Nq hq;have hjl:j<ls.length:=by have:=(Qg.mp h1).1;have:=dl.len;omega
  have hj:ls[j]?=some ls[j]:=Qf hjl;have hm:q∈U1 0 ls:=by have:=OR (k:=0) hj (dl.wish j q.2 _ h1 hj);rw[←h2]at this;exact this
  exact⟨_,UW (Qa rfl) rfl,rfl,U2 (UN rfl) (UN rfl) (Mr hm),_,rfl⟩
 refine Ku (Zc (UR (Kv (Z7 (Zp (Yj rfl rfl) ZX) hc2)) UV) O1) ?_
 rw[Hg (W:=Zj ls o old ts) ls ws 0 dl.len λi rs t e=>by
  unfold U8;rw[Qt,QX]
  congr 1
  simp[List.getD,e]]
end
theorem Co{xs:List D}{k:Nat}(h:k<=xs.length):DL.cutD xs none (some (k:Int))=xs.take k:=by unfold DL.cutD;rw[HT.CI,HT.Am,Ui,Nat.sub_zero,Ug h]
structure Stp where
 a:Nat
 b:Nat
 g:Int
 w:Option Nat
abbrev Tab:=List (Int×List Stp)
noncomputable def ent(T:Tab)(p:Nat):Int×List Stp:=T.getD p (0,[])
noncomputable def Yw(W T:Tab)(s:Stp):Tab:=if(ent T s.b).1<(ent W s.a).1+s.g then T.set s.b ((ent W s.a).1+s.g,(ent W s.a).2++[s])else T
noncomputable def Pl(W:Tab)(S:List Stp):Tab:=S.foldl (Yw W) W
noncomputable def KP(n:Nat)(S:List Stp):Nat->Tab
 |0=>Uy n (0,[])
 |t+1=>Pl (KP n S t) S
theorem jW{T:Tab}{p:Nat}{x:Int×List Stp}(h:p<T.length):ent (T.set p x) p=x:=by unfold ent;rw[Qo,QD h];rfl
theorem NC{T:Tab}{p q:Nat}{x:Int×List Stp}(h:p≠q):ent (T.set p x) q=ent T q:=by unfold ent;rw[Qo,Qq h,←Qo]
theorem B6(W T:Tab)(s:Stp):(Yw W T s).length=T.length:=by
 unfold Yw;split
 ·rw[QS]
 ·rfl
structure SQ(W T:Tab)(S:List Stp):Prop where
 len:T.length=W.length
 up:∀p,(ent W p).1<=(ent T p).1
 how:∀p,ent T p=ent W p ∨ ∃s∈S,s.b=p/\ent T p=((ent W s.a).1+s.g,(ent W s.a).2++[s])/\(ent W p).1<(ent T p).1
theorem jV{W T:Tab}{S:List Stp}{s:Stp}(hs:s∈S)(hb:s.b<W.length)(k:SQ W T S):SQ W (Yw W T s) S/\(∀p,(ent T p).1<=(ent (Yw W T s) p).1)/\(ent W s.a).1+s.g<=(ent (Yw W T s) s.b).1:=by
 have hbT:s.b<T.length:=by rw[k.len];exact hb
 unfold Yw;split
 ·rename_i h;have self:=jW (x:=((ent W s.a).1+s.g,(ent W s.a).2++[s])) hbT;refine⟨⟨by rw[QS];exact k.len,λp=>?_,λp=>?_⟩,λp=>?_,by rw[self];exact QZ _⟩
  ·by_cases z:s.b=p
   ·subst z;rw[self];have:=k.up s.b;show _<=(ent W s.a).1+s.g;omega
   ·rw[NC z];exact k.up p
  ·by_cases z:s.b=p
   ·subst z;right;exact⟨s,hs,rfl,self,by rw[self];have:=k.up s.b;show _<(ent W s.a).1+s.g;omega⟩
   ·rw[NC z];exact k.how p
  ·by_cases z:s.b=p
   ·subst z;rw[self];show _<=(ent W s.a).1+s.g;omega
   ·rw[NC z];exact QZ _
 ·rename_i h;exact⟨k,λp=>QZ _,by omega⟩
theorem Gs{W:Tab}{S:List Stp}(hS:∀s∈S,s.b<W.length):∀(R:List Stp)(T:Tab),(∀s∈R,s∈S)->SQ W T S->SQ W (R.foldl (Yw W) T) S/\(∀p,(ent T p).1<=(ent (R.foldl (Yw W) T) p).1)/\∀s∈R,(ent W s.a).1+s.g<=(ent (R.foldl (Yw W) T) s.b).1
 |[],T,_,k=>⟨k,λ_=>QZ _,λs h=>by cases h⟩
 |s::R,T,hR,k=>by
  obtain⟨k1,u1,c1⟩:=jV (hR s Qk) (hS s (hR s Qk)) k;obtain⟨k2,u2,c2⟩:=Gs hS R (Yw W T s) (λx hx=>hR x (Qj _ hx)) k1;refine⟨k2,λp=>JU (u1 p) (u2 p),λx hx=>?_⟩;rcases QQ.mp hx with rfl|hx
  ·exact JU c1 (u2 x.b)
  ·exact c2 x hx
theorem GF{W:Tab}{S:List Stp}(hS:∀s∈S,s.b<W.length):SQ W (Pl W S) S/\∀s∈S,(ent W s.a).1+s.g<=(ent (Pl W S) s.b).1:=by obtain⟨k,_,c⟩:=Gs hS S W (λ_ h=>h) ⟨rfl,λ_=>QZ _,λ_=>.inl rfl⟩;exact⟨k,c⟩
section
variable{n:Nat}{S:List Stp}(hS:∀s∈S,s.a<n/\s.b<n)
include hS
theorem Rp:∀t,(KP n S t).length=n
 |0=>by unfold KP;rw[QE]
 |t+1=>by unfold KP;rw[(GF (λs h=>by rw[Rp t];exact(hS s h).2)).1.len,Rp t]
theorem V9(t:Nat):SQ (KP n S t) (KP n S (t+1)) S/\∀s∈S,(ent (KP n S t) s.a).1+s.g<=(ent (KP n S (t+1)) s.b).1:=
 GF (λs h=>by rw[Rp hS t];exact(hS s h).2)
theorem Rm(p:Nat):ent (KP n S 0) p=(0,[]):=by
 unfold ent KP;rw[Qo,QA]
 split<;>rfl
theorem RW:∀t,(∀p,(ent (KP n S t) p).2.length<=t)/\(∀p,0<t->ent (KP n S t) p≠ent (KP n S (t-1)) p->(ent (KP n S t) p).2.length=t)
 |0=>⟨λp=>by rw[Rm hS];exact Qs _,λp h=>absurd h (Jo _)⟩
 |t+1=>by
  obtain⟨h1,h2⟩:=RW t;obtain⟨k,c⟩:=V9 hS t
  have key:∀p,ent (KP n S (t+1)) p≠ent (KP n S t) p->(ent (KP n S (t+1)) p).2.length=t+1:=λp hne=>by
   rcases k.how p with e|⟨s,hs,hb,e,lt⟩
   ·exact absurd e hne
   ·rw[e,Ql,Q6]
    congr 1
    cases t with
    |zero=>rw[Rm hS];rfl
    |succ t=>
     refine h2 s.a (Uj t) λz=>?_
     obtain⟨k0,c0⟩:=V9 hS t;have:=c0 s hs;rw[Nat.add_sub_cancel]at z;rw[e,z,←hb]at lt;exact absurd lt (by show ¬_<(ent (KP n S t) s.a).1+s.g;omega)
  refine⟨λp=>?_,λp _ hne=>key p (by rw[Nat.add_sub_cancel]at hne;exact hne)⟩;by_cases z:ent (KP n S (t+1)) p=ent (KP n S t) p
  ·rw[z];exact Nat.le_succ_of_le (h1 p)
  ·rw[key p z];exact Qs _
end
inductive Walk(S:List Stp):Nat->List Stp->Prop where
 |nil (p:Nat):Walk S p []
 |snoc {w:List Stp} {s:Stp} (hs:s∈S) (h:Walk S s.a w):Walk S s.b (w++[s])
noncomputable def Km(w:List Stp):Int:=(w.map Stp.g).sum
theorem LK:Km []=0:=rfl
theorem Wx(u v:List Stp):Km (u++v)=Km u+Km v:=by unfold Km;rw[QC,List.sum_append]
theorem Rl(s:Stp):Km [s]=s.g:=by unfold Km;simp
section
variable{n:Nat}{S:List Stp}(hS:∀s∈S,s.a<n/\s.b<n)
include hS
theorem Rf:∀t p,Walk S p (ent (KP n S t) p).2/\Km (ent (KP n S t) p).2=(ent (KP n S t) p).1
 |0,p=>by rw[Rm hS];exact⟨.nil p,rfl⟩
 |t+1,p=>by
  rcases(V9 hS t).1.how p with e|⟨s,hs,hb,e,_⟩
  ·rw[e];exact Rf t p
  ·obtain⟨h1,h2⟩:=Rf t s.a;rw[e,←hb];exact⟨.snoc hs h1,by rw[Wx,Rl,h2]⟩
theorem Nj{t u:Nat}(h:t<=u)(p:Nat):(ent (KP n S t) p).1<=(ent (KP n S u) p).1:=by
 induction h with
 |refl=>exact QZ _
 |step _ ih=>exact JU ih ((V9 hS _).1.up p)
theorem B5{p:Nat}{w:List Stp}(h:Walk S p w):∀(t:Nat),w.length<=t->Km w<=(ent (KP n S t) p).1:=by
 induction h with
 |nil p=>intro t _;have:=Nj hS (JH t) p;rw[Rm hS]at this;exact this
 |@snoc w s hs h ih=>
  intro t hl;rw[Ql,Q6]at hl;obtain⟨u,rfl⟩:∃u,t=u+1:=⟨t-1,by omega⟩
  have:=ih u (by omega);have:=(V9 hS u).2 s hs;rw[Wx,Rl];omega
theorem jo{t:Nat}(h0:0<t)(h:∀p,p<n->(ent (KP n S t) p).2.length≠t):∀s∈S,(ent (KP n S t) s.a).1+s.g<=(ent (KP n S t) s.b).1:=λs hs=>by
 obtain⟨u,rfl⟩:∃u,t=u+1:=⟨t-1,by omega⟩
 have e:ent (KP n S (u+1)) s.a=ent (KP n S u) s.a:=Classical.byContradiction λz=>h s.a (hS s hs).1 ((RW hS (u+1)).2 s.a h0 z);rw[e]
 exact(V9 hS u).2 s hs
end
inductive Path(S:List Stp):Nat->List Stp->Nat->Prop where
 |nil (p:Nat):Path S p [] p
 |cons {s:Stp} {w:List Stp} {p:Nat} (hs:s∈S) (h:Path S s.b w p):Path S s.a (s::w) p
section
variable{S:List Stp}
theorem Path.append{q m p:Nat}{u v:List Stp}(h1:Path S q u m)(h2:Path S m v p):Path S q (u++v) p:=by
 induction h1 with
 |nil p=>exact h2
 |cons hs h ih=>exact .cons hs (ih h2)
theorem Path.split{p:Nat}{v:List Stp}:∀{u:List Stp}{q:Nat},Path S q (u++v) p->∃m,Path S q u m/\Path S m v p
 |[],q,h=>⟨q,.nil q,h⟩
 |s::u,q,h=>by
  cases h with
  |cons hs h=>obtain⟨m,h1,h2⟩:=Path.split (u:=u) h;exact⟨m,.cons hs h1,h2⟩
theorem Path.mem{q p:Nat}{w:List Stp}(h:Path S q w p):∀s∈w,s∈S:=by
 induction h with
 |nil p=>intro s h;cases h
 |cons hs h ih=>
  intro s hm;rcases QQ.mp hm with rfl|hm
  ·exact hs
  ·exact ih s hm
theorem Walk.path{p:Nat}{w:List Stp}(h:Walk S p w):∃q,Path S q w p:=by
 induction h with
 |nil p=>exact⟨p,.nil p⟩
 |snoc hs h ih=>obtain⟨q,hq⟩:=ih;exact⟨q,hq.append (.cons hs (.nil _))⟩
theorem Path.walk{p:Nat}:∀{w:List Stp}{q:Nat},Path S q w p->∀{u:List Stp},Walk S q u->Walk S p (u++w)
 |[],q,h,u,hu=>by cases h;rw[Q7];exact hu
 |s::w,q,h,u,hu=>by
  cases h with
  |cons hs h=>have:=Path.walk h (Walk.snoc hs hu);rw[Ja]at this;exact this
theorem Path.head{q p:Nat}{s:Stp}{w:List Stp}(h:Path S q (s::w) p):q=s.a:=by cases h;rfl
theorem Path.step{q p:Nat}{s:Stp}{w:List Stp}(h:Path S q (s::w) p):s∈S/\Path S s.b w p:=by cases h with|cons hs h=>exact⟨hs,h⟩
theorem Path.at{q p:Nat}{w:List Stp}(h:Path S q w p){i:Nat}{s:Stp}(hi:w[i]?=some s):Path S q (w.take i) s.a/\Path S q (w.take (i+1)) s.b/\Path S s.b (w.drop (i+1)) p:=by
 have hl:i<w.length:=(Qg.mp hi).1
 have e:w.drop i=s::w.drop (i+1):=by
  rw[Jd hl]
  congr 1
  exact(Qg.mp hi).2
 have h':Path S q (w.take i++w.drop i) p:=by rw[JK];exact h
 obtain⟨m,h1,h2⟩:=h'.split;rw[e]at h2;have hm:=h2.head;subst hm;obtain⟨hs,h3⟩:=h2.step;refine⟨h1,?_,h3⟩;rw[JJ,hi];exact h1.append (.cons hs (.nil _))
theorem Path.next{q p:Nat}{w:List Stp}(h:Path S q w p){i:Nat}{s t:Stp}(hi:w[i]?=some s)(hj:w[i+1]?=some t):t.a=s.b:=by obtain⟨_,_,h3⟩:=h.at hi;have hl:i+1<w.length:=(Qg.mp hj).1;rw[Jd hl]at h3;rw[←(Qg.mp hj).2];exact h3.head.symm
structure Ol(w:List Stp)(i j:Nat):Prop where
 ij:i<=j
 jl:j<w.length
 same:∀s t,w[i]?=some s->w[j]?=some t->s.a=t.b
 first:∀j'<j,∀i' ≤ j',∀s t,w[i']?=some s->w[j']?=some t->s.a≠t.b
def My(w:List Stp):Prop:=∀j<w.length,∀i ≤ j,∀s t,w[i]?=some s->w[j]?=some t->s.a≠t.b
theorem BY{n:Nat}(hS:∀s∈S,s.a<n/\s.b<n){q p:Nat}{w:List Stp}(h:Path S q w p)(hl:n<=w.length)(h0:0<n):¬My w:=λhn=>by
 obtain⟨s0,w0,rfl⟩:∃s0 w0,w=s0::w0:=by
  cases w with
  |nil=>rw[QB]at hl;omega
  |cons a b=>exact⟨a,b,rfl⟩
 let P:List Nat:=s0.a::(s0::w0).map Stp.b
 have key:∀k l:Nat,k<l->∀x y:Nat,P[k]?=some x->P[l]?=some y->x≠y:=λk l hkl x y hx hy=>by
  obtain⟨l,rfl⟩:∃m,l=m+1:=⟨l-1,by omega⟩
  have hy:((s0::w0).map Stp.b)[l]?=some y:=hy;rw[Qe]at hy;cases ht:(s0::w0)[l]? with
  |none=>rw[ht]at hy;cases hy
  |some t=>
  rw[ht]at hy;cases hy;have hll:l<(s0::w0).length:=(Qg.mp ht).1;obtain⟨s,hs⟩:∃s,(s0::w0)[k]?=some s:=⟨_,Qf (by omega)⟩
  have hxs:x=s.a:=by
   cases k with
   |zero=>cases hs;cases hx;rfl
   |succ k=>
    have hx:((s0::w0).map Stp.b)[k]?=some x:=hx;rw[Qe]at hx;obtain⟨r,hr⟩:∃r,(s0::w0)[k]?=some r:=⟨_,Qf (by omega)⟩
    rw[hr]at hx;cases hx;exact(h.next hr hs).symm
  rw[hxs];exact hn l hll k (by omega) s t hs ht
 have nd:P.Nodup:=by rw[List.nodup_iff_pairwise_ne,List.pairwise_iff_getElem];intro k l hk hl2 hkl;exact key k l hkl _ _ (Qf hk) (Qf hl2)
 have bound:∀x∈P,x<n:=λx hx=>by
  rcases QQ.mp hx with rfl|hx
  ·exact(hS s0 h.step.1).1
  ·obtain⟨s,hs,rfl⟩:=Qr.mp hx;exact(hS s (h.mem s hs)).2
 have le:P.length<=n:=by
  have:=List.Nodup.length_le_of_subset nd (l₂:=Ux n) λx hx=>Q8.mpr (bound x hx)
  rwa[Qu]at this
 have:P.length=(s0::w0).length+1:=by show((s0::w0).map Stp.b).length+1=_;rw[Qb]
 omega
theorem jn{n:Nat}(hS:∀s∈S,s.a<n/\s.b<n)(h0:0<n){p:Nat}(hw:(ent (KP n S n) p).2.length=n){i j:Nat}(r:Ol (ent (KP n S n) p).2 i j) :
  ∃x,Path S x (((ent (KP n S n) p).2.take (j+1)).drop i) x/\0<Km (((ent (KP n S n) p).2.take (j+1)).drop i):=by
 obtain⟨hwk,hg⟩:=Rf hS n p;generalize hW:(ent (KP n S n) p).2=w at hw r hwk hg⊢;obtain⟨q,hp⟩:=hwk.path;have hij:=r.ij;have hjl:=r.jl;obtain⟨s,hs⟩:∃s,w[i]?=some s:=⟨_,Qf (by omega)⟩
 obtain⟨t,ht⟩:∃t,w[j]?=some t:=⟨_,Qf hjl⟩
 have hst:=r.same s t hs ht;obtain⟨a1,a2,a3⟩:=hp.at hs;obtain⟨b1,b2,b3⟩:=hp.at ht;have e1:w.take (j+1)=w.take i++(w.take (j+1)).drop i:=by have:=(JK i (w.take (j+1))).symm;rw[List.take_take,Ug (by omega)]at this;exact this
 rw[e1]at b2;obtain⟨m,c1,c2⟩:=b2.split
 have hm:m=s.a:=by
  have e2:(w.take (j+1)).drop i=s::(w.take (j+1)).drop (i+1):=by
   rw[Jd (by rw[QN];omega)]
   congr 1
   rw[List.getElem_take];exact(Qg.mp hs).2
  rw[e2]at c2;exact c2.head
 subst hm;rw[←hst]at c2 b3;refine⟨s.a,c2,?_⟩;have hsh:Path S q (w.take i++w.drop (j+1)) p:=a1.append b3;have hshw:=hsh.walk (u:=[]) (.nil q);rw[Jk]at hshw;have hlen:(w.take i++w.drop (j+1)).length<=n-1:=by rw[Ql,QN,Jl];omega
 have most:=B5 hS hshw (n-1) hlen;have hgw:Km w=Km (w.take i)+Km ((w.take (j+1)).drop i)+Km (w.drop (j+1)):=by rw[←Wx,←e1,←Wx,JK]
 rw[Wx]at most
 have lt:(ent (KP n S (n-1)) p).1<(ent (KP n S n) p).1:=by
  obtain⟨k,_⟩:=V9 hS (n-1);rw[Nat.sub_add_cancel h0]at k;rcases k.how p with e|⟨_,_,_,_,lt⟩
  ·have:=(RW hS (n-1)).1 p;rw[←e,hW,hw]at this;omega
  ·exact lt
 omega
theorem jI{q p:Nat}{w:List Stp}(h:Path S q w p){i j:Nat}(r:Ol w i j):(((w.take (j+1)).drop i).map Stp.a).Nodup:=by
 rw[List.nodup_iff_pairwise_ne,List.pairwise_iff_getElem];intro k l hk hl hkl;have hij:=r.ij;have hjl:=r.jl;simp only[Qb,Jl,QN]at hk hl;simp only[JY,List.getElem_drop,List.getElem_take];obtain⟨m,rfl⟩:∃m,l=m+1:=⟨l-1,by omega⟩
 have e1:w[i+m]?=some w[i+m]:=Qf (by omega);have e2:w[i+m+1]?=some w[i+(m+1)]:=Qf (by omega);have e3:w[i+k]?=some w[i+k]:=Qf (by omega);rw[h.next e1 e2];exact r.first (i+m) (by omega) (i+k) (by omega) _ _ e3 e1
end
noncomputable def Kg(f:Int×Int->Int)(i:Nat):Option Int->Int
 |none=>0
 |some t=>f ((i:Int),t)
noncomputable def plF(n:Nat):Option Int->Nat
 |none=>n
 |some t=>t.toNat
noncomputable def Zl(n b:Nat):Option Int:=if b=n then none else some (b:Int)
noncomputable def KO(f:Int×Int->Int)(k:Nat):LO->Int
 |[]=>0
 |o::r=>Kg f k o+KO f (k+1) r
theorem LJ(f:Int×Int->Int){o':Option Int}:∀{d:LO}{k i:Nat}{o:Option Int},d[i]?=some o->KO f k (d.set i o')=KO f k d+Kg f (k+i) o'-Kg f (k+i) o
 |[],_,_,_,h=>by cases h
 |x::d,k,0,o,h=>by cases h;show Kg f k o'+KO f (k+1) d=Kg f k x+KO f (k+1) d+Kg f k o'-Kg f k x;omega
 |x::d,k,i+1,o,h=>by rw[List.set_cons_succ];unfold KO;rw[LJ f (d:=d) (k:=k+1) (i:=i) (o:=o) (by simpa using h),show k+1+i=k+(i+1)by omega];omega
theorem He{o' x:Option Int}:∀{d:LO}{i:Nat}{o:Option Int},d[i]?=some o->(((d.set i o').count x:Nat):Int)=(d.count x:Nat)+(if o'=x then 1 else 0)-(if o=x then 1 else 0)
 |[],_,_,h=>by cases h
 |y::d,0,o,h=>by cases h;rw[List.set_cons_zero,JS,JS];by_cases h1:o'=x<;>by_cases h2:y=x<;>simp[h1,h2]<;>omega
 |y::d,i+1,o,h=>by have ih:=He (o':=o') (x:=x) (d:=d) (i:=i) (o:=o) (by simpa using h);rw[List.set_cons_succ,JS,JS];omega
structure ZW(cs:List Int)(qs:LP)(m:Nat)(ws:LO):Prop where
 len:ws.length=m
 wish:∀(i:Nat) t,ws[i]?=some (some t)->((i:Int),t)∈qs
 cop:∀(k:Nat) c,cs[k]?=some c->((ws.count (some (k:Int)):Nat):Int)<=c
structure Yp(n m:Nat)(qs:LP):Prop where
 nd:qs.Nodup
 lo:∀q∈qs,0<=q.1/\q.1<m/\0<=q.2/\q.2<n
inductive IsSt(cs:List Int)(f:Int×Int->Int)(qs:LP)(ws:LO):Stp->Prop where
 |mv {i:Nat} {o o':Option Int} (h:ws[i]?=some o) (hne:o'≠o) (hq:∀t,o'=some t->((i:Int),t)∈qs):IsSt cs f qs ws ⟨plF cs.length o,plF cs.length o',Kg f i o'-Kg f i o,some i⟩
 |left {t:Nat} {c:Int} (h:cs[t]?=some c) (hl:((ws.count (some (t:Int)):Nat):Int)<c):IsSt cs f qs ws ⟨t,cs.length,0,none⟩
 |give {t:Nat} (h:t<cs.length):IsSt cs f qs ws ⟨cs.length,t,0,none⟩
noncomputable def app(n:Nat)(d:LO)(s:Stp):LO:=match s.w with
 |some i=>d.set i (Zl n s.b)
 |none=>d
noncomputable def nIn(t:Nat)(R:List Stp):Nat:=(R.filter λs=>s.w.isSome&&s.b==t).length
noncomputable def Xu(t:Nat)(R:List Stp):Nat:=(R.filter λs=>s.w.isSome&&s.a==t).length
section
variable{cs:List Int}{f:Int×Int->Int}{qs:LP}{m:Nat}{ws:LO}
theorem Wn(hp:Yp cs.length m qs){i:Nat}{o:Option Int}(h:∀t,o=some t->((i:Int),t)∈qs):Zl cs.length (plF cs.length o)=o:=by
 cases o with
 |none=>unfold Zl plF;rw[Qp rfl]
 |some t=>
  have:=hp.lo _ (h t rfl)
  show(if t.toNat=cs.length then none else some ((t.toNat:Nat):Int))=some t
  rw[Qz (by omega)]
  congr 1
  omega
theorem Pk(hp:Yp cs.length m qs){i:Nat}{o:Option Int}{t:Nat}(ht:t<cs.length)(h:∀t,o=some t->((i:Int),t)∈qs):plF cs.length o=t ↔ o=some (t:Int):=by
 cases o with
 |none=>exact⟨λe=>by have e:cs.length=t:=e;omega,λe=>by cases e⟩
 |some u=>
  have:=hp.lo _ (h u rfl);show u.toNat=t ↔ _;constructor
  ·intro e;congr 1;omega
  ·intro e;cases e;omega
theorem Pw(hp:Yp cs.length m qs)(hd:ZW cs qs m ws):∀(R:List Stp)(d:LO),(∀s∈R,IsSt cs f qs ws s)->(R.map Stp.a).Nodup->(∀s∈R,∀i,s.w=some i->d[i]?=ws[i]?)->d.length=ws.length->(∀(i:Nat) t,d[i]?=some (some t)->((i:Int),t)∈qs) ->
  KO f 0 (R.foldl (app cs.length) d)=KO f 0 d+Km R/\(R.foldl (app cs.length) d).length=ws.length/\(∀(i:Nat) t,(R.foldl (app cs.length) d)[i]?=some (some t)->((i:Int),t)∈qs) /\
  ∀t,t<cs.length->(((R.foldl (app cs.length) d).count (some (t:Int)):Nat):Int)=(d.count (some (t:Int)):Nat)+(nIn t R:Nat)-(Xu t R:Nat)
 |[],d,_,_,_,hl,hq=>⟨by show _=_+Km [];rw[LK];show KO f 0 d=_;omega,hl,hq,λt _=>by show((d.count _:Nat):Int)=_+((0:Nat):Int)-((0:Nat):Int);omega⟩
 |s::R,d,hR,hn,ha,hl,hq=>by
  rw[Qx,JN]at hn;have hgc:Km (s::R)=s.g+Km R:=by show Km ([s]++R)=_;rw[Wx,Rl]
  rw[JO,hgc];cases hR s Qk with
  |@mv i o o' h hne hq'=>
   have hdi:d[i]?=some o:=(ha _ Qk i rfl).trans h;have ho:∀t,o=some t->((i:Int),t)∈qs:=λt e=>hd.wish i t (by rw[h,e])
   have hil:i<d.length:=(Qg.mp hdi).1;have eapp:app cs.length d ⟨plF cs.length o,plF cs.length o',Kg f i o'-Kg f i o,some i⟩=d.set i o':=by show d.set i (Zl cs.length (plF cs.length o'))=_;rw[Wn hp hq']
   rw[eapp]
   obtain⟨k1,k2,k3,k4⟩:=Pw hp hd R (d.set i o') (λs hs=>hR s (Qj _ hs)) hn.2 (λs hs j hj=>by
    have hji:i≠j:=λz=>by
     subst z;cases hR s (Qj _ hs)with
     |@mv i2 o2 o2' h2 _ _=>cases hj;rw[h]at h2;cases h2;exact hn.1 (Qr.mpr ⟨_,hs,rfl⟩)
     |left _ _=>cases hj
     |give _=>cases hj
    rw[Qq hji];exact ha s (Qj _ hs) j hj) (by rw[QS];exact hl) (λj t e=>by
    by_cases z:i=j
    ·subst z;rw[QD hil]at e;cases e;exact hq' t rfl
    ·rw[Qq z]at e;exact hq j t e)
   refine⟨?_,k2,k3,λt ht=>?_⟩
   ·rw[k1,LJ f hdi,QX];show _=KO f 0 d+((Kg f i o'-Kg f i o)+Km R);omega
   ·rw[k4 t ht,He hdi]
    have e1:(if o'=some (t:Int)then(1:Int)else 0)=if plF cs.length o'=t then 1 else 0:=by
     by_cases z:o'=some (t:Int)
     ·rw[Qp z,Qp ((Pk hp ht hq').mpr z)]
     ·rw[Qz z,Qz (λy=>z ((Pk hp ht hq').mp y))]
    have e2:(if o=some (t:Int)then(1:Int)else 0)=if plF cs.length o=t then 1 else 0:=by
     by_cases z:o=some (t:Int)
     ·rw[Qp z,Qp ((Pk hp ht ho).mpr z)]
     ·rw[Qz z,Qz (λy=>z ((Pk hp ht ho).mp y))]
    have e3:∀(x:Nat),((nIn t (⟨plF cs.length o,plF cs.length o',Kg f i o'-Kg f i o,some i⟩::R):Nat):Int)=(if plF cs.length o'=t then 1 else 0)+(nIn t R:Nat):=λx=>by
     unfold nIn;rw[List.filter_cons];by_cases z:plF cs.length o'=t
     ·rw[if_pos z,if_pos (by simp[z]),List.length_cons];omega
     ·rw[if_neg z,if_neg (by simp[z])];omega
    have e4:∀(x:Nat),((Xu t (⟨plF cs.length o,plF cs.length o',Kg f i o'-Kg f i o,some i⟩::R):Nat):Int)=(if plF cs.length o=t then 1 else 0)+(Xu t R:Nat):=λx=>by
     unfold Xu;rw[List.filter_cons];by_cases z:plF cs.length o=t
     ·rw[if_pos z,if_pos (by simp[z]),List.length_cons];omega
     ·rw[if_neg z,if_neg (by simp[z])];omega
    rw[e1,e2,e3 0,e4 0];omega
  |left _ _=>obtain⟨k1,k2,k3,k4⟩:=Pw hp hd R d (λs hs=>hR s (Qj _ hs)) hn.2 (λs hs=>ha s (Qj _ hs)) hl hq;refine⟨?_,k2,k3,k4⟩;show KO f 0 (R.foldl _ d)=KO f 0 d+(0+Km R);rw[k1];omega
  |give _=>obtain⟨k1,k2,k3,k4⟩:=Pw hp hd R d (λs hs=>hR s (Qj _ hs)) hn.2 (λs hs=>ha s (Qj _ hs)) hl hq;refine⟨?_,k2,k3,k4⟩;show KO f 0 (R.foldl _ d)=KO f 0 d+(0+Km R);rw[k1];omega
theorem Mq(t:Nat):∀R:List Stp,nIn t R<=(R.map Stp.b).count t
 |[]=>Qs _
 |s::R=>by
  have ih:=Mq t R;unfold nIn at ih⊢;rw[List.filter_cons,Qx,JS];split
  ·rename_i h;rw[Jm]at h;rw[QO,Qp h.2];omega
  ·omega
theorem BX(hp:Yp cs.length m qs)(hd:ZW cs qs m ws){R:List Stp}(hR:∀s∈R,IsSt cs f qs ws s)(hn:(R.map Stp.a).Nodup)(hb:(R.map Stp.b).Perm (R.map Stp.a)):ZW cs qs m (R.foldl (app cs.length) ws)/\KO f 0 (R.foldl (app cs.length) ws)=KO f 0 ws+Km R:=by
 obtain⟨k1,k2,k3,k4⟩:=Pw hp hd R ws hR hn (λs hs i e=>rfl) rfl hd.wish;refine⟨⟨by rw[k2];exact hd.len,k3,λt c hc=>?_⟩,k1⟩;have ht:t<cs.length:=(Qg.mp hc).1;rw[k4 t ht];have h0:=hd.cop t c hc;have h1:(R.map Stp.a).count t<=1:=List.nodup_iff_count.mp hn t;have h2:=Mq t R;rw[hb.count_eq]at h2;by_cases z:nIn t R=0
 ·omega
 ·have hin:nIn t R=1:=by omega
  have hmem:t∈R.map Stp.a:=List.count_pos_iff.mp (by omega);obtain⟨s,hs,hst⟩:=Qr.mp hmem;cases hR s hs with
  |@mv i o o' h hne hq'=>
   have:1<=Xu t R:=by unfold Xu;exact List.length_pos_iff.mpr (List.ne_nil_of_mem (List.mem_filter.mpr ⟨hs,by simpa using hst⟩))
   omega
  |@left u c' h hl=>have hst:u=t:=hst;subst hst;rw[h]at hc;cases hc;omega
  |@give u h=>have hst:cs.length=t:=hst;omega
end
theorem Cn{S:List Stp}{q p:Nat}{w:List Stp}(h:Path S q w p):w.map Stp.a++[p]=q::w.map Stp.b:=by
 induction h with
 |nil p=>rfl
 |cons hs h ih=>rw[Qx,Qx,List.cons_append,ih]
theorem jm{S:List Stp}{x:Nat}{w:List Stp}(h:Path S x w x):(w.map Stp.b).Perm (w.map Stp.a):=by have e:=Cn h;have p1:(w.map Stp.a++[x]).Perm (x::w.map Stp.a):=List.perm_append_comm;rw[e]at p1;exact List.Perm.cons_inv p1
noncomputable def ZG(f:Int×Int->Int)(V:Nat->Int)(qs:LP)(i:Int):Int:=qs.foldl (λa q=>if q.1=i then max a (f q-V q.2.toNat)else a) 0
theorem PV(f:Int×Int->Int)(V:Nat->Int)(i:Int):∀(qs:LP)(a:Int),a<=qs.foldl (λa q=>if q.1=i then max a (f q-V q.2.toNat)else a) a /\
  (∀q∈qs,q.1=i->f q-V q.2.toNat<=qs.foldl (λa q=>if q.1=i then max a (f q-V q.2.toNat)else a) a) /\
  ∀B,a<=B->(∀q∈qs,q.1=i->f q-V q.2.toNat<=B)->qs.foldl (λa q=>if q.1=i then max a (f q-V q.2.toNat)else a) a<=B
 |[],a=>⟨QZ _,(λq h=>by cases h),λB h _=>h⟩
 |q::qs,a=>by
  rw[JO];obtain⟨h1,h2,h3⟩:=PV f V i qs (if q.1=i then max a (f q-V q.2.toNat)else a);have hb:a<=(if q.1=i then max a (f q-V q.2.toNat)else a):=by split<;>omega
  refine⟨JU hb h1,λp hp e=>?_,λB ha hB=>h3 B ?_ λp hp=>hB p (Qj _ hp)⟩
  ·rcases QQ.mp hp with rfl|hp
   ·rw[Qp e]at h1⊢;omega
   ·exact h2 p hp e
  ·have:=hB q Qk;split
   ·rename_i e;have:=this e;omega
   ·exact ha
theorem Hd{f:Int×Int->Int}{ps:List Int}:∀(ws:LO)(k:Nat)(A:Nat->Int),(∀(j:Nat) o,ws[j]?=some o->A (k+j)=Kg f (k+j) o-(match o with|some t=>ps.getD t.toNat 0|none=>0))->((List.range' k ws.length).map A).sum=KO f k ws-pz ps ws
 |[],k,A,_=>by show(0:Int)=0-0;omega
 |o::ws,k,A,h=>by
  rw[QO,List.range'_succ,Qx,Ue,Hd ws (k+1) A λj o' e=>by have:=h (j+1) o' (by simpa using e);rw[show k+1+j=k+(j+1)by omega];exact this];have h0:=h 0 o rfl;rw[Nat.add_zero]at h0;rw[h0];cases o with
  |none=>show Kg f k none-0+(KO f (k+1) ws-pz ps ws)=Kg f k none+KO f (k+1) ws-(0+pz ps ws);omega
  |some t=>show Kg f k (some t)-ps.getD t.toNat 0+(KO f (k+1) ws-pz ps ws)=Kg f k (some t)+KO f (k+1) ws-(ps.getD t.toNat 0+pz ps ws);omega
section
variable{cs:List Int}{f:Int×Int->Int}{qs:LP}{m:Nat}{ws:LO}{S:List Stp}
theorem IsSt.lt(hp:Yp cs.length m qs)(hd:ZW cs qs m ws){s:Stp}(h:IsSt cs f qs ws s):s.a<cs.length+1/\s.b<cs.length+1:=by
 have key:∀{i:Nat}{o:Option Int},(∀t,o=some t->((i:Int),t)∈qs)->plF cs.length o<cs.length+1:=λ{i o} h=>by
  cases o with
  |none=>exact Ua _
  |some t=>have:=hp.lo _ (h t rfl);show t.toNat<_;omega
 cases h with
 |mv h hne hq=>exact⟨key λt e=>hd.wish _ t (by rw[h,e]),key hq⟩
 |left h hl=>have:=(Qg.mp h).1;exact⟨J6 this,Ua _⟩
 |give h=>exact⟨Ua _,J6 h⟩
theorem BW{V:Nat->Int}(still:∀s∈S,V s.a+s.g<=V s.b){q p:Nat}{w:List Stp}(h:Path S q w p):V q+Km w<=V p:=by
 induction h with
 |nil p=>rw[LK];omega
 |@cons s w p hs h ih=>
  have:=still s hs;have e:Km (s::w)=s.g+Km w:=by show Km ([s]++w)=_;rw[Wx,Rl]
  omega
theorem BV(hp:Yp cs.length m qs)(hd:ZW cs qs m ws)(hin:∀s∈S,IsSt cs f qs ws s)(hall:∀s,IsSt cs f qs ws s->s∈S){V:Nat->Int}(hV:∀p,V p=(ent (KP (cs.length+1) S (cs.length+1)) p).1)
  (still:∀p,p<cs.length+1->(ent (KP (cs.length+1) S (cs.length+1)) p).2.length≠cs.length+1) :
  OkP cs.length m (λa b=>f (a,b)) qs 1 ((Ux m).map λi:Nat=>ZG f V qs (i:Int)) ((Ux cs.length).map V)/\SR cs ((Ux m).map λi:Nat=>ZG f V qs (i:Int)) ((Ux cs.length).map V)=KO f 0 ws:=by
 have hS:∀s∈S,s.a<cs.length+1/\s.b<cs.length+1:=λs hs=>(hin s hs).lt hp hd;have st:∀s∈S,V s.a+s.g<=V s.b:=λs hs=>by rw[hV,hV];exact jo hS (Uj _) still s hs
 have v0:∀p,0<=V p:=λp=>by have:=Nj hS (JH (cs.length+1)) p;rw[Rm hS]at this;rw[hV];exact this
 have vn:V cs.length=0:=by
  obtain⟨hw,hg⟩:=Rf hS (cs.length+1) cs.length;obtain⟨q,hq⟩:=hw.path;have h1:=BW st hq;rw[hg,←hV]at h1;have h2:=v0 q;by_cases z:q=cs.length
  ·rw[z]at h1 h2;omega
  ·have hql:q<cs.length:=by
    cases hw2:(ent (KP (cs.length+1) S (cs.length+1)) cs.length).2 with
    |nil=>rw[hw2]at hq;cases hq;exact absurd rfl z
    |cons s w=>rw[hw2]at hq;have:=(hS s hq.step.1).1;rw[←hq.head]at this;omega
   have h3:=st _ (hall _ (.give hql));have h3:V cs.length+0<=V q:=h3;have:=v0 cs.length;omega
 have psD:∀k,k<cs.length->((Ux cs.length).map V).getD k 0=V k:=λk hk=>by rw[Qo,Qe,QU hk];rfl
 have ask:∀(i:Nat) o,ws[i]?=some o->ZG f V qs (i:Int)=Kg f i o-(match o with|some t=>((Ux cs.length).map V).getD t.toNat 0|none=>0):=λi o h=>by
  obtain⟨a1,a2,a3⟩:=PV f V (i:Int) qs 0;cases o with
  |none=>
   have:ZG f V qs (i:Int)<=0:=a3 0 (QZ _) λq hq e=>by have h1:=st _ (hall _ (.mv (f:=f) h (o':=some q.2) (by intro z;cases z) λt et=>by cases et;rw[←e];exact hq));have h1:V cs.length+(f ((i:Int),q.2)-0)<=V q.2.toNat:=h1;rw[←e]at h1;have:f (q.1,q.2)=f q:=rfl;omega
   show ZG f V qs (i:Int)=0-0;have:0<=ZG f V qs (i:Int):=a1;omega
  |some t=>
   have hq:=hd.wish i t h;have hb:=hp.lo _ hq;have hup:=st _ (hall _ (.mv (f:=f) h (o':=none) (by intro z;cases z) λt et=>by cases et));have hup:V t.toNat+(0-f ((i:Int),t))<=V cs.length:=hup;show ZG f V qs (i:Int)=f ((i:Int),t)-((Ux cs.length).map V).getD t.toNat 0;rw[psD t.toNat (by omega)];have lo:f ((i:Int),t)-V t.toNat<=ZG f V qs (i:Int):=a2 _ hq rfl
   have hi:ZG f V qs (i:Int)<=f ((i:Int),t)-V t.toNat:=a3 _ (by omega) λq hq e=>by
    by_cases z:q.2=t
    ·have:q=((i:Int),t):=by rw[←e,←z]
     rw[this];exact QZ _
    ·have h1:=st _ (hall _ (.mv (f:=f) h (o':=some q.2) (by intro y;cases y;exact z rfl) λt et=>by cases et;rw[←e];exact hq));have h1:V t.toNat+(f ((i:Int),q.2)-f ((i:Int),t))<=V q.2.toNat:=h1;have:f (((i:Int)),q.2)=f q:=by rw[←e]
     omega
   omega
 refine⟨⟨by decide,by rw[Qb,Qu],by rw[Qb,Qu],λa ha=>?_,λp hp'=>?_,λq hq=>?_⟩,?_⟩
 ·obtain⟨i,_,rfl⟩:=Qr.mp ha;exact(PV f V (i:Int) qs 0).1
 ·obtain⟨i,_,rfl⟩:=Qr.mp hp';exact v0 i
 ·have hb:=hp.lo q hq;rw[psD q.2.toNat (by omega),Qo,Qe,QU (by omega)];have h2:=(PV f V q.1 qs 0).2.1 q hq rfl;show 1*f q<=ZG f V qs ((q.1.toNat:Nat):Int)+V q.2.toNat;have e:((q.1.toNat:Nat):Int)=q.1:=by omega
  rw[e];have h2:f q-V q.2.toNat<=ZG f V qs q.1:=h2;omega
 ·unfold SR;rw[List.range_eq_range' (n:=m),←hd.len,Hd (f:=f) (ps:=(Ux cs.length).map V) ws 0 (λi:Nat=>ZG f V qs (i:Int)) λj o e=>by rw[QX];exact ask j o e];have hth:∀t,some t∈ws->0<=t/\t<cs.length:=λt ht=>by obtain⟨i,hi⟩:=List.mem_iff_getElem?.mp ht;have:=hp.lo _ (hd.wish i t hi);exact⟨this.2.2.1,this.2.2.2⟩
  rw[Hf ws hth,jp _ _ (by rw[Qb,Qu])]
  have e:Zi cs.length (λk=>cs.getD k 0*((Ux cs.length).map V).getD k 0)=Zi cs.length λk=>((ws.count (some (k:Int)):Nat):Int)*((Ux cs.length).map V).getD k 0:=NF λk hk=>by
   rw[psD k hk];have hc:cs[k]?=some (cs.getD k 0):=by rw[Qo,Qf hk];rfl
   have hle:=hd.cop k _ hc;by_cases z:((ws.count (some (k:Int)):Nat):Int)=cs.getD k 0
   ·rw[z]
   ·have h1:=st _ (hall _ (.left (f:=f) (qs:=qs) hc (by omega)));have h1:V k+0<=V cs.length:=h1;have:=v0 k;have hz:V k=0:=by omega
    rw[hz,Int.mul_zero,Int.mul_zero]
  rw[e];omega
end
noncomputable def Y5:Option Nat->D
 |some i=>.int i
 |none=>.none
noncomputable def Kd(s:Stp):D:=.tuple [.int s.a,.int s.b,.int s.g,Y5 s.w]
noncomputable def ZV(x:Int×List Stp):D:=.tuple [.int x.1,.list (x.2.map Kd)]
noncomputable def U0(V:Int->Int->Int)(q:Int×Int):Int:=V q.1 q.2
noncomputable def Zm(n:Nat)(f:Int×Int->Int)(ws:LO):List Stp:=(Ux ws.length).filterMap λi=>match ws.getD i none with
 |none=>none
 |some t=>some ⟨t.toNat,n, -(Kg f i (some t)),some i⟩
noncomputable def Za(n:Nat)(f:Int×Int->Int)(qs:LP)(ws:LO):List Stp:=qs.filterMap λq=>if ws.getD q.1.toNat none≠some q.2 then some ⟨plF n (ws.getD q.1.toNat none),q.2.toNat,f q-Kg f q.1.toNat (ws.getD q.1.toNat none),some q.1.toNat⟩else none
noncomputable def Z9(cs:List Int)(ws:LO):List Stp:=(Ux cs.length).filterMap λt=>if 0<cs.getD t 0-((ws.count (some (t:Int)):Nat):Int)then some ⟨t,cs.length,0,none⟩else none
noncomputable def Z8(n:Nat):List Stp:=(Ux n).map λt=>⟨n,t,0,none⟩
noncomputable def Yv(cs:List Int)(f:Int×Int->Int)(qs:LP)(ws:LO):List Stp:=Zm cs.length f ws++Za cs.length f qs ws++(Z9 cs ws++Z8 cs.length)
theorem B4{m j:Nat}{h h':Nat->Int}(hj:j<m)(e:∀i,i≠j->h' i=h i):(((Ux m).map h).map int).set j (.int (h' j))=((Ux m).map h').map int:=by
 apply List.ext_getElem?;intro i;by_cases z:j=i
 ·subst z;rw[QD (by rw[Qb,Qb,Qu];exact hj),Qe,Qe,QU hj];rfl
 ·rw[Qq z,Qe,Qe,Qe,Qe];by_cases hi:i<m
  ·rw[QU hi];show some (int (h i))=some (int (h' i));rw[e i λy=>z y.symm]
  ·rw[Jc (by rw[Qu];omega)];rfl
theorem LI{m:Nat}{h:Nat->Int}{j:Nat}(hj:j<m):oIx (.list (((Ux m).map h).map int)) (.int (j:Int))=some (.int (h j)):=KW (by rw[Qe,Qe,QU hj];rfl)
section
variable{cs:List Int}{ls:L3}{ws:LO}{V:Int->Int->Int}{qs:LP}
theorem jH{n:Nat}{o:Option Int}(h:∀t,o=some t->0<=t):Wb [.int n,U5 o]=some (.int (plF n o)):=by
 refine KY (Z:=[some (.pub (.int n)),some (.pub (U5 o))]) rfl ?_;unfold T4;cases o with
 |none=>exact Ku (N5 (Kv (k:=isNon) (x:=PyData.none) (UN rfl)) (UN rfl)) rfl
 |some t=>refine Ku (Oc (Kv (k:=isNon) (x:=int t) (UN rfl)) (UN rfl)) ?_;have:=h t rfl;show Out.rt (.int t)=Out.rt (.int ((t.toNat:Nat):Int));rw[show((t.toNat:Nat):Int)=t by omega]
noncomputable def Yd(V:Int->Int->Int)(ws:LO)(qs:LP)(i:Nat):Int:=match ws.getD i none with
 |none=>0
 |some t=>if((i:Int),t)∈qs then V i t else 0
theorem Oj{k:Int}(h0:0<=k)(h1:k<ws.length):oIx (Ke ws) (.int k)=some (U5 (ws.getD k.toNat none)):=by
 obtain⟨j,rfl⟩:∃j:Nat,k=j:=⟨k.toNat,by omega⟩
 refine KW ?_;rw[Qe,Qt,Qo,Qf (by omega)];rfl
theorem LH{i:Nat}{o:Option Int}(h:ws[i]?=some o):ws.getD i none=o:=by rw[Qo,h];rfl
theorem B3(hp:Yp cs.length ws.length qs)(hd:ZW cs qs ws.length ws)(hm:ws.length<=1000)(hq1:qs.length<=1000):Vd [.int (cs.length:Nat),.list (qs.map (Zt V)),Ke ws]=some (.list ((Zm cs.length (U0 V) ws++Za cs.length (U0 V) qs ws).map Kd)):=by
 refine KY (Z:=[some (.pub (.int (cs.length:Nat))),some (.pub (.list (qs.map (Zt V)))),some (.pub (Ke ws)),none,none,none,none,none]) rfl ?_;unfold T3;have hlen:Ka [Ke ws]=some (.int ws.length):=by show Ka [.list (ws.map U5)]=_;rw[K6,Qb]
 have pos:∀i t,ws.getD i none=some t->i<ws.length/\((i:Int),t)∈qs:=λi t e=>by
  by_cases hi:i<ws.length
  ·rw[Qo,Qf hi]at e;exact⟨hi,hd.wish i t (by rw[Qf hi];exact congrArg some e)⟩
  ·rw[Qo,Jc (by omega)]at e;cases e
 refine Kj (Z6 (MG (n:=ws.length) (ZE (UR UT UV) (Qa rfl)) (Zh rfl hlen) hm) (Qa rfl) rfl) ?_;apply Kq;apply Zw (λk Z=>∃x4 x5 x6,Z=[some (.pub (.int (cs.length:Nat))),some (.pub (.list (qs.map (Zt V)))),some (.pub (Ke ws)),some (.own (((Ux ws.length).map (Yd V ws (qs.take k))).map int)),x4,x5,x6,none])
 case h1=>exact Zp (UN rfl) ZX
 case h0=>
  refine⟨none,none,none,?_⟩
  have e:((Ux ws.length).map (Yd V ws (qs.take 0))).map int=Uy ws.length (.int 0):=by
   rw[List.eq_replicate_iff];refine⟨by rw[Qb,Qb,Qu],λb hb=>?_⟩;obtain⟨x,hx,rfl⟩:=Qr.mp hb;obtain⟨i,_,rfl⟩:=Qr.mp hx;unfold Yd;split
   ·rfl
   ·rw[if_neg (by rw[List.take_zero];simp)]
  rw[e];rfl
 case hst=>
  rintro k d Z hk ⟨x4,x5,x6,rfl⟩;rw[Qe]at hk;cases hq:qs[k]? with
  |none=>rw[hq]at hk;cases hk
  |some q=>
  rw[hq]at hk;cases hk;have hb:=hp.lo q (Qn hq);refine⟨_,KB rfl (U4 (UW (Qa rfl) rfl) (U4 (UW (Qa rfl) rfl) (U4 (UW (Qa rfl) rfl) KD))),?_⟩;unfold M1;have hta:qs.take (k+1)=qs.take k++[q]:=by rw[JJ,hq];rfl
  apply Ks
  case h1=>exact U2 (Kh rfl (UN rfl) (Oj hb.1 hb.2.1)) (UN rfl) (RN (b:=some q.2))
  case h2=>
   intro hh;have hh:ws.getD q.1.toNat none=some q.2:=Qa hh;refine Zv (VI (UN rfl) rfl (UN rfl) rfl ⟨hb.1,by rw[Qb,Qb,Qu];exact hb.2.1⟩ rfl) (K4 ⟨some (.pub (.int q.1)),some (.pub (.int q.2)),some (.pub (.int (V q.1 q.2))),?_⟩)
   have e:=B4 (m:=ws.length) (j:=q.1.toNat) (h:=Yd V ws (qs.take k)) (h':=Yd V ws (qs.take (k+1))) (by omega) λi hne=>by
    unfold Yd;cases ws.getD i none with
    |none=>rfl
    |some t=>
     dsimp only;rw[hta];by_cases z:((i:Int),t)∈qs.take k
     ·rw[Qp z,Qp (Q9 _ z)]
     ·rw[Qz z,Qz];intro y;rcases QR.mp y with y|y
      ·exact z y
      ·have:=QW.mp y;rw[←this]at hne;exact hne (by show i=((i:Int)).toNat;rw[Qt])
   have ev:Yd V ws (qs.take (k+1)) q.1.toNat=V q.1 q.2:=by
    unfold Yd;rw[hh];have ei:((q.1.toNat:Nat):Int)=q.1:=by omega
    dsimp only;rw[ei,if_pos (by rw[hta];exact List.mem_append_right _ (by simp))]
   rw[ev]at e;rw[←e];rfl
  case h3=>
   intro hh;have hh:¬ws.getD q.1.toNat none=some q.2:=Jb hh;refine Kx (K4 ⟨some (.pub (.int q.1)),some (.pub (.int q.2)),some (.pub (.int (V q.1 q.2))),?_⟩)
   have e:(Ux ws.length).map (Yd V ws (qs.take (k+1)))=(Ux ws.length).map (Yd V ws (qs.take k)):=List.map_congr_left λi _=>by
    unfold Yd;cases hw:ws.getD i none with
    |none=>rfl
    |some t=>
     dsimp only;rw[hta];by_cases z:((i:Int),t)∈qs.take k
     ·rw[Qp z,Qp (Q9 _ z)]
     ·rw[Qz z,Qz];intro y;rcases QR.mp y with y|y
      ·exact z y
      ·have y:=QW.mp y;rw[←y]at hh;exact hh (by show ws.getD ((i:Int)).toNat none=some t;rw[Qt];exact hw)
   rw[e];rfl
 case hend=>
  rintro Z ⟨x4,x5,x6,rfl⟩;refine Kl ?_;have hth:qs.take (qs.map (Zt V)).length=qs:=by rw[Qb,Jz]
  rw[hth]
  have hadE:∀i,Yd V ws qs i=Kg (U0 V) i (ws.getD i none):=λi=>by
   unfold Yd;cases hw:ws.getD i none with
   |none=>rfl
   |some t=>exact Qp (pos i t hw).2
  have hc:∀y4 y5 y6 y7:Option Sl,K2 (gT 2 (gNC (gN 8) (gNC (gN 9) (gN0)))) (UZ (λd=>!isNon d) (UI 9)) (KE (UO (UI 9) (UO (UI 0) (UO (Yb (UU 3 (UI 8))) (UO (UI 8) (UM)))))) (Ye 0 (ws.map U5)) ([some (.pub (.int (cs.length:Nat))),some (.pub (.list (qs.map (Zt V)))),some (.pub (Ke ws)),some (.pub (.list (((Ux ws.length).map (Yd V ws qs)).map int))),y4,y5,y6,y7]++Uy 2 none) []=some ((Zm cs.length (U0 V) ws).map Kd):=by
   intro y4 y5 y6 y7
   have em:(Zm cs.length (U0 V) ws).map Kd=((Ux ws.length).map λi=>(match ws.getD i none with|none=>none|some t=>some (Kd ⟨t.toNat,cs.length, -(Kg (U0 V) i (some t)),some i⟩):Option D)).filterMap id:=by
    unfold Zm;rw[List.map_filterMap,List.filterMap_map]
    congr 1
    funext i;dsimp only[Function.comp,id];cases ws.getD i none<;>rfl
   rw[em];refine PN (λZ=>∃z4 z5 z6 z7 x y,Z=[some (.pub (.int (cs.length:Nat))),some (.pub (.list (qs.map (Zt V)))),some (.pub (Ke ws)),some (.pub (.list (((Ux ws.length).map (Yd V ws qs)).map int))),z4,z5,z6,z7,x,y]) _ _ _ _ (by rw[Qb,Qu,Yr,Qb]) ?_ ⟨y4,y5,y6,y7,none,none,rfl⟩ (by rw[Yr,Qb,QB];omega);rintro i d e hdd he Z ⟨z4,z5,z6,z7,x,y,rfl⟩;obtain⟨z,hz,rfl⟩:=YV hdd;rw[Qe]at hz;cases hw:ws[i]? with
   |none=>rw[hw]at hz;cases hz
   |some o=>
   rw[hw]at hz;cases hz;have hil:i<ws.length:=(Qg.mp hw).1;have hg:=LH hw;rw[Qe,QU hil]at he;have he:some (match ws.getD i none with|none=>none|some t=>some (Kd ⟨t.toNat,cs.length, -(Kg (U0 V) i (some t)),some i⟩):Option D)=some e:=he;rw[hg]at he;cases he;rw[QX];refine⟨_,KB rfl (U4 (UW (Qa rfl) rfl) (U4 (UW (Qa rfl) rfl) KD)),?_,?_,_,_,_,_,_,_,rfl⟩
   ·cases o with
    |none=>exact Kv (k:=λd=>!isNon d) (x:=PyData.none) (UN rfl)
    |some t=>exact Kv (k:=λd=>!isNon d) (x:=int t) (UN rfl)
   ·intro v hv;cases o with
    |none=>cases hv
    |some t=>
     cases hv;have hb:=hp.lo _ (pos i t hg).2;have et:((t.toNat:Nat):Int)=t:=by have:=hb.2.2.1;omega
     show _=Res.ok (PyData.tuple [.int ((t.toNat:Nat):Int),.int ((cs.length:Nat):Int),.int (-(Kg (U0 V) i (some t))),.int (i:Nat)]) _;rw[et,show Kg (U0 V) i (some t)=Yd V ws qs i by rw[hadE,hg]];exact Yz (UR (UN rfl) (UR (UN rfl) (UR (SV (Kh rfl (UN rfl) (LI hil))) (UR (UN rfl) UV)))) (Qa rfl)
  have nlS:∀S:List Stp,(S.map Kd).all nl0=true:=λS=>Q3.mpr λd hd=>by obtain⟨s,_,rfl⟩:=Qr.mp hd;obtain⟨a,b,g,w⟩:=s;cases w<;>rfl
  have hcl:∀x4 x5 x6:Option Sl,Wf (Zx (YL (UO (UI 2) (UM))) 2 (gT 2 (gNC (gN 8) (gNC (gN 9) (gN0)))) (UZ (λd=>!isNon d) (UI 9)) (KE (UO (UI 9) (UO (UI 0) (UO (Yb (UU 3 (UI 8))) (UO (UI 8) (UM))))))) [some (.pub (.int (cs.length:Nat))),some (.pub (.list (qs.map (Zt V)))),some (.pub (Ke ws)),some (.own (((Ux ws.length).map (Yd V ws qs)).map int)),x4,x5,x6,none]=.ok ((Zm cs.length (U0 V) ws).map Kd) [some (.pub (.int (cs.length:Nat))),some (.pub (.list (qs.map (Zt V)))),some (.pub (Ke ws)),some (.own (((Ux ws.length).map (Yd V ws qs)).map int)),x4,x5,x6,none]:=λx4 x5 x6=>
   BI (Z':=ZH [some (.pub (.int (cs.length:Nat))),some (.pub (.list (qs.map (Zt V)))),some (.pub (Ke ws)),some (.own (((Ux ws.length).map (Yd V ws qs)).map int)),x4,x5,x6,none]) (Z7 (Xe (UR (UN rfl) UV) Xn) (hc _ _ _ _)) (nlS _)
  refine Kj (Z6 (hcl _ _ _) (Qa rfl) rfl) ?_;apply Kq;apply Zw (λk Z=>∃x4 x5 x6,Z=[some (.pub (.int (cs.length:Nat))),some (.pub (.list (qs.map (Zt V)))),some (.pub (Ke ws)),some (.own (((Ux ws.length).map (Yd V ws qs)).map int)),x4,x5,x6,some (.own ((Zm cs.length (U0 V) ws++Za cs.length (U0 V) (qs.take k) ws).map Kd))])
  case h1=>exact Zp (UN rfl) ZX
  case h0=>exact⟨_,_,_,by rw[J7];show _=[_,_,_,_,_,_,_,some (Sl.own ((Zm cs.length (U0 V) ws++[]).map Kd))];rw[Q7];rfl⟩
  case hst=>
   rintro k d Z hk ⟨x4,x5,x6,rfl⟩;rw[Qe]at hk;cases hq:qs[k]? with
   |none=>rw[hq]at hk;cases hk
   |some q=>
   rw[hq]at hk;cases hk;have hb:=hp.lo q (Qn hq);have hta:qs.take (k+1)=qs.take k++[q]:=by rw[JJ,hq];rfl
   have hkl:k<qs.length:=(Qg.mp hq).1
   have hsz:((Zm cs.length (U0 V) ws++Za cs.length (U0 V) (qs.take k) ws).map Kd).length<1000000:=by
    rw[Qb,Ql];have h1:(Zm cs.length (U0 V) ws).length<=ws.length:=by unfold Zm;have:=Jf (λi=>match ws.getD i none with|none=>none|some t=>some (⟨t.toNat,cs.length, -(Kg (U0 V) i (some t)),some i⟩:Stp)) (Ux ws.length);rw[Qu]at this;exact this
    have h2:(Za cs.length (U0 V) (qs.take k) ws).length<=qs.length:=by unfold Za;refine QM (Jf _ _) ?_;rw[QN];omega
    omega
   refine⟨_,KB rfl (U4 (UW (Qa rfl) rfl) (U4 (UW (Qa rfl) rfl) (U4 (UW (Qa rfl) rfl) KD))),?_⟩;unfold M2;have e2:∀r:List Stp,Za cs.length (U0 V) [q] ws=r->Za cs.length (U0 V) (qs.take (k+1)) ws=Za cs.length (U0 V) (qs.take k) ws++r:=λr hr=>by rw[hta];unfold Za at hr⊢;rw[List.filterMap_append,hr]
   apply Ks
   case h1=>exact U2 (Kh rfl (UN rfl) (Oj hb.1 hb.2.1)) (UN rfl) (NY (b:=some q.2))
   case h2=>
    intro hh;have hh:¬ws.getD q.1.toNat none=some q.2:=by simpa using hh
    have hpl:Wb [.int (cs.length:Nat),U5 (ws.getD q.1.toNat none)]=some (.int (plF cs.length (ws.getD q.1.toNat none))):=jH λt e=>by have:=hp.lo _ (pos _ t e).2;exact this.2.2.1
    refine Zv (XS rfl (Yz (UR (Ki (UR (UN rfl) (UR (Kh rfl (UN rfl) (Oj hb.1 hb.2.1)) UV)) rfl hpl) (UR (UN rfl) (UR (U2 (UN rfl) (Wq rfl (UN rfl) rfl (show oIx _ (.int q.1)=some (.int (Yd V ws qs q.1.toNat))from by have:=LI (m:=ws.length) (h:=Yd V ws qs) (j:=q.1.toNat) (by omega);rw[show((q.1.toNat:Nat):Int)=q.1 by omega]at this;exact this)) Yy) (UR (UN rfl) UV)))) (Qa rfl)) rfl hsz rfl) (K4 ⟨some (.pub (.int q.1)),some (.pub (.int q.2)),some (.pub (.int (V q.1 q.2))),?_⟩);have er:Za cs.length (U0 V) [q] ws=[⟨plF cs.length (ws.getD q.1.toNat none),q.2.toNat,U0 V q-Kg (U0 V) q.1.toNat (ws.getD q.1.toNat none),some q.1.toNat⟩]:=by unfold Za;rw[Jn,Qp hh];rfl
    rw[e2 _ er,←Ja,QC (l₂:=[_])];show _=[_,_,_,_,_,_,_,some (Sl.own (_++[PyData.tuple [_,.int ((q.2.toNat:Nat):Int),.int (U0 V q-Kg (U0 V) q.1.toNat (ws.getD q.1.toNat none)),.int ((q.1.toNat:Nat):Int)]]))];rw[show((q.2.toNat:Nat):Int)=q.2 by omega,show((q.1.toNat:Nat):Int)=q.1 by omega,←hadE];rfl
   case h3=>
    intro hh;have hh:ws.getD q.1.toNat none=some q.2:=by simpa using hh
    refine Kx (K4 ⟨some (.pub (.int q.1)),some (.pub (.int q.2)),some (.pub (.int (V q.1 q.2))),?_⟩);have er:Za cs.length (U0 V) [q] ws=[]:=by unfold Za;rw[List.filterMap_cons,if_neg (by rw[hh];simp)];rfl
    rw[e2 _ er,Q7];rfl
  case hend=>rintro Z ⟨x4,x5,x6,rfl⟩;rw[hth];exact Kl (Ku (Yj rfl rfl) rfl)
end
section
variable{cs:List Int}{ls:L3}{ws:LO}{V:Int->Int->Int}{qs:LP}
theorem B2(g:Good cs ls)(hm:ws.length=ls.length):Vc [U7 cs ls,Ke ws]=some (.list ((Z9 cs ws++Z8 cs.length).map Kd)):=by
 refine KY (Z:=[some (.pub (U7 cs ls)),some (.pub (Ke ws)),none,none,none]) rfl ?_;unfold T2;have c6:=g.c6;have hlc:Ka [.list (cs.map int)]=some (.int cs.length):=by rw[K6,Qb]
 refine Kj (KI (Zc (UR (Kh rfl UT Xh) UV) hlc) (Qa rfl) rfl) ?_;refine Kj (KI (Ki (UR (UN rfl) (UR (UN rfl) UV)) rfl (kY g)) (Qa rfl) rfl) ?_;have hll:(Yq cs ws).length=cs.length:=by unfold Yq;rw[Qb,Qu]
 have hc:K2 (gT 2 (gNC (gN 5) (gNC (gN 6) (gN0)))) (K5 (oIB λi j=>decide (j<i)) 6 (UQ (.int 0))) (KE (UO (UI 5) (UO (UI 2) (UO (UQ (.int 0)) (UO (UQ .none) (UM)))))) (Ye 0 ((Yq cs ws).map int)) (Kn [some (.pub (U7 cs ls)),some (.pub (Ke ws)),some (.pub (.int cs.length)),some (.pub (.list ((Yq cs ws).map int))),none]++Uy 2 none) []=some ((Z9 cs ws).map Kd):=by
  have em:(Z9 cs ws).map Kd=((Ux cs.length).map λt=>(if 0<cs.getD t 0-((ws.count (some (t:Int)):Nat):Int)then some (Kd ⟨t,cs.length,0,none⟩)else none:Option D)).filterMap id:=by
   unfold Z9;rw[List.map_filterMap,List.filterMap_map]
   congr 1
   funext i;dsimp only[Function.comp,id]
   split<;>rfl
  rw[em];refine PN (λZ=>∃x y,Z=[some (.pub (U7 cs ls)),some (.pub (Ke ws)),some (.pub (.int cs.length)),some (.pub (.list ((Yq cs ws).map int))),none,x,y]) _ _ _ _ (by rw[Qb,Qu,Yr,Qb,hll]) ?_ ⟨none,none,rfl⟩ (by rw[Yr,Qb,hll,QB];omega);rintro i d e hd he Z ⟨x,y,rfl⟩;obtain⟨z,hz,rfl⟩:=YV hd;rw[Qe]at hz
  have hil:i<cs.length:=by
   rw[←hll];cases hw:(Yq cs ws)[i]? with
   |none=>rw[hw]at hz;cases hz
   |some v=>exact(Qg.mp hw).1
  have hlv:(Yq cs ws)[i]?=some (cs.getD i 0-((ws.count (some (i:Int)):Nat):Int)):=by unfold Yq;rw[Qe,QU hil];rfl
  rw[hlv]at hz;cases hz;rw[Qe,QU hil]at he;cases he;rw[QX];refine⟨_,KB rfl (U4 (UW (Qa rfl) rfl) (U4 (UW (Qa rfl) rfl) KD)),?_,?_,_,_,rfl⟩
  ·have e:(if 0<cs.getD i 0-((ws.count (some (i:Int)):Nat):Int)then some (Kd ⟨i,cs.length,0,none⟩)else none:Option D).isSome=decide (0<cs.getD i 0-((ws.count (some (i:Int)):Nat):Int)):=by
    by_cases h:0<cs.getD i 0-((ws.count (some (i:Int)):Nat):Int)
    ·rw[Qp h,Q5 h];rfl
    ·rw[Qz h,QI h];rfl
   rw[e];exact Zu rfl UT rfl
  ·intro v hv;dsimp only at hv;split at hv
   ·cases hv;exact Yz (UR (UN rfl) (UR (UN rfl) (UR UT (UR UT UV)))) (Qa rfl)
   ·cases hv
 refine Kj (Z6 (Z7 (Xe (UR (UN rfl) UV) Xn) hc) (Qa rfl) rfl) ?_;have hrl:(ZU 0 (cs.length:Int)).length=cs.length:=by rw[Xf];omega
 have hc2:∀x4:Option Sl,K2 (gN 5) (UQ true) (KE (UO (UI 2) (UO (UI 5) (UO (UQ (.int 0)) (UO (UQ .none) (UM)))))) (ZU 0 (cs.length:Int)) (Kn [some (.pub (U7 cs ls)),some (.pub (Ke ws)),some (.pub (.int cs.length)),some (.pub (.list ((Yq cs ws).map int))),x4]++Uy 1 none) []=some ((Z8 cs.length).map Kd):=λx4=>by refine YX (λZ=>∃z x,Z=[some (.pub (U7 cs ls)),some (.pub (Ke ws)),some (.pub (.int cs.length)),some (.pub (.list ((Yq cs ws).map int))),z,x]) _ _ _ _ (by unfold Z8;rw[Qb,Qb,Qu,hrl]) ?_ ⟨_,none,rfl⟩ (by rw[hrl,QB];omega);rintro i d e hd he Z ⟨z,x,rfl⟩;obtain⟨rfl,hlt⟩:=Wk hd;unfold Z8 at he;rw[Qe,Qe,QU (by omega)]at he;cases he;rw[JV];exact⟨_,UW (Qa rfl) rfl,rfl,Yz (UR (UN rfl) (UR (UN rfl) (UR UT (UR UT UV)))) (Qa rfl),_,_,rfl⟩
 have h1:(Z9 cs ws).length<=cs.length:=by unfold Z9;have:=Jf (λt=>if 0<cs.getD t 0-((ws.count (some (t:Int)):Nat):Int)then some (⟨t,cs.length,0,none⟩:Stp)else none) (Ux cs.length);rw[Qu]at this;exact this
 have h2:(Z8 cs.length).length=cs.length:=by unfold Z8;rw[Qb,Qu]
 refine Ku (U2 (Yj rfl rfl) (Kv (Z7 (XZ (UR (UN rfl) UV) (XV (by omega) (by omega))) (hc2 _))) (Xo (by rw[Qb,Qb];omega))) ?_;rw[QC]
theorem Gn(g:Good cs ls)(hm:ws.length=ls.length)(hp:Yp cs.length ws.length qs)(hd:ZW cs qs ws.length ws)(hq1:qs.length<=1000):Y9 [U7 cs ls,.list (qs.map (Zt V)),Ke ws]=some (.list ((Yv cs (U0 V) qs ws).map Kd)):=by
 refine KY (Z:=[some (.pub (U7 cs ls)),some (.pub (.list (qs.map (Zt V)))),some (.pub (Ke ws))]) rfl ?_;unfold TZ;have c6:=g.c6;have l7:=g.l7;have hlc:Ka [.list (cs.map int)]=some (.int (cs.length:Nat)):=by rw[K6,Qb]
 have h1:(Zm cs.length (U0 V) ws).length<=ws.length:=by unfold Zm;have:=Jf (λi=>match ws.getD i none with|none=>none|some t=>some (⟨t.toNat,cs.length, -(Kg (U0 V) i (some t)),some i⟩:Stp)) (Ux ws.length);rw[Qu]at this;exact this
 have h2:(Za cs.length (U0 V) qs ws).length<=qs.length:=by unfold Za;exact Jf _ _
 have h3:(Z9 cs ws).length<=cs.length:=by unfold Z9;have:=Jf (λt=>if 0<cs.getD t 0-((ws.count (some (t:Int)):Nat):Int)then some (⟨t,cs.length,0,none⟩:Stp)else none) (Ux cs.length);rw[Qu]at this;exact this
 have h4:(Z8 cs.length).length=cs.length:=by unfold Z8;rw[Qb,Qu]
 refine Ku (U2 (Ki (UR (Zc (UR (Kh rfl UT Xh) UV) hlc) (UR (UN rfl) (UR (UN rfl) UV))) rfl (B3 hp hd (by omega) hq1)) (Ki (UR (UN rfl) (UR (UN rfl) UV)) rfl (B2 g hm)) (Xo (by rw[Qb,Qb,Ql,Ql];omega))) ?_;unfold Yv;rw[QC (l₁:=Zm cs.length (U0 V) ws++Za cs.length (U0 V) qs ws)]
theorem V5{m:Nat}{f:Int×Int->Int}(hp:Yp cs.length m qs)(hd:ZW cs qs m ws):∀s∈Yv cs f qs ws,IsSt cs f qs ws s:=λs hs=>by
 have gt:∀{i:Nat}{o:Option Int},i<ws.length->ws.getD i none=o->ws[i]?=some o:=λ{i o} hi e=>by rw[Qo,Qf hi]at e;rw[Qf hi];exact congrArg some e
 unfold Yv at hs;rcases QR.mp hs with hs|hs
 ·rcases QR.mp hs with hs|hs
  ·unfold Zm at hs;obtain⟨i,hi,e⟩:=Jj.mp hs;have hi:=Q8.mp hi;cases hw:ws.getD i none with
   |none=>rw[hw]at e;cases e
   |some t=>
    rw[hw]at e;have e:=QT e;subst e;have:=IsSt.mv (cs:=cs) (f:=f) (qs:=qs) (gt hi hw) (o':=none) (by intro z;cases z) (λt e=>by cases e);have e2:Kg f i none-Kg f i (some t) = -(Kg f i (some t)):=by show 0-_=_;omega
    rw[e2]at this;exact this
  ·unfold Za at hs;obtain⟨q,hq,e⟩:=Jj.mp hs;have hb:=hp.lo q hq;split at e
   ·rename_i hne;have e:=QT e;subst e;have hi:q.1.toNat<ws.length:=by rw[hd.len];omega
    have ei:((q.1.toNat:Nat):Int)=q.1:=by omega
    have:=IsSt.mv (cs:=cs) (f:=f) (qs:=qs) (gt hi rfl) (o':=some q.2) (λz=>hne z.symm) (λt e=>by cases e;rw[ei];exact hq);have e2:Kg f q.1.toNat (some q.2)=f q:=by show f (((q.1.toNat:Nat):Int),q.2)=_;rw[ei]
    rw[e2]at this;exact this
   ·cases e
 ·rcases QR.mp hs with hs|hs
  ·unfold Z9 at hs;obtain⟨t,ht,e⟩:=Jj.mp hs;have ht:=Q8.mp ht;split at e
   ·rename_i hl;have e:=QT e;subst e;exact .left (c:=cs.getD t 0) (by rw[Qo,Qf ht];rfl) (by omega)
   ·cases e
  ·unfold Z8 at hs;obtain⟨t,ht,rfl⟩:=Qr.mp hs;exact .give (Q8.mp ht)
theorem B0{m:Nat}{f:Int×Int->Int}(hp:Yp cs.length m qs)(hd:ZW cs qs m ws):∀s,IsSt cs f qs ws s->s∈Yv cs f qs ws:=λs hs=>by
 unfold Yv;cases hs with
 |@mv i o o' h hne hq=>
  have hi:i<ws.length:=(Qg.mp h).1;have hg:=LH h;refine Q9 _ ?_;cases o' with
  |none=>
   refine Q9 _ ?_;cases o with
   |none=>exact absurd rfl hne
   |some t=>unfold Zm;refine Jj.mpr ⟨i,Q8.mpr hi,?_⟩;rw[hg];show some (⟨t.toNat,cs.length, -(Kg f i (some t)),some i⟩:Stp)=some ⟨t.toNat,cs.length,0-Kg f i (some t),some i⟩;rw[show(0:Int)-Kg f i (some t) = -(Kg f i (some t))by omega]
  |some t=>refine QJ _ ?_;have hqt:=hq t rfl;have hb:=hp.lo _ hqt;unfold Za;refine Jj.mpr ⟨((i:Int),t),hqt,?_⟩;dsimp only;rw[Qt,hg,Qp (λz=>hne z.symm)];rfl
 |@left t c h hl=>
  refine QJ _ (Q9 _ ?_);have ht:t<cs.length:=(Qg.mp h).1;unfold Z9;refine Jj.mpr ⟨t,Q8.mpr ht,?_⟩;have e:cs.getD t 0=c:=by rw[Qo,h];rfl
  rw[e,Qp (by omega)]
 |@give t h=>refine QJ _ (QJ _ ?_);unfold Z8;exact Qr.mpr ⟨t,Q8.mpr h,rfl⟩
end
theorem Mx{W:Tab}{p:Nat}(h:p<W.length):oIx (.list (W.map ZV)) (.int (p:Int))=some (ZV (ent W p)):=by refine KW ?_;unfold ent;rw[Qe,Qo,Qf h];rfl
theorem BZ{W:Tab}{S:List Stp}(hS:∀s∈S,s.a<W.length/\s.b<W.length)(hW:∀p,(ent W p).2.length<=1000)(hl:W.length<=1000):Vb [.list (W.map ZV),.list (S.map Kd)]=some (.list ((Pl W S).map ZV)):=by
 refine KY (Z:=[some (.pub (.list (W.map ZV))),some (.pub (.list (S.map Kd))),none,none,none,none,none,none,none,none]) rfl ?_;unfold TY;refine Kj (Z6 (Rj rfl (show YK [.list (W.map ZV)]=some (W.map ZV)from rfl)) (Qa rfl) rfl) ?_;apply Kq;apply Zw (λk Z=>∃x3 x4 x5 x6 x7 x8 x9,Z=[some (.pub (.list (W.map ZV))),some (.pub (.list (S.map Kd))),some (.own (((S.take k).foldl (Yw W) W).map ZV)),x3,x4,x5,x6,x7,x8,x9])
 case h1=>exact Zp (UN rfl) ZX
 case h0=>exact⟨_,_,_,_,_,_,_,rfl⟩
 case hst=>
  rintro k d Z hk ⟨x3,x4,x5,x6,x7,x8,x9,rfl⟩;rw[Qe]at hk;cases hq:S[k]? with
  |none=>rw[hq]at hk;cases hk
  |some s=>
  rw[hq]at hk;cases hk;have hs:=hS s (Qn hq);have hta:S.take (k+1)=S.take k++[s]:=by rw[JJ,hq];rfl
  have hfl:(S.take (k+1)).foldl (Yw W) W=Yw W ((S.take k).foldl (Yw W) W) s:=by rw[hta,List.foldl_append];rfl
  have hTl:∀(R:List Stp)(T:Tab),(R.foldl (Yw W) T).length=T.length:=λR=>by
   induction R with
   |nil=>intro T;rfl
   |cons x R ih=>intro T;rw[JO,ih,B6]
  generalize hT:(S.take k).foldl (Yw W) W=T at hfl⊢;have hTlen:T.length=W.length:=by rw[←hT,hTl]
  refine⟨_,UW (Qa rfl) rfl,?_⟩;unfold MY;refine Kj (VD (UN rfl) (KB rfl (U4 (UW (Qa rfl) rfl) (U4 (UW (Qa rfl) rfl) (U4 (UW (Qa rfl) rfl) (U4 (UW (Qa rfl) rfl) KD)))))) ?_;refine Kj (VD (Kh rfl (UN rfl) (Mx hs.1)) (KB rfl (U4 (UW (Qa rfl) rfl) (U4 (UW (Qa rfl) rfl) KD)))) ?_;have i0:oIx (ZV (ent T s.b)) (.int 0)=some (.int (ent T s.b).1):=KW (j:=0) rfl;apply Ks
  case h1=>exact U2 (U2 (UN rfl) (UN rfl) KZ) (U2 (Wq rfl (UN rfl) rfl (Mx (by rw[hTlen];exact hs.2))) UT i0) rfl
  case h2=>
   intro hh;have hh:(ent T s.b).1<(ent W s.a).1+s.g:=Qa hh;have hadd:U3 (.list ((ent W s.a).2.map Kd)) (.list [Kd s])=some (.list (((ent W s.a).2++[s]).map Kd)):=by rw[Xo (by rw[Qb];have:=hW s.a;show _+1<=_;omega),QC];rfl
   refine Zv (VI (Yz (UR (U2 (UN rfl) (UN rfl) KZ) (UR (U2 (UN rfl) (ZE (UR (UN rfl) UV) (Qa rfl)) hadd) UV)) (Qa rfl)) rfl (UN rfl) rfl ⟨Int.natCast_nonneg _,by rw[Qb,hTlen];have:=hs.2;omega⟩ rfl) (K4 ⟨some (.pub (Kd s)),some (.pub (.int s.a)),some (.pub (.int s.b)),some (.pub (.int s.g)),some (.pub (Y5 s.w)),some (.pub (.int (ent W s.a).1)),some (.pub (.list ((ent W s.a).2.map Kd))),?_⟩);rw[hfl];unfold Yw;rw[Qp hh,List.map_set];show [_,_,some (Sl.own ((T.map ZV).set ((s.b:Int)).toNat _)),_,_,_,_,_,_,_]=_;rw[Qt];rfl
  case h3=>intro hh;have hh:¬(ent T s.b).1<(ent W s.a).1+s.g:=Jb hh;refine Kx (K4 ⟨some (.pub (Kd s)),some (.pub (.int s.a)),some (.pub (.int s.b)),some (.pub (.int s.g)),some (.pub (Y5 s.w)),some (.pub (.int (ent W s.a).1)),some (.pub (.list ((ent W s.a).2.map Kd))),?_⟩);rw[hfl];unfold Yw;rw[Qz hh];rfl
 case hend=>rintro Z ⟨x3,x4,x5,x6,x7,x8,x9,rfl⟩;refine Kl (Ku (Yj rfl rfl) ?_);rw[Qb,Jz];rfl
theorem Hc{n:Nat}{S:List Stp}(hS:∀s∈S,s.a<n/\s.b<n)(hn:n<=100):Xz [.int (n:Nat),.list (S.map Kd)]=some (.list ((KP n S n).map ZV)):=by
 refine KY (Z:=[some (.pub (.int (n:Nat))),some (.pub (.list (S.map Kd))),none,none]) rfl ?_;unfold TX;have hmul:Ko (.list [.tuple [.int 0,.list []]]) (.int (n:Nat))=some (.list ((KP n S 0).map ZV)):=by rw[D0 (by omega)];unfold KP;rw[List.map_replicate];rfl
 refine Kj (KI (U2 (ZE (UR (Yz (UR UT (UR (ZE UV (Qa rfl)) UV)) (Qa rfl)) UV) (Qa rfl)) (UN rfl) hmul) (Qa rfl) rfl) ?_;apply Kq;apply Zw (λk Z=>k<=n/\∃x3,Z=[some (.pub (.int (n:Nat))),some (.pub (.list (S.map Kd))),some (.pub (.list ((KP n S k).map ZV))),x3])
 case h1=>exact XZ (UR (UN rfl) UV) (XV (by omega) (by omega))
 case h0=>exact⟨JH _,_,rfl⟩
 case hst=>rintro k d Z hk ⟨_,x3,rfl⟩;obtain⟨rfl,hlt⟩:=Wk hk;refine⟨_,UW (Qa rfl) rfl,?_⟩;unfold MX;have hl:=Rp hS k;have hlo:=BZ (W:=KP n S k) (S:=S) (by rw[hl];exact hS) (λp=>QM ((RW hS k).1 p) (by omega)) (by rw[hl];omega);exact Zv (KI (Ki (UR (UN rfl) (UR (UN rfl) UV)) rfl hlo) (Qa rfl) rfl) (K4 ⟨by omega,_,rfl⟩)
 case hend=>rintro Z ⟨_,x3,rfl⟩;refine Kl (Ku (UN rfl) ?_);rw[Xf,show((n:Int)-0).toNat=n by omega]
theorem Ei{xs:List D}{i j:Nat}(hij:i<=j)(hj:j<=xs.length):DL.cutD xs (some (i:Int)) (some (j:Int))=(xs.take j).drop i:=by unfold DL.cutD HT.sIx;dsimp only;rw[Qz (by omega),Qz (by omega),Qt,Qt,Ug hj,Ug (show i<=xs.length by omega),List.drop_take]
theorem kT{w:List Stp}(hl:w.length<=1000):∃d,Va [.list (w.map Kd)]=some d/\∃r,d=.list (r.map Kd)/\((My w/\r=[]) ∨ ∃i j,Ol w i j/\r=(w.take (j+1)).drop i):=by
 refine XR (Z:=[some (.pub (.list (w.map Kd))),none,none,none]) rfl ?_;unfold TW;apply Kq;apply Zw (λk Z=>(∃x1 x2 x3,Z=[some (.pub (.list (w.map Kd))),x1,x2,x3])/\∀j'<k,∀i' ≤ j',∀s t,w[i']?=some s->w[j']?=some t->s.a≠t.b)
 case h1=>exact Xe (UR (UN rfl) UV) Xn
 case h0=>exact⟨⟨_,_,_,rfl⟩,λj' h=>absurd h (JR _)⟩
 case hst=>
  rintro k d Z hk ⟨⟨x1,x2,x3,rfl⟩,hb⟩;obtain⟨z,hz,rfl⟩:=YV hk;rw[Qe]at hz;cases ht:w[k]? with
  |none=>rw[ht]at hz;cases hz
  |some t=>
  rw[ht]at hz;cases hz;have hkl:k<w.length:=(Qg.mp ht).1;rw[QX];refine⟨_,KB rfl (U4 (UW (Qa rfl) rfl) (U4 (UW (Qa rfl) rfl) KD)),?_⟩;unfold MV;apply Zw (λl Z=>(∃x3,Z=[some (.pub (.list (w.map Kd))),some (.pub (.int (k:Nat))),some (.pub (Kd t)),x3])/\∀i'<l,∀s,w[i']?=some s->s.a≠t.b)
  case h1=>exact XZ (UR (U2 (UN rfl) UT KZ) UV) (XV (by omega) (by omega))
  case h0=>exact⟨⟨_,rfl⟩,λi' h=>absurd h (JR _)⟩
  case hst=>
   rintro l d Z hl2 ⟨⟨x3,rfl⟩,hc⟩;obtain⟨rfl,hlt⟩:=Wk hl2;have hlk:l<=k:=by omega
   obtain⟨s,hs⟩:∃s,w[l]?=some s:=⟨_,Qf (by omega)⟩
   refine⟨_,UW (Qa rfl) rfl,?_⟩;have zl:(0:Int)+(l:Int)=l:=by omega
   rw[zl];unfold MW;have il:oIx (.list (w.map Kd)) (.int (l:Int))=some (Kd s):=KW (by rw[Qe,hs];rfl);have i0:oIx (Kd s) (.int 0)=some (.int s.a):=KW (j:=0) rfl;have i1:oIx (Kd t) (.int 1)=some (.int t.b):=KW (j:=1) rfl;apply Ks
   case h1=>exact U2 (U2 (Kh rfl (UN rfl) il) UT i0) (Kh rfl UT i1) Xd
   case h2=>
    intro hh;have hh:(s.a:Int)=(t.b:Int):=Qa hh;have hcut:YQ (.list (w.map Kd)) (some (l:Int)) (some ((k:Int)+1))=some (.list (((w.take (k+1)).drop l).map Kd)):=by rw[WD,show((k:Int)+1)=((k+1:Nat):Int)by omega,Ei (by omega) (by rw[Qb];omega),List.map_drop,Uk]
    refine Ku (Wp (UN rfl) (Y0 (UN rfl)) (Y0 (U2 (UN rfl) UT KZ)) hcut) (V7 (V7 (XE ⟨_,rfl,_,rfl,.inr ⟨l,k,⟨hlk,hkl,λs' t' e1 e2=>?_,hb⟩,rfl⟩⟩)));rw[hs]at e1;rw[ht]at e2;cases e1;cases e2;omega
   case h3=>
    intro hh;have hh:¬(s.a:Int)=(t.b:Int):=Jb hh;refine Kx (K4 ⟨⟨_,rfl⟩,λi' hi' s' e=>?_⟩);rcases Ju.mp hi' with hi'|rfl
    ·exact hc i' hi' s' e
    ·rw[hs]at e;cases e;omega
  case hend=>
   rintro Z ⟨⟨x3,rfl⟩,hc⟩;refine K4 ⟨⟨_,_,_,rfl⟩,λj' hj' i' hi' s' t' e1 e2=>?_⟩;rcases Ju.mp hj' with hj'|rfl
   ·exact hb j' hj' i' hi' s' t' e1 e2
   ·rw[ht]at e2;cases e2;exact hc i' (by rw[Xf];omega) s' e1
 case hend=>rintro Z ⟨⟨x1,x2,x3,rfl⟩,hb⟩;refine Kl (Ku (ZE UV (Qa rfl)) ⟨_,rfl,[],rfl,.inl ⟨λj hj=>hb j (by rw[Yr,Qb];exact hj),rfl⟩⟩)
noncomputable def Yh(n:Nat)(s:Stp):Option (Nat×Option Int):=s.w.map λi=>(i,Zl n s.b)
noncomputable def Ky(p:Nat×Option Int):D:=.tuple [.int (p.1:Nat),U5 p.2]
noncomputable def rot(b:Nat)(r:List Stp):List Stp:=r.drop b++r.take b
theorem Na(b:Nat)(r:List Stp):(rot b r).Perm r:=by unfold rot;have:=List.perm_append_comm (l₁:=r.drop b) (l₂:=r.take b);rw[JK]at this;exact this
theorem jU{n:Nat}{r:List Stp}(hl:r.length<=1000):∃b,b<=r.length/\((∃s,r[b]?=some s/\s.a=n)∨(b=0/\∀s∈r,s.a≠n))/\Wa [.int (n:Nat),.list (r.map Kd)]=some (.list (((rot b r).filterMap (Yh n)).map Ky)):=by
 have key:∃d,Wa [.int (n:Nat),.list (r.map Kd)]=some d/\∃b,b<=r.length/\((∃s,r[b]?=some s/\s.a=n)∨(b=0/\∀s∈r,s.a≠n))/\d=.list (((rot b r).filterMap (Yh n)).map Ky):=by
  refine XR (Z:=[some (.pub (.int (n:Nat))),some (.pub (.list (r.map Kd))),none,none,none,none,none,none,none,none]) rfl ?_;unfold TV;refine Kj (KI UT (Qa rfl) rfl) ?_;apply Kq;apply Zw (λk Z=>∃(b:Nat)(x3 x4:Option Sl),Z=[some (.pub (.int (n:Nat))),some (.pub (.list (r.map Kd))),some (.pub (.int (b:Nat))),x3,x4,none,none,none,none,none]/\b<=r.length/\((∃s,r[b]?=some s/\s.a=n)∨(b=0/\∀s∈r.take k,s.a≠n)))
  case h1=>exact Xe (UR (UN rfl) UV) Xn
  case h0=>exact⟨0,_,_,rfl,JH _,.inr ⟨rfl,λs h=>by rw[J7]at h;cases h⟩⟩
  case hst=>
   rintro k d Z hk ⟨b,x3,x4,rfl,hbl,hb⟩;obtain⟨z,hz,rfl⟩:=YV hk;rw[Qe]at hz;cases ht:r[k]? with
   |none=>rw[ht]at hz;cases hz
   |some t=>
   rw[ht]at hz;cases hz;have hkl:k<r.length:=(Qg.mp ht).1;rw[QX];refine⟨_,KB rfl (U4 (UW (Qa rfl) rfl) (U4 (UW (Qa rfl) rfl) KD)),?_⟩;unfold MT;have i0:oIx (Kd t) (.int 0)=some (.int t.a):=KW (j:=0) rfl;apply Ks
   case h1=>exact U2 (Kh rfl UT i0) (UN rfl) Xd
   case h2=>intro hh;have hh:(t.a:Int)=(n:Int):=Qa hh;exact Zv (KI (UN rfl) (Qa rfl) rfl) (K4 ⟨k,_,_,rfl,by omega,.inl ⟨t,ht,by omega⟩⟩)
   case h3=>
    intro hh;have hh:¬(t.a:Int)=(n:Int):=Jb hh;refine Kx (K4 ⟨b,_,_,rfl,hbl,?_⟩);rcases hb with hb|⟨hb,hc⟩
    ·exact .inl hb
    ·refine .inr ⟨hb,λs hs=>?_⟩;rw[JJ,ht]at hs;rcases QR.mp hs with hs|hs
     ·exact hc s hs
     ·rw[QW.mp hs];omega
  case hend=>
   rintro Z ⟨b,x3,x4,rfl,hbl,hb⟩;refine Kl ?_;have hb':(∃s,r[b]?=some s/\s.a=n)∨(b=0/\∀s∈r,s.a≠n):=by rw[Yr,Qb,Jz]at hb;exact hb
   refine Kj (Z6 (Wu UV (Qa rfl)) (Qa rfl) rfl) ?_;have c1:YQ (.list (r.map Kd)) (some (b:Int)) none=some (.list ((r.drop b).map Kd)):=by rw[WD,BD (by rw[Qb];exact hbl),List.map_drop]
   have c2:YQ (.list (r.map Kd)) none (some (b:Int))=some (.list ((r.take b).map Kd)):=by rw[WD,En (by rw[Qb];exact hbl),Uk]
   have c3:U3 (.list ((r.drop b).map Kd)) (.list ((r.take b).map Kd))=some (.list ((rot b r).map Kd)):=by rw[Xo (by rw[Qb,Qb,Jl,QN];omega)];unfold rot;rw[QC]
   apply Kq;apply Zw (λk Z=>∃x6 x7 x8 x9,Z=[some (.pub (.int (n:Nat))),some (.pub (.list (r.map Kd))),some (.pub (.int (b:Nat))),x3,x4,some (.own ((((rot b r).take k).filterMap (Yh n)).map Ky)),x6,x7,x8,x9])
   case h1=>exact Zp (U2 (Wp (UN rfl) (Y0 (UN rfl)) UT c1) (Wp (UN rfl) UT (Y0 (UN rfl)) c2) c3) ZX
   case h0=>exact⟨_,_,_,_,rfl⟩
   case hst=>
    rintro k d Z hk ⟨x6,x7,x8,x9,rfl⟩;rw[Qe]at hk;cases hq:(rot b r)[k]? with
    |none=>rw[hq]at hk;cases hk
    |some s=>
    rw[hq]at hk;cases hk;have hkl:k<(rot b r).length:=(Qg.mp hq).1;have hrl:(rot b r).length=r.length:=(Na b r).length_eq;have hta:(rot b r).take (k+1)=(rot b r).take k++[s]:=by rw[JJ,hq];rfl
    refine⟨_,KB rfl (U4 (UW (Qa rfl) rfl) (U4 (UW (Qa rfl) rfl) (U4 (UW (Qa rfl) rfl) (U4 (UW (Qa rfl) rfl) KD)))),?_⟩;unfold MU;have hsz:((((rot b r).take k).filterMap (Yh n)).map Ky).length<1000000:=by rw[Qb];have:=Jf (Yh n) ((rot b r).take k);rw[QN]at this;omega
    cases hw:s.w with
    |none=>
     apply Ks
     case h1=>exact Kv (k:=λd=>!isNon d) (x:=Y5 none) (UN rfl)
     case h2=>intro hh;cases hh
     case h3=>
      intro _;refine Kx (K4 ⟨some (.pub (.int s.a)),some (.pub (.int s.b)),some (.pub (.int s.g)),some (.pub (Y5 none)),?_⟩);rw[hta,List.filterMap_append];have:[s].filterMap (Yh n)=[]:=by unfold Yh;rw[Jn,hw];rfl
      rw[this,Q7];rfl
    |some i=>
     apply Ks
     case h1=>exact Kv (k:=λd=>!isNon d) (x:=Y5 (some i)) (UN rfl)
     case h3=>intro hh;cases hh
     case h2=>
      intro _
      have htest:∀Z:UJ,Z[7]?=some (some (.pub (.int (s.b:Int))))->Z[0]?=some (some (.pub (.int (n:Int))))->mIf (K5 oEq 7 (UI 0)) (UQ .none) (UI 7) Z=.ok (U5 (Zl n s.b)) Z:=λZ h7 h0=>by
       unfold Zl;by_cases z:s.b=n
       ·rw[Qp z];exact N5 (Zu h7 (UN h0) (by rw[Xd,Q5 (by rw[z])])) UT
       ·rw[Qz z];exact Oc (Zu h7 (UN h0) (by rw[Xd,QI (by omega)])) (UN h7)
      refine Zv (XS rfl (Yz (UR (UN rfl) (UR (htest _ rfl rfl) UV)) (Qa rfl)) rfl hsz rfl) (K4 ⟨some (.pub (.int s.a)),some (.pub (.int s.b)),some (.pub (.int s.g)),some (.pub (Y5 (some i))),?_⟩);rw[hta,List.filterMap_append];have:[s].filterMap (Yh n)=[(i,Zl n s.b)]:=by unfold Yh;rw[Jn,hw];rfl
      rw[this,QC];rfl
   case hend=>rintro Z ⟨x6,x7,x8,x9,rfl⟩;refine Kl (Ku (Yj rfl rfl) ⟨_,rfl,b,hbl,hb',?_⟩);rw[Qb,Jz]
 obtain⟨d,e,b,h1,h2,rfl⟩:=key;exact⟨b,h1,h2,e⟩
theorem Ni(n:Nat):∀(R:List Stp)(d:LO),(R.filterMap (Yh n)).foldl (λd p=>d.set p.1 p.2) d=R.foldl (app n) d
 |[],d=>rfl
 |s::R,d=>by
  rw[JO,Jn];unfold Yh app;cases s.w with
  |none=>exact Ni n R d
  |some i=>exact Ni n R (d.set i (Zl n s.b))
def Oa(cs:List Int)(f:Int×Int->Int)(qs:LP)(ws:LO):Prop:=∀p,p<cs.length+1->(ent (KP (cs.length+1) (Yv cs f qs ws) (cs.length+1)) p).2.length≠cs.length+1
structure SI(cs:List Int)(f:Int×Int->Int)(qs:LP)(ws:LO)(r:List Stp)(b:Nat):Prop where
 rnd:∃x,Path (Yv cs f qs ws) x r x
 nd:(r.map Stp.a).Nodup
 pos:0<Km r
 bl:b<=r.length
 bat:(∃s,r[b]?=some s/\s.a=cs.length)∨(b=0/\∀s∈r,s.a≠cs.length)
noncomputable def Zk(n b:Nat)(r:List Stp):List (Nat×Option Int):=(rot b r).filterMap (Yh n)
theorem Re(s:Stp)(R:List Stp):Km (s::R)=s.g+Km R:=by show Km ([s]++R)=_;rw[Wx,Rl]
theorem Ax{u v:List Stp}(h:u.Perm v):Km u=Km v:=by
 induction h with
 |nil=>rfl
 |cons x _ ih=>rw[Re,Re,ih]
 |swap x y l=>rw[Re,Re,Re,Re];omega
 |trans _ _ ih1 ih2=>rw[ih1,ih2]
theorem Aw{R:List Stp}(h:∀s∈R,s.g=0):Km R=0:=by
 induction R with
 |nil=>rfl
 |cons s R ih=>
  have e:Km (s::R)=s.g+Km R:=by show Km ([s]++R)=_;rw[Wx,Rl]
  rw[e,h s Qk,ih λx hx=>h x (Qj _ hx)];rfl
section
variable{cs:List Int}{ls:L3}{ws:LO}{V:Int->Int->Int}{qs:LP}{f:Int×Int->Int}{m:Nat}
theorem SI.does(hp:Yp cs.length m qs)(hd:ZW cs qs m ws){r:List Stp}{b:Nat}(h:SI cs f qs ws r b):ZW cs qs m ((Zk cs.length b r).foldl (λd p=>d.set p.1 p.2) ws)/\KO f 0 ((Zk cs.length b r).foldl (λd p=>d.set p.1 p.2) ws)=KO f 0 ws+Km r/\Zk cs.length b r≠[]/\∀p∈Zk cs.length b r,p.1<ws.length:=by
 obtain⟨x,hx⟩:=h.rnd;have hin:∀s∈r,IsSt cs f qs ws s:=λs hs=>V5 hp hd s (hx.mem s hs);have pr:=Na b r;have hinR:∀s∈rot b r,IsSt cs f qs ws s:=λs hs=>hin s (pr.mem_iff.mp hs);have ndR:((rot b r).map Stp.a).Nodup:=(pr.map Stp.a).nodup_iff.mpr h.nd;have pbR:((rot b r).map Stp.b).Perm ((rot b r).map Stp.a):=((pr.map Stp.b).trans (jm hx)).trans (pr.map Stp.a).symm
 obtain⟨h1,h2⟩:=BX hp hd hinR ndR pbR;unfold Zk;rw[Ni];refine⟨h1,by rw[h2,Ax pr],λz=>?_,λp hpm=>?_⟩
 ·have:Km r=0:=Aw λs hs=>by
   have hw:Yh cs.length s=none:=by have:=List.filterMap_eq_nil_iff.mp z s (pr.mem_iff.mpr hs);exact this
   cases hin s hs with
   |mv _ _ _=>cases hw
   |left _ _=>rfl
   |give _=>rfl
  have:=h.pos;omega
 ·obtain⟨s,hs,e⟩:=Jj.mp hpm;cases hinR s hs with
  |@mv i o o' hw _ _=>cases e;exact(Qg.mp hw).1
  |left _ _=>cases e
  |give _=>cases e
theorem jk(g:Good cs ls)(hm:ws.length=ls.length)(hp:Yp cs.length ws.length qs)(hd:ZW cs qs ws.length ws)(hq1:qs.length<=500):∃d,W9 [U7 cs ls,.list (qs.map (Zt V)),Ke ws]=some d/\((d=.list []/\Oa cs (U0 V) qs ws) ∨ ∃r b,d=.list ((Zk cs.length b r).map Ky)/\SI cs (U0 V) qs ws r b):=by
 refine XR (Z:=[some (.pub (U7 cs ls)),some (.pub (.list (qs.map (Zt V)))),some (.pub (Ke ws)),none,none,none]) rfl ?_;unfold TU;have c6:=g.c6;have l7:=g.l7;have hlc:Ka [.list (cs.map int)]=some (.int cs.length):=by rw[K6,Qb]
 have hS:∀s∈Yv cs (U0 V) qs ws,s.a<cs.length+1/\s.b<cs.length+1:=λs hs=>(V5 hp hd s hs).lt hp hd;have hwd:=Hc hS (by omega)
 have hsteps:=Gn (V:=V) g hm hp hd (by omega);refine Kj (KI (Zc (UR (Kh rfl UT Xh) UV) hlc) (Qa rfl) rfl) ?_;have hadd:U3 (.int (cs.length:Int)) (.int 1)=some (.int ((cs.length+1:Nat):Int)):=by rw[KZ];rfl
 apply Kq;apply Zw (λk Z=>(∃x4 x5,Z=[some (.pub (U7 cs ls)),some (.pub (.list (qs.map (Zt V)))),some (.pub (Ke ws)),some (.pub (.int cs.length)),x4,x5])/\∀p<k,(ent (KP (cs.length+1) (Yv cs (U0 V) qs ws) (cs.length+1)) p).2.length≠cs.length+1)
 case h1=>exact Zp (Ki (UR (U2 (UN rfl) UT hadd) (UR (Ki (UR (UN rfl) (UR (UN rfl) (UR (UN rfl) UV))) rfl hsteps) UV)) rfl hwd) ZX
 case h0=>exact⟨⟨_,_,rfl⟩,λp h=>absurd h (JR _)⟩
 case hst=>
  rintro k d Z hk ⟨⟨x4,x5,rfl⟩,hb⟩;rw[Qe]at hk;cases hq:(KP (cs.length+1) (Yv cs (U0 V) qs ws) (cs.length+1))[k]? with
  |none=>rw[hq]at hk;cases hk
  |some e=>
  rw[hq]at hk;cases hk;have he:ent (KP (cs.length+1) (Yv cs (U0 V) qs ws) (cs.length+1)) k=e:=by unfold ent;rw[Qo,hq];rfl
  refine⟨_,KB rfl (U4 (UW (Qa rfl) rfl) (U4 (UW (Qa rfl) rfl) KD)),?_⟩;unfold MS;have hlw:Ka [.list (e.2.map Kd)]=some (.int e.2.length):=by rw[K6,Qb]
  apply Ks
  case h1=>exact U2 (Zh rfl hlw) (U2 (UN rfl) UT hadd) Xd
  case h2=>
   intro hh;have hh:((e.2.length:Nat):Int)=((cs.length+1:Nat):Int):=Qa hh;have hlen:e.2.length=cs.length+1:=by omega
   obtain⟨d,hrw,r,rfl,hr⟩:=kT (w:=e.2) (by omega);have hwk:=Rf hS (cs.length+1) k;rw[he]at hwk;obtain⟨q,hpath⟩:=hwk.1.path;rcases hr with ⟨hno,rfl⟩|⟨i,j,hra,rfl⟩
   ·exact absurd hno (BY hS hpath (by omega) (Uj _))
   ·have hlr:((e.2.take (j+1)).drop i).length<=1000:=by rw[Jl,QN];omega
    obtain⟨b,hbl,hbat,hway⟩:=jU (n:=cs.length) hlr;have hrg:=jn hS (Uj _) (p:=k) (by rw[he];exact hlen) (by rw[he];exact hra);rw[he]at hrg;obtain⟨x,hx,hgp⟩:=hrg;exact Ku (Ki (UR (UN rfl) (UR (Ki (UR (UN rfl) UV) rfl hrw) UV)) rfl hway) (V7 (XE ⟨_,rfl,.inr ⟨_,b,rfl,⟨⟨x,hx⟩,jI hpath hra,hgp,hbl,hbat⟩⟩⟩))
  case h3=>
   intro hh;have hh:¬((e.2.length:Nat):Int)=((cs.length+1:Nat):Int):=Jb hh;refine Kx (K4 ⟨⟨_,_,rfl⟩,λp hpk=>?_⟩);rcases Ju.mp hpk with hpk|rfl
   ·exact hb p hpk
   ·rw[he];omega
 case hend=>rintro Z ⟨⟨x4,x5,rfl⟩,hb⟩;refine Kl (Ku (ZE UV (Qa rfl)) ⟨_,rfl,.inl ⟨rfl,λp hpn=>hb p ?_⟩⟩);rw[Qb,Rp hS];exact hpn
end
section
variable{cs:List Int}{ls:L3}
end
section
variable{cs:List Int}{ls:L3}{as ps:List Int}
theorem E6(g:Good cs ls):(U1 0 ls).length<=42:=by rw[(V4 ls 0).length_eq];exact RQ g
end
section
variable{cs:List Int}{ls:L3}{ws:LO}{qs:LP}{V:Int->Int->Int}
noncomputable def prW(cs:List Int)(f:Int×Int->Int)(qs:LP)(ws:LO)(p:Nat):Int:=(ent (KP (cs.length+1) (Yv cs f qs ws) (cs.length+1)) p).1
theorem Av(g:Good cs ls)(hp:Yp cs.length ls.length qs)(hd:ZW cs qs ls.length ws)(hq1:qs.length<=500):W8 [U7 cs ls,.list (qs.map (Zt V)),Ke ws]=some (.list (((Ux cs.length).map (prW cs (U0 V) qs ws)).map int)):=by
 refine KY (Z:=[some (.pub (U7 cs ls)),some (.pub (.list (qs.map (Zt V)))),some (.pub (Ke ws)),none,none]) rfl ?_;unfold TR;have c6:=g.c6;have hS:∀s∈Yv cs (U0 V) qs ws,s.a<cs.length+1/\s.b<cs.length+1:=λs hs=>(V5 hp hd s hs).lt hp hd;have hlc:Ka [.list (cs.map int)]=some (.int cs.length):=by rw[K6,Qb]
 have has:Y9 [U7 cs ls,.list (qs.map (Zt V)),Ke ws]=some (.list ((Yv cs (U0 V) qs ws).map Kd)):=Gn g hd.len (by rw[hd.len];exact hp) (by rw[hd.len];exact hd) (by omega);have hwd:=Hc hS (by omega);generalize hT:KP (cs.length+1) (Yv cs (U0 V) qs ws) (cs.length+1)=T at hwd;have hTl:T.length=cs.length+1:=by rw[←hT];exact Rp hS _
 refine Kj (KI (Zc (UR (Kh rfl UT Xh) UV) hlc) (Qa rfl) rfl) ?_;refine Kj (KI (Ki (UR (U2 (UN rfl) UT KZ) (UR (Ki (UR (UN rfl) (UR (UN rfl) (UR (UN rfl) UV))) rfl has) UV)) rfl hwd) (Qa rfl) rfl) ?_
 have hcd:DL.cutD (T.map ZV) none (some (cs.length:Int))=(T.take cs.length).map ZV:=by
  have h2:HT.sIx (T.map ZV).length (T.map ZV).length (some (cs.length:Int))=cs.length:=by rw[Qb,hTl];unfold HT.sIx;simp;omega
  unfold DL.cutD;rw[h2,show HT.sIx (T.map ZV).length 0 none=0 from rfl,Ui,Nat.sub_zero,Uk]
 have hcut:YQ (.list (T.map ZV)) none (some (cs.length:Int))=some (.list ((T.take cs.length).map ZV)):=by rw[WD,hcd]
 have hc:K2 (gT 2 (gNC (gN 5) (gNC (gN 6) (gN0)))) (UQ true) (UI 5) ((T.take cs.length).map ZV) (Kn [some (.pub (U7 cs ls)),some (.pub (.list (qs.map (Zt V)))),some (.pub (Ke ws)),some (.pub (.int cs.length)),some (.pub (.list (T.map ZV)))]++Uy 2 none) []=some ([]++((Ux cs.length).map (prW cs (U0 V) qs ws)).map int):=by
  refine YX (λZ=>∃x y,Z=[some (.pub (U7 cs ls)),some (.pub (.list (qs.map (Zt V)))),some (.pub (Ke ws)),some (.pub (.int cs.length)),some (.pub (.list (T.map ZV))),x,y]) _ _ _ _ ?_ ?_ ⟨none,none,rfl⟩ ?_
  ·rw[Qb,Qb,Qb,QN,Qu];omega
  ·rintro i d e hd' he Z ⟨x,y,rfl⟩;rw[Qe,Qe]at he;have hil:i<cs.length:=by have:=(Qg.mp hd').1;rw[Qb,QN]at this;omega
   rw[QU hil]at he;cases he;rw[Qe,List.getElem?_take_of_lt hil,Qf (by omega)]at hd';cases hd';have hv:prW cs (U0 V) qs ws i=T[i].1:=by unfold prW ent;rw[hT,Qo,Qf (by omega)];rfl
   rw[hv];exact⟨_,KB rfl (U4 (UW (Qa rfl) rfl) (U4 (UW (Qa rfl) rfl) KD)),rfl,UN rfl,_,_,rfl⟩
  ·rw[QB,Qb,QN];omega
 exact Ku (Kv (Z7 (Zp (Wp (UN rfl) UT (Y0 (UN rfl)) hcut) ZX) hc)) rfl
theorem E5{n m:Nat}(hp:Yp n m qs)(hm:m<=1000)(P:Nat->Int):W7 [.int (m:Nat),.list (qs.map (Zt V)),.list (((Ux n).map P).map int)]=some (.list (((Ux m).map λi:Nat=>ZG (U0 V) P qs (i:Int)).map int)):=by
 refine KY (Z:=[some (.pub (.int (m:Nat))),some (.pub (.list (qs.map (Zt V)))),some (.pub (.list (((Ux n).map P).map int))),none,none,none,none]) rfl ?_;unfold TQ;refine Kj (Z6 (MG (n:=m) (ZE (UR UT UV) (Qa rfl)) (UN rfl) hm) (Qa rfl) rfl) ?_;apply Kq;apply Zw (λk Z=>∃x4 x5 x6,Z=[some (.pub (.int (m:Nat))),some (.pub (.list (qs.map (Zt V)))),some (.pub (.list (((Ux n).map P).map int))),some (.own (((Ux m).map λi:Nat=>ZG (U0 V) P (qs.take k) (i:Int)).map int)),x4,x5,x6])
 case h1=>exact Zp (UN rfl) ZX
 case h0=>
  refine⟨none,none,none,?_⟩
  have e:(Uy m (int 0))=((Ux m).map λi:Nat=>ZG (U0 V) P (qs.take 0) (i:Int)).map int:=by
   rw[QY];apply List.ext_getElem
   ·rw[QE,Qb,Qu]
   ·intro i h1 h2;rw[List.getElem_replicate,JY];rfl
  rw[←e];rfl
 case hst=>
  rintro k d Z hk ⟨x4,x5,x6,rfl⟩;rw[Qe]at hk;cases hq:qs[k]? with
  |none=>rw[hq]at hk;cases hk
  |some q=>
  rw[hq]at hk;cases hk;have hb:=hp.lo q (Qn hq);obtain⟨⟨a,ha⟩,⟨t,ht⟩⟩:(∃a:Nat,q.1=a)/\∃t:Nat,q.2=t:=⟨⟨q.1.toNat,by omega⟩,⟨q.2.toNat,by omega⟩⟩
  have ham:a<m:=by omega
  have htn:t<n:=by omega
  refine⟨_,KB rfl (U4 (UW (Qa rfl) rfl) (U4 (UW (Qa rfl) rfl) (U4 (UW (Qa rfl) rfl) KD))),?_⟩;unfold M3;have h1:oIx (.list (((Ux m).map λi:Nat=>ZG (U0 V) P (qs.take k) (i:Int)).map int)) (.int q.1)=some (.int (ZG (U0 V) P (qs.take k) (a:Int))):=by rw[ha];exact KW (by rw[Qe,Qe,QU ham];rfl)
  have h2:oIx (.list (((Ux n).map P).map int)) (.int q.2)=some (.int (P t)):=by rw[ht];exact KW (by rw[Qe,Qe,QU htn];rfl)
  refine Zv (VI (Zc (UR (Wq rfl (UN rfl) rfl h1) (UR (U2 (UN rfl) (Kh rfl (UN rfl) h2) Yy) UV)) MJ) rfl (UN rfl) rfl ⟨hb.1,by rw[Qb,Qb,Qu];exact hb.2.1⟩ rfl) (K4 ⟨some (.pub (.int q.1)),some (.pub (.int q.2)),some (.pub (.int (V q.1 q.2))),?_⟩);have e:∀i:Nat,ZG (U0 V) P (qs.take (k+1)) (i:Int)=if q.1=(i:Int)then max (ZG (U0 V) P (qs.take k) (i:Int)) (U0 V q-P q.2.toNat)else ZG (U0 V) P (qs.take k) (i:Int):=λi=>by unfold ZG;rw[List.take_add_one,hq,List.foldl_append];rfl
  have e2:((((Ux m).map λi:Nat=>ZG (U0 V) P (qs.take k) (i:Int)).map int).set q.1.toNat (.int (if V q.1 q.2-P t > ZG (U0 V) P (qs.take k) (a:Int)then V q.1 q.2-P t else ZG (U0 V) P (qs.take k) (a:Int))))=((Ux m).map λi:Nat=>ZG (U0 V) P (qs.take (k+1)) (i:Int)).map int:=by
   apply List.ext_getElem
   ·rw[QS,Qb,Qb,Qb,Qb]
   ·intro i h1 h2;have hi:i<m:=by rw[Qb,Qb,Qu]at h2;exact h2
    rw[List.getElem_set,JY,JY,JY,JY,List.getElem_range,e];by_cases hia:a=i
    ·subst hia;rw[Qp (by omega),Qp ha,show q.2.toNat=t by omega]
     congr 1
     show _=max _ (V q.1 q.2-P t)
     split<;>omega
    ·rw[Qz (by omega),Qz (by omega)]
  rw[←e2];rfl
 case hend=>rintro Z ⟨x4,x5,x6,rfl⟩;refine Kl (Ku (Yj rfl rfl) ?_);rw[Qb,Jz]
noncomputable abbrev YR(m:Nat)(f:Int×Int->Int)(P:Nat->Int)(qs:LP):List Int:=(Ux m).map λi:Nat=>ZG f P qs (i:Int)
theorem jT(g:Good cs ls)(hp:Yp cs.length ls.length qs)(hd:ZW cs qs ls.length ws)(hq1:qs.length<=500):W6 [U7 cs ls,.list (qs.map (Zt V)),Ke ws]=some (KQ 1 (YR ls.length (U0 V) (prW cs (U0 V) qs ws) qs) ((Ux cs.length).map (prW cs (U0 V) qs ws))):=by
 refine KY (Z:=[some (.pub (U7 cs ls)),some (.pub (.list (qs.map (Zt V)))),some (.pub (Ke ws)),none]) rfl ?_;unfold TN;have l7:=g.l7;have hll:Ka [.list (ls.map KH)]=some (.int ls.length):=by rw[K6,Qb]
 refine Kj (KI (Ki (UR (UN rfl) (UR (UN rfl) (UR (UN rfl) UV))) rfl (Av g hp hd hq1)) (Qa rfl) rfl) ?_;exact Ku (Yz (UR UT (UR (Ki (UR (Zc (UR (Kh rfl UT Xg) UV) hll) (UR (UN rfl) (UR (UN rfl) UV))) rfl (E5 hp (by omega) _)) (UR (UN rfl) UV))) (Qa rfl)) rfl
theorem PU(g:Good cs ls):Yp cs.length ls.length (U1 0 ls) where
 nd:=Nt ls 0 λrs hr=>(g.rk rs hr).once
 lo:=λq hq=>by have:=MA g q hq;exact⟨this.1.1,this.1.2,this.2.1,this.2.2⟩
end
section
variable{cs:List Int}{ls:L3}{ws:LO}
theorem jG{o:Ord}{old:Option LO}{ts:List Int}(g:Good cs ls)(ga:Yx cs.length ls.length old ts)(hd:ZW cs (U1 0 ls) ls.length ws):∃d,Xy [U7 cs ls,Kz o old ts,Ke ws]=some d/\((d=.tuple [.str "best", KQ 1 (YR ls.length (U0 (U8 ls o old ts)) (prW cs (U0 (U8 ls o old ts)) (U1 0 ls) ws) (U1 0 ls)) ((Ux cs.length).map (prW cs (U0 (U8 ls o old ts)) (U1 0 ls) ws))]/\Oa cs (U0 (U8 ls o old ts)) (U1 0 ls) ws) ∨ ∃r b,d=.tuple [.str "way", .list ((Zk cs.length b r).map Ky)]/\SI cs (U0 (U8 ls o old ts)) (U1 0 ls) ws r b):=by
 have hq:=E6 g;have hp:=PU g;obtain⟨d,hw,hcase⟩:=jk (V:=U8 ls o old ts) g hd.len (by rw[hd.len];exact hp) (by rw[hd.len];exact hd) (by omega);refine XR (Z:=[some (.pub (U7 cs ls)),some (.pub (Kz o old ts)),some (.pub (Ke ws)),none,none]) rfl ?_;unfold TM;refine Kj (KI (Ki (UR (UN rfl) (UR (UN rfl) UV)) rfl (kM g ga)) (Qa rfl) rfl) ?_;refine Kj (KI (Ki (UR (UN rfl) (UR (UN rfl) (UR (UN rfl) UV))) rfl hw) (Qa rfl) rfl) ?_;apply Kq;rcases hcase with ⟨rfl,hst⟩|⟨r,b,rfl,hg⟩
 ·refine Ks (b:=false) (Z1:=[some (.pub (U7 cs ls)),some (.pub (Kz o old ts)),some (.pub (Ke ws)),some (.pub (.list ((U1 0 ls).map (Zt (U8 ls o old ts))))),some (.pub (.list []))]) (Hy (ds:=[]) (UN rfl)) (λz=>by cases z) λ_=>Kx (Kl ?_)
  exact Ku (Yz (UR UT (UR (Ki (UR (UN rfl) (UR (UN rfl) (UR (UN rfl) UV))) rfl (jT g hp hd (by omega))) UV)) (Qa rfl)) ⟨_,rfl,.inl ⟨rfl,hst⟩⟩
 ·have hne:=(hg.does hp hd).2.2.1;refine Ks (b:=true) (Z1:=[some (.pub (U7 cs ls)),some (.pub (Kz o old ts)),some (.pub (Ke ws)),some (.pub (.list ((U1 0 ls).map (Zt (U8 ls o old ts))))),some (.pub (.list ((Zk cs.length b r).map Ky)))]) ?_ (λ_=>?_) (λz=>by cases z)
  ·refine(Hy (ds:=(Zk cs.length b r).map Ky) (UN rfl)).trans ?_;cases hwr:Zk cs.length b r with
   |nil=>exact absurd hwr hne
   |cons x xs=>rfl
  ·exact Ku (Yz (UR UT (UR (UN rfl) UV)) (Qa rfl)) (XE ⟨_,rfl,.inr ⟨r,b,rfl,hg⟩⟩)
end
def P0(cs:List Int)(ws:LO)(t:Nat):Prop:=∃c,cs[t]?=some c/\((ws.count (some (t:Int)):Nat):Int)<c
structure WayQ(cs:List Int)(qs:LP)(ws:LO)(W:List (Nat×Option Int)):Prop where
 ne:W≠[]
 mv:∀p∈W,∃o,ws[p.1]?=some o/\p.2≠o/\∀t,p.2=some t->((p.1:Int),t)∈qs
 nd:(W.map Prod.fst).Nodup
 lnk:∀(k:Nat) p q,W[k]?=some p->W[k+1]?=some q->p.2≠none/\ws[q.1]?=some p.2
 fin:∀p q,W.head?=some p->W.getLast?=some q->q.2=none∨ws[p.1]?=some q.2 ∨ ∃t:Nat,q.2=some (t:Int)/\P0 cs ws t
section
variable{cs:List Int}{f:Int×Int->Int}{qs:LP}{m:Nat}{ws:LO}
structure Rr(cs:List Int)(ws:LO)(z:Nat)(W:List (Nat×Option Int)):Prop where
 nd:(W.map Prod.fst).Nodup
 lnk:∀(k:Nat) p q,W[k]?=some p->W[k+1]?=some q->p.2≠none/\ws[q.1]?=some p.2
 fin:∀q,W.getLast?=some q->q.2=Zl cs.length z∨(z=cs.length/\∃t:Nat,q.2=some (t:Int)/\P0 cs ws t)
def Mp(cs:List Int)(ws:LO)(a z:Nat)(R:List Stp)(W:List (Nat×Option Int)):Prop:=
 (W=[]/\((R=[]/\a=z)∨(z=cs.length/\P0 cs ws a/\a<cs.length)))∨((∃p,W.head?=some p/\ws[p.1]?=some (Zl cs.length a))/\Rr cs ws z W)
theorem O9(hp:Yp cs.length m qs){R:List Stp}(hR:∀s∈R,IsSt cs f qs ws s){p:Nat×Option Int}(h:p∈R.filterMap (Yh cs.length)):∃s∈R,s.w=some p.1/\∃o,ws[p.1]?=some o/\p.2≠o/\(∀t,p.2=some t->((p.1:Int),t)∈qs)/\s.a=plF cs.length o:=by
 obtain⟨s,hs,e⟩:=Jj.mp h;refine⟨s,hs,?_⟩;cases hR s hs with
 |@mv i o o' hw hne hq=>cases e;exact⟨rfl,o,hw,by rw[Wn hp hq];exact hne,by rw[Wn hp hq];exact hq,rfl⟩
 |left _ _=>cases e
 |give _=>cases e
theorem Rr.cons(hp:Yp cs.length m qs){i:Nat}{o':Option Int}{R:List Stp}{z:Nat}(hq:∀t,o'=some t->((i:Int),t)∈qs)(hn:∀s∈R,s.a≠cs.length)(hf:∀s,R.head?=some s->s.a=plF cs.length o')(hne:R≠[]∨plF cs.length o'=z){W:List (Nat×Option Int)}(h:Mp cs ws (plF cs.length o') z R W)(hi:i∉W.map Prod.fst)(hRW:W≠[]->R≠[]):Rr cs ws z ((i,o')::W):=by
 rcases h with ⟨rfl,h⟩|⟨⟨p,hp1,hp2⟩,h⟩
 ·refine⟨by simp,λk p q _ h2=>by simp at h2,λq hq'=>?_⟩;have:q=(i,o'):=by simpa using hq'.symm
  subst this;rcases h with ⟨rfl,e⟩|⟨e1,hl,hlt⟩
  ·exact .inl (by rw[←e,Wn hp hq])
  ·refine .inr ⟨e1,_,?_,hl⟩;cases o' with
   |none=>exact absurd hlt (Jo _)
   |some t=>
    have:=hp.lo _ (hq t rfl);show some t=some ((t.toNat:Nat):Int)
    congr 1
    have h2:0<=t:=this.2.2.1;omega
 ·have hW:W≠[]:=λz=>by rw[z]at hp1;cases hp1
  obtain⟨s,hs⟩:∃s,R.head?=some s:=by
   cases R with
   |nil=>exact absurd rfl (hRW hW)
   |cons s r=>exact⟨s,rfl⟩
  have hs':s∈R:=List.mem_of_mem_head? hs;have no:o'≠none:=λe=>by have:=hn s hs';rw[hf s hs,e]at this;exact this rfl
  rw[Wn hp hq]at hp2;refine⟨?_,λk p' q' h1 h2=>?_,λq hq'=>?_⟩
  ·rw[Qx,JN];exact⟨hi,h.nd⟩
  ·cases k with
   |zero=>
    rw[List.getElem?_cons_zero]at h1;rw[Jy]at h2;cases h1;have:W[0]?=some p:=by rw[←List.head?_eq_getElem?];exact hp1
    rw[this]at h2;cases h2;exact⟨no,hp2⟩
   |succ k=>rw[Jy]at h1 h2;exact h.lnk k p' q' h1 h2
  ·refine h.fin q ?_;rw[←hq'];cases W with
   |nil=>exact absurd rfl hW
   |cons x r=>rfl
theorem O8(hp:Yp cs.length m qs)(hd:ZW cs qs m ws):∀(R:List Stp)(a z:Nat){S:List Stp},Path S a R z->(∀s∈R,IsSt cs f qs ws s)->(R.map Stp.a).Nodup->(∀s∈R,s.a≠cs.length)->Mp cs ws a z R (R.filterMap (Yh cs.length))
 |[],a,z,S,h,_,_,_=>by cases h;exact .inl ⟨rfl,.inl ⟨rfl,rfl⟩⟩
 |s::R,a,z,S,h,hR,hn,ha=>by
  obtain⟨rfl,h'⟩:a=s.a/\Path S s.b R z:=⟨h.head,h.step.2⟩
  have hR':∀t∈R,IsSt cs f qs ws t:=λt ht=>hR t (Qj _ ht);have ha':∀t∈R,t.a≠cs.length:=λt ht=>ha t (Qj _ ht);rw[Qx,JN]at hn;have ih:=O8 hp hd R s.b z h' hR' hn.2 ha'
  have hf:∀t,R.head?=some t->t.a=s.b:=λt ht=>by
   cases R with
   |nil=>cases ht
   |cons t' R=>cases ht;exact h'.head.symm
  have hnil:R=[]->s.b=z:=λe=>by subst e;generalize s.b=q at h';cases h';rfl
  have hsa:=ha s Qk;cases hR s Qk with
  |@mv i o o' hw hne hq=>
   refine .inr ⟨⟨(i,o'),?_,?_⟩,?_⟩
   ·show some ((i,Zl cs.length (plF cs.length o')):Nat×Option Int)=_;rw[Wn hp hq]
   ·show ws[i]?=some (Zl cs.length (plF cs.length o));rw[Wn hp (i:=i) (λt e=>hd.wish i t (by rw[hw,e]))];exact hw
   ·have e:((⟨plF cs.length o,plF cs.length o',Kg f i o'-Kg f i o,some i⟩:Stp)::R).filterMap (Yh cs.length)=(i,o')::R.filterMap (Yh cs.length):=by
     show(i,Zl cs.length (plF cs.length o'))::_=_
     rw[Wn hp hq]
    rw[e];refine Rr.cons hp hq ha' hf ?_ ih (λhm=>?_) (λhne' z=>hne' (by rw[z];rfl))
    ·cases R with
     |nil=>right;exact hnil rfl
     |cons _ _=>left;exact List.cons_ne_nil _ _
    ·obtain⟨p,hpm,e1⟩:=Qr.mp hm;obtain⟨t,ht,hw',o2,ho2,_,_,ea⟩:=O9 hp hR' hpm;rw[e1,hw]at ho2;cases ho2;exact hn.1 (Qr.mpr ⟨t,ht,ea⟩)
  |@left t c h1 h2=>
   have hR0:R=[]:=by
    cases R with
    |nil=>rfl
    |cons t' R=>exact absurd h'.head.symm (ha' _ Qk)
   have hz:cs.length=z:=hnil hR0;subst hR0;exact .inl ⟨rfl,.inr ⟨hz.symm,⟨c,h1,h2⟩,(Qg.mp h1).1⟩⟩
  |give _=>exact absurd rfl hsa
theorem SI.way(hp:Yp cs.length m qs)(hd:ZW cs qs m ws){r:List Stp}{b:Nat}(h:SI cs f qs ws r b):WayQ cs qs ws (Zk cs.length b r):=by
 obtain⟨x,hx⟩:=h.rnd;have hin:∀s∈r,IsSt cs f qs ws s:=λs hs=>V5 hp hd s (hx.mem s hs);have pr:=Na b r;have hR:∀s∈rot b r,IsSt cs f qs ws s:=λs hs=>hin s (pr.mem_iff.mp hs);have nd:((rot b r).map Stp.a).Nodup:=(pr.map Stp.a).nodup_iff.mpr h.nd;have hne:=(h.does hp hd).2.2.1
 obtain⟨y,p1,p2⟩:=Path.split (u:=r.take b) (v:=r.drop b) (by rw[JK];exact hx);have hP:Path (Yv cs f qs ws) y (rot b r) y:=p2.append p1;have mvW:∀p∈Zk cs.length b r,∃o,ws[p.1]?=some o/\p.2≠o/\∀t,p.2=some t->((p.1:Int),t)∈qs:=λp hpm=>by obtain⟨_,_,_,o,h1,h2,h3,_⟩:=O9 hp hR hpm;exact⟨o,h1,h2,h3⟩
 unfold Zk at hne mvW⊢;generalize hRR:rot b r=R at *;rcases h.bat with ⟨s,hs,hsn⟩|⟨rfl,hno⟩
 ·-- the round comes by nothing
  obtain⟨hb,hs'⟩:=Qg.mp hs;obtain⟨R',rfl⟩:∃R',R=s::R':=by refine⟨r.drop (b+1)++r.take b,?_⟩;rw[←hRR];unfold rot;rw[Jd hb,hs'];rfl
  obtain⟨rfl,hP'⟩:y=s.a/\Path (Yv cs f qs ws) s.b R' y:=⟨hP.head,hP.step.2⟩
  rw[Qx,JN]at nd;have hR':∀t∈R',IsSt cs f qs ws t:=λt ht=>hR t (Qj _ ht);have ha':∀t∈R',t.a≠cs.length:=λt ht e=>nd.1 (Qr.mpr ⟨t,ht,by rw[e,hsn]⟩)
  have pc:=O8 hp hd R' s.b s.a hP' hR' nd.2 ha'
  have hf:∀t,R'.head?=some t->t.a=s.b:=λt ht=>by
   cases R' with
   |nil=>cases ht
   |cons t' R'=>cases ht;exact hP'.head.symm
  have hnil:R'=[]->s.b=s.a:=λe=>by subst e;generalize s.b=q at hP';generalize s.a=q2 at hP';cases hP';rfl
  have un:Zl cs.length cs.length=none:=Qp rfl;cases hR s Qk with
  |@mv i o o' hw hne' hq=>
   have e:((⟨plF cs.length o,plF cs.length o',Kg f i o'-Kg f i o,some i⟩:Stp)::R').filterMap (Yh cs.length)=(i,o')::R'.filterMap (Yh cs.length):=by
    show(i,Zl cs.length (plF cs.length o'))::_=_
    rw[Wn hp hq]
   rw[e]at hne mvW⊢
   have P:=Rr.cons hp hq ha' hf (by
    cases R' with
    |nil=>right;exact hnil rfl
    |cons _ _=>left;exact List.cons_ne_nil _ _) pc (λhm=>by obtain⟨p,hpm,e1⟩:=Qr.mp hm;obtain⟨t,ht,hw',o2,ho2,_,_,ea⟩:=O9 hp hR' hpm;rw[e1,hw]at ho2;cases ho2;exact nd.1 (Qr.mpr ⟨t,ht,ea⟩)) (λhne' z=>hne' (by rw[z];rfl))
   refine⟨hne,mvW,P.nd,P.lnk,λp q _ hq'=>?_⟩;have hsn:plF cs.length o=cs.length:=hsn;rcases P.fin q hq' with e|⟨_,t,e,hl⟩
   ·exact .inl (by rw[e,hsn,un])
   ·exact .inr (.inr ⟨t,e,hl⟩)
  |@left t c h1 h2=>have:=(Qg.mp h1).1;have hsn:t=cs.length:=hsn;omega
  |@give t ht=>
   have e:((⟨cs.length,t,0,none⟩:Stp)::R').filterMap (Yh cs.length)=R'.filterMap (Yh cs.length):=rfl;rw[e]at hne mvW⊢;rcases pc with ⟨z,_⟩|⟨_,P⟩
   ·exact absurd z hne
   ·refine⟨hne,mvW,P.nd,P.lnk,λp q _ hq'=>?_⟩;rcases P.fin q hq' with e|⟨_,t,e,hl⟩
    ·exact .inl (by rw[e];exact un)
    ·exact .inr (.inr ⟨t,e,hl⟩)
 ·-- no step is from nothing
  have ha:∀t∈R,t.a≠cs.length:=λt ht=>hno t (pr.mem_iff.mp ht);have pc:=O8 hp hd R y y hP hR nd ha
  have hy:y≠cs.length:=by
   cases R with
   |nil=>exact absurd rfl hne
   |cons t R=>rw[hP.head];exact ha _ Qk
  rcases pc with ⟨z,_⟩|⟨⟨p0,hp0,hw0⟩,P⟩
  ·exact absurd z hne
  ·refine⟨hne,mvW,P.nd,P.lnk,λp q hp' hq'=>?_⟩;rw[hp0]at hp';cases hp';rcases P.fin q hq' with e|⟨e,_⟩
   ·exact .inr (.inl (by rw[hw0,e]))
   ·exact absurd e hy
end
section
variable{cs:List Int}{ls:L3}{ws:LO}{o:Ord}{old:Option LO}{ts:List Int}
theorem kS(g:Good cs ls)(dl:Deal cs ls ws):YS [U7 cs ls,Ke ws]=some (.bool true):=by
 refine KY (Z:=[some (.pub (U7 cs ls)),some (.pub (Ke ws)),none,none]) rfl ?_;unfold WJ;have l7:=g.l7;have hl:=dl.len;have hll:Ka [.list (ls.map KH)]=some (.int ls.length):=by rw[K6,Qb]
 have hul:Ka [Ke ws]=some (.int ws.length):=by unfold Ke;rw[K6,Qb]
 have hne:oNe (.int ws.length) (.int ls.length)=some false:=by rw[XY,hl];simp
 apply Kq;apply Ks
 case h1=>exact ZC (ZN (ZY (Kv (k:=λd=>UA (Kr d "list")) (x:=Ke ws) (UN rfl)))) (U2 (Zh rfl hul) (Zc (UR (Kh rfl UT Xg) UV) hll) hne)
 case h2=>intro h;cases h
 case h3=>
  intro _;refine Kx (Kl ?_);apply Kq;apply Zw (λi Z=>∃x2 x3,Z=[some (.pub (U7 cs ls)),some (.pub (Ke ws)),x2,x3])
  case h1=>exact Xe (UR (UN rfl) UV) Xn
  case h0=>exact⟨_,_,rfl⟩
  case hst=>
   rintro i d Z hi ⟨x2,x3,rfl⟩;obtain⟨z,hz,rfl⟩:=YV hi;rw[Qe]at hz;cases hwi:ws[i]? with
   |none=>rw[hwi]at hz;cases hz
   |some o=>
   rw[hwi]at hz;cases hz;have hil:i<ls.length:=by have:=(Qg.mp hwi).1;omega
   have hls:ls[i]?=some ls[i]:=Qf hil;rw[QX];refine⟨_,KB rfl (U4 (UW (Qa rfl) rfl) (U4 (UW (Qa rfl) rfl) KD)),?_⟩;unfold OF;cases o with
   |none=>
    apply Kq;apply Ks
    case h1=>exact V2 (Kv (k:=λd=>!isNon d) (x:=PyData.none) (UN rfl))
    case h2=>intro h;cases h
    case h3=>
     intro _;refine Kx (Kl ?_);apply Ks
     case h1=>exact V2 (Kv (k:=λd=>!isNon d) (x:=PyData.none) (UN rfl))
     case h2=>intro h;cases h
     case h3=>exact λ_=>Kx (K4 ⟨_,_,rfl⟩)
   |some t=>
    have htm:=dl.wish i t _ hwi hls;have gr:=g.rk ls[i] (Qn hls);have ht:=gr.flat t htm;have hfl:(ls[i]).flatten.length<64:=by have:=WB cs.length _ gr.once gr.flat;have:=g.c6;omega
    apply Kq;apply Ks
    case h1=>exact V1 (Kv (k:=λd=>!isNon d) (x:=int t) (UN rfl)) (ZC (ZN (ZY (Ki (UR (UN rfl) UV) rfl (PZ t)))) (Zu rfl (Ki (UR (UN rfl) (UR (UN rfl) UV)) rfl (Rg hls hfl)) HV))
    case h2=>intro h;simp[htm]at h
    case h3=>
     intro _;refine Kx (Kl ?_);apply Ks
     case h1=>exact V1 (Kv (k:=λd=>!isNon d) (x:=int t) (UN rfl)) (U2 (Px (UN rfl) (UR (UN rfl) UV) PY) (U2 (Kh rfl UT Xh) (UN rfl) (ix_c ht.1 ht.2)) rfl)
     case h2=>
      intro h;have h:=Qa h;obtain⟨k,rfl⟩:∃k:Nat,t=k:=⟨t.toNat,by omega⟩
      have hc:=dl.cop k (cs.getD k 0) (by rw[Qo,Qf (show k<cs.length by omega)];rfl);rw[Qt]at h;omega
     case h3=>exact λ_=>Kx (K4 ⟨_,_,rfl⟩)
  case hend=>rintro Z ⟨x2,x3,rfl⟩;exact Kl (Ku UT rfl)
theorem Nh(h:ZW cs (U1 0 ls) ls.length ws):Deal cs ls ws where
 len:=h.len
 wish:=λi t rs hw hrs=>by
  obtain⟨i',rs',h1,h2,h3⟩:=Wl (h.wish i t hw);have h2:(i:Int)=((0+i':Nat):Int):=h2;have hii:i=i':=by omega
  subst hii;rw[hrs]at h1;cases h1;exact h3
 cop:=h.cop
theorem Pp(ls:L3):∀(ws:LO)(l2:L3)(k:Nat),(∀(j:Nat) rs,l2[j]?=some rs->ls.getD (k+j) []=rs)->ws.length=l2.length->KO (U0 (U8 ls o old ts)) k ws=YA (Y3 (Zj ls o old ts) k l2 ws)
 |[],[],_,_,_=>rfl
 |[],_::_,_,_,h=>by cases h
 |_::_,[],_,_,h=>by cases h
 |x::ws,rs::l2,k,hj,hl=>by
  have ih:=Pp ls ws l2 (k+1) (λj r h=>by rw[show k+1+j=k+(j+1)by omega];exact hj (j+1) r h) (by simpa using hl);show Kg _ k x+KO _ (k+1) ws=YA (x.map (Zj ls o old ts k rs)::Y3 _ (k+1) l2 ws);rw[HL,ih]
  congr 1
  cases x with
  |none=>rfl
  |some t=>show U8 ls o old ts (k:Int) t=Zj ls o old ts k rs t;unfold U8;rw[Qt,show ls.getD k []=rs from hj 0 rs rfl]
theorem MF{M:Int}(h0:0<=M):∀(w:List Stp),(∀s∈w,s.g<=M)->Km w<=w.length*M
 |[],_=>by show(0:Int)<=0*M;omega
 |s::w,h=>by
  have ih:=MF h0 w λx hx=>h x (Qj _ hx);have h1:=h s Qk
  show(List.sum (s.g::w.map Stp.g))<=((w.length+1:Nat):Int)*M
  rw[Ue,Int.natCast_add,Int.add_mul];have:(w.map Stp.g).sum=Km w:=rfl;omega
theorem Hb(g:Good cs ls)(ga:Yx cs.length ls.length old ts){i:Nat}{x:Option Int}(h:∀t,x=some t->((i:Int),t)∈U1 0 ls):0<=Kg (U0 (U8 ls o old ts)) i x/\Kg (U0 (U8 ls o old ts)) i x<18446744073709551616:=by
 cases x with
 |none=>exact⟨QZ 0,by show(0:Int)<_;omega⟩
 |some t=>exact Nb g ga (h t rfl)
theorem E4(g:Good cs ls)(ga:Yx cs.length ls.length old ts)(hd:ZW cs (U1 0 ls) ls.length ws){s:Stp}(h:IsSt cs (U0 (U8 ls o old ts)) (U1 0 ls) ws s):s.g<=18446744073709551616:=by
 cases h with
 |@mv i x x' h hne hq=>
  have h1:=Hb (o:=o) g ga hq;have h2:=Hb (o:=o) g ga (i:=i) (x:=x) λt e=>hd.wish i t (by rw[h,e])
  show _-_<=_;omega
 |left h hl=>show(0:Int)<=_;omega
 |give h=>show(0:Int)<=_;omega
theorem Au(g:Good cs ls)(ga:Yx cs.length ls.length old ts)(hd:ZW cs (U1 0 ls) ls.length ws)(p:Nat):0<=prW cs (U0 (U8 ls o old ts)) (U1 0 ls) ws p/\prW cs (U0 (U8 ls o old ts)) (U1 0 ls) ws p<=7*18446744073709551616:=by
 have hp:=PU g;have hS:∀s∈Yv cs (U0 (U8 ls o old ts)) (U1 0 ls) ws,s.a<cs.length+1/\s.b<cs.length+1:=λs hs=>(V5 hp hd s hs).lt hp hd;have c6:=g.c6;constructor
 ·have:=Nj hS (JH (cs.length+1)) p;rw[Rm hS]at this;exact this
 ·obtain⟨hw,hg⟩:=Rf hS (cs.length+1) p;have hlen:=(RW hS (cs.length+1)).1 p;obtain⟨q,hpath⟩:=hw.path;have:=MF (M:=18446744073709551616) (by decide) _ λs hs=>E4 g ga hd (V5 hp hd s (hpath.mem s hs))
  unfold prW;rw[←hg];omega
theorem Ha(g:Good cs ls)(ga:Yx cs.length ls.length old ts){P:Nat->Int}(h0:∀p,0<=P p)(i:Int):∀(qs:LP),(∀q∈qs,q∈U1 0 ls)->∀a:Int,0<=a->a<=18446744073709551616->0<=qs.foldl (λa q=>if q.1=i then max a (U0 (U8 ls o old ts) q-P q.2.toNat)else a) a/\qs.foldl (λa q=>if q.1=i then max a (U0 (U8 ls o old ts) q-P q.2.toNat)else a) a<=18446744073709551616
 |[],_,a,h1,h2=>⟨h1,h2⟩
 |q::qs,hq,a,h1,h2=>by have hb:=Nb (o:=o) g ga (hq q Qk);have hb:U0 (U8 ls o old ts) q<18446744073709551616:=hb.2;have hp:=h0 q.2.toNat;rw[JO];refine Ha g ga h0 i qs (λx hx=>hq x (Qj _ hx)) _ ?_ ?_<;>split<;>omega
theorem L9{n:Nat}{xs:List Int}(hl:xs.length=n)(hn:n<=1000):X7 [.list (xs.map int),.int n]=some (.bool true):=by
 refine KY (Z:=[some (.pub (.list (xs.map int))),some (.pub (.int n))]) rfl ?_;unfold Tx;have hne:oNe (.int (xs.map int).length) (.int n)=some false:=by rw[XY,List.length_map,hl];simp
 apply Kq;refine Ks (b:=false) (Z1:=[some (.pub (.list (xs.map int))),some (.pub (.int n))]) (ZC (ZN (ZY (Kv (k:=λd=>UA (Kr d "list")) (x:=Uz (xs.map int)) (UN rfl)))) (U2 (Zh rfl K6) (UN rfl) hne)) (λz=>by cases z) λ_=>Kx (Kl ?_)
 have hc:K2 (gN 2) (UQ true) (UX 1 ZL (UO (UI 2) (UM))) (xs.map int) (Kn [some (.pub (.list (xs.map int))),some (.pub (.int n))]++Uy 1 none) []=some ([]++(xs.map λ_=>true).map UA):=by
  refine YX (λZ=>∃x,Z=[some (.pub (.list (xs.map int))),some (.pub (.int n)),x]) _ _ _ _ (by rw[Qb,Qb,Qb]) ?_ ⟨none,rfl⟩ (by rw[QB,Qb];omega);rintro i d e hd he Z ⟨x,rfl⟩;rw[Qe]at hd he;rw[Qe]at he;cases hx:xs[i]? with
  |none=>rw[hx]at hd;cases hd
  |some t=>
  rw[hx]at hd he;cases hd;cases he;exact⟨_,UW (Qa rfl) rfl,rfl,Ki (UR (UN rfl) UV) rfl (PZ t),_,rfl⟩
 refine Ku (Zc (UR (Kv (Z7 (Zp (UN rfl) ZX) hc)) UV) MI) ?_;have:xs.all (id ∘ λ_=>true)=true:=Q3.mpr λ_ _=>rfl
 rw[List.all_map,this]
theorem E3{V:Int->Int->Int}{qs:LP}{as ps:List Int}(g:Good cs ls)(hq:∀q∈qs,(0<=q.1/\q.1<ls.length)/\0<=q.2/\q.2<cs.length)(hV:∀q∈qs,0<=V q.1 q.2/\V q.1 q.2<18446744073709551616)(ok:OkP cs.length ls.length V qs 1 as ps):WY [U7 cs ls,wtD V qs,KQ 1 as ps]=some (.bool true):=by
 refine KY (Z:=[some (.pub (U7 cs ls)),some (.pub (wtD V qs)),some (.pub (KQ 1 as ps)),none,none]) rfl ?_;unfold Ts;have l1:=g.l1;have c6:=g.c6;have l7:=g.l7;have hal:=ok.la;have hpl:=ok.lp;have i0:oIx (KQ 1 as ps) (.int 0)=some (.int 1):=KW (j:=0) rfl;have i1:oIx (KQ 1 as ps) (.int 1)=some (.list (as.map int)):=KW (j:=1) rfl;have i2:oIx (KQ 1 as ps) (.int 2)=some (.list (ps.map int)):=KW (j:=2) rfl;have hll:Ka [.list (ls.map KH)]=some (.int ls.length):=by rw[K6,Qb]
 have hlc:Ka [.list (cs.map int)]=some (.int cs.length):=by rw[K6,Qb]
 apply Kq;refine Ks (b:=false) (Z1:=[some (.pub (U7 cs ls)),some (.pub (wtD V qs)),some (.pub (KQ 1 as ps)),none,none]) (ZC (ZN (ZY (Kv (k:=λd=>UA (Kr d "tuple")) (x:=KQ 1 as ps) (UN rfl)))) (U2 (Zh rfl Bf) UT (by rw[XY];rfl))) (λz=>by cases z) λ_=>Kx (Kl ?_)
 apply Kq;refine Ks (b:=false) (Z1:=[some (.pub (U7 cs ls)),some (.pub (wtD V qs)),some (.pub (KQ 1 as ps)),none,none]) (ZC (ZN (ZY (Ki (UR (Kh rfl UT i0) UV) rfl (PZ 1)))) (U2 (Kh rfl UT i0) UT rfl)) (λz=>by cases z) λ_=>Kx (Kl ?_)
 apply Kq;refine Ks (b:=false) (Z1:=[some (.pub (U7 cs ls)),some (.pub (wtD V qs)),some (.pub (KQ 1 as ps)),none,none]) (ZC (ZN (ZY (Ki (UR (Kh rfl UT i1) (UR (Zc (UR (Kh rfl UT Xg) UV) hll) UV)) rfl (L9 hal (by omega))))) (ZN (ZY (Ki (UR (Kh rfl UT i2) (UR (Zc (UR (Kh rfl UT Xh) UV) hlc) UV)) rfl (L9 hpl (by omega)))))) (λz=>by cases z) λ_=>Kx (Kl ?_)
 have hadd:U3 (.list (as.map int)) (.list (ps.map int))=some (.list ((as++ps).map int)):=by rw[QC];exact Xo (by rw[Qb,Qb];omega)
 have hne:0<(as++ps).length:=by rw[Ql];omega
 have hmin:0<=YT (as++ps):=by
  rcases QR.mp (Nm hne)with h|h
  ·exact ok.aa _ h
  ·exact ok.pp _ h
 have hlt:oIB (λi j=>decide (i<j)) (.int (YT (as++ps))) (.int 0)=some false:=by show some (decide (YT (as++ps)<0))=_;rw[QI (by omega)]
 apply Kq;refine Ks (b:=false) (Z1:=[some (.pub (U7 cs ls)),some (.pub (wtD V qs)),some (.pub (KQ 1 as ps)),none,none]) (U2 (Zc (UR (U2 (Kh rfl UT i1) (Kh rfl UT i2) hadd) UV) (BJ hne)) UT hlt) (λz=>by cases z) λ_=>Kx (Kl ?_)
 apply Kq;apply Zw (λj Z=>∃x y,Z=[some (.pub (U7 cs ls)),some (.pub (wtD V qs)),some (.pub (KQ 1 as ps)),x,y])
 case h1=>exact Cq (UN rfl) Cr
 case h0=>exact⟨none,none,rfl⟩
 case hst=>
  rintro j d Z hj ⟨x,y,rfl⟩;rw[Qe]at hj;cases hz:qs[j]? with
  |none=>rw[hz]at hj;cases hj
  |some q=>
  rw[hz]at hj;cases hj;have hqm:=Qn hz;have hin:=hq q hqm;have hv:=hV q hqm;have hle:=ok.le q hqm;have hcmp:oIB (λi j=>decide (i<j)) (.int (as.getD q.1.toNat 0+ps.getD q.2.toNat 0)) (.int (1*V q.1 q.2))=some false:=by show some (decide (_<1*V q.1 q.2))=_;rw[QI (by omega)]
  refine⟨_,KB rfl (U4 (UW (Qa rfl) rfl) (U4 (UW (Qa rfl) rfl) KD)),?_⟩;unfold M4;exact Ks (b:=false) (Z1:=[some (.pub (U7 cs ls)),some (.pub (wtD V qs)),some (.pub (KQ 1 as ps)),some (.pub (.int q.1)),some (.pub (.int q.2))]) (U2 (U2 (U2 (Kh rfl UT i1) (UN rfl) (Mz hin.1.1 (by omega))) (U2 (Kh rfl UT i2) (UN rfl) (Mz hin.2.1 (by omega))) KZ) (U2 (Kh rfl UT i0) (U2 (UN rfl) (Yz (UR (UN rfl) (UR (UN rfl) UV)) (Qa rfl)) (Mr hqm)) (XX (by omega) (by omega))) hcmp) (λz=>by cases z) λ_=>Kx (K4 ⟨_,_,rfl⟩)
 case hend=>rintro Z ⟨x,y,rfl⟩;exact Kl (Ku UT rfl)
end
section
variable{cs:List Int}{ls:L3}{ws:LO}
theorem jF(g:Good cs ls):WW [U7 cs ls,Ke ws]=some (.list ((Yq cs ws).map int)):=by
 refine KY (Z:=[some (.pub (U7 cs ls)),some (.pub (Ke ws))]) rfl ?_;unfold Tq;have c6:=g.c6;have hlc:Ka [.list (cs.map int)]=some (.int cs.length):=by rw[K6,Qb]
 have hc:K2 (gN 2) (UQ true) (UP KR (UP oIx (UU 0 (UQ (.int 0))) (UI 2)) (VE (UI 1) (UO (UI 2) (UM)))) (ZU 0 cs.length) (Kn [some (.pub (U7 cs ls)),some (.pub (Ke ws))]++Uy 1 none) []=some ((Yq cs ws).map int):=by
  refine YX (λZ=>∃x,Z=[some (.pub (U7 cs ls)),some (.pub (Ke ws)),x]) _ _ _ _ (by rw[Qb,Yq,Qb,Qu,Xf];omega) ?_ ⟨none,rfl⟩ (by rw[Xf,QB];omega);rintro j d e hj he Z ⟨x,rfl⟩;obtain⟨rfl,hjl⟩:=Wk hj;have hj':j<cs.length:=by omega
  rw[JV];have he':e=.int (cs[j]-((ws.count (some (j:Int)):Nat):Int)):=by unfold Yq at he;rw[QY,Qe,QU hj']at he;cases he;show int (cs.getD j 0-_)=_;rw[Qo,Qf hj'];rfl
  subst he';have hix:oIx (.list (cs.map int)) (.int (j:Int))=some (.int cs[j]):=KW (by rw[Qe,Qf hj'];rfl);exact⟨_,UW (Qa rfl) rfl,rfl,U2 (U2 (Kh rfl UT Xh) (UN rfl) hix) (Px (UN rfl) (UR (UN rfl) UV) PY) Yy,_,rfl⟩
 exact Ku (Kv (Z7 (XZ (UR (Zc (UR (Kh rfl UT Xh) UV) hlc) UV) (XV (by omega) (by omega))) hc)) rfl
theorem jj{tk:List (Nat×Option Int)}(h:∀p∈tk,p.1<ws.length):WU [Ke ws,.list (tk.map Ky)]=some (Ke (tk.foldl (λd p=>d.set p.1 p.2) ws)):=by
 refine KY (Z:=[some (.pub (Ke ws)),some (.pub (.list (tk.map Ky))),none,none,none]) rfl ?_;unfold To;refine Kj (Z6 (Rj rfl (show YK [Ke ws]=some (ws.map U5)from rfl)) (Qa rfl) rfl) ?_
 have hlen:∀(R:List (Nat×Option Int))(d:LO),(R.foldl (λd p=>d.set p.1 p.2) d).length=d.length:=λR=>by
  induction R with
  |nil=>intro d;rfl
  |cons p R ih=>intro d;rw[JO,ih,QS]
 apply Kq;apply Zw (λk Z=>∃x3 x4,Z=[some (.pub (Ke ws)),some (.pub (.list (tk.map Ky))),some (.own (((tk.take k).foldl (λd p=>d.set p.1 p.2) ws).map U5)),x3,x4])
 case h1=>exact Zp (UN rfl) ZX
 case h0=>exact⟨_,_,rfl⟩
 case hst=>
  rintro k d Z hk ⟨x3,x4,rfl⟩;rw[Qe]at hk;cases hq:tk[k]? with
  |none=>rw[hq]at hk;cases hk
  |some p=>
  rw[hq]at hk;cases hk;have hpl:=h p (Qn hq);have hta:tk.take (k+1)=tk.take k++[p]:=by rw[JJ,hq];rfl
  refine⟨_,KB rfl (U4 (UW (Qa rfl) rfl) (U4 (UW (Qa rfl) rfl) KD)),?_⟩;unfold M6;refine Zv (VI (UN rfl) rfl (UN rfl) rfl ⟨Int.natCast_nonneg _,by rw[Qb,hlen];omega⟩ rfl) (K4 ⟨some (.pub (.int (p.1:Nat))),some (.pub (U5 p.2)),?_⟩);rw[hta,List.foldl_append];show [_,_,some (Sl.own ((((tk.take k).foldl (λd p=>d.set p.1 p.2) ws).map U5).set ((p.1:Int)).toNat (U5 p.2))),_,_]=[_,_,some (Sl.own ((((tk.take k).foldl (λd p=>d.set p.1 p.2) ws).set p.1 p.2).map U5)),_,_];rw[Qt,List.map_set]
 case hend=>rintro Z ⟨x3,x4,rfl⟩;refine Kl (Ku (Yj rfl rfl) ?_);rw[Qb,Jz];rfl
theorem BU(g:Good cs ls)(hd:ZW cs (U1 0 ls) ls.length ws){W:List (Nat×Option Int)}(hW:WayQ cs (U1 0 ls) ws W):WV [U7 cs ls,Ke ws,.list (W.map Ky)]=some (.bool true):=by
 have l7:=g.l7;have hl:=hd.len
 let S0:Option Sl:=some (.pub (U7 cs ls))
 let S1:Option Sl:=some (.pub (Ke ws))
 let S2:Option Sl:=some (.pub (.list (W.map Ky)))
 refine KY (Z:=[S0,S1,S2,none,none,none,none,none]) rfl ?_;unfold Tp
 have hWl:W.length<=7:=by
  have h1:=WB ws.length (W.map λp=>((p.1:Nat):Int)) (by
   have e:(W.map λp=>((p.1:Nat):Int))=(W.map Prod.fst).map λn:Nat=>(n:Int):=by rw[QY];rfl
   rw[e];exact List.Pairwise.map _ (λa b h e=>h (by omega)) hW.nd) (λa ha=>by
   obtain⟨p,hp,rfl⟩:=Qr.mp ha;obtain⟨o,ho,_⟩:=hW.mv p hp;have:=(Qg.mp ho).1
   omega)
  rw[Qb]at h1;omega
 have hlen1:Ka [Ke ws]=some (.int ws.length):=by unfold Ke;rw[K6,Qb]
 have hlen2:Ka [.list (W.map Ky)]=some (.int W.length):=by rw[K6,Qb]
 apply Kq
 refine Ks (b:=false) (Z1:=[S0,S1,S2,none,none,none,none,none]) (ZC (XB (UN rfl) rfl) (Zu rfl (ZE UV (Qa rfl)) (by
  rw[D1];cases hW':W with
  |nil=>exact absurd hW' hW.ne
  |cons x r=>rfl))) (λz=>by cases z) λ_=>Kx (Kl ?_)
 apply Kq;apply Zw (λ_ Z=>∃x3 x4 x5 x6,Z=[S0,S1,S2,x3,x4,x5,x6,none])
 case h1=>exact Xe (UR (UN rfl) UV) Xn
 case h0=>exact⟨_,_,_,_,rfl⟩
 case hst=>
  rintro k d Z hk ⟨x3,x4,x5,x6,rfl⟩;obtain⟨x,hx,rfl⟩:=YV hk;rw[QX];rw[Qe]at hx;cases hp:W[k]? with
  |none=>rw[hp]at hx;cases hx
  |some p=>
  rw[hp]at hx;cases hx;obtain⟨o,ho,hne,hq⟩:=hW.mv p (Qn hp);obtain⟨hpl,hpo⟩:=Qg.mp ho;have hkl:k<W.length:=(Qg.mp hp).1;refine⟨_,KB rfl (U4 (UW (Qa rfl) rfl) (U4 (UW (Qa rfl) rfl) KD)),?_⟩;unfold M5
  let S3:Option Sl:=some (.pub (.int (k:Nat)))
  let S4:Option Sl:=some (.pub (Ky p))
  let S5:Option Sl:=some (.pub (.int (p.1:Nat)))
  let S6:Option Sl:=some (.pub (U5 p.2))
  have t0:oIx (Ky p) (.int 0)=some (.int (p.1:Nat)):=rfl;have t1:oIx (Ky p) (.int 1)=some (U5 p.2):=rfl;apply Kq;refine Ks (b:=false) (Z1:=[S0,S1,S2,S3,S4,x5,x6,none]) (ZC (XB (UN rfl) rfl) (ZC (U2 (Zh rfl (show Ka [Ky p]=some (.int 2)from rfl)) UT (by rw[XY];rfl)) (ZN (ZY (t:=true) (Ki (UR (Kh rfl UT t0) UV) rfl (Go _)))))) (λz=>by cases z) λ_=>Kx (Kl ?_)
  refine Kj (Z1:=[S0,S1,S2,S3,S4,S5,S6,none]) (VD (UN rfl) (KB rfl (U4 (UW (Qa rfl) rfl) (U4 (UW (Qa rfl) rfl) KD)))) ?_
  let R:UJ:=[S0,S1,S2,S3,S4,S5,S6,none]
  have hcut:DL.cutD (W.map Ky) none (some ((k:Nat):Int))=(W.take k).map Ky:=by rw[Co (by rw[Qb];omega),Uk]
  have hcp:K2 (gN 8) (UQ true) (UU 8 (UQ (.int 0))) ((W.take k).map Ky) (Kn R++Uy 1 none) []=some (((W.take k).map λp=>((p.1:Nat):Int)).map int):=by
   refine YX (λZ=>∃x,Z=R++[x]) _ _ _ _ (by rw[Qb,Qb,Qb]) ?_ ⟨none,rfl⟩ (by rw[Qb,QN,QB];omega);rintro j d e hj he Z ⟨x,rfl⟩;rw[Qe]at hj he;rw[Qe]at he;cases hqj:(W.take k)[j]? with
   |none=>rw[hqj]at hj;cases hj
   |some q=>
   rw[hqj]at hj he;cases hj;cases he;exact⟨_,UW (Qa rfl) rfl,rfl,Kh rfl UT (show oIx (Ky q) (.int 0)=some (.int (q.1:Nat))from rfl),_,rfl⟩
  have hnot:((W.take k).map λp=>((p.1:Nat):Int)).contains ((p.1:Nat):Int)=false:=by
   rw[Bool.eq_false_iff];intro hc;have hm:((p.1:Nat):Int)∈(W.take k).map λp=>((p.1:Nat):Int):=by simpa using hc
   obtain⟨q,hq1,e⟩:=Qr.mp hm;have e:q.1=p.1:=by omega
   obtain⟨j,hj⟩:=List.mem_iff_getElem?.mp hq1;have hjk:j<k:=by have:=(Qg.mp hj).1;rw[QN]at this;omega
   rw[List.getElem?_take_of_lt hjk]at hj;have nd:=hW.nd;have h1:(W.map Prod.fst)[j]?=some p.1:=by rw[Qe,hj,←e];rfl
   have h2:(W.map Prod.fst)[k]?=some p.1:=by rw[Qe,hp];rfl
   obtain⟨l1,e1⟩:=Qg.mp h1;obtain⟨l2,e2⟩:=Qg.mp h2;have:=(List.getElem_inj nd).mp (e1.trans e2.symm);omega
  apply Kq;refine Ks (b:=false) (Z1:=R) (ZC (Zu rfl UT (by rw[RM,QI (by omega)])) (ZC (Zu rfl (Zh rfl hlen1) (by rw[RM,QI (by omega)])) (Zu rfl (Kv (Z7 (Zp (Wp (UN rfl) UT (Y0 (UN rfl)) WD) ZX) (by rw[hcut];exact hcp))) (by rw[SY,hnot])))) (λz=>by cases z) λ_=>Kx (Kl ?_)
  have hix1:oIx (Ke ws) (.int ((p.1:Nat):Int))=some (U5 o):=KW (by rw[Qe,ho];rfl)
  have hlast:p.2=none->¬((k:Int)+1<W.length):=λe hlt=>by
   have hk1:k+1<W.length:=by omega
   exact(hW.lnk k p W[k+1] hp (Qf hk1)).1 e
  apply Kq;refine Ks (b:=false) (Z1:=R) (ZC ?_ (Zu rfl (Kh rfl (UN rfl) hix1) (by rw[RN,QI hne]))) (λz=>by cases z) λ_=>Kx (Kl ?_)
  ·cases h2:p.2 with
   |none=>exact V1 (Kv (k:=isNon) (x:=U5 p.2) (UN rfl) |>.trans (by rw[h2];rfl)) (U2 (U2 (UN rfl) UT KZ) (Zh rfl hlen2) (by rw[RM,QI (hlast h2)]))
   |some t=>exact V2 (Kv (k:=isNon) (x:=U5 p.2) (UN rfl) |>.trans (by rw[h2];rfl))
  have nn:UZ (λd=>!isNon d) (UI 6) R=.ok (!isNon (U5 p.2)) R:=P3 (UN rfl) rfl;apply Kq;refine Ks (b:=false) (Z1:=R) (On nn (λz=>?_) λ_=>rfl) (λz=>by cases z) λ_=>Kx (Kl ?_)
  ·cases h2:p.2 with
   |none=>rw[h2]at z;cases z
   |some t=>exact ZN (ZY (t:=true) (Ki (UR (UN rfl) UV) rfl (by rw[h2];exact Go t)))
  apply Kq;refine Ks (b:=false) (Z1:=R) (On nn (λz=>?_) λ_=>rfl) (λz=>by cases z) λ_=>Kx (Kl ?_)
  ·cases h2:p.2 with
   |none=>rw[h2]at z;cases z
   |some t=>
    obtain⟨i,rs,hi,e1,e2⟩:=Wl (hq t h2);have e1:p.1=i:=by have:((p.1:Nat):Int)=((0+i:Nat):Int):=e1;omega
    subst e1;have hfl:rs.flatten.length<64:=by have:=Rn (g.rk rs (Qn hi));have:=g.c6;omega
    exact Zu rfl (Ki (UR (UN rfl) (UR (UN rfl) UV)) rfl (Rg hi hfl)) (by
     rw[h2];show Yk (.int t) _=_;have h:=SY (t:=t) (r:=Ze rs.flatten);have hm:(Ze rs.flatten).contains t=true:=by simpa using(YY rs.flatten).mem_iff.mpr e2
     rw[hm]at h;unfold Yk;rw[h];rfl)
  refine Ks (b:=false) (Z1:=R) (On (t:=decide ((0:Int)<k)) (Zu rfl UT rfl) (λz=>?_) λ_=>rfl) (λz=>by cases z) λ_=>Kx (K4 ⟨_,_,_,_,rfl⟩)
  have hk0:0<k:=by have:=Qa z;omega
  obtain⟨j,rfl⟩:∃j,k=j+1:=⟨k-1,by omega⟩
  have hj:j<W.length:=by omega
  obtain⟨_,hlk⟩:=hW.lnk j W[j] p (Qf hj) hp;rw[ho]at hlk;have hlk:=QT hlk
  have hixj:oIx (.list (W.map Ky)) (.int (((j+1:Nat):Int)-1))=some (Ky W[j]):=by
   have e:(((j+1:Nat):Int)-1)=((j:Nat):Int):=by omega
   rw[e];exact KW (by rw[Qe,Qf hj];rfl)
  exact U2 (Kh rfl (UN rfl) hix1) (U2 (Kh rfl (U2 (UN rfl) UT Yy) hixj) UT (show oIx (Ky W[j]) (.int 1)=some (U5 W[j].2)from rfl)) (by rw[NY,Q5 hlk];rfl)
 case hend=>
  rintro Z ⟨x3,x4,x5,x6,rfl⟩;refine Kl ?_
  obtain⟨p0,r0,hW0⟩:∃p r,W=p::r:=by
   cases hW':W with
   |nil=>exact absurd hW' hW.ne
   |cons x r=>exact⟨x,r,rfl⟩
  have hpos:0<W.length:=by rw[hW0,QO];omega
  let q:=W[W.length-1]
  have hq:W[W.length-1]?=some q:=Qf (by omega);have hgl:W.getLast?=some q:=by rw[JM];exact hq
  have hhd:W.head?=some p0:=by rw[hW0];rfl
  have hixq:oIx (.list (W.map Ky)) (.int (-1))=some (Ky q):=OA (by rw[List.getLast?_map,hgl];rfl);have hix0:oIx (.list (W.map Ky)) (.int 0)=some (Ky p0):=KW (j:=0) (by rw[hW0];rfl)
  let S7:Option Sl:=some (.pub (U5 q.2))
  refine Kj (Z1:=[S0,S1,S2,x3,x4,x5,x6,S7]) (KI (U2 (Kh rfl (SV UT) hixq) UT (show oIx (Ky q) (.int 1)=some (U5 q.2)from rfl)) (Qa rfl) rfl) ?_;obtain⟨o0,ho0,_⟩:=hW.mv p0 (by rw[hW0];exact Qk);have hixd:oIx (Ke ws) (.int ((p0.1:Nat):Int))=some (U5 o0):=KW (by rw[Qe,ho0];rfl);have tq:UZ isNon (UI 7) [S0,S1,S2,x3,x4,x5,x6,S7]=.ok (isNon (U5 q.2)) [S0,S1,S2,x3,x4,x5,x6,S7]:=Kv (k:=isNon) (UN rfl);have tw:K5 oEq 7 (UU 1 (UP oIx (UU 2 (UQ (.int 0))) (UQ (.int 0)))) [S0,S1,S2,x3,x4,x5,x6,S7]=.ok (decide (q.2=o0)) [S0,S1,S2,x3,x4,x5,x6,S7]:=Zu rfl (Kh rfl (U2 (Kh rfl UT hix0) UT (show oIx (Ky p0) (.int 0)=some (.int (p0.1:Nat))from rfl)) hixd) RN;apply Kq;refine Ks (FF tq λ_=>tw) (λ_=>Ku UT (XE rfl)) λz=>Kx (Kl ?_);rw[Bool.or_eq_false_iff]at z;rcases hW.fin p0 q hhd hgl with e|e|⟨t,e,c,hc,hlt⟩
  ·rw[e]at z;cases z.1
  ·rw[ho0]at e;have e:=QT e;have:=Jb z.2;exact absurd e.symm this
  ·have htl:=(Qg.mp hc).1
   have hixl:oIx (.list ((Yq cs ws).map int)) (.int ((t:Nat):Int))=some (.int (c-((ws.count (some (t:Int)):Nat):Int))):=KW (by
    unfold Yq;rw[Qe,Qe,QU htl];show some (int (cs.getD t 0-_))=_;rw[Qo,hc]
    rfl)
   refine Ku (Kv (U2 (U2 (Ki (UR (UN rfl) (UR (UN rfl) UV)) rfl (jF g)) (UN rfl) (by rw[e];exact hixl)) UT (by rw[RM,Q5 (by omega)]))) rfl
end
section
variable{cs:List Int}{ls:L3}{o:Ord}{old:Option LO}{ts:List Int}{ws:LO}
theorem BS(du:Deal cs ls ws):ZW cs (U1 0 ls) ls.length ws:=⟨du.len,λi t h=>by
 have hil:i<ls.length:=by have:=(Qg.mp h).1;have:=du.len;omega
 have hrs:ls[i]?=some ls[i]:=Qf hil;have:=OR (k:=0) hrs (du.wish i t _ h hrs);rwa[QX]at this,du.cop⟩
theorem BR(g:Good cs ls)(ga:Yx cs.length ls.length old ts)(hdq:ZW cs (U1 0 ls) ls.length ws)(hst:Oa cs (U0 (U8 ls o old ts)) (U1 0 ls) ws) :
  WT [U7 cs ls,wtD (U8 ls o old ts) (U1 0 ls),Ke ws,KQ 1 (YR ls.length (U0 (U8 ls o old ts)) (prW cs (U0 (U8 ls o old ts)) (U1 0 ls) ws) (U1 0 ls)) ((Ux cs.length).map (prW cs (U0 (U8 ls o old ts)) (U1 0 ls) ws))]=some (.bool true):=by
 have l7:=g.l7;have c6:=g.c6;have l1:=g.l1;have hp:=PU g;obtain⟨ok,hcl⟩:=BV hp hdq (V5 hp hdq) (B0 hp hdq) (V:=prW cs (U0 (U8 ls o old ts)) (U1 0 ls) ws) (λ_=>rfl) hst;have dl:=Nh hdq;rw[Pp ls ws ls 0 (λj rs h=>by rw[QX,Qo,h];rfl) dl.len]at hcl;have hpr:=Au (o:=o) g ga hdq;have rp:∀t∈(Ux cs.length).map (prW cs (U0 (U8 ls o old ts)) (U1 0 ls) ws),0<=t/\t<=200000000000000000000:=λt ht=>by obtain⟨p,_,rfl⟩:=Qr.mp ht;have:=hpr p;omega
 have ra:∀t∈YR ls.length (U0 (U8 ls o old ts)) (prW cs (U0 (U8 ls o old ts)) (U1 0 ls) ws) (U1 0 ls),0<=t/\t<=200000000000000000000:=λt ht=>by obtain⟨p,_,rfl⟩:=Qr.mp ht;have:=Ha (o:=o) g ga (λp=>(hpr p).1) (p:Int) (U1 0 ls) (λq h=>h) 0 (QZ 0) (by decide);unfold ZG;omega
 have la:(YR ls.length (U0 (U8 ls o old ts)) (prW cs (U0 (U8 ls o old ts)) (U1 0 ls) ws) (U1 0 ls)).length=ls.length:=ok.la;have lp:((Ux cs.length).map (prW cs (U0 (U8 ls o old ts)) (U1 0 ls) ws)).length=cs.length:=ok.lp;have ok:OkP cs.length ls.length (U8 ls o old ts) (U1 0 ls) 1 (YR ls.length (U0 (U8 ls o old ts)) (prW cs (U0 (U8 ls o old ts)) (U1 0 ls) ws) (U1 0 ls)) ((Ux cs.length).map (prW cs (U0 (U8 ls o old ts)) (U1 0 ls) ws)):=ok;have hcl:SR cs (YR ls.length (U0 (U8 ls o old ts)) (prW cs (U0 (U8 ls o old ts)) (U1 0 ls) ws) (U1 0 ls)) ((Ux cs.length).map (prW cs (U0 (U8 ls o old ts)) (U1 0 ls) ws))=_:=hcl;generalize YR ls.length (U0 (U8 ls o old ts)) (prW cs (U0 (U8 ls o old ts)) (U1 0 ls) ws) (U1 0 ls)=as at *;generalize (Ux cs.length).map (prW cs (U0 (U8 ls o old ts)) (U1 0 ls) ws)=ps at *;have hix0:oIx (KQ 1 as ps) (.int 0)=some (.int 1):=rfl;have hixa:oIx (KQ 1 as ps) (.int 1)=some (.list (as.map int)):=rfl;have hixp:oIx (KQ 1 as ps) (.int 2)=some (.list (ps.map int)):=rfl;have hadd:U3 (.list (as.map int)) (.list (ps.map int))=some (.list ((as++ps).map int)):=by rw[Xo (by rw[Qb,Qb];omega),QC]
 have hne:0<(as++ps).length:=by rw[Ql];omega
 have hmm:=RS hne
 have hmr:most (as++ps)<=200000000000000000000:=by
  rcases QR.mp hmm with h|h
  ·exact(ra _ h).2
  ·exact(rp _ h).2
 have hcmp:oIB (λi j=>decide (j<=i)) (.int (most (as++ps))) (.int ((10:Int) ^ (40:Int).toNat))=some false:=by
  show some (decide ((10:Int) ^ (40:Int).toNat<=most (as++ps)))=_;rw[QI];have:(200000000000000000000:Int)<(10:Int) ^ (40:Int).toNat:=by decide +kernel
  omega
 refine KY (Z:=[some (.pub (U7 cs ls)),some (.pub (wtD (U8 ls o old ts) (U1 0 ls))),some (.pub (Ke ws)),some (.pub (KQ 1 as ps))]) rfl ?_;unfold Tn;have hlet:=E3 g (MA g) (λq hq=>Nb (o:=o) g ga hq) ok;have heq:oEq (.int (SR cs as ps)) (.int (YA (Y3 (Zj ls o old ts) 0 ls ws)))=some true:=by rw[Xd,hcl];simp
 apply Kq;refine Ks (b:=false) (ZC (ZN (ZY (Ki (UR (UN rfl) (UR (UN rfl) UV)) rfl (kS g dl)))) (ZN (ZY (Ki (UR (UN rfl) (UR (UN rfl) (UR (UN rfl) UV))) rfl hlet)))) (λz=>by cases z) λ_=>Kx (Kl ?_)
 apply Kq
 first
  |refine Ks (b:=false) (ZC (U2 (Kh rfl UT hix0) UT (by rw[XY];rfl)) (U2 (Zc (UR (U2 (Kh rfl UT hixa) (Kh rfl UT hixp) hadd) UV) (O4 hne)) (U2 UT UT (MK ⟨by decide,by decide,by decide⟩)) hcmp)) (λz=>by cases z) λ_=>Kx (Kl ?_)
  |refine Ks (b:=false) (U2 (Kh rfl UT hix0) UT (by rw[XY];rfl)) (λz=>by cases z) λ_=>Kx (Kl ?_)
 exact Ku (Kv (U2 (Ki (UR (UN rfl) (UR (UN rfl) UV)) rfl (jX g)) (Ki (UR (UN rfl) (UR (UN rfl) UV)) rfl (NE g dl)) heq)) rfl
end
section
variable{cs:List Int}{ls:L3}{o:Ord}{old:Option LO}{ts:List Int}{ws:LO}
theorem BQ(g:Good cs ls)(ga:Yx cs.length ls.length old ts)(hdq:ZW cs (U1 0 ls) ls.length ws) :
  ∃d,Xy [U7 cs ls,Kz o old ts,Ke ws]=some d/\X5 [U7 cs ls,wtD (U8 ls o old ts) (U1 0 ls),Ke ws,d]=some (.bool true):=by
 have hp:=PU g;have dl:=Nh hdq;obtain⟨d,hb,h⟩:=jG (o:=o) g ga hdq;refine⟨d,hb,?_⟩
 have first:∀(s:Str)(x:D),Ho (sIf (mOr (Kp (K7 (UZ (λd=>.bool (Kr d "tuple")) (UI 3)))) (mOr (UP oNe (K3 3) (UQ (.int 2))) (Kp (K7 (UZ (λd=>.bool (Kr d "str")) (UU 3 (UQ (.int 0))))))))
   (UY (UQ (.bool false)))
   (sNx)) [some (.pub (U7 cs ls)),some (.pub (wtD (U8 ls o old ts) (U1 0 ls))),some (.pub (Ke ws)),some (.pub (.tuple [.str s,x]))] (λr=>r=.nx [some (.pub (U7 cs ls)),some (.pub (wtD (U8 ls o old ts) (U1 0 ls))),some (.pub (Ke ws)),some (.pub (.tuple [.str s,x]))]):=λs x=>by
  refine Ks (b:=false) (ZC (XB (UN rfl) rfl) (ZC (U2 (Zh rfl (show Ka [.tuple [.str s,x]]=some (.int 2)from rfl)) UT (by rw[XY];rfl)) (XB (Kh rfl UT (show oIx (.tuple [.str s,x]) (.int 0)=some (.str s)from rfl)) rfl))) (λz=>by cases z) λ_=>Kx rfl
 rcases h with ⟨rfl,hst⟩|⟨r,b,rfl,hg⟩
 ·refine KY (Z:=[some (.pub (U7 cs ls)),some (.pub (wtD (U8 ls o old ts) (U1 0 ls))),some (.pub (Ke ws)),some (.pub (.tuple [.str "best", _]))]) rfl ?_;unfold WI;apply Kq;refine Pu (first _ _) λr hr=>?_;subst hr;refine Kl ?_;apply Kq
  exact Ks (b:=true) (U2 (Kh rfl UT (show oIx (.tuple [.str "best", _]) (.int 0)=some (.str "best")from rfl)) UT (by decide +kernel)) (λ_=>Ku (Ki (UR (UN rfl) (UR (UN rfl) (UR (UN rfl) (UR (Kh rfl UT rfl) UV)))) rfl (BR g ga hdq hst)) (XE rfl)) λz=>by cases z
 ·obtain⟨hdq2,htot,hne,hlt⟩:=hg.does hp hdq;have dl2:=Nh hdq2;have hw:=hg.way hp hdq;have hpos:=hg.pos;rw[Pp ls ws ls 0 (λj rs h=>by rw[QX,Qo,h];rfl) dl.len,Pp ls _ ls 0 (λj rs h=>by rw[QX,Qo,h];rfl) dl2.len]at htot;refine KY (Z:=[some (.pub (U7 cs ls)),some (.pub (wtD (U8 ls o old ts) (U1 0 ls))),some (.pub (Ke ws)),some (.pub (.tuple [.str "way", .list ((Zk cs.length b r).map Ky)]))]) rfl ?_;unfold WI;have i1:oIx (.tuple [.str "way", .list ((Zk cs.length b r).map Ky)]) (.int 1)=some (.list ((Zk cs.length b r).map Ky)):=rfl;apply Kq;refine Pu (first _ _) λr hr=>?_;subst hr;refine Kl ?_;apply Kq
  refine Ks (b:=false) (U2 (Kh rfl UT (show oIx (.tuple [.str "way", _]) (.int 0)=some (.str "way")from rfl)) UT (by decide +kernel)) (λz=>by cases z) λ_=>Kx (Kl ?_)
  apply Kq;refine Ks (b:=false) (ZC (U2 (Kh rfl UT (show oIx (.tuple [.str "way", _]) (.int 0)=some (.str "way")from rfl)) UT (by decide +kernel)) (ZN (ZY (Ki (UR (UN rfl) (UR (UN rfl) (UR (Kh rfl UT i1) UV))) rfl (BU g hdq hw))))) (λz=>by cases z) λ_=>Kx (Kl ?_)
  refine Ku (Kv (U2 (r:=true) (Ki (UR (UN rfl) (UR (Ki (UR (UN rfl) (UR (Kh rfl UT i1) UV)) rfl (jj hlt)) UV)) rfl (NE g dl2)) (Ki (UR (UN rfl) (UR (UN rfl) UV)) rfl (NE g dl)) ?_)) rfl;rw[RM,Q5 (by omega)]
theorem BP:∀ns:List Int,ns.length<=63->WS [.list (ns.map int)]=some (.bool true):=by
 intro ns hns;refine KY (Z:=[some (.pub (.list (ns.map int))),none,none,none,none,none,none,none,none,none,none]) rfl ?_;unfold Tl;obtain⟨r,hr,cs,ls,rfl,g⟩:=kt (ns:=ns) (by omega) 1;have l7:=g.l7;have c6:=g.c6;refine Kj (KI (Ki (UR (UN rfl) (UR UT (UR UT (UR UT (UR UT UV))))) rfl hr) (Qa rfl) rfl) ?_;obtain⟨v,hv⟩:=R3 ns 0 (by omega);obtain⟨r,ha,o,old,ts,rfl,ga⟩:=BA g v 5;have hrp:=Bx (o:=o) ga c6 l7;refine Kj (KI (Ki (UR (UN rfl) (UR (Ki (UR (UN rfl) (UR UT UV)) rfl hv) (UR UT UV))) rfl ha) (Qa rfl) rfl) ?_;refine Kj (KI (Ki (UR (UN rfl) (UR (UN rfl) UV)) rfl (kL g ga)) (Qa rfl) rfl) ?_;refine Kj (KI (Ki (UR (UN rfl) UV) rfl (Cu g)) (Qa rfl) rfl) ?_;refine Kj (KI (Zc (UR (UN rfl) UV) hrp) (Qa rfl) rfl) ?_;obtain⟨v3,hv3⟩:=R3 ns 3 (by omega);obtain⟨r,hd0,w0,rfl,dl0⟩:=HY g v3 2;refine Kj (KI (Ki (UR (UN rfl) (UR (Ki (UR (UN rfl) (UR UT UV)) rfl hv3) (UR UT UV))) rfl hd0) (Qa rfl) rfl) ?_
 let S0:Option Sl:=some (.pub (.list (ns.map int)))
 let S1:Option Sl:=some (.pub (U7 cs ls))
 let S2:Option Sl:=some (.pub (Kz o old ts))
 let S3:Option Sl:=some (.pub (wtD (U8 ls o old ts) (U1 0 ls)))
 let S5:Option Sl:=some (.pub (.str (Kz o old ts).shown))
 obtain⟨v2,hv2⟩:=R3 ns 2 (by omega)
 have rest:∀(ws:LO)(y7 y8 y9 y10:Option Sl)(Q:Out->Prop),Deal cs ls ws->(∀y9 y10,Q (.nx [S0,S1,S2,S3,S1,S5,some (.pub (Ke ws)),y7,y8,y9,y10]))->Ho (US (K8 9 (Xl 6))
   (US (U6 10 (UX 3 Xy (UO (UI 4) (UO (UI 2) (UO (UI 9) (UM))))))
   (sIf (mOr (Kp (K7 (UX 4 X5 (UO (UI 1) (UO (UI 3) (UO (UI 6) (UO (UI 10) (UM)))))))) (K5 oNe 9 (UI 6)))
   (UY (UQ (.bool false)))
   (sNx)))) [S0,S1,S2,S3,S1,S5,some (.pub (Ke ws)),y7,y8,y9,y10] Q:=λws y7 y8 y9 y10 Q dl hQ=>by
  obtain⟨d,hb,hr⟩:=BQ (o:=o) g ga (BS dl);refine Kj (Z6 (Rj rfl (show YK [Ke ws]=some (ws.map U5)from rfl)) (Qa rfl) rfl) ?_;refine Kj (KI (Ki (UR (UN rfl) (UR (UN rfl) (UR (Yj rfl rfl) UV))) rfl hb) (Qa rfl) rfl) ?_;exact Ks (b:=false) (ZC (ZN (ZY (Ki (UR (UN rfl) (UR (UN rfl) (UR (UN rfl) (UR (UN rfl) UV)))) rfl hr))) (Zu rfl (UN rfl) (DY ws))) (λz=>by cases z) λ_=>Kx (hQ _ _)
 apply Kq;apply Zw (λ_ Z=>∃ws y7 y8 y9 y10,Z=[S0,S1,S2,S3,S1,S5,some (.pub (Ke ws)),y7,y8,y9,y10]/\Deal cs ls ws)
 case h1=>exact Xe (UR (U2 (ZE (UR (Ki (UR (UN rfl) (UR UT UV)) rfl hv2) UV) (Qa rfl)) (Wp (UN rfl) (Y0 UT) (Y0 UT) WD) (B7 (by omega))) UV) Xn
 case h0=>exact⟨w0,_,_,_,_,rfl,dl0⟩
 case hst=>
  rintro i d Z hi ⟨ws,y7,y8,y9,y10,rfl,dl⟩;obtain⟨x,hx,rfl⟩:=YV hi;obtain⟨c,rfl⟩:=B8 hx;rw[QX];refine⟨_,KB rfl (U4 (UW (Qa rfl) rfl) (U4 (UW (Qa rfl) rfl) KD)),?_⟩;unfold La
  let S7:Option Sl:=some (.pub (.int i))
  let S8:Option Sl:=some (.pub (.int c))
  apply Kq;refine Ks (Z1:=[S0,S1,S2,S3,S1,S5,some (.pub (Ke ws)),S7,S8,y9,y10]) (U2 (U2 (UN rfl) UT (XF (by decide))) UT Xd) (λ_=>?_) (λ_=>?_)
  ·obtain⟨r,hd,w1,rfl,dl1⟩:=HY g c (31+(i:Int));exact Zv (KI (Ki (UR (UN rfl) (UR (UN rfl) (UR (U2 UT (UN rfl) KZ) UV))) rfl hd) (Qa rfl) rfl) (Kl (rest w1 _ _ _ _ _ dl1 λ_ _=>K4 ⟨w1,_,_,_,_,rfl,dl1⟩))
  ·obtain⟨r,hd,w1,rfl,dl1⟩:=B9 g dl c (31+(i:Int));exact Zv (KI (Ki (UR (UN rfl) (UR (UN rfl) (UR (UN rfl) (UR (U2 UT (UN rfl) KZ) UV)))) rfl hd) (Qa rfl) rfl) (Kl (rest w1 _ _ _ _ _ dl1 λ_ _=>K4 ⟨w1,_,_,_,_,rfl,dl1⟩))
 case hend=>rintro Z ⟨ws,y7,y8,y9,y10,rfl,_⟩;exact Kl (Ku (Ra (t:=true) (u:=true) (Kv (Zu rfl (UN rfl) (MD (BH cs ls) (BG cs ls)))) λ_=>Kv (U2 (Zc (UR (UN rfl) UV) hrp) (UN rfl) (MD (km ga c6 l7) (by simp[UE])))) rfl)
end
end W
open PySem PySem.W PyProof.Rows
set_option maxRecDepth 100000 in
set_option maxHeartbeats 0 in
theorem PySem.Challenge.cw_wishdeal_k43_bettered_holds : PySem.Challenge.rw_wishdeal_k43_bettered.Holds := by
 w_on;o_law
 refine holds_open (q:=W.q0) (loose:=[]) (Xt:=λs=>xlAt W.q0 [] s&&recOk [] s) (XP:=XL W.q0 []) (Yf:=Hook.obs .none) (Ya:=Hook.val .none) (YP:=Hook.says .none) (N:=5412) (d:=W.d_cg) (kwd:=[])
  W.Ef (Hook.of .none) (Hook.keeps .none) (λs e=>xl_of s (Bool.and_eq_true_iff.mp e).1) XL.keeps (by rfl) (by rfl) (by rfl)
  (λs e=>recFacts_of (Bool.and_eq_true_iff.mp e).2) (by rfl) (by assumption) (by decide +kernel) ⟨rfl,rfl,rfl,rfl,rfl,by decide +kernel⟩ ?hw (W.walk W.BP)
 case hw=>w_witness2

